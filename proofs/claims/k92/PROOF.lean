import PyProof.Rows.All
import Wide.All
import OpenK.AllK
import Wide.FinOn
import PyProof.EqAt
import PyProof.EqKinds
import PyProof.TupleCall
import Lean
import PyProof.DictWalks
import PyProof.DictIter
import PyProof.P3In
import KE.KEqSeq
import PyProof.ReprLen
import PyProof.ReprRoads
import PyProof.StrOps2
import KE.KRevSl
import PyProof.IsRules
import PyProof.StrLawsIdx
import PyProof.Rows.RegRepr
import PyProof.Rows.RegFStrParts
import PyProof.DictUpdate
import PyProof.AttrMissHeap
import PyProof.Walks
import KE.KDictOf
import PyProof.EnumIter
import PyProof.EnumFor
import PyProof.LayNew
import PyProof.EnumMake
import PyProof.Draws
import PyProof.WalksT
import PyProof.TupleIter
import PyProof.WalksMore
import KE.KRevIter
import KE.KEqDict
import PyProof.Rows.SetFrom
import PyProof.StrLawsTight
import PyProof.StrLawsChain
import PyProof.SumWalk
import PyProof.Rows.SortStr
import PyProof.Rows.SortWalk
import PyProof.TupleOfSeq
import KE.KDictSum
import KE.KSortTup
import PyProof.ListRange
import PyProof.ZipIter
import PyProof.Rows.ZipGen
import KE.KItemsList
import PyProof.ExcArgsOwn
import PyProof.InstStoreFacts
import PyProof.ExcBaseAll.ValueError
import PyProof.StationsW
import PyProof.RulesAs
import PyProof.RulesDel
import PyProof.NeKinds
import PyProof.ListMulAny
import KE.KMinBuiltin
import PyProof.Rows.CallKwBuiltin
import PySem.Challenge.RW_halforder_k92_whole_sums
local macro_rules | `(tactic| eq_refl) => `(tactic| with_unfolding_all exact Or.inl rfl)
local macro_rules | `(tactic| ac_rfl) => `(tactic| with_unfolding_all exact fun _ _ => rfl)
local macro_rules | `(tactic| ac_nf) => `(tactic| with_unfolding_all rfl)
noncomputable section
local macro_rules | `(⋯) => `(by ac_nf)
local macro_rules | `(∅) => `(by decide)
local macro_rules | `(nofun) => `(by omega)
local macro_rules | `(tactic| symm) => `(tactic| walk_at "rd")
def A00:=@PySem.wpAny_bind
def A01:=@List.length_map
def A02:=@PySem.Heap.get?_push_of_some
def A03:=@List.getElem?_eq_some_iff
def A04:=@List.getElem?_eq_getElem
def A05:=@List.mem_of_getElem?
def A06:=@PySem.wpAny_pure
def A07:=@PySem.W.mg_of
def A08:=@PySem.Heap.lt_size
def A09:=@List.getElem?_map
def A0A:=@List.mem_map
def A0B:=@PySem.Heap.get?_push_size
def A0C:=@List.length_append
def A0D:=@Nat.le_refl
def A0E:=@List.length_cons
def A0F:=@List.mem_cons
def A0G:=@List.mem_append_left
def A0H:=@Nat.le_trans
def A0I:=@List.mem_append
def A0J:=@Nat.ne_of_lt
def A0K:=@Bool.false_ne_true
def A0L:=@List.mem_cons_of_mem
def A0M:=@List.map_append
def A0N:=@List.mem_filter
def A0O:=@List.length_filter_le
def A0P:=@decide_eq_false
def A0Q:=@List.mem_append_right
def A0R:=@List.map_cons
def A0S:=@decide_eq_true
def A0T:=@List.length_take
def A0U:=@List.nodup_cons
def A0V:=@PySem.PassesOwn.never
def A0W:=@List.size_toArray
def A0X:=@Bool.and_eq_true
def A0Y:=@List.take_add_one
def A0Z:=@Option.some.inj
def A10:=@if_neg
def A11:=@Nat.lt_of_lt_of_le
def A12:=@List.mem_cons_self
def A13:=@List.take_length
def A14:=@PySem.F.plainAttrs_list
def A15:=@if_pos
def A16:=@List.nodup_append
def A17:=@List.filter_cons
def A18:=@List.map_map
def A19:=@List.any_eq_true
def A1A:=@List.length_eq_zero_iff
def A1B:=@List.length_range
def A1C:=@List.filter_congr
def A1D:=@PySem.W.mg_none_of
def A1E:=@PySem.wpAny_field
def A1F:=@PySem.wpAny_holding
def A1G:=@PySem.sizeLine_eq
def A1H:=@List.length_drop
def A1I:=@List.map_congr_left
def A1J:=@PySem.Heap.get?_update_other
def A1K:=@List.mem_of_mem_take
def A1L:=@List.sum_cons
def A1M:=@PyProof.Rows.callWith_type1
def A1N:=@List.filter_append
def A1O:=@List.filter_sublist
def A1P:=@PySem.Heap.size_push
def A1Q:=@List.Nodup.sublist
def A1R:=@beq_eq_false_iff_ne
def A1S:=@PySem.W.kia_one
def A1T:=@List.lookup_cons
def A1U:=@List.mem_range
def A1V:=@PySem.wpAny_callSpecial?_slot
def A1W:=@List.flatMap_cons
def A1X:=@PySem.wpAny_Call_Name_kw
def A1Y:=@List.mem_singleton
def A1Z:=@List.append_nil
def A20:=@Int.natCast_mul
def A21:=@List.getElem_inj
def A22:=@True.intro
def A23:=@List.getElem_of_mem
def A24:=@Nat.lt_irrefl
def A25:=@PySem.wpAny_seqItems
def A26:=@Nat.ne_of_gt
def A27:=@List.length_replicate
def A28:=@List.length_singleton
def A29:=@PySem.Heap.get?_update_self
def A2A:=@PySem.wpAny_pyIter_tuple
def A2B:=@List.getElem?_set_ne
def A2C:=@List.mem_of_mem_drop
def A2D:=@PySem.wpAny_mono
def A2E:=@PySem.wpAny_newObj_type
def A2F:=@Int.toNat_of_nonneg
def A2G:=@List.filter_eq_nil_iff
def A2H:=@Array.getElem?_eq_some_iff
def A2I:=@List.perm_ext_iff_of_nodup
def A2J:=@PySem.wpAny_call_entry
def A2K:=@List.all_eq_true
def A2L:=@List.mem_flatMap
def A2M:=@List.any_cons
def A2N:=@PySem.F.slot_dict_get
def A2O:=@List.getElem?_append_left
def A2P:=@Nat.mul_le_mul
def A2Q:=@PySem.Around.under_plainId
def A2R:=@PySem.wpAny_truthy_bool
def A2S:=@Bool.eq_iff_iff
def A2T:=@beq_iff_eq
def A2U:=@PyProof.Rows.slot_tuple_getitem
def A2V:=@PySem.wpAny_pyIter_list
def A2W:=@PySem.wpAny_loadPart_at
def A2X:=@PySem.F.slot_list_append
def A2Y:=@PySem.F.type_list_append
def A2Z:=@PySem.F.slot_list_extend
def A30:=@PySem.F.type_list_extend
def A31:=@Nat.le_of_lt
def A32:=@PySem.mem_of_lookup
def A33:=@List.replicate_succ
def A34:=@List.map_take
def A35:=@PySem.Calls.spliced_cons
def A36:=@PySem.tupleKind_room_in1
def A37:=@PySem.wpAny_passesOwn
def A38:=@Nat.le_succ
def A39:=@PySem.codeAny_builtin
def A3A:=@PySem.Paired.length
def A3B:=@PySem.Calls.spliced_nil
def A3C:=@Nat.lt_succ_of_lt
def A3D:=@List.getD_eq_getElem?_getD
def A3E:=@PySem.W.looks_findIn
def A3F:=@Nat.lt_succ_self
def A3G:=@PySem.codeAny_mono
def A3H:=@PySem.wpAny_typeOf
def A3I:=@Or.inr
def A3J:=@PySem.W.callWith_K
def A3K:=@PySem.F.plainAttrs_dict
def A3L:=@PySem.wpAny_getItem_str_slice
def A3M:=@PySem.plainId_quiet
def A3N:=@decide_eq_true_iff
def A3O:=@PySem.W.tail_of_in
def A3P:=@Int.emod_lt_of_pos
def A3Q:=@List.getElem?_set_self
def A3R:=@PySem.Calls.callWith_builtin
def A3S:=@PySem.F.entry_dict_get
def A3T:=@List.take_of_length_le
def A3U:=@Nat.zero_le
def A3V:=@Nat.one_mul
def A3W:=@Array.getElem?_toList
def A3X:=@Nat.mul_comm
def A3Y:=@PySem.call_meetsIn
def A3Z:=@List.getElem?_toArray
def A40:=@PySem.Obj.isFreed_of_fields
def A41:=@List.mem_iff_getElem?
def A42:=@Nat.min_le_right
def A43:=@Nat.pow_le_pow_right
def A44:=@List.reverse_reverse
def A45:=@PySem.call_meets
def A46:=@PySem.W.looks_clsIn
def A47:=@List.of_mem_zip
def A48:=@Array.length_toList
def A49:=@List.nil_append
def A4A:=@List.length_nil
def A4B:=@Nat.add_mul
def A4C:=@Int.emod_nonneg
def A4D:=@List.lookup_append
def A4E:=@PySem.Obj.data_mapFields
def A4F:=@List.pairwise_cons
def A4G:=@List.getElem?_take
def A4H:=@Bool.and_false
def A4I:=@PySem.wpAny_rule
def A4J:=@PySem.wpAny_call
def A4K:=@List.take_sublist
def A4L:=@List.flatten_cons
def A4M:=@List.append_assoc
def A4N:=@of_decide_eq_true
def A4O:=@PySem.wpAny_pyIter_enum
def A4P:=@List.idxOf_lt_length_iff
def A4Q:=@List.Nodup.idxOf_getElem
def A4R:=@PySem.wpAny_standAt
def A4S:=@List.getElem?_replicate
def A4T:=@List.map_drop
def A4U:=@PySem.wpAny_attempt
def A4V:=@List.getElem_mem
def A4W:=@PySem.wpAny_isInstance
def A4X:=@PySem.wpAny_execs_nil
def A4Y:=@List.foldl_cons
def A4Z:=@Option.map_some
def A50:=@PySem.post_val_or_str
def A51:=@List.getElem?_eq_none
def A52:=@PySem.builtinLookup_eq_fast
def A53:=@PySem.wpAny_notOrdered_dict
def A54:=@List.range_succ
def A55:=@List.sum_append
def A56:=@PySem.Calls.evalArgs_plain
def A57:=@PySem.codeAny_call_builtin
def A58:=@PySem.W.plainGet_of
def A59:=@List.getElem?_range
def A5A:=@List.flatMap_append
def A5B:=@List.filter_eq_self
def A5C:=@PySem.wpAny_isSubtype_exc
def A5D:=@PySem.W.looks_mroIn
def A5F:=@PySem.W.Looks.here
def A5G:=@Bool.false_or
def A5H:=@List.filter_filter
def A5I:=@PySem.Code.quiet_builtin
def A5J:=@List.getElem_idxOf
def A5K:=@PySem.wpAny_onRaise
def A5L:=@List.contains_cons
set_option linter.all false
set_option maxRecDepth 100000
set_option maxHeartbeats 4000000
set_option Elab.async false
set_option compiler.extract_closed false
namespace L2
open PySem PySem.Spec PyProof.Rows
abbrev Key:=Sum Int Str
def Pm:Key->Value->Bool
 |.inl k,v=>Value.isInt k v
 |.inr x,v=>Value.isStrOf x v
def keyH (w:World):Key->Int
 |.inl k=>hashInt k
 |.inr x=>hashStr w x
theorem C7:∀ {k:Key} {v:Value},Pm k v=true->(∃ i t,k=Sum.inl i/\v=Value.int i t)\/(∃ x t,k=Sum.inr x/\v=Value.str x t)
 |.inl i,v,h=>by obtain⟨t,e⟩:=Value.isInt_shape (k:=i) (v:=v) h;exact .inl ⟨i,t,rfl,e⟩
 |.inr x,v,h=>by obtain⟨t,e⟩:=Value.isStrOf_shape (x:=x) (v:=v) h;exact .inr ⟨x,t,rfl,e⟩
theorem af4 (i:Int)(t:Tok):Pm (.inl i) (.int i t)=true:=by simp[Pm,Value.isInt]
theorem Vc (x:Str)(t:Tok):Pm (.inr x) (.str x t)=true:=by simp[Pm,Value.isStrOf]
theorem aG1 (a b:Int):decide ((Sum.inl a:Key)=Sum.inl b)=(a==b):=by
 by_cases e:a=b
 . subst e;simp
 have h:¬ (Sum.inl a:Key)=Sum.inl b:=λq=>e (Sum.inl.inj q);rw[A0P h];exact(A1R.mpr e).symm
theorem aK8 (a b:Str):decide ((Sum.inr a:Key)=Sum.inr b)=decide (a=b):=by
 by_cases e:a=b
 . subst e;simp
 have h:¬ (Sum.inr a:Key)=Sum.inr b:=λq=>e (Sum.inr.inj q);rw[A0P h,A0P e]
theorem aL4 (a:Int)(b:Str):decide ((Sum.inl a:Key)=Sum.inr b)=false:=A0P (λq=>nomatch q)
theorem aE3 (a:Str)(b:Int):decide ((Sum.inr a:Key)=Sum.inl b)=false:=A0P (λq=>nomatch q)
def Ay (prog:Program)(w:World):PySem.KeyKind prog w Key where
 is:=Pm
 hash:=keyH w
 inj:=λv a b ha hb=>by
  rcases C7 ha with ⟨i,t,rfl,rfl⟩|⟨x,t,rfl,rfl⟩
  . rcases C7 hb with ⟨j,u,rfl,e⟩|⟨y,u,rfl,e⟩
    . injection e with e1 _;rw[e1]
    exact nomatch e
  rcases C7 hb with ⟨j,u,rfl,e⟩|⟨y,u,rfl,e⟩
  . exact nomatch e
  injection e with e1 _;rw[e1]
 byValue:=λk v h=>by rcases C7 h with ⟨i,t,rfl,rfl⟩|⟨x,t,rfl,rfl⟩<;>rfl
 pyHash:=λhv h=>by
  rcases C7 hv with ⟨i,t,rfl,rfl⟩|⟨x,t,rfl,rfl⟩
  . exact wpAny_pyHash_int h
  exact wpAny_pyHash_str h
 eqBool:=λhu hv h=>by
  rcases C7 hu with ⟨i,t,rfl,rfl⟩|⟨x,t,rfl,rfl⟩
  . rcases C7 hv with ⟨j,u,rfl,rfl⟩|⟨y,u,rfl,rfl⟩
    . rw[aG1] at h;exact wpAny_eqBool_int h
    rw[aL4] at h;exact SeqAt.EqAt.int_str i t y u _ _ _ _ h
  rcases C7 hv with ⟨j,u,rfl,rfl⟩|⟨y,u,rfl,rfl⟩
  . rw[aE3] at h;exact SeqAt.EqAt.str_int x t j u _ _ _ _ h
  rw[aK8] at h;exact wpAny_eqBool_str h
 «strs»:=λk x t v h=>by
  rcases C7 h with ⟨i,u,rfl,e⟩|⟨y,u,rfl,e⟩
  . exact nomatch e
  injection e with e1 _;subst e1
  cases v<;>rfl
theorem Wd (prog:Program)(w:World)(i:Int)(t:Tok):(Ay prog w).is (.inl i) (.int i t)=true:=af4 i t
theorem Wa (prog:Program)(w:World)(x:Str)(t:Tok):(Ay prog w).is (.inr x) (.str x t)=true:=Vc x t
inductive V where
 |non | bl (b:Bool) | int (i:Int) | str (x:Str) | byt (b:Array UInt8) | flt (b:UInt64) | ref (a:Addr) | ty (n:String)
 deriving DecidableEq
def RelV:V->Value->Prop
 |.non,u=>u=Value.none
 |.bl b,u=>u=Value.bool b
 |.int i,u=>∃ t,u=Value.int i t
 |.str x,u=>∃ t,u=Value.str x t
 |.byt b,u=>∃ t,u=Value.bytes b t
 |.flt b,u=>∃ t,u=Value.float b t
 |.ref a,u=>u=Value.ref a
 |.ty n,u=>u=Value.type n
abbrev Vals:List V->List Value->Prop:=Paired RelV
theorem Vals.length {xs:List V} {us:List Value} (r:Vals xs us):xs.length=us.length:=A3A r
theorem Vals.get:∀ {xs:List V} {us:List Value} {i:Nat} {x:V},Vals xs us->xs[i]? = some x->∃ u,us[i]? = some u/\RelV x u
 |_,_,_,_,.nil,e=>by simp at e
 |_,_,0,_,.cons r _,e=>by simp at e;subst e;exact⟨_,rfl,r⟩
 |_,_,i+1,x,.cons _ t,e=>by obtain⟨u,h1,h2⟩:=Vals.get (i:=i) (x:=x) t (by simpa using e);exact⟨u,by simpa using h1,h2⟩
theorem Vals.append:∀ {xs ys:List V} {us ws:List Value},Vals xs us->Vals ys ws->Vals (xs++ys) (us++ws)
 |_,_,_,_,.nil,s=>s
 |_,_,_,_,.cons r t,s=>.cons r (Vals.append t s)
theorem Vals.take:∀ {xs:List V} {us:List Value} (n:Nat),Vals xs us->Vals (xs.take n) (us.take n)
 |_,_,0,_=>.nil
 |_,_,_+1,.nil=>.nil
 |_,_,n+1,.cons r t=>.cons r (Vals.take n t)
theorem Vals.drop:∀ {xs:List V} {us:List Value} (n:Nat),Vals xs us->Vals (xs.drop n) (us.drop n)
 |_,_,0,r=>r
 |_,_,_+1,.nil=>.nil
 |_,_,n+1,.cons _ t=>Vals.drop n t
def RelO:Option V->Option Value->Prop
 |some v,some u=>RelV v u
 |none,none=>True
 |_,_=>False
def KV {κ:Type}:List (κ×V)->List (κ×Value)->Prop:=Paired λ(p:κ×V) (q:κ×Value)=>p.1=q.1/\RelV p.2 q.2
def kV:Key->V
 |.inl i=>.int i
 |.inr x=>.str x
def IsTupN (h:Heap)(a:Addr)(items:Array Value):Prop:=∃ o,h.get? a=some o/\o.cls = .type "tuple" /\ (∃ n,o.data = .seq items n)/\o.dict=none
theorem IsTupN.tup {h:Heap}{a:Addr}{items:Array Value}(x:IsTupN h a items):IsTup h a items:=let ⟨o,h1,h2,⟨n,h3⟩,_⟩:=x;⟨o,h1,h2,n,h3⟩
theorem IsTupN.new (h:Heap)(its:Array Value):IsTupN (h.push {cls:=.type "tuple",data:=.seq its}) h.objs.size its:=⟨_,A0B _ rfl,rfl,⟨_,rfl⟩,rfl⟩
inductive HO where
 |lst (xs:List V)
 |tup (xs:List V)
 |dK (kvs:List (Key×V)) | dT (kvs:List (List Key×V))
 |set (S:Int->Bool) (n:Nat)
 |ins (C dx:Addr) (fs:List (Str×V))
 |own (x:Addr)
 |xd (fs:List (Str×V))
 |met (f x:Addr)
 |rng (lo hi:Int)
 |frz (o:Obj) (u:HO)
 |tbl (ps:Array Value)
 |ext (φ:Heap->Prop)
abbrev Hp:=Addr->Option HO
def upd (H:Hp)(a:Addr)(o:HO):Hp:=λb=>if b=a then some o else H b
theorem Ad {H:Hp}{a:Addr}{o:HO}:upd H a o a=some o:=by unfold upd;rw[if_pos rfl]
theorem Az {H:Hp}{a b:Addr}{o:HO}(h:b≠a):upd H a o b=H b:=by unfold upd;rw[if_neg h]
theorem ne_of {H:Hp}{a b:Addr}{o u:HO}(h:H a=some o)(h':H b=some u)(d:o≠u):a≠b:=by intro e;subst e;rw[h] at h';exact d (A0Z h')
theorem ne_of_none {H:Hp}{a b:Addr}{o:HO}(h:H a=some o)(h':H b=none):a≠b:=by intro e;subst e;rw[h] at h';cases h'
section
variable (P:Program)(w:World)
def ObjOk (H:Hp)(h:Heap)(a:Addr):HO->Prop
 |.lst xs=>xs.length<=sizeLine/\∃(its:List Value) (n:Nat),Vals xs its/\h.get? a=some {cls:=.type "list",data:=.seq its.toArray n}
 |.tup xs=>xs.length<=sizeLine/\∃ its:List Value,Vals xs its/\IsTupN h a its.toArray
 |.dK kvs=>kvs.length<=sizeLine/\(a==sysModules)=false/\∃ vs,KV kvs vs/\h.DictOf (Ay P w) a vs
 |.dT kvs=>kvs.length<=sizeLine/\(a==sysModules)=false/\∃ xs:List (List Key×Addr×Value),
   Paired (λ(p:List Key×V) (q:List Key×Addr×Value)=>p.1=q.1/\H q.2.1=some (.tup (p.1.map kV))/\RelV p.2 q.2.2) kvs xs /\
   ∃ o es ep,h.get? a=some o/\o.ExactDict/\o.data = .dict es ep/\es.toList=xs.map (entryOfKey (tupleKind (Ay P w)))/\(xs.map (·.1)).Nodup
 |.set S n=>h.SetOf (intKind P w) a S n
 |.ins C dx fs=>H dx=some (.own a)/\fs.length<=1000/\dx≠a/\h.get? a=some (W.instObj C dx) /\
   ∃ mA,h.Ns1 dx mA/\(∀ f,RelO (fs.lookup f) (mA f))/\PySem.Within mA (fs.map (·.1))
 |.own _=>∃ o,h.get? a=some o
 |.xd fs=>∃ mA,h.Ns1 a mA/\∀ f,RelO (fs.lookup f) (mA f)
 |.rng lo hi=>∃ t u v,h.get? a=some {cls:=.type "range",data:=.fields #[.int lo t,.int hi u,.int 1 v]}
 |.frz o u=>h.get? a=some o/\ObjOk H h a u
 |.tbl ps=>h.get? a=some {cls:=.none,data:=.fields ps}
 |.met f x=>h.get? a=some (W.methodObj (.ref f) (.ref x))
 |.ext φ=>φ h/\(∃ o,h.get? a=some o)/\∀ h1 h2:Heap,φ h1->(∀ o,h1.get? a=some o->h2.get? a=some o)->φ h2
def HOk (H:Hp)(h:Heap):Prop:=∀ a o,H a=some o->ObjOk P w H h a o
end
section
variable {P:Program}{w:World}{H H':Hp}{h h':Heap}{a:Addr}{o:HO}
theorem ObjOk.lt (x:ObjOk P w H h a o):a<h.objs.size:=by
 cases o with
 |lst xs=>obtain⟨_,_,_,_,e⟩:=x;exact A08 e
 |tup xs=>obtain⟨_,_,_,p⟩:=x;exact p.tup.lt
 |dK kvs=>obtain⟨_,_,_,_,o,_,_,e,_⟩:=x;exact A08 e
 |dT kvs=>obtain⟨_,_,_,_,o,_,_,e,_⟩:=x;exact A08 e
 |set S n=>obtain⟨o,_,_,_,e,_⟩:=x;exact A08 e
 |ins C dx fs=>obtain⟨_,_,_,e,_⟩:=x;exact A08 e
 |own y=>obtain⟨_,e⟩:=x;exact A08 e
 |xd fs=>obtain⟨_,⟨_,_,_,e,_⟩,_⟩:=x;exact A08 e
 |rng lo hi=>obtain⟨_,_,_,e⟩:=x;exact A08 e
 |frz ob u=>obtain⟨e,_⟩:=x;exact A08 e
 |tbl ps=>exact A08 (show h.get? a=some _ from x)
 |met f y=>exact A08 (show h.get? a=some _ from x)
 |ext φ=>obtain⟨_,⟨_,e⟩,_⟩:=x;exact A08 e
theorem Paired.mapP {α β:Type}{F G:α->β->Prop}:∀ {l₁:List α} {l₂:List β},Paired F l₁ l₂->(∀ a b,F a b->G a b)->Paired G l₁ l₂
 |_,_,.nil,_=>.nil
 |_,_,.cons r t,f=>.cons (f _ _ r) (Paired.mapP t f)
theorem ObjOk.stay (x:ObjOk P w H h a o)(k:∀ b u,(b=a\/H b=some (.own a))->h.get? b=some u->h'.get? b=some u)
  (ho:∀ b,H b=some (.own a)->H' b=some (.own a)) (ht:∀ b xs,H b=some (.tup xs)->H' b=some (.tup xs)):ObjOk P w H' h' a o:=by
 induction o with
 |lst xs=>obtain⟨z,its,n,r,e⟩:=x;exact⟨z,its,n,r,k _ _ (.inl rfl) e⟩
 |tup xs=>obtain⟨z,its,r,ob,e,c⟩:=x;exact⟨z,its,r,ob,k _ _ (.inl rfl) e,c⟩
 |dK kvs=>obtain⟨z,y,vs,r,ob,es,ep,e,c⟩:=x;exact⟨z,y,vs,r,ob,es,ep,k _ _ (.inl rfl) e,c⟩
 |dT kvs=>obtain⟨z,y,xs,r,ob,es,ep,e,c⟩:=x;exact⟨z,y,xs,Paired.mapP r λp q z=>⟨z.1,ht _ _ z.2.1,z.2.2⟩,ob,es,ep,k _ _ (.inl rfl) e,c⟩
 |set S n=>obtain⟨ob,es,ep,t,e,c⟩:=x;exact⟨ob,es,ep,t,k _ _ (.inl rfl) e,c⟩
 |ins C dx fs=>obtain⟨d,z,ne,e,mA,⟨od,es,ep,e2,c⟩,r⟩:=x;exact⟨ho _ d,z,ne,k _ _ (.inl rfl) e,mA,⟨od,es,ep,k _ _ (.inr d) e2,c⟩,r⟩
 |own y=>obtain⟨ob,e⟩:=x;exact⟨ob,k _ _ (.inl rfl) e⟩
 |xd fs=>obtain⟨mA,⟨od,es,ep,e,c⟩,r⟩:=x;exact⟨mA,⟨od,es,ep,k _ _ (.inl rfl) e,c⟩,r⟩
 |rng lo hi=>obtain⟨t,u,v,e⟩:=x;exact⟨t,u,v,k _ _ (.inl rfl) e⟩
 |frz ob u ih=>obtain⟨e,q⟩:=x;exact⟨k _ _ (.inl rfl) e,ih q⟩
 |tbl ps=>have e:h.get? a=some {cls:=.none,data:=.fields ps}:=x;show h'.get? a=some {cls:=.none,data:=.fields ps};exact k a _ (.inl rfl) e
 |met f y=>have e:h.get? a=some (W.methodObj (.ref f) (.ref y)):=x;show h'.get? a=some (W.methodObj (.ref f) (.ref y));exact k a _ (.inl rfl) e
 |ext φ=>obtain⟨p,⟨o,e⟩,st⟩:=x;exact⟨st _ _ p λo q=>k _ _ (.inl rfl) q,⟨o,k _ _ (.inl rfl) e⟩,st⟩
theorem HOk.lt (x:HOk P w H h)(e:H a=some o):a<h.objs.size:=(x a o e).lt
theorem HOk.fresh (x:HOk P w H h)(e:h.objs.size<=a):H a=none:=by
 cases q:H a with
 |none=>rfl
 |some u=>exact absurd (A11 (x.lt q) e) (A24 _)
theorem HOk.kept (x:HOk P w H h)(k:∀ b u,h.get? b=some u->h'.get? b=some u):HOk P w H h':=λa o e=>
 (x a o e).stay (λb u _ q=>k b u q) (λ_ q=>q) λ_ _ q=>q
theorem HOk.laid (x:HOk P w H h)(k:∀ b u,h.get? b=some u->h'.get? b=some u)(hp:h.objs.size<=a)(new:ObjOk P w (upd H a o) h' a o):HOk P w (upd H a o) h':=λb u e=>by
 have hn:=x.fresh hp
 by_cases hb:b=a
 . subst hb;rw[Ad] at e;cases e;exact new
 rw[Az hb] at e;exact(x b u e).stay (λc v _ q=>k c v q) (λc q=>by rw[Az (ne_of_none q hn)];exact q) λc xs q=>by rw[Az (ne_of_none q hn)];exact q
end
def Rd (H:Hp)(a:Addr)(u:HO):Prop:=H a=some u\/∃ o,H a=some (.frz o u)
theorem Rd.ok {P:Program}{w:World}{H:Hp}{h:Heap}{a:Addr}{u:HO}(r:Rd H a u)(x:HOk P w H h):ObjOk P w H h a u:=by
 rcases r with r|⟨o,r⟩
 . exact x a u r
 obtain⟨_,q⟩:=x a _ r;exact q
def Mut:Option HO->Prop
 |some (.lst _)=>True
 |some (.dK _)=>True
 |some (.dT _)=>True
 |some (.set _ _)=>True
 |some (.ins _ _ _)=>True
 |some (.ext _)=>True
 |_=>False
section
variable {P:Program}{w:World}{H:Hp}{h h':Heap}{x e:Addr}{o':HO}
theorem HOk.write (ok:HOk P w H h)(mu:Mut (H x))(he:e=x\/H e=some (.own x))(k:∀ b u,b≠e->h.get? b=some u->h'.get? b=some u)(heo:∃ u,h'.get? e=some u)
  (new:ObjOk P w (upd H x o') h' x o'):HOk P w (upd H x o') h':=λb u q=>by
 have nown:∀ c y,H c=some (.own y)->c≠x:=λc y r z=>by subst z;rw[r] at mu;exact mu
 have ntup:∀ c xs,H c=some (.tup xs)->c≠x:=λc xs r z=>by subst z;rw[r] at mu;exact mu
 by_cases hb:b=x
 . subst hb;rw[Ad] at q;cases q;exact new
 rw[Az hb] at q
 by_cases hbe:b=e
 . have q':H b=some (.own x):=by
    rcases he with z|z
    . exact absurd (hbe.trans z) hb
    rw[hbe];exact z
   rw[q] at q';cases q';obtain⟨v,hv⟩:=heo;exact⟨v,by rw[hbe];exact hv⟩
 refine(ok b u q).stay (λc v hc r=>k c v ?_ r) (λc r=>by rw[Az (nown c b r)];exact r) λc xs r=>by rw[Az (ntup c xs r)];exact r
 rcases hc with rfl|hc
 . exact hbe
 rintro rfl;rcases he with z|z
 . exact nown c b hc z
 rw[hc] at z;cases z;exact hb rfl
end
structure Un (fs ex:List Addr)(H H':Hp)(h h':Heap):Prop where
 keep:∀ b o,h.get? b=some o->H b=none->b∉fs->b∉ex->h'.get? b=some o
 slot:∀ b o,h.get? b=some o->H b=none->b∈fs->b∉ex->∃ sl,h'.get? b=some {o with slots:=sl}
 free:∀ b o,h.get? b=some o->H b=none->b∉ex->H' b=none
 there:∀ b o,h.get? b=some o->b∉ex->∃ o',h'.get? b=some o'
 tups:∀ b xs,H b=some (.tup xs)->H' b=some (.tup xs)
 frzs:∀ b o u,H b=some (.frz o u)->H' b=some (.frz o u)
 tbls:∀ b ps,H b=some (.tbl ps)->∃ more,H' b=some (.tbl (ps++more))
section
variable {fs fs' ex ex':List Addr}{H H1 H2:Hp}{h h1 h2 h':Heap}{a x e:Addr}{o:HO}
theorem Un.any (u:Un fs ex H H1 h h1){b:Addr}{ob:Obj}(q:h.get? b=some ob)(n:H b=none)(hx:b∉ex):∃ sl,h1.get? b=some {ob with slots:=sl}:=by
 by_cases hb:b∈fs
 . exact u.slot b ob q n hb hx
 exact⟨ob.slots,u.keep b ob q n hb hx⟩
theorem Un.kept (k:∀ b u,h.get? b=some u->h'.get? b=some u):Un fs ex H H h h':=
 ⟨λb ob q _ _ _=>k b ob q,λb ob q _ _ _=>⟨ob.slots,k b ob q⟩,λ_ _ _ n _=>n,λb ob q _=>⟨ob,k b ob q⟩,λ_ _ q=>q,λ_ _ _ q=>q,λ_ ps q=>⟨#[],by rw[q];simp⟩⟩
theorem Un.refl:Un fs ex H H h h:=Un.kept λ_ _ q=>q
theorem Un.laid (k:∀ b u,h.get? b=some u->h'.get? b=some u)(hp:h.objs.size<=a)(hn:H a=none):Un fs ex H (upd H a o) h h' where
 keep:=λb u q _ _ _=>k b u q
 slot:=λb u q _ _ _=>⟨u.slots,k b u q⟩
 free:=λb u q n _=>by rw[Az (A0J (A11 (A08 q) hp))];exact n
 there:=λb u q _=>⟨u,k b u q⟩
 tups:=λb xs q=>by rw[Az (ne_of_none q hn)];exact q
 frzs:=λb u xs q=>by rw[Az (ne_of_none q hn)];exact q
 tbls:=λb ps q=>⟨#[],by rw[Az (ne_of_none q hn),q];simp⟩
theorem Un.write (mu:Mut (H x))(he:e=x\/H e=some (.own x))(k:∀ b u,b≠e->h.get? b=some u->h'.get? b=some u)(heo:∃ u,h'.get? e=some u):Un fs ex H (upd H x o) h h':=by
 have hx:∀ b,H b=none->b≠x:=λb n z=>by subst z;rw[n] at mu;exact mu
 have hb:∀ b,H b=none->b≠e:=λb n z=>by
  subst z;rcases he with r|r
  . exact hx b n r
  rw[n] at r;cases r
 have hm:∀ b u,H b=some u->¬ Mut (some u)->b≠x:=λb u q nm z=>by subst z;rw[q] at mu;exact nm mu
 refine⟨λb u q n _ _=>k b u (hb b n) q,λb u q n _ _=>⟨u.slots,k b u (hb b n) q⟩,λb u q n _=>by rw[Az (hx b n)];exact n,λb u q _=>?_,
  λb xs q=>by rw[Az (hm b _ q λz=>z)];exact q,λb u xs q=>by rw[Az (hm b _ q λz=>z)];exact q,λb ps q=>⟨#[],by rw[Az (hm b _ q λz=>z),q];simp⟩⟩
 by_cases hbe:b=e
 . subst hbe;exact heo
 exact⟨u,k b u hbe q⟩
end
def trk (h:Heap)(H:Hp):List Addr:=(List.range h.objs.size).filter λa=>(H a).isSome
def am1 (h:Heap)(H:Hp):Heap:=W.hideAll h (trk h H)
theorem ac7 (h:Heap)(H:Hp):(am1 h H).objs.size=h.objs.size:=W.hideAll_size _ _
theorem ag6 {h:Heap}{H:Hp}{b:Addr}{o:Obj}(e:h.get? b=some o)(n:H b=none):(am1 h H).get? b=some o:=
 W.hideAll_get _ e λhm=>by have q:(H b).isSome=true:=(A0N.mp hm).2;rw[n] at q;simp at q
theorem aB0 {h:Heap}{H:Hp}{b:Addr}{o:Obj}(e:(am1 h H).get? b=some o):h.get? b=some o/\H b=none:=by
 have e':h.get? b=some o:=W.of_hideAll (trk h H) e;refine⟨e',?_⟩
 cases q:H b with
 |none=>rfl
 |some x=>have hm:b∈trk h H:=List.mem_filter.mpr ⟨List.mem_range.mpr (Heap.lt_size e'),by simp[q]⟩;have z:(am1 h H).get? b=none:=W.hideAll_none (trk h H) hm;rw[z] at e;cases e
def au4 (g h:Heap)(L:Addr):List (Addr×Obj):=(List.range h.objs.size).filterMap λa=>if a=L\/(g.get? a).isSome=true then none else(h.get? a).map λo=>(a,o)
def rest (g h:Heap)(L d:Addr):List (Addr×Obj):=(au4 g h L).filter λp=>decide (p.1≠d)
structure Mod (K:W.Frag)(mg:Str->Option Value)(base:Heap):Prop where
 kin:K.In base
 glob:base.Ns mainGlobals mg
 blt:∃ mb,base.Ns builtinsNs mb/\∀ x:Str,x ≠ "__name__" -> mb x=bootBuiltins x
 nolimit:base.NoLimit
/-- the context: a def's body (or a comprehension's block) running. base: fixed through the whole law;s₀,H₀: the entry;outer: the frames whose slots others may change (a def's callers);stack: all frames that run;
  ex: iterators that were made ahead of the entry and are walked here (a comprehension's);fn: the names whose cells were made at the entry (a def: all;a comprehension's block: its own);calm: not within an except suite;pn: pins that every state bears;xe: what is wanted of an exception that leaves the code -/
structure Cx where
 prog:Program
 w:World
 K:W.Frag
 mg:Str->Option Value
 base:Heap
 A:Around
 N:List Str
 s₀:Shared
 H₀:Hp
 env:Env
 outer:List Env
 stack:List Env
 ex:List Addr
 fn:Str->Bool
 calm:Bool
 pn:List (Addr×Obj)
 xe:Value->Shared->Prop
def frs (l:List Env):List Addr:=l.filterMap (·.frame)
abbrev Cx.fs (X:Cx):List Addr:=frs X.outer
def Vis (sc:Scope)(x:Str):Prop:=sc.names.lookup x=some .local\/sc.names.lookup x=some .cell\/sc.names.lookup x=some .free
def Loc (sc:Scope)(x:Str):Prop:=sc.names.lookup x=some .local\/sc.names.lookup x=some .cell
def Look (env:Env)(h:Heap)(m:Str->Option Value)(x:Str)(u:Value):Prop:=
 (env.kindOf x=some .local/\m x=some u)\/((env.kindOf x=some .cell\/env.kindOf x=some .free)/\∃ c,env.cells.lookup x=some c/\h.IsCell c (some u))
structure Cx.Ok (X:Cx):Prop where
 mod:Mod X.K X.mg X.base
 kind:X.env.scope.kind = .function
 glob:X.env.globals=mainGlobals
 blt:X.env.builtins=builtinsNs
 above:X.s₀.heap.objs.size<=X.env.locals
 inj:∀ x y c,X.env.cells.lookup x=some c->X.env.cells.lookup y=some c->x=y
 has:∀ x,(X.env.kindOf x=some .cell\/X.env.kindOf x=some .free)->∃ c,X.env.cells.lookup x=some c
 cab:∀ x c,X.fn x=true->X.env.cells.lookup x=some c->X.s₀.heap.objs.size<=c
 hd:X.calm=true->X.A.handled=none
 frames:X.A.frames=some X.stack
 stk:X.stack=X.outer\/(X.stack=X.env :: X.outer/\X.env.frame=some X.env.locals)
 exf:∀ b∈X.ex,b≠X.env.locals/\∀ x c,X.env.cells.lookup x=some c->c≠b
 bs:∀ b o,X.base.get? b=some o->X.s₀.heap.get? b=some o/\X.H₀ b=none
 bsz:X.base.objs.size<=X.s₀.heap.objs.size
 noex:∀ b o,X.base.get? b=some o->b∉X.ex
 exfs:∀ b∈X.ex,b∉X.fs
 funs:X.s₀.heap.FunFrames X.base X.outer
 frf:∀ b∈X.fs,X.H₀ b=none
structure Inv (X:Cx)(pins:List (Addr×Obj))(σ:List (Option V))(H:Hp)(s:Shared):Prop where
 ok:X.Ok
 os:s.os=X.s₀.os
 bare:AllBare s.gens
 base:Un X.fs X.ex X.H₀ H X.s₀.heap s.heap
 loc:∃ m,s.heap.Ns X.env.locals m/\∀(i:Nat) (x:Str) (v:V),X.N[i]? = some x->σ[i]? = some (some v)->Vis X.env.scope x->∃ u,RelV v u/\Look X.env s.heap m x u
 cell:∀ x c,X.env.cells.lookup x=some c->∃ v,s.heap.IsCell c v
 free:H X.env.locals=none
 freeC:∀ x c,X.env.cells.lookup x=some c->H c=none
 pin:∀ p∈X.pn++pins,s.heap.get? p.1=some p.2/\H p.1=none/\p.1≠X.env.locals/\p.1∉X.fs/\∀ v,p.2.data ≠ .cell v
 hok:HOk X.prog X.w H s.heap
 len:σ.length=X.N.length
section
variable {X:Cx}{pins:List (Addr×Obj)}{σ:List (Option V)}{H H':Hp}{s:Shared}{h':Heap}
theorem Cx.Ok.nofr (ok:X.Ok){b:Addr}{o:Obj}(e:X.base.get? b=some o):b∉X.fs:=λhb=>by have:=(ok.funs.mem hb).1;rw[e] at this;cases this
theorem Inv.bs (I:Inv X pins σ H s):∀ b o,X.base.get? b=some o->s.heap.get? b=some o/\H b=none:=λb o e=>
 ⟨I.base.keep b o (I.ok.bs b o e).1 (I.ok.bs b o e).2 (I.ok.nofr e) (I.ok.noex b o e),I.base.free b o (I.ok.bs b o e).1 (I.ok.bs b o e).2 (I.ok.noex b o e)⟩
theorem Inv.bk (I:Inv X pins σ H s):∀ b o,X.base.get? b=some o->s.heap.get? b=some o:=λb o e=>(I.bs b o e).1
theorem Inv.mod (I:Inv X pins σ H s):Mod X.K X.mg X.base:=I.ok.mod
theorem Inv.kIn (I:Inv X pins σ H s):X.K.In s.heap:=I.ok.mod.kin.keeps I.bk
theorem Inv.lt (I:Inv X pins σ H s):X.env.locals<s.heap.objs.size:=let ⟨_,hn,_⟩:=I.loc;hn.lt
theorem Inv.sz (I:Inv X pins σ H s):X.s₀.heap.objs.size<=s.heap.objs.size:=A0H I.ok.above (A31 I.lt)
theorem Inv.nofs (I:Inv X pins σ H s){a:Addr}(h:s.heap.objs.size<=a):a∉X.fs:=λhb=>by obtain⟨_,o,ho,_⟩:=I.ok.funs.mem hb;exact absurd (A11 (A08 ho) (A0H I.sz h)) (A24 _)
theorem Inv.cne (I:Inv X pins σ H s):∀ x c,X.env.cells.lookup x=some c->c≠X.env.locals:=λx c e z=>by obtain⟨v,o,ho,hd⟩:=I.cell x c e;obtain⟨m,⟨o',es,ep,ho',hd',_⟩,_⟩:=I.loc;rw[z,ho'] at ho;cases ho;rw[hd'] at hd;cases hd
theorem Inv.funs (I:Inv X pins σ H s):s.heap.FunFrames X.base X.outer:=by
 have all:∀(l:List Env),(∀ b∈frs l,b∈X.fs)->X.s₀.heap.FunFrames X.base l->s.heap.FunFrames X.base l:=by
  intro l
  induction l with
  |nil=>intro _ _;trivial
  |cons env r ih=>intro hs hl;obtain⟨hk,⟨L,o,hf,hn,ho,hd⟩,hr⟩:=hl;have hL:L∈X.fs:=hs L (by unfold frs;rw[List.filterMap_cons,hf];exact List.mem_cons_self);obtain⟨sl,e⟩:=I.base.slot L o ho (I.ok.frf L hL) hL λz=>I.ok.exfs L z hL;exact⟨hk,⟨L,_,hf,hn,e,hd⟩,ih (λb hb=>hs b (by unfold frs;rw[List.filterMap_cons,hf];exact List.mem_cons_of_mem _ hb)) hr⟩
 exact all X.outer (λ_ hb=>hb) I.ok.funs
theorem Inv.stack (I:Inv X pins σ H s):s.heap.FunFrames X.base X.stack:=by
 rcases I.ok.stk with e|⟨e,hf⟩
 . rw[e];exact I.funs
 rw[e];obtain⟨m,hn,_⟩:=I.loc;refine .cons (by rw[I.ok.kind];decide) hf hn ?_ I.funs;exact Heap.get?_none_of_le (A0H I.ok.bsz I.ok.above)
theorem Inv.stkSub (I:Inv X pins σ H s):∀ b∈frs X.stack,b∈X.env.locals :: X.fs:=λb hb=>by
 rcases I.ok.stk with e|⟨e,hf⟩
 . rw[e] at hb;exact A0L _ hb
 rw[e] at hb;unfold frs at hb;rw[List.filterMap_cons,hf] at hb;exact hb
theorem Inv.stkFree (I:Inv X pins σ H s):∀ b∈frs X.stack,H b=none:=λb hb=>by
 rcases A0F.mp (I.stkSub b hb) with e|hb
 . rw[e];exact I.free
 obtain⟨_,o,ho,_⟩:=I.ok.funs.mem hb;exact I.base.free b o ho (I.ok.frf b hb) λz=>I.ok.exfs b z hb
theorem Inv.step {g':Array GenState}{t':Nat}{d':Drawn}{ch:List Addr}(I:Inv X pins σ H s)
  (hch:∀ b∈ch,(b∈X.ex\/X.s₀.heap.objs.size<=b)/\b≠X.env.locals/\(∀ x c,X.env.cells.lookup x=some c->c≠b)/\∀ p∈X.pn++pins,p.1≠b)
  (keep:∀ b o,b≠X.env.locals->b∉X.fs->b∉ch->s.heap.get? b=some o->H b=none->h'.get? b=some o)
  (slot:∀ b o,b≠X.env.locals->b∈X.fs->b∉ch->s.heap.get? b=some o->H b=none->∃ sl,h'.get? b=some {o with slots:=sl}) (free:∀ b o,b∉ch->s.heap.get? b=some o->H b=none->H' b=none)
  (there:∀ b o,b∉ch->s.heap.get? b=some o->∃ o',h'.get? b=some o')
  (tups:∀ b xs,H b=some (.tup xs)->H' b=some (.tup xs)) (frzs:∀ b o u,H b=some (.frz o u)->H' b=some (.frz o u)) (tbls:∀ b ps,H b=some (.tbl ps)->∃ more,H' b=some (.tbl (ps++more)))
  (ns:∀ m,s.heap.Ns X.env.locals m->h'.Ns X.env.locals m) (hok:HOk X.prog X.w H' h') (hg:AllBare g') :
  Inv X pins σ H' {s with heap:=h',gens:=g',drawn:=d',toks:=t'}:=by
 have neL:∀ b o,X.s₀.heap.get? b=some o->b≠X.env.locals:=λb o e=>A0J (A11 (A08 e) I.ok.above)
 have neC:∀ b o,X.s₀.heap.get? b=some o->b∉X.ex->b∉ch:=λb o e hx hb=>by
  rcases(hch b hb).1 with z|z
  . exact hx z
  exact absurd (A11 (A08 e) z) (A24 _)
 have cellK:∀ x c,X.env.cells.lookup x=some c->∀ v,s.heap.IsCell c v->h'.IsCell c v:=λx c e v ⟨o,ho,hd⟩=>by
  have nch:c∉ch:=λz=>(hch c z).2.2.1 x c e rfl
  by_cases hc:c∈X.fs
  . obtain⟨sl,q⟩:=slot c o (I.cne x c e) hc nch ho (I.freeC x c e);exact⟨_,q,hd⟩
  exact⟨o,keep c o (I.cne x c e) hc nch ho (I.freeC x c e),hd⟩
 refine⟨I.ok,I.os,hg,⟨λb o e n hb hx=>?_,λb o e n hb hx=>?_,λb o e n hx=>?_,λb o e hx=>?_,λb xs e=>tups b xs (I.base.tups b xs e),λb o xs e=>frzs b o xs (I.base.frzs b o xs e),λb ps e=>?_⟩,?_,λx c e=>?_,?_,λx c e=>?_,λp hp=>?_,hok,I.len⟩
 . exact keep b o (neL b o e) hb (neC b o e hx) (I.base.keep b o e n hb hx) (I.base.free b o e n hx)
 . obtain⟨sl,e1⟩:=I.base.slot b o e n hb hx;obtain⟨sl',e2⟩:=slot b _ (neL b o e) hb (neC b o e hx) e1 (I.base.free b o e n hx);exact⟨sl',e2⟩
 . obtain⟨o',e1⟩:=I.base.there b o e hx;exact free b o' (neC b o e hx) e1 (I.base.free b o e n hx)
 . obtain⟨o',e1⟩:=I.base.there b o e hx;exact there b o' (neC b o e hx) e1
 . obtain⟨m1,e1⟩:=I.base.tbls b ps e;obtain⟨m2,e2⟩:=tbls b _ e1;exact⟨m1++m2,by rw[e2,Array.append_assoc]⟩
 . obtain⟨m,hn,hl⟩:=I.loc;refine⟨m,ns m hn,λi x v e1 e2 e3=>?_⟩;obtain⟨u,r,l⟩:=hl i x v e1 e2 e3;refine⟨u,r,?_⟩;rcases l with l|⟨k,c,e,z⟩
   . exact .inl l
   exact .inr ⟨k,c,e,cellK x c e _ z⟩
 . obtain⟨v,z⟩:=I.cell x c e;exact⟨v,cellK x c e v z⟩
 . obtain⟨m,⟨o,_,_,ho,_⟩,_⟩:=I.loc;exact free _ o (λz=>(hch _ z).2.1 rfl) ho I.free
 . obtain⟨v,o,ho,hd⟩:=I.cell x c e;exact free c o (λz=>(hch c z).2.2.1 x c e rfl) ho (I.freeC x c e)
 obtain⟨e,n,ne,nf,d⟩:=I.pin p hp;have nch:p.1∉ch:=λz=>(hch p.1 z).2.2.2 p hp rfl;exact⟨keep p.1 p.2 ne nf nch e n,free p.1 p.2 nch e n,ne,nf,d⟩
theorem Inv.un {t':Nat}(I:Inv X pins σ H s)(u:Un X.fs [] H H' s.heap h')(hok:HOk X.prog X.w H' h'):Inv X pins σ H' {s with heap:=h',toks:=t'}:=by
 obtain⟨m,⟨o,es,ep,ho,r⟩,_⟩:=id I.loc;obtain⟨sl,hL⟩:=u.any ho I.free (by simp)
 exact I.step (g':=s.gens) (d':=s.drawn) (ch:=[]) (λ_ z=>nomatch z) (λb o _ hb _ e n=>u.keep b o e n hb (by simp)) (λb o _ hb _ e n=>u.slot b o e n hb (by simp)) (λb o _ e n=>u.free b o e n (by simp)) (λb o _ e=>u.there b o e (by simp)) u.tups u.frzs u.tbls (λm' hm=>by obtain⟨o',es',ep',ho',r'⟩:=hm;rw[ho] at ho';cases ho';exact⟨_,es',ep',hL,r'⟩) hok I.bare
theorem Inv.call {g':Array GenState}{t':Nat}{d':Drawn}{ch:List Addr}(I:Inv X pins σ H s)(u:Un (frs X.stack) ch H H' s.heap h')(hok:HOk X.prog X.w H' h')(hg:AllBare g')
  (hch:∀ b∈ch,(b∈X.ex\/X.s₀.heap.objs.size<=b)/\b≠X.env.locals/\(∀ x c,X.env.cells.lookup x=some c->c≠b)/\∀ p∈X.pn++pins,p.1≠b) :
  Inv X pins σ H' {s with heap:=h',gens:=g',drawn:=d',toks:=t'}:=by
 obtain⟨m,⟨o,es,ep,ho,r⟩,_⟩:=id I.loc;obtain⟨sl,hL⟩:=u.any ho I.free λz=>(hch _ z).2.1 rfl
 exact I.step (ch:=ch) hch (λb o hL hb hc e n=>u.keep b o e n (λz=>(A0F.mp (I.stkSub b z)).elim hL hb) hc) (λb o _ _ hc e n=>u.any e n hc) (λb o hc e n=>u.free b o e n hc) (λb o hc e=>u.there b o e hc) u.tups u.frzs u.tbls (λm' hm=>by obtain⟨o',es',ep',ho',r'⟩:=hm;rw[ho] at ho';cases ho';exact⟨_,es',ep',hL,r'⟩) hok hg
theorem Inv.turned {t':Nat}{it:Addr}(I:Inv X pins σ H s)(k:∀ b o,b≠it->s.heap.get? b=some o->h'.get? b=some o)(hn:H it=none)(hL:it≠X.env.locals)
  (h1:it∈X.ex\/X.s₀.heap.objs.size<=it) (h2:∀ x c,X.env.cells.lookup x=some c->c≠it) (h3:∀ p∈X.pn++pins,p.1≠it):Inv X pins σ H {s with heap:=h',toks:=t'}:=by
 have nit:∀ b u,H b=some u->b≠it:=λb u e z=>by rw[z,hn] at e;cases e
 refine I.step (g':=s.gens) (d':=s.drawn) (ch:=[it]) (λb hb=>?_) (λb o _ _ hc e _=>k b o (λz=>hc (by simp[z])) e) (λb o _ _ hc e _=>⟨o.slots,k b o (λz=>hc (by simp[z])) e⟩) (λ_ _ _ _ n=>n)
  (λb o hc e=>⟨o,k b o (λz=>hc (by simp[z])) e⟩) (λ_ _ e=>e) (λ_ _ _ e=>e) (λb ps e=>⟨#[],by rw[e];simp⟩) (λm hm=>?_) (λb u e=>?_) I.bare
 . have e:b=it:=by simpa using hb
   subst e;exact⟨h1,hL,h2,h3⟩
 . obtain⟨o,es,ep,ho,r⟩:=hm;exact⟨o,es,ep,k _ o (Ne.symm hL) ho,r⟩
 refine(I.hok b u e).stay (λc v hc q=>k c v ?_ q) (λ_ q=>q) λ_ _ q=>q;rcases hc with z|z
 . rw[z];exact nit b u e
 exact nit c _ z
theorem Inv.tok (I:Inv X pins σ H s)(t:Nat):Inv X pins σ H {s with toks:=t}:=I.un (h':=s.heap) (t':=t) Un.refl I.hok
theorem Inv.kept {t':Nat}(I:Inv X pins σ H s)(k:∀ b u,s.heap.get? b=some u->h'.get? b=some u):Inv X pins σ H {s with heap:=h',toks:=t'}:=I.un (Un.kept k) (I.hok.kept k)
theorem Inv.laid {a:Addr}{o:HO}{t':Nat}(I:Inv X pins σ H s)(k:∀ b u,s.heap.get? b=some u->h'.get? b=some u)(hp:s.heap.objs.size<=a)(new:ObjOk X.prog X.w (upd H a o) h' a o) :
  Inv X pins σ (upd H a o) {s with heap:=h',toks:=t'}:=I.un (Un.laid k hp (I.hok.fresh hp)) (I.hok.laid k hp new)
theorem Inv.write {x e:Addr}{o:HO}{t':Nat}(I:Inv X pins σ H s)(mu:Mut (H x))(he:e=x\/H e=some (.own x))(k:∀ b u,b≠e->s.heap.get? b=some u->h'.get? b=some u)(heo:∃ u,h'.get? e=some u)
  (new:ObjOk X.prog X.w (upd H x o) h' x o):Inv X pins σ (upd H x o) {s with heap:=h',toks:=t'}:=I.un (Un.write mu he k heo) (I.hok.write mu he k heo new)
theorem Inv.weak {σ':List (Option V)}(I:Inv X pins σ H s)(hl:σ'.length=σ.length)(w:∀(i:Nat) v,σ'[i]? = some (some v)->σ[i]? = some (some v)):Inv X pins σ' H s:=
 ⟨I.ok,I.os,I.bare,I.base,let ⟨m,hn,hl'⟩:=I.loc;⟨m,hn,λi x v e1 e2 e3=>hl' i x v e1 (w i v e2) e3⟩,I.cell,I.free,I.freeC,I.pin,I.hok,hl.trans I.len⟩
theorem Inv.pins_of {pins':List (Addr×Obj)}(I:Inv X pins σ H s)(h:∀ p∈pins',s.heap.get? p.1=some p.2/\H p.1=none/\p.1≠X.env.locals/\p.1∉X.fs/\∀ v,p.2.data ≠ .cell v):Inv X pins' σ H s:=
 ⟨I.ok,I.os,I.bare,I.base,I.loc,I.cell,I.free,I.freeC,λp hp=>(A0I.mp hp).elim (λz=>I.pin p (A0G _ z)) (h p),I.hok,I.len⟩
theorem Qy {N:List Str}(hN:N.Nodup){i j:Nat}{x:Str}(a:N[i]? = some x)(b:N[j]? = some x):i=j:=by obtain⟨h1,e1⟩:=A03.mp a;obtain⟨h2,e2⟩:=A03.mp b;exact(A21 hN).mp (e1.trans e2.symm)
theorem Tj {M:Model}{A:Around}{E:Value->Shared->Prop}{i:Nat}{x:Str}{v:V}{u:Value}{Q:Unit->Shared->Prop}(I:Inv X pins σ H s)(hN:X.N.Nodup)(hi:X.N[i]? = some x)(hx:Loc X.env.scope x)(r:RelV v u)
  (h:∀ s',Inv X pins (σ.set i (some v)) H s'->(∃ a,Heap.SameBut a s.heap s'.heap/\(a=X.env.locals\/X.env.cells.lookup x=some a))->Q () s') (hf:X.fn x=true\/X.env.scope.names.lookup x=some .local:=by with_unfolding_all (first | exact .inl rfl | exact .inr rfl | assumption)):wpAny M A (storeName X.env x u) Q E s:=by
 obtain⟨m,hn,hl⟩:=id I.loc;have hcls:(X.env.scope.kind == .class||(X.env.scope.kind == .module&&X.env.locals != X.env.globals))=false:=by rw[I.ok.kind];rfl
 have hiσ:i<σ.length:=by rw[I.len];exact(A03.mp hi).1
 have cne:=I.cne
 have tracked:∀ {a:Addr} {h':Heap},(∃ o,s.heap.get? a=some o/\H a=none)->Heap.SameBut a s.heap h'->HOk X.prog X.w H h':=fun {a h'} ha hs b ob e=>by
  obtain⟨_,_,hfree⟩:=ha;refine(I.hok b ob e).stay (λc w' hc q=>(hs.2 c ?_).trans q) (λ_ q=>q) λ_ _ q=>q;rintro rfl;rcases hc with rfl|hc
  . rw[hfree] at e;cases e
  rw[hfree] at hc;cases hc
 rcases hx with hk|hk
 . refine wpAny_storeName_local hk hn (λh' hn' hs=>?_) hcls;obtain⟨oL,_,_,hoL,_⟩:=id hn;refine h _ ⟨I.ok,I.os,I.bare,⟨λb o e n hb hx=>?_,λb o e n hb hx=>?_,I.base.free,λb o e hx=>?_,I.base.tups,I.base.frzs,I.base.tbls⟩,⟨_,hn',λj y v' e1 e2 e3=>?_⟩,λy c e=>?_,I.free,I.freeC,λp hp=>?_,tracked ⟨oL,hoL,I.free⟩ hs,by simpa using I.len⟩ ⟨_,hs,.inl rfl⟩
   . exact(hs.2 b (A0J (A11 (A08 e) I.ok.above))).trans (I.base.keep b o e n hb hx)
   . obtain⟨sl,e1⟩:=I.base.slot b o e n hb hx;exact⟨sl,(hs.2 b (A0J (A11 (A08 e) I.ok.above))).trans e1⟩
   . obtain⟨o',e1⟩:=I.base.there b o e hx;exact⟨o',(hs.2 b (A0J (A11 (A08 e) I.ok.above))).trans e1⟩
   . by_cases hj:j=i
     . subst hj;rw[hi] at e1;cases e1;rw[A3Q hiσ] at e2
       cases e2;exact⟨u,r,.inl ⟨hk,by simp⟩⟩
     rw[A2B (Ne.symm hj)] at e2;obtain⟨u',r',q⟩:=hl j y v' e1 e2 e3;refine⟨u',r',?_⟩;rcases q with ⟨k,e⟩|⟨k,c,e,z⟩
     . refine .inl ⟨k,?_⟩;have:y≠x:=λe=>hj (Qy hN e1 (e ▸ hi));simp[this,e]
     exact .inr ⟨k,c,e,z.sameBut hs (cne y c e)⟩
   . obtain⟨w',z⟩:=I.cell y c e;exact⟨w',z.sameBut hs (cne y c e)⟩
   obtain⟨e,n,ne,nf,d⟩:=I.pin p hp;exact⟨(hs.2 p.1 ne).trans e,n,ne,nf,d⟩
 have hfn:X.fn x=true:=by
  rcases hf with z|z
  . exact z
  rw[z] at hk;cases hk
 obtain⟨c,hc⟩:=I.ok.has x (.inl hk);obtain⟨w',z⟩:=I.cell x c hc;refine wpAny_storeName_cell I.ok.kind hk hc z (λh' hc' hs=>?_);obtain⟨oc,hoc,hocd⟩:=id z;refine h {s with heap:=h'} ⟨I.ok,I.os,I.bare,⟨λb o e n hb hx=>?_,λb o e n hb hx=>?_,I.base.free,λb o e hx=>?_,I.base.tups,I.base.frzs,I.base.tbls⟩,⟨m,hn.sameBut hs (Ne.symm (cne x c hc)),λj y v' e1 e2 e3=>?_⟩,λy c' e=>?_,I.free,I.freeC,λp hp=>?_,tracked ⟨oc,hoc,I.freeC x c hc⟩ hs,by simpa using I.len⟩ ⟨c,hs,.inr hc⟩
 . exact(hs.2 b (A0J (A11 (A08 e) (I.ok.cab x c hfn hc)))).trans (I.base.keep b o e n hb hx)
 . obtain⟨sl,e1⟩:=I.base.slot b o e n hb hx;exact⟨sl,(hs.2 b (A0J (A11 (A08 e) (I.ok.cab x c hfn hc)))).trans e1⟩
 . obtain⟨o',e1⟩:=I.base.there b o e hx;exact⟨o',(hs.2 b (A0J (A11 (A08 e) (I.ok.cab x c hfn hc)))).trans e1⟩
 . by_cases hj:j=i
   . subst hj;rw[hi] at e1;cases e1;rw[A3Q hiσ] at e2
     cases e2;exact⟨u,r,.inr ⟨.inl hk,c,hc,hc'⟩⟩
   rw[A2B (Ne.symm hj)] at e2;obtain⟨u',r',q⟩:=hl j y v' e1 e2 e3;refine⟨u',r',?_⟩;rcases q with q|⟨k,c',e,z'⟩
   . exact .inl q
   refine .inr ⟨k,c',e,z'.sameBut hs ?_⟩;rintro rfl;exact hj (Qy hN e1 (I.ok.inj _ _ _ e hc ▸ hi))
 . by_cases hcc:c'=c
   . subst hcc;exact⟨_,hc'⟩
   obtain⟨w2,z2⟩:=I.cell y c' e;exact⟨w2,z2.sameBut hs hcc⟩
 obtain⟨e,n,ne,nf,d⟩:=I.pin p hp;refine⟨(hs.2 p.1 ?_).trans e,n,ne,nf,d⟩;intro q;rw[q,hoc] at e;have q':oc=p.2:=A0Z e;exact d w' (by rw[<- q'];exact hocd)
theorem Jo {M:Model}{A:Around}{E:Value->Shared->Prop}{i:Nat}{x:Str}{v:V}{u:Value}{Q:Unit->Shared->Prop}(I:Inv X pins σ H s)(hN:X.N.Nodup)(hi:X.N[i]? = some x)(hx:Loc X.env.scope x)(r:RelV v u)
  (h:∀ s',Inv X pins (σ.set i (some v)) H s'->Q () s') (hf:X.fn x=true\/X.env.scope.names.lookup x=some .local:=by with_unfolding_all (first | exact .inl rfl | exact .inr rfl | assumption)):wpAny M A (storeName X.env x u) Q E s:=
 Tj I hN hi hx r (λs' I' _=>h s' I') hf
theorem Inv.call' {s':Shared}{ch:List Addr}(I:Inv X pins σ H s)(ho:s'.os=s.os)(u:Un (frs X.stack) ch H H' s.heap s'.heap)(hok:HOk X.prog X.w H' s'.heap)(hg:AllBare s'.gens)
  (hch:∀ b∈ch,(b∈X.ex\/X.s₀.heap.objs.size<=b)/\b≠X.env.locals/\(∀ x c,X.env.cells.lookup x=some c->c≠b)/\∀ p∈X.pn++pins,p.1≠b):Inv X pins σ H' s':=by
 obtain⟨h',g',d',t',o'⟩:=s';have e:o'=s.os:=ho;subst e;exact I.call (g':=g') (t':=t') (d':=d') u hok hg hch
end
abbrev XK:=Value->Option Addr->Hp->Prop
abbrev St:=List (Option V)
abbrev VK:=V->Hp->Prop
abbrev TE:=St->Hp->VK->Prop
abbrev TT:=St->Hp->(Bool->Hp->Prop)->Prop
abbrev TA:=St->Hp->(List V->Hp->Prop)->Prop
structure Ends where
 nx:St->Hp->Prop
 rt:VK
 bk:St->Hp->Prop:=λ_ _=>False
 ct:St->Hp->Prop:=λ_ _=>False
abbrev TS:=Ends->St->Hp->Prop
def EP (X:Cx)(pins:List (Addr×Obj))(σ:St)(Q:VK)(u:Value)(s':Shared):Prop:=∃ v H',Inv X pins σ H' s'/\RelV v u/\Q v H'
def TP (X:Cx)(pins:List (Addr×Obj))(σ:St)(Q:Bool->Hp->Prop)(b:Bool)(s':Shared):Prop:=∃ H',Inv X pins σ H' s'/\Q b H'
def AP (X:Cx)(pins:List (Addr×Obj))(σ:St)(Q:List V->Hp->Prop)(us:List Value)(s':Shared):Prop:=∃ vs H',Inv X pins σ H' s'/\Vals vs us/\Q vs H'
def SP (X:Cx)(pins:List (Addr×Obj))(D:Ends)(f:Flow)(s':Shared):Prop:=
 match f with
 |.next=>∃ σ' H',Inv X pins σ' H' s'/\D.nx σ' H'
 |.brk=>∃ σ' H',Inv X pins σ' H' s'/\D.bk σ' H'
 |.cont=>∃ σ' H',Inv X pins σ' H' s'/\D.ct σ' H'
 |.ret u=>∃ v σ' H',Inv X pins σ' H' s'/\RelV v u/\D.rt v H'
def PE (X:Cx)(e:Expr)(t:TE):Prop:=
 ∀(pins:List (Addr×Obj)) (s:Shared) (σ:St) (H:Hp) (Q:VK),Inv X pins σ H s->t σ H Q->wpAny (model X.prog X.w) X.A (eval e X.env) (EP X pins σ Q) X.xe s
def PT (X:Cx)(e:Expr)(t:TT):Prop:=
 ∀(pins:List (Addr×Obj)) (s:Shared) (σ:St) (H:Hp) (Q:Bool->Hp->Prop),Inv X pins σ H s->t σ H Q->wpAny (model X.prog X.w) X.A (isTrue e X.env (eval e X.env)) (TP X pins σ Q) X.xe s
def PW (X:Cx)(e:Expr)(t:TT):Prop:=
 ∀(whole:Sem Value) (pins:List (Addr×Obj)) (s:Shared) (σ:St) (H:Hp) (Q:Bool->Hp->Prop),Inv X pins σ H s->t σ H Q->wpAny (model X.prog X.w) X.A (isTrue e X.env whole) (TP X pins σ Q) X.xe s
theorem PW.pt {X:Cx}{e:Expr}{t:TT}(h:PW X e t):PT X e t:=h _
def PA (X:Cx)(es:List Expr)(t:TA):Prop:=
 ∀(pos:Pos) (pins:List (Addr×Obj)) (s:Shared) (σ:St) (H:Hp) (Q:List V->Hp->Prop),Inv X pins σ H s->t σ H Q->wpAny (model X.prog X.w) X.A (spliced (backTo pos (starEach es X.env))) (AP X pins σ Q) X.xe s
def PS (X:Cx)(st:Stmt)(t:TS):Prop:=
 ∀(pins:List (Addr×Obj)) (s:Shared) (σ:St) (H:Hp) (D:Ends),Inv X pins σ H s->t D σ H->wpAny (model X.prog X.w) X.A (exec st X.env) (SP X pins D) X.xe s
def PSs (X:Cx)(st:List Stmt)(t:TS):Prop:=
 ∀(pins:List (Addr×Obj)) (s:Shared) (σ:St) (H:Hp) (D:Ends),Inv X pins σ H s->t D σ H->wpAny (model X.prog X.w) X.A (execs st X.env) (SP X pins D) X.xe s
theorem thn {α:Type}{t:Sem α}{Q Q':α->Shared->Prop}{M:Model}{A:Around}{E:Value->Shared->Prop}{s:Shared}(h:wpAny M A t Q E s)(hQ:∀ a s,Q a s->Q' a s):wpAny M A t Q' E s:=A2D h hQ λ_ _ x=>x
section
variable {X:Cx}
def aQ4 (i:Nat):TE:=fun σ H Q=>∃ v,σ[i]? = some (some v)/\Q v H
def tC (v:V):TE:=λ_ H Q=>Q v H
theorem aJ3 {i:Nat}{x:Str}{pos:Pos}(hN:X.N[i]? = some x)(hv:Vis X.env.scope x)(hd:(x==("__debug__":Str))=false:=by decide)(hcd:(x==("__classdict__":Str))=false:=by decide):PE X (.Name x pos) (aQ4 i):=by
 intro pins s σ H Q I h;obtain⟨v,e,h⟩:=h;obtain⟨m,hn,hl⟩:=I.loc;obtain⟨u,r,l⟩:=hl i x v hN e hv;have fin:EP X pins σ Q u s:=⟨v,H,I,r,h⟩;rcases l with ⟨hk,hm⟩|⟨hk,c,hc,hcell⟩
 . exact wpAny_Name (wpAny_loadName_local I.ok.kind hk hn hm fin) hd
 rcases hk with hk|hk
 . exact wpAny_Name (wpAny_loadName_cell I.ok.kind hk hc hcell fin) hd
 exact wpAny_Name (wpAny_loadName_free I.ok.kind hk hc hcell fin hcd) hd
theorem A5 {i j pos}:PE X (.Constant (.int i) j pos) (tC (.int i)):=λ_ _ _ H _ I h=>wpAny_Constant_int ⟨.int i,H,I.tok _,⟨_,rfl⟩,h⟩
theorem Ev {b j pos}:PE X (.Constant (.bool b) j pos) (tC (.bl b)):=λ_ _ _ H _ I h=>Constant_bool ⟨.bl b,H,I,rfl,h⟩
theorem Qb {j pos}:PE X (.Constant .none j pos) (tC .non):=λ_ _ _ H _ I h=>Constant_none ⟨.non,H,I,rfl,h⟩
theorem Bc {x j pos}:PE X (.Constant (.str x) j pos) (tC (.str x)):=λ_ _ _ H _ I h=>Calls.Constant_str ⟨.str x,H,I.tok _,⟨_,rfl⟩,h⟩
def Gl (X:Cx)(x:Str):Prop:=X.env.kindOf x=some .globalImplicit
theorem Ky {E:Value->Shared->Prop}{pins:List (Addr×Obj)}{s:Shared}{σ:St}{H:Hp}{x:Str}{u:Value}{pos:Pos}{Q:Value->Shared->Prop}(I:Inv X pins σ H s)(hg:Gl X x)(hm:X.mg x=some u)(h:Q u s)
  (hd:(x==("__debug__":Str))=false:=by decide):wpAny (model X.prog X.w) X.A (eval (.Name x pos) X.env) Q E s:=
 Calls.Name_function_global I.ok.kind hg (Calls.loadGlobal_global (by rw[I.ok.glob];exact I.mod.glob.keeps I.bk) hm h) hd
theorem Ip {E:Value->Shared->Prop}{pins:List (Addr×Obj)}{s:Shared}{σ:St}{H:Hp}{x:Str}{u:Value}{pos:Pos}{Q:Value->Shared->Prop}(I:Inv X pins σ H s)(hg:Gl X x)(hm:X.mg x=none)(hv:bootBuiltins x=some u)(h:Q u s)
  (hn:x ≠ "__name__":=by decide) (hd:(x==("__debug__":Str))=false:=by decide):wpAny (model X.prog X.w) X.A (eval (.Name x pos) X.env) Q E s:=by
 obtain⟨mb,h1,h2⟩:=I.mod.blt;exact Calls.Name_function_global I.ok.kind hg (Calls.loadGlobal_builtin (by rw[I.ok.glob];exact I.mod.glob.keeps I.bk) hm (by rw[I.ok.blt];exact h1.keeps I.bk) ((h2 x hn).trans hv) h) hd
theorem av0 {x:Str}{v:V}{u:Value}{pos:Pos}(hg:Gl X x)(hm:X.mg x=some u)(r:RelV v u)(hd:(x==("__debug__":Str))=false:=by decide):PE X (.Name x pos) (tC v):=
 λ_ _ _ H _ I h=>Ky I hg hm ⟨v,H,I,r,h⟩ hd
theorem Nt {x:Str}{v:V}{u:Value}{pos:Pos}(hg:Gl X x)(hm:X.mg x=none)(hv:bootBuiltins x=some u)(r:RelV v u)(hn:x ≠ "__name__":=by decide)(hd:(x==("__debug__":Str))=false:=by decide):PE X (.Name x pos) (tC v):=
 λ_ _ _ H _ I h=>Ip I hg hm hv ⟨v,H,I,r,h⟩ hn hd
variable {a b:Expr}{ta tb:TE}{pos:Pos}
def tB (t:TE):TT:=fun σ H Q=>t σ H λx H1=>∃ c,x = .bl c/\Q c H1
theorem Fs {e:Expr}{t:TE}(h:PE X e t)(he:∀ whole,isTrue e X.env whole=(do let v <- whole;standAt e.pos;holding [v] (truthy v)):=by intro _;ac_nf):PT X e (tB t):=by
 intro pins s σ H Q I hw;refine isTrue_plain (thn (h pins s σ H _ I hw) λv s1 ⟨x,H1,I1,r1,q1⟩=>?_) (he _);obtain⟨d,rfl,q⟩:=q1
 cases r1;exact A2R ⟨H1,I1,q⟩
variable {tA tB':TT}{rest:List Expr}
def aT8 (t u:TT):TT:=fun σ H Q=>t σ H λc H1=>if c=true then u σ H1 Q else Q false H1
def tOr (t u:TT):TT:=fun σ H Q=>t σ H λc H1=>if c=true then Q true H1 else u σ H1 Q
def aR4 (t:TT):TT:=fun σ H Q=>t σ H λc H1=>Q (!c) H1
theorem Na (ha:PT X a tA):PW X (.BoolOp .And [a] pos) tA:=by
 intro wh pins s σ H Q I h;refine isTrue_and (thn (ha pins s σ H Q I h) λc s1 e=>?_)
 cases c with
 |true=>exact isTrue_and_nil e
 |false=>exact e
theorem Jv (ha:PT X a tA):PW X (.BoolOp .Or [a] pos) tA:=by
 intro wh pins s σ H Q I h;refine isTrue_or (thn (ha pins s σ H Q I h) λc s1 e=>?_)
 cases c with
 |false=>exact isTrue_or_nil e
 |true=>exact e
theorem Te (ha:PT X a tA)(hb:PW X (.BoolOp .And (b :: rest) pos) tB'):PW X (.BoolOp .And (a :: b :: rest) pos) (aT8 tA tB'):=by
 intro wh pins s σ H Q I h;refine isTrue_and (thn (ha pins s σ H _ I h) λc s1 ⟨H1,I1,q1⟩=>?_)
 cases c with
 |true=>exact hb wh pins s1 σ H1 Q I1 q1
 |false=>exact⟨H1,I1,q1⟩
theorem Nu (ha:PT X a tA)(hb:PW X (.BoolOp .Or (b :: rest) pos) tB'):PW X (.BoolOp .Or (a :: b :: rest) pos) (tOr tA tB'):=by
 intro wh pins s σ H Q I h;refine isTrue_or (thn (ha pins s σ H _ I h) λc s1 ⟨H1,I1,q1⟩=>?_)
 cases c with
 |true=>exact⟨H1,I1,q1⟩
 |false=>exact hb wh pins s1 σ H1 Q I1 q1
theorem Gr (ha:PT X a tA):PT X (.UnaryOp .Not a pos) (aR4 tA):=by intro pins s σ H Q I h;exact isTrue_not (ha pins s σ H (λc H1=>Q (!c) H1) I h)
def aD7 (ta tb:TE):TE:=fun σ H Q=>ta σ H λx H1=>∃ c,x = .bl c/\if c=true then tb σ H1 Q else Q (.bl false) H1
def aS8 (ta tb:TE):TE:=fun σ H Q=>ta σ H λx H1=>∃ c,x = .bl c/\if c=true then Q (.bl true) H1 else tb σ H1 Q
theorem Tu {op}{t:TE}(h:PE X a t):PE X (.BoolOp op [a] pos) t:=λpins s σ H Q I hw=>BoolOp_one (h pins s σ H Q I hw)
theorem Qm (ha:PE X a ta)(hb:PE X (.BoolOp .And (b :: rest) pos) tb):PE X (.BoolOp .And (a :: b :: rest) pos) (aD7 ta tb):=by
 intro pins s σ H Q I h;refine BoolOp_and (thn (ha pins s σ H _ I h) λv s1 ⟨x,H1,I1,r1,q1⟩=>?_);obtain⟨c,rfl,q1⟩:=q1
 cases r1;refine A2R ?_
 cases c with
 |true=>exact hb pins s1 σ H1 Q I1 q1
 |false=>exact⟨.bl false,H1,I1,rfl,q1⟩
theorem aQ6 (ha:PE X a ta)(hb:PE X (.BoolOp .Or (b :: rest) pos) tb):PE X (.BoolOp .Or (a :: b :: rest) pos) (aS8 ta tb):=by
 intro pins s σ H Q I h;refine BoolOp_or (thn (ha pins s σ H _ I h) λv s1 ⟨x,H1,I1,r1,q1⟩=>?_);obtain⟨c,rfl,q1⟩:=q1
 cases r1;refine A2R ?_
 cases c with
 |false=>exact hb pins s1 σ H1 Q I1 q1
 |true=>exact⟨.bl true,H1,I1,rfl,q1⟩
end
def SqL (K:W.Frag)(H:Hp)(a:Addr)(xs:List V):Prop:=
 Rd H a (.lst xs) \/
  ∃(o:Obj) (its:Array Value) (n:Nat),K.lookup a=some o/\o.cls = .type "list" /\ o.dict=none/\o.data = .seq its n/\its.size<=sizeLine/\Vals xs its.toList
def SqT (K:W.Frag)(H:Hp)(a:Addr)(xs:List V):Prop:=
 Rd H a (.tup xs) \/
  ∃(o:Obj) (its:Array Value) (n:Nat),K.lookup a=some o/\o.cls = .type "tuple" /\ o.data = .seq its n/\its.size<=sizeLine/\Vals xs its.toList/\o.dict=none
def absV:Value->Option V
 |.none=>some .non
 |.bool b=>some (.bl b)
 |.int i _=>some (.int i)
 |.str x _=>some (.str x)
 |.bytes b _=>some (.byt b)
 |.float b _=>some (.flt b)
 |.ref a=>some (.ref a)
 |.type n=>some (.ty n)
 |_=>none
theorem RelV.abs {x:V}{u:Value}(r:RelV x u):absV u=some x:=by
 cases x with
 |non=>cases r;rfl
 |bl _=>cases r;rfl
 |int _=>obtain⟨t,rfl⟩:=r;rfl
 |str _=>obtain⟨t,rfl⟩:=r;rfl
 |byt _=>obtain⟨t,rfl⟩:=r;rfl
 |flt _=>obtain⟨t,rfl⟩:=r;rfl
 |ref _=>cases r;rfl
 |ty _=>cases r;rfl
theorem RelV.inj {x y:V}{u:Value}(r:RelV x u)(q:RelV y u):x=y:=A0Z (r.abs.symm.trans q.abs)
theorem Vals.inj:∀ {xs ys:List V} {us:List Value},Vals xs us->Vals ys us->xs=ys
 |_,_,_,.nil,.nil=>rfl
 |_,_,_,.cons r t,.cons r' t'=>by rw[r.inj r',Vals.inj t t']
section
variable {X:Cx}{pins:List (Addr×Obj)}{σ:St}{H:Hp}{s:Shared}{a:Addr}{xs ys:List V}
theorem SqL.of {K:W.Frag}(h:H a=some (.lst xs)):SqL K H a xs:=.inl (.inl h)
theorem SqT.of {K:W.Frag}(h:H a=some (.tup xs)):SqT K H a xs:=.inl (.inl h)
theorem Inv.list (I:Inv X pins σ H s)(h:SqL X.K H a xs):∃ its:List Value,Vals xs its/\PlainL s.heap a its.toArray/\xs.length<=sizeLine:=by
 rcases h with h|⟨o,its,n,hk,hc,hd,hs,hz,r⟩
 . obtain⟨z,its,n,r,e⟩:=h.ok I.hok;exact⟨its,r,⟨_,n,e,rfl,rfl,rfl⟩,z⟩
 refine⟨its.toList,r,⟨o,n,I.kIn a o hk,hc,hd,by simpa using hs⟩,?_⟩;have e:=r.length;simp only[Array.length_toList] at e;omega
theorem Inv.tuple (I:Inv X pins σ H s)(h:SqT X.K H a xs):∃ its:List Value,Vals xs its/\IsTup s.heap a its.toArray/\xs.length<=sizeLine:=by
 rcases h with h|⟨o,its,n,hk,hc,hs,hz,r,hn⟩
 . obtain⟨z,its,r,p⟩:=h.ok I.hok;exact⟨its,r,p.tup,z⟩
 refine⟨its.toList,r,⟨o,I.kIn a o hk,hc,n,by simpa using hs⟩,?_⟩;have e:=r.length;simp only[Array.length_toList] at e;omega
theorem Inv.list_inj (I:Inv X pins σ H s)(h:SqL X.K H a xs)(h':SqL X.K H a ys):xs=ys:=by
 obtain⟨its,r,⟨o,n,e,_,_,d⟩,_⟩:=I.list h;obtain⟨its',r',⟨o',n',e',_,_,d'⟩,_⟩:=I.list h';rw[e] at e';cases e';rw[d] at d';injection d' with d1 _;have:its=its':=by simpa using congrArg Array.toList d1
 subst this;exact r.inj r'
theorem Inv.tuple_inj (I:Inv X pins σ H s)(h:SqT X.K H a xs)(h':SqT X.K H a ys):xs=ys:=by
 obtain⟨its,r,⟨o,e,_,n,d⟩,_⟩:=I.tuple h;obtain⟨its',r',⟨o',e',_,n',d'⟩,_⟩:=I.tuple h';rw[e] at e';cases e';rw[d] at d';injection d' with d1 _;have:its=its':=by simpa using congrArg Array.toList d1
 subst this;exact r.inj r'
end
abbrev Cx.wish (X:Cx)(E:Value->Shared->Prop):Cx:={X with xe:=E}
abbrev Cx.nox (X:Cx):Cx:=X.wish λ_ _=>False
theorem Cx.Ok.wish {X:Cx}(ok:X.Ok)(E:Value->Shared->Prop):(X.wish E).Ok:=
 ⟨ok.mod,ok.kind,ok.glob,ok.blt,ok.above,ok.inj,ok.has,ok.cab,ok.hd,ok.frames,ok.stk,ok.exf,ok.bs,ok.bsz,ok.noex,ok.exfs,ok.funs,ok.frf⟩
theorem Cx.Ok.unwish {X:Cx}{E:Value->Shared->Prop}(ok:(X.wish E).Ok):X.Ok:=
 ⟨ok.mod,ok.kind,ok.glob,ok.blt,ok.above,ok.inj,ok.has,ok.cab,ok.hd,ok.frames,ok.stk,ok.exf,ok.bs,ok.bsz,ok.noex,ok.exfs,ok.funs,ok.frf⟩
section
variable {X:Cx}{pins:List (Addr×Obj)}{σ:St}{H:Hp}{s:Shared}{E:Value->Shared->Prop}
theorem Inv.wish (I:Inv X pins σ H s)(E:Value->Shared->Prop):Inv (X.wish E) pins σ H s:=⟨I.ok.wish E,I.os,I.bare,I.base,I.loc,I.cell,I.free,I.freeC,I.pin,I.hok,I.len⟩
theorem Inv.unwish (I:Inv (X.wish E) pins σ H s):Inv X pins σ H s:=⟨I.ok.unwish,I.os,I.bare,I.base,I.loc,I.cell,I.free,I.freeC,I.pin,I.hok,I.len⟩
theorem SP.unwish {D:Ends}{f:Flow}{s':Shared}(h:SP (X.wish E) pins D f s'):SP X pins D f s':=by
 cases f with
 |next=>obtain⟨σ',H',I,q⟩:=h;exact⟨σ',H',I.unwish,q⟩
 |brk=>obtain⟨σ',H',I,q⟩:=h;exact⟨σ',H',I.unwish,q⟩
 |cont=>obtain⟨σ',H',I,q⟩:=h;exact⟨σ',H',I.unwish,q⟩
 |ret u=>obtain⟨v,σ',H',I,r,q⟩:=h;exact⟨v,σ',H',I.unwish,r,q⟩
theorem PSs.nox {st:List Stmt}{t:TS}(h:PSs X.nox st t):PSs X st t:=λpins s σ H D I hw=>A2D (h pins s σ H D (I.wish _) hw) (λ_ _ q=>q.unwish) λ_ _ z=>False.elim z
end
section
variable {X:Cx}{st:Stmt}{rest:List Stmt}{t u:TS}{e:Expr}{te:TE}{pos:Pos}
def aK0:TS:=λD σ H=>D.nx σ H
def aN7 (t u:TS):TS:=λD σ H=>t {D with nx:=u D} σ H
theorem Ap:PSs X [] aK0:=λ_ _ σ H _ I h=>A4X ⟨σ,H,I,h⟩
theorem A2 (h1:PS X st t) (h2:PSs X rest u):PSs X (st :: rest) (aN7 t u):=by
 intro pins s σ H D I h;refine wpAny_execs_cons (thn (h1 pins s σ H {D with nx:=u D} I h) λf s1 q=>?_)
 cases f with
 |next=>obtain⟨σ',H',I',q⟩:=q;exact h2 pins s1 σ' H' D I' q
 |ret v=>exact q
 |brk=>exact q
 |cont=>exact q
theorem A6 (h1:PS X st t):PSs X [st] t:=by
 intro pins s σ H D I h;refine wpAny_execs_cons (thn (h1 pins s σ H D I h) λf s1 q=>?_)
 cases f with
 |next=>exact A4X q
 |ret v=>exact q
 |brk=>exact q
 |cont=>exact q
theorem Inv.quiet {pins:List (Addr×Obj)}{σ:St}{H:Hp}{s:Shared}(I:Inv X pins σ H s):interactive X.env=false:=by simp[interactive,I.ok.kind]
def aM8 (te:TE):TS:=λD σ H=>te σ H λ_ H1=>D.nx σ H1
theorem Cb (he:PE X e te)(hs:swapsWith e none pos.line X.env=pure false:=by ac_nf):PS X (.Expr e pos) (aM8 te):=by intro pins s σ H D I h;exact wpAny_Expr_any (thn (he pins s σ H _ I h) λv s1 ⟨x,H1,I1,r1,q1⟩=>⟨σ,H1,I1,q1⟩) I.quiet hs
def aT4 (te:TE):TS:=λD σ H=>te σ H D.rt
theorem Aj (he:PE X e te):PS X (.Return (some e) pos) (aT4 te):=by intro pins s σ H D I h;exact wpAny_Return_some (thn (he pins s σ H _ I h) λv s1 ⟨x,H1,I1,r1,q1⟩=>⟨x,σ,H1,I1,r1,q1⟩)
def aT7 (c:TT)(t u:TS):TS:=λD σ H=>c σ H λb H1=>if b=true then t D σ H1 else u D σ H1
theorem Bv {c:Expr}{a b:List Stmt}{tc:TT}(hc:PT X c tc)(ha:PSs X a t)(hb:PSs X b u):PS X (.If c a b pos) (aT7 tc t u):=by
 intro pins s σ H D I h;refine wpAny_If (thn (hc pins s σ H _ I h) λd s1 ⟨H1,I1,q1⟩=>?_)
 cases d with
 |true=>exact ha pins s1 σ H1 D I1 q1
 |false=>exact hb pins s1 σ H1 D I1 q1
def aK4:TS:=λ_ _ _=>False
theorem Gq:PS X st aK4:=λ_ _ _ _ _ _ h=>h.elim
end
abbrev TG:=V->St->Hp->(St->Hp->Prop)->Prop
abbrev TGs:=List V->St->Hp->(St->Hp->Prop)->Prop
def PG (X:Cx)(target:Expr)(t:TG):Prop:=
 ∀(pins:List (Addr×Obj)) (s:Shared) (σ:St) (H:Hp) (v:V) (u:Value) (Q:St->Hp->Prop),Inv X pins σ H s->RelV v u->t v σ H Q ->
  wpAny (model X.prog X.w) X.A (assign target X.env u) (λ_ s'=>∃ σ' H',Inv X pins σ' H' s'/\Q σ' H') X.xe s
def PGs (X:Cx)(ts:List Expr)(t:TGs):Prop:=
 ∀(pins:List (Addr×Obj)) (s:Shared) (σ:St) (H:Hp) (vs:List V) (us:List Value) (Q:St->Hp->Prop),Inv X pins σ H s->Vals vs us->t vs σ H Q ->
  wpAny (model X.prog X.w) X.A (assignInOrder ((assignEach ts X.env).map (·.2)) us) (λ_ s'=>∃ σ' H',Inv X pins σ' H' s'/\Q σ' H') X.xe s
section
variable {X:Cx}{pos:Pos}
def Ht (i:Nat):TG:=λv σ H Q=>Q (σ.set i (some v)) H
theorem Ac {i:Nat}{x:Str}(hN:X.N.Nodup)(hi:X.N[i]? = some x)(hx:Loc X.env.scope x)(hf:X.fn x=true\/X.env.scope.names.lookup x=some .local:=by with_unfolding_all (first | exact .inl rfl | exact .inr rfl | assumption)):PG X (.Name x pos) (Ht i):=by intro pins s σ H v u Q I r h;exact wpAny_assign_Name (Jo I hN hi hx r (λs' I'=>⟨_,H,I',h⟩) hf)
def ao1:TGs:=λvs σ H Q=>vs=[]/\Q σ H
def Ke (t:TG)(u:TGs):TGs:=λvs σ H Q=>∃ v r,vs=v :: r/\t v σ H fun σ' H'=>u r σ' H' Q
theorem J3:PGs X [] ao1:=by
 intro pins s σ H vs us Q I r h;obtain⟨e,h⟩:=h;subst e
 cases r;exact assignInOrder_nil ⟨σ,H,I,h⟩
theorem Cd {e:Expr}{es:List Expr}{t:TG}{u:TGs}(h1:PG X e t)(h2:PGs X es u)
  (hs:(assignEach (e :: es) X.env).map (·.2)=assign e X.env :: (assignEach es X.env).map (·.2):=by ac_nf):PGs X (e :: es) (Ke t u):=by
 intro pins s σ H vs us Q I r h;obtain⟨v,vr,e1,h⟩:=h;subst e1
 cases r with
 |cons r rr=>rw[hs];refine assignInOrder_cons (thn (h1 pins s σ H _ _ _ I r h) λ_ s1 ⟨σ1,H1,I1,q1⟩=>?_);exact h2 pins s1 σ1 H1 _ _ Q I1 rr q1
def al0 (K:W.Frag)(n:Nat)(t:TGs):TG:=λv σ H Q=>∃ a xs,v = .ref a/\SqT K H a xs/\xs.length=n/\t xs σ H Q
theorem aD8 {es:List Expr}{k:Nat}{t:TGs}{n:Nat}(hc:X.calm=true)(h:PGs X es t)
  (hn:(assignEach es X.env).length=n:=by ac_nf) (hst:(assignEach es X.env).findIdx? (·.1)=none:=by ac_nf):PG X (.Tuple es k pos) (al0 X.K n t):=by
 intro pins s σ H v u Q I r hw;obtain⟨a,xs,e1,hq,hl,hw⟩:=hw;subst e1
 cases r;obtain⟨its,rv,ht,hz⟩:=I.tuple hq;refine assign_Tuple_tuple (I.ok.hd hc) ht (by simp[hn,<- hl,rv.length]) hst λh' hx=>?_;have I1:Inv X pins σ H {s with heap:=h'}:=I.kept (t':=s.toks) λb o e=>hx b o (A0J (A08 e)) e
 exact h pins _ σ H xs _ Q I1 (by simpa using rv) hw
def aC4 (te:TE)(g:TG):TS:=λD σ H=>te σ H λx H1=>g x σ H1 D.nx
theorem ar5 {tg e:Expr}{te:TE}{g:TG}(he:PE X e te)(hg:PG X tg g)(hs:swapsWithSole [tg] e pos.line X.env=pure false:=by ac_nf)(hw:swappedStores [tg] e X.env=pure none:=by ac_nf)
  (h1:(assignEach [tg] X.env).map (·.2)=[assign tg X.env]:=by ac_nf):PS X (.Assign [tg] e pos) (aC4 te g):=by
 intro pins s σ H D I h;refine wpAny_Assign_stores (thn (he pins s σ H _ I h) λv s1 ⟨x,H1,I1,r1,q1⟩=>?_) hs hw;rw[h1];exact thn (hg pins s1 σ H1 x v _ I1 r1 q1) λ_ s2 q=>q
theorem Ai {i:Nat}{x:Str}{e:Expr}{te:TE}{pos':Pos}(hN:X.N.Nodup)(hi:X.N[i]? = some x)(hx:Loc X.env.scope x)(he:PE X e te)(hs:swapsWith e (some (.Name x pos')) pos.line X.env=pure false:=by ac_nf)(hf:X.fn x=true\/X.env.scope.names.lookup x=some .local:=by with_unfolding_all (first | exact .inl rfl | exact .inr rfl | assumption)) :
  PS X (.Assign [.Name x pos'] e pos) (aC4 te (Ht i)):=by
 intro pins s σ H D I h;refine wpAny_Assign_Name (thn (he pins s σ H _ I h) λv s1 ⟨y,H1,I1,r1,q1⟩=>?_) hs;exact Jo I1 hN hi hx r1 (λs2 I2=>⟨_,H1,I2,q1⟩) hf
def aR8 (i j:Nat)(ta:TA):TS:=λD σ H=>ta σ H λvs H1=>∃ v w,vs=[v,w]/\D.nx ((σ.set i (some v)).set j (some w)) H1
theorem aL1 {i j:Nat}{x y:Str}{a b:Expr}{ta:TA}{px py pt:Pos}{kt k2 pt2}(hc:X.calm=true)(hN:X.N.Nodup)(hi:X.N[i]? = some x)(hj:X.N[j]? = some y)(hij:i≠j)
  (hx:X.env.scope.names.lookup x=some .local) (hy:X.env.scope.names.lookup y=some .local) (ha:PA X [a,b] ta)
  (hw:swappedStores [.Tuple [.Name x px,.Name y py] kt pt] (.Tuple [a,b] k2 pt2) X.env=pure (some [x,y]))
  (hs:swapsWithSole [.Tuple [.Name x px,.Name y py] kt pt] (.Tuple [a,b] k2 pt2) pos.line X.env=pure false:=by ac_nf) :
  PS X (.Assign [.Tuple [.Name x px,.Name y py] kt pt] (.Tuple [a,b] k2 pt2) pos) (aR8 i j ta):=by
 intro pins s σ H D I h;rw[exec_Assign_arm];refine A00 (A4R ?_);rw[hs];refine A00 (A06 ?_);rw[A10 ∅];refine A00 (Tuple_ (thn (ha _ pins s σ H _ I h) λus s1 ⟨vs,H1,I1,r1,q1⟩=>?_));obtain ⟨v,w,e1,q1⟩:=q1;subst e1
 obtain ⟨u1,u2,rfl,rv,rw'⟩:∃ u1 u2,us=[u1,u2]/\RelV v u1/\RelV w u2:=by
  cases r1 with
  |cons p q=>
    cases q with
    |cons p' q'=>cases q';exact⟨_,_,rfl,p,p'⟩
 refine A2E ?_ (by show 2<=sizeLine;decide);have I2:Inv X pins σ H1 {s1 with heap:=s1.heap.push {cls:=.type "tuple",data:=.seq [u1,u2].toArray}}:=I1.kept (t':=s1.toks) λb o e=>A02 _ e
 rw[hw];refine A00 (A06 ?_);show wpAny (model X.prog X.w) X.A (do rule "assign.swapped-stores";let items <- unpackItems (.ref s1.heap.objs.size) 2 none;assignInOrder [λv=>bindName X.env y v,λv=>bindName X.env x v] items.reverse;pure Flow.next) _ _ _
 refine A00 (A4I (A00 (unpackItems_tuple (items:=#[u1,u2]) (I.ok.hd hc) (IsTup.new s1.heap _) λh' hx'=>?_)));have I3:=I2.kept (h':=h') (t':=s1.toks) λb o e=>hx' b o (A0J (A08 e)) e;show wpAny _ _ (assignInOrder [λv=>bindName X.env y v,λv=>bindName X.env x v] [u2,u1] >>= λ_=>pure Flow.next) _ _ _;refine A00 (assignInOrder_cons (wpAny_bindName (Jo I3 hN hj (.inl hy) rw' (λs2 I4=>?_) (.inr hy))));refine assignInOrder_cons (wpAny_bindName (Jo I4 hN hi (.inl hx) rv (λs3 I5=>assignInOrder_nil (A06 ?_)) (.inr hx)));rw[List.set_comm _ _ (Ne.symm hij)] at I5;exact⟨_,H1,I5,q1⟩
def ao7 (c:TT)(tb:TS):TS:=λD σ H=>∃ W:Nat->St->Hp->Prop,(∃ m,W m σ H)/\∀ m σ H,W m σ H ->
 c σ H λb H1=>if b=true then ∃ N:St->Hp->Prop,(∀ σ' H',N σ' H'->∃ m',m'<m/\W m' σ' H')/\tb {D with nx:=N,ct:=N,bk:=D.nx} σ H1 else D.nx σ H1
theorem Xq {c:Expr}{body:List Stmt}{tc:TT}{tb:TS}(hp:PassesOwn (model X.prog X.w) X.A X.env X.xe)(hc:PT X c tc)(hb:PSs X body tb):PS X (.While c body [] pos) (ao7 tc tb):=by
 intro pins s σ H D I h;obtain⟨W,⟨m0,w0⟩,turn⟩:=h;refine wpAny_While (codeAny_whileLoop (λn s'=>∃ σ' H',Inv X pins σ' H' s'/\W n σ' H') ?_ m0 ⟨σ,H,I,w0⟩);rintro n s1 ⟨σ1,H1,I1,w1⟩;refine A37 hp (thn (hc pins s1 σ1 H1 _ I1 (turn n σ1 H1 w1)) λb s2 ⟨H2,I2,q2⟩=>?_)
 cases b with
 |true=>
   obtain ⟨N,hN,q2⟩:=q2;rw[A15 rfl];refine A37 hp (thn (hb pins s2 σ1 H2 _ I2 q2) λf s3 q3=>?_)
   cases f with
   |next=>obtain⟨σ3,H3,I3,n3⟩:=q3;obtain⟨m',hm,w3⟩:=hN σ3 H3 n3;exact⟨m',hm,σ3,H3,I3,w3⟩
   |cont=>obtain⟨σ3,H3,I3,n3⟩:=q3;obtain⟨m',hm,w3⟩:=hN σ3 H3 n3;exact⟨m',hm,σ3,H3,I3,w3⟩
   |brk=>exact q3
   |ret v=>exact q3
 |false=>rw[A10 A0K];exact A4X ⟨σ1,H2,I2,q2⟩
end
structure It where
 go:Nat->Hp->Prop
 yld:Nat->Hp->V->Hp->Prop
 stop:Nat->Hp->Prop
def Xz (X:Cx)(pins:List (Addr×Obj))(H:Hp)(b:Addr):Prop:=
 H b=none/\b≠X.env.locals/\b∉X.fs/\(b∈X.ex\/X.s₀.heap.objs.size<=b)/\(∀ x c,X.env.cells.lookup x=some c->c≠b)/\∀ p∈X.pn++pins,p.1≠b
theorem Inv.fpOk {X:Cx}{pins:List (Addr×Obj)}{σ:St}{H H':Hp}{s:Shared}{b:Addr}(I:Inv X pins σ H s)(hb:s.heap.objs.size<=b)(hn:H' b=none):Xz X pins H' b:=by
 refine⟨hn,A26 (A11 I.lt hb),I.nofs hb,.inr (A0H I.sz hb),λx c e z=>?_,λp hp z=>?_⟩
 . obtain⟨v,q⟩:=I.cell x c e;exact absurd (A11 q.lt (by rw[z];exact hb)) (A24 _)
 exact absurd (A11 (A08 (I.pin p hp).1) (by rw[z];exact hb)) (A24 _)
structure ag2 (P:Program)(w:World)(K:W.Frag)(tg:Expr)(J:It)(fp:List Addr)(it:Addr)(tn:Nat->Heap->Prop):Prop where
 mem:it∈fp
 obj:∀ i h,tn i h->∀ b∈fp,∃ o,h.get? b=some o/\∀ v,o.data ≠ .cell v
 keep:∀ i h h',tn i h->(∀ b∈fp,∀ o,h.get? b=some o->h'.get? b=some o)->tn i h'
 item:∀(X:Cx),X.prog=P->X.w=w->X.K=K->X.calm=true->∀(i:Nat) (pins:List (Addr×Obj)) (s:Shared) (σ:St) (H:Hp) (E:Value->Shared->Prop),Inv X pins σ H s->(∀ b∈fp,Xz X pins H b)->tn i s.heap->J.go i H ->
  wpAny (model P w) X.A (pyNext (.ref it)) (λr s1=>∃ u,r=some u /\
   wpAny (model P w) X.A (letOwnedTupleGo tg (.ref it) u) (λ_ s2=>∃ x H',Inv X pins σ H' s2/\RelV x u/\J.yld i H x H'/\tn (i+1) s2.heap/\∀ b∈fp,H' b=none) E s1) E s
 done:∀(X:Cx),X.prog=P->X.w=w->X.K=K->X.calm=true->∀(i:Nat) (pins:List (Addr×Obj)) (s:Shared) (σ:St) (H:Hp) (E:Value->Shared->Prop),Inv X pins σ H s->(∀ b∈fp,Xz X pins H b)->tn i s.heap->J.stop i H ->
  wpAny (model P w) X.A (pyNext (.ref it)) (λr s1=>r=none/\Inv X pins σ H s1) E s
 self:∀(A:Around) (i:Nat) (s:Shared) (Q:Value->Shared->Prop) (E:Value->Shared->Prop),tn i s.heap->Q (.ref it) s->wpAny (model P w) A (pyIter (.ref it)) Q E s
abbrev TI:=St->Hp->(It->Hp->Prop)->Prop
def PIE (X:Cx)(pins:List (Addr×Obj))(σ:St)(tg:Expr)(R:It->Hp->Prop)(itv:Value)(s2:Shared):Prop:=
 ∃(it:Addr) (fp:List Addr) (tn:Nat->Heap->Prop) (J:It) (H':Hp),itv = .ref it/\Inv X pins σ H' s2/\ag2 X.prog X.w X.K tg J fp it tn/\tn 0 s2.heap/\(∀ b∈fp,Xz X pins H' b)/\R J H'
def PI (X:Cx)(tg iter:Expr)(wi:TI):Prop:=
 ∀(pins:List (Addr×Obj)) (s:Shared) (σ:St) (H:Hp) (R:It->Hp->Prop),Inv X pins σ H s->wi σ H R ->
  wpAny (model X.prog X.w) X.A (eval iter X.env) (λv s1=>wpAny (model X.prog X.w) X.A (pyIter v) (PIE X pins σ tg R) X.xe s1) X.xe s
theorem ae1 {M:Model}{A:Around}{E:Value->Shared->Prop}{s:Shared}{tg:Expr}{it:Addr}{u:Value}{o:Obj}{n:String}{vs:Array Value}{Q:Unit->Shared->Prop}(ho:s.heap.get? it=some o)(hc:o.cls = .type n)(hd:o.data = .fields vs)
  (hn:["enumerate","zip","dict_itemiterator","dict_reverseitemiterator","odict_iterator","itertools.zip_longest","itertools.pairwise"].contains n=false) (hQ:Q () s):wpAny M A (letOwnedTupleGo tg (.ref it) u) Q E s:=by
 unfold letOwnedTupleGo
 cases tg<;>first
  |exact A06 hQ
  | (cases u<;>first
    |exact A06 hQ
    | (refine A00 (wpAny_load ho ?_)
       rw[hc,hd];show wpAny M A (if(["enumerate","zip","dict_itemiterator","dict_reverseitemiterator","odict_iterator","itertools.zip_longest","itertools.pairwise"].contains n&&vs[0]? == some (rawInt _))=true then _ else _) Q E s
       rw[A10 (by intro h;rw[hn,Bool.false_and] at h;cases h)];exact A06 hQ))
def Itl (K:W.Frag)(a:Addr):It:=
 ⟨λi H=>∃ xs x,SqL K H a xs/\xs[i]? = some x,λi H x H'=>H'=H/\∀ xs,SqL K H a xs->xs[i]? = some x,λi H=>∃ xs,SqL K H a xs/\xs.length<=i⟩
def Itt (K:W.Frag)(a:Addr):It:=
 ⟨λi H=>∃ xs x,SqT K H a xs/\xs[i]? = some x,λi H x H'=>H'=H/\∀ xs,SqT K H a xs->xs[i]? = some x,λi H=>∃ xs,SqT K H a xs/\xs.length<=i⟩
def Itr (lo:Int)(n:Nat):It:=⟨λi _=>i<n,λi H x H'=>H'=H/\x = .int (lo+i),λi _=>n<=i⟩
theorem ab8 {P:Program}{w:World}{K:W.Frag}{tg:Expr}(a it:Addr):ag2 P w K tg (Itl K a) [it] it (λi h=>h.IsListIter it a i) where
 mem:=by simp
 obj:=λi h st b hb=>by
  have e:b=it:=by simpa using hb
  subst e;obtain⟨o,e,c,d⟩:=st;exact⟨o,e,λv z=>by rw[d] at z;cases z⟩
 keep:=λi h h' st k=>st.at λo e=>k it (by simp) o e
 item:=by
  intro X hP hw hK hc i pins s σ H E I hf st hg;subst hP hw hK;obtain⟨xs,x,hq,hx⟩:=hg;obtain⟨its,rv,p,hz⟩:=I.list hq;obtain⟨u,hu,ru⟩:=rv.get hx;obtain⟨f0,f1,f2,f3,f4,f5⟩:=hf it (by simp);refine wpAny_pyNext_list_item st p.isList (x:=u) (by simpa using hu) λh' st' sb=>?_;have I1:Inv X pins σ H {s with heap:=h'}:=I.turned (t':=s.toks) (λb o hb e=>(sb.2 b hb).trans e) f0 f1 f3 f4 f5
  obtain⟨o,e,c,d⟩:=id st';exact⟨u,rfl,ae1 (s:={s with heap:=h'}) e c d ∅ ⟨x,H,I1,ru,⟨rfl,λys hy=>by rw[I.list_inj hy hq];exact hx⟩,st',λb hb=>(hf b hb).1⟩⟩
 done:=by intro X hP hw hK hc i pins s σ H E I hf st hg;subst hP hw hK;obtain⟨xs,hq,hx⟩:=hg;obtain⟨its,rv,p,hz⟩:=I.list hq;obtain⟨f0,f1,f2,f3,f4,f5⟩:=hf it (by simp);have hl:=rv.length;exact wpAny_pyNext_list_end (I.ok.hd hc) st p.isList (by simp;omega) λh' eb=>⟨rfl,I.turned (t':=s.toks) (λb o hb e=>eb b o hb e) f0 f1 f3 f4 f5⟩
 self:=λ_ _ _ _ _ st h=>wpAny_pyIter_listiter st h
theorem Z9 {P:Program}{w:World}{K:W.Frag}{tg:Expr}(a it:Addr):ag2 P w K tg (Itt K a) [it] it (λi h=>h.IsTupleIter it a i) where
 mem:=by simp
 obj:=λi h st b hb=>by
  have e:b=it:=by simpa using hb
  subst e;obtain⟨o,e,c,d⟩:=st;exact⟨o,e,λv z=>by rw[d] at z;cases z⟩
 keep:=λi h h' st k=>st.at λo e=>k it (by simp) o e
 item:=by
  intro X hP hw hK hc i pins s σ H E I hf st hg;subst hP hw hK;obtain⟨xs,x,hq,hx⟩:=hg;obtain⟨its,rv,p,hz⟩:=I.tuple hq;obtain⟨u,hu,ru⟩:=rv.get hx;obtain⟨f0,f1,f2,f3,f4,f5⟩:=hf it (by simp);refine wpAny_pyNext_tuple_item st (show s.heap.IsTuple a its.toArray from p) (x:=u) (by simpa using hu) λh' st' sb=>?_;have I1:Inv X pins σ H {s with heap:=h'}:=I.turned (t':=s.toks) (λb o hb e=>(sb.2 b hb).trans e) f0 f1 f3 f4 f5
  obtain⟨o,e,c,d⟩:=id st';exact⟨u,rfl,ae1 (s:={s with heap:=h'}) e c d ∅ ⟨x,H,I1,ru,⟨rfl,λys hy=>by rw[I.tuple_inj hy hq];exact hx⟩,st',λb hb=>(hf b hb).1⟩⟩
 done:=by intro X hP hw hK hc i pins s σ H E I hf st hg;subst hP hw hK;obtain⟨xs,hq,hx⟩:=hg;obtain⟨its,rv,p,hz⟩:=I.tuple hq;obtain⟨f0,f1,f2,f3,f4,f5⟩:=hf it (by simp);have hl:=rv.length;exact wpAny_pyNext_tuple_end (I.ok.hd hc) st (show s.heap.IsTuple a its.toArray from p) (by simp;omega) λh' eb=>⟨rfl,I.turned (t':=s.toks) (λb o hb e=>eb b o hb e) f0 f1 f3 f4 f5⟩
 self:=λ_ _ _ _ _ st h=>wpAny_pyIter_tupleiter st h
theorem Z8 {P:Program}{w:World}{K:PySem.W.Frag}{tg:Expr}(it:Addr)(lo:Int)(n:Nat):ag2 P w K tg (Itr lo n) [it] it (λi h=>IsRangeIter h it (lo+(i:Nat)*1) ((n:Int)-(i:Nat)) 1) where
 mem:=by simp
 obj:=λi h st b hb=>by
  have e:b=it:=by simpa using hb
  subst e
  exact⟨_,st,λv z=>by
   have z':Data.fields _=Data.cell v:=z
   cases z'⟩
 keep:=λi h h' st k=>k it (by simp) _ st
 item:=by
  intro X hP hw hK hc i pins s σ H E I hf st hg;subst hP hw hK;obtain⟨f0,f1,f2,f3,f4,f5⟩:=hf it (by simp);have W:=Walks.range (prog:=X.prog) (w:=X.w) (I.ok.hd hc) it lo 1 n;refine W.item i s _ _ hg st λv h' tk hv st' kk=>?_;obtain⟨t,rfl⟩:=hv;have I1:Inv X pins σ H {s with heap:=h',toks:=tk}:=I.turned (λb o hb e=>kk b o (by simpa using hb) e) f0 f1 f3 f4 f5
  refine⟨_,rfl,ae1 (s:={s with heap:=h',toks:=tk}) (n:="range_iterator") st' rfl rfl ∅ ⟨.int (lo+i),H,I1,⟨t,?_⟩,⟨rfl,rfl⟩,st',λb hb=>(hf b hb).1⟩⟩
  rw[Int.mul_one]
 done:=by intro X hP hw hK hc i pins s σ H E I hf st hg;subst hP hw hK;obtain⟨f0,f1,f2,f3,f4,f5⟩:=hf it (by simp);exact wpAny_pyNext_range_end (I.ok.hd hc) st (by have:n<=i:=hg;omega) λh' eb=>⟨rfl,I.turned (t':=s.toks) (λb o hb e=>eb b o hb e) f0 f1 f3 f4 f5⟩
 self:=λ_ _ _ _ _ st h=>wpAny_pyIter_rangeiter st h
section
variable {X:Cx}{tg:Expr}
theorem Wt {pins:List (Addr×Obj)}{σ:St}{H:Hp}{s:Shared}{R:It->Hp->Prop}{E:Value->Shared->Prop}{lo hi:Int}{t u v:Tok}{tk:Nat}(I:Inv X pins σ H s)(h1:-(2 ^ 62)<=lo)(h2:lo<2 ^ 62)(h3:-(2 ^ 62)<=hi)(h4:hi<2 ^ 62)
  (q:R (Itr lo (hi-lo).toNat) H):wpAny (model X.prog X.w) X.A (pyIter (.ref s.heap.objs.size)) (PIE X pins σ tg R) E {s with heap:=s.heap.push {cls:=.type "range",data:=.fields #[.int lo t,.int hi u,.int 1 v]},toks:=tk}:=by
 refine wpAny_pyIter_range (IsRange.new ..) (small_one h1 h2 h3 h4) ?_;have I1:Inv X pins σ H {s with heap:=s.heap.push {cls:=.type "range",data:=.fields #[.int lo t,.int hi u,.int 1 v]},toks:=tk}:=I.kept λb o e=>A02 _ e
 refine⟨(s.heap.push {cls:=.type "range",data:=.fields #[.int lo t,.int hi u,.int 1 v]}).objs.size,[(s.heap.push {cls:=.type "range",data:=.fields #[.int lo t,.int hi u,.int 1 v]}).objs.size],_,_,H,rfl,
  I1.kept (t':=tk) λb o e=>A02 _ e,Z8 _ lo (hi-lo).toNat,?_,λb hb=>?_,q⟩
 . have e1:lo+((0:Nat):Int)*1=lo:=by simp
   have e2:(((hi-lo).toNat:Nat):Int)-((0:Nat):Int)=Builtin.Range.rangeSize lo hi 1:=by rw[rangeSize_one];split<;>omega
   show IsRangeIter _ _ (lo+((0:Nat):Int)*1) ((((hi-lo).toNat:Nat):Int)-((0:Nat):Int)) 1;rw[e1,e2];exact A0B _ rfl
 have e:b=(s.heap.push {cls:=.type "range",data:=.fields #[.int lo t,.int hi u,.int 1 v]}).objs.size:=by simpa using hb
 subst e;exact I1.fpOk (A0D _) (I1.hok.fresh (A0D _))
def aI6 (ta:TA):TI:=fun σ H R=>ta σ H λvs H1=>∃ j:Int,vs=[.int j] /\ -(2 ^ 62)<=j/\j<2 ^ 62/\R (Itr 0 j.toNat) H1
def aH9 (ta:TA):TI:=fun σ H R=>ta σ H λvs H1=>∃ i j:Int,vs=[.int i,.int j]/\(-(2 ^ 62)<=i/\i<2 ^ 62 /\ -(2 ^ 62)<=j/\j<2 ^ 62)/\R (Itr i (j-i).toNat) H1
theorem Do {a:Expr}{ta:TA}{p pos:Pos}(hg:Gl X "range")(hm:X.mg "range" = none)(ha:PA X [a] ta)(hs:starEach [a] X.env=[(false,eval a X.env)]:=by ac_nf):PI X tg (.Call (.Name "range" p) [a] [] pos) (aI6 ta):=by
 intro pins s σ H R I h;refine Call_ (Ip I hg hm boot_range (A1M (thn (ha pos pins s σ H _ I h) λus s1 ⟨vs,H1,I1,r1,q1⟩=>?_) hs rfl));obtain⟨j,e,q1,q2,q⟩:=q1;subst e
 cases r1 with
 |cons r rr=>cases rr;obtain⟨t,rfl⟩:=r;exact call_range_1 (Wt I1 nofun nofun q1 q2 (by simpa using q))
theorem Zw {a b:Expr}{ta:TA}{p pos:Pos}(hg:Gl X "range")(hm:X.mg "range" = none)(ha:PA X [a,b] ta)(hs:starEach [a,b] X.env=[(false,eval a X.env),(false,eval b X.env)]:=by ac_nf)(hs2:starEach [b] X.env=[(false,eval b X.env)]:=by ac_nf) :
  PI X tg (.Call (.Name "range" p) [a,b] [] pos) (aH9 ta):=by
 intro pins s σ H R I h;refine Call_ (Ip I hg hm boot_range (A1M (thn (ha pos pins s σ H _ I h) λus s1 ⟨vs,H1,I1,r1,q1⟩=>?_) (by rw[hs,hs2]) (by rw[hs2];rfl)));obtain⟨i,j,e,⟨q1,q2,q3,q4⟩,q⟩:=q1;subst e
 cases r1 with
 |cons r rr=>
   cases rr with
   |cons r' rr=>cases rr;obtain⟨t,rfl⟩:=r;obtain⟨t',rfl⟩:=r';exact call_range_2 (Wt I1 q1 q2 q3 q4 q)
def aT1 (wi:TI)(g:TG)(tb:TS):TS:=λD σ H=>wi σ H λJ H1=>∃ W:Nat->Nat->St->Hp->Prop,(∃ m,W 0 m σ H1)/\∀ i m σ H,W i m σ H ->
 (J.stop i H/\D.nx σ H)\/(J.go i H/\∃ N:St->Hp->Prop,(∀ σ' H',N σ' H'->∃ m',m'<m/\W (i+1) m' σ' H')/\∀ x H',J.yld i H x H'->g x σ H' fun σ2 H2=>tb {D with nx:=N,ct:=N,bk:=D.nx} σ2 H2)
def T1 (fp:List Addr)(h:Heap):List (Addr×Obj):=fp.filterMap λb=>(h.get? b).map λo=>(b,o)
theorem Jn {fp:List Addr}{h:Heap}{b:Addr}{o:Obj}(hb:b∈fp)(e:h.get? b=some o):(b,o)∈T1 fp h:=List.mem_filterMap.mpr ⟨b,hb,by rw[e];rfl⟩
theorem ab4 {fp:List Addr} {h:Heap} {p:Addr×Obj} (hp:p∈T1 fp h):p.1∈fp/\h.get? p.1=some p.2:=by
 obtain⟨b,hb,e⟩:=List.mem_filterMap.mp hp
 cases q:h.get? b with
 |none=>rw[q] at e;cases e
 |some o=>rw[q] at e;have e':(b,o)=p:=A0Z e;subst e';exact⟨hb,q⟩
theorem Inv.pinned {pins:List (Addr×Obj)}{σ:St}{H:Hp}{s:Shared}{fp:List Addr}(I:Inv X pins σ H s)(hf:∀ b∈fp,Xz X pins H b)(ho:∀ b∈fp,∃ o,s.heap.get? b=some o/\∀ v,o.data ≠ .cell v):Inv X (pins++T1 fp s.heap) σ H s:=
 I.pins_of λp hp=>(A0I.mp hp).elim (λz=>I.pin p (A0Q _ z)) λz=>by obtain⟨hb,e⟩:=ab4 z;obtain⟨f0,f1,f2,_⟩:=hf p.1 hb;obtain⟨o,e',d⟩:=ho p.1 hb;rw[e] at e';cases e';exact⟨e,f0,f1,f2,d⟩
theorem Inv.unpinned {pins pl:List (Addr×Obj)}{σ:St}{H:Hp}{s:Shared}(I:Inv X (pins++pl) σ H s):Inv X pins σ H s:=I.pins_of λp hp=>I.pin p (A0Q _ (A0G _ hp))
theorem Cm {iter:Expr}{body:List Stmt}{wi:TI}{g:TG}{tb:TS}{pos:Pos}(hp:PassesOwn (model X.prog X.w) X.A X.env X.xe)(hc:X.calm=true)(hi:PI X tg iter wi)(hg:PG X tg g)(hb:PSs X body tb)
  (hs:∀ x,foldedSetIterable iter X.env x=pure x:=by intro _;ac_nf):PS X (.For tg iter body [] pos) (aT1 wi g tb):=by
 intro pins s σ H D I h;refine wpAny_For (thn (hi pins s σ H _ I h) λv s1 h1=>thn h1 λitv s2 h2=>?_) hs;obtain⟨it,fp,tn,J,H2,e,I2,T,st2,f2,W,⟨m0,w0⟩,turn⟩:=h2;subst e;have stat:∀ {H':Hp},(∀ b∈fp,H' b=none)->∀ b∈fp,Xz X pins H' b:=λhn b hb=>⟨hn b hb,(f2 b hb).2⟩;refine codeAny_forLoop_any (λn s'=>∃ i σ' H',Inv X pins σ' H' s'/\tn i s'.heap/\(∀ b∈fp,H' b=none)/\W i n σ' H') ?_ m0 ⟨0,σ,H2,I2,st2,λb hb=>(f2 b hb).1,w0⟩;rintro n s3 ⟨i,σ3,H3,I3,st3,fr3,w3⟩;rcases turn i n σ3 H3 w3 with ⟨stop,qn⟩|⟨go,N,hN,step⟩
 . refine A37 hp (thn (T.done X rfl rfl rfl hc i pins s3 σ3 H3 X.xe I3 (stat fr3) st3 stop) λr s4 ⟨hr,I4⟩=>?_);subst hr;exact A4X ⟨σ3,H3,I4,qn⟩
 refine A37 hp (thn (T.item X rfl rfl rfl hc i pins s3 σ3 H3 X.xe I3 (stat fr3) st3 go) λr s4 ⟨u,hr,h4⟩=>?_);subst hr;refine A37 hp (thn h4 λ_ s5 ⟨x,H5,I5,r5,y5,st5,fr5⟩=>?_);have I5':=I5.pinned (stat fr5) (T.obj _ _ st5);refine A37 hp (thn (hg _ s5 σ3 H5 x u _ I5' r5 (step x H5 y5)) λ_ s6 ⟨σ6,H6,I6,q6⟩=>?_);refine A37 hp (thn (hb _ s6 σ6 H6 _ I6 q6) λf s7 q7=>?_)
 have again:∀ {σ7:St} {H7:Hp},Inv X (pins++T1 fp s5.heap) σ7 H7 s7->N σ7 H7->∃ m,m<n/\∃ i σ' H',Inv X pins σ' H' s7/\tn i s7.heap/\(∀ b∈fp,H' b=none)/\W i m σ' H':=fun {σ7 H7} I7 n7=>by obtain⟨m',hm,w7⟩:=hN σ7 H7 n7;refine⟨m',hm,i+1,σ7,H7,I7.unpinned,T.keep _ _ _ st5 λb hb o e=>(I7.pin (b,o) (A0Q _ (A0Q _ (Jn hb e)))).1,λb hb=>?_,w7⟩;obtain⟨o,e,d⟩:=T.obj _ _ st5 b hb;exact(I7.pin (b,o) (A0Q _ (A0Q _ (Jn hb e)))).2.1
 cases f with
 |next=>obtain⟨σ7,H7,I7,n7⟩:=q7;exact again I7 n7
 |cont=>obtain⟨σ7,H7,I7,n7⟩:=q7;exact again I7 n7
 |brk=>obtain⟨σ7,H7,I7,q7⟩:=q7;exact⟨σ7,H7,I7.unpinned,q7⟩
 |ret v=>obtain⟨x7,σ7,H7,I7,r7,q7⟩:=q7;exact⟨x7,σ7,H7,I7.unpinned,r7,q7⟩
end
abbrev R2:=V->V->Hp->VK->Prop
def OpR (X:Cx)(f:Value->Value->Sem Value)(r:R2):Prop:=
 ∀(pins:List (Addr×Obj)) (s:Shared) (σ:St) (H:Hp) (x y:V) (v u:Value) (Q:VK),Inv X pins σ H s->RelV x v->RelV y u->r x y H Q ->
  wpAny (model X.prog X.w) X.A (f v u) (EP X pins σ Q) X.xe s
def UnR (X:Cx)(f:Value->Sem Value)(r:V->Hp->VK->Prop):Prop:=
 ∀(pins:List (Addr×Obj)) (s:Shared) (σ:St) (H:Hp) (x:V) (v:Value) (Q:VK),Inv X pins σ H s->RelV x v->r x H Q ->
  wpAny (model X.prog X.w) X.A (f v) (EP X pins σ Q) X.xe s
def CallR (X:Cx)(f:Value)(r:List V->Hp->VK->Prop):Prop:=
 ∀(pins:List (Addr×Obj)) (s:Shared) (σ:St) (H:Hp) (xs:List V) (us:List Value) (Q:VK),Inv X pins σ H s->Vals xs us->r xs H Q ->
  wpAny (model X.prog X.w) X.A (call f us) (EP X pins σ Q) X.xe s
def TruR (X:Cx)(r:V->Hp->(Bool->Hp->Prop)->Prop):Prop:=
 ∀(pins:List (Addr×Obj)) (s:Shared) (σ:St) (H:Hp) (x:V) (v:Value) (Q:Bool->Hp->Prop),Inv X pins σ H s->RelV x v->r x H Q ->
  wpAny (model X.prog X.w) X.A (truthy v) (TP X pins σ Q) X.xe s
def tOp (r:R2)(ta tb:TE):TE:=fun σ H Q=>ta σ H λx H1=>tb σ H1 λy H2=>r x y H2 Q
def tUn (r:V->Hp->VK->Prop)(ta:TE):TE:=fun σ H Q=>ta σ H λx H1=>r x H1 Q
def rI (C:Int->Int->Prop)(g:Int->Int->V):R2:=λx y H Q=>∃ i j,x = .int i/\y = .int j/\C i j/\Q (g i j) H
def rI0 (g:Int->Int->V):R2:=λx y H Q=>∃ i j,x = .int i/\y = .int j/\Q (g i j) H
def rU (g:Int->V):V->Hp->VK->Prop:=λx H Q=>∃ i,x = .int i/\Q (g i) H
section
variable {X:Cx}{a b c:Expr}{ta tb tc:TE}{pos:Pos}
theorem aR1 (ha:PE X a ta)(hb:PE X b tb){pins:List (Addr×Obj)}{s:Shared}{σ:St}{H:Hp}{R:V->V->Hp->Prop}(I:Inv X pins σ H s)
  (h:ta σ H λx H1=>tb σ H1 λy H2=>R x y H2) {Q:Value->Shared->Prop} {f:Value->Value->Sem Value}
  (hf:∀ v u s2 x y H2,Inv X pins σ H2 s2->RelV x v->RelV y u->R x y H2->wpAny (model X.prog X.w) X.A (f v u) Q X.xe s2) :
  wpAny (model X.prog X.w) X.A (eval a X.env) (λv s₁=>wpAny (model X.prog X.w) X.A (eval b X.env) (λu s₂=>wpAny (model X.prog X.w) X.A (f v u) Q X.xe s₂) X.xe s₁) X.xe s:=by
 refine thn (ha pins s σ H _ I h) λv s1 ⟨x,H1,I1,r1,q1⟩=>?_;refine thn (hb pins s1 σ H1 _ I1 q1) λu s2 ⟨y,H2,I2,r2,q2⟩=>?_;exact hf v u s2 x y H2 I2 r1 r2 q2
theorem An {op:Operator}{r:R2}(ho:OpR X (binaryOp op) r)(ha:PE X a ta)(hb:PE X b tb):PE X (.BinOp a op b pos) (tOp r ta tb):=by intro pins s σ H Q I h;exact wpAny_BinOp (aR1 ha hb I h λv u s2 x y H2 I2 rx ry q=>ho pins s2 σ H2 x y v u Q I2 rx ry q)
theorem aP4 {op:UnaryOp}{r:V->Hp->VK->Prop}(ho:UnR X (unaryOp op) r)(ha:PE X a ta):PE X (.UnaryOp op a pos) (tUn r ta):=by intro pins s σ H Q I h;exact UnaryOp_ (thn (ha pins s σ H _ I h) λv s1 ⟨x,H1,I1,r1,q1⟩=>ho pins s1 σ H1 x v Q I1 r1 q1)
theorem opI {f:Value->Value->Sem Value}{C:Int->Int->Prop}{g:Int->Int->Int}
  (rule:∀(i j:Int) (t u:Tok) (s:Shared) (Q:Value->Shared->Prop) (E:Value->Shared->Prop),C i j->Q (.int (g i j) s.toks) {s with toks:=s.toks+1}->wpAny (model X.prog X.w) X.A (f (.int i t) (.int j u)) Q E s) :
  OpR X f (rI C λi j=>.int (g i j)):=by
 intro pins s σ H x y v u Q I rx ry h;obtain⟨i,j,rfl,rfl,hc,q⟩:=h;obtain⟨t,rfl⟩:=rx;obtain⟨t',rfl⟩:=ry;exact rule i j t t' s _ _ hc ⟨.int (g i j),H,I.tok _,⟨_,rfl⟩,q⟩
theorem aO1 {f:Value->Value->Sem Value}{g:Int->Int->Int}
  (rule:∀(i j:Int) (t u:Tok) (s:Shared) (Q:Value->Shared->Prop) (E:Value->Shared->Prop),Q (.int (g i j) s.toks) {s with toks:=s.toks+1}->wpAny (model X.prog X.w) X.A (f (.int i t) (.int j u)) Q E s) :
  OpR X f (rI0 λi j=>.int (g i j)):=by
 intro pins s σ H x y v u Q I rx ry h;obtain⟨i,j,rfl,rfl,q⟩:=h;obtain⟨t,rfl⟩:=rx;obtain⟨t',rfl⟩:=ry;exact rule i j t t' s _ _ ⟨.int (g i j),H,I.tok _,⟨_,rfl⟩,q⟩
theorem aO3 {f:Value->Value->Sem Value}{g:Int->Int->Bool}
  (rule:∀(i j:Int) (t u:Tok) (s:Shared) (Q:Value->Shared->Prop) (E:Value->Shared->Prop),Q (.bool (g i j)) s->wpAny (model X.prog X.w) X.A (f (.int i t) (.int j u)) Q E s) :
  OpR X f (rI0 λi j=>.bl (g i j)):=by
 intro pins s σ H x y v u Q I rx ry h;obtain⟨i,j,rfl,rfl,q⟩:=h;obtain⟨t,rfl⟩:=rx;obtain⟨t',rfl⟩:=ry;exact rule i j t t' s _ _ ⟨.bl (g i j),H,I,rfl,q⟩
def aP3 (i j:Int):Prop:=0<j/\j<1073741824
def aQ0 (i j:Int):Prop:=0<=j/\j<=1000000/\i.natAbs<2 ^ 64
def CMul (i j:Int):Prop:=(-(2 ^ 64)<i/\i<2 ^ 64)\/(-(2 ^ 64)<j/\j<2 ^ 64)
theorem CMul.ok {i j:Int}(h:CMul i j):IntMulOk i j:=by
 rcases h with ⟨h1,h2⟩|⟨h1,h2⟩
 . exact .of_left (intBits_le_64 h1 h2)
 exact .of_right (intBits_le_64 h1 h2)
theorem op_add:OpR X (binaryOp .Add) (rI0 λi j=>.int (i+j)):=aO1 λ_ _ _ _ _ _ _ q=>add_int q
theorem Lp:OpR X (binaryOp .Sub) (rI0 λi j=>.int (i-j)):=aO1 λ_ _ _ _ _ _ _ q=>sub_int q
theorem op_mul:OpR X (binaryOp .Mult) (rI CMul λi j=>.int (i*j)):=opI λ_ _ _ _ _ _ _ hc q=>mul_int q hc.ok
theorem aB1:OpR X (binaryOp .FloorDiv) (rI aP3 λi j=>.int (i / j)):=opI λi j _ _ _ _ _ hc q=>by have h1:(0:Int)<j:=hc.1;have h2:j<1073741824:=hc.2;exact floordiv_int nofun (by rw[Int.fdiv_eq_ediv_of_nonneg i nofun];exact q) (.inl (PyProof.noPylong_small nofun))
theorem Lu:OpR X (binaryOp .Mod) (rI (λ_ j=>0<j) λi j=>.int (i % j)):=opI λi j _ _ _ _ _ hc q=>by have h1:(0:Int)<j:=hc;exact mod_int' nofun (by rw[Int.fmod_eq_emod_of_nonneg i nofun];exact q)
theorem aE6:OpR X (binaryOp .Pow) (rI aQ0 λi j=>.int (i ^ j.toNat)):=opI λ_ _ _ _ _ _ _ hc q=>pow_int_small hc.1 hc.2.1 hc.2.2 q
theorem ap5:OpR X (binaryOp .BitAnd) (rI0 λi j=>.int (Builtin.bitAnd i j)):=aO1 λ_ _ _ _ _ _ _ q=>and_int q
theorem unI {f:Value->Sem Value}{g:Int->Int}
  (rule:∀(i:Int) (t:Tok) (s:Shared) (Q:Value->Shared->Prop) (E:Value->Shared->Prop),Q (.int (g i) s.toks) {s with toks:=s.toks+1}->wpAny (model X.prog X.w) X.A (f (.int i t)) Q E s) :
  UnR X f (rU λi=>.int (g i)):=by
 intro pins s σ H x v Q I rx h;obtain⟨i,rfl,q⟩:=h;obtain⟨t,rfl⟩:=rx;exact rule i t s _ _ ⟨.int (g i),H,I.tok _,⟨_,rfl⟩,q⟩
theorem aH6:UnR X (unaryOp .USub) (rU λi=>.int (-i)):=unI λ_ _ _ _ _ q=>neg_int q
end
def aN6:V->V->Bool
 |.non,.non=>true | .non,.int _=>true | .int _,.non=>true | .non,.bl _=>true | .bl _,.non=>true | .non,.str _=>true | .str _,.non=>true
 |.int _,.int _=>true | .bl _,.bl _=>true | .str _,.str _=>true | .byt _,.byt _=>true
 |.int _,.str _=>true | .str _,.int _=>true | .bl _,.str _=>true | .str _,.bl _=>true
 |_,_=>false
def rEq:R2:=λx y H Q=>aN6 x y=true/\Q (.bl (decide (x=y))) H
def rNe:R2:=λx y H Q=>aN6 x y=true/\Q (.bl (!decide (x=y))) H
theorem aa0 {i j:Int}:decide (V.int i=V.int j)=(i==j):=by rw[A2S];simp
theorem aq3 {i j:Bool}:decide (V.bl i=V.bl j)=(i==j):=by rw[A2S];simp
theorem ad2 {i j:Str}:decide (V.str i=V.str j)=(i==j):=by rw[A2S];simp
theorem ad1 {i j:Array UInt8}:decide (V.byt i=V.byt j)=(i.toList==j.toList):=by
 rw[A2S]
 cases i
 cases j;simp
section
variable {X:Cx}{a b c:Expr}{ta tb tc:TE}{pos:Pos}
theorem Bq {pins:List (Addr×Obj)}{σ:St}{H:Hp}{s:Shared}{Q:VK}{k k':Bool}(I:Inv X pins σ H s)(q:Q (.bl k) H)(e:k=k'):EP X pins σ Q (.bool k') s:=by subst e;exact⟨.bl k,H,I,rfl,q⟩
theorem op_eq:OpR X (compareOp .Eq) rEq:=by
 intro pins s σ H x y v u Q I rx ry h;obtain⟨hs,q⟩:=h
 cases x with
 |non=>
   cases rx
   cases y with
   |non=>cases ry;exact PySem.EqNone.eq_none_none (Bq I q (by simp))
   |bl j=>cases ry;exact PySem.EqNone.eq_none_bool (Bq I q (by simp))
   |int j=>obtain⟨t',rfl⟩:=ry;exact PySem.EqNone.eq_none_int (Bq I q (by simp))
   |str j=>obtain⟨t',rfl⟩:=ry;exact PySem.EqNone.eq_none_str (Bq I q (by simp))
   |_=>exact absurd (show false=true from hs) A0K
 |bl i=>
   cases rx
   cases y with
   |non=>cases ry;exact PySem.EqNone.eq_bool_none (Bq I q (by simp))
   |bl j=>cases ry;exact eq_bool (Bq I q aq3)
   |str j=>obtain⟨t',rfl⟩:=ry;exact PySem.EqMixed.eq_bool_str (Bq I q (by simp))
   |_=>exact absurd (show false=true from hs) A0K
 |int i=>
   obtain⟨t,rfl⟩:=rx
   cases y with
   |non=>cases ry;exact PySem.EqNone.eq_int_none (Bq I q (by simp))
   |int j=>obtain⟨t',rfl⟩:=ry;exact eq_int (Bq I q aa0)
   |str j=>obtain⟨t',rfl⟩:=ry;exact PySem.EqMixed.eq_int_str (Bq I q (by simp))
   |_=>exact absurd (show false=true from hs) A0K
 |str i=>
   obtain⟨t,rfl⟩:=rx
   cases y with
   |non=>cases ry;exact PySem.EqNone.eq_str_none (Bq I q (by simp))
   |bl j=>cases ry;exact PySem.EqMixed.eq_str_bool (Bq I q (by simp))
   |int j=>obtain⟨t',rfl⟩:=ry;exact PySem.EqMixed.eq_str_int (Bq I q (by simp))
   |str j=>obtain⟨t',rfl⟩:=ry;exact eq_str (Bq I q ad2)
   |_=>exact absurd (show false=true from hs) A0K
 |byt i=>
   obtain⟨t,rfl⟩:=rx
   cases y with
   |byt j=>obtain⟨t',rfl⟩:=ry;exact W.eq_bytes (Bq I q ad1)
   |_=>exact absurd (show false=true from hs) A0K
 |_=>cases y<;>exact absurd (show false=true from hs) A0K
theorem op_ne:OpR X (compareOp .NotEq) rNe:=by
 intro pins s σ H x y v u Q I rx ry h;obtain⟨hs,q⟩:=h
 cases x with
 |non=>
   cases rx
   cases y with
   |non=>cases ry;exact PySem.EqNone.ne_none_none (Bq I q (by simp))
   |bl j=>cases ry;exact PySem.EqNone.ne_none_bool (Bq I q (by simp))
   |int j=>obtain⟨t',rfl⟩:=ry;exact PySem.EqNone.ne_none_int (Bq I q (by simp))
   |str j=>obtain⟨t',rfl⟩:=ry;exact PySem.EqNone.ne_none_str (Bq I q (by simp))
   |_=>exact absurd (show false=true from hs) A0K
 |bl i=>
   cases rx
   cases y with
   |non=>cases ry;exact PySem.EqNone.ne_bool_none (Bq I q (by simp))
   |bl j=>cases ry;exact ne_bool (Bq I q (congrArg not aq3))
   |str j=>obtain⟨t',rfl⟩:=ry;exact PySem.EqMixed.ne_bool_str (Bq I q (by simp))
   |_=>exact absurd (show false=true from hs) A0K
 |int i=>
   obtain⟨t,rfl⟩:=rx
   cases y with
   |non=>cases ry;exact PySem.EqNone.ne_int_none (Bq I q (by simp))
   |int j=>obtain⟨t',rfl⟩:=ry;exact ne_int (Bq I q (congrArg not aa0))
   |str j=>obtain⟨t',rfl⟩:=ry;exact PySem.EqMixed.ne_int_str (Bq I q (by simp))
   |_=>exact absurd (show false=true from hs) A0K
 |str i=>
   obtain⟨t,rfl⟩:=rx
   cases y with
   |non=>cases ry;exact PySem.EqNone.ne_str_none (Bq I q (by simp))
   |bl j=>cases ry;exact PySem.EqMixed.ne_str_bool (Bq I q (by simp))
   |int j=>obtain⟨t',rfl⟩:=ry;exact PySem.EqMixed.ne_str_int (Bq I q (by simp))
   |str j=>obtain⟨t',rfl⟩:=ry;exact ne_str (Bq I q (congrArg not ad2))
   |_=>exact absurd (show false=true from hs) A0K
 |byt i=>
   obtain⟨t,rfl⟩:=rx
   cases y with
   |byt j=>obtain⟨t',rfl⟩:=ry;exact W.ne_bytes (Bq I q (congrArg not ad1))
   |_=>exact absurd (show false=true from hs) A0K
 |_=>cases y<;>exact absurd (show false=true from hs) A0K
theorem ac6:OpR X (compareOp .Lt) (rI0 λi j=>.bl (decide (i<j))):=aO3 λ_ _ _ _ _ _ _ q=>lt_int q
theorem aJ6:OpR X (compareOp .LtE) (rI0 λi j=>.bl (decide (i<=j))):=aO3 λ_ _ _ _ _ _ _ q=>le_int q
theorem Ua:OpR X (compareOp .Gt) (rI0 λi j=>.bl (decide (j<i))):=aO3 λ_ _ _ _ _ _ _ q=>gt_int q
theorem op_in_str:OpR X (compareOp .In) (λx y H Q=>∃ i j,x = .str i/\y = .str j/\Q (.bl (!(Builtin.Str.occurrences j i 0 j.length 1).isEmpty)) H):=by intro pins s σ H x y v u Q I rx ry h;obtain⟨i,j,rfl,rfl,q⟩:=h;obtain⟨t,rfl⟩:=rx;obtain⟨t',rfl⟩:=ry;exact in_str (Bq I q rfl)
theorem az5:OpR X (compareOp .IsNot) (λx y H Q=>y = .non/\Q (.bl (!decide (x = .non))) H):=by
 intro pins s σ H x y v u Q I rx ry h;obtain⟨rfl,q⟩:=h
 cases ry;refine isnot_none_gen (Bq I q ?_)
 cases x<;>first
  | (cases rx;rfl)
  | (obtain⟨t,rfl⟩:=rx;rfl)
theorem OpR.or {f:Value->Value->Sem Value}{r r':R2}(h:OpR X f r)(h':OpR X f r'):OpR X f (λx y H Q=>r x y H Q\/r' x y H Q):=by
 intro pins s σ H x y v u Q I rx ry q;rcases q with q|q
 . exact h pins s σ H x y v u Q I rx ry q
 exact h' pins s σ H x y v u Q I rx ry q
theorem Aq (b:Expr){op:CmpOp}(h:op ≠ .In:=by decide)(h2:op ≠ .NotIn:=by decide):behindInMarks op b=false:=by
 have e1:(op==CmpOp.In)=false:=by cases op<;>first | rfl | exact absurd rfl h
 have e2:(op==CmpOp.NotIn)=false:=by cases op<;>first | rfl | exact absurd rfl h2
 cases b<;>simp[behindInMarks,e1,e2]
theorem Cw {op:CmpOp}{r:R2}(ho:OpR X (compareOp op) r)(ha:PE X a ta)(hb:PE X b tb)(hm:behindInMarks op b=false):PE X (.Compare a [op] [b] pos) (tOp r ta tb):=by intro pins s σ H Q I h;exact wpAny_Compare1 (aR1 ha hb I h λv u s2 x y H2 I2 rx ry q=>ho pins s2 σ H2 x y v u Q I2 rx ry q) hm
def aF5 (t:TE):TT:=fun σ H Q=>t σ H λx H'=>∃ k,x = .bl k/\Q k H'
theorem Ag {op:CmpOp}{r:R2}(ho:OpR X (compareOp op) r)(ha:PE X a ta)(hb:PE X b tb)(hm:behindInMarks op b=false):PT X (.Compare a [op] [b] pos) (aF5 (tOp r ta tb)):=by
 intro pins s σ H Q I h
 refine wpAny_isTrue_Compare1 (thn (ha pins s σ H _ I h) λv s1 ⟨x,H1,I1,r1,q1⟩=>thn (hb pins s1 σ H1 _ I1 q1) λu s2 ⟨y,H2,I2,r2,q2⟩=>thn (ho pins s2 σ H2 x y v u _ I2 r1 r2 q2) λc s3 ⟨z,H3,I3,r3,k,e,q3⟩=>?_) hm
 subst e
 cases r3;exact A2R ⟨H3,I3,q3⟩
def TruV (K:W.Frag)(x:V)(H:Hp)(k:Bool):Prop:=
 match x with
 |.non=>k=false
 |.bl b=>k=b
 |.int i=>k=(i != 0)
 |.str y=>y.length<=sizeLine/\k=((y.length:Int) != 0)
 |.byt y=>y.size<=sizeLine/\k=((y.size:Int) != 0)
 |.ref p=>(∃ xs,SqL K H p xs/\k = !xs.isEmpty)\/(∃ xs,SqT K H p xs/\k = !xs.isEmpty)\/∃ kvs,H p=some (.dK kvs)/\k = !kvs.isEmpty
 |_=>False
theorem Za {κ:Type}{kvs:List (κ×V)}{vs:List (κ×Value)}(r:KV kvs vs):(!vs.isEmpty) = !kvs.isEmpty:=by cases r<;>rfl
theorem Qj {xs:List V}{its:List Value}(r:Vals xs its):(!its.toArray.isEmpty) = !xs.isEmpty:=by cases r<;>simp
theorem Sv:(sizeLine:Nat)<2 ^ 63:=by rw[A1G];decide
theorem aG4:TruR X (λx H Q=>∃ k,TruV X.K x H k/\Q k H):=by
 intro pins s σ H x v Q I rx h;obtain ⟨k,e,q⟩:=h;have hl:=Sv;have hs:sizeLine=16777216:=A1G
 cases x with
 |non=>cases rx;have e':k=false:=e;subst e';exact truthy_none ⟨H,I,q⟩
 |bl b=>cases rx;have e':k=b:=e;subst e';exact A2R ⟨H,I,q⟩
 |int i=>obtain⟨t,rfl⟩:=rx;have e':k=(i != 0):=e;subst e';exact PySem.P.truthy_int ⟨H,I,q⟩
 |str y=>obtain⟨t,rfl⟩:=rx;obtain⟨hy,e'⟩:y.length<=sizeLine/\k=((y.length:Int) != 0):=e;subst e';exact PySem.P.truthy_str nofun ⟨H,I.tok _,q⟩
 |byt y=>obtain⟨t,rfl⟩:=rx;obtain⟨hy,e'⟩:y.size<=sizeLine/\k=((y.size:Int) != 0):=e;subst e';exact W.truthy_bytes nofun ⟨H,I.tok _,q⟩
 |ref p=>
   cases rx;have e':(∃ xs,SqL X.K H p xs/\k = !xs.isEmpty)\/(∃ xs,SqT X.K H p xs/\k = !xs.isEmpty)\/∃ kvs,H p=some (.dK kvs)/\k = !kvs.isEmpty:=e;rcases e' with ⟨xs,hx,e'⟩|⟨xs,hx,e'⟩|⟨kvs,hx,e'⟩
   . subst e';obtain⟨its,r,pl,hz⟩:=I.list hx;have hlen:=r.length;exact wpAny_truthy_list pl.isList (by simp only[List.size_toArray];omega) ⟨H,I.tok _,by rw[Qj r];exact q⟩
   . subst e';obtain⟨its,r,pl,hz⟩:=I.tuple hx;have hlen:=r.length;exact truthy_tuple pl (by simp only[List.size_toArray];omega) ⟨H,I.tok _,by rw[Qj r];exact q⟩
   subst e';obtain⟨hz,hS,vs,r,m⟩:kvs.length<=sizeLine/\(p==sysModules)=false/\∃ vs,KV kvs vs/\s.heap.DictOf (Ay X.prog X.w) p vs:=I.hok p _ hx;have hlen:kvs.length=vs.length:=A3A r;exact wpAny_truthy_dict hS m nofun ⟨H,I.tok _,by rw[Za r];exact q⟩
 |_=>exact(show False from e).elim
theorem op_add_str:OpR X (binaryOp .Add) (λx y H Q=>∃ i j,x = .str i/\y = .str j/\i.length+j.length<=sizeLine/\Q (.str (i++j)) H):=by intro pins s σ H x y v u Q I rx ry h;obtain⟨i,j,rfl,rfl,hz,q⟩:=h;obtain⟨t,rfl⟩:=rx;obtain⟨t',rfl⟩:=ry;exact add_str (λt' tk=>⟨.str (i++j),H,I.tok _,⟨_,rfl⟩,q⟩) hz
theorem Pa {x:V}{us:List Value}(r:Vals [x] us):∃ u,us=[u]/\RelV x u:=by
 cases r with
 |cons r1 r2=>cases r2;exact⟨_,rfl,r1⟩
theorem ax9 {x y:V}{us:List Value}(r:Vals [x,y] us):∃ u w',us=[u,w']/\RelV x u/\RelV y w':=by
 cases r with
 |cons r1 r2=>
   cases r2 with
   |cons r3 r4=>cases r4;exact⟨_,_,rfl,r1,r3⟩
theorem a79:CallR X (.type "int") (λxs H Q=>(∃ i,xs=[.int i]/\Q (.int i) H)\/∃ k,xs=[.bl k]/\Q (.int (if k then 1 else 0)) H):=by
 intro pins s σ H xs us Q I r h;rcases h with ⟨i,rfl,q⟩|⟨k,rfl,q⟩
 . obtain⟨u,rfl,t,rfl⟩:=Pa r;exact call_int_int ⟨.int i,H,I,⟨_,rfl⟩,q⟩
 obtain⟨u,rfl,r1⟩:=Pa r
 cases r1;exact call_int_bool ⟨.int (if k then 1 else 0),H,I.tok _,⟨_,rfl⟩,q⟩
def aT2 (K:W.Frag)(x:V)(H:Hp)(n:Nat):Prop:=
 match x with
 |.str y=>y.length<=sizeLine/\n=y.length
 |.byt y=>y.size<=sizeLine/\n=y.size
 |.ref p=>(∃ xs,SqL K H p xs/\n=xs.length)\/∃ xs,SqT K H p xs/\n=xs.length
 |_=>False
theorem call_len:CallR X (.builtin "len") (λxs H Q=>∃ x n,xs=[x]/\aT2 X.K x H n/\Q (.int n) H):=by
 intro pins s σ H xs us Q I r h;obtain⟨x,n,rfl,e,q⟩:=h;obtain ⟨u,rfl,rx⟩:=Pa r;have hl:=Sv;have hs:sizeLine=16777216:=A1G
 cases x with
 |str y=>obtain⟨t,rfl⟩:=rx;obtain⟨hy,e'⟩:y.length<=sizeLine/\n=y.length:=e;subst e';exact len_str nofun ⟨.int _,H,I.tok _,⟨_,rfl⟩,q⟩
 |byt y=>obtain⟨t,rfl⟩:=rx;obtain⟨hy,e'⟩:y.size<=sizeLine/\n=y.size:=e;subst e';exact W.len_bytes nofun ⟨.int _,H,I.tok _,⟨_,rfl⟩,q⟩
 |ref p=>
   cases rx;have e':(∃ xs,SqL X.K H p xs/\n=xs.length)\/∃ xs,SqT X.K H p xs/\n=xs.length:=e;rcases e' with ⟨xs,hx,e'⟩|⟨xs,hx,e'⟩
   . subst e';obtain⟨its,r',pl,hz⟩:=I.list hx;have hlen:=r'.length;exact Calls.call_len_list pl.isList (by simp only[List.size_toArray];omega) ⟨.int xs.length,H,I.tok _,⟨_,by simp only[List.size_toArray];rw[hlen]⟩,q⟩
   subst e';obtain⟨its,r',pl,hz⟩:=I.tuple hx;have hlen:=r'.length;exact len_tuple pl (by simp only[List.size_toArray];omega) ⟨.int xs.length,H,I.tok _,⟨_,by simp only[List.size_toArray];rw[hlen]⟩,q⟩
 |_=>exact(show False from e).elim
end
structure ObjM (h:Heap)(x dx C:Addr)(mA:Str->Option Value):Prop where
 obj:h.get? x=some (W.instObj C dx)
 ns:h.Ns1 dx mA
 ne:dx≠x
theorem To {h:Heap}{dx:Addr}{mA:Str->Option Value}(n:h.Ns1 dx mA):∃ od,h.get? dx=some od/\∀ name,W.lookIn name od=some (mA name):=by
 obtain⟨o,es,ep,ho,hd,hk,_,hm⟩:=n;refine⟨o,ho,λname=>?_⟩;have e:=hm name;unfold nsFind findBy at e;rw[<- Array.find?_toList] at e;unfold W.lookIn;rw[hd];dsimp only
 split
 . rename_i y q;rw[q] at e;exact congrArg some e
 rename_i q;rw[q] at e
 have a:es.toList.any (·.refKey)=false:=by rw[List.any_eq_false];intro y hy;obtain⟨z,t,hkey⟩:=hk y (Array.mem_toList_iff.mp hy);simp[DictEntry.refKey,hkey]
 have a':¬ es.toList.any (·.refKey)=true:=by rw[a];exact A0K
 rw[A10 a'];exact congrArg some e
theorem ObjM.look {h:Heap}{x dx C:Addr}{mA:Str->Option Value}(I:ObjM h x dx C mA):∃ od,W.InstAt h x (W.instObj C dx) C (some od)/\∀ name,W.lookIn name od=some (mA name):=
 let ⟨od,ho,hl⟩:=To I.ns
 ⟨od,⟨I.obj,rfl,rfl,ho⟩,hl⟩
section
variable {prog:Program}{w:World}{A:Around}{E:Value->Shared->Prop}{s:Shared}{K:W.Frag}{x dx C f:Addr}{mA:Str->Option Value}{name:Str}{v:Value}
theorem at4 {expr:Bool}{Q:Value->Shared->Prop}(X:K.In s.heap)(I:ObjM s.heap x dx C mA)(hg:W.plainGet K C name=true)(hh:W.hasDictIn K C=true)
  (ha:W.findIn K (.ref C) name=some none) (hv:mA name=some v) (hv':W.handedIn v=true) (h:Q v {s with toks:=s.toks+1}) :
  wpAny (model prog w) A (getAttr (.ref x) name expr) Q E s:=by
 obtain⟨od,J,hl⟩:=I.look;exact W.get_value X J (A58 hg).1 (W.findObj_own hh ha rfl (by rw[hl,hv])) hv' h
theorem aj8 {pl:Sem Bool}{Q:Value×List Value->Shared->Prop}(X:K.In s.heap)(I:ObjM s.heap x dx C mA)(hg:W.plainGet K C name=true)
  (hf:W.findIn K (.ref C) name=some (some (.ref f))) (ht:W.isFn K (.ref f)=true) (hv:mA name=none) (h:Q (.ref f,[.ref x]) s) :
  wpAny (model prog w) A (getMethod (.ref x) name pl) Q E s:=by
 obtain⟨od,J,hl⟩:=I.look;exact W.method_fn X J (A58 hg).1 (A58 hg).2 hf (A2T.mp ht) (by show(W.lookIn name od).map (·.isSome)=some false;rw[hl,hv];rfl) h
theorem ax5 {ns:List Str}{Q:Unit->Shared->Prop}(X:K.In s.heap)(I:ObjM s.heap x dx C mA)
  (hs:W.findIn K (.ref C) "__setattr__" = some (some (.builtin "object.__setattr__"))) (hp:W.plainOver K C=true) (ht:W.takerIn K C name=some none) (hh:W.hasDictIn K C=true)
  (hw:PySem.Within mA ns) (hsz:ns.length<=sizeLine)
  (h:∀ h',ObjM h' x dx C (λy=>if y=name then some v else mA y)->Heap.SameBut dx s.heap h'->Q () {s with heap:=h',toks:=s.toks+2}) :
  wpAny (model prog w) A (setAttr (.ref x) name v) Q E s:=by
 obtain⟨od,J,hl⟩:=I.look;refine W.set_plain X J hs (W.osa_open (s:={s with toks:=s.toks+1}) (r:=none) X J hp ht λb=>?_)
 obtain⟨cd,hc,hd'⟩:=W.any_some hh;have hx:s.heap.get? x=some ⟨.ref C,some dx,.plain,#[]⟩:=I.obj;refine A00 (A06 (A00 (A00 (wpAny_loadPart hx (A00 (A5F (s:={s with toks:=s.toks+1}) (A46 X hc) ?_))))))
 rw[hd'];refine A06 (a:=some dx) (A00 (A06 (A00 ?_)));refine wpAny_nsSet1 (s:={s with toks:=s.toks+1}) I.ns λh' hn2 hs2=>?_
 obtain⟨oD,esD,epD,hoD,hdD,hcD⟩:=hn2.count (PySem.Within.cons name v hw);refine A00 (wpAny_lookBehind hoD (by rw[hdD];exact pastItsLine_dict (A0H hcD (by rw[A0E];omega))) ?_);exact A06 (h _ ⟨(hs2.2 _ (Ne.symm I.ne)).trans I.obj,hn2,I.ne⟩ hs2)
theorem an6 {R:Result->Shared->Prop}{vs:List Value}{kw:List (Str×Value)}(X:K.In s.heap)(hm:W.makesIn K C=true)
  (hi:W.findIn K (.ref C) "__init__" = some (some (.ref f))) (hf:W.typeIn K (.ref f)=some (.type "function"))
  (h:codeAny (model prog w) (A.under (.builtin "type.__call__" ⟨.ref C :: vs,kw⟩)) (.call (.ref f) ⟨.ref (s.heap.objs.size+1) :: vs,kw⟩) (W.InitBack (s.heap.objs.size+1) R)
   {s with heap:=(s.heap.push W.emptyDict).push (W.instObj C s.heap.objs.size)}) :
  codeAny (model prog w) A (.call (.ref C) ⟨vs,kw⟩) R s:=by
 obtain⟨hh,g,d,t,os⟩:=s;exact W.make_core (W.makes_of X hm) (A3E X hi) (λself=>W.bind_fn X self hf) (.inl rfl) h
end
def Lm (f:Str) (v:V):List (Str×V)->List (Str×V)
 | []=>[(f,v)]
 | (g,x) :: r=>if g=f then(g,v) :: r else(g,x) :: Lm f v r
theorem Kb (f g:Str)(v:V):∀ fs:List (Str×V),(Lm f v fs).lookup g=if g=f then some v else fs.lookup g
 | []=>by
   show List.lookup g [(f,v)]=_
   by_cases h:g=f
   . have hb:(g==f)=true:=A2T.mpr h;simp only[List.lookup,hb,if_pos h]
   have hb:(g==f)=false:=A1R.mpr h;simp only[List.lookup,hb,if_neg h]
 | (k,x) :: r=>by
   have ih:=Kb f g v r;rw[show Lm f v ((k,x) :: r)=(if k=f then(k,v) :: r else(k,x) :: Lm f v r) from rfl]
   by_cases hk:k=f
   . rw[A15 hk]
     by_cases h:g=k
     . have hb:(g==k)=true:=A2T.mpr h;simp only[List.lookup,hb,if_pos (h.trans hk)]
     have hb:(g==k)=false:=A1R.mpr h;simp only[List.lookup,hb,if_neg (λe:g=f=>h (e.trans hk.symm))]
   rw[A10 hk]
   by_cases h:g=k
   . have hb:(g==k)=true:=A2T.mpr h;simp only[List.lookup,hb,if_neg (λe:g=f=>hk (h.symm.trans e))]
   have hb:(g==k)=false:=A1R.mpr h;simp only[List.lookup,hb];exact ih
theorem Ox (f:Str)(v:V):∀ fs:List (Str×V),f∈(Lm f v fs).map (·.1)/\∀ g,g∈fs.map (·.1)->g∈(Lm f v fs).map (·.1)
 | []=>⟨by simp[Lm],λg h=>by simp at h⟩
 | (k,x) :: r=>by
   obtain⟨i1,i2⟩:=Ox f v r;rw[show Lm f v ((k,x) :: r)=(if k=f then(k,v) :: r else(k,x) :: Lm f v r) from rfl]
   by_cases hk:k=f
   . rw[A15 hk];subst hk;exact⟨by simp,λg h=>by simpa using h⟩
   rw[A10 hk];refine⟨?_,λg h=>?_⟩
   . rw[A0R];exact A0L _ i1
   rw[A0R] at h ⊢;rcases A0F.mp h with e|e
   . exact A0F.mpr (.inl e)
   exact A0L _ (i2 g e)
theorem Mz (f:Str)(v:V):∀ fs:List (Str×V),(Lm f v fs).length<=fs.length+1
 | []=>by simp[Lm]
 | (k,x) :: r=>by
   have ih:=Mz f v r;rw[show Lm f v ((k,x) :: r)=(if k=f then(k,v) :: r else(k,x) :: Lm f v r) from rfl]
   by_cases hk:k=f
   . rw[A15 hk,A0E,A0E];omega
   rw[A10 hk,A0E,A0E];omega
theorem RelO.some_of {v:V}{o:Option Value}(r:RelO (some v) o):∃ u,o=some u/\RelV v u:=by
 cases o with
 |none=>exact(show False from r).elim
 |some u=>exact⟨u,rfl,r⟩
theorem RelO.none_of {o:Option Value}(r:RelO none o):o=none:=by
 cases o with
 |none=>rfl
 |some u=>exact(show False from r).elim
theorem Ul {v:V}{u:Value}(r:RelV v u):W.handedIn u=true:=by
 cases v with
 |non=>cases (show u=Value.none from r);rfl
 |bl b=>cases (show u=Value.bool b from r);rfl
 |int i=>obtain⟨t,e⟩:=(show ∃ t,u=Value.int i t from r);cases e;rfl
 |str x=>obtain⟨t,e⟩:=(show ∃ t,u=Value.str x t from r);cases e;rfl
 |byt b=>obtain⟨t,e⟩:=(show ∃ t,u=Value.bytes b t from r);cases e;rfl
 |flt b=>obtain⟨t,e⟩:=(show ∃ t,u=Value.float b t from r);cases e;rfl
 |ref a=>cases (show u=Value.ref a from r);rfl
 |ty n=>cases (show u=Value.type n from r);rfl
section
variable {P:Program}{w:World}{H H':Hp}{h h':Heap}{a C dx:Addr}{fs fs':List (Str×V)}
theorem Rx (hok:HOk P w H h)(e:H a=some (.ins C dx fs)):∃ mA,ObjM h a dx C mA/\(∀ f,RelO (fs.lookup f) (mA f))/\PySem.Within mA (fs.map (·.1))/\fs.length<=1000/\H dx=some (.own a):=by obtain⟨d,z,ne,ob,mA,n,r,q⟩:=(show ObjOk P w H h a (.ins C dx fs) from hok a _ e);exact⟨mA,⟨ob,n,ne⟩,r,q,z,d⟩
end
structure Cls (K:W.Frag)(C:Addr):Prop where
 pg:W.plainGet K C Str.empty=true
 hd:W.hasDictIn K C=true
 po:W.plainOver K C=true
 sa:W.findIn K (.ref C) "__setattr__" = some (some (.builtin "object.__setattr__"))
theorem Cls.get {K:W.Frag}{C:Addr}(c:Cls K C)(f:Str):W.plainGet K C f=true:=c.pg
def NoAttr (K:W.Frag)(C:Addr)(f:Str):Prop:=W.findIn K (.ref C) f=some none
theorem NoAttr.taker {K:W.Frag}{C:Addr}{f:Str}(n:NoAttr K C f):W.takerIn K C f=some none:=by unfold W.takerIn;rw[show W.findIn K (.ref C) f=some none from n];rfl
structure aO0 (K:W.Frag)(C:Addr)(m:Str)(f:Addr):Prop where
 at_:W.findIn K (.ref C) m=some (some (.ref f))
 fn:W.isFn K (.ref f)=true
 kp:W.keepIn K (.ref f)=true
section
variable {X:Cx}{pins:List (Addr×Obj)}{σ:St}{H:Hp}{s:Shared}{a C dx:Addr}{fs:List (Str×V)}{f:Str}{v:V}{A:Around}{E:Value->Shared->Prop}
theorem Yu {b:Bool}{Q:Value->Shared->Prop}(I:Inv X pins σ H s)(e:H a=some (.ins C dx fs))(c:Cls X.K C)(n:NoAttr X.K C f)(l:fs.lookup f=some v)
  (h:∀ u s',Inv X pins σ H s'->RelV v u->Q u s'):wpAny (model X.prog X.w) A (getAttr (.ref a) f b) Q E s:=by
 obtain⟨mA,O,r,_,_,_⟩:=Rx I.hok e;obtain⟨u,hu,ru⟩:=RelO.some_of (v:=v) (o:=mA f) (by rw[<- l];exact r f);exact at4 I.kIn O (c.get f) c.hd n hu (Ul ru) (h u _ (I.tok _) ru)
theorem Yt {m:Str}{g:Addr}{pl:Sem Bool}{Q:Value×List Value->Shared->Prop}(I:Inv X pins σ H s)(e:H a=some (.ins C dx fs))(c:Cls X.K C)(k:aO0 X.K C m g)(l:fs.lookup m=none)
  (h:Q (.ref g,[.ref a]) s):wpAny (model X.prog X.w) A (getMethod (.ref a) m pl) Q E s:=by
 obtain⟨mA,O,r,_,_,_⟩:=Rx I.hok e;have hn:mA m=none:=RelO.none_of (by rw[<- l];exact r m);exact aj8 I.kIn O (c.get m) k.at_ k.fn hn h
theorem Y8 {y:V}{u:Value}{Q:Unit->Shared->Prop}(I:Inv X pins σ H s)(e:H a=some (.ins C dx fs))(c:Cls X.K C)(n:NoAttr X.K C f)(hl:fs.length<1000)(ry:RelV y u)
  (h:∀ s',Inv X pins σ (upd H a (.ins C dx (Lm f y fs))) s'->Q () s'):wpAny (model X.prog X.w) A (setAttr (.ref a) f u) Q E s:=by
 obtain⟨mA,O,r,wi,_,ho⟩:=Rx I.hok e;have hz:(fs.map (·.1)).length<=sizeLine:=by rw[A01,A1G];omega
 refine ax5 I.kIn O c.sa c.po n.taker c.hd wi hz λh' O' sb=>h _ ?_;have hd:∃ o,h'.get? dx=some o:=let ⟨o,_,_,e',_⟩:=O'.ns;⟨o,e'⟩;refine I.write (x:=a) (e:=dx) (by rw[e];exact A22) (.inr ho) (λb q hb z=>(sb.2 b hb).trans z) hd ?_;refine⟨by rw[Az O.ne];exact ho,?_,O.ne,O'.obj,_,O'.ns,λg=>?_,λg hg=>?_⟩
 . have:=Mz f y fs;omega
 . show RelO ((Lm f y fs).lookup g) (if g=f then some u else mA g)
   rw[Kb]
   by_cases q:g=f
   . rw[A15 q,A15 q];exact ry
   rw[A10 q,A10 q];exact r g
 by_cases q:g=f
 . rw[q];exact(Ox f y fs).1
 refine(Ox f y fs).2 g (wi g λz=>hg ?_);show(if g=f then some u else mA g)=none
 rw[A10 q];exact z
theorem Inv.made (I:Inv X pins σ H s):Inv X pins σ (upd (upd H s.heap.objs.size (.own (s.heap.objs.size+1))) (s.heap.objs.size+1) (.ins C s.heap.objs.size []))
  {s with heap:=(s.heap.push W.emptyDict).push (W.instObj C s.heap.objs.size)}:=by
 have e1:(s.heap.push W.emptyDict).get? s.heap.objs.size=some W.emptyDict:=A0B s.heap rfl
 have e2:((s.heap.push W.emptyDict).push (W.instObj C s.heap.objs.size)).get? (s.heap.objs.size+1)=some (W.instObj C s.heap.objs.size):=by have:=A0B (s.heap.push W.emptyDict) (o:=W.instObj C s.heap.objs.size) rfl;rwa[A1P] at this
 have e3:(s.heap.push W.emptyDict).Ns s.heap.objs.size (λ_=>none):=⟨W.emptyDict,#[],_,e1,rfl,(λe he=>absurd he (by simp)),λ_=>rfl⟩;have I1:=I.laid (a:=s.heap.objs.size) (o:=.own (s.heap.objs.size+1)) (h':=s.heap.push W.emptyDict) (t':=s.toks) (λb u q=>A02 _ q) (A0D _) ⟨_,e1⟩;refine I1.laid (a:=s.heap.objs.size+1) (o:=.ins C s.heap.objs.size []) (t':=s.toks) (λb u q=>A02 _ q) (Nat.le_of_eq (A1P _ _)) ?_;have ne:s.heap.objs.size≠s.heap.objs.size+1:=A0J (A3F _);refine⟨by rw[Az ne,Ad],A3U _,ne,e2,λ_=>none,(Heap.Ns1.of_empty e3).at λo q=>A02 _ q,λ_=>A22,λy hy=>absurd rfl hy⟩
theorem aa9 {prog:Program}{w:World}{env:Env}{e:Expr}{f:Str}{pos:Pos}{s:Shared}{Q:Value->Shared->Prop}(hb:attributeBase e f env (eval e env)=eval e env)
  (h:wpAny (model prog w) A (eval e env) (λo s₁=>wpAny (model prog w) A (getAttr o f true) Q E s₁) E s):wpAny (model prog w) A (eval (.Attribute e f pos) env) Q E s:=
 Attribute_any_ h (by rw[arm_eval_Attribute,hb])
end
section
variable {X:Cx}{o e value:Expr}{f:Str}{pos pos' tpos:Pos}{ta tv:TE}
end
section
variable {X:Cx}{pins:List (Addr×Obj)}{σ:St}{H:Hp}{s:Shared}{A:Around}{E:Value->Shared->Prop}{Q:Value->Shared->Prop}{c:Value}{b:Bool}
inductive TyOf (K:W.Frag)(H:Hp):V->Value->Prop where
 |non:TyOf K H .non (.type "NoneType")
 |bl (x:Bool):TyOf K H (.bl x) (.type "bool")
 |int (i:Int):TyOf K H (.int i) (.type "int")
 |str (x:Str):TyOf K H (.str x) (.type "str")
 |flt (x:UInt64):TyOf K H (.flt x) (.type "float")
 |lst {a:Addr} {xs:List V} (e:H a=some (.lst xs)):TyOf K H (.ref a) (.type "list")
 |frz {a:Addr} {o:Obj} {xs:List V} (e:H a=some (.frz o (.lst xs))):TyOf K H (.ref a) (.type "list")
 |tup {a:Addr} {xs:List V} (e:H a=some (.tup xs)):TyOf K H (.ref a) (.type "tuple")
 |dK {a:Addr} {kvs:List (Key×V)} (e:H a=some (.dK kvs)):TyOf K H (.ref a) (.type "dict")
 |dT {a:Addr} {kvs:List (List Key×V)} (e:H a=some (.dT kvs)):TyOf K H (.ref a) (.type "dict")
 |ins {a C dx:Addr} {fs:List (Str×V)} (e:H a=some (.ins C dx fs)) (cl:Cls K C) (ha:W.findIn K (.ref C) "__class__" = some (some (.builtin "object.__class__")))
   (hn:W.specialIn K (.builtin "object.__class__") "__get__" = some (some (.builtin "getset_descriptor.__get__"))) (htk:W.takesIn K (.builtin "object.__class__")=some true)
   (hm:W.mroIn K C (.type "object")=some true):TyOf K H (.ref a) (.ref C)
theorem Uu {x:V}{u t:Value}(I:Inv X pins σ H s)(rx:RelV x u)(ty:TyOf X.K H x t)(e:W.kitOne X.K t c=some b)(h:∀ tk,Q (.bool b) {s with toks:=tk}) :
  wpAny (model X.prog X.w) A (call (.builtin "isinstance") [u,c]) Q E s:=by
 cases ty with
 |non=>cases (show u=Value.none from rx);exact A1S W.kitx_none I.kIn A22 e (λz=>nomatch z) h
 |bl y=>cases (show u=Value.bool y from rx);exact A1S W.kitx_bool I.kIn A22 e (λz=>nomatch z) h
 |int i=>obtain⟨t,q⟩:=(show ∃ t,u=Value.int i t from rx);cases q;exact A1S W.kitx_int I.kIn A22 e (λz=>nomatch z) h
 |str y=>obtain⟨t,q⟩:=(show ∃ t,u=Value.str y t from rx);cases q;exact A1S W.kitx_str I.kIn A22 e (λz=>nomatch z) h
 |flt y=>obtain⟨t,q⟩:=(show ∃ t,u=Value.float y t from rx);cases q;exact A1S W.kitx_float I.kIn A22 e (λz=>nomatch z) h
 |@lst a xs ea=>cases (show u=Value.ref a from rx);obtain⟨_,_,n,_,h1⟩:=(show ObjOk X.prog X.w H s.heap a (.lst xs) from I.hok a _ ea);exact A1S W.kitx_list I.kIn ⟨_,h1,rfl⟩ e (λz=>nomatch z) h
 |@frz a ob xs ea=>cases (show u=Value.ref a from rx);obtain⟨_,_,_,n,_,h1⟩:=(show ObjOk X.prog X.w H s.heap a (.frz ob (.lst xs)) from I.hok a _ ea);exact A1S W.kitx_list I.kIn ⟨_,h1,rfl⟩ e (λz=>nomatch z) h
 |@tup a xs ea=>cases (show u=Value.ref a from rx);obtain⟨_,_,_,p⟩:=(show ObjOk X.prog X.w H s.heap a (.tup xs) from I.hok a _ ea);obtain⟨o,h1,h2,_⟩:=p;exact A1S W.kitx_tuple I.kIn ⟨o,h1,h2⟩ e (λz=>nomatch z) h
 |@dK a kvs ea=>cases (show u=Value.ref a from rx);obtain⟨_,_,vs,_,p⟩:=(show ObjOk X.prog X.w H s.heap a (.dK kvs) from I.hok a _ ea);obtain⟨o,es,ep,h1,h2,_⟩:=p;exact A1S W.kitx_dict I.kIn ⟨o,h1,h2.1⟩ e (λz=>nomatch z) h
 |@dT a kvs ea=>cases (show u=Value.ref a from rx);obtain⟨_,_,xs,_,o,es,ep,h1,h2,_⟩:=(show ObjOk X.prog X.w H s.heap a (.dT kvs) from I.hok a _ ea);exact A1S W.kitx_dict I.kIn ⟨o,h1,h2.1⟩ e (λz=>nomatch z) h
 |@ins a C dx fs ea cl ha hn htk hm=>cases (show u=Value.ref a from rx);obtain⟨mA,O,_⟩:=Rx I.hok ea;obtain⟨od,J,_⟩:=O.look;exact A1S (W.kitx_own (cl.get _) cl.hd ha hn htk hm) I.kIn J e (λz=>nomatch z) h
end
structure Room (k:Nat)(A:Around):Prop where
 hd:A.handled=none
 dp:A.depth+3*k+5<recursionLimit
 un:A.units+16*k+200<cLine
 gd:A.guards=some []
theorem Room.mono {j k:Nat}{A:Around}(r:Room k A)(h:j<=k):Room j A:=⟨r.hd,by have:=r.dp;omega,by have:=r.un;omega,r.gd⟩
theorem Room.deeper {k:Nat}{A:Around}(r:Room (k+1) A)(env:Env):Room k (A.deeper env):=
 ⟨r.hd,by have:=r.dp;show A.depth+1+3*k+5<_;omega,by have:=r.un;show A.units+3+16*k+200<_;omega,r.gd⟩
theorem Yk {A:Around}{C:Addr}{us:List Value}{kw:List (Str×Value)}:(A.under (.builtin "type.__call__" ⟨.ref C :: us,kw⟩)).depth=A.depth+1:=by first | rfl | simp[Around.under,Code.weight,Code.isCreation,Code.isGuard,Code.isCaller,Code.frames,Code.isFrame,guardIds]
theorem Yq {A:Around}{C:Addr}{us:List Value}{kw:List (Str×Value)}:(A.under (.builtin "type.__call__" ⟨.ref C :: us,kw⟩)).units=A.units+1:=by first | rfl | simp[Around.under,Code.cUnits,Code.frames,Code.isFrame]
theorem Room.make {k:Nat}{A:Around}(r:Room (k+1) A)(C:Addr)(us:List Value)(kw:List (Str×Value)):Room k (A.under (.builtin "type.__call__" ⟨.ref C :: us,kw⟩)):=
 ⟨r.hd,by have:=r.dp;rw[Yk];omega,by have:=r.un;rw[Yq];omega,(by first | exact r.gd | (simpa[Around.under,Code.isGuard,guardIds,pushGuards] using r.gd))⟩
theorem Room.depth {k:Nat}{A:Around}(r:Room k A):A.depth<recursionLimit:=by have:=r.dp;omega
theorem Room.units {k:Nat}{A:Around}(r:Room k A):A.units+64<cLine:=by have:=r.un;omega
def aT0:TA:=λ_ H Q=>Q [] H
def aL8 (ta:TE)(tr:TA):TA:=fun σ H Q=>ta σ H λx H1=>tr σ H1 λxs H2=>Q (x :: xs) H2
section
variable {X:Cx}{e:Expr}{es:List Expr}{te:TE}{t:TA}{pos:Pos}
theorem A1:PA X [] aT0:=λ_ _ _ _ H Q I h=>A3B ⟨[],H,I,.nil,h⟩
theorem A0 (ha:PE X e te)(hr:PA X es t)(hs:starEach (e :: es) X.env=(false,eval e X.env) :: starEach es X.env:=by ac_nf):PA X (e :: es) (aL8 te t):=by intro pos pins s σ H Q I h;rw[hs];show wpAny _ _ (spliced ((false,eval e X.env) :: backTo pos (starEach es X.env))) _ _ s;refine A35 (thn (ha pins s σ H _ I h) λu s1 ⟨x,H1,I1,r1,q1⟩=>?_);exact thn (hr pos pins s1 σ H1 _ I1 q1) λus s2 ⟨xs,H2,I2,r2,q2⟩=>⟨x :: xs,H2,I2,.cons r1 r2,q2⟩
def aS9 (t:TA):TE:=fun σ H Q=>t σ H λxs H1=>xs.length<=sizeLine/\∀ p,H1 p=none->Q (.ref p) (upd H1 p (.tup xs))
def aS3 (t:TA):TE:=fun σ H Q=>t σ H λxs H1=>xs.length<=sizeLine/\∀ p,H1 p=none->Q (.ref p) (upd H1 p (.lst xs))
theorem Bi {x1}(h:PA X es t):PE X (.Tuple es x1 pos) (aS9 t):=by intro pins s σ H Q I hq;refine wpAny_Tuple_spliced (thn (h pos pins s σ H _ I hq) λus s1 ⟨xs,H1,I1,r,z,q⟩=>⟨by rw[<- r.length];exact z,?_⟩);have hf:H1 s1.heap.objs.size=none:=I1.hok.fresh (A0D _);refine⟨.ref s1.heap.objs.size,upd H1 s1.heap.objs.size (.tup xs),I1.laid (t':=s1.toks) (λb u e=>A02 _ e) (A0D _) ?_,rfl,q _ hf⟩;exact⟨z,us,r,⟨_,A0B _ rfl,rfl,⟨_,rfl⟩,rfl⟩⟩
theorem Dq (h:PA X es t):PE X (.List es pos) (aS3 t):=by intro pins s σ H Q I hq;refine wpAny_List_spliced (thn (h pos pins s σ H _ I hq) λus s1 ⟨xs,H1,I1,r,z,q⟩=>⟨by rw[<- r.length];exact z,?_⟩);have hf:H1 s1.heap.objs.size=none:=I1.hok.fresh (A0D _);refine⟨.ref s1.heap.objs.size,upd H1 s1.heap.objs.size (.lst xs),I1.laid (t':=s1.toks) (λb u e=>A02 _ e) (A0D _) ?_,rfl,q _ hf⟩;exact⟨z,us,0,r,A0B _ rfl⟩
end
abbrev Sp:=List V->Hp->VK->XK->Prop
abbrev CXT:=List Env->Hp->Shared->XK->Value->Shared->Prop
structure Env0 (P:Program)(w:World)(K:W.Frag)(mg:Str->Option Value)(base:Heap)(A:Around)(outer:List Env)(s:Shared)(H:Hp):Prop where
 frames:A.frames=some outer
 mod:Mod K mg base
 bs:∀ b o,base.get? b=some o->s.heap.get? b=some o/\H b=none
 bsz:base.objs.size<=s.heap.objs.size
 funs:s.heap.FunFrames base outer
 frf:∀ b∈frs outer,H b=none
 hok:HOk P w H s.heap
 bare:AllBare s.gens
def CE (outer:List Env)(P:Program)(w:World)(H:Hp)(s:Shared)(Q:VK)(u:Value)(s':Shared):Prop:=
 ∃ v H',s'.os=s.os/\AllBare s'.gens/\Un (frs outer) [] H H' s.heap s'.heap/\HOk P w H' s'.heap/\RelV v u/\Q v H'
def CR (CX:CXT)(outer:List Env)(P:Program)(w:World)(H:Hp)(s:Shared)(Q:VK)(E:XK)(r:Result)(s':Shared):Prop:=
 match r with
 |.ok (.ret u)=>CE outer P w H s Q u s'
 |.ok _=>False
 |.error e=>CX outer H s E e s'
structure FnOk (P:Program)(w:World)(K:W.Frag)(mg:Str->Option Value)(base:Heap)(CX:CXT)(k:Nat)(f:Addr)(fd:FuncData)(ps:List Str)(sp:Sp):Prop where
 len:∀ vs H Q E,sp vs H Q E->vs.length=ps.length
 run:∀(A:Around) (outer:List Env) (s:Shared) (H:Hp) (args:Args) (us:List Value) (vs:List V) (Q:VK) (E:XK),Room k A->Env0 P w K mg base A outer s H->BindsTo s fd args (ps.zip us)->Vals vs us->sp vs H Q E ->
  codeAny (model P w) A (.call (.ref f) args) (CR CX outer P w H s Q E) s
theorem Env0.make {P:Program}{w:World}{K:W.Frag}{mg:Str->Option Value}{base:Heap}{A:Around}{outer:List Env}{s:Shared}{H:Hp}(e:Env0 P w K mg base A outer s H)(C:Addr)(us:List Value)(kw:List (Str×Value)) :
  Env0 P w K mg base (A.under (.builtin "type.__call__" ⟨.ref C :: us,kw⟩)) outer s H:=⟨by first | exact e.frames | (simpa[Around.under,Code.envs,Code.isFrame,pushEnvs] using e.frames),e.mod,e.bs,e.bsz,e.funs,e.frf,e.hok,e.bare⟩
section
variable {X:Cx}{pins:List (Addr×Obj)}{σ:St}{H:Hp}{s s':Shared}
theorem Inv.env0 (I:Inv X pins σ H s):Env0 X.prog X.w X.K X.mg X.base X.A X.stack s H:=
 ⟨I.ok.frames,I.ok.mod,I.bs,A0H I.ok.bsz I.sz,I.stack,I.stkFree,I.hok,I.bare⟩
theorem Inv.after {Q:VK}{u:Value}(I:Inv X pins σ H s)(h:CE X.stack X.prog X.w H s Q u s'):EP X pins σ Q u s':=by obtain⟨v,H',os,bare,un,hok,r,q⟩:=h;obtain⟨hh,g,d,t,os'⟩:=s';obtain rfl:os'=s.os:=os;exact⟨v,H',I.call (h':=hh) (g':=g) (d':=d) (t':=t) (ch:=[]) un hok bare (λb z=>absurd z (by simp)),r,q⟩
end
def ak2 (sp:Sp)(dvs:List V)(E:XK)(t:TA):TE:=fun σ H Q=>t σ H λvs H1=>sp (vs++dvs) H1 Q E
def aP9 (C:Addr)(m:Str)(sp:Sp)(dvs:List V)(E:XK)(ta:TE)(t:TA):TE:=fun σ H Q=>ta σ H λx H1=>∃ a dx fs,x = .ref a/\H1 a=some (.ins C dx fs)/\fs.lookup m=none /\
 t σ H1 λvs H2=>sp (x :: (vs++dvs)) H2 Q E
def aO7 (C:Addr)(sp:Sp)(dvs:List V)(E:XK)(t:TA):TE:=fun σ H Q=>t σ H λvs H1=>∀ x dx,H1 x=none->H1 dx=none->dx≠x ->
 sp (.ref x :: (vs++dvs)) (upd (upd H1 dx (.own x)) x (.ins C dx [])) (λv H2=>v = .non/\Q (.ref x) H2) E
def Binds (K:W.Frag)(fd:FuncData)(ps:List Str)(ds:List Value):Prop:=
 ∀(s:Shared) (us:List Value),K.In s.heap->(us++ds).length=ps.length->BindsTo s fd ⟨us,[]⟩ (ps.zip (us++ds))
theorem Binds.all {K:W.Frag}{fd:FuncData}{ps:List Str}(h:∀ us:List Value,us.length=ps.length->bindArgs fd ⟨us,[]⟩=pure (ps.zip us)):Binds K fd ps []:=λs us _ hl=>by rw[A1Z] at hl ⊢;exact .of_eq (h us hl)
def Kk (CX:CXT)(X:Cx)(E:XK):Prop:=∀(pins:List (Addr×Obj)) (σ:St) (H:Hp) (s:Shared) (e:Value) (s':Shared),Inv X pins σ H s->CX X.stack H s E e s'->X.xe e s'
section
variable {X:Cx}{CX:CXT}{k:Nat}{f C:Addr}{fd:FuncData}{ps:List Str}{sp:Sp}{dvs:List V}{ds:List Value}{E:XK}{x m:Str}{p pos apos:Pos}{e o:Expr}{es:List Expr}{ta:TE}{t:TA}
theorem aq7 {pins:List (Addr×Obj)}{σ:St}{H:Hp}{s:Shared}{Q:VK}{us:List Value}{vs:List V}(F:FnOk X.prog X.w X.K X.mg X.base CX k f fd ps sp)(hr:Room k X.A)(hb:Binds X.K fd ps ds)(hd:Vals dvs ds)(hx:Kk CX X E)
  (I:Inv X pins σ H s) (r:Vals vs us) (h:sp (vs++dvs) H Q E):wpAny (model X.prog X.w) X.A (call (.ref f) us) (EP X pins σ Q) X.xe s:=by
 have r2:Vals (vs++dvs) (us++ds):=r.append hd;have hl:(us++ds).length=ps.length:=by rw[<- r2.length];exact F.len _ _ _ _ h
 refine A4J (A3G (F.run X.A X.stack s H ⟨us,[]⟩ (us++ds) (vs++dvs) Q E hr I.env0 (hb s us I.kIn hl) r2 h) λr s' hq=>?_)
 cases r with
 |error e=>exact hx pins σ H s e s' I hq
 |ok fl=>
   cases fl with
   |ret u=>exact I.after hq
   |next=>exact False.elim hq
   |brk=>exact False.elim hq
   |cont=>exact False.elim hq
theorem ac2 (F:FnOk X.prog X.w X.K X.mg X.base CX k f fd ps sp)(hr:Room k X.A)(hg:Gl X x)(hm:X.mg x=some (.ref f))(hk:W.keepIn X.K (.ref f)=true)(hb:Binds X.K fd ps ds)(hd:Vals dvs ds)(hx:Kk CX X E)
  (ha:PA X (e :: es) t) (hdb:(x==("__debug__":Str))=false:=by decide) (he:starEach (e :: es) X.env=(false,eval e X.env) :: starEach es X.env:=by ac_nf) (hpl:(backTo pos (starEach es X.env)).any (·.1)=false:=by ac_nf) :
  PE X (.Call (.Name x p) (e :: es) [] pos) (ak2 sp dvs E t):=by
 intro pins s σ H Q I h;refine A1X (Ky I hg hm ?_ hdb);refine A3J (h₀:=X.base) I.ok.mod.kin hk (thn (ha pos pins s σ H _ I h) λus s1 ⟨vs,H1,I1,r,q⟩=>⟨I1.kIn,?_⟩) he hpl;exact aq7 F hr hb hd hx I1 r q
theorem ax4 {pl:Sem Bool}(he:PE X o ta)(c:Cls X.K C)(hm:aO0 X.K C m f)(F:FnOk X.prog X.w X.K X.mg X.base CX k f fd ps sp)(hr:Room k X.A)(hb:Binds X.K fd ps ds)(hd:Vals dvs ds)(hx:Kk CX X E)(ha:PA X (e :: es) t)
  (hst:starEach (e :: es) X.env=(false,eval e X.env) :: starEach es X.env:=by ac_nf) (hpl:(backTo pos (starEach es X.env)).any (·.1)=false:=by ac_nf)
  (ht:eval (.Call (.Attribute o m apos) (e :: es) [] pos) X.env=(do
   let ov <- eval o X.env
   standAt apos.atName
   let (f,first) <- holding [ov] (getMethod ov m pl)
   callWith pos f first (backTo pos (starEach (e :: es) X.env)) (backToKw pos (keywordEach [] X.env))):=by ac_nf) :
  PE X (.Call (.Attribute o m apos) (e :: es) [] pos) (aP9 C m sp dvs E ta t):=by
 intro pins s σ H Q I h;refine W.methodCall_KW (pl:=pl) (thn (he pins s σ H _ I h) λu s1 ⟨x,H1,I1,rx,a,dx,fs,ex,ea,l,q⟩=>?_) ht;subst ex;obtain rfl:u=Value.ref a:=rx;refine Yt I1 ea c hm l ?_;refine A3J (first:=[.ref a]) (h₀:=X.base) I.ok.mod.kin hm.kp (thn (ha pos pins s1 σ H1 _ I1 q) λus s2 ⟨vs,H2,I2,r,q2⟩=>⟨I2.kIn,?_⟩) hst hpl
 exact aq7 (us:=.ref a :: us) (vs:=.ref a :: vs) F hr hb hd hx I2 (.cons rfl r) q2
structure Mk (K:W.Frag)(C f:Addr):Prop where
 makes:W.makesIn K C=true
 init:W.findIn K (.ref C) "__init__" = some (some (.ref f))
 fn:W.isFn K (.ref f)=true
 kp:W.keepIn K (.ref C)=true
theorem ak1 {pins:List (Addr×Obj)}{σ:St}{H:Hp}{s:Shared}{Q:VK}{us:List Value}{vs:List V}(M:Mk X.K C f)(F:FnOk X.prog X.w X.K X.mg X.base CX k f fd ps sp)(hr:Room (k+1) X.A)(hb:Binds X.K fd ps ds)(hd:Vals dvs ds)
  (hx:Kk CX X E) (I:Inv X pins σ H s) (r:Vals vs us)
  (h:∀ x dx,H x=none->H dx=none->dx≠x->sp (.ref x :: (vs++dvs)) (upd (upd H dx (.own x)) x (.ins C dx [])) (λv H2=>v = .non/\Q (.ref x) H2) E) :
  wpAny (model X.prog X.w) X.A (call (.ref C) us) (EP X pins σ Q) X.xe s:=by
 have hq:=h (s.heap.objs.size+1) s.heap.objs.size (I.hok.fresh (A38 _)) (I.hok.fresh (A0D _)) (A0J (A3F _));have I2:=Inv.made (C:=C) I;have r2:Vals (V.ref (s.heap.objs.size+1) :: (vs++dvs)) (Value.ref (s.heap.objs.size+1) :: (us++ds)):=.cons rfl (r.append hd)
 have hl:(Value.ref (s.heap.objs.size+1) :: us++ds).length=ps.length:=by have e:=r2.length;rw[F.len _ _ _ _ hq] at e;exact e.symm
 refine A4J (an6 (f:=f) I.kIn M.makes M.init (A2T.mp M.fn) (A3G (F.run _ X.stack _ _ ⟨Value.ref (s.heap.objs.size+1) :: us,[]⟩ (Value.ref (s.heap.objs.size+1) :: (us++ds)) _ _ E (hr.make C us [])
  (I2.env0.make C us []) (hb _ (Value.ref (s.heap.objs.size+1) :: us) I2.kIn hl) r2 hq) λr s' hq'=>?_))
 cases r with
 |error e=>exact hx pins σ _ _ e s' I2 hq'
 |ok fl=>
   cases fl with
   |ret u=>obtain⟨v,H',I3,rv,ev,q3⟩:=I2.after hq';subst ev;exact⟨rv,⟨V.ref (s.heap.objs.size+1),H',I3,rfl,q3⟩⟩
   |next=>exact False.elim hq'
   |brk=>exact False.elim hq'
   |cont=>exact False.elim hq'
theorem aB8 (M:Mk X.K C f)(F:FnOk X.prog X.w X.K X.mg X.base CX k f fd ps sp)(hr:Room (k+1) X.A)(hg:Gl X x)(hm:X.mg x=some (.ref C))(hb:Binds X.K fd ps ds)(hd:Vals dvs ds)(hx:Kk CX X E)
  (ha:PA X (e :: es) t) (hdb:(x==("__debug__":Str))=false:=by decide) (he:starEach (e :: es) X.env=(false,eval e X.env) :: starEach es X.env:=by ac_nf) (hpl:(backTo pos (starEach es X.env)).any (·.1)=false:=by ac_nf) :
  PE X (.Call (.Name x p) (e :: es) [] pos) (aO7 C sp dvs E t):=by
 intro pins s σ H Q I h;refine A1X (Ky I hg hm ?_ hdb);refine A3J (h₀:=X.base) I.ok.mod.kin M.kp (thn (ha pos pins s σ H _ I h) λus s1 ⟨vs,H1,I1,r,q⟩=>⟨I1.kIn,?_⟩) he hpl;exact ak1 M F hr hb hd hx I1 r q
end
section
variable {X:Cx}{CX:CXT}{k:Nat}{f C:Addr}{fd:FuncData}{ps ks:List Str}{sp:Sp}{E:XK}{x m:Str}{p pos apos kpos:Pos}{e o:Expr}{es:List Expr}{kws:List Keyword}{te ta:TE}{t tk:TA}{nm:Option Str}
variable {g:List Value->List Value->List Value}{gV:List V->List V->List V}
end
structure Ah (N P:List Str)(sc:Scope):Prop where
 kind:sc.kind = .function
 co:sc.isCoroutine=false
 gen:sc.isGenerator=false
 nd:N.Nodup
 pre:N.take P.length=P
 par:∀ x∈P,sc.names.lookup x=some .local\/sc.names.lookup x=some .cell
 nofree:∀ y∈sc.names,y.2 ≠ .free
theorem Tl {kindOf:Str->Option NameKind}{x:Str}:∀ {binds:List (Str×Value)} {m:Str->Option Value},(∀ v,(x,v)∉binds)->bindL kindOf binds m x=m x
 | [],_,_=>rfl
 | (n,v) :: r,m,h=>by
   unfold bindL;rw[Tl λw hw=>h w (A0L _ hw)]
   split
   . have:x≠n:=by rintro rfl;exact h v A12
     simp[this]
   rfl
theorem Tp {kindOf:Str->Option NameKind}{x:Str}:∀ {binds:List (Str×Value)} {m:Str->Option Value},(∀ v,(x,v)∉binds)->bindC kindOf binds m x=m x
 | [],_,_=>rfl
 | (n,v) :: r,m,h=>by
   unfold bindC;rw[Tp λw hw=>h w (A0L _ hw)]
   split
   . rfl
   have:x≠n:=by rintro rfl;exact h v A12
   simp[this]
theorem Uq {kindOf:Str->Option NameKind} {x:Str} {v:Value}:∀ {P:List Str} {vs:List Value} {i:Nat} {m:Str->Option Value},P.Nodup->P[i]? = some x->vs[i]? = some v->kindOf x=some .local ->
  bindL kindOf (P.zip vs) m x=some v
 | [],_,_,_,_,h,_,_=>by simp at h
 |_ :: _,[],_,_,_,_,h,_=>by simp at h
 |p :: P,w :: vs,0,m,nd,h1,h2,hk=>by simp at h1 h2;subst h1;subst h2;show bindL kindOf ((p,w) :: P.zip vs) m p=_;unfold bindL;rw[Tl λv hv=>(A0U.mp nd).1 (A47 hv).1,A15 hk];simp
 |p :: P,w :: vs,i+1,m,nd,h1,h2,hk=>by show bindL kindOf ((p,w) :: P.zip vs) m x=_;unfold bindL;exact Uq (i:=i) (List.nodup_cons.mp nd).2 (by simpa using h1) (by simpa using h2) hk
theorem Uz {kindOf:Str->Option NameKind} {x:Str} {v:Value}:∀ {P:List Str} {vs:List Value} {i:Nat} {m:Str->Option Value},P.Nodup->P[i]? = some x->vs[i]? = some v->kindOf x≠some .local ->
  bindC kindOf (P.zip vs) m x=some v
 | [],_,_,_,_,h,_,_=>by simp at h
 |_ :: _,[],_,_,_,_,h,_=>by simp at h
 |p :: P,w :: vs,0,m,nd,h1,h2,hk=>by simp at h1 h2;subst h1;subst h2;show bindC kindOf ((p,w) :: P.zip vs) m p=_;unfold bindC;rw[Tp λv hv=>(A0U.mp nd).1 (A47 hv).1,A10 hk];simp
 |p :: P,w :: vs,i+1,m,nd,h1,h2,hk=>by show bindC kindOf ((p,w) :: P.zip vs) m x=_;unfold bindC;exact Uz (i:=i) (List.nodup_cons.mp nd).2 (by simpa using h1) (by simpa using h2) hk
def start (N:List Str)(vs:List V):St:=vs.map some++List.replicate (N.length-vs.length) none
def Zj (CX:CXT)(P:Program)(w:World)(K:W.Frag)(mg:Str->Option Value)(base:Heap)(N:List Str)(qual:Str)(scope:Scope)(f:Addr)(cd:Value)(A:Around)(outer:List Env)(s:Shared)(H:Hp)(E:XK):Cx where
 prog:=P
 w:=w
 K:=K
 mg:=mg
 base:=base
 A:=A.deeper (envOfC qual scope s.heap.objs.size f cd)
 N:=N
 s₀:=s
 H₀:=H
 env:=envOfC qual scope s.heap.objs.size f cd
 outer:=outer
 stack:=envOfC qual scope s.heap.objs.size f cd :: outer
 ex:=[]
 calm:=true
 fn:=λ_=>true
 pn:=[]
 xe:=λe s'=>wpAny (model P w) (A.deeper (envOfC qual scope s.heap.objs.size f cd)) (leaving (envOfC qual scope s.heap.objs.size f cd) e) (λ_ s''=>CX outer H s E e s'') (λe' s''=>CX outer H s E e' s'') s'
theorem Xc {sc:Scope}{n:Nat}{x:Str}(h:sc.names.lookup x=some .cell):∃ c,(cellsFrom n sc.names []).lookup x=some c:=by have q:=W.cellsFrom_some sc.names n [] (.inl h);exact Option.isSome_iff_exists.mp q
theorem ad8 {CX:CXT}{P:Program}{w:World}{K:W.Frag}{mg:Str->Option Value}{base:Heap}{N ps:List Str}{qual:Str}{scope:Scope}{f:Addr}{cd:Value}{A:Around}{outer:List Env}{s s1:Shared}{H:Hp}{E:XK}{us:List Value}{vs:List V}
  (S:Ah N ps scope) (hd:A.handled=none) (e0:Env0 P w K mg base A outer s H) (hl:vs.length=ps.length) (r:Vals vs us)
  (x:InCallC s s.heap.objs.size (bindL (envOfC qual scope s.heap.objs.size f cd).kindOf (ps.zip us) λ_=>none) (cellsFrom (s.heap.objs.size+1) scope.names []) (bindC (envOfC qual scope s.heap.objs.size f cd).kindOf (ps.zip us) λ_=>none) s1) :
  Inv (Zj CX P w K mg base N qual scope f cd A outer s H E) [] (start N vs) H s1:=by
 have hpl:ps.length<=N.length:=by have:=congrArg List.length S.pre;rw[A0T] at this;omega
 obtain⟨h1,tk,rfl,hk⟩:=x.done;have noA:∀ b:Addr,b∉(Zj CX P w K mg base N qual scope f cd A outer s H E).ex:=λb z=>absurd (show b∈([]:List Addr) from z) (by simp)
 refine⟨⟨e0.mod,S.kind,rfl,rfl,A0D _,λy z c h1 h2=>?_,λy hy=>?_,λy c _ h=>?_,λ_=>hd,Around.frames_deeper e0.frames,.inr ⟨rfl,rfl⟩,λb z=>absurd z (noA b),e0.bs,e0.bsz,λb _ _=>noA b,λb z=>absurd z (noA b),e0.funs,e0.frf⟩,
  rfl,e0.bare,Un.kept hk,⟨_,x.toInCall.ns,λi y v h1 h2 h3=>?_⟩,λy c h=>⟨_,x.cell y c h⟩,e0.hok.fresh (Nat.le_refl _),λy c h=>?_,λp hp=>absurd (show p∈([]:List (Addr×Obj)) from hp) (by simp),e0.hok.kept hk,?_⟩
 . exact name_of_addr x.apart (A32 h1) (A32 h2)
 . have hy:scope.names.lookup y=some .cell\/scope.names.lookup y=some .free:=hy;rcases hy with hy|hy
   . exact Xc hy
   exact absurd rfl (S.nofree _ (A32 hy))
 . exact A31 (x.above y c (A32 h))
 . have hi:i<vs.length:=by
    unfold start at h2
    by_cases hi:i<vs.length
    . exact hi
    rw[List.getElem?_append_right (by simpa using hi)] at h2;rw[A4S] at h2
    split at h2<;>cases h2
   have ha:vs[i]? = some v:=by
    unfold start at h2;rw[List.getElem?_append_left (by simpa using hi),List.getElem?_map] at h2
    cases e:vs[i]? with
    |none=>rw[e] at h2;cases h2
    |some a=>rw[e] at h2;cases h2;rfl
   obtain⟨u,hu,rv⟩:=r.get ha
   have hp:ps[i]? = some y:=by rw[<- S.pre,List.getElem?_take_of_lt nofun];exact h1
   have ndP:ps.Nodup:=by rw[<- S.pre];exact S.nd.sublist (A4K _ _)
   refine⟨u,rv,?_⟩;rcases S.par y (A05 hp) with k|k
   . exact .inl ⟨k,Uq ndP hp hu k⟩
   obtain⟨c,e⟩:=Xc (n:=s.heap.objs.size+1) k;refine .inr ⟨.inl k,c,e,?_⟩;have q:=x.cell y c e;rw[Uz ndP hp hu (by show scope.names.lookup y≠_;rw[k];decide)] at q;exact q
 . exact e0.hok.fresh (A31 (x.above y c (A32 h)))
 unfold start;show _=N.length;rw[A0C,A01,A27];omega
theorem aJ7 {CX:CXT}{P:Program}{w:World}{K:W.Frag}{mg:Str->Option Value}{base:Heap}{k:Nat}{f:Addr}{name qual:Str}{params:Arguments}{body:List Stmt}{scope:Scope}{dV kV doc pm cdv ct oc:Value}{an od:Option Addr}
  {osl:Array (Option Value)} {N ps:List Str} {sp:Sp} (lk:K.lookup f=some ⟨oc,od,.func (W.fnOf name qual params body scope dV kV doc pm an cdv ct),osl⟩) (hcd:W.codeIn K cdv qual=true) (S:Ah N ps scope)
  (len:∀ vs H Q E,sp vs H Q E->vs.length=ps.length)
  (hbody:∀(A:Around) (outer:List Env) (s:Shared) (H:Hp) (vs:List V) (Q:VK) (E:XK),Room k (A.deeper (envOfC qual scope s.heap.objs.size f cdv))->sp vs H Q E ->
   ∃ t,PSs (Zj CX P w K mg base N qual scope f cdv A outer s H E) body t/\t {nx:=λ_ H'=>Q .non H',rt:=Q} (start N vs) H) :
  FnOk P w K mg base CX (k+1) f (W.fnOf name qual params body scope dV kV doc pm an cdv ct) ps sp:=by
 refine⟨len,λA outer s H args us vs Q E hr e0 hb r hsp=>?_⟩;have hl:=len _ _ _ _ hsp;have KX:K.In s.heap:=e0.mod.kin.keeps λb o e=>(e0.bs b o e).1;have lim:s.heap.NoLimit:=e0.mod.nolimit.keeps λb o e=>(e0.bs b o e).1
 have hkind:∀ y∈ps.zip us,scope.names.lookup y.1=some .local\/(scope.names.lookup y.1=some .cell/\((cellsFrom (s.heap.objs.size+1) scope.names []).lookup y.1).isSome=true):=λ⟨n,v⟩ hy=>by
  rcases S.par n (A47 hy).1 with q|q
  . exact .inl q
  exact .inr ⟨q,W.cellsFrom_some _ _ _ (.inl q)⟩
 refine codeAny_call_function hr.depth (KX _ _ lk) rfl S.co S.gen rfl (W.codeRec_of KX hcd) (hb _ _ _ _ ?_);refine wpAny_newFunctionEnv_cells S.kind hkind λenv he s1 x=>?_;subst he;refine⟨lim.keeps x.toInCall.keep,codeAny_func ?_⟩;obtain⟨t,ht,hq⟩:=hbody A outer s H vs Q E (hr.deeper _) hsp;have I:Inv (Zj CX P w K mg base N qual scope f cdv A outer s H E) [] (start N vs) H s1:=ad8 S hr.hd e0 hl r x;refine A2D (ht [] s1 (start N vs) H _ I hq) (λfl s' hs=>?_) λe s' hs=>hs
 have fin:∀ {σ':St} {H':Hp} {v:V} {u:Value},Inv (Zj CX P w K mg base N qual scope f cdv A outer s H E) [] σ' H' s'->RelV v u->Q v H'->CE outer P w H s Q u s':=
  fun {σ' H' v u} J rv q=>⟨v,H',J.os,J.bare,J.base,J.hok,rv,q⟩
 cases fl with
 |ret u=>obtain⟨v,σ',H',J,rv,q⟩:=hs;exact fin J rv q
 |next=>obtain⟨σ',H',J,q⟩:=hs;exact fin (v:=V.non) (u:=Value.none) J rfl q
 |brk=>obtain⟨_,_,_,q⟩:=hs;exact False.elim q
 |cont=>obtain⟨_,_,_,q⟩:=hs;exact False.elim q
section
variable {X:Cx}{x:Str}{p pos:Pos}{e:Expr}{es:List Expr}{t:TA}{id T:String}{r:List V->Hp->VK->Prop}
def tCB (r:List V->Hp->VK->Prop)(t:TA):TE:=fun σ H Q=>t σ H λvs H1=>r vs H1 Q
theorem Al (hc:CallR X (.builtin id) r)(hg:Gl X x)(hm:X.mg x=none)(hv:bootBuiltins x=some (.builtin id))(ha:PA X (e :: es) t)(hn:x ≠ "__name__":=by decide)(hdb:(x==("__debug__":Str))=false:=by decide)
  (he:starEach (e :: es) X.env=(false,eval e X.env) :: starEach es X.env:=by ac_nf) (hpl:(backTo pos (starEach es X.env)).any (·.1)=false:=by ac_nf):PE X (.Call (.Name x p) (e :: es) [] pos) (tCB r t):=by
 intro pins s σ H Q I h;refine A1X (Ip I hg hm hv ?_ hn hdb);exact PyProof.Rows.callWith_builtin1 (thn (ha pos pins s σ H _ I h) λus s1 ⟨vs,H1,I1,r1,q1⟩=>hc pins s1 σ H1 vs us Q I1 r1 q1) he hpl
theorem Ax (hc:CallR X (.type T) r)(hg:Gl X x)(hm:X.mg x=none)(hv:bootBuiltins x=some (.type T))(ha:PA X (e :: es) t)(hn:x ≠ "__name__":=by decide)(hdb:(x==("__debug__":Str))=false:=by decide)
  (he:starEach (e :: es) X.env=(false,eval e X.env) :: starEach es X.env:=by ac_nf) (hpl:(backTo pos (starEach es X.env)).any (·.1)=false:=by ac_nf):PE X (.Call (.Name x p) (e :: es) [] pos) (tCB r t):=by
 intro pins s σ H Q I h;refine A1X (Ip I hg hm hv ?_ hn hdb);exact A1M (thn (ha pos pins s σ H _ I h) λus s1 ⟨vs,H1,I1,r1,q1⟩=>hc pins s1 σ H1 vs us Q I1 r1 q1) he hpl
end
end L2
namespace HT
open PySem PyProof.Rows
section
open PySem.SeqAt
open PySem.AutoSeq1 (wpAny_loadPart')
open PySem.MeetsSeq PySem.MeetsSeq2 PySem.MeetsSeq3
end
section
variable {prog:Program}{w:World}{A:Around}{E:Value->Shared->Prop}{s:Shared}
theorem cat_tup {t b:Addr}{vs ws:List Value}{Q:Value->Shared->Prop}(ht:IsTup s.heap t vs.toArray)(hb:IsTup s.heap b ws.toArray)(hv:vs≠[])
  (h1:ws=[]->Q (.ref t) s) (h2:ws≠[]->Q (.ref s.heap.objs.size) {s with heap:=s.heap.push {cls:=.type "tuple",data:=.seq (vs++ws).toArray}})
  (hsz:vs.length+ws.length<=sizeLine):wpAny (model prog w) A (binaryOp .Add (.ref t) (.ref b)) Q E s:=by
 obtain⟨⟨cls,dd,data,sl⟩,ho,hc,n,hd⟩:=id ht;obtain⟨⟨cls2,dd2,data2,sl2⟩,ho2,hc2,n2,hd2⟩:=id hb;simp only at hc hd hc2 hd2;subst hc hd hc2 hd2;have e:vs.toArray++ws.toArray=(vs++ws).toArray:=by simp
 by_cases hw:ws=[]
 . exact concat_meets ⟨_,ho,rfl⟩ ⟨_,ho2,rfl⟩ noFill_tuple_add seq_tuple_add PySem.F.slot_tuple_add PySem.F.entry_tuple_add (PySem.F.args_tuple_add_2 _ _)
    (tuple_addW1 t b vs.toArray ws.toArray n n2 dd dd2 sl sl2 (by simpa using hv) (by simp[hw])) ⟨ho,ho2,h1 hw⟩
 refine concat_meets ⟨_,ho,rfl⟩ ⟨_,ho2,rfl⟩ noFill_tuple_add seq_tuple_add PySem.F.slot_tuple_add PySem.F.entry_tuple_add (PySem.F.args_tuple_add_2 _ _)
  (tuple_addW2 t b vs.toArray ws.toArray n n2 dd dd2 sl sl2 (by simpa using hv) (by simpa using hw) (by rw[List.size_toArray,List.size_toArray];exact hsz)) ⟨ho,ho2,?_⟩
 rw[e];exact h2 hw
def sIx (n d:Nat):Option Int->Nat
 |none=>d
 |some v=>if v<0 then(v+(n:Int)).toNat else min v.toNat n
theorem sIx_none (n d:Nat):sIx n d none=d:=rfl
theorem sIx_nat (n d k:Nat):sIx n d (some (k:Int))=min k n:=by
 show(if(k:Int)<0 then((k:Int)+(n:Int)).toNat else min (k:Int).toNat n)=min k n
 rw [A10 nofun,Int.toNat_natCast]
theorem aM9 (n d:Nat)(hd:d<=n)(o:Option Int):sIx n d o<=n:=by
 cases o with
 |none=>exact hd
 |some v=>
   show(if v<0 then(v+(n:Int)).toNat else min v.toNat n)<=n
   by_cases hv:v<0
   . rw[A15 hv];omega
   rw[A10 hv];exact A42 _ _
theorem ae0 (v:Int)(n d:Nat):(if v<0 then max (v+(n:Int)) 0 else min v (n:Int))=((sIx n d (some v):Nat):Int):=by
 show(if v<0 then max (v+(n:Int)) 0 else min v (n:Int))=(((if v<0 then(v+(n:Int)).toNat else min v.toNat n):Nat):Int)
 by_cases hv:v<0
 . simp only[if_pos hv];omega
 simp only[if_neg hv];omega
theorem Yp (lo hi:Option Int)(n:Nat):Builtin.Slice.sliceAdjust lo hi 1 (n:Int)=(((sIx n 0 lo:Nat):Int),((sIx n n hi:Nat):Int)):=by
 have h1:¬ ((1:Int)<0):=by omega
 unfold Builtin.Slice.sliceAdjust;simp only[h1,if_false];refine Prod.ext ?_ ?_
 . cases lo with
   |none=>rfl
   |some v=>exact ae0 v n 0
 cases hi with
 |none=>rfl
 |some v=>exact ae0 v n n
theorem Ym (i j:Nat):Builtin.Slice.slicePlaces (i:Int) (j:Int) 1=j-i:=by
 unfold Builtin.Slice.slicePlaces;have h1:(1:Int)>0:=by omega
 simp only[h1,if_true,Int.ediv_one]
 split<;>omega
theorem Qn {v:Value}{o:Option Int}{Q:Option Int->Shared->Prop}(p:IsPart v o)(h:Q o s):wpAny (model prog w) A (Builtin.Slice.slicePartIndex v) Q E s:=by
 cases p with
 |none=>exact slicePart_none h
 |int i t=>exact slicePart_int h
theorem sliceApplied_gen {sl:Addr}{vl vu:Value}{lo hi:Option Int}{n:Nat}{Q:Int×Int×Nat->Shared->Prop}(hs:s.heap.IsSliceOf sl vl vu .none)(pl:IsPart vl lo)(pu:IsPart vu hi)
  (h:Q (((sIx n 0 lo:Nat):Int),1,sIx n n hi-sIx n 0 lo) s):wpAny (model prog w) A (Builtin.Slice.sliceApplied (.ref sl) (pure (n:Int))) Q E s:=by
 obtain⟨os,hos,hcs,hds⟩:=id hs;unfold Builtin.Slice.sliceApplied Builtin.Slice.sliceFields;refine A00 (A00 (A1E hos hds (x:=vl) rfl (A00 (A1E hos hds (x:=vu) rfl (A00 (A1E hos hds (x:=.none) rfl (A06 ?_)))))));refine A00 (slicePart_none ?_);show wpAny _ _ (if((1:Int)==0)=true then _ else _) _ _ s
 rw[A10 ∅];refine A00 (Qn pl (A00 (Qn pu (A00 (A06 ?_)))));show wpAny _ _ (match Builtin.Slice.sliceAdjust lo hi 1 (n:Int) with | (lo,hi)=>pure (lo,(1:Int),Builtin.Slice.slicePlaces lo hi 1)) _ _ s
 rw[Yp lo hi n];show wpAny _ _ (pure (((sIx n 0 lo:Nat):Int),(1:Int),Builtin.Slice.slicePlaces ((sIx n 0 lo:Nat):Int) ((sIx n n hi:Nat):Int) 1)) _ _ s;rw[Ym];exact A06 h
theorem ak7 (xs:Array Value)(i k:Nat):((List.range k).filterMap λ(m:Nat)=>xs[((i:Int)+(m:Int)*1).toNat]?).toArray=((xs.toList.drop i).take k).toArray:=by
 have e:(λ(m:Nat)=>xs[((i:Int)+(m:Int)*1).toNat]?)=λm=>xs[i+m]?:=by
  funext m;have:((i:Int)+(m:Int)*1).toNat=i+m:=by omega
  rw[this]
 rw[e];have:=pick_run xs i k;rw[List.filterMap_map] at this;have e2:((λx=>xs[x]?)∘λx=>i+x)=λm=>xs[i+m]?:=rfl;rw[e2] at this;rw[this]
theorem getItem_tuple_cut {t sl:Addr}{items:Array Value}{vl vu:Value}{lo hi:Option Int}{Q:Value->Shared->Prop}(ht:IsTup s.heap t items)(hs:s.heap.IsSliceOf sl vl vu .none)(pl:IsPart vl lo)(pu:IsPart vu hi)
  (hw:¬ (sIx items.size 0 lo=0/\sIx items.size items.size hi=items.size))
  (h:Q (.ref s.heap.objs.size) {s with heap:=s.heap.push {cls:=.type "tuple",data:=.seq ((items.toList.drop (sIx items.size 0 lo)).take (sIx items.size items.size hi-sIx items.size 0 lo)).toArray}})
  (hsz:items.size<=sizeLine):wpAny (model prog w) A (getItem (.ref t) (.ref sl)) Q E s:=by
 have htake:sizeOk (.seq ((items.toList.drop (sIx items.size 0 lo)).take (sIx items.size items.size hi-sIx items.size 0 lo)).toArray):=by show((items.toList.drop (sIx items.size 0 lo)).take (sIx items.size items.size hi-sIx items.size 0 lo)).toArray.size<=sizeLine;rw[A0W,A0T,A1H,A48];omega
 have hj:sIx items.size items.size hi<=items.size:=aM9 _ _ (A0D _) hi;obtain⟨os,hos,hcs,hds⟩:=id hs;have hTs:s.TypeIs (.ref sl) "slice":=⟨os,hos,hcs⟩;unfold getItem
 try with_reducible refine A1F ?_
 first | refine A00 (A06 ?_) | skip
 refine A00 (wpAny_sequenceKey ht.typeIs ∅ ?_)
 refine A00 (A1V (name:=Str.ofString "__getitem__") ht.typeIs A2U
  (A2J A2U ht.typeIs entry_tuple_getitem ?_ (args_tuple_getitem _ _)))
 show wpAny _ _ (Builtin.Tuple.tupleItemsOf (.ref t) >>= _) _ _ s;refine A00 (tupleItemsOf_ ht ?_);refine A00 (A3H hTs ?_);rw[A15 ∅];refine A00 (sliceApplied_gen hs pl pu ?_)
 have hno:¬ ((((sIx items.size 0 lo:Nat):Int)==0&&(1:Int)==1&&(sIx items.size items.size hi-sIx items.size 0 lo)==items.size)=true):=by intro q;rw[A0X,A0X] at q;have q1:((sIx items.size 0 lo:Nat):Int)=0:=eq_of_beq q.1.1;have q2:sIx items.size items.size hi-sIx items.size 0 lo=items.size:=eq_of_beq q.2;exact hw ⟨by omega,by omega⟩
 show wpAny _ _ (if(((sIx items.size 0 lo:Nat):Int)==0&&(1:Int)==1&&(sIx items.size items.size hi-sIx items.size 0 lo)==items.size)=true then _ else _) _ _ s
 rw[A10 hno,ak7]
 first
  |exact A00 (m:=Builtin.Tuple.tupleExact _) (A2E (A06 ⟨_,rfl,A06 h⟩) htake)
  |exact A00 (m:=Builtin.Tuple.tupleExact _) (A2E (A00 (A06 (A06 ⟨_,rfl,A06 h⟩))) htake)
  |exact A00 (A00 (m:=Builtin.Tuple.tupleExact _) (A2E (A06 (A06 ⟨_,rfl,A06 h⟩)) htake))
  |exact A00 (A00 (m:=Builtin.Tuple.tupleExact _) (A2E (A06 ⟨_,rfl,A06 h⟩) htake))
end
end HT
namespace L2
open PySem PySem.Spec PyProof.Rows
abbrev TO:=St->Hp->(Option Int->Hp->Prop)->Prop
def PO (X:Cx)(e:Option Expr)(t:TO):Prop:=
 ∀(pins:List (Addr×Obj)) (s:Shared) (σ:St) (H:Hp) (Q:Option Int->Hp->Prop),Inv X pins σ H s->t σ H Q ->
  wpAny (model X.prog X.w) X.A (evalPart e X.env) (λu s'=>∃ o H',Inv X pins σ H' s'/\IsPart u o/\Q o H') X.xe s
def a67:TO:=λ_ H Q=>Q none H
def aL5 (t:TE):TO:=fun σ H Q=>t σ H λx H1=>∃ i,x = .int i/\Q (some i) H1
section
variable {X:Cx}{e:Expr}{te:TE}{lo hi:Option Expr}{tl th:TO}{pos p2:Pos}
theorem Ga:PO X none a67:=by intro pins s σ H Q I h;rw[evalPart_none];exact A06 ⟨none,H,I,.none,h⟩
theorem Ca (h:PE X e te):PO X (some e) (aL5 te):=by intro pins s σ H Q I hw;rw[evalPart_some];refine thn (h pins s σ H _ I hw) λu s1 ⟨x,H1,I1,r1,q1⟩=>?_;obtain⟨i,rfl,q⟩:=q1;obtain⟨t,rfl⟩:=r1;exact⟨some i,H1,I1,.int i t,q⟩
def SlR (X:Cx)(r:V->Option Int->Option Int->Hp->VK->Prop):Prop:=
 ∀(pins:List (Addr×Obj)) (s:Shared) (σ:St) (H:Hp) (x:V) (v vl vu:Value) (lo hi:Option Int) (sl:Addr) (Q:VK),Inv X pins σ H s->RelV x v->s.heap.IsSliceOf sl vl vu .none->IsPart vl lo->IsPart vu hi->r x lo hi H Q ->
  ∃ T id,typeLookup (.type T) "__getitem__" = pure (some (.builtin id))/\s.TypeIs v T/\wpAny (model X.prog X.w) X.A (getItem v (.ref sl)) (EP X pins σ Q) X.xe s
theorem SlR.or {r r':V->Option Int->Option Int->Hp->VK->Prop}(h:SlR X r)(h':SlR X r'):SlR X (λx lo hi H Q=>r x lo hi H Q\/r' x lo hi H Q):=by
 intro pins s σ H x v vl vu lo hi sl Q I rx hs pl pu q;rcases q with q|q
 . exact h pins s σ H x v vl vu lo hi sl Q I rx hs pl pu q
 exact h' pins s σ H x v vl vu lo hi sl Q I rx hs pl pu q
def tSl (r:V->Option Int->Option Int->Hp->VK->Prop)(te:TE)(tl th:TO):TE:=fun σ H Q=>te σ H λx H1=>tl σ H1 λl H2=>th σ H2 λu H3=>r x l u H3 Q
theorem Ce {r:V->Option Int->Option Int->Hp->VK->Prop}(hr:SlR X r)(he:PE X e te)(hl:PO X lo tl)(hu:PO X hi th):PE X (.Subscript e (.Slice lo hi none p2) pos) (tSl r te tl th):=by
 intro pins s σ H Q I h;refine Subscript_ (thn (he pins s σ H _ I h) λv s1 ⟨x,H1,I1,r1,q1⟩=>?_);refine wpAny_Slice (thn (hl pins s1 σ H1 _ I1 q1) λvl s2 ⟨l,H2,I2,pl,q2⟩=>thn (hu pins s2 σ H2 _ I2 q2) λvu s3 ⟨u,H3,I3,pu,q3⟩=>?_);rw[evalPart_none];refine A06 ?_;have I4:Inv X pins σ H3 {s3 with heap:=s3.heap.push {cls:=.type "slice",data:=.fields #[vl,vu,.none]}}:=I3.kept (t':=s3.toks) λb ob q=>A02 _ q
 obtain⟨T,id,hT,ht,hg⟩:=hr pins {s3 with heap:=s3.heap.push {cls:=.type "slice",data:=.fields #[vl,vu,.none]}} σ H3 x v vl vu l u s3.heap.objs.size Q I4 r1 (Heap.IsSliceOf.new ..) pl pu q3
 show wpAny (model X.prog X.w) X.A (subscriptTail e (.Slice lo hi none p2) v (.ref s3.heap.objs.size)) (EP X pins σ Q) X.xe {s3 with heap:=s3.heap.push {cls:=.type "slice",data:=.fields #[vl,vu,.none]}}
 exact tail_any (ops:=[.ref s3.heap.objs.size,v]) ht hT hg ⋯
def Ph (xs:List V)(lo hi:Option Int):List V:=(xs.drop (HT.sIx xs.length 0 lo)).take (HT.sIx xs.length xs.length hi-HT.sIx xs.length 0 lo)
theorem Om (xs:List V)(lo hi:Option Int):(Ph xs lo hi).length<=xs.length:=by unfold Ph;rw[A0T,A1H];omega
def aS7 (K:W.Frag):V->Option Int->Option Int->Hp->VK->Prop:=λx lo hi H Q=>∃ a xs,x = .ref a/\SqT K H a xs /\
 ¬ (HT.sIx xs.length 0 lo=0/\HT.sIx xs.length xs.length hi=xs.length)/\∀ p,H p=none->Q (.ref p) (upd H p (.tup (Ph xs lo hi)))
theorem sl_tup:SlR X (aS7 X.K):=by
 intro pins s σ H x v vl vu lo hi sl Q I rx hs pl pu h;obtain⟨a,xs,rfl,hx,hw,q⟩:=h
 cases rx;obtain⟨its,r,ht,hz⟩:=I.tuple hx;have hlen:its.toArray.size=xs.length:=by rw[A0W];exact r.length.symm
 refine⟨"tuple",_,PyProof.Rows.slot_tuple_getitem.lookup,ht.typeIs,?_⟩;refine HT.getItem_tuple_cut ht hs pl pu (by rw[hlen];exact hw) ?_ (by rw[hlen];exact hz);rw[hlen];refine⟨.ref s.heap.objs.size,_,I.laid (t':=s.toks) (o:=.tup (Ph xs lo hi)) (λb ob q=>A02 _ q) (A0D _) ?_,rfl,q _ (I.hok.fresh (A0D _))⟩;exact⟨A0H (Om xs lo hi) hz,_,(r.drop (HT.sIx xs.length 0 lo)).take (HT.sIx xs.length xs.length hi-HT.sIx xs.length 0 lo),IsTupN.new _ _⟩
def aL6 (K:W.Frag):R2:=λx y H Q=>∃ a b xs ys,x = .ref a/\y = .ref b/\SqT K H a xs/\SqT K H b ys/\xs≠[]/\xs.length+ys.length<=sizeLine /\
 (ys=[]->Q (.ref a) H)/\(ys≠[]->∀ p,H p=none->Q (.ref p) (upd H p (.tup (xs++ys))))
theorem Vals.nil_iff {xs:List V}{us:List Value}(r:Vals xs us):us=[]↔xs=[]:=by
 cases r with
 |nil=>simp
 |cons _ _=>simp
theorem op_catT:OpR X (binaryOp .Add) (aL6 X.K):=by
 intro pins s σ H x y v u Q I rx ry h;obtain⟨a,b,xs,ys,rfl,rfl,ha,hb,hx,hz,q1,q2⟩:=h
 cases rx
 cases ry;obtain⟨its,r1,p1,_⟩:=I.tuple ha;obtain⟨its2,r2,p2,_⟩:=I.tuple hb;refine HT.cat_tup p1 p2 (λz=>hx (r1.nil_iff.mp z)) (λz=>⟨.ref a,H,I,rfl,q1 (r2.nil_iff.mp z)⟩) (λz=>?_) (by rw[<- r1.length,<- r2.length];exact hz);refine⟨.ref s.heap.objs.size,_,I.laid (t':=s.toks) (o:=.tup (xs++ys)) (λb ob q=>A02 _ q) (A0D _) ?_,rfl,q2 (λw=>z (r2.nil_iff.mpr w)) _ (I.hok.fresh (A0D _))⟩;exact⟨by rw[A0C];exact hz,_,r1.append r2,IsTupN.new _ _⟩
end
def ixN (n:Nat)(i:Int):Option Nat:=if 0<=i then(if i<n then some i.toNat else none) else if -(n:Int)<=i then some (i+n).toNat else none
def atI {α:Type}(xs:List α)(i:Int):Option α:=(ixN xs.length i).bind λj=>xs[j]?
theorem aw2 {n:Nat}{i:Int}{j:Nat}(h:ixN n i=some j):seqIndex? i n=some j/\j<n /\ -(n:Int)<=i/\i<n:=by
 unfold ixN at h
 by_cases h0:0<=i
 . rw[A15 h0] at h
   by_cases h1:i<n
   . rw[A15 h1] at h;have e:i.toNat=j:=A0Z h;exact⟨by rw[seqIndex_of h0 h1,e],by omega,by omega,h1⟩
   rw[A10 h1] at h;cases h
 rw[A10 h0] at h
 by_cases h1:-(n:Int)<=i
 . rw[A15 h1] at h;have e:(i+n).toNat=j:=A0Z h;exact⟨by rw[seqIndex_neg nofun h1,e],by omega,h1,by omega⟩
 rw[A10 h1] at h;cases h
theorem Rh {α:Type} {xs:List α} {i:Int} {v:α} (h:atI xs i=some v):∃ j,seqIndex? i xs.length=some j/\xs[j]? = some v/\j<xs.length /\ -(xs.length:Int)<=i/\i<xs.length:=by
 unfold atI at h
 cases e:ixN xs.length i with
 |none=>rw[e] at h;cases h
 |some j=>rw[e] at h;obtain⟨h1,h2,h3,h4⟩:=aw2 e;exact⟨j,h1,h,h2,h3,h4⟩
theorem K8 {α:Type}{xs:List α}{j:Nat}{v:α}(h:xs[j]? = some v):atI xs (j:Int)=some v:=by
 have hj:j<xs.length:=(A03.mp h).1
 have e:ixN xs.length (j:Int)=some j:=by unfold ixN;rw[if_pos nofun,if_pos nofun];simp
 unfold atI;rw[e];exact h
def aB7 (b:Expr):Prop:=∀ o i,subscripted b false o i=operate [o,i] (getItem o i)
def IxR (X:Cx)(r:R2):Prop:=
 ∀(value slice:Expr) (pins:List (Addr×Obj)) (s:Shared) (σ:St) (H:Hp) (x y:V) (v u:Value) (Q:VK),Inv X pins σ H s->RelV x v->RelV y u->r x y H Q ->
  subscripted slice false v u=operate [v,u] (getItem v u)->wpAny (model X.prog X.w) X.A (subscriptTail value slice v u) (EP X pins σ Q) X.xe s
def MtR (X:Cx)(id:String)(r:V->List V->Hp->VK->Prop):Prop:=
 ∀(pins:List (Addr×Obj)) (s:Shared) (σ:St) (H:Hp) (x:V) (xs:List V) (v:Value) (us:List Value) (Q:VK),Inv X pins σ H s->RelV x v->Vals xs us->r x xs H Q ->
  wpAny (model X.prog X.w) X.A (call (.builtin id) (v :: us)) (EP X pins σ Q) X.xe s
section
variable {X:Cx}{a b:Expr}{ta tb:TE}{pos:Pos}
theorem IxR.or {r r':R2}(h:IxR X r)(h':IxR X r'):IxR X (λx y H Q=>r x y H Q\/r' x y H Q):=by
 intro value slice pins s σ H x y v u Q I rx ry q hs;rcases q with q|q
 . exact h value slice pins s σ H x y v u Q I rx ry q hs
 exact h' value slice pins s σ H x y v u Q I rx ry q hs
theorem A7 {r:R2}(hr:IxR X r)(ha:PE X a ta)(hb:PE X b tb)(hs:aB7 b):PE X (.Subscript a b pos) (tOp r ta tb):=by intro pins s σ H Q I h;exact Subscript_ (aR1 ha hb I h λv u s2 x y H2 I2 rx ry q=>hr a b pins s2 σ H2 x y v u Q I2 rx ry q (hs _ _))
def aS1 (K:W.Frag):R2:=λx y H Q=>∃ p xs i v,x = .ref p/\y = .int i/\SqL K H p xs/\atI xs i=some v/\Q v H
def aU0 (K:W.Frag):R2:=λx y H Q=>∃ p xs i v,x = .ref p/\y = .int i/\SqT K H p xs/\atI xs i=some v/\Q v H
def aT9:R2:=λx y H Q=>∃ z i c,x = .str z/\y = .int i/\z.length<=sizeLine/\atI z.cps.toList i=some c/\Q (.str ⟨#[c]⟩) H
theorem ix_list:IxR X (aS1 X.K):=by
 intro value slice pins s σ H x y v u Q I rx ry h hs;obtain⟨p,xs,i,z,rfl,rfl,hq,he,q⟩:=h
 cases rx;obtain⟨t,rfl⟩:=ry;obtain⟨its,r,pl,hz⟩:=I.list hq;obtain⟨j,h1,h2,h3,h4,h5⟩:=Rh he;obtain⟨w,ew,rw'⟩:=r.get h2;have hl:=r.length;have hn:=Sv;have fin:EP X pins σ Q w s:=⟨z,H,I,rw',q⟩
 by_cases h0:0<=i
 . have hj:i.toNat=j:=by rw[seqIndex_of h0 h5] at h1;exact A0Z h1
   exact item_listR pl.isList h0 nofun (by rw[hj];simpa using ew) fin hs
 have hj:(i+(its.toArray.size:Int)).toNat=j:=by rw[seqIndex_neg nofun h4] at h1;rw[A0W,<- hl];exact A0Z h1
 exact subscriptTail_builtinR (x:=w) pl.isList.typeIs slot_list_getitem.lookup
  (wpAny_getItem_list_neg (Q:=λr s'=>r=w/\EP X pins σ Q r s') pl.isList nofun (by rw[List.size_toArray]<;>omega) nofun (by rw[hj];simpa using ew) ⟨rfl,fin⟩) hs
theorem ix_tup:IxR X (aU0 X.K):=by
 intro value slice pins s σ H x y v u Q I rx ry h hs;obtain⟨p,xs,i,z,rfl,rfl,hq,he,q⟩:=h
 cases rx;obtain⟨t,rfl⟩:=ry;obtain⟨its,r,pl,hz⟩:=I.tuple hq;obtain⟨j,h1,h2,h3,h4,h5⟩:=Rh he;obtain⟨w,ew,rw'⟩:=r.get h2;have hl:=r.length;have hn:=Sv;have fin:EP X pins σ Q w s:=⟨z,H,I,rw',q⟩
 exact subscriptTail_builtinR (x:=w) pl.typeIs slot_tuple_getitem.lookup
  (getItem_tuple (j:=j) (Q:=λr s'=>r=w/\EP X pins σ Q r s') pl nofun nofun (by rw[List.size_toArray,<- hl];exact h1) (by simpa using ew) ⟨rfl,fin⟩) hs
theorem aG8:IxR X aT9:=by
 intro value slice pins s σ H x y v u Q I rx ry h hs;obtain⟨z,i,c,rfl,rfl,hz,he,q⟩:=h;obtain⟨t,rfl⟩:=rx;obtain⟨t',rfl⟩:=ry;obtain⟨j,h1,h2,h3,h4,h5⟩:=Rh he;have hl:z.cps.toList.length=z.length:=by simp[Str.length]
 rw[hl] at h1 h4 h5;have hn:=Sv
 exact tail_any (typeIs_str s z t) slot_str_getitem.lookup (getItem_str (c:=c) (by have e1:decide (i < -(2 ^ 63:Int))=false:=A0P nofun;have e2:decide (i>=2 ^ 63)=false:=A0P nofun;rw[e1,e2,Bool.or_false]) (by rw[h1];simpa using h2) ⟨.str ⟨#[c]⟩,H,I.tok _,⟨_,rfl⟩,q⟩) hs
def rIx (K:W.Frag):R2:=λx y H Q=>aS1 K x y H Q\/aU0 K x y H Q\/aT9 x y H Q
theorem ix_seq:IxR X (rIx X.K):=ix_list.or (ix_tup.or aG8)
theorem Ty (lo hi:Option Int) (n:Nat):(sliceBounds lo hi none n).1=((HT.sIx n 0 lo:Nat):Int)/\(sliceBounds lo hi none n).2.1=((HT.sIx n n hi:Nat):Int)/\(sliceBounds lo hi none n).2.2=1:=by
 refine⟨?_,?_,rfl⟩
 . cases lo with
   |none=>simp[sliceBounds,HT.sIx]
   |some i=>
     simp only[sliceBounds,HT.sIx,Option.getD_none,show(1:Int)>0 by decide,if_true]
     by_cases h:i<0
     . simp only[h,if_true]<;>omega
     simp only[h,if_false]<;>omega
 cases hi with
 |none=>simp[sliceBounds,HT.sIx]
 |some i=>
   simp only[sliceBounds,HT.sIx,Option.getD_none,show(1:Int)>0 by decide,if_true]
   by_cases h:i<0
   . simp only[h,if_true]<;>omega
   simp only[h,if_false]<;>omega
theorem Ku (its:List Value)(lo hi:Option Int):slicePick its.toArray lo hi none=((its.drop (HT.sIx its.length 0 lo)).take (HT.sIx its.length its.length hi-HT.sIx its.length 0 lo)).toArray:=by obtain⟨h1,h2,h3⟩:=Ty lo hi its.toArray.size;unfold slicePick;rw[h1,h2,h3];simp only[sliceRange_one,pick_run,List.size_toArray]<;>rfl
def aS6 (K:W.Frag):V->Option Int->Option Int->Hp->VK->Prop:=λx lo hi H Q=>∃ a xs,x = .ref a/\SqL K H a xs/\∀ p,H p=none->Q (.ref p) (upd H p (.lst (Ph xs lo hi)))
theorem sl_list:SlR X (aS6 X.K):=by
 intro pins s σ H x v vl vu lo hi sl Q I rx hs pl pu h;obtain⟨a,xs,rfl,hx,q⟩:=h
 cases rx;obtain⟨its,r,ht,hz⟩:=I.list hx;have hlen:=r.length;refine⟨"list",_,slot_list_getitem.lookup,ht.isList.typeIs,?_⟩;refine wpAny_getItem_list_slice ht.isList hs pl pu .none (by simp) ?_ (by rw[List.size_toArray]<;>omega)
 rw[Ku,<- hlen];refine⟨.ref s.heap.objs.size,_,I.laid (t':=s.toks) (o:=.lst (Ph xs lo hi)) (λb ob q=>A02 _ q) (A0D _) ?_,rfl,q _ (I.hok.fresh (A0D _))⟩;exact⟨A0H (Om xs lo hi) hz,_,0,(r.drop (HT.sIx xs.length 0 lo)).take (HT.sIx xs.length xs.length hi-HT.sIx xs.length 0 lo),A0B _ rfl⟩
def Sm:V->Bool
 |.non=>true
 |.bl _=>true
 |.int _=>true
 |.str _=>true
 |_=>false
def eqV:V->V->Bool
 |.non,.non=>true
 |.bl a,.bl b=>a==b
 |.bl a,.int b=>(if a then 1 else 0)==b
 |.int a,.bl b=>a==(if b then 1 else 0)
 |.int a,.int b=>a==b
 |.str a,.str b=>a==b
 |_,_=>false
theorem aH3 {A:Around}{s:Shared}{y x:V}{u v:Value}(ry:RelV y u)(rx:RelV x v)(fy:Sm y=true)(fx:Sm x=true):SeqAt.EqAt A s u v (eqV y x):=by
 cases y with
 |non=>
   cases ry
   cases x with
   |non=>cases rx;exact SeqAt.EqAt.same _
   |bl b=>cases rx;exact SeqAt.EqAt.none_bool b
   |int b=>obtain⟨t,rfl⟩:=rx;exact SeqAt.EqAt.none_int b t
   |str b=>obtain⟨t,rfl⟩:=rx;exact SeqAt.EqAt.none_str b t
   |_=>exact absurd (show false=true from fx) A0K
 |bl a=>
   cases ry
   cases x with
   |non=>cases rx;exact SeqAt.EqAt.bool_none a
   |bl b=>cases rx;exact SeqAt.EqAt.bool_bool a b
   |int b=>obtain⟨t,rfl⟩:=rx;exact SeqAt.EqAt.bool_int a b t
   |str b=>obtain⟨t,rfl⟩:=rx;exact SeqAt.EqAt.bool_str a b t
   |_=>exact absurd (show false=true from fx) A0K
 |int a=>
   obtain⟨t',rfl⟩:=ry
   cases x with
   |non=>cases rx;exact SeqAt.EqAt.int_none a t'
   |bl b=>cases rx;exact SeqAt.EqAt.int_bool a t' b
   |int b=>obtain⟨t,rfl⟩:=rx;exact SeqAt.EqAt.int_int a t' b t
   |str b=>obtain⟨t,rfl⟩:=rx;exact SeqAt.EqAt.int_str a t' b t
   |_=>exact absurd (show false=true from fx) A0K
 |str a=>
   obtain⟨t',rfl⟩:=ry
   cases x with
   |non=>cases rx;exact SeqAt.EqAt.str_none a t'
   |bl b=>cases rx;exact SeqAt.EqAt.str_bool a t' b
   |int b=>obtain⟨t,rfl⟩:=rx;exact SeqAt.EqAt.str_int a t' b t
   |str b=>obtain⟨t,rfl⟩:=rx;exact SeqAt.EqAt.str_str a t' b t
   |_=>exact absurd (show false=true from fx) A0K
 |_=>exact absurd (show false=true from fy) A0K
def eqU (x:V)(u:Value):Bool:=match u with
 |.none=>eqV .non x
 |.bool b=>eqV (.bl b) x
 |.int i _=>eqV (.int i) x
 |.str z _=>eqV (.str z) x
 |_=>false
theorem as7 {x y:V}{u:Value}(r:RelV y u)(f:Sm y=true):eqU x u=eqV y x:=by
 cases y with
 |non=>cases r;rfl
 |bl b=>cases r;rfl
 |int i=>obtain⟨t,rfl⟩:=r;rfl
 |str z=>obtain⟨t,rfl⟩:=r;rfl
 |_=>exact absurd (show false=true from f) A0K
theorem Np {x:V}:∀ {xs:List V} {us:List Value},Vals xs us->xs.all Sm=true->us.any (eqU x)=xs.any λy=>eqV y x
 |_,_,.nil,_=>rfl
 |y :: xs,u :: us,.cons r t,f=>by rw[List.all_cons,A0X] at f;rw[A2M,A2M,as7 r f.1,Np t f.2]
theorem Kh {A:Around}{s:Shared}{x:V}{v:Value}(rx:RelV x v)(fx:Sm x=true):∀ {xs:List V} {us:List Value},Vals xs us->xs.all Sm=true->∀ u∈us,SeqAt.EqAt A s u v (eqU x u)
 |_,_,.nil,_=>λu hu=>by cases hu
 |y :: xs,u :: us,.cons r t,f=>λu' hu=>by
   rw[List.all_cons,A0X] at f;rcases A0F.mp hu with rfl|hu
   . rw[as7 r f.1];exact aH3 r rx f.1 fx
   exact Kh rx fx t f.2 u' hu
def inV (x:V)(xs:List V):Bool:=xs.any λy=>eqV y x
def rIn (K:W.Frag)(neg:Bool):R2:=λx y H Q=>∃ p xs,y = .ref p/\(SqL K H p xs\/SqT K H p xs)/\Sm x=true/\xs.all Sm=true/\Q (.bl (if neg then !inV x xs else inV x xs)) H
theorem op_in_seq:OpR X (compareOp .In) (rIn X.K false):=by
 intro pins s σ H x y v u Q I rx ry h;obtain⟨p,xs,rfl,hq,fx,fs,q⟩:=h
 cases ry;rcases hq with hq|hq
 . obtain⟨its,r,pl,hz⟩:=I.list hq;refine SeqAt.in_listAt (eqU x) pl.isList (λw hw=>Kh rx fx r fs w (by simpa using hw)) ⟨.bl _,H,I,rfl,?_⟩;rw[show its.toArray.any (eqU x)=its.any (eqU x) by simp,Np r fs];exact q
 obtain⟨its,r,pl,hz⟩:=I.tuple hq;refine SeqAt.in_tupleAt (eqU x) pl (λw hw=>Kh rx fx r fs w (by simpa using hw)) ⟨.bl _,H,I,rfl,?_⟩;rw[show its.toArray.any (eqU x)=its.any (eqU x) by simp,Np r fs];exact q
theorem op_notIn_seq:OpR X (compareOp .NotIn) (rIn X.K true):=by
 intro pins s σ H x y v u Q I rx ry h;obtain⟨p,xs,rfl,hq,fx,fs,q⟩:=h
 cases ry;rcases hq with hq|hq
 . obtain⟨its,r,pl,hz⟩:=I.list hq;refine SeqAt.notIn_listAt (eqU x) pl.isList (λw hw=>Kh rx fx r fs w (by simpa using hw)) ⟨.bl _,H,I,rfl,?_⟩;rw[show its.toArray.any (eqU x)=its.any (eqU x) by simp,Np r fs];exact q
 obtain⟨its,r,pl,hz⟩:=I.tuple hq;refine SeqAt.notIn_tupleAt (eqU x) pl (λw hw=>Kh rx fx r fs w (by simpa using hw)) ⟨.bl _,H,I,rfl,?_⟩;rw[show its.toArray.any (eqU x)=its.any (eqU x) by simp,Np r fs];exact q
theorem op_notIn_str:OpR X (compareOp .NotIn) (λx y H Q=>∃ i j,x = .str i/\y = .str j/\Q (.bl (!(!(Builtin.Str.occurrences j i 0 j.length 1).isEmpty))) H):=by intro pins s σ H x y v u Q I rx ry h;obtain⟨i,j,rfl,rfl,q⟩:=h;obtain⟨t,rfl⟩:=rx;obtain⟨t',rfl⟩:=ry;exact notIn_str ⟨.bl _,H,I,rfl,q⟩
theorem CallR.or {f:Value}{r r':List V->Hp->VK->Prop}(h:CallR X f r)(h':CallR X f r'):CallR X f (λxs H Q=>r xs H Q\/r' xs H Q):=by
 intro pins s σ H xs us Q I rs q;rcases q with q|q
 . exact h pins s σ H xs us Q I rs q
 exact h' pins s σ H xs us Q I rs q
theorem Tb:CallR X (.type "list") (λxs H Q=>∃ p ys,xs=[.ref p]/\(SqL X.K H p ys\/SqT X.K H p ys)/\∀ l,H l=none->Q (.ref l) (upd H l (.lst ys))):=by
 intro pins s σ H xs us Q I r h;obtain⟨p,ys,rfl,hq,q⟩:=h;obtain⟨u,rfl,rx⟩:=Pa r
 cases rx
 have fin:∀(its:List Value),Vals ys its->ys.length<=sizeLine->∀(h':Heap) (c':Nat),(∀ b o',s.heap.get? b=some o'->h'.get? b=some o') ->
   h'.get? s.heap.objs.size=some {cls:=.type "list",dict:=none,data:=.seq its.toArray c',slots:=#[]}->EP X pins σ Q (.ref s.heap.objs.size) {s with heap:=h'}:=λits r' hz h' c' kp e=>
  ⟨.ref s.heap.objs.size,_,I.laid (t':=s.toks) kp (A0D _) (show ObjOk X.prog X.w _ h' _ (.lst ys) from⟨hz,its,c',r',e⟩),rfl,q _ (I.hok.fresh (A0D _))⟩
 rcases hq with hq|hq
 . obtain⟨its,r',pl,hz⟩:=I.list hq;have hlen:=r'.length;obtain⟨o,ho,hc,n,hd⟩:=pl.isList;exact call_list_seq p (.inl rfl) ho hc hd (λh' c' kp e=>fin its r' hz h' c' kp e) (by simp only[List.size_toArray]<;>omega)
 obtain⟨its,r',pl,hz⟩:=I.tuple hq;have hlen:=r'.length;obtain⟨o,ho,hc,n,hd⟩:=pl;exact call_list_seq p (.inr rfl) ho hc hd (λh' c' kp e=>fin its r' hz h' c' kp e) (by simp only[List.size_toArray]<;>omega)
theorem R8:CallR X (.type "tuple") (λxs H Q=>∃ p ys,xs=[.ref p]/\((SqL X.K H p ys/\∀ l,H l=none->Q (.ref l) (upd H l (.tup ys)))\/(SqT X.K H p ys/\Q (.ref p) H))):=by
 intro pins s σ H xs us Q I r h;obtain⟨p,ys,rfl,h⟩:=h;obtain⟨u,rfl,rx⟩:=Pa r
 cases rx;rcases h with ⟨hq,q⟩|⟨hq,q⟩
 . obtain⟨its,r',pl,hz⟩:=I.list hq;have hlen:=r'.length;refine call_tuple_list pl.isList (λh' kp=>?_) (by simp only[List.size_toArray]<;>omega)
   have I1:Inv X pins σ H {s with heap:=h'}:=I.kept (t':=s.toks) kp
   have I2:Inv X pins σ (upd H h'.objs.size (.tup ys)) {s with heap:=h'.push {cls:=.type "tuple",data:=.seq its.toArray}}:=
    I1.laid (t':=s.toks) (λb o e=>A02 _ e) (A0D _) (show ObjOk X.prog X.w _ _ _ (.tup ys) from⟨hz,its,r',IsTupN.new _ _⟩)
   exact⟨.ref h'.objs.size,_,I2,rfl,q _ (I1.hok.fresh (A0D _))⟩
 obtain⟨its,r',pl,hz⟩:=I.tuple hq;exact call_tuple_same pl ⟨.ref p,H,I,rfl,q⟩
def tyV (K:W.Frag)(T:String)(x:V)(H:Hp):Prop:=match x with
 |.str _=>T = "str"
 |.int _=>T = "int"
 |.ref p=>(T = "list" /\ ∃ xs,SqL K H p xs)\/(T = "tuple" /\ ∃ o,K.lookup p=some o/\o.cls = .type "tuple" /\ o.dict=none) \/
   (T = "dict" /\ ((∃ kvs,H p=some (.dK kvs))\/∃ kvs,H p=some (.dT kvs)))\/(T = "set" /\ ∃ S n,H p=some (.set S n))
 |_=>False
theorem as6 {pins:List (Addr×Obj)}{σ:St}{H:Hp}{s:Shared}{T:String}{x:V}{v:Value}(I:Inv X pins σ H s)(r:RelV x v)(ty:tyV X.K T x H) :
  s.TypeIs v T/\∀ a,v = .ref a->∃ ob,s.heap.get? a=some ob/\ob.dict=none:=by
 cases x with
 |str z=>
   obtain⟨t,rfl⟩:=r
   cases (show T = "str" from ty);exact⟨typeIs_str s z t,λ_ e=>nomatch e⟩
 |int i=>
   obtain⟨t,rfl⟩:=r
   cases (show T = "int" from ty);exact⟨typeIs_int s i t,λ_ e=>nomatch e⟩
 |ref p=>
   cases r;rcases ty with ⟨rfl,xs,hq⟩|⟨rfl,o,hk,hc,hd⟩|⟨rfl,hk⟩|⟨rfl,S,n,hk⟩
   . obtain⟨its,_,pl,_⟩:=I.list hq;refine⟨pl.isList.typeIs,λa e=>?_⟩
     cases e;obtain⟨o,n,e,c,hd,_⟩:=pl;exact⟨o,e,hd⟩
   . refine⟨⟨o,I.kIn p o hk,hc⟩,λa e=>?_⟩
     cases e;exact⟨o,I.kIn _ o hk,hd⟩
   . have z:∃ o,s.heap.get? p=some o/\o.ExactDict:=by
      rcases hk with ⟨kvs,hk⟩|⟨kvs,hk⟩
      . obtain⟨_,_,_,_,o,_,_,e,ex,_⟩:=I.hok p _ hk;exact⟨o,e,ex⟩
      obtain⟨_,_,_,_,o,_,_,e,ex,_⟩:=I.hok p _ hk;exact⟨o,e,ex⟩
     obtain⟨o,e,ex⟩:=z;refine⟨⟨o,e,ex.1⟩,λa e2=>?_⟩
     cases e2;exact⟨o,e,ex.2.1⟩
   obtain⟨o,_,_,_,e,ex,_⟩:=I.hok p _ hk;refine⟨⟨o,e,ex.1⟩,λa e2=>?_⟩
   cases e2;exact⟨o,e,ex.2.1⟩
 |_=>exact False.elim ty
def aO4 (K:W.Frag)(T:String)(r:V->List V->Hp->VK->Prop)(to:TE):TE:=fun σ H Q=>to σ H λx H1=>tyV K T x H1/\r x [] H1 Q
def tBM (K:W.Frag)(T:String)(r:V->List V->Hp->VK->Prop)(to:TE)(t:TA):TE:=fun σ H Q=>to σ H λx H1=>tyV K T x H1/\t σ H1 λxs H2=>r x xs H2 Q
variable {o e:Expr}{es:List Expr}{to:TE}{t:TA}{name:Str}{apos cpos:Pos}{T id:String}{r:V->List V->Hp->VK->Prop}
theorem aE1 (pa:PlainAttrs T)(slot:Slot T name id)(hty:typeOf (.builtin id)=pure (.type "method_descriptor"))(hm:MtR X id r)(ho:PE X o to)
  (hbase:attributeBase o name X.env (eval o X.env)=eval o X.env:=by ac_nf) (hline:(apos.endLine==cpos.line)=true:=by ac_nf):PE X (.Call (.Attribute o name apos) [] [] cpos) (aO4 X.K T r to):=by
 intro pins s σ H Q I h;refine wpAny_Call_method0_late hbase hline (thn (ho pins s σ H _ I h) λv s1 ⟨x,H1,I1,r1,ty,q1⟩=>?_);obtain⟨h1,h2⟩:=as6 I1 r1 ty;exact⟨T,id,pa,slot,hty,h1,h2,A3R rfl (PySem.evalArgs_none (hm pins s1 σ H1 x [] v [] Q I1 r1 .nil q1))⟩
theorem aP6 (pa:PlainAttrs T)(slot:Slot T name id)(hty:typeOf (.builtin id)=pure (.type "method_descriptor"))(hm:MtR X id r)(ho:PE X o to)(ha:PA X (e :: es) t)
  (hbase:attributeBase o name X.env (eval o X.env)=eval o X.env:=by ac_nf)
  (hfew:((backTo cpos (starEach (e :: es) X.env)).all (λx=>!x.1)&&(backToKw cpos (keywordEach [] X.env)).all (λx=>x.1.isSome)
   && decide ((e :: es).length+([]:List Keyword).length+(if([]:List Keyword).isEmpty then 0 else 1)<30))=true:=by ac_nf)
  (hline:(apos.endLine==cpos.line)=true:=by ac_nf) (hs:starEach (e :: es) X.env=(false,eval e X.env) :: starEach es X.env:=by ac_nf) (hplain:(backTo cpos (starEach es X.env)).any (·.1)=false:=by ac_nf) :
  PE X (.Call (.Attribute o name apos) (e :: es) [] cpos) (tBM X.K T r to t):=by
 intro pins s σ H Q I h;refine wpAny_Call_method_late hbase hfew hline rfl (thn (ho pins s σ H _ I h) λv s1 ⟨x,H1,I1,r1,ty,q1⟩=>?_);obtain⟨h1,h2⟩:=as6 I1 r1 ty;refine⟨T,id,pa,slot,hty,h1,h2,?_⟩;have hA:=ha cpos pins s1 σ H1 _ I1 q1;rw[hs] at hA ⊢;refine A3R (by show(false||(backTo cpos (starEach es X.env)).any (·.1))=false;rw[hplain]<;>rfl) (A56 ?_)
 exact thn hA λus s2 ⟨vs,H2,I2,r2,q2⟩=>hm pins s2 σ H2 x vs v us Q I2 r1 r2 q2
/- xs.append(e),list.index on a module's tuple .. are MtR facts of 06m -/
end
def MtM (X:Cx)(id:String)(r:V->List V->Hp->VK->Prop):Prop:=
 ∀(pins:List (Addr×Obj)) (s:Shared) (σ:St) (H:Hp) (x:V) (xs:List V) (v:Value) (us:List Value) (Q:VK),Inv X pins σ H s->RelV x v->Vals xs us->r x xs H Q ->
  wpAny (model X.prog X.w) X.A (call (.builtin id) (v :: us)) (EP X pins σ Q) X.xe s
theorem Vals.one {x:V}{us:List Value}(h:Vals [x] us):∃ u,us=[u]/\RelV x u:=by
 cases h with
 |cons r q=>cases q;exact⟨_,rfl,r⟩
theorem Vals.two {x y:V}{us:List Value}(h:Vals [x,y] us):∃ u v,us=[u,v]/\RelV x u/\RelV y v:=by
 cases h with
 |cons r q=>obtain⟨u,rfl,q'⟩:=Vals.one q;exact⟨_,_,rfl,r,q'⟩
theorem Vals.eraseIdx:∀ {xs:List V} {us:List Value} (i:Nat),Vals xs us->Vals (xs.eraseIdx i) (us.eraseIdx i)
 |_,_,_,.nil=>.nil
 |_,_,0,.cons _ t=>t
 |_,_,i+1,.cons r t=>.cons r (Vals.eraseIdx i t)
theorem Vals.reverse {xs:List V}{us:List Value}(h:Vals xs us):Vals xs.reverse us.reverse:=by
 induction h with
 |nil=>exact .nil
 |cons r t ih=>rw[List.reverse_cons,List.reverse_cons];exact Vals.append ih (.cons r .nil)
theorem Vals.rep {xs:List V}{us:List Value}(h:Vals xs us):∀ k:Nat,Vals (List.replicate k xs).flatten (List.replicate k us).flatten
 |0=>.nil
 |k+1=>by rw[A33,A33,A4L,A4L];exact Vals.append h (Vals.rep h k)
theorem Uj {α:Type}:∀(l:List α) (i:Nat),(l.eraseIdx i).length<=l.length
 | [],_=>A0D _
 |_ :: _,0=>A38 _
 |_ :: r,i+1=>Nat.succ_le_succ (Uj r i)
theorem Uf (its:List Value):∀(k:Nat) (acc:List Value),
  List.foldl (λx1 x2=>x1++x2) acc.toArray (List.replicate k its.toArray)=(acc++(List.replicate k its).flatten).toArray
 |0,acc=>by simp
 |k+1,acc=>by
   have e:acc.toArray++its.toArray=(acc++its).toArray:=by simp
   have e2:(acc++its)++(List.replicate k its).flatten=acc++(List.replicate (k+1) its).flatten:=by rw[A33,A4L,A4M]
   rw[<- e2,<- Uf its k (acc++its),<- e,A33,A4Y]
section
variable {X:Cx}{pins:List (Addr×Obj)}{σ:St}{H:Hp}{s:Shared}{l b:Addr}{xs ys zs:List V}
theorem Inv.lset {its its':List Value}{n:Nat}{f:Array Value->Array Value}{t':Nat}(I:Inv X pins σ H s)(hH:H l=some (.lst xs))
  (e:s.heap.get? l=some {cls:=.type "list",data:=.seq its.toArray n}) (hf:f its.toArray=its'.toArray) (hv:Vals ys its') (hz:ys.length<=sizeLine) :
  Inv X pins σ (upd H l (.lst ys)) {s with heap:=s.heap.update l (Obj.mapSeq f),toks:=t'}:=by
 have q:=PySem.IsL.update e f;rw[hf] at q;refine I.write (x:=l) (e:=l) (by rw[hH];exact trivial) (.inl rfl) (λb' u hb hu=>(A1J s.heap (Obj.mapSeq f) (Ne.symm hb)).trans hu) ⟨_,q⟩ ?_;exact⟨hz,its',_,hv,q⟩
theorem Inv.lnew {its:List Value}{t':Nat}(I:Inv X pins σ H s)(hv:Vals ys its)(hz:ys.length<=sizeLine) :
  Inv X pins σ (upd H s.heap.objs.size (.lst ys)) {s with heap:=s.heap.push {cls:=.type "list",data:=.seq its.toArray},toks:=t'}:=
 I.laid (λ_ _ q=>A02 _ q) (A0D _) ⟨hz,its,0,hv,A0B _ rfl⟩
theorem Inv.fresh (I:Inv X pins σ H s):H s.heap.objs.size=none:=I.hok.fresh (A0D _)
theorem Inv.lstM (I:Inv X pins σ H s)(hH:H l=some (.lst xs)):xs.length<=sizeLine/\∃(its:List Value) (n:Nat),Vals xs its/\xs.length=its.length/\s.heap.get? l=some {cls:=.type "list",data:=.seq its.toArray n}:=by obtain⟨z,its,n,r,e⟩:=I.hok l _ hH;exact⟨z,its,n,r,r.length,e⟩
theorem Wu {n:Nat}(h:n<=sizeLine):Builtin.List.listTooLong n=false:=by unfold Builtin.List.listTooLong;exact A0P nofun
end
section
variable {X:Cx}
def Zq:V->List V->Hp->VK->Prop:=λx vs H Q=>∃ l xs y,x = .ref l/\vs=[y]/\H l=some (.lst xs)/\xs.length<sizeLine/\Q .non (upd H l (.lst (xs++[y])))
theorem Hg:MtM X "list.append" Zq:=by
 intro pins s σ H x vs v us Q I rx rv h;obtain⟨l,xs,y,rfl,rfl,hH,hz,q⟩:=h
 cases rx;obtain⟨u,rfl,ru⟩:=rv.one;obtain⟨z,its,n,r,hl,e⟩:=I.lstM hH;refine A45 F.slot_list_append ⟨_,e,rfl⟩ F.entry_list_append (F.args_list_append_2 _ _) (PySem.list_append l its.toArray n u (by rw[A0W];omega)) ⟨e,?_⟩;refine⟨.non,_,I.lset (its':=its++[u]) hH e (by simp) (r.append (.cons ru .nil)) ?_,rfl,q⟩;rw[A0C,A28];omega
def ab9:V->List V->Hp->VK->Prop:=λx vs H Q=>∃ l b xs zs,x = .ref l/\vs=[.ref b]/\H l=some (.lst xs)/\H b=some (.lst zs)/\xs.length+zs.length<=sizeLine/\Q .non (upd H l (.lst (xs++zs)))
theorem Iz:MtM X "list.extend" ab9:=by
 intro pins s σ H x vs v us Q I rx rv h;obtain⟨l,b,xs,zs,rfl,rfl,hH,hB,hz,q⟩:=h
 cases rx;obtain⟨u,rfl,ru⟩:=rv.one
 cases ru;obtain⟨z,its,n,r,hl,e⟩:=I.lstM hH;obtain⟨z2,its2,n2,r2,hl2,e2⟩:=I.lstM hB;have hsz:its.toArray.size+its2.toArray.size<=sizeLine:=by rw[A0W,A0W];omega
 have hlong:¬ (!its.toArray.isEmpty&&Builtin.List.listTooLong (its.toArray.size+its2.toArray.size))=true:=by rw[Wu hsz,A4H];exact A0K
 refine A45 F.slot_list_extend ⟨_,e,rfl⟩ F.entry_list_extend (F.args_list_extend_2 _ _)
  (AutoSeq1.list_extend_list_list_0 l its.toArray n b its2.toArray n2 hlong (by rw[A0W];omega) nofun) ⟨e,e2,?_⟩
 refine⟨.non,_,I.lset (its':=its++its2) hH e (by simp) (r.append r2) ?_,rfl,q⟩;rw[A0C];omega
def as1:V->List V->Hp->VK->Prop:=λx vs H Q=>∃ l xs i k y,x = .ref l/\vs=[.int i]/\H l=some (.lst xs) /\ -(2 ^ 63)<=i/\i<2 ^ 63/\seqIndex? i xs.length=some k/\xs[k]? = some y/\Q y (upd H l (.lst (xs.eraseIdx k)))
theorem Xg:MtM X "list.pop" as1:=by
 intro pins s σ H x vs v us Q I rx rv h;obtain⟨l,xs,i,k,y,rfl,rfl,hH,h1,h2,hk,hy,q⟩:=h
 cases rx;obtain⟨u,rfl,ru⟩:=rv.one;obtain⟨t,rfl⟩:=ru;obtain⟨z,its,n,r,hl,e⟩:=I.lstM hH;obtain⟨w,hw,rw'⟩:=r.get hy
 refine A45 F.slot_list_pop ⟨_,e,rfl⟩ F.entry_list_pop (F.args_list_pop_2 _ _)
  (MeetsSeq.list_pop_at l its.toArray n i t k w (fitsIndex_both h1 h2) (by rw[A0W,<- hl];exact hk) (by rw[<- A3W];exact hw) (by rw[A0W];omega)) ⟨e,?_⟩
 refine⟨y,_,I.lset (its':=its.eraseIdx k) hH e ?_ (r.eraseIdx k) ?_,rw',q⟩
 . show its.toArray.eraseIdxIfInBounds k=(its.eraseIdx k).toArray;rw[List.eraseIdxIfInBounds_toArray]
 have:=Uj xs k;omega
def aR5:R2:=λx y H Q=>∃ l b xs zs,x = .ref l/\y = .ref b/\H l=some (.lst xs)/\H b=some (.lst zs)/\xs.length+zs.length<=sizeLine/\∀ p,H p=none->Q (.ref p) (upd H p (.lst (xs++zs)))
theorem op_cat:OpR X (binaryOp .Add) aR5:=by
 intro pins s σ H x y v u Q I rx ry h;obtain⟨l,b,xs,zs,rfl,rfl,hH,hB,hz,q⟩:=h
 cases rx
 cases ry;obtain⟨z,its,n,r,hl,e⟩:=I.lstM hH;obtain⟨z2,its2,n2,r2,hl2,e2⟩:=I.lstM hB;refine PySem.P.add_list e e2 ?_ (by rw[A0W,A0W];omega);have ea:its.toArray++its2.toArray=(its++its2).toArray:=by simp
 rw[ea];exact⟨.ref _,_,I.lnew (t':=s.toks) (r.append r2) (by rw[A0C];omega),rfl,q _ I.fresh⟩
def aR7:R2:=λx y H Q=>∃ l k xs,x = .ref l/\y = .int k/\H l=some (.lst xs) /\ -(2 ^ 63)<=k/\k<2 ^ 63/\xs.length*k.toNat<=sizeLine /\
 ∀ p,H p=none->Q (.ref p) (upd H p (.lst (List.replicate k.toNat xs).flatten))
theorem aC0 {α:Type}(xs:List α)(k:Nat):(List.replicate k xs).flatten.length=k*xs.length:=by
 induction k with
 |zero=>simp
 |succ k ih=>rw[A33,A4L,A0C,ih,Nat.succ_mul,Nat.add_comm]
theorem aF8:OpR X (binaryOp .Mult) aR7:=by
 intro pins s σ H x y v u Q I rx ry h;obtain⟨l,k,xs,rfl,rfl,hH,h1,h2,hz,q⟩:=h
 cases rx;obtain⟨t,rfl⟩:=ry;obtain⟨z,its,n,r,hl,e⟩:=I.lstM hH;have hlen:its.toArray.size*k.toNat<=sizeLine:=by rw[A0W,<- hl];exact hz
 have hcap:¬ its.toArray.size*k.toNat>(2 ^ 63-1) / 8:=by
  have:(sizeLine:Nat)<=(2 ^ 63-1) / 8:=by decide
  omega
 have hfit:¬ (!Builtin.List.listFitsIndex k)=true:=by rw[fitsIndex_both h1 h2];exact A0K
 have hlong:¬ Builtin.List.listTooLong (its.toArray.size*k.toNat)=true:=by rw[Wu hlen];exact A0K
 have hnew:List.foldl (λx1 x2=>x1++x2) #[] (List.replicate (if its.toArray.isEmpty=true then 0 else k.toNat) its.toArray)=(List.replicate k.toNat its).flatten.toArray:=by
  have f0:∀ m:Nat,List.foldl (λx1 x2=>x1++x2) #[] (List.replicate m its.toArray)=(List.replicate m its).flatten.toArray:=λm=>by have:=Uf its m [];rw[A49] at this;exact this
  rw[f0]
  cases its with
  |nil=>simp
  |cons a r'=>rw[if_neg (by simp)]
 refine wpAny_binaryOp_repeat_ref (T:="list") (U:="int") ∅ ⟨_,e,rfl⟩ (λs'=>typeIs_int s' k t) noFill_list_mul F.fills_int_mul F.slot_int_rmul repeat_list F.slot_int_index.lookup
  (A45 F.slot_int_rmul (typeIs_int s k t) F.entry_int_rmul (F.args_int_rmul_2 _ _) (int___rmul___int_list k t l its.toArray n)
   ⟨e,rfl,⟨_,e,rfl⟩,A45 F.slot_list_mul ⟨_,e,rfl⟩ F.entry_list_mul (F.args_list_mul_2 _ _) (AutoListH.list___mul___list_int_3 l its.toArray n k t hfit hcap hlong) ⟨e,?_⟩⟩)
 rw[hnew];exact⟨.ref _,_,I.lnew (t':=s.toks) (r.rep k.toNat) (by rw[aC0,A3X];exact hz),rfl,q _ I.fresh⟩
end
section
variable {prog:Program}{w:World}{A:Around}{E:Value->Shared->Prop}{s:Shared}
set_option maxRecDepth 100000 in
end
section
variable {X:Cx}
end
section
variable {κ:Type}[DecidableEq κ]
def Dn (kvs:List (κ×V))(k:κ):Option V:=(kvs.find? λkv=>decide (kv.1=k)).map (·.2)
def Gj (kvs:List (κ×V))(k:κ)(v:V):List (κ×V):=
 if(kvs.any λkv=>decide (kv.1=k))=true then kvs.map (λkv=>if kv.1=k then(kv.1,v) else kv) else kvs++[(k,v)]
theorem ak0 {k:κ}:Dn ([]:List (κ×V)) k=none:=rfl
theorem Bm {p:κ×V} {r:List (κ×V)} {k:κ} (e:p.1=k):Dn (p :: r) k=some p.2:=by simp[Dn,List.find?_cons,e]
theorem Be {p:κ×V}{r:List (κ×V)}{k:κ}(e:¬ p.1=k):Dn (p :: r) k=Dn r k:=by simp[Dn,List.find?_cons,e]
theorem Hy (k:κ):∀ kvs:List (κ×V),(kvs.any λkv=>decide (kv.1=k))=(Dn kvs k).isSome
 | []=>rfl
 |p :: r=>by
   rw[A2M]
   by_cases e:p.1=k
   . simp only[Bm e,decide_eq_true e,Bool.true_or,Option.isSome_some]
   rw[Be e,A0P e,A5G];exact Hy k r
theorem Xn (k j:κ)(y:V):∀ kvs:List (κ×V),Dn (kvs.map λkv=>if kv.1=k then(kv.1,y) else kv) j=(Dn kvs j).map λx=>if j=k then y else x
 | []=>rfl
 |p :: r=>by
   have ih:=Xn k j y r;rw[A0R]
   by_cases h:p.1=k
   . rw[A15 h]
     by_cases e:p.1=j
     . rw[Bm (p:=(p.1,y)) e,Bm e,A4Z,A15 (e.symm.trans h)]
     rw[Be (p:=(p.1,y)) e,Be e,ih]
   rw[A10 h]
   by_cases e:p.1=j
   . rw[Bm (p:=p) e,Bm e,A4Z,A10 (λz=>h (e.trans z))]
   rw[Be (p:=p) e,Be e,ih]
theorem Tt (k j:κ)(y:V):∀ kvs:List (κ×V),Dn kvs k=none->Dn (kvs++[(k,y)]) j=if j=k then some y else Dn kvs j
 | [],_=>by
   by_cases e:k=j
   . rw[A15 e.symm];exact Bm (p:=(k,y)) e
   rw[A10 (λz=>e z.symm)];exact Be (p:=(k,y)) e
 |p :: r,hn=>by
   rw[List.cons_append];have hk:¬ p.1=k:=λz=>by rw[Bm z] at hn;cases hn
   rw[Be hk] at hn;have ih:=Tt k j y r hn
   by_cases e:p.1=j
   . rw[Bm e,Bm e,A10 (λz=>hk (e.trans z))]
   rw[Be e,Be e,ih]
theorem Wl (kvs:List (κ×V))(k j:κ)(y:V):Dn (Gj kvs k y) j=if j=k then some y else Dn kvs j:=by
 unfold Gj
 by_cases a:(kvs.any λkv=>decide (kv.1=k))=true
 . rw[A15 a,Xn];rw[Hy] at a
   by_cases e:j=k
   . obtain⟨x,hx⟩:=Option.isSome_iff_exists.mp a;rw[A15 e,e,hx,A4Z,A15 rfl]
   rw[A10 e]
   cases Dn kvs j with
   |none=>rfl
   |some x=>rw[A4Z,A10 e]
 rw[A10 a];refine Tt k j y kvs ?_;rw[Hy] at a
 cases q:Dn kvs k with
 |none=>rfl
 |some x=>rw[q] at a;exact(a rfl).elim
theorem K9 (kvs:List (κ×V))(k:κ)(v:V):(Gj kvs k v).length<=kvs.length+1:=by
 unfold Gj
 split
 . rw[A01];omega
 rw[A0C,A0E,A4A];omega
theorem M9 {kvs:List (κ×V)}{k:κ}(v:V)(h:Dn kvs k=none):Gj kvs k v=kvs++[(k,v)]:=by unfold Gj;rw [Hy,h];exact A10 ∅
theorem RelO.isSome_eq {o:Option V}{u:Option Value}(r:RelO o u):o.isSome=u.isSome:=by
 cases o with
 |none=>cases u with
   |none=>rfl
   |some _=>exact(show False from r).elim
 |some _=>cases u with
   |none=>exact(show False from r).elim
   |some _=>rfl
theorem RelO.getD {o:Option V}{u:Option Value}{d:V}{d':Value}(r:RelO o u)(rd:RelV d d'):RelV (o.getD d) (u.getD d'):=by
 cases o with
 |none=>cases u with
   |none=>exact rd
   |some _=>exact(show False from r).elim
 |some _=>cases u with
   |none=>exact(show False from r).elim
   |some _=>exact r
theorem KV.val {kvs:List (κ×V)} {vs:List (κ×Value)} (r:KV kvs vs) (k:κ):RelO (Dn kvs k) (valueAt vs k):=by
 unfold KV at r
 induction r with
 |nil=>exact A22
 |@cons p q ps qs h t ih=>
   obtain⟨h1,h2⟩:=h
   by_cases e:p.1=k
   . have e':q.1=k:=h1.symm.trans e;have b:valueAt (q :: qs) k=some q.2:=by simp[valueAt,List.find?_cons,e']
     rw[Bm e,b];exact h2
   have e':¬ q.1=k:=λz=>e (h1.trans z);have b:valueAt (q :: qs) k=valueAt qs k:=by simp[valueAt,List.find?_cons,e']
   rw[Be e,b];exact ih
theorem KV.any {kvs:List (κ×V)}{vs:List (κ×Value)}(r:KV kvs vs)(k:κ):(kvs.any λkv=>decide (kv.1=k))=vs.any λkv=>decide (kv.1=k):=by
 unfold KV at r
 induction r with
 |nil=>rfl
 |cons h t ih=>rw[A2M,A2M,ih,h.1]
theorem KV.repl {kvs:List (κ×V)}{vs:List (κ×Value)}(r:KV kvs vs)(k:κ){y:V}{u:Value}(ry:RelV y u) :
  KV (kvs.map λkv=>if kv.1=k then(kv.1,y) else kv) (vs.map λkv=>if kv.1=k then(kv.1,u) else kv):=by
 unfold KV at r ⊢
 induction r with
 |nil=>exact .nil
 |@cons p q ps qs h t ih=>
   rw[A0R,A0R];refine .cons ?_ ih;obtain⟨h1,h2⟩:=h
   by_cases e:p.1=k
   . rw[A15 e,A15 (h1.symm.trans e)];exact⟨h1,ry⟩
   rw[A10 e,A10 (λz=>e (h1.trans z))];exact⟨h1,h2⟩
theorem KV.put {kvs:List (κ×V)}{vs:List (κ×Value)}(r:KV kvs vs)(k:κ){y:V}{u:Value}(ry:RelV y u):KV (Gj kvs k y) (stored vs k u):=by
 unfold Gj stored;rw[r.any k]
 by_cases e:(vs.any λkv=>decide (kv.1=k))=true
 . rw[A15 e,A15 e];exact r.repl k ry
 rw[A10 e,A10 e];exact Paired.snoc r ⟨rfl,ry⟩
theorem KV.keys {kvs:List (κ×V)}{vs:List (κ×Value)}(r:KV kvs vs):kvs.map (·.1)=vs.map (·.1):=by
 unfold KV at r
 induction r with
 |nil=>rfl
 |cons h t ih=>rw[A0R,A0R,ih,h.1]
theorem KV.length {kvs:List (κ×V)}{vs:List (κ×Value)}(r:KV kvs vs):kvs.length=vs.length:=A3A r
end
theorem Sl {P:Program}{w:World}{k:Key}{u:Value}(r:RelV (kV k) u):(Ay P w).is k u=true:=by
 cases k with
 |inl i=>obtain⟨t,e⟩:=(show ∃ t,u=Value.int i t from r);subst e;exact Wd P w i t
 |inr x=>obtain⟨t,e⟩:=(show ∃ t,u=Value.str x t from r);subst e;exact Wa P w x t
theorem Um {P:Program}{w:World}:∀ {ks:List Key} {us:List Value},Vals (ks.map kV) us->ItemsAre (Ay P w) ks us
 | [],_,r=>by rw[List.map_nil] at r;cases r;exact .nil
 |k :: ks,_,r=>by
   rw[A0R] at r
   cases r with
   |cons h t=>exact .cons (Sl h) (Um t)
abbrev KT (H:Hp):List (List Key×V)->List (List Key×Addr×Value)->Prop:=Paired λp q=>p.1=q.1/\H q.2.1=some (.tup (p.1.map kV))/\RelV p.2 q.2.2
theorem KT.val {H:Hp}{kvs:List (List Key×V)}{xs:List (List Key×Addr×Value)}(r:KT H kvs xs)(k:List Key):RelO (Dn kvs k) ((atKey xs k).map (·.2)):=by
 induction r with
 |nil=>exact A22
 |@cons p q ps qs h t ih=>
   obtain⟨h1,_,h2⟩:=h
   by_cases e:p.1=k
   . have e':q.1=k:=h1.symm.trans e;have b:atKey (q :: qs) k=some q.2:=by simp[atKey,List.find?_cons,e']
     rw[Bm e,b];exact h2
   have e':¬ q.1=k:=λz=>e (h1.trans z);have b:atKey (q :: qs) k=atKey qs k:=by simp[atKey,List.find?_cons,e']
   rw[Be e,b];exact ih
theorem KT.repl {H:Hp} {kvs:List (List Key×V)} {xs:List (List Key×Addr×Value)} (r:KT H kvs xs) (k:List Key) {y:V} {u:Value} (ry:RelV y u) :
  KT H (kvs.map λkv=>if kv.1=k then(kv.1,y) else kv) (xs.map (putAt k u)):=by
 induction r with
 |nil=>exact .nil
 |@cons p q ps qs h t ih=>
   rw[A0R,A0R];refine .cons ?_ ih;obtain⟨h1,h2,h3⟩:=h;unfold putAt
   by_cases e:p.1=k
   . rw[A15 e,A15 (h1.symm.trans e)];exact⟨h1,h2,ry⟩
   rw[A10 e,A10 (λz=>e (h1.trans z))];exact⟨h1,h2,h3⟩
theorem KT.put {H:Hp}{kvs:List (List Key×V)}{xs:List (List Key×Addr×Value)}(r:KT H kvs xs)(k:List Key){b:Addr}{y:V}{u:Value}(hb:H b=some (.tup (k.map kV)))(ry:RelV y u) :
  KT H (Gj kvs k y) (storedH xs k b u):=by
 have e:(kvs.any λkv=>decide (kv.1=k))=(atKey xs k).isSome:=by rw[Hy,(r.val k).isSome_eq,Option.isSome_map]
 unfold Gj storedH;rw[e]
 by_cases q:(atKey xs k).isSome=true
 . rw[A15 q,A15 q];exact r.repl k ry
 rw[A10 q,A10 q];exact Paired.snoc r ⟨rfl,hb,ry⟩
theorem KT.keeps {H H':Hp}{kvs:List (List Key×V)}{xs:List (List Key×Addr×Value)}(r:KT H kvs xs)(ht:∀ b ys,H b=some (.tup ys)->H' b=some (.tup ys)):KT H' kvs xs:=
 Paired.mapP r λ_ _ z=>⟨z.1,ht _ _ z.2.1,z.2.2⟩
section
variable {P:Program}{w:World}{H:Hp}{h:Heap}{a:Addr}
theorem aM7 {u:HO}(ok:HOk P w H h)(e:Rd H a u):ObjOk P w H h a u:=e.ok ok
theorem Rg {kvs:List (Key×V)}(ok:HOk P w H h)(e:Rd H a (.dK kvs)):kvs.length<=sizeLine/\(a==sysModules)=false/\∃ vs,KV kvs vs/\h.DictOf (Ay P w) a vs:=
 show ObjOk P w H h a (.dK kvs) from aM7 ok e
theorem Ub {kvs:List (Key×V)}(ok:HOk P w H h)(e:H a=some (.dK kvs)):kvs.length<=sizeLine/\(a==sysModules)=false/\∃ vs,KV kvs vs/\h.DictOf (Ay P w) a vs:=Rg ok (.inl e)
theorem Nl {ks:List Key}(ok:HOk P w H h)(e:H a=some (.tup (ks.map kV))):(tupleKind (Ay P w)).is h ks a:=by obtain⟨_,its,r,o,h1,h2,⟨n,h3⟩,_⟩:=(show ObjOk P w H h a (.tup (ks.map kV)) from ok a _ e);exact⟨o,its.toArray,n,h1,h2,h3,by simpa using Um r⟩
theorem Tf {kvs:List (List Key×V)}(ok:HOk P w H h)(e:Rd H a (.dT kvs)):kvs.length<=sizeLine/\(a==sysModules)=false /\
  ∃ xs,KT H kvs xs/\h.DictOfH (tupleKind (Ay P w)) a xs:=by
 obtain⟨z,y,xs,r,o,es,ep,h1,h2,h3,h4,h5⟩:=(show ObjOk P w H h a (.dT kvs) from aM7 ok e);refine⟨z,y,xs,r,o,es,ep,h1,h2,h3,h4,λx hx=>?_,h5⟩
 have all:∀ {l:List (List Key×V)} {m:List (List Key×Addr×Value)},KT H l m->∀ x∈m,(tupleKind (Ay P w)).is h x.1 x.2.1:=by
  intro l m q
  induction q with
  |nil=>intro x hx;exact nomatch hx
  |@cons p q ps qs hq t ih=>
    intro x hx;rcases A0F.mp hx with e|hx
    . subst e;exact Nl ok (by rw[<- hq.1];exact hq.2.1)
    exact ih x hx
 exact all r x hx
theorem aQ5 {kvs:List (List Key×V)}(ok:HOk P w H h)(e:H a=some (.dT kvs)):kvs.length<=sizeLine/\(a==sysModules)=false /\
  ∃ xs,KT H kvs xs/\h.DictOfH (tupleKind (Ay P w)) a xs:=Tf ok (.inl e)
end
def DGet (H:Hp)(a:Addr)(y:V)(r:Option V):Prop:=
 (∃ kvs k,Rd H a (.dK kvs)/\y=kV k/\r=Dn kvs k)\/∃ kvs k b,Rd H a (.dT kvs)/\y = .ref b/\H b=some (.tup (k.map kV))/\r=Dn kvs k
def DPut (H:Hp)(a:Addr)(y v:V)(H':Hp):Prop:=
 (∃ kvs k,H a=some (.dK kvs)/\y=kV k/\kvs.length<sizeLine/\H'=upd H a (.dK (Gj kvs k v))) \/
 ∃ kvs k b,H a=some (.dT kvs)/\y = .ref b/\H b=some (.tup (k.map kV))/\kvs.length<sizeLine/\H'=upd H a (.dT (Gj kvs k v))
theorem DGet.k {H:Hp}{a:Addr}{kvs:List (Key×V)}{k:Key}(e:H a=some (.dK kvs)):DGet H a (kV k) (Dn kvs k):=.inl ⟨kvs,k,.inl e,rfl,rfl⟩
theorem DPut.k {H:Hp}{a:Addr}{kvs:List (Key×V)}{k:Key}{v:V}(e:H a=some (.dK kvs))(hl:kvs.length<sizeLine):DPut H a (kV k) v (upd H a (.dK (Gj kvs k v))):=.inl ⟨kvs,k,e,rfl,hl,rfl⟩
section
variable {X:Cx}{pins:List (Addr×Obj)}{σ:St}{H:Hp}{s:Shared}{a:Addr}{y v:V}{u r:Value}{o:Option V}{A:Around}{E:Value->Shared->Prop}
theorem Inv.big (I:Inv X pins σ H s):sysModules<s.heap.objs.size:=by have h:mainGlobals<s.heap.objs.size:=(I.mod.glob.keeps I.bk).lt;exact Nat.lt_trans ∅ h
theorem a01 {Q:Value->Shared->Prop}(hu:A.units+1<cLine)(I:Inv X pins σ H s)(g:DGet H a y (some v))(ry:RelV y u)(h:∀ w' s',Inv X pins σ H s'->RelV v w'->Q w' s') :
  wpAny (model X.prog X.w) A (getItem (.ref a) u) Q E s:=by
 rcases g with ⟨kvs,k,e,ey,l⟩|⟨kvs,k,b,e,ey,eb,l⟩
 . subst ey;obtain⟨z,hd,vs,rel,dd⟩:=Rg I.hok e;obtain⟨w',hw,rw'⟩:=RelO.some_of (v:=v) (o:=valueAt vs k) (by rw[l];exact rel.val k);exact wpAny_getItem_of (Sl ry) dd.mapOf hw (h w' _ (I.tok _) rw')
 subst ey
 cases (show u=Value.ref b from ry);obtain⟨z,hd,xs,rel,dd⟩:=Tf I.hok e;obtain⟨w',hw,rw'⟩:=RelO.some_of (v:=v) (o:=(atKey xs k).map (·.2)) (by rw[l];exact rel.val k);obtain⟨p,hp,hp2⟩:=Option.map_eq_some_iff.mp hw;refine wpAny_getItem_heap (A36 hu) (Nl I.hok eb) dd hp ?_;rw[hp2];exact h w' _ (I.tok _) rw'
theorem d_in {Q:Value->Shared->Prop}(hu:A.units+1<cLine)(I:Inv X pins σ H s)(g:DGet H a y o)(ry:RelV y u)(h:∀ s',Inv X pins σ H s'->Q (.bool o.isSome) s') :
  wpAny (model X.prog X.w) A (compareOp .In u (.ref a)) Q E s:=by
 rcases g with ⟨kvs,k,e,ey,l⟩|⟨kvs,k,b,e,ey,eb,l⟩
 . subst ey;obtain⟨z,hd,vs,rel,dd⟩:=Rg I.hok e;refine wpAny_in_of (Sl ry) hd dd.mapOf ?_;rw[<- (rel.val k).isSome_eq,<- l];exact h _ (I.tok _)
 subst ey
 cases (show u=Value.ref b from ry);obtain⟨z,hd,xs,rel,dd⟩:=Tf I.hok e;refine wpAny_in_heap (A36 hu) (Nl I.hok eb) hd dd ?_;have q:=(rel.val k).isSome_eq;rw[Option.isSome_map] at q;rw[<- q,<- l];exact h _ (I.tok _)
theorem at2 {Q:Value->Shared->Prop}(hu:A.units+1<cLine)(I:Inv X pins σ H s)(g:DGet H a y o)(ry:RelV y u)(h:∀ s',Inv X pins σ H s'->Q (.bool (!o.isSome)) s') :
  wpAny (model X.prog X.w) A (compareOp .NotIn u (.ref a)) Q E s:=by
 rcases g with ⟨kvs,k,e,ey,l⟩|⟨kvs,k,b,e,ey,eb,l⟩
 . subst ey;obtain⟨z,hd,vs,rel,dd⟩:=Rg I.hok e;refine wpAny_notIn_of (Sl ry) hd dd.mapOf ?_;rw[<- (rel.val k).isSome_eq,<- l];exact h _ (I.tok _)
 subst ey
 cases (show u=Value.ref b from ry);obtain⟨z,hd,xs,rel,dd⟩:=Tf I.hok e;refine wpAny_notIn_heap (A36 hu) (Nl I.hok eb) hd dd ?_;have q:=(rel.val k).isSome_eq;rw[Option.isSome_map] at q;rw[<- q,<- l];exact h _ (I.tok _)
theorem Ri {h':Heap}{t':Nat}{ob:HO}(I:Inv X pins σ H s)(mu:Mut (H a))(hs:Heap.SameBut a s.heap h')(he:∃ q,h'.get? a=some q)(new:ObjOk X.prog X.w (upd H a ob) h' a ob) :
  Inv X pins σ (upd H a ob) {s with heap:=h',toks:=t'}:=
 I.write (x:=a) (e:=a) mu (.inl rfl) (λb q hb z=>(hs.2 b hb).trans z) he new
theorem Td {P:Program}{w:World}{H':Hp}{h':Heap}{kvs:List (Key×V)}{vs:List (Key×Value)}(z:kvs.length<=sizeLine)(hd:(a==sysModules)=false)(rel:KV kvs vs)(dd:h'.DictOf (Ay P w) a vs) :
  ObjOk P w H' h' a (.dK kvs):=⟨z,hd,vs,rel,dd⟩
theorem a65 {H':Hp}{Q:Unit->Shared->Prop}(hu:A.units+1<cLine)(I:Inv X pins σ H s)(g:DPut H a y v H')(ry:RelV y u)(rv:RelV v r)(h:∀ s',Inv X pins σ H' s'->Q () s') :
  wpAny (model X.prog X.w) A (setItem (.ref a) u r) Q E s:=by
 rcases g with ⟨kvs,k,e,ey,l,eH⟩|⟨kvs,k,b,e,ey,eb,l,eH⟩
 . subst ey eH;obtain⟨z,hd,vs,rel,dd⟩:=Ub I.hok e;have hz:vs.length<=sizeLine:=by rw[<- rel.length];exact z
   have hl:(Gj kvs k v).length<=sizeLine:=by have:=K9 kvs k v;omega
   refine wpAny_setItem_pairs (hsz:=hz) (Sl ry) dd λh' dd' hs=>h _ ?_;have he:∃ q,h'.get? a=some q:=let ⟨q,_,_,hq,_⟩:=dd';⟨q,hq⟩;exact Ri I (by rw[e];exact A22) hs he (Td hl hd (rel.put k rv) dd')
 subst ey eH
 cases (show u=Value.ref b from ry);obtain⟨z,hd,xs,rel,dd⟩:=aQ5 I.hok e;have hz:xs.length<=sizeLine:=by rw[<- A3A rel];exact z
 have hl:(Gj kvs k v).length<=sizeLine:=by have:=K9 kvs k v;omega
 refine wpAny_setItem_heap (hsz:=hz) (A36 hu) (Nl I.hok eb) dd λh' dd' hs=>h _ ?_;obtain⟨q,es,ep,hq,h2,h3,h4,_,h5⟩:=dd';refine Ri I (by rw[e];exact A22) hs ⟨q,hq⟩ ⟨hl,hd,_,(rel.put k eb rv).keeps λc ys ec=>?_,q,es,ep,hq,h2,h3,h4,h5⟩;rw[Az (ne_of ec e (λz=>nomatch z))];exact ec
end
section
variable {X:Cx}{pins:List (Addr×Obj)}{σ:St}{H:Hp}{s:Shared}{a:Addr}{kvs:List (Key×V)}{k:Key}{u:Value}{A:Around}{E:Value->Shared->Prop}
theorem aP8 {Q:Value->Shared->Prop}(I:Inv X pins σ H s)(e:Rd H a (.dK kvs))(h:∀ t s',Inv X pins σ H s'->Q (.int kvs.length t) s'):wpAny (model X.prog X.w) A (call (.builtin "len") [.ref a]) Q E s:=by obtain⟨z,hd,vs,rel,dd⟩:=Rg I.hok e;refine call_len_dict hd dd (by rw[<- rel.length];rw[A1G] at z;omega) ?_;rw[<- rel.length];exact h _ _ (I.tok _)
end
theorem Wb {X:Cx}{pins:List (Addr×Obj)}{σ:St}{H:Hp}{s:Shared}{a:Addr}{y:V}{o:Option V}(I:Inv X pins σ H s)(g:DGet H a y o):s.TypeIs (.ref a) "dict":=by
 rcases g with ⟨kvs,k,e,_,_⟩|⟨kvs,k,b,e,_,_,_⟩
 . obtain⟨_,_,vs,_,dd⟩:=Rg I.hok e;exact dd.typeIs
 obtain⟨_,_,xs,_,dd⟩:=Tf I.hok e;exact dd.typeIs
def aL2 (td ty tv:TE):TS:=λD σ H=>tv σ H λv H1=>td σ H1 λx H2=>ty σ H2 λy H3=>∃ a H4,x = .ref a/\DPut H3 a y v H4/\D.nx σ H4
section
variable {X:Cx}{o i e value:Expr}{pos pos' tpos:Pos}{td ty tv:TE}
theorem Gw (hu:X.A.units+1<cLine)(ho:PE X o td)(hi:PE X i ty)(hv:PE X value tv)(hs:swapsWith value (some (.Subscript o i pos')) pos.line X.env=pure false) :
  PS X (.Assign [.Subscript o i pos'] value pos) (aL2 td ty tv):=by
 intro pins s σ H D I h;refine wpAny_Assign_Subscript (thn (hv pins s σ H _ I h) λr s1 ⟨v,H1,I1,rv,q1⟩=>thn (ho pins s1 σ H1 _ I1 q1) λu s2 ⟨x,H2,I2,rx,q2⟩=>thn (hi pins s2 σ H2 _ I2 q2) λiv s3 ⟨y,H3,I3,ry,a,H4,ex,g,q3⟩=>?_) hs;subst ex;obtain rfl:u=Value.ref a:=rx;exact a65 hu I3 g ry rv λs4 I4=>⟨σ,H4,I4,q3⟩
end
theorem Xl {P:Program}{w:World}{H:Hp}(h:Heap)(hb:sysModules<h.objs.size):ObjOk P w H (h.push {cls:=.type "dict",data:=.dict #[]}) h.objs.size (.dK []):=
 ⟨A3U _,A1R.mpr (Ne.symm (A0J hb)),[],.nil,Heap.DictOf.new h⟩
def ao3:TE:=λ_ H Q=>∀ p,H p=none->Q (.ref p) (upd H p (.dK []))
section
variable {X:Cx}{pos:Pos}
theorem Mi:PE X (.Dict [] [] pos) ao3:=λpins s σ H Q I h=>wpAny_Dict_empty ⟨.ref s.heap.objs.size,_,I.laid (a:=s.heap.objs.size) (o:=.dK []) (t':=s.toks) (λ_ _ q=>A02 _ q) (A0D _) (Xl s.heap I.big),rfl,h _ (I.hok.fresh (A0D _))⟩
end
def Ov:List (TE×TE)->St->Hp->(List (V×V)->Hp->Prop)->Prop
 | [],_,H,Q=>Q [] H
 | (tk,tv) :: r,σ,H,Q=>tk σ H λx H1=>tv σ H1 λy H2=>Ov r σ H2 λps H3=>Q ((x,y) :: ps) H3
abbrev VV:List (V×V)->List (Value×Value)->Prop:=Paired λp q=>RelV p.1 q.1/\RelV p.2 q.2
def PPs (X:Cx)(pos:Pos)(keys:List (Option Expr))(values:List Expr)(trs:List (TE×TE)):Prop:=
 ∀(pins:List (Addr×Obj)) (s:Shared) (σ:St) (H:Hp) (Q:List (V×V)->Hp->Prop),Inv X pins σ H s->Ov trs σ H Q ->
  wpAny (model X.prog X.w) X.A (evalPairs (pairTrees keys values X.env pos)) (λvs s'=>∃ ps H',Inv X pins σ H' s'/\VV ps vs/\Q ps H') X.xe s
theorem Rt {X:Cx}{pos:Pos}:PPs X pos [] [] []:=λpins s σ H Q I h=>pairTrees_nil_walk ⟨[],H,I,.nil,h⟩
theorem Hw {X:Cx}{pos:Pos}{k v:Expr}{ks:List (Option Expr)}{vs:List Expr}{tk tv:TE}{trs:List (TE×TE)}(hk:PE X k tk)(hv:PE X v tv)(hr:PPs X pos ks vs trs) :
  PPs X pos (some k :: ks) (v :: vs) ((tk,tv) :: trs):=λpins s σ H Q I h=>
 pairTrees_cons_walk (thn (hk pins s σ H _ I h) λu s1 ⟨x,H1,I1,rx,q1⟩=>thn (hv pins s1 σ H1 _ I1 q1) λw2 s2 ⟨y,H2,I2,ry,q2⟩=>thn (hr pins s2 σ H2 _ I2 q2) λws s3 ⟨ps,H3,I3,rel,q3⟩=>⟨(x,y) :: ps,H3,I3,.cons ⟨rx,ry⟩ rel,q3⟩)
def Eu (kvs more:List (Key×V)):List (Key×V):=more.foldl (λacc kv=>Gj acc kv.1 kv.2) kvs
theorem KV.merge:∀ {more:List (Key×V)} {rs:List (Key×Value)} {kvs:List (Key×V)} {vs:List (Key×Value)},KV more rs->KV kvs vs->KV (Eu kvs more) (merged vs rs):=by
 intro more rs kvs vs r;unfold KV at r
 induction r generalizing kvs vs with
 |nil=>intro q;exact q
 |@cons p q ps qs h t ih=>
   intro r0
   have e:KV (Gj kvs p.1 p.2) (stored vs q.1 q.2):=by have:=r0.put p.1 h.2;rw[<- h.1];exact this
   exact ih e
theorem Er:∀(more kvs:List (Key×V)),(Eu kvs more).length<=kvs.length+more.length
 | [],kvs=>by show kvs.length<=kvs.length+0;omega
 |p :: r,kvs=>by have h1:=Er r (Gj kvs p.1 p.2);have h2:=K9 kvs p.1 p.2;show(Eu (Gj kvs p.1 p.2) r).length<=_;rw[A0E];omega
theorem Qi {P:Program}{w:World}:∀ {kvs:List (Key×V)} {ws:List (Value×Value)},VV (kvs.map λkv=>(kV kv.1,kv.2)) ws->∃ rs,Carries (Ay P w) ws rs/\KV kvs rs
 | [], _,r=>by rw[List.map_nil] at r;cases r;exact⟨[],A22,.nil⟩
 |p :: kvs,_,r=>by
   rw[A0R] at r
   cases r with
   |@cons a b as bs h t=>obtain⟨rs,c,q⟩:=Qi (P:=P) (w:=w) t;obtain⟨b1,b2⟩:=b;exact⟨(p.1,b2) :: rs,⟨Sl h.1,rfl,c⟩,.cons ⟨rfl,h.2⟩ q⟩
def aI3 (trs:List (TE×TE)):TE:=fun σ H Q=>∀ p,H p=none->Ov trs σ (upd H p (.dK [])) λps H2=>H2 p=some (.dK [])/\∃ kvs:List (Key×V),ps=kvs.map (λkv=>(kV kv.1,kv.2))/\kvs.length<=15/\Q (.ref p) (upd H2 p (.dK (Eu [] kvs)))
theorem Sf {X:Cx}{pos:Pos}{keys:List (Option Expr)}{values:List Expr}{trs:List (TE×TE)}(h:PPs X pos keys values trs)(hall:keys.all (·.isSome)=true)(hl:keys.length=values.length)(h0:keys≠[])
  (h15:keys.length<=15):PE X (.Dict keys values pos) (aI3 trs):=by
 intro pins s σ H Q I q;have hn:=I.hok.fresh (A0D s.heap.objs.size);have I1:=I.laid (a:=s.heap.objs.size) (o:=.dK []) (h':=s.heap.push {cls:=.type "dict",data:=.dict #[]}) (t':=s.toks) (λ_ _ q=>A02 _ q) (A0D _) (Xl s.heap I.big);refine wpAny_Dict_walk (knd:=Ay X.prog X.w) hall hl h0 h15 (thn (h pins _ σ _ _ I1 (q _ hn)) λws s2 ⟨ps,H2,I2,rel,e,kvs,ep,lk,q2⟩=>?_);subst ep;obtain⟨rs,c,rk⟩:=Qi (P:=X.prog) (w:=X.w) rel;obtain⟨z,hd,vs0,r0,dd⟩:=Ub I2.hok e
 cases r0;refine⟨rs,c,dd,λh' dd' hs=>⟨.ref s.heap.objs.size,_,?_,rfl,q2⟩⟩
 have hz:(Eu [] kvs).length<=sizeLine:=by have h1:=Er kvs [];rw[A4A] at h1;rw[A1G];omega
 have he:∃ q,h'.get? s.heap.objs.size=some q:=let ⟨q,_,_,hq,_⟩:=dd';⟨q,hq⟩;exact Ri I2 (by rw[e];exact A22) hs he (Td hz hd (rk.merge .nil) dd')
structure M1 (X:Cx)(o:Expr)(m:Str)(apos:Pos)(e:Expr)(cpos:Pos):Prop where
 base:attributeBase o m X.env (eval o X.env)=eval o X.env
 few:((backTo cpos (starEach [e] X.env)).all (λx=>!x.1)&&(backToKw cpos (keywordEach [] X.env)).all (λx=>x.1.isSome)
  && decide (([e]:List Expr).length+([]:List Keyword).length+(if([]:List Keyword).isEmpty then 0 else 1)<30))=true
 line:(apos.endLine==cpos.line)=true
 trees:backTo cpos (starEach [e] X.env)=[(false,eval e X.env)]
structure M2 (X:Cx)(o:Expr)(m:Str)(apos:Pos)(e f:Expr)(cpos:Pos):Prop where
 base:attributeBase o m X.env (eval o X.env)=eval o X.env
 few:((backTo cpos (starEach [e,f] X.env)).all (λx=>!x.1)&&(backToKw cpos (keywordEach [] X.env)).all (λx=>x.1.isSome)
  && decide (([e,f]:List Expr).length+([]:List Keyword).length+(if([]:List Keyword).isEmpty then 0 else 1)<30))=true
 line:(apos.endLine==cpos.line)=true
 trees:backTo cpos (starEach [e,f] X.env)=[(false,eval e X.env),(false,eval f X.env)]
def IsD (H:Hp)(a:Addr):Prop:=(∃ kvs,Rd H a (.dK kvs))\/∃ kvs,Rd H a (.dT kvs)
theorem ap6 {X:Cx}{pins:List (Addr×Obj)}{σ:St}{H:Hp}{s:Shared}{a:Addr}(I:Inv X pins σ H s)(d:IsD H a) :
  s.TypeIs (.ref a) "dict" /\ (∀ b,Value.ref a = .ref b->∃ ob,s.heap.get? b=some ob/\ob.dict=none)/\(a==sysModules)=false:=by
 rcases d with ⟨kvs,e⟩|⟨kvs,e⟩
 . obtain⟨_,hd,vs,_,dd⟩:=Rg I.hok e;refine⟨dd.typeIs,λb q=>?_,hd⟩
   cases q;obtain⟨ob,_,_,h1,h2,_⟩:=dd;exact⟨ob,h1,h2.2.1⟩
 obtain⟨_,hd,xs,_,dd⟩:=Tf I.hok e;refine⟨dd.typeIs,λb q=>?_,hd⟩
 cases q;obtain⟨ob,_,_,h1,h2,_⟩:=dd;exact⟨ob,h1,h2.2.1⟩
section
variable {X:Cx}{pins:List (Addr×Obj)}{σ:St}{H:Hp}{s:Shared}{a:Addr}{y d:V}{u r:Value}{o:Option V}{A:Around}{E:Value->Shared->Prop}
theorem aM4 {Q:Value->Shared->Prop}(hu:A.units+1<cLine)(I:Inv X pins σ H s)(g:DGet H a y o)(ry:RelV y u)(h:∀ w' s',Inv X pins σ H s'->RelV (o.getD .non) w'->Q w' s') :
  wpAny (model X.prog X.w) A (call (.builtin "dict.get") [.ref a,u]) Q E s:=by
 rcases g with ⟨kvs,k,e,ey,l⟩|⟨kvs,k,b,e,ey,eb,l⟩
 . subst ey;obtain⟨z,hd,vs,rel,dd⟩:=Rg I.hok e;refine A3Y A2N dd.typeIs A3S (PySem.F.args_dict_get_2 _ _) (meets_dict_get (Ay X.prog X.w) a (Sl ry) hd) ⟨_,dd.mapOf,h _ _ (I.tok _) ?_⟩;rw[l];exact(rel.val k).getD rfl
 subst ey
 cases (show u=Value.ref b from ry);obtain⟨z,hd,xs,rel,dd⟩:=Tf I.hok e;refine A3Y A2N dd.typeIs A3S (PySem.F.args_dict_get_2 _ _) (meetsH_dict_get (tupleKind (Ay X.prog X.w)) a b hd) ⟨A36 hu,k,xs,Nl I.hok eb,dd,h _ _ (I.tok _) ?_⟩;rw[l];exact(rel.val k).getD rfl
theorem aM3 {Q:Value->Shared->Prop}(hu:A.units+1<cLine)(I:Inv X pins σ H s)(g:DGet H a y o)(ry:RelV y u)(rd:RelV d r)(h:∀ w' s',Inv X pins σ H s'->RelV (o.getD d) w'->Q w' s') :
  wpAny (model X.prog X.w) A (call (.builtin "dict.get") [.ref a,u,r]) Q E s:=by
 rcases g with ⟨kvs,k,e,ey,l⟩|⟨kvs,k,b,e,ey,eb,l⟩
 . subst ey;obtain⟨z,hd,vs,rel,dd⟩:=Rg I.hok e;refine A3Y A2N dd.typeIs A3S (PySem.F.args_dict_get_3 _ _ _) (meets_dict_get_default (Ay X.prog X.w) a (Sl ry) hd r) ⟨_,dd.mapOf,h _ _ (I.tok _) ?_⟩;rw[l];exact(rel.val k).getD rd
 subst ey
 cases (show u=Value.ref b from ry);obtain⟨z,hd,xs,rel,dd⟩:=Tf I.hok e;refine A3Y A2N dd.typeIs A3S (PySem.F.args_dict_get_3 _ _ _) (meetsH_dict_get_default (tupleKind (Ay X.prog X.w)) a b hd r) ⟨A36 hu,k,xs,Nl I.hok eb,dd,h _ _ (I.tok _) ?_⟩;rw[l];exact(rel.val k).getD rd
end
def ap0 (td ty:TE):TE:=fun σ H Q=>td σ H λx H1=>∃ a,x = .ref a/\IsD H1 a/\ty σ H1 λy H2=>∃ o,DGet H2 a y o/\Q (o.getD .non) H2
def as2 (td ty tx:TE):TE:=fun σ H Q=>td σ H λx H1=>∃ a,x = .ref a/\IsD H1 a/\ty σ H1 λy H2=>tx σ H2 λz H3=>∃ o,DGet H3 a y o/\Q (o.getD z) H3
section
variable {X:Cx}{o e f:Expr}{apos cpos:Pos}{td ty tx:TE}
theorem al2 (hu:X.A.units+1<cLine)(ho:PE X o td)(he:PE X e ty)(m:M1 X o "get" apos e cpos):PE X (.Call (.Attribute o "get" apos) [e] [] cpos) (ap0 td ty):=by intro pins s σ H Q I h;refine wpAny_Call_method m.base m.few m.line A3K A2N PySem.F.type_dict_get (thn (ho pins s σ H _ I h) λu s1 ⟨x,H1,I1,rx,a,ex,d,q1⟩=>?_);subst ex;obtain rfl:u=Value.ref a:=rx;obtain⟨t1,t2,_⟩:=ap6 I1 d;refine⟨t1,t2,?_⟩;rw[m.trees];refine A3R rfl (A56 (A35 (thn (he pins s1 σ H1 _ I1 q1) λiv s2 ⟨y,H2,I2,ry,ov,g,q2⟩=>A3B ?_)));exact aM4 hu I2 g ry λw' s3 I3 rw'=>⟨_,H2,I3,rw',q2⟩
theorem ai0 (hu:X.A.units+1<cLine)(ho:PE X o td)(he:PE X e ty)(hf:PE X f tx)(m:M2 X o "get" apos e f cpos):PE X (.Call (.Attribute o "get" apos) [e,f] [] cpos) (as2 td ty tx):=by
 intro pins s σ H Q I h;refine wpAny_Call_method m.base m.few m.line A3K A2N PySem.F.type_dict_get (thn (ho pins s σ H _ I h) λu s1 ⟨x,H1,I1,rx,a,ex,d,q1⟩=>?_);subst ex;obtain rfl:u=Value.ref a:=rx;obtain⟨t1,t2,_⟩:=ap6 I1 d;refine⟨t1,t2,?_⟩;rw[m.trees]
 refine A3R rfl (A56 (A35 (thn (he pins s1 σ H1 _ I1 q1) λiv s2 ⟨y,H2,I2,ry,q2⟩=>A35 (thn (hf pins s2 σ H2 _ I2 q2) λfv s3 ⟨z,H3,I3,rz,ov,g,q3⟩=>A3B ?_))))
 exact aM3 hu I3 g ry rz λw' s4 I4 rw'=>⟨_,H3,I4,rw',q3⟩
end
section
variable {X:Cx}{pins:List (Addr×Obj)}{σ:St}{H:Hp}{s:Shared}{a:Addr}{kvs:List (Key×V)}{A:Around}{E:Value->Shared->Prop}
end
section
variable {X:Cx}{pins:List (Addr×Obj)}{σ:St}{H:Hp}{s:Shared}{a:Addr}{y:V}{u:Value}{A:Around}{E:Value->Shared->Prop}
end
end L2
namespace Att
open PySem PySem.W PySem.Calls PyProof.Rows
theorem Mr {P:Params}{h:Heap}:∀(ns:List Int) (vs:List Value),WellAll P h vs (ns.map WData.int)->IntsAre vs ns:=by
 intro ns
 induction ns with
 |nil=>
   intro vs w;rw[List.map_nil] at w
   cases w;exact .nil
 |cons n ns ih=>
   intro vs w;rw[A0R] at w
   cases w with
   |cons a b=>cases a;exact .cons _ _ (ih _ b)
theorem a93 {l:OpenLaw}{n:Nat}(hn:l.most=some n){P:Params}{h:Heap}{args:List WData}{vals:List Value}
  (hpre:l.row.toRowW.claim.pre args=true) (hwl:WellAll P h vals args) :
  ∃ a vs ns,vals=[Value.ref a]/\args=[WData.list (ns.map WData.int)]/\h.get? a=some {cls:=.type "list",data:=.seq vs.toArray}/\IntsAre vs ns/\ns.length<=n:=by
 have hsh:WShape.hasAll [] args [.list .int]=true:=(pre_splitW hpre).1;have hc:l.pre.holds [] {args:=args}=true:=(pre_splitW hpre).2;obtain⟨d,r,rfl,h1,h2⟩:=hasAllW_cons hsh;obtain rfl:=hasAllW_nil h2;obtain⟨xs,rfl,h3⟩:=hasW_list h1;obtain⟨ns,rfl⟩:=items_int h3
 have hlen:ns.length<=n:=by
  unfold OpenLaw.pre at hc
  have h4:(WTm.not (.lt (.lit (.int (n:Int))) (.len (.arg 0)))).holds [] {args:=[.list (ns.map .int)]}=true:=by have h4:=(holds_andW hc).1;rw[hn] at h4;exact h4
  have h5:=condW_of h4 (w_not (w_lt w_lit (w_len_list (w_arg rfl))));rw[A01] at h5;refine Nat.le_of_not_lt λq=>?_;have q':(n:Int)<((ns.length:Nat):Int):=by omega
  first
   | (rw[A0S q'] at h5;exact absurd h5 ∅)
   | (simp at h5;omega)
 cases hwl with
 |cons w1 w2=>
   cases w2
   cases w1 with
   |list ho hall=>exact⟨_,_,ns,rfl,rfl,ho,Mr ns _ hall,hlen⟩
theorem a60 (l:OpenLaw)(args:List WData):l.row.toRowW.claim.post args (.bool true) args=true:=
 postW_of (r:=l.row.toRowW) (X:=(true==true))
  (show WShape.has [] (.bool true) .bool=true by first | rfl | decide | simp[WShape.has,WShape.arms,WShape.armsAll])
  (show(WTm.eq .res (.lit (.bool true))).value [] {args:=args,res:=some (.bool true),after:=args}=some (.bool (true==true)) from w_eq_bool (w_res rfl) w_lit) rfl
theorem attach_call {l:OpenLaw}{n:Nat}{q:Program}{loose:List Str}{XP:(Str->Option Value)->Heap->Prop}{YP:World->Heap->Prop}{d:DefRec}
  (hn:l.most=some n) (hdf:d.params.defaults=[])
  (call:∀(w:World) (s₀ s₁:Shared) (mg mb:Str->Option Value) (fa:Addr) (o:Obj) (pm cd doc:Value) (a:Addr) (vs:List Value) (ns:List Int),
   Ground q loose [] XP w s₀ mg mb s₁.heap->YP w s₁.heap ->
   s₁.heap.get? fa=some o->o.data = .func (docDef d.name d.params d.body d.scope pm cd doc)->s₁.heap.CodeRec cd d.name->mg d.name=some (.ref fa) ->
   s₁.heap.get? a=some {cls:=.type "list",data:=.seq vs.toArray}->IntsAre vs ns->ns.length<=n->s₁.gens = #[] ->
   codeAny (model l.prog w) callerA (.call (.ref fa) ⟨[.ref a],[]⟩) (λr s'=>r = .ok (.ret (.bool true))/\OldK s₁.heap s'.heap/\s'.os=s₁.os/\AllBare s'.gens) s₁) :
  WalkO q loose XP YP l.row.toRowW d [] (λf vs=>PySem.call f vs):=by
 intro w s₀ s₁ mg mb G Y fa o pm cd doc dV kV ho hd hcd hD hmg hg args vals as hpre hlay hrd hwl hlo;obtain rfl:dV = .none:=Dflts.none hD hdf;obtain rfl:kV = .none:=Dflts.noKw hD;obtain⟨a,vs,ns,rfl,rfl,hobj,hints,hlen⟩:=a93 hn hpre hwl;refine enter_call (A3G (call w s₀ s₁ mg mb fa o pm cd doc a vs ns G Y ho (fd_plain hd) hcd hmg hobj hints hlen hg) λr s' hq=>?_);obtain⟨rfl,h2,h3,h4⟩:=hq;exact⟨.inl ⟨.bool true,.bool true,[],rfl,λ_=>rfl,.bool true,a60 l _,λ_=>⟨List.Pairwise.nil,λ_ hm=>(nomatch hm)⟩⟩,h2,h3,h4⟩
section
variable {prog:Program}{w:World}{A:Around}{E:Value->Shared->Prop}{s:Shared}{K:Frag}
end
end Att
namespace L2
open PySem PySem.Spec PyProof.Rows
theorem Tz:∀ {vs:List Value} {ns:List Int},IntsAre vs ns->Vals (ns.map V.int) vs
 |_,_,.nil=>.nil
 |_,_,.cons n t h=>.cons ⟨t,rfl⟩ (Tz h)
def aP5 (H:Hp):Prop:=∀ b,H b=none\/∃ o xs,H b=some (.frz o (.lst xs))
theorem am4 {P:Program}{w:World}{K:W.Frag}{mg mb:Str->Option Value}{CX:CXT}{k:Nat}{fa a:Addr}{fd:FuncData}{x:Str}{sp:Sp}{s₁:Shared}{vs:List Value}{ns:List Int}
  (KX:K.In s₁.heap) (hns:s₁.heap.Ns mainGlobals mg) (hb:s₁.heap.Ns builtinsNs mb) (hbb:∀ x:Str,x ≠ "__name__" -> mb x=bootBuiltins x) (hlim:s₁.heap.NoLimit) (hg:s₁.gens = #[])
  (ha:s₁.heap.get? a=some {cls:=.type "list",data:=.seq vs.toArray}) (hi:IntsAre vs ns) (hl:ns.length<=sizeLine) (hr:Room k callerA)
  (F:∀ base:Heap,K.In base->base.Ns mainGlobals mg->FnOk P w K mg base CX k fa fd [x] sp) (hbind:∀(s:Shared) (u:Value),BindsTo s fd ⟨[u],[]⟩ [(x,u)])
  (hsp:∀ H:Hp,aP5 H->SqL K H a (ns.map V.int)->sp [.ref a] H (λv _=>v = .bl true) λ_ _ _=>False)
  (hCX:∀ H e s',CX [] H s₁ (λ_ _ _=>False) e s'->False) :
  codeAny (model P w) callerA (.call (.ref fa) ⟨[.ref a],[]⟩) (λr s'=>r = .ok (.ret (.bool true))/\OldK s₁.heap s'.heap/\s'.os=s₁.os/\AllBare s'.gens) s₁:=by
 have rv:=Tz hi;have lenV:=hi.length
 have core:∀ H:Hp,aP5 H->SqL K H a (ns.map V.int)->HOk P w H s₁.heap->(∀ b,H b≠none->b=a)->(H a≠none->K.lookup a=none) ->
   codeAny (model P w) callerA (.call (.ref fa) ⟨[.ref a],[]⟩) (λr s'=>r = .ok (.ret (.bool true))/\OldK s₁.heap s'.heap/\s'.os=s₁.os/\AllBare s'.gens) s₁:=by
  intro H hO hS hok hA hK;have base_of:∀ {b:Addr} {o:Obj},s₁.heap.get? b=some o->H b=none->(am1 s₁.heap H).get? b=some o:=λe n=>ag6 e n
  have noA:∀ {b:Addr} {o:Obj} {es:Array DictEntry} {ep:Nat},s₁.heap.get? b=some o->o.data = .dict es ep->H b=none:=fun {b o es ep} e d=>by
   cases q:H b with
   |none=>rfl
   |some u=>
     have e':b=a:=hA b (by rw[q];simp);subst e';rw[ha] at e;cases e;have d':Data.seq vs.toArray _=Data.dict es ep:=d
     cases d'
  have nsK:∀ {b:Addr} {m:Str->Option Value},s₁.heap.Ns b m->(am1 s₁.heap H).Ns b m:=fun {b m} ⟨o,es,ep,e,d,r⟩=>⟨o,es,ep,base_of e (noA e d),d,r⟩
  have hKb:K.In (am1 s₁.heap H):=λb o e=>base_of (KX b o e) (by
   cases q:H b with
   |none=>rfl
   |some u=>have e':b=a:=hA b (by rw[q];simp);subst e';rw[hK (by rw[q];simp)] at e;cases e)
  have hM:Mod K mg (am1 s₁.heap H):=⟨hKb,nsK hns,⟨mb,nsK hb,hbb⟩,let ⟨mc,h1,h2⟩:=hlim;⟨mc,nsK h1,h2⟩⟩;have e0:Env0 P w K mg (am1 s₁.heap H) callerA [] s₁ H:=⟨rfl,hM,λb o e=>aB0 e,Nat.le_of_eq (ac7 _ _),trivial,λb hb=>absurd (show b∈([]:List Addr) from hb) (by simp),hok,.of_eq hg⟩;refine A3G ((F _ hKb (nsK hns)).run callerA [] s₁ H ⟨[.ref a],[]⟩ [.ref a] [.ref a] _ _ hr e0 (hbind s₁ (.ref a)) (.cons rfl .nil) (hsp H hO hS)) λr s' h=>?_
  cases r with
  |error e=>exact(hCX H e s' h).elim
  |ok fl=>
    cases fl with
    |next=>exact False.elim h
    |brk=>exact False.elim h
    |cont=>exact False.elim h
    |ret u=>
      obtain⟨v,H',os,bare,un,hok',r',q⟩:=h;have q':v = .bl true:=q;subst q';obtain rfl:u=Value.bool true:=r';refine⟨rfl,OldK.of_keep λb o e=>?_,os,bare⟩
      cases q:H b with
      |none=>exact un.keep b o e q (by intro z;exact absurd (show b∈([]:List Addr) from z) (by simp)) (by simp)
      |some u=>
        rcases hO b with z|⟨ob,xs,z⟩
        . rw[q] at z;cases z
        have z2:=un.frzs b ob _ z;obtain⟨e1,_⟩:=hok b _ z;obtain⟨e2,_⟩:=hok' b _ z2;rw[e] at e1;cases e1;exact e2
 cases hk:K.lookup a with
 |some o=>
   have e:=KX a o hk;rw[ha] at e
   cases e;refine core (λ_=>none) (λ_=>.inl rfl) (.inr ⟨_,vs.toArray,_,hk,rfl,rfl,rfl,by rw[List.size_toArray,lenV];exact hl,by simpa using rv⟩) (λb u z=>by have z':(none:Option HO)=some u:=z;cases z') (λb z=>absurd rfl z) λz=>absurd rfl z
 |none=>
   refine core (λb=>if b=a then some (.frz {cls:=.type "list",data:=.seq vs.toArray} (.lst (ns.map V.int))) else none) (λb=>?_) (.inl (.inr ⟨{cls:=.type "list",data:=.seq vs.toArray},A15 rfl⟩)) (λb u z=>?_) (λb z=>?_) λ_=>hk
   . by_cases hb:b=a
     . exact .inr ⟨_,_,A15 hb⟩
     exact .inl (A10 hb)
   . by_cases hb:b=a
     . have z':=(A15 hb).symm.trans z
       cases z';subst hb;exact⟨ha,by rw[A01];exact hl,vs,_,rv,ha⟩
     have z':=(A10 hb).symm.trans z
     cases z'
   by_cases hb:b=a
   . exact hb
   exact absurd (A10 hb) z
theorem walk_of {l:W.OpenLaw}{n k:Nat}{q:Program}{loose:List Str}{XP:(Str->Option Value)->Heap->Prop}{YP:World->Heap->Prop}{d:DefRec}{K:Params->W.Frag}{CX:World->CXT}{sp:World->Sp}{x:Str}
  (hn:l.most=some n) (hn2:n<=sizeLine) (hdf:d.params.defaults=[]) (hr:Room k callerA)
  (hY:∀(w:World) (h:Heap),YP w h->(K w.params).In h)
  (F:∀(w:World) (mg:Str->Option Value) (fa:Addr) (h:Heap),(K w.params).In h->h.Ns mainGlobals mg->mg d.name=some (.ref fa) ->
   ∃ fd:FuncData,(∀(s:Shared) (u:Value),BindsTo s fd ⟨[u],[]⟩ [(x,u)]) /\
    ∀ base:Heap,(K w.params).In base->base.Ns mainGlobals mg->FnOk l.prog w (K w.params) mg base (CX w) k fa fd [x] (sp w))
  (hsp:∀(w:World) (H:Hp) (a:Addr) (ns:List Int),ns.length<=n->aP5 H->SqL (K w.params) H a (ns.map V.int)->sp w [.ref a] H (λv _=>v = .bl true) λ_ _ _=>False)
  (hCX:∀(w:World) (H:Hp) (s:Shared) (e:Value) (s':Shared),CX w [] H s (λ_ _ _=>False) e s'->False) :
  W.WalkO q loose XP YP l.row.toRowW d [] (λf vs=>PySem.call f vs):=by
 refine Att.attach_call hn hdf λw s₀ s₁ mg mb fa o pm cd doc a vs ns G Y ho hd hcd hmg hobj hints hlen hg=>?_;have KX:=hY w _ Y;obtain⟨fd,hb,hF⟩:=F w mg fa _ KX G.T.g hmg;exact am4 KX G.T.g G.T.b G.T.builtins G.T.nolimit hg hobj hints (A0H hlen hn2) hr hF hb (λH hO hS=>hsp w H a ns hlen hO hS) λH e s'=>hCX w H s₁ e s'
def K0 (s:Stmt)(j:Nat):Stmt:=match s with
 |.ClassDef _ _ _ body _ _ _ _ _ _ _=>body.getD j (.Pass ⟨0,0,0,0⟩)
 |_=>.Pass ⟨0,0,0,0⟩
def Ab (s:Stmt):Arguments:=match s with
 |.FunctionDef _ a _ _ _ _ _ _ _ _=>a
 |_=>{posonlyargs:=[],args:=[],vararg:=none,kwonlyargs:=[],kw_defaults:=[],kwarg:=none,defaults:=[]}
def Aa (s:Stmt):List Stmt:=match s with
 |.FunctionDef _ _ b _ _ _ _ _ _ _=>b
 |_=>[]
def A3 (s:Stmt):Scope:=match s with
 |.FunctionDef _ _ _ _ _ _ sc _ _ _=>sc
 |_=>{kind:=.function,names:=[],isGenerator:=false,isCoroutine:=false}
abbrev CX0:CXT:=λ_ _ _ _ _ _=>False
abbrev E0:XK:=λ_ _ _=>False
theorem aw5 {X:Cx}:Kk CX0 X E0:=λ_ _ _ _ _ _ _ h=>h.elim
structure Fun (K:W.Frag)(x qual:Str)(st:Stmt)(f:Addr)(fd:FuncData):Prop where
 ex:∃(oc:Value) (od:Option Addr) (kV doc pm:Value) (an:Option Addr) (cdv ct:Value) (osl:Array (Option Value)),
  fd=W.fnOf x qual (Ab st) (Aa st) (A3 st) .none kV doc pm an cdv ct/\K.lookup f=some ⟨oc,od,.func fd,osl⟩/\W.codeIn K cdv qual=true
 kp:W.keepIn K (.ref f)=true
section
variable {P:Program}{w:World}{K:W.Frag}{mg:Str->Option Value}{base:Heap}
theorem Fun.ok {x qual:Str}{st:Stmt}{f:Addr}{fd:FuncData}{N ps:List Str}{k:Nat}{sp:Sp}(F:Fun K x qual st f fd)(S:Ah N ps (A3 st))(len:∀ vs H Q E,sp vs H Q E->vs.length=ps.length)
  (hbody:∀(cdv:Value) (A:Around) (outer:List Env) (s:Shared) (H:Hp) (vs:List V) (Q:VK) (E:XK),Room k (A.deeper (envOfC qual (A3 st) s.heap.objs.size f cdv))->sp vs H Q E ->
   ∃ t,PSs (Zj CX0 P w K mg base N qual (A3 st) f cdv A outer s H E).nox (Aa st) t/\t {nx:=λ_ H'=>Q .non H',rt:=Q} (start N vs) H):FnOk P w K mg base CX0 (k+1) f fd ps sp:=by
 obtain⟨oc,od,kV,doc,pm,an,cdv,ct,osl,rfl,lk,hcd⟩:=F.ex;refine aJ7 lk hcd S len λA outer s H vs Q E hr hsp=>?_;obtain⟨t,h,q⟩:=hbody cdv A outer s H vs Q E hr hsp;exact⟨t,h.nox,q⟩
theorem Fun.binds {x qual:Str}{st:Stmt}{f:Addr}{fd:FuncData}{ps:List Str}(F:Fun K x qual st f fd)
  (h:∀(kV doc pm:Value) (an:Option Addr) (cdv ct:Value) (us:List Value),us.length=ps.length->bindArgs (W.fnOf x qual (Ab st) (Aa st) (A3 st) .none kV doc pm an cdv ct) ⟨us,[]⟩=pure (ps.zip us)):Binds K fd ps []:=by
 obtain⟨oc,od,kV,doc,pm,an,cdv,ct,osl,rfl,lk,hcd⟩:=F.ex;exact .all (h kV doc pm an cdv ct)
theorem Au {x qual:Str}{st:Stmt}{f:Addr}{oc:Value}{od an:Option Addr}{osl:Array (Option Value)}{kV doc pm cdv ct:Value}(l:K.lookup f=some ⟨oc,od,.func (W.fnOf x qual (Ab st) (Aa st) (A3 st) .none kV doc pm an cdv ct),osl⟩)
  (c:W.codeIn K cdv qual=true) (k:W.keepIn K (.ref f)=true):Fun K x qual st f (W.fnOf x qual (Ab st) (Aa st) (A3 st) .none kV doc pm an cdv ct):=⟨⟨oc,od,kV,doc,pm,an,cdv,ct,osl,rfl,l,c⟩,k⟩
end
theorem Bf {A:Around}{k:Nat}(hr:Room k A):A.units+1<cLine:=Nat.lt_of_le_of_lt (Nat.add_le_add_left (by decide:1<=64) _) hr.units
theorem a92 {n:Nat}(h:n<=1000):n<sizeLine:=Nat.lt_of_le_of_lt h ∅
section
variable {X:Cx}
theorem pv (i:Nat){x:Str}{pos:Pos}(hN:X.N[i]? = some x:=by ac_nf)(hv:Vis X.env.scope x:=by with_unfolding_all first | exact Or.inl rfl | exact A3I (Or.inl rfl) | exact A3I (A3I rfl))(hd:(x==("__debug__":Str))=false:=by decide)
  (hcd:(x==("__classdict__":Str))=false:=by decide):PE X (.Name x pos) (aQ4 i):=aJ3 hN hv hd hcd
end
theorem iteF {A B:Prop}(h:B):if false=true then A else B:=by rw[A10 A0K];exact h
theorem iteT {A B:Prop}(h:A):if true=true then A else B:=by rw[A15 rfl];exact h
theorem aT6 {c A B:Prop}[Decidable c](h1:c->A)(h2:¬ c->B):if c then A else B:=by
 by_cases h:c
 . rw[A15 h];exact h1 h
 rw[A10 h];exact h2 h
def Same (H H':Hp):Prop:=∀ b o,H b=some o->H' b=some o
theorem Same.refl (H:Hp):Same H H:=λ_ _ h=>h
theorem Same.trans {H H1 H2:Hp} (a:Same H H1) (b:Same H1 H2):Same H H2:=λc o h=>b c o (a c o h)
theorem Same.free {H H':Hp}(e:Same H H'){l:Addr}(h:H' l=Option.none):H l=Option.none:=by
 cases q:H l with
 |none=>rfl
 |some o=>
   rw[e l o q] at h
   cases h
theorem Same.seq {K:W.Frag}{H H':Hp}{a:Addr}{xs:List V}(e:Same H H')(h:SqL K H a xs):SqL K H' a xs:=by
 rcases h with (h|⟨o,h⟩)|h
 . exact .inl (.inl (e _ _ h))
 . exact .inl (.inr ⟨o,e _ _ h⟩)
 exact .inr h
section
variable {X:Cx}
theorem ae2:CallR X (.builtin "len") (λxs H Q=>∃ a kvs,xs=[V.ref a]/\H a=some (.dK kvs)/\Q (.int kvs.length) H):=by
 intro pins s σ H xs us Q I r h;obtain⟨a,kvs,rfl,ha,q⟩:=h;obtain⟨u,rfl,ru⟩:=Pa r
 cases ru;exact aP8 I (.inl ha) λt s' I'=>⟨.int kvs.length,H,I',⟨t,rfl⟩,q⟩
end
section
variable {κ:Type}[DecidableEq κ]
theorem an8 {kvs:List (κ×V)}{k:κ}(h:Dn kvs k=none):¬ k∈kvs.map (·.1):=by intro m;obtain⟨p,hp,e⟩:=A0A.mp m;have q:(kvs.any λkv=>decide (kv.1=k))=true:=A19.mpr ⟨p,hp,A0S e⟩;rw [Hy,h] at q;exact absurd q (by simp)
theorem ac8:∀ {l:List κ} {k:κ},l.Nodup->¬ k∈l->(l++[k]).Nodup
 | [],k,_,_=>by simp
 |a :: r,k,h,hk=>by
   obtain⟨h1,h2⟩:=A0U.mp h;show(a :: (r++[k])).Nodup;refine A0U.mpr ⟨λm=>?_,ac8 h2 λm=>hk (A0F.mpr (A3I m))⟩;rcases A0I.mp m with q|q
   . exact h1 q
   exact hk (A0F.mpr (Or.inl (A1Y.mp q).symm))
theorem ax1 {kvs:List (κ×V)}{k:κ}(v:V)(hn:(kvs.map (·.1)).Nodup)(h:Dn kvs k=none):((Gj kvs k v).map (·.1)).Nodup:=by rw[M9 v h,A0M];exact ac8 hn (an8 h)
end
def Lv (env:Env)(names:List (Str×NameKind))(acc:List (Str×Addr)):List (Str×Addr):=
 names.foldl (λacc y=>if y.2==NameKind.free then(y.1,(env.cells.lookup y.1).getD 0) :: acc else acc) acc
theorem Qg {env:Env}{scope:Scope}(h:∀ y∈scope.names,y.2=NameKind.free->∃ c,env.cells.lookup y.1=some c):closureFor scope env=pure (Lv env scope.names []):=by
 have all:∀(names:List (Str×NameKind)) (acc:List (Str×Addr)),(∀ y∈names,y.2=NameKind.free->∃ c,env.cells.lookup y.1=some c) ->
   (forIn names acc λ(y:Str×NameKind) (cs:List (Str×Addr))=>(match y with
    | (name,kind)=>if(kind==NameKind.free)=true then do let c <- cellOf env name;pure (ForInStep.yield ((name,c) :: cs)) else pure (ForInStep.yield cs):Sem (ForInStep (List (Str×Addr)))))=(pure (Lv env names acc):Sem (List (Str×Addr))):=by
  intro names
  induction names with
  |nil=>intro acc _;rfl
  |cons y r ih=>
    intro acc hy;obtain⟨n,k⟩:=y;rw[List.forIn_cons]
    by_cases hk:k=NameKind.free
    . subst hk;obtain⟨c,hc⟩:=hy (n,.free) A12 rfl;have e:cellOf env n=pure c:=by unfold cellOf;rw[show env.cells.lookup n=some c from hc]
      have e2:Lv env ((n,NameKind.free) :: r) acc=Lv env r ((n,c) :: acc):=by unfold Lv;rw[A4Y];simp only[beq_self_eq_true,if_true];rw[show env.cells.lookup n=some c from hc];rfl
      rw[e2,<- ih ((n,c) :: acc) λz hz=>hy z (A0L _ hz)];simp only[beq_self_eq_true,if_true,e];rfl
    have hb:(k==NameKind.free)=false:=by simpa using hk
    have e2:Lv env ((n,k) :: r) acc=Lv env r acc:=by unfold Lv;rw[A4Y];simp only[hb,Bool.false_eq_true,if_false]
    rw[e2,<- ih acc λz hz=>hy z (A0L _ hz)];simp only[hb,Bool.false_eq_true,if_false];rfl
 have q:=all scope.names [] h;unfold closureFor
 first
  |exact q
  | (simp only[bind_pure];exact q)
  | (refine Eq.trans ?_ q;rfl)
theorem Y2 {env:Env}{x:Str}{c:Addr}:∀ {names:List (Str×NameKind)} {acc:List (Str×Addr)},(∀ y∈names,y.2=NameKind.free->∃ c,env.cells.lookup y.1=some c)->(acc.lookup x=some c->env.cells.lookup x=some c) ->
  (Lv env names acc).lookup x=some c->env.cells.lookup x=some c
 | [],acc,_,ha,h=>ha h
 | (n,k) :: r,acc,hn,ha,h=>by
   have e:Lv env ((n,k) :: r) acc=Lv env r (if k==NameKind.free then(n,(env.cells.lookup n).getD 0) :: acc else acc):=rfl
   rw[e] at h;refine Y2 (λy hy=>hn y (A0L _ hy)) (λq=>?_) h
   by_cases hk:k=NameKind.free
   . subst hk;simp only[beq_self_eq_true,if_true,List.lookup_cons] at q;obtain⟨d,hd⟩:=hn (n,.free) A12 rfl;have hd':env.cells.lookup n=some d:=hd
     split at q
     . rename_i hx;have hx':x=n:=A2T.mp hx;rw[hd'] at q;rw[hx',hd'];exact q
     exact ha q
   have hb:(k==NameKind.free)=false:=by simpa using hk
   simp only[hb,Bool.false_eq_true,if_false] at q;exact ha q
theorem Sj {env:Env}{x:Str}:∀ {names:List (Str×NameKind)} {acc:List (Str×Addr)},((∃ c,acc.lookup x=some c)\/(x,NameKind.free)∈names)->∃ c,(Lv env names acc).lookup x=some c
 | [],acc,h=>by
   rcases h with h|h
   . exact h
   cases h
 | (n,k) :: r,acc,h=>by
   have e:Lv env ((n,k) :: r) acc=Lv env r (if k==NameKind.free then(n,(env.cells.lookup n).getD 0) :: acc else acc):=rfl
   rw[e];refine Sj ?_
   by_cases hk:k=NameKind.free
   . subst hk;simp only[beq_self_eq_true,if_true,List.lookup_cons]
     by_cases hx:x=n
     . left;have hb:(x==n)=true:=A2T.mpr hx;rw[hb];exact⟨_,rfl⟩
     have hb:(x==n)=false:=A1R.mpr hx;rw[hb];rcases h with h|h
     . exact .inl h
     rcases A0F.mp h with q|q
     . cases q;exact absurd rfl hx
     exact .inr q
   have hb:(k==NameKind.free)=false:=by simpa using hk
   simp only[hb,Bool.false_eq_true,if_false];rcases h with h|h
   . exact .inl h
   rcases A0F.mp h with q|q
   . cases q;exact absurd rfl hk
   exact .inr q
theorem Em:∀(names:List (Str×NameKind)) (n:Nat) (acc:List (Str×Addr)),cellsFrom n names acc=cellsFrom n names []++acc
 | [],_,_=>rfl
 | (x,k) :: r,n,acc=>by
   unfold cellsFrom
   split
   . rw[Em r (n+1) ((x,n) :: acc),Em r (n+1) [(x,n)],A4M];rfl
   exact Em r n acc
theorem L3 {x:Str}{c:Addr}:∀ {names:List (Str×NameKind)} {n:Nat},(x,c)∈cellsFrom n names []->(x,NameKind.cell)∈names
 | [],_,h=>by cases h
 | (y,k) :: r,n,h=>by
   unfold cellsFrom at h
   split at h
   . rename_i hk;rw[Em] at h;rcases A0I.mp h with h|h
     . exact A0L _ (L3 h)
     have e:=A1Y.mp h
     cases e;rw[A2T.mp hk];exact A12
   exact A0L _ (L3 h)
theorem Nr {α:Type}{x:Str}{c:α}:∀ {l:List (Str×α)},(x,c)∈l->∃ d,l.lookup x=some d
 | [],h=>by cases h
 | (y, d) :: r,h=>by
   rw[A1T]
   cases e:x==y with
   |true=>exact⟨d,rfl⟩
   |false=>
     rcases A0F.mp h with q|q
     . cases q;simp at e
     exact Nr q
theorem Km {x:Str}:∀ {names:List (Str×NameKind)} {n:Nat},(x,NameKind.cell)∈names->∃ c,(x,c)∈cellsFrom n names []
 | [],_,h=>by cases h
 | (y,k) :: r,n,h=>by
   unfold cellsFrom
   split
   . rw[Em];rcases A0F.mp h with q|q
     . cases q;exact⟨n,List.mem_append_right _ (by simp)⟩
     obtain⟨c,hc⟩:=Km (n:=n+1) q;exact⟨c,A0G _ hc⟩
   rename_i hk;rcases A0F.mp h with q|q
   . cases q;exact absurd rfl hk
   exact Km q
def Xe (outer scope:Scope)(xs fr:List Str):Bool:=
 (scope.kind == .function)&&(outer.kind == .function)&&decide (scope.names.map (·.1)).Nodup
 && (scope.names.all λy=>y.2 != .local||scope.names.lookup y.1==some .local)
 && (scope.names.all λy=>y.2 != .free||(outer.names.lookup y.1==some .cell||outer.names.lookup y.1==some .free))
 && (scope.names.all λy=>y.2 != .free||scope.names.lookup y.1==some .free)
 && (xs.all λx=>scope.names.lookup x==some .local||scope.names.lookup x==some .cell)&&(fr.all λx=>scope.names.lookup x==some .free)&&decide (xs++fr).Nodup
theorem Eg {α:Type}{x:Str}{v:α}:∀ {l:List (Str×α)},l.lookup x=some v->(x,v)∈l
 | [],h=>by cases h
 | (n,k) :: r,h=>by
   rw[A1T] at h
   split at h
   . rename_i hx;have hx':x=n:=A2T.mp hx
     cases h;rw[hx'];exact A12
   exact A0L _ (Eg h)
theorem Ju {scope:Scope}{env:Env}{x:Str}{k:NameKind}(hk:env.scope.kind = .function):∀ {names:List (Str×NameKind)},names.lookup x=some k ->
  (names.map λ(n,k)=>if(k==NameKind.free&&env.scope.kind == .function&&env.kindOf n==some .cell) then(n,NameKind.cell) else(n,k)).lookup x=some (if(k==NameKind.free&&env.kindOf x==some .cell) then .cell else k)
 | [],h=>by cases h
 | (n,j) :: r,h=>by
   have ih:=@Ju scope env x k hk r;rw[A0R];rw[A1T] at h;dsimp only
   split at h
   . rename_i hx;have hx':x=n:=A2T.mp hx
     cases h;subst hx'
     by_cases hc:(k==NameKind.free&&env.scope.kind == .function&&env.kindOf x==some .cell)=true
     . have hc2:(k==NameKind.free&&env.kindOf x==some .cell)=true:=by rw[A0X,A0X] at hc;rw[A0X];exact⟨hc.1.1,hc.2⟩
       rw[A15 hc,A15 hc2,A1T,beq_self_eq_true]
     have hc2:¬ (k==NameKind.free&&env.kindOf x==some .cell)=true:=λq=>hc (by rw[A0X] at q;rw[A0X,A0X,hk];exact⟨⟨q.1,rfl⟩,q.2⟩)
     rw[A10 hc,A10 hc2,A1T,beq_self_eq_true]
   rename_i hx;have hx':(x==n)=false:=by simpa using hx
   by_cases hc:(j==NameKind.free&&env.scope.kind == .function&&env.kindOf n==some .cell)=true
   . rw[A15 hc,A1T,hx'];exact ih h
   rw[A10 hc,A1T,hx'];exact ih h
theorem Hd {env:Env} {x:Str} {k:NameKind}:∀ {names:List (Str×NameKind)},
  (names.map λ(n,k)=>if(k==NameKind.free&&env.scope.kind == .function&&env.kindOf n==some .cell) then(n,NameKind.cell) else(n,k)).lookup x=some k ->
  ∃ j,names.lookup x=some j/\(k=j\/(j = .free/\k = .cell))
 | [],h=>by cases h
 | (n,j) :: r,h=>by
   have ih:=@Hd env x k r;rw[A0R] at h;dsimp only at h
   by_cases hc:(j==NameKind.free&&env.scope.kind == .function&&env.kindOf n==some .cell)=true
   . rw[A15 hc,A1T] at h
     have hj:j = .free:=by rw[A0X,A0X] at hc;exact A2T.mp hc.1.1
     rw[A1T]
     split at h
     . rename_i hx
       cases h;exact⟨j,rfl,.inr ⟨hj,rfl⟩⟩
     rename_i hx;have hx':(x==n)=false:=by simpa using hx
     exact ih h
   rw[A10 hc,A1T] at h;rw[A1T]
   split at h
   . rename_i hx
     cases h;exact⟨_,rfl,.inl rfl⟩
   rename_i hx;have hx':(x==n)=false:=by simpa using hx
   exact ih h
structure CompS (X:Cx)(scope:Scope)(xs fr:List Str):Prop where
 kind:scope.kind = .function
 okind:X.env.scope.kind = .function
 uniq:(scope.names.map (·.1)).Nodup
 names:∀ y∈scope.names,y.2 = .local->scope.names.lookup y.1=some .local
 free:∀ y∈scope.names,y.2 = .free->X.env.kindOf y.1=some .cell\/X.env.kindOf y.1=some .free
 own:∀ x∈xs,scope.names.lookup x=some .local\/scope.names.lookup x=some .cell
 fre:∀ x∈fr,scope.names.lookup x=some .free
 nd:(xs++fr).Nodup
theorem Xh {X:Cx}{scope:Scope}{xs fr:List Str}(h:Xe X.env.scope scope xs fr=true):CompS X scope xs fr:=by unfold Xe at h;simp only[Bool.and_eq_true,List.all_eq_true,bne_iff_ne,Bool.or_eq_true,beq_iff_eq,decide_eq_true_eq] at h;obtain⟨⟨⟨⟨⟨⟨⟨⟨h1,h2⟩,h3⟩,h4⟩,h5⟩,h6⟩,h7⟩,h8⟩,h9⟩:=h;exact⟨h1,h2,h3,λy hy e=>(h4 y hy).resolve_left (λq=>q e),λy hy e=>(h5 y hy).resolve_left (λq=>q e),h7,h8,h9⟩
def Pg (σ:St)(js:List Nat):St:=js.map λj=>(σ[j]?).getD none
abbrev cxC (X:Cx)(scope:Scope)(xs fr:List Str)(C:Addr)(ex:List Addr)(s₀:Shared)(H₀:Hp):Cx:=
 {X with N:=xs++fr,env:=compEnvC scope (cellsFrom (C+1) scope.names (Lv X.env scope.names [])) C X.env,s₀:=s₀,H₀:=H₀,outer:=X.stack,ex:=ex,fn:=λx=>scope.names.lookup x==some .cell,pn:=[],xe:=λ_ _=>False}
section
variable {X:Cx}{scope:Scope}{xs fr:List Str}{pins:List (Addr×Obj)}{σ:St}{H:Hp}{s:Shared}{js:List Nat}{fp:List Addr}
theorem Tw {α:Type}{x:Str}{v:α}:∀ {l:List (Str×α)},(l.map (·.1)).Nodup->(x,v)∈l->l.lookup x=some v
 | [],_,h=>by cases h
 | (y,d) :: r,hn,h=>by
   obtain⟨h1,h2⟩:=A0U.mp hn;rw[A1T];rcases A0F.mp h with q|q
   . cases q;rw[beq_self_eq_true]
   have hne:(x==y)=false:=A1R.mpr λe=>h1 (e ▸ A0A.mpr ⟨(x,v),q,rfl⟩);rw[hne];exact Tw h2 q
theorem CompS.cells (S:CompS X scope xs fr)(ok:X.Ok):∀ y∈scope.names,y.2=NameKind.free->∃ c,X.env.cells.lookup y.1=some c:=λy hy e=>ok.has _ (S.free y hy e)
theorem al8 (S:CompS X scope xs fr)(hjs:js.map (λj=>X.N[j]?)=fr.map some)(I:Inv X pins σ H s)(hfp:∀ b∈fp,Xz X pins H b)(hob:∀ b∈fp,∃ o,s.heap.get? b=some o){h':Heap}{t':Nat}
  (hn:h'.Ns s.heap.objs.size λ_=>none) (keep:∀ b o,s.heap.get? b=some o->h'.get? b=some o) (hcs:CellsOk h' (s.heap.objs.size+1) (cellsFrom (s.heap.objs.size+1) scope.names [])) :
  Inv (cxC X scope xs fr s.heap.objs.size fp s H) [] (List.replicate xs.length none++Pg σ js) H {s with heap:=h',toks:=t'}:=by
 have hcl:=S.cells I.ok;have sub:∀ x c,(Lv X.env scope.names []).lookup x=some c->X.env.cells.lookup x=some c:=λx c h=>Y2 hcl (λq=>by cases q) h;have hl:js.length=fr.length:=by have:=congrArg List.length hjs;rwa[A01,A01] at this
 have two:∀ x c,(cellsFrom (s.heap.objs.size+1) scope.names (Lv X.env scope.names [])).lookup x=some c->(x,c)∈cellsFrom (s.heap.objs.size+1) scope.names []\/(Lv X.env scope.names []).lookup x=some c:=λx c h=>by
  rw[Em,A4D] at h
  cases e:(cellsFrom (s.heap.objs.size+1) scope.names []).lookup x with
  |some d=>
    rw[e] at h
    cases h;exact .inl (Eg e)
  |none=>rw[e] at h;exact .inr h
 have oldc:∀ x c,X.env.cells.lookup x=some c->c<s.heap.objs.size:=λx c h=>let ⟨_,_,ho,_⟩:=I.cell x c h;A08 ho;have newc:∀ x c,(x,c)∈cellsFrom (s.heap.objs.size+1) scope.names []->s.heap.objs.size<c:=λx c h=>(hcs.empty x c h).2
 refine⟨⟨I.ok.mod,S.kind,I.ok.glob,I.ok.blt,A0D _,λx y c h1 h2=>?_,λx hx=>?_,λx c hf h=>?_,I.ok.hd,I.ok.frames,.inl rfl,λb hb=>?_,λb o e=>I.bs b o e,A0H I.ok.bsz I.sz,λb o e hb=>?_,λb hb hb2=>?_,I.stack,I.stkFree⟩,
  rfl,I.bare,Un.kept keep,⟨_,hn,λi x v e1 e2 e3=>?_⟩,λx c h=>?_,I.hok.fresh (Nat.le_refl _),λx c h=>?_,λp hp=>absurd (show p∈([]:List (Addr×Obj)) from hp) (by simp),I.hok.kept keep,?_⟩
 . rcases two x c h1 with g1|g1
   . rcases two y c h2 with g2|g2
     . exact name_of_addr hcs.apart g1 g2
     exact absurd (oldc y c (sub y c g2)) (Nat.not_lt.mpr (A31 (newc x c g1)))
   rcases two y c h2 with g2|g2
   . exact absurd (oldc x c (sub x c g1)) (Nat.not_lt.mpr (A31 (newc y c g2)))
   exact I.ok.inj x y c (sub x c g1) (sub y c g2)
 . -- the names that are cells there have one
   have hx:(relabel scope X.env).names.lookup x=some .cell\/(relabel scope X.env).names.lookup x=some .free:=hx
   have app:∀ c,(Lv X.env scope.names []).lookup x=some c\/(x,c)∈cellsFrom (s.heap.objs.size+1) scope.names []->∃ c,(cellsFrom (s.heap.objs.size+1) scope.names (Lv X.env scope.names [])).lookup x=some c:=λc h=>by
    rw[Em,A4D];rcases h with h|h
    . cases (cellsFrom (s.heap.objs.size+1) scope.names []).lookup x with
      |some d=>exact⟨d,rfl⟩
      |none=>exact⟨c,h⟩
    obtain⟨d,hd⟩:=Nr h;rw[hd];exact⟨d,rfl⟩
   have go:∀ k,(relabel scope X.env).names.lookup x=some k->(k = .cell\/k = .free)->∃ c,(cellsFrom (s.heap.objs.size+1) scope.names (Lv X.env scope.names [])).lookup x=some c:=λk e hk=>by
    obtain⟨j,hj,q⟩:=Hd (env:=X.env) (names:=scope.names) e;have hm:=Eg hj
    have hjf:j = .free\/j = .cell:=by
     rcases q with q|q
     . rcases hk with hk|hk
       . exact .inr (q ▸ hk)
       exact .inl (q ▸ hk)
     exact .inl q.1
    rcases hjf with hjf|hjf
    . subst hjf;obtain⟨c,hc⟩:=Sj (env:=X.env) (x:=x) (names:=scope.names) (acc:=[]) (.inr hm);exact app c (.inl hc)
    subst hjf;obtain⟨c,hc⟩:=Km (n:=s.heap.objs.size+1) hm;exact app c (.inr hc)
   rcases hx with hx|hx
   . exact go _ hx (.inl rfl)
   exact go _ hx (.inr rfl)
 . rcases two x c h with g|g
   . exact A31 (newc x c g)
   have hf':scope.names.lookup x=some .cell:=by simpa using hf
   obtain⟨d,hd⟩:=Km (n:=s.heap.objs.size+1) (Eg hf');have h':=h;obtain⟨e,he⟩:=Nr hd;have h':(cellsFrom (s.heap.objs.size+1) scope.names (Lv X.env scope.names [])).lookup x=some c:=h;rw[Em,A4D,he] at h'
   cases h';exact A31 (newc x _ (Eg he))
 . obtain⟨f0,f1,f2,f3,f4,f5⟩:=hfp b hb;obtain⟨o,ho⟩:=hob b hb;refine⟨A0J (A08 ho),λx c h z=>?_⟩;rcases two x c h with g|g
   . have h1:=newc x c g;have h2:=A08 ho;rw[<- z] at h2;exact absurd h1 (Nat.not_lt.mpr (A31 h2))
   exact f4 x c (sub x c g) z
 . obtain⟨f0,f1,f2,f3,f4,f5⟩:=hfp b hb;rcases f3 with f3|f3
   . exact I.ok.noex b o e f3
   exact absurd (A11 (A08 (I.ok.bs b o e).1) f3) (A24 _)
 . obtain⟨f0,f1,f2,f3,f4,f5⟩:=hfp b hb;rcases A0F.mp (I.stkSub b hb2) with z|z
   . exact f1 z
   exact f2 z
 . have e1:(xs++fr)[i]? = some x:=e1
   by_cases hi:i<xs.length
   . rw[A2O (by rw[A27];exact hi),A4S,A15 hi] at e2
     cases e2
   have hi':xs.length<=i:=Nat.le_of_not_lt hi;rw[List.getElem?_append_right hi'] at e1;rw[List.getElem?_append_right (by rw[A27];exact hi'),A27] at e2;unfold Pg at e2;rw[A09] at e2
   cases ej:js[i-xs.length]? with
   |none=>rw[ej] at e2;cases e2
   |some j=>
     rw[ej] at e2;have e2':(σ[j]?).getD none=some v:=A0Z e2
     have e4:σ[j]? = some (some v):=by
      cases q:σ[j]? with
      |none=>rw[q] at e2';cases e2'
      |some o=>rw[q] at e2';rw[show o=some v from e2']
     have e5:X.N[j]? = some x:=by have:=congrArg (λl=>l[i-xs.length]?) hjs;rw[A09,A09,ej,e1] at this;exact A0Z this
     have hf:=S.fre x (A05 e1);have hk:=S.free _ (Eg hf) rfl;obtain⟨m,hm,hl'⟩:=I.loc;obtain⟨u,r,lk⟩:=hl' j x v e5 e4 (.inr hk);refine⟨u,r,.inr ⟨?_,?_⟩⟩
     . have q:=Ju (scope:=scope) (env:=X.env) S.okind hf;show(relabel scope X.env).names.lookup x=some .cell\/(relabel scope X.env).names.lookup x=some .free;have q':(relabel scope X.env).names.lookup x=some (if(NameKind.free==NameKind.free&&X.env.kindOf x==some .cell) then .cell else .free):=q
       by_cases hc:(NameKind.free==NameKind.free&&X.env.kindOf x==some .cell)=true
       . rw[A15 hc] at q';exact .inl q'
       rw[A10 hc] at q';exact .inr q'
     obtain⟨c',hc'⟩:=Sj (env:=X.env) (x:=x) (names:=scope.names) (acc:=[]) (.inr (Eg hf));rcases lk with ⟨z,_⟩|⟨_,c,hc,ob,ho,hd⟩
     . rcases hk with hk|hk
       . rw[z] at hk;cases hk
       rw[z] at hk;cases hk
     have e6:c=c':=by have:=sub x c' hc';rw[hc] at this;exact A0Z this
     subst e6;refine⟨_,?_,ob,keep _ _ ho,hd⟩;show(cellsFrom (s.heap.objs.size+1) scope.names (Lv X.env scope.names [])).lookup x=some c;rw [Em,A4D]
     have none':(cellsFrom (s.heap.objs.size+1) scope.names []).lookup x=none:=by
      cases e:(cellsFrom (s.heap.objs.size+1) scope.names []).lookup x with
      |none=>rfl
      |some d=>
        have:=Tw S.uniq (L3 (Eg e));rw[hf] at this
        cases this
     rw[none'];exact hc'
 . rcases two x c h with g|g
   . exact⟨_,(hcs.empty x c g).1⟩
   obtain⟨v,ob,ho,hd⟩:=I.cell x c (sub x c g);exact⟨v,ob,keep _ _ ho,hd⟩
 . rcases two x c h with g|g
   . exact I.hok.fresh (A31 (newc x c g))
   exact I.freeC x c (sub x c g)
 show _=(xs++fr).length;unfold Pg;rw[A0C,A0C,A27,A01,hl]
theorem a99 {M:Model}{A:Around}{E:Value->Shared->Prop}{s:Shared}{scope:Scope}{globals:Addr}{cl:List (Str×Addr)}{qual:Str}{env:Env}{Q:Env->Shared->Prop}
  (hQ:∀ h',h'.Ns s.heap.objs.size (λ_=>none)->(∀ b o,s.heap.get? b=some o->h'.get? b=some o)->CellsOk h' (s.heap.objs.size+1) (cellsFrom (s.heap.objs.size+1) scope.names []) ->
   Q (newEnv scope s.heap.objs.size globals (cellsFrom (s.heap.objs.size+1) scope.names cl) qual none .none (some env) builtinsNs) {s with heap:=h'}) :
  wpAny M A (newFunctionEnv scope globals cl [] qual none .none (some env)) Q E s:=by
 simp only[newFunctionEnv,Option.isSome_some,if_true];refine A00 (wpAny_alloc ?_);refine wpAny_bind (wpAny_layCells _ (λname kind cells=>by cases hkc:kind==NameKind.cell<;>simp[hkc]) _ _ _ _ ?_)
 have okc:=cellsFrom_ok scope.names (s.heap.push {cls:=.type "dict",data:=.dict #[]}) (s.heap.objs.size+1) [] ⟨λ_ _ hm=>(nomatch hm),List.Pairwise.nil⟩ (by rw[A1P];exact A0D _);rw[A1P] at okc;rw[show({s with heap:=s.heap.push {cls:=.type "dict",data:=.dict #[]}}:Shared).heap.objs.size=s.heap.objs.size+1 from A1P ..]
 rw[List.forIn_nil];exact A00 (A06 (A06 (hQ _ ((Heap.Ns.new s.heap (.type "dict")).keeps (pushCells_keeps _ _)) (λb o e=>pushCells_keeps _ _ b o (A02 _ e)) okc)))
theorem ac1 {σ':St}{H':Hp}{s':Shared}{h'':Heap}(I:Inv X pins σ H s)(hfp:∀ b∈fp,Xz X pins H b)(J:Inv (cxC X scope xs fr s.heap.objs.size fp s H) [] σ' H' s')(hs:Heap.SameBut s.heap.objs.size s'.heap h'') :
  Inv X pins σ H' {s' with heap:=h''}:=by
 have old:∀ b o,s.heap.get? b=some o->b≠s.heap.objs.size:=λb o e=>A0J (A08 e);have ub:Un (frs X.stack) fp H H' s.heap s'.heap:=J.base;refine I.call' (s':={s' with heap:=h''}) (ch:=fp) J.os ⟨λb o e n hb hx=>(hs.2 b (old b o e)).trans (ub.keep b o e n hb hx),λb o e n hb hx=>?_,ub.free,λb o e hx=>?_,ub.tups,ub.frzs,ub.tbls⟩ (λb o e=>?_) J.bare λb hb=>?_
 . obtain⟨sl,e1⟩:=ub.slot b o e n hb hx;exact⟨sl,(hs.2 b (old b o e)).trans e1⟩
 . obtain⟨o',e1⟩:=ub.there b o e hx;exact⟨o',(hs.2 b (old b o e)).trans e1⟩
 . have hf:H' s.heap.objs.size=none:=J.free;refine(J.hok b o e).stay (λc v hc q=>(hs.2 c ?_).trans q) (λ_ q=>q) λ_ _ q=>q;intro z;rcases hc with hc|hc
   . rw[<- hc,z,hf] at e;cases e
   rw[z,hf] at hc;cases hc
 obtain⟨f0,f1,f2,f3,f4,f5⟩:=hfp b hb;exact⟨f3,f1,f4,f5⟩
def PIf (X:Cx)(ifs:List Expr)(t:TT):Prop:=
 ∀(pins:List (Addr×Obj)) (s:Shared) (σ:St) (H:Hp) (Q:Bool->Hp->Prop) (E:Value->Shared->Prop),(∀ e s',X.xe e s'->E e s')->Inv X pins σ H s->t σ H Q ->
  wpAny (model X.prog X.w) X.A (forIn ifs true λc r=>if r=true then do let ok <- isTrue c X.env (eval c X.env);pure (ForInStep.yield ok) else pure (ForInStep.yield r)) (TP X pins σ Q) E s
def aa1:TT:=λ_ H Q=>Q true H
theorem Cv:PIf X [] aa1:=λ_ _ _ H _ _ _ I h=>wpAny_tests_nil ⟨H,I,h⟩
theorem Ex {c:Expr}{t:TT}(hc:PT X c t):PIf X [c] t:=λpins s σ H Q _ hE I h=>wpAny_tests_one (A2D (hc pins s σ H Q I h) (λ_ _ z=>z) hE)
def az3 (k:Nat)(js:List Nat)(wi:TI)(g:TG)(tt:TT)(te:TE):TE:=fun σ H Q=>wi σ H λJ H1=>∀ p,H1 p=none ->
 ∃ W:Nat->Nat->Hp->Prop,(∃ m,W 0 m (upd H1 p (.lst [])))/\∀ i m H,W i m H ->
  (J.stop i H/\Q (.ref p) H)\/(J.go i H/\∃ N:Hp->Prop,(∀ H',N H'->∃ m',m'<m/\W (i+1) m' H') /\
   ∀ x H',J.yld i H x H'->g x (List.replicate k none++Pg σ js) H' fun σ2 H2=>tt σ2 H2 λb H3=>if b=true then te σ2 H3 λy H4=>∃ acc,H4 p=some (.lst acc)/\acc.length<sizeLine/\N (upd H4 p (.lst (acc++[y]))) else N H3)
theorem a57 {tg elt iter:Expr}{ifs:List Expr}{pos:Pos}{it acc:Value}{env:Env}{A:Around}{R:Result->Shared->Prop}{s:Shared}{P:Program}{w:World}(I:Nat->Shared->Prop)
  (turn:∀ n s,I n s->wpAny (model P w) A (pyNext it) (λr s₁=>match r with
   |none=>R (.ok .next) s₁
   |some v=>wpAny (model P w) A (letOwnedTupleGo tg it v) (λ_ s₁'=>wpAny (model P w) A (assign tg env v) (λ_ s₂=>
     wpAny (model P w) A (forIn ifs true λc r=>if r=true then do let ok <- isTrue c env (eval c env);pure (ForInStep.yield ok) else pure (ForInStep.yield r)) (λok s₃=>
      if ok=true then wpAny (model P w) A (eval elt env) (λx s₄=>wpAny (model P w) A (call (.builtin "list.append") [acc,x]) (λ_ s₅=>∃ m,m<n/\I m s₅) (λ_ _=>False) s₄) (λ_ _=>False) s₃
      else ∃ m,m<n/\I m s₃) (λ_ _=>False) s₂) (λ_ _=>False) s₁') (λ_ _=>False) s₁) (λ_ _=>False) s)
  (n:Nat) (h:I n s):codeAny (model P w) A (.compLoop (.ListComp elt [⟨tg,iter,ifs,0⟩] scope pos) 0 it acc env) R s:=by
 refine codeAny_loop rfl I (λn s hI=>?_) n h;show wpAny _ A ((compTurn (.ListComp elt [⟨tg,iter,ifs,0⟩] scope pos) 0 it acc env).onRaise (λx=>do noteFrame x env;theTreesLotGoes x)) _ _ s
 refine wpAny_noted ?_;rw [compTurn_list];refine A00 (A4R (A00 (A2D (turn n s hI) (λr s₁ h₁=>?_) λ_ _ h'=>h'.elim)))
 cases r with
 |none=>exact A06 h₁
 |some v=>
   refine A00 (A2D h₁ (λ_ s₁' h₁'=>?_) λ_ _ h'=>h'.elim);refine A00 (A2D h₁' (λ_ s₂ h₂=>A00 (A2D h₂ (λok s₃ h₃=>?_) λ_ _ h'=>h'.elim)) λ_ _ h'=>h'.elim)
   cases ok with
   |false=>exact A06 ⟨rfl,h₃⟩
   |true=>exact A00 (A00 (A2D h₃ (λx s₄ h₄=>A00 (A2D h₄ (λ_ s₅ h₅=>A06 (A06 ⟨rfl,h₅⟩)) λ_ _ h'=>h'.elim)) λ_ _ h'=>h'.elim))
def ac0 (n:Nat)(g:TG):Prop:=∀ x σ H Q,g x σ H Q->g x σ H fun σ' H'=>(∀ k,n<=k->σ'[k]? = σ[k]?)/\Q σ' H'
def X6 (n:Nat)(g:TGs):Prop:=∀ vs σ H Q,g vs σ H Q->g vs σ H fun σ' H'=>(∀ k,n<=k->σ'[k]? = σ[k]?)/\Q σ' H'
theorem B5 {n i:Nat}(h:i<n):ac0 n (Ht i):=λx σ H Q q=>⟨λk hk=>A2B nofun,q⟩
theorem aC9 {n:Nat}:X6 n ao1:=λvs σ H Q ⟨e,q⟩=>⟨e,λ_ _=>rfl,q⟩
theorem a87 {n i:Nat}{u:TGs}(h:i<n)(hu:X6 n u):X6 n (Ke (Ht i) u):=λvs σ H Q ⟨v,r,e,q⟩=>by
 refine⟨v,r,e,?_⟩;have q':u r (σ.set i (some v)) H Q:=q;show u r (σ.set i (some v)) H _;have z:=hu _ _ _ _ q'
 have e2:(λ(σ':St) (H':Hp)=>(∀ k,n<=k->σ'[k]? = (σ.set i (some v))[k]?)/\Q σ' H')=fun σ' H'=>(∀ k,n<=k->σ'[k]? = σ[k]?)/\Q σ' H':=by
  funext σ' H'
  have e3:(∀ k,n<=k->σ'[k]? = (σ.set i (some v))[k]?) = ∀ k,n<=k->σ'[k]? = σ[k]?:=by
   refine propext ⟨λf k hk=>?_,λf k hk=>?_⟩
   . rw[f k hk,A2B nofun]
   rw[f k hk,A2B nofun]
  rw[e3]
 rw[e2] at z;exact z
theorem aD5 {K:W.Frag}{n m:Nat}{u:TGs}(hu:X6 n u):ac0 n (al0 K m u):=λx σ H Q ⟨a,xs,e,hq,hl,q⟩=>⟨a,xs,e,hq,hl,hu _ _ _ _ q⟩
theorem Wv {tg elt iter:Expr}{ifs:List Expr}{pos:Pos}{g:TG}{tt:TT}{te:TE}(hc:X.calm=true)(S:CompS X scope xs fr)(hjs:js.map (λj=>X.N[j]?)=fr.map some)
  (hg:∀ C ex s₀ H₀,PG (cxC X scope xs fr C ex s₀ H₀) tg g) (hk:ac0 xs.length g) (hi:∀ C ex s₀ H₀,PIf (cxC X scope xs fr C ex s₀ H₀) ifs tt) (he:∀ C ex s₀ H₀,PE (cxC X scope xs fr C ex s₀ H₀) elt te)
  {s2:Shared} {H1:Hp} {R:Value->Addr->Result->Shared->Prop} {Q:VK} {it:Addr} {tn:Nat->Heap->Prop} {J:It} (I:Inv X pins σ H1 s2) (T:ag2 X.prog X.w X.K tg J fp it tn) (st:tn 0 s2.heap) (hfp:∀ b∈fp,Xz X pins H1 b)
  (hq:∀ p,H1 p=none->∃ W:Nat->Nat->Hp->Prop,(∃ m,W 0 m (upd H1 p (.lst [])))/\∀ i m H,W i m H ->
   (J.stop i H/\Q (.ref p) H)\/(J.go i H/\∃ N:Hp->Prop,(∀ H',N H'->∃ m',m'<m/\W (i+1) m' H') /\
    ∀ x H',J.yld i H x H'->g x (List.replicate xs.length none++Pg σ js) H' fun σ2 H2=>tt σ2 H2 λb H3=>if b=true then te σ2 H3 λy H4=>∃ acc,H4 p=some (.lst acc)/\acc.length<sizeLine/\N (upd H4 p (.lst (acc++[y]))) else N H3))
  (hR:∀(p C:Addr) (s':Shared) (H':Hp),(∃ m,s'.heap.Ns C m)->Xz X pins H' C->Inv X pins σ H' s'->Q (.ref p) H'->R (.ref p) C (.ok .next) s') :
  wpAny (model X.prog X.w) X.A (newList []) (λacc s₃=>wpAny (model X.prog X.w) X.A (newFunctionEnv scope X.env.globals (Lv X.env scope.names []) [] X.env.qual none .none (some X.env)) (λcenv s₄=>
   codeAny (model X.prog X.w) X.A (.compStart (.ListComp elt [⟨tg,iter,ifs,0⟩] scope pos) 0 (.ref it) acc {cenv with scope:=relabel scope X.env}) (R acc cenv.locals) s₄) X.xe s₃) X.xe s2:=by
 refine A2E ?_ (by show 0<=sizeLine;exact A3U _);have hn0:H1 s2.heap.objs.size=none:=I.hok.fresh (A0D _);have I3:Inv X pins σ (upd H1 s2.heap.objs.size (.lst [])) {s2 with heap:=s2.heap.push {cls:=.type "list",data:=.seq ([]:List Value).toArray}}:=I.laid (t':=s2.toks) (λb u e=>A02 _ e) (A0D _) ⟨A3U _,[],0,.nil,A0B _ rfl⟩
 obtain⟨W,⟨m0,w0⟩,turn⟩:=hq _ hn0;have hob:∀ b∈fp,∃ o,s2.heap.get? b=some o:=λb hb=>let ⟨o,e,_⟩:=T.obj _ _ st b hb;⟨o,e⟩
 have hfp3:∀ b∈fp,Xz X pins (upd H1 s2.heap.objs.size (.lst [])) b:=λb hb=>by obtain⟨f0,f⟩:=hfp b hb;obtain⟨o,e⟩:=hob b hb;exact⟨by rw[Az (A0J (A08 e))];exact f0,f⟩
 have hob3:∀ b∈fp,∃ o,(s2.heap.push {cls:=.type "list",data:=.seq ([]:List Value).toArray}).get? b=some o:=λb hb=>let ⟨o,e⟩:=hob b hb;⟨o,A02 _ e⟩;have st3:tn 0 (s2.heap.push {cls:=.type "list",data:=.seq ([]:List Value).toArray}):=T.keep _ _ _ st λb _ o e=>A02 _ e;generalize hs3:({s2 with heap:=s2.heap.push {cls:=.type "list",data:=.seq ([]:List Value).toArray}}:Shared)=s3 at I3 ⊢;have st3':tn 0 s3.heap:=by rw[<- hs3];exact st3
 have hob3':∀ b∈fp,∃ o,s3.heap.get? b=some o:=by rw[<- hs3];exact hob3
 generalize hH3:upd H1 s2.heap.objs.size (.lst [])=H3 at I3 hfp3 w0;generalize hp0:s2.heap.objs.size=p0 at turn ⊢;refine a99 λh₁ hns₁ hkp₁ hco₁=>?_;have I4:=al8 (t':=s3.toks) S hjs I3 hfp3 hob3' hns₁ hkp₁ hco₁;have st4:tn 0 h₁:=T.keep _ _ _ st3' λb hb o e=>hkp₁ b o e
 have loop:∀ s₄:Shared,Inv (cxC X scope xs fr s3.heap.objs.size fp s3 H3) [] (List.replicate xs.length none++Pg σ js) H3 s₄->tn 0 s₄.heap ->
   codeAny (model X.prog X.w) X.A (.compLoop (.ListComp elt [⟨tg,iter,ifs,0⟩] scope pos) 0 (.ref it) (.ref p0) (compEnvC scope (cellsFrom (s3.heap.objs.size+1) scope.names (Lv X.env scope.names [])) s3.heap.objs.size X.env)) (R (.ref p0) s3.heap.objs.size) s₄:=by
  intro s₄ I4 st4
  have stat:∀ {H':Hp},(∀ b∈fp,H' b=none)->∀ b∈fp,Xz (cxC X scope xs fr s3.heap.objs.size fp s3 H3) [] H' b:=fun {H'} hn b hb=>by obtain⟨f0,f1,f2,f3,f4,f5⟩:=hfp3 b hb;obtain⟨o,e⟩:=hob3' b hb;refine⟨hn b hb,Nat.ne_of_lt (Heap.lt_size e),I4.ok.exfs b hb,.inl hb,λx c h=>(I4.ok.exf b hb).2 x c h,λp hp=>absurd (show p∈([]:List (Addr×Obj)) from hp) (by simp)⟩
  refine a57 (λn s'=>∃ i H',Inv (cxC X scope xs fr s3.heap.objs.size fp s3 H3) [] (List.replicate xs.length none++Pg σ js) H' s'/\tn i s'.heap/\(∀ b∈fp,H' b=none)/\W i n H') ?_ m0 ⟨0,H3,I4,st4,λb hb=>(hfp3 b hb).1,w0⟩;rintro n s5 ⟨i,H5,I5,st5,fr5,w5⟩;rcases turn i n H5 w5 with ⟨stop,qn⟩|⟨go,N,hN,step⟩
  . refine thn (T.done (cxC X scope xs fr s3.heap.objs.size fp s3 H3) rfl rfl rfl hc i [] s5 _ H5 (λ_ _=>False) I5 (stat fr5) st5 stop) λr s6 ⟨hr,I6⟩=>?_;subst hr;obtain⟨m6,n6,_⟩:=id I6.loc;exact hR p0 s3.heap.objs.size s6 H5 ⟨m6,n6⟩ (I3.fpOk (A0D _) I6.free) (ac1 I3 hfp3 I6 (Heap.SameBut.refl ..)) qn
  refine thn (T.item (cxC X scope xs fr s3.heap.objs.size fp s3 H3) rfl rfl rfl hc i [] s5 _ H5 (λ_ _=>False) I5 (stat fr5) st5 go) λr s6 ⟨u,hr,h6⟩=>?_;subst hr;refine thn h6 λ_ s7 ⟨x,H7,I7,r7,y7,st7,fr7⟩=>?_;have I7':=I7.pinned (stat fr7) (T.obj _ _ st7);refine thn (hg _ _ _ _ _ s7 _ H7 x u _ I7' r7 (hk _ _ _ _ (step x H7 y7))) λ_ s8 ⟨σ8,H8,I8,kp8,q8⟩=>?_
  have again:∀ {s9:Shared} {H9:Hp},Inv (cxC X scope xs fr s3.heap.objs.size fp s3 H3) ([]++T1 fp s7.heap) σ8 H9 s9->N H9 ->
    ∃ m,m<n/\∃ i H',Inv (cxC X scope xs fr s3.heap.objs.size fp s3 H3) [] (List.replicate xs.length none++Pg σ js) H' s9/\tn i s9.heap/\(∀ b∈fp,H' b=none)/\W i m H':=fun {s9 H9} I9 n9=>by
   obtain⟨m',hm,w9⟩:=hN H9 n9;refine⟨m',hm,i+1,H9,I9.unpinned.weak ?_ ?_,T.keep _ _ _ st7 λb hb o e=>(I9.pin (b,o) (A0Q _ (A0Q _ (Jn hb e)))).1,λb hb=>?_,w9⟩
   . rw[I9.len,I5.len]
   . intro k v hkv
     by_cases hx:k<xs.length
     . rw[A2O (by rw[A27];exact hx),A4S,A15 hx] at hkv
       cases hkv
     rw[kp8 k (Nat.le_of_not_lt hx)];exact hkv
   obtain ⟨o,e,d⟩:=T.obj _ _ st7 b hb;exact(I9.pin (b,o) (A0Q _ (A0Q _ (Jn hb e)))).2.1
  refine A2D (hi _ _ _ _ _ s8 σ8 H8 _ (λ_ _=>False) (λ_ _ z=>z) I8 q8) (λok s9 ⟨H9,I9,q9⟩=>?_) λ_ _ z=>z
  cases ok with
  |false=>rw[A10 A0K];rw[A10 A0K] at q9;exact again I9 q9
  |true=>rw[A15 rfl];rw[A15 rfl] at q9;refine thn (he _ _ _ _ _ s9 σ8 H9 _ I9 q9) λuy s10 ⟨y,H10,I10,r10,acc,hacc,hz,n10⟩=>?_;refine thn (Hg _ s10 σ8 H10 (.ref p0) [y] (.ref p0) [uy] (λ_ H11=>N H11) I10 rfl (.cons r10 .nil) ⟨p0,acc,y,rfl,rfl,hacc,hz,n10⟩) λ_ s11 ⟨_,H11,I11,_,n11⟩=>?_;exact again I11 n11
 exact codeAny_compStart_list (loop _ I4 st4) (T.self _ _ _ _ _ st4 (loop _ I4 st4))
theorem Inv.letgo {C:Addr}{h'':Heap}(I:Inv X pins σ H s)(f:Xz X pins H C)(hs:Heap.SameBut C s.heap h''):Inv X pins σ H {s with heap:=h''}:=by obtain⟨f0,f1,f2,f3,f4,f5⟩:=f;exact I.turned (t':=s.toks) (λb o hb e=>(hs.2 b hb).trans e) f0 f1 f3 f4 f5
theorem Bl {tg elt iter:Expr}{ifs:List Expr}{pos:Pos}{wi:TI}{g:TG}{tt:TT}{te:TE}(xs fr:List Str)(js:List Nat)(hc:X.calm=true)(hS:Xe X.env.scope scope xs fr=true)(hjs:js.map (λj=>X.N[j]?)=fr.map some)(hw:PI X tg iter wi)
  (hg:∀ C ex s₀ H₀,PG (cxC X scope xs fr C ex s₀ H₀) tg g) (hk:ac0 xs.length g) (hi:∀ C ex s₀ H₀,PIf (cxC X scope xs fr C ex s₀ H₀) ifs tt) (he:∀ C ex s₀ H₀,PE (cxC X scope xs fr C ex s₀ H₀) elt te)
  (hs:∀ x,foldedSetIterable iter X.env x=pure x:=by intro _;ac_nf) :
  PE X (.ListComp elt [⟨tg,iter,ifs,0⟩] scope pos) (az3 xs.length js wi g tt te):=by
 intro pins s σ H Q I h;have S:=Xh hS;rw[eval_ListComp];refine wpAny_comprehension_free (use:=none) rfl hs (Qg (S.cells I.ok)) S.kind S.names ?_;refine thn (hw pins s σ H _ I h) λv s1 h1=>thn h1 λitv s2 h2=>?_;obtain⟨it,fp,tn,J,H2,e,I2,T,st2,f2,q2⟩:=h2;subst e;refine Wv (Q:=Q) (R:=λacc C=>compPost (model X.prog X.w) X.A X.xe none (EP X pins σ Q) acc C) hc S hjs hg hk hi he I2 T st2 f2 q2 ?_;intro p C s' H' ⟨m,hn⟩ fC hI q;exact⟨m,hn,λh'' hs''=>⟨.ref p,H',hI.letgo fC hs'',rfl,q⟩⟩
theorem G0 {tg elt iter:Expr}{ifs:List Expr}{pos spos py:Pos}{wi:TI}{g:TG}{tt:TT}{te:TE}{i:Nat}{y:Str}(xs fr:List Str)(js:List Nat)(hc:X.calm=true)(hS:Xe X.env.scope scope xs fr=true)(hjs:js.map (λj=>X.N[j]?)=fr.map some)
  (hN:X.N.Nodup) (hi':X.N[i]? = some y) (hy:X.env.scope.names.lookup y=some .local) (hw:PI X tg iter wi)
  (hg:∀ C ex s₀ H₀,PG (cxC X scope xs fr C ex s₀ H₀) tg g) (hk:ac0 xs.length g) (hi:∀ C ex s₀ H₀,PIf (cxC X scope xs fr C ex s₀ H₀) ifs tt) (he:∀ C ex s₀ H₀,PE (cxC X scope xs fr C ex s₀ H₀) elt te)
  (hsw:swapsWith (.ListComp elt [⟨tg,iter,ifs,0⟩] scope pos) (some (.Name y py)) spos.line X.env=pure true:=by ac_nf)
  (hs:∀ x,foldedSetIterable iter X.env x=pure x:=by intro _;ac_nf) :
  PS X (.Assign [.Name y py] (.ListComp elt [⟨tg,iter,ifs,0⟩] scope pos) spos) (aC4 (az3 xs.length js wi g tt te) (Ht i)):=by
 intro pins s σ H D I h;have S:=Xh hS;rw[exec_Assign_Name_used _ _ _ _ hsw];refine A00 (A4R (A00 ?_));show wpAny _ X.A (do let _ <- comprehension (.ListComp elt [⟨tg,iter,ifs,0⟩] scope pos) scope X.env _ (newList []) false (eval iter X.env) (some (assign (.Name y py) X.env))) _ _ s
 refine A00 (A2D (wpAny_comprehension_free (use:=some (assign (.Name y py) X.env)) (Q:=λ_ s'=>SP X pins D .next s') rfl hs (Qg (S.cells I.ok)) S.kind S.names ?_) (λ_ s' hq=>A06 (A06 hq)) λ_ _ e=>e);refine thn (hw pins s σ H _ I h) λv s1 h1=>thn h1 λitv s2 h2=>?_;obtain⟨it,fp,tn,J,H2,e,I2,T,st2,f2,q2⟩:=h2;subst e;refine Wv (Q:=λx H1=>Ht i x σ H1 D.nx) (R:=λacc C=>compPost (model X.prog X.w) X.A X.xe (some (assign (.Name y py) X.env)) (λ_ s'=>SP X pins D .next s') acc C) hc S hjs hg hk hi he I2 T st2 f2 q2 ?_;intro p C s' H' ⟨m,hn⟩ fC I' q;show wpAny _ X.A (assign (.Name y py) X.env (.ref p)) _ _ s';refine wpAny_assign_Name (Tj I' hN hi' (.inl hy) (show RelV (.ref p) (.ref p) from rfl) (λs'' I'' ⟨a,hs1,ha⟩=>?_) (.inr hy))
 have hne:C≠a:=by
  rcases ha with ha|ha
  . rw[ha];exact fC.2.1
  exact(fC.2.2.2.2.1 y a ha).symm
 exact⟨m,hn.sameBut hs1 hne,λh'' hs''=>⟨_,H',I''.letgo fC hs'',q⟩⟩
end
def Its (x:Str):It:=⟨λi _=>i<x.cps.size,λi H v H'=>H'=H/\∃ c,x.cps[i]? = some c/\v = .str ⟨#[c]⟩,λi _=>x.cps.size<=i⟩
section
variable {X:Cx}{tg:Expr}
theorem a72 {P:Program}{w:World}{K:PySem.W.Frag}{tg:Expr}{it:Addr}{n:Nat}{PV:Nat->Value->Prop}{val:Nat->V->Prop}{St:Nat->Heap->Prop}(W:∀ A:Around,A.handled=none->Walks P w A it [it] [it] n PV St)
  (hself:∀(A:Around) (i:Nat) (s:Shared) (Q:Value->Shared->Prop) (E:Value->Shared->Prop),St i s.heap->Q (.ref it) s->wpAny (model P w) A (pyIter (.ref it)) Q E s)
  (hv:∀ i u,PV i u->∃ v,RelV v u/\val i v) (hto:∀ i h,St i h->∃ o T vs,h.get? it=some o/\o.cls = .type T/\o.data = .fields vs/\["enumerate","zip","dict_itemiterator","dict_reverseitemiterator","odict_iterator","itertools.zip_longest","itertools.pairwise"].contains T=false) :
  ag2 P w K tg ⟨λi _=>i<n,λi H v H'=>H'=H/\val i v,λi _=>n<=i⟩ [it] it (λi h=>St i h/\i<=n) where
 mem:=by simp
 obj:=λi h st b hb=>by
  have e:b=it:=by simpa using hb
  subst e;obtain⟨o,T,vs,e1,e2,e3,e4⟩:=hto i h st.1;exact⟨o,e1,λv z=>by rw[e3] at z;cases z⟩
 keep:=λi h h' st k=>⟨(W {handled:=none} rfl).frame i h h' st.1 k,st.2⟩
 item:=by
  intro X hP hw hK hc i pins s σ H E I hf st hg;subst hP hw hK;obtain⟨f0,f1,f2,f3,f4,f5⟩:=hf it (by simp);refine(W X.A (I.ok.hd hc)).item i s _ _ hg st.1 λu h' tk hp st' kk=>?_;obtain⟨v,rv,vv⟩:=hv i u hp;have I1:Inv X pins σ H {s with heap:=h',toks:=tk}:=I.turned (λb o hb e=>kk b o (by simpa using hb) e) f0 f1 f3 f4 f5
  obtain⟨o,T,vs,e1,e2,e3,e4⟩:=hto _ _ st';exact⟨u,rfl,ae1 (s:={s with heap:=h',toks:=tk}) e1 e2 e3 e4 ⟨v,H,I1,rv,⟨rfl,vv⟩,⟨st',hg⟩,λb hb=>(hf b hb).1⟩⟩
 done:=by intro X hP hw hK hc i pins s σ H E I hf st hg;subst hP hw hK;obtain⟨f0,f1,f2,f3,f4,f5⟩:=hf it (by simp);have e:i=n:=Nat.le_antisymm st.2 hg;subst e;exact(W X.A (I.ok.hd hc)).done s _ _ st.1 λh' tk kk=>⟨rfl,I.turned (λb o hb e=>kk b o (by simpa using hb) e) f0 f1 f3 f4 f5⟩
 self:=λA i s Q E st h=>hself A i s Q E st.1 h
theorem aI0 {pins:List (Addr×Obj)}{σ:St}{H1:Hp}{s1:Shared}{R:It->Hp->Prop}{E:Value->Shared->Prop}{z:Str}{v:Value}(I1:Inv X pins σ H1 s1)(r1:RelV (.str z) v)(q:R (Its z) H1):wpAny (model X.prog X.w) X.A (pyIter v) (PIE X pins σ tg R) E s1:=by
 obtain⟨t,rfl⟩:=r1;have sv:∀ i u,SignAt z i u->∃ v,RelV v u/\∃ c,z.cps[i]? = some c/\v = .str ⟨#[c]⟩:=λi u ⟨c,tu,hc,hu⟩=>⟨.str ⟨#[c]⟩,⟨tu,hu⟩,c,hc,rfl⟩
 have fin:∀(o:Obj) (St:Nat->Heap->Prop) (n:Nat),St 0 (s1.heap.push o)->ag2 X.prog X.w X.K tg (Its z) [s1.heap.objs.size] s1.heap.objs.size (λi h=>St i h/\i<=z.cps.size)->PIE X pins σ tg R (.ref s1.heap.objs.size) {s1 with heap:=s1.heap.push o}:=λo St n h0 T=>by
  refine⟨s1.heap.objs.size,[s1.heap.objs.size],_,_,H1,rfl,I1.kept (t':=s1.toks) λb ob e=>A02 _ e,T,⟨h0,A3U _⟩,λb hb=>?_,q⟩;have e:b=s1.heap.objs.size:=by simpa using hb
  subst e;exact I1.fpOk (A0D _) (I1.hok.fresh (A0D _))
 cases ha:z.cps.all (· < 128)
 . exact wpAny_pyIter_wide ha (fin _ _ 0 ⟨_,A0B _ rfl,rfl,rfl⟩ (a72 (λA hA=>Walks.strWide hA _ z t) (λ_ _ _ _ _ st hq=>wpAny_pyIter_striter_wide st hq) sv λi h ⟨o,ho,hc,hd⟩=>⟨o,_,_,ho,hc,hd,by decide⟩))
 exact wpAny_pyIter_ascii ha (fin _ _ 0 ⟨_,A0B _ rfl,rfl,rfl⟩ (a72 (λA hA=>Walks.strAscii hA _ z t) (λ_ _ _ _ _ st hq=>wpAny_pyIter_striter_ascii st hq) sv λi h ⟨o,ho,hc,hd⟩=>⟨o,_,_,ho,hc,hd,by decide⟩))
end
section
variable {X:Cx}
def aS0:V->Option Int->Option Int->Hp->VK->Prop:=λx lo hi H Q=>∃ z,x = .str z/\z.length<=sizeLine/\Q (.str (Txt.slice z lo hi)) H
theorem sl_str:SlR X aS0:=by
 intro pins s σ H x v vl vu lo hi sl Q I rx hs pl pu h;obtain⟨z,rfl,hz,q⟩:=h;obtain⟨t,rfl⟩:=rx;have fin:∀ t' k,EP X pins σ Q (.str (Txt.slice z lo hi) t') {s with toks:=k}:=λt' k=>⟨.str _,H,I.tok _,⟨_,rfl⟩,q⟩
 have sz:=A0H (Txt.slice_le z lo hi) hz;refine⟨"str",_,F.slot_str_getitem.lookup,typeIs_str _ _ _,?_⟩
 cases pl with
 |none=>
   cases pu with
   |none=>exact A3L (l:=none) (u:=none) (st:=none) hs rfl (A50 ⟨sz,fin⟩)
   |int j uj=>exact A3L (l:=none) (u:=some (j,uj)) (st:=none) hs rfl (A50 ⟨sz,fin⟩)
 |int i ui=>
   cases pu with
   |none=>exact A3L (l:=some (i,ui)) (u:=none) (st:=none) hs rfl (A50 ⟨sz,fin⟩)
   |int j uj=>exact A3L (l:=some (i,ui)) (u:=some (j,uj)) (st:=none) hs rfl (A50 ⟨sz,fin⟩)
theorem call_isinst:CallR X (.builtin "isinstance") (λxs H Q=>∃ x c t b,xs=[x,.ty c]/\TyOf X.K H x t/\W.kitOne X.K t (.type c)=some b/\Q (.bl b) H):=by
 intro pins s σ H xs us Q I r h;obtain⟨x,c,t,b,rfl,ty,e,q⟩:=h;obtain⟨u,w',rfl,r1,r2⟩:=ax9 r
 cases r2;exact Uu I r1 ty e λtk=>⟨.bl _,H,I.tok _,rfl,q⟩
theorem call_isinstR:CallR X (.builtin "isinstance") (λxs H Q=>∃ x c t b,xs=[x,.ref c]/\TyOf X.K H x t/\W.kitOne X.K t (.ref c)=some b/\Q (.bl b) H):=by
 intro pins s σ H xs us Q I r h;obtain⟨x,c,t,b,rfl,ty,e,q⟩:=h;obtain⟨u,w',rfl,r1,r2⟩:=ax9 r
 cases r2;exact Uu I r1 ty e λtk=>⟨.bl _,H,I.tok _,rfl,q⟩
theorem Uo:CallR X (.builtin "isinstance") (λxs H Q=>∃ a ys c b,xs=[V.ref a,.ty c]/\((SqT X.K H a ys/\W.kitOne X.K (.type "tuple") (.type c)=some b)\/(SqL X.K H a ys/\W.kitOne X.K (.type "list") (.type c)=some b))/\Q (.bl b) H):=by
 intro pins s σ H xs us Q I r h;obtain⟨a,ys,c,b,rfl,ty,q⟩:=h;obtain⟨u,w',rfl,r1,r2⟩:=ax9 r
 cases r2
 cases r1;rcases ty with ⟨ty,e⟩|⟨ty,e⟩
 . obtain⟨its,_,p,_⟩:=I.tuple ty;obtain⟨o,h1,h2,_⟩:=p;exact A1S W.kitx_tuple I.kIn ⟨o,h1,h2⟩ e (λz=>nomatch z) λtk=>⟨.bl _,H,I.tok _,rfl,q⟩
 obtain⟨its,_,p,_⟩:=I.list ty;obtain⟨o,h1,h2,_⟩:=p.isList;exact A1S W.kitx_list I.kIn ⟨o,h1,h2⟩ e (λz=>nomatch z) λtk=>⟨.bl _,H,I.tok _,rfl,q⟩
theorem Y6 {bs:List Bool}{its:List Value}(r:Vals (bs.map V.bl) its)(i:Nat)(v:Value)(h:its[i]? = some v):∃ b,bs[i]? = some b/\v = .bool b:=by
 have hl:=r.length;have hi:i<its.length:=(A03.mp h).1;have hb:i<bs.length:=by rw[A01] at hl;omega
 obtain⟨u,hu,ru⟩:=r.get (i:=i) (x:=.bl bs[i]) (by rw[A09,A04 hb];rfl);rw[h] at hu
 cases hu;exact⟨bs[i],A04 hb,ru⟩
theorem af7 (bs:List Bool):(List.range bs.length).all (λi=>(bs[i]?).getD false)=bs.all id:=by
 rw[A2S,A2K,A2K];constructor
 . intro h b hb;obtain⟨i,hi,e⟩:=List.mem_iff_getElem.mp hb;have:=h i (A1U.mpr hi);rw[A04 hi] at this;rw[<- e];exact this
 intro h i hi;rw[A04 (A1U.mp hi)];exact h _ (A4V _)
theorem a66 (bs:List Bool):(List.range bs.length).any (λi=>(bs[i]?).getD false)=bs.any id:=by
 rw[A2S,A19,A19];constructor
 . rintro⟨i,hi,h⟩;rw[A04 (A1U.mp hi)] at h;exact⟨_,A4V _,h⟩
 rintro⟨b,hb,h⟩;obtain⟨i,hi,e⟩:=List.mem_iff_getElem.mp hb;refine⟨i,A1U.mpr hi,?_⟩;rw[A04 hi,e];exact h
theorem al6 (hc:X.calm=true):CallR X (.builtin "all") (λxs H Q=>∃(a:Addr) (bs:List Bool),xs=[.ref a]/\SqL X.K H a (bs.map V.bl)/\Q (.bl (bs.all id)) H):=by
 intro pins s σ H xs us Q I r h;obtain⟨a,bs,rfl,hl,q⟩:=h;obtain⟨u,rfl,ru⟩:=Pa r
 cases ru;obtain⟨its,rv,pl,hz⟩:=I.list hl;have hlen:=rv.length;have hne:a≠s.heap.objs.size:=by obtain⟨o,n,ho,_⟩:=pl;exact A0J (A08 ho)
 refine call_all_walk (A2V pl.isList ?_);refine⟨_,_,_,_,_,_,λi=>(bs[i]?).getD false,rfl,Walks.list (A:=X.A.in1) (I.ok.hd hc) _ a hne its.toArray,⟨⟨_,A0B _ rfl,rfl,rfl⟩,pl.isList.at λo e=>A02 _ e⟩,λi v s' Q' E' hp hq=>?_,λh' tk hk=>?_⟩
 . obtain⟨b,hb,rfl⟩:=Y6 rv i v (by simpa using hp);dsimp only at hq;rw[hb] at hq;exact A2R hq
 refine⟨.bl _,H,I.kept (t':=tk) λb ob e=>hk b ob (λhm=>absurd (Heap.lt_size e) (by rw[show b=s.heap.objs.size by simpa using hm];exact Nat.lt_irrefl _)) (Heap.get?_push_of_some _ e),?_,q⟩;have e1:its.toArray.size=bs.length:=by rw[A0W,<- hlen,A01]
 rw[e1,af7];rfl
theorem an3 (hc:X.calm=true):CallR X (.builtin "any") (λxs H Q=>∃(a:Addr) (bs:List Bool),xs=[.ref a]/\SqL X.K H a (bs.map V.bl)/\Q (.bl (bs.any id)) H):=by
 intro pins s σ H xs us Q I r h;obtain⟨a,bs,rfl,hl,q⟩:=h;obtain⟨u,rfl,ru⟩:=Pa r
 cases ru;obtain⟨its,rv,pl,hz⟩:=I.list hl;have hlen:=rv.length;have hne:a≠s.heap.objs.size:=by obtain⟨o,n,ho,_⟩:=pl;exact A0J (A08 ho)
 refine call_any_walk (A2V pl.isList ?_);refine⟨_,_,_,_,_,_,λi=>(bs[i]?).getD false,rfl,Walks.list (A:=X.A.in1) (I.ok.hd hc) _ a hne its.toArray,⟨⟨_,A0B _ rfl,rfl,rfl⟩,pl.isList.at λo e=>A02 _ e⟩,λi v s' Q' E' hp hq=>?_,λh' tk hk=>?_⟩
 . obtain⟨b,hb,rfl⟩:=Y6 rv i v (by simpa using hp);dsimp only at hq;rw[hb] at hq;exact A2R hq
 refine⟨.bl _,H,I.kept (t':=tk) λb ob e=>hk b ob (λhm=>absurd (Heap.lt_size e) (by rw[show b=s.heap.objs.size by simpa using hm];exact Nat.lt_irrefl _)) (Heap.get?_push_of_some _ e),?_,q⟩;have e1:its.toArray.size=bs.length:=by rw[A0W,<- hlen,A01]
 rw[e1,a66];rfl
end
section
variable {X:Cx}{x:Str}{pos:Pos}
theorem Zb {v:V}(hg:Gl X x)(hm:∃ u,X.mg x=some u/\RelV v u)(hd:(x==("__debug__":Str))=false:=by decide):PE X (.Name x pos) (tC v):=by obtain⟨u,h1,h2⟩:=hm;exact av0 hg h1 h2 hd
end
section
variable {X:Cx}{K:W.Frag}
def aN1 (K:W.Frag):R2:=λx y H Q=>∃ a b ys,x = .ref a/\y = .ref b/\SqT K H a []/\SqT K H b ys/\Q (.ref b) H
theorem ax8:OpR X (binaryOp .Add) (aN1 X.K):=by
 intro pins s σ H x y v u Q I rx ry h;obtain⟨a,b,ys,rfl,rfl,ha,hb,q⟩:=h
 cases rx
 cases ry;obtain⟨its,r1,p1,_⟩:=I.tuple ha;obtain⟨its2,r2,p2,_⟩:=I.tuple hb
 cases r1;obtain⟨⟨cls,dd,data,sl⟩,ho,hc,n,hd⟩:=id p1;obtain⟨⟨cls2,dd2,data2,sl2⟩,ho2,hc2,n2,hd2⟩:=id p2;simp only at hc hd hc2 hd2;subst hc hd hc2 hd2;exact concat_meets ⟨_,ho,rfl⟩ ⟨_,ho2,rfl⟩ noFill_tuple_add seq_tuple_add PySem.F.slot_tuple_add PySem.F.entry_tuple_add (PySem.F.args_tuple_add_2 _ _) (tuple_addW0 a b _ _ n n2 dd dd2 sl sl2 (by simp)) ⟨ho,ho2,⟨.ref b,H,I,rfl,q⟩⟩
def aS4 (K:W.Frag):V->Option Int->Option Int->Hp->VK->Prop:=λx lo hi H Q=>∃ a xs,x = .ref a/\SqT K H a xs/\(HT.sIx xs.length 0 lo=0/\HT.sIx xs.length xs.length hi=xs.length)/\Q (.ref a) H
theorem ak8:SlR X (aS4 X.K):=by
 intro pins s σ H x v vl vu lo hi sl Q I rx hs pl pu h;obtain⟨a,xs,rfl,hx,hw,q⟩:=h
 cases rx;obtain⟨its,r,ht,hz⟩:=I.tuple hx;have hlen:its.toArray.size=xs.length:=by rw[A0W];exact r.length.symm
 refine⟨"tuple",_,PyProof.Rows.slot_tuple_getitem.lookup,ht.typeIs,?_⟩;obtain⟨os,hos,hcs,hds⟩:=id hs;have hTs:s.TypeIs (.ref sl) "slice":=⟨os,hos,hcs⟩;unfold getItem
 try with_reducible refine A1F ?_
 first | refine A00 (A06 ?_) | skip
 refine A00 (wpAny_sequenceKey ht.typeIs ∅ ?_);refine A00 (A1V (name:=Str.ofString "__getitem__") ht.typeIs A2U (A2J A2U ht.typeIs entry_tuple_getitem ?_ (args_tuple_getitem _ _)));refine A00 (m:=Builtin.Tuple.tupleItemsOf (.ref a)) (tupleItemsOf_ ht ?_);refine A00 (A3H hTs ?_);rw[A15 ∅];refine A00 (HT.sliceApplied_gen hs pl pu ?_)
 have yes:(((HT.sIx its.toArray.size 0 lo:Nat):Int)==0&&(1:Int)==1&&(HT.sIx its.toArray.size its.toArray.size hi-HT.sIx its.toArray.size 0 lo)==its.toArray.size)=true:=by rw[hlen,hw.1,hw.2];simp
 show wpAny _ _ (if(((HT.sIx its.toArray.size 0 lo:Nat):Int)==0&&(1:Int)==1&&(HT.sIx its.toArray.size its.toArray.size hi-HT.sIx its.toArray.size 0 lo)==its.toArray.size)=true then _ else _) _ _ s
 rw[A15 yes];have fin:∀ s',s'=s->EP X pins σ Q (.ref a) s':=λs' e=>by subst e;exact⟨.ref a,H,I,rfl,q⟩
 unfold Builtin.Tuple.tupleIsExact;obtain⟨hp,g,d,tk,os⟩:=s;have hT:=ht.typeIs
 repeat (any_goals (first | assumption | wp_step))
 exact⟨_,rfl,A06 (fin _ rfl)⟩
end
theorem Inv.freeze {X:Cx}{pins:List (Addr×Obj)}{σ:St}{H:Hp}{s:Shared}{d:Addr}{kvs:List (Key×V)}{o:Obj}(I:Inv X pins σ H s)(hd:H d=some (.dK kvs))(ho:s.heap.get? d=some o):Inv X pins σ (upd H d (.frz o (.dK kvs))) s:=by
 have nn:∀ b,H b=none->upd H d (.frz o (.dK kvs)) b=none:=λb h=>by rw[Az (Ne.symm (ne_of_none hd h))];exact h
 have other:∀ b u,H b=some u->u ≠ .dK kvs->upd H d (.frz o (.dK kvs)) b=some u:=λb u h q=>by rw[Az (ne_of h hd q)];exact h
 refine⟨I.ok,I.os,I.bare,⟨I.base.keep,I.base.slot,λb ob q n hx=>nn b (I.base.free b ob q n hx),I.base.there,λb xs q=>other b _ (I.base.tups b xs q) (by intro z;cases z),λb ob u q=>other b _ (I.base.frzs b ob u q) (by intro z;cases z),λb ps q=>?_⟩,I.loc,I.cell,nn _ I.free,λx c q=>nn _ (I.freeC x c q),λp hp=>?_,λb u q=>?_,I.len⟩
 . obtain⟨more,h⟩:=I.base.tbls b ps q;exact⟨more,other b _ h (by intro z;cases z)⟩
 . obtain⟨a1,a2,a3⟩:=I.pin p hp;exact⟨a1,nn _ a2,a3⟩
 by_cases e:b=d
 . subst e;rw[Ad] at q
   cases q;exact⟨ho,(I.hok b _ hd).stay (λc v hc z=>z) (λc z=>other c _ z (by intro w;cases w)) λc xs z=>other c _ z (by intro w;cases w)⟩
 rw[Az e] at q;exact(I.hok b u q).stay (λc v hc z=>z) (λc z=>other c _ z (by intro w;cases w)) λc xs z=>other c _ z (by intro w;cases w)
def Itd (a:Addr)(o:Obj)(kvs:List (Key×V)):It:=
 ⟨λi H=>H a=some (.frz o (.dK kvs))/\i<kvs.length,λi H x H'=>H'=H/\∃ kv,kvs[i]? = some kv/\x=kV kv.1,λi H=>H a=some (.frz o (.dK kvs))/\kvs.length<=i⟩
theorem a68 {k:Key}{u:Value}(h:Pm k u=true):RelV (kV k) u:=by
 rcases C7 h with ⟨i,t,rfl,rfl⟩|⟨x,t,rfl,rfl⟩
 . exact⟨t,rfl⟩
 exact⟨t,rfl⟩
theorem a59 {X:Cx}{pins:List (Addr×Obj)}{σ:St}{H:Hp}{s:Shared}{a:Addr}{kvs:List (Key×V)}{o:Obj}{es:Array DictEntry}{ep:Nat}(I:Inv X pins σ H s)(h:H a=some (.frz o (.dK kvs)))(ho:o.data = .dict es ep):∃ vs,KV kvs vs/\s.heap.DictAt (Ay X.prog X.w) a vs ep:=by
 obtain⟨h1,_,_,vs,r,o',es',ep',h2,c,hd,rest⟩:=I.hok a _ h;rw[h1] at h2
 cases h2;rw[ho] at hd
 cases hd;exact⟨vs,r,o,es,h1,c,ho,rest⟩
theorem KV.get:∀ {kvs:List (Key×V)} {vs:List (Key×Value)} {i:Nat} {kv:Key×V},KV kvs vs->kvs[i]? = some kv->∃ u,vs[i]? = some (kv.1,u)/\RelV kv.2 u
 |_,_,_,_,.nil,e=>by simp at e
 |_,_,0,kv,.cons r _,e=>by simp at e;subst e;exact⟨_,congrArg some (Prod.ext r.1.symm rfl),r.2⟩
 |_,_,i+1,kv,.cons _ t,e=>by obtain⟨u,h1,h2⟩:=KV.get (i:=i) t (by simpa using e);exact⟨u,by simpa using h1,h2⟩
theorem Ss {P:Program}{w:World}{K:W.Frag}{tg:Expr}(a it:Addr)(o:Obj)(kvs:List (Key×V))(es:Array DictEntry)(ep:Nat)(hd:o.data = .dict es ep):ag2 P w K tg (Itd a o kvs) [it] it (λi h=>h.IsKeyIter it a i kvs.length ep) where
 mem:=by simp
 obj:=λi h st b hb=>by
  have e:b=it:=by simpa using hb
  subst e;obtain⟨o,e,c,d⟩:=st;exact⟨o,e,λv z=>by rw[d] at z;cases z⟩
 keep:=λi h h' st k=>st.at λo e=>k it (by simp) o e
 item:=by
  intro X hP hw hK hc i pins s σ H E I hf st hg;subst hP hw hK;obtain⟨hH,hi⟩:=hg;obtain⟨vs,rv,hat⟩:=a59 I hH hd;have hl:kvs.length=vs.length:=A3A rv;obtain⟨kv,hkv⟩:∃ kv,kvs[i]? = some kv:=⟨kvs[i],A04 hi⟩;obtain⟨u,hu,_⟩:=KV.get rv hkv;obtain⟨f0,f1,f2,f3,f4,f5⟩:=hf it (by simp);rw[hl] at st;refine wpAny_pyNext_dict_item st hat hu λkey h' hkey hit' hs'=>?_;have I1:Inv X pins σ H {s with heap:=h'}:=I.turned (t':=s.toks) (λb o hb e=>(hs'.2 b hb).trans e) f0 f1 f3 f4 f5
  obtain⟨o',e,c,d⟩:=id hit';exact⟨key,rfl,ae1 (s:={s with heap:=h'}) e c d ∅ ⟨kV kv.1,H,I1,a68 hkey,⟨rfl,kv,hkv,rfl⟩,by rw[hl];exact hit',λb hb=>(hf b hb).1⟩⟩
 done:=by intro X hP hw hK hc i pins s σ H E I hf st hg;subst hP hw hK;obtain⟨hH,hi⟩:=hg;obtain⟨vs,rv,hat⟩:=a59 I hH hd;have hl:kvs.length=vs.length:=A3A rv;obtain⟨f0,f1,f2,f3,f4,f5⟩:=hf it (by simp);rw[hl] at st;exact wpAny_pyNext_dict_end (I.ok.hd hc) st hat (A51 nofun) λh' eb=>⟨rfl,I.turned (t':=s.toks) (λb o hb e=>eb b o hb e) f0 f1 f3 f4 f5⟩
 self:=λA i s Q E st hQ=>wpAny_pyIter_keyiter st hQ
theorem aC1 {X:Cx}{tg:Expr}{pins:List (Addr×Obj)}{σ:St}{H:Hp}{s:Shared}{a:Addr}{kvs:List (Key×V)}{R:It->Hp->Prop}{E:Value->Shared->Prop}(I:Inv X pins σ H s)(h:H a=some (.dK kvs))(q:∀ o,R (Itd a o kvs) (upd H a (.frz o (.dK kvs)))) :
  wpAny (model X.prog X.w) X.A (pyIter (.ref a)) (PIE X pins σ tg R) E s:=by
 obtain⟨_,hs,vs,rv,o,es,ep,ho,c,hd,rest⟩:=I.hok a _ h;have I1:=I.freeze h ho;have hl:kvs.length=vs.length:=A3A rv;refine wpAny_pyIter_dict (knd:=Ay X.prog X.w) hs ⟨o,es,ho,c,hd,rest⟩ ?_;rw[<- hl];refine⟨s.heap.objs.size,[s.heap.objs.size],_,_,_,rfl,I1.kept (t':=s.toks) λb o e=>A02 _ e,Ss a _ o kvs es ep hd,⟨_,A0B _ rfl,rfl,rfl⟩,λb hb=>?_,q o⟩;have e:b=s.heap.objs.size:=by simpa using hb
 subst e;exact I1.fpOk (A0D _) (I1.hok.fresh (A0D _))
theorem ag8 {X:Cx}{tg:Expr}{pins:List (Addr×Obj)}{σ:St}{H:Hp}{s:Shared}{a:Addr}{kvs:List (Key×V)}{o:Obj}{R:It->Hp->Prop}{E:Value->Shared->Prop}(I:Inv X pins σ H s)(h:H a=some (.frz o (.dK kvs)))(q:R (Itd a o kvs) H) :
  wpAny (model X.prog X.w) X.A (pyIter (.ref a)) (PIE X pins σ tg R) E s:=by
 obtain⟨ho',_,hs,vs,rv,o',es,ep,ho,c,hd,rest⟩:=I.hok a _ h;rw[ho'] at ho
 cases ho;have hl:kvs.length=vs.length:=A3A rv;refine wpAny_pyIter_dict (knd:=Ay X.prog X.w) hs ⟨o,es,ho',c,hd,rest⟩ ?_;rw[<- hl];refine⟨s.heap.objs.size,[s.heap.objs.size],_,_,_,rfl,I.kept (t':=s.toks) λb o e=>A02 _ e,Ss a _ o kvs es ep hd,⟨_,A0B _ rfl,rfl,rfl⟩,λb hb=>?_,q⟩;have e:b=s.heap.objs.size:=by simpa using hb
 subst e;exact I.fpOk (A0D _) (I.hok.fresh (A0D _))
theorem Same.seqT {K:W.Frag}{H H':Hp}{a:Addr}{xs:List V}(e:Same H H')(h:SqT K H a xs):SqT K H' a xs:=by
 rcases h with (h|⟨o,h⟩)|h
 . exact .inl (.inl (e _ _ h))
 . exact .inl (.inr ⟨o,e _ _ h⟩)
 exact .inr h
mutual
def Is (K:W.Frag)(H:Hp):PyData->V->Prop
 |.none,v=>v = .non
 |.bool b,v=>v = .bl b
 |.int i,v=>v = .int i
 |.str x,v=>v = .str x
 |.list ds,v=>∃ a xs,v = .ref a/\SqL K H a xs/\IsL K H ds xs
 |.tuple ds,v=>∃ a xs,v = .ref a/\SqT K H a xs/\IsL K H ds xs
 |.dict _,_=>False
def IsL (K:W.Frag)(H:Hp):List PyData->List V->Prop
 | [],vs=>vs=[]
 |d :: ds,vs=>∃ v r,vs=v :: r/\Is K H d v/\IsL K H ds r
end
mutual
theorem Is.mono {K:W.Frag}{H H':Hp}(e:Same H H'):∀(d:PyData) (v:V),Is K H d v->Is K H' d v
 |.none,_,h=>by simp only[Is] at h ⊢;exact h
 |.bool _,_,h=>by simp only[Is] at h ⊢;exact h
 |.int _,_,h=>by simp only[Is] at h ⊢;exact h
 |.str _,_,h=>by simp only[Is] at h ⊢;exact h
 |.list ds,v,h=>by simp only[Is] at h ⊢;obtain⟨a,xs,e1,e2,e3⟩:=h;exact⟨a,xs,e1,e.seq e2,IsL.mono e ds xs e3⟩
 |.tuple ds,v,h=>by simp only[Is] at h ⊢;obtain⟨a,xs,e1,e2,e3⟩:=h;exact⟨a,xs,e1,e.seqT e2,IsL.mono e ds xs e3⟩
 |.dict _,_,h=>by simp only[Is] at h
theorem IsL.mono {K:W.Frag}{H H':Hp}(e:Same H H'):∀(ds:List PyData) (vs:List V),IsL K H ds vs->IsL K H' ds vs
 | [],_,h=>by simp only[IsL] at h ⊢;exact h
 |d :: ds,vs,h=>by simp only[IsL] at h ⊢;obtain⟨v,r,e1,e2,e3⟩:=h;exact⟨v,r,e1,Is.mono e d v e2,IsL.mono e ds r e3⟩
end
section
variable {X:Cx}{pins:List (Addr×Obj)}{σ:St}{H:Hp}{s:Shared}
mutual
theorem Is.reads (I:Inv X pins σ H s):∀(d:PyData) (v:V) (u:Value),Is X.K H d v->RelV v u->∃ as,Reads s.heap u d as
 |.none,v,u,i,r=>by
   simp only[Is] at i;subst i
   cases r;exact⟨_,.none⟩
 |.bool b,v,u,i,r=>by
   simp only[Is] at i;subst i
   cases r;exact⟨_,.bool b⟩
 |.int n,v,u,i,r=>by simp only[Is] at i;subst i;obtain⟨t,rfl⟩:=r;exact⟨_,.int n t⟩
 |.str x,v,u,i,r=>by simp only[Is] at i;subst i;obtain⟨t,rfl⟩:=r;exact⟨_,.str x t⟩
 |.list ds,v,u,i,r=>by
   simp only[Is] at i;obtain⟨a,xs,rfl,e2,e3⟩:=i
   cases r;obtain⟨its,rv,⟨o,n,e,hc,hd,hs⟩,_⟩:=I.list e2;obtain⟨as,ra⟩:=IsL.reads I ds xs its e3 rv;exact⟨_,.list e hc hs (by simpa using ra)⟩
 |.tuple ds,v,u,i,r=>by
   simp only[Is] at i;obtain⟨a,xs,rfl,e2,e3⟩:=i
   cases r;obtain⟨its,rv,⟨o,e,hc,n,hd⟩,_⟩:=I.tuple e2;obtain⟨as,ra⟩:=IsL.reads I ds xs its e3 rv;exact⟨_,.tuple e hc hd (by simpa using ra)⟩
 |.dict _,_,_,i,_=>by simp only[Is] at i
theorem IsL.reads (I:Inv X pins σ H s):∀(ds:List PyData) (vs:List V) (us:List Value),IsL X.K H ds vs->Vals vs us->∃ as,ReadsAll s.heap us ds as
 | [],vs,us,i,r=>by
   simp only[IsL] at i;subst i
   cases r;exact⟨_,.nil⟩
 |d :: ds,vs,us,i,r=>by
   simp only[IsL] at i;obtain⟨v,rr,rfl,e2,e3⟩:=i
   cases r with
   |cons r1 r2=>obtain⟨a1,h1⟩:=Is.reads I d v _ e2 r1;obtain⟨a2,h2⟩:=IsL.reads I ds rr _ e3 r2;exact⟨_,.cons h1 h2⟩
end
end
theorem a61 {K:W.Frag}{H:Hp}:∀ ns:List Int,IsL K H (ns.map PyData.int) (ns.map V.int)
 | []=>by simp only[List.map_nil,IsL]
 |n :: r=>by simp only[List.map_cons,IsL];exact⟨_,_,rfl,by simp only[Is],a61 r⟩
theorem Op {K:W.Frag}{H:Hp}:∀ ns:List Str,IsL K H (ns.map PyData.str) (ns.map V.str)
 | []=>by simp only[List.map_nil,IsL]
 |n :: r=>by simp only[List.map_cons,IsL];exact⟨_,_,rfl,by simp only[Is],Op r⟩
theorem X3 {K:W.Frag}{H:Hp}{a:Addr}{ns:List Int}(h:SqL K H a (ns.map V.int)):Is K H (.list (ns.map PyData.int)) (.ref a):=by simp only[Is];exact⟨a,_,rfl,h,a61 ns⟩
structure QA (A:Around):Prop where
 un:A.units+150<cLine
 gd:A.guards=some []
theorem Bd {A:Around}{k:Nat}(hr:Room k A):QA A:=⟨by have:=hr.un;omega,hr.gd⟩
section
variable {X:Cx}
def Yz (K:W.Frag):R2:=λx y H Q=>(∃ i j,x = .int i/\y = .int j/\Q (.int (i+j)) H)\/(∃ i j,x = .str i/\y = .str j/\i.length+j.length<=sizeLine/\Q (.str (i++j)) H)\/aR5 x y H Q\/aL6 K x y H Q\/aN1 K x y H Q
theorem aw8:OpR X (binaryOp .Add) (Yz X.K):=op_add.or (op_add_str.or (op_cat.or (op_catT.or ax8)))
def ai8:R2:=λx y H Q=>(∃ i j,x = .int i/\y = .int j/\CMul i j/\Q (.int (i*j)) H)\/aR7 x y H Q
theorem op_mulA:OpR X (binaryOp .Mult) ai8:=op_mul.or aF8
theorem Jh:OpR X (binaryOp .FloorDiv) (rI aP3 λi j=>.int (i / j)):=aB1
def aN4 (K:W.Frag)(neg:Bool):R2:=λx y H Q=>∃ dx dy,Is K H dx x/\Is K H dy y/\SeqAt.shaped dx=true/\SeqAt.shaped dy=true/\Q (.bl (if neg then !PyData.eqv dx dy else PyData.eqv dx dy)) H
theorem aJ1 (hq:QA X.A):OpR X (compareOp .Eq) (aN4 X.K false):=by intro pins s σ H x y v u Q I rx ry h;obtain⟨dx,dy,ix,iy,sx,sy,q⟩:=h;obtain⟨as,ra⟩:=Is.reads I dx x v ix rx;obtain⟨bs,rb⟩:=Is.reads I dy y u iy ry;exact eq_dataH ra rb sx sy (by have:=hq.un;omega) ⟨.bl _,H,I,rfl,q⟩
theorem aJ2 (hq:QA X.A):OpR X (compareOp .NotEq) (aN4 X.K true):=by intro pins s σ H x y v u Q I rx ry h;obtain⟨dx,dy,ix,iy,sx,sy,q⟩:=h;obtain⟨as,ra⟩:=Is.reads I dx x v ix rx;obtain⟨bs,rb⟩:=Is.reads I dy y u iy ry;exact ne_dataH ra rb sx sy (by have:=hq.un;omega) ⟨.bl _,H,I,rfl,q⟩
def aN9 (K:W.Frag):R2:=λx y H Q=>rEq x y H Q\/aN4 K false x y H Q
def aN5 (K:W.Frag):R2:=λx y H Q=>rNe x y H Q\/aN4 K true x y H Q
theorem aI5 (hq:QA X.A):OpR X (compareOp .Eq) (aN9 X.K):=op_eq.or (aJ1 hq)
theorem aJ4 (hq:QA X.A):OpR X (compareOp .NotEq) (aN5 X.K):=op_ne.or (aJ2 hq)
def rInT (neg:Bool):R2:=λx y H Q=>∃ i j,x = .str i/\y = .str j/\Q (.bl (if neg then !(!(Builtin.Str.occurrences j i 0 j.length 1).isEmpty) else !(Builtin.Str.occurrences j i 0 j.length 1).isEmpty)) H
def aP2 (neg:Bool):R2:=λx y H Q=>∃ a o,y = .ref a/\DGet H a x o/\Q (.bl (if neg then !o.isSome else o.isSome)) H
theorem aG9 (hu:X.A.units+1<cLine):OpR X (compareOp .In) (aP2 false):=by
 intro pins s σ H x y v u Q I rx ry h;obtain⟨a,o,rfl,g,q⟩:=h
 cases ry;exact d_in hu I g rx λs' I'=>⟨.bl _,H,I',rfl,q⟩
theorem a97 (hu:X.A.units+1<cLine):OpR X (compareOp .NotIn) (aP2 true):=by
 intro pins s σ H x y v u Q I rx ry h;obtain⟨a,o,rfl,g,q⟩:=h
 cases ry;exact at2 hu I g rx λs' I'=>⟨.bl _,H,I',rfl,q⟩
def aP0 (K:W.Frag)(neg:Bool):R2:=λx y H Q=>∃ d ds,Is K H d x/\(Is K H (.list ds) y\/Is K H (.tuple ds) y)/\PyData.canLayAll0 ds=true/\d.canLay0=true/\d.depth<=100/\Q (.bl (if neg then !(ds.any λe=>PyData.eqv e d) else ds.any λe=>PyData.eqv e d)) H
theorem aH7 (hq:QA X.A):OpR X (compareOp .In) (aP0 X.K false):=by
 intro pins s σ H x y v u Q I rx ry h;obtain⟨d,ds,ix,iy,h1,h2,h3,q⟩:=h;obtain⟨bs,rb⟩:=Is.reads I d x v ix rx;rcases iy with iy|iy
 . obtain⟨as,ra⟩:=Is.reads I _ y u iy ry;exact SeqAt.in_list_reads ra rb h1 h2 (by have:=hq.un;have:=A42 (PyData.depthAll ds) d.depth;omega) ⟨.bl _,H,I,rfl,q⟩
 obtain⟨as,ra⟩:=Is.reads I _ y u iy ry;exact SeqAt.in_tuple_reads ra rb h1 h2 (by have:=hq.un;have:=A42 (PyData.depthAll ds) d.depth;omega) ⟨.bl _,H,I,rfl,q⟩
theorem a90 (hq:QA X.A):OpR X (compareOp .NotIn) (aP0 X.K true):=by
 intro pins s σ H x y v u Q I rx ry h;obtain⟨d,ds,ix,iy,h1,h2,h3,q⟩:=h;obtain⟨bs,rb⟩:=Is.reads I d x v ix rx;rcases iy with iy|iy
 . obtain⟨as,ra⟩:=Is.reads I _ y u iy ry;exact SeqAt.notIn_list_reads ra rb h1 h2 (by have:=hq.un;have:=A42 (PyData.depthAll ds) d.depth;omega) ⟨.bl _,H,I,rfl,q⟩
 obtain⟨as,ra⟩:=Is.reads I _ y u iy ry;exact SeqAt.notIn_tuple_reads ra rb h1 h2 (by have:=hq.un;have:=A42 (PyData.depthAll ds) d.depth;omega) ⟨.bl _,H,I,rfl,q⟩
def Z7 (K:W.Frag)(neg:Bool):R2:=λx y H Q=>rIn K neg x y H Q\/rInT neg x y H Q\/aP2 neg x y H Q\/aP0 K neg x y H Q
theorem QA.hu {A:Around}(h:QA A):A.units+1<cLine:=by have:=h.un;omega
theorem aK5 (hq:QA X.A):OpR X (compareOp .In) (Z7 X.K false):=op_in_seq.or (op_in_str.or ((aG9 hq.hu).or (aH7 hq)))
theorem a76 (hq:QA X.A):OpR X (compareOp .NotIn) (Z7 X.K true):=op_notIn_seq.or (op_notIn_str.or ((a97 hq.hu).or (a90 hq)))
def aE7 (K:W.Frag):V->Option Int->Option Int->Hp->VK->Prop:=λx lo hi H Q=>aS6 K x lo hi H Q\/aS7 K x lo hi H Q\/aS0 x lo hi H Q\/aS4 K x lo hi H Q
theorem sl_A:SlR X (aE7 X.K):=sl_list.or (sl_tup.or (sl_str.or ak8))
def aR6:R2:=λx y H Q=>∃ a v,x = .ref a/\DGet H a y (some v)/\Q v H
theorem av1 (hu:X.A.units+1<cLine):IxR X aR6:=by
 intro value slice pins s σ H x y v u Q I rx ry h hs;obtain⟨a,z,rfl,g,q⟩:=h
 cases rx;exact tail_any (Wb I g) PySem.F.slot_dict_getitem.lookup (a01 hu I g ry λw' s' I' rw'=>⟨z,H,I',rw',q⟩) hs
def Vd (K:W.Frag):R2:=λx y H Q=>rIx K x y H Q\/aR6 x y H Q
theorem aE2 (hu:X.A.units+1<cLine):IxR X (Vd X.K):=ix_seq.or (av1 hu)
def Sr (K:W.Frag):List V->Hp->VK->Prop:=λxs H Q=>(∃ x n,xs=[x]/\aT2 K x H n/\Q (.int n) H)\/∃ a kvs,xs=[V.ref a]/\H a=some (.dK kvs)/\Q (.int kvs.length) H
theorem ac3:CallR X (.builtin "len") (Sr X.K):=call_len.or ae2
def Rb (K:W.Frag):List V->Hp->VK->Prop:=λxs H Q=>(∃ x c t b,xs=[x,.ty c]/\TyOf K H x t/\W.kitOne K t (.type c)=some b/\Q (.bl b) H)\/(∃ x c t b,xs=[x,.ref c]/\TyOf K H x t/\W.kitOne K t (.ref c)=some b/\Q (.bl b) H)\/∃ a ys c b,xs=[V.ref a,.ty c]/\((SqT K H a ys/\W.kitOne K (.type "tuple") (.type c)=some b)\/(SqL K H a ys/\W.kitOne K (.type "list") (.type c)=some b))/\Q (.bl b) H
theorem Ue:CallR X (.builtin "isinstance") (Rb X.K):=call_isinst.or (call_isinstR.or Uo)
def Wm (K:W.Frag):List V->Hp->VK->Prop:=λxs H Q=>∃ p ys,xs=[.ref p]/\(SqL K H p ys\/SqT K H p ys)/\∀ l,H l=none->Q (.ref l) (upd H l (.lst ys))
theorem Z1:CallR X (.type "list") (Wm X.K):=Tb
def Nn (K:W.Frag):List V->Hp->VK->Prop:=λxs H Q=>∃ p ys,xs=[.ref p]/\((SqL K H p ys/\∀ l,H l=none->Q (.ref l) (upd H l (.tup ys)))\/(SqT K H p ys/\Q (.ref p) H))
theorem Wh:CallR X (.type "tuple") (Nn X.K):=R8
def aI8:List V->Hp->VK->Prop:=λxs H Q=>(∃ i,xs=[.int i]/\Q (.int i) H)\/∃ k,xs=[.bl k]/\Q (.int (if k then 1 else 0)) H
theorem Nx:CallR X (.type "int") aI8:=a79
def au0 (K:W.Frag):List V->Hp->VK->Prop:=λxs H Q=>∃(a:Addr) (bs:List Bool),xs=[.ref a]/\SqL K H a (bs.map V.bl)/\Q (.bl (bs.all id)) H
theorem Zt (hc:X.calm=true):CallR X (.builtin "all") (au0 X.K):=al6 hc
def aA1 (K:W.Frag):List V->Hp->VK->Prop:=λxs H Q=>∃(a:Addr) (bs:List Bool),xs=[.ref a]/\SqL K H a (bs.map V.bl)/\Q (.bl (bs.any id)) H
theorem a58 (hc:X.calm=true):CallR X (.builtin "any") (aA1 X.K):=an3 hc
variable {tg:Expr}
def Gb (K:W.Frag)(x:V)(H1:Hp)(R:It->Hp->Prop):Prop:=(∃ a,x = .ref a/\(∃ xs,SqL K H1 a xs)/\R (Itl K a) H1)\/(∃ a,x = .ref a/\(∃ xs,SqT K H1 a xs)/\R (Itt K a) H1)\/(∃ z,x = .str z/\R (Its z) H1)\/∃ a kvs,x = .ref a/\((H1 a=some (.dK kvs)/\∀ o,R (Itd a o kvs) (upd H1 a (.frz o (.dK kvs))))\/∃ o,H1 a=some (.frz o (.dK kvs))/\R (Itd a o kvs) H1)
def aR3 (K:W.Frag)(tl:TE):TI:=fun σ H R=>tl σ H λx H1=>Gb K x H1 R
theorem aI7 (hu:X.A.units+1<cLine){l:Expr}{tl:TE}(hl:PE X l tl):PI X tg l (aR3 X.K tl):=by
 intro pins s σ H R I h;refine thn (hl pins s σ H _ I h) λv s1 ⟨x,H1,I1,r1,q1⟩=>?_;rcases q1 with ⟨a,e,⟨xs,hq⟩,q⟩|⟨a,e,⟨xs,hq⟩,q⟩|⟨z,e,q⟩|⟨a,kvs,e,q⟩
 . subst e
   cases r1;obtain⟨its,rv,p,hz⟩:=I1.list hq;refine A2V p.isList ?_;refine⟨s1.heap.objs.size,[s1.heap.objs.size],_,_,H1,rfl,I1.kept (t':=s1.toks) λb o e=>A02 _ e,ab8 a _,⟨_,A0B _ rfl,rfl,rfl⟩,λb hb=>?_,q⟩;have e:b=s1.heap.objs.size:=by simpa using hb
   subst e;exact I1.fpOk (A0D _) (I1.hok.fresh (A0D _))
 . subst e
   cases r1;obtain⟨its,rv,p,hz⟩:=I1.tuple hq;refine A2A (show s1.heap.IsTuple a its.toArray from p) ?_;refine⟨s1.heap.objs.size,[s1.heap.objs.size],_,_,H1,rfl,I1.kept (t':=s1.toks) λb o e=>A02 _ e,Z9 a _,⟨_,A0B _ rfl,rfl,rfl⟩,λb hb=>?_,q⟩;have e:b=s1.heap.objs.size:=by simpa using hb
   subst e;exact I1.fpOk (A0D _) (I1.hok.fresh (A0D _))
 . subst e;exact aI0 I1 r1 q
 subst e
 cases r1;rcases q with ⟨hd,q⟩|⟨o,hd,q⟩
 . exact aC1 I1 hd q
 exact ag8 I1 hd q
end
def Fnd (P:Program)(w:World)(K:W.Frag)(mg:Str->Option Value)(base:Heap)(k:Nat)(x:Str)(ps:List Str)(sp:Sp):Prop:=
 ∃ f fd,FnOk P w K mg base CX0 k f fd ps sp/\mg x=some (.ref f)/\W.keepIn K (.ref f)=true/\Binds K fd ps []
section
variable {X:Cx}{k:Nat}{x:Str}{ps:List Str}{sp:Sp}{e:Expr}{es:List Expr}{t:TA}{p pos:Pos}
theorem Ae (F:Fnd X.prog X.w X.K X.mg X.base k x ps sp)(hr:Room k X.A)(hg:Gl X x)(ha:PA X (e :: es) t)(hdb:(x==("__debug__":Str))=false:=by decide)
  (he:starEach (e :: es) X.env=(false,eval e X.env) :: starEach es X.env:=by ac_nf) (hpl:(backTo pos (starEach es X.env)).any (·.1)=false:=by ac_nf):PE X (.Call (.Name x p) (e :: es) [] pos) (ak2 sp [] E0 t):=by
 obtain⟨f,fd,h1,h2,h3,h4⟩:=F;exact ac2 h1 hr hg h2 h3 h4 .nil aw5 ha hdb he hpl
end
def ExtBut (d:Addr)(H H':Hp):Prop:=∀ b o,b≠d->H b=some o->H' b=some o
theorem Same.lk {H H':Hp}{a:Addr}{o:HO}(e:Same H H')(h:H a=some o):H' a=some o:=e a o h
theorem ExtBut.lk {d:Addr}{H H':Hp}{a:Addr}{o:HO}(e:ExtBut d H H')(h:H a=some o)(n:a≠d):H' a=some o:=e a o n h
theorem Same.upd {H:Hp}{p:Addr}{o:HO}(h:H p=none):Same H (upd H p o):=λb u e=>by rw[Az (ne_of_none e h)];exact e
theorem ExtBut.upd {H:Hp}{p:Addr}{o:HO}:ExtBut p H (upd H p o):=λb u n e=>by rw[Az n];exact e
theorem Same.but {d:Addr}{H H':Hp}(e:Same H H'):ExtBut d H H':=λb o _ h=>e b o h
theorem ExtBut.trans {d:Addr}{H H1 H2:Hp}(a:ExtBut d H H1)(b:ExtBut d H1 H2):ExtBut d H H2:=λc o n h=>b c o n (a c o n h)
theorem ExtBut.same {d:Addr}{H H1 H2:Hp}(a:ExtBut d H H1)(b:Same H1 H2):ExtBut d H H2:=λc o n h=>b c o (a c o n h)
theorem ExtBut.after {d:Addr}{H H1 H2:Hp}(a:Same H H1)(b:ExtBut d H1 H2):ExtBut d H H2:=λc o n h=>b c o n (a c o h)
theorem ExtBut.refl {d:Addr}{H:Hp}:ExtBut d H H:=λ_ _ _ h=>h
def aF6 (xs:List V)(H:Hp)(Q:VK):Prop:=xs.length<=sizeLine/\∀ p,H p=none->Q (.ref p) (upd H p (.tup xs))
def aG6 (xs:List V)(H:Hp)(Q:VK):Prop:=xs.length<=sizeLine/\∀ p,H p=none->Q (.ref p) (upd H p (.lst xs))
def aF7 (vs:List V)(H:Hp)(R:It->Hp->Prop):Prop:=∃ j:Int,vs=[.int j] /\ -(2 ^ 62)<=j/\j<2 ^ 62/\R (Itr 0 j.toNat) H
def aD9 (vs:List V)(H:Hp)(R:It->Hp->Prop):Prop:=∃ i j:Int,vs=[.int i,.int j]/\(-(2 ^ 62)<=i/\i<2 ^ 62 /\ -(2 ^ 62)<=j/\j<2 ^ 62)/\R (Itr i (j-i).toNat) H
def ar8 (g:TG)(tb:TS)(D:Ends)(σ:St)(J:It)(H1:Hp):Prop:=∃ W:Nat->Nat->St->Hp->Prop,(∃ m,W 0 m σ H1)/\∀ i m σ H,W i m σ H ->
 (J.stop i H/\D.nx σ H)\/(J.go i H/\∃ N:St->Hp->Prop,(∀ σ' H',N σ' H'->∃ m',m'<m/\W (i+1) m' σ' H')/\∀ x H',J.yld i H x H'->g x σ H' fun σ2 H2=>tb {D with nx:=N,ct:=N,bk:=D.nx} σ2 H2)
def Ly (k:Nat)(js:List Nat)(g:TG)(tt:TT)(te:TE)(σ:St)(J:It)(H1:Hp)(Q:VK):Prop:=∀ p,H1 p=none ->
 ∃ W:Nat->Nat->Hp->Prop,(∃ m,W 0 m (upd H1 p (.lst [])))/\∀ i m H,W i m H ->
  (J.stop i H/\Q (.ref p) H)\/(J.go i H/\∃ N:Hp->Prop,(∀ H',N H'->∃ m',m'<m/\W (i+1) m' H') /\
   ∀ x H',J.yld i H x H'->g x (List.replicate k none++Pg σ js) H' fun σ2 H2=>tt σ2 H2 λb H3=>if b=true then te σ2 H3 λy H4=>∃ acc,H4 p=some (.lst acc)/\acc.length<sizeLine/\N (upd H4 p (.lst (acc++[y]))) else N H3)
def ap1 (p:Addr)(ps:List (V×V))(H:Hp)(Q:VK):Prop:=H p=some (.dK [])/\∃ kvs:List (Key×V),ps=kvs.map (λkv=>(kV kv.1,kv.2))/\kvs.length<=15/\Q (.ref p) (upd H p (.dK (Eu [] kvs)))
section
variable {K:W.Frag}{σ:St}{H:Hp}{Q:VK}{D:Ends}{ta tb te:TE}{c:TT}{t u:TS}{x y v:V}{i j:Int}
theorem i_var {n:Nat}(h:σ[n]? = some (some v))(k:Q v H):aQ4 n σ H Q:=⟨v,h,k⟩
theorem i_c (k:Q v H):tC v σ H Q:=k
theorem i_next (k:D.nx σ H):aK0 D σ H:=k
theorem i_ret (k:te σ H D.rt):aT4 te D σ H:=k
theorem i_drop (k:te σ H λ_ H1=>D.nx σ H1):aM8 te D σ H:=k
theorem i_asg {g:TG}(k:te σ H λx H1=>g x σ H1 D.nx):aC4 te g D σ H:=k
theorem i_gname {n:Nat}{R:St->Hp->Prop}(k:R (σ.set n (some v)) H):Ht n v σ H R:=k
theorem i_if (k:c σ H λb H1=>if b=true then t D σ H1 else u D σ H1):aT7 c t u D σ H:=k
theorem i_op {r:R2}(k:ta σ H λx H1=>tb σ H1 λy H2=>r x y H2 Q):tOp r ta tb σ H Q:=k
theorem i_un {r:V->Hp->VK->Prop}(k:ta σ H λx H1=>r x H1 Q):tUn r ta σ H Q:=k
theorem i_rU {g:Int->V}(k:Q (g i) H):rU g (.int i) H Q:=⟨i,rfl,k⟩
theorem i_rI0 {g:Int->Int->V}(k:Q (g i j) H):rI0 g (.int i) (.int j) H Q:=⟨i,j,rfl,rfl,k⟩
theorem i_rI {C:Int->Int->Prop}{g:Int->Int->V}(h:C i j)(k:Q (g i j) H):rI C g (.int i) (.int j) H Q:=⟨i,j,rfl,rfl,h,k⟩
theorem i_addI (k:Q (.int (i+j)) H):Yz K (.int i) (.int j) H Q:=.inl ⟨i,j,rfl,rfl,k⟩
theorem i_addS {a b:Str}(h:a.length+b.length<=sizeLine)(k:Q (.str (a++b)) H):Yz K (.str a) (.str b) H Q:=.inr (.inl ⟨a,b,rfl,rfl,h,k⟩)
theorem ad4 {a b:Addr}{xs ys:List V}(h1:H a=some (.lst xs))(h2:H b=some (.lst ys))(h:xs.length+ys.length<=sizeLine)(k:∀ p H',H p=none->Same H H'->H' p=some (.lst (xs++ys))->Q (.ref p) H'):Yz K (.ref a) (.ref b) H Q:=
 .inr (.inr (.inl ⟨a,b,xs,ys,rfl,rfl,h1,h2,h,λp hp=>k p _ hp (Same.upd hp) Ad⟩))
theorem aH2 (h:CMul i j)(k:Q (.int (i*j)) H):ai8 (.int i) (.int j) H Q:=.inl ⟨i,j,rfl,rfl,h,k⟩
theorem aE5 {a:Addr}{xs:List V}(h1:H a=some (.lst xs))(h2:-(2 ^ 63)<=i/\i<2 ^ 63)(h3:xs.length*i.toNat<=sizeLine)(k:∀ p H',H p=none->Same H H'->H' p=some (.lst (List.replicate i.toNat xs).flatten)->Q (.ref p) H'):ai8 (.ref a) (.int i) H Q:=
 .inr ⟨a,i,xs,rfl,rfl,h1,h2.1,h2.2,h3,λp hp=>k p _ hp (Same.upd hp) Ad⟩
theorem i_eqS (h:aN6 x y=true)(k:Q (.bl (decide (x=y))) H):aN9 K x y H Q:=.inl ⟨h,k⟩
theorem i_neS (h:aN6 x y=true)(k:Q (.bl (!decide (x=y))) H):aN5 K x y H Q:=.inl ⟨h,k⟩
theorem aj4 {dx dy:PyData}(h1:Is K H dx x)(h2:Is K H dy y)(h3:SeqAt.shaped dx=true)(h4:SeqAt.shaped dy=true)(k:Q (.bl (PyData.eqv dx dy)) H):aN9 K x y H Q:=.inr ⟨dx,dy,h1,h2,h3,h4,k⟩
theorem aE8 {dx dy:PyData}(h1:Is K H dx x)(h2:Is K H dy y)(h3:SeqAt.shaped dx=true)(h4:SeqAt.shaped dy=true)(k:Q (.bl (!PyData.eqv dx dy)) H):aN5 K x y H Q:=.inr ⟨dx,dy,h1,h2,h3,h4,k⟩
theorem i_true {R:Bool->Hp->Prop}(k:R true H):aa1 σ H R:=k
theorem i_tTest {R:Bool->Hp->Prop}(k:te σ H λx H'=>∃ b,x = .bl b/\R b H'):aF5 te σ H R:=k
theorem i_tB {R:Bool->Hp->Prop}(k:te σ H λx H'=>∃ b,x = .bl b/\R b H'):tB te σ H R:=k
theorem i_bl {b:Bool}{R:Bool->Prop}(k:R b):∃ c,V.bl b = .bl c/\R c:=⟨b,rfl,k⟩
theorem i_not {R:Bool->Hp->Prop}(k:c σ H λb H1=>R (!b) H1):aR4 c σ H R:=k
theorem i_and {c':TT}{R:Bool->Hp->Prop}(k:c σ H λb H1=>if b=true then c' σ H1 R else R false H1):aT8 c c' σ H R:=k
theorem i_or {c':TT}{R:Bool->Hp->Prop}(k:c σ H λb H1=>if b=true then R true H1 else c' σ H1 R):tOr c c' σ H R:=k
theorem Dx {a:Addr}{xs:List V}(h:H a=some (.lst xs))(e:atI xs i=some v)(k:Q v H):Vd K (.ref a) (.int i) H Q:=.inl (.inl ⟨a,xs,i,v,rfl,rfl,SqL.of h,e,k⟩)
theorem au3 {z:Str}{s:Nat}(h:z.length<=sizeLine)(e:atI z.cps.toList i=some s)(k:Q (.str ⟨#[s]⟩) H):Vd K (.str z) (.int i) H Q:=.inl (.inr (.inr ⟨z,i,s,rfl,rfl,h,e,k⟩))
theorem i_ixD {a:Addr}{kvs:List (Key×V)}{z:Str}(h:H a=some (.dK kvs))(e:Dn kvs (Sum.inr z:Key)=some v)(k:Q v H):Vd K (.ref a) (.str z) H Q:=.inr ⟨a,v,rfl,by rw[<- e];exact DGet.k (k:=Sum.inr z) h,k⟩
theorem i_lenL {a:Addr}{xs:List V}(h:H a=some (.lst xs))(k:Q (.int xs.length) H):Sr K [.ref a] H Q:=.inl ⟨.ref a,_,rfl,.inl ⟨xs,SqL.of h,rfl⟩,k⟩
theorem i_lenS {z:Str}(h:z.length<=sizeLine)(k:Q (.int z.length) H):Sr K [.str z] H Q:=.inl ⟨.str z,_,rfl,⟨h,rfl⟩,k⟩
theorem aE4 {c:String}{t:Value}{b:Bool}(h:TyOf K H x t)(e:W.kitOne K t (.type c)=some b)(k:Q (.bl b) H):Rb K [x,.ty c] H Q:=.inl ⟨x,c,t,b,rfl,h,e,k⟩
theorem Y3 {c:String}{b:Bool}{a:Addr}{ys:List V}(h:SqT K H a ys)(e:W.kitOne K (.type "tuple") (.type c)=some b)(k:Q (.bl b) H):Rb K [.ref a,.ty c] H Q:=.inr (.inr ⟨a,ys,c,b,rfl,.inl ⟨h,e⟩,k⟩)
theorem av9 {a:Addr}{xs:List V}(h:SqL K H a xs)(k:∀ p H',H p=none->Same H H'->H' p=some (.lst xs)->Q (.ref p) H'):Wm K [.ref a] H Q:=⟨a,xs,rfl,.inl h,λp hp=>k p _ hp (Same.upd hp) Ad⟩
theorem Ho {a:Addr}{xs:List V}(h:SqL K H a xs)(k:∀ p H',H p=none->Same H H'->H' p=some (.tup xs)->Q (.ref p) H'):Nn K [.ref a] H Q:=⟨a,xs,rfl,.inl ⟨h,λp hp=>k p _ hp (Same.upd hp) Ad⟩⟩
theorem i_intB {b:Bool}(k:Q (.int (if b then 1 else 0)) H):aI8 [.bl b] H Q:=.inr ⟨b,rfl,k⟩
theorem aJ9 {a:Addr}{bs:List Bool}(h:SqL K H a (bs.map V.bl))(k:Q (.bl (bs.all id)) H):au0 K [.ref a] H Q:=⟨a,bs,rfl,h,k⟩
theorem aA5 {a:Addr}{bs:List Bool}(h:SqL K H a (bs.map V.bl))(k:Q (.bl (bs.any id)) H):aA1 K [.ref a] H Q:=⟨a,bs,rfl,h,k⟩
theorem i_sl {r:V->Option Int->Option Int->Hp->VK->Prop}{tl th:TO}(k:te σ H λx H1=>tl σ H1 λl H2=>th σ H2 λu H3=>r x l u H3 Q):tSl r te tl th σ H Q:=k
theorem i_noPart {R:Option Int->Hp->Prop}(k:R none H):a67 σ H R:=k
theorem i_part {R:Option Int->Hp->Prop}(k:te σ H λx H1=>∃ i,x = .int i/\R (some i) H1):aL5 te σ H R:=k
theorem i_int {R:Int->Prop}(k:R i):∃ j,V.int i = .int j/\R j:=⟨i,rfl,k⟩
theorem i_slS {z:Str}{lo hi:Option Int}(h:z.length<=sizeLine)(k:Q (.str (Txt.slice z lo hi)) H):aE7 K (.str z) lo hi H Q:=.inr (.inr (.inl ⟨z,rfl,h,k⟩))
theorem Ni {a:Addr}{xs:List V}{lo hi:Option Int}(h:SqL K H a xs)(k:∀ p H',H p=none->Same H H'->H' p=some (.lst (Ph xs lo hi))->Q (.ref p) H'):aE7 K (.ref a) lo hi H Q:=.inl ⟨a,xs,rfl,h,λp hp=>k p _ hp (Same.upd hp) Ad⟩
theorem i_inS {a b:Str}(k:Q (.bl (!(Builtin.Str.occurrences b a 0 b.length 1).isEmpty)) H):Z7 K false (.str a) (.str b) H Q:=.inr (.inl ⟨a,b,rfl,rfl,k⟩)
theorem i_bm {T:String}{r:V->List V->Hp->VK->Prop}{ts:TA}(k:te σ H λx H1=>tyV K T x H1/\ts σ H1 λxs H2=>r x xs H2 Q):tBM K T r te ts σ H Q:=k
theorem i_bm0 {T:String}{r:V->List V->Hp->VK->Prop}(k:te σ H λx H1=>tyV K T x H1/\r x [] H1 Q):aO4 K T r te σ H Q:=k
theorem i_call {sp:Sp}{E:XK}{ts:TA}(k:ts σ H λvs H1=>sp (vs++[]) H1 Q E):ak2 sp [] E ts σ H Q:=k
theorem i_cb {r:List V->Hp->VK->Prop}{ts:TA}(k:ts σ H λvs H1=>r vs H1 Q):tCB r ts σ H Q:=k
theorem i_cons {tr:TA}{R:List V->Hp->Prop}(k:ta σ H λx H1=>tr σ H1 λxs H2=>R (x :: xs) H2):aL8 ta tr σ H R:=k
theorem i_nil {R:List V->Hp->Prop}(k:R [] H):aT0 σ H R:=k
theorem i_tup {ts:TA}(k:ts σ H λxs H1=>aF6 xs H1 Q):aS9 ts σ H Q:=k
theorem i_lst {ts:TA}(k:ts σ H λxs H1=>aG6 xs H1 Q):aS3 ts σ H Q:=k
theorem Bp {xs:List V}(h:xs.length<=sizeLine)(k:∀ p H',H p=none->Same H H'->H' p=some (.tup xs)->Q (.ref p) H'):aF6 xs H Q:=⟨h,λp hp=>k p _ hp (Same.upd hp) Ad⟩
theorem Eb {xs:List V}(h:xs.length<=sizeLine)(k:∀ p H',H p=none->Same H H'->H' p=some (.lst xs)->Q (.ref p) H'):aG6 xs H Q:=⟨h,λp hp=>k p _ hp (Same.upd hp) Ad⟩
theorem Xb (k:∀ p H',H p=none->Same H H'->H' p=some (.dK [])->Q (.ref p) H'):ao3 σ H Q:=λp hp=>k p _ hp (Same.upd hp) Ad
theorem i_put {td ty tv:TE}(k:tv σ H λv H1=>td σ H1 λx H2=>ty σ H2 λy H3=>∃ a H4,x = .ref a/\DPut H3 a y v H4/\D.nx σ H4):aL2 td ty tv D σ H:=k
theorem Kp {a:Addr}{kvs:List (Key×V)}{z:Str}{R:Hp->Prop}(h:H a=some (.dK kvs))(hl:kvs.length<1000)(k:∀ H',ExtBut a H H'->H' a=some (.dK (Gj kvs (Sum.inr z) v))->R H'):∃ b H4,V.ref a = .ref b/\DPut H b (.str z) v H4/\R H4:=
 ⟨a,_,rfl,DPut.k (k:=Sum.inr z) h (a92 (A31 hl)),k _ ExtBut.upd Ad⟩
theorem i_for {wi:TI}{g:TG}{tb:TS}(k:wi σ H λJ H1=>ar8 g tb D σ J H1):aT1 wi g tb D σ H:=k
theorem i_comp {m:Nat}{js:List Nat}{wi:TI}{g:TG}{tt:TT}(k:wi σ H λJ H1=>Ly m js g tt te σ J H1 Q):az3 m js wi g tt te σ H Q:=k
theorem i_itS {z:Str}{R:It->Hp->Prop}(k:R (Its z) H):Gb K (.str z) H R:=.inr (.inr (.inl ⟨z,rfl,k⟩))
theorem Vt {a:Addr}{xs:List V}{R:It->Hp->Prop}(h:SqL K H a xs)(k:R (Itl K a) H):Gb K (.ref a) H R:=.inl ⟨a,rfl,⟨xs,h⟩,k⟩
theorem Wf {a:Addr}{xs:List V}{R:It->Hp->Prop}(h:SqT K H a xs)(k:R (Itt K a) H):Gb K (.ref a) H R:=.inr (.inl ⟨a,rfl,⟨xs,h⟩,k⟩)
theorem aO9 {a:Addr}{kvs:List (Key×V)}{R:It->Hp->Prop}(h:H a=some (.dK kvs))(k:∀ o,R (Itd a o kvs) (upd H a (.frz o (.dK kvs)))):Gb K (.ref a) H R:=.inr (.inr (.inr ⟨a,kvs,rfl,.inl ⟨h,k⟩⟩))
theorem aQ9 {a:Addr}{kvs:List (Key×V)}{o:Obj}{R:It->Hp->Prop}(h:H a=some (.frz o (.dK kvs)))(k:R (Itd a o kvs) H):Gb K (.ref a) H R:=.inr (.inr (.inr ⟨a,kvs,rfl,.inr ⟨o,h,k⟩⟩))
theorem i_rng1 {ts:TA}{R:It->Hp->Prop}(k:ts σ H λvs H1=>aF7 vs H1 R):aI6 ts σ H R:=k
theorem Jw {R:It->Hp->Prop}(h:-(2 ^ 62)<=i/\i<2 ^ 62)(k:R (Itr 0 i.toNat) H):aF7 [V.int i] H R:=⟨i,rfl,h.1,h.2,k⟩
theorem i_rng2 {ts:TA}{R:It->Hp->Prop}(k:ts σ H λvs H1=>aD9 vs H1 R):aH9 ts σ H R:=k
theorem aI9 {R:It->Hp->Prop}(h:(-(2 ^ 62)<=i/\i<2 ^ 62) /\ -(2 ^ 62)<=j/\j<2 ^ 62)(k:R (Itr i (j-i).toNat) H):aD9 [V.int i,V.int j] H R:=⟨i,j,rfl,⟨h.1.1,h.1.2,h.2.1,h.2.2⟩,k⟩
theorem i_iany {R:It->Hp->Prop}(k:te σ H λx H1=>Gb K x H1 R):aR3 K te σ H R:=k
theorem X0 {trs:List (TE×TE)}(k:∀ p H1,H p=none->Same H H1->H1 p=some (.dK [])->Ov trs σ H1 λps H2=>ap1 p ps H2 Q):aI3 trs σ H Q:=λp hp=>k p _ hp (Same.upd hp) Ad
theorem i_pair {tk tv:TE}{r:List (TE×TE)}{R:List (V×V)->Hp->Prop}(k:tk σ H λx H1=>tv σ H1 λy H2=>Ov r σ H2 λps H3=>R ((x,y) :: ps) H3):Ov ((tk,tv) :: r) σ H R:=k
theorem Sg {p:Addr}{ps:List (V×V)}(kvs:List (Key×V))(h:H p=some (.dK []))(e:ps=kvs.map (λkv=>(kV kv.1,kv.2)))(hl:kvs.length<=15)(k:∀ H',ExtBut p H H'->H' p=some (.dK (Eu [] kvs))->Q (.ref p) H'):ap1 p ps H Q:=⟨h,kvs,e,hl,k _ ExtBut.upd Ad⟩
theorem i_pair0 {R:List (V×V)->Hp->Prop}(k:R [] H):Ov [] σ H R:=k
end
theorem Oz {c A B:Prop}[Decidable c](h1:c->A)(h2:¬ c->B):if decide c=true then A else B:=by
 by_cases h:c
 . rw[A15 (A0S h)];exact h1 h
 rw[A10 (by rw[A0P h];exact A0K)];exact h2 h
theorem Ps {c A B:Prop}[Decidable c](h1:¬ c->A)(h2:c->B):if(!decide c)=true then A else B:=by
 by_cases h:c
 . rw[A0S h,A10 ∅];exact h2 h
 rw[A0P h,A15 ∅];exact h1 h
theorem ar0 {b:Bool}{A B:Prop}(h1:b=true->A)(h2:b=false->B):if b=true then A else B:=by
 cases b
 . rw[A10 A0K];exact h2 rfl
 rw[A15 rfl];exact h1 rfl
theorem ay1 {b:Bool}{A B:Prop}(h1:b=false->A)(h2:b=true->B):if(!b)=true then A else B:=by
 cases b
 . exact h1 rfl
 exact h2 rfl
theorem iteNT {A B:Prop}(h:B):if(!true)=true then A else B:=h
theorem iteNF {A B:Prop}(h:A):if(!false)=true then A else B:=h
theorem Af {n:Nat}(h:n<=1000000):n<=sizeLine:=by rw[A1G];omega
def Gp (J:It)(xs:List V)(G:Hp->Prop):Prop:=
 ∀ i H,G H->(i<xs.length->J.go i H)/\(xs.length<=i->J.stop i H)/\∀ x H',i<xs.length->J.yld i H x H'->H'=H/\xs[i]? = some x
theorem ai5 (z:Str):Gp (Its z) (z.cps.toList.map λc=>.str ⟨#[c]⟩) λ_=>True:=by
 intro i H _;refine⟨λh=>?_,λh=>?_,λx H' _ h=>?_⟩
 . show i<z.cps.size;simpa using h
 . show z.cps.size<=i;simpa using h
 obtain⟨e,c,hc,rfl⟩:=h;refine⟨e,?_⟩;rw[A09,A3W,hc];rfl
theorem Gc {K:W.Frag}{a:Addr}{xs:List V}:Gp (Itl K a) xs λH=>SqL K H a xs:=by intro i H g;refine⟨λh=>⟨xs,xs[i],g,A04 h⟩,λh=>⟨xs,g,h⟩,λx H' _ h=>⟨h.1,h.2 xs g⟩⟩
theorem Ia {K:W.Frag}{a:Addr}{xs:List V}:Gp (Itt K a) xs λH=>SqT K H a xs:=by intro i H g;refine⟨λh=>⟨xs,xs[i],g,A04 h⟩,λh=>⟨xs,g,h⟩,λx H' _ h=>⟨h.1,h.2 xs g⟩⟩
theorem Pc {a:Addr}{o:Obj}{kvs:List (Key×V)}:Gp (Itd a o kvs) (kvs.map λkv=>kV kv.1) λH=>H a=some (.frz o (.dK kvs)):=by intro i H g;rw[A01];refine⟨λh=>⟨g,h⟩,λh=>⟨g,h⟩,λx H' _ h=>?_⟩;obtain⟨e,kv,h1,h2⟩:=h;exact⟨e,by rw[A09,h1,h2];rfl⟩
theorem Cg {lo:Int}{n:Nat}:Gp (Itr lo n) ((List.range n).map λ(i:Nat)=>V.int (lo+(i:Int))) λ_=>True:=by
 intro i H _;refine⟨λh=>?_,λh=>?_,λx H' hi h=>?_⟩
 . show i<n;simpa using h
 . show n<=i;simpa using h
 obtain⟨e,hx⟩:=h;refine⟨e,?_⟩;have hi':i<n:=by simpa using hi
 rw[A09,A59 hi',hx];rfl
theorem al3 {J:It}{xs:List V}{G:Hp->Prop}{g:TG}{tb:TS}{D:Ends}{σ:St}{H:Hp}(hw:Gp J xs G)(Pv:Nat->St->Hp->Prop)(h0:Pv 0 σ H)(hG:∀ i σ H,Pv i σ H->G H)
  (hs:∀ i x σ H,xs[i]? = some x->Pv i σ H->g x σ H fun σ2 H2=>tb {D with nx:=Pv (i+1),ct:=Pv (i+1),bk:=D.nx} σ2 H2) (hd:∀ σ H,Pv xs.length σ H->D.nx σ H) :
  ∃ W:Nat->Nat->St->Hp->Prop,(∃ m,W 0 m σ H)/\∀ i m σ H,W i m σ H ->
   (J.stop i H/\D.nx σ H)\/(J.go i H/\∃ N:St->Hp->Prop,(∀ σ' H',N σ' H'->∃ m',m'<m/\W (i+1) m' σ' H')/\∀ x H',J.yld i H x H'->g x σ H' fun σ2 H2=>tb {D with nx:=N,ct:=N,bk:=D.nx} σ2 H2):=by
 refine⟨λi m σ H=>m=xs.length-i/\i<=xs.length/\Pv i σ H,⟨xs.length,by simp,Nat.zero_le _,h0⟩,?_⟩;rintro i m σ H ⟨rfl,hi,p⟩;obtain⟨w1,w2,w3⟩:=hw i H (hG i σ H p)
 by_cases hlt:i<xs.length
 . refine .inr ⟨w1 hlt,Pv (i+1),fun σ' H' p'=>⟨xs.length-(i+1),by omega,rfl,hlt,p'⟩,λx H' y=>?_⟩;obtain⟨e,hx⟩:=w3 x H' hlt y;subst e;exact hs i x σ _ hx p
 have e:i=xs.length:=by omega
 subst e;exact .inl ⟨w2 (A0D _),hd σ H p⟩
def CN (p:Addr)(n:Nat)(Pv:Nat->List V->Hp->Prop)(i:Nat):Hp->Prop:=λH'=>i+1<=n/\∃ acc,H' p=some (.lst acc)/\acc.length<=i+1/\Pv (i+1) acc H'
theorem au7 {p:Addr}{n:Nat}{Pv:Nat->List V->Hp->Prop}{i:Nat}{H:Hp}{acc:List V}{y:V}(hn:n<=1000000)(hi:i<n)(hl:acc.length<=i)(e:H p=some (.lst acc))(k:∀ H',ExtBut p H H'->H' p=some (.lst (acc++[y]))->Pv (i+1) (acc++[y]) H') :
  ∃ acc,H p=some (.lst acc)/\acc.length<sizeLine/\CN p n Pv i (upd H p (.lst (acc++[y]))):=
 ⟨acc,e,by rw[A1G];omega,hi,acc++[y],Ad,by rw[A0C,A28];omega,k _ ExtBut.upd Ad⟩
theorem Nq {p:Addr}{n:Nat}{Pv:Nat->List V->Hp->Prop}{i:Nat}{H:Hp}{acc:List V}(hi:i<n)(hl:acc.length<=i)(e:H p=some (.lst acc))(k:Pv (i+1) acc H):CN p n Pv i H:=⟨hi,acc,e,by omega,k⟩
theorem a82 {J:It}{xs:List V}{G:Hp->Prop}{g:TG}{tt:TT}{te:TE}{σ:St}{H:Hp}{Q:VK}{p:Addr}{k:Nat}{js:List Nat}(hw:Gp J xs G)(hp:H p=none)(Pv:Nat->List V->Hp->Prop)
  (h0:∀ H',Same H H'->H' p=some (.lst [])->Pv 0 [] H') (hG:∀ i acc H,Pv i acc H->G H)
  (hs:∀ i x acc H,xs[i]? = some x->i<xs.length->acc.length<=i->H p=some (.lst acc)->Pv i acc H->g x (List.replicate k none++Pg σ js) H fun σ2 H2=>tt σ2 H2 λb H3=>if b=true then te σ2 H3 λy H4=>∃ acc,H4 p=some (.lst acc)/\acc.length<sizeLine/\CN p xs.length Pv i (upd H4 p (.lst (acc++[y]))) else CN p xs.length Pv i H3)
  (hd:∀ acc H,H p=some (.lst acc)->acc.length<=xs.length->Pv xs.length acc H->Q (.ref p) H) :
  ∃ W:Nat->Nat->Hp->Prop,(∃ m,W 0 m (upd H p (.lst [])))/\∀ i m H,W i m H ->
   (J.stop i H/\Q (.ref p) H)\/(J.go i H/\∃ N:Hp->Prop,(∀ H',N H'->∃ m',m'<m/\W (i+1) m' H') /\
    ∀ x H',J.yld i H x H'->g x (List.replicate k none++Pg σ js) H' fun σ2 H2=>tt σ2 H2 λb H3=>
     if b=true then te σ2 H3 λy H4=>∃ acc,H4 p=some (.lst acc)/\acc.length<sizeLine/\N (upd H4 p (.lst (acc++[y]))) else N H3):=by
 refine⟨λi m H=>m=xs.length-i/\i<=xs.length/\∃ acc,H p=some (.lst acc)/\acc.length<=i/\Pv i acc H,⟨xs.length,by simp,Nat.zero_le _,[],Ad,Nat.le_refl _,h0 _ (Same.upd hp) Ad⟩,?_⟩;rintro i m H ⟨rfl,hi,acc,hacc,hl,q⟩;obtain⟨w1,w2,w3⟩:=hw i H (hG i acc H q)
 by_cases hlt:i<xs.length
 . refine .inr ⟨w1 hlt,CN p xs.length Pv i,λH' ⟨h1,h2⟩=>⟨xs.length-(i+1),by omega,rfl,h1,h2⟩,λx H' y=>?_⟩;obtain⟨e,hx⟩:=w3 x H' hlt y;subst e;exact hs i x acc _ hx hlt hl hacc q
 have e:i=xs.length:=by omega
 subst e;exact .inl ⟨w2 (A0D _),hd acc H hacc hl q⟩
def aD6 (p:Addr)(N:Hp->Prop):VK:=λy H4=>∃ acc,H4 p=some (.lst acc)/\acc.length<sizeLine/\N (upd H4 p (.lst (acc++[y])))
theorem J4 {J:It}{xs:List V}{G:Hp->Prop}{g:TG}{tt:TT}{te:TE}{σ:St}{H:Hp}{Q:VK}{k:Nat}{js:List Nat}(hw:Gp J xs G)(Pv:Addr->Nat->List V->Hp->Prop)
  (h0:∀ p H',H p=none->Same H H'->H' p=some (.lst [])->Pv p 0 [] H') (hG:∀ p i acc H,Pv p i acc H->G H)
  (hs:∀ p i x acc H1,H p=none->xs[i]? = some x->i<xs.length->acc.length<=i->H1 p=some (.lst acc)->Pv p i acc H1->g x (List.replicate k none++Pg σ js) H1 fun σ2 H2=>tt σ2 H2 λb H3=>if b=true then te σ2 H3 (aD6 p (CN p xs.length (Pv p) i)) else CN p xs.length (Pv p) i H3)
  (hd:∀ p acc H1,H p=none->H1 p=some (.lst acc)->acc.length<=xs.length->Pv p xs.length acc H1->Q (.ref p) H1):Ly k js g tt te σ J H Q:=λp hp=>
 a82 hw hp (Pv p) (λH' e h=>h0 p H' hp e h) (hG p) (λi x acc H1 h1 h2 h3 h4 h5=>hs p i x acc H1 hp h1 h2 h3 h4 h5) λacc H1 h1 h2 h3=>hd p acc H1 hp h1 h2 h3
theorem Ls {p:Addr}{n:Nat}{Pv:Nat->List V->Hp->Prop}{i:Nat}{H:Hp}{acc:List V}{y:V}(hn:n<=1000000)(hi:i<n)(hl:acc.length<=i)(e:H p=some (.lst acc))(k:∀ H',ExtBut p H H'->H' p=some (.lst (acc++[y]))->Pv (i+1) (acc++[y]) H') :
  aD6 p (CN p n Pv i) y H:=au7 hn hi hl e k
theorem a63 {J:It}{xs:List V}{G:Hp->Prop}{g:TG}{tt:TT}{te:TE}{σ:St}{H:Hp}{Q:VK}{k:Nat}{js:List Nat}(hw:Gp J xs G)(t:V->Bool)(f:V->V)(hz:xs.length<=1000000)(hG:∀ H',Same H H'->G H')
  (hs:∀(i:Nat) x H1 (R:VK) (R':Hp->Prop),xs[i]? = some x->Same H H1->(t x=true->R (f x) H1)->(t x=false->R' H1)->g x (List.replicate k none++Pg σ js) H1 fun σ2 H2=>tt σ2 H2 λb H3=>if b=true then te σ2 H3 R else R' H3)
  (hd:∀ p H',H p=none->Same H H'->H' p=some (.lst ((xs.filter t).map f))->Q (.ref p) H'):Ly k js g tt te σ J H Q:=by
 refine J4 hw (λp i acc H1=>Same H H1/\acc=((xs.take i).filter t).map f) (λp H' hp e h=>⟨e,by simp⟩) (λp i acc H1 h=>hG H1 h.1) (λp i x acc H1 hp hx hi hl ha ⟨e,hacc⟩=>?_) λp acc H1 hp ha hl ⟨e,hacc⟩=>?_
 . have ht:xs.take (i+1)=xs.take i++[x]:=by rw[A0Y,hx];rfl
   refine hs i x H1 _ _ hx e (λh=>?_) λh=>?_
   . refine Ls hz hi hl ha λH' e' h'=>⟨λb o hb=>e' b o (ne_of_none hb hp) (e b o hb),?_⟩;rw[ht,A1N,A0M,hacc];simp[h]
   refine Nq hi hl ha ⟨e,?_⟩;rw[ht,A1N,A0M,hacc];simp[h]
 refine hd p H1 hp e ?_;rw[ha,hacc,A13]
theorem au6 {z:Str}{i:Nat}{v:V}(h:(z.cps.toList.map λc=>V.str ⟨#[c]⟩)[i]? = some v):∃ c,v = .str ⟨#[c]⟩/\c∈z.cps.toList:=by
 rw[A09] at h
 cases e:z.cps.toList[i]? with
 |none=>rw[e] at h;cases h
 |some c=>rw[e] at h;cases h;exact⟨c,rfl,A05 e⟩
theorem Ib {α:Type}(xs:List α):xs.filter (λ_=>true)=xs:=by simp
theorem Ko {J:It}{xs:List V}{G:Hp->Prop}{g:TG}{te:TE}{σ:St}{H:Hp}{Q:VK}{k:Nat}{js:List Nat}(hw:Gp J xs G)(f:V->V)(hz:xs.length<=1000000)(hG:∀ H',Same H H'->G H')
  (hs:∀(i:Nat) x H1 (R:VK),xs[i]? = some x->Same H H1->R (f x) H1->g x (List.replicate k none++Pg σ js) H1 fun σ2 H2=>te σ2 H2 R)
  (hd:∀ p H',H p=none->Same H H'->H' p=some (.lst (xs.map f))->Q (.ref p) H'):Ly k js g aa1 te σ J H Q:=
 a63 hw (λ_=>true) f hz hG (λi x H1 R R' hx e h _=>by
  have:=hs i x H1 R hx e (h rfl);show g x _ H1 fun σ2 H2=>if true=true then te σ2 H2 R else R' H2
  simpa using this) λp H' hp e h=>hd p H' hp e (by rw[h,Ib])
theorem Ie {J:It}{xs:List V}{G:Hp->Prop}{g:TG}{tb:TS}{D:Ends}{σ:St}{H:Hp}(hw:Gp J xs G)(Pv:Nat->St->Hp->Prop)(h0:Pv 0 σ H)(hG:∀ i σ H,Pv i σ H->G H)
  (hs:∀ i x σ H,xs[i]? = some x->i<xs.length->Pv i σ H->g x σ H fun σ2 H2=>tb {D with nx:=Pv (i+1),ct:=Pv (i+1),bk:=D.nx} σ2 H2) (hd:∀ σ H,Pv xs.length σ H->D.nx σ H):ar8 g tb D σ J H:=
 al3 hw Pv h0 hG (λi x σ H hx=>hs i x σ H hx (A03.mp hx).1) hd
section
variable {X:Cx}{K:W.Frag}
theorem Am (hK:X.K=K:=by ac_nf):OpR X (binaryOp .Add) (Yz K):=hK ▸ aw8
theorem Et (hq:QA X.A)(hK:X.K=K:=by ac_nf):OpR X (compareOp .Eq) (aN9 K):=hK ▸ aI5 hq
theorem Fj (hq:QA X.A)(hK:X.K=K:=by ac_nf):OpR X (compareOp .NotEq) (aN5 K):=hK ▸ aJ4 hq
theorem Gm (hq:QA X.A)(hK:X.K=K:=by ac_nf):OpR X (compareOp .In) (Z7 K false):=hK ▸ aK5 hq
theorem Il (hq:QA X.A)(hK:X.K=K:=by ac_nf):OpR X (compareOp .NotIn) (Z7 K true):=hK ▸ a76 hq
theorem A4 (hu:X.A.units+1<cLine)(hK:X.K=K:=by ac_nf):IxR X (Vd K):=hK ▸ aE2 hu
theorem Ve (hK:X.K=K:=by ac_nf):SlR X (aE7 K):=hK ▸ sl_A
theorem At (hK:X.K=K:=by ac_nf):CallR X (.builtin "len") (Sr K):=hK ▸ ac3
theorem Fk (hK:X.K=K:=by ac_nf):CallR X (.builtin "isinstance") (Rb K):=hK ▸ Ue
theorem L8 (hK:X.K=K:=by ac_nf):CallR X (.type "list") (Wm K):=hK ▸ Z1
theorem B3 (hK:X.K=K:=by ac_nf):CallR X (.type "tuple") (Nn K):=hK ▸ Wh
theorem Tq (hc:X.calm=true)(hK:X.K=K:=by ac_nf):CallR X (.builtin "all") (au0 K):=hK ▸ Zt hc
theorem Pf (hc:X.calm=true)(hK:X.K=K:=by ac_nf):CallR X (.builtin "any") (aA1 K):=hK ▸ a58 hc
theorem Av {tg:Expr}(hu:X.A.units+1<cLine){l:Expr}{tl:TE}(hl:PE X l tl)(hK:X.K=K:=by ac_nf):PI X tg l (aR3 K tl):=hK ▸ aI7 hu hl
theorem K4 {es:List Expr}{k:Nat}{t:TGs}{n:Nat}{pos:Pos}(hc:X.calm=true)(h:PGs X es t)(hK:X.K=K:=by ac_nf)
  (hn:(assignEach es X.env).length=n:=by ac_nf) (hst:(assignEach es X.env).findIdx? (·.1)=none:=by ac_nf):PG X (.Tuple es k pos) (al0 K n t):=hK ▸ aD8 hc h hn hst
variable {o e:Expr}{es:List Expr}{to:TE}{t:TA}{name:Str}{apos cpos:Pos}{T id:String}{r:V->List V->Hp->VK->Prop}
theorem au9 (pa:PlainAttrs T)(slot:Slot T name id)(hty:typeOf (.builtin id)=pure (.type "method_descriptor"))(hm:MtR X id r)(ho:PE X o to)(hK:X.K=K:=by ac_nf)
  (hbase:attributeBase o name X.env (eval o X.env)=eval o X.env:=by ac_nf) (hline:(apos.endLine==cpos.line)=true:=by ac_nf):PE X (.Call (.Attribute o name apos) [] [] cpos) (aO4 K T r to):=hK ▸ aE1 pa slot hty hm ho hbase hline
theorem G6 (pa:PlainAttrs T)(slot:Slot T name id)(hty:typeOf (.builtin id)=pure (.type "method_descriptor"))(hm:MtR X id r)(ho:PE X o to)(ha:PA X (e :: es) t)(hK:X.K=K:=by ac_nf)
  (hbase:attributeBase o name X.env (eval o X.env)=eval o X.env:=by ac_nf)
  (hfew:((backTo cpos (starEach (e :: es) X.env)).all (λx=>!x.1)&&(backToKw cpos (keywordEach [] X.env)).all (λx=>x.1.isSome)
   && decide ((e :: es).length+([]:List Keyword).length+(if([]:List Keyword).isEmpty then 0 else 1)<30))=true:=by ac_nf)
  (hline:(apos.endLine==cpos.line)=true:=by ac_nf) (hs:starEach (e :: es) X.env=(false,eval e X.env) :: starEach es X.env:=by ac_nf) (hplain:(backTo cpos (starEach es X.env)).any (·.1)=false:=by ac_nf) :
  PE X (.Call (.Attribute o name apos) (e :: es) [] cpos) (tBM K T r to t):=hK ▸ aP6 pa slot hty hm ho ha hbase hfew hline hs hplain
end
def Fz (H H':Hp):Prop:=∀ a xs,Rd H a (.tup xs)->Rd H' a (.tup xs)
theorem Fz.refl (H:Hp):Fz H H:=λ_ _ h=>h
theorem Fz.trans {H H1 H2:Hp}(a:Fz H H1)(b:Fz H1 H2):Fz H H2:=λc xs h=>b c xs (a c xs h)
theorem Same.fz {H H':Hp}(e:Same H H'):Fz H H':=λa xs h=>by
 rcases h with h|⟨o,h⟩
 . exact .inl (e _ _ h)
 exact .inr ⟨o,e _ _ h⟩
theorem ad9 {p:Addr}{H H':Hp}(e:ExtBut p H H')(hp:∀ xs,¬ Rd H p (.tup xs)):Fz H H':=λa xs h=>by
 have n:a≠p:=λq=>hp xs (q ▸ h);rcases h with h|⟨o,h⟩
 . exact .inl (e _ _ n h)
 exact .inr ⟨o,e _ _ n h⟩
theorem ExtBut.fzL {p:Addr}{H H':Hp}{l:List V}(e:ExtBut p H H')(hp:H p=some (.lst l)):Fz H H':=ad9 e λxs h=>by
 rcases h with h|⟨o,h⟩
 . rw[hp] at h;cases h
 rw[hp] at h;cases h
theorem ExtBut.fzD {p:Addr}{H H':Hp}{l:List (Key×V)}(e:ExtBut p H H')(hp:H p=some (.dK l)):Fz H H':=ad9 e λxs h=>by
 rcases h with h|⟨o,h⟩
 . rw[hp] at h;cases h
 rw[hp] at h;cases h
theorem Fz.seq {K:W.Frag}{H H':Hp}(e:Fz H H'){a:Addr}{xs:List V}(h:SqT K H a xs):SqT K H' a xs:=by
 rcases h with h|h
 . exact .inl (e _ _ h)
 exact .inr h
mutual
def frz:PyData->Bool
 |.tuple ds=>Zh ds
 |.list _=>false
 |.dict _=>false
 |_=>true
def Zh:List PyData->Bool
 | []=>true
 |d :: ds=>frz d&&Zh ds
end
mutual
theorem Is.fz {K:W.Frag}{H H':Hp}(e:Fz H H'):∀(d:PyData) (v:V),frz d=true->Is K H d v->Is K H' d v
 |.none,_,_,h=>by simp only[Is] at h ⊢;exact h
 |.bool _,_,_,h=>by simp only[Is] at h ⊢;exact h
 |.int _,_,_,h=>by simp only[Is] at h ⊢;exact h
 |.str _,_,_,h=>by simp only[Is] at h ⊢;exact h
 |.list ds,v,hf,_=>by simp[frz] at hf
 |.tuple ds,v,hf,h=>by simp only[Is] at h ⊢;obtain⟨a,xs,e1,e2,e3⟩:=h;exact⟨a,xs,e1,e.seq e2,IsL.fz e ds xs (by simpa only[frz] using hf) e3⟩
 |.dict _,_,_,h=>by simp only[Is] at h
theorem IsL.fz {K:W.Frag}{H H':Hp}(e:Fz H H'):∀(ds:List PyData) (vs:List V),Zh ds=true->IsL K H ds vs->IsL K H' ds vs
 | [],_,_,h=>by simp only[IsL] at h ⊢;exact h
 |d :: ds,vs,hf,h=>by simp only[IsL] at h ⊢;simp only[Zh,Bool.and_eq_true] at hf;obtain⟨v,r,e1,e2,e3⟩:=h;exact⟨v,r,e1,Is.fz e d v hf.1 e2,IsL.fz e ds r hf.2 e3⟩
end
section
variable {K:W.Frag}{H H':Hp}
theorem IsL.length:∀ {ds:List PyData} {vs:List V},IsL K H ds vs->ds.length=vs.length
 | [],_,h=>by simp only[IsL] at h;subst h;rfl
 |d :: ds,vs,h=>by simp only[IsL] at h;obtain⟨v,r,rfl,_,e3⟩:=h;simp only[List.length_cons,IsL.length e3]
theorem IsL.get:∀ {ds:List PyData} {vs:List V} {i:Nat} {x:V},IsL K H ds vs->vs[i]? = some x->∃ d,ds[i]? = some d/\Is K H d x
 | [],_,_,_,h,e=>by simp only[IsL] at h;subst h;simp at e
 |d :: ds,vs,i,x,h,e=>by
   simp only[IsL] at h;obtain⟨v,r,rfl,e2,e3⟩:=h
   cases i with
   |zero=>simp at e;subst e;exact⟨d,rfl,e2⟩
   |succ i=>obtain⟨d',h1,h2⟩:=IsL.get (i:=i) e3 (by simpa using e);exact⟨d',by simpa using h1,h2⟩
theorem IsL.append:∀ {ds es:List PyData} {vs us:List V},IsL K H ds vs->IsL K H es us->IsL K H (ds++es) (vs++us)
 | [],_,_,_,h,g=>by simp only[IsL] at h;subst h;exact g
 |d :: ds,es,vs,us,h,g=>by simp only[IsL] at h;obtain⟨v,r,rfl,e2,e3⟩:=h;simp only[List.cons_append,IsL];exact⟨v,_,rfl,e2,IsL.append e3 g⟩
theorem IsL.one {d:PyData}{v:V}(h:Is K H d v):IsL K H [d] [v]:=by simp only[IsL];exact⟨v,[],rfl,h,rfl⟩
theorem IsL.nil:IsL K H [] []:=by simp only[IsL]
theorem IsL.cons {d:PyData} {v:V} {ds:List PyData} {vs:List V} (h:Is K H d v) (g:IsL K H ds vs):IsL K H (d :: ds) (v :: vs):=by simp only[IsL];exact⟨v,vs,rfl,h,g⟩
theorem IsL.take:∀ {ds:List PyData} {vs:List V} (n:Nat),IsL K H ds vs->IsL K H (ds.take n) (vs.take n)
 |ds,vs,0,h=>by simp only[List.take_zero];exact .nil
 | [],vs,n+1,h=>by simp only[IsL] at h;subst h;exact .nil
 |d :: ds,vs,n+1,h=>by simp only[IsL] at h;obtain⟨v,r,rfl,e2,e3⟩:=h;exact .cons e2 (IsL.take n e3)
theorem IsL.drop:∀ {ds:List PyData} {vs:List V} (n:Nat),IsL K H ds vs->IsL K H (ds.drop n) (vs.drop n)
 |ds,vs,0,h=>h
 | [],vs,n+1,h=>by simp only[IsL] at h;subst h;exact .nil
 |d :: ds,vs,n+1,h=>by simp only[IsL] at h;obtain⟨v,r,rfl,e2,e3⟩:=h;exact IsL.drop n e3
theorem IsL.str_eq:∀ {ns:List Str} {vs:List V},IsL K H (ns.map PyData.str) vs->vs=ns.map V.str
 | [],vs,h=>by simp only[List.map_nil,IsL] at h;exact h
 |n :: ns,vs,h=>by simp only[List.map_cons,IsL,Is] at h;obtain⟨v,r,rfl,rfl,e3⟩:=h;rw[IsL.str_eq e3];rfl
theorem Is.tup {ds:List PyData}{v:V}(h:Is K H (.tuple ds) v):∃ a xs,v = .ref a/\SqT K H a xs/\IsL K H ds xs:=by simpa only[Is] using h
theorem Is.of_tup {ds:List PyData}{a:Addr}{xs:List V}(h:SqT K H a xs)(g:IsL K H ds xs):Is K H (.tuple ds) (.ref a):=by simp only[Is];exact⟨a,xs,rfl,h,g⟩
theorem Is.of_lst {ds:List PyData}{a:Addr}{xs:List V}(h:SqL K H a xs)(g:IsL K H ds xs):Is K H (.list ds) (.ref a):=by simp only[Is];exact⟨a,xs,rfl,h,g⟩
theorem Is.str {z:Str}{v:V}(h:Is K H (.str z) v):v = .str z:=by simpa only[Is] using h
theorem Os {z:Str}:Is K H (.str z) (.str z):=by simp only[Is]
theorem ap7 {z:Int}:Is K H (.int z) (.int z):=by simp only[Is]
theorem ay0 {z:Bool}:Is K H (.bool z) (.bl z):=by simp only[Is]
end
def nmD (ns:List Str):PyData:=.tuple (ns.map PyData.str)
def prD (p:Str×Str):PyData:=.tuple [.str p.1,.str p.2]
def psD (ps:List (Str×Str)):PyData:=.tuple (ps.map prD)
def hfD (ns:List Str)(ps:List (Str×Str)):PyData:=.tuple [nmD ns,psD ps]
theorem Nk:∀ ns:List Str,Zh (ns.map PyData.str)=true
 | []=>rfl
 |n :: ns=>by simp only[List.map_cons,Zh,frz,Nk ns,Bool.and_self]
theorem ao5 (ns:List Str):frz (nmD ns)=true:=by simp only[nmD,frz,Nk]
theorem G7 (p:Str×Str):frz (prD p)=true:=by simp[prD,frz,Zh]
theorem Cf:∀ ps:List (Str×Str),Zh (ps.map prD)=true
 | []=>rfl
 |n :: ns=>by simp only[List.map_cons,Zh,G7,Cf ns,Bool.and_self]
theorem aq5 (ps:List (Str×Str)):frz (psD ps)=true:=by simp only[psD,frz,Cf]
theorem aM0 (ns:List Str)(ps:List (Str×Str)):frz (hfD ns ps)=true:=by simp only[hfD,frz,Zh,ao5,aq5,Bool.and_self]
section
variable {K:W.Frag}{H H':Hp}
theorem Is.nm {ns:List Str}{v:V}(h:Is K H (nmD ns) v):∃ a,v = .ref a/\SqT K H a (ns.map V.str):=by obtain⟨a,xs,rfl,h1,h2⟩:=Is.tup h;exact⟨a,rfl,by rw[<- IsL.str_eq h2];exact h1⟩
theorem R0 {ns:List Str}{a:Addr}(h:SqT K H a (ns.map V.str)):Is K H (nmD ns) (.ref a):=Is.of_tup h (Op ns)
theorem Is.pr {p:Str×Str}{v:V}(h:Is K H (prD p) v):∃ a,v = .ref a/\SqT K H a [.str p.1,.str p.2]:=by obtain⟨a,xs,rfl,h1,h2⟩:=Is.tup h;simp only[IsL,Is] at h2;obtain⟨_,_,rfl,rfl,_,_,rfl,rfl,rfl⟩:=h2;exact⟨a,rfl,h1⟩
theorem Pd {x y:Str}{a:Addr}(h:SqT K H a [.str x,.str y]):Is K H (prD (x,y)) (.ref a):=Is.of_tup h (.cons Os (.one Os))
theorem Is.hf {ns:List Str}{ps:List (Str×Str)}{v:V}(h:Is K H (hfD ns ps) v):∃ a x y,v = .ref a/\SqT K H a [x,y]/\Is K H (nmD ns) x/\Is K H (psD ps) y:=by obtain⟨a,xs,rfl,h1,h2⟩:=Is.tup h;simp only[IsL] at h2;obtain⟨x,_,rfl,hx,y,_,rfl,hy,rfl⟩:=h2;exact⟨a,x,y,rfl,h1,hx,hy⟩
theorem Yb {ns:List Str}{ps:List (Str×Str)}{a:Addr}{x y:V}(h:SqT K H a [x,y])(hx:Is K H (nmD ns) x)(hy:Is K H (psD ps) y):Is K H (hfD ns ps) (.ref a):=Is.of_tup h (.cons hx (.one hy))
theorem Is.nm_fz {ns:List Str}{v:V}(h:Is K H (nmD ns) v)(e:Fz H H'):Is K H' (nmD ns) v:=Is.fz e _ _ (ao5 ns) h
theorem Is.pr_fz {p:Str×Str}{v:V}(h:Is K H (prD p) v)(e:Fz H H'):Is K H' (prD p) v:=Is.fz e _ _ (G7 p) h
theorem Is.ps_fz {ps:List (Str×Str)}{v:V}(h:Is K H (psD ps) v)(e:Fz H H'):Is K H' (psD ps) v:=Is.fz e _ _ (aq5 ps) h
theorem Is.hf_fz {ns:List Str}{ps:List (Str×Str)}{v:V}(h:Is K H (hfD ns ps) v)(e:Fz H H'):Is K H' (hfD ns ps) v:=Is.fz e _ _ (aM0 ns ps) h
variable {σ:St}{Q:VK}{x v:V}{i:Int}
theorem Y9 {a:Addr}{xs:List V}(h:SqT K H a xs)(e:atI xs i=some v)(k:Q v H):Vd K (.ref a) (.int i) H Q:=.inl (.inr (.inl ⟨a,xs,i,v,rfl,rfl,h,e,k⟩))
theorem aQ1 {ns:List Str}{z:Str}(h:Is K H (nmD ns) x)(e:atI ns i=some z)(k:Q (.str z) H):Vd K x (.int i) H Q:=by
 obtain⟨a,rfl,h1⟩:=h.nm;refine Y9 h1 ?_ k;unfold atI at e ⊢;rw[A01]
 cases hj:ixN ns.length i with
 |none=>rw[hj] at e;cases e
 |some j=>rw[hj] at e;show(ns.map V.str)[j]? = _;rw[A09,show ns[j]? = some z from e];rfl
theorem B7 {ns:List Str}{ps:List (Str×Str)}(h:Is K H (hfD ns ps) x)(k:∀ v,Is K H (nmD ns) v->Q v H):Vd K x (.int 0) H Q:=by obtain⟨a,u,w,rfl,h1,h2,h3⟩:=h.hf;exact Y9 h1 rfl (k u h2)
theorem Fh {ns:List Str}{ps:List (Str×Str)}(h:Is K H (hfD ns ps) x)(k:∀ v,Is K H (psD ps) v->Q v H):Vd K x (.int 1) H Q:=by obtain⟨a,u,w,rfl,h1,h2,h3⟩:=h.hf;exact Y9 h1 rfl (k w h3)
theorem Lr {p:Str×Str}(h:Is K H (prD p) x)(k:Q (.str p.1) H):Vd K x (.int 0) H Q:=by obtain⟨a,rfl,h1⟩:=h.pr;exact Y9 h1 rfl k
theorem Jx {p:Str×Str}(h:Is K H (prD p) x)(k:Q (.str p.2) H):Vd K x (.int 1) H Q:=by obtain⟨a,rfl,h1⟩:=h.pr;exact Y9 h1 rfl k
theorem Xt {ds:List PyData}(h:Is K H (.tuple ds) x)(k:Q (.int ds.length) H):Sr K [x] H Q:=by obtain⟨a,xs,rfl,h1,h2⟩:=h.tup;rw[IsL.length h2] at k;exact .inl ⟨.ref a,_,rfl,.inr ⟨xs,h1,rfl⟩,k⟩
theorem Jt {ns:List Str}(h:Is K H (nmD ns) x)(k:Q (.int ns.length) H):Sr K [x] H Q:=Xt h (by rw[A01];exact k)
theorem ao9 {ps:List (Str×Str)}(h:Is K H (psD ps) x)(k:Q (.int ps.length) H):Sr K [x] H Q:=Xt h (by rw[A01];exact k)
theorem Ms (ns:List Str):(ns.map V.str).all Sm=true:=by rw[A2K];intro v h;obtain ⟨n,_,rfl⟩:=A0A.mp h;rfl
theorem Ml (z:Str):∀ ns:List Str,inV (.str z) (ns.map V.str)=decide (z∈ns)
 | []=>rfl
 |n :: ns=>by
   have ih:=Ml z ns;unfold inV at ih ⊢;rw[A0R,A2M,ih]
   have e:eqV (V.str n) (V.str z)=decide (n=z):=by
    show(n==z)=_
    by_cases h:n=z<;>simp[h]
   rw[e]
   by_cases h:n=z
   . subst h;simp
   have h':¬ z=n:=λq=>h q.symm
   by_cases g:z∈ns<;>simp[h,h',g]
theorem Vu {ns:List Str}{z:Str}(h:Is K H (nmD ns) x)(k:Q (.bl (decide (z∈ns))) H):Z7 K false (.str z) x H Q:=by obtain⟨a,rfl,h1⟩:=h.nm;exact .inl ⟨a,_,rfl,.inr h1,rfl,Ms ns,by rw[Ml];exact k⟩
theorem aJ8 {ns:List Str}{z:Str}{a:Addr}(h:SqL K H a (ns.map V.str))(k:Q (.bl (decide (z∈ns))) H):Z7 K false (.str z) (.ref a) H Q:=
 .inl ⟨a,_,rfl,.inl h,rfl,Ms ns,by rw[Ml];exact k⟩
theorem aF4 {ns:List Str}{z:Str}(h:Is K H (nmD ns) x)(k:Q (.bl (!decide (z∈ns))) H):Z7 K true (.str z) x H Q:=by obtain⟨a,rfl,h1⟩:=h.nm;exact .inl ⟨a,_,rfl,.inr h1,rfl,Ms ns,by rw[Ml];exact k⟩
theorem aA0 {p:Str×Str}{n m:Nat}{R:St->Hp->Prop}(h:Is K H (prD p) x)(k:R ((σ.set n (some (.str p.1))).set m (some (.str p.2))) H):al0 K 2 (Ke (Ht n) (Ke (Ht m) ao1)) x σ H R:=by obtain⟨a,rfl,h1⟩:=h.pr;exact⟨a,_,rfl,h1,rfl,.str p.1,[.str p.2],rfl,.str p.2,[],rfl,rfl,k⟩
theorem aH4 {a:Addr}{u w:V}{n m:Nat}{R:St->Hp->Prop}(h:SqT K H a [u,w])(k:R ((σ.set n (some u)).set m (some w)) H):al0 K 2 (Ke (Ht n) (Ke (Ht m) ao1)) (.ref a) σ H R:=
 ⟨a,_,rfl,h,rfl,u,[w],rfl,w,[],rfl,rfl,k⟩
theorem ar4 {ds:List PyData}{g:TG}{tb:TS}{D:Ends}(h:Is K H (.tuple ds) x)(hf:Zh ds=true)(Pv:Nat->St->Hp->Prop)(h0:Pv 0 σ H)(hG:∀ i σ' H',Pv i σ' H'->Fz H H')
  (hs:∀ i d v σ' H',ds[i]? = some d->Is K H' d v->Pv i σ' H'->g v σ' H' fun σ2 H2=>tb {D with nx:=Pv (i+1),ct:=Pv (i+1),bk:=D.nx} σ2 H2) (hd:∀ σ' H',Pv ds.length σ' H'->D.nx σ' H') :
  Gb K x H λJ H1=>ar8 g tb D σ J H1:=by
 obtain⟨a,xs,rfl,h1,h2⟩:=h.tup;refine Wf h1 (Ie Ia Pv h0 (λi σ' H' p=>(hG i σ' H' p).seq h1) (λi v σ' H' hx hi p=>?_) fun σ' H' p=>hd σ' H' (by rw[IsL.length h2];exact p));obtain⟨d,e1,e2⟩:=IsL.get (IsL.fz (hG i σ' H' p) ds xs hf h2) hx;exact hs i d v σ' H' e1 e2 p
theorem Od {ns:List Str}{g:TG}{tb:TS}{D:Ends}(h:Is K H (nmD ns) x)(Pv:Nat->St->Hp->Prop)(h0:Pv 0 σ H)(hG:∀ i σ' H',Pv i σ' H'->Fz H H')
  (hs:∀ i z σ' H',ns[i]? = some z->Pv i σ' H'->g (.str z) σ' H' fun σ2 H2=>tb {D with nx:=Pv (i+1),ct:=Pv (i+1),bk:=D.nx} σ2 H2) (hd:∀ σ' H',Pv ns.length σ' H'->D.nx σ' H') :
  Gb K x H λJ H1=>ar8 g tb D σ J H1:=
 ar4 h (Nk ns) Pv h0 hG (λi d v σ' H' e h p=>by
  rw[A09] at e
  cases hn:ns[i]? with
  |none=>rw[hn] at e;cases e
  |some z=>
    rw[hn] at e
    cases e;rw[h.str];exact hs i z σ' H' hn p) fun σ' H' p=>hd σ' H' (by rw[A01] at p;exact p)
theorem aq2 {ps:List (Str×Str)}{g:TG}{tb:TS}{D:Ends}(h:Is K H (psD ps) x)(Pv:Nat->St->Hp->Prop)(h0:Pv 0 σ H)(hG:∀ i σ' H',Pv i σ' H'->Fz H H')
  (hs:∀ i p v σ' H',ps[i]? = some p->Is K H' (prD p) v->Pv i σ' H'->g v σ' H' fun σ2 H2=>tb {D with nx:=Pv (i+1),ct:=Pv (i+1),bk:=D.nx} σ2 H2) (hd:∀ σ' H',Pv ps.length σ' H'->D.nx σ' H') :
  Gb K x H λJ H1=>ar8 g tb D σ J H1:=
 ar4 h (Cf ps) Pv h0 hG (λi d v σ' H' e h p=>by
  rw[A09] at e
  cases hn:ps[i]? with
  |none=>rw[hn] at e;cases e
  |some z=>
    rw[hn] at e
    cases e;exact hs i z v σ' H' hn h p) fun σ' H' p=>hd σ' H' (by rw[A01] at p;exact p)
theorem Gi {α:Type}(f:α->PyData)(hf:∀ a,frz (f a)=true):∀ xs:List α,Zh (xs.map f)=true
 | []=>rfl
 |x :: xs=>by simp only[List.map_cons,Zh,hf,Gi f hf xs,Bool.and_self]
theorem Jc {α:Type}{J:It}{xs:List V}{G:Hp->Prop}{g:TG}{tt:TT}{te:TE}{Q:VK}{k:Nat}{js:List Nat}(hw:Gp J xs G)(as:List α)(hl:as.length=xs.length)(t:α->Bool)(f:α->PyData)(hf:∀ a,frz (f a)=true)(hz:xs.length<=1000000)(hG:∀ H',Same H H'->G H')
  (hs:∀(i:Nat) a v H1 (R:VK) (R':Hp->Prop),as[i]? = some a->xs[i]? = some v->Same H H1->(t a=true->∀ y H2,Same H1 H2->Is K H2 (f a) y->R y H2)->(t a=false->∀ H2,Same H1 H2->R' H2) ->
   g v (List.replicate k none++Pg σ js) H1 fun σ2 H2=>tt σ2 H2 λb H3=>if b=true then te σ2 H3 R else R' H3)
  (hd:∀ p ys H',H p=none->Same H H'->H' p=some (.lst ys)->IsL K H' ((as.filter t).map f) ys->Q (.ref p) H'):Ly k js g tt te σ J H Q:=by
 refine J4 hw (λp i acc H1=>Same H H1/\IsL K H1 (((as.take i).filter t).map f) acc) (λp H' hp e h=>⟨e,by simp only[List.take_zero,List.filter_nil,List.map_nil];exact .nil⟩) (λp i acc H1 h=>hG H1 h.1) (λp i x acc H1 hp hx hi hl1 ha ⟨e,hacc⟩=>?_) λp acc H1 hp ha hl1 ⟨e,hacc⟩=>?_
 . have hi':i<as.length:=by omega
   obtain⟨a,hai⟩:∃ a,as[i]? = some a:=⟨as[i],A04 hi'⟩;have ht:as.take (i+1)=as.take i++[a]:=by rw[A0Y,hai];rfl
   refine hs i a x H1 _ _ hai hx e (λh y H2 e2 hy=>?_) λh H2 e2=>?_
   . refine Ls hz hi hl1 (e2 _ _ ha) λH' e' h'=>⟨λb o hb=>e' b o (ne_of_none hb hp) (e2 _ _ (e b o hb)),?_⟩;rw[ht,A1N,A0M];have fz:=e'.fzL (e2 _ _ ha);refine IsL.append (IsL.fz (e2.fz.trans fz) _ _ (Gi f hf _) hacc) ?_;simp only[List.filter_cons,h,if_true,List.filter_nil,List.map_cons,List.map_nil];exact .one (Is.fz fz _ _ (hf a) hy)
   refine Nq hi hl1 (e2 _ _ ha) ⟨e.trans e2,?_⟩;rw[ht,A1N,A0M];simp only[List.filter_cons,h,Bool.false_eq_true,if_false,List.filter_nil,List.map_nil,List.append_nil];exact IsL.mono e2 _ _ hacc
 refine hd p acc H1 hp e ha ?_;rw[<- hl,A13] at hacc;exact hacc
end
section
variable {X:Cx}{K:W.Frag}
def Xy (z:Str)(n:Nat):Str:=⟨(List.replicate n z.cps).foldl (· ++ ·) #[]⟩
def aK7:R2:=λx y H Q=>∃ z n,x = .str z/\y = .int n/\2<=n/\n<=1000/\z.length<=1000/\0<z.length/\Q (.str (Xy z n.toNat)) H
theorem av8:OpR X (binaryOp .Mult) aK7:=by
 intro pins s σ H x y v u Q I rx ry h;obtain⟨z,n,rfl,rfl,h1,h2,h3,h4,q⟩:=h;obtain⟨t,rfl⟩:=rx;obtain⟨t2,rfl⟩:=ry;have a1:¬ n<1:=by omega
 have a2:(n==1||z.length==0)=false:=by
  have e1:(n==1)=false:=by simp;omega
  have e2:(z.length==0)=false:=by simp;omega
  rw[e1,e2];rfl
 have hz:z.length*n.toNat<=1000000:=by have:z.length*n.toNat<=1000*1000:=A2P h3 nofun;omega
 have hlen:(Xy z n.toNat).length<=sizeLine:=by
  have e:∀(m:Nat) (a:Array Nat),((List.replicate m z.cps).foldl (· ++ ·) a).size=a.size+m*z.cps.size:=by
   intro m
   induction m with
   |zero=>intro a;simp
   |succ m ih=>intro a;rw[A33,A4Y,ih,Array.size_append,Nat.succ_mul];omega
  show((List.replicate n.toNat z.cps).foldl (· ++ ·) #[]).size<=sizeLine;rw[e];have e2:z.cps.size=z.length:=rfl;rw[e2,A1G,A3X];simp;omega
 refine PySem.P.mul_str (by
   have b1:¬ n < -(2 ^ 63:Int):=by omega
   have b2:¬ n>=2 ^ 63:=by omega
   rw[A0P b1,A0P b2];rfl) (λ_ _=>?_) (λ_ _=>?_) ?_
 . have:(2 ^ 63-1:Int) / n>=1000:=by
    refine Int.le_ediv_of_mul_le nofun ?_;have:1000*n<=1000*1000:=by omega
    omega
   omega
 . have hz2:z.length*n.toNat<=sizeLine:=Af hz;rw[A1G] at hz2;unfold Builtin.Str.tooLong;simp[sizeLine_eq];omega
 rw[A10 a1,a2,A10 A0K];exact⟨hlen,.str _,H,I.kept λ_ _ e=>e,⟨_,rfl⟩,q⟩
def am7:R2:=λx y H Q=>ai8 x y H Q\/aK7 x y H Q
theorem By:OpR X (binaryOp .Mult) am7:=op_mulA.or av8
theorem i_mulBI {i j:Int}{H:Hp}{Q:VK}(h:CMul i j)(k:Q (.int (i*j)) H):am7 (.int i) (.int j) H Q:=.inl (aH2 h k)
theorem ay8 {z:Str}{n:Int}{H:Hp}{Q:VK}(h:2<=n/\n<=1000/\z.length<=1000/\0<z.length)(k:Q (.str (Xy z n.toNat)) H):am7 (.str z) (.int n) H Q:=.inr ⟨z,n,rfl,rfl,h.1,h.2.1,h.2.2.1,h.2.2.2,k⟩
theorem aA2 {i:Int}{H:Hp}{Q:VK}{a:Addr}{xs:List V}(h1:H a=some (.lst xs))(h2:-(2 ^ 63)<=i/\i<2 ^ 63)(h3:xs.length*i.toNat<=sizeLine)(k:∀ p H',H p=none->Same H H'->H' p=some (.lst (List.replicate i.toNat xs).flatten)->Q (.ref p) H'):am7 (.ref a) (.int i) H Q:=.inl (aE5 h1 h2 h3 k)
def rIs (neg:Bool):R2:=λx y H Q=>(y = .non/\Q (.bl (if neg then !decide (x = .non) else decide (x = .non))) H)\/∃ a b,x = .bl a/\y = .bl b/\Q (.bl (if neg then !(a==b) else a==b)) H
theorem El:OpR X (compareOp .IsNot) (rIs true):=by
 intro pins s σ H x y v u Q I rx ry h;rcases h with ⟨rfl,q⟩|⟨a,b,rfl,rfl,q⟩
 . exact az5 pins s σ H x .non v u Q I rx ry ⟨rfl,q⟩
 cases rx
 cases ry;refine wpAny_isNot_plain rfl ?_;refine⟨.bl _,H,I,?_,q⟩;show Value.bool (!(Value.bool a==Value.bool b))=Value.bool (!(a==b))
 cases a<;>cases b<;>rfl
theorem i_isNotN {x:V}{H:Hp}{Q:VK}(k:Q (.bl (!decide (x = .non))) H):rIs true x .non H Q:=.inl ⟨rfl,k⟩
theorem i_isNotB {a b:Bool}{H:Hp}{Q:VK}(k:Q (.bl (!(a==b))) H):rIs true (.bl a) (.bl b) H Q:=.inr ⟨a,b,rfl,rfl,k⟩
def aQ7 (xs:List V)(i:Nat)(y:V):List V:=xs.take i++y :: xs.drop i
def a88:V->List V->Hp->VK->Prop:=λx vs H Q=>∃ l xs i y,x = .ref l/\vs=[.int i,y]/\H l=some (.lst xs)/\0<=i/\i<=xs.length/\xs.length<sizeLine/\Q .non (upd H l (.lst (aQ7 xs i.toNat y)))
theorem Tr:MtM X "list.insert" a88:=by
 intro pins s σ H x vs v us Q I rx rv h;obtain⟨l,xs,i,y,rfl,rfl,hH,h0,h1,hz,q⟩:=h
 cases rx;obtain⟨u,w,rfl,ru,rw'⟩:=Vals.two rv;obtain⟨t,rfl⟩:=ru;obtain⟨z,its,n,r,hl,e⟩:=I.lstM hH;have hlen:=r.length
 refine A45 F.slot_list_insert ⟨_,e,rfl⟩ F.entry_list_insert (F.args_list_insert_3 _ _ _)
  (AutoSeq1.list_insert_list_int_val_1 l its.toArray n i t w (by rw[fitsIndex_both nofun (by rw[A1G] at hz;omega)];decide) (by rw[A0W];omega)) ⟨e,?_⟩
 refine⟨.non,_,I.lset (its':=its.take i.toNat++w :: its.drop i.toNat) hH e ?_ ((r.take i.toNat).append (.cons rw' (r.drop i.toNat))) ?_,rfl,q⟩
 . have hi:i.toNat<=its.length:=by omega
   show(have k:=if i<0 then(i+((its.toArray.size:Nat):Int)).toNat else min i.toNat its.toArray.size;(its.toArray.extract 0 k).push w++its.toArray.extract k)=_
   rw[A10 nofun,A0W,Nat.min_eq_left hi];simp[List.extract_eq_drop_take];exact A3T (by rw[A1H];omega)
 rw[A0C,A0E,A0T,A1H];omega
section
variable {D:Ends}{σ:St}{H:Hp}{t u:TS}{te td ty tv:TE}{g:TG}
theorem Se (M:St->Hp->Prop)(h1:∀ N:St->Hp->Prop,(∀ σ' H',M σ' H'->N σ' H')->t {D with nx:=N} σ H)(h2:∀ σ' H',M σ' H'->u D σ' H'):aN7 t u D σ H:=h1 (u D) h2
end
theorem ad6 {a:Addr}{xs:List V}{H:Hp}{Q:VK}(h:SqL K H a xs\/SqT K H a xs)(k:∀ p H',H p=none->Same H H'->H' p=some (.lst xs)->Q (.ref p) H'):Wm K [.ref a] H Q:=⟨a,xs,rfl,h,λp hp=>k p _ hp (Same.upd hp) Ad⟩
theorem mm {id:String}{r:V->List V->Hp->VK->Prop}(h:MtM X id r):MtR X id r:=h
theorem i_tyLm {a:Addr}{xs:List V}{H:Hp}{B:Prop}(h:H a=some (.lst xs))(k:B):tyV K "list" (.ref a) H/\B:=⟨.inl ⟨rfl,xs,SqL.of h⟩,k⟩
theorem aF1 {l:Addr}{xs:List V}{y:V}{i:Int}{H:Hp}{Q:VK}(h:H l=some (.lst xs))(h0:0<=i)(h1:i<=xs.length)(hz:xs.length<=1000000)(k:∀ H',ExtBut l H H'->H' l=some (.lst (aQ7 xs i.toNat y))->Q .non H'):a88 (.ref l) [.int i,y] H Q:=
 ⟨l,xs,i,y,rfl,rfl,h,h0,h1,by rw[A1G];omega,k _ ExtBut.upd Ad⟩
theorem Sq {l:Addr}{xs:List V}{y:V}{H:Hp}{Q:VK}(h:H l=some (.lst xs))(hz:xs.length<=1000000)(k:∀ H',ExtBut l H H'->H' l=some (.lst (xs++[y]))->Q .non H'):Zq (.ref l) [y] H Q:=
 ⟨l,xs,y,rfl,rfl,h,by rw[A1G];omega,k _ ExtBut.upd Ad⟩
theorem Xi {l b:Addr}{xs zs:List V}{H:Hp}{Q:VK}(h:H l=some (.lst xs))(hb:H b=some (.lst zs))(hz:xs.length+zs.length<=1000000)(k:∀ H',ExtBut l H H'->H' l=some (.lst (xs++zs))->Q .non H'):ab9 (.ref l) [.ref b] H Q:=
 ⟨l,b,xs,zs,rfl,rfl,h,hb,Af hz,k _ ExtBut.upd Ad⟩
theorem Wy {l:Addr}{xs:List V}{y:V}{i:Int}{H:Hp}{Q:VK}(h:H l=some (.lst xs))(h0:0<=i)(h1:xs[i.toNat]? = some y)(k:∀ H',ExtBut l H H'->H' l=some (.lst (xs.eraseIdx i.toNat))->Q y H')(hz:xs.length<=1000000):as1 (.ref l) [.int i] H Q:=by
 have h2:=(A03.mp h1).1;refine⟨l,xs,i,i.toNat,y,rfl,rfl,h,by omega,by omega,?_,h1,k _ ExtBut.upd Ad⟩;have e:=Rh (K8 (α:=V) h1);obtain⟨j,e1,e2,e3,_⟩:=e;rw[A2F h0] at e1;rw[e1]
 have e4:seqIndex? i xs.length=some i.toNat:=by unfold seqIndex? at e1 ⊢;simp[show ¬ i<0 by omega] at e1 ⊢;omega
 rw[<- e1,e4]
def Z3 (xs:List V)(k:Int):List V:=if k=1 then xs else xs.reverse
def ab5 (K:W.Frag):V->V->Hp->VK->Prop:=λx y H Q=>∃ a xs k,x = .ref a/\y = .int k/\(k=1\/k = -1)/\SqL K H a xs/\∀ p,H p=none->Q (.ref p) (upd H p (.lst (Z3 xs k)))
theorem ai4 (items:Array Value):slicePick items none none (some 1)=items:=by have e:slicePick items none none (some 1)=slicePick items none none none:=rfl;rw[e,Ku];simp[HT.sIx];rw[show items.size=items.toList.length by simp,List.take_length]
theorem Ux {e st:Expr}{te ts:TE}{p2 pos:Pos}(he:PE X e te)(hst:PE X st ts)(hK:X.K=K:=by ac_nf):PE X (.Subscript e (.Slice none none (some st) p2) pos) (tOp (ab5 K) te ts):=by
 subst hK;intro pins s σ H Q I h;refine Subscript_ (thn (he pins s σ H _ I h) λv s1 ⟨x,H1,I1,r1,q1⟩=>?_);refine wpAny_Slice ?_;rw[evalPart_none];refine A06 (A06 ?_);rw[evalPart_some];refine thn (hst pins s1 σ H1 _ I1 q1) λu s2 ⟨y,H2,I2,r2,q2⟩=>?_;obtain⟨a,xs,k,rfl,rfl,hk,hx,q⟩:=q2
 cases r1;obtain⟨t,rfl⟩:=r2;have I4:Inv X pins σ H2 {s2 with heap:=s2.heap.push {cls:=.type "slice",data:=.fields #[.none,.none,.int k t]}}:=I2.kept (t':=s2.toks) λb ob q=>A02 _ q
 obtain⟨its,r,ht,hz⟩:=I4.list hx;have hlen:=r.length;refine tail_any (ops:=[.ref a,.ref s2.heap.objs.size]) ht.isList.typeIs slot_list_getitem.lookup ?_ ⋯;refine wpAny_getItem_list_slice ht.isList (Heap.IsSliceOf.new ..) .none .none (.int k t) (by rcases hk with rfl|rfl<;>decide) ?_ (by rw[A0W];omega)
 rcases hk with rfl|rfl
 . rw[ai4];refine⟨.ref _,_,I4.laid (t':=s2.toks) (o:=.lst (Z3 xs 1)) (λb ob q=>A02 _ q) (A0D _) ?_,rfl,q _ (I4.hok.fresh (A0D _))⟩;exact⟨hz,_,0,r,A0B _ rfl⟩
 rw[W.krv_pick];refine⟨.ref _,_,I4.laid (t':=s2.toks) (o:=.lst (Z3 xs (-1))) (λb ob q=>A02 _ q) (A0D _) ?_,rfl,q _ (I4.hok.fresh (A0D _))⟩;exact⟨by show xs.reverse.length<=_;rw[List.length_reverse];exact hz,_,0,by show Vals xs.reverse _;exact r.reverse,A0B _ rfl⟩
theorem aK9 {a:Addr}{xs:List V}{k:Int}{H:Hp}{Q:VK}(h:SqL K H a xs)(hk:k=1\/k = -1)(c:∀ p H',H p=none->Same H H'->H' p=some (.lst (Z3 xs k))->Q (.ref p) H'):ab5 K (.ref a) (.int k) H Q:=
 ⟨a,xs,k,rfl,rfl,hk,h,λp hp=>c p _ hp (Same.upd hp) Ad⟩
end
def Lq (c:Nat):Bool:=decide (97<=c)&&decide (c<=122)
def Y1 (x:Str):Bool:=decide (1<=x.length)&&decide (x.length<=8)&&x.cps.toList.all Lq
def Names (ns:List Str):Prop:=ns.Nodup/\∀ z∈ns,Y1 z=true
def LL:Str:="abcdefghijklmnopqrstuvwxyzabcdefghijklmnopqrstuvwxyz"
theorem aH8:Xy "abcdefghijklmnopqrstuvwxyz" (2:Int).toNat=LL:=by decide +kernel
def LLn:List Nat:=LL.cps.toList
theorem aI1:LL.length=52:=by decide +kernel
theorem L7:LLn.length=52:=by decide +kernel
theorem Xf:∀ c∈LLn,Lq c=true:=by decide +kernel
def txt (l:List Nat):Str:=⟨l.toArray⟩
theorem ax7 {a b:List Nat}(h:txt a=txt b):a=b:=by have:a.toArray=b.toArray:=congrArg Str.cps h;simpa using this
theorem Zl (a b:List Nat):txt a++txt b=txt (a++b):=by show(⟨a.toArray++b.toArray⟩:Str)=⟨(a++b).toArray⟩;simp
theorem Ks {l:List Nat}(h0:1<=l.length)(h1:l.length<=8)(h2:∀ c∈l,Lq c=true):Y1 (txt l)=true:=by
 unfold Y1;have e:(txt l).length=l.length:=by show l.toArray.size=_;simp
 rw[e,A0S h0,A0S h1];show(true&&true&&l.all Lq)=true;rw[A2K.mpr h2];rfl
def Po (a b:Nat):List Nat:=(LLn.drop a).take (b-a)
theorem Mf {a b:Nat}(h:a<=b)(h1:b<=52):(Po a b).length=b-a:=by unfold Po;rw[A0T,A1H,L7];omega
theorem Je {a b:Nat}:∀ c∈Po a b,Lq c=true:=λc hc=>Xf c (A2C (A1K hc))
theorem Xu {i j:Int}(h0:0<=i)(h1:i<=j)(h2:j<=52):Txt.slice LL (some i) (some j)=txt (Po i.toNat j.toNat):=by
 have e:=StrLaws.sliceText_plain (x:=LL) (i:=i) (j:=j) ⟨h0,h1,by rw[show LL.cps.toList.length=52 by decide +kernel];omega⟩;have e2:(j-i).toNat=j.toNat-i.toNat:=by omega
 rw[e2] at e;exact e
def So (i:Nat):List Nat:=(LLn.drop i).take 1
theorem ay5 {i:Int}(h0:0<=i)(h1:i<52):∃ c,atI LL.cps.toList i=some c/\(⟨#[c]⟩:Str)=txt (So i.toNat):=by
 have h2:i.toNat<LLn.length:=by rw[L7];omega
 refine⟨LLn[i.toNat],?_,?_⟩
 . have:=K8 (A04 h2);rwa[A2F h0] at this
 unfold So;rw[List.drop_eq_getElem_cons h2];rfl
theorem Ry {i:Nat}(h:i<52):(So i).length=1:=by unfold So;rw[A0T,A1H,L7];omega
theorem L1 {i:Nat}:∀ c∈So i,Lq c=true:=λc hc=>Xf c (A2C (A1K hc))
def nm0 (s:Nat):List (List Nat):=(List.range 8).map (λk=>Po s (s+1+k))++[So (s+9),So (s+10)]
def nm1 (s z a:Nat):List (List Nat):=(List.range 10).map λk=>Po s (s+a)++So (s+5*k % 26)++Po (s+a+1) (s+z)
def nm2 (s:Nat):List (List Nat):=(List.range 10).map λk=>Po (s+k) (s+k+1+3*k % 8)
theorem nd0:∀ s<26,(nm0 s).Nodup:=by decide +kernel
theorem nd2:∀ s<26,(nm2 s).Nodup:=by decide +kernel
theorem nd1':∀ s<26,((List.range 10).map λk=>So (s+5*k % 26)).Nodup:=by decide +kernel
theorem Gk {α β:Type}{f:α->β}:∀ {l:List α},l.Nodup->(∀ a∈l,∀ b∈l,f a=f b->a=b)->(l.map f).Nodup
 | [],_,_=>by simp
 |a :: l,h,hf=>by rw[A0R,A0U];rw[A0U] at h;refine⟨λhm=>?_,Gk h.2 λx hx y hy=>hf x (A0L _ hx) y (A0L _ hy)⟩;obtain⟨b,hb,e⟩:=A0A.mp hm;have:=hf b (A0L _ hb) a A12 e;subst this;exact h.1 hb
theorem Ic {α β:Type}{f:α->β}:∀ {l:List α},(l.map f).Nodup->∀ a∈l,∀ b∈l,f a=f b->a=b
 | [],_,a,ha,_,_,_=>by cases ha
 |c :: l,h,a,ha,b,hb,e=>by
   rw[A0R,A0U] at h;rcases A0F.mp ha with q|ha'
   . rcases A0F.mp hb with q'|hb'
     . rw[q,q']
     exact absurd (A0A.mpr ⟨b,hb',by rw[<- e,q]⟩) h.1
   rcases A0F.mp hb with q'|hb'
   . exact absurd (A0A.mpr ⟨a,ha',by rw[e,q']⟩) h.1
   exact Ic h.2 a ha' b hb' e
theorem Mn {l:List (List Nat)}(h:l.Nodup):(l.map txt).Nodup:=Gk h λa _ b _ e=>ax7 e
theorem nd1 {s z a:Nat}(hs:s<26):(nm1 s z a).Nodup:=by refine Gk List.nodup_range λk hk j hj e=>?_;have e1:So (s+5*k % 26)=So (s+5*j % 26):=List.append_cancel_left (List.append_cancel_right e);exact Ic (f:=λk=>So (s+5*k % 26)) (nd1' s hs) k hk j hj e1
theorem aD2 {s:Nat}(hs:s<26):Names ((nm0 s).map txt):=by
 refine⟨Mn (nd0 s hs),λz hz=>?_⟩;obtain⟨l,hl,rfl⟩:=A0A.mp hz;rcases A0I.mp hl with h|h
 . obtain⟨k,hk,rfl⟩:=A0A.mp h;have hk:=A1U.mp hk;have e:=Mf (a:=s) (b:=s+1+k) nofun nofun;exact Ks nofun nofun Je
 simp only[List.mem_cons,List.not_mem_nil,or_false] at h;rcases h with rfl|rfl
 . have e:=Ry (i:=s+9) nofun;exact Ks nofun nofun L1
 have e:=Ry (i:=s+10) nofun;exact Ks nofun nofun L1
theorem aD0 {s z a:Nat}(hs:s<26)(ha:a<z)(hz:z<=8):Names ((nm1 s z a).map txt):=by
 refine⟨Mn (nd1 hs),λy hy=>?_⟩;obtain⟨l,hl,rfl⟩:=A0A.mp hy;obtain⟨k,hk,rfl⟩:=A0A.mp hl;have hm:5*k % 26<26:=Nat.mod_lt _ ∅;have e1:=Mf (a:=s) (b:=s+a) nofun nofun;have e2:=Ry (i:=s+5*k % 26) nofun;have e3:=Mf (a:=s+a+1) (b:=s+z) nofun nofun;refine Ks (by simp only[List.length_append];omega) (by simp only[List.length_append];omega) λc hc=>?_;rcases A0I.mp hc with hc|hc
 . rcases A0I.mp hc with hc|hc
   . exact Je c hc
   exact L1 c hc
 exact Je c hc
theorem aE9 {s:Nat}(hs:s<26):Names ((nm2 s).map txt):=by refine⟨Mn (nd2 s hs),λz hz=>?_⟩;obtain⟨l,hl,rfl⟩:=A0A.mp hz;obtain⟨k,hk,rfl⟩:=A0A.mp hl;have hk:=A1U.mp hk;have hm:3*k % 8<8:=Nat.mod_lt _ ∅;have e:=Mf (a:=s+k) (b:=s+k+1+3*k % 8) nofun nofun;exact Ks nofun nofun Je
def nm3:List Str:=["names","ahead","name","a","ab","aheads","last","ask","row","end"]
theorem aD4:Names nm3:=⟨by decide +kernel,by decide +kernel⟩
theorem Names.perm {ns ms:List Str}(h:Names ns)(p:ms.Perm ns):Names ms:=⟨p.nodup_iff.mpr h.1,λz hz=>h.2 z (p.mem_iff.mp hz)⟩
theorem Names.sublist {ns ms:List Str}(h:Names ns)(p:ms.Sublist ns):Names ms:=⟨h.1.sublist p,λz hz=>h.2 z (p.subset hz)⟩
theorem Names.reverse {ns:List Str}(h:Names ns):Names ns.reverse:=h.perm (List.reverse_perm _)
theorem Names.turn {ns:List Str}(h:Names ns)(t n:Nat):Names ((ns.drop t++ns.take t).take n):=
 Names.sublist (ns:=ns.drop t++ns.take t) (h.perm (List.perm_append_comm.trans (by rw[List.take_append_drop]))) (A4K _ _)
theorem Qw {xs:List V}{t:Int}(h0:0<=t)(h1:t<=xs.length):Ph xs (some t) none=xs.drop t.toNat:=by
 have e:HT.sIx xs.length 0 (some t)=t.toNat:=by unfold HT.sIx;simp[show ¬ t<0 by omega];omega
 unfold Ph;rw[e];have e2:HT.sIx xs.length xs.length none=xs.length:=rfl;rw[e2];exact A3T (by rw[A1H];omega)
theorem Hv {xs:List V}{t:Int}(h0:0<=t):Ph xs none (some t)=xs.take t.toNat:=by
 have e:HT.sIx xs.length xs.length (some t)=min t.toNat xs.length:=by unfold HT.sIx;simp[show ¬ t<0 by omega]
 unfold Ph;rw[e];have e2:HT.sIx xs.length 0 none=0:=rfl;rw[e2,List.drop_zero,Nat.sub_zero,Nat.min_comm];rw[<- List.take_take];exact A3T (by rw[A0T];omega)
theorem Gz {lo:Int} {n i:Nat} {x:V} (h:((List.range n).map λ(i:Nat)=>V.int (lo+(i:Int)))[i]? = some x):x = .int (lo+(i:Int))/\i<n:=by
 rw[A09] at h
 cases e:(List.range n)[i]? with
 |none=>rw[e] at h;cases h
 |some j=>
   rw[e] at h
   cases h;have e1:=A03.mp e;obtain⟨h1,h2⟩:=e1;rw[A1B] at h1;rw[List.getElem_range] at h2;subst h2;exact⟨rfl,h1⟩
def fI (F:Int->V):V->V
 |.int k=>F k
 |v=>v
theorem W6 {lo:Int}{n:Nat}{F:Int->V}{G:Nat->Str}(h:∀ k<n,F (lo+(k:Int)) = .str (G k)):((List.range n).map λ(i:Nat)=>V.int (lo+(i:Int))).map (fI F)=((List.range n).map G).map V.str:=by rw[A18,A18];refine A1I λk hk=>?_;exact h k (A1U.mp hk)
theorem W9:LL.length<=sizeLine:=by rw[aI1,A1G];omega
theorem Yg {ns:List Str}(h:Names ns){k:Int}:∃ ms,Z3 (ns.map V.str) k=ms.map V.str/\Names ms/\ms.length=ns.length:=by
 unfold Z3
 split
 . exact⟨ns,rfl,h,rfl⟩
 exact⟨ns.reverse,by rw[List.map_reverse],h.reverse,List.length_reverse ..⟩
theorem ExtBut.off {d q:Addr}{H H1 H2:Hp}(e:ExtBut d H H1)(hq:H q=none)(e2:ExtBut q H1 H2):ExtBut d H H2:=λb o n h=>e2 b o (ne_of_none h hq) (e b o n h)
theorem Same.off {q:Addr}{H H1 H2:Hp}(e:Same H H1)(hq:H q=none)(e2:ExtBut q H1 H2):Same H H2:=λb o h=>e2 b o (ne_of_none h hq) (e b o h)
def Up (ls:List Str)(ps:List (Str×Str)):Prop:=∀ p∈ps,∃ i j:Nat,i<j/\ls[i]? = some p.1/\ls[j]? = some p.2
theorem Up.nil {ls:List Str}:Up ls []:=λ_ h=>by cases h
theorem Up.append {ls:List Str}{ps qs:List (Str×Str)}(h:Up ls ps)(g:Up ls qs):Up ls (ps++qs):=λp hp=>by
 rcases A0I.mp hp with hp|hp
 . exact h p hp
 exact g p hp
theorem Up.one {ls:List Str}{x y:Str}{i j:Nat}(h:i<j)(hx:ls[i]? = some x)(hy:ls[j]? = some y):Up ls [(x,y)]:=λp hp=>by
 have:p=(x,y):=by simpa using hp
 subst this;exact⟨i,j,h,hx,hy⟩
theorem Up.sub {ls:List Str}{ps qs:List (Str×Str)}(h:Up ls ps)(s:∀ p∈qs,p∈ps):Up ls qs:=λp hp=>h p (s p hp)
theorem str_at? {ls:List Str}{i:Int}(h0:0<=i)(h1:i<ls.length):∃ z,ls[i.toNat]? = some z/\atI (ls.map V.str) i=some (.str z)/\atI ls i=some z:=by
 have h2:i.toNat<ls.length:=by omega
 refine⟨ls[i.toNat],A04 h2,?_,?_⟩
 . have:=K8 (xs:=ls.map V.str) (j:=i.toNat) (v:=.str ls[i.toNat]) (by rw[A09,A04 h2];rfl);rwa[A2F h0] at this
 have:=K8 (A04 h2);rwa[A2F h0] at this
theorem Pw {α:Type}:∀(us:List α) (k:Nat) (y:α),us[k]? = some y->(y :: us.eraseIdx k).Perm us
 | [],k,y,h=>by simp at h
 |u :: us,0,y,h=>by
   have:u=y:=by simpa using h
   subst this;exact List.Perm.refl _
 |u :: us,k+1,y,h=>by have ih:=Pw us k y (by simpa using h);exact(List.Perm.swap u y _).trans (ih.cons u)
theorem ak9 {α:Type}{us:List α}{k:Nat}{y:α}(h:us[k]? = some y)(vs:List α):(vs++[y]++us.eraseIdx k).Perm (vs++us):=by rw[A4M];exact List.Perm.append_left vs (Pw us k y h)
theorem W8 {α:Type}{l:List α}{i:Nat}{x y:α}(h:l[i]? = some x):l.getD i y=x:=by rw[A3D,h];rfl
theorem af8 {α:Type}(as:List α)(f:α->Str×Str):as.map (λa=>prD (f a))=(as.map f).map prD:=by rw[A18];rfl
theorem Gn {α:Type}{l:List α}{i:Nat}{y:α}(h:i<l.length):l[i]? = some (l.getD i y):=by rw[A3D,A04 h];rfl
inductive Way (ps:List (Str×Str)):Str->Str->Prop
 |one {x y:Str}:(x,y)∈ps->Way ps x y
 |cons {x z y:Str}:(x,z)∈ps->Way ps z y->Way ps x y
theorem Way.trans {ps:List (Str×Str)}{x y z:Str}(h:Way ps x y)(g:Way ps y z):Way ps x z:=by
 induction h with
 |one e=>exact .cons e g
 |cons e _ ih=>exact .cons e (ih g)
theorem Way.snoc {ps:List (Str×Str)}{x y z:Str}(h:Way ps x y)(g:(y,z)∈ps):Way ps x z:=h.trans (.one g)
theorem Way.left {ps:List (Str×Str)}{x y:Str}(h:Way ps x y):x∈ps.map (·.1):=by
 cases h with
 |one e=>exact A0A.mpr ⟨_,e,rfl⟩
 |cons e _=>exact A0A.mpr ⟨_,e,rfl⟩
theorem Way.right {ps:List (Str×Str)}{x y:Str}(h:Way ps x y):y∈ps.map (·.2):=by
 induction h with
 |one e=>exact A0A.mpr ⟨_,e,rfl⟩
 |cons _ _ ih=>exact ih
theorem Way.mono {ps qs:List (Str×Str)}(h:∀ p∈ps,p∈qs){x y:Str}(g:Way ps x y):Way qs x y:=by
 induction g with
 |one e=>exact .one (h _ e)
 |cons e _ ih=>exact .cons (h _ e) ih
theorem Way.shut {ps:List (Str×Str)}{S:Str->Prop}{x:Str}(h0:∀ y,(x,y)∈ps->S y)(h1:∀ z y,S z->(z,y)∈ps->S y){y:Str}(g:Way ps x y):S y:=by
 induction g with
 |one e=>exact h0 _ e
 |cons e _ ih=>exact ih λy hy=>h1 _ _ (h0 _ e) hy
theorem Up.lt {ls:List Str}(hn:ls.Nodup){ps:List (Str×Str)}(h:Up ls ps){x y:Str}(g:Way ps x y):∃ i j:Nat,i<j/\ls[i]? = some x/\ls[j]? = some y:=by
 induction g with
 |one e=>exact h _ e
 |cons e _ ih=>
   obtain⟨i,j,h1,h2,h3⟩:=h _ e;obtain⟨i',j',g1,g2,g3⟩:=ih
   have e:j=i':=by obtain⟨a,b⟩:=A03.mp h3;obtain⟨c,d⟩:=A03.mp g2;exact(A21 hn).mp (b.trans d.symm)
   exact⟨i,j',by omega,h2,g3⟩
theorem Up.irrefl {ls:List Str}(hn:ls.Nodup){ps:List (Str×Str)}(h:Up ls ps){x:Str}:¬ Way ps x x:=λg=>by obtain⟨i,j,h1,h2,h3⟩:=h.lt hn g;obtain⟨a,b⟩:=A03.mp h2;obtain⟨c,d⟩:=A03.mp h3;have:=(A21 hn).mp (b.trans d.symm);omega
theorem Up.mem {ls:List Str}{ps:List (Str×Str)}(h:Up ls ps){p:Str×Str}(hp:p∈ps):p.1∈ls/\p.2∈ls:=by obtain⟨i,j,_,h2,h3⟩:=h p hp;exact⟨A05 h2,A05 h3⟩
structure Half (ns:List Str)(ps:List (Str×Str)):Prop where
 names:Names ns
 few:ns.length<=10
 le:ps.length<=60
 line:∃ ls:List Str,ls.Perm ns/\Up ls ps
theorem Half.irrefl {ns:List Str}{ps:List (Str×Str)}(h:Half ns ps){x:Str}:¬ Way ps x x:=by obtain⟨ls,h1,h2⟩:=h.line;exact h2.irrefl (h1.nodup_iff.mpr h.names.1)
theorem Half.mem {ns:List Str}{ps:List (Str×Str)}(h:Half ns ps){p:Str×Str}(hp:p∈ps):p.1∈ns/\p.2∈ns:=by obtain⟨ls,h1,h2⟩:=h.line;have:=h2.mem hp;exact⟨h1.mem_iff.mp this.1,h1.mem_iff.mp this.2⟩
mutual
def G8:PyData->Bool
 |.none=>true
 |.bool _=>true
 |.str x=>PyData.strOk x
 |.list ds=>Kj ds
 |.tuple ds=>Kj ds
 |_=>false
def Kj:List PyData->Bool
 | []=>true
 |d :: ds=>G8 d&&Kj ds
end
mutual
theorem On:∀ d:PyData,G8 d=true->d.canLay0=true
 |.none,_=>by simp only[PyData.canLay0]
 |.bool _,_=>by simp only[PyData.canLay0]
 |.str x,h=>by simpa only[PyData.canLay0,G8] using h
 |.list ds,h=>by simp only[PyData.canLay0];exact Kz ds (by simpa only[G8] using h)
 |.tuple ds,h=>by simp only[PyData.canLay0];exact Kz ds (by simpa only[G8] using h)
 |.int _,h=>by simp[G8] at h
 |.dict _,h=>by simp[G8] at h
theorem Kz:∀ ds:List PyData,Kj ds=true->PyData.canLayAll0 ds=true
 | [],_=>by simp only[PyData.canLayAll0]
 |d :: ds,h=>by simp only[Kj,Bool.and_eq_true] at h;simp only[PyData.canLayAll0,On d h.1,Kz ds h.2,Bool.and_self]
end
structure Fine (d:PyData):Prop where
 plain:G8 d=true
 deep:d.depth<=60
 light:d.weight<=1000000
theorem Fine.shaped {d:PyData}(h:Fine d):SeqAt.shaped d=true:=by unfold SeqAt.shaped;rw[On d h.plain,A0S (A0H h.deep ∅)];rfl
theorem aa7 {z:Str}(h:Y1 z=true):PyData.strOk z=true/\z.cps.size<=8:=by unfold Y1 at h;simp only[Bool.and_eq_true,decide_eq_true_eq] at h;refine⟨?_,h.1.2⟩;unfold PyData.strOk;rw[<- Array.all_toList,A2K];intro c hc;have:=A2K.mp h.2 c hc;unfold Lq at this;simp only[Bool.and_eq_true,decide_eq_true_eq] at this;exact A0S nofun
theorem Ld {α:Type}(f:α->PyData):∀ xs:List α,(∀ a∈xs,G8 (f a)=true)->Kj (xs.map f)=true
 | [],_=>by simp only[List.map_nil,Kj]
 |x :: xs,h=>by simp only[List.map_cons,Kj,h x List.mem_cons_self,Ld f xs λa ha=>h a (List.mem_cons_of_mem _ ha),Bool.and_self]
theorem Nv {α:Type}(f:α->PyData)(n:Nat):∀ xs:List α,(∀ a∈xs,(f a).depth<=n)->PyData.depthAll (xs.map f)<=n
 | [],_=>by simp only[List.map_nil,PyData.depthAll];omega
 |x :: xs,h=>by have h1:=h x A12;have h2:=Nv f n xs λa ha=>h a (A0L _ ha);simp only[List.map_cons,PyData.depthAll];omega
theorem Py {α:Type}(f:α->PyData)(n:Nat):∀ xs:List α,(∀ a∈xs,(f a).weight<=n)->PyData.weightAll (xs.map f)<=xs.length*(n+1)
 | [],_=>by simp only[List.map_nil,PyData.weightAll];omega
 |x :: xs,h=>by have h1:=h x A12;have h2:=Py f n xs λa ha=>h a (A0L _ ha);simp only[List.map_cons,PyData.weightAll,List.length_cons,Nat.add_mul];omega
theorem Xv {p:Str×Str}(h1:Y1 p.1=true)(h2:Y1 p.2=true):G8 (prD p)=true/\(prD p).depth<=1/\(prD p).weight<=18:=by have a:=aa7 h1;have b:=aa7 h2;refine⟨by simp only[prD,G8,Kj,a.1,b.1,Bool.and_self],by simp only[prD,PyData.depth,PyData.depthAll];omega,?_⟩;simp only[prD,PyData.weight,PyData.weightAll];omega
theorem ah5 {ns:List Str}(h:∀ z∈ns,Y1 z=true):G8 (nmD ns)=true/\(nmD ns).depth<=1/\(nmD ns).weight<=ns.length*9:=by
 refine⟨by simp only[nmD,G8];exact Ld _ ns λz hz=>by simp only[G8];exact(aa7 (h z hz)).1,?_,?_⟩
 . simp only[nmD,PyData.depth];have:=Nv PyData.str 0 ns λz hz=>by simp only[PyData.depth];omega
   omega
 simp only[nmD,PyData.weight];exact Py PyData.str 8 ns λz hz=>by simp only[PyData.weight];exact(aa7 (h z hz)).2
def NmP (ps:List (Str×Str)):Prop:=∀ p∈ps,Y1 p.1=true/\Y1 p.2=true
theorem Vf {ns:List Str} (h:∀ z∈ns,Y1 z=true) (hl:ns.length<=1000):Fine (nmD ns):=let ⟨a,b,c⟩:=ah5 h;⟨a,by omega,by omega⟩
theorem Half.nmP {ns:List Str}{ps:List (Str×Str)}(h:Half ns ps):NmP ps:=λp hp=>⟨h.names.2 _ (h.mem hp).1,h.names.2 _ (h.mem hp).2⟩
theorem Cl {α:Type}[DecidableEq α]:∀ {xs ys:List α},xs.Nodup->(∀ x∈xs,x∈ys)->xs.length<=ys.length
 | [],_,_,_=>A3U _
 |x :: xs,ys,h,hs=>by
   rw[A0U] at h;have hx:x∈ys:=hs x A12
   have ih:=Cl (xs:=xs) (ys:=ys.erase x) h.2 λz hz=>by refine(List.mem_erase_of_ne ?_).mpr (hs z (A0L _ hz));intro e;subst e;exact h.1 hz
   rw[List.length_erase_of_mem hx] at ih;have:0<ys.length:=List.length_pos_of_mem hx;rw[A0E];omega
section
variable {c:TT}{tb:TS}{D:Ends}{σ:St}{H:Hp}
theorem a69 (W:Nat->St->Hp->Prop)(m:Nat)(h0:W m σ H)
  (hs:∀ m σ H,W m σ H->c σ H λb H1=>if b=true then ∃ N:St->Hp->Prop,(∀ σ' H',N σ' H'->∃ m',m'<m/\W m' σ' H')/\tb {D with nx:=N,ct:=N,bk:=D.nx} σ H1 else D.nx σ H1):ao7 c tb D σ H:=⟨W,⟨m,h0⟩,hs⟩
theorem as0 {W:Nat->St->Hp->Prop}{m:Nat}(h:tb {D with nx:=fun σ' H'=>∃ m',m'<m/\W m' σ' H',ct:=fun σ' H'=>∃ m',m'<m/\W m' σ' H',bk:=D.nx} σ H) :
  ∃ N:St->Hp->Prop,(∀ σ' H',N σ' H'->∃ m',m'<m/\W m' σ' H')/\tb {D with nx:=N,ct:=N,bk:=D.nx} σ H:=⟨_,λ_ _ h=>h,h⟩
end
section
variable {X:Cx}{K:W.Frag}
def W7:V->List V->Hp->VK->Prop:=λx vs H Q=>∃ d o kvs more,x = .ref d/\vs=[.ref o]/\d≠o/\H d=some (.dK kvs)/\H o=some (.dK more)/\kvs.length+more.length<=1000000/\Q .non (upd H d (.dK (Eu kvs more)))
theorem Zy:MtM X "dict.update" W7:=by
 intro pins s σ H x vs v us Q I rx rv h;obtain⟨d,o,kvs,more,rfl,rfl,hdo,hD,hO,hz,q⟩:=h
 cases rx;obtain⟨u,rfl,ru⟩:=rv.one
 cases ru;obtain⟨z1,hd1,vs1,rel1,dd1⟩:=Ub I.hok hD;obtain⟨z2,hd2,vs2,rel2,dd2⟩:=Ub I.hok hO;have l1:kvs.length=vs1.length:=rel1.length;have l2:more.length=vs2.length:=rel2.length;refine A3Y F.slot_dict_update dd1.typeIs F.entry_dict_update (F.args_dict_update_2 _ _) (meets_dict_update (Ay X.prog X.w) d o hdo hd2) ⟨vs1,vs2,dd1,dd2,Af nofun,λh' dd' _ hs=>?_⟩;have he:∃ q,h'.get? d=some q:=let ⟨q,_,_,hq,_⟩:=dd';⟨q,hq⟩;refine⟨.non,_,Ri I (by rw[hD];exact A22) hs he (Td ?_ hd1 (KV.merge rel2 rel1) dd'),rfl,q⟩;have:=Er more kvs;exact Af nofun
end
theorem Hu:entryFor table "dict.update.loop" = some Builtin.«dict.update.loop»:=entryFor_of_tree (by kernel_rfl)
theorem Cy:plainId "dict.update.loop" = true:=by decide +kernel
theorem Ti:typeLookup (.type "list") "keys" = pure none:=by rw[typeLookup_type,A52];kernel_rfl
section
variable {prog:Program}{w:World}{κ:Type}[DecidableEq κ]{knd:KeyKind prog w κ}{A:Around}{E:Value->Shared->Prop}{s:Shared}
theorem Zn {a:Addr}{xs:Array Value}{k:Nat}{Q:Option Value->Shared->Prop}(hx:s.heap.get? a=some {cls:=.type "list",data:=.seq xs k})(hA:A.handled=none)
  (h:∀ h' tk,(∀ b o,s.heap.get? b=some o->h'.get? b=some o)->Q none {s with heap:=h',toks:=tk}):wpAny (model prog w) A (getAttr? (.ref a) "keys") Q E s:=by
 obtain⟨hp,g,d,tk,os⟩:=s;have hT:∀ tk',(⟨hp,g,d,tk',os⟩:Shared).TypeIs (.ref a) "list":=λ_=>⟨_,hx,rfl⟩;have f1:=sub_AttributeError;have f3:=F.slot_list_getattribute.lookup;have f4:=F.slot_list_getattribute.bind (.ref a);have f5:=am_list_getattr_none;unfold getAttr? getAttrBy? getAttrBy
 repeat (any_goals (first | assumption | exact hT _ | ((with_reducible show wpAny _ _ (call (Value.builtin "list.__getattribute__") _ _) _ _ _);refine A45 F.slot_list_getattribute (hT _) am_entry_list_getattribute (F.args_list_getattribute_2 _ _) (meets_getattribute_miss_list a xs k #[] "keys" _ Ti (by decide +kernel) (by rw[A1G];decide +kernel)) ⟨hx,hA,λh' tk' e hx'=>?_⟩) | wp_step))
 obtain⟨t',u',he⟩:=hx'.there;show wpAny _ _ (getattributeRaised _ _ _ _ _ _ _) _ _ _;unfold getattributeRaised
 repeat (any_goals (first | assumption | wp_step))
 exact h _ _ hx'.keeps
theorem Qc {t:Addr}{k v:Value}{Q:List Value->Shared->Prop}(ht:IsTup s.heap t #[k,v])(h:Q [k,v] s):wpAny (model prog w) A (Builtin.Dict.pairItems (.ref t)) Q E s:=by obtain⟨o,ho,hc,n,hd⟩:=ht;unfold Builtin.Dict.pairItems;refine A00 (A3H ⟨o,ho,hc⟩ ?_);rw[A15 ∅];refine A00 (A25 ho hd ?_);exact A06 h
theorem af1 {I D l:Addr}{items:Array Value}(hh:A.in1.handled=none)(hne:l≠I)(hDI:D≠I)(hDl:D≠l)(pk:List (κ×Value×Addr×Value))(hlen:pk.length=items.size)(hz:items.size<=1000000) :
  ∀(j i:Nat) (s:Shared) (R:Result->Shared->Prop),items.size-i=j->i<=items.size->s.heap.IsListIter I l i->s.heap.IsList l items ->
   s.heap.DictOf knd D (merged [] ((pk.take i).map λp=>(p.1,p.2.1))) ->
   (∀(n:Nat) (p:κ×Value×Addr×Value),pk[n]? = some p->items[n]? = some (Value.ref p.2.2.1)/\p.2.2.1≠I/\p.2.2.1≠D/\IsTup s.heap p.2.2.1 #[p.2.2.2,p.2.1]/\knd.is p.1 p.2.2.2=true) ->
   (∀ h' tk,h'.DictOf knd D (merged [] (pk.map λp=>(p.1,p.2.1)))->(∀ b o,b≠D->b≠I->s.heap.get? b=some o->h'.get? b=some o)->R (.ok (.ret .none)) {s with heap:=h',toks:=tk}) ->
   codeAny (model prog w) A (.builtin "dict.update.loop" ⟨[.ref D,.ref I,.int i 0,.none],[]⟩) R s:=by
 have W:=Walks.list (prog:=prog) (w:=w) hh I l hne items;intro j
 induction j with
 |zero=>
   intro i s R hj hi hI hL hD hP hR;have hin:i=items.size:=by omega
   subst hin;refine A39 Hu ?_;rw[A2Q Cy _];show wpAny _ A.in1 (pyNext (.ref I) >>= _) _ _ s;refine A00 (W.done s _ _ ⟨hI,hL⟩ λh' tk hm=>?_);show wpAny _ A.in1 (Builtin.Dict.addKeywords D [] >>= _) _ _ _;refine wpAny_bind (wpAny_pure (wpAny_pure (hR h' tk ?_ λb o hb hb' e=>hm b o (by simpa using hb') e)));rw[<- hlen,A13] at hD;obtain⟨o,es,ep,ho,r⟩:=hD;exact⟨o,es,ep,hm D o (by simpa using hDI) ho,r⟩
 |succ j ih=>
   intro i s R hj hi hI hL hD hP hR;have hlt:i<items.size:=by omega
   obtain⟨p,hp⟩:∃ p,pk[i]? = some p:=⟨pk[i]'nofun,A04 _⟩;obtain⟨q1,q2,q3,q4,q5⟩:=hP i p hp;refine A39 Hu ?_;rw[A2Q Cy _];show wpAny _ A.in1 (pyNext (.ref I) >>= _) _ _ s;refine A00 (W.item i s _ _ hlt ⟨hI,hL⟩ λv h' tk hv hst hm=>?_)
   have hv':v = .ref p.2.2.1:=by have hv2:items[i]? = some v:=hv;rw[q1] at hv2;exact(A0Z hv2).symm
   subst hv'
   have ht':IsTup h' p.2.2.1 #[p.2.2.2,p.2.1]:=by obtain⟨o,ho,r⟩:=q4;exact⟨o,hm _ o (by simpa using q2) ho,r⟩
   have hD':h'.DictOf knd D (merged [] ((pk.take i).map λp=>(p.1,p.2.1))):=by obtain⟨o,es,ep,ho,r⟩:=hD;exact⟨o,es,ep,hm D o (by simpa using hDI) ho,r⟩
   show wpAny _ A.in1 (holding [Value.ref p.2.2.1] _ >>= _) _ _ _;refine A00 (A1F ?_);refine A00 (wpAny_tryCatch (Qc ht' ?_));show wpAny _ A.in1 (holding [p.2.2.2,p.2.1] (dictSet D p.2.2.2 p.2.1)) _ _ _;refine A1F (wpAny_dictSet_pairs q5 hD' (λh'' hD'' hs=>?_) ?_)
   . refine A06 ⟨A3M Cy _,?_⟩;have hkeep:∀ b o,b≠D->b≠I->s.heap.get? b=some o->h''.get? b=some o:=λb o h1 h2 e=>(hs.2 b h1).trans (hm b o (by simpa using h2) e);refine ih (i+1) _ R nofun hlt ?_ ?_ ?_ (λn p' hp'=>?_) λh3 tk3 hD3 hk3=>hR h3 tk3 hD3 λb o h1 h2 e=>hk3 b o h1 h2 (hkeep b o h1 h2 e)
     . exact hst.1.at λo e=>(hs.2 I (Ne.symm hDI)).trans e
     . exact hst.2.at λo e=>(hs.2 l (Ne.symm hDl)).trans e
     . have e:merged [] ((pk.take (i+1)).map λp=>(p.1,p.2.1))=stored (merged [] ((pk.take i).map λp=>(p.1,p.2.1))) p.1 p.2.1:=by rw[A0Y,hp];unfold merged;rw[A0M,List.foldl_append];rfl
       rw[e];exact hD''
     obtain⟨a1,a2,a3,⟨o,ho,r⟩,a5⟩:=hP n p' hp';exact⟨a1,a2,a3,⟨o,hkeep _ o a3 a2 ho,r⟩,a5⟩
   refine A0H (merged_length_le _ _) (Af ?_);rw[A01,A0T];simp;omega
theorem Mv {l:Addr}{items:Array Value}{n:Nat}{Q:Value->Shared->Prop}(hl:s.heap.get? l=some {cls:=.type "list",data:=.seq items n})(hA:A.handled=none)(pk:List (κ×Value×Addr×Value))(hlen:pk.length=items.size)(hz:items.size<=1000000)
  (hP:∀(n:Nat) (p:κ×Value×Addr×Value),pk[n]? = some p->items[n]? = some (Value.ref p.2.2.1)/\IsTup s.heap p.2.2.1 #[p.2.2.2,p.2.1]/\knd.is p.1 p.2.2.2=true)
  (h:∀ h' tk,h'.DictOf knd s.heap.objs.size (merged [] (pk.map λp=>(p.1,p.2.1)))->(∀ b o,s.heap.get? b=some o->h'.get? b=some o)->Q (.ref s.heap.objs.size) {s with heap:=h',toks:=tk}) :
  wpAny (model prog w) A (call (.type "dict") [.ref l]) Q E s:=by
 refine callType_codes (Q₁:=λobj s₁=>obj = .ref s.heap.objs.size/\s₁={s with heap:=s.heap.push {cls:=.type "dict",data:=.dict #[]}}) F.kt_called_dict (F.kt_typeCall_dict_1 _) F.entry_dict_init (kt_code_dict_new _ ⟨rfl,rfl⟩) ?_
 rintro obj s₁ ⟨rfl,rfl⟩;have hnew:(s.heap.push {cls:=.type "dict",data:=.dict #[]}).DictOf knd s.heap.objs.size []:=Heap.DictOf.new s.heap;have hl':(s.heap.push {cls:=.type "dict",data:=.dict #[]}).get? l=some {cls:=.type "list",data:=.seq items n}:=A02 _ hl;have hll:l<s.heap.objs.size:=A08 hl;refine⟨hnew.typeIs,F.args_dict_init_2 _ _,?_⟩;unfold Builtin.«dict.__init__»;refine A00 ?_;unfold Builtin.Dict.selfAndRest;refine A00 (A53 hnew.typeIs ?_);show wpAny _ _ (pure (s.heap.objs.size,[Value.ref l])) _ _ _;refine A06 ?_;show wpAny _ _ (Builtin.Dict.updateFrom "dict.__init__" s.heap.objs.size (.ref l) [] .none) _ _ _;unfold Builtin.Dict.updateFrom;refine A00 (A3H ⟨_,hl',rfl⟩ ?_);rw[A15 ∅];refine wpAny_bind (Zn hl' (by simpa using hA) λh1 tk1 hk1=>?_);have hl1:h1.get? l=some {cls:=.type "list",data:=.seq items n}:=hk1 _ _ hl';rw[A15 (show(none:Option Value).isNone=true from rfl)]
 have hD1:h1.DictOf knd s.heap.objs.size []:=by obtain⟨o,es,ep,ho,r⟩:=hnew;exact⟨o,es,ep,hk1 _ _ ho,r⟩
 have hsz:s.heap.objs.size<h1.objs.size:=by obtain⟨o,es,ep,ho,r⟩:=hD1;exact A08 ho
 refine A00 (A4I ?_);have hL1:h1.IsList l items:=⟨_,hl1,rfl,n,rfl⟩;refine A00 (A2V hL1 ?_);refine A06 ⟨A3M Cy _,?_⟩;have kp:∀ b o,s.heap.get? b=some o->(h1.push {cls:=.type "list_iterator",data:=.fields #[.ref l,.int 0 0]}).get? b=some o:=λb o e=>A02 _ (hk1 _ _ (A02 _ e));refine af1 (knd:=knd) (A:=A.in1) (I:=h1.objs.size) (D:=s.heap.objs.size) (l:=l) (items:=items) (by simpa using hA) (Nat.ne_of_lt (Nat.lt_trans hll hsz)) (Nat.ne_of_lt hsz) (Nat.ne_of_gt hll) pk hlen hz items.size 0 _ _ (Nat.sub_zero _) (Nat.zero_le _) ⟨_,Heap.get?_push_size _ rfl,rfl,rfl⟩ (hL1.push _) ?_ (λm p hp=>?_) λh' tk hD hk=>?_
 . exact hD1.push _
 . obtain⟨a1,⟨o,ho,r⟩,a3⟩:=hP m p hp;have hlt:=A08 ho;exact⟨a1,A0J (Nat.lt_trans hlt hsz),A0J hlt,⟨o,kp _ _ ho,r⟩,a3⟩
 refine⟨rfl,h h' tk hD λb o e=>?_⟩;have hlt:=A08 e;exact hk b o (A0J hlt) (A0J (Nat.lt_trans hlt hsz)) (kp b o e)
end
def PrsK (K:W.Frag)(H:Hp):List (Key×V)->List V->Prop
 | [],ys=>ys=[]
 |kv :: r,ys=>∃ t ys',ys = .ref t :: ys'/\SqT K H t [kV kv.1,kv.2]/\PrsK K H r ys'
theorem PrsK.pk {X:Cx}{pins:List (Addr×Obj)}{σ:St}{H:Hp}{s:Shared}(I:Inv X pins σ H s):∀(kvs:List (Key×V)) (ys:List V) (its:List Value),PrsK X.K H kvs ys->Vals ys its ->
  ∃ pk:List (Key×Value×Addr×Value),pk.length=its.length/\KV kvs (pk.map λp=>(p.1,p.2.1))/\∀(n:Nat) (p:Key×Value×Addr×Value),pk[n]? = some p->its[n]? = some (Value.ref p.2.2.1)/\IsTup s.heap p.2.2.1 #[p.2.2.2,p.2.1]/\(Ay X.prog X.w).is p.1 p.2.2.2=true
 | [],ys,its,h,v=>by
   have h':ys=[]:=h;subst h'
   cases v;exact ⟨[],rfl,.nil,λn p hp=>by simp at hp⟩
 |kv :: r,ys,its,h,v=>by
   obtain⟨t,ys',rfl,h2,h3⟩:=h
   cases v with
   |cons v1 v2=>
     obtain⟨pk,l1,l2,l3⟩:=PrsK.pk I r ys' _ h3 v2
     cases v1;obtain ⟨its2,rv,ht,_⟩:=I.tuple h2;obtain⟨key,val,rfl,a1,a3⟩:=Vals.two rv;refine⟨(kv.1,val,t,key) :: pk,by simp[l1],.cons ⟨rfl,a3⟩ l2,λn p hp=>?_⟩
     cases n with
     |zero=>have:p=(kv.1,val,t,key):=(Option.some.inj (by simpa using hp)).symm;subst this;exact⟨rfl,ht,Sl a1⟩
     |succ n=>exact l3 n p (by simpa using hp)
section
variable {X:Cx}{K:W.Frag}
def a70 (K:W.Frag):List V->Hp->VK->Prop:=λxs H Q=>∃ l ys kvs,xs=[V.ref l]/\H l=some (.lst ys)/\PrsK K H kvs ys/\ys.length<=1000000/\kvs.length<=1000000/\∀ p,H p=none->Q (.ref p) (upd H p (.dK (Eu [] kvs)))
theorem Ya (hr:X.A.handled=none):CallR X (.type "dict") (a70 X.K):=by
 intro pins s σ H xs us Q I rv h;obtain⟨l,ys,kvs,rfl,hl,hp,hz,hz2,q⟩:=h;obtain⟨u,rfl,ru⟩:=rv.one
 cases ru;obtain⟨z,its,n,r,hlen,e⟩:=I.lstM hl;obtain⟨pk,l1,l2,l3⟩:=PrsK.pk I kvs ys its hp r;refine Mv (knd:=Ay X.prog X.w) e hr pk (by simpa using l1) (by simp;omega) (λn p hp=>?_) λh' tk hD hk=>?_
 . obtain⟨a1,a2,a3⟩:=l3 n p hp;exact⟨by simpa using a1,a2,a3⟩
 refine⟨.ref s.heap.objs.size,_,I.laid hk (A0D _) (Td ?_ ?_ (KV.merge l2 .nil) hD),rfl,q _ (I.hok.fresh (A0D _))⟩
 . have:=Er kvs [];exact Af (by simpa using Nat.le_trans this (by simpa using hz2))
 exact A1R.mpr (A26 I.big)
theorem Z2 (hr:X.A.handled=none)(hK:X.K=K:=by ac_nf):CallR X (.type "dict") (a70 K):=hK ▸ Ya hr
end
def K2 (ns:List Str)(as:List Addr):List (Key×V):=(ns.zip as).map λp=>(Sum.inr p.1,V.ref p.2)
def Ii (ks:List Str):List (Key×V):=ks.map λy=>(Sum.inr y,V.bl true)
theorem Kf:∀ {ns:List Str} {as:List Addr} {i:Nat} {z:Str} {a:Addr},ns.Nodup->ns[i]? = some z->as[i]? = some a->Dn (K2 ns as) (Sum.inr z:Key)=some (.ref a)
 | [],_,i,_,_,_,h,_=>by simp at h
 |n :: ns,[],i,_,_,_,_,h=>by simp at h
 |n :: ns,b :: as,0,z,a,_,h,g=>by simp at h g;subst h g;exact Bm rfl
 |n :: ns,b :: as,i+1,z,a,hn,h,g=>by
   rw[A0U] at hn;have h':ns[i]? = some z:=by simpa using h
   have ne:¬ (Sum.inr n:Key)=Sum.inr z:=by
    intro e;have e2:n=z:=by injection e
    subst e2;exact hn.1 (A05 h')
   show Dn ((Sum.inr n,V.ref b) :: K2 ns as) _=_;rw[Be ne];exact Kf hn.2 h' (by simpa using g)
theorem Mc (y:Str):∀ ks:List Str,Dn (Ii ks) (Sum.inr y:Key)=if y∈ks then some (.bl true) else none
 | []=>by simp[Ii,ak0]
 |k :: ks=>by
   show Dn ((Sum.inr k,V.bl true) :: Ii ks) _=_
   by_cases e:k=y
   . subst e;rw[Bm rfl,A15 A12]
   rw[Be (by intro q;injection q with q;exact e q),Mc y ks]
   have:(y∈k :: ks)↔y∈ks:=by simp[Ne.symm e]
   simp only[this]
def ag1 (ks:List Str)(y:Str):List Str:=if y∈ks then ks else ks++[y]
theorem mem_addK {ks:List Str}{y z:Str}:z∈ag1 ks y↔z∈ks\/z=y:=by
 unfold ag1
 split
 . constructor
   . exact .inl
   rintro(h|rfl)
   . exact h
   assumption
 simp
theorem Qf {ks:List Str}{y:Str}(h:ks.Nodup):(ag1 ks y).Nodup:=by
 unfold ag1
 split
 . exact h
 rename_i hy;rw[A16];refine⟨h,by simp,λa ha b hb e=>?_⟩;have:b=y:=by simpa using hb
 subst this;subst e;exact hy ha
theorem aA8 (y:Str)(ks:List Str):((Ii ks).any λkv=>decide (kv.1=(Sum.inr y:Key)))=decide (y∈ks):=by
 induction ks with
 |nil=>simp[Ii]
 |cons k ks ih=>
   show(decide ((Sum.inr k:Key)=Sum.inr y)||(Ii ks).any _)=_
   rw[ih]
   by_cases e:k=y
   . subst e;simp
   have e':¬ (Sum.inr k:Key)=Sum.inr y:=by intro q;injection q with q;exact e q
   simp[e',Ne.symm e]
theorem ad3 (ks:List Str)(y:Str):Gj (Ii ks) (Sum.inr y:Key) (.bl true)=Ii (ag1 ks y):=by
 unfold Gj ag1;rw[aA8]
 by_cases h:y∈ks
 . rw[A15 (A0S h),A15 h];unfold Ii;rw[A18];refine A1I λk _=>?_;show(if(Sum.inr k:Key)=Sum.inr y then(Sum.inr k,V.bl true) else(Sum.inr k,V.bl true))=_
   split<;>rfl
 rw[if_neg (by simpa using h),if_neg h];unfold Ii;rw[A0M];rfl
def Dp (ks ms:List Str):List Str:=ms.foldl ag1 ks
theorem Ur:∀(ms ks:List Str),Eu (Ii ks) (Ii ms)=Ii (Dp ks ms)
 | [],ks=>rfl
 |m :: ms,ks=>by show Eu (Gj (Ii ks) (Sum.inr m) (.bl true)) (Ii ms)=_;rw[ad3,Ur ms];rfl
theorem mem_addAll:∀ {ms ks:List Str} {z:Str},z∈Dp ks ms↔z∈ks\/z∈ms
 | [],ks,z=>by simp[Dp]
 |m :: ms,ks,z=>by show z∈Dp (ag1 ks m) ms↔_;rw[mem_addAll,mem_addK,A0F,or_assoc]
theorem Im:∀ {ms ks:List Str},ks.Nodup->(Dp ks ms).Nodup
 | [],ks,h=>h
 |m :: ms,ks,h=>Im (ms:=ms) (Qf h)
theorem Si (ks:List Str):(Ii ks).length=ks.length:=by simp[Ii]
theorem Ol:∀(kvs acc:List (Key×V)),(kvs.map (·.1)).Nodup->(∀ k∈kvs,∀ q∈acc,q.1≠k.1)->Eu acc kvs=acc++kvs
 | [],acc,_,_=>by simp[Eu]
 |k :: kvs,acc,hn,hd=>by
   show Eu (Gj acc k.1 k.2) kvs=_
   have e:Gj acc k.1 k.2=acc++[k]:=by
    unfold Gj
    have:¬ (acc.any λkv=>decide (kv.1=k.1))=true:=by rw[A19];rintro⟨q,hq,e⟩;exact hd k A12 q hq (A4N e)
    rw[A10 this]
   rw[A0R,A0U] at hn;rw[e,Ol kvs (acc++[k]) hn.2 λx hx q hq=>?_,A4M]
   . rfl
   rcases A0I.mp hq with hq|hq
   . exact hd x (A0L _ hx) q hq
   have:q=k:=by simpa using hq
   subst this;intro e;exact hn.1 (A0A.mpr ⟨x,hx,e.symm⟩)
structure Tab (H:Hp)(r:Addr)(ns:List Str)(as:List Addr)(R:Str->Str->Prop):Prop where
 len:as.length=ns.length
 nd:as.Nodup
 nr:r∉as
 top:H r=some (.dK (K2 ns as))
 row:∀(i:Nat) (z:Str) (a:Addr),ns[i]? = some z->as[i]? = some a->∃ ks:List Str,H a=some (.dK (Ii ks))/\ks.Nodup/\(∀ y∈ks,y∈ns)/\∀ y,y∈ks↔R z y
theorem Tab.same {H H':Hp}{r:Addr}{ns:List Str}{as:List Addr}{R:Str->Str->Prop}(h:Tab H r ns as R)(e:Same H H'):Tab H' r ns as R:=
 ⟨h.len,h.nd,h.nr,e _ _ h.top,λi z a hz ha=>let ⟨ks,h1,h2⟩:=h.row i z a hz ha;⟨ks,e _ _ h1,h2⟩⟩
theorem Tab.congr {H:Hp}{r:Addr}{ns:List Str}{as:List Addr}{R R':Str->Str->Prop}(h:Tab H r ns as R)(e:∀ z∈ns,∀ y,R z y↔R' z y):Tab H r ns as R':=
 ⟨h.len,h.nd,h.nr,h.top,λi z a hz ha=>let ⟨ks,h1,h2,h3,h4⟩:=h.row i z a hz ha;⟨ks,h1,h2,h3,λy=>(h4 y).trans (e z (A05 hz) y)⟩⟩
theorem Tab.put {H H':Hp}{r b:Addr}{ns:List Str}{as:List Addr}{R R':Str->Str->Prop}(h:Tab H r ns as R)(e:ExtBut b H H'){j:Nat}{x:Str}(hn:ns.Nodup)(hj:ns[j]? = some x)(hb:as[j]? = some b){ks:List Str}
  (hk:H' b=some (.dK (Ii ks))) (k1:ks.Nodup) (k2:∀ y∈ks,y∈ns) (k3:∀ y,y∈ks↔R' x y) (k4:∀ z∈ns,z≠x->∀ y,R z y↔R' z y):Tab H' r ns as R':=by
 refine⟨h.len,h.nd,h.nr,e _ _ (λq=>h.nr (q ▸ A05 hb)) h.top,λi z a hz ha=>?_⟩
 by_cases hij:i=j
 . subst hij;rw[hz] at hj
   cases hj;rw[ha] at hb
   cases hb;exact⟨ks,hk,k1,k2,k3⟩
 obtain⟨ms,h1,h2,h3,h4⟩:=h.row i z a hz ha
 have hab:a≠b:=by intro q;subst q;obtain⟨p1,p2⟩:=A03.mp ha;obtain⟨q1,q2⟩:=A03.mp hb;exact hij ((A21 h.nd).mp (p2.trans q2.symm))
 have hzx:z≠x:=by intro q;subst q;obtain⟨p1,p2⟩:=A03.mp hz;obtain⟨q1,q2⟩:=A03.mp hj;exact hij ((A21 hn).mp (p2.trans q2.symm))
 exact⟨ms,e _ _ hab h1,h2,h3,λy=>(h4 y).trans (k4 z (A05 hz) hzx y)⟩
theorem Tab.at {H:Hp}{r:Addr}{ns:List Str}{as:List Addr}{R:Str->Str->Prop}(h:Tab H r ns as R){x:Str}(hx:x∈ns):∃(i:Nat) (a:Addr),ns[i]? = some x/\as[i]? = some a:=by
 obtain⟨i,hi,e⟩:=A23 hx;have hi':i<as.length:=by rw[h.len];exact hi
 exact⟨i,as[i],by rw[A04 hi,e],A04 hi'⟩
section
variable {K:W.Frag}{H:Hp}{Q:VK}{r:Addr}{ns:List Str}{as:List Addr}{R:Str->Str->Prop}
theorem R4 {x:Str}{i:Nat}{a:Addr}(h:Tab H r ns as R)(hn:ns.Nodup)(hx:ns[i]? = some x)(ha:as[i]? = some a)(k:Q (.ref a) H):Vd K (.ref r) (.str x) H Q:=i_ixD h.top (Kf hn hx ha) k
theorem Rq {a:Addr}{ks:List Str}{y:Str}(h:H a=some (.dK (Ii ks)))(k:Q (.bl (decide (y∈ks))) H):Z7 K false (.str y) (.ref a) H Q:=by
 refine .inr (.inr (.inl ⟨a,Dn (Ii ks) (Sum.inr y:Key),rfl,DGet.k (k:=Sum.inr y) h,?_⟩));rw[Mc]
 by_cases e:y∈ks
 . rw[if_pos e];simpa[e] using k
 rw[if_neg e];simpa[e] using k
theorem az2 {a:Addr}{kvs:List (Key×V)}{B:Prop}(h:H a=some (.dK kvs))(k:B):tyV K "dict" (.ref a) H/\B:=⟨.inr (.inr (.inl ⟨rfl,.inl ⟨kvs,h⟩⟩)),k⟩
theorem aQ8 {d o:Addr}{ks ms:List Str}(hd:H d=some (.dK (Ii ks)))(ho:H o=some (.dK (Ii ms)))(hne:d≠o)(hz:ks.length+ms.length<=1000000)(k:∀ H',ExtBut d H H'->H' d=some (.dK (Ii (Dp ks ms)))->Q .non H'):W7 (.ref d) [.ref o] H Q:=
 ⟨d,o,_,_,rfl,rfl,hne,hd,ho,by rw[Si,Si];exact hz,k _ ExtBut.upd (by rw[Ad,Ur])⟩
end
structure HalfW (ns:List Str)(ps:List (Str×Str)):Prop where
 nd:ns.Nodup
 mem:∀ p∈ps,p.1∈ns/\p.2∈ns
 irr:∀ x,¬ Way ps x x
 few:ns.length<=100
 le:ps.length<=1000
theorem Half.w {ns:List Str}{ps:List (Str×Str)}(h:Half ns ps):HalfW ns ps:=⟨h.names.1,λp hp=>h.mem hp,λ_=>h.irrefl,A0H h.few ∅,A0H h.le ∅⟩
structure War (ns:List Str)(ps:List (Str×Str))(ms:List Str)(R:Str->Str->Prop):Prop where
 snd:∀ z y,R z y->Way ps z y
 edge:∀ z y,(z,y)∈ps->R z y
 shut:∀ m∈ms,∀ z y,R z m->R m y->R z y
def ap2 (R:Str->Str->Prop)(mid:Str)(ms:List Str)(z y:Str):Prop:=R z y\/(z∈ms/\R z mid/\R mid y)
theorem War.step {ns:List Str}{ps:List (Str×Str)}{ms:List Str}{R:Str->Str->Prop}(h:War ns ps ms R){mid:Str}:War ns ps (ms++[mid]) (λz y=>R z y\/(R z mid/\R mid y)):=by
 refine⟨λz y hz=>?_,λz y hz=>.inl (h.edge z y hz),λm hm z y h1 h2=>?_⟩
 . rcases hz with hz|⟨h1,h2⟩
   . exact h.snd z y hz
   exact(h.snd _ _ h1).trans (h.snd _ _ h2)
 rcases A0I.mp hm with hm|hm
 . rcases h1 with h1|⟨h1,h1'⟩
   . rcases h2 with h2|⟨h2,h2'⟩
     . exact .inl (h.shut m hm z y h1 h2)
     exact .inr ⟨h.shut m hm z mid h1 h2,h2'⟩
   rcases h2 with h2|⟨h2,h2'⟩
   . exact .inr ⟨h1,h.shut m hm mid y h1' h2⟩
   exact .inr ⟨h1,h2'⟩
 have e:m=mid:=by simpa using hm
 subst e;rcases h1 with h1|⟨h1,h1'⟩
 . rcases h2 with h2|⟨h2,h2'⟩
   . exact .inr ⟨h1,h2⟩
   exact .inr ⟨h1,h2'⟩
 rcases h2 with h2|⟨h2,h2'⟩
 . exact .inr ⟨h1,h2⟩
 exact .inr ⟨h1,h2'⟩
theorem War.done {ns:List Str}{ps:List (Str×Str)}{R:Str->Str->Prop}(h:War ns ps ns R)(hm:∀ p∈ps,p.1∈ns/\p.2∈ns)(z y:Str):R z y↔Way ps z y:=by
 refine⟨h.snd z y,λg=>?_⟩
 induction g with
 |one e=>exact h.edge _ _ e
 |cons e _ ih=>exact h.shut _ (hm _ e).2 _ _ (h.edge _ _ e) ih
theorem PrsK.fz {K:W.Frag} {H H':Hp} (e:Fz H H'):∀ {kvs:List (Key×V)} {ys:List V},PrsK K H kvs ys->PrsK K H' kvs ys
 | [],_,h=>h
 |kv :: r,ys,⟨t,ys',h1,h2,h3⟩=>⟨t,ys',h1,e.seq h2,PrsK.fz e h3⟩
theorem PrsK.snoc {K:W.Frag}{H:Hp}{kv:Key×V}{t:Addr}(h:SqT K H t [kV kv.1,kv.2]):∀ {kvs:List (Key×V)} {ys:List V},PrsK K H kvs ys->PrsK K H (kvs++[kv]) (ys++[.ref t])
 | [],ys,g=>by have g':ys=[]:=g;subst g';exact⟨t,[],rfl,h,rfl⟩
 |k :: r,ys,⟨u,ys',h1,h2,h3⟩=>by subst h1;exact⟨u,ys'++[.ref t],rfl,h2,PrsK.snoc h h3⟩
theorem PrsK.length {K:W.Frag}{H:Hp}:∀ {kvs:List (Key×V)} {ys:List V},PrsK K H kvs ys->ys.length=kvs.length
 | [],ys,g=>by have g':ys=[]:=g;subst g';rfl
 |k :: r,ys,⟨u,ys',h1,h2,h3⟩=>by subst h1;simp[PrsK.length h3]
theorem aK3 {K:W.Frag}{H:Hp}{Q:VK}{l:Addr}{ys:List V}{kvs:List (Key×V)}(h:H l=some (.lst ys))(g:PrsK K H kvs ys)(hz:kvs.length<=1000000)(k:∀ p H',H p=none->Same H H'->H' p=some (.dK (Eu [] kvs))->Q (.ref p) H'):a70 K [.ref l] H Q:=
 ⟨l, ys,kvs,rfl,h,g,by rw[g.length];exact hz,hz,λp hp=>k p _ hp (Same.upd hp) Ad⟩
theorem Xj:∀ {ns:List Str} {as:List Addr},ns.Nodup->((K2 ns as).map (·.1)).Nodup
 | [],as,_=>by simp[K2]
 |n :: ns,[],_=>by simp[K2]
 |n :: ns,a :: as,h=>by
   rw[A0U] at h;show((Sum.inr n:Key) :: (K2 ns as).map (·.1)).Nodup;rw[A0U];refine⟨λhm=>?_,Xj h.2⟩;obtain⟨kv,hkv,e⟩:=A0A.mp hm;obtain⟨p,hp,rfl⟩:=A0A.mp hkv;have e':p.1=n:=by injection e
   exact h.1 (e' ▸ (A47 hp).1)
theorem X9 {ns:List Str}{as:List Addr}{z:Str}{a:Addr}(h:ns.length=as.length):K2 (ns++[z]) (as++[a])=K2 ns as++[(Sum.inr z,V.ref a)]:=by unfold K2;rw[List.zip_append h,A0M];rfl
end L2
namespace L2
open PySem PySem.Spec PyProof.Rows
open Classical in
def Ak (ps:List (Str×Str))(x y:Str):Bool:=decide (Way ps x y)
theorem wayB_iff {ps:List (Str×Str)} {x y:Str}:Ak ps x y=true↔Way ps x y:=by unfold Ak;simp
theorem Ng {ps:List (Str×Str)}{x y:Str}{b:Bool}(h:b=true↔Way ps x y):b=Ak ps x y:=by
 cases hb:Ak ps x y with
 |true=>exact h.mpr (wayB_iff.mp hb)
 |false=>
   cases b with
   |false=>rfl
   |true=>
     have:=wayB_iff.mpr (h.mp rfl);rw[hb] at this
     cases this
theorem Jm {ps:List (Str×Str)}{x y:Str}{p:Prop}[Decidable p](h:p↔Way ps x y):decide p=Ak ps x y:=Ng (by rw[A3N];exact h)
theorem Fy {ps:List (Str×Str)}{x y:Str}(h:¬ Way ps x y):Ak ps x y=false:=by
 cases hb:Ak ps x y with
 |false=>rfl
 |true=>exact absurd (wayB_iff.mp hb) h
theorem iteNR {α:Type}{a:α}{A B:Prop}[Decidable (a=a)](h:B):if(!decide (a=a))=true then A else B:=by rw[if_neg (by simp)];exact h
theorem iteNbb {b:Bool}{A B:Prop}(h:B):if(!(b==b))=true then A else B:=by rw[if_neg (by simp)];exact h
section
variable {K:W.Frag}{H:Hp}{σ:St}{x:V}{Q:VK}
theorem Gx {ns:List Str}{g:TG}{tt:TT}{te:TE}{k:Nat}{js:List Nat}(h:Is K H (nmD ns) x)(t:Str->Bool)(f:Str->PyData)(hf:∀ a,frz (f a)=true)(hz:ns.length<=1000000)
  (hs:∀(i:Nat) a H1 (R:VK) (R':Hp->Prop),ns[i]? = some a->Same H H1->(t a=true->∀ y H2,Same H1 H2->Is K H2 (f a) y->R y H2)->(t a=false->∀ H2,Same H1 H2->R' H2) ->
   g (.str a) (List.replicate k none++Pg σ js) H1 fun σ2 H2=>tt σ2 H2 λb H3=>if b=true then te σ2 H3 R else R' H3)
  (hd:∀ p ys H',H p=none->Same H H'->H' p=some (.lst ys)->IsL K H' ((ns.filter t).map f) ys->Q (.ref p) H'):Gb K x H λJ H1=>Ly k js g tt te σ J H1 Q:=by
 obtain⟨a,rfl,hS⟩:=h.nm;refine Wf hS (Jc (K:=K) (Ia (xs:=ns.map V.str)) ns (by simp) t f hf (by simpa using hz) (λH' e=>e.seqT hS) (λi z v H1 R R' hz hv e hR hR'=>?_) hd);rw[A09,hz] at hv
 cases hv;exact hs i z H1 R R' hz e hR hR'
theorem Ws {ns:List Str}{a:Addr}{g:TG}{tt:TT}{te:TE}{k:Nat}{js:List Nat}(h:SqL K H a (ns.map V.str))(t:Str->Bool)(f:Str->PyData)(hf:∀ a,frz (f a)=true)(hz:ns.length<=1000000)
  (hs:∀(i:Nat) a H1 (R:VK) (R':Hp->Prop),ns[i]? = some a->Same H H1->(t a=true->∀ y H2,Same H1 H2->Is K H2 (f a) y->R y H2)->(t a=false->∀ H2,Same H1 H2->R' H2) ->
   g (.str a) (List.replicate k none++Pg σ js) H1 fun σ2 H2=>tt σ2 H2 λb H3=>if b=true then te σ2 H3 R else R' H3)
  (hd:∀ p ys H',H p=none->Same H H'->H' p=some (.lst ys)->IsL K H' ((ns.filter t).map f) ys->Q (.ref p) H'):Gb K (.ref a) H λJ H1=>Ly k js g tt te σ J H1 Q:=by
 refine Vt h (Jc (K:=K) (Gc (xs:=ns.map V.str)) ns (by simp) t f hf (by simpa using hz) (λH' e=>e.seq h) (λi z v H1 R R' hz hv e hR hR'=>?_) hd);rw[A09,hz] at hv
 cases hv;exact hs i z H1 R R' hz e hR hR'
theorem Wg {ps:List (Str×Str)}{g:TG}{tt:TT}{te:TE}{k:Nat}{js:List Nat}(h:Is K H (psD ps) x)(t:Str×Str->Bool)(f:Str×Str->PyData)(hf:∀ a,frz (f a)=true)(hz:ps.length<=1000000)
  (hs:∀(i:Nat) a v H1 (R:VK) (R':Hp->Prop),ps[i]? = some a->Is K H1 (prD a) v->Same H H1->(t a=true->∀ y H2,Same H1 H2->Is K H2 (f a) y->R y H2)->(t a=false->∀ H2,Same H1 H2->R' H2) ->
   g v (List.replicate k none++Pg σ js) H1 fun σ2 H2=>tt σ2 H2 λb H3=>if b=true then te σ2 H3 R else R' H3)
  (hd:∀ p ys H',H p=none->Same H H'->H' p=some (.lst ys)->IsL K H' ((ps.filter t).map f) ys->Q (.ref p) H'):Gb K x H λJ H1=>Ly k js g tt te σ J H1 Q:=by
 obtain⟨a,xs,rfl,hS,hL⟩:=Is.tup h;have hl:ps.length=xs.length:=by rw[<- IsL.length hL,A01]
 refine Wf hS (Jc (K:=K) (Ia (xs:=xs)) ps hl t f hf nofun (λH' e=>e.seqT hS) (λi z v H1 R R' hz hv e hR hR'=>?_) hd);obtain⟨d,e1,e2⟩:=IsL.get (IsL.mono e _ _ hL) hv;rw[A09,hz] at e1
 cases e1;exact hs i z v H1 R R' hz e2 e hR hR'
theorem Qu {ns:List Str}{a:Addr}{ys:List V}(h:H a=some (.lst ys))(g:IsL K H (ns.map PyData.str) ys)(k:∀ v H',Same H H'->Is K H' (nmD ns) v->Q v H'):Nn K [.ref a] H Q:=by have e:=IsL.str_eq g;subst e;exact Ho (SqL.of h) λp H' hp e h'=>k _ H' e (R0 (SqT.of h'))
theorem K3 {ps:List (Str×Str)}{a:Addr}{ys:List V}(h:H a=some (.lst ys))(g:IsL K H (ps.map prD) ys)(k:∀ v H',Same H H'->Is K H' (psD ps) v->Q v H'):Nn K [.ref a] H Q:=
 Ho (SqL.of h) λp H' hp e h'=>k _ H' e (Is.of_tup (SqT.of h') (IsL.mono e _ _ g))
end
end L2
namespace L2
open PySem PySem.Spec PyProof.Rows
open AutoSeq1 (wpAny_loadPart')
section
variable {prog:Program}{w:World}{A:Around}{E:Value->Shared->Prop}{s:Shared}
theorem ay4 {it t:Addr}{i:Nat}{items:Array Value}{x:Value}{Q:Value->Shared->Prop}(hit:s.heap.IsTupleIter it t i)(ht:s.heap.IsTuple t items)(hx:items[i]? = some x)
  (hQ:∀ h',h'.IsTupleIter it t (i+1)->Heap.SameBut it s.heap h'->Q x {s with heap:=h'}):wpAny (model prog w) A (Builtin.SmallTypes.nextOf (.ref it)) Q E s:=by
 obtain⟨o,o1,o2,o3⟩:=id hit;obtain⟨u,u1,_,n,u2⟩:=ht;unfold Builtin.SmallTypes.nextOf;refine A00 (A1V (name:=Str.ofString "__next__") hit.typeIs F.slot_tuple_iterator_next (A2J F.slot_tuple_iterator_next hit.typeIs F.entry_tuple_iterator_next ?_ (F.args_tuple_iterator_next_1 _)));refine A00 (m:=field (.ref it) 0) (A1E o1 o3 (x:=.ref t) rfl ?_);rw[A10 (show ¬ ((Value.ref t==Value.none)=true) by intro h;cases h)];refine A00 (m:=field (.ref it) 1) (A1E o1 o3 (x:=.int i 0) rfl ?_);refine A00 (m:=seqItems? (.ref t)) (A25 u1 u2 ?_);simp only[Int.toNat_natCast,hx];refine wpAny_bind (wpAny_setField o1 o3 (by simp) (wpAny_pure ⟨x,rfl,wpAny_pure (hQ _ ⟨_,Heap.get?_update_self _ o1 (Obj.isFreed_of_fields (Obj.data_mapFields o3 _)),(Obj.cls_mapFields ..).trans o2,?_⟩ (Heap.SameBut.update ..))⟩));rw[A4E o3];simp[rawInt]
theorem aG7 {it t:Addr}{i:Nat}{items:Array Value}{Q:Value->Shared->Prop}(hh:A.handled=none)(hit:s.heap.IsTupleIter it t i)(ht:s.heap.IsTuple t items)(hx:items[i]? = none)
  (hE:∀ h' e,Heap.ExtBut it s.heap h'->(∃ o,h'.get? e=some o/\o.cls = .type "StopIteration")->E (.ref e) {s with heap:=h'}):wpAny (model prog w) A (Builtin.SmallTypes.nextOf (.ref it)) Q E s:=by
 obtain⟨o,o1,o2,o3⟩:=id hit;obtain⟨u,u1,_,n,u2⟩:=ht;unfold Builtin.SmallTypes.nextOf;refine A00 (A1V (name:=Str.ofString "__next__") hit.typeIs F.slot_tuple_iterator_next (A2J F.slot_tuple_iterator_next hit.typeIs F.entry_tuple_iterator_next ?_ (F.args_tuple_iterator_next_1 _)));refine A00 (m:=field (.ref it) 0) (A1E o1 o3 (x:=.ref t) rfl ?_);rw[A10 (show ¬ ((Value.ref t==Value.none)=true) by intro h;cases h)];refine A00 (m:=field (.ref it) 1) (A1E o1 o3 (x:=.int i 0) rfl ?_);refine A00 (m:=seqItems? (.ref t)) (A25 u1 u2 ?_);simp only[Int.toNat_natCast,hx];refine wpAny_bind (wpAny_rule (wpAny_bind (wpAny_setField o1 o3 (by simp) ?_)));refine A00 (m:=newExc (.type "StopIteration") []) ?_;simp only[newExc,newTuple];refine A00 (A2E ?_ (by size_fits));refine wpAny_bind (m:=firstArgMember _ _) (wpAny_of_eq (a:=Value.none) (by first | rfl | (simp only[firstArgMember];rfl)) (wpAny_newObj_type ?_ (by size_fits)))
 simp only[raiseNew];refine A00 (wpAny_handled ?_)
 first | rw[show A.in1.handled=none from hh] | rw[hh]
 refine A00 (A06 (wpAny_throw (hE _ _ (((Heap.SameBut.update ..).extBut.push _).push _) ⟨_,A0B _ rfl,rfl⟩)))
theorem Xx (hh:A.handled=none)(it t:Addr)(hne:t≠it)(items:Array Value):Draws prog w A it [it,t] items.size (λi v=>items[i]? = some v) (λi h=>h.IsTupleIter it t i/\h.IsTuple t items) where
 live:=λ_ _ q=>let ⟨o,ho,_⟩:=q.1;⟨o,ho⟩
 frame:=λ_ _ _ q hk=>⟨q.1.at λo e=>hk it (by simp) o e,let ⟨o,ho,r⟩:=q.2;⟨o,hk t (by simp) o ho,r⟩⟩
 item:=λi s Q E hi q hQ=>ay4 q.1 q.2 (x:=items[i]) (by simp[hi]) λh' a b=>hQ _ h' s.toks (by simp[hi]) ⟨a,q.2.extBut b.extBut hne⟩ b
 done:=λs Q E q hE=>aG7 hh q.1 q.2 (by simp) hE
theorem Vs (l:Addr)(items:Array Value)(n:Nat)(dct:Option Addr)(sl:Array (Option Value)) :
  Meets (Builtin.«enumerate.__new__» ⟨[.type "enumerate",.ref l],[]⟩) (λ_ R s=>s.heap.get? l=some {cls:=.type "tuple",dict:=dct,data:=.seq items n,slots:=sl} /\
   R (.ok (.ret (.ref (s.heap.push {cls:=.type "tuple_iterator",data:=.fields #[.ref l,.int 0 0]}).objs.size)))
    {s with heap:=(s.heap.push {cls:=.type "tuple_iterator",data:=.fields #[.ref l,.int 0 0]}).push {cls:=.type "enumerate",data:=.fields #[.none,.bool false,.ref s.heap.objs.size,rawInt 0,.none,.none]}}):=
 .of_wp λprog w A R s h=>by
  obtain⟨hp,g,d,tk,os⟩:=s;obtain⟨hl,h⟩:=h;have hsub:=sub_enumerate;have hT:Heap.IsTuple (Shared.heap ⟨hp,g,d,tk,os⟩) l items:=⟨_,hl,rfl,n,rfl⟩
  wp_walk using wpAny_loadPart' hl
  refine wpAny_stack_any λst=>A06 ?_
  split
  . rename_i c _ _ _ _ _
    cases (c==Value.type "enumerate")<;>(wp_walk using wpAny_loadPart' hl,A2A hT;exact⟨_,rfl,h⟩)
  wp_walk using wpAny_loadPart' hl,A2A hT
  exact⟨_,rfl,h⟩
theorem Z6 {l:Addr}{items:Array Value}{Q:Value->Shared->Prop}(hL:s.heap.IsTuple l items)
  (h:∀ h',IsEnum h' (s.heap.objs.size+1) s.heap.objs.size 0 .none->h'.IsTupleIter s.heap.objs.size l 0->(∀ b o,s.heap.get? b=some o->h'.get? b=some o)->Q (.ref (s.heap.objs.size+1)) {s with heap:=h'}) :
  wpAny (model prog w) A (call (.type "enumerate") [.ref l]) Q E s:=by
 obtain⟨⟨c,dct,dt,sl⟩,hl,hc,n,hd⟩:=hL;replace hc:c = .type "tuple":=hc;replace hd:dt = .seq items n:=hd;subst hc hd;refine callType_new F.called_enumerate ∅ (F.typeCall_enumerate_1 _) (F.newCall_enumerate_1 _) (λobj=>F.args_object_init_2 obj _) F.entry_enumerate_new (Vs l items n dct sl) ⟨hl,?_⟩;have hz:(s.heap.push {cls:=.type "tuple_iterator",data:=.fields #[.ref l,.int 0 0]}).objs.size=s.heap.objs.size+1:=A1P ..;show _/\_;have he:=A0B (s.heap.push {cls:=.type "tuple_iterator",data:=.fields #[.ref l,.int 0 0]}) (o:={cls:=.type "enumerate",data:=.fields #[.none,.bool false,.ref s.heap.objs.size,rawInt 0,.none,.none]}) rfl;rw[hz] at he ⊢;exact⟨⟨_,he,rfl⟩,h _ he ⟨_,A02 _ (A0B _ rfl),rfl,rfl⟩ λb o x=>A02 _ (A02 _ x)⟩
end
theorem Inv.turnedL {X:Cx}{pins:List (Addr×Obj)}{σ:St}{H:Hp}{s:Shared}{h':Heap}{t':Nat}{ch:List Addr}(I:Inv X pins σ H s)(k:∀ b o,b∉ch->s.heap.get? b=some o->h'.get? b=some o)(hf:∀ b∈ch,Xz X pins H b):Inv X pins σ H {s with heap:=h',toks:=t'}:=by
 have nit:∀ b u,H b=some u->b∉ch:=λb u e z=>by rw[(hf b z).1] at e;cases e
 refine I.step (g':=s.gens) (d':=s.drawn) (ch:=ch) (λb hb=>?_) (λb o _ _ hc e _=>k b o hc e) (λb o _ _ hc e _=>⟨o.slots,k b o hc e⟩) (λ_ _ _ _ n=>n)
  (λb o hc e=>⟨o,k b o hc e⟩) (λ_ _ e=>e) (λ_ _ _ e=>e) (λb ps e=>⟨#[],by rw[e];simp⟩) (λm hm=>?_) (λb u e=>?_) I.bare
 . obtain⟨_,h2,_,h4,h5,h6⟩:=hf b hb;exact⟨h4,h2,h5,h6⟩
 . obtain⟨o,es,ep,ho,r⟩:=hm;exact⟨o,es,ep,k _ o (λz=>(hf _ z).2.1 rfl) ho,r⟩
 refine(I.hok b u e).stay (λc v hc q=>k c v ?_ q) (λ_ q=>q) λ_ _ q=>q;rcases hc with z|z
 . rw[z];exact nit b u e
 exact nit c _ z
def Ite (K:W.Frag)(a:Addr):It:=
 ⟨λi H=>∃ xs x,SqT K H a xs/\xs[i]? = some x,λi H v H'=>∃ t x,H t=none/\H'=upd H t (.tup [.int i,x])/\v = .ref t/\∀ xs,SqT K H a xs->xs[i]? = some x,λi H=>∃ xs,SqT K H a xs/\xs.length=i⟩
theorem a78 {P:Program}{w:World}{K:W.Frag}{elts:List Expr}{ek:Nat}{epos:Pos}(a it e:Addr)(hei:e≠it)(hai:a≠it)(hae:a≠e):ag2 P w K (.Tuple elts ek epos) (Ite K a) [e,it] e (λi h=>(∃ old,IsEnum h e it i old)/\h.IsTupleIter it a i) where
 mem:=by simp
 obj:=λi h st b hb=>by
  obtain⟨⟨old,h1⟩,o,h2,h3,h4⟩:=st;rcases A0F.mp hb with rfl|hb
  . exact⟨_,h1,λv z=>by cases z⟩
  have q:b=it:=by simpa using hb
  subst q;exact⟨o,h2,λv z=>by rw[h4] at z;cases z⟩
 keep:=λi h h' st k=>by obtain⟨⟨old,h1⟩,h2⟩:=st;exact⟨⟨old,k e (by simp) _ h1⟩,h2.at λo q=>k it (by simp) o q⟩
 item:=by
  intro X hP hw hK hc i pins s σ H E I hf st hg;subst hP hw hK;obtain⟨xs,x,hq,hx⟩:=hg;obtain⟨its,rv,p,hz⟩:=I.tuple hq
  have hil:i<its.length:=by have:=(A03.mp hx).1;rw[<- rv.length];exact this
  have D:=Xx (prog:=X.prog) (w:=X.w) (A:=X.A.in1) (by simpa using I.ok.hd hc) it a hai its.toArray;obtain⟨⟨old,he⟩,hit⟩:=st;have hel:e<s.heap.objs.size:=A08 he;have hil':it<s.heap.objs.size:=let ⟨_,q,_⟩:=hit;A08 q;refine wpAny_pyNext_enum_itemD D he ⟨hit,p⟩ (by simpa using hil) hei (by simp[hei,Ne.symm hae]) λv h1 tk hv ho hst hT hsz hk=>?_;obtain⟨u,hu,ru⟩:=rv.get hx
  have hvu:v=u:=by have hv':its.toArray[i]? = some v:=hv;rw[A3Z,hu] at hv';exact(A0Z hv').symm
  subst hvu;refine⟨_,rfl,wpAny_letOwnedTupleGo_enum ho λh2 he2 hs2=>?_⟩;have hTn:H s.heap.objs.size=none:=I.hok.fresh (A0D _);have hT2:h2.get? s.heap.objs.size=some {cls:=.type "tuple",data:=.seq #[.int i tk,v]}:=(hs2.2 _ (A26 hel)).trans hT
  have I1:Inv X pins σ (upd H s.heap.objs.size (.tup [.int i,x])) {s with heap:=s.heap.push {cls:=.type "tuple",data:=.seq #[.int i tk,v]}}:=
   I.laid (t':=s.toks) (λb ob q=>Heap.get?_push_of_some _ q) (Nat.le_refl _) ⟨by simp[sizeLine_eq],[.int i tk,v],.cons ⟨tk,rfl⟩ (.cons ru .nil),_,Heap.get?_push_size _ rfl,rfl,⟨_,rfl⟩,rfl⟩
  have nT:∀ b∈[e,it],b≠s.heap.objs.size:=λb hb=>by
   rcases A0F.mp hb with rfl|hb
   . exact A0J hel
   have q:b=it:=by simpa using hb
   subst q;exact A0J hil'
  have I2:Inv X pins σ (upd H s.heap.objs.size (.tup [.int i,x])) {s with heap:=h2,toks:=tk+1}:=Inv.turnedL (s:={s with heap:=s.heap.push {cls:=.type "tuple",data:=.seq #[.int i tk,v]}}) (ch:=[e,it]) I1 (λb ob hb q=>?_) (λb hb=>?_)
  . refine⟨.ref s.heap.objs.size,_,I2,rfl,⟨_,x,hTn,rfl,rfl,λys hy=>by rw[I.tuple_inj hy hq];exact hx⟩,⟨⟨_,by simpa using he2⟩,hst.1.at λo q=>(hs2.2 it (Ne.symm hei)).trans q⟩,λb hb=>?_⟩;rw[Az (nT b hb)];exact(hf b hb).1
  . have hbe:b≠e:=λz=>hb (by simp[z]);have hbi:b≠it:=λz=>hb (by simp[z]);rcases Heap.get?_push_cases q with ⟨rfl,rfl⟩|q
    . exact hT2
    exact(hs2.2 b hbe).trans (hk b ob hbe hbi q)
  obtain⟨f0,f1,f2,f3,f4,f5⟩:=hf b hb;exact⟨by rw[Az (nT b hb)];exact f0,f1,f2,f3,f4,f5⟩
 done:=by
  intro X hP hw hK hc i pins s σ H E I hf st hg;subst hP hw hK;obtain⟨xs,hq,hx⟩:=hg;obtain⟨its,rv,p,hz⟩:=I.tuple hq;obtain⟨⟨old,he⟩,hit⟩:=st;have hlen:its.toArray.size=i:=by rw[A0W,<- rv.length];exact hx
  have D:=Xx (prog:=X.prog) (w:=X.w) (A:=X.A.in1) (by simpa using I.ok.hd hc) it a hai its.toArray;rw[hlen] at D;refine wpAny_pyNext_enum_endD D he ⟨hit,p⟩ λh' hk=>⟨rfl,I.turnedL (t':=s.toks) (ch:=[e,it]) (λb o hb q=>hk b o (λz=>hb (by simp[z])) q) hf⟩
 self:=by intro A i s Q E st hQ;obtain⟨⟨old,he⟩,_⟩:=st;exact A4O he hQ
section
variable {X:Cx}{K:W.Frag}
def a07 (K:W.Frag)(vs:List V)(H:Hp)(R:It->Hp->Prop):Prop:=∃ a xs,vs=[.ref a]/\SqT K H a xs/\R (Ite K a) H
def aG3 (K:W.Frag)(ta:TA):TI:=fun σ H R=>ta σ H λvs H1=>a07 K vs H1 R
theorem Js:bootBuiltins "enumerate" = some (.type "enumerate"):=PyProof.Rows.Boot.«enumerate»
theorem Qz {e:Expr}{ta:TA}{p pos:Pos}{elts:List Expr}{ek:Nat}{epos:Pos}(hg:Gl X "enumerate")(hm:X.mg "enumerate" = none)(ha:PA X [e] ta)(hK:X.K=K:=by ac_nf)(hs:starEach [e] X.env=[(false,eval e X.env)]:=by ac_nf) :
  PI X (.Tuple elts ek epos) (.Call (.Name "enumerate" p) [e] [] pos) (aG3 K ta):=by
 subst hK;intro pins s σ H R I h;refine Call_ (Ip I hg hm Js (A1M (thn (ha pos pins s σ H _ I h) λus s1 ⟨vs,H1,I1,r1,q1⟩=>?_) hs rfl));obtain⟨a,xs,rfl,hq,q⟩:=q1;obtain⟨u,rfl,ru⟩:=Vals.one r1
 cases ru;obtain⟨its,rv,ht,hz⟩:=I1.tuple hq;have hal:a<s1.heap.objs.size:=let ⟨_,q,_⟩:=ht;A08 q;refine Z6 ht λh' he hit hk=>?_;refine A4O he ?_;refine⟨s1.heap.objs.size+1,[s1.heap.objs.size+1,s1.heap.objs.size],_,_,H1,rfl,I1.kept (t':=s1.toks) hk,a78 a s1.heap.objs.size (s1.heap.objs.size+1) (Nat.succ_ne_self _) (A0J hal) (A0J (A3C hal)),⟨⟨_,he⟩,hit⟩,λb hb=>?_,q⟩;rcases A0F.mp hb with rfl|hb
 . exact I1.fpOk (A38 _) (I1.hok.fresh (A38 _))
 have e:b=s1.heap.objs.size:=by simpa using hb
 subst e;exact I1.fpOk (A0D _) (I1.hok.fresh (A0D _))
end
section
variable {K:W.Frag}{σ:St}{H:Hp}
theorem i_ienum {ts:TA}{R:It->Hp->Prop}(k:ts σ H λvs H1=>a07 K vs H1 R):aG3 K ts σ H R:=k
theorem an1 {xs:List V}{a:Addr}{n m:Nat}{tb:TS}{D:Ends}(h:SqT K H a xs)(Pv:Nat->St->Hp->Prop)(h0:Pv 0 σ H)(hG:∀ i σ' H',Pv i σ' H'->SqT K H' a xs)
  (hs:∀ i x σ' H' H2,xs[i]? = some x->Pv i σ' H'->Same H' H2->tb {D with nx:=Pv (i+1),ct:=Pv (i+1),bk:=D.nx} ((σ'.set n (some (.int i))).set m (some x)) H2) (hd:∀ σ' H',Pv xs.length σ' H'->D.nx σ' H') :
  a07 K [.ref a] H λJ H1=>ar8 (al0 K 2 (Ke (Ht n) (Ke (Ht m) ao1))) tb D σ J H1:=by
 refine⟨a,xs,rfl,h,λi k σ' H'=>k=xs.length-i/\i<=xs.length/\Pv i σ' H',⟨xs.length,by simp,Nat.zero_le _,h0⟩,?_⟩;rintro i k σ' H' ⟨rfl,hi,p⟩;have g:=hG i σ' H' p
 by_cases hlt:i<xs.length
 . refine .inr ⟨⟨xs,xs[i],g,A04 hlt⟩,Pv (i+1),fun σ2 H2 p2=>⟨xs.length-(i+1),by omega,rfl,hlt,p2⟩,λv H2 y=>?_⟩;obtain⟨t,x,ht,rfl,rfl,hx⟩:=y;exact⟨t,_,rfl,SqT.of Ad,rfl,.int i,[x],rfl,x,[],rfl,rfl,hs i x σ' H' _ (hx xs g) p (Same.upd ht)⟩
 have e:i=xs.length:=by omega
 subst e;exact .inl ⟨⟨xs,g,rfl⟩,hd σ' H' p⟩
theorem Vv {ps:List (Str×Str)}{x:V}{n m:Nat}{tb:TS}{D:Ends}(h:Is K H (psD ps) x)(Pv:Nat->St->Hp->Prop)(h0:Pv 0 σ H)(hG:∀ i σ' H',Pv i σ' H'->Fz H H')
  (hs:∀ i p v σ' H' H2,ps[i]? = some p->Is K H2 (prD p) v->Pv i σ' H'->Same H' H2->tb {D with nx:=Pv (i+1),ct:=Pv (i+1),bk:=D.nx} ((σ'.set n (some (.int i))).set m (some v)) H2) (hd:∀ σ' H',Pv ps.length σ' H'->D.nx σ' H') :
  a07 K [x] H λJ H1=>ar8 (al0 K 2 (Ke (Ht n) (Ke (Ht m) ao1))) tb D σ J H1:=by
 obtain⟨a,xs,rfl,hS,hL⟩:=Is.tup h;have hl:ps.length=xs.length:=by rw[<- IsL.length hL,A01]
 refine an1 hS Pv h0 (λi σ' H' p=>(hG i σ' H' p).seq hS) (λi v σ' H' H2 hv p e=>?_) fun σ' H' p=>hd σ' H' (by rw[<- hl] at p;exact p);obtain ⟨d,e1,e2⟩:=IsL.get (IsL.fz ((hG i σ' H' p).trans e.fz) _ _ (Cf ps) hL) hv;rw[A09] at e1
 cases hn:ps[i]? with
 |none=>rw[hn] at e1;cases e1
 |some z=>
   rw[hn] at e1
   cases e1;exact hs i z v σ' H' H2 hn e2 p e
end
end L2
namespace L2
open PySem PySem.Spec PyProof.Rows
section
variable {X:Cx}{K:W.Frag}
section
variable {H:Hp}{Q:VK}{lo hi:Option Int}
theorem Oq {a b:Addr}{xs ys:List V}(h1:SqT K H a xs)(h2:SqT K H b ys)(h:xs.length+ys.length<=sizeLine)(k:∀ p H',Same H H'->SqT K H' p (xs++ys)->Q (.ref p) H'):Yz K (.ref a) (.ref b) H Q:=by
 by_cases hx:xs=[]
 . subst hx;exact .inr (.inr (.inr (.inr ⟨a,b,ys,rfl,rfl,h1,h2,k b H (Same.refl _) h2⟩)))
 refine .inr (.inr (.inr (.inl ⟨a,b,xs,ys,rfl,rfl,h1,h2,hx,h,λe=>?_,λ_ p hp=>k p _ (Same.upd hp) (SqT.of Ad)⟩)));subst e;exact k a H (Same.refl _) (by rw[A1Z];exact h1)
theorem aO2 {a:Addr}{xs:List V}(h:SqT K H a xs)(k:∀ p H',Same H H'->SqT K H' p (Ph xs lo hi)->Q (.ref p) H'):aE7 K (.ref a) lo hi H Q:=by
 by_cases hw:HT.sIx xs.length 0 lo=0/\HT.sIx xs.length xs.length hi=xs.length
 . refine .inr (.inr (.inr ⟨a,xs,rfl,h,hw,k a H (Same.refl _) ?_⟩))
   have e:Ph xs lo hi=xs:=by unfold Ph;rw[hw.1,hw.2,List.drop_zero,Nat.sub_zero,A13]
   rw[e];exact h
 exact .inr (.inl ⟨a,xs,rfl,h,hw,λp hp=>k p _ (Same.upd hp) (SqT.of Ad)⟩)
end
end
def jsD (js:List Nat):PyData:=.tuple (js.map λ(j:Nat)=>PyData.int (j:Int))
theorem ap9 (js:List Nat):frz (jsD js)=true:=by unfold jsD;simp only[frz];exact Gi _ (λ_=>by simp[frz]) js
structure Trl (ps:List (Str×Str))(x:Str)(js:List Nat)(y:Str)(os:List Str):Prop where
 len:os.length=js.length
 hd:(os++[y])[0]? = some x
 ed:∀(i j:Nat),js[i]? = some j->∃ a b,(os++[y])[i]? = some a/\(os++[y])[i+1]? = some b/\ps[j]? = some (a,b)
 nd:(os++[y]).Nodup
theorem Trl.nil (ps:List (Str×Str))(x:Str):Trl ps x [] x []:=⟨rfl,rfl,λi j h=>by simp at h,by simp⟩
theorem Trl.snoc {ps:List (Str×Str)}{x y z:Str}{js:List Nat}{os:List Str}{j:Nat}(h:Trl ps x js y os)(hj:ps[j]? = some (y,z))(hz:z∉os++[y]):Trl ps x (js++[j]) z (os++[y]):=by
 refine⟨by simp[h.len],?_,λi k hk=>?_,?_⟩
 . rw[List.getElem?_append_left (by simp)];exact h.hd
 . by_cases hi:i<js.length
   . rw[A2O hi] at hk;obtain⟨a,b,h1,h2,h3⟩:=h.ed i k hk;have l:=h.len;refine⟨a,b,?_,?_,h3⟩
     . rw[List.getElem?_append_left (by simp;omega)];exact h1
     rw[List.getElem?_append_left (by simp;omega)];exact h2
   have hi':i=js.length:=by have:=(A03.mp hk).1;rw[A0C,A28] at this;omega
   subst hi';have e:k=j:=by simpa using hk.symm
   subst e;have l:=h.len;refine⟨y,z,?_,?_,hj⟩
   . rw[List.getElem?_append_left (by simp;omega),<- l];simp
   rw[<- l];simp
 rw[A16];refine⟨h.nd,by simp,λa ha b hb e=>?_⟩;have:b=z:=by simpa using hb
 subst this;subst e;exact hz ha
theorem Trl.way {ps:List (Str×Str)}:∀ {js:List Nat} {x y:Str} {os:List Str},Trl ps x js y os->x=y\/Way ps x y:=by
 intro js x y os h;have l:=h.len
 suffices g:∀ i,i<=js.length->∀ z,(os++[y])[i]? = some z->z=x\/Way ps x z by
  rcases g js.length (Nat.le_refl _) y (by rw[<- l];simp) with e|e
  . exact .inl e.symm
  exact .inr e
 intro i
 induction i with
 |zero=>intro _ z hz;rw[h.hd] at hz;exact .inl (A0Z hz).symm
 |succ i ih=>
   intro hi z hz;obtain⟨j,hj⟩:∃ j,js[i]? = some j:=⟨js[i]'nofun,A04 _⟩;obtain⟨a,b,h1,h2,h3⟩:=h.ed i j hj;rw[hz] at h2
   cases h2;rcases ih nofun a h1 with e|e
   . subst e;exact .inr (.one (A05 h3))
   exact .inr (e.snoc (A05 h3))
structure WyI (ps:List (Str×Str))(x:Str)(ks ws:List Str):Prop where
 nd:ks.Nodup
 has:x∈ks
 way:∀ y∈ks,y=x\/Way ps x y
 line:∀ z∈ws,z∈ks
 shut:∀ z∈ks,z∉ws->∀ y,(z,y)∈ps->y∈ks
 few:ws.length<=ks.length
theorem WyI.le {ps:List (Str×Str)}{x:Str}{ks ws:List Str}(h:WyI ps x ks ws):ks.length<=ps.length+1:=by
 have:=Cl (ys:=x :: ps.map (·.2)) h.nd λy hy=>by
  rcases h.way y hy with e|e
  . exact e ▸ A12
  exact A0L _ e.right
 rwa[A0E,A01] at this
structure WyJ (ps:List (Str×Str))(x here:Str)(ks ws gs ms:List Str)(i:Nat):Prop where
 nd:gs.Nodup
 way:∀ y∈gs,y=x\/Way ps x y
 line:∀ z∈ms,z∈gs
 keep:∀ z∈ks,z∈gs
 keepL:∀ z∈ws,z∈ms
 new:∀ z∈gs,z∈ks\/z∈ms
 seen:∀ j<i,∀ y,ps[j]? = some (here,y)->y∈gs
 len:gs.length+ws.length=ks.length+ms.length
theorem WyJ.le {ps:List (Str×Str)}{x here:Str}{ks ws gs ms:List Str}{i:Nat}(h:WyJ ps x here ks ws gs ms i):gs.length<=ps.length+1:=by
 have:=Cl (ys:=x :: ps.map (·.2)) h.nd λy hy=>by
  rcases h.way y hy with e|e
  . exact e ▸ A12
  exact A0L _ e.right
 rwa[A0E,A01] at this
theorem WyJ.step {ps:List (Str×Str)}{x here:Str}{ks ws gs ms:List Str}{i:Nat}{p:Str×Str}(h:WyJ ps x here ks ws gs ms i)(hh:here∈gs)(hp:ps[i]? = some p)(h1:p.1=here)(h2:p.2∉gs):WyJ ps x here ks ws (gs++[p.2]) (ms++[p.2]) (i+1):=by
 have hm:(here,p.2)∈ps:=by rw[<- h1];exact A05 hp
 refine⟨?_,λy hy=>?_,λz hz=>?_,λz hz=>A0G _ (h.keep z hz),λz hz=>A0G _ (h.keepL z hz),λz hz=>?_,λj hj y e=>?_,?_⟩
 . rw[A16];refine⟨h.nd,by simp,λa ha b hb e=>?_⟩;have:b=p.2:=by simpa using hb
   subst this;subst e;exact h2 ha
 . rcases A0I.mp hy with hy|hy
   . exact h.way y hy
   have:y=p.2:=by simpa using hy
   subst this;rcases h.way here hh with rfl|hw
   . exact .inr (.one hm)
   exact .inr (hw.snoc hm)
 . rcases A0I.mp hz with hz|hz
   . exact A0G _ (h.line z hz)
   exact A0Q _ hz
 . rcases A0I.mp hz with hz|hz
   . rcases h.new z hz with e|e
     . exact .inl e
     exact .inr (A0G _ e)
   exact .inr (A0Q _ hz)
 . by_cases hji:j=i
   . subst hji;rw[hp] at e
     cases e;exact List.mem_append_right _ (by simp)
   exact A0G _ (h.seen j nofun y e)
 rw[A0C,A0C,A28];have:=h.len;omega
theorem WyJ.skip {ps:List (Str×Str)}{x here:Str}{ks ws gs ms:List Str}{i:Nat}{p:Str×Str}(h:WyJ ps x here ks ws gs ms i)(hp:ps[i]? = some p)(h1:p.1=here->p.2∈gs):WyJ ps x here ks ws gs ms (i+1):=by
 refine⟨h.nd,h.way,h.line,h.keep,h.keepL,h.new,λj hj y e=>?_,h.len⟩
 by_cases hji:j=i
 . subst hji;rw[hp] at e
   cases e;exact h1 rfl
 exact h.seen j nofun y e
theorem WyJ.done {ps:List (Str×Str)}{x here:Str}{ks ws gs ms:List Str}(I:WyI ps x ks (here :: ws))(h:WyJ ps x here ks ws gs ms ps.length):WyI ps x gs ms:=by
 refine⟨h.nd,h.keep x I.has,h.way,h.line,λz hz hm y hy=>?_,?_⟩
 . by_cases e:z=here
   . subst e;obtain⟨j,hj,ej⟩:=A23 hy;exact h.seen j hj y (by rw[A04 hj,ej])
   have hz':z∈ks:=by
    rcases h.new z hz with q|q
    . exact q
    exact absurd q hm
   refine h.keep y (I.shut z hz' (λq=>?_) y hy);rcases A0F.mp q with q|q
   . exact e q
   exact hm (h.keepL z q)
 have:=h.len;have:=I.few;rw[A0E] at this;omega
theorem WyI.all {ps:List (Str×Str)}{x:Str}{ks:List Str}(h:WyI ps x ks []){y:Str}(g:Way ps x y):y∈ks:=
 Way.shut (S:=λy=>y∈ks) (λy hy=>h.shut x h.has (by simp) y hy) (λz y hz hy=>h.shut z hz (by simp) y hy) g
theorem au2 {ns:List Str}{as:List Addr}{z:Str}{a:Addr}(hz:z∉ns)(h:ns.length=as.length):Gj (K2 ns as) (Sum.inr z:Key) (.ref a)=K2 (ns++[z]) (as++[a]):=by
 rw[X9 h];unfold Gj;rw[A10];rw[A19];rintro⟨kv,hkv,e⟩;obtain⟨p,hp,rfl⟩:=A0A.mp hkv;have e':(Sum.inr p.1:Key)=Sum.inr z:=A4N e;have e2:p.1=z:=by injection e'
 exact hz (e2 ▸ (A47 hp).1)
theorem I0:∀ {ns:List Str} {as:List Addr} {z:Str},z∉ns->Dn (K2 ns as) (Sum.inr z:Key)=none
 | [],_,_,_=>rfl
 |n :: ns,[],_,_=>rfl
 |n :: ns,a :: as,z,h=>by
   show Dn ((Sum.inr n,V.ref a) :: K2 ns as) _=_;rw[Be (by intro q;injection q with q;exact h (q ▸ A12))]
   exact I0 λq=>h (A0L _ q)
section
variable {K:W.Frag}{σ:St}{H:Hp}{Q:VK}{td ty:TE}
def as5 (ty:TE)(σ:St)(x:V)(H1:Hp)(Q:VK):Prop:=∃ a,x = .ref a/\IsD H1 a/\ty σ H1 λy H2=>∃ o,DGet H2 a y o/\Q (o.getD .non) H2
theorem i_dget1 (k:td σ H λx H1=>as5 ty σ x H1 Q):ap0 td ty σ H Q:=k
theorem aI2 {a:Addr}{kvs:List (Key×V)}(h:H a=some (.dK kvs))(k:ty σ H λy H2=>∃ o,DGet H2 a y o/\Q (o.getD .non) H2):as5 ty σ (.ref a) H Q:=⟨a,rfl,.inl ⟨kvs,.inl h⟩,k⟩
theorem aG5 {a:Addr}{kvs:List (Key×V)}{z:Str}(h:H a=some (.dK kvs))(k:Q ((Dn kvs (Sum.inr z:Key)).getD .non) H):∃ o,DGet H a (.str z) o/\Q (o.getD .non) H:=⟨_,DGet.k (k:=Sum.inr z) h,k⟩
theorem al7 {r:Addr}{ks:List Str}{ts:List Addr}{z:Str}(h:H r=some (.dK (K2 ks ts)))(hl:ts.length=ks.length)(k:Q (.bl (!decide (z∈ks))) H):Z7 K true (.str z) (.ref r) H Q:=by
 refine .inr (.inr (.inl ⟨r,Dn (K2 ks ts) (Sum.inr z:Key),rfl,DGet.k (k:=Sum.inr z) h,?_⟩))
 by_cases e:z∈ks
 . obtain⟨i,hi,ei⟩:=A23 e
   have:(Dn (K2 ks ts) (Sum.inr z:Key)).isSome=true:=by
    suffices g:∀(ks:List Str) (ts:List Addr),ts.length=ks.length->z∈ks->(Dn (K2 ks ts) (Sum.inr z:Key)).isSome=true from g ks ts hl e
    intro ks
    induction ks with
    |nil=>intro ts _ h;cases h
    |cons c ks ih=>
      intro ts hl hm
      cases ts with
      |nil=>cases hl
      |cons t ts=>
        by_cases hc:c=z
        . subst hc;show(Dn ((Sum.inr c,V.ref t) :: K2 ks ts) _).isSome=true;rw[Bm rfl];rfl
        show(Dn ((Sum.inr c,V.ref t) :: K2 ks ts) _).isSome=true;rw[Be (by intro q;injection q with q;exact hc q)]
        refine ih ts (by simpa using hl) ?_;rcases A0F.mp hm with q|q
        . exact absurd q.symm hc
        exact q
   rw[this];simpa[e] using k
 rw[I0 e];simpa[e] using k
theorem i_andV {ta tb:TE}(k:ta σ H λx H1=>∃ c,x = .bl c/\if c=true then tb σ H1 Q else Q (.bl false) H1):aD7 ta tb σ H Q:=k
theorem i_orV {ta tb:TE}(k:ta σ H λx H1=>∃ c,x = .bl c/\if c=true then Q (.bl true) H1 else tb σ H1 Q):aS8 ta tb σ H Q:=k
end
theorem Same.rd {H H':Hp}(e:Same H H'){a:Addr}{u:HO}(h:Rd H a u):Rd H' a u:=by
 rcases h with h|⟨o,h⟩
 . exact .inl (e _ _ h)
 exact .inr ⟨o,e _ _ h⟩
def Keep (as:List Addr)(H H':Hp):Prop:=(∀ b o,b∉as->H b=some o->H' b=some o)/\∀ a∈as,∀ u,Rd H a u->Rd H' a u
theorem Keep.refl (as:List Addr)(H:Hp):Keep as H H:=⟨λ_ _ _ h=>h,λ_ _ _ h=>h⟩
theorem Keep.trans {as:List Addr}{H H1 H2:Hp}(a:Keep as H H1)(b:Keep as H1 H2):Keep as H H2:=⟨λc o n h=>b.1 c o n (a.1 c o n h),λc hc u h=>b.2 c hc u (a.2 c hc u h)⟩
theorem Same.keep {H H':Hp}(e:Same H H')(as:List Addr):Keep as H H':=⟨λb o _ h=>e b o h,λa _ u h=>e.rd h⟩
theorem Keep.freeze {as:List Addr}{H:Hp}{a:Addr}{u:HO}{o:Obj}(ha:a∈as)(h:H a=some u)(hu:∀ o' u',u ≠ .frz o' u'):Keep as H (upd H a (.frz o u)):=by
 refine⟨λb q hb e=>?_,λb hb w e=>?_⟩
 . have hne:b≠a:=λz=>by subst z;exact hb ha
   rw[Az hne];exact e
 by_cases hba:b=a
 . subst hba;rcases e with e|⟨o',e⟩
   . rw[h] at e
     cases e;exact .inr ⟨o,Ad⟩
   rw[h] at e
   cases e;exact absurd rfl (hu _ _)
 rcases e with e|⟨o',e⟩
 . exact .inl (by rw[Az hba];exact e)
 exact .inr ⟨o',by rw[Az hba];exact e⟩
theorem Keep.rd {as:List Addr}{H H':Hp}(k:Keep as H H'){a:Addr}{u:HO}(h:Rd H a u):Rd H' a u:=by
 by_cases ha:a∈as
 . exact k.2 a ha u h
 rcases h with h|⟨o,h⟩
 . exact .inl (k.1 _ _ ha h)
 exact .inr ⟨o,k.1 _ _ ha h⟩
theorem Keep.fz {as:List Addr}{H H':Hp}(k:Keep as H H'):Fz H H':=λa xs h=>k.rd h
theorem Same.then {as:List Addr}{H H1 H2:Hp}(e:Same H H1)(ha:∀ a∈as,H a=none)(k:Keep as H1 H2):Same H H2:=λb o h=>k.1 b o (λhb=>by rw[ha b hb] at h;cases h) (e b o h)
theorem Keep.lst {as:List Addr}{H H1 H2:Hp}{p:Addr}(k:Keep as H H1)(e:ExtBut p H1 H2)(hp:H p=none)(hpa:p∉as):Keep as H H2:=by
 refine⟨λb o hb h=>e b o (λz=>?_) (k.1 b o hb h),λa ha u h=>?_⟩
 . subst z;rw[hp] at h
   cases h
 have hap:a≠p:=λz=>hpa (z ▸ ha);rcases k.2 a ha u h with g|⟨o,g⟩
 . exact .inl (e _ _ hap g)
 exact .inr ⟨o,e _ _ hap g⟩
structure TabR (H:Hp)(r:Addr)(ns:List Str)(as:List Addr)(R:Str->Str->Prop):Prop where
 len:as.length=ns.length
 top:Rd H r (.dK (K2 ns as))
 row:∀(i:Nat) (z:Str) (a:Addr),ns[i]? = some z->as[i]? = some a->∃ ks:List Str,Rd H a (.dK (Ii ks))/\ks.Nodup/\(∀ y∈ks,y∈ns)/\∀ y,y∈ks↔R z y
theorem Tab.toR {H:Hp}{r:Addr}{ns:List Str}{as:List Addr}{R:Str->Str->Prop}(h:Tab H r ns as R):TabR H r ns as R:=
 ⟨h.len,.inl h.top,λi z a hz ha=>let ⟨ks,h1,h2⟩:=h.row i z a hz ha;⟨ks,.inl h1,h2⟩⟩
theorem TabR.keep {bs:List Addr}{H H':Hp}{r:Addr}{ns:List Str}{as:List Addr}{R:Str->Str->Prop}(h:TabR H r ns as R)(k:Keep bs H H'):TabR H' r ns as R:=
 ⟨h.len,k.rd h.top,λi z a hz ha=>let ⟨ks,h1,h2⟩:=h.row i z a hz ha;⟨ks,k.rd h1,h2⟩⟩
theorem TabR.same {H H':Hp}{r:Addr}{ns:List Str}{as:List Addr}{R:Str->Str->Prop}(h:TabR H r ns as R)(e:Same H H'):TabR H' r ns as R:=h.keep (e.keep [])
theorem TabR.at {H:Hp}{r:Addr}{ns:List Str}{as:List Addr}{R:Str->Str->Prop}(h:TabR H r ns as R){x:Str}(hx:x∈ns):∃(i:Nat) (a:Addr),ns[i]? = some x/\as[i]? = some a:=by
 obtain⟨i,hi,e⟩:=A23 hx;have hi':i<as.length:=by rw[h.len];exact hi
 exact⟨i,as[i],by rw[A04 hi,e],A04 hi'⟩
section
variable {K:W.Frag}{σ:St}{H:Hp}{Q:VK}{r:Addr}{ns:List Str}{as:List Addr}{R:Str->Str->Prop}
theorem aG2 {a:Addr}{kvs:List (Key×V)}{z:Str}{v:V}(h:Rd H a (.dK kvs))(e:Dn kvs (Sum.inr z:Key)=some v)(k:Q v H):Vd K (.ref a) (.str z) H Q:=.inr ⟨a,v,rfl,.inl ⟨kvs,Sum.inr z,h,rfl,e.symm⟩,k⟩
theorem Y4 {x:Str}{i:Nat}{a:Addr}(h:TabR H r ns as R)(hn:ns.Nodup)(hx:ns[i]? = some x)(ha:as[i]? = some a)(k:Q (.ref a) H):Vd K (.ref r) (.str x) H Q:=aG2 h.top (Kf hn hx ha) k
theorem aj3 {a:Addr}{ks:List Str}{y:Str}(h:Rd H a (.dK (Ii ks)))(k:Q (.bl (decide (y∈ks))) H):Z7 K false (.str y) (.ref a) H Q:=by
 refine .inr (.inr (.inl ⟨a,Dn (Ii ks) (Sum.inr y:Key),rfl,.inl ⟨_,Sum.inr y,h,rfl,rfl⟩,?_⟩));rw[Mc]
 by_cases e:y∈ks
 . simpa[e] using k
 simpa[e] using k
theorem T3 {a:Addr}{ks:List Str}{y:Str}(h:Rd H a (.dK (Ii ks)))(k:Q (.bl (!decide (y∈ks))) H):Z7 K true (.str y) (.ref a) H Q:=by
 refine .inr (.inr (.inl ⟨a,Dn (Ii ks) (Sum.inr y:Key),rfl,.inl ⟨_,Sum.inr y,h,rfl,rfl⟩,?_⟩));rw[Mc]
 by_cases e:y∈ks
 . simpa[e] using k
 simpa[e] using k
theorem Vz {as:List Addr}{a:Addr}{kvs:List (Key×V)}{R:It->Hp->Prop}(h:Rd H a (.dK kvs))(ha:a∈as)(k:∀ o H',Keep as H H'->H' a=some (.frz o (.dK kvs))->R (Itd a o kvs) H'):Gb K (.ref a) H R:=by
 rcases h with h|⟨o,h⟩
 . exact aO9 h λo=>k o _ (Keep.freeze ha h λ_ _ z=>by cases z) Ad
 exact aQ9 h (k o H (Keep.refl _ _) h)
end
def clR (ns:List Str)(ps:List (Str×Str))(x:Str):List (Str×Str):=(ns.filter λy=>Ak ps x y).map λy=>(x,y)
def clP (ns:List Str)(ps:List (Str×Str)):List (Str×Str):=ns.flatMap (clR ns ps)
def thB (ns:List Str)(ps:List (Str×Str))(p:Str×Str):Bool:=ns.any λz=>Ak ps p.1 z&&Ak ps z p.2
def baP (ns:List Str)(ps:List (Str×Str)):List (Str×Str):=(clP ns ps).filter λp=>!thB ns ps p
def unB (ps:List (Str×Str))(x y:Str):Bool:=!Ak ps x y && !Ak ps y x
def unR (ns:List Str)(ps:List (Str×Str))(i:Nat):List (Str×Str):=((ns.drop (i+1)).filter λy=>unB ps (ns.getD i "") y).map λy=>(ns.getD i "",y)
def unK (ns:List Str)(ps:List (Str×Str))(k:Nat):List (Str×Str):=(List.range k).flatMap (unR ns ps)
def unP (ns:List Str)(ps:List (Str×Str)):List (Str×Str):=unK ns ps ns.length
theorem mem_clR {ns:List Str}{ps:List (Str×Str)}{x:Str}{p:Str×Str}:p∈clR ns ps x↔p.1=x/\p.2∈ns/\Way ps x p.2:=by
 unfold clR;rw[A0A];constructor
 . rintro⟨y,hy,rfl⟩;rw[A0N,wayB_iff] at hy;exact⟨rfl,hy⟩
 rintro⟨h1,h2⟩;refine⟨p.2,?_,by rw[<- h1]⟩;rw[A0N,wayB_iff];exact h2
theorem mem_clP {ns:List Str}{ps:List (Str×Str)}{p:Str×Str}:p∈clP ns ps↔p.1∈ns/\p.2∈ns/\Way ps p.1 p.2:=by
 unfold clP;rw[A2L];constructor
 . rintro⟨x,hx,hp⟩;obtain⟨rfl,h⟩:=mem_clR.mp hp;exact⟨hx,h⟩
 rintro⟨h1,h⟩;exact⟨p.1,h1,mem_clR.mpr ⟨rfl,h⟩⟩
theorem at9 (ns:List Str)(ps:List (Str×Str))(x:Str):(clR ns ps x).length<=ns.length:=by unfold clR;rw [A01];exact A0O _ _
theorem Rm {α β:Type}(f:α->List β)(n:Nat)(h:∀ a,(f a).length<=n):∀ l:List α,(l.flatMap f).length<=l.length*n
 | []=>by simp
 |a :: l=>by rw[A1W,A0C,A0E,A4B];have:=Rm f n h l;have:=h a;omega
theorem az6 (ns:List Str)(ps:List (Str×Str)):(clP ns ps).length<=ns.length*ns.length:=Rm _ _ (at9 ns ps) ns
theorem aA4 (ns:List Str)(ps:List (Str×Str))(i:Nat):(unR ns ps i).length<=ns.length:=by unfold unR;rw[A01];exact A0H (A0O _ _) (by rw[A1H];omega)
theorem at7 (ns:List Str)(ps:List (Str×Str))(k:Nat):(unK ns ps k).length<=k*ns.length:=by have:=Rm (unR ns ps) ns.length (aA4 ns ps) (List.range k);rwa[A1B] at this
theorem ah2 (ns:List Str)(ps:List (Str×Str))(k:Nat):unK ns ps (k+1)=unK ns ps k++unR ns ps k:=by unfold unK;rw[A54,A5A];simp
theorem az8 {ns:List Str}{ps:List (Str×Str)}{k:Nat}{p:Str×Str}(hk:k<=ns.length)(h:p∈unK ns ps k):p.1∈ns/\p.2∈ns/\unB ps p.1 p.2=true:=by unfold unK at h;rw[A2L] at h;obtain⟨i,hi,h⟩:=h;have hi:=A1U.mp hi;unfold unR at h;obtain⟨y,hy,rfl⟩:=A0A.mp h;rw[A0N] at hy;refine⟨?_,A2C hy.1,hy.2⟩;exact A05 (Gn (i:=i) nofun)
theorem ay9 {ns:List Str}{ps:List (Str×Str)}{p:Str×Str}(h:p∈unP ns ps):p.1∈ns/\p.2∈ns/\unB ps p.1 p.2=true:=az8 (A0D _) h
theorem at8 {ns ks:List Str}{ps:List (Str×Str)}{p:Str×Str}(h1:∀ y∈ks,y∈ns)(h2:∀ y,y∈ks↔Way ps p.1 y):((ks.map λz=>Ak ps z p.2).any id)=thB ns ps p:=by
 unfold thB;rw[A2S,A19,A19];constructor
 . rintro⟨b,hb,e⟩;obtain⟨z,hz,rfl⟩:=A0A.mp hb;exact⟨z,h1 z hz,by rw[A0X];exact⟨wayB_iff.mpr ((h2 z).mp hz),e⟩⟩
 rintro⟨z,hz,e⟩;rw[A0X] at e;exact⟨_,A0A.mpr ⟨z,(h2 z).mpr (wayB_iff.mp e.1),rfl⟩,e.2⟩
section
variable {K:W.Frag}{H:Hp}{σ:St}
theorem ae4 {α:Type}{J:It}{xs:List V}{G:Hp->Prop}{g:TG}{tt:TT}{te:TE}{Q:VK}{k:Nat}{js:List Nat}(hw:Gp J xs G)(bs:List Addr)(hb:∀ a∈bs,H a≠none)(as:List α)(hl:as.length=xs.length)(t:α->Bool)(f:α->PyData)(hf:∀ a,frz (f a)=true)(hz:xs.length<=1000000)(hG:∀ H',Keep bs H H'->G H')
  (hs:∀(i:Nat) a v H1 (R:VK) (R':Hp->Prop),as[i]? = some a->xs[i]? = some v->Keep bs H H1->(t a=true->∀ y H2,Keep bs H1 H2->Is K H2 (f a) y->R y H2)->(t a=false->∀ H2,Keep bs H1 H2->R' H2) ->
   g v (List.replicate k none++Pg σ js) H1 fun σ2 H2=>tt σ2 H2 λb H3=>if b=true then te σ2 H3 R else R' H3)
  (hd:∀ p ys H',H p=none->Keep bs H H'->H' p=some (.lst ys)->IsL K H' ((as.filter t).map f) ys->Q (.ref p) H'):Ly k js g tt te σ J H Q:=by
 have hpb:∀ p,H p=none->p∉bs:=λp hp hm=>hb p hm hp;refine J4 hw (λp i acc H1=>Keep bs H H1/\IsL K H1 (((as.take i).filter t).map f) acc) (λp H' hp e h=>⟨e.keep bs,by simp only[List.take_zero,List.filter_nil,List.map_nil];exact .nil⟩) (λp i acc H1 h=>hG H1 h.1) (λp i x acc H1 hp hx hi hl1 ha ⟨e,hacc⟩=>?_) λp acc H1 hp ha hl1 ⟨e,hacc⟩=>?_
 . have hi':i<as.length:=by omega
   obtain⟨a,hai⟩:∃ a,as[i]? = some a:=⟨as[i],A04 hi'⟩;have ht:as.take (i+1)=as.take i++[a]:=by rw[A0Y,hai];rfl
   refine hs i a x H1 _ _ hai hx e (λh y H2 e2 hy=>?_) λh H2 e2=>?_
   . have h2:=e2.1 _ _ (hpb p hp) ha;refine Ls hz hi hl1 h2 λH' e' h'=>⟨(e.trans e2).lst e' hp (hpb p hp),?_⟩;rw[ht,A1N,A0M];have fz:=e'.fzL h2;refine IsL.append (IsL.fz (e2.fz.trans fz) _ _ (Gi f hf _) hacc) ?_;simp only[List.filter_cons,h,if_true,List.filter_nil,List.map_cons,List.map_nil];exact .one (Is.fz fz _ _ (hf a) hy)
   refine Nq hi hl1 (e2.1 _ _ (hpb p hp) ha) ⟨e.trans e2,?_⟩;rw[ht,A1N,A0M];simp only[List.filter_cons,h,Bool.false_eq_true,if_false,List.filter_nil,List.map_nil,List.append_nil];exact IsL.fz e2.fz _ _ (Gi f hf _) hacc
 refine hd p acc H1 hp e ha ?_;rw[<- hl,A13] at hacc;exact hacc
theorem aj1 {ps:List (Str×Str)}{g:TG}{tt:TT}{te:TE}{Q:VK}{k:Nat}{js:List Nat}{x:V}(h:Is K H (psD ps) x)(bs:List Addr)(hb:∀ a∈bs,H a≠none)(t:Str×Str->Bool)(f:Str×Str->PyData)(hf:∀ a,frz (f a)=true)(hz:ps.length<=1000000)
  (hs:∀(i:Nat) a v H1 (R:VK) (R':Hp->Prop),ps[i]? = some a->Is K H1 (prD a) v->Keep bs H H1->(t a=true->∀ y H2,Keep bs H1 H2->Is K H2 (f a) y->R y H2)->(t a=false->∀ H2,Keep bs H1 H2->R' H2) ->
   g v (List.replicate k none++Pg σ js) H1 fun σ2 H2=>tt σ2 H2 λb H3=>if b=true then te σ2 H3 R else R' H3)
  (hd:∀ p ys H',H p=none->Keep bs H H'->H' p=some (.lst ys)->IsL K H' ((ps.filter t).map f) ys->Q (.ref p) H'):Gb K x H λJ H1=>Ly k js g tt te σ J H1 Q:=by
 obtain⟨a,xs,rfl,hS,hL⟩:=Is.tup h;have hl:ps.length=xs.length:=by rw[<- IsL.length hL,A01]
 refine Wf hS (ae4 (K:=K) (Ia (xs:=xs)) bs hb ps hl t f hf nofun (λH' e=>e.fz.seq hS) (λi z v H1 R R' hz hv e hR hR'=>?_) hd);obtain⟨d,e1,e2⟩:=IsL.get (IsL.fz e.fz _ _ (Cf ps) hL) hv;rw[A09,hz] at e1
 cases e1;exact hs i z v H1 R R' hz e2 e hR hR'
theorem Tab.some {H:Hp}{r:Addr}{ns:List Str}{as:List Addr}{R:Str->Str->Prop}(h:Tab H r ns as R):∀ a∈as,H a≠none:=λa ha e=>by
 obtain⟨i,hi,hq⟩:=A23 ha;have hi':i<ns.length:=by rw[<- h.len];exact hi
 obtain⟨ks,h1,_⟩:=h.row i ns[i] a (A04 hi') (by rw[A04 hi,hq]);rw[e] at h1
 cases h1
theorem ah9 {ns:List Str}{i:Nat}(h:i<=ns.length):Ph (ns.map V.str) (some ((i:Nat):Int)) none=(ns.drop i).map V.str:=by rw[Qw nofun (by rw[A01];omega),A4T];rfl
end
theorem Yx {ps:List (Str×Str)}(h:NmP ps):SeqAt.shaped (.list (ps.map prD))=true:=by
 unfold SeqAt.shaped;have e:(PyData.list (ps.map prD)).canLay0=true:=On _ (by simp only[G8];exact Ld _ ps λp hp=>(Xv (h p hp).1 (h p hp).2).1)
 have e2:(PyData.list (ps.map prD)).depth<=64:=by simp only[PyData.depth];have:=Nv prD 1 ps λp hp=>(Xv (h p hp).1 (h p hp).2).2.1;omega
 rw[e,A0S e2];rfl
theorem Vh (ps:List (Str×Str)):PyData.eqv (.list (ps.map prD)) (.list [])=ps.isEmpty:=by cases ps<;>simp[PyData.eqv,PyData.eqvAll]
section
variable {prog:Program}{w:World}{A:Around}{E:Value->Shared->Prop}{s:Shared}
end
section
variable {X:Cx}{K:W.Frag}
end
section
variable {K:W.Frag}{σ:St}{H:Hp}
end
theorem Tk {α:Type}{p:α->Bool}:∀ {l:List α} {x:α},x∈l->p x=false->(l.filter p).length<l.length
 |a :: l,x,hx,h=>by
   rcases A0F.mp hx with rfl|hx
   . rw[A17,h];exact Nat.lt_succ_of_le (A0O _ _)
   rw[A17];have:=Tk hx h
   split
   . rw[A0E,A0E];omega
   rw[A0E];omega
section
variable {K:W.Frag}{H:Hp}{Q:VK}
end
theorem Lb (ns:List Str):PyData.eqv (nmD ns) (.tuple [])=ns.isEmpty:=by cases ns<;>simp[nmD,PyData.eqv,PyData.eqvAll]
theorem IsL.bl_eq {α:Type}{K:W.Frag}{H:Hp}{f:α->Bool}:∀ {as:List α} {vs:List V},IsL K H (as.map λa=>PyData.bool (f a)) vs->vs=(as.map f).map V.bl
 | [],vs,h=>by simp only[List.map_nil,IsL] at h;exact h
 |n :: ns,vs,h=>by simp only[List.map_cons,IsL,Is] at h;obtain⟨v,r,rfl,rfl,e3⟩:=h;rw[IsL.bl_eq e3];rfl
theorem an4 {α:Type}{K:W.Frag}{H:Hp}{σ:St}{J:It}{xs:List V}{G:Hp->Prop}{g:TG}{te:TE}{Q:VK}{k:Nat}{js:List Nat}(hw:Gp J xs G)(as:List α)(hl:as.length=xs.length)(f:α->Bool)(hz:xs.length<=1000000)(hG:∀ H',Same H H'->G H')
  (hs:∀(i:Nat) a v H1 (R:VK),as[i]? = some a->xs[i]? = some v->Same H H1->(∀ H2,Same H1 H2->R (.bl (f a)) H2)->g v (List.replicate k none++Pg σ js) H1 fun σ2 H2=>te σ2 H2 R)
  (hd:∀ p H',H p=none->Same H H'->SqL K H' p ((as.map f).map V.bl)->Q (.ref p) H'):Ly k js g aa1 te σ J H Q:=by
 refine Jc (K:=K) hw as hl (λ_=>true) (λa=>PyData.bool (f a)) (λ_=>rfl) hz hG (λi a v H1 R R' ha hv e hR hR'=>?_) (λp ys H' hp e h hL=>?_)
 . exact hs i a v H1 R ha hv e λH2 e2=>hR rfl _ H2 e2 ay0
 rw[Ib] at hL;have:=IsL.bl_eq hL;subst this;exact hd p H' hp e (SqL.of h)
section
variable {P:Program}{w:World}{κ:Type}[DecidableEq κ]{knd:KeyKind P w κ}{A:Around}{E:Value->Shared->Prop}{s:Shared}
end
section
variable {X:Cx}{pins:List (Addr×Obj)}{σ:St}{H:Hp}{s:Shared}{A:Around}
end
section
variable {prog:Program}{w:World}{A:Around}{E:Value->Shared->Prop}{s:Shared}
end
section
variable {X:Cx}{K:W.Frag}
end
theorem Way.mem {ns:List Str}{ps:List (Str×Str)}(hm:∀ p∈ps,p.1∈ns/\p.2∈ns){x y:Str}(h:Way ps x y):x∈ns/\y∈ns:=by obtain⟨p,hp,e⟩:=A0A.mp h.left;obtain⟨q,hq,e'⟩:=A0A.mp h.right;exact⟨e ▸ (hm p hp).1,e' ▸ (hm q hq).2⟩
theorem aE0 {ns:List Str}{ps:List (Str×Str)}(hm:∀ p∈ps,p.1∈ns/\p.2∈ns){x y:Str}:Way (clP ns ps) x y↔Way ps x y:=by
 constructor
 . intro h
   induction h with
   |one e=>exact(mem_clP.mp e).2.2
   |cons e _ ih=>exact(mem_clP.mp e).2.2.trans ih
 intro h;have:=h.mem hm;exact .one (mem_clP.mpr ⟨this.1,this.2,h⟩)
theorem av2 {ns:List Str}{ps:List (Str×Str)}{p:Str×Str}:thB ns ps p=true↔∃ z∈ns,Way ps p.1 z/\Way ps z p.2:=by
 unfold thB;rw[A19];constructor
 . rintro⟨z,hz,e⟩;rw[A0X] at e;exact⟨z,hz,wayB_iff.mp e.1,wayB_iff.mp e.2⟩
 rintro⟨z,hz,e1,e2⟩;exact⟨z,hz,by rw[A0X];exact⟨wayB_iff.mpr e1,wayB_iff.mpr e2⟩⟩
theorem mem_baP {ns:List Str}{ps:List (Str×Str)}{p:Str×Str}:p∈baP ns ps↔p∈clP ns ps/\¬ ∃ z∈ns,Way ps p.1 z/\Way ps z p.2:=by unfold baP;rw[A0N,Bool.not_eq_true',<- Bool.not_eq_true,av2]
theorem Qq {α:Type}{p q:α->Bool}{l:List α}(h:∀ a∈l,p a=true->q a=true){x:α}(hx:x∈l)(h1:q x=true)(h2:p x=false):(l.filter p).length<(l.filter q).length:=by
 have e:l.filter p=(l.filter q).filter p:=by
  rw[A5H];refine A1C λa ha=>?_
  cases hp:p a with
  |false=>rfl
  |true=>rw[h a ha hp];rfl
 rw[e];exact Tk (A0N.mpr ⟨hx,h1⟩) h2
theorem as4 {ns:List Str}{ps:List (Str×Str)}(hm:∀ p∈ps,p.1∈ns/\p.2∈ns)(irr:∀ x,¬ Way ps x x){x y:Str}:Way (baP ns ps) x y↔Way ps x y:=by
 constructor
 . exact λh=>(aE0 hm).mp (h.mono λp hp=>(mem_baP.mp hp).1)
 suffices g:∀ n x y,(ns.filter λz=>Ak ps x z&&Ak ps z y).length<=n->Way ps x y->Way (baP ns ps) x y from λh=>g _ x y (A0D _) h
 intro n
 induction n with
 |zero=>
   intro x y hn h;have hxy:=h.mem hm;refine .one (mem_baP.mpr ⟨mem_clP.mpr ⟨hxy.1,hxy.2,h⟩,?_⟩);rintro⟨z,hz,h1,h2⟩;have:z∈ns.filter λz=>Ak ps x z&&Ak ps z y:=A0N.mpr ⟨hz,by rw[A0X];exact⟨wayB_iff.mpr h1,wayB_iff.mpr h2⟩⟩;rw[A1A.mp (Nat.le_zero.mp hn)] at this
   cases this
 |succ n ih=>
   intro x y hn h;have hxy:=h.mem hm
   by_cases ht:∃ z∈ns,Way ps x z/\Way ps z y
   . obtain⟨z,hz,h1,h2⟩:=ht;have hq:(Ak ps x z&&Ak ps z y)=true:=by rw[A0X];exact⟨wayB_iff.mpr h1,wayB_iff.mpr h2⟩
     have a1:=Qq (p:=λu=>Ak ps x u&&Ak ps u z) (q:=λu=>Ak ps x u&&Ak ps u y) (l:=ns) (λu _ hu=>by rw[A0X] at hu ⊢;exact⟨hu.1,wayB_iff.mpr ((wayB_iff.mp hu.2).trans h2)⟩) hz hq (by rw[Fy (irr z),A4H])
     have a2:=Qq (p:=λu=>Ak ps z u&&Ak ps u y) (q:=λu=>Ak ps x u&&Ak ps u y) (l:=ns) (λu _ hu=>by rw[A0X] at hu ⊢;exact⟨wayB_iff.mpr (h1.trans (wayB_iff.mp hu.1)),hu.2⟩) hz hq (by rw[Fy (irr z),Bool.false_and])
     exact(ih x z nofun h1).trans (ih z y nofun h2)
   exact .one (mem_baP.mpr ⟨mem_clP.mpr ⟨hxy.1,hxy.2,h⟩,ht⟩)
theorem af9 (ps:List (Str×Str))(a:Str)(m:List Str):∀ t:List Str,(t.flatMap (clR (a :: m) ps)).length=(t.flatMap (clR m ps)).length+(t.filter λx=>Ak ps x a).length
 | []=>by simp
 |x :: t=>by
   rw[A1W,A1W,A0C,A0C,af9 ps a m t,A17]
   have e:(clR (a :: m) ps x).length=(clR m ps x).length+(if Ak ps x a=true then 1 else 0):=by
    unfold clR;rw[A01,A01,A17]
    split
    . rw[A0E]
    rfl
   rw[e]
   split
   . rw[A0E];omega
   omega
theorem Sx {ps:List (Str×Str)}(irr:∀ x,¬ Way ps x x)(a:Str):∀ t:List Str,(t.filter λy=>Ak ps a y).length+(t.filter λy=>Ak ps y a).length+(t.filter λy=>unB ps a y).length=t.length
 | []=>rfl
 |y :: t=>by
   have ih:=Sx irr a t;rw[A17,A17,A17,A0E];unfold unB at ih ⊢
   cases h1:Ak ps a y<;>cases h2:Ak ps y a
   . simp;omega
   . simp;omega
   . simp;omega
   exact absurd ((wayB_iff.mp h1).trans (wayB_iff.mp h2)) (irr a)
theorem ah6 (ps:List (Str×Str))(a:Str)(t:List Str):(unP (a :: t) ps).length=(t.filter λy=>unB ps a y).length+(unP t ps).length:=by
 have e:∀ i,unR (a :: t) ps (i+1)=unR t ps i:=λi=>by unfold unR;rw[List.getD_cons_succ,List.drop_succ_cons]
 unfold unP unK;rw[A0E,List.range_succ_eq_map,A1W,A0C,List.flatMap_map]
 have e0:(unR (a :: t) ps 0).length=(t.filter λy=>unB ps a y).length:=by unfold unR;rw[A01];rfl
 rw[e0];have e1:(λi=>unR (a :: t) ps (Nat.succ i))=unR t ps:=funext e;rw[show((List.range t.length).flatMap λi=>unR (a :: t) ps i.succ)=(List.range t.length).flatMap (unR t ps) from by rw[e1]]
theorem Wq {ps:List (Str×Str)}(irr:∀ x,¬ Way ps x x):∀ l:List Str,2*(((l.flatMap (clR l ps)).length:Int)+((unP l ps).length:Int))=(l.length:Int)*((l.length:Int)-1)
 | []=>by rfl
 |a :: t=>by
   have ih:=Wq irr t;have h3:=Sx irr a t;rw[A1W,A0C,af9,ah6]
   have e:(clR (a :: t) ps a).length=(t.filter λy=>Ak ps a y).length:=by unfold clR;rw[A01,A17,Fy (irr a)];rfl
   rw[e,A0E]
   have e2:(((t.length+1:Nat):Int))*((((t.length+1:Nat):Int))-1)=(t.length:Int)*((t.length:Int)-1)+2*(t.length:Int):=by rw[Int.natCast_add,show((1:Nat):Int)=1 from rfl,Int.add_sub_cancel,Int.add_mul,Int.mul_sub];omega
   rw[e2,<- ih];omega
theorem Ow {ns:List Str}{ps:List (Str×Str)}(irr:∀ x,¬ Way ps x x):2*(((clP ns ps).length:Int)+((unP ns ps).length:Int))=(ns.length:Int)*((ns.length:Int)-1):=Wq irr ns
theorem HalfW.ba {ns:List Str}{ps:List (Str×Str)}(h:HalfW ns ps)(hl:(baP ns ps).length<=1000):HalfW ns (baP ns ps):=
 ⟨h.nd,λp hp=>let ⟨a,b,_⟩:=mem_clP.mp (mem_baP.mp hp).1;⟨a,b⟩,λx g=>h.irr x ((as4 h.mem h.irr).mp g),h.few,hl⟩
def inS (ns:List Str):Key->Bool
 |.inr z=>decide (z∈ns)
 |.inl _=>false
theorem ak4 (ns:List Str)(z:Str)(k:Key):inS (ns++[z]) k=(inS ns k||decide (k=Sum.inr z)):=by
 cases k with
 |inl i=>simp[inS]
 |inr y=>simp only[inS,List.mem_append,List.mem_singleton,Bool.decide_or];congr 1;simp
theorem Vj (ms:List Str)(z:Str):(Dp [] (ms++[z])).length=if inS ms (Sum.inr z)=true then(Dp [] ms).length else(Dp [] ms).length+1:=by
 unfold Dp;rw[List.foldl_append];show(ag1 (Dp [] ms) z).length=_;unfold ag1;have e:(z∈Dp [] ms)↔z∈ms:=by rw[mem_addAll];simp
 by_cases h:z∈ms
 . rw[if_pos (e.mpr h),if_pos (by simpa[inS] using h)];rfl
 rw[if_neg (λq=>h (e.mp q)),if_neg (by simpa[inS] using h),List.length_append,List.length_singleton];rfl
theorem Uc:∀ ms:List Str,(Dp [] ms).length<=ms.length:=λms=>by
 have g:=Cl (ys:=ms) (Im (ms:=ms) (ks:=[]) (by simp)) λz hz=>by
  rcases mem_addAll.mp hz with h|h
  . cases h
  exact h
 exact g
section
variable {P:Program}{w:World}{A:Around}{R:Result->Shared->Prop}{it:Addr}{fp wr:List Addr}{G:Array GenState->Array GenState->Prop}{n:Nat}{PV:Nat->Value->Prop}{St:Nat->Shared->Prop}
theorem Zp (z:Str)(t:Tok):(Ay P w).is (Sum.inr z) (.str z t)=true:=by show Pm (Sum.inr z) (.str z t)=true;simp[Pm,Value.isStrOf]
theorem aj6 (W:WalksS P w A.in1 it fp wr G n PV St)(D:Addr)(hD:D∉fp)(ns:List Str)(hval:∀ i v,PV i v->∃ z t,ns[i]? = some z/\v = .str z t)(hb:n+1<scanBound)(hn:ns.length=n) :
  ∀(k i:Nat) (s:Shared),n-i=k->i<=n->St i s->s.heap.SetOf (Ay P w) D (inS (ns.take i)) (Dp [] (ns.take i)).length ->
   (∀ s',Moved (D :: wr) G s s'->s'.heap.SetOf (Ay P w) D (inS ns) (Dp [] ns).length->R (.ok (.ret .none)) s') ->
   codeAny (model P w) A (.builtin "set.update.loop" ⟨[.ref D,.ref it],[]⟩) R s:=by
 have hDw:D∉wr:=λh=>hD (W.sub _ h);have sub:∀ b∈wr,b∈D :: wr:=λb h=>.tail _ h;have stays:∀ {s s':Shared} {f:Key->Bool} {m:Nat},Moved wr G s s'->s.heap.SetOf (Ay P w) D f m->s'.heap.SetOf (Ay P w) D f m:=λhm ⟨o,es,ep,t,ho,r⟩=>⟨o,es,ep,t,hm.heap D _ hDw ho,r⟩;intro k
 induction k with
 |zero=>
   intro i s hk hi st hS hR;obtain rfl:i=n:=by omega
   rw[A3T nofun] at hS;refine A39 F.entry_set_update_loop ?_;rw[A2Q F.plain_set_update_loop];refine A00 (m:=pyNext (.ref it)) (W.done s _ _ st λs' hm=>?_);show wpAny _ _ (ret Value.none) _ _ _;exact A06 (hR s' (hm.mono sub) (stays hm hS))
 |succ k ih=>
   intro i s hk hi st hS hR;have hlt:i<n:=by omega
   refine A39 F.entry_set_update_loop ?_;rw[A2Q F.plain_set_update_loop];refine A00 (m:=pyNext (.ref it)) (W.item i s _ _ hlt st λv s' hv st' hm=>?_);obtain⟨z,t,hz,rfl⟩:=hval i v hv;have ht:ns.take (i+1)=ns.take i++[z]:=by rw[A0Y,hz];rfl
   refine A00 (m:=holding _ (setAdd D (.str z t))) (A1F ?_);unfold setAdd;refine A1F (A00 ((Ay P w).pyHash (Zp z t) ?_));have hle:=Uc (ns.take i);rw[A0T] at hle;refine wpAny_setAddHashed_of (s:={s' with toks:=s'.toks+1}) (Zp z t) rfl (show s'.heap.SetOf _ _ _ _ from stays hm hS) nofun λh' hsb hS2=>?_
   have hS3:h'.SetOf (Ay P w) D (inS (ns.take (i+1))) (Dp [] (ns.take (i+1))).length:=by
    rw[ht,Vj,show inS (ns.take i++[z])=λk'=>inS (ns.take i) k'||decide (k'=Sum.inr z) from funext (ak4 _ _)]
    exact hS2
   refine A06 ⟨A3M F.plain_set_update_loop _,ih (i+1) _ nofun hlt (W.frame _ s' _ _ st' (A38 _) λb hb o e=>?_) hS3 λs2 hm2 hS4=>?_⟩
   . have hbD:b≠D:=λq=>hD (q ▸ hb);exact(hsb.2 b hbD).trans e
   refine hR s2 (Moved.trans W.gtrans ((hm.mono sub).then_heap (A38 _) λb o hb e=>?_) hm2) hS4;have hbD:b≠D:=λq=>hb (by rw[q];exact A12);exact(hsb.2 b hbD).trans e
end
theorem Vy:isSubtype (.type "tuple") (.type "set")=pure false:=by rw[isSubtype_type];kernel_rfl
theorem Tg:isSubtype (.type "tuple") (.type "frozenset")=pure false:=by rw[isSubtype_type];kernel_rfl
section
variable {prog:Program}{w:World}{A:Around}{E:Value->Shared->Prop}{s:Shared}
def Ln (led:Bool):Obj:={cls:=.type "set",dict:=none,data:=.set #[] 0 (.fresh 0 0 led)}
def aH1 (prog:Program)(w:World)(s:Shared)(ns:List Str)(h':Heap):Prop:=h'.SetOf (Ay prog w) s.heap.objs.size (inS ns) (Dp [] ns).length/\∀ b o,b<s.heap.objs.size->s.heap.get? b=some o->h'.get? b=some o
set_option maxHeartbeats 3200000 in
theorem a89 {t:Addr}{its:List Value}{ns:List Str}{Q:Value->Shared->Prop}(hh:A.handled=none)(ht:s.heap.IsTuple t its.toArray)(hv:Vals (ns.map V.str) its)(hb:ns.length+1<scanBound)
  (h:∀(h':Heap) (k:Nat),aH1 prog w s ns h'->Q (.ref s.heap.objs.size) {s with heap:=h',toks:=k}):wpAny (model prog w) A (call (.type "set") [.ref t]) Q E s:=by
 have hlen:its.length=ns.length:=by rw[<- hv.length,A01]
 obtain⟨c,tl,m1⟩:=F.called_set.mro;have m2:=F.called_set.made;have m3:=F.called_set.sub;have m4:=F.called_set.notType;have m5:=F.called_set.canCreate;have m6:=F.typeCall_set_1 (.ref t);refine A4J (codeAny_of_tree (show wpAny _ _ (callAny (.type "set") _) _ _ _ from ?_));refine A06 ⟨A5I _ (by decide +kernel),A39 F.entry_type_call ?_⟩;rw[Around.under_plain (weight_type_call_type "set" [Value.ref t] []) rfl]
 repeat (any_goals (first | assumption | wp_step))
 refine A3G (code_set_new_1 (Value.ref t) (E:=E) (Q₁:=λx s₁=>∃ led:Bool,x = .ref s.heap.objs.size/\s₁={s with heap:=s.heap.push (Ln led)}) λled=>⟨led,rfl,rfl⟩) λr s₁ hr=>?_
 cases r with
 |error e=>exact hr
 |ok fl=>
   cases fl with
   |ret x=>
     obtain⟨led,rfl,rfl⟩:=hr;have hN:(s.heap.push (Ln led)).get? s.heap.objs.size=some (Ln led):=A0B _ rfl;have hT:Shared.TypeIs {s with heap:=s.heap.push (Ln led)} (.ref s.heap.objs.size) "set":=⟨_,hN,rfl⟩
     have n1:=F.called_set.init.lookup;have n2:=F.called_set.init.bind (.ref s.heap.objs.size)
     repeat (any_goals (first | assumption | wp_step))
     refine A3G (A57 (R:=wants (λr s₂=>r = .none/\∃ h' k,s₂={s with heap:=h',toks:=k}/\aH1 prog w s ns h') E) F.called_set.init.plain F.entry_set_init (check_set_init_1 hT ?_)) λr₂ s₂ hr₂=>?_
     . obtain⟨⟨oc,od,odt,osl⟩,g1,g2,nl,g3⟩:=id ht;simp only at g2 g3;subst g2 g3;have g4:(s.heap.push (Ln led)).get? t=some {cls:=.type "tuple",dict:=od,data:=.seq its.toArray nl,slots:=osl}:=A02 _ g1;have q1:=Vy;have q2:=Tg;have q3:(Value.type "tuple" == Value.type "dict")=false:=by decide
       have ht1:(s.heap.push (Ln led)).IsTuple t its.toArray:=⟨_,g4,rfl,nl,rfl⟩;unfold Builtin.«set.__init__» noKeywords Builtin.Frozenset.updateFrom;generalize hPI:pyIter=PI
       wp_walk
       subst hPI;refine A2A ht1 (A00 (wpAny_runValue ?_));have htl:t<s.heap.objs.size:=A08 g1;have hz:(s.heap.push (Ln led)).objs.size=s.heap.objs.size+1:=A1P ..;refine aj6 ((Walks.tuple (by simp[hh]) _ t (by rw[hz];exact Nat.ne_of_lt (Nat.lt_succ_of_lt htl)) its.toArray).toS) s.heap.objs.size (by rw[hz];simp only[List.mem_cons,List.not_mem_nil,or_false,not_or];exact⟨Nat.ne_of_lt (Nat.lt_succ_self _),Nat.ne_of_gt htl⟩) ns (λi v hv'=>?_) (by rw[List.size_toArray];omega) (by rw[List.size_toArray];omega) _ 0 _ rfl (Nat.zero_le _) ⟨⟨_,Heap.get?_push_size _ rfl,rfl,rfl⟩,ht1.push _⟩ ?_ ?_
       . have hv2:its[i]? = some v:=by rw[<- A3Z];exact hv'
         have hi:i<ns.length:=by have:=(A03.mp hv2).1;omega
         obtain⟨u,hu,ru⟩:=hv.get (i:=i) (x:=.str ns[i]) (by rw[A09,A04 hi];rfl);rw[hv2] at hu
         cases hu;obtain⟨k,rfl⟩:=ru;exact⟨_,k,A04 hi,rfl⟩
       . have e:inS (ns.take 0)=λ_=>false:=funext λk=>by cases k<;>simp[inS]
         rw[e];exact⟨Ln led,#[],0,.fresh 0 0 led,Heap.get?_push_of_some _ hN,⟨rfl,rfl,rfl⟩,rfl,(λe he=>by simp at he),(λk=>by simp),by simp[scanBound],rfl,rfl⟩
       intro s' hm hS';obtain⟨h',g',d',k',os'⟩:=s';have eg:g'=s.gens:=hm.gens;have ed:d'=s.drawn:=hm.drawn;have eo:os'=s.os:=hm.os;subst eg ed eo;refine A06 ?_;show wpAny _ _ (ret Value.none) _ _ _;refine A06 ⟨rfl,h',k',rfl,hS',λb o hb e=>hm.heap b o ?_ (A02 _ (A02 _ e))⟩;rw[hz];simp only[List.mem_cons,List.not_mem_nil,or_false,not_or];exact⟨A0J hb,A0J (A3C hb)⟩
     cases r₂ with
     |error e=>exact hr₂
     |ok fl₂=>
       cases fl₂ with
       |ret r=>
         obtain⟨rfl,h',k,rfl,hS⟩:=hr₂
         repeat (any_goals (first | assumption | wp_step))
         exact h _ _ hS
       |_=>exact hr₂.elim
   |_=>exact hr.elim
end
section
variable {X:Cx}{K:W.Frag}
def af3 (K:W.Frag):List V->Hp->VK->Prop:=λvs H Q=>∃ a ns,vs=[.ref a]/\SqT K H a (ns.map V.str)/\ns.length<=1000/\Q (.int ((Dp [] ns).length:Nat)) H
theorem a81 {e:Expr}{ta:TA}{p p2 pos pos2:Pos}(hc:X.A.handled=none)(hg:Gl X "len")(hm:X.mg "len" = none)(hg2:Gl X "set")(hm2:X.mg "set" = none)(ha:PA X [e] ta)(hK:X.K=K:=by ac_nf)
  (hs:starEach [e] X.env=[(false,eval e X.env)]:=by ac_nf) (hs2:starEach [.Call (.Name "set" p2) [e] [] pos2] X.env=[(false,eval (.Call (.Name "set" p2) [e] [] pos2) X.env)]:=by ac_nf) :
  PE X (.Call (.Name "len" p) [.Call (.Name "set" p2) [e] [] pos2] [] pos) (tCB (af3 K) ta):=by
 subst hK;intro pins s σ H Q I h;refine A1X (Ip I hg hm PyProof.Rows.Boot.«len» ?_ ∅ ∅);refine PyProof.Rows.callWith_builtin1 ?_ hs2 rfl;rw[hs2];show wpAny _ _ (spliced ((false,eval (.Call (.Name "set" p2) [e] [] pos2) X.env) :: backTo pos [])) _ _ s;refine A35 ?_;refine A1X (Ip I hg2 hm2 PyProof.Rows.Boot.«set» ?_ ∅ ∅);refine A1M (thn (ha pos2 pins s σ H _ I h) λus s1 ⟨vs,H1,I1,r1,q1⟩=>?_) hs rfl;obtain⟨a,ns,rfl,hq,hz,q⟩:=q1;obtain⟨u,rfl,ru⟩:=Vals.one r1
 cases ru;obtain⟨its,rv,ht,hz2⟩:=I1.tuple hq;refine a89 hc ht rv (by unfold scanBound;omega) λh' k hS=>?_;obtain⟨hS1,hS2⟩:=hS;have I2:Inv X pins σ H1 {s1 with heap:=h',toks:=k}:=I1.kept (t':=k) λb o e=>hS2 b o (A08 e) e
 refine A3B ?_;obtain⟨o,es,ep,t,ho,hex,hd,_,_,hb,hf,hn⟩:=hS1;refine call_len_set ho hex hd hf (by unfold scanBound at hb;omega) ?_;exact⟨.int _,H1,I2.tok _,⟨_,by rw[hn]⟩,q⟩
theorem ak5 {a:Addr}{ns:List Str}{H:Hp}{Q:VK}(h:SqT K H a (ns.map V.str))(hz:ns.length<=1000)(k:Q (.int ((Dp [] ns).length:Nat)) H):af3 K [.ref a] H Q:=⟨a,ns,rfl,h,hz,k⟩
end
theorem aH0 {z:Str}(h:Y1 z=true):z.length<=8:=(aa7 h).2
theorem a64 {ns:List Str}(h:ns.Nodup):(Dp [] ns).length=ns.length:=Nat.le_antisymm (Uc ns) (Cl h λz hz=>mem_addAll.mpr (.inr hz))
section
variable {K:W.Frag} {H:Hp} {Q:VK}
end
theorem G3 (ns:List Int):∀ j ≤ ns.length,preSum (λi=>ns.getD i 0) j=(ns.take j).sum
 |0,_=>by simp[preSum]
 |j+1,h=>by rw[preSum,G3 ns j nofun,A0Y,Gn (y:=0) (by omega:j<ns.length)];simp
theorem Ob:∀ {ns:List Int},(∀ n∈ns,0<=n/\n<=1000000000000)->0<=ns.sum/\ns.sum<=1000000000000*(ns.length:Int)
 | [],_=>by simp
 |n :: ns,h=>by have h1:=h n (by simp);have h2:=Ob λm hm=>h m (A0L _ hm);rw[A1L,A0E];omega
section
variable {X:Cx}{K:W.Frag}
def aR2 (K:W.Frag):List V->Hp->VK->Prop:=λxs H Q=>∃(a:Addr) (ns:List Int),xs=[.ref a]/\(SqL K H a (ns.map V.int)\/SqT K H a (ns.map V.int))/\(∀ n∈ns,0<=n/\n<=1000000000000)/\ns.length<=1000000/\Q (.int ns.sum) H
theorem ar2 {ns:List Int}{its:List Value}(r:Vals (ns.map V.int) its){i:Nat}{v:Value}(h:its.toArray[i]? = some v):∃ t,v = .int (ns.getD i 0) t:=by
 rw[A3Z] at h;have hl:=r.length;rw[A01] at hl
 have hi:i<ns.length:=by have:=(A03.mp h).1;omega
 obtain⟨u,hu,ru⟩:=r.get (i:=i) (x:=.int (ns.getD i 0)) (by rw[A09,Gn (y:=0) hi];rfl);rw[h] at hu
 cases hu;exact ru
theorem ae9 (hc:X.calm=true):CallR X (.builtin "sum") (aR2 X.K):=by
 intro pins s σ H xs us Q I r h;obtain⟨a,ns,rfl,hl,hb,hz,q⟩:=h;obtain⟨u,rfl,ru⟩:=Pa r
 cases ru
 have fits:∀ j,j<ns.length->InLong (ns.getD j 0)/\InLong (preSum (λi=>ns.getD i 0) (j+1)):=λj hj=>by have h1:=hb _ (A05 (Gn (y:=0) hj));have h2:=Ob (ns:=ns.take (j+1)) λn hn=>hb n (A1K hn);rw[G3 ns (j+1) hj];rw[A0T] at h2;unfold InLong;omega
 have last:preSum (λi=>ns.getD i 0) ns.length=ns.sum:=by rw[G3 ns _ (A0D _),A13]
 refine call_sum_walk ?_;rcases hl with hl|hl
 . obtain⟨its,rv,pl,_⟩:=I.list hl;have hlen:its.toArray.size=ns.length:=by rw[A0W,<- rv.length,A01]
   have hlt:a<s.heap.objs.size:=let ⟨_,e,_⟩:=pl.isList;A08 e;refine A2V pl.isList ?_;refine⟨_,_,_,_,_,_,λi=>ns.getD i 0,rfl,Walks.list (by simpa using I.ok.hd hc) _ a (Nat.ne_of_lt hlt) its.toArray,⟨⟨_,Heap.get?_push_size _ rfl,rfl,rfl⟩,pl.isList.push _⟩,λb hb'=>?_,λi v hv=>ar2 rv hv,by rw[hlen];exact fits,λh' tk t' hk=>?_⟩
   . rw[A1P];simp only[List.mem_cons,List.not_mem_nil,or_false] at hb';rcases hb' with rfl|rfl
     . exact A3F _
     exact A3C hlt
   refine⟨.int ns.sum,H,I.kept (t':=tk) λb o e=>hk b o (λz=>?_) (A02 _ e),⟨t',by rw[hlen,last]⟩,q⟩;have:b=s.heap.objs.size:=by simpa using z
   subst this;exact absurd (A08 e) (A24 _)
 obtain⟨its,rv,pl,_⟩:=I.tuple hl;have hlen:its.toArray.size=ns.length:=by rw[A0W,<- rv.length,A01]
 have hlt:a<s.heap.objs.size:=let ⟨_,e,_⟩:=pl;A08 e;refine A2A pl ?_;refine⟨_,_,_,_,_,_,λi=>ns.getD i 0,rfl,Walks.tuple (by simpa using I.ok.hd hc) _ a (Nat.ne_of_lt hlt) its.toArray,⟨⟨_,Heap.get?_push_size _ rfl,rfl,rfl⟩,Heap.IsTuple.push pl _⟩,λb hb'=>?_,λi v hv=>ar2 rv hv,by rw[hlen];exact fits,λh' tk t' hk=>?_⟩
 . rw[A1P];simp only[List.mem_cons,List.not_mem_nil,or_false] at hb';rcases hb' with rfl|rfl
   . exact A3F _
   exact A3C hlt
 refine⟨.int ns.sum,H,I.kept (t':=tk) λb o e=>hk b o (λz=>?_) (A02 _ e),⟨t',by rw[hlen,last]⟩,q⟩;have:b=s.heap.objs.size:=by simpa using z
 subst this;exact absurd (A08 e) (A24 _)
theorem J9 (hc:X.calm=true)(hK:X.K=K:=by ac_nf):CallR X (.builtin "sum") (aR2 K):=hK ▸ ae9 hc
theorem aa6 {a:Addr}{ns:List Int}{H:Hp}{Q:VK}(h:SqL K H a (ns.map V.int)\/SqT K H a (ns.map V.int))(hb:∀ n∈ns,0<=n/\n<=1000000000000)(hz:ns.length<=1000000)(k:Q (.int ns.sum) H):aR2 K [.ref a] H Q:=⟨a,ns,rfl,h,hb,hz,k⟩
end
section
variable {prog:Program}{w:World}{A:Around}{E:Value->Shared->Prop}{s:Shared}
end
section
variable {X:Cx}{K:W.Frag}
end
section
variable {prog:Program}{w:World}{A:Around}{E:Value->Shared->Prop}{s:Shared}
end
section
variable {X:Cx}{K:W.Frag}
end
section
variable {α:Type}[DecidableEq α]
def Bx:List α->(α->Bool)->Nat
 | [],_=>0
 |x :: xs,p=>(p x).toNat+2*Bx xs p
def Fn:List α->α->Nat
 | [],_=>0
 |y :: ys,x=>if x=y then 1 else 2*Fn ys x
theorem Ql {p q:α->Bool}:∀ {ns:List α},(∀ x∈ns,p x=q x)->Bx ns p=Bx ns q
 | [],_=>rfl
 |x :: xs,h=>by unfold Bx;rw[h x (by simp),Ql (ns:=xs) λy hy=>h y (by simp[hy])]
theorem am2 {a b:Bool} {m n:Nat} (h:a.toNat+2*m=b.toNat+2*n):a=b/\m=n:=by cases a<;>cases b<;>simp[Bool.toNat] at h ⊢ <;> omega
theorem Mg {p q:α->Bool}:∀ {ns:List α},Bx ns p=Bx ns q->∀ x∈ns,p x=q x
 | [],_,x,hx=>by cases hx
 |y :: ys,h,x,hx=>by
   unfold Bx at h;obtain⟨h1,h2⟩:=am2 h;rcases A0F.mp hx with rfl|hx
   . exact h1
   exact Mg h2 x hx
theorem ai9 (a b:Bool)(m n:Nat):(a.toNat+2*m) &&& (b.toNat+2*n)=(a&&b).toNat+2*(m &&& n):=by
 apply Nat.eq_of_testBit_eq;intro i;rw [Nat.testBit_and]
 cases i with
 |zero=>cases a<;>cases b<;>simp[Nat.testBit_zero,Bool.toNat]<;>omega
 |succ i=>
   rw[Nat.testBit_succ,Nat.testBit_succ,Nat.testBit_succ];have e:∀(c:Bool) (k:Nat),(c.toNat+2*k) / 2=k:=λc k=>by cases c<;>simp[Bool.toNat]<;>omega
   rw[e,e,e,Nat.testBit_and]
theorem Ww (p q:α->Bool):∀ ns:List α,Bx ns p &&& Bx ns q=Bx ns (λx=>p x&&q x)
 | []=>by simp[Bx]
 |x :: xs=>by unfold Bx;rw[ai9,Ww p q xs]
theorem binM_zero {p:α->Bool}:∀ {ns:List α},Bx ns p=0↔∀ x∈ns,p x=false
 | []=>by simp[Bx]
 |x :: xs=>by
   unfold Bx;have:=binM_zero (p:=p) (ns:=xs);constructor
   . intro h y hy;have h1:(p x).toNat=0:=by omega
     have h2:Bx xs p=0:=by omega
     rcases A0F.mp hy with rfl|hy
     . cases e:p y with
       |false=>rfl
       |true=>rw[e] at h1;cases h1
     exact this.mp h2 y hy
   intro h;rw[h x (by simp),this.mpr λy hy=>h y (by simp[hy])];rfl
theorem W5 (p:α->Bool):∀ ns:List α,Bx ns p<2 ^ ns.length
 | []=>by simp[Bx]
 |x :: xs=>by
   have:=W5 p xs;unfold Bx;rw[A0E,Nat.pow_succ];have:(p x).toNat<=1:=by cases p x<;>simp[Bool.toNat]
   omega
theorem ab7:∀ {ns:List α},ns.Nodup->∀ {x:α},x∈ns->Fn ns x=Bx ns (λy=>decide (y=x))
 | [],_,x,h=>by cases h
 |y :: ys,hn,x,h=>by
   obtain⟨h1,h2⟩:=A0U.mp hn;unfold Fn Bx
   by_cases e:x=y
   . subst e;rw[A15 rfl,(binM_zero (p:=λy=>decide (y=x)) (ns:=ys)).mpr λz hz=>A0P λq=>h1 (by rw[<- q];exact hz)];simp[Bool.toNat]
   rw[A10 e,ab7 h2 ((A0F.mp h).resolve_left e)];have:decide (y=x)=false:=A0P λq=>e q.symm;show _=(decide (y=x)).toNat+_;rw[this];simp[Bool.toNat]
theorem Sh (f:α->Nat):∀ l:List α,(l.map λx=>2*f x).sum=2*(l.map f).sum
 | []=>rfl
 |x :: xs=>by simp[Sh f xs,Nat.mul_add]
theorem Mh (p:α->Bool):∀ {ns:List α},ns.Nodup->((ns.filter p).map (Fn ns)).sum=Bx ns p
 | [],_=>rfl
 |y :: ys,hn=>by
   obtain⟨h1,h2⟩:=A0U.mp hn
   have e:(ys.filter p).map (Fn (y :: ys))=(ys.filter p).map λx=>2*Fn ys x:=by
    apply A1I;intro x hx;have:x≠y:=λq=>h1 (q ▸ (A0N.mp hx).1);show(if x=y then 1 else 2*Fn ys x)=_
    rw [A10 this]
   unfold Bx;rw[A17]
   cases hp:p y with
   |true=>
     rw[A15 rfl,A0R,A1L,e,Sh,Mh p h2];show(if y=y then 1 else _)+_=_
     rw[A15 rfl];rfl
   |false=>rw[A10 ∅,e,Sh,Mh p h2];simp[Bool.toNat]
theorem Rk {p:α->Bool}:∀ {ns:List α},ns.Nodup->∀ {x:α},x∈ns->p x=true->Bx ns p=Bx ns (λy=>p y && !decide (y=x))+Fn ns x
 | [],_,x,h,_=>by cases h
 |y :: ys,hn,x,h,hp=>by
   obtain⟨h1,h2⟩:=A0U.mp hn;unfold Fn Bx
   by_cases e:x=y
   . subst e;rw[A15 rfl,hp,Ql (ns:=ys) (p:=λy=>p y && !decide (y=x)) (q:=p) λz hz=>?_]
     . simp[Bool.toNat];omega
     have:decide (z=x)=false:=A0P λq=>h1 (q ▸ hz);simp[this]
   rw[A10 e,Rk h2 ((A0F.mp h).resolve_left e) hp];have:decide (y=x)=false:=A0P λq=>e q.symm;show _=((p y && !decide (y=x)).toNat+_)+_;rw[this];simp;omega
def frF (b:α->α->Bool)(L:List α):List α:=L.filter λx=>!(L.any λy=>b y x)
def Ao (L:List α)(x:α):List α:=L.filter λy=>!decide (y=x)
def ext (b:α->α->Bool):Nat->List α->List (List α)
 |0,_=>[[]]
 |n+1,L=>(frF b L).flatMap λx=>(ext b n (Ao L x)).map (x :: ·)
def cnt (b:α->α->Bool)(L:List α):Nat:=(ext b L.length L).length
theorem Rs (b:α->α->Bool):cnt b []=1:=rfl
theorem mem_frF {b:α->α->Bool}{L:List α}{x:α}:x∈frF b L↔x∈L/\∀ y∈L,b y x=false:=by
 unfold frF;rw[A0N];constructor
 . rintro ⟨h1,h2⟩;refine⟨h1,λy hy=>?_⟩
   cases e:b y x with
   |false=>rfl
   |true=>
     have:(L.any λy=>b y x)=true:=A19.mpr ⟨y,hy,e⟩;rw[this] at h2
     cases h2
 rintro⟨h1,h2⟩;refine⟨h1,?_⟩
 have:(L.any λy=>b y x)=false:=by
  rw[Bool.eq_false_iff];intro h;obtain⟨y,hy,e⟩:=A19.mp h;rw[h2 y hy] at e
  cases e
 rw[this];rfl
theorem mem_lessF {L:List α}{x y:α}:y∈Ao L x↔y∈L/\y≠x:=by unfold Ao;rw[A0N];simp
theorem B8 {L:List α}(h:L.Nodup)(x:α):(Ao L x).Nodup:=A1Q (A1O) h
theorem Kl:∀ {L:List α} {x:α},x∉L->Ao L x=L:=fun {L x} h=>by unfold Ao;rw[A5B];intro y hy;have:y≠x:=λq=>h (q ▸ hy);simp[this]
theorem C4:∀ {L:List α} {x:α},L.Nodup->x∈L->(Ao L x).length+1=L.length
 | [],_,_,h=>by cases h
 |y :: ys,x,hn,h=>by
   obtain⟨h1,h2⟩:=A0U.mp hn
   by_cases e:y=x
   . subst e;have:Ao (y :: ys) y=Ao ys y:=by unfold Ao;rw[List.filter_cons,if_neg (by simp)]
     rw[this,Kl h1];rfl
   have:Ao (y :: ys) x=y :: Ao ys x:=by unfold Ao;rw[List.filter_cons,if_pos (by simp[e])]
   rw[this,A0E,C4 h2 ((A0F.mp h).resolve_left λq=>e q.symm)];rfl
theorem Iv {b:α->α->Bool} {L:List α} (hn:L.Nodup) (hne:L≠[]):cnt b L=((frF b L).map λx=>cnt b (Ao L x)).sum:=by
 unfold cnt
 cases hl:L.length with
 |zero=>exact absurd (A1A.mp hl) hne
 |succ n=>
   show((frF b L).flatMap λx=>(ext b n (Ao L x)).map (x :: ·)).length=_;rw[List.length_flatMap];congr 1;apply A1I;intro x hx;have:=C4 hn (mem_frF.mp hx).1;have e:(Ao L x).length=n:=by omega
   rw[A01,e]
def fac:Nat->Nat
 |0=>1
 |n+1=>fac n*(n+1)
theorem ap3 {f g:α->Nat}:∀ {l:List α},(∀ x∈l,f x<=g x)->(l.map f).sum<=(l.map g).sum
 | [],_=>A0D _
 |x :: xs,h=>by have h1:=h x (by simp);have h2:=ap3 (l:=xs) (f:=f) (g:=g) λy hy=>h y (by simp[hy]);simp;omega
theorem Me (c:Nat)(f:α->Nat):∀ l:List α,(l.map λx=>f x*c).sum=(l.map f).sum*c
 | []=>by simp
 |x :: xs=>by simp[Me c f xs,Nat.add_mul]
theorem Oe {p q:α->Bool}:∀ {l:List α},(∀ a∈l,p a=true->q a=true)->(∃ z∈l,q z=true/\p z=false)->(l.filter p).length<(l.filter q).length
 | [],_,h=>by obtain⟨z,hz,_⟩:=h;cases hz
 |y :: ys,h,hz=>by
   have le:∀ l:List α,(∀ a∈l,p a=true->q a=true)->(l.filter p).length<=(l.filter q).length:=by
    intro l
    induction l with
    |nil=>intro _;exact A0D _
    |cons a l ih=>
      intro h;have:=ih λa ha=>h a (by simp[ha]);rw[A17,A17]
      cases c:p a with
      |true=>rw[if_pos rfl,if_pos (h a (by simp) c)];simpa using this
      |false=>
        rw[if_neg (by simp)]
        split
        . simp;omega
        exact this
   rw[A17,A17];obtain⟨z,hz,hq,hp⟩:=hz;rcases A0F.mp hz with rfl|hz
   . rw[hp,if_neg (by simp),if_pos hq,List.length_cons];have:=le ys λa ha=>h a (by simp[ha]);omega
   have ih:=Oe (l:=ys) (λa ha=>h a (by simp[ha])) ⟨z,hz,hq,hp⟩
   cases c:p y with
   |true=>rw[if_pos rfl,if_pos (h y (by simp) c)];simpa using ih
   |false=>
     rw[if_neg (by simp)]
     split
     . simp;omega
     exact ih
theorem ae8 {b:α->α->Bool}(irr:∀ x,b x x=false)(tr:∀ x y z,b x y=true->b y z=true->b x z=true){L:List α}:∀(m:Nat) (y:α),y∈L->(L.filter λz=>b z y).length<=m->∃ x∈frF b L,x=y\/b x y=true
 |m,y,hy,hm=>by
   by_cases c:∃ z∈L,b z y=true
   . obtain ⟨z,hz,hzy⟩:=c;have lt:(L.filter λa=>b a z).length<(L.filter λa=>b a y).length:=Oe (λa _ h=>tr a z y h hzy) ⟨z,hz,hzy,irr z⟩
     cases m with
     |zero=>omega
     |succ m=>
       obtain⟨x,hx,h⟩:=ae8 irr tr m z hz nofun;refine⟨x,hx,.inr ?_⟩;rcases h with rfl|h
       . exact hzy
       exact tr x z y h hzy
   refine⟨y,mem_frF.mpr ⟨hy,λz hz=>?_⟩,.inl rfl⟩
   cases e:b z y with
   |false=>rfl
   |true=>exact absurd ⟨z,hz,e⟩ c
theorem T7 {b:α->α->Bool} {L:List α} (h:L.Nodup):(frF b L).Nodup:=A1Q A1O h
theorem aF9 {b:α->α->Bool}(irr:∀ x,b x x=false)(tr:∀ x y z,b x y=true->b y z=true->b x z=true){L:List α}(h:L≠[]):frF b L≠[]:=by
 cases L with
 |nil=>exact absurd rfl h
 |cons y ys=>
   obtain⟨x,hx,_⟩:=ae8 irr tr (L:=y :: ys) _ y (by simp) (Nat.le_refl _);intro e;rw[e] at hx
   cases hx
theorem Ig {f g:α->Nat}{l:List α}(h:∀ x∈l,f x=g x):(l.map f).sum=(l.map g).sum:=by rw[A1I h]
end
def Mtd (P:Program)(w:World)(K:W.Frag)(mg:Str->Option Value)(base:Heap)(k:Nat)(C:Addr)(m:Str)(ps:List Str)(sp:Sp):Prop:=
 ∃ f fd,FnOk P w K mg base CX0 k f fd ps sp/\aO0 K C m f/\Binds K fd ps []
def Mkd (P:Program)(w:World)(K:W.Frag)(mg:Str->Option Value)(base:Heap)(k:Nat)(C:Addr)(x:Str)(ps:List Str)(sp:Sp):Prop:=
 ∃ f fd,FnOk P w K mg base CX0 k f fd ps sp/\Mk K C f/\mg x=some (.ref C)/\Binds K fd ps []
theorem FnOk.void {P:Program}{w:World}{K:W.Frag}{mg:Str->Option Value}{base:Heap}{CX:CXT}{k:Nat}{f:Addr}{fd:FuncData}{ps:List Str}{sp:Sp}(h:∀ vs H Q E,¬ sp vs H Q E):FnOk P w K mg base CX k f fd ps sp:=
 ⟨λvs H Q E q=>absurd q (h vs H Q E),λA outer s H args us vs Q E _ _ _ _ hs=>absurd hs (h vs H Q E)⟩
def rAt (f:Str)(C:Addr):V->Hp->VK->Prop:=λx H Q=>∃ a dx fs v,x = .ref a/\H a=some (.ins C dx fs)/\fs.lookup f=some v/\Q v H
def tAt (f:Str)(C:Addr)(ta:TE):TE:=fun σ H Q=>ta σ H λx H1=>rAt f C x H1 Q
def rSt (f:Str)(C:Addr)(y:V):V->Hp->(Hp->Prop)->Prop:=λx H R=>∃ a dx fs,x = .ref a/\H a=some (.ins C dx fs)/\fs.length<1000/\R (upd H a (.ins C dx (Lm f y fs)))
def sSt (f:Str)(C:Addr)(ta tv:TE):TS:=λD σ H=>tv σ H λy H1=>ta σ H1 λx H2=>rSt f C y x H2 λH3=>D.nx σ H3
def rMe (m:Str)(C:Addr)(sp:Sp)(t:TA)(σ:St):V->Hp->VK->Prop:=λx H Q=>∃ a dx fs,x = .ref a/\H a=some (.ins C dx fs)/\fs.lookup m=none/\t σ H λvs H2=>sp (x :: (vs++[])) H2 Q E0
def tMe (m:Str)(C:Addr)(sp:Sp)(ta:TE)(t:TA):TE:=fun σ H Q=>ta σ H λx H1=>rMe m C sp t σ x H1 Q
def rMk (C:Addr)(sp:Sp):List V->Hp->VK->Prop:=λvs H1 Q=>∀ x dx,H1 x=none->H1 dx=none->dx≠x ->
 sp (.ref x :: (vs++[])) (upd (upd H1 dx (.own x)) x (.ins C dx [])) (λv H2=>v = .non/\Q (.ref x) H2) E0
def tMk (C:Addr)(sp:Sp)(t:TA):TE:=fun σ H Q=>t σ H λvs H1=>rMk C sp vs H1 Q
def aR9 (ta:TE):TT:=fun σ H Q=>ta σ H λx H1=>∃ i:Int,x = .int i/\Q (i != 0) H1
section
variable {X:Cx}{K:W.Frag}{k:Nat}{C:Addr}{f x m:Str}{ps:List Str}{sp:Sp}{e o value:Expr}{es:List Expr}{ta tv:TE}{t:TA}{p pos pos' apos:Pos}
theorem Lf (he:PE X e ta)(c:Cls X.K C)(n:NoAttr X.K C f)(hb:attributeBase e f X.env (eval e X.env)=eval e X.env):PE X (.Attribute e f pos) (tAt f C ta):=by
 intro pins s σ H Q I h;refine aa9 hb (thn (he pins s σ H _ I h) ?_);rintro u s1 ⟨x,H1,I1,rx,a,dx,fs,v,rfl,ea,l,q⟩
 cases rx;exact Yu I1 ea c n l λu' s2 I2 ru=>⟨v,H1,I2,ru,q⟩
theorem ae3 (ha:PE X o ta)(hv:PE X value tv)(c:Cls X.K C)(n:NoAttr X.K C f)(hs:swapsWith value (some (.Attribute o f pos')) pos.line X.env=pure false):PS X (.Assign [.Attribute o f pos'] value pos) (sSt f C ta tv):=by
 intro pins s σ H D I h;refine plainObj_wpAny_Assign_Attribute (thn (hv pins s σ H _ I h) ?_) hs;rintro u s1 ⟨y,H1,I1,ry,q⟩;refine thn (ha pins s1 σ H1 _ I1 q) ?_;rintro ov s2 ⟨x,H2,I2,rx,a,dx,fs,rfl,ea,l,q2⟩
 cases rx;exact Y8 I2 ea c n l ry λs3 I3=>⟨σ,_,I3,q2⟩
theorem Zg {pl:Sem Bool}(he:PE X o ta)(c:Cls X.K C)(F:Mtd X.prog X.w X.K X.mg X.base k C m ps sp)(hr:Room k X.A)(ha:PA X (e :: es) t)
  (hst:starEach (e :: es) X.env=(false,eval e X.env) :: starEach es X.env:=by ac_nf) (hpl:(backTo pos (starEach es X.env)).any (·.1)=false:=by ac_nf)
  (ht:eval (.Call (.Attribute o m apos) (e :: es) [] pos) X.env=(do
   let ov <- eval o X.env
   standAt apos.atName
   let (f,first) <- holding [ov] (getMethod ov m pl)
   callWith pos f first (backTo pos (starEach (e :: es) X.env)) (backToKw pos (keywordEach [] X.env))):=by ac_nf) :
  PE X (.Call (.Attribute o m apos) (e :: es) [] pos) (tMe m C sp ta t):=by
 obtain⟨f,fd,h1,h2,h3⟩:=F;exact ax4 (pl:=pl) he c h2 h1 hr h3 .nil aw5 ha hst hpl ht
theorem aD3 (F:Mkd X.prog X.w X.K X.mg X.base k C x ps sp)(hr:Room (k+1) X.A)(hg:Gl X x)(ha:PA X (e :: es) t)(hdb:(x==("__debug__":Str))=false:=by decide)
  (he:starEach (e :: es) X.env=(false,eval e X.env) :: starEach es X.env:=by ac_nf) (hpl:(backTo pos (starEach es X.env)).any (·.1)=false:=by ac_nf) :
  PE X (.Call (.Name x p) (e :: es) [] pos) (tMk C sp t):=by
 obtain⟨f,fd,h1,h2,h3,h4⟩:=F;exact aB8 h2 h1 hr hg h3 h4 .nil aw5 ha hdb he hpl
theorem aq0 (ha:PE X e ta)(he:∀ whole,isTrue e X.env whole=(do let v <- whole;standAt e.pos;holding [v] (truthy v)):=by intro _;ac_nf):PT X e (aR9 ta):=by intro pins s σ H Q I h;refine isTrue_plain (thn (ha pins s σ H _ I h) ?_) (he _);rintro v s1 ⟨x,H1,I1,r1,i,rfl,q1⟩;exact aG4 pins s1 σ H1 _ v Q I1 r1 ⟨_,rfl,q1⟩
end
section
variable {K:W.Frag}{C:Addr}{f m:Str}{sp:Sp}{ta tv:TE}{t:TA}{σ:St}{H:Hp}{Q:VK}{D:Ends}
theorem i_tAt (k:ta σ H λx H1=>rAt f C x H1 Q):tAt f C ta σ H Q:=k
theorem Xd {a dx:Addr}{fs:List (Str×V)}{v:V}(h:H a=some (.ins C dx fs))(l:fs.lookup f=some v)(k:Q v H):rAt f C (.ref a) H Q:=⟨a,dx,fs,v,rfl,h,l,k⟩
theorem i_sSt (k:tv σ H λy H1=>ta σ H1 λx H2=>rSt f C y x H2 λH3=>D.nx σ H3):sSt f C ta tv D σ H:=k
theorem aJ0 {a dx:Addr}{fs:List (Str×V)}{y:V}{R:Hp->Prop}(h:H a=some (.ins C dx fs))(hl:fs.length<1000)(k:∀ H',ExtBut a H H'->H' a=some (.ins C dx (Lm f y fs))->R H'):rSt f C y (.ref a) H R:=
 ⟨a,dx,fs,rfl,h,hl,k _ ExtBut.upd Ad⟩
theorem i_tMe (k:ta σ H λx H1=>rMe m C sp t σ x H1 Q):tMe m C sp ta t σ H Q:=k
theorem aC3 {a dx:Addr}{fs:List (Str×V)}(h:H a=some (.ins C dx fs))(l:fs.lookup m=none)(k:t σ H λvs H2=>sp (.ref a :: (vs++[])) H2 Q E0):rMe m C sp t σ (.ref a) H Q:=⟨a,dx,fs,rfl,h,l,k⟩
theorem i_tMk (k:t σ H λvs H1=>rMk C sp vs H1 Q):tMk C sp t σ H Q:=k
theorem aT3 {vs:List V}(k:∀ x dx H2,H x=none->Same H H2->H2 x=some (.ins C dx [])->sp (.ref x :: (vs++[])) H2 (λv H3=>v = .non/\Q (.ref x) H3) E0):rMk C sp vs H Q:=λx dx hx hd hne=>k x dx _ hx (λb o e=>by rw[Az (ne_of_none e hx),Az (ne_of_none e hd)];exact e) Ad
theorem i_tTru {R:Bool->Hp->Prop}(k:ta σ H λx H1=>∃ i:Int,x = .int i/\R (i != 0) H1):aR9 ta σ H R:=k
theorem a00 {a:Addr}{kvs:List (Key×V)}{z:Int}{v:V}{R:Hp->Prop}(h:H a=some (.dK kvs))(hl:kvs.length<=1000000)(k:∀ H',ExtBut a H H'->H' a=some (.dK (Gj kvs (Sum.inl z) v))->R H'):∃ b H4,V.ref a = .ref b/\DPut H b (.int z) v H4/\R H4:=
 ⟨a,_,rfl,DPut.k (k:=Sum.inl z) h (by rw[A1G];omega),k _ ExtBut.upd Ad⟩
theorem ar3 {a:Addr}{kvs:List (Key×V)}{z:Int}{v:V}(h:H a=some (.dK kvs))(e:Dn kvs (Sum.inl z:Key)=some v)(k:Q v H):Vd K (.ref a) (.int z) H Q:=.inr ⟨a,v,rfl,by rw[<- e];exact DGet.k (k:=Sum.inl z) h,k⟩
theorem au5 {a:Addr}{kvs:List (Key×V)}{z:Int}(h:H a=some (.dK kvs))(k:Q (.bl (Dn kvs (Sum.inl z:Key)).isNone) H):Z7 K true (.int z) (.ref a) H Q:=by
 refine .inr (.inr (.inl ⟨a,Dn kvs (Sum.inl z:Key),rfl,DGet.k (k:=Sum.inl z) h,?_⟩))
 cases e:Dn kvs (Sum.inl z:Key) with
 |none=>rw[e] at k;exact k
 |some v=>rw[e] at k;exact k
end
def aC5 (d v:Addr):HO:=.ext λh=>h.IsValuesView v d
def aM5:V->List V->Hp->VK->Prop:=λx vs H Q=>∃ d kvs,x = .ref d/\vs=[]/\H d=some (.dK kvs)/\∀ v,H v=none->Q (.ref v) (upd H v (aC5 d v))
def aK6:List V->Hp->VK->Prop:=λxs H Q=>∃(v d:Addr) (kvs:List (Key×V)) (ns:List Int),xs=[.ref v]/\H v=some (aC5 d v)/\H d=some (.dK kvs)/\kvs.map (·.2)=ns.map V.int/\(∀ n∈ns,0<=n/\n<=1000000000000)/\ns.length<=1000000/\Q (.int ns.sum) H
section
variable {X:Cx}{K:W.Frag}
theorem ab3:MtM X "dict.values" aM5:=by
 intro pins s σ H x vs v us Q I rx rv h;obtain⟨d,kvs,rfl,rfl,hD,q⟩:=h
 cases rx
 cases rv;obtain⟨z1,hd1,vs1,rel1,dd1⟩:=Ub I.hok hD;refine A3Y F.slot_dict_values dd1.typeIs F.entry_dict_values (F.args_dict_values_1 _) (meets_dict_values (Ay X.prog X.w) d hd1) ⟨⟨vs1,dd1⟩,?_⟩;refine ⟨.ref s.heap.objs.size,upd H s.heap.objs.size (aC5 d s.heap.objs.size),I.laid (t':=s.toks) (λb u e=>A02 _ e) (A0D _) ⟨⟨_,A0B _ rfl,rfl,rfl⟩,⟨_,A0B _ rfl⟩,λh1 h2 ⟨o,e,r⟩ hk=>⟨o,hk o e,r⟩⟩,rfl,q _ (I.hok.fresh (A0D _))⟩
theorem ab0 {α β:Type}{F:α->β->Prop}{l₁:List α}{l₂:List β}(h:Paired F l₁ l₂):∀ {i:Nat} {a:α},l₁[i]? = some a->∃ b,l₂[i]? = some b/\F a b:=by
 induction h with
 |nil=>intro i a e;cases e
 |cons r _ ih=>
   intro i a e
   cases i with
   |zero=>cases e;exact⟨_,rfl,r⟩
   |succ i=>exact ih e
theorem aA7 {ns:List Int}{kvs:List (Key×V)}{vs:List (Key×Value)}(rel:KV kvs vs)(h:kvs.map (·.2)=ns.map V.int){i:Nat}{k:Key}{u:Value}(hx:vs[i]? = some (k,u)):∃ t,u = .int (ns.getD i 0) t:=by
 have hl:kvs.length=vs.length:=rel.length;have hn:kvs.length=ns.length:=by have:=congrArg List.length h;rwa[A01,A01] at this
 have hi:i<vs.length:=(A03.mp hx).1;have hk:kvs[i]? = some kvs[i]:=A04 nofun;obtain⟨q,hq,r⟩:=ab0 rel hk;rw[hx] at hq
 cases hq;have e:(kvs.map (·.2))[i]? = some kvs[i].2:=by rw[A09,hk];rfl
 rw[h,A09,Gn (y:=0) (by omega:i<ns.length)] at e;have e2:V.int (ns.getD i 0)=kvs[i].2:=A0Z e;have r2:=r.2;rw[<- e2] at r2;exact r2
theorem ab6 (hc:X.calm=true):CallR X (.builtin "sum") aK6:=by
 intro pins s σ H xs us Q I r h;obtain⟨v,d,kvs,ns,rfl,hv,hd,hns,hb,hz,q⟩:=h;obtain⟨u,rfl,ru⟩:=Pa r
 cases ru
 have fits:∀ j,j<ns.length->InLong (ns.getD j 0)/\InLong (preSum (λi=>ns.getD i 0) (j+1)):=λj hj=>by have h1:=hb _ (A05 (Gn (y:=0) hj));have h2:=Ob (ns:=ns.take (j+1)) λn hn=>hb n (A1K hn);rw[G3 ns (j+1) hj];rw[A0T] at h2;unfold InLong;omega
 have last:preSum (λi=>ns.getD i 0) ns.length=ns.sum:=by rw[G3 ns _ (A0D _),A13]
 obtain⟨_,hs,vs,rel,dd⟩:=Ub I.hok hd;obtain⟨ep,hat⟩:=dd.dictAt;have vv:s.heap.IsValuesView v d:=(show ObjOk X.prog X.w H s.heap v (aC5 d v) from I.hok v _ hv).1;have hlt:d<s.heap.objs.size:=I.hok.lt hd
 have hn:vs.length=ns.length:=by have:=congrArg List.length hns;rw[A01,A01] at this;have:=rel.length;omega
 refine call_sum_walk ?_;obtain⟨oI,St,hit,W,st⟩:=(PySem.W.kdl_values (knd:=Ay X.prog X.w) (r:=v) (d:=d) (kvs:=vs) (ep:=ep)).iter X.A.in1 s (by simpa using I.ok.hd hc) ⟨vv,hat⟩;refine hit _ _ ?_;refine⟨s.heap.objs.size,_,_,_,_,_,λi=>ns.getD i 0,rfl,W,st,?_,?_,by rw[hn];exact fits,?_⟩
 . intro b hb';rw[A1P];simp only[List.mem_cons,List.not_mem_nil,or_false] at hb';rcases hb' with rfl|rfl
   . exact A3F _
   exact A3C hlt
 . rintro i u ⟨k,hx⟩;exact aA7 rel hns hx
 intro h' tk t' hk;refine⟨.int ns.sum,H,I.kept (t':=tk) ?_,⟨t',by rw[hn,last]⟩,q⟩;intro b o e;refine hk b o (λz=>?_) (A02 _ e);have:b=s.heap.objs.size:=by simpa using z
 subst this;exact absurd (A08 e) (A24 _)
theorem aF0 {d:Addr}{kvs:List (Key×V)}{H:Hp}{Q:VK}(h:H d=some (.dK kvs))(k:∀ v H',H v=none->Same H H'->H' v=some (aC5 d v)->Q (.ref v) H'):aM5 (.ref d) [] H Q:=⟨d,kvs,rfl,rfl,h,λv hv=>k v _ hv (Same.upd hv) Ad⟩
theorem aF2 {v d:Addr}{kvs:List (Key×V)}{ns:List Int}{H:Hp}{Q:VK}(hv:H v=some (aC5 d v))(hd:H d=some (.dK kvs))(hns:kvs.map (·.2)=ns.map V.int)(hb:∀ n∈ns,0<=n/\n<=1000000000000)(hz:ns.length<=1000000)(k:Q (.int ns.sum) H):aK6 [.ref v] H Q:=
 ⟨v,d,kvs,ns,rfl,hv,hd,hns,hb,hz,k⟩
end
theorem Ta {α β:Type}{F:α->β->Prop}:∀ {l₁:List α} {l₂:List β},l₁.length=l₂.length->(∀(i:Nat) a b,l₁[i]? = some a->l₂[i]? = some b->F a b)->Paired F l₁ l₂
 | [],[],_,_=>.nil
 |a :: l₁,b :: l₂,hl,h=>.cons (h 0 a b rfl rfl) (Ta (by simpa using hl) λi x y hx hy=>h (i+1) x y hx hy)
section
variable {X:Cx}
end
section
variable {α:Type}[DecidableEq α]
theorem aw9 (a b:Nat):Builtin.bitAnd (a:Int) (b:Int)=((a &&& b:Nat):Int):=by rw[bitAnd_pp (Int.natCast_nonneg _) (Int.natCast_nonneg _)];simp
theorem ab1 (p q:α->Bool)(ns:List α):(Builtin.bitAnd (Bx ns p:Int) (Bx ns q:Int) != 0)=ns.any λx=>p x&&q x:=by
 rw[aw9,Ww]
 cases e:ns.any λx=>p x&&q x with
 |true=>
   obtain⟨x,hx,h⟩:=A19.mp e
   have:Bx ns (λx=>p x&&q x)≠0:=λz=>by
    have:=binM_zero.mp z x hx;rw[this] at h
    cases h
   simp only[bne_iff_ne,ne_eq];omega
 |false=>
   have:Bx ns (λx=>p x&&q x)=0:=binM_zero.mpr λx hx=>by
    cases c:(p x&&q x) with
    |false=>rfl
    |true=>rw[A19.mpr ⟨x,hx,c⟩] at e;cases e
   rw[this];rfl
theorem au1 {ns:List α} (hn:ns.Nodup) {x:α} (hx:x∈ns) (q:α->Bool):(Builtin.bitAnd (Fn ns x:Int) (Bx ns q:Int) != 0)=q x:=by
 rw[ab7 hn hx,ab1]
 cases c:q x with
 |true=>exact List.any_eq_true.mpr ⟨x,hx,by simp[c]⟩
 |false=>
   rw[Bool.eq_false_iff];intro h;obtain⟨y,_,hy⟩:=A19.mp h;rw[A0X,A3N] at hy;rw[hy.1,c] at hy
   cases hy.2
theorem Yj (ns:List α)(p q:α->Bool):(ns.any λx=>p x&&q x)=(ns.filter q).any p:=by
 induction ns with
 |nil=>rfl
 |cons y ys ih=>
   rw[A2M,ih,A17]
   cases c:q y with
   |true=>rw[A15 rfl,A2M,Bool.and_true]
   |false=>rw[A10 ∅,A4H,A5G]
theorem a62 (b:α->α->Bool)(ns:List α)(q:α->Bool):(ns.filter λx=>q x && !(ns.any λy=>b y x&&q y))=frF b (ns.filter q):=by unfold frF;rw[A5H];apply A1C;intro x _;rw[Yj,Bool.and_comm]
theorem G5 (ns:List α)(q:α->Bool)(x:α):(ns.filter λy=>q y && !decide (y=x))=Ao (ns.filter q) x:=by unfold Ao;rw[A5H];apply A1C;intro y _;rw[Bool.and_comm]
theorem Pb:∀ n:Nat,0<fac n
 |0=>A3F 0
 |n+1=>Nat.mul_pos (Pb n) (Nat.succ_pos n)
theorem Oh {m n:Nat}(h:m<=n):fac m<=fac n:=by
 induction h with
 |refl=>exact A0D _
 |@step k _ ih=>exact A0H ih (Nat.le_mul_of_pos_right _ (Nat.succ_pos k))
theorem Ui (c:Nat):∀ l:List α,(l.map λ_=>c).sum=l.length*c
 | []=>by simp
 |x :: xs=>by rw[A0R,A1L,Ui c xs,A0E,A4B,A3V,Nat.add_comm]
theorem Qe (b:α->α->Bool):∀(n:Nat) (L:List α),L.length=n->L.Nodup->cnt b L<=fac n
 |0,L,hl,_=>by have:=A1A.mp hl;subst this;exact A0D _
 |n+1,L,hl,hn=>by
   have hne:L≠[]:=by intro e;rw[e] at hl;cases hl
   rw[Iv hn hne]
   have h1:((frF b L).map λx=>cnt b (Ao L x)).sum<=((frF b L).map λ_=>fac n).sum:=ap3 λx hx=>by have:=C4 hn (mem_frF.mp hx).1;exact Qe b n (Ao L x) nofun (B8 hn x)
   rw[Ui] at h1;refine A0H h1 ?_;show _<=fac n*(n+1);rw[A3X];refine Nat.mul_le_mul_left _ ?_;rw[<- hl];exact A0O _ _
theorem Rv {b:α->α->Bool}{L:List α}(hn:L.Nodup)(h:L.length<=10):cnt b L<=3628800:=A0H (Qe b _ L rfl hn) (A0H (Oh h) ∅)
end
def aC7 (ns:List Str):List (Key×V):=ns.map λx=>((Sum.inr x:Key),V.int ((Fn ns x:Nat):Int))
def ahK (ns:List Str)(ps:List (Str×Str)):List (Key×V):=ns.map λx=>((Sum.inr x:Key),V.int ((Bx ns (λy=>Ak ps y x):Nat):Int))
theorem Jy {f:Str->V}:∀ {ns:List Str} {x:Str},x∈ns->Dn (ns.map λx=>((Sum.inr x:Key),f x)) (Sum.inr x:Key)=some (f x)
 | [],x,h=>by cases h
 |y :: ys,x,h=>by
   rw[A0R]
   by_cases e:y=x
   . subst e;exact Bm rfl
   rw[Be λq=>e (Sum.inr.inj q)];exact Jy ((A0F.mp h).resolve_left λq=>e q.symm)
theorem J8 {f:Str->V}:∀ {ns:List Str} {x:Str},x∉ns->Dn (ns.map λx=>((Sum.inr x:Key),f x)) (Sum.inr x:Key)=none
 | [],x,h=>rfl
 |y :: ys,x,h=>by rw[List.map_cons,Be λq=>h (by rw[<- Sum.inr.inj q];simp)];exact J8 λq=>h (A0L _ q)
theorem Oo:∀ {ns:List Str} {i:Nat} {x:Str},ns.Nodup->ns[i]? = some x->Fn ns x=2 ^ i
 | [],i,x,_,h=>by cases h
 |y :: ys,0,x,_,h=>by cases h;unfold Fn;rw[A15 rfl]
 |y :: ys,i+1,x,hn,h=>by obtain⟨h1,h2⟩:=A0U.mp hn;have hx:ys[i]? = some x:=h;unfold Fn;rw[A10 λq=>h1 (by rw[<- q];exact A05 hx),Oo h2 hx,Nat.pow_succ,A3X]
theorem IsL.int_eq {K:W.Frag}{H:Hp}:∀ {ns:List Int} {vs:List V},IsL K H (ns.map PyData.int) vs->vs=ns.map V.int
 | [],vs,h=>by simp only[List.map_nil,IsL] at h;exact h
 |n :: ns,vs,h=>by simp only[List.map_cons,IsL,Is] at h;obtain⟨v,r,rfl,rfl,e3⟩:=h;rw[IsL.int_eq e3];rfl
theorem Hz {α:Type}(f:α->Nat):∀ l:List α,(l.map λx=>((f x:Nat):Int)).sum=(((l.map f).sum:Nat):Int)
 | []=>rfl
 |x :: xs=>by rw[A0R,A1L,Hz f xs,A0R,A1L];omega
theorem ExtBut.fzI {p:Addr}{H H':Hp}{C dx:Addr}{fs:List (Str×V)}(e:ExtBut p H H')(hp:H p=some (.ins C dx fs)):Fz H H':=ad9 e λxs h=>by
 rcases h with h|⟨o,h⟩
 . rw[hp] at h;cases h
 rw[hp] at h;cases h
def Knw (ns:List Str) (ps:List (Str×Str)) (kvs:List (Key×V)):Prop:=(kvs.map (·.1)).Nodup /\
 (∀ kv∈kvs,∃ q:Str->Bool,kv.1=Sum.inl ((Bx ns q:Nat):Int)/\kv.2=V.int ((cnt (Ak ps) (ns.filter q):Nat):Int))/\Dn kvs (Sum.inl 0:Key)=some (.int 1)
theorem X7 {κ:Type}[DecidableEq κ]:∀ {kvs:List (κ×V)} {k:κ} {v:V},Dn kvs k=some v->(k,v)∈kvs
 | [],k,v,h=>by cases h
 |p :: r,k,v,h=>by
   by_cases e:p.1=k
   . rw[Bm e] at h
     cases h;rw[<- e];exact A12
   rw[Be e] at h;exact A0L _ (X7 h)
theorem Knw.get {ns:List Str}{ps:List (Str×Str)}{kvs:List (Key×V)}(h:Knw ns ps kvs){q:Str->Bool}{v:V}(e:Dn kvs (Sum.inl ((Bx ns q:Nat):Int):Key)=some v):v = .int ((cnt (Ak ps) (ns.filter q):Nat):Int):=by
 obtain⟨q',h1,h2⟩:=h.2.1 _ (X7 e)
 have h3:Bx ns q'=Bx ns q:=by have:=Sum.inl.inj h1;omega
 have h4:ns.filter q'=ns.filter q:=A1C λx hx=>Mg h3 x hx;rw[h4] at h2;exact h2
theorem Knw.len {ns:List Str}{ps:List (Str×Str)}{kvs:List (Key×V)}(h:Knw ns ps kvs)(hf:ns.length<=10):kvs.length<=1024:=by
 have:=Cl (ys:=(List.range 1024).map λi=>(Sum.inl ((i:Nat):Int):Key)) h.1 λk hk=>by obtain⟨kv,hkv,rfl⟩:=A0A.mp hk;obtain⟨q,h1,_⟩:=h.2.1 kv hkv;rw[h1];have h2:=W5 q ns;have h3:(2:Nat) ^ ns.length<=2 ^ 10:=A43 ∅ hf;exact A0A.mpr ⟨Bx ns q,A1U.mpr nofun,rfl⟩
 rwa [A01,A01,A1B] at this
theorem Knw.put {ns:List Str}{ps:List (Str×Str)}{kvs:List (Key×V)}(h:Knw ns ps kvs)(q:Str->Bool) :
  Knw ns ps (Gj kvs (Sum.inl ((Bx ns q:Nat):Int)) (.int ((cnt (Ak ps) (ns.filter q):Nat):Int))):=by
 cases e:Dn kvs (Sum.inl ((Bx ns q:Nat):Int):Key) with
 |some v=>
   have hp:Gj kvs (Sum.inl ((Bx ns q:Nat):Int):Key) (.int ((cnt (Ak ps) (ns.filter q):Nat):Int))=kvs:=by
    unfold Gj;rw[Hy,e,A15 (show(some v).isSome=true from rfl)]
    conv=>rhs;rw[<- List.map_id kvs]
    apply A1I;intro kv hkv
    by_cases c:kv.1=Sum.inl ((Bx ns q:Nat):Int)
    . rw[A15 c];obtain⟨q',h1,h2⟩:=h.2.1 kv hkv;rw[h1] at c
      have h3:Bx ns q'=Bx ns q:=by have:=Sum.inl.inj c;omega
      have h4:ns.filter q'=ns.filter q:=A1C λx hx=>Mg h3 x hx;rw[<- h4,<- h2];rfl
    rw[A10 c];rfl
   rw[hp];exact h
 |none=>
   refine⟨ax1 _ h.1 e,λkv hkv=>?_,?_⟩
   . rw[M9 _ e] at hkv;rcases A0I.mp hkv with hkv|hkv
     . exact h.2.1 kv hkv
     have:kv=(Sum.inl ((Bx ns q:Nat):Int),V.int ((cnt (Ak ps) (ns.filter q):Nat):Int)):=by simpa using hkv
     subst this;exact⟨q,rfl,rfl⟩
   rw[Wl]
   by_cases c:(Sum.inl 0:Key)=Sum.inl ((Bx ns q:Nat):Int)
   . rw[<- c,h.2.2] at e
     cases e
   rw[A10 c];exact h.2.2
theorem Knw.new (ns:List Str)(ps:List (Str×Str)):Knw ns ps [(Sum.inl 0,V.int 1)]:=by
 refine⟨by simp,λkv hkv=>?_,Bm rfl⟩;have:kv=(Sum.inl 0,V.int 1):=by simpa using hkv
 subst this;refine⟨λ_=>false,?_,?_⟩
 . rw[binM_zero.mpr λ_ _=>rfl];rfl
 have:ns.filter (λ_=>false)=[]:=by simp
 rw[this,Rs];rfl
structure WaysAt (K:W.Frag)(C:Addr)(H:Hp)(p dx:Addr)(nv:V)(bd ad kd:Addr)(ns:List Str)(ps:List (Str×Str))(kvs:List (Key×V)):Prop where
 ob:H p=some (.ins C dx [("names",nv),("bits",.ref bd),("ahead",.ref ad),("full",.int ((Bx ns (λ_=>true):Nat):Int)),("known",.ref kd)])
 nm:Is K H (nmD ns) nv
 bt:H bd=some (.dK (aC7 ns))
 ah:H ad=some (.dK (ahK ns ps))
 kn:H kd=some (.dK kvs)
 nb:bd≠kd
 na:ad≠kd
 ok:Knw ns ps kvs
section
variable {K:W.Frag}{C:Addr}{H H':Hp}{p dx:Addr}{nv:V}{bd ad kd:Addr}{ns:List Str}{ps:List (Str×Str)}{kvs kvs':List (Key×V)}
theorem WaysAt.same (h:WaysAt K C H p dx nv bd ad kd ns ps kvs)(e:Same H H'):WaysAt K C H' p dx nv bd ad kd ns ps kvs:=
 ⟨e _ _ h.ob,h.nm.nm_fz e.fz,e _ _ h.bt,e _ _ h.ah,e _ _ h.kn,h.nb,h.na,h.ok⟩
theorem WaysAt.pk (h:WaysAt K C H p dx nv bd ad kd ns ps kvs):p≠kd:=ne_of h.ob h.kn (by intro z;cases z)
theorem WaysAt.put (h:WaysAt K C H p dx nv bd ad kd ns ps kvs)(e:ExtBut kd H H')(hk:H' kd=some (.dK kvs'))(ok:Knw ns ps kvs'):WaysAt K C H' p dx nv bd ad kd ns ps kvs':=
 ⟨e _ _ h.pk h.ob,h.nm.nm_fz (e.fzD h.kn),e _ _ h.nb h.bt,e _ _ h.na h.ah,hk,h.nb,h.na,ok⟩
theorem WaysAt.list {l:Addr}{xs:List V}(h:WaysAt K C H p dx nv bd ad kd ns ps kvs)(e:ExtBut l H H')(hl:H l=some (.lst xs)):WaysAt K C H' p dx nv bd ad kd ns ps kvs:=
 ⟨e _ _ (ne_of h.ob hl (by intro z;cases z)) h.ob,h.nm.nm_fz (e.fzL hl),e _ _ (ne_of h.bt hl (by intro z;cases z)) h.bt,e _ _ (ne_of h.ah hl (by intro z;cases z)) h.ah,e _ _ (ne_of h.kn hl (by intro z;cases z)) h.kn,h.nb,h.na,h.ok⟩
end
theorem ai2 {ns:List Str}{ps:List (Str×Str)}(h:HalfW ns ps)(x:Str):Ak ps x x=false:=Fy (h.irr x)
theorem az7 {ps:List (Str×Str)}(x y z:Str)(h:Ak ps x y=true)(g:Ak ps y z=true):Ak ps x z=true:=wayB_iff.mpr ((wayB_iff.mp h).trans (wayB_iff.mp g))
section
variable {α:Type}[DecidableEq α]
def Nf (b:α->α->Bool)(nm:α):Nat->List α->Nat
 |0,L=>if nm∈frF b L then cnt b (Ao L nm) else 0
 |t+1,L=>((frF b L).map λx=>Nf b nm t (Ao L x)).sum
theorem Mb {f:α->Nat}:∀ {l:List α},(∀ x∈l,f x=0)->(l.map f).sum=0
 | [],_=>rfl
 |x :: xs,h=>by rw[List.map_cons,List.sum_cons,h x (by simp),Mb λy hy=>h y (by simp[hy])]
theorem Qt {b:α->α->Bool}{nm:α}:∀(t:Nat) {L:List α},nm∉L->Nf b nm t L=0
 |0,L,h=>A10 λq=>h (mem_frF.mp q).1
 |t+1,L,h=>Mb λx _=>Qt t λq=>h (mem_lessF.mp q).1
theorem Iy {β:Type} (p:β->Bool) (f:α->List β):∀ l:List α,((l.flatMap f).filter p).length=(l.map λx=>((f x).filter p).length).sum
 | []=>rfl
 |x :: xs=>by rw[A1W,A1N,A0C,Iy p f xs,A0R,A1L]
theorem Vg (b:α->α->Bool)(nm:α):∀(n:Nat) (L:List α) (t:Nat),L.Nodup->L.length=n->nm∈L->((ext b n L).filter λr=>decide (r.idxOf nm=t)).length=Nf b nm t L
 |0,L,t,_,hl,hm=>by
   have:=A1A.mp hl;subst this
   cases hm
 |n+1,L,t,hn,hl,hm=>by
   show(((frF b L).flatMap λx=>(ext b n (Ao L x)).map (x :: ·)).filter _).length=_;rw[Iy]
   have e:∀ x∈frF b L,(((ext b n (Ao L x)).map (x :: ·)).filter λr=>decide (r.idxOf nm=t)).length=if x=nm then(if t=0 then cnt b (Ao L nm) else 0) else(match t with | 0=>0 | t+1=>Nf b nm t (Ao L x)):=λx hx=>by
    have hxL:=(mem_frF.mp hx).1;have hlx:=C4 hn hxL;rw[List.filter_map,A01]
    by_cases c:x=nm
    . subst c;rw[A15 rfl]
      by_cases ct:t=0
      . subst ct;rw[A15 rfl,A5B.mpr]
        . unfold cnt;rw[show(Ao L x).length=n by omega]
        intro r _;simp
      rw[A10 ct,A2G.mpr]
      . rfl
      intro r _;simp;exact λq=>ct q.symm
    rw[A10 c]
    cases t with
    |zero=>
      rw[A2G.mpr]
      . rfl
      intro r _;have:(x==nm)=false:=by simpa using c
      simp[List.idxOf_cons,this]
    |succ t=>
      show _=Nf b nm t (Ao L x);rw[<- Vg b nm n (Ao L x) t (B8 hn x) nofun (mem_lessF.mpr ⟨hm,λq=>c q.symm⟩)];congr 1;apply A1C;intro r _;have:(x==nm)=false:=by simpa using c
      simp[List.idxOf_cons,this]
   rw[A1I e]
   cases t with
   |zero=>
     show _=if nm∈frF b L then cnt b (Ao L nm) else 0
     have key:∀ l:List α,l.Nodup->(l.map λx=>if x=nm then(if(0:Nat)=0 then cnt b (Ao L nm) else 0) else 0).sum=if nm∈l then cnt b (Ao L nm) else 0:=by
      intro l hl
      induction l with
      |nil=>simp
      |cons y ys ih=>
        obtain⟨h1,h2⟩:=A0U.mp hl;rw[A0R,A1L,ih h2]
        by_cases c:y=nm
        . subst c;rw[if_pos rfl,if_pos rfl,if_neg h1,if_pos (by simp)];omega
        rw[A10 c,Nat.zero_add];have:(nm∈y :: ys)↔nm∈ys:=⟨λh=>(List.mem_cons.mp h).resolve_left λq=>c q.symm,λh=>by simp[h]⟩
        by_cases d:nm∈ys
        . rw[A15 d,A15 (this.mpr d)]
        rw[A10 d,A10 λh=>d (this.mp h)]
     exact key _ (T7 hn)
   |succ t=>
     show _=((frF b L).map λx=>Nf b nm t (Ao L x)).sum;apply Ig;intro x hx
     by_cases c:x=nm
     . subst c;rw[A15 rfl,A10 nofun,Qt t λq=>(mem_lessF.mp q).2 rfl]
     rw[A10 c]
theorem aI4 (n:Nat)(x:Nat)(h:x<n):((List.range n).map λt=>t*(if x=t then 1 else 0)).sum=x:=by
 induction n with
 |zero=>omega
 |succ n ih=>
   rw[A54,A0M,A55]
   by_cases c:x=n
   . subst c
     have:((List.range x).map λt=>t*(if x=t then 1 else 0)).sum=0:=Mb λt ht=>by have:=A1U.mp ht;rw[A10 nofun];rfl
     rw[this];simp
   rw[ih nofun];simp[c]
theorem Wk {β:Type} (f g:β->Nat):∀ l:List β,(l.map λx=>f x+g x).sum=(l.map f).sum+(l.map g).sum
 | []=>rfl
 |x :: xs=>by rw[A0R,A1L,Wk f g xs,A0R,A1L,A0R,A1L];omega
theorem Qk (n:Nat):∀ l:List Nat,(∀ x∈l,x<n)->((List.range n).map λt=>t*(l.filter λx=>decide (x=t)).length).sum=l.sum
 | [],_=>by
   have:((List.range n).map λt=>t*(([]:List Nat).filter λx=>decide (x=t)).length).sum=0:=Mb λt _=>by simp
   rw[this];rfl
 |x :: xs,h=>by
   have e:∀ t,t*((x :: xs).filter λx=>decide (x=t)).length=t*(if x=t then 1 else 0)+t*(xs.filter λx=>decide (x=t)).length:=λt=>by
    rw[A17,<- Nat.mul_add];congr 1
    by_cases c:x=t<;>simp[c,Nat.add_comm]
   rw[List.map_congr_left (λt _=>e t),Wk,aI4 n x (h x (by simp)),Qk n xs λy hy=>h y (by simp[hy]),List.sum_cons]
end
def Gh (ns:List Str)(ct:List ((Str->Bool)×Nat)):List (Key×V):=ct.map λe=>((Sum.inl ((Bx ns e.1:Nat):Int):Key),V.int ((e.2:Nat):Int))
def Lz (ns:List Str)(F:List Str->Nat)(ct:List ((Str->Bool)×Nat)):Nat:=(ct.map λe=>e.2*F (ns.filter e.1)).sum
def Ll (ns:List Str)(ct:List ((Str->Bool)×Nat)):Prop:=((Gh ns ct).map (·.1)).Nodup
theorem Ha (ns:List Str)(F:List Str->Nat)(e:(Str->Bool)×Nat)(r:List ((Str->Bool)×Nat)):Lz ns F (e :: r)=e.2*F (ns.filter e.1)+Lz ns F r:=by unfold Lz;rw[List.map_cons,List.sum_cons]
theorem av4 {p:Key×V}{r:List (Key×V)}{k:Key}{v:V}(h:¬ p.1=k):Gj (p :: r) k v=p :: Gj r k v:=by
 unfold Gj;rw[A2M,A0P h,A5G]
 by_cases c:(r.any λkv=>decide (kv.1=k))=true
 . rw[A15 c,A15 c,A0R,A10 h]
 rw[A10 c,A10 c];rfl
theorem aw6 {p:Key×V}{r:List (Key×V)}{v:V}(h:p.1∉r.map (·.1)):Gj (p :: r) p.1 v=(p.1,v) :: r:=by
 unfold Gj;rw[A2M,A0S rfl,Bool.true_or,A15 rfl,A0R,A15 rfl];congr 1
 conv=>rhs;rw[<- List.map_id r]
 apply A1I;intro kv hkv;rw[A10 λq=>h (A0A.mpr ⟨kv,hkv,q⟩)];rfl
theorem a02 (ns:List Str) (q:Str->Bool) (c:Nat):∀ {ct:List ((Str->Bool)×Nat)},Ll ns ct->∃(k0:Nat) (ct':List ((Str->Bool)×Nat)),
  (Dn (Gh ns ct) (Sum.inl ((Bx ns q:Nat):Int):Key)).getD (.int 0) = .int ((k0:Nat):Int)/\Gh ns ct'=Gj (Gh ns ct) (Sum.inl ((Bx ns q:Nat):Int)) (.int (((k0+c:Nat)):Int)) /\
  (∀ k,k∈(Gh ns ct').map (·.1)↔k∈(Gh ns ct).map (·.1)\/k=Sum.inl ((Bx ns q:Nat):Int))/\Ll ns ct'/\∀ F,Lz ns F ct'=Lz ns F ct+c*F (ns.filter q)
 | [],_=>⟨0,[(q,c)],rfl,by rw[Nat.zero_add];rfl,λk=>by simp[Gh],by unfold Ll Gh;simp,λF=>by unfold Lz;simp⟩
 |e :: r,h=>by
   have h:((Sum.inl ((Bx ns e.1:Nat):Int):Key) :: (Gh ns r).map (·.1)).Nodup:=h;obtain⟨h1,h2⟩:=A0U.mp h
   by_cases c1:Bx ns e.1=Bx ns q
   . have hf:ns.filter e.1=ns.filter q:=A1C λx hx=>Mg c1 x hx;refine⟨e.2,(e.1,e.2+c) :: r,?_,?_,λk=>?_,h,λF=>?_⟩
     . show(Dn ((Sum.inl ((Bx ns e.1:Nat):Int),V.int ((e.2:Nat):Int)) :: Gh ns r) _).getD _=_;rw[Bm (by rw[c1])];rfl
     . show(Sum.inl ((Bx ns e.1:Nat):Int),V.int ((e.2+c:Nat):Int)) :: Gh ns r=Gj ((Sum.inl ((Bx ns e.1:Nat):Int),V.int ((e.2:Nat):Int)) :: Gh ns r) _ _;rw[<- c1,aw6 (p:=(Sum.inl ((Bx ns e.1:Nat):Int),V.int ((e.2:Nat):Int))) h1]
     . show k∈(Sum.inl ((Bx ns e.1:Nat):Int):Key) :: (Gh ns r).map (·.1)↔k∈(Sum.inl ((Bx ns e.1:Nat):Int):Key) :: (Gh ns r).map (·.1)\/_;constructor
       . exact .inl
       rintro(h|h)
       . exact h
       rw[h,c1];simp
     rw[Ha,Ha];show(e.2+c)*F (ns.filter e.1)+_=_;rw[hf,A4B];omega
   have hk:¬ (Sum.inl ((Bx ns e.1:Nat):Int):Key)=Sum.inl ((Bx ns q:Nat):Int):=λz=>c1 (by have:=Sum.inl.inj z;omega);obtain⟨k0,ct',g1,g2,g3,g4,g5⟩:=a02 ns q c h2;refine⟨k0,e :: ct',?_,?_,λk=>?_,?_,λF=>?_⟩
   . show(Dn ((Sum.inl ((Bx ns e.1:Nat):Int),V.int ((e.2:Nat):Int)) :: Gh ns r) _).getD _=_;rw[Be hk];exact g1
   . show(Sum.inl ((Bx ns e.1:Nat):Int),V.int ((e.2:Nat):Int)) :: Gh ns ct'=Gj ((Sum.inl ((Bx ns e.1:Nat):Int),V.int ((e.2:Nat):Int)) :: Gh ns r) _ _;rw[av4 hk,g2]
   . show k∈(Sum.inl ((Bx ns e.1:Nat):Int):Key) :: (Gh ns ct').map (·.1)↔k∈(Sum.inl ((Bx ns e.1:Nat):Int):Key) :: (Gh ns r).map (·.1)\/_;rw[A0F,A0F,g3];constructor
     . rintro(h|h|h)
       . exact .inl (.inl h)
       . exact .inl (.inr h)
       exact .inr h
     rintro((h|h)|h)
     . exact .inl h
     . exact .inr (.inl h)
     exact .inr (.inr h)
   . show((Sum.inl ((Bx ns e.1:Nat):Int):Key) :: (Gh ns ct').map (·.1)).Nodup;refine A0U.mpr ⟨λhm=>?_,g4⟩;rcases(g3 _).mp hm with hm|hm
     . exact h1 hm
     exact hk hm
   rw[Ha,Ha,g5];omega
theorem ac5 {ns:List Str}{ct:List ((Str->Bool)×Nat)}(h:Ll ns ct){i:Nat}{e:(Str->Bool)×Nat}(he:ct[i]? = some e):Dn (Gh ns ct) (Sum.inl ((Bx ns e.1:Nat):Int):Key)=some (.int ((e.2:Nat):Int)):=by
 induction ct generalizing i with
 |nil=>cases he
 |cons p r ih=>
   have h:((Sum.inl ((Bx ns p.1:Nat):Int):Key) :: (Gh ns r).map (·.1)).Nodup:=h;obtain⟨h1,h2⟩:=A0U.mp h
   cases i with
   |zero=>cases he;exact Bm rfl
   |succ i=>
     have he:r[i]? = some e:=he
     have hm:(Sum.inl ((Bx ns e.1:Nat):Int):Key)∈(Gh ns r).map (·.1):=by unfold Gh;rw[A18];exact A0A.mpr ⟨e,A05 he,rfl⟩
     show Dn ((Sum.inl ((Bx ns p.1:Nat):Int),V.int ((p.2:Nat):Int)) :: Gh ns r) _=_;rw[Be λz=>h1 (by rw[show(Sum.inl ((Bx ns p.1:Nat):Int):Key)=Sum.inl ((Bx ns e.1:Nat):Int) from z];exact hm)];exact ih h2 he
theorem Wc {ns:List Str}{ct:List ((Str->Bool)×Nat)}(h:Ll ns ct)(hf:ns.length<=10):ct.length<=1024:=by
 have:=Cl (ys:=(List.range 1024).map λi=>(Sum.inl ((i:Nat):Int):Key)) h λk hk=>by obtain⟨kv,hkv,rfl⟩:=A0A.mp hk;obtain⟨e,_,rfl⟩:=A0A.mp hkv;have h2:=W5 e.1 ns;have h3:(2:Nat) ^ ns.length<=2 ^ 10:=A43 ∅ hf;exact A0A.mpr ⟨Bx ns e.1,A1U.mpr nofun,rfl⟩
 unfold Gh at this;rwa[A01,A01,A01,A1B] at this
theorem a84 {ns:List Str}{F:List Str->Nat}{ct:List ((Str->Bool)×Nat)}{i:Nat}{e:(Str->Bool)×Nat}(he:ct[i]? = some e):Lz ns F (ct.take (i+1))=Lz ns F (ct.take i)+e.2*F (ns.filter e.1):=by unfold Lz;rw[A0Y,he,A0M,A55];simp
theorem aa2 {ns:List Str}{F:List Str->Nat}{ct:List ((Str->Bool)×Nat)}{e:(Str->Bool)×Nat}(he:e∈ct):e.2*F (ns.filter e.1)<=Lz ns F ct:=by
 induction ct with
 |nil=>cases he
 |cons p r ih=>
   rw[Ha];rcases A0F.mp he with rfl|he
   . omega
   have:=ih he;omega
section
variable {K:W.Frag}{σ:St}{H:Hp}{Q:VK}{td ty tx:TE}
def at0 (ty tx:TE)(σ:St):V->Hp->VK->Prop:=λx H1 Q=>∃ a,x = .ref a/\IsD H1 a/\ty σ H1 λy H2=>tx σ H2 λz H3=>∃ o,DGet H3 a y o/\Q (o.getD z) H3
theorem i_dget2 (k:td σ H λx H1=>at0 ty tx σ x H1 Q):as2 td ty tx σ H Q:=k
theorem al5 {a:Addr}{kvs:List (Key×V)}(h:H a=some (.dK kvs))(k:ty σ H λy H2=>tx σ H2 λz H3=>∃ o,DGet H3 a y o/\Q (o.getD z) H3):at0 ty tx σ (.ref a) H Q:=⟨a,rfl,.inl ⟨kvs,.inl h⟩,k⟩
theorem aa4 {a:Addr}{kvs:List (Key×V)}{z:Int}{v:V}(h:Rd H a (.dK kvs))(e:Dn kvs (Sum.inl z:Key)=some v)(k:Q v H):Vd K (.ref a) (.int z) H Q:=.inr ⟨a,v,rfl,.inl ⟨kvs,Sum.inl z,h,rfl,e.symm⟩,k⟩
end
section
variable {K:W.Frag}{C:Addr}{H H':Hp}{p dx:Addr}{nv:V}{bd ad kd:Addr}{ns:List Str}{ps:List (Str×Str)}{kvs:List (Key×V)}
theorem WaysAt.keep {cd:Addr}(h:WaysAt K C H p dx nv bd ad kd ns ps kvs)(k:Keep [cd] H H')(h1:p≠cd)(h2:bd≠cd)(h3:ad≠cd)(h4:kd≠cd):WaysAt K C H' p dx nv bd ad kd ns ps kvs:=
 ⟨k.1 _ _ (by simpa using h1) h.ob,h.nm.nm_fz k.fz,k.1 _ _ (by simpa using h2) h.bt,k.1 _ _ (by simpa using h3) h.ah,k.1 _ _ (by simpa using h4) h.kn,h.nb,h.na,h.ok⟩
theorem WaysAt.dict {d:Addr}{l:List (Key×V)}(h:WaysAt K C H p dx nv bd ad kd ns ps kvs)(e:ExtBut d H H')(hd:H d=some (.dK l))(h2:bd≠d)(h3:ad≠d)(h4:kd≠d):WaysAt K C H' p dx nv bd ad kd ns ps kvs:=
 ⟨e _ _ (ne_of h.ob hd (by intro z;cases z)) h.ob,h.nm.nm_fz (e.fzD hd),e _ _ h2 h.bt,e _ _ h3 h.ah,e _ _ h4 h.kn,h.nb,h.na,h.ok⟩
end
section
variable {K:W.Frag}{σ:St}{H:Hp}{Q:VK}
theorem Yi {n:Nat}{g r:Nat->V}{a:Addr}{te:TE}{js:List Nat}(h:SqT K H a ((List.range n).map g))(hz:n<=1000000)
  (hs:∀(i:Nat) H1 (R:VK),i<n->Same H H1->(∀ H2,Same H1 H2->R (r i) H2)->te (((List.replicate 2 none++Pg σ js).set 0 (some (.int i))).set 1 (some (g i))) H1 R)
  (hd:∀ p H',H p=none->Same H H'->H' p=some (.lst ((List.range n).map r))->Q (.ref p) H') :
  a07 K [.ref a] H λJ H1=>Ly 2 js (al0 K 2 (Ke (Ht 0) (Ke (Ht 1) ao1))) aa1 te σ J H1 Q:=by
 have hl:((List.range n).map g).length=n:=by rw[A01,A1B]
 refine⟨a,_,rfl,h,λp hp=>⟨λi m H'=>m=n-i/\i<=n/\Same H H'/\H' p=some (.lst ((List.range i).map r)),⟨n,by simp,Nat.zero_le _,Same.upd hp,Ad⟩,?_⟩⟩;rintro i m H' ⟨rfl,hi,e,hp'⟩;have gg:=e.seqT h
 by_cases hlt:i<n
 . refine .inr ⟨⟨_,_,gg,by rw[A09,A59 hlt];rfl⟩,λH2=>i+1<=n/\Same H H2/\H2 p=some (.lst ((List.range (i+1)).map r)),λH2 hN=>⟨n-(i+1),by omega,rfl,hN.1,hN.2.1,hN.2.2⟩,λv H2 y=>?_⟩;obtain⟨t,x,ht,rfl,rfl,hx⟩:=y;have hxx:=hx _ gg;rw[A09,A59 hlt] at hxx
   cases hxx;refine⟨t,_,rfl,SqT.of Ad,rfl,.int i,[g i],rfl,g i,[],rfl,rfl,?_⟩;refine hs i _ _ hlt (e.trans (Same.upd ht)) λH3 e3=>?_;have h3p:H3 p=some (.lst ((List.range i).map r)):=e3 _ _ (Same.upd ht _ _ hp');refine⟨_,h3p,by rw[A01,A1B,A1G];omega,hlt,((e.trans (Same.upd ht)).trans e3).off hp ExtBut.upd,?_⟩;rw[Ad,A54,A0M];rfl
 have hin:i=n:=by omega
 subst hin;exact .inl ⟨⟨_,gg,hl⟩,hd p H' hp e hp'⟩
end
theorem aq1 {α:Type}[DecidableEq α]{b:α->α->Bool}{nm:α}{L:List α}(hn:L.Nodup)(hm:nm∈L)(t:Nat):Nf b nm t L<=cnt b L:=by rw[<- Vg b nm L.length L t hn rfl hm];exact A0O _ _
theorem Pi {prog:Program}{w:World}{κ:Type}[DecidableEq κ](knd:KeyKind prog w κ)(d:Addr) :
  MeetsIn prog w (Builtin.«dict.update» ⟨[.ref d,.ref d],[]⟩) (λ_ R s=>(∃ kvs,s.heap.DictOf knd d kvs)/\R (.ok (.ret .none)) s):=
 .of_wp λA R s hh=>by obtain⟨⟨kvs,hd⟩,h⟩:=hh;unfold Builtin.«dict.update» Builtin.Dict.selfAndRest;refine A00 (A00 (A53 hd.typeIs ?_));show wpAny _ _ (pure (d,[Value.ref d])) _ _ s;refine A06 ?_;show wpAny _ _ (Builtin.Dict.updateFrom "dict.update" d (.ref d) [] .none) _ _ s;unfold Builtin.Dict.updateFrom Builtin.Dict.merge Builtin.Dict.readDirectly;refine A00 (A3H hd.typeIs ?_);rw[A10 ∅];refine A00 (A00 (A00 (A4W hd.typeIs isSubtype_dict_dict ?_)));simp only[Bool.not_true,Bool.false_eq_true,if_false];refine A00 (wpAny_specialOf hd.typeIs F.slot_dict_iter.lookup (A06 ?_));simp only[beq_self_eq_true,if_true];refine A00 (A06 ?_);unfold Builtin.Dict.mergeDict;rw[if_pos (by simp)];refine A00 (A4I (A06 ?_));show wpAny _ _ (Builtin.Dict.addKeywords d [] >>= _) _ _ _;exact A00 (A06 (A06 ⟨.none,rfl,h⟩))
def Xm:V->List V->Hp->VK->Prop:=λx vs H Q=>∃ d kvs,x = .ref d/\vs=[.ref d]/\H d=some (.dK kvs)/\Q .non H
def Rp:V->List V->Hp->VK->Prop:=λx vs H Q=>W7 x vs H Q\/Xm x vs H Q
section
variable {X:Cx}{K:W.Frag}
theorem Yw:MtM X "dict.update" Xm:=by
 intro pins s σ H x vs v us Q I rx rv h;obtain⟨d,kvs,rfl,rfl,hD,q⟩:=h
 cases rx;obtain⟨u,rfl,ru⟩:=rv.one
 cases ru;obtain⟨z1,hd1,vs1,rel1,dd1⟩:=Ub I.hok hD;refine A3Y F.slot_dict_update dd1.typeIs F.entry_dict_update (F.args_dict_update_2 _ _) (Pi (Ay X.prog X.w) d) ⟨⟨vs1,dd1⟩,?_⟩;exact⟨.non,H,I.tok s.toks,rfl,q⟩
theorem Yh:MtM X "dict.update" Rp:=by
 intro pins s σ H x vs v us Q I rx rv h;rcases h with h|h
 . exact Zy pins s σ H x vs v us Q I rx rv h
 exact Yw pins s σ H x vs v us Q I rx rv h
end
theorem aL0 {d o:Addr}{ks ms:List Str}{H:Hp}{Q:VK}(hd:H d=some (.dK (Ii ks)))(ho:H o=some (.dK (Ii ms)))(hne:d≠o)(hz:ks.length+ms.length<=1000000)(k:∀ H',ExtBut d H H'->H' d=some (.dK (Ii (Dp ks ms)))->Q .non H'):Rp (.ref d) [.ref o] H Q:=.inl (aQ8 hd ho hne hz k)
theorem aM6 {d:Addr}{kvs:List (Key×V)}{H:Hp}{Q:VK}(hd:H d=some (.dK kvs))(k:Q .non H):Rp (.ref d) [.ref d] H Q:=.inr ⟨d,kvs,rfl,rfl,hd,k⟩
structure Sb (ns:List Str)(ps:List (Str×Str)):Prop where
 nd:ns.Nodup
 mem:∀ p∈ps,p.1∈ns/\p.2∈ns
 few:ns.length<=100
 le:ps.length<=1100
theorem HalfW.c {ns:List Str}{ps:List (Str×Str)}(h:HalfW ns ps):Sb ns ps:=⟨h.nd,h.mem,h.few,A0H h.le ∅⟩
instance {ns:List Str} {ps:List (Str×Str)}:Coe (HalfW ns ps) (Sb ns ps):=⟨HalfW.c⟩
theorem HalfW.more {ns:List Str}{ps:List (Str×Str)}(h:HalfW ns ps){x y:Str}(hx:x∈ns)(hy:y∈ns):Sb ns (ps++[(x,y)]):=by
 refine⟨h.nd,λp hp=>?_,h.few,?_⟩
 . rcases A0I.mp hp with hp|hp
   . exact h.mem p hp
   have:p=(x,y):=by simpa using hp
   rw[this];exact⟨hx,hy⟩
 have:=h.le;rw[A0C,A28];omega
section
variable {α:Type}[DecidableEq α]
def okR (b:α->α->Bool) (r:List α):Prop:=(∀ u∈r,b u u=false)/\r.Pairwise λu v=>b v u=false
theorem Tv {L:List α}(hn:L.Nodup){x:α}(hx:x∈L):(x :: Ao L x).Perm L:=by
 induction L with
 |nil=>cases hx
 |cons y ys ih=>
   obtain⟨h1,h2⟩:=A0U.mp hn
   by_cases e:y=x
   . subst e
     have:Ao (y :: ys) y=ys:=by
      have e1:Ao (y :: ys) y=Ao ys y:=by unfold Ao;rw[List.filter_cons,if_neg (by simp)]
      rw[e1,Kl h1]
     rw[this]
   have e1:Ao (y :: ys) x=y :: Ao ys x:=by unfold Ao;rw[List.filter_cons,if_pos (by simp[e])]
   rw[e1];exact(List.Perm.swap y x _).trans ((ih h2 ((A0F.mp hx).resolve_left λq=>e q.symm)).cons y)
theorem Dl (b:α->α->Bool):∀(n:Nat) (L r:List α),L.Nodup->L.length=n->(r∈ext b n L↔r.Perm L/\okR b r)
 |0,L,r,_,hl=>by
   have:=A1A.mp hl;subst this;constructor
   . intro h;have:r=[]:=by simpa[ext] using h
     subst this;exact⟨.refl _,(λ_ h=>by cases h),List.Pairwise.nil⟩
   rintro⟨h,_⟩;have:r=[]:=List.perm_nil.mp h;subst this;simp[ext]
 |n+1,L,r,hn,hl=>by
   constructor
   . intro h;obtain⟨x,hx,h⟩:=A2L.mp h;obtain⟨t,ht,rfl⟩:=A0A.mp h;have hxL:=mem_frF.mp hx;have hlen:=C4 hn hxL.1;obtain⟨h1,h2,h3⟩:=(Dl b n (Ao L x) t (B8 hn x) nofun).mp ht;refine⟨(h1.cons x).trans (Tv hn hxL.1),λu hu=>?_,A4F.mpr ⟨λv hv=>hxL.2 v (mem_lessF.mp (h1.mem_iff.mp hv)).1,h3⟩⟩;rcases A0F.mp hu with rfl|hu
     . exact hxL.2 u hxL.1
     exact h2 u hu
   rintro⟨hp,hd,hpw⟩
   cases r with
   |nil=>
     have:=hp.length_eq;rw[hl] at this
     cases this
   |cons x t=>
     have hxL:x∈L:=hp.mem_iff.mp (by simp);have hlen:=C4 hn hxL;have hpt:t.Perm (Ao L x):=List.Perm.cons_inv (hp.trans (Tv hn hxL).symm);obtain⟨q1,q2⟩:=A4F.mp hpw;refine List.mem_flatMap.mpr ⟨x,mem_frF.mpr ⟨hxL,λy hy=>?_⟩,List.mem_map.mpr ⟨t,(Dl b n (Ao L x) t (B8 hn x) nofun).mpr ⟨hpt,λu hu=>hd u (by simp[hu]),q2⟩,rfl⟩⟩
     by_cases e:y=x
     . rw[e];exact hd x (by simp)
     exact q1 y (hpt.mem_iff.mpr (mem_lessF.mpr ⟨hy,e⟩))
theorem Dr (b:α->α->Bool):∀(n:Nat) (L:List α),L.Nodup->(ext b n L).Nodup
 |0,L,_=>by simp[ext]
 |n+1,L,hn=>by
   show((frF b L).flatMap λx=>(ext b n (Ao L x)).map (x :: ·)).Nodup
   have key:∀ l:List α,l.Nodup->(l.flatMap λx=>(ext b n (Ao L x)).map (x :: ·)).Nodup:=by
    intro l
    induction l with
    |nil=>intro _;simp
    |cons y ys ih=>
      intro hl;obtain⟨h1,h2⟩:=A0U.mp hl;rw[A1W,A16];refine⟨?_,ih h2,?_⟩
      . have hi:=Dr b n (Ao L y) (B8 hn y);exact List.pairwise_map.mpr (hi.imp λhne e=>hne (List.cons.inj e).2)
      intro r hr t ht e;obtain⟨r',_,rfl⟩:=A0A.mp hr;obtain⟨z,hz,ht⟩:=A2L.mp ht;obtain⟨t',_,rfl⟩:=A0A.mp ht;have:y=z:=(List.cons.inj e).1;exact h1 (this ▸ hz)
   exact key _ (T7 hn)
theorem Yc {β:Type}[DecidableEq β]{xs ys:List β}(h1:xs.Nodup)(h2:ys.Nodup)(h:∀ z,z∈xs↔z∈ys):xs.length=ys.length:=
 Nat.le_antisymm (Cl h1 λz hz=>(h z).mp hz) (Cl h2 λz hz=>(h z).mpr hz)
end
theorem Nz:∀ {r:List Str} {x:Str},x∈r->r[r.idxOf x]? = some x/\(∀ m<r.idxOf x,r[m]? ≠ some x)/\r.idxOf x<r.length
 | [],_,h=>by cases h
 |y :: ys,x,h=>by
   rw[List.idxOf_cons]
   by_cases e:y=x
   . subst e;simp
   have hb:(y==x)=false:=by simpa using e
   obtain⟨h1,h2,h3⟩:=Nz ((A0F.mp h).resolve_left λq=>e q.symm);rw[hb];refine⟨h1,λm hm=>?_,by simpa using h3⟩
   cases m with
   |zero=>simpa using e
   |succ m=>exact h2 m (by simpa using hm)
theorem Zx {ns r:List Str}{ps:List (Str×Str)}(hn:ns.Nodup)(hm:∀ p∈ps,p.1∈ns/\p.2∈ns)(hp:r.Perm ns):okR (Ak ps) r↔∀ p∈ps,r.idxOf p.1<r.idxOf p.2:=by
 have hrn:r.Nodup:=hp.nodup_iff.mpr hn;constructor
 . rintro⟨h1,h2⟩ p hpp;obtain⟨m1,m2⟩:=hm p hpp;obtain⟨a1,_,a3⟩:=Nz (hp.mem_iff.mpr m1);obtain⟨b1,_,b3⟩:=Nz (hp.mem_iff.mpr m2);have hw:Ak ps p.1 p.2=true:=wayB_iff.mpr (.one hpp);have a4:=(A03.mp a1).2;have b4:=(A03.mp b1).2;rcases Nat.lt_trichotomy (r.idxOf p.1) (r.idxOf p.2) with h|h|h
   . exact h
   . have e:p.1=p.2:=by rw[h,b1] at a1;exact(A0Z a1).symm
     rw[e] at hw;rw[h1 p.2 (hp.mem_iff.mpr m2)] at hw
     cases hw
   have:=List.pairwise_iff_getElem.mp h2 _ _ b3 a3 h;rw[a4,b4] at this;rw[this] at hw
   cases hw
 intro h
 have hw:∀ u v,Way ps u v->r.idxOf u<r.idxOf v:=λu v g=>by
  induction g with
  |one e=>exact h _ e
  |cons e _ ih=>exact Nat.lt_trans (h _ e) ih
 refine⟨λu hu=>?_,List.pairwise_iff_getElem.mpr λi j hi hj hij=>?_⟩
 . cases c:Ak ps u u with
   |false=>rfl
   |true=>exact absurd (hw u u (wayB_iff.mp c)) (A24 _)
 cases c:Ak ps r[j] r[i] with
 |false=>rfl
 |true=>
   have g:=hw _ _ (wayB_iff.mp c)
   have ix:∀ k (hk:k<r.length),r.idxOf r[k]=k:=λk hk=>by obtain⟨f1,_,f3⟩:=Nz (A4V hk);exact(A21 hrn).mp (A03.mp f1).2
   rw[ix j hj,ix i hi] at g;omega
theorem Kv {ns:List Str}{ps:List (Str×Str)}(h:HalfW ns ps){x y:Str}(hx:x∈ns)(hy:y∈ns):cnt (Ak (ps++[(x,y)])) ns=((ext (Ak ps) ns.length ns).filter λr=>decide (r.idxOf x<r.idxOf y)).length:=by
 refine Yc (Dr _ _ _ h.nd) (A1Q A1O (Dr _ _ _ h.nd)) λr=>?_;rw[A0N,Dl _ _ _ _ h.nd rfl,Dl _ _ _ _ h.nd rfl,A3N]
 have key:∀ hp:r.Perm ns,okR (Ak (ps++[(x,y)])) r↔okR (Ak ps) r/\r.idxOf x<r.idxOf y:=λhp=>by
  rw[Zx h.nd (h.more hx hy).mem hp,Zx h.nd h.mem hp];constructor
  . intro g;exact⟨λp hpp=>g p (List.mem_append_left _ hpp),g (x,y) (by simp)⟩
  rintro⟨g1,g2⟩ p hpp;rcases A0I.mp hpp with hpp|hpp
  . exact g1 p hpp
  have:p=(x,y):=by simpa using hpp
  rw[this];exact g2
 constructor
 . rintro⟨hp,ho⟩;exact⟨⟨hp,((key hp).mp ho).1⟩,((key hp).mp ho).2⟩
 rintro⟨⟨hp,ho⟩,hi⟩;exact⟨hp,(key hp).mpr ⟨ho,hi⟩⟩
theorem aw3 {ns:List Str}{ps:List (Str×Str)}(h:HalfW ns ps){x y:Str}(hx:x∈ns)(hy:y∈ns)(hxy:x≠y):cnt (Ak (ps++[(x,y)])) ns+cnt (Ak (ps++[(y,x)])) ns=cnt (Ak ps) ns:=by
 rw[Kv h hx hy,Kv h hy hx]
 have key:∀ l:List (List Str),(∀ r∈l,r.idxOf x≠r.idxOf y)->(l.filter λr=>decide (r.idxOf x<r.idxOf y)).length+(l.filter λr=>decide (r.idxOf y<r.idxOf x)).length=l.length:=by
  intro l
  induction l with
  |nil=>intro _;rfl
  |cons r rs ih=>
    intro g;have g1:=g r (by simp);have g2:=ih λt ht=>g t (by simp[ht]);rw[A17,A17,A0E];rcases Nat.lt_or_gt_of_ne g1 with c|c
    . rw[A15 (A0S c),A10 (by rw[A0P nofun];decide),A0E];omega
    rw[A10 (by rw[A0P nofun];decide),A15 (A0S c),A0E];omega
 refine key _ λr hr e=>hxy ?_;obtain⟨hp,_⟩:=(Dl _ _ _ _ h.nd rfl).mp hr;obtain⟨a1,_,_⟩:=Nz (hp.mem_iff.mpr hx);obtain⟨b1,_,_⟩:=Nz (hp.mem_iff.mpr hy);rw[e,b1] at a1;exact(A0Z a1).symm
section
variable {prog:Program}{w:World}{A:Around}{E:Value->Shared->Prop}{I:Addr}{fp wr:List Addr}{n:Nat}{P:Nat->Value->Prop}{St:Nat->Heap->Prop}
theorem T5 (W:Walks prog w A I fp wr n P St):∀(m i:Nat) (s:Shared) (Q:List Value->Shared->Prop),i+m=n->St i s.heap ->
  (∀ h' tk vs,vs.length=m->(∀(j:Nat) v,vs[j]? = some v->P (i+j) v)->St n h'->(∀ b o,b∉wr->s.heap.get? b=some o->h'.get? b=some o)->Q vs {s with heap:=h',toks:=tk})->wpAny (model prog w) A (draw (.ref I) m) Q E s
 |0,i,s,Q,hi,st,h=>by
   show wpAny _ _ (pure []) Q E s;have e:i=n:=by omega
   subst e;exact A06 (h s.heap s.toks [] rfl (λj v hv=>by cases hv) st λ_ _ _ g=>g)
 |m+1,i,s,Q,hi,st,h=>by
   show wpAny _ _ (pyNext (.ref I) >>= _) Q E s;refine A00 (W.item i s _ _ nofun st λv h1 tk1 hv st1 k1=>?_);refine A00 (A1F (T5 W m (i+1) _ _ nofun st1 λh2 tk2 vs hl hP st2 k2=>A06 ?_));refine h h2 tk2 (v :: vs) (by rw[A0E,hl]) (λj u hu=>?_) st2 λb o hb g=>k2 b o hb (k1 b o hb g)
   cases j with
   |zero=>cases hu;exact hv
   |succ j=>have:=hP j u hu;rwa[show i+1+j=i+(j+1) by omega] at this
theorem Yr {s:Shared}{a:Addr}{items:Array Value}{targets:List (Bool×(Value->Sem Unit))}{Q:Unit->Shared->Prop}(hh:A.handled=none)(hl:s.heap.IsList a items)
  (hn:targets.length=items.size) (hstar:targets.findIdx? (·.1)=none)
  (h:∀ h' tk,(∀ b o,s.heap.get? b=some o->h'.get? b=some o)->wpAny (model prog w) A (assignInOrder (targets.map (·.2)) items.toList) Q E {s with heap:=h',toks:=tk}) :
  wpAny (model prog w) A (unpack (.ref a) targets) Q E s:=by
 have hlt:a<s.heap.objs.size:=let ⟨_,e,_⟩:=hl;A08 e;unfold unpack;rw[hn,hstar];refine A00 (A1F ?_);unfold unpackItems notIterableAtAll;refine A00 (A00 (wpAny_specialOf hl.typeIs F.slot_list_iter.lookup (A06 ?_)));simp only[Option.isNone_some,Bool.false_eq_true,if_false];refine A00 (A1F (A2V hl ?_));have W:=Walks.list (prog:=prog) (w:=w) (A:=A) hh s.heap.objs.size a (A0J hlt) items;refine A00 (A1F (T5 W items.size 0 _ _ nofun ⟨⟨_,A0B _ rfl,rfl,rfl⟩,hl.push _⟩ λh1 tk1 vs hv hP st1 k1=>?_))
 have hvs:vs=items.toList:=by
  apply List.ext_getElem?;intro j
  by_cases c:j<vs.length
  . obtain⟨v,e⟩:∃ v,vs[j]? = some v:=⟨_,A04 c⟩;have:=hP j v e;rw[Nat.zero_add] at this;rw[e,A3W,this]
  rw[A51 nofun,A51 (by rw[A48];omega)]
 subst hvs;rw[if_neg (by simp)];refine A00 (A1F (W.done _ _ _ st1 λh2 tk2 k2=>?_));simp only[Option.isSome_none,Bool.false_eq_true,if_false];refine A06 (h h2 tk2 λb o e=>?_)
 have hb:b∉[s.heap.objs.size]:=λz=>by
  have:b=s.heap.objs.size:=by simpa using z
  subst this;exact absurd (A08 e) (A24 _)
 exact k2 b o hb (k1 b o hb (A02 _ e))
end
def aS2 (K:W.Frag)(n:Nat)(t:TGs):TG:=λv σ H Q=>∃ a xs,v = .ref a/\SqL K H a xs/\xs.length=n/\t xs σ H Q
theorem ay6 {X:Cx}{K:W.Frag}{es:List Expr}{k:Nat}{t:TGs}{n:Nat}{pos:Pos}(hc:X.calm=true)(h:PGs X es t)(hK:X.K=K:=by ac_nf)
  (hn:(assignEach es X.env).length=n:=by ac_nf) (hst:(assignEach es X.env).findIdx? (·.1)=none:=by ac_nf):PG X (.Tuple es k pos) (aS2 K n t):=by
 subst hK;intro pins s σ H v u Q I r hw;obtain⟨a,xs,rfl,hq,hl,hw⟩:=hw
 cases r;obtain⟨its,rv,pl,_⟩:=I.list hq;rw[PyProof.Rows.assign_Tuple];refine wpAny_bind (wpAny_standAt (Yr (I.ok.hd hc) pl.isList (by simp[hn,<- hl,rv.length]) hst λh' tk hx=>?_));exact h pins _ σ H xs _ Q (I.kept (t':=tk) hx) (by simpa using rv) hw
theorem aL7 {K:W.Frag}{n:Nat}{t:TGs}{σ:St}{H:Hp}{R:St->Hp->Prop}{a:Addr}{xs:List V}(h:SqL K H a xs)(hn:xs.length=n)(k:t xs σ H R):aS2 K n t (.ref a) σ H R:=⟨a,xs,rfl,h,hn,k⟩
section
variable {α:Type}[DecidableEq α]
theorem T9 {b c:α->α->Bool}{L:List α}(h:∀ x∈L,∀ y∈L,b x y=c x y):frF b L=frF c L:=by
 unfold frF;apply A1C;intro x hx
 have:(L.any λy=>b y x)=L.any λy=>c y x:=by
  rw[A2S,A19,A19];constructor
  . rintro⟨y,hy,e⟩;exact⟨y,hy,by rw[<- h y hy x hx];exact e⟩
  rintro ⟨y,hy,e⟩;exact⟨y,hy,by rw[h y hy x hx];exact e⟩
 rw[this]
theorem Fl {b c:α->α->Bool}:∀(n:Nat) {L:List α},L.length=n->L.Nodup->(∀ x∈L,∀ y∈L,b x y=c x y)->cnt b L=cnt c L
 |0,L,hl,_,_=>by have:=A1A.mp hl;subst this;rfl
 |n+1,L,hl,hn,h=>by
   have hne:L≠[]:=by intro e;rw[e] at hl;cases hl
   rw[Iv hn hne,Iv hn hne,T9 h];apply Ig;intro x hx;have:=C4 hn (mem_frF.mp hx).1;exact Fl n nofun (B8 hn x) λu hu v hv=>h u (mem_lessF.mp hu).1 v (mem_lessF.mp hv).1
theorem Iq (A B:List α)(x:α):Ao (A++B) x=Ao A x++Ao B x:=by unfold Ao;rw[List.filter_append]
theorem Ou {l:List α}{p:α->Bool}(h:∀ x∈l,p x=false):l.any p=false:=by
 rw[Bool.eq_false_iff];intro e;obtain ⟨x,hx,hp⟩:=A19.mp e;rw[h x hx] at hp
 cases hp
theorem Tn {b:α->α->Bool}:∀(n:Nat) {A B:List α},A.length=n->(A++B).Nodup->(∀ x∈A,∀ y∈B,b x y=true/\b y x=false)->cnt b (A++B)=cnt b A*cnt b B
 |0,A,B,hl,_,_=>by have:=A1A.mp hl;subst this;rw[A49,Rs,A3V]
 |n+1,A,B,hl,hn,h=>by
   obtain⟨hA,hB,hAB⟩:=A16.mp hn;have hne:A≠[]:=by intro e;rw[e] at hl;cases hl
   have hne2:A++B≠[]:=by simp[hne]
   have hfr:frF b (A++B)=frF b A:=by
    unfold frF;rw[A1N]
    have e1:(A.filter λx=>!((A++B).any λy=>b y x))=A.filter λx=>!(A.any λy=>b y x):=by apply A1C;intro x hx;rw[List.any_append,Ou (l:=B) λy hy=>(h x hx y hy).2,Bool.or_false]
    have e2:(B.filter λx=>!((A++B).any λy=>b y x))=[]:=by
     rw [A2G];intro y hy
     cases A with
     |nil=>exact absurd rfl hne
     |cons a A=>have:((a :: A++B).any λz=>b z y)=true:=List.any_eq_true.mpr ⟨a,by simp,(h a (by simp) y hy).1⟩;rw[this];decide
    rw[e1,e2,A1Z]
   rw[Iv hn hne2,hfr,Iv hA hne,<- Me];apply Ig;intro x hx;have hxA:=(mem_frF.mp hx).1;have hxB:x∉B:=λhb=>hAB x hxA x hb rfl;have hlen:=C4 hA hxA;rw[Iq,Kl hxB];refine Tn n nofun ?_ λu hu v hv=>h u (mem_lessF.mp hu).1 v hv;rw[A16];exact⟨B8 hA x,hB,λu hu v hv=>hAB u (mem_lessF.mp hu).1 v hv⟩
def Kx:Nat->Nat->Nat
 |0,_=>1
 |_+1,0=>1
 |m+1,n+1=>Kx m (n+1)+Kx (m+1) n
theorem Y5 (n:Nat):Kx 0 n=1:=by rw[Kx]
theorem Sw (m:Nat):Kx m 0=1:=by cases m<;>rw[Kx]
theorem af5 (m n:Nat):Kx (m+1) (n+1)=Kx m (n+1)+Kx (m+1) n:=by rw[Kx]
theorem Ro:∀ k m n:Nat,m+n=k->Kx m n*(fac m*fac n)=fac (m+n)
 |0,m,n,h=>by
   have h1:m=0:=by omega
   have h2:n=0:=by omega
   subst h1;subst h2;rw[Y5];rfl
 |k+1,0,n,h=>by rw[Y5];show 1*(1*fac n)=fac (0+n);rw[A3V,A3V,Nat.zero_add]
 |k+1,m+1,0,h=>by rw[Sw];show 1*(fac (m+1)*1)=fac (m+1);rw[A3V,Nat.mul_one]
 |k+1,m+1,n+1,h=>by
   have i1:=Ro k m (n+1) nofun;have i2:=Ro k (m+1) n nofun;rw[af5,show fac (m+1+(n+1))=fac (m+n+1)*(m+1+n+1) by rw[show m+1+(n+1)=(m+n+1)+1 by omega];show fac (m+n+1)*(m+n+1+1)=_;congr 1;omega];show(Kx m (n+1)+Kx (m+1) n)*(fac m*(m+1)*(fac n*(n+1)))=fac (m+n+1)*(m+1+n+1);have e1:fac (m+(n+1))=fac (m+n+1):=by congr 1
   have e2:fac (m+1+n)=fac (m+n+1):=by congr 1;omega
   have j1:Kx m (n+1)*(fac m*(m+1)*(fac n*(n+1)))=fac (m+n+1)*(m+1):=by rw[<- e1,<- i1];show _=Kx m (n+1)*(fac m*(fac n*(n+1)))*(m+1);simp only[Nat.mul_comm,Nat.mul_assoc,Nat.mul_left_comm]
   have j2:Kx (m+1) n*(fac m*(m+1)*(fac n*(n+1)))=fac (m+n+1)*(n+1):=by rw[<- e2,<- i2];show _=Kx (m+1) n*(fac m*(m+1)*fac n)*(n+1);simp only[Nat.mul_comm,Nat.mul_assoc,Nat.mul_left_comm]
   rw[A4B,j1,j2,<- Nat.mul_add];congr 1
theorem Ji {b:α->α->Bool}:∀(k:Nat) {A B:List α},A.length+B.length=k->(A++B).Nodup->(∀ x∈A,∀ y∈B,b x y=false/\b y x=false)->cnt b (A++B)=Kx A.length B.length*(cnt b A*cnt b B)
 |0,A,B,hl,_,_=>by have h1:=A1A.mp (show A.length=0 by omega);have h2:=A1A.mp (show B.length=0 by omega);subst h1;subst h2;show 1=Kx 0 0*(1*1);rw[Y5]
 |k+1,A,B,hl,hn,h=>by
   obtain⟨hA,hB,hAB⟩:=A16.mp hn
   by_cases cA:A=[]
   . subst cA;rw[A49,Rs,A3V];rw[A4A,Y5,A3V]
   by_cases cB:B=[]
   . subst cB;rw[A1Z,Rs,Nat.mul_one,A4A,Sw,A3V]
   have hfr:frF b (A++B)=frF b A++frF b B:=by
    unfold frF;rw[A1N];congr 1
    . apply A1C;intro x hx;rw[List.any_append,Ou (l:=B) λy hy=>(h x hx y hy).2,Bool.or_false]
    apply A1C;intro y hy;rw[List.any_append,Ou (l:=A) λx hx=>(h x hx y hy).1,A5G]
   obtain⟨m,hm⟩:∃ m,A.length=m+1:=⟨A.length-1,by have:=List.length_pos_iff.mpr cA;omega⟩;obtain⟨n,hn'⟩:∃ n,B.length=n+1:=⟨B.length-1,by have:=List.length_pos_iff.mpr cB;omega⟩;rw[Iv hn (by simp[cA]),hfr,List.map_append,List.sum_append]
   have s1:((frF b A).map λx=>cnt b (Ao (A++B) x)).sum=Kx m (n+1)*(cnt b A*cnt b B):=by
    have e:((frF b A).map λx=>cnt b (Ao (A++B) x)).sum=((frF b A).map λx=>cnt b (Ao A x)*(Kx m (n+1)*cnt b B)).sum:=by
     apply Ig;intro x hx;have hxA:=(mem_frF.mp hx).1;have hxB:x∉B:=λhb=>hAB x hxA x hb rfl;have hlen:=C4 hA hxA;rw[Iq,Kl hxB,Ji k nofun ?_ λu hu v hv=>h u (mem_lessF.mp hu).1 v hv,show(Ao A x).length=m by omega,hn']
     . simp only[Nat.mul_comm,Nat.mul_assoc,Nat.mul_left_comm]
     rw[A16];exact⟨B8 hA x,hB,λu hu v hv=>hAB u (mem_lessF.mp hu).1 v hv⟩
    rw[e,Me,<- Iv hA cA];simp only[Nat.mul_comm,Nat.mul_assoc,Nat.mul_left_comm]
   have s2:((frF b B).map λx=>cnt b (Ao (A++B) x)).sum=Kx (m+1) n*(cnt b A*cnt b B):=by
    have e:((frF b B).map λx=>cnt b (Ao (A++B) x)).sum=((frF b B).map λx=>cnt b (Ao B x)*(Kx (m+1) n*cnt b A)).sum:=by
     apply Ig;intro y hy;have hyB:=(mem_frF.mp hy).1;have hyA:y∉A:=λha=>hAB y ha y hyB rfl;have hlen:=C4 hB hyB;rw[Iq,Kl hyA,Ji k nofun ?_ λu hu v hv=>h u hu v (mem_lessF.mp hv).1,show(Ao B y).length=n by omega,hm]
     . simp only[Nat.mul_comm,Nat.mul_assoc,Nat.mul_left_comm]
     rw[A16];exact⟨hA,B8 hB y,λu hu v hv=>hAB u hu v (mem_lessF.mp hv).1⟩
    rw[e,Me,<- Iv hB cB];simp only[Nat.mul_comm,Nat.mul_assoc,Nat.mul_left_comm]
   rw[s1,s2,hm,hn',<- A4B,af5]
end
theorem Ze (b:Str->Str->Bool){ns:List Str}(hn:ns.Nodup){nm:Str}(hm:nm∈ns)(t:Nat):(((ext b ns.length ns).map λr=>r.idxOf nm).countP λm=>decide (m=t))=Nf b nm t ns:=by rw[<- Vg b nm ns.length ns t hn rfl hm,List.countP_map,List.countP_eq_length_filter];rfl
theorem ah7 {b:Str->Str->Bool}{ns:List Str}(hn:ns.Nodup){nm:Str}(hm:nm∈ns){r:List Str}(hr:r∈ext b ns.length ns):r.idxOf nm<ns.length:=by obtain⟨hp,_⟩:=(Dl b _ _ _ hn rfl).mp hr;have:=(Nz (hp.mem_iff.mpr hm)).2.2;rwa[hp.length_eq] at this
def hgt (b:Str->Str->Bool)(nm:Str)(ns:List Str):Nat:=((List.range ns.length).map λt=>t*Nf b nm t ns).sum
theorem Y7 {b:Str->Str->Bool}{ns:List Str}(hn:ns.Nodup){nm:Str}(hm:nm∈ns):hgt b nm ns=((ext b ns.length ns).map λr=>r.idxOf nm).sum:=by
 have hst:∀ m∈(ext b ns.length ns).map (λr=>r.idxOf nm),m<ns.length:=λm hm'=>by obtain⟨r,hr,rfl⟩:=A0A.mp hm';exact ah7 hn hm hr
 unfold hgt;rw[<- Qk ns.length _ hst];congr 1;apply A1I;intro t _;rw[<- Ze b hn hm,List.countP_eq_length_filter]
theorem al9 {l m:List Nat}(h:l.Perm m):l.sum=m.sum:=by
 induction h with
 |nil=>rfl
 |cons x _ ih=>rw[A1L,A1L,ih]
 |swap x y l=>rw[A1L,A1L,A1L,A1L];omega
 |trans _ _ h1 h2=>rw[h1,h2]
section
variable {prog:Program}{w:World}{A:Around}{E:Value->Shared->Prop}{s:Shared}
end
section
variable {κ:Type}[DecidableEq κ]
end
theorem af0 {α:Type}[DecidableEq α]{b:α->α->Bool}(irr:∀ x,b x x=false)(tr:∀ x y z,b x y=true->b y z=true->b x z=true):∀(n:Nat) (L:List α),L.length=n->L.Nodup->0<cnt b L
 |0,L,hl,_=>by have:=A1A.mp hl;subst this;exact Nat.zero_lt_one
 |n+1,L,hl,hn=>by
   have hne:L≠[]:=by intro e;rw[e] at hl;cases hl
   rw[Iv hn hne]
   cases hf:frF b L with
   |nil=>exact absurd hf (aF9 irr tr hne)
   |cons x t=>
     have hx:x∈frF b L:=by rw[hf];simp
     have:=C4 hn (mem_frF.mp hx).1;have:=af0 irr tr n (Ao L x) nofun (B8 hn x);rw[A0R,A1L];omega
section
variable {α:Type}[DecidableEq α]
end
section
variable {X:Cx}
end
theorem Way.sub {ps qs:List (Str×Str)}(h:∀ p∈qs,Way ps p.1 p.2){a b:Str}(g:Way qs a b):Way ps a b:=by
 induction g with
 |one e=>exact h _ e
 |cons e _ ih=>exact(h _ e).trans ih
theorem am8 {ps qs:List (Str×Str)}(h:∀ a b,Way qs a b↔Way ps a b)(rs:List (Str×Str))(a b:Str):Way (qs++rs) a b↔Way (ps++rs) a b:=by
 constructor
 . refine Way.sub λp hp=>?_;rcases A0I.mp hp with hp|hp
   . exact((h _ _).mp (.one hp)).mono λq hq=>A0G _ hq
   exact .one (A0Q _ hp)
 refine Way.sub λp hp=>?_;rcases A0I.mp hp with hp|hp
 . exact((h _ _).mpr (.one hp)).mono λq hq=>A0G _ hq
 exact .one (A0Q _ hp)
theorem Ud {ps qs:List (Str×Str)}(h:∀ a b,Way qs a b↔Way ps a b)(rs:List (Str×Str)):Ak (qs++rs)=Ak (ps++rs):=by funext a b;exact Ng (by rw[wayB_iff];exact am8 h rs a b)
theorem aB3 {ps:List (Str×Str)}{x y a b:Str}(g:Way (ps++[(x,y)]) a b):Way ps a b\/((a=x\/Way ps a x)/\(y=b\/Way ps y b)):=by
 induction g with
 |one e=>
   rcases A0I.mp e with e|e
   . exact .inl (.one e)
   have e:=A1Y.mp e
   cases e;exact .inr ⟨.inl rfl,.inl rfl⟩
 |cons e _ ih=>
   rcases A0I.mp e with e'|e'
   . rcases ih with ih|⟨h1,h2⟩
     . exact .inl (.cons e' ih)
     refine .inr ⟨.inr ?_,h2⟩;rcases h1 with h1|h1
     . exact .one (h1 ▸ e')
     exact .cons e' h1
   have e2:=A1Y.mp e'
   cases e2;rcases ih with ih|⟨_,h2⟩
   . exact .inr ⟨.inl rfl,.inr ih⟩
   exact .inr ⟨.inl rfl,h2⟩
theorem HalfW.said {ns:List Str}{ps:List (Str×Str)}(h:HalfW ns ps){x y:Str}(hx:x∈ns)(hy:y∈ns)(hne:x≠y)(hno:¬ Way ps y x)(hl:ps.length+1<=1000):HalfW ns (ps++[(x,y)]):=by
 refine⟨h.nd,(h.more hx hy).mem,λz g=>?_,h.few,by rw[A0C,A28];exact hl⟩;rcases aB3 g with g|⟨g1,g2⟩
 . exact h.irr z g
 rcases g1 with rfl|g1
 . rcases g2 with g2|g2
   . exact hne g2.symm
   exact hno g2
 rcases g2 with rfl|g2
 . exact hno g1
 exact hno (g2.trans g1)
def ItE (K:W.Frag)(a:Addr):It:=
 ⟨λi H=>∃ xs x,SqL K H a xs/\xs[i]? = some x,λi H v H'=>∃ t x,H t=none/\H'=upd H t (.tup [.int i,x])/\v = .ref t/\∀ xs,SqL K H a xs->xs[i]? = some x,λi H=>∃ xs,SqL K H a xs/\xs.length=i⟩
theorem Yl {P:Program}{w:World}{K:W.Frag}{elts:List Expr}{ek:Nat}{epos:Pos}(a it e:Addr)(hei:e≠it)(hai:a≠it)(hae:a≠e):ag2 P w K (.Tuple elts ek epos) (ItE K a) [e,it] e (λi h=>(∃ old,IsEnum h e it i old)/\h.IsListIter it a i) where
 mem:=by simp
 obj:=λi h st b hb=>by
  obtain⟨⟨old,h1⟩,o,h2,h3,h4⟩:=st;rcases A0F.mp hb with rfl|hb
  . exact⟨_,h1,λv z=>by cases z⟩
  have q:b=it:=by simpa using hb
  subst q;exact⟨o,h2,λv z=>by rw[h4] at z;cases z⟩
 keep:=λi h h' st k=>by obtain⟨⟨old,h1⟩,h2⟩:=st;exact⟨⟨old,k e (by simp) _ h1⟩,h2.at λo q=>k it (by simp) o q⟩
 item:=by
  intro X hP hw hK hc i pins s σ H E I hf st hg;subst hP hw hK;obtain⟨xs,x,hq,hx⟩:=hg;obtain⟨its,rv,p,hz⟩:=I.list hq
  have hil:i<its.length:=by have:=(A03.mp hx).1;rw[<- rv.length];exact this
  have D:=Draws.list (prog:=X.prog) (w:=X.w) (A:=X.A.in1) (by simpa using I.ok.hd hc) it a hai its.toArray;obtain⟨⟨old,he⟩,hit⟩:=st;have hel:e<s.heap.objs.size:=A08 he;have hil':it<s.heap.objs.size:=let ⟨_,q,_⟩:=hit;A08 q;refine wpAny_pyNext_enum_itemD D he ⟨hit,(PlainL.isList p)⟩ (by simpa using hil) hei (by simp[hei,Ne.symm hae]) λv h1 tk hv ho hst hT hsz hk=>?_;obtain⟨u,hu,ru⟩:=rv.get hx
  have hvu:v=u:=by have hv':its.toArray[i]? = some v:=hv;rw[A3Z,hu] at hv';exact(A0Z hv').symm
  subst hvu;refine⟨_,rfl,wpAny_letOwnedTupleGo_enum ho λh2 he2 hs2=>?_⟩;have hTn:H s.heap.objs.size=none:=I.hok.fresh (A0D _);have hT2:h2.get? s.heap.objs.size=some {cls:=.type "tuple",data:=.seq #[.int i tk,v]}:=(hs2.2 _ (A26 hel)).trans hT
  have I1:Inv X pins σ (upd H s.heap.objs.size (.tup [.int i,x])) {s with heap:=s.heap.push {cls:=.type "tuple",data:=.seq #[.int i tk,v]}}:=
   I.laid (t':=s.toks) (λb ob q=>Heap.get?_push_of_some _ q) (Nat.le_refl _) ⟨by simp[sizeLine_eq],[.int i tk,v],.cons ⟨tk,rfl⟩ (.cons ru .nil),_,Heap.get?_push_size _ rfl,rfl,⟨_,rfl⟩,rfl⟩
  have nT:∀ b∈[e,it],b≠s.heap.objs.size:=λb hb=>by
   rcases A0F.mp hb with rfl|hb
   . exact A0J hel
   have q:b=it:=by simpa using hb
   subst q;exact A0J hil'
  have I2:Inv X pins σ (upd H s.heap.objs.size (.tup [.int i,x])) {s with heap:=h2,toks:=tk+1}:=Inv.turnedL (s:={s with heap:=s.heap.push {cls:=.type "tuple",data:=.seq #[.int i tk,v]}}) (ch:=[e,it]) I1 (λb ob hb q=>?_) (λb hb=>?_)
  . refine⟨.ref s.heap.objs.size,_,I2,rfl,⟨_,x,hTn,rfl,rfl,λys hy=>by rw[I.list_inj hy hq];exact hx⟩,⟨⟨_,by simpa using he2⟩,hst.1.at λo q=>(hs2.2 it (Ne.symm hei)).trans q⟩,λb hb=>?_⟩;rw[Az (nT b hb)];exact(hf b hb).1
  . have hbe:b≠e:=λz=>hb (by simp[z]);have hbi:b≠it:=λz=>hb (by simp[z]);rcases Heap.get?_push_cases q with ⟨rfl,rfl⟩|q
    . exact hT2
    exact(hs2.2 b hbe).trans (hk b ob hbe hbi q)
  obtain⟨f0,f1,f2,f3,f4,f5⟩:=hf b hb;exact⟨by rw[Az (nT b hb)];exact f0,f1,f2,f3,f4,f5⟩
 done:=by
  intro X hP hw hK hc i pins s σ H E I hf st hg;subst hP hw hK;obtain⟨xs,hq,hx⟩:=hg;obtain⟨its,rv,p,hz⟩:=I.list hq;obtain⟨⟨old,he⟩,hit⟩:=st;have hlen:its.toArray.size=i:=by rw[A0W,<- rv.length];exact hx
  have D:=Draws.list (prog:=X.prog) (w:=X.w) (A:=X.A.in1) (by simpa using I.ok.hd hc) it a hai its.toArray;rw[hlen] at D;refine wpAny_pyNext_enum_endD D he ⟨hit,(PlainL.isList p)⟩ λh' hk=>⟨rfl,I.turnedL (t':=s.toks) (ch:=[e,it]) (λb o hb q=>hk b o (λz=>hb (by simp[z])) q) hf⟩
 self:=by intro A i s Q E st hQ;obtain⟨⟨old,he⟩,_⟩:=st;exact A4O he hQ
section
variable {X:Cx}{K:W.Frag}
def Zz (K:W.Frag)(vs:List V)(H:Hp)(R:It->Hp->Prop):Prop:=∃ a xs,vs=[.ref a]/\SqL K H a xs/\R (ItE K a) H
def ar1 (K:W.Frag)(ta:TA):TI:=fun σ H R=>ta σ H λvs H1=>Zz K vs H1 R
theorem ak6 {e:Expr}{ta:TA}{p pos:Pos}{elts:List Expr}{ek:Nat}{epos:Pos}(hg:Gl X "enumerate")(hm:X.mg "enumerate" = none)(ha:PA X [e] ta)(hK:X.K=K:=by ac_nf)(hs:starEach [e] X.env=[(false,eval e X.env)]:=by ac_nf) :
  PI X (.Tuple elts ek epos) (.Call (.Name "enumerate" p) [e] [] pos) (ar1 K ta):=by
 subst hK;intro pins s σ H R I h;refine Call_ (Ip I hg hm Js (A1M (thn (ha pos pins s σ H _ I h) λus s1 ⟨vs,H1,I1,r1,q1⟩=>?_) hs rfl));obtain⟨a,xs,rfl,hq,q⟩:=q1;obtain⟨u,rfl,ru⟩:=Vals.one r1
 cases ru;obtain⟨its,rv,ht,hz⟩:=I1.list hq;have hal:a<s1.heap.objs.size:=let ⟨_,q,_⟩:=(PlainL.isList ht);A08 q;refine call_enumerate_list (PlainL.isList ht) λh' he hit _ hk=>?_;refine A4O he ?_;refine⟨s1.heap.objs.size+1,[s1.heap.objs.size+1,s1.heap.objs.size],_,_,H1,rfl,I1.kept (t':=s1.toks) hk,Yl a s1.heap.objs.size (s1.heap.objs.size+1) (Nat.succ_ne_self _) (A0J hal) (A0J (A3C hal)),⟨⟨_,he⟩,hit⟩,λb hb=>?_,q⟩;rcases A0F.mp hb with rfl|hb
 . exact I1.fpOk (A38 _) (I1.hok.fresh (A38 _))
 have e:b=s1.heap.objs.size:=by simpa using hb
 subst e;exact I1.fpOk (A0D _) (I1.hok.fresh (A0D _))
end
section
variable {K:W.Frag}{σ:St}{H:Hp}
theorem i_ienumL {ts:TA}{R:It->Hp->Prop}(k:ts σ H λvs H1=>Zz K vs H1 R):ar1 K ts σ H R:=k
theorem af2 {xs:List V}{a:Addr}{n m:Nat}{tb:TS}{D:Ends}(h:SqL K H a xs)(Pv:Nat->St->Hp->Prop)(h0:Pv 0 σ H)(hG:∀ i σ' H',Pv i σ' H'->SqL K H' a xs)
  (hs:∀ i x σ' H' H2,xs[i]? = some x->Pv i σ' H'->Same H' H2->tb {D with nx:=Pv (i+1),ct:=Pv (i+1),bk:=D.nx} ((σ'.set n (some (.int i))).set m (some x)) H2) (hd:∀ σ' H',Pv xs.length σ' H'->D.nx σ' H') :
  Zz K [.ref a] H λJ H1=>ar8 (al0 K 2 (Ke (Ht n) (Ke (Ht m) ao1))) tb D σ J H1:=by
 refine⟨a,xs,rfl,h,λi k σ' H'=>k=xs.length-i/\i<=xs.length/\Pv i σ' H',⟨xs.length,by simp,Nat.zero_le _,h0⟩,?_⟩;rintro i k σ' H' ⟨rfl,hi,p⟩;have g:=hG i σ' H' p
 by_cases hlt:i<xs.length
 . refine .inr ⟨⟨xs,xs[i],g,A04 hlt⟩,Pv (i+1),fun σ2 H2 p2=>⟨xs.length-(i+1),by omega,rfl,hlt,p2⟩,λv H2 y=>?_⟩;obtain⟨t,x,ht,rfl,rfl,hx⟩:=y;exact⟨t,_,rfl,SqT.of Ad,rfl,.int i,[x],rfl,x,[],rfl,rfl,hs i x σ' H' _ (hx xs g) p (Same.upd ht)⟩
 have e:i=xs.length:=by omega
 subst e;exact .inl ⟨⟨xs,g,rfl⟩,hd σ' H' p⟩
end
end L2
namespace L2
open PySem PySem.Spec PyProof.Rows
open PySem PySem.W PyProof.Rows
section
variable {n:Nat}{r:Nat->Nat}
end
section
variable {prog:Program}{w:World}{A:Around}{E:Value->Shared->Prop}{z:Shared}
end
section
variable {X:Cx}{K:W.Frag}
end
end L2
namespace L2
open PySem PySem.Spec PyProof.Rows
theorem HalfW.h {ns:List Str}{ps:List (Str×Str)}(h:HalfW ns ps)(hN:Names ns)(hf:ns.length<=10)(hl:ps.length<=60):Half ns ps:=by
 have hp:=af0 (b:=Ak ps) (ai2 h) az7 ns.length ns rfl h.nd;obtain⟨r,hr⟩:=List.exists_mem_of_length_pos (l:=ext (Ak ps) ns.length ns) hp;obtain⟨h1,h2⟩:=(Dl _ _ _ _ h.nd rfl).mp hr;refine⟨hN,hf,hl,r,h1,λp hpp=>?_⟩;have h3:=(Zx h.nd h.mem h1).mp h2 p hpp;obtain⟨m1,m2⟩:=h.mem p hpp;have g1:=A4P.mpr (h1.mem_iff.mpr m1);have g2:=A4P.mpr (h1.mem_iff.mpr m2);refine⟨_,_,h3,?_,?_⟩
 . rw[A04 g1,A5J]
 rw[A04 g2,A5J]
theorem Half.cl_few {ns:List Str}{ps:List (Str×Str)}(h:Half ns ps):(clP ns ps).length+(unP ns ps).length<=45:=by
 have h1:=Ow (ns:=ns) (ps:=ps) λx=>h.irrefl;have h2:=h.few
 have h3:(ns.length:Int)*((ns.length:Int)-1)<=10*9:=by
  have a:(ns.length:Int)<=10:=by omega
  rcases Nat.eq_zero_or_pos ns.length with e|e
  . rw[e];decide
  exact Int.mul_le_mul a nofun nofun nofun
 omega
theorem aL3 {ns:List Str}{ps:List (Str×Str)}(hn:ns.Nodup){p:Str×Str}(h:p∈unP ns ps):p.1≠p.2:=by
 unfold unP unK at h;rw[A2L] at h;obtain⟨i,hi,h⟩:=h;have hi':=A1U.mp hi;unfold unR at h;obtain⟨y,hy,rfl⟩:=A0A.mp h;have hy1:=(A0N.mp hy).1;intro (e:ns.getD i "" = y);have e1:ns.getD i "" = ns[i]:=by simp[hi']
 have h3:(ns.drop i).Nodup:=hn.sublist (List.drop_sublist _ _);rw [List.drop_eq_getElem_cons hi'] at h3;exact(A0U.mp h3).1 (by rw[<- e1,e];exact hy1)
theorem Way.swap {ps:List (Str×Str)}{x y:Str}(g:Way (ps.map λp=>(p.2,p.1)) x y):Way ps y x:=by
 induction g with
 |one h=>
   obtain⟨p,hp,e⟩:=A0A.mp h
   cases e;exact .one hp
 |cons h _ ih=>
   obtain⟨p,hp,e⟩:=A0A.mp h
   cases e;exact ih.snoc hp
theorem Half.back {ns:List Str}{ps:List (Str×Str)}(h:Half ns ps):Half ns (ps.map λp=>(p.2,p.1)):=by refine HalfW.h ⟨h.names.1,λp hp=>?_,λx g=>h.irrefl g.swap,A0H h.few ∅,by rw[A01];exact A0H h.le ∅⟩ h.names h.few (by rw[A01];exact h.le);obtain⟨q,hq,rfl⟩:=A0A.mp hp;exact⟨(h.mem hq).2,(h.mem hq).1⟩
section
variable {κ:Type}[DecidableEq κ]{P:Program}{w:World}{kd:KeyKind P w κ}{A:Around}{E:Value->Shared->Prop}{z:Shared}
theorem ae5 {e:Addr}{al:List (κ×Value)}{G:Bool->Shared->Prop}(nd:(e==sysModules)=false)(od:z.heap.DictOf kd e al)(go:G false z) :
  wpAny (model P w) A (Builtin.List.listLengthHint (.ref e)) G E z:=by
 unfold Builtin.List.listLengthHint;refine(A00 (wpAny_specialOf od.typeIs (F.slot_dict_len).lookup ?_));generalize gid:("dict.__len__":String)=which
 wp_delta
 rw[show splitId which=some ("dict","__len__") from(by subst gid;decide +kernel)];subst gid;refine(A00 (A4W (T:="dict") (b:=true) od.typeIs (by rw[isSubtype_type];kernel_rfl) ?_));refine(wpAny_ite_split (λno=>absurd no ∅) (λ_=>?_));refine(wpAny_ite_split (λ_=>?_) (λno=>absurd (by decide +kernel) no));refine(A00 (A3H (T:="dict") od.typeIs ?_));exact A06 go
theorem We {R:Result->Shared->Prop}{e:Addr}{al:List (κ×Value)}{ep:Nat}(calm:A.handled=none)(nd:(e==sysModules)=false)(od:z.heap.DictAt kd e al ep)(few:al.length<=2 ^ 24)
  (L:Addr) (res:Value) (c0:Nat) (hL:z.heap.get? L=some {cls:=.type "list",data:=.seq #[] c0})
  (go:∀ g tk out c,(∀ b o,b≠L->z.heap.get? b=some o->g.get? b=some o)->g.get? L=some {cls:=.type "list",dict:=none,data:=.seq out c,slots:=#[]} ->
   ItemsOf (λi v=>∃ k x,al[i]? = some (k,x)/\kd.is k v=true) out al.length->R (.ok (.ret res)) {z with heap:=g,toks:=tk}) :
  wpAny (model P w) A.in1 (Builtin.List.listExtendWith (.ref L) (.ref e) res)
   (λfin s'=>match fin with | .done f=>R (.ok f) s' | .again c'=>c'.quiet=true/\codeAny (model P w) A c' R s') (λe s'=>R (.error e) s') z:=by
 have tyd:z.TypeIs (.ref e) "dict":=od.dictOf.typeIs
 have apart:L≠e:=λq=>by
  obtain⟨o,h1,h2⟩:=tyd;rw[<- q,hL] at h1
  cases h1;simp at h2
 have low:L<z.heap.objs.size:=A08 hL;have lowE:e<z.heap.objs.size:=od.lt_size;have off:L≠z.heap.objs.size:=A0J low;have W:=(Walks.dictKeys (knd:=kd) (prog:=P) (w:=w) (A:=A.in1) calm z.heap.objs.size e (A0J lowE) al ep).toS
 have notin:L∉[z.heap.objs.size,e]:=λq=>by
  simp only[List.mem_cons,List.not_mem_nil,or_false] at q;rcases q with q|q
  . exact off q
  exact apart q
 have run:∀(g:Heap) (c1 tk:Nat),g.IsKeyIter z.heap.objs.size e 0 al.length ep->g.DictAt kd e al ep->(∀ b o,b≠L->z.heap.get? b=some o->g.get? b=some o) ->
   g.get? L=some {cls:=.type "list",data:=.seq #[] c1}->codeAny (model P w) A (.builtin "list.extend.loop" ⟨[.ref L,.ref z.heap.objs.size,res],[]⟩) R {z with heap:=g,toks:=tk}:=by
  intro g c1 tk it od1 keep hL1;refine(codeAny_extend_loopS W (by rw[A1G];omega) L notin res al.length 0 _ #[] c1 rfl (A3U _) ⟨it,od1⟩ hL1 (ItemsOf.nil _) λs' out c' mv hL' items=>?_);rw[Moved.eq_with mv];refine(go s'.heap s'.toks out c' (λb o hb q=>mv.heap b o (λm=>?_) (keep b o hb q)) hL' items);rcases A0F.mp m with q'|m
  . exact hb q'
  exact absurd (A08 q) (by rw[A1Y.mp m];exact A24 _)
 unfold Builtin.List.listExtendWith;refine(A00 (A3H (T:="dict") tyd ?_));have n1:Builtin.List.listSameRef (.ref L) (.ref e)=false:=by simp[Builtin.List.listSameRef,apart]
 have n2:(Value.type "dict" == Value.type "list")=false:=by decide
 have n3:(Value.type "dict" == Value.type "tuple")=false:=by decide
 simp only[n1,n2,n3,Bool.or_false,Bool.false_eq_true,if_false];refine(A00 (wpAny_pyIter_dict nd od ?_));have od1:=od.push {cls:=.type "dict_keyiterator",data:=.fields #[.ref e,.int 0 0,.int al.length 0,.int ep 0]};refine(A00 (A1F (ae5 nd od1.dictOf ?_)));have it1:(z.heap.push {cls:=.type "dict_keyiterator",data:=.fields #[.ref e,.int 0 0,.int al.length 0,.int ep 0]}).IsKeyIter z.heap.objs.size e 0 al.length ep:=⟨_,A0B _ rfl,rfl,rfl⟩;have hL1:=A02 {cls:=.type "dict_keyiterator",data:=.fields #[.ref e,.int 0 0,.int al.length 0,.int ep 0]} hL;refine(wpAny_ite_split (λ_=>?_) (λ_=>A06 ⟨A3M F.plain_extend_loop _,run _ c0 _ it1 od1 (λb o _ q=>A02 _ q) hL1⟩));refine(A00 (A4I ?_));refine(A00 ?_);show wpAny _ _ (updateSeq L (·.push .none) >>= λ_=>updateSeq L (·.pop)) _ _ _;refine(A00 (wpAny_updateSeq hL1 rfl ?_));have hL2:=A29 (Obj.mapSeq (·.push Value.none)) hL1 rfl;refine(wpAny_updateSeq (hz:=by seq_fits) hL2 rfl ?_);have hL3:=A29 (Obj.mapSeq (·.pop)) hL2 rfl
 have up:∀ b o,b≠L->(z.heap.push {cls:=.type "dict_keyiterator",data:=.fields #[.ref e,.int 0 0,.int al.length 0,.int ep 0]}).get? b=some o->_:=λb o hb q=>
  (A1J _ (Obj.mapSeq (·.pop)) (Ne.symm hb)).trans ((A1J _ (Obj.mapSeq (·.push Value.none)) (Ne.symm hb)).trans q)
 exact A06 ⟨A3M F.plain_extend_loop _,run _ _ _ (it1.at λo q=>up _ o (Ne.symm off) q) (od1.at' λo q=>up _ o (Ne.symm apart) q) (λb o hb q=>up b o hb (A02 _ q)) hL3⟩
theorem a98 {R:Result->Shared->Prop}{e:Addr}{al:List (κ×Value)}{ep:Nat}(calm:A.handled=none)(nd:(e==sysModules)=false)(od:z.heap.DictAt kd e al ep)(few:al.length<=2 ^ 24)
  (L:Addr) (hL:z.heap.get? L=some {cls:=.type "list",data:=.seq #[]})
  (go:∀ g tk out c,(∀ b o,b≠L->z.heap.get? b=some o->g.get? b=some o)->g.get? L=some {cls:=.type "list",dict:=none,data:=.seq out c,slots:=#[]} ->
   ItemsOf (λi v=>∃ k x,al[i]? = some (k,x)/\kd.is k v=true) out al.length->R (.ok (.ret .none)) {z with heap:=g,toks:=tk}) :
  wpAny (model P w) A.in1 (Builtin.«list.__init__» ⟨[.ref L,.ref e],[]⟩)
   (λfin s'=>match fin with | .done f=>R (.ok f) s' | .again c'=>c'.quiet=true/\codeAny (model P w) A c' R s') (λe s'=>R (.error e) s') z:=by
 have apart:e≠L:=λq=>by
  obtain⟨o,h1,h2⟩:=od.dictOf.typeIs (s:=z);rw[q,hL] at h1
  cases h1;simp at h2
 show wpAny _ _ (do let was <- Builtin.List.listItems (.ref L);Builtin.List.listUpdate (.ref L) (λ_=>#[]);letGo was.toList.reverse;Builtin.List.listExtendWith (.ref L) (.ref e) .none) _ _ z
 refine(A00 ?_);unfold Builtin.List.listItems;refine(A00 (A25 hL rfl (A06 ?_)));show wpAny _ _ (updateSeq L (λ_=>#[]) >>= λ_=>letGo (#[]:Array Value).toList.reverse >>= λ_=>Builtin.List.listExtendWith (.ref L) (.ref e) .none) _ _ z;refine(A00 (wpAny_updateSeq hL rfl ?_));have hL2:=A29 (Obj.mapSeq (λ_=>(#[]:Array Value))) hL rfl
 have up:∀ b o,b≠L->z.heap.get? b=some o->(z.heap.update L (Obj.mapSeq (λ_=>(#[]:Array Value)))).get? b=some o:=
  λb o hb q=>(A1J _ _ (Ne.symm hb)).trans q
 refine(A00 (wpAny_letGo ?_));refine(We calm nd (od.at' λo q=>up e o apart q) few L .none _ hL2 λg tk out c keep hL' items=>?_);exact go g tk out c (λb o hb q=>keep b o hb (up b o hb q)) hL' items
theorem Pl {Q:Value->Shared->Prop}{e:Addr}{al:List (κ×Value)}{ep:Nat}(calm:A.handled=none)(nd:(e==sysModules)=false)(od:z.heap.DictAt kd e al ep)(few:al.length<=2 ^ 24)
  (go:∀ g tk out c,(∀ b o,z.heap.get? b=some o->g.get? b=some o)->g.get? z.heap.objs.size=some {cls:=.type "list",dict:=none,data:=.seq out c,slots:=#[]} ->
   ItemsOf (λi v=>∃ k x,al[i]? = some (k,x)/\kd.is k v=true) out al.length->Q (.ref z.heap.objs.size) {z with heap:=g,toks:=tk}) :
  wpAny (model P w) A (call (.type "list") [.ref e]) Q E z:=by
 refine callType_codes (Q₁:=λnew s₁=>new = .ref z.heap.objs.size/\s₁={z with heap:=z.heap.push {cls:=.type "list",data:=.seq #[]}}) F.called_list (F.typeCall_list_1 _) F.entry_list_init
  (code_list_new _ ⟨rfl,rfl⟩) λnew s₁ both=>?_
 obtain⟨rfl,rfl⟩:=both;have hL:(z.heap.push {cls:=.type "list",data:=.seq #[]}).get? z.heap.objs.size=some {cls:=.type "list",data:=.seq #[]}:=A0B _ rfl;refine⟨⟨_,hL,rfl⟩,F.args_list_init_2 _ _,a98 (A:=A.in1) calm nd (od.push _) few _ hL λg tk out c keep hL' items=>?_⟩;exact⟨rfl,go g tk out c (λb o q=>keep b o (A0J (A08 q)) (A02 _ q)) hL' items⟩
end
section
variable {X:Cx}{K:W.Frag}
def as3:List V->Hp->VK->Prop:=λxs H Q=>∃(d:Addr) (kvs:List (Key×V)),xs=[.ref d]/\H d=some (.dK kvs)/\kvs.length<=1000000/\∀ l,H l=none->Q (.ref l) (upd H l (.lst (kvs.map λkv=>kV kv.1)))
theorem Zd (hc:X.calm=true):CallR X (.type "list") as3:=by
 intro pins s σ H xs us Q I r h;obtain⟨d,kvs,rfl,hd,hz,q⟩:=h;obtain⟨u,rfl,ru⟩:=Pa r
 cases ru;obtain⟨_,hs,vs,rel,dd⟩:=Ub I.hok hd;obtain⟨ep,hat⟩:=dd.dictAt;have hlen:=rel.length;refine Pl (by simpa using I.ok.hd hc) hs hat nofun λg tk out c keep hL items=>?_;refine⟨.ref s.heap.objs.size,_,I.laid (t':=tk) (o:=.lst (kvs.map λkv=>kV kv.1)) keep (Nat.le_refl _) ⟨?_,out.toList,c,Ta ?_ ?_,by simpa using hL⟩,rfl,q _ (I.hok.fresh (Nat.le_refl _))⟩
 . rw[A01,A1G];omega
 . have e1:=items.1;have e2:out.toList.length=out.size:=A48;have e3:(kvs.map λkv=>kV kv.1).length=kvs.length:=A01 ..;omega
 intro i a b ha hb;rw[A3W] at hb;obtain⟨k,x,hkx,hk⟩:=items.2 i b hb
 have hk':kvs[i]?.map (·.1)=some k:=by rw[<- A09,rel.keys,A09,hkx];rfl
 rw[A09] at ha
 cases g:kvs[i]? with
 |none=>rw[g] at ha;cases ha
 |some kv=>
   rw[g] at ha hk'
   cases ha;have e:kv.1=k:=A0Z hk';subst e;exact a68 hk
theorem az1 {d:Addr}{kvs:List (Key×V)}{H:Hp}{Q:VK}(h:H d=some (.dK kvs))(hz:kvs.length<=1000000)(k:∀ l H',H l=none->Same H H'->H' l=some (.lst (kvs.map λkv=>kV kv.1))->Q (.ref l) H'):as3 [.ref d] H Q:=
 ⟨d,kvs,rfl,h,hz,λl hl=>k l _ hl (Same.upd hl) Ad⟩
end
theorem Pp:typeLookup (.type "zip") "__getattr__" = pure none:=by rw[typeLookup_type,A52];kernel_rfl
theorem Vq:typeLookup (.type "zip") "keys" = pure none:=by rw[typeLookup_type,A52];kernel_rfl
theorem L5:entryFor table "zip.__getattribute__" = some Builtin.«object.__getattribute__»:=
 (entryFor_alias (id':="object.__getattribute__") (by kernel_rfl) (by decide +kernel) (by decide +kernel) (by kernel_rfl))
theorem M0 (c:Addr)(fs:Array Value)(tk0:Tok) :
  Meets (Builtin.«object.__getattribute__» ⟨[.ref c,.str "keys" tk0],[]⟩) (λA R s=>s.heap.get? c=some {cls:=.type "zip",dict:=none,data:=.fields fs,slots:=#[]}/\raisesAttr (.ref c) "keys" A R s):=
 Meets.of_wp λprog w A R s both=>by
  obtain⟨hp,g,d,tk,os⟩:=s;obtain⟨hx,hs⟩:=both;have hT:(⟨hp,g,d,tk,os⟩:Shared).TypeIs (.ref c) "zip":=⟨_,hx,rfl⟩;have miss:=Vq;unfold Builtin.«object.__getattribute__»
  repeat (any_goals (first | assumption | wp_step))
  exact(wpAny_raiseAttrError hs.1 hs.2 (attrMsg_fits (by decide +kernel) (by rw[A1G];decide +kernel)))
section
variable {P:Program}{w:World}{A:Around}{E:Value->Shared->Prop}{z:Shared}
theorem Rf {c:Addr}{fs:Array Value}{Q:Option Value->Shared->Prop}(hx:z.heap.get? c=some {cls:=.type "zip",dict:=none,data:=.fields fs,slots:=#[]})(calm:A.handled=none)
  (go:∀ g tk,(∀ b o,z.heap.get? b=some o->g.get? b=some o)->Q none {z with heap:=g,toks:=tk}):wpAny (model P w) A (getAttr? (.ref c) "keys") Q E z:=by
 obtain⟨hp,g,d,tk,os⟩:=z;have hT:∀ tk',(⟨hp,g,d,tk',os⟩:Shared).TypeIs (.ref c) "zip":=λ_=>⟨_,hx,rfl⟩;have f1:=sub_AttributeError;have g3:=(F.slot_zip_getattribute).lookup;have g4:=(F.slot_zip_getattribute).bind (.ref c);have g5:=Pp;unfold getAttr? getAttrBy? getAttrBy
 repeat (any_goals (first | assumption | exact hT _ | ((with_reducible show wpAny _ _ (call (Value.builtin "zip.__getattribute__") _ _) _ _ _);refine(A45 F.slot_zip_getattribute (hT _) L5 (F.args_zip_getattribute_2 _ _) (M0 c fs _) ⟨hx,calm,λh' tk' e hx'=>?_⟩)) | wp_step))
 obtain⟨t',u',he⟩:=hx'.there;show wpAny _ _ (getattributeRaised _ _ _ _ _ _ _) _ _ _;unfold getattributeRaised
 repeat (any_goals (first | assumption | wp_step))
 exact go _ _ hx'.keeps
end
def Hk (h:Heap)(c TI TO:Addr)(f0:Value)(f1:Bool):Prop:=h.get? c=some {cls:=.type "zip",dict:=none,data:=.fields #[f0,.bool f1,.bool false,.ref TI,.ref TO],slots:=#[]}
section
variable {P:Program}{w:World}{A:Around}{E:Value->Shared->Prop}{z:Shared}
theorem Wn {c TI TO T:Addr}{f1:Bool}{o:Obj}{Q:Bool->Shared->Prop}(hc:Hk z.heap c TI TO (rawInt T) f1)(hT:z.heap.get? T=some o)
  (go:∀ g0,Hk g0 c TI TO (rawInt T) true->(∀ b ob,b≠c->z.heap.get? b=some ob->g0.get? b=some ob)->g0.objs.size=z.heap.objs.size->Q false {z with heap:=g0}):wpAny (model P w) A (Builtin.SmallTypes.ownedTupleIsFree (.ref c)) Q E z:=by
 unfold Builtin.SmallTypes.ownedTupleIsFree;refine(A00 (A1E hc rfl (x:=rawInt T) rfl ?_));show wpAny _ _ (loadIfAlive T >>= _) _ _ _;refine (A00 (W.kdx_alive hT ?_));rw[A10 (show ¬ ((some o).isNone=true) from λq=>by cases q)];refine(A00 (A1E hc rfl (x:=.bool f1) rfl ?_))
 cases f1 with
 |true=>rw[A10 ∅];exact A06 (go _ hc (λ_ _ _ q=>q) rfl)
 |false=>rw[A15 ∅];exact wpAny_bind (wpAny_setField_rec hc (by simp) λg0 hc0 sb0=>wpAny_pure (go g0 hc0 (λb ob hb q=>sb0.extBut b ob hb q) sb0.1))
theorem am5 {c TI TO i1 i2 T:Addr}{fp1 fp2:List Addr}{n i:Nat}{P1 P2:Nat->Value->Prop}{S1 S2:Nat->Heap->Prop}{f1:Bool}{o:Obj}{Q:Value->Shared->Prop}
  (D1:Draws P w A i1 fp1 n P1 S1) (D2:Draws P w A i2 fp2 n P2 S2) (hi:i<n) (hc:Hk z.heap c TI TO (rawInt T) f1) (hTI:IsPair z.heap TI (.ref i1) (.ref i2)) (hT:z.heap.get? T=some o)
  (h1:S1 i z.heap) (h2:S2 i z.heap) (c1:c∉fp1) (c2:c∉fp2) (x1:i1∉fp2) (x2:i2∉fp1) (y1:i1≠c) (y2:i2≠c)
  (go:∀ g tk (u:Addr) x y,P1 i x->P2 i y->Hk g c TI TO (rawInt T) true->IsTup g u #[x,y]->S1 (i+1) g->S2 (i+1) g->z.heap.objs.size<=u->(∀ b ob,b≠c->b≠i1->b≠i2->z.heap.get? b=some ob->g.get? b=some ob)->Q (.ref u) {z with heap:=g,toks:=tk}) :
  wpAny (model P w) A (Builtin.«zip.__next__» ⟨[.ref c],[]⟩) (λfin s'=>∃ v,fin = .done (.ret v)/\Q v s') E z:=by
 show wpAny _ _ (field (.ref c) 2 >>= _) _ _ _;refine(A00 (A1E hc rfl (x:=.bool false) rfl ?_));show wpAny _ _ (field (.ref c) 3 >>= _) _ _ _;refine(A00 (A1E hc rfl (x:=.ref TI) rfl ?_));refine(A00 (A25 hTI rfl ?_));show wpAny _ _ (Builtin.SmallTypes.ownedTupleIsFree (.ref c) >>= _) _ _ _;refine(A00 (Wn hc hT λg0 hc0 k0 z0=>?_));simp only[Bool.false_eq_true,if_false];rw[<- Array.forIn_toList];simp only[List.forIn_cons,List.forIn_nil];refine(A00 (A00 (A00 (A1F ?_))));show wpAny _ _ (Builtin.SmallTypes.nextOf (.ref i1) >>= _) _ _ _;have h1':S1 i g0:=D1.frame i _ _ h1 λb hb ob q=>k0 b ob (λe=>c1 (e ▸ hb)) q;have h2':S2 i g0:=D2.frame i _ _ h2 λb hb ob q=>k0 b ob (λe=>c2 (e ▸ hb)) q;refine(A00 (D1.item i _ _ _ hi h1' λx g1 tk1 hx hS1 sb1=>A06 ?_));refine(A06 ?_);refine(A00 (A00 (A1F ?_)));show wpAny _ _ (Builtin.SmallTypes.nextOf (.ref i2) >>= _) _ _ _;have h2'':S2 i g1:=D2.frame i _ _ h2' λb hb ob q=>sb1.extBut b ob (λe=>x1 (e ▸ hb)) q;refine(A00 (D2.item i _ _ _ hi h2'' λy g2 tk2 hy hS2 sb2=>A06 (A06 (A06 ?_))));refine(A00 (wpAny_newTuple (A06 ⟨_,rfl,?_⟩) (hsz:=by show(2:Nat)<=_;rw[A1G];decide)));have hS1':S1 (i+1) g2:=D1.frame _ _ _ hS1 λb hb ob q=>sb2.extBut b ob (λe=>x2 (e ▸ hb)) q;have kp:∀ b ob,b≠c->b≠i1->b≠i2->z.heap.get? b=some ob->g2.get? b=some ob:=λb ob b1 b2 b3 q=>sb2.extBut b ob b3 (sb1.extBut b ob b2 (k0 b ob b1 q));have hsz:g2.objs.size=z.heap.objs.size:=(sb2.1.trans sb1.1).trans z0;refine go (g2.push {cls:=.type "tuple",data:=.seq #[x,y]}) tk2 g2.objs.size x y hx hy ?_ ⟨_,A0B _ rfl,rfl,_,rfl⟩ ?_ ?_ (by rw[hsz];exact A0D _) λb ob b1 b2 b3 q=>A02 _ (kp b ob b1 b2 b3 q)
 . exact A02 _ (sb2.extBut _ _ (Ne.symm y2) (sb1.extBut _ _ (Ne.symm y1) hc0))
 . exact D1.frame _ _ _ hS1' λb _ ob q=>A02 _ q
 exact D2.frame _ _ _ hS2 λb _ ob q=>A02 _ q
theorem ak3 {c TI TO i1 i2 T:Addr}{fp1:List Addr}{n:Nat}{P1:Nat->Value->Prop}{S1:Nat->Heap->Prop}{f1:Bool}{o:Obj}{Q:PySem.Fin->Shared->Prop}
  (D1:Draws P w A i1 fp1 n P1 S1) (hc:Hk z.heap c TI TO (rawInt T) f1) (hTI:IsPair z.heap TI (.ref i1) (.ref i2)) (hT:z.heap.get? T=some o) (h1:S1 n z.heap) (c1:c∉fp1)
  (stop:∀ g e,(∀ b ob,b≠c->b≠i1->z.heap.get? b=some ob->g.get? b=some ob)->(∃ ob,g.get? e=some ob/\ob.cls = .type "StopIteration")->E (.ref e) {z with heap:=g}) :
  wpAny (model P w) A (Builtin.«zip.__next__» ⟨[.ref c],[]⟩) Q E z:=by
 show wpAny _ _ (field (.ref c) 2 >>= _) _ _ _;refine(A00 (A1E hc rfl (x:=.bool false) rfl ?_));show wpAny _ _ (field (.ref c) 3 >>= _) _ _ _;refine(A00 (A1E hc rfl (x:=.ref TI) rfl ?_));refine(A00 (A25 hTI rfl ?_));show wpAny _ _ (Builtin.SmallTypes.ownedTupleIsFree (.ref c) >>= _) _ _ _;refine(A00 (Wn hc hT λg0 hc0 k0 z0=>?_));simp only[Bool.false_eq_true,if_false];rw[<- Array.forIn_toList];simp only[List.forIn_cons,List.forIn_nil];refine(A00 (A00 (A00 (A1F ?_))));show wpAny _ _ (Builtin.SmallTypes.nextOf (.ref i1) >>= _) _ _ _;have h1':S1 n g0:=D1.frame n _ _ h1 λb hb ob q=>k0 b ob (λe=>c1 (e ▸ hb)) q;exact A00 (D1.done _ _ _ h1' λg e sb he=>stop g e (λb ob b1 b2 q=>sb b ob b2 (k0 b ob b1 q)) he)
theorem a03 {c TI TO i1 i2:Addr}{fp1 fp2:List Addr}{n i:Nat}{P1 P2:Nat->Value->Prop}{S1 S2:Nat->Heap->Prop}{u0 v0:Value}{Q:Value->Shared->Prop}
  (D1:Draws P w A i1 fp1 n P1 S1) (D2:Draws P w A i2 fp2 n P2 S2) (hi:i<n) (hc:Hk z.heap c TI TO .none false) (hTI:IsPair z.heap TI (.ref i1) (.ref i2)) (hTO:IsPair z.heap TO u0 v0)
  (h1:S1 i z.heap) (h2:S2 i z.heap) (c1:c∉fp1) (c2:c∉fp2) (o1:TO∉fp1) (o2:TO∉fp2) (x1:i1∉fp2) (x2:i2∉fp1) (y1:i1≠c) (y2:i2≠c) (oc:TO≠c) (oi1:TO≠i1) (oi2:TO≠i2)
  (go:∀ g tk (u:Addr) x y,P1 i x->P2 i y->Hk g c TI TO (rawInt u) false->IsPair g TO x y->IsTup g u #[x,y]->S1 (i+1) g->S2 (i+1) g->z.heap.objs.size<=u->(∀ b ob,b≠c->b≠i1->b≠i2->b≠TO->z.heap.get? b=some ob->g.get? b=some ob)->Q (.ref u) {z with heap:=g,toks:=tk}) :
  wpAny (model P w) A (Builtin.«zip.__next__» ⟨[.ref c],[]⟩) (λfin s'=>∃ v,fin = .done (.ret v)/\Q v s') E z:=by
 show wpAny _ _ (field (.ref c) 2 >>= _) _ _ _;refine(A00 (A1E hc rfl (x:=.bool false) rfl ?_));show wpAny _ _ (field (.ref c) 3 >>= _) _ _ _;refine(A00 (A1E hc rfl (x:=.ref TI) rfl ?_));refine(A00 (A25 hTI rfl ?_));show wpAny _ _ (Builtin.SmallTypes.ownedTupleIsFree (.ref c) >>= _) _ _ _;refine(A00 ?_);unfold Builtin.SmallTypes.ownedTupleIsFree;refine(A00 (A1E hc rfl (x:=.none) rfl (A06 ?_)));simp only[if_true];refine(A00 (A4I ?_));refine(A00 (A1E hc rfl (x:=.ref TO) rfl ?_));refine(wpAny_bind (wpAny_setField_rec hc (by simp) λg0 hc0 sb0=>?_));refine(A00 ?_);simp only[List.zipIdx_cons,List.zipIdx_nil,List.forIn_cons,List.forIn_nil];have h1':S1 i g0:=D1.frame i _ _ h1 λb hb ob q=>sb0.extBut b ob (λe=>c1 (e ▸ hb)) q;have h2':S2 i g0:=D2.frame i _ _ h2 λb hb ob q=>sb0.extBut b ob (λe=>c2 (e ▸ hb)) q;have hTO0:IsPair g0 TO u0 v0:=sb0.extBut _ _ oc hTO;refine(A00 (A00 (A5K ?_)));show wpAny _ _ (Builtin.SmallTypes.nextOf (.ref i1) >>= _) _ _ _;refine(A00 (D1.item i _ _ _ hi h1' λx g1 tk1 hx hS1 sb1=>A06 ?_));have hTO1:IsPair g1 TO u0 v0:=sb1.extBut _ _ oi1 hTO0;refine(A00 (A25 hTO1 rfl ?_));refine(A00 (wpAny_updateSeq_pair hTO1 λg2 hTO2 sb2=>?_));refine(A00 (wpAny_letGo (A06 ?_)));have h2'':S2 i g2:=D2.frame i _ _ h2' λb hb ob q=>sb2.extBut b ob (λe=>o2 (e ▸ hb)) (sb1.extBut b ob (λe=>x1 (e ▸ hb)) q);have hS1':S1 (i+1) g2:=D1.frame _ _ _ hS1 λb hb ob q=>sb2.extBut b ob (λe=>o1 (e ▸ hb)) q;refine(A00 (A00 (A5K ?_)));show wpAny _ _ (Builtin.SmallTypes.nextOf (.ref i2) >>= _) _ _ _;refine(A00 (D2.item i _ _ _ hi h2'' λy g3 tk3 hy hS2 sb3=>A06 ?_));have hTO3:IsPair g3 TO x v0:=sb3.extBut _ _ oi2 hTO2;refine(A00 (A25 hTO3 rfl ?_));refine(A00 (wpAny_updateSeq_pair hTO3 λg4 hTO4 sb4=>?_));refine(A00 (wpAny_letGo (A06 (A06 ?_))));have hTO4':IsPair g4 TO x y:=hTO4;refine(A00 (A25 hTO4' rfl ?_));refine(A00 (wpAny_newTuple ?_));have hsz:g4.objs.size=z.heap.objs.size:=by rw[sb4.1,sb3.1,sb2.1,sb1.1,sb0.1]
 have hc4:Hk g4 c TI TO .ellipsis false:=sb4.extBut _ _ (Ne.symm oc) (sb3.extBut _ _ (Ne.symm y2) (sb2.extBut _ _ (Ne.symm oc) (sb1.extBut _ _ (Ne.symm y1) hc0)));have hlt:c<g4.objs.size:=A08 hc4;show wpAny _ _ (Builtin.SmallTypes.ownedTupleHandOut (.ref c) (.ref g4.objs.size) >>= _) _ _ _;refine(A00 ?_);unfold Builtin.SmallTypes.ownedTupleHandOut;have hc5:Hk (g4.push {cls:=.type "tuple",data:=.seq #[x,y]}) c TI TO .ellipsis false:=A02 _ hc4;refine(wpAny_bind (wpAny_setField_rec hc5 (by simp) λg6 hc6 sb6=>?_));refine(wpAny_setField_rec hc6 (by simp) λg7 hc7 sb7=>?_);have up:∀ b ob,b≠c->g4.get? b=some ob->g7.get? b=some ob:=λb ob b1 q=>sb7.extBut b ob b1 (sb6.extBut b ob b1 (A02 _ q));refine(A06 ⟨_,rfl,?_⟩);have hS2':S2 (i+1) g4:=D2.frame _ _ _ hS2 λb hb ob q=>sb4.extBut b ob (λe=>o2 (e ▸ hb)) q;have hS1'':S1 (i+1) g4:=D1.frame _ _ _ hS1' λb hb ob q=>sb4.extBut b ob (λe=>o1 (e ▸ hb)) (sb3.extBut b ob (λe=>x2 (e ▸ hb)) q);refine go g7 tk3 g4.objs.size x y hx hy hc7 (up _ _ oc hTO4') ⟨_,sb7.extBut _ _ (A26 hlt) (sb6.extBut _ _ (A26 hlt) (A0B _ rfl)),rfl,_,rfl⟩ ?_ ?_ (by rw[hsz];exact A0D _) ?_
 . exact D1.frame _ _ _ hS1'' λb hb ob q=>up b ob (λe=>c1 (e ▸ hb)) q
 . exact D2.frame _ _ _ hS2' λb hb ob q=>up b ob (λe=>c2 (e ▸ hb)) q
 exact λb ob b1 b2 b3 b4 q=>up b ob b1 (sb4.extBut b ob b4 (sb3.extBut b ob b3 (sb2.extBut b ob b4 (sb1.extBut b ob b2 (sb0.extBut b ob b1 q)))))
theorem ai6 {c TI TO i1 i2:Addr}{fp1:List Addr}{n:Nat}{P1:Nat->Value->Prop}{S1:Nat->Heap->Prop}{Q:PySem.Fin->Shared->Prop}
  (D1:Draws P w A i1 fp1 n P1 S1) (hc:Hk z.heap c TI TO .none false) (hTI:IsPair z.heap TI (.ref i1) (.ref i2)) (h1:S1 n z.heap) (c1:c∉fp1) (y1:i1≠c)
  (stop:∀ g e,(∀ b ob,b≠c->b≠i1->z.heap.get? b=some ob->g.get? b=some ob)->(∃ ob,g.get? e=some ob/\ob.cls = .type "StopIteration")->E (.ref e) {z with heap:=g}) :
  wpAny (model P w) A (Builtin.«zip.__next__» ⟨[.ref c],[]⟩) Q E z:=by
 show wpAny _ _ (field (.ref c) 2 >>= _) _ _ _;refine(A00 (A1E hc rfl (x:=.bool false) rfl ?_));show wpAny _ _ (field (.ref c) 3 >>= _) _ _ _;refine(A00 (A1E hc rfl (x:=.ref TI) rfl ?_));refine(A00 (A25 hTI rfl ?_));show wpAny _ _ (Builtin.SmallTypes.ownedTupleIsFree (.ref c) >>= _) _ _ _;refine(A00 ?_);unfold Builtin.SmallTypes.ownedTupleIsFree;refine(A00 (A1E hc rfl (x:=.none) rfl (A06 ?_)));simp only[if_true];refine(A00 (A4I ?_));refine(A00 (A1E hc rfl (x:=.ref TO) rfl ?_));refine(wpAny_bind (wpAny_setField_rec hc (by simp) λg0 hc0 sb0=>?_));refine(A00 ?_);simp only[List.zipIdx_cons,List.zipIdx_nil,List.forIn_cons,List.forIn_nil];have h1':S1 n g0:=D1.frame n _ _ h1 λb hb ob q=>sb0.extBut b ob (λe=>c1 (e ▸ hb)) q;refine(A00 (A00 (A5K ?_)));show wpAny _ _ (Builtin.SmallTypes.nextOf (.ref i1) >>= _) _ _ _;refine(A00 (D1.done _ _ _ h1' λg1 e sb1 he=>?_));obtain⟨oe,hoe,hce⟩:=he;have hc1:Hk g1 c TI TO .ellipsis false:=sb1 _ _ (Ne.symm y1) hc0;have hez:e≠c:=λq=>by subst q;rw[show g1.get? _=_ from hc1] at hoe;cases hoe;simp at hce
 refine(wpAny_setField_rec hc1 (by simp) λg2 _ sb2=>stop g2 e (λb ob b1 b2 q=>sb2.extBut b ob b1 (sb1 b ob b2 (sb0.extBut b ob b1 q))) ⟨oe,sb2.extBut _ _ hez hoe,hce⟩)
end
structure Qa (c TO i1 i2 D:Addr)(fp1 fp2:List Addr):Prop where
 c1:c∉fp1
 c2:c∉fp2
 o1:TO∉fp1
 o2:TO∉fp2
 x1:i1∉fp2
 x2:i2∉fp1
 y1:i1≠c
 y2:i2≠c
 oc:TO≠c
 oi1:TO≠i1
 oi2:TO≠i2
 d1:D∉fp1
 d2:D∉fp2
 dc:D≠c
 di1:D≠i1
 di2:D≠i2
 dTO:D≠TO
def a91 (c TI TO i1 i2 D:Addr)(S1 S2:Nat->Heap->Prop)(i:Nat)(h:Heap):Prop:=
 IsPair h TI (.ref i1) (.ref i2)/\(∃ u v,IsPair h TO u v)/\S1 i h/\S2 i h/\TI≠c/\TI≠TO/\TI≠i1/\TI≠i2/\TI≠D /\
  (Hk h c TI TO .none false\/∃ T f o,Hk h c TI TO (rawInt (T:Addr)) f/\h.get? T=some o/\T≠c/\T≠i1/\T≠i2/\T≠D/\T≠TO)
section
variable {P:Program}{w:World}{A:Around}{E:Value->Shared->Prop}{z:Shared}{c TI TO i1 i2 D:Addr}{fp1 fp2:List Addr}{n:Nat}{P1 P2:Nat->Value->Prop}{S1 S2:Nat->Heap->Prop}
theorem Wp (h:a91 c TI TO i1 i2 D S1 S2 n z.heap):z.TypeIs (.ref c) "zip":=by
 obtain⟨_,_,_,_,_,_,_,_,_,h | ⟨T,f,o,h,_⟩⟩:=h
 . exact⟨_,h,rfl⟩
 exact⟨_,h,rfl⟩
theorem aj5 {i:Nat}{Q:Option Value->Shared->Prop}(O:Qa c TO i1 i2 D fp1 fp2)(D1:Draws P w A.in1 i1 fp1 n P1 S1)(D2:Draws P w A.in1 i2 fp2 n P2 S2)(hi:i<n)(hD:∃ o,z.heap.get? D=some o)(hs:a91 c TI TO i1 i2 D S1 S2 i z.heap)
  (go:∀ g tk (u:Addr) x y,P1 i x->P2 i y->a91 c TI TO i1 i2 D S1 S2 (i+1) g->IsTup g u #[x,y]->z.heap.objs.size<=u->(∀ b ob,b≠c->b≠i1->b≠i2->b≠TO->z.heap.get? b=some ob->g.get? b=some ob)->Q (some (.ref u)) {z with heap:=g,toks:=tk}) :
  wpAny (model P w) A (pyNext (.ref c)) Q E z:=by
 have hT:=Wp hs;obtain⟨hTI,⟨u0,v0,hTO⟩,h1,h2,t1,t2,t3,t4,t5,hz⟩:=hs;have lt1:∀ {b ob} {u:Addr},z.heap.get? b=some ob->z.heap.objs.size<=u->u≠b:=λq hu e=>by subst e;exact absurd (A08 q) (Nat.not_lt.mpr hu)
 obtain⟨oi1,hoi1⟩:=D1.live _ _ h1;obtain⟨oi2,hoi2⟩:=D2.live _ _ h2;obtain⟨od,hod⟩:=hD;unfold pyNext;rcases hz with hc|⟨T,f,o,hc,hTT,a1,a2,a3,a4,a5⟩
 . refine(A00 (A4U (A1V (name:=Str.ofString "__next__") hT F.slot_zip_next (A2J F.slot_zip_next hT F.entry_zip_next
    (a03 D1 D2 hi hc hTI hTO h1 h2 O.c1 O.c2 O.o1 O.o2 O.x1 O.x2 O.y1 O.y2 O.oc O.oi1 O.oi2 λg tk u x y px py gz gTO gu g1 g2 hu kp=>?_) (F.args_zip_next_1 _)))))
   obtain⟨ou,hou,ru⟩:=id gu;exact(A06 (go g tk u x y px py ⟨kp _ _ t1 t3 t4 t2 hTI,⟨_,_,gTO⟩,g1,g2,t1,t2,t3,t4,t5,.inr ⟨u,_,ou,gz,hou,lt1 hc hu,lt1 hoi1 hu,lt1 hoi2 hu,lt1 hod hu,lt1 hTO hu⟩⟩ gu hu kp))
 refine(A00 (A4U (A1V (name:=Str.ofString "__next__") hT F.slot_zip_next (A2J F.slot_zip_next hT F.entry_zip_next
  (am5 D1 D2 hi hc hTI hTT h1 h2 O.c1 O.c2 O.x1 O.x2 O.y1 O.y2 λg tk u x y px py gz gu g1 g2 hu kp=>?_) (F.args_zip_next_1 _)))))
 exact(A06 (go g tk u x y px py ⟨kp _ _ t1 t3 t4 hTI,⟨_,_,kp _ _ O.oc O.oi1 O.oi2 hTO⟩,g1,g2,t1,t2,t3,t4,t5,.inr ⟨T,_,o,gz,kp _ _ a1 a2 a3 hTT,a1,a2,a3,a4,a5⟩⟩ gu hu λb ob b1 b2 b3 _ q=>kp b ob b1 b2 b3 q))
theorem aB4 {Q:Option Value->Shared->Prop}(O:Qa c TO i1 i2 D fp1 fp2)(D1:Draws P w A.in1 i1 fp1 n P1 S1)(hs:a91 c TI TO i1 i2 D S1 S2 n z.heap)
  (go:∀ g,(∀ b ob,b≠c->b≠i1->z.heap.get? b=some ob->g.get? b=some ob)->Q none {z with heap:=g}) :
  wpAny (model P w) A (pyNext (.ref c)) Q E z:=by
 have hT:=Wp hs;obtain⟨hTI,⟨u0,v0,hTO⟩,h1,h2,t1,t2,t3,t4,t5,hz⟩:=hs;unfold pyNext;rcases hz with hc|⟨T,f,o,hc,hTT,a1,a2,a3,a4,a5⟩
 . refine(A00 (A4U (A1V (name:=Str.ofString "__next__") hT F.slot_zip_next (A2J F.slot_zip_next hT F.entry_zip_next
    (ai6 D1 hc hTI h1 O.c1 O.y1 λg e kp he=>?_) (F.args_zip_next_1 _)))))
   obtain⟨ob,hob,hcl⟩:=he;exact(A00 (A4W (T:="StopIteration") (b:=true) ⟨ob,hob,hcl⟩ isSubtype_stop (A06 (go g kp))))
 refine(A00 (A4U (A1V (name:=Str.ofString "__next__") hT F.slot_zip_next (A2J F.slot_zip_next hT F.entry_zip_next
  (ak3 D1 hc hTI hTT h1 O.c1 λg e kp he=>?_) (F.args_zip_next_1 _)))))
 obtain⟨ob,hob,hcl⟩:=he;exact(A00 (A4W (T:="StopIteration") (b:=true) ⟨ob,hob,hcl⟩ isSubtype_stop (A06 (go g kp))))
end
section
variable {P:Program}{w:World}{κ:Type}[DecidableEq κ]{kd:KeyKind P w κ}{A:Around}{E:Value->Shared->Prop}{c TI TO i1 i2 D:Addr}{fp1 fp2:List Addr}{n:Nat}{P1 P2:Nat->Value->Prop}{S1 S2:Nat->Heap->Prop}
theorem am6 (O:Qa c TO i1 i2 D fp1 fp2)(D1:Draws P w A.in1.in1 i1 fp1 n P1 S1)(D2:Draws P w A.in1.in1 i2 fp2 n P2 S2)(al:List (κ×Value))(hl:al.length=n)(hz:n<=1000000)
  (ha:∀(i:Nat) (kv:κ×Value),al[i]? = some kv->∀ x y,P1 i x->P2 i y->kd.is kv.1 x=true/\y=kv.2) :
  ∀(j i:Nat) (s:Shared) (R:Result->Shared->Prop),n-i=j->i<=n->a91 c TI TO i1 i2 D S1 S2 i s.heap->s.heap.DictOf kd D (merged [] (al.take i)) ->
   (∀ g tk,g.DictOf kd D (merged [] al)->(∀ b o,b≠D->b≠c->b≠i1->b≠i2->b≠TO->s.heap.get? b=some o->g.get? b=some o)->R (.ok (.ret .none)) {s with heap:=g,toks:=tk}) ->
   codeAny (model P w) A (.builtin "dict.update.loop" ⟨[.ref D,.ref c,.int i 0,.none],[]⟩) R s:=by
 intro j
 induction j with
 |zero=>
   intro i s R hj hi hS hD go;have hin:i=n:=by omega
   subst hin;refine(A39 Hu ?_);rw[A2Q Cy _];show wpAny _ A.in1 (pyNext (.ref c) >>= _) _ _ s;refine(A00 (aB4 O D1 hS λg kp=>?_));show wpAny _ A.in1 (Builtin.Dict.addKeywords D [] >>= _) _ _ _;refine(A00 (A06 (A06 (go g s.toks ?_ λb o h1 h2 h3 h4 h5 q=>kp b o h2 h3 q))));rw[<- hl,A13] at hD;obtain⟨o,es,ep,ho,r⟩:=hD;exact⟨o,es,ep,kp D o O.dc O.di1 ho,r⟩
 |succ j ih=>
   intro i s R hj hi hS hD go;have hlt:i<n:=by omega
   obtain⟨kv,hkv⟩:∃ kv,al[i]? = some kv:=⟨al[i]'nofun,A04 _⟩;refine(A39 Hu ?_);rw[A2Q Cy _];show wpAny _ A.in1 (pyNext (.ref c) >>= _) _ _ s;obtain⟨o,es,ep,ho,r⟩:=id hD;refine(A00 (aj5 O D1 D2 hlt ⟨o,ho⟩ hS λg tk u x y px py gS gu hu kp=>?_));obtain⟨hk,rfl⟩:=ha i kv hkv x y px py;have hD':g.DictOf kd D (merged [] (al.take i)):=⟨o,es,ep,kp D o O.dc O.di1 O.di2 O.dTO ho,r⟩;show wpAny _ A.in1 (holding [Value.ref u] _ >>= _) _ _ _;refine(A00 (A1F ?_));refine(A00 (wpAny_tryCatch (Qc gu ?_)));show wpAny _ A.in1 (holding [x,kv.2] (dictSet D x kv.2)) _ _ _;refine(A1F (wpAny_dictSet_pairs hk hD' (λg' hD'' sb=>?_) ?_))
   . refine(A06 ⟨A3M Cy _,?_⟩);have hkeep:∀ b ob,b≠D->b≠c->b≠i1->b≠i2->b≠TO->s.heap.get? b=some ob->g'.get? b=some ob:=λb ob h1 h2 h3 h4 h5 q=>(sb.2 b h1).trans (kp b ob h2 h3 h4 h5 q);refine ih (i+1) _ R nofun hlt ?_ ?_ λg3 tk3 hD3 hk3=>go g3 tk3 hD3 λb ob h1 h2 h3 h4 h5 q=>hk3 b ob h1 h2 h3 h4 h5 (hkeep b ob h1 h2 h3 h4 h5 q)
     . obtain⟨q1,⟨p,q,q2⟩,q3,q4,t1,t2,t3,t4,t5,q5⟩:=gS;have tr:∀ b ob,b≠D->g.get? b=some ob->g'.get? b=some ob:=λb ob h1 q=>(sb.2 b h1).trans q;refine⟨tr _ _ t5 q1,⟨p,q,tr _ _ (Ne.symm O.dTO) q2⟩,D1.frame _ _ _ q3 λb hb ob q=>tr b ob (λe=>O.d1 (e ▸ hb)) q,D2.frame _ _ _ q4 λb hb ob q=>tr b ob (λe=>O.d2 (e ▸ hb)) q,t1,t2,t3,t4,t5,?_⟩;rcases q5 with q5|⟨T,f,ob,q5,q6,a1,a2,a3,a4,a5⟩
       . exact .inl (tr _ _ (Ne.symm O.dc) q5)
       exact .inr ⟨T,f,ob,tr _ _ (Ne.symm O.dc) q5,tr _ _ a4 q6,a1,a2,a3,a4,a5⟩
     have e:merged [] (al.take (i+1))=stored (merged [] (al.take i)) kv.1 kv.2:=by rw[A0Y,hkv];unfold merged;rw[List.foldl_append];rfl
     rw[e];exact hD''
   refine A0H (merged_length_le _ _) (Af ?_);rw[A0T];simp;omega
theorem Vo {z:Shared}{Q:Value->Shared->Prop}(calm:A.handled=none)(O:Qa c TO i1 i2 z.heap.objs.size fp1 fp2)(D1:Draws P w A.in1.in1.in1 i1 fp1 n P1 S1)(D2:Draws P w A.in1.in1.in1 i2 fp2 n P2 S2)
  (al:List (κ×Value)) (hl:al.length=n) (hz:n<=1000000) (ha:∀(i:Nat) (kv:κ×Value),al[i]? = some kv->∀ x y,P1 i x->P2 i y->kd.is kv.1 x=true/\y=kv.2)
  (hc:Hk z.heap c TI TO .none false) (hTI:IsPair z.heap TI (.ref i1) (.ref i2)) (hTO:IsPair z.heap TO .none .none) (h1:S1 0 z.heap) (h2:S2 0 z.heap) (t1:TI≠c) (t2:TI≠TO) (t3:TI≠i1) (t4:TI≠i2)
  (go:∀ g tk,g.DictOf kd z.heap.objs.size (merged [] al)->(∀ b o,b≠c->b≠i1->b≠i2->b≠TO->z.heap.get? b=some o->g.get? b=some o)->Q (.ref z.heap.objs.size) {z with heap:=g,toks:=tk}) :
  wpAny (model P w) A (call (.type "dict") [.ref c]) Q E z:=by
 refine callType_codes (Q₁:=λnew s₁=>new = .ref z.heap.objs.size/\s₁={z with heap:=z.heap.push {cls:=.type "dict",data:=.dict #[]}}) F.kt_called_dict (F.kt_typeCall_dict_1 _) F.entry_dict_init (kt_code_dict_new _ ⟨rfl,rfl⟩) ?_
 rintro new s₁ ⟨rfl,rfl⟩;have hnew:(z.heap.push {cls:=.type "dict",data:=.dict #[]}).DictOf kd z.heap.objs.size []:=Heap.DictOf.new z.heap;have hc':Hk (z.heap.push {cls:=.type "dict",data:=.dict #[]}) c TI TO .none false:=A02 _ hc;refine⟨hnew.typeIs,F.args_dict_init_2 _ _,?_⟩;unfold Builtin.«dict.__init__»;refine(A00 ?_);unfold Builtin.Dict.selfAndRest;refine(A00 (A53 hnew.typeIs ?_));show wpAny _ _ (pure (z.heap.objs.size,[Value.ref c])) _ _ _;refine(A06 ?_);show wpAny _ _ (Builtin.Dict.updateFrom "dict.__init__" z.heap.objs.size (.ref c) [] .none) _ _ _;unfold Builtin.Dict.updateFrom;refine(A00 (A3H (T:="zip") ⟨_,hc',rfl⟩ ?_));rw[A15 ∅];refine(wpAny_bind (Rf hc' (by simpa using calm) λg1 tk1 hk1=>?_));rw[A15 (show(none:Option Value).isNone=true from rfl)];have kp:∀ b o,z.heap.get? b=some o->g1.get? b=some o:=λb o q=>hk1 _ _ (A02 _ q)
 have hD1:g1.DictOf kd z.heap.objs.size []:=by obtain⟨o,es,ep,ho,r⟩:=hnew;exact⟨o,es,ep,hk1 _ _ ho,r⟩
 refine(A00 (A4I ?_));refine(A00 (wpAny_pyIter_zip (TI:=TI) (TO:=TO) (f0:=.none) (kp _ _ hc) ?_));refine(A06 ⟨A3M Cy _,?_⟩);refine am6 (kd:=kd) (A:=A.in1) O D1 D2 al hl hz ha n 0 _ _ (Nat.sub_zero _) (A3U _) ⟨kp _ _ hTI,⟨_,_,kp _ _ hTO⟩,D1.frame _ _ _ h1 λb _ o q=>kp b o q,D2.frame _ _ _ h2 λb _ o q=>kp b o q,t1,t2,t3,t4,A0J (A08 hTI),.inl (kp _ _ hc)⟩ hD1 λg tk hD hk=>⟨rfl,go g tk hD λb o b1 b2 b3 b4 q=>hk b o (A0J (A08 q)) b1 b2 b3 b4 (kp b o q)⟩
end
abbrev tiO (l:Addr):Obj:={cls:=.type "tuple_iterator",data:=.fields #[.ref l,.int 0 0]}
abbrev liO (l:Addr):Obj:={cls:=.type "list_iterator",data:=.fields #[.ref l,.int 0 0]}
abbrev zp1 (h:Heap)(p q:Obj):Heap:=(h.push p).push q
abbrev zp2 (h:Heap)(p q:Obj):Heap:=(zp1 h p q).push {cls:=.type "tuple",data:=.seq #[.ref h.objs.size,.ref (h.push p).objs.size]}
abbrev zp3 (h:Heap)(p q:Obj):Heap:=(zp2 h p q).push {cls:=.type "tuple",data:=.seq #[.none,.none]}
abbrev zp4 (h:Heap)(p q:Obj):Heap:=(zp3 h p q).push {cls:=.type "zip",data:=.fields #[.none,.bool false,.bool false,.ref (zp1 h p q).objs.size,.ref (zp2 h p q).objs.size]}
theorem Vl (a b:Addr)(xs ys:Array Value) :
  Meets (Builtin.«zip.__new__» ⟨[.type "zip",.ref a,.ref b],[]⟩) (λ_ R s=>s.heap.IsTuple a xs/\s.heap.IsList b ys/\R (.ok (.ret (.ref (zp3 s.heap (tiO a) (liO b)).objs.size))) {s with heap:=zp4 s.heap (tiO a) (liO b)}):=
 .of_wp λprog w A R s both=>by
  obtain⟨hp,g,d,tk,os⟩:=s;obtain⟨ha,hb,go⟩:=both;have hsub:=sub_zip;have hA:Heap.IsTuple (Shared.heap ⟨hp,g,d,tk,os⟩) a xs:=ha;have hB:Heap.IsList (Shared.heap ⟨hp.push (tiO a),g,d,tk,os⟩) b ys:=Heap.IsList.push hb _
  wp_walk using A2A hA,A2V hB
  exact⟨_,rfl,go⟩
theorem Vk (a b:Addr)(xs ys:Array Value) :
  Meets (Builtin.«zip.__new__» ⟨[.type "zip",.ref a,.ref b],[]⟩) (λ_ R s=>s.heap.IsTuple a xs/\s.heap.IsTuple b ys/\R (.ok (.ret (.ref (zp3 s.heap (tiO a) (tiO b)).objs.size))) {s with heap:=zp4 s.heap (tiO a) (tiO b)}):=
 .of_wp λprog w A R s both=>by
  obtain⟨hp,g,d,tk,os⟩:=s;obtain⟨ha,hb,go⟩:=both;have hsub:=sub_zip;have hA:Heap.IsTuple (Shared.heap ⟨hp,g,d,tk,os⟩) a xs:=ha;have hB:Heap.IsTuple (Shared.heap ⟨hp.push (tiO a),g,d,tk,os⟩) b ys:=let ⟨o,h1,h2⟩:=hb;⟨o,A02 _ h1,h2⟩
  wp_walk using A2A hA,A2A hB
  exact⟨_,rfl,go⟩
section
variable {P:Program}{w:World}{A:Around}{E:Value->Shared->Prop}{z:Shared}
theorem Wr {h:Heap}{p q:Obj}{Q:Value->Shared->Prop}{s:Shared}(hs:s.heap=h)
  (go:∀ g,Hk g (h.objs.size+4) (h.objs.size+2) (h.objs.size+3) .none false->IsPair g (h.objs.size+2) (.ref h.objs.size) (.ref (h.objs.size+1))->IsPair g (h.objs.size+3) .none .none ->
   g.get? h.objs.size=some p->g.get? (h.objs.size+1)=some q->g.objs.size=h.objs.size+5->(∀ b o,h.get? b=some o->g.get? b=some o)->Q (.ref (h.objs.size+4)) {s with heap:=g}) (hp:p.isFreed=false) (hq:q.isFreed=false) :
  Q (.ref (zp3 h p q).objs.size) {s with heap:=zp4 h p q}:=by
 have z1:(h.push p).objs.size=h.objs.size+1:=A1P ..;have z2:(zp1 h p q).objs.size=h.objs.size+2:=by rw[A1P,z1]
 have z3:(zp2 h p q).objs.size=h.objs.size+3:=by rw[A1P,z2]
 have z4:(zp3 h p q).objs.size=h.objs.size+4:=by rw[A1P,z3]
 have z5:(zp4 h p q).objs.size=h.objs.size+5:=by rw[A1P,z4]
 have g5:(zp4 h p q).get? (zp3 h p q).objs.size=some _:=A0B _ rfl;have g4:(zp4 h p q).get? (zp2 h p q).objs.size=some _:=A02 _ (A0B _ rfl);have g3:(zp4 h p q).get? (zp1 h p q).objs.size=some _:=A02 _ (A02 _ (A0B _ rfl));have g2:(zp4 h p q).get? (h.push p).objs.size=some q:=A02 _ (A02 _ (A02 _ (A0B _ hq)));have g1:(zp4 h p q).get? h.objs.size=some p:=A02 _ (A02 _ (A02 _ (A02 _ (A0B _ hp))));rw[z2,z3,z4] at g5;rw[z1,z2] at g3;rw[z3] at g4;rw[z1] at g2;rw[z4];exact go _ g5 g3 g4 g1 g2 z5 λb o k=>A02 _ (A02 _ (A02 _ (A02 _ (A02 _ k))))
theorem Ys {a b:Addr}{xs ys:Array Value}{Q:Value->Shared->Prop}(ha:z.heap.IsTuple a xs)(hb:z.heap.IsList b ys)
  (go:∀ g,Hk g (z.heap.objs.size+4) (z.heap.objs.size+2) (z.heap.objs.size+3) .none false->IsPair g (z.heap.objs.size+2) (.ref z.heap.objs.size) (.ref (z.heap.objs.size+1))->IsPair g (z.heap.objs.size+3) .none .none ->
   g.get? z.heap.objs.size=some (tiO a)->g.get? (z.heap.objs.size+1)=some (liO b)->g.objs.size=z.heap.objs.size+5->(∀ b o,z.heap.get? b=some o->g.get? b=some o)->Q (.ref (z.heap.objs.size+4)) {z with heap:=g}) :
  wpAny (model P w) A (call (.type "zip") [.ref a,.ref b]) Q E z:=by
 refine callType_new F.called_zip ∅ (F.typeCall_zip_2 _ _) (F.newCall_zip_2 _ _) (λobj=>F.args_object_init_3 obj _ _) F.entry_zip_new (Vl a b xs ys) ⟨ha,hb,?_⟩;refine Wr (Q:=λv s'=>s'.TypeIs v "zip" /\ Q v s') rfl (λg g5 g3 g4 g1 g2 z5 kp=>⟨⟨_,g5,rfl⟩,go g g5 g3 g4 g1 g2 z5 kp⟩) rfl rfl
theorem Z4 {a b:Addr}{xs ys:Array Value}{Q:Value->Shared->Prop}(ha:z.heap.IsTuple a xs)(hb:z.heap.IsTuple b ys)
  (go:∀ g,Hk g (z.heap.objs.size+4) (z.heap.objs.size+2) (z.heap.objs.size+3) .none false->IsPair g (z.heap.objs.size+2) (.ref z.heap.objs.size) (.ref (z.heap.objs.size+1))->IsPair g (z.heap.objs.size+3) .none .none ->
   g.get? z.heap.objs.size=some (tiO a)->g.get? (z.heap.objs.size+1)=some (tiO b)->g.objs.size=z.heap.objs.size+5->(∀ b o,z.heap.get? b=some o->g.get? b=some o)->Q (.ref (z.heap.objs.size+4)) {z with heap:=g}) :
  wpAny (model P w) A (call (.type "zip") [.ref a,.ref b]) Q E z:=by
 refine callType_new F.called_zip ∅ (F.typeCall_zip_2 _ _) (F.newCall_zip_2 _ _) (λobj=>F.args_object_init_3 obj _ _) F.entry_zip_new (Vk a b xs ys) ⟨ha,hb,?_⟩;refine Wr (Q:=λv s'=>s'.TypeIs v "zip" /\ Q v s') rfl (λg g5 g3 g4 g1 g2 z5 kp=>⟨⟨_,g5,rfl⟩,go g g5 g3 g4 g1 g2 z5 kp⟩) rfl rfl
end
def W3 (ns:List Str)(ys:List V):List (Key×V):=(ns.zip ys).map λp=>(Sum.inr p.1,p.2)
section
variable {X:Cx}{K:W.Frag}
def ap4 (K:W.Frag):List V->Hp->VK->Prop:=λxs H Q=>∃(a b:Addr) (ns:List Str) (ys:List V),xs=[.ref a,.ref b]/\SqT K H a (ns.map V.str)/\(SqL K H b ys\/SqT K H b ys)/\ys.length=ns.length/\ns.length<=1000000 /\
 ∀ p,H p=none->Q (.ref p) (upd H p (.dK (Eu [] (W3 ns ys))))
theorem aq9:∀ {ns:List Str} {ys:List V} {ks vs:List Value},Vals (ns.map V.str) ks->Vals ys vs->ys.length=ns.length ->
  ∃ al:List (Key×Value),al.length=ns.length/\KV (W3 ns ys) al/\∀(i:Nat) (kv:Key×Value),al[i]? = some kv->∀ x y,ks[i]? = some x->vs[i]? = some y->Pm kv.1 x=true/\y=kv.2
 | [],[],_,_,_,_,_=>⟨[],rfl,.nil,λi kv h=>by simp at h⟩
 | [], _ :: _,_,_,_,_,h=>by simp at h
 |_ :: _,[],_,_,_,_,h=>by simp at h
 |n :: ns,y :: ys,ks,vs,hk,hv,h=>by
   cases hk with
   |cons r1 hk=>
     cases hv with
     |@cons _ v0 _ _ r2 hv=>
       obtain ⟨al,a1,a2,a3⟩:=aq9 hk hv (by simpa using h);obtain⟨t,rfl⟩:=r1;refine⟨(Sum.inr n,v0) :: al,by simp[a1],.cons ⟨rfl,r2⟩ a2,λi kv hi x y hx hy=>?_⟩
       cases i with
       |zero=>simp at hi hx hy;subst hi hx hy;exact⟨Vc n t,rfl⟩
       |succ i=>exact a3 i kv (by simpa using hi) x y (by simpa using hx) (by simpa using hy)
theorem ay2 (m a b:Nat)(ha:a<m)(hb:b<m):@Qa (m+4) (m+3) m (m+1) (m+5) [m,a] [m+1,b]:=by
 constructor<;>first
  |exact A0J (show(_:Nat)<_ by omega)
  |exact A26 (show(_:Nat)<_ by omega)
  | (intro q;rcases A0F.mp q with q | q<;>first
    | (exact absurd q (A0J (show(_:Nat)<_ by omega)))
    | (exact absurd q (A26 (show(_:Nat)<_ by omega)))
    | (exact absurd (A1Y.mp q) (A0J (show(_:Nat)<_ by omega)))
    | (exact absurd (A1Y.mp q) (A26 (show(_:Nat)<_ by omega))))
theorem Lo {pins:List (Addr×Obj)}{σ:St}{H:Hp}{s:Shared}{Q:VK}(calm:X.A.handled=none)(I:Inv X pins σ H s){a b:Addr}{ns:List Str}{ys:List V}{g:Heap}{ks vs:List Value}{o2:Obj}{S2:Nat->Heap->Prop}
  (ha:IsTup s.heap a ks.toArray) (hb:b<s.heap.objs.size) (hk:Vals (ns.map V.str) ks) (hv:Vals ys vs) (hl:ys.length=ns.length) (hz:ns.length<=1000000)
  (D2:Draws X.prog X.w X.A.in1.in1.in1 (s.heap.objs.size+1) [s.heap.objs.size+1,b] vs.toArray.size (λi v=>vs.toArray[i]? = some v) S2) (h2:S2 0 g)
  (g5:Hk g (s.heap.objs.size+4) (s.heap.objs.size+2) (s.heap.objs.size+3) .none false) (g3:IsPair g (s.heap.objs.size+2) (.ref s.heap.objs.size) (.ref (s.heap.objs.size+1))) (g4:IsPair g (s.heap.objs.size+3) .none .none)
  (g1:g.get? s.heap.objs.size=some (tiO a)) (g2:g.get? (s.heap.objs.size+1)=some o2) (z5:g.objs.size=s.heap.objs.size+5) (kp:∀ b o,s.heap.get? b=some o->g.get? b=some o)
  (q:∀ p,H p=none->Q (.ref p) (upd H p (.dK (Eu [] (W3 ns ys))))) :
  wpAny (model X.prog X.w) X.A (call (.type "dict") [.ref (s.heap.objs.size+4)]) (EP X pins σ Q) X.xe {s with heap:=g}:=by
 have hal:a<s.heap.objs.size:=let ⟨o,ho,_⟩:=ha;A08 ho;have lk:=hk.length;have lv:=hv.length;rw[A01] at lk;obtain⟨al,a1,a2,a3⟩:=aq9 hk hv hl;have D1:=Xx (prog:=X.prog) (w:=X.w) (A:=X.A.in1.in1.in1) (by simpa using calm) s.heap.objs.size a (Nat.ne_of_lt hal) ks.toArray;have n1:ks.toArray.size=ns.length:=by simp;omega
 have n2:vs.toArray.size=ns.length:=by simp;omega
 rw[n1] at D1;rw[n2] at D2
 have O:Qa (s.heap.objs.size+4) (s.heap.objs.size+3) s.heap.objs.size (s.heap.objs.size+1) g.objs.size [s.heap.objs.size,a] [s.heap.objs.size+1,b]:=by rw[z5];exact ay2 _ a b hal hb
 refine Vo (z:={s with heap:=g}) (kd:=Ay X.prog X.w) calm O D1 D2 al a1 hz (λi kv hi x y hx hy=>a3 i kv hi x y (by simpa using hx) (by simpa using hy)) g5 g3 g4 ⟨⟨_,g1,rfl,rfl⟩,ha.keeps kp⟩ h2 (Nat.ne_of_lt (show(_:Nat)<_ by omega)) (Nat.ne_of_lt (show(_:Nat)<_ by omega)) (Nat.ne_of_gt (show(_:Nat)<_ by omega)) (Nat.ne_of_gt (show(_:Nat)<_ by omega)) λg' tk hD hk'=>?_
 have keep:∀ b o,s.heap.get? b=some o->g'.get? b=some o:=λb o e=>by have lt:LT.lt (α:=Nat) b s.heap.objs.size:=A08 e;exact hk' b o (A0J (show LT.lt (α:=Nat) _ _ by omega)) (A0J (show LT.lt (α:=Nat) _ _ by omega)) (A0J (show LT.lt (α:=Nat) _ _ by omega)) (A0J (show LT.lt (α:=Nat) _ _ by omega)) (kp b o e)
 refine⟨.ref g.objs.size,_,I.laid (t':=tk) keep (by rw[z5];omega) (Td ?_ ?_ (KV.merge a2 .nil) hD),rfl,q _ (I.hok.fresh (by rw[z5];omega))⟩
 . have:=Er (W3 ns ys) [];have e:(W3 ns ys).length<=ns.length:=by unfold W3;rw[List.length_map,List.length_zip];omega
   exact Af (by simp at this;omega)
 have:=I.big;exact A1R.mpr (A26 (show LT.lt (α:=Nat) _ _ by rw[z5];exact A11 this (Nat.le_add_right _ _)))
theorem Qo {ea eb:Expr}{ta:TA}{p p2 pos pos2:Pos}(calm:X.A.handled=none)(hg:Gl X "dict")(hm:X.mg "dict" = none)(hg2:Gl X "zip")(hm2:X.mg "zip" = none)(ha:PA X [ea,eb] ta)(hK:X.K=K:=by ac_nf)
  (hs:starEach [.Call (.Name "zip" p2) [ea,eb] [] pos2] X.env=[(false,eval (.Call (.Name "zip" p2) [ea,eb] [] pos2) X.env)]:=by ac_nf)
  (hs2:starEach [ea,eb] X.env=(false,eval ea X.env) :: starEach [eb] X.env:=by ac_nf) (hpl:(backTo pos2 (starEach [eb] X.env)).any (·.1)=false:=by ac_nf) :
  PE X (.Call (.Name "dict" p) [.Call (.Name "zip" p2) [ea,eb] [] pos2] [] pos) (tCB (ap4 K) ta):=by
 subst hK;intro pins s σ H Q I h;refine A1X (Ip I hg hm PyProof.Rows.Boot.«dict» (A1M ?_ hs rfl));rw[hs];show wpAny _ _ (spliced [(false,eval (.Call (.Name "zip" p2) [ea,eb] [] pos2) X.env)]) _ _ s;refine A35 ?_;refine A1X (Ip I hg2 hm2 PyProof.Rows.Boot.«zip» (A1M (thn (ha pos2 pins s σ H _ I h) λus s1 ⟨vs,H1,I1,r1,q1⟩=>?_) hs2 hpl));obtain⟨a,b,ns,ys,rfl,hA,hB,hl,hz,q⟩:=q1;obtain⟨u1,u2,rfl,ra,rb⟩:=Vals.two r1
 cases ra
 cases rb;obtain⟨ks,rk,hta,_⟩:=I1.tuple hA;rcases hB with hB|hB
 . obtain⟨vs,rv,htb,_⟩:=I1.list hB;have hlb:=htb.isList;have hbl:b<s1.heap.objs.size:=let ⟨_,q,_⟩:=hlb;A08 q;refine Ys hta hlb λg g5 g3 g4 g1 g2 z5 kp=>A3B ?_;have D2:=Draws.list (prog:=X.prog) (w:=X.w) (A:=X.A.in1.in1.in1) (by simpa using calm) (s1.heap.objs.size+1) b (Nat.ne_of_lt (Nat.lt_succ_of_lt hbl)) vs.toArray;exact Lo calm I1 hta hbl rk rv hl hz D2 ⟨⟨_,g2,rfl,rfl⟩,hlb.at λo e=>kp b o e⟩ g5 g3 g4 g1 g2 z5 kp q
 obtain⟨vs,rv,htb,_⟩:=I1.tuple hB;have hbl:b<s1.heap.objs.size:=let ⟨_,q,_⟩:=htb;A08 q;refine Z4 hta htb λg g5 g3 g4 g1 g2 z5 kp=>A3B ?_;have D2:=Xx (prog:=X.prog) (w:=X.w) (A:=X.A.in1.in1.in1) (by simpa using calm) (s1.heap.objs.size+1) b (Nat.ne_of_lt (Nat.lt_succ_of_lt hbl)) vs.toArray;exact Lo calm I1 hta hbl rk rv hl hz D2 ⟨⟨_,g2,rfl,rfl⟩,htb.keeps kp⟩ g5 g3 g4 g1 g2 z5 kp q
end
section
variable {K:W.Frag}{H:Hp}{Q:VK}
theorem Uh:∀ {ns:List Str} {ys:List V},ys.length=ns.length->(W3 ns ys).map (·.1)=ns.map λn=>(Sum.inr n:Key)
 | [],[],_=>rfl
 | [],_ :: _,h=>by simp at h
 |_ :: _,[],h=>by simp at h
 |n :: ns,y :: ys,h=>by have ih:=Uh (ns:=ns) (ys:=ys) (by simpa using h);unfold W3 at ih ⊢;rw[List.zip_cons_cons,A0R,A0R,ih];rfl
theorem T4 {a b:Addr}{ns:List Str}{ys:List V}(hA:SqT K H a (ns.map V.str))(hB:SqL K H b ys\/SqT K H b ys)(hl:ys.length=ns.length)(hn:ns.Nodup)(hz:ns.length<=1000000)
  (k:∀ p H',H p=none->Same H H'->H' p=some (.dK (W3 ns ys))->Q (.ref p) H'):ap4 K [.ref a,.ref b] H Q:=by
 refine⟨a,b,ns,ys,rfl,hA,hB,hl,hz,λp hp=>?_⟩
 have e:Eu [] (W3 ns ys)=W3 ns ys:=by rw[Ol _ [] (by rw[Uh hl];exact Gk hn λx _ y _ e=>by injection e) (λ_ _ _ h=>by cases h)];rfl
 rw[e];exact k p _ hp (Same.upd hp) Ad
theorem Xw:∀ {ns:List Str} {ys:List V} {i:Nat} {n:Str} {y:V},ns.Nodup->ns[i]? = some n->ys[i]? = some y->Dn (W3 ns ys) (Sum.inr n:Key)=some y
 | [],_,i,_,_,_,h,_=>by simp at h
 |_ :: _,[],i,_,_,_,_,h=>by simp at h
 |m :: ns,x :: ys,0,n,y,hn,h,g=>by simp at h g;subst h g;unfold W3;simp[Dn]
 |m :: ns,x :: ys,i+1,n,y,hn,h,g=>by
   have h':ns[i]? = some n:=by simpa using h
   have ne:¬ (Sum.inr m:Key)=Sum.inr n:=λe=>by
    have e2:m=n:=by injection e
    exact(A0U.mp hn).1 (e2 ▸ A05 h')
   show Dn ((Sum.inr m,x) :: W3 ns ys) _=_;rw[Be ne];exact Xw (List.nodup_cons.mp hn).2 h' (by simpa using g)
end
theorem HalfW.cl_few {ns:List Str}{ps:List (Str×Str)}(h:HalfW ns ps)(h10:ns.length<=10):(clP ns ps).length+(unP ns ps).length<=45:=by
 have h1:=Ow (ns:=ns) (ps:=ps) h.irr
 have h3:(ns.length:Int)*((ns.length:Int)-1)<=10*9:=by
  have a:(ns.length:Int)<=10:=by omega
  rcases Nat.eq_zero_or_pos ns.length with e|e
  . rw[e];decide
  exact Int.mul_le_mul a nofun nofun nofun
 omega
section
variable {K:W.Frag}{H:Hp}{Q:VK}
theorem aM2 {a b:PyData}{x:V}(h:Is K H (.tuple [a,b]) x)(k:Q (.int 2) H):Sr K [x] H Q:=Xt h k
end
def btw (ns ns':List Str):List (Str×Str):=ns.flatMap λz=>ns'.map λy=>(z,y)
theorem mem_btw {ns ns':List Str}{p:Str×Str}:p∈btw ns ns'↔p.1∈ns/\p.2∈ns':=by
 unfold btw;rw[A2L];constructor
 . rintro⟨z,hz,hp⟩;obtain⟨y,hy,rfl⟩:=A0A.mp hp;exact⟨hz,hy⟩
 rintro⟨h1,h2⟩;exact⟨p.1,h1,A0A.mpr ⟨p.2,h2,rfl⟩⟩
theorem Wj (ns ns':List Str):(btw ns ns').length=ns.length*ns'.length:=by
 unfold btw
 induction ns with
 |nil=>simp
 |cons z ns ih=>rw[A1W,A0C,ih,A01,A0E,A4B];omega
section
variable {ns ns':List Str}{ps ps' bs:List (Str×Str)}
theorem Wx (h:HalfW ns ps)(h':HalfW ns' ps')(hd:∀ z∈ns,z∉ns')(hb:∀ p∈bs,p.1∈ns/\p.2∈ns')(hb2:bs=[]\/∀ x∈ns,∀ y∈ns',(x,y)∈bs){x y:Str} :
  Way (ps++ps'++bs) x y↔Way ps x y\/Way ps' x y\/(bs≠[]/\x∈ns/\y∈ns'):=by
 have nb:∀ {p},p∈bs->bs≠[]:=λhp e=>by rw[e] at hp;cases hp
 constructor
 . intro g
   induction g with
   |@one x y m=>
     rcases A0I.mp m with m|m
     . rcases A0I.mp m with m|m
       . exact .inl (.one m)
       exact .inr (.inl (.one m))
     exact .inr (.inr ⟨nb m,hb _ m⟩)
   |@cons x z y m _ ih=>
     rcases A0I.mp m with m|m
     . rcases A0I.mp m with m|m
       . have hz:=(h.mem _ m).2;rcases ih with g|g|⟨e,g1,g2⟩
         . exact .inl (.cons m g)
         . exact absurd (Way.mem h'.mem g).1 (hd z hz)
         exact .inr (.inr ⟨e,(h.mem _ m).1,g2⟩)
       have hz:=(h'.mem _ m).2;rcases ih with g|g|⟨e,g1,g2⟩
       . exact absurd hz (hd z (Way.mem h.mem g).1)
       . exact .inr (.inl (.cons m g))
       exact absurd hz (hd z g1)
     have hz:=hb _ m;rcases ih with g|g|⟨e,g1,g2⟩
     . exact absurd hz.2 (hd z (Way.mem h.mem g).1)
     . exact .inr (.inr ⟨nb m,hz.1,(Way.mem h'.mem g).2⟩)
     exact absurd hz.2 (hd z g1)
 rintro(g|g|⟨e,g1,g2⟩)
 . exact g.mono λp hp=>A0G _ (A0G _ hp)
 . exact g.mono λp hp=>A0G _ (A0Q _ hp)
 rcases hb2 with q|q
 . exact absurd q e
 exact .one (A0Q _ (q x g1 y g2))
theorem Mm (h:HalfW ns ps)(h':HalfW ns' ps')(hd:∀ z∈ns,z∉ns')(hb:∀ p∈bs,p.1∈ns/\p.2∈ns')(hb2:bs=[]\/∀ x∈ns,∀ y∈ns',(x,y)∈bs)(h10:ns.length+ns'.length<=10)(hl:ps.length+ps'.length+bs.length<=1000) :
  HalfW (ns++ns') (ps++ps'++bs):=by
 refine⟨A16.mpr ⟨h.nd,h'.nd,λa ha b hb e=>hd a ha (e ▸ hb)⟩,λp hp=>?_,λx g=>?_,by rw[A0C];omega,by rw[A0C,A0C];omega⟩
 . rcases A0I.mp hp with m|m
   . rcases A0I.mp m with m|m
     . exact⟨A0G _ (h.mem p m).1,A0G _ (h.mem p m).2⟩
     exact⟨A0Q _ (h'.mem p m).1,A0Q _ (h'.mem p m).2⟩
   exact⟨A0G _ (hb p m).1,A0Q _ (hb p m).2⟩
 rcases(Wx h h' hd hb hb2).mp g with g|g|⟨_,g1,g2⟩
 . exact h.irr x g
 . exact h'.irr x g
 exact hd x g1 g2
theorem ar9 (h:HalfW ns ps)(h10:ns.length<=10):(baP ns ps).length<=45:=by have:=h.cl_few h10;have:(baP ns ps).length<=(clP ns ps).length:=A0O _ _;omega
theorem aw4 (h:HalfW ns ps)(h10:ns.length<=10):HalfW ns (baP ns ps):=h.ba (A0H (ar9 h h10) ∅)
end
theorem az4 {xs:List V}{i j:Int}(h0:0<=i)(h1:i<=j)(h2:j<=xs.length):Ph xs (some i) (some j)=(xs.drop i.toNat).take (j.toNat-i.toNat):=by
 have e:HT.sIx xs.length 0 (some i)=i.toNat:=by unfold HT.sIx;simp[show ¬ i<0 by omega];omega
 have e2:HT.sIx xs.length xs.length (some j)=j.toNat:=by unfold HT.sIx;simp[show ¬ j<0 by omega];omega
 unfold Ph;rw[e,e2]
theorem Half.map {ns:List Str}{ps:List (Str×Str)}(h:Half ns ps){f:Str->Str}(hN:Names (ns.map f)):Half (ns.map f) (ps.map λp=>(f p.1,f p.2)):=by obtain⟨ls,h1,h2⟩:=h.line;refine⟨hN,by rw[A01];exact h.few,by rw[A01];exact h.le,ls.map f,h1.map _,λp hp=>?_⟩;obtain⟨q,hq,rfl⟩:=A0A.mp hp;obtain⟨i,j,hij,hi,hj⟩:=h2 q hq;exact⟨i,j,hij,by rw[A09,hi];rfl,by rw[A09,hj];rfl⟩
def toF (ns sh:List Str)(z:Str):Str:=sh.getD (ns.idxOf z) ""
theorem Mw {ns sh:List Str}(hl:sh.length=ns.length){z:Str}(hz:z∈ns):ns[ns.idxOf z]? = some z/\sh[ns.idxOf z]? = some (toF ns sh z):=by have h1:=A4P.mpr hz;refine⟨by rw[A04 h1,A5J],?_⟩;unfold toF;rw[A3D,A04 nofun];rfl
theorem W0 {ns sh:List Str}(hn:ns.Nodup)(hl:sh.length=ns.length):ns.map (toF ns sh)=sh:=by apply List.ext_getElem (by simp[hl]);intro i h1 h2;rw[List.getElem_map];unfold toF;rw[A01] at h1;rw[A4Q hn i h1,A3D,A04 h2];rfl
theorem Md {ns sh:List Str}(hn:ns.Nodup)(hl:sh.length=ns.length){z:Str}(hz:z∈ns):Dn (W3 ns (sh.map V.str)) (Sum.inr z:Key)=some (.str (toF ns sh z)):=by obtain⟨h1,h2⟩:=Mw hl hz;exact Xw hn h1 (by rw[A09,h2];rfl)
def sw (p:Str×Str):Str×Str:=(p.2,p.1)
theorem aQ3 (ps:List (Str×Str)):(ps.map sw).map sw=ps:=by rw[A18];exact List.map_id _
theorem way_sw {ps:List (Str×Str)}{x y:Str}:Way (ps.map sw) x y↔Way ps y x:=
 ⟨λg=>Way.swap g,λg=>Way.swap (ps:=ps.map sw) (by rw[show((ps.map sw).map λp=>(p.2,p.1))=ps from aQ3 ps];exact g)⟩
section
variable {ns:List Str}{ps:List (Str×Str)}
def onL (ns row:List Str):List Str:=ns.filter λz=>decide (z∈row)
def onP (ns:List Str)(ps:List (Str×Str))(row:List Str):List (Str×Str):=(clP ns ps).filter λp=>decide (p.1∈onL ns row)&&decide (p.2∈onL ns row)
theorem mem_onP {row:List Str}{p:Str×Str}:p∈onP ns ps row↔p.1∈onL ns row/\p.2∈onL ns row/\Way ps p.1 p.2:=by
 unfold onP;rw[A0N,mem_clP,A0X,A3N,A3N];constructor
 . rintro⟨⟨_,_,c⟩,a,b⟩;exact⟨a,b,c⟩
 rintro⟨a,b,c⟩;exact⟨⟨(A0N.mp a).1,(A0N.mp b).1,c⟩,a,b⟩
theorem way_onP {row:List Str}{x y:Str}:Way (onP ns ps row) x y↔x∈onL ns row/\y∈onL ns row/\Way ps x y:=by
 constructor
 . intro g
   induction g with
   |one m=>exact mem_onP.mp m
   |cons m _ ih=>obtain⟨a,b,c⟩:=mem_onP.mp m;exact⟨a,ih.2.1,c.trans ih.2.2⟩
 rintro⟨a,b,c⟩;exact .one (mem_onP.mpr ⟨a,b,c⟩)
theorem Vw (h:Half ns ps)(row:List Str):HalfW (onL ns row) (onP ns ps row):=by have hc:=h.cl_few;refine⟨h.names.1.filter _,λp hp=>let ⟨a,b,_⟩:=mem_onP.mp hp;⟨a,b⟩,λx g=>h.irrefl (way_onP.mp g).2.2,A0H (A0O _ _) (A0H h.few ∅),?_⟩;have:(onP ns ps row).length<=(clP ns ps).length:=A0O _ _;omega
theorem a94 (h:Half ns ps)(row:List Str):(onL ns row).length<=10:=A0H (A0O _ _) h.few
def ff (f:Str->Str)(p:Str×Str):Str×Str:=(f p.1,f p.2)
theorem Ra {row:List Str}(hr:row.Nodup)(hl:row.length=ns.length){x y:Str}(hx:x∈ns)(hy:y∈ns)(e:toF ns row x=toF ns row y):x=y:=by obtain⟨a1,a2⟩:=Mw hl hx;obtain⟨b1,b2⟩:=Mw hl hy;rw[e] at a2;have i1:=(A03.mp a2);have i2:=(A03.mp b2);obtain⟨u1,u2⟩:=i1;obtain⟨w1,w2⟩:=i2;have q1:=A4Q hr _ u1;have q2:=A4Q hr _ w1;rw[u2] at q1;rw[w2] at q2;have:ns.idxOf x=ns.idxOf y:=q1.symm.trans q2;rw[this,b1] at a1;exact(A0Z a1).symm
theorem Kn (h:Half ns ps){row:List Str}(hN:Names row)(hl:row.length=ns.length):Half row (ps.map (ff (toF ns row))):=by have:=h.map (f:=toF ns row) (by rw[W0 h.names.1 hl];exact hN);rwa[W0 h.names.1 hl] at this
end
section
variable {P:Program}{w:World}{A:Around}{E:Value->Shared->Prop}{z:Shared}
end
section
variable {X:Cx}{K:W.Frag}
end
section
variable {α:Type} [DecidableEq α] {b:α->α->Bool} {L:List α}
end
def xB:List Value:=[.type "ValueError",.type "Exception",.type "BaseException",.type "object"]
def ag0 (K:W.Frag)(C:Addr):Bool:=match K.lookup C with
 |some ⟨.type "type",_,.cls cd,sl⟩=>(match cd.mro,sl.toList with
   |.ref D :: bm,[_,_,_,_,some (.builtin n),_]=>D==C&&n == "ValueError.__new__" && !cd.hasDel&&cd.hasDict&&W.tailIn K xB bm
   |_,_=>false)
 |_=>false
theorem Va {K:W.Frag}{C:Addr}(q:ag0 K C=true):∃(nm qn:Str) (N:Addr) (bs bm:List Value) (sn:List Str) (sub:List Value) (ab:Bool) (col:Option Bool) (dd:Option Addr) (k0 k1 k2 k3 k5:Option Value),
  K.lookup C=some (excClassObj nm qn C N bs bm true sn sub ab col dd k0 k1 k2 k3 k5 "ValueError.__new__")/\W.tailIn K xB bm=true:=by
 unfold ag0 at q
 split at q
 . rename_i dd cd sl ho
   split at q
   . rename_i D bm k0 k1 k2 k3 n k5 hm hs;simp only[Bool.and_eq_true,beq_iff_eq,Bool.not_eq_true'] at q;obtain⟨⟨⟨⟨e1,e2⟩,hdel⟩,hdc⟩,ht⟩:=q;subst e1 e2;obtain⟨nm,bs,mro,ns,qn,hd,sn,sub,ab,col,del⟩:=cd;dsimp only at hm hdel hdc;subst hm hdel hdc
     have e3:sl = #[k0,k1,k2,k3,some (.builtin "ValueError.__new__"),k5]:=by obtain⟨l⟩:=sl;simp only at hs;rw[hs]
     subst e3;exact⟨nm,qn,ns,bs,bm,sn,sub,ab,col,dd,k0,k1,k2,k3,k5,ho,ht⟩
   cases q
 cases q
theorem a73 (self:Value){h:Heap}{l:List Value}(T:OwnTail h xB l):refuseLoop self "__setattr__" l=pure ():=by
 induction T with
 |base=>exact PySem.F.store_ValueError.passes self
 |own _ _ _ _ ih=>rw[refuseLoop_ref];exact ih
theorem aq4 {h:Heap}{l:List Value}(T:OwnTail h xB l):l.contains (.type "BaseException")=true:=T.hasType (by decide +kernel)
abbrev aC8 (rest:List Value):Obj:={cls:=.type "tuple",data:=.seq rest.toArray}
abbrev at1 (C t:Addr):Obj:={cls:=.ref C,data:=.fields #[.ref t,.none,.none,.none,.bool false,.none]}
section
variable {prog:Program}{w:World}{A:Around}{E:Value->Shared->Prop}{h:Heap}{g:Array GenState}{d:Drawn}{t:Nat}{os:OsState}{K:W.Frag}{C fI:Addr}{rest:List Value}
theorem am9 {Q:Fin->Shared->Prop}(X:K.In h)(q:ag0 K C=true)(hi:W.findIn K (.ref C) "__init__" = some (some (.ref fI)))(ht:W.typeIn K (.ref fI)=some (.type "function"))(hr:rest.length<=sizeLine)
  (hq:wpAny (model prog w) A (call (.ref fI) (.ref (h.objs.size+1) :: rest)) (λr s'=>r = .none/\Q (.done (.ret (.ref (h.objs.size+1)))) s') E ⟨(h.push (aC8 rest)).push (at1 C h.objs.size),g,d,t,os⟩) :
  wpAny (model prog w) A (Builtin.«type.__call__» ⟨.ref C :: rest,[]⟩) Q E ⟨h,g,d,t,os⟩:=by
 obtain⟨nm,qn,N,bs,bm,sn,sub,ab,col,dd,k0,k1,k2,k3,k5,hl,htl⟩:=Va q;have F:=PySem.F.excBase_ValueError;have T:OwnTail h xB bm:=A3O X htl;have hC:=X _ _ hl
 repeat (first | (with_reducible refine A2W hC ?_) | (with_reducible refine wpAny_madeBy_exc hC ?_) | wp_step)
 refine codeAny_call_builtin_code (A5I _ F.quiet) (wpAny_check_new_subT F T hC (codeAny_exc_new_subT F T hC ?_ hr));show wpAny _ _ _ _ _ _;have X1:K.In ((h.push (aC8 rest)).push (at1 C h.objs.size)):=X.keeps λb o e=>A02 _ (A02 _ e);have hC1:=X1 _ _ hl;have hg1:((h.push (aC8 rest)).push (at1 C h.objs.size)).get? (h.objs.size+1)=some (at1 C h.objs.size):=by heap_get
 have hcC:(Value.ref C :: bm).contains (.ref C)=true:=by simp
 unfold isInstance
 repeat (first | (with_reducible refine A2W hg1 ?_) | (with_reducible refine A5C hC1 ?_;rw[hcC]) | wp_step)
 show wpAny _ _ (typeLookup (.ref C) _) _ _ _;refine(A3E (M:=model prog w) X1 hi).at ?_;refine A1F (A00 ((W.bind_fn X1 _ ht).at ?_));refine A00 (A2D hq (λr s' hr'=>?_) λ_ _ x=>x);obtain⟨rfl,hQ⟩:=hr'
 wp_walk
 exact hQ
theorem az9 {Q:Value->Shared->Prop}(X:K.In h)(q:ag0 K C=true)(hi:W.findIn K (.ref C) "__init__" = some (some (.ref fI)))(ht:W.typeIn K (.ref fI)=some (.type "function"))(hr:rest.length<=sizeLine)
  (hq:wpAny (model prog w) (A.under (.builtin "type.__call__" ⟨.ref C :: rest,[]⟩)) (call (.ref fI) (.ref (h.objs.size+1) :: rest)) (λr s'=>r = .none/\Q (.ref (h.objs.size+1)) s') E ⟨(h.push (aC8 rest)).push (at1 C h.objs.size),g,d,t,os⟩) :
  wpAny (model prog w) A (call (.ref C) rest) Q E ⟨h,g,d,t,os⟩:=by
 obtain⟨nm,qn,N,bs,bm,sn,sub,ab,col,dd,k0,k1,k2,k3,k5,hl,htl⟩:=Va q;have hC:=X _ _ hl;have f1:=tc_lookup;have f2:=tc_bind (.ref C);have tt:(⟨h,g,d,t,os⟩:Shared).TypeIs (.ref C) "type":=⟨_,hC,rfl⟩;refine A4J (codeAny_of_tree ?_);show wpAny _ _ (callAny (.ref C) _) _ _ _
 repeat (any_goals (first | assumption | (with_reducible refine A2W hC ?_) | wp_step))
 refine⟨rfl,codeAny_call_builtin_at (A5I _ (by decide +kernel)) entry_typeCall (wpAny_check_type_call_sub hC (am9 X q hi ht hr ?_))⟩;exact hq
end
end L2
namespace L2
open PySem PySem.Spec PyProof.Rows
open PySem PySem.Spec PyProof.Rows Builtin Builtin.ObjectAttr
structure XC (K:W.Frag)(C:Addr):Prop where
 ex:ag0 K C=true
 sa:W.findIn K (.ref C) "__setattr__" = some (some (.builtin "object.__setattr__"))
 ga:W.findIn K (.ref C) "__getattribute__" = some (some (.builtin "BaseException.__getattribute__"))
 gt:W.findIn K (.ref C) "__getattr__" = some none
 cl:W.findIn K (.ref C) "__class__" = some (some (.builtin "object.__class__"))
 cg:W.specialIn K (.builtin "object.__class__") "__get__" = some (some (.builtin "getset_descriptor.__get__"))
 ct:W.takesIn K (.builtin "object.__class__")=some true
section
variable {prog:Program}{w:World}{A:Around}{E:Value->Shared->Prop}{s:Shared}{K:W.Frag}{C x:Addr}{name:Str}{v:Value}
theorem XC.cls (c:XC K C):∃ cd,W.clsIn K C=some cd/\cd.hasDict=true/\∃ bm,cd.mro = .ref C :: bm/\W.tailIn K xB bm=true:=by obtain⟨nm,qn,N,bs,bm,sn,sub,ab,col,dd,k0,k1,k2,k3,k5,hl,htl⟩:=Va c.ex;exact⟨_,by unfold W.clsIn;rw[hl],rfl,bm,rfl,htl⟩
theorem XC.mro (c:XC K C){h:Heap}(X:K.In h){T:String}(hT:xB.contains (.type T)=true):W.mroIn K C (.type T)=some true:=by obtain⟨cd,hc,_,bm,hm,ht⟩:=c.cls;unfold W.mroIn;rw[hc,Option.bind_some,hm,if_neg (by simp)];rw[A5L,(A3O X ht).hasType hT,Bool.or_true]
theorem ar6 {R:Result->Shared->Prop}{ox:Obj}{od:Option Obj}{tk:Tok}(c:XC K C)(X:K.In s.heap)(I:W.InstAt s.heap x ox C od)(ht:W.findIn K (.ref C) name=some none)
  (h:∀ b,wpAny (model prog w) A.in1 (storeInOwnDict (.ref x) (.ref C) (.str name tk) name v b)
   (λfin s'=>match fin with | .done f=>R (.ok f) s' | .again c'=>c'.quiet=true/\codeAny (model prog w) A c' R s') (λe s'=>R (.error e) s') s) :
  codeAny (model prog w) A (.call (.builtin "object.__setattr__") ⟨[.ref x,.str name tk,v],[]⟩) R s:=by
 have SF:=PySem.F.store_object;obtain⟨cd,hc,hd,bm,hmr,htl⟩:=c.cls;have T:=A3O X htl;have sub:W.Looks (model prog w) s.heap (isInstance (.ref x) (.type "object")) true:=I.type.andThen (A5D X (c.mro X (by decide +kernel)));refine A57 SF.slot.plain SF.entry (@PySem.W.check_slot (model prog w) _ _ s "object.__setattr__" "object" "__setattr__" (.ref x) [.str name tk,v] [] _ SF.kind SF.split sub (SF.args (.ref x) (.str name tk) v) ?_);have hm:W.Looks (model prog w) s.heap (mroOf (.ref C)) cd.mro:=(A46 X hc).andThen .now;have l3:W.Looks (model prog w) s.heap (storeTaker? none) none:=.now;rw[W.osa_eq,refuse_eq];refine A00 (A00 (I.type.here (A00 (hm.here ?_))));rw[hmr,refuseLoop_ref,a73 _ T];refine A06 (A00 (I.type.here (A00 ((A3E X ht).here (A00 (l3.here ?_))))));exact h _
theorem aw0 {Q:Unit->Shared->Prop}{vs:Array Value}{sl:Array (Option Value)}(c:XC K C)(X:K.In s.heap)(hx:s.heap.get? x=some ⟨.ref C,none,.fields vs,sl⟩)(ht:W.findIn K (.ref C) name=some none)
  (hq:∀ h',h'.Ns1 s.heap.objs.size (λy=>if y=name then some v else none)->h'.get? x=some ⟨.ref C,some s.heap.objs.size,.fields vs,sl⟩->(∀ b o,b≠x->s.heap.get? b=some o->h'.get? b=some o)->Q () {s with heap:=h',toks:=s.toks+2}) :
  wpAny (model prog w) A (setAttr (.ref x) name v) Q E s:=by
 have J:W.InstAt s.heap x ⟨.ref C,none,.fields vs,sl⟩ C none:=⟨hx,rfl,rfl,A22⟩;obtain⟨cd,hc,hd,bm,hmr,htl⟩:=c.cls;refine W.set_plain X J c.sa (ar6 (s:={s with toks:=s.toks+1}) c X J ht λb=>?_)
 refine A00 (A06 (A00 (A00 (wpAny_loadPart hx (A00 (A5F (s:={s with toks:=s.toks+1}) (A46 X hc) ?_))))))
 rw[hd];have hx1:(s.heap.push {cls:=.type "dict",data:=.dict #[]}).get? x=some ⟨.ref C,none,.fields vs,sl⟩:=A02 _ hx;have hxs:x≠s.heap.objs.size:=A0J (A08 hx);refine A00 (wpAny_alloc' ?_);refine A00 (wpAny_update' hx1 ?_);refine A06 ?_
 have hgd:((s.heap.push {cls:=.type "dict",data:=.dict #[]}).update x λo=>{o with dict:=some s.heap.objs.size}).get? s.heap.objs.size=some {cls:=.type "dict",data:=.dict #[]}:=
  (Heap.get?_update_ne _ _ _ _ hxs.symm).trans (Heap.get?_push_at rfl rfl)
 have hnd:((s.heap.push {cls:=.type "dict",data:=.dict #[]}).update x λo=>{o with dict:=some s.heap.objs.size}).Ns s.heap.objs.size (λ_=>none):=
  ⟨_,#[],_,hgd,rfl,λe he=>absurd he (by simp),λ_=>rfl⟩
 show wpAny _ _ (storeInDict s.heap.objs.size (.str name _) name v) _ _ _;unfold storeInDict newKeyGuard;refine A00 (A06 (A00 (wpAny_nsSet1 (Heap.Ns1.of_empty hnd) λh' hn' hs=>?_)));obtain⟨oD,esD,epD,hoD,hdD,hcD⟩:=hn'.count (Within.cons name v Within.nil);refine A00 (wpAny_lookBehind hoD (by rw[hdD];exact pastItsLine_dict (A0H hcD (by rw[A0E,A4A,A1G];omega))) ?_);refine A06 (hq h' hn' ((hs.2 x hxs).trans (A29 _ hx1 rfl)) λb o hb hbo=>?_);exact(hs.2 b (A0J (A08 hbo))).trans ((Heap.get?_update_ne _ _ _ _ hb).trans (A02 _ hbo))
theorem ay7 {Q:Unit->Shared->Prop}{dx:Addr}{mA:Str->Option Value}{ns:List Str}{vs:Array Value}{sl:Array (Option Value)}(c:XC K C)(X:K.In s.heap)(hx:s.heap.get? x=some ⟨.ref C,some dx,.fields vs,sl⟩)(hn:s.heap.Ns1 dx mA)
  (hw:Within mA ns) (hz:ns.length<=sizeLine) (ht:W.findIn K (.ref C) name=some none)
  (hq:∀ h',h'.Ns1 dx (λy=>if y=name then some v else mA y)->Heap.SameBut dx s.heap h'->Q () {s with heap:=h',toks:=s.toks+2}) :
  wpAny (model prog w) A (setAttr (.ref x) name v) Q E s:=by
 obtain⟨od,_,_,hod,_⟩:=id hn;have J:W.InstAt s.heap x ⟨.ref C,some dx,.fields vs,sl⟩ C (some od):=⟨hx,rfl,rfl,hod⟩;obtain⟨cd,hc,hd,bm,hmr,htl⟩:=c.cls;refine W.set_plain X J c.sa (ar6 (s:={s with toks:=s.toks+1}) c X J ht λb=>?_)
 refine A00 (A06 (A00 (A00 (wpAny_loadPart hx (A00 (A5F (s:={s with toks:=s.toks+1}) (A46 X hc) ?_))))))
 rw[hd];refine A06 (a:=some dx) (A00 (A06 (A00 ?_)));refine wpAny_nsSet1 (s:={s with toks:=s.toks+1}) hn λh' hn2 hs2=>?_
 obtain⟨oD,esD,epD,hoD,hdD,hcD⟩:=hn2.count (Within.cons name v hw);refine A00 (wpAny_lookBehind hoD (by rw[hdD];exact pastItsLine_dict (A0H hcD (by rw[A0E];omega))) ?_);exact A06 (hq _ hn2 hs2)
theorem ai1 {M:Model}{ox:Obj}{od:Option Obj}{nameV:Value}{Q:Unit->Shared->Prop}(c:XC K C)(X:K.In s.heap)(I:W.InstAt s.heap x ox C od)(hq:Q () s) :
  wpAny M A (checkBuiltinCall "BaseException.__getattribute__" ⟨[.ref x,nameV],[]⟩) Q E s:=by
 have sub:W.Looks M s.heap (isInstance (.ref x) (.type "BaseException")) true:=I.type.andThen (A5D X (c.mro X (by decide +kernel)));exact @PySem.W.check_slot M _ _ s "BaseException.__getattribute__" "BaseException" "__getattribute__" (.ref x) [nameV] [] _ (by decide +kernel) (by decide +kernel) sub (PySem.F.args_bexc_ga (.ref x) nameV) hq
theorem aR0 {fill expr:Bool}{tk:Tok}{Q:Value->Shared->Prop}{ox:Obj}{od:Option Obj}(c:XC K C)(X:K.In s.heap)(I:W.InstAt s.heap x ox C od)
  (h:wpAny (model prog w) A.in1 (Builtin.«object.__getattribute__» ⟨[.ref x,.str name tk],[]⟩)
   (λfin s'=>match fin with | .done (.ret v)=>wpAny (model prog w) A (handedOut v) Q E s' | _=>False) (λ_ _=>False) s):wpAny (model prog w) A (getAttrBy (.ref x) (.str name tk) fill expr) Q E s:=by
 obtain⟨hh,g,d,t,os⟩:=s;have l0:=I.type (M:=model prog w);have l1:=A3E (M:=model prog w) X c.ga;have l2:=A3E (M:=model prog w) X c.gt;have f3:=PySem.F.excAttr_ValueError.ga.bind (.ref x);have e2:(Value.builtin "BaseException.__getattribute__" == Value.builtin "object.__getattribute__")=false:=by decide +kernel
 unfold getAttrBy;refine A1F (A00 (l0.at (A00 (l1.at ?_))));show wpAny _ _ (if(onTheHeap (Value.ref C)&&Value.builtin "BaseException.__getattribute__" == Value.builtin "object.__getattribute__")=true then _ else _) _ _ _
 rw[e2,A4H,A10 ∅];unfold getAttrByItsOwn hookBefore;rw[A15 (show onTheHeap (Value.ref C)=true from rfl)];refine A00 (l2.at (A00 (A4U (A1F ?_))));unfold callGetattribute;rw[A10 (by cases expr<;>decide)]
 unfold boundAndCalled;rw[f3];refine A00 (A06 (A4J (A57 PySem.F.excAttr_ValueError.ga.plain PySem.F.entry_bexc_ga (ai1 (s:=⟨hh,g,d,t,os⟩) c X I ?_))));refine A2D h (λfin s' z=>?_) λ_ _ z=>z.elim;rcases fin with (_ | _ | _ | _) | _<;>first | exact z | exact z.elim
theorem aG0 {expr:Bool}{Q:Value->Shared->Prop}{ox od:Obj}(c:XC K C)(X:K.In s.heap)(I:W.InstAt s.heap x ox C (some od))(ht:W.findIn K (.ref C) name=some none)(hl:W.lookIn name od=some (some v))
  (hv:W.handedIn v=true) (h:Q v {s with toks:=s.toks+1}):wpAny (model prog w) A (getAttr (.ref x) name expr) Q E s:=by
 obtain⟨hh,g,d,t,os⟩:=s;obtain⟨cd,hc,hd,bm,hmr,htl⟩:=c.cls;have l0:=I.type (M:=model prog w)
 have hf:W.findObj K C (some od) name=some (.value v):=by unfold W.findObj W.ownOf;simp only[hc,ht,hd,hl,Option.bind_some,if_true]
 have l3:=W.looks_find (M:=model prog w) X I hf;unfold getAttr;refine A00 (wpAny_mkText (aR0 (s:=⟨hh,g,d,t+1,os⟩) c X I ?_));refine A00 (A06 (A00 (A06 (A00 (l0.at (A00 (l3.at ?_)))))));refine A06 ?_;show wpAny _ _ (handedOut v) _ _ _;rw[W.handedOut_of hv];exact A06 h
end
end L2
namespace L2
open PySem PySem.Spec PyProof.Rows
def exG (n:Bool)(a C:Addr)(od:Option Addr):HO:=.ext λh=>∃ vs sl,h.get? a=some ⟨.ref C,od,.fields vs,sl⟩/\(n=true->vs[1]? = some .none)
abbrev exO (a C:Addr)(od:Option Addr):HO:=exG true a C od
def xdO (dx:Addr)(fs:List (Str×V)):HO:=.ext λh=>∃ mA,h.Ns1 dx mA/\∀ f,RelO (fs.lookup f) (mA f)
section
variable {P:Program}{w:World}{H:Hp}{h:Heap}{a C dx:Addr}{od:Option Addr}{fs:List (Str×V)}
theorem exG_ok {n:Bool}:ObjOk P w H h a (exG n a C od)↔∃ vs sl,h.get? a=some ⟨.ref C,od,.fields vs,sl⟩/\(n=true->vs[1]? = some .none):=
 ⟨λx=>x.1,λ⟨vs,sl,e,z⟩=>⟨⟨vs,sl,e,z⟩,⟨_,e⟩,λh1 h2 ⟨vs,sl,e,z⟩ k=>⟨vs,sl,k _ e,z⟩⟩⟩
theorem exO_ok:ObjOk P w H h a (exO a C od)↔∃ vs sl,h.get? a=some ⟨.ref C,od,.fields vs,sl⟩/\(true=true->vs[1]? = some .none):=exG_ok
theorem xdO_ok:ObjOk P w H h dx (xdO dx fs)↔∃ mA,h.Ns1 dx mA/\∀ f,RelO (fs.lookup f) (mA f):=
 ⟨λx=>x.1,λ⟨mA,n,r⟩=>⟨⟨mA,n,r⟩,(let ⟨o,_,_,e,_⟩:=n;⟨o,e⟩),λh1 h2 ⟨mA,n,r⟩ k=>⟨mA,(let ⟨o,es,ep,e,z⟩:=n;⟨o,es,ep,k _ e,z⟩),r⟩⟩⟩
end
def Sz (K:W.Frag)(C B:Addr):Bool:=(W.clsIn K C).any λcd=>cd.mro == .ref C :: .ref B :: xB
section
variable {K:W.Frag}{C B D:Addr}
end
section
variable {X:Cx}{pins:List (Addr×Obj)}{σ:St}{H:Hp}{s:Shared}{a C dx:Addr}{fs:List (Str×V)}{f:Str}{v:V}{A:Around}{E:Value->Shared->Prop}
theorem aA6 {n' b:Bool}{Q:Value->Shared->Prop}(I:Inv X pins σ H s)(e:H a=some (exG n' a C (some dx)))(ed:H dx=some (xdO dx fs))(c:XC X.K C)(n:NoAttr X.K C f)(l:fs.lookup f=some v)
  (h:∀ u s',Inv X pins σ H s'->RelV v u->Q u s'):wpAny (model X.prog X.w) A (getAttr (.ref a) f b) Q E s:=by
 obtain⟨vs,sl,e1,_⟩:=exG_ok.mp (I.hok a _ e);obtain⟨mA,hn,r⟩:=xdO_ok.mp (I.hok dx _ ed);obtain⟨u,hu,ru⟩:=RelO.some_of (v:=v) (o:=mA f) (by rw[<- l];exact r f);obtain⟨od,hod,hl⟩:=To hn;exact aG0 c I.kIn ⟨e1,rfl,rfl,hod⟩ n (by rw[hl,hu]) (Ul ru) (h u _ (I.tok _) ru)
theorem a96 {mA:Str->Option Value}(r:∀ f,RelO (fs.lookup f) (mA f)):PySem.Within mA (fs.map (·.1)):=λg hg=>by
 cases q:fs.lookup g with
 |none=>exact absurd (RelO.none_of (by rw[<- q];exact r g)) hg
 |some v=>exact A0A.mpr ⟨(g,v),A32 q,rfl⟩
theorem aj7 {y:V}{u:Value}{Q:Unit->Shared->Prop}(I:Inv X pins σ H s)(e:H a=some (exO a C none))(c:XC X.K C)(n:NoAttr X.K C f)(ry:RelV y u)
  (h:∀ dx s',H dx=none->dx≠a->Inv X pins σ (upd (upd H dx (xdO dx [(f,y)])) a (exO a C (some dx))) s'->Q () s'):wpAny (model X.prog X.w) A (setAttr (.ref a) f u) Q E s:=by
 obtain⟨vs,sl,e1,e1n⟩:=exO_ok.mp (I.hok a _ e);refine aw0 c I.kIn e1 n λh' hn he hk=>?_;have hf:H s.heap.objs.size=none:=I.hok.fresh (A0D _);have hne:s.heap.objs.size≠a:=A26 (A08 e1);have na:∀ b,H b=none->b≠a:=λb q z=>by rw[z,e] at q;cases q
 have nd:∀ b u,H b=some u->b≠s.heap.objs.size:=λb u q z=>by rw[z,hf] at q;cases q
 have nb:∀ b o,s.heap.get? b=some o->b≠s.heap.objs.size:=λb o q=>A0J (A08 q);have hu:∀ b o,H b=some o->b≠a->upd (upd H s.heap.objs.size (xdO s.heap.objs.size [(f,y)])) a (exO a C (some s.heap.objs.size)) b=some o:=λb o q z=>by rw[Az z,Az (nd b o q)];exact q
 refine h _ _ hf hne (I.un ⟨λb o q z _ _=>hk b o (na b z) q,λb o q z _ _=>⟨o.slots,hk b o (na b z) q⟩,λb o q z _=>by rw[Az (na b z),Az (nb b o q)];exact z,λb o q _=>?_,
  λb xs q=>hu b _ q λz=>?_,λb o u q=>hu b _ q λz=>?_,λb ps q=>⟨#[],?_⟩⟩ λb o q=>?_)
 . by_cases z:b=a
   . subst z;exact⟨_,he⟩
   exact⟨o,hk b o z q⟩
 . rw[z,e] at q;cases q
 . rw[z,e] at q;cases q
 . rw[Array.append_empty];exact hu b _ q λz=>by rw[z,e] at q;cases q
 by_cases z:b=a
 . subst z;rw[Ad] at q;cases q;exact exO_ok.mpr ⟨_,_,he,e1n⟩
 rw[Az z] at q
 by_cases z2:b=s.heap.objs.size
 . subst z2;rw[Ad] at q;cases q;refine xdO_ok.mpr ⟨_,hn,λg=>?_⟩;show RelO (List.lookup g [(f,y)]) (if g=f then some u else none)
   by_cases q:g=f
   . have hb:(g==f)=true:=A2T.mpr q;simp only[List.lookup,hb,if_pos q];exact ry
   have hb:(g==f)=false:=A1R.mpr q;simp only[List.lookup,hb,if_neg q];exact True.intro
 rw[Az z2] at q;refine(I.hok b o q).stay (λc v hc r=>hk c v (λz3=>?_) r) (λc r=>hu c _ r λz3=>?_) λc xs r=>hu c _ r λz3=>?_
 . subst z3;rcases hc with hc|hc
   . exact z hc.symm
   rw[e] at hc;cases hc
 . rw[z3,e] at r;cases r
 rw[z3,e] at r;cases r
theorem an0 {y:V}{u:Value}{Q:Unit->Shared->Prop}(I:Inv X pins σ H s)(e:H a=some (exO a C (some dx)))(ed:H dx=some (xdO dx fs))(c:XC X.K C)(n:NoAttr X.K C f)(hl:fs.length<1000)(ry:RelV y u)
  (h:∀ s',Inv X pins σ (upd H dx (xdO dx (Lm f y fs))) s'->Q () s'):wpAny (model X.prog X.w) A (setAttr (.ref a) f u) Q E s:=by
 obtain⟨vs,sl,e1,e1n⟩:=exO_ok.mp (I.hok a _ e);obtain⟨mA,hn,r⟩:=xdO_ok.mp (I.hok dx _ ed);refine ay7 c I.kIn e1 hn (a96 r) (by rw[A01,A1G];omega) n λh' hn' hs=>h _ ?_;have hd:∃ o,h'.get? dx=some o:=let ⟨o,_,_,e',_⟩:=hn';⟨o,e'⟩;refine I.write (x:=dx) (e:=dx) (by rw[ed];exact A22) (.inl rfl) (λb q hb z=>(hs.2 b hb).trans z) hd (xdO_ok.mpr ⟨_,hn',λg=>?_⟩);rw[Kb]
 by_cases q:g=f
 . rw[A15 q];show RelO (some y) (if g=f then some u else mA g)
   rw[A15 q];exact ry
 rw[A10 q];show RelO _ (if g=f then some u else mA g)
 rw[A10 q];exact r g
end
def ax3 (K:W.Frag)(f:Str):V->Hp->VK->Prop:=λx H1 Q=>∃ n a C dx fs v,x = .ref a/\H1 a=some (exG n a C (some dx))/\H1 dx=some (xdO dx fs)/\XC K C/\NoAttr K C f/\fs.lookup f=some v/\Q v H1
def aA3 (K:W.Frag)(ta:TE)(f:Str):TE:=fun σ H Q=>ta σ H λx H1=>ax3 K f x H1 Q
def aN8 (K:W.Frag)(f:Str)(y:V):V->Hp->(Hp->Prop)->Prop:=λx H2 R=>∃ a C,x = .ref a/\XC K C/\NoAttr K C f /\
 ((H2 a=some (exO a C none)/\∀ dx,H2 dx=none->dx≠a->R (upd (upd H2 dx (xdO dx [(f,y)])) a (exO a C (some dx)))) \/
   ∃ dx fs,H2 a=some (exO a C (some dx))/\H2 dx=some (xdO dx fs)/\fs.length<1000/\R (upd H2 dx (xdO dx (Lm f y fs))))
def av5 (K:W.Frag)(ta tv:TE)(f:Str):TS:=λD σ H=>tv σ H λy H1=>ta σ H1 λx H2=>aN8 K f y x H2 λH3=>D.nx σ H3
section
variable {X:Cx}{o e value:Expr}{f:Str}{pos pos' tpos:Pos}{ta tv:TE}
theorem aw1 (he:PE X e ta)(hb:attributeBase e f X.env (eval e X.env)=eval e X.env):PE X (.Attribute e f pos) (aA3 X.K ta f):=by intro pins s σ H Q I h;refine aa9 hb (thn (he pins s σ H _ I h) λu s1 ⟨x,H1,I1,rx,n',a,C,dx,fs,v,ex,ea,ed,c,n,l,q⟩=>?_);subst ex;obtain rfl:u=Value.ref a:=rx;exact aA6 I1 ea ed c n l λu' s2 I2 ru=>⟨v,H1,I2,ru,q⟩
theorem ay3 (ha:PE X o ta)(hv:PE X value tv)(hs:swapsWith value (some (.Attribute o f pos')) pos.line X.env=pure false):PS X (.Assign [.Attribute o f pos'] value pos) (av5 X.K ta tv f):=by
 intro pins s σ H D I h;refine plainObj_wpAny_Assign_Attribute (thn (hv pins s σ H _ I h) λu s1 ⟨y,H1,I1,ry,q⟩=>thn (ha pins s1 σ H1 _ I1 q) λov s2 ⟨x,H2,I2,rx,a,C,ex,c,n,q2⟩=>?_) hs;subst ex;obtain rfl:ov=Value.ref a:=rx;rcases q2 with ⟨ea,q2⟩|⟨dx,fs,ea,ed,l,q2⟩
 . exact aj7 I2 ea c n ry λdx s3 h1 h2 I3=>⟨σ,_,I3,q2 dx h1 h2⟩
 exact an0 I2 ea ed c n l ry λs3 I3=>⟨σ,_,I3,q2⟩
end
def ExB (n:Bool)(H:Hp)(a C:Addr)(fs:List (Str×V)):Prop:=(fs=[]/\H a=some (exG n a C none))\/∃ dx,dx≠a/\H a=some (exG n a C (some dx))/\H dx=some (xdO dx fs)
abbrev ExA (H:Hp)(a C:Addr)(fs:List (Str×V)):Prop:=ExB true H a C fs
def Mkx (P:Program)(w:World)(K:W.Frag)(mg:Str->Option Value)(base:Heap)(k:Nat)(C:Addr)(x:Str)(ps:List Str)(sp:Sp):Prop:=
 ∃ f fd,FnOk P w K mg base CX0 k f fd ps sp/\XC K C/\W.findIn K (.ref C) "__init__" = some (some (.ref f))/\W.isFn K (.ref f)=true/\W.keepIn K (.ref C)=true/\mg x=some (.ref C)/\Binds K fd ps []
def aJ5 (K:W.Frag)(C:Addr):Bool:=match K.lookup C with
 |some ⟨_,_,.cls cd,_⟩=>W.nsOkIn K cd.ns&&W.nsIn K cd.ns "__init__" == some none
 |_=>false
structure Mkx0 (K:W.Frag)(mg:Str->Option Value)(C:Addr)(x:Str):Prop where
 xc:XC K C
 no:aJ5 K C=true
 kp:W.keepIn K (.ref C)=true
 gl:mg x=some (.ref C)
def aO5 (C:Addr)(sp:Sp)(vs:List V)(H1:Hp)(Q:VK):Prop:=vs.length<=8/\∀ x,H1 x=none->sp (.ref x :: vs) (upd H1 x (exO x C none)) (λv H2=>v = .non/\Q (.ref x) H2) E0
def aS5 (C:Addr) (sp:Sp) (t:TA):TE:=fun σ H Q=>t σ H λvs H1=>aO5 C sp vs H1 Q
theorem at3 {P:Program}{w:World}{H:Hp}{h:Heap}{a:Addr}(x:HOk P w H h)(n:h.get? a=none):H a=none:=by
 cases q:H a with
 |none=>rfl
 |some o=>
   have t:∀ o,ObjOk P w H h a o->∃ u,h.get? a=some u:=λo z=>by
    cases o with
    |lst xs=>obtain⟨_,_,_,_,e⟩:=z;exact⟨_,e⟩
    |tup xs=>obtain⟨_,_,_,_,e,_⟩:=z;exact⟨_,e⟩
    |dK kvs=>obtain⟨_,_,_,_,o,_,_,e,_⟩:=z;exact⟨_,e⟩
    |dT kvs=>obtain⟨_,_,_,_,o,_,_,e,_⟩:=z;exact⟨_,e⟩
    |set S n=>obtain⟨o,_,_,_,e,_⟩:=z;exact⟨_,e⟩
    |ins C dx fs=>obtain⟨_,_,_,e,_⟩:=z;exact⟨_,e⟩
    |own y=>obtain⟨_,e⟩:=z;exact⟨_,e⟩
    |xd fs=>obtain⟨_,⟨_,_,_,e,_⟩,_⟩:=z;exact⟨_,e⟩
    |rng lo hi=>obtain⟨_,_,_,e⟩:=z;exact⟨_,e⟩
    |frz ob u=>obtain⟨e,_⟩:=z;exact⟨_,e⟩
    |tbl ps=>exact⟨_,z⟩
    |met f y=>exact⟨_,z⟩
    |ext φ=>obtain⟨_,e,_⟩:=z;exact e
   obtain⟨u,e⟩:=t o (x a o q);rw[n] at e;cases e
section
variable {X:Cx}{k:Nat}{f C:Addr}{fd:FuncData}{ps:List Str}{sp:Sp}{x:Str}{p pos:Pos}{e:Expr}{es:List Expr}{t:TA}{pins:List (Addr×Obj)}{σ:St}{H:Hp}{s:Shared}{Q:VK}{us:List Value}{vs:List V}
theorem ax6 (M:Mkx X.prog X.w X.K X.mg X.base k C x ps sp)(hr:Room (k+1) X.A)(I:Inv X pins σ H s)(r:Vals vs us)(hz:vs.length<=8)
  (h:∀ x,H x=none->sp (.ref x :: vs) (upd H x (exO x C none)) (λv H2=>v = .non/\Q (.ref x) H2) E0) :
  wpAny (model X.prog X.w) X.A (call (.ref C) us) (EP X pins σ Q) X.xe s:=by
 obtain⟨f,fd,F,c,hi,hf,hk,hm,hb⟩:=M;have hq:=h (s.heap.objs.size+1) (I.hok.fresh (A38 _));have r2:Vals (V.ref (s.heap.objs.size+1) :: vs) (Value.ref (s.heap.objs.size+1) :: us):=.cons rfl r
 have hl:((Value.ref (s.heap.objs.size+1) :: us)++[]).length=ps.length:=by have e:=r2.length;rw[F.len _ _ _ _ hq] at e;rw[A1Z];exact e.symm
 have hg1:((s.heap.push (aC8 us)).push (at1 C s.heap.objs.size)).get? (s.heap.objs.size+1)=some (at1 C s.heap.objs.size):=by heap_get
 have I2:Inv X pins σ (upd H (s.heap.objs.size+1) (exO (s.heap.objs.size+1) C none)) {s with heap:=(s.heap.push (aC8 us)).push (at1 C s.heap.objs.size)}:=
  I.laid (a:=s.heap.objs.size+1) (t':=s.toks) (λb u q=>A02 _ (A02 _ q)) (A38 _) (exO_ok.mpr ⟨_,_,hg1,λ_=>rfl⟩)
 obtain⟨hh,g,d,tk,os⟩:=s
 refine az9 I.kIn c.ex hi (A2T.mp hf) (by rw[<- r.length,A1G];omega) (A4J (A3G (F.run _ X.stack _ _ ⟨Value.ref (hh.objs.size+1) :: us,[]⟩ (Value.ref (hh.objs.size+1) :: us) _ _ E0 (hr.make C us [])
  (I2.env0.make C us []) (by have:=hb _ (Value.ref (hh.objs.size+1) :: us) I2.kIn hl;rw[A1Z] at this;exact this) r2 hq) λr s' hq'=>?_))
 cases r with
 |error e=>exact False.elim hq'
 |ok fl=>
   cases fl with
   |ret u=>obtain⟨v,H',I3,rv,ev,q3⟩:=I2.after hq';subst ev;exact⟨rv,⟨V.ref (hh.objs.size+1),H',I3,rfl,q3⟩⟩
   |next=>exact False.elim hq'
   |brk=>exact False.elim hq'
   |cont=>exact False.elim hq'
theorem ao4 (M:Mkx X.prog X.w X.K X.mg X.base k C x ps sp)(hr:Room (k+1) X.A)(hg:Gl X x)(ha:PA X (e :: es) t)(hdb:(x==("__debug__":Str))=false:=by decide)
  (he:starEach (e :: es) X.env=(false,eval e X.env) :: starEach es X.env:=by ac_nf) (hpl:(backTo pos (starEach es X.env)).any (·.1)=false:=by ac_nf) :
  PE X (.Call (.Name x p) (e :: es) [] pos) (aS5 C sp t):=by
 intro pins s σ H Q I h;have M':=M;obtain⟨f,fd,F,c,hi,hf,hk,hm,hb⟩:=M';refine A1X (Ky I hg hm ?_ hdb);refine A3J (h₀:=X.base) I.ok.mod.kin hk (thn (ha pos pins s σ H _ I h) λus s1 ⟨vs,H1,I1,r,z,q⟩=>⟨I1.kIn,?_⟩) he hpl;exact ax6 M hr I1 r z q
end
def spX (C:Addr)(fs:List Str):Sp:=λvs H Q _=>∃ a ws,vs = .ref a :: ws/\ws.length=fs.length/\H a=some (exO a C none) /\
 ∀ dx H',H dx=none->dx≠a->(∀ b,b≠a->b≠dx->H' b=H b)->H' a=some (exO a C (some dx))->H' dx=some (xdO dx (fs.zip ws))->Q .non H'
section
variable {X:Cx}{K:W.Frag}{o e value:Expr}{f:Str}{pos pos':Pos}{ta tv:TE}
theorem an2 (he:PE X e ta)(hb:attributeBase e f X.env (eval e X.env)=eval e X.env)(hK:X.K=K:=by ac_nf):PE X (.Attribute e f pos) (aA3 K ta f):=hK ▸ aw1 he hb
theorem Kd (ha:PE X o ta)(hv:PE X value tv)(hs:swapsWith value (some (.Attribute o f pos')) pos.line X.env=pure false)(hK:X.K=K:=by ac_nf):PS X (.Assign [.Attribute o f pos'] value pos) (av5 K ta tv f):=
 hK ▸ ay3 ha hv hs
end
section
variable {K:W.Frag}{σ:St}{H:Hp}{Q:VK}{D:Ends}{f:Str}{ta tv:TE}{t:TA}{sp:Sp}{C a dx B G:Addr}{fs:List (Str×V)}{v y:V}{R:Hp->Prop}{vs:List V}
theorem at6 (k:ta σ H λx H1=>ax3 K f x H1 Q):aA3 K ta f σ H Q:=k
theorem aN2 {n':Bool}(h:ExB n' H a C fs)(c:XC K C)(n:NoAttr K C f)(l:fs.lookup f=some v)(k:Q v H):ax3 K f (.ref a) H Q:=by
 rcases h with ⟨rfl,_⟩|⟨dx,_,h1,h2⟩
 . cases l
 exact⟨n',a,C,dx,fs,v,rfl,h1,h2,c,n,l,k⟩
theorem aw7 (k:tv σ H λy H1=>ta σ H1 λx H2=>aN8 K f y x H2 λH3=>D.nx σ H3):av5 K ta tv f D σ H:=k
theorem X2 (h:H a=some (exO a C none))(c:XC K C)(n:NoAttr K C f)(k:∀ dx H',H dx=none->dx≠a->(∀ b,b≠a->b≠dx->H' b=H b)->H' a=some (exO a C (some dx))->H' dx=some (xdO dx [(f,y)])->R H'):aN8 K f y (.ref a) H R:=
 ⟨a,C,rfl,c,n,.inl ⟨h,λdx h1 h2=>k dx _ h1 h2 (λb hb hd=>by rw[Az hb,Az hd]) Ad (by rw[Az h2,Ad])⟩⟩
theorem aM1 (h:H a=some (exO a C (some dx)))(hd:H dx=some (xdO dx fs))(c:XC K C)(n:NoAttr K C f)(hl:fs.length<1000)(k:∀ H',(∀ b,b≠dx->H' b=H b)->H' dx=some (xdO dx (Lm f y fs))->R H'):aN8 K f y (.ref a) H R:=
 ⟨a,C,rfl,c,n,.inr ⟨dx,fs,h,hd,hl,k _ (λb hb=>Az hb) Ad⟩⟩
theorem aL9 (k:t σ H λvs H1=>aO5 C sp vs H1 Q):aS5 C sp t σ H Q:=k
theorem aO6 {gs:List Str}(hl:vs.length=gs.length)(hz:gs.length<=8)(k:∀ x H',H x=none->Same H H'->ExA H' x C (gs.zip vs)->Q (.ref x) H'):aO5 C (spX C gs) vs H Q:=by refine⟨by omega,λx hx=>⟨x,vs,rfl,hl,Ad,λdx H' h1 h2 h3 h4 h5=>⟨rfl,k x H' hx (λb u q=>?_) (.inr ⟨dx,h2,h4,h5⟩)⟩⟩⟩;have b1:b≠x:=ne_of_none q hx;rw[Az h2] at h1;rw[h3 b b1 (ne_of_none q h1),Az b1];exact q
end
structure Lft (fs:List Addr)(a:Addr)(oe:Obj)(old:List Addr)(h h':Heap):Prop where
 keep:∀ b o,b∉fs->b≠a->b∉old->h.get? b=some o->h'.get? b=some o
 slot:∀ b o,b∈fs->h.get? b=some o->∃ sl,h'.get? b=some {o with slots:=sl}
 there:∀ b o,h.get? b=some o->∃ o',h'.get? b=some o'
 tr:∃ oe' vs T oT ts,h'.get? a=some oe'/\oe'.cls=oe.cls/\oe'.dict=oe.dict/\oe'.slots=oe.slots/\oe'.data = .fields vs/\vs[1]? = some (.ref T)/\T≠a/\h.get? T=none/\h'.get? T=some oT/\oT.data = .fields ts/\ts[3]? = some .none
section
variable {M:Model}{A:Around}{E:Value->Shared->Prop}{s:Shared}{base:Heap}{env:Env}{outer:List Env}{L a:Addr}{oe:Obj}{vs:Array Value}{Q:Unit->Shared->Prop}
theorem a85 (o:Obj)(g:Array Value->Array Value):(o.mapFields g).dict=o.dict/\(o.mapFields g).slots=o.slots/\(o.mapFields g).cls=o.cls:=by
 obtain⟨c,d,dt,sl⟩:=o
 cases dt<;>exact⟨rfl,rfl,rfl⟩
theorem Xs {head:Value}{hadNext:Bool}(hfr:A.frames=some (env :: outer))(hl:s.heap.FunFrames base (env :: outer))(hf:env.frame=some L)(he:s.heap.get? a=some oe)(hd:oe.data = .fields vs)(hsz:1<vs.size)
  (h:∀ h',Lft (frs (env :: outer)) a oe [] s.heap h'->Q () {s with heap:=h'}) :
  wpAny M A (do let x <- frameOf env;let pl <- entryPlaceOf L hadNext;let b <- EntryCells.newEntry head x .none (rawInt L) .none pl;setField (.ref a) 1 b) (λ_ s'=>wpAny M A (setFlight (.ref a) none) Q E s') E s:=by
 have ha:a∉frs (env :: outer):=λhm=>by obtain⟨_,o,ho,hnf⟩:=hl.mem hm;rw[he] at ho;cases ho;exact hnf vs hd
 refine A00 (wpAny_frameOf_fun hfr hl hf λh1 k1=>?_);refine A00 (wpAny_entryPlaceOf λpl hpl=>?_);unfold EntryCells.newEntry newFields;refine A00 (A2E ?_ (hpl.sizeOk5 _ _ _ _ _));generalize hob:(Obj.mk (Value.type "traceback") none (Data.fields ([head,Value.ref L,Value.none,rawInt L,Value.none]++(if pl.isEmpty then List.replicate 6 Value.none else pl)).toArray) #[]:Obj)=ob
 have obd:ob.data = .fields ([head,Value.ref L,Value.none,rawInt L,Value.none]++(if pl.isEmpty then List.replicate 6 Value.none else pl)).toArray:=by rw[<- hob]
 have hob2:ob.isFreed=false:=A40 obd;have he1:h1.get? a=some oe:=(k1.2.1 a ha).trans he;have he2:=A02 (h:=h1) ob he1;refine wpAny_setField he2 hd hsz ?_;have hTe:h1.objs.size≠a:=A26 (A08 he1);have d3:=A4E hd (·.setIfInBounds 1 (Value.ref h1.objs.size));have he3:=A29 (Obj.mapFields (·.setIfInBounds 1 (Value.ref h1.objs.size))) he2 (A40 d3);have hT3:=(A1J (h1.push ob) (Obj.mapFields (·.setIfInBounds 1 (Value.ref h1.objs.size))) (Ne.symm hTe)).trans (A0B h1 hob2);unfold setFlight;refine wpAny_bind (wpAny_field he3 d3 (x:=.ref h1.objs.size) (by simp[hsz]) ?_);rw[if_pos (show(Value.ref h1.objs.size != Value.none)=true from by simp)];refine wpAny_setField hT3 obd (by simp only[List.size_toArray,List.length_append,List.length_cons,List.length_nil]<;>omega) (h _ ?_)
 have kp:∀ b o,b≠a->h1.get? b=some o->(((h1.push ob).update a (Obj.mapFields (·.setIfInBounds 1 (Value.ref h1.objs.size)))).update h1.objs.size (Obj.mapFields (·.setIfInBounds 3 ((none:Option Addr).elim Value.none λf=>rawInt f)))).get? b=some o:=λb o hbe hb=>by rw[A1J _ _ (A26 (A08 hb)),A1J _ _ (Ne.symm hbe)];exact A02 _ hb
 have hea:=(A1J _ (Obj.mapFields (·.setIfInBounds 3 ((none:Option Addr).elim Value.none λf=>rawInt f))) hTe).trans he3;refine⟨λb o hb hba _ q=>kp b o hba ((k1.2.1 b hb).trans q),λb o hb q=>?_,λb o q=>?_,?_⟩
 . obtain⟨sl,z⟩:=k1.2.2 b o q;exact⟨sl,kp b _ (λw=>ha (w ▸ hb)) z⟩
 . by_cases w:b=a
   . subst w;exact⟨_,hea⟩
   obtain⟨sl,z⟩:=k1.2.2 b o q;exact⟨_,kp b _ w z⟩
 obtain⟨m1,m2,m3⟩:=a85 oe (·.setIfInBounds 1 (Value.ref h1.objs.size));refine⟨_,_,h1.objs.size,_,_,hea,m3,m1,m2,d3,by simp[hsz],hTe,Heap.get?_none_of_le (by rw[k1.1];exact Nat.le_refl _),Heap.get?_update_self _ hT3 (Obj.isFreed_of_fields (Obj.data_mapFields obd _)),Obj.data_mapFields obd _,?_⟩;rcases hpl with rfl|⟨_,_,_,_,_,_,_,rfl⟩<;>simp
theorem am3 (hfr:A.frames=some (env :: outer))(hl:s.heap.FunFrames base (env :: outer))(hf:env.frame=some L)(he:s.heap.get? a=some oe)(hd:oe.data = .fields vs)(h1:vs[1]? = some .none)
  (h:∀ h',Lft (frs (env :: outer)) a oe [] s.heap h'->Q () {s with heap:=h'}):wpAny M A (leaving env (.ref a)) Q E s:=by
 unfold leaving noteFrame;simp only[hf];refine A00 (A00 (A1E he hd h1 ?_));rw[A10 ∅];exact Xs hfr hl hf he hd (A2H.mp h1).1 h
theorem X8 {T:Addr}{oT:Obj}{ts:Array Value}(hfr:A.frames=some (env :: outer))(hl:s.heap.FunFrames base (env :: outer))(hf:env.frame=some L)(he:s.heap.get? a=some oe)(hd:oe.data = .fields vs)(h1:vs[1]? = some (.ref T))
  (hTe:T≠a) (hT:s.heap.get? T=some oT) (hdT:oT.data = .fields ts) (h3:ts[3]? = some .none)
  (h:∀ h',Lft (frs (env :: outer)) a oe [T] s.heap h'->Q () {s with heap:=h'}):wpAny M A (noteFrame (.ref a) env) (λ_ s'=>wpAny M A (setFlight (.ref a) none) Q E s') E s:=by
 unfold noteFrame;simp only[hf];refine A00 (A1E he hd h1 ?_);rw[if_pos (show(Value.ref T != Value.none)=true from by simp)];refine A00 (A1E hT hdT h3 ?_);rw[if_neg (show ¬ ((Value.none==rawInt L)=true) from by simp[rawInt])];refine A00 (wpAny_setField hT hdT (A2H.mp h3).1 ?_);have ot:∀ b,b≠T->(s.heap.update T (Obj.mapFields (·.setIfInBounds 3 Value.none))).get? b=s.heap.get? b:=λb hb=>A1J _ _ (Ne.symm hb);have tt:=A29 (Obj.mapFields (·.setIfInBounds 3 Value.none)) hT (A40 (A4E hdT _))
 have nT:∀ b o,s.heap.get? b=some o->(∀ us,o.data ≠ .fields us)->b≠T:=λb o hb hnf q=>by rw[q,hT] at hb;cases hb;exact hnf ts hdT
 have fT:T∉frs (env :: outer):=λhm=>by obtain⟨_,o,ho,hnf⟩:=hl.mem hm;exact nT T o ho hnf rfl
 refine Xs (hl:=hl.of_keeps λb o hb hnf=>⟨o,(ot b (nT b o hb hnf)).trans hb,rfl⟩) hfr hf ((ot a (Ne.symm hTe)).trans he) hd (A2H.mp h1).1 λh' l=>h h' ?_;obtain⟨x1,x2,x3,oe',us,T',oT',ts',q1,q2,q3,q4,q5,q6,q7,q8,q9⟩:=l;refine⟨λb o hb hba hbt q=>x1 b o hb hba (by simp) ((ot b λz=>hbt (by simp[z])).trans q),λb o hb q=>x2 b o hb ((ot b λz=>fT (z ▸ hb)).trans q),λb o q=>?_,oe',us,T',oT',ts',q1,q2,q3,q4,q5,q6,q7,?_,q9⟩
 . by_cases z:b=T
   . subst z;exact x3 _ _ tt
   exact x3 b o ((ot b z).trans q)
 by_cases z:T'=T
 . rw[z,tt] at q8;cases q8
 rw[<- ot T' z];exact q8
theorem ax2 {T:Addr}{oT:Obj}{ts:Array Value}(hfr:A.frames=some (env :: outer))(hl:s.heap.FunFrames base (env :: outer))(hf:env.frame=some L)(he:s.heap.get? a=some oe)(hd:oe.data = .fields vs)(h1:vs[1]? = some (.ref T))
  (hTe:T≠a) (hT:s.heap.get? T=some oT) (hdT:oT.data = .fields ts) (h3:ts[3]? = some .none)
  (h:∀ h',Lft (frs (env :: outer)) a oe [T] s.heap h'->Q () {s with heap:=h'}):wpAny M A (leaving env (.ref a)) Q E s:=by
 unfold leaving;exact A00 (X8 hfr hl hf he hd h1 hTe hT hdT h3 h)
end
def Tra (a:Addr)(H':Hp)(h0 h:Heap):Prop:=∃ oe vs T oT ts,h.get? a=some oe/\oe.data = .fields vs/\vs[1]? = some (.ref T)/\T≠a/\h.get? T=some oT/\oT.data = .fields ts/\ts[3]? = some .none/\H' T=none/\h0.get? T=none
def CX1 (P:Program)(w:World):CXT:=λouter H s E e s'=>∃ a C od H',e = .ref a/\s'.os=s.os/\AllBare s'.gens/\Un (frs outer) [] H H' s.heap s'.heap/\HOk P w H' s'.heap/\H' a=some (exG false a C od)/\s.heap.get? a=none/\Tra a H' s.heap s'.heap/\E (.ref a) none H'
section
variable {P:Program}{w:World}{fs:List Addr}{a C:Addr}{od:Option Addr}{oe:Obj}{old:List Addr}{h h':Heap}{H:Hp}{n:Bool}
theorem Lft.hok (l:Lft fs a oe old h h')(ok:HOk P w H h)(he:h.get? a=some oe)(ha:H a=some (exG n a C od))(hfs:∀ b∈fs,H b=none)(hold:∀ b∈old,H b=none):HOk P w (upd H a (exG false a C od)) h':=λb u q=>by
 have hu:∀ c z,H c=some z->c≠a->upd H a (exG false a C od) c=some z:=λc z r ne=>by rw[Az ne];exact r
 by_cases hb:b=a
 . subst hb;rw[Ad] at q;cases q;obtain⟨vs,sl,e1,_⟩:=exG_ok.mp (ok b _ ha);rw[he] at e1;cases e1;obtain⟨oe',us,T,oT,ts,q1,q2,q3,q4,q5,_⟩:=l.tr;obtain⟨c,d,dt,s4⟩:=oe';dsimp only at q2 q3 q4 q5;subst q2 q3 q4 q5;exact exG_ok.mpr ⟨us,_,q1,λz=>Bool.noConfusion z⟩
 rw[Az hb] at q;refine(ok b u q).stay (λc v hc r=>?_) (λc r=>hu c _ r λz=>?_) λc xs r=>hu c _ r λz=>?_
 . have hcn:∃ z,H c=some z:=by
    rcases hc with hc|hc
    . exact⟨u,hc ▸ q⟩
    exact⟨_,hc⟩
   obtain⟨z,hz⟩:=hcn;refine l.keep c v (λm=>by rw[hfs c m] at hz;cases hz) (λe=>?_) (λm=>by rw[hold c m] at hz;cases hz) r;subst e;rcases hc with hc|hc
   . exact hb hc.symm
   rw[ha] at hc;cases hc
 . rw[z,ha] at r;cases r
 rw[z,ha] at r;cases r
end
section
variable {P:Program}{w:World}{K:W.Frag}{mg:Str->Option Value}{base:Heap}{N:List Str}{qual:Str}{scope:Scope}{f:Addr}{cd:Value}{A:Around}{outer:List Env}{s₀:Shared}{H₀:Hp}{E:XK}
theorem aa8 {h h':Heap}:∀ {l:List Env},h.FunFrames base l->(∀ b∈frs l,∀ o,h.get? b=some o->∃ sl,h'.get? b=some {o with slots:=sl})->h'.FunFrames base l
 | [],_,_=>A22
 |env :: r,hl,k=>by
   obtain⟨hk,⟨L,o,hf,hn,ho,hd⟩,hr⟩:=hl;have e:frs (env :: r)=L :: frs r:=by unfold frs;rw[List.filterMap_cons,hf]
   obtain⟨sl,z⟩:=k L (by rw[e];exact A12) o ho;exact⟨hk,⟨L,_,hf,hn,z,hd⟩,aa8 hr λb hb=>k b (by rw[e];exact A0L _ hb)⟩
theorem aK2 {CX:CXT}{pins:List (Addr×Obj)}{σ:St}{H1 H2:Hp}{s1 s2:Shared}{h3:Heap}{a C:Addr}{od:Option Addr}{oe:Obj}{old:List Addr}{n:Bool}(I:Inv (Zj CX P w K mg base N qual scope f cd A outer s₀ H₀ E) pins σ H1 s1)
  (os:s2.os=s1.os) (bare:AllBare s2.gens) (un:Un (frs (envOfC qual scope s₀.heap.objs.size f cd :: outer)) [] H1 H2 s1.heap s2.heap) (ok:HOk P w H2 s2.heap) (ha:H2 a=some (exG n a C od)) (he:s2.heap.get? a=some oe) (hn:s₀.heap.get? a=none) (hold:∀ b∈old,H2 b=none/\s₀.heap.get? b=none)
  (l:Lft (frs (envOfC qual scope s₀.heap.objs.size f cd :: outer)) a oe old s2.heap h3) (q:E (.ref a) none (upd H2 a (exG false a C od))) :
  CX1 P w outer H₀ s₀ E (.ref a) {s2 with heap:=h3}:=by
 have stk:∀ b∈frs (envOfC qual scope s₀.heap.objs.size f cd :: outer),b=s₀.heap.objs.size\/b∈frs outer:=λb hb=>by
  rcases A0F.mp (I.stkSub b hb) with z|z
  . exact .inl z
  exact .inr z
 have fr2:∀ b∈frs (envOfC qual scope s₀.heap.objs.size f cd :: outer),H2 b=none:=λb hb=>by obtain⟨_,o,ho,_⟩:=I.stack.mem hb;exact un.free b o ho (I.stkFree b hb) (by simp)
 obtain⟨oe',us,T,oT,ts,q1,q2,q3,q4,q5,q6,q7,q8,q9,q10,q11⟩:=l.tr;have nl:∀ b o,s₀.heap.get? b=some o->b≠s₀.heap.objs.size:=λb o z=>A0J (A08 z);have na:∀ b o,s₀.heap.get? b=some o->b≠a:=λb o z e=>by rw[e,hn] at z;cases z
 have no:∀ b o,s₀.heap.get? b=some o->b∉old:=λb o z e=>by rw[(hold b e).2] at z;cases z
 have tn:H2 T=none:=at3 ok q8
 have t0:s₀.heap.get? T=none:=by
  cases z:s₀.heap.get? T with
  |none=>rfl
  |some o=>obtain⟨o1,z1⟩:=I.base.there T o z (by intro m;cases m);obtain⟨o2,z2⟩:=un.there T o1 z1 (by simp);rw[q8] at z2;cases z2
 have hu:∀ c z,H2 c=some z->z≠exG n a C od->upd H2 a (exG false a C od) c=some z:=λc z r ne=>by rw[Az λe=>ne (by rw[e,ha] at r;exact(A0Z r).symm)];exact r
 refine⟨a,C,od,upd H2 a (exG false a C od),rfl,os.trans I.os,bare,⟨λb o z nz hb _=>?_,λb o z nz hb _=>?_,λb o z nz _=>?_,λb o z _=>?_,λb xs z=>?_,λb o u z=>?_,λb ps z=>?_⟩,l.hok ok he ha fr2 (λb m=>(hold b m).1),Ad,hn,⟨oe',us,T,oT,ts,q1,q5,q6,q7,q9,q10,q11,by rw[Az q7];exact tn,t0⟩,q⟩
 . have z1:=I.base.keep b o z nz hb (by intro m;cases m);have n1:=I.base.free b o z nz (by intro m;cases m);have hb2:b∉frs (envOfC qual scope s₀.heap.objs.size f cd :: outer):=λm=>(stk b m).elim (nl b o z) hb;exact l.keep b o hb2 (na b o z) (no b o z) (un.keep b o z1 n1 hb2 (by simp))
 . obtain⟨sl,z1⟩:=I.base.slot b o z nz hb (by intro m;cases m);have n1:=I.base.free b o z nz (by intro m;cases m);obtain⟨sl2,z2⟩:=un.any z1 n1 (by simp)
   by_cases m:b∈frs (envOfC qual scope s₀.heap.objs.size f cd :: outer)
   . obtain⟨sl3,z3⟩:=l.slot b _ m z2;exact⟨sl3,z3⟩
   exact⟨sl2,l.keep b _ m (na b o z) (no b o z) z2⟩
 . obtain⟨o1,z1⟩:=I.base.there b o z (by intro m;cases m);have n1:=I.base.free b o z nz (by intro m;cases m);show upd H2 a _ b=none;rw[Az (na b o z)];exact un.free b o1 z1 n1 (by simp)
 . obtain⟨o1,z1⟩:=I.base.there b o z (by intro m;cases m);obtain⟨o2,z2⟩:=un.there b o1 z1 (by simp);exact l.there b o2 z2
 . exact hu b _ (un.tups b xs (I.base.tups b xs z)) (λe=>nomatch e)
 . exact hu b _ (un.frzs b o u (I.base.frzs b o u z)) (λe=>nomatch e)
 obtain⟨m1,z1⟩:=I.base.tbls b ps z;obtain⟨m2,z2⟩:=un.tbls b _ z1;exact⟨m1++m2,by rw[<- Array.append_assoc];exact hu b _ z2 (λe=>nomatch e)⟩
theorem aP7 (hfr:scope.kind ≠ .module)(hE:∀ a H C od,H a=some (exG false a C od)->E (.ref a) none H->E (.ref a) none (upd H a (exG false a C od))):Kk (CX1 P w) (Zj (CX1 P w) P w K mg base N qual scope f cd A outer s₀ H₀ E) E:=by
 intro pins σ H1 s1 e s' I hq;obtain ⟨a,C,od,H2,rfl,os,bare,un,ok,ha,hn,⟨oe,vs,T,oT,ts,t1,t2,t3,t4,t5,t6,t7,t8,t9⟩,q⟩:=hq
 have hn0:s₀.heap.get? a=none:=by
  cases z:s₀.heap.get? a with
  |none=>rfl
  |some o=>obtain⟨o1,z1⟩:=I.base.there a o z (by intro m;cases m);rw[hn] at z1;cases z1
 have hT0:s₀.heap.get? T=none:=by
  cases z:s₀.heap.get? T with
  |none=>rfl
  |some o=>obtain⟨o1,z1⟩:=I.base.there T o z (by intro m;cases m);rw[t9] at z1;cases z1
 have fun2:s'.heap.FunFrames base (envOfC qual scope s₀.heap.objs.size f cd :: outer):=aa8 I.stack λb hb o ho=>un.any ho (I.stkFree b hb) (by simp);refine ax2 (base:=base) (L:=s₀.heap.objs.size) (I.ok.frames) fun2 rfl t1 t2 t3 t4 t5 t6 t7 λh3 l=>?_;exact aK2 I os bare un ok ha t1 hn0 (λb hb=>by simp at hb;subst hb;exact⟨t8,hT0⟩) l (hE a H2 C od ha q)
theorem Xk {H:Hp}{a:Addr}{o:HO}(h:H a=some o):upd H a o=H:=by
 funext b;unfold upd
 split
 . rename_i e;rw[e,h]
 rfl
theorem an9:Kk (CX1 P w) (Zj (CX1 P w) P w K mg base N qual scope f cd A outer s₀ H₀ E) E:=by intro pins σ H1 s1 e s' I hq;exact aP7 (by have:=I.ok.kind;show scope.kind≠_;rw[show scope.kind = .function from this];decide) (λa H C od h q=>by rw[Xk h];exact q) pins σ H1 s1 e s' I hq
def aa5 (K:W.Frag)(H0:Hp)(E:XK)(x:V)(H1:Hp):Prop:=∃ a C od,x = .ref a/\H1 a=some (exO a C od)/\XC K C/\H0 a=none/\E (.ref a) none (upd H1 a (exG false a C od))
def ao6 (K:W.Frag)(H0:Hp)(E:XK)(t:TE):TS:=λD σ H=>t σ H λx H1=>aa5 K H0 E x H1
theorem Xp {ex:Expr}{t:TE}{pos:Pos}{X:Cx}(hX:X=Zj (CX1 P w) P w K mg base N qual scope f cd A outer s₀ H₀ E)(he:PE X ex t):PS X (.Raise (some ex) none pos) (ao6 K H₀ E t):=by
 subst hX;intro pins s σ H D I h;rw[arm_exec_Raise];refine A00 (A4R ?_);unfold raiseStmt;simp only[evalOpt,Option.map];refine A00 (A00 (thn (he pins s σ H _ I h) λv s1 ⟨x,H1,I1,rx,a,C,od,ex',ha,hc,h0,q⟩=>A00 (A4R (A06 ?_))));subst ex';obtain rfl:v=Value.ref a:=rx;obtain⟨vs,sl,hx,hv⟩:=exO_ok.mp (I1.hok a _ ha);have hv:=hv rfl;obtain⟨nm,qn,N',bs,bm,sn,sub,ab,col,dd,k0,k1,k2,k3,k5,hl,htl⟩:=Va hc.ex;have hC:=I1.kIn _ _ hl;have hcB:(Value.ref C :: bm).contains (.type "BaseException")=true:=by rw[A5L,aq4 (A3O I1.kIn htl),Bool.or_true]
 have fin:(Zj (CX1 P w) P w K mg base N qual scope f cd A outer s₀ H₀ E).xe (.ref a) s1:=by
  refine am3 (base:=base) (L:=s₀.heap.objs.size) I1.ok.frames I1.stack rfl hx rfl hv λh3 l=>?_
  have hn0:s₀.heap.get? a=none:=by
   cases z:s₀.heap.get? a with
   |none=>rfl
   |some o=>have:=I1.base.free a o z h0 (by intro m;cases m);rw[ha] at this;cases this
  exact aK2 I1 rfl I1.bare Un.refl I1.hok ha hx hn0 (by simp) l q
 obtain⟨hh,g,d,tk,os⟩:=s1
 repeat (first | (with_reducible refine A2W hx ?_) | (with_reducible refine A2W hC ?_) | (with_reducible refine A5C hC ?_;rw[hcB]) | (with_reducible refine A1E hx rfl hv ?_) | wp_step)
 exact wpAny_raiseNew_none (I1.ok.hd rfl) fin
end
section
variable {X:Cx}{pins:List (Addr×Obj)}{σ:St}{H:Hp}{s:Shared}
theorem Re {M:Model}{A:Around}{E:Value->Shared->Prop}{i:Nat}{x:Str}{pos:Pos}{Q:Unit->Shared->Prop}(I:Inv X pins σ H s)(hN:X.N.Nodup)(hi:X.N[i]? = some x)(hk:X.env.scope.names.lookup x=some .local)
  (h:∀ s',Inv X pins (σ.set i none) H s'->Q () s'):wpAny M A (do bindName X.env x .none;unbindBehindTheSuite X.env x pos) Q E s:=by
 refine A00 (wpAny_bindName (Jo (v:=.non) (u:=.none) I hN hi (.inl hk) rfl (λs1 I1=>?_) (.inr hk)));unfold unbindBehindTheSuite;refine A5K ?_;obtain⟨m,hn,hl⟩:=id I1.loc;have hcls:(X.env.scope.kind == .class||(X.env.scope.kind == .module&&X.env.locals != X.env.globals))=false:=by rw[I1.ok.kind];rfl
 have hiσ:i<σ.length:=by rw[I.len];exact(A03.mp hi).1
 obtain⟨u,ru,lu⟩:=hl i x .non hi (A3Q hiσ) (.inl hk)
 have hmx:m x=some u:=by
  rcases lu with ⟨_,z⟩|⟨z,_⟩
  . exact z
  have z':X.env.scope.names.lookup x=some .cell\/X.env.scope.names.lookup x=some .free:=z;rw[hk] at z';rcases z' with z'|z'<;>cases z'
 refine wpAny_unbindName_local hk hn hmx hcls λh' w hn' hs=>h _ ?_;obtain⟨oL,_,_,hoL,_⟩:=id hn;have cne:=I1.cne;refine⟨I1.ok,I1.os,I1.bare,⟨λb o e n hb hx=>?_,λb o e n hb hx=>?_,I1.base.free,λb o e hx=>?_,I1.base.tups,I1.base.frzs,I1.base.tbls⟩,⟨_,hn',λj y v' e1 e2 e3=>?_⟩,λy c e=>?_,I1.free,I1.freeC,λp hp=>?_,λb ob e=>?_,by simpa using I.len⟩
 . exact(hs.2 b (A0J (A11 (A08 e) I1.ok.above))).trans (I1.base.keep b o e n hb hx)
 . obtain⟨sl,e1⟩:=I1.base.slot b o e n hb hx;exact⟨sl,(hs.2 b (A0J (A11 (A08 e) I1.ok.above))).trans e1⟩
 . obtain⟨o',e1⟩:=I1.base.there b o e hx;exact⟨o',(hs.2 b (A0J (A11 (A08 e) I1.ok.above))).trans e1⟩
 . by_cases hj:j=i
   . subst hj;rw[A3Q hiσ] at e2
     cases e2
   rw[A2B (Ne.symm hj)] at e2;obtain⟨u',r',q⟩:=hl j y v' e1 (by rw[A2B (Ne.symm hj)];exact e2) e3;refine⟨u',r',?_⟩;rcases q with ⟨k,e⟩|⟨k,c,e,z⟩
   . refine .inl ⟨k,?_⟩;have ne:y≠x:=λe=>hj (Qy hN e1 (e ▸ hi));simp[ne,e]
   exact .inr ⟨k,c,e,z.sameBut hs (cne y c e)⟩
 . obtain⟨w',z⟩:=I1.cell y c e;exact⟨w',z.sameBut hs (cne y c e)⟩
 . obtain⟨e,n,ne,nf,d⟩:=I1.pin p hp;exact⟨(hs.2 p.1 ne).trans e,n,ne,nf,d⟩
 refine(I1.hok b ob e).stay (λc w' hc q=>(hs.2 c ?_).trans q) (λ_ q=>q) λ_ _ q=>q;rintro rfl;rcases hc with hc|hc
 . rw[<- hc] at e;rw[I1.free] at e;cases e
 rw[I1.free] at hc;cases hc
abbrev Cx.tri (X:Cx)(pins:List (Addr×Obj))(E:Value->Shared->Prop):Cx:={X with xe:=E,pn:=X.pn++pins}
abbrev Cx.hnd (X:Cx)(a:Addr)(E:Value->Shared->Prop):Cx:={X with A:=X.A.mark (some (.ref a)),calm:=false,xe:=E}
theorem Inv.tri (I:Inv X pins σ H s)(E:Value->Shared->Prop):Inv (X.tri pins E) [] σ H s:=
 ⟨⟨I.ok.mod,I.ok.kind,I.ok.glob,I.ok.blt,I.ok.above,I.ok.inj,I.ok.has,I.ok.cab,I.ok.hd,I.ok.frames,I.ok.stk,I.ok.exf,I.ok.bs,I.ok.bsz,I.ok.noex,I.ok.exfs,I.ok.funs,I.ok.frf⟩,I.os,I.bare,I.base,I.loc,I.cell,I.free,I.freeC,λp hp=>I.pin p (by simpa using hp),I.hok,I.len⟩
theorem Inv.untri {E:Value->Shared->Prop}{more:List (Addr×Obj)}(I:Inv (X.tri pins E) more σ H s):Inv X pins σ H s:=
 ⟨⟨I.ok.mod,I.ok.kind,I.ok.glob,I.ok.blt,I.ok.above,I.ok.inj,I.ok.has,I.ok.cab,I.ok.hd,I.ok.frames,I.ok.stk,I.ok.exf,I.ok.bs,I.ok.bsz,I.ok.noex,I.ok.exfs,I.ok.funs,I.ok.frf⟩,I.os,I.bare,I.base,I.loc,I.cell,I.free,I.freeC,λp hp=>I.pin p (A0G _ hp),I.hok,I.len⟩
theorem Inv.hnd (I:Inv X pins σ H s)(a:Addr)(E:Value->Shared->Prop):Inv (X.hnd a E) pins σ H s:=
 ⟨⟨I.ok.mod,I.ok.kind,I.ok.glob,I.ok.blt,I.ok.above,I.ok.inj,I.ok.has,I.ok.cab,λz=>Bool.noConfusion z,I.ok.frames,I.ok.stk,I.ok.exf,I.ok.bs,I.ok.bsz,I.ok.noex,I.ok.exfs,I.ok.funs,I.ok.frf⟩,I.os,I.bare,I.base,I.loc,I.cell,I.free,I.freeC,I.pin,I.hok,I.len⟩
theorem Inv.unhnd {a:Addr}{E:Value->Shared->Prop}(hd:X.calm=true->X.A.handled=none)(I:Inv (X.hnd a E) pins σ H s):Inv X pins σ H s:=
 ⟨⟨I.ok.mod,I.ok.kind,I.ok.glob,I.ok.blt,I.ok.above,I.ok.inj,I.ok.has,I.ok.cab,hd,I.ok.frames,I.ok.stk,I.ok.exf,I.ok.bs,I.ok.bsz,I.ok.noex,I.ok.exfs,I.ok.funs,I.ok.frf⟩,I.os,I.bare,I.base,I.loc,I.cell,I.free,I.freeC,I.pin,I.hok,I.len⟩
end
section
variable {M:Model}{A:Around}{E:Value->Shared->Prop}{s:Shared}{K:W.Frag}{C B a:Addr}{oe:Obj}{Q:Bool->Shared->Prop}
theorem ah3 (X:K.In s.heap)(c:XC K C)(b:XC K B)(hm:W.mroIn K C (.ref B)=some true)(he:s.heap.get? a=some oe)(hc:oe.cls = .ref C)(hq:Q true s):wpAny M A (excMatches (.ref a) (.ref B)) Q E s:=by
 obtain⟨nm,qn,N,bs,bm,sn,sub,ab,col,dd,k0,k1,k2,k3,k5,hl,htl⟩:=Va b.ex;have hB:=X _ _ hl;have hcB:(Value.ref B :: bm).contains (.type "BaseException")=true:=by rw[A5L,aq4 (A3O X htl),Bool.or_true]
 have f:=tc_notTuple;have l1:W.Looks M s.heap (isSubtype (.ref C) (.ref B)) true:=A5D X hm;obtain⟨h,g,d,t,os⟩:=s;unfold excMatches
 repeat (first | (with_reducible refine A2W he ?_;rw[hc]) | (with_reducible refine A2W hB ?_) | (with_reducible refine A5C hB ?_;rw[hcB]) | (with_reducible refine l1.at ?_) | wp_step)
 exact hq
end
def tryE (G:Addr->Hp->Prop):XK:=λv _ H'=>∃ a,v = .ref a/\G a H'
section
variable {X:Cx}{pins:List (Addr×Obj)}
theorem SP.untri {E:Value->Shared->Prop}{D:Ends}{f:Flow}{s':Shared}(h:SP (X.tri pins E) [] D f s'):SP X pins D f s':=by
 cases f with
 |next=>obtain⟨σ',H',I,q⟩:=h;exact⟨σ',H',I.untri,q⟩
 |brk=>obtain⟨σ',H',I,q⟩:=h;exact⟨σ',H',I.untri,q⟩
 |cont=>obtain⟨σ',H',I,q⟩:=h;exact⟨σ',H',I.untri,q⟩
 |ret u=>obtain⟨v,σ',H',I,r,q⟩:=h;exact⟨v,σ',H',I.untri,r,q⟩
theorem aA9 {ts:Array Value}(h:ts[3]? = some .none):ts.setIfInBounds 3 .none=ts:=by
 obtain⟨h1,h2⟩:=A2H.mp h;refine Array.ext (by simp) λj j1 j2=>?_;rw[Array.getElem_setIfInBounds]
 split
 . rename_i e;subst e;exact h2.symm
 rfl
end
def ag9 (P:Program)(w:World)(K:W.Frag)(mg:Str->Option Value)(base:Heap)(k:Nat)(x:Str)(ps:List Str)(sp:Sp):Prop:=
 ∃ f fd,FnOk P w K mg base (CX1 P w) k f fd ps sp/\mg x=some (.ref f)/\W.keepIn K (.ref f)=true/\Binds K fd ps []
section
variable {X:Cx}{k:Nat}{x:Str}{ps:List Str}{sp:Sp}{e:Expr}{es:List Expr}{t:TA}{p pos:Pos}{E:XK}
theorem as8 (F:ag9 X.prog X.w X.K X.mg X.base k x ps sp)(hr:Room k X.A)(hg:Gl X x)(hx:Kk (CX1 X.prog X.w) X E)(ha:PA X (e :: es) t)(hdb:(x==("__debug__":Str))=false:=by decide)
  (he:starEach (e :: es) X.env=(false,eval e X.env) :: starEach es X.env:=by ac_nf) (hpl:(backTo pos (starEach es X.env)).any (·.1)=false:=by ac_nf):PE X (.Call (.Name x p) (e :: es) [] pos) (ak2 sp [] E t):=by
 obtain⟨f,fd,h1,h2,h3,h4⟩:=F;exact ac2 h1 hr hg h2 h3 h4 .nil hx ha hdb he hpl
end
section
variable {P:Program}{w:World}{K:W.Frag}{mg:Str->Option Value}{base:Heap}
theorem Fun.ok1 {x qual:Str}{st:Stmt}{f:Addr}{fd:FuncData}{N ps:List Str}{k:Nat}{sp:Sp}(F:Fun K x qual st f fd)(S:Ah N ps (A3 st))(len:∀ vs H Q E,sp vs H Q E->vs.length=ps.length)
  (hbody:∀(cdv:Value) (A:Around) (outer:List Env) (s:Shared) (H:Hp) (vs:List V) (Q:VK) (E:XK),Room k (A.deeper (envOfC qual (A3 st) s.heap.objs.size f cdv))->sp vs H Q E ->
   ∃ t,PSs (Zj (CX1 P w) P w K mg base N qual (A3 st) f cdv A outer s H E) (Aa st) t/\t {nx:=λ_ H'=>Q .non H',rt:=Q} (start N vs) H):FnOk P w K mg base (CX1 P w) (k+1) f fd ps sp:=by
 obtain⟨oc,od,kV,doc,pm,an,cdv,ct,osl,rfl,lk,hcd⟩:=F.ex;exact aJ7 lk hcd S len λA outer s H vs Q E hr hsp=>hbody cdv A outer s H vs Q E hr hsp
end
section
variable {K:W.Frag}{σ:St}{H H0:Hp}{D:Ends}{t:TE}{C a:Addr}{fs:List (Str×V)}{E:XK}
theorem i_sRaise (k:t σ H λx H1=>aa5 K H0 E x H1):ao6 K H0 E t D σ H:=k
theorem av7 (h:ExA H a C fs)(c:XC K C)(h0:H0 a=none)(k:∀ H2,(∀ b o,b≠a->H b=some o->H2 b=some o)->ExB false H2 a C fs->E (.ref a) none H2):aa5 K H0 E (.ref a) H:=by
 have kp:∀ od b o,b≠a->H b=some o->upd H a (exG false a C od) b=some o:=λod b o hb q=>by rw[Az hb];exact q
 rcases h with ⟨e1,h⟩|⟨dx,ne,h,g⟩
 . exact⟨a,C,none,rfl,h,c,h0,k _ (kp _) (.inl ⟨e1,Ad⟩)⟩
 exact⟨a,C,some dx,rfl,h,c,h0,k _ (kp _) (.inr ⟨dx,ne,Ad,kp _ _ _ ne g⟩)⟩
end
section
open Lean
def mWay (s:String):MacroM (TSyntax `tactic):=
 if s == "as" then `(tactic| assumption) else if s == "ar" then `(tactic| with_reducible assumption) else `(tactic| walk_at $(quote s))
def Zk (ts:Array (TSyntax `tactic)):MacroM (TSyntax `tactic):=do
 let ts <- ts.mapM λt=>`(Lean.Parser.Tactic.tacticSeq| $t:tactic)
 `(tactic| first $[| $ts]*)
def mId (s:String):Ident:=mkIdent ((s.splitOn ".").foldl Name.mkStr Name.anonymous)
def mIs (s:String):MacroM Ident:=do return mkIdent (<- Macro.addMacroScope (.mkSimple s))
def Zs:List String->TSyntax `tactic->MacroM (TSyntax `tactic)
 | [],t=>pure t
 |s :: r,t=>do
   match s.splitOn "=" with
   | [x,y]=>let w <- mWay y;let i <- mIs x;Zs r (<- `(tactic| ($t:tactic;(case $i:ident=>$w:tactic))))
   |_=>Zs r t
def mRow (s:String):MacroM (TSyntax `tactic):=do
 match s.splitOn ": " with
 | [h,c]=>
   match h.splitOn " " with
   |f :: as=>
     let xs <- as.toArray.mapM λa=>do if a == "_" then `(?_) else `(?$(<- mIs a))
     let u:=Syntax.mkApp (mId f) xs
     let t <- if as.contains "_" then `(tactic| with_reducible refine' $u) else `(tactic| refine' $u)
     Zs (c.splitOn " ") t
   |_=>Macro.throwUnsupported
 |_=>do
   if s == "as" then `(tactic| assumption)
   else if s == "no" then `(tactic| fail "no")
   else `(tactic| exact $(mId s))
def mRows (s:String):MacroM (TSyntax `tactic):=do Zk (<- (s.splitOn " | ").toArray.mapM mRow)
def mAlts (s:String):MacroM (TSyntax `tactic):=do
 let a <- Zk (<- (s.splitOn " ").toArray.mapM λn=>`(tactic| refine $(mId n) ?_))
 `(tactic| with_reducible $a:tactic)
def mAltG (s:String):MacroM (TSyntax `tactic):=do
 let a <- Zk (<- (s.splitOn " ").toArray.mapM λn=>`(tactic| refine $(mId n) λN hN=>?_))
 `(tactic| with_reducible $a:tactic)
end
section
open PySem
theorem same_refl {H:Hp}:Same H H:=Same.refl _
theorem fz_refl {H:Hp}:Fz H H:=Fz.refl _
theorem ne_none2 {H:Hp}{a b:PySem.Addr}{o:HO}(h:H a=some o)(g:H b=none):b≠a:=Ne.symm (ne_of_none h g)
def Cut (N M:St->Hp->Prop):Prop:=∀ σ H,M σ H->N σ H
section
variable {t u:TS}{te td ty tv:TE}{g:TG}{D:Ends}{σ:St}{H:Hp}
theorem aN0 (k:∀ N:St->Hp->Prop,Cut N (u D)->t {D with nx:=N} σ H):aN7 t u D σ H:=k (u D) λ_ _ h=>h
theorem i_seqAG (k:∀ N:St->Hp->Prop,Cut N (u D)->aC4 te g {D with nx:=N} σ H):aN7 (aC4 te g) u D σ H:=k (u D) λ_ _ h=>h
theorem i_nxS {i:Nat}{rt:VK}{bk ct:St->Hp->Prop}(k:D.nx (σ.set i none) H):Ends.nx {nx:=fun σ2 H2=>D.nx (σ2.set i none) H2,rt:=rt,bk:=bk,ct:=ct} σ H:=k
theorem i_cutN {N M:St->Hp->Prop}(h:Cut N M)(k:M σ H):N σ H:=h _ _ k
end
theorem aD1 {α:Type}{P:List α->Prop}{us:List α}(hl:us.length=0)(h:P []):P us:=by rw[A1A.mp hl];exact h
theorem ar7 {α:Type}{P:List α->Prop}{us:List α}(hl:us.length=1)(h:∀ a0:α,P [a0]):P us:=by
 cases us with
 |nil=>cases hl
 |cons a r=>exact aD1 (P:=λr=>P (a :: r)) (Nat.succ.inj hl) (h a)
theorem aq6 {α:Type}{P:List α->Prop}{us:List α}(hl:us.length=2)(h:∀ a0 a1:α,P [a0,a1]):P us:=by
 cases us with
 |nil=>cases hl
 |cons a r=>exact ar7 (P:=λr=>P (a :: r)) (Nat.succ.inj hl) (h a)
theorem aK1 {α:Type}{P:List α->Prop}{us:List α}(hl:us.length=3)(h:∀ a0 a1 a2:α,P [a0,a1,a2]):P us:=by
 cases us with
 |nil=>cases hl
 |cons a r=>exact aq6 (P:=λr=>P (a :: r)) (Nat.succ.inj hl) (h a)
end
section
variable {K:W.Frag}{x qual:Str}{st:Stmt}{f:Addr}{fd:FuncData}
theorem Es {p0:Str}(F:Fun K x qual st f fd)(h:∀(kV doc pm:Value) (an:Option Addr) (cdv ct:Value) (u0:Value),bindArgs (W.fnOf x qual (Ab st) (Aa st) (A3 st) .none kV doc pm an cdv ct) ⟨[u0],[]⟩=pure (([p0]:List Str).zip [u0])):Binds K fd [p0] []:=
 F.binds λkV doc pm an cdv ct us hl=>ar7 (P:=λus=>bindArgs (W.fnOf x qual (Ab st) (Aa st) (A3 st) .none kV doc pm an cdv ct) ⟨us,[]⟩=pure (([p0]:List Str).zip us)) hl (h kV doc pm an cdv ct)
theorem C6 {p0 p1:Str}(F:Fun K x qual st f fd)(h:∀(kV doc pm:Value) (an:Option Addr) (cdv ct:Value) (u0 u1:Value),bindArgs (W.fnOf x qual (Ab st) (Aa st) (A3 st) .none kV doc pm an cdv ct) ⟨[u0,u1],[]⟩=pure (([p0,p1]:List Str).zip [u0,u1])):Binds K fd [p0,p1] []:=
 F.binds λkV doc pm an cdv ct us hl=>aq6 (P:=λus=>bindArgs (W.fnOf x qual (Ab st) (Aa st) (A3 st) .none kV doc pm an cdv ct) ⟨us,[]⟩=pure (([p0,p1]:List Str).zip us)) hl (h kV doc pm an cdv ct)
theorem Mo {p0 p1 p2:Str}(F:Fun K x qual st f fd)(h:∀(kV doc pm:Value) (an:Option Addr) (cdv ct:Value) (u0 u1 u2:Value),bindArgs (W.fnOf x qual (Ab st) (Aa st) (A3 st) .none kV doc pm an cdv ct) ⟨[u0,u1,u2],[]⟩=pure (([p0,p1,p2]:List Str).zip [u0,u1,u2])):Binds K fd [p0,p1,p2] []:=
 F.binds λkV doc pm an cdv ct us hl=>aK1 (P:=λus=>bindArgs (W.fnOf x qual (Ab st) (Aa st) (A3 st) .none kV doc pm an cdv ct) ⟨us,[]⟩=pure (([p0,p1,p2]:List Str).zip us)) hl (h kV doc pm an cdv ct)
end
section
open PySem.SeqAt PySem.MeetsSeq
variable {A:Around}{s:Shared}
end
section
variable {prog:Program}{w:World}{A:Around}{E:Value->Shared->Prop}{s:Shared}
set_option maxRecDepth 100000 in
end
section
variable {X:Cx}{pos p2:Pos}
end
section
variable {P:Program}{w:World}{A:Around}{E:Value->Shared->Prop}{z:Shared}
end
section
variable {X:Cx}{K:W.Frag}
end
section
variable {K:W.Frag}{H:Hp}{Q:VK}
end
section
variable {X:Cx}{pins:List (Addr×Obj)}{σ:St}{H:Hp}{s:Shared}
end
section
variable {X:Cx}{K:W.Frag}
end
section
variable {prog:Program}{w:World}{A:Around}{E:Value->Shared->Prop}{s:Shared}
end
section
variable {P:Program}{w:World}{A:Around}{R:Result->Shared->Prop}{it:Addr}{fp wr:List Addr}{G:Array GenState->Array GenState->Prop}{n:Nat}{PV:Nat->Value->Prop}{St:Nat->Shared->Prop}
end
section
variable {prog:Program}{w:World}{A:Around}{E:Value->Shared->Prop}{s:Shared}
set_option maxHeartbeats 3200000 in
end
section
variable {X:Cx}{K:W.Frag}
end
end L2
namespace L2
open PySem PySem.Spec PyProof.Rows
open Builtin
section
variable {X:Cx}{K:W.Frag}
end
end L2
namespace L2
open PySem PySem.Spec PyProof.Rows
section
variable {P:Program}{w:World}{K:W.Frag}{mg:Str->Option Value}{base:Heap}{k:Nat}{f:Addr}{fd:FuncData}{ps:List Str}{sp sp':Sp}
end
section
variable {P:Program}{w:World}{A:Around}{E:Value->Shared->Prop}{z:Shared}
end
section
variable {X:Cx}{K:W.Frag}
end
section
variable {K:W.Frag}{σ:St}{H:Hp}{Q:VK}
end
section
variable {X:Cx}{K:W.Frag}{H:Hp}{Q:VK}
end
section
variable {X:Cx}{K:W.Frag}
end
section
variable {α:Type}[DecidableEq α]
end
section
variable {X:Cx}{pins:List (Addr×Obj)}{σ:List (Option V)}{H:Hp}{s:Shared}{h':Heap}
variable {K:W.Frag}
end
section
variable {α:Type}[DecidableEq α]
def R9 (b:α->α->Bool):α->α->Bool:=λx y=>b y x
theorem aB9 {b:α->α->Bool}{r:List α}:okR (R9 b) r↔okR b r.reverse:=by
 unfold okR R9;rw[List.pairwise_reverse];constructor
 . rintro⟨h1,h2⟩;exact⟨λu hu=>h1 u (List.mem_reverse.mp hu),h2⟩
 rintro⟨h1,h2⟩;exact⟨λu hu=>h1 u (List.mem_reverse.mpr hu),h2⟩
theorem ag7 {b:α->α->Bool}{L r:List α}(hn:L.Nodup):r∈ext (R9 b) L.length L↔r.reverse∈ext b L.length L:=by rw[Dl _ _ _ _ hn rfl,Dl _ _ _ _ hn rfl,aB9];exact and_congr_left λ_=>⟨λh=>(List.reverse_perm r).trans h,λh=>(List.reverse_perm r).symm.trans h⟩
theorem aj0 {b:α->α->Bool}{L:List α}(hn:L.Nodup):(ext (R9 b) L.length L).Perm ((ext b L.length L).map List.reverse):=by have hm:((ext b L.length L).map List.reverse).Nodup:=List.Pairwise.map _ (λx y h e=>h (by rw[<- A44 x,e,A44])) (Dr b _ _ hn);refine(A2I (Dr _ _ _ hn) hm).mpr λr=>?_;rw[ag7 hn,A0A];exact⟨λh=>⟨_,h,A44 r⟩,λ⟨q,hq,e⟩=>by rw[<- e,A44];exact hq⟩
theorem Ma {b:α->α->Bool}{L:List α}(hn:L.Nodup):cnt (R9 b) L=cnt b L:=by unfold cnt;rw[(aj0 hn).length_eq,A01]
theorem an7 {b:α->α->Bool}{L:List α}(hn:L.Nodup)(hne:L≠[]):cnt b L=((L.filter λx=>!(L.any λy=>b x y)).map λx=>cnt b (Ao L x)).sum:=by rw[<- Ma hn,Iv hn hne];have e:frF (R9 b) L=L.filter λx=>!(L.any λy=>b x y):=rfl;rw[e];congr 1;exact A1I λx _=>Ma (B8 hn x)
theorem Xa {p:α->Bool}:∀ {r:List α},r.Pairwise (λu v=>¬ (p u=false/\p v=true))->r=r.filter p++r.filter λx=>!p x
 | [],_=>rfl
 |a :: r,h=>by
   obtain⟨h1,h2⟩:=A4F.mp h;have ih:=Xa h2
   cases ha:p a with
   |true=>rw[List.filter_cons_of_pos ha,List.filter_cons_of_neg (by simp[ha]),List.cons_append,<- ih]
   |false=>
     have hno:r.filter p=[]:=by rw[A2G];intro v hv hp;exact h1 v hv ⟨ha,hp⟩
     rw[List.filter_cons_of_neg (by simp[ha]),List.filter_cons_of_pos (by simp[ha]),hno,List.nil_append];rw[hno,A49] at ih;rw[<- ih]
theorem Lx {A B r:List α}(hp:r.Perm (A++B))(hn:(A++B).Nodup):(r.filter λx=>decide (x∈A)).Perm A/\(r.filter λx=>!decide (x∈A)).Perm B:=by
 obtain⟨hA,hB,hAB⟩:=A16.mp hn;have hrn:r.Nodup:=hp.nodup_iff.mpr hn;constructor
 . refine(A2I (A1Q A1O hrn) hA).mpr λx=>?_;rw[A0N,hp.mem_iff,A0I];exact⟨λh=>A4N h.2,λh=>⟨.inl h,A0S h⟩⟩
 refine(A2I (A1Q A1O hrn) hB).mpr λx=>?_;rw[A0N,hp.mem_iff,A0I];constructor
 . rintro⟨h1,h2⟩;have h2:x∉A:=by simpa using h2
   exact h1.resolve_left h2
 exact λh=>⟨.inr h,by have:x∉A:=λg=>hAB x g x h rfl;simp[this]⟩
theorem T0 {b:α->α->Bool}{A B:List α}(hn:(A++B).Nodup)(h:∀ x∈A,∀ y∈B,b x y=true/\b y x=false) :
  (ext b (A++B).length (A++B)).Perm ((ext b A.length A).flatMap λr=>(ext b B.length B).map λq=>r++q):=by
 obtain⟨hA,hB,hAB⟩:=A16.mp hn;have mA:∀ r,r∈ext b A.length A↔r.Perm A/\okR b r:=λr=>Dl _ _ _ _ hA rfl;have mB:∀ r,r∈ext b B.length B↔r.Perm B/\okR b r:=λr=>Dl _ _ _ _ hB rfl;have inj:∀ {r r' q q':List α},r.Perm A->r'.Perm A->r++q=r'++q'->r=r'/\q=q':=fun {r r' q q'} h1 h2 e=>List.append_inj e (by rw[h1.length_eq,h2.length_eq])
 have nd:((ext b A.length A).flatMap λr=>(ext b B.length B).map λq=>r++q).Nodup:=by
  have gen:∀ l:List (List α),l.Nodup->(∀ r∈l,r.Perm A)->(l.flatMap λr=>(ext b B.length B).map λq=>r++q).Nodup:=λl=>by
   induction l with
   |nil=>intro _ _;exact .nil
   |cons r l ih=>intro hl hm;obtain⟨n1,n2⟩:=A0U.mp hl;rw[A1W,A16];refine⟨List.Pairwise.map _ (λx y hxy e=>hxy (List.append_cancel_left e)) (Dr b _ _ hB),ih n2 λq hq=>hm q (.tail _ hq),λx hx y hy e=>?_⟩;obtain⟨q,_,rfl⟩:=A0A.mp hx;obtain⟨r',hr',hy⟩:=A2L.mp hy;obtain⟨q',_,rfl⟩:=A0A.mp hy;have:=(inj (hm r (.head _)) (hm r' (.tail _ hr')) e).1;exact n1 (this ▸ hr')
  exact gen _ (Dr b _ _ hA) λr hr=>((mA r).mp hr).1
 refine(A2I (Dr _ _ _ hn) nd).mpr λr=>?_;rw[Dl _ _ _ _ hn rfl,A2L];constructor
 . rintro⟨hp,ho⟩;obtain⟨p1,p2⟩:=Lx hp hn
   have hs:=Xa (p:=λx=>decide (x∈A)) (ho.2.imp_of_mem fun {u v} hu hv huv ⟨h1,h2⟩=>by
    have h1:u∉A:=by simpa using h1
    have h2:v∈A:=by simpa using h2
    have huB:u∈B:=(A0I.mp (hp.mem_iff.mp hu)).resolve_left h1;rw[(h v h2 u huB).1] at huv
    cases huv)
   refine⟨r.filter λx=>decide (x∈A),(mA _).mpr ⟨p1,λu hu=>ho.1 u (A0N.mp hu).1,List.Pairwise.sublist A1O ho.2⟩,A0A.mpr ⟨r.filter λx=>!decide (x∈A),(mB _).mpr ⟨p2,λu hu=>ho.1 u (A0N.mp hu).1,List.Pairwise.sublist A1O ho.2⟩,hs.symm⟩⟩
 rintro⟨r1,h1,h2⟩;obtain⟨r2,h3,rfl⟩:=A0A.mp h2;obtain⟨p1,o1⟩:=(mA _).mp h1;obtain ⟨p2,o2⟩:=(mB _).mp h3;refine⟨p1.append p2,λu hu=>(A0I.mp hu).elim (o1.1 u) (o2.1 u),List.pairwise_append.mpr ⟨o1.2,o2.2,λu hu v hv=>(h u (p1.mem_iff.mp hu) v (p2.mem_iff.mp hv)).2⟩⟩
theorem Oc {P:List α->Bool}{p:List α->Bool}{M:List (List α)}:∀ {l:List (List α)},(∀ r∈l,∀ q∈M,P (r++q)=p r)->((l.flatMap λr=>M.map λq=>r++q).filter P).length=(l.filter p).length*M.length
 | [],_=>by simp
 |r :: l,h=>by
   have ih:=Oc (P:=P) (p:=p) (M:=M) (l:=l) λr' hr'=>h r' (.tail _ hr');rw[A1W,A1N,A0C,ih]
   have h1:((M.map λq=>r++q).filter P).length=if p r=true then M.length else 0:=by
    cases hp:p r with
    |true=>rw[A5B.mpr (λx hx=>by obtain⟨q,hq,rfl⟩:=A0A.mp hx;rw[h r (.head _) q hq,hp]),A01,A15 rfl]
    |false=>rw[A2G.mpr (λx hx=>by obtain⟨q,hq,rfl⟩:=A0A.mp hx;rw[h r (.head _) q hq,hp];exact A0K),A10 A0K];rfl
   rw[h1]
   cases hp:p r with
   |true=>rw[A15 rfl,List.filter_cons_of_pos hp,A0E,Nat.succ_mul];omega
   |false=>rw[if_neg Bool.false_ne_true,List.filter_cons_of_neg (by simp[hp])];omega
theorem Vm {b:α->α->Bool}{A B:List α}(hn:(A++B).Nodup)(h:∀ x∈A,∀ y∈B,b x y=true/\b y x=false){x y:α}(hx:x∈A)(hy:y∈A) :
  ((ext b (A++B).length (A++B)).filter λr=>decide (r.idxOf x<r.idxOf y)).length=((ext b A.length A).filter λr=>decide (r.idxOf x<r.idxOf y)).length*cnt b B:=by
 rw[((T0 hn h).filter _).length_eq];refine Oc λr hr q _=>?_;have hp:=((Dl _ _ _ _ (A16.mp hn).1 rfl).mp hr).1;rw[List.idxOf_append,List.idxOf_append,A15 (hp.mem_iff.mpr hx),A15 (hp.mem_iff.mpr hy)]
theorem Xr {f:List α->Nat}{g:List α->Nat}{M:List (List α)}{c:Nat}:∀ {l:List (List α)},(∀ r∈l,∀ q∈M,f (r++q)=c+g q)->((l.flatMap λr=>M.map λq=>r++q).map f).sum=l.length*(c*M.length+(M.map g).sum)
 | [],_=>by simp
 |r :: l,h=>by
   have ih:=Xr (f:=f) (g:=g) (M:=M) (c:=c) (l:=l) λr' hr'=>h r' (.tail _ hr');rw [A1W,A0M,A55,ih,A0E,Nat.succ_mul]
   have h1:∀ M':List (List α),(∀ q∈M',f (r++q)=c+g q)->((M'.map λq=>r++q).map f).sum=c*M'.length+(M'.map g).sum:=λM'=>by
    induction M' with
    |nil=>intro _;rfl
    |cons q M' ihM=>intro hm;have:=ihM λq' hq'=>hm q' (.tail _ hq');simp only[List.map_cons,List.sum_cons,List.length_cons,hm q (.head _),Nat.mul_add] at this ⊢;omega
   rw[h1 M λq hq=>h r (.head _) q hq];omega
end
theorem Zo {b:Str->Str->Bool}{A B:List Str}(hn:(A++B).Nodup)(h:∀ x∈A,∀ y∈B,b x y=true/\b y x=false){nm:Str}(hm:nm∈B):hgt b nm (A++B)=(hgt b nm B+A.length*cnt b B)*cnt b A:=by
 obtain⟨hA,hB,hAB⟩:=A16.mp hn;rw[Y7 hn (A0Q _ hm),Y7 hB hm,al9 ((T0 hn h).map _),Xr (c:=A.length) (g:=λq=>q.idxOf nm) λr hr q _=>?_]
 . show cnt b A*(A.length*cnt b B+_)=_;rw[A3X,Nat.add_comm]
 have hp:=((Dl _ _ _ _ hA rfl).mp hr).1;have hno:nm∉r:=λg=>hAB nm (hp.mem_iff.mp g) nm hm rfl;rw[List.idxOf_append,A10 hno,hp.length_eq];omega
section
variable {α:Type}[DecidableEq α]
def aF3 (b:α->α->Bool)(x y:α):α->α->Bool:=λu v=>b u v||(decide (u=x)&&decide (v=y))
theorem a75 {a z:α}(r:List α)(h:¬ a=z):(a :: r).idxOf z=r.idxOf z+1:=by
 have e:(a==z)=false:=by simp[h]
 rw[List.idxOf_cons,e];rfl
theorem ap8 {r:List α}(hn:r.Nodup){x y:α}(hx:x∈r)(hy:y∈r)(hxy:x≠y):r.idxOf x<r.idxOf y↔r.Pairwise λu v=>¬ (u=y/\v=x):=by
 induction r with
 |nil=>cases hx
 |cons a r ih=>
   obtain⟨h1,h2⟩:=A0U.mp hn;rw[A4F]
   by_cases hax:a=x
   . subst hax;have hya:¬ a=y:=hxy;rw[List.idxOf_cons_self,a75 _ hya];refine⟨λ_=>⟨λv _ ⟨e,_⟩=>hxy e,List.pairwise_iff_forall_sublist.mpr fun {u v} hs ⟨_,e⟩=>h1 (e ▸ hs.subset (by simp))⟩,λ_=>Nat.succ_pos _⟩
   have hxr:x∈r:=(A0F.mp hx).resolve_left λe=>hax e.symm
   by_cases hay:a=y
   . subst hay;rw[List.idxOf_cons_self];exact⟨λh=>absurd h (Nat.not_lt_zero _),λh=>absurd ⟨rfl,rfl⟩ (h.1 x hxr)⟩
   have hyr:y∈r:=(A0F.mp hy).resolve_left λe=>hay e.symm;rw[a75 _ hax,a75 _ hay,Nat.add_lt_add_iff_right,ih h2 hxr hyr];exact⟨λh=>⟨λv _ ⟨e,_⟩=>hay e,h⟩,λh=>h.2⟩
theorem ab2 {b:α->α->Bool}{L:List α}(hn:L.Nodup){x y:α}(hx:x∈L)(hy:y∈L)(hxy:x≠y):cnt (aF3 b x y) L=((ext b L.length L).filter λr=>decide (r.idxOf x<r.idxOf y)).length:=by
 unfold cnt;refine List.Perm.length_eq ((A2I (Dr _ _ _ hn) (A1Q A1O (Dr _ _ _ hn))).mpr λr=>?_);rw[A0N,Dl _ _ _ _ hn rfl,Dl _ _ _ _ hn rfl,decide_eq_true_eq]
 have split:∀ u v,aF3 b x y u v=false↔b u v=false/\¬ (u=x/\v=y):=λu v=>by
  unfold aF3
  cases b u v<;>simp
 constructor
 . rintro⟨hp,o1,o2⟩;have hrn:r.Nodup:=hp.nodup_iff.mpr hn;refine⟨⟨hp,λu hu=>((split u u).mp (o1 u hu)).1,o2.imp λh=>((split _ _).mp h).1⟩,(ap8 hrn (hp.mem_iff.mpr hx) (hp.mem_iff.mpr hy) hxy).mpr (o2.imp λh=>?_)⟩;exact λ⟨e1,e2⟩=>((split _ _).mp h).2 ⟨e2,e1⟩
 rintro⟨⟨hp,o1,o2⟩,h⟩;have hrn:r.Nodup:=hp.nodup_iff.mpr hn;have h':=(ap8 hrn (hp.mem_iff.mpr hx) (hp.mem_iff.mpr hy) hxy).mp h;refine⟨hp,λu hu=>(split u u).mpr ⟨o1 u hu,λ⟨e1,e2⟩=>hxy (e1.symm.trans e2)⟩,(o2.and h').imp λ⟨h1,h2⟩=>(split _ _).mpr ⟨h1,λ⟨e1,e2⟩=>h2 ⟨e2,e1⟩⟩⟩
theorem Uw {b:α->α->Bool}{A B:List α}(hn:(A++B).Nodup)(h:∀ x∈A,∀ y∈B,b x y=false/\b y x=false){x y:α}(hx:x∈A)(hy:y∈A)(hxy:x≠y) :
  ((ext b (A++B).length (A++B)).filter λr=>decide (r.idxOf x<r.idxOf y)).length=Kx A.length B.length*(((ext b A.length A).filter λr=>decide (r.idxOf x<r.idxOf y)).length*cnt b B):=by
 obtain⟨hA,hB,hAB⟩:=A16.mp hn;have nB:∀ {z:α},z∈B->z≠x/\z≠y:=fun {z} hz=>⟨λe=>hAB x hx z hz e.symm,λe=>hAB y hy z hz e.symm⟩;rw[<- ab2 hn (A0G _ hx) (A0G _ hy) hxy,Ji _ rfl hn λu hu v hv=>?_,ab2 hA hx hy hxy]
 . congr 2;refine Fl _ rfl hB λu hu v hv=>?_;unfold aF3;simp[(nB hu).1]
 obtain⟨h1,h2⟩:=h u hu v hv;unfold aF3;simp[h1,h2,(nB hv).1,(nB hv).2]
variable {β:Type}[DecidableEq β]
theorem Nc {γ δ:Type}{g h:γ->List δ}:∀ {l:List γ},(∀ x∈l,g x=h x)->l.flatMap g=l.flatMap h
 | [],_=>rfl
 |x :: xs,k=>by rw[List.flatMap_cons,List.flatMap_cons,k x (by simp),Nc λy hy=>k y (by simp[hy])]
theorem Z5 {f:α->β}{L:List α}(hf:∀ x∈L,∀ y∈L,f x=f y->x=y){x:α}(hx:x∈L):Ao (L.map f) (f x)=(Ao L x).map f:=by
 unfold Ao;rw[List.filter_map];congr 1;apply A1C;intro y hy;show(!decide (f y=f x))=_
 by_cases e:y=x
 . rw[e];simp
 have:¬ f y=f x:=λq=>e (hf y hy x hx q);simp[e,this]
theorem am0 {f:α->β}{b:β->β->Bool}(L:List α):frF b (L.map f)=(frF (λx y=>b (f x) (f y)) L).map f:=by unfold frF;rw[List.filter_map];congr 1;apply A1C;intro y _;show(!((L.map f).any λz=>b z (f y)))=_;rw [List.any_map];rfl
theorem Wo {f:α->β}{b:β->β->Bool}:∀(n:Nat) (L:List α),(∀ x∈L,∀ y∈L,f x=f y->x=y)->ext b n (L.map f)=(ext (λx y=>b (f x) (f y)) n L).map (List.map f)
 |0,L,_=>rfl
 |n+1,L,hf=>by show(frF b (L.map f)).flatMap _=((frF _ L).flatMap _).map _;rw[am0,List.flatMap_map,List.map_flatMap];apply Nc;intro x hx;have hxL:=(mem_frF.mp hx).1;rw[Z5 hf hxL,Wo n (Ao L x) λu hu v hv=>hf u (mem_lessF.mp hu).1 v (mem_lessF.mp hv).1];rw[A18,A18];rfl
theorem at5 {f:α->β}{b:β->β->Bool}{L:List α}(hf:∀ x∈L,∀ y∈L,f x=f y->x=y):cnt b (L.map f)=cnt (λx y=>b (f x) (f y)) L:=by unfold cnt;rw[A01,Wo _ _ hf,A01]
end
def ae7 (CX:CXT)(X:Cx)(E:St->XK):Prop:=∀(pins:List (Addr×Obj)) (σ:St) (H:Hp) (s:Shared) (e:Value) (s':Shared),Inv X pins σ H s->CX X.stack H s (E σ) e s'->X.xe e s'
def ao2 (sp:Sp)(E:St->XK)(t:TA):TE:=fun σ H Q=>t σ H λvs H1=>sp vs H1 Q (E σ)
theorem i_callS {sp:Sp}{E:St->XK}{t:TA}{σ:St}{H:Hp}{Q:VK}(k:t σ H λvs H1=>sp vs H1 Q (E σ)):ao2 sp E t σ H Q:=k
theorem i_par {i j:Nat}{ta:TA}{D:Ends}{σ:St}{H:Hp}(k:ta σ H λvs H1=>∃ v w,vs=[v,w]/\D.nx ((σ.set i (some v)).set j (some w)) H1):aR8 i j ta D σ H:=k
def aO8 (K:W.Frag)(len i:Nat)(B:Addr)(G:St->Hp->St->Addr->Hp->Prop)(tb:St->Hp->TS)(th:TS):TS:=λD σ H=>tb σ H D σ H/\∀(a:Addr) (H':Hp) (σ':St),σ'.length=len->G σ H σ' a H' ->
 (∃ C od,H' a=some (exG false a C od)/\XC K C/\W.mroIn K C (.ref B)=some true) /\
  th {nx:=fun σ2 H2=>D.nx (σ2.set i none) H2,rt:=D.rt,bk:=fun σ2 H2=>D.bk (σ2.set i none) H2,ct:=fun σ2 H2=>D.ct (σ2.set i none) H2} (σ'.set i (some (.ref a))) H'
section
variable {X:Cx}{k:Nat}{x:Str}{ps:List Str}{sp:Sp}{e:Expr}{es:List Expr}{t:TA}{p pos:Pos}{E:St->XK}
theorem ao8 (F:ag9 X.prog X.w X.K X.mg X.base k x ps sp)(hr:Room k X.A)(hg:Gl X x)(hx:ae7 (CX1 X.prog X.w) X E)(ha:PA X (e :: es) t)(hdb:(x==("__debug__":Str))=false:=by decide)
  (he:starEach (e :: es) X.env=(false,eval e X.env) :: starEach es X.env:=by ac_nf) (hpl:(backTo pos (starEach es X.env)).any (·.1)=false:=by ac_nf):PE X (.Call (.Name x p) (e :: es) [] pos) (ao2 sp E t):=by
 obtain⟨f,fd,G,h2,h3,h4⟩:=F;intro pins s σ H Q I h;refine A1X (Ky I hg h2 ?_ hdb);refine A3J (h₀:=X.base) I.ok.mod.kin h3 (thn (ha pos pins s σ H _ I h) λus s1 ⟨vs,H1,I1,r,q⟩=>⟨I1.kIn,?_⟩) he hpl;have hl:us.length=ps.length:=by rw[<- r.length];exact G.len _ _ _ _ q
 have hb:=h4 s1 us I1.kIn (by rw[A1Z];exact hl);rw [A1Z] at hb;refine A4J (A3G (G.run X.A X.stack s1 H1 ⟨us,[]⟩ us vs Q (E σ) hr I1.env0 hb r q) λr s' hq=>?_)
 cases r with
 |error e=>exact hx pins σ H1 s1 e s' I1 hq
 |ok fl=>
   cases fl with
   |ret u=>exact I1.after hq
   |next=>exact False.elim hq
   |brk=>exact False.elim hq
   |cont=>exact False.elim hq
end
section
variable {X:Cx}{pins:List (Addr×Obj)}
theorem av6 {body suite:List Stmt}{b0:Stmt}{tb:St->Hp->TS}{th:TS}{n bx:Str}{i:Nat}{B:Addr}{p1 p2 pos:Pos}(G:St->Hp->St->Addr->Hp->Prop)(hN:X.N.Nodup)(hi:X.N[i]? = some n)(hk:X.env.scope.names.lookup n=some .local)(hg:Gl X bx)(hm:X.mg bx=some (.ref B))(hB:XC X.K B)
  (hst:X.stack=X.env :: X.outer) (hf:X.env.frame=some X.env.locals) (hex:X.ex=[])
  (hb:∀ σ0 H0 ps xe,ae7 (CX1 X.prog X.w) (X.tri ps xe) (fun σ=>tryE (G σ0 H0 σ))->PSs (X.tri ps xe) body (tb σ0 H0)) (hs:∀ a xe,PSs (X.hnd a xe) (b0 :: suite) th) (hd:(bx==("__debug__":Str))=false:=by decide) :
  PS X (.Try body [.ExceptHandler (some (.Name bx p1)) (some n) (b0 :: suite) p2] [] [] pos) (aO8 X.K X.N.length i B G tb th):=by
 intro pins s σ H D I h;refine wpAny_Try_except ?_;refine A2D (hb σ H pins _ ?_ [] s σ H D (I.tri _) h.1) (λf s1 hs1=>?_) λe s1 he=>he
 . intro pins2 σ2 H2 s2 e s3 I2 hq;obtain⟨a,C',od',H3,rfl,os,bare,un,ok,ha',hn,⟨oe,vs,T,oT,ts,t1,t2,t3,t4,t5,t6,t7,t8,t9⟩,a',ea,q⟩:=hq
   cases ea;have J2:Inv X pins σ2 H2 s2:=I2.untri;obtain⟨⟨C,od,ha,hc,hmro⟩,q3⟩:=h.2 a H3 σ2 (by rw[J2.len]) q;have un':Un (frs X.stack) [] H2 H3 s2.heap s3.heap:=un
   have fun3:s3.heap.FunFrames X.base (X.env :: X.outer):=by have:=aa8 (h':=s3.heap) J2.stack λb hb o ho=>un'.any ho (J2.stkFree b hb) (by simp);rwa[hst] at this
   have fr3:∀ b∈frs X.stack,H3 b=none:=λb hb=>by obtain⟨_,o,ho,_⟩:=J2.stack.mem hb;exact un'.free b o ho (J2.stkFree b hb) (by simp)
   refine X8 (base:=X.base) (L:=X.env.locals) (by have:=J2.ok.frames;rwa[hst] at this) fun3 hf t1 t2 t3 t4 t5 t6 t7 λh4 l=>?_;rw[<- hst] at l
   have ok4:HOk X.prog X.w H3 h4:=by have:=l.hok ok t1 ha fr3 (λb hb=>by simp at hb;subst hb;exact t8);rwa[Xk ha] at this
   have un4:Un (frs X.stack) [] H2 H3 s2.heap h4:=by
    have na:∀ b o,s2.heap.get? b=some o->b≠a:=λb o z e=>by rw[e,hn] at z;cases z
    have nT:∀ b o,s2.heap.get? b=some o->b∉[T]:=λb o z e=>by simp at e;rw[e,t9] at z;cases z
    refine⟨λb o z nz hb hx=>l.keep b o hb (na b o z) (nT b o z) (un'.keep b o z nz hb hx),λb o z nz hb hx=>?_,un'.free,λb o z hx=>?_,un'.tups,un'.frzs,un'.tbls⟩
    . obtain⟨sl,z1⟩:=un'.slot b o z nz hb hx;obtain⟨sl2,z2⟩:=l.slot b _ hb z1;exact⟨sl2,z2⟩
    obtain⟨o1,z1⟩:=un'.there b o z hx;exact l.there b o1 z1
   have I4:Inv X pins σ2 H3 {s3 with heap:=h4}:=J2.call' (s':={s3 with heap:=h4}) (ch:=[]) os un4 ok4 bare (λb z=>absurd z (by simp))
   obtain⟨us,sl4,he4,_⟩:=exG_ok.mp (ok4 a _ ha);obtain⟨oe',vs',T',oT',ts',q1,q2,q3',q4,q5,q6,q7,q8,q9,q10,q11⟩:=l.tr;have hd4:X.calm=true->X.A.handled=none:=I.ok.hd;refine wpAny_handleBy_cons (codeAny_handlers_test ?_) (by intro q;cases q);refine Ky (X:=X.hnd a λ_ _=>False) (I4.hnd a _) hg hm ?_ hd;refine ah3 (s:={s3 with heap:=h4}) I4.kIn hc hB hmro he4 rfl ?_
   refine codeAny_handlers_suite_as ?_;have hz:3<ts'.size:=(A2H.mp q11).1;refine wpAny_setFlight_none q1 q5 q6 q9 q10 hz ?_
   have same:∀ b u,h4.get? b=some u->(h4.update T' (Obj.mapFields (·.setIfInBounds 3 .none))).get? b=some u:=λb u z=>by
    by_cases e:b=T'
    . subst e;rw[q9] at z;cases z;rw[A29 _ q9 (A40 (A4E q10 _))];obtain⟨c1,d1,dt1,s1'⟩:=oT';dsimp only at q10;subst q10;refine congrArg some ?_;show Obj.mk c1 d1 (Data.fields (ts'.setIfInBounds 3 .none)) s1'=_;rw[aA9 q11]
    rw[A1J _ _ (Ne.symm e)];exact z
   have I5:Inv X pins σ2 H3 {s3 with heap:=h4.update T' (Obj.mapFields (·.setIfInBounds 3 .none))}:=I4.kept (t':=s3.toks) same
   refine Jo (X:=X) (v:=.ref a) I5 hN hi (.inl hk) rfl (λs6 I6=>?_) (.inr hk);refine thn (hs a _ pins s6 _ H3 _ (I6.hnd a _) q3) λf s7 h7=>?_
   cases f with
   |next=>obtain⟨σ7,H7,I7,q7'⟩:=h7;exact Re (I7.unhnd hd4) hN hi hk λs8 I8=>⟨_,_,I8,q7'⟩
   |brk=>obtain⟨σ7,H7,I7,q7'⟩:=h7;exact Re (I7.unhnd hd4) hN hi hk λs8 I8=>⟨_,_,I8,q7'⟩
   |cont=>obtain⟨σ7,H7,I7,q7'⟩:=h7;exact Re (I7.unhnd hd4) hN hi hk λs8 I8=>⟨_,_,I8,q7'⟩
   |ret u=>obtain⟨v,σ7,H7,I7,r7,q7'⟩:=h7;exact Re (I7.unhnd hd4) hN hi hk λs8 I8=>⟨v,_,_,I8,r7,q7'⟩
 have hs1:=hs1.untri
 cases f with
 |next=>exact A06 hs1
 |brk=>exact hs1
 |cont=>exact hs1
 |ret u=>exact hs1
end
section
variable {α:Type}[DecidableEq α]
theorem Lj {b c:α->α->Bool}:∀(n:Nat) {L:List α},(∀ x∈L,∀ y∈L,b x y=c x y)->ext b n L=ext c n L
 |0,L,_=>by simp only[ext]
 |n+1,L,h=>by simp only[ext];rw[T9 h];refine Nc λx _=>?_;rw[Lj n λy hy z hz=>h y (mem_lessF.mp hy).1 z (mem_lessF.mp hz).1]
end
theorem Hh {ps qs:List (Str×Str)}{x y:Str}(h:Way ps x y↔Way qs x y):Ak ps x y=Ak qs x y:=Ng (by rw[wayB_iff];exact h)
section
variable {ns ns':List Str}{ps ps':List (Str×Str)}
theorem HalfW.ba10 (h:HalfW ns ps)(h10:ns.length<=10):HalfW ns (baP ns ps)/\(baP ns ps).length<=60/\∀ x y,Way (baP ns ps) x y↔Way ps x y:=⟨aw4 h h10,A0H (ar9 h h10) ∅,λ_ _=>as4 h.mem h.irr⟩
structure Made (ns:List Str)(ps:List (Str×Str))(ns':List Str)(ps' qs:List (Str×Str))(o:Bool):Prop where
 half:HalfW (ns++ns') qs
 le:qs.length<=60
 h1:HalfW ns ps
 h2:HalfW ns' ps'
 l:∀ x∈ns,∀ y∈ns,Ak qs x y=Ak ps x y
 r:∀ x∈ns',∀ y∈ns',Ak qs x y=Ak ps' x y
 b:∀ x∈ns,∀ y∈ns',Ak qs x y=o/\Ak qs y x=false
theorem a77 (h:HalfW ns ps)(h':HalfW ns' ps')(hd:∀ z∈ns,z∉ns')(h10:ns.length+ns'.length<=10)(l1:ps.length<=60)(l2:ps'.length<=60){o:Bool}{bs:List (Str×Str)}(hb:∀ p∈bs,p.1∈ns/\p.2∈ns')(hb2:(o=false/\bs=[])\/(o=true/\∀ x∈ns,∀ y∈ns',(x,y)∈bs))(hl:bs.length<=100):Made ns ps ns' ps' (baP (ns++ns') (ps++ps'++bs)) o:=by
 have hb3:bs=[]\/∀ x∈ns,∀ y∈ns',(x,y)∈bs:=by
  rcases hb2 with ⟨_,q⟩|⟨_,q⟩
  . exact .inl q
  exact .inr q
 have W:=Mm h h' hd hb hb3 h10 nofun;obtain⟨w1,w2,w3⟩:=W.ba10 (by rw[A0C];exact h10);have key:∀ x y,Way (baP (ns++ns') (ps++ps'++bs)) x y↔Way ps x y\/Way ps' x y\/(bs≠[]/\x∈ns/\y∈ns'):=λx y=>(w3 x y).trans (Wx h h' hd hb hb3);refine⟨w1,w2,h,h',λx hx y hy=>Hh ((key x y).trans ⟨?_,.inl⟩),λx hx y hy=>Hh ((key x y).trans ⟨?_,λg=>.inr (.inl g)⟩),λx hx y hy=>⟨?_,Fy λg=>?_⟩⟩
 . rintro(g|g|⟨_,_,g⟩)
   . exact g
   . exact absurd (Way.mem h'.mem g).1 (hd x hx)
   exact absurd g (hd y hy)
 . rintro(g|g|⟨_,g,_⟩)
   . exact absurd hx (hd x (Way.mem h.mem g).1)
   . exact g
   exact absurd hx (hd x g)
 . rcases hb2 with ⟨rfl,rfl⟩|⟨rfl,q⟩
   . refine Fy λg=>?_;rcases(key x y).mp g with g|g|⟨e,_⟩
     . exact absurd hy (hd y (Way.mem h.mem g).2)
     . exact absurd (Way.mem h'.mem g).1 (hd x hx)
     exact e rfl
   exact wayB_iff.mpr ((key x y).mpr (.inr (.inr ⟨λe=>absurd (e ▸ q x hx y hy) List.not_mem_nil,hx,hy⟩)))
 rcases(key y x).mp g with g|g|⟨_,g,_⟩
 . exact absurd hy (hd y (Way.mem h.mem g).1)
 . exact absurd (Way.mem h'.mem g).2 (hd x hx)
 exact absurd hy (hd y g)
variable {qs:List (Str×Str)}
theorem Made.cl {o:Bool}(m:Made ns ps ns' ps' qs o):cnt (Ak qs) ns=cnt (Ak ps) ns:=Fl _ rfl m.h1.nd m.l
theorem Made.cr {o:Bool}(m:Made ns ps ns' ps' qs o):cnt (Ak qs) ns'=cnt (Ak ps') ns':=Fl _ rfl m.h2.nd m.r
theorem Made.sl {o:Bool}(m:Made ns ps ns' ps' qs o){x y:Str}(hx:x∈ns)(hy:y∈ns):((ext (Ak qs) ns.length ns).filter λr=>decide (r.idxOf x<r.idxOf y)).length=cnt (Ak (ps++[(x,y)])) ns:=by rw[Kv m.h1 hx hy,Lj _ m.l]
theorem Made.over (m:Made ns ps ns' ps' qs true):cnt (Ak qs) (ns++ns')=cnt (Ak ps) ns*cnt (Ak ps') ns':=by rw[Tn _ rfl m.half.nd m.b,m.cl,m.cr]
theorem Made.side (m:Made ns ps ns' ps' qs false):cnt (Ak qs) (ns++ns')=cnt (Ak ps) ns*cnt (Ak ps') ns'*Kx ns.length ns'.length:=by rw[Ji _ rfl m.half.nd m.b,m.cl,m.cr,A3X]
theorem Made.shOver (m:Made ns ps ns' ps' qs true){x y:Str}(hx:x∈ns)(hy:y∈ns):cnt (Ak (qs++[(x,y)])) (ns++ns')=cnt (Ak (ps++[(x,y)])) ns*cnt (Ak ps') ns':=by rw[Kv m.half (A0G _ hx) (A0G _ hy),Vm m.half.nd m.b hx hy,m.sl hx hy,m.cr]
theorem Made.shSide (m:Made ns ps ns' ps' qs false){x y:Str}(hx:x∈ns)(hy:y∈ns)(hxy:x≠y):cnt (Ak (qs++[(x,y)])) (ns++ns')=cnt (Ak (ps++[(x,y)])) ns*cnt (Ak ps') ns'*Kx ns.length ns'.length:=by rw[Kv m.half (A0G _ hx) (A0G _ hy),Uw m.half.nd m.b hx hy hxy,m.sl hx hy,m.cr,A3X]
theorem Made.high (m:Made ns ps ns' ps' qs true){nm:Str}(hm:nm∈ns'):hgt (Ak qs) nm (ns++ns')=(hgt (Ak ps') nm ns'+ns.length*cnt (Ak ps') ns')*cnt (Ak ps) ns:=by rw[Zo m.half.nd m.b hm,m.cl,m.cr,Y7 m.h2.nd hm,Y7 m.h2.nd hm,Lj _ m.r]
theorem ah1 (m n:Nat):fac (m+n) / fac m / fac n=Kx m n:=by rw[<- Ro _ m n rfl,Nat.div_div_eq_div_mul,Nat.mul_div_cancel _ (Nat.mul_pos (Pb m) (Pb n))]
theorem HalfW.sw (h:HalfW ns ps):HalfW ns (ps.map sw):=⟨h.nd,λp hp=>by obtain⟨q,hq,rfl⟩:=A0A.mp hp;exact⟨(h.mem q hq).2,(h.mem q hq).1⟩,λx g=>h.irr x (way_sw.mp g),h.few,by rw[A01];exact h.le⟩
theorem a06 (ps:List (Str×Str)):Ak (ps.map sw)=R9 (Ak ps):=by funext x y;exact(Ng (by rw[R9,wayB_iff];exact way_sw.symm)).symm
theorem Yv (h:HalfW ns ps)(h10:ns.length<=10):cnt (Ak (baP ns (ps.map sw))) ns=cnt (Ak ps) ns:=by
 have e:Ak (baP ns (ps.map sw))=R9 (Ak ps):=by rw[<- a06];funext x y;exact Hh ((h.sw.ba10 h10).2.2 x y)
 rw[e,Ma h.nd]
theorem T2 (h:HalfW ns ps)(h10:ns.length<=10)(x y:Str):cnt (Ak (baP ns (ps.map sw)++[(y,x)])) ns=cnt (Ak (ps++[(x,y)])) ns:=by rw[Ud (h.sw.ba10 h10).2.2,show ps.map L2.sw++[(y,x)]=(ps++[(x,y)]).map L2.sw from by rw[A0M];rfl,a06,Ma h.nd]
theorem ah8 {row:List Str}(hm:∀ p∈ps,p.1∈ns/\p.2∈ns)(hr:row.Nodup)(hl:row.length=ns.length){x y:Str}(hx:x∈ns)(hy:y∈ns):Way (ps.map (ff (toF ns row))) (toF ns row x) (toF ns row y)↔Way ps x y:=by
 constructor
 . intro g
   have bwd:∀ {a b:Str},Way (ps.map (ff (toF ns row))) a b->∃ x y,a=toF ns row x/\b=toF ns row y/\Way ps x y:=λg=>by
    induction g with
    |one m=>
      obtain⟨q,hq,e⟩:=A0A.mp m;unfold ff at e
      cases e;exact⟨q.1,q.2,rfl,rfl,.one hq⟩
    |cons m _ ih=>
      obtain⟨q,hq,e⟩:=A0A.mp m;obtain⟨x,y,e1,e2,g⟩:=ih;unfold ff at e
      cases e;have hx:=Ra hr hl (hm q hq).2 (Way.mem hm g).1 e1;exact⟨q.1,y,rfl,e2,.cons hq (hx ▸ g)⟩
   obtain⟨a,b,e1,e2,g⟩:=bwd g;rw[Ra hr hl hx (Way.mem hm g).1 e1,Ra hr hl hy (Way.mem hm g).2 e2];exact g
 intro g;clear hx hy
 induction g with
 |one m=>exact .one (A0A.mpr ⟨_,m,rfl⟩)
 |cons m _ ih=>exact .cons (A0A.mpr ⟨_,m,rfl⟩) ih
theorem Wz {row:List Str}(hn:ns.Nodup)(hm:∀ p∈ps,p.1∈ns/\p.2∈ns)(hr:row.Nodup)(hl:row.length=ns.length):cnt (Ak (ps.map (ff (toF ns row)))) row=cnt (Ak ps) ns:=by have e:=at5 (f:=toF ns row) (b:=Ak (ps.map (ff (toF ns row)))) (L:=ns) λx hx y hy=>Ra hr hl hx hy;rw[W0 hn hl] at e;rw[e];exact Fl _ rfl hn λx hx y hy=>Ng (by rw[wayB_iff];exact ah8 hm hr hl hx hy)
theorem Yd (h:Half ns ps){row:List Str}(hN:Names row)(hl:row.length=ns.length):cnt (Ak (baP row (ps.map (ff (toF ns row))))) row=cnt (Ak ps) ns:=by have hH:=Kn h hN hl;rw[<- Wz h.names.1 (λp hp=>h.mem hp) hN.1 hl];exact Fl _ rfl hN.1 λx _ y _=>Hh ((hH.w.ba10 hH.few).2.2 x y)
theorem Us (h:Half ns ps){row:List Str}(hN:Names row)(hl:row.length=ns.length){x y:Str}(hx:x∈ns)(hy:y∈ns):cnt (Ak (baP row (ps.map (ff (toF ns row)))++[(toF ns row x,toF ns row y)])) row=cnt (Ak (ps++[(x,y)])) ns:=by have hH:=Kn h hN hl;rw[<- Wz h.names.1 (h.w.more hx hy).mem hN.1 hl,Ud (hH.w.ba10 hH.few).2.2,A0M];rfl
theorem X4 (h:HalfW ns ps)(h10:ns.length<=10){x y:Str}(hx:x∈ns)(hy:y∈ns)(hne:x≠y)(hno:¬ Way ps y x)(hl:ps.length<=900):cnt (Ak (baP ns (ps++[(x,y)]))) ns=cnt (Ak (ps++[(x,y)])) ns:=
 Fl _ rfl h.nd λa _ b _=>Hh (((h.said hx hy hne hno nofun).ba10 h10).2.2 a b)
theorem ax0 (ns:List Str)(x:Str):onL ns (ns.filter λy=>!decide (y=x))=Ao ns x:=by
 unfold onL Ao;refine A1C λz hz=>?_
 by_cases e:z=x<;>simp[e,hz,List.mem_filter]
theorem Wi (h:Half ns ps)(x:Str):cnt (Ak (baP (onL ns (ns.filter λy=>!decide (y=x))) (onP ns ps (ns.filter λy=>!decide (y=x))))) (onL ns (ns.filter λy=>!decide (y=x)))=cnt (Ak ps) (Ao ns x):=by
 have hW:=Vw h (ns.filter λy=>!decide (y=x))
 have e:cnt (Ak (baP (onL ns (ns.filter λy=>!decide (y=x))) (onP ns ps (ns.filter λy=>!decide (y=x))))) (onL ns (ns.filter λy=>!decide (y=x)))=cnt (Ak ps) (onL ns (ns.filter λy=>!decide (y=x))):=
  Fl _ rfl hW.nd λa ha b hb=>Hh (((hW.ba10 (a94 h _)).2.2 a b).trans (way_onP.trans ⟨λq=>q.2.2,λq=>⟨ha,hb,q⟩⟩))
 rw[e,ax0]
theorem ai7 (h:HalfW ns ps)(hne:ns≠[]):((ns.filter λx=>decide (ns.filter (λz=>Ak ps x z)=[])).map λx=>cnt (Ak ps) (Ao ns x)).sum=cnt (Ak ps) ns:=by
 rw [an7 h.nd hne];congr 2;refine A1C λx _=>?_
 cases hq:ns.any λy=>Ak ps x y with
 |true=>
   obtain⟨y,hy,hy2⟩:=A19.mp hq;rw[A0P]
   . rfl
   intro e;have:y∈ns.filter λz=>Ak ps x z:=A0N.mpr ⟨hy,hy2⟩;rw[e] at this
   cases this
 |false=>
   rw[A0S]
   . rfl
   rw[A2G];intro z hz e;exact absurd e (by simpa using List.any_eq_false.mp hq z hz)
end
section
variable {M:Model}{A:Around}{E:Value->Shared->Prop}{s:Shared}{base:Heap}{env:Env}{outer:List Env}{L a:Addr}{oe:Obj}{vs:Array Value}{Q:Unit->Shared->Prop}
end
section
variable {P:Program}{w:World}{fs:List Addr}{a C:Addr}{od:Option Addr}{oe:Obj}{old:List Addr}{h h':Heap}{H:Hp}{n:Bool}
end
section
variable {P:Program}{w:World}{K:W.Frag}{mg:Str->Option Value}{base:Heap}{N:List Str}{qual:Str}{scope:Scope}{f:Addr}{cd:Value}{A:Around}{outer:List Env}{s₀:Shared}{H₀:Hp}{E:XK}
end
section
variable {X:Cx}{scope:Scope}{xs fr:List Str}{pins:List (Addr×Obj)}{σ:St}{H:Hp}{s:Shared}{js:List Nat}{fp:List Addr}
end
end L2
namespace K92
open PySem L2 PySem.Spec PyProof.Rows
def top (i:Nat):Stmt:=PySem.Challenge.pw_halforder_k92_whole_sums.main.body.getD i (.Pass ⟨0,0,0,0⟩)
abbrev Bh:Stmt:=top 7
theorem Gd:Ah ["half","asked","name"] ["half","asked"] (A3 Bh):=⟨rfl,rfl,rfl,by decide +kernel,rfl,by decide +kernel,by decide +kernel⟩
abbrev Di:Stmt:=top 8
theorem Cp:Ah ["half","names","reach","saying","middle","name"] ["half"] (A3 Di):=⟨rfl,rfl,rfl,by decide +kernel,rfl,by decide +kernel,by decide +kernel⟩
abbrev Jf:Stmt:=top 9
theorem T6:Ah ["half","name","reach"] ["half","name"] (A3 Jf):=⟨rfl,rfl,rfl,by decide +kernel,rfl,by decide +kernel,by decide +kernel⟩
abbrev Jg:Stmt:=top 10
theorem Kt:Ah ["half","reach","pairs","one"] ["half"] (A3 Jg):=⟨rfl,rfl,rfl,by decide +kernel,rfl,by decide +kernel,by decide +kernel⟩
abbrev Ba:Stmt:=top 11
theorem Jq:Ah ["reach","pair"] ["reach","pair"] (A3 Ba):=⟨rfl,rfl,rfl,by decide +kernel,rfl,by decide +kernel,by decide +kernel⟩
abbrev Qh:Stmt:=top 12
theorem a86:Ah ["half","reach"] ["half"] (A3 Qh):=⟨rfl,rfl,rfl,by decide +kernel,rfl,by decide +kernel,by decide +kernel⟩
abbrev Ef:Stmt:=top 13
theorem R3:Ah ["reach","one","other"] ["reach","one","other"] (A3 Ef):=⟨rfl,rfl,rfl,by decide +kernel,rfl,by decide +kernel,by decide +kernel⟩
abbrev Fb:Stmt:=top 14
theorem Fm:Ah ["reach","names","pairs","place","one"] ["reach"] (A3 Fb):=⟨rfl,rfl,rfl,by decide +kernel,rfl,by decide +kernel,by decide +kernel⟩
abbrev Jl:Stmt:=top 15
theorem Zr:Ah ["half"] ["half"] (A3 Jl):=⟨rfl,rfl,rfl,by decide +kernel,rfl,by decide +kernel,by decide +kernel⟩
abbrev Hf:Stmt:=top 19
theorem Yy:Ah ["thing"] ["thing"] (A3 Hf):=⟨rfl,rfl,rfl,by decide +kernel,rfl,by decide +kernel,by decide +kernel⟩
abbrev Bg:Stmt:=top 20
theorem K1:Ah ["thing"] ["thing"] (A3 Bg):=⟨rfl,rfl,rfl,by decide +kernel,rfl,by decide +kernel,by decide +kernel⟩
abbrev C3:Stmt:=top 24
theorem L6:Ah ["thing"] ["thing"] (A3 C3):=⟨rfl,rfl,rfl,by decide +kernel,rfl,by decide +kernel,by decide +kernel⟩
abbrev Ew:Stmt:=top 25
theorem Tm:Ah ["thing","names"] ["thing","names"] (A3 Ew):=⟨rfl,rfl,rfl,by decide +kernel,rfl,by decide +kernel,by decide +kernel⟩
abbrev Ci:Stmt:=top 26
theorem M3:Ah ["thing"] ["thing"] (A3 Ci):=⟨rfl,rfl,rfl,by decide +kernel,rfl,by decide +kernel,by decide +kernel⟩
abbrev B9:Stmt:=top 27
theorem Da:Ah ["tale","number","thing"] ["tale"] (A3 B9):=⟨rfl,rfl,rfl,by decide +kernel,rfl,by decide +kernel,by decide +kernel⟩
abbrev C2:Stmt:=top 28
theorem Bs:Ah ["sayings","start","goal","ways","waiting","name","number","saying"] ["sayings","start","goal"] (A3 C2):=⟨rfl,rfl,rfl,by decide +kernel,rfl,by decide +kernel,by decide +kernel⟩
abbrev Qr:Stmt:=top 29
theorem Nm:Ah ["tale","sayings","number","saying","back"] ["tale"] (A3 Qr):=⟨rfl,rfl,rfl,by decide +kernel,rfl,by decide +kernel,by decide +kernel⟩
abbrev Eh:Stmt:=top 30
theorem Hr:Ah ["thing","wrong","found"] ["thing"] (A3 Eh):=⟨rfl,rfl,rfl,by decide +kernel,rfl,by decide +kernel,by decide +kernel⟩
abbrev He:Stmt:=top 32
theorem Yo:Ah ["names","sayings"] ["names","sayings"] (A3 He):=⟨rfl,rfl,rfl,by decide +kernel,rfl,by decide +kernel,by decide +kernel⟩
abbrev C8:Stmt:=top 33
theorem Iw:Ah ["one","other"] ["one","other"] (A3 C8):=⟨rfl,rfl,rfl,by decide +kernel,rfl,by decide +kernel,by decide +kernel⟩
abbrev K5:Stmt:=top 34
theorem Go:Ah ["one","other","names","between","name"] ["one","other"] (A3 K5):=⟨rfl,rfl,rfl,by decide +kernel,rfl,by decide +kernel,by decide +kernel⟩
abbrev Hl:Stmt:=top 35
theorem Su:Ah ["one","other"] ["one","other"] (A3 Hl):=⟨rfl,rfl,rfl,by decide +kernel,rfl,by decide +kernel,by decide +kernel⟩
abbrev Jb:Stmt:=top 36
theorem Zv:Ah ["half"] ["half"] (A3 Jb):=⟨rfl,rfl,rfl,by decide +kernel,rfl,by decide +kernel,by decide +kernel⟩
abbrev Qs:Stmt:=top 37
theorem a95:Ah ["half","names","left"] ["half","names"] (A3 Qs):=⟨rfl,rfl,rfl,by decide +kernel,rfl,by decide +kernel,by decide +kernel⟩
abbrev Hj:Stmt:=top 38
theorem Yn:Ah ["half","name"] ["half","name"] (A3 Hj):=⟨rfl,rfl,rfl,by decide +kernel,rfl,by decide +kernel,by decide +kernel⟩
abbrev Jk:Stmt:=top 39
theorem Ug:Ah ["half","names","new"] ["half","names"] (A3 Jk):=⟨rfl,rfl,rfl,by decide +kernel,rfl,by decide +kernel,by decide +kernel⟩
abbrev Qp:Stmt:=top 40
theorem ac9:Ah ["half","name","other","back"] ["half","name","other"] (A3 Qp):=⟨rfl,rfl,rfl,by decide +kernel,rfl,by decide +kernel,by decide +kernel⟩
abbrev Hc:Stmt:=top 42
theorem Hi:Ah ["names","bits","bit","name"] ["names"] (A3 Hc):=⟨rfl,rfl,rfl,by decide +kernel,rfl,by decide +kernel,by decide +kernel⟩
abbrev Ed:Stmt:=top 43
theorem Fu:Ah ["half","bits","reach","found","name"] ["half","bits"] (A3 Ed):=⟨rfl,rfl,rfl,by decide +kernel,rfl,by decide +kernel,by decide +kernel⟩
abbrev Li:Stmt:=top 45
theorem Xo:Ah ["half","ways"] ["half"] (A3 Li):=⟨rfl,rfl,rfl,by decide +kernel,rfl,by decide +kernel,by decide +kernel⟩
abbrev L4:Stmt:=top 47
theorem ah4:Ah ["half","name","other"] ["half","name","other"] (A3 L4):=⟨rfl,rfl,rfl,by decide +kernel,rfl,by decide +kernel,by decide +kernel⟩
abbrev Cu:Stmt:=top 48
theorem Cz:Ah ["ways","comings","found","left","name","rest"] ["ways","comings"] (A3 Cu):=⟨rfl,rfl,rfl,by decide +kernel,rfl,by decide +kernel,by decide +kernel⟩
abbrev Hb:Stmt:=top 49
theorem Pz:Ah ["ways","comings","name","here"] ["ways","comings","name"] (A3 Hb):=⟨rfl,rfl,rfl,by decide +kernel,rfl,by decide +kernel,by decide +kernel⟩
abbrev Ja:Stmt:=top 50
theorem Iu:Ah ["half","name","ways","comings","found"] ["half","name"] (A3 Ja):=⟨rfl,rfl,rfl,by decide +kernel,rfl,by decide +kernel,by decide +kernel⟩
abbrev Jj:Stmt:=top 51
theorem ad5:Ah ["half","name"] ["half","name"] (A3 Jj):=⟨rfl,rfl,rfl,by decide +kernel,rfl,by decide +kernel,by decide +kernel⟩
abbrev Ey:Stmt:=top 53
theorem Th:Ah ["_law_script"] ["_law_script"] (A3 Ey):=⟨rfl,rfl,rfl,by decide +kernel,rfl,by decide +kernel,by decide +kernel⟩
abbrev Ez:Stmt:=top 54
theorem Fi:Ah ["_law_feed_here","_law_many","_law_cell","_law_mixed","_law_found"] ["_law_feed_here","_law_many"] (A3 Ez):=⟨rfl,rfl,rfl,by decide +kernel,rfl,by decide +kernel,by decide +kernel⟩
abbrev Ei:Stmt:=top 55
theorem B1:Ah ["_law_feed_here","_law_many","_law_letters","_law_start","_law_way","_law_size","_law_at","_law_names_here","_law_head","_law_tail","_law_turn"] ["_law_feed_here","_law_many"] (A3 Ei):=⟨rfl,rfl,rfl,by decide +kernel,rfl,by decide +kernel,by decide +kernel⟩
abbrev Ch:Stmt:=top 56
theorem Dv:Ah ["_law_feed_here","_law_some","_law_left","_law_found","_law_k"] ["_law_feed_here","_law_some"] (A3 Ch):=⟨rfl,rfl,rfl,by decide +kernel,rfl,by decide +kernel,by decide +kernel⟩
abbrev Ec:Stmt:=top 57
theorem B6:Ah ["_law_feed_here","_law_line","_law_many","_law_way","_law_found","_law_k","_law_at","_law_cut","_law_one"] ["_law_feed_here","_law_line"] (A3 Ec):=⟨rfl,rfl,rfl,by decide +kernel,rfl,by decide +kernel,by decide +kernel⟩
abbrev Cr:Stmt:=top 58
theorem Ep:Ah ["_law_feed_here","_law_line","_law_found","_law_pair","_law_turn"] ["_law_feed_here","_law_line"] (A3 Cr):=⟨rfl,rfl,rfl,by decide +kernel,rfl,by decide +kernel,by decide +kernel⟩
abbrev Ck:Stmt:=top 59
theorem Dt:Ah ["_law_many","_law_found","_law_k"] ["_law_many"] (A3 Ck):=⟨rfl,rfl,rfl,by decide +kernel,rfl,by decide +kernel,by decide +kernel⟩
abbrev Dz:Stmt:=top 60
theorem Dh:Ah ["_law_feed_here","_law_names_here","_law_cut","_law_first","_law_second","_law_one"] ["_law_feed_here"] (A3 Dz):=⟨rfl,rfl,rfl,by decide +kernel,rfl,by decide +kernel,by decide +kernel⟩
abbrev Fc:Stmt:=top 61
theorem Ix:Ah ["_law_feed_here","_law_half","_law_some","_law_k"] ["_law_feed_here","_law_half"] (A3 Fc):=⟨rfl,rfl,rfl,by decide +kernel,rfl,by decide +kernel,by decide +kernel⟩
abbrev Cs:Stmt:=top 62
theorem En:Ah ["_law_one","_law_other","_law_found","_law_join","e"] ["_law_one","_law_other"] (A3 Cs):=⟨rfl,rfl,rfl,by decide +kernel,rfl,by decide +kernel,by decide +kernel⟩
abbrev Bb:Stmt:=top 63
theorem Ar:Ah ["_law_feed_here","_law_one","_law_other","_law_many","_law_counts","_law_over","_law_side","_law_ways","_law_name","_law_later"] ["_law_feed_here","_law_one","_law_other"] (A3 Bb):=⟨rfl,rfl,rfl,by decide +kernel,rfl,by decide +kernel,by decide +kernel⟩
abbrev C0:Stmt:=top 64
theorem B4:Ah ["_law_feed_here","_law_half","_law_fresh","_law_some","_law_one","_law_other","_law_ahead","_law_calls","_law_last"] ["_law_feed_here","_law_half"] (A3 C0):=⟨rfl,rfl,rfl,by decide +kernel,rfl,by decide +kernel,by decide +kernel⟩
abbrev Rw:Stmt:=top 65
theorem Qd:Ah ["_law_script","_law_feed_here","_law_k","_law_one","_law_other"] ["_law_script"] (A3 Rw):=⟨rfl,rfl,rfl,by decide +kernel,rfl,by decide +kernel,by decide +kernel⟩
abbrev Fe:Stmt:=K0 (top 44) 0
theorem Uk:Ah ["self","half"] ["self","half"] (A3 Fe):=⟨rfl,rfl,rfl,by decide +kernel,rfl,by decide +kernel,by decide +kernel⟩
abbrev Bt:Stmt:=K0 (top 44) 1
theorem Ki:Ah ["self","left"] ["self","left"] (A3 Bt):=⟨rfl,rfl,rfl,by decide +kernel,rfl,by decide +kernel,by decide +kernel⟩
abbrev Cc:Stmt:=K0 (top 44) 2
theorem Mu:Ah ["self","left"] ["self","left"] (A3 Cc):=⟨rfl,rfl,rfl,by decide +kernel,rfl,by decide +kernel,by decide +kernel⟩
abbrev Df:Stmt:=K0 (top 2) 0
theorem Pr:Ah ["self","word","number"] ["self","word","number"] (A3 Df):=⟨rfl,rfl,rfl,by decide +kernel,rfl,by decide +kernel,by decide +kernel⟩
abbrev Dg:Stmt:=K0 (top 3) 0
theorem Pt:Ah ["self","name"] ["self","name"] (A3 Dg):=⟨rfl,rfl,rfl,by decide +kernel,rfl,by decide +kernel,by decide +kernel⟩
abbrev De:Stmt:=K0 (top 4) 0
theorem Pj:Ah ["self","word"] ["self","word"] (A3 De):=⟨rfl,rfl,rfl,by decide +kernel,rfl,by decide +kernel,by decide +kernel⟩
abbrev Ea:Stmt:=K0 (top 5) 0
theorem Sk:Ah ["self","way"] ["self","way"] (A3 Ea):=⟨rfl,rfl,rfl,by decide +kernel,rfl,by decide +kernel,by decide +kernel⟩
structure Ej (mg:Str->Option Value):Prop where
 g_MOST_NAMES:∃ u,mg "MOST_NAMES" = some u/\RelV (.int 10) u
 g_MOST_SAYINGS:∃ u,mg "MOST_SAYINGS" = some u/\RelV (.int 60) u
 g_MOST_SIGNS:∃ u,mg "MOST_SIGNS" = some u/\RelV (.int 8) u
 g_SMALL_LETTERS:∃ u,mg "SMALL_LETTERS" = some u/\RelV (.str "abcdefghijklmnopqrstuvwxyz") u
 b_all:mg "all" = none
 b_any:mg "any" = none
 b_dict:mg "dict" = none
 b_enumerate:mg "enumerate" = none
 b_int:mg "int" = none
 b_isinstance:mg "isinstance" = none
 b_len:mg "len" = none
 b_list:mg "list" = none
 b_range:mg "range" = none
 b_set:mg "set" = none
 b_str:mg "str" = none
 b_sum:mg "sum" = none
 b_tuple:mg "tuple" = none
 b_zip:mg "zip" = none
structure Fx (K:W.Frag)(C:Addr):Prop where
 cl:Cls K C
 n_names:NoAttr K C "names"
 n_bits:NoAttr K C "bits"
 n_ahead:NoAttr K C "ahead"
 n_full:NoAttr K C "full"
 n_known:NoAttr K C "known"
structure Bn (K:W.Frag)(mg:Str->Option Value)(C B:Addr):Prop where
 xc:XC K C
 gl:mg "HalfError" = some (.ref C)
 mk0:Mkx0 K mg C "HalfError"
structure Px (K:W.Frag)(mg:Str->Option Value)(C B:Addr):Prop where
 xc:XC K C
 gl:mg "NoHalf" = some (.ref C)
 mr:Sz K C B=true
 n_word:NoAttr K C "word"
 n_number:NoAttr K C "number"
structure G2 (K:W.Frag)(mg:Str->Option Value)(C B:Addr):Prop where
 xc:XC K C
 gl:mg "NoName" = some (.ref C)
 mr:Sz K C B=true
 n_name:NoAttr K C "name"
structure G1 (K:W.Frag)(mg:Str->Option Value)(C B:Addr):Prop where
 xc:XC K C
 gl:mg "NoJoin" = some (.ref C)
 mr:Sz K C B=true
 n_word:NoAttr K C "word"
structure Tx (K:W.Frag)(mg:Str->Option Value)(C B:Addr):Prop where
 xc:XC K C
 gl:mg "Clash" = some (.ref C)
 mr:Sz K C B=true
 n_way:NoAttr K C "way"
section
variable {P:Program}{w:World}{K:W.Frag}{mg:Str->Option Value}{base:Heap}
local macro_rules | `(tactic| walk_at "lk") => L2.mRows "as | Same.lk e h: e=as h=lk | ExtBut.lk e h n: e=as n=ne h=lk | no"
local macro_rules | `(tactic| walk_at "ne") => L2.mRows "as | Ne.symm q: q=as | ne_of_none h g: g=as h=lk | ne_none2 h g: g=as h=lk | ne_of h g z: h=as g=as z=nc | no"
local macro_rules | `(tactic| walk_at "nc") => `(tactic| (intro z; cases z))
local macro_rules | `(tactic| walk_at "fr") => L2.mRows "ExtBut.refl | ExtBut.trans a b: b=as a=fr | ExtBut.same a b: b=as a=fr | ExtBut.off a q b: b=as q=as a=fr | no"
local macro_rules | `(tactic| walk_at "sm") => L2.mRows "same_refl | Same.trans a b: b=as a=sm | Same.off a q b: b=as q=as a=sm | no"
local macro_rules | `(tactic| walk_at "fd") => L2.mRows "as | Feed.same h e: e=as h=fd | Feed.off h e q f: e=as q=as f=as h=fd | no"
local macro_rules | `(tactic| walk_at "fz1") => L2.mRows "Same.fz b: b=as | ExtBut.fzL b l: b=as l=lk | ExtBut.fzD b l: b=as l=lk | Feed.fz f b: b=as f=fd | no"
local macro_rules | `(tactic| walk_at "fz") => L2.mRows "fz_refl | Fz.trans a x: x=fz1 a=fz | no"
local macro_rules | `(tactic| walk_at "sd") => `(tactic| first | omega | (show (0 : Int) < _; omega) | (unfold aP3; omega) | (unfold CMul; omega) | (unfold aQ0; omega) | (unfold aQ0; decide) | (refine ⟨?_, ?_⟩ <;> omega) | decide)
local macro_rules | `(tactic| walk_at "sz") => `(tactic| first | decide | exact Af (by omega) | (rw [sizeLine_eq]; omega))
local macro_rules | `(tactic| walk_at "kv") => `(tactic| rfl)
local macro_rules | `(tactic| walk_at "rq1") => do
 let a <- L2.mAlts "i_asg i_gname i_ret i_drop i_if i_op i_un i_call i_cb i_cons i_nil i_c i_put i_tTest i_tB i_not i_and i_or i_tup i_lst i_next i_sl i_noPart i_part i_int i_for i_rng1 i_rng2 i_comp i_itS i_iany i_ienum i_ienumL i_irev i_chain i_andV i_orV i_notV i_dget1 i_tAt i_sSt i_tMe i_tMk i_tTru i_dget2 i_iDT i_bmT i_rU i_rI0 i_addI i_bl i_bm i_bm0 i_reprKB i_isN i_isNotN i_isB i_isNotB i_true i_tyS i_find i_intB i_inS i_pair i_pair0 iteR iteNR iteNbb itebb iteT iteF iteNT iteNF"
 let b <- L2.mRows "i_var w _: w=kv | i_rI w _: w=sd | i_mulBI w _: w=sd | i_tyLm w _: w=lk | i_ixD w v _: w=lk v=kv | i_eqS w _: w=kv | i_neS w _: w=kv | i_slS w _: w=sz | i_addS w _: w=sz | i_lenS w _: w=sz | i_lenL w _: w=lk | i_lenT w _: w=lk | i_cutN w _: w=ar"
 let c <- L2.mAltG "i_seqAG i_seqDG i_seqPG"
 `(tactic| first | $c:tactic | $a:tactic | $b:tactic)
local macro_rules | `(tactic| walk_at "rd1") => `(tactic| first | with_reducible refine aN0 fun N hN => ?_ | walk_at "rq1")
local macro_rules | `(tactic| walk_at "rq") => `(tactic| repeat (walk_at "rq1"))
local macro_rules | `(tactic| walk_at "rd") => `(tactic| repeat (walk_at "rd1"))
def Fr (l:Addr)(a t u:Int):List (Key×V):=[(Sum.inr "cells",.ref l),(Sum.inr "at",.int a),(Sum.inr "left",.int t),(Sum.inr "turn",.int u)]
def Feed (H:Hp)(d l:Addr):Prop:=∃(a t u:Int) (ns:List Int),H d=some (.dK (Fr l a t u))/\H l=some (.lst (ns.map V.int))/\0<ns.length/\ns.length<=64
def J7 (K:W.Frag):Sp:=λvs H Q _=>∃(a:Addr) (ns:List Int),vs=[.ref a]/\SqL K H a (ns.map V.int)/\ns.length<=63/\∀ d l H',H d=none->H l=none->Same H H'->Feed H' d l->Q (.ref d) H'
def Br (K:W.Frag):Sp:=λvs H Q _=>∃ d l n,vs=[.ref d,.int n]/\Feed H d l/\0<n/\n<1073741824/\∀ r H',0<=r->r<n->ExtBut d H H'->Feed H' d l->Q (.int r) H'
theorem aj9 {l:Addr}{a t u:Int}:Dn (Fr l a t u) (Sum.inr "cells":Key)=some (.ref l):=by rfl
theorem aP1 {l:Addr}{a t u:Int}:Dn (Fr l a t u) (Sum.inr "at":Key)=some (.int a):=by rfl
theorem aC2 {l:Addr}{a t u:Int}:Dn (Fr l a t u) (Sum.inr "left":Key)=some (.int t):=by rfl
theorem aB2 {l:Addr}{a t u:Int}:Dn (Fr l a t u) (Sum.inr "turn":Key)=some (.int u):=by rfl
local macro_rules | `(tactic| walk_at "kv") => `(tactic| first | exact aj9 | exact aP1 | exact aC2 | exact aB2 | rfl)
theorem al4 {l:Addr}{a t u x:Int}:Gj (Fr l a t u) (Sum.inr "turn":Key) (.int x)=Fr l a t x:=by rfl
theorem aN3 {l:Addr}{a t u x:Int}:Gj (Fr l a t u) (Sum.inr "at":Key) (.int x)=Fr l x t u:=by rfl
theorem Rc {l:Addr}{a t u x:Int}:Gj (Fr l a t u) (Sum.inr "left":Key) (.int x)=Fr l a x u:=by rfl
theorem Feed.same {H H':Hp}{d l:Addr}(h:Feed H d l)(e:Same H H'):Feed H' d l:=let ⟨a,t,u,ns,h1,h2,h3,h4⟩:=h;⟨a,t,u,ns,e _ _ h1,e _ _ h2,h3,h4⟩
theorem Feed.put {H H':Hp}{d l p:Addr}(h:Feed H d l)(e:ExtBut p H H')(hd:d≠p)(hl:l≠p):Feed H' d l:=let ⟨a,t,u,ns,h1,h2,h3,h4⟩:=h;⟨a,t,u,ns,e _ _ hd h1,e _ _ hl h2,h3,h4⟩
theorem Feed.nd {H:Hp}{d l p:Addr}(h:Feed H d l)(hp:H p=none):d≠p:=let ⟨_,_,_,_,h1,_⟩:=h;ne_of_none h1 hp
theorem Feed.nl {H:Hp}{d l p:Addr}(h:Feed H d l)(hp:H p=none):l≠p:=let ⟨_,_,_,_,_,h2,_⟩:=h;ne_of_none h2 hp
theorem Feed.lst {H:Hp} {d l b:Addr} {xs:List V} (h:Feed H d l) (hb:H b=some (.lst xs)):b≠d:=let ⟨_,_,_,_,h1,_⟩:=h;ne_of hb h1 (by intro z;cases z)
theorem Feed.free {H H':Hp}{d l p:Addr}(h:Feed H' d l)(e:ExtBut d H H')(hp:H' p=none):H p=none:=by
 cases hq:H p with
 |none=>rfl
 |some o=>
   obtain⟨_,_,_,_,h1,_⟩:=h;have n:p≠d:=λq=>by subst q;rw[hp] at h1;cases h1
   rw[e p o n hq] at hp
   cases hp
theorem Feed.fz {H H':Hp}{d l:Addr}(h:Feed H d l)(e:ExtBut d H H'):Fz H H':=let ⟨_,_,_,_,h1,_⟩:=h;e.fzD h1
theorem Feed.off {H H1 H2:Hp}{d l q:Addr}(h:Feed H1 d l)(e:ExtBut q H1 H2)(hq:H q=none)(hF:Feed H d l):Feed H2 d l:=h.put e (hF.nd hq) (hF.nl hq)
theorem Sy {f:Addr}{fd:FuncData}(F:Fun K "_law_draw" "_law_draw" Ez f fd)(T:Ej mg):FnOk P w K mg base CX0 1 f fd ["_law_feed_here","_law_many"] (Br K):=by
 refine F.ok Fi (λvs H Q E h=>?_) (λcdv A outer s H vs Q E hr h=>?_)
 . obtain⟨d,l,n,rfl,_⟩:=h;rfl
 obtain⟨d,l,n,rfl,⟨a,t,u,ns,hd,hl,h0,h64⟩,hn,hn2,k⟩:=h;have hu:=Bf hr;have hq:=Bd hr;have hld:l≠d:=ne_of hl hd (by intro z;cases z)
 with_reducible refine⟨_,(A2 (Gw hu (pv 0) Bc (An (Am (K:=K)) (A7 (A4 (K:=K) hu) (pv 0) Bc (by ac_rfl)) A5) ⋯)
  (A2 (Bv (Ag (Et (K:=K) hq) (A7 (A4 (K:=K) hu) (pv 0) Bc (by ac_rfl)) A5 (Aq _)) (A2 (Ai (i:=2) Fi.nd ⋯ (by eq_refl) (A7 (A4 (K:=K) hu) (A7 (A4 (K:=K) hu) (pv 0) Bc (by ac_rfl)) (An Lu (A7 (A4 (K:=K) hu) (pv 0) Bc (by ac_rfl)) (Al (At (K:=K)) ⋯ T.b_len PyProof.Rows.Boot.«len» (A0 (A7 (A4 (K:=K) hu) (pv 0) Bc (by ac_rfl)) A1))) (by ac_rfl)))
  (A2 (Gw hu (pv 0) Bc (An (Am (K:=K)) (A7 (A4 (K:=K) hu) (pv 0) Bc (by ac_rfl)) A5) ⋯)
  (A2 (Bv (Ag ac6 (pv 2) (An aE6 A5 A5) (Aq _)) (A2 (Ai (i:=3) Fi.nd ⋯ (by eq_refl) (An Lu (An By (An (Am (K:=K)) (An Lu (pv 2) A5) (An By A5 (A7 (A4 (K:=K) hu) (pv 0) Bc (by ac_rfl)))) A5) A5))
  (A2 (Ai (i:=3) Fi.nd ⋯ (by eq_refl) (An Lu (An By (An (Am (K:=K)) (An Jh (pv 3) A5) (An By A5 (A7 (A4 (K:=K) hu) (pv 0) Bc (by ac_rfl)))) A5) A5))
  (A6 (Aj (An Lu (An Jh (pv 3) A5) (pv 1)))))) Ap)
  (A6 (Gw hu (pv 0) Bc (pv 2) ⋯))))) Ap)
  (A2 (Ai (i:=4) Fi.nd ⋯ (by eq_refl) (An Lu (A7 (A4 (K:=K) hu) (pv 0) Bc (by ac_rfl)) (pv 1)))
  (A2 (Gw hu (pv 0) Bc (An Jh (A7 (A4 (K:=K) hu) (pv 0) Bc (by ac_rfl)) (pv 1)) ⋯)
  (A6 (Aj (pv 4))))))),?_⟩
 symm
 refine Kp hd (by show 4<1000;decide) λH1 e1 hd1=>?_;rw[al4] at hd1;have hl1:H1 l=some (.lst (ns.map V.int)):=e1 _ _ hld hl
 symm
 refine aT6 (λht=>?_) (λht=>?_)
 . symm
   have hlen:(0:Int)<((ns.map V.int).length:Nat):=by rw[A01];omega
   refine i_rI hlen ?_;have hm0:0<=a % (((ns.map V.int).length:Nat):Int):=A4C _ nofun;have hm1:=A3P a hlen
   obtain⟨c,hc⟩:∃ c,(ns.map V.int)[(a % (((ns.map V.int).length:Nat):Int)).toNat]? = some (V.int c):=by refine⟨ns[(a % (((ns.map V.int).length:Nat):Int)).toNat]'(by rw[A01] at *;omega),?_⟩;rw[A09,A04];rfl
   refine Dx hl1 (by have:=K8 hc;rwa[A2F hm0] at this) ?_
   symm
   refine Kp hd1 (by show 4<1000;decide) λH2 e2 hd2=>?_;rw[aN3] at hd2;have hl2:H2 l=some (.lst (ns.map V.int)):=e2 _ _ hld hl1
   symm
   refine aT6 (λhc1=>?_) (λhc1=>?_)
   . symm
     exact k _ H2 (A4C _ nofun) (A3P _ hn) (e1.trans e2) ⟨_,_,_,ns,hd2,hl2,h0,h64⟩
   symm
   refine Kp hd2 (by show 4<1000;decide) λH3 e3 hd3=>?_;rw[Rc] at hd3;have hl3:H3 l=some (.lst (ns.map V.int)):=e3 _ _ hld hl2
   symm
   refine Kp hd3 (by show 4<1000;decide) λH4 e4 hd4=>?_;rw[Rc] at hd4;have hl4:H4 l=some (.lst (ns.map V.int)):=e4 _ _ hld hl3
   symm
   exact k _ H4 (A4C _ nofun) (A3P _ hn) (((e1.trans e2).trans e3).trans e4) ⟨_,_,_,ns,hd4,hl4,h0,h64⟩
 symm
 refine Kp hd1 (by show 4<1000;decide) λH2 e2 hd2=>?_;rw[Rc] at hd2;have hl2:H2 l=some (.lst (ns.map V.int)):=e2 _ _ hld hl1
 symm
 exact k _ H2 (A4C _ nofun) (A3P _ hn) (e1.trans e2) ⟨_,_,_,ns,hd2,hl2,h0,h64⟩
theorem a55 (ns:List Int)(h:ns.length<=63):∃ ms:List Int,Ph (ns.map V.int) none (some 63)++(List.replicate (if(PyData.list (ns.map PyData.int)).eqv (PyData.list (([]:List Int).map PyData.int))=true then(1:Int) else 0).toNat [V.int 0]).flatten=ms.map V.int/\0<ms.length/\ms.length<=64:=by
 have hc:Ph (ns.map V.int) none (some 63)=ns.map V.int:=by
  unfold Ph
  have e:HT.sIx (ns.map V.int).length (ns.map V.int).length (some 63)=(ns.map V.int).length:=by have:=HT.sIx_nat (ns.map V.int).length (ns.map V.int).length 63;rw[A01] at *;rw[show((63:Nat):Int)=(63:Int) from rfl] at this;rw[this];omega
  rw[HT.sIx_none,e,List.drop_zero,Nat.sub_zero,A13]
 rw[hc]
 cases ns with
 |nil=>exact⟨[0],by simp[PyData.eqv,PyData.eqvAll],by decide,by decide⟩
 |cons n r=>exact⟨n :: r,by simp[PyData.eqv,PyData.eqvAll],by simp,by omega⟩
theorem T8 {f:Addr}{fd:FuncData}(F:Fun K "_law_feed" "_law_feed" Ey f fd)(T:Ej mg):FnOk P w K mg base CX0 1 f fd ["_law_script"] (J7 K):=by
 refine F.ok Th (λvs H Q E h=>?_) (λcdv A outer s H vs Q E hr h=>?_)
 . obtain⟨a,ns,rfl,_⟩:=h;rfl
 obtain⟨a,ns,rfl,hS,h63,k⟩:=h;have hu:=Bf hr;have hq:=Bd hr
 with_reducible refine⟨_,(A6 (Aj (Sf (Hw Bc (An (Am (K:=K)) (Ax (L8 (K:=K)) ⋯ T.b_list PyProof.Rows.Boot.«list» (A0 (Ce (Ve (K:=K)) (pv 0) Ga (Ca A5)) A1)) (An By (Dq (A0 A5 A1)) (Ax Nx ⋯ T.b_int PyProof.Rows.Boot.«int» (A0 (Cw (Et (K:=K) hq) (pv 0) (Dq A1) (Aq _)) A1)))) (Hw Bc A5 (Hw Bc A5 (Hw Bc A5 Rt)))) ⋯ ⋯ ∅ ∅))),?_⟩
 symm
 refine X0 λp H1 hp e1 hp1=>?_
 symm
 have hS1:=e1.seq hS;refine Ni hS1 λq H2 hq2 e2 hq2'=>?_
 symm
 refine av9 (SqL.of hq2') λr H3 hr3 e3 hr3'=>?_
 symm
 refine Eb ∅ λz H4 hz4 e4 hz4'=>?_
 symm
 refine Eb ∅ λy H5 hy5 e5 hy5'=>?_;refine aj4 (X3 (e5.seq (e4.seq (e3.seq (e2.seq hS1))))) (X3 (ns:=[]) (SqL.of hy5')) (W.ke_shaped_ints ns) (W.ke_shaped_ints []) ?_
 symm
 refine aA2 (xs:=[V.int 0]) (by walk_at "lk") ?_ ?_ λx H6 hx6 e6 hx6'=>?_
 . split<;>omega
 . split<;>decide
 refine ad4 (xs:=Ph (ns.map V.int) none (some 63)) (by walk_at "lk") hx6' ?_ λv H7 hv7 e7 hv7'=>?_
 . obtain⟨ms,e,h1,h2⟩:=a55 ns h63;rw[<- A0C,e,A01];exact A0H h2 ∅
 symm
 refine Sg [(Sum.inr "cells",.ref v),(Sum.inr "at",.int 0),(Sum.inr "left",.int 0),(Sum.inr "turn",.int 0)] (by walk_at "lk") (by rfl) (by show 4<=15;decide) λH8 e8 h8=>?_;have en:H8 p=some (.dK (Fr v 0 0 0)):=h8;refine k p v H8 hp ?_ ?_ ⟨0,0,0,?_⟩
 . exact e1.free (e2.free (e3.free (e4.free (e5.free (e6.free hv7)))))
 . exact λb o hb=>e8 b o (ne_of_none hb hp) (e7 _ _ (e6 _ _ (e5 _ _ (e4 _ _ (e3 _ _ (e2 _ _ (e1 _ _ hb)))))))
 obtain⟨ms,e,h1,h2⟩:=a55 ns h63;rw[e] at hv7';exact⟨ms,en,by walk_at "lk",h1,h2⟩
def Fw (K:W.Frag):Sp:=λvs H Q _=>∃ d l n,vs=[.ref d,.int n]/\Feed H d l/\0<=n/\n<=10/\∀ p ns H',H p=none->ExtBut d H H'->Feed H' d l->H' p=some (.lst (ns.map V.str))->Names ns->ns.length=n.toNat->Q (.ref p) H'
def MN (H:Hp)(d l:Addr)(n st way sz at':Int):L2.St->Hp->Prop:=fun σ' H'=>∃ p ns x8 x9,σ'=[some (V.ref d),some (.int n),some (.str LL),some (.int st),some (.int way),some (.int (1+sz)),some (.int at'),some (.ref p),x8,x9,none]/\H p=none/\ExtBut d H H'/\Feed H' d l/\H' p=some (.lst (ns.map V.str))/\Names ns/\ns.length=10
theorem Qx {f:Addr}{fd:FuncData}(F:Fun K "_law_names" "_law_names" Ei f fd)(T:Ej mg)(A8:Fnd P w K mg base 1 "_law_draw" ["_law_feed_here","_law_many"] (Br K)):FnOk P w K mg base CX0 2 f fd ["_law_feed_here","_law_many"] (Fw K):=by
 refine F.ok B1 (λvs H Q E h=>?_) (λcdv A outer s H vs Q E hr h=>?_)
 . obtain⟨d,l,n,rfl,_⟩:=h;rfl
 obtain⟨d,l,n,rfl,hF,hn0,hn1,k⟩:=h;have hu:=Bf hr;have hq:=Bd hr
 with_reducible refine⟨_,(A2 (Ai (i:=2) B1.nd ⋯ (by with_unfolding_all exact A3I rfl) (An By Bc A5))
  (A2 (Ai (i:=3) B1.nd ⋯ (by with_unfolding_all exact A3I rfl) (Ae A8 (hr.mono ∅) ⋯ (A0 (pv 0) (A0 A5 A1))))
  (A2 (Ai (i:=4) B1.nd ⋯ (by eq_refl) (Ae A8 (hr.mono ∅) ⋯ (A0 (pv 0) (A0 A5 A1))))
  (A2 (Ai (i:=5) B1.nd ⋯ (by eq_refl) (An (Am (K:=K)) A5 (Ae A8 (hr.mono ∅) ⋯ (A0 (pv 0) (A0 A5 A1)))))
  (A2 (Ai (i:=6) B1.nd ⋯ (by eq_refl) (Ae A8 (hr.mono ∅) ⋯ (A0 (pv 0) (A0 (pv 5) A1))))
  (A2 (Ai (i:=7) B1.nd ⋯ (by eq_refl) (Dq (A0 Bc (A0 Bc (A0 Bc (A0 Bc (A0 Bc (A0 Bc (A0 Bc (A0 Bc (A0 Bc (A0 Bc A1))))))))))))
  (A2 (Bv (Ag (Et (K:=K) hq) (pv 4) A5 (Aq _)) (A6 (Ai (i:=7) B1.nd ⋯ (by eq_refl) (An (Am (K:=K)) (Bl ["_law_k"] ["_law_letters","_law_start"] [2,3] ⋯ ⋯ ⋯ (Do ⋯ T.b_range (A0 A5 A1)) (λ_ _ _ _=>(Ac (i:=0) (by with_unfolding_all (show(["_law_k","_law_letters","_law_start"]:List Str).Nodup;decide +kernel)) ⋯ (by eq_refl))) (B5 ∅) (λ_ _ _ _=>Cv) (λ_ _ _ _=>(Ce (Ve (K:=K)) (pv 1) (Ca (pv 2)) (Ca (An (Am (K:=K)) (An (Am (K:=K)) (pv 2) A5) (pv 0)))))) (Dq (A0 (A7 (A4 (K:=K) hu) (pv 2) (An (Am (K:=K)) (pv 3) A5) (by ac_rfl)) (A0 (A7 (A4 (K:=K) hu) (pv 2) (An (Am (K:=K)) (pv 3) A5) (by ac_rfl)) A1)))))) Ap)
  (A2 (Bv (Ag (Et (K:=K) hq) (pv 4) A5 (Aq _)) (A2 (Ai (i:=8) B1.nd ⋯ (by with_unfolding_all exact A3I rfl) (Ce (Ve (K:=K)) (pv 2) (Ca (pv 3)) (Ca (An (Am (K:=K)) (pv 3) (pv 6)))))
  (A2 (Ai (i:=9) B1.nd ⋯ (by with_unfolding_all exact A3I rfl) (Ce (Ve (K:=K)) (pv 2) (Ca (An (Am (K:=K)) (An (Am (K:=K)) (pv 3) (pv 6)) A5)) (Ca (An (Am (K:=K)) (pv 3) (pv 5)))))
  (A6 (G0 (i:=7) ["_law_k"] ["_law_head","_law_letters","_law_start","_law_tail"] [8,2,3,9] ⋯ ⋯ ⋯ B1.nd ⋯ ⋯ (Do ⋯ T.b_range (A0 A5 A1)) (λ_ _ _ _=>(Ac (i:=0) (by with_unfolding_all (show(["_law_k","_law_head","_law_letters","_law_start","_law_tail"]:List Str).Nodup;decide +kernel)) ⋯ (by eq_refl))) (B5 ∅) (λ_ _ _ _=>Cv) (λ_ _ _ _=>(An (Am (K:=K)) (An (Am (K:=K)) (pv 1) (A7 (A4 (K:=K) hu) (pv 2) (An (Am (K:=K)) (pv 3) (An Lu (An By A5 (pv 0)) A5)) (by ac_rfl))) (pv 4))))))) Ap)
  (A2 (Bv (Ag (Et (K:=K) hq) (pv 4) A5 (Aq _)) (A6 (G0 (i:=7) ["_law_k"] ["_law_letters","_law_start"] [2,3] ⋯ ⋯ ⋯ B1.nd ⋯ ⋯ (Do ⋯ T.b_range (A0 A5 A1)) (λ_ _ _ _=>(Ac (i:=0) (by with_unfolding_all (show(["_law_k","_law_letters","_law_start"]:List Str).Nodup;decide +kernel)) ⋯ (by eq_refl))) (B5 ∅) (λ_ _ _ _=>Cv) (λ_ _ _ _=>(Ce (Ve (K:=K)) (pv 1) (Ca (An (Am (K:=K)) (pv 2) (pv 0))) (Ca (An (Am (K:=K)) (An (Am (K:=K)) (An (Am (K:=K)) (pv 2) (pv 0)) A5) (An Lu (An By A5 (pv 0)) A5))))))) Ap)
  (A2 (Ai (i:=10) B1.nd ⋯ (by eq_refl) (Ae A8 (hr.mono ∅) ⋯ (A0 (pv 0) (A0 A5 A1))))
  (A2 (Ai (i:=7) B1.nd ⋯ (by eq_refl) (An (Am (K:=K)) (Ce (Ve (K:=K)) (pv 7) (Ca (pv 10)) Ga) (Ce (Ve (K:=K)) (pv 7) Ga (Ca (pv 10)))))
  (A6 (Aj (Ux (Ce (Ve (K:=K)) (pv 7) Ga (Ca (pv 1))) (A7 (A4 (K:=K) hu) (Dq (A0 A5 (A0 (aP4 aH6 A5) A1))) (Ae A8 (hr.mono ∅) ⋯ (A0 (pv 0) (A0 A5 A1))) (by ac_rfl)))))))))))))))),?_⟩
 symm
 refine ay8 ∅ ?_;rw[aH8]
 symm
 refine⟨d,l,_,rfl,hF,by omega,by omega,λst H1 hs0 hs1 e1 hF1=>?_⟩
 symm
 refine⟨d,l,_,rfl,hF1,by omega,by omega,λway H2 hw0 hw1 e2 hF2=>?_⟩
 symm
 refine⟨d,l,_,rfl,hF2,by omega,by omega,λsz H3 hz0 hz1 e3 hF3=>?_⟩
 symm
 refine⟨d,l,_,rfl,hF3,by omega,by omega,λat' H4 ha0 ha1 e4 hF4=>?_⟩
 symm
 refine Eb ∅ λp5 H5 hp5 e5 h5=>?_;walk_at "rq";have fr4:ExtBut d H H4:=by walk_at "fr"
 have hF5:Feed H5 d l:=by walk_at "fd"
 with_reducible refine Se (MN H d l n st way sz at') (λN hN=>?_) (fun σ1 H6 hM=>?_)
 . walk_at "rq";refine Oz (λhw=>?_) (λhw=>?_)
   . walk_at "rq";refine Jw nofun ?_;refine Ko Cg (fI λk=>.str (Txt.slice LL (some st) (some (st+1+k)))) (by simp) (λ_ _=>trivial) (λi x H6 R hx e6 hR=>?_) (λp6 H6 hp6 e6 h6=>?_)
     . obtain⟨rfl,hi⟩:=Gz hx;walk_at "rq";exact hR
     rw[W6 (G:=λk=>txt (Po st.toNat (st.toNat+1+k))) (λk hk=>by
      have e:=Xu (i:=st) (j:=st+1+(0+(k:Int))) hs0 nofun (by have:((8:Int)).toNat=8:=rfl;omega);have e2:(st+1+(0+(k:Int))).toNat=st.toNat+1+k:=by omega
      rw[e2] at e;rw[e])] at h6
     obtain⟨c9,hc9,e9⟩:=ay5 (i:=st+9) nofun nofun;obtain⟨c10,hc10,e10⟩:=ay5 (i:=st+10) nofun nofun;walk_at "rq";refine au3 W9 hc9 ?_;walk_at "rq";refine au3 W9 hc10 ?_;walk_at "rq";refine Eb (Af (by simp)) λp7 H7 hp7 e7 h7=>?_;refine ad4 (by walk_at "lk") h7 (by simp[sizeLine_eq]) λp8 H8 hp8 e8 h8=>?_;walk_at "rq";have f5:ExtBut d H H5:=by walk_at "fr"
     refine hN _ _ ⟨p8,(nm0 st.toNat).map txt,none,none,rfl,Feed.free (l:=l) (H':=H7) (by walk_at "fd") (by walk_at "fr") hp8,by walk_at "fr",by walk_at "fd",?_,aD2 nofun,by simp[nm0]⟩;rw[h8,e9,e10];have q9:(st+9).toNat=st.toNat+9:=by omega
     have q10:(st+10).toNat=st.toNat+10:=by omega
     rw[q9,q10];simp[nm0,Function.comp_def]
   walk_at "rq";refine hN _ _ ⟨p5,nm3,none,none,rfl,hF4.free fr4 hp5,by walk_at "fr",hF5,h5,aD4,rfl⟩
 obtain⟨p,ns,x8,x9,rfl,hp,e6,hF6,h6,hN6,hl6⟩:=hM
 with_reducible refine Se (MN H d l n st way sz at') (λN hN=>?_) (fun σ1 H7 hM=>?_)
 . walk_at "rq";refine Oz (λhw=>?_) (λhw=>?_)
   . walk_at "rq";refine Jw nofun ?_;have c1:=Xu (i:=st) (j:=st+at') hs0 nofun nofun;have c2:=Xu (i:=st+at'+1) (j:=st+(1+sz)) nofun nofun nofun;rw[c1,c2];refine Ko Cg (fI λk=>.str (txt (Po st.toNat (st+at').toNat)++txt (So (st+5*k % 26).toNat)++txt (Po (st+at'+1).toNat (st+(1+sz)).toNat))) (by simp) (λ_ _=>trivial) (λi x H8 R hx e8 hR=>?_) (λp8 H8 hp8 e8 h8=>?_)
     . obtain⟨rfl,hi⟩:=Gz hx;have hm0:=A4C (5*(0+(i:Int))) (show(26:Int)≠0 by decide);have hm1:=A3P (5*(0+(i:Int))) (show(0:Int)<26 by decide);obtain⟨c,hc,ec⟩:=ay5 (i:=st+5*(0+(i:Int)) % 26) nofun nofun;walk_at "rq";refine au3 W9 hc ?_;rw[ec];have l1:(txt (Po st.toNat (st+at').toNat)).length<=52:=by show(Po _ _).toArray.size<=_;unfold Po;simp[L7];omega
       have l2:(txt (Po (st+at'+1).toNat (st+(1+sz)).toNat)).length<=52:=by show(Po _ _).toArray.size<=_;unfold Po;simp[L7];omega
       have l3:(txt (So (st+5*(0+(i:Int)) % 26).toNat)).length<=52:=by show(So _).toArray.size<=_;unfold So;simp[L7];omega
       refine i_addS (Af nofun) ?_;have l4:(txt (Po st.toNat (st+at').toNat)++txt (So (st+5*(0+(i:Int)) % 26).toNat)).length<=104:=by rw[Str.length_append];omega
       walk_at "rq";exact hR
     rw[W6 (G:=λk=>txt (Po st.toNat (st.toNat+at'.toNat)++So (st.toNat+5*k % 26)++Po (st.toNat+at'.toNat+1) (st.toNat+(1+sz).toNat))) (λk hk=>by
      have q1:(st+at').toNat=st.toNat+at'.toNat:=by omega
      have q2:(st+5*(0+(k:Int)) % 26).toNat=st.toNat+5*k % 26:=by omega
      have q3:(st+at'+1).toNat=st.toNat+at'.toNat+1:=by omega
      have q4:(st+(1+sz)).toNat=st.toNat+(1+sz).toNat:=by omega
      rw[q1,q2,q3,q4,Zl,Zl])] at h8
     walk_at "rq";refine hN _ _ ⟨p8,(nm1 st.toNat (1+sz).toNat at'.toNat).map txt,_,_,rfl,hF6.free e6 hp8,by walk_at "fr",by walk_at "fd",?_,aD0 nofun nofun nofun,by simp[nm1]⟩;rw[h8];simp[nm1,Function.comp_def]
   walk_at "rq";exact hN _ _ ⟨p,ns,x8,x9,rfl,hp,e6,hF6,h6,hN6,hl6⟩
 obtain⟨p',ns',x8',x9',rfl,hp',e7,hF7,h7,hN7,hl7⟩:=hM
 with_reducible refine Se (MN H d l n st way sz at') (λN hN=>?_) (fun σ1 H8 hM=>?_)
 . walk_at "rq";refine Oz (λhw=>?_) (λhw=>?_)
   . walk_at "rq";refine Jw nofun ?_;refine Ko Cg (fI λk=>.str (Txt.slice LL (some (st+k)) (some (st+k+1+3*k % 8)))) (by simp) (λ_ _=>trivial) (λi x H8 R hx e8 hR=>?_) (λp8 H8 hp8 e8 h8=>?_)
     . obtain⟨rfl,hi⟩:=Gz hx;walk_at "rq";exact hR
     rw[W6 (G:=λk=>txt (Po (st.toNat+k) (st.toNat+k+1+3*k % 8))) (λk hk=>by
      have h10:((10:Int)).toNat=10:=rfl;have e:=Xu (i:=st+(0+(k:Int))) (j:=st+(0+(k:Int))+1+3*(0+(k:Int)) % 8) nofun nofun nofun;have q1:(st+(0+(k:Int))).toNat=st.toNat+k:=by omega
      have q2:(st+(0+(k:Int))+1+3*(0+(k:Int)) % 8).toNat=st.toNat+k+1+3*k % 8:=by omega
      rw[q1,q2] at e;rw[e])] at h8
     walk_at "rq";refine hN _ _ ⟨p8,(nm2 st.toNat).map txt,_,_,rfl,hF7.free e7 hp8,by walk_at "fr",by walk_at "fd",?_,aE9 nofun,by simp[nm2]⟩;rw[h8];simp[nm2,Function.comp_def]
   walk_at "rq";exact hN _ _ ⟨p',ns',x8',x9',rfl,hp',e7,hF7,h7,hN7,hl7⟩
 obtain⟨p2,ms,y8,y9,rfl,hp2,e8,hF8,h8,hN8,hl8⟩:=hM
 symm
 refine⟨d,l,_,rfl,hF8,by omega,by omega,λtn H9 ht0 ht1 e9 hF9=>?_⟩;have nd2:p2≠d:=hF8.lst h8
 symm
 have h9:H9 p2=some (.lst (ms.map V.str)):=e9 _ _ nd2 h8;refine Ni (SqL.of h9) λq1 H10 hq1 e10 h10=>?_
 symm
 refine Ni (SqL.of (show H10 p2=some (.lst (ms.map V.str)) by walk_at "lk")) λq2 H11 hq2 e11 h11=>?_
 symm
 rw[Qw ht0 (by rw[A01];omega)] at h10;rw[Hv ht0] at h11;refine ad4 (by walk_at "lk") h11 (Af (by simp;omega)) λq3 H12 hq3 e12 h12=>?_
 symm
 rw[<- A4T,<- A34,<- A0M] at h12;refine Ni (SqL.of h12) λq4 H13 hq4 e13 h13=>?_
 symm
 rw[Hv hn0,<- A34] at h13;refine Eb ∅ λq5 H14 hq5 e14 h14=>?_
 symm
 refine⟨d,l,2,rfl,by walk_at "fd",by omega,by omega,λr H15 hr0 hr1 e15 hF15=>?_⟩;have hq5d:q5≠d:=Ne.symm (Feed.nd (H:=H13) (l:=l) (by walk_at "fd") hq5);have hq4d:q4≠d:=Ne.symm (Feed.nd (H:=H12) (l:=l) (by walk_at "fd") hq4);have h15:H15 q4=some (.lst (((ms.drop tn.toNat++ms.take tn.toNat).take n.toNat).map V.str)):=e15 _ _ hq4d (by walk_at "lk");have g15:H15 q5=some (.lst [V.int 1,V.int (-1)]):=e15 _ _ hq5d h14
 have hstep:∃ k,atI [V.int 1,V.int (-1)] r=some (V.int k)/\(k=1\/k = -1):=by
  rcases(by omega:r=0\/r=1) with rfl|rfl
  . exact⟨1,rfl,.inl rfl⟩
  exact⟨-1,rfl,.inr rfl⟩
 obtain⟨kk,hk1,hk2⟩:=hstep;refine Dx g15 hk1 ?_;refine aK9 (SqL.of h15) hk2 λq6 H16 hq6 e16 h16=>?_;obtain⟨os,eo,ho1,ho2⟩:=Yg (k:=kk) (hN8.turn tn.toNat n.toNat);rw[eo] at h16;have fr15:ExtBut d H H15:=by walk_at "fr"
 refine k q6 os H16 (hF15.free fr15 hq6) (by walk_at "fr") (by walk_at "fd") h16 ho1 ?_;rw[ho2,A0T,A0C,A1H,A0T];omega
def Du (K:W.Frag):Sp:=λvs H Q _=>∃ d l a xs,vs=[.ref d,.ref a]/\Feed H d l/\(SqL K H a xs\/SqT K H a xs)/\xs.length<=1000/\∀ p ys H',H p=none->ExtBut d H H'->Feed H' d l->H' p=some (.lst ys)->ys.Perm xs->Q (.ref p) H'
theorem M6 {f:Addr}{fd:FuncData}(F:Fun K "_law_shuffled" "_law_shuffled" Ch f fd)(T:Ej mg)(A8:Fnd P w K mg base 1 "_law_draw" ["_law_feed_here","_law_many"] (Br K)):FnOk P w K mg base CX0 2 f fd ["_law_feed_here","_law_some"] (Du K):=by
 refine F.ok Dv (λvs H Q E h=>?_) (λcdv A outer s H vs Q E hr h=>?_)
 . obtain⟨d,l,a,xs,rfl,_⟩:=h;rfl
 obtain⟨d,l,a,xs,rfl,hF,hS,hx,k⟩:=h;have hu:=Bf hr;have hq:=Bd hr
 with_reducible refine⟨_,(A2 (Ai (i:=2) Dv.nd ⋯ (by eq_refl) (Ax (L8 (K:=K)) ⋯ T.b_list PyProof.Rows.Boot.«list» (A0 (pv 1) A1)))
  (A2 (Ai (i:=3) Dv.nd ⋯ (by eq_refl) (Dq A1))
  (A2 (Cm A0V ⋯ (Do ⋯ T.b_range (A0 (Al (At (K:=K)) ⋯ T.b_len PyProof.Rows.Boot.«len» (A0 (pv 2) A1)) A1)) (Ac (i:=4) Dv.nd ⋯ (by eq_refl))
  (A6 (Cb (G6 (K:=K) A14 A2X A2Y (mm Hg) (pv 3) (A0 (G6 (K:=K) A14 PySem.F.slot_list_pop PySem.F.type_list_pop (mm Xg) (pv 2) (A0 (Ae A8 (hr.mono ∅) ⋯ (A0 (pv 0) (A0 (Al (At (K:=K)) ⋯ T.b_len PyProof.Rows.Boot.«len» (A0 (pv 2) A1)) A1))) A1)) A1)))))
  (A6 (Aj (pv 3)))))),?_⟩
 symm
 refine ad6 hS λq H1 hq1 e1 h1=>?_
 symm
 refine Eb ∅ λp H2 hp2 e2 h2=>?_
 symm
 refine Jw nofun ?_;have hp0:H p=none:=e1.free hp2;have hpq:p≠q:=λz=>by subst z;rw[h1] at hp2;cases hp2
 refine Ie Cg (λi σ H3=>∃ us vs x4,σ=[some (.ref d),some (.ref a),some (.ref q),some (.ref p),x4]/\ExtBut d H H3/\Feed H3 d l/\H3 q=some (.lst us)/\H3 p=some (.lst vs)/\(vs++us).Perm xs/\us.length+i=xs.length/\vs.length=i)
  ⟨xs,[],none,rfl,by walk_at "fr",by walk_at "fd",by walk_at "lk",h2,by simp,rfl,rfl⟩ (λ_ _ _ _=>trivial) (λi x σ H3 hx3 hi hP=>?_) (fun σ H3 hP=>?_)
 . obtain⟨us,vs,x4,rfl,e3,hF3,h3q,h3p,hperm,hlen,hvl⟩:=hP;obtain⟨rfl,hi2⟩:=Gz hx3;have hi3:i<xs.length:=by simpa using hi2
   symm
   refine⟨d,l,_,rfl,hF3,by omega,by omega,λr H4 hr0 hr1 e4 hF4=>?_⟩;have h4q:H4 q=some (.lst us):=e4 _ _ (hF3.lst h3q) h3q;have h4p:H4 p=some (.lst vs):=e4 _ _ (hF3.lst h3p) h3p;have hr2:r.toNat<us.length:=by omega
   symm
   refine Wy h4q hr0 (A04 hr2) (λH5 e5 h5q=>?_) nofun;have h5p:H5 p=some (.lst vs):=e5 _ _ hpq h4p
   symm
   refine Sq h5p nofun λH6 e6 h6p=>?_
   symm
   refine⟨us.eraseIdx r.toNat,vs++[us[r.toNat]],_,rfl,by walk_at "fr",(hF4.put e5 (hF.nd hq1) (hF.nl hq1)).put e6 (hF.nd hp0) (hF.nl hp0),e6 _ _ (Ne.symm hpq) h5q,h6p,?_,?_,by simp[hvl]⟩
   . exact(ak9 (A04 hr2) vs).trans hperm
   rw[List.length_eraseIdx,A15 hr2];omega
 obtain⟨us,vs,x4,rfl,e3,hF3,h3q,h3p,hperm,hlen,hvl⟩:=hP
 symm
 have hu0:us=[]:=by rw[A01,A1B] at hlen;exact A1A.mp nofun
 subst hu0;rw[A1Z] at hperm;exact k p vs H3 hp0 e3 hF3 h3p hperm
def Hq (K:W.Frag):Sp:=λvs H Q _=>∃ d l a ls,vs=[.ref d,.ref a]/\Feed H d l/\H a=some (.lst (ls.map V.str))/\ls.length<=10/\∀ p xs ps H',H p=none->ExtBut d H H'->Feed H' d l->H' p=some (.lst xs)->IsL K H' (ps.map prD) xs->Up ls ps->ps.length<=100->Q (.ref p) H'
def MP (K:W.Frag)(H:Hp)(d l a:Addr)(ls:List Str)(way:Int)(E:Prop):L2.St->Hp->Prop:=fun σ' H'=>∃ p xs ps x5 x6 x7 x8,σ'=[some (V.ref d),some (.ref a),some (.int (ls.length:Nat)),some (.int way),some (.ref p),x5,x6,x7,x8]/\H p=none/\ExtBut d H H'/\Feed H' d l/\H' p=some (.lst xs)/\IsL K H' (ps.map prD) xs/\Up ls ps/\ps.length<=100/\(E->ps=[])
theorem Sn {K:W.Frag}{H:Hp}{ps:List (Str×Str)}{xs:List V}(h:IsL K H (ps.map prD) xs):xs.length=ps.length:=by rw[<- IsL.length h,A01]
theorem Sc {f:Addr}{fd:FuncData}(F:Fun K "_law_pairs" "_law_pairs" Ec f fd)(T:Ej mg)(A8:Fnd P w K mg base 1 "_law_draw" ["_law_feed_here","_law_many"] (Br K)):FnOk P w K mg base CX0 2 f fd ["_law_feed_here","_law_line"] (Hq K):=by
 refine F.ok B6 (λvs H Q E h=>?_) (λcdv A outer s H vs Q E hr h=>?_)
 . obtain⟨d,l,a,xs,rfl,_⟩:=h;rfl
 obtain⟨d,l,a,ls,rfl,hF,hA,hl,k⟩:=h;have hu:=Bf hr;have hq:=Bd hr
 with_reducible refine⟨_,(A2 (Ai (i:=2) B6.nd ⋯ (by eq_refl) (Al (At (K:=K)) ⋯ T.b_len PyProof.Rows.Boot.«len» (A0 (pv 1) A1)))
  (A2 (Ai (i:=3) B6.nd ⋯ (by eq_refl) (Ae A8 (hr.mono ∅) ⋯ (A0 (pv 0) (A0 A5 A1))))
  (A2 (Ai (i:=4) B6.nd ⋯ (by eq_refl) (Dq A1))
  (A2 (Bv (PW.pt (Te (Ag ac6 (pv 3) A5 (Aq _)) (Na (Ag Ua (pv 2) A5 (Aq _))))) (A6 (Cm A0V ⋯ (Do ⋯ T.b_range (A0 (A7 (A4 (K:=K) hu) (Dq (A0 (An Jh (pv 2) A5) (A0 (pv 2) (A0 (An By A5 (pv 2)) A1)))) (pv 3) (by ac_rfl)) A1)) (Ac (i:=5) B6.nd ⋯ (by eq_refl))
  (A2 (Ai (i:=6) B6.nd ⋯ (by eq_refl) (Ae A8 (hr.mono ∅) ⋯ (A0 (pv 0) (A0 (An Lp (pv 2) A5) A1))))
  (A6 (Cb (G6 (K:=K) A14 A2X A2Y (mm Hg) (pv 4) (A0 (Bi (A0 (A7 (A4 (K:=K) hu) (pv 1) (pv 6) (by ac_rfl)) (A0 (A7 (A4 (K:=K) hu) (pv 1) (An (Am (K:=K)) (An (Am (K:=K)) (pv 6) A5) (Ae A8 (hr.mono ∅) ⋯ (A0 (pv 0) (A0 (An Lp (An Lp (pv 2) A5) (pv 6)) A1)))) (by ac_rfl)) A1))) A1))))))) Ap)
  (A2 (Bv (Ag (Et (K:=K) hq) (pv 3) A5 (Aq _)) (A2 (Ai (i:=7) B6.nd ⋯ (by with_unfolding_all exact A3I rfl) (Ae A8 (hr.mono ∅) ⋯ (A0 (pv 0) (A0 (An (Am (K:=K)) (pv 2) A5) A1))))
  (A6 (G0 (i:=4) ["_law_k"] ["_law_line","_law_cut"] [1,7] ⋯ ⋯ ⋯ B6.nd ⋯ ⋯ (Do ⋯ T.b_range (A0 (An Lp (pv 2) A5) A1)) (λ_ _ _ _=>(Ac (i:=0) (by with_unfolding_all (show(["_law_k","_law_line","_law_cut"]:List Str).Nodup;decide +kernel)) ⋯ (by eq_refl))) (B5 ∅) (λ_ _ _ _=>(Ex (Ag (Fj (K:=K) hq) (An (Am (K:=K)) (pv 0) A5) (pv 2) (Aq _)))) (λ_ _ _ _=>(Bi (A0 (A7 (A4 (K:=K) hu) (pv 1) (pv 0) (by ac_rfl)) (A0 (A7 (A4 (K:=K) hu) (pv 1) (An (Am (K:=K)) (pv 0) A5) (by ac_rfl)) A1))))))) Ap)
  (A2 (Bv (Ag (Et (K:=K) hq) (pv 3) A5 (Aq _)) (A6 (G0 (i:=4) ["_law_k"] ["_law_line","_law_feed_here"] [1,0] ⋯ ⋯ ⋯ B6.nd ⋯ ⋯ (Zw ⋯ T.b_range (A0 A5 (A0 (pv 2) A1))) (λ_ _ _ _=>(Ac (i:=0) (by with_unfolding_all (show(["_law_k","_law_line","_law_feed_here"]:List Str).Nodup;decide +kernel)) ⋯ (by eq_refl))) (B5 ∅) (λ_ _ _ _=>(Ex (Ag Ua (Ae A8 (hr.mono ∅) ⋯ (A0 (pv 2) (A0 A5 A1))) A5 (Aq _)))) (λ_ _ _ _=>(Bi (A0 (A7 (A4 (K:=K) hu) (pv 1) (Ae A8 (hr.mono ∅) ⋯ (A0 (pv 2) (A0 (pv 0) A1))) (by ac_rfl)) (A0 (A7 (A4 (K:=K) hu) (pv 1) (pv 0) (by ac_rfl)) A1)))))) Ap)
  (A2 (Bv (Ag (Et (K:=K) hq) (pv 3) A5 (Aq _)) (A2 (Ai (i:=7) B6.nd ⋯ (by with_unfolding_all exact A3I rfl) (Ae A8 (hr.mono ∅) ⋯ (A0 (pv 0) (A0 (An (Am (K:=K)) (pv 2) A5) A1))))
  (A6 (Cm A0V ⋯ (Av (K:=K) hu (Ce (Ve (K:=K)) (pv 1) Ga (Ca (pv 7)))) (Ac (i:=8) B6.nd ⋯ (by with_unfolding_all exact A3I rfl))
  (A6 (Cb (G6 (K:=K) A14 A2Z A30 (mm Iz) (pv 4) (A0 (Bl ["_law_other"] ["_law_one"] [8] ⋯ ⋯ ⋯ (Av (K:=K) hu (Ce (Ve (K:=K)) (pv 1) (Ca (pv 7)) Ga)) (λ_ _ _ _=>(Ac (i:=0) (by with_unfolding_all (show(["_law_other","_law_one"]:List Str).Nodup;decide +kernel)) ⋯ (by eq_refl))) (B5 ∅) (λ_ _ _ _=>Cv) (λ_ _ _ _=>(Bi (A0 (pv 1) (A0 (pv 0) A1))))) A1))))))) Ap)
  (A6 (Aj (pv 4)))))))))),?_⟩
 symm
 rw[A01];refine⟨d,l,_,rfl,hF,by omega,by omega,λway H1 hw0 hw1 e1 hF1=>?_⟩;have had:a≠d:=hF.lst hA
 symm
 refine Eb ∅ λp H2 hp2 e2 h2=>?_;walk_at "rq";have hp0:H p=none:=hF1.free e1 hp2;have hF2:Feed H2 d l:=by walk_at "fd"
 have hA2:H2 a=some (.lst (ls.map V.str)):=by walk_at "lk"
 with_reducible refine Se (MP K H d l a ls way (way=5)) (λN hN=>?_) (fun σ1 H3 hM=>?_)
 . walk_at "rq";have done0:N [some (V.ref d),some (.ref a),some (.int (ls.length:Nat)),some (.int way),some (.ref p),none,none,none,none] H2:=hN _ _ ⟨p,[],[],none,none,none,none,rfl,hp0,by walk_at "fr",hF2,h2,.nil,.nil,by decide,λ_=>rfl⟩;refine Oz (λhw=>?_) (λhw=>?_)
   . walk_at "rq";refine Oz (λhm=>?_) (λhm=>?_)
     . walk_at "rq";refine Eb (Af (by simp)) λq H3 hq3 e3 h3=>?_
       have hm3:∃ m,atI [V.int ((ls.length:Nat) / 2),V.int (ls.length:Nat),V.int (3*(ls.length:Nat))] way=some (V.int m)/\0<=m/\m<=30:=by
        rcases(by omega:way=0\/way=1\/way=2) with rfl|rfl|rfl
        . exact⟨_,rfl,by omega,by omega⟩
        . exact⟨_,rfl,by omega,by omega⟩
        exact⟨_,rfl,by omega,by omega⟩
       obtain⟨m,hm1,hm2,hm3⟩:=hm3;walk_at "rq";refine Dx h3 hm1 ?_;walk_at "rq";refine Jw nofun ?_
       refine Ie Cg (λi σ H4=>∃ xs ps x5 x6,σ=[some (V.ref d),some (.ref a),some (.int (ls.length:Nat)),some (.int way),some (.ref p),x5,x6,none,none]/\ExtBut d H H4/\Feed H4 d l/\H4 p=some (.lst xs)/\IsL K H4 (ps.map prD) xs/\Up ls ps/\ps.length=i)
        ⟨[],[],none,none,rfl,by walk_at "fr",by walk_at "fd",by walk_at "lk",.nil,.nil,rfl⟩ (λ_ _ _ _=>trivial) (λi x σ H4 hx4 hi hP=>?_) (fun σ H4 hP=>?_)
       . obtain⟨xs,ps,x5,x6,rfl,e4,hF4,h4,hI4,hU,hpl⟩:=hP;obtain⟨rfl,hi2⟩:=Gz hx4;have hA4:H4 a=some (.lst (ls.map V.str)):=e4 _ _ had hA
         symm
         refine⟨d,l,_,rfl,hF4,by omega,by omega,λu H5 hu0 hu1 e5 hF5=>?_⟩;obtain⟨z1,hz1,hz1',_⟩:=str_at? (ls:=ls) (i:=u) hu0 nofun;have hA5:H5 a=some (.lst (ls.map V.str)):=e5 _ _ had hA4;have h5:H5 p=some (.lst xs):=e5 _ _ (hF4.lst h4) h4
         symm
         refine Dx hA5 hz1' ?_
         symm
         refine⟨d,l,_,rfl,hF5,by omega,by omega,λu2 H6 hv0 hv1 e6 hF6=>?_⟩;obtain⟨z2,hz2,hz2',_⟩:=str_at? (ls:=ls) (i:=u+1+u2) nofun nofun;have hA6:H6 a=some (.lst (ls.map V.str)):=e6 _ _ had hA5;have h6:H6 p=some (.lst xs):=e6 _ _ (hF5.lst h5) h5
         symm
         refine Dx hA6 hz2' ?_
         symm
         refine Bp (Af (by simp)) λt H7 ht7 e7 h7=>?_;have h7p:H7 p=some (.lst xs):=e7 _ _ h6;have hxl:=Sn hI4
         symm
         refine Sq h7p nofun λH8 e8 h8=>?_
         symm
         have fz8:Fz H7 H8:=e8.fzL h7p;have fz7:Fz H4 H7:=((hF4.fz e5).trans (hF5.fz e6)).trans e7.fz;refine⟨xs++[.ref t],ps++[(z1,z2)],_,_,rfl,by walk_at "fr",by walk_at "fd",h8,?_,?_,by simp[hpl]⟩
         . rw[A0M];exact(IsL.fz (fz7.trans fz8) _ _ (Cf ps) hI4).append (.one ((Pd (SqT.of h7)).pr_fz fz8))
         exact hU.append (.one nofun hz1 hz2)
       obtain⟨xs,ps,x5,x6,rfl,e4,hF4,h4,hI4,hU,hpl⟩:=hP;rw[A01,A1B] at hpl;exact hN _ _ ⟨p,xs,ps,_,_,_,_,rfl,hp0,e4,hF4,h4,hI4,hU,by omega,λq=>by omega⟩
     walk_at "rq";exact done0
   walk_at "rq";exact done0
 obtain⟨p3,xs3,ps3,x5,x6,x7,x8,rfl,hp3,e3,hF3,h3,hI3,hU3,hl3,hE3⟩:=hM;have hA3:H3 a=some (.lst (ls.map V.str)):=e3 _ _ had hA
 with_reducible refine Se (MP K H d l a ls way (way=5)) (λN hN=>?_) (fun σ1 H4 hM=>?_)
 . walk_at "rq";refine Oz (λhw=>?_) (λhw=>?_)
   . symm
     refine⟨d,l,_,rfl,hF3,by omega,by omega,λcut H4 hc0 hc1 e4 hF4=>?_⟩;have hA4:H4 a=some (.lst (ls.map V.str)):=e4 _ _ had hA3
     symm
     refine Jw nofun ?_;refine Jc (K:=K) Cg (List.range ((ls.length:Nat)-1:Int).toNat) (by simp) (λk=>!decide (V.int ((0:Int)+(k:Nat)+1)=V.int cut)) (λk=>prD (ls.getD k "",ls.getD (k+1) "")) (λ_=>G7 _) (by simp;omega) (λ_ _=>trivial) (λi k v H5 R R' hk hv e5 hR hR'=>?_) (λp5 ys H5 hp5 e5 h5 hI5=>?_)
     . obtain⟨rfl,hi2⟩:=Gz hv
       have hki:i=k:=by obtain⟨_,h2⟩:=A03.mp hk;rw[List.getElem_range] at h2;exact h2
       subst hki;have hA5:H5 a=some (.lst (ls.map V.str)):=e5 _ _ hA4
       symm
       refine Ps (λhc=>?_) (λhc=>?_)
       . obtain⟨z1,hz1,hz1',_⟩:=str_at? (ls:=ls) (i:=0+(i:Int)) nofun nofun;obtain⟨z2,hz2,hz2',_⟩:=str_at? (ls:=ls) (i:=0+(i:Int)+1) nofun nofun
         symm
         refine Dx hA5 hz1' ?_
         symm
         refine Dx hA5 hz2' ?_
         symm
         refine Bp (Af (by simp)) λt H6 ht6 e6 h6=>?_;have q1:(0+(i:Int)).toNat=i:=by omega
         have q2:(0+(i:Int)+1).toNat=i+1:=by omega
         rw[q1] at hz1;rw[q2] at hz2;refine hR (by rw[A0P hc];rfl) _ _ e6 ?_;rw[W8 hz1,W8 hz2];exact Pd (SqT.of h6)
       exact hR' (by rw[A0S hc];rfl) _ (Same.refl _)
     symm
     rw[af8] at hI5;have hp0':H p5=none:=hF4.free (by walk_at "fr") hp5;refine hN _ _ ⟨p5,ys,_,_,_,_,_,rfl,hp0',by walk_at "fr",by walk_at "fd",h5,hI5,λpr hpr=>?_,?_,λq=>by cases hw;cases q⟩
     . obtain⟨j,hj,rfl⟩:=A0A.mp hpr;have hj:=A1U.mp (A0N.mp hj).1;exact⟨j,j+1,by omega,Gn nofun,Gn nofun⟩
     rw[A01];refine A0H (A0O _ _) ?_;rw[A1B];omega
   walk_at "rq";exact hN _ _ ⟨p3,xs3,ps3,x5,x6,x7,x8,rfl,hp3,e3,hF3,h3,hI3,hU3,hl3,hE3⟩
 obtain⟨p4,xs4,ps4,y5,y6,y7,y8,rfl,hp4,e4,hF4,h4,hI4,hU4,hl4,hE4⟩:=hM;have hA4:H4 a=some (.lst (ls.map V.str)):=e4 _ _ had hA
 with_reducible refine Se (MP K H d l a ls way (way=5)) (λN hN=>?_) (fun σ1 H5 hM=>?_)
 . walk_at "rq";refine Oz (λhw=>?_) (λhw=>?_)
   . symm
     refine aI9 nofun ?_;refine J4 Cg (λp i acc H5=>∃ ps,ExtBut d H H5/\Feed H5 d l/\IsL K H5 (ps.map prD) acc/\Up ls ps/\ps.length<=i) (λp H5 hp e5 h5=>⟨[],by walk_at "fr",by walk_at "fd",.nil,.nil,A0D _⟩) (λ_ _ _ _ _=>trivial) (λp i x acc H5 hp hx hi hl5 ha hP=>?_) λp acc H5 hp ha hl5 hP=>?_
     . obtain⟨ps,e5,hF5,hI5,hU5,hpl5⟩:=hP;obtain⟨rfl,hi2⟩:=Gz hx;have hp0':H p=none:=hF4.free e4 hp;have hpd:p≠d:=Ne.symm (hF4.nd hp)
       symm
       refine⟨d,l,_,rfl,hF5,by omega,by omega,λu H6 hu0 hu1 e6 hF6=>?_⟩
       symm
       have h6:H6 p=some (.lst acc):=e6 _ _ hpd ha;have hA6:H6 a=some (.lst (ls.map V.str)):=e6 _ _ had (e5 _ _ had hA);refine Oz (λhc=>?_) (λhc=>?_)
       . symm
         refine⟨d,l,_,rfl,hF6,by omega,by omega,λu2 H7 hv0 hv1 e7 hF7=>?_⟩;have h7:H7 p=some (.lst acc):=e7 _ _ hpd h6;have hA7:H7 a=some (.lst (ls.map V.str)):=e7 _ _ had hA6;obtain⟨z1,hz1,hz1',_⟩:=str_at? (ls:=ls) (i:=u2) hv0 nofun;obtain⟨z2,hz2,hz2',_⟩:=str_at? (ls:=ls) (i:=1+(i:Int)) nofun nofun
         symm
         refine Dx hA7 hz1' ?_
         symm
         refine Dx hA7 hz2' ?_
         symm
         refine Bp (Af (by simp)) λt H8 ht8 e8 h8=>?_;have h8p:H8 p=some (.lst acc):=e8 _ _ h7;refine Ls (by simp;omega) hi hl5 h8p λH9 e9 h9=>?_;have fz9:Fz H8 H9:=e9.fzL h8p;have fz8:Fz H5 H8:=((hF5.fz e6).trans (hF6.fz e7)).trans e8.fz;refine⟨ps++[(z1,z2)],by walk_at "fr",by walk_at "fd",?_,hU5.append (.one nofun hz1 hz2),by simp[hpl5]⟩;rw[A0M];exact(IsL.fz (fz8.trans fz9) _ _ (Cf ps) hI5).append (.one ((Pd (SqT.of h8)).pr_fz fz9))
       refine Nq hi hl5 h6 ⟨ps,by walk_at "fr",hF6,IsL.fz (hF5.fz e6) _ _ (Cf ps) hI5,hU5,by omega⟩
     obtain⟨ps,e5,hF5,hI5,hU5,hpl5⟩:=hP;rw[A01,A1B] at hpl5
     symm
     exact hN _ _ ⟨p,acc,ps,_,_,_,_,rfl,hF4.free e4 hp,e5,hF5,ha,hI5,hU5,by omega,λq=>by cases hw;cases q⟩
   walk_at "rq";exact hN _ _ ⟨p4,xs4,ps4,_,_,_,_,rfl,hp4,e4,hF4,h4,hI4,hU4,hl4,hE4⟩
 obtain⟨p5,xs5,ps5,z5,z6,z7,z8,rfl,hp5,e5,hF5,h5,hI5,hU5,hl5,hE5⟩:=hM;have hA5:H5 a=some (.lst (ls.map V.str)):=e5 _ _ had hA
 with_reducible refine Se (MP K H d l a ls way False) (λN hN=>?_) (fun σ1 H6 hM=>?_)
 . walk_at "rq";refine Oz (λhw=>?_) (λhw=>?_)
   . symm
     refine⟨d,l,_,rfl,hF5,by omega,by omega,λcut H6 hc0 hc1 e6 hF6=>?_⟩;have hA6:H6 a=some (.lst (ls.map V.str)):=e6 _ _ had hA5;have h6:H6 p5=some (.lst xs5):=e6 _ _ (hF5.lst h5) h5
     symm
     refine Ni (SqL.of hA6) λq H7 hq7 e7 h7=>?_;rw[Hv hc0,<- A34] at h7;have hq0:H q=none:=hF6.free (by walk_at "fr") hq7;have hp5n:p5≠q:=ne_of_none h6 hq7;refine Vt (SqL.of h7) ?_
     have hway:way=5:=by cases hw;rfl
     have hps:ps5=[]:=hE5 hway;subst hps;have hxs:xs5=[]:=by simpa only[List.map_nil,L2.IsL] using hI5
     subst hxs;have hdrop:∀ H8,ExtBut d H H8->H8 a=some (.lst (ls.map V.str)):=λH8 e8=>e8 _ _ had hA
     refine Ie (Gc (xs:=(ls.take cut.toNat).map V.str)) (λi σ H8=>∃ xs ps x8,σ=[some (V.ref d),some (.ref a),some (.int (ls.length:Nat)),some (.int way),some (.ref p5),z5,z6,some (.int cut),x8]/\ExtBut d H H8/\Feed H8 d l/\H8 q=some (.lst ((ls.take cut.toNat).map V.str))/\H8 p5=some (.lst xs)/\IsL K H8 (ps.map prD) xs/\Up ls ps/\ps.length<=i*10)
      ⟨[],[],_,rfl,by walk_at "fr",by walk_at "fd",h7,by walk_at "lk",.nil,.nil,by decide⟩ (λi σ H8 hP=>?_) (λi x σ H8 hx8 hi hP=>?_) (fun σ H8 hP=>?_)
     . obtain⟨xs,ps,x8,rfl,e8,hF8,hq8,_⟩:=hP;exact SqL.of hq8
     . obtain ⟨xs,ps,x8,rfl,e8,hF8,hq8,h8,hI8,hU8,hl8⟩:=hP;rw[A09] at hx8
       cases hz:(ls.take cut.toNat)[i]? with
       |none=>rw[hz] at hx8;cases hx8
       |some one=>
         rw[hz] at hx8
         cases hx8
         have hi10:i<10:=by have:=A03.mp hz;obtain⟨h1,_⟩:=this;rw[A0T] at h1;omega
         have hone:ls[i]? = some one:=by
          rw[A4G] at hz
          split at hz
          . exact hz
          cases hz
         have hicut:i<cut.toNat:=by
          rw[A4G] at hz
          split at hz
          . assumption
          cases hz
         symm
         refine Ni (SqL.of (hdrop H8 e8)) λq9 H9 hq9 e9 h9=>?_;rw[Qw hc0 (by rw[A01];omega),<- A4T] at h9;refine Vt (SqL.of h9) ?_;refine Jc (K:=K) (Gc (xs:=(ls.drop cut.toNat).map V.str)) (ls.drop cut.toNat) (by simp) (λ_=>true) (λo=>prD (one,o)) (λ_=>G7 _) (by simp;omega) (λH' e'=>SqL.of (e' _ _ h9)) (λj o v H10 R R' ho hv e10 hR hR'=>?_) (λp10 ys H10 hp10 e10 h10 hI10=>?_)
         . rw[A09,ho] at hv
           cases hv
           symm
           refine Bp (Af (by simp)) λt H11 ht11 e11 h11=>?_;exact hR rfl _ _ e11 (Pd (SqT.of h11))
         symm
         have h10p:H10 p5=some (.lst xs):=e10 _ _ (e9 _ _ h8)
         have hy:ys.length<=10:=by have:=IsL.length hI10;rw[A01,Ib,A1H] at this;omega
         have hxl:=Sn hI8;refine Xi h10p h10 nofun λH11 e11 h11=>?_
         symm
         have hq10:H10 q=some (.lst ((ls.take cut.toNat).map V.str)):=e10 _ _ (e9 _ _ hq8);have fz11:Fz H10 H11:=e11.fzL h10p;rw[Ib,af8] at hI10;refine⟨xs++ys,ps++(ls.drop cut.toNat).map (λo=>(one,o)),_,rfl,by walk_at "fr",by walk_at "fd",e11 _ _ (Ne.symm hp5n) hq10,h11,?_,hU8.append λpr hpr=>?_,?_⟩
         . rw[A0M];exact(IsL.fz ((e9.fz.trans e10.fz).trans fz11) _ _ (Cf ps) hI8).append (IsL.fz fz11 _ _ (Cf _) hI10)
         . obtain⟨o,ho,rfl⟩:=A0A.mp hpr;obtain⟨j,hj,ej⟩:=A23 ho;refine⟨i,cut.toNat+j,by omega,hone,?_⟩;rw[<- List.getElem?_drop,A04 hj,ej]
         rw[A0C,A01,A1H,A4B];omega
     obtain⟨xs,ps,x8,rfl,e8,hF8,hq8,h8,hI8,hU8,hl8⟩:=hP;rw[A01,A0T] at hl8;exact hN _ _ ⟨p5,xs,ps,_,_,_,_,rfl,hp5,e8,hF8,h8,hI8,hU8,by omega,False.elim⟩
   walk_at "rq";exact hN _ _ ⟨p5,xs5,ps5,_,_,_,_,rfl,hp5,e5,hF5,h5,hI5,hU5,hl5,False.elim⟩
 obtain⟨p6,xs6,ps6,w5,w6,w7,w8,rfl,hp6,e6,hF6,h6,hI6,hU6,hl6,hE6⟩:=hM
 symm
 exact k p6 xs6 ps6 H6 hp6 e6 hF6 h6 hI6 hU6 hl6
def Gf (K:W.Frag):Sp:=λvs H Q _=>∃ d l a ls,vs=[.ref d,.ref a]/\Feed H d l/\H a=some (.lst (ls.map V.str))/\ls.length<=10/\∀ v ps H',ExtBut d H H'->Feed H' d l->Is K H' (psD ps) v->Up ls ps->ps.length<=60->Q v H'
theorem ad0 {K:W.Frag}{H:Hp}{ps:List (Str×Str)}{xs:List V}{p:Str×Str}{v:V}(n:Nat)(h:IsL K H (ps.map prD) xs)(hv:Is K H (prD p) v):IsL K H ((ps.take n++p :: ps.drop n).map prD) (aQ7 xs n v):=by rw[A0M,A0R,A34,A4T];exact(IsL.take n h).append (.cons hv (IsL.drop n h))
theorem Nb {f:Addr}{fd:FuncData}(F:Fun K "_law_sayings" "_law_sayings" Cr f fd)(T:Ej mg)(A8:Fnd P w K mg base 1 "_law_draw" ["_law_feed_here","_law_many"] (Br K))(Io:Fnd P w K mg base 2 "_law_pairs" ["_law_feed_here","_law_line"] (Hq K)):FnOk P w K mg base CX0 3 f fd ["_law_feed_here","_law_line"] (Gf K):=by
 refine F.ok Ep (λvs H Q E h=>?_) (λcdv A outer s H vs Q E hr h=>?_)
 . obtain⟨d,l,a,xs,rfl,_⟩:=h;rfl
 obtain⟨d,l,a,ls,rfl,hF,hA,hl,k⟩:=h;have hu:=Bf hr;have hq:=Bd hr
 with_reducible refine⟨_,(A2 (Ai (i:=2) Ep.nd ⋯ (by eq_refl) (Dq A1))
  (A2 (Cm A0V ⋯ (Av (K:=K) hu (Ae Io (hr.mono ∅) ⋯ (A0 (pv 0) (A0 (pv 1) A1)))) (Ac (i:=3) Ep.nd ⋯ (by eq_refl))
  (A6 (Cm A0V ⋯ (Do ⋯ T.b_range (A0 (An (Am (K:=K)) A5 (Ax Nx ⋯ T.b_int PyProof.Rows.Boot.«int» (A0 (Cw (Et (K:=K) hq) (Ae A8 (hr.mono ∅) ⋯ (A0 (pv 0) (A0 A5 A1))) A5 (Aq _)) A1))) A1)) (Ac (i:=4) Ep.nd ⋯ (by eq_refl))
  (A6 (Cb (G6 (K:=K) A14 PySem.F.slot_list_insert PySem.F.type_list_insert (mm Tr) (pv 2) (A0 (Ae A8 (hr.mono ∅) ⋯ (A0 (pv 0) (A0 (An (Am (K:=K)) (Al (At (K:=K)) ⋯ T.b_len PyProof.Rows.Boot.«len» (A0 (pv 2) A1)) A5) A1))) (A0 (pv 3) A1))))))))
  (A6 (Aj (Ax (B3 (K:=K)) ⋯ T.b_tuple PyProof.Rows.Boot.«tuple» (A0 (Ce (Ve (K:=K)) (pv 2) Ga (Ca A5)) A1)))))),?_⟩
 symm
 refine Eb ∅ λp H1 hp1 e1 h1=>?_;have hA1:H1 a=some (.lst (ls.map V.str)):=e1 _ _ hA;have hF1:Feed H1 d l:=hF.same e1
 symm
 refine⟨d,l,a,ls,rfl,hF1,hA1,hl,λq xs ps H2 hq2 e2 hF2 h2 hI2 hU2 hl2=>?_⟩;have hpd:p≠d:=Ne.symm (hF.nd hp1);have h2p:H2 p=some (.lst []):=e2 _ _ hpd h1;have hpq:p≠q:=ne_of_none h1 hq2;have hq0:H q=none:=e1.free hq2;have hxl:=Sn hI2;refine Vt (SqL.of h2) ?_
 refine Ie (Gc (xs:=xs)) (λi σ H3=>∃ ys qs x3 x4,σ=[some (V.ref d),some (.ref a),some (.ref p),x3,x4]/\ExtBut d H H3/\Feed H3 d l/\H3 q=some (.lst xs)/\Fz H2 H3/\H3 p=some (.lst ys)/\IsL K H3 (qs.map prD) ys/\Up ls qs/\qs.length<=i*2)
  ⟨[],[],_,_,rfl,by walk_at "fr",hF2,h2,.refl _,h2p,.nil,.nil,by decide⟩ (λi σ H3 hP=>?_) (λi x σ H3 hx3 hi hP=>?_) (fun σ H3 hP=>?_)
 . obtain⟨ys,qs,x3,x4,rfl,e3,hF3,hq3,_⟩:=hP;exact SqL.of hq3
 . obtain⟨ys,qs,x3,x4,rfl,e3,hF3,hq3,fz3,h3p,hI3,hU3,hl3⟩:=hP;obtain ⟨dp,hdp,hip⟩:=IsL.get hI2 hx3;rw[A09] at hdp
   cases hpr:ps[i]? with
   |none=>rw[hpr] at hdp;cases hdp
   |some pr=>
     rw[hpr] at hdp
     cases hdp
     have hUp:Up ls [pr]:=hU2.sub λz hz=>by
      have:z=pr:=by simpa using hz
      subst this;exact A05 hpr
     have hi100:i<100:=by omega
     symm
     refine⟨d,l,_,rfl,hF3,by omega,by omega,λu H4 hu0 hu1 e4 hF4=>?_⟩;have h4p:H4 p=some (.lst ys):=e4 _ _ hpd h3p;have h4q:H4 q=some (.lst xs):=e4 _ _ (hF3.lst hq3) hq3;have fz4:Fz H2 H4:=fz3.trans (hF3.fz e4);have hI4:IsL K H4 (qs.map prD) ys:=IsL.fz (hF3.fz e4) _ _ (Cf qs) hI3
     symm
     refine Jw (by split<;>omega) ?_
     refine Ie Cg (λj σ H5=>∃ zs rs x4,σ=[some (V.ref d),some (.ref a),some (.ref p),some x,x4]/\ExtBut d H H5/\Feed H5 d l/\H5 q=some (.lst xs)/\Fz H2 H5/\H5 p=some (.lst zs)/\IsL K H5 (rs.map prD) zs/\Up ls rs/\rs.length=qs.length+j)
      ⟨ys,qs,_,rfl,by walk_at "fr",hF4,h4q,fz4,h4p,hI4,hU3,rfl⟩ (λ_ _ _ _=>trivial) (λj x' σ H5 hx5 hj hP=>?_) (fun σ H5 hP=>?_)
     . obtain⟨zs,rs,x4',rfl,e5,hF5,hq5,fz5,h5p,hI5,hU5,hl5⟩:=hP;obtain⟨rfl,hj2⟩:=Gz hx5;have hzl:=Sn hI5
       have hj3:j<2:=by
        have:(1+if decide (V.int u=V.int 0)=true then(1:Int) else 0).toNat<=2:=by split<;>omega
        omega
       symm
       refine⟨d,l,_,rfl,hF5,by omega,by omega,λu2 H6 hv0 hv1 e6 hF6=>?_⟩;have h6p:H6 p=some (.lst zs):=e6 _ _ hpd h5p;have h6q:H6 q=some (.lst xs):=e6 _ _ (hF5.lst hq5) hq5
       symm
       refine aF1 h6p hv0 nofun nofun λH7 e7 h7p=>?_;have fz6:Fz H5 H6:=hF5.fz e6;have fz7:Fz H6 H7:=e7.fzL h6p
       symm
       refine⟨_,_,_,rfl,by walk_at "fr",by walk_at "fd",e7 _ _ (Ne.symm hpq) h6q,(fz5.trans fz6).trans fz7,h7p,ad0 u2.toNat (IsL.fz (fz6.trans fz7) _ _ (Cf rs) hI5) (Is.fz ((fz5.trans fz6).trans fz7) _ _ (G7 pr) hip),?_,?_⟩
       . intro z hz;rcases A0I.mp hz with hz|hz
         . exact hU5 z (A1K hz)
         rcases A0F.mp hz with rfl|hz
         . exact hUp _ (by simp)
         exact hU5 z (A2C hz)
       rw[A0C,A0E,A0T,A1H];omega
     obtain⟨zs,rs,x4',rfl,e5,hF5,hq5,fz5,h5p,hI5,hU5,hl5⟩:=hP;rw[A01,A1B] at hl5;have hj3:(1+if decide (V.int u=V.int 0)=true then(1:Int) else 0).toNat<=2:=by split<;>omega
     exact⟨zs,rs,_,_,rfl,e5,hF5,hq5,fz5,h5p,hI5,hU5,by omega⟩
 obtain⟨ys,qs,x3,x4,rfl,e3,hF3,hq3,fz3,h3p,hI3,hU3,hl3⟩:=hP
 symm
 refine Ni (SqL.of h3p) λt H4 ht4 e4 h4=>?_
 symm
 rw[Hv ∅] at h4;refine Ho (SqL.of h4) λt2 H5 ht5 e5 h5=>?_;have hI5:IsL K H5 (qs.map prD) ys:=IsL.mono e5 _ _ (IsL.mono e4 _ _ hI3);refine k (.ref t2) (qs.take 60) H5 (by walk_at "fr") (by walk_at "fd") (Is.of_tup (SqT.of h5) ?_) (hU3.sub λz hz=>A1K hz) ?_
 . rw[A34];exact IsL.take 60 hI5
 rw[A0T];omega
theorem Mq {ns:List Str}{ys:List V}(h:ys.Perm (ns.map V.str)):∃ ls:List Str,ys=ls.map V.str/\ls.Perm ns:=by
 refine⟨ys.map λv=>match v with | .str z=>z | _=>"",?_,?_⟩
 . rw[A18]
   have:∀ v∈ys,(V.str∘λv=>match v with | .str z=>z | _=>"") v=v:=λv hv=>by obtain⟨z,_,rfl⟩:=A0A.mp (h.mem_iff.mp hv);rfl
   rw[A1I this];simp
 have:=h.map λv=>match v with | .str z=>z | _=>("":Str)
 rw[A18] at this
 have e:ns.map ((λv=>match v with | .str z=>z | _=>("":Str))∘V.str)=ns:=by rw[show((λv=>match v with | .str z=>z | _=>("":Str))∘V.str)=id from rfl,List.map_id]
 rw[e] at this;exact this
local macro_rules | `(tactic| walk_at "rq1") => `(tactic| with_reducible first | refine aL9 ?_ | refine i_tMkX0 ?_ | refine at6 ?_ | refine aw7 ?_)
theorem aC6 {ws:List V}{a:Str}(h:ws.length=[a].length):∃ v,ws=[v]:=by
 match ws,h with
 | [v],_=>exact⟨v,rfl⟩
theorem aT5 {ws:List V}{a b:Str}(h:ws.length=[a,b].length):∃ v u,ws=[v,u]:=by
 match ws,h with
 | [v,u],_=>exact⟨v,u,rfl⟩
theorem Sd {f:Addr}{fd:FuncData}(F:Fun K "__init__" "Clash.__init__" Ea f fd)(T:Ej mg){C_HalfError:Addr}{C_Clash:Addr}(x_HalfError:Bn K mg C_HalfError C_HalfError)(x_Clash:Tx K mg C_Clash C_HalfError):FnOk P w K mg base CX0 1 f fd ["self","way"] (spX C_Clash ["way"]):=by
 refine F.ok Sk (λvs H Q E h=>?_) (λcdv A outer s H vs Q E hr h=>?_)
 . obtain⟨a,ws,rfl,hl,_⟩:=h;obtain⟨v,rfl⟩:=aC6 hl;rfl
 obtain⟨a,ws,rfl,hl,ha,k⟩:=h;obtain⟨v,rfl⟩:=aC6 hl
 with_reducible refine⟨_,(A6 (Kd (K:=K) (pv 0) (pv 1) ⋯)),?_⟩
 symm
 refine X2 ha x_Clash.xc x_Clash.n_way λdx H1 h1 h2 h3 h4 h5=>?_
 symm
 exact k dx H1 h1 h2 h3 h4 h5
theorem Pk {f:Addr}{fd:FuncData}(F:Fun K "__init__" "NoJoin.__init__" De f fd)(T:Ej mg){C_HalfError:Addr}{C_NoJoin:Addr}(x_HalfError:Bn K mg C_HalfError C_HalfError)(x_NoJoin:G1 K mg C_NoJoin C_HalfError):FnOk P w K mg base CX0 1 f fd ["self","word"] (spX C_NoJoin ["word"]):=by
 refine F.ok Pj (λvs H Q E h=>?_) (λcdv A outer s H vs Q E hr h=>?_)
 . obtain⟨a,ws,rfl,hl,_⟩:=h;obtain⟨v,rfl⟩:=aC6 hl;rfl
 obtain⟨a,ws,rfl,hl,ha,k⟩:=h;obtain⟨v,rfl⟩:=aC6 hl
 with_reducible refine⟨_,(A6 (Kd (K:=K) (pv 0) (pv 1) ⋯)),?_⟩
 symm
 refine X2 ha x_NoJoin.xc x_NoJoin.n_word λdx H1 h1 h2 h3 h4 h5=>?_
 symm
 exact k dx H1 h1 h2 h3 h4 h5
theorem Pu {f:Addr}{fd:FuncData}(F:Fun K "__init__" "NoName.__init__" Dg f fd)(T:Ej mg){C_HalfError:Addr}{C_NoName:Addr}(x_HalfError:Bn K mg C_HalfError C_HalfError)(x_NoName:G2 K mg C_NoName C_HalfError):FnOk P w K mg base CX0 1 f fd ["self","name"] (spX C_NoName ["name"]):=by
 refine F.ok Pt (λvs H Q E h=>?_) (λcdv A outer s H vs Q E hr h=>?_)
 . obtain⟨a,ws,rfl,hl,_⟩:=h;obtain⟨v,rfl⟩:=aC6 hl;rfl
 obtain⟨a,ws,rfl,hl,ha,k⟩:=h;obtain⟨v,rfl⟩:=aC6 hl
 with_reducible refine⟨_,(A6 (Kd (K:=K) (pv 0) (pv 1) ⋯)),?_⟩
 symm
 refine X2 ha x_NoName.xc x_NoName.n_name λdx H1 h1 h2 h3 h4 h5=>?_
 symm
 exact k dx H1 h1 h2 h3 h4 h5
theorem Pn {f:Addr}{fd:FuncData}(F:Fun K "__init__" "NoHalf.__init__" Df f fd)(T:Ej mg){C_HalfError:Addr}{C_NoHalf:Addr}(x_HalfError:Bn K mg C_HalfError C_HalfError)(x_NoHalf:Px K mg C_NoHalf C_HalfError):FnOk P w K mg base CX0 1 f fd ["self","word","number"] (spX C_NoHalf ["word","number"]):=by
 refine F.ok Pr (λvs H Q E h=>?_) (λcdv A outer s H vs Q E hr h=>?_)
 . obtain⟨a,ws,rfl,hl,_⟩:=h;obtain⟨v,u,rfl⟩:=aT5 hl;rfl
 obtain⟨a,ws,rfl,hl,ha,k⟩:=h;obtain⟨v,u,rfl⟩:=aT5 hl
 with_reducible refine⟨_,(A2 (Kd (K:=K) (pv 0) (pv 1) ⋯)
  (A6 (Kd (K:=K) (pv 0) (pv 2) ⋯))),?_⟩
 symm
 refine X2 ha x_NoHalf.xc x_NoHalf.n_word λdx H1 h1 h2 h3 h4 h5=>?_
 symm
 refine aM1 h4 h5 x_NoHalf.xc x_NoHalf.n_number (by simp) λH2 g1 g2=>?_
 symm
 exact k dx H2 h1 h2 (λb b1 b2=>(g1 b b2).trans (h3 b b1 b2)) ((g1 a (Ne.symm h2)).trans h4) g2
def C9 (K:W.Frag):Sp:=λvs H Q _=>∃ v ns ps,vs=[v]/\Is K H (hfD ns ps) v/\Sb ns ps/\∀ r as H',H r=none->(∀ a∈as,H a=none)->Same H H'->Tab H' r ns as (Way ps)->Q (.ref r) H'
theorem Pq {f:Addr}{fd:FuncData}(F:Fun K "behind_each" "behind_each" Di f fd)(T:Ej mg):FnOk P w K mg base CX0 1 f fd ["half"] (C9 K):=by
 refine F.ok Cp (λvs H Q E h=>?_) (λcdv A outer s H vs Q E hr h=>?_)
 . obtain⟨v,ns,ps,rfl,_⟩:=h;rfl
 obtain⟨v,ns,ps,rfl,hI,hW,k⟩:=h;have hu:=Bf hr;have hq:=Bd hr;have hn:=hW.nd;have hfew:=hW.few
 with_reducible refine⟨_,(A2 (Ai (i:=1) Cp.nd ⋯ (by eq_refl) (A7 (A4 (K:=K) hu) (pv 0) A5 (by ac_rfl)))
  (A2 (Ai (i:=2) Cp.nd ⋯ (by eq_refl) (Ax (Z2 (K:=K) hr.hd) ⋯ T.b_dict PyProof.Rows.Boot.«dict» (A0 (Bl ["name"] [] [] ⋯ ⋯ ⋯ (Av (K:=K) hu (pv 1)) (λ_ _ _ _=>(Ac (i:=0) (by with_unfolding_all (show(["name"]:List Str).Nodup;decide +kernel)) ⋯ (by eq_refl))) (B5 ∅) (λ_ _ _ _=>Cv) (λ_ _ _ _=>(Bi (A0 (pv 0) (A0 Mi A1))))) A1)))
  (A2 (Cm A0V ⋯ (Av (K:=K) hu (A7 (A4 (K:=K) hu) (pv 0) A5 (by ac_rfl))) (Ac (i:=3) Cp.nd ⋯ (by eq_refl))
  (A6 (Gw hu (A7 (A4 (K:=K) hu) (pv 2) (A7 (A4 (K:=K) hu) (pv 3) A5 (by ac_rfl)) (by ac_rfl)) (A7 (A4 (K:=K) hu) (pv 3) A5 (by ac_rfl)) Ev ⋯)))
  (A2 (Cm A0V ⋯ (Av (K:=K) hu (pv 1)) (Ac (i:=4) Cp.nd ⋯ (by eq_refl))
  (A6 (Cm A0V ⋯ (Av (K:=K) hu (pv 1)) (Ac (i:=5) Cp.nd ⋯ (by eq_refl))
  (A6 (Bv (Ag (Gm (K:=K) hq) (pv 4) (A7 (A4 (K:=K) hu) (pv 2) (pv 5) (by ac_rfl)) ⋯) (A6 (Cb (G6 (K:=K) A3K PySem.F.slot_dict_update PySem.F.type_dict_update (mm Yh) (A7 (A4 (K:=K) hu) (pv 2) (pv 5) (by ac_rfl)) (A0 (A7 (A4 (K:=K) hu) (pv 2) (pv 4) (by ac_rfl)) A1)))) Ap)))))
  (A6 (Aj (pv 2))))))),?_⟩
 symm
 refine B7 hI λnv hN=>?_
 symm
 obtain⟨na,rfl,hS⟩:=hN.nm;refine Wf hS ?_;refine J4 (Ia (xs:=ns.map V.str)) (λp i acc H1=>Same H H1/\∃ as:List Addr,as.length=i/\as.Nodup/\(∀ a∈as,H1 a=some (.dK [])/\H a=none)/\PrsK K H1 (K2 (ns.take i) as) acc) (λp H' hp e h=>⟨e,[],rfl,by simp,λ_ h=>(by cases h),by rfl⟩) (λp i acc H1 hP=>hP.1.seqT hS) (λp i x acc H1 hp hx hi hl ha hP=>?_) λp acc H1 hp ha hl hP=>?_
 . obtain ⟨e1,as,hal,had,haf,hpr⟩:=hP;rw[A09] at hx
   cases hz:ns[i]? with
   |none=>rw[hz] at hx;cases hx
   |some z=>
     rw[hz] at hx
     cases hx;have hin:i<ns.length:=(A03.mp hz).1
     symm
     refine Xb λb H2 hb2 e2 h2=>?_
     symm
     refine Bp (Af (by simp)) λt H3 ht3 e3 h3=>?_;have h3p:H3 p=some (.lst acc):=e3 _ _ (e2 _ _ ha);refine Ls (by rw[A01];omega) hi hl h3p λH4 e4 h4=>?_;have hbp:b≠p:=Ne.symm (ne_of_none ha hb2);refine⟨by walk_at "sm",as++[b],by simp[hal],?_,λa ha'=>?_,?_⟩
     . rw[A16];refine⟨had,by simp,λa ha1 c hc e=>?_⟩;have:c=b:=by simpa using hc
       subst this;subst e;have:=(haf _ ha1).1;rw[hb2] at this
       cases this
     . rcases A0I.mp ha' with ha'|ha'
       . obtain⟨q1,q2⟩:=haf a ha';exact⟨e4 _ _ (ne_of q1 ha (by intro z;cases z)) (e3 _ _ (e2 _ _ q1)),q2⟩
       have:a=b:=by simpa using ha'
       subst this;exact⟨e4 _ _ hbp (e3 _ _ h2),e1.free hb2⟩
     have ht:ns.take (i+1)=ns.take i++[z]:=by rw[A0Y,hz];rfl
     have hlen:(ns.take i).length=as.length:=by rw[A0T,hal];omega
     rw[ht,X9 hlen];have fz4:=e4.fzL h3p;exact PrsK.snoc (kv:=(Sum.inr z,V.ref b)) (fz4.seq (SqT.of h3)) (PrsK.fz ((e2.fz.trans e3.fz).trans fz4) hpr)
 obtain⟨e1,as,hal,had,haf,hpr⟩:=hP;rw[A01] at hal;rw[A01,A13] at hpr
 symm
 refine aK3 ha hpr (by unfold K2;rw[List.length_map,List.length_zip];omega) λr H2 hr2 e2 h2=>?_;rw[Ol _ _ (Xj hn) (λ_ _ _ h=>by cases h),A49] at h2;have hr0:H r=none:=e1.free hr2
 have hra:r∉as:=λhm=>by
  have:=(haf r hm).1;rw[hr2] at this
  cases this
 have hT0:Tab H2 r ns as (λz y=>(z,y)∈ps.take 0):=⟨hal,had,hra,h2,λi z a hz ha'=>⟨[],e2 _ _ (haf a (List.mem_of_getElem? ha')).1,by simp,λ_ h=>(by cases h),λy=>by simp⟩⟩
 symm
 refine Fh (hI.hf_fz (by walk_at "fz")) λpv hP2=>?_
 refine aq2 hP2 (λi σ H3=>∃ x3,σ=[some v,some (.ref na),some (.ref r),x3,none,none]/\Same H H3/\Fz H2 H3/\Tab H3 r ns as (λz y=>(z,y)∈ps.take i))
  ⟨none,rfl,by walk_at "sm",.refl _,hT0⟩ (λi σ' H' hP=>hP.choose_spec.2.2.1) (λi pr w σ' H3 hpr hIp hP=>?_) (fun σ' H3 hP=>?_)
 . obtain⟨x3,rfl,e3,fz3,hT⟩:=hP;have hpm:=hW.mem pr (A05 hpr);obtain⟨j,a,hj,haj⟩:=hT.at hpm.1;obtain⟨ks,hk1,hk2,hk3,hk4⟩:=hT.row j _ a hj haj;have hkl:ks.length<=ns.length:=Cl hk2 hk3
   symm
   refine Lr hIp ?_;refine R4 hT hn hj haj ?_
   symm
   refine Jx hIp ?_;refine Kp hk1 (by rw[Si];omega) λH4 e4 h4=>?_;rw[ad3] at h4
   symm
   have ha0:H a=none:=(haf a (A05 haj)).2;refine⟨_,rfl,by walk_at "sm",fz3.trans (e4.fzD hk1),hT.put e4 hn hj haj h4 (Qf hk2) (λy hy=>?_) (λy=>?_) (λz hz hzx y=>?_)⟩
   . rcases mem_addK.mp hy with hy|rfl
     . exact hk3 y hy
     exact hpm.2
   . rw[mem_addK,hk4,A0Y,hpr,A0I];constructor
     . rintro(h|rfl)
       . exact .inl h
       exact .inr (by simp)
     rintro(h|h)
     . exact .inl h
     right
     have:(pr.1,y)=pr:=by simpa using h
     rw[<- this]
   rw[A0Y,hpr,A0I];constructor
   . exact .inl
   rintro(h|h)
   . exact h
   have:(z,y)=pr:=by simpa using h
   exact absurd (by rw[<- this]) hzx
 obtain⟨x3,rfl,e3,fz3,hT⟩:=hP;rw[A13] at hT;have hW0:War ns ps [] (λz y=>(z,y)∈ps):=⟨λz y h=>.one h,λz y h=>h,λm hm=>by cases hm⟩
 symm
 have hN3:Is K H3 (nmD ns) (.ref na):=hN.nm_fz e3.fz
 refine Od hN3 (λi σ H4=>∃ x4 x5 R,σ=[some v,some (.ref na),some (.ref r),x3,x4,x5]/\Same H H4/\Fz H3 H4/\Tab H4 r ns as R/\War ns ps (ns.take i) R)
  ⟨_,_,_,rfl,e3,.refl _,hT,hW0⟩ (λi σ' H' hP=>?_) (λi mid σ' H4 hmid hP=>?_) (fun σ' H4 hP=>?_)
 . obtain⟨_,_,_,_,_,fz,_⟩:=hP;exact fz
 . obtain⟨x4,x5,R,rfl,e4,fz4,hT4,hR⟩:=hP;obtain⟨jm,am,hjm,ham⟩:=hT4.at (A05 hmid);have hN4:Is K H4 (nmD ns) (.ref na):=hN3.nm_fz fz4
   symm
   refine Od hN4 (λj σ H5=>∃ x5,σ=[some v,some (.ref na),some (.ref r),x3,some (.str mid),x5]/\Same H H5/\Fz H4 H5/\Tab H5 r ns as (ap2 R mid (ns.take j)))
    ⟨_,rfl,e4,.refl _,hT4.congr λz _ y=>⟨.inl,λh=>h.elim (λq=>q) λq=>absurd q.1 (by simp)⟩⟩ (λi σ' H' hP=>hP.choose_spec.2.2.1) (λj nm σ' H5 hnm hP=>?_) (fun σ' H5 hP=>?_)
   . obtain⟨x5',rfl,e5,fz5,hT5⟩:=hP;obtain⟨jn,an,hjn,han⟩:=hT5.at (A05 hnm);obtain⟨ks,hk1,hk2,hk3,hk4⟩:=hT5.row jn nm an hjn han;obtain⟨ms,hm1,hm2,hm3,hm4⟩:=hT5.row jm mid am hjm ham;have hkl:ks.length<=ns.length:=Cl hk2 hk3;have hml:ms.length<=ns.length:=Cl hm2 hm3;have htj:ns.take (j+1)=ns.take j++[nm]:=by rw[A0Y,hnm];rfl
     have hin:mid∈ks↔R nm mid:=(hk4 mid).trans ⟨λh=>h.elim (λq=>q) λq=>q.2.1,.inl⟩;have hmid2:∀ y,y∈ms↔R mid y:=λy=>(hm4 y).trans ⟨λh=>h.elim (λq=>q) λq=>q.2.2,.inl⟩
     have hother:∀ z∈ns,z≠nm->∀ y,ap2 R mid (ns.take j) z y↔ap2 R mid (ns.take (j+1)) z y:=λz _ hz y=>by unfold ap2;rw[htj,A0I,A1Y];simp[hz]
     symm
     refine R4 hT5 hn hjn han ?_;refine Rq hk1 ?_
     symm
     refine Oz (λhc=>?_) (λhc=>?_)
     . have hRn:=hin.mp hc
       by_cases hne:nm=mid
       . subst hne
         have hji:jn=jm:=by obtain⟨p1,p2⟩:=A03.mp hjn;obtain⟨q1,q2⟩:=A03.mp hjm;exact(A21 hn).mp (p2.trans q2.symm)
         subst hji;rw[han] at ham
         cases ham
         symm
         refine R4 hT5 hn hjn han ?_;refine az2 hk1 ?_
         symm
         refine R4 hT5 hn hjn han ?_
         symm
         refine aM6 hk1 ?_
         symm
         refine⟨_,rfl,e5,fz5,hT5.congr λz hz y=>?_⟩
         by_cases hzn:z=nm
         . subst hzn;unfold ap2;constructor
           . exact λh=>.inl (h.elim (λq=>q) λq=>q.2.2)
           exact λh=>.inl (h.elim (λq=>q) λq=>q.2.2)
         exact hother z hz hzn y
       have hane:an≠am:=λq=>by subst q;obtain⟨p1,p2⟩:=A03.mp han;obtain⟨q1,q2⟩:=A03.mp ham;have:=(A21 hT5.nd).mp (p2.trans q2.symm);subst this;rw[hjn] at hjm;exact hne (A0Z hjm)
       symm
       refine R4 hT5 hn hjn han ?_;refine az2 hk1 ?_
       symm
       refine R4 hT5 hn hjm ham ?_
       symm
       refine aL0 hk1 hm1 hane nofun λH6 e6 h6=>?_
       symm
       have ha0:H an=none:=(haf an (A05 han)).2;refine⟨_,rfl,by walk_at "sm",fz5.trans (e6.fzD hk1),hT5.put e6 hn hjn han h6 (Im hk2) (λy hy=>?_) (λy=>?_) hother⟩
       . rcases mem_addAll.mp hy with hy|hy
         . exact hk3 y hy
         exact hm3 y hy
       rw[mem_addAll,hk4,hmid2];unfold ap2;rw[htj,A0I,A1Y];constructor
       . rintro((h|h)|h)
         . exact .inl h
         . exact .inr ⟨.inl h.1,h.2⟩
         exact .inr ⟨.inr rfl,hRn,h⟩
       rintro(h|h)
       . exact .inl (.inl h)
       exact .inr h.2.2
     have hRn:¬ R nm mid:=λq=>hc (hin.mpr q)
     symm
     refine⟨_,rfl,e5,fz5,hT5.congr λz hz y=>?_⟩
     by_cases hzn:z=nm
     . subst hzn;unfold ap2;constructor
       . exact λh=>.inl (h.elim (λq=>q) λq=>absurd q.2.1 hRn)
       exact λh=>.inl (h.elim (λq=>q) λq=>absurd q.2.1 hRn)
     exact hother z hz hzn y
   obtain⟨x5',rfl,e5,fz5,hT5⟩:=hP;rw[A13] at hT5;refine⟨_,_,_,rfl,e5,fz4.trans fz5,hT5.congr (R':=λz y=>R z y\/(R z mid/\R mid y)) λz hz y=>?_,?_⟩
   . unfold ap2;simp[hz]
   have htj:ns.take (i+1)=ns.take i++[mid]:=by rw[A0Y,hmid];rfl
   rw[htj];exact hR.step
 obtain⟨x4,x5,R,rfl,e4,fz4,hT4,hR⟩:=hP;rw[A13] at hR
 symm
 exact k r as H4 hr0 (λa ha'=>(haf a ha').2) e4 (hT4.congr λz _ y=>hR.done hW.mem z y)
def Kq (K:W.Frag):Sp:=λvs H Q _=>∃ v ns ps,vs=[v]/\Is K H (hfD ns ps) v/\HalfW ns ps/\∀ u H',Same H H'->Is K H' (psD (clP ns ps)) u->Q u H'
def Dk (K:W.Frag):Sp:=λvs H Q _=>∃ r v ns ps as p,vs=[.ref r,v]/\TabR H r ns as (Way ps)/\ns.Nodup/\ns.length<=100/\(∀ q∈ps,q.1∈ns/\q.2∈ns)/\Is K H (prD p) v/\p.1∈ns/\∀ H',Keep as H H'->Q (.bl (thB ns ps p)) H'
theorem a80 {f:Addr}{fd:FuncData}(F:Fun K "closed" "closed" Jg f fd)(T:Ej mg)(Aw:Fnd P w K mg base 1 "behind_each" ["half"] (C9 K)):FnOk P w K mg base CX0 2 f fd ["half"] (Kq K):=by
 refine F.ok Kt (λvs H Q E h=>?_) (λcdv A outer s H vs Q E hr h=>?_)
 . obtain⟨v,ns,ps,rfl,_⟩:=h;rfl
 obtain⟨v,ns,ps,rfl,hI,hW,k⟩:=h;have hu:=Bf hr;have hq:=Bd hr;have hfew:=hW.few
 with_reducible refine⟨_,(A2 (Ai (i:=1) Kt.nd ⋯ (by with_unfolding_all exact A3I rfl) (Ae Aw (hr.mono ∅) ⋯ (A0 (pv 0) A1)))
  (A2 (Ai (i:=2) Kt.nd ⋯ (by eq_refl) (Dq A1))
  (A2 (Cm A0V ⋯ (Av (K:=K) hu (A7 (A4 (K:=K) hu) (pv 0) A5 (by ac_rfl))) (Ac (i:=3) Kt.nd ⋯ (by with_unfolding_all exact A3I rfl))
  (A6 (Cb (G6 (K:=K) A14 A2Z A30 (mm Iz) (pv 2) (A0 (Bl ["other"] ["one","reach"] [3,1] ⋯ ⋯ ⋯ (Av (K:=K) hu (A7 (A4 (K:=K) hu) (pv 0) A5 (by ac_rfl))) (λ_ _ _ _=>(Ac (i:=0) (by with_unfolding_all (show(["other","one","reach"]:List Str).Nodup;decide +kernel)) ⋯ (by eq_refl))) (B5 ∅) (λ_ _ _ _=>(Ex (Ag (Gm (K:=K) hq) (pv 0) (A7 (A4 (K:=K) hu) (pv 2) (pv 1) (by ac_rfl)) ⋯))) (λ_ _ _ _=>(Bi (A0 (pv 1) (A0 (pv 0) A1))))) A1)))))
  (A6 (Aj (Ax (B3 (K:=K)) ⋯ T.b_tuple PyProof.Rows.Boot.«tuple» (A0 (pv 2) A1))))))),?_⟩
 symm
 refine⟨v,ns,ps,rfl,hI,hW,λr as H1 hr1 ha1 e1 hT=>?_⟩
 symm
 refine Eb (Af (by simp)) λp H2 hp2 e2 h2=>?_
 symm
 refine B7 (hI.hf_fz (by walk_at "fz")) λnv hN=>?_
 refine Od hN (λi σ H3=>∃ x3,σ=[some v,some (.ref r),some (.ref p),x3]/\Same H1 H3/\Fz H2 H3/\∃ ys,H3 p=some (.lst ys)/\IsL K H3 (((ns.take i).flatMap (clR ns ps)).map prD) ys/\ys.length<=i*100)
  ⟨none,rfl,e2,.refl _,[],h2,by simp only[List.take_zero,List.flatMap_nil,List.map_nil];exact .nil,by simp⟩ (λi σ' H' hP=>?_) (λi z σ' H3 hz hP=>?_) (fun σ' H3 hP=>?_)
 . obtain⟨_,_,_,fz,_⟩:=hP;exact fz
 . obtain⟨x3,rfl,e3,fz3,ys,h3,hL,hly⟩:=hP;have hI3:Is K H3 (hfD ns ps) v:=hI.hf_fz (e1.fz.trans e3.fz);have hzm:=A05 hz;have hin:i<ns.length:=(A03.mp hz).1
   symm
   refine B7 hI3 λnv3 hN3=>?_;refine Gx hN3 (λy=>Ak ps z y) (λy=>prD (z,y)) (λ_=>G7 _) nofun (λj y H4 R R' hy e4 hR hR'=>?_) (λq zs H4 hq4 e4 h4 hL4=>?_)
   . have hT4:=hT.same (e3.trans e4);obtain⟨a0,b0,ha0,hb0⟩:=hT4.at hzm;obtain⟨ks,hk1,hk2,hk3,hk4⟩:=hT4.row a0 z b0 ha0 hb0
     symm
     refine R4 hT4 hW.nd ha0 hb0 ?_;refine Rq hk1 ?_;rw[Jm (hk4 y)]
     symm
     refine ar0 (λhc=>?_) (λhc=>?_)
     . symm
       refine Bp (Af (by simp)) λt H5 ht5 e5 h5=>?_;exact hR hc _ _ e5 (Pd (SqT.of h5))
     exact hR' hc _ (Same.refl _)
   symm
   have h4p:=e4 _ _ h3
   have hlz:zs.length<=ns.length:=by rw[<- IsL.length hL4,A01];exact A0O _ _
   refine Xi h4p h4 nofun λH5 e5 h5=>?_
   symm
   have fz5:Fz H4 H5:=e5.fzL h4p;refine⟨_,rfl,?_,(fz3.trans e4.fz).trans fz5,_,h5,?_,?_⟩
   . refine Same.off (q:=p) (H1:=H4) (e3.trans e4) ?_ e5;exact hp2
   . have ht:ns.take (i+1)=ns.take i++[z]:=by rw[A0Y,hz];rfl
     rw[ht,A5A,A0M];refine IsL.append (IsL.fz (e4.fz.trans fz5) _ _ (Cf _) hL) ?_
     have e:([z].flatMap (clR ns ps)).map prD=(ns.filter λy=>Ak ps z y).map λy=>prD (z,y):=by simp[clR,Function.comp_def]
     rw[e];exact IsL.fz fz5 _ _ (Gi _ (λ_=>G7 _) _) hL4
   rw[A0C];omega
 obtain⟨x3,rfl,e3,fz3,ys,h3,hL,hly⟩:=hP;rw[A13] at hL
 symm
 exact K3 h3 hL λu H4 e4 hu4=>k u H4 ((e1.trans e3).trans e4) hu4
theorem Jr {f:Addr}{fd:FuncData}(F:Fun K "has_third_between" "has_third_between" Ba f fd)(T:Ej mg):FnOk P w K mg base CX0 1 f fd ["reach","pair"] (Dk K):=by
 refine F.ok Jq (λvs H Q E h=>?_) (λcdv A outer s H vs Q E hr h=>?_)
 . obtain⟨r,v,ns,ps,as,p,rfl,_⟩:=h;rfl
 obtain⟨r,v,ns,ps,as,p,rfl,hT,hn,hfew,hmem,hI,hp1,k⟩:=h;have hu:=Bf hr;have hq:=Bd hr;obtain⟨i,a,hi,hai⟩:=hT.at hp1;obtain⟨ks,hk1,hk2,hk3,hk4⟩:=hT.row i p.1 a hi hai;have hkl:ks.length<=ns.length:=Cl hk2 hk3
 with_reducible refine⟨_,(A6 (Aj (Al (Pf (K:=K) ⋯) ⋯ T.b_any PyProof.Rows.Boot.«any» (A0 (Bl ["third"] ["pair","reach"] [1,0] ⋯ ⋯ ⋯ (Av (K:=K) hu (A7 (A4 (K:=K) hu) (pv 0) (A7 (A4 (K:=K) hu) (pv 1) A5 (by ac_rfl)) (by ac_rfl))) (λ_ _ _ _=>(Ac (i:=0) (by with_unfolding_all (show(["third","pair","reach"]:List Str).Nodup;decide +kernel)) ⋯ (by eq_refl))) (B5 ∅) (λ_ _ _ _=>Cv) (λ_ _ _ _=>(Cw (Gm (K:=K) hq) (A7 (A4 (K:=K) hu) (pv 1) A5 (by ac_rfl)) (A7 (A4 (K:=K) hu) (pv 2) (pv 0) (by ac_rfl)) ⋯))) A1)))),?_⟩
 symm
 refine Lr hI ?_;refine Y4 hT hn hi hai ?_;refine Vz hk1 (A05 hai) λo H1 k1 h1=>?_;have hI1:=hI.pr_fz k1.fz;have hT1:=hT.keep k1;refine Ko Pc (λx=>match x with | .str z=>.bl (Ak ps z p.2) | w=>w) (by rw[A01,Si];omega) (λH' e=>e _ _ h1) (λj x H2 R hx e2 hR=>?_) (λq H2 hq2 e2 h2=>?_)
 . obtain⟨z,hz,rfl⟩:∃ z,z∈ks/\x = .str z:=by
    unfold Ii at hx;rw[A18,A09] at hx
    cases hz:ks[j]? with
    |none=>rw[hz] at hx;cases hx
    |some z=>
      rw[hz] at hx
      cases hx;exact⟨z,A05 hz,rfl⟩
   have hT2:=hT1.same e2;obtain⟨i2,a2,hi2,ha2⟩:=hT2.at (hk3 z hz);obtain⟨ms,hm1,hm2,hm3,hm4⟩:=hT2.row i2 z a2 hi2 ha2
   symm
   refine Jx (hI1.pr_fz e2.fz) ?_
   symm
   refine Y4 hT2 hn hi2 ha2 ?_;refine aj3 hm1 ?_;rw[Jm (hm4 p.2)];exact hR
 symm
 have e:((Ii ks).map λkv=>kV kv.1).map (λx=>match x with | .str z=>.bl (Ak ps z p.2) | w=>w)=(ks.map λz=>Ak ps z p.2).map V.bl:=by unfold Ii;rw[A18,A18,A18];rfl
 rw[e] at h2;refine aA5 (SqL.of h2) ?_;rw[at8 hk3 hk4];exact k H2 (k1.trans (e2.keep as))
def Vr (K:W.Frag):Sp:=λvs H Q _=>∃ v ns ps,vs=[v]/\Is K H (hfD ns ps) v/\HalfW ns ps/\∀ u H',Same H H'->Is K H' (psD (baP ns ps)) u->Q u H'
def Hn (K:W.Frag):Sp:=λvs H Q _=>∃ r x y ns ps as,vs=[.ref r,.str x,.str y]/\TabR H r ns as (Way ps)/\ns.Nodup/\x∈ns/\y∈ns/\Q (.bl (unB ps x y)) H
def Ih (K:W.Frag):Sp:=λvs H Q _=>∃ r ns ps as,vs=[.ref r]/\Tab H r ns as (Way ps)/\ns.Nodup/\ns.length<=100/\∀ u H',Same H H'->Is K H' (psD (unP ns ps)) u->Q u H'
theorem Y0:∀ {ns:List Str} {as:List Addr},as.length=ns.length->(K2 ns as).map (λkv=>kV kv.1)=ns.map V.str
 | [],[],_=>rfl
 | [],_ :: _,h=>by simp at h
 |_ :: _,[],h=>by simp at h
 |n :: ns,a :: as,h=>by have ih:=Y0 (ns:=ns) (as:=as) (by simpa using h);unfold K2 at ih ⊢;rw[List.zip_cons_cons,A0R,A0R,ih];rfl
def Oy (K:W.Frag):Sp:=λvs H Q _=>∃ v ns ps,vs=[v]/\Is K H (hfD ns ps) v/\HalfW ns ps/\∀ u H',Same H H'->Is K H' (psD (unP ns ps)) u->Q u H'
theorem az0 {f:Addr}{fd:FuncData}(F:Fun K "bare" "bare" Qh f fd)(T:Ej mg)(Aw:Fnd P w K mg base 1 "behind_each" ["half"] (C9 K))(Jd:Fnd P w K mg base 2 "closed" ["half"] (Kq K))(Dy:Fnd P w K mg base 1 "has_third_between" ["reach","pair"] (Dk K)):FnOk P w K mg base CX0 3 f fd ["half"] (Vr K):=by
 refine F.ok a86 (λvs H Q E h=>?_) (λcdv A outer s H vs Q E hr h=>?_)
 . obtain⟨v,ns,ps,rfl,_⟩:=h;rfl
 obtain⟨v,ns,ps,rfl,hI,hW,k⟩:=h;have hu:=Bf hr;have hq:=Bd hr;have hfew:=hW.few;have hlen:(clP ns ps).length<=10000:=A0H (az6 ns ps) (A2P hfew hfew)
 with_reducible refine⟨_,(A2 (Ai (i:=1) a86.nd ⋯ (by with_unfolding_all exact A3I rfl) (Ae Aw (hr.mono ∅) ⋯ (A0 (pv 0) A1)))
  (A6 (Aj (Ax (B3 (K:=K)) ⋯ T.b_tuple PyProof.Rows.Boot.«tuple» (A0 (Bl ["pair"] ["reach"] [1] ⋯ ⋯ ⋯ (Av (K:=K) hu (Ae Jd (hr.mono ∅) ⋯ (A0 (pv 0) A1))) (λ_ _ _ _=>(Ac (i:=0) (by with_unfolding_all (show(["pair","reach"]:List Str).Nodup;decide +kernel)) ⋯ (by eq_refl))) (B5 ∅) (λ_ _ _ _=>(Ex (Gr (Fs (Ae Dy (hr.mono ∅) ⋯ (A0 (pv 1) (A0 (pv 0) A1))))))) (λ_ _ _ _=>(pv 0))) A1))))),?_⟩
 symm
 refine⟨v,ns,ps,rfl,hI,hW,λr as H1 hr1 ha1 e1 hT=>?_⟩
 symm
 refine⟨v,ns,ps,rfl,hI.hf_fz e1.fz,hW,λu H2 e2 hU=>?_⟩;have hT2:=hT.same e2;refine aj1 hU as hT2.some (λp=>!thB ns ps p) prD G7 nofun (λi p w H3 R R' hp hIp k3 hR hR'=>?_) (λq ys H3 hq3 k3 h3 hL3=>?_)
 . symm
   refine⟨r,w,ns,ps,as,p,rfl,hT2.toR.keep k3,hW.nd,hfew,hW.mem,hIp,(mem_clP.mp (A05 hp)).1,λH4 k4=>?_⟩
   symm
   refine ay1 (λhc=>?_) (λhc=>?_)
   . symm
     exact hR (by rw[hc];rfl) _ _ k4 (hIp.pr_fz k4.fz)
   exact hR' (by rw[hc];rfl) _ k4
 symm
 exact K3 h3 hL3 λu H4 e4 hu4=>k u H4 (((e1.trans e2).then ha1 k3).trans e4) hu4
theorem Ru {f:Addr}{fd:FuncData}(F:Fun K "are_untold" "are_untold" Ef f fd)(T:Ej mg):FnOk P w K mg base CX0 1 f fd ["reach","one","other"] (Hn K):=by
 refine F.ok R3 (λvs H Q E h=>?_) (λcdv A outer s H vs Q E hr h=>?_)
 . obtain⟨r,x,y,ns,ps,as,rfl,_⟩:=h;rfl
 obtain⟨r,x,y,ns,ps,as,rfl,hT,hn,hx,hy,k⟩:=h;have hu:=Bf hr;have hq:=Bd hr;obtain⟨i,a,hi,hai⟩:=hT.at hx;obtain⟨ks,hk1,hk2,hk3,hk4⟩:=hT.row i x a hi hai;obtain⟨j,b,hj,hbj⟩:=hT.at hy;obtain⟨ms,hm1,hm2,hm3,hm4⟩:=hT.row j y b hj hbj
 with_reducible refine⟨_,(A6 (Aj (Qm (Cw (Il (K:=K) hq) (pv 2) (A7 (A4 (K:=K) hu) (pv 0) (pv 1) (by ac_rfl)) ⋯) (Tu (Cw (Il (K:=K) hq) (pv 1) (A7 (A4 (K:=K) hu) (pv 0) (pv 2) (by ac_rfl)) ⋯))))),?_⟩
 symm
 refine Y4 hT hn hi hai ?_;refine T3 hk1 ?_;rw[Jm (hk4 y)]
 symm
 refine ay1 (λhc=>?_) (λhc=>?_)
 . symm
   refine Y4 hT hn hj hbj ?_;refine T3 hm1 ?_;rw[Jm (hm4 x)];unfold unB at k;rw[hc] at k;exact k
 unfold unB at k;rw[hc] at k;exact k
theorem Uy {f:Addr}{fd:FuncData}(F:Fun K "untold_of" "untold_of" Fb f fd)(T:Ej mg)(Ij:Fnd P w K mg base 1 "are_untold" ["reach","one","other"] (Hn K)):FnOk P w K mg base CX0 2 f fd ["reach"] (Ih K):=by
 refine F.ok Fm (λvs H Q E h=>?_) (λcdv A outer s H vs Q E hr h=>?_)
 . obtain⟨r,ns,ps,as,rfl,_⟩:=h;rfl
 obtain⟨r,ns,ps,as,rfl,hT,hnd,hfew,k⟩:=h;have hu:=Bf hr;have hq:=Bd hr
 with_reducible refine⟨_,(A2 (Ai (i:=1) Fm.nd ⋯ (by eq_refl) (Ax (Zd ⋯) ⋯ T.b_list PyProof.Rows.Boot.«list» (A0 (pv 0) A1)))
  (A2 (Ai (i:=2) Fm.nd ⋯ (by eq_refl) (Dq A1))
  (A2 (Cm A0V ⋯ (ak6 (K:=K) ⋯ T.b_enumerate (A0 (pv 1) A1)) (K4 (K:=K) (n:=2) ⋯ (Cd (Ac (i:=3) Fm.nd ⋯ (by eq_refl)) (Cd (Ac (i:=4) Fm.nd ⋯ (by with_unfolding_all exact A3I rfl)) J3)))
  (A6 (Cb (G6 (K:=K) A14 A2Z A30 (mm Iz) (pv 2) (A0 (Bl ["other"] ["one","reach"] [4,0] ⋯ ⋯ ⋯ (Av (K:=K) hu (Ce (Ve (K:=K)) (pv 1) (Ca (An (Am (K:=K)) (pv 3) A5)) Ga)) (λ_ _ _ _=>(Ac (i:=0) (by with_unfolding_all (show(["other","one","reach"]:List Str).Nodup;decide +kernel)) ⋯ (by eq_refl))) (B5 ∅) (λ_ _ _ _=>(Ex (Fs (Ae Ij (hr.mono ∅) ⋯ (A0 (pv 2) (A0 (pv 1) (A0 (pv 0) A1))))))) (λ_ _ _ _=>(Bi (A0 (pv 1) (A0 (pv 0) A1))))) A1)))))
  (A6 (Aj (Ax (B3 (K:=K)) ⋯ T.b_tuple PyProof.Rows.Boot.«tuple» (A0 (pv 2) A1))))))),?_⟩
 symm
 refine az1 hT.top (by unfold K2;rw[List.length_map,List.length_zip];omega) λq H1 hq1 e1 h1=>?_;rw[Y0 hT.len] at h1
 symm
 refine Eb (Af (by simp)) λp H2 hp2 e2 h2=>?_;have hpq:q≠p:=ne_of_none h1 hp2
 symm
 refine af2 (SqL.of (e2 _ _ h1)) (λi σ H3=>∃ x3 x4,σ=[some (.ref r),some (.ref q),some (.ref p),x3,x4]/\Same H1 H3/\Fz H2 H3/\∃ ys,H3 p=some (.lst ys)/\IsL K H3 ((unK ns ps i).map prD) ys)
  ⟨none,none,rfl,e2,.refl _,[],h2,.nil⟩ (λi σ' H' hP=>?_) (λi x σ' H3' H3 hx hP e33=>?_) (fun σ' H3 hP=>?_)
 . obtain⟨_,_,_,es,_⟩:=hP;exact SqL.of (es _ _ h1)
 . obtain⟨x3,x4,rfl,e3',fz3',ys,h3',hL'⟩:=hP
   obtain⟨z,hz,rfl⟩:∃ z,ns[i]? = some z/\x = .str z:=by
    rw[A09] at hx
    cases g:ns[i]? with
    |none=>rw[g] at hx;cases hx
    |some z=>rw[g] at hx;cases hx;exact⟨z,rfl,rfl⟩
   have e3:=e3'.trans e33;have fz3:=fz3'.trans e33.fz;have h3:=e33 _ _ h3';have hL:=IsL.mono e33 _ _ hL';have hzm:=A05 hz;have hin:i<ns.length:=(A03.mp hz).1
   have hly:ys.length<=i*ns.length:=by rw[<- IsL.length hL,A01];exact at7 ns ps i
   have hly2:i*ns.length<=100*100:=A2P nofun hfew
   symm
   refine Ni (SqL.of (e3 _ _ h1)) λt H4 ht4 e4 h4=>?_;rw[show((i:Int)+1)=(((i+1:Nat)):Int) from rfl,ah9 nofun] at h4;refine Ws (SqL.of h4) (λy=>unB ps z y) (λy=>prD (z,y)) (λ_=>G7 _) (by rw[A1H];omega) (λj y H5 R R' hy e5 hR hR'=>?_) (λq5 zs H5 hq5 e5 h5 hL5=>?_)
   . have hT5:=hT.same (((e1.trans e3).trans e4).trans e5)
     symm
     refine⟨r,z,y,ns,ps,as,rfl,hT5.toR,hnd,hzm,A2C (A05 hy),?_⟩
     symm
     refine ar0 (λhc=>?_) (λhc=>?_)
     . symm
       refine Bp (Af (by simp)) λt H6 ht6 e6 h6=>?_;exact hR hc _ _ e6 (Pd (SqT.of h6))
     exact hR' hc _ (Same.refl _)
   symm
   have h5p:=e5 _ _ (e4 _ _ h3)
   have hlz:zs.length<=ns.length:=by rw[<- IsL.length hL5,A01];exact A0H (A0O _ _) (by rw[A1H];omega)
   refine Xi h5p h5 nofun λH6 e6 h6=>?_
   symm
   have fz6:Fz H5 H6:=e6.fzL h5p;refine⟨_,_,rfl,?_,((fz3.trans e4.fz).trans e5.fz).trans fz6,_,h6,?_⟩
   . exact Same.off (q:=p) (H1:=H5) ((e3.trans e4).trans e5) hp2 e6
   rw[ah2,A0M];refine IsL.append (IsL.fz ((e4.fz.trans e5.fz).trans fz6) _ _ (Cf _) hL) ?_
   have e:(unR ns ps i).map prD=((ns.drop (i+1)).filter λy=>unB ps z y).map λy=>prD (z,y):=by unfold unR;rw[W8 hz,A18];rfl
   rw[e];exact IsL.fz fz6 _ _ (Gi _ (λ_=>G7 _) _) hL5
 obtain⟨x3,x4,rfl,e3,fz3,ys,h3,hL⟩:=hP;rw[A01] at hL
 symm
 exact K3 h3 hL λu H4 e4 hu4=>k u H4 ((e1.trans e3).trans e4) hu4
theorem a74 {f:Addr}{fd:FuncData}(F:Fun K "untold" "untold" Jl f fd)(T:Ej mg)(Aw:Fnd P w K mg base 1 "behind_each" ["half"] (C9 K))(Jz:Fnd P w K mg base 2 "untold_of" ["reach"] (Ih K)):FnOk P w K mg base CX0 3 f fd ["half"] (Oy K):=by
 refine F.ok Zr (λvs H Q E h=>?_) (λcdv A outer s H vs Q E hr h=>?_)
 . obtain⟨v,ns,ps,rfl,_⟩:=h;rfl
 obtain⟨v,ns,ps,rfl,hI,hW,k⟩:=h;have hu:=Bf hr;have hq:=Bd hr
 with_reducible refine⟨_,(A6 (Aj (Ae Jz (hr.mono ∅) ⋯ (A0 (Ae Aw (hr.mono ∅) ⋯ (A0 (pv 0) A1)) A1)))),?_⟩
 symm
 refine⟨v,ns,ps,rfl,hI,hW.c,λr as H1 hr1 ha1 e1 hT=>?_⟩
 symm
 exact⟨r,ns,ps,as,rfl,hT,hW.nd,hW.few,λu H2 e2 hU=>k u H2 (e1.trans e2) hU⟩
def az:Str:="abcdefghijklmnopqrstuvwxyz"
def ag3 (c:Nat):Bool:=!(Builtin.Str.occurrences az ⟨#[c]⟩ 0 az.length 1).isEmpty
def Kg (x:Str):Bool:=decide (1<=x.length)&&decide (x.length<=8)&&x.cps.toList.all ag3
def aQ2 (K:W.Frag)(H:Hp)(v:V):Prop:=∃ t,TyOf K H v t/\W.kitOne K t (.type "str")=some false
def Lg (K:W.Frag):Sp:=λvs H Q _=>∃ v,vs=[v]/\((∃ x,v = .str x/\x.length<=1000000/\∀ H',Same H H'->Q (.bl (Kg x)) H')\/(aQ2 K H v/\Q (.bl false) H))
theorem Z0 {f:Addr}{fd:FuncData}(F:Fun K "is_name" "is_name" Hf f fd)(T:Ej mg):FnOk P w K mg base CX0 1 f fd ["thing"] (Lg K):=by
 refine F.ok Yy (λvs H Q E h=>?_) (λcdv A outer s H vs Q E hr h=>?_)
 . obtain⟨v,rfl,_⟩:=h;rfl
 obtain⟨v,rfl,h⟩:=h;have hu:=Bf hr;have hq:=Bd hr
 with_reducible refine⟨_,(A2 (Bv (Gr (Fs (Al (Fk (K:=K)) ⋯ T.b_isinstance PyProof.Rows.Boot.«isinstance» (A0 (pv 0) (A0 (Nt (v:=.ty "str") ⋯ T.b_str PyProof.Rows.Boot.«str» ⋯) A1))))) (A6 (Aj Ev)) Ap)
  (A2 (Bv (PW.pt (Nu (Ag ac6 (Al (At (K:=K)) ⋯ T.b_len PyProof.Rows.Boot.«len» (A0 (pv 0) A1)) A5 (Aq _)) (Jv (Ag Ua (Al (At (K:=K)) ⋯ T.b_len PyProof.Rows.Boot.«len» (A0 (pv 0) A1)) (Zb ⋯ T.g_MOST_SIGNS) (Aq _))))) (A6 (Aj Ev)) Ap)
  (A6 (Aj (Al (Tq (K:=K) ⋯) ⋯ T.b_all PyProof.Rows.Boot.«all» (A0 (Bl ["sign"] [] [] ⋯ ⋯ ⋯ (Av (K:=K) hu (pv 0)) (λ_ _ _ _=>(Ac (i:=0) (by with_unfolding_all (show(["sign"]:List Str).Nodup;decide +kernel)) ⋯ (by eq_refl))) (B5 ∅) (λ_ _ _ _=>Cv) (λ_ _ _ _=>(Cw (Gm (K:=K) hq) (pv 0) (Zb ⋯ T.g_SMALL_LETTERS) ⋯))) A1)))))),?_⟩
 symm
 rcases h with ⟨x,rfl,hx,k⟩|⟨⟨t,ht,hk⟩,k⟩
 . refine aE4 (TyOf.str x) (b:=true) (by rfl) ?_
   symm
   refine Oz (λh1=>?_) (λh1=>?_)
   . symm
     have e:Kg x=false:=by unfold Kg;rw[A0P (by omega:¬ 1<=x.length)];rfl
     have:=k H (Same.refl H);rw[e] at this;exact this
   symm
   refine Oz (λh2=>?_) (λh2=>?_)
   . symm
     have e:Kg x=false:=by unfold Kg;rw[A0P (by omega:¬ x.length<=8),A4H];rfl
     have:=k H (Same.refl H);rw[e] at this;exact this
   symm
   refine Ko (ai5 x) (λv=>.bl (match v with | .str z=>!(Builtin.Str.occurrences az z 0 az.length 1).isEmpty | _=>false)) (by rw[A01,A48];exact hx) (λ_ _=>trivial) (λi v H1 R hv e hR=>?_) λp H' hp e h=>?_
   . obtain⟨c,rfl,_⟩:=au6 hv
     symm
     exact hR
   symm
   have e1:(x.cps.toList.map λc=>V.str ⟨#[c]⟩).map (λv=>V.bl (match v with | .str z=>!(Builtin.Str.occurrences az z 0 az.length 1).isEmpty | _=>false))=(x.cps.toList.map ag3).map V.bl:=by rw[A18,A18];rfl
   rw[e1] at h;refine aJ9 (SqL.of h) ?_
   have e2:Kg x=(x.cps.toList.map ag3).all id:=by unfold Kg;rw[A0S (by omega:1<=x.length),A0S (by omega:x.length<=8),List.all_map];rfl
   have:=k H' e;rw[e2] at this;exact this
 refine aE4 ht hk ?_
 symm
 exact k
theorem an5:∀ c<123,97<=c->ag3 c=true:=by decide +kernel
theorem a04 {z:Str}(h:Y1 z=true):Kg z=true:=by unfold Y1 at h;unfold Kg;rw[A0X] at h ⊢;refine⟨h.1,?_⟩;rw[A2K];intro c hc;have:=A2K.mp h.2 c hc;unfold Lq at this;simp only[Bool.and_eq_true,decide_eq_true_eq] at this;exact an5 c nofun nofun
def Bu (K:W.Frag):Sp:=λvs H Q _=>∃ v ns,vs=[v]/\Is K H (nmD ns) v/\Names ns/\ns.length<=10/\∀ H',Same H H'->Q (.bl true) H'
theorem K7 {f:Addr}{fd:FuncData}(F:Fun K "are_unlike_names" "are_unlike_names" Bg f fd)(T:Ej mg)(Nd:Fnd P w K mg base 1 "is_name" ["thing"] (Lg K)):FnOk P w K mg base CX0 2 f fd ["thing"] (Bu K):=by
 refine F.ok K1 (λvs H Q E h=>?_) (λcdv A outer s H vs Q E hr h=>?_)
 . obtain⟨v,ns,rfl,_⟩:=h;rfl
 obtain⟨v,ns,rfl,hI,hN,hz,k⟩:=h;have hu:=Bf hr;have hq:=Bd hr;obtain⟨a,rfl,hS⟩:=hI.nm
 with_reducible refine⟨_,(A2 (Bv (Gr (Fs (Al (Fk (K:=K)) ⋯ T.b_isinstance PyProof.Rows.Boot.«isinstance» (A0 (pv 0) (A0 (Nt (v:=.ty "tuple") ⋯ T.b_tuple PyProof.Rows.Boot.«tuple» ⋯) A1))))) (A6 (Aj Ev)) Ap)
  (A2 (Bv (Gr (Fs (Al (Tq (K:=K) ⋯) ⋯ T.b_all PyProof.Rows.Boot.«all» (A0 (Bl ["name"] [] [] ⋯ ⋯ ⋯ (Av (K:=K) hu (pv 0)) (λ_ _ _ _=>(Ac (i:=0) (by with_unfolding_all (show(["name"]:List Str).Nodup;decide +kernel)) ⋯ (by eq_refl))) (B5 ∅) (λ_ _ _ _=>Cv) (λ_ _ _ _=>(Ae Nd (hr.mono ∅) ⋯ (A0 (pv 0) A1)))) A1)))) (A6 (Aj Ev)) Ap)
  (A6 (Aj (Cw (Et (K:=K) hq) (a81 (K:=K) hr.hd ⋯ T.b_len ⋯ T.b_set (A0 (pv 0) A1)) (Al (At (K:=K)) ⋯ T.b_len PyProof.Rows.Boot.«len» (A0 (pv 0) A1)) (Aq _)))))),?_⟩
 symm
 refine Y3 hS (b:=true) (by first | rfl | kernel_rfl) ?_
 symm
 refine Wf hS ?_;refine an4 (K:=K) (Ia (xs:=ns.map V.str)) ns (by simp) (λ_=>true) (by rw[List.length_map];omega) (λH' e=>e.seqT hS) (λm z xv H1 R hz' hxv e1 hR=>?_) (λq H1 hq1 e1 h1=>?_)
 . rw[A09,hz'] at hxv
   cases hxv;have hnm:=hN.2 z (A05 hz')
   symm
   refine⟨.str z,rfl,.inl ⟨z,rfl,by have:=aH0 hnm;omega,λH2 e2=>?_⟩⟩;rw[a04 hnm];exact hR H2 e2
 symm
 refine aJ9 h1 ?_;rw[show(ns.map λ_=>true).all id=true by rw[List.all_map];simp]
 symm
 refine ak5 (e1.seqT hS) nofun ?_
 symm
 refine Jt (hI.nm_fz e1.fz) ?_;rw[a64 hN.1]
 symm
 simp only[decide_true];exact k H1 e1
def WyT (K:W.Frag)(H:Hp)(ps:List (Str×Str))(x:Str)(ks:List Str)(ts:List Addr):Prop:=ts.length=ks.length/\∀(i:Nat) (z:Str) (t:Addr),ks[i]? = some z->ts[i]? = some t->∃ js os,Is K H (jsD js) (.ref t)/\js.length<=1000/\Trl ps x js z os/\∀ o∈os,o∈ks
theorem WyT.fz {K:W.Frag}{H H':Hp}{ps:List (Str×Str)}{x:Str}{ks:List Str}{ts:List Addr}(h:WyT K H ps x ks ts)(e:Fz H H'):WyT K H' ps x ks ts:=
 ⟨h.1,λi z t hz ht=>let ⟨js,os,h1,h2⟩:=h.2 i z t hz ht;⟨js,os,Is.fz e _ _ (ap9 js) h1,h2⟩⟩
theorem WyT.snoc {K:W.Frag}{H:Hp}{ps:List (Str×Str)}{x:Str}{ks:List Str}{ts:List Addr}(h:WyT K H ps x ks ts){z:Str}{t:Addr}{js:List Nat}{os:List Str}(h1:Is K H (jsD js) (.ref t))(h2:js.length<=1000)(h3:Trl ps x js z os)(h4:∀ o∈os,o∈ks):WyT K H ps x (ks++[z]) (ts++[t]):=by
 refine⟨by simp[h.1],λi y u hy hu=>?_⟩
 by_cases hi:i<ks.length
 . rw[A2O hi] at hy;rw[A2O (by rw[h.1];exact hi)] at hu;obtain⟨js',os',g1,g2,g3,g4⟩:=h.2 i y u hy hu;exact⟨js',os',g1,g2,g3,λo ho=>A0G _ (g4 o ho)⟩
 have hi':i=ks.length:=by have:=(A03.mp hy).1;rw[A0C,A28] at this;omega
 subst hi';have e1:y=z:=by simpa using hy.symm
 have e2:u=t:=by rw[<- h.1] at hu;simpa using hu.symm
 subst e1 e2;exact⟨js,os,h1,h2,h3,λo ho=>A0G _ (h4 o ho)⟩
def Dd (K:W.Frag):Sp:=λvs H Q _=>∃ v x y ps,vs=[v,.str x,.str y]/\Is K H (psD ps) v/\ps.length<=100/\∀ u H',Same H H'->((u = .non/\¬ x=y/\¬ Way ps x y)\/∃ js os,Is K H' (jsD js) u/\js.length<=1000/\Trl ps x js y os)->Q u H'
theorem Lk {f:Addr}{fd:FuncData}(F:Fun K "way_by_sayings" "way_by_sayings" C2 f fd)(T:Ej mg):FnOk P w K mg base CX0 1 f fd ["sayings","start","goal"] (Dd K):=by
 refine F.ok Bs (λvs H Q E h=>?_) (λcdv A outer s H vs Q E hr h=>?_)
 . obtain⟨v,x,y,ps,rfl,_⟩:=h;rfl
 obtain⟨v,x,y,ps,rfl,hI,hl,k⟩:=h;have hu:=Bf hr;have hq:=Bd hr
 with_reducible refine⟨_,(A2 (Ai (i:=3) Bs.nd ⋯ (by eq_refl) (Sf (Hw (pv 1) (Bi A1) Rt) ⋯ ⋯ ∅ ∅))
  (A2 (Ai (i:=4) Bs.nd ⋯ (by eq_refl) (Dq (A0 (pv 1) A1)))
  (A2 (Xq A0V (Ag Ua (Al (At (K:=K)) ⋯ T.b_len PyProof.Rows.Boot.«len» (A0 (pv 4) A1)) A5 (Aq _))
  (A2 (Ai (i:=5) Bs.nd ⋯ (by eq_refl) (G6 (K:=K) A14 PySem.F.slot_list_pop PySem.F.type_list_pop (mm Xg) (pv 4) (A0 A5 A1)))
  (A6 (Cm A0V ⋯ (Qz (K:=K) ⋯ T.b_enumerate (A0 (pv 0) A1)) (K4 (K:=K) (n:=2) ⋯ (Cd (Ac (i:=6) Bs.nd ⋯ (by eq_refl)) (Cd (Ac (i:=7) Bs.nd ⋯ (by eq_refl)) J3)))
  (A6 (Bv (PW.pt (Te (Ag (Et (K:=K) hq) (A7 (A4 (K:=K) hu) (pv 7) A5 (by ac_rfl)) (pv 5) (Aq _)) (Na (Ag (Il (K:=K) hq) (A7 (A4 (K:=K) hu) (pv 7) A5 (by ac_rfl)) (pv 3) ⋯)))) (A2 (Gw hu (pv 3) (A7 (A4 (K:=K) hu) (pv 7) A5 (by ac_rfl)) (An (Am (K:=K)) (A7 (A4 (K:=K) hu) (pv 3) (pv 5) (by ac_rfl)) (Bi (A0 (pv 6) A1))) ⋯)
  (A6 (Cb (G6 (K:=K) A14 A2X A2Y (mm Hg) (pv 4) (A0 (A7 (A4 (K:=K) hu) (pv 7) A5 (by ac_rfl)) A1))))) Ap))))))
  (A6 (Aj (al2 hu (pv 3) (pv 2) (by with_unfolding_all exact⟨rfl,rfl,rfl,rfl⟩))))))),?_⟩
 symm
 refine X0 λr H1 hr1 e1 h1=>?_
 symm
 refine Bp ∅ λt0 H2 ht2 e2 h2=>?_
 symm
 refine Sg [(Sum.inr x,.ref t0)] (by walk_at "lk") (by rfl) (by simp) λH3 e3 h3=>?_;have h3':H3 r=some (.dK (K2 [x] [t0])):=h3
 symm
 refine Eb (Af (by simp)) λq H4 hq4 e4 h4=>?_;have h2r:H2 r=some (.dK []):=e2 _ _ h1;have ht03:H3 t0=some (.tup []):=e3 _ _ (ne_of h2 h2r (by intro z;cases z)) h2;have hrq:r≠q:=ne_of_none h3' hq4;have e04:Same H H4:=by walk_at "sm"
 have hq0:H q=none:=Same.free (by walk_at "sm":Same H H3) hq4
 have hW0:WyT K H4 ps x [x] [t0]:=⟨rfl,λi z t hz ht=>by
  have hi:i=0:=by have:=(A03.mp hz).1;simpa using this
  subst hi;have e1:z=x:=by simpa using hz.symm
  have e2:t=t0:=by simpa using ht.symm
  subst e1 e2;exact⟨[],[],Is.of_tup (SqT.of (e4 _ _ ht03)) .nil,by decide,Trl.nil ps _,λ_ h=>by cases h⟩⟩
 symm
 refine a69 (λm σ H5=>∃ ks ws ts x5 x6 x7,σ=[some v,some (.str x),some (.str y),some (.ref r),some (.ref q),x5,x6,x7]/\Same H H5/\H5 r=some (.dK (K2 ks ts))/\H5 q=some (.lst (ws.map V.str))/\WyT K H5 ps x ks ts/\WyI ps x ks ws/\m=2*(ps.length+1-ks.length)+ws.length)
  (2*(ps.length+1-[x].length)+[x].length) ⟨[x],[x],[t0],_,_,_,rfl,e04,e4 _ _ h3',h4,hW0,⟨by simp,by simp,λy hy=>.inl (by simpa using hy),λz hz=>hz,λz hz hn=>absurd hz hn,by simp⟩,rfl⟩ λm σ H5 hP=>?_
 obtain⟨ks,ws,ts,x5,x6,x7,rfl,e5,h5r,h5q,hT5,hB,rfl⟩:=hP
 symm
 refine Oz (λhE=>?_) (λhE=>?_)
 . cases ws with
   |nil=>simp at hE
   |cons here ws=>
   refine as0 ?_
   symm
   refine Wy (y:=.str here) h5q ∅ (by rfl) (λH6 e6 h6q=>?_) (by have:=hB.le;have:=hB.few;rw[A01];omega);have h6q':H6 q=some (.lst (ws.map V.str)):=h6q;have h6r:H6 r=some (.dK (K2 ks ts)):=e6 _ _ hrq h5r;have fz6:Fz H5 H6:=e6.fzL h5q;have e06:Same H H6:=by walk_at "sm"
   have hle:=hB.le;have hfew:=hB.few;rw[A0E] at hfew
   symm
   refine Vv (hI.ps_fz e06.fz) (λi σ H7=>∃ gs ms us x6 x7,σ=[some v,some (.str x),some (.str y),some (.ref r),some (.ref q),some (.str here),x6,x7]/\Same H H7/\Fz H6 H7/\H7 r=some (.dK (K2 gs us))/\H7 q=some (.lst (ms.map V.str))/\WyT K H7 ps x gs us/\WyJ ps x here ks ws gs ms i)
    ⟨ks,ws,ts,_,_,rfl,e06,.refl _,h6r,h6q',hT5.fz fz6,⟨hB.nd,hB.way,λz hz=>hB.line z (A0L _ hz),λ_ h=>h,λ_ h=>h,λ_ h=>.inl h,λj hj=>absurd hj (Nat.not_lt_zero _),rfl⟩⟩ (λi σ' H' hP=>?_) (λi pr w σ' H7 H8 hpr hIp hP e8=>?_) (fun σ' H7 hP=>?_)
   . obtain⟨_,_,_,_,_,_,_,fz,_⟩:=hP;exact fz
   . obtain⟨gs,ms,us,x6',x7',rfl,e7,fz7,h7r,h7q,hT7,hJ⟩:=hP;have hgl:=hJ.le;have hml:=hJ.len;have h8r:=e8 _ _ h7r;have h8q:=e8 _ _ h7q;have hT8:=hT7.fz e8.fz;have hhere:here∈gs:=hJ.keep here (hB.line here A12)
     symm
     refine Lr hIp ?_
     symm
     refine Oz (λh1=>?_) (λh1=>?_)
     . have h1':pr.1=here:=by injection h1
       symm
       refine Jx hIp ?_
       symm
       refine al7 h8r hT8.1 ?_
       symm
       refine Ps (λh2=>?_) (λh2=>?_)
       . obtain⟨ih,hih,eih⟩:=A23 hhere;have gih:gs[ih]? = some here:=by rw[A04 hih,eih]
         obtain⟨th,gth⟩:∃ th,us[ih]? = some th:=⟨us[ih]'(by rw[hT8.1];exact hih),A04 _⟩;obtain⟨js,os,hj1,hj2,hj3,hj4⟩:=hT8.2 ih here th gih gth;obtain⟨at',xs',hat,hS8,hL8⟩:=Is.tup hj1
         cases hat;have hlen8:xs'.length=js.length:=by rw[<- IsL.length hL8,A01]
         have hosn:=hj3.nd
         have hjl:js.length<=ps.length+1:=by have:=Cl (A16.mp hosn).1 (ys:=gs) hj4;rw[hj3.len] at this;omega
         symm
         refine i_ixD h8r (Kf hJ.nd gih gth) ?_
         symm
         refine Bp (Af (by simp)) λt9 H9 ht9 e9 h9=>?_;refine Oq (e9.seqT hS8) (SqT.of h9) (Af (by simp;omega)) λt10 H10 e10 h10=>?_
         have hI10:Is K H10 (jsD (js++[i])) (.ref t10):=by unfold jsD;rw[A0M];exact Is.of_tup h10 ((IsL.mono e10 _ _ (IsL.mono e9 _ _ hL8)).append (.one ap7))
         symm
         refine Jx ((hIp.pr_fz e9.fz).pr_fz e10.fz) ?_;have h10r:=e10 _ _ (e9 _ _ h8r);have h10q:=e10 _ _ (e9 _ _ h8q);refine Kp h10r (by unfold K2;rw[List.length_map,List.length_zip];omega) λH11 e11 h11r=>?_;rw[au2 h2 hT8.1.symm] at h11r;have fz11:Fz H10 H11:=e11.fzD h10r;have h11q:=e11 _ _ (Ne.symm hrq) h10q
         symm
         refine Jx (((hIp.pr_fz e9.fz).pr_fz e10.fz).pr_fz fz11) ?_
         symm
         refine Sq h11q (by rw[A01];omega) λH12 e12 h12q=>?_
         symm
         have fz12:Fz H11 H12:=e12.fzL h11q
         have hT12:WyT K H12 ps x (gs++[pr.2]) (us++[t10]):=WyT.snoc (hT8.fz (((e9.fz.trans e10.fz).trans fz11).trans fz12)) (Is.fz (fz11.trans fz12) _ _ (ap9 _) hI10) (by simp;omega) (hj3.snoc (by rw[<- h1'];exact hpr) (λhm=>by
          rcases A0I.mp hm with hm|hm
          . exact h2 (hj4 _ hm)
          . have:pr.2=here:=by simpa using hm
            exact h2 (this ▸ hhere))) (λo ho=>by
          rcases A0I.mp ho with ho|ho
          . exact hj4 o ho
          have:o=here:=by simpa using ho
          exact this ▸ hhere)
         refine⟨gs++[pr.2],ms++[pr.2],us++[t10],_,_,rfl,by walk_at "sm",(((fz7.trans e8.fz).trans (e9.fz.trans e10.fz)).trans fz11).trans fz12,e12 _ _ hrq h11r,?_,hT12,hJ.step hhere hpr h1' h2⟩;rw[h12q,A0M];rfl
       exact⟨gs,ms,us,_,_,rfl,by walk_at "sm",fz7.trans e8.fz,h8r,h8q,hT8,hJ.skip hpr λ_=>h2⟩
     exact⟨gs,ms,us,_,_,rfl,by walk_at "sm",fz7.trans e8.fz,h8r,h8q,hT8,hJ.skip hpr λe=>absurd (by rw[e]) h1⟩
   obtain⟨gs,ms,us,x6',x7',rfl,e7,fz7,h7r,h7q,hT7,hJ⟩:=hP;have hgl:=hJ.le;have hml:=hJ.len;have hge:=Cl hB.nd hJ.keep;refine⟨_,?_,gs,ms,us,_,_,_,rfl,e7,h7r,h7q,hT7,WyJ.done hB hJ,rfl⟩;rw[A0E];omega
 have hn:ws=[]:=by
  cases ws with
  |nil=>rfl
  |cons _ _=>simp at hE
 subst hn
 symm
 refine aI2 h5r ?_
 symm
 refine aG5 h5r ?_
 by_cases hy:y∈ks
 . obtain⟨iy,hiy,eiy⟩:=A23 hy;have giy:ks[iy]? = some y:=by rw[A04 hiy,eiy]
   obtain⟨ty,gty⟩:∃ ty,ts[iy]? = some ty:=⟨ts[iy]'(by rw[hT5.1];exact hiy),A04 _⟩;obtain⟨js,os,hj1,hj2,hj3,hj4⟩:=hT5.2 iy y ty giy gty;rw[Kf hB.nd giy gty];exact k _ H5 e5 (.inr ⟨js,os,hj1,hj2,hj3⟩)
 rw[I0 hy];exact k _ H5 e5 (.inl ⟨rfl,λe=>hy (e ▸ hB.has),λg=>hy (hB.all g)⟩)
structure Ut (ns:List Str)(ps:List (Str×Str)):Prop where
 names:Names ns
 few:ns.length<=10
 le:ps.length<=60
 mem:∀ p∈ps,p.1∈ns/\p.2∈ns
 irr:∀ x,¬ Way ps x x
def Fd (K:W.Frag):Sp:=Bu K
def J1 (K:W.Frag):Sp:=λvs H Q _=>∃ v u p ns,vs=[v,u]/\Is K H (prD p) v/\Is K H (nmD ns) u/\p.1∈ns/\p.2∈ns/\Q (.bl true) H
def Fq (K:W.Frag):Sp:=λvs H Q _=>∃ v ns ps,vs=[v]/\Is K H (hfD ns ps) v/\Ut ns ps/\∀ H',Same H H'->Q (.bl true) H'
def Db (K:W.Frag):Sp:=λvs H Q _=>∃ v ns ps,vs=[v]/\Is K H (hfD ns ps) v/\Ut ns ps/\∀ H',Same H H'->Q .non H'
def Vx (K:W.Frag):Sp:=λvs H Q _=>∃ v ns ps,vs=[v]/\Is K H (hfD ns ps) v/\Ut ns ps/\∀ H',Same H H'->Q .non H'
def Ft (K:W.Frag):Sp:=λvs H Q _=>∃ v ns ps,vs=[v]/\Is K H (hfD ns ps) v/\Ut ns ps/\∀ H',Same H H'->Q (.bl true) H'
theorem L9 {f:Addr}{fd:FuncData}(F:Fun K "are_tale_names" "are_tale_names" C3 f fd)(T:Ej mg)(Bk:Fnd P w K mg base 2 "are_unlike_names" ["thing"] (Bu K)):FnOk P w K mg base CX0 3 f fd ["thing"] (Fd K):=by
 refine F.ok L6 (λvs H Q E h=>?_) (λcdv A outer s H vs Q E hr h=>?_)
 . obtain⟨v,ns,rfl,_⟩:=h;rfl
 obtain⟨v,ns,rfl,hI,hN,hz,k⟩:=h;have hu:=Bf hr;have hq:=Bd hr
 with_reducible refine⟨_,(A6 (Aj (Qm (Ae Bk (hr.mono ∅) ⋯ (A0 (pv 0) A1)) (Tu (Cw aJ6 (Al (At (K:=K)) ⋯ T.b_len PyProof.Rows.Boot.«len» (A0 (pv 0) A1)) (Zb ⋯ T.g_MOST_NAMES) (Aq _)))))),?_⟩
 symm
 refine⟨v,ns,rfl,hI,hN,hz,λH1 e1=>?_⟩
 symm
 refine Jt (hI.nm_fz e1.fz) ?_
 symm
 rw[A0S nofun];exact k H1 e1
theorem Uv {f:Addr}{fd:FuncData}(F:Fun K "is_saying" "is_saying" Ew f fd)(T:Ej mg):FnOk P w K mg base CX0 1 f fd ["thing","names"] (J1 K):=by
 refine F.ok Tm (λvs H Q E h=>?_) (λcdv A outer s H vs Q E hr h=>?_)
 . obtain⟨v,u,p,ns,rfl,_⟩:=h;rfl
 obtain⟨v,u,p,ns,rfl,hI,hN,h1,h2,k⟩:=h;have hu:=Bf hr;have hq:=Bd hr;obtain⟨a,rfl,hS⟩:=hI.pr
 with_reducible refine⟨_,(A6 (Aj (Qm (Al (Fk (K:=K)) ⋯ T.b_isinstance PyProof.Rows.Boot.«isinstance» (A0 (pv 0) (A0 (Nt (v:=.ty "tuple") ⋯ T.b_tuple PyProof.Rows.Boot.«tuple» ⋯) A1))) (Qm (Cw (Et (K:=K) hq) (Al (At (K:=K)) ⋯ T.b_len PyProof.Rows.Boot.«len» (A0 (pv 0) A1)) A5 (Aq _)) (Qm (Cw (Gm (K:=K) hq) (A7 (A4 (K:=K) hu) (pv 0) A5 (by ac_rfl)) (pv 1) ⋯) (Tu (Cw (Gm (K:=K) hq) (A7 (A4 (K:=K) hu) (pv 0) A5 (by ac_rfl)) (pv 1) ⋯))))))),?_⟩
 symm
 refine Y3 hS (b:=true) (by first | rfl | kernel_rfl) ?_
 symm
 refine Xt (ds:=[.str p.1,.str p.2]) hI ?_
 symm
 rw[show decide (V.int (([PyData.str p.1,PyData.str p.2].length:Nat):Int)=V.int 2)=true by rfl]
 symm
 refine Lr hI ?_
 symm
 refine Vu hN ?_;rw[A0S h1]
 symm
 refine Jx hI ?_
 symm
 refine Vu hN ?_;rw[A0S h2];exact k
theorem av3 {K:W.Frag}{H:Hp}{ps:List (Str×Str)}{a:Addr}{xs:List V}{i:Nat}(h:SqT K H a (Ph xs none (some (i:Int))))(g:IsL K H (ps.map prD) xs):Is K H (psD (ps.take i)) (.ref a):=by rw[Hv nofun,Int.toNat_natCast] at h;refine Is.of_tup h ?_;rw[A34];exact IsL.take i g
theorem M7 {f:Addr}{fd:FuncData}(F:Fun K "is_tale_frame" "is_tale_frame" Ci f fd)(T:Ej mg)(Fp:Fnd P w K mg base 3 "are_tale_names" ["thing"] (Fd K)):FnOk P w K mg base CX0 4 f fd ["thing"] (Fq K):=by
 refine F.ok M3 (λvs H Q E h=>?_) (λcdv A outer s H vs Q E hr h=>?_)
 . obtain⟨v,ns,ps,rfl,_⟩:=h;rfl
 obtain⟨v,ns,ps,rfl,hI,hH,k⟩:=h;have hu:=Bf hr;have hq:=Bd hr;obtain⟨a,n0,p0,rfl,hS,hN,hP⟩:=hI.hf
 with_reducible refine⟨_,(A2 (Bv (PW.pt (Nu (Gr (Fs (Al (Fk (K:=K)) ⋯ T.b_isinstance PyProof.Rows.Boot.«isinstance» (A0 (pv 0) (A0 (Nt (v:=.ty "tuple") ⋯ T.b_tuple PyProof.Rows.Boot.«tuple» ⋯) A1))))) (Jv (Ag (Fj (K:=K) hq) (Al (At (K:=K)) ⋯ T.b_len PyProof.Rows.Boot.«len» (A0 (pv 0) A1)) A5 (Aq _))))) (A6 (Aj Ev)) Ap)
  (A2 (Bv (Gr (Fs (Ae Fp (hr.mono ∅) ⋯ (A0 (A7 (A4 (K:=K) hu) (pv 0) A5 (by ac_rfl)) A1)))) (A6 (Aj Ev)) Ap)
  (A6 (Aj (Qm (Al (Fk (K:=K)) ⋯ T.b_isinstance PyProof.Rows.Boot.«isinstance» (A0 (A7 (A4 (K:=K) hu) (pv 0) A5 (by ac_rfl)) (A0 (Nt (v:=.ty "tuple") ⋯ T.b_tuple PyProof.Rows.Boot.«tuple» ⋯) A1))) (Tu (Cw aJ6 (Al (At (K:=K)) ⋯ T.b_len PyProof.Rows.Boot.«len» (A0 (A7 (A4 (K:=K) hu) (pv 0) A5 (by ac_rfl)) A1)) (Zb ⋯ T.g_MOST_SAYINGS) (Aq _)))))))),?_⟩
 symm
 refine Y3 hS (b:=true) (by first | rfl | kernel_rfl) ?_
 symm
 refine aM2 hI ?_
 symm
 refine B7 hI λnv hN1=>?_
 symm
 refine⟨nv,ns,rfl,hN1,hH.names,hH.few,λH1 e1=>?_⟩
 symm
 refine Fh (hI.hf_fz e1.fz) λpv hP1=>?_;obtain⟨pa,xs,rfl,hS1,hX⟩:=hP1.tup
 symm
 refine Y3 hS1 (b:=true) (by first | rfl | kernel_rfl) ?_
 symm
 refine Fh (hI.hf_fz e1.fz) λpv2 hP2=>?_
 symm
 refine ao9 hP2 ?_
 symm
 have:=hH.le;rw[A0S nofun];exact k H1 e1
theorem Ir {f:Addr}{fd:FuncData}(F:Fun K "first_wrong_saying" "first_wrong_saying" B9 f fd)(T:Ej mg)(Kc:Fnd P w K mg base 1 "is_saying" ["thing","names"] (J1 K)):FnOk P w K mg base CX0 2 f fd ["tale"] (Db K):=by
 refine F.ok Da (λvs H Q E h=>?_) (λcdv A outer s H vs Q E hr h=>?_)
 . obtain⟨v,ns,ps,rfl,_⟩:=h;rfl
 obtain⟨v,ns,ps,rfl,hI,hH,k⟩:=h;have hu:=Bf hr;have hq:=Bd hr
 with_reducible refine⟨_,(A2 (Cm A0V ⋯ (Qz (K:=K) ⋯ T.b_enumerate (A0 (A7 (A4 (K:=K) hu) (pv 0) A5 (by ac_rfl)) A1)) (K4 (K:=K) (n:=2) ⋯ (Cd (Ac (i:=1) Da.nd ⋯ (by eq_refl)) (Cd (Ac (i:=2) Da.nd ⋯ (by eq_refl)) J3)))
  (A6 (Bv (Gr (Fs (Ae Kc (hr.mono ∅) ⋯ (A0 (pv 2) (A0 (A7 (A4 (K:=K) hu) (pv 0) A5 (by ac_rfl)) A1))))) (A6 (Aj (pv 1))) Ap)))
  (A6 (Aj Qb))),?_⟩
 symm
 refine Fh hI λsv hP=>?_
 symm
 refine Vv hP (λi σ H1=>∃ x1 x2,σ=[some v,x1,x2]/\Same H H1) ⟨_,_,rfl,Same.refl _⟩ (λi σ' H' hP=>?_) (λi pr w σ' H1 H2 hpr hIp hP e2=>?_) (fun σ' H1 hP=>?_)
 . obtain⟨_,_,_,e⟩:=hP;exact e.fz
 . obtain⟨x1,x2,rfl,e1⟩:=hP;have e02:Same H H2:=e1.trans e2
   symm
   refine B7 (hI.hf_fz e02.fz) λnv hN=>?_
   symm
   have hm:=hH.mem pr (A05 hpr);refine⟨w,nv,pr,ns,rfl,hIp,hN,hm.1,hm.2,?_⟩
   symm
   exact⟨_,_,rfl,e02⟩
 obtain⟨x1,x2,rfl,e1⟩:=hP
 symm
 exact k H1 e1
theorem au8 {f:Addr}{fd:FuncData}(F:Fun K "ring" "ring" Qr f fd)(T:Ej mg)(C1:Fnd P w K mg base 1 "way_by_sayings" ["sayings","start","goal"] (Dd K)):FnOk P w K mg base CX0 2 f fd ["tale"] (Vx K):=by
 refine F.ok Nm (λvs H Q E h=>?_) (λcdv A outer s H vs Q E hr h=>?_)
 . obtain⟨v,ns,ps,rfl,_⟩:=h;rfl
 obtain⟨v,ns,ps,rfl,hI,hH,k⟩:=h;have hu:=Bf hr;have hq:=Bd hr;have hl:=hH.le
 with_reducible refine⟨_,(A2 (Ai (i:=1) Nm.nd ⋯ (by eq_refl) (A7 (A4 (K:=K) hu) (pv 0) A5 (by ac_rfl)))
  (A2 (Cm A0V ⋯ (Qz (K:=K) ⋯ T.b_enumerate (A0 (pv 1) A1)) (K4 (K:=K) (n:=2) ⋯ (Cd (Ac (i:=2) Nm.nd ⋯ (by eq_refl)) (Cd (Ac (i:=3) Nm.nd ⋯ (by eq_refl)) J3)))
  (A2 (Ai (i:=4) Nm.nd ⋯ (by eq_refl) (Ae C1 (hr.mono ∅) ⋯ (A0 (Ce (Ve (K:=K)) (pv 1) Ga (Ca (pv 2))) (A0 (A7 (A4 (K:=K) hu) (pv 3) A5 (by ac_rfl)) (A0 (A7 (A4 (K:=K) hu) (pv 3) A5 (by ac_rfl)) A1)))))
  (A6 (Bv (Ag El (pv 4) Qb (Aq _)) (A6 (Aj (An (Am (K:=K)) (pv 4) (Bi (A0 (pv 2) A1))))) Ap))))
  (A6 (Aj Qb)))),?_⟩
 symm
 refine Fh hI λsv hP=>?_
 symm
 obtain⟨sa,sx,rfl,hS,hL⟩:=Is.tup hP;refine Vv hP (λi σ H1=>∃ x2 x3 x4,σ=[some v,some (.ref sa),x2,x3,x4]/\Same H H1) ⟨_,_,_,rfl,Same.refl _⟩ (λi σ' H' hP=>?_) (λi pr w σ' H1 H2 hpr hIp hP e2=>?_) (fun σ' H1 hP=>?_)
 . obtain⟨_,_,_,_,e⟩:=hP;exact e.fz
 . obtain⟨x2,x3,x4,rfl,e1⟩:=hP;have e02:Same H H2:=e1.trans e2
   symm
   refine aO2 (e02.seqT hS) λp3 H3 e3 h3=>?_;have hI3:Is K H3 (psD (ps.take i)) (.ref p3):=av3 h3 (IsL.mono (e02.trans e3) _ _ hL);have hIp3:=hIp.pr_fz e3.fz
   symm
   refine Jx hIp3 ?_
   symm
   refine Lr hIp3 ?_
   symm
   refine⟨.ref p3,pr.2,pr.1,ps.take i,rfl,hI3,by rw[A0T];omega,λu H4 e4 hres=>?_⟩
   symm
   rcases hres with ⟨rfl,_,_⟩|⟨js,os,_,_,hj3⟩
   . symm
     exact⟨_,_,_,rfl,by walk_at "sm"⟩
   have hmem:pr∈ps:=A05 hpr;exfalso;rcases hj3.way with e|g
   . exact hH.irr pr.1 (.one (by rw[show(pr.1,pr.1)=pr from Prod.ext rfl e.symm];exact hmem))
   exact hH.irr pr.1 (.cons (z:=pr.2) hmem (g.mono λq hq=>A1K hq))
 obtain⟨x2,x3,x4,rfl,e1⟩:=hP
 symm
 exact k H1 e1
theorem Rz {f:Addr}{fd:FuncData}(F:Fun K "right_half" "right_half" Eh f fd)(T:Ej mg)(Gg:Fnd P w K mg base 4 "is_tale_frame" ["thing"] (Fq K))(Dm:Fnd P w K mg base 2 "first_wrong_saying" ["tale"] (Db K))(ae6:Fnd P w K mg base 2 "ring" ["tale"] (Vx K)):FnOk P w K mg base CX0 5 f fd ["thing"] (Ft K):=by
 refine F.ok Hr (λvs H Q E h=>?_) (λcdv A outer s H vs Q E hr h=>?_)
 . obtain⟨v,ns,ps,rfl,_⟩:=h;rfl
 obtain⟨v,ns,ps,rfl,hI,hH,k⟩:=h;have hu:=Bf hr;have hq:=Bd hr
 with_reducible refine⟨_,(A2 (Bv (Gr (Fs (Ae Gg (hr.mono ∅) ⋯ (A0 (pv 0) A1)))) (A6 Gq) Ap)
  (A2 (Ai (i:=1) Hr.nd ⋯ (by eq_refl) (Ae Dm (hr.mono ∅) ⋯ (A0 (pv 0) A1)))
  (A2 (Bv (Ag El (pv 1) Qb (Aq _)) (A6 Gq) Ap)
  (A2 (Ai (i:=2) Hr.nd ⋯ (by eq_refl) (Ae ae6 (hr.mono ∅) ⋯ (A0 (pv 0) A1)))
  (A2 (Bv (Ag El (pv 2) Qb (Aq _)) (A6 Gq) Ap)
  (A6 (Aj Ev))))))),?_⟩
 symm
 refine⟨v,ns,ps,rfl,hI,hH,λH1 e1=>?_⟩
 symm
 refine⟨v,ns,ps,rfl,hI.hf_fz e1.fz,hH,λH2 e2=>?_⟩
 symm
 refine⟨v,ns,ps,rfl,hI.hf_fz (e1.trans e2).fz,hH,λH3 e3=>?_⟩
 symm
 exact k H3 ((e1.trans e2).trans e3)
def B2 (K:W.Frag):Sp:=λvs H Q _=>∃ v u ns ps xs,vs=[v,u]/\Is K H (hfD ns ps) v/\Is K H (nmD xs) u/\(∀ x∈xs,x∈ns)/\Q .non H
def Nj (K:W.Frag):Sp:=λvs H Q _=>∃ v x ns ps,vs=[v,.str x]/\Is K H (hfD ns ps) v/\HalfW ns ps/\x∈ns/\∀ u H',Same H H'->Is K H' (nmD (ns.filter λz=>Ak ps x z)) u->Q u H'
theorem K6 {f:Addr}{fd:FuncData}(F:Fun K "refuse_strangers" "refuse_strangers" Bh f fd)(T:Ej mg):FnOk P w K mg base CX0 1 f fd ["half","asked"] (B2 K):=by
 refine F.ok Gd (λvs H Q E h=>?_) (λcdv A outer s H vs Q E hr h=>?_)
 . obtain⟨v,u,ns,ps,xs,rfl,_⟩:=h;rfl
 obtain⟨v,u,ns,ps,xs,rfl,hI,hU,hx,k⟩:=h;have hu:=Bf hr;have hq:=Bd hr
 with_reducible refine⟨_,(A6 (Cm A0V ⋯ (Av (K:=K) hu (pv 1)) (Ac (i:=2) Gd.nd ⋯ (by eq_refl))
  (A6 (Bv (Ag (Il (K:=K) hq) (pv 2) (A7 (A4 (K:=K) hu) (pv 0) A5 (by ac_rfl)) ⋯) (A6 Gq) Ap)))),?_⟩
 symm
 refine Od hU (λi σ H1=>∃ x2,σ=[some v,some u,x2]/\H1=H) ⟨_,rfl,rfl⟩ (λi σ' H' hP=>?_) (λi z σ' H1 hz hP=>?_) (fun σ' H1 hP=>?_)
 . obtain⟨_,_,rfl⟩:=hP;exact .refl _
 . obtain⟨x2,rfl,rfl⟩:=hP
   symm
   refine B7 hI λnv hN=>?_;refine aF4 hN ?_
   symm
   refine Ps (λhc=>absurd (hx z (A05 hz)) hc) (λhc=>?_)
   symm
   exact⟨_,rfl,rfl⟩
 obtain⟨x2,rfl,rfl⟩:=hP;exact k
theorem a09 {x y:Str}{ns:List Str}(hx:x∈ns)(hy:y∈ns):∀ z∈[x,y],z∈ns:=λz hz=>by
 rcases A0F.mp hz with rfl|hz
 . exact hx
 have:z=y:=by simpa using hz
 subst this;exact hy
theorem a83 {x:Str}{ns:List Str}(hx:x∈ns):∀ z∈[x],z∈ns:=λz hz=>by
 have:z=x:=by simpa using hz
 subst this;exact hx
theorem a08 {f:Addr}{fd:FuncData}(F:Fun K "behind" "behind" Jf f fd)(T:Ej mg)(A9:Fnd P w K mg base 1 "refuse_strangers" ["half","asked"] (B2 K))(Aw:Fnd P w K mg base 1 "behind_each" ["half"] (C9 K)):FnOk P w K mg base CX0 2 f fd ["half","name"] (Nj K):=by
 refine F.ok T6 (λvs H Q E h=>?_) (λcdv A outer s H vs Q E hr h=>?_)
 . obtain⟨v,x,ns,ps,rfl,_⟩:=h;rfl
 obtain⟨v,x,ns,ps,rfl,hI,hW,hx,k⟩:=h;have hu:=Bf hr;have hq:=Bd hr
 with_reducible refine⟨_,(A2 (Cb (Ae A9 (hr.mono ∅) ⋯ (A0 (pv 0) (A0 (Bi (A0 (pv 1) A1)) A1))))
  (A2 (Ai (i:=2) T6.nd ⋯ (by with_unfolding_all exact A3I rfl) (Ae Aw (hr.mono ∅) ⋯ (A0 (pv 0) A1)))
  (A6 (Aj (Ax (B3 (K:=K)) ⋯ T.b_tuple PyProof.Rows.Boot.«tuple» (A0 (Bl ["other"] ["reach","name"] [2,1] ⋯ ⋯ ⋯ (Av (K:=K) hu (A7 (A4 (K:=K) hu) (pv 0) A5 (by ac_rfl))) (λ_ _ _ _=>(Ac (i:=0) (by with_unfolding_all (show(["other","reach","name"]:List Str).Nodup;decide +kernel)) ⋯ (by eq_refl))) (B5 ∅) (λ_ _ _ _=>(Ex (Ag (Gm (K:=K) hq) (pv 0) (A7 (A4 (K:=K) hu) (pv 1) (pv 2) (by ac_rfl)) ⋯))) (λ_ _ _ _=>(pv 0))) A1)))))),?_⟩
 symm
 refine Bp (Af (by simp)) λt H1 ht1 e1 h1=>?_
 symm
 refine⟨v,.ref t,ns,ps,[x],rfl,hI.hf_fz e1.fz,R0 (SqT.of h1),a83 hx,?_⟩
 symm
 refine⟨v,ns,ps,rfl,hI.hf_fz e1.fz,hW,λr as H2 hr2 ha2 e2 hT=>?_⟩
 symm
 refine B7 (hI.hf_fz (by walk_at "fz")) λnv hN=>?_;refine Gx hN (λz=>Ak ps x z) PyData.str (λ_=>rfl) (by have:=hW.few;omega) (λi z H3 R R' hz e3 hR hR'=>?_) (λp ys H3 hp e3 h3 hL=>?_)
 . have hT3:=hT.same e3;obtain⟨j,a,hj,haj⟩:=hT3.at hx;obtain⟨ks,hk1,hk2,hk3,hk4⟩:=hT3.row j x a hj haj
   symm
   refine R4 hT3 hW.nd hj haj ?_;refine Rq hk1 ?_;rw[Jm (hk4 z)]
   symm
   refine ar0 (λhc=>?_) (λhc=>?_)
   . symm
     exact hR hc _ _ (Same.refl _) Os
   exact hR' hc _ (Same.refl _)
 symm
 exact Qu h3 hL λu H4 e4 hu4=>k u H4 (by walk_at "sm") hu4
def Cq (K:W.Frag):Sp:=λvs H Q _=>∃ nv pv ns ps,vs=[nv,pv]/\Is K H (nmD ns) nv/\Is K H (psD ps) pv/\HalfW ns ps/\∀ u H',Same H H'->Is K H' (hfD ns (baP ns ps)) u->Q u H'
def Vp (K:W.Frag):Sp:=λvs H Q _=>∃ v x y ns ps,vs=[v,.str x,.str y]/\Is K H (hfD ns ps) v/\HalfW ns ps/\ps.length<=90/\x∈ns/\y∈ns/\x≠y/\¬ Way ps y x/\∀ u H',Same H H'->Is K H' (hfD ns (baP ns (ps++[(x,y)]))) u->Q u H'
theorem Ye {f:Addr}{fd:FuncData}(F:Fun K "thinned" "thinned" He f fd)(T:Ej mg)(a56:Fnd P w K mg base 3 "bare" ["half"] (Vr K)):FnOk P w K mg base CX0 4 f fd ["names","sayings"] (Cq K):=by
 refine F.ok Yo (λvs H Q E h=>?_) (λcdv A outer s H vs Q E hr h=>?_)
 . obtain⟨nv,sv,ns,ps,rfl,_⟩:=h;rfl
 obtain⟨nv,sv,ns,ps,rfl,hN,hP,hW,k⟩:=h;have hu:=Bf hr;have hq:=Bd hr
 with_reducible refine⟨_,(A6 (Aj (Bi (A0 (pv 0) (A0 (Ae a56 (hr.mono ∅) ⋯ (A0 (Bi (A0 (pv 0) (A0 (pv 1) A1))) A1)) A1))))),?_⟩
 symm
 refine Bp (Af (by simp)) λt1 H1 ht1 e1 h1=>?_
 symm
 refine⟨.ref t1,ns,ps,rfl,Yb (SqT.of h1) (hN.nm_fz e1.fz) (hP.ps_fz e1.fz),hW,λu2 H2 e2 hU2=>?_⟩
 symm
 refine Bp (Af (by simp)) λt3 H3 ht3 e3 h3=>?_;exact k _ H3 ((e1.trans e2).trans e3) (Yb (SqT.of h3) (hN.nm_fz ((e1.trans e2).trans e3).fz) (hU2.ps_fz e3.fz))
theorem aB6 {f:Addr}{fd:FuncData}(F:Fun K "said" "said" Qp f fd)(T:Ej mg)(A9:Fnd P w K mg base 1 "refuse_strangers" ["half","asked"] (B2 K))(C1:Fnd P w K mg base 1 "way_by_sayings" ["sayings","start","goal"] (Dd K))(B0:Fnd P w K mg base 4 "thinned" ["names","sayings"] (Cq K)):FnOk P w K mg base CX0 5 f fd ["half","name","other"] (Vp K):=by
 refine F.ok ac9 (λvs H Q E h=>?_) (λcdv A outer s H vs Q E hr h=>?_)
 . obtain⟨v,x,y,ns,ps,rfl,_⟩:=h;rfl
 obtain⟨v,x,y,ns,ps,rfl,hI,hW,hl,hx,hy,hne,hno,k⟩:=h;have hu:=Bf hr;have hq:=Bd hr
 with_reducible refine⟨_,(A2 (Cb (Ae A9 (hr.mono ∅) ⋯ (A0 (pv 0) (A0 (Bi (A0 (pv 1) (A0 (pv 2) A1))) A1))))
  (A2 (Ai (i:=3) ac9.nd ⋯ (by eq_refl) (Ae C1 (hr.mono ∅) ⋯ (A0 (A7 (A4 (K:=K) hu) (pv 0) A5 (by ac_rfl)) (A0 (pv 2) (A0 (pv 1) A1)))))
  (A2 (Bv (Ag El (pv 3) Qb (Aq _)) (A6 Gq) Ap)
  (A6 (Aj (Ae B0 (hr.mono ∅) ⋯ (A0 (A7 (A4 (K:=K) hu) (pv 0) A5 (by ac_rfl)) (A0 (An (Am (K:=K)) (A7 (A4 (K:=K) hu) (pv 0) A5 (by ac_rfl)) (Bi (A0 (Bi (A0 (pv 1) (A0 (pv 2) A1))) A1))) A1)))))))),?_⟩
 symm
 refine Bp (Af (by simp)) λt1 H1 ht1 e1 h1=>?_
 symm
 refine⟨v,.ref t1,ns,ps,[x,y],rfl,hI.hf_fz e1.fz,R0 (SqT.of h1),a09 hx hy,?_⟩
 symm
 refine Fh (hI.hf_fz e1.fz) λpv1 hP1=>?_
 symm
 refine⟨pv1,y,x,ps,rfl,hP1,by omega,λu2 H2 e2 hU2=>?_⟩
 have hnon:u2 = .non:=by
  rcases hU2 with ⟨h,_⟩|⟨js,os,_,_,htr⟩
  . exact h
  rcases htr.way with h|h
  . exact absurd h.symm hne
  exact absurd h hno
 subst hnon;have e12:=e1.trans e2
 symm
 refine B7 (hI.hf_fz e12.fz) λnv hN=>?_
 symm
 refine Fh (hI.hf_fz e12.fz) λpv hP=>?_
 symm
 refine Bp (Af (by simp)) λt3 H3 ht3 e3 h3=>?_
 symm
 refine Bp (Af (by simp)) λt4 H4 ht4 e4 h4=>?_;have hP4:=hP.ps_fz (e3.trans e4).fz;obtain⟨pa,xs,rfl,hS4,hL4⟩:=Is.tup hP4;have hxl:ps.length=xs.length:=by rw[<- IsL.length hL4,A01]
 refine Oq hS4 (SqT.of h4) (Af (by simp;omega)) λp5 H5 e5 h5=>?_
 have hP5:Is K H5 (psD (ps++[(x,y)])) (.ref p5):=by refine Is.of_tup h5 ?_;rw[A0M];exact IsL.append (IsL.mono e5 _ _ hL4) (.one ((Pd (SqT.of (e4 _ _ h3))).pr_fz e5.fz))
 symm
 refine⟨nv,.ref p5,ns,ps++[(x,y)],rfl,hN.nm_fz ((e3.trans e4).trans e5).fz,hP5,hW.said hx hy hne hno nofun,λu6 H6 e6 hU6=>?_⟩;exact k u6 H6 (((e12.trans e3).trans (e4.trans e5)).trans e6) hU6
def Eo (K:W.Frag):Sp:=λvs H Q _=>∃ v u ns ps ns' ps',vs=[v,u]/\Is K H (hfD ns ps) v/\Is K H (hfD ns' ps') u/\(∀ z∈ns,z∉ns')/\ns.length+ns'.length<=10/\∀ w H',Same H H'->Is K H' (nmD (ns++ns')) w->Q w H'
def Rr (K:W.Frag):Sp:=λvs H Q _=>∃ v u ns ps ns' ps',vs=[v,u]/\Is K H (hfD ns ps) v/\HalfW ns ps/\Is K H (hfD ns' ps') u/\HalfW ns' ps'/\(∀ z∈ns,z∉ns')/\ns.length+ns'.length<=10/\ps.length<=60/\ps'.length<=60 /\
 ∀ w H',Same H H'->Is K H' (hfD (ns++ns') (baP (ns++ns') (ps++ps'++btw ns ns'))) w->Q w H'
def Ot (K:W.Frag):Sp:=λvs H Q _=>∃ v u ns ps ns' ps',vs=[v,u]/\Is K H (hfD ns ps) v/\HalfW ns ps/\Is K H (hfD ns' ps') u/\HalfW ns' ps'/\(∀ z∈ns,z∉ns')/\ns.length+ns'.length<=10/\ps.length<=60/\ps'.length<=60 /\
 ∀ w H',Same H H'->Is K H' (hfD (ns++ns') (baP (ns++ns') (ps++ps'++[]))) w->Q w H'
theorem Pe {f:Addr}{fd:FuncData}(F:Fun K "joined_names" "joined_names" C8 f fd)(T:Ej mg):FnOk P w K mg base CX0 3 f fd ["one","other"] (Eo K):=by
 refine F.ok Iw (λvs H Q E h=>?_) (λcdv A outer s H vs Q E hr h=>?_)
 . obtain⟨v,u,ns,ps,ns',ps',rfl,_⟩:=h;rfl
 obtain⟨v,u,ns,ps,ns',ps',rfl,hI,hI',hd,h10,k⟩:=h;have hu:=Bf hr;have hq:=Bd hr
 with_reducible refine⟨_,(A2 (Bv (Fs (Al (Pf (K:=K) ⋯) ⋯ T.b_any PyProof.Rows.Boot.«any» (A0 (Bl ["name"] ["other"] [1] ⋯ ⋯ ⋯ (Av (K:=K) hu (A7 (A4 (K:=K) hu) (pv 0) A5 (by ac_rfl))) (λ_ _ _ _=>(Ac (i:=0) (by with_unfolding_all (show(["name","other"]:List Str).Nodup;decide +kernel)) ⋯ (by eq_refl))) (B5 ∅) (λ_ _ _ _=>Cv) (λ_ _ _ _=>(Cw (Gm (K:=K) hq) (pv 0) (A7 (A4 (K:=K) hu) (pv 1) A5 (by ac_rfl)) ⋯))) A1))) (A6 Gq) Ap)
  (A2 (Bv (Ag Ua (An (Am (K:=K)) (Al (At (K:=K)) ⋯ T.b_len PyProof.Rows.Boot.«len» (A0 (A7 (A4 (K:=K) hu) (pv 0) A5 (by ac_rfl)) A1)) (Al (At (K:=K)) ⋯ T.b_len PyProof.Rows.Boot.«len» (A0 (A7 (A4 (K:=K) hu) (pv 1) A5 (by ac_rfl)) A1))) (Zb ⋯ T.g_MOST_NAMES) (Aq _)) (A6 Gq) Ap)
  (A6 (Aj (An (Am (K:=K)) (A7 (A4 (K:=K) hu) (pv 0) A5 (by ac_rfl)) (A7 (A4 (K:=K) hu) (pv 1) A5 (by ac_rfl))))))),?_⟩
 symm
 refine B7 hI λnv hN=>?_;refine Gx hN (λ_=>true) (λy=>.bool (decide (y∈ns'))) (λ_=>by simp only[frz]) nofun (λi y H1 R R' hy e1 hR hR'=>?_) (λp ys H1 hp1 e1 h1 hL1=>?_)
 . symm
   refine B7 (hI'.hf_fz e1.fz) λnv' hN'=>?_
   symm
   refine Vu hN' ?_;exact hR rfl _ _ (.refl _) ay0
 have hft:ns.filter (λ_=>true)=ns:=by simp
 rw[hft] at hL1;have e:=IsL.bl_eq hL1;subst e
 symm
 refine aA5 (SqL.of h1) ?_
 have hno:((ns.map λy=>decide (y∈ns')).any id)=false:=by rw[List.any_eq_false];intro b hb;obtain⟨y,hy,rfl⟩:=A0A.mp hb;rw[A0P (hd y hy)];decide
 rw[hno]
 symm
 refine B7 (hI.hf_fz e1.fz) λnv1 hN1=>?_
 symm
 refine Jt hN1 ?_
 symm
 refine B7 (hI'.hf_fz e1.fz) λnv2 hN2=>?_
 symm
 refine Jt hN2 ?_
 symm
 refine Oz (λhbad=>absurd hbad nofun) (λ_=>?_)
 symm
 refine B7 (hI.hf_fz e1.fz) λnv3 hN3=>?_;obtain⟨n3,rfl,hS3⟩:=hN3.nm
 symm
 refine B7 (hI'.hf_fz e1.fz) λnv4 hN4=>?_;obtain⟨n4,rfl,hS4⟩:=hN4.nm;refine Oq hS3 hS4 (Af (by rw[A01,A01];omega)) λp5 H5 e5 h5=>?_;exact k _ H5 (e1.trans e5) (R0 (by rw[A0M];exact h5))
theorem ai3 {f:Addr}{fd:FuncData}(F:Fun K "above" "above" K5 f fd)(T:Ej mg)(B0:Fnd P w K mg base 4 "thinned" ["names","sayings"] (Cq K))(Ct:Fnd P w K mg base 3 "joined_names" ["one","other"] (Eo K)):FnOk P w K mg base CX0 5 f fd ["one","other"] (Rr K):=by
 refine F.ok Go (λvs H Q E h=>?_) (λcdv A outer s H vs Q E hr h=>?_)
 . obtain⟨v,u,ns,ps,ns',ps',rfl,_⟩:=h;rfl
 obtain⟨v,u,ns,ps,ns',ps',rfl,hI,hW,hI',hW',hd,h10,hl,hl',k⟩:=h;have hu:=Bf hr;have hq:=Bd hr
 with_reducible refine⟨_,(A2 (Ai (i:=2) Go.nd ⋯ (by eq_refl) (Ae Ct (hr.mono ∅) ⋯ (A0 (pv 0) (A0 (pv 1) A1))))
  (A2 (Ai (i:=3) Go.nd ⋯ (by eq_refl) (Dq A1))
  (A2 (Cm A0V ⋯ (Av (K:=K) hu (A7 (A4 (K:=K) hu) (pv 0) A5 (by ac_rfl))) (Ac (i:=4) Go.nd ⋯ (by with_unfolding_all exact A3I rfl))
  (A6 (Cb (G6 (K:=K) A14 A2Z A30 (mm Iz) (pv 3) (A0 (Bl ["under"] ["name"] [4] ⋯ ⋯ ⋯ (Av (K:=K) hu (A7 (A4 (K:=K) hu) (pv 1) A5 (by ac_rfl))) (λ_ _ _ _=>(Ac (i:=0) (by with_unfolding_all (show(["under","name"]:List Str).Nodup;decide +kernel)) ⋯ (by eq_refl))) (B5 ∅) (λ_ _ _ _=>Cv) (λ_ _ _ _=>(Bi (A0 (pv 1) (A0 (pv 0) A1))))) A1)))))
  (A6 (Aj (Ae B0 (hr.mono ∅) ⋯ (A0 (pv 2) (A0 (An (Am (K:=K)) (An (Am (K:=K)) (A7 (A4 (K:=K) hu) (pv 0) A5 (by ac_rfl)) (A7 (A4 (K:=K) hu) (pv 1) A5 (by ac_rfl))) (Ax (B3 (K:=K)) ⋯ T.b_tuple PyProof.Rows.Boot.«tuple» (A0 (pv 3) A1))) A1)))))))),?_⟩
 symm
 refine⟨v,u,ns,ps,ns',ps',rfl,hI,hI',hd,h10,λnw H1 e1 hNw=>?_⟩
 symm
 refine Eb (Af (by simp)) λp H2 hp2 e2 h2=>?_
 symm
 refine B7 (hI.hf_fz (e1.trans e2).fz) λnv hN=>?_
 refine Od hN (λi σ H3=>∃ x4,σ=[some v,some u,some nw,some (.ref p),x4]/\Same H1 H3/\Fz H2 H3/\∃ ys,H3 p=some (.lst ys)/\IsL K H3 ((btw (ns.take i) ns').map prD) ys)
  ⟨none,rfl,e2,.refl _,[],h2,.nil⟩ (λi σ' H' hP=>?_) (λi z σ' H3 hz hP=>?_) (fun σ' H3 hP=>?_)
 . obtain⟨_,_,_,fz,_⟩:=hP;exact fz
 . obtain⟨x4,rfl,e3,fz3,ys,h3,hL⟩:=hP;have hin:i<ns.length:=(A03.mp hz).1
   have hyl:ys.length<=100:=by rw[<- IsL.length hL,A01,Wj];exact A0H (A2P (show(ns.take i).length<=10 by rw[A0T];omega) (show ns'.length<=10 by omega)) ∅
   symm
   refine B7 (hI'.hf_fz (e1.fz.trans e3.fz)) λnv' hN'=>?_;refine Gx hN' (λ_=>true) (λy=>prD (z,y)) (λ_=>G7 _) nofun (λj y H4 R R' hy e4 hR hR'=>?_) (λq zs H4 hq4 e4 h4 hL4=>?_)
   . symm
     refine Bp (Af (by simp)) λt H5 ht5 e5 h5=>?_;exact hR rfl _ _ e5 (Pd (SqT.of h5))
   symm
   have hft:ns'.filter (λ_=>true)=ns':=by simp
   rw[hft] at hL4;have h4p:=e4 _ _ h3;have hlz:zs.length=ns'.length:=by rw[<- IsL.length hL4,A01]
   refine Xi h4p h4 nofun λH5 e5 h5=>?_
   symm
   have fz5:Fz H4 H5:=e5.fzL h4p;refine⟨_,rfl,Same.off (q:=p) (H1:=H4) (e3.trans e4) hp2 e5,(fz3.trans e4.fz).trans fz5,_,h5,?_⟩;have ht:ns.take (i+1)=ns.take i++[z]:=by rw[A0Y,hz];rfl
   rw[ht];unfold btw;rw[A5A,A0M];refine IsL.append (IsL.fz (e4.fz.trans fz5) _ _ (Cf _) hL) ?_
   have e:([z].flatMap λz=>ns'.map λy=>(z,y)).map prD=ns'.map λy=>prD (z,y):=by simp[Function.comp_def]
   rw[e];exact IsL.fz fz5 _ _ (Gi _ (λ_=>G7 _) _) hL4
 obtain⟨x4,rfl,e3,fz3,ys,h3,hL⟩:=hP;rw[A13] at hL;have e13:=e1.trans e3
 have hbl:(btw ns ns').length<=100:=by rw[Wj];exact A0H (A2P (show ns.length<=10 by omega) (show ns'.length<=10 by omega)) ∅
 have hyl:ys.length=(btw ns ns').length:=by rw[<- IsL.length hL,A01]
 symm
 refine Fh (hI.hf_fz e13.fz) λpv hP1=>?_;obtain⟨pa,xs,rfl,hS1,hL1⟩:=Is.tup hP1
 symm
 refine Fh (hI'.hf_fz e13.fz) λpv' hP2=>?_;obtain⟨pa',xs',rfl,hS2,hL2⟩:=Is.tup hP2;have l1:xs.length=ps.length:=by rw[<- IsL.length hL1,A01]
 have l2:xs'.length=ps'.length:=by rw[<- IsL.length hL2,A01]
 refine Oq hS1 hS2 (Af nofun) λp4 H4 e4 h4=>?_
 symm
 refine Ho (SqL.of (e4 _ _ h3)) λt5 H5 ht5 e5 h5=>?_;refine Oq (e5.seqT h4) (SqT.of h5) (Af (by rw[A0C];omega)) λp6 H6 e6 h6=>?_;have e36:=(e4.trans e5).trans e6
 have hP6:Is K H6 (psD (ps++ps'++btw ns ns')) (.ref p6):=by refine Is.of_tup h6 ?_;rw[A0M,A0M];exact IsL.append (IsL.append (IsL.mono e36 _ _ hL1) (IsL.mono e36 _ _ hL2)) (IsL.mono e36 _ _ hL)
 have hWj:=Mm hW hW' hd (bs:=btw ns ns') (λp hp=>mem_btw.mp hp) (.inr λx hx y hy=>mem_btw.mpr ⟨hx,hy⟩) h10 nofun
 symm
 exact⟨nw,.ref p6,ns++ns',_,rfl,hNw.nm_fz (e3.trans e36).fz,hP6,hWj,λw H7 e7 hw=>k w H7 ((e13.trans e36).trans e7) hw⟩
theorem ad7 {f:Addr}{fd:FuncData}(F:Fun K "beside" "beside" Hl f fd)(T:Ej mg)(B0:Fnd P w K mg base 4 "thinned" ["names","sayings"] (Cq K))(Ct:Fnd P w K mg base 3 "joined_names" ["one","other"] (Eo K)):FnOk P w K mg base CX0 5 f fd ["one","other"] (Ot K):=by
 refine F.ok Su (λvs H Q E h=>?_) (λcdv A outer s H vs Q E hr h=>?_)
 . obtain⟨v,u,ns,ps,ns',ps',rfl,_⟩:=h;rfl
 obtain⟨v,u,ns,ps,ns',ps',rfl,hI,hW,hI',hW',hd,h10,hl,hl',k⟩:=h;have hu:=Bf hr;have hq:=Bd hr
 with_reducible refine⟨_,(A6 (Aj (Ae B0 (hr.mono ∅) ⋯ (A0 (Ae Ct (hr.mono ∅) ⋯ (A0 (pv 0) (A0 (pv 1) A1))) (A0 (An (Am (K:=K)) (A7 (A4 (K:=K) hu) (pv 0) A5 (by ac_rfl)) (A7 (A4 (K:=K) hu) (pv 1) A5 (by ac_rfl))) A1))))),?_⟩
 symm
 refine⟨v,u,ns,ps,ns',ps',rfl,hI,hI',hd,h10,λnw H1 e1 hNw=>?_⟩
 symm
 refine Fh (hI.hf_fz e1.fz) λpv hP1=>?_;obtain⟨pa,xs,rfl,hS1,hL1⟩:=Is.tup hP1
 symm
 refine Fh (hI'.hf_fz e1.fz) λpv' hP2=>?_;obtain⟨pa',xs',rfl,hS2,hL2⟩:=Is.tup hP2;have l1:xs.length=ps.length:=by rw[<- IsL.length hL1,A01]
 have l2:xs'.length=ps'.length:=by rw[<- IsL.length hL2,A01]
 refine Oq hS1 hS2 (Af nofun) λp4 H4 e4 h4=>?_
 have hP4:Is K H4 (psD (ps++ps'++[])) (.ref p4):=by rw[A1Z];refine Is.of_tup h4 ?_;rw[A0M];exact IsL.append (IsL.mono e4 _ _ hL1) (IsL.mono e4 _ _ hL2)
 have hWj:=Mm hW hW' hd (bs:=[]) (λp hp=>by cases hp) (.inl rfl) h10 (by simp;omega)
 symm
 exact⟨nw,.ref p4,ns++ns',_,rfl,hNw.nm_fz e4.fz,hP4,hWj,λw H5 e5 hw=>k w H5 ((e1.trans e4).trans e5) hw⟩
local macro_rules | `(tactic| walk_at "rq1") => L2.mAlts "i_sRaise"
def RefJ (H:Hp)(C:Addr)(x:Str)(E:XK):Prop:=∀ a H',Same H H'->ExB false H' a C [("word",.str x)]->E (.ref a) none H'
def Bz (C:Addr)(K:W.Frag):Sp:=λvs H Q E=>∃ v u ns ps ns' ps' z,vs=[v,u]/\Is K H (hfD ns ps) v/\Is K H (hfD ns' ps') u/\ns.length<=10/\z∈ns/\z∈ns'/\RefJ H C "names" E
abbrev Mt:=Bz
abbrev Lh:=Bz
theorem M4 {f:Addr}{fd:FuncData}(F:Fun K "joined_names" "joined_names" C8 f fd)(T:Ej mg){C_HalfError:Addr}{C_NoName:Addr}{C_NoJoin:Addr}(x_HalfError:Bn K mg C_HalfError C_HalfError)(x_NoName:G2 K mg C_NoName C_HalfError)(x_NoJoin:G1 K mg C_NoJoin C_HalfError)(Fv:Mkx P w K mg base 1 C_NoJoin "NoJoin" ["self","word"] (spX C_NoJoin ["word"])):FnOk P w K mg base (CX1 P w) 3 f fd ["one","other"] (Bz C_NoJoin K):=by
 refine F.ok1 Iw (λvs H Q E h=>?_) (λcdv A outer s H vs Q E hr h=>?_)
 . obtain⟨v,u,ns,ps,ns',ps',z,rfl,_⟩:=h;rfl
 obtain⟨v,u,ns,ps,ns',ps',z,rfl,hI,hI',h10,hz,hz',k⟩:=h;have hu:=Bf hr;have hq:=Bd hr
 with_reducible refine⟨_,(A2 (Bv (Fs (Al (Pf (K:=K) ⋯) ⋯ T.b_any PyProof.Rows.Boot.«any» (A0 (Bl ["name"] ["other"] [1] ⋯ ⋯ ⋯ (Av (K:=K) hu (A7 (A4 (K:=K) hu) (pv 0) A5 (by ac_rfl))) (λ_ _ _ _=>(Ac (i:=0) (by with_unfolding_all (show(["name","other"]:List Str).Nodup;decide +kernel)) ⋯ (by eq_refl))) (B5 ∅) (λ_ _ _ _=>Cv) (λ_ _ _ _=>(Cw (Gm (K:=K) hq) (pv 0) (A7 (A4 (K:=K) hu) (pv 1) A5 (by ac_rfl)) ⋯))) A1))) (A6 (Xp ⋯ (ao4 Fv (hr.mono ∅) ⋯ (A0 Bc A1)))) Ap)
  (A2 (Bv (Ag Ua (An (Am (K:=K)) (Al (At (K:=K)) ⋯ T.b_len PyProof.Rows.Boot.«len» (A0 (A7 (A4 (K:=K) hu) (pv 0) A5 (by ac_rfl)) A1)) (Al (At (K:=K)) ⋯ T.b_len PyProof.Rows.Boot.«len» (A0 (A7 (A4 (K:=K) hu) (pv 1) A5 (by ac_rfl)) A1))) (Zb ⋯ T.g_MOST_NAMES) (Aq _)) (A6 (Xp ⋯ (ao4 Fv (hr.mono ∅) ⋯ (A0 Bc A1)))) Ap)
  (A6 (Aj (An (Am (K:=K)) (A7 (A4 (K:=K) hu) (pv 0) A5 (by ac_rfl)) (A7 (A4 (K:=K) hu) (pv 1) A5 (by ac_rfl))))))),?_⟩
 symm
 refine B7 hI λnv hN=>?_;refine Gx hN (λ_=>true) (λy=>.bool (decide (y∈ns'))) (λ_=>by simp only[frz]) nofun (λi y H1 R R' hy e1 hR hR'=>?_) (λp ys H1 hp1 e1 h1 hL1=>?_)
 . symm
   refine B7 (hI'.hf_fz e1.fz) λnv' hN'=>?_
   symm
   refine Vu hN' ?_;exact hR rfl _ _ (.refl _) ay0
 have hft:ns.filter (λ_=>true)=ns:=by simp
 rw[hft] at hL1;have e:=IsL.bl_eq hL1;subst e
 symm
 refine aA5 (SqL.of h1) ?_;rw[show(ns.map λy=>decide (y∈ns')).any id=true from A19.mpr ⟨_,A0A.mpr ⟨z,hz,rfl⟩,A0S hz'⟩]
 symm
 refine aO6 (by rfl) ∅ λa H2 ha2 e2 hE=>?_
 symm
 exact av7 hE x_NoJoin.xc (e1.free ha2) λH3 kp hE3=>k a H3 (e1.trans λb o q=>kp b o (ne_of_none q ha2) (e2 _ _ q)) hE3
theorem af6 {f:Addr}{fd:FuncData}(F:Fun K "above" "above" K5 f fd)(T:Ej mg){C_HalfError:Addr}{C_NoName:Addr}{C_NoJoin:Addr}(x_HalfError:Bn K mg C_HalfError C_HalfError)(x_NoName:G2 K mg C_NoName C_HalfError)(x_NoJoin:G1 K mg C_NoJoin C_HalfError)(B0:Fnd P w K mg base 4 "thinned" ["names","sayings"] (Cq K))(Co:ag9 P w K mg base 3 "joined_names" ["one","other"] (Bz C_NoJoin K)):FnOk P w K mg base (CX1 P w) 5 f fd ["one","other"] (Mt C_NoJoin K):=by
 refine F.ok1 Go (λvs H Q E h=>?_) (λcdv A outer s H vs Q E hr h=>?_)
 . obtain⟨v,u,ns,ps,ns',ps',z,rfl,_⟩:=h;rfl
 obtain⟨v,u,ns,ps,ns',ps',z,rfl,hI,hI',h10,hz,hz',k⟩:=h;have hu:=Bf hr;have hq:=Bd hr
 with_reducible refine⟨_,(A2 (Ai (i:=2) Go.nd ⋯ (by eq_refl) (as8 Co (hr.mono ∅) ⋯ an9 (A0 (pv 0) (A0 (pv 1) A1))))
  (A2 (Ai (i:=3) Go.nd ⋯ (by eq_refl) (Dq A1))
  (A2 (Cm PassesOwn.leaving ⋯ (Av (K:=K) hu (A7 (A4 (K:=K) hu) (pv 0) A5 (by ac_rfl))) (Ac (i:=4) Go.nd ⋯ (by with_unfolding_all exact A3I rfl))
  (A6 (Cb (G6 (K:=K) A14 A2Z A30 (mm Iz) (pv 3) (A0 (Bl ["under"] ["name"] [4] ⋯ ⋯ ⋯ (Av (K:=K) hu (A7 (A4 (K:=K) hu) (pv 1) A5 (by ac_rfl))) (λ_ _ _ _=>(Ac (i:=0) (by with_unfolding_all (show(["under","name"]:List Str).Nodup;decide +kernel)) ⋯ (by eq_refl))) (B5 ∅) (λ_ _ _ _=>Cv) (λ_ _ _ _=>(Bi (A0 (pv 1) (A0 (pv 0) A1))))) A1)))))
  (A6 (Aj (Ae B0 (hr.mono ∅) ⋯ (A0 (pv 2) (A0 (An (Am (K:=K)) (An (Am (K:=K)) (A7 (A4 (K:=K) hu) (pv 0) A5 (by ac_rfl)) (A7 (A4 (K:=K) hu) (pv 1) A5 (by ac_rfl))) (Ax (B3 (K:=K)) ⋯ T.b_tuple PyProof.Rows.Boot.«tuple» (A0 (pv 3) A1))) A1)))))))),?_⟩
 symm
 exact⟨v,u,ns,ps,ns',ps',z,rfl,hI,hI',h10,hz,hz',k⟩
theorem Yf {f:Addr}{fd:FuncData}(F:Fun K "beside" "beside" Hl f fd)(T:Ej mg){C_HalfError:Addr}{C_NoName:Addr}{C_NoJoin:Addr}(x_HalfError:Bn K mg C_HalfError C_HalfError)(x_NoName:G2 K mg C_NoName C_HalfError)(x_NoJoin:G1 K mg C_NoJoin C_HalfError)(B0:Fnd P w K mg base 4 "thinned" ["names","sayings"] (Cq K))(Co:ag9 P w K mg base 3 "joined_names" ["one","other"] (Bz C_NoJoin K)):FnOk P w K mg base (CX1 P w) 5 f fd ["one","other"] (Lh C_NoJoin K):=by
 refine F.ok1 Su (λvs H Q E h=>?_) (λcdv A outer s H vs Q E hr h=>?_)
 . obtain⟨v,u,ns,ps,ns',ps',z,rfl,_⟩:=h;rfl
 obtain⟨v,u,ns,ps,ns',ps',z,rfl,hI,hI',h10,hz,hz',k⟩:=h;have hu:=Bf hr;have hq:=Bd hr
 with_reducible refine⟨_,(A6 (Aj (Ae B0 (hr.mono ∅) ⋯ (A0 (as8 Co (hr.mono ∅) ⋯ an9 (A0 (pv 0) (A0 (pv 1) A1))) (A0 (An (Am (K:=K)) (A7 (A4 (K:=K) hu) (pv 0) A5 (by ac_rfl)) (A7 (A4 (K:=K) hu) (pv 1) A5 (by ac_rfl))) A1))))),?_⟩
 symm
 exact⟨v,u,ns,ps,ns',ps',z,rfl,hI,hI',h10,hz,hz',k⟩
def Oj (K:W.Frag):Sp:=λvs H Q _=>∃ v ns ps,vs=[v]/\Is K H (hfD ns ps) v/\Half ns ps/\∀ u H',Same H H'->Is K H' (hfD ns (baP ns (ps.map sw))) u->Q u H'
def Vn (K:W.Frag):Sp:=λvs H Q _=>∃ v w ns ps row,vs=[v,w]/\Is K H (hfD ns ps) v/\Half ns ps/\Is K H (nmD row) w/\(∀ z∈row,z∈ns)/\∀ u H',Same H H'->Is K H' (hfD (onL ns row) (baP (onL ns row) (onP ns ps row))) u->Q u H'
def Lc (K:W.Frag):Sp:=λvs H Q _=>∃ v x ns ps,vs=[v,.str x]/\Is K H (hfD ns ps) v/\Half ns ps/\x∈ns/\∀ u H',Same H H'->Is K H' (hfD (onL ns (ns.filter λy=>!decide (y=x))) (baP (onL ns (ns.filter λy=>!decide (y=x))) (onP ns ps (ns.filter λy=>!decide (y=x))))) u->Q u H'
def My (K:W.Frag):Sp:=λvs H Q _=>∃ v w ns ps row,vs=[v,w]/\Is K H (hfD ns ps) v/\Half ns ps/\Is K H (nmD row) w/\Names row/\row.length=ns.length/\∀ u H',Same H H'->Is K H' (hfD row (baP row (ps.map (ff (toF ns row))))) u->Q u H'
theorem Zm {f:Addr}{fd:FuncData}(F:Fun K "turned" "turned" Jb f fd)(T:Ej mg)(B0:Fnd P w K mg base 4 "thinned" ["names","sayings"] (Cq K)):FnOk P w K mg base CX0 5 f fd ["half"] (Oj K):=by
 refine F.ok Zv (λvs H Q E h=>?_) (λcdv A outer s H vs Q E hr h=>?_)
 . obtain⟨v,ns,ps,rfl,_⟩:=h;rfl
 obtain⟨v,ns,ps,rfl,hI,hH,k⟩:=h;have hu:=Bf hr;have hq:=Bd hr;have hle:=hH.le
 with_reducible refine⟨_,(A6 (Aj (Ae B0 (hr.mono ∅) ⋯ (A0 (A7 (A4 (K:=K) hu) (pv 0) A5 (by ac_rfl)) (A0 (Ax (B3 (K:=K)) ⋯ T.b_tuple PyProof.Rows.Boot.«tuple» (A0 (Bl ["saying"] [] [] ⋯ ⋯ ⋯ (Av (K:=K) hu (A7 (A4 (K:=K) hu) (pv 0) A5 (by ac_rfl))) (λ_ _ _ _=>(Ac (i:=0) (by with_unfolding_all (show(["saying"]:List Str).Nodup;decide +kernel)) ⋯ (by eq_refl))) (B5 ∅) (λ_ _ _ _=>Cv) (λ_ _ _ _=>(Bi (A0 (A7 (A4 (K:=K) hu) (pv 0) A5 (by ac_rfl)) (A0 (A7 (A4 (K:=K) hu) (pv 0) A5 (by ac_rfl)) A1))))) A1)) A1))))),?_⟩
 symm
 refine B7 hI λnv hN=>?_
 symm
 refine Fh hI λsv hP=>?_;refine Wg hP (λ_=>true) (λp=>prD (sw p)) (λ_=>G7 _) nofun (λi p w H1 R R' hp hIw e1 hR hR'=>?_) (λq ys H1 hq1 e1 h1 hL1=>?_)
 . symm
   refine Jx hIw ?_
   symm
   refine Lr hIw ?_
   symm
   refine Bp (Af (by simp)) λt H2 ht2 e2 h2=>?_;exact hR rfl _ _ e2 (Pd (SqT.of h2))
 have hft:ps.filter (λ_=>true)=ps:=by simp
 rw[hft] at hL1;have hL1':IsL K H1 ((ps.map sw).map prD) ys:=by rw[A18];exact hL1
 symm
 refine K3 h1 hL1' λu2 H2 e2 hI2=>?_
 symm
 exact⟨nv,u2,ns,ps.map sw,rfl,hN.nm_fz (e1.trans e2).fz,hI2,hH.back.w,λw H3 e3 hw=>k w H3 ((e1.trans e2).trans e3) hw⟩
theorem aB5 {f:Addr}{fd:FuncData}(F:Fun K "only" "only" Qs f fd)(T:Ej mg)(A9:Fnd P w K mg base 1 "refuse_strangers" ["half","asked"] (B2 K))(Jd:Fnd P w K mg base 2 "closed" ["half"] (Kq K))(B0:Fnd P w K mg base 4 "thinned" ["names","sayings"] (Cq K)):FnOk P w K mg base CX0 5 f fd ["half","names"] (Vn K):=by
 refine F.ok a95 (λvs H Q E h=>?_) (λcdv A outer s H vs Q E hr h=>?_)
 . obtain⟨v,w,ns,ps,row,rfl,_⟩:=h;rfl
 obtain⟨v,w,ns,ps,row,rfl,hI,hH,hR0,hsub,k⟩:=h;have hu:=Bf hr;have hq:=Bd hr;have hfew:=hH.few;have hcf:=hH.cl_few
 with_reducible refine⟨_,(A2 (Cb (Ae A9 (hr.mono ∅) ⋯ (A0 (pv 0) (A0 (pv 1) A1))))
  (A2 (Ai (i:=2) a95.nd ⋯ (by with_unfolding_all exact A3I rfl) (Ax (B3 (K:=K)) ⋯ T.b_tuple PyProof.Rows.Boot.«tuple» (A0 (Bl ["name"] ["names"] [1] ⋯ ⋯ ⋯ (Av (K:=K) hu (A7 (A4 (K:=K) hu) (pv 0) A5 (by ac_rfl))) (λ_ _ _ _=>(Ac (i:=0) (by with_unfolding_all (show(["name","names"]:List Str).Nodup;decide +kernel)) ⋯ (by eq_refl))) (B5 ∅) (λ_ _ _ _=>(Ex (Ag (Gm (K:=K) hq) (pv 0) (pv 1) ⋯))) (λ_ _ _ _=>(pv 0))) A1)))
  (A6 (Aj (Ae B0 (hr.mono ∅) ⋯ (A0 (pv 2) (A0 (Ax (B3 (K:=K)) ⋯ T.b_tuple PyProof.Rows.Boot.«tuple» (A0 (Bl ["pair"] ["left"] [2] ⋯ ⋯ ⋯ (Av (K:=K) hu (Ae Jd (hr.mono ∅) ⋯ (A0 (pv 0) A1))) (λ_ _ _ _=>(Ac (i:=0) (by with_unfolding_all (show(["pair","left"]:List Str).Nodup;decide +kernel)) ⋯ (by eq_refl))) (B5 ∅) (λ_ _ _ _=>(Ex (PW.pt (Te (Ag (Gm (K:=K) hq) (A7 (A4 (K:=K) hu) (pv 0) A5 (by ac_rfl)) (pv 1) ⋯) (Na (Ag (Gm (K:=K) hq) (A7 (A4 (K:=K) hu) (pv 0) A5 (by ac_rfl)) (pv 1) ⋯)))))) (λ_ _ _ _=>(pv 0))) A1)) A1))))))),?_⟩
 symm
 refine⟨v,w,ns,ps,row,rfl,hI,hR0,hsub,?_⟩
 symm
 refine B7 hI λnv hN=>?_;refine Gx hN (λz=>decide (z∈row)) PyData.str (λ_=>by simp only[frz]) nofun (λi z H1 R R' hz e1 hR hR'=>?_) (λq ys H1 hq1 e1 h1 hL1=>?_)
 . symm
   refine Vu (hR0.nm_fz e1.fz) ?_
   symm
   refine Oz (λhc=>?_) (λhc=>?_)
   . symm
     exact hR (A0S hc) _ _ (.refl _) Os
   exact hR' (A0P hc) _ (.refl _)
 symm
 refine Qu (ns:=onL ns row) h1 hL1 λu2 H2 e2 hI2=>?_;have e02:=e1.trans e2
 symm
 refine⟨v,ns,ps,rfl,hI.hf_fz e02.fz,hH.w,λu3 H3 e3 hI3=>?_⟩;refine Wg hI3 (λp=>decide (p.1∈onL ns row)&&decide (p.2∈onL ns row)) prD (λ_=>G7 _) nofun (λi p w H4 R R' hp hIw e4 hR hR'=>?_) (λq4 ys4 H4 hq4 e4 h4 hL4=>?_)
 . have hI4:=hI2.nm_fz (e3.trans e4).fz
   symm
   refine Lr hIw ?_
   symm
   refine Vu hI4 ?_
   symm
   refine Oz (λhc=>?_) (λhc=>?_)
   . symm
     refine Jx hIw ?_
     symm
     refine Vu hI4 ?_
     symm
     refine Oz (λhc2=>?_) (λhc2=>?_)
     . symm
       exact hR (by rw[A0S hc,A0S hc2];rfl) _ _ (.refl _) hIw
     exact hR' (by rw[A0S hc,A0P hc2];rfl) _ (.refl _)
   symm
   exact hR' (by rw[A0P hc];rfl) _ (.refl _)
 symm
 refine K3 (ps:=onP ns ps row) h4 hL4 λu5 H5 e5 hI5=>?_
 symm
 exact⟨u2,u5,onL ns row,onP ns ps row,rfl,hI2.nm_fz ((e3.trans e4).trans e5).fz,hI5,Vw hH row,λw H6 e6 hw=>k w H6 ((((e02.trans e3).trans e4).trans e5).trans e6) hw⟩
theorem Zc {f:Addr}{fd:FuncData}(F:Fun K "without" "without" Hj f fd)(T:Ej mg)(A9:Fnd P w K mg base 1 "refuse_strangers" ["half","asked"] (B2 K))(a05:Fnd P w K mg base 5 "only" ["half","names"] (Vn K)):FnOk P w K mg base CX0 6 f fd ["half","name"] (Lc K):=by
 refine F.ok Yn (λvs H Q E h=>?_) (λcdv A outer s H vs Q E hr h=>?_)
 . obtain⟨v,x,ns,ps,rfl,_⟩:=h;rfl
 obtain⟨v,x,ns,ps,rfl,hI,hH,hx,k⟩:=h;have hu:=Bf hr;have hq:=Bd hr;have hfew:=hH.few
 with_reducible refine⟨_,(A2 (Cb (Ae A9 (hr.mono ∅) ⋯ (A0 (pv 0) (A0 (Bi (A0 (pv 1) A1)) A1))))
  (A6 (Aj (Ae a05 (hr.mono ∅) ⋯ (A0 (pv 0) (A0 (Ax (B3 (K:=K)) ⋯ T.b_tuple PyProof.Rows.Boot.«tuple» (A0 (Bl ["other"] ["name"] [1] ⋯ ⋯ ⋯ (Av (K:=K) hu (A7 (A4 (K:=K) hu) (pv 0) A5 (by ac_rfl))) (λ_ _ _ _=>(Ac (i:=0) (by with_unfolding_all (show(["other","name"]:List Str).Nodup;decide +kernel)) ⋯ (by eq_refl))) (B5 ∅) (λ_ _ _ _=>(Ex (Ag (Fj (K:=K) hq) (pv 0) (pv 1) (Aq _)))) (λ_ _ _ _=>(pv 0))) A1)) A1)))))),?_⟩
 symm
 refine Bp (Af (by simp)) λt1 H1 ht1 e1 h1=>?_
 symm
 refine⟨v,.ref t1,ns,ps,[x],rfl,hI.hf_fz e1.fz,R0 (SqT.of h1),λz hz=>by rw[A1Y.mp hz];exact hx,?_⟩
 symm
 refine B7 (hI.hf_fz e1.fz) λnv hN=>?_;refine Gx hN (λy=>!decide (y=x)) PyData.str (λ_=>by simp only[frz]) nofun (λi z H2 R R' hz e2 hR hR'=>?_) (λq ys H2 hq2 e2 h2 hL2=>?_)
 . symm
   refine Ps (λhc=>?_) (λhc=>?_)
   . symm
     exact hR (by rw[A0P λe=>hc (by rw[e])];rfl) _ _ (.refl _) Os
   have hc':z=x:=by injection hc
   exact hR' (by rw[A0S hc'];rfl) _ (.refl _)
 symm
 refine Qu (ns:=ns.filter λy=>!decide (y=x)) h2 hL2 λu3 H3 e3 hI3=>?_
 symm
 exact⟨v,u3,ns,ps,_,rfl,hI.hf_fz ((e1.trans e2).trans e3).fz,hH,hI3,λz hz=>(A0N.mp hz).1,λu H4 e4 hu4=>k u H4 (((e1.trans e2).trans e3).trans e4) hu4⟩
theorem aa3 {f:Addr}{fd:FuncData}(F:Fun K "called" "called" Jk f fd)(T:Ej mg)(Bk:Fnd P w K mg base 2 "are_unlike_names" ["thing"] (Bu K))(B0:Fnd P w K mg base 4 "thinned" ["names","sayings"] (Cq K)):FnOk P w K mg base CX0 5 f fd ["half","names"] (My K):=by
 refine F.ok Ug (λvs H Q E h=>?_) (λcdv A outer s H vs Q E hr h=>?_)
 . obtain⟨v,w,ns,ps,row,rfl,_⟩:=h;rfl
 obtain⟨v,w,ns,ps,row,rfl,hI,hH,hR0,hN,hl,k⟩:=h;have hu:=Bf hr;have hq:=Bd hr;have hfew:=hH.few;have hle:=hH.le;have hnd:=hH.names.1
 with_reducible refine⟨_,(A2 (Bv (PW.pt (Nu (Gr (Fs (Ae Bk (hr.mono ∅) ⋯ (A0 (pv 1) A1)))) (Jv (Ag (Fj (K:=K) hq) (Al (At (K:=K)) ⋯ T.b_len PyProof.Rows.Boot.«len» (A0 (pv 1) A1)) (Al (At (K:=K)) ⋯ T.b_len PyProof.Rows.Boot.«len» (A0 (A7 (A4 (K:=K) hu) (pv 0) A5 (by ac_rfl)) A1)) (Aq _))))) (A6 Gq) Ap)
  (A2 (Ai (i:=2) Ug.nd ⋯ (by with_unfolding_all exact A3I rfl) (Qo (K:=K) hr.hd ⋯ T.b_dict ⋯ T.b_zip (A0 (A7 (A4 (K:=K) hu) (pv 0) A5 (by ac_rfl)) (A0 (pv 1) A1))))
  (A6 (Aj (Ae B0 (hr.mono ∅) ⋯ (A0 (pv 1) (A0 (Ax (B3 (K:=K)) ⋯ T.b_tuple PyProof.Rows.Boot.«tuple» (A0 (Bl ["saying"] ["new"] [2] ⋯ ⋯ ⋯ (Av (K:=K) hu (A7 (A4 (K:=K) hu) (pv 0) A5 (by ac_rfl))) (λ_ _ _ _=>(Ac (i:=0) (by with_unfolding_all (show(["saying","new"]:List Str).Nodup;decide +kernel)) ⋯ (by eq_refl))) (B5 ∅) (λ_ _ _ _=>Cv) (λ_ _ _ _=>(Bi (A0 (A7 (A4 (K:=K) hu) (pv 1) (A7 (A4 (K:=K) hu) (pv 0) A5 (by ac_rfl)) (by ac_rfl)) (A0 (A7 (A4 (K:=K) hu) (pv 1) (A7 (A4 (K:=K) hu) (pv 0) A5 (by ac_rfl)) (by ac_rfl)) A1))))) A1)) A1))))))),?_⟩
 symm
 refine⟨w,row,rfl,hR0,hN,by omega,λH1 e1=>?_⟩
 symm
 refine Jt (hR0.nm_fz e1.fz) ?_
 symm
 refine B7 (hI.hf_fz e1.fz) λnv1 hN1=>?_
 symm
 refine Jt hN1 ?_;rw[hl]
 symm
 refine B7 (hI.hf_fz e1.fz) λnv2 hN2=>?_;obtain⟨n2,rfl,hS2⟩:=hN2.nm
 symm
 obtain⟨w2,rfl,hSw⟩:=(hR0.nm_fz e1.fz).nm;refine T4 hS2 (.inr hSw) (by rw[A01];exact hl) hnd nofun λc H3 hc3 e3 h3=>?_;have e13:=e1.trans e3
 symm
 refine Fh (hI.hf_fz e13.fz) λsv hP=>?_;refine Wg hP (λ_=>true) (λp=>prD (ff (toF ns row) p)) (λ_=>G7 _) nofun (λj p w H4 R R' hp hIw e4 hR hR'=>?_) (λq4 y4 H4 hq4 e4 h4 hL4=>?_)
 . have hpm:=hH.mem (A05 hp);have h4c:=e4 _ _ h3
   symm
   refine Lr hIw ?_;refine i_ixD h4c (Md hnd hl hpm.1) ?_
   symm
   refine Jx hIw ?_;refine i_ixD h4c (Md hnd hl hpm.2) ?_
   symm
   refine Bp (Af (by simp)) λt5 H5 ht5 e5 h5=>?_;exact hR rfl _ _ e5 (Pd (SqT.of h5))
 have hft:ps.filter (λ_=>true)=ps:=by simp
 rw[hft] at hL4;have hL4':IsL K H4 ((ps.map (ff (toF ns row))).map prD) y4:=by rw[A18];exact hL4
 symm
 refine K3 h4 hL4' λu5 H5 e5 hI5=>?_
 symm
 exact⟨.ref w2,u5,row,_,rfl,hR0.nm_fz ((e13.trans e4).trans e5).fz,hI5,(Kn hH hN hl).w,λw H6 e6 hw=>k w H6 (((e13.trans e4).trans e5).trans e6) hw⟩
def L0 (K:W.Frag):Sp:=λvs H Q _=>∃ v ns,vs=[v]/\Is K H (nmD ns) v/\ns.Nodup/\ns.length<=10/\∀ d H',H d=none->Same H H'->H' d=some (.dK (aC7 ns))->Q (.ref d) H'
def Hx (K:W.Frag):Sp:=λvs H Q _=>∃ v bd ns ps,vs=[v,.ref bd]/\Is K H (hfD ns ps) v/\Sb ns ps/\ns.length<=10/\H bd=some (.dK (aC7 ns))/\∀ d H',H d=none->Same H H'->H' d=some (.dK (ahK ns ps))->Q (.ref d) H'
def Gs (C:Addr)(K:W.Frag):Sp:=λvs H Q _=>∃ p v dx ns ps,vs=[.ref p,v]/\H p=some (.ins C dx [])/\Is K H (hfD ns ps) v/\Sb ns ps/\ns.length<=10 /\
 ∀ nv bd ad kd kvs H',H kd=none->ExtBut p H H'->WaysAt K C H' p dx nv bd ad kd ns ps kvs->Q .non H'
def Bj (C:Addr)(K:W.Frag):Sp:=λvs H Q _=>∃ p dx nv bd ad kd ns ps kvs q,vs=[.ref p,.int ((Bx ns q:Nat):Int)]/\WaysAt K C H p dx nv bd ad kd ns ps kvs/\Sb ns ps/\ns.length<=10 /\
 ∀ l H',H l=none->Same H H'->H' l=some (.lst ((frF (Ak ps) (ns.filter q)).map V.str))->Q (.ref l) H'
def Cn (C:Addr)(K:W.Frag)(n:Nat):Sp:=λvs H Q _=>∃ p dx nv bd ad kd ns ps kvs q,vs=[.ref p,.int ((Bx ns q:Nat):Int)]/\WaysAt K C H p dx nv bd ad kd ns ps kvs/\Sb ns ps/\ns.length<=10/\(ns.filter q).length<n /\
 ∀ kvs' H',ExtBut kd H H'->WaysAt K C H' p dx nv bd ad kd ns ps kvs'->Q (.int ((cnt (Ak ps) (ns.filter q):Nat):Int)) H'
def Ek (C:Addr)(K:W.Frag):Sp:=Cn C K 11
theorem Ik {C:Addr}{K:W.Frag}:∀ vs H Q E,¬ Cn C K 0 vs H Q E:=by rintro vs H Q E ⟨_,_,_,_,_,_,_,_,_,_,_,_,_,_,h,_⟩;exact absurd h (Nat.not_lt_zero _)
def Kr (K:W.Frag):Sp:=λvs H Q _=>∃ v ns ps,vs=[v]/\Is K H (hfD ns ps) v/\Sb ns ps/\ns.length<=10/\∀ H',Same H H'->Q (.int ((cnt (Ak ps) ns:Nat):Int)) H'
theorem as9 {ns:List Str}(hn:ns.Nodup)(h:ns.length<=10){x:Str}(hx:x∈ns):Fn ns x<=1024:=by obtain⟨j,hj⟩:=A41.mp hx;rw[Oo hn hj];exact(A43 ∅ (by have:=(A03.mp hj).1;omega):2 ^ j<=2 ^ 10)
theorem Gu {f g:Str}{v x:V}{r:List (Str×V)}(h:¬ g=f):Lm f v ((g,x) :: r)=(g,x) :: Lm f v r:=by
 show(if g=f then _ else _)=_
 rw[A10 h]
theorem fld2 (a b:V):Lm "bits" b [("names",a)]=([("names",a),("bits",b)]:List (Str×V)):=by rw[Gu (by decide +kernel)];rfl
theorem fld3 (a b c:V):Lm "ahead" c [("names",a),("bits",b)]=([("names",a),("bits",b),("ahead",c)]:List (Str×V)):=by rw[Gu (by decide +kernel),Gu (by decide +kernel)];rfl
theorem fld4 (a b c d:V):Lm "full" d [("names",a),("bits",b),("ahead",c)]=([("names",a),("bits",b),("ahead",c),("full",d)]:List (Str×V)):=by rw[Gu (by decide +kernel),Gu (by decide +kernel),Gu (by decide +kernel)];rfl
theorem fld5 (a b c d e:V):Lm "known" e [("names",a),("bits",b),("ahead",c),("full",d)]=([("names",a),("bits",b),("ahead",c),("full",d),("known",e)]:List (Str×V)):=by rw[Gu (by decide +kernel),Gu (by decide +kernel),Gu (by decide +kernel),Gu (by decide +kernel)];rfl
theorem Zi {f:Addr}{fd:FuncData}(F:Fun K "bits_of" "bits_of" Hc f fd)(T:Ej mg):FnOk P w K mg base CX0 1 f fd ["names"] (L0 K):=by
 refine F.ok Hi (λvs H Q E h=>?_) (λcdv A outer s H vs Q E hr h=>?_)
 . obtain⟨v,ns,rfl,_⟩:=h;rfl
 obtain⟨v,ns,rfl,hI,hn,h10,k⟩:=h;have hu:=Bf hr;have hq:=Bd hr
 with_reducible refine⟨_,(A2 (Ai (i:=1) Hi.nd ⋯ (by eq_refl) Mi)
  (A2 (Ai (i:=2) Hi.nd ⋯ (by eq_refl) A5)
  (A2 (Cm A0V ⋯ (Av (K:=K) hu (pv 0)) (Ac (i:=3) Hi.nd ⋯ (by eq_refl))
  (A2 (Gw hu (pv 1) (pv 3) (pv 2) ⋯)
  (A6 (Ai (i:=2) Hi.nd ⋯ (by eq_refl) (An By (pv 2) A5)))))
  (A6 (Aj (pv 1)))))),?_⟩
 symm
 refine Xb λd H1 hd1 e1 h1=>?_
 symm
 refine Od (hI.nm_fz e1.fz) (λi σ H2=>∃ x3,σ=[some v,some (.ref d),some (.int ((2 ^ i:Nat):Int)),x3]/\Same H H2/\Fz H1 H2/\H2 d=some (.dK ((ns.take i).map λx=>((Sum.inr x:Key),V.int ((Fn ns x:Nat):Int)))))
  ⟨_,rfl,e1,.refl _,h1⟩ (λi σ' H' hP=>hP.choose_spec.2.2.1) (λi z σ' H2 hz hP=>?_) (fun σ' H2 hP=>?_)
 . obtain⟨x3,rfl,e2,fz2,h2⟩:=hP;have hin:i<ns.length:=(A03.mp hz).1;have hlt:2 ^ i<=2 ^ 10:=A43 ∅ nofun
   have hno:z∉ns.take i:=λhm=>by
    obtain⟨j,hj⟩:=A41.mp hm;rw[A4G] at hj
    split at hj
    . rename_i hji;have a1:=A03.mp hj;have a2:=A03.mp hz;have:=(A21 hn).mp (a1.2.trans a2.2.symm);omega
    cases hj
   symm
   refine Kp h2 (by rw[A01,A0T];omega) λH3 e3 h3=>?_;rw[M9 _ (J8 hno)] at h3
   symm
   refine⟨some (.str z),?_,e2.off hd1 e3,fz2.trans (e3.fzD h2),?_⟩
   . have:((2 ^ i:Nat):Int)*2=((2 ^ (i+1):Nat):Int):=by rw[Nat.pow_succ];omega
     rw[this];rfl
   rw[h3,A0Y,hz];have:((2 ^ i:Nat):Int)=((Fn ns z:Nat):Int):=by rw[Oo hn hz]
   rw[this];simp
 obtain⟨x3,rfl,e2,fz2,h2⟩:=hP;rw[A13] at h2
 symm
 exact k d H2 hd1 e2 h2
theorem R6 {f:Addr}{fd:FuncData}(F:Fun K "bits_ahead" "bits_ahead" Ed f fd)(T:Ej mg)(Aw:Fnd P w K mg base 1 "behind_each" ["half"] (C9 K)):FnOk P w K mg base CX0 2 f fd ["half","bits"] (Hx K):=by
 refine F.ok Fu (λvs H Q E h=>?_) (λcdv A outer s H vs Q E hr h=>?_)
 . obtain⟨v,bd,ns,ps,rfl,_⟩:=h;rfl
 obtain⟨v,bd,ns,ps,rfl,hI,hW,h10,hB,k⟩:=h;have hu:=Bf hr;have hq:=Bd hr;have hn:=hW.nd
 with_reducible refine⟨_,(A2 (Ai (i:=2) Fu.nd ⋯ (by with_unfolding_all exact A3I rfl) (Ae Aw (hr.mono ∅) ⋯ (A0 (pv 0) A1)))
  (A2 (Ai (i:=3) Fu.nd ⋯ (by eq_refl) Mi)
  (A2 (Cm A0V ⋯ (Av (K:=K) hu (A7 (A4 (K:=K) hu) (pv 0) A5 (by ac_rfl))) (Ac (i:=4) Fu.nd ⋯ (by with_unfolding_all exact A3I rfl))
  (A6 (Gw hu (pv 3) (pv 4) (Al (J9 (K:=K) ⋯) ⋯ T.b_sum PyProof.Rows.Boot.«sum» (A0 (Bl ["one"] ["bits","name","reach"] [1,4,2] ⋯ ⋯ ⋯ (Av (K:=K) hu (A7 (A4 (K:=K) hu) (pv 0) A5 (by ac_rfl))) (λ_ _ _ _=>(Ac (i:=0) (by with_unfolding_all (show(["one","bits","name","reach"]:List Str).Nodup;decide +kernel)) ⋯ (by eq_refl))) (B5 ∅) (λ_ _ _ _=>(Ex (Ag (Gm (K:=K) hq) (pv 2) (A7 (A4 (K:=K) hu) (pv 3) (pv 0) (by ac_rfl)) ⋯))) (λ_ _ _ _=>(A7 (A4 (K:=K) hu) (pv 1) (pv 0) (by ac_rfl)))) A1)) ⋯)))
  (A6 (Aj (pv 3)))))),?_⟩
 symm
 refine⟨v,ns,ps,rfl,hI,hW,λr as H1 hr1 ha1 e1 hT=>?_⟩
 symm
 refine Xb λd H2 hd2 e2 h2=>?_
 symm
 have e12:=e1.trans e2;refine B7 (hI.hf_fz e12.fz) λnv hN=>?_
 refine Od hN (λi σ H3=>∃ x4,σ=[some v,some (.ref bd),some (.ref r),some (.ref d),x4]/\Same H1 H3/\Fz H2 H3/\H3 d=some (.dK ((ns.take i).map λx=>((Sum.inr x:Key),V.int ((Bx ns (λy=>Ak ps y x):Nat):Int)))))
  ⟨_,rfl,e2,.refl _,h2⟩ (λi σ' H' hP=>hP.choose_spec.2.2.1) (λi z σ' H3 hz hP=>?_) (fun σ' H3 hP=>?_)
 . obtain⟨x4,rfl,e3,fz3,h3⟩:=hP;have hin:i<ns.length:=(A03.mp hz).1
   have hno:z∉ns.take i:=λhm=>by
    obtain⟨j,hj⟩:=A41.mp hm;rw[A4G] at hj
    split at hj
    . rename_i hji;have a1:=A03.mp hj;have a2:=A03.mp hz;have:=(A21 hn).mp (a1.2.trans a2.2.symm);omega
    cases hj
   symm
   refine B7 (hI.hf_fz (e12.fz.trans fz3)) λnv3 hN3=>?_;refine Gx hN3 (λy=>Ak ps y z) (λy=>PyData.int ((Fn ns y:Nat):Int)) (λ_=>rfl) nofun (λj y H4 R R' hy e4 hR hR'=>?_) (λq ys H4 hq4 e4 h4 hL4=>?_)
   . have hT4:=hT.same (e3.trans e4);obtain⟨jy,ay,hjy,hay⟩:=hT4.at (A05 hy);obtain⟨ks,hk1,hk2,hk3,hk4⟩:=hT4.row jy y ay hjy hay
     symm
     refine R4 hT4 hn hjy hay ?_;refine Rq hk1 ?_;rw[Jm (hk4 z)]
     symm
     refine ar0 (λhb=>?_) (λhb=>?_)
     . symm
       refine i_ixD (e4 _ _ (e3 _ _ (e1 _ _ hB))) (Jy (A05 hy)) ?_;exact hR hb _ _ (.refl _) rfl
     exact hR' hb _ (.refl _)
   have hm:(ns.filter λy=>Ak ps y z).map (λy=>PyData.int ((Fn ns y:Nat):Int))=((ns.filter λy=>Ak ps y z).map λy=>((Fn ns y:Nat):Int)).map PyData.int:=by rw[A18];rfl
   rw[hm] at hL4;have hys:=IsL.int_eq hL4;subst hys
   symm
   refine aa6 (.inl (SqL.of h4)) (λn hn'=>?_) (by rw[A01];exact A0H (A0O _ _) nofun) ?_
   . obtain⟨y,hy,rfl⟩:=A0A.mp hn';have hyn:=(A0N.mp hy).1;have:=as9 hn h10 hyn;omega
   rw[Hz,Mh _ hn]
   symm
   have h4d:H4 d=some _:=e4 _ _ h3;refine Kp h4d (by rw[A01,A0T];omega) λH5 e5 h5=>?_;rw[M9 _ (J8 hno)] at h5
   symm
   refine⟨_,rfl,(e3.trans e4).off hd2 e5,(fz3.trans e4.fz).trans (e5.fzD h4d),?_⟩;rw[h5,A0Y,hz];simp
 obtain⟨x4,rfl,e3,fz3,h3⟩:=hP;rw[A13] at h3
 symm
 exact k d H3 (e1.free hd2) (e1.trans e3) h3
theorem Ts {f:Addr}{fd:FuncData}(F:Fun K "__init__" "Ways.__init__" Fe f fd)(T:Ej mg){C_Ways:Addr}(k_Ways:Fx K C_Ways)(Mp:Fnd P w K mg base 1 "bits_of" ["names"] (L0 K))(J6:Fnd P w K mg base 2 "bits_ahead" ["half","bits"] (Hx K)):FnOk P w K mg base CX0 3 f fd ["self","half"] (Gs C_Ways K):=by
 refine F.ok Uk (λvs H Q E h=>?_) (λcdv A outer s H vs Q E hr h=>?_)
 . obtain⟨p,v,dx,ns,ps,rfl,_⟩:=h;rfl
 obtain⟨p,v,dx,ns,ps,rfl,hp,hI,hW,h10,k⟩:=h;have hu:=Bf hr;have hq:=Bd hr;have hn:=hW.nd
 with_reducible refine⟨_,(A2 (ae3 (C:=C_Ways) (pv 0) (A7 (A4 (K:=K) hu) (pv 1) A5 (by ac_rfl)) k_Ways.cl k_Ways.n_names ⋯)
  (A2 (ae3 (C:=C_Ways) (pv 0) (Ae Mp (hr.mono ∅) ⋯ (A0 (A7 (A4 (K:=K) hu) (pv 1) A5 (by ac_rfl)) A1)) k_Ways.cl k_Ways.n_bits ⋯)
  (A2 (ae3 (C:=C_Ways) (pv 0) (Ae J6 (hr.mono ∅) ⋯ (A0 (pv 1) (A0 (Lf (C:=C_Ways) (pv 0) k_Ways.cl k_Ways.n_bits ⋯) A1))) k_Ways.cl k_Ways.n_ahead ⋯)
  (A2 (ae3 (C:=C_Ways) (pv 0) (Al (ab6 ⋯) ⋯ T.b_sum PyProof.Rows.Boot.«sum» (A0 (au9 (K:=K) A3K PySem.F.slot_dict_values PySem.F.type_dict_values (mm ab3) (Lf (C:=C_Ways) (pv 0) k_Ways.cl k_Ways.n_bits ⋯)) A1)) k_Ways.cl k_Ways.n_full ⋯)
  (A6 (ae3 (C:=C_Ways) (pv 0) (Sf (Hw A5 A5 Rt) ⋯ ⋯ ∅ ∅) k_Ways.cl k_Ways.n_known ⋯)))))),?_⟩
 symm
 refine B7 hI λnv hN=>?_
 symm
 refine aJ0 hp ∅ λH1 e1 h1=>?_;replace h1:H1 p=some (.ins C_Ways dx [("names",nv)]):=h1;have fz1:=e1.fzI hp
 symm
 refine B7 (hI.hf_fz fz1) λnv1 hN1=>?_
 symm
 refine⟨nv1,ns,rfl,hN1,hn,h10,λbd H2 hb2 e2 h2=>?_⟩
 symm
 refine aJ0 (e2 _ _ h1) (by show 1<1000;decide) λH3 e3 h3=>?_;rw[fld2] at h3;have fz3:=e3.fzI (e2 _ _ h1);have hbp:bd≠p:=(ne_of_none h1 hb2).symm;have h3b:H3 bd=some (.dK (aC7 ns)):=e3 _ _ hbp h2
 symm
 refine Xd h3 (by rfl) ?_
 symm
 refine⟨v,bd,ns,ps,rfl,hI.hf_fz ((fz1.trans e2.fz).trans fz3),hW,h10,h3b,λad H4 ha4 e4 h4=>?_⟩
 symm
 refine aJ0 (e4 _ _ h3) (by show 2<1000;decide) λH5 e5 h5=>?_;rw[fld3] at h5;have fz5:=e5.fzI (e4 _ _ h3);have hap:ad≠p:=(ne_of_none h3 ha4).symm;have h5a:H5 ad=some (.dK (ahK ns ps)):=e5 _ _ hap h4;have h5b:H5 bd=some (.dK (aC7 ns)):=e5 _ _ hbp (e4 _ _ h3b)
 symm
 refine Xd h5 (by rfl) ?_
 symm
 refine az2 h5b ?_
 symm
 refine aF0 h5b λv6 H6 hv6 e6 h6=>?_
 symm
 have hbs:∀ n∈ns.map (λx=>((Fn ns x:Nat):Int)),0<=n/\n<=1000000000000:=λn hn'=>by obtain⟨y,hy,rfl⟩:=A0A.mp hn';have:=as9 hn h10 hy;omega
 refine aF2 h6 (e6 _ _ h5b) (ns:=ns.map λx=>((Fn ns x:Nat):Int)) (by unfold aC7;rw[List.map_map,List.map_map];rfl) hbs (by rw[List.length_map];omega) ?_
 have hsum:(ns.map (Fn ns)).sum=Bx ns (λ_=>true):=by have:=Mh (λ_=>true) hn;rwa[show ns.filter (λ_=>true)=ns by simp] at this
 rw[Hz,hsum]
 symm
 have h6p:=e6 _ _ h5;refine aJ0 h6p (by show 3<1000;decide) λH7 e7 h7=>?_;rw[fld4] at h7;have fz7:=e7.fzI h6p
 symm
 refine X0 λkd H8 hk8 e8 h8=>?_
 symm
 refine Sg [(Sum.inl 0,V.int 1)] h8 rfl ∅ λH9 e9 h9=>?_
 symm
 have hkp:p≠kd:=ne_of_none h7 hk8;have h9p:=e9 _ _ hkp (e8 _ _ h7);refine aJ0 h9p (by show 4<1000;decide) λH10 e10 h10'=>?_;rw[fld5] at h10';have fz10:=e10.fzI h9p
 symm
 have hpb:bd≠p:=hbp;have h7b:=e7 _ _ hbp (e6 _ _ h5b);have h7a:=e7 _ _ hap (e6 _ _ h5a);have hbk:bd≠kd:=ne_of_none h7b hk8;have hak:ad≠kd:=ne_of_none h7a hk8;have hE:ExtBut p H H7:=((((e1.same e2).trans e3).same e4).trans e5 |>.same e6).trans e7
 have hkH:H kd=none:=by
  cases c:H kd with
  |none=>rfl
  |some o=>rw[hE _ _ hkp.symm c] at hk8;cases hk8
 refine k nv bd ad kd [(Sum.inl 0,V.int 1)] H10 hkH ?_ ⟨h10',?_,?_,?_,?_,hbk,hak,Knw.new ns ps⟩
 . exact((hE.same e8).off hkH e9).trans e10
 . exact hN.nm_fz (((((((fz1.trans e2.fz).trans fz3).trans e4.fz).trans fz5).trans e6.fz).trans fz7).trans ((e8.fz.trans (e9.fzD h8)).trans fz10))
 . exact e10 _ _ hbp (e9 _ _ hbk (e8 _ _ h7b))
 . exact e10 _ _ hap (e9 _ _ hak (e8 _ _ h7a))
 exact e10 _ _ hkp.symm h9
theorem Kw {f:Addr}{fd:FuncData}(F:Fun K "free_names" "Ways.free_names" Bt f fd)(T:Ej mg){C_Ways:Addr}(k_Ways:Fx K C_Ways):FnOk P w K mg base CX0 1 f fd ["self","left"] (Bj C_Ways K):=by
 refine F.ok Ki (λvs H Q E h=>?_) (λcdv A outer s H vs Q E hr h=>?_)
 . obtain⟨p,dx,nv,bd,ad,kd,ns,ps,kvs,q,rfl,_⟩:=h;rfl
 obtain⟨p,dx,nv,bd,ad,kd,ns,ps,kvs,q,rfl,hA,hW,h10,k⟩:=h;have hu:=Bf hr;have hq:=Bd hr;have hn:=hW.nd
 with_reducible refine⟨_,(A6 (Aj (Bl ["name"] ["self","left"] [0,1] ⋯ ⋯ ⋯ (Av (K:=K) hu (Lf (C:=C_Ways) (pv 0) k_Ways.cl k_Ways.n_names ⋯)) (λ_ _ _ _=>(Ac (i:=0) (by with_unfolding_all (show(["name","self","left"]:List Str).Nodup;decide +kernel)) ⋯ (by eq_refl))) (B5 ∅) (λ_ _ _ _=>(Ex (PW.pt (Te (aq0 (An ap5 (A7 (A4 (K:=K) hu) (Lf (C:=C_Ways) (pv 1) k_Ways.cl k_Ways.n_bits ⋯) (pv 0) (by ac_rfl)) (pv 2))) (Na (Gr (aq0 (An ap5 (A7 (A4 (K:=K) hu) (Lf (C:=C_Ways) (pv 1) k_Ways.cl k_Ways.n_ahead ⋯) (pv 0) (by ac_rfl)) (pv 2))))))))) (λ_ _ _ _=>(pv 0))))),?_⟩
 symm
 refine Xd hA.ob (by rfl) ?_;refine Gx hA.nm (λx=>q x && !(ns.any λy=>Ak ps y x&&q y)) PyData.str (λ_=>rfl) nofun (λj x H1 R R' hx e1 hR hR'=>?_) (λl ys H1 hl1 e1 h1 hL1=>?_)
 . have hA1:=hA.same e1;have hxn:=A05 hx
   symm
   refine Xd hA1.ob (by rfl) ?_
   symm
   refine i_ixD hA1.bt (Jy hxn) ?_
   symm
   rw[au1 hn hxn];refine ar0 (λhb=>?_) (λhb=>?_)
   . symm
     refine Xd hA1.ob (by rfl) ?_
     symm
     refine i_ixD hA1.ah (Jy hxn) ?_
     symm
     rw[ab1]
     symm
     refine ay1 (λhc=>?_) (λhc=>?_)
     . symm
       exact hR (by rw[hb,hc];rfl) _ _ (.refl _) Os
     exact hR' (by rw[hb,hc];rfl) _ (.refl _)
   exact hR' (by rw[hb];rfl) _ (.refl _)
 rw[a62] at hL1;have:=IsL.str_eq hL1;subst this
 symm
 exact k l H1 hl1 e1 h1
theorem Lw {f:Addr}{fd:FuncData}(F:Fun K "ways_on" "Ways.ways_on" Cc f fd)(T:Ej mg){C_Ways:Addr}(k_Ways:Fx K C_Ways)(As:Mtd P w K mg base 1 C_Ways "free_names" ["self","left"] (Bj C_Ways K))(n:Nat)(Bo:Mtd P w K mg base (2+n) C_Ways "ways_on" ["self","left"] (Cn C_Ways K n)):FnOk P w K mg base CX0 (2+n+1) f fd ["self","left"] (Cn C_Ways K (n+1)):=by
 refine F.ok Mu (λvs H Q E h=>?_) (λcdv A outer s H vs Q E hr h=>?_)
 . obtain⟨p,dx,nv,bd,ad,kd,ns,ps,kvs,q,rfl,_⟩:=h;rfl
 obtain⟨p,dx,nv,bd,ad,kd,ns,ps,kvs,q,rfl,hA,hW,h10,hlt,k⟩:=h;have hu:=Bf hr;have hq:=Bd hr;have hn:=hW.nd;have hkl:=hA.ok.len h10;have hLn:(ns.filter q).Nodup:=A1Q A1O hn;have hLl:(ns.filter q).length<=ns.length:=A0O _ _
 with_reducible refine⟨_,(A2 (Bv (Ag (Il (K:=K) hq) (pv 1) (Lf (C:=C_Ways) (pv 0) k_Ways.cl k_Ways.n_known ⋯) ⋯) (A6 (Gw hu (Lf (C:=C_Ways) (pv 0) k_Ways.cl k_Ways.n_known ⋯) (pv 1) (Al (J9 (K:=K) ⋯) ⋯ T.b_sum PyProof.Rows.Boot.«sum» (A0 (Bl ["name"] ["self","left"] [0,1] ⋯ ⋯ ⋯ (Av (K:=K) hu (Zg (C:=C_Ways) (pv 0) k_Ways.cl As (hr.mono nofun) (A0 (pv 1) A1))) (λ_ _ _ _=>(Ac (i:=0) (by with_unfolding_all (show(["name","self","left"]:List Str).Nodup;decide +kernel)) ⋯ (by eq_refl))) (B5 ∅) (λ_ _ _ _=>Cv) (λ_ _ _ _=>(Zg (C:=C_Ways) (pv 1) k_Ways.cl Bo (hr.mono nofun) (A0 (An Lp (pv 2) (A7 (A4 (K:=K) hu) (Lf (C:=C_Ways) (pv 1) k_Ways.cl k_Ways.n_bits ⋯) (pv 0) (by ac_rfl))) A1)))) A1)) ⋯)) Ap)
  (A6 (Aj (A7 (A4 (K:=K) hu) (Lf (C:=C_Ways) (pv 0) k_Ways.cl k_Ways.n_known ⋯) (pv 1) (by ac_rfl))))),?_⟩
 symm
 refine Xd hA.ob (by rfl) ?_;refine au5 hA.kn ?_
 symm
 cases hv:Dn kvs (Sum.inl ((Bx ns q:Nat):Int):Key) with
 |some v=>
   have:=hA.ok.get hv;subst this;refine iteF ?_
   symm
   refine Xd hA.ob (by rfl) ?_
   symm
   refine ar3 hA.kn hv ?_;exact k kvs H .refl hA
 |none=>
   have hne:ns.filter q≠[]:=λe=>by
    have h0:Bx ns q=0:=binM_zero.mpr λx hx=>by
     cases c:q x with
     |false=>rfl
     |true=>
       have:x∈ns.filter q:=A0N.mpr ⟨hx,c⟩;rw[e] at this
       cases this
    rw[h0] at hv;rw[show((0:Nat):Int)=0 from rfl,hA.ok.2.2] at hv
    cases hv
   refine iteT ?_
   symm
   refine aC3 hA.ob (by rfl) ?_
   symm
   refine⟨p,dx,nv,bd,ad,kd,ns,ps,kvs,q,rfl,hA,hW,h10,λl H1 hl1 e1 h1=>?_⟩;have hA1:=hA.same e1;refine Vt (SqL.of h1) ?_
   refine J4 (Gc (xs:=(frF (Ak ps) (ns.filter q)).map V.str)) (λpl i acc H2=>∃ kvs2,ExtBut kd H1 H2/\WaysAt K C_Ways H2 p dx nv bd ad kd ns ps kvs2/\acc=((frF (Ak ps) (ns.filter q)).take i).map λx=>V.int ((cnt (Ak ps) (Ao (ns.filter q) x):Nat):Int))
    (λpl H' hp' e' h'=>⟨kvs,e'.but,hA1.same e',rfl⟩) (λpl i acc H2 hP=>?_) (λpl i x acc H2 hpl hx hi hl hpa hP=>?_) (λpl acc H2 hpl hpa hal hP=>?_)
   . obtain⟨kvs2,e2,_,_⟩:=hP;exact SqL.of (e2 _ _ (ne_of h1 hA1.kn (by intro z;cases z)) h1)
   . obtain ⟨kvs2,e2,hA2,rfl⟩:=hP;rw[A09] at hx
     cases hz:(frF (Ak ps) (ns.filter q))[i]? with
     |none=>rw[hz] at hx;cases hx
     |some z=>
       rw[hz] at hx
       cases hx;have hzf:=A05 hz;have hzL:=(mem_frF.mp hzf).1;have hzn:=(A0N.mp hzL).1;have hqz:=(A0N.mp hzL).2;have hsub:=Rk hn hzn hqz;have hlen:=C4 hLn hzL
       symm
       refine aC3 hA2.ob (by rfl) ?_
       symm
       refine Xd hA2.ob (by rfl) ?_
       symm
       refine i_ixD hA2.bt (Jy hzn) ?_
       symm
       have hval:((Bx ns q:Nat):Int)-((Fn ns z:Nat):Int)=((Bx ns (λy=>q y && !decide (y=z)):Nat):Int):=by omega
       rw[hval];refine⟨p,dx,nv,bd,ad,kd,ns,ps,kvs2,_,rfl,hA2,hW,h10,by rw[G5];omega,λkvs3 H3 e3 hA3=>?_⟩;rw[G5];have hplk:pl≠kd:=ne_of hpa hA2.kn (by intro z;cases z);have h3p:=e3 _ _ hplk hpa;refine Ls (by rw[A01];exact A0H (A0O _ _) nofun) hi hl h3p λH4 e4 h4=>?_;refine⟨kvs3,?_,hA3.list e4 h3p,?_⟩
       . exact(e2.trans e3).off hpl e4
       rw[A0Y,hz];simp
   obtain⟨kvs2,e2,hA2,rfl⟩:=hP;rw[A01,A13] at hpa;have hmm:(frF (Ak ps) (ns.filter q)).map (λx=>V.int ((cnt (Ak ps) (Ao (ns.filter q) x):Nat):Int))=((frF (Ak ps) (ns.filter q)).map λx=>((cnt (Ak ps) (Ao (ns.filter q) x):Nat):Int)).map V.int:=by rw[A18];rfl
   rw[hmm] at hpa
   symm
   refine aa6 (.inl (SqL.of hpa)) (λn' hn'=>?_) (by rw[A01];exact A0H (A0O _ _) nofun) ?_
   . obtain⟨y,hy,rfl⟩:=A0A.mp hn';have:=C4 hLn (mem_frF.mp hy).1;have:=Rv (b:=Ak ps) (B8 hLn y) nofun;omega
   rw[Hz,<- Iv hLn hne]
   symm
   refine Xd hA2.ob (by rfl) ?_
   symm
   have hkl2:=hA2.ok.len h10;refine a00 hA2.kn nofun λH3 e3 h3=>?_;have hA3:=hA2.put e3 h3 (hA2.ok.put q)
   symm
   refine Xd hA3.ob (by rfl) ?_
   symm
   refine ar3 hA3.kn (by rw[Wl,A15 rfl]) ?_;exact k _ H3 (((e1.but (d:=kd)).trans e2).trans e3) hA3
theorem Ny {f:Addr}{fd:FuncData}(F:Fun K "ways_on" "Ways.ways_on" Cc f fd)(T:Ej mg){C_Ways:Addr}(k_Ways:Fx K C_Ways)(As:Mtd P w K mg base 1 C_Ways "free_names" ["self","left"] (Bj C_Ways K))(hm:aO0 K C_Ways "ways_on" f)(hb:Binds K fd ["self","left"] []):FnOk P w K mg base CX0 13 f fd ["self","left"] (Ek C_Ways K):=by
 have h:∀ n:Nat,FnOk P w K mg base CX0 (2+n) f fd ["self","left"] (Cn C_Ways K n):=λn=>by
  induction n with
  |zero=>exact FnOk.void Ik
  |succ n ih=>exact Lw F T k_Ways As n ⟨f,fd,ih,hm,hb⟩
 exact h 11
theorem ag4 {f:Addr}{fd:FuncData}(F:Fun K "count" "count" Li f fd)(T:Ej mg){C_Ways:Addr}(k_Ways:Fx K C_Ways)(Fa:Mkd P w K mg base 3 C_Ways "Ways" ["self","half"] (Gs C_Ways K))(Bo:Mtd P w K mg base 13 C_Ways "ways_on" ["self","left"] (Ek C_Ways K)):FnOk P w K mg base CX0 14 f fd ["half"] (Kr K):=by
 refine F.ok Xo (λvs H Q E h=>?_) (λcdv A outer s H vs Q E hr h=>?_)
 . obtain⟨v,ns,ps,rfl,_⟩:=h;rfl
 obtain⟨v,ns,ps,rfl,hI,hW,h10,k⟩:=h;have hu:=Bf hr;have hq:=Bd hr
 with_reducible refine⟨_,(A2 (Ai (i:=1) Xo.nd ⋯ (by eq_refl) (aD3 Fa (hr.mono ∅) ⋯ (A0 (pv 0) A1)))
  (A6 (Aj (Zg (C:=C_Ways) (pv 1) k_Ways.cl Bo (hr.mono ∅) (A0 (Lf (C:=C_Ways) (pv 1) k_Ways.cl k_Ways.n_full ⋯) A1))))),?_⟩
 symm
 refine aT3 λp dx H1 hp1 e1 h1=>?_;refine⟨p,v,dx,ns,ps,rfl,h1,hI.hf_fz e1.fz,hW,h10,λnv bd ad kd kvs H2 hk2 e2 hA=>⟨rfl,?_⟩⟩
 symm
 refine aC3 hA.ob (by rfl) ?_
 symm
 refine Xd hA.ob (by rfl) ?_
 symm
 have hfl:ns.filter (λ_=>true)=ns:=by simp
 refine⟨p,dx,nv,bd,ad,kd,ns,ps,kvs,λ_=>true,rfl,hA,hW,h10,by rw[hfl];omega,λkvs' H3 e3 hA3=>?_⟩;rw[hfl];exact k H3 ((e1.off hp1 e2).off (e1.free hk2) e3)
def M8 (K:W.Frag):Sp:=λvs H Q _=>∃ v x y ns ps,vs=[v,.str x,.str y]/\Is K H (hfD ns ps) v/\HalfW ns ps/\ns.length<=10/\x∈ns/\y∈ns/\∀ H',Same H H'->Q (.int ((cnt (Ak (ps++[(x,y)])) ns:Nat):Int)) H'
theorem ag5 {f:Addr}{fd:FuncData}(F:Fun K "share" "share" L4 f fd)(T:Ej mg)(A9:Fnd P w K mg base 1 "refuse_strangers" ["half","asked"] (B2 K))(Cj:Fnd P w K mg base 14 "count" ["half"] (Kr K)):FnOk P w K mg base CX0 15 f fd ["half","name","other"] (M8 K):=by
 refine F.ok ah4 (λvs H Q E h=>?_) (λcdv A outer s H vs Q E hr h=>?_)
 . obtain⟨v,x,y,ns,ps,rfl,_⟩:=h;rfl
 obtain⟨v,x,y,ns,ps,rfl,hI,hW,h10,hx,hy,k⟩:=h;have hu:=Bf hr;have hq:=Bd hr;have hle:=hW.le
 with_reducible refine⟨_,(A2 (Cb (Ae A9 (hr.mono ∅) ⋯ (A0 (pv 0) (A0 (Bi (A0 (pv 1) (A0 (pv 2) A1))) A1))))
  (A6 (Aj (Ae Cj (hr.mono ∅) ⋯ (A0 (Bi (A0 (A7 (A4 (K:=K) hu) (pv 0) A5 (by ac_rfl)) (A0 (An (Am (K:=K)) (A7 (A4 (K:=K) hu) (pv 0) A5 (by ac_rfl)) (Bi (A0 (Bi (A0 (pv 1) (A0 (pv 2) A1))) A1))) A1))) A1))))),?_⟩
 symm
 refine Bp (Af (by simp)) λt1 H1 ht1 e1 h1=>?_
 symm
 refine⟨v,.ref t1,ns,ps,[x,y],rfl,hI.hf_fz e1.fz,R0 (SqT.of h1),a09 hx hy,?_⟩
 symm
 refine B7 (hI.hf_fz e1.fz) λnv hN=>?_
 symm
 refine Fh (hI.hf_fz e1.fz) λpv hP=>?_
 symm
 refine Bp (Af (by simp)) λt2 H2 ht2 e2 h2=>?_
 symm
 refine Bp (Af (by simp)) λt3 H3 ht3 e3 h3=>?_;have hP3:=hP.ps_fz (e2.trans e3).fz;obtain⟨pa,xs,rfl,hS3,hL3⟩:=Is.tup hP3;have hxl:ps.length=xs.length:=by rw[<- IsL.length hL3,A01]
 refine Oq hS3 (SqT.of h3) (Af (by simp;omega)) λp4 H4 e4 h4=>?_
 symm
 refine Bp (Af (by simp)) λt5 H5 ht5 e5 h5=>?_
 have hP5:Is K H5 (psD (ps++[(x,y)])) (.ref p4):=by refine Is.of_tup (e5.seqT h4) ?_;rw[A0M];exact IsL.append (IsL.mono (e4.trans e5) _ _ hL3) (.one ((Pd (SqT.of (e3 _ _ h2))).pr_fz (e4.trans e5).fz))
 have e25:Same H1 H5:=((e2.trans e3).trans e4).trans e5
 symm
 refine⟨.ref t5,ns,ps++[(x,y)],rfl,Yb (SqT.of h5) (hN.nm_fz e25.fz) hP5,hW.more hx hy,h10,λH6 e6=>?_⟩;exact k H6 ((e1.trans e25).trans e6)
def G4 (C:Addr)(K:W.Frag):Sp:=λvs H Q _=>∃ p cd dx nv bd ad kd ns ps kvs ct,vs=[.ref p,.ref cd]/\WaysAt K C H p dx nv bd ad kd ns ps kvs/\HalfW ns ps/\ns.length<=10/\Rd H cd (.dK (Gh ns ct))/\Ll ns ct/\p≠cd/\bd≠cd/\ad≠cd/\kd≠cd /\
 ∀ d ct' H',H d=none->Keep [cd] H H'->H' d=some (.dK (Gh ns ct'))->Ll ns ct'->(∀ F,Lz ns F ct'=Lz ns (λL=>((frF (Ak ps) L).map λx=>F (Ao L x)).sum) ct)->Q (.ref d) H'
def La (C:Addr)(K:W.Frag):Sp:=λvs H Q _=>∃ p cd dx nv bd ad kd ns ps kvs ct nm,vs=[.ref p,.ref cd,.str nm]/\WaysAt K C H p dx nv bd ad kd ns ps kvs/\HalfW ns ps/\ns.length<=10/\Rd H cd (.dK (Gh ns ct))/\Ll ns ct/\p≠cd/\bd≠cd/\ad≠cd/\kd≠cd /\
 nm∈ns/\Lz ns (λL=>if nm∈frF (Ak ps) L then cnt (Ak ps) (Ao L nm) else 0) ct<=1000000000 /\
 ∀ kvs' H',(∀ b o,b≠kd->b≠cd->H b=some o->H' b=some o)->Rd H' cd (.dK (Gh ns ct))->Fz H H'->WaysAt K C H' p dx nv bd ad kd ns ps kvs'->Q (.int ((Lz ns (λL=>if nm∈frF (Ak ps) L then cnt (Ak ps) (Ao L nm) else 0) ct:Nat):Int)) H'
theorem Og {f:Addr}{fd:FuncData}(F:Fun K "one_place_on" "one_place_on" Cu f fd)(T:Ej mg){C_Ways:Addr}(k_Ways:Fx K C_Ways)(As:Mtd P w K mg base 1 C_Ways "free_names" ["self","left"] (Bj C_Ways K)):FnOk P w K mg base CX0 2 f fd ["ways","comings"] (G4 C_Ways K):=by
 refine F.ok Cz (λvs H Q E h=>?_) (λcdv A outer s H vs Q E hr h=>?_)
 . obtain⟨p,cd,dx,nv,bd,ad,kd,ns,ps,kvs,ct,rfl,_⟩:=h;rfl
 obtain⟨p,cd,dx,nv,bd,ad,kd,ns,ps,kvs,ct,rfl,hA,hW,h10,hC,hOk,np,nb,na,nk,k⟩:=h;have hu:=Bf hr;have hq:=Bd hr;have hn:=hW.nd;have hct:=Wc hOk h10
 with_reducible refine⟨_,(A2 (Ai (i:=2) Cz.nd ⋯ (by eq_refl) Mi)
  (A2 (Cm A0V ⋯ (Av (K:=K) hu (pv 1)) (Ac (i:=3) Cz.nd ⋯ (by eq_refl))
  (A6 (Cm A0V ⋯ (Av (K:=K) hu (Zg (C:=C_Ways) (pv 0) k_Ways.cl As (hr.mono ∅) (A0 (pv 3) A1))) (Ac (i:=4) Cz.nd ⋯ (by eq_refl))
  (A2 (Ai (i:=5) Cz.nd ⋯ (by eq_refl) (An Lp (pv 3) (A7 (A4 (K:=K) hu) (Lf (C:=C_Ways) (pv 0) k_Ways.cl k_Ways.n_bits ⋯) (pv 4) (by ac_rfl))))
  (A6 (Gw hu (pv 2) (pv 5) (An (Am (K:=K)) (ai0 hu (pv 2) (pv 5) A5 (by with_unfolding_all exact⟨rfl,rfl,rfl,rfl⟩)) (A7 (A4 (K:=K) hu) (pv 1) (pv 3) (by ac_rfl))) ⋯))))))
  (A6 (Aj (pv 2))))),?_⟩
 symm
 refine Xb λd H1 hd1 e1 h1=>?_
 have hdcd:cd≠d:=by
  rcases hC with h|⟨o,h⟩
  . exact ne_of_none h hd1
  exact ne_of_none h hd1
 symm
 refine Vz (as:=[cd]) (e1.rd hC) (by simp) λo H2 k2 h2c=>?_;have hA2:=(hA.same e1).keep k2 np nb na nk;have h2d:H2 d=some (.dK []):=k2.1 _ _ (by simpa using hdcd.symm) h1;have hdb:bd≠d:=ne_of_none hA.bt hd1;have hda:ad≠d:=ne_of_none hA.ah hd1;have hdk:kd≠d:=ne_of_none hA.kn hd1;have hk0:Keep [cd] H H2:=(e1.keep [cd]).trans k2
 refine Ie Pc (λi σ H3=>∃ x3 x4 x5 ct1,σ=[some (.ref p),some (.ref cd),some (.ref d),x3,x4,x5]/\Keep [cd] H H3/\H3 cd=some (.frz o (.dK (Gh ns ct)))/\WaysAt K C_Ways H3 p dx nv bd ad kd ns ps kvs/\H3 d=some (.dK (Gh ns ct1))/\Ll ns ct1 /\
   ∀ F,Lz ns F ct1=Lz ns (λL=>((frF (Ak ps) L).map λx=>F (Ao L x)).sum) (ct.take i))
  ⟨_,_,_,[],rfl,hk0,h2c,hA2,h2d,by unfold Ll Gh;simp,λF=>rfl⟩ (λi σ' H' hP=>?_) (λi x σ' H3 hx hi hP=>?_) (fun σ' H3 hP=>?_)
 . obtain⟨_,_,_,_,_,_,h,_⟩:=hP;exact h
 . obtain ⟨x3,x4,x5,ct1,rfl,k3,h3c,hA3,h3d,hO1,hF1⟩:=hP;rw[Gh,A18,A09] at hx
   cases he:ct[i]? with
   |none=>rw[he] at hx;cases hx
   |some e=>
     rw[he] at hx
     cases hx;have hx':kV (Sum.inl ((Bx ns e.1:Nat):Int):Key)=V.int ((Bx ns e.1:Nat):Int):=rfl
     symm
     refine aC3 hA3.ob (by rfl) ?_
     symm
     refine⟨p,dx,nv,bd,ad,kd,ns,ps,kvs,e.1,rfl,hA3,hW,h10,λl H4 hl4 e4 h4=>?_⟩;refine Vt (SqL.of h4) ?_;have hLn:(ns.filter e.1).Nodup:=A1Q A1O hn
     refine Ie (Gc (xs:=(frF (Ak ps) (ns.filter e.1)).map V.str)) (λm σ H5=>∃ y4 y5 ct2,σ=[some (.ref p),some (.ref cd),some (.ref d),some (.int ((Bx ns e.1:Nat):Int)),y4,y5]/\Keep [cd] H H5/\H5 cd=some (.frz o (.dK (Gh ns ct)))/\H5 l=some (.lst ((frF (Ak ps) (ns.filter e.1)).map V.str))/\WaysAt K C_Ways H5 p dx nv bd ad kd ns ps kvs/\H5 d=some (.dK (Gh ns ct2))/\Ll ns ct2 /\
       ∀ F,Lz ns F ct2=Lz ns F ct1+e.2*(((frF (Ak ps) (ns.filter e.1)).take m).map λx=>F (Ao (ns.filter e.1) x)).sum)
      ⟨_,_,ct1,rfl,k3.trans (e4.keep _),e4 _ _ h3c,h4,hA3.same e4,e4 _ _ h3d,hO1,λF=>by simp⟩ (λm σ' H' hP=>?_) (λm x6 σ' H5 hx6 hm hP=>?_) (fun σ' H5 hP=>?_)
     . obtain⟨_,_,_,_,_,_,h,_⟩:=hP;exact SqL.of h
     . obtain ⟨y4,y5,ct2,rfl,k5,h5c,h5l,hA5,h5d,hO2,hF2⟩:=hP;rw[A09] at hx6
       cases hz:(frF (Ak ps) (ns.filter e.1))[m]? with
       |none=>rw[hz] at hx6;cases hx6
       |some z=>
         rw[hz] at hx6
         cases hx6;have hzL:=(mem_frF.mp (A05 hz)).1;have hzn:=(A0N.mp hzL).1;have hsub:=Rk hn hzn (A0N.mp hzL).2;have hval:((Bx ns e.1:Nat):Int)-((Fn ns z:Nat):Int)=((Bx ns (λy=>e.1 y && !decide (y=z)):Nat):Int):=by omega
         obtain⟨k0,ct3,g1,g2,_,g4,g5⟩:=a02 ns (λy=>e.1 y && !decide (y=z)) e.2 hO2;have hl2:=Wc hO2 h10
         symm
         refine Xd hA5.ob (by rfl) ?_
         symm
         refine i_ixD hA5.bt (Jy hzn) ?_
         symm
         rw[hval];refine al5 h5d ?_
         symm
         refine⟨_,DGet.k (k:=Sum.inl _) h5d,?_⟩;rw[g1]
         symm
         refine aa4 (.inr ⟨o,h5c⟩) (ac5 hOk he) ?_
         symm
         refine a00 h5d (by unfold Gh;rw[List.length_map];omega) λH6 e6 h6=>?_;have hd0:H d=none:=hd1
         symm
         refine⟨_,_,ct3,rfl,k5.lst e6 hd0 (by simpa using hdcd.symm),e6 _ _ hdcd h5c,e6 _ _ (ne_of h5l h5d (by intro z;cases z)) h5l,hA5.dict e6 h5d hdb hda hdk,?_,g4,λF=>?_⟩
         . rw[h6,g2];rfl
         rw[g5,hF2,G5,A0Y,hz,A0M,A55,Nat.mul_add];simp;omega
     obtain⟨y4,y5,ct2,rfl,k5,h5c,h5l,hA5,h5d,hO2,hF2⟩:=hP;refine⟨_,_,_,ct2,rfl,k5,h5c,hA5,h5d,hO2,λF=>?_⟩;rw[hF2,hF1,a84 he,A01,A13]
 obtain⟨x3,x4,x5,ct1,rfl,k3,h3c,hA3,h3d,hO1,hF1⟩:=hP
 symm
 refine k d ct1 H3 hd1 k3 h3d hO1 λF=>?_;rw[hF1];unfold Gh;rw[A01,A01,A13]
theorem X5 {ns:List Str}{G:List Str->Nat}{P:List Str->Bool}:∀ ct:List ((Str->Bool)×Nat),((ct.filter λe=>P (ns.filter e.1)).map λe=>e.2*G (ns.filter e.1)).sum=Lz ns (λL=>if P L=true then G L else 0) ct
 | []=>rfl
 |e :: r=>by
   rw[Ha,<- X5 r,A17]
   by_cases c:P (ns.filter e.1)=true
   . rw[A15 c,A15 c,A0R,A1L]
   rw[A10 c,A10 c,Nat.mul_zero,Nat.zero_add]
theorem Zf {f:Addr}{fd:FuncData}(F:Fun K "ways_by" "ways_by" Hb f fd)(T:Ej mg){C_Ways:Addr}(k_Ways:Fx K C_Ways)(As:Mtd P w K mg base 1 C_Ways "free_names" ["self","left"] (Bj C_Ways K))(Bo:Mtd P w K mg base 13 C_Ways "ways_on" ["self","left"] (Ek C_Ways K)):FnOk P w K mg base CX0 14 f fd ["ways","comings","name"] (La C_Ways K):=by
 refine F.ok Pz (λvs H Q E h=>?_) (λcdv A outer s H vs Q E hr h=>?_)
 . obtain⟨p,cd,dx,nv,bd,ad,kd,ns,ps,kvs,ct,nm,rfl,_⟩:=h;rfl
 obtain⟨p,cd,dx,nv,bd,ad,kd,ns,ps,kvs,ct,nm,rfl,hA,hW,h10,hC,hOk,np,nb,na,nk,hnm,hsm,k⟩:=h;have hu:=Bf hr;have hq:=Bd hr;have hn:=hW.nd;have hct:=Wc hOk h10;have hsel:∀ e∈ct.filter (λe=>decide (nm∈frF (Ak ps) (ns.filter e.1))),e∈ct/\nm∈frF (Ak ps) (ns.filter e.1):=λe he=>⟨(A0N.mp he).1,A4N (A0N.mp he).2⟩
 with_reducible refine⟨_,(A2 (G0 (i:=3) ["left"] ["name","ways"] [2,0] ⋯ ⋯ ⋯ Pz.nd ⋯ ⋯ (Av (K:=K) hu (pv 1)) (λ_ _ _ _=>(Ac (i:=0) (by with_unfolding_all (show(["left","name","ways"]:List Str).Nodup;decide +kernel)) ⋯ (by eq_refl))) (B5 ∅) (λ_ _ _ _=>(Ex (Ag (Gm (K:=K) hq) (pv 1) (Zg (C:=C_Ways) (pv 2) k_Ways.cl As (hr.mono ∅) (A0 (pv 0) A1)) ⋯))) (λ_ _ _ _=>(pv 0)))
  (A6 (Aj (Al (J9 (K:=K) ⋯) ⋯ T.b_sum PyProof.Rows.Boot.«sum» (A0 (Bl ["left"] ["comings","ways","name"] [1,0,2] ⋯ ⋯ ⋯ (Av (K:=K) hu (pv 3)) (λ_ _ _ _=>(Ac (i:=0) (by with_unfolding_all (show(["left","comings","ways","name"]:List Str).Nodup;decide +kernel)) ⋯ (by eq_refl))) (B5 ∅) (λ_ _ _ _=>Cv) (λ_ _ _ _=>(An By (A7 (A4 (K:=K) hu) (pv 1) (pv 0) (by ac_rfl)) (Zg (C:=C_Ways) (pv 2) k_Ways.cl Bo (hr.mono ∅) (A0 (An Lp (pv 0) (A7 (A4 (K:=K) hu) (Lf (C:=C_Ways) (pv 2) k_Ways.cl k_Ways.n_bits ⋯) (pv 3) (by ac_rfl))) A1))))) A1))))),?_⟩
 symm
 refine Vz (as:=[cd]) hC (by simp) λo H1 k1 h1c=>?_;have hA1:=hA.keep k1 np nb na nk
 refine J4 Pc (λq i acc H2=>Same H1 H2/\acc=((ct.take i).filter λe=>decide (nm∈frF (Ak ps) (ns.filter e.1))).map λe=>V.int ((Bx ns e.1:Nat):Int))
  (λq H' hq' e' h'=>⟨e',rfl⟩) (λq i acc H2 hP=>hP.1 _ _ h1c) (λq i x acc H2 hq' hx hi hl ha hP=>?_) (λq acc H2 hq' ha hal hP=>?_)
 . obtain ⟨e2,rfl⟩:=hP;rw[Gh,A18,A09] at hx
   cases he:ct[i]? with
   |none=>rw[he] at hx;cases hx
   |some e=>
     rw[he] at hx
     cases hx;have hA2:=hA1.same e2
     symm
     refine aC3 hA2.ob (by rfl) ?_
     symm
     refine⟨p,dx,nv,bd,ad,kd,ns,ps,kvs,e.1,rfl,hA2,hW,h10,λl H3 hl3 e3 h3=>?_⟩;refine aJ8 (SqL.of h3) ?_;have htk:ct.take (i+1)=ct.take i++[e]:=by rw[A0Y,he];rfl
     have h3q:=e3 _ _ ha
     symm
     refine Oz (λhc=>?_) (λhc=>?_)
     . symm
       refine Ls (by unfold Gh;rw[List.length_map,List.length_map];omega) hi hl h3q λH4 e4 h4=>?_;refine⟨(e2.trans e3).off hq' e4,?_⟩;rw[htk,A1N,A0M,A17,A15 (by rw[A0S hc])];rfl
     refine Nq hi hl h3q ⟨e2.trans e3,?_⟩;rw[htk,A1N,A17,A10 (by rw[A0P hc];decide),List.filter_nil,A1Z]
 obtain⟨e2,rfl⟩:=hP;rw[show((Gh ns ct).map λkv=>kV kv.1).length=ct.length by unfold Gh;rw[List.length_map,List.length_map],List.take_length] at ha;have hA2:=hA1.same e2;have h2c:=e2 _ _ h1c
 symm
 refine Vt (SqL.of ha) ?_
 refine J4 (Gc (xs:=(ct.filter λe=>decide (nm∈frF (Ak ps) (ns.filter e.1))).map λe=>V.int ((Bx ns e.1:Nat):Int))) (λr i acc H3=>∃ kvs3,ExtBut kd H2 H3/\WaysAt K C_Ways H3 p dx nv bd ad kd ns ps kvs3/\acc=((ct.filter λe=>decide (nm∈frF (Ak ps) (ns.filter e.1))).take i).map λe=>V.int ((e.2*cnt (Ak ps) (Ao (ns.filter e.1) nm):Nat):Int))
  (λr H' hr' e' h'=>⟨kvs,e'.but,hA2.same e',rfl⟩) (λr i acc H3 hP=>?_) (λr i x acc H3 hr' hx hi hl hra hP=>?_) (λr acc H3 hr' hra hal hP=>?_)
 . obtain⟨kvs3,e3,_,_⟩:=hP;exact SqL.of (e3 _ _ (ne_of ha hA2.kn (by intro z;cases z)) ha)
 . obtain ⟨kvs3,e3,hA3,rfl⟩:=hP;rw[A09] at hx
   cases he:(ct.filter λe=>decide (nm∈frF (Ak ps) (ns.filter e.1)))[i]? with
   |none=>rw[he] at hx;cases hx
   |some e=>
     rw[he] at hx
     cases hx;obtain⟨hec,hef⟩:=hsel e (A05 he);obtain⟨ie,hie⟩:=A41.mp hec;have hzL:=(mem_frF.mp hef).1;have hsub:=Rk hn hnm (A0N.mp hzL).2;have hLn:(ns.filter e.1).Nodup:=A1Q A1O hn;have hLl:(ns.filter e.1).length<=ns.length:=A0O _ _;have hlen:=C4 hLn hzL;have hval:((Bx ns e.1:Nat):Int)-((Fn ns nm:Nat):Int)=((Bx ns (λy=>e.1 y && !decide (y=nm)):Nat):Int):=by omega
     have hckd:cd≠kd:=nk.symm;have h3c:=e3 _ _ hckd h2c
     symm
     refine aa4 (.inr ⟨o,h3c⟩) (ac5 hOk hie) ?_
     symm
     refine aC3 hA3.ob (by rfl) ?_
     symm
     refine Xd hA3.ob (by rfl) ?_
     symm
     refine i_ixD hA3.bt (Jy hnm) ?_
     symm
     rw[hval];refine⟨p,dx,nv,bd,ad,kd,ns,ps,kvs3,_,rfl,hA3,hW,h10,by rw[G5];omega,λkvs4 H4 e4 hA4=>?_⟩;rw[G5];have hcn:=Rv (b:=Ak ps) (B8 hLn nm) nofun;have hcm:CMul ((e.2:Nat):Int) ((cnt (Ak ps) (Ao (ns.filter e.1) nm):Nat):Int):=.inr ⟨by omega,by omega⟩;refine i_mulBI hcm ?_;have hrk:r≠kd:=ne_of hra hA3.kn (by intro z;cases z);have h4r:=e4 _ _ hrk hra;refine Ls (by rw[A01];exact A0H (A0O _ _) nofun) hi hl h4r λH5 e5 h5=>?_;refine⟨kvs4,(e3.trans e4).off hr' e5,hA4.list e5 h4r,?_⟩;rw[A0Y,he,A0M];show _++[V.int (((e.2:Nat):Int)*((cnt (Ak ps) (Ao (ns.filter e.1) nm):Nat):Int))]=_++[V.int ((e.2*cnt (Ak ps) (Ao (ns.filter e.1) nm):Nat):Int)];rw[A20]
 obtain⟨kvs3,e3,hA3,rfl⟩:=hP;rw[A01,A13,show(ct.filter λe=>decide (nm∈frF (Ak ps) (ns.filter e.1))).map (λe=>V.int ((e.2*cnt (Ak ps) (Ao (ns.filter e.1) nm):Nat):Int))=((ct.filter λe=>decide (nm∈frF (Ak ps) (ns.filter e.1))).map λe=>((e.2*cnt (Ak ps) (Ao (ns.filter e.1) nm):Nat):Int)).map V.int by rw[A18];rfl] at hra;have hws:=X5 (ns:=ns) (G:=λL=>cnt (Ak ps) (Ao L nm)) (P:=λL=>decide (nm∈frF (Ak ps) L)) ct
 have hws2:Lz ns (λL=>if decide (nm∈frF (Ak ps) L)=true then cnt (Ak ps) (Ao L nm) else 0) ct=Lz ns (λL=>if nm∈frF (Ak ps) L then cnt (Ak ps) (Ao L nm) else 0) ct:=by
  unfold Lz;congr 1;apply A1I;intro e _
  by_cases c:nm∈frF (Ak ps) (ns.filter e.1)<;>simp[c]
 symm
 refine aa6 (.inl (SqL.of hra)) (λn' hn'=>?_) (by rw[A01];exact A0H (A0O _ _) nofun) ?_
 . obtain⟨e,he,rfl⟩:=A0A.mp hn';obtain⟨hec,hef⟩:=hsel e he;have:=aa2 (ns:=ns) (F:=λL=>if nm∈frF (Ak ps) L then cnt (Ak ps) (Ao L nm) else 0) hec
   simp only[if_pos hef] at this;omega
 rw[Hz (λe:(Str->Bool)×Nat=>e.2*cnt (Ak ps) (Ao (ns.filter e.1) nm)),hws,hws2];refine k kvs3 H3 (λb o' hb1 hb2 hb=>?_) (.inr ⟨o,e3 _ _ nk.symm h2c⟩) (k1.fz.trans (e2.fz.trans (e3.fzD hA2.kn))) hA3;exact e3 _ _ hb1 (e2 _ _ (k1.1 _ _ (by simpa using hb2) hb))
def Oi (K:W.Frag):Sp:=λvs H Q _=>∃ v nm ns ps,vs=[v,.str nm]/\Is K H (hfD ns ps) v/\HalfW ns ps/\ns.length<=10/\nm∈ns/\∀ a H',Same H H'->SqT K H' a (((List.range ns.length).map λt=>((Nf (Ak ps) nm t ns:Nat):Int)).map V.int)->Q (.ref a) H'
def Mx (K:W.Frag):Sp:=λvs H Q _=>∃ v nm ns ps,vs=[v,.str nm]/\Is K H (hfD ns ps) v/\HalfW ns ps/\ns.length<=10/\nm∈ns/\∀ H',Same H H'->Q (.int ((((List.range ns.length).map λt=>t*Nf (Ak ps) nm t ns).sum:Nat):Int)) H'
theorem a71 {f:Addr}{fd:FuncData}(F:Fun K "places" "places" Ja f fd)(T:Ej mg){C_Ways:Addr}(k_Ways:Fx K C_Ways)(A9:Fnd P w K mg base 1 "refuse_strangers" ["half","asked"] (B2 K))(Gy:Fnd P w K mg base 2 "one_place_on" ["ways","comings"] (G4 C_Ways K))(Nh:Fnd P w K mg base 14 "ways_by" ["ways","comings","name"] (La C_Ways K))(Fa:Mkd P w K mg base 3 C_Ways "Ways" ["self","half"] (Gs C_Ways K)):FnOk P w K mg base CX0 15 f fd ["half","name"] (Oi K):=by
 refine F.ok Iu (λvs H Q E h=>?_) (λcdv A outer s H vs Q E hr h=>?_)
 . obtain⟨v,nm,ns,ps,rfl,_⟩:=h;rfl
 obtain⟨v,nm,ns,ps,rfl,hI,hW,h10,hnm,k⟩:=h;have hu:=Bf hr;have hq:=Bd hr;have hn:=hW.nd;have hcat:∀ t,Nf (Ak ps) nm t ns<=3628800:=λt=>A0H (aq1 hn hnm t) (Rv hn h10)
 with_reducible refine⟨_,(A2 (Cb (Ae A9 (hr.mono ∅) ⋯ (A0 (pv 0) (A0 (Bi (A0 (pv 1) A1)) A1))))
  (A2 (Ai (i:=2) Iu.nd ⋯ (by eq_refl) (aD3 Fa (hr.mono ∅) ⋯ (A0 (pv 0) A1)))
  (A2 (Ai (i:=3) Iu.nd ⋯ (by eq_refl) (Sf (Hw (Lf (C:=C_Ways) (pv 2) k_Ways.cl k_Ways.n_full ⋯) A5 Rt) ⋯ ⋯ ∅ ∅))
  (A2 (Ai (i:=4) Iu.nd ⋯ (by eq_refl) (Dq A1))
  (A2 (Xq A0V (Ag ac6 (Al (At (K:=K)) ⋯ T.b_len PyProof.Rows.Boot.«len» (A0 (pv 4) A1)) (Al (At (K:=K)) ⋯ T.b_len PyProof.Rows.Boot.«len» (A0 (A7 (A4 (K:=K) hu) (pv 0) A5 (by ac_rfl)) A1)) (Aq _))
  (A2 (Cb (G6 (K:=K) A14 A2X A2Y (mm Hg) (pv 4) (A0 (Ae Nh (hr.mono ∅) ⋯ (A0 (pv 2) (A0 (pv 3) (A0 (pv 1) A1)))) A1)))
  (A6 (Ai (i:=3) Iu.nd ⋯ (by eq_refl) (Ae Gy (hr.mono ∅) ⋯ (A0 (pv 2) (A0 (pv 3) A1)))))))
  (A6 (Aj (Ax (B3 (K:=K)) ⋯ T.b_tuple PyProof.Rows.Boot.«tuple» (A0 (pv 4) A1))))))))),?_⟩
 symm
 refine Bp (Af (by simp)) λt1 H1 ht1 e1 h1=>?_
 symm
 refine⟨v,.ref t1,ns,ps,[nm],rfl,hI.hf_fz e1.fz,R0 (SqT.of h1),a83 hnm,?_⟩
 symm
 refine aT3 λp dx H2 hp2 e2 h2=>?_;refine⟨p,v,dx,ns,ps,rfl,h2,hI.hf_fz (e1.trans e2).fz,hW,h10,λnv bd ad kd kvs H3 hk3 e3 hA=>⟨rfl,?_⟩⟩;have e13:Same H1 H3:=e2.off hp2 e3;have hpH1:H1 p=none:=hp2;have hkH1:H1 kd=none:=e2.free hk3
 symm
 refine X0 λcd H4 hc4 e4 h4=>?_
 symm
 refine Xd (e4 _ _ hA.ob) (by rfl) ?_
 symm
 refine Sg [(Sum.inl ((Bx ns (λ_=>true):Nat):Int),V.int 1)] h4 rfl (by show 1<=15;decide) λH5 e5 h5=>?_
 symm
 refine Eb ∅ λl6 H6 hl6 e6 h6=>?_;have hE:Same H1 H5:=(e13.trans e4).off (e13.free hc4) e5;have hE6:Same H1 H6:=hE.trans e6;have hct0:H6 cd=some (.dK (Gh ns [(λ_=>true,1)])):=e6 _ _ h5;have hA4:=hA.same e4;have hbc:bd≠cd:=ne_of_none hA.bt hc4;have hac:ad≠cd:=ne_of_none hA.ah hc4;have hkc:kd≠cd:=ne_of_none hA.kn hc4;have hpc:p≠cd:=ne_of_none hA.ob hc4;have hA6:=(hA4.dict e5 h4 hbc hac hkc).same e6;have hcd1:H1 cd=none:=e13.free hc4;have hl61:H1 l6=none:=hE.free hl6;have hft:ns.filter (λ_=>true)=ns:=by simp
 symm
 refine a69 (λm σ H7=>∃ t cd7 kvs7 ct,σ=[some v,some (.str nm),some (.ref p),some (.ref cd7),some (.ref l6)]/\Same H1 H7/\H1 cd7=none/\WaysAt K C_Ways H7 p dx nv bd ad kd ns ps kvs7/\Rd H7 cd7 (.dK (Gh ns ct))/\Ll ns ct/\p≠cd7/\bd≠cd7/\ad≠cd7/\kd≠cd7/\l6≠cd7 /\
   H7 l6=some (.lst ((List.range t).map λs=>V.int ((Nf (Ak ps) nm s ns:Nat):Int)))/\t+m=ns.length/\∀ s,Lz ns (Nf (Ak ps) nm s) ct=Nf (Ak ps) nm (t+s) ns)
  ns.length ⟨0,cd,kvs,[(λ_=>true,1)],rfl,hE6,hcd1,hA6,.inl hct0,by unfold Ll Gh;simp,hpc,hbc,hac,hkc,(ne_of_none h5 hl6).symm,h6,by simp,λs=>by unfold Lz;simp;rw[hft]⟩ λm σ H7 hP=>?_
 obtain⟨t,cd7,kvs7,ct,rfl,e7,hc7,hA7,hR7,hOk,q1,q2,q3,q4,q5,h7l,htm,hws⟩:=hP
 symm
 refine B7 (hI.hf_fz (e1.trans e7).fz) λnv7 hN7=>?_
 symm
 refine Jt hN7 ?_;rw[A01,A1B]
 symm
 refine Oz (λhc=>?_) (λhc=>?_)
 . refine as0 ?_
   symm
   have hw0:Lz ns (λL=>if nm∈frF (Ak ps) L then cnt (Ak ps) (Ao L nm) else 0) ct=Nf (Ak ps) nm t ns:=hws 0
   refine⟨p,cd7,dx,nv,bd,ad,kd,ns,ps,kvs7,ct,nm,rfl,hA7,hW,h10,hR7,hOk,q1,q2,q3,q4,hnm,by rw[hw0];have:=hcat t;omega,λkvs8 H8 k8 r8 fz8 hA8=>?_⟩;rw[hw0]
   symm
   have hlk:l6≠kd:=ne_of h7l hA7.kn (by intro z;cases z);have h8l:=k8 _ _ hlk q5 h7l;refine Sq h8l (by rw[A01,A1B];omega) λH9 e9 h9=>?_;have hA9:=hA8.list e9 h8l
   have hR9:Rd H9 cd7 (.dK (Gh ns ct)):=by
    rcases r8 with r|⟨o,r⟩
    . exact .inl (e9 _ _ q5.symm r)
    exact .inr ⟨o,e9 _ _ q5.symm r⟩
   symm
   refine⟨p,cd7,dx,nv,bd,ad,kd,ns,ps,kvs8,ct,rfl,hA9,hW,h10,hR9,hOk,q1,q2,q3,q4,λd ct' H10 hd10 k10 h10d hOk' hF'=>?_⟩
   symm
   have e8:Same H1 H8:=λb o hb=>k8 b o (ne_of_none hb hkH1) (ne_of_none hb hc7) (e7 _ _ hb);have e9':Same H1 H9:=e8.off hl61 e9
   have hcs:∀ a∈[cd7],H1 a=none:=λa ha=>by
    have:a=cd7:=by simpa using ha
    rw[this];exact hc7
   have e10:Same H1 H10:=e9'.then hcs k10;have hA10:=hA9.keep k10 q1 q2 q3 q4;have h10l:=k10.1 _ _ (by simpa using q5) h9;have hdn:∀ {b:Addr} {o:HO},H9 b=some o->b≠d:=λhb=>ne_of_none hb hd10;refine⟨m-1,by omega,t+1,d,kvs8,ct',rfl,e10,e9'.free hd10,hA10,.inl h10d,hOk',hdn hA9.ob,hdn hA9.bt,hdn hA9.ah,hdn hA9.kn,hdn h9,?_,by omega,λs=>?_⟩
   . rw[h10l,A54,A0M];rfl
   rw[hF',show t+1+s=t+(s+1) by omega,<- hws (s+1)];rfl
 have ht:t=ns.length:=by omega
 subst ht
 symm
 refine Ho (SqL.of h7l) λt8 H8 ht8 e8 h8=>?_;refine k t8 H8 ((e1.trans e7).trans e8) (SqT.of ?_);rw[h8,A18];rfl
theorem Zu {f:Addr}{fd:FuncData}(F:Fun K "height" "height" Jj f fd)(T:Ej mg)(Rj:Fnd P w K mg base 15 "places" ["half","name"] (Oi K)):FnOk P w K mg base CX0 16 f fd ["half","name"] (Mx K):=by
 refine F.ok ad5 (λvs H Q E h=>?_) (λcdv A outer s H vs Q E hr h=>?_)
 . obtain⟨v,nm,ns,ps,rfl,_⟩:=h;rfl
 obtain⟨v,nm,ns,ps,rfl,hI,hW,h10,hnm,k⟩:=h;have hu:=Bf hr;have hq:=Bd hr;have hn:=hW.nd;have hcat:∀ t,Nf (Ak ps) nm t ns<=3628800:=λt=>A0H (aq1 hn hnm t) (Rv hn h10)
 with_reducible refine⟨_,(A6 (Aj (Al (J9 (K:=K) ⋯) ⋯ T.b_sum PyProof.Rows.Boot.«sum» (A0 (Bl ["place","many"] [] [] ⋯ ⋯ ⋯ (Qz (K:=K) ⋯ T.b_enumerate (A0 (Ae Rj (hr.mono ∅) ⋯ (A0 (pv 0) (A0 (pv 1) A1))) A1)) (λ_ _ _ _=>(K4 (K:=K) (n:=2) ⋯ (Cd (Ac (i:=0) (by with_unfolding_all (show(["place","many"]:List Str).Nodup;decide +kernel)) ⋯ (by eq_refl)) (Cd (Ac (i:=1) (by with_unfolding_all (show(["place","many"]:List Str).Nodup;decide +kernel)) ⋯ (by eq_refl)) J3)))) (aD5 (a87 ∅ (a87 ∅ aC9))) (λ_ _ _ _=>Cv) (λ_ _ _ _=>(An By (pv 0) (pv 1)))) A1)))),?_⟩
 symm
 refine⟨v,nm,ns,ps,rfl,hI,hW,h10,hnm,λa H1 e1 hS=>?_⟩;rw[A18] at hS;refine Yi (r:=λt=>V.int ((t*Nf (Ak ps) nm t ns:Nat):Int)) hS nofun (λi H2 R hi e2 hR=>?_) (λq H2 hq2 e2 h2=>?_)
 . symm
   have hc:=hcat i;have hcm:CMul ((i:Nat):Int) ((Nf (Ak ps) nm i ns:Nat):Int):=.inr ⟨by omega,by omega⟩;refine i_mulBI hcm ?_;rw[<- A20];exact hR H2 (.refl _)
 symm
 rw[show(List.range ns.length).map (λt=>V.int ((t*Nf (Ak ps) nm t ns:Nat):Int))=((List.range ns.length).map λt=>((t*Nf (Ak ps) nm t ns:Nat):Int)).map V.int by rw[A18];rfl] at h2;refine aa6 (.inl (SqL.of h2)) (λn' hn'=>?_) (by rw[A01,A1B];omega) ?_
 . obtain⟨t,ht,rfl⟩:=A0A.mp hn';have h1:=A1U.mp ht;have h2:t*Nf (Ak ps) nm t ns<=10*3628800:=A2P nofun (hcat t);omega
 rw[Hz (λt=>t*Nf (Ak ps) nm t ns)];exact k H2 (e1.trans e2)
def Fo (K:W.Frag):Sp:=λvs H Q _=>∃ m:Nat,vs=[.int ((m:Nat):Int)]/\m<=1000/\Q (.int ((fac m:Nat):Int)) H
theorem M5 {f:Addr}{fd:FuncData}(F:Fun K "_law_shuffles" "_law_shuffles" Ck f fd)(T:Ej mg):FnOk P w K mg base CX0 1 f fd ["_law_many"] (Fo K):=by
 refine F.ok Dt (λvs H Q E h=>?_) (λcdv A outer s H vs Q E hr h=>?_)
 . obtain⟨m,rfl,_⟩:=h;rfl
 obtain⟨m,rfl,hm,k⟩:=h;have hu:=Bf hr;have hq:=Bd hr
 with_reducible refine⟨_,(A2 (Ai (i:=1) Dt.nd ⋯ (by eq_refl) A5)
  (A2 (Cm A0V ⋯ (Do ⋯ T.b_range (A0 (pv 0) A1)) (Ac (i:=2) Dt.nd ⋯ (by eq_refl))
  (A6 (Ai (i:=1) Dt.nd ⋯ (by eq_refl) (An By (pv 1) (An (Am (K:=K)) (pv 2) A5)))))
  (A6 (Aj (pv 1))))),?_⟩
 symm
 refine Jw nofun ?_;refine Ie Cg (λi σ H1=>∃ x2,σ=[some (.int ((m:Nat):Int)),some (.int ((fac i:Nat):Int)),x2]/\H1=H) ⟨_,rfl,rfl⟩ (λ_ _ _ _=>trivial) (λi x σ' H1 hx hi hP=>?_) (fun σ' H1 hP=>?_)
 . obtain⟨x2,rfl,rfl⟩:=hP;obtain⟨rfl,hi2⟩:=Gz hx
   symm
   refine⟨some (.int (0+(i:Int))),?_,rfl⟩
   have:((fac i:Nat):Int)*(0+(i:Int)+1)=((fac (i+1):Nat):Int):=by show _=((fac i*(i+1):Nat):Int);rw[A20];congr 1;omega
   rw[this];rfl
 obtain⟨x2,rfl,rfl⟩:=hP;have:((List.range ((m:Nat):Int).toNat).map λ(i:Nat)=>V.int (0+(i:Int))).length=m:=by rw[A01,A1B];omega
 rw[this]
 symm
 exact k
def Hs (K:W.Frag):Sp:=λvs H Q _=>∃ d l,vs=[.ref d]/\Feed H d l/\∀ t v1 v2 n1 p1 n2 p2 H',ExtBut d H H'->Feed H' d l->SqT K H' t [v1,v2]->Is K H' (hfD n1 p1) v1->Is K H' (hfD n2 p2) v2->Half n1 p1->Half n2 p2->(∀ z∈n1,z∉n2)->n1.length<=5->n2.length<=5->Q (.ref t) H'
theorem Rl {f:Addr}{fd:FuncData}(F:Fun K "_law_apart" "_law_apart" Dz f fd)(T:Ej mg)(A8:Fnd P w K mg base 1 "_law_draw" ["_law_feed_here","_law_many"] (Br K))(Ee:Fnd P w K mg base 2 "_law_names" ["_law_feed_here","_law_many"] (Fw K))(Bw:Fnd P w K mg base 2 "_law_shuffled" ["_law_feed_here","_law_some"] (Du K))(Fg:Fnd P w K mg base 3 "_law_sayings" ["_law_feed_here","_law_line"] (Gf K)):FnOk P w K mg base CX0 4 f fd ["_law_feed_here"] (Hs K):=by
 refine F.ok Dh (λvs H Q E h=>?_) (λcdv A outer s H vs Q E hr h=>?_)
 . obtain⟨d,l,rfl,_⟩:=h;rfl
 obtain⟨d,l,rfl,hF,k⟩:=h;have hu:=Bf hr;have hq:=Bd hr
 with_reducible refine⟨_,(A2 (Ai (i:=1) Dh.nd ⋯ (by eq_refl) (Ae Ee (hr.mono ∅) ⋯ (A0 (pv 0) (A0 A5 A1))))
  (A2 (Ai (i:=2) Dh.nd ⋯ (by eq_refl) (Ae A8 (hr.mono ∅) ⋯ (A0 (pv 0) (A0 A5 A1))))
  (A2 (Ai (i:=3) Dh.nd ⋯ (by eq_refl) (Ce (Ve (K:=K)) (pv 1) Ga (Ca (pv 2))))
  (A2 (Ai (i:=4) Dh.nd ⋯ (by eq_refl) (Ce (Ve (K:=K)) (pv 1) (Ca (pv 2)) (Ca (An (Am (K:=K)) (pv 2) (Ae A8 (hr.mono ∅) ⋯ (A0 (pv 0) (A0 A5 A1)))))))
  (A2 (Ai (i:=5) Dh.nd ⋯ (by eq_refl) (Bi (A0 (Ax (B3 (K:=K)) ⋯ T.b_tuple PyProof.Rows.Boot.«tuple» (A0 (Ae Bw (hr.mono ∅) ⋯ (A0 (pv 0) (A0 (pv 3) A1))) A1)) (A0 (Ae Fg (hr.mono ∅) ⋯ (A0 (pv 0) (A0 (pv 3) A1))) A1))))
  (A6 (Aj (Bi (A0 (pv 5) (A0 (Bi (A0 (Ax (B3 (K:=K)) ⋯ T.b_tuple PyProof.Rows.Boot.«tuple» (A0 (Ae Bw (hr.mono ∅) ⋯ (A0 (pv 0) (A0 (pv 4) A1))) A1)) (A0 (Ae Fg (hr.mono ∅) ⋯ (A0 (pv 0) (A0 (pv 4) A1))) A1))) A1)))))))))),?_⟩
 symm
 refine⟨d,l,10,rfl,hF,by omega,by omega,λp1 n1 H1 hp1 e1 hF1 h1 hN1 hl1=>?_⟩;have hl1':n1.length=10:=hl1
 symm
 refine⟨d,l,6,rfl,hF1,by omega,by omega,λc H2 hc0 hc1 e2 hF2=>?_⟩;have h2:=e2 _ _ (hF1.lst h1) h1
 symm
 refine Ni (SqL.of h2) λp3 H3 hp3 e3 h3=>?_;have hF3:=hF2.same e3;have h3n:=e3 _ _ h2
 symm
 refine⟨d,l,6,rfl,hF3,by omega,by omega,λc2 H4 hd0 hd1 e4 hF4=>?_⟩;have h4n:=e4 _ _ (hF3.lst h3n) h3n;have h4f:=e4 _ _ (hF3.lst h3) h3
 symm
 refine Ni (SqL.of h4n) λp5 H5 hp5 e5 h5=>?_;rw[az4 hc0 nofun (by rw[A01];omega),<- A4T,<- A34] at h5;rw[Hv hc0,<- A34] at h4f;have h5f:=e5 _ _ h4f;have hF5:=hF4.same e5;generalize hA:n1.take c.toNat=fi at h5f;generalize hB:(n1.drop c.toNat).take ((c+c2).toNat-c.toNat)=se at h5;have hfil:fi.length<=5:=by rw[<- hA,A0T];omega
 have hsel:se.length<=5:=by rw[<- hB,A0T];omega
 have hfs:∀ z∈fi,z∉se:=λz hz hz'=>by rw[<- hA] at hz;rw[<- hB] at hz';have hnd:=hN1.1;rw[<- List.take_append_drop c.toNat n1,A16] at hnd;exact hnd.2.2 z hz z (A1K hz') rfl
 have hfn:Names fi:=⟨by rw[<- hA];exact A1Q (A4K _ _) hN1.1,λz hz=>hN1.2 z (by rw[<- hA] at hz;exact A1K hz)⟩;have hsn:Names se:=⟨by rw[<- hB];exact A1Q ((A4K _ _).trans (List.drop_sublist _ _)) hN1.1,λz hz=>hN1.2 z (by rw[<- hB] at hz;exact A2C (A1K hz))⟩;have halfOf:∀ {ls ms:List Str} {ps:List (Str×Str)},Names ls->ls.length<=5->ms.Perm ls->Up ls ps->ps.length<=60->Half ms ps:=fun {ls ms ps} hn hl hp hu h60=>⟨⟨hp.nodup_iff.mpr hn.1,λz hz=>hn.2 z (hp.mem_iff.mp hz)⟩,by rw[hp.length_eq];omega,h60,ls,hp.symm,hu⟩
 symm
 refine⟨d,l,p3,_,rfl,hF5,.inl (SqL.of h5f),by rw[A01];omega,λp6 ys6 H6 hp6 e6 hF6 h6 hperm6=>?_⟩;obtain⟨m6,rfl,hpm6⟩:=Mq hperm6;have h6f:=e6 _ _ (hF5.lst h5f) h5f;have h6s:=e6 _ _ (hF5.lst h5) h5
 symm
 refine Ho (SqL.of h6) λt7 H7 ht7 e7 h7=>?_
 symm
 refine⟨d,l,p3,fi,rfl,hF6.same e7,e7 _ _ h6f,by omega,λv8 s8 H8 e8 hF8 hI8 hU8 hl8=>?_⟩;have hI7:Is K H8 (nmD m6) (.ref t7):=R0 (((hF6.same e7).fz e8).seq (SqT.of h7));have h8s:=e8 _ _ ((hF6.same e7).lst (e7 _ _ h6s)) (e7 _ _ h6s)
 symm
 refine Bp (Af (by simp)) λt9 H9 ht9 e9 h9=>?_;have hI9:Is K H9 (hfD m6 s8) (.ref t9):=Yb (SqT.of h9) (hI7.nm_fz e9.fz) (Is.mono e9 _ _ hI8);have hF9:=hF8.same e9;have h9s:=e9 _ _ h8s
 symm
 refine⟨d,l,p5,_,rfl,hF9,.inl (SqL.of h9s),by rw[A01];omega,λp10 ys10 H10 hp10 e10 hF10 h10 hperm10=>?_⟩;obtain⟨m10,rfl,hpm10⟩:=Mq hperm10;have h10s:=e10 _ _ (hF9.lst h9s) h9s
 symm
 refine Ho (SqL.of h10) λt11 H11 ht11 e11 h11=>?_
 symm
 have hF11:=hF10.same e11;refine⟨d,l,p5,se,rfl,hF11,e11 _ _ h10s,by omega,λv12 s12 H12 e12 hF12 hI12 hU12 hl12=>?_⟩;have hI11:Is K H12 (nmD m10) (.ref t11):=R0 ((hF11.fz e12).seq (SqT.of h11))
 symm
 refine Bp (Af (by simp)) λt13 H13 ht13 e13 h13=>?_;have hI13:Is K H13 (hfD m10 s12) (.ref t13):=Yb (SqT.of h13) (hI11.nm_fz e13.fz) (Is.mono e13 _ _ hI12)
 symm
 refine Bp (Af (by simp)) λt14 H14 ht14 e14 h14=>?_;have e914:Fz H9 H14:=(((hF9.fz e10).trans e11.fz).trans (hF11.fz e12)).trans (e13.trans e14).fz;have eA:=((((((((e1.trans e2).same e3).trans e4).same e5).trans e6).same e7).trans e8).same e9);have eAll:ExtBut d H H14:=(((eA.trans e10).same e11).trans e12).same (e13.trans e14);exact k t14 _ _ m6 s8 m10 s12 H14 eAll (hF12.same (e13.trans e14)) (SqT.of h14) (hI9.hf_fz e914) (hI13.hf_fz e14.fz) (halfOf hfn hfil hpm6 hU8 hl8) (halfOf hsn hsel hpm10 hU12 hl12) (λz hz hz'=>hfs z (hpm6.mem_iff.mp hz) (hpm10.mem_iff.mp hz')) (by rw[hpm6.length_eq];exact hfil) (by rw[hpm10.length_eq];exact hsel)
def J0 (K:W.Frag):Sp:=λvs H Q _=>∃ d l v ns ps,vs=[.ref d,v]/\Feed H d l/\Is K H (hfD ns ps) v/\Half ns ps/\∀ u qs H',ExtBut d H H'->Feed H' d l->Is K H' (hfD ns qs) u->Half ns qs->Q u H'
theorem Vb {f:Addr}{fd:FuncData}(F:Fun K "_law_full" "_law_full" Fc f fd)(T:Ej mg)(A8:Fnd P w K mg base 1 "_law_draw" ["_law_feed_here","_law_many"] (Br K)):FnOk P w K mg base CX0 2 f fd ["_law_feed_here","_law_half"] (J0 K):=by
 refine F.ok Ix (λvs H Q E h=>?_) (λcdv A outer s H vs Q E hr h=>?_)
 . obtain⟨d,l,v,ns,ps,rfl,_⟩:=h;rfl
 obtain⟨d,l,v,ns,ps,rfl,hF,hI,hH,k⟩:=h;have hu:=Bf hr;have hq:=Bd hr;have hle:=hH.le;have hsh:SeqAt.shaped (.list (ps.map prD))=true:=Yx hH.nmP
 with_reducible refine⟨_,(A2 (Ai (i:=2) Ix.nd ⋯ (by eq_refl) (Ax (L8 (K:=K)) ⋯ T.b_list PyProof.Rows.Boot.«list» (A0 (A7 (A4 (K:=K) hu) (pv 1) A5 (by ac_rfl)) A1)))
  (A2 (Cm A0V ⋯ (Do ⋯ T.b_range (A0 (An By A5 (Ax Nx ⋯ T.b_int PyProof.Rows.Boot.«int» (A0 (Cw (Fj (K:=K) hq) (pv 2) (Dq A1) (Aq _)) A1))) A1)) (Ac (i:=3) Ix.nd ⋯ (by eq_refl))
  (A6 (Bv (Ag ac6 (Al (At (K:=K)) ⋯ T.b_len PyProof.Rows.Boot.«len» (A0 (pv 2) A1)) A5 (Aq _)) (A6 (Cb (G6 (K:=K) A14 PySem.F.slot_list_insert PySem.F.type_list_insert (mm Tr) (pv 2) (A0 (Ae A8 (hr.mono ∅) ⋯ (A0 (pv 0) (A0 (An (Am (K:=K)) (Al (At (K:=K)) ⋯ T.b_len PyProof.Rows.Boot.«len» (A0 (pv 2) A1)) A5) A1))) (A0 (A7 (A4 (K:=K) hu) (A7 (A4 (K:=K) hu) (pv 1) A5 (by ac_rfl)) (Ae A8 (hr.mono ∅) ⋯ (A0 (pv 0) (A0 (Al (At (K:=K)) ⋯ T.b_len PyProof.Rows.Boot.«len» (A0 (A7 (A4 (K:=K) hu) (pv 1) A5 (by ac_rfl)) A1)) A1))) (by ac_rfl)) A1))))) Ap)))
  (A6 (Aj (Bi (A0 (A7 (A4 (K:=K) hu) (pv 1) A5 (by ac_rfl)) (A0 (Ax (B3 (K:=K)) ⋯ T.b_tuple PyProof.Rows.Boot.«tuple» (A0 (pv 2) A1)) A1))))))),?_⟩
 symm
 refine Fh hI λpv hP=>?_;obtain⟨pa,xs,rfl,hS,hX⟩:=hP.tup;have hxl:xs.length=ps.length:=by rw[<- IsL.length hX,A01]
 symm
 refine ad6 (.inr hS) λp H1 hp1 e1 h1=>?_
 symm
 refine Eb ∅ λt2 H2 ht2 e2 h2=>?_;refine aE8 (Is.of_lst (SqL.of (e2 _ _ h1)) (IsL.mono (e1.trans e2) _ _ hX)) (Is.of_lst (ds:=[]) (SqL.of h2) .nil) hsh (by rfl) ?_;rw[Vh];have e12:=e1.trans e2;have hF2:=hF.same e12;have hnd:=hF.nd hp1;have hnl:=hF.nl hp1;have hI2:=hI.hf_fz e12.fz
 symm
 refine Jw (by split<;>omega) ?_
 refine Ie Cg (λj σ H3=>∃ x3 ys qs,σ=[some (.ref d),some v,some (.ref p),x3]/\ExtBut d H H3/\Feed H3 d l/\Fz H H3/\H3 p=some (.lst ys)/\IsL K H3 (qs.map prD) ys/\qs.length<=60/\∀ q∈qs,q∈ps)
  ⟨_,xs,ps,rfl,ExtBut.after e12 .refl,hF2,e12.fz,e2 _ _ h1,IsL.mono e12 _ _ hX,hle,λ_ h=>h⟩ (λ_ _ _ _=>trivial) (λj x σ' H3 hx hj hP=>?_) (fun σ' H3 hP=>?_)
 . obtain⟨x3,ys,qs,rfl,e3,hF3,fz3,h3p,hL3,hq60,hqs⟩:=hP;have hyl:ys.length=qs.length:=by rw[<- IsL.length hL3,A01]
   have hne:0<ps.length:=by
    cases ps with
    |nil=>simp at hj
    |cons _ _=>simp
   symm
   refine Oz (λhc=>?_) (λhc=>?_)
   . symm
     refine⟨d,l,_,rfl,hF3,by omega,by omega,λb H4 hb0 hb1 e4 hF4=>?_⟩;have h4p:=e4 _ _ (Ne.symm hnd) h3p;have fz4:=fz3.trans (hF3.fz e4)
     symm
     refine Fh (hI.hf_fz fz4) λpv4 hP4=>?_
     symm
     refine Fh (hI.hf_fz fz4) λpv5 hP5=>?_
     symm
     refine ao9 hP5 ?_
     symm
     refine⟨d,l,_,rfl,hF4,by omega,by omega,λc H5 hc0 hc1 e5 hF5=>?_⟩;have h5p:=e5 _ _ (Ne.symm hnd) h4p;have fz5:=hF4.fz e5;obtain⟨pa4,xs4,rfl,hS4,hX4⟩:=hP4.tup;have hx4:xs4.length=ps.length:=by rw[<- IsL.length hX4,A01]
     have hcl:c.toNat<xs4.length:=by omega
     have hg:=A04 hcl;generalize xs4[c.toNat]'hcl=xv at hg;obtain⟨D,hD,hIx⟩:=IsL.get hX4 hg;rw[A09] at hD;obtain⟨q,hqi,rfl⟩:=Option.map_eq_some_iff.mp hD
     symm
     refine Y9 (fz5.seq hS4) (show atI _ c=some xv from by have:=K8 hg;rwa[A2F hc0] at this) ?_
     symm
     refine aF1 h5p nofun nofun nofun λH6 e6 h6=>?_
     symm
     have fz6:=e6.fzL h5p;have fz36:Fz H3 H6:=((hF3.fz e4).trans fz5).trans fz6;refine⟨_,_,qs.take b.toNat++q :: qs.drop b.toNat,rfl,ExtBut.off ((e3.trans e4).trans e5) hp1 e6,hF5.put e6 hnd hnl,fz3.trans fz36,h6,ad0 _ (IsL.fz fz36 _ _ (Cf qs) hL3) ((hIx.pr_fz fz5).pr_fz fz6),?_,λz hz=>?_⟩
     . rw[A0C,A0E,A0T,A1H];omega
     rcases A0I.mp hz with hz|hz
     . exact hqs z (A1K hz)
     rcases A0F.mp hz with rfl|hz
     . exact A05 hqi
     exact hqs z (A2C hz)
   symm
   exact⟨_,ys,qs,rfl,e3,hF3,fz3,h3p,hL3,hq60,hqs⟩
 obtain⟨x3,ys,qs,rfl,e3,hF3,fz3,h3p,hL3,hq60,hqs⟩:=hP
 symm
 refine B7 (hI.hf_fz fz3) λnv hN=>?_
 symm
 refine K3 h3p hL3 λu4 H4 e4 hu4=>?_
 symm
 refine Bp (Af (by simp)) λt5 H5 ht5 e5 h5=>?_;obtain⟨ls,hl1,hl2⟩:=hH.line;exact k _ qs H5 (e3.same (e4.trans e5)) (hF3.same (e4.trans e5)) (Yb (SqT.of h5) (hN.nm_fz (e4.trans e5).fz) (Is.mono e5 _ _ hu4)) ⟨hH.names,hH.few,hq60,ls,hl1,hl2.sub hqs⟩
local macro_rules | `(tactic| walk_at "rq1") => L2.mAlts "i_nxS i_callS"
theorem al1 {K:W.Frag}{C:Addr}(hc:XC K C):W.mroIn K C (.ref C)=some true:=by obtain⟨cd,h1,_,bm,h2,_⟩:=hc.cls;unfold W.mroIn;rw[h1,Option.bind_some,h2,if_neg (by simp),List.contains_cons,beq_self_eq_true,Bool.true_or]
def Ge (K:W.Frag):Sp:=λvs H Q _=>∃ v ns ps z,vs=[v,v]/\Is K H (hfD ns ps) v/\ns.length<=10/\z∈ns/\∀ H',Same H H'->Q (.bl true) H'
theorem Oa {f:Addr}{fd:FuncData}(F:Fun K "_law_refused" "_law_refused" Cs f fd)(T:Ej mg){C_HalfError:Addr}{C_NoName:Addr}{C_NoJoin:Addr}(x_HalfError:Bn K mg C_HalfError C_HalfError)(x_NoName:G2 K mg C_NoName C_HalfError)(x_NoJoin:G1 K mg C_NoJoin C_HalfError)(ndX:([C_HalfError,C_Clash,C_NoHalf,C_NoJoin,C_NoName]:List Addr).Nodup)(W4:ag9 P w K mg base 5 "above" ["one","other"] (Mt C_NoJoin K))(R1:ag9 P w K mg base 5 "beside" ["one","other"] (Lh C_NoJoin K)):FnOk P w K mg base CX0 6 f fd ["_law_one","_law_other"] (Ge K):=by
 refine F.ok En (λvs H Q E h=>?_) (λcdv A outer s H vs Q E hr h=>?_)
 . obtain⟨v,ns,ps,z,rfl,_⟩:=h;rfl
 obtain⟨v,ns,ps,z,rfl,hI,h10,hz,k⟩:=h;have hu:=Bf hr;have hq:=Bd hr;obtain⟨xG,hG⟩:∃ G:L2.St->Hp->L2.St->Addr->Hp->Prop,G=fun σ0 H0 σ' a H'=>σ'=σ0/\Same H0 H'/\ExB false H' a C_NoJoin [("word",.str "names")]:=⟨_,rfl⟩
 with_reducible refine⟨_,(A2 (Ai (i:=2) En.nd ⋯ (by eq_refl) (Dq A1))
  (A2 (Cm A0V ⋯ (Av (K:=K) hu (Bi (A0 Bc (A0 Bc A1)))) (Ac (i:=3) En.nd ⋯ (by eq_refl))
  (A6 (av6 (i:=4) xG En.nd ⋯ ⋯ ⋯ x_NoJoin.gl x_NoJoin.xc ⋯ ⋯ ⋯ (λ_ _ _ _ hps=>(A6 (Bv (Ag (Et (K:=K) hq) (pv 3) Bc (Aq _)) (A6 (Cb (ao8 W4 (hr.mono ∅) ⋯ hps (A0 (pv 0) (A0 (pv 1) A1))))) (A6 (Cb (ao8 R1 (hr.mono ∅) ⋯ hps (A0 (pv 0) (A0 (pv 1) A1))))))))
  (λ_ _=>(A6 (Cb (G6 (K:=K) A14 A2X A2Y (mm Hg) (pv 2) (A0 (an2 (K:=K) (pv 4) ⋯) A1))))))))
  (A6 (Aj (Cw (Et (K:=K) hq) (pv 2) (Dq (A0 Bc (A0 Bc A1))) (Aq _)))))),?_⟩
 symm
 refine Eb (Af (by simp)) λp H1 hp1 e1 h1=>?_
 symm
 refine Bp (Af (by simp)) λt H2 ht2 e2 h2=>?_;have e02:=e1.trans e2
 symm
 refine Wf (SqT.of h2) ?_
 refine Ie (Ia (xs:=[.str "above",.str "beside"])) (λi σ H3=>∃ x3,σ=[some v,some v,some (.ref p),x3,none]/\Same H H3/\SqT K H3 t [.str "above",.str "beside"]/\H3 p=some (.lst (List.replicate i (.str "names"))))
  ⟨_,rfl,e02,SqT.of h2,e2 _ _ h1⟩ (λi σ' H' hP=>?_) (λi x σ' H3 hx hi hP=>?_) (fun σ' H3 hP=>?_)
 . obtain⟨_,_,_,q,_⟩:=hP;exact q
 . obtain⟨x3,rfl,e3,hT3,h3⟩:=hP
   symm
   have hI3:=hI.hf_fz e3.fz
   have hgo:∀ σ0 a H',Same H3 H'->ExB false H' a C_NoJoin [("word",.str "names")]->xG σ0 H3 σ0 a H':=fun σ0 a H' e hE=>by rw[hG];exact⟨rfl,e,hE⟩
   obtain⟨w,rfl⟩:∃ w:Str,x = .str w:=by
    match i,hx with
    |0,hx=>exact⟨_,(A0Z hx).symm⟩
    |1,hx=>exact⟨_,(A0Z hx).symm⟩
   refine⟨?_,λa H' σ' hl hg=>?_⟩
   . symm
     refine ar0 (λhc=>?_) (λhc=>?_)
     all_goals
      symm
      exact⟨v,v,ns,ps,ns,ps,z,rfl,hI3,hI3,h10,hz,hz,λa H' e hE=>⟨a,rfl,hgo _ a H' e hE⟩⟩
   rw[hG] at hg;obtain⟨rfl,e4,hE⟩:=hg
   obtain⟨dx,ha⟩:∃ dx,H' a=some (exG false a C_NoJoin (some dx)):=by
    rcases hE with ⟨e,_⟩|⟨dx,_,h1,_⟩
    . cases e
    exact⟨dx,h1⟩
   refine⟨⟨C_NoJoin,some dx,ha,x_NoJoin.xc,al1 x_NoJoin.xc⟩,?_⟩
   symm
   refine aN2 hE x_NoJoin.xc x_NoJoin.n_word (show _=some (V.str "names") from rfl) ?_
   symm
   refine Sq (e4 _ _ h3) (by have:i<2:=hi;rw[A27];omega) λH5 e5 h5=>?_
   symm
   exact⟨_,rfl,(e3.trans e4).off hp1 e5,(e4.fz.trans (e5.fzL (e4 _ _ h3))).seq hT3,by rw[h5,List.replicate_succ']⟩
 obtain⟨x3,rfl,e3,hT3,h3⟩:=hP
 symm
 refine Eb (Af (by simp)) λq H4 hq4 e4 h4=>?_;refine aj4 (Is.of_lst (SqL.of (e4 _ _ h3)) (Op ["names","names"])) (Is.of_lst (SqL.of h4) (Op ["names","names"])) (by decide +kernel) (by decide +kernel) ?_;exact k H4 (e3.trans e4)
def Dj (K:W.Frag):Sp:=λvs H Q _=>∃ d l v u ns ps ns' ps',vs=[.ref d,v,u]/\Feed H d l/\Is K H (hfD ns ps) v/\Is K H (hfD ns' ps') u/\Half ns ps/\Half ns' ps'/\(∀ z∈ns,z∉ns')/\ns.length<=5/\ns'.length<=5/\∀ H',ExtBut d H H'->Feed H' d l->Q (.bl true) H'
theorem aq8 {ns ns':List Str}{ps ps' qs:List (Str×Str)}{o:Bool}(m:Made ns ps ns' ps' qs o)(h:Half ns ps)(h':Half ns' ps')(h10:ns.length+ns'.length<=10):Ut (ns++ns') qs:=
 ⟨⟨m.half.nd,λz hz=>(A0I.mp hz).elim (h.names.2 z) (h'.names.2 z)⟩,by rw[A0C];exact h10,m.le,m.half.mem,m.half.irr⟩
theorem Jp {f:Addr}{fd:FuncData}(F:Fun K "_law_joined_right" "_law_joined_right" Bb f fd)(T:Ej mg)(C5:Fnd P w K mg base 5 "right_half" ["thing"] (Ft K))(Vi:Fnd P w K mg base 5 "above" ["one","other"] (Rr K))(Rn:Fnd P w K mg base 5 "beside" ["one","other"] (Ot K))(Cj:Fnd P w K mg base 14 "count" ["half"] (Kr K))(G9:Fnd P w K mg base 15 "share" ["half","name","other"] (M8 K))(Mj:Fnd P w K mg base 16 "height" ["half","name"] (Mx K))(A8:Fnd P w K mg base 1 "_law_draw" ["_law_feed_here","_law_many"] (Br K))(Bw:Fnd P w K mg base 2 "_law_shuffled" ["_law_feed_here","_law_some"] (Du K))(Dc:Fnd P w K mg base 1 "_law_shuffles" ["_law_many"] (Fo K)):FnOk P w K mg base CX0 17 f fd ["_law_feed_here","_law_one","_law_other"] (Dj K):=by
 refine F.ok Ar (λvs H Q E h=>?_) (λcdv A outer s H vs Q E hr h=>?_)
 . obtain⟨d,l,v,u,ns,ps,ns',ps',rfl,_⟩:=h;rfl
 obtain⟨d,l,v,u,ns,ps,ns',ps',rfl,hF,hI,hI',hH,hH',hd,h5,h5',k⟩:=h;have hu:=Bf hr;have hq:=Bd hr;have hW:=hH.w;have hW':=hH'.w;have h10:ns.length+ns'.length<=10:=by omega
 have mO:=a77 hW hW' hd h10 hH.le hH'.le (o:=true) (bs:=btw ns ns') (λp hp=>mem_btw.mp hp) (.inr ⟨rfl,λx hx y hy=>mem_btw.mpr ⟨hx,hy⟩⟩) (by rw[Wj];exact A0H (A2P h5 h5') ∅);have mS:=a77 hW hW' hd h10 hH.le hH'.le (o:=false) (bs:=[]) (λp hp=>by cases hp) (.inl ⟨rfl,rfl⟩) ∅;have rO:=aq8 mO hH hH' h10;have rS:=aq8 mS hH hH' h10;have c1:cnt (Ak ps) ns<=120:=A0H (Qe _ _ _ rfl hW.nd) (Oh h5);have c2:cnt (Ak ps') ns'<=120:=A0H (Qe _ _ _ rfl hW'.nd) (Oh h5');have f1:=Pb ns.length;have f2:=Pb ns'.length;have f3:fac ns.length<=120:=Oh h5;have f4:fac ns'.length<=120:=Oh h5';have hl:(ns++ns').length=ns.length+ns'.length:=A0C
 with_reducible refine⟨_,(A2 (Ai (i:=3) Ar.nd ⋯ (by eq_refl) (Dq (A0 (Al (At (K:=K)) ⋯ T.b_len PyProof.Rows.Boot.«len» (A0 (A7 (A4 (K:=K) hu) (pv 1) A5 (by ac_rfl)) A1)) (A0 (Al (At (K:=K)) ⋯ T.b_len PyProof.Rows.Boot.«len» (A0 (A7 (A4 (K:=K) hu) (pv 2) A5 (by ac_rfl)) A1)) A1))))
  (A2 (Ai (i:=4) Ar.nd ⋯ (by eq_refl) (Dq (A0 (Ae Cj (hr.mono ∅) ⋯ (A0 (pv 1) A1)) (A0 (Ae Cj (hr.mono ∅) ⋯ (A0 (pv 2) A1)) A1))))
  (A2 (Ai (i:=5) Ar.nd ⋯ (by eq_refl) (Ae Vi (hr.mono ∅) ⋯ (A0 (pv 1) (A0 (pv 2) A1))))
  (A2 (Ai (i:=6) Ar.nd ⋯ (by eq_refl) (Ae Rn (hr.mono ∅) ⋯ (A0 (pv 1) (A0 (pv 2) A1))))
  (A2 (Bv (PW.pt (Nu (Ag El (Ae C5 (hr.mono ∅) ⋯ (A0 (pv 5) A1)) Ev (Aq _)) (Jv (Ag El (Ae C5 (hr.mono ∅) ⋯ (A0 (pv 6) A1)) Ev (Aq _))))) (A6 (Aj Ev)) Ap)
  (A2 (Ai (i:=7) Ar.nd ⋯ (by eq_refl) (An Jh (An Jh (Ae Dc (hr.mono ∅) ⋯ (A0 (An (Am (K:=K)) (A7 (A4 (K:=K) hu) (pv 3) A5 (by ac_rfl)) (A7 (A4 (K:=K) hu) (pv 3) A5 (by ac_rfl))) A1)) (Ae Dc (hr.mono ∅) ⋯ (A0 (A7 (A4 (K:=K) hu) (pv 3) A5 (by ac_rfl)) A1))) (Ae Dc (hr.mono ∅) ⋯ (A0 (A7 (A4 (K:=K) hu) (pv 3) A5 (by ac_rfl)) A1))))
  (A2 (Bv (PW.pt (Nu (Ag (Fj (K:=K) hq) (Ae Cj (hr.mono ∅) ⋯ (A0 (pv 5) A1)) (An By (A7 (A4 (K:=K) hu) (pv 4) A5 (by ac_rfl)) (A7 (A4 (K:=K) hu) (pv 4) A5 (by ac_rfl))) (Aq _)) (Jv (Ag (Fj (K:=K) hq) (Ae Cj (hr.mono ∅) ⋯ (A0 (pv 6) A1)) (An By (An By (A7 (A4 (K:=K) hu) (pv 4) A5 (by ac_rfl)) (A7 (A4 (K:=K) hu) (pv 4) A5 (by ac_rfl))) (pv 7)) (Aq _))))) (A6 (Aj Ev)) Ap)
  (A2 (Bv (Ag Ua (A7 (A4 (K:=K) hu) (pv 3) A5 (by ac_rfl)) A5 (Aq _)) (A2 (ar5 (Ce (Ve (K:=K)) (Ae Bw (hr.mono ∅) ⋯ (A0 (pv 0) (A0 (A7 (A4 (K:=K) hu) (pv 1) A5 (by ac_rfl)) A1))) Ga (Ca A5)) (ay6 (K:=K) (n:=2) ⋯ (Cd (Ac (i:=8) Ar.nd ⋯ (by eq_refl)) (Cd (Ac (i:=9) Ar.nd ⋯ (by eq_refl)) J3))))
  (A2 (Bv (Ag (Fj (K:=K) hq) (Ae G9 (hr.mono ∅) ⋯ (A0 (pv 5) (A0 (pv 8) (A0 (pv 9) A1)))) (An By (Ae G9 (hr.mono ∅) ⋯ (A0 (pv 1) (A0 (pv 8) (A0 (pv 9) A1)))) (A7 (A4 (K:=K) hu) (pv 4) A5 (by ac_rfl))) (Aq _)) (A6 (Aj Ev)) Ap)
  (A6 (Bv (Ag (Fj (K:=K) hq) (Ae G9 (hr.mono ∅) ⋯ (A0 (pv 6) (A0 (pv 8) (A0 (pv 9) A1)))) (An By (An By (Ae G9 (hr.mono ∅) ⋯ (A0 (pv 1) (A0 (pv 8) (A0 (pv 9) A1)))) (A7 (A4 (K:=K) hu) (pv 4) A5 (by ac_rfl))) (pv 7)) (Aq _)) (A6 (Aj Ev)) Ap)))) Ap)
  (A2 (Bv (Ag Ua (A7 (A4 (K:=K) hu) (pv 3) A5 (by ac_rfl)) A5 (Aq _)) (A2 (Ai (i:=8) Ar.nd ⋯ (by eq_refl) (A7 (A4 (K:=K) hu) (A7 (A4 (K:=K) hu) (pv 2) A5 (by ac_rfl)) (Ae A8 (hr.mono ∅) ⋯ (A0 (pv 0) (A0 (A7 (A4 (K:=K) hu) (pv 3) A5 (by ac_rfl)) A1))) (by ac_rfl)))
  (A6 (Bv (Ag (Fj (K:=K) hq) (Ae Mj (hr.mono ∅) ⋯ (A0 (pv 5) (A0 (pv 8) A1))) (An By (An (Am (K:=K)) (Ae Mj (hr.mono ∅) ⋯ (A0 (pv 2) (A0 (pv 8) A1))) (An By (A7 (A4 (K:=K) hu) (pv 3) A5 (by ac_rfl)) (A7 (A4 (K:=K) hu) (pv 4) A5 (by ac_rfl)))) (A7 (A4 (K:=K) hu) (pv 4) A5 (by ac_rfl))) (Aq _)) (A6 (Aj Ev)) Ap))) Ap)
  (A6 (Aj Ev))))))))))),?_⟩
 symm
 refine B7 hI λnv hN=>?_
 symm
 refine Jt hN ?_
 symm
 refine B7 hI' λnv' hN'=>?_
 symm
 refine Jt hN' ?_
 symm
 refine Eb (Af (by simp)) λp1 H1 hp1 e1 h1=>?_
 symm
 refine⟨v,ns,ps,rfl,hI.hf_fz e1.fz,hW.c,by omega,λH2 e2=>?_⟩
 symm
 refine⟨u,ns',ps',rfl,hI'.hf_fz (e1.trans e2).fz,hW'.c,by omega,λH3 e3=>?_⟩
 symm
 refine Eb (Af (by simp)) λp4 H4 hp4 e4 h4=>?_;have e03:=(e1.trans e2).trans e3;have e04:=e03.trans e4
 symm
 refine⟨v,u,ns,ps,ns',ps',rfl,hI.hf_fz e04.fz,hW,hI'.hf_fz e04.fz,hW',hd,h10,hH.le,hH'.le,λw5 H5 e5 hI5=>?_⟩;have e05:=e04.trans e5
 symm
 refine⟨v,u,ns,ps,ns',ps',rfl,hI.hf_fz e05.fz,hW,hI'.hf_fz e05.fz,hW',hd,h10,hH.le,hH'.le,λw6 H6 e6 hI6=>?_⟩;generalize baP (ns++ns') (ps++ps'++btw ns ns')=qO at mO rO hI5;generalize baP (ns++ns') (ps++ps'++[])=qS at mS rS hI6;have e06:=e05.trans e6;have h16:=e6 _ _ (e5 _ _ (e4 _ _ (e3 _ _ (e2 _ _ h1))));have h46:=e6 _ _ (e5 _ _ h4);have hI56:=hI5.hf_fz e6.fz
 symm
 refine⟨w5,_,_,rfl,hI56,rO,λH7 e7=>?_⟩
 symm
 refine⟨w6,_,_,rfl,hI6.hf_fz e7.fz,rS,λH8 e8=>?_⟩;have e68:=e7.trans e8;have h18:=e68 _ _ h16;have h48:=e68 _ _ h46;have hI58:=hI56.hf_fz e68.fz;have hI68:=hI6.hf_fz e68.fz;have e08:=e06.trans e68;clear h1 h4 h16 h46 e1 e2 e3 e4 e5 e6 e7 e8 e04 e05 e06 e68 hN hN' hI5 hI56 hI6
 symm
 refine Dx h18 (show atI _ 0=some _ from rfl) ?_
 symm
 refine Dx h18 (show atI _ 1=some _ from rfl) ?_
 symm
 refine⟨ns.length+ns'.length,rfl,by omega,?_⟩
 symm
 refine Dx h18 (show atI _ 0=some _ from rfl) ?_
 symm
 refine⟨ns.length,rfl,by omega,?_⟩
 symm
 refine Dx h18 (show atI _ 1=some _ from rfl) ?_
 symm
 refine⟨ns'.length,rfl,by omega,?_⟩;walk_at "rq";rw[show((fac (ns.length+ns'.length):Nat):Int) / ((fac ns.length:Nat):Int) / ((fac ns'.length:Nat):Int)=((Kx ns.length ns'.length:Nat):Int) from by rw[<- ah1,Int.natCast_ediv,Int.natCast_ediv]];generalize hsh:Kx ns.length ns'.length=sh;have oO:((cnt (Ak qO) (ns++ns'):Nat):Int)=((cnt (Ak ps) ns:Nat):Int)*((cnt (Ak ps') ns':Nat):Int):=by rw[mO.over,A20]
 have oS:((cnt (Ak qS) (ns++ns'):Nat):Int)=((cnt (Ak ps) ns:Nat):Int)*((cnt (Ak ps') ns':Nat):Int)*(sh:Int):=by rw[mS.side,A20,A20,hsh]
 have cc:cnt (Ak ps) ns*cnt (Ak ps') ns'<=14400:=A2P c1 c2
 symm
 refine⟨w5,_,_,rfl,hI58,mO.half.c,by omega,λH9 e9=>?_⟩;have h49:=e9 _ _ h48
 symm
 refine Dx h49 (show atI _ 0=some _ from rfl) ?_
 symm
 refine Dx h49 (show atI _ 1=some _ from rfl) ?_
 symm
 rw[oO];refine Ps (λhc=>absurd rfl hc) (λ_=>?_)
 symm
 refine⟨w6,_,_,rfl,hI68.hf_fz e9.fz,mS.half.c,by omega,λH10 e10=>?_⟩;have e810:=e9.trans e10;have h110:=e810 _ _ h18;have h410:=e810 _ _ h48;have hI510:=hI58.hf_fz e810.fz;have hI610:=hI68.hf_fz e810.fz
 symm
 refine Dx h410 (show atI _ 0=some _ from rfl) ?_
 symm
 refine Dx h410 (show atI _ 1=some _ from rfl) ?_
 symm
 rw[oS];refine Ps (λhc=>absurd rfl hc) (λ_=>?_);have hF10:=hF.same (e08.trans e810);have e010:=e08.trans e810;clear h18 h48 h49 e08 e9 e10 e810 hI58 hI68;walk_at "rq";have n1:p1≠d:=Ne.symm (hF.nd hp1);have n4:p4≠d:=Ne.symm (hF.nd (e03.free hp4))
 with_reducible refine Se (fun σ' H'=>∃ x8 x9,σ'=[some (.ref d),some v,some u,some (.ref p1),some (.ref p4),some w5,some w6,some (.int (sh:Int)),x8,x9]/\ExtBut d H10 H'/\Feed H' d l) (λN hN=>?_) (fun σ1 H11 hM=>?_)
 . walk_at "rq";refine Dx h110 (show atI _ 0=some _ from rfl) ?_;walk_at "rq";refine Oz (λhc=>?_) (λhc=>?_)
   . symm
     refine B7 (hI.hf_fz e010.fz) λnv hN1=>?_;obtain⟨na,rfl,hS1⟩:=hN1.nm
     symm
     refine⟨d,l,na,_,rfl,hF10,.inr hS1,by rw[A01];omega,λp11 ys11 H11 hp11 e11 hF11 h11 hperm=>?_⟩;obtain⟨m11,rfl,hpm⟩:=Mq hperm
     symm
     refine Ni (SqL.of h11) λt12 H12 ht12 e12 h12=>?_
     obtain⟨x,y,hl2,hx,hy,hxy⟩:∃ x y,m11.take 2=[x,y]/\x∈ns/\y∈ns/\x≠y:=by
      have hln:2<=m11.length:=by rw[hpm.length_eq];omega
      match m11,hln,hpm with
      |x :: y :: zs,_,hpm=>have hnd:=hpm.nodup_iff.mpr hW.nd;exact⟨x,y,rfl,hpm.mem_iff.mp (by simp),hpm.mem_iff.mp (by simp),λe=>(List.nodup_cons.mp hnd).1 (by rw[e];simp)⟩
     rw[Hv ∅,<- A34,show(2:Int).toNat=2 from rfl,hl2] at h12;have fz12:=(hF10.fz e11).trans e12.fz;have h412:=e12 _ _ (e11 _ _ n4 h410);have s1:=mO.shOver hx hy;have s2:=mS.shSide hx hy hxy;rw[hsh] at s2;have s1':((cnt (Ak (qO++[(x,y)])) (ns++ns'):Nat):Int)=((cnt (Ak (ps++[(x,y)])) ns:Nat):Int)*((cnt (Ak ps') ns':Nat):Int):=by rw[s1,A20]
     have s2':((cnt (Ak (qS++[(x,y)])) (ns++ns'):Nat):Int)=((cnt (Ak (ps++[(x,y)])) ns:Nat):Int)*((cnt (Ak ps') ns':Nat):Int)*(sh:Int):=by rw[s2,A20,A20]
     have c3:cnt (Ak (ps++[(x,y)])) ns<=120:=A0H (Qe _ _ _ rfl hW.nd) (Oh h5);have c4:cnt (Ak (ps++[(x,y)])) ns*cnt (Ak ps') ns'<=14400:=A2P c3 c2
     symm
     refine aL7 (SqL.of h12) (by rfl) ⟨_,_,rfl,_,_,rfl,rfl,?_⟩
     symm
     refine⟨w5,x,y,_,_,rfl,hI510.hf_fz fz12,mO.half,by omega,A0G _ hx,A0G _ hy,λH13 e13=>?_⟩
     symm
     refine⟨v,x,y,ns,ps,rfl,(hI.hf_fz e010.fz).hf_fz (fz12.trans e13.fz),hW,by omega,hx,hy,λH14 e14=>?_⟩;have e1214:=e13.trans e14
     symm
     refine Dx (e1214 _ _ h412) (show atI _ 1=some _ from rfl) ?_
     symm
     rw[s1'];refine Ps (λhc=>absurd rfl hc) (λ_=>?_)
     symm
     refine⟨w6,x,y,_,_,rfl,hI610.hf_fz (fz12.trans e1214.fz),mS.half,by omega,A0G _ hx,A0G _ hy,λH15 e15=>?_⟩
     symm
     refine⟨v,x,y,ns,ps,rfl,(hI.hf_fz e010.fz).hf_fz (fz12.trans (e1214.trans e15).fz),hW,by omega,hx,hy,λH16 e16=>?_⟩;have e1216:=e1214.trans (e15.trans e16)
     symm
     refine Dx (e1216 _ _ h412) (show atI _ 1=some _ from rfl) ?_
     symm
     rw[s2'];refine Ps (λhc=>absurd rfl hc) (λ_=>?_)
     symm
     exact hN _ _ ⟨_,_,rfl,e11.same (e12.trans e1216),hF11.same (e12.trans e1216)⟩
   symm
   exact hN _ _ ⟨_,_,rfl,.refl,hF10⟩
 obtain⟨x8,x9,rfl,e11,hF11⟩:=hM;have h111:=e11 _ _ n1 h110;have h411:=e11 _ _ n4 h410;have fz11:=hF10.fz e11
 symm
 refine Dx h111 (show atI _ 1=some _ from rfl) ?_
 symm
 refine Oz (λhc=>?_) (λhc=>?_)
 . symm
   refine B7 (hI'.hf_fz (e010.fz.trans fz11)) λnv hN1=>?_
   symm
   refine Dx h111 (show atI _ 1=some _ from rfl) ?_
   symm
   refine⟨d,l,_,rfl,hF11,by omega,by omega,λb H12 hb0 hb1 e12 hF12=>?_⟩;have fz12:=fz11.trans (hF11.fz e12);have h112:=e12 _ _ n1 h111;have h412:=e12 _ _ n4 h411;have hbl:b.toNat<ns'.length:=by omega
   have hnm:ns'[b.toNat]∈ns':=A4V hbl;have hg:=A04 hbl;generalize ns'[b.toNat]=nm at hg hnm;have hh:=mO.high hnm;unfold hgt at hh
   symm
   refine aQ1 (hN1.nm_fz (hF11.fz e12)) (show atI _ b=some nm from by have:=K8 hg;rwa[A2F hb0] at this) ?_
   symm
   refine⟨w5,nm,_,_,rfl,hI510.hf_fz fz12,mO.half,by omega,A0Q _ hnm,λH13 e13=>?_⟩
   symm
   refine⟨u,nm,ns',ps',rfl,hI'.hf_fz ((e010.fz.trans fz12).trans e13.fz),hW',by omega,hnm,λH14 e14=>?_⟩;have e1214:=e13.trans e14
   symm
   refine Dx (e1214 _ _ h112) (show atI _ 0=some _ from rfl) ?_
   symm
   refine Dx (e1214 _ _ h412) (show atI _ 1=some _ from rfl) ?_
   symm
   refine Dx (e1214 _ _ h412) (show atI _ 0=some _ from rfl) ?_
   symm
   rw[hh,A20,Int.natCast_add,A20];refine Ps (λhc=>absurd rfl hc) (λ_=>?_)
   symm
   exact k H14 ((ExtBut.after e010 .refl).trans ((e11.trans e12).same e1214)) (hF12.same e1214)
 symm
 exact k H11 ((ExtBut.after e010 .refl).trans e11) hF11
def Ff (K:W.Frag):Sp:=λvs H Q _=>∃ d l v ns ps,vs=[.ref d,v]/\Feed H d l/\Is K H (hfD ns ps) v/\Half ns ps/\ns.length<=5/\∀ H',ExtBut d H H'->Feed H' d l->Q (.bl true) H'
theorem ac4 {ns:List Str}{ps:List (Str×Str)}(h:HalfW ns ps)(hN:Names ns)(h10:ns.length<=10):Ut ns (baP ns ps):=by obtain⟨a,b,_⟩:=h.ba10 h10;exact⟨hN,h10,b,a.mem,a.irr⟩
theorem Le {f:Addr}{fd:FuncData}(F:Fun K "_law_one_right" "_law_one_right" C0 f fd)(T:Ej mg)(R5:Fnd P w K mg base 2 "behind" ["half","name"] (Nj K))(Qv:Fnd P w K mg base 3 "untold" ["half"] (Oy K))(C5:Fnd P w K mg base 5 "right_half" ["thing"] (Ft K))(Sa:Fnd P w K mg base 5 "turned" ["half"] (Oj K))(Nw:Fnd P w K mg base 6 "without" ["half","name"] (Lc K))(R7:Fnd P w K mg base 5 "called" ["half","names"] (My K))(Tc:Fnd P w K mg base 5 "said" ["half","name","other"] (Vp K))(Cj:Fnd P w K mg base 14 "count" ["half"] (Kr K))(G9:Fnd P w K mg base 15 "share" ["half","name","other"] (M8 K))(Ee:Fnd P w K mg base 2 "_law_names" ["_law_feed_here","_law_many"] (Fw K)):FnOk P w K mg base CX0 16 f fd ["_law_feed_here","_law_half"] (Ff K):=by
 refine F.ok B4 (λvs H Q E h=>?_) (λcdv A outer s H vs Q E hr h=>?_)
 . obtain⟨d,l,v,ns,ps,rfl,_⟩:=h;rfl
 obtain⟨d,l,v,ns,ps,rfl,hF,hI,hH,h5,k⟩:=h;have hu:=Bf hr;have hq:=Bd hr;have hW:=hH.w;have h10:=hH.few;have h60:=hH.le
 with_reducible refine⟨_,(A2 (Ai (i:=2) B4.nd ⋯ (by eq_refl) (Ax (B3 (K:=K)) ⋯ T.b_tuple PyProof.Rows.Boot.«tuple» (A0 (Ae Ee (hr.mono ∅) ⋯ (A0 (pv 0) (A0 (Al (At (K:=K)) ⋯ T.b_len PyProof.Rows.Boot.«len» (A0 (A7 (A4 (K:=K) hu) (pv 1) A5 (by ac_rfl)) A1)) A1))) A1)))
  (A2 (Ai (i:=3) B4.nd ⋯ (by eq_refl) (Dq (A0 (Ae Sa (hr.mono ∅) ⋯ (A0 (pv 1) A1)) (A0 (Ae R7 (hr.mono ∅) ⋯ (A0 (pv 1) (A0 (pv 2) A1))) A1))))
  (A2 (Bv (PW.pt (Nu (Ag (Fj (K:=K) hq) (Ae Cj (hr.mono ∅) ⋯ (A0 (A7 (A4 (K:=K) hu) (pv 3) A5 (by ac_rfl)) A1)) (Ae Cj (hr.mono ∅) ⋯ (A0 (pv 1) A1)) (Aq _)) (Jv (Ag (Fj (K:=K) hq) (Ae Cj (hr.mono ∅) ⋯ (A0 (A7 (A4 (K:=K) hu) (pv 3) A5 (by ac_rfl)) A1)) (Ae Cj (hr.mono ∅) ⋯ (A0 (pv 1) A1)) (Aq _))))) (A6 (Aj Ev)) Ap)
  (A2 (Bv (PW.pt (Nu (Ag El (Ae C5 (hr.mono ∅) ⋯ (A0 (A7 (A4 (K:=K) hu) (pv 3) A5 (by ac_rfl)) A1)) Ev (Aq _)) (Jv (Ag El (Ae C5 (hr.mono ∅) ⋯ (A0 (A7 (A4 (K:=K) hu) (pv 3) A5 (by ac_rfl)) A1)) Ev (Aq _))))) (A6 (Aj Ev)) Ap)
  (A2 (Cm A0V ⋯ (Av (K:=K) hu (Ae Qv (hr.mono ∅) ⋯ (A0 (pv 1) A1))) (K4 (K:=K) (n:=2) ⋯ (Cd (Ac (i:=4) B4.nd ⋯ (by eq_refl)) (Cd (Ac (i:=5) B4.nd ⋯ (by eq_refl)) J3)))
  (A2 (Ai (i:=6) B4.nd ⋯ (by eq_refl) (Ae G9 (hr.mono ∅) ⋯ (A0 (pv 1) (A0 (pv 4) (A0 (pv 5) A1)))))
  (A2 (Bv (Ag El (Ae C5 (hr.mono ∅) ⋯ (A0 (Ae Tc (hr.mono ∅) ⋯ (A0 (pv 1) (A0 (pv 4) (A0 (pv 5) A1)))) A1)) Ev (Aq _)) (A6 (Aj Ev)) Ap)
  (A2 (Bv (PW.pt (Nu (Ag (Fj (K:=K) hq) (Ae Cj (hr.mono ∅) ⋯ (A0 (Ae Tc (hr.mono ∅) ⋯ (A0 (pv 1) (A0 (pv 4) (A0 (pv 5) A1)))) A1)) (pv 6) (Aq _)) (Jv (Ag (Fj (K:=K) hq) (Ae Cj (hr.mono ∅) ⋯ (A0 (Ae Tc (hr.mono ∅) ⋯ (A0 (pv 1) (A0 (pv 5) (A0 (pv 4) A1)))) A1)) (An Lp (Ae Cj (hr.mono ∅) ⋯ (A0 (pv 1) A1)) (pv 6)) (Aq _))))) (A6 (Aj Ev)) Ap)
  (A2 (Ai (i:=7) B4.nd ⋯ (by eq_refl) (Qo (K:=K) hr.hd ⋯ T.b_dict ⋯ T.b_zip (A0 (A7 (A4 (K:=K) hu) (pv 1) A5 (by ac_rfl)) (A0 (pv 2) A1))))
  (A6 (Bv (PW.pt (Nu (Ag (Fj (K:=K) hq) (Ae G9 (hr.mono ∅) ⋯ (A0 (A7 (A4 (K:=K) hu) (pv 3) A5 (by ac_rfl)) (A0 (pv 5) (A0 (pv 4) A1)))) (pv 6) (Aq _)) (Jv (Ag (Fj (K:=K) hq) (Ae G9 (hr.mono ∅) ⋯ (A0 (A7 (A4 (K:=K) hu) (pv 3) A5 (by ac_rfl)) (A0 (A7 (A4 (K:=K) hu) (pv 7) (pv 4) (by ac_rfl)) (A0 (A7 (A4 (K:=K) hu) (pv 7) (pv 5) (by ac_rfl)) A1)))) (pv 6) (Aq _))))) (A6 (Aj Ev)) Ap)))))))
  (A2 (G0 (i:=8) ["_law_name"] ["_law_half"] [1] ⋯ ⋯ ⋯ B4.nd ⋯ ⋯ (Av (K:=K) hu (A7 (A4 (K:=K) hu) (pv 1) A5 (by ac_rfl))) (λ_ _ _ _=>(Ac (i:=0) (by with_unfolding_all (show(["_law_name","_law_half"]:List Str).Nodup;decide +kernel)) ⋯ (by eq_refl))) (B5 ∅) (λ_ _ _ _=>(Ex (Ag (Et (K:=K) hq) (Ae R5 (hr.mono ∅) ⋯ (A0 (pv 1) (A0 (pv 0) A1))) (Bi A1) (Aq _)))) (λ_ _ _ _=>(pv 0)))
  (A6 (Aj (aQ6 (Cw (Et (K:=K) hq) (A7 (A4 (K:=K) hu) (pv 1) A5 (by ac_rfl)) (Bi A1) (Aq _)) (Tu (Cw (Et (K:=K) hq) (Al (J9 (K:=K) ⋯) ⋯ T.b_sum PyProof.Rows.Boot.«sum» (A0 (Bl ["_law_name"] ["_law_half"] [1] ⋯ ⋯ ⋯ (Av (K:=K) hu (pv 8)) (λ_ _ _ _=>(Ac (i:=0) (by with_unfolding_all (show(["_law_name","_law_half"]:List Str).Nodup;decide +kernel)) ⋯ (by eq_refl))) (B5 ∅) (λ_ _ _ _=>Cv) (λ_ _ _ _=>(Ae Cj (hr.mono ∅) ⋯ (A0 (Ae Nw (hr.mono ∅) ⋯ (A0 (pv 1) (A0 (pv 0) A1))) A1)))) A1)) (Ae Cj (hr.mono ∅) ⋯ (A0 (pv 1) A1)) (Aq _)))))))))))),?_⟩
 symm
 refine B7 hI λnv hN=>?_
 symm
 refine Jt hN ?_
 symm
 refine⟨d,l,_,rfl,hF,by omega,by omega,λp1 row H1 hp1 e1 hF1 h1 hR hlR=>?_⟩;have hl:row.length=ns.length:=by rw[hlR];omega
 symm
 refine Qu h1 (Op row) λf2 H2 e2 hf2=>?_;have hF2:=hF1.same e2;have hI2:=(hI.hf_fz (hF.fz e1)).hf_fz e2.fz
 symm
 refine⟨v,ns,ps,rfl,hI2,hH,λw3 H3 e3 hI3=>?_⟩
 symm
 refine⟨v,f2,ns,ps,row,rfl,hI2.hf_fz e3.fz,hH,hf2.nm_fz e3.fz,hR,hl,λw4 H4 e4 hI4=>?_⟩
 symm
 refine Eb (Af (by simp)) λp5 H5 hp5 e5 h5l=>?_;have hF5:=hF2.same ((e3.trans e4).trans e5);have hI5:=hI2.hf_fz ((e3.trans e4).trans e5).fz;have hf5:=hf2.nm_fz ((e3.trans e4).trans e5).fz;have hI35:=hI3.hf_fz (e4.trans e5).fz;have hI45:=hI4.hf_fz e5.fz;have e05:ExtBut d H H5:=e1.same (e2.trans ((e3.trans e4).trans e5));have hHc:=Kn hH hR hl;have rT:Ut ns (baP ns (ps.map sw)):=ac4 hW.sw hH.names h10;have rC:Ut row (baP row (ps.map (ff (toF ns row)))):=ac4 hHc.w hR hHc.few;have oT:=Yv hW h10;have oC:=Yd hH hR hl;have wT:=hW.sw.ba10 h10;have wC:=hHc.w.ba10 hHc.few;have sT:=λx y=>T2 hW h10 x y;have sC:∀ {x y:Str},x∈ns->y∈ns->_:=fun {x y} hx hy=>Us hH hR hl hx hy;clear e1 e2 e3 e4 e5 hF1 hF2 hI2 hI3 hI4 h1 hf2 hN;generalize baP ns (ps.map sw)=qT at hI35 rT oT wT sT;generalize baP row (ps.map (ff (toF ns row)))=qC at hI45 rC oC wC sC
 symm
 refine Dx h5l (show atI _ 0=some _ from rfl) ?_
 symm
 refine⟨w3,ns,qT,rfl,hI35,wT.1.c,h10,λH6 e6=>?_⟩
 symm
 refine⟨v,ns,ps,rfl,hI5.hf_fz e6.fz,hW.c,h10,λH7 e7=>?_⟩;rw[oT]
 symm
 have e57:=e6.trans e7
 symm
 refine Dx (e57 _ _ h5l) (show atI _ 1=some _ from rfl) ?_
 symm
 refine⟨w4,row,qC,rfl,hI45.hf_fz e57.fz,wC.1.c,by omega,λH8 e8=>?_⟩
 symm
 refine⟨v,ns,ps,rfl,hI5.hf_fz (e57.trans e8).fz,hW.c,h10,λH9 e9=>?_⟩;rw[oC]
 symm
 have e59:=e57.trans (e8.trans e9)
 symm
 refine Dx (e59 _ _ h5l) (show atI _ 0=some _ from rfl) ?_
 symm
 refine⟨w3,ns,qT,rfl,hI35.hf_fz e59.fz,rT,λH10 e10=>?_⟩;have e510:=e59.trans e10
 symm
 refine Dx (e510 _ _ h5l) (show atI _ 1=some _ from rfl) ?_
 symm
 refine⟨w4,row,qC,rfl,hI45.hf_fz e510.fz,rC,λH11 e11=>?_⟩;have e511:=e510.trans e11
 symm
 refine⟨v,ns,ps,rfl,hI5.hf_fz e511.fz,hW,λu12 H12 e12 hU12=>?_⟩;have e512:=e511.trans e12;refine aq2 hU12 (λj σ H13=>∃ x4 x5 x6 x7,σ=[some (.ref d),some v,some f2,some (.ref p5),x4,x5,x6,x7,none]/\Same H12 H13) ⟨_,_,_,_,rfl,.refl _⟩ (λj σ' H' hP=>?_) (λj pr pv σ' H13 hp hpI hP=>?_) (fun σ' H13 hP=>?_)
 . obtain⟨_,_,_,_,_,e⟩:=hP;exact e.fz
 . obtain⟨x4,x5,x6,x7,rfl,e13⟩:=hP;obtain⟨x,y⟩:=pr;have hpm:=A05 hp;obtain⟨hx,hy,hun⟩:=ay9 hpm;have hxy:=aL3 hW.nd hpm;dsimp only at hx hy hun hxy;have hun':=Bool.and_eq_true_iff.mp hun
   have nw1:¬ Way ps x y:=λg=>by
    have:=hun'.1;rw[wayB_iff.mpr g] at this
    cases this
   have nw2:¬ Way ps y x:=λg=>by
    have:=hun'.2;rw[wayB_iff.mpr g] at this
    cases this
   have e513:=e512.trans e13;have hI13:=hI5.hf_fz e513.fz;have h13l:=e513 _ _ h5l;have W1:=hW.said hx hy hxy nw2 nofun;have W2:=hW.said hy hx (Ne.symm hxy) nw1 nofun;have r1:=ac4 W1 hH.names h10;have d1:=X4 hW h10 hx hy hxy nw2 nofun;have d2:=X4 hW h10 hy hx (Ne.symm hxy) nw1 nofun;have w1:=W1.ba10 h10;have w2:=W2.ba10 h10;have two:=aw3 hW hx hy hxy;have sTx:=sT x y;have sCx:=sC hx hy;refine aA0 hpI ?_
   symm
   refine⟨v,x,y,ns,ps,rfl,hI13,hW,h10,hx,hy,λH14 e14=>?_⟩;have hI14:=hI13.hf_fz e14.fz
   symm
   refine⟨v,x,y,ns,ps,rfl,hI14,hW,by omega,hx,hy,hxy,nw2,λs15 H15 e15 hs15=>?_⟩
   symm
   refine⟨s15,ns,_,rfl,hs15,r1,λH16 e16=>?_⟩;have e1416:=e15.trans e16
   symm
   refine⟨v,x,y,ns,ps,rfl,hI14.hf_fz e1416.fz,hW,by omega,hx,hy,hxy,nw2,λs17 H17 e17 hs17=>?_⟩
   symm
   refine⟨s17,ns,_,rfl,hs17,w1.1.c,h10,λH18 e18=>?_⟩;rw[d1];have e1418:=e1416.trans (e17.trans e18)
   symm
   refine⟨v,y,x,ns,ps,rfl,hI14.hf_fz e1418.fz,hW,by omega,hy,hx,Ne.symm hxy,nw1,λs19 H19 e19 hs19=>?_⟩
   symm
   refine⟨s19,ns,_,rfl,hs19,w2.1.c,h10,λH20 e20=>?_⟩;have e1420:=e1418.trans (e19.trans e20)
   symm
   refine⟨v,ns,ps,rfl,hI14.hf_fz e1420.fz,hW.c,h10,λH21 e21=>?_⟩;rw[d2]
   symm
   refine Ps (λhc=>absurd (congrArg V.int nofun) hc) (λ_=>?_);have e1421:=e1420.trans e21;have hI21:=hI14.hf_fz e1421.fz;have e1321:=e14.trans e1421
   symm
   refine B7 hI21 λnv hN=>?_;obtain⟨na,rfl,hSn⟩:=hN.nm;obtain⟨fb,hfb,hSf⟩:=(hf5.nm_fz (e513.trans e1321).fz).nm
   cases hfb
   symm
   refine T4 hSn (.inr hSf) (by rw[A01];exact hl) hW.nd nofun λc H22 hc22 e22 h22=>?_;have e522:=(e513.trans e1321).trans e22
   symm
   refine Dx (e522 _ _ h5l) (show atI _ 0=some _ from rfl) ?_
   symm
   refine⟨w3,y,x,ns,qT,rfl,hI35.hf_fz e522.fz,wT.1,h10,hy,hx,λH23 e23=>?_⟩;rw[sTx]
   symm
   refine Dx (e23 _ _ (e522 _ _ h5l)) (show atI _ 1=some _ from rfl) ?_
   symm
   refine i_ixD (e23 _ _ h22) (Md hW.nd hl hx) ?_
   symm
   refine i_ixD (e23 _ _ h22) (Md hW.nd hl hy) ?_
   symm
   refine⟨w4,_,_,row,qC,rfl,hI45.hf_fz (e522.trans e23).fz,wC.1,by omega,A05 (Mw hl hx).2,A05 (Mw hl hy).2,λH24 e24=>?_⟩;rw[sCx]
   symm
   exact⟨_,_,_,_,rfl,(e13.trans e1321).trans (e22.trans (e23.trans e24))⟩
 obtain⟨x4,x5,x6,x7,rfl,e13⟩:=hP;have hI13:=hI5.hf_fz (e512.trans e13).fz
 symm
 have e513:=e512.trans e13;have hF13:=hF5.same e513;refine B7 hI13 λnv hN=>?_;refine Gx hN (λx=>decide (ns.filter (λz=>Ak ps x z)=[])) PyData.str (λ_=>rfl) nofun (λi x H14 R R' hx e14 hR hR'=>?_) (λp14 ys14 H14 hp14 e14 h14 hL14=>?_)
 . have hxm:=A05 hx
   symm
   refine⟨v,x,ns,ps,rfl,hI13.hf_fz e14.fz,hW,hxm,λu15 H15 e15 hu15=>?_⟩
   symm
   refine Bp (Af (by simp)) λt16 H16 ht16 e16 h16=>?_;refine aj4 (hu15.nm_fz e16.fz) (Is.of_tup (ds:=[]) (SqT.of h16) .nil) (Vf (λz hz=>hH.names.2 z (A0N.mp hz).1) (A0H (A0O _ _) nofun)).shaped (by rfl) ?_;rw[Lb]
   symm
   refine ar0 (λhb=>?_) (λhb=>?_)
   . symm
     exact hR (A0S (List.isEmpty_iff.mp hb)) _ _ (e15.trans e16) Os
   exact hR' (A0P λe=>by rw[e] at hb;cases hb) _ (e15.trans e16)
 have hy14:=IsL.str_eq hL14;subst hy14;have hI14:=hI13.hf_fz e14.fz
 symm
 refine B7 hI14 λnv2 hN2=>?_
 symm
 refine Bp (Af (by simp)) λt15 H15 ht15 e15 h15=>?_;refine aj4 (hN2.nm_fz e15.fz) (Is.of_tup (ds:=[]) (SqT.of h15) .nil) (Vf hH.names.2 nofun).shaped (by rfl) ?_;rw[Lb];have e515:=e513.trans (e14.trans e15)
 cases hns:ns.isEmpty with
 |true=>
   symm
   exact k H15 (e05.same e515) (hF5.same e515)
 |false=>
   have hne:ns≠[]:=λe=>by rw[e] at hns;cases hns
   symm
   refine Ws (SqL.of (e15 _ _ h14)) (λ_=>true) (λx=>PyData.int ((cnt (Ak ps) (Ao ns x):Nat):Int)) (λ_=>rfl) (A0H (A0O _ _) nofun) (λi x H16 R R' hx e16 hR hR'=>?_) (λp16 ys16 H16 hp16 e16 h16 hL16=>?_)
   . have hxm:x∈ns:=(A0N.mp (A05 hx)).1;have hb:=Vw hH (ns.filter λy=>!decide (y=x))
     symm
     refine⟨v,x,ns,ps,rfl,hI5.hf_fz (e515.trans e16).fz,hH,hxm,λw17 H17 e17 hw17=>?_⟩
     symm
     refine⟨w17,_,_,rfl,hw17,(hb.ba10 (a94 hH _)).1.c,a94 hH _,λH18 e18=>?_⟩;rw[Wi hH x];exact hR rfl _ _ (e17.trans e18) ap7
   have hft:(ns.filter λx=>decide (ns.filter (λz=>Ak ps x z)=[])).filter (λ_=>true)=ns.filter λx=>decide (ns.filter (λz=>Ak ps x z)=[]):=by simp
   rw[hft] at hL16;have hm:(ns.filter λx=>decide (ns.filter (λz=>Ak ps x z)=[])).map (λx=>PyData.int ((cnt (Ak ps) (Ao ns x):Nat):Int))=((ns.filter λx=>decide (ns.filter (λz=>Ak ps x z)=[])).map λx=>((cnt (Ak ps) (Ao ns x):Nat):Int)).map PyData.int:=by rw[A18];rfl
   rw[hm] at hL16;have hys:=IsL.int_eq hL16;subst hys
   symm
   refine aa6 (.inl (SqL.of h16)) (λn hn'=>?_) (by rw[A01];exact A0H (A0O _ _) nofun) ?_
   . obtain⟨y,_,rfl⟩:=A0A.mp hn';have l1:(Ao ns y).length<=5:=A0H (A0O _ _) h5;have l2:cnt (Ak ps) (Ao ns y)<=120:=A0H (Qe _ _ _ rfl (B8 hW.nd y)) (Oh l1);omega
   rw[Hz,ai7 hW hne]
   symm
   refine⟨v,ns,ps,rfl,hI5.hf_fz (e515.trans e16).fz,hW.c,h10,λH17 e17=>?_⟩
   symm
   rw[A0S rfl];exact k H17 (e05.same (e515.trans (e16.trans e17))) (hF5.same (e515.trans (e16.trans e17)))
local macro_rules | `(tactic| walk_at "rq1") => L2.mAlts "i_par"
def spLaw (K:W.Frag):Sp:=λvs H Q _=>∃(a:Addr) (ns:List Int),vs=[.ref a]/\SqL K H a (ns.map V.int)/\ns.length<=63/\∀ H',Q (.bl true) H'
theorem aH5 {f:Addr}{fd:FuncData}(F:Fun K "law" "law" Rw f fd)(T:Ej mg)(Ka:Fnd P w K mg base 1 "_law_feed" ["_law_script"] (J7 K))(A8:Fnd P w K mg base 1 "_law_draw" ["_law_feed_here","_law_many"] (Br K))(J5:Fnd P w K mg base 4 "_law_apart" ["_law_feed_here"] (Hs K))(Hm:Fnd P w K mg base 2 "_law_full" ["_law_feed_here","_law_half"] (J0 K))(Gv:Fnd P w K mg base 6 "_law_refused" ["_law_one","_law_other"] (Ge K))(Dw:Fnd P w K mg base 17 "_law_joined_right" ["_law_feed_here","_law_one","_law_other"] (Dj K))(Ds:Fnd P w K mg base 16 "_law_one_right" ["_law_feed_here","_law_half"] (Ff K)):FnOk P w K mg base CX0 18 f fd ["_law_script"] (spLaw K):=by
 refine F.ok Qd (λvs H Q E h=>?_) (λcdv A outer s H vs Q E hr h=>?_)
 . obtain⟨a,ns,rfl,_⟩:=h;rfl
 obtain⟨a,ns,rfl,hS,h63,k⟩:=h;have hu:=Bf hr;have hq:=Bd hr
 with_reducible refine⟨_,(A2 (Ai (i:=1) Qd.nd ⋯ (by eq_refl) (Ae Ka (hr.mono ∅) ⋯ (A0 (pv 0) A1)))
  (A2 (Cm A0V ⋯ (Do ⋯ T.b_range (A0 A5 A1)) (Ac (i:=2) Qd.nd ⋯ (by eq_refl))
  (A2 (ar5 (Ae J5 (hr.mono ∅) ⋯ (A0 (pv 1) A1)) (K4 (K:=K) (n:=2) ⋯ (Cd (Ac (i:=3) Qd.nd ⋯ (by eq_refl)) (Cd (Ac (i:=4) Qd.nd ⋯ (by eq_refl)) J3))))
  (A2 (Bv (Ag (Et (K:=K) hq) (Ae A8 (hr.mono ∅) ⋯ (A0 (pv 1) (A0 A5 A1))) A5 (Aq _)) (A6 (aL1 (i:=3) (j:=4) ⋯ Qd.nd ⋯ ⋯ ∅ ⋯ ⋯ (A0 (Ae Hm (hr.mono ∅) ⋯ (A0 (pv 1) (A0 (pv 3) A1))) (A0 (Ae Hm (hr.mono ∅) ⋯ (A0 (pv 1) (A0 (pv 4) A1))) A1)) ⋯)) Ap)
  (A2 (Bv (PW.pt (Nu (Gr (Fs (Ae Dw (hr.mono ∅) ⋯ (A0 (pv 1) (A0 (pv 3) (A0 (pv 4) A1)))))) (Nu (Gr (Fs (Ae Ds (hr.mono ∅) ⋯ (A0 (pv 1) (A0 (pv 3) A1))))) (Jv (Gr (Fs (Ae Ds (hr.mono ∅) ⋯ (A0 (pv 1) (A0 (pv 4) A1))))))))) (A6 (Aj Ev)) Ap)
  (A6 (Bv (PW.pt (Te (Ag (Fj (K:=K) hq) (A7 (A4 (K:=K) hu) (pv 3) A5 (by ac_rfl)) (Bi A1) (Aq _)) (Na (Gr (Fs (Ae Gv (hr.mono ∅) ⋯ (A0 (pv 3) (A0 (pv 3) A1)))))))) (A6 (Aj Ev)) Ap))))))
  (A6 (Aj Ev)))),?_⟩
 symm
 refine⟨a,ns,rfl,hS,h63,λd l H1 hd hl e1 hF=>?_⟩
 symm
 refine Jw nofun ?_;refine Ie Cg (λi σ H2=>∃ x2 x3 x4,σ=[some (.ref a),some (.ref d),x2,x3,x4]/\Feed H2 d l) ⟨_,_,_,rfl,hF⟩ (λ_ _ _ _=>trivial) (λi x σ H2 hx hi hP=>?_) (fun σ H2 hP=>?_)
 . obtain⟨x2,x3,x4,rfl,hF2⟩:=hP;obtain⟨rfl,hi2⟩:=Gz hx
   symm
   refine⟨d,l,rfl,hF2,λt3 v3 u3 n3 s3 n4 s4 H3 e3 hF3 ht3 hI3 hI4 hH3 hH4 hd3 h53 h54=>?_⟩;refine aH4 ht3 ?_;walk_at "rq"
   with_reducible refine Se (fun σ' H'=>∃ v5 u5 s5 s6,σ'=[some (.ref a),some (.ref d),some (.int (0+(i:Int))),some v5,some u5]/\Feed H' d l/\Is K H' (hfD n3 s5) v5/\Is K H' (hfD n4 s6) u5/\Half n3 s5/\Half n4 s6) (λN hN=>?_) (fun σ1 H5 hM=>?_)
   . walk_at "rq";refine⟨d,l,3,rfl,hF3,by omega,by omega,λb H4 hb0 hb1 e4 hF4=>?_⟩;have fz4:=hF3.fz e4;walk_at "rq";refine ar0 (λhc=>?_) (λhc=>?_)
     . walk_at "rq";refine⟨d,l,v3,n3,s3,rfl,hF4,hI3.hf_fz fz4,hH3,λv5 s5 H5 e5 hF5 hI5 hH5=>?_⟩;have fz5:=hF4.fz e5;walk_at "rq";refine⟨d,l,u3,n4,s4,rfl,hF5,(hI4.hf_fz fz4).hf_fz fz5,hH4,λu6 s6 H6 e6 hF6 hI6 hH6=>?_⟩;walk_at "rq";refine⟨_,_,rfl,?_⟩;walk_at "rq";exact hN _ _ ⟨v5,u6,s5,s6,rfl,hF6,hI5.hf_fz (hF5.fz e6),hI6,hH5,hH6⟩
     walk_at "rq";exact hN _ _ ⟨v3,u3,s3,s4,rfl,hF4,hI3.hf_fz fz4,hI4.hf_fz fz4,hH3,hH4⟩
   obtain⟨v5,u5,s5,s6,rfl,hF5,hI5,hI6,hH5,hH6⟩:=hM
   symm
   refine⟨d,l,v5,u5,n3,s5,n4,s6,rfl,hF5,hI5,hI6,hH5,hH6,hd3,h53,h54,λH6 e6 hF6=>?_⟩;have fz6:=hF5.fz e6
   symm
   refine⟨d,l,v5,n3,s5,rfl,hF6,hI5.hf_fz fz6,hH5,h53,λH7 e7 hF7=>?_⟩;have fz7:=hF6.fz e7
   symm
   refine⟨d,l,u5,n4,s6,rfl,hF7,(hI6.hf_fz fz6).hf_fz fz7,hH6,h54,λH8 e8 hF8=>?_⟩;have hI8:=((hI5.hf_fz fz6).hf_fz fz7).hf_fz (hF7.fz e8)
   symm
   refine B7 hI8 λnv8 hN8=>?_
   symm
   refine Bp (Af (by simp)) λt9 H9 ht9 e9 h9=>?_;refine aE8 (hN8.nm_fz e9.fz) (Is.of_tup (ds:=[]) (SqT.of h9) .nil) (Vf hH5.names.2 nofun).shaped (by rfl) ?_;rw[Lb];have hF9:=hF8.same e9
   cases n3 with
   |nil=>
     rw[show([]:List Str).isEmpty=true from rfl,Bool.not_true]
     symm
     exact⟨_,_,_,rfl,hF9⟩
   |cons z zs=>
     rw[show(z :: zs).isEmpty=false from rfl,Bool.not_false]
     symm
     refine⟨v5,z :: zs,s5,z,rfl,hI8.hf_fz e9.fz,by omega,by simp,λH10 e10=>?_⟩
     symm
     exact⟨_,_,_,rfl,hF9.same e10⟩
 obtain⟨x2,x3,x4,rfl,hF2⟩:=hP
 symm
 exact k H2
end
theorem all_mk {l:W.OpenLaw}{w:World}{K:W.Frag}{h:Heap}{mg:Str->Option Value}{fa f0 f1 f2 f3 f4 f5 f6 f7 f8 f9 f10 f11 f12 f13 f14 f15 f16 f17 f18 f19 f20 f21 f22 f23 f24 f25 f26 f27 f28 f29 f30 f31 f32 f33 f34 f35 f36 f37 f38 f39 f40 f41 f42 f43 f44 f45 f46 f47 f48 f49 f50 f51 f52 f53 f54 C_Ways C_HalfError C_NoHalf C_NoName C_NoJoin C_Clash:Addr}(X:K.In h)(G:h.Ns mainGlobals mg)(hfa:mg "law" = some (.ref fa))
  {D0 N0 D1 N1 D2 N2 D3 N3 D4 N4 D5 N5 D6 N6 D7 N7 D8 N8 D9 N9 D10 N10 D11 N11 D12 N12 D13 N13 D14 N14 D15 N15 D16 N16 D17 N17 D18 N18 D19 N19 D20 N20 D21 N21 D22 N22 D23 N23 D24 N24 D25 N25 D26 N26 D27 N27 D28 N28 D29 N29 D30 N30 D31 N31 D32 N32 D33 N33 D34 N34 D35 N35 D36 N36 D37 N37 D38 N38 D39 N39 D40 N40 D41 N41 D42 N42 D43 N43 D44 N44 D45 N45 D46 N46 D47 N47 D48 N48 D49 N49 D50 N50 D51 N51 D52 N52 D53 N53 D54 N54:Option Addr} {S0 S1 S2 S3 S4 S5 S6 S7 S8 S9 S10 S11 S12 S13 S14 S15 S16 S17 S18 S19 S20 S21 S22 S23 S24 S25 S26 S27 S28 S29 S30 S31 S32 S33 S34 S35 S36 S37 S38 S39 S40 S41 S42 S43 S44 S45 S46 S47 S48 S49 S50 S51 S52 S53 S54:Array (Option Value)} {O0 V0 E0 P0 Q0 U0 O1 V1 E1 P1 Q1 U1 O2 V2 E2 P2 Q2 U2 O3 V3 E3 P3 Q3 U3 O4 V4 E4 P4 Q4 U4 O5 V5 E5 P5 Q5 U5 O6 V6 E6 P6 Q6 U6 O7 V7 E7 P7 Q7 U7 O8 V8 E8 P8 Q8 U8 O9 V9 E9 P9 Q9 U9 O10 V10 E10 P10 Q10 U10 O11 V11 E11 P11 Q11 U11 O12 V12 E12 P12 Q12 U12 O13 V13 E13 P13 Q13 U13 O14 V14 E14 P14 Q14 U14 O15 V15 E15 P15 Q15 U15 O16 V16 E16 P16 Q16 U16 O17 V17 E17 P17 Q17 U17 O18 V18 E18 P18 Q18 U18 O19 V19 E19 P19 Q19 U19 O20 V20 E20 P20 Q20 U20 O21 V21 E21 P21 Q21 U21 O22 V22 E22 P22 Q22 U22 O23 V23 E23 P23 Q23 U23 O24 V24 E24 P24 Q24 U24 O25 V25 E25 P25 Q25 U25 O26 V26 E26 P26 Q26 U26 O27 V27 E27 P27 Q27 U27 O28 V28 E28 P28 Q28 U28 O29 V29 E29 P29 Q29 U29 O30 V30 E30 P30 Q30 U30 O31 V31 E31 P31 Q31 U31 O32 V32 E32 P32 Q32 U32 O33 V33 E33 P33 Q33 U33 O34 V34 E34 P34 Q34 U34 O35 V35 E35 P35 Q35 U35 O36 V36 E36 P36 Q36 U36 O37 V37 E37 P37 Q37 U37 O38 V38 E38 P38 Q38 U38 O39 V39 E39 P39 Q39 U39 O40 V40 E40 P40 Q40 U40 O41 V41 E41 P41 Q41 U41 O42 V42 E42 P42 Q42 U42 O43 V43 E43 P43 Q43 U43 O44 V44 E44 P44 Q44 U44 O45 V45 E45 P45 Q45 U45 O46 V46 E46 P46 Q46 U46 O47 V47 E47 P47 Q47 U47 O48 V48 E48 P48 Q48 U48 O49 V49 E49 P49 Q49 U49 O50 V50 E50 P50 Q50 U50 O51 V51 E51 P51 Q51 U51 O52 V52 E52 P52 Q52 U52 O53 V53 E53 P53 Q53 U53 O54 V54 E54 P54 Q54 U54:Value}
  (aC_Ways:W.nsIn K mainGlobals "Ways" = some (some (.ref C_Ways))) (pg_Ways:W.plainGet K C_Ways Str.empty=true) (hd_Ways:W.hasDictIn K C_Ways=true) (po_Ways:W.plainOver K C_Ways=true) (sa_Ways:W.findIn K (.ref C_Ways) "__setattr__" = some (some (.builtin "object.__setattr__"))) (mk_Ways:W.makesIn K C_Ways=true) (kc_Ways:W.keepIn K (.ref C_Ways)=true)
  (n_Ways_names:W.findIn K (.ref C_Ways) "names" = some none)
  (n_Ways_bits:W.findIn K (.ref C_Ways) "bits" = some none)
  (n_Ways_ahead:W.findIn K (.ref C_Ways) "ahead" = some none)
  (n_Ways_full:W.findIn K (.ref C_Ways) "full" = some none)
  (n_Ways_known:W.findIn K (.ref C_Ways) "known" = some none)
  (cg:W.specialIn K (.builtin "object.__class__") "__get__" = some (some (.builtin "getset_descriptor.__get__"))) (ct:W.takesIn K (.builtin "object.__class__")=some true)
  (aX_HalfError:W.nsIn K mainGlobals "HalfError" = some (some (.ref C_HalfError)))
  (aX_NoHalf:W.nsIn K mainGlobals "NoHalf" = some (some (.ref C_NoHalf)))
  (aX_NoName:W.nsIn K mainGlobals "NoName" = some (some (.ref C_NoName)))
  (aX_NoJoin:W.nsIn K mainGlobals "NoJoin" = some (some (.ref C_NoJoin)))
  (aX_Clash:W.nsIn K mainGlobals "Clash" = some (some (.ref C_Clash)))
  (ex_HalfError:ag0 K C_HalfError=true) (sX_HalfError:W.findIn K (.ref C_HalfError) "__setattr__" = some (some (.builtin "object.__setattr__"))) (gX_HalfError:W.findIn K (.ref C_HalfError) "__getattribute__" = some (some (.builtin "BaseException.__getattribute__"))) (tX_HalfError:W.findIn K (.ref C_HalfError) "__getattr__" = some none) (lX_HalfError:W.findIn K (.ref C_HalfError) "__class__" = some (some (.builtin "object.__class__")))
  (no_HalfError:aJ5 K C_HalfError=true)
  (kX_HalfError:W.keepIn K (.ref C_HalfError)=true)
  (ex_NoHalf:ag0 K C_NoHalf=true) (sX_NoHalf:W.findIn K (.ref C_NoHalf) "__setattr__" = some (some (.builtin "object.__setattr__"))) (gX_NoHalf:W.findIn K (.ref C_NoHalf) "__getattribute__" = some (some (.builtin "BaseException.__getattribute__"))) (tX_NoHalf:W.findIn K (.ref C_NoHalf) "__getattr__" = some none) (lX_NoHalf:W.findIn K (.ref C_NoHalf) "__class__" = some (some (.builtin "object.__class__")))
  (mr_NoHalf:Sz K C_NoHalf C_HalfError=true)
  (kX_NoHalf:W.keepIn K (.ref C_NoHalf)=true)
  (nX_NoHalf_word:W.findIn K (.ref C_NoHalf) "word" = some none)
  (nX_NoHalf_number:W.findIn K (.ref C_NoHalf) "number" = some none)
  (ex_NoName:ag0 K C_NoName=true) (sX_NoName:W.findIn K (.ref C_NoName) "__setattr__" = some (some (.builtin "object.__setattr__"))) (gX_NoName:W.findIn K (.ref C_NoName) "__getattribute__" = some (some (.builtin "BaseException.__getattribute__"))) (tX_NoName:W.findIn K (.ref C_NoName) "__getattr__" = some none) (lX_NoName:W.findIn K (.ref C_NoName) "__class__" = some (some (.builtin "object.__class__")))
  (mr_NoName:Sz K C_NoName C_HalfError=true)
  (kX_NoName:W.keepIn K (.ref C_NoName)=true)
  (nX_NoName_name:W.findIn K (.ref C_NoName) "name" = some none)
  (ex_NoJoin:ag0 K C_NoJoin=true) (sX_NoJoin:W.findIn K (.ref C_NoJoin) "__setattr__" = some (some (.builtin "object.__setattr__"))) (gX_NoJoin:W.findIn K (.ref C_NoJoin) "__getattribute__" = some (some (.builtin "BaseException.__getattribute__"))) (tX_NoJoin:W.findIn K (.ref C_NoJoin) "__getattr__" = some none) (lX_NoJoin:W.findIn K (.ref C_NoJoin) "__class__" = some (some (.builtin "object.__class__")))
  (mr_NoJoin:Sz K C_NoJoin C_HalfError=true)
  (kX_NoJoin:W.keepIn K (.ref C_NoJoin)=true)
  (nX_NoJoin_word:W.findIn K (.ref C_NoJoin) "word" = some none)
  (ex_Clash:ag0 K C_Clash=true) (sX_Clash:W.findIn K (.ref C_Clash) "__setattr__" = some (some (.builtin "object.__setattr__"))) (gX_Clash:W.findIn K (.ref C_Clash) "__getattribute__" = some (some (.builtin "BaseException.__getattribute__"))) (tX_Clash:W.findIn K (.ref C_Clash) "__getattr__" = some none) (lX_Clash:W.findIn K (.ref C_Clash) "__class__" = some (some (.builtin "object.__class__")))
  (mr_Clash:Sz K C_Clash C_HalfError=true)
  (kX_Clash:W.keepIn K (.ref C_Clash)=true)
  (nX_Clash_way:W.findIn K (.ref C_Clash) "way" = some none)
  (ndX:([C_HalfError,C_Clash,C_NoHalf,C_NoJoin,C_NoName]:List Addr).Nodup)
  (a0:W.nsIn K mainGlobals "refuse_strangers" = some (some (.ref f0))) (l0:K.lookup f0=some ⟨O0,D0,.func (W.fnOf "refuse_strangers" "refuse_strangers" (Ab Bh) (Aa Bh) (A3 Bh) .none V0 E0 P0 N0 Q0 U0),S0⟩) (c0:W.codeIn K Q0 "refuse_strangers" = true) (k0:W.keepIn K (.ref f0)=true)
  (a1:W.nsIn K mainGlobals "behind_each" = some (some (.ref f1))) (l1:K.lookup f1=some ⟨O1,D1,.func (W.fnOf "behind_each" "behind_each" (Ab Di) (Aa Di) (A3 Di) .none V1 E1 P1 N1 Q1 U1),S1⟩) (c1:W.codeIn K Q1 "behind_each" = true) (k1:W.keepIn K (.ref f1)=true)
  (a2:W.nsIn K mainGlobals "behind" = some (some (.ref f2))) (l2:K.lookup f2=some ⟨O2,D2,.func (W.fnOf "behind" "behind" (Ab Jf) (Aa Jf) (A3 Jf) .none V2 E2 P2 N2 Q2 U2),S2⟩) (c2:W.codeIn K Q2 "behind" = true) (k2:W.keepIn K (.ref f2)=true)
  (a3:W.nsIn K mainGlobals "closed" = some (some (.ref f3))) (l3:K.lookup f3=some ⟨O3,D3,.func (W.fnOf "closed" "closed" (Ab Jg) (Aa Jg) (A3 Jg) .none V3 E3 P3 N3 Q3 U3),S3⟩) (c3:W.codeIn K Q3 "closed" = true) (k3:W.keepIn K (.ref f3)=true)
  (a4:W.nsIn K mainGlobals "has_third_between" = some (some (.ref f4))) (l4:K.lookup f4=some ⟨O4,D4,.func (W.fnOf "has_third_between" "has_third_between" (Ab Ba) (Aa Ba) (A3 Ba) .none V4 E4 P4 N4 Q4 U4),S4⟩) (c4:W.codeIn K Q4 "has_third_between" = true) (k4:W.keepIn K (.ref f4)=true)
  (a5:W.nsIn K mainGlobals "bare" = some (some (.ref f5))) (l5:K.lookup f5=some ⟨O5,D5,.func (W.fnOf "bare" "bare" (Ab Qh) (Aa Qh) (A3 Qh) .none V5 E5 P5 N5 Q5 U5),S5⟩) (c5:W.codeIn K Q5 "bare" = true) (k5:W.keepIn K (.ref f5)=true)
  (a6:W.nsIn K mainGlobals "are_untold" = some (some (.ref f6))) (l6:K.lookup f6=some ⟨O6,D6,.func (W.fnOf "are_untold" "are_untold" (Ab Ef) (Aa Ef) (A3 Ef) .none V6 E6 P6 N6 Q6 U6),S6⟩) (c6:W.codeIn K Q6 "are_untold" = true) (k6:W.keepIn K (.ref f6)=true)
  (a7:W.nsIn K mainGlobals "untold_of" = some (some (.ref f7))) (l7:K.lookup f7=some ⟨O7,D7,.func (W.fnOf "untold_of" "untold_of" (Ab Fb) (Aa Fb) (A3 Fb) .none V7 E7 P7 N7 Q7 U7),S7⟩) (c7:W.codeIn K Q7 "untold_of" = true) (k7:W.keepIn K (.ref f7)=true)
  (a8:W.nsIn K mainGlobals "untold" = some (some (.ref f8))) (l8:K.lookup f8=some ⟨O8,D8,.func (W.fnOf "untold" "untold" (Ab Jl) (Aa Jl) (A3 Jl) .none V8 E8 P8 N8 Q8 U8),S8⟩) (c8:W.codeIn K Q8 "untold" = true) (k8:W.keepIn K (.ref f8)=true)
  (a9:W.nsIn K mainGlobals "is_name" = some (some (.ref f9))) (l9:K.lookup f9=some ⟨O9,D9,.func (W.fnOf "is_name" "is_name" (Ab Hf) (Aa Hf) (A3 Hf) .none V9 E9 P9 N9 Q9 U9),S9⟩) (c9:W.codeIn K Q9 "is_name" = true) (k9:W.keepIn K (.ref f9)=true)
  (a10:W.nsIn K mainGlobals "are_unlike_names" = some (some (.ref f10))) (l10:K.lookup f10=some ⟨O10,D10,.func (W.fnOf "are_unlike_names" "are_unlike_names" (Ab Bg) (Aa Bg) (A3 Bg) .none V10 E10 P10 N10 Q10 U10),S10⟩) (c10:W.codeIn K Q10 "are_unlike_names" = true) (k10:W.keepIn K (.ref f10)=true)
  (a11:W.nsIn K mainGlobals "are_tale_names" = some (some (.ref f11))) (l11:K.lookup f11=some ⟨O11,D11,.func (W.fnOf "are_tale_names" "are_tale_names" (Ab C3) (Aa C3) (A3 C3) .none V11 E11 P11 N11 Q11 U11),S11⟩) (c11:W.codeIn K Q11 "are_tale_names" = true) (k11:W.keepIn K (.ref f11)=true)
  (a12:W.nsIn K mainGlobals "is_saying" = some (some (.ref f12))) (l12:K.lookup f12=some ⟨O12,D12,.func (W.fnOf "is_saying" "is_saying" (Ab Ew) (Aa Ew) (A3 Ew) .none V12 E12 P12 N12 Q12 U12),S12⟩) (c12:W.codeIn K Q12 "is_saying" = true) (k12:W.keepIn K (.ref f12)=true)
  (a13:W.nsIn K mainGlobals "is_tale_frame" = some (some (.ref f13))) (l13:K.lookup f13=some ⟨O13,D13,.func (W.fnOf "is_tale_frame" "is_tale_frame" (Ab Ci) (Aa Ci) (A3 Ci) .none V13 E13 P13 N13 Q13 U13),S13⟩) (c13:W.codeIn K Q13 "is_tale_frame" = true) (k13:W.keepIn K (.ref f13)=true)
  (a14:W.nsIn K mainGlobals "first_wrong_saying" = some (some (.ref f14))) (l14:K.lookup f14=some ⟨O14,D14,.func (W.fnOf "first_wrong_saying" "first_wrong_saying" (Ab B9) (Aa B9) (A3 B9) .none V14 E14 P14 N14 Q14 U14),S14⟩) (c14:W.codeIn K Q14 "first_wrong_saying" = true) (k14:W.keepIn K (.ref f14)=true)
  (a15:W.nsIn K mainGlobals "way_by_sayings" = some (some (.ref f15))) (l15:K.lookup f15=some ⟨O15,D15,.func (W.fnOf "way_by_sayings" "way_by_sayings" (Ab C2) (Aa C2) (A3 C2) .none V15 E15 P15 N15 Q15 U15),S15⟩) (c15:W.codeIn K Q15 "way_by_sayings" = true) (k15:W.keepIn K (.ref f15)=true)
  (a16:W.nsIn K mainGlobals "ring" = some (some (.ref f16))) (l16:K.lookup f16=some ⟨O16,D16,.func (W.fnOf "ring" "ring" (Ab Qr) (Aa Qr) (A3 Qr) .none V16 E16 P16 N16 Q16 U16),S16⟩) (c16:W.codeIn K Q16 "ring" = true) (k16:W.keepIn K (.ref f16)=true)
  (a17:W.nsIn K mainGlobals "right_half" = some (some (.ref f17))) (l17:K.lookup f17=some ⟨O17,D17,.func (W.fnOf "right_half" "right_half" (Ab Eh) (Aa Eh) (A3 Eh) .none V17 E17 P17 N17 Q17 U17),S17⟩) (c17:W.codeIn K Q17 "right_half" = true) (k17:W.keepIn K (.ref f17)=true)
  (a18:W.nsIn K mainGlobals "thinned" = some (some (.ref f18))) (l18:K.lookup f18=some ⟨O18,D18,.func (W.fnOf "thinned" "thinned" (Ab He) (Aa He) (A3 He) .none V18 E18 P18 N18 Q18 U18),S18⟩) (c18:W.codeIn K Q18 "thinned" = true) (k18:W.keepIn K (.ref f18)=true)
  (a19:W.nsIn K mainGlobals "joined_names" = some (some (.ref f19))) (l19:K.lookup f19=some ⟨O19,D19,.func (W.fnOf "joined_names" "joined_names" (Ab C8) (Aa C8) (A3 C8) .none V19 E19 P19 N19 Q19 U19),S19⟩) (c19:W.codeIn K Q19 "joined_names" = true) (k19:W.keepIn K (.ref f19)=true)
  (a20:W.nsIn K mainGlobals "above" = some (some (.ref f20))) (l20:K.lookup f20=some ⟨O20,D20,.func (W.fnOf "above" "above" (Ab K5) (Aa K5) (A3 K5) .none V20 E20 P20 N20 Q20 U20),S20⟩) (c20:W.codeIn K Q20 "above" = true) (k20:W.keepIn K (.ref f20)=true)
  (a21:W.nsIn K mainGlobals "beside" = some (some (.ref f21))) (l21:K.lookup f21=some ⟨O21,D21,.func (W.fnOf "beside" "beside" (Ab Hl) (Aa Hl) (A3 Hl) .none V21 E21 P21 N21 Q21 U21),S21⟩) (c21:W.codeIn K Q21 "beside" = true) (k21:W.keepIn K (.ref f21)=true)
  (a22:W.nsIn K mainGlobals "turned" = some (some (.ref f22))) (l22:K.lookup f22=some ⟨O22,D22,.func (W.fnOf "turned" "turned" (Ab Jb) (Aa Jb) (A3 Jb) .none V22 E22 P22 N22 Q22 U22),S22⟩) (c22:W.codeIn K Q22 "turned" = true) (k22:W.keepIn K (.ref f22)=true)
  (a23:W.nsIn K mainGlobals "only" = some (some (.ref f23))) (l23:K.lookup f23=some ⟨O23,D23,.func (W.fnOf "only" "only" (Ab Qs) (Aa Qs) (A3 Qs) .none V23 E23 P23 N23 Q23 U23),S23⟩) (c23:W.codeIn K Q23 "only" = true) (k23:W.keepIn K (.ref f23)=true)
  (a24:W.nsIn K mainGlobals "without" = some (some (.ref f24))) (l24:K.lookup f24=some ⟨O24,D24,.func (W.fnOf "without" "without" (Ab Hj) (Aa Hj) (A3 Hj) .none V24 E24 P24 N24 Q24 U24),S24⟩) (c24:W.codeIn K Q24 "without" = true) (k24:W.keepIn K (.ref f24)=true)
  (a25:W.nsIn K mainGlobals "called" = some (some (.ref f25))) (l25:K.lookup f25=some ⟨O25,D25,.func (W.fnOf "called" "called" (Ab Jk) (Aa Jk) (A3 Jk) .none V25 E25 P25 N25 Q25 U25),S25⟩) (c25:W.codeIn K Q25 "called" = true) (k25:W.keepIn K (.ref f25)=true)
  (a26:W.nsIn K mainGlobals "said" = some (some (.ref f26))) (l26:K.lookup f26=some ⟨O26,D26,.func (W.fnOf "said" "said" (Ab Qp) (Aa Qp) (A3 Qp) .none V26 E26 P26 N26 Q26 U26),S26⟩) (c26:W.codeIn K Q26 "said" = true) (k26:W.keepIn K (.ref f26)=true)
  (a27:W.nsIn K mainGlobals "bits_of" = some (some (.ref f27))) (l27:K.lookup f27=some ⟨O27,D27,.func (W.fnOf "bits_of" "bits_of" (Ab Hc) (Aa Hc) (A3 Hc) .none V27 E27 P27 N27 Q27 U27),S27⟩) (c27:W.codeIn K Q27 "bits_of" = true) (k27:W.keepIn K (.ref f27)=true)
  (a28:W.nsIn K mainGlobals "bits_ahead" = some (some (.ref f28))) (l28:K.lookup f28=some ⟨O28,D28,.func (W.fnOf "bits_ahead" "bits_ahead" (Ab Ed) (Aa Ed) (A3 Ed) .none V28 E28 P28 N28 Q28 U28),S28⟩) (c28:W.codeIn K Q28 "bits_ahead" = true) (k28:W.keepIn K (.ref f28)=true)
  (a29:W.nsIn K mainGlobals "count" = some (some (.ref f29))) (l29:K.lookup f29=some ⟨O29,D29,.func (W.fnOf "count" "count" (Ab Li) (Aa Li) (A3 Li) .none V29 E29 P29 N29 Q29 U29),S29⟩) (c29:W.codeIn K Q29 "count" = true) (k29:W.keepIn K (.ref f29)=true)
  (a30:W.nsIn K mainGlobals "share" = some (some (.ref f30))) (l30:K.lookup f30=some ⟨O30,D30,.func (W.fnOf "share" "share" (Ab L4) (Aa L4) (A3 L4) .none V30 E30 P30 N30 Q30 U30),S30⟩) (c30:W.codeIn K Q30 "share" = true) (k30:W.keepIn K (.ref f30)=true)
  (a31:W.nsIn K mainGlobals "one_place_on" = some (some (.ref f31))) (l31:K.lookup f31=some ⟨O31,D31,.func (W.fnOf "one_place_on" "one_place_on" (Ab Cu) (Aa Cu) (A3 Cu) .none V31 E31 P31 N31 Q31 U31),S31⟩) (c31:W.codeIn K Q31 "one_place_on" = true) (k31:W.keepIn K (.ref f31)=true)
  (a32:W.nsIn K mainGlobals "ways_by" = some (some (.ref f32))) (l32:K.lookup f32=some ⟨O32,D32,.func (W.fnOf "ways_by" "ways_by" (Ab Hb) (Aa Hb) (A3 Hb) .none V32 E32 P32 N32 Q32 U32),S32⟩) (c32:W.codeIn K Q32 "ways_by" = true) (k32:W.keepIn K (.ref f32)=true)
  (a33:W.nsIn K mainGlobals "places" = some (some (.ref f33))) (l33:K.lookup f33=some ⟨O33,D33,.func (W.fnOf "places" "places" (Ab Ja) (Aa Ja) (A3 Ja) .none V33 E33 P33 N33 Q33 U33),S33⟩) (c33:W.codeIn K Q33 "places" = true) (k33:W.keepIn K (.ref f33)=true)
  (a34:W.nsIn K mainGlobals "height" = some (some (.ref f34))) (l34:K.lookup f34=some ⟨O34,D34,.func (W.fnOf "height" "height" (Ab Jj) (Aa Jj) (A3 Jj) .none V34 E34 P34 N34 Q34 U34),S34⟩) (c34:W.codeIn K Q34 "height" = true) (k34:W.keepIn K (.ref f34)=true)
  (a35:W.nsIn K mainGlobals "_law_feed" = some (some (.ref f35))) (l35:K.lookup f35=some ⟨O35,D35,.func (W.fnOf "_law_feed" "_law_feed" (Ab Ey) (Aa Ey) (A3 Ey) .none V35 E35 P35 N35 Q35 U35),S35⟩) (c35:W.codeIn K Q35 "_law_feed" = true) (k35:W.keepIn K (.ref f35)=true)
  (a36:W.nsIn K mainGlobals "_law_draw" = some (some (.ref f36))) (l36:K.lookup f36=some ⟨O36,D36,.func (W.fnOf "_law_draw" "_law_draw" (Ab Ez) (Aa Ez) (A3 Ez) .none V36 E36 P36 N36 Q36 U36),S36⟩) (c36:W.codeIn K Q36 "_law_draw" = true) (k36:W.keepIn K (.ref f36)=true)
  (a37:W.nsIn K mainGlobals "_law_names" = some (some (.ref f37))) (l37:K.lookup f37=some ⟨O37,D37,.func (W.fnOf "_law_names" "_law_names" (Ab Ei) (Aa Ei) (A3 Ei) .none V37 E37 P37 N37 Q37 U37),S37⟩) (c37:W.codeIn K Q37 "_law_names" = true) (k37:W.keepIn K (.ref f37)=true)
  (a38:W.nsIn K mainGlobals "_law_shuffled" = some (some (.ref f38))) (l38:K.lookup f38=some ⟨O38,D38,.func (W.fnOf "_law_shuffled" "_law_shuffled" (Ab Ch) (Aa Ch) (A3 Ch) .none V38 E38 P38 N38 Q38 U38),S38⟩) (c38:W.codeIn K Q38 "_law_shuffled" = true) (k38:W.keepIn K (.ref f38)=true)
  (a39:W.nsIn K mainGlobals "_law_pairs" = some (some (.ref f39))) (l39:K.lookup f39=some ⟨O39,D39,.func (W.fnOf "_law_pairs" "_law_pairs" (Ab Ec) (Aa Ec) (A3 Ec) .none V39 E39 P39 N39 Q39 U39),S39⟩) (c39:W.codeIn K Q39 "_law_pairs" = true) (k39:W.keepIn K (.ref f39)=true)
  (a40:W.nsIn K mainGlobals "_law_sayings" = some (some (.ref f40))) (l40:K.lookup f40=some ⟨O40,D40,.func (W.fnOf "_law_sayings" "_law_sayings" (Ab Cr) (Aa Cr) (A3 Cr) .none V40 E40 P40 N40 Q40 U40),S40⟩) (c40:W.codeIn K Q40 "_law_sayings" = true) (k40:W.keepIn K (.ref f40)=true)
  (a41:W.nsIn K mainGlobals "_law_shuffles" = some (some (.ref f41))) (l41:K.lookup f41=some ⟨O41,D41,.func (W.fnOf "_law_shuffles" "_law_shuffles" (Ab Ck) (Aa Ck) (A3 Ck) .none V41 E41 P41 N41 Q41 U41),S41⟩) (c41:W.codeIn K Q41 "_law_shuffles" = true) (k41:W.keepIn K (.ref f41)=true)
  (a42:W.nsIn K mainGlobals "_law_apart" = some (some (.ref f42))) (l42:K.lookup f42=some ⟨O42,D42,.func (W.fnOf "_law_apart" "_law_apart" (Ab Dz) (Aa Dz) (A3 Dz) .none V42 E42 P42 N42 Q42 U42),S42⟩) (c42:W.codeIn K Q42 "_law_apart" = true) (k42:W.keepIn K (.ref f42)=true)
  (a43:W.nsIn K mainGlobals "_law_full" = some (some (.ref f43))) (l43:K.lookup f43=some ⟨O43,D43,.func (W.fnOf "_law_full" "_law_full" (Ab Fc) (Aa Fc) (A3 Fc) .none V43 E43 P43 N43 Q43 U43),S43⟩) (c43:W.codeIn K Q43 "_law_full" = true) (k43:W.keepIn K (.ref f43)=true)
  (a44:W.nsIn K mainGlobals "_law_refused" = some (some (.ref f44))) (l44:K.lookup f44=some ⟨O44,D44,.func (W.fnOf "_law_refused" "_law_refused" (Ab Cs) (Aa Cs) (A3 Cs) .none V44 E44 P44 N44 Q44 U44),S44⟩) (c44:W.codeIn K Q44 "_law_refused" = true) (k44:W.keepIn K (.ref f44)=true)
  (a45:W.nsIn K mainGlobals "_law_joined_right" = some (some (.ref f45))) (l45:K.lookup f45=some ⟨O45,D45,.func (W.fnOf "_law_joined_right" "_law_joined_right" (Ab Bb) (Aa Bb) (A3 Bb) .none V45 E45 P45 N45 Q45 U45),S45⟩) (c45:W.codeIn K Q45 "_law_joined_right" = true) (k45:W.keepIn K (.ref f45)=true)
  (a46:W.nsIn K mainGlobals "_law_one_right" = some (some (.ref f46))) (l46:K.lookup f46=some ⟨O46,D46,.func (W.fnOf "_law_one_right" "_law_one_right" (Ab C0) (Aa C0) (A3 C0) .none V46 E46 P46 N46 Q46 U46),S46⟩) (c46:W.codeIn K Q46 "_law_one_right" = true) (k46:W.keepIn K (.ref f46)=true)
  (a47:W.nsIn K mainGlobals "law" = some (some (.ref f47))) (l47:K.lookup f47=some ⟨O47,D47,.func (W.fnOf "law" "law" (Ab Rw) (Aa Rw) (A3 Rw) .none V47 E47 P47 N47 Q47 U47),S47⟩) (c47:W.codeIn K Q47 "law" = true) (k47:W.keepIn K (.ref f47)=true)
  (a48:W.findIn K (.ref C_Ways) "__init__" = some (some (.ref f48))) (i48:W.isFn K (.ref f48)=true) (l48:K.lookup f48=some ⟨O48,D48,.func (W.fnOf "__init__" "Ways.__init__" (Ab Fe) (Aa Fe) (A3 Fe) .none V48 E48 P48 N48 Q48 U48),S48⟩) (c48:W.codeIn K Q48 "Ways.__init__" = true) (k48:W.keepIn K (.ref f48)=true)
  (a49:W.findIn K (.ref C_Ways) "free_names" = some (some (.ref f49))) (i49:W.isFn K (.ref f49)=true) (l49:K.lookup f49=some ⟨O49,D49,.func (W.fnOf "free_names" "Ways.free_names" (Ab Bt) (Aa Bt) (A3 Bt) .none V49 E49 P49 N49 Q49 U49),S49⟩) (c49:W.codeIn K Q49 "Ways.free_names" = true) (k49:W.keepIn K (.ref f49)=true)
  (a50:W.findIn K (.ref C_Ways) "ways_on" = some (some (.ref f50))) (i50:W.isFn K (.ref f50)=true) (l50:K.lookup f50=some ⟨O50,D50,.func (W.fnOf "ways_on" "Ways.ways_on" (Ab Cc) (Aa Cc) (A3 Cc) .none V50 E50 P50 N50 Q50 U50),S50⟩) (c50:W.codeIn K Q50 "Ways.ways_on" = true) (k50:W.keepIn K (.ref f50)=true)
  (a51:W.findIn K (.ref C_NoHalf) "__init__" = some (some (.ref f51))) (i51:W.isFn K (.ref f51)=true) (l51:K.lookup f51=some ⟨O51,D51,.func (W.fnOf "__init__" "NoHalf.__init__" (Ab Df) (Aa Df) (A3 Df) .none V51 E51 P51 N51 Q51 U51),S51⟩) (c51:W.codeIn K Q51 "NoHalf.__init__" = true) (k51:W.keepIn K (.ref f51)=true)
  (a52:W.findIn K (.ref C_NoName) "__init__" = some (some (.ref f52))) (i52:W.isFn K (.ref f52)=true) (l52:K.lookup f52=some ⟨O52,D52,.func (W.fnOf "__init__" "NoName.__init__" (Ab Dg) (Aa Dg) (A3 Dg) .none V52 E52 P52 N52 Q52 U52),S52⟩) (c52:W.codeIn K Q52 "NoName.__init__" = true) (k52:W.keepIn K (.ref f52)=true)
  (a53:W.findIn K (.ref C_NoJoin) "__init__" = some (some (.ref f53))) (i53:W.isFn K (.ref f53)=true) (l53:K.lookup f53=some ⟨O53,D53,.func (W.fnOf "__init__" "NoJoin.__init__" (Ab De) (Aa De) (A3 De) .none V53 E53 P53 N53 Q53 U53),S53⟩) (c53:W.codeIn K Q53 "NoJoin.__init__" = true) (k53:W.keepIn K (.ref f53)=true)
  (a54:W.findIn K (.ref C_Clash) "__init__" = some (some (.ref f54))) (i54:W.isFn K (.ref f54)=true) (l54:K.lookup f54=some ⟨O54,D54,.func (W.fnOf "__init__" "Clash.__init__" (Ab Ea) (Aa Ea) (A3 Ea) .none V54 E54 P54 N54 Q54 U54),S54⟩) (c54:W.codeIn K Q54 "Clash.__init__" = true) (k54:W.keepIn K (.ref f54)=true)
  {t0:Tok} (g0:W.nsIn K mainGlobals "MOST_NAMES" = some (some (.int 10 t0)))
  {t1:Tok} (g1:W.nsIn K mainGlobals "MOST_SAYINGS" = some (some (.int 60 t1)))
  {t2:Tok} (g2:W.nsIn K mainGlobals "MOST_SIGNS" = some (some (.int 8 t2)))
  {t3:Tok} (g3:W.nsIn K mainGlobals "SMALL_LETTERS" = some (some (.str "abcdefghijklmnopqrstuvwxyz" t3)))
  (z0:W.nsIn K mainGlobals "all" = some none)
  (z1:W.nsIn K mainGlobals "any" = some none)
  (z2:W.nsIn K mainGlobals "dict" = some none)
  (z3:W.nsIn K mainGlobals "enumerate" = some none)
  (z4:W.nsIn K mainGlobals "int" = some none)
  (z5:W.nsIn K mainGlobals "isinstance" = some none)
  (z6:W.nsIn K mainGlobals "len" = some none)
  (z7:W.nsIn K mainGlobals "list" = some none)
  (z8:W.nsIn K mainGlobals "range" = some none)
  (z9:W.nsIn K mainGlobals "set" = some none)
  (z10:W.nsIn K mainGlobals "str" = some none)
  (z11:W.nsIn K mainGlobals "sum" = some none)
  (z12:W.nsIn K mainGlobals "tuple" = some none)
  (z13:W.nsIn K mainGlobals "zip" = some none)
  : ∃ fd:FuncData,(∀(s:Shared) (v:Value),BindsTo s fd ⟨[v],[]⟩ [("_law_script",v)])/\∀ base:Heap,K.In base->base.Ns mainGlobals mg->FnOk l.prog w K mg base CX0 18 fa fd ["_law_script"] (spLaw K):=by
 have e:=hfa.symm.trans (A07 X G a47)
 cases e;have T:Ej mg:=⟨⟨_,A07 X G g0,⟨_,rfl⟩⟩,⟨_,A07 X G g1,⟨_,rfl⟩⟩,⟨_,A07 X G g2,⟨_,rfl⟩⟩,⟨_,A07 X G g3,⟨_,rfl⟩⟩,A1D X G z0,A1D X G z1,A1D X G z2,A1D X G z3,A1D X G z4,A1D X G z5,A1D X G z6,A1D X G z7,A1D X G z8,A1D X G z9,A1D X G z10,A1D X G z11,A1D X G z12,A1D X G z13⟩;have F0:=Au (st:=Bh) l0 c0 k0;have b0:Binds K _ ["half","asked"] []:=C6 F0 λ_ _ _ _ _ _ _ _=>rfl;have F1:=Au (st:=Di) l1 c1 k1;have b1:Binds K _ ["half"] []:=Es F1 λ_ _ _ _ _ _ _=>rfl;have F2:=Au (st:=Jf) l2 c2 k2;have b2:Binds K _ ["half","name"] []:=C6 F2 λ_ _ _ _ _ _ _ _=>rfl;have F3:=Au (st:=Jg) l3 c3 k3;have b3:Binds K _ ["half"] []:=Es F3 λ_ _ _ _ _ _ _=>rfl;have F4:=Au (st:=Ba) l4 c4 k4;have b4:Binds K _ ["reach","pair"] []:=C6 F4 λ_ _ _ _ _ _ _ _=>rfl;have F5:=Au (st:=Qh) l5 c5 k5;have b5:Binds K _ ["half"] []:=Es F5 λ_ _ _ _ _ _ _=>rfl;have F6:=Au (st:=Ef) l6 c6 k6;have b6:Binds K _ ["reach","one","other"] []:=Mo F6 λ_ _ _ _ _ _ _ _ _=>rfl;have F7:=Au (st:=Fb) l7 c7 k7;have b7:Binds K _ ["reach"] []:=Es F7 λ_ _ _ _ _ _ _=>rfl;have F8:=Au (st:=Jl) l8 c8 k8;have b8:Binds K _ ["half"] []:=Es F8 λ_ _ _ _ _ _ _=>rfl;have F9:=Au (st:=Hf) l9 c9 k9;have b9:Binds K _ ["thing"] []:=Es F9 λ_ _ _ _ _ _ _=>rfl;have F10:=Au (st:=Bg) l10 c10 k10;have b10:Binds K _ ["thing"] []:=Es F10 λ_ _ _ _ _ _ _=>rfl;have F11:=Au (st:=C3) l11 c11 k11;have b11:Binds K _ ["thing"] []:=Es F11 λ_ _ _ _ _ _ _=>rfl;have F12:=Au (st:=Ew) l12 c12 k12;have b12:Binds K _ ["thing","names"] []:=C6 F12 λ_ _ _ _ _ _ _ _=>rfl;have F13:=Au (st:=Ci) l13 c13 k13;have b13:Binds K _ ["thing"] []:=Es F13 λ_ _ _ _ _ _ _=>rfl;have F14:=Au (st:=B9) l14 c14 k14;have b14:Binds K _ ["tale"] []:=Es F14 λ_ _ _ _ _ _ _=>rfl;have F15:=Au (st:=C2) l15 c15 k15;have b15:Binds K _ ["sayings","start","goal"] []:=Mo F15 λ_ _ _ _ _ _ _ _ _=>rfl;have F16:=Au (st:=Qr) l16 c16 k16;have b16:Binds K _ ["tale"] []:=Es F16 λ_ _ _ _ _ _ _=>rfl;have F17:=Au (st:=Eh) l17 c17 k17;have b17:Binds K _ ["thing"] []:=Es F17 λ_ _ _ _ _ _ _=>rfl;have F18:=Au (st:=He) l18 c18 k18;have b18:Binds K _ ["names","sayings"] []:=C6 F18 λ_ _ _ _ _ _ _ _=>rfl;have F19:=Au (st:=C8) l19 c19 k19;have b19:Binds K _ ["one","other"] []:=C6 F19 λ_ _ _ _ _ _ _ _=>rfl;have F20:=Au (st:=K5) l20 c20 k20;have b20:Binds K _ ["one","other"] []:=C6 F20 λ_ _ _ _ _ _ _ _=>rfl;have F21:=Au (st:=Hl) l21 c21 k21;have b21:Binds K _ ["one","other"] []:=C6 F21 λ_ _ _ _ _ _ _ _=>rfl;have F22:=Au (st:=Jb) l22 c22 k22;have b22:Binds K _ ["half"] []:=Es F22 λ_ _ _ _ _ _ _=>rfl;have F23:=Au (st:=Qs) l23 c23 k23;have b23:Binds K _ ["half","names"] []:=C6 F23 λ_ _ _ _ _ _ _ _=>rfl;have F24:=Au (st:=Hj) l24 c24 k24;have b24:Binds K _ ["half","name"] []:=C6 F24 λ_ _ _ _ _ _ _ _=>rfl;have F25:=Au (st:=Jk) l25 c25 k25;have b25:Binds K _ ["half","names"] []:=C6 F25 λ_ _ _ _ _ _ _ _=>rfl;have F26:=Au (st:=Qp) l26 c26 k26;have b26:Binds K _ ["half","name","other"] []:=Mo F26 λ_ _ _ _ _ _ _ _ _=>rfl;have F27:=Au (st:=Hc) l27 c27 k27;have b27:Binds K _ ["names"] []:=Es F27 λ_ _ _ _ _ _ _=>rfl;have F28:=Au (st:=Ed) l28 c28 k28;have b28:Binds K _ ["half","bits"] []:=C6 F28 λ_ _ _ _ _ _ _ _=>rfl;have F29:=Au (st:=Li) l29 c29 k29;have b29:Binds K _ ["half"] []:=Es F29 λ_ _ _ _ _ _ _=>rfl;have F30:=Au (st:=L4) l30 c30 k30;have b30:Binds K _ ["half","name","other"] []:=Mo F30 λ_ _ _ _ _ _ _ _ _=>rfl;have F31:=Au (st:=Cu) l31 c31 k31;have b31:Binds K _ ["ways","comings"] []:=C6 F31 λ_ _ _ _ _ _ _ _=>rfl;have F32:=Au (st:=Hb) l32 c32 k32;have b32:Binds K _ ["ways","comings","name"] []:=Mo F32 λ_ _ _ _ _ _ _ _ _=>rfl;have F33:=Au (st:=Ja) l33 c33 k33;have b33:Binds K _ ["half","name"] []:=C6 F33 λ_ _ _ _ _ _ _ _=>rfl;have F34:=Au (st:=Jj) l34 c34 k34;have b34:Binds K _ ["half","name"] []:=C6 F34 λ_ _ _ _ _ _ _ _=>rfl;have F35:=Au (st:=Ey) l35 c35 k35;have b35:Binds K _ ["_law_script"] []:=Es F35 λ_ _ _ _ _ _ _=>rfl;have F36:=Au (st:=Ez) l36 c36 k36;have b36:Binds K _ ["_law_feed_here","_law_many"] []:=C6 F36 λ_ _ _ _ _ _ _ _=>rfl;have F37:=Au (st:=Ei) l37 c37 k37;have b37:Binds K _ ["_law_feed_here","_law_many"] []:=C6 F37 λ_ _ _ _ _ _ _ _=>rfl;have F38:=Au (st:=Ch) l38 c38 k38;have b38:Binds K _ ["_law_feed_here","_law_some"] []:=C6 F38 λ_ _ _ _ _ _ _ _=>rfl;have F39:=Au (st:=Ec) l39 c39 k39;have b39:Binds K _ ["_law_feed_here","_law_line"] []:=C6 F39 λ_ _ _ _ _ _ _ _=>rfl;have F40:=Au (st:=Cr) l40 c40 k40;have b40:Binds K _ ["_law_feed_here","_law_line"] []:=C6 F40 λ_ _ _ _ _ _ _ _=>rfl;have F41:=Au (st:=Ck) l41 c41 k41;have b41:Binds K _ ["_law_many"] []:=Es F41 λ_ _ _ _ _ _ _=>rfl;have F42:=Au (st:=Dz) l42 c42 k42;have b42:Binds K _ ["_law_feed_here"] []:=Es F42 λ_ _ _ _ _ _ _=>rfl;have F43:=Au (st:=Fc) l43 c43 k43;have b43:Binds K _ ["_law_feed_here","_law_half"] []:=C6 F43 λ_ _ _ _ _ _ _ _=>rfl;have F44:=Au (st:=Cs) l44 c44 k44;have b44:Binds K _ ["_law_one","_law_other"] []:=C6 F44 λ_ _ _ _ _ _ _ _=>rfl;have F45:=Au (st:=Bb) l45 c45 k45;have b45:Binds K _ ["_law_feed_here","_law_one","_law_other"] []:=Mo F45 λ_ _ _ _ _ _ _ _ _=>rfl;have F46:=Au (st:=C0) l46 c46 k46;have b46:Binds K _ ["_law_feed_here","_law_half"] []:=C6 F46 λ_ _ _ _ _ _ _ _=>rfl;have F47:=Au (st:=Rw) l47 c47 k47;have F48:=Au (st:=Fe) l48 c48 k48;have b48:Binds K _ ["self","half"] []:=C6 F48 λ_ _ _ _ _ _ _ _=>rfl;have F49:=Au (st:=Bt) l49 c49 k49;have b49:Binds K _ ["self","left"] []:=C6 F49 λ_ _ _ _ _ _ _ _=>rfl;have F50:=Au (st:=Cc) l50 c50 k50;have b50:Binds K _ ["self","left"] []:=C6 F50 λ_ _ _ _ _ _ _ _=>rfl;have F51:=Au (st:=Df) l51 c51 k51;have b51:Binds K _ ["self","word","number"] []:=Mo F51 λ_ _ _ _ _ _ _ _ _=>rfl;have F52:=Au (st:=Dg) l52 c52 k52;have b52:Binds K _ ["self","name"] []:=C6 F52 λ_ _ _ _ _ _ _ _=>rfl;have F53:=Au (st:=De) l53 c53 k53;have b53:Binds K _ ["self","word"] []:=C6 F53 λ_ _ _ _ _ _ _ _=>rfl;have F54:=Au (st:=Ea) l54 c54 k54;have b54:Binds K _ ["self","way"] []:=C6 F54 λ_ _ _ _ _ _ _ _=>rfl;have k_Ways:Fx K C_Ways:=⟨⟨pg_Ways,hd_Ways,po_Ways,sa_Ways⟩,n_Ways_names,n_Ways_bits,n_Ways_ahead,n_Ways_full,n_Ways_known⟩;have x_HalfError:Bn K mg C_HalfError C_HalfError:=⟨⟨ex_HalfError,sX_HalfError,gX_HalfError,tX_HalfError,lX_HalfError,cg,ct⟩,A07 X G aX_HalfError,⟨⟨ex_HalfError,sX_HalfError,gX_HalfError,tX_HalfError,lX_HalfError,cg,ct⟩,no_HalfError,kX_HalfError,A07 X G aX_HalfError⟩⟩;have x_NoHalf:Px K mg C_NoHalf C_HalfError:=⟨⟨ex_NoHalf,sX_NoHalf,gX_NoHalf,tX_NoHalf,lX_NoHalf,cg,ct⟩,A07 X G aX_NoHalf,mr_NoHalf,nX_NoHalf_word,nX_NoHalf_number⟩;have x_NoName:G2 K mg C_NoName C_HalfError:=⟨⟨ex_NoName,sX_NoName,gX_NoName,tX_NoName,lX_NoName,cg,ct⟩,A07 X G aX_NoName,mr_NoName,nX_NoName_name⟩;have x_NoJoin:G1 K mg C_NoJoin C_HalfError:=⟨⟨ex_NoJoin,sX_NoJoin,gX_NoJoin,tX_NoJoin,lX_NoJoin,cg,ct⟩,A07 X G aX_NoJoin,mr_NoJoin,nX_NoJoin_word⟩;have x_Clash:Tx K mg C_Clash C_HalfError:=⟨⟨ex_Clash,sX_Clash,gX_Clash,tX_Clash,lX_Clash,cg,ct⟩,A07 X G aX_Clash,mr_Clash,nX_Clash_way⟩;refine⟨W.fnOf "law" "law" (Ab Rw) (Aa Rw) (A3 Rw) .none V47 E47 P47 N47 Q47 U47,λs v=>.of_eq rfl,λbase _ _=>?_⟩;have A9:Fnd l.prog w K mg base 1 "refuse_strangers" ["half","asked"] (B2 K):=⟨_,_,K6 F0 T,A07 X G a0,k0,b0⟩;have Aw:Fnd l.prog w K mg base 1 "behind_each" ["half"] (C9 K):=⟨_,_,Pq F1 T,A07 X G a1,k1,b1⟩;have Dy:Fnd l.prog w K mg base 1 "has_third_between" ["reach","pair"] (Dk K):=⟨_,_,Jr F4 T,A07 X G a4,k4,b4⟩;have Ij:Fnd l.prog w K mg base 1 "are_untold" ["reach","one","other"] (Hn K):=⟨_,_,Ru F6 T,A07 X G a6,k6,b6⟩;have Nd:Fnd l.prog w K mg base 1 "is_name" ["thing"] (Lg K):=⟨_,_,Z0 F9 T,A07 X G a9,k9,b9⟩;have Kc:Fnd l.prog w K mg base 1 "is_saying" ["thing","names"] (J1 K):=⟨_,_,Uv F12 T,A07 X G a12,k12,b12⟩;have C1:Fnd l.prog w K mg base 1 "way_by_sayings" ["sayings","start","goal"] (Dd K):=⟨_,_,Lk F15 T,A07 X G a15,k15,b15⟩;have Mp:Fnd l.prog w K mg base 1 "bits_of" ["names"] (L0 K):=⟨_,_,Zi F27 T,A07 X G a27,k27,b27⟩;have Ka:Fnd l.prog w K mg base 1 "_law_feed" ["_law_script"] (J7 K):=⟨_,_,T8 F35 T,A07 X G a35,k35,b35⟩;have A8:Fnd l.prog w K mg base 1 "_law_draw" ["_law_feed_here","_law_many"] (Br K):=⟨_,_,Sy F36 T,A07 X G a36,k36,b36⟩;have Dc:Fnd l.prog w K mg base 1 "_law_shuffles" ["_law_many"] (Fo K):=⟨_,_,M5 F41 T,A07 X G a41,k41,b41⟩;have As:Mtd l.prog w K mg base 1 C_Ways "free_names" ["self","left"] (Bj C_Ways K):=⟨_,_,Kw F49 T k_Ways,⟨a49,i49,k49⟩,b49⟩;have aj2:Mkx l.prog w K mg base 1 C_NoHalf "NoHalf" ["self","word","number"] (spX C_NoHalf ["word","number"]):=⟨_,_,Pn F51 T x_HalfError x_NoHalf,x_NoHalf.xc,a51,i51,kX_NoHalf,A07 X G aX_NoHalf,b51⟩;have ah0:Mkx l.prog w K mg base 1 C_NoName "NoName" ["self","name"] (spX C_NoName ["name"]):=⟨_,_,Pu F52 T x_HalfError x_NoName,x_NoName.xc,a52,i52,kX_NoName,A07 X G aX_NoName,b52⟩;have Fv:Mkx l.prog w K mg base 1 C_NoJoin "NoJoin" ["self","word"] (spX C_NoJoin ["word"]):=⟨_,_,Pk F53 T x_HalfError x_NoJoin,x_NoJoin.xc,a53,i53,kX_NoJoin,A07 X G aX_NoJoin,b53⟩;have ao0:Mkx l.prog w K mg base 1 C_Clash "Clash" ["self","way"] (spX C_Clash ["way"]):=⟨_,_,Sd F54 T x_HalfError x_Clash,x_Clash.xc,a54,i54,kX_Clash,A07 X G aX_Clash,b54⟩;have R5:Fnd l.prog w K mg base 2 "behind" ["half","name"] (Nj K):=⟨_,_,a08 F2 T A9 Aw,A07 X G a2,k2,b2⟩;have Jd:Fnd l.prog w K mg base 2 "closed" ["half"] (Kq K):=⟨_,_,a80 F3 T Aw,A07 X G a3,k3,b3⟩;have Jz:Fnd l.prog w K mg base 2 "untold_of" ["reach"] (Ih K):=⟨_,_,Uy F7 T Ij,A07 X G a7,k7,b7⟩;have Bk:Fnd l.prog w K mg base 2 "are_unlike_names" ["thing"] (Bu K):=⟨_,_,K7 F10 T Nd,A07 X G a10,k10,b10⟩;have Dm:Fnd l.prog w K mg base 2 "first_wrong_saying" ["tale"] (Db K):=⟨_,_,Ir F14 T Kc,A07 X G a14,k14,b14⟩;have ae6:Fnd l.prog w K mg base 2 "ring" ["tale"] (Vx K):=⟨_,_,au8 F16 T C1,A07 X G a16,k16,b16⟩;have J6:Fnd l.prog w K mg base 2 "bits_ahead" ["half","bits"] (Hx K):=⟨_,_,R6 F28 T Aw,A07 X G a28,k28,b28⟩;have Gy:Fnd l.prog w K mg base 2 "one_place_on" ["ways","comings"] (G4 C_Ways K):=⟨_,_,Og F31 T k_Ways As,A07 X G a31,k31,b31⟩;have Ee:Fnd l.prog w K mg base 2 "_law_names" ["_law_feed_here","_law_many"] (Fw K):=⟨_,_,Qx F37 T A8,A07 X G a37,k37,b37⟩;have Bw:Fnd l.prog w K mg base 2 "_law_shuffled" ["_law_feed_here","_law_some"] (Du K):=⟨_,_,M6 F38 T A8,A07 X G a38,k38,b38⟩;have Io:Fnd l.prog w K mg base 2 "_law_pairs" ["_law_feed_here","_law_line"] (Hq K):=⟨_,_,Sc F39 T A8,A07 X G a39,k39,b39⟩;have Hm:Fnd l.prog w K mg base 2 "_law_full" ["_law_feed_here","_law_half"] (J0 K):=⟨_,_,Vb F43 T A8,A07 X G a43,k43,b43⟩;have a56:Fnd l.prog w K mg base 3 "bare" ["half"] (Vr K):=⟨_,_,az0 F5 T Aw Jd Dy,A07 X G a5,k5,b5⟩;have Qv:Fnd l.prog w K mg base 3 "untold" ["half"] (Oy K):=⟨_,_,a74 F8 T Aw Jz,A07 X G a8,k8,b8⟩;have Fp:Fnd l.prog w K mg base 3 "are_tale_names" ["thing"] (Fd K):=⟨_,_,L9 F11 T Bk,A07 X G a11,k11,b11⟩;have Ct:Fnd l.prog w K mg base 3 "joined_names" ["one","other"] (Eo K):=⟨_,_,Pe F19 T,A07 X G a19,k19,b19⟩;have Co:ag9 l.prog w K mg base 3 "joined_names" ["one","other"] (Bz C_NoJoin K):=⟨_,_,M4 F19 T x_HalfError x_NoName x_NoJoin Fv,A07 X G a19,k19,b19⟩;have Fg:Fnd l.prog w K mg base 3 "_law_sayings" ["_law_feed_here","_law_line"] (Gf K):=⟨_,_,Nb F40 T A8 Io,A07 X G a40,k40,b40⟩;have Fa:Mkd l.prog w K mg base 3 C_Ways "Ways" ["self","half"] (Gs C_Ways K):=⟨_,_,Ts F48 T k_Ways Mp J6,⟨mk_Ways,a48,i48,kc_Ways⟩,A07 X G aC_Ways,b48⟩;have Gg:Fnd l.prog w K mg base 4 "is_tale_frame" ["thing"] (Fq K):=⟨_,_,M7 F13 T Fp,A07 X G a13,k13,b13⟩;have B0:Fnd l.prog w K mg base 4 "thinned" ["names","sayings"] (Cq K):=⟨_,_,Ye F18 T a56,A07 X G a18,k18,b18⟩;have J5:Fnd l.prog w K mg base 4 "_law_apart" ["_law_feed_here"] (Hs K):=⟨_,_,Rl F42 T A8 Ee Bw Fg,A07 X G a42,k42,b42⟩;have C5:Fnd l.prog w K mg base 5 "right_half" ["thing"] (Ft K):=⟨_,_,Rz F17 T Gg Dm ae6,A07 X G a17,k17,b17⟩;have Vi:Fnd l.prog w K mg base 5 "above" ["one","other"] (Rr K):=⟨_,_,ai3 F20 T B0 Ct,A07 X G a20,k20,b20⟩;have W4:ag9 l.prog w K mg base 5 "above" ["one","other"] (Mt C_NoJoin K):=⟨_,_,af6 F20 T x_HalfError x_NoName x_NoJoin B0 Co,A07 X G a20,k20,b20⟩;have Rn:Fnd l.prog w K mg base 5 "beside" ["one","other"] (Ot K):=⟨_,_,ad7 F21 T B0 Ct,A07 X G a21,k21,b21⟩;have R1:ag9 l.prog w K mg base 5 "beside" ["one","other"] (Lh C_NoJoin K):=⟨_,_,Yf F21 T x_HalfError x_NoName x_NoJoin B0 Co,A07 X G a21,k21,b21⟩;have Sa:Fnd l.prog w K mg base 5 "turned" ["half"] (Oj K):=⟨_,_,Zm F22 T B0,A07 X G a22,k22,b22⟩;have a05:Fnd l.prog w K mg base 5 "only" ["half","names"] (Vn K):=⟨_,_,aB5 F23 T A9 Jd B0,A07 X G a23,k23,b23⟩;have R7:Fnd l.prog w K mg base 5 "called" ["half","names"] (My K):=⟨_,_,aa3 F25 T Bk B0,A07 X G a25,k25,b25⟩;have Tc:Fnd l.prog w K mg base 5 "said" ["half","name","other"] (Vp K):=⟨_,_,aB6 F26 T A9 C1 B0,A07 X G a26,k26,b26⟩;have Nw:Fnd l.prog w K mg base 6 "without" ["half","name"] (Lc K):=⟨_,_,Zc F24 T A9 a05,A07 X G a24,k24,b24⟩;have Gv:Fnd l.prog w K mg base 6 "_law_refused" ["_law_one","_law_other"] (Ge K):=⟨_,_,Oa F44 T x_HalfError x_NoName x_NoJoin ndX W4 R1,A07 X G a44,k44,b44⟩;have Bo:Mtd l.prog w K mg base 13 C_Ways "ways_on" ["self","left"] (Ek C_Ways K):=⟨_,_,Ny F50 T k_Ways As ⟨a50,i50,k50⟩ b50,⟨a50,i50,k50⟩,b50⟩;have Cj:Fnd l.prog w K mg base 14 "count" ["half"] (Kr K):=⟨_,_,ag4 F29 T k_Ways Fa Bo,A07 X G a29,k29,b29⟩;have Nh:Fnd l.prog w K mg base 14 "ways_by" ["ways","comings","name"] (La C_Ways K):=⟨_,_,Zf F32 T k_Ways As Bo,A07 X G a32,k32,b32⟩;have G9:Fnd l.prog w K mg base 15 "share" ["half","name","other"] (M8 K):=⟨_,_,ag5 F30 T A9 Cj,A07 X G a30,k30,b30⟩;have Rj:Fnd l.prog w K mg base 15 "places" ["half","name"] (Oi K):=⟨_,_,a71 F33 T k_Ways A9 Gy Nh Fa,A07 X G a33,k33,b33⟩;have Mj:Fnd l.prog w K mg base 16 "height" ["half","name"] (Mx K):=⟨_,_,Zu F34 T Rj,A07 X G a34,k34,b34⟩;have Ds:Fnd l.prog w K mg base 16 "_law_one_right" ["_law_feed_here","_law_half"] (Ff K):=⟨_,_,Le F46 T R5 Qv C5 Sa Nw R7 Tc Cj G9 Ee,A07 X G a46,k46,b46⟩;have Dw:Fnd l.prog w K mg base 17 "_law_joined_right" ["_law_feed_here","_law_one","_law_other"] (Dj K):=⟨_,_,Jp F45 T C5 Vi Rn Cj G9 Mj A8 Bw Dc,A07 X G a45,k45,b45⟩;exact aH5 F47 T Ka A8 J5 Hm Gv Dw Ds
theorem walk {l:W.OpenLaw}{q:Program}{loose:List Str}{XP:(Str->Option Value)->Heap->Prop}{YP:World->Heap->Prop}{d:DefRec}{K:Params->W.Frag}(hn:l.most=some 63)(hdf:d.params.defaults=[])
  (hY:∀(w:World) (h:Heap),YP w h->(K w.params).In h)
  (F:∀(w:World) (mg:Str->Option Value) (fa:Addr) (h:Heap),(K w.params).In h->h.Ns mainGlobals mg->mg d.name=some (.ref fa) ->
   ∃ fd:FuncData,(∀(s:Shared) (u:Value),BindsTo s fd ⟨[u],[]⟩ [("_law_script",u)])/\∀ base:Heap,(K w.params).In base->base.Ns mainGlobals mg->FnOk l.prog w (K w.params) mg base CX0 18 fa fd ["_law_script"] (spLaw (K w.params))) :
  W.WalkO q loose XP YP l.row.toRowW d [] (λf vs=>PySem.call f vs):=
 L2.walk_of (n:=63) (k:=18) (x:="_law_script") (CX:=λ_=>CX0) (sp:=λw=>spLaw (K w.params)) hn ∅ hdf ⟨rfl,by decide,by decide,rfl⟩ hY F (λ_ _ a ns hl _ hS=>⟨a,ns,rfl,hS,hl,λ_=>rfl⟩) λ_ _ _ _ _ z=>z
end K92
theorem PySem.W.Fast.tw4272977346079761167 : True := trivial
theorem PySem.W.Fast.tw15868539106140471581 : True := trivial
theorem PySem.W.Fast.tw3416221002491318589 : True := trivial
theorem PySem.W.Fast.tw17367023676839142161 : True := trivial
theorem PySem.W.Fast.tw17982927965997263553 : True := trivial
theorem PySem.W.Fast.tw4049855218630527800 : True := trivial
theorem PySem.W.Fast.tw1261584612785163433 : True := trivial
theorem PySem.W.Fast.tw3108562557597901560 : True := trivial
theorem PySem.W.Fast.tw18073175684419009363 : True := trivial
theorem PySem.W.Fast.tw8077806646429552942 : True := trivial
theorem PySem.W.Fast.tw13161789445476510550 : True := trivial
theorem PySem.W.Fast.tw13966315013059691790 : True := trivial
theorem PySem.W.Fast.tw1292344987984276377 : True := trivial
theorem PySem.W.Fast.tw4958447969814650153 : True := trivial
theorem PySem.W.Fast.tw14677054468462893426 : True := trivial
theorem PySem.W.Fast.tw11721084239053628449 : True := trivial
theorem PySem.W.Fast.tw12184406284917783590 : True := trivial
theorem PySem.W.Fast.tw7622853902757766991 : True := trivial
theorem PySem.W.Fast.tw14200493773984286627 : True := trivial
theorem PySem.W.Fast.tw13895693067968344779 : True := trivial
theorem PySem.W.Fast.tw10044301873723161103 : True := trivial
theorem PySem.W.Fast.tw10870961540821019400 : True := trivial
theorem PySem.W.Fast.tw6910452239657804858 : True := trivial
theorem PySem.W.Fast.tw11895168938738602301 : True := trivial
theorem PySem.W.Fast.tw9396360219869902045 : True := trivial
theorem PySem.W.Fast.tw2973673029095684040 : True := trivial
theorem PySem.W.Fast.tw10026515119772105276 : True := trivial
theorem PySem.W.Fast.tw6561377080384088120 : True := trivial
open PySem PySem.W PyProof.Rows
set_option maxRecDepth 100000 in
set_option maxHeartbeats 0 in
theorem PySem.Challenge.cw_halforder_k92_whole_sums_holds : PySem.Challenge.rw_halforder_k92_whole_sums.Holds := by
 w_on;o_law;k_head;(case hw=>w_witness2)
 k_fill
 refine K92.walk (l:=PySem.Challenge.rw_halforder_k92_whole_sums) rfl rfl (λw h Y=>PySem.W.kIn_of Y) ?F
 case F=>
  intro w mg fa h KX G hmg;refine' K92.all_mk KX G hmg ?q_aC_Ways ?q_pg_Ways ?q_hd_Ways ?q_po_Ways ?q_sa_Ways ?q_mk_Ways ?q_kc_Ways ?q_n_Ways_names ?q_n_Ways_bits ?q_n_Ways_ahead ?q_n_Ways_full ?q_n_Ways_known ?q_cg ?q_ct ?q_aX_HalfError ?q_aX_NoHalf ?q_aX_NoName ?q_aX_NoJoin ?q_aX_Clash ?q_ex_HalfError ?q_sX_HalfError ?q_gX_HalfError ?q_tX_HalfError ?q_lX_HalfError ?q_no_HalfError ?q_kX_HalfError ?q_ex_NoHalf ?q_sX_NoHalf ?q_gX_NoHalf ?q_tX_NoHalf ?q_lX_NoHalf ?q_mr_NoHalf ?q_kX_NoHalf ?q_nX_NoHalf_word ?q_nX_NoHalf_number ?q_ex_NoName ?q_sX_NoName ?q_gX_NoName ?q_tX_NoName ?q_lX_NoName ?q_mr_NoName ?q_kX_NoName ?q_nX_NoName_name ?q_ex_NoJoin ?q_sX_NoJoin ?q_gX_NoJoin ?q_tX_NoJoin ?q_lX_NoJoin ?q_mr_NoJoin ?q_kX_NoJoin ?q_nX_NoJoin_word ?q_ex_Clash ?q_sX_Clash ?q_gX_Clash ?q_tX_Clash ?q_lX_Clash ?q_mr_Clash ?q_kX_Clash ?q_nX_Clash_way ?q_ndX ?q_a0 ?q_l0 ?q_c0 ?q_k0 ?q_a1 ?q_l1 ?q_c1 ?q_k1 ?q_a2 ?q_l2 ?q_c2 ?q_k2 ?q_a3 ?q_l3 ?q_c3 ?q_k3 ?q_a4 ?q_l4 ?q_c4 ?q_k4 ?q_a5 ?q_l5 ?q_c5 ?q_k5 ?q_a6 ?q_l6 ?q_c6 ?q_k6 ?q_a7 ?q_l7 ?q_c7 ?q_k7 ?q_a8 ?q_l8 ?q_c8 ?q_k8 ?q_a9 ?q_l9 ?q_c9 ?q_k9 ?q_a10 ?q_l10 ?q_c10 ?q_k10 ?q_a11 ?q_l11 ?q_c11 ?q_k11 ?q_a12 ?q_l12 ?q_c12 ?q_k12 ?q_a13 ?q_l13 ?q_c13 ?q_k13 ?q_a14 ?q_l14 ?q_c14 ?q_k14 ?q_a15 ?q_l15 ?q_c15 ?q_k15 ?q_a16 ?q_l16 ?q_c16 ?q_k16 ?q_a17 ?q_l17 ?q_c17 ?q_k17 ?q_a18 ?q_l18 ?q_c18 ?q_k18 ?q_a19 ?q_l19 ?q_c19 ?q_k19 ?q_a20 ?q_l20 ?q_c20 ?q_k20 ?q_a21 ?q_l21 ?q_c21 ?q_k21 ?q_a22 ?q_l22 ?q_c22 ?q_k22 ?q_a23 ?q_l23 ?q_c23 ?q_k23 ?q_a24 ?q_l24 ?q_c24 ?q_k24 ?q_a25 ?q_l25 ?q_c25 ?q_k25 ?q_a26 ?q_l26 ?q_c26 ?q_k26 ?q_a27 ?q_l27 ?q_c27 ?q_k27 ?q_a28 ?q_l28 ?q_c28 ?q_k28 ?q_a29 ?q_l29 ?q_c29 ?q_k29 ?q_a30 ?q_l30 ?q_c30 ?q_k30 ?q_a31 ?q_l31 ?q_c31 ?q_k31 ?q_a32 ?q_l32 ?q_c32 ?q_k32 ?q_a33 ?q_l33 ?q_c33 ?q_k33 ?q_a34 ?q_l34 ?q_c34 ?q_k34 ?q_a35 ?q_l35 ?q_c35 ?q_k35 ?q_a36 ?q_l36 ?q_c36 ?q_k36 ?q_a37 ?q_l37 ?q_c37 ?q_k37 ?q_a38 ?q_l38 ?q_c38 ?q_k38 ?q_a39 ?q_l39 ?q_c39 ?q_k39 ?q_a40 ?q_l40 ?q_c40 ?q_k40 ?q_a41 ?q_l41 ?q_c41 ?q_k41 ?q_a42 ?q_l42 ?q_c42 ?q_k42 ?q_a43 ?q_l43 ?q_c43 ?q_k43 ?q_a44 ?q_l44 ?q_c44 ?q_k44 ?q_a45 ?q_l45 ?q_c45 ?q_k45 ?q_a46 ?q_l46 ?q_c46 ?q_k46 ?q_a47 ?q_l47 ?q_c47 ?q_k47 ?q_a48 ?q_i48 ?q_l48 ?q_c48 ?q_k48 ?q_a49 ?q_i49 ?q_l49 ?q_c49 ?q_k49 ?q_a50 ?q_i50 ?q_l50 ?q_c50 ?q_k50 ?q_a51 ?q_i51 ?q_l51 ?q_c51 ?q_k51 ?q_a52 ?q_i52 ?q_l52 ?q_c52 ?q_k52 ?q_a53 ?q_i53 ?q_l53 ?q_c53 ?q_k53 ?q_a54 ?q_i54 ?q_l54 ?q_c54 ?q_k54 ?q_g0 ?q_g1 ?q_g2 ?q_g3 ?q_z0 ?q_z1 ?q_z2 ?q_z3 ?q_z4 ?q_z5 ?q_z6 ?q_z7 ?q_z8 ?q_z9 ?q_z10 ?q_z11 ?q_z12 ?q_z13
  (case q_aC_Ways=>k_is)
  (case q_pg_Ways=>k_is)
  (case q_hd_Ways=>k_is)
  (case q_po_Ways=>k_is)
  (case q_sa_Ways=>k_is)
  (case q_mk_Ways=>k_is)
  (case q_kc_Ways=>k_is)
  (case q_n_Ways_names=>k_is)
  (case q_n_Ways_bits=>k_is)
  (case q_n_Ways_ahead=>k_is)
  (case q_n_Ways_full=>k_is)
  (case q_n_Ways_known=>k_is)
  (case q_cg=>k_is)
  (case q_ct=>k_is)
  (case q_aX_HalfError=>k_is)
  (case q_aX_NoHalf=>k_is)
  (case q_aX_NoName=>k_is)
  (case q_aX_NoJoin=>k_is)
  (case q_aX_Clash=>k_is)
  (case q_ex_HalfError=>kernel_rfl)
  (case q_sX_HalfError=>k_is)
  (case q_gX_HalfError=>k_is)
  (case q_tX_HalfError=>k_is)
  (case q_lX_HalfError=>k_is)
  (case q_no_HalfError=>kernel_rfl)
  (case q_kX_HalfError=>k_is)
  (case q_ex_NoHalf=>kernel_rfl)
  (case q_sX_NoHalf=>k_is)
  (case q_gX_NoHalf=>k_is)
  (case q_tX_NoHalf=>k_is)
  (case q_lX_NoHalf=>k_is)
  (case q_mr_NoHalf=>kernel_rfl)
  (case q_kX_NoHalf=>k_is)
  (case q_nX_NoHalf_word=>k_is)
  (case q_nX_NoHalf_number=>k_is)
  (case q_ex_NoName=>kernel_rfl)
  (case q_sX_NoName=>k_is)
  (case q_gX_NoName=>k_is)
  (case q_tX_NoName=>k_is)
  (case q_lX_NoName=>k_is)
  (case q_mr_NoName=>kernel_rfl)
  (case q_kX_NoName=>k_is)
  (case q_nX_NoName_name=>k_is)
  (case q_ex_NoJoin=>kernel_rfl)
  (case q_sX_NoJoin=>k_is)
  (case q_gX_NoJoin=>k_is)
  (case q_tX_NoJoin=>k_is)
  (case q_lX_NoJoin=>k_is)
  (case q_mr_NoJoin=>kernel_rfl)
  (case q_kX_NoJoin=>k_is)
  (case q_nX_NoJoin_word=>k_is)
  (case q_ex_Clash=>kernel_rfl)
  (case q_sX_Clash=>k_is)
  (case q_gX_Clash=>k_is)
  (case q_tX_Clash=>k_is)
  (case q_lX_Clash=>k_is)
  (case q_mr_Clash=>kernel_rfl)
  (case q_kX_Clash=>k_is)
  (case q_nX_Clash_way=>k_is)
  (case q_ndX=>decide)
  (case q_a0=>k_is)
  (case q_l0=>k_is)
  (case q_c0=>k_is)
  (case q_k0=>k_is)
  (case q_a1=>k_is)
  (case q_l1=>k_is)
  (case q_c1=>k_is)
  (case q_k1=>k_is)
  (case q_a2=>k_is)
  (case q_l2=>k_is)
  (case q_c2=>k_is)
  (case q_k2=>k_is)
  (case q_a3=>k_is)
  (case q_l3=>k_is)
  (case q_c3=>k_is)
  (case q_k3=>k_is)
  (case q_a4=>k_is)
  (case q_l4=>k_is)
  (case q_c4=>k_is)
  (case q_k4=>k_is)
  (case q_a5=>k_is)
  (case q_l5=>k_is)
  (case q_c5=>k_is)
  (case q_k5=>k_is)
  (case q_a6=>k_is)
  (case q_l6=>k_is)
  (case q_c6=>k_is)
  (case q_k6=>k_is)
  (case q_a7=>k_is)
  (case q_l7=>k_is)
  (case q_c7=>k_is)
  (case q_k7=>k_is)
  (case q_a8=>k_is)
  (case q_l8=>k_is)
  (case q_c8=>k_is)
  (case q_k8=>k_is)
  (case q_a9=>k_is)
  (case q_l9=>k_is)
  (case q_c9=>k_is)
  (case q_k9=>k_is)
  (case q_a10=>k_is)
  (case q_l10=>k_is)
  (case q_c10=>k_is)
  (case q_k10=>k_is)
  (case q_a11=>k_is)
  (case q_l11=>k_is)
  (case q_c11=>k_is)
  (case q_k11=>k_is)
  (case q_a12=>k_is)
  (case q_l12=>k_is)
  (case q_c12=>k_is)
  (case q_k12=>k_is)
  (case q_a13=>k_is)
  (case q_l13=>k_is)
  (case q_c13=>k_is)
  (case q_k13=>k_is)
  (case q_a14=>k_is)
  (case q_l14=>k_is)
  (case q_c14=>k_is)
  (case q_k14=>k_is)
  (case q_a15=>k_is)
  (case q_l15=>k_is)
  (case q_c15=>k_is)
  (case q_k15=>k_is)
  (case q_a16=>k_is)
  (case q_l16=>k_is)
  (case q_c16=>k_is)
  (case q_k16=>k_is)
  (case q_a17=>k_is)
  (case q_l17=>k_is)
  (case q_c17=>k_is)
  (case q_k17=>k_is)
  (case q_a18=>k_is)
  (case q_l18=>k_is)
  (case q_c18=>k_is)
  (case q_k18=>k_is)
  (case q_a19=>k_is)
  (case q_l19=>k_is)
  (case q_c19=>k_is)
  (case q_k19=>k_is)
  (case q_a20=>k_is)
  (case q_l20=>k_is)
  (case q_c20=>k_is)
  (case q_k20=>k_is)
  (case q_a21=>k_is)
  (case q_l21=>k_is)
  (case q_c21=>k_is)
  (case q_k21=>k_is)
  (case q_a22=>k_is)
  (case q_l22=>k_is)
  (case q_c22=>k_is)
  (case q_k22=>k_is)
  (case q_a23=>k_is)
  (case q_l23=>k_is)
  (case q_c23=>k_is)
  (case q_k23=>k_is)
  (case q_a24=>k_is)
  (case q_l24=>k_is)
  (case q_c24=>k_is)
  (case q_k24=>k_is)
  (case q_a25=>k_is)
  (case q_l25=>k_is)
  (case q_c25=>k_is)
  (case q_k25=>k_is)
  (case q_a26=>k_is)
  (case q_l26=>k_is)
  (case q_c26=>k_is)
  (case q_k26=>k_is)
  (case q_a27=>k_is)
  (case q_l27=>k_is)
  (case q_c27=>k_is)
  (case q_k27=>k_is)
  (case q_a28=>k_is)
  (case q_l28=>k_is)
  (case q_c28=>k_is)
  (case q_k28=>k_is)
  (case q_a29=>k_is)
  (case q_l29=>k_is)
  (case q_c29=>k_is)
  (case q_k29=>k_is)
  (case q_a30=>k_is)
  (case q_l30=>k_is)
  (case q_c30=>k_is)
  (case q_k30=>k_is)
  (case q_a31=>k_is)
  (case q_l31=>k_is)
  (case q_c31=>k_is)
  (case q_k31=>k_is)
  (case q_a32=>k_is)
  (case q_l32=>k_is)
  (case q_c32=>k_is)
  (case q_k32=>k_is)
  (case q_a33=>k_is)
  (case q_l33=>k_is)
  (case q_c33=>k_is)
  (case q_k33=>k_is)
  (case q_a34=>k_is)
  (case q_l34=>k_is)
  (case q_c34=>k_is)
  (case q_k34=>k_is)
  (case q_a35=>k_is)
  (case q_l35=>k_is)
  (case q_c35=>k_is)
  (case q_k35=>k_is)
  (case q_a36=>k_is)
  (case q_l36=>k_is)
  (case q_c36=>k_is)
  (case q_k36=>k_is)
  (case q_a37=>k_is)
  (case q_l37=>k_is)
  (case q_c37=>k_is)
  (case q_k37=>k_is)
  (case q_a38=>k_is)
  (case q_l38=>k_is)
  (case q_c38=>k_is)
  (case q_k38=>k_is)
  (case q_a39=>k_is)
  (case q_l39=>k_is)
  (case q_c39=>k_is)
  (case q_k39=>k_is)
  (case q_a40=>k_is)
  (case q_l40=>k_is)
  (case q_c40=>k_is)
  (case q_k40=>k_is)
  (case q_a41=>k_is)
  (case q_l41=>k_is)
  (case q_c41=>k_is)
  (case q_k41=>k_is)
  (case q_a42=>k_is)
  (case q_l42=>k_is)
  (case q_c42=>k_is)
  (case q_k42=>k_is)
  (case q_a43=>k_is)
  (case q_l43=>k_is)
  (case q_c43=>k_is)
  (case q_k43=>k_is)
  (case q_a44=>k_is)
  (case q_l44=>k_is)
  (case q_c44=>k_is)
  (case q_k44=>k_is)
  (case q_a45=>k_is)
  (case q_l45=>k_is)
  (case q_c45=>k_is)
  (case q_k45=>k_is)
  (case q_a46=>k_is)
  (case q_l46=>k_is)
  (case q_c46=>k_is)
  (case q_k46=>k_is)
  (case q_a47=>k_is)
  (case q_l47=>k_is)
  (case q_c47=>k_is)
  (case q_k47=>k_is)
  (case q_a48=>k_is)
  (case q_i48=>k_is)
  (case q_l48=>k_is)
  (case q_c48=>k_is)
  (case q_k48=>k_is)
  (case q_a49=>k_is)
  (case q_i49=>k_is)
  (case q_l49=>k_is)
  (case q_c49=>k_is)
  (case q_k49=>k_is)
  (case q_a50=>k_is)
  (case q_i50=>k_is)
  (case q_l50=>k_is)
  (case q_c50=>k_is)
  (case q_k50=>k_is)
  (case q_a51=>k_is)
  (case q_i51=>k_is)
  (case q_l51=>k_is)
  (case q_c51=>k_is)
  (case q_k51=>k_is)
  (case q_a52=>k_is)
  (case q_i52=>k_is)
  (case q_l52=>k_is)
  (case q_c52=>k_is)
  (case q_k52=>k_is)
  (case q_a53=>k_is)
  (case q_i53=>k_is)
  (case q_l53=>k_is)
  (case q_c53=>k_is)
  (case q_k53=>k_is)
  (case q_a54=>k_is)
  (case q_i54=>k_is)
  (case q_l54=>k_is)
  (case q_c54=>k_is)
  (case q_k54=>k_is)
  (case q_g0=>k_is)
  (case q_g1=>k_is)
  (case q_g2=>k_is)
  (case q_g3=>k_is)
  (case q_z0=>k_is)
  (case q_z1=>k_is)
  (case q_z2=>k_is)
  (case q_z3=>k_is)
  (case q_z4=>k_is)
  (case q_z5=>k_is)
  (case q_z6=>k_is)
  (case q_z7=>k_is)
  (case q_z8=>k_is)
  (case q_z9=>k_is)
  (case q_z10=>k_is)
  (case q_z11=>k_is)
  (case q_z12=>k_is)
  (case q_z13=>k_is)
