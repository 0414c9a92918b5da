import PyProof.Rows.All
import Wide.All
import OpenK.AllK
import Wide.FinOn
import PyProof.EqAt
import PyProof.EqKinds
import PyProof.TupleCall
import Lean
import PyProof.DictWalks
import PyProof.DictIter
import PyProof.P3In
import KE.KEqSeq
import PyProof.ReprLen
import PyProof.ReprRoads
import PyProof.StrOps2
import KE.KRevSl
import PyProof.IsRules
import PyProof.StrLawsIdx
import PyProof.Rows.RegRepr
import PyProof.Rows.RegFStrParts
import PyProof.DictUpdate
import PyProof.AttrMissHeap
import PyProof.Walks
import KE.KDictOf
import PyProof.EnumIter
import PyProof.EnumFor
import PyProof.LayNew
import PyProof.EnumMake
import PyProof.Draws
import PyProof.WalksT
import PyProof.TupleIter
import PyProof.WalksMore
import KE.KRevIter
import KE.KEqDict
import PyProof.Rows.SetFrom
import PyProof.StrLawsTight
import PyProof.StrLawsChain
import PyProof.SumWalk
import PyProof.Rows.SortStr
import PyProof.Rows.SortWalk
import PyProof.TupleOfSeq
import KE.KDictSum
import KE.KSortTup
import PyProof.ListRange
import PyProof.ZipIter
import PyProof.Rows.ZipGen
import KE.KItemsList
import PyProof.ExcArgsOwn
import PyProof.InstStoreFacts
import PyProof.ExcBaseAll.ValueError
import PyProof.StationsW
import PyProof.RulesAs
import PyProof.RulesDel
import PyProof.NeKinds
import PyProof.ListMulAny
import KE.KMinBuiltin
import PyProof.Rows.CallKwBuiltin
import KE.KLam
import KE.KMinKey
import PyProof.WalkInts
import KE.KNestM
import PyProof.SeqI3
import KE.KSortKey
import PyProof.MaxThree
import PySem.Challenge.RW_halforder_k67_planned
local macro_rules | `(tactic| eq_refl) => `(tactic| with_unfolding_all exact Or.inl rfl)
local macro_rules | `(tactic| ac_rfl) => `(tactic| with_unfolding_all exact fun _ _ => rfl)
local macro_rules | `(tactic| ac_nf) => `(tactic| with_unfolding_all rfl)
noncomputable section
local macro_rules | `(⋯) => `(by ac_nf)
local macro_rules | `(∅) => `(by omega)
local macro_rules | `(nofun) => `(by decide)
local macro_rules | `(tactic| symm) => `(tactic| walk_at "rd")
def A00:=@List.getElem?_eq_some_iff
def A01:=@List.length_map
def A02:=@PySem.Heap.get?_push_of_some
def A03:=@List.mem_of_getElem?
def A04:=@List.getElem?_eq_getElem
def A05:=@PySem.wpAny_bind
def A06:=@List.getElem?_map
def A07:=@List.length_append
def A08:=@Nat.le_refl
def A09:=@List.mem_cons_of_mem
def A0A:=@List.mem_cons
def A0B:=@List.mem_cons_self
def A0C:=@List.mem_append
def A0D:=@PySem.Heap.lt_size
def A0E:=@List.mem_map
def A0F:=@PySem.W.mg_of
def A0G:=@List.length_cons
def A0H:=@List.map_cons
def A0I:=@PySem.Heap.get?_push_size
def A0J:=@Bool.false_ne_true
def A0K:=@PySem.wpAny_pure
def A0L:=@List.mem_filter
def A0M:=@List.mem_append_left
def A0N:=@decide_eq_false
def A0O:=@Nat.le_trans
def A0P:=@List.mem_singleton
def A0Q:=@if_neg
def A0R:=@List.size_toArray
def A0S:=@List.take_add_one
def A0T:=@List.length_filter_le
def A0U:=@List.take_length
def A0V:=@List.nodup_cons
def A0W:=@List.map_congr_left
def A0X:=@PySem.PassesOwn.never
def A0Y:=@decide_eq_true
def A0Z:=@if_pos
def A10:=@List.length_take
def A11:=@Nat.ne_of_lt
def A12:=@List.mem_append_right
def A13:=@List.map_append
def A14:=@Bool.and_eq_true
def A15:=@Option.some.inj
def A16:=@List.length_singleton
def A17:=@List.length_eq_zero_iff
def A18:=@Nat.lt_of_lt_of_le
def A19:=@List.filter_cons
def A1A:=@List.map_map
def A1B:=@List.length_drop
def A1C:=@PySem.W.mg_none_of
def A1D:=@List.any_eq_true
def A1E:=@List.nodup_append
def A1F:=@PySem.F.plainAttrs_list
def A1G:=@List.getElem_inj
def A1H:=@List.sum_cons
def A1I:=@PySem.sizeLine_eq
def A1J:=@List.filter_congr
def A1K:=@List.mem_iff_getElem?
def A1L:=@beq_eq_false_iff_ne
def A1M:=@PySem.W.kia_one
def A1N:=@List.getElem_of_mem
def A1O:=@List.lookup_cons
def A1P:=@Nat.lt_irrefl
def A1Q:=@List.flatMap_cons
def A1R:=@List.getD_eq_getElem?_getD
def A1S:=@List.getElem?_append_left
def A1T:=@List.replicate_succ
def A1U:=@List.filter_sublist
def A1V:=@List.length_range
def A1W:=@PyProof.Rows.callWith_type1
def A1X:=@List.filter_append
def A1Y:=@List.pairwise_iff_forall_sublist
def A1Z:=@List.append_assoc
def A20:=@PySem.Heap.size_push
def A21:=@List.mem_range
def A22:=@Bool.eq_iff_iff
def A23:=@PySem.wpAny_Call_Name_kw
def A24:=@List.Nodup.sublist
def A25:=@List.mem_of_mem_take
def A26:=@PySem.wpAny_mono
def A27:=@List.append_nil
def A28:=@List.flatMap_append
def A29:=@Option.map_eq_some_iff
def A2A:=@List.take_of_length_le
def A2B:=@True.intro
def A2C:=@List.all_eq_true
def A2D:=@List.mem_flatMap
def A2E:=@Nat.le_of_lt
def A2F:=@List.length_replicate
def A2G:=@List.any_cons
def A2H:=@PySem.F.slot_dict_get
def A2I:=@List.pairwise_cons
def A2J:=@Nat.zero_le
def A2K:=@Nat.mul_le_mul
def A2L:=@PyProof.Rows.slot_tuple_getitem
def A2M:=@PySem.wpAny_newObj_type
def A2N:=@List.flatten_cons
def A2O:=@Nat.lt_succ_of_lt
def A2P:=@PySem.F.slot_tuple_index
def A2Q:=@PySem.F.plainAttrs_dict
def A2R:=@Int.toNat_of_nonneg
def A2S:=@Nat.lt_succ_self
def A2T:=@PySem.Calls.callWith_builtin
def A2U:=@PySem.Calls.spliced_cons
def A2V:=@PySem.tupleKind_room_in1
def A2W:=@List.getElem?_take
def A2X:=@PySem.wpAny_passesOwn
def A2Y:=@List.getElem?_toArray
def A2Z:=@PySem.Paired.length
def A30:=@beq_iff_eq
def A31:=@List.cons.inj
def A32:=@PySem.Calls.Name_function_global
def A33:=@List.getElem?_append_right
def A34:=@List.getElem?_set_ne
def A35:=@List.mem_of_mem_drop
def A36:=@Nat.pow_le_pow_right
def A37:=@Or.inr
def A38:=@Sum.inl.inj
def A39:=@PySem.mem_of_lookup
def A3A:=@List.filter_eq_self
def A3B:=@PySem.F.slot_list_append
def A3C:=@PySem.F.type_list_append
def A3D:=@PySem.F.slot_list_extend
def A3E:=@PySem.F.type_list_extend
def A3F:=@PySem.F.type_tuple_index
def A3G:=@PySem.wpAny_callSpecial?_slot
def A3H:=@List.nil_append
def A3I:=@PySem.wpAny_getItem_str_slice
def A3J:=@PySem.wpAny_pyIter_tuple
def A3K:=@decide_eq_true_iff
def A3L:=@Int.emod_lt_of_pos
def A3M:=@List.map_take
def A3N:=@PySem.Heap.get?_update_other
def A3O:=@PySem.F.entry_dict_get
def A3P:=@PySem.wpAny_truthy_bool
def A3Q:=@PySem.Calls.spliced_nil
def A3R:=@PySem.call_meets
def A3S:=@PySem.wpAny_pyIter_list
def A3T:=@Nat.add_mul
def A3U:=@PyProof.Rows.callWith_builtin1
def A3V:=@PySem.wpAny_typeOf
def A3W:=@Nat.mul_comm
def A3X:=@PySem.call_meetsIn
def A3Y:=@Nat.min_le_right
def A3Z:=@PySem.wpAny_call_entry
def A40:=@PySem.Calls.evalArgs_plain
def A41:=@Nat.mul_le_mul_right
def A42:=@PySem.wpAny_holding
def A43:=@List.map_drop
def A44:=@Nat.le_succ
def A45:=@List.of_mem_zip
def A46:=@PySem.wpAny_field
def A47:=@Int.emod_nonneg
def A48:=@Nat.lt_trans
def A49:=@List.lookup_append
def A4A:=@List.filter_filter
def A4B:=@Nat.add_sub_cancel
def A4C:=@List.drop_eq_getElem_cons
def A4D:=@PySem.Calls.loadGlobal_builtin
def A4E:=@List.take_sublist
def A4F:=@of_decide_eq_true
def A4G:=@PySem.wpAny_pyIter_enum
def A4H:=@List.drop_sublist
def A4I:=@List.getElem?_replicate
def A4J:=@List.getElem_mem
def A4K:=@List.length_pos_of_mem
def A4L:=@List.filter_eq_nil_iff
def A4M:=@PySem.wpAny_execs_nil
def A4N:=@Nat.ne_of_gt
def A4O:=@List.foldl_cons
def A4P:=@Array.getElem?_toList
def A4Q:=@Option.map_some
def A4R:=@PySem.post_val_or_str
def A4S:=@List.take_append_drop
def A4T:=@PySem.Heap.get?_update_self
def A4U:=@Int.natCast_mul
def A4V:=@PySem.wpAny_Name
def A4W:=@PySem.wpAny_loadName_local
def A4X:=@PySem.wpAny_seqItems
def A4Y:=@PySem.W.plainGet_of
def A4Z:=@Array.length_toList
def A50:=@List.length_reverse
def A51:=@List.length_flatMap
def A52:=@List.length_pos_iff
def A53:=@List.length_take_le
def A54:=@List.mem_filterMap
def A55:=@PySem.W.callWith_K
def A56:=@PySem.plainId_quiet
def A57:=@Bool.and_comm
def A58:=@Nat.eq_zero_or_pos
def A59:=@List.zip_cons_cons
set_option linter.all false
set_option maxRecDepth 100000
set_option maxHeartbeats 4000000
set_option Elab.async false
set_option compiler.extract_closed false
namespace L2
open PySem PySem.Spec PyProof.Rows
abbrev Key:=Sum Int Str
def Tv:Key->Value->Bool
 |.inl k,v=>Value.isInt k v
 |.inr x,v=>Value.isStrOf x v
def keyH (w:World):Key->Int
 |.inl k=>hashInt k
 |.inr x=>hashStr w x
theorem Br:∀ {k:Key} {v:Value},Tv k v=true->(∃ i t,k=Sum.inl i/\v=Value.int i t)\/(∃ x t,k=Sum.inr x/\v=Value.str x t)
 |.inl i,v,h=>by obtain⟨t,e⟩:=Value.isInt_shape (k:=i) (v:=v) h;exact .inl ⟨i,t,rfl,e⟩
 |.inr x,v,h=>by obtain⟨t,e⟩:=Value.isStrOf_shape (x:=x) (v:=v) h;exact .inr ⟨x,t,rfl,e⟩
theorem a77 (i:Int)(t:Tok):Tv (.inl i) (.int i t)=true:=by simp[Tv,Value.isInt]
theorem ad5 (x:Str)(t:Tok):Tv (.inr x) (.str x t)=true:=by simp[Tv,Value.isStrOf]
theorem aM9 (a b:Int):decide ((Sum.inl a:Key)=Sum.inl b)=(a==b):=by
 by_cases e:a=b
 . subst e;simp
 have h:¬ (Sum.inl a:Key)=Sum.inl b:=λq=>e (A38 q);rw[A0N h];exact(A1L.mpr e).symm
theorem aE8 (a b:Str):decide ((Sum.inr a:Key)=Sum.inr b)=decide (a=b):=by
 by_cases e:a=b
 . subst e;simp
 have h:¬ (Sum.inr a:Key)=Sum.inr b:=λq=>e (Sum.inr.inj q);rw[A0N h,A0N e]
theorem aJ9 (a:Int)(b:Str):decide ((Sum.inl a:Key)=Sum.inr b)=false:=A0N (λq=>nomatch q)
theorem aH4 (a:Str)(b:Int):decide ((Sum.inr a:Key)=Sum.inl b)=false:=A0N (λq=>nomatch q)
def Ax (prog:Program)(w:World):PySem.KeyKind prog w Key where
 is:=Tv
 hash:=keyH w
 inj:=λv a b ha hb=>by
  rcases Br ha with ⟨i,t,rfl,rfl⟩|⟨x,t,rfl,rfl⟩
  . rcases Br hb with ⟨j,u,rfl,e⟩|⟨y,u,rfl,e⟩
    . injection e with e1 _;rw[e1]
    exact nomatch e
  rcases Br hb with ⟨j,u,rfl,e⟩|⟨y,u,rfl,e⟩
  . exact nomatch e
  injection e with e1 _;rw[e1]
 byValue:=λk v h=>by rcases Br h with ⟨i,t,rfl,rfl⟩|⟨x,t,rfl,rfl⟩<;>rfl
 pyHash:=λq h=>by
  rcases Br q with ⟨i,t,rfl,rfl⟩|⟨x,t,rfl,rfl⟩
  . exact wpAny_pyHash_int h
  exact wpAny_pyHash_str h
 eqBool:=λhu q h=>by
  rcases Br hu with ⟨i,t,rfl,rfl⟩|⟨x,t,rfl,rfl⟩
  . rcases Br q with ⟨j,u,rfl,rfl⟩|⟨y,u,rfl,rfl⟩
    . rw[aM9] at h;exact wpAny_eqBool_int h
    rw[aJ9] at h;exact SeqAt.EqAt.int_str i t y u _ _ _ _ h
  rcases Br q with ⟨j,u,rfl,rfl⟩|⟨y,u,rfl,rfl⟩
  . rw[aH4] at h;exact SeqAt.EqAt.str_int x t j u _ _ _ _ h
  rw[aE8] at h;exact wpAny_eqBool_str h
 «strs»:=λk x t v h=>by
  rcases Br h with ⟨i,u,rfl,e⟩|⟨y,u,rfl,e⟩
  . exact nomatch e
  injection e with e1 _;subst e1
  cases v<;>rfl
theorem Wk (prog:Program)(w:World)(i:Int)(t:Tok):(Ax prog w).is (.inl i) (.int i t)=true:=a77 i t
theorem Wg (prog:Program)(w:World)(x:Str)(t:Tok):(Ax prog w).is (.inr x) (.str x t)=true:=ad5 x t
inductive V where
 |non | bl (b:Bool) | int (i:Int) | str (x:Str) | byt (b:Array UInt8) | flt (b:UInt64) | ref (a:Addr) | ty (n:String)
 deriving DecidableEq
def RelV:V->Value->Prop
 |.non,u=>u=Value.none
 |.bl b,u=>u=Value.bool b
 |.int i,u=>∃ t,u=Value.int i t
 |.str x,u=>∃ t,u=Value.str x t
 |.byt b,u=>∃ t,u=Value.bytes b t
 |.flt b,u=>∃ t,u=Value.float b t
 |.ref a,u=>u=Value.ref a
 |.ty n,u=>u=Value.type n
abbrev Vals:List V->List Value->Prop:=Paired RelV
theorem Vals.length {xs:List V} {us:List Value} (r:Vals xs us):xs.length=us.length:=A2Z r
theorem Vals.get:∀ {xs:List V} {us:List Value} {i:Nat} {x:V},Vals xs us->xs[i]? = some x->∃ u,us[i]? = some u/\RelV x u
 |_,_,_,_,.nil,e=>by simp at e
 |_,_,0,_,.cons r _,e=>by simp at e;subst e;exact⟨_,rfl,r⟩
 |_,_,i+1,x,.cons _ t,e=>by obtain⟨u,h1,h2⟩:=Vals.get (i:=i) (x:=x) t (by simpa using e);exact⟨u,by simpa using h1,h2⟩
theorem Vals.append:∀ {xs ys:List V} {us ws:List Value},Vals xs us->Vals ys ws->Vals (xs++ys) (us++ws)
 |_,_,_,_,.nil,s=>s
 |_,_,_,_,.cons r t,s=>.cons r (Vals.append t s)
theorem Vals.take:∀ {xs:List V} {us:List Value} (n:Nat),Vals xs us->Vals (xs.take n) (us.take n)
 |_,_,0,_=>.nil
 |_,_,_+1,.nil=>.nil
 |_,_,n+1,.cons r t=>.cons r (Vals.take n t)
theorem Vals.drop:∀ {xs:List V} {us:List Value} (n:Nat),Vals xs us->Vals (xs.drop n) (us.drop n)
 |_,_,0,r=>r
 |_,_,_+1,.nil=>.nil
 |_,_,n+1,.cons _ t=>Vals.drop n t
def RelO:Option V->Option Value->Prop
 |some v,some u=>RelV v u
 |none,none=>True
 |_,_=>False
def KV {κ:Type}:List (κ×V)->List (κ×Value)->Prop:=Paired λ(p:κ×V) (q:κ×Value)=>p.1=q.1/\RelV p.2 q.2
def kV:Key->V
 |.inl i=>.int i
 |.inr x=>.str x
def IsTupN (h:Heap)(a:Addr)(items:Array Value):Prop:=∃ o,h.get? a=some o/\o.cls = .type "tuple" /\ (∃ n,o.data = .seq items n)/\o.dict=none
theorem IsTupN.tup {h:Heap}{a:Addr}{items:Array Value}(x:IsTupN h a items):IsTup h a items:=let ⟨o,h1,h2,⟨n,h3⟩,_⟩:=x;⟨o,h1,h2,n,h3⟩
theorem IsTupN.new (h:Heap)(q:Array Value):IsTupN (h.push {cls:=.type "tuple",data:=.seq q}) h.objs.size q:=⟨_,A0I _ rfl,rfl,⟨_,rfl⟩,rfl⟩
inductive HO where
 |lst (xs:List V)
 |tup (xs:List V)
 |dK (kvs:List (Key×V)) | dT (kvs:List (List Key×V))
 |set (S:Int->Bool) (n:Nat)
 |ins (C dx:Addr) (fs:List (Str×V))
 |own (x:Addr)
 |xd (fs:List (Str×V))
 |met (f x:Addr)
 |rng (lo hi:Int)
 |frz (o:Obj) (u:HO)
 |tbl (ps:Array Value)
 |ext (φ:Heap->Prop)
abbrev Hp:=Addr->Option HO
def upd (H:Hp)(a:Addr)(o:HO):Hp:=λb=>if b=a then some o else H b
theorem Ae {H:Hp}{a:Addr}{o:HO}:upd H a o a=some o:=by unfold upd;rw[if_pos rfl]
theorem At {H:Hp}{a b:Addr}{o:HO}(h:b≠a):upd H a o b=H b:=by unfold upd;rw[if_neg h]
theorem ne_of {H:Hp}{a b:Addr}{o u:HO}(h:H a=some o)(h':H b=some u)(d:o≠u):a≠b:=by intro e;subst e;rw[h] at h';exact d (A15 h')
theorem ne_of_none {H:Hp}{a b:Addr}{o:HO}(h:H a=some o)(h':H b=none):a≠b:=by intro e;subst e;rw[h] at h';cases h'
section
variable (P:Program)(w:World)
def ObjOk (H:Hp)(h:Heap)(a:Addr):HO->Prop
 |.lst xs=>xs.length<=sizeLine/\∃(F:List Value) (n:Nat),Vals xs F/\h.get? a=some {cls:=.type "list",data:=.seq F.toArray n}
 |.tup xs=>xs.length<=sizeLine/\∃ F:List Value,Vals xs F/\IsTupN h a F.toArray
 |.dK kvs=>kvs.length<=sizeLine/\(a==sysModules)=false/\∃ vs,KV kvs vs/\h.DictOf (Ax P w) a vs
 |.dT kvs=>kvs.length<=sizeLine/\(a==sysModules)=false/\∃ xs:List (List Key×Addr×Value),
   Paired (λ(p:List Key×V) (q:List Key×Addr×Value)=>p.1=q.1/\H q.2.1=some (.tup (p.1.map kV))/\RelV p.2 q.2.2) kvs xs /\
   ∃ o es ep,h.get? a=some o/\o.ExactDict/\o.data = .dict es ep/\es.toList=xs.map (entryOfKey (tupleKind (Ax P w)))/\(xs.map (·.1)).Nodup
 |.set S n=>h.SetOf (intKind P w) a S n
 |.ins C dx fs=>H dx=some (.own a)/\fs.length<=1000/\dx≠a/\h.get? a=some (W.instObj C dx) /\
   ∃ mA,h.Ns1 dx mA/\(∀ f,RelO (fs.lookup f) (mA f))/\PySem.Within mA (fs.map (·.1))
 |.own _=>∃ o,h.get? a=some o
 |.xd fs=>∃ mA,h.Ns1 a mA/\∀ f,RelO (fs.lookup f) (mA f)
 |.rng lo hi=>∃ t u v,h.get? a=some {cls:=.type "range",data:=.fields #[.int lo t,.int hi u,.int 1 v]}
 |.frz o u=>h.get? a=some o/\ObjOk H h a u
 |.tbl ps=>h.get? a=some {cls:=.none,data:=.fields ps}
 |.met f x=>h.get? a=some (W.methodObj (.ref f) (.ref x))
 |.ext φ=>φ h/\(∃ o,h.get? a=some o)/\∀ h1 h2:Heap,φ h1->(∀ o,h1.get? a=some o->h2.get? a=some o)->φ h2
def HOk (H:Hp)(h:Heap):Prop:=∀ a o,H a=some o->ObjOk P w H h a o
end
section
variable {P:Program}{w:World}{H H':Hp}{h h':Heap}{a:Addr}{o:HO}
theorem ObjOk.lt (x:ObjOk P w H h a o):a<h.objs.size:=by
 cases o with
 |lst xs=>obtain⟨_,_,_,_,e⟩:=x;exact A0D e
 |tup xs=>obtain⟨_,_,_,p⟩:=x;exact p.tup.lt
 |dK kvs=>obtain⟨_,_,_,_,o,_,_,e,_⟩:=x;exact A0D e
 |dT kvs=>obtain⟨_,_,_,_,o,_,_,e,_⟩:=x;exact A0D e
 |set S n=>obtain⟨o,_,_,_,e,_⟩:=x;exact A0D e
 |ins C dx fs=>obtain⟨_,_,_,e,_⟩:=x;exact A0D e
 |own y=>obtain⟨_,e⟩:=x;exact A0D e
 |xd fs=>obtain⟨_,⟨_,_,_,e,_⟩,_⟩:=x;exact A0D e
 |rng lo hi=>obtain⟨_,_,_,e⟩:=x;exact A0D e
 |frz ob u=>obtain⟨e,_⟩:=x;exact A0D e
 |tbl ps=>exact A0D (show h.get? a=some _ from x)
 |met f y=>exact A0D (show h.get? a=some _ from x)
 |ext φ=>obtain⟨_,⟨_,e⟩,_⟩:=x;exact A0D e
theorem Paired.mapP {α β:Type}{F G:α->β->Prop}:∀ {q:List α} {J:List β},Paired F q J->(∀ a b,F a b->G a b)->Paired G q J
 |_,_,.nil,_=>.nil
 |_,_,.cons r t,f=>.cons (f _ _ r) (Paired.mapP t f)
theorem ObjOk.stay (x:ObjOk P w H h a o)(k:∀ b u,(b=a\/H b=some (.own a))->h.get? b=some u->h'.get? b=some u)
  (O:∀ b,H b=some (.own a)->H' b=some (.own a)) (U:∀ b xs,H b=some (.tup xs)->H' b=some (.tup xs)):ObjOk P w H' h' a o:=by
 induction o with
 |lst xs=>obtain⟨z,F,n,r,e⟩:=x;exact⟨z,F,n,r,k _ _ (.inl rfl) e⟩
 |tup xs=>obtain⟨z,F,r,ob,e,c⟩:=x;exact⟨z,F,r,ob,k _ _ (.inl rfl) e,c⟩
 |dK kvs=>obtain⟨z,y,vs,r,ob,es,ep,e,c⟩:=x;exact⟨z,y,vs,r,ob,es,ep,k _ _ (.inl rfl) e,c⟩
 |dT kvs=>obtain⟨z,y,xs,r,ob,es,ep,e,c⟩:=x;exact⟨z,y,xs,Paired.mapP r λp q z=>⟨z.1,U _ _ z.2.1,z.2.2⟩,ob,es,ep,k _ _ (.inl rfl) e,c⟩
 |set S n=>obtain⟨ob,es,ep,t,e,c⟩:=x;exact⟨ob,es,ep,t,k _ _ (.inl rfl) e,c⟩
 |ins C dx fs=>obtain⟨d,z,ne,e,mA,⟨od,es,ep,J,c⟩,r⟩:=x;exact⟨O _ d,z,ne,k _ _ (.inl rfl) e,mA,⟨od,es,ep,k _ _ (.inr d) J,c⟩,r⟩
 |own y=>obtain⟨ob,e⟩:=x;exact⟨ob,k _ _ (.inl rfl) e⟩
 |xd fs=>obtain⟨mA,⟨od,es,ep,e,c⟩,r⟩:=x;exact⟨mA,⟨od,es,ep,k _ _ (.inl rfl) e,c⟩,r⟩
 |rng lo hi=>obtain⟨t,u,v,e⟩:=x;exact⟨t,u,v,k _ _ (.inl rfl) e⟩
 |frz ob u ih=>obtain⟨e,q⟩:=x;exact⟨k _ _ (.inl rfl) e,ih q⟩
 |tbl ps=>have e:h.get? a=some {cls:=.none,data:=.fields ps}:=x;show h'.get? a=some {cls:=.none,data:=.fields ps};exact k a _ (.inl rfl) e
 |met f y=>have e:h.get? a=some (W.methodObj (.ref f) (.ref y)):=x;show h'.get? a=some (W.methodObj (.ref f) (.ref y));exact k a _ (.inl rfl) e
 |ext φ=>obtain⟨p,⟨o,e⟩,st⟩:=x;exact⟨st _ _ p λo q=>k _ _ (.inl rfl) q,⟨o,k _ _ (.inl rfl) e⟩,st⟩
theorem HOk.lt (x:HOk P w H h)(e:H a=some o):a<h.objs.size:=(x a o e).lt
theorem HOk.fresh (x:HOk P w H h)(e:h.objs.size<=a):H a=none:=by
 cases q:H a with
 |none=>rfl
 |some u=>exact absurd (A18 (x.lt q) e) (A1P _)
theorem HOk.kept (x:HOk P w H h)(k:∀ b u,h.get? b=some u->h'.get? b=some u):HOk P w H h':=λa o e=>
 (x a o e).stay (λb u _ q=>k b u q) (λ_ q=>q) λ_ _ q=>q
theorem HOk.laid (x:HOk P w H h)(k:∀ b u,h.get? b=some u->h'.get? b=some u)(hp:h.objs.size<=a)(new:ObjOk P w (upd H a o) h' a o):HOk P w (upd H a o) h':=λb u e=>by
 have hn:=x.fresh hp
 by_cases hb:b=a
 . subst hb;rw[Ae] at e;cases e;exact new
 rw[At hb] at e;exact(x b u e).stay (λc v _ q=>k c v q) (λc q=>by rw[At (ne_of_none q hn)];exact q) λc xs q=>by rw[At (ne_of_none q hn)];exact q
end
def Rd (H:Hp)(a:Addr)(u:HO):Prop:=H a=some u\/∃ o,H a=some (.frz o u)
theorem Rd.ok {P:Program}{w:World}{H:Hp}{h:Heap}{a:Addr}{u:HO}(r:Rd H a u)(x:HOk P w H h):ObjOk P w H h a u:=by
 rcases r with r|⟨o,r⟩
 . exact x a u r
 obtain⟨_,q⟩:=x a _ r;exact q
def Mut:Option HO->Prop
 |some (.lst _)=>True
 |some (.dK _)=>True
 |some (.dT _)=>True
 |some (.set _ _)=>True
 |some (.ins _ _ _)=>True
 |some (.ext _)=>True
 |_=>False
section
variable {P:Program}{w:World}{H:Hp}{h h':Heap}{x e:Addr}{o':HO}
theorem HOk.write (ok:HOk P w H h)(O:Mut (H x))(he:e=x\/H e=some (.own x))(k:∀ b u,b≠e->h.get? b=some u->h'.get? b=some u)(Z:∃ u,h'.get? e=some u)
  (new:ObjOk P w (upd H x o') h' x o'):HOk P w (upd H x o') h':=λb u q=>by
 have U:∀ c y,H c=some (.own y)->c≠x:=λc y r z=>by subst z;rw[r] at O;exact O
 have a0:∀ c xs,H c=some (.tup xs)->c≠x:=λc xs r z=>by subst z;rw[r] at O;exact O
 by_cases hb:b=x
 . subst hb;rw[Ae] at q;cases q;exact new
 rw[At hb] at q
 by_cases F:b=e
 . have Y:H b=some (.own x):=by
    rcases he with z|z
    . exact absurd (F.trans z) hb
    rw[F];exact z
   rw[q] at Y;cases Y;obtain⟨v,hv⟩:=Z;exact⟨v,by rw[F];exact hv⟩
 refine(ok b u q).stay (λc v J r=>k c v ?_ r) (λc r=>by rw[At (U c b r)];exact r) λc xs r=>by rw[At (a0 c xs r)];exact r
 rcases J with rfl|J
 . exact F
 rintro rfl;rcases he with z|z
 . exact U c b J z
 rw[J] at z;cases z;exact hb rfl
end
structure Un (fs ex:List Addr)(H H':Hp)(h h':Heap):Prop where
 keep:∀ b o,h.get? b=some o->H b=none->b∉fs->b∉ex->h'.get? b=some o
 slot:∀ b o,h.get? b=some o->H b=none->b∈fs->b∉ex->∃ sl,h'.get? b=some {o with slots:=sl}
 free:∀ b o,h.get? b=some o->H b=none->b∉ex->H' b=none
 there:∀ b o,h.get? b=some o->b∉ex->∃ o',h'.get? b=some o'
 tups:∀ b xs,H b=some (.tup xs)->H' b=some (.tup xs)
 frzs:∀ b o u,H b=some (.frz o u)->H' b=some (.frz o u)
 tbls:∀ b ps,H b=some (.tbl ps)->∃ more,H' b=some (.tbl (ps++more))
section
variable {fs fs' ex ex':List Addr}{H H1 H2:Hp}{h h1 h2 h':Heap}{a x e:Addr}{o:HO}
theorem Un.any (u:Un fs ex H H1 h h1){b:Addr}{ob:Obj}(q:h.get? b=some ob)(n:H b=none)(F:b∉ex):∃ J,h1.get? b=some {ob with slots:=J}:=by
 by_cases hb:b∈fs
 . exact u.slot b ob q n hb F
 exact⟨ob.slots,u.keep b ob q n hb F⟩
theorem Un.kept (k:∀ b u,h.get? b=some u->h'.get? b=some u):Un fs ex H H h h':=
 ⟨λb ob q _ _ _=>k b ob q,λb ob q _ _ _=>⟨ob.slots,k b ob q⟩,λ_ _ _ n _=>n,λb ob q _=>⟨ob,k b ob q⟩,λ_ _ q=>q,λ_ _ _ q=>q,λ_ ps q=>⟨#[],by rw[q];simp⟩⟩
theorem Un.refl:Un fs ex H H h h:=Un.kept λ_ _ q=>q
theorem Un.laid (k:∀ b u,h.get? b=some u->h'.get? b=some u)(hp:h.objs.size<=a)(hn:H a=none):Un fs ex H (upd H a o) h h' where
 keep:=λb u q _ _ _=>k b u q
 slot:=λb u q _ _ _=>⟨u.slots,k b u q⟩
 free:=λb u q n _=>by rw[At (A11 (A18 (A0D q) hp))];exact n
 there:=λb u q _=>⟨u,k b u q⟩
 tups:=λb xs q=>by rw[At (ne_of_none q hn)];exact q
 frzs:=λb u xs q=>by rw[At (ne_of_none q hn)];exact q
 tbls:=λb ps q=>⟨#[],by rw[At (ne_of_none q hn),q];simp⟩
theorem Un.write (F:Mut (H x))(he:e=x\/H e=some (.own x))(k:∀ b u,b≠e->h.get? b=some u->h'.get? b=some u)(U:∃ u,h'.get? e=some u):Un fs ex H (upd H x o) h h':=by
 have O:∀ b,H b=none->b≠x:=λb n z=>by subst z;rw[n] at F;exact F
 have hb:∀ b,H b=none->b≠e:=λb n z=>by
  subst z;rcases he with r|r
  . exact O b n r
  rw[n] at r;cases r
 have hm:∀ b u,H b=some u->¬ Mut (some u)->b≠x:=λb u q nm z=>by subst z;rw[q] at F;exact nm F
 refine⟨λb u q n _ _=>k b u (hb b n) q,λb u q n _ _=>⟨u.slots,k b u (hb b n) q⟩,λb u q n _=>by rw[At (O b n)];exact n,λb u q _=>?_,
  λb xs q=>by rw[At (hm b _ q λz=>z)];exact q,λb u xs q=>by rw[At (hm b _ q λz=>z)];exact q,λb ps q=>⟨#[],by rw[At (hm b _ q λz=>z),q];simp⟩⟩
 by_cases J:b=e
 . subst J;exact U
 exact⟨u,k b u J q⟩
end
def trk (h:Heap)(H:Hp):List Addr:=(List.range h.objs.size).filter λa=>(H a).isSome
def ai8 (h:Heap)(H:Hp):Heap:=W.hideAll h (trk h H)
theorem a87 (h:Heap)(H:Hp):(ai8 h H).objs.size=h.objs.size:=W.hideAll_size _ _
theorem aj9 {h:Heap}{H:Hp}{b:Addr}{o:Obj}(e:h.get? b=some o)(n:H b=none):(ai8 h H).get? b=some o:=
 W.hideAll_get _ e λhm=>by have q:(H b).isSome=true:=(A0L.mp hm).2;rw[n] at q;simp at q
theorem aB1 {h:Heap}{H:Hp}{b:Addr}{o:Obj}(e:(ai8 h H).get? b=some o):h.get? b=some o/\H b=none:=by
 have F:h.get? b=some o:=W.of_hideAll (trk h H) e;refine⟨F,?_⟩
 cases q:H b with
 |none=>rfl
 |some x=>have hm:b∈trk h H:=List.mem_filter.mpr ⟨List.mem_range.mpr (Heap.lt_size F),by simp[q]⟩;have z:(ai8 h H).get? b=none:=W.hideAll_none (trk h H) hm;rw[z] at e;cases e
def Ha (g h:Heap)(L:Addr):List (Addr×Obj):=(List.range h.objs.size).filterMap λa=>if a=L\/(g.get? a).isSome=true then none else(h.get? a).map λo=>(a,o)
theorem W4 {g h:Heap}{L a:Addr}{o:Obj}(h1:a≠L)(h2:g.get? a=none)(q:h.get? a=some o):(a,o)∈Ha g h L:=
 List.mem_filterMap.mpr ⟨a,List.mem_range.mpr (Heap.lt_size q),by simp[h1,h2,q]⟩
theorem Pn {g h:Heap}{L:Addr}{p:Addr×Obj}(hp:p∈Ha g h L):p.1≠L/\g.get? p.1=none/\h.get? p.1=some p.2:=by
 obtain⟨b,_,e⟩:=A54.mp hp
 split at e
 . cases e
 rename_i hn
 cases q:h.get? b with
 |none=>rw[q] at e;simp at e
 |some u=>
   rw[q] at e;simp only[Option.map_some,Option.some.injEq] at e;subst e;refine⟨λz=>hn (.inl z),?_,q⟩;show g.get? b=none
   cases r:g.get? b with
   |none=>rfl
   |some v=>exact(hn (.inr (by simp[r]))).elim
def rest (g h:Heap)(L d:Addr):List (Addr×Obj):=(Ha g h L).filter λp=>decide (p.1≠d)
theorem Sk {g h:Heap}{L:Addr}:News g L h (Ha g h L):=λp hp=>let ⟨a,b,c⟩:=Pn hp;⟨c,a,b⟩
structure Mod (K:W.Frag)(mg:Str->Option Value)(base:Heap):Prop where
 kin:K.In base
 glob:base.Ns mainGlobals mg
 blt:∃ mb,base.Ns builtinsNs mb/\∀ x:Str,x ≠ "__name__" -> mb x=bootBuiltins x
 nolimit:base.NoLimit
/-- the context: a def's body (or a comprehension's block) running. base: fixed through the whole law;s₀,H₀: the entry;outer: the frames whose slots others may change (a def's callers);stack: all frames that run;
  ex: iterators that were made ahead of the entry and are walked here (a comprehension's);fn: the names whose cells were made at the entry (a def: all;a comprehension's block: its own);calm: not within an except suite;pn: pins that every state bears;xe: what is wanted of an exception that leaves the code -/
structure Cx where
 prog:Program
 w:World
 K:W.Frag
 mg:Str->Option Value
 base:Heap
 A:Around
 N:List Str
 s₀:Shared
 H₀:Hp
 env:Env
 outer:List Env
 stack:List Env
 ex:List Addr
 fn:Str->Bool
 calm:Bool
 pn:List (Addr×Obj)
 xe:Value->Shared->Prop
def frs (l:List Env):List Addr:=l.filterMap (·.frame)
abbrev Cx.fs (X:Cx):List Addr:=frs X.outer
def Vis (sc:Scope)(x:Str):Prop:=sc.names.lookup x=some .local\/sc.names.lookup x=some .cell\/sc.names.lookup x=some .free
def Loc (sc:Scope)(x:Str):Prop:=sc.names.lookup x=some .local\/sc.names.lookup x=some .cell
def aR8 (env:Env)(h:Heap)(m:Str->Option Value)(x:Str)(u:Value):Prop:=
 (env.kindOf x=some .local/\m x=some u)\/((env.kindOf x=some .cell\/env.kindOf x=some .free)/\∃ c,env.cells.lookup x=some c/\h.IsCell c (some u))
structure Cx.Ok (X:Cx):Prop where
 mod:Mod X.K X.mg X.base
 kind:X.env.scope.kind = .function
 glob:X.env.globals=mainGlobals
 blt:X.env.builtins=builtinsNs
 above:X.s₀.heap.objs.size<=X.env.locals
 inj:∀ x y c,X.env.cells.lookup x=some c->X.env.cells.lookup y=some c->x=y
 has:∀ x,(X.env.kindOf x=some .cell\/X.env.kindOf x=some .free)->∃ c,X.env.cells.lookup x=some c
 cab:∀ x c,X.fn x=true->X.env.cells.lookup x=some c->X.s₀.heap.objs.size<=c
 hd:X.calm=true->X.A.handled=none
 frames:X.A.frames=some X.stack
 stk:X.stack=X.outer\/(X.stack=X.env :: X.outer/\X.env.frame=some X.env.locals)
 exf:∀ b∈X.ex,b≠X.env.locals/\∀ x c,X.env.cells.lookup x=some c->c≠b
 bs:∀ b o,X.base.get? b=some o->X.s₀.heap.get? b=some o/\X.H₀ b=none
 bsz:X.base.objs.size<=X.s₀.heap.objs.size
 noex:∀ b o,X.base.get? b=some o->b∉X.ex
 exfs:∀ b∈X.ex,b∉X.fs
 funs:X.s₀.heap.FunFrames X.base X.outer
 frf:∀ b∈X.fs,X.H₀ b=none
structure Inv (X:Cx)(pins:List (Addr×Obj))(σ:List (Option V))(H:Hp)(s:Shared):Prop where
 ok:X.Ok
 os:s.os=X.s₀.os
 bare:AllBare s.gens
 base:Un X.fs X.ex X.H₀ H X.s₀.heap s.heap
 loc:∃ m,s.heap.Ns X.env.locals m/\∀(i:Nat) (x:Str) (v:V),X.N[i]? = some x->σ[i]? = some (some v)->Vis X.env.scope x->∃ u,RelV v u/\aR8 X.env s.heap m x u
 cell:∀ x c,X.env.cells.lookup x=some c->∃ v,s.heap.IsCell c v
 free:H X.env.locals=none
 freeC:∀ x c,X.env.cells.lookup x=some c->H c=none
 pin:∀ p∈X.pn++pins,s.heap.get? p.1=some p.2/\H p.1=none/\p.1≠X.env.locals/\p.1∉X.fs/\∀ v,p.2.data ≠ .cell v
 hok:HOk X.prog X.w H s.heap
 len:σ.length=X.N.length
section
variable {X:Cx}{pins:List (Addr×Obj)}{σ:List (Option V)}{H H':Hp}{s:Shared}{h':Heap}
theorem Cx.Ok.nofr (ok:X.Ok){b:Addr}{o:Obj}(e:X.base.get? b=some o):b∉X.fs:=λhb=>by have:=(ok.funs.mem hb).1;rw[e] at this;cases this
theorem Inv.bs (I:Inv X pins σ H s):∀ b o,X.base.get? b=some o->s.heap.get? b=some o/\H b=none:=λb o e=>
 ⟨I.base.keep b o (I.ok.bs b o e).1 (I.ok.bs b o e).2 (I.ok.nofr e) (I.ok.noex b o e),I.base.free b o (I.ok.bs b o e).1 (I.ok.bs b o e).2 (I.ok.noex b o e)⟩
theorem Inv.bk (I:Inv X pins σ H s):∀ b o,X.base.get? b=some o->s.heap.get? b=some o:=λb o e=>(I.bs b o e).1
theorem Inv.mod (I:Inv X pins σ H s):Mod X.K X.mg X.base:=I.ok.mod
theorem Inv.kIn (I:Inv X pins σ H s):X.K.In s.heap:=I.ok.mod.kin.keeps I.bk
theorem Inv.lt (I:Inv X pins σ H s):X.env.locals<s.heap.objs.size:=let ⟨_,hn,_⟩:=I.loc;hn.lt
theorem Inv.sz (I:Inv X pins σ H s):X.s₀.heap.objs.size<=s.heap.objs.size:=A0O I.ok.above (A2E I.lt)
theorem Inv.nofs (I:Inv X pins σ H s){a:Addr}(h:s.heap.objs.size<=a):a∉X.fs:=λhb=>by obtain⟨_,o,q,_⟩:=I.ok.funs.mem hb;exact absurd (A18 (A0D q) (A0O I.sz h)) (A1P _)
theorem Inv.cne (I:Inv X pins σ H s):∀ x c,X.env.cells.lookup x=some c->c≠X.env.locals:=λx c e z=>by obtain⟨v,o,q,hd⟩:=I.cell x c e;obtain⟨m,⟨o',es,ep,J,F,_⟩,_⟩:=I.loc;rw[z,J] at q;cases q;rw[F] at hd;cases hd
theorem Inv.funs (I:Inv X pins σ H s):s.heap.FunFrames X.base X.outer:=by
 have all:∀(l:List Env),(∀ b∈frs l,b∈X.fs)->X.s₀.heap.FunFrames X.base l->s.heap.FunFrames X.base l:=by
  intro l
  induction l with
  |nil=>intro _ _;trivial
  |cons env r ih=>intro F O;obtain⟨J,⟨L,o,hf,hn,U,hd⟩,Y⟩:=O;have q:L∈X.fs:=F L (by unfold frs;rw[List.filterMap_cons,hf];exact List.mem_cons_self);obtain⟨Z,e⟩:=I.base.slot L o U (I.ok.frf L q) q λz=>I.ok.exfs L z q;exact⟨J,⟨L,_,hf,hn,e,hd⟩,ih (λb hb=>F b (by unfold frs;rw[List.filterMap_cons,hf];exact List.mem_cons_of_mem _ hb)) Y⟩
 exact all X.outer (λ_ hb=>hb) I.ok.funs
theorem Inv.stack (I:Inv X pins σ H s):s.heap.FunFrames X.base X.stack:=by
 rcases I.ok.stk with e|⟨e,hf⟩
 . rw[e];exact I.funs
 rw[e];obtain⟨m,hn,_⟩:=I.loc;refine .cons (by rw[I.ok.kind];decide) hf hn ?_ I.funs;exact Heap.get?_none_of_le (A0O I.ok.bsz I.ok.above)
theorem Inv.stkSub (I:Inv X pins σ H s):∀ b∈frs X.stack,b∈X.env.locals :: X.fs:=λb hb=>by
 rcases I.ok.stk with e|⟨e,hf⟩
 . rw[e] at hb;exact A09 _ hb
 rw[e] at hb;unfold frs at hb;rw[List.filterMap_cons,hf] at hb;exact hb
theorem Inv.stkFree (I:Inv X pins σ H s):∀ b∈frs X.stack,H b=none:=λb hb=>by
 rcases A0A.mp (I.stkSub b hb) with e|hb
 . rw[e];exact I.free
 obtain⟨_,o,q,_⟩:=I.ok.funs.mem hb;exact I.base.free b o q (I.ok.frf b hb) λz=>I.ok.exfs b z hb
theorem Inv.step {g':Array GenState}{t':Nat}{d':Drawn}{ch:List Addr}(I:Inv X pins σ H s)
  (Y:∀ b∈ch,(b∈X.ex\/X.s₀.heap.objs.size<=b)/\b≠X.env.locals/\(∀ x c,X.env.cells.lookup x=some c->c≠b)/\∀ p∈X.pn++pins,p.1≠b)
  (keep:∀ b o,b≠X.env.locals->b∉X.fs->b∉ch->s.heap.get? b=some o->H b=none->h'.get? b=some o)
  (slot:∀ b o,b≠X.env.locals->b∈X.fs->b∉ch->s.heap.get? b=some o->H b=none->∃ sl,h'.get? b=some {o with slots:=sl}) (free:∀ b o,b∉ch->s.heap.get? b=some o->H b=none->H' b=none)
  (there:∀ b o,b∉ch->s.heap.get? b=some o->∃ o',h'.get? b=some o')
  (tups:∀ b xs,H b=some (.tup xs)->H' b=some (.tup xs)) (frzs:∀ b o u,H b=some (.frz o u)->H' b=some (.frz o u)) (tbls:∀ b ps,H b=some (.tbl ps)->∃ more,H' b=some (.tbl (ps++more)))
  (ns:∀ m,s.heap.Ns X.env.locals m->h'.Ns X.env.locals m) (hok:HOk X.prog X.w H' h') (hg:AllBare g') :
  Inv X pins σ H' {s with heap:=h',gens:=g',drawn:=d',toks:=t'}:=by
 have a2:∀ b o,X.s₀.heap.get? b=some o->b≠X.env.locals:=λb o e=>A11 (A18 (A0D e) I.ok.above)
 have a0:∀ b o,X.s₀.heap.get? b=some o->b∉X.ex->b∉ch:=λb o e F hb=>by
  rcases(Y b hb).1 with z|z
  . exact F z
  exact absurd (A18 (A0D e) z) (A1P _)
 have a1:∀ x c,X.env.cells.lookup x=some c->∀ v,s.heap.IsCell c v->h'.IsCell c v:=λx c e v ⟨o,O,hd⟩=>by
  have Z:c∉ch:=λz=>(Y c z).2.2.1 x c e rfl
  by_cases hc:c∈X.fs
  . obtain⟨sl,q⟩:=slot c o (I.cne x c e) hc Z O (I.freeC x c e);exact⟨_,q,hd⟩
  exact⟨o,keep c o (I.cne x c e) hc Z O (I.freeC x c e),hd⟩
 refine⟨I.ok,I.os,hg,⟨λb o e n hb F=>?_,λb o e n hb F=>?_,λb o e n F=>?_,λb o e F=>?_,λb xs e=>tups b xs (I.base.tups b xs e),λb o xs e=>frzs b o xs (I.base.frzs b o xs e),λb ps e=>?_⟩,?_,λx c e=>?_,?_,λx c e=>?_,λp hp=>?_,hok,I.len⟩
 . exact keep b o (a2 b o e) hb (a0 b o e F) (I.base.keep b o e n hb F) (I.base.free b o e n F)
 . obtain⟨sl,J⟩:=I.base.slot b o e n hb F;obtain⟨a3,U⟩:=slot b _ (a2 b o e) hb (a0 b o e F) J (I.base.free b o e n F);exact⟨a3,U⟩
 . obtain⟨o',J⟩:=I.base.there b o e F;exact free b o' (a0 b o e F) J (I.base.free b o e n F)
 . obtain⟨o',J⟩:=I.base.there b o e F;exact there b o' (a0 b o e F) J
 . obtain⟨m1,J⟩:=I.base.tbls b ps e;obtain⟨m2,U⟩:=tbls b _ J;exact⟨m1++m2,by rw[U,Array.append_assoc]⟩
 . obtain⟨m,hn,hl⟩:=I.loc;refine⟨m,ns m hn,λi x v J U e3=>?_⟩;obtain⟨u,r,l⟩:=hl i x v J U e3;refine⟨u,r,?_⟩;rcases l with l|⟨k,c,e,z⟩
   . exact .inl l
   exact .inr ⟨k,c,e,a1 x c e _ z⟩
 . obtain⟨v,z⟩:=I.cell x c e;exact⟨v,a1 x c e v z⟩
 . obtain⟨m,⟨o,_,_,O,_⟩,_⟩:=I.loc;exact free _ o (λz=>(Y _ z).2.1 rfl) O I.free
 . obtain⟨v,o,O,hd⟩:=I.cell x c e;exact free c o (λz=>(Y c z).2.2.1 x c e rfl) O (I.freeC x c e)
 obtain⟨e,n,ne,nf,d⟩:=I.pin p hp;have Z:p.1∉ch:=λz=>(Y p.1 z).2.2.2 p hp rfl;exact⟨keep p.1 p.2 ne nf Z e n,free p.1 p.2 Z e n,ne,nf,d⟩
theorem Inv.un {t':Nat}(I:Inv X pins σ H s)(u:Un X.fs [] H H' s.heap h')(hok:HOk X.prog X.w H' h'):Inv X pins σ H' {s with heap:=h',toks:=t'}:=by
 obtain⟨m,⟨o,es,ep,q,r⟩,_⟩:=id I.loc;obtain⟨Z,U⟩:=u.any q I.free (by simp)
 exact I.step (g':=s.gens) (d':=s.drawn) (ch:=[]) (λ_ z=>nomatch z) (λb o _ hb _ e n=>u.keep b o e n hb (by simp)) (λb o _ hb _ e n=>u.slot b o e n hb (by simp)) (λb o _ e n=>u.free b o e n (by simp)) (λb o _ e=>u.there b o e (by simp)) u.tups u.frzs u.tbls (λY hm=>by obtain⟨o',O,J,F,r'⟩:=hm;rw[q] at F;cases F;exact⟨_,O,J,U,r'⟩) hok I.bare
theorem Inv.call {g':Array GenState}{t':Nat}{d':Drawn}{ch:List Addr}(I:Inv X pins σ H s)(u:Un (frs X.stack) ch H H' s.heap h')(hok:HOk X.prog X.w H' h')(hg:AllBare g')
  (J:∀ b∈ch,(b∈X.ex\/X.s₀.heap.objs.size<=b)/\b≠X.env.locals/\(∀ x c,X.env.cells.lookup x=some c->c≠b)/\∀ p∈X.pn++pins,p.1≠b) :
  Inv X pins σ H' {s with heap:=h',gens:=g',drawn:=d',toks:=t'}:=by
 obtain⟨m,⟨o,es,ep,O,r⟩,_⟩:=id I.loc;obtain⟨sl,F⟩:=u.any O I.free λz=>(J _ z).2.1 rfl
 exact I.step (ch:=ch) J (λb o F hb q e n=>u.keep b o e n (λz=>(A0A.mp (I.stkSub b z)).elim F hb) q) (λb o _ _ q e n=>u.any e n q) (λb o q e n=>u.free b o e n q) (λb o q e=>u.there b o e q) u.tups u.frzs u.tbls (λm' hm=>by obtain⟨o',Z,Y,U,r'⟩:=hm;rw[O] at U;cases U;exact⟨_,Z,Y,F,r'⟩) hok hg
theorem Inv.turned {t':Nat}{it:Addr}(I:Inv X pins σ H s)(k:∀ b o,b≠it->s.heap.get? b=some o->h'.get? b=some o)(hn:H it=none)(J:it≠X.env.locals)
  (h1:it∈X.ex\/X.s₀.heap.objs.size<=it) (h2:∀ x c,X.env.cells.lookup x=some c->c≠it) (U:∀ p∈X.pn++pins,p.1≠it):Inv X pins σ H {s with heap:=h',toks:=t'}:=by
 have O:∀ b u,H b=some u->b≠it:=λb u e z=>by rw[z,hn] at e;cases e
 refine I.step (g':=s.gens) (d':=s.drawn) (ch:=[it]) (λb hb=>?_) (λb o _ _ F e _=>k b o (λz=>F (by simp[z])) e) (λb o _ _ F e _=>⟨o.slots,k b o (λz=>F (by simp[z])) e⟩) (λ_ _ _ _ n=>n)
  (λb o F e=>⟨o,k b o (λz=>F (by simp[z])) e⟩) (λ_ _ e=>e) (λ_ _ _ e=>e) (λb ps e=>⟨#[],by rw[e];simp⟩) (λm hm=>?_) (λb u e=>?_) I.bare
 . have e:b=it:=by simpa using hb
   subst e;exact⟨h1,J,h2,U⟩
 . obtain⟨o,es,ep,Y,r⟩:=hm;exact⟨o,es,ep,k _ o (Ne.symm J) Y,r⟩
 refine(I.hok b u e).stay (λc v F q=>k c v ?_ q) (λ_ q=>q) λ_ _ q=>q;rcases F with z|z
 . rw[z];exact O b u e
 exact O c _ z
theorem Inv.tok (I:Inv X pins σ H s)(t:Nat):Inv X pins σ H {s with toks:=t}:=I.un (h':=s.heap) (t':=t) Un.refl I.hok
theorem Inv.kept {t':Nat}(I:Inv X pins σ H s)(k:∀ b u,s.heap.get? b=some u->h'.get? b=some u):Inv X pins σ H {s with heap:=h',toks:=t'}:=I.un (Un.kept k) (I.hok.kept k)
theorem Inv.laid {a:Addr}{o:HO}{t':Nat}(I:Inv X pins σ H s)(k:∀ b u,s.heap.get? b=some u->h'.get? b=some u)(hp:s.heap.objs.size<=a)(new:ObjOk X.prog X.w (upd H a o) h' a o) :
  Inv X pins σ (upd H a o) {s with heap:=h',toks:=t'}:=I.un (Un.laid k hp (I.hok.fresh hp)) (I.hok.laid k hp new)
theorem Inv.write {x e:Addr}{o:HO}{t':Nat}(I:Inv X pins σ H s)(F:Mut (H x))(he:e=x\/H e=some (.own x))(k:∀ b u,b≠e->s.heap.get? b=some u->h'.get? b=some u)(q:∃ u,h'.get? e=some u)
  (new:ObjOk X.prog X.w (upd H x o) h' x o):Inv X pins σ (upd H x o) {s with heap:=h',toks:=t'}:=I.un (Un.write F he k q) (I.hok.write F he k q new)
theorem Inv.weak {σ':List (Option V)}(I:Inv X pins σ H s)(O:σ'.length=σ.length)(w:∀(i:Nat) v,σ'[i]? = some (some v)->σ[i]? = some (some v)):Inv X pins σ' H s:=
 ⟨I.ok,I.os,I.bare,I.base,let ⟨m,hn,hl'⟩:=I.loc;⟨m,hn,λi x v q F J=>hl' i x v q (w i v F) J⟩,I.cell,I.free,I.freeC,I.pin,I.hok,O.trans I.len⟩
theorem Inv.pins_of {q:List (Addr×Obj)}(I:Inv X pins σ H s)(h:∀ p∈q,s.heap.get? p.1=some p.2/\H p.1=none/\p.1≠X.env.locals/\p.1∉X.fs/\∀ v,p.2.data ≠ .cell v):Inv X q σ H s:=
 ⟨I.ok,I.os,I.bare,I.base,I.loc,I.cell,I.free,I.freeC,λp hp=>(A0C.mp hp).elim (λz=>I.pin p (A0M _ z)) (h p),I.hok,I.len⟩
theorem Yb {N:List Str}(J:N.Nodup){i j:Nat}{x:Str}(a:N[i]? = some x)(b:N[j]? = some x):i=j:=by obtain⟨h1,q⟩:=A00.mp a;obtain⟨h2,F⟩:=A00.mp b;exact(A1G J).mp (q.trans F.symm)
theorem Vq {M:Model}{A:Around}{E:Value->Shared->Prop}{i:Nat}{x:Str}{v:V}{u:Value}{Q:Unit->Shared->Prop}(I:Inv X pins σ H s)(hN:X.N.Nodup)(hi:X.N[i]? = some x)(U:Loc X.env.scope x)(r:RelV v u)
  (h:∀ s',Inv X pins (σ.set i (some v)) H s'->(∃ a,Heap.SameBut a s.heap s'.heap/\(a=X.env.locals\/X.env.cells.lookup x=some a))->Q () s') (hf:X.fn x=true\/X.env.scope.names.lookup x=some .local:=by with_unfolding_all (first | exact .inl rfl | exact .inr rfl | assumption)):wpAny M A (storeName X.env x u) Q E s:=by
 obtain⟨m,hn,hl⟩:=id I.loc;have a7:(X.env.scope.kind == .class||(X.env.scope.kind == .module&&X.env.locals != X.env.globals))=false:=by rw[I.ok.kind];rfl
 have a4:i<σ.length:=by rw[I.len];exact(A00.mp hi).1
 have cne:=I.cne
 have a6:∀ {a:Addr} {h':Heap},(∃ o,s.heap.get? a=some o/\H a=none)->Heap.SameBut a s.heap h'->HOk X.prog X.w H h':=fun {a h'} ha F b ob e=>by
  obtain⟨_,_,a3⟩:=ha;refine(I.hok b ob e).stay (λc w' O q=>(F.2 c ?_).trans q) (λ_ q=>q) λ_ _ q=>q;rintro rfl;rcases O with rfl|O
  . rw[a3] at e;cases e
  rw[a3] at O;cases O
 rcases U with hk|hk
 . refine wpAny_storeName_local hk hn (λh' a8 F=>?_) a7;obtain⟨oL,_,_,a9,_⟩:=id hn;refine h _ ⟨I.ok,I.os,I.bare,⟨λb o e n hb U=>?_,λb o e n hb U=>?_,I.base.free,λb o e U=>?_,I.base.tups,I.base.frzs,I.base.tbls⟩,⟨_,a8,λj y v' J Y e3=>?_⟩,λy c e=>?_,I.free,I.freeC,λp hp=>?_,a6 ⟨oL,a9,I.free⟩ F,by simpa using I.len⟩ ⟨_,F,.inl rfl⟩
   . exact(F.2 b (A11 (A18 (A0D e) I.ok.above))).trans (I.base.keep b o e n hb U)
   . obtain⟨sl,J⟩:=I.base.slot b o e n hb U;exact⟨sl,(F.2 b (A11 (A18 (A0D e) I.ok.above))).trans J⟩
   . obtain⟨o',J⟩:=I.base.there b o e U;exact⟨o',(F.2 b (A11 (A18 (A0D e) I.ok.above))).trans J⟩
   . by_cases Z:j=i
     . subst Z;rw[hi] at J;cases J;rw[List.getElem?_set_self a4] at Y
       cases Y;exact⟨u,r,.inl ⟨hk,by simp⟩⟩
     rw[A34 (Ne.symm Z)] at Y;obtain⟨u',r',q⟩:=hl j y v' J Y e3;refine⟨u',r',?_⟩;rcases q with ⟨k,e⟩|⟨k,c,e,z⟩
     . refine .inl ⟨k,?_⟩;have:y≠x:=λe=>Z (Yb hN J (e ▸ hi));simp[this,e]
     exact .inr ⟨k,c,e,z.sameBut F (cne y c e)⟩
   . obtain⟨w',z⟩:=I.cell y c e;exact⟨w',z.sameBut F (cne y c e)⟩
   obtain⟨e,n,ne,nf,d⟩:=I.pin p hp;exact⟨(F.2 p.1 ne).trans e,n,ne,nf,d⟩
 have a0:X.fn x=true:=by
  rcases hf with z|z
  . exact z
  rw[z] at hk;cases hk
 obtain⟨c,O⟩:=I.ok.has x (.inl hk);obtain⟨w',z⟩:=I.cell x c O;refine wpAny_storeName_cell I.ok.kind hk O z (λh' a1 F=>?_);obtain⟨oc,a5,aA⟩:=id z;refine h {s with heap:=h'} ⟨I.ok,I.os,I.bare,⟨λb o e n hb U=>?_,λb o e n hb U=>?_,I.base.free,λb o e U=>?_,I.base.tups,I.base.frzs,I.base.tbls⟩,⟨m,hn.sameBut F (Ne.symm (cne x c O)),λj y v' J Y e3=>?_⟩,λy c' e=>?_,I.free,I.freeC,λp hp=>?_,a6 ⟨oc,a5,I.freeC x c O⟩ F,by simpa using I.len⟩ ⟨c,F,.inr O⟩
 . exact(F.2 b (A11 (A18 (A0D e) (I.ok.cab x c a0 O)))).trans (I.base.keep b o e n hb U)
 . obtain⟨sl,J⟩:=I.base.slot b o e n hb U;exact⟨sl,(F.2 b (A11 (A18 (A0D e) (I.ok.cab x c a0 O)))).trans J⟩
 . obtain⟨o',J⟩:=I.base.there b o e U;exact⟨o',(F.2 b (A11 (A18 (A0D e) (I.ok.cab x c a0 O)))).trans J⟩
 . by_cases Z:j=i
   . subst Z;rw[hi] at J;cases J;rw[List.getElem?_set_self a4] at Y
     cases Y;exact⟨u,r,.inr ⟨.inl hk,c,O,a1⟩⟩
   rw[A34 (Ne.symm Z)] at Y;obtain⟨u',r',q⟩:=hl j y v' J Y e3;refine⟨u',r',?_⟩;rcases q with q|⟨k,c',e,z'⟩
   . exact .inl q
   refine .inr ⟨k,c',e,z'.sameBut F ?_⟩;rintro rfl;exact Z (Yb hN J (I.ok.inj _ _ _ e O ▸ hi))
 . by_cases a2:c'=c
   . subst a2;exact⟨_,a1⟩
   obtain⟨w2,z2⟩:=I.cell y c' e;exact⟨w2,z2.sameBut F a2⟩
 obtain⟨e,n,ne,nf,d⟩:=I.pin p hp;refine⟨(F.2 p.1 ?_).trans e,n,ne,nf,d⟩;intro q;rw[q,a5] at e;have q':oc=p.2:=A15 e;exact d w' (by rw[<- q'];exact aA)
theorem X3 {M:Model}{A:Around}{E:Value->Shared->Prop}{i:Nat}{x:Str}{v:V}{u:Value}{Q:Unit->Shared->Prop}(I:Inv X pins σ H s)(F:X.N.Nodup)(hi:X.N[i]? = some x)(J:Loc X.env.scope x)(r:RelV v u)
  (h:∀ s',Inv X pins (σ.set i (some v)) H s'->Q () s') (hf:X.fn x=true\/X.env.scope.names.lookup x=some .local:=by with_unfolding_all (first | exact .inl rfl | exact .inr rfl | assumption)):wpAny M A (storeName X.env x u) Q E s:=
 Vq I F hi J r (λs' q _=>h s' q) hf
theorem Inv.call' {s':Shared}{ch:List Addr}(I:Inv X pins σ H s)(J:s'.os=s.os)(u:Un (frs X.stack) ch H H' s.heap s'.heap)(hok:HOk X.prog X.w H' s'.heap)(F:AllBare s'.gens)
  (q:∀ b∈ch,(b∈X.ex\/X.s₀.heap.objs.size<=b)/\b≠X.env.locals/\(∀ x c,X.env.cells.lookup x=some c->c≠b)/\∀ p∈X.pn++pins,p.1≠b):Inv X pins σ H' s':=by
 obtain⟨h',g',d',t',o'⟩:=s';have e:o'=s.os:=J;subst e;exact I.call (g':=g') (t':=t') (d':=d') u hok F q
end
abbrev XK:=Value->Option Addr->Hp->Prop
abbrev St:=List (Option V)
abbrev VK:=V->Hp->Prop
abbrev TE:=St->Hp->VK->Prop
abbrev TT:=St->Hp->(Bool->Hp->Prop)->Prop
abbrev TA:=St->Hp->(List V->Hp->Prop)->Prop
structure Ph where
 nx:St->Hp->Prop
 rt:VK
 bk:St->Hp->Prop:=λ_ _=>False
 ct:St->Hp->Prop:=λ_ _=>False
abbrev TS:=Ph->St->Hp->Prop
def EP (X:Cx)(pins:List (Addr×Obj))(σ:St)(Q:VK)(u:Value)(s':Shared):Prop:=∃ v H',Inv X pins σ H' s'/\RelV v u/\Q v H'
def TP (X:Cx)(pins:List (Addr×Obj))(σ:St)(Q:Bool->Hp->Prop)(b:Bool)(s':Shared):Prop:=∃ H',Inv X pins σ H' s'/\Q b H'
def AP (X:Cx)(pins:List (Addr×Obj))(σ:St)(Q:List V->Hp->Prop)(us:List Value)(s':Shared):Prop:=∃ vs H',Inv X pins σ H' s'/\Vals vs us/\Q vs H'
def SP (X:Cx)(pins:List (Addr×Obj))(D:Ph)(f:Flow)(s':Shared):Prop:=
 match f with
 |.next=>∃ σ' H',Inv X pins σ' H' s'/\D.nx σ' H'
 |.brk=>∃ σ' H',Inv X pins σ' H' s'/\D.bk σ' H'
 |.cont=>∃ σ' H',Inv X pins σ' H' s'/\D.ct σ' H'
 |.ret u=>∃ v σ' H',Inv X pins σ' H' s'/\RelV v u/\D.rt v H'
def PE (X:Cx)(e:Expr)(t:TE):Prop:=
 ∀(pins:List (Addr×Obj)) (s:Shared) (σ:St) (H:Hp) (Q:VK),Inv X pins σ H s->t σ H Q->wpAny (model X.prog X.w) X.A (eval e X.env) (EP X pins σ Q) X.xe s
def PT (X:Cx)(e:Expr)(t:TT):Prop:=
 ∀(pins:List (Addr×Obj)) (s:Shared) (σ:St) (H:Hp) (Q:Bool->Hp->Prop),Inv X pins σ H s->t σ H Q->wpAny (model X.prog X.w) X.A (isTrue e X.env (eval e X.env)) (TP X pins σ Q) X.xe s
def PW (X:Cx)(e:Expr)(t:TT):Prop:=
 ∀(q:Sem Value) (pins:List (Addr×Obj)) (s:Shared) (σ:St) (H:Hp) (Q:Bool->Hp->Prop),Inv X pins σ H s->t σ H Q->wpAny (model X.prog X.w) X.A (isTrue e X.env q) (TP X pins σ Q) X.xe s
theorem PW.pt {X:Cx}{e:Expr}{t:TT}(h:PW X e t):PT X e t:=h _
def PA (X:Cx)(es:List Expr)(t:TA):Prop:=
 ∀(pos:Pos) (pins:List (Addr×Obj)) (s:Shared) (σ:St) (H:Hp) (Q:List V->Hp->Prop),Inv X pins σ H s->t σ H Q->wpAny (model X.prog X.w) X.A (spliced (backTo pos (starEach es X.env))) (AP X pins σ Q) X.xe s
def PS (X:Cx)(st:Stmt)(t:TS):Prop:=
 ∀(pins:List (Addr×Obj)) (s:Shared) (σ:St) (H:Hp) (D:Ph),Inv X pins σ H s->t D σ H->wpAny (model X.prog X.w) X.A (exec st X.env) (SP X pins D) X.xe s
def PSs (X:Cx)(st:List Stmt)(t:TS):Prop:=
 ∀(pins:List (Addr×Obj)) (s:Shared) (σ:St) (H:Hp) (D:Ph),Inv X pins σ H s->t D σ H->wpAny (model X.prog X.w) X.A (execs st X.env) (SP X pins D) X.xe s
theorem thn {α:Type}{t:Sem α}{Q q:α->Shared->Prop}{M:Model}{A:Around}{E:Value->Shared->Prop}{s:Shared}(h:wpAny M A t Q E s)(F:∀ a s,Q a s->q a s):wpAny M A t q E s:=A26 h F λ_ _ x=>x
section
variable {X:Cx}
def aS8 (i:Nat):TE:=fun σ H Q=>∃ v,σ[i]? = some (some v)/\Q v H
def tC (v:V):TE:=λ_ H Q=>Q v H
theorem aO4 {i:Nat}{x:Str}{pos:Pos}(O:X.N[i]? = some x)(Z:Vis X.env.scope x)(hd:(x==("__debug__":Str))=false:=by decide)(U:(x==("__classdict__":Str))=false:=by decide):PE X (.Name x pos) (aS8 i):=by
 intro pins s σ H Q I h;obtain⟨v,e,h⟩:=h;obtain⟨m,hn,Y⟩:=I.loc;obtain⟨u,r,l⟩:=Y i x v O e Z;have fin:EP X pins σ Q u s:=⟨v,H,I,r,h⟩;rcases l with ⟨q,hm⟩|⟨q,c,F,J⟩
 . exact A4V (A4W I.ok.kind q hn hm fin) hd
 rcases q with q|q
 . exact A4V (wpAny_loadName_cell I.ok.kind q F J fin) hd
 exact A4V (wpAny_loadName_free I.ok.kind q F J fin U) hd
theorem A5 {i j pos}:PE X (.Constant (.int i) j pos) (tC (.int i)):=λ_ _ _ H _ I h=>wpAny_Constant_int ⟨.int i,H,I.tok _,⟨_,rfl⟩,h⟩
theorem af1 {b j pos}:PE X (.Constant (.bool b) j pos) (tC (.bl b)):=λ_ _ _ H _ I h=>Constant_bool ⟨.bl b,H,I,rfl,h⟩
theorem Qd {j pos}:PE X (.Constant .none j pos) (tC .non):=λ_ _ _ H _ I h=>Constant_none ⟨.non,H,I,rfl,h⟩
theorem B3 {x j pos}:PE X (.Constant (.str x) j pos) (tC (.str x)):=λ_ _ _ H _ I h=>Calls.Constant_str ⟨.str x,H,I.tok _,⟨_,rfl⟩,h⟩
def Gl (X:Cx)(x:Str):Prop:=X.env.kindOf x=some .globalImplicit
theorem Wd {E:Value->Shared->Prop}{pins:List (Addr×Obj)}{s:Shared}{σ:St}{H:Hp}{x:Str}{u:Value}{pos:Pos}{Q:Value->Shared->Prop}(I:Inv X pins σ H s)(q:Gl X x)(hm:X.mg x=some u)(h:Q u s)
  (hd:(x==("__debug__":Str))=false:=by decide):wpAny (model X.prog X.w) X.A (eval (.Name x pos) X.env) Q E s:=
 A32 I.ok.kind q (Calls.loadGlobal_global (by rw[I.ok.glob];exact I.mod.glob.keeps I.bk) hm h) hd
theorem Jz {E:Value->Shared->Prop}{pins:List (Addr×Obj)}{s:Shared}{σ:St}{H:Hp}{x:Str}{u:Value}{pos:Pos}{Q:Value->Shared->Prop}(I:Inv X pins σ H s)(q:Gl X x)(hm:X.mg x=none)(F:bootBuiltins x=some u)(h:Q u s)
  (hn:x ≠ "__name__":=by decide) (hd:(x==("__debug__":Str))=false:=by decide):wpAny (model X.prog X.w) X.A (eval (.Name x pos) X.env) Q E s:=by
 obtain⟨mb,h1,h2⟩:=I.mod.blt;exact A32 I.ok.kind q (A4D (by rw[I.ok.glob];exact I.mod.glob.keeps I.bk) hm (by rw[I.ok.blt];exact h1.keeps I.bk) ((h2 x hn).trans F) h) hd
theorem av3 {x:Str}{v:V}{u:Value}{pos:Pos}(q:Gl X x)(hm:X.mg x=some u)(r:RelV v u)(hd:(x==("__debug__":Str))=false:=by decide):PE X (.Name x pos) (tC v):=
 λ_ _ _ H _ I h=>Wd I q hm ⟨v,H,I,r,h⟩ hd
theorem Nv {x:Str}{v:V}{u:Value}{pos:Pos}(q:Gl X x)(hm:X.mg x=none)(F:bootBuiltins x=some u)(r:RelV v u)(hn:x ≠ "__name__":=by decide)(hd:(x==("__debug__":Str))=false:=by decide):PE X (.Name x pos) (tC v):=
 λ_ _ _ H _ I h=>Jz I q hm F ⟨v,H,I,r,h⟩ hn hd
variable {a b:Expr}{ta tb:TE}{pos:Pos}
def tB (t:TE):TT:=fun σ H Q=>t σ H λx H1=>∃ c,x = .bl c/\Q c H1
theorem Mj {e:Expr}{t:TE}(h:PE X e t)(he:∀ F,isTrue e X.env F=(do let v <- F;standAt e.pos;holding [v] (truthy v)):=by intro _;ac_nf):PT X e (tB t):=by
 intro pins s σ H Q I O;refine isTrue_plain (thn (h pins s σ H _ I O) λv Z ⟨x,H1,J,Y,U⟩=>?_) (he _);obtain⟨d,rfl,q⟩:=U
 cases Y;exact A3P ⟨H1,J,q⟩
variable {tA tB':TT}{rest:List Expr}
def aV3 (t u:TT):TT:=fun σ H Q=>t σ H λc H1=>if c=true then u σ H1 Q else Q false H1
def tOr (t u:TT):TT:=fun σ H Q=>t σ H λc H1=>if c=true then Q true H1 else u σ H1 Q
def aV9 (t:TT):TT:=fun σ H Q=>t σ H λc H1=>Q (!c) H1
theorem Oz (ha:PT X a tA):PW X (.BoolOp .And [a] pos) tA:=by
 intro F pins s σ H Q I h;refine isTrue_and (thn (ha pins s σ H Q I h) λc q e=>?_)
 cases c with
 |true=>exact isTrue_and_nil e
 |false=>exact e
theorem Qt (ha:PT X a tA):PW X (.BoolOp .Or [a] pos) tA:=by
 intro F pins s σ H Q I h;refine isTrue_or (thn (ha pins s σ H Q I h) λc q e=>?_)
 cases c with
 |false=>exact isTrue_or_nil e
 |true=>exact e
theorem Ur (ha:PT X a tA)(hb:PW X (.BoolOp .And (b :: rest) pos) tB'):PW X (.BoolOp .And (a :: b :: rest) pos) (aV3 tA tB'):=by
 intro O pins s σ H Q I h;refine isTrue_and (thn (ha pins s σ H _ I h) λc J ⟨H1,q,F⟩=>?_)
 cases c with
 |true=>exact hb O pins J σ H1 Q q F
 |false=>exact⟨H1,q,F⟩
theorem Wj (ha:PT X a tA)(hb:PW X (.BoolOp .Or (b :: rest) pos) tB'):PW X (.BoolOp .Or (a :: b :: rest) pos) (tOr tA tB'):=by
 intro O pins s σ H Q I h;refine isTrue_or (thn (ha pins s σ H _ I h) λc J ⟨H1,q,F⟩=>?_)
 cases c with
 |true=>exact⟨H1,q,F⟩
 |false=>exact hb O pins J σ H1 Q q F
theorem Ug (ha:PT X a tA):PT X (.UnaryOp .Not a pos) (aV9 tA):=by intro pins s σ H Q I h;exact isTrue_not (ha pins s σ H (λc H1=>Q (!c) H1) I h)
def aI8 (ta tb:TE):TE:=fun σ H Q=>ta σ H λx H1=>∃ c,x = .bl c/\if c=true then tb σ H1 Q else Q (.bl false) H1
theorem Vo {op}{t:TE}(h:PE X a t):PE X (.BoolOp op [a] pos) t:=λpins s σ H Q I q=>BoolOp_one (h pins s σ H Q I q)
theorem Mb (ha:PE X a ta)(hb:PE X (.BoolOp .And (b :: rest) pos) tb):PE X (.BoolOp .And (a :: b :: rest) pos) (aI8 ta tb):=by
 intro pins s σ H Q I h;refine BoolOp_and (thn (ha pins s σ H _ I h) λv O ⟨x,H1,F,J,q⟩=>?_);obtain⟨c,rfl,q⟩:=q
 cases J;refine A3P ?_
 cases c with
 |true=>exact hb pins O σ H1 Q F q
 |false=>exact⟨.bl false,H1,F,rfl,q⟩
def tIf (t:TT)(ta tb:TE):TE:=fun σ H Q=>t σ H λc H1=>if c=true then ta σ H1 Q else tb σ H1 Q
theorem Sd {c:Expr}(O:PT X c tA)(ha:PE X a ta)(hb:PE X b tb):PE X (.IfExp c a b pos) (tIf tA ta tb):=by
 intro pins s σ H Q I h;refine wpAny_IfExp (thn (O pins s σ H _ I h) λd J ⟨H1,q,F⟩=>?_)
 cases d with
 |true=>exact ha pins J σ H1 Q q F
 |false=>exact hb pins J σ H1 Q q F
end
def SqL (K:W.Frag)(H:Hp)(a:Addr)(xs:List V):Prop:=
 Rd H a (.lst xs) \/
  ∃(o:Obj) (q:Array Value) (n:Nat),K.lookup a=some o/\o.cls = .type "list" /\ o.dict=none/\o.data = .seq q n/\q.size<=sizeLine/\Vals xs q.toList
def SqT (K:W.Frag)(H:Hp)(a:Addr)(xs:List V):Prop:=
 Rd H a (.tup xs) \/
  ∃(o:Obj) (q:Array Value) (n:Nat),K.lookup a=some o/\o.cls = .type "tuple" /\ o.data = .seq q n/\q.size<=sizeLine/\Vals xs q.toList/\o.dict=none
def absV:Value->Option V
 |.none=>some .non
 |.bool b=>some (.bl b)
 |.int i _=>some (.int i)
 |.str x _=>some (.str x)
 |.bytes b _=>some (.byt b)
 |.float b _=>some (.flt b)
 |.ref a=>some (.ref a)
 |.type n=>some (.ty n)
 |_=>none
theorem RelV.abs {x:V}{u:Value}(r:RelV x u):absV u=some x:=by
 cases x with
 |non=>cases r;rfl
 |bl _=>cases r;rfl
 |int _=>obtain⟨t,rfl⟩:=r;rfl
 |str _=>obtain⟨t,rfl⟩:=r;rfl
 |byt _=>obtain⟨t,rfl⟩:=r;rfl
 |flt _=>obtain⟨t,rfl⟩:=r;rfl
 |ref _=>cases r;rfl
 |ty _=>cases r;rfl
theorem RelV.inj {x y:V}{u:Value}(r:RelV x u)(q:RelV y u):x=y:=A15 (r.abs.symm.trans q.abs)
theorem Vals.inj:∀ {xs ys:List V} {us:List Value},Vals xs us->Vals ys us->xs=ys
 |_,_,_,.nil,.nil=>rfl
 |_,_,_,.cons r t,.cons r' t'=>by rw[r.inj r',Vals.inj t t']
section
variable {X:Cx}{pins:List (Addr×Obj)}{σ:St}{H:Hp}{s:Shared}{a:Addr}{xs ys:List V}
theorem SqL.of {K:W.Frag}(h:H a=some (.lst xs)):SqL K H a xs:=.inl (.inl h)
theorem SqT.of {K:W.Frag}(h:H a=some (.tup xs)):SqT K H a xs:=.inl (.inl h)
theorem Inv.list (I:Inv X pins σ H s)(h:SqL X.K H a xs):∃ q:List Value,Vals xs q/\PlainL s.heap a q.toArray/\xs.length<=sizeLine:=by
 rcases h with h|⟨o,q,n,J,F,hd,O,hz,r⟩
 . obtain⟨z,q,n,r,e⟩:=h.ok I.hok;exact⟨q,r,⟨_,n,e,rfl,rfl,rfl⟩,z⟩
 refine⟨q.toList,r,⟨o,n,I.kIn a o J,F,hd,by simpa using O⟩,?_⟩;have e:=r.length;simp only[Array.length_toList] at e;omega
theorem Inv.tuple (I:Inv X pins σ H s)(h:SqT X.K H a xs):∃ q:List Value,Vals xs q/\IsTup s.heap a q.toArray/\xs.length<=sizeLine:=by
 rcases h with h|⟨o,q,n,J,F,O,hz,r,hn⟩
 . obtain⟨z,q,r,p⟩:=h.ok I.hok;exact⟨q,r,p.tup,z⟩
 refine⟨q.toList,r,⟨o,I.kIn a o J,F,n,by simpa using O⟩,?_⟩;have e:=r.length;simp only[Array.length_toList] at e;omega
theorem Inv.tupleN (I:Inv X pins σ H s)(h:SqT X.K H a xs):∃ ob,s.heap.get? a=some ob/\ob.dict=none:=by
 rcases h with h|⟨o,F,n,q,J,O,hz,r,hn⟩
 . obtain⟨z,F,r,o,h1,_,_,h2⟩:=h.ok I.hok;exact⟨o,h1,h2⟩
 exact⟨o,I.kIn a o q,hn⟩
theorem Inv.list_inj (I:Inv X pins σ H s)(h:SqL X.K H a xs)(h':SqL X.K H a ys):xs=ys:=by
 obtain⟨F,r,⟨o,n,e,_,_,d⟩,_⟩:=I.list h;obtain⟨its',r',⟨o',J,q,_,_,d'⟩,_⟩:=I.list h';rw[e] at q;cases q;rw[d] at d';injection d' with d1 _;have:F=its':=by simpa using congrArg Array.toList d1
 subst this;exact r.inj r'
theorem Inv.tuple_inj (I:Inv X pins σ H s)(h:SqT X.K H a xs)(h':SqT X.K H a ys):xs=ys:=by
 obtain⟨F,r,⟨o,e,_,n,d⟩,_⟩:=I.tuple h;obtain⟨its',r',⟨o',q,_,J,d'⟩,_⟩:=I.tuple h';rw[e] at q;cases q;rw[d] at d';injection d' with d1 _;have:F=its':=by simpa using congrArg Array.toList d1
 subst this;exact r.inj r'
end
abbrev Cx.wish (X:Cx)(E:Value->Shared->Prop):Cx:={X with xe:=E}
abbrev Cx.nox (X:Cx):Cx:=X.wish λ_ _=>False
theorem Cx.Ok.wish {X:Cx}(ok:X.Ok)(E:Value->Shared->Prop):(X.wish E).Ok:=
 ⟨ok.mod,ok.kind,ok.glob,ok.blt,ok.above,ok.inj,ok.has,ok.cab,ok.hd,ok.frames,ok.stk,ok.exf,ok.bs,ok.bsz,ok.noex,ok.exfs,ok.funs,ok.frf⟩
theorem Cx.Ok.unwish {X:Cx}{E:Value->Shared->Prop}(ok:(X.wish E).Ok):X.Ok:=
 ⟨ok.mod,ok.kind,ok.glob,ok.blt,ok.above,ok.inj,ok.has,ok.cab,ok.hd,ok.frames,ok.stk,ok.exf,ok.bs,ok.bsz,ok.noex,ok.exfs,ok.funs,ok.frf⟩
section
variable {X:Cx}{pins:List (Addr×Obj)}{σ:St}{H:Hp}{s:Shared}{E:Value->Shared->Prop}
theorem Inv.wish (I:Inv X pins σ H s)(E:Value->Shared->Prop):Inv (X.wish E) pins σ H s:=⟨I.ok.wish E,I.os,I.bare,I.base,I.loc,I.cell,I.free,I.freeC,I.pin,I.hok,I.len⟩
theorem Inv.unwish (I:Inv (X.wish E) pins σ H s):Inv X pins σ H s:=⟨I.ok.unwish,I.os,I.bare,I.base,I.loc,I.cell,I.free,I.freeC,I.pin,I.hok,I.len⟩
theorem SP.unwish {D:Ph}{f:Flow}{s':Shared}(h:SP (X.wish E) pins D f s'):SP X pins D f s':=by
 cases f with
 |next=>obtain⟨σ',H',I,q⟩:=h;exact⟨σ',H',I.unwish,q⟩
 |brk=>obtain⟨σ',H',I,q⟩:=h;exact⟨σ',H',I.unwish,q⟩
 |cont=>obtain⟨σ',H',I,q⟩:=h;exact⟨σ',H',I.unwish,q⟩
 |ret u=>obtain⟨v,σ',H',I,r,q⟩:=h;exact⟨v,σ',H',I.unwish,r,q⟩
theorem PSs.nox {st:List Stmt}{t:TS}(h:PSs X.nox st t):PSs X st t:=λpins s σ H D I F=>A26 (h pins s σ H D (I.wish _) F) (λ_ _ q=>q.unwish) λ_ _ z=>False.elim z
end
section
variable {X:Cx}{st:Stmt}{rest:List Stmt}{t u:TS}{e:Expr}{te:TE}{pos:Pos}
def aL4:TS:=λD σ H=>D.nx σ H
def aQ7 (t u:TS):TS:=λD σ H=>t {D with nx:=u D} σ H
theorem Ay:PSs X [] aL4:=λ_ _ σ H _ I h=>A4M ⟨σ,H,I,h⟩
theorem A3 (h1:PS X st t) (h2:PSs X rest u):PSs X (st :: rest) (aQ7 t u):=by
 intro pins s σ H D I h;refine wpAny_execs_cons (thn (h1 pins s σ H {D with nx:=u D} I h) λf J q=>?_)
 cases f with
 |next=>obtain⟨σ',H',F,q⟩:=q;exact h2 pins J σ' H' D F q
 |ret v=>exact q
 |brk=>exact q
 |cont=>exact q
theorem A7 (h1:PS X st t):PSs X [st] t:=by
 intro pins s σ H D I h;refine wpAny_execs_cons (thn (h1 pins s σ H D I h) λf F q=>?_)
 cases f with
 |next=>exact A4M q
 |ret v=>exact q
 |brk=>exact q
 |cont=>exact q
theorem Inv.quiet {pins:List (Addr×Obj)}{σ:St}{H:Hp}{s:Shared}(I:Inv X pins σ H s):interactive X.env=false:=by simp[interactive,I.ok.kind]
def aG0 (te:TE):TS:=λD σ H=>te σ H λ_ H1=>D.nx σ H1
theorem Et (he:PE X e te)(F:swapsWith e none pos.line X.env=pure false:=by ac_nf):PS X (.Expr e pos) (aG0 te):=by intro pins s σ H D I h;exact wpAny_Expr_any (thn (he pins s σ H _ I h) λv U ⟨x,H1,q,O,J⟩=>⟨σ,H1,q,J⟩) I.quiet F
def aW0 (te:TE):TS:=λD σ H=>te σ H D.rt
theorem Ao (he:PE X e te):PS X (.Return (some e) pos) (aW0 te):=by intro pins s σ H D I h;exact wpAny_Return_some (thn (he pins s σ H _ I h) λv O ⟨x,H1,q,J,F⟩=>⟨x,σ,H1,q,J,F⟩)
def aU6 (c:TT)(t u:TS):TS:=λD σ H=>c σ H λb H1=>if b=true then t D σ H1 else u D σ H1
theorem Co {c:Expr}{a b:List Stmt}{tc:TT}(O:PT X c tc)(ha:PSs X a t)(hb:PSs X b u):PS X (.If c a b pos) (aU6 tc t u):=by
 intro pins s σ H D I h;refine wpAny_If (thn (O pins s σ H _ I h) λd J ⟨H1,q,F⟩=>?_)
 cases d with
 |true=>exact ha pins J σ H1 D q F
 |false=>exact hb pins J σ H1 D q F
def aI9:TS:=λ_ _ _=>False
theorem La:PS X st aI9:=λ_ _ _ _ _ _ h=>h.elim
end
abbrev TG:=V->St->Hp->(St->Hp->Prop)->Prop
abbrev TGs:=List V->St->Hp->(St->Hp->Prop)->Prop
def PG (X:Cx)(q:Expr)(t:TG):Prop:=
 ∀(pins:List (Addr×Obj)) (s:Shared) (σ:St) (H:Hp) (v:V) (u:Value) (Q:St->Hp->Prop),Inv X pins σ H s->RelV v u->t v σ H Q ->
  wpAny (model X.prog X.w) X.A (assign q X.env u) (λ_ s'=>∃ σ' H',Inv X pins σ' H' s'/\Q σ' H') X.xe s
def PGs (X:Cx)(q:List Expr)(t:TGs):Prop:=
 ∀(pins:List (Addr×Obj)) (s:Shared) (σ:St) (H:Hp) (vs:List V) (us:List Value) (Q:St->Hp->Prop),Inv X pins σ H s->Vals vs us->t vs σ H Q ->
  wpAny (model X.prog X.w) X.A (assignInOrder ((assignEach q X.env).map (·.2)) us) (λ_ s'=>∃ σ' H',Inv X pins σ' H' s'/\Q σ' H') X.xe s
section
variable {X:Cx}{pos:Pos}
def Kl (i:Nat):TG:=λv σ H Q=>Q (σ.set i (some v)) H
theorem Ag {i:Nat}{x:Str}(F:X.N.Nodup)(hi:X.N[i]? = some x)(J:Loc X.env.scope x)(hf:X.fn x=true\/X.env.scope.names.lookup x=some .local:=by with_unfolding_all (first | exact .inl rfl | exact .inr rfl | assumption)):PG X (.Name x pos) (Kl i):=by intro pins s σ H v u Q I r h;exact wpAny_assign_Name (X3 I F hi J r (λs' q=>⟨_,H,q,h⟩) hf)
def aE1:TGs:=λvs σ H Q=>vs=[]/\Q σ H
def Pk (t:TG)(u:TGs):TGs:=λvs σ H Q=>∃ v r,vs=v :: r/\t v σ H fun σ' H'=>u r σ' H' Q
theorem Nb:PGs X [] aE1:=by
 intro pins s σ H vs us Q I r h;obtain⟨e,h⟩:=h;subst e
 cases r;exact assignInOrder_nil ⟨σ,H,I,h⟩
theorem Fk {e:Expr}{es:List Expr}{t:TG}{u:TGs}(h1:PG X e t)(h2:PGs X es u)
  (J:(assignEach (e :: es) X.env).map (·.2)=assign e X.env :: (assignEach es X.env).map (·.2):=by ac_nf):PGs X (e :: es) (Pk t u):=by
 intro pins s σ H vs us Q I r h;obtain⟨v,Y,F,h⟩:=h;subst F
 cases r with
 |cons r rr=>rw[J];refine assignInOrder_cons (thn (h1 pins s σ H _ _ _ I r h) λ_ U ⟨σ1,H1,q,O⟩=>?_);exact h2 pins U σ1 H1 _ _ Q q rr O
def aB2 (K:W.Frag)(n:Nat)(t:TGs):TG:=λv σ H Q=>∃ a xs,v = .ref a/\SqT K H a xs/\xs.length=n/\t xs σ H Q
theorem aM6 {es:List Expr}{k:Nat}{t:TGs}{n:Nat}(U:X.calm=true)(h:PGs X es t)
  (hn:(assignEach es X.env).length=n:=by ac_nf) (a0:(assignEach es X.env).findIdx? (·.1)=none:=by ac_nf):PG X (.Tuple es k pos) (aB2 X.K n t):=by
 intro pins s σ H v u Q I r q;obtain⟨a,xs,O,Z,Y,q⟩:=q;subst O
 cases r;obtain⟨a1,F,ht,hz⟩:=I.tuple Z;refine assign_Tuple_tuple (I.ok.hd U) ht (by simp[hn,<- Y,F.length]) a0 λh' hx=>?_;have J:Inv X pins σ H {s with heap:=h'}:=I.kept (t':=s.toks) λb o e=>hx b o (A11 (A0D e)) e
 exact h pins _ σ H xs _ Q J (by simpa using F) q
def aD6 (te:TE)(g:TG):TS:=λD σ H=>te σ H λx H1=>g x σ H1 D.nx
theorem ap8 {tg e:Expr}{te:TE}{g:TG}(he:PE X e te)(J:PG X tg g)(O:swapsWithSole [tg] e pos.line X.env=pure false:=by ac_nf)(U:swappedStores [tg] e X.env=pure none:=by ac_nf)
  (h1:(assignEach [tg] X.env).map (·.2)=[assign tg X.env]:=by ac_nf):PS X (.Assign [tg] e pos) (aD6 te g):=by
 intro pins s σ H D I h;refine wpAny_Assign_stores (thn (he pins s σ H _ I h) λv s1 ⟨x,H1,F,Z,Y⟩=>?_) O U;rw[h1];exact thn (J pins s1 σ H1 x v _ F Z Y) λ_ s2 q=>q
theorem A9 {i:Nat}{x:Str}{e:Expr}{te:TE}{pos':Pos}(J:X.N.Nodup)(hi:X.N[i]? = some x)(U:Loc X.env.scope x)(he:PE X e te)(O:swapsWith e (some (.Name x pos')) pos.line X.env=pure false:=by ac_nf)(hf:X.fn x=true\/X.env.scope.names.lookup x=some .local:=by with_unfolding_all (first | exact .inl rfl | exact .inr rfl | assumption)) :
  PS X (.Assign [.Name x pos'] e pos) (aD6 te (Kl i)):=by
 intro pins s σ H D I h;refine wpAny_Assign_Name (thn (he pins s σ H _ I h) λv s1 ⟨y,H1,q,Z,Y⟩=>?_) O;exact X3 q J hi U Z (λs2 F=>⟨_,H1,F,Y⟩) hf
def as6 (c:TT)(tb:TS):TS:=λD σ H=>∃ W:Nat->St->Hp->Prop,(∃ m,W m σ H)/\∀ m σ H,W m σ H ->
 c σ H λb H1=>if b=true then ∃ N:St->Hp->Prop,(∀ σ' H',N σ' H'->∃ q,q<m/\W q σ' H')/\tb {D with nx:=N,ct:=N,bk:=D.nx} σ H1 else D.nx σ H1
theorem Xq {c:Expr}{a0:List Stmt}{tc:TT}{tb:TS}(hp:PassesOwn (model X.prog X.w) X.A X.env X.xe)(hc:PT X c tc)(hb:PSs X a0 tb):PS X (.While c a0 [] pos) (as6 tc tb):=by
 intro pins s σ H D I h;obtain⟨W,⟨m0,w0⟩,turn⟩:=h;refine wpAny_While (codeAny_whileLoop (λn s'=>∃ σ' H',Inv X pins σ' H' s'/\W n σ' H') ?_ m0 ⟨σ,H,I,w0⟩);rintro n s1 ⟨σ1,H1,I1,w1⟩;refine A2X hp (thn (hc pins s1 σ1 H1 _ I1 (turn n σ1 H1 w1)) λb s2 ⟨H2,I2,F⟩=>?_)
 cases b with
 |true=>
   obtain ⟨N,hN,F⟩:=F;rw[A0Z rfl];refine A2X hp (thn (hb pins s2 σ1 H2 _ I2 F) λf s3 J=>?_)
   cases f with
   |next=>obtain⟨σ3,q,O,Y⟩:=J;obtain⟨U,hm,Z⟩:=hN σ3 q Y;exact⟨U,hm,σ3,q,O,Z⟩
   |cont=>obtain⟨σ3,q,O,Y⟩:=J;obtain⟨U,hm,Z⟩:=hN σ3 q Y;exact⟨U,hm,σ3,q,O,Z⟩
   |brk=>exact J
   |ret v=>exact J
 |false=>rw[A0Q A0J];exact A4M ⟨σ1,H2,I2,F⟩
end
structure It where
 go:Nat->Hp->Prop
 yld:Nat->Hp->V->Hp->Prop
 stop:Nat->Hp->Prop
def Xz (X:Cx)(pins:List (Addr×Obj))(H:Hp)(b:Addr):Prop:=
 H b=none/\b≠X.env.locals/\b∉X.fs/\(b∈X.ex\/X.s₀.heap.objs.size<=b)/\(∀ x c,X.env.cells.lookup x=some c->c≠b)/\∀ p∈X.pn++pins,p.1≠b
theorem Inv.fpOk {X:Cx}{pins:List (Addr×Obj)}{σ:St}{H H':Hp}{s:Shared}{b:Addr}(I:Inv X pins σ H s)(hb:s.heap.objs.size<=b)(hn:H' b=none):Xz X pins H' b:=by
 refine⟨hn,A4N (A18 I.lt hb),I.nofs hb,.inr (A0O I.sz hb),λx c e z=>?_,λp hp z=>?_⟩
 . obtain⟨v,q⟩:=I.cell x c e;exact absurd (A18 q.lt (by rw[z];exact hb)) (A1P _)
 exact absurd (A18 (A0D (I.pin p hp).1) (by rw[z];exact hb)) (A1P _)
structure a55 (P:Program)(w:World)(K:W.Frag)(tg:Expr)(J:It)(fp:List Addr)(it:Addr)(tn:Nat->Heap->Prop):Prop where
 mem:it∈fp
 obj:∀ i h,tn i h->∀ b∈fp,∃ o,h.get? b=some o/\∀ v,o.data ≠ .cell v
 keep:∀ i h h',tn i h->(∀ b∈fp,∀ o,h.get? b=some o->h'.get? b=some o)->tn i h'
 item:∀(X:Cx),X.prog=P->X.w=w->X.K=K->X.calm=true->∀(i:Nat) (pins:List (Addr×Obj)) (s:Shared) (σ:St) (H:Hp) (E:Value->Shared->Prop),Inv X pins σ H s->(∀ b∈fp,Xz X pins H b)->tn i s.heap->J.go i H ->
  wpAny (model P w) X.A (pyNext (.ref it)) (λr s1=>∃ u,r=some u /\
   wpAny (model P w) X.A (letOwnedTupleGo tg (.ref it) u) (λ_ s2=>∃ x H',Inv X pins σ H' s2/\RelV x u/\J.yld i H x H'/\tn (i+1) s2.heap/\∀ b∈fp,H' b=none) E s1) E s
 done:∀(X:Cx),X.prog=P->X.w=w->X.K=K->X.calm=true->∀(i:Nat) (pins:List (Addr×Obj)) (s:Shared) (σ:St) (H:Hp) (E:Value->Shared->Prop),Inv X pins σ H s->(∀ b∈fp,Xz X pins H b)->tn i s.heap->J.stop i H ->
  wpAny (model P w) X.A (pyNext (.ref it)) (λr s1=>r=none/\Inv X pins σ H s1) E s
 self:∀(A:Around) (i:Nat) (s:Shared) (Q:Value->Shared->Prop) (E:Value->Shared->Prop),tn i s.heap->Q (.ref it) s->wpAny (model P w) A (pyIter (.ref it)) Q E s
abbrev TI:=St->Hp->(It->Hp->Prop)->Prop
def PIE (X:Cx)(pins:List (Addr×Obj))(σ:St)(tg:Expr)(R:It->Hp->Prop)(F:Value)(q:Shared):Prop:=
 ∃(it:Addr) (fp:List Addr) (tn:Nat->Heap->Prop) (J:It) (H':Hp),F = .ref it/\Inv X pins σ H' q/\a55 X.prog X.w X.K tg J fp it tn/\tn 0 q.heap/\(∀ b∈fp,Xz X pins H' b)/\R J H'
def PI (X:Cx)(tg q:Expr)(J:TI):Prop:=
 ∀(pins:List (Addr×Obj)) (s:Shared) (σ:St) (H:Hp) (R:It->Hp->Prop),Inv X pins σ H s->J σ H R ->
  wpAny (model X.prog X.w) X.A (eval q X.env) (λv F=>wpAny (model X.prog X.w) X.A (pyIter v) (PIE X pins σ tg R) X.xe F) X.xe s
theorem Zk {M:Model}{A:Around}{E:Value->Shared->Prop}{s:Shared}{tg:Expr}{it:Addr}{u:Value}{o:Obj}{n:String}{vs:Array Value}{Q:Unit->Shared->Prop}(J:s.heap.get? it=some o)(F:o.cls = .type n)(hd:o.data = .fields vs)
  (hn:["enumerate","zip","dict_itemiterator","dict_reverseitemiterator","odict_iterator","itertools.zip_longest","itertools.pairwise"].contains n=false) (q:Q () s):wpAny M A (letOwnedTupleGo tg (.ref it) u) Q E s:=by
 unfold letOwnedTupleGo
 cases tg<;>first
  |exact A0K q
  | (cases u<;>first
    |exact A0K q
    | (refine A05 (wpAny_load J ?_)
       rw[F,hd];show wpAny M A (if(["enumerate","zip","dict_itemiterator","dict_reverseitemiterator","odict_iterator","itertools.zip_longest","itertools.pairwise"].contains n&&vs[0]? == some (rawInt _))=true then _ else _) Q E s
       rw[A0Q (by intro h;rw[hn,Bool.false_and] at h;cases h)];exact A0K q))
def Itl (K:W.Frag)(a:Addr):It:=
 ⟨λi H=>∃ xs x,SqL K H a xs/\xs[i]? = some x,λi H x H'=>H'=H/\∀ xs,SqL K H a xs->xs[i]? = some x,λi H=>∃ xs,SqL K H a xs/\xs.length<=i⟩
def Itt (K:W.Frag)(a:Addr):It:=
 ⟨λi H=>∃ xs x,SqT K H a xs/\xs[i]? = some x,λi H x H'=>H'=H/\∀ xs,SqT K H a xs->xs[i]? = some x,λi H=>∃ xs,SqT K H a xs/\xs.length<=i⟩
def Itr (lo:Int)(n:Nat):It:=⟨λi _=>i<n,λi H x H'=>H'=H/\x = .int (lo+i),λi _=>n<=i⟩
theorem aa9 {P:Program}{w:World}{K:W.Frag}{tg:Expr}(a it:Addr):a55 P w K tg (Itl K a) [it] it (λi h=>h.IsListIter it a i) where
 mem:=by simp
 obj:=λi h st b hb=>by
  have e:b=it:=by simpa using hb
  subst e;obtain⟨o,e,c,d⟩:=st;exact⟨o,e,λv z=>by rw[d] at z;cases z⟩
 keep:=λi h h' st k=>st.at λo e=>k it (by simp) o e
 item:=by
  intro X hP hw Z hc i pins s σ H E I hf st hg;subst hP hw Z;obtain⟨xs,x,q,hx⟩:=hg;obtain⟨a1,rv,p,hz⟩:=I.list q;obtain⟨u,hu,ru⟩:=rv.get hx;obtain⟨F,J,f2,O,U,Y⟩:=hf it (by simp);refine wpAny_pyNext_list_item st p.isList (x:=u) (by simpa using hu) λh' a0 sb=>?_;have I1:Inv X pins σ H {s with heap:=h'}:=I.turned (t':=s.toks) (λb o hb e=>(sb.2 b hb).trans e) F J O U Y
  obtain⟨o,e,c,d⟩:=id a0;exact⟨u,rfl,Zk (s:={s with heap:=h'}) e c d nofun ⟨x,H,I1,ru,⟨rfl,λys hy=>by rw[I.list_inj hy q];exact hx⟩,a0,λb hb=>(hf b hb).1⟩⟩
 done:=by intro X hP hw Z hc i pins s σ H E I hf st hg;subst hP hw Z;obtain⟨xs,q,hx⟩:=hg;obtain⟨a1,rv,p,hz⟩:=I.list q;obtain⟨F,J,f2,O,U,Y⟩:=hf it (by simp);have hl:=rv.length;exact wpAny_pyNext_list_end (I.ok.hd hc) st p.isList (by simp;omega) λh' eb=>⟨rfl,I.turned (t':=s.toks) (λb o hb e=>eb b o hb e) F J O U Y⟩
 self:=λ_ _ _ _ _ st h=>wpAny_pyIter_listiter st h
theorem Zd {P:Program}{w:World}{K:W.Frag}{tg:Expr}(a it:Addr):a55 P w K tg (Itt K a) [it] it (λi h=>h.IsTupleIter it a i) where
 mem:=by simp
 obj:=λi h st b hb=>by
  have e:b=it:=by simpa using hb
  subst e;obtain⟨o,e,c,d⟩:=st;exact⟨o,e,λv z=>by rw[d] at z;cases z⟩
 keep:=λi h h' st k=>st.at λo e=>k it (by simp) o e
 item:=by
  intro X hP hw Z hc i pins s σ H E I hf st hg;subst hP hw Z;obtain⟨xs,x,q,hx⟩:=hg;obtain⟨a0,rv,p,hz⟩:=I.tuple q;obtain⟨u,hu,ru⟩:=rv.get hx;obtain⟨F,J,f2,O,U,Y⟩:=hf it (by simp);refine wpAny_pyNext_tuple_item st (show s.heap.IsTuple a a0.toArray from p) (x:=u) (by simpa using hu) λh' a1 sb=>?_;have I1:Inv X pins σ H {s with heap:=h'}:=I.turned (t':=s.toks) (λb o hb e=>(sb.2 b hb).trans e) F J O U Y
  obtain⟨o,e,c,d⟩:=id a1;exact⟨u,rfl,Zk (s:={s with heap:=h'}) e c d nofun ⟨x,H,I1,ru,⟨rfl,λys hy=>by rw[I.tuple_inj hy q];exact hx⟩,a1,λb hb=>(hf b hb).1⟩⟩
 done:=by intro X hP hw Z hc i pins s σ H E I hf st hg;subst hP hw Z;obtain⟨xs,q,hx⟩:=hg;obtain⟨a0,rv,p,hz⟩:=I.tuple q;obtain⟨F,J,f2,O,U,Y⟩:=hf it (by simp);have hl:=rv.length;exact wpAny_pyNext_tuple_end (I.ok.hd hc) st (show s.heap.IsTuple a a0.toArray from p) (by simp;omega) λh' eb=>⟨rfl,I.turned (t':=s.toks) (λb o hb e=>eb b o hb e) F J O U Y⟩
 self:=λ_ _ _ _ _ st h=>wpAny_pyIter_tupleiter st h
theorem Zj {P:Program}{w:World}{K:PySem.W.Frag}{tg:Expr}(it:Addr)(lo:Int)(n:Nat):a55 P w K tg (Itr lo n) [it] it (λi h=>IsRangeIter h it (lo+(i:Nat)*1) ((n:Int)-(i:Nat)) 1) where
 mem:=by simp
 obj:=λi h st b hb=>by
  have e:b=it:=by simpa using hb
  subst e
  exact⟨_,st,λv z=>by
   have z':Data.fields _=Data.cell v:=z
   cases z'⟩
 keep:=λi h h' st k=>k it (by simp) _ st
 item:=by
  intro X Z hw Y hc i pins s σ H E I hf st hg;subst Z hw Y;obtain⟨q,F,f2,J,O,U⟩:=hf it (by simp);have W:=Walks.range (prog:=X.prog) (w:=X.w) (I.ok.hd hc) it lo 1 n;refine W.item i s _ _ hg st λv h' tk hv a0 kk=>?_;obtain⟨t,rfl⟩:=hv;have I1:Inv X pins σ H {s with heap:=h',toks:=tk}:=I.turned (λb o hb e=>kk b o (by simpa using hb) e) q F J O U
  refine⟨_,rfl,Zk (s:={s with heap:=h',toks:=tk}) (n:="range_iterator") a0 rfl rfl nofun ⟨.int (lo+i),H,I1,⟨t,?_⟩,⟨rfl,rfl⟩,a0,λb hb=>(hf b hb).1⟩⟩
  rw[Int.mul_one]
 done:=by intro X Z hw Y hc i pins s σ H E I hf st hg;subst Z hw Y;obtain⟨q,F,f2,J,O,U⟩:=hf it (by simp);exact wpAny_pyNext_range_end (I.ok.hd hc) st (by have:n<=i:=hg;omega) λh' eb=>⟨rfl,I.turned (t':=s.toks) (λb o hb e=>eb b o hb e) q F J O U⟩
 self:=λ_ _ _ _ _ st h=>wpAny_pyIter_rangeiter st h
section
variable {X:Cx}{tg:Expr}
theorem Y5 {pins:List (Addr×Obj)}{σ:St}{H:Hp}{s:Shared}{R:It->Hp->Prop}{E:Value->Shared->Prop}{lo hi:Int}{t u v:Tok}{tk:Nat}(I:Inv X pins σ H s)(h1:-(2 ^ 62)<=lo)(h2:lo<2 ^ 62)(U:-(2 ^ 62)<=hi)(Y:hi<2 ^ 62)
  (q:R (Itr lo (hi-lo).toNat) H):wpAny (model X.prog X.w) X.A (pyIter (.ref s.heap.objs.size)) (PIE X pins σ tg R) E {s with heap:=s.heap.push {cls:=.type "range",data:=.fields #[.int lo t,.int hi u,.int 1 v]},toks:=tk}:=by
 refine wpAny_pyIter_range (IsRange.new ..) (small_one h1 h2 U Y) ?_;have F:Inv X pins σ H {s with heap:=s.heap.push {cls:=.type "range",data:=.fields #[.int lo t,.int hi u,.int 1 v]},toks:=tk}:=I.kept λb o e=>A02 _ e
 refine⟨(s.heap.push {cls:=.type "range",data:=.fields #[.int lo t,.int hi u,.int 1 v]}).objs.size,[(s.heap.push {cls:=.type "range",data:=.fields #[.int lo t,.int hi u,.int 1 v]}).objs.size],_,_,H,rfl,
  F.kept (t':=tk) λb o e=>A02 _ e,Zj _ lo (hi-lo).toNat,?_,λb hb=>?_,q⟩
 . have J:lo+((0:Nat):Int)*1=lo:=by simp
   have O:(((hi-lo).toNat:Nat):Int)-((0:Nat):Int)=Builtin.Range.rangeSize lo hi 1:=by rw[rangeSize_one];split<;>omega
   show IsRangeIter _ _ (lo+((0:Nat):Int)*1) ((((hi-lo).toNat:Nat):Int)-((0:Nat):Int)) 1;rw[J,O];exact A0I _ rfl
 have e:b=(s.heap.push {cls:=.type "range",data:=.fields #[.int lo t,.int hi u,.int 1 v]}).objs.size:=by simpa using hb
 subst e;exact F.fpOk (A08 _) (F.hok.fresh (A08 _))
def aI5 (ta:TA):TI:=fun σ H R=>ta σ H λvs H1=>∃ j:Int,vs=[.int j] /\ -(2 ^ 62)<=j/\j<2 ^ 62/\R (Itr 0 j.toNat) H1
def aO7 (ta:TA):TI:=fun σ H R=>ta σ H λvs H1=>∃ i j:Int,vs=[.int i,.int j]/\(-(2 ^ 62)<=i/\i<2 ^ 62 /\ -(2 ^ 62)<=j/\j<2 ^ 62)/\R (Itr i (j-i).toNat) H1
theorem Eh {a:Expr}{ta:TA}{p pos:Pos}(O:Gl X "range")(hm:X.mg "range" = none)(ha:PA X [a] ta)(U:starEach [a] X.env=[(false,eval a X.env)]:=by ac_nf):PI X tg (.Call (.Name "range" p) [a] [] pos) (aI5 ta):=by
 intro pins s σ H R I h;refine Call_ (Jz I O hm boot_range (A1W (thn (ha pos pins s σ H _ I h) λus s1 ⟨vs,H1,J,Z,F⟩=>?_) U rfl));obtain⟨j,e,F,Y,q⟩:=F;subst e
 cases Z with
 |cons r rr=>cases rr;obtain⟨t,rfl⟩:=r;exact call_range_1 (Y5 J ∅ ∅ F Y (by simpa using q))
theorem aa5 {a b:Expr}{ta:TA}{p pos:Pos}(U:Gl X "range")(hm:X.mg "range" = none)(ha:PA X [a,b] ta)(Y:starEach [a,b] X.env=[(false,eval a X.env),(false,eval b X.env)]:=by ac_nf)(J:starEach [b] X.env=[(false,eval b X.env)]:=by ac_nf) :
  PI X tg (.Call (.Name "range" p) [a,b] [] pos) (aO7 ta):=by
 intro pins s σ H R I h;refine Call_ (Jz I U hm boot_range (A1W (thn (ha pos pins s σ H _ I h) λus s1 ⟨vs,H1,O,r1,F⟩=>?_) (by rw[Y,J]) (by rw[J];rfl)));obtain⟨i,j,e,⟨F,Z,q3,q4⟩,q⟩:=F;subst e
 cases r1 with
 |cons r rr=>
   cases rr with
   |cons r' rr=>cases rr;obtain⟨t,rfl⟩:=r;obtain⟨t',rfl⟩:=r';exact call_range_2 (Y5 O F Z q3 q4 q)
def aV1 (F:TI)(g:TG)(tb:TS):TS:=λD σ H=>F σ H λJ H1=>∃ W:Nat->Nat->St->Hp->Prop,(∃ m,W 0 m σ H1)/\∀ i m σ H,W i m σ H ->
 (J.stop i H/\D.nx σ H)\/(J.go i H/\∃ N:St->Hp->Prop,(∀ σ' H',N σ' H'->∃ q,q<m/\W (i+1) q σ' H')/\∀ x H',J.yld i H x H'->g x σ H' fun σ2 H2=>tb {D with nx:=N,ct:=N,bk:=D.nx} σ2 H2)
def Tw (fp:List Addr)(h:Heap):List (Addr×Obj):=fp.filterMap λb=>(h.get? b).map λo=>(b,o)
theorem Ji {fp:List Addr}{h:Heap}{b:Addr}{o:Obj}(hb:b∈fp)(e:h.get? b=some o):(b,o)∈Tw fp h:=A54.mpr ⟨b,hb,by rw[e];rfl⟩
theorem a99 {fp:List Addr} {h:Heap} {p:Addr×Obj} (hp:p∈Tw fp h):p.1∈fp/\h.get? p.1=some p.2:=by
 obtain⟨b,hb,e⟩:=A54.mp hp
 cases q:h.get? b with
 |none=>rw[q] at e;cases e
 |some o=>rw[q] at e;have F:(b,o)=p:=A15 e;subst F;exact⟨hb,q⟩
theorem Inv.pinned {pins:List (Addr×Obj)}{σ:St}{H:Hp}{s:Shared}{fp:List Addr}(I:Inv X pins σ H s)(hf:∀ b∈fp,Xz X pins H b)(U:∀ b∈fp,∃ o,s.heap.get? b=some o/\∀ v,o.data ≠ .cell v):Inv X (pins++Tw fp s.heap) σ H s:=
 I.pins_of λp hp=>(A0C.mp hp).elim (λz=>I.pin p (A12 _ z)) λz=>by obtain⟨hb,e⟩:=a99 z;obtain⟨F,J,O,_⟩:=hf p.1 hb;obtain⟨o,q,d⟩:=U p.1 hb;rw[e] at q;cases q;exact⟨e,F,J,O,d⟩
theorem Inv.unpinned {pins pl:List (Addr×Obj)}{σ:St}{H:Hp}{s:Shared}(I:Inv X (pins++pl) σ H s):Inv X pins σ H s:=I.pins_of λp hp=>I.pin p (A12 _ (A0M _ hp))
theorem C5 {a0:Expr}{a3:List Stmt}{wi:TI}{g:TG}{tb:TS}{pos:Pos}(hp:PassesOwn (model X.prog X.w) X.A X.env X.xe)(hc:X.calm=true)(hi:PI X tg a0 wi)(hg:PG X tg g)(hb:PSs X a3 tb)
  (hs:∀ x,foldedSetIterable a0 X.env x=pure x:=by intro _;ac_nf):PS X (.For tg a0 a3 [] pos) (aV1 wi g tb):=by
 intro pins s σ H D I h;refine wpAny_For (thn (hi pins s σ H _ I h) λv s1 h1=>thn h1 λa9 s2 h2=>?_) hs;obtain⟨it,fp,tn,J,H2,e,I2,T,a8,f2,W,⟨m0,w0⟩,turn⟩:=h2;subst e;have a2:∀ {H':Hp},(∀ b∈fp,H' b=none)->∀ b∈fp,Xz X pins H' b:=λhn b hb=>⟨hn b hb,(f2 b hb).2⟩;refine codeAny_forLoop_any (λn s'=>∃ i σ' H',Inv X pins σ' H' s'/\tn i s'.heap/\(∀ b∈fp,H' b=none)/\W i n σ' H') ?_ m0 ⟨0,σ,H2,I2,a8,λb hb=>(f2 b hb).1,w0⟩;rintro n s3 ⟨i,σ3,Y,I3,a5,a4,w3⟩;rcases turn i n σ3 Y w3 with ⟨stop,qn⟩|⟨go,N,hN,step⟩
 . refine A2X hp (thn (T.done X rfl rfl rfl hc i pins s3 σ3 Y X.xe I3 (a2 a4) a5 stop) λr s4 ⟨Z,I4⟩=>?_);subst Z;exact A4M ⟨σ3,Y,I4,qn⟩
 refine A2X hp (thn (T.item X rfl rfl rfl hc i pins s3 σ3 Y X.xe I3 (a2 a4) a5 go) λr s4 ⟨u,Z,h4⟩=>?_);subst Z;refine A2X hp (thn h4 λ_ s5 ⟨x,H5,I5,r5,y5,a1,a7⟩=>?_);have a6:=I5.pinned (a2 a7) (T.obj _ _ a1);refine A2X hp (thn (hg _ s5 σ3 H5 x u _ a6 r5 (step x H5 y5)) λ_ s6 ⟨σ6,H6,I6,q6⟩=>?_);refine A2X hp (thn (hb _ s6 σ6 H6 _ I6 q6) λf s7 O=>?_)
 have again:∀ {σ7:St} {q:Hp},Inv X (pins++Tw fp s5.heap) σ7 q s7->N σ7 q->∃ m,m<n/\∃ i σ' H',Inv X pins σ' H' s7/\tn i s7.heap/\(∀ b∈fp,H' b=none)/\W i m σ' H':=fun {σ7 q} F U=>by obtain⟨m',hm,w7⟩:=hN σ7 q U;refine⟨m',hm,i+1,σ7,q,F.unpinned,T.keep _ _ _ a1 λb hb o e=>(F.pin (b,o) (A12 _ (A12 _ (Ji hb e)))).1,λb hb=>?_,w7⟩;obtain⟨o,e,d⟩:=T.obj _ _ a1 b hb;exact(F.pin (b,o) (A12 _ (A12 _ (Ji hb e)))).2.1
 cases f with
 |next=>obtain⟨σ7,q,F,U⟩:=O;exact again F U
 |cont=>obtain⟨σ7,q,F,U⟩:=O;exact again F U
 |brk=>obtain⟨σ7,q,F,O⟩:=O;exact⟨σ7,q,F.unpinned,O⟩
 |ret v=>obtain⟨x7,σ7,q,F,r7,O⟩:=O;exact⟨x7,σ7,q,F.unpinned,r7,O⟩
end
abbrev R2:=V->V->Hp->VK->Prop
def OpR (X:Cx)(f:Value->Value->Sem Value)(r:R2):Prop:=
 ∀(pins:List (Addr×Obj)) (s:Shared) (σ:St) (H:Hp) (x y:V) (v u:Value) (Q:VK),Inv X pins σ H s->RelV x v->RelV y u->r x y H Q ->
  wpAny (model X.prog X.w) X.A (f v u) (EP X pins σ Q) X.xe s
def UnR (X:Cx)(f:Value->Sem Value)(r:V->Hp->VK->Prop):Prop:=
 ∀(pins:List (Addr×Obj)) (s:Shared) (σ:St) (H:Hp) (x:V) (v:Value) (Q:VK),Inv X pins σ H s->RelV x v->r x H Q ->
  wpAny (model X.prog X.w) X.A (f v) (EP X pins σ Q) X.xe s
def CallR (X:Cx)(f:Value)(r:List V->Hp->VK->Prop):Prop:=
 ∀(pins:List (Addr×Obj)) (s:Shared) (σ:St) (H:Hp) (xs:List V) (us:List Value) (Q:VK),Inv X pins σ H s->Vals xs us->r xs H Q ->
  wpAny (model X.prog X.w) X.A (call f us) (EP X pins σ Q) X.xe s
def TruR (X:Cx)(r:V->Hp->(Bool->Hp->Prop)->Prop):Prop:=
 ∀(pins:List (Addr×Obj)) (s:Shared) (σ:St) (H:Hp) (x:V) (v:Value) (Q:Bool->Hp->Prop),Inv X pins σ H s->RelV x v->r x H Q ->
  wpAny (model X.prog X.w) X.A (truthy v) (TP X pins σ Q) X.xe s
def tOp (r:R2)(ta tb:TE):TE:=fun σ H Q=>ta σ H λx H1=>tb σ H1 λy H2=>r x y H2 Q
def tUn (r:V->Hp->VK->Prop)(ta:TE):TE:=fun σ H Q=>ta σ H λx H1=>r x H1 Q
def rI (C:Int->Int->Prop)(g:Int->Int->V):R2:=λx y H Q=>∃ i j,x = .int i/\y = .int j/\C i j/\Q (g i j) H
def rI0 (g:Int->Int->V):R2:=λx y H Q=>∃ i j,x = .int i/\y = .int j/\Q (g i j) H
def rU (g:Int->V):V->Hp->VK->Prop:=λx H Q=>∃ i,x = .int i/\Q (g i) H
section
variable {X:Cx}{a b c:Expr}{ta tb tc:TE}{pos:Pos}
theorem aR1 (ha:PE X a ta)(hb:PE X b tb){pins:List (Addr×Obj)}{s:Shared}{σ:St}{H:Hp}{R:V->V->Hp->Prop}(I:Inv X pins σ H s)
  (h:ta σ H λx H1=>tb σ H1 λy H2=>R x y H2) {Q:Value->Shared->Prop} {f:Value->Value->Sem Value}
  (hf:∀ v u q x y H2,Inv X pins σ H2 q->RelV x v->RelV y u->R x y H2->wpAny (model X.prog X.w) X.A (f v u) Q X.xe q) :
  wpAny (model X.prog X.w) X.A (eval a X.env) (λv s₁=>wpAny (model X.prog X.w) X.A (eval b X.env) (λu s₂=>wpAny (model X.prog X.w) X.A (f v u) Q X.xe s₂) X.xe s₁) X.xe s:=by
 refine thn (ha pins s σ H _ I h) λv s1 ⟨x,H1,F,Y,O⟩=>?_;refine thn (hb pins s1 σ H1 _ F O) λu q ⟨y,H2,J,Z,U⟩=>?_;exact hf v u q x y H2 J Y Z U
theorem Ap {F:Operator}{r:R2}(O:OpR X (binaryOp F) r)(ha:PE X a ta)(hb:PE X b tb):PE X (.BinOp a F b pos) (tOp r ta tb):=by intro pins s σ H Q I h;exact wpAny_BinOp (aR1 ha hb I h λv u Z x y H2 J U Y q=>O pins Z σ H2 x y v u Q J U Y q)
theorem ak4 {q:UnaryOp}{r:V->Hp->VK->Prop}(J:UnR X (unaryOp q) r)(ha:PE X a ta):PE X (.UnaryOp q a pos) (tUn r ta):=by intro pins s σ H Q I h;exact UnaryOp_ (thn (ha pins s σ H _ I h) λv Y ⟨x,H1,F,U,O⟩=>J pins Y σ H1 x v Q F U O)
theorem opI {f:Value->Value->Sem Value}{C:Int->Int->Prop}{g:Int->Int->Int}
  (rule:∀(i j:Int) (t u:Tok) (s:Shared) (Q:Value->Shared->Prop) (E:Value->Shared->Prop),C i j->Q (.int (g i j) s.toks) {s with toks:=s.toks+1}->wpAny (model X.prog X.w) X.A (f (.int i t) (.int j u)) Q E s) :
  OpR X f (rI C λi j=>.int (g i j)):=by
 intro pins s σ H x y v u Q I J O h;obtain⟨i,j,rfl,rfl,F,q⟩:=h;obtain⟨t,rfl⟩:=J;obtain⟨t',rfl⟩:=O;exact rule i j t t' s _ _ F ⟨.int (g i j),H,I.tok _,⟨_,rfl⟩,q⟩
theorem aR0 {f:Value->Value->Sem Value}{g:Int->Int->Int}
  (rule:∀(i j:Int) (t u:Tok) (s:Shared) (Q:Value->Shared->Prop) (E:Value->Shared->Prop),Q (.int (g i j) s.toks) {s with toks:=s.toks+1}->wpAny (model X.prog X.w) X.A (f (.int i t) (.int j u)) Q E s) :
  OpR X f (rI0 λi j=>.int (g i j)):=by
 intro pins s σ H x y v u Q I F J h;obtain⟨i,j,rfl,rfl,q⟩:=h;obtain⟨t,rfl⟩:=F;obtain⟨t',rfl⟩:=J;exact rule i j t t' s _ _ ⟨.int (g i j),H,I.tok _,⟨_,rfl⟩,q⟩
theorem aS1 {f:Value->Value->Sem Value}{g:Int->Int->Bool}
  (rule:∀(i j:Int) (t u:Tok) (s:Shared) (Q:Value->Shared->Prop) (E:Value->Shared->Prop),Q (.bool (g i j)) s->wpAny (model X.prog X.w) X.A (f (.int i t) (.int j u)) Q E s) :
  OpR X f (rI0 λi j=>.bl (g i j)):=by
 intro pins s σ H x y v u Q I F J h;obtain⟨i,j,rfl,rfl,q⟩:=h;obtain⟨t,rfl⟩:=F;obtain⟨t',rfl⟩:=J;exact rule i j t t' s _ _ ⟨.bl (g i j),H,I,rfl,q⟩
def aT4 (i j:Int):Prop:=0<j/\j<1073741824
def aS6 (i j:Int):Prop:=0<=j/\j<=1000000/\i.natAbs<2 ^ 64
def CMul (i j:Int):Prop:=(-(2 ^ 64)<i/\i<2 ^ 64)\/(-(2 ^ 64)<j/\j<2 ^ 64)
theorem CMul.ok {i j:Int}(h:CMul i j):IntMulOk i j:=by
 rcases h with ⟨h1,h2⟩|⟨h1,h2⟩
 . exact .of_left (intBits_le_64 h1 h2)
 exact .of_right (intBits_le_64 h1 h2)
theorem op_add:OpR X (binaryOp .Add) (rI0 λi j=>.int (i+j)):=aR0 λ_ _ _ _ _ _ _ q=>add_int q
theorem K0:OpR X (binaryOp .Sub) (rI0 λi j=>.int (i-j)):=aR0 λ_ _ _ _ _ _ _ q=>sub_int q
theorem op_mul:OpR X (binaryOp .Mult) (rI CMul λi j=>.int (i*j)):=opI λ_ _ _ _ _ _ _ F q=>mul_int q F.ok
theorem aA3:OpR X (binaryOp .FloorDiv) (rI aT4 λi j=>.int (i / j)):=opI λi j _ _ _ _ _ F q=>by have h1:(0:Int)<j:=F.1;have h2:j<1073741824:=F.2;exact floordiv_int ∅ (by rw[Int.fdiv_eq_ediv_of_nonneg i ∅];exact q) (.inl (PyProof.noPylong_small ∅))
theorem Me:OpR X (binaryOp .Mod) (rI (λ_ j=>0<j) λi j=>.int (i % j)):=opI λi j _ _ _ _ _ F q=>by have h1:(0:Int)<j:=F;exact mod_int' ∅ (by rw[Int.fmod_eq_emod_of_nonneg i ∅];exact q)
theorem aG4:OpR X (binaryOp .Pow) (rI aS6 λi j=>.int (i ^ j.toNat)):=opI λ_ _ _ _ _ _ _ F q=>pow_int_small F.1 F.2.1 F.2.2 q
theorem Zt:OpR X (binaryOp .BitAnd) (rI0 λi j=>.int (Builtin.bitAnd i j)):=aR0 λ_ _ _ _ _ _ _ q=>and_int q
theorem unI {f:Value->Sem Value}{g:Int->Int}
  (rule:∀(i:Int) (t:Tok) (s:Shared) (Q:Value->Shared->Prop) (E:Value->Shared->Prop),Q (.int (g i) s.toks) {s with toks:=s.toks+1}->wpAny (model X.prog X.w) X.A (f (.int i t)) Q E s) :
  UnR X f (rU λi=>.int (g i)):=by
 intro pins s σ H x v Q I F h;obtain⟨i,rfl,q⟩:=h;obtain⟨t,rfl⟩:=F;exact rule i t s _ _ ⟨.int (g i),H,I.tok _,⟨_,rfl⟩,q⟩
theorem Xi:UnR X (unaryOp .USub) (rU λi=>.int (-i)):=unI λ_ _ _ _ _ q=>neg_int q
end
def aQ6:V->V->Bool
 |.non,.non=>true | .non,.int _=>true | .int _,.non=>true | .non,.bl _=>true | .bl _,.non=>true | .non,.str _=>true | .str _,.non=>true
 |.int _,.int _=>true | .bl _,.bl _=>true | .str _,.str _=>true | .byt _,.byt _=>true
 |.int _,.str _=>true | .str _,.int _=>true | .bl _,.str _=>true | .str _,.bl _=>true
 |_,_=>false
def rEq:R2:=λx y H Q=>aQ6 x y=true/\Q (.bl (decide (x=y))) H
def rNe:R2:=λx y H Q=>aQ6 x y=true/\Q (.bl (!decide (x=y))) H
theorem ad7 {i j:Int}:decide (V.int i=V.int j)=(i==j):=by rw[A22];simp
theorem ao7 {i j:Bool}:decide (V.bl i=V.bl j)=(i==j):=by rw[A22];simp
theorem a88 {i j:Str}:decide (V.str i=V.str j)=(i==j):=by rw[A22];simp
theorem a05 {i j:Array UInt8}:decide (V.byt i=V.byt j)=(i.toList==j.toList):=by
 rw[A22]
 cases i
 cases j;simp
section
variable {X:Cx}{a b c:Expr}{ta tb tc:TE}{pos:Pos}
theorem Bh {pins:List (Addr×Obj)}{σ:St}{H:Hp}{s:Shared}{Q:VK}{k F:Bool}(I:Inv X pins σ H s)(q:Q (.bl k) H)(e:k=F):EP X pins σ Q (.bool F) s:=by subst e;exact⟨.bl k,H,I,rfl,q⟩
theorem op_eq:OpR X (compareOp .Eq) rEq:=by
 intro pins s σ H x y v u Q I O F h;obtain⟨J,q⟩:=h
 cases x with
 |non=>
   cases O
   cases y with
   |non=>cases F;exact PySem.EqNone.eq_none_none (Bh I q (by simp))
   |bl j=>cases F;exact PySem.EqNone.eq_none_bool (Bh I q (by simp))
   |int j=>obtain⟨t',rfl⟩:=F;exact PySem.EqNone.eq_none_int (Bh I q (by simp))
   |str j=>obtain⟨t',rfl⟩:=F;exact PySem.EqNone.eq_none_str (Bh I q (by simp))
   |_=>exact absurd (show false=true from J) A0J
 |bl i=>
   cases O
   cases y with
   |non=>cases F;exact PySem.EqNone.eq_bool_none (Bh I q (by simp))
   |bl j=>cases F;exact eq_bool (Bh I q ao7)
   |str j=>obtain⟨t',rfl⟩:=F;exact PySem.EqMixed.eq_bool_str (Bh I q (by simp))
   |_=>exact absurd (show false=true from J) A0J
 |int i=>
   obtain⟨t,rfl⟩:=O
   cases y with
   |non=>cases F;exact PySem.EqNone.eq_int_none (Bh I q (by simp))
   |int j=>obtain⟨t',rfl⟩:=F;exact eq_int (Bh I q ad7)
   |str j=>obtain⟨t',rfl⟩:=F;exact PySem.EqMixed.eq_int_str (Bh I q (by simp))
   |_=>exact absurd (show false=true from J) A0J
 |str i=>
   obtain⟨t,rfl⟩:=O
   cases y with
   |non=>cases F;exact PySem.EqNone.eq_str_none (Bh I q (by simp))
   |bl j=>cases F;exact PySem.EqMixed.eq_str_bool (Bh I q (by simp))
   |int j=>obtain⟨t',rfl⟩:=F;exact PySem.EqMixed.eq_str_int (Bh I q (by simp))
   |str j=>obtain⟨t',rfl⟩:=F;exact eq_str (Bh I q a88)
   |_=>exact absurd (show false=true from J) A0J
 |byt i=>
   obtain⟨t,rfl⟩:=O
   cases y with
   |byt j=>obtain⟨t',rfl⟩:=F;exact W.eq_bytes (Bh I q a05)
   |_=>exact absurd (show false=true from J) A0J
 |_=>cases y<;>exact absurd (show false=true from J) A0J
theorem op_ne:OpR X (compareOp .NotEq) rNe:=by
 intro pins s σ H x y v u Q I O F h;obtain⟨J,q⟩:=h
 cases x with
 |non=>
   cases O
   cases y with
   |non=>cases F;exact PySem.EqNone.ne_none_none (Bh I q (by simp))
   |bl j=>cases F;exact PySem.EqNone.ne_none_bool (Bh I q (by simp))
   |int j=>obtain⟨t',rfl⟩:=F;exact PySem.EqNone.ne_none_int (Bh I q (by simp))
   |str j=>obtain⟨t',rfl⟩:=F;exact PySem.EqNone.ne_none_str (Bh I q (by simp))
   |_=>exact absurd (show false=true from J) A0J
 |bl i=>
   cases O
   cases y with
   |non=>cases F;exact PySem.EqNone.ne_bool_none (Bh I q (by simp))
   |bl j=>cases F;exact ne_bool (Bh I q (congrArg not ao7))
   |str j=>obtain⟨t',rfl⟩:=F;exact PySem.EqMixed.ne_bool_str (Bh I q (by simp))
   |_=>exact absurd (show false=true from J) A0J
 |int i=>
   obtain⟨t,rfl⟩:=O
   cases y with
   |non=>cases F;exact PySem.EqNone.ne_int_none (Bh I q (by simp))
   |int j=>obtain⟨t',rfl⟩:=F;exact ne_int (Bh I q (congrArg not ad7))
   |str j=>obtain⟨t',rfl⟩:=F;exact PySem.EqMixed.ne_int_str (Bh I q (by simp))
   |_=>exact absurd (show false=true from J) A0J
 |str i=>
   obtain⟨t,rfl⟩:=O
   cases y with
   |non=>cases F;exact PySem.EqNone.ne_str_none (Bh I q (by simp))
   |bl j=>cases F;exact PySem.EqMixed.ne_str_bool (Bh I q (by simp))
   |int j=>obtain⟨t',rfl⟩:=F;exact PySem.EqMixed.ne_str_int (Bh I q (by simp))
   |str j=>obtain⟨t',rfl⟩:=F;exact ne_str (Bh I q (congrArg not a88))
   |_=>exact absurd (show false=true from J) A0J
 |byt i=>
   obtain⟨t,rfl⟩:=O
   cases y with
   |byt j=>obtain⟨t',rfl⟩:=F;exact W.ne_bytes (Bh I q (congrArg not a05))
   |_=>exact absurd (show false=true from J) A0J
 |_=>cases y<;>exact absurd (show false=true from J) A0J
theorem Yr:OpR X (compareOp .Lt) (rI0 λi j=>.bl (decide (i<j))):=aS1 λ_ _ _ _ _ _ _ q=>lt_int q
theorem W9:OpR X (compareOp .Gt) (rI0 λi j=>.bl (decide (j<i))):=aS1 λ_ _ _ _ _ _ _ q=>gt_int q
theorem aR5:OpR X (compareOp .GtE) (rI0 λi j=>.bl (decide (j<=i))):=aS1 λ_ _ _ _ _ _ _ q=>ge_int q
theorem op_in_str:OpR X (compareOp .In) (λx y H Q=>∃ i j,x = .str i/\y = .str j/\Q (.bl (!(Builtin.Str.occurrences j i 0 j.length 1).isEmpty)) H):=by intro pins s σ H x y v u Q I F J h;obtain⟨i,j,rfl,rfl,q⟩:=h;obtain⟨t,rfl⟩:=F;obtain⟨t',rfl⟩:=J;exact in_str (Bh I q rfl)
theorem aE4:OpR X (compareOp .Is) (λx y H Q=>y = .non/\Q (.bl (decide (x = .non))) H):=by
 intro pins s σ H x y v u Q I F J h;obtain⟨rfl,q⟩:=h
 cases J;refine is_none_gen (Bh I q ?_)
 cases x<;>first
  | (cases F;rfl)
  | (obtain⟨t,rfl⟩:=F;rfl)
theorem aA5:OpR X (compareOp .IsNot) (λx y H Q=>y = .non/\Q (.bl (!decide (x = .non))) H):=by
 intro pins s σ H x y v u Q I F J h;obtain⟨rfl,q⟩:=h
 cases J;refine isnot_none_gen (Bh I q ?_)
 cases x<;>first
  | (cases F;rfl)
  | (obtain⟨t,rfl⟩:=F;rfl)
theorem OpR.or {f:Value->Value->Sem Value}{r r':R2}(h:OpR X f r)(h':OpR X f r'):OpR X f (λx y H Q=>r x y H Q\/r' x y H Q):=by
 intro pins s σ H x y v u Q I F J q;rcases q with q|q
 . exact h pins s σ H x y v u Q I F J q
 exact h' pins s σ H x y v u Q I F J q
theorem Aw (b:Expr){q:CmpOp}(h:q ≠ .In:=by decide)(h2:q ≠ .NotIn:=by decide):behindInMarks q b=false:=by
 have F:(q==CmpOp.In)=false:=by cases q<;>first | rfl | exact absurd rfl h
 have J:(q==CmpOp.NotIn)=false:=by cases q<;>first | rfl | exact absurd rfl h2
 cases b<;>simp[behindInMarks,F,J]
theorem Gh {F:CmpOp}{r:R2}(O:OpR X (compareOp F) r)(ha:PE X a ta)(hb:PE X b tb)(hm:behindInMarks F b=false):PE X (.Compare a [F] [b] pos) (tOp r ta tb):=by intro pins s σ H Q I h;exact wpAny_Compare1 (aR1 ha hb I h λv u Z x y H2 J U Y q=>O pins Z σ H2 x y v u Q J U Y q) hm
def aL1 (t:TE):TT:=fun σ H Q=>t σ H λx H'=>∃ k,x = .bl k/\Q k H'
theorem Aj {q:CmpOp}{r:R2}(Y:OpR X (compareOp q) r)(ha:PE X a ta)(hb:PE X b tb)(hm:behindInMarks q b=false):PT X (.Compare a [q] [b] pos) (aL1 (tOp r ta tb)):=by
 intro pins s σ H Q I h
 refine wpAny_isTrue_Compare1 (thn (ha pins s σ H _ I h) λv s1 ⟨x,H1,J,r1,Z⟩=>thn (hb pins s1 σ H1 _ J Z) λu s2 ⟨y,H2,O,r2,q2⟩=>thn (Y pins s2 σ H2 x y v u _ O r1 r2 q2) λc s3 ⟨z,F,U,r3,k,e,q3⟩=>?_) hm
 subst e
 cases r3;exact A3P ⟨F,U,q3⟩
def TruV (K:W.Frag)(x:V)(H:Hp)(k:Bool):Prop:=
 match x with
 |.non=>k=false
 |.bl b=>k=b
 |.int i=>k=(i != 0)
 |.str y=>y.length<=sizeLine/\k=((y.length:Int) != 0)
 |.byt y=>y.size<=sizeLine/\k=((y.size:Int) != 0)
 |.ref p=>(∃ xs,SqL K H p xs/\k = !xs.isEmpty)\/(∃ xs,SqT K H p xs/\k = !xs.isEmpty)\/∃ kvs,H p=some (.dK kvs)/\k = !kvs.isEmpty
 |_=>False
theorem Yx {κ:Type}{kvs:List (κ×V)}{vs:List (κ×Value)}(r:KV kvs vs):(!vs.isEmpty) = !kvs.isEmpty:=by cases r<;>rfl
theorem Qv {xs:List V}{q:List Value}(r:Vals xs q):(!q.toArray.isEmpty) = !xs.isEmpty:=by cases r<;>simp
theorem Nc:(sizeLine:Nat)<2 ^ 63:=by rw[A1I];decide
theorem aH1:TruR X (λx H Q=>∃ k,TruV X.K x H k/\Q k H):=by
 intro pins s σ H x v Q I J h;obtain ⟨k,e,q⟩:=h;have Z:=Nc;have hs:sizeLine=16777216:=A1I
 cases x with
 |non=>cases J;have F:k=false:=e;subst F;exact truthy_none ⟨H,I,q⟩
 |bl b=>cases J;have F:k=b:=e;subst F;exact A3P ⟨H,I,q⟩
 |int i=>obtain⟨t,rfl⟩:=J;have F:k=(i != 0):=e;subst F;exact PySem.P.truthy_int ⟨H,I,q⟩
 |str y=>obtain⟨t,rfl⟩:=J;obtain⟨hy,F⟩:y.length<=sizeLine/\k=((y.length:Int) != 0):=e;subst F;exact PySem.P.truthy_str ∅ ⟨H,I.tok _,q⟩
 |byt y=>obtain⟨t,rfl⟩:=J;obtain⟨hy,F⟩:y.size<=sizeLine/\k=((y.size:Int) != 0):=e;subst F;exact W.truthy_bytes ∅ ⟨H,I.tok _,q⟩
 |ref p=>
   cases J;have F:(∃ xs,SqL X.K H p xs/\k = !xs.isEmpty)\/(∃ xs,SqT X.K H p xs/\k = !xs.isEmpty)\/∃ kvs,H p=some (.dK kvs)/\k = !kvs.isEmpty:=e;rcases F with ⟨xs,O,F⟩|⟨xs,O,F⟩|⟨kvs,O,F⟩
   . subst F;obtain⟨Y,r,pl,hz⟩:=I.list O;have U:=r.length;exact wpAny_truthy_list pl.isList (by simp only[List.size_toArray];omega) ⟨H,I.tok _,by rw[Qv r];exact q⟩
   . subst F;obtain⟨Y,r,pl,hz⟩:=I.tuple O;have U:=r.length;exact truthy_tuple pl (by simp only[List.size_toArray];omega) ⟨H,I.tok _,by rw[Qv r];exact q⟩
   subst F;obtain⟨hz,hS,vs,r,m⟩:kvs.length<=sizeLine/\(p==sysModules)=false/\∃ vs,KV kvs vs/\s.heap.DictOf (Ax X.prog X.w) p vs:=I.hok p _ O;have U:kvs.length=vs.length:=A2Z r;exact wpAny_truthy_dict hS m ∅ ⟨H,I.tok _,by rw[Yx r];exact q⟩
 |_=>exact(show False from e).elim
theorem op_add_str:OpR X (binaryOp .Add) (λx y H Q=>∃ i j,x = .str i/\y = .str j/\i.length+j.length<=sizeLine/\Q (.str (i++j)) H):=by intro pins s σ H x y v u Q I F J h;obtain⟨i,j,rfl,rfl,hz,q⟩:=h;obtain⟨t,rfl⟩:=F;obtain⟨t',rfl⟩:=J;exact add_str (λt' tk=>⟨.str (i++j),H,I.tok _,⟨_,rfl⟩,q⟩) hz
theorem Ij {x:V}{us:List Value}(r:Vals [x] us):∃ u,us=[u]/\RelV x u:=by
 cases r with
 |cons r1 r2=>cases r2;exact⟨_,rfl,r1⟩
theorem ah9 {x y:V}{us:List Value}(r:Vals [x,y] us):∃ u q,us=[u,q]/\RelV x u/\RelV y q:=by
 cases r with
 |cons r1 r2=>
   cases r2 with
   |cons r3 r4=>cases r4;exact⟨_,_,rfl,r1,r3⟩
theorem Uk (J:X.calm=true):CallR X (.builtin "max") (λxs H Q=>∃ i j,xs=[.int i,.int j]/\Q (.int (if j>i then j else i)) H):=by
 intro pins s σ H xs us Q I r h;obtain⟨i,j,rfl,q⟩:=h;obtain⟨u,O,rfl,⟨t,rfl⟩,⟨t',rfl⟩⟩:=ah9 r;refine max_two_ints (I.ok.hd J) λh' tk k=>⟨_,H,I.kept k,?_,q⟩
 by_cases F:j>i
 . rw[A0Z F,A0Z F];exact⟨_,rfl⟩
 rw[A0Q F,A0Q F];exact⟨_,rfl⟩
theorem ai6 (J:X.calm=true):CallR X (.builtin "min") (λxs H Q=>∃ i j,xs=[.int i,.int j]/\Q (.int (if j<i then j else i)) H):=by
 intro pins s σ H xs us Q I r h;obtain⟨i,j,rfl,q⟩:=h;obtain⟨u,O,rfl,⟨t,rfl⟩,⟨t',rfl⟩⟩:=ah9 r;refine min_two_ints (I.ok.hd J) λh' tk k=>⟨_,H,I.kept k,?_,q⟩
 by_cases F:j<i
 . rw[A0Z F,A0Z F];exact⟨_,rfl⟩
 rw[A0Q F,A0Q F];exact⟨_,rfl⟩
theorem ae3:CallR X (.type "int") (λxs H Q=>(∃ i,xs=[.int i]/\Q (.int i) H)\/∃ k,xs=[.bl k]/\Q (.int (if k then 1 else 0)) H):=by
 intro pins s σ H xs us Q I r h;rcases h with ⟨i,rfl,q⟩|⟨k,rfl,q⟩
 . obtain⟨u,rfl,t,rfl⟩:=Ij r;exact call_int_int ⟨.int i,H,I,⟨_,rfl⟩,q⟩
 obtain⟨u,rfl,F⟩:=Ij r
 cases F;exact call_int_bool ⟨.int (if k then 1 else 0),H,I.tok _,⟨_,rfl⟩,q⟩
theorem T8:CallR X (.type "str") (λxs H Q=>∃ i,xs=[.int i]/\i.natAbs.log2<1920/\Q (.str (toString i)) H):=by intro pins s σ H xs us Q I r h;obtain⟨i,rfl,hz,q⟩:=h;obtain⟨u,rfl,t,rfl⟩:=Ij r;exact PySem.P.str_of_int hz ⟨.str _,H,I.tok _,⟨_,rfl⟩,q⟩
def aV6 (K:W.Frag)(x:V)(H:Hp)(n:Nat):Prop:=
 match x with
 |.str y=>y.length<=sizeLine/\n=y.length
 |.byt y=>y.size<=sizeLine/\n=y.size
 |.ref p=>(∃ xs,SqL K H p xs/\n=xs.length)\/∃ xs,SqT K H p xs/\n=xs.length
 |_=>False
theorem call_len:CallR X (.builtin "len") (λxs H Q=>∃ x n,xs=[x]/\aV6 X.K x H n/\Q (.int n) H):=by
 intro pins s σ H xs us Q I r h;obtain⟨x,n,rfl,e,q⟩:=h;obtain ⟨u,rfl,U⟩:=Ij r;have Z:=Nc;have hs:sizeLine=16777216:=A1I
 cases x with
 |str y=>obtain⟨t,rfl⟩:=U;obtain⟨hy,F⟩:y.length<=sizeLine/\n=y.length:=e;subst F;exact len_str ∅ ⟨.int _,H,I.tok _,⟨_,rfl⟩,q⟩
 |byt y=>obtain⟨t,rfl⟩:=U;obtain⟨hy,F⟩:y.size<=sizeLine/\n=y.size:=e;subst F;exact W.len_bytes ∅ ⟨.int _,H,I.tok _,⟨_,rfl⟩,q⟩
 |ref p=>
   cases U;have F:(∃ xs,SqL X.K H p xs/\n=xs.length)\/∃ xs,SqT X.K H p xs/\n=xs.length:=e;rcases F with ⟨xs,O,F⟩|⟨xs,O,F⟩
   . subst F;obtain⟨Y,r',pl,hz⟩:=I.list O;have J:=r'.length;exact Calls.call_len_list pl.isList (by simp only[List.size_toArray];omega) ⟨.int xs.length,H,I.tok _,⟨_,by simp only[List.size_toArray];rw[J]⟩,q⟩
   subst F;obtain⟨Y,r',pl,hz⟩:=I.tuple O;have J:=r'.length;exact len_tuple pl (by simp only[List.size_toArray];omega) ⟨.int xs.length,H,I.tok _,⟨_,by simp only[List.size_toArray];rw[J]⟩,q⟩
 |_=>exact(show False from e).elim
end
structure ObjM (h:Heap)(x dx C:Addr)(mA:Str->Option Value):Prop where
 obj:h.get? x=some (W.instObj C dx)
 ns:h.Ns1 dx mA
 ne:dx≠x
theorem a00 {h:Heap}{dx:Addr}{mA:Str->Option Value}(n:h.Ns1 dx mA):∃ od,h.get? dx=some od/\∀ name,W.lookIn name od=some (mA name):=by
 obtain⟨o,es,ep,U,hd,J,_,hm⟩:=n;refine⟨o,U,λname=>?_⟩;have e:=hm name;unfold nsFind findBy at e;rw[<- Array.find?_toList] at e;unfold W.lookIn;rw[hd];dsimp only
 split
 . rename_i y q;rw[q] at e;exact congrArg some e
 rename_i q;rw[q] at e
 have a:es.toList.any (·.refKey)=false:=by rw[List.any_eq_false];intro y Y;obtain⟨z,t,O⟩:=J y (Array.mem_toList_iff.mp Y);simp[DictEntry.refKey,O]
 have F:¬ es.toList.any (·.refKey)=true:=by rw[a];exact A0J
 rw[A0Q F];exact congrArg some e
theorem ObjM.look {h:Heap}{x dx C:Addr}{mA:Str->Option Value}(I:ObjM h x dx C mA):∃ od,W.InstAt h x (W.instObj C dx) C (some od)/\∀ name,W.lookIn name od=some (mA name):=
 let ⟨od,ho,hl⟩:=a00 I.ns
 ⟨od,⟨I.obj,rfl,rfl,ho⟩,hl⟩
section
variable {prog:Program}{w:World}{A:Around}{E:Value->Shared->Prop}{s:Shared}{K:W.Frag}{x dx C f:Addr}{mA:Str->Option Value}{name:Str}{v:Value}
theorem av9 {q:Bool}{Q:Value->Shared->Prop}(X:K.In s.heap)(I:ObjM s.heap x dx C mA)(F:W.plainGet K C name=true)(O:W.hasDictIn K C=true)
  (ha:W.findIn K (.ref C) name=some none) (Y:mA name=some v) (Z:W.handedIn v=true) (h:Q v {s with toks:=s.toks+1}) :
  wpAny (model prog w) A (getAttr (.ref x) name q) Q E s:=by
 obtain⟨od,J,U⟩:=I.look;exact W.get_value X J (A4Y F).1 (W.findObj_own O ha rfl (by rw[U,Y])) Z h
theorem ak1 {pl:Sem Bool}{Q:Value×List Value->Shared->Prop}(X:K.In s.heap)(I:ObjM s.heap x dx C mA)(q:W.plainGet K C name=true)
  (hf:W.findIn K (.ref C) name=some (some (.ref f))) (O:W.isFn K (.ref f)=true) (U:mA name=none) (h:Q (.ref f,[.ref x]) s) :
  wpAny (model prog w) A (getMethod (.ref x) name pl) Q E s:=by
 obtain⟨od,J,F⟩:=I.look;exact W.method_fn X J (A4Y q).1 (A4Y q).2 hf (A30.mp O) (by show(W.lookIn name od).map (·.isSome)=some false;rw[F,U];rfl) h
theorem av7 {ns:List Str}{Q:Unit->Shared->Prop}(X:K.In s.heap)(I:ObjM s.heap x dx C mA)
  (hs:W.findIn K (.ref C) "__setattr__" = some (some (.builtin "object.__setattr__"))) (hp:W.plainOver K C=true) (ht:W.takerIn K C name=some none) (hh:W.hasDictIn K C=true)
  (hw:PySem.Within mA ns) (hsz:ns.length<=sizeLine)
  (h:∀ h',ObjM h' x dx C (λy=>if y=name then some v else mA y)->Heap.SameBut dx s.heap h'->Q () {s with heap:=h',toks:=s.toks+2}) :
  wpAny (model prog w) A (setAttr (.ref x) name v) Q E s:=by
 obtain⟨od,J,hl⟩:=I.look;refine W.set_plain X J hs (W.osa_open (s:={s with toks:=s.toks+1}) (r:=none) X J hp ht λb=>?_)
 obtain⟨cd,O,Y⟩:=W.any_some hh;have hx:s.heap.get? x=some ⟨.ref C,some dx,.plain,#[]⟩:=I.obj;refine A05 (A0K (A05 (A05 (wpAny_loadPart hx (A05 (W.Looks.here (s:={s with toks:=s.toks+1}) (W.looks_clsIn X O) ?_))))))
 rw[Y];refine A0K (a:=some dx) (A05 (A0K (A05 ?_)));refine wpAny_nsSet1 (s:={s with toks:=s.toks+1}) I.ns λh' q F=>?_
 obtain⟨oD,a2,a1,a0,Z,U⟩:=q.count (PySem.Within.cons name v hw);refine A05 (wpAny_lookBehind a0 (by rw[Z];exact pastItsLine_dict (A0O U (by rw[A0G];omega))) ?_);exact A0K (h _ ⟨(F.2 _ (Ne.symm I.ne)).trans I.obj,q,I.ne⟩ F)
theorem ak3 {R:Result->Shared->Prop}{vs:List Value}{q:List (Str×Value)}(X:K.In s.heap)(hm:W.makesIn K C=true)
  (hi:W.findIn K (.ref C) "__init__" = some (some (.ref f))) (hf:W.typeIn K (.ref f)=some (.type "function"))
  (h:codeAny (model prog w) (A.under (.builtin "type.__call__" ⟨.ref C :: vs,q⟩)) (.call (.ref f) ⟨.ref (s.heap.objs.size+1) :: vs,q⟩) (W.InitBack (s.heap.objs.size+1) R)
   {s with heap:=(s.heap.push W.emptyDict).push (W.instObj C s.heap.objs.size)}) :
  codeAny (model prog w) A (.call (.ref C) ⟨vs,q⟩) R s:=by
 obtain⟨F,g,d,t,os⟩:=s;exact W.make_core (W.makes_of X hm) (W.looks_findIn X hi) (λself=>W.bind_fn X self hf) (.inl rfl) h
end
def Nj (f:Str) (v:V):List (Str×V)->List (Str×V)
 | []=>[(f,v)]
 | (g,x) :: r=>if g=f then(g,v) :: r else(g,x) :: Nj f v r
theorem Pa (f g:Str)(v:V):∀ fs:List (Str×V),(Nj f v fs).lookup g=if g=f then some v else fs.lookup g
 | []=>by
   show List.lookup g [(f,v)]=_
   by_cases h:g=f
   . have hb:(g==f)=true:=A30.mpr h;simp only[List.lookup,hb,if_pos h]
   have hb:(g==f)=false:=A1L.mpr h;simp only[List.lookup,hb,if_neg h]
 | (k,x) :: r=>by
   have F:=Pa f g v r;rw[show Nj f v ((k,x) :: r)=(if k=f then(k,v) :: r else(k,x) :: Nj f v r) from rfl]
   by_cases q:k=f
   . rw[A0Z q]
     by_cases h:g=k
     . have hb:(g==k)=true:=A30.mpr h;simp only[List.lookup,hb,if_pos (h.trans q)]
     have hb:(g==k)=false:=A1L.mpr h;simp only[List.lookup,hb,if_neg (λe:g=f=>h (e.trans q.symm))]
   rw[A0Q q]
   by_cases h:g=k
   . have hb:(g==k)=true:=A30.mpr h;simp only[List.lookup,hb,if_neg (λe:g=f=>q (h.symm.trans e))]
   have hb:(g==k)=false:=A1L.mpr h;simp only[List.lookup,hb];exact F
theorem Pd (f:Str)(v:V):∀ fs:List (Str×V),f∈(Nj f v fs).map (·.1)/\∀ g,g∈fs.map (·.1)->g∈(Nj f v fs).map (·.1)
 | []=>⟨by simp[Nj],λg h=>by simp at h⟩
 | (k,x) :: r=>by
   obtain⟨i1,i2⟩:=Pd f v r;rw[show Nj f v ((k,x) :: r)=(if k=f then(k,v) :: r else(k,x) :: Nj f v r) from rfl]
   by_cases q:k=f
   . rw[A0Z q];subst q;exact⟨by simp,λg h=>by simpa using h⟩
   rw[A0Q q];refine⟨?_,λg h=>?_⟩
   . rw[A0H];exact A09 _ i1
   rw[A0H] at h ⊢;rcases A0A.mp h with e|e
   . exact A0A.mpr (.inl e)
   exact A09 _ (i2 g e)
theorem Ol (f:Str)(v:V):∀ fs:List (Str×V),(Nj f v fs).length<=fs.length+1
 | []=>by simp[Nj]
 | (k,x) :: r=>by
   have F:=Ol f v r;rw[show Nj f v ((k,x) :: r)=(if k=f then(k,v) :: r else(k,x) :: Nj f v r) from rfl]
   by_cases q:k=f
   . rw[A0Z q,A0G,A0G];omega
   rw[A0Q q,A0G,A0G];omega
theorem RelO.some_of {v:V}{o:Option Value}(r:RelO (some v) o):∃ u,o=some u/\RelV v u:=by
 cases o with
 |none=>exact(show False from r).elim
 |some u=>exact⟨u,rfl,r⟩
theorem RelO.none_of {o:Option Value}(r:RelO none o):o=none:=by
 cases o with
 |none=>rfl
 |some u=>exact(show False from r).elim
theorem af4 {v:V}{u:Value}(r:RelV v u):W.handedIn u=true:=by
 cases v with
 |non=>cases (show u=Value.none from r);rfl
 |bl b=>cases (show u=Value.bool b from r);rfl
 |int i=>obtain⟨t,e⟩:=(show ∃ t,u=Value.int i t from r);cases e;rfl
 |str x=>obtain⟨t,e⟩:=(show ∃ t,u=Value.str x t from r);cases e;rfl
 |byt b=>obtain⟨t,e⟩:=(show ∃ t,u=Value.bytes b t from r);cases e;rfl
 |flt b=>obtain⟨t,e⟩:=(show ∃ t,u=Value.float b t from r);cases e;rfl
 |ref a=>cases (show u=Value.ref a from r);rfl
 |ty n=>cases (show u=Value.type n from r);rfl
section
variable {P:Program}{w:World}{H H':Hp}{h h':Heap}{a C dx:Addr}{fs fs':List (Str×V)}
theorem Rt (hok:HOk P w H h)(e:H a=some (.ins C dx fs)):∃ mA,ObjM h a dx C mA/\(∀ f,RelO (fs.lookup f) (mA f))/\PySem.Within mA (fs.map (·.1))/\fs.length<=1000/\H dx=some (.own a):=by obtain⟨d,z,ne,ob,mA,n,r,q⟩:=(show ObjOk P w H h a (.ins C dx fs) from hok a _ e);exact⟨mA,⟨ob,n,ne⟩,r,q,z,d⟩
end
structure Cls (K:W.Frag)(C:Addr):Prop where
 pg:W.plainGet K C Str.empty=true
 hd:W.hasDictIn K C=true
 po:W.plainOver K C=true
 sa:W.findIn K (.ref C) "__setattr__" = some (some (.builtin "object.__setattr__"))
theorem Cls.get {K:W.Frag}{C:Addr}(c:Cls K C)(f:Str):W.plainGet K C f=true:=c.pg
def NoAttr (K:W.Frag)(C:Addr)(f:Str):Prop:=W.findIn K (.ref C) f=some none
theorem NoAttr.taker {K:W.Frag}{C:Addr}{f:Str}(n:NoAttr K C f):W.takerIn K C f=some none:=by unfold W.takerIn;rw[show W.findIn K (.ref C) f=some none from n];rfl
structure aQ5 (K:W.Frag)(C:Addr)(m:Str)(f:Addr):Prop where
 at_:W.findIn K (.ref C) m=some (some (.ref f))
 fn:W.isFn K (.ref f)=true
 kp:W.keepIn K (.ref f)=true
section
variable {X:Cx}{pins:List (Addr×Obj)}{σ:St}{H:Hp}{s:Shared}{a C dx:Addr}{fs:List (Str×V)}{f:Str}{v:V}{A:Around}{E:Value->Shared->Prop}
theorem Zo {b:Bool}{Q:Value->Shared->Prop}(I:Inv X pins σ H s)(e:H a=some (.ins C dx fs))(c:Cls X.K C)(n:NoAttr X.K C f)(l:fs.lookup f=some v)
  (h:∀ u s',Inv X pins σ H s'->RelV v u->Q u s'):wpAny (model X.prog X.w) A (getAttr (.ref a) f b) Q E s:=by
 obtain⟨mA,O,r,_,_,_⟩:=Rt I.hok e;obtain⟨u,hu,q⟩:=RelO.some_of (v:=v) (o:=mA f) (by rw[<- l];exact r f);exact av9 I.kIn O (c.get f) c.hd n hu (af4 q) (h u _ (I.tok _) q)
theorem Z9 {m:Str}{g:Addr}{pl:Sem Bool}{Q:Value×List Value->Shared->Prop}(I:Inv X pins σ H s)(e:H a=some (.ins C dx fs))(c:Cls X.K C)(k:aQ5 X.K C m g)(l:fs.lookup m=none)
  (h:Q (.ref g,[.ref a]) s):wpAny (model X.prog X.w) A (getMethod (.ref a) m pl) Q E s:=by
 obtain⟨mA,O,r,_,_,_⟩:=Rt I.hok e;have hn:mA m=none:=RelO.none_of (by rw[<- l];exact r m);exact ak1 I.kIn O (c.get m) k.at_ k.fn hn h
theorem Yu {y:V}{u:Value}{Q:Unit->Shared->Prop}(I:Inv X pins σ H s)(e:H a=some (.ins C dx fs))(c:Cls X.K C)(n:NoAttr X.K C f)(hl:fs.length<1000)(Z:RelV y u)
  (h:∀ s',Inv X pins σ (upd H a (.ins C dx (Nj f y fs))) s'->Q () s'):wpAny (model X.prog X.w) A (setAttr (.ref a) f u) Q E s:=by
 obtain⟨mA,O,r,U,_,J⟩:=Rt I.hok e;have hz:(fs.map (·.1)).length<=sizeLine:=by rw[A01,A1I];omega
 refine av7 I.kIn O c.sa c.po n.taker c.hd U hz λh' F sb=>h _ ?_;have hd:∃ o,h'.get? dx=some o:=let ⟨o,_,_,e',_⟩:=F.ns;⟨o,e'⟩;refine I.write (x:=a) (e:=dx) (by rw[e];exact A2B) (.inr J) (λb q hb z=>(sb.2 b hb).trans z) hd ?_;refine⟨by rw[At O.ne];exact J,?_,O.ne,F.obj,_,F.ns,λg=>?_,λg Y=>?_⟩
 . have:=Ol f y fs;omega
 . show RelO ((Nj f y fs).lookup g) (if g=f then some u else mA g)
   rw[Pa]
   by_cases q:g=f
   . rw[A0Z q,A0Z q];exact Z
   rw[A0Q q,A0Q q];exact r g
 by_cases q:g=f
 . rw[q];exact(Pd f y fs).1
 refine(Pd f y fs).2 g (U g λz=>Y ?_);show(if g=f then some u else mA g)=none
 rw[A0Q q];exact z
theorem Inv.made (I:Inv X pins σ H s):Inv X pins σ (upd (upd H s.heap.objs.size (.own (s.heap.objs.size+1))) (s.heap.objs.size+1) (.ins C s.heap.objs.size []))
  {s with heap:=(s.heap.push W.emptyDict).push (W.instObj C s.heap.objs.size)}:=by
 have F:(s.heap.push W.emptyDict).get? s.heap.objs.size=some W.emptyDict:=A0I s.heap rfl
 have O:((s.heap.push W.emptyDict).push (W.instObj C s.heap.objs.size)).get? (s.heap.objs.size+1)=some (W.instObj C s.heap.objs.size):=by have:=A0I (s.heap.push W.emptyDict) (o:=W.instObj C s.heap.objs.size) rfl;rwa[A20] at this
 have U:(s.heap.push W.emptyDict).Ns s.heap.objs.size (λ_=>none):=⟨W.emptyDict,#[],_,F,rfl,(λe he=>absurd he (by simp)),λ_=>rfl⟩;have J:=I.laid (a:=s.heap.objs.size) (o:=.own (s.heap.objs.size+1)) (h':=s.heap.push W.emptyDict) (t':=s.toks) (λb u q=>A02 _ q) (A08 _) ⟨_,F⟩;refine J.laid (a:=s.heap.objs.size+1) (o:=.ins C s.heap.objs.size []) (t':=s.toks) (λb u q=>A02 _ q) (Nat.le_of_eq (A20 _ _)) ?_;have ne:s.heap.objs.size≠s.heap.objs.size+1:=A11 (A2S _);refine⟨by rw[At ne,Ae],A2J _,ne,O,λ_=>none,(Heap.Ns1.of_empty U).at λo q=>A02 _ q,λ_=>A2B,λy Y=>absurd rfl Y⟩
theorem ay4 {prog:Program}{w:World}{env:Env}{e:Expr}{f:Str}{pos:Pos}{s:Shared}{Q:Value->Shared->Prop}(hb:attributeBase e f env (eval e env)=eval e env)
  (h:wpAny (model prog w) A (eval e env) (λo q=>wpAny (model prog w) A (getAttr o f true) Q E q) E s):wpAny (model prog w) A (eval (.Attribute e f pos) env) Q E s:=
 Attribute_any_ h (by rw[arm_eval_Attribute,hb])
end
section
variable {X:Cx}{o e value:Expr}{f:Str}{pos pos' tpos:Pos}{ta tv:TE}
end
section
variable {X:Cx}{pins:List (Addr×Obj)}{σ:St}{H:Hp}{s:Shared}{A:Around}{E:Value->Shared->Prop}{Q:Value->Shared->Prop}{c:Value}{b:Bool}
inductive TyOf (K:W.Frag)(H:Hp):V->Value->Prop where
 |non:TyOf K H .non (.type "NoneType")
 |bl (x:Bool):TyOf K H (.bl x) (.type "bool")
 |int (i:Int):TyOf K H (.int i) (.type "int")
 |str (x:Str):TyOf K H (.str x) (.type "str")
 |flt (x:UInt64):TyOf K H (.flt x) (.type "float")
 |lst {a:Addr} {xs:List V} (e:H a=some (.lst xs)):TyOf K H (.ref a) (.type "list")
 |frz {a:Addr} {o:Obj} {xs:List V} (e:H a=some (.frz o (.lst xs))):TyOf K H (.ref a) (.type "list")
 |tup {a:Addr} {xs:List V} (e:H a=some (.tup xs)):TyOf K H (.ref a) (.type "tuple")
 |dK {a:Addr} {kvs:List (Key×V)} (e:H a=some (.dK kvs)):TyOf K H (.ref a) (.type "dict")
 |dT {a:Addr} {kvs:List (List Key×V)} (e:H a=some (.dT kvs)):TyOf K H (.ref a) (.type "dict")
 |ins {a C dx:Addr} {fs:List (Str×V)} (e:H a=some (.ins C dx fs)) (cl:Cls K C) (ha:W.findIn K (.ref C) "__class__" = some (some (.builtin "object.__class__")))
   (hn:W.specialIn K (.builtin "object.__class__") "__get__" = some (some (.builtin "getset_descriptor.__get__"))) (htk:W.takesIn K (.builtin "object.__class__")=some true)
   (hm:W.mroIn K C (.type "object")=some true):TyOf K H (.ref a) (.ref C)
theorem Tc {x:V}{u t:Value}(I:Inv X pins σ H s)(F:RelV x u)(ty:TyOf X.K H x t)(e:W.kitOne X.K t c=some b)(h:∀ tk,Q (.bool b) {s with toks:=tk}) :
  wpAny (model X.prog X.w) A (call (.builtin "isinstance") [u,c]) Q E s:=by
 cases ty with
 |non=>cases (show u=Value.none from F);exact A1M W.kitx_none I.kIn A2B e (λz=>nomatch z) h
 |bl y=>cases (show u=Value.bool y from F);exact A1M W.kitx_bool I.kIn A2B e (λz=>nomatch z) h
 |int i=>obtain⟨t,q⟩:=(show ∃ t,u=Value.int i t from F);cases q;exact A1M W.kitx_int I.kIn A2B e (λz=>nomatch z) h
 |str y=>obtain⟨t,q⟩:=(show ∃ t,u=Value.str y t from F);cases q;exact A1M W.kitx_str I.kIn A2B e (λz=>nomatch z) h
 |flt y=>obtain⟨t,q⟩:=(show ∃ t,u=Value.float y t from F);cases q;exact A1M W.kitx_float I.kIn A2B e (λz=>nomatch z) h
 |@lst a xs ea=>cases (show u=Value.ref a from F);obtain⟨_,_,n,_,h1⟩:=(show ObjOk X.prog X.w H s.heap a (.lst xs) from I.hok a _ ea);exact A1M W.kitx_list I.kIn ⟨_,h1,rfl⟩ e (λz=>nomatch z) h
 |@frz a ob xs ea=>cases (show u=Value.ref a from F);obtain⟨_,_,_,n,_,h1⟩:=(show ObjOk X.prog X.w H s.heap a (.frz ob (.lst xs)) from I.hok a _ ea);exact A1M W.kitx_list I.kIn ⟨_,h1,rfl⟩ e (λz=>nomatch z) h
 |@tup a xs ea=>cases (show u=Value.ref a from F);obtain⟨_,_,_,p⟩:=(show ObjOk X.prog X.w H s.heap a (.tup xs) from I.hok a _ ea);obtain⟨o,h1,h2,_⟩:=p;exact A1M W.kitx_tuple I.kIn ⟨o,h1,h2⟩ e (λz=>nomatch z) h
 |@dK a kvs ea=>cases (show u=Value.ref a from F);obtain⟨_,_,vs,_,p⟩:=(show ObjOk X.prog X.w H s.heap a (.dK kvs) from I.hok a _ ea);obtain⟨o,es,ep,h1,h2,_⟩:=p;exact A1M W.kitx_dict I.kIn ⟨o,h1,h2.1⟩ e (λz=>nomatch z) h
 |@dT a kvs ea=>cases (show u=Value.ref a from F);obtain⟨_,_,xs,_,o,es,ep,h1,h2,_⟩:=(show ObjOk X.prog X.w H s.heap a (.dT kvs) from I.hok a _ ea);exact A1M W.kitx_dict I.kIn ⟨o,h1,h2.1⟩ e (λz=>nomatch z) h
 |@ins a C dx fs ea cl ha hn htk hm=>cases (show u=Value.ref a from F);obtain⟨mA,O,_⟩:=Rt I.hok ea;obtain⟨od,J,_⟩:=O.look;exact A1M (W.kitx_own (cl.get _) cl.hd ha hn htk hm) I.kIn J e (λz=>nomatch z) h
end
structure Room (k:Nat)(A:Around):Prop where
 hd:A.handled=none
 dp:A.depth+3*k+5<recursionLimit
 un:A.units+16*k+200<cLine
 gd:A.guards=some []
theorem Room.mono {j k:Nat}{A:Around}(r:Room k A)(h:j<=k):Room j A:=⟨r.hd,by have:=r.dp;omega,by have:=r.un;omega,r.gd⟩
theorem Room.deeper {k:Nat}{A:Around}(r:Room (k+1) A)(env:Env):Room k (A.deeper env):=
 ⟨r.hd,by have:=r.dp;show A.depth+1+3*k+5<_;omega,by have:=r.un;show A.units+3+16*k+200<_;omega,r.gd⟩
theorem Zh {A:Around}{C:Addr}{us:List Value}{q:List (Str×Value)}:(A.under (.builtin "type.__call__" ⟨.ref C :: us,q⟩)).depth=A.depth+1:=by first | rfl | simp[Around.under,Code.weight,Code.isCreation,Code.isGuard,Code.isCaller,Code.frames,Code.isFrame,guardIds]
theorem Yo {A:Around}{C:Addr}{us:List Value}{q:List (Str×Value)}:(A.under (.builtin "type.__call__" ⟨.ref C :: us,q⟩)).units=A.units+1:=by first | rfl | simp[Around.under,Code.cUnits,Code.frames,Code.isFrame]
theorem Room.make {k:Nat}{A:Around}(r:Room (k+1) A)(C:Addr)(us:List Value)(q:List (Str×Value)):Room k (A.under (.builtin "type.__call__" ⟨.ref C :: us,q⟩)):=
 ⟨r.hd,by have:=r.dp;rw[Zh];omega,by have:=r.un;rw[Yo];omega,(by first | exact r.gd | (simpa[Around.under,Code.isGuard,guardIds,pushGuards] using r.gd))⟩
theorem Room.depth {k:Nat}{A:Around}(r:Room k A):A.depth<recursionLimit:=by have:=r.dp;omega
theorem Room.units {k:Nat}{A:Around}(r:Room k A):A.units+64<cLine:=by have:=r.un;omega
def aE3:TA:=λ_ H Q=>Q [] H
def Zp (ta:TE)(q:TA):TA:=fun σ H Q=>ta σ H λx H1=>q σ H1 λxs H2=>Q (x :: xs) H2
section
variable {X:Cx}{e:Expr}{es:List Expr}{te:TE}{t:TA}{pos:Pos}
theorem A2:PA X [] aE3:=λ_ _ _ _ H Q I h=>A3Q ⟨[],H,I,.nil,h⟩
theorem A1 (ha:PE X e te)(J:PA X es t)(O:starEach (e :: es) X.env=(false,eval e X.env) :: starEach es X.env:=by ac_nf):PA X (e :: es) (Zp te t):=by intro pos pins s σ H Q I h;rw[O];show wpAny _ _ (spliced ((false,eval e X.env) :: backTo pos (starEach es X.env))) _ _ s;refine A2U (thn (ha pins s σ H _ I h) λu s1 ⟨x,H1,q,Z,U⟩=>?_);exact thn (J pos pins s1 σ H1 _ q U) λus s2 ⟨xs,H2,F,r2,Y⟩=>⟨x :: xs,H2,F,.cons Z r2,Y⟩
def aV0 (t:TA):TE:=fun σ H Q=>t σ H λxs H1=>xs.length<=sizeLine/\∀ p,H1 p=none->Q (.ref p) (upd H1 p (.tup xs))
def aU7 (t:TA):TE:=fun σ H Q=>t σ H λxs H1=>xs.length<=sizeLine/\∀ p,H1 p=none->Q (.ref p) (upd H1 p (.lst xs))
theorem B6 {x1}(h:PA X es t):PE X (.Tuple es x1 pos) (aV0 t):=by intro pins s σ H Q I O;refine wpAny_Tuple_spliced (thn (h pos pins s σ H _ I O) λus F ⟨xs,H1,J,r,z,q⟩=>⟨by rw[<- r.length];exact z,?_⟩);have hf:H1 F.heap.objs.size=none:=J.hok.fresh (A08 _);refine⟨.ref F.heap.objs.size,upd H1 F.heap.objs.size (.tup xs),J.laid (t':=F.toks) (λb u e=>A02 _ e) (A08 _) ?_,rfl,q _ hf⟩;exact⟨z,us,r,⟨_,A0I _ rfl,rfl,⟨_,rfl⟩,rfl⟩⟩
theorem Ci (h:PA X es t):PE X (.List es pos) (aU7 t):=by intro pins s σ H Q I O;refine wpAny_List_spliced (thn (h pos pins s σ H _ I O) λus F ⟨xs,H1,J,r,z,q⟩=>⟨by rw[<- r.length];exact z,?_⟩);have hf:H1 F.heap.objs.size=none:=J.hok.fresh (A08 _);refine⟨.ref F.heap.objs.size,upd H1 F.heap.objs.size (.lst xs),J.laid (t':=F.toks) (λb u e=>A02 _ e) (A08 _) ?_,rfl,q _ hf⟩;exact⟨z,us,0,r,A0I _ rfl⟩
end
abbrev Sp:=List V->Hp->VK->XK->Prop
abbrev CXT:=List Env->Hp->Shared->XK->Value->Shared->Prop
structure Env0 (P:Program)(w:World)(K:W.Frag)(mg:Str->Option Value)(base:Heap)(A:Around)(outer:List Env)(s:Shared)(H:Hp):Prop where
 frames:A.frames=some outer
 mod:Mod K mg base
 bs:∀ b o,base.get? b=some o->s.heap.get? b=some o/\H b=none
 bsz:base.objs.size<=s.heap.objs.size
 funs:s.heap.FunFrames base outer
 frf:∀ b∈frs outer,H b=none
 hok:HOk P w H s.heap
 bare:AllBare s.gens
def CE (outer:List Env)(P:Program)(w:World)(H:Hp)(s:Shared)(Q:VK)(u:Value)(s':Shared):Prop:=
 ∃ v H',s'.os=s.os/\AllBare s'.gens/\Un (frs outer) [] H H' s.heap s'.heap/\HOk P w H' s'.heap/\RelV v u/\Q v H'
def CR (CX:CXT)(outer:List Env)(P:Program)(w:World)(H:Hp)(s:Shared)(Q:VK)(E:XK)(r:Result)(s':Shared):Prop:=
 match r with
 |.ok (.ret u)=>CE outer P w H s Q u s'
 |.ok _=>False
 |.error e=>CX outer H s E e s'
structure FnOk (P:Program)(w:World)(K:W.Frag)(mg:Str->Option Value)(base:Heap)(CX:CXT)(k:Nat)(f:Addr)(fd:FuncData)(ps:List Str)(sp:Sp):Prop where
 len:∀ vs H Q E,sp vs H Q E->vs.length=ps.length
 run:∀(A:Around) (outer:List Env) (s:Shared) (H:Hp) (args:Args) (us:List Value) (vs:List V) (Q:VK) (E:XK),Room k A->Env0 P w K mg base A outer s H->BindsTo s fd args (ps.zip us)->Vals vs us->sp vs H Q E ->
  codeAny (model P w) A (.call (.ref f) args) (CR CX outer P w H s Q E) s
theorem Env0.make {P:Program}{w:World}{K:W.Frag}{mg:Str->Option Value}{base:Heap}{A:Around}{outer:List Env}{s:Shared}{H:Hp}(e:Env0 P w K mg base A outer s H)(C:Addr)(us:List Value)(q:List (Str×Value)) :
  Env0 P w K mg base (A.under (.builtin "type.__call__" ⟨.ref C :: us,q⟩)) outer s H:=⟨by first | exact e.frames | (simpa[Around.under,Code.envs,Code.isFrame,pushEnvs] using e.frames),e.mod,e.bs,e.bsz,e.funs,e.frf,e.hok,e.bare⟩
section
variable {X:Cx}{pins:List (Addr×Obj)}{σ:St}{H:Hp}{s s':Shared}
theorem Inv.env0 (I:Inv X pins σ H s):Env0 X.prog X.w X.K X.mg X.base X.A X.stack s H:=
 ⟨I.ok.frames,I.ok.mod,I.bs,A0O I.ok.bsz I.sz,I.stack,I.stkFree,I.hok,I.bare⟩
theorem Inv.after {Q:VK}{u:Value}(I:Inv X pins σ H s)(h:CE X.stack X.prog X.w H s Q u s'):EP X pins σ Q u s':=by obtain⟨v,H',os,bare,un,hok,r,q⟩:=h;obtain⟨F,g,d,t,J⟩:=s';obtain rfl:J=s.os:=os;exact⟨v,H',I.call (h':=F) (g':=g) (d':=d) (t':=t) (ch:=[]) un hok bare (λb z=>absurd z (by simp)),r,q⟩
end
def az4 (sp:Sp)(dvs:List V)(E:XK)(t:TA):TE:=fun σ H Q=>t σ H λvs H1=>sp (vs++dvs) H1 Q E
def aT6 (C:Addr)(m:Str)(sp:Sp)(dvs:List V)(E:XK)(ta:TE)(t:TA):TE:=fun σ H Q=>ta σ H λx H1=>∃ a dx fs,x = .ref a/\H1 a=some (.ins C dx fs)/\fs.lookup m=none /\
 t σ H1 λvs H2=>sp (x :: (vs++dvs)) H2 Q E
def aS0 (C:Addr)(sp:Sp)(dvs:List V)(E:XK)(t:TA):TE:=fun σ H Q=>t σ H λvs H1=>∀ x dx,H1 x=none->H1 dx=none->dx≠x ->
 sp (.ref x :: (vs++dvs)) (upd (upd H1 dx (.own x)) x (.ins C dx [])) (λv H2=>v = .non/\Q (.ref x) H2) E
def Binds (K:W.Frag)(fd:FuncData)(ps:List Str)(ds:List Value):Prop:=
 ∀(s:Shared) (us:List Value),K.In s.heap->(us++ds).length=ps.length->BindsTo s fd ⟨us,[]⟩ (ps.zip (us++ds))
theorem Binds.all {K:W.Frag}{fd:FuncData}{ps:List Str}(h:∀ us:List Value,us.length=ps.length->bindArgs fd ⟨us,[]⟩=pure (ps.zip us)):Binds K fd ps []:=λs us _ q=>by rw[A27] at q ⊢;exact .of_eq (h us q)
def Qz (CX:CXT)(X:Cx)(E:XK):Prop:=∀(pins:List (Addr×Obj)) (σ:St) (H:Hp) (s:Shared) (e:Value) (s':Shared),Inv X pins σ H s->CX X.stack H s E e s'->X.xe e s'
section
variable {X:Cx}{CX:CXT}{k:Nat}{f C:Addr}{fd:FuncData}{ps:List Str}{sp:Sp}{dvs:List V}{ds:List Value}{E:XK}{x m:Str}{p pos apos:Pos}{e o:Expr}{es:List Expr}{ta:TE}{t:TA}
theorem ar1 {pins:List (Addr×Obj)}{σ:St}{H:Hp}{s:Shared}{Q:VK}{us:List Value}{vs:List V}(F:FnOk X.prog X.w X.K X.mg X.base CX k f fd ps sp)(U:Room k X.A)(hb:Binds X.K fd ps ds)(hd:Vals dvs ds)(Y:Qz CX X E)
  (I:Inv X pins σ H s) (r:Vals vs us) (h:sp (vs++dvs) H Q E):wpAny (model X.prog X.w) X.A (call (.ref f) us) (EP X pins σ Q) X.xe s:=by
 have J:Vals (vs++dvs) (us++ds):=r.append hd;have O:(us++ds).length=ps.length:=by rw[<- J.length];exact F.len _ _ _ _ h
 refine wpAny_call (codeAny_mono (F.run X.A X.stack s H ⟨us,[]⟩ (us++ds) (vs++dvs) Q E U I.env0 (hb s us I.kIn O) J h) λr s' q=>?_)
 cases r with
 |error e=>exact Y pins σ H s e s' I q
 |ok fl=>
   cases fl with
   |ret u=>exact I.after q
   |next=>exact False.elim q
   |brk=>exact False.elim q
   |cont=>exact False.elim q
theorem au9 (F:FnOk X.prog X.w X.K X.mg X.base CX k f fd ps sp)(hr:Room k X.A)(U:Gl X x)(hm:X.mg x=some (.ref f))(Y:W.keepIn X.K (.ref f)=true)(hb:Binds X.K fd ps ds)(hd:Vals dvs ds)(hx:Qz CX X E)
  (ha:PA X (e :: es) t) (O:(x==("__debug__":Str))=false:=by decide) (he:starEach (e :: es) X.env=(false,eval e X.env) :: starEach es X.env:=by ac_nf) (Z:(backTo pos (starEach es X.env)).any (·.1)=false:=by ac_nf) :
  PE X (.Call (.Name x p) (e :: es) [] pos) (az4 sp dvs E t):=by
 intro pins s σ H Q I h;refine A23 (Wd I U hm ?_ O);refine A55 (h₀:=X.base) I.ok.mod.kin Y (thn (ha pos pins s σ H _ I h) λus s1 ⟨vs,H1,J,r,q⟩=>⟨J.kIn,?_⟩) he Z;exact ar1 F hr hb hd hx J r q
theorem av6 {pl:Sem Bool}(he:PE X o ta)(c:Cls X.K C)(hm:aQ5 X.K C m f)(F:FnOk X.prog X.w X.K X.mg X.base CX k f fd ps sp)(Z:Room k X.A)(hb:Binds X.K fd ps ds)(hd:Vals dvs ds)(hx:Qz CX X E)(ha:PA X (e :: es) t)
  (a0:starEach (e :: es) X.env=(false,eval e X.env) :: starEach es X.env:=by ac_nf) (Y:(backTo pos (starEach es X.env)).any (·.1)=false:=by ac_nf)
  (ht:eval (.Call (.Attribute o m apos) (e :: es) [] pos) X.env=(do
   let ov <- eval o X.env
   standAt apos.atName
   let (f,first) <- holding [ov] (getMethod ov m pl)
   callWith pos f first (backTo pos (starEach (e :: es) X.env)) (backToKw pos (keywordEach [] X.env))):=by ac_nf) :
  PE X (.Call (.Attribute o m apos) (e :: es) [] pos) (aT6 C m sp dvs E ta t):=by
 intro pins s σ H Q I h;refine W.methodCall_KW (pl:=pl) (thn (he pins s σ H _ I h) λu s1 ⟨x,H1,J,rx,a,dx,fs,ex,U,l,q⟩=>?_) ht;subst ex;obtain rfl:u=Value.ref a:=rx;refine Z9 J U c hm l ?_;refine A55 (first:=[.ref a]) (h₀:=X.base) I.ok.mod.kin hm.kp (thn (ha pos pins s1 σ H1 _ J q) λus s2 ⟨vs,H2,O,r,q2⟩=>⟨O.kIn,?_⟩) a0 Y
 exact ar1 (us:=.ref a :: us) (vs:=.ref a :: vs) F Z hb hd hx O (.cons rfl r) q2
structure Mk (K:W.Frag)(C f:Addr):Prop where
 makes:W.makesIn K C=true
 init:W.findIn K (.ref C) "__init__" = some (some (.ref f))
 fn:W.isFn K (.ref f)=true
 kp:W.keepIn K (.ref C)=true
theorem al5 {pins:List (Addr×Obj)}{σ:St}{H:Hp}{s:Shared}{Q:VK}{us:List Value}{vs:List V}(M:Mk X.K C f)(F:FnOk X.prog X.w X.K X.mg X.base CX k f fd ps sp)(hr:Room (k+1) X.A)(hb:Binds X.K fd ps ds)(hd:Vals dvs ds)
  (hx:Qz CX X E) (I:Inv X pins σ H s) (r:Vals vs us)
  (h:∀ x dx,H x=none->H dx=none->dx≠x->sp (.ref x :: (vs++dvs)) (upd (upd H dx (.own x)) x (.ins C dx [])) (λv H2=>v = .non/\Q (.ref x) H2) E) :
  wpAny (model X.prog X.w) X.A (call (.ref C) us) (EP X pins σ Q) X.xe s:=by
 have O:=h (s.heap.objs.size+1) s.heap.objs.size (I.hok.fresh (A44 _)) (I.hok.fresh (A08 _)) (A11 (A2S _));have J:=Inv.made (C:=C) I;have U:Vals (V.ref (s.heap.objs.size+1) :: (vs++dvs)) (Value.ref (s.heap.objs.size+1) :: (us++ds)):=.cons rfl (r.append hd)
 have hl:(Value.ref (s.heap.objs.size+1) :: us++ds).length=ps.length:=by have e:=U.length;rw[F.len _ _ _ _ O] at e;exact e.symm
 refine wpAny_call (ak3 (f:=f) I.kIn M.makes M.init (A30.mp M.fn) (codeAny_mono (F.run _ X.stack _ _ ⟨Value.ref (s.heap.objs.size+1) :: us,[]⟩ (Value.ref (s.heap.objs.size+1) :: (us++ds)) _ _ E (hr.make C us [])
  (J.env0.make C us []) (hb _ (Value.ref (s.heap.objs.size+1) :: us) J.kIn hl) U O) λr s' q=>?_))
 cases r with
 |error e=>exact hx pins σ _ _ e s' J q
 |ok fl=>
   cases fl with
   |ret u=>obtain⟨v,H',Y,rv,Z,q3⟩:=J.after q;subst Z;exact⟨rv,⟨V.ref (s.heap.objs.size+1),H',Y,rfl,q3⟩⟩
   |next=>exact False.elim q
   |brk=>exact False.elim q
   |cont=>exact False.elim q
theorem aB9 (M:Mk X.K C f)(F:FnOk X.prog X.w X.K X.mg X.base CX k f fd ps sp)(Z:Room (k+1) X.A)(U:Gl X x)(hm:X.mg x=some (.ref C))(hb:Binds X.K fd ps ds)(hd:Vals dvs ds)(hx:Qz CX X E)
  (ha:PA X (e :: es) t) (O:(x==("__debug__":Str))=false:=by decide) (he:starEach (e :: es) X.env=(false,eval e X.env) :: starEach es X.env:=by ac_nf) (Y:(backTo pos (starEach es X.env)).any (·.1)=false:=by ac_nf) :
  PE X (.Call (.Name x p) (e :: es) [] pos) (aS0 C sp dvs E t):=by
 intro pins s σ H Q I h;refine A23 (Wd I U hm ?_ O);refine A55 (h₀:=X.base) I.ok.mod.kin M.kp (thn (ha pos pins s σ H _ I h) λus s1 ⟨vs,H1,J,r,q⟩=>⟨J.kIn,?_⟩) he Y;exact al5 M F Z hb hd hx J r q
end
section
variable {X:Cx}{CX:CXT}{k:Nat}{f C:Addr}{fd:FuncData}{ps ks:List Str}{sp:Sp}{E:XK}{x m:Str}{p pos apos kpos:Pos}{e o:Expr}{es:List Expr}{kws:List Keyword}{te ta:TE}{t tk:TA}{nm:Option Str}
variable {g:List Value->List Value->List Value}{gV:List V->List V->List V}
end
structure Ak (N P:List Str)(sc:Scope):Prop where
 kind:sc.kind = .function
 co:sc.isCoroutine=false
 gen:sc.isGenerator=false
 nd:N.Nodup
 pre:N.take P.length=P
 par:∀ x∈P,sc.names.lookup x=some .local\/sc.names.lookup x=some .cell
 nofree:∀ y∈sc.names,y.2 ≠ .free
theorem T1 {kindOf:Str->Option NameKind}{x:Str}:∀ {binds:List (Str×Value)} {m:Str->Option Value},(∀ v,(x,v)∉binds)->bindL kindOf binds m x=m x
 | [],_,_=>rfl
 | (n,v) :: r,m,h=>by
   unfold bindL;rw[T1 λw q=>h w (A09 _ q)]
   split
   . have:x≠n:=by rintro rfl;exact h v A0B
     simp[this]
   rfl
theorem Tf {kindOf:Str->Option NameKind}{x:Str}:∀ {binds:List (Str×Value)} {m:Str->Option Value},(∀ v,(x,v)∉binds)->bindC kindOf binds m x=m x
 | [],_,_=>rfl
 | (n,v) :: r,m,h=>by
   unfold bindC;rw[Tf λw q=>h w (A09 _ q)]
   split
   . rfl
   have:x≠n:=by rintro rfl;exact h v A0B
   simp[this]
theorem Vx {kindOf:Str->Option NameKind} {x:Str} {v:Value}:∀ {P:List Str} {vs:List Value} {i:Nat} {m:Str->Option Value},P.Nodup->P[i]? = some x->vs[i]? = some v->kindOf x=some .local ->
  bindL kindOf (P.zip vs) m x=some v
 | [],_,_,_,_,h,_,_=>by simp at h
 |_ :: _,[],_,_,_,_,h,_=>by simp at h
 |p :: P,w :: vs,0,m,nd,h1,h2,hk=>by simp at h1 h2;subst h1;subst h2;show bindL kindOf ((p,w) :: P.zip vs) m p=_;unfold bindL;rw[T1 λv q=>(A0V.mp nd).1 (A45 q).1,A0Z hk];simp
 |p :: P,w :: vs,i+1,m,nd,h1,h2,hk=>by show bindL kindOf ((p,w) :: P.zip vs) m x=_;unfold bindL;exact Vx (i:=i) (List.nodup_cons.mp nd).2 (by simpa using h1) (by simpa using h2) hk
theorem Um {kindOf:Str->Option NameKind} {x:Str} {v:Value}:∀ {P:List Str} {vs:List Value} {i:Nat} {m:Str->Option Value},P.Nodup->P[i]? = some x->vs[i]? = some v->kindOf x≠some .local ->
  bindC kindOf (P.zip vs) m x=some v
 | [],_,_,_,_,h,_,_=>by simp at h
 |_ :: _,[],_,_,_,_,h,_=>by simp at h
 |p :: P,w :: vs,0,m,nd,h1,h2,hk=>by simp at h1 h2;subst h1;subst h2;show bindC kindOf ((p,w) :: P.zip vs) m p=_;unfold bindC;rw[Tf λv q=>(A0V.mp nd).1 (A45 q).1,A0Q hk];simp
 |p :: P,w :: vs,i+1,m,nd,h1,h2,hk=>by show bindC kindOf ((p,w) :: P.zip vs) m x=_;unfold bindC;exact Um (i:=i) (List.nodup_cons.mp nd).2 (by simpa using h1) (by simpa using h2) hk
def start (N:List Str)(vs:List V):St:=vs.map some++List.replicate (N.length-vs.length) none
def at4 (CX:CXT)(P:Program)(w:World)(K:W.Frag)(mg:Str->Option Value)(base:Heap)(N:List Str)(qual:Str)(scope:Scope)(f:Addr)(cd:Value)(A:Around)(outer:List Env)(s:Shared)(H:Hp)(E:XK):Cx where
 prog:=P
 w:=w
 K:=K
 mg:=mg
 base:=base
 A:=A.deeper (envOfC qual scope s.heap.objs.size f cd)
 N:=N
 s₀:=s
 H₀:=H
 env:=envOfC qual scope s.heap.objs.size f cd
 outer:=outer
 stack:=envOfC qual scope s.heap.objs.size f cd :: outer
 ex:=[]
 calm:=true
 fn:=λ_=>true
 pn:=[]
 xe:=λe s'=>wpAny (model P w) (A.deeper (envOfC qual scope s.heap.objs.size f cd)) (leaving (envOfC qual scope s.heap.objs.size f cd) e) (λ_ q=>CX outer H s E e q) (λF q=>CX outer H s E F q) s'
theorem Xs {sc:Scope}{n:Nat}{x:Str}(h:sc.names.lookup x=some .cell):∃ c,(cellsFrom n sc.names []).lookup x=some c:=by have q:=W.cellsFrom_some sc.names n [] (.inl h);exact Option.isSome_iff_exists.mp q
theorem a79 {CX:CXT}{P:Program}{w:World}{K:W.Frag}{mg:Str->Option Value}{base:Heap}{N ps:List Str}{qual:Str}{scope:Scope}{f:Addr}{cd:Value}{A:Around}{outer:List Env}{s Z:Shared}{H:Hp}{E:XK}{us:List Value}{vs:List V}
  (S:Ak N ps scope) (hd:A.handled=none) (F:Env0 P w K mg base A outer s H) (hl:vs.length=ps.length) (r:Vals vs us)
  (x:InCallC s s.heap.objs.size (bindL (envOfC qual scope s.heap.objs.size f cd).kindOf (ps.zip us) λ_=>none) (cellsFrom (s.heap.objs.size+1) scope.names []) (bindC (envOfC qual scope s.heap.objs.size f cd).kindOf (ps.zip us) λ_=>none) Z) :
  Inv (at4 CX P w K mg base N qual scope f cd A outer s H E) [] (start N vs) H Z:=by
 have a0:ps.length<=N.length:=by have:=congrArg List.length S.pre;rw[A10] at this;omega
 obtain⟨h1,tk,rfl,U⟩:=x.done;have O:∀ b:Addr,b∉(at4 CX P w K mg base N qual scope f cd A outer s H E).ex:=λb z=>absurd (show b∈([]:List Addr) from z) (by simp)
 refine⟨⟨F.mod,S.kind,rfl,rfl,A08 _,λy z c h1 h2=>?_,λy J=>?_,λy c _ h=>?_,λ_=>hd,Around.frames_deeper F.frames,.inr ⟨rfl,rfl⟩,λb z=>absurd z (O b),F.bs,F.bsz,λb _ _=>O b,λb z=>absurd z (O b),F.funs,F.frf⟩,
  rfl,F.bare,Un.kept U,⟨_,x.toInCall.ns,λi y v h1 h2 h3=>?_⟩,λy c h=>⟨_,x.cell y c h⟩,F.hok.fresh (Nat.le_refl _),λy c h=>?_,λp hp=>absurd (show p∈([]:List (Addr×Obj)) from hp) (by simp),F.hok.kept U,?_⟩
 . exact name_of_addr x.apart (A39 h1) (A39 h2)
 . have J:scope.names.lookup y=some .cell\/scope.names.lookup y=some .free:=J;rcases J with J|J
   . exact Xs J
   exact absurd rfl (S.nofree _ (A39 J))
 . exact A2E (x.above y c (A39 h))
 . have hi:i<vs.length:=by
    unfold start at h2
    by_cases hi:i<vs.length
    . exact hi
    rw[List.getElem?_append_right (by simpa using hi)] at h2;rw[A4I] at h2
    split at h2<;>cases h2
   have ha:vs[i]? = some v:=by
    unfold start at h2;rw[List.getElem?_append_left (by simpa using hi),List.getElem?_map] at h2
    cases e:vs[i]? with
    |none=>rw[e] at h2;cases h2
    |some a=>rw[e] at h2;cases h2;rfl
   obtain⟨u,hu,rv⟩:=r.get ha
   have hp:ps[i]? = some y:=by rw[<- S.pre,List.getElem?_take_of_lt ∅];exact h1
   have Y:ps.Nodup:=by rw[<- S.pre];exact S.nd.sublist (A4E _ _)
   refine⟨u,rv,?_⟩;rcases S.par y (A03 hp) with k|k
   . exact .inl ⟨k,Vx Y hp hu k⟩
   obtain⟨c,e⟩:=Xs (n:=s.heap.objs.size+1) k;refine .inr ⟨.inl k,c,e,?_⟩;have q:=x.cell y c e;rw[Um Y hp hu (by show scope.names.lookup y≠_;rw[k];decide)] at q;exact q
 . exact F.hok.fresh (A2E (x.above y c (A39 h)))
 unfold start;show _=N.length;rw[A07,A01,A2F];omega
theorem aF5 {CX:CXT}{P:Program}{w:World}{K:W.Frag}{mg:Str->Option Value}{base:Heap}{k:Nat}{f:Addr}{name qual:Str}{a2:Arguments}{Y:List Stmt}{scope:Scope}{dV kV a0 pm F ct oc:Value}{an od:Option Addr}
  {osl:Array (Option Value)} {N ps:List Str} {sp:Sp} (lk:K.lookup f=some ⟨oc,od,.func (W.fnOf name qual a2 Y scope dV kV a0 pm an F ct),osl⟩) (a4:W.codeIn K F qual=true) (S:Ak N ps scope)
  (len:∀ vs H Q E,sp vs H Q E->vs.length=ps.length)
  (a3:∀(A:Around) (outer:List Env) (s:Shared) (H:Hp) (vs:List V) (Q:VK) (E:XK),Room k (A.deeper (envOfC qual scope s.heap.objs.size f F))->sp vs H Q E ->
   ∃ t,PSs (at4 CX P w K mg base N qual scope f F A outer s H E) Y t/\t {nx:=λ_ H'=>Q .non H',rt:=Q} (start N vs) H) :
  FnOk P w K mg base CX (k+1) f (W.fnOf name qual a2 Y scope dV kV a0 pm an F ct) ps sp:=by
 refine⟨len,λA outer s H args us vs Q E Z U hb r a1=>?_⟩;have hl:=len _ _ _ _ a1;have KX:K.In s.heap:=U.mod.kin.keeps λb o e=>(U.bs b o e).1;have a6:s.heap.NoLimit:=U.mod.nolimit.keeps λb o e=>(U.bs b o e).1
 have a5:∀ y∈ps.zip us,scope.names.lookup y.1=some .local\/(scope.names.lookup y.1=some .cell/\((cellsFrom (s.heap.objs.size+1) scope.names []).lookup y.1).isSome=true):=λ⟨n,v⟩ hy=>by
  rcases S.par n (A45 hy).1 with q|q
  . exact .inl q
  exact .inr ⟨q,W.cellsFrom_some _ _ _ (.inl q)⟩
 refine codeAny_call_function Z.depth (KX _ _ lk) rfl S.co S.gen rfl (W.codeRec_of KX a4) (hb _ _ _ _ ?_);refine wpAny_newFunctionEnv_cells S.kind a5 λenv he s1 x=>?_;subst he;refine⟨a6.keeps x.toInCall.keep,codeAny_func ?_⟩;obtain⟨t,ht,hq⟩:=a3 A outer s H vs Q E (Z.deeper _) a1;have I:Inv (at4 CX P w K mg base N qual scope f F A outer s H E) [] (start N vs) H s1:=a79 S Z.hd U hl r x;refine A26 (ht [] s1 (start N vs) H _ I hq) (λfl s' O=>?_) λe s' O=>O
 have fin:∀ {σ':St} {H':Hp} {v:V} {u:Value},Inv (at4 CX P w K mg base N qual scope f F A outer s H E) [] σ' H' s'->RelV v u->Q v H'->CE outer P w H s Q u s':=
  fun {σ' H' v u} J rv q=>⟨v,H',J.os,J.bare,J.base,J.hok,rv,q⟩
 cases fl with
 |ret u=>obtain⟨v,σ',H',J,rv,q⟩:=O;exact fin J rv q
 |next=>obtain⟨σ',H',J,q⟩:=O;exact fin (v:=V.non) (u:=Value.none) J rfl q
 |brk=>obtain⟨_,_,_,q⟩:=O;exact False.elim q
 |cont=>obtain⟨_,_,_,q⟩:=O;exact False.elim q
section
variable {X:Cx}{x:Str}{p pos:Pos}{e:Expr}{es:List Expr}{t:TA}{id T:String}{r:List V->Hp->VK->Prop}
def tCB (r:List V->Hp->VK->Prop)(t:TA):TE:=fun σ H Q=>t σ H λvs H1=>r vs H1 Q
theorem Am (F:CallR X (.builtin id) r)(O:Gl X x)(hm:X.mg x=none)(Y:bootBuiltins x=some (.builtin id))(ha:PA X (e :: es) t)(hn:x ≠ "__name__":=by decide)(J:(x==("__debug__":Str))=false:=by decide)
  (he:starEach (e :: es) X.env=(false,eval e X.env) :: starEach es X.env:=by ac_nf) (U:(backTo pos (starEach es X.env)).any (·.1)=false:=by ac_nf):PE X (.Call (.Name x p) (e :: es) [] pos) (tCB r t):=by
 intro pins s σ H Q I h;refine A23 (Jz I O hm Y ?_ hn J);exact A3U (thn (ha pos pins s σ H _ I h) λus s1 ⟨vs,H1,q,r1,Z⟩=>F pins s1 σ H1 vs us Q q r1 Z) he U
theorem B0 (F:CallR X (.type T) r)(O:Gl X x)(hm:X.mg x=none)(Y:bootBuiltins x=some (.type T))(ha:PA X (e :: es) t)(hn:x ≠ "__name__":=by decide)(J:(x==("__debug__":Str))=false:=by decide)
  (he:starEach (e :: es) X.env=(false,eval e X.env) :: starEach es X.env:=by ac_nf) (U:(backTo pos (starEach es X.env)).any (·.1)=false:=by ac_nf):PE X (.Call (.Name x p) (e :: es) [] pos) (tCB r t):=by
 intro pins s σ H Q I h;refine A23 (Jz I O hm Y ?_ hn J);exact A1W (thn (ha pos pins s σ H _ I h) λus s1 ⟨vs,H1,q,r1,Z⟩=>F pins s1 σ H1 vs us Q q r1 Z) he U
end
end L2
namespace HT
open PySem PyProof.Rows
section
open PySem.SeqAt
open PySem.AutoSeq1 (wpAny_loadPart')
open PySem.MeetsSeq PySem.MeetsSeq2 PySem.MeetsSeq3
end
section
variable {prog:Program}{w:World}{A:Around}{E:Value->Shared->Prop}{s:Shared}
theorem cat_tup {t b:Addr}{vs ws:List Value}{Q:Value->Shared->Prop}(ht:IsTup s.heap t vs.toArray)(hb:IsTup s.heap b ws.toArray)(hv:vs≠[])
  (h1:ws=[]->Q (.ref t) s) (h2:ws≠[]->Q (.ref s.heap.objs.size) {s with heap:=s.heap.push {cls:=.type "tuple",data:=.seq (vs++ws).toArray}})
  (hsz:vs.length+ws.length<=sizeLine):wpAny (model prog w) A (binaryOp .Add (.ref t) (.ref b)) Q E s:=by
 obtain⟨⟨cls,U,data,sl⟩,q,Z,n,hd⟩:=id ht;obtain⟨⟨a3,Y,data2,a2⟩,J,a0,n2,a1⟩:=id hb;simp only at Z hd a0 a1;subst Z hd a0 a1;have e:vs.toArray++ws.toArray=(vs++ws).toArray:=by simp
 by_cases O:ws=[]
 . exact concat_meets ⟨_,q,rfl⟩ ⟨_,J,rfl⟩ noFill_tuple_add seq_tuple_add PySem.F.slot_tuple_add PySem.F.entry_tuple_add (PySem.F.args_tuple_add_2 _ _)
    (tuple_addW1 t b vs.toArray ws.toArray n n2 U Y sl a2 (by simpa using hv) (by simp[O])) ⟨q,J,h1 O⟩
 refine concat_meets ⟨_,q,rfl⟩ ⟨_,J,rfl⟩ noFill_tuple_add seq_tuple_add PySem.F.slot_tuple_add PySem.F.entry_tuple_add (PySem.F.args_tuple_add_2 _ _)
  (tuple_addW2 t b vs.toArray ws.toArray n n2 U Y sl a2 (by simpa using hv) (by simpa using O) (by rw[List.size_toArray,List.size_toArray];exact hsz)) ⟨q,J,?_⟩
 rw[e];exact h2 O
def sIx (n d:Nat):Option Int->Nat
 |none=>d
 |some v=>if v<0 then(v+(n:Int)).toNat else min v.toNat n
theorem sIx_none (n d:Nat):sIx n d none=d:=rfl
theorem sIx_nat (n d k:Nat):sIx n d (some (k:Int))=min k n:=by
 show(if(k:Int)<0 then((k:Int)+(n:Int)).toNat else min (k:Int).toNat n)=min k n
 rw [A0Q ∅,Int.toNat_natCast]
theorem aP8 (n d:Nat)(hd:d<=n)(o:Option Int):sIx n d o<=n:=by
 cases o with
 |none=>exact hd
 |some v=>
   show(if v<0 then(v+(n:Int)).toNat else min v.toNat n)<=n
   by_cases q:v<0
   . rw[A0Z q];omega
   rw[A0Q q];exact A3Y _ _
theorem ah3 (v:Int)(n d:Nat):(if v<0 then max (v+(n:Int)) 0 else min v (n:Int))=((sIx n d (some v):Nat):Int):=by
 show(if v<0 then max (v+(n:Int)) 0 else min v (n:Int))=(((if v<0 then(v+(n:Int)).toNat else min v.toNat n):Nat):Int)
 by_cases q:v<0
 . simp only[if_pos q];omega
 simp only[if_neg q];omega
theorem Zn (lo hi:Option Int)(n:Nat):Builtin.Slice.sliceAdjust lo hi 1 (n:Int)=(((sIx n 0 lo:Nat):Int),((sIx n n hi:Nat):Int)):=by
 have h1:¬ ((1:Int)<0):=by omega
 unfold Builtin.Slice.sliceAdjust;simp only[h1,if_false];refine Prod.ext ?_ ?_
 . cases lo with
   |none=>rfl
   |some v=>exact ah3 v n 0
 cases hi with
 |none=>rfl
 |some v=>exact ah3 v n n
theorem Z7 (i j:Nat):Builtin.Slice.slicePlaces (i:Int) (j:Int) 1=j-i:=by
 unfold Builtin.Slice.slicePlaces;have h1:(1:Int)>0:=by omega
 simp only[h1,if_true,Int.ediv_one]
 split<;>omega
theorem Qp {v:Value}{o:Option Int}{Q:Option Int->Shared->Prop}(p:IsPart v o)(h:Q o s):wpAny (model prog w) A (Builtin.Slice.slicePartIndex v) Q E s:=by
 cases p with
 |none=>exact slicePart_none h
 |int i t=>exact slicePart_int h
theorem sliceApplied_gen {U:Addr}{J O:Value}{lo hi:Option Int}{n:Nat}{Q:Int×Int×Nat->Shared->Prop}(Y:s.heap.IsSliceOf U J O .none)(pl:IsPart J lo)(Z:IsPart O hi)
  (h:Q (((sIx n 0 lo:Nat):Int),1,sIx n n hi-sIx n 0 lo) s):wpAny (model prog w) A (Builtin.Slice.sliceApplied (.ref U) (pure (n:Int))) Q E s:=by
 obtain⟨os,F,a0,q⟩:=id Y;unfold Builtin.Slice.sliceApplied Builtin.Slice.sliceFields;refine A05 (A05 (A46 F q (x:=J) rfl (A05 (A46 F q (x:=O) rfl (A05 (A46 F q (x:=.none) rfl (A0K ?_)))))));refine A05 (slicePart_none ?_);show wpAny _ _ (if((1:Int)==0)=true then _ else _) _ _ s
 rw[A0Q nofun];refine A05 (Qp pl (A05 (Qp Z (A05 (A0K ?_)))));show wpAny _ _ (match Builtin.Slice.sliceAdjust lo hi 1 (n:Int) with | (lo,hi)=>pure (lo,(1:Int),Builtin.Slice.slicePlaces lo hi 1)) _ _ s
 rw[Zn lo hi n];show wpAny _ _ (pure (((sIx n 0 lo:Nat):Int),(1:Int),Builtin.Slice.slicePlaces ((sIx n 0 lo:Nat):Int) ((sIx n n hi:Nat):Int) 1)) _ _ s;rw[Z7];exact A0K h
theorem al9 (xs:Array Value)(i k:Nat):((List.range k).filterMap λ(m:Nat)=>xs[((i:Int)+(m:Int)*1).toNat]?).toArray=((xs.toList.drop i).take k).toArray:=by
 have e:(λ(m:Nat)=>xs[((i:Int)+(m:Int)*1).toNat]?)=λm=>xs[i+m]?:=by
  funext m;have:((i:Int)+(m:Int)*1).toNat=i+m:=by omega
  rw[this]
 rw[e];have:=pick_run xs i k;rw[List.filterMap_map] at this;have q:((λx=>xs[x]?)∘λx=>i+x)=λm=>xs[i+m]?:=rfl;rw[q] at this;rw[this]
theorem getItem_tuple_cut {t O:Addr}{items:Array Value}{Y Z:Value}{lo hi:Option Int}{Q:Value->Shared->Prop}(F:IsTup s.heap t items)(U:s.heap.IsSliceOf O Y Z .none)(pl:IsPart Y lo)(pu:IsPart Z hi)
  (hw:¬ (sIx items.size 0 lo=0/\sIx items.size items.size hi=items.size))
  (h:Q (.ref s.heap.objs.size) {s with heap:=s.heap.push {cls:=.type "tuple",data:=.seq ((items.toList.drop (sIx items.size 0 lo)).take (sIx items.size items.size hi-sIx items.size 0 lo)).toArray}})
  (hsz:items.size<=sizeLine):wpAny (model prog w) A (getItem (.ref t) (.ref O)) Q E s:=by
 have J:sizeOk (.seq ((items.toList.drop (sIx items.size 0 lo)).take (sIx items.size items.size hi-sIx items.size 0 lo)).toArray):=by show((items.toList.drop (sIx items.size 0 lo)).take (sIx items.size items.size hi-sIx items.size 0 lo)).toArray.size<=sizeLine;rw[A0R,A10,A1B,A4Z];omega
 have hj:sIx items.size items.size hi<=items.size:=aP8 _ _ (A08 _) hi;obtain⟨os,a3,a1,a4⟩:=id U;have a0:s.TypeIs (.ref O) "slice":=⟨os,a3,a1⟩;unfold getItem
 try with_reducible refine A42 ?_
 first | refine A05 (A0K ?_) | skip
 refine A05 (wpAny_sequenceKey F.typeIs nofun ?_)
 refine A05 (A3G (name:=Str.ofString "__getitem__") F.typeIs A2L
  (A3Z A2L F.typeIs entry_tuple_getitem ?_ (args_tuple_getitem _ _)))
 show wpAny _ _ (Builtin.Tuple.tupleItemsOf (.ref t) >>= _) _ _ s;refine A05 (tupleItemsOf_ F ?_);refine A05 (A3V a0 ?_);rw[A0Z nofun];refine A05 (sliceApplied_gen U pl pu ?_)
 have a2:¬ ((((sIx items.size 0 lo:Nat):Int)==0&&(1:Int)==1&&(sIx items.size items.size hi-sIx items.size 0 lo)==items.size)=true):=by intro q;rw[A14,A14] at q;have q1:((sIx items.size 0 lo:Nat):Int)=0:=eq_of_beq q.1.1;have q2:sIx items.size items.size hi-sIx items.size 0 lo=items.size:=eq_of_beq q.2;exact hw ⟨by omega,by omega⟩
 show wpAny _ _ (if(((sIx items.size 0 lo:Nat):Int)==0&&(1:Int)==1&&(sIx items.size items.size hi-sIx items.size 0 lo)==items.size)=true then _ else _) _ _ s
 rw[A0Q a2,al9]
 first
  |exact A05 (m:=Builtin.Tuple.tupleExact _) (A2M (A0K ⟨_,rfl,A0K h⟩) J)
  |exact A05 (m:=Builtin.Tuple.tupleExact _) (A2M (A05 (A0K (A0K ⟨_,rfl,A0K h⟩))) J)
  |exact A05 (A05 (m:=Builtin.Tuple.tupleExact _) (A2M (A0K (A0K ⟨_,rfl,A0K h⟩)) J))
  |exact A05 (A05 (m:=Builtin.Tuple.tupleExact _) (A2M (A0K ⟨_,rfl,A0K h⟩) J))
end
end HT
namespace L2
open PySem PySem.Spec PyProof.Rows
abbrev TO:=St->Hp->(Option Int->Hp->Prop)->Prop
def PO (X:Cx)(e:Option Expr)(t:TO):Prop:=
 ∀(pins:List (Addr×Obj)) (s:Shared) (σ:St) (H:Hp) (Q:Option Int->Hp->Prop),Inv X pins σ H s->t σ H Q ->
  wpAny (model X.prog X.w) X.A (evalPart e X.env) (λu s'=>∃ o H',Inv X pins σ H' s'/\IsPart u o/\Q o H') X.xe s
def ac5:TO:=λ_ H Q=>Q none H
def aG7 (t:TE):TO:=fun σ H Q=>t σ H λx H1=>∃ i,x = .int i/\Q (some i) H1
section
variable {X:Cx}{e:Expr}{te:TE}{lo hi:Option Expr}{tl th:TO}{pos p2:Pos}
theorem Fb:PO X none ac5:=by intro pins s σ H Q I h;rw[evalPart_none];exact A0K ⟨none,H,I,.none,h⟩
theorem Bq (h:PE X e te):PO X (some e) (aG7 te):=by intro pins s σ H Q I J;rw[evalPart_some];refine thn (h pins s σ H _ I J) λu Y ⟨x,H1,F,U,O⟩=>?_;obtain⟨i,rfl,q⟩:=O;obtain⟨t,rfl⟩:=U;exact⟨some i,H1,F,.int i t,q⟩
def SlR (X:Cx)(r:V->Option Int->Option Int->Hp->VK->Prop):Prop:=
 ∀(pins:List (Addr×Obj)) (s:Shared) (σ:St) (H:Hp) (x:V) (v vl vu:Value) (lo hi:Option Int) (sl:Addr) (Q:VK),Inv X pins σ H s->RelV x v->s.heap.IsSliceOf sl vl vu .none->IsPart vl lo->IsPart vu hi->r x lo hi H Q ->
  ∃ T id,typeLookup (.type T) "__getitem__" = pure (some (.builtin id))/\s.TypeIs v T/\wpAny (model X.prog X.w) X.A (getItem v (.ref sl)) (EP X pins σ Q) X.xe s
theorem SlR.or {r r':V->Option Int->Option Int->Hp->VK->Prop}(h:SlR X r)(h':SlR X r'):SlR X (λx lo hi H Q=>r x lo hi H Q\/r' x lo hi H Q):=by
 intro pins s σ H x v Y Z lo hi U Q I O F pl J q;rcases q with q|q
 . exact h pins s σ H x v Y Z lo hi U Q I O F pl J q
 exact h' pins s σ H x v Y Z lo hi U Q I O F pl J q
def tSl (r:V->Option Int->Option Int->Hp->VK->Prop)(te:TE)(tl th:TO):TE:=fun σ H Q=>te σ H λx H1=>tl σ H1 λl H2=>th σ H2 λu q=>r x l u q Q
theorem Bt {r:V->Option Int->Option Int->Hp->VK->Prop}(hr:SlR X r)(he:PE X e te)(hl:PO X lo tl)(hu:PO X hi th):PE X (.Subscript e (.Slice lo hi none p2) pos) (tSl r te tl th):=by
 intro pins s σ H Q I h;refine Subscript_ (thn (he pins s σ H _ I h) λv s1 ⟨x,H1,Y,r1,q1⟩=>?_);refine wpAny_Slice (thn (hl pins s1 σ H1 _ Y q1) λJ s2 ⟨l,H2,Z,pl,q2⟩=>thn (hu pins s2 σ H2 _ Z q2) λO F ⟨u,U,I3,pu,q3⟩=>?_);rw[evalPart_none];refine A0K ?_;have I4:Inv X pins σ U {F with heap:=F.heap.push {cls:=.type "slice",data:=.fields #[J,O,.none]}}:=I3.kept (t':=F.toks) λb ob q=>A02 _ q
 obtain⟨T,id,hT,ht,hg⟩:=hr pins {F with heap:=F.heap.push {cls:=.type "slice",data:=.fields #[J,O,.none]}} σ U x v J O l u F.heap.objs.size Q I4 r1 (Heap.IsSliceOf.new ..) pl pu q3
 show wpAny (model X.prog X.w) X.A (subscriptTail e (.Slice lo hi none p2) v (.ref F.heap.objs.size)) (EP X pins σ Q) X.xe {F with heap:=F.heap.push {cls:=.type "slice",data:=.fields #[J,O,.none]}}
 exact tail_any (ops:=[.ref F.heap.objs.size,v]) ht hT hg ⋯
def Pr (xs:List V)(lo hi:Option Int):List V:=(xs.drop (HT.sIx xs.length 0 lo)).take (HT.sIx xs.length xs.length hi-HT.sIx xs.length 0 lo)
theorem Pe (xs:List V)(lo hi:Option Int):(Pr xs lo hi).length<=xs.length:=by unfold Pr;rw[A10,A1B];omega
def aV7 (K:W.Frag):V->Option Int->Option Int->Hp->VK->Prop:=λx lo hi H Q=>∃ a xs,x = .ref a/\SqT K H a xs /\
 ¬ (HT.sIx xs.length 0 lo=0/\HT.sIx xs.length xs.length hi=xs.length)/\∀ p,H p=none->Q (.ref p) (upd H p (.tup (Pr xs lo hi)))
theorem sl_tup:SlR X (aV7 X.K):=by
 intro pins s σ H x v vl vu lo hi sl Q I rx O pl pu h;obtain⟨a,xs,rfl,Y,U,q⟩:=h
 cases rx;obtain⟨Z,r,J,hz⟩:=I.tuple Y;have F:Z.toArray.size=xs.length:=by rw[A0R];exact r.length.symm
 refine⟨"tuple",_,PyProof.Rows.slot_tuple_getitem.lookup,J.typeIs,?_⟩;refine HT.getItem_tuple_cut J O pl pu (by rw[F];exact U) ?_ (by rw[F];exact hz);rw[F];refine⟨.ref s.heap.objs.size,_,I.laid (t':=s.toks) (o:=.tup (Pr xs lo hi)) (λb ob q=>A02 _ q) (A08 _) ?_,rfl,q _ (I.hok.fresh (A08 _))⟩;exact⟨A0O (Pe xs lo hi) hz,_,(r.drop (HT.sIx xs.length 0 lo)).take (HT.sIx xs.length xs.length hi-HT.sIx xs.length 0 lo),IsTupN.new _ _⟩
def aG8 (K:W.Frag):R2:=λx y H Q=>∃ a b xs ys,x = .ref a/\y = .ref b/\SqT K H a xs/\SqT K H b ys/\xs≠[]/\xs.length+ys.length<=sizeLine /\
 (ys=[]->Q (.ref a) H)/\(ys≠[]->∀ p,H p=none->Q (.ref p) (upd H p (.tup (xs++ys))))
theorem Vals.nil_iff {xs:List V}{us:List Value}(r:Vals xs us):us=[]↔xs=[]:=by
 cases r with
 |nil=>simp
 |cons _ _=>simp
theorem op_catT:OpR X (binaryOp .Add) (aG8 X.K):=by
 intro pins s σ H x y v u Q I Z ry h;obtain⟨a,b,xs,ys,rfl,rfl,ha,hb,O,hz,U,Y⟩:=h
 cases Z
 cases ry;obtain⟨a0,J,p1,_⟩:=I.tuple ha;obtain⟨a1,F,p2,_⟩:=I.tuple hb;refine HT.cat_tup p1 p2 (λz=>O (J.nil_iff.mp z)) (λz=>⟨.ref a,H,I,rfl,U (F.nil_iff.mp z)⟩) (λz=>?_) (by rw[<- J.length,<- F.length];exact hz);refine⟨.ref s.heap.objs.size,_,I.laid (t':=s.toks) (o:=.tup (xs++ys)) (λb ob q=>A02 _ q) (A08 _) ?_,rfl,Y (λw=>z (F.nil_iff.mpr w)) _ (I.hok.fresh (A08 _))⟩;exact⟨by rw[A07];exact hz,_,J.append F,IsTupN.new _ _⟩
end
def ixN (n:Nat)(i:Int):Option Nat:=if 0<=i then(if i<n then some i.toNat else none) else if -(n:Int)<=i then some (i+n).toNat else none
def atI {α:Type}(xs:List α)(i:Int):Option α:=(ixN xs.length i).bind λj=>xs[j]?
theorem at9 {n:Nat}{i:Int}{j:Nat}(h:ixN n i=some j):seqIndex? i n=some j/\j<n /\ -(n:Int)<=i/\i<n:=by
 unfold ixN at h
 by_cases q:0<=i
 . rw[A0Z q] at h
   by_cases h1:i<n
   . rw[A0Z h1] at h;have e:i.toNat=j:=A15 h;exact⟨by rw[seqIndex_of q h1,e],by omega,by omega,h1⟩
   rw[A0Q h1] at h;cases h
 rw[A0Q q] at h
 by_cases h1:-(n:Int)<=i
 . rw[A0Z h1] at h;have e:(i+n).toNat=j:=A15 h;exact⟨by rw[seqIndex_neg ∅ h1,e],by omega,h1,by omega⟩
 rw[A0Q h1] at h;cases h
theorem R8 {α:Type} {xs:List α} {i:Int} {v:α} (h:atI xs i=some v):∃ j,seqIndex? i xs.length=some j/\xs[j]? = some v/\j<xs.length /\ -(xs.length:Int)<=i/\i<xs.length:=by
 unfold atI at h
 cases e:ixN xs.length i with
 |none=>rw[e] at h;cases h
 |some j=>rw[e] at h;obtain⟨h1,h2,q,F⟩:=at9 e;exact⟨j,h1,h,h2,q,F⟩
theorem Dz {α:Type}{xs:List α}{j:Nat}{v:α}(h:xs[j]? = some v):atI xs (j:Int)=some v:=by
 have q:j<xs.length:=(A00.mp h).1
 have e:ixN xs.length (j:Int)=some j:=by unfold ixN;rw[if_pos ∅,if_pos ∅];simp
 unfold atI;rw[e];exact h
def aC9 (b:Expr):Prop:=∀ o i,subscripted b false o i=operate [o,i] (getItem o i)
def IxR (X:Cx)(r:R2):Prop:=
 ∀(value q:Expr) (pins:List (Addr×Obj)) (s:Shared) (σ:St) (H:Hp) (x y:V) (v u:Value) (Q:VK),Inv X pins σ H s->RelV x v->RelV y u->r x y H Q ->
  subscripted q false v u=operate [v,u] (getItem v u)->wpAny (model X.prog X.w) X.A (subscriptTail value q v u) (EP X pins σ Q) X.xe s
def MtR (X:Cx)(id:String)(r:V->List V->Hp->VK->Prop):Prop:=
 ∀(pins:List (Addr×Obj)) (s:Shared) (σ:St) (H:Hp) (x:V) (xs:List V) (v:Value) (us:List Value) (Q:VK),Inv X pins σ H s->RelV x v->Vals xs us->r x xs H Q ->
  wpAny (model X.prog X.w) X.A (call (.builtin id) (v :: us)) (EP X pins σ Q) X.xe s
section
variable {X:Cx}{a b:Expr}{ta tb:TE}{pos:Pos}
theorem IxR.or {r r':R2}(h:IxR X r)(h':IxR X r'):IxR X (λx y H Q=>r x y H Q\/r' x y H Q):=by
 intro value U pins s σ H x y v u Q I J O q F;rcases q with q|q
 . exact h value U pins s σ H x y v u Q I J O q F
 exact h' value U pins s σ H x y v u Q I J O q F
theorem Ad {r:R2}(J:IxR X r)(ha:PE X a ta)(hb:PE X b tb)(O:aC9 b):PE X (.Subscript a b pos) (tOp r ta tb):=by intro pins s σ H Q I h;exact Subscript_ (aR1 ha hb I h λv u Z x y H2 F U Y q=>J a b pins Z σ H2 x y v u Q F U Y q (O _ _))
def aU3 (K:W.Frag):R2:=λx y H Q=>∃ p xs i v,x = .ref p/\y = .int i/\SqL K H p xs/\atI xs i=some v/\Q v H
def aW3 (K:W.Frag):R2:=λx y H Q=>∃ p xs i v,x = .ref p/\y = .int i/\SqT K H p xs/\atI xs i=some v/\Q v H
def aV2:R2:=λx y H Q=>∃ z i c,x = .str z/\y = .int i/\z.length<=sizeLine/\atI z.cps.toList i=some c/\Q (.str ⟨#[c]⟩) H
theorem ix_list:IxR X (aU3 X.K):=by
 intro value a2 pins s σ H x y v u Q I rx ry h U;obtain⟨p,xs,i,z,rfl,rfl,hq,he,q⟩:=h
 cases rx;obtain⟨t,rfl⟩:=ry;obtain⟨a0,r,pl,hz⟩:=I.list hq;obtain⟨j,h1,h2,h3,Y,Z⟩:=R8 he;obtain⟨w,J,a1⟩:=r.get h2;have hl:=r.length;have hn:=Nc;have fin:EP X pins σ Q w s:=⟨z,H,I,a1,q⟩
 by_cases O:0<=i
 . have F:i.toNat=j:=by rw[seqIndex_of O Z] at h1;exact A15 h1
   exact item_listR pl.isList O ∅ (by rw[F];simpa using J) fin U
 have F:(i+(a0.toArray.size:Int)).toNat=j:=by rw[seqIndex_neg ∅ Y] at h1;rw[A0R,<- hl];exact A15 h1
 exact subscriptTail_builtinR (x:=w) pl.isList.typeIs slot_list_getitem.lookup
  (wpAny_getItem_list_neg (Q:=λr s'=>r=w/\EP X pins σ Q r s') pl.isList ∅ (by rw[List.size_toArray]<;>omega) ∅ (by rw[F];simpa using J) ⟨rfl,fin⟩) U
theorem ix_tup:IxR X (aW3 X.K):=by
 intro value a1 pins s σ H x y v u Q I Z ry h U;obtain⟨p,xs,i,z,rfl,rfl,O,he,q⟩:=h
 cases Z;obtain⟨t,rfl⟩:=ry;obtain⟨a0,r,pl,hz⟩:=I.tuple O;obtain⟨j,h1,h2,h3,h4,h5⟩:=R8 he;obtain⟨w,F,Y⟩:=r.get h2;have J:=r.length;have hn:=Nc;have fin:EP X pins σ Q w s:=⟨z,H,I,Y,q⟩
 exact subscriptTail_builtinR (x:=w) pl.typeIs slot_tuple_getitem.lookup
  (getItem_tuple (j:=j) (Q:=λr s'=>r=w/\EP X pins σ Q r s') pl ∅ ∅ (by rw[List.size_toArray,<- J];exact h1) (by simpa using F) ⟨rfl,fin⟩) U
theorem aO1:IxR X aV2:=by
 intro value a0 pins s σ H x y v u Q I rx ry h Z;obtain⟨z,i,c,rfl,rfl,hz,he,q⟩:=h;obtain⟨t,rfl⟩:=rx;obtain⟨t',rfl⟩:=ry;obtain⟨j,h1,h2,h3,O,U⟩:=R8 he;have Y:z.cps.toList.length=z.length:=by simp[Str.length]
 rw[Y] at h1 O U;have hn:=Nc
 exact tail_any (typeIs_str s z t) slot_str_getitem.lookup (getItem_str (c:=c) (by have F:decide (i < -(2 ^ 63:Int))=false:=A0N ∅;have J:decide (i>=2 ^ 63)=false:=A0N ∅;rw[F,J,Bool.or_false]) (by rw[h1];simpa using h2) ⟨.str ⟨#[c]⟩,H,I.tok _,⟨_,rfl⟩,q⟩) Z
def rIx (K:W.Frag):R2:=λx y H Q=>aU3 K x y H Q\/aW3 K x y H Q\/aV2 x y H Q
theorem ix_seq:IxR X (rIx X.K):=ix_list.or (ix_tup.or aO1)
theorem Vs (lo hi:Option Int) (n:Nat):(sliceBounds lo hi none n).1=((HT.sIx n 0 lo:Nat):Int)/\(sliceBounds lo hi none n).2.1=((HT.sIx n n hi:Nat):Int)/\(sliceBounds lo hi none n).2.2=1:=by
 refine⟨?_,?_,rfl⟩
 . cases lo with
   |none=>simp[sliceBounds,HT.sIx]
   |some i=>
     simp only[sliceBounds,HT.sIx,Option.getD_none,show(1:Int)>0 by decide,if_true]
     by_cases h:i<0
     . simp only[h,if_true]<;>omega
     simp only[h,if_false]<;>omega
 cases hi with
 |none=>simp[sliceBounds,HT.sIx]
 |some i=>
   simp only[sliceBounds,HT.sIx,Option.getD_none,show(1:Int)>0 by decide,if_true]
   by_cases h:i<0
   . simp only[h,if_true]<;>omega
   simp only[h,if_false]<;>omega
theorem Ku (q:List Value)(lo hi:Option Int):slicePick q.toArray lo hi none=((q.drop (HT.sIx q.length 0 lo)).take (HT.sIx q.length q.length hi-HT.sIx q.length 0 lo)).toArray:=by obtain⟨h1,h2,F⟩:=Vs lo hi q.toArray.size;unfold slicePick;rw[h1,h2,F];simp only[sliceRange_one,pick_run,List.size_toArray]<;>rfl
def aV4 (K:W.Frag):V->Option Int->Option Int->Hp->VK->Prop:=λx lo hi H Q=>∃ a xs,x = .ref a/\SqL K H a xs/\∀ p,H p=none->Q (.ref p) (upd H p (.lst (Pr xs lo hi)))
theorem sl_list:SlR X (aV4 X.K):=by
 intro pins s σ H x v vl vu lo hi sl Q I Z O pl Y h;obtain⟨a,xs,rfl,U,q⟩:=h
 cases Z;obtain⟨a0,r,F,hz⟩:=I.list U;have J:=r.length;refine⟨"list",_,slot_list_getitem.lookup,F.isList.typeIs,?_⟩;refine wpAny_getItem_list_slice F.isList O pl Y .none (by simp) ?_ (by rw[List.size_toArray]<;>omega)
 rw[Ku,<- J];refine⟨.ref s.heap.objs.size,_,I.laid (t':=s.toks) (o:=.lst (Pr xs lo hi)) (λb ob q=>A02 _ q) (A08 _) ?_,rfl,q _ (I.hok.fresh (A08 _))⟩;exact⟨A0O (Pe xs lo hi) hz,_,0,(r.drop (HT.sIx xs.length 0 lo)).take (HT.sIx xs.length xs.length hi-HT.sIx xs.length 0 lo),A0I _ rfl⟩
def Sr:V->Bool
 |.non=>true
 |.bl _=>true
 |.int _=>true
 |.str _=>true
 |_=>false
def eqV:V->V->Bool
 |.non,.non=>true
 |.bl a,.bl b=>a==b
 |.bl a,.int b=>(if a then 1 else 0)==b
 |.int a,.bl b=>a==(if b then 1 else 0)
 |.int a,.int b=>a==b
 |.str a,.str b=>a==b
 |_,_=>false
theorem aI4 {A:Around}{s:Shared}{y x:V}{u v:Value}(J:RelV y u)(q:RelV x v)(O:Sr y=true)(F:Sr x=true):SeqAt.EqAt A s u v (eqV y x):=by
 cases y with
 |non=>
   cases J
   cases x with
   |non=>cases q;exact SeqAt.EqAt.same _
   |bl b=>cases q;exact SeqAt.EqAt.none_bool b
   |int b=>obtain⟨t,rfl⟩:=q;exact SeqAt.EqAt.none_int b t
   |str b=>obtain⟨t,rfl⟩:=q;exact SeqAt.EqAt.none_str b t
   |_=>exact absurd (show false=true from F) A0J
 |bl a=>
   cases J
   cases x with
   |non=>cases q;exact SeqAt.EqAt.bool_none a
   |bl b=>cases q;exact SeqAt.EqAt.bool_bool a b
   |int b=>obtain⟨t,rfl⟩:=q;exact SeqAt.EqAt.bool_int a b t
   |str b=>obtain⟨t,rfl⟩:=q;exact SeqAt.EqAt.bool_str a b t
   |_=>exact absurd (show false=true from F) A0J
 |int a=>
   obtain⟨t',rfl⟩:=J
   cases x with
   |non=>cases q;exact SeqAt.EqAt.int_none a t'
   |bl b=>cases q;exact SeqAt.EqAt.int_bool a t' b
   |int b=>obtain⟨t,rfl⟩:=q;exact SeqAt.EqAt.int_int a t' b t
   |str b=>obtain⟨t,rfl⟩:=q;exact SeqAt.EqAt.int_str a t' b t
   |_=>exact absurd (show false=true from F) A0J
 |str a=>
   obtain⟨t',rfl⟩:=J
   cases x with
   |non=>cases q;exact SeqAt.EqAt.str_none a t'
   |bl b=>cases q;exact SeqAt.EqAt.str_bool a t' b
   |int b=>obtain⟨t,rfl⟩:=q;exact SeqAt.EqAt.str_int a t' b t
   |str b=>obtain⟨t,rfl⟩:=q;exact SeqAt.EqAt.str_str a t' b t
   |_=>exact absurd (show false=true from F) A0J
 |_=>exact absurd (show false=true from O) A0J
def eqU (x:V)(u:Value):Bool:=match u with
 |.none=>eqV .non x
 |.bool b=>eqV (.bl b) x
 |.int i _=>eqV (.int i) x
 |.str z _=>eqV (.str z) x
 |_=>false
theorem ap7 {x y:V}{u:Value}(r:RelV y u)(f:Sr y=true):eqU x u=eqV y x:=by
 cases y with
 |non=>cases r;rfl
 |bl b=>cases r;rfl
 |int i=>obtain⟨t,rfl⟩:=r;rfl
 |str z=>obtain⟨t,rfl⟩:=r;rfl
 |_=>exact absurd (show false=true from f) A0J
theorem Oy {x:V}:∀ {xs:List V} {us:List Value},Vals xs us->xs.all Sr=true->us.any (eqU x)=xs.any λy=>eqV y x
 |_,_,.nil,_=>rfl
 |y :: xs,u :: us,.cons r t,f=>by rw[List.all_cons,A14] at f;rw[A2G,A2G,ap7 r f.1,Oy t f.2]
theorem Jp {A:Around}{s:Shared}{x:V}{v:Value}(F:RelV x v)(q:Sr x=true):∀ {xs:List V} {us:List Value},Vals xs us->xs.all Sr=true->∀ u∈us,SeqAt.EqAt A s u v (eqU x u)
 |_,_,.nil,_=>λu hu=>by cases hu
 |y :: xs,u :: us,.cons r t,f=>λJ hu=>by
   rw[List.all_cons,A14] at f;rcases A0A.mp hu with rfl|hu
   . rw[ap7 r f.1];exact aI4 r F f.1 q
   exact Jp F q t f.2 J hu
def inV (x:V)(xs:List V):Bool:=xs.any λy=>eqV y x
def rIn (K:W.Frag)(q:Bool):R2:=λx y H Q=>∃ p xs,y = .ref p/\(SqL K H p xs\/SqT K H p xs)/\Sr x=true/\xs.all Sr=true/\Q (.bl (if q then !inV x xs else inV x xs)) H
theorem op_in_seq:OpR X (compareOp .In) (rIn X.K false):=by
 intro pins s σ H x y v u Q I Y Z h;obtain⟨p,xs,rfl,F,U,fs,q⟩:=h
 cases Z;rcases F with F|F
 . obtain⟨J,r,pl,hz⟩:=I.list F;refine SeqAt.in_listAt (eqU x) pl.isList (λw O=>Jp Y U r fs w (by simpa using O)) ⟨.bl _,H,I,rfl,?_⟩;rw[show J.toArray.any (eqU x)=J.any (eqU x) by simp,Oy r fs];exact q
 obtain⟨J,r,pl,hz⟩:=I.tuple F;refine SeqAt.in_tupleAt (eqU x) pl (λw O=>Jp Y U r fs w (by simpa using O)) ⟨.bl _,H,I,rfl,?_⟩;rw[show J.toArray.any (eqU x)=J.any (eqU x) by simp,Oy r fs];exact q
theorem op_notIn_seq:OpR X (compareOp .NotIn) (rIn X.K true):=by
 intro pins s σ H x y v u Q I Y Z h;obtain⟨p,xs,rfl,F,U,fs,q⟩:=h
 cases Z;rcases F with F|F
 . obtain⟨J,r,pl,hz⟩:=I.list F;refine SeqAt.notIn_listAt (eqU x) pl.isList (λw O=>Jp Y U r fs w (by simpa using O)) ⟨.bl _,H,I,rfl,?_⟩;rw[show J.toArray.any (eqU x)=J.any (eqU x) by simp,Oy r fs];exact q
 obtain⟨J,r,pl,hz⟩:=I.tuple F;refine SeqAt.notIn_tupleAt (eqU x) pl (λw O=>Jp Y U r fs w (by simpa using O)) ⟨.bl _,H,I,rfl,?_⟩;rw[show J.toArray.any (eqU x)=J.any (eqU x) by simp,Oy r fs];exact q
theorem op_notIn_str:OpR X (compareOp .NotIn) (λx y H Q=>∃ i j,x = .str i/\y = .str j/\Q (.bl (!(!(Builtin.Str.occurrences j i 0 j.length 1).isEmpty))) H):=by intro pins s σ H x y v u Q I F J h;obtain⟨i,j,rfl,rfl,q⟩:=h;obtain⟨t,rfl⟩:=F;obtain⟨t',rfl⟩:=J;exact notIn_str ⟨.bl _,H,I,rfl,q⟩
theorem CallR.or {f:Value}{r r':List V->Hp->VK->Prop}(h:CallR X f r)(h':CallR X f r'):CallR X f (λxs H Q=>r xs H Q\/r' xs H Q):=by
 intro pins s σ H xs us Q I F q;rcases q with q|q
 . exact h pins s σ H xs us Q I F q
 exact h' pins s σ H xs us Q I F q
theorem T3:CallR X (.type "list") (λxs H Q=>∃ p ys,xs=[.ref p]/\(SqL X.K H p ys\/SqT X.K H p ys)/\∀ l,H l=none->Q (.ref l) (upd H l (.lst ys))):=by
 intro pins s σ H xs us Q I r h;obtain⟨p,ys,rfl,O,q⟩:=h;obtain⟨u,rfl,rx⟩:=Ij r
 cases rx
 have fin:∀(F:List Value),Vals ys F->ys.length<=sizeLine->∀(h':Heap) (J:Nat),(∀ b o',s.heap.get? b=some o'->h'.get? b=some o') ->
   h'.get? s.heap.objs.size=some {cls:=.type "list",dict:=none,data:=.seq F.toArray J,slots:=#[]}->EP X pins σ Q (.ref s.heap.objs.size) {s with heap:=h'}:=λF r' hz h' J kp e=>
  ⟨.ref s.heap.objs.size,_,I.laid (t':=s.toks) kp (A08 _) (show ObjOk X.prog X.w _ h' _ (.lst ys) from⟨hz,F,J,r',e⟩),rfl,q _ (I.hok.fresh (A08 _))⟩
 rcases O with O|O
 . obtain⟨F,r',pl,hz⟩:=I.list O;have Z:=r'.length;obtain⟨o,Y,U,n,hd⟩:=pl.isList;exact call_list_seq p (.inl rfl) Y U hd (λh' J kp e=>fin F r' hz h' J kp e) (by simp only[List.size_toArray]<;>omega)
 obtain⟨F,r',pl,hz⟩:=I.tuple O;have Z:=r'.length;obtain⟨o,Y,U,n,hd⟩:=pl;exact call_list_seq p (.inr rfl) Y U hd (λh' J kp e=>fin F r' hz h' J kp e) (by simp only[List.size_toArray]<;>omega)
theorem Sy:CallR X (.type "tuple") (λxs H Q=>∃ p ys,xs=[.ref p]/\((SqL X.K H p ys/\∀ l,H l=none->Q (.ref l) (upd H l (.tup ys)))\/(SqT X.K H p ys/\Q (.ref p) H))):=by
 intro pins s σ H xs us Q I r h;obtain⟨p,ys,rfl,h⟩:=h;obtain⟨u,rfl,Y⟩:=Ij r
 cases Y;rcases h with ⟨F,q⟩|⟨F,q⟩
 . obtain⟨J,r',pl,hz⟩:=I.list F;have Z:=r'.length;refine call_tuple_list pl.isList (λh' kp=>?_) (by simp only[List.size_toArray]<;>omega)
   have O:Inv X pins σ H {s with heap:=h'}:=I.kept (t':=s.toks) kp
   have U:Inv X pins σ (upd H h'.objs.size (.tup ys)) {s with heap:=h'.push {cls:=.type "tuple",data:=.seq J.toArray}}:=
    O.laid (t':=s.toks) (λb o e=>A02 _ e) (A08 _) (show ObjOk X.prog X.w _ _ _ (.tup ys) from⟨hz,J,r',IsTupN.new _ _⟩)
   exact⟨.ref h'.objs.size,_,U,rfl,q _ (O.hok.fresh (A08 _))⟩
 obtain⟨J,r',pl,hz⟩:=I.tuple F;exact call_tuple_same pl ⟨.ref p,H,I,rfl,q⟩
def tyV (K:W.Frag)(T:String)(x:V)(H:Hp):Prop:=match x with
 |.str _=>T = "str"
 |.int _=>T = "int"
 |.ref p=>(T = "list" /\ ∃ xs,SqL K H p xs)\/(T = "tuple" /\ ∃ o,K.lookup p=some o/\o.cls = .type "tuple" /\ o.dict=none) \/
   (T = "dict" /\ ((∃ kvs,H p=some (.dK kvs))\/∃ kvs,H p=some (.dT kvs)))\/(T = "set" /\ ∃ S n,H p=some (.set S n))
 |_=>False
theorem ao5 {pins:List (Addr×Obj)}{σ:St}{H:Hp}{s:Shared}{T:String}{x:V}{v:Value}(I:Inv X pins σ H s)(r:RelV x v)(ty:tyV X.K T x H) :
  s.TypeIs v T/\∀ a,v = .ref a->∃ ob,s.heap.get? a=some ob/\ob.dict=none:=by
 cases x with
 |str z=>
   obtain⟨t,rfl⟩:=r
   cases (show T = "str" from ty);exact⟨typeIs_str s z t,λ_ e=>nomatch e⟩
 |int i=>
   obtain⟨t,rfl⟩:=r
   cases (show T = "int" from ty);exact⟨typeIs_int s i t,λ_ e=>nomatch e⟩
 |ref p=>
   cases r;rcases ty with ⟨rfl,xs,O⟩|⟨rfl,o,q,J,hd⟩|⟨rfl,q⟩|⟨rfl,S,n,q⟩
   . obtain⟨U,_,pl,_⟩:=I.list O;refine⟨pl.isList.typeIs,λa e=>?_⟩
     cases e;obtain⟨o,n,e,c,hd,_⟩:=pl;exact⟨o,e,hd⟩
   . refine⟨⟨o,I.kIn p o q,J⟩,λa e=>?_⟩
     cases e;exact⟨o,I.kIn _ o q,hd⟩
   . have z:∃ o,s.heap.get? p=some o/\o.ExactDict:=by
      rcases q with ⟨kvs,q⟩|⟨kvs,q⟩
      . obtain⟨_,_,_,_,o,_,_,e,ex,_⟩:=I.hok p _ q;exact⟨o,e,ex⟩
      obtain⟨_,_,_,_,o,_,_,e,ex,_⟩:=I.hok p _ q;exact⟨o,e,ex⟩
     obtain⟨o,e,ex⟩:=z;refine⟨⟨o,e,ex.1⟩,λa F=>?_⟩
     cases F;exact⟨o,e,ex.2.1⟩
   obtain⟨o,_,_,_,e,ex,_⟩:=I.hok p _ q;refine⟨⟨o,e,ex.1⟩,λa F=>?_⟩
   cases F;exact⟨o,e,ex.2.1⟩
 |_=>exact False.elim ty
def aR9 (K:W.Frag)(T:String)(r:V->List V->Hp->VK->Prop)(to:TE):TE:=fun σ H Q=>to σ H λx H1=>tyV K T x H1/\r x [] H1 Q
def tBM (K:W.Frag)(T:String)(r:V->List V->Hp->VK->Prop)(to:TE)(t:TA):TE:=fun σ H Q=>to σ H λx H1=>tyV K T x H1/\t σ H1 λxs H2=>r x xs H2 Q
variable {o e:Expr}{es:List Expr}{to:TE}{t:TA}{name:Str}{apos cpos:Pos}{T id:String}{r:V->List V->Hp->VK->Prop}
theorem aK1 (Z:PlainAttrs T)(slot:Slot T name id)(Y:typeOf (.builtin id)=pure (.type "method_descriptor"))(hm:MtR X id r)(U:PE X o to)
  (J:attributeBase o name X.env (eval o X.env)=eval o X.env:=by ac_nf) (O:(apos.endLine==cpos.line)=true:=by ac_nf):PE X (.Call (.Attribute o name apos) [] [] cpos) (aR9 X.K T r to):=by
 intro pins s σ H Q I h;refine wpAny_Call_method0_late J O (thn (U pins s σ H _ I h) λv s1 ⟨x,H1,q,F,ty,q1⟩=>?_);obtain⟨h1,h2⟩:=ao5 q F ty;exact⟨T,id,Z,slot,Y,h1,h2,A2T rfl (PySem.evalArgs_none (hm pins s1 σ H1 x [] v [] Q q F .nil q1))⟩
theorem aT7 (pa:PlainAttrs T)(slot:Slot T name id)(a1:typeOf (.builtin id)=pure (.type "method_descriptor"))(hm:MtR X id r)(ho:PE X o to)(ha:PA X (e :: es) t)
  (U:attributeBase o name X.env (eval o X.env)=eval o X.env:=by ac_nf)
  (Y:((backTo cpos (starEach (e :: es) X.env)).all (λx=>!x.1)&&(backToKw cpos (keywordEach [] X.env)).all (λx=>x.1.isSome)
   && decide ((e :: es).length+([]:List Keyword).length+(if([]:List Keyword).isEmpty then 0 else 1)<30))=true:=by ac_nf)
  (Z:(apos.endLine==cpos.line)=true:=by ac_nf) (hs:starEach (e :: es) X.env=(false,eval e X.env) :: starEach es X.env:=by ac_nf) (a0:(backTo cpos (starEach es X.env)).any (·.1)=false:=by ac_nf) :
  PE X (.Call (.Attribute o name apos) (e :: es) [] cpos) (tBM X.K T r to t):=by
 intro pins s σ H Q I h;refine wpAny_Call_method_late U Y Z rfl (thn (ho pins s σ H _ I h) λv s1 ⟨x,H1,q,J,ty,q1⟩=>?_);obtain⟨h1,h2⟩:=ao5 q J ty;refine⟨T,id,pa,slot,a1,h1,h2,?_⟩;have F:=ha cpos pins s1 σ H1 _ q q1;rw[hs] at F ⊢;refine A2T (by show(false||(backTo cpos (starEach es X.env)).any (·.1))=false;rw[a0]<;>rfl) (A40 ?_)
 exact thn F λus s2 ⟨vs,H2,O,r2,q2⟩=>hm pins s2 σ H2 x vs v us Q O J r2 q2
/- xs.append(e),list.index on a module's tuple .. are MtR facts of 06m -/
end
def MtM (X:Cx)(id:String)(r:V->List V->Hp->VK->Prop):Prop:=
 ∀(pins:List (Addr×Obj)) (s:Shared) (σ:St) (H:Hp) (x:V) (xs:List V) (v:Value) (us:List Value) (Q:VK),Inv X pins σ H s->RelV x v->Vals xs us->r x xs H Q ->
  wpAny (model X.prog X.w) X.A (call (.builtin id) (v :: us)) (EP X pins σ Q) X.xe s
theorem Vals.one {x:V}{us:List Value}(h:Vals [x] us):∃ u,us=[u]/\RelV x u:=by
 cases h with
 |cons r q=>cases q;exact⟨_,rfl,r⟩
theorem Vals.two {x y:V}{us:List Value}(h:Vals [x,y] us):∃ u v,us=[u,v]/\RelV x u/\RelV y v:=by
 cases h with
 |cons r q=>obtain⟨u,rfl,F⟩:=Vals.one q;exact⟨_,_,rfl,r,F⟩
theorem Vals.eraseIdx:∀ {xs:List V} {us:List Value} (i:Nat),Vals xs us->Vals (xs.eraseIdx i) (us.eraseIdx i)
 |_,_,_,.nil=>.nil
 |_,_,0,.cons _ t=>t
 |_,_,i+1,.cons r t=>.cons r (Vals.eraseIdx i t)
theorem Vals.reverse {xs:List V}{us:List Value}(h:Vals xs us):Vals xs.reverse us.reverse:=by
 induction h with
 |nil=>exact .nil
 |cons r t ih=>rw[List.reverse_cons,List.reverse_cons];exact Vals.append ih (.cons r .nil)
theorem Vals.rep {xs:List V}{us:List Value}(h:Vals xs us):∀ k:Nat,Vals (List.replicate k xs).flatten (List.replicate k us).flatten
 |0=>.nil
 |k+1=>by rw[A1T,A1T,A2N,A2N];exact Vals.append h (Vals.rep h k)
theorem T5 {α:Type}:∀(l:List α) (i:Nat),(l.eraseIdx i).length<=l.length
 | [],_=>A08 _
 |_ :: _,0=>A44 _
 |_ :: r,i+1=>Nat.succ_le_succ (T5 r i)
theorem Oc (q:List Value):∀(k:Nat) (acc:List Value),
  List.foldl (λJ O=>J++O) acc.toArray (List.replicate k q.toArray)=(acc++(List.replicate k q).flatten).toArray
 |0,acc=>by simp
 |k+1,acc=>by
   have e:acc.toArray++q.toArray=(acc++q).toArray:=by simp
   have F:(acc++q)++(List.replicate k q).flatten=acc++(List.replicate (k+1) q).flatten:=by rw[A1T,A2N,A1Z]
   rw[<- F,<- Oc q k (acc++q),<- e,A1T,A4O]
section
variable {X:Cx}{pins:List (Addr×Obj)}{σ:St}{H:Hp}{s:Shared}{l b:Addr}{xs ys zs:List V}
theorem Inv.lset {F its':List Value}{n:Nat}{f:Array Value->Array Value}{t':Nat}(I:Inv X pins σ H s)(J:H l=some (.lst xs))
  (e:s.heap.get? l=some {cls:=.type "list",data:=.seq F.toArray n}) (hf:f F.toArray=its'.toArray) (O:Vals ys its') (hz:ys.length<=sizeLine) :
  Inv X pins σ (upd H l (.lst ys)) {s with heap:=s.heap.update l (Obj.mapSeq f),toks:=t'}:=by
 have q:=PySem.IsL.update e f;rw[hf] at q;refine I.write (x:=l) (e:=l) (by rw[J];exact trivial) (.inl rfl) (λU u hb hu=>(A3N s.heap (Obj.mapSeq f) (Ne.symm hb)).trans hu) ⟨_,q⟩ ?_;exact⟨hz,its',_,O,q⟩
theorem Inv.lnew {F:List Value}{t':Nat}(I:Inv X pins σ H s)(J:Vals ys F)(hz:ys.length<=sizeLine) :
  Inv X pins σ (upd H s.heap.objs.size (.lst ys)) {s with heap:=s.heap.push {cls:=.type "list",data:=.seq F.toArray},toks:=t'}:=
 I.laid (λ_ _ q=>A02 _ q) (A08 _) ⟨hz,F,0,J,A0I _ rfl⟩
theorem Inv.fresh (I:Inv X pins σ H s):H s.heap.objs.size=none:=I.hok.fresh (A08 _)
theorem Inv.lstM (I:Inv X pins σ H s)(F:H l=some (.lst xs)):xs.length<=sizeLine/\∃(q:List Value) (n:Nat),Vals xs q/\xs.length=q.length/\s.heap.get? l=some {cls:=.type "list",data:=.seq q.toArray n}:=by obtain⟨z,q,n,r,e⟩:=I.hok l _ F;exact⟨z,q,n,r,r.length,e⟩
theorem X7 {n:Nat}(h:n<=sizeLine):Builtin.List.listTooLong n=false:=by unfold Builtin.List.listTooLong;exact A0N ∅
end
section
variable {X:Cx}
def ab9:V->List V->Hp->VK->Prop:=λx vs H Q=>∃ l xs y,x = .ref l/\vs=[y]/\H l=some (.lst xs)/\xs.length<sizeLine/\Q .non (upd H l (.lst (xs++[y])))
theorem J4:MtM X "list.append" ab9:=by
 intro pins s σ H x vs v us Q I Z Y h;obtain⟨l,xs,y,rfl,rfl,J,hz,q⟩:=h
 cases Z;obtain⟨u,rfl,U⟩:=Y.one;obtain⟨z,O,n,r,hl,e⟩:=I.lstM J;refine A3R F.slot_list_append ⟨_,e,rfl⟩ F.entry_list_append (F.args_list_append_2 _ _) (PySem.list_append l O.toArray n u (by rw[A0R];omega)) ⟨e,?_⟩;refine⟨.non,_,I.lset (its':=O++[u]) J e (by simp) (r.append (.cons U .nil)) ?_,rfl,q⟩;rw[A07,A16];omega
def ad1:V->List V->Hp->VK->Prop:=λx vs H Q=>∃ l b xs zs,x = .ref l/\vs=[.ref b]/\H l=some (.lst xs)/\H b=some (.lst zs)/\xs.length+zs.length<=sizeLine/\Q .non (upd H l (.lst (xs++zs)))
theorem Kw:MtM X "list.extend" ad1:=by
 intro pins s σ H x vs v us Q I rx rv h;obtain⟨l,b,xs,zs,rfl,rfl,U,Z,hz,q⟩:=h
 cases rx;obtain⟨u,rfl,ru⟩:=rv.one
 cases ru;obtain⟨z,J,n,r,hl,e⟩:=I.lstM U;obtain⟨z2,O,n2,r2,a1,Y⟩:=I.lstM Z;have hsz:J.toArray.size+O.toArray.size<=sizeLine:=by rw[A0R,A0R];omega
 have a0:¬ (!J.toArray.isEmpty&&Builtin.List.listTooLong (J.toArray.size+O.toArray.size))=true:=by rw[X7 hsz,Bool.and_false];exact A0J
 refine A3R F.slot_list_extend ⟨_,e,rfl⟩ F.entry_list_extend (F.args_list_extend_2 _ _)
  (AutoSeq1.list_extend_list_list_0 l J.toArray n b O.toArray n2 a0 (by rw[A0R];omega) ∅) ⟨e,Y,?_⟩
 refine⟨.non,_,I.lset (its':=J++O) U e (by simp) (r.append r2) ?_,rfl,q⟩;rw[A07];omega
def aq0:V->List V->Hp->VK->Prop:=λx vs H Q=>∃ l xs i k y,x = .ref l/\vs=[.int i]/\H l=some (.lst xs) /\ -(2 ^ 63)<=i/\i<2 ^ 63/\seqIndex? i xs.length=some k/\xs[k]? = some y/\Q y (upd H l (.lst (xs.eraseIdx k)))
theorem Yi:MtM X "list.pop" aq0:=by
 intro pins s σ H x vs v us Q I rx rv h;obtain⟨l,xs,i,k,y,rfl,rfl,O,h1,h2,U,hy,q⟩:=h
 cases rx;obtain⟨u,rfl,ru⟩:=rv.one;obtain⟨t,rfl⟩:=ru;obtain⟨z,J,n,r,Y,e⟩:=I.lstM O;obtain⟨w,Z,a0⟩:=r.get hy
 refine A3R F.slot_list_pop ⟨_,e,rfl⟩ F.entry_list_pop (F.args_list_pop_2 _ _)
  (MeetsSeq.list_pop_at l J.toArray n i t k w (fitsIndex_both h1 h2) (by rw[A0R,<- Y];exact U) (by rw[<- A4P];exact Z) (by rw[A0R];omega)) ⟨e,?_⟩
 refine⟨y,_,I.lset (its':=J.eraseIdx k) O e ?_ (r.eraseIdx k) ?_,a0,q⟩
 . show J.toArray.eraseIdxIfInBounds k=(J.eraseIdx k).toArray;rw[List.eraseIdxIfInBounds_toArray]
 have:=T5 xs k;omega
def aU5:R2:=λx y H Q=>∃ l b xs zs,x = .ref l/\y = .ref b/\H l=some (.lst xs)/\H b=some (.lst zs)/\xs.length+zs.length<=sizeLine/\∀ p,H p=none->Q (.ref p) (upd H p (.lst (xs++zs)))
theorem op_cat:OpR X (binaryOp .Add) aU5:=by
 intro pins s σ H x y v u Q I rx ry h;obtain⟨l,b,xs,zs,rfl,rfl,Z,Y,hz,q⟩:=h
 cases rx
 cases ry;obtain⟨z,F,n,r,hl,e⟩:=I.lstM Z;obtain⟨z2,J,n2,r2,a0,O⟩:=I.lstM Y;refine PySem.P.add_list e O ?_ (by rw[A0R,A0R];omega);have U:F.toArray++J.toArray=(F++J).toArray:=by simp
 rw[U];exact⟨.ref _,_,I.lnew (t':=s.toks) (r.append r2) (by rw[A07];omega),rfl,q _ I.fresh⟩
def aU9:R2:=λx y H Q=>∃ l k xs,x = .ref l/\y = .int k/\H l=some (.lst xs) /\ -(2 ^ 63)<=k/\k<2 ^ 63/\xs.length*k.toNat<=sizeLine /\
 ∀ p,H p=none->Q (.ref p) (upd H p (.lst (List.replicate k.toNat xs).flatten))
theorem Wo {α:Type}(xs:List α)(k:Nat):(List.replicate k xs).flatten.length=k*xs.length:=by
 induction k with
 |zero=>simp
 |succ k ih=>rw[A1T,A2N,A07,ih,Nat.succ_mul,Nat.add_comm]
theorem aE5:OpR X (binaryOp .Mult) aU9:=by
 intro pins s σ H x y v u Q I rx ry h;obtain⟨l,k,xs,rfl,rfl,hH,h1,h2,hz,q⟩:=h
 cases rx;obtain⟨t,rfl⟩:=ry;obtain⟨z,J,n,r,hl,e⟩:=I.lstM hH;have a2:J.toArray.size*k.toNat<=sizeLine:=by rw[A0R,<- hl];exact hz
 have a0:¬ J.toArray.size*k.toNat>(2 ^ 63-1) / 8:=by
  have:(sizeLine:Nat)<=(2 ^ 63-1) / 8:=by decide
  omega
 have a1:¬ (!Builtin.List.listFitsIndex k)=true:=by rw[fitsIndex_both h1 h2];exact A0J
 have a3:¬ Builtin.List.listTooLong (J.toArray.size*k.toNat)=true:=by rw[X7 a2];exact A0J
 have a4:List.foldl (λO Y=>O++Y) #[] (List.replicate (if J.toArray.isEmpty=true then 0 else k.toNat) J.toArray)=(List.replicate k.toNat J).flatten.toArray:=by
  have Z:∀ m:Nat,List.foldl (λO Y=>O++Y) #[] (List.replicate m J.toArray)=(List.replicate m J).flatten.toArray:=λm=>by have:=Oc J m [];rw[A3H] at this;exact this
  rw[Z]
  cases J with
  |nil=>simp
  |cons a r'=>rw[if_neg (by simp)]
 refine wpAny_binaryOp_repeat_ref (T:="list") (U:="int") nofun ⟨_,e,rfl⟩ (λs'=>typeIs_int s' k t) noFill_list_mul F.fills_int_mul F.slot_int_rmul repeat_list F.slot_int_index.lookup
  (A3R F.slot_int_rmul (typeIs_int s k t) F.entry_int_rmul (F.args_int_rmul_2 _ _) (int___rmul___int_list k t l J.toArray n)
   ⟨e,rfl,⟨_,e,rfl⟩,A3R F.slot_list_mul ⟨_,e,rfl⟩ F.entry_list_mul (F.args_list_mul_2 _ _) (AutoListH.list___mul___list_int_3 l J.toArray n k t a1 a0 a3) ⟨e,?_⟩⟩)
 rw[a4];exact⟨.ref _,_,I.lnew (t':=s.toks) (r.rep k.toNat) (by rw[Wo,A3W];exact hz),rfl,q _ I.fresh⟩
end
section
variable {prog:Program}{w:World}{A:Around}{E:Value->Shared->Prop}{s:Shared}
set_option maxRecDepth 100000 in
end
section
variable {X:Cx}
end
section
variable {κ:Type}[DecidableEq κ]
def Cj (kvs:List (κ×V))(k:κ):Option V:=(kvs.find? λkv=>decide (kv.1=k)).map (·.2)
def G3 (kvs:List (κ×V))(k:κ)(v:V):List (κ×V):=
 if(kvs.any λkv=>decide (kv.1=k))=true then kvs.map (λkv=>if kv.1=k then(kv.1,v) else kv) else kvs++[(k,v)]
theorem am7 {k:κ}:Cj ([]:List (κ×V)) k=none:=rfl
theorem Be {p:κ×V} {r:List (κ×V)} {k:κ} (e:p.1=k):Cj (p :: r) k=some p.2:=by simp[Cj,List.find?_cons,e]
theorem Ba {p:κ×V}{r:List (κ×V)}{k:κ}(e:¬ p.1=k):Cj (p :: r) k=Cj r k:=by simp[Cj,List.find?_cons,e]
theorem Iq (k:κ):∀ kvs:List (κ×V),(kvs.any λkv=>decide (kv.1=k))=(Cj kvs k).isSome
 | []=>rfl
 |p :: r=>by
   rw[A2G]
   by_cases e:p.1=k
   . simp only[Be e,decide_eq_true e,Bool.true_or,Option.isSome_some]
   rw[Ba e,A0N e,Bool.false_or];exact Iq k r
theorem Yg (k j:κ)(y:V):∀ kvs:List (κ×V),Cj (kvs.map λkv=>if kv.1=k then(kv.1,y) else kv) j=(Cj kvs j).map λx=>if j=k then y else x
 | []=>rfl
 |p :: r=>by
   have q:=Yg k j y r;rw[A0H]
   by_cases h:p.1=k
   . rw[A0Z h]
     by_cases e:p.1=j
     . rw[Be (p:=(p.1,y)) e,Be e,A4Q,A0Z (e.symm.trans h)]
     rw[Ba (p:=(p.1,y)) e,Ba e,q]
   rw[A0Q h]
   by_cases e:p.1=j
   . rw[Be (p:=p) e,Be e,A4Q,A0Q (λz=>h (e.trans z))]
   rw[Ba (p:=p) e,Ba e,q]
theorem Ta (k j:κ)(y:V):∀ kvs:List (κ×V),Cj kvs k=none->Cj (kvs++[(k,y)]) j=if j=k then some y else Cj kvs j
 | [],_=>by
   by_cases e:k=j
   . rw[A0Z e.symm];exact Be (p:=(k,y)) e
   rw[A0Q (λz=>e z.symm)];exact Ba (p:=(k,y)) e
 |p :: r,hn=>by
   rw[List.cons_append];have q:¬ p.1=k:=λz=>by rw[Be z] at hn;cases hn
   rw[Ba q] at hn;have F:=Ta k j y r hn
   by_cases e:p.1=j
   . rw[Be e,Be e,A0Q (λz=>q (e.trans z))]
   rw[Ba e,Ba e,F]
theorem al8 (kvs:List (κ×V))(k j:κ)(y:V):Cj (G3 kvs k y) j=if j=k then some y else Cj kvs j:=by
 unfold G3
 by_cases a:(kvs.any λkv=>decide (kv.1=k))=true
 . rw[A0Z a,Yg];rw[Iq] at a
   by_cases e:j=k
   . obtain⟨x,F⟩:=Option.isSome_iff_exists.mp a;rw[A0Z e,e,F,A4Q,A0Z rfl]
   rw[A0Q e]
   cases Cj kvs j with
   |none=>rfl
   |some x=>rw[A4Q,A0Q e]
 rw[A0Q a];refine Ta k j y kvs ?_;rw[Iq] at a
 cases q:Cj kvs k with
 |none=>rfl
 |some x=>rw[q] at a;exact(a rfl).elim
theorem Kh (kvs:List (κ×V))(k:κ)(v:V):(G3 kvs k v).length<=kvs.length+1:=by
 unfold G3
 split
 . rw[A01];omega
 rw[A07,A0G,List.length_nil];omega
theorem Jl {kvs:List (κ×V)}{k:κ}(v:V)(h:Cj kvs k=none):G3 kvs k v=kvs++[(k,v)]:=by unfold G3;rw [Iq,h];exact A0Q nofun
theorem RelO.isSome_eq {o:Option V}{u:Option Value}(r:RelO o u):o.isSome=u.isSome:=by
 cases o with
 |none=>cases u with
   |none=>rfl
   |some _=>exact(show False from r).elim
 |some _=>cases u with
   |none=>exact(show False from r).elim
   |some _=>rfl
theorem RelO.getD {o:Option V}{u:Option Value}{d:V}{d':Value}(r:RelO o u)(rd:RelV d d'):RelV (o.getD d) (u.getD d'):=by
 cases o with
 |none=>cases u with
   |none=>exact rd
   |some _=>exact(show False from r).elim
 |some _=>cases u with
   |none=>exact(show False from r).elim
   |some _=>exact r
theorem KV.val {kvs:List (κ×V)} {vs:List (κ×Value)} (r:KV kvs vs) (k:κ):RelO (Cj kvs k) (valueAt vs k):=by
 unfold KV at r
 induction r with
 |nil=>exact A2B
 |@cons p q ps qs h t ih=>
   obtain⟨h1,h2⟩:=h
   by_cases e:p.1=k
   . have F:q.1=k:=h1.symm.trans e;have b:valueAt (q :: qs) k=some q.2:=by simp[valueAt,List.find?_cons,F]
     rw[Be e,b];exact h2
   have F:¬ q.1=k:=λz=>e (h1.trans z);have b:valueAt (q :: qs) k=valueAt qs k:=by simp[valueAt,List.find?_cons,F]
   rw[Ba e,b];exact ih
theorem KV.any {kvs:List (κ×V)}{vs:List (κ×Value)}(r:KV kvs vs)(k:κ):(kvs.any λkv=>decide (kv.1=k))=vs.any λkv=>decide (kv.1=k):=by
 unfold KV at r
 induction r with
 |nil=>rfl
 |cons h t ih=>rw[A2G,A2G,ih,h.1]
theorem KV.repl {kvs:List (κ×V)}{vs:List (κ×Value)}(r:KV kvs vs)(k:κ){y:V}{u:Value}(F:RelV y u) :
  KV (kvs.map λkv=>if kv.1=k then(kv.1,y) else kv) (vs.map λkv=>if kv.1=k then(kv.1,u) else kv):=by
 unfold KV at r ⊢
 induction r with
 |nil=>exact .nil
 |@cons p q ps qs h t ih=>
   rw[A0H,A0H];refine .cons ?_ ih;obtain⟨h1,h2⟩:=h
   by_cases e:p.1=k
   . rw[A0Z e,A0Z (h1.symm.trans e)];exact⟨h1,F⟩
   rw[A0Q e,A0Q (λz=>e (h1.trans z))];exact⟨h1,h2⟩
theorem KV.put {kvs:List (κ×V)}{vs:List (κ×Value)}(r:KV kvs vs)(k:κ){y:V}{u:Value}(q:RelV y u):KV (G3 kvs k y) (stored vs k u):=by
 unfold G3 stored;rw[r.any k]
 by_cases e:(vs.any λkv=>decide (kv.1=k))=true
 . rw[A0Z e,A0Z e];exact r.repl k q
 rw[A0Q e,A0Q e];exact Paired.snoc r ⟨rfl,q⟩
theorem KV.keys {kvs:List (κ×V)}{vs:List (κ×Value)}(r:KV kvs vs):kvs.map (·.1)=vs.map (·.1):=by
 unfold KV at r
 induction r with
 |nil=>rfl
 |cons h t ih=>rw[A0H,A0H,ih,h.1]
theorem KV.length {kvs:List (κ×V)}{vs:List (κ×Value)}(r:KV kvs vs):kvs.length=vs.length:=A2Z r
end
theorem Pw {P:Program}{w:World}{k:Key}{u:Value}(r:RelV (kV k) u):(Ax P w).is k u=true:=by
 cases k with
 |inl i=>obtain⟨t,e⟩:=(show ∃ t,u=Value.int i t from r);subst e;exact Wk P w i t
 |inr x=>obtain⟨t,e⟩:=(show ∃ t,u=Value.str x t from r);subst e;exact Wg P w x t
theorem Vw {P:Program}{w:World}:∀ {ks:List Key} {us:List Value},Vals (ks.map kV) us->ItemsAre (Ax P w) ks us
 | [],_,r=>by rw[List.map_nil] at r;cases r;exact .nil
 |k :: ks,_,r=>by
   rw[A0H] at r
   cases r with
   |cons h t=>exact .cons (Pw h) (Vw t)
abbrev KT (H:Hp):List (List Key×V)->List (List Key×Addr×Value)->Prop:=Paired λp q=>p.1=q.1/\H q.2.1=some (.tup (p.1.map kV))/\RelV p.2 q.2.2
theorem KT.val {H:Hp}{kvs:List (List Key×V)}{xs:List (List Key×Addr×Value)}(r:KT H kvs xs)(k:List Key):RelO (Cj kvs k) ((atKey xs k).map (·.2)):=by
 induction r with
 |nil=>exact A2B
 |@cons p q ps qs h t ih=>
   obtain⟨h1,_,h2⟩:=h
   by_cases e:p.1=k
   . have F:q.1=k:=h1.symm.trans e;have b:atKey (q :: qs) k=some q.2:=by simp[atKey,List.find?_cons,F]
     rw[Be e,b];exact h2
   have F:¬ q.1=k:=λz=>e (h1.trans z);have b:atKey (q :: qs) k=atKey qs k:=by simp[atKey,List.find?_cons,F]
   rw[Ba e,b];exact ih
theorem KT.repl {H:Hp} {kvs:List (List Key×V)} {xs:List (List Key×Addr×Value)} (r:KT H kvs xs) (k:List Key) {y:V} {u:Value} (J:RelV y u) :
  KT H (kvs.map λkv=>if kv.1=k then(kv.1,y) else kv) (xs.map (putAt k u)):=by
 induction r with
 |nil=>exact .nil
 |@cons p q ps qs h t ih=>
   rw[A0H,A0H];refine .cons ?_ ih;obtain⟨h1,h2,F⟩:=h;unfold putAt
   by_cases e:p.1=k
   . rw[A0Z e,A0Z (h1.symm.trans e)];exact⟨h1,h2,J⟩
   rw[A0Q e,A0Q (λz=>e (h1.trans z))];exact⟨h1,h2,F⟩
theorem KT.put {H:Hp}{kvs:List (List Key×V)}{xs:List (List Key×Addr×Value)}(r:KT H kvs xs)(k:List Key){b:Addr}{y:V}{u:Value}(hb:H b=some (.tup (k.map kV)))(F:RelV y u) :
  KT H (G3 kvs k y) (storedH xs k b u):=by
 have e:(kvs.any λkv=>decide (kv.1=k))=(atKey xs k).isSome:=by rw[Iq,(r.val k).isSome_eq,Option.isSome_map]
 unfold G3 storedH;rw[e]
 by_cases q:(atKey xs k).isSome=true
 . rw[A0Z q,A0Z q];exact r.repl k F
 rw[A0Q q,A0Q q];exact Paired.snoc r ⟨rfl,hb,F⟩
theorem KT.keeps {H H':Hp}{kvs:List (List Key×V)}{xs:List (List Key×Addr×Value)}(r:KT H kvs xs)(q:∀ b ys,H b=some (.tup ys)->H' b=some (.tup ys)):KT H' kvs xs:=
 Paired.mapP r λ_ _ z=>⟨z.1,q _ _ z.2.1,z.2.2⟩
section
variable {P:Program}{w:World}{H:Hp}{h:Heap}{a:Addr}
theorem aL9 {u:HO}(ok:HOk P w H h)(e:Rd H a u):ObjOk P w H h a u:=e.ok ok
theorem Rc {kvs:List (Key×V)}(ok:HOk P w H h)(e:Rd H a (.dK kvs)):kvs.length<=sizeLine/\(a==sysModules)=false/\∃ vs,KV kvs vs/\h.DictOf (Ax P w) a vs:=
 show ObjOk P w H h a (.dK kvs) from aL9 ok e
theorem Vl {kvs:List (Key×V)}(ok:HOk P w H h)(e:H a=some (.dK kvs)):kvs.length<=sizeLine/\(a==sysModules)=false/\∃ vs,KV kvs vs/\h.DictOf (Ax P w) a vs:=Rc ok (.inl e)
theorem Nl {ks:List Key}(ok:HOk P w H h)(e:H a=some (.tup (ks.map kV))):(tupleKind (Ax P w)).is h ks a:=by obtain⟨_,F,r,o,h1,h2,⟨n,q⟩,_⟩:=(show ObjOk P w H h a (.tup (ks.map kV)) from ok a _ e);exact⟨o,F.toArray,n,h1,h2,q,by simpa using Vw r⟩
theorem Uq {kvs:List (List Key×V)}(ok:HOk P w H h)(e:Rd H a (.dT kvs)):kvs.length<=sizeLine/\(a==sysModules)=false /\
  ∃ xs,KT H kvs xs/\h.DictOfH (tupleKind (Ax P w)) a xs:=by
 obtain⟨z,y,xs,r,o,es,ep,h1,h2,J,O,U⟩:=(show ObjOk P w H h a (.dT kvs) from aL9 ok e);refine⟨z,y,xs,r,o,es,ep,h1,h2,J,O,λx F=>?_,U⟩
 have all:∀ {l:List (List Key×V)} {m:List (List Key×Addr×Value)},KT H l m->∀ x∈m,(tupleKind (Ax P w)).is h x.1 x.2.1:=by
  intro l m q
  induction q with
  |nil=>intro x F;exact nomatch F
  |@cons p q ps qs hq t ih=>
    intro x F;rcases A0A.mp F with e|F
    . subst e;exact Nl ok (by rw[<- hq.1];exact hq.2.1)
    exact ih x F
 exact all r x F
theorem aU2 {kvs:List (List Key×V)}(ok:HOk P w H h)(e:H a=some (.dT kvs)):kvs.length<=sizeLine/\(a==sysModules)=false /\
  ∃ xs,KT H kvs xs/\h.DictOfH (tupleKind (Ax P w)) a xs:=Uq ok (.inl e)
end
def DGet (H:Hp)(a:Addr)(y:V)(r:Option V):Prop:=
 (∃ kvs k,Rd H a (.dK kvs)/\y=kV k/\r=Cj kvs k)\/∃ kvs k b,Rd H a (.dT kvs)/\y = .ref b/\H b=some (.tup (k.map kV))/\r=Cj kvs k
def DPut (H:Hp)(a:Addr)(y v:V)(H':Hp):Prop:=
 (∃ kvs k,H a=some (.dK kvs)/\y=kV k/\kvs.length<sizeLine/\H'=upd H a (.dK (G3 kvs k v))) \/
 ∃ kvs k b,H a=some (.dT kvs)/\y = .ref b/\H b=some (.tup (k.map kV))/\kvs.length<sizeLine/\H'=upd H a (.dT (G3 kvs k v))
theorem DGet.k {H:Hp}{a:Addr}{kvs:List (Key×V)}{k:Key}(e:H a=some (.dK kvs)):DGet H a (kV k) (Cj kvs k):=.inl ⟨kvs,k,.inl e,rfl,rfl⟩
theorem DPut.k {H:Hp}{a:Addr}{kvs:List (Key×V)}{k:Key}{v:V}(e:H a=some (.dK kvs))(q:kvs.length<sizeLine):DPut H a (kV k) v (upd H a (.dK (G3 kvs k v))):=.inl ⟨kvs,k,e,rfl,q,rfl⟩
section
variable {X:Cx}{pins:List (Addr×Obj)}{σ:St}{H:Hp}{s:Shared}{a:Addr}{y v:V}{u r:Value}{o:Option V}{A:Around}{E:Value->Shared->Prop}
theorem Inv.big (I:Inv X pins σ H s):sysModules<s.heap.objs.size:=by have h:mainGlobals<s.heap.objs.size:=(I.mod.glob.keeps I.bk).lt;exact A48 nofun h
theorem Zy {Q:Value->Shared->Prop}(hu:A.units+1<cLine)(I:Inv X pins σ H s)(g:DGet H a y (some v))(Z:RelV y u)(h:∀ q s',Inv X pins σ H s'->RelV v q->Q q s') :
  wpAny (model X.prog X.w) A (getItem (.ref a) u) Q E s:=by
 rcases g with ⟨kvs,k,e,J,l⟩|⟨kvs,k,b,e,J,eb,l⟩
 . subst J;obtain⟨z,hd,vs,U,F⟩:=Rc I.hok e;obtain⟨q,O,Y⟩:=RelO.some_of (v:=v) (o:=valueAt vs k) (by rw[l];exact U.val k);exact wpAny_getItem_of (Pw Z) F.mapOf O (h q _ (I.tok _) Y)
 subst J
 cases (show u=Value.ref b from Z);obtain⟨z,hd,xs,U,F⟩:=Uq I.hok e;obtain⟨q,O,Y⟩:=RelO.some_of (v:=v) (o:=(atKey xs k).map (·.2)) (by rw[l];exact U.val k);obtain⟨p,hp,a0⟩:=A29.mp O;refine wpAny_getItem_heap (A2V hu) (Nl I.hok eb) F hp ?_;rw[a0];exact h q _ (I.tok _) Y
theorem d_in {Q:Value->Shared->Prop}(hu:A.units+1<cLine)(I:Inv X pins σ H s)(g:DGet H a y o)(U:RelV y u)(h:∀ s',Inv X pins σ H s'->Q (.bool o.isSome) s') :
  wpAny (model X.prog X.w) A (compareOp .In u (.ref a)) Q E s:=by
 rcases g with ⟨kvs,k,e,J,l⟩|⟨kvs,k,b,e,J,Y,l⟩
 . subst J;obtain⟨z,hd,vs,O,F⟩:=Rc I.hok e;refine wpAny_in_of (Pw U) hd F.mapOf ?_;rw[<- (O.val k).isSome_eq,<- l];exact h _ (I.tok _)
 subst J
 cases (show u=Value.ref b from U);obtain⟨z,hd,xs,O,F⟩:=Uq I.hok e;refine wpAny_in_heap (A2V hu) (Nl I.hok Y) hd F ?_;have q:=(O.val k).isSome_eq;rw[Option.isSome_map] at q;rw[<- q,<- l];exact h _ (I.tok _)
theorem az3 {Q:Value->Shared->Prop}(hu:A.units+1<cLine)(I:Inv X pins σ H s)(g:DGet H a y o)(U:RelV y u)(h:∀ s',Inv X pins σ H s'->Q (.bool (!o.isSome)) s') :
  wpAny (model X.prog X.w) A (compareOp .NotIn u (.ref a)) Q E s:=by
 rcases g with ⟨kvs,k,e,J,l⟩|⟨kvs,k,b,e,J,Y,l⟩
 . subst J;obtain⟨z,hd,vs,O,F⟩:=Rc I.hok e;refine wpAny_notIn_of (Pw U) hd F.mapOf ?_;rw[<- (O.val k).isSome_eq,<- l];exact h _ (I.tok _)
 subst J
 cases (show u=Value.ref b from U);obtain⟨z,hd,xs,O,F⟩:=Uq I.hok e;refine wpAny_notIn_heap (A2V hu) (Nl I.hok Y) hd F ?_;have q:=(O.val k).isSome_eq;rw[Option.isSome_map] at q;rw[<- q,<- l];exact h _ (I.tok _)
theorem Sj {h':Heap}{t':Nat}{ob:HO}(I:Inv X pins σ H s)(J:Mut (H a))(F:Heap.SameBut a s.heap h')(he:∃ q,h'.get? a=some q)(new:ObjOk X.prog X.w (upd H a ob) h' a ob) :
  Inv X pins σ (upd H a ob) {s with heap:=h',toks:=t'}:=
 I.write (x:=a) (e:=a) J (.inl rfl) (λb q hb z=>(F.2 b hb).trans z) he new
theorem Ut {P:Program}{w:World}{H':Hp}{h':Heap}{kvs:List (Key×V)}{vs:List (Key×Value)}(z:kvs.length<=sizeLine)(hd:(a==sysModules)=false)(F:KV kvs vs)(q:h'.DictOf (Ax P w) a vs) :
  ObjOk P w H' h' a (.dK kvs):=⟨z,hd,vs,F,q⟩
theorem ag8 {H':Hp}{Q:Unit->Shared->Prop}(hu:A.units+1<cLine)(I:Inv X pins σ H s)(g:DPut H a y v H')(ry:RelV y u)(rv:RelV v r)(h:∀ s',Inv X pins σ H' s'->Q () s') :
  wpAny (model X.prog X.w) A (setItem (.ref a) u r) Q E s:=by
 rcases g with ⟨kvs,k,e,Z,l,Y⟩|⟨kvs,k,b,e,Z,eb,l,Y⟩
 . subst Z Y;obtain⟨z,hd,vs,F,U⟩:=Vl I.hok e;have hz:vs.length<=sizeLine:=by rw[<- F.length];exact z
   have hl:(G3 kvs k v).length<=sizeLine:=by have:=Kh kvs k v;omega
   refine wpAny_setItem_pairs (hsz:=hz) (Pw ry) U λh' J hs=>h _ ?_;have he:∃ q,h'.get? a=some q:=let ⟨q,_,_,O,_⟩:=J;⟨q,O⟩;exact Sj I (by rw[e];exact A2B) hs he (Ut hl hd (F.put k rv) J)
 subst Z Y
 cases (show u=Value.ref b from ry);obtain⟨z,hd,xs,F,U⟩:=aU2 I.hok e;have hz:xs.length<=sizeLine:=by rw[<- A2Z F];exact z
 have hl:(G3 kvs k v).length<=sizeLine:=by have:=Kh kvs k v;omega
 refine wpAny_setItem_heap (hsz:=hz) (A2V hu) (Nl I.hok eb) U λh' J hs=>h _ ?_;obtain⟨q,es,ep,O,h2,h3,h4,_,h5⟩:=J;refine Sj I (by rw[e];exact A2B) hs ⟨q,O⟩ ⟨hl,hd,_,(F.put k eb rv).keeps λc ys ec=>?_,q,es,ep,O,h2,h3,h4,h5⟩;rw[At (ne_of ec e (λz=>nomatch z))];exact ec
end
section
variable {X:Cx}{pins:List (Addr×Obj)}{σ:St}{H:Hp}{s:Shared}{a:Addr}{kvs:List (Key×V)}{k:Key}{u:Value}{A:Around}{E:Value->Shared->Prop}
theorem aT9 {Q:Value->Shared->Prop}(I:Inv X pins σ H s)(e:Rd H a (.dK kvs))(h:∀ t s',Inv X pins σ H s'->Q (.int kvs.length t) s'):wpAny (model X.prog X.w) A (call (.builtin "len") [.ref a]) Q E s:=by obtain⟨z,hd,vs,q,F⟩:=Rc I.hok e;refine call_len_dict hd F (by rw[<- q.length];rw[A1I] at z;omega) ?_;rw[<- q.length];exact h _ _ (I.tok _)
end
def NoSl (i:Expr):Prop:=∀ F q,subscripted i false F q=operate [F,q] (getItem F q)
theorem aA8 {prog:Program}{w:World}{A:Around}{E:Value->Shared->Prop}{s:Shared}{env:Env}{value q:Expr}{pos:Pos}{T id:String}{Q:Value->Shared->Prop}
  (Z:typeLookup (.type T) "__getitem__" = pure (some (.builtin id))) (hs:NoSl q)
  (h:wpAny (model prog w) A (eval value env) (λo U=>wpAny (model prog w) A (eval q env) (λi F=>F.TypeIs o T/\wpAny (model prog w) A (getItem o i) Q E F) E U) E s) :
  wpAny (model prog w) A (eval (.Subscript value q pos) env) Q E s:=by
 refine Subscript_ (A26 h (λo U h₁=>A26 h₁ (λi F J=>?_) λ_ _ x=>x) λ_ _ x=>x);obtain⟨O,J⟩:=J;unfold subscriptTail;refine A05 ?_;rw[getitemInPython_of_ne O.not_modules];refine A05 (wpAny_specialOf O Z ?_)
 have fin:wpAny (model prog w) A (subscripted q false o i) (λr Y=>wpAny (model prog w) A (letTemporaryGo value o r >>= λ_=>pure r) Q E Y) E F:=by rw[hs o i];exact wpAny_operating (A26 J (λr Y h₃=>A05 (wpAny_letTemporaryGo (A0K h₃))) λ_ _ x=>x)
 first
  |exact A0K (A05 fin)
  |exact A05 (A0K (A05 fin))
  |exact A05 fin
theorem Wu {X:Cx}{pins:List (Addr×Obj)}{σ:St}{H:Hp}{s:Shared}{a:Addr}{y:V}{o:Option V}(I:Inv X pins σ H s)(g:DGet H a y o):s.TypeIs (.ref a) "dict":=by
 rcases g with ⟨kvs,k,e,_,_⟩|⟨kvs,k,b,e,_,_,_⟩
 . obtain⟨_,_,vs,_,q⟩:=Rc I.hok e;exact q.typeIs
 obtain⟨_,_,xs,_,q⟩:=Uq I.hok e;exact q.typeIs
def aJ8 (td ty tv:TE):TS:=λD σ H=>tv σ H λv H1=>td σ H1 λx H2=>ty σ H2 λy F=>∃ a q,x = .ref a/\DPut F a y v q/\D.nx σ q
section
variable {X:Cx}{o i e value:Expr}{pos pos' tpos:Pos}{td ty tv:TE}
theorem Ff (hu:X.A.units+1<cLine)(Y:PE X o td)(hi:PE X i ty)(hv:PE X value tv)(Z:swapsWith value (some (.Subscript o i pos')) pos.line X.env=pure false) :
  PS X (.Assign [.Subscript o i pos'] value pos) (aJ8 td ty tv):=by
 intro pins s σ H D I h;refine wpAny_Assign_Subscript (thn (hv pins s σ H _ I h) λr s1 ⟨v,H1,F,rv,q1⟩=>thn (Y pins s1 σ H1 _ F q1) λu s2 ⟨x,H2,J,rx,q2⟩=>thn (hi pins s2 σ H2 _ J q2) λiv s3 ⟨y,H3,O,ry,a,q,ex,g,q3⟩=>?_) Z;subst ex;obtain rfl:u=Value.ref a:=rx;exact ag8 hu O g ry rv λs4 U=>⟨σ,q,U,q3⟩
end
theorem Xc {P:Program}{w:World}{H:Hp}(h:Heap)(hb:sysModules<h.objs.size):ObjOk P w H (h.push {cls:=.type "dict",data:=.dict #[]}) h.objs.size (.dK []):=
 ⟨A2J _,A1L.mpr (Ne.symm (A11 hb)),[],.nil,Heap.DictOf.new h⟩
def as5:TE:=λ_ H Q=>∀ p,H p=none->Q (.ref p) (upd H p (.dK []))
section
variable {X:Cx}{pos:Pos}
theorem My:PE X (.Dict [] [] pos) as5:=λpins s σ H Q I h=>wpAny_Dict_empty ⟨.ref s.heap.objs.size,_,I.laid (a:=s.heap.objs.size) (o:=.dK []) (t':=s.toks) (λ_ _ q=>A02 _ q) (A08 _) (Xc s.heap I.big),rfl,h _ (I.hok.fresh (A08 _))⟩
end
def Oo:List (TE×TE)->St->Hp->(List (V×V)->Hp->Prop)->Prop
 | [],_,H,Q=>Q [] H
 | (tk,tv) :: r,σ,H,Q=>tk σ H λx H1=>tv σ H1 λy H2=>Oo r σ H2 λps q=>Q ((x,y) :: ps) q
abbrev VV:List (V×V)->List (Value×Value)->Prop:=Paired λp q=>RelV p.1 q.1/\RelV p.2 q.2
def PPs (X:Cx)(pos:Pos)(keys:List (Option Expr))(F:List Expr)(q:List (TE×TE)):Prop:=
 ∀(pins:List (Addr×Obj)) (s:Shared) (σ:St) (H:Hp) (Q:List (V×V)->Hp->Prop),Inv X pins σ H s->Oo q σ H Q ->
  wpAny (model X.prog X.w) X.A (evalPairs (pairTrees keys F X.env pos)) (λvs s'=>∃ ps H',Inv X pins σ H' s'/\VV ps vs/\Q ps H') X.xe s
theorem Rp {X:Cx}{pos:Pos}:PPs X pos [] [] []:=λpins s σ H Q I h=>pairTrees_nil_walk ⟨[],H,I,.nil,h⟩
theorem Il {X:Cx}{pos:Pos}{k v:Expr}{ks:List (Option Expr)}{vs:List Expr}{tk tv:TE}{q:List (TE×TE)}(Y:PE X k tk)(hv:PE X v tv)(Z:PPs X pos ks vs q) :
  PPs X pos (some k :: ks) (v :: vs) ((tk,tv) :: q):=λpins s σ H Q I h=>
 pairTrees_cons_walk (thn (Y pins s σ H _ I h) λu s1 ⟨x,H1,J,rx,q1⟩=>thn (hv pins s1 σ H1 _ J q1) λw2 s2 ⟨y,H2,O,ry,q2⟩=>thn (Z pins s2 σ H2 _ O q2) λws s3 ⟨ps,F,U,a0,q3⟩=>⟨(x,y) :: ps,F,U,.cons ⟨rx,ry⟩ a0,q3⟩)
def Gm (kvs more:List (Key×V)):List (Key×V):=more.foldl (λacc kv=>G3 acc kv.1 kv.2) kvs
theorem KV.merge:∀ {more:List (Key×V)} {F:List (Key×Value)} {kvs:List (Key×V)} {vs:List (Key×Value)},KV more F->KV kvs vs->KV (Gm kvs more) (merged vs F):=by
 intro more F kvs vs r;unfold KV at r
 induction r generalizing kvs vs with
 |nil=>intro q;exact q
 |@cons p q ps qs h t ih=>
   intro J
   have e:KV (G3 kvs p.1 p.2) (stored vs q.1 q.2):=by have:=J.put p.1 h.2;rw[<- h.1];exact this
   exact ih e
theorem G2:∀(more kvs:List (Key×V)),(Gm kvs more).length<=kvs.length+more.length
 | [],kvs=>by show kvs.length<=kvs.length+0;omega
 |p :: r,kvs=>by have h1:=G2 r (G3 kvs p.1 p.2);have h2:=Kh kvs p.1 p.2;show(Gm (G3 kvs p.1 p.2) r).length<=_;rw[A0G];omega
theorem Qr {P:Program}{w:World}:∀ {kvs:List (Key×V)} {ws:List (Value×Value)},VV (kvs.map λkv=>(kV kv.1,kv.2)) ws->∃ F,Carries (Ax P w) ws F/\KV kvs F
 | [], _,r=>by rw[List.map_nil] at r;cases r;exact⟨[],A2B,.nil⟩
 |p :: kvs,_,r=>by
   rw[A0H] at r
   cases r with
   |@cons a b as bs h t=>obtain⟨F,c,q⟩:=Qr (P:=P) (w:=w) t;obtain⟨O,J⟩:=b;exact⟨(p.1,J) :: F,⟨Pw h.1,rfl,c⟩,.cons ⟨rfl,h.2⟩ q⟩
def aJ0 (q:List (TE×TE)):TE:=fun σ H Q=>∀ p,H p=none->Oo q σ (upd H p (.dK [])) λps H2=>H2 p=some (.dK [])/\∃ kvs:List (Key×V),ps=kvs.map (λkv=>(kV kv.1,kv.2))/\kvs.length<=15/\Q (.ref p) (upd H2 p (.dK (Gm [] kvs)))
theorem Sn {X:Cx}{pos:Pos}{keys:List (Option Expr)}{F:List Expr}{U:List (TE×TE)}(h:PPs X pos keys F U)(a1:keys.all (·.isSome)=true)(hl:keys.length=F.length)(h0:keys≠[])
  (a0:keys.length<=15):PE X (.Dict keys F pos) (aJ0 U):=by
 intro pins s σ H Q I q;have hn:=I.hok.fresh (A08 s.heap.objs.size);have Y:=I.laid (a:=s.heap.objs.size) (o:=.dK []) (h':=s.heap.push {cls:=.type "dict",data:=.dict #[]}) (t':=s.toks) (λ_ _ q=>A02 _ q) (A08 _) (Xc s.heap I.big);refine wpAny_Dict_walk (knd:=Ax X.prog X.w) a1 hl h0 a0 (thn (h pins _ σ _ _ Y (q _ hn)) λws s2 ⟨ps,H2,J,a2,e,kvs,ep,lk,q2⟩=>?_);subst ep;obtain⟨rs,c,rk⟩:=Qr (P:=X.prog) (w:=X.w) a2;obtain⟨z,hd,a3,r0,Z⟩:=Vl J.hok e
 cases r0;refine⟨rs,c,Z,λh' O hs=>⟨.ref s.heap.objs.size,_,?_,rfl,q2⟩⟩
 have hz:(Gm [] kvs).length<=sizeLine:=by have h1:=G2 kvs [];rw[List.length_nil] at h1;rw[A1I];omega
 have he:∃ q,h'.get? s.heap.objs.size=some q:=let ⟨q,_,_,hq,_⟩:=O;⟨q,hq⟩;exact Sj J (by rw[e];exact A2B) hs he (Ut hz hd (rk.merge .nil) O)
structure M1 (X:Cx)(o:Expr)(m:Str)(apos:Pos)(e:Expr)(cpos:Pos):Prop where
 base:attributeBase o m X.env (eval o X.env)=eval o X.env
 few:((backTo cpos (starEach [e] X.env)).all (λx=>!x.1)&&(backToKw cpos (keywordEach [] X.env)).all (λx=>x.1.isSome)
  && decide (([e]:List Expr).length+([]:List Keyword).length+(if([]:List Keyword).isEmpty then 0 else 1)<30))=true
 line:(apos.endLine==cpos.line)=true
 trees:backTo cpos (starEach [e] X.env)=[(false,eval e X.env)]
structure M2 (X:Cx)(o:Expr)(m:Str)(apos:Pos)(e f:Expr)(cpos:Pos):Prop where
 base:attributeBase o m X.env (eval o X.env)=eval o X.env
 few:((backTo cpos (starEach [e,f] X.env)).all (λx=>!x.1)&&(backToKw cpos (keywordEach [] X.env)).all (λx=>x.1.isSome)
  && decide (([e,f]:List Expr).length+([]:List Keyword).length+(if([]:List Keyword).isEmpty then 0 else 1)<30))=true
 line:(apos.endLine==cpos.line)=true
 trees:backTo cpos (starEach [e,f] X.env)=[(false,eval e X.env),(false,eval f X.env)]
def IsD (H:Hp)(a:Addr):Prop:=(∃ kvs,Rd H a (.dK kvs))\/∃ kvs,Rd H a (.dT kvs)
theorem aq8 {X:Cx}{pins:List (Addr×Obj)}{σ:St}{H:Hp}{s:Shared}{a:Addr}(I:Inv X pins σ H s)(d:IsD H a) :
  s.TypeIs (.ref a) "dict" /\ (∀ b,Value.ref a = .ref b->∃ ob,s.heap.get? b=some ob/\ob.dict=none)/\(a==sysModules)=false:=by
 rcases d with ⟨kvs,e⟩|⟨kvs,e⟩
 . obtain⟨_,hd,vs,_,F⟩:=Rc I.hok e;refine⟨F.typeIs,λb q=>?_,hd⟩
   cases q;obtain⟨ob,_,_,h1,h2,_⟩:=F;exact⟨ob,h1,h2.2.1⟩
 obtain⟨_,hd,xs,_,F⟩:=Uq I.hok e;refine⟨F.typeIs,λb q=>?_,hd⟩
 cases q;obtain⟨ob,_,_,h1,h2,_⟩:=F;exact⟨ob,h1,h2.2.1⟩
section
variable {X:Cx}{pins:List (Addr×Obj)}{σ:St}{H:Hp}{s:Shared}{a:Addr}{y d:V}{u r:Value}{o:Option V}{A:Around}{E:Value->Shared->Prop}
theorem aJ6 {Q:Value->Shared->Prop}(hu:A.units+1<cLine)(I:Inv X pins σ H s)(g:DGet H a y o)(U:RelV y u)(h:∀ Y s',Inv X pins σ H s'->RelV (o.getD .non) Y->Q Y s') :
  wpAny (model X.prog X.w) A (call (.builtin "dict.get") [.ref a,u]) Q E s:=by
 rcases g with ⟨kvs,k,e,J,l⟩|⟨kvs,k,b,e,J,Z,l⟩
 . subst J;obtain⟨z,hd,vs,O,q⟩:=Rc I.hok e;refine A3X A2H q.typeIs A3O (PySem.F.args_dict_get_2 _ _) (meets_dict_get (Ax X.prog X.w) a (Pw U) hd) ⟨_,q.mapOf,h _ _ (I.tok _) ?_⟩;rw[l];exact(O.val k).getD rfl
 subst J
 cases (show u=Value.ref b from U);obtain⟨z,hd,xs,O,q⟩:=Uq I.hok e;refine A3X A2H q.typeIs A3O (PySem.F.args_dict_get_2 _ _) (meetsH_dict_get (tupleKind (Ax X.prog X.w)) a b hd) ⟨A2V hu,k,xs,Nl I.hok Z,q,h _ _ (I.tok _) ?_⟩;rw[l];exact(O.val k).getD rfl
theorem aN8 {Q:Value->Shared->Prop}(hu:A.units+1<cLine)(I:Inv X pins σ H s)(g:DGet H a y o)(U:RelV y u)(rd:RelV d r)(h:∀ Y s',Inv X pins σ H s'->RelV (o.getD d) Y->Q Y s') :
  wpAny (model X.prog X.w) A (call (.builtin "dict.get") [.ref a,u,r]) Q E s:=by
 rcases g with ⟨kvs,k,e,J,l⟩|⟨kvs,k,b,e,J,Z,l⟩
 . subst J;obtain⟨z,hd,vs,O,q⟩:=Rc I.hok e;refine A3X A2H q.typeIs A3O (PySem.F.args_dict_get_3 _ _ _) (meets_dict_get_default (Ax X.prog X.w) a (Pw U) hd r) ⟨_,q.mapOf,h _ _ (I.tok _) ?_⟩;rw[l];exact(O.val k).getD rd
 subst J
 cases (show u=Value.ref b from U);obtain⟨z,hd,xs,O,q⟩:=Uq I.hok e;refine A3X A2H q.typeIs A3O (PySem.F.args_dict_get_3 _ _ _) (meetsH_dict_get_default (tupleKind (Ax X.prog X.w)) a b hd r) ⟨A2V hu,k,xs,Nl I.hok Z,q,h _ _ (I.tok _) ?_⟩;rw[l];exact(O.val k).getD rd
end
def as0 (td ty:TE):TE:=fun σ H Q=>td σ H λx H1=>∃ a,x = .ref a/\IsD H1 a/\ty σ H1 λy H2=>∃ o,DGet H2 a y o/\Q (o.getD .non) H2
def ao8 (td ty tx:TE):TE:=fun σ H Q=>td σ H λx H1=>∃ a,x = .ref a/\IsD H1 a/\ty σ H1 λy H2=>tx σ H2 λz q=>∃ o,DGet q a y o/\Q (o.getD z) q
section
variable {X:Cx}{o e f:Expr}{apos cpos:Pos}{td ty tx:TE}
theorem al7 (hu:X.A.units+1<cLine)(U:PE X o td)(he:PE X e ty)(m:M1 X o "get" apos e cpos):PE X (.Call (.Attribute o "get" apos) [e] [] cpos) (as0 td ty):=by intro pins s σ H Q I h;refine wpAny_Call_method m.base m.few m.line A2Q A2H PySem.F.type_dict_get (thn (U pins s σ H _ I h) λu s1 ⟨x,H1,q,rx,a,ex,d,Y⟩=>?_);subst ex;obtain rfl:u=Value.ref a:=rx;obtain⟨t1,t2,_⟩:=aq8 q d;refine⟨t1,t2,?_⟩;rw[m.trees];refine A2T rfl (A40 (A2U (thn (he pins s1 σ H1 _ q Y) λiv s2 ⟨y,H2,J,ry,ov,g,Z⟩=>A3Q ?_)));exact aJ6 hu J g ry λw' s3 O a0=>⟨_,H2,O,a0,Z⟩
theorem aj0 (hu:X.A.units+1<cLine)(Z:PE X o td)(he:PE X e ty)(hf:PE X f tx)(m:M2 X o "get" apos e f cpos):PE X (.Call (.Attribute o "get" apos) [e,f] [] cpos) (ao8 td ty tx):=by
 intro pins s σ H Q I h;refine wpAny_Call_method m.base m.few m.line A2Q A2H PySem.F.type_dict_get (thn (Z pins s σ H _ I h) λu s1 ⟨x,H1,q,rx,a,ex,d,q1⟩=>?_);subst ex;obtain rfl:u=Value.ref a:=rx;obtain⟨t1,t2,_⟩:=aq8 q d;refine⟨t1,t2,?_⟩;rw[m.trees]
 refine A2T rfl (A40 (A2U (thn (he pins s1 σ H1 _ q q1) λiv s2 ⟨y,H2,O,ry,q2⟩=>A2U (thn (hf pins s2 σ H2 _ O q2) λfv s3 ⟨z,J,U,rz,ov,g,q3⟩=>A3Q ?_))))
 exact aN8 hu U g ry rz λw' s4 Y a0=>⟨_,J,Y,a0,q3⟩
end
section
variable {X:Cx}{pins:List (Addr×Obj)}{σ:St}{H:Hp}{s:Shared}{a:Addr}{kvs:List (Key×V)}{A:Around}{E:Value->Shared->Prop}
end
section
variable {X:Cx}{pins:List (Addr×Obj)}{σ:St}{H:Hp}{s:Shared}{a:Addr}{y:V}{u:Value}{A:Around}{E:Value->Shared->Prop}
end
end L2
namespace Att
open PySem PySem.W PySem.Calls PyProof.Rows
theorem Nu {P:Params}{h:Heap}:∀(ns:List Int) (vs:List Value),WellAll P h vs (ns.map WData.int)->IntsAre vs ns:=by
 intro ns
 induction ns with
 |nil=>
   intro vs w;rw[List.map_nil] at w
   cases w;exact .nil
 |cons n ns ih=>
   intro vs w;rw[A0H] at w
   cases w with
   |cons a b=>cases a;exact .cons _ _ (ih _ b)
theorem Zx {l:OpenLaw}{n:Nat}(hn:l.most=some n){P:Params}{h:Heap}{args:List WData}{Y:List Value}
  (U:l.row.toRowW.claim.pre args=true) (a2:WellAll P h Y args) :
  ∃ a vs ns,Y=[Value.ref a]/\args=[WData.list (ns.map WData.int)]/\h.get? a=some {cls:=.type "list",data:=.seq vs.toArray}/\IntsAre vs ns/\ns.length<=n:=by
 have a1:WShape.hasAll [] args [.list .int]=true:=(pre_splitW U).1;have O:l.pre.holds [] {args:=args}=true:=(pre_splitW U).2;obtain⟨d,r,rfl,h1,h2⟩:=hasAllW_cons a1;obtain rfl:=hasAllW_nil h2;obtain⟨xs,rfl,Z⟩:=hasW_list h1;obtain⟨ns,rfl⟩:=items_int Z
 have a0:ns.length<=n:=by
  unfold OpenLaw.pre at O
  have F:(WTm.not (.lt (.lit (.int (n:Int))) (.len (.arg 0)))).holds [] {args:=[.list (ns.map .int)]}=true:=by have F:=(holds_andW O).1;rw[hn] at F;exact F
  have J:=condW_of F (w_not (w_lt w_lit (w_len_list (w_arg rfl))));rw[A01] at J;refine Nat.le_of_not_lt λq=>?_;have q':(n:Int)<((ns.length:Nat):Int):=by omega
  first
   | (rw[A0Y q'] at J;exact absurd J nofun)
   | (simp at J;omega)
 cases a2 with
 |cons w1 w2=>
   cases w2
   cases w1 with
   |list ho hall=>exact⟨_,_,ns,rfl,rfl,ho,Nu ns _ hall,a0⟩
theorem ad6 (l:OpenLaw)(args:List WData):l.row.toRowW.claim.post args (.bool true) args=true:=
 postW_of (r:=l.row.toRowW) (X:=(true==true))
  (show WShape.has [] (.bool true) .bool=true by first | rfl | decide | simp[WShape.has,WShape.arms,WShape.armsAll])
  (show(WTm.eq .res (.lit (.bool true))).value [] {args:=args,res:=some (.bool true),after:=args}=some (.bool (true==true)) from w_eq_bool (w_res rfl) w_lit) rfl
theorem attach_call {l:OpenLaw}{n:Nat}{q:Program}{a0:List Str}{U:(Str->Option Value)->Heap->Prop}{Z:World->Heap->Prop}{d:DefRec}
  (hn:l.most=some n) (hdf:d.params.defaults=[])
  (call:∀(w:World) (s₀ F:Shared) (mg mb:Str->Option Value) (J:Addr) (o:Obj) (pm cd O:Value) (a:Addr) (vs:List Value) (ns:List Int),
   Ground q a0 [] U w s₀ mg mb F.heap->Z w F.heap ->
   F.heap.get? J=some o->o.data = .func (docDef d.name d.params d.body d.scope pm cd O)->F.heap.CodeRec cd d.name->mg d.name=some (.ref J) ->
   F.heap.get? a=some {cls:=.type "list",data:=.seq vs.toArray}->IntsAre vs ns->ns.length<=n->F.gens = #[] ->
   codeAny (model l.prog w) callerA (.call (.ref J) ⟨[.ref a],[]⟩) (λr s'=>r = .ok (.ret (.bool true))/\OldK F.heap s'.heap/\s'.os=F.os/\AllBare s'.gens) F) :
  WalkO q a0 U Z l.row.toRowW d [] (λf vs=>PySem.call f vs):=by
 intro w s₀ F mg mb G Y J o pm cd O dV kV ho hd hcd hD hmg hg args vals as hpre hlay hrd hwl hlo;obtain rfl:dV = .none:=Dflts.none hD hdf;obtain rfl:kV = .none:=Dflts.noKw hD;obtain⟨a,vs,ns,rfl,rfl,hobj,hints,hlen⟩:=Zx hn hpre hwl;refine enter_call (codeAny_mono (call w s₀ F mg mb J o pm cd O a vs ns G Y ho (fd_plain hd) hcd hmg hobj hints hlen hg) λr s' hq=>?_);obtain⟨rfl,h2,h3,h4⟩:=hq;exact⟨.inl ⟨.bool true,.bool true,[],rfl,λ_=>rfl,.bool true,ad6 l _,λ_=>⟨List.Pairwise.nil,λ_ hm=>(nomatch hm)⟩⟩,h2,h3,h4⟩
section
variable {prog:Program}{w:World}{A:Around}{E:Value->Shared->Prop}{s:Shared}{K:Frag}
end
end Att
namespace L2
open PySem PySem.Spec PyProof.Rows
theorem Tg:∀ {vs:List Value} {ns:List Int},IntsAre vs ns->Vals (ns.map V.int) vs
 |_,_,.nil=>.nil
 |_,_,.cons n t h=>.cons ⟨t,rfl⟩ (Tg h)
def We (s:Stmt)(j:Nat):Stmt:=match s with
 |.ClassDef _ _ _ body _ _ _ _ _ _ _=>body.getD j (.Pass ⟨0,0,0,0⟩)
 |_=>.Pass ⟨0,0,0,0⟩
def Af (s:Stmt):Arguments:=match s with
 |.FunctionDef _ a _ _ _ _ _ _ _ _=>a
 |_=>{posonlyargs:=[],args:=[],vararg:=none,kwonlyargs:=[],kw_defaults:=[],kwarg:=none,defaults:=[]}
def Ac (s:Stmt):List Stmt:=match s with
 |.FunctionDef _ _ b _ _ _ _ _ _ _=>b
 |_=>[]
def A4 (s:Stmt):Scope:=match s with
 |.FunctionDef _ _ _ _ _ _ sc _ _ _=>sc
 |_=>{kind:=.function,names:=[],isGenerator:=false,isCoroutine:=false}
abbrev CX0:CXT:=λ_ _ _ _ _ _=>False
abbrev E0:XK:=λ_ _ _=>False
theorem aC2 {X:Cx}:Qz CX0 X E0:=λ_ _ _ _ _ _ _ h=>h.elim
structure Fun (K:W.Frag)(x qual:Str)(st:Stmt)(f:Addr)(fd:FuncData):Prop where
 ex:∃(oc:Value) (od:Option Addr) (kV doc pm:Value) (an:Option Addr) (cdv ct:Value) (osl:Array (Option Value)),
  fd=W.fnOf x qual (Af st) (Ac st) (A4 st) .none kV doc pm an cdv ct/\K.lookup f=some ⟨oc,od,.func fd,osl⟩/\W.codeIn K cdv qual=true
 kp:W.keepIn K (.ref f)=true
section
variable {P:Program}{w:World}{K:W.Frag}{mg:Str->Option Value}{base:Heap}
theorem Fun.ok {x qual:Str}{st:Stmt}{f:Addr}{fd:FuncData}{N ps:List Str}{k:Nat}{sp:Sp}(F:Fun K x qual st f fd)(S:Ak N ps (A4 st))(len:∀ vs H Q E,sp vs H Q E->vs.length=ps.length)
  (O:∀(J:Value) (A:Around) (outer:List Env) (s:Shared) (H:Hp) (vs:List V) (Q:VK) (E:XK),Room k (A.deeper (envOfC qual (A4 st) s.heap.objs.size f J))->sp vs H Q E ->
   ∃ t,PSs (at4 CX0 P w K mg base N qual (A4 st) f J A outer s H E).nox (Ac st) t/\t {nx:=λ_ H'=>Q .non H',rt:=Q} (start N vs) H):FnOk P w K mg base CX0 (k+1) f fd ps sp:=by
 obtain⟨oc,od,kV,a0,pm,an,J,ct,osl,rfl,lk,U⟩:=F.ex;refine aF5 lk U S len λA outer s H vs Q E Y Z=>?_;obtain⟨t,h,q⟩:=O J A outer s H vs Q E Y Z;exact⟨t,h.nox,q⟩
theorem Fun.binds {x qual:Str}{st:Stmt}{f:Addr}{fd:FuncData}{ps:List Str}(F:Fun K x qual st f fd)
  (h:∀(kV J pm:Value) (an:Option Addr) (q ct:Value) (us:List Value),us.length=ps.length->bindArgs (W.fnOf x qual (Af st) (Ac st) (A4 st) .none kV J pm an q ct) ⟨us,[]⟩=pure (ps.zip us)):Binds K fd ps []:=by
 obtain⟨oc,od,kV,J,pm,an,q,ct,osl,rfl,lk,O⟩:=F.ex;exact .all (h kV J pm an q ct)
theorem Au {x qual:Str}{st:Stmt}{f:Addr}{oc:Value}{od an:Option Addr}{osl:Array (Option Value)}{kV F pm q ct:Value}(l:K.lookup f=some ⟨oc,od,.func (W.fnOf x qual (Af st) (Ac st) (A4 st) .none kV F pm an q ct),osl⟩)
  (c:W.codeIn K q qual=true) (k:W.keepIn K (.ref f)=true):Fun K x qual st f (W.fnOf x qual (Af st) (Ac st) (A4 st) .none kV F pm an q ct):=⟨⟨oc,od,kV,F,pm,an,q,ct,osl,rfl,l,c⟩,k⟩
end
theorem Bj {A:Around}{k:Nat}(q:Room k A):A.units+1<cLine:=Nat.lt_of_le_of_lt (Nat.add_le_add_left (by decide:1<=64) _) q.units
theorem ah6 {n:Nat}(h:n<=1000):n<sizeLine:=Nat.lt_of_le_of_lt h nofun
section
variable {X:Cx}
theorem pv (i:Nat){x:Str}{pos:Pos}(q:X.N[i]? = some x:=by ac_nf)(J:Vis X.env.scope x:=by with_unfolding_all first | exact Or.inl rfl | exact A37 (Or.inl rfl) | exact A37 (A37 rfl))(hd:(x==("__debug__":Str))=false:=by decide)
  (F:(x==("__classdict__":Str))=false:=by decide):PE X (.Name x pos) (aS8 i):=aO4 q J hd F
end
theorem iteF {A B:Prop}(h:B):if false=true then A else B:=by rw[A0Q A0J];exact h
theorem iteT {A B:Prop}(h:A):if true=true then A else B:=by rw[A0Z rfl];exact h
theorem aU8 {c A B:Prop}[Decidable c](h1:c->A)(h2:¬ c->B):if c then A else B:=by
 by_cases h:c
 . rw[A0Z h];exact h1 h
 rw[A0Q h];exact h2 h
def Same (H H':Hp):Prop:=∀ b o,H b=some o->H' b=some o
theorem Same.refl (H:Hp):Same H H:=λ_ _ h=>h
theorem Same.trans {H H1 H2:Hp} (a:Same H H1) (b:Same H1 H2):Same H H2:=λc o h=>b c o (a c o h)
theorem Same.free {H H':Hp}(e:Same H H'){l:Addr}(h:H' l=Option.none):H l=Option.none:=by
 cases q:H l with
 |none=>rfl
 |some o=>
   rw[e l o q] at h
   cases h
theorem Same.seq {K:W.Frag}{H H':Hp}{a:Addr}{xs:List V}(e:Same H H')(h:SqL K H a xs):SqL K H' a xs:=by
 rcases h with (h|⟨o,h⟩)|h
 . exact .inl (.inl (e _ _ h))
 . exact .inl (.inr ⟨o,e _ _ h⟩)
 exact .inr h
section
variable {X:Cx}
theorem a65:CallR X (.builtin "len") (λxs H Q=>∃ a kvs,xs=[V.ref a]/\H a=some (.dK kvs)/\Q (.int kvs.length) H):=by
 intro pins s σ H xs us Q I r h;obtain⟨a,kvs,rfl,ha,q⟩:=h;obtain⟨u,rfl,J⟩:=Ij r
 cases J;exact aT9 I (.inl ha) λt s' F=>⟨.int kvs.length,H,F,⟨t,rfl⟩,q⟩
end
section
variable {κ:Type}[DecidableEq κ]
theorem al1 {kvs:List (κ×V)}{k:κ}(h:Cj kvs k=none):¬ k∈kvs.map (·.1):=by intro m;obtain⟨p,hp,e⟩:=A0E.mp m;have q:(kvs.any λkv=>decide (kv.1=k))=true:=A1D.mpr ⟨p,hp,A0Y e⟩;rw [Iq,h] at q;exact absurd q (by simp)
theorem aa8:∀ {l:List κ} {k:κ},l.Nodup->¬ k∈l->(l++[k]).Nodup
 | [],k,_,_=>by simp
 |a :: r,k,h,hk=>by
   obtain⟨h1,h2⟩:=A0V.mp h;show(a :: (r++[k])).Nodup;refine A0V.mpr ⟨λm=>?_,aa8 h2 λm=>hk (A0A.mpr (A37 m))⟩;rcases A0C.mp m with q|q
   . exact h1 q
   exact hk (A0A.mpr (Or.inl (A0P.mp q).symm))
theorem aC1 {kvs:List (κ×V)}{k:κ}(v:V)(hn:(kvs.map (·.1)).Nodup)(h:Cj kvs k=none):((G3 kvs k v).map (·.1)).Nodup:=by rw[Jl v h,A13];exact aa8 hn (al1 h)
end
def Lp (env:Env)(names:List (Str×NameKind))(acc:List (Str×Addr)):List (Str×Addr):=
 names.foldl (λacc y=>if y.2==NameKind.free then(y.1,(env.cells.lookup y.1).getD 0) :: acc else acc) acc
theorem Lj {env:Env}{scope:Scope}(h:∀ y∈scope.names,y.2=NameKind.free->∃ c,env.cells.lookup y.1=some c):closureFor scope env=pure (Lp env scope.names []):=by
 have all:∀(names:List (Str×NameKind)) (acc:List (Str×Addr)),(∀ y∈names,y.2=NameKind.free->∃ c,env.cells.lookup y.1=some c) ->
   (forIn names acc λ(y:Str×NameKind) (O:List (Str×Addr))=>(match y with
    | (name,kind)=>if(kind==NameKind.free)=true then do let c <- cellOf env name;pure (ForInStep.yield ((name,c) :: O)) else pure (ForInStep.yield O):Sem (ForInStep (List (Str×Addr)))))=(pure (Lp env names acc):Sem (List (Str×Addr))):=by
  intro names
  induction names with
  |nil=>intro acc _;rfl
  |cons y r ih=>
    intro acc J;obtain⟨n,k⟩:=y;rw[List.forIn_cons]
    by_cases Y:k=NameKind.free
    . subst Y;obtain⟨c,U⟩:=J (n,.free) A0B rfl;have e:cellOf env n=pure c:=by unfold cellOf;rw[show env.cells.lookup n=some c from U]
      have F:Lp env ((n,NameKind.free) :: r) acc=Lp env r ((n,c) :: acc):=by unfold Lp;rw[A4O];simp only[beq_self_eq_true,if_true];rw[show env.cells.lookup n=some c from U];rfl
      rw[F,<- ih ((n,c) :: acc) λz hz=>J z (A09 _ hz)];simp only[beq_self_eq_true,if_true,e];rfl
    have hb:(k==NameKind.free)=false:=by simpa using Y
    have F:Lp env ((n,k) :: r) acc=Lp env r acc:=by unfold Lp;rw[A4O];simp only[hb,Bool.false_eq_true,if_false]
    rw[F,<- ih acc λz hz=>J z (A09 _ hz)];simp only[hb,Bool.false_eq_true,if_false];rfl
 have q:=all scope.names [] h;unfold closureFor
 first
  |exact q
  | (simp only[bind_pure];exact q)
  | (refine Eq.trans ?_ q;rfl)
theorem Xo {env:Env}{x:Str}{c:Addr}:∀ {names:List (Str×NameKind)} {acc:List (Str×Addr)},(∀ y∈names,y.2=NameKind.free->∃ c,env.cells.lookup y.1=some c)->(acc.lookup x=some c->env.cells.lookup x=some c) ->
  (Lp env names acc).lookup x=some c->env.cells.lookup x=some c
 | [],acc,_,ha,h=>ha h
 | (n,k) :: r,acc,hn,ha,h=>by
   have e:Lp env ((n,k) :: r) acc=Lp env r (if k==NameKind.free then(n,(env.cells.lookup n).getD 0) :: acc else acc):=rfl
   rw[e] at h;refine Xo (λy U=>hn y (A09 _ U)) (λq=>?_) h
   by_cases J:k=NameKind.free
   . subst J;simp only[beq_self_eq_true,if_true,List.lookup_cons] at q;obtain⟨d,hd⟩:=hn (n,.free) A0B rfl;have F:env.cells.lookup n=some d:=hd
     split at q
     . rename_i hx;have O:x=n:=A30.mp hx;rw[F] at q;rw[O,F];exact q
     exact ha q
   have hb:(k==NameKind.free)=false:=by simpa using J
   simp only[hb,Bool.false_eq_true,if_false] at q;exact ha q
theorem Rb {env:Env}{x:Str}:∀ {names:List (Str×NameKind)} {acc:List (Str×Addr)},((∃ c,acc.lookup x=some c)\/(x,NameKind.free)∈names)->∃ c,(Lp env names acc).lookup x=some c
 | [],acc,h=>by
   rcases h with h|h
   . exact h
   cases h
 | (n,k) :: r,acc,h=>by
   have e:Lp env ((n,k) :: r) acc=Lp env r (if k==NameKind.free then(n,(env.cells.lookup n).getD 0) :: acc else acc):=rfl
   rw[e];refine Rb ?_
   by_cases F:k=NameKind.free
   . subst F;simp only[beq_self_eq_true,if_true,List.lookup_cons]
     by_cases J:x=n
     . left;have hb:(x==n)=true:=A30.mpr J;rw[hb];exact⟨_,rfl⟩
     have hb:(x==n)=false:=A1L.mpr J;rw[hb];rcases h with h|h
     . exact .inl h
     rcases A0A.mp h with q|q
     . cases q;exact absurd rfl J
     exact .inr q
   have hb:(k==NameKind.free)=false:=by simpa using F
   simp only[hb,Bool.false_eq_true,if_false];rcases h with h|h
   . exact .inl h
   rcases A0A.mp h with q|q
   . cases q;exact absurd rfl F
   exact .inr q
theorem Eb:∀(names:List (Str×NameKind)) (n:Nat) (acc:List (Str×Addr)),cellsFrom n names acc=cellsFrom n names []++acc
 | [],_,_=>rfl
 | (x,k) :: r,n,acc=>by
   unfold cellsFrom
   split
   . rw[Eb r (n+1) ((x,n) :: acc),Eb r (n+1) [(x,n)],A1Z];rfl
   exact Eb r n acc
theorem Ll {x:Str}{c:Addr}:∀ {names:List (Str×NameKind)} {n:Nat},(x,c)∈cellsFrom n names []->(x,NameKind.cell)∈names
 | [],_,h=>by cases h
 | (y,k) :: r,n,h=>by
   unfold cellsFrom at h
   split at h
   . rename_i hk;rw[Eb] at h;rcases A0C.mp h with h|h
     . exact A09 _ (Ll h)
     have e:=A0P.mp h
     cases e;rw[A30.mp hk];exact A0B
   exact A09 _ (Ll h)
theorem Nq {α:Type}{x:Str}{c:α}:∀ {l:List (Str×α)},(x,c)∈l->∃ d,l.lookup x=some d
 | [],h=>by cases h
 | (y, d) :: r,h=>by
   rw[A1O]
   cases e:x==y with
   |true=>exact⟨d,rfl⟩
   |false=>
     rcases A0A.mp h with q|q
     . cases q;simp at e
     exact Nq q
theorem Kt {x:Str}:∀ {names:List (Str×NameKind)} {n:Nat},(x,NameKind.cell)∈names->∃ c,(x,c)∈cellsFrom n names []
 | [],_,h=>by cases h
 | (y,k) :: r,n,h=>by
   unfold cellsFrom
   split
   . rw[Eb];rcases A0A.mp h with q|q
     . cases q;exact⟨n,List.mem_append_right _ (by simp)⟩
     obtain⟨c,F⟩:=Kt (n:=n+1) q;exact⟨c,A0M _ F⟩
   rename_i hk;rcases A0A.mp h with q|q
   . cases q;exact absurd rfl hk
   exact Kt q
def Yc (outer scope:Scope)(xs fr:List Str):Bool:=
 (scope.kind == .function)&&(outer.kind == .function)&&decide (scope.names.map (·.1)).Nodup
 && (scope.names.all λy=>y.2 != .local||scope.names.lookup y.1==some .local)
 && (scope.names.all λy=>y.2 != .free||(outer.names.lookup y.1==some .cell||outer.names.lookup y.1==some .free))
 && (scope.names.all λy=>y.2 != .free||scope.names.lookup y.1==some .free)
 && (xs.all λx=>scope.names.lookup x==some .local||scope.names.lookup x==some .cell)&&(fr.all λx=>scope.names.lookup x==some .free)&&decide (xs++fr).Nodup
theorem Dx {α:Type}{x:Str}{v:α}:∀ {l:List (Str×α)},l.lookup x=some v->(x,v)∈l
 | [],h=>by cases h
 | (n,k) :: r,h=>by
   rw[A1O] at h
   split at h
   . rename_i hx;have q:x=n:=A30.mp hx
     cases h;rw[q];exact A0B
   exact A09 _ (Dx h)
theorem K1 {scope:Scope}{env:Env}{x:Str}{k:NameKind}(U:env.scope.kind = .function):∀ {names:List (Str×NameKind)},names.lookup x=some k ->
  (names.map λ(n,k)=>if(k==NameKind.free&&env.scope.kind == .function&&env.kindOf n==some .cell) then(n,NameKind.cell) else(n,k)).lookup x=some (if(k==NameKind.free&&env.kindOf x==some .cell) then .cell else k)
 | [],h=>by cases h
 | (n,j) :: r,h=>by
   have Y:=@K1 scope env x k U r;rw[A0H];rw[A1O] at h;dsimp only
   split at h
   . rename_i hx;have J:x=n:=A30.mp hx
     cases h;subst J
     by_cases F:(k==NameKind.free&&env.scope.kind == .function&&env.kindOf x==some .cell)=true
     . have O:(k==NameKind.free&&env.kindOf x==some .cell)=true:=by rw[A14,A14] at F;rw[A14];exact⟨F.1.1,F.2⟩
       rw[A0Z F,A0Z O,A1O,beq_self_eq_true]
     have O:¬ (k==NameKind.free&&env.kindOf x==some .cell)=true:=λq=>F (by rw[A14] at q;rw[A14,A14,U];exact⟨⟨q.1,rfl⟩,q.2⟩)
     rw[A0Q F,A0Q O,A1O,beq_self_eq_true]
   rename_i hx;have J:(x==n)=false:=by simpa using hx
   by_cases F:(j==NameKind.free&&env.scope.kind == .function&&env.kindOf n==some .cell)=true
   . rw[A0Z F,A1O,J];exact Y h
   rw[A0Q F,A1O,J];exact Y h
theorem Hw {env:Env} {x:Str} {k:NameKind}:∀ {names:List (Str×NameKind)},
  (names.map λ(n,k)=>if(k==NameKind.free&&env.scope.kind == .function&&env.kindOf n==some .cell) then(n,NameKind.cell) else(n,k)).lookup x=some k ->
  ∃ j,names.lookup x=some j/\(k=j\/(j = .free/\k = .cell))
 | [],h=>by cases h
 | (n,j) :: r,h=>by
   have F:=@Hw env x k r;rw[A0H] at h;dsimp only at h
   by_cases q:(j==NameKind.free&&env.scope.kind == .function&&env.kindOf n==some .cell)=true
   . rw[A0Z q,A1O] at h
     have J:j = .free:=by rw[A14,A14] at q;exact A30.mp q.1.1
     rw[A1O]
     split at h
     . rename_i hx
       cases h;exact⟨j,rfl,.inr ⟨J,rfl⟩⟩
     rename_i hx;have O:(x==n)=false:=by simpa using hx
     exact F h
   rw[A0Q q,A1O] at h;rw[A1O]
   split at h
   . rename_i hx
     cases h;exact⟨_,rfl,.inl rfl⟩
   rename_i hx;have O:(x==n)=false:=by simpa using hx
   exact F h
structure CompS (X:Cx)(scope:Scope)(xs fr:List Str):Prop where
 kind:scope.kind = .function
 okind:X.env.scope.kind = .function
 uniq:(scope.names.map (·.1)).Nodup
 names:∀ y∈scope.names,y.2 = .local->scope.names.lookup y.1=some .local
 free:∀ y∈scope.names,y.2 = .free->X.env.kindOf y.1=some .cell\/X.env.kindOf y.1=some .free
 own:∀ x∈xs,scope.names.lookup x=some .local\/scope.names.lookup x=some .cell
 fre:∀ x∈fr,scope.names.lookup x=some .free
 nd:(xs++fr).Nodup
theorem Yk {X:Cx}{scope:Scope}{xs fr:List Str}(h:Yc X.env.scope scope xs fr=true):CompS X scope xs fr:=by unfold Yc at h;simp only[Bool.and_eq_true,List.all_eq_true,bne_iff_ne,Bool.or_eq_true,beq_iff_eq,decide_eq_true_eq] at h;obtain⟨⟨⟨⟨⟨⟨⟨⟨h1,h2⟩,J⟩,O⟩,U⟩,h6⟩,Y⟩,Z⟩,h9⟩:=h;exact⟨h1,h2,J,λy F e=>(O y F).resolve_left (λq=>q e),λy F e=>(U y F).resolve_left (λq=>q e),Y,Z,h9⟩
def Po (σ:St)(js:List Nat):St:=js.map λj=>(σ[j]?).getD none
abbrev cxC (X:Cx)(scope:Scope)(xs fr:List Str)(C:Addr)(ex:List Addr)(s₀:Shared)(H₀:Hp):Cx:=
 {X with N:=xs++fr,env:=compEnvC scope (cellsFrom (C+1) scope.names (Lp X.env scope.names [])) C X.env,s₀:=s₀,H₀:=H₀,outer:=X.stack,ex:=ex,fn:=λx=>scope.names.lookup x==some .cell,pn:=[],xe:=λ_ _=>False}
section
variable {X:Cx}{scope:Scope}{xs fr:List Str}{pins:List (Addr×Obj)}{σ:St}{H:Hp}{s:Shared}{js:List Nat}{fp:List Addr}
theorem Uw {α:Type}{x:Str}{v:α}:∀ {l:List (Str×α)},(l.map (·.1)).Nodup->(x,v)∈l->l.lookup x=some v
 | [],_,h=>by cases h
 | (y,d) :: r,hn,h=>by
   obtain⟨h1,h2⟩:=A0V.mp hn;rw[A1O];rcases A0A.mp h with q|q
   . cases q;rw[beq_self_eq_true]
   have F:(x==y)=false:=A1L.mpr λe=>h1 (e ▸ A0E.mpr ⟨(x,v),q,rfl⟩);rw[F];exact Uw h2 q
theorem CompS.cells (S:CompS X scope xs fr)(ok:X.Ok):∀ y∈scope.names,y.2=NameKind.free->∃ c,X.env.cells.lookup y.1=some c:=λy q e=>ok.has _ (S.free y q e)
theorem ao1 (S:CompS X scope xs fr)(a7:js.map (λj=>X.N[j]?)=fr.map some)(I:Inv X pins σ H s)(a4:∀ b∈fp,Xz X pins H b)(aD:∀ b∈fp,∃ o,s.heap.get? b=some o){h':Heap}{t':Nat}
  (hn:h'.Ns s.heap.objs.size λ_=>none) (keep:∀ b o,s.heap.get? b=some o->h'.get? b=some o) (a3:CellsOk h' (s.heap.objs.size+1) (cellsFrom (s.heap.objs.size+1) scope.names [])) :
  Inv (cxC X scope xs fr s.heap.objs.size fp s H) [] (List.replicate xs.length none++Po σ js) H {s with heap:=h',toks:=t'}:=by
 have aA:=S.cells I.ok;have sub:∀ x c,(Lp X.env scope.names []).lookup x=some c->X.env.cells.lookup x=some c:=λx c h=>Xo aA (λq=>by cases q) h;have hl:js.length=fr.length:=by have:=congrArg List.length a7;rwa[A01,A01] at this
 have two:∀ x c,(cellsFrom (s.heap.objs.size+1) scope.names (Lp X.env scope.names [])).lookup x=some c->(x,c)∈cellsFrom (s.heap.objs.size+1) scope.names []\/(Lp X.env scope.names []).lookup x=some c:=λx c h=>by
  rw[Eb,A49] at h
  cases e:(cellsFrom (s.heap.objs.size+1) scope.names []).lookup x with
  |some d=>
    rw[e] at h
    cases h;exact .inl (Dx e)
  |none=>rw[e] at h;exact .inr h
 have a8:∀ x c,X.env.cells.lookup x=some c->c<s.heap.objs.size:=λx c h=>let ⟨_,_,U,_⟩:=I.cell x c h;A0D U;have a0:∀ x c,(x,c)∈cellsFrom (s.heap.objs.size+1) scope.names []->s.heap.objs.size<c:=λx c h=>(a3.empty x c h).2
 refine⟨⟨I.ok.mod,S.kind,I.ok.glob,I.ok.blt,A08 _,λx y c h1 h2=>?_,λx Z=>?_,λx c hf h=>?_,I.ok.hd,I.ok.frames,.inl rfl,λb hb=>?_,λb o e=>I.bs b o e,A0O I.ok.bsz I.sz,λb o e hb=>?_,λb hb a9=>?_,I.stack,I.stkFree⟩,
  rfl,I.bare,Un.kept keep,⟨_,hn,λi x v e1 J e3=>?_⟩,λx c h=>?_,I.hok.fresh (Nat.le_refl _),λx c h=>?_,λp hp=>absurd (show p∈([]:List (Addr×Obj)) from hp) (by simp),I.hok.kept keep,?_⟩
 . rcases two x c h1 with g1|g1
   . rcases two y c h2 with g2|g2
     . exact name_of_addr a3.apart g1 g2
     exact absurd (a8 y c (sub y c g2)) (Nat.not_lt.mpr (A2E (a0 x c g1)))
   rcases two y c h2 with g2|g2
   . exact absurd (a8 x c (sub x c g1)) (Nat.not_lt.mpr (A2E (a0 y c g2)))
   exact I.ok.inj x y c (sub x c g1) (sub y c g2)
 . -- the names that are cells there have one
   have Z:(relabel scope X.env).names.lookup x=some .cell\/(relabel scope X.env).names.lookup x=some .free:=Z
   have app:∀ c,(Lp X.env scope.names []).lookup x=some c\/(x,c)∈cellsFrom (s.heap.objs.size+1) scope.names []->∃ c,(cellsFrom (s.heap.objs.size+1) scope.names (Lp X.env scope.names [])).lookup x=some c:=λc h=>by
    rw[Eb,A49];rcases h with h|h
    . cases (cellsFrom (s.heap.objs.size+1) scope.names []).lookup x with
      |some d=>exact⟨d,rfl⟩
      |none=>exact⟨c,h⟩
    obtain⟨d,hd⟩:=Nq h;rw[hd];exact⟨d,rfl⟩
   have go:∀ k,(relabel scope X.env).names.lookup x=some k->(k = .cell\/k = .free)->∃ c,(cellsFrom (s.heap.objs.size+1) scope.names (Lp X.env scope.names [])).lookup x=some c:=λk e F=>by
    obtain⟨j,hj,q⟩:=Hw (env:=X.env) (names:=scope.names) e;have hm:=Dx hj
    have a1:j = .free\/j = .cell:=by
     rcases q with q|q
     . rcases F with F|F
       . exact .inr (q ▸ F)
       exact .inl (q ▸ F)
     exact .inl q.1
    rcases a1 with a1|a1
    . subst a1;obtain⟨c,O⟩:=Rb (env:=X.env) (x:=x) (names:=scope.names) (acc:=[]) (.inr hm);exact app c (.inl O)
    subst a1;obtain⟨c,O⟩:=Kt (n:=s.heap.objs.size+1) hm;exact app c (.inr O)
   rcases Z with Z|Z
   . exact go _ Z (.inl rfl)
   exact go _ Z (.inr rfl)
 . rcases two x c h with g|g
   . exact A2E (a0 x c g)
   have aB:scope.names.lookup x=some .cell:=by simpa using hf
   obtain⟨d,hd⟩:=Kt (n:=s.heap.objs.size+1) (Dx aB);have h':=h;obtain⟨e,he⟩:=Nq hd;have h':(cellsFrom (s.heap.objs.size+1) scope.names (Lp X.env scope.names [])).lookup x=some c:=h;rw[Eb,A49,he] at h'
   cases h';exact A2E (a0 x _ (Dx he))
 . obtain⟨f0,f1,f2,Y,f4,f5⟩:=a4 b hb;obtain⟨o,U⟩:=aD b hb;refine⟨A11 (A0D U),λx c h z=>?_⟩;rcases two x c h with g|g
   . have h1:=a0 x c g;have h2:=A0D U;rw[<- z] at h2;exact absurd h1 (Nat.not_lt.mpr (A2E h2))
   exact f4 x c (sub x c g) z
 . obtain⟨f0,f1,f2,Y,f4,f5⟩:=a4 b hb;rcases Y with Y|Y
   . exact I.ok.noex b o e Y
   exact absurd (A18 (A0D (I.ok.bs b o e).1) Y) (A1P _)
 . obtain⟨f0,f1,f2,Y,f4,f5⟩:=a4 b hb;rcases A0A.mp (I.stkSub b a9) with z|z
   . exact f1 z
   exact f2 z
 . have e1:(xs++fr)[i]? = some x:=e1
   by_cases hi:i<xs.length
   . rw[A1S (by rw[A2F];exact hi),A4I,A0Z hi] at J
     cases J
   have a6:xs.length<=i:=Nat.le_of_not_lt hi;rw[A33 a6] at e1;rw[A33 (by rw[A2F];exact a6),A2F] at J;unfold Po at J;rw[A06] at J
   cases ej:js[i-xs.length]? with
   |none=>rw[ej] at J;cases J
   |some j=>
     rw[ej] at J;have a2:(σ[j]?).getD none=some v:=A15 J
     have e4:σ[j]? = some (some v):=by
      cases q:σ[j]? with
      |none=>rw[q] at a2;cases a2
      |some o=>rw[q] at a2;rw[show o=some v from a2]
     have e5:X.N[j]? = some x:=by have:=congrArg (λl=>l[i-xs.length]?) a7;rw[A06,A06,ej,e1] at this;exact A15 this
     have hf:=S.fre x (A03 e1);have F:=S.free _ (Dx hf) rfl;obtain⟨m,hm,aC⟩:=I.loc;obtain⟨u,r,lk⟩:=aC j x v e5 e4 (.inr F);refine⟨u,r,.inr ⟨?_,?_⟩⟩
     . have q:=K1 (scope:=scope) (env:=X.env) S.okind hf;show(relabel scope X.env).names.lookup x=some .cell\/(relabel scope X.env).names.lookup x=some .free;have q':(relabel scope X.env).names.lookup x=some (if(NameKind.free==NameKind.free&&X.env.kindOf x==some .cell) then .cell else .free):=q
       by_cases O:(NameKind.free==NameKind.free&&X.env.kindOf x==some .cell)=true
       . rw[A0Z O] at q';exact .inl q'
       rw[A0Q O] at q';exact .inr q'
     obtain⟨c',a5⟩:=Rb (env:=X.env) (x:=x) (names:=scope.names) (acc:=[]) (.inr (Dx hf));rcases lk with ⟨z,_⟩|⟨_,c,O,ob,U,hd⟩
     . rcases F with F|F
       . rw[z] at F;cases F
       rw[z] at F;cases F
     have e6:c=c':=by have:=sub x c' a5;rw[O] at this;exact A15 this
     subst e6;refine⟨_,?_,ob,keep _ _ U,hd⟩;show(cellsFrom (s.heap.objs.size+1) scope.names (Lp X.env scope.names [])).lookup x=some c;rw [Eb,A49]
     have aE:(cellsFrom (s.heap.objs.size+1) scope.names []).lookup x=none:=by
      cases e:(cellsFrom (s.heap.objs.size+1) scope.names []).lookup x with
      |none=>rfl
      |some d=>
        have:=Uw S.uniq (Ll (Dx e));rw[hf] at this
        cases this
     rw[aE];exact a5
 . rcases two x c h with g|g
   . exact⟨_,(a3.empty x c g).1⟩
   obtain⟨v,ob,U,hd⟩:=I.cell x c (sub x c g);exact⟨v,ob,keep _ _ U,hd⟩
 . rcases two x c h with g|g
   . exact I.hok.fresh (A2E (a0 x c g))
   exact I.freeC x c (sub x c g)
 show _=(xs++fr).length;unfold Po;rw[A07,A07,A2F,A01,hl]
theorem ad0 {M:Model}{A:Around}{E:Value->Shared->Prop}{s:Shared}{scope:Scope}{q:Addr}{cl:List (Str×Addr)}{qual:Str}{env:Env}{Q:Env->Shared->Prop}
  (J:∀ h',h'.Ns s.heap.objs.size (λ_=>none)->(∀ b o,s.heap.get? b=some o->h'.get? b=some o)->CellsOk h' (s.heap.objs.size+1) (cellsFrom (s.heap.objs.size+1) scope.names []) ->
   Q (newEnv scope s.heap.objs.size q (cellsFrom (s.heap.objs.size+1) scope.names cl) qual none .none (some env) builtinsNs) {s with heap:=h'}) :
  wpAny M A (newFunctionEnv scope q cl [] qual none .none (some env)) Q E s:=by
 simp only[newFunctionEnv,Option.isSome_some,if_true];refine A05 (wpAny_alloc ?_);refine wpAny_bind (wpAny_layCells _ (λname kind cells=>by cases hkc:kind==NameKind.cell<;>simp[hkc]) _ _ _ _ ?_)
 have F:=cellsFrom_ok scope.names (s.heap.push {cls:=.type "dict",data:=.dict #[]}) (s.heap.objs.size+1) [] ⟨λ_ _ hm=>(nomatch hm),List.Pairwise.nil⟩ (by rw[A20];exact A08 _);rw[A20] at F;rw[show({s with heap:=s.heap.push {cls:=.type "dict",data:=.dict #[]}}:Shared).heap.objs.size=s.heap.objs.size+1 from A20 ..]
 rw[List.forIn_nil];exact A05 (A0K (A0K (J _ ((Heap.Ns.new s.heap (.type "dict")).keeps (pushCells_keeps _ _)) (λb o e=>pushCells_keeps _ _ b o (A02 _ e)) F)))
theorem a57 {σ':St}{H':Hp}{s':Shared}{a0:Heap}(I:Inv X pins σ H s)(a1:∀ b∈fp,Xz X pins H b)(J:Inv (cxC X scope xs fr s.heap.objs.size fp s H) [] σ' H' s')(Y:Heap.SameBut s.heap.objs.size s'.heap a0) :
  Inv X pins σ H' {s' with heap:=a0}:=by
 have old:∀ b o,s.heap.get? b=some o->b≠s.heap.objs.size:=λb o e=>A11 (A0D e);have F:Un (frs X.stack) fp H H' s.heap s'.heap:=J.base;refine I.call' (s':={s' with heap:=a0}) (ch:=fp) J.os ⟨λb o e n hb U=>(Y.2 b (old b o e)).trans (F.keep b o e n hb U),λb o e n hb U=>?_,F.free,λb o e U=>?_,F.tups,F.frzs,F.tbls⟩ (λb o e=>?_) J.bare λb hb=>?_
 . obtain⟨sl,Z⟩:=F.slot b o e n hb U;exact⟨sl,(Y.2 b (old b o e)).trans Z⟩
 . obtain⟨o',Z⟩:=F.there b o e U;exact⟨o',(Y.2 b (old b o e)).trans Z⟩
 . have hf:H' s.heap.objs.size=none:=J.free;refine(J.hok b o e).stay (λc v O q=>(Y.2 c ?_).trans q) (λ_ q=>q) λ_ _ q=>q;intro z;rcases O with O|O
   . rw[<- O,z,hf] at e;cases e
   rw[z,hf] at O;cases O
 obtain⟨f0,f1,f2,f3,f4,f5⟩:=a1 b hb;exact⟨f3,f1,f4,f5⟩
def PIf (X:Cx)(q:List Expr)(t:TT):Prop:=
 ∀(pins:List (Addr×Obj)) (s:Shared) (σ:St) (H:Hp) (Q:Bool->Hp->Prop) (E:Value->Shared->Prop),(∀ e s',X.xe e s'->E e s')->Inv X pins σ H s->t σ H Q ->
  wpAny (model X.prog X.w) X.A (forIn q true λc r=>if r=true then do let ok <- isTrue c X.env (eval c X.env);pure (ForInStep.yield ok) else pure (ForInStep.yield r)) (TP X pins σ Q) E s
def ax7:TT:=λ_ H Q=>Q true H
theorem El:PIf X [] ax7:=λ_ _ _ H _ _ _ I h=>wpAny_tests_nil ⟨H,I,h⟩
theorem Fg {c:Expr}{t:TT}(F:PT X c t):PIf X [c] t:=λpins s σ H Q _ q I h=>wpAny_tests_one (A26 (F pins s σ H Q I h) (λ_ _ z=>z) q)
def aC3 (k:Nat)(js:List Nat)(U:TI)(g:TG)(tt:TT)(te:TE):TE:=fun σ H Q=>U σ H λJ H1=>∀ p,H1 p=none ->
 ∃ W:Nat->Nat->Hp->Prop,(∃ m,W 0 m (upd H1 p (.lst [])))/\∀ i m H,W i m H ->
  (J.stop i H/\Q (.ref p) H)\/(J.go i H/\∃ N:Hp->Prop,(∀ H',N H'->∃ O,O<m/\W (i+1) O H') /\
   ∀ x H',J.yld i H x H'->g x (List.replicate k none++Po σ js) H' fun σ2 H2=>tt σ2 H2 λb q=>if b=true then te σ2 q λy F=>∃ acc,F p=some (.lst acc)/\acc.length<sizeLine/\N (upd F p (.lst (acc++[y]))) else N q)
theorem a94 {tg q Z:Expr}{F:List Expr}{pos:Pos}{it acc:Value}{env:Env}{A:Around}{R:Result->Shared->Prop}{s:Shared}{P:Program}{w:World}(I:Nat->Shared->Prop)
  (turn:∀ n s,I n s->wpAny (model P w) A (pyNext it) (λr J=>match r with
   |none=>R (.ok .next) J
   |some v=>wpAny (model P w) A (letOwnedTupleGo tg it v) (λ_ a0=>wpAny (model P w) A (assign tg env v) (λ_ s₂=>
     wpAny (model P w) A (forIn F true λc r=>if r=true then do let ok <- isTrue c env (eval c env);pure (ForInStep.yield ok) else pure (ForInStep.yield r)) (λok O=>
      if ok=true then wpAny (model P w) A (eval q env) (λx s₄=>wpAny (model P w) A (call (.builtin "list.append") [acc,x]) (λ_ s₅=>∃ m,m<n/\I m s₅) (λ_ _=>False) s₄) (λ_ _=>False) O
      else ∃ m,m<n/\I m O) (λ_ _=>False) s₂) (λ_ _=>False) a0) (λ_ _=>False) J) (λ_ _=>False) s)
  (n:Nat) (h:I n s):codeAny (model P w) A (.compLoop (.ListComp q [⟨tg,Z,F,0⟩] scope pos) 0 it acc env) R s:=by
 refine codeAny_loop rfl I (λn s hI=>?_) n h;show wpAny _ A ((compTurn (.ListComp q [⟨tg,Z,F,0⟩] scope pos) 0 it acc env).onRaise (λx=>do noteFrame x env;theTreesLotGoes x)) _ _ s
 refine wpAny_noted ?_;rw [compTurn_list];refine A05 (wpAny_standAt (A05 (A26 (turn n s hI) (λr J U=>?_) λ_ _ h'=>h'.elim)))
 cases r with
 |none=>exact A0K U
 |some v=>
   refine A05 (A26 U (λ_ a0 a1=>?_) λ_ _ h'=>h'.elim);refine A05 (A26 a1 (λ_ s₂ h₂=>A05 (A26 h₂ (λok O Y=>?_) λ_ _ h'=>h'.elim)) λ_ _ h'=>h'.elim)
   cases ok with
   |false=>exact A0K ⟨rfl,Y⟩
   |true=>exact A05 (A05 (A26 Y (λx s₄ h₄=>A05 (A26 h₄ (λ_ s₅ h₅=>A0K (A0K ⟨rfl,h₅⟩)) λ_ _ h'=>h'.elim)) λ_ _ h'=>h'.elim))
def af6 (n:Nat)(g:TG):Prop:=∀ x σ H Q,g x σ H Q->g x σ H fun σ' H'=>(∀ k,n<=k->σ'[k]? = σ[k]?)/\Q σ' H'
def Y9 (n:Nat)(g:TGs):Prop:=∀ vs σ H Q,g vs σ H Q->g vs σ H fun σ' H'=>(∀ k,n<=k->σ'[k]? = σ[k]?)/\Q σ' H'
theorem Bf {n i:Nat}(h:i<n):af6 n (Kl i):=λx σ H Q q=>⟨λk F=>A34 ∅,q⟩
theorem aM7 {n:Nat}:Y9 n aE1:=λvs σ H Q ⟨e,q⟩=>⟨e,λ_ _=>rfl,q⟩
theorem a66 {n i:Nat}{u:TGs}(h:i<n)(hu:Y9 n u):Y9 n (Pk (Kl i) u):=λvs σ H Q ⟨v,r,e,q⟩=>by
 refine⟨v,r,e,?_⟩;have U:u r (σ.set i (some v)) H Q:=q;show u r (σ.set i (some v)) H _;have z:=hu _ _ _ _ U
 have J:(λ(σ':St) (H':Hp)=>(∀ k,n<=k->σ'[k]? = (σ.set i (some v))[k]?)/\Q σ' H')=fun σ' H'=>(∀ k,n<=k->σ'[k]? = σ[k]?)/\Q σ' H':=by
  funext σ' H'
  have O:(∀ k,n<=k->σ'[k]? = (σ.set i (some v))[k]?) = ∀ k,n<=k->σ'[k]? = σ[k]?:=by
   refine propext ⟨λf k F=>?_,λf k F=>?_⟩
   . rw[f k F,A34 ∅]
   rw[f k F,A34 ∅]
  rw[O]
 rw[J] at z;exact z
theorem aF3 {K:W.Frag}{n m:Nat}{u:TGs}(hu:Y9 n u):af6 n (aB2 K m u):=λx σ H Q ⟨a,xs,e,J,F,q⟩=>⟨a,xs,e,J,F,hu _ _ _ _ q⟩
theorem X2 {tg a2 aE:Expr}{a4:List Expr}{pos:Pos}{g:TG}{tt:TT}{te:TE}(hc:X.calm=true)(S:CompS X scope xs fr)(aP:js.map (λj=>X.N[j]?)=fr.map some)
  (hg:∀ C ex s₀ H₀,PG (cxC X scope xs fr C ex s₀ H₀) tg g) (hk:af6 xs.length g) (hi:∀ C ex s₀ H₀,PIf (cxC X scope xs fr C ex s₀ H₀) a4 tt) (he:∀ C ex s₀ H₀,PE (cxC X scope xs fr C ex s₀ H₀) a2 te)
  {q:Shared} {H1:Hp} {R:Value->Addr->Result->Shared->Prop} {Q:VK} {it:Addr} {tn:Nat->Heap->Prop} {J:It} (I:Inv X pins σ H1 q) (T:a55 X.prog X.w X.K tg J fp it tn) (st:tn 0 q.heap) (aO:∀ b∈fp,Xz X pins H1 b)
  (hq:∀ p,H1 p=none->∃ W:Nat->Nat->Hp->Prop,(∃ m,W 0 m (upd H1 p (.lst [])))/\∀ i m H,W i m H ->
   (J.stop i H/\Q (.ref p) H)\/(J.go i H/\∃ N:Hp->Prop,(∀ H',N H'->∃ m',m'<m/\W (i+1) m' H') /\
    ∀ x H',J.yld i H x H'->g x (List.replicate xs.length none++Po σ js) H' fun σ2 H2=>tt σ2 H2 λb F=>if b=true then te σ2 F λy H4=>∃ acc,H4 p=some (.lst acc)/\acc.length<sizeLine/\N (upd H4 p (.lst (acc++[y]))) else N F))
  (hR:∀(p C:Addr) (s':Shared) (H':Hp),(∃ m,s'.heap.Ns C m)->Xz X pins H' C->Inv X pins σ H' s'->Q (.ref p) H'->R (.ref p) C (.ok .next) s') :
  wpAny (model X.prog X.w) X.A (newList []) (λacc s₃=>wpAny (model X.prog X.w) X.A (newFunctionEnv scope X.env.globals (Lp X.env scope.names []) [] X.env.qual none .none (some X.env)) (λa8 s₄=>
   codeAny (model X.prog X.w) X.A (.compStart (.ListComp a2 [⟨tg,aE,a4,0⟩] scope pos) 0 (.ref it) acc {a8 with scope:=relabel scope X.env}) (R acc a8.locals) s₄) X.xe s₃) X.xe q:=by
 refine A2M ?_ (by show 0<=sizeLine;exact A2J _);have aQ:H1 q.heap.objs.size=none:=I.hok.fresh (A08 _);have I3:Inv X pins σ (upd H1 q.heap.objs.size (.lst [])) {q with heap:=q.heap.push {cls:=.type "list",data:=.seq ([]:List Value).toArray}}:=I.laid (t':=q.toks) (λb u e=>A02 _ e) (A08 _) ⟨A2J _,[],0,.nil,A0I _ rfl⟩
 obtain⟨W,⟨m0,w0⟩,turn⟩:=hq _ aQ;have aB:∀ b∈fp,∃ o,q.heap.get? b=some o:=λb hb=>let ⟨o,e,_⟩:=T.obj _ _ st b hb;⟨o,e⟩
 have a0:∀ b∈fp,Xz X pins (upd H1 q.heap.objs.size (.lst [])) b:=λb hb=>by obtain⟨f0,f⟩:=aO b hb;obtain⟨o,e⟩:=aB b hb;exact⟨by rw[At (A11 (A0D e))];exact f0,f⟩
 have aS:∀ b∈fp,∃ o,(q.heap.push {cls:=.type "list",data:=.seq ([]:List Value).toArray}).get? b=some o:=λb hb=>let ⟨o,e⟩:=aB b hb;⟨o,A02 _ e⟩;have aY:tn 0 (q.heap.push {cls:=.type "list",data:=.seq ([]:List Value).toArray}):=T.keep _ _ _ st λb _ o e=>A02 _ e;generalize aD:({q with heap:=q.heap.push {cls:=.type "list",data:=.seq ([]:List Value).toArray}}:Shared)=s3 at I3 ⊢;have aZ:tn 0 s3.heap:=by rw[<- aD];exact aY
 have aC:∀ b∈fp,∃ o,s3.heap.get? b=some o:=by rw[<- aD];exact aS
 generalize b0:upd H1 q.heap.objs.size (.lst [])=F at I3 a0 w0;generalize b1:q.heap.objs.size=p0 at turn ⊢;refine ad0 λh₁ aR aA aN=>?_;have Y:=ao1 (t':=s3.toks) S aP I3 a0 aC aR aA aN;have a1:tn 0 h₁:=T.keep _ _ _ aZ λb hb o e=>aA b o e
 have aF:∀ s₄:Shared,Inv (cxC X scope xs fr s3.heap.objs.size fp s3 F) [] (List.replicate xs.length none++Po σ js) F s₄->tn 0 s₄.heap ->
   codeAny (model X.prog X.w) X.A (.compLoop (.ListComp a2 [⟨tg,aE,a4,0⟩] scope pos) 0 (.ref it) (.ref p0) (compEnvC scope (cellsFrom (s3.heap.objs.size+1) scope.names (Lp X.env scope.names [])) s3.heap.objs.size X.env)) (R (.ref p0) s3.heap.objs.size) s₄:=by
  intro s₄ Y a1
  have a6:∀ {H':Hp},(∀ b∈fp,H' b=none)->∀ b∈fp,Xz (cxC X scope xs fr s3.heap.objs.size fp s3 F) [] H' b:=fun {H'} hn b hb=>by obtain⟨f0,f1,f2,f3,f4,f5⟩:=a0 b hb;obtain⟨o,e⟩:=aC b hb;refine⟨hn b hb,Nat.ne_of_lt (Heap.lt_size e),Y.ok.exfs b hb,.inl hb,λx c h=>(Y.ok.exf b hb).2 x c h,λp hp=>absurd (show p∈([]:List (Addr×Obj)) from hp) (by simp)⟩
  refine a94 (λn s'=>∃ i H',Inv (cxC X scope xs fr s3.heap.objs.size fp s3 F) [] (List.replicate xs.length none++Po σ js) H' s'/\tn i s'.heap/\(∀ b∈fp,H' b=none)/\W i n H') ?_ m0 ⟨0,F,Y,a1,λb hb=>(a0 b hb).1,w0⟩;rintro n s5 ⟨i,H5,I5,aG,a9,w5⟩;rcases turn i n H5 w5 with ⟨stop,qn⟩|⟨go,N,hN,step⟩
  . refine thn (T.done (cxC X scope xs fr s3.heap.objs.size fp s3 F) rfl rfl rfl hc i [] s5 _ H5 (λ_ _=>False) I5 (a6 a9) aG stop) λr s6 ⟨hr,I6⟩=>?_;subst hr;obtain⟨m6,n6,_⟩:=id I6.loc;exact hR p0 s3.heap.objs.size s6 H5 ⟨m6,n6⟩ (I3.fpOk (A08 _) I6.free) (a57 I3 a0 I6 (Heap.SameBut.refl ..)) qn
  refine thn (T.item (cxC X scope xs fr s3.heap.objs.size fp s3 F) rfl rfl rfl hc i [] s5 _ H5 (λ_ _=>False) I5 (a6 a9) aG go) λr s6 ⟨u,hr,h6⟩=>?_;subst hr;refine thn h6 λ_ s7 ⟨x,H7,I7,r7,y7,a5,aL⟩=>?_;have aK:=I7.pinned (a6 aL) (T.obj _ _ a5);refine thn (hg _ _ _ _ _ s7 _ H7 x u _ aK r7 (hk _ _ _ _ (step x H7 y7))) λ_ s8 ⟨σ8,H8,I8,aT,q8⟩=>?_
  have again:∀ {Z:Shared} {O:Hp},Inv (cxC X scope xs fr s3.heap.objs.size fp s3 F) ([]++Tw fp s7.heap) σ8 O Z->N O ->
    ∃ m,m<n/\∃ i H',Inv (cxC X scope xs fr s3.heap.objs.size fp s3 F) [] (List.replicate xs.length none++Po σ js) H' Z/\tn i Z.heap/\(∀ b∈fp,H' b=none)/\W i m H':=fun {Z O} U n9=>by
   obtain⟨m',hm,w9⟩:=hN O n9;refine⟨m',hm,i+1,O,U.unpinned.weak ?_ ?_,T.keep _ _ _ a5 λb hb o e=>(U.pin (b,o) (A12 _ (A12 _ (Ji hb e)))).1,λb hb=>?_,w9⟩
   . rw[U.len,I5.len]
   . intro k v a3
     by_cases hx:k<xs.length
     . rw[A1S (by rw[A2F];exact hx),A4I,A0Z hx] at a3
       cases a3
     rw[aT k (Nat.le_of_not_lt hx)];exact a3
   obtain ⟨o,e,d⟩:=T.obj _ _ a5 b hb;exact(U.pin (b,o) (A12 _ (A12 _ (Ji hb e)))).2.1
  refine A26 (hi _ _ _ _ _ s8 σ8 H8 _ (λ_ _=>False) (λ_ _ z=>z) I8 q8) (λok Z ⟨O,U,q9⟩=>?_) λ_ _ z=>z
  cases ok with
  |false=>rw[A0Q A0J];rw[A0Q A0J] at q9;exact again U q9
  |true=>rw[A0Z rfl];rw[A0Z rfl] at q9;refine thn (he _ _ _ _ _ Z σ8 O _ U q9) λuy aX ⟨y,aH,aI,aW,acc,aM,hz,aU⟩=>?_;refine thn (J4 _ aX σ8 aH (.ref p0) [y] (.ref p0) [uy] (λ_ a7=>N a7) aI rfl (.cons aW .nil) ⟨p0,acc,y,rfl,rfl,aM,hz,aU⟩) λ_ b2 ⟨_,a7,aJ,_,aV⟩=>?_;exact again aJ aV
 exact codeAny_compStart_list (aF _ Y a1) (T.self _ _ _ _ _ a1 (aF _ Y a1))
theorem Inv.letgo {C:Addr}{q:Heap}(I:Inv X pins σ H s)(f:Xz X pins H C)(Z:Heap.SameBut C s.heap q):Inv X pins σ H {s with heap:=q}:=by obtain⟨F,J,f2,O,U,Y⟩:=f;exact I.turned (t':=s.toks) (λb o hb e=>(Z.2 b hb).trans e) F J O U Y
theorem C2 {tg O F:Expr}{U:List Expr}{pos:Pos}{Y:TI}{g:TG}{tt:TT}{te:TE}(xs fr:List Str)(js:List Nat)(hc:X.calm=true)(hS:Yc X.env.scope scope xs fr=true)(a0:js.map (λj=>X.N[j]?)=fr.map some)(hw:PI X tg F Y)
  (hg:∀ C ex s₀ H₀,PG (cxC X scope xs fr C ex s₀ H₀) tg g) (hk:af6 xs.length g) (hi:∀ C ex s₀ H₀,PIf (cxC X scope xs fr C ex s₀ H₀) U tt) (he:∀ C ex s₀ H₀,PE (cxC X scope xs fr C ex s₀ H₀) O te)
  (hs:∀ x,foldedSetIterable F X.env x=pure x:=by intro _;ac_nf) :
  PE X (.ListComp O [⟨tg,F,U,0⟩] scope pos) (aC3 xs.length js Y g tt te):=by
 intro pins s σ H Q I h;have S:=Yk hS;rw[eval_ListComp];refine wpAny_comprehension_free (use:=none) rfl hs (Lj (S.cells I.ok)) S.kind S.names ?_;refine thn (hw pins s σ H _ I h) λv s1 h1=>thn h1 λa4 s2 h2=>?_;obtain⟨it,fp,tn,J,H2,e,Z,T,a2,f2,q2⟩:=h2;subst e;refine X2 (Q:=Q) (R:=λacc C=>compPost (model X.prog X.w) X.A X.xe none (EP X pins σ Q) acc C) hc S a0 hg hk hi he Z T a2 f2 q2 ?_;intro p C s' H' ⟨m,hn⟩ fC hI q;exact⟨m,hn,λa3 a1=>⟨.ref p,H',hI.letgo fC a1,rfl,q⟩⟩
theorem Ho {tg U F:Expr}{Y:List Expr}{pos a0 O:Pos}{wi:TI}{g:TG}{tt:TT}{te:TE}{i:Nat}{y:Str}(xs fr:List Str)(js:List Nat)(hc:X.calm=true)(hS:Yc X.env.scope scope xs fr=true)(a3:js.map (λj=>X.N[j]?)=fr.map some)
  (hN:X.N.Nodup) (a2:X.N[i]? = some y) (hy:X.env.scope.names.lookup y=some .local) (hw:PI X tg F wi)
  (hg:∀ C ex s₀ H₀,PG (cxC X scope xs fr C ex s₀ H₀) tg g) (hk:af6 xs.length g) (hi:∀ C ex s₀ H₀,PIf (cxC X scope xs fr C ex s₀ H₀) Y tt) (he:∀ C ex s₀ H₀,PE (cxC X scope xs fr C ex s₀ H₀) U te)
  (a7:swapsWith (.ListComp U [⟨tg,F,Y,0⟩] scope pos) (some (.Name y O)) a0.line X.env=pure true:=by ac_nf)
  (hs:∀ x,foldedSetIterable F X.env x=pure x:=by intro _;ac_nf) :
  PS X (.Assign [.Name y O] (.ListComp U [⟨tg,F,Y,0⟩] scope pos) a0) (aD6 (aC3 xs.length js wi g tt te) (Kl i)):=by
 intro pins s σ H D I h;have S:=Yk hS;rw[exec_Assign_Name_used _ _ _ _ a7];refine A05 (wpAny_standAt (A05 ?_));show wpAny _ X.A (do let _ <- comprehension (.ListComp U [⟨tg,F,Y,0⟩] scope pos) scope X.env _ (newList []) false (eval F X.env) (some (assign (.Name y O) X.env))) _ _ s
 refine A05 (A26 (wpAny_comprehension_free (use:=some (assign (.Name y O) X.env)) (Q:=λ_ s'=>SP X pins D .next s') rfl hs (Lj (S.cells I.ok)) S.kind S.names ?_) (λ_ s' hq=>A0K (A0K hq)) λ_ _ e=>e);refine thn (hw pins s σ H _ I h) λv s1 h1=>thn h1 λaA s2 h2=>?_;obtain⟨it,fp,tn,J,H2,e,I2,T,a8,f2,q2⟩:=h2;subst e;refine X2 (Q:=λx H1=>Kl i x σ H1 D.nx) (R:=λacc C=>compPost (model X.prog X.w) X.A X.xe (some (assign (.Name y O) X.env)) (λ_ s'=>SP X pins D .next s') acc C) hc S a3 hg hk hi he I2 T a8 f2 q2 ?_;intro p C s' H' ⟨m,hn⟩ Z I' q;show wpAny _ X.A (assign (.Name y O) X.env (.ref p)) _ _ s';refine wpAny_assign_Name (Vq I' hN a2 (.inl hy) (show RelV (.ref p) (.ref p) from rfl) (λaB a1 ⟨a,a6,ha⟩=>?_) (.inr hy))
 have a4:C≠a:=by
  rcases ha with ha|ha
  . rw[ha];exact Z.2.1
  exact(Z.2.2.2.2.1 y a ha).symm
 exact⟨m,hn.sameBut a6 a4,λa9 a5=>⟨_,H',a1.letgo Z a5,q⟩⟩
end
def Its (x:Str):It:=⟨λi _=>i<x.cps.size,λi H v H'=>H'=H/\∃ c,x.cps[i]? = some c/\v = .str ⟨#[c]⟩,λi _=>x.cps.size<=i⟩
section
variable {X:Cx}{tg:Expr}
theorem ad8 {P:Program}{w:World}{K:PySem.W.Frag}{tg:Expr}{it:Addr}{n:Nat}{PV:Nat->Value->Prop}{val:Nat->V->Prop}{St:Nat->Heap->Prop}(W:∀ A:Around,A.handled=none->Walks P w A it [it] [it] n PV St)
  (a2:∀(A:Around) (i:Nat) (s:Shared) (Q:Value->Shared->Prop) (E:Value->Shared->Prop),St i s.heap->Q (.ref it) s->wpAny (model P w) A (pyIter (.ref it)) Q E s)
  (hv:∀ i u,PV i u->∃ v,RelV v u/\val i v) (a0:∀ i h,St i h->∃ o T vs,h.get? it=some o/\o.cls = .type T/\o.data = .fields vs/\["enumerate","zip","dict_itemiterator","dict_reverseitemiterator","odict_iterator","itertools.zip_longest","itertools.pairwise"].contains T=false) :
  a55 P w K tg ⟨λi _=>i<n,λi H v H'=>H'=H/\val i v,λi _=>n<=i⟩ [it] it (λi h=>St i h/\i<=n) where
 mem:=by simp
 obj:=λi h st b hb=>by
  have e:b=it:=by simpa using hb
  subst e;obtain⟨o,T,vs,F,e2,J,e4⟩:=a0 i h st.1;exact⟨o,F,λv z=>by rw[J] at z;cases z⟩
 keep:=λi h h' st k=>⟨(W {handled:=none} rfl).frame i h h' st.1 k,st.2⟩
 item:=by
  intro X hP hw hK hc i pins s σ H E I hf st q;subst hP hw hK;obtain⟨O,U,f2,Y,Z,f5⟩:=hf it (by simp);refine(W X.A (I.ok.hd hc)).item i s _ _ q st.1 λu h' tk hp a1 kk=>?_;obtain⟨v,rv,vv⟩:=hv i u hp;have I1:Inv X pins σ H {s with heap:=h',toks:=tk}:=I.turned (λb o hb e=>kk b o (by simpa using hb) e) O U Y Z f5
  obtain⟨o,T,vs,F,e2,J,e4⟩:=a0 _ _ a1;exact⟨u,rfl,Zk (s:={s with heap:=h',toks:=tk}) F e2 J e4 ⟨v,H,I1,rv,⟨rfl,vv⟩,⟨a1,q⟩,λb hb=>(hf b hb).1⟩⟩
 done:=by intro X hP hw hK hc i pins s σ H E I hf st q;subst hP hw hK;obtain⟨O,U,f2,Y,Z,f5⟩:=hf it (by simp);have e:i=n:=Nat.le_antisymm st.2 q;subst e;exact(W X.A (I.ok.hd hc)).done s _ _ st.1 λh' tk kk=>⟨rfl,I.turned (λb o hb e=>kk b o (by simpa using hb) e) O U Y Z f5⟩
 self:=λA i s Q E st h=>a2 A i s Q E st.1 h
theorem aF8 {pins:List (Addr×Obj)}{σ:St}{H1:Hp}{F:Shared}{R:It->Hp->Prop}{E:Value->Shared->Prop}{z:Str}{v:Value}(O:Inv X pins σ H1 F)(r1:RelV (.str z) v)(q:R (Its z) H1):wpAny (model X.prog X.w) X.A (pyIter v) (PIE X pins σ tg R) E F:=by
 obtain⟨t,rfl⟩:=r1;have sv:∀ i u,SignAt z i u->∃ v,RelV v u/\∃ c,z.cps[i]? = some c/\v = .str ⟨#[c]⟩:=λi u ⟨c,tu,J,hu⟩=>⟨.str ⟨#[c]⟩,⟨tu,hu⟩,c,J,rfl⟩
 have fin:∀(o:Obj) (St:Nat->Heap->Prop) (n:Nat),St 0 (F.heap.push o)->a55 X.prog X.w X.K tg (Its z) [F.heap.objs.size] F.heap.objs.size (λi h=>St i h/\i<=z.cps.size)->PIE X pins σ tg R (.ref F.heap.objs.size) {F with heap:=F.heap.push o}:=λo St n h0 T=>by
  refine⟨F.heap.objs.size,[F.heap.objs.size],_,_,H1,rfl,O.kept (t':=F.toks) λb ob e=>A02 _ e,T,⟨h0,A2J _⟩,λb hb=>?_,q⟩;have e:b=F.heap.objs.size:=by simpa using hb
  subst e;exact O.fpOk (A08 _) (O.hok.fresh (A08 _))
 cases ha:z.cps.all (· < 128)
 . exact wpAny_pyIter_wide ha (fin _ _ 0 ⟨_,A0I _ rfl,rfl,rfl⟩ (ad8 (λA U=>Walks.strWide U _ z t) (λ_ _ _ _ _ st Z=>wpAny_pyIter_striter_wide st Z) sv λi h ⟨o,Y,J,hd⟩=>⟨o,_,_,Y,J,hd,by decide⟩))
 exact wpAny_pyIter_ascii ha (fin _ _ 0 ⟨_,A0I _ rfl,rfl,rfl⟩ (ad8 (λA U=>Walks.strAscii U _ z t) (λ_ _ _ _ _ st Z=>wpAny_pyIter_striter_ascii st Z) sv λi h ⟨o,Y,J,hd⟩=>⟨o,_,_,Y,J,hd,by decide⟩))
end
section
variable {X:Cx}
def aW1:V->Option Int->Option Int->Hp->VK->Prop:=λx lo hi H Q=>∃ z,x = .str z/\z.length<=sizeLine/\Q (.str (Txt.slice z lo hi)) H
theorem sl_str:SlR X aW1:=by
 intro pins s σ H x v Z vu lo hi Y Q I U J pl O h;obtain⟨z,rfl,hz,q⟩:=h;obtain⟨t,rfl⟩:=U;have fin:∀ t' k,EP X pins σ Q (.str (Txt.slice z lo hi) t') {s with toks:=k}:=λt' k=>⟨.str _,H,I.tok _,⟨_,rfl⟩,q⟩
 have sz:=A0O (Txt.slice_le z lo hi) hz;refine⟨"str",_,F.slot_str_getitem.lookup,typeIs_str _ _ _,?_⟩
 cases pl with
 |none=>
   cases O with
   |none=>exact A3I (l:=none) (u:=none) (st:=none) J rfl (A4R ⟨sz,fin⟩)
   |int j uj=>exact A3I (l:=none) (u:=some (j,uj)) (st:=none) J rfl (A4R ⟨sz,fin⟩)
 |int i ui=>
   cases O with
   |none=>exact A3I (l:=some (i,ui)) (u:=none) (st:=none) J rfl (A4R ⟨sz,fin⟩)
   |int j uj=>exact A3I (l:=some (i,ui)) (u:=some (j,uj)) (st:=none) J rfl (A4R ⟨sz,fin⟩)
theorem Z2:CallR X (.builtin "repr") (λxs H Q=>(∃ b,xs=[.bl b]/\Q (.str (if b then "True" else "False")) H)\/(xs=[.non]/\Q (.str "None") H)):=by
 intro pins s σ H xs us Q I r h;rcases h with ⟨b,rfl,q⟩|⟨rfl,q⟩
 . obtain⟨u,rfl,F⟩:=Ij r
   cases F;exact PySem.P.repr_of_bool ⟨.str _,H,I.tok _,⟨_,rfl⟩,q⟩
 obtain⟨u,rfl,F⟩:=Ij r
 cases F;exact PySem.P.repr_of_none ⟨.str _,H,I.tok _,⟨_,rfl⟩,q⟩
theorem call_isinst:CallR X (.builtin "isinstance") (λxs H Q=>∃ x c t b,xs=[x,.ty c]/\TyOf X.K H x t/\W.kitOne X.K t (.type c)=some b/\Q (.bl b) H):=by
 intro pins s σ H xs us Q I r h;obtain⟨x,c,t,b,rfl,ty,e,q⟩:=h;obtain⟨u,O,rfl,F,J⟩:=ah9 r
 cases J;exact Tc I F ty e λtk=>⟨.bl _,H,I.tok _,rfl,q⟩
theorem call_isinstR:CallR X (.builtin "isinstance") (λxs H Q=>∃ x c t b,xs=[x,.ref c]/\TyOf X.K H x t/\W.kitOne X.K t (.ref c)=some b/\Q (.bl b) H):=by
 intro pins s σ H xs us Q I r h;obtain⟨x,c,t,b,rfl,ty,e,q⟩:=h;obtain⟨u,O,rfl,F,J⟩:=ah9 r
 cases J;exact Tc I F ty e λtk=>⟨.bl _,H,I.tok _,rfl,q⟩
theorem Vt:CallR X (.builtin "isinstance") (λxs H Q=>∃ a ys c b,xs=[V.ref a,.ty c]/\((SqT X.K H a ys/\W.kitOne X.K (.type "tuple") (.type c)=some b)\/(SqL X.K H a ys/\W.kitOne X.K (.type "list") (.type c)=some b))/\Q (.bl b) H):=by
 intro pins s σ H xs us Q I r h;obtain⟨a,ys,c,b,rfl,ty,q⟩:=h;obtain⟨u,U,rfl,J,O⟩:=ah9 r
 cases O
 cases J;rcases ty with ⟨ty,e⟩|⟨ty,e⟩
 . obtain⟨F,_,p,_⟩:=I.tuple ty;obtain⟨o,h1,h2,_⟩:=p;exact A1M W.kitx_tuple I.kIn ⟨o,h1,h2⟩ e (λz=>nomatch z) λtk=>⟨.bl _,H,I.tok _,rfl,q⟩
 obtain⟨F,_,p,_⟩:=I.list ty;obtain⟨o,h1,h2,_⟩:=p.isList;exact A1M W.kitx_list I.kIn ⟨o,h1,h2⟩ e (λz=>nomatch z) λtk=>⟨.bl _,H,I.tok _,rfl,q⟩
theorem an3 {bs:List Bool}{q:List Value}(r:Vals (bs.map V.bl) q)(i:Nat)(v:Value)(h:q[i]? = some v):∃ b,bs[i]? = some b/\v = .bool b:=by
 have F:=r.length;have hi:i<q.length:=(A00.mp h).1;have hb:i<bs.length:=by rw[A01] at F;omega
 obtain⟨u,hu,J⟩:=r.get (i:=i) (x:=.bl bs[i]) (by rw[A06,A04 hb];rfl);rw[h] at hu
 cases hu;exact⟨bs[i],A04 hb,J⟩
theorem a04 (bs:List Bool):(List.range bs.length).any (λi=>(bs[i]?).getD false)=bs.any id:=by
 rw[A22,A1D,A1D];constructor
 . rintro⟨i,hi,h⟩;rw[A04 (A21.mp hi)] at h;exact⟨_,A4J _,h⟩
 rintro⟨b,hb,h⟩;obtain⟨i,hi,e⟩:=List.mem_iff_getElem.mp hb;refine⟨i,A21.mpr hi,?_⟩;rw[A04 hi,e];exact h
theorem aj1 (Y:X.calm=true):CallR X (.builtin "any") (λxs H Q=>∃(a:Addr) (bs:List Bool),xs=[.ref a]/\SqL X.K H a (bs.map V.bl)/\Q (.bl (bs.any id)) H):=by
 intro pins s σ H xs us Q I r h;obtain⟨a,bs,rfl,hl,q⟩:=h;obtain⟨u,rfl,ru⟩:=Ij r
 cases ru;obtain⟨J,O,pl,hz⟩:=I.list hl;have a0:=O.length;have a1:a≠s.heap.objs.size:=by obtain⟨o,n,ho,_⟩:=pl;exact A11 (A0D ho)
 refine call_any_walk (A3S pl.isList ?_);refine⟨_,_,_,_,_,_,λi=>(bs[i]?).getD false,rfl,Walks.list (A:=X.A.in1) (I.ok.hd Y) _ a a1 J.toArray,⟨⟨_,A0I _ rfl,rfl,rfl⟩,pl.isList.at λo e=>A02 _ e⟩,λi v s' Q' E' hp F=>?_,λh' tk Z=>?_⟩
 . obtain⟨b,hb,rfl⟩:=an3 O i v (by simpa using hp);dsimp only at F;rw[hb] at F;exact A3P F
 refine⟨.bl _,H,I.kept (t':=tk) λb ob e=>Z b ob (λhm=>absurd (Heap.lt_size e) (by rw[show b=s.heap.objs.size by simpa using hm];exact Nat.lt_irrefl _)) (Heap.get?_push_of_some _ e),?_,q⟩;have U:J.toArray.size=bs.length:=by rw[A0R,<- a0,A01]
 rw[U,a04];rfl
end
section
variable {X:Cx}{x:Str}{pos:Pos}
theorem aS5 {v:V}(q:Gl X x)(hm:∃ u,X.mg x=some u/\RelV v u)(hd:(x==("__debug__":Str))=false:=by decide):PE X (.Name x pos) (tC v):=by obtain⟨u,h1,h2⟩:=hm;exact av3 q h1 h2 hd
end
section
variable {X:Cx}{K:W.Frag}
def aM4 (K:W.Frag):R2:=λx y H Q=>∃ a b ys,x = .ref a/\y = .ref b/\SqT K H a []/\SqT K H b ys/\Q (.ref b) H
theorem av8:OpR X (binaryOp .Add) (aM4 X.K):=by
 intro pins s σ H x y v u Q I rx ry h;obtain⟨a,b,ys,rfl,rfl,ha,hb,q⟩:=h
 cases rx
 cases ry;obtain⟨a3,r1,p1,_⟩:=I.tuple ha;obtain⟨a4,r2,p2,_⟩:=I.tuple hb
 cases r1;obtain⟨⟨cls,dd,data,sl⟩,Y,J,n,hd⟩:=id p1;obtain⟨⟨a2,a0,data2,a1⟩,Z,O,n2,U⟩:=id p2;simp only at J hd O U;subst J hd O U;exact concat_meets ⟨_,Y,rfl⟩ ⟨_,Z,rfl⟩ noFill_tuple_add seq_tuple_add PySem.F.slot_tuple_add PySem.F.entry_tuple_add (PySem.F.args_tuple_add_2 _ _) (tuple_addW0 a b _ _ n n2 dd a0 sl a1 (by simp)) ⟨Y,Z,⟨.ref b,H,I,rfl,q⟩⟩
def aV8 (K:W.Frag):V->Option Int->Option Int->Hp->VK->Prop:=λx lo hi H Q=>∃ a xs,x = .ref a/\SqT K H a xs/\(HT.sIx xs.length 0 lo=0/\HT.sIx xs.length xs.length hi=xs.length)/\Q (.ref a) H
theorem an0:SlR X (aV8 X.K):=by
 intro pins s σ H x v vl vu lo hi sl Q I rx O pl pu h;obtain⟨a,xs,rfl,hx,U,q⟩:=h
 cases rx;obtain⟨F,r,J,hz⟩:=I.tuple hx;have a0:F.toArray.size=xs.length:=by rw[A0R];exact r.length.symm
 refine⟨"tuple",_,PyProof.Rows.slot_tuple_getitem.lookup,J.typeIs,?_⟩;obtain⟨os,a1,Z,a3⟩:=id O;have Y:s.TypeIs (.ref sl) "slice":=⟨os,a1,Z⟩;unfold getItem
 try with_reducible refine A42 ?_
 first | refine A05 (A0K ?_) | skip
 refine A05 (wpAny_sequenceKey J.typeIs nofun ?_);refine A05 (A3G (name:=Str.ofString "__getitem__") J.typeIs A2L (A3Z A2L J.typeIs entry_tuple_getitem ?_ (args_tuple_getitem _ _)));refine A05 (m:=Builtin.Tuple.tupleItemsOf (.ref a)) (tupleItemsOf_ J ?_);refine A05 (A3V Y ?_);rw[A0Z nofun];refine A05 (HT.sliceApplied_gen O pl pu ?_)
 have a2:(((HT.sIx F.toArray.size 0 lo:Nat):Int)==0&&(1:Int)==1&&(HT.sIx F.toArray.size F.toArray.size hi-HT.sIx F.toArray.size 0 lo)==F.toArray.size)=true:=by rw[a0,U.1,U.2];simp
 show wpAny _ _ (if(((HT.sIx F.toArray.size 0 lo:Nat):Int)==0&&(1:Int)==1&&(HT.sIx F.toArray.size F.toArray.size hi-HT.sIx F.toArray.size 0 lo)==F.toArray.size)=true then _ else _) _ _ s
 rw[A0Z a2];have fin:∀ s',s'=s->EP X pins σ Q (.ref a) s':=λs' e=>by subst e;exact⟨.ref a,H,I,rfl,q⟩
 unfold Builtin.Tuple.tupleIsExact;obtain⟨hp,g,d,tk,os⟩:=s;have hT:=J.typeIs
 repeat (any_goals (first | assumption | wp_step))
 exact⟨_,rfl,A0K (fin _ rfl)⟩
end
theorem Inv.freeze {X:Cx}{pins:List (Addr×Obj)}{σ:St}{H:Hp}{s:Shared}{d:Addr}{kvs:List (Key×V)}{o:Obj}(I:Inv X pins σ H s)(hd:H d=some (.dK kvs))(Z:s.heap.get? d=some o):Inv X pins σ (upd H d (.frz o (.dK kvs))) s:=by
 have F:∀ b,H b=none->upd H d (.frz o (.dK kvs)) b=none:=λb h=>by rw[At (Ne.symm (ne_of_none hd h))];exact h
 have other:∀ b u,H b=some u->u ≠ .dK kvs->upd H d (.frz o (.dK kvs)) b=some u:=λb u h q=>by rw[At (ne_of h hd q)];exact h
 refine⟨I.ok,I.os,I.bare,⟨I.base.keep,I.base.slot,λb ob q n hx=>F b (I.base.free b ob q n hx),I.base.there,λb xs q=>other b _ (I.base.tups b xs q) (by intro z;cases z),λb ob u q=>other b _ (I.base.frzs b ob u q) (by intro z;cases z),λb ps q=>?_⟩,I.loc,I.cell,F _ I.free,λx c q=>F _ (I.freeC x c q),λp hp=>?_,λb u q=>?_,I.len⟩
 . obtain⟨more,h⟩:=I.base.tbls b ps q;exact⟨more,other b _ h (by intro z;cases z)⟩
 . obtain⟨J,O,U⟩:=I.pin p hp;exact⟨J,F _ O,U⟩
 by_cases e:b=d
 . subst e;rw[Ae] at q
   cases q;exact⟨Z,(I.hok b _ hd).stay (λc v Y z=>z) (λc z=>other c _ z (by intro w;cases w)) λc xs z=>other c _ z (by intro w;cases w)⟩
 rw[At e] at q;exact(I.hok b u q).stay (λc v Y z=>z) (λc z=>other c _ z (by intro w;cases w)) λc xs z=>other c _ z (by intro w;cases w)
def Itd (a:Addr)(o:Obj)(kvs:List (Key×V)):It:=
 ⟨λi H=>H a=some (.frz o (.dK kvs))/\i<kvs.length,λi H x H'=>H'=H/\∃ kv,kvs[i]? = some kv/\x=kV kv.1,λi H=>H a=some (.frz o (.dK kvs))/\kvs.length<=i⟩
theorem ae4 {k:Key}{u:Value}(h:Tv k u=true):RelV (kV k) u:=by
 rcases Br h with ⟨i,t,rfl,rfl⟩|⟨x,t,rfl,rfl⟩
 . exact⟨t,rfl⟩
 exact⟨t,rfl⟩
theorem ac2 {X:Cx}{pins:List (Addr×Obj)}{σ:St}{H:Hp}{s:Shared}{a:Addr}{kvs:List (Key×V)}{o:Obj}{es:Array DictEntry}{ep:Nat}(I:Inv X pins σ H s)(h:H a=some (.frz o (.dK kvs)))(q:o.data = .dict es ep):∃ vs,KV kvs vs/\s.heap.DictAt (Ax X.prog X.w) a vs ep:=by
 obtain⟨h1,_,_,vs,r,o',J,F,h2,c,hd,rest⟩:=I.hok a _ h;rw[h1] at h2
 cases h2;rw[q] at hd
 cases hd;exact⟨vs,r,o,es,h1,c,q,rest⟩
theorem KV.get:∀ {kvs:List (Key×V)} {vs:List (Key×Value)} {i:Nat} {kv:Key×V},KV kvs vs->kvs[i]? = some kv->∃ u,vs[i]? = some (kv.1,u)/\RelV kv.2 u
 |_,_,_,_,.nil,e=>by simp at e
 |_,_,0,kv,.cons r _,e=>by simp at e;subst e;exact⟨_,congrArg some (Prod.ext r.1.symm rfl),r.2⟩
 |_,_,i+1,kv,.cons _ t,e=>by obtain⟨u,h1,h2⟩:=KV.get (i:=i) t (by simpa using e);exact⟨u,by simpa using h1,h2⟩
theorem Te {P:Program}{w:World}{K:W.Frag}{tg:Expr}(a it:Addr)(o:Obj)(kvs:List (Key×V))(es:Array DictEntry)(ep:Nat)(hd:o.data = .dict es ep):a55 P w K tg (Itd a o kvs) [it] it (λi h=>h.IsKeyIter it a i kvs.length ep) where
 mem:=by simp
 obj:=λi h st b hb=>by
  have e:b=it:=by simpa using hb
  subst e;obtain⟨o,e,c,d⟩:=st;exact⟨o,e,λv z=>by rw[d] at z;cases z⟩
 keep:=λi h h' st k=>st.at λo e=>k it (by simp) o e
 item:=by
  intro X hP hw hK hc i pins s σ H E I hf st hg;subst hP hw hK;obtain⟨hH,hi⟩:=hg;obtain⟨vs,F,a0⟩:=ac2 I hH hd;have q:kvs.length=vs.length:=A2Z F;obtain⟨kv,hkv⟩:∃ kv,kvs[i]? = some kv:=⟨kvs[i],A04 hi⟩;obtain⟨u,hu,_⟩:=KV.get F hkv;obtain⟨J,O,f2,U,Y,Z⟩:=hf it (by simp);rw[q] at st;refine wpAny_pyNext_dict_item st a0 hu λa4 h' a2 a1 a3=>?_;have I1:Inv X pins σ H {s with heap:=h'}:=I.turned (t':=s.toks) (λb o hb e=>(a3.2 b hb).trans e) J O U Y Z
  obtain⟨o',e,c,d⟩:=id a1;exact⟨a4,rfl,Zk (s:={s with heap:=h'}) e c d nofun ⟨kV kv.1,H,I1,ae4 a2,⟨rfl,kv,hkv,rfl⟩,by rw[q];exact a1,λb hb=>(hf b hb).1⟩⟩
 done:=by intro X hP hw hK hc i pins s σ H E I hf st hg;subst hP hw hK;obtain⟨hH,hi⟩:=hg;obtain⟨vs,F,a0⟩:=ac2 I hH hd;have q:kvs.length=vs.length:=A2Z F;obtain⟨J,O,f2,U,Y,Z⟩:=hf it (by simp);rw[q] at st;exact wpAny_pyNext_dict_end (I.ok.hd hc) st a0 (List.getElem?_eq_none ∅) λh' eb=>⟨rfl,I.turned (t':=s.toks) (λb o hb e=>eb b o hb e) J O U Y Z⟩
 self:=λA i s Q E st hQ=>wpAny_pyIter_keyiter st hQ
theorem aB4 {X:Cx}{tg:Expr}{pins:List (Addr×Obj)}{σ:St}{H:Hp}{s:Shared}{a:Addr}{kvs:List (Key×V)}{R:It->Hp->Prop}{E:Value->Shared->Prop}(I:Inv X pins σ H s)(h:H a=some (.dK kvs))(q:∀ o,R (Itd a o kvs) (upd H a (.frz o (.dK kvs)))) :
  wpAny (model X.prog X.w) X.A (pyIter (.ref a)) (PIE X pins σ tg R) E s:=by
 obtain⟨_,U,vs,Y,o,es,ep,J,c,hd,rest⟩:=I.hok a _ h;have F:=I.freeze h J;have O:kvs.length=vs.length:=A2Z Y;refine wpAny_pyIter_dict (knd:=Ax X.prog X.w) U ⟨o,es,J,c,hd,rest⟩ ?_;rw[<- O];refine⟨s.heap.objs.size,[s.heap.objs.size],_,_,_,rfl,F.kept (t':=s.toks) λb o e=>A02 _ e,Te a _ o kvs es ep hd,⟨_,A0I _ rfl,rfl,rfl⟩,λb hb=>?_,q o⟩;have e:b=s.heap.objs.size:=by simpa using hb
 subst e;exact F.fpOk (A08 _) (F.hok.fresh (A08 _))
theorem an7 {X:Cx}{tg:Expr}{pins:List (Addr×Obj)}{σ:St}{H:Hp}{s:Shared}{a:Addr}{kvs:List (Key×V)}{o:Obj}{R:It->Hp->Prop}{E:Value->Shared->Prop}(I:Inv X pins σ H s)(h:H a=some (.frz o (.dK kvs)))(q:R (Itd a o kvs) H) :
  wpAny (model X.prog X.w) X.A (pyIter (.ref a)) (PIE X pins σ tg R) E s:=by
 obtain⟨J,_,U,vs,Y,o',es,ep,F,c,hd,rest⟩:=I.hok a _ h;rw[J] at F
 cases F;have O:kvs.length=vs.length:=A2Z Y;refine wpAny_pyIter_dict (knd:=Ax X.prog X.w) U ⟨o,es,J,c,hd,rest⟩ ?_;rw[<- O];refine⟨s.heap.objs.size,[s.heap.objs.size],_,_,_,rfl,I.kept (t':=s.toks) λb o e=>A02 _ e,Te a _ o kvs es ep hd,⟨_,A0I _ rfl,rfl,rfl⟩,λb hb=>?_,q⟩;have e:b=s.heap.objs.size:=by simpa using hb
 subst e;exact I.fpOk (A08 _) (I.hok.fresh (A08 _))
theorem Same.seqT {K:W.Frag}{H H':Hp}{a:Addr}{xs:List V}(e:Same H H')(h:SqT K H a xs):SqT K H' a xs:=by
 rcases h with (h|⟨o,h⟩)|h
 . exact .inl (.inl (e _ _ h))
 . exact .inl (.inr ⟨o,e _ _ h⟩)
 exact .inr h
mutual
def Is (K:W.Frag)(H:Hp):PyData->V->Prop
 |.none,v=>v = .non
 |.bool b,v=>v = .bl b
 |.int i,v=>v = .int i
 |.str x,v=>v = .str x
 |.list ds,v=>∃ a xs,v = .ref a/\SqL K H a xs/\IsL K H ds xs
 |.tuple ds,v=>∃ a xs,v = .ref a/\SqT K H a xs/\IsL K H ds xs
 |.dict _,_=>False
def IsL (K:W.Frag)(H:Hp):List PyData->List V->Prop
 | [],vs=>vs=[]
 |d :: ds,vs=>∃ v r,vs=v :: r/\Is K H d v/\IsL K H ds r
end
mutual
theorem Is.mono {K:W.Frag}{H H':Hp}(e:Same H H'):∀(d:PyData) (v:V),Is K H d v->Is K H' d v
 |.none,_,h=>by simp only[Is] at h ⊢;exact h
 |.bool _,_,h=>by simp only[Is] at h ⊢;exact h
 |.int _,_,h=>by simp only[Is] at h ⊢;exact h
 |.str _,_,h=>by simp only[Is] at h ⊢;exact h
 |.list ds,v,h=>by simp only[Is] at h ⊢;obtain⟨a,xs,q,F,J⟩:=h;exact⟨a,xs,q,e.seq F,IsL.mono e ds xs J⟩
 |.tuple ds,v,h=>by simp only[Is] at h ⊢;obtain⟨a,xs,q,F,J⟩:=h;exact⟨a,xs,q,e.seqT F,IsL.mono e ds xs J⟩
 |.dict _,_,h=>by simp only[Is] at h
theorem IsL.mono {K:W.Frag}{H H':Hp}(e:Same H H'):∀(ds:List PyData) (vs:List V),IsL K H ds vs->IsL K H' ds vs
 | [],_,h=>by simp only[IsL] at h ⊢;exact h
 |d :: ds,vs,h=>by simp only[IsL] at h ⊢;obtain⟨v,r,q,F,J⟩:=h;exact⟨v,r,q,Is.mono e d v F,IsL.mono e ds r J⟩
end
section
variable {X:Cx}{pins:List (Addr×Obj)}{σ:St}{H:Hp}{s:Shared}
mutual
theorem Is.reads (I:Inv X pins σ H s):∀(d:PyData) (v:V) (u:Value),Is X.K H d v->RelV v u->∃ as,Reads s.heap u d as
 |.none,v,u,i,r=>by
   simp only[Is] at i;subst i
   cases r;exact⟨_,.none⟩
 |.bool b,v,u,i,r=>by
   simp only[Is] at i;subst i
   cases r;exact⟨_,.bool b⟩
 |.int n,v,u,i,r=>by simp only[Is] at i;subst i;obtain⟨t,rfl⟩:=r;exact⟨_,.int n t⟩
 |.str x,v,u,i,r=>by simp only[Is] at i;subst i;obtain⟨t,rfl⟩:=r;exact⟨_,.str x t⟩
 |.list ds,v,u,i,r=>by
   simp only[Is] at i;obtain⟨a,xs,rfl,q,F⟩:=i
   cases r;obtain⟨O,Y,⟨o,n,e,J,hd,Z⟩,_⟩:=I.list q;obtain⟨as,U⟩:=IsL.reads I ds xs O F Y;exact⟨_,.list e J Z (by simpa using U)⟩
 |.tuple ds,v,u,i,r=>by
   simp only[Is] at i;obtain⟨a,xs,rfl,q,F⟩:=i
   cases r;obtain⟨O,Y,⟨o,e,J,n,hd⟩,_⟩:=I.tuple q;obtain⟨as,U⟩:=IsL.reads I ds xs O F Y;exact⟨_,.tuple e J hd (by simpa using U)⟩
 |.dict _,_,_,i,_=>by simp only[Is] at i
theorem IsL.reads (I:Inv X pins σ H s):∀(ds:List PyData) (vs:List V) (us:List Value),IsL X.K H ds vs->Vals vs us->∃ as,ReadsAll s.heap us ds as
 | [],vs,us,i,r=>by
   simp only[IsL] at i;subst i
   cases r;exact⟨_,.nil⟩
 |d :: ds,vs,us,i,r=>by
   simp only[IsL] at i;obtain⟨v,J,rfl,q,F⟩:=i
   cases r with
   |cons r1 r2=>obtain⟨O,h1⟩:=Is.reads I d v _ q r1;obtain⟨U,h2⟩:=IsL.reads I ds J _ F r2;exact⟨_,.cons h1 h2⟩
end
end
theorem a54 {K:W.Frag}{H:Hp}:∀ ns:List Int,IsL K H (ns.map PyData.int) (ns.map V.int)
 | []=>by simp only[List.map_nil,IsL]
 |n :: r=>by simp only[List.map_cons,IsL];exact⟨_,_,rfl,by simp only[Is],a54 r⟩
theorem Ov {K:W.Frag}{H:Hp}:∀ ns:List Str,IsL K H (ns.map PyData.str) (ns.map V.str)
 | []=>by simp only[List.map_nil,IsL]
 |n :: r=>by simp only[List.map_cons,IsL];exact⟨_,_,rfl,by simp only[Is],Ov r⟩
theorem Y4 {K:W.Frag}{H:Hp}{a:Addr}{ns:List Int}(h:SqL K H a (ns.map V.int)):Is K H (.list (ns.map PyData.int)) (.ref a):=by simp only[Is];exact⟨a,_,rfl,h,a54 ns⟩
structure QA (A:Around):Prop where
 un:A.units+150<cLine
 gd:A.guards=some []
theorem Bi {A:Around}{k:Nat}(q:Room k A):QA A:=⟨by have:=q.un;omega,q.gd⟩
section
variable {X:Cx}
def Wr (K:W.Frag):R2:=λx y H Q=>(∃ i j,x = .int i/\y = .int j/\Q (.int (i+j)) H)\/(∃ i j,x = .str i/\y = .str j/\i.length+j.length<=sizeLine/\Q (.str (i++j)) H)\/aU5 x y H Q\/aG8 K x y H Q\/aM4 K x y H Q
theorem az2:OpR X (binaryOp .Add) (Wr X.K):=op_add.or (op_add_str.or (op_cat.or (op_catT.or av8)))
def al3:R2:=λx y H Q=>(∃ i j,x = .int i/\y = .int j/\CMul i j/\Q (.int (i*j)) H)\/aU9 x y H Q
theorem op_mulA:OpR X (binaryOp .Mult) al3:=op_mul.or aE5
theorem Na:OpR X (binaryOp .FloorDiv) (rI aT4 λi j=>.int (i / j)):=aA3
def aQ2 (K:W.Frag)(q:Bool):R2:=λx y H Q=>∃ dx dy,Is K H dx x/\Is K H dy y/\SeqAt.shaped dx=true/\SeqAt.shaped dy=true/\Q (.bl (if q then !PyData.eqv dx dy else PyData.eqv dx dy)) H
theorem aL2 (F:QA X.A):OpR X (compareOp .Eq) (aQ2 X.K false):=by intro pins s σ H x y v u Q I Z ry h;obtain⟨dx,dy,J,O,sx,sy,q⟩:=h;obtain⟨as,U⟩:=Is.reads I dx x v J Z;obtain⟨bs,Y⟩:=Is.reads I dy y u O ry;exact eq_dataH U Y sx sy (by have:=F.un;omega) ⟨.bl _,H,I,rfl,q⟩
theorem aG1 (F:QA X.A):OpR X (compareOp .NotEq) (aQ2 X.K true):=by intro pins s σ H x y v u Q I Z ry h;obtain⟨dx,dy,J,O,sx,sy,q⟩:=h;obtain⟨as,U⟩:=Is.reads I dx x v J Z;obtain⟨bs,Y⟩:=Is.reads I dy y u O ry;exact ne_dataH U Y sx sy (by have:=F.un;omega) ⟨.bl _,H,I,rfl,q⟩
def aQ3 (K:W.Frag):R2:=λx y H Q=>rEq x y H Q\/aQ2 K false x y H Q
def aQ4 (K:W.Frag):R2:=λx y H Q=>rNe x y H Q\/aQ2 K true x y H Q
theorem aN5 (q:QA X.A):OpR X (compareOp .Eq) (aQ3 X.K):=op_eq.or (aL2 q)
theorem aN9 (q:QA X.A):OpR X (compareOp .NotEq) (aQ4 X.K):=op_ne.or (aG1 q)
def rInT (q:Bool):R2:=λx y H Q=>∃ i j,x = .str i/\y = .str j/\Q (.bl (if q then !(!(Builtin.Str.occurrences j i 0 j.length 1).isEmpty) else !(Builtin.Str.occurrences j i 0 j.length 1).isEmpty)) H
def aS3 (q:Bool):R2:=λx y H Q=>∃ a o,y = .ref a/\DGet H a x o/\Q (.bl (if q then !o.isSome else o.isSome)) H
theorem aG5 (hu:X.A.units+1<cLine):OpR X (compareOp .In) (aS3 false):=by
 intro pins s σ H x y v u Q I J O h;obtain⟨a,o,rfl,g,q⟩:=h
 cases O;exact d_in hu I g J λs' F=>⟨.bl _,H,F,rfl,q⟩
theorem aa7 (hu:X.A.units+1<cLine):OpR X (compareOp .NotIn) (aS3 true):=by
 intro pins s σ H x y v u Q I J O h;obtain⟨a,o,rfl,g,q⟩:=h
 cases O;exact az3 hu I g J λs' F=>⟨.bl _,H,F,rfl,q⟩
def aT8 (K:W.Frag)(q:Bool):R2:=λx y H Q=>∃ d ds,Is K H d x/\(Is K H (.list ds) y\/Is K H (.tuple ds) y)/\PyData.canLayAll0 ds=true/\d.canLay0=true/\d.depth<=100/\Q (.bl (if q then !(ds.any λe=>PyData.eqv e d) else ds.any λe=>PyData.eqv e d)) H
theorem aI2 (O:QA X.A):OpR X (compareOp .In) (aT8 X.K false):=by
 intro pins s σ H x y v u Q I rx Y h;obtain⟨d,ds,Z,F,h1,h2,h3,q⟩:=h;obtain⟨bs,U⟩:=Is.reads I d x v Z rx;rcases F with F|F
 . obtain⟨as,J⟩:=Is.reads I _ y u F Y;exact SeqAt.in_list_reads J U h1 h2 (by have:=O.un;have:=A3Y (PyData.depthAll ds) d.depth;omega) ⟨.bl _,H,I,rfl,q⟩
 obtain⟨as,J⟩:=Is.reads I _ y u F Y;exact SeqAt.in_tuple_reads J U h1 h2 (by have:=O.un;have:=A3Y (PyData.depthAll ds) d.depth;omega) ⟨.bl _,H,I,rfl,q⟩
theorem a68 (O:QA X.A):OpR X (compareOp .NotIn) (aT8 X.K true):=by
 intro pins s σ H x y v u Q I rx Y h;obtain⟨d,ds,Z,F,h1,h2,h3,q⟩:=h;obtain⟨bs,U⟩:=Is.reads I d x v Z rx;rcases F with F|F
 . obtain⟨as,J⟩:=Is.reads I _ y u F Y;exact SeqAt.notIn_list_reads J U h1 h2 (by have:=O.un;have:=A3Y (PyData.depthAll ds) d.depth;omega) ⟨.bl _,H,I,rfl,q⟩
 obtain⟨as,J⟩:=Is.reads I _ y u F Y;exact SeqAt.notIn_tuple_reads J U h1 h2 (by have:=O.un;have:=A3Y (PyData.depthAll ds) d.depth;omega) ⟨.bl _,H,I,rfl,q⟩
def Xr (K:W.Frag)(q:Bool):R2:=λx y H Q=>rIn K q x y H Q\/rInT q x y H Q\/aS3 q x y H Q\/aT8 K q x y H Q
theorem QA.hu {A:Around}(h:QA A):A.units+1<cLine:=by have:=h.un;omega
theorem aP9 (q:QA X.A):OpR X (compareOp .In) (Xr X.K false):=op_in_seq.or (op_in_str.or ((aG5 q.hu).or (aI2 q)))
theorem ac6 (q:QA X.A):OpR X (compareOp .NotIn) (Xr X.K true):=op_notIn_seq.or (op_notIn_str.or ((aa7 q.hu).or (a68 q)))
def aD8 (K:W.Frag):V->Option Int->Option Int->Hp->VK->Prop:=λx lo hi H Q=>aV4 K x lo hi H Q\/aV7 K x lo hi H Q\/aW1 x lo hi H Q\/aV8 K x lo hi H Q
theorem sl_A:SlR X (aD8 X.K):=sl_list.or (sl_tup.or (sl_str.or an0))
def aV5:R2:=λx y H Q=>∃ a v,x = .ref a/\DGet H a y (some v)/\Q v H
theorem at8 (hu:X.A.units+1<cLine):IxR X aV5:=by
 intro value a0 pins s σ H x y v u Q I Y Z h O;obtain⟨a,z,rfl,g,q⟩:=h
 cases Y;exact tail_any (Wu I g) PySem.F.slot_dict_getitem.lookup (Zy hu I g Z λw' s' J U=>⟨z,H,J,U,q⟩) O
def Qf (K:W.Frag):R2:=λx y H Q=>rIx K x y H Q\/aV5 x y H Q
theorem aM2 (hu:X.A.units+1<cLine):IxR X (Qf X.K):=ix_seq.or (at8 hu)
def Yz (K:W.Frag):List V->Hp->VK->Prop:=λxs H Q=>(∃ x n,xs=[x]/\aV6 K x H n/\Q (.int n) H)\/∃ a kvs,xs=[V.ref a]/\H a=some (.dK kvs)/\Q (.int kvs.length) H
theorem aa0:CallR X (.builtin "len") (Yz X.K):=call_len.or a65
def Sg (K:W.Frag):List V->Hp->VK->Prop:=λxs H Q=>(∃ x c t b,xs=[x,.ty c]/\TyOf K H x t/\W.kitOne K t (.type c)=some b/\Q (.bl b) H)\/(∃ x c t b,xs=[x,.ref c]/\TyOf K H x t/\W.kitOne K t (.ref c)=some b/\Q (.bl b) H)\/∃ a ys c b,xs=[V.ref a,.ty c]/\((SqT K H a ys/\W.kitOne K (.type "tuple") (.type c)=some b)\/(SqL K H a ys/\W.kitOne K (.type "list") (.type c)=some b))/\Q (.bl b) H
theorem Tu:CallR X (.builtin "isinstance") (Sg X.K):=call_isinst.or (call_isinstR.or Vt)
def Yd (K:W.Frag):List V->Hp->VK->Prop:=λxs H Q=>∃ p ys,xs=[.ref p]/\(SqL K H p ys\/SqT K H p ys)/\∀ l,H l=none->Q (.ref l) (upd H l (.lst ys))
theorem Ym:CallR X (.type "list") (Yd X.K):=T3
def Ng (K:W.Frag):List V->Hp->VK->Prop:=λxs H Q=>∃ p ys,xs=[.ref p]/\((SqL K H p ys/\∀ l,H l=none->Q (.ref l) (upd H l (.tup ys)))\/(SqT K H p ys/\Q (.ref p) H))
theorem W0:CallR X (.type "tuple") (Ng X.K):=Sy
def aG9:List V->Hp->VK->Prop:=λxs H Q=>(∃ b,xs=[.bl b]/\Q (.str (if b then "True" else "False")) H)\/(xs=[.non]/\Q (.str "None") H)
theorem Qy:CallR X (.builtin "repr") aG9:=Z2
def aP1:List V->Hp->VK->Prop:=λxs H Q=>(∃ i,xs=[.int i]/\Q (.int i) H)\/∃ k,xs=[.bl k]/\Q (.int (if k then 1 else 0)) H
theorem Vy:CallR X (.type "int") aP1:=ae3
def aw5 (K:W.Frag):List V->Hp->VK->Prop:=λxs H Q=>∃(a:Addr) (bs:List Bool),xs=[.ref a]/\SqL K H a (bs.map V.bl)/\Q (.bl (bs.any id)) H
theorem af7 (q:X.calm=true):CallR X (.builtin "any") (aw5 X.K):=aj1 q
variable {tg:Expr}
def Fy (K:W.Frag)(x:V)(H1:Hp)(R:It->Hp->Prop):Prop:=(∃ a,x = .ref a/\(∃ xs,SqL K H1 a xs)/\R (Itl K a) H1)\/(∃ a,x = .ref a/\(∃ xs,SqT K H1 a xs)/\R (Itt K a) H1)\/(∃ z,x = .str z/\R (Its z) H1)\/∃ a kvs,x = .ref a/\((H1 a=some (.dK kvs)/\∀ o,R (Itd a o kvs) (upd H1 a (.frz o (.dK kvs))))\/∃ o,H1 a=some (.frz o (.dK kvs))/\R (Itd a o kvs) H1)
def aT0 (K:W.Frag)(tl:TE):TI:=fun σ H R=>tl σ H λx H1=>Fy K x H1 R
theorem aO8 (hu:X.A.units+1<cLine){l:Expr}{tl:TE}(Z:PE X l tl):PI X tg l (aT0 X.K tl):=by
 intro pins s σ H R I h;refine thn (Z pins s σ H _ I h) λv J ⟨x,H1,F,O,q1⟩=>?_;rcases q1 with ⟨a,e,⟨xs,U⟩,q⟩|⟨a,e,⟨xs,U⟩,q⟩|⟨z,e,q⟩|⟨a,kvs,e,q⟩
 . subst e
   cases O;obtain⟨Y,rv,p,hz⟩:=F.list U;refine A3S p.isList ?_;refine⟨J.heap.objs.size,[J.heap.objs.size],_,_,H1,rfl,F.kept (t':=J.toks) λb o e=>A02 _ e,aa9 a _,⟨_,A0I _ rfl,rfl,rfl⟩,λb hb=>?_,q⟩;have e:b=J.heap.objs.size:=by simpa using hb
   subst e;exact F.fpOk (A08 _) (F.hok.fresh (A08 _))
 . subst e
   cases O;obtain⟨Y,rv,p,hz⟩:=F.tuple U;refine A3J (show J.heap.IsTuple a Y.toArray from p) ?_;refine⟨J.heap.objs.size,[J.heap.objs.size],_,_,H1,rfl,F.kept (t':=J.toks) λb o e=>A02 _ e,Zd a _,⟨_,A0I _ rfl,rfl,rfl⟩,λb hb=>?_,q⟩;have e:b=J.heap.objs.size:=by simpa using hb
   subst e;exact F.fpOk (A08 _) (F.hok.fresh (A08 _))
 . subst e;exact aF8 F O q
 subst e
 cases O;rcases q with ⟨hd,q⟩|⟨o,hd,q⟩
 . exact aB4 F hd q
 exact an7 F hd q
end
def Fnd (P:Program)(w:World)(K:W.Frag)(mg:Str->Option Value)(base:Heap)(k:Nat)(x:Str)(ps:List Str)(sp:Sp):Prop:=
 ∃ f fd,FnOk P w K mg base CX0 k f fd ps sp/\mg x=some (.ref f)/\W.keepIn K (.ref f)=true/\Binds K fd ps []
section
variable {X:Cx}{k:Nat}{x:Str}{ps:List Str}{sp:Sp}{e:Expr}{es:List Expr}{t:TA}{p pos:Pos}
theorem Aq (F:Fnd X.prog X.w X.K X.mg X.base k x ps sp)(Z:Room k X.A)(U:Gl X x)(ha:PA X (e :: es) t)(O:(x==("__debug__":Str))=false:=by decide)
  (he:starEach (e :: es) X.env=(false,eval e X.env) :: starEach es X.env:=by ac_nf) (Y:(backTo pos (starEach es X.env)).any (·.1)=false:=by ac_nf):PE X (.Call (.Name x p) (e :: es) [] pos) (az4 sp [] E0 t):=by
 obtain⟨f,fd,h1,h2,q,J⟩:=F;exact au9 h1 Z U h2 q J .nil aC2 ha O he Y
end
def ExtBut (d:Addr)(H H':Hp):Prop:=∀ b o,b≠d->H b=some o->H' b=some o
theorem Same.lk {H H':Hp}{a:Addr}{o:HO}(e:Same H H')(h:H a=some o):H' a=some o:=e a o h
theorem ExtBut.lk {d:Addr}{H H':Hp}{a:Addr}{o:HO}(e:ExtBut d H H')(h:H a=some o)(n:a≠d):H' a=some o:=e a o n h
theorem Same.upd {H:Hp}{p:Addr}{o:HO}(h:H p=none):Same H (upd H p o):=λb u e=>by rw[At (ne_of_none e h)];exact e
theorem ExtBut.upd {H:Hp}{p:Addr}{o:HO}:ExtBut p H (upd H p o):=λb u n e=>by rw[At n];exact e
theorem Same.but {d:Addr}{H H':Hp}(e:Same H H'):ExtBut d H H':=λb o _ h=>e b o h
theorem ExtBut.trans {d:Addr}{H H1 H2:Hp}(a:ExtBut d H H1)(b:ExtBut d H1 H2):ExtBut d H H2:=λc o n h=>b c o n (a c o n h)
theorem ExtBut.same {d:Addr}{H H1 H2:Hp}(a:ExtBut d H H1)(b:Same H1 H2):ExtBut d H H2:=λc o n h=>b c o (a c o n h)
theorem ExtBut.after {d:Addr}{H H1 H2:Hp}(a:Same H H1)(b:ExtBut d H1 H2):ExtBut d H H2:=λc o n h=>b c o n (a c o h)
theorem ExtBut.refl {d:Addr}{H:Hp}:ExtBut d H H:=λ_ _ _ h=>h
def aO5 (xs:List V)(H:Hp)(Q:VK):Prop:=xs.length<=sizeLine/\∀ p,H p=none->Q (.ref p) (upd H p (.tup xs))
def aK5 (xs:List V)(H:Hp)(Q:VK):Prop:=xs.length<=sizeLine/\∀ p,H p=none->Q (.ref p) (upd H p (.lst xs))
def aP0 (vs:List V)(H:Hp)(R:It->Hp->Prop):Prop:=∃ j:Int,vs=[.int j] /\ -(2 ^ 62)<=j/\j<2 ^ 62/\R (Itr 0 j.toNat) H
def aH9 (vs:List V)(H:Hp)(R:It->Hp->Prop):Prop:=∃ i j:Int,vs=[.int i,.int j]/\(-(2 ^ 62)<=i/\i<2 ^ 62 /\ -(2 ^ 62)<=j/\j<2 ^ 62)/\R (Itr i (j-i).toNat) H
def an8 (g:TG)(tb:TS)(D:Ph)(σ:St)(J:It)(H1:Hp):Prop:=∃ W:Nat->Nat->St->Hp->Prop,(∃ m,W 0 m σ H1)/\∀ i m σ H,W i m σ H ->
 (J.stop i H/\D.nx σ H)\/(J.go i H/\∃ N:St->Hp->Prop,(∀ σ' H',N σ' H'->∃ q,q<m/\W (i+1) q σ' H')/\∀ x H',J.yld i H x H'->g x σ H' fun σ2 H2=>tb {D with nx:=N,ct:=N,bk:=D.nx} σ2 H2)
def Ni (k:Nat)(js:List Nat)(g:TG)(tt:TT)(te:TE)(σ:St)(J:It)(H1:Hp)(Q:VK):Prop:=∀ p,H1 p=none ->
 ∃ W:Nat->Nat->Hp->Prop,(∃ m,W 0 m (upd H1 p (.lst [])))/\∀ i m H,W i m H ->
  (J.stop i H/\Q (.ref p) H)\/(J.go i H/\∃ N:Hp->Prop,(∀ H',N H'->∃ O,O<m/\W (i+1) O H') /\
   ∀ x H',J.yld i H x H'->g x (List.replicate k none++Po σ js) H' fun σ2 H2=>tt σ2 H2 λb q=>if b=true then te σ2 q λy F=>∃ acc,F p=some (.lst acc)/\acc.length<sizeLine/\N (upd F p (.lst (acc++[y]))) else N q)
def aq7 (p:Addr)(ps:List (V×V))(H:Hp)(Q:VK):Prop:=H p=some (.dK [])/\∃ kvs:List (Key×V),ps=kvs.map (λkv=>(kV kv.1,kv.2))/\kvs.length<=15/\Q (.ref p) (upd H p (.dK (Gm [] kvs)))
section
variable {K:W.Frag}{σ:St}{H:Hp}{Q:VK}{D:Ph}{ta tb te:TE}{c:TT}{t u:TS}{x y v:V}{i j:Int}
theorem i_var {n:Nat}(h:σ[n]? = some (some v))(k:Q v H):aS8 n σ H Q:=⟨v,h,k⟩
theorem i_c (k:Q v H):tC v σ H Q:=k
theorem i_next (k:D.nx σ H):aL4 D σ H:=k
theorem i_ret (k:te σ H D.rt):aW0 te D σ H:=k
theorem i_drop (k:te σ H λ_ H1=>D.nx σ H1):aG0 te D σ H:=k
theorem i_asg {g:TG}(k:te σ H λx H1=>g x σ H1 D.nx):aD6 te g D σ H:=k
theorem i_gname {n:Nat}{R:St->Hp->Prop}(k:R (σ.set n (some v)) H):Kl n v σ H R:=k
theorem i_if (k:c σ H λb H1=>if b=true then t D σ H1 else u D σ H1):aU6 c t u D σ H:=k
theorem i_op {r:R2}(k:ta σ H λx H1=>tb σ H1 λy H2=>r x y H2 Q):tOp r ta tb σ H Q:=k
theorem i_un {r:V->Hp->VK->Prop}(k:ta σ H λx H1=>r x H1 Q):tUn r ta σ H Q:=k
theorem i_rU {g:Int->V}(k:Q (g i) H):rU g (.int i) H Q:=⟨i,rfl,k⟩
theorem i_rI0 {g:Int->Int->V}(k:Q (g i j) H):rI0 g (.int i) (.int j) H Q:=⟨i,j,rfl,rfl,k⟩
theorem i_rI {C:Int->Int->Prop}{g:Int->Int->V}(h:C i j)(k:Q (g i j) H):rI C g (.int i) (.int j) H Q:=⟨i,j,rfl,rfl,h,k⟩
theorem i_addI (k:Q (.int (i+j)) H):Wr K (.int i) (.int j) H Q:=.inl ⟨i,j,rfl,rfl,k⟩
theorem i_addS {a b:Str}(h:a.length+b.length<=sizeLine)(k:Q (.str (a++b)) H):Wr K (.str a) (.str b) H Q:=.inr (.inl ⟨a,b,rfl,rfl,h,k⟩)
theorem Vk {a b:Addr}{xs ys:List V}(h1:H a=some (.lst xs))(h2:H b=some (.lst ys))(h:xs.length+ys.length<=sizeLine)(k:∀ p H',H p=none->Same H H'->H' p=some (.lst (xs++ys))->Q (.ref p) H'):Wr K (.ref a) (.ref b) H Q:=
 .inr (.inr (.inl ⟨a,b,xs,ys,rfl,rfl,h1,h2,h,λp hp=>k p _ hp (Same.upd hp) Ae⟩))
theorem aN7 (h:CMul i j)(k:Q (.int (i*j)) H):al3 (.int i) (.int j) H Q:=.inl ⟨i,j,rfl,rfl,h,k⟩
theorem aH3 {a:Addr}{xs:List V}(h1:H a=some (.lst xs))(h2:-(2 ^ 63)<=i/\i<2 ^ 63)(q:xs.length*i.toNat<=sizeLine)(k:∀ p H',H p=none->Same H H'->H' p=some (.lst (List.replicate i.toNat xs).flatten)->Q (.ref p) H'):al3 (.ref a) (.int i) H Q:=
 .inr ⟨a,i,xs,rfl,rfl,h1,h2.1,h2.2,q,λp hp=>k p _ hp (Same.upd hp) Ae⟩
theorem i_eqS (h:aQ6 x y=true)(k:Q (.bl (decide (x=y))) H):aQ3 K x y H Q:=.inl ⟨h,k⟩
theorem i_neS (h:aQ6 x y=true)(k:Q (.bl (!decide (x=y))) H):aQ4 K x y H Q:=.inl ⟨h,k⟩
theorem aA1 {dx dy:PyData}(h1:Is K H dx x)(h2:Is K H dy y)(q:SeqAt.shaped dx=true)(F:SeqAt.shaped dy=true)(k:Q (.bl (PyData.eqv dx dy)) H):aQ3 K x y H Q:=.inr ⟨dx,dy,h1,h2,q,F,k⟩
theorem aT3 {dx dy:PyData}(h1:Is K H dx x)(h2:Is K H dy y)(q:SeqAt.shaped dx=true)(F:SeqAt.shaped dy=true)(k:Q (.bl (!PyData.eqv dx dy)) H):aQ4 K x y H Q:=.inr ⟨dx,dy,h1,h2,q,F,k⟩
theorem i_true {R:Bool->Hp->Prop}(k:R true H):ax7 σ H R:=k
theorem i_tTest {R:Bool->Hp->Prop}(k:te σ H λx H'=>∃ b,x = .bl b/\R b H'):aL1 te σ H R:=k
theorem i_tB {R:Bool->Hp->Prop}(k:te σ H λx H'=>∃ b,x = .bl b/\R b H'):tB te σ H R:=k
theorem i_bl {b:Bool}{R:Bool->Prop}(k:R b):∃ c,V.bl b = .bl c/\R c:=⟨b,rfl,k⟩
theorem i_not {R:Bool->Hp->Prop}(k:c σ H λb H1=>R (!b) H1):aV9 c σ H R:=k
theorem i_and {q:TT}{R:Bool->Hp->Prop}(k:c σ H λb H1=>if b=true then q σ H1 R else R false H1):aV3 c q σ H R:=k
theorem i_or {q:TT}{R:Bool->Hp->Prop}(k:c σ H λb H1=>if b=true then R true H1 else q σ H1 R):tOr c q σ H R:=k
theorem Ln {a:Addr}{xs:List V}(h:H a=some (.lst xs))(e:atI xs i=some v)(k:Q v H):Qf K (.ref a) (.int i) H Q:=.inl (.inl ⟨a,xs,i,v,rfl,rfl,SqL.of h,e,k⟩)
theorem at1 {z:Str}{s:Nat}(h:z.length<=sizeLine)(e:atI z.cps.toList i=some s)(k:Q (.str ⟨#[s]⟩) H):Qf K (.str z) (.int i) H Q:=.inl (.inr (.inr ⟨z,i,s,rfl,rfl,h,e,k⟩))
theorem i_ixD {a:Addr}{kvs:List (Key×V)}{z:Str}(h:H a=some (.dK kvs))(e:Cj kvs (Sum.inr z:Key)=some v)(k:Q v H):Qf K (.ref a) (.str z) H Q:=.inr ⟨a,v,rfl,by rw[<- e];exact DGet.k (k:=Sum.inr z) h,k⟩
theorem i_lenL {a:Addr}{xs:List V}(h:H a=some (.lst xs))(k:Q (.int xs.length) H):Yz K [.ref a] H Q:=.inl ⟨.ref a,_,rfl,.inl ⟨xs,SqL.of h,rfl⟩,k⟩
theorem aL6 {c:String}{t:Value}{b:Bool}(h:TyOf K H x t)(e:W.kitOne K t (.type c)=some b)(k:Q (.bl b) H):Sg K [x,.ty c] H Q:=.inl ⟨x,c,t,b,rfl,h,e,k⟩
theorem aa6 {c:String}{b:Bool}{a:Addr}{ys:List V}(h:SqT K H a ys)(e:W.kitOne K (.type "tuple") (.type c)=some b)(k:Q (.bl b) H):Sg K [.ref a,.ty c] H Q:=.inr (.inr ⟨a,ys,c,b,rfl,.inl ⟨h,e⟩,k⟩)
theorem aA2 {a:Addr}{xs:List V}(h:SqL K H a xs)(k:∀ p H',H p=none->Same H H'->H' p=some (.lst xs)->Q (.ref p) H'):Yd K [.ref a] H Q:=⟨a,xs,rfl,.inl h,λp hp=>k p _ hp (Same.upd hp) Ae⟩
theorem Mv {a:Addr}{xs:List V}(h:SqL K H a xs)(k:∀ p H',H p=none->Same H H'->H' p=some (.tup xs)->Q (.ref p) H'):Ng K [.ref a] H Q:=⟨a,xs,rfl,.inl ⟨h,λp hp=>k p _ hp (Same.upd hp) Ae⟩⟩
theorem i_intB {b:Bool}(k:Q (.int (if b then 1 else 0)) H):aP1 [.bl b] H Q:=.inr ⟨b,rfl,k⟩
theorem aU1 {a:Addr}{bs:List Bool}(h:SqL K H a (bs.map V.bl))(k:Q (.bl (bs.any id)) H):aw5 K [.ref a] H Q:=⟨a,bs,rfl,h,k⟩
theorem i_sl {r:V->Option Int->Option Int->Hp->VK->Prop}{tl th:TO}(k:te σ H λx H1=>tl σ H1 λl H2=>th σ H2 λu q=>r x l u q Q):tSl r te tl th σ H Q:=k
theorem i_noPart {R:Option Int->Hp->Prop}(k:R none H):ac5 σ H R:=k
theorem i_part {R:Option Int->Hp->Prop}(k:te σ H λx H1=>∃ i,x = .int i/\R (some i) H1):aG7 te σ H R:=k
theorem i_int {R:Int->Prop}(k:R i):∃ j,V.int i = .int j/\R j:=⟨i,rfl,k⟩
theorem i_slS {z:Str}{lo hi:Option Int}(h:z.length<=sizeLine)(k:Q (.str (Txt.slice z lo hi)) H):aD8 K (.str z) lo hi H Q:=.inr (.inr (.inl ⟨z,rfl,h,k⟩))
theorem Mn {a:Addr}{xs:List V}{lo hi:Option Int}(h:SqL K H a xs)(k:∀ p H',H p=none->Same H H'->H' p=some (.lst (Pr xs lo hi))->Q (.ref p) H'):aD8 K (.ref a) lo hi H Q:=.inl ⟨a,xs,rfl,h,λp hp=>k p _ hp (Same.upd hp) Ae⟩
theorem i_bm {T:String}{r:V->List V->Hp->VK->Prop}{q:TA}(k:te σ H λx H1=>tyV K T x H1/\q σ H1 λxs H2=>r x xs H2 Q):tBM K T r te q σ H Q:=k
theorem i_bm0 {T:String}{r:V->List V->Hp->VK->Prop}(k:te σ H λx H1=>tyV K T x H1/\r x [] H1 Q):aR9 K T r te σ H Q:=k
theorem i_call {sp:Sp}{E:XK}{q:TA}(k:q σ H λvs H1=>sp (vs++[]) H1 Q E):az4 sp [] E q σ H Q:=k
theorem i_cb {r:List V->Hp->VK->Prop}{q:TA}(k:q σ H λvs H1=>r vs H1 Q):tCB r q σ H Q:=k
theorem i_cons {q:TA}{R:List V->Hp->Prop}(k:ta σ H λx H1=>q σ H1 λxs H2=>R (x :: xs) H2):Zp ta q σ H R:=k
theorem i_nil {R:List V->Hp->Prop}(k:R [] H):aE3 σ H R:=k
theorem i_tup {q:TA}(k:q σ H λxs H1=>aO5 xs H1 Q):aV0 q σ H Q:=k
theorem i_lst {q:TA}(k:q σ H λxs H1=>aK5 xs H1 Q):aU7 q σ H Q:=k
theorem B5 {xs:List V}(h:xs.length<=sizeLine)(k:∀ p H',H p=none->Same H H'->H' p=some (.tup xs)->Q (.ref p) H'):aO5 xs H Q:=⟨h,λp hp=>k p _ hp (Same.upd hp) Ae⟩
theorem Ch {xs:List V}(h:xs.length<=sizeLine)(k:∀ p H',H p=none->Same H H'->H' p=some (.lst xs)->Q (.ref p) H'):aK5 xs H Q:=⟨h,λp hp=>k p _ hp (Same.upd hp) Ae⟩
theorem Yh (k:∀ p H',H p=none->Same H H'->H' p=some (.dK [])->Q (.ref p) H'):as5 σ H Q:=λp hp=>k p _ hp (Same.upd hp) Ae
theorem i_put {td ty tv:TE}(k:tv σ H λv H1=>td σ H1 λx H2=>ty σ H2 λy F=>∃ a q,x = .ref a/\DPut F a y v q/\D.nx σ q):aJ8 td ty tv D σ H:=k
theorem Iw {a:Addr}{kvs:List (Key×V)}{z:Str}{R:Hp->Prop}(h:H a=some (.dK kvs))(F:kvs.length<1000)(k:∀ H',ExtBut a H H'->H' a=some (.dK (G3 kvs (Sum.inr z) v))->R H'):∃ b q,V.ref a = .ref b/\DPut H b (.str z) v q/\R q:=
 ⟨a,_,rfl,DPut.k (k:=Sum.inr z) h (ah6 (A2E F)),k _ ExtBut.upd Ae⟩
theorem i_for {q:TI}{g:TG}{tb:TS}(k:q σ H λJ H1=>an8 g tb D σ J H1):aV1 q g tb D σ H:=k
theorem i_comp {m:Nat}{js:List Nat}{q:TI}{g:TG}{tt:TT}(k:q σ H λJ H1=>Ni m js g tt te σ J H1 Q):aC3 m js q g tt te σ H Q:=k
theorem Ju {a:Addr}{xs:List V}{R:It->Hp->Prop}(h:SqL K H a xs)(k:R (Itl K a) H):Fy K (.ref a) H R:=.inl ⟨a,rfl,⟨xs,h⟩,k⟩
theorem Wi {a:Addr}{xs:List V}{R:It->Hp->Prop}(h:SqT K H a xs)(k:R (Itt K a) H):Fy K (.ref a) H R:=.inr (.inl ⟨a,rfl,⟨xs,h⟩,k⟩)
theorem aR3 {a:Addr}{kvs:List (Key×V)}{R:It->Hp->Prop}(h:H a=some (.dK kvs))(k:∀ o,R (Itd a o kvs) (upd H a (.frz o (.dK kvs)))):Fy K (.ref a) H R:=.inr (.inr (.inr ⟨a,kvs,rfl,.inl ⟨h,k⟩⟩))
theorem aS2 {a:Addr}{kvs:List (Key×V)}{o:Obj}{R:It->Hp->Prop}(h:H a=some (.frz o (.dK kvs)))(k:R (Itd a o kvs) H):Fy K (.ref a) H R:=.inr (.inr (.inr ⟨a,kvs,rfl,.inr ⟨o,h,k⟩⟩))
theorem i_rng1 {q:TA}{R:It->Hp->Prop}(k:q σ H λvs H1=>aP0 vs H1 R):aI5 q σ H R:=k
theorem L6 {R:It->Hp->Prop}(h:-(2 ^ 62)<=i/\i<2 ^ 62)(k:R (Itr 0 i.toNat) H):aP0 [V.int i] H R:=⟨i,rfl,h.1,h.2,k⟩
theorem i_rng2 {q:TA}{R:It->Hp->Prop}(k:q σ H λvs H1=>aH9 vs H1 R):aO7 q σ H R:=k
theorem aL8 {R:It->Hp->Prop}(h:(-(2 ^ 62)<=i/\i<2 ^ 62) /\ -(2 ^ 62)<=j/\j<2 ^ 62)(k:R (Itr i (j-i).toNat) H):aH9 [V.int i,V.int j] H R:=⟨i,j,rfl,⟨h.1.1,h.1.2,h.2.1,h.2.2⟩,k⟩
theorem i_iany {R:It->Hp->Prop}(k:te σ H λx H1=>Fy K x H1 R):aT0 K te σ H R:=k
theorem Xe {q:List (TE×TE)}(k:∀ p H1,H p=none->Same H H1->H1 p=some (.dK [])->Oo q σ H1 λps H2=>aq7 p ps H2 Q):aJ0 q σ H Q:=λp hp=>k p _ hp (Same.upd hp) Ae
theorem i_pair {tk tv:TE}{r:List (TE×TE)}{R:List (V×V)->Hp->Prop}(k:tk σ H λx H1=>tv σ H1 λy H2=>Oo r σ H2 λps q=>R ((x,y) :: ps) q):Oo ((tk,tv) :: r) σ H R:=k
theorem Rx {p:Addr}{ps:List (V×V)}(kvs:List (Key×V))(h:H p=some (.dK []))(e:ps=kvs.map (λkv=>(kV kv.1,kv.2)))(q:kvs.length<=15)(k:∀ H',ExtBut p H H'->H' p=some (.dK (Gm [] kvs))->Q (.ref p) H'):aq7 p ps H Q:=⟨h,kvs,e,q,k _ ExtBut.upd Ae⟩
theorem i_pair0 {R:List (V×V)->Hp->Prop}(k:R [] H):Oo [] σ H R:=k
end
theorem Km {c A B:Prop}[Decidable c](h1:c->A)(h2:¬ c->B):if decide c=true then A else B:=by
 by_cases h:c
 . rw[A0Z (A0Y h)];exact h1 h
 rw[A0Q (by rw[A0N h];exact A0J)];exact h2 h
theorem ax9 {c A B:Prop}[Decidable c](h1:¬ c->A)(h2:c->B):if(!decide c)=true then A else B:=by
 by_cases h:c
 . rw[A0Y h,A0Q nofun];exact h2 h
 rw[A0N h,A0Z nofun];exact h1 h
theorem aJ2 {b:Bool}{A B:Prop}(h1:b=true->A)(h2:b=false->B):if b=true then A else B:=by
 cases b
 . rw[A0Q A0J];exact h2 rfl
 rw[A0Z rfl];exact h1 rfl
theorem Vg {b:Bool}{A B:Prop}(h1:b=false->A)(h2:b=true->B):if(!b)=true then A else B:=by
 cases b
 . exact h1 rfl
 exact h2 rfl
theorem iteNT {A B:Prop}(h:B):if(!true)=true then A else B:=h
theorem Ab {n:Nat}(h:n<=1000000):n<=sizeLine:=by rw[A1I];omega
def Hu (J:It)(xs:List V)(G:Hp->Prop):Prop:=
 ∀ i H,G H->(i<xs.length->J.go i H)/\(xs.length<=i->J.stop i H)/\∀ x H',i<xs.length->J.yld i H x H'->H'=H/\xs[i]? = some x
theorem Bg {K:W.Frag}{a:Addr}{xs:List V}:Hu (Itl K a) xs λH=>SqL K H a xs:=by intro i H g;refine⟨λh=>⟨xs,xs[i],g,A04 h⟩,λh=>⟨xs,g,h⟩,λx H' _ h=>⟨h.1,h.2 xs g⟩⟩
theorem Hz {K:W.Frag}{a:Addr}{xs:List V}:Hu (Itt K a) xs λH=>SqT K H a xs:=by intro i H g;refine⟨λh=>⟨xs,xs[i],g,A04 h⟩,λh=>⟨xs,g,h⟩,λx H' _ h=>⟨h.1,h.2 xs g⟩⟩
theorem Lb {a:Addr}{o:Obj}{kvs:List (Key×V)}:Hu (Itd a o kvs) (kvs.map λkv=>kV kv.1) λH=>H a=some (.frz o (.dK kvs)):=by intro i H g;rw[A01];refine⟨λh=>⟨g,h⟩,λh=>⟨g,h⟩,λx H' _ h=>?_⟩;obtain⟨e,kv,h1,h2⟩:=h;exact⟨e,by rw[A06,h1,h2];rfl⟩
theorem Cd {lo:Int}{n:Nat}:Hu (Itr lo n) ((List.range n).map λ(i:Nat)=>V.int (lo+(i:Int))) λ_=>True:=by
 intro i H _;refine⟨λh=>?_,λh=>?_,λx H' hi h=>?_⟩
 . show i<n;simpa using h
 . show n<=i;simpa using h
 obtain⟨e,F⟩:=h;refine⟨e,?_⟩;have q:i<n:=by simpa using hi
 rw[A06,List.getElem?_range q,F];rfl
theorem am6 {J:It}{xs:List V}{G:Hp->Prop}{g:TG}{tb:TS}{D:Ph}{σ:St}{H:Hp}(Z:Hu J xs G)(Pv:Nat->St->Hp->Prop)(O:Pv 0 σ H)(U:∀ i σ H,Pv i σ H->G H)
  (Y:∀ i x σ H,xs[i]? = some x->Pv i σ H->g x σ H fun σ2 H2=>tb {D with nx:=Pv (i+1),ct:=Pv (i+1),bk:=D.nx} σ2 H2) (hd:∀ σ H,Pv xs.length σ H->D.nx σ H) :
  ∃ W:Nat->Nat->St->Hp->Prop,(∃ m,W 0 m σ H)/\∀ i m σ H,W i m σ H ->
   (J.stop i H/\D.nx σ H)\/(J.go i H/\∃ N:St->Hp->Prop,(∀ σ' H',N σ' H'->∃ F,F<m/\W (i+1) F σ' H')/\∀ x H',J.yld i H x H'->g x σ H' fun σ2 H2=>tb {D with nx:=N,ct:=N,bk:=D.nx} σ2 H2):=by
 refine⟨λi m σ H=>m=xs.length-i/\i<=xs.length/\Pv i σ H,⟨xs.length,by simp,Nat.zero_le _,O⟩,?_⟩;rintro i m σ H ⟨rfl,hi,p⟩;obtain⟨w1,w2,w3⟩:=Z i H (U i σ H p)
 by_cases q:i<xs.length
 . refine .inr ⟨w1 q,Pv (i+1),fun σ' H' p'=>⟨xs.length-(i+1),by omega,rfl,q,p'⟩,λx H' y=>?_⟩;obtain⟨e,hx⟩:=w3 x H' q y;subst e;exact Y i x σ _ hx p
 have e:i=xs.length:=by omega
 subst e;exact .inl ⟨w2 (A08 _),hd σ H p⟩
def CN (p:Addr)(n:Nat)(Pv:Nat->List V->Hp->Prop)(i:Nat):Hp->Prop:=λH'=>i+1<=n/\∃ acc,H' p=some (.lst acc)/\acc.length<=i+1/\Pv (i+1) acc H'
theorem aC7 {p:Addr}{n:Nat}{Pv:Nat->List V->Hp->Prop}{i:Nat}{H:Hp}{acc:List V}{y:V}(hn:n<=1000000)(hi:i<n)(q:acc.length<=i)(e:H p=some (.lst acc))(k:∀ H',ExtBut p H H'->H' p=some (.lst (acc++[y]))->Pv (i+1) (acc++[y]) H') :
  ∃ acc,H p=some (.lst acc)/\acc.length<sizeLine/\CN p n Pv i (upd H p (.lst (acc++[y]))):=
 ⟨acc,e,by rw[A1I];omega,hi,acc++[y],Ae,by rw[A07,A16];omega,k _ ExtBut.upd Ae⟩
theorem So {p:Addr}{n:Nat}{Pv:Nat->List V->Hp->Prop}{i:Nat}{H:Hp}{acc:List V}(hi:i<n)(q:acc.length<=i)(e:H p=some (.lst acc))(k:Pv (i+1) acc H):CN p n Pv i H:=⟨hi,acc,e,by omega,k⟩
theorem Zw {J:It}{xs:List V}{G:Hp->Prop}{g:TG}{tt:TT}{te:TE}{σ:St}{H:Hp}{Q:VK}{p:Addr}{k:Nat}{js:List Nat}(hw:Hu J xs G)(hp:H p=none)(Pv:Nat->List V->Hp->Prop)
  (h0:∀ H',Same H H'->H' p=some (.lst [])->Pv 0 [] H') (hG:∀ i acc H,Pv i acc H->G H)
  (hs:∀ i x acc H,xs[i]? = some x->i<xs.length->acc.length<=i->H p=some (.lst acc)->Pv i acc H->g x (List.replicate k none++Po σ js) H fun σ2 H2=>tt σ2 H2 λb F=>if b=true then te σ2 F λy O=>∃ acc,O p=some (.lst acc)/\acc.length<sizeLine/\CN p xs.length Pv i (upd O p (.lst (acc++[y]))) else CN p xs.length Pv i F)
  (hd:∀ acc H,H p=some (.lst acc)->acc.length<=xs.length->Pv xs.length acc H->Q (.ref p) H) :
  ∃ W:Nat->Nat->Hp->Prop,(∃ m,W 0 m (upd H p (.lst [])))/\∀ i m H,W i m H ->
   (J.stop i H/\Q (.ref p) H)\/(J.go i H/\∃ N:Hp->Prop,(∀ H',N H'->∃ m',m'<m/\W (i+1) m' H') /\
    ∀ x H',J.yld i H x H'->g x (List.replicate k none++Po σ js) H' fun σ2 H2=>tt σ2 H2 λb F=>
     if b=true then te σ2 F λy O=>∃ acc,O p=some (.lst acc)/\acc.length<sizeLine/\N (upd O p (.lst (acc++[y]))) else N F):=by
 refine⟨λi m H=>m=xs.length-i/\i<=xs.length/\∃ acc,H p=some (.lst acc)/\acc.length<=i/\Pv i acc H,⟨xs.length,by simp,Nat.zero_le _,[],Ae,Nat.le_refl _,h0 _ (Same.upd hp) Ae⟩,?_⟩;rintro i m H ⟨rfl,hi,acc,Y,Z,q⟩;obtain⟨w1,w2,w3⟩:=hw i H (hG i acc H q)
 by_cases U:i<xs.length
 . refine .inr ⟨w1 U,CN p xs.length Pv i,λH' ⟨h1,h2⟩=>⟨xs.length-(i+1),by omega,rfl,h1,h2⟩,λx H' y=>?_⟩;obtain⟨e,hx⟩:=w3 x H' U y;subst e;exact hs i x acc _ hx U Z Y q
 have e:i=xs.length:=by omega
 subst e;exact .inl ⟨w2 (A08 _),hd acc H Y Z q⟩
def aH7 (p:Addr)(N:Hp->Prop):VK:=λy q=>∃ acc,q p=some (.lst acc)/\acc.length<sizeLine/\N (upd q p (.lst (acc++[y])))
theorem Ik {J:It}{xs:List V}{G:Hp->Prop}{g:TG}{tt:TT}{te:TE}{σ:St}{H:Hp}{Q:VK}{k:Nat}{js:List Nat}(hw:Hu J xs G)(Pv:Addr->Nat->List V->Hp->Prop)
  (O:∀ p H',H p=none->Same H H'->H' p=some (.lst [])->Pv p 0 [] H') (Z:∀ p i acc H,Pv p i acc H->G H)
  (hs:∀ p i x acc H1,H p=none->xs[i]? = some x->i<xs.length->acc.length<=i->H1 p=some (.lst acc)->Pv p i acc H1->g x (List.replicate k none++Po σ js) H1 fun σ2 H2=>tt σ2 H2 λb F=>if b=true then te σ2 F (aH7 p (CN p xs.length (Pv p) i)) else CN p xs.length (Pv p) i F)
  (hd:∀ p acc H1,H p=none->H1 p=some (.lst acc)->acc.length<=xs.length->Pv p xs.length acc H1->Q (.ref p) H1):Ni k js g tt te σ J H Q:=λp hp=>
 Zw hw hp (Pv p) (λH' e h=>O p H' hp e h) (Z p) (λi x acc H1 h1 h2 q U Y=>hs p i x acc H1 hp h1 h2 q U Y) λacc H1 h1 h2 q=>hd p acc H1 hp h1 h2 q
theorem Lc {p:Addr}{n:Nat}{Pv:Nat->List V->Hp->Prop}{i:Nat}{H:Hp}{acc:List V}{y:V}(hn:n<=1000000)(hi:i<n)(q:acc.length<=i)(e:H p=some (.lst acc))(k:∀ H',ExtBut p H H'->H' p=some (.lst (acc++[y]))->Pv (i+1) (acc++[y]) H') :
  aH7 p (CN p n Pv i) y H:=aC7 hn hi q e k
theorem ag4 {J:It}{xs:List V}{G:Hp->Prop}{g:TG}{tt:TT}{te:TE}{σ:St}{H:Hp}{Q:VK}{k:Nat}{js:List Nat}(hw:Hu J xs G)(t:V->Bool)(f:V->V)(hz:xs.length<=1000000)(hG:∀ H',Same H H'->G H')
  (hs:∀(i:Nat) x H1 (R:VK) (R':Hp->Prop),xs[i]? = some x->Same H H1->(t x=true->R (f x) H1)->(t x=false->R' H1)->g x (List.replicate k none++Po σ js) H1 fun σ2 H2=>tt σ2 H2 λb O=>if b=true then te σ2 O R else R' O)
  (hd:∀ p H',H p=none->Same H H'->H' p=some (.lst ((xs.filter t).map f))->Q (.ref p) H'):Ni k js g tt te σ J H Q:=by
 refine Ik hw (λp i acc H1=>Same H H1/\acc=((xs.take i).filter t).map f) (λp H' hp e h=>⟨e,by simp⟩) (λp i acc H1 h=>hG H1 h.1) (λp i x acc H1 hp Y hi F ha ⟨e,q⟩=>?_) λp acc H1 hp ha F ⟨e,q⟩=>?_
 . have U:xs.take (i+1)=xs.take i++[x]:=by rw[A0S,Y];rfl
   refine hs i x H1 _ _ Y e (λh=>?_) λh=>?_
   . refine Lc hz hi F ha λH' Z h'=>⟨λb o hb=>Z b o (ne_of_none hb hp) (e b o hb),?_⟩;rw[U,A1X,A13,q];simp[h]
   refine So hi F ha ⟨e,?_⟩;rw[U,A1X,A13,q];simp[h]
 refine hd p H1 hp e ?_;rw[ha,q,A0U]
theorem Gj {α:Type}(xs:List α):xs.filter (λ_=>true)=xs:=by simp
theorem Mt {J:It}{xs:List V}{G:Hp->Prop}{g:TG}{te:TE}{σ:St}{H:Hp}{Q:VK}{k:Nat}{js:List Nat}(O:Hu J xs G)(f:V->V)(hz:xs.length<=1000000)(q:∀ H',Same H H'->G H')
  (F:∀(i:Nat) x H1 (R:VK),xs[i]? = some x->Same H H1->R (f x) H1->g x (List.replicate k none++Po σ js) H1 fun σ2 H2=>te σ2 H2 R)
  (hd:∀ p H',H p=none->Same H H'->H' p=some (.lst (xs.map f))->Q (.ref p) H'):Ni k js g ax7 te σ J H Q:=
 ag4 O (λ_=>true) f hz q (λi x H1 R R' U e h _=>by
  have:=F i x H1 R U e (h rfl);show g x _ H1 fun σ2 H2=>if true=true then te σ2 H2 R else R' H2
  simpa using this) λp H' hp e h=>hd p H' hp e (by rw[h,Gj])
theorem Ej {J:It}{xs:List V}{G:Hp->Prop}{g:TG}{tb:TS}{D:Ph}{σ:St}{H:Hp}(Y:Hu J xs G)(Pv:Nat->St->Hp->Prop)(F:Pv 0 σ H)(O:∀ i σ H,Pv i σ H->G H)
  (U:∀ i x σ H,xs[i]? = some x->i<xs.length->Pv i σ H->g x σ H fun σ2 H2=>tb {D with nx:=Pv (i+1),ct:=Pv (i+1),bk:=D.nx} σ2 H2) (hd:∀ σ H,Pv xs.length σ H->D.nx σ H):an8 g tb D σ J H:=
 am6 Y Pv F O (λi x σ H q=>U i x σ H q (A00.mp q).1) hd
section
variable {X:Cx}{K:W.Frag}
theorem An (q:X.K=K:=by ac_nf):OpR X (binaryOp .Add) (Wr K):=q ▸ az2
theorem Ck (F:QA X.A)(q:X.K=K:=by ac_nf):OpR X (compareOp .Eq) (aQ3 K):=q ▸ aN5 F
theorem Nz (F:QA X.A)(q:X.K=K:=by ac_nf):OpR X (compareOp .NotEq) (aQ4 K):=q ▸ aN9 F
theorem Mf (F:QA X.A)(q:X.K=K:=by ac_nf):OpR X (compareOp .In) (Xr K false):=q ▸ aP9 F
theorem Fp (F:QA X.A)(q:X.K=K:=by ac_nf):OpR X (compareOp .NotIn) (Xr K true):=q ▸ ac6 F
theorem A6 (hu:X.A.units+1<cLine)(q:X.K=K:=by ac_nf):IxR X (Qf K):=q ▸ aM2 hu
theorem Sz (q:X.K=K:=by ac_nf):SlR X (aD8 K):=q ▸ sl_A
theorem Bp (q:X.K=K:=by ac_nf):CallR X (.builtin "len") (Yz K):=q ▸ aa0
theorem Fn (q:X.K=K:=by ac_nf):CallR X (.builtin "isinstance") (Sg K):=q ▸ Tu
theorem Qq (q:X.K=K:=by ac_nf):CallR X (.type "list") (Yd K):=q ▸ Ym
theorem Cq (q:X.K=K:=by ac_nf):CallR X (.type "tuple") (Ng K):=q ▸ W0
theorem a73 (F:X.calm=true)(q:X.K=K:=by ac_nf):CallR X (.builtin "any") (aw5 K):=q ▸ af7 F
theorem Ar {tg:Expr}(hu:X.A.units+1<cLine){l:Expr}{tl:TE}(F:PE X l tl)(q:X.K=K:=by ac_nf):PI X tg l (aT0 K tl):=q ▸ aO8 hu F
theorem Nk {es:List Expr}{k:Nat}{t:TGs}{n:Nat}{pos:Pos}(F:X.calm=true)(h:PGs X es t)(q:X.K=K:=by ac_nf)
  (hn:(assignEach es X.env).length=n:=by ac_nf) (J:(assignEach es X.env).findIdx? (·.1)=none:=by ac_nf):PG X (.Tuple es k pos) (aB2 K n t):=q ▸ aM6 F h hn J
variable {o e:Expr}{es:List Expr}{to:TE}{t:TA}{name:Str}{apos cpos:Pos}{T id:String}{r:V->List V->Hp->VK->Prop}
theorem at5 (Y:PlainAttrs T)(slot:Slot T name id)(U:typeOf (.builtin id)=pure (.type "method_descriptor"))(hm:MtR X id r)(O:PE X o to)(q:X.K=K:=by ac_nf)
  (F:attributeBase o name X.env (eval o X.env)=eval o X.env:=by ac_nf) (J:(apos.endLine==cpos.line)=true:=by ac_nf):PE X (.Call (.Attribute o name apos) [] [] cpos) (aR9 K T r to):=q ▸ aK1 Y slot U hm O F J
theorem Hj (pa:PlainAttrs T)(slot:Slot T name id)(a0:typeOf (.builtin id)=pure (.type "method_descriptor"))(hm:MtR X id r)(U:PE X o to)(ha:PA X (e :: es) t)(q:X.K=K:=by ac_nf)
  (F:attributeBase o name X.env (eval o X.env)=eval o X.env:=by ac_nf)
  (J:((backTo cpos (starEach (e :: es) X.env)).all (λx=>!x.1)&&(backToKw cpos (keywordEach [] X.env)).all (λx=>x.1.isSome)
   && decide ((e :: es).length+([]:List Keyword).length+(if([]:List Keyword).isEmpty then 0 else 1)<30))=true:=by ac_nf)
  (O:(apos.endLine==cpos.line)=true:=by ac_nf) (Z:starEach (e :: es) X.env=(false,eval e X.env) :: starEach es X.env:=by ac_nf) (Y:(backTo cpos (starEach es X.env)).any (·.1)=false:=by ac_nf) :
  PE X (.Call (.Attribute o name apos) (e :: es) [] cpos) (tBM K T r to t):=q ▸ aT7 pa slot a0 hm U ha F J O Z Y
end
def Fz (H H':Hp):Prop:=∀ a xs,Rd H a (.tup xs)->Rd H' a (.tup xs)
theorem Fz.refl (H:Hp):Fz H H:=λ_ _ h=>h
theorem Fz.trans {H H1 H2:Hp}(a:Fz H H1)(b:Fz H1 H2):Fz H H2:=λc xs h=>b c xs (a c xs h)
theorem Same.fz {H H':Hp}(e:Same H H'):Fz H H':=λa xs h=>by
 rcases h with h|⟨o,h⟩
 . exact .inl (e _ _ h)
 exact .inr ⟨o,e _ _ h⟩
theorem Xd {p:Addr}{H H':Hp}(e:ExtBut p H H')(hp:∀ xs,¬ Rd H p (.tup xs)):Fz H H':=λa xs h=>by
 have n:a≠p:=λq=>hp xs (q ▸ h);rcases h with h|⟨o,h⟩
 . exact .inl (e _ _ n h)
 exact .inr ⟨o,e _ _ n h⟩
theorem ExtBut.fzL {p:Addr}{H H':Hp}{l:List V}(e:ExtBut p H H')(hp:H p=some (.lst l)):Fz H H':=Xd e λxs h=>by
 rcases h with h|⟨o,h⟩
 . rw[hp] at h;cases h
 rw[hp] at h;cases h
theorem ExtBut.fzD {p:Addr}{H H':Hp}{l:List (Key×V)}(e:ExtBut p H H')(hp:H p=some (.dK l)):Fz H H':=Xd e λxs h=>by
 rcases h with h|⟨o,h⟩
 . rw[hp] at h;cases h
 rw[hp] at h;cases h
theorem Fz.seq {K:W.Frag}{H H':Hp}(e:Fz H H'){a:Addr}{xs:List V}(h:SqT K H a xs):SqT K H' a xs:=by
 rcases h with h|h
 . exact .inl (e _ _ h)
 exact .inr h
mutual
def frz:PyData->Bool
 |.tuple ds=>Mm ds
 |.list _=>false
 |.dict _=>false
 |_=>true
def Mm:List PyData->Bool
 | []=>true
 |d :: ds=>frz d&&Mm ds
end
mutual
theorem Is.fz {K:W.Frag}{H H':Hp}(e:Fz H H'):∀(d:PyData) (v:V),frz d=true->Is K H d v->Is K H' d v
 |.none,_,_,h=>by simp only[Is] at h ⊢;exact h
 |.bool _,_,_,h=>by simp only[Is] at h ⊢;exact h
 |.int _,_,_,h=>by simp only[Is] at h ⊢;exact h
 |.str _,_,_,h=>by simp only[Is] at h ⊢;exact h
 |.list ds,v,hf,_=>by simp[frz] at hf
 |.tuple ds,v,hf,h=>by simp only[Is] at h ⊢;obtain⟨a,xs,q,F,J⟩:=h;exact⟨a,xs,q,e.seq F,IsL.fz e ds xs (by simpa only[frz] using hf) J⟩
 |.dict _,_,_,h=>by simp only[Is] at h
theorem IsL.fz {K:W.Frag}{H H':Hp}(e:Fz H H'):∀(ds:List PyData) (vs:List V),Mm ds=true->IsL K H ds vs->IsL K H' ds vs
 | [],_,_,h=>by simp only[IsL] at h ⊢;exact h
 |d :: ds,vs,hf,h=>by simp only[IsL] at h ⊢;simp only[Mm,Bool.and_eq_true] at hf;obtain⟨v,r,q,F,J⟩:=h;exact⟨v,r,q,Is.fz e d v hf.1 F,IsL.fz e ds r hf.2 J⟩
end
section
variable {K:W.Frag}{H H':Hp}
theorem IsL.length:∀ {ds:List PyData} {vs:List V},IsL K H ds vs->ds.length=vs.length
 | [],_,h=>by simp only[IsL] at h;subst h;rfl
 |d :: ds,vs,h=>by simp only[IsL] at h;obtain⟨v,r,rfl,_,q⟩:=h;simp only[List.length_cons,IsL.length q]
theorem IsL.get:∀ {ds:List PyData} {vs:List V} {i:Nat} {x:V},IsL K H ds vs->vs[i]? = some x->∃ d,ds[i]? = some d/\Is K H d x
 | [],_,_,_,h,e=>by simp only[IsL] at h;subst h;simp at e
 |d :: ds,vs,i,x,h,e=>by
   simp only[IsL] at h;obtain⟨v,r,rfl,q,F⟩:=h
   cases i with
   |zero=>simp at e;subst e;exact⟨d,rfl,q⟩
   |succ i=>obtain⟨d',h1,h2⟩:=IsL.get (i:=i) F (by simpa using e);exact⟨d',by simpa using h1,h2⟩
theorem IsL.at:∀ {ds:List PyData} {vs:List V} {i:Nat} {d:PyData},IsL K H ds vs->ds[i]? = some d->∃ x,vs[i]? = some x/\Is K H d x
 | [],_,_,_,h,e=>by simp at e
 |d :: ds,vs,i,d',h,e=>by
   simp only[IsL] at h;obtain⟨v,r,rfl,q,F⟩:=h
   cases i with
   |zero=>simp at e;subst e;exact⟨v,rfl,q⟩
   |succ i=>obtain⟨x,h1,h2⟩:=IsL.at (i:=i) F (by simpa using e);exact⟨x,by simpa using h1,h2⟩
theorem IsL.append:∀ {ds es:List PyData} {vs us:List V},IsL K H ds vs->IsL K H es us->IsL K H (ds++es) (vs++us)
 | [],_,_,_,h,g=>by simp only[IsL] at h;subst h;exact g
 |d :: ds,es,vs,us,h,g=>by simp only[IsL] at h;obtain⟨v,r,rfl,q,F⟩:=h;simp only[List.cons_append,IsL];exact⟨v,_,rfl,q,IsL.append F g⟩
theorem IsL.one {d:PyData}{v:V}(h:Is K H d v):IsL K H [d] [v]:=by simp only[IsL];exact⟨v,[],rfl,h,rfl⟩
theorem IsL.nil:IsL K H [] []:=by simp only[IsL]
theorem IsL.cons {d:PyData} {v:V} {ds:List PyData} {vs:List V} (h:Is K H d v) (g:IsL K H ds vs):IsL K H (d :: ds) (v :: vs):=by simp only[IsL];exact⟨v,vs,rfl,h,g⟩
theorem IsL.take:∀ {ds:List PyData} {vs:List V} (n:Nat),IsL K H ds vs->IsL K H (ds.take n) (vs.take n)
 |ds,vs,0,h=>by simp only[List.take_zero];exact .nil
 | [],vs,n+1,h=>by simp only[IsL] at h;subst h;exact .nil
 |d :: ds,vs,n+1,h=>by simp only[IsL] at h;obtain⟨v,r,rfl,q,F⟩:=h;exact .cons q (IsL.take n F)
theorem IsL.drop:∀ {ds:List PyData} {vs:List V} (n:Nat),IsL K H ds vs->IsL K H (ds.drop n) (vs.drop n)
 |ds,vs,0,h=>h
 | [],vs,n+1,h=>by simp only[IsL] at h;subst h;exact .nil
 |d :: ds,vs,n+1,h=>by simp only[IsL] at h;obtain⟨v,r,rfl,F,q⟩:=h;exact IsL.drop n q
theorem IsL.str_eq:∀ {ns:List Str} {vs:List V},IsL K H (ns.map PyData.str) vs->vs=ns.map V.str
 | [],vs,h=>by simp only[List.map_nil,IsL] at h;exact h
 |n :: ns,vs,h=>by simp only[List.map_cons,IsL,Is] at h;obtain⟨v,r,rfl,rfl,q⟩:=h;rw[IsL.str_eq q];rfl
theorem Is.tup {ds:List PyData}{v:V}(h:Is K H (.tuple ds) v):∃ a xs,v = .ref a/\SqT K H a xs/\IsL K H ds xs:=by simpa only[Is] using h
theorem Is.of_tup {ds:List PyData}{a:Addr}{xs:List V}(h:SqT K H a xs)(g:IsL K H ds xs):Is K H (.tuple ds) (.ref a):=by simp only[Is];exact⟨a,xs,rfl,h,g⟩
theorem Is.of_lst {ds:List PyData}{a:Addr}{xs:List V}(h:SqL K H a xs)(g:IsL K H ds xs):Is K H (.list ds) (.ref a):=by simp only[Is];exact⟨a,xs,rfl,h,g⟩
theorem Is.str {z:Str}{v:V}(h:Is K H (.str z) v):v = .str z:=by simpa only[Is] using h
theorem Iu {z:Str}:Is K H (.str z) (.str z):=by simp only[Is]
theorem Nh {z:Int}:Is K H (.int z) (.int z):=by simp only[Is]
end
def nmD (ns:List Str):PyData:=.tuple (ns.map PyData.str)
def prD (p:Str×Str):PyData:=.tuple [.str p.1,.str p.2]
def psD (ps:List (Str×Str)):PyData:=.tuple (ps.map prD)
def hfD (ns:List Str)(ps:List (Str×Str)):PyData:=.tuple [nmD ns,psD ps]
theorem Nr:∀ ns:List Str,Mm (ns.map PyData.str)=true
 | []=>rfl
 |n :: ns=>by simp only[List.map_cons,Mm,frz,Nr ns,Bool.and_self]
theorem M4 (ns:List Str):frz (nmD ns)=true:=by simp only[nmD,frz,Nr]
theorem Gx (p:Str×Str):frz (prD p)=true:=by simp[prD,frz,Mm]
theorem Bz:∀ ps:List (Str×Str),Mm (ps.map prD)=true
 | []=>rfl
 |n :: ns=>by simp only[List.map_cons,Mm,Gx,Bz ns,Bool.and_self]
theorem ar9 (ps:List (Str×Str)):frz (psD ps)=true:=by simp only[psD,frz,Bz]
theorem aO9 (ns:List Str)(ps:List (Str×Str)):frz (hfD ns ps)=true:=by simp only[hfD,frz,Mm,M4,ar9,Bool.and_self]
section
variable {K:W.Frag}{H H':Hp}
theorem Is.nm {ns:List Str}{v:V}(h:Is K H (nmD ns) v):∃ a,v = .ref a/\SqT K H a (ns.map V.str):=by obtain⟨a,xs,rfl,h1,h2⟩:=Is.tup h;exact⟨a,rfl,by rw[<- IsL.str_eq h2];exact h1⟩
theorem Og {ns:List Str}{a:Addr}(h:SqT K H a (ns.map V.str)):Is K H (nmD ns) (.ref a):=Is.of_tup h (Ov ns)
theorem Is.pr {p:Str×Str}{v:V}(h:Is K H (prD p) v):∃ a,v = .ref a/\SqT K H a [.str p.1,.str p.2]:=by obtain⟨a,xs,rfl,h1,h2⟩:=Is.tup h;simp only[IsL,Is] at h2;obtain⟨_,_,rfl,rfl,_,_,rfl,rfl,rfl⟩:=h2;exact⟨a,rfl,h1⟩
theorem Ru {x y:Str}{a:Addr}(h:SqT K H a [.str x,.str y]):Is K H (prD (x,y)) (.ref a):=Is.of_tup h (.cons Iu (.one Iu))
theorem Is.hf {ns:List Str}{ps:List (Str×Str)}{v:V}(h:Is K H (hfD ns ps) v):∃ a x y,v = .ref a/\SqT K H a [x,y]/\Is K H (nmD ns) x/\Is K H (psD ps) y:=by obtain⟨a,xs,rfl,h1,h2⟩:=Is.tup h;simp only[IsL] at h2;obtain⟨x,_,rfl,q,y,_,rfl,F,rfl⟩:=h2;exact⟨a,x,y,rfl,h1,q,F⟩
theorem ag7 {ns:List Str}{ps:List (Str×Str)}{a:Addr}{x y:V}(h:SqT K H a [x,y])(q:Is K H (nmD ns) x)(F:Is K H (psD ps) y):Is K H (hfD ns ps) (.ref a):=Is.of_tup h (.cons q (.one F))
theorem Is.nm_fz {ns:List Str}{v:V}(h:Is K H (nmD ns) v)(e:Fz H H'):Is K H' (nmD ns) v:=Is.fz e _ _ (M4 ns) h
theorem Is.pr_fz {p:Str×Str}{v:V}(h:Is K H (prD p) v)(e:Fz H H'):Is K H' (prD p) v:=Is.fz e _ _ (Gx p) h
theorem Is.ps_fz {ps:List (Str×Str)}{v:V}(h:Is K H (psD ps) v)(e:Fz H H'):Is K H' (psD ps) v:=Is.fz e _ _ (ar9 ps) h
theorem Is.hf_fz {ns:List Str}{ps:List (Str×Str)}{v:V}(h:Is K H (hfD ns ps) v)(e:Fz H H'):Is K H' (hfD ns ps) v:=Is.fz e _ _ (aO9 ns ps) h
variable {σ:St}{Q:VK}{x v:V}{i:Int}
theorem Cz {a:Addr}{xs:List V}(h:SqT K H a xs)(e:atI xs i=some v)(k:Q v H):Qf K (.ref a) (.int i) H Q:=.inl (.inr (.inl ⟨a,xs,i,v,rfl,rfl,h,e,k⟩))
theorem aO6 {a:Addr}{xs:List V}(h:SqL K H a xs)(e:atI xs i=some v)(k:Q v H):Qf K (.ref a) (.int i) H Q:=.inl (.inl ⟨a,xs,i,v,rfl,rfl,h,e,k⟩)
theorem aT5 {ns:List Str}{z:Str}(h:Is K H (nmD ns) x)(e:atI ns i=some z)(k:Q (.str z) H):Qf K x (.int i) H Q:=by
 obtain⟨a,rfl,h1⟩:=h.nm;refine Cz h1 ?_ k;unfold atI at e ⊢;rw[A01]
 cases hj:ixN ns.length i with
 |none=>rw[hj] at e;cases e
 |some j=>rw[hj] at e;show(ns.map V.str)[j]? = _;rw[A06,show ns[j]? = some z from e];rfl
theorem Gy {ns:List Str}{ps:List (Str×Str)}(h:Is K H (hfD ns ps) x)(k:∀ v,Is K H (nmD ns) v->Q v H):Qf K x (.int 0) H Q:=by obtain⟨a,u,w,rfl,h1,h2,q⟩:=h.hf;exact Cz h1 rfl (k u h2)
theorem T6 {ns:List Str}{ps:List (Str×Str)}(h:Is K H (hfD ns ps) x)(k:∀ v,Is K H (psD ps) v->Q v H):Qf K x (.int 1) H Q:=by obtain⟨a,u,w,rfl,h1,h2,q⟩:=h.hf;exact Cz h1 rfl (k w q)
theorem Tp {p:Str×Str}(h:Is K H (prD p) x)(k:Q (.str p.1) H):Qf K x (.int 0) H Q:=by obtain⟨a,rfl,h1⟩:=h.pr;exact Cz h1 rfl k
theorem On {p:Str×Str}(h:Is K H (prD p) x)(k:Q (.str p.2) H):Qf K x (.int 1) H Q:=by obtain⟨a,rfl,h1⟩:=h.pr;exact Cz h1 rfl k
theorem a75 {ds:List PyData}(h:Is K H (.tuple ds) x)(k:Q (.int ds.length) H):Yz K [x] H Q:=by obtain⟨a,xs,rfl,h1,h2⟩:=h.tup;rw[IsL.length h2] at k;exact .inl ⟨.ref a,_,rfl,.inr ⟨xs,h1,rfl⟩,k⟩
theorem aP4 {ns:List Str}(h:Is K H (nmD ns) x)(k:Q (.int ns.length) H):Yz K [x] H Q:=a75 h (by rw[A01];exact k)
theorem Ks (ns:List Str):(ns.map V.str).all Sr=true:=by rw[A2C];intro v h;obtain ⟨n,_,rfl⟩:=A0E.mp h;rfl
theorem Mz (z:Str):∀ ns:List Str,inV (.str z) (ns.map V.str)=decide (z∈ns)
 | []=>rfl
 |n :: ns=>by
   have F:=Mz z ns;unfold inV at F ⊢;rw[A0H,A2G,F]
   have e:eqV (V.str n) (V.str z)=decide (n=z):=by
    show(n==z)=_
    by_cases h:n=z<;>simp[h]
   rw[e]
   by_cases h:n=z
   . subst h;simp
   have h':¬ z=n:=λq=>h q.symm
   by_cases g:z∈ns<;>simp[h,h',g]
theorem aN4 {ns:List Str}{z:Str}{a:Addr}(h:SqL K H a (ns.map V.str))(k:Q (.bl (decide (z∈ns))) H):Xr K false (.str z) (.ref a) H Q:=
 .inl ⟨a,_,rfl,.inl h,rfl,Ks ns,by rw[Mz];exact k⟩
theorem ap2 {ns:List Str}{z:Str}(h:Is K H (nmD ns) x)(k:Q (.bl (!decide (z∈ns))) H):Xr K true (.str z) x H Q:=by obtain⟨a,rfl,h1⟩:=h.nm;exact .inl ⟨a,_,rfl,.inr h1,rfl,Ks ns,by rw[Mz];exact k⟩
theorem az1 {ns:List Str}{z:Str}{a:Addr}(h:SqL K H a (ns.map V.str))(k:Q (.bl (!decide (z∈ns))) H):Xr K true (.str z) (.ref a) H Q:=
 .inl ⟨a,_,rfl,.inl h,rfl,Ks ns,by rw[Mz];exact k⟩
theorem a97 {a:Addr}{u w:V}{n m:Nat}{R:St->Hp->Prop}(h:SqT K H a [u,w])(k:R ((σ.set n (some u)).set m (some w)) H):aB2 K 2 (Pk (Kl n) (Pk (Kl m) aE1)) (.ref a) σ H R:=
 ⟨a,_,rfl,h,rfl,u,[w],rfl,w,[],rfl,rfl,k⟩
theorem ar7 {ds:List PyData}{g:TG}{tb:TS}{D:Ph}(h:Is K H (.tuple ds) x)(hf:Mm ds=true)(Pv:Nat->St->Hp->Prop)(U:Pv 0 σ H)(q:∀ i σ' H',Pv i σ' H'->Fz H H')
  (Y:∀ i d v σ' H',ds[i]? = some d->Is K H' d v->Pv i σ' H'->g v σ' H' fun σ2 H2=>tb {D with nx:=Pv (i+1),ct:=Pv (i+1),bk:=D.nx} σ2 H2) (hd:∀ σ' H',Pv ds.length σ' H'->D.nx σ' H') :
  Fy K x H λJ H1=>an8 g tb D σ J H1:=by
 obtain⟨a,xs,rfl,h1,h2⟩:=h.tup;refine Wi h1 (Ej Hz Pv U (λi σ' H' p=>(q i σ' H' p).seq h1) (λi v σ' H' Z hi p=>?_) fun σ' H' p=>hd σ' H' (by rw[IsL.length h2];exact p));obtain⟨d,F,O⟩:=IsL.get (IsL.fz (q i σ' H' p) ds xs hf h2) Z;exact Y i d v σ' H' F O p
theorem Mh {ns:List Str}{g:TG}{tb:TS}{D:Ph}(h:Is K H (nmD ns) x)(Pv:Nat->St->Hp->Prop)(q:Pv 0 σ H)(F:∀ i σ' H',Pv i σ' H'->Fz H H')
  (O:∀ i z σ' H',ns[i]? = some z->Pv i σ' H'->g (.str z) σ' H' fun σ2 H2=>tb {D with nx:=Pv (i+1),ct:=Pv (i+1),bk:=D.nx} σ2 H2) (hd:∀ σ' H',Pv ns.length σ' H'->D.nx σ' H') :
  Fy K x H λJ H1=>an8 g tb D σ J H1:=
 ar7 h (Nr ns) Pv q F (λi d v σ' H' e h p=>by
  rw[A06] at e
  cases hn:ns[i]? with
  |none=>rw[hn] at e;cases e
  |some z=>
    rw[hn] at e
    cases e;rw[h.str];exact O i z σ' H' hn p) fun σ' H' p=>hd σ' H' (by rw[A01] at p;exact p)
theorem aF0 {ps:List (Str×Str)}{g:TG}{tb:TS}{D:Ph}(h:Is K H (psD ps) x)(Pv:Nat->St->Hp->Prop)(q:Pv 0 σ H)(F:∀ i σ' H',Pv i σ' H'->Fz H H')
  (O:∀ i p v σ' H',ps[i]? = some p->Is K H' (prD p) v->Pv i σ' H'->g v σ' H' fun σ2 H2=>tb {D with nx:=Pv (i+1),ct:=Pv (i+1),bk:=D.nx} σ2 H2) (hd:∀ σ' H',Pv ps.length σ' H'->D.nx σ' H') :
  Fy K x H λJ H1=>an8 g tb D σ J H1:=
 ar7 h (Bz ps) Pv q F (λi d v σ' H' e h p=>by
  rw[A06] at e
  cases hn:ps[i]? with
  |none=>rw[hn] at e;cases e
  |some z=>
    rw[hn] at e
    cases e;exact O i z v σ' H' hn h p) fun σ' H' p=>hd σ' H' (by rw[A01] at p;exact p)
theorem De {α:Type}(f:α->PyData)(hf:∀ a,frz (f a)=true):∀ xs:List α,Mm (xs.map f)=true
 | []=>rfl
 |x :: xs=>by simp only[List.map_cons,Mm,hf,De f hf xs,Bool.and_self]
theorem G1 {α:Type}{J:It}{xs:List V}{G:Hp->Prop}{g:TG}{tt:TT}{te:TE}{Q:VK}{k:Nat}{js:List Nat}(hw:Hu J xs G)(as:List α)(hl:as.length=xs.length)(t:α->Bool)(f:α->PyData)(hf:∀ a,frz (f a)=true)(hz:xs.length<=1000000)(hG:∀ H',Same H H'->G H')
  (hs:∀(i:Nat) a v H1 (R:VK) (R':Hp->Prop),as[i]? = some a->xs[i]? = some v->Same H H1->(t a=true->∀ y H2,Same H1 H2->Is K H2 (f a) y->R y H2)->(t a=false->∀ H2,Same H1 H2->R' H2) ->
   g v (List.replicate k none++Po σ js) H1 fun σ2 H2=>tt σ2 H2 λb U=>if b=true then te σ2 U R else R' U)
  (hd:∀ p ys H',H p=none->Same H H'->H' p=some (.lst ys)->IsL K H' ((as.filter t).map f) ys->Q (.ref p) H'):Ni k js g tt te σ J H Q:=by
 refine Ik hw (λp i acc H1=>Same H H1/\IsL K H1 (((as.take i).filter t).map f) acc) (λp H' hp e h=>⟨e,by simp only[List.take_zero,List.filter_nil,List.map_nil];exact .nil⟩) (λp i acc H1 h=>hG H1 h.1) (λp i x acc H1 hp hx hi O ha ⟨e,F⟩=>?_) λp acc H1 hp ha O ⟨e,F⟩=>?_
 . have a0:i<as.length:=by omega
   obtain⟨a,hai⟩:∃ a,as[i]? = some a:=⟨as[i],A04 a0⟩;have Z:as.take (i+1)=as.take i++[a]:=by rw[A0S,hai];rfl
   refine hs i a x H1 _ _ hai hx e (λh y H2 q hy=>?_) λh H2 q=>?_
   . refine Lc hz hi O (q _ _ ha) λH' Y h'=>⟨λb o hb=>Y b o (ne_of_none hb hp) (q _ _ (e b o hb)),?_⟩;rw[Z,A1X,A13];have fz:=Y.fzL (q _ _ ha);refine IsL.append (IsL.fz (q.fz.trans fz) _ _ (De f hf _) F) ?_;simp only[List.filter_cons,h,if_true,List.filter_nil,List.map_cons,List.map_nil];exact .one (Is.fz fz _ _ (hf a) hy)
   refine So hi O (q _ _ ha) ⟨e.trans q,?_⟩;rw[Z,A1X,A13];simp only[List.filter_cons,h,Bool.false_eq_true,if_false,List.filter_nil,List.map_nil,List.append_nil];exact IsL.mono q _ _ F
 refine hd p acc H1 hp e ha ?_;rw[<- hl,A0U] at F;exact F
end
section
variable {X:Cx}{K:W.Frag}
def aO0:PyData->Bool
 |.list _=>true
 |.tuple _=>true
 |_=>false
mutual
theorem Is.noDict {H:Hp}:∀(d:PyData) (v:V),Is K H d v->d.hasDict=false
 |.none,_,h=>by simp only[PyData.hasDict]
 |.bool _,_,h=>by simp only[PyData.hasDict]
 |.int _,_,h=>by simp only[PyData.hasDict]
 |.str _,_,h=>by simp only[PyData.hasDict]
 |.list ds,v,h=>by simp only[Is] at h;obtain⟨a,xs,F,J,q⟩:=h;simp only[PyData.hasDict];exact IsL.noDict ds xs q
 |.tuple ds,v,h=>by simp only[Is] at h;obtain⟨a,xs,F,J,q⟩:=h;simp only[PyData.hasDict];exact IsL.noDict ds xs q
 |.dict _,_,h=>by simp only[Is] at h
theorem IsL.noDict {H:Hp}:∀(ds:List PyData) (vs:List V),IsL K H ds vs->PyData.hasDictAll ds=false
 | [],_,h=>by simp only[PyData.hasDictAll]
 |d :: ds,vs,h=>by simp only[IsL] at h;obtain⟨v,r,J,q,F⟩:=h;simp only[PyData.hasDictAll,Is.noDict d v q,IsL.noDict ds r F,Bool.or_self]
end
structure Sh (d:PyData):Prop where
 dp:aO0 d=true
 sh:d.showable=true
 fits:d.shown.length<=sizeLine
 deep:d.depth<=100
theorem Qx (J:QA X.A):CallR X (.builtin "repr") (λxs H Q=>∃ x d,xs=[x]/\Is X.K H d x/\Sh d/\Q (.str d.shown) H):=by
 intro pins s σ H xs us Q I rv h;obtain⟨x,d,rfl,i,S,q⟩:=h;obtain⟨u,rfl,F⟩:=rv.one;obtain⟨as,Z⟩:=Is.reads I d x u i F
 have U:∃ a,u = .ref a:=by
  have hd:=S.dp
  cases d with
  |list ds=>simp only[Is] at i;obtain⟨a,_,rfl,_⟩:=i;exact⟨a,F⟩
  |tuple ds=>simp only[Is] at i;obtain⟨a,_,rfl,_⟩:=i;exact⟨a,F⟩
  |_=>cases hd
 obtain⟨a,rfl⟩:=U;refine repr_of_reads' Z S.sh (λY=>absurd Y (by rw[Is.noDict d x i];exact A0J)) J.gd (by have:=J.un;have:=S.deep;omega) (λ_ _ e=>e) (λh' t tk O=>?_) S.fits;exact⟨.str d.shown,H,I.kept O,⟨t,rfl⟩,q⟩
def Yl (z:Str)(n:Nat):Str:=⟨(List.replicate n z.cps).foldl (· ++ ·) #[]⟩
def aQ0:R2:=λx y H Q=>∃ z n,x = .str z/\y = .int n/\2<=n/\n<=1000/\z.length<=1000/\0<z.length/\Q (.str (Yl z n.toNat)) H
theorem ax8:OpR X (binaryOp .Mult) aQ0:=by
 intro pins s σ H x y v u Q I rx ry h;obtain⟨z,n,rfl,rfl,h1,h2,h3,h4,q⟩:=h;obtain⟨t,rfl⟩:=rx;obtain⟨t2,rfl⟩:=ry;have J:¬ n<1:=by omega
 have O:(n==1||z.length==0)=false:=by
  have Z:(n==1)=false:=by simp;omega
  have F:(z.length==0)=false:=by simp;omega
  rw[Z,F];rfl
 have hz:z.length*n.toNat<=1000000:=by have:z.length*n.toNat<=1000*1000:=A2K h3 ∅;omega
 have a0:(Yl z n.toNat).length<=sizeLine:=by
  have e:∀(m:Nat) (a:Array Nat),((List.replicate m z.cps).foldl (· ++ ·) a).size=a.size+m*z.cps.size:=by
   intro m
   induction m with
   |zero=>intro a;simp
   |succ m ih=>intro a;rw[A1T,A4O,ih,Array.size_append,Nat.succ_mul];omega
  show((List.replicate n.toNat z.cps).foldl (· ++ ·) #[]).size<=sizeLine;rw[e];have F:z.cps.size=z.length:=rfl;rw[F,A1I,A3W];simp;omega
 refine PySem.P.mul_str (by
   have U:¬ n < -(2 ^ 63:Int):=by omega
   have Y:¬ n>=2 ^ 63:=by omega
   rw[A0N U,A0N Y];rfl) (λ_ _=>?_) (λ_ _=>?_) ?_
 . have:(2 ^ 63-1:Int) / n>=1000:=by
    refine Int.le_ediv_of_mul_le ∅ ?_;have:1000*n<=1000*1000:=by omega
    omega
   omega
 . have a3:z.length*n.toNat<=sizeLine:=Ab hz;rw[A1I] at a3;unfold Builtin.Str.tooLong;simp[sizeLine_eq];omega
 rw[A0Q J,O,A0Q A0J];exact⟨a0,.str _,H,I.kept λ_ _ e=>e,⟨_,rfl⟩,q⟩
def am8:R2:=λx y H Q=>al3 x y H Q\/aQ0 x y H Q
theorem Dh:OpR X (binaryOp .Mult) am8:=op_mulA.or ax8
theorem i_mulBI {i j:Int}{H:Hp}{Q:VK}(h:CMul i j)(k:Q (.int (i*j)) H):am8 (.int i) (.int j) H Q:=.inl (aN7 h k)
theorem at2 {z:Str}{n:Int}{H:Hp}{Q:VK}(h:2<=n/\n<=1000/\z.length<=1000/\0<z.length)(k:Q (.str (Yl z n.toNat)) H):am8 (.str z) (.int n) H Q:=.inr ⟨z,n,rfl,rfl,h.1,h.2.1,h.2.2.1,h.2.2.2,k⟩
theorem ay6 {i:Int}{H:Hp}{Q:VK}{a:Addr}{xs:List V}(h1:H a=some (.lst xs))(h2:-(2 ^ 63)<=i/\i<2 ^ 63)(q:xs.length*i.toNat<=sizeLine)(k:∀ p H',H p=none->Same H H'->H' p=some (.lst (List.replicate i.toNat xs).flatten)->Q (.ref p) H'):am8 (.ref a) (.int i) H Q:=.inl (aH3 h1 h2 q k)
def rIs (q:Bool):R2:=λx y H Q=>(y = .non/\Q (.bl (if q then !decide (x = .non) else decide (x = .non))) H)\/∃ a b,x = .bl a/\y = .bl b/\Q (.bl (if q then !(a==b) else a==b)) H
theorem aK4:OpR X (compareOp .Is) (rIs false):=by
 intro pins s σ H x y v u Q I F J h;rcases h with ⟨rfl,q⟩|⟨a,b,rfl,rfl,q⟩
 . exact aE4 pins s σ H x .non v u Q I F J ⟨rfl,q⟩
 cases F
 cases J;refine wpAny_is_plain rfl ?_;refine⟨.bl _,H,I,?_,q⟩;show Value.bool (Value.bool a==Value.bool b)=Value.bool (a==b)
 cases a<;>cases b<;>rfl
theorem Uj:OpR X (compareOp .IsNot) (rIs true):=by
 intro pins s σ H x y v u Q I F J h;rcases h with ⟨rfl,q⟩|⟨a,b,rfl,rfl,q⟩
 . exact aA5 pins s σ H x .non v u Q I F J ⟨rfl,q⟩
 cases F
 cases J;refine wpAny_isNot_plain rfl ?_;refine⟨.bl _,H,I,?_,q⟩;show Value.bool (!(Value.bool a==Value.bool b))=Value.bool (!(a==b))
 cases a<;>cases b<;>rfl
theorem i_isN {x:V}{H:Hp}{Q:VK}(k:Q (.bl (decide (x = .non))) H):rIs false x .non H Q:=.inl ⟨rfl,k⟩
theorem i_isNotN {x:V}{H:Hp}{Q:VK}(k:Q (.bl (!decide (x = .non))) H):rIs true x .non H Q:=.inl ⟨rfl,k⟩
def aR6 (xs:List V)(i:Nat)(y:V):List V:=xs.take i++y :: xs.drop i
def ae1:V->List V->Hp->VK->Prop:=λx vs H Q=>∃ l xs i y,x = .ref l/\vs=[.int i,y]/\H l=some (.lst xs)/\0<=i/\i<=xs.length/\xs.length<sizeLine/\Q .non (upd H l (.lst (aR6 xs i.toNat y)))
theorem ag0:MtM X "list.insert" ae1:=by
 intro pins s σ H x vs v us Q I rx Y h;obtain⟨l,xs,i,y,rfl,rfl,O,h0,h1,hz,q⟩:=h
 cases rx;obtain⟨u,w,rfl,U,Z⟩:=Vals.two Y;obtain⟨t,rfl⟩:=U;obtain⟨z,J,n,r,hl,e⟩:=I.lstM O;have a0:=r.length
 refine A3R F.slot_list_insert ⟨_,e,rfl⟩ F.entry_list_insert (F.args_list_insert_3 _ _ _)
  (AutoSeq1.list_insert_list_int_val_1 l J.toArray n i t w (by rw[fitsIndex_both ∅ (by rw[A1I] at hz;omega)];decide) (by rw[A0R];omega)) ⟨e,?_⟩
 refine⟨.non,_,I.lset (its':=J.take i.toNat++w :: J.drop i.toNat) O e ?_ ((r.take i.toNat).append (.cons Z (r.drop i.toNat))) ?_,rfl,q⟩
 . have hi:i.toNat<=J.length:=by omega
   show(have k:=if i<0 then(i+((J.toArray.size:Nat):Int)).toNat else min i.toNat J.toArray.size;(J.toArray.extract 0 k).push w++J.toArray.extract k)=_
   rw[A0Q ∅,A0R,Nat.min_eq_left hi];simp[List.extract_eq_drop_take];exact A2A (by rw[A1B];omega)
 rw[A07,A0G,A10,A1B];omega
section
variable {D:Ph}{σ:St}{H:Hp}{t u:TS}{te td ty tv:TE}{g:TG}
theorem Vj (M:St->Hp->Prop)(h1:∀ N:St->Hp->Prop,(∀ σ' H',M σ' H'->N σ' H')->t {D with nx:=N} σ H)(h2:∀ σ' H',M σ' H'->u D σ' H'):aQ7 t u D σ H:=h1 (u D) h2
end
theorem ay5 {a:Addr}{xs:List V}{H:Hp}{Q:VK}(h:SqL K H a xs\/SqT K H a xs)(k:∀ p H',H p=none->Same H H'->H' p=some (.lst xs)->Q (.ref p) H'):Yd K [.ref a] H Q:=⟨a,xs,rfl,h,λp hp=>k p _ hp (Same.upd hp) Ae⟩
theorem mm {id:String}{r:V->List V->Hp->VK->Prop}(h:MtM X id r):MtR X id r:=h
theorem i_tyLm {a:Addr}{xs:List V}{H:Hp}{B:Prop}(h:H a=some (.lst xs))(k:B):tyV K "list" (.ref a) H/\B:=⟨.inl ⟨rfl,xs,SqL.of h⟩,k⟩
theorem aU0 {l:Addr}{xs:List V}{y:V}{i:Int}{H:Hp}{Q:VK}(h:H l=some (.lst xs))(q:0<=i)(h1:i<=xs.length)(hz:xs.length<=1000000)(k:∀ H',ExtBut l H H'->H' l=some (.lst (aR6 xs i.toNat y))->Q .non H'):ae1 (.ref l) [.int i,y] H Q:=
 ⟨l,xs,i,y,rfl,rfl,h,q,h1,by rw[A1I];omega,k _ ExtBut.upd Ae⟩
theorem Ye {l:Addr}{xs:List V}{y:V}{H:Hp}{Q:VK}(h:H l=some (.lst xs))(hz:xs.length<=1000000)(k:∀ H',ExtBut l H H'->H' l=some (.lst (xs++[y]))->Q .non H'):ab9 (.ref l) [y] H Q:=
 ⟨l,xs,y,rfl,rfl,h,by rw[A1I];omega,k _ ExtBut.upd Ae⟩
theorem Y1 {l b:Addr}{xs zs:List V}{H:Hp}{Q:VK}(h:H l=some (.lst xs))(hb:H b=some (.lst zs))(hz:xs.length+zs.length<=1000000)(k:∀ H',ExtBut l H H'->H' l=some (.lst (xs++zs))->Q .non H'):ad1 (.ref l) [.ref b] H Q:=
 ⟨l,b,xs,zs,rfl,rfl,h,hb,Ab hz,k _ ExtBut.upd Ae⟩
theorem Xt {l:Addr}{xs:List V}{y:V}{i:Int}{H:Hp}{Q:VK}(h:H l=some (.lst xs))(J:0<=i)(h1:xs[i.toNat]? = some y)(k:∀ H',ExtBut l H H'->H' l=some (.lst (xs.eraseIdx i.toNat))->Q y H')(hz:xs.length<=1000000):aq0 (.ref l) [.int i] H Q:=by
 have h2:=(A00.mp h1).1;refine⟨l,xs,i,i.toNat,y,rfl,rfl,h,by omega,by omega,?_,h1,k _ ExtBut.upd Ae⟩;have e:=R8 (Dz (α:=V) h1);obtain⟨j,q,O,U,_⟩:=e;rw[A2R J] at q;rw[q]
 have F:seqIndex? i xs.length=some i.toNat:=by unfold seqIndex? at q ⊢;simp[show ¬ i<0 by omega] at q ⊢;omega
 rw[<- q,F]
def Yt (xs:List V)(k:Int):List V:=if k=1 then xs else xs.reverse
def ae7 (K:W.Frag):V->V->Hp->VK->Prop:=λx y H Q=>∃ a xs k,x = .ref a/\y = .int k/\(k=1\/k = -1)/\SqL K H a xs/\∀ p,H p=none->Q (.ref p) (upd H p (.lst (Yt xs k)))
theorem an6 (items:Array Value):slicePick items none none (some 1)=items:=by have e:slicePick items none none (some 1)=slicePick items none none none:=rfl;rw[e,Ku];simp[HT.sIx];rw[show items.size=items.toList.length by simp,List.take_length]
theorem Vp {e st:Expr}{te Y:TE}{p2 pos:Pos}(he:PE X e te)(a0:PE X st Y)(hK:X.K=K:=by ac_nf):PE X (.Subscript e (.Slice none none (some st) p2) pos) (tOp (ae7 K) te Y):=by
 subst hK;intro pins s σ H Q I h;refine Subscript_ (thn (he pins s σ H _ I h) λv s1 ⟨x,H1,Z,r1,q1⟩=>?_);refine wpAny_Slice ?_;rw[evalPart_none];refine A0K (A0K ?_);rw[evalPart_some];refine thn (a0 pins s1 σ H1 _ Z q1) λu F ⟨y,H2,I2,r2,q2⟩=>?_;obtain⟨a,xs,k,rfl,rfl,O,hx,q⟩:=q2
 cases r1;obtain⟨t,rfl⟩:=r2;have J:Inv X pins σ H2 {F with heap:=F.heap.push {cls:=.type "slice",data:=.fields #[.none,.none,.int k t]}}:=I2.kept (t':=F.toks) λb ob q=>A02 _ q
 obtain⟨a2,r,U,hz⟩:=J.list hx;have a1:=r.length;refine tail_any (ops:=[.ref a,.ref F.heap.objs.size]) U.isList.typeIs slot_list_getitem.lookup ?_ ⋯;refine wpAny_getItem_list_slice U.isList (Heap.IsSliceOf.new ..) .none .none (.int k t) (by rcases O with rfl|rfl<;>decide) ?_ (by rw[A0R];omega)
 rcases O with rfl|rfl
 . rw[an6];refine⟨.ref _,_,J.laid (t':=F.toks) (o:=.lst (Yt xs 1)) (λb ob q=>A02 _ q) (A08 _) ?_,rfl,q _ (J.hok.fresh (A08 _))⟩;exact⟨hz,_,0,r,A0I _ rfl⟩
 rw[W.krv_pick];refine⟨.ref _,_,J.laid (t':=F.toks) (o:=.lst (Yt xs (-1))) (λb ob q=>A02 _ q) (A08 _) ?_,rfl,q _ (J.hok.fresh (A08 _))⟩;exact⟨by show xs.reverse.length<=_;rw[A50];exact hz,_,0,by show Vals xs.reverse _;exact r.reverse,A0I _ rfl⟩
theorem aP7 {a:Addr}{xs:List V}{k:Int}{H:Hp}{Q:VK}(h:SqL K H a xs)(q:k=1\/k = -1)(c:∀ p H',H p=none->Same H H'->H' p=some (.lst (Yt xs k))->Q (.ref p) H'):ae7 K (.ref a) (.int k) H Q:=
 ⟨a,xs,k,rfl,rfl,q,h,λp hp=>c p _ hp (Same.upd hp) Ae⟩
end
def Mg (c:Nat):Bool:=decide (97<=c)&&decide (c<=122)
def M8 (x:Str):Bool:=decide (1<=x.length)&&decide (x.length<=8)&&x.cps.toList.all Mg
def Names (ns:List Str):Prop:=ns.Nodup/\∀ z∈ns,M8 z=true
def LL:Str:="abcdefghijklmnopqrstuvwxyzabcdefghijklmnopqrstuvwxyz"
theorem aJ1:Yl "abcdefghijklmnopqrstuvwxyz" (2:Int).toNat=LL:=by decide +kernel
def LLn:List Nat:=LL.cps.toList
theorem aO3:LL.length=52:=by decide +kernel
theorem Le:LLn.length=52:=by decide +kernel
theorem Xj:∀ c∈LLn,Mg c=true:=by decide +kernel
def txt (l:List Nat):Str:=⟨l.toArray⟩
theorem au5 {a b:List Nat}(h:txt a=txt b):a=b:=by have:a.toArray=b.toArray:=congrArg Str.cps h;simpa using this
theorem a58 (a b:List Nat):txt a++txt b=txt (a++b):=by show(⟨a.toArray++b.toArray⟩:Str)=⟨(a++b).toArray⟩;simp
theorem Ky {l:List Nat}(q:1<=l.length)(h1:l.length<=8)(h2:∀ c∈l,Mg c=true):M8 (txt l)=true:=by
 unfold M8;have e:(txt l).length=l.length:=by show l.toArray.size=_;simp
 rw[e,A0Y q,A0Y h1];show(true&&true&&l.all Mg)=true;rw[A2C.mpr h2];rfl
def Pq (a b:Nat):List Nat:=(LLn.drop a).take (b-a)
theorem Mq {a b:Nat}(h:a<=b)(h1:b<=52):(Pq a b).length=b-a:=by unfold Pq;rw[A10,A1B,Le];omega
theorem Jq {a b:Nat}:∀ c∈Pq a b,Mg c=true:=λc q=>Xj c (A35 (A25 q))
theorem Xl {i j:Int}(F:0<=i)(h1:i<=j)(h2:j<=52):Txt.slice LL (some i) (some j)=txt (Pq i.toNat j.toNat):=by
 have e:=StrLaws.sliceText_plain (x:=LL) (i:=i) (j:=j) ⟨F,h1,by rw[show LL.cps.toList.length=52 by decide +kernel];omega⟩;have q:(j-i).toNat=j.toNat-i.toNat:=by omega
 rw[q] at e;exact e
def T0 (i:Nat):List Nat:=(LLn.drop i).take 1
theorem az0 {i:Int}(q:0<=i)(h1:i<52):∃ c,atI LL.cps.toList i=some c/\(⟨#[c]⟩:Str)=txt (T0 i.toNat):=by
 have h2:i.toNat<LLn.length:=by rw[Le];omega
 refine⟨LLn[i.toNat],?_,?_⟩
 . have:=Dz (A04 h2);rwa[A2R q] at this
 unfold T0;rw[A4C h2];rfl
theorem R4 {i:Nat}(h:i<52):(T0 i).length=1:=by unfold T0;rw[A10,A1B,Le];omega
theorem Lu {i:Nat}:∀ c∈T0 i,Mg c=true:=λc q=>Xj c (A35 (A25 q))
def nm0 (s:Nat):List (List Nat):=(List.range 8).map (λk=>Pq s (s+1+k))++[T0 (s+9),T0 (s+10)]
def nm1 (s z a:Nat):List (List Nat):=(List.range 10).map λk=>Pq s (s+a)++T0 (s+5*k % 26)++Pq (s+a+1) (s+z)
def nm2 (s:Nat):List (List Nat):=(List.range 10).map λk=>Pq (s+k) (s+k+1+3*k % 8)
theorem nd0:∀ s<26,(nm0 s).Nodup:=by decide +kernel
theorem nd2:∀ s<26,(nm2 s).Nodup:=by decide +kernel
theorem nd1':∀ s<26,((List.range 10).map λk=>T0 (s+5*k % 26)).Nodup:=by decide +kernel
theorem J3 {α β:Type}{f:α->β}:∀ {l:List α},l.Nodup->(∀ a∈l,∀ b∈l,f a=f b->a=b)->(l.map f).Nodup
 | [],_,_=>by simp
 |a :: l,h,hf=>by rw[A0H,A0V];rw[A0V] at h;refine⟨λhm=>?_,J3 h.2 λx q y F=>hf x (A09 _ q) y (A09 _ F)⟩;obtain⟨b,hb,e⟩:=A0E.mp hm;have:=hf b (A09 _ hb) a A0B e;subst this;exact h.1 hb
theorem Iv {α β:Type}{f:α->β}:∀ {l:List α},(l.map f).Nodup->∀ a∈l,∀ b∈l,f a=f b->a=b
 | [],_,a,ha,_,_,_=>by cases ha
 |c :: l,h,a,ha,b,hb,e=>by
   rw[A0H,A0V] at h;rcases A0A.mp ha with q|ha'
   . rcases A0A.mp hb with q'|hb'
     . rw[q,q']
     exact absurd (A0E.mpr ⟨b,hb',by rw[<- e,q]⟩) h.1
   rcases A0A.mp hb with q'|hb'
   . exact absurd (A0E.mpr ⟨a,ha',by rw[e,q']⟩) h.1
   exact Iv h.2 a ha' b hb' e
theorem Ot {l:List (List Nat)}(h:l.Nodup):(l.map txt).Nodup:=J3 h λa _ b _ e=>au5 e
theorem nd1 {s z a:Nat}(O:s<26):(nm1 s z a).Nodup:=by refine J3 List.nodup_range λk J j F e=>?_;have q:T0 (s+5*k % 26)=T0 (s+5*j % 26):=List.append_cancel_left (List.append_cancel_right e);exact Iv (f:=λk=>T0 (s+5*k % 26)) (nd1' s O) k J j F q
theorem aM5 {s:Nat}(J:s<26):Names ((nm0 s).map txt):=by
 refine⟨Ot (nd0 s J),λz hz=>?_⟩;obtain⟨l,F,rfl⟩:=A0E.mp hz;rcases A0C.mp F with h|h
 . obtain⟨k,q,rfl⟩:=A0E.mp h;have q:=A21.mp q;have e:=Mq (a:=s) (b:=s+1+k) ∅ ∅;exact Ky ∅ ∅ Jq
 simp only[List.mem_cons,List.not_mem_nil,or_false] at h;rcases h with rfl|rfl
 . have e:=R4 (i:=s+9) ∅;exact Ky ∅ ∅ Lu
 have e:=R4 (i:=s+10) ∅;exact Ky ∅ ∅ Lu
theorem aP5 {s z a:Nat}(J:s<26)(ha:a<z)(hz:z<=8):Names ((nm1 s z a).map txt):=by
 refine⟨Ot (nd1 J),λy O=>?_⟩;obtain⟨l,F,rfl⟩:=A0E.mp O;obtain⟨k,hk,rfl⟩:=A0E.mp F;have hm:5*k % 26<26:=Nat.mod_lt _ nofun;have U:=Mq (a:=s) (b:=s+a) ∅ ∅;have Y:=R4 (i:=s+5*k % 26) ∅;have Z:=Mq (a:=s+a+1) (b:=s+z) ∅ ∅;refine Ky (by simp only[List.length_append];omega) (by simp only[List.length_append];omega) λc q=>?_;rcases A0C.mp q with q|q
 . rcases A0C.mp q with q|q
   . exact Jq c q
   exact Lu c q
 exact Jq c q
theorem aI1 {s:Nat}(J:s<26):Names ((nm2 s).map txt):=by refine⟨Ot (nd2 s J),λz hz=>?_⟩;obtain⟨l,F,rfl⟩:=A0E.mp hz;obtain⟨k,q,rfl⟩:=A0E.mp F;have q:=A21.mp q;have hm:3*k % 8<8:=Nat.mod_lt _ nofun;have e:=Mq (a:=s+k) (b:=s+k+1+3*k % 8) ∅ ∅;exact Ky ∅ ∅ Jq
def nm3:List Str:=["names","ahead","name","a","ab","aheads","last","ask","row","end"]
theorem aF1:Names nm3:=⟨by decide +kernel,by decide +kernel⟩
theorem Names.perm {ns ms:List Str}(h:Names ns)(p:ms.Perm ns):Names ms:=⟨p.nodup_iff.mpr h.1,λz hz=>h.2 z (p.mem_iff.mp hz)⟩
theorem Names.sublist {ns ms:List Str}(h:Names ns)(p:ms.Sublist ns):Names ms:=⟨h.1.sublist p,λz hz=>h.2 z (p.subset hz)⟩
theorem Names.reverse {ns:List Str}(h:Names ns):Names ns.reverse:=h.perm (List.reverse_perm _)
theorem Names.turn {ns:List Str}(h:Names ns)(t n:Nat):Names ((ns.drop t++ns.take t).take n):=
 Names.sublist (ns:=ns.drop t++ns.take t) (h.perm (List.perm_append_comm.trans (by rw[A4S]))) (A4E _ _)
theorem Kr {xs:List V}{t:Int}(F:0<=t)(h1:t<=xs.length):Pr xs (some t) none=xs.drop t.toNat:=by
 have e:HT.sIx xs.length 0 (some t)=t.toNat:=by unfold HT.sIx;simp[show ¬ t<0 by omega];omega
 unfold Pr;rw[e];have q:HT.sIx xs.length xs.length none=xs.length:=rfl;rw[q];exact A2A (by rw[A1B];omega)
theorem Ib {xs:List V}{t:Int}(F:0<=t):Pr xs none (some t)=xs.take t.toNat:=by
 have e:HT.sIx xs.length xs.length (some t)=min t.toNat xs.length:=by unfold HT.sIx;simp[show ¬ t<0 by omega]
 unfold Pr;rw[e];have q:HT.sIx xs.length 0 none=0:=rfl;rw[q,List.drop_zero,Nat.sub_zero,Nat.min_comm];rw[<- List.take_take];exact A2A (by rw[A10];omega)
theorem Hd {lo:Int} {n i:Nat} {x:V} (h:((List.range n).map λ(i:Nat)=>V.int (lo+(i:Int)))[i]? = some x):x = .int (lo+(i:Int))/\i<n:=by
 rw[A06] at h
 cases e:(List.range n)[i]? with
 |none=>rw[e] at h;cases h
 |some j=>
   rw[e] at h
   cases h;have q:=A00.mp e;obtain⟨h1,h2⟩:=q;rw[A1V] at h1;rw[List.getElem_range] at h2;subst h2;exact⟨rfl,h1⟩
def fI (F:Int->V):V->V
 |.int k=>F k
 |v=>v
theorem Wh {lo:Int}{n:Nat}{F:Int->V}{G:Nat->Str}(h:∀ k<n,F (lo+(k:Int)) = .str (G k)):((List.range n).map λ(i:Nat)=>V.int (lo+(i:Int))).map (fI F)=((List.range n).map G).map V.str:=by rw[A1A,A1A];refine A0W λk q=>?_;exact h k (A21.mp q)
theorem W8:LL.length<=sizeLine:=by rw[aO3,A1I];omega
theorem Zf {ns:List Str}(h:Names ns){k:Int}:∃ ms,Yt (ns.map V.str) k=ms.map V.str/\Names ms/\ms.length=ns.length:=by
 unfold Yt
 split
 . exact⟨ns,rfl,h,rfl⟩
 exact⟨ns.reverse,by rw[List.map_reverse],h.reverse,A50 ..⟩
theorem ExtBut.off {d q:Addr}{H H1 H2:Hp}(e:ExtBut d H H1)(J:H q=none)(F:ExtBut q H1 H2):ExtBut d H H2:=λb o n h=>F b o (ne_of_none h J) (e b o n h)
theorem Same.off {q:Addr}{H H1 H2:Hp}(e:Same H H1)(J:H q=none)(F:ExtBut q H1 H2):Same H H2:=λb o h=>F b o (ne_of_none h J) (e b o h)
def Up (ls:List Str)(ps:List (Str×Str)):Prop:=∀ p∈ps,∃ i j:Nat,i<j/\ls[i]? = some p.1/\ls[j]? = some p.2
theorem Up.nil {ls:List Str}:Up ls []:=λ_ h=>by cases h
theorem Up.append {ls:List Str}{ps qs:List (Str×Str)}(h:Up ls ps)(g:Up ls qs):Up ls (ps++qs):=λp hp=>by
 rcases A0C.mp hp with hp|hp
 . exact h p hp
 exact g p hp
theorem Up.one {ls:List Str}{x y:Str}{i j:Nat}(h:i<j)(q:ls[i]? = some x)(F:ls[j]? = some y):Up ls [(x,y)]:=λp hp=>by
 have:p=(x,y):=by simpa using hp
 subst this;exact⟨i,j,h,q,F⟩
theorem Up.sub {ls:List Str}{ps qs:List (Str×Str)}(h:Up ls ps)(s:∀ p∈qs,p∈ps):Up ls qs:=λp hp=>h p (s p hp)
theorem str_at? {ls:List Str}{i:Int}(q:0<=i)(h1:i<ls.length):∃ z,ls[i.toNat]? = some z/\atI (ls.map V.str) i=some (.str z)/\atI ls i=some z:=by
 have h2:i.toNat<ls.length:=by omega
 refine⟨ls[i.toNat],A04 h2,?_,?_⟩
 . have:=Dz (xs:=ls.map V.str) (j:=i.toNat) (v:=.str ls[i.toNat]) (by rw[A06,A04 h2];rfl);rwa[A2R q] at this
 have:=Dz (A04 h2);rwa[A2R q] at this
theorem Ql {α:Type}:∀(us:List α) (k:Nat) (y:α),us[k]? = some y->(y :: us.eraseIdx k).Perm us
 | [],k,y,h=>by simp at h
 |u :: us,0,y,h=>by
   have:u=y:=by simpa using h
   subst this;exact List.Perm.refl _
 |u :: us,k+1,y,h=>by have q:=Ql us k y (by simpa using h);exact(List.Perm.swap u y _).trans (q.cons u)
theorem aj8 {α:Type}{us:List α}{k:Nat}{y:α}(h:us[k]? = some y)(vs:List α):(vs++[y]++us.eraseIdx k).Perm (vs++us):=by rw[A1Z];exact List.Perm.append_left vs (Ql us k y h)
theorem Wf {α:Type}{l:List α}{i:Nat}{x y:α}(h:l[i]? = some x):l.getD i y=x:=by rw[A1R,h];rfl
theorem af5 {α:Type}(as:List α)(f:α->Str×Str):as.map (λa=>prD (f a))=(as.map f).map prD:=by rw[A1A];rfl
theorem Gu {α:Type}{l:List α}{i:Nat}{y:α}(h:i<l.length):l[i]? = some (l.getD i y):=by rw[A1R,A04 h];rfl
inductive Way (ps:List (Str×Str)):Str->Str->Prop
 |one {x y:Str}:(x,y)∈ps->Way ps x y
 |cons {x z y:Str}:(x,z)∈ps->Way ps z y->Way ps x y
theorem Way.trans {ps:List (Str×Str)}{x y z:Str}(h:Way ps x y)(g:Way ps y z):Way ps x z:=by
 induction h with
 |one e=>exact .cons e g
 |cons e _ ih=>exact .cons e (ih g)
theorem Way.snoc {ps:List (Str×Str)}{x y z:Str}(h:Way ps x y)(g:(y,z)∈ps):Way ps x z:=h.trans (.one g)
theorem Way.left {ps:List (Str×Str)}{x y:Str}(h:Way ps x y):x∈ps.map (·.1):=by
 cases h with
 |one e=>exact A0E.mpr ⟨_,e,rfl⟩
 |cons e _=>exact A0E.mpr ⟨_,e,rfl⟩
theorem Way.right {ps:List (Str×Str)}{x y:Str}(h:Way ps x y):y∈ps.map (·.2):=by
 induction h with
 |one e=>exact A0E.mpr ⟨_,e,rfl⟩
 |cons _ _ ih=>exact ih
theorem Way.mono {ps qs:List (Str×Str)}(h:∀ p∈ps,p∈qs){x y:Str}(g:Way ps x y):Way qs x y:=by
 induction g with
 |one e=>exact .one (h _ e)
 |cons e _ ih=>exact .cons (h _ e) ih
theorem Way.shut {ps:List (Str×Str)}{S:Str->Prop}{x:Str}(q:∀ y,(x,y)∈ps->S y)(h1:∀ z y,S z->(z,y)∈ps->S y){y:Str}(g:Way ps x y):S y:=by
 induction g with
 |one e=>exact q _ e
 |cons e _ ih=>exact ih λy F=>h1 _ _ (q _ e) F
theorem Up.lt {ls:List Str}(hn:ls.Nodup){ps:List (Str×Str)}(h:Up ls ps){x y:Str}(g:Way ps x y):∃ i j:Nat,i<j/\ls[i]? = some x/\ls[j]? = some y:=by
 induction g with
 |one e=>exact h _ e
 |cons e _ ih=>
   obtain⟨i,j,h1,h2,J⟩:=h _ e;obtain⟨O,U,Y,q,F⟩:=ih
   have e:j=O:=by obtain⟨a,b⟩:=A00.mp J;obtain⟨c,d⟩:=A00.mp q;exact(A1G hn).mp (b.trans d.symm)
   exact⟨i,U,by omega,h2,F⟩
theorem Up.irrefl {ls:List Str}(hn:ls.Nodup){ps:List (Str×Str)}(h:Up ls ps){x:Str}:¬ Way ps x x:=λg=>by obtain⟨i,j,h1,h2,q⟩:=h.lt hn g;obtain⟨a,b⟩:=A00.mp h2;obtain⟨c,d⟩:=A00.mp q;have:=(A1G hn).mp (b.trans d.symm);omega
theorem Up.mem {ls:List Str}{ps:List (Str×Str)}(h:Up ls ps){p:Str×Str}(hp:p∈ps):p.1∈ls/\p.2∈ls:=by obtain⟨i,j,_,h2,q⟩:=h p hp;exact⟨A03 h2,A03 q⟩
structure Half (ns:List Str)(ps:List (Str×Str)):Prop where
 names:Names ns
 few:ns.length<=10
 le:ps.length<=60
 line:∃ ls:List Str,ls.Perm ns/\Up ls ps
theorem Half.irrefl {ns:List Str}{ps:List (Str×Str)}(h:Half ns ps){x:Str}:¬ Way ps x x:=by obtain⟨ls,h1,h2⟩:=h.line;exact h2.irrefl (h1.nodup_iff.mpr h.names.1)
theorem Half.mem {ns:List Str}{ps:List (Str×Str)}(h:Half ns ps){p:Str×Str}(hp:p∈ps):p.1∈ns/\p.2∈ns:=by obtain⟨ls,h1,h2⟩:=h.line;have:=h2.mem hp;exact⟨h1.mem_iff.mp this.1,h1.mem_iff.mp this.2⟩
theorem Vc (ls:List Str):PyData.eqv (.list (ls.map PyData.str)) (.list [])=ls.isEmpty:=by cases ls<;>simp[PyData.eqv,PyData.eqvAll]
mutual
def Ei:PyData->Bool
 |.none=>true
 |.bool _=>true
 |.str x=>PyData.strOk x
 |.list ds=>Kn ds
 |.tuple ds=>Kn ds
 |_=>false
def Kn:List PyData->Bool
 | []=>true
 |d :: ds=>Ei d&&Kn ds
end
mutual
theorem L3:∀ d:PyData,Ei d=true->d.canLay0=true
 |.none,_=>by simp only[PyData.canLay0]
 |.bool _,_=>by simp only[PyData.canLay0]
 |.str x,h=>by simpa only[PyData.canLay0,Ei] using h
 |.list ds,h=>by simp only[PyData.canLay0];exact Jj ds (by simpa only[Ei] using h)
 |.tuple ds,h=>by simp only[PyData.canLay0];exact Jj ds (by simpa only[Ei] using h)
 |.int _,h=>by simp[Ei] at h
 |.dict _,h=>by simp[Ei] at h
theorem Jj:∀ ds:List PyData,Kn ds=true->PyData.canLayAll0 ds=true
 | [],_=>by simp only[PyData.canLayAll0]
 |d :: ds,h=>by simp only[Kn,Bool.and_eq_true] at h;simp only[PyData.canLayAll0,L3 d h.1,Jj ds h.2,Bool.and_self]
end
structure Fine (d:PyData):Prop where
 plain:Ei d=true
 deep:d.depth<=60
 light:d.weight<=1000000
theorem Fine.shaped {d:PyData}(h:Fine d):SeqAt.shaped d=true:=by unfold SeqAt.shaped;rw[L3 d h.plain,A0Y (A0O h.deep nofun)];rfl
theorem Z4 {z:Str}(h:M8 z=true):PyData.strOk z=true/\z.cps.size<=8:=by unfold M8 at h;simp only[Bool.and_eq_true,decide_eq_true_eq] at h;refine⟨?_,h.1.2⟩;unfold PyData.strOk;rw[<- Array.all_toList,A2C];intro c q;have:=A2C.mp h.2 c q;unfold Mg at this;simp only[Bool.and_eq_true,decide_eq_true_eq] at this;exact A0Y ∅
theorem Ht {α:Type}(f:α->PyData):∀ xs:List α,(∀ a∈xs,Ei (f a)=true)->Kn (xs.map f)=true
 | [],_=>by simp only[List.map_nil,Kn]
 |x :: xs,h=>by simp only[List.map_cons,Kn,h x List.mem_cons_self,Ht f xs λa ha=>h a (List.mem_cons_of_mem _ ha),Bool.and_self]
theorem L5 {α:Type}(f:α->PyData)(n:Nat):∀ xs:List α,(∀ a∈xs,(f a).depth<=n)->PyData.depthAll (xs.map f)<=n
 | [],_=>by simp only[List.map_nil,PyData.depthAll];omega
 |x :: xs,h=>by have h1:=h x A0B;have h2:=L5 f n xs λa ha=>h a (A09 _ ha);simp only[List.map_cons,PyData.depthAll];omega
theorem Lm {α:Type}(f:α->PyData)(n:Nat):∀ xs:List α,(∀ a∈xs,(f a).weight<=n)->PyData.weightAll (xs.map f)<=xs.length*(n+1)
 | [],_=>by simp only[List.map_nil,PyData.weightAll];omega
 |x :: xs,h=>by have h1:=h x A0B;have h2:=Lm f n xs λa ha=>h a (A09 _ ha);simp only[List.map_cons,PyData.weightAll,List.length_cons,Nat.add_mul];omega
theorem Jg {p:Str×Str}(h1:M8 p.1=true)(h2:M8 p.2=true):Ei (prD p)=true/\(prD p).depth<=1/\(prD p).weight<=18:=by have a:=Z4 h1;have b:=Z4 h2;refine⟨by simp only[prD,Ei,Kn,a.1,b.1,Bool.and_self],by simp only[prD,PyData.depth,PyData.depthAll];omega,?_⟩;simp only[prD,PyData.weight,PyData.weightAll];omega
theorem ak6 {ns:List Str}(h:∀ z∈ns,M8 z=true):Ei (nmD ns)=true/\(nmD ns).depth<=1/\(nmD ns).weight<=ns.length*9:=by
 refine⟨by simp only[nmD,Ei];exact Ht _ ns λz hz=>by simp only[Ei];exact(Z4 (h z hz)).1,?_,?_⟩
 . simp only[nmD,PyData.depth];have:=L5 PyData.str 0 ns λz hz=>by simp only[PyData.depth];omega
   omega
 simp only[nmD,PyData.weight];exact Lm PyData.str 8 ns λz hz=>by simp only[PyData.weight];exact(Z4 (h z hz)).2
def NmP (ps:List (Str×Str)):Prop:=∀ p∈ps,M8 p.1=true/\M8 p.2=true
theorem an1 {ps:List (Str×Str)}(h:NmP ps):Ei (psD ps)=true/\(psD ps).depth<=2/\(psD ps).weight<=ps.length*19:=by
 refine⟨by simp only[psD,Ei];exact Ht _ ps λz hz=>(Jg (h z hz).1 (h z hz).2).1,?_,?_⟩
 . simp only[psD,PyData.depth];have:=L5 prD 1 ps λz hz=>(Jg (h z hz).1 (h z hz).2).2.1;omega
 simp only[psD,PyData.weight];exact Lm prD 18 ps λz hz=>(Jg (h z hz).1 (h z hz).2).2.2
theorem ai5 {ns:List Str}(h:∀ z∈ns,M8 z=true)(q:ns.length<=1000):Fine (nmD ns):=let ⟨a,b,c⟩:=ak6 h;⟨a,by omega,by omega⟩
theorem aD3 {ps:List (Str×Str)}(h:NmP ps)(q:ps.length<=1000):Fine (psD ps):=let ⟨a,b,c⟩:=an1 h;⟨a,by omega,by omega⟩
theorem am4 {ns:List Str}(h:∀ z∈ns,PyData.strOk z=true):SeqAt.shaped (.list (ns.map PyData.str))=true:=by
 unfold SeqAt.shaped;have e:(PyData.list (ns.map PyData.str)).canLay0=true:=L3 _ (by simp only[Ei];exact Ht _ ns λz hz=>by simp only[Ei];exact h z hz)
 have q:(PyData.list (ns.map PyData.str)).depth<=64:=by
  simp only[PyData.depth];have:=L5 PyData.str 0 ns λz hz=>by simp only[PyData.depth];omega
  omega
 rw [e,A0Y q];rfl
theorem By {α:Type}[DecidableEq α]:∀ {xs ys:List α},xs.Nodup->(∀ x∈xs,x∈ys)->xs.length<=ys.length
 | [],_,_,_=>A2J _
 |x :: xs,ys,h,hs=>by
   rw[A0V] at h;have q:x∈ys:=hs x A0B
   have F:=By (xs:=xs) (ys:=ys.erase x) h.2 λz hz=>by refine(List.mem_erase_of_ne ?_).mpr (hs z (A09 _ hz));intro e;subst e;exact h.1 hz
   rw[List.length_erase_of_mem q] at F;have:0<ys.length:=A4K q;rw[A0G];omega
section
variable {c:TT}{tb:TS}{D:Ph}{σ:St}{H:Hp}
theorem ag3 (W:Nat->St->Hp->Prop)(m:Nat)(F:W m σ H)
  (J:∀ m σ H,W m σ H->c σ H λb H1=>if b=true then ∃ N:St->Hp->Prop,(∀ σ' H',N σ' H'->∃ q,q<m/\W q σ' H')/\tb {D with nx:=N,ct:=N,bk:=D.nx} σ H1 else D.nx σ H1):as6 c tb D σ H:=⟨W,⟨m,F⟩,J⟩
theorem ap4 {W:Nat->St->Hp->Prop}{m:Nat}(h:tb {D with nx:=fun σ' H'=>∃ q,q<m/\W q σ' H',ct:=fun σ' H'=>∃ q,q<m/\W q σ' H',bk:=D.nx} σ H) :
  ∃ N:St->Hp->Prop,(∀ σ' H',N σ' H'->∃ q,q<m/\W q σ' H')/\tb {D with nx:=N,ct:=N,bk:=D.nx} σ H:=⟨_,λ_ _ h=>h,h⟩
end
section
variable {X:Cx}{K:W.Frag}
def Wc:V->List V->Hp->VK->Prop:=λx vs H Q=>∃ d o kvs more,x = .ref d/\vs=[.ref o]/\d≠o/\H d=some (.dK kvs)/\H o=some (.dK more)/\kvs.length+more.length<=1000000/\Q .non (upd H d (.dK (Gm kvs more)))
theorem a02:MtM X "dict.update" Wc:=by
 intro pins s σ H x vs v us Q I rx rv h;obtain⟨d,o,kvs,more,rfl,rfl,a5,U,hO,hz,q⟩:=h
 cases rx;obtain⟨u,rfl,ru⟩:=rv.one
 cases ru;obtain⟨z1,a3,a0,Y,O⟩:=Vl I.hok U;obtain⟨z2,a4,a1,Z,a2⟩:=Vl I.hok hO;have l1:kvs.length=a0.length:=Y.length;have l2:more.length=a1.length:=Z.length;refine A3X F.slot_dict_update O.typeIs F.entry_dict_update (F.args_dict_update_2 _ _) (meets_dict_update (Ax X.prog X.w) d o a5 a4) ⟨a0,a1,O,a2,Ab ∅,λh' J _ hs=>?_⟩;have he:∃ q,h'.get? d=some q:=let ⟨q,_,_,hq,_⟩:=J;⟨q,hq⟩;refine⟨.non,_,Sj I (by rw[U];exact A2B) hs he (Ut ?_ a3 (KV.merge Z Y) J),rfl,q⟩;have:=G2 more kvs;exact Ab ∅
end
theorem Ny:entryFor table "dict.update.loop" = some Builtin.«dict.update.loop»:=entryFor_of_tree (by kernel_rfl)
theorem Ig:plainId "dict.update.loop" = true:=by decide +kernel
theorem Tr:typeLookup (.type "list") "keys" = pure none:=by rw[typeLookup_type,builtinLookup_eq_fast];kernel_rfl
section
variable {prog:Program}{w:World}{κ:Type}[DecidableEq κ]{knd:KeyKind prog w κ}{A:Around}{E:Value->Shared->Prop}{s:Shared}
theorem ai4 {a:Addr}{xs:Array Value}{k:Nat}{Q:Option Value->Shared->Prop}(J:s.heap.get? a=some {cls:=.type "list",data:=.seq xs k})(Y:A.handled=none)
  (h:∀ h' tk,(∀ b o,s.heap.get? b=some o->h'.get? b=some o)->Q none {s with heap:=h',toks:=tk}):wpAny (model prog w) A (getAttr? (.ref a) "keys") Q E s:=by
 obtain⟨hp,g,d,tk,os⟩:=s;have q:∀ U,(⟨hp,g,d,U,os⟩:Shared).TypeIs (.ref a) "list":=λ_=>⟨_,J,rfl⟩;have Z:=sub_AttributeError;have f3:=F.slot_list_getattribute.lookup;have f4:=F.slot_list_getattribute.bind (.ref a);have f5:=am_list_getattr_none;unfold getAttr? getAttrBy? getAttrBy
 repeat (any_goals (first | assumption | exact q _ | ((with_reducible show wpAny _ _ (call (Value.builtin "list.__getattribute__") _ _) _ _ _);refine A3R F.slot_list_getattribute (q _) am_entry_list_getattribute (F.args_list_getattribute_2 _ _) (meets_getattribute_miss_list a xs k #[] "keys" _ Tr (by decide +kernel) (by rw[A1I];decide +kernel)) ⟨J,Y,λh' U e O=>?_⟩) | wp_step))
 obtain⟨t',u',he⟩:=O.there;show wpAny _ _ (getattributeRaised _ _ _ _ _ _ _) _ _ _;unfold getattributeRaised
 repeat (any_goals (first | assumption | wp_step))
 exact h _ _ O.keeps
theorem Zb {t:Addr}{k v:Value}{Q:List Value->Shared->Prop}(J:IsTup s.heap t #[k,v])(h:Q [k,v] s):wpAny (model prog w) A (Builtin.Dict.pairItems (.ref t)) Q E s:=by obtain⟨o,q,F,n,hd⟩:=J;unfold Builtin.Dict.pairItems;refine A05 (A3V ⟨o,q,F⟩ ?_);rw[A0Z nofun];refine A05 (A4X q hd ?_);exact A0K h
theorem ah1 {I D l:Addr}{items:Array Value}(hh:A.in1.handled=none)(aH:l≠I)(J:D≠I)(aC:D≠l)(pk:List (κ×Value×Addr×Value))(aG:pk.length=items.size)(hz:items.size<=1000000) :
  ∀(j i:Nat) (s:Shared) (R:Result->Shared->Prop),items.size-i=j->i<=items.size->s.heap.IsListIter I l i->s.heap.IsList l items ->
   s.heap.DictOf knd D (merged [] ((pk.take i).map λp=>(p.1,p.2.1))) ->
   (∀(n:Nat) (p:κ×Value×Addr×Value),pk[n]? = some p->items[n]? = some (Value.ref p.2.2.1)/\p.2.2.1≠I/\p.2.2.1≠D/\IsTup s.heap p.2.2.1 #[p.2.2.2,p.2.1]/\knd.is p.1 p.2.2.2=true) ->
   (∀ h' tk,h'.DictOf knd D (merged [] (pk.map λp=>(p.1,p.2.1)))->(∀ b o,b≠D->b≠I->s.heap.get? b=some o->h'.get? b=some o)->R (.ok (.ret .none)) {s with heap:=h',toks:=tk}) ->
   codeAny (model prog w) A (.builtin "dict.update.loop" ⟨[.ref D,.ref I,.int i 0,.none],[]⟩) R s:=by
 have W:=Walks.list (prog:=prog) (w:=w) hh I l aH items;intro j
 induction j with
 |zero=>
   intro i s R hj hi O U F Y Z;have aE:i=items.size:=by omega
   subst aE;refine codeAny_builtin Ny ?_;rw[Around.under_plainId Ig _];show wpAny _ A.in1 (pyNext (.ref I) >>= _) _ _ s;refine A05 (W.done s _ _ ⟨O,U⟩ λh' tk hm=>?_);show wpAny _ A.in1 (Builtin.Dict.addKeywords D [] >>= _) _ _ _;refine wpAny_bind (wpAny_pure (wpAny_pure (Z h' tk ?_ λb o hb aD e=>hm b o (by simpa using aD) e)));rw[<- aG,A0U] at F;obtain⟨o,es,ep,q,r⟩:=F;exact⟨o,es,ep,hm D o (by simpa using J) q,r⟩
 |succ j ih=>
   intro i s R hj hi O U F Y Z;have a4:i<items.size:=by omega
   obtain⟨p,hp⟩:∃ p,pk[i]? = some p:=⟨pk[i]'∅,A04 _⟩;obtain⟨q1,q2,q3,q4,q5⟩:=Y i p hp;refine codeAny_builtin Ny ?_;rw[Around.under_plainId Ig _];show wpAny _ A.in1 (pyNext (.ref I) >>= _) _ _ s;refine A05 (W.item i s _ _ a4 ⟨O,U⟩ λv h' tk hv a6 hm=>?_)
   have aK:v = .ref p.2.2.1:=by have a7:items[i]? = some v:=hv;rw[q1] at a7;exact(A15 a7).symm
   subst aK
   have aJ:IsTup h' p.2.2.1 #[p.2.2.2,p.2.1]:=by obtain⟨o,q,r⟩:=q4;exact⟨o,hm _ o (by simpa using q2) q,r⟩
   have a9:h'.DictOf knd D (merged [] ((pk.take i).map λp=>(p.1,p.2.1))):=by obtain⟨o,es,ep,q,r⟩:=F;exact⟨o,es,ep,hm D o (by simpa using J) q,r⟩
   show wpAny _ A.in1 (holding [Value.ref p.2.2.1] _ >>= _) _ _ _;refine A05 (A42 ?_);refine A05 (wpAny_tryCatch (Zb aJ ?_));show wpAny _ A.in1 (holding [p.2.2.2,p.2.1] (dictSet D p.2.2.2 p.2.1)) _ _ _;refine A42 (wpAny_dictSet_pairs q5 a9 (λa8 aA hs=>?_) ?_)
   . refine A0K ⟨A56 Ig _,?_⟩;have a0:∀ b o,b≠D->b≠I->s.heap.get? b=some o->a8.get? b=some o:=λb o h1 h2 e=>(hs.2 b h1).trans (hm b o (by simpa using h2) e);refine ih (i+1) _ R ∅ a4 ?_ ?_ ?_ (λn p' aI=>?_) λh3 aL aB aF=>Z h3 aL aB λb o h1 h2 e=>aF b o h1 h2 (a0 b o h1 h2 e)
     . exact a6.1.at λo e=>(hs.2 I (Ne.symm J)).trans e
     . exact a6.2.at λo e=>(hs.2 l (Ne.symm aC)).trans e
     . have e:merged [] ((pk.take (i+1)).map λp=>(p.1,p.2.1))=stored (merged [] ((pk.take i).map λp=>(p.1,p.2.1))) p.1 p.2.1:=by rw[A0S,hp];unfold merged;rw[A13,List.foldl_append];rfl
       rw[e];exact aA
     obtain⟨a1,a2,a3,⟨o,q,r⟩,a5⟩:=Y n p' aI;exact⟨a1,a2,a3,⟨o,a0 _ o a3 a2 q,r⟩,a5⟩
   refine A0O (merged_length_le _ _) (Ab ?_);rw[A01,A10];simp;omega
theorem Nd {l:Addr}{items:Array Value}{n:Nat}{Q:Value->Shared->Prop}(hl:s.heap.get? l=some {cls:=.type "list",data:=.seq items n})(Z:A.handled=none)(pk:List (κ×Value×Addr×Value))(a6:pk.length=items.size)(hz:items.size<=1000000)
  (hP:∀(n:Nat) (p:κ×Value×Addr×Value),pk[n]? = some p->items[n]? = some (Value.ref p.2.2.1)/\IsTup s.heap p.2.2.1 #[p.2.2.2,p.2.1]/\knd.is p.1 p.2.2.2=true)
  (h:∀ h' tk,h'.DictOf knd s.heap.objs.size (merged [] (pk.map λp=>(p.1,p.2.1)))->(∀ b o,s.heap.get? b=some o->h'.get? b=some o)->Q (.ref s.heap.objs.size) {s with heap:=h',toks:=tk}) :
  wpAny (model prog w) A (call (.type "dict") [.ref l]) Q E s:=by
 refine callType_codes (Q₁:=λobj s₁=>obj = .ref s.heap.objs.size/\s₁={s with heap:=s.heap.push {cls:=.type "dict",data:=.dict #[]}}) F.kt_called_dict (F.kt_typeCall_dict_1 _) F.entry_dict_init (kt_code_dict_new _ ⟨rfl,rfl⟩) ?_
 rintro obj s₁ ⟨rfl,rfl⟩;have Y:(s.heap.push {cls:=.type "dict",data:=.dict #[]}).DictOf knd s.heap.objs.size []:=Heap.DictOf.new s.heap;have U:(s.heap.push {cls:=.type "dict",data:=.dict #[]}).get? l=some {cls:=.type "list",data:=.seq items n}:=A02 _ hl;have a4:l<s.heap.objs.size:=A0D hl;refine⟨Y.typeIs,F.args_dict_init_2 _ _,?_⟩;unfold Builtin.«dict.__init__»;refine A05 ?_;unfold Builtin.Dict.selfAndRest;refine A05 (wpAny_notOrdered_dict Y.typeIs ?_);show wpAny _ _ (pure (s.heap.objs.size,[Value.ref l])) _ _ _;refine A0K ?_;show wpAny _ _ (Builtin.Dict.updateFrom "dict.__init__" s.heap.objs.size (.ref l) [] .none) _ _ _;unfold Builtin.Dict.updateFrom;refine A05 (A3V ⟨_,U,rfl⟩ ?_);rw[A0Z nofun];refine wpAny_bind (ai4 U (by simpa using Z) λh1 a7 O=>?_);have a5:h1.get? l=some {cls:=.type "list",data:=.seq items n}:=O _ _ U;rw[A0Z (show(none:Option Value).isNone=true from rfl)]
 have a0:h1.DictOf knd s.heap.objs.size []:=by obtain⟨o,es,ep,q,r⟩:=Y;exact⟨o,es,ep,O _ _ q,r⟩
 have hsz:s.heap.objs.size<h1.objs.size:=by obtain⟨o,es,ep,q,r⟩:=a0;exact A0D q
 refine A05 (wpAny_rule ?_);have a2:h1.IsList l items:=⟨_,a5,rfl,n,rfl⟩;refine A05 (A3S a2 ?_);refine A0K ⟨A56 Ig _,?_⟩;have kp:∀ b o,s.heap.get? b=some o->(h1.push {cls:=.type "list_iterator",data:=.fields #[.ref l,.int 0 0]}).get? b=some o:=λb o e=>A02 _ (O _ _ (A02 _ e));refine ah1 (knd:=knd) (A:=A.in1) (I:=h1.objs.size) (D:=s.heap.objs.size) (l:=l) (items:=items) (by simpa using Z) (Nat.ne_of_lt (Nat.lt_trans a4 hsz)) (Nat.ne_of_lt hsz) (Nat.ne_of_gt a4) pk a6 hz items.size 0 _ _ (Nat.sub_zero _) (Nat.zero_le _) ⟨_,Heap.get?_push_size _ rfl,rfl,rfl⟩ (a2.push _) ?_ (λm p hp=>?_) λh' tk hD hk=>?_
 . exact a0.push _
 . obtain⟨a1,⟨o,q,r⟩,a3⟩:=hP m p hp;have J:=A0D q;exact⟨a1,A11 (A48 J hsz),A11 J,⟨o,kp _ _ q,r⟩,a3⟩
 refine⟨rfl,h h' tk hD λb o e=>?_⟩;have J:=A0D e;exact hk b o (A11 J) (A11 (A48 J hsz)) (kp b o e)
end
def PrsK (K:W.Frag)(H:Hp):List (Key×V)->List V->Prop
 | [],ys=>ys=[]
 |kv :: r,ys=>∃ t q,ys = .ref t :: q/\SqT K H t [kV kv.1,kv.2]/\PrsK K H r q
theorem PrsK.pk {X:Cx}{pins:List (Addr×Obj)}{σ:St}{H:Hp}{s:Shared}(I:Inv X pins σ H s):∀(kvs:List (Key×V)) (ys:List V) (its:List Value),PrsK X.K H kvs ys->Vals ys its ->
  ∃ pk:List (Key×Value×Addr×Value),pk.length=its.length/\KV kvs (pk.map λp=>(p.1,p.2.1))/\∀(n:Nat) (p:Key×Value×Addr×Value),pk[n]? = some p->its[n]? = some (Value.ref p.2.2.1)/\IsTup s.heap p.2.2.1 #[p.2.2.2,p.2.1]/\(Ax X.prog X.w).is p.1 p.2.2.2=true
 | [],ys,its,h,v=>by
   have h':ys=[]:=h;subst h'
   cases v;exact ⟨[],rfl,.nil,λn p hp=>by simp at hp⟩
 |kv :: r,ys,its,h,v=>by
   obtain⟨t,a0,rfl,h2,O⟩:=h
   cases v with
   |cons v1 v2=>
     obtain⟨pk,Y,Z,l3⟩:=PrsK.pk I r a0 _ O v2
     cases v1;obtain ⟨a2,rv,U,_⟩:=I.tuple h2;obtain⟨q,val,rfl,F,J⟩:=Vals.two rv;refine⟨(kv.1,val,t,q) :: pk,by simp[Y],.cons ⟨rfl,J⟩ Z,λn p hp=>?_⟩
     cases n with
     |zero=>have:p=(kv.1,val,t,q):=(Option.some.inj (by simpa using hp)).symm;subst this;exact⟨rfl,U,Pw F⟩
     |succ n=>exact l3 n p (by simpa using hp)
section
variable {X:Cx}{K:W.Frag}
def ab1 (K:W.Frag):List V->Hp->VK->Prop:=λxs H Q=>∃ l ys kvs,xs=[V.ref l]/\H l=some (.lst ys)/\PrsK K H kvs ys/\ys.length<=1000000/\kvs.length<=1000000/\∀ p,H p=none->Q (.ref p) (upd H p (.dK (Gm [] kvs)))
theorem Zq (hr:X.A.handled=none):CallR X (.type "dict") (ab1 X.K):=by
 intro pins s σ H xs us Q I rv h;obtain⟨l,ys,kvs,rfl,Z,hp,hz,a0,q⟩:=h;obtain⟨u,rfl,ru⟩:=rv.one
 cases ru;obtain⟨z,a4,n,r,a5,e⟩:=I.lstM Z;obtain⟨pk,l1,l2,l3⟩:=PrsK.pk I kvs ys a4 hp r;refine Nd (knd:=Ax X.prog X.w) e hr pk (by simpa using l1) (by simp;omega) (λn p hp=>?_) λh' tk U Y=>?_
 . obtain⟨F,J,O⟩:=l3 n p hp;exact⟨by simpa using F,J,O⟩
 refine⟨.ref s.heap.objs.size,_,I.laid Y (A08 _) (Ut ?_ ?_ (KV.merge l2 .nil) U),rfl,q _ (I.hok.fresh (A08 _))⟩
 . have:=G2 kvs [];exact Ab (by simpa using Nat.le_trans this (by simpa using a0))
 exact A1L.mpr (A4N I.big)
theorem M0 (F:X.A.handled=none)(q:X.K=K:=by ac_nf):CallR X (.type "dict") (ab1 K):=q ▸ Zq F
end
def Ge (ns:List Str)(as:List Addr):List (Key×V):=(ns.zip as).map λp=>(Sum.inr p.1,V.ref p.2)
def Gz (ks:List Str):List (Key×V):=ks.map λy=>(Sum.inr y,V.bl true)
theorem Cu:∀ {ns:List Str} {as:List Addr} {i:Nat} {z:Str} {a:Addr},ns.Nodup->ns[i]? = some z->as[i]? = some a->Cj (Ge ns as) (Sum.inr z:Key)=some (.ref a)
 | [],_,i,_,_,_,h,_=>by simp at h
 |n :: ns,[],i,_,_,_,_,h=>by simp at h
 |n :: ns,b :: as,0,z,a,_,h,g=>by simp at h g;subst h g;exact Be rfl
 |n :: ns,b :: as,i+1,z,a,hn,h,g=>by
   rw[A0V] at hn;have h':ns[i]? = some z:=by simpa using h
   have ne:¬ (Sum.inr n:Key)=Sum.inr z:=by
    intro e;have q:n=z:=by injection e
    subst q;exact hn.1 (A03 h')
   show Cj ((Sum.inr n,V.ref b) :: Ge ns as) _=_;rw[Ba ne];exact Cu hn.2 h' (by simpa using g)
theorem Mw (y:Str):∀ ks:List Str,Cj (Gz ks) (Sum.inr y:Key)=if y∈ks then some (.bl true) else none
 | []=>by simp[Gz,am7]
 |k :: ks=>by
   show Cj ((Sum.inr k,V.bl true) :: Gz ks) _=_
   by_cases e:k=y
   . subst e;rw[Be rfl,A0Z A0B]
   rw[Ba (by intro q;injection q with q;exact e q),Mw y ks]
   have:(y∈k :: ks)↔y∈ks:=by simp[Ne.symm e]
   simp only[this]
def ag5 (ks:List Str)(y:Str):List Str:=if y∈ks then ks else ks++[y]
theorem mem_addK {ks:List Str}{y z:Str}:z∈ag5 ks y↔z∈ks\/z=y:=by
 unfold ag5
 split
 . constructor
   . exact .inl
   rintro(h|rfl)
   . exact h
   assumption
 simp
theorem Jo {ks:List Str}{y:Str}(h:ks.Nodup):(ag5 ks y).Nodup:=by
 unfold ag5
 split
 . exact h
 rename_i hy;rw[A1E];refine⟨h,by simp,λa ha b hb e=>?_⟩;have:b=y:=by simpa using hb
 subst this;subst e;exact hy ha
theorem au2 (y:Str)(ks:List Str):((Gz ks).any λkv=>decide (kv.1=(Sum.inr y:Key)))=decide (y∈ks):=by
 induction ks with
 |nil=>simp[Gz]
 |cons k ks ih=>
   show(decide ((Sum.inr k:Key)=Sum.inr y)||(Gz ks).any _)=_
   rw[ih]
   by_cases e:k=y
   . subst e;simp
   have F:¬ (Sum.inr k:Key)=Sum.inr y:=by intro q;injection q with q;exact e q
   simp[F,Ne.symm e]
theorem Ws (ks:List Str)(y:Str):G3 (Gz ks) (Sum.inr y:Key) (.bl true)=Gz (ag5 ks y):=by
 unfold G3 ag5;rw[au2]
 by_cases h:y∈ks
 . rw[A0Z (A0Y h),A0Z h];unfold Gz;rw[A1A];refine A0W λk _=>?_;show(if(Sum.inr k:Key)=Sum.inr y then(Sum.inr k,V.bl true) else(Sum.inr k,V.bl true))=_
   split<;>rfl
 rw[if_neg (by simpa using h),if_neg h];unfold Gz;rw[A13];rfl
def Mi (ks ms:List Str):List Str:=ms.foldl ag5 ks
theorem Uc:∀(ms ks:List Str),Gm (Gz ks) (Gz ms)=Gz (Mi ks ms)
 | [],ks=>rfl
 |m :: ms,ks=>by show Gm (G3 (Gz ks) (Sum.inr m) (.bl true)) (Gz ms)=_;rw[Ws,Uc ms];rfl
theorem mem_addAll:∀ {ms ks:List Str} {z:Str},z∈Mi ks ms↔z∈ks\/z∈ms
 | [],ks,z=>by simp[Mi]
 |m :: ms,ks,z=>by show z∈Mi (ag5 ks m) ms↔_;rw[mem_addAll,mem_addK,A0A,or_assoc]
theorem Gw:∀ {ms ks:List Str},ks.Nodup->(Mi ks ms).Nodup
 | [],ks,h=>h
 |m :: ms,ks,h=>Gw (ms:=ms) (Jo h)
theorem K8 (ks:List Str):(Gz ks).length=ks.length:=by simp[Gz]
theorem L7:∀(kvs acc:List (Key×V)),(kvs.map (·.1)).Nodup->(∀ k∈kvs,∀ q∈acc,q.1≠k.1)->Gm acc kvs=acc++kvs
 | [],acc,_,_=>by simp[Gm]
 |k :: kvs,acc,hn,hd=>by
   show Gm (G3 acc k.1 k.2) kvs=_
   have e:G3 acc k.1 k.2=acc++[k]:=by
    unfold G3
    have:¬ (acc.any λkv=>decide (kv.1=k.1))=true:=by rw[A1D];rintro⟨q,F,e⟩;exact hd k A0B q F (A4F e)
    rw[A0Q this]
   rw[A0H,A0V] at hn;rw[e,L7 kvs (acc++[k]) hn.2 λx J q F=>?_,A1Z]
   . rfl
   rcases A0C.mp F with F|F
   . exact hd x (A09 _ J) q F
   have:q=k:=by simpa using F
   subst this;intro e;exact hn.1 (A0E.mpr ⟨x,J,e.symm⟩)
structure Tab (H:Hp)(r:Addr)(ns:List Str)(as:List Addr)(R:Str->Str->Prop):Prop where
 len:as.length=ns.length
 nd:as.Nodup
 nr:r∉as
 top:H r=some (.dK (Ge ns as))
 row:∀(i:Nat) (z:Str) (a:Addr),ns[i]? = some z->as[i]? = some a->∃ ks:List Str,H a=some (.dK (Gz ks))/\ks.Nodup/\(∀ y∈ks,y∈ns)/\∀ y,y∈ks↔R z y
theorem Tab.same {H H':Hp}{r:Addr}{ns:List Str}{as:List Addr}{R:Str->Str->Prop}(h:Tab H r ns as R)(e:Same H H'):Tab H' r ns as R:=
 ⟨h.len,h.nd,h.nr,e _ _ h.top,λi z a hz ha=>let ⟨ks,h1,h2⟩:=h.row i z a hz ha;⟨ks,e _ _ h1,h2⟩⟩
theorem Tab.congr {H:Hp}{r:Addr}{ns:List Str}{as:List Addr}{R R':Str->Str->Prop}(h:Tab H r ns as R)(e:∀ z∈ns,∀ y,R z y↔R' z y):Tab H r ns as R':=
 ⟨h.len,h.nd,h.nr,h.top,λi z a hz ha=>let ⟨ks,h1,h2,h3,h4⟩:=h.row i z a hz ha;⟨ks,h1,h2,h3,λy=>(h4 y).trans (e z (A03 hz) y)⟩⟩
theorem Tab.put {H H':Hp}{r b:Addr}{ns:List Str}{as:List Addr}{R R':Str->Str->Prop}(h:Tab H r ns as R)(e:ExtBut b H H'){j:Nat}{x:Str}(hn:ns.Nodup)(J:ns[j]? = some x)(hb:as[j]? = some b){ks:List Str}
  (hk:H' b=some (.dK (Gz ks))) (k1:ks.Nodup) (k2:∀ y∈ks,y∈ns) (k3:∀ y,y∈ks↔R' x y) (k4:∀ z∈ns,z≠x->∀ y,R z y↔R' z y):Tab H' r ns as R':=by
 refine⟨h.len,h.nd,h.nr,e _ _ (λq=>h.nr (q ▸ A03 hb)) h.top,λi z a hz ha=>?_⟩
 by_cases F:i=j
 . subst F;rw[hz] at J
   cases J;rw[ha] at hb
   cases hb;exact⟨ks,hk,k1,k2,k3⟩
 obtain⟨ms,h1,h2,U,Y⟩:=h.row i z a hz ha
 have Z:a≠b:=by intro q;subst q;obtain⟨p1,p2⟩:=A00.mp ha;obtain⟨q1,O⟩:=A00.mp hb;exact F ((A1G h.nd).mp (p2.trans O.symm))
 have a0:z≠x:=by intro q;subst q;obtain⟨p1,p2⟩:=A00.mp hz;obtain⟨q1,O⟩:=A00.mp J;exact F ((A1G hn).mp (p2.trans O.symm))
 exact⟨ms,e _ _ Z h1,h2,U,λy=>(Y y).trans (k4 z (A03 hz) a0 y)⟩
theorem Tab.at {H:Hp}{r:Addr}{ns:List Str}{as:List Addr}{R:Str->Str->Prop}(h:Tab H r ns as R){x:Str}(F:x∈ns):∃(i:Nat) (a:Addr),ns[i]? = some x/\as[i]? = some a:=by
 obtain⟨i,hi,e⟩:=A1N F;have q:i<as.length:=by rw[h.len];exact hi
 exact⟨i,as[i],by rw[A04 hi,e],A04 q⟩
section
variable {K:W.Frag}{H:Hp}{Q:VK}{r:Addr}{ns:List Str}{as:List Addr}{R:Str->Str->Prop}
theorem Ux {x:Str}{i:Nat}{a:Addr}(h:Tab H r ns as R)(hn:ns.Nodup)(q:ns[i]? = some x)(ha:as[i]? = some a)(k:Q (.ref a) H):Qf K (.ref r) (.str x) H Q:=i_ixD h.top (Cu hn q ha) k
theorem Wv {a:Addr}{ks:List Str}{y:Str}(h:H a=some (.dK (Gz ks)))(k:Q (.bl (decide (y∈ks))) H):Xr K false (.str y) (.ref a) H Q:=by
 refine .inr (.inr (.inl ⟨a,Cj (Gz ks) (Sum.inr y:Key),rfl,DGet.k (k:=Sum.inr y) h,?_⟩));rw[Mw]
 by_cases e:y∈ks
 . rw[if_pos e];simpa[e] using k
 rw[if_neg e];simpa[e] using k
theorem ag6 {a:Addr}{kvs:List (Key×V)}{B:Prop}(h:H a=some (.dK kvs))(k:B):tyV K "dict" (.ref a) H/\B:=⟨.inr (.inr (.inl ⟨rfl,.inl ⟨kvs,h⟩⟩)),k⟩
theorem aS9 {d o:Addr}{ks ms:List Str}(hd:H d=some (.dK (Gz ks)))(F:H o=some (.dK (Gz ms)))(q:d≠o)(hz:ks.length+ms.length<=1000000)(k:∀ H',ExtBut d H H'->H' d=some (.dK (Gz (Mi ks ms)))->Q .non H'):Wc (.ref d) [.ref o] H Q:=
 ⟨d,o,_,_,rfl,rfl,q,hd,F,by rw[K8,K8];exact hz,k _ ExtBut.upd (by rw[Ae,Uc])⟩
end
structure HalfW (ns:List Str)(ps:List (Str×Str)):Prop where
 nd:ns.Nodup
 mem:∀ p∈ps,p.1∈ns/\p.2∈ns
 irr:∀ x,¬ Way ps x x
 few:ns.length<=100
 le:ps.length<=1000
theorem Half.w {ns:List Str}{ps:List (Str×Str)}(h:Half ns ps):HalfW ns ps:=⟨h.names.1,λp hp=>h.mem hp,λ_=>h.irrefl,A0O h.few nofun,A0O h.le nofun⟩
structure War (ns:List Str)(ps:List (Str×Str))(ms:List Str)(R:Str->Str->Prop):Prop where
 snd:∀ z y,R z y->Way ps z y
 edge:∀ z y,(z,y)∈ps->R z y
 shut:∀ m∈ms,∀ z y,R z m->R m y->R z y
def ar5 (R:Str->Str->Prop)(q:Str)(ms:List Str)(z y:Str):Prop:=R z y\/(z∈ms/\R z q/\R q y)
theorem War.step {ns:List Str}{ps:List (Str×Str)}{ms:List Str}{R:Str->Str->Prop}(h:War ns ps ms R){F:Str}:War ns ps (ms++[F]) (λz y=>R z y\/(R z F/\R F y)):=by
 refine⟨λz y hz=>?_,λz y hz=>.inl (h.edge z y hz),λm hm z y h1 h2=>?_⟩
 . rcases hz with hz|⟨h1,h2⟩
   . exact h.snd z y hz
   exact(h.snd _ _ h1).trans (h.snd _ _ h2)
 rcases A0C.mp hm with hm|hm
 . rcases h1 with h1|⟨h1,J⟩
   . rcases h2 with h2|⟨h2,q⟩
     . exact .inl (h.shut m hm z y h1 h2)
     exact .inr ⟨h.shut m hm z F h1 h2,q⟩
   rcases h2 with h2|⟨h2,q⟩
   . exact .inr ⟨h1,h.shut m hm F y J h2⟩
   exact .inr ⟨h1,q⟩
 have e:m=F:=by simpa using hm
 subst e;rcases h1 with h1|⟨h1,J⟩
 . rcases h2 with h2|⟨h2,q⟩
   . exact .inr ⟨h1,h2⟩
   exact .inr ⟨h1,q⟩
 rcases h2 with h2|⟨h2,q⟩
 . exact .inr ⟨h1,h2⟩
 exact .inr ⟨h1,q⟩
theorem War.done {ns:List Str}{ps:List (Str×Str)}{R:Str->Str->Prop}(h:War ns ps ns R)(hm:∀ p∈ps,p.1∈ns/\p.2∈ns)(z y:Str):R z y↔Way ps z y:=by
 refine⟨h.snd z y,λg=>?_⟩
 induction g with
 |one e=>exact h.edge _ _ e
 |cons e _ ih=>exact h.shut _ (hm _ e).2 _ _ (h.edge _ _ e) ih
theorem PrsK.fz {K:W.Frag} {H H':Hp} (e:Fz H H'):∀ {kvs:List (Key×V)} {ys:List V},PrsK K H kvs ys->PrsK K H' kvs ys
 | [],_,h=>h
 |kv :: r,ys,⟨t,ys',h1,h2,h3⟩=>⟨t,ys',h1,e.seq h2,PrsK.fz e h3⟩
theorem PrsK.snoc {K:W.Frag}{H:Hp}{kv:Key×V}{t:Addr}(h:SqT K H t [kV kv.1,kv.2]):∀ {kvs:List (Key×V)} {ys:List V},PrsK K H kvs ys->PrsK K H (kvs++[kv]) (ys++[.ref t])
 | [],ys,g=>by have g':ys=[]:=g;subst g';exact⟨t,[],rfl,h,rfl⟩
 |k :: r,ys,⟨u,ys',h1,h2,h3⟩=>by subst h1;exact⟨u,ys'++[.ref t],rfl,h2,PrsK.snoc h h3⟩
theorem PrsK.length {K:W.Frag}{H:Hp}:∀ {kvs:List (Key×V)} {ys:List V},PrsK K H kvs ys->ys.length=kvs.length
 | [],ys,g=>by have g':ys=[]:=g;subst g';rfl
 |k :: r,ys,⟨u,ys',h1,h2,h3⟩=>by subst h1;simp[PrsK.length h3]
theorem a78 {K:W.Frag}{H:Hp}{Q:VK}{l:Addr}{ys:List V}{kvs:List (Key×V)}(h:H l=some (.lst ys))(g:PrsK K H kvs ys)(hz:kvs.length<=1000000)(k:∀ p H',H p=none->Same H H'->H' p=some (.dK (Gm [] kvs))->Q (.ref p) H'):ab1 K [.ref l] H Q:=
 ⟨l, ys,kvs,rfl,h,g,by rw[g.length];exact hz,hz,λp hp=>k p _ hp (Same.upd hp) Ae⟩
theorem Sv:∀ {ns:List Str} {as:List Addr},ns.Nodup->((Ge ns as).map (·.1)).Nodup
 | [],as,_=>by simp[Ge]
 |n :: ns,[],_=>by simp[Ge]
 |n :: ns,a :: as,h=>by
   rw[A0V] at h;show((Sum.inr n:Key) :: (Ge ns as).map (·.1)).Nodup;rw[A0V];refine⟨λhm=>?_,Sv h.2⟩;obtain⟨kv,F,e⟩:=A0E.mp hm;obtain⟨p,hp,rfl⟩:=A0E.mp F;have q:p.1=n:=by injection e
   exact h.1 (q ▸ (A45 hp).1)
theorem Mu {ns:List Str}{as:List Addr}{z:Str}{a:Addr}(h:ns.length=as.length):Ge (ns++[z]) (as++[a])=Ge ns as++[(Sum.inr z,V.ref a)]:=by unfold Ge;rw[List.zip_append h,A13];rfl
end L2
namespace L2
open PySem PySem.Spec PyProof.Rows
open Classical in
def Aa (ps:List (Str×Str))(x y:Str):Bool:=decide (Way ps x y)
theorem wayB_iff {ps:List (Str×Str)} {x y:Str}:Aa ps x y=true↔Way ps x y:=by unfold Aa;simp
theorem af2 {ps:List (Str×Str)}{x y:Str}{b:Bool}(h:b=true↔Way ps x y):b=Aa ps x y:=by
 cases hb:Aa ps x y with
 |true=>exact h.mpr (wayB_iff.mp hb)
 |false=>
   cases b with
   |false=>rfl
   |true=>
     have:=wayB_iff.mpr (h.mp rfl);rw[hb] at this
     cases this
theorem Ko {ps:List (Str×Str)}{x y:Str}{p:Prop}[Decidable p](h:p↔Way ps x y):decide p=Aa ps x y:=af2 (by rw[A3K];exact h)
theorem Jr {ps:List (Str×Str)}{x y:Str}(h:¬ Way ps x y):Aa ps x y=false:=by
 cases hb:Aa ps x y with
 |false=>rfl
 |true=>exact absurd (wayB_iff.mp hb) h
theorem iteR {α:Type}{a:α}{A B:Prop}[Decidable (a=a)](h:A):if decide (a=a)=true then A else B:=by rw[if_pos (by simp)];exact h
theorem iteNR {α:Type}{a:α}{A B:Prop}[Decidable (a=a)](h:B):if(!decide (a=a))=true then A else B:=by rw[if_neg (by simp)];exact h
section
variable {K:W.Frag}{H:Hp}{σ:St}{x:V}{Q:VK}
theorem Sq {ns:List Str}{g:TG}{tt:TT}{te:TE}{k:Nat}{js:List Nat}(h:Is K H (nmD ns) x)(t:Str->Bool)(f:Str->PyData)(hf:∀ a,frz (f a)=true)(hz:ns.length<=1000000)
  (Z:∀(i:Nat) a H1 (R:VK) (R':Hp->Prop),ns[i]? = some a->Same H H1->(t a=true->∀ y H2,Same H1 H2->Is K H2 (f a) y->R y H2)->(t a=false->∀ H2,Same H1 H2->R' H2) ->
   g (.str a) (List.replicate k none++Po σ js) H1 fun σ2 H2=>tt σ2 H2 λb q=>if b=true then te σ2 q R else R' q)
  (hd:∀ p ys H',H p=none->Same H H'->H' p=some (.lst ys)->IsL K H' ((ns.filter t).map f) ys->Q (.ref p) H'):Fy K x H λJ H1=>Ni k js g tt te σ J H1 Q:=by
 obtain⟨a,rfl,F⟩:=h.nm;refine Wi F (G1 (K:=K) (Hz (xs:=ns.map V.str)) ns (by simp) t f hf (by simpa using hz) (λH' e=>e.seqT F) (λi z v H1 R R' hz O e U Y=>?_) hd);rw[A06,hz] at O
 cases O;exact Z i z H1 R R' hz e U Y
theorem Sx {ns:List Str}{a:Addr}{g:TG}{tt:TT}{te:TE}{k:Nat}{js:List Nat}(h:SqL K H a (ns.map V.str))(t:Str->Bool)(f:Str->PyData)(hf:∀ a,frz (f a)=true)(hz:ns.length<=1000000)
  (Y:∀(i:Nat) a H1 (R:VK) (R':Hp->Prop),ns[i]? = some a->Same H H1->(t a=true->∀ y H2,Same H1 H2->Is K H2 (f a) y->R y H2)->(t a=false->∀ H2,Same H1 H2->R' H2) ->
   g (.str a) (List.replicate k none++Po σ js) H1 fun σ2 H2=>tt σ2 H2 λb q=>if b=true then te σ2 q R else R' q)
  (hd:∀ p ys H',H p=none->Same H H'->H' p=some (.lst ys)->IsL K H' ((ns.filter t).map f) ys->Q (.ref p) H'):Fy K (.ref a) H λJ H1=>Ni k js g tt te σ J H1 Q:=by
 refine Ju h (G1 (K:=K) (Bg (xs:=ns.map V.str)) ns (by simp) t f hf (by simpa using hz) (λH' e=>e.seq h) (λi z v H1 R R' hz F e O U=>?_) hd);rw[A06,hz] at F
 cases F;exact Y i z H1 R R' hz e O U
theorem a84 {ps:List (Str×Str)}{g:TG}{tt:TT}{te:TE}{k:Nat}{js:List Nat}(h:Is K H (psD ps) x)(t:Str×Str->Bool)(f:Str×Str->PyData)(hf:∀ a,frz (f a)=true)(hz:ps.length<=1000000)
  (hs:∀(i:Nat) a v H1 (R:VK) (R':Hp->Prop),ps[i]? = some a->Is K H1 (prD a) v->Same H H1->(t a=true->∀ y H2,Same H1 H2->Is K H2 (f a) y->R y H2)->(t a=false->∀ H2,Same H1 H2->R' H2) ->
   g v (List.replicate k none++Po σ js) H1 fun σ2 H2=>tt σ2 H2 λb q=>if b=true then te σ2 q R else R' q)
  (hd:∀ p ys H',H p=none->Same H H'->H' p=some (.lst ys)->IsL K H' ((ps.filter t).map f) ys->Q (.ref p) H'):Fy K x H λJ H1=>Ni k js g tt te σ J H1 Q:=by
 obtain⟨a,xs,rfl,U,O⟩:=Is.tup h;have hl:ps.length=xs.length:=by rw[<- IsL.length O,A01]
 refine Wi U (G1 (K:=K) (Hz (xs:=xs)) ps hl t f hf ∅ (λH' e=>e.seqT U) (λi z v H1 R R' hz hv e Z a0=>?_) hd);obtain⟨d,F,Y⟩:=IsL.get (IsL.mono e _ _ O) hv;rw[A06,hz] at F
 cases F;exact hs i z v H1 R R' hz Y e Z a0
theorem ad2 {ns:List Str}{a:Addr}{ys:List V}(h:H a=some (.lst ys))(g:IsL K H (ns.map PyData.str) ys)(k:∀ v H',Same H H'->Is K H' (nmD ns) v->Q v H'):Ng K [.ref a] H Q:=by have e:=IsL.str_eq g;subst e;exact Mv (SqL.of h) λp H' hp e h'=>k _ H' e (Og (SqT.of h'))
theorem Rm {ps:List (Str×Str)}{a:Addr}{ys:List V}(h:H a=some (.lst ys))(g:IsL K H (ps.map prD) ys)(k:∀ v H',Same H H'->Is K H' (psD ps) v->Q v H'):Ng K [.ref a] H Q:=
 Mv (SqL.of h) λp H' hp e h'=>k _ H' e (Is.of_tup (SqT.of h') (IsL.mono e _ _ g))
end
end L2
namespace L2
open PySem PySem.Spec PyProof.Rows
open AutoSeq1 (wpAny_loadPart')
section
variable {prog:Program}{w:World}{A:Around}{E:Value->Shared->Prop}{s:Shared}
theorem aB3 {it t:Addr}{i:Nat}{items:Array Value}{x:Value}{Q:Value->Shared->Prop}(O:s.heap.IsTupleIter it t i)(Y:s.heap.IsTuple t items)(Z:items[i]? = some x)
  (U:∀ h',h'.IsTupleIter it t (i+1)->Heap.SameBut it s.heap h'->Q x {s with heap:=h'}):wpAny (model prog w) A (Builtin.SmallTypes.nextOf (.ref it)) Q E s:=by
 obtain⟨o,J,o2,q⟩:=id O;obtain⟨u,u1,_,n,u2⟩:=Y;unfold Builtin.SmallTypes.nextOf;refine A05 (A3G (name:=Str.ofString "__next__") O.typeIs F.slot_tuple_iterator_next (A3Z F.slot_tuple_iterator_next O.typeIs F.entry_tuple_iterator_next ?_ (F.args_tuple_iterator_next_1 _)));refine A05 (m:=field (.ref it) 0) (A46 J q (x:=.ref t) rfl ?_);rw[A0Q (show ¬ ((Value.ref t==Value.none)=true) by intro h;cases h)];refine A05 (m:=field (.ref it) 1) (A46 J q (x:=.int i 0) rfl ?_);refine A05 (m:=seqItems? (.ref t)) (A4X u1 u2 ?_);simp only[Int.toNat_natCast,Z];refine wpAny_bind (wpAny_setField J q (by simp) (wpAny_pure ⟨x,rfl,wpAny_pure (U _ ⟨_,Heap.get?_update_self _ J (Obj.isFreed_of_fields (Obj.data_mapFields q _)),(Obj.cls_mapFields ..).trans o2,?_⟩ (Heap.SameBut.update ..))⟩));rw[Obj.data_mapFields q];simp[rawInt]
theorem aO2 {it t:Addr}{i:Nat}{items:Array Value}{Q:Value->Shared->Prop}(U:A.handled=none)(q:s.heap.IsTupleIter it t i)(Z:s.heap.IsTuple t items)(hx:items[i]? = none)
  (Y:∀ h' e,Heap.ExtBut it s.heap h'->(∃ o,h'.get? e=some o/\o.cls = .type "StopIteration")->E (.ref e) {s with heap:=h'}):wpAny (model prog w) A (Builtin.SmallTypes.nextOf (.ref it)) Q E s:=by
 obtain⟨o,J,o2,O⟩:=id q;obtain⟨u,u1,_,n,u2⟩:=Z;unfold Builtin.SmallTypes.nextOf;refine A05 (A3G (name:=Str.ofString "__next__") q.typeIs F.slot_tuple_iterator_next (A3Z F.slot_tuple_iterator_next q.typeIs F.entry_tuple_iterator_next ?_ (F.args_tuple_iterator_next_1 _)));refine A05 (m:=field (.ref it) 0) (A46 J O (x:=.ref t) rfl ?_);rw[A0Q (show ¬ ((Value.ref t==Value.none)=true) by intro h;cases h)];refine A05 (m:=field (.ref it) 1) (A46 J O (x:=.int i 0) rfl ?_);refine A05 (m:=seqItems? (.ref t)) (A4X u1 u2 ?_);simp only[Int.toNat_natCast,hx];refine wpAny_bind (wpAny_rule (wpAny_bind (wpAny_setField J O (by simp) ?_)));refine A05 (m:=newExc (.type "StopIteration") []) ?_;simp only[newExc,newTuple];refine A05 (A2M ?_ (by size_fits));refine wpAny_bind (m:=firstArgMember _ _) (wpAny_of_eq (a:=Value.none) (by first | rfl | (simp only[firstArgMember];rfl)) (wpAny_newObj_type ?_ (by size_fits)))
 simp only[raiseNew];refine A05 (wpAny_handled ?_)
 first | rw[show A.in1.handled=none from U] | rw[U]
 refine A05 (A0K (wpAny_throw (Y _ _ (((Heap.SameBut.update ..).extBut.push _).push _) ⟨_,A0I _ rfl,rfl⟩)))
theorem ar3 (U:A.handled=none)(it t:Addr)(Y:t≠it)(items:Array Value):Draws prog w A it [it,t] items.size (λi v=>items[i]? = some v) (λi h=>h.IsTupleIter it t i/\h.IsTuple t items) where
 live:=λ_ _ q=>let ⟨o,ho,_⟩:=q.1;⟨o,ho⟩
 frame:=λ_ _ _ q F=>⟨q.1.at λo e=>F it (by simp) o e,let ⟨o,ho,r⟩:=q.2;⟨o,F t (by simp) o ho,r⟩⟩
 item:=λi s Q E hi q O=>aB3 q.1 q.2 (x:=items[i]) (by simp[hi]) λh' a b=>O _ h' s.toks (by simp[hi]) ⟨a,q.2.extBut b.extBut Y⟩ b
 done:=λs Q E q J=>aO2 U q.1 q.2 (by simp) J
theorem W6 (l:Addr)(items:Array Value)(n:Nat)(J:Option Addr)(O:Array (Option Value)) :
  Meets (Builtin.«enumerate.__new__» ⟨[.type "enumerate",.ref l],[]⟩) (λ_ R s=>s.heap.get? l=some {cls:=.type "tuple",dict:=J,data:=.seq items n,slots:=O} /\
   R (.ok (.ret (.ref (s.heap.push {cls:=.type "tuple_iterator",data:=.fields #[.ref l,.int 0 0]}).objs.size)))
    {s with heap:=(s.heap.push {cls:=.type "tuple_iterator",data:=.fields #[.ref l,.int 0 0]}).push {cls:=.type "enumerate",data:=.fields #[.none,.bool false,.ref s.heap.objs.size,rawInt 0,.none,.none]}}):=
 .of_wp λprog w A R s h=>by
  obtain⟨hp,g,d,tk,os⟩:=s;obtain⟨q,h⟩:=h;have U:=sub_enumerate;have F:Heap.IsTuple (Shared.heap ⟨hp,g,d,tk,os⟩) l items:=⟨_,q,rfl,n,rfl⟩
  wp_walk using wpAny_loadPart' q
  refine wpAny_stack_any λst=>A0K ?_
  split
  . rename_i c _ _ _ _ _
    cases (c==Value.type "enumerate")<;>(wp_walk using wpAny_loadPart' q,A3J F;exact⟨_,rfl,h⟩)
  wp_walk using wpAny_loadPart' q,A3J F
  exact⟨_,rfl,h⟩
theorem Yp {l:Addr}{items:Array Value}{Q:Value->Shared->Prop}(U:s.heap.IsTuple l items)
  (h:∀ h',IsEnum h' (s.heap.objs.size+1) s.heap.objs.size 0 .none->h'.IsTupleIter s.heap.objs.size l 0->(∀ b o,s.heap.get? b=some o->h'.get? b=some o)->Q (.ref (s.heap.objs.size+1)) {s with heap:=h'}) :
  wpAny (model prog w) A (call (.type "enumerate") [.ref l]) Q E s:=by
 obtain⟨⟨c,J,O,Z⟩,Y,q,n,hd⟩:=U;replace q:c = .type "tuple":=q;replace hd:O = .seq items n:=hd;subst q hd;refine callType_new F.called_enumerate nofun (F.typeCall_enumerate_1 _) (F.newCall_enumerate_1 _) (λobj=>F.args_object_init_2 obj _) F.entry_enumerate_new (W6 l items n J Z) ⟨Y,?_⟩;have hz:(s.heap.push {cls:=.type "tuple_iterator",data:=.fields #[.ref l,.int 0 0]}).objs.size=s.heap.objs.size+1:=A20 ..;show _/\_;have he:=A0I (s.heap.push {cls:=.type "tuple_iterator",data:=.fields #[.ref l,.int 0 0]}) (o:={cls:=.type "enumerate",data:=.fields #[.none,.bool false,.ref s.heap.objs.size,rawInt 0,.none,.none]}) rfl;rw[hz] at he ⊢;exact⟨⟨_,he,rfl⟩,h _ he ⟨_,A02 _ (A0I _ rfl),rfl,rfl⟩ λb o x=>A02 _ (A02 _ x)⟩
end
theorem Inv.turnedL {X:Cx}{pins:List (Addr×Obj)}{σ:St}{H:Hp}{s:Shared}{h':Heap}{t':Nat}{ch:List Addr}(I:Inv X pins σ H s)(k:∀ b o,b∉ch->s.heap.get? b=some o->h'.get? b=some o)(hf:∀ b∈ch,Xz X pins H b):Inv X pins σ H {s with heap:=h',toks:=t'}:=by
 have J:∀ b u,H b=some u->b∉ch:=λb u e z=>by rw[(hf b z).1] at e;cases e
 refine I.step (g':=s.gens) (d':=s.drawn) (ch:=ch) (λb hb=>?_) (λb o _ _ F e _=>k b o F e) (λb o _ _ F e _=>⟨o.slots,k b o F e⟩) (λ_ _ _ _ n=>n)
  (λb o F e=>⟨o,k b o F e⟩) (λ_ _ e=>e) (λ_ _ _ e=>e) (λb ps e=>⟨#[],by rw[e];simp⟩) (λm hm=>?_) (λb u e=>?_) I.bare
 . obtain⟨_,h2,_,O,U,Y⟩:=hf b hb;exact⟨O,h2,U,Y⟩
 . obtain⟨o,es,ep,Z,r⟩:=hm;exact⟨o,es,ep,k _ o (λz=>(hf _ z).2.1 rfl) Z,r⟩
 refine(I.hok b u e).stay (λc v F q=>k c v ?_ q) (λ_ q=>q) λ_ _ q=>q;rcases F with z|z
 . rw[z];exact J b u e
 exact J c _ z
def Ite (K:W.Frag)(a:Addr):It:=
 ⟨λi H=>∃ xs x,SqT K H a xs/\xs[i]? = some x,λi H v H'=>∃ t x,H t=none/\H'=upd H t (.tup [.int i,x])/\v = .ref t/\∀ xs,SqT K H a xs->xs[i]? = some x,λi H=>∃ xs,SqT K H a xs/\xs.length=i⟩
theorem aa4 {P:Program}{w:World}{K:W.Frag}{a6:List Expr}{ek:Nat}{a7:Pos}(a it e:Addr)(a0:e≠it)(a2:a≠it)(aA:a≠e):a55 P w K (.Tuple a6 ek a7) (Ite K a) [e,it] e (λi h=>(∃ old,IsEnum h e it i old)/\h.IsTupleIter it a i) where
 mem:=by simp
 obj:=λi h st b hb=>by
  obtain⟨⟨old,h1⟩,o,h2,h3,h4⟩:=st;rcases A0A.mp hb with rfl|hb
  . exact⟨_,h1,λv z=>by cases z⟩
  have q:b=it:=by simpa using hb
  subst q;exact⟨o,h2,λv z=>by rw[h4] at z;cases z⟩
 keep:=λi h h' st k=>by obtain⟨⟨old,h1⟩,h2⟩:=st;exact⟨⟨old,k e (by simp) _ h1⟩,h2.at λo q=>k it (by simp) o q⟩
 item:=by
  intro X hP hw Z hc i pins s σ H E I hf st hg;subst hP hw Z;obtain⟨xs,x,U,J⟩:=hg;obtain⟨F,Y,p,hz⟩:=I.tuple U
  have aD:i<F.length:=by have:=(A00.mp J).1;rw[<- Y.length];exact this
  have D:=ar3 (prog:=X.prog) (w:=X.w) (A:=X.A.in1) (by simpa using I.ok.hd hc) it a a2 F.toArray;obtain⟨⟨old,he⟩,O⟩:=st;have a4:e<s.heap.objs.size:=A0D he;have aE:it<s.heap.objs.size:=let ⟨_,q,_⟩:=O;A0D q;refine wpAny_pyNext_enum_itemD D he ⟨O,p⟩ (by simpa using aD) a0 (by simp[a0,Ne.symm aA]) λv h1 tk hv ho aG hT hsz hk=>?_;obtain⟨u,hu,ru⟩:=Y.get J
  have aH:v=u:=by have a5:F.toArray[i]? = some v:=hv;rw[A2Y,hu] at a5;exact(A15 a5).symm
  subst aH;refine⟨_,rfl,wpAny_letOwnedTupleGo_enum ho λh2 aC a1=>?_⟩;have a9:H s.heap.objs.size=none:=I.hok.fresh (A08 _);have a8:h2.get? s.heap.objs.size=some {cls:=.type "tuple",data:=.seq #[.int i tk,v]}:=(a1.2 _ (A4N a4)).trans hT
  have I1:Inv X pins σ (upd H s.heap.objs.size (.tup [.int i,x])) {s with heap:=s.heap.push {cls:=.type "tuple",data:=.seq #[.int i tk,v]}}:=
   I.laid (t':=s.toks) (λb ob q=>Heap.get?_push_of_some _ q) (Nat.le_refl _) ⟨by simp[sizeLine_eq],[.int i tk,v],.cons ⟨tk,rfl⟩ (.cons ru .nil),_,Heap.get?_push_size _ rfl,rfl,⟨_,rfl⟩,rfl⟩
  have nT:∀ b∈[e,it],b≠s.heap.objs.size:=λb hb=>by
   rcases A0A.mp hb with rfl|hb
   . exact A11 a4
   have q:b=it:=by simpa using hb
   subst q;exact A11 aE
  have I2:Inv X pins σ (upd H s.heap.objs.size (.tup [.int i,x])) {s with heap:=h2,toks:=tk+1}:=Inv.turnedL (s:={s with heap:=s.heap.push {cls:=.type "tuple",data:=.seq #[.int i tk,v]}}) (ch:=[e,it]) I1 (λb ob hb q=>?_) (λb hb=>?_)
  . refine⟨.ref s.heap.objs.size,_,I2,rfl,⟨_,x,a9,rfl,rfl,λys hy=>by rw[I.tuple_inj hy U];exact J⟩,⟨⟨_,by simpa using aC⟩,aG.1.at λo q=>(a1.2 it (Ne.symm a0)).trans q⟩,λb hb=>?_⟩;rw[At (nT b hb)];exact(hf b hb).1
  . have a3:b≠e:=λz=>hb (by simp[z]);have aB:b≠it:=λz=>hb (by simp[z]);rcases Heap.get?_push_cases q with ⟨rfl,rfl⟩|q
    . exact a8
    exact(a1.2 b a3).trans (hk b ob a3 aB q)
  obtain⟨f0,f1,f2,f3,f4,f5⟩:=hf b hb;exact⟨by rw[At (nT b hb)];exact f0,f1,f2,f3,f4,f5⟩
 done:=by
  intro X hP hw Z hc i pins s σ H E I hf st hg;subst hP hw Z;obtain⟨xs,U,J⟩:=hg;obtain⟨F,Y,p,hz⟩:=I.tuple U;obtain⟨⟨old,he⟩,O⟩:=st;have aF:F.toArray.size=i:=by rw[A0R,<- Y.length];exact J
  have D:=ar3 (prog:=X.prog) (w:=X.w) (A:=X.A.in1) (by simpa using I.ok.hd hc) it a a2 F.toArray;rw[aF] at D;refine wpAny_pyNext_enum_endD D he ⟨O,p⟩ λh' hk=>⟨rfl,I.turnedL (t':=s.toks) (ch:=[e,it]) (λb o hb q=>hk b o (λz=>hb (by simp[z])) q) hf⟩
 self:=by intro A i s Q E st hQ;obtain⟨⟨old,he⟩,_⟩:=st;exact A4G he hQ
section
variable {X:Cx}{K:W.Frag}
def an5 (K:W.Frag)(vs:List V)(H:Hp)(R:It->Hp->Prop):Prop:=∃ a xs,vs=[.ref a]/\SqT K H a xs/\R (Ite K a) H
def aK9 (K:W.Frag)(ta:TA):TI:=fun σ H R=>ta σ H λvs H1=>an5 K vs H1 R
theorem Jx:bootBuiltins "enumerate" = some (.type "enumerate"):=PyProof.Rows.Boot.«enumerate»
theorem aw2 {e:Expr}{ta:TA}{p pos:Pos}{Z:List Expr}{Y:Nat}{a0:Pos}(hg:Gl X "enumerate")(hm:X.mg "enumerate" = none)(ha:PA X [e] ta)(hK:X.K=K:=by ac_nf)(hs:starEach [e] X.env=[(false,eval e X.env)]:=by ac_nf) :
  PI X (.Tuple Z Y a0) (.Call (.Name "enumerate" p) [e] [] pos) (aK9 K ta):=by
 subst hK;intro pins s σ H R I h;refine Call_ (Jz I hg hm Jx (A1W (thn (ha pos pins s σ H _ I h) λus F ⟨vs,H1,J,r1,q1⟩=>?_) hs rfl));obtain⟨a,xs,rfl,hq,q⟩:=q1;obtain⟨u,rfl,ru⟩:=Vals.one r1
 cases ru;obtain⟨a2,rv,U,hz⟩:=J.tuple hq;have O:a<F.heap.objs.size:=let ⟨_,q,_⟩:=U;A0D q;refine Yp U λh' he a1 hk=>?_;refine A4G he ?_;refine⟨F.heap.objs.size+1,[F.heap.objs.size+1,F.heap.objs.size],_,_,H1,rfl,J.kept (t':=F.toks) hk,aa4 a F.heap.objs.size (F.heap.objs.size+1) (Nat.succ_ne_self _) (A11 O) (A11 (A2O O)),⟨⟨_,he⟩,a1⟩,λb hb=>?_,q⟩;rcases A0A.mp hb with rfl|hb
 . exact J.fpOk (A44 _) (J.hok.fresh (A44 _))
 have e:b=F.heap.objs.size:=by simpa using hb
 subst e;exact J.fpOk (A08 _) (J.hok.fresh (A08 _))
end
section
variable {K:W.Frag}{σ:St}{H:Hp}
theorem i_ienum {q:TA}{R:It->Hp->Prop}(k:q σ H λvs H1=>an5 K vs H1 R):aK9 K q σ H R:=k
theorem aj2 {xs:List V}{a:Addr}{n m:Nat}{tb:TS}{D:Ph}(h:SqT K H a xs)(Pv:Nat->St->Hp->Prop)(F:Pv 0 σ H)(O:∀ i σ' H',Pv i σ' H'->SqT K H' a xs)
  (U:∀ i x σ' H' H2,xs[i]? = some x->Pv i σ' H'->Same H' H2->tb {D with nx:=Pv (i+1),ct:=Pv (i+1),bk:=D.nx} ((σ'.set n (some (.int i))).set m (some x)) H2) (hd:∀ σ' H',Pv xs.length σ' H'->D.nx σ' H') :
  an5 K [.ref a] H λJ H1=>an8 (aB2 K 2 (Pk (Kl n) (Pk (Kl m) aE1))) tb D σ J H1:=by
 refine⟨a,xs,rfl,h,λi k σ' H'=>k=xs.length-i/\i<=xs.length/\Pv i σ' H',⟨xs.length,by simp,Nat.zero_le _,F⟩,?_⟩;rintro i k σ' H' ⟨rfl,hi,p⟩;have g:=O i σ' H' p
 by_cases q:i<xs.length
 . refine .inr ⟨⟨xs,xs[i],g,A04 q⟩,Pv (i+1),fun σ2 H2 p2=>⟨xs.length-(i+1),by omega,rfl,q,p2⟩,λv H2 y=>?_⟩;obtain⟨t,x,Y,rfl,rfl,Z⟩:=y;exact⟨t,_,rfl,SqT.of Ae,rfl,.int i,[x],rfl,x,[],rfl,rfl,U i x σ' H' _ (Z xs g) p (Same.upd Y)⟩
 have e:i=xs.length:=by omega
 subst e;exact .inl ⟨⟨xs,g,rfl⟩,hd σ' H' p⟩
theorem ax6 {ps:List (Str×Str)}{x:V}{n m:Nat}{tb:TS}{D:Ph}(h:Is K H (psD ps) x)(Pv:Nat->St->Hp->Prop)(Z:Pv 0 σ H)(F:∀ i σ' H',Pv i σ' H'->Fz H H')
  (hs:∀ i p v σ' H' H2,ps[i]? = some p->Is K H2 (prD p) v->Pv i σ' H'->Same H' H2->tb {D with nx:=Pv (i+1),ct:=Pv (i+1),bk:=D.nx} ((σ'.set n (some (.int i))).set m (some v)) H2) (hd:∀ σ' H',Pv ps.length σ' H'->D.nx σ' H') :
  an5 K [x] H λJ H1=>an8 (aB2 K 2 (Pk (Kl n) (Pk (Kl m) aE1))) tb D σ J H1:=by
 obtain⟨a,xs,rfl,U,O⟩:=Is.tup h;have hl:ps.length=xs.length:=by rw[<- IsL.length O,A01]
 refine aj2 U Pv Z (λi σ' H' p=>(F i σ' H' p).seq U) (λi v σ' H' H2 hv p e=>?_) fun σ' H' p=>hd σ' H' (by rw[<- hl] at p;exact p);obtain ⟨d,q,Y⟩:=IsL.get (IsL.fz ((F i σ' H' p).trans e.fz) _ _ (Bz ps) O) hv;rw[A06] at q
 cases hn:ps[i]? with
 |none=>rw[hn] at q;cases q
 |some z=>
   rw[hn] at q
   cases q;exact hs i z v σ' H' H2 hn Y p e
end
end L2
namespace L2
open PySem PySem.Spec PyProof.Rows
section
variable {X:Cx}{K:W.Frag}
section
variable {H:Hp}{Q:VK}{lo hi:Option Int}
theorem Qc {a b:Addr}{xs ys:List V}(h1:SqT K H a xs)(h2:SqT K H b ys)(h:xs.length+ys.length<=sizeLine)(k:∀ p H',Same H H'->SqT K H' p (xs++ys)->Q (.ref p) H'):Wr K (.ref a) (.ref b) H Q:=by
 by_cases q:xs=[]
 . subst q;exact .inr (.inr (.inr (.inr ⟨a,b,ys,rfl,rfl,h1,h2,k b H (Same.refl _) h2⟩)))
 refine .inr (.inr (.inr (.inl ⟨a,b,xs,ys,rfl,rfl,h1,h2,q,h,λe=>?_,λ_ p hp=>k p _ (Same.upd hp) (SqT.of Ae)⟩)));subst e;exact k a H (Same.refl _) (by rw[A27];exact h1)
theorem aA4 {a:Addr}{xs:List V}(h:SqT K H a xs)(k:∀ p H',Same H H'->SqT K H' p (Pr xs lo hi)->Q (.ref p) H'):aD8 K (.ref a) lo hi H Q:=by
 by_cases q:HT.sIx xs.length 0 lo=0/\HT.sIx xs.length xs.length hi=xs.length
 . refine .inr (.inr (.inr ⟨a,xs,rfl,h,q,k a H (Same.refl _) ?_⟩))
   have e:Pr xs lo hi=xs:=by unfold Pr;rw[q.1,q.2,List.drop_zero,Nat.sub_zero,A0U]
   rw[e];exact h
 exact .inr (.inl ⟨a,xs,rfl,h,q,λp hp=>k p _ (Same.upd hp) (SqT.of Ae)⟩)
theorem aH0 {x y:V}{d:PyData}{ds:List PyData}(F:Is K H d x)(J:Is K H (.list ds) y\/Is K H (.tuple ds) y)(h1:PyData.canLayAll0 ds=true)(h2:d.canLay0=true)(q:d.depth<=100)(k:Q (.bl (!(ds.any λe=>PyData.eqv e d))) H):Xr K true x y H Q:=.inr (.inr (.inr ⟨d,ds,F,J,h1,h2,q,k⟩))
end
end
def jsD (js:List Nat):PyData:=.tuple (js.map λ(j:Nat)=>PyData.int (j:Int))
theorem aq5 (js:List Nat):frz (jsD js)=true:=by unfold jsD;simp only[frz];exact De _ (λ_=>by simp[frz]) js
structure Trl (ps:List (Str×Str))(x:Str)(js:List Nat)(y:Str)(os:List Str):Prop where
 len:os.length=js.length
 hd:(os++[y])[0]? = some x
 ed:∀(i j:Nat),js[i]? = some j->∃ a b,(os++[y])[i]? = some a/\(os++[y])[i+1]? = some b/\ps[j]? = some (a,b)
 nd:(os++[y]).Nodup
theorem Trl.nil (ps:List (Str×Str))(x:Str):Trl ps x [] x []:=⟨rfl,rfl,λi j h=>by simp at h,by simp⟩
theorem Trl.snoc {ps:List (Str×Str)}{x y z:Str}{js:List Nat}{os:List Str}{j:Nat}(h:Trl ps x js y os)(O:ps[j]? = some (y,z))(hz:z∉os++[y]):Trl ps x (js++[j]) z (os++[y]):=by
 refine⟨by simp[h.len],?_,λi k q=>?_,?_⟩
 . rw[List.getElem?_append_left (by simp)];exact h.hd
 . by_cases hi:i<js.length
   . rw[A1S hi] at q;obtain⟨a,b,h1,h2,F⟩:=h.ed i k q;have l:=h.len;refine⟨a,b,?_,?_,F⟩
     . rw[List.getElem?_append_left (by simp;omega)];exact h1
     rw[List.getElem?_append_left (by simp;omega)];exact h2
   have J:i=js.length:=by have:=(A00.mp q).1;rw[A07,A16] at this;omega
   subst J;have e:k=j:=by simpa using q.symm
   subst e;have l:=h.len;refine⟨y,z,?_,?_,O⟩
   . rw[List.getElem?_append_left (by simp;omega),<- l];simp
   rw[<- l];simp
 rw[A1E];refine⟨h.nd,by simp,λa ha b hb e=>?_⟩;have:b=z:=by simpa using hb
 subst this;subst e;exact hz ha
theorem Trl.way {ps:List (Str×Str)}:∀ {js:List Nat} {x y:Str} {os:List Str},Trl ps x js y os->x=y\/Way ps x y:=by
 intro js x y os h;have l:=h.len
 suffices g:∀ i,i<=js.length->∀ z,(os++[y])[i]? = some z->z=x\/Way ps x z by
  rcases g js.length (Nat.le_refl _) y (by rw[<- l];simp) with e|e
  . exact .inl e.symm
  exact .inr e
 intro i
 induction i with
 |zero=>intro _ z hz;rw[h.hd] at hz;exact .inl (A15 hz).symm
 |succ i ih=>
   intro hi z hz;obtain⟨j,hj⟩:∃ j,js[i]? = some j:=⟨js[i]'∅,A04 _⟩;obtain⟨a,b,h1,h2,q⟩:=h.ed i j hj;rw[hz] at h2
   cases h2;rcases ih ∅ a h1 with e|e
   . subst e;exact .inr (.one (A03 q))
   exact .inr (e.snoc (A03 q))
theorem Way.more {ps:List (Str×Str)}{p:Str×Str}{x y:Str}(h:Way (ps++[p]) x y):Way ps x y\/((x=p.1\/Way ps x p.1)/\(y=p.2\/Way ps p.2 y)):=by
 induction h with
 |@one a b e=>
   rcases A0C.mp e with e|e
   . exact .inl (.one e)
   have:(a,b)=p:=by simpa using e
   subst this;exact .inr ⟨.inl rfl,.inl rfl⟩
 |@cons a c b e _ ih=>
   rcases A0C.mp e with e|e
   . rcases ih with g|⟨q,F⟩
     . exact .inl (.cons e g)
     refine .inr ⟨.inr ?_,F⟩;rcases q with rfl|q
     . exact .one e
     exact .cons e q
   have:(a,c)=p:=by simpa using e
   subst this;rcases ih with g|⟨q,F⟩
   . exact .inr ⟨.inl rfl,.inr g⟩
   exact .inr ⟨.inl rfl,F⟩
theorem Vf {ps:List (Str×Str)}{p:Str×Str}(h:∀ x,¬ Way ps x x)(h1:¬ p.2=p.1)(h2:¬ Way ps p.2 p.1):∀ x,¬ Way (ps++[p]) x x:=λx g=>by
 rcases g.more with g|⟨F,q⟩
 . exact h x g
 rcases F with rfl|F
 . rcases q with q|q
   . exact h1 q.symm
   exact h2 q
 rcases q with rfl|q
 . exact h2 F
 exact h2 (q.trans F)
structure WyI (ps:List (Str×Str))(x:Str)(ks ws:List Str):Prop where
 nd:ks.Nodup
 has:x∈ks
 way:∀ y∈ks,y=x\/Way ps x y
 line:∀ z∈ws,z∈ks
 shut:∀ z∈ks,z∉ws->∀ y,(z,y)∈ps->y∈ks
 few:ws.length<=ks.length
theorem WyI.le {ps:List (Str×Str)}{x:Str}{ks ws:List Str}(h:WyI ps x ks ws):ks.length<=ps.length+1:=by
 have:=By (ys:=x :: ps.map (·.2)) h.nd λy q=>by
  rcases h.way y q with e|e
  . exact e ▸ A0B
  exact A09 _ e.right
 rwa[A0G,A01] at this
structure WyJ (ps:List (Str×Str))(x here:Str)(ks ws gs ms:List Str)(i:Nat):Prop where
 nd:gs.Nodup
 way:∀ y∈gs,y=x\/Way ps x y
 line:∀ z∈ms,z∈gs
 keep:∀ z∈ks,z∈gs
 keepL:∀ z∈ws,z∈ms
 new:∀ z∈gs,z∈ks\/z∈ms
 seen:∀ j<i,∀ y,ps[j]? = some (here,y)->y∈gs
 len:gs.length+ws.length=ks.length+ms.length
theorem WyJ.le {ps:List (Str×Str)}{x here:Str}{ks ws q ms:List Str}{i:Nat}(h:WyJ ps x here ks ws q ms i):q.length<=ps.length+1:=by
 have:=By (ys:=x :: ps.map (·.2)) h.nd λy F=>by
  rcases h.way y F with e|e
  . exact e ▸ A0B
  exact A09 _ e.right
 rwa[A0G,A01] at this
theorem WyJ.step {ps:List (Str×Str)}{x here:Str}{ks ws F ms:List Str}{i:Nat}{p:Str×Str}(h:WyJ ps x here ks ws F ms i)(J:here∈F)(hp:ps[i]? = some p)(h1:p.1=here)(h2:p.2∉F):WyJ ps x here ks ws (F++[p.2]) (ms++[p.2]) (i+1):=by
 have hm:(here,p.2)∈ps:=by rw[<- h1];exact A03 hp
 refine⟨?_,λy q=>?_,λz hz=>?_,λz hz=>A0M _ (h.keep z hz),λz hz=>A0M _ (h.keepL z hz),λz hz=>?_,λj U y e=>?_,?_⟩
 . rw[A1E];refine⟨h.nd,by simp,λa ha b hb e=>?_⟩;have:b=p.2:=by simpa using hb
   subst this;subst e;exact h2 ha
 . rcases A0C.mp q with q|q
   . exact h.way y q
   have:y=p.2:=by simpa using q
   subst this;rcases h.way here J with rfl|hw
   . exact .inr (.one hm)
   exact .inr (hw.snoc hm)
 . rcases A0C.mp hz with hz|hz
   . exact A0M _ (h.line z hz)
   exact A12 _ hz
 . rcases A0C.mp hz with hz|hz
   . rcases h.new z hz with e|e
     . exact .inl e
     exact .inr (A0M _ e)
   exact .inr (A12 _ hz)
 . by_cases O:j=i
   . subst O;rw[hp] at e
     cases e;exact List.mem_append_right _ (by simp)
   exact A0M _ (h.seen j ∅ y e)
 rw[A07,A07,A16];have:=h.len;omega
theorem WyJ.skip {ps:List (Str×Str)}{x here:Str}{ks ws q ms:List Str}{i:Nat}{p:Str×Str}(h:WyJ ps x here ks ws q ms i)(hp:ps[i]? = some p)(h1:p.1=here->p.2∈q):WyJ ps x here ks ws q ms (i+1):=by
 refine⟨h.nd,h.way,h.line,h.keep,h.keepL,h.new,λj J y e=>?_,h.len⟩
 by_cases F:j=i
 . subst F;rw[hp] at e
   cases e;exact h1 rfl
 exact h.seen j ∅ y e
theorem WyJ.done {ps:List (Str×Str)}{x here:Str}{ks ws F ms:List Str}(I:WyI ps x ks (here :: ws))(h:WyJ ps x here ks ws F ms ps.length):WyI ps x F ms:=by
 refine⟨h.nd,h.keep x I.has,h.way,h.line,λz hz hm y O=>?_,?_⟩
 . by_cases e:z=here
   . subst e;obtain⟨j,J,U⟩:=A1N O;exact h.seen j J y (by rw[A04 J,U])
   have Y:z∈ks:=by
    rcases h.new z hz with q|q
    . exact q
    exact absurd q hm
   refine h.keep y (I.shut z Y (λq=>?_) y O);rcases A0A.mp q with q|q
   . exact e q
   exact hm (h.keepL z q)
 have:=h.len;have:=I.few;rw[A0G] at this;omega
theorem WyI.all {ps:List (Str×Str)}{x:Str}{ks:List Str}(h:WyI ps x ks []){y:Str}(g:Way ps x y):y∈ks:=
 Way.shut (S:=λy=>y∈ks) (λy q=>h.shut x h.has (by simp) y q) (λz y hz q=>h.shut z hz (by simp) y q) g
theorem ax4 {ns:List Str}{as:List Addr}{z:Str}{a:Addr}(hz:z∉ns)(h:ns.length=as.length):G3 (Ge ns as) (Sum.inr z:Key) (.ref a)=Ge (ns++[z]) (as++[a]):=by
 rw[Mu h];unfold G3;rw[A0Q];rw[A1D];rintro⟨kv,J,e⟩;obtain⟨p,hp,rfl⟩:=A0E.mp J;have q:(Sum.inr p.1:Key)=Sum.inr z:=A4F e;have F:p.1=z:=by injection q
 exact hz (F ▸ (A45 hp).1)
theorem G8:∀ {ns:List Str} {as:List Addr} {z:Str},z∉ns->Cj (Ge ns as) (Sum.inr z:Key)=none
 | [],_,_,_=>rfl
 |n :: ns,[],_,_=>rfl
 |n :: ns,a :: as,z,h=>by
   show Cj ((Sum.inr n,V.ref a) :: Ge ns as) _=_;rw[Ba (by intro q;injection q with q;exact h (q ▸ A0B))]
   exact G8 λq=>h (A09 _ q)
section
variable {K:W.Frag}{σ:St}{H:Hp}{Q:VK}{td ty:TE}
def ap3 (ty:TE)(σ:St)(x:V)(H1:Hp)(Q:VK):Prop:=∃ a,x = .ref a/\IsD H1 a/\ty σ H1 λy H2=>∃ o,DGet H2 a y o/\Q (o.getD .non) H2
theorem i_dget1 (k:td σ H λx H1=>ap3 ty σ x H1 Q):as0 td ty σ H Q:=k
theorem aE6 {a:Addr}{kvs:List (Key×V)}(h:H a=some (.dK kvs))(k:ty σ H λy H2=>∃ o,DGet H2 a y o/\Q (o.getD .non) H2):ap3 ty σ (.ref a) H Q:=⟨a,rfl,.inl ⟨kvs,.inl h⟩,k⟩
theorem aF6 {a:Addr}{kvs:List (Key×V)}{z:Str}(h:H a=some (.dK kvs))(k:Q ((Cj kvs (Sum.inr z:Key)).getD .non) H):∃ o,DGet H a (.str z) o/\Q (o.getD .non) H:=⟨_,DGet.k (k:=Sum.inr z) h,k⟩
theorem aj7 {r:Addr}{ks:List Str}{F:List Addr}{z:Str}(h:H r=some (.dK (Ge ks F)))(J:F.length=ks.length)(k:Q (.bl (!decide (z∈ks))) H):Xr K true (.str z) (.ref r) H Q:=by
 refine .inr (.inr (.inl ⟨r,Cj (Ge ks F) (Sum.inr z:Key),rfl,DGet.k (k:=Sum.inr z) h,?_⟩))
 by_cases e:z∈ks
 . obtain⟨i,hi,U⟩:=A1N e
   have:(Cj (Ge ks F) (Sum.inr z:Key)).isSome=true:=by
    suffices g:∀(ks:List Str) (F:List Addr),F.length=ks.length->z∈ks->(Cj (Ge ks F) (Sum.inr z:Key)).isSome=true from g ks F J e
    intro ks
    induction ks with
    |nil=>intro F _ h;cases h
    |cons c ks ih=>
      intro F J hm
      cases F with
      |nil=>cases J
      |cons t F=>
        by_cases O:c=z
        . subst O;show(Cj ((Sum.inr c,V.ref t) :: Ge ks F) _).isSome=true;rw[Be rfl];rfl
        show(Cj ((Sum.inr c,V.ref t) :: Ge ks F) _).isSome=true;rw[Ba (by intro q;injection q with q;exact O q)]
        refine ih F (by simpa using J) ?_;rcases A0A.mp hm with q|q
        . exact absurd q.symm O
        exact q
   rw[this];simpa[e] using k
 rw[G8 e];simpa[e] using k
theorem i_andV {ta tb:TE}(k:ta σ H λx H1=>∃ c,x = .bl c/\if c=true then tb σ H1 Q else Q (.bl false) H1):aI8 ta tb σ H Q:=k
end
theorem Same.rd {H H':Hp}(e:Same H H'){a:Addr}{u:HO}(h:Rd H a u):Rd H' a u:=by
 rcases h with h|⟨o,h⟩
 . exact .inl (e _ _ h)
 exact .inr ⟨o,e _ _ h⟩
def Keep (as:List Addr)(H H':Hp):Prop:=(∀ b o,b∉as->H b=some o->H' b=some o)/\∀ a∈as,∀ u,Rd H a u->Rd H' a u
theorem Keep.refl (as:List Addr)(H:Hp):Keep as H H:=⟨λ_ _ _ h=>h,λ_ _ _ h=>h⟩
theorem Keep.trans {as:List Addr}{H H1 H2:Hp}(a:Keep as H H1)(b:Keep as H1 H2):Keep as H H2:=⟨λc o n h=>b.1 c o n (a.1 c o n h),λc q u h=>b.2 c q u (a.2 c q u h)⟩
theorem Same.keep {H H':Hp}(e:Same H H')(as:List Addr):Keep as H H':=⟨λb o _ h=>e b o h,λa _ u h=>e.rd h⟩
theorem Keep.freeze {as:List Addr}{H:Hp}{a:Addr}{u:HO}{o:Obj}(ha:a∈as)(h:H a=some u)(hu:∀ o' O,u ≠ .frz o' O):Keep as H (upd H a (.frz o u)):=by
 refine⟨λb q hb e=>?_,λb hb w e=>?_⟩
 . have J:b≠a:=λz=>by subst z;exact hb ha
   rw[At J];exact e
 by_cases F:b=a
 . subst F;rcases e with e|⟨o',e⟩
   . rw[h] at e
     cases e;exact .inr ⟨o,Ae⟩
   rw[h] at e
   cases e;exact absurd rfl (hu _ _)
 rcases e with e|⟨o',e⟩
 . exact .inl (by rw[At F];exact e)
 exact .inr ⟨o',by rw[At F];exact e⟩
theorem Keep.rd {as:List Addr}{H H':Hp}(k:Keep as H H'){a:Addr}{u:HO}(h:Rd H a u):Rd H' a u:=by
 by_cases ha:a∈as
 . exact k.2 a ha u h
 rcases h with h|⟨o,h⟩
 . exact .inl (k.1 _ _ ha h)
 exact .inr ⟨o,k.1 _ _ ha h⟩
theorem Keep.fz {as:List Addr}{H H':Hp}(k:Keep as H H'):Fz H H':=λa xs h=>k.rd h
theorem Same.then {as:List Addr}{H H1 H2:Hp}(e:Same H H1)(ha:∀ a∈as,H a=none)(k:Keep as H1 H2):Same H H2:=λb o h=>k.1 b o (λhb=>by rw[ha b hb] at h;cases h) (e b o h)
theorem Keep.lst {as:List Addr}{H H1 H2:Hp}{p:Addr}(k:Keep as H H1)(e:ExtBut p H1 H2)(hp:H p=none)(F:p∉as):Keep as H H2:=by
 refine⟨λb o hb h=>e b o (λz=>?_) (k.1 b o hb h),λa ha u h=>?_⟩
 . subst z;rw[hp] at h
   cases h
 have q:a≠p:=λz=>F (z ▸ ha);rcases k.2 a ha u h with g|⟨o,g⟩
 . exact .inl (e _ _ q g)
 exact .inr ⟨o,e _ _ q g⟩
structure TabR (H:Hp)(r:Addr)(ns:List Str)(as:List Addr)(R:Str->Str->Prop):Prop where
 len:as.length=ns.length
 top:Rd H r (.dK (Ge ns as))
 row:∀(i:Nat) (z:Str) (a:Addr),ns[i]? = some z->as[i]? = some a->∃ ks:List Str,Rd H a (.dK (Gz ks))/\ks.Nodup/\(∀ y∈ks,y∈ns)/\∀ y,y∈ks↔R z y
theorem Tab.toR {H:Hp}{r:Addr}{ns:List Str}{as:List Addr}{R:Str->Str->Prop}(h:Tab H r ns as R):TabR H r ns as R:=
 ⟨h.len,.inl h.top,λi z a hz ha=>let ⟨ks,h1,h2⟩:=h.row i z a hz ha;⟨ks,.inl h1,h2⟩⟩
theorem TabR.keep {bs:List Addr}{H H':Hp}{r:Addr}{ns:List Str}{as:List Addr}{R:Str->Str->Prop}(h:TabR H r ns as R)(k:Keep bs H H'):TabR H' r ns as R:=
 ⟨h.len,k.rd h.top,λi z a hz ha=>let ⟨ks,h1,h2⟩:=h.row i z a hz ha;⟨ks,k.rd h1,h2⟩⟩
theorem TabR.same {H H':Hp}{r:Addr}{ns:List Str}{as:List Addr}{R:Str->Str->Prop}(h:TabR H r ns as R)(e:Same H H'):TabR H' r ns as R:=h.keep (e.keep [])
theorem TabR.at {H:Hp}{r:Addr}{ns:List Str}{as:List Addr}{R:Str->Str->Prop}(h:TabR H r ns as R){x:Str}(F:x∈ns):∃(i:Nat) (a:Addr),ns[i]? = some x/\as[i]? = some a:=by
 obtain⟨i,hi,e⟩:=A1N F;have q:i<as.length:=by rw[h.len];exact hi
 exact⟨i,as[i],by rw[A04 hi,e],A04 q⟩
section
variable {K:W.Frag}{σ:St}{H:Hp}{Q:VK}{r:Addr}{ns:List Str}{as:List Addr}{R:Str->Str->Prop}
theorem aK6 {a:Addr}{kvs:List (Key×V)}{z:Str}{v:V}(h:Rd H a (.dK kvs))(e:Cj kvs (Sum.inr z:Key)=some v)(k:Q v H):Qf K (.ref a) (.str z) H Q:=.inr ⟨a,v,rfl,.inl ⟨kvs,Sum.inr z,h,rfl,e.symm⟩,k⟩
theorem Mc {x:Str}{i:Nat}{a:Addr}(h:TabR H r ns as R)(hn:ns.Nodup)(q:ns[i]? = some x)(ha:as[i]? = some a)(k:Q (.ref a) H):Qf K (.ref r) (.str x) H Q:=aK6 h.top (Cu hn q ha) k
theorem Xa {a:Addr}{ks:List Str}{y:Str}(h:Rd H a (.dK (Gz ks)))(k:Q (.bl (decide (y∈ks))) H):Xr K false (.str y) (.ref a) H Q:=by
 refine .inr (.inr (.inl ⟨a,Cj (Gz ks) (Sum.inr y:Key),rfl,.inl ⟨_,Sum.inr y,h,rfl,rfl⟩,?_⟩));rw[Mw]
 by_cases e:y∈ks
 . simpa[e] using k
 simpa[e] using k
theorem Ts {a:Addr}{ks:List Str}{y:Str}(h:Rd H a (.dK (Gz ks)))(k:Q (.bl (!decide (y∈ks))) H):Xr K true (.str y) (.ref a) H Q:=by
 refine .inr (.inr (.inl ⟨a,Cj (Gz ks) (Sum.inr y:Key),rfl,.inl ⟨_,Sum.inr y,h,rfl,rfl⟩,?_⟩));rw[Mw]
 by_cases e:y∈ks
 . simpa[e] using k
 simpa[e] using k
theorem Ra {as:List Addr}{a:Addr}{kvs:List (Key×V)}{R:It->Hp->Prop}(h:Rd H a (.dK kvs))(ha:a∈as)(k:∀ o H',Keep as H H'->H' a=some (.frz o (.dK kvs))->R (Itd a o kvs) H'):Fy K (.ref a) H R:=by
 rcases h with h|⟨o,h⟩
 . exact aR3 h λo=>k o _ (Keep.freeze ha h λ_ _ z=>by cases z) Ae
 exact aS2 h (k o H (Keep.refl _ _) h)
end
def clR (ns:List Str)(ps:List (Str×Str))(x:Str):List (Str×Str):=(ns.filter λy=>Aa ps x y).map λy=>(x,y)
def clP (ns:List Str)(ps:List (Str×Str)):List (Str×Str):=ns.flatMap (clR ns ps)
def thB (ns:List Str)(ps:List (Str×Str))(p:Str×Str):Bool:=ns.any λz=>Aa ps p.1 z&&Aa ps z p.2
def baP (ns:List Str)(ps:List (Str×Str)):List (Str×Str):=(clP ns ps).filter λp=>!thB ns ps p
def unB (ps:List (Str×Str))(x y:Str):Bool:=!Aa ps x y && !Aa ps y x
def unR (ns:List Str)(ps:List (Str×Str))(i:Nat):List (Str×Str):=((ns.drop (i+1)).filter λy=>unB ps (ns.getD i "") y).map λy=>(ns.getD i "",y)
def unK (ns:List Str)(ps:List (Str×Str))(k:Nat):List (Str×Str):=(List.range k).flatMap (unR ns ps)
def unP (ns:List Str)(ps:List (Str×Str)):List (Str×Str):=unK ns ps ns.length
theorem mem_clR {ns:List Str}{ps:List (Str×Str)}{x:Str}{p:Str×Str}:p∈clR ns ps x↔p.1=x/\p.2∈ns/\Way ps x p.2:=by
 unfold clR;rw[A0E];constructor
 . rintro⟨y,q,rfl⟩;rw[A0L,wayB_iff] at q;exact⟨rfl,q⟩
 rintro⟨h1,h2⟩;refine⟨p.2,?_,by rw[<- h1]⟩;rw[A0L,wayB_iff];exact h2
theorem mem_clP {ns:List Str}{ps:List (Str×Str)}{p:Str×Str}:p∈clP ns ps↔p.1∈ns/\p.2∈ns/\Way ps p.1 p.2:=by
 unfold clP;rw[A2D];constructor
 . rintro⟨x,q,hp⟩;obtain⟨rfl,h⟩:=mem_clR.mp hp;exact⟨q,h⟩
 rintro⟨h1,h⟩;exact⟨p.1,h1,mem_clR.mpr ⟨rfl,h⟩⟩
theorem aA6 (ns:List Str)(ps:List (Str×Str))(x:Str):(clR ns ps x).length<=ns.length:=by unfold clR;rw [A01];exact A0T _ _
theorem Rf {α β:Type}(f:α->List β)(n:Nat)(h:∀ a,(f a).length<=n):∀ l:List α,(l.flatMap f).length<=l.length*n
 | []=>by simp
 |a :: l=>by rw[A1Q,A07,A0G,A3T];have:=Rf f n h l;have:=h a;omega
theorem ay7 (ns:List Str)(ps:List (Str×Str)):(clP ns ps).length<=ns.length*ns.length:=Rf _ _ (aA6 ns ps) ns
theorem au4 (ns:List Str)(ps:List (Str×Str))(i:Nat):(unR ns ps i).length<=ns.length:=by unfold unR;rw[A01];exact A0O (A0T _ _) (by rw[A1B];omega)
theorem az7 (ns:List Str)(ps:List (Str×Str))(k:Nat):(unK ns ps k).length<=k*ns.length:=by have:=Rf (unR ns ps) ns.length (au4 ns ps) (List.range k);rwa[A1V] at this
theorem am2 (ns:List Str)(ps:List (Str×Str))(k:Nat):unK ns ps (k+1)=unK ns ps k++unR ns ps k:=by unfold unK;rw[List.range_succ,A28];simp
theorem ax3 {ns:List Str}{ps:List (Str×Str)}{k:Nat}{p:Str×Str}(F:k<=ns.length)(h:p∈unK ns ps k):p.1∈ns/\p.2∈ns/\unB ps p.1 p.2=true:=by unfold unK at h;rw[A2D] at h;obtain⟨i,hi,h⟩:=h;have hi:=A21.mp hi;unfold unR at h;obtain⟨y,q,rfl⟩:=A0E.mp h;rw[A0L] at q;refine⟨?_,A35 q.1,q.2⟩;exact A03 (Gu (i:=i) ∅)
theorem M3 {ns:List Str}{ps:List (Str×Str)}{p:Str×Str}(h:p∈unP ns ps):p.1∈ns/\p.2∈ns/\unB ps p.1 p.2=true:=ax3 (A08 _) h
theorem aK0 (p q:Str×Str):PyData.eqv (prD p) (prD q)=decide (p=q):=by obtain⟨a,b⟩:=p;obtain⟨c,d⟩:=q;simp only[prD,PyData.eqv,PyData.eqvAll,Prod.mk.injEq,Bool.and_true];rw[A22];simp
theorem ay1 {ps:List (Str×Str)}(h:NmP ps):PyData.canLayAll0 (ps.map prD)=true:=Jj _ (Ht _ _ λp hp=>(Jg (h p hp).1 (h p hp).2).1)
theorem aI3 {p:Str×Str}(h1:M8 p.1=true)(h2:M8 p.2=true):(prD p).canLay0=true:=L3 _ (Jg h1 h2).1
theorem ak9 {p:Str×Str}(h1:M8 p.1=true)(h2:M8 p.2=true):(prD p).depth<=100:=A0O (Jg h1 h2).2.1 nofun
theorem au3 {ns ks:List Str}{ps:List (Str×Str)}{p:Str×Str}(h1:∀ y∈ks,y∈ns)(h2:∀ y,y∈ks↔Way ps p.1 y):((ks.map λz=>Aa ps z p.2).any id)=thB ns ps p:=by
 unfold thB;rw[A22,A1D,A1D];constructor
 . rintro⟨b,hb,e⟩;obtain⟨z,hz,rfl⟩:=A0E.mp hb;exact⟨z,h1 z hz,by rw[A14];exact⟨wayB_iff.mpr ((h2 z).mp hz),e⟩⟩
 rintro⟨z,hz,e⟩;rw[A14] at e;exact⟨_,A0E.mpr ⟨z,(h2 z).mpr (wayB_iff.mp e.1),rfl⟩,e.2⟩
section
variable {K:W.Frag}{H:Hp}{σ:St}
theorem ae5 {α:Type}{J:It}{xs:List V}{G:Hp->Prop}{g:TG}{tt:TT}{te:TE}{Q:VK}{k:Nat}{js:List Nat}(hw:Hu J xs G)(bs:List Addr)(hb:∀ a∈bs,H a≠none)(as:List α)(hl:as.length=xs.length)(t:α->Bool)(f:α->PyData)(hf:∀ a,frz (f a)=true)(hz:xs.length<=1000000)(hG:∀ H',Keep bs H H'->G H')
  (hs:∀(i:Nat) a v H1 (R:VK) (R':Hp->Prop),as[i]? = some a->xs[i]? = some v->Keep bs H H1->(t a=true->∀ y H2,Keep bs H1 H2->Is K H2 (f a) y->R y H2)->(t a=false->∀ H2,Keep bs H1 H2->R' H2) ->
   g v (List.replicate k none++Po σ js) H1 fun σ2 H2=>tt σ2 H2 λb Y=>if b=true then te σ2 Y R else R' Y)
  (hd:∀ p ys H',H p=none->Keep bs H H'->H' p=some (.lst ys)->IsL K H' ((as.filter t).map f) ys->Q (.ref p) H'):Ni k js g tt te σ J H Q:=by
 have U:∀ p,H p=none->p∉bs:=λp hp hm=>hb p hm hp;refine Ik hw (λp i acc H1=>Keep bs H H1/\IsL K H1 (((as.take i).filter t).map f) acc) (λp H' hp e h=>⟨e.keep bs,by simp only[List.take_zero,List.filter_nil,List.map_nil];exact .nil⟩) (λp i acc H1 h=>hG H1 h.1) (λp i x acc H1 hp hx hi O ha ⟨e,F⟩=>?_) λp acc H1 hp ha O ⟨e,F⟩=>?_
 . have a0:i<as.length:=by omega
   obtain⟨a,hai⟩:∃ a,as[i]? = some a:=⟨as[i],A04 a0⟩;have ht:as.take (i+1)=as.take i++[a]:=by rw[A0S,hai];rfl
   refine hs i a x H1 _ _ hai hx e (λh y H2 q hy=>?_) λh H2 q=>?_
   . have h2:=q.1 _ _ (U p hp) ha;refine Lc hz hi O h2 λH' Z h'=>⟨(e.trans q).lst Z hp (U p hp),?_⟩;rw[ht,A1X,A13];have fz:=Z.fzL h2;refine IsL.append (IsL.fz (q.fz.trans fz) _ _ (De f hf _) F) ?_;simp only[List.filter_cons,h,if_true,List.filter_nil,List.map_cons,List.map_nil];exact .one (Is.fz fz _ _ (hf a) hy)
   refine So hi O (q.1 _ _ (U p hp) ha) ⟨e.trans q,?_⟩;rw[ht,A1X,A13];simp only[List.filter_cons,h,Bool.false_eq_true,if_false,List.filter_nil,List.map_nil,List.append_nil];exact IsL.fz q.fz _ _ (De f hf _) F
 refine hd p acc H1 hp e ha ?_;rw[<- hl,A0U] at F;exact F
theorem an4 {ps:List (Str×Str)}{g:TG}{tt:TT}{te:TE}{Q:VK}{k:Nat}{js:List Nat}{x:V}(h:Is K H (psD ps) x)(bs:List Addr)(hb:∀ a∈bs,H a≠none)(t:Str×Str->Bool)(f:Str×Str->PyData)(hf:∀ a,frz (f a)=true)(hz:ps.length<=1000000)
  (hs:∀(i:Nat) a v H1 (R:VK) (R':Hp->Prop),ps[i]? = some a->Is K H1 (prD a) v->Keep bs H H1->(t a=true->∀ y H2,Keep bs H1 H2->Is K H2 (f a) y->R y H2)->(t a=false->∀ H2,Keep bs H1 H2->R' H2) ->
   g v (List.replicate k none++Po σ js) H1 fun σ2 H2=>tt σ2 H2 λb q=>if b=true then te σ2 q R else R' q)
  (hd:∀ p ys H',H p=none->Keep bs H H'->H' p=some (.lst ys)->IsL K H' ((ps.filter t).map f) ys->Q (.ref p) H'):Fy K x H λJ H1=>Ni k js g tt te σ J H1 Q:=by
 obtain⟨a,xs,rfl,U,O⟩:=Is.tup h;have hl:ps.length=xs.length:=by rw[<- IsL.length O,A01]
 refine Wi U (ae5 (K:=K) (Hz (xs:=xs)) bs hb ps hl t f hf ∅ (λH' e=>e.fz.seq U) (λi z v H1 R R' hz hv e Z a0=>?_) hd);obtain⟨d,F,Y⟩:=IsL.get (IsL.fz e.fz _ _ (Bz ps) O) hv;rw[A06,hz] at F
 cases F;exact hs i z v H1 R R' hz Y e Z a0
theorem Tab.some {H:Hp}{r:Addr}{ns:List Str}{as:List Addr}{R:Str->Str->Prop}(h:Tab H r ns as R):∀ a∈as,H a≠none:=λa ha e=>by
 obtain⟨i,hi,F⟩:=A1N ha;have q:i<ns.length:=by rw[<- h.len];exact hi
 obtain⟨ks,h1,_⟩:=h.row i ns[i] a (A04 q) (by rw[A04 hi,F]);rw[e] at h1
 cases h1
theorem am3 {ns:List Str}{i:Nat}(h:i<=ns.length):Pr (ns.map V.str) (some ((i:Nat):Int)) none=(ns.drop i).map V.str:=by rw[Kr ∅ (by rw[A01];omega),A43];rfl
end
section
variable {prog:Program}{w:World}{A:Around}{E:Value->Shared->Prop}{s:Shared}
end
section
variable {X:Cx}{K:W.Frag}
end
section
variable {K:W.Frag}{σ:St}{H:Hp}
end
theorem Ul {α:Type}{p:α->Bool}:∀ {l:List α} {x:α},x∈l->p x=false->(l.filter p).length<l.length
 |a :: l,x,hx,h=>by
   rcases A0A.mp hx with rfl|hx
   . rw[A19,h];exact Nat.lt_succ_of_le (A0T _ _)
   rw[A19];have:=Ul hx h
   split
   . rw[A0G,A0G];omega
   rw[A0G];omega
theorem am1 (Ls:List (List Str)):Mm (Ls.map nmD)=true:=De _ M4 Ls
section
variable {K:W.Frag}{H:Hp}{Q:VK}
end
section
variable {P:Program}{w:World}{κ:Type}[DecidableEq κ]{knd:KeyKind P w κ}{A:Around}{E:Value->Shared->Prop}{s:Shared}
end
section
variable {X:Cx}{pins:List (Addr×Obj)}{σ:St}{H:Hp}{s:Shared}{A:Around}
end
section
variable {prog:Program}{w:World}{A:Around}{E:Value->Shared->Prop}{s:Shared}
end
section
variable {X:Cx}{K:W.Frag}
end
theorem Way.mem {ns:List Str}{ps:List (Str×Str)}(hm:∀ p∈ps,p.1∈ns/\p.2∈ns){x y:Str}(h:Way ps x y):x∈ns/\y∈ns:=by obtain⟨p,hp,e⟩:=A0E.mp h.left;obtain⟨q,J,F⟩:=A0E.mp h.right;exact⟨e ▸ (hm p hp).1,F ▸ (hm q J).2⟩
theorem aL7 {ns:List Str}{ps:List (Str×Str)}(hm:∀ p∈ps,p.1∈ns/\p.2∈ns){x y:Str}:Way (clP ns ps) x y↔Way ps x y:=by
 constructor
 . intro h
   induction h with
   |one e=>exact(mem_clP.mp e).2.2
   |cons e _ ih=>exact(mem_clP.mp e).2.2.trans ih
 intro h;have:=h.mem hm;exact .one (mem_clP.mpr ⟨this.1,this.2,h⟩)
theorem ax5 {ns:List Str}{ps:List (Str×Str)}{p:Str×Str}:thB ns ps p=true↔∃ z∈ns,Way ps p.1 z/\Way ps z p.2:=by
 unfold thB;rw[A1D];constructor
 . rintro⟨z,hz,e⟩;rw[A14] at e;exact⟨z,hz,wayB_iff.mp e.1,wayB_iff.mp e.2⟩
 rintro⟨z,hz,q,F⟩;exact⟨z,hz,by rw[A14];exact⟨wayB_iff.mpr q,wayB_iff.mpr F⟩⟩
theorem mem_baP {ns:List Str}{ps:List (Str×Str)}{p:Str×Str}:p∈baP ns ps↔p∈clP ns ps/\¬ ∃ z∈ns,Way ps p.1 z/\Way ps z p.2:=by unfold baP;rw[A0L,Bool.not_eq_true',<- Bool.not_eq_true,ax5]
theorem R0 {α:Type}{p q:α->Bool}{l:List α}(h:∀ a∈l,p a=true->q a=true){x:α}(F:x∈l)(h1:q x=true)(h2:p x=false):(l.filter p).length<(l.filter q).length:=by
 have e:l.filter p=(l.filter q).filter p:=by
  rw[A4A];refine A1J λa ha=>?_
  cases hp:p a with
  |false=>rfl
  |true=>rw[h a ha hp];rfl
 rw[e];exact Ul (A0L.mpr ⟨F,h1⟩) h2
theorem ao4 {ns:List Str}{ps:List (Str×Str)}(hm:∀ p∈ps,p.1∈ns/\p.2∈ns)(irr:∀ x,¬ Way ps x x){x y:Str}:Way (baP ns ps) x y↔Way ps x y:=by
 constructor
 . exact λh=>(aL7 hm).mp (h.mono λp hp=>(mem_baP.mp hp).1)
 suffices g:∀ n x y,(ns.filter λz=>Aa ps x z&&Aa ps z y).length<=n->Way ps x y->Way (baP ns ps) x y from λh=>g _ x y (A08 _) h
 intro n
 induction n with
 |zero=>
   intro x y hn h;have F:=h.mem hm;refine .one (mem_baP.mpr ⟨mem_clP.mpr ⟨F.1,F.2,h⟩,?_⟩);rintro⟨z,hz,h1,h2⟩;have:z∈ns.filter λz=>Aa ps x z&&Aa ps z y:=A0L.mpr ⟨hz,by rw[A14];exact⟨wayB_iff.mpr h1,wayB_iff.mpr h2⟩⟩;rw[A17.mp (Nat.le_zero.mp hn)] at this
   cases this
 |succ n ih=>
   intro x y hn h;have F:=h.mem hm
   by_cases O:∃ z∈ns,Way ps x z/\Way ps z y
   . obtain⟨z,hz,h1,h2⟩:=O;have J:(Aa ps x z&&Aa ps z y)=true:=by rw[A14];exact⟨wayB_iff.mpr h1,wayB_iff.mpr h2⟩
     have U:=R0 (p:=λu=>Aa ps x u&&Aa ps u z) (q:=λu=>Aa ps x u&&Aa ps u y) (l:=ns) (λu _ hu=>by rw[A14] at hu ⊢;exact⟨hu.1,wayB_iff.mpr ((wayB_iff.mp hu.2).trans h2)⟩) hz J (by rw[Jr (irr z),Bool.and_false])
     have Y:=R0 (p:=λu=>Aa ps z u&&Aa ps u y) (q:=λu=>Aa ps x u&&Aa ps u y) (l:=ns) (λu _ hu=>by rw[A14] at hu ⊢;exact⟨wayB_iff.mpr (h1.trans (wayB_iff.mp hu.1)),hu.2⟩) hz J (by rw[Jr (irr z),Bool.false_and])
     exact(ih x z ∅ h1).trans (ih z y ∅ h2)
   exact .one (mem_baP.mpr ⟨mem_clP.mpr ⟨F.1,F.2,h⟩,O⟩)
theorem ae0 (ps:List (Str×Str))(a:Str)(m:List Str):∀ t:List Str,(t.flatMap (clR (a :: m) ps)).length=(t.flatMap (clR m ps)).length+(t.filter λx=>Aa ps x a).length
 | []=>by simp
 |x :: t=>by
   rw[A1Q,A1Q,A07,A07,ae0 ps a m t,A19]
   have e:(clR (a :: m) ps x).length=(clR m ps x).length+(if Aa ps x a=true then 1 else 0):=by
    unfold clR;rw[A01,A01,A19]
    split
    . rw[A0G]
    rfl
   rw[e]
   split
   . rw[A0G];omega
   omega
theorem Tb {ps:List (Str×Str)}(irr:∀ x,¬ Way ps x x)(a:Str):∀ t:List Str,(t.filter λy=>Aa ps a y).length+(t.filter λy=>Aa ps y a).length+(t.filter λy=>unB ps a y).length=t.length
 | []=>rfl
 |y :: t=>by
   have q:=Tb irr a t;rw[A19,A19,A19,A0G];unfold unB at q ⊢
   cases h1:Aa ps a y<;>cases h2:Aa ps y a
   . simp;omega
   . simp;omega
   . simp;omega
   exact absurd ((wayB_iff.mp h1).trans (wayB_iff.mp h2)) (irr a)
theorem Ih (ps:List (Str×Str))(a:Str)(t:List Str):(unP (a :: t) ps).length=(t.filter λy=>unB ps a y).length+(unP t ps).length:=by
 have e:∀ i,unR (a :: t) ps (i+1)=unR t ps i:=λi=>by unfold unR;rw[List.getD_cons_succ,List.drop_succ_cons]
 unfold unP unK;rw[A0G,List.range_succ_eq_map,A1Q,A07,List.flatMap_map]
 have q:(unR (a :: t) ps 0).length=(t.filter λy=>unB ps a y).length:=by unfold unR;rw[A01];rfl
 rw[q];have F:(λi=>unR (a :: t) ps (Nat.succ i))=unR t ps:=funext e;rw[show((List.range t.length).flatMap λi=>unR (a :: t) ps i.succ)=(List.range t.length).flatMap (unR t ps) from by rw[F]]
theorem X5 {ps:List (Str×Str)}(irr:∀ x,¬ Way ps x x):∀ l:List Str,2*(((l.flatMap (clR l ps)).length:Int)+((unP l ps).length:Int))=(l.length:Int)*((l.length:Int)-1)
 | []=>by rfl
 |a :: t=>by
   have F:=X5 irr t;have J:=Tb irr a t;rw[A1Q,A07,ae0,Ih]
   have e:(clR (a :: t) ps a).length=(t.filter λy=>Aa ps a y).length:=by unfold clR;rw[A01,A19,Jr (irr a)];rfl
   rw[e,A0G]
   have q:(((t.length+1:Nat):Int))*((((t.length+1:Nat):Int))-1)=(t.length:Int)*((t.length:Int)-1)+2*(t.length:Int):=by rw[Int.natCast_add,show((1:Nat):Int)=1 from rfl,Int.add_sub_cancel,Int.add_mul,Int.mul_sub];omega
   rw[q,<- F];omega
theorem W3 {ns:List Str}{ps:List (Str×Str)}(irr:∀ x,¬ Way ps x x):2*(((clP ns ps).length:Int)+((unP ns ps).length:Int))=(ns.length:Int)*((ns.length:Int)-1):=X5 irr ns
theorem HalfW.ba {ns:List Str}{ps:List (Str×Str)}(h:HalfW ns ps)(q:(baP ns ps).length<=1000):HalfW ns (baP ns ps):=
 ⟨h.nd,λp hp=>let ⟨a,b,_⟩:=mem_clP.mp (mem_baP.mp hp).1;⟨a,b⟩,λx g=>h.irr x ((ao4 h.mem h.irr).mp g),h.few,q⟩
section
variable {P:Program}{w:World}{A:Around}{R:Result->Shared->Prop}{it:Addr}{fp wr:List Addr}{G:Array GenState->Array GenState->Prop}{n:Nat}{PV:Nat->Value->Prop}{St:Nat->Shared->Prop}
end
section
variable {prog:Program}{w:World}{A:Around}{E:Value->Shared->Prop}{s:Shared}
set_option maxHeartbeats 3200000 in
end
section
variable {X:Cx}{K:W.Frag}
end
theorem Qs {z:Str}(h:M8 z=true):z.length<=8:=(Z4 h).2
section
variable {K:W.Frag} {H:Hp} {Q:VK}
end
theorem Gn (ns:List Int):∀ j ≤ ns.length,preSum (λi=>ns.getD i 0) j=(ns.take j).sum
 |0,_=>by simp[preSum]
 |j+1,h=>by rw[preSum,Gn ns j ∅,A0S,Gu (y:=0) (by omega:j<ns.length)];simp
theorem Om:∀ {ns:List Int},(∀ n∈ns,0<=n/\n<=1000000000000)->0<=ns.sum/\ns.sum<=1000000000000*(ns.length:Int)
 | [],_=>by simp
 |n :: ns,h=>by have h1:=h n (by simp);have h2:=Om λm hm=>h m (A09 _ hm);rw[A1H,A0G];omega
section
variable {X:Cx}{K:W.Frag}
def aR2 (K:W.Frag):List V->Hp->VK->Prop:=λxs H Q=>∃(a:Addr) (ns:List Int),xs=[.ref a]/\(SqL K H a (ns.map V.int)\/SqT K H a (ns.map V.int))/\(∀ n∈ns,0<=n/\n<=1000000000000)/\ns.length<=1000000/\Q (.int ns.sum) H
theorem ap6 {ns:List Int}{q:List Value}(r:Vals (ns.map V.int) q){i:Nat}{v:Value}(h:q.toArray[i]? = some v):∃ t,v = .int (ns.getD i 0) t:=by
 rw[A2Y] at h;have F:=r.length;rw[A01] at F
 have hi:i<ns.length:=by have:=(A00.mp h).1;omega
 obtain⟨u,hu,J⟩:=r.get (i:=i) (x:=.int (ns.getD i 0)) (by rw[A06,Gu (y:=0) hi];rfl);rw[h] at hu
 cases hu;exact J
theorem ab3 (hc:X.calm=true):CallR X (.builtin "sum") (aR2 X.K):=by
 intro pins s σ H xs us Q I r h;obtain⟨a,ns,rfl,J,hb,hz,q⟩:=h;obtain⟨u,rfl,ru⟩:=Ij r
 cases ru
 have fits:∀ j,j<ns.length->InLong (ns.getD j 0)/\InLong (preSum (λi=>ns.getD i 0) (j+1)):=λj hj=>by have h1:=hb _ (A03 (Gu (y:=0) hj));have h2:=Om (ns:=ns.take (j+1)) λn hn=>hb n (A25 hn);rw[Gn ns (j+1) hj];rw[A10] at h2;unfold InLong;omega
 have last:preSum (λi=>ns.getD i 0) ns.length=ns.sum:=by rw[Gn ns _ (A08 _),A0U]
 refine call_sum_walk ?_;rcases J with J|J
 . obtain⟨Y,Z,pl,_⟩:=I.list J;have O:Y.toArray.size=ns.length:=by rw[A0R,<- Z.length,A01]
   have U:a<s.heap.objs.size:=let ⟨_,e,_⟩:=pl.isList;A0D e;refine A3S pl.isList ?_;refine⟨_,_,_,_,_,_,λi=>ns.getD i 0,rfl,Walks.list (by simpa using I.ok.hd hc) _ a (Nat.ne_of_lt U) Y.toArray,⟨⟨_,Heap.get?_push_size _ rfl,rfl,rfl⟩,pl.isList.push _⟩,λb F=>?_,λi v hv=>ap6 Z hv,by rw[O];exact fits,λh' tk t' hk=>?_⟩
   . rw[A20];simp only[List.mem_cons,List.not_mem_nil,or_false] at F;rcases F with rfl|rfl
     . exact A2S _
     exact A2O U
   refine⟨.int ns.sum,H,I.kept (t':=tk) λb o e=>hk b o (λz=>?_) (A02 _ e),⟨t',by rw[O,last]⟩,q⟩;have:b=s.heap.objs.size:=by simpa using z
   subst this;exact absurd (A0D e) (A1P _)
 obtain⟨Y,Z,pl,_⟩:=I.tuple J;have O:Y.toArray.size=ns.length:=by rw[A0R,<- Z.length,A01]
 have U:a<s.heap.objs.size:=let ⟨_,e,_⟩:=pl;A0D e;refine A3J pl ?_;refine⟨_,_,_,_,_,_,λi=>ns.getD i 0,rfl,Walks.tuple (by simpa using I.ok.hd hc) _ a (Nat.ne_of_lt U) Y.toArray,⟨⟨_,Heap.get?_push_size _ rfl,rfl,rfl⟩,Heap.IsTuple.push pl _⟩,λb F=>?_,λi v hv=>ap6 Z hv,by rw[O];exact fits,λh' tk t' hk=>?_⟩
 . rw[A20];simp only[List.mem_cons,List.not_mem_nil,or_false] at F;rcases F with rfl|rfl
   . exact A2S _
   exact A2O U
 refine⟨.int ns.sum,H,I.kept (t':=tk) λb o e=>hk b o (λz=>?_) (A02 _ e),⟨t',by rw[O,last]⟩,q⟩;have:b=s.heap.objs.size:=by simpa using z
 subst this;exact absurd (A0D e) (A1P _)
theorem Oq (F:X.calm=true)(q:X.K=K:=by ac_nf):CallR X (.builtin "sum") (aR2 K):=q ▸ ab3 F
theorem aB5 {a:Addr}{ns:List Int}{H:Hp}{Q:VK}(h:SqL K H a (ns.map V.int)\/SqT K H a (ns.map V.int))(hb:∀ n∈ns,0<=n/\n<=1000000000000)(hz:ns.length<=1000000)(k:Q (.int ns.sum) H):aR2 K [.ref a] H Q:=⟨a,ns,rfl,h,hb,hz,k⟩
end
section
variable {prog:Program}{w:World}{A:Around}{E:Value->Shared->Prop}{s:Shared}
theorem a92 {t:Addr}{items:Array Value}{x:Value}{e:Value->Bool}{j:Nat}{Q:Value->Shared->Prop}(O:IsTup s.heap t items)(hj:j<items.size)(he:∀ y,y∈items->SeqAt.EqAt A.in1 s y x (e y))(U:e items[j]=true)
  (Z:∀ m (hm:m<items.size),m<j->e items[m]=false) (h:Q (.int j s.toks) {s with toks:=s.toks+1}):wpAny (model prog w) A (call (.builtin "tuple.index") [.ref t,x]) Q E s:=by
 refine A3Z A2P O.typeIs PySem.F.entry_tuple_index ?_ (PySem.F.args_tuple_index_2 _ _);unfold Builtin.«tuple.index»;refine A05 (wpAny_of_eq (a:=(Value.ref t,[x])) (by first | rfl | kernel_rfl) ?_)
 refine A05 (m:=Builtin.Tuple.tupleItemsOf _) (tupleItemsOf_ O ?_);refine A05 (m:=pure 0) (A0K ?_);refine A05 (m:=pure items.size) (A0K ?_);dsimp only;rw[Nat.min_self];refine A05 ?_;rw[Std.Legacy.Range.forIn_eq_forIn_range',show Std.Legacy.Range.size [:items.size]=items.size by simp[Std.Legacy.Range.size]];refine wpAny_forIn_list _ (λl q s'=>s'=s/\q=(none,())/\∃ i,i<=j/\l=List.range' i (items.size-i)) _ ?_ ?_ _ _ ⟨rfl,rfl,0,A2J _,rfl⟩
 . rintro m l q s' ⟨rfl,rfl,i,hi,J⟩;rw[show items.size-i=items.size-(i+1)+1 by omega,List.range'_succ] at J;injection J with e1 e2;subst e1;have hm:m<items.size:=by omega
   rw[Array.getElem?_eq_getElem hm];refine A05 (he _ (Array.getElem_mem hm) prog w _ _ ?_)
   by_cases Y:m=j
   . subst Y;rw[U,A0Z rfl];refine A05 (m:=retInt _) ?_;refine A05 (wpAny_mkInt ?_);exact A0K (A0K (A0K ⟨_,rfl,h⟩))
   rw[Z m hm ∅,A0Q nofun];exact A0K ⟨rfl,rfl,m+1,by omega,e2⟩
 rintro q s' ⟨rfl,rfl,i,hi,J⟩;exfalso;rw[show items.size-i=items.size-(i+1)+1 by omega,List.range'_succ] at J
 cases J
end
section
variable {X:Cx}{K:W.Frag}
def W7 (K:W.Frag):V->List V->Hp->VK->Prop:=λx vs H Q=>∃(a:Addr) (ns:List Str) (z:Str) (j:Nat),x = .ref a/\vs=[.str z]/\SqT K H a (ns.map V.str)/\ns[j]? = some z/\(∀ m<j,ns[m]? ≠ some z)/\Q (.int (j:Nat)) H
theorem ah5:MtR X "tuple.index" (W7 X.K):=by
 intro pins s σ H x vs v us Q I rx rv h;obtain⟨a,ns,z,j,rfl,rfl,hS,O,a2,q⟩:=h
 cases rx;obtain⟨u,rfl,ru⟩:=rv.one;obtain⟨Y,r,p,hz⟩:=I.tuple hS;have a0:=r.length;rw[A01] at a0;have a4:=(A00.mp O).1
 have J:∀ m (hm:m<Y.toArray.size),∃ y t,ns[m]? = some y/\Y.toArray[m] = .str y t:=λm hm=>by
  have U:m<ns.length:=by rw[A0R] at hm;omega
  obtain⟨w,F,a3⟩:=r.get (i:=m) (x:=.str ns[m]) (by rw[A06,A04 U];rfl);obtain⟨t,rfl⟩:=a3;refine⟨ns[m],t,A04 U,?_⟩;have h2:=(A00.mp F).2;simpa using h2
 have Z:∀ y t,eqU (.str z) (.str y t)=decide (y=z):=λy t=>by
  show(y==z)=_
  by_cases h:y=z<;>simp[h]
 refine a92 (j:=j) (e:=eqU (.str z)) p (by rw[List.size_toArray];omega) (λw F=>Jp ru rfl r (Ks ns) w (by simpa using F)) ?_ (λm hm a1=>?_) ⟨.int _,H,I.tok _,⟨_,rfl⟩,q⟩
 . obtain⟨y,t,h1,h2⟩:=J j (by rw[A0R];omega);rw[h2,Z];rw[O] at h1;exact A0Y (A15 h1).symm
 obtain⟨y,t,h1,h2⟩:=J m hm;rw[h2,Z];refine A0N λe=>a2 m a1 ?_;rw[h1,e]
theorem Jt (q:X.K=K:=by ac_nf):MtR X "tuple.index" (W7 K):=q ▸ ah5
theorem Mr {a:Addr}{ns:List Str}{z:Str}{j:Nat}{H:Hp}{Q:VK}(h:SqT K H a (ns.map V.str))(q:ns[j]? = some z)(F:∀ m<j,ns[m]? ≠ some z)(k:Q (.int (j:Nat)) H):W7 K (.ref a) [.str z] H Q:=⟨a,ns,z,j,rfl,rfl,h,q,F,k⟩
def aU4 (K:W.Frag)(r:V->List V->Hp->VK->Prop)(to:TE)(t:TA):TE:=fun σ H Q=>to σ H λx H1=>(∃ a xs,x = .ref a/\SqT K H1 a xs)/\t σ H1 λvs H2=>r x vs H2 Q
theorem X6 {o e:Expr}{es:List Expr}{to:TE}{t:TA}{name:Str}{apos cpos:Pos}{id:String}{r:V->List V->Hp->VK->Prop}(slot:Slot "tuple" name id)(a3:typeOf (.builtin id)=pure (.type "method_descriptor"))(hm:MtR X id r)(ho:PE X o to)(ha:PA X (e :: es) t)(Y:X.K=K:=by ac_nf)
  (Z:attributeBase o name X.env (eval o X.env)=eval o X.env:=by ac_nf)
  (a0:((backTo cpos (starEach (e :: es) X.env)).all (λx=>!x.1)&&(backToKw cpos (keywordEach [] X.env)).all (λx=>x.1.isSome)&&decide ((e :: es).length+([]:List Keyword).length+(if([]:List Keyword).isEmpty then 0 else 1)<30))=true:=by ac_nf)
  (a1:(apos.endLine==cpos.line)=true:=by ac_nf) (hs:starEach (e :: es) X.env=(false,eval e X.env) :: starEach es X.env:=by ac_nf) (a2:(backTo cpos (starEach es X.env)).any (·.1)=false:=by ac_nf) :
  PE X (.Call (.Attribute o name apos) (e :: es) [] cpos) (aU4 K r to t):=by
 subst Y;intro pins s σ H Q I h;refine wpAny_Call_method_late Z a0 a1 rfl (thn (ho pins s σ H _ I h) λv s1 ⟨x,H1,q,r1,ty,q1⟩=>?_);obtain⟨a,xs,rfl,O⟩:=ty
 cases r1;obtain⟨a4,_,p,_⟩:=q.tuple O;refine⟨"tuple",id,PySem.F.plainAttrs_tuple,slot,a3,p.typeIs,(λb e=>by cases e;exact q.tupleN O),?_⟩;have J:=ha cpos pins s1 σ H1 _ q q1;rw[hs] at J ⊢;refine A2T (by show(false||(backTo cpos (starEach es X.env)).any (·.1))=false;rw[a2];rfl) (A40 ?_)
 exact thn J λus s2 ⟨vs,H2,U,r2,q2⟩=>hm pins s2 σ H2 (.ref a) vs _ us Q U rfl r2 q2
theorem i_bmT {r:V->List V->Hp->VK->Prop}{te:TE}{q:TA}{σ:St}{H:Hp}{Q:VK}(k:te σ H λx H1=>(∃ a xs,x = .ref a/\SqT K H1 a xs)/\q σ H1 λxs H2=>r x xs H2 Q):aU4 K r te q σ H Q:=k
theorem an2 {a:Addr}{xs:List V}{H:Hp}{B:Prop}(h:SqT K H a xs)(k:B):(∃ q F,V.ref a = .ref q/\SqT K H q F)/\B:=⟨⟨a,xs,rfl,h⟩,k⟩
end
section
variable {prog:Program}{w:World}{A:Around}{E:Value->Shared->Prop}{s:Shared}
end
section
variable {X:Cx}{K:W.Frag}
end
section
variable {α:Type}[DecidableEq α]
def B1:List α->(α->Bool)->Nat
 | [],_=>0
 |x :: xs,p=>(p x).toNat+2*B1 xs p
def Eo:List α->α->Nat
 | [],_=>0
 |y :: ys,x=>if x=y then 1 else 2*Eo ys x
theorem Lo {p q:α->Bool}:∀ {ns:List α},(∀ x∈ns,p x=q x)->B1 ns p=B1 ns q
 | [],_=>rfl
 |x :: xs,h=>by unfold B1;rw[h x (by simp),Lo (ns:=xs) λy F=>h y (by simp[F])]
theorem ak8 {a b:Bool} {m n:Nat} (h:a.toNat+2*m=b.toNat+2*n):a=b/\m=n:=by cases a<;>cases b<;>simp[Bool.toNat] at h ⊢ <;> omega
theorem L4 {p q:α->Bool}:∀ {ns:List α},B1 ns p=B1 ns q->∀ x∈ns,p x=q x
 | [],_,x,hx=>by cases hx
 |y :: ys,h,x,hx=>by
   unfold B1 at h;obtain⟨h1,h2⟩:=ak8 h;rcases A0A.mp hx with rfl|hx
   . exact h1
   exact L4 h2 x hx
theorem ak5 (a b:Bool)(m n:Nat):(a.toNat+2*m) &&& (b.toNat+2*n)=(a&&b).toNat+2*(m &&& n):=by
 apply Nat.eq_of_testBit_eq;intro i;rw [Nat.testBit_and]
 cases i with
 |zero=>cases a<;>cases b<;>simp[Nat.testBit_zero,Bool.toNat]<;>omega
 |succ i=>
   rw[Nat.testBit_succ,Nat.testBit_succ,Nat.testBit_succ];have e:∀(c:Bool) (k:Nat),(c.toNat+2*k) / 2=k:=λc k=>by cases c<;>simp[Bool.toNat]<;>omega
   rw[e,e,e,Nat.testBit_and]
theorem X4 (p q:α->Bool):∀ ns:List α,B1 ns p &&& B1 ns q=B1 ns (λx=>p x&&q x)
 | []=>by simp[B1]
 |x :: xs=>by unfold B1;rw[ak5,X4 p q xs]
theorem binM_zero {p:α->Bool}:∀ {ns:List α},B1 ns p=0↔∀ x∈ns,p x=false
 | []=>by simp[B1]
 |x :: xs=>by
   unfold B1;have:=binM_zero (p:=p) (ns:=xs);constructor
   . intro h y q;have h1:(p x).toNat=0:=by omega
     have h2:B1 xs p=0:=by omega
     rcases A0A.mp q with rfl|q
     . cases e:p y with
       |false=>rfl
       |true=>rw[e] at h1;cases h1
     exact this.mp h2 y q
   intro h;rw[h x (by simp),this.mpr λy q=>h y (by simp[q])];rfl
theorem Ww (p:α->Bool):∀ ns:List α,B1 ns p<2 ^ ns.length
 | []=>by simp[B1]
 |x :: xs=>by
   have:=Ww p xs;unfold B1;rw[A0G,Nat.pow_succ];have:(p x).toNat<=1:=by cases p x<;>simp[Bool.toNat]
   omega
theorem a80:∀ {ns:List α},ns.Nodup->∀ {x:α},x∈ns->Eo ns x=B1 ns (λy=>decide (y=x))
 | [],_,x,h=>by cases h
 |y :: ys,hn,x,h=>by
   obtain⟨h1,h2⟩:=A0V.mp hn;unfold Eo B1
   by_cases e:x=y
   . subst e;rw[A0Z rfl,(binM_zero (p:=λy=>decide (y=x)) (ns:=ys)).mpr λz hz=>A0N λq=>h1 (by rw[<- q];exact hz)];simp[Bool.toNat]
   rw[A0Q e,a80 h2 ((A0A.mp h).resolve_left e)];have:decide (y=x)=false:=A0N λq=>e q.symm;show _=(decide (y=x)).toNat+_;rw[this];simp[Bool.toNat]
theorem R1 (f:α->Nat):∀ l:List α,(l.map λx=>2*f x).sum=2*(l.map f).sum
 | []=>rfl
 |x :: xs=>by simp[R1 f xs,Nat.mul_add]
theorem Ms (p:α->Bool):∀ {ns:List α},ns.Nodup->((ns.filter p).map (Eo ns)).sum=B1 ns p
 | [],_=>rfl
 |y :: ys,hn=>by
   obtain⟨h1,h2⟩:=A0V.mp hn
   have e:(ys.filter p).map (Eo (y :: ys))=(ys.filter p).map λx=>2*Eo ys x:=by
    apply A0W;intro x F;have:x≠y:=λq=>h1 (q ▸ (A0L.mp F).1);show(if x=y then 1 else 2*Eo ys x)=_
    rw [A0Q this]
   unfold B1;rw[A19]
   cases hp:p y with
   |true=>
     rw[A0Z rfl,A0H,A1H,e,R1,Ms p h2];show(if y=y then 1 else _)+_=_
     rw[A0Z rfl];rfl
   |false=>rw[A0Q nofun,e,R1,Ms p h2];simp[Bool.toNat]
theorem Nm {p:α->Bool}:∀ {ns:List α},ns.Nodup->∀ {x:α},x∈ns->p x=true->B1 ns p=B1 ns (λy=>p y && !decide (y=x))+Eo ns x
 | [],_,x,h,_=>by cases h
 |y :: ys,hn,x,h,hp=>by
   obtain⟨h1,h2⟩:=A0V.mp hn;unfold Eo B1
   by_cases e:x=y
   . subst e;rw[A0Z rfl,hp,Lo (ns:=ys) (p:=λy=>p y && !decide (y=x)) (q:=p) λz hz=>?_]
     . simp[Bool.toNat];omega
     have:decide (z=x)=false:=A0N λq=>h1 (q ▸ hz);simp[this]
   rw[A0Q e,Nm h2 ((A0A.mp h).resolve_left e) hp];have:decide (y=x)=false:=A0N λq=>e q.symm;show _=((p y && !decide (y=x)).toNat+_)+_;rw[this];simp;omega
def frF (b:α->α->Bool)(L:List α):List α:=L.filter λx=>!(L.any λy=>b y x)
def Ai (L:List α)(x:α):List α:=L.filter λy=>!decide (y=x)
def ext (b:α->α->Bool):Nat->List α->List (List α)
 |0,_=>[[]]
 |n+1,L=>(frF b L).flatMap λx=>(ext b n (Ai L x)).map (x :: ·)
def cnt (b:α->α->Bool)(L:List α):Nat:=(ext b L.length L).length
theorem cnt_nil (b:α->α->Bool):cnt b []=1:=rfl
theorem mem_frF {b:α->α->Bool}{L:List α}{x:α}:x∈frF b L↔x∈L/\∀ y∈L,b y x=false:=by
 unfold frF;rw[A0L];constructor
 . rintro ⟨h1,h2⟩;refine⟨h1,λy q=>?_⟩
   cases e:b y x with
   |false=>rfl
   |true=>
     have:(L.any λy=>b y x)=true:=A1D.mpr ⟨y,q,e⟩;rw[this] at h2
     cases h2
 rintro⟨h1,h2⟩;refine⟨h1,?_⟩
 have:(L.any λy=>b y x)=false:=by
  rw[Bool.eq_false_iff];intro h;obtain⟨y,q,e⟩:=A1D.mp h;rw[h2 y q] at e
  cases e
 rw[this];rfl
theorem mem_lessF {L:List α}{x y:α}:y∈Ai L x↔y∈L/\y≠x:=by unfold Ai;rw[A0L];simp
theorem B7 {L:List α}(h:L.Nodup)(x:α):(Ai L x).Nodup:=A24 (A1U) h
theorem Rg:∀ {L:List α} {x:α},x∉L->Ai L x=L:=fun {L x} h=>by unfold Ai;rw[A3A];intro y F;have:y≠x:=λq=>h (q ▸ F);simp[this]
theorem Bb:∀ {L:List α} {x:α},L.Nodup->x∈L->(Ai L x).length+1=L.length
 | [],_,_,h=>by cases h
 |y :: ys,x,hn,h=>by
   obtain⟨h1,h2⟩:=A0V.mp hn
   by_cases e:y=x
   . subst e;have:Ai (y :: ys) y=Ai ys y:=by unfold Ai;rw[List.filter_cons,if_neg (by simp)]
     rw[this,Rg h1];rfl
   have:Ai (y :: ys) x=y :: Ai ys x:=by unfold Ai;rw[List.filter_cons,if_pos (by simp[e])]
   rw[this,A0G,Bb h2 ((A0A.mp h).resolve_left λq=>e q.symm)];rfl
theorem Kz {b:α->α->Bool} {L:List α} (hn:L.Nodup) (q:L≠[]):cnt b L=((frF b L).map λx=>cnt b (Ai L x)).sum:=by
 unfold cnt
 cases hl:L.length with
 |zero=>exact absurd (A17.mp hl) q
 |succ n=>
   show((frF b L).flatMap λx=>(ext b n (Ai L x)).map (x :: ·)).length=_;rw[A51];congr 1;apply A0W;intro x F;have:=Bb hn (mem_frF.mp F).1;have e:(Ai L x).length=n:=by omega
   rw[A01,e]
def G6 (ns row:List α):List α:=ns.filter λx=>!decide (x∈row)
def Gi (b:α->α->Bool)(ns:List α)(q:List (List α)):List (List α):=q.flatMap λrow=>(frF b (G6 ns row)).map λx=>row++[x]
def Ex (b:α->α->Bool)(ns:List α):Nat->List (List α)->List (List α)
 |0,r=>r
 |k+1,r=>Ex b ns k (Gi b ns r)
theorem Hl (b:α->α->Bool)(ns:List α):∀(k:Nat) (r:List (List α)),Ex b ns (k+1) r=Gi b ns (Ex b ns k r)
 |0,r=>rfl
 |k+1,r=>Hl b ns k (Gi b ns r)
theorem M6 (b:α->α->Bool)(ns:List α):∀(k:Nat) (r t:List (List α)),Ex b ns k (r++t)=Ex b ns k r++Ex b ns k t
 |0,r,t=>rfl
 |k+1,r,t=>by
   show Ex b ns k (Gi b ns (r++t))=_;have:Gi b ns (r++t)=Gi b ns r++Gi b ns t:=by unfold Gi;rw[List.flatMap_append]
   rw[this,M6 b ns k];rfl
theorem Va (b:α->α->Bool)(ns:List α):∀ k:Nat,Ex b ns k []=[]
 |0=>rfl
 |k+1=>Va b ns k
theorem Ti (b:α->α->Bool)(ns:List α)(k:Nat)(f:α->List α):∀ l:List α,Ex b ns k (l.map f)=l.flatMap λx=>Ex b ns k [f x]
 | []=>Va b ns k
 |x :: xs=>by rw[A0H,A1Q,<- Ti b ns k f xs,<- M6];rfl
theorem Yn (ns row:List α)(x:α):G6 ns (row++[x])=Ai (G6 ns row) x:=by
 unfold G6 Ai;rw[A4A];apply A1J;intro y _
 by_cases h:y∈row<;>by_cases e:y=x<;>simp[h,e]
theorem Xw (b:α->α->Bool)(ns:List α):∀(k:Nat) (row:List α),Ex b ns k [row]=(ext b k (G6 ns row)).map (row ++ ·)
 |0,row=>by simp[Ex,ext]
 |k+1,row=>by
   show Ex b ns k (Gi b ns [row])=_;have e:Gi b ns [row]=(frF b (G6 ns row)).map λx=>row++[x]:=by unfold Gi;simp
   rw[e,Ti];show _=((frF b (G6 ns row)).flatMap λx=>(ext b k (Ai (G6 ns row) x)).map (x :: ·)).map (row ++ ·);rw[List.map_flatMap];congr 1;funext x;rw[Xw b ns k,Yn,A1A];congr 1;funext r;simp
theorem ab6 (ns:List α):G6 ns []=ns:=by unfold G6;rw[A3A];simp
def fac:Nat->Nat
 |0=>1
 |n+1=>fac n*(n+1)
theorem Xm {f g:α->Nat}:∀ {l:List α},(∀ x∈l,f x<=g x)->(l.map f).sum<=(l.map g).sum
 | [],_=>A08 _
 |x :: xs,h=>by have h1:=h x (by simp);have h2:=Xm (l:=xs) (f:=f) (g:=g) λy q=>h y (by simp[q]);simp;omega
theorem X9 (c:Nat)(f:α->Nat):∀ l:List α,(l.map λx=>f x*c).sum=(l.map f).sum*c
 | []=>by simp
 |x :: xs=>by simp[X9 c f xs,Nat.add_mul]
theorem Go {p q:α->Bool}:∀ {l:List α},(∀ a∈l,p a=true->q a=true)->(∃ z∈l,q z=true/\p z=false)->(l.filter p).length<(l.filter q).length
 | [],_,h=>by obtain⟨z,hz,_⟩:=h;cases hz
 |y :: ys,h,hz=>by
   have le:∀ l:List α,(∀ a∈l,p a=true->q a=true)->(l.filter p).length<=(l.filter q).length:=by
    intro l
    induction l with
    |nil=>intro _;exact A08 _
    |cons a l F=>
      intro h;have:=F λa ha=>h a (by simp[ha]);rw[A19,A19]
      cases c:p a with
      |true=>rw[if_pos rfl,if_pos (h a (by simp) c)];simpa using this
      |false=>
        rw[if_neg (by simp)]
        split
        . simp;omega
        exact this
   rw[A19,A19];obtain⟨z,hz,J,hp⟩:=hz;rcases A0A.mp hz with rfl|hz
   . rw[hp,if_neg (by simp),if_pos J,List.length_cons];have:=le ys λa ha=>h a (by simp[ha]);omega
   have F:=Go (l:=ys) (λa ha=>h a (by simp[ha])) ⟨z,hz,J,hp⟩
   cases c:p y with
   |true=>rw[if_pos rfl,if_pos (h y (by simp) c)];simpa using F
   |false=>
     rw[if_neg (by simp)]
     split
     . simp;omega
     exact F
theorem ad3 {b:α->α->Bool}(irr:∀ x,b x x=false)(F:∀ x y z,b x y=true->b y z=true->b x z=true){L:List α}:∀(m:Nat) (y:α),y∈L->(L.filter λz=>b z y).length<=m->∃ x∈frF b L,x=y\/b x y=true
 |m,y,hy,hm=>by
   by_cases c:∃ z∈L,b z y=true
   . obtain ⟨z,hz,q⟩:=c;have lt:(L.filter λa=>b a z).length<(L.filter λa=>b a y).length:=Go (λa _ h=>F a z y h q) ⟨z,hz,q,irr z⟩
     cases m with
     |zero=>omega
     |succ m=>
       obtain⟨x,J,h⟩:=ad3 irr F m z hz ∅;refine⟨x,J,.inr ?_⟩;rcases h with rfl|h
       . exact q
       exact F x z y h q
   refine⟨y,mem_frF.mpr ⟨hy,λz hz=>?_⟩,.inl rfl⟩
   cases e:b z y with
   |false=>rfl
   |true=>exact absurd ⟨z,hz,e⟩ c
theorem a98 {b:α->α->Bool} {L:List α} (h:L.Nodup):(frF b L).Nodup:=A24 A1U h
theorem aF9 {b:α->α->Bool}(irr:∀ x,b x x=false)(F:∀ x y z,b x y=true->b y z=true->b x z=true){L:List α}(h:L≠[]):frF b L≠[]:=by
 cases L with
 |nil=>exact absurd rfl h
 |cons y ys=>
   obtain⟨x,q,_⟩:=ad3 irr F (L:=y :: ys) _ y (by simp) (Nat.le_refl _);intro e;rw[e] at q
   cases q
theorem Th {f g:α->Nat}{l:List α}(h:∀ x∈l,f x=g x):(l.map f).sum=(l.map g).sum:=by rw[A0W h]
end
def Mtd (P:Program)(w:World)(K:W.Frag)(mg:Str->Option Value)(base:Heap)(k:Nat)(C:Addr)(m:Str)(ps:List Str)(sp:Sp):Prop:=
 ∃ f fd,FnOk P w K mg base CX0 k f fd ps sp/\aQ5 K C m f/\Binds K fd ps []
def Mkd (P:Program)(w:World)(K:W.Frag)(mg:Str->Option Value)(base:Heap)(k:Nat)(C:Addr)(x:Str)(ps:List Str)(sp:Sp):Prop:=
 ∃ f fd,FnOk P w K mg base CX0 k f fd ps sp/\Mk K C f/\mg x=some (.ref C)/\Binds K fd ps []
theorem FnOk.void {P:Program}{w:World}{K:W.Frag}{mg:Str->Option Value}{base:Heap}{CX:CXT}{k:Nat}{f:Addr}{fd:FuncData}{ps:List Str}{sp:Sp}(h:∀ vs H Q E,¬ sp vs H Q E):FnOk P w K mg base CX k f fd ps sp:=
 ⟨λvs H Q E q=>absurd q (h vs H Q E),λA outer s H args us vs Q E _ _ _ _ F=>absurd F (h vs H Q E)⟩
def rAt (f:Str)(C:Addr):V->Hp->VK->Prop:=λx H Q=>∃ a dx fs v,x = .ref a/\H a=some (.ins C dx fs)/\fs.lookup f=some v/\Q v H
def tAt (f:Str)(C:Addr)(ta:TE):TE:=fun σ H Q=>ta σ H λx H1=>rAt f C x H1 Q
def rSt (f:Str)(C:Addr)(y:V):V->Hp->(Hp->Prop)->Prop:=λx H R=>∃ a dx fs,x = .ref a/\H a=some (.ins C dx fs)/\fs.length<1000/\R (upd H a (.ins C dx (Nj f y fs)))
def sSt (f:Str)(C:Addr)(ta tv:TE):TS:=λD σ H=>tv σ H λy H1=>ta σ H1 λx H2=>rSt f C y x H2 λq=>D.nx σ q
def rMe (m:Str)(C:Addr)(sp:Sp)(t:TA)(σ:St):V->Hp->VK->Prop:=λx H Q=>∃ a dx fs,x = .ref a/\H a=some (.ins C dx fs)/\fs.lookup m=none/\t σ H λvs H2=>sp (x :: (vs++[])) H2 Q E0
def tMe (m:Str)(C:Addr)(sp:Sp)(ta:TE)(t:TA):TE:=fun σ H Q=>ta σ H λx H1=>rMe m C sp t σ x H1 Q
def rMk (C:Addr)(sp:Sp):List V->Hp->VK->Prop:=λvs H1 Q=>∀ x dx,H1 x=none->H1 dx=none->dx≠x ->
 sp (.ref x :: (vs++[])) (upd (upd H1 dx (.own x)) x (.ins C dx [])) (λv H2=>v = .non/\Q (.ref x) H2) E0
def tMk (C:Addr)(sp:Sp)(t:TA):TE:=fun σ H Q=>t σ H λvs H1=>rMk C sp vs H1 Q
def aW2 (ta:TE):TT:=fun σ H Q=>ta σ H λx H1=>∃ i:Int,x = .int i/\Q (i != 0) H1
section
variable {X:Cx}{K:W.Frag}{k:Nat}{C:Addr}{f x m:Str}{ps:List Str}{sp:Sp}{e o value:Expr}{es:List Expr}{ta tv:TE}{t:TA}{p pos pos' apos:Pos}
theorem Hf (he:PE X e ta)(c:Cls X.K C)(n:NoAttr X.K C f)(hb:attributeBase e f X.env (eval e X.env)=eval e X.env):PE X (.Attribute e f pos) (tAt f C ta):=by
 intro pins s σ H Q I h;refine ay4 hb (thn (he pins s σ H _ I h) ?_);rintro u Z ⟨x,H1,F,Y,a,dx,fs,v,rfl,O,l,q⟩
 cases Y;exact Zo F O c n l λu' s2 J U=>⟨v,H1,J,U,q⟩
theorem a61 (ha:PE X o ta)(Z:PE X value tv)(c:Cls X.K C)(n:NoAttr X.K C f)(Y:swapsWith value (some (.Attribute o f pos')) pos.line X.env=pure false):PS X (.Assign [.Attribute o f pos'] value pos) (sSt f C ta tv):=by
 intro pins s σ H D I h;refine plainObj_wpAny_Assign_Attribute (thn (Z pins s σ H _ I h) ?_) Y;rintro u s1 ⟨y,H1,F,ry,q⟩;refine thn (ha pins s1 σ H1 _ F q) ?_;rintro ov s2 ⟨x,H2,J,rx,a,dx,fs,rfl,U,l,q2⟩
 cases rx;exact Yu J U c n l ry λs3 O=>⟨σ,_,O,q2⟩
theorem Pu {pl:Sem Bool}(he:PE X o ta)(c:Cls X.K C)(F:Mtd X.prog X.w X.K X.mg X.base k C m ps sp)(O:Room k X.A)(ha:PA X (e :: es) t)
  (U:starEach (e :: es) X.env=(false,eval e X.env) :: starEach es X.env:=by ac_nf) (J:(backTo pos (starEach es X.env)).any (·.1)=false:=by ac_nf)
  (Y:eval (.Call (.Attribute o m apos) (e :: es) [] pos) X.env=(do
   let ov <- eval o X.env
   standAt apos.atName
   let (f,first) <- holding [ov] (getMethod ov m pl)
   callWith pos f first (backTo pos (starEach (e :: es) X.env)) (backToKw pos (keywordEach [] X.env))):=by ac_nf) :
  PE X (.Call (.Attribute o m apos) (e :: es) [] pos) (tMe m C sp ta t):=by
 obtain⟨f,fd,h1,h2,q⟩:=F;exact av6 (pl:=pl) he c h2 h1 O q .nil aC2 ha U J Y
theorem aD1 (F:Mkd X.prog X.w X.K X.mg X.base k C x ps sp)(Z:Room (k+1) X.A)(U:Gl X x)(ha:PA X (e :: es) t)(O:(x==("__debug__":Str))=false:=by decide)
  (he:starEach (e :: es) X.env=(false,eval e X.env) :: starEach es X.env:=by ac_nf) (Y:(backTo pos (starEach es X.env)).any (·.1)=false:=by ac_nf) :
  PE X (.Call (.Name x p) (e :: es) [] pos) (tMk C sp t):=by
 obtain⟨f,fd,h1,h2,q,J⟩:=F;exact aB9 h2 h1 Z U q J .nil aC2 ha O he Y
theorem af8 (ha:PE X e ta)(he:∀ q,isTrue e X.env q=(do let v <- q;standAt e.pos;holding [v] (truthy v)):=by intro _;ac_nf):PT X e (aW2 ta):=by intro pins s σ H Q I h;refine isTrue_plain (thn (ha pins s σ H _ I h) ?_) (he _);rintro v U ⟨x,H1,F,O,i,rfl,J⟩;exact aH1 pins U σ H1 _ v Q F O ⟨_,rfl,J⟩
end
section
variable {K:W.Frag}{C:Addr}{f m:Str}{sp:Sp}{ta tv:TE}{t:TA}{σ:St}{H:Hp}{Q:VK}{D:Ph}
theorem i_tAt (k:ta σ H λx H1=>rAt f C x H1 Q):tAt f C ta σ H Q:=k
theorem Pj {a dx:Addr}{fs:List (Str×V)}{v:V}(h:H a=some (.ins C dx fs))(l:fs.lookup f=some v)(k:Q v H):rAt f C (.ref a) H Q:=⟨a,dx,fs,v,rfl,h,l,k⟩
theorem i_sSt (k:tv σ H λy H1=>ta σ H1 λx H2=>rSt f C y x H2 λq=>D.nx σ q):sSt f C ta tv D σ H:=k
theorem aG3 {a dx:Addr}{fs:List (Str×V)}{y:V}{R:Hp->Prop}(h:H a=some (.ins C dx fs))(q:fs.length<1000)(k:∀ H',ExtBut a H H'->H' a=some (.ins C dx (Nj f y fs))->R H'):rSt f C y (.ref a) H R:=
 ⟨a,dx,fs,rfl,h,q,k _ ExtBut.upd Ae⟩
theorem i_tMe (k:ta σ H λx H1=>rMe m C sp t σ x H1 Q):tMe m C sp ta t σ H Q:=k
theorem ai7 {a dx:Addr}{fs:List (Str×V)}(h:H a=some (.ins C dx fs))(l:fs.lookup m=none)(k:t σ H λvs H2=>sp (.ref a :: (vs++[])) H2 Q E0):rMe m C sp t σ (.ref a) H Q:=⟨a,dx,fs,rfl,h,l,k⟩
theorem i_tMk (k:t σ H λvs H1=>rMk C sp vs H1 Q):tMk C sp t σ H Q:=k
theorem aT2 {vs:List V}(k:∀ x dx H2,H x=none->Same H H2->H2 x=some (.ins C dx [])->sp (.ref x :: (vs++[])) H2 (λv F=>v = .non/\Q (.ref x) F) E0):rMk C sp vs H Q:=λx dx q hd J=>k x dx _ q (λb o e=>by rw[At (ne_of_none e q),At (ne_of_none e hd)];exact e) Ae
theorem i_tTru {R:Bool->Hp->Prop}(k:ta σ H λx H1=>∃ i:Int,x = .int i/\R (i != 0) H1):aW2 ta σ H R:=k
theorem ab2 {a:Addr}{kvs:List (Key×V)}{z:Int}{v:V}{R:Hp->Prop}(h:H a=some (.dK kvs))(F:kvs.length<=1000000)(k:∀ H',ExtBut a H H'->H' a=some (.dK (G3 kvs (Sum.inl z) v))->R H'):∃ b q,V.ref a = .ref b/\DPut H b (.int z) v q/\R q:=
 ⟨a,_,rfl,DPut.k (k:=Sum.inl z) h (by rw[A1I];omega),k _ ExtBut.upd Ae⟩
theorem Yj {a:Addr}{kvs:List (Key×V)}{z:Int}{v:V}(h:H a=some (.dK kvs))(e:Cj kvs (Sum.inl z:Key)=some v)(k:Q v H):Qf K (.ref a) (.int z) H Q:=.inr ⟨a,v,rfl,by rw[<- e];exact DGet.k (k:=Sum.inl z) h,k⟩
theorem aC6 {a:Addr}{kvs:List (Key×V)}{z:Int}(h:H a=some (.dK kvs))(k:Q (.bl (Cj kvs (Sum.inl z:Key)).isNone) H):Xr K true (.int z) (.ref a) H Q:=by
 refine .inr (.inr (.inl ⟨a,Cj kvs (Sum.inl z:Key),rfl,DGet.k (k:=Sum.inl z) h,?_⟩))
 cases e:Cj kvs (Sum.inl z:Key) with
 |none=>rw[e] at k;exact k
 |some v=>rw[e] at k;exact k
end
def aD7 (d v:Addr):HO:=.ext λh=>h.IsValuesView v d
def aH2:V->List V->Hp->VK->Prop:=λx vs H Q=>∃ d kvs,x = .ref d/\vs=[]/\H d=some (.dK kvs)/\∀ v,H v=none->Q (.ref v) (upd H v (aD7 d v))
def aI6:List V->Hp->VK->Prop:=λxs H Q=>∃(v d:Addr) (kvs:List (Key×V)) (ns:List Int),xs=[.ref v]/\H v=some (aD7 d v)/\H d=some (.dK kvs)/\kvs.map (·.2)=ns.map V.int/\(∀ n∈ns,0<=n/\n<=1000000000000)/\ns.length<=1000000/\Q (.int ns.sum) H
section
variable {X:Cx}{K:W.Frag}
theorem aa1:MtM X "dict.values" aH2:=by
 intro pins s σ H x vs v us Q I rx Z h;obtain⟨d,kvs,rfl,rfl,O,q⟩:=h
 cases rx
 cases Z;obtain⟨z1,U,a0,a1,J⟩:=Vl I.hok O;refine A3X F.slot_dict_values J.typeIs F.entry_dict_values (F.args_dict_values_1 _) (meets_dict_values (Ax X.prog X.w) d U) ⟨⟨a0,J⟩,?_⟩;refine ⟨.ref s.heap.objs.size,upd H s.heap.objs.size (aD7 d s.heap.objs.size),I.laid (t':=s.toks) (λb u e=>A02 _ e) (A08 _) ⟨⟨_,A0I _ rfl,rfl,rfl⟩,⟨_,A0I _ rfl⟩,λh1 h2 ⟨o,e,r⟩ Y=>⟨o,Y o e,r⟩⟩,rfl,q _ (I.hok.fresh (A08 _))⟩
theorem a89 {α β:Type}{F:α->β->Prop}{q:List α}{J:List β}(h:Paired F q J):∀ {i:Nat} {a:α},q[i]? = some a->∃ b,J[i]? = some b/\F a b:=by
 induction h with
 |nil=>intro i a e;cases e
 |cons r _ ih=>
   intro i a e
   cases i with
   |zero=>cases e;exact⟨_,rfl,r⟩
   |succ i=>exact ih e
theorem at3 {ns:List Int}{kvs:List (Key×V)}{vs:List (Key×Value)}(Y:KV kvs vs)(h:kvs.map (·.2)=ns.map V.int){i:Nat}{k:Key}{u:Value}(O:vs[i]? = some (k,u)):∃ t,u = .int (ns.getD i 0) t:=by
 have hl:kvs.length=vs.length:=Y.length;have hn:kvs.length=ns.length:=by have:=congrArg List.length h;rwa[A01,A01] at this
 have hi:i<vs.length:=(A00.mp O).1;have F:kvs[i]? = some kvs[i]:=A04 ∅;obtain⟨q,J,r⟩:=a89 Y F;rw[O] at J
 cases J;have e:(kvs.map (·.2))[i]? = some kvs[i].2:=by rw[A06,F];rfl
 rw[h,A06,Gu (y:=0) (by omega:i<ns.length)] at e;have Z:V.int (ns.getD i 0)=kvs[i].2:=A15 e;have U:=r.2;rw[<- Z] at U;exact U
theorem ac4 (hc:X.calm=true):CallR X (.builtin "sum") aI6:=by
 intro pins s σ H xs us Q I r h;obtain⟨v,d,kvs,ns,rfl,hv,hd,O,hb,hz,q⟩:=h;obtain⟨u,rfl,ru⟩:=Ij r
 cases ru
 have fits:∀ j,j<ns.length->InLong (ns.getD j 0)/\InLong (preSum (λi=>ns.getD i 0) (j+1)):=λj J=>by have h1:=hb _ (A03 (Gu (y:=0) J));have h2:=Om (ns:=ns.take (j+1)) λn hn=>hb n (A25 hn);rw[Gn ns (j+1) J];rw[A10] at h2;unfold InLong;omega
 have last:preSum (λi=>ns.getD i 0) ns.length=ns.sum:=by rw[Gn ns _ (A08 _),A0U]
 obtain⟨_,hs,vs,U,Y⟩:=Vl I.hok hd;obtain⟨ep,Z⟩:=Y.dictAt;have vv:s.heap.IsValuesView v d:=(show ObjOk X.prog X.w H s.heap v (aD7 d v) from I.hok v _ hv).1;have a1:d<s.heap.objs.size:=I.hok.lt hd
 have hn:vs.length=ns.length:=by have:=congrArg List.length O;rw[A01,A01] at this;have:=U.length;omega
 refine call_sum_walk ?_;obtain⟨oI,St,a0,W,st⟩:=(PySem.W.kdl_values (knd:=Ax X.prog X.w) (r:=v) (d:=d) (kvs:=vs) (ep:=ep)).iter X.A.in1 s (by simpa using I.ok.hd hc) ⟨vv,Z⟩;refine a0 _ _ ?_;refine⟨s.heap.objs.size,_,_,_,_,_,λi=>ns.getD i 0,rfl,W,st,?_,?_,by rw[hn];exact fits,?_⟩
 . intro b F;rw[A20];simp only[List.mem_cons,List.not_mem_nil,or_false] at F;rcases F with rfl|rfl
   . exact A2S _
   exact A2O a1
 . rintro i u ⟨k,hx⟩;exact at3 U O hx
 intro h' tk t' hk;refine⟨.int ns.sum,H,I.kept (t':=tk) ?_,⟨t',by rw[hn,last]⟩,q⟩;intro b o e;refine hk b o (λz=>?_) (A02 _ e);have:b=s.heap.objs.size:=by simpa using z
 subst this;exact absurd (A0D e) (A1P _)
theorem aM8 {d:Addr}{kvs:List (Key×V)}{H:Hp}{Q:VK}(h:H d=some (.dK kvs))(k:∀ v H',H v=none->Same H H'->H' v=some (aD7 d v)->Q (.ref v) H'):aH2 (.ref d) [] H Q:=⟨d,kvs,rfl,rfl,h,λv q=>k v _ q (Same.upd q) Ae⟩
theorem aJ7 {v d:Addr}{kvs:List (Key×V)}{ns:List Int}{H:Hp}{Q:VK}(F:H v=some (aD7 d v))(hd:H d=some (.dK kvs))(q:kvs.map (·.2)=ns.map V.int)(hb:∀ n∈ns,0<=n/\n<=1000000000000)(hz:ns.length<=1000000)(k:Q (.int ns.sum) H):aI6 [.ref v] H Q:=
 ⟨v,d,kvs,ns,rfl,F,hd,q,hb,hz,k⟩
end
theorem Vh {α β:Type}{F:α->β->Prop}:∀ {q:List α} {J:List β},q.length=J.length->(∀(i:Nat) a b,q[i]? = some a->J[i]? = some b->F a b)->Paired F q J
 | [],[],_,_=>.nil
 |a :: q,b :: J,hl,h=>.cons (h 0 a b rfl rfl) (Vh (by simpa using hl) λi x y O U=>h (i+1) x y O U)
section
variable {X:Cx}
end
section
variable {α:Type}[DecidableEq α]
theorem av1 (a b:Nat):Builtin.bitAnd (a:Int) (b:Int)=((a &&& b:Nat):Int):=by rw[bitAnd_pp (Int.natCast_nonneg _) (Int.natCast_nonneg _)];simp
theorem a70 (p q:α->Bool)(ns:List α):(Builtin.bitAnd (B1 ns p:Int) (B1 ns q:Int) != 0)=ns.any λx=>p x&&q x:=by
 rw[av1,X4]
 cases e:ns.any λx=>p x&&q x with
 |true=>
   obtain⟨x,F,h⟩:=A1D.mp e
   have:B1 ns (λx=>p x&&q x)≠0:=λz=>by
    have:=binM_zero.mp z x F;rw[this] at h
    cases h
   simp only[bne_iff_ne,ne_eq];omega
 |false=>
   have:B1 ns (λx=>p x&&q x)=0:=binM_zero.mpr λx F=>by
    cases c:(p x&&q x) with
    |false=>rfl
    |true=>rw[A1D.mpr ⟨x,F,c⟩] at e;cases e
   rw[this];rfl
theorem ag9 {ns:List α} (hn:ns.Nodup) {x:α} (J:x∈ns) (q:α->Bool):(Builtin.bitAnd (Eo ns x:Int) (B1 ns q:Int) != 0)=q x:=by
 rw[a80 hn J,a70]
 cases c:q x with
 |true=>exact List.any_eq_true.mpr ⟨x,J,by simp[c]⟩
 |false=>
   rw[Bool.eq_false_iff];intro h;obtain⟨y,_,F⟩:=A1D.mp h;rw[A14,A3K] at F;rw[F.1,c] at F
   cases F.2
theorem Zm (ns:List α)(p q:α->Bool):(ns.any λx=>p x&&q x)=(ns.filter q).any p:=by
 induction ns with
 |nil=>rfl
 |cons y ys ih=>
   rw[A2G,ih,A19]
   cases c:q y with
   |true=>rw[A0Z rfl,A2G,Bool.and_true]
   |false=>rw[A0Q nofun,Bool.and_false,Bool.false_or]
theorem a67 (b:α->α->Bool)(ns:List α)(q:α->Bool):(ns.filter λx=>q x && !(ns.any λy=>b y x&&q y))=frF b (ns.filter q):=by unfold frF;rw[A4A];apply A1J;intro x _;rw[Zm,A57]
theorem B9 (ns:List α)(q:α->Bool)(x:α):(ns.filter λy=>q y && !decide (y=x))=Ai (ns.filter q) x:=by unfold Ai;rw[A4A];apply A1J;intro y _;rw[A57]
theorem as4 {m n:Nat}(h:m<=n):fac m<=fac n:=by
 induction h with
 |refl=>exact A08 _
 |@step k _ ih=>exact A0O ih (Nat.le_mul_of_pos_right _ (Nat.succ_pos k))
theorem Ub (c:Nat):∀ l:List α,(l.map λ_=>c).sum=l.length*c
 | []=>by simp
 |x :: xs=>by rw[A0H,A1H,Ub c xs,A0G,A3T,Nat.one_mul,Nat.add_comm]
theorem as7 (b:α->α->Bool):∀(n:Nat) (L:List α),L.length=n->L.Nodup->cnt b L<=fac n
 |0,L,hl,_=>by have:=A17.mp hl;subst this;exact A08 _
 |n+1,L,hl,hn=>by
   have q:L≠[]:=by intro e;rw[e] at hl;cases hl
   rw[Kz hn q]
   have h1:((frF b L).map λx=>cnt b (Ai L x)).sum<=((frF b L).map λ_=>fac n).sum:=Xm λx F=>by have:=Bb hn (mem_frF.mp F).1;exact as7 b n (Ai L x) ∅ (B7 hn x)
   rw[Ub] at h1;refine A0O h1 ?_;show _<=fac n*(n+1);rw[A3W];refine Nat.mul_le_mul_left _ ?_;rw[<- hl];exact A0T _ _
theorem aD2 {b:α->α->Bool}{L:List α}(hn:L.Nodup)(h:L.length<=10):cnt b L<=3628800:=A0O (as7 b _ L rfl hn) (A0O (as4 h) nofun)
end
def av2 (ns:List Str):List (Key×V):=ns.map λx=>((Sum.inr x:Key),V.int ((Eo ns x:Nat):Int))
def ahK (ns:List Str)(ps:List (Str×Str)):List (Key×V):=ns.map λx=>((Sum.inr x:Key),V.int ((B1 ns (λy=>Aa ps y x):Nat):Int))
theorem Fv {f:Str->V}:∀ {ns:List Str} {x:Str},x∈ns->Cj (ns.map λx=>((Sum.inr x:Key),f x)) (Sum.inr x:Key)=some (f x)
 | [],x,h=>by cases h
 |y :: ys,x,h=>by
   rw[A0H]
   by_cases e:y=x
   . subst e;exact Be rfl
   rw[Ba λq=>e (Sum.inr.inj q)];exact Fv ((A0A.mp h).resolve_left λq=>e q.symm)
theorem J8 {f:Str->V}:∀ {ns:List Str} {x:Str},x∉ns->Cj (ns.map λx=>((Sum.inr x:Key),f x)) (Sum.inr x:Key)=none
 | [],x,h=>rfl
 |y :: ys,x,h=>by rw[List.map_cons,Ba λq=>h (by rw[<- Sum.inr.inj q];simp)];exact J8 λq=>h (A09 _ q)
theorem Oa:∀ {ns:List Str} {i:Nat} {x:Str},ns.Nodup->ns[i]? = some x->Eo ns x=2 ^ i
 | [],i,x,_,h=>by cases h
 |y :: ys,0,x,_,h=>by cases h;unfold Eo;rw[A0Z rfl]
 |y :: ys,i+1,x,hn,h=>by obtain⟨h1,h2⟩:=A0V.mp hn;have F:ys[i]? = some x:=h;unfold Eo;rw[A0Q λq=>h1 (by rw[<- q];exact A03 F),Oa h2 F,Nat.pow_succ,A3W]
theorem IsL.int_eq {K:W.Frag}{H:Hp}:∀ {ns:List Int} {vs:List V},IsL K H (ns.map PyData.int) vs->vs=ns.map V.int
 | [],vs,h=>by simp only[List.map_nil,IsL] at h;exact h
 |n :: ns,vs,h=>by simp only[List.map_cons,IsL,Is] at h;obtain⟨v,r,rfl,rfl,q⟩:=h;rw[IsL.int_eq q];rfl
theorem Mx {α:Type}(f:α->Nat):∀ l:List α,(l.map λx=>((f x:Nat):Int)).sum=(((l.map f).sum:Nat):Int)
 | []=>rfl
 |x :: xs=>by rw[A0H,A1H,Mx f xs,A0H,A1H];omega
theorem ExtBut.fzI {p:Addr}{H H':Hp}{C dx:Addr}{fs:List (Str×V)}(e:ExtBut p H H')(hp:H p=some (.ins C dx fs)):Fz H H':=Xd e λxs h=>by
 rcases h with h|⟨o,h⟩
 . rw[hp] at h;cases h
 rw[hp] at h;cases h
def Knw (ns:List Str) (ps:List (Str×Str)) (kvs:List (Key×V)):Prop:=(kvs.map (·.1)).Nodup /\
 (∀ kv∈kvs,∃ q:Str->Bool,kv.1=Sum.inl ((B1 ns q:Nat):Int)/\kv.2=V.int ((cnt (Aa ps) (ns.filter q):Nat):Int))/\Cj kvs (Sum.inl 0:Key)=some (.int 1)
theorem Rl {κ:Type}[DecidableEq κ]:∀ {kvs:List (κ×V)} {k:κ} {v:V},Cj kvs k=some v->(k,v)∈kvs
 | [],k,v,h=>by cases h
 |p :: r,k,v,h=>by
   by_cases e:p.1=k
   . rw[Be e] at h
     cases h;rw[<- e];exact A0B
   rw[Ba e] at h;exact A09 _ (Rl h)
theorem Knw.get {ns:List Str}{ps:List (Str×Str)}{kvs:List (Key×V)}(h:Knw ns ps kvs){q:Str->Bool}{v:V}(e:Cj kvs (Sum.inl ((B1 ns q:Nat):Int):Key)=some v):v = .int ((cnt (Aa ps) (ns.filter q):Nat):Int):=by
 obtain⟨F,h1,h2⟩:=h.2.1 _ (Rl e)
 have J:B1 ns F=B1 ns q:=by have:=A38 h1;omega
 have O:ns.filter F=ns.filter q:=A1J λx U=>L4 J x U;rw[O] at h2;exact h2
theorem Knw.len {ns:List Str}{ps:List (Str×Str)}{kvs:List (Key×V)}(h:Knw ns ps kvs)(hf:ns.length<=10):kvs.length<=1024:=by
 have:=By (ys:=(List.range 1024).map λi=>(Sum.inl ((i:Nat):Int):Key)) h.1 λk F=>by obtain⟨kv,J,rfl⟩:=A0E.mp F;obtain⟨q,h1,_⟩:=h.2.1 kv J;rw[h1];have h2:=Ww q ns;have O:(2:Nat) ^ ns.length<=2 ^ 10:=A36 nofun hf;exact A0E.mpr ⟨B1 ns q,A21.mpr ∅,rfl⟩
 rwa [A01,A01,A1V] at this
theorem Knw.put {ns:List Str}{ps:List (Str×Str)}{kvs:List (Key×V)}(h:Knw ns ps kvs)(q:Str->Bool) :
  Knw ns ps (G3 kvs (Sum.inl ((B1 ns q:Nat):Int)) (.int ((cnt (Aa ps) (ns.filter q):Nat):Int))):=by
 cases e:Cj kvs (Sum.inl ((B1 ns q:Nat):Int):Key) with
 |some v=>
   have hp:G3 kvs (Sum.inl ((B1 ns q:Nat):Int):Key) (.int ((cnt (Aa ps) (ns.filter q):Nat):Int))=kvs:=by
    unfold G3;rw[Iq,e,A0Z (show(some v).isSome=true from rfl)]
    conv=>rhs;rw[<- List.map_id kvs]
    apply A0W;intro kv F
    by_cases c:kv.1=Sum.inl ((B1 ns q:Nat):Int)
    . rw[A0Z c];obtain⟨J,h1,h2⟩:=h.2.1 kv F;rw[h1] at c
      have O:B1 ns J=B1 ns q:=by have:=A38 c;omega
      have U:ns.filter J=ns.filter q:=A1J λx Y=>L4 O x Y;rw[<- U,<- h2];rfl
    rw[A0Q c];rfl
   rw[hp];exact h
 |none=>
   refine⟨aC1 _ h.1 e,λkv F=>?_,?_⟩
   . rw[Jl _ e] at F;rcases A0C.mp F with F|F
     . exact h.2.1 kv F
     have:kv=(Sum.inl ((B1 ns q:Nat):Int),V.int ((cnt (Aa ps) (ns.filter q):Nat):Int)):=by simpa using F
     subst this;exact⟨q,rfl,rfl⟩
   rw[al8]
   by_cases c:(Sum.inl 0:Key)=Sum.inl ((B1 ns q:Nat):Int)
   . rw[<- c,h.2.2] at e
     cases e
   rw[A0Q c];exact h.2.2
theorem Knw.new (ns:List Str)(ps:List (Str×Str)):Knw ns ps [(Sum.inl 0,V.int 1)]:=by
 refine⟨by simp,λkv q=>?_,Be rfl⟩;have:kv=(Sum.inl 0,V.int 1):=by simpa using q
 subst this;refine⟨λ_=>false,?_,?_⟩
 . rw[binM_zero.mpr λ_ _=>rfl];rfl
 have:ns.filter (λ_=>false)=[]:=by simp
 rw[this,cnt_nil];rfl
structure WaysAt (K:W.Frag)(C:Addr)(H:Hp)(p dx:Addr)(nv:V)(bd ad kd:Addr)(ns:List Str)(ps:List (Str×Str))(kvs:List (Key×V)):Prop where
 ob:H p=some (.ins C dx [("names",nv),("bits",.ref bd),("ahead",.ref ad),("full",.int ((B1 ns (λ_=>true):Nat):Int)),("known",.ref kd)])
 nm:Is K H (nmD ns) nv
 bt:H bd=some (.dK (av2 ns))
 ah:H ad=some (.dK (ahK ns ps))
 kn:H kd=some (.dK kvs)
 nb:bd≠kd
 na:ad≠kd
 ok:Knw ns ps kvs
section
variable {K:W.Frag}{C:Addr}{H H':Hp}{p dx:Addr}{nv:V}{bd ad kd:Addr}{ns:List Str}{ps:List (Str×Str)}{kvs kvs':List (Key×V)}
theorem WaysAt.same (h:WaysAt K C H p dx nv bd ad kd ns ps kvs)(e:Same H H'):WaysAt K C H' p dx nv bd ad kd ns ps kvs:=
 ⟨e _ _ h.ob,h.nm.nm_fz e.fz,e _ _ h.bt,e _ _ h.ah,e _ _ h.kn,h.nb,h.na,h.ok⟩
theorem WaysAt.pk (h:WaysAt K C H p dx nv bd ad kd ns ps kvs):p≠kd:=ne_of h.ob h.kn (by intro z;cases z)
theorem WaysAt.put (h:WaysAt K C H p dx nv bd ad kd ns ps kvs)(e:ExtBut kd H H')(q:H' kd=some (.dK kvs'))(ok:Knw ns ps kvs'):WaysAt K C H' p dx nv bd ad kd ns ps kvs':=
 ⟨e _ _ h.pk h.ob,h.nm.nm_fz (e.fzD h.kn),e _ _ h.nb h.bt,e _ _ h.na h.ah,q,h.nb,h.na,ok⟩
theorem WaysAt.list {l:Addr}{xs:List V}(h:WaysAt K C H p dx nv bd ad kd ns ps kvs)(e:ExtBut l H H')(q:H l=some (.lst xs)):WaysAt K C H' p dx nv bd ad kd ns ps kvs:=
 ⟨e _ _ (ne_of h.ob q (by intro z;cases z)) h.ob,h.nm.nm_fz (e.fzL q),e _ _ (ne_of h.bt q (by intro z;cases z)) h.bt,e _ _ (ne_of h.ah q (by intro z;cases z)) h.ah,e _ _ (ne_of h.kn q (by intro z;cases z)) h.kn,h.nb,h.na,h.ok⟩
end
theorem at6 {ps:List (Str×Str)}(x y z:Str)(h:Aa ps x y=true)(g:Aa ps y z=true):Aa ps x z=true:=wayB_iff.mpr ((wayB_iff.mp h).trans (wayB_iff.mp g))
section
variable {α:Type}[DecidableEq α]
theorem Zs (b:α->α->Bool)(ns:List α){q:List (List α)}{j:Nat}{row:List α}(h:q[j]? = some row):Gi b ns (q.take (j+1))=Gi b ns (q.take j)++(frF b (G6 ns row)).map λx=>row++[x]:=by rw[A0S,h];unfold Gi;rw[A28];simp
theorem Vv (b:α->α->Bool)(ns:List α):∀(i:Nat) (row:List α),row∈Ex b ns i [[]]->row.length=i
 |0,row,h=>by
   have:row=[]:=by simpa[Ex] using h
   subst this;rfl
 |i+1,row,h=>by rw[Hl] at h;unfold Gi at h;obtain⟨r,q,F⟩:=A2D.mp h;obtain⟨x,_,rfl⟩:=A0E.mp F;rw[A07,Vv b ns i r q];rfl
end
theorem Way.last {ps:List (Str×Str)}{x y:Str}(h:Way ps x y):∃ m,(m,y)∈ps/\(x=m\/Way ps x m):=by
 induction h with
 |one e=>exact⟨_,e,.inl rfl⟩
 |cons e _ ih=>
   obtain⟨m,h1,h2⟩:=ih;refine⟨m,h1,.inr ?_⟩;rcases h2 with rfl|h2
   . exact .one e
   exact .cons e h2
section
variable {α:Type}[DecidableEq α]
end
def Ix (ns:List Str)(ct:List ((Str->Bool)×Nat)):List (Key×V):=ct.map λe=>((Sum.inl ((B1 ns e.1:Nat):Int):Key),V.int ((e.2:Nat):Int))
def Hx (ns:List Str)(F:List Str->Nat)(ct:List ((Str->Bool)×Nat)):Nat:=(ct.map λe=>e.2*F (ns.filter e.1)).sum
def Se (ns:List Str)(ct:List ((Str->Bool)×Nat)):Prop:=((Ix ns ct).map (·.1)).Nodup
theorem C6 (ns:List Str)(F:List Str->Nat)(e:(Str->Bool)×Nat)(r:List ((Str->Bool)×Nat)):Hx ns F (e :: r)=e.2*F (ns.filter e.1)+Hx ns F r:=by unfold Hx;rw[List.map_cons,List.sum_cons]
theorem ay9 {p:Key×V}{r:List (Key×V)}{k:Key}{v:V}(h:¬ p.1=k):G3 (p :: r) k v=p :: G3 r k v:=by
 unfold G3;rw[A2G,A0N h,Bool.false_or]
 by_cases c:(r.any λkv=>decide (kv.1=k))=true
 . rw[A0Z c,A0Z c,A0H,A0Q h]
 rw[A0Q c,A0Q c];rfl
theorem az6 {p:Key×V}{r:List (Key×V)}{v:V}(h:p.1∉r.map (·.1)):G3 (p :: r) p.1 v=(p.1,v) :: r:=by
 unfold G3;rw[A2G,A0Y rfl,Bool.true_or,A0Z rfl,A0H,A0Z rfl];congr 1
 conv=>rhs;rw[<- List.map_id r]
 apply A0W;intro kv F;rw[A0Q λq=>h (A0E.mpr ⟨kv,F,q⟩)];rfl
theorem a96 (ns:List Str) (q:Str->Bool) (c:Nat):∀ {ct:List ((Str->Bool)×Nat)},Se ns ct->∃(U:Nat) (J:List ((Str->Bool)×Nat)),
  (Cj (Ix ns ct) (Sum.inl ((B1 ns q:Nat):Int):Key)).getD (.int 0) = .int ((U:Nat):Int)/\Ix ns J=G3 (Ix ns ct) (Sum.inl ((B1 ns q:Nat):Int)) (.int (((U+c:Nat)):Int)) /\
  (∀ k,k∈(Ix ns J).map (·.1)↔k∈(Ix ns ct).map (·.1)\/k=Sum.inl ((B1 ns q:Nat):Int))/\Se ns J/\∀ F,Hx ns F J=Hx ns F ct+c*F (ns.filter q)
 | [],_=>⟨0,[(q,c)],rfl,by rw[Nat.zero_add];rfl,λk=>by simp[Ix],by unfold Se Ix;simp,λF=>by unfold Hx;simp⟩
 |e :: r,h=>by
   have h:((Sum.inl ((B1 ns e.1:Nat):Int):Key) :: (Ix ns r).map (·.1)).Nodup:=h;obtain⟨h1,h2⟩:=A0V.mp h
   by_cases O:B1 ns e.1=B1 ns q
   . have hf:ns.filter e.1=ns.filter q:=A1J λx hx=>L4 O x hx;refine⟨e.2,(e.1,e.2+c) :: r,?_,?_,λk=>?_,h,λF=>?_⟩
     . show(Cj ((Sum.inl ((B1 ns e.1:Nat):Int),V.int ((e.2:Nat):Int)) :: Ix ns r) _).getD _=_;rw[Be (by rw[O])];rfl
     . show(Sum.inl ((B1 ns e.1:Nat):Int),V.int ((e.2+c:Nat):Int)) :: Ix ns r=G3 ((Sum.inl ((B1 ns e.1:Nat):Int),V.int ((e.2:Nat):Int)) :: Ix ns r) _ _;rw[<- O,az6 (p:=(Sum.inl ((B1 ns e.1:Nat):Int),V.int ((e.2:Nat):Int))) h1]
     . show k∈(Sum.inl ((B1 ns e.1:Nat):Int):Key) :: (Ix ns r).map (·.1)↔k∈(Sum.inl ((B1 ns e.1:Nat):Int):Key) :: (Ix ns r).map (·.1)\/_;constructor
       . exact .inl
       rintro(h|h)
       . exact h
       rw[h,O];simp
     rw[C6,C6];show(e.2+c)*F (ns.filter e.1)+_=_;rw[hf,A3T];omega
   have Y:¬ (Sum.inl ((B1 ns e.1:Nat):Int):Key)=Sum.inl ((B1 ns q:Nat):Int):=λz=>O (by have:=A38 z;omega);obtain⟨U,J,g1,g2,Z,g4,g5⟩:=a96 ns q c h2;refine⟨U,e :: J,?_,?_,λk=>?_,?_,λF=>?_⟩
   . show(Cj ((Sum.inl ((B1 ns e.1:Nat):Int),V.int ((e.2:Nat):Int)) :: Ix ns r) _).getD _=_;rw[Ba Y];exact g1
   . show(Sum.inl ((B1 ns e.1:Nat):Int),V.int ((e.2:Nat):Int)) :: Ix ns J=G3 ((Sum.inl ((B1 ns e.1:Nat):Int),V.int ((e.2:Nat):Int)) :: Ix ns r) _ _;rw[ay9 Y,g2]
   . show k∈(Sum.inl ((B1 ns e.1:Nat):Int):Key) :: (Ix ns J).map (·.1)↔k∈(Sum.inl ((B1 ns e.1:Nat):Int):Key) :: (Ix ns r).map (·.1)\/_;rw[A0A,A0A,Z];constructor
     . rintro(h|h|h)
       . exact .inl (.inl h)
       . exact .inl (.inr h)
       exact .inr h
     rintro((h|h)|h)
     . exact .inl h
     . exact .inr (.inl h)
     exact .inr (.inr h)
   . show((Sum.inl ((B1 ns e.1:Nat):Int):Key) :: (Ix ns J).map (·.1)).Nodup;refine A0V.mpr ⟨λhm=>?_,g4⟩;rcases(Z _).mp hm with hm|hm
     . exact h1 hm
     exact Y hm
   rw[C6,C6,g5];omega
theorem aB8 {ns:List Str}{ct:List ((Str->Bool)×Nat)}(h:Se ns ct)(hf:ns.length<=10):ct.length<=1024:=by
 have:=By (ys:=(List.range 1024).map λi=>(Sum.inl ((i:Nat):Int):Key)) h λk q=>by obtain⟨kv,F,rfl⟩:=A0E.mp q;obtain⟨e,_,rfl⟩:=A0E.mp F;have h2:=Ww e.1 ns;have J:(2:Nat) ^ ns.length<=2 ^ 10:=A36 nofun hf;exact A0E.mpr ⟨B1 ns e.1,A21.mpr ∅,rfl⟩
 unfold Ix at this;rwa[A01,A01,A01,A1V] at this
section
variable {K:W.Frag}{σ:St}{H:Hp}{Q:VK}{td ty tx:TE}
def ar4 (ty tx:TE)(σ:St):V->Hp->VK->Prop:=λx H1 Q=>∃ a,x = .ref a/\IsD H1 a/\ty σ H1 λy H2=>tx σ H2 λz q=>∃ o,DGet q a y o/\Q (o.getD z) q
theorem i_dget2 (k:td σ H λx H1=>ar4 ty tx σ x H1 Q):ao8 td ty tx σ H Q:=k
theorem aj4 {a:Addr}{kvs:List (Key×V)}(h:H a=some (.dK kvs))(k:ty σ H λy H2=>tx σ H2 λz q=>∃ o,DGet q a y o/\Q (o.getD z) q):ar4 ty tx σ (.ref a) H Q:=⟨a,rfl,.inl ⟨kvs,.inl h⟩,k⟩
theorem aw9 {a:Addr}{kvs:List (Key×V)}{z:Int}{v:V}(h:Rd H a (.dK kvs))(e:Cj kvs (Sum.inl z:Key)=some v)(k:Q v H):Qf K (.ref a) (.int z) H Q:=.inr ⟨a,v,rfl,.inl ⟨kvs,Sum.inl z,h,rfl,e.symm⟩,k⟩
end
section
variable {K:W.Frag}{C:Addr}{H H':Hp}{p dx:Addr}{nv:V}{bd ad kd:Addr}{ns:List Str}{ps:List (Str×Str)}{kvs:List (Key×V)}
end
section
variable {K:W.Frag}{σ:St}{H:Hp}{Q:VK}
end
theorem Py {prog:Program}{w:World}{κ:Type}[DecidableEq κ](knd:KeyKind prog w κ)(d:Addr) :
  MeetsIn prog w (Builtin.«dict.update» ⟨[.ref d,.ref d],[]⟩) (λ_ R s=>(∃ kvs,s.heap.DictOf knd d kvs)/\R (.ok (.ret .none)) s):=
 .of_wp λA R s q=>by obtain⟨⟨kvs,hd⟩,h⟩:=q;unfold Builtin.«dict.update» Builtin.Dict.selfAndRest;refine A05 (A05 (wpAny_notOrdered_dict hd.typeIs ?_));show wpAny _ _ (pure (d,[Value.ref d])) _ _ s;refine A0K ?_;show wpAny _ _ (Builtin.Dict.updateFrom "dict.update" d (.ref d) [] .none) _ _ s;unfold Builtin.Dict.updateFrom Builtin.Dict.merge Builtin.Dict.readDirectly;refine A05 (A3V hd.typeIs ?_);rw[A0Q nofun];refine A05 (A05 (A05 (wpAny_isInstance hd.typeIs isSubtype_dict_dict ?_)));simp only[Bool.not_true,Bool.false_eq_true,if_false];refine A05 (wpAny_specialOf hd.typeIs F.slot_dict_iter.lookup (A0K ?_));simp only[beq_self_eq_true,if_true];refine A05 (A0K ?_);unfold Builtin.Dict.mergeDict;rw[if_pos (by simp)];refine A05 (wpAny_rule (A0K ?_));show wpAny _ _ (Builtin.Dict.addKeywords d [] >>= _) _ _ _;exact A05 (A0K (A0K ⟨.none,rfl,h⟩))
def Xu:V->List V->Hp->VK->Prop:=λx vs H Q=>∃ d kvs,x = .ref d/\vs=[.ref d]/\H d=some (.dK kvs)/\Q .non H
def R7:V->List V->Hp->VK->Prop:=λx vs H Q=>Wc x vs H Q\/Xu x vs H Q
section
variable {X:Cx}{K:W.Frag}
theorem Yq:MtM X "dict.update" Xu:=by
 intro pins s σ H x vs v us Q I Z Y h;obtain⟨d,kvs,rfl,rfl,O,q⟩:=h
 cases Z;obtain⟨u,rfl,U⟩:=Y.one
 cases U;obtain⟨z1,a1,a0,a2,J⟩:=Vl I.hok O;refine A3X F.slot_dict_update J.typeIs F.entry_dict_update (F.args_dict_update_2 _ _) (Py (Ax X.prog X.w) d) ⟨⟨a0,J⟩,?_⟩;exact⟨.non,H,I.tok s.toks,rfl,q⟩
theorem Qm:MtM X "dict.update" R7:=by
 intro pins s σ H x vs v us Q I F q h;rcases h with h|h
 . exact a02 pins s σ H x vs v us Q I F q h
 exact Yq pins s σ H x vs v us Q I F q h
end
theorem af9 {d o:Addr}{ks ms:List Str}{H:Hp}{Q:VK}(hd:H d=some (.dK (Gz ks)))(F:H o=some (.dK (Gz ms)))(q:d≠o)(hz:ks.length+ms.length<=1000000)(k:∀ H',ExtBut d H H'->H' d=some (.dK (Gz (Mi ks ms)))->Q .non H'):R7 (.ref d) [.ref o] H Q:=.inl (aS9 hd F q hz k)
theorem aL5 {d:Addr}{kvs:List (Key×V)}{H:Hp}{Q:VK}(hd:H d=some (.dK kvs))(k:Q .non H):R7 (.ref d) [.ref d] H Q:=.inr ⟨d,kvs,rfl,rfl,hd,k⟩
structure Px (ns:List Str)(ps:List (Str×Str)):Prop where
 nd:ns.Nodup
 mem:∀ p∈ps,p.1∈ns/\p.2∈ns
 few:ns.length<=100
 le:ps.length<=1100
theorem HalfW.c {ns:List Str}{ps:List (Str×Str)}(h:HalfW ns ps):Px ns ps:=⟨h.nd,h.mem,h.few,A0O h.le nofun⟩
instance {ns:List Str} {ps:List (Str×Str)}:Coe (HalfW ns ps) (Px ns ps):=⟨HalfW.c⟩
theorem HalfW.more {ns:List Str}{ps:List (Str×Str)}(h:HalfW ns ps){x y:Str}(q:x∈ns)(F:y∈ns):Px ns (ps++[(x,y)]):=by
 refine⟨h.nd,λp hp=>?_,h.few,?_⟩
 . rcases A0C.mp hp with hp|hp
   . exact h.mem p hp
   have:p=(x,y):=by simpa using hp
   rw[this];exact⟨q,F⟩
 have:=h.le;rw[A07,A16];omega
section
variable {α:Type}[DecidableEq α]
def okR (b:α->α->Bool) (r:List α):Prop:=(∀ u∈r,b u u=false)/\r.Pairwise λu v=>b v u=false
theorem Tz {L:List α}(hn:L.Nodup){x:α}(J:x∈L):(x :: Ai L x).Perm L:=by
 induction L with
 |nil=>cases J
 |cons y ys ih=>
   obtain⟨h1,h2⟩:=A0V.mp hn
   by_cases e:y=x
   . subst e
     have:Ai (y :: ys) y=ys:=by
      have F:Ai (y :: ys) y=Ai ys y:=by unfold Ai;rw[List.filter_cons,if_neg (by simp)]
      rw[F,Rg h1]
     rw[this]
   have F:Ai (y :: ys) x=y :: Ai ys x:=by unfold Ai;rw[List.filter_cons,if_pos (by simp[e])]
   rw[F];exact(List.Perm.swap y x _).trans ((ih h2 ((A0A.mp J).resolve_left λq=>e q.symm)).cons y)
theorem Cr (b:α->α->Bool):∀(n:Nat) (L r:List α),L.Nodup->L.length=n->(r∈ext b n L↔r.Perm L/\okR b r)
 |0,L,r,_,hl=>by
   have:=A17.mp hl;subst this;constructor
   . intro h;have:r=[]:=by simpa[ext] using h
     subst this;exact⟨.refl _,(λ_ h=>by cases h),List.Pairwise.nil⟩
   rintro⟨h,_⟩;have:r=[]:=List.perm_nil.mp h;subst this;simp[ext]
 |n+1,L,r,hn,hl=>by
   constructor
   . intro h;obtain⟨x,hx,h⟩:=A2D.mp h;obtain⟨t,Y,rfl⟩:=A0E.mp h;have q:=mem_frF.mp hx;have O:=Bb hn q.1;obtain⟨h1,h2,J⟩:=(Cr b n (Ai L x) t (B7 hn x) ∅).mp Y;refine⟨(h1.cons x).trans (Tz hn q.1),λu hu=>?_,A2I.mpr ⟨λv Z=>q.2 v (mem_lessF.mp (h1.mem_iff.mp Z)).1,J⟩⟩;rcases A0A.mp hu with rfl|hu
     . exact q.2 u q.1
     exact h2 u hu
   rintro⟨hp,hd,U⟩
   cases r with
   |nil=>
     have:=hp.length_eq;rw[hl] at this
     cases this
   |cons x t=>
     have q:x∈L:=hp.mem_iff.mp (by simp);have O:=Bb hn q;have F:t.Perm (Ai L x):=List.Perm.cons_inv (hp.trans (Tz hn q).symm);obtain⟨q1,q2⟩:=A2I.mp U;refine List.mem_flatMap.mpr ⟨x,mem_frF.mpr ⟨q,λy hy=>?_⟩,List.mem_map.mpr ⟨t,(Cr b n (Ai L x) t (B7 hn x) ∅).mpr ⟨F,λu hu=>hd u (by simp[hu]),q2⟩,rfl⟩⟩
     by_cases e:y=x
     . rw[e];exact hd x (by simp)
     exact q1 y (F.mem_iff.mpr (mem_lessF.mpr ⟨hy,e⟩))
theorem Fm (b:α->α->Bool):∀(n:Nat) (L:List α),L.Nodup->(ext b n L).Nodup
 |0,L,_=>by simp[ext]
 |n+1,L,hn=>by
   show((frF b L).flatMap λx=>(ext b n (Ai L x)).map (x :: ·)).Nodup
   have U:∀ l:List α,l.Nodup->(l.flatMap λx=>(ext b n (Ai L x)).map (x :: ·)).Nodup:=by
    intro l
    induction l with
    |nil=>intro _;simp
    |cons y ys ih=>
      intro F;obtain⟨h1,h2⟩:=A0V.mp F;rw[A1Q,A1E];refine⟨?_,ih h2,?_⟩
      . have hi:=Fm b n (Ai L y) (B7 hn y);exact List.pairwise_map.mpr (hi.imp λJ e=>J (A31 e).2)
      intro r O t q e;obtain⟨r',_,rfl⟩:=A0E.mp O;obtain⟨z,hz,q⟩:=A2D.mp q;obtain⟨t',_,rfl⟩:=A0E.mp q;have:y=z:=(A31 e).1;exact h1 (this ▸ hz)
   exact U _ (a98 hn)
theorem Lw {β:Type}[DecidableEq β]{xs ys:List β}(h1:xs.Nodup)(h2:ys.Nodup)(h:∀ z,z∈xs↔z∈ys):xs.length=ys.length:=
 Nat.le_antisymm (By h1 λz hz=>(h z).mp hz) (By h2 λz hz=>(h z).mpr hz)
end
theorem Jy:∀ {r:List Str} {x:Str},x∈r->r[r.idxOf x]? = some x/\(∀ m<r.idxOf x,r[m]? ≠ some x)/\r.idxOf x<r.length
 | [],_,h=>by cases h
 |y :: ys,x,h=>by
   rw[List.idxOf_cons]
   by_cases e:y=x
   . subst e;simp
   have hb:(y==x)=false:=by simpa using e
   obtain⟨h1,h2,F⟩:=Jy ((A0A.mp h).resolve_left λq=>e q.symm);rw[hb];refine⟨h1,λm hm=>?_,by simpa using F⟩
   cases m with
   |zero=>simpa using e
   |succ m=>exact h2 m (by simpa using hm)
theorem Kq {ns r:List Str}{ps:List (Str×Str)}(hn:ns.Nodup)(hm:∀ p∈ps,p.1∈ns/\p.2∈ns)(hp:r.Perm ns):okR (Aa ps) r↔∀ p∈ps,r.idxOf p.1<r.idxOf p.2:=by
 have a0:r.Nodup:=hp.nodup_iff.mpr hn;constructor
 . rintro⟨h1,h2⟩ p U;obtain⟨m1,m2⟩:=hm p U;obtain⟨F,_,Z⟩:=Jy (hp.mem_iff.mpr m1);obtain⟨J,_,b3⟩:=Jy (hp.mem_iff.mpr m2);have q:Aa ps p.1 p.2=true:=wayB_iff.mpr (.one U);have a4:=(A00.mp F).2;have b4:=(A00.mp J).2;rcases Nat.lt_trichotomy (r.idxOf p.1) (r.idxOf p.2) with h|h|h
   . exact h
   . have e:p.1=p.2:=by rw[h,J] at F;exact(A15 F).symm
     rw[e] at q;rw[h1 p.2 (hp.mem_iff.mpr m2)] at q
     cases q
   have:=List.pairwise_iff_getElem.mp h2 _ _ b3 Z h;rw[a4,b4] at this;rw[this] at q
   cases q
 intro h
 have q:∀ u v,Way ps u v->r.idxOf u<r.idxOf v:=λu v g=>by
  induction g with
  |one e=>exact h _ e
  |cons e _ ih=>exact A48 (h _ e) ih
 refine⟨λu hu=>?_,List.pairwise_iff_getElem.mpr λi j hi hj a2=>?_⟩
 . cases c:Aa ps u u with
   |false=>rfl
   |true=>exact absurd (q u u (wayB_iff.mp c)) (A1P _)
 cases c:Aa ps r[j] r[i] with
 |false=>rfl
 |true=>
   have g:=q _ _ (wayB_iff.mp c)
   have Y:∀ k (O:k<r.length),r.idxOf r[k]=k:=λk O=>by obtain⟨f1,_,f3⟩:=Jy (A4J O);exact(A1G a0).mp (A00.mp f1).2
   rw[Y j hj,Y i hi] at g;omega
theorem Js {ns:List Str}{ps:List (Str×Str)}(h:HalfW ns ps){x y:Str}(Y:x∈ns)(Z:y∈ns):cnt (Aa (ps++[(x,y)])) ns=((ext (Aa ps) ns.length ns).filter λr=>decide (r.idxOf x<r.idxOf y)).length:=by
 refine Lw (Fm _ _ _ h.nd) (A24 A1U (Fm _ _ _ h.nd)) λr=>?_;rw[A0L,Cr _ _ _ _ h.nd rfl,Cr _ _ _ _ h.nd rfl,A3K]
 have J:∀ hp:r.Perm ns,okR (Aa (ps++[(x,y)])) r↔okR (Aa ps) r/\r.idxOf x<r.idxOf y:=λhp=>by
  rw[Kq h.nd (h.more Y Z).mem hp,Kq h.nd h.mem hp];constructor
  . intro g;exact⟨λp q=>g p (List.mem_append_left _ q),g (x,y) (by simp)⟩
  rintro⟨O,U⟩ p q;rcases A0C.mp q with q|q
  . exact O p q
  have:p=(x,y):=by simpa using q
  rw[this];exact U
 constructor
 . rintro⟨hp,F⟩;exact⟨⟨hp,((J hp).mp F).1⟩,((J hp).mp F).2⟩
 rintro⟨⟨hp,F⟩,hi⟩;exact⟨hp,(J hp).mpr ⟨F,hi⟩⟩
theorem Ox {ns:List Str}{ps:List (Str×Str)}(h:HalfW ns ps){x y:Str}(q:x∈ns)(F:y∈ns)(a0:x≠y):cnt (Aa (ps++[(x,y)])) ns+cnt (Aa (ps++[(y,x)])) ns=cnt (Aa ps) ns:=by
 rw[Js h q F,Js h F q]
 have a2:∀ l:List (List Str),(∀ r∈l,r.idxOf x≠r.idxOf y)->(l.filter λr=>decide (r.idxOf x<r.idxOf y)).length+(l.filter λr=>decide (r.idxOf y<r.idxOf x)).length=l.length:=by
  intro l
  induction l with
  |nil=>intro _;rfl
  |cons r rs ih=>
    intro g;have U:=g r (by simp);have g2:=ih λt Z=>g t (by simp[Z]);rw[A19,A19,A0G];rcases Nat.lt_or_gt_of_ne U with c|c
    . rw[A0Z (A0Y c),A0Q (by rw[A0N ∅];decide),A0G];omega
    rw[A0Q (by rw[A0N ∅];decide),A0Z (A0Y c),A0G];omega
 refine a2 _ λr Y e=>a0 ?_;obtain⟨hp,_⟩:=(Cr _ _ _ _ h.nd rfl).mp Y;obtain⟨J,_,_⟩:=Jy (hp.mem_iff.mpr q);obtain⟨O,_,_⟩:=Jy (hp.mem_iff.mpr F);rw[e,O] at J;exact(A15 J).symm
section
variable {prog:Program}{w:World}{A:Around}{E:Value->Shared->Prop}{I:Addr}{fp wr:List Addr}{n:Nat}{P:Nat->Value->Prop}{St:Nat->Heap->Prop}
end
section
variable {α:Type}[DecidableEq α]
theorem ak7 {b:α->α->Bool}{L M:List α}(hn:L.Nodup)(hp:M.Perm L):cnt b M=cnt b L:=by
 have hm:M.Nodup:=hp.nodup_iff.mpr hn;unfold cnt;refine Lw (Fm _ _ _ hm) (Fm _ _ _ hn) λr=>?_;rw[Cr _ _ _ _ hm rfl,Cr _ _ _ _ hn rfl];constructor
 . rintro⟨h1,h2⟩;exact⟨h1.trans hp,h2⟩
 rintro⟨h1,h2⟩;exact⟨h1.trans hp.symm,h2⟩
theorem a56 {b c:α->α->Bool}{L:List α}(h:∀ x∈L,∀ y∈L,b x y=c x y):frF b L=frF c L:=by
 unfold frF;apply A1J;intro x F
 have:(L.any λy=>b y x)=L.any λy=>c y x:=by
  rw[A22,A1D,A1D];constructor
  . rintro⟨y,q,e⟩;exact⟨y,q,by rw[<- h y q x F];exact e⟩
  rintro ⟨y,q,e⟩;exact⟨y,q,by rw[h y q x F];exact e⟩
 rw[this]
theorem Vi {b c:α->α->Bool}:∀(n:Nat) {L:List α},L.length=n->L.Nodup->(∀ x∈L,∀ y∈L,b x y=c x y)->cnt b L=cnt c L
 |0,L,hl,_,_=>by have:=A17.mp hl;subst this;rfl
 |n+1,L,hl,hn,h=>by
   have q:L≠[]:=by intro e;rw[e] at hl;cases hl
   rw[Kz hn q,Kz hn q,a56 h];apply Th;intro x J;have:=Bb hn (mem_frF.mp J).1;exact Vi n ∅ (B7 hn x) λu hu v F=>h u (mem_lessF.mp hu).1 v (mem_lessF.mp F).1
theorem Tk (A B:List α)(x:α):Ai (A++B) x=Ai A x++Ai B x:=by unfold Ai;rw[List.filter_append]
theorem ai1 {l:List α}{p:α->Bool}(h:∀ x∈l,p x=false):l.any p=false:=by
 rw[Bool.eq_false_iff];intro e;obtain ⟨x,q,hp⟩:=A1D.mp e;rw[h x q] at hp
 cases hp
theorem Ua {b:α->α->Bool}:∀(n:Nat) {A B:List α},A.length=n->(A++B).Nodup->(∀ x∈A,∀ y∈B,b x y=true/\b y x=false)->cnt b (A++B)=cnt b A*cnt b B
 |0,A,B,hl,_,_=>by have:=A17.mp hl;subst this;rw[A3H,cnt_nil,Nat.one_mul]
 |n+1,A,B,hl,hn,h=>by
   obtain⟨q,hB,Y⟩:=A1E.mp hn;have F:A≠[]:=by intro e;rw[e] at hl;cases hl
   have a1:A++B≠[]:=by simp[F]
   have a0:frF b (A++B)=frF b A:=by
    unfold frF;rw[A1X]
    have e1:(A.filter λx=>!((A++B).any λy=>b y x))=A.filter λx=>!(A.any λy=>b y x):=by apply A1J;intro x O;rw[List.any_append,ai1 (l:=B) λy U=>(h x O y U).2,Bool.or_false]
    have e2:(B.filter λx=>!((A++B).any λy=>b y x))=[]:=by
     rw [A4L];intro y U
     cases A with
     |nil=>exact absurd rfl F
     |cons a A=>have:((a :: A++B).any λz=>b z y)=true:=List.any_eq_true.mpr ⟨a,by simp,(h a (by simp) y U).1⟩;rw[this];decide
    rw[e1,e2,A27]
   rw[Kz hn a1,a0,Kz q F,<- X9];apply Th;intro x O;have Z:=(mem_frF.mp O).1;have a2:x∉B:=λhb=>Y x Z x hb rfl;have a3:=Bb q Z;rw[Tk,Rg a2];refine Ua n ∅ ?_ λu hu v J=>h u (mem_lessF.mp hu).1 v J;rw[A1E];exact⟨B7 q x,hB,λu hu v J=>Y u (mem_lessF.mp hu).1 v J⟩
end
section
variable {prog:Program}{w:World}{A:Around}{E:Value->Shared->Prop}{s:Shared}
end
section
variable {κ:Type}[DecidableEq κ]
end
theorem Kc {α:Type}[DecidableEq α]{b:α->α->Bool}(irr:∀ x,b x x=false)(F:∀ x y z,b x y=true->b y z=true->b x z=true):∀(n:Nat) (L:List α),L.length=n->L.Nodup->0<cnt b L
 |0,L,hl,_=>by have:=A17.mp hl;subst this;exact Nat.zero_lt_one
 |n+1,L,hl,hn=>by
   have q:L≠[]:=by intro e;rw[e] at hl;cases hl
   rw[Kz hn q]
   cases hf:frF b L with
   |nil=>exact absurd hf (aF9 irr F q)
   |cons x t=>
     have J:x∈frF b L:=by rw[hf];simp
     have:=Bb hn (mem_frF.mp J).1;have:=Kc irr F n (Ai L x) ∅ (B7 hn x);rw[A0H,A1H];omega
theorem ap5 {α:Type}[DecidableEq α]{b:α->α->Bool}(irr:∀ x,b x x=false)(q:∀ x y z,b x y=true->b y z=true->b x z=true):∀(i:Nat) (L:List α),L.Nodup->i<=L.length->(ext b i L).length<=cnt b L
 |0,L,hn,_=>Kc irr q _ L rfl hn
 |i+1,L,hn,hi=>by
   have F:L≠[]:=by intro e;rw[e] at hi;simp at hi
   rw[Kz hn F]
   have e:(ext b (i+1) L).length=((frF b L).map λx=>(ext b i (Ai L x)).length).sum:=by show((frF b L).flatMap λx=>(ext b i (Ai L x)).map (x :: ·)).length=_;rw[A51];congr 1;apply A0W;intro x _;rw[A01]
   rw[e];apply Xm;intro x J;have:=Bb hn (mem_frF.mp J).1;exact ap5 irr q i (Ai L x) (B7 hn x) ∅
theorem Us {α:Type}[DecidableEq α](b:α->α->Bool)(ns:List α)(k:Nat):Ex b ns k [[]]=ext b k ns:=by rw[Xw,ab6];simp
theorem au6 {α:Type}[DecidableEq α]{b:α->α->Bool}(irr:∀ x,b x x=false)(q:∀ x y z,b x y=true->b y z=true->b x z=true){ns:List α}(hn:ns.Nodup){i:Nat}(hi:i<=ns.length):(Ex b ns i [[]]).length<=cnt b ns:=by rw[Us];exact ap5 irr q i ns hn hi
theorem Rk {α:Type}[DecidableEq α](b:α->α->Bool)(ns:List α)(q:List (List α))(j:Nat):(Gi b ns (q.take j)).length<=(Gi b ns q).length:=by
 have:Gi b ns q=Gi b ns (q.take j)++Gi b ns (q.drop j):=by unfold Gi;rw[<- A28,A4S]
 rw[this,A07];omega
section
variable {α:Type}[DecidableEq α]
def Qn (b:α->α->Bool)(L:List α)(xs:List α):List (List α):=xs.flatMap λx=>(ext b (L.length-1) (Ai L x)).map (x :: ·)
theorem Y7 (b:α->α->Bool){L:List α}(q:L≠[]):Qn b L (frF b L)=ext b L.length L:=by
 cases L with
 |nil=>exact absurd rfl q
 |cons y ys=>rfl
theorem a62 (b:α->α->Bool)(L xs:List α)(x:α):Qn b L (xs++[x])=Qn b L xs++(ext b (L.length-1) (Ai L x)).map (x :: ·):=by unfold Qn;rw[A28];simp
end
section
variable {X:Cx}
end
theorem a63 {ps:List (Str×Str)}{x y a b:Str}(g:Way (ps++[(x,y)]) a b):Way ps a b\/((a=x\/Way ps a x)/\(y=b\/Way ps y b)):=by
 induction g with
 |one e=>
   rcases A0C.mp e with e|e
   . exact .inl (.one e)
   have e:=A0P.mp e
   cases e;exact .inr ⟨.inl rfl,.inl rfl⟩
 |cons e _ q=>
   rcases A0C.mp e with e'|e'
   . rcases q with q|⟨h1,h2⟩
     . exact .inl (.cons e' q)
     refine .inr ⟨.inr ?_,h2⟩;rcases h1 with h1|h1
     . exact .one (h1 ▸ e')
     exact .cons e' h1
   have F:=A0P.mp e'
   cases F;rcases q with q|⟨_,h2⟩
   . exact .inr ⟨.inl rfl,.inr q⟩
   exact .inr ⟨.inl rfl,h2⟩
theorem HalfW.said {ns:List Str}{ps:List (Str×Str)}(h:HalfW ns ps){x y:Str}(Y:x∈ns)(Z:y∈ns)(U:x≠y)(J:¬ Way ps y x)(O:ps.length+1<=1000):HalfW ns (ps++[(x,y)]):=by
 refine⟨h.nd,(h.more Y Z).mem,λz g=>?_,h.few,by rw[A07,A16];exact O⟩;rcases a63 g with g|⟨F,q⟩
 . exact h.irr z g
 rcases F with rfl|F
 . rcases q with q|q
   . exact U q.symm
   exact J q
 rcases q with rfl|q
 . exact J F
 exact J (q.trans F)
def ItE (K:W.Frag)(a:Addr):It:=
 ⟨λi H=>∃ xs x,SqL K H a xs/\xs[i]? = some x,λi H v H'=>∃ t x,H t=none/\H'=upd H t (.tup [.int i,x])/\v = .ref t/\∀ xs,SqL K H a xs->xs[i]? = some x,λi H=>∃ xs,SqL K H a xs/\xs.length=i⟩
theorem Za {P:Program}{w:World}{K:W.Frag}{a6:List Expr}{ek:Nat}{a7:Pos}(a it e:Addr)(a0:e≠it)(a2:a≠it)(aA:a≠e):a55 P w K (.Tuple a6 ek a7) (ItE K a) [e,it] e (λi h=>(∃ old,IsEnum h e it i old)/\h.IsListIter it a i) where
 mem:=by simp
 obj:=λi h st b hb=>by
  obtain⟨⟨old,h1⟩,o,h2,h3,h4⟩:=st;rcases A0A.mp hb with rfl|hb
  . exact⟨_,h1,λv z=>by cases z⟩
  have q:b=it:=by simpa using hb
  subst q;exact⟨o,h2,λv z=>by rw[h4] at z;cases z⟩
 keep:=λi h h' st k=>by obtain⟨⟨old,h1⟩,h2⟩:=st;exact⟨⟨old,k e (by simp) _ h1⟩,h2.at λo q=>k it (by simp) o q⟩
 item:=by
  intro X hP hw Z hc i pins s σ H E I hf st hg;subst hP hw Z;obtain⟨xs,x,U,J⟩:=hg;obtain⟨F,Y,p,hz⟩:=I.list U
  have aD:i<F.length:=by have:=(A00.mp J).1;rw[<- Y.length];exact this
  have D:=Draws.list (prog:=X.prog) (w:=X.w) (A:=X.A.in1) (by simpa using I.ok.hd hc) it a a2 F.toArray;obtain⟨⟨old,he⟩,O⟩:=st;have a4:e<s.heap.objs.size:=A0D he;have aE:it<s.heap.objs.size:=let ⟨_,q,_⟩:=O;A0D q;refine wpAny_pyNext_enum_itemD D he ⟨O,(PlainL.isList p)⟩ (by simpa using aD) a0 (by simp[a0,Ne.symm aA]) λv h1 tk hv ho aG hT hsz hk=>?_;obtain⟨u,hu,ru⟩:=Y.get J
  have aH:v=u:=by have a5:F.toArray[i]? = some v:=hv;rw[A2Y,hu] at a5;exact(A15 a5).symm
  subst aH;refine⟨_,rfl,wpAny_letOwnedTupleGo_enum ho λh2 aC a1=>?_⟩;have a9:H s.heap.objs.size=none:=I.hok.fresh (A08 _);have a8:h2.get? s.heap.objs.size=some {cls:=.type "tuple",data:=.seq #[.int i tk,v]}:=(a1.2 _ (A4N a4)).trans hT
  have I1:Inv X pins σ (upd H s.heap.objs.size (.tup [.int i,x])) {s with heap:=s.heap.push {cls:=.type "tuple",data:=.seq #[.int i tk,v]}}:=
   I.laid (t':=s.toks) (λb ob q=>Heap.get?_push_of_some _ q) (Nat.le_refl _) ⟨by simp[sizeLine_eq],[.int i tk,v],.cons ⟨tk,rfl⟩ (.cons ru .nil),_,Heap.get?_push_size _ rfl,rfl,⟨_,rfl⟩,rfl⟩
  have nT:∀ b∈[e,it],b≠s.heap.objs.size:=λb hb=>by
   rcases A0A.mp hb with rfl|hb
   . exact A11 a4
   have q:b=it:=by simpa using hb
   subst q;exact A11 aE
  have I2:Inv X pins σ (upd H s.heap.objs.size (.tup [.int i,x])) {s with heap:=h2,toks:=tk+1}:=Inv.turnedL (s:={s with heap:=s.heap.push {cls:=.type "tuple",data:=.seq #[.int i tk,v]}}) (ch:=[e,it]) I1 (λb ob hb q=>?_) (λb hb=>?_)
  . refine⟨.ref s.heap.objs.size,_,I2,rfl,⟨_,x,a9,rfl,rfl,λys hy=>by rw[I.list_inj hy U];exact J⟩,⟨⟨_,by simpa using aC⟩,aG.1.at λo q=>(a1.2 it (Ne.symm a0)).trans q⟩,λb hb=>?_⟩;rw[At (nT b hb)];exact(hf b hb).1
  . have a3:b≠e:=λz=>hb (by simp[z]);have aB:b≠it:=λz=>hb (by simp[z]);rcases Heap.get?_push_cases q with ⟨rfl,rfl⟩|q
    . exact a8
    exact(a1.2 b a3).trans (hk b ob a3 aB q)
  obtain⟨f0,f1,f2,f3,f4,f5⟩:=hf b hb;exact⟨by rw[At (nT b hb)];exact f0,f1,f2,f3,f4,f5⟩
 done:=by
  intro X hP hw Z hc i pins s σ H E I hf st hg;subst hP hw Z;obtain⟨xs,U,J⟩:=hg;obtain⟨F,Y,p,hz⟩:=I.list U;obtain⟨⟨old,he⟩,O⟩:=st;have aF:F.toArray.size=i:=by rw[A0R,<- Y.length];exact J
  have D:=Draws.list (prog:=X.prog) (w:=X.w) (A:=X.A.in1) (by simpa using I.ok.hd hc) it a a2 F.toArray;rw[aF] at D;refine wpAny_pyNext_enum_endD D he ⟨O,(PlainL.isList p)⟩ λh' hk=>⟨rfl,I.turnedL (t':=s.toks) (ch:=[e,it]) (λb o hb q=>hk b o (λz=>hb (by simp[z])) q) hf⟩
 self:=by intro A i s Q E st hQ;obtain⟨⟨old,he⟩,_⟩:=st;exact A4G he hQ
section
variable {X:Cx}{K:W.Frag}
def a09 (K:W.Frag)(vs:List V)(H:Hp)(R:It->Hp->Prop):Prop:=∃ a xs,vs=[.ref a]/\SqL K H a xs/\R (ItE K a) H
def ar2 (K:W.Frag)(ta:TA):TI:=fun σ H R=>ta σ H λvs H1=>a09 K vs H1 R
theorem aj6 {e:Expr}{ta:TA}{p pos:Pos}{Z:List Expr}{Y:Nat}{a0:Pos}(hg:Gl X "enumerate")(hm:X.mg "enumerate" = none)(ha:PA X [e] ta)(hK:X.K=K:=by ac_nf)(hs:starEach [e] X.env=[(false,eval e X.env)]:=by ac_nf) :
  PI X (.Tuple Z Y a0) (.Call (.Name "enumerate" p) [e] [] pos) (ar2 K ta):=by
 subst hK;intro pins s σ H R I h;refine Call_ (Jz I hg hm Jx (A1W (thn (ha pos pins s σ H _ I h) λus F ⟨vs,H1,J,r1,q1⟩=>?_) hs rfl));obtain⟨a,xs,rfl,hq,q⟩:=q1;obtain⟨u,rfl,ru⟩:=Vals.one r1
 cases ru;obtain⟨a2,rv,U,hz⟩:=J.list hq;have O:a<F.heap.objs.size:=let ⟨_,q,_⟩:=(PlainL.isList U);A0D q;refine call_enumerate_list (PlainL.isList U) λh' he a1 _ hk=>?_;refine A4G he ?_;refine⟨F.heap.objs.size+1,[F.heap.objs.size+1,F.heap.objs.size],_,_,H1,rfl,J.kept (t':=F.toks) hk,Za a F.heap.objs.size (F.heap.objs.size+1) (Nat.succ_ne_self _) (A11 O) (A11 (A2O O)),⟨⟨_,he⟩,a1⟩,λb hb=>?_,q⟩;rcases A0A.mp hb with rfl|hb
 . exact J.fpOk (A44 _) (J.hok.fresh (A44 _))
 have e:b=F.heap.objs.size:=by simpa using hb
 subst e;exact J.fpOk (A08 _) (J.hok.fresh (A08 _))
end
section
variable {K:W.Frag}{σ:St}{H:Hp}
theorem i_ienumL {q:TA}{R:It->Hp->Prop}(k:q σ H λvs H1=>a09 K vs H1 R):ar2 K q σ H R:=k
theorem a83 {xs:List V}{a:Addr}{n m:Nat}{tb:TS}{D:Ph}(h:SqL K H a xs)(Pv:Nat->St->Hp->Prop)(F:Pv 0 σ H)(O:∀ i σ' H',Pv i σ' H'->SqL K H' a xs)
  (U:∀ i x σ' H' H2,xs[i]? = some x->Pv i σ' H'->Same H' H2->tb {D with nx:=Pv (i+1),ct:=Pv (i+1),bk:=D.nx} ((σ'.set n (some (.int i))).set m (some x)) H2) (hd:∀ σ' H',Pv xs.length σ' H'->D.nx σ' H') :
  a09 K [.ref a] H λJ H1=>an8 (aB2 K 2 (Pk (Kl n) (Pk (Kl m) aE1))) tb D σ J H1:=by
 refine⟨a,xs,rfl,h,λi k σ' H'=>k=xs.length-i/\i<=xs.length/\Pv i σ' H',⟨xs.length,by simp,Nat.zero_le _,F⟩,?_⟩;rintro i k σ' H' ⟨rfl,hi,p⟩;have g:=O i σ' H' p
 by_cases q:i<xs.length
 . refine .inr ⟨⟨xs,xs[i],g,A04 q⟩,Pv (i+1),fun σ2 H2 p2=>⟨xs.length-(i+1),by omega,rfl,q,p2⟩,λv H2 y=>?_⟩;obtain⟨t,x,Y,rfl,rfl,Z⟩:=y;exact⟨t,_,rfl,SqT.of Ae,rfl,.int i,[x],rfl,x,[],rfl,rfl,U i x σ' H' _ (Z xs g) p (Same.upd Y)⟩
 have e:i=xs.length:=by omega
 subst e;exact .inl ⟨⟨xs,g,rfl⟩,hd σ' H' p⟩
end
end L2
namespace L2
open PySem PySem.Spec PyProof.Rows
open PySem PySem.W PyProof.Rows
section
variable {n:Nat}{r:Nat->Nat}
end
section
variable {prog:Program}{w:World}{A:Around}{E:Value->Shared->Prop}{z:Shared}
end
section
variable {X:Cx}{K:W.Frag}
end
end L2
namespace L2
open PySem PySem.Spec PyProof.Rows
theorem Uu {ns:List Str}{ps:List (Str×Str)}(hn:ns.Nodup){p:Str×Str}(h:p∈unP ns ps):p.1≠p.2:=by
 unfold unP unK at h;rw[A2D] at h;obtain⟨i,hi,h⟩:=h;have F:=A21.mp hi;unfold unR at h;obtain⟨y,O,rfl⟩:=A0E.mp h;have U:=(A0L.mp O).1;intro (e:ns.getD i "" = y);have J:ns.getD i "" = ns[i]:=by simp[F]
 have q:(ns.drop i).Nodup:=hn.sublist (A4H _ _);rw[A4C F] at q;exact (A0V.mp q).1 (by rw[<- J,e];exact U)
theorem aa2 (xs ys:List Str):PyData.eqvAll (xs.map PyData.str) (ys.map PyData.str)=decide (xs=ys):=by
 induction xs generalizing ys with
 |nil=>cases ys<;>simp[PyData.eqvAll]
 |cons x xs ih=>
   cases ys with
   |nil=>simp[PyData.eqvAll]
   |cons y ys=>
     simp only[List.map_cons,PyData.eqvAll,ih,PyData.eqv]
     by_cases c:x=y
     . subst c;simp
     simp[c]
section
variable {κ:Type}[DecidableEq κ]{P:Program}{w:World}{kd:KeyKind P w κ}{A:Around}{E:Value->Shared->Prop}{z:Shared}
theorem ab0 {e:Addr}{J:List (κ×Value)}{G:Bool->Shared->Prop}(nd:(e==sysModules)=false)(od:z.heap.DictOf kd e J)(go:G false z) :
  wpAny (model P w) A (Builtin.List.listLengthHint (.ref e)) G E z:=by
 unfold Builtin.List.listLengthHint;refine(A05 (wpAny_specialOf od.typeIs (F.slot_dict_len).lookup ?_));generalize q:("dict.__len__":String)=which
 wp_delta
 rw[show splitId which=some ("dict","__len__") from(by subst q;decide +kernel)];subst q;refine(A05 (wpAny_isInstance (T:="dict") (b:=true) od.typeIs (by rw[isSubtype_type];kernel_rfl) ?_));refine(wpAny_ite_split (λno=>absurd no nofun) (λ_=>?_));refine(wpAny_ite_split (λ_=>?_) (λno=>absurd (by decide +kernel) no));refine(A05 (A3V (T:="dict") od.typeIs ?_));exact A0K go
theorem Wn {R:Result->Shared->Prop}{e:Addr}{J:List (κ×Value)}{ep:Nat}(calm:A.handled=none)(nd:(e==sysModules)=false)(od:z.heap.DictAt kd e J ep)(few:J.length<=2 ^ 24)
  (L:Addr) (res:Value) (c0:Nat) (hL:z.heap.get? L=some {cls:=.type "list",data:=.seq #[] c0})
  (go:∀ g tk Z c,(∀ b o,b≠L->z.heap.get? b=some o->g.get? b=some o)->g.get? L=some {cls:=.type "list",dict:=none,data:=.seq Z c,slots:=#[]} ->
   ItemsOf (λi v=>∃ k x,J[i]? = some (k,x)/\kd.is k v=true) Z J.length->R (.ok (.ret res)) {z with heap:=g,toks:=tk}) :
  wpAny (model P w) A.in1 (Builtin.List.listExtendWith (.ref L) (.ref e) res)
   (λfin s'=>match fin with | .done f=>R (.ok f) s' | .again Y=>Y.quiet=true/\codeAny (model P w) A Y R s') (λe s'=>R (.error e) s') z:=by
 have a3:z.TypeIs (.ref e) "dict":=od.dictOf.typeIs
 have a0:L≠e:=λq=>by
  obtain⟨o,h1,h2⟩:=a3;rw[<- q,hL] at h1
  cases h1;simp at h2
 have a6:L<z.heap.objs.size:=A0D hL;have a7:e<z.heap.objs.size:=od.lt_size;have off:L≠z.heap.objs.size:=A11 a6;have W:=(Walks.dictKeys (knd:=kd) (prog:=P) (w:=w) (A:=A.in1) calm z.heap.objs.size e (A11 a7) J ep).toS
 have a8:L∉[z.heap.objs.size,e]:=λq=>by
  simp only[List.mem_cons,List.not_mem_nil,or_false] at q;rcases q with q|q
  . exact off q
  exact a0 q
 have run:∀(g:Heap) (c1 tk:Nat),g.IsKeyIter z.heap.objs.size e 0 J.length ep->g.DictAt kd e J ep->(∀ b o,b≠L->z.heap.get? b=some o->g.get? b=some o) ->
   g.get? L=some {cls:=.type "list",data:=.seq #[] c1}->codeAny (model P w) A (.builtin "list.extend.loop" ⟨[.ref L,.ref z.heap.objs.size,res],[]⟩) R {z with heap:=g,toks:=tk}:=by
  intro g c1 tk it U keep O;refine(codeAny_extend_loopS W (by rw[A1I];omega) L a8 res J.length 0 _ #[] c1 rfl (A2J _) ⟨it,U⟩ O (ItemsOf.nil _) λs' Z Y mv a4 items=>?_);rw[Moved.eq_with mv];refine(go s'.heap s'.toks Z Y (λb o hb q=>mv.heap b o (λm=>?_) (keep b o hb q)) a4 items);rcases A0A.mp m with q'|m
  . exact hb q'
  exact absurd (A0D q) (by rw[A0P.mp m];exact A1P _)
 unfold Builtin.List.listExtendWith;refine(A05 (A3V (T:="dict") a3 ?_));have n1:Builtin.List.listSameRef (.ref L) (.ref e)=false:=by simp[Builtin.List.listSameRef,a0]
 have n2:(Value.type "dict" == Value.type "list")=false:=by decide
 have n3:(Value.type "dict" == Value.type "tuple")=false:=by decide
 simp only[n1,n2,n3,Bool.or_false,Bool.false_eq_true,if_false];refine(A05 (wpAny_pyIter_dict nd od ?_));have U:=od.push {cls:=.type "dict_keyiterator",data:=.fields #[.ref e,.int 0 0,.int J.length 0,.int ep 0]};refine(A05 (A42 (ab0 nd U.dictOf ?_)));have a2:(z.heap.push {cls:=.type "dict_keyiterator",data:=.fields #[.ref e,.int 0 0,.int J.length 0,.int ep 0]}).IsKeyIter z.heap.objs.size e 0 J.length ep:=⟨_,A0I _ rfl,rfl,rfl⟩;have O:=A02 {cls:=.type "dict_keyiterator",data:=.fields #[.ref e,.int 0 0,.int J.length 0,.int ep 0]} hL;refine(wpAny_ite_split (λ_=>?_) (λ_=>A0K ⟨A56 F.plain_extend_loop _,run _ c0 _ a2 U (λb o _ q=>A02 _ q) O⟩));refine(A05 (wpAny_rule ?_));refine(A05 ?_);show wpAny _ _ (updateSeq L (·.push .none) >>= λ_=>updateSeq L (·.pop)) _ _ _;refine(A05 (wpAny_updateSeq O rfl ?_));have a1:=A4T (Obj.mapSeq (·.push Value.none)) O rfl;refine(wpAny_updateSeq (hz:=by seq_fits) a1 rfl ?_);have a5:=A4T (Obj.mapSeq (·.pop)) a1 rfl
 have up:∀ b o,b≠L->(z.heap.push {cls:=.type "dict_keyiterator",data:=.fields #[.ref e,.int 0 0,.int J.length 0,.int ep 0]}).get? b=some o->_:=λb o hb q=>
  (A3N _ (Obj.mapSeq (·.pop)) (Ne.symm hb)).trans ((A3N _ (Obj.mapSeq (·.push Value.none)) (Ne.symm hb)).trans q)
 exact A0K ⟨A56 F.plain_extend_loop _,run _ _ _ (a2.at λo q=>up _ o (Ne.symm off) q) (U.at' λo q=>up _ o (Ne.symm a0) q) (λb o hb q=>up b o hb (A02 _ q)) a5⟩
theorem a53 {R:Result->Shared->Prop}{e:Addr}{F:List (κ×Value)}{ep:Nat}(calm:A.handled=none)(nd:(e==sysModules)=false)(od:z.heap.DictAt kd e F ep)(few:F.length<=2 ^ 24)
  (L:Addr) (J:z.heap.get? L=some {cls:=.type "list",data:=.seq #[]})
  (go:∀ g tk O c,(∀ b o,b≠L->z.heap.get? b=some o->g.get? b=some o)->g.get? L=some {cls:=.type "list",dict:=none,data:=.seq O c,slots:=#[]} ->
   ItemsOf (λi v=>∃ k x,F[i]? = some (k,x)/\kd.is k v=true) O F.length->R (.ok (.ret .none)) {z with heap:=g,toks:=tk}) :
  wpAny (model P w) A.in1 (Builtin.«list.__init__» ⟨[.ref L,.ref e],[]⟩)
   (λfin s'=>match fin with | .done f=>R (.ok f) s' | .again c'=>c'.quiet=true/\codeAny (model P w) A c' R s') (λe s'=>R (.error e) s') z:=by
 have U:e≠L:=λq=>by
  obtain⟨o,h1,h2⟩:=od.dictOf.typeIs (s:=z);rw[q,J] at h1
  cases h1;simp at h2
 show wpAny _ _ (do let was <- Builtin.List.listItems (.ref L);Builtin.List.listUpdate (.ref L) (λ_=>#[]);letGo was.toList.reverse;Builtin.List.listExtendWith (.ref L) (.ref e) .none) _ _ z
 refine(A05 ?_);unfold Builtin.List.listItems;refine(A05 (A4X J rfl (A0K ?_)));show wpAny _ _ (updateSeq L (λ_=>#[]) >>= λ_=>letGo (#[]:Array Value).toList.reverse >>= λ_=>Builtin.List.listExtendWith (.ref L) (.ref e) .none) _ _ z;refine(A05 (wpAny_updateSeq J rfl ?_));have Z:=A4T (Obj.mapSeq (λ_=>(#[]:Array Value))) J rfl
 have up:∀ b o,b≠L->z.heap.get? b=some o->(z.heap.update L (Obj.mapSeq (λ_=>(#[]:Array Value)))).get? b=some o:=
  λb o hb q=>(A3N _ _ (Ne.symm hb)).trans q
 refine(A05 (wpAny_letGo ?_));refine(Wn calm nd (od.at' λo q=>up e o U q) few L .none _ Z λg tk O c keep Y items=>?_);exact go g tk O c (λb o hb q=>keep b o hb (up b o hb q)) Y items
theorem Qb {Q:Value->Shared->Prop}{e:Addr}{J:List (κ×Value)}{ep:Nat}(calm:A.handled=none)(nd:(e==sysModules)=false)(od:z.heap.DictAt kd e J ep)(few:J.length<=2 ^ 24)
  (go:∀ g tk O c,(∀ b o,z.heap.get? b=some o->g.get? b=some o)->g.get? z.heap.objs.size=some {cls:=.type "list",dict:=none,data:=.seq O c,slots:=#[]} ->
   ItemsOf (λi v=>∃ k x,J[i]? = some (k,x)/\kd.is k v=true) O J.length->Q (.ref z.heap.objs.size) {z with heap:=g,toks:=tk}) :
  wpAny (model P w) A (call (.type "list") [.ref e]) Q E z:=by
 refine callType_codes (Q₁:=λnew Y=>new = .ref z.heap.objs.size/\Y={z with heap:=z.heap.push {cls:=.type "list",data:=.seq #[]}}) F.called_list (F.typeCall_list_1 _) F.entry_list_init
  (code_list_new _ ⟨rfl,rfl⟩) λnew Y Z=>?_
 obtain⟨rfl,rfl⟩:=Z;have U:(z.heap.push {cls:=.type "list",data:=.seq #[]}).get? z.heap.objs.size=some {cls:=.type "list",data:=.seq #[]}:=A0I _ rfl;refine⟨⟨_,U,rfl⟩,F.args_list_init_2 _ _,a53 (A:=A.in1) calm nd (od.push _) few _ U λg tk O c keep a0 items=>?_⟩;exact⟨rfl,go g tk O c (λb o q=>keep b o (A11 (A0D q)) (A02 _ q)) a0 items⟩
end
section
variable {X:Cx}{K:W.Frag}
def aq6:List V->Hp->VK->Prop:=λxs H Q=>∃(d:Addr) (kvs:List (Key×V)),xs=[.ref d]/\H d=some (.dK kvs)/\kvs.length<=1000000/\∀ l,H l=none->Q (.ref l) (upd H l (.lst (kvs.map λkv=>kV kv.1)))
theorem Qj (hc:X.calm=true):CallR X (.type "list") aq6:=by
 intro pins s σ H xs us Q I r h;obtain⟨d,kvs,rfl,hd,hz,q⟩:=h;obtain⟨u,rfl,ru⟩:=Ij r
 cases ru;obtain⟨_,hs,vs,O,U⟩:=Vl I.hok hd;obtain⟨ep,Z⟩:=U.dictAt;have a1:=O.length;refine Qb (by simpa using I.ok.hd hc) hs Z ∅ λg tk F c keep Y items=>?_;refine⟨.ref s.heap.objs.size,_,I.laid (t':=tk) (o:=.lst (kvs.map λkv=>kV kv.1)) keep (Nat.le_refl _) ⟨?_,F.toList,c,Vh ?_ ?_,by simpa using Y⟩,rfl,q _ (I.hok.fresh (Nat.le_refl _))⟩
 . rw[A01,A1I];omega
 . have e1:=items.1;have e2:F.toList.length=F.size:=A4Z;have e3:(kvs.map λkv=>kV kv.1).length=kvs.length:=A01 ..;omega
 intro i a b ha hb;rw[A4P] at hb;obtain⟨k,x,a0,hk⟩:=items.2 i b hb
 have J:kvs[i]?.map (·.1)=some k:=by rw[<- A06,O.keys,A06,a0];rfl
 rw[A06] at ha
 cases g:kvs[i]? with
 |none=>rw[g] at ha;cases ha
 |some kv=>
   rw[g] at ha J
   cases ha;have e:kv.1=k:=A15 J;subst e;exact ae4 hk
theorem a95 {d:Addr}{kvs:List (Key×V)}{H:Hp}{Q:VK}(h:H d=some (.dK kvs))(hz:kvs.length<=1000000)(k:∀ l H',H l=none->Same H H'->H' l=some (.lst (kvs.map λkv=>kV kv.1))->Q (.ref l) H'):aq6 [.ref d] H Q:=
 ⟨d,kvs,rfl,h,hz,λl q=>k l _ q (Same.upd q) Ae⟩
end
section
variable {P:Program}{w:World}{A:Around}{E:Value->Shared->Prop}{z:Shared}
end
section
variable {P:Program}{w:World}{A:Around}{E:Value->Shared->Prop}{z:Shared}{c TI TO i1 i2 D:Addr}{fp1 fp2:List Addr}{n:Nat}{P1 P2:Nat->Value->Prop}{S1 S2:Nat->Heap->Prop}
end
section
variable {P:Program}{w:World}{κ:Type}[DecidableEq κ]{kd:KeyKind P w κ}{A:Around}{E:Value->Shared->Prop}{c TI TO i1 i2 D:Addr}{fp1 fp2:List Addr}{n:Nat}{P1 P2:Nat->Value->Prop}{S1 S2:Nat->Heap->Prop}
end
section
variable {P:Program}{w:World}{A:Around}{E:Value->Shared->Prop}{z:Shared}
end
section
variable {X:Cx}{K:W.Frag}
end
section
variable {K:W.Frag}{H:Hp}{Q:VK}
end
theorem HalfW.cl_few {ns:List Str}{ps:List (Str×Str)}(h:HalfW ns ps)(q:ns.length<=10):(clP ns ps).length+(unP ns ps).length<=45:=by
 have h1:=W3 (ns:=ns) (ps:=ps) h.irr
 have F:(ns.length:Int)*((ns.length:Int)-1)<=10*9:=by
  have a:(ns.length:Int)<=10:=by omega
  rcases A58 ns.length with e|e
  . rw[e];decide
  exact Int.mul_le_mul a ∅ ∅ ∅
 omega
section
variable {K:W.Frag}{H:Hp}{Q:VK}
theorem aP2 (xs ys:List Str):PyData.eqv (nmD xs) (nmD ys)=decide (xs=ys):=by simp only[nmD,PyData.eqv,aa2]
end
section
variable {ns ns':List Str}{ps ps' bs:List (Str×Str)}
theorem aq4 (h:HalfW ns ps)(q:ns.length<=10):(baP ns ps).length<=45:=by have:=h.cl_few q;have:(baP ns ps).length<=(clP ns ps).length:=A0T _ _;omega
theorem aC5 (h:HalfW ns ps)(q:ns.length<=10):HalfW ns (baP ns ps):=h.ba (A0O (aq4 h q) nofun)
end
section
variable {ns:List Str}{ps:List (Str×Str)}
end
section
variable {P:Program}{w:World}{A:Around}{E:Value->Shared->Prop}{z:Shared}
end
section
variable {X:Cx}{K:W.Frag}
end
section
variable {α:Type}[DecidableEq α]{b:α->α->Bool}{L:List α}
theorem Ya (xs ys:List α):Qn b L (xs++ys)=Qn b L xs++Qn b L ys:=by unfold Qn;rw[A28]
theorem al0 (x:α):Qn b L [x]=(ext b (L.length-1) (Ai L x)).map (x :: ·):=by unfold Qn;simp
theorem aK3 (J:L≠[]){m n:Nat}{x:α}{r:List α}(hm:(frF b L)[m]? = some x)(hn:(Qn b L ((frF b L).take m)).length<=n)
  (q:(ext b (L.length-1) (Ai L x))[n-(Qn b L ((frF b L).take m)).length]? = some r):(ext b L.length L)[n]? = some (x :: r):=by
 rw[<- Y7 b J]
 have e:frF b L=(frF b L).take m++([x]++(frF b L).drop (m+1)):=by
  have F:m<(frF b L).length:=(A00.mp hm).1;have h1:=A4C F;have h2:(frF b L)[m]=x:=(A00.mp hm).2;rw[h2] at h1
  conv=>lhs;rw[<- List.take_append_drop m (frF b L),h1]
  rfl
 rw[e,Ya,Ya,al0];rw[A33 hn,A1S (by rw[A01];exact(A00.mp q).1),A06,q];rfl
end
def aN2:List V->Hp->VK->Prop:=λxs H Q=>∃ i:Int,xs=[.int i]/\i.natAbs.log2<1920/\Q (.str (toString i)) H
theorem Yv {X:Cx}:CallR X (.builtin "repr") aN2:=by intro pins s σ H xs us Q I r h;obtain⟨i,rfl,hz,q⟩:=h;obtain⟨u,rfl,t,rfl⟩:=Ij r;exact PySem.P.repr_of_int hz ⟨.str _,H,I.tok _,⟨_,rfl⟩,q⟩
section
variable {prog:Program}{w:World}{A:Around}{E:Value->Shared->Prop}{h:Heap}{g:Array GenState}{d:Drawn}{t:Nat}{os:OsState}{K:W.Frag}{C fI:Addr}{rest:List Value}
end
end L2
namespace L2
open PySem PySem.Spec PyProof.Rows
open PySem PySem.Spec PyProof.Rows Builtin Builtin.ObjectAttr
section
variable {prog:Program}{w:World}{A:Around}{E:Value->Shared->Prop}{s:Shared}{K:W.Frag}{C x:Addr}{name:Str}{v:Value}
end
end L2
namespace L2
open PySem PySem.Spec PyProof.Rows
section
variable {P:Program}{w:World}{H:Hp}{h:Heap}{a C dx:Addr}{od:Option Addr}{fs:List (Str×V)}
end
section
variable {K:W.Frag}{C B D:Addr}
end
section
variable {X:Cx}{pins:List (Addr×Obj)}{σ:St}{H:Hp}{s:Shared}{a C dx:Addr}{fs:List (Str×V)}{f:Str}{v:V}{A:Around}{E:Value->Shared->Prop}
end
section
variable {X:Cx}{o e value:Expr}{f:Str}{pos pos' tpos:Pos}{ta tv:TE}
end
section
variable {X:Cx}{k:Nat}{f C:Addr}{fd:FuncData}{ps:List Str}{sp:Sp}{x:Str}{p pos:Pos}{e:Expr}{es:List Expr}{t:TA}{pins:List (Addr×Obj)}{σ:St}{H:Hp}{s:Shared}{Q:VK}{us:List Value}{vs:List V}
end
section
variable {X:Cx}{K:W.Frag}{o e value:Expr}{f:Str}{pos pos':Pos}{ta tv:TE}
end
section
variable {K:W.Frag}{σ:St}{H:Hp}{Q:VK}{D:Ph}{f:Str}{ta tv:TE}{t:TA}{sp:Sp}{C a dx B G:Addr}{fs:List (Str×V)}{v y:V}{R:Hp->Prop}{vs:List V}
end
section
variable {M:Model}{A:Around}{E:Value->Shared->Prop}{s:Shared}{base:Heap}{env:Env}{outer:List Env}{L a:Addr}{oe:Obj}{vs:Array Value}{Q:Unit->Shared->Prop}
end
section
variable {P:Program}{w:World}{fs:List Addr}{a C:Addr}{od:Option Addr}{oe:Obj}{old:List Addr}{h h':Heap}{H:Hp}{n:Bool}
end
section
variable {P:Program}{w:World}{K:W.Frag}{mg:Str->Option Value}{base:Heap}{N:List Str}{qual:Str}{scope:Scope}{f:Addr}{cd:Value}{A:Around}{outer:List Env}{s₀:Shared}{H₀:Hp}{E:XK}
end
section
variable {X:Cx}{pins:List (Addr×Obj)}{σ:St}{H:Hp}{s:Shared}
end
section
variable {M:Model}{A:Around}{E:Value->Shared->Prop}{s:Shared}{K:W.Frag}{C B a:Addr}{oe:Obj}{Q:Bool->Shared->Prop}
end
section
variable {X:Cx}{pins:List (Addr×Obj)}
end
section
variable {X:Cx}{k:Nat}{x:Str}{ps:List Str}{sp:Sp}{e:Expr}{es:List Expr}{t:TA}{p pos:Pos}{E:XK}
end
section
variable {P:Program}{w:World}{K:W.Frag}{mg:Str->Option Value}{base:Heap}
end
section
variable {K:W.Frag}{σ:St}{H H0:Hp}{D:Ph}{t:TE}{C a:Addr}{fs:List (Str×V)}{E:XK}
end
section
open Lean
def mWay (s:String):MacroM (TSyntax `tactic):=
 if s == "as" then `(tactic| assumption) else if s == "ar" then `(tactic| with_reducible assumption) else `(tactic| walk_at $(quote s))
def a50 (q:Array (TSyntax `tactic)):MacroM (TSyntax `tactic):=do
 let q <- q.mapM λt=>`(Lean.Parser.Tactic.tacticSeq| $t:tactic)
 `(tactic| first $[| $q]*)
def mId (s:String):Ident:=mkIdent ((s.splitOn ".").foldl Name.mkStr Name.anonymous)
def mIs (s:String):MacroM Ident:=do return mkIdent (<- Macro.addMacroScope (.mkSimple s))
def ae2:List String->TSyntax `tactic->MacroM (TSyntax `tactic)
 | [],t=>pure t
 |s :: r,t=>do
   match s.splitOn "=" with
   | [x,y]=>let w <- mWay y;let i <- mIs x;ae2 r (<- `(tactic| ($t:tactic;(case $i:ident=>$w:tactic))))
   |_=>ae2 r t
def mRow (s:String):MacroM (TSyntax `tactic):=do
 match s.splitOn ": " with
 | [h,c]=>
   match h.splitOn " " with
   |f :: as=>
     let xs <- as.toArray.mapM λa=>do if a == "_" then `(?_) else `(?$(<- mIs a))
     let u:=Syntax.mkApp (mId f) xs
     let t <- if as.contains "_" then `(tactic| with_reducible refine' $u) else `(tactic| refine' $u)
     ae2 (c.splitOn " ") t
   |_=>Macro.throwUnsupported
 |_=>do
   if s == "as" then `(tactic| assumption)
   else if s == "no" then `(tactic| fail "no")
   else `(tactic| exact $(mId s))
def mRows (s:String):MacroM (TSyntax `tactic):=do a50 (<- (s.splitOn " | ").toArray.mapM mRow)
def mAlts (s:String):MacroM (TSyntax `tactic):=do
 let a <- a50 (<- (s.splitOn " ").toArray.mapM λn=>`(tactic| refine $(mId n) ?_))
 `(tactic| with_reducible $a:tactic)
def mAltG (s:String):MacroM (TSyntax `tactic):=do
 let a <- a50 (<- (s.splitOn " ").toArray.mapM λn=>`(tactic| refine $(mId n) λN q=>?_))
 `(tactic| with_reducible $a:tactic)
end
section
open PySem
theorem same_refl {H:Hp}:Same H H:=Same.refl _
theorem fz_refl {H:Hp}:Fz H H:=Fz.refl _
theorem ne_none2 {H:Hp}{a b:PySem.Addr}{o:HO}(h:H a=some o)(g:H b=none):b≠a:=Ne.symm (ne_of_none h g)
def Cut (N M:St->Hp->Prop):Prop:=∀ σ H,M σ H->N σ H
section
variable {t u:TS}{te td ty tv:TE}{g:TG}{D:Ph}{σ:St}{H:Hp}
theorem aE7 (k:∀ N:St->Hp->Prop,Cut N (u D)->t {D with nx:=N} σ H):aQ7 t u D σ H:=k (u D) λ_ _ h=>h
theorem i_seqAG (k:∀ N:St->Hp->Prop,Cut N (u D)->aD6 te g {D with nx:=N} σ H):aQ7 (aD6 te g) u D σ H:=k (u D) λ_ _ h=>h
theorem i_cutN {N M:St->Hp->Prop}(h:Cut N M)(k:M σ H):N σ H:=h _ _ k
end
theorem aN0 {α:Type}{P:List α->Prop}{us:List α}(q:us.length=0)(h:P []):P us:=by rw[A17.mp q];exact h
theorem as8 {α:Type}{P:List α->Prop}{us:List α}(q:us.length=1)(h:∀ F:α,P [F]):P us:=by
 cases us with
 |nil=>cases q
 |cons a r=>exact aN0 (P:=λr=>P (a :: r)) (Nat.succ.inj q) (h a)
theorem ao9 {α:Type}{P:List α->Prop}{us:List α}(q:us.length=2)(h:∀ F J:α,P [F,J]):P us:=by
 cases us with
 |nil=>cases q
 |cons a r=>exact as8 (P:=λr=>P (a :: r)) (Nat.succ.inj q) (h a)
theorem aP3 {α:Type}{P:List α->Prop}{us:List α}(q:us.length=3)(h:∀ F J O:α,P [F,J,O]):P us:=by
 cases us with
 |nil=>cases q
 |cons a r=>exact ao9 (P:=λr=>P (a :: r)) (Nat.succ.inj q) (h a)
end
section
variable {K:W.Frag}{x qual:Str}{st:Stmt}{f:Addr}{fd:FuncData}
theorem Dm {O:Str}(F:Fun K x qual st f fd)(h:∀(kV J pm:Value) (an:Option Addr) (q ct:Value) (U:Value),bindArgs (W.fnOf x qual (Af st) (Ac st) (A4 st) .none kV J pm an q ct) ⟨[U],[]⟩=pure (([O]:List Str).zip [U])):Binds K fd [O] []:=
 F.binds λkV J pm an q ct us Y=>as8 (P:=λus=>bindArgs (W.fnOf x qual (Af st) (Ac st) (A4 st) .none kV J pm an q ct) ⟨us,[]⟩=pure (([O]:List Str).zip us)) Y (h kV J pm an q ct)
theorem Ea {O p1:Str}(F:Fun K x qual st f fd)(h:∀(kV J pm:Value) (an:Option Addr) (q ct:Value) (U Y:Value),bindArgs (W.fnOf x qual (Af st) (Ac st) (A4 st) .none kV J pm an q ct) ⟨[U,Y],[]⟩=pure (([O,p1]:List Str).zip [U,Y])):Binds K fd [O,p1] []:=
 F.binds λkV J pm an q ct us Z=>ao9 (P:=λus=>bindArgs (W.fnOf x qual (Af st) (Ac st) (A4 st) .none kV J pm an q ct) ⟨us,[]⟩=pure (([O,p1]:List Str).zip us)) Z (h kV J pm an q ct)
theorem Kv {O p1 p2:Str}(F:Fun K x qual st f fd)(h:∀(kV J pm:Value) (an:Option Addr) (q ct:Value) (U Y Z:Value),bindArgs (W.fnOf x qual (Af st) (Ac st) (A4 st) .none kV J pm an q ct) ⟨[U,Y,Z],[]⟩=pure (([O,p1,p2]:List Str).zip [U,Y,Z])):Binds K fd [O,p1,p2] []:=
 F.binds λkV J pm an q ct us hl=>aP3 (P:=λus=>bindArgs (W.fnOf x qual (Af st) (Ac st) (A4 st) .none kV J pm an q ct) ⟨us,[]⟩=pure (([O,p1,p2]:List Str).zip us)) hl (h kV J pm an q ct)
end
def aE9 (K:W.Frag):R2:=λx y H Q=>∃ a b xs,x = .ref a/\y = .ref b/\SqL K H a xs/\SqL K H b []/\Q (.bl (!xs.isEmpty)) H
theorem ah2 {X:Cx}{K:W.Frag}(Y:QA X.A)(U:X.K=K:=by ac_nf):OpR X (compareOp .NotEq) (aE9 K):=by
 subst U;intro pins s σ H x y v u Q I rx ry h;obtain⟨a,b,xs,rfl,rfl,ha,hb,q⟩:=h
 cases rx
 cases ry;obtain⟨Z,O,la,_⟩:=I.list ha;obtain⟨a1,a0,lb,_⟩:=I.list hb
 cases a0;have hu:X.A.units<cLine:=by have:=Y.un;omega
 have F:s.heap.IsList a Z.toArray:=let ⟨o,n,e1,e2,e3,e4⟩:=la;⟨o,e1,e2,_,e4⟩;have J:s.heap.IsList b ([]:List Value).toArray:=let ⟨o,n,e1,e2,e3,e4⟩:=lb;⟨o,e1,e2,_,e4⟩
 cases xs with
 |nil=>cases O;have r:=SeqAt.RcNeAt.lists (A:=X.A) (s:=s) (e:=λ_=>true) F J rfl hu (λj h1=>absurd h1 (by simp));exact r _ _ _ _ ⟨.bl _,H,I,rfl,q⟩
 |cons x r=>
   cases O with
   |cons r1 r2=>have r:=SeqAt.RcNeAt.lists_lengths (A:=X.A) (s:=s) F J (by simp) hu;exact r _ _ _ _ ⟨.bl _,H,I,rfl,q⟩
theorem aq1 {K:W.Frag}{H:Hp}{Q:VK}{a b:Addr}{xs:List V}(h:SqL K H a xs)(h':SqL K H b [])(k:Q (.bl (!xs.isEmpty)) H):aE9 K (.ref a) (.ref b) H Q:=⟨a,b,xs,rfl,rfl,h,h',k⟩
section
open PySem.SeqAt PySem.MeetsSeq
variable {A:Around}{s:Shared}
end
section
variable {prog:Program}{w:World}{A:Around}{E:Value->Shared->Prop}{s:Shared}
set_option maxRecDepth 100000 in
end
section
variable {X:Cx}{pos p2:Pos}
end
section
variable {P:Program}{w:World}{A:Around}{E:Value->Shared->Prop}{z:Shared}
end
section
variable {X:Cx}{K:W.Frag}
end
section
variable {K:W.Frag}{H:Hp}{Q:VK}
end
section
variable {X:Cx}{pins:List (Addr×Obj)}{σ:St}{H:Hp}{s:Shared}
end
mutual
def aL3:PyData->Bool
 |.str z=>z.cps.toList.all λc=>decide (c<128)
 |.list ds=>aD9 ds
 |.tuple ds=>aD9 ds
 |.dict _=>false
 |_=>true
def aD9:List PyData->Bool
 | []=>true
 |d :: ds=>aL3 d&&aD9 ds
end
mutual
def aN1:PyData->Nat
 |.list ds=>max ds.length (aD4 ds)
 |.tuple ds=>max ds.length (aD4 ds)
 |_=>0
def aD4:List PyData->Nat
 | []=>0
 |d :: ds=>max (aN1 d) (aD4 ds)
end
structure Dk (p w W:Nat)(D:PyData):Prop where
 asc:aL3 D=true
 lay:D.canLay0=true
 sh:D.showable=true
 lv:D.leavesShort 45=true
 dp:D.depth<=p
 wt:D.weight<=w
 wd:aN1 D<=W
structure Els (p w W:Nat)(ds:List PyData):Prop where
 all:∀ e∈ds,∃ u,Dk p u W e
 wt:PyData.weightAll ds<=w
 len:ds.length<=W
theorem Dk.le {p w W F J q:Nat}{D:PyData}(h:Dk p w W D)(h1:p<=F)(h2:w<=J)(O:W<=q:=by omega):Dk F J q D:=⟨h.asc,h.lay,h.sh,h.lv,A0O h.dp h1,A0O h.wt h2,A0O h.wd O⟩
theorem a85 {p W:Nat}:∀ {ds:List PyData},(∀ e∈ds,∃ u,Dk p u W e)->aD9 ds=true/\PyData.canLayAll0 ds=true/\PyData.showableAll ds=true/\PyData.leavesShortAll 45 ds=true/\PyData.depthAll ds<=p/\aD4 ds<=W
 | [],_=>⟨by simp only[aD9],by simp only[PyData.canLayAll0],by simp only[PyData.showableAll],by simp only[PyData.leavesShortAll],by simp only[PyData.depthAll];omega,by simp only[aD4];omega⟩
 |d :: ds,h=>by obtain⟨u,a⟩:=h d (by simp);obtain⟨q,F,J,O,U,Y⟩:=a85 (ds:=ds) λe he=>h e (by simp[he]);have:=a.dp;have:=a.wd;exact⟨by simp only[aD9,a.asc,q,Bool.and_self],by simp only[PyData.canLayAll0,a.lay,F,Bool.and_self],by simp only[PyData.showableAll,a.sh,J,Bool.and_self],by simp only[PyData.leavesShortAll,a.lv,O,Bool.and_self],by simp only[PyData.depthAll];omega,by simp only[aD4];omega⟩
theorem ac9 {p w W:Nat}{ds:List PyData}(h:Els p w W ds):Dk (p+1) w W (.tuple ds):=by obtain⟨q,F,J,O,U,Y⟩:=a85 h.all;have:=h.len;exact⟨by simpa only[aL3] using q,by simpa only[PyData.canLay0] using F,by simpa only[PyData.showable] using J,by simpa only[PyData.leavesShort] using O,by simp only[PyData.depth];omega,by simpa only[PyData.weight] using h.wt,by simp only[aN1];omega⟩
def Asc (z:Str):Prop:=∀ c∈z.cps.toList,c<128
theorem Asc.ok {z:Str}(h:Asc z):PyData.strOk z=true:=by unfold PyData.strOk;rw[<- Array.all_toList,A2C];intro c q;have:=h c q;exact A0Y ∅
theorem Uf {p w W:Nat}{z:Str}(h:Asc z)(F:z.length<=w):Dk p w W (.str z):=by
 refine⟨?_,by simpa only[PyData.canLay0] using h.ok,by simp only[PyData.showable],?_,by simp only[PyData.depth];omega,by simp only[PyData.weight];exact F,by simp only[aN1];omega⟩
 . simp only[aL3];rw[A2C];exact λc q=>A0Y (h c q)
 simp only[PyData.leavesShort];rw[A2C];intro c q;have:=h c q;exact A0Y ∅
section
variable {X:Cx}{K:W.Frag}
def ah0 (K:W.Frag):List V->Hp->VK->Prop:=λxs H Q=>∃ x d,xs=[x]/\Is K H d x/\d.showable=true/\d.shown.length<=sizeLine/\d.depth<=100/\Q (.str d.shown) H
theorem Ys (O:QA X.A):CallR X (.builtin "repr") (ah0 X.K):=by
 intro pins s σ H xs us Q I F h;obtain⟨x,d,rfl,i,J,hf,hd,q⟩:=h
 cases d with
 |none=>simp only[Is] at i;subst i;exact Qy pins s σ H _ us Q I F (.inr ⟨rfl,q⟩)
 |bool b=>
   simp only[Is] at i;subst i;refine Qy pins s σ H _ us Q I F (.inl ⟨b,rfl,?_⟩)
   cases b<;>exact q
 |int n=>simp only[Is] at i;subst i;exact Yv pins s σ H _ us Q I F ⟨n,rfl,of_decide_eq_true (by simpa only[PyData.showable] using J),q⟩
 |str z=>simp only[Is] at i;subst i;obtain⟨u,rfl,U⟩:=F.one;obtain⟨t,rfl⟩:=U;exact PySem.P.repr_of_str ⟨.str _,H,I.tok _,⟨_,rfl⟩,q⟩ hf
 |list ds=>exact Qx O pins s σ H _ us Q I F ⟨x,_,rfl,i,⟨rfl,J,hf,hd⟩,q⟩
 |tuple ds=>exact Qx O pins s σ H _ us Q I F ⟨x,_,rfl,i,⟨rfl,J,hf,hd⟩,q⟩
 |dict kvs=>simp only[Is] at i
theorem K9 (F:QA X.A)(q:X.K=K:=by ac_nf):CallR X (.builtin "repr") (ah0 K):=q ▸ Ys F
theorem Wm {H:Hp}{Q:VK}{d:PyData}{x:V}(h:Is K H d x)(h1:d.showable=true)(h2:d.shown.length<=sizeLine)(q:d.depth<=100)(k:Q (.str d.shown) H):ah0 K [x] H Q:=⟨x,d,rfl,h,h1,h2,q,k⟩
theorem Dk.told {p w W:Nat}{D:PyData}(h:Dk p w W D)(hp:p<=60)(J:w<=100000):D.showable=true/\D.shown.length<=sizeLine/\D.depth<=100:=by have h2:=PyData.shown_le 45 nofun D h.lv;have q:=h.wt;have F:=h.dp;refine⟨h.sh,?_,by omega⟩;rw[A1I];omega
end
section
variable {prog:Program}{w:World}{A:Around}{E:Value->Shared->Prop}{s:Shared}
end
section
variable {P:Program}{w:World}{A:Around}{R:Result->Shared->Prop}{it:Addr}{fp wr:List Addr}{G:Array GenState->Array GenState->Prop}{n:Nat}{PV:Nat->Value->Prop}{St:Nat->Shared->Prop}
end
section
variable {prog:Program}{w:World}{A:Around}{E:Value->Shared->Prop}{s:Shared}
set_option maxHeartbeats 3200000 in
end
section
variable {X:Cx}{K:W.Frag}
end
end L2
namespace L2
open PySem PySem.Spec PyProof.Rows
open Builtin
theorem Yy:fillsNumberSlot (.type "tuple") "mul" = pure false:=
 PySem.fillsNumberSlot_seq (id:="tuple.__mul__") (r:=some (.builtin "tuple.__rmul__")) F.slot_tuple_mul.lookup (by decide +kernel) F.slot_tuple_rmul.lookup (by decide +kernel)
theorem Zg:seqRepeat? (.type "tuple")=pure (some (.builtin "tuple.__mul__")):=by unfold seqRepeat?;rw[PySem.seqSlot_of (T:="tuple") (name:="__mul__") (id:="tuple.__mul__") F.slot_tuple_mul.lookup (by decide +kernel),PySem.seqSlot_of (T:="tuple") (name:="__rmul__") (id:="tuple.__rmul__") F.slot_tuple_rmul.lookup (by decide +kernel)];rfl
theorem ao2 (x:Int)(t:Tok)(l:Addr)(F:Array Value)(n:Nat)(q:Option Addr)(J:Array (Option Value)) :
  Meets (Builtin.«int.__rmul__» ⟨[.int x t,.ref l],[]⟩) (λ_ R z=>z.heap.get? l=some {cls:=.type "tuple",dict:=q,data:=.seq F n,slots:=J}/\R (.ok (.ret Value.notImplemented)) z):=
 .of_wp λprog w A R z h=>by obtain⟨hp,g,d,tk,os⟩:=z;obtain⟨O,h⟩:=h;wp_walk;exact⟨_,rfl,h⟩
theorem aA0 (l:Addr)(q:Array Value)(n:Nat)(F:Option Addr)(Z:Array (Option Value))(x:Int)(u:Tok)(J:¬ (decide (x < -(2 ^ 63))||decide (x>=2 ^ 63))=true)(h1:¬ (q.isEmpty||x==1)=true)(h2:¬ (decide (x<=0)||q.isEmpty)=true)(O:¬ (q.size:Int)*x>(2 ^ 63-1) / 8)(U:¬ Builtin.Tuple.tupleTooMany ((q.size:Int)*x)=true)
  (Y:((List.replicate x.toNat q).foldl (· ++ ·) #[]).size<=sizeLine) :
  Meets (Builtin.«tuple.__mul__» ⟨[.ref l,.int x u],[]⟩) (λ_ R z=>z.heap.get? l=some {cls:=.type "tuple",dict:=F,data:=.seq q n,slots:=Z}/\R (.ok (.ret (.ref z.heap.objs.size))) {z with heap:=z.heap.push {cls:=.type "tuple",data:=.seq ((List.replicate x.toNat q).foldl (· ++ ·) #[])}}):=
 .of_wp λprog w A R z h=>by
  obtain⟨hp,g,d,tk,os⟩:=z;obtain⟨hl,h⟩:=h
  wp_walk
  rw[A0Q J]
  wp_walk
  rw[A0Q O];show wpAny _ _ (if Builtin.Tuple.tupleTooMany (q.size*x)=true then _ else _) _ _ _
  rw[A0Q U];refine A05 (A2M (A0K ?_) Y);exact⟨_,rfl,h⟩
section
variable {X:Cx}{K:W.Frag}
def aB6 (K:W.Frag):R2:=λx y H Q=>∃(l:Addr) (k:Int) (xs:List V),x = .ref l/\y = .int k/\SqT K H l xs/\2<=k/\k<=1000/\xs≠[]/\xs.length<=1000/\∀ p,H p=none->Q (.ref p) (upd H p (.tup (List.replicate k.toNat xs).flatten))
theorem aB7:OpR X (binaryOp .Mult) (aB6 X.K):=by
 intro pins s σ H x y v u Q I rx ry h;obtain⟨l,k,xs,rfl,rfl,hH,h1,h2,h3,h4,q⟩:=h
 cases rx;obtain⟨t,rfl⟩:=ry;obtain⟨J,r,ht,hz⟩:=I.tuple hH;obtain⟨⟨cls,Y,a4,sl⟩,e,Z,n,hd⟩:=ht;simp only at Z hd;subst Z;subst hd;have O:=r.length;have a3:J≠[]:=λz=>by rw[z] at O;exact h3 (A17.mp O)
 have hsz:J.length*k.toNat<=1000000:=by have:J.length*k.toNat<=1000*1000:=A2K ∅ ∅;omega
 have hi:(J.toArray.size:Int)*k=((J.length*k.toNat:Nat):Int):=by rw[A0R,A4U,A2R ∅]
 have a0:J.toArray.isEmpty=false:=by cases J with | nil=>exact absurd rfl a3 | cons _ _=>rfl
 have a1:(List.replicate k.toNat J.toArray).foldl (· ++ ·) #[]=(List.replicate k.toNat J).flatten.toArray:=by have:=Oc J k.toNat [];rw[A3H] at this;exact this
 have a2:(List.replicate k.toNat J).flatten.length=J.length*k.toNat:=by rw[Wo,A3W]
 refine wpAny_binaryOp_repeat_ref (T:="tuple") (U:="int") nofun ⟨_,e,rfl⟩ (λs'=>typeIs_int s' k t) Yy F.fills_int_mul F.slot_int_rmul Zg F.slot_int_index.lookup
  (A3R F.slot_int_rmul (typeIs_int s k t) F.entry_int_rmul (F.args_int_rmul_2 _ _) (ao2 k t l J.toArray n Y sl)
   ⟨e,rfl,⟨_,e,rfl⟩,A3R F.slot_tuple_mul ⟨_,e,rfl⟩ F.entry_tuple_mul (F.args_tuple_mul_2 _ _) (aA0 l J.toArray n Y sl k t ?_ ?_ ?_ ?_ ?_ ?_) ⟨e,?_⟩⟩)
 . rw[A0N ∅,A0N ∅];exact A0J
 . rw[a0,A1L.mpr ∅];exact A0J
 . rw[a0,A0N ∅];exact A0J
 . rw[hi];omega
 . rw[hi];unfold Builtin.Tuple.tupleTooMany;rw[decide_eq_false (by rw[sizeLine_eq];omega)];exact Bool.false_ne_true
 . rw[a1,A0R,a2,A1I];omega
 rw[a1];exact⟨.ref _,_,I.laid (t':=s.toks) (o:=.tup (List.replicate k.toNat xs).flatten) (λb ob e=>A02 _ e) (A08 _) ⟨by rw[Wo,A3W,O,A1I];omega,_,r.rep k.toNat,IsTupN.new _ _⟩,rfl,q _ (I.hok.fresh (A08 _))⟩
theorem ak2 (q:X.K=K:=by ac_nf):OpR X (binaryOp .Mult) (aB6 K):=q ▸ aB7
theorem aK8 {l:Addr}{k:Int}{xs:List V}{H:Hp}{Q:VK}(h:SqT K H l xs)(h1:2<=k/\k<=1000)(h2:xs≠[])(q:xs.length<=1000)(c:∀ p H',H p=none->Same H H'->H' p=some (.tup (List.replicate k.toNat xs).flatten)->Q (.ref p) H'):aB6 K (.ref l) (.int k) H Q:=
 ⟨l,k,xs,rfl,rfl,h,h1.1,h1.2,h2,q,λp hp=>c p _ hp (Same.upd hp) Ae⟩
end
end L2
namespace L2
open PySem PySem.Spec PyProof.Rows
section
variable {P:Program} {w:World} {K:W.Frag} {mg:Str->Option Value} {base:Heap} {k:Nat} {f:Addr} {fd:FuncData} {ps:List Str} {sp sp':Sp}
end
theorem Op:∀(k q n:Nat) (ds:List Char),1<=k->n<10 ^ k->(Nat.toDigitsCore 10 q n ds).length<=ds.length+k
 |_,0,n,ds,_,_=>by simp[Nat.toDigitsCore]
 |k,q+1,n,ds,hk,hn=>by
   unfold Nat.toDigitsCore;dsimp only
   split
   . simp;omega
   rename_i h0
   cases k with
   |zero=>omega
   |succ k=>
     have h1:n / 10<10 ^ k:=by rw[Nat.div_lt_iff_lt_mul ∅];rw[Nat.pow_succ] at hn;exact hn
     have F:1<=k:=by
      cases k with
      |zero=>simp at h1;omega
      |succ _=>omega
     have:=Op k q (n / 10) (Nat.digitChar (n % 10) :: ds) F h1;rw[A0G] at this;omega
theorem az5 (s:String):(s:Str).length=s.toList.length:=by show(Str.ofString s).cps.size=_;rw[Str.ofString_eq_byList];unfold Str.ofStringByList;simp
theorem Y8 {n:Nat}(h:n<10 ^ 44):(Nat.repr n).toList.length<=44:=by unfold Nat.repr Nat.toDigits;have:=Op 44 (n+1) n [] ∅ h;simpa using this
theorem a64 {m:Int} (h:m.natAbs<10 ^ 44):(PyData.int m).shown.length<=45:=by
 simp only[PyData.shown];rw[az5]
 cases m with
 |ofNat n=>have:(toString (Int.ofNat n):String)=Nat.repr n:=rfl;rw[this];exact A0O (Y8 h) ∅
 |negSucc n=>
   have:(toString (Int.negSucc n):String) = "-" ++ Nat.repr (n+1):=rfl;rw[this];have h2:=Y8 (n:=n+1) h;rw[String.toList_append,A07];have:("-":String).toList.length=1:=by decide
   omega
theorem aw8 {m:Int}(h:m.natAbs<10 ^ 44):m.natAbs.log2<147:=by
 by_cases q:m.natAbs=0
 . rw[q];decide
 exact(Nat.log2_lt q).mpr (A48 h nofun)
theorem aK2 {p W:Nat}{m:Int}(h:m.natAbs<10 ^ 44):Dk p 150 W (.int m):=by
 have q:=aw8 h;refine⟨by simp only[aL3],by simp only[PyData.canLay0],?_,?_,by simp only[PyData.depth];omega,?_,by simp only[aN1];omega⟩
 . simp only[PyData.showable];exact A0Y ∅
 . simp only[PyData.leavesShort];exact A0Y (a64 h)
 simp only[PyData.weight]
 split<;>omega
section
variable {P:Program}{w:World}{A:Around}{E:Value->Shared->Prop}{z:Shared}
end
section
variable {X:Cx}{K:W.Frag}
end
section
variable {K:W.Frag}{σ:St}{H:Hp}{Q:VK}
end
section
variable {X:Cx}{K:W.Frag}{H:Hp}{Q:VK}
end
section
variable {X:Cx}{K:W.Frag}
end
section
variable {α:Type}[DecidableEq α]
end
section
variable {X:Cx}{pins:List (Addr×Obj)}{σ:List (Option V)}{H:Hp}{s:Shared}{h':Heap}
theorem Inv.nsed {t':Nat}(I:Inv X pins σ H s)(k:∀ b u,b≠X.env.locals->s.heap.get? b=some u->h'.get? b=some u){m:Str->Option Value}(a0:∀(i:Nat) (x:Str) (v:V),X.N[i]? = some x->σ[i]? = some (some v)->Vis X.env.scope x->∃ u,RelV v u/\aR8 X.env s.heap m x u)(a1:h'.Ns X.env.locals m):Inv X pins σ H {s with heap:=h',toks:=t'}:=by
 have U:∀ b o,X.s₀.heap.get? b=some o->b≠X.env.locals:=λb o q e=>by have h1:=A0D q;have h2:=I.ok.above;rw[e] at h1;exact absurd (A18 h1 h2) (A1P _)
 refine⟨I.ok,I.os,I.bare,⟨λb o q n hf F=>k b o (U b o q) (I.base.keep b o q n hf F),λb o q n hf F=>?_,I.base.free,λb o q F=>?_,I.base.tups,I.base.frzs,I.base.tbls⟩,?_,λx c e=>?_,I.free,I.freeC,λp hp=>?_,λa o e=>?_,I.len⟩
 . obtain⟨sl,e⟩:=I.base.slot b o q n hf F;exact⟨sl,k b _ (U b o q) e⟩
 . obtain⟨o',e⟩:=I.base.there b o q F;exact⟨o',k b _ (U b o q) e⟩
 . refine⟨m,a1,λi x v a b c=>?_⟩;obtain⟨u,r,l⟩:=a0 i x v a b c;refine⟨u,r,?_⟩;rcases l with l|⟨l1,c,Z,l3⟩
   . exact .inl l
   obtain⟨o,J,O⟩:=l3;exact .inr ⟨l1,c,Z,o,k c o (I.cne x c Z) J,O⟩
 . obtain⟨v,o,J,O⟩:=I.cell x c e;exact⟨v,o,k c o (I.cne x c e) J,O⟩
 . obtain⟨h1,h2,Y,h4,h5⟩:=I.pin p hp;exact⟨k _ _ Y h1,h2,Y,h4,h5⟩
 refine(I.hok a o e).stay (λb u hb q=>k b u (λz=>?_) q) (λ_ q=>q) λ_ _ q=>q;have:=I.free;rcases hb with rfl|hb
 . rw[z] at e;rw[e] at this
   cases this
 rw [z,this] at hb
 cases hb
theorem Ma {g h:Heap}{L:Addr}(hb:∀ b o,g.get? b=some o->h.get? b=some o)(q:∀ b o,g.get? b=some o->h'.get? b=some o){more:List (Addr×Obj)}(N:News g L h' (Ha g h L++more)):∀ b u,b≠L->h.get? b=some u->h'.get? b=some u:=λb u n e=>by
 cases hc:g.get? b with
 |some o=>
   have:=hb b o hc;rw[e] at this
   cases this;exact q b u hc
 |none=>exact(N (b,u) (A0M _ (W4 n hc e))).1
variable {K:W.Frag}
end
section
variable {α:Type}[DecidableEq α]
end
section
variable {α:Type}[DecidableEq α]
variable {β:Type}[DecidableEq β]
end
section
variable {X:Cx}{k:Nat}{x:Str}{ps:List Str}{sp:Sp}{e:Expr}{es:List Expr}{t:TA}{p pos:Pos}{E:St->XK}
end
section
variable {X:Cx}{pins:List (Addr×Obj)}
end
section
variable {α:Type}[DecidableEq α]
end
theorem Pf {ps qs:List (Str×Str)}{x y:Str}(h:Way ps x y↔Way qs x y):Aa ps x y=Aa qs x y:=af2 (by rw[wayB_iff];exact h)
section
variable {ns ns':List Str}{ps ps':List (Str×Str)}
theorem HalfW.ba10 (h:HalfW ns ps)(q:ns.length<=10):HalfW ns (baP ns ps)/\(baP ns ps).length<=60/\∀ x y,Way (baP ns ps) x y↔Way ps x y:=⟨aC5 h q,A0O (aq4 h q) nofun,λ_ _=>ao4 h.mem h.irr⟩
variable {qs:List (Str×Str)}
end
section
variable {M:Model}{A:Around}{E:Value->Shared->Prop}{s:Shared}{base:Heap}{env:Env}{outer:List Env}{L a:Addr}{oe:Obj}{vs:Array Value}{Q:Unit->Shared->Prop}
end
section
variable {P:Program}{w:World}{fs:List Addr}{a C:Addr}{od:Option Addr}{oe:Obj}{old:List Addr}{h h':Heap}{H:Hp}{n:Bool}
end
section
variable {P:Program}{w:World}{K:W.Frag}{mg:Str->Option Value}{base:Heap}{N:List Str}{qual:Str}{scope:Scope}{f:Addr}{cd:Value}{A:Around}{outer:List Env}{s₀:Shared}{H₀:Hp}{E:XK}
end
section
variable {X:Cx}{scope:Scope}{xs fr:List Str}{pins:List (Addr×Obj)}{σ:St}{H:Hp}{s:Shared}{js:List Nat}{fp:List Addr}
end
section
variable {X:Cx}{k:Nat}{C:Addr}{m:Str}{ps:List Str}{sp:Sp}{e o:Expr}{es:List Expr}{ta:TE}{t:TA}{p pos apos:Pos}{E:XK}
end
section
variable {σ:St}{H:Hp}{Q:VK}{C:Addr}{m:Str}{sp:Sp}{ta:TE}{t:TA}{E:XK}
end
section
variable {P:Program}{w:World}{K:W.Frag}{mg:Str->Option Value}{base:Heap}
end
section
variable {X:Cx}{k:Nat}{x:Str}{ps:List Str}{sp:Sp}{e:Expr}{es:List Expr}{t:TA}{p pos:Pos}
end
section
variable {X:Cx}
end
section
variable {α:Type}[DecidableEq α]{b:α->α->Bool}
def Grow (b:α->α->Bool)(R:List α->Prop):List (List α)->List (List α)->Prop
 |_,[]=>True
 |T,M :: B=>(∀ x∈frF b M,Ai M x∈T)/\(R M\/∃ N∈B,∃ x∈frF b N,M=Ai N x)/\Grow b R (T++[M]) B
theorem Grow.mono {R R':List α->Prop}(h:∀ M,R M->R' M):∀ {T A:List (List α)},Grow b R T A->Grow b R' T A
 |_,[],_=>trivial
 |T,M :: B,⟨h1,h2,h3⟩=>⟨h1,h2.imp (h M) id,Grow.mono h h3⟩
theorem Grow.app {R:List α->Prop}:∀ {T A B:List (List α)},Grow b R T A->Grow b R (T++A) B->Grow b R T (A++B)
 |T,[],B,_,h=>by simpa using h
 |T,M :: A,B,⟨h1,h2,h3⟩,h=>⟨h1,h2.imp id (λ⟨N,q,r⟩=>⟨N,List.mem_append_left _ q,r⟩),Grow.app h3 (by simpa using h)⟩
theorem Grow.close {L:List α}:∀ {T A:List (List α)},Grow b (λM=>∃ x∈frF b L,M=Ai L x) T A->(∀ x∈frF b L,Ai L x∈T++A)->Grow b (· = L) T (A++[L])
 |T,[],_,h=>⟨by simpa using h,.inl rfl,trivial⟩
 |T,M :: A,⟨h1,h2,h3⟩,h=>⟨h1,.inr (by
   rcases h2 with ⟨x,F,e⟩|⟨N,q,r⟩
   . exact⟨L,by simp,x,F,e⟩
   exact⟨N,List.mem_append_left _ q,r⟩),Grow.close h3 (by simpa using h)⟩
theorem Grow.at {R:List α->Prop}:∀ {T A D:List (List α)} {M:List α},Grow b R T (A++M :: D)->(∀ x∈frF b M,Ai M x∈T++A)/\(R M\/∃ N∈D,∃ x∈frF b N,M=Ai N x)
 |T,[],D,M,⟨h1,h2,h3⟩=>⟨by simpa using h1,h2⟩
 |T,N :: A,D,M,⟨h1,h2,h3⟩=>by have:=Grow.at (T:=T++[N]) (A:=A) h3;simpa using this
end
def ind (L:List Str):List Str->Nat:=λM=>if M=L then 1 else 0
theorem Ry {ns:List Str}{p q:Str->Bool}(h:ns.filter p=ns.filter q):B1 ns p=B1 ns q:=Lo λx F=>by
 have h1:x∈ns.filter p↔x∈ns.filter q:=by rw[h]
 rw[A0L,A0L] at h1
 cases hp:p x<;>cases hq:q x<;>simp_all
theorem Pg {ns:List Str}{p q:Str->Bool}(h:B1 ns p=B1 ns q):ns.filter p=ns.filter q:=A1J λx F=>L4 h x F
theorem Zl {ns:List Str}{F G:List Str->Nat}{ct:List ((Str->Bool)×Nat)}(h:∀ e∈ct,F (ns.filter e.1)=G (ns.filter e.1)):Hx ns F ct=Hx ns G ct:=by unfold Hx;congr 1;exact A0W λe he=>by rw[h e he]
def Hm (ns:List Str)(ct:List ((Str->Bool)×Nat)):List (List Str):=ct.map λe=>ns.filter e.1
theorem com_keys {ns:List Str}{ct:List ((Str->Bool)×Nat)}{q:Str->Bool}:(Sum.inl ((B1 ns q:Nat):Int):Key)∈(Ix ns ct).map (·.1)↔ns.filter q∈Hm ns ct:=by
 unfold Ix Hm;rw[A1A,A0E,A0E];constructor
 . rintro⟨e,he,h⟩;refine⟨e,he,Pg ?_⟩;have:=A38 h;omega
 rintro ⟨e,he,h⟩;exact⟨e,he,by show(Sum.inl ((B1 ns e.1:Nat):Int):Key)=_;rw[Ry h]⟩
theorem X8 {ns:List Str}{L:List Str}:∀ {ct:List ((Str->Bool)×Nat)},L∉Hm ns ct->Hx ns (ind L) ct=0
 | [],_=>rfl
 |e :: r,h=>by have h:L∉(ns.filter e.1) :: Hm ns r:=h;rw[A0A,not_or] at h;rw[C6,X8 h.2];unfold ind;rw[A0Q (λz=>h.1 z.symm)];rfl
theorem W1 {ns:List Str}{q:Str->Bool}:∀ {ct:List ((Str->Bool)×Nat)},Se ns ct->ns.filter q∈Hm ns ct->Cj (Ix ns ct) (Sum.inl ((B1 ns q:Nat):Int):Key)=some (.int ((Hx ns (ind (ns.filter q)) ct:Nat):Int))
 | [],_,h=>by cases h
 |e :: r,hO,h=>by
   have F:((Sum.inl ((B1 ns e.1:Nat):Int):Key) :: (Ix ns r).map (·.1)).Nodup:=hO;obtain⟨h1,h2⟩:=A0V.mp F;have J:ns.filter e.1∉Hm ns r:=λz=>h1 (com_keys.mpr z);have h:ns.filter q∈(ns.filter e.1) :: Hm ns r:=h
   by_cases c:ns.filter e.1=ns.filter q
   . show Cj ((Sum.inl ((B1 ns e.1:Nat):Int),V.int ((e.2:Nat):Int)) :: Ix ns r) _=_;rw[Be (by rw[Ry c]),C6,X8 (c ▸ J)];unfold ind;rw[A0Z c,Nat.mul_one,Nat.add_zero]
   rcases A0A.mp h with h|h
   . exact absurd h.symm c
   have O:¬ (Sum.inl ((B1 ns e.1:Nat):Int):Key)=Sum.inl ((B1 ns q:Nat):Int):=λz=>c (Pg (by have:=A38 z;omega));show Cj ((Sum.inl ((B1 ns e.1:Nat):Int),V.int ((e.2:Nat):Int)) :: Ix ns r) _=_;rw[Ba O,W1 h2 h,C6];unfold ind;rw[A0Q c,Nat.mul_zero,Nat.zero_add]
theorem a01 {ns:List Str}{F F':List Str->Nat}{L:List Str}(h:∀ M,M≠L->F M=F' M)(ct:List ((Str->Bool)×Nat)):Hx ns F ct+Hx ns (ind L) ct*F' L=Hx ns F' ct+Hx ns (ind L) ct*F L:=by
 induction ct with
 |nil=>simp[Hx]
 |cons e r ih=>
   rw[C6,C6,C6,A3T,A3T]
   by_cases c:ns.filter e.1=L
   . rw[c];unfold ind at ih ⊢;rw[A0Z rfl,Nat.mul_one];omega
   rw[h _ c];unfold ind at ih ⊢;rw[A0Q c,Nat.mul_zero,Nat.zero_mul,Nat.zero_mul];omega
theorem Kk {β:Type}(f g:β->Nat):∀ l:List β,(l.map λx=>f x+g x).sum=(l.map f).sum+(l.map g).sum
 | []=>rfl
 |x :: r=>by rw[A0H,A1H,Kk f g r,A0H,A1H,A0H,A1H];omega
theorem a86 {β:Type}(f:β->Nat)(c:Nat):∀ l:List β,(l.map λx=>c*f x).sum=c*(l.map f).sum
 | []=>rfl
 |x :: r=>by rw[A0H,A1H,a86 f c r,A0H,A1H,Nat.mul_add]
theorem a03 {L:List Str}{F:List Str->Nat}:∀ {all:List (List Str)},all.Nodup->L∈all->(all.map λM=>ind M L*F M).sum=F L
 | [],_,h=>by cases h
 |M :: r,hn,h=>by
   obtain⟨h1,h2⟩:=A0V.mp hn;rw[A0H,A1H]
   by_cases c:L=M
   . subst c
     have:(r.map λM=>ind M L*F M).sum=0:=by
      rw[show(r.map λM=>ind M L*F M)=r.map λ_=>0 from A0W λM q=>by unfold ind;rw[A0Q (λz:L=M=>h1 (z ▸ q)),Nat.zero_mul]]
      clear h h1 h2 hn
      induction r with
      |nil=>rfl
      |cons x r ih=>simpa using ih
     rw[this];unfold ind;rw[A0Z rfl];omega
   rcases A0A.mp h with h|h
   . exact absurd h c
   rw[a03 h2 h];unfold ind;rw[A0Q c];omega
theorem Xy {ns:List Str}{F:List Str->Nat}{all:List (List Str)}(hn:all.Nodup):∀ {ct:List ((Str->Bool)×Nat)},(∀ L∈Hm ns ct,L∈all)->(all.map λL=>Hx ns (ind L) ct*F L).sum=Hx ns F ct
 | [],h=>by
   show(all.map λL=>0*F L).sum=0;clear hn h
   induction all with
   |nil=>rfl
   |cons x r ih=>rw[A0H,A1H,ih,Nat.zero_mul]
 |e :: r,h=>by have h1:ns.filter e.1∈all:=h _ (A0B ..);rw[C6,<- Xy hn (ct:=r) (λL q=>h L (A09 _ q)),<- a03 hn h1 (F:=F)];rw[<- a86,<- Kk];congr 1;refine A0W λL _=>?_;rw[C6,A3T,Nat.mul_assoc]
def Kj (D:List (List Str))(W loc:List Str->Nat):List Str->Nat:=λL=>if L∈D then loc L else W L
def Rec (b:Str->Str->Bool)(W loc:List Str->Nat):Prop:=∀ L,L.Nodup->W L=loc L+((frF b L).map λx=>W (Ai L x)).sum
theorem tele {b:Str->Str->Bool}{ns:List Str}{W loc:List Str->Nat}{D:List (List Str)}{M:List Str}{ct q:List ((Str->Bool)×Nat)}{w:Nat}(hR:Rec b W loc)(Z:M.Nodup)(Y:M∉D)(hn:∀ x∈frF b M,Ai M x∉M :: D)(J:Hx ns (Kj D W loc) ct=w)
  (h:∀ F,Hx ns F q=Hx ns F ct+Hx ns (ind M) ct*((frF b M).map λx=>F (Ai M x)).sum):Hx ns (Kj (M :: D) W loc) q=w:=by
 rw[h]
 have h1:((frF b M).map λx=>Kj (M :: D) W loc (Ai M x))=(frF b M).map λx=>W (Ai M x):=A0W λx hx=>by unfold Kj;rw[A0Q (hn x hx)]
 rw[h1]
 have h2:=a01 (ns:=ns) (F:=Kj D W loc) (F':=Kj (M :: D) W loc) (L:=M) (λN hN=>by
  unfold Kj
  by_cases c:N∈D
  . rw[A0Z c,A0Z (A09 _ c)]
  rw[A0Q c,A0Q (λz=>by rcases A0A.mp z with z|z;exact hN z;exact c z)]) ct
 have O:Kj (M :: D) W loc M=loc M:=by unfold Kj;rw[if_pos (List.mem_cons_self ..)]
 have U:Kj D W loc M=W M:=by unfold Kj;rw[if_neg Y]
 rw[O,U,hR M Z,Nat.mul_add,J] at h2;omega
theorem Wq {a x:Str}{r:List Str}(h:a≠x):(a :: r).idxOf x=r.idxOf x+1:=by
 rw[List.idxOf_cons];have:(a==x)=false:=by simpa using h
 rw[this];rfl
def ahN (b:Str->Str->Bool)(x y:Str)(L:List Str):Nat:=if x∈L/\y∈L then((ext b L.length L).filter λr=>decide (r.idxOf x<r.idxOf y)).length else 0
def ao3 (b:Str->Str->Bool)(x y:Str)(L:List Str):Nat:=if x∈frF b L/\y∈Ai L x then cnt b (Ai L x) else 0
theorem Uo {α β:Type}(f:α->List β):∀ l:List α,(l.flatMap f).length=(l.map λx=>(f x).length).sum
 | []=>rfl
 |x :: r=>by rw[A1Q,A07,Uo f r,A0H,A1H]
theorem Xx {α β:Type}(f:α->List β)(p:β->Bool):∀ l:List α,(l.flatMap f).filter p=l.flatMap λx=>(f x).filter p
 | []=>rfl
 |x :: r=>by rw[A1Q,A1X,Xx f p r,A1Q]
theorem W5 {α:Type}{p:α->Bool}{l:List α}(h:∀ x∈l,p x=true):(l.filter p).length=l.length:=by rw[A3A.mpr h]
theorem M5 {α:Type}{p:α->Bool}{l:List α}(h:∀ x∈l,p x=false):(l.filter p).length=0:=by rw[A4L.mpr λx q=>by rw[h x q];decide];rfl
theorem aD0 {b:Str->Str->Bool}{x y:Str}{L:List Str}(hn:L.Nodup)(c:Nat):((frF b L).map λz=>if z=x then c else 0).sum=if x∈frF b L then c else 0:=by
 have J:(frF b L).Nodup:=A24 A1U hn;generalize frF b L=l at J ⊢
 induction l with
 |nil=>rfl
 |cons z r ih=>
   obtain⟨h1,h2⟩:=A0V.mp J;rw[A0H,A1H,ih h2]
   by_cases F:z=x
   . subst F;rw[A0Z rfl,A0Q h1,A0Z (A0B ..)];rfl
   rw[A0Q F,Nat.zero_add]
   by_cases q:x∈r
   . rw[A0Z q,A0Z (A09 _ q)]
   rw[A0Q q,A0Q (λz=>by rcases A0A.mp z with z|z;exact F z.symm;exact q z)]
theorem aL0 {b:Str->Str->Bool}{x y:Str}(Y:x≠y):Rec b (ahN b x y) (ao3 b x y):=λL hn=>by
 by_cases hm:x∈L/\y∈L
 . have a1:L≠[]:=λz=>by rw[z] at hm;cases hm.1
   obtain⟨n,hl⟩:∃ n,L.length=n+1:=⟨L.length-1,by have:=A52.mpr a1;omega⟩
   have h1:ahN b x y L=((frF b L).map λz=>(if z=x then cnt b (Ai L x) else 0)+ahN b x y (Ai L z)).sum:=by
    unfold ahN;rw[A0Z hm,hl];show(((frF b L).flatMap λz=>(ext b n (Ai L z)).map (z :: ·)).filter _).length=_;rw[Xx,Uo];congr 1;refine A0W λz hz=>?_;have a2:=(mem_frF.mp hz).1;have U:(Ai L z).length=n:=by have:=Bb hn a2;omega
    have a0:∀ r∈ext b n (Ai L z),r.Perm (Ai L z):=λr F=>((Cr b n (Ai L z) r (B7 hn z) U).mp F).1;rw[List.filter_map,A01]
    by_cases J:z=x
    . subst J;rw[A0Z rfl,A0Q (λq=>(mem_lessF.mp q.1).2 rfl),Nat.add_zero,W5]
      . unfold cnt;rw[U]
      intro r F;have hy:y∈r:=(a0 r F).mem_iff.mpr (mem_lessF.mpr ⟨hm.2,Y.symm⟩);refine A0Y ?_;show(z :: r).idxOf z<(z :: r).idxOf y;rw[List.idxOf_cons_self,Wq Y];omega
    rw[A0Q J,Nat.zero_add]
    by_cases O:z=y
    . subst O;rw[A0Q (λq=>(mem_lessF.mp q.2).2 rfl),M5];intro r F;refine A0N ?_;show ¬ (z :: r).idxOf x<(z :: r).idxOf z;rw[List.idxOf_cons_self];omega
    rw[A0Z ⟨mem_lessF.mpr ⟨hm.1,λq=>J q.symm⟩,mem_lessF.mpr ⟨hm.2,λq=>O q.symm⟩⟩,U];congr 1;refine A1J λr F=>?_;show decide ((z :: r).idxOf x<(z :: r).idxOf y)=_;rw[Wq J,Wq O]
    by_cases q:r.idxOf x<r.idxOf y
    . rw[A0Y q,A0Y ∅]
    rw[A0N q,A0N ∅]
   rw[h1,Kk,aD0 (y:=y) hn];congr 1;unfold ao3
   by_cases c:x∈frF b L
   . rw[A0Z c,A0Z ⟨c,mem_lessF.mpr ⟨hm.2,Y.symm⟩⟩]
   rw[A0Q c,A0Q (λq=>c q.1)]
 have h1:ahN b x y L=0:=by unfold ahN;rw[if_neg hm]
 have h2:ao3 b x y L=0:=by unfold ao3;rw[A0Q (λq=>hm ⟨(mem_frF.mp q.1).1,(mem_lessF.mp q.2).1⟩)]
 have Z:((frF b L).map λz=>ahN b x y (Ai L z))=(frF b L).map λ_=>0:=A0W λz _=>by unfold ahN;rw[A0Q (λq=>hm ⟨(mem_lessF.mp q.1).1,(mem_lessF.mp q.2).1⟩)]
 rw[h1,h2,Z];generalize frF b L=l
 induction l with
 |nil=>rfl
 |cons z r ih=>simpa using ih
def knK (ns:List Str)(ps:List (Str×Str))(qs:List (Str->Bool)):List (Key×V):=qs.map λq=>((Sum.inl ((B1 ns q:Nat):Int):Key),V.int ((cnt (Aa ps) (ns.filter q):Nat):Int))
def Bu (ns:List Str)(qs:List (Str->Bool)):List (List Str):=qs.map λq=>ns.filter q
theorem Cp (ns:List Str)(a b:List (Str->Bool)):Bu ns (a++b)=Bu ns a++Bu ns b:=A13
theorem ap9 {ns:List Str}{ps:List (Str×Str)}{qs:List (Str->Bool)}{q:Str->Bool}{v:V}(h:Cj (knK ns ps qs) (Sum.inl ((B1 ns q:Nat):Int):Key)=some v):ns.filter q∈Bu ns qs:=by obtain⟨e,he,h1⟩:=A0E.mp (Rl h);refine A0E.mpr ⟨e,he,Pg ?_⟩;have:=A38 (Prod.mk.inj h1).1;omega
theorem av5 {ns:List Str}{ps:List (Str×Str)}{qs:List (Str->Bool)}{q:Str->Bool}(h:ns.filter q∉Bu ns qs):Cj (knK ns ps qs) (Sum.inl ((B1 ns q:Nat):Int):Key)=none:=by
 cases e:Cj (knK ns ps qs) (Sum.inl ((B1 ns q:Nat):Int):Key) with
 |none=>rfl
 |some v=>exact absurd (ap9 e) h
theorem aH6 {ns:List Str}{ps:List (Str×Str)}{qs:List (Str->Bool)}{q:Str->Bool}(h:ns.filter q∉Bu ns qs):G3 (knK ns ps qs) (Sum.inl ((B1 ns q:Nat):Int)) (.int ((cnt (Aa ps) (ns.filter q):Nat):Int))=knK ns ps (qs++[q]):=by rw[Jl _ (av5 h)];unfold knK;rw[A13];rfl
theorem a71 (ns:List Str)(ps:List (Str×Str)):([(Sum.inl 0,V.int 1)]:List (Key×V))=knK ns ps [λ_=>false]:=by unfold knK;rw [List.map_cons,List.map_nil,binM_zero.mpr λ_ _=>rfl,List.filter_eq_nil_iff.mpr (by simp)];rfl
theorem Yf {ns:List Str}{ps:List (Str×Str)}:∀ {qs:List (Str->Bool)} {q:Str->Bool},ns.filter q∈Bu ns qs->Cj (knK ns ps qs) (Sum.inl ((B1 ns q:Nat):Int):Key)=some (.int ((cnt (Aa ps) (ns.filter q):Nat):Int))
 | [],_,h=>by cases h
 |e :: r,q,h=>by
   show Cj ((Sum.inl ((B1 ns e:Nat):Int),V.int ((cnt (Aa ps) (ns.filter e):Nat):Int)) :: knK ns ps r) _=_
   by_cases c:ns.filter e=ns.filter q
   . rw[Be (by rw[Ry c]),c]
   have F:¬ (Sum.inl ((B1 ns e:Nat):Int):Key)=Sum.inl ((B1 ns q:Nat):Int):=λz=>c (Pg (by have:=A38 z;omega));rw[Ba F];rcases A0A.mp (show ns.filter q∈ns.filter e :: Bu ns r from h) with z|z
   . exact absurd z.symm c
   exact Yf z
theorem Knw.tt {ns:List Str}{ps:List (Str×Str)}{qs:List (Str->Bool)}(h:Knw ns ps (knK ns ps qs)):(Bu ns qs).Nodup:=by have h1:=h.1;unfold knK at h1;rw[A1A] at h1;unfold Bu;unfold List.Nodup at h1 ⊢;rw[List.pairwise_map] at h1 ⊢;exact h1.imp fun {a b} q z=>q (by show(Sum.inl ((B1 ns a:Nat):Int):Key)=Sum.inl ((B1 ns b:Nat):Int);rw[Ry z])
def Gr (ns:List Str)(ps:List (Str×Str))(qs F:List (Str->Bool))(q:Str->Bool):Prop:=∃ new,F=qs++new/\Grow (Aa ps) (· = ns.filter q) (Bu ns qs) (Bu ns new)/\(∀ M∈Bu ns new,M.length<=(ns.filter q).length)/\ns.filter q∈Bu ns F
def GrC (ns:List Str)(ps:List (Str×Str))(qs q:List (Str->Bool))(L:List Str)(i:Nat):Prop:=∃ new,q=qs++new/\Grow (Aa ps) (λM=>∃ x∈frF (Aa ps) L,M=Ai L x) (Bu ns qs) (Bu ns new)/\(∀ M∈Bu ns new,M.length<L.length)/\∀ x∈(frF (Aa ps) L).take i,Ai L x∈Bu ns q
theorem GrC.zero (ns:List Str)(ps:List (Str×Str))(qs:List (Str->Bool))(L:List Str):GrC ns ps qs qs L 0:=⟨[],by simp,trivial,λM q=>(by cases q),λx F=>(by cases F)⟩
theorem GrC.step {ns:List Str}{ps:List (Str×Str)}{qs a0 a1:List (Str->Bool)}{L:List Str}{i:Nat}{z:Str}{q:Str->Bool}(hL:L.Nodup)(h:GrC ns ps qs a0 L i)(hz:(frF (Aa ps) L)[i]? = some z)(hq:ns.filter q=Ai L z)(g:Gr ns ps a0 a1 q):GrC ns ps qs a1 L (i+1):=by
 obtain⟨n1,rfl,h1,h2,h3⟩:=h;obtain⟨n2,rfl,O,U,Y⟩:=g;have Z:=A03 hz;have a2:=Bb hL (mem_frF.mp Z).1;rw[hq] at O U Y;refine⟨n1++n2,by rw[A1Z],?_,λM F=>?_,λx J=>?_⟩
 . rw[Cp];rw[Cp] at O;exact h1.app (O.mono λM F=>⟨z,Z,F⟩)
 . rw[Cp] at F;rcases A0C.mp F with F|F
   . exact h2 M F
   have:=U M F;omega
 rw[A0S,hz] at J;rcases A0C.mp J with J|J
 . rw[Cp];exact A0M _ (h3 x J)
 have:x=z:=by simpa using J
 rw[this];exact Y
theorem GrC.no {ns:List Str}{ps:List (Str×Str)}{qs F:List (Str->Bool)}{q:Str->Bool}{i:Nat}(h:GrC ns ps qs F (ns.filter q) i)(J:ns.filter q∉Bu ns qs):ns.filter q∉Bu ns F:=by
 obtain⟨U,rfl,h1,h2,O⟩:=h;intro z;rw[Cp] at z;rcases A0C.mp z with z|z
 . exact J z
 have:=h2 _ z;omega
theorem GrC.close {ns:List Str}{ps:List (Str×Str)}{qs O:List (Str->Bool)}{q:Str->Bool}(h:GrC ns ps qs O (ns.filter q) (frF (Aa ps) (ns.filter q)).length):Gr ns ps qs (O++[q]) q:=by
 obtain⟨Y,rfl,h1,h2,J⟩:=h;rw[A0U] at J;refine⟨Y++[q],by rw[A1Z],?_,λM F=>?_,?_⟩
 . rw[Cp];exact h1.close λx U=>by rw[<- Cp];exact J x U
 . rw[Cp] at F;rcases A0C.mp F with F|F
   . exact A2E (h2 M F)
   have:M=ns.filter q:=by simpa[Bu] using F
   rw[this];exact A08 _
 rw[Cp];exact List.mem_append_right _ (by simp[Bu])
structure WaysB (K:W.Frag)(C:Addr)(H:Hp)(p dx:Addr)(nv:V)(bd ad kd:Addr)(ns:List Str)(ps:List (Str×Str)):Prop where
 ob:H p=some (.ins C dx [("names",nv),("bits",.ref bd),("ahead",.ref ad),("full",.int ((B1 ns (λ_=>true):Nat):Int)),("known",.ref kd)])
 nm:Is K H (nmD ns) nv
 bt:H bd=some (.dK (av2 ns))
 ah:H ad=some (.dK (ahK ns ps))
theorem WaysAt.b {K:W.Frag}{C:Addr}{H:Hp}{p dx:Addr}{nv:V}{bd ad kd:Addr}{ns:List Str}{ps:List (Str×Str)}{kvs:List (Key×V)}(h:WaysAt K C H p dx nv bd ad kd ns ps kvs):WaysB K C H p dx nv bd ad kd ns ps:=⟨h.ob,h.nm,h.bt,h.ah⟩
theorem WaysB.of {K:W.Frag}{C:Addr}{H H':Hp}{p dx:Addr}{nv:V}{bd ad kd:Addr}{ns:List Str}{ps:List (Str×Str)}(h:WaysB K C H p dx nv bd ad kd ns ps)(f:Fz H H')(e:∀ b o,b=p\/b=bd\/b=ad->H b=some o->H' b=some o):WaysB K C H' p dx nv bd ad kd ns ps:=⟨e _ _ (.inl rfl) h.ob,h.nm.nm_fz f,e _ _ (.inr (.inl rfl)) h.bt,e _ _ (.inr (.inr rfl)) h.ah⟩
theorem WaysB.same {K:W.Frag}{C:Addr}{H H':Hp}{p dx:Addr}{nv:V}{bd ad kd:Addr}{ns:List Str}{ps:List (Str×Str)}(h:WaysB K C H p dx nv bd ad kd ns ps)(e:Same H H'):WaysB K C H' p dx nv bd ad kd ns ps:=h.of e.fz λb o _=>e b o
def aQ9 (K:W.Frag)(a:Addr)(n:Nat):It:=
 ⟨λi H=>i<n/\∃ xs,SqL K H a xs/\xs.length=n,λi H v H'=>H'=H/\∀ xs,SqL K H a xs->xs[n-1-i]? = some v,λi H=>n<=i⟩
theorem Zu {P:Program}{w:World}{K:W.Frag}{tg:Expr}(a it:Addr)(n:Nat)(a4:a≠it):a55 P w K tg (aQ9 K a n) [it] it (λi h=>i<=n/\h.IsRevIter it a ((n:Int)-1-(i:Int))) where
 mem:=by simp
 obj:=λi h st b hb=>by
  have q:b=it:=by simpa using hb
  subst q;obtain⟨_,o,h2,h3,h4⟩:=st;exact⟨o,h2,λv z=>by rw[h4] at z;cases z⟩
 keep:=λi h h' st k=>⟨st.1,st.2.at λo q=>k it (by simp) o q⟩
 item:=by
  intro X hP hw hK hc i pins s σ H E I hf st hg;subst hP hw hK;obtain⟨a2,xs,hq,a5⟩:=hg;obtain⟨a6,rv,p,hz⟩:=I.list hq;have hl:=rv.length;have hn:=Nc;obtain⟨J,O,f2,U,Y,Z⟩:=hf it (by simp);have e:(n:Int)-1-(i:Int)=((n-1-i:Nat):Int):=by omega
  have F:=st.2;rw[e] at F;obtain⟨x,hx⟩:∃ x,xs[n-1-i]? = some x:=⟨xs[n-1-i]'∅,A04 _⟩;obtain⟨u,hu,ru⟩:=rv.get hx;refine wpAny_pyNext_rev_item F p.isList (x:=u) (by rw[A2Y];exact hu) λh' a0 a3=>?_;have I1:Inv X pins σ H {s with heap:=h'}:=I.turned (t':=s.toks) (λb o hb e=>a3.extBut b o (by simpa using hb) e) J O U Y Z
  obtain⟨o,q1,q2,q3⟩:=id a0;have e2:((n-1-i:Nat):Int)-1=(n:Int)-1-((i+1:Nat):Int):=by omega
  rw[e2] at a0;refine⟨u,rfl,Zk (s:={s with heap:=h'}) q1 q2 q3 (by decide +kernel) ⟨x,H,I1,ru,⟨rfl,λys hy=>by rw[I.list_inj hy hq];exact hx⟩,⟨a2,a0⟩,λb hb=>(hf b hb).1⟩⟩
 done:=by intro X hP hw hK hc i pins s σ H E I hf st hg;subst hP hw hK;obtain⟨J,O,f2,U,Y,Z⟩:=hf it (by simp);have a1:n<=i:=hg;have hi:i=n:=Nat.le_antisymm st.1 a1;subst hi;have F:=st.2;rw[show(i:Int)-1-(i:Int) = -1 by omega] at F;refine wpAny_pyNext_rev_end (by simpa using I.ok.hd hc) F λh' hk=>⟨rfl,I.turned (t':=s.toks) (λb o hb e=>hk b o (by simpa using hb) e) J O U Y Z⟩
 self:=by intro A i s Q E st hQ;exact wpAny_pyIter_revIter st.2 hQ
section
variable {X:Cx}{K:W.Frag}
def az8 (K:W.Frag)(vs:List V)(H:Hp)(R:It->Hp->Prop):Prop:=∃ a xs,vs=[.ref a]/\SqL K H a xs/\R (aQ9 K a xs.length) H
def aG2 (K:W.Frag)(ta:TA):TI:=fun σ H R=>ta σ H λvs H1=>az8 K vs H1 R
theorem ax1 {e:Expr}{ta:TA}{p pos:Pos}{tg:Expr}(hg:Gl X "reversed")(hm:X.mg "reversed" = none)(ha:PA X [e] ta)(Y:X.K=K:=by ac_nf)(hs:starEach [e] X.env=[(false,eval e X.env)]:=by ac_nf) :
  PI X tg (.Call (.Name "reversed" p) [e] [] pos) (aG2 K ta):=by
 subst Y;intro pins s σ H R I h;refine Call_ (Jz I hg hm boot_reversed (A1W (thn (ha pos pins s σ H _ I h) λus F ⟨vs,H1,J,r1,q1⟩=>?_) hs rfl));obtain⟨a,xs,rfl,hq,q⟩:=q1;obtain⟨u,rfl,ru⟩:=Vals.one r1
 cases ru;obtain⟨a0,rv,U,hz⟩:=J.list hq;have Z:a<F.heap.objs.size:=let ⟨_,q,_⟩:=U.isList;A0D q;have hl:=rv.length;have hn:=Nc;refine call_reversed_list U.isList ?_;have O:(F.heap.push (revObj a ((a0.toArray.size:Int)-1))).IsRevIter F.heap.objs.size a ((xs.length:Int)-1-((0:Nat):Int)):=⟨_,Heap.get?_push_size _ rfl,rfl,by rw[List.size_toArray,<- hl];simp[revObj]⟩;refine wpAny_pyIter_revIter O ?_;refine⟨F.heap.objs.size,[F.heap.objs.size],_,_,H1,rfl,J.kept (t':=F.toks) (λb o e=>A02 _ e),Zu a F.heap.objs.size xs.length (A11 Z),⟨A2J _,O⟩,λb hb=>?_,q⟩;have e:b=F.heap.objs.size:=by simpa using hb
 subst e;exact J.fpOk (A08 _) (J.hok.fresh (A08 _))
end
section
variable {K:W.Frag}{σ:St}{H:Hp}
theorem ay8 {q:TA}{R:It->Hp->Prop}(k:q σ H λvs H1=>az8 K vs H1 R):aG2 K q σ H R:=k
theorem a60 {a:Addr}{xs:List V}:Hu (aQ9 K a xs.length) xs.reverse λH=>SqL K H a xs:=by intro i H g;rw[A50];refine⟨λh=>⟨h,xs,g,rfl⟩,λh=>h,λx H' hi h=>?_⟩;obtain⟨e,h2⟩:=h;refine⟨e,?_⟩;rw[List.getElem?_reverse hi];exact h2 xs g
theorem aM3 {a:Addr}{xs:List V}{R:It->Hp->Prop}(h:SqL K H a xs)(k:R (aQ9 K a xs.length) H):az8 K [.ref a] H R:=⟨a,xs,rfl,h,k⟩
end
theorem ae8 {α:Type}{xs:List α}{i:Nat}{M:α}(h:xs.reverse[i]? = some M):∃ A,xs=A++M :: (xs.reverse.take i).reverse:=by
 obtain⟨hi,q⟩:=A00.mp h;refine⟨(xs.reverse.drop (i+1)).reverse,?_⟩
 have h1:xs.reverse=xs.reverse.take i++M :: xs.reverse.drop (i+1):=by conv=>lhs;rw[<- List.take_append_drop i xs.reverse,List.drop_eq_getElem_cons hi,q]
 have h2:=congrArg List.reverse h1;rw[List.reverse_reverse,List.reverse_append,List.reverse_cons,A1Z] at h2;exact h2
theorem aj5 {α:Type}{xs:List α}{i:Nat}{M:α}(h:xs[i]? = some M):(xs.take (i+1)).reverse=M :: (xs.take i).reverse:=by rw[A0S,h];simp
theorem ax0 (b:Str->Str->Bool):frF b ([]:List Str)=[]:=rfl
theorem aG6 {ns:List Str}{ps:List (Str×Str)}{qs:List (Str->Bool)}{A D:List (List Str)}{M:List Str}(h:Gr ns ps [λ_=>false] qs (λ_=>true))(e:Bu ns qs=A++M :: D) :
  frF (Aa ps) M=[]\/((∀ x∈frF (Aa ps) M,Ai M x∈A)/\(M=ns\/∃ N∈D,∃ x∈frF (Aa ps) N,M=Ai N x)):=by
 obtain⟨new,rfl,h1,h2,Z⟩:=h;have J:Bu ns [λ_=>false]=[[]]:=by unfold Bu;simp
 rw[Cp,J] at e;rw[J] at h1
 cases A with
 |nil=>left;have:([]:List Str)=M:=(A31 e).1;rw[<- this];exact ax0 _
 |cons B A=>
   right
   obtain⟨O,F⟩:=A31 e;subst O;have F:Bu ns new=A++M :: D:=F;rw[F] at h1;obtain⟨U,q⟩:=h1.at;refine⟨λx Y=>by simpa using U x Y,?_⟩;rcases q with q|q
   . left;rw[q];simp
   exact .inr q
structure CmI (ns:List Str)(ps:List (Str×Str))(T D:List (List Str))(ct:List ((Str->Bool)×Nat)):Prop where
 k1:∀ L∈Hm ns ct,L∈T
 k2:ns∈Hm ns ct
 k3:∀ M∈D,∀ x∈frF (Aa ps) M,Ai M x∈Hm ns ct
 sm:∀ W loc,Rec (Aa ps) W loc->Hx ns (Kj D W loc) ct=W ns
theorem CmI.start {ns:List Str}{ps:List (Str×Str)}{T:List (List Str)}(h:ns∈T):CmI ns ps T [] [(λ_=>true,1)]:=by
 have q:ns.filter (λ_=>true)=ns:=by simp
 refine⟨λL F=>?_,?_,λM J=>(by cases J),λW loc _=>?_⟩
 . have:L=ns:=by simpa[Hm,q] using F
   rw[this];exact h
 . rw[show Hm ns [((λ_=>true:Str->Bool),1)]=[ns.filter λ_=>true] from rfl,q];exact A0B ..
 rw[C6];show 1*Kj [] W loc (ns.filter λ_=>true)+0=_;rw[q];unfold Kj;rw[if_neg (by simp)];omega
structure CmJ (ns:List Str)(ps:List (Str×Str))(M:List Str)(m:Nat)(ct1 ct2:List ((Str->Bool)×Nat)):Prop where
 ks:∀ L,L∈Hm ns ct2↔L∈Hm ns ct1\/∃ x∈(frF (Aa ps) M).take m,L=Ai M x
 sm:∀ F,Hx ns F ct2=Hx ns F ct1+Hx ns (ind M) ct1*(((frF (Aa ps) M).take m).map λx=>F (Ai M x)).sum
theorem CmJ.zero (ns:List Str)(ps:List (Str×Str))(M:List Str)(ct:List ((Str->Bool)×Nat)):CmJ ns ps M 0 ct ct:=⟨λL=>by simp,λF=>by simp⟩
theorem aw1 {L:List Str}{x:Str}(h:x∈L):Ai L x≠L:=λz=>by rw[<- z] at h;exact(mem_lessF.mp h).2 rfl
theorem CmJ.same {ns:List Str}{ps:List (Str×Str)}{M:List Str}{m:Nat}{q ct2:List ((Str->Bool)×Nat)}(h:CmJ ns ps M m q ct2):Hx ns (ind M) ct2=Hx ns (ind M) q:=by
 rw[h.sm]
 have:((frF (Aa ps) M).take m).map (λx=>ind M (Ai M x))=((frF (Aa ps) M).take m).map λ_=>0:=A0W λx F=>by unfold ind;rw[A0Q (aw1 (mem_frF.mp ((A4E _ _).subset F)).1)]
 rw[this];generalize (frF (Aa ps) M).take m=l
 have:(l.map λ_=>0).sum=0:=by
  induction l with
  |nil=>rfl
  |cons z r ih=>simpa using ih
 rw[this];omega
theorem CmJ.step {ns:List Str}{ps:List (Str×Str)}{M:List Str}{m:Nat}{a0 ct2 U:List ((Str->Bool)×Nat)}{z:Str}{q:Str->Bool}(h:CmJ ns ps M m a0 ct2)(hz:(frF (Aa ps) M)[m]? = some z)(Z:ns.filter q=Ai M z)
  (Y:∀ k,k∈(Ix ns U).map (·.1)↔k∈(Ix ns ct2).map (·.1)\/k=Sum.inl ((B1 ns q:Nat):Int)) (g5:∀ F,Hx ns F U=Hx ns F ct2+Hx ns (ind M) ct2*F (ns.filter q)):CmJ ns ps M (m+1) a0 U:=by
 refine⟨λL=>?_,λF=>?_⟩
 . have a1:L∈Hm ns U↔L∈Hm ns ct2\/L=Ai M z:=by
    constructor
    . intro O;obtain⟨e,he,rfl⟩:=A0E.mp O;rcases(Y _).mp (com_keys.mpr O) with g|g
      . exact .inl (com_keys.mp g)
      right
      rw[<- Z];exact Pg (by have:=A38 g;omega)
    rintro(O|rfl)
    . obtain⟨e,he,rfl⟩:=A0E.mp O;exact com_keys.mp ((Y _).mpr (.inl (com_keys.mpr O)))
    rw[<- Z];exact com_keys.mp ((Y _).mpr (.inr rfl))
   rw[a1,h.ks,A0S,hz];constructor
   . rintro((a|⟨x,J,e⟩)|e)
     . exact .inl a
     . exact .inr ⟨x,A0M _ J,e⟩
     exact .inr ⟨z,by simp,e⟩
   rintro(a|⟨x,J,e⟩)
   . exact .inl (.inl a)
   rcases A0C.mp J with J|J
   . exact .inl (.inr ⟨x,J,e⟩)
   have:x=z:=by simpa using J
   exact .inr (this ▸ e)
 rw[g5,h.same,h.sm,Z,A0S,hz,A13,List.sum_append,Nat.mul_add];simp;omega
theorem CmI.step {ns:List Str}{ps:List (Str×Str)}{T A D:List (List Str)}{M:List Str}{U ct2:List ((Str->Bool)×Nat)}(h:CmI ns ps T D U)(hT:T=A++M :: D)(hn:T.Nodup)(hM:M.Nodup)(a0:∀ x∈frF (Aa ps) M,Ai M x∈A)(g:CmJ ns ps M (frF (Aa ps) M).length U ct2):CmI ns ps T (M :: D) ct2:=by
 have J:=g.ks;have Y:=g.sm;rw[A0U] at J Y;rw[hT] at hn;obtain⟨n1,n2,n3⟩:=A1E.mp hn;refine⟨λL hL=>?_,(J _).mpr (.inl h.k2),λN O x F=>?_,λW loc Z=>?_⟩
 . rcases(J L).mp hL with q|⟨x,F,rfl⟩
   . exact h.k1 L q
   rw[hT];exact A0M _ (a0 x F)
 . rcases A0A.mp O with rfl|O
   . exact(J _).mpr (.inr ⟨x,F,rfl⟩)
   exact(J _).mpr (.inl (h.k3 N O x F))
 exact tele Z hM (A0V.mp n2).1 (λx F z=>n3 _ (a0 x F) _ z rfl) (h.sm W loc Z) Y
def wof (b:Str->Str->Bool)(loc:List Str->Nat):Nat->List Str->Nat
 |0,L=>loc L
 |n+1,L=>loc L+((frF b L).map λx=>wof b loc n (Ai L x)).sum
theorem az9 {b:Str->Str->Bool}(loc:List Str->Nat):Rec b (λL=>wof b loc L.length L) loc:=λL hn=>by
 show wof b loc L.length L=_
 cases hl:L.length with
 |zero=>have:L=[]:=A17.mp hl;subst this;rfl
 |succ n=>show loc L+_=loc L+_;congr 2;refine A0W λx q=>?_;have:=Bb hn (mem_frF.mp q).1;show _=wof b loc (Ai L x).length (Ai L x);rw[show(Ai L x).length=n by omega]
theorem Li {α:Type}{f:α->Nat}{c:Nat}:∀ {l:List α},(∀ x∈l,f x<=c)->(l.map f).sum<=l.length*c
 | [],_=>by simp
 |x :: r,h=>by have h1:=h x (A0B ..);have h2:=Li (l:=r) λy q=>h y (A09 _ q);rw[A0H,A1H,A0G,A3T];omega
theorem Oi {α:Type}{f:α->Nat}:∀ {l:List α},(∀ x∈l,f x=0)->(l.map f).sum=0
 | [],_=>rfl
 |x :: r,h=>by rw[A0H,A1H,h x (A0B ..),Oi (l:=r) λy q=>h y (A09 _ q)]
theorem ap1 {b:Str->Str->Bool}{q:List Str}:∀(n:Nat) (L:List Str),L.Nodup->L.length=n->wof b (ind q) n L<=fac n/\(n<q.length->wof b (ind q) n L=0)
 |0,L,_,hl=>by
   have:L=[]:=A17.mp hl;subst this;refine⟨?_,λh=>?_⟩
   . show ind q []<=1;unfold ind
     split<;>omega
   show ind q []=0;unfold ind;rw[A0Q (λz:([]:List Str)=q=>by rw[<- z] at h;cases h)]
 |n+1,L,hn,hl=>by
   have sub:∀ x∈frF b L,wof b (ind q) n (Ai L x)<=fac n/\(n<q.length->wof b (ind q) n (Ai L x)=0):=λx F=>ap1 n (Ai L x) (B7 hn x) (by have:=Bb hn (mem_frF.mp F).1;omega)
   have J:(frF b L).length<=n+1:=hl ▸ A0T _ _;refine⟨?_,λh=>?_⟩
   . show ind q L+((frF b L).map λx=>wof b (ind q) n (Ai L x)).sum<=fac (n+1);rw[show fac (n+1)=(n+1)*fac n by simp[fac,Nat.mul_comm]]
     by_cases c:L=q
     . have hz:((frF b L).map λx=>wof b (ind q) n (Ai L x)).sum=0:=Oi λx F=>(sub x F).2 (by rw[<- c,hl];omega);rw[hz]
       have:1<=fac n:=by
        clear hz sub J hl c
        induction n with
        |zero=>exact A08 _
        |succ n ih=>rw[show fac (n+1)=(n+1)*fac n by simp[fac,Nat.mul_comm]];exact Nat.le_trans ih (Nat.le_mul_of_pos_left _ ∅)
       unfold ind;rw[A0Z c];have:=Nat.le_mul_of_pos_left (fac n) (show 0<n+1 by omega);omega
     have h1:=Li λx F=>(sub x F).1;have h2:=A41 (fac n) J;unfold ind at h1 ⊢;rw[A0Q c];omega
   show ind q L+_=0;rw[Oi λx F=>(sub x F).2 ∅];unfold ind;rw[A0Q (λz=>by rw[<- z] at h;omega)]
theorem CmI.sum {ns:List Str}{ps:List (Str×Str)}{T:List (List Str)}{ct:List ((Str->Bool)×Nat)}(h:CmI ns ps T T ct){W loc:List Str->Nat}(q:Rec (Aa ps) W loc):Hx ns loc ct=W ns:=by rw[<- h.sm W loc q];refine Zl λe he=>?_;unfold Kj;rw[A0Z (h.k1 _ (A0E.mpr ⟨e,he,rfl⟩))]
theorem CmI.le {ns:List Str}{ps:List (Str×Str)}{T:List (List Str)}{ct:List ((Str->Bool)×Nat)}(h:CmI ns ps T T ct)(hn:ns.Nodup)(q:ns.length<=10)(L:List Str):Hx ns (ind L) ct<=3628800:=by rw[h.sum (az9 (ind L))];exact A0O (ap1 _ ns hn rfl).1 (A0O (as4 q) nofun)
theorem CmI.share {ns:List Str}{ps:List (Str×Str)}{T:List (List Str)}{ct:List ((Str->Bool)×Nat)}(h:CmI ns ps T T ct)(hn:T.Nodup)(J:HalfW ns ps){x y:Str}(q:x∈ns)(F:y∈ns)(O:x≠y) :
  (T.map λL=>Hx ns (ind L) ct*ao3 (Aa ps) x y L).sum=cnt (Aa (ps++[(x,y)])) ns:=by
 rw[Xy hn h.k1,h.sum (aL0 O),Js J q F];unfold ahN;rw[A0Z ⟨q,F⟩]
def Vz (ns:List Str)(g:Str->Nat):List (Key×V):=ns.map λy=>((Sum.inr y:Key),V.int ((g y:Nat):Int))
structure TabN (H:Hp)(r:Addr)(ns:List Str)(as:List Addr)(f:Str->Str->Nat):Prop where
 len:as.length=ns.length
 nd:as.Nodup
 no:r∉as
 top:H r=some (.dK (Ge ns as))
 row:∀(j:Nat) x a,ns[j]? = some x->as[j]? = some a->H a=some (.dK (Vz ns (f x)))
theorem TabN.of {H H':Hp}{r:Addr}{ns:List Str}{as:List Addr}{f:Str->Str->Nat}(h:TabN H r ns as f)(e:∀ b o,b=r\/b∈as->H b=some o->H' b=some o):TabN H' r ns as f:=
 ⟨h.len,h.nd,h.no,e _ _ (.inl rfl) h.top,λj x a q ha=>e _ _ (.inr (A03 ha)) (h.row j x a q ha)⟩
theorem TabN.same {H H':Hp}{r:Addr}{ns:List Str}{as:List Addr}{f:Str->Str->Nat}(h:TabN H r ns as f)(e:Same H H'):TabN H' r ns as f:=h.of λb o _=>e b o
theorem TabN.at {H:Hp}{r:Addr}{ns:List Str}{as:List Addr}{f:Str->Str->Nat}(h:TabN H r ns as f){x:Str}(J:x∈ns):∃(j:Nat) (a:Addr),ns[j]? = some x/\as[j]? = some a:=by obtain⟨j,q⟩:=A1K.mp J;have F:=(A00.mp q).1;exact⟨j,as[j]'(by rw[h.len];exact F),q,A04 _⟩
theorem am9 {ns:List Str}(hn:ns.Nodup){g:Str->Nat}{z:Str}(hz:z∈ns){m:Nat}:G3 (Vz ns g) (Sum.inr z:Key) (.int ((m:Nat):Int))=Vz ns λy=>if y=z then m else g y:=by
 unfold G3
 have F:((Vz ns g).any λkv=>decide (kv.1=(Sum.inr z:Key)))=true:=by rw[A1D];exact⟨_,List.mem_map.mpr ⟨z,hz,rfl⟩,by simp⟩
 rw[A0Z F];unfold Vz;rw[A1A];refine A0W λy _=>?_
 by_cases c:y=z
 . subst c;simp
 have:(Sum.inr y:Key)≠Sum.inr z:=λq=>c (by injection q);simp[c,this]
theorem TabN.put {H H':Hp}{r a:Addr}{ns:List Str}{as:List Addr}{f:Str->Str->Nat}(h:TabN H r ns as f)(hn:ns.Nodup){j:Nat}{x z:Str}{m:Nat}(Z:ns[j]? = some x)(ha:as[j]? = some a)(hz:z∈ns)(e:ExtBut a H H')(h':H' a=some (.dK (G3 (Vz ns (f x)) (Sum.inr z:Key) (.int ((m:Nat):Int))))) :
  TabN H' r ns as λF y=>if F=x/\y=z then m else f F y:=by
 have a0:=A03 ha;refine⟨h.len,h.nd,h.no,e _ _ (λq=>h.no (q ▸ a0)) h.top,λi F Y hi J=>?_⟩
 by_cases c:i=j
 . subst c;rw[Z] at hi
   cases hi;rw[ha] at J
   cases J;rw[h',am9 hn hz];congr 2;exact List.map_congr_left λy _=>by by_cases q:y=z<;>simp[q]
 have a1:Y≠a:=λq=>by subst q;obtain⟨l1,O⟩:=A00.mp ha;obtain⟨l2,U⟩:=A00.mp J;exact c ((A1G h.nd).mp (U.trans O.symm))
 have hx:F≠x:=λq=>by subst q;obtain⟨l1,O⟩:=A00.mp Z;obtain⟨l2,U⟩:=A00.mp hi;exact c ((A1G hn).mp (U.trans O.symm))
 rw[e _ _ a1 (h.row i F Y hi J)];congr 2;exact List.map_congr_left λy _=>by simp[hx]
theorem ah4 {ns:List Str}(hn:ns.Nodup)(g:Str->Nat):((Vz ns g).map (·.1)).Nodup:=by unfold Vz;rw[A1A];exact List.Pairwise.map _ (λa b h z=>h (by injection z)) hn
section
variable {K:W.Frag}{H H':Hp}{x:V}{ns:List Str}{σ:St}{Q:VK}
def NmS (K:W.Frag)(H:Hp)(x:V)(ns:List Str):Prop:=∃ a,x = .ref a/\(SqL K H a (ns.map V.str)\/SqT K H a (ns.map V.str))
theorem NmS.same (h:NmS K H x ns)(e:Same H H'):NmS K H' x ns:=by obtain⟨a,rfl,h⟩:=h;exact⟨a,rfl,h.imp e.seq e.seqT⟩
theorem NmS.of (h:Is K H (nmD ns) x):NmS K H x ns:=by obtain⟨a,rfl,g⟩:=h.nm;exact⟨a,rfl,.inr g⟩
theorem ag2 (h:NmS K H x ns)(k:Q (.int ns.length) H):Yz K [x] H Q:=by
 obtain⟨a,rfl,h | h⟩:=h
 . exact .inl ⟨.ref a,_,rfl,.inl ⟨_,h,rfl⟩,by rw[A01];exact k⟩
 exact aP4 (Og h) k
theorem as3 {i:Int}{z:Str}(h:NmS K H x ns)(e:atI ns i=some z)(k:Q (.str z) H):Qf K x (.int i) H Q:=by
 obtain⟨a,rfl,h | h⟩:=h
 . refine aO6 h ?_ k;unfold atI at e ⊢;rw[A01]
   cases c:ixN ns.length i with
   |none=>rw[c] at e;cases e
   |some j=>rw[c] at e;show(ns.map V.str)[j]? = _;rw[A06,show ns[j]? = some z from e];rfl
 exact aT5 (Og h) e k
theorem Y2 {g:TG}{tt:TT}{te:TE}{k:Nat}{js:List Nat}(h:NmS K H x ns)(t:Str->Bool)(f:Str->PyData)(hf:∀ a,frz (f a)=true)(hz:ns.length<=1000000)
  (F:∀(i:Nat) a H1 (R:VK) (R':Hp->Prop),ns[i]? = some a->Same H H1->(t a=true->∀ y H2,Same H1 H2->Is K H2 (f a) y->R y H2)->(t a=false->∀ H2,Same H1 H2->R' H2) ->
   g (.str a) (List.replicate k none++Po σ js) H1 fun σ2 H2=>tt σ2 H2 λb q=>if b=true then te σ2 q R else R' q)
  (hd:∀ p ys H',H p=none->Same H H'->H' p=some (.lst ys)->IsL K H' ((ns.filter t).map f) ys->Q (.ref p) H'):Fy K x H λJ H1=>Ni k js g tt te σ J H1 Q:=by
 obtain⟨a,rfl,h | h⟩:=h
 . exact Sx h t f hf hz F hd
 exact Sq (Og h) t f hf hz F hd
def NmX (K:W.Frag)(H:Hp)(q:Addr)(x:V)(ns:List Str):Prop:=∃ p,x = .ref p/\((p≠q/\H p=some (.lst (ns.map V.str)))\/SqT K H p (ns.map V.str))
theorem aJ3 {q:Addr}{o:HO}{t:Int}(O:H q=some o)(h:NmS K H x ns)(J:0<=t)(h1:t<=ns.length)(k:∀ y H',Same H H'->NmX K H' q y (ns.drop t.toNat)->Q y H'):aD8 K x (some t) none H Q:=by
 have F:Pr (ns.map V.str) (some t) none=(ns.drop t.toNat).map V.str:=by rw[Kr J (by rw[A01];exact h1),A43]
 obtain⟨a,rfl,h | h⟩:=h
 . exact Mn h λp H' hp e g=>k _ _ e ⟨p,rfl,.inl ⟨(ne_of_none O hp).symm,by rw[<- F];exact g⟩⟩
 exact aA4 h λp H' e g=>k _ _ e ⟨p,rfl,.inr (by rw[<- F];exact g)⟩
theorem aC8 {q:Addr}{g:TG}{tb:TS}{D:Ph}(h:NmX K H q x ns)(Pv:Nat->St->Hp->Prop)(O:Pv 0 σ H)(U:∀ i σ' H',Pv i σ' H'->ExtBut q H H'/\Fz H H')
  (Y:∀ i z σ' H',ns[i]? = some z->Pv i σ' H'->g (.str z) σ' H' fun σ2 H2=>tb {D with nx:=Pv (i+1),ct:=Pv (i+1),bk:=D.nx} σ2 H2) (hd:∀ σ' H',Pv ns.length σ' H'->D.nx σ' H') :
  Fy K x H λJ H1=>an8 g tb D σ J H1:=by
 obtain⟨a,rfl,⟨Z,h⟩ | h⟩:=h
 . refine Ju (SqL.of h) (Ej Bg Pv O (λi σ' H' p=>SqL.of ((U i σ' H' p).1 _ _ Z h)) (λi v σ' H' F hi p=>?_) fun σ' H' p=>hd σ' H' (by rw[A01] at p;exact p));rw[A06] at F
   cases hn:ns[i]? with
   |none=>rw[hn] at F;cases F
   |some z=>
     rw[hn] at F
     cases F;exact Y i z σ' H' hn p
 exact Mh (Og h) Pv O (λi σ' H' p=>(U i σ' H' p).2) Y hd
def HfS (K:W.Frag)(H:Hp)(x:V)(ns:List Str)(ps:List (Str×Str)):Prop:=∃ a nv pv,x = .ref a/\SqT K H a [nv,pv]/\NmS K H nv ns/\Is K H (psD ps) pv
theorem HfS.same {ps:List (Str×Str)}(h:HfS K H x ns ps)(e:Same H H'):HfS K H' x ns ps:=by obtain⟨a,nv,pv,rfl,h1,h2,q⟩:=h;exact⟨a,nv,pv,rfl,e.seqT h1,h2.same e,Is.mono e _ _ q⟩
theorem HfS.of {ps:List (Str×Str)}(h:Is K H (hfD ns ps) x):HfS K H x ns ps:=by
 obtain⟨a,xs,rfl,h1,h2⟩:=Is.tup h;obtain ⟨Y,q,J⟩:=h2.at (i:=0) rfl;obtain⟨Z,F,O⟩:=h2.at (i:=1) rfl;have U:=h2.length
 match xs,q,F,U with
 | [y1,y2],q,F,_=>
   cases q
   cases F;exact⟨a,Y,Z,rfl,h1,.of J,O⟩
theorem ao6 {ps:List (Str×Str)}(h:HfS K H x ns ps)(k:∀ v,NmS K H v ns->Q v H):Qf K x (.int 0) H Q:=by obtain⟨a,nv,pv,rfl,h1,h2,q⟩:=h;exact .inl (.inr (.inl ⟨a,_,_,_,rfl,rfl,h1,Dz (j:=0) rfl,k _ h2⟩))
theorem aM1 {ps:List (Str×Str)}(h:HfS K H x ns ps)(k:∀ v,Is K H (psD ps) v->Q v H):Qf K x (.int 1) H Q:=by obtain ⟨a,nv,pv,rfl,h1,h2,q⟩:=h;exact .inl (.inr (.inl ⟨a,_,_,_,rfl,rfl,h1,Dz (j:=1) rfl,k _ q⟩))
end
theorem a72 {ns:List Str}{ps:List (Str×Str)}:∀(i:Nat) (row:List Str),row∈Ex (Aa ps) ns i [[]]->∀ y∈G6 ns row,∀ z∈ns,Aa ps y z=true->z∈G6 ns row
 |0,row,h,y,hy,z,hz,g=>by
   have:row=[]:=by simpa[Ex] using h
   subst this;exact List.mem_filter.mpr ⟨hz,by simp⟩
 |i+1,row,h,y,hy,z,hz,g=>by
   rw[Hl] at h;obtain⟨r,O,h⟩:=A2D.mp h;obtain⟨w,U,rfl⟩:=A0E.mp h;obtain⟨y1,y2⟩:=A0L.mp hy;have J:y∉r++[w]:=by simpa using y2
   rw[A0C,not_or] at J;have F:y∈G6 ns r:=List.mem_filter.mpr ⟨y1,by simpa using J.1⟩;have Y:=a72 i r O y F z hz g;refine A0L.mpr ⟨hz,?_⟩;have Z:z∉r:=by simpa using (List.mem_filter.mp Y).2
   have a0:z≠w:=λq=>by
    subst q;rw[(mem_frF.mp U).2 y F] at g
    cases g
   simp[Z,a0]
theorem al2 {ns:List Str}{ps:List (Str×Str)}(hm:∀ p∈ps,p.1∈ns/\p.2∈ns){i:Nat}{row:List Str}(h:row∈Ex (Aa ps) ns i [[]]) :
  ((G6 ns row).filter λz=>!decide (z∈(ps.filter λp=>decide (p.1∈G6 ns row)).map (·.2)))=frF (Aa ps) (G6 ns row):=by
 unfold frF;refine A1J λz hz=>?_;congr 1;rw[A22,A3K,A1D];constructor
 . intro q;obtain⟨p,hp,rfl⟩:=A0E.mp q;obtain⟨p1,p2⟩:=A0L.mp hp;exact⟨p.1,A4F p2,wayB_iff.mpr (.one p1)⟩
 rintro⟨y,O,g⟩;obtain⟨m,J,F⟩:=Way.last (wayB_iff.mp g);refine A0E.mpr ⟨(m,z),A0L.mpr ⟨J,A0Y ?_⟩,rfl⟩;rcases F with rfl|F
 . exact O
 exact a72 i row h y O m (hm _ J).1 (wayB_iff.mpr F)
theorem Ml {ns:List Str}{ps:List (Str×Str)}(h:HalfW ns ps){x y:Str}(U:x∈ns)(Y:y∈ns)(a2:x≠y):cnt (Aa (ps++[(x,y)])) ns=0↔Aa ps y x=true:=by
 constructor
 . intro g
   cases c:Aa ps y x with
   |true=>rfl
   |false=>
     have Z:¬ Way ps y x:=λq=>by rw[wayB_iff.mpr q] at c;cases c
     have a0:=Vf h.irr (p:=(x,y)) (λq=>a2 q.symm) Z;have:=Kc (b:=Aa (ps++[(x,y)])) (λz=>Jr (a0 z)) at6 ns.length ns rfl h.nd;omega
 intro g;rw[Js h U Y];refine M5 λr hr=>?_;refine A0N λq=>?_;obtain⟨hp,O⟩:=(Cr _ _ _ _ h.nd rfl).mp hr
 have h1:okR (Aa (ps++[(x,y)])) r:=by
  rw[Kq h.nd (h.more U Y).mem hp];intro p F;rcases A0C.mp F with F|F
  . exact(Kq h.nd h.mem hp).mp O p F
  have:p=(x,y):=by simpa using F
  rw[this];exact q
 have h2:r∈ext (Aa (ps++[(x,y)])) ns.length ns:=(Cr _ _ _ _ h.nd rfl).mpr ⟨hp,h1⟩;have J:=(Kq h.nd h.mem hp).mp O
 have a1:∀ a b,Way ps a b->r.idxOf a<r.idxOf b:=λa b g=>by
  induction g with
  |one e=>exact J _ e
  |cons e _ ih=>exact A48 (J _ e) ih
 have:=a1 y x (wayB_iff.mp g);omega
def qsD (p:Str×Str)(m n:Nat):PyData:=.tuple [prD p,.tuple [.int ((m:Nat):Int),.int ((n:Nat):Int)]]
theorem Y3 (p:Str×Str)(m n:Nat):frz (qsD p m n)=true:=by simp[qsD,frz,Mm,Gx]
def quR (ns:List Str)(A:Str->Str->Nat)(i m:Nat):List PyData:=(((ns.drop (i+1)).take m).filter λy=>decide (A (ns.getD i "") y≠0/\A y (ns.getD i "")≠0)).map λy=>qsD (ns.getD i "",y) (A (ns.getD i "") y) (A y (ns.getD i ""))
def quK (ns:List Str)(A:Str->Str->Nat)(k:Nat):List PyData:=(List.range k).flatMap λi=>quR ns A i ns.length
def quP (ns:List Str)(ps:List (Str×Str)):List PyData:=(unP ns ps).map λp=>qsD p (cnt (Aa (ps++[(p.1,p.2)])) ns) (cnt (Aa (ps++[(p.2,p.1)])) ns)
theorem aR7 {ns:List Str}{ps:List (Str×Str)}(h:HalfW ns ps){A:Str->Str->Nat}(J:∀ x∈ns,∀ y∈ns,x≠y->(A x y≠0/\A y x≠0↔unB ps x y=true)/\(unB ps x y=true->A x y=cnt (Aa (ps++[(x,y)])) ns)):quK ns A ns.length=quP ns ps:=by
 unfold quP unP unK quK;rw[List.map_flatMap];rw[List.flatMap_def,List.flatMap_def];congr 1;refine A0W λi hi=>?_;have hi:i<ns.length:=A21.mp hi;have hx:ns.getD i "" = ns[i]:=by simp[List.getD,List.getElem?_eq_getElem hi]
 have O:ns[i]∈ns:=A4J hi;unfold quR unR;rw[A1A,hx,A2A (by rw[A1B];omega)]
 have Y:∀ y∈ns.drop (i+1),y∈ns/\ns[i]≠y:=λy F=>by refine⟨(A4H _ _).subset F,λq=>?_⟩;obtain⟨j,U⟩:=A1K.mp F;rw[List.getElem?_drop] at U;obtain⟨h1,h2⟩:=A00.mp U;have:=(A1G h.nd).mp (h2.trans q.symm);omega
 have hf:((ns.drop (i+1)).filter λy=>decide (A ns[i] y≠0/\A y ns[i]≠0))=(ns.drop (i+1)).filter λy=>unB ps ns[i] y:=A1J λy F=>by obtain⟨h1,h2⟩:=Y y F;rw[A22,A3K];exact(J _ O y h1 h2).1
 rw[hf];refine A0W λy F=>?_;obtain⟨y1,Z⟩:=A0L.mp F;obtain⟨h1,h2⟩:=Y y y1
 have hs:unB ps y ns[i]=true:=by have:=Z;unfold unB at this ⊢;rw[A57];exact this
 show qsD (ns[i],y) _ _=qsD (ns[i],y) _ _;rw[(J _ O y h1 h2).2 Z,(J y h1 _ O h2.symm).2 hs]
theorem Qh {ns:List Str}{ps:List (Str×Str)}(h:HalfW ns ps){x y:Str}(q:x∈ns)(J:y∈ns)(F:x≠y):(cnt (Aa (ps++[(x,y)])) ns≠0/\cnt (Aa (ps++[(y,x)])) ns≠0)↔unB ps x y=true:=by
 rw[Ne,Ne,Ml h q J F,Ml h J q F.symm];unfold unB
 cases Aa ps x y<;>cases Aa ps y x<;>simp
theorem a51 {ns:List Str}{ps:List (Str×Str)}(h:HalfW ns ps):quK ns (λx y=>((ext (Aa ps) ns.length ns).filter λr=>decide (r.idxOf x<r.idxOf y)).length) ns.length=quP ns ps:=by refine aR7 h λx q y F J=>?_;rw[<- Js h q F,<- Js h F q];exact⟨Qh h q F J,λ_=>rfl⟩
theorem Rs (ns:List Str)(A:Str->Str->Nat)(k:Nat):quK ns A (k+1)=quK ns A k++quR ns A k ns.length:=by unfold quK;rw[List.range_succ,A28];simp
theorem Xv {ns:List Str}{A:Str->Str->Nat}{i m:Nat}{y:Str}(h:(ns.drop (i+1))[m]? = some y):quR ns A i (m+1)=quR ns A i m++if A (ns.getD i "") y≠0/\A y (ns.getD i "")≠0 then [qsD (ns.getD i "",y) (A (ns.getD i "") y) (A y (ns.getD i ""))] else []:=by
 unfold quR;rw[A0S,h,A1X,A13];congr 1
 by_cases c:A (ns.getD i "") y≠0/\A y (ns.getD i "")≠0
 . rw[A0Z c];show(([y].filter λy=>decide (A (ns.getD i "") y≠0/\A y (ns.getD i "")≠0)).map _)=_;rw[A19,A0Z (by rw[A0Y c])];rfl
 rw[A0Q c]
 have:([y].filter λy=>decide (A (ns.getD i "") y≠0/\A y (ns.getD i "")≠0))=[]:=by rw[A19,A0Q (by rw[A0N c];decide)];rfl
 show(([y].filter λy=>decide (A (ns.getD i "") y≠0/\A y (ns.getD i "")≠0)).map _)=_;rw[this];rfl
theorem Bc {K:W.Frag}{H:Hp}{d:PyData}{ds:List PyData}{vs:List V}(h:IsL K H (d :: ds) vs):∃ v r,vs=v :: r/\Is K H d v/\IsL K H ds r:=by simpa only[IsL] using h
theorem ah7 {α:Type}{K:W.Frag}{H:Hp}{f:α->PyData}{xs ys:List V}(hp:ys.Perm xs):∀ {S:List α},IsL K H (S.map f) xs->∃ q:List α,q.Perm S/\IsL K H (q.map f) ys:=by
 induction hp with
 |nil=>intro S h;exact⟨S,.refl _,h⟩
 |@cons x l1 l2 _ ih=>
   intro S h
   match S,h with
   | [],h=>simp only[List.map_nil,IsL] at h;cases h
   |s :: S,h=>
     obtain⟨v,r,e,h1,h2⟩:=Bc h
     cases e;obtain⟨q,F,J⟩:=ih h2;exact⟨s :: q,F.cons _,.cons h1 J⟩
 |@swap x y l=>
   intro S h
   match S,h with
   | [],h=>simp only[List.map_nil,IsL] at h;cases h
   | [s],h=>
     obtain⟨v,r,e,h1,h2⟩:=Bc h
     cases e;simp only[List.map_nil,IsL] at h2
     cases h2
   |s :: s2 :: S,h=>
     obtain⟨v,r,e,h1,h2⟩:=Bc h
     cases e;obtain⟨v',r',O,U,Y⟩:=Bc h2
     cases O;exact⟨s2 :: s :: S,.swap ..,.cons U (.cons h1 Y)⟩
 |trans p1 p2 ih1 ih2=>intro S h;obtain⟨S2,F,J⟩:=ih2 h;obtain⟨S1,Z,q4⟩:=ih1 J;exact⟨S1,Z.trans F,q4⟩
def crs (A B:List Str):List (Str×Str):=A.flatMap λx=>B.map λy=>(x,y)
theorem mem_crs {A B:List Str}{p:Str×Str}:p∈crs A B↔p.1∈A/\p.2∈B:=by
 unfold crs;rw[A2D];constructor
 . rintro⟨x,q,h⟩;obtain⟨y,F,rfl⟩:=A0E.mp h;exact⟨q,F⟩
 rintro⟨h1,h2⟩;exact⟨p.1,h1,A0E.mpr ⟨p.2,h2,rfl⟩⟩
theorem ac0 (A B:List Str):(crs A B).length=A.length*B.length:=by
 unfold crs
 induction A with
 |nil=>simp
 |cons a A ih=>rw[A1Q,A07,ih,A01,A0G,Nat.succ_mul];omega
section
variable {ns A B:List Str}{pA pB S:List (Str×Str)}
def Tn (q:List (List Str))(x y:Str):Nat:=(q.filter λr=>decide (r.idxOf x<r.idxOf y)).length
end
section
variable {prog:Program}{w:World}{A:Around}{E:Value->Shared->Prop}{s:Shared}{Q:Value->Shared->Prop}
theorem Xn {t:Addr}{m n:Int}{t1 t2:Tok}(Z:A.handled=none)(O:s.heap.IsTuple t #[.int m t1,.int n t2])
  (h:∀ u h' tk,(∀ b o,s.heap.get? b=some o->h'.get? b=some o)->Q (.int (if n<m then n else m) u) {s with heap:=h',toks:=tk}) :
  wpAny (model prog w) A (call (.builtin "min") [.ref t]) Q E s:=by
 have Y:t<s.heap.objs.size:=by obtain⟨_,e,_⟩:=O;exact A0D e
 refine call_min_walk (A3J O ?_);have a0:t≠s.heap.objs.size:=A11 Y;refine⟨_,_,_,_,_,_,_,rfl,Walks.tuple (A:=A.in1) Z s.heap.objs.size t a0 #[.int m t1,.int n t2],⟨⟨_,A0I _ rfl,rfl,rfl⟩,?_⟩,λb hb=>?_,(by show 0<2;decide),CmpOf.ints_lt (λi=>if i=0 then m else n) (λi v F=>?_),λv h' tk q hk=>?_⟩
 . obtain⟨o,e,r⟩:=O;exact⟨o,A02 _ e,r⟩
 . show b<(s.heap.push _).objs.size;rw[A20];simp only[List.mem_cons,List.not_mem_nil,or_false] at hb;rcases hb with rfl|rfl
   . exact A2S _
   exact A2O Y
 . match i,F with
   |0,F=>cases F;exact⟨t1,rfl⟩
   |1,F=>cases F;exact⟨t2,rfl⟩
   |i+2,F=>simp at F
 have keep:∀ b o,s.heap.get? b=some o->h'.get? b=some o:=λb o e=>hk b o (λz=>by
  have z':b=s.heap.objs.size:=by simpa using z
  have U:=A0D e;rw[z'] at U;exact absurd U (A1P _)) (A02 _ e)
 by_cases c:n<m
 . have q:(#[Value.int m t1,.int n t2])[argBest (λi j=>decide ((if i=0 then m else n)<(if j=0 then m else n))) (2-1)]? = some v:=q
   have J:argBest (λi j=>decide ((if i=0 then m else n)<(if j=0 then m else n))) (2-1)=1:=by
    show(if decide ((if 0+1=0 then m else n)<(if 0=0 then m else n)) then 0+1 else 0)=1
    simp[c]
   rw[J] at q
   cases q;have:=h t2 h' tk keep;rwa[A0Z c] at this
 have q:(#[Value.int m t1,.int n t2])[argBest (λi j=>decide ((if i=0 then m else n)<(if j=0 then m else n))) (2-1)]? = some v:=q
 have J:argBest (λi j=>decide ((if i=0 then m else n)<(if j=0 then m else n))) (2-1)=0:=by
  show(if decide ((if 0+1=0 then m else n)<(if 0=0 then m else n)) then 0+1 else 0)=0
  simp[c]
 rw[J] at q
 cases q;have:=h t1 h' tk keep;rwa[A0Q c] at this
end
abbrev aE2 (p:Pos):Arguments:={posonlyargs:=[],args:=[{arg:="question",annotation:=none,pos:=p}],vararg:=none,kwonlyargs:=[],kw_defaults:=[],kwarg:=none,defaults:=[]}
abbrev aD5 (p1 p2 q F J:Pos):Expr:=.Call (.Name "min" p1) [.Subscript (.Name "question" p2) (.Constant (.int 1) 0 q) F] [] J
abbrev aE0:Scope:={kind:=.function,names:=[("question",.local),("min",.globalImplicit)],isGenerator:=false,isCoroutine:=false,more:=[]}
section
variable {prog:Program}{w:World}{A:Around}{E:Value->Shared->Prop}{s:Shared}{Q:Value->Shared->Prop}
theorem am0 {q O a b:Addr}{qual:Str}{pm U x:Value}{p p1 p2 p3 p4 p5:Pos}{m n:Int}{t1 t2:Tok}{mg mb:Str->Option Value}(hh:A.handled=none)(a3:A.depth<recursionLimit)
  (ho:s.heap.get? q=some (W.kla_obj "<lambda>" qual (aE2 p) (aD5 p1 p2 p3 p4 p5) aE0 [] pm O U)) (a0:s.heap.CodeRec (.ref O) qual) (a6:s.heap.NoLimit)
  (hg:s.heap.Ns mainGlobals mg) (hm:mg "min" = none) (hb:s.heap.Ns builtinsNs mb) (a1:mb "min" = some (.builtin "min"))
  (Z:IsTup s.heap a #[x,.ref b]) (a4:s.heap.IsTuple b #[.int m t1,.int n t2])
  (h:∀ u h' tk,(∀ b o,s.heap.get? b=some o->h'.get? b=some o)->Q (.int (if n<m then n else m) u) {s with heap:=h',toks:=tk}) :
  wpAny (model prog w) A (call (.ref q) [.ref a]) Q E s:=by
 refine wpAny_call (W.kla_callFunE a3 ho rfl rfl rfl rfl a0 ?_);rw[show bindArgs (W.kla_fn "<lambda>" qual (aE2 p) (aD5 p1 p2 p3 p4 p5) aE0 [] pm (.ref O) U) ⟨[.ref a],[]⟩=(pure [(("question":Str),Value.ref a)]:Sem (List (Str×Value))) from rfl];refine A0K (wpAny_newFunctionEnv (λy J=>?_) (λy J=>?_) (λh₁ a2 Y=>⟨a6.fresh _ Y,?_⟩) rfl)
 . simp only[List.mem_cons,List.not_mem_nil,or_false] at J;rcases J with rfl|rfl<;>simp
 . have:y=(("question":Str),Value.ref a):=by simpa using J
   rw[this];rfl
 have F:∀ b o,s.heap.get? b=some o->h₁.get? b=some o:=λb o e=>Y.extBut b o (A11 (A0D e)) (A02 _ e);refine W.kla_codeExpr ?_;refine A23 (A32 rfl rfl (A4D (hg.keeps F) hm (hb.keeps F) a1 ?_) rfl);refine A3U ?_ rfl rfl;refine A2U (Subscript_ (A4V (A4W rfl rfl a2 rfl (wpAny_Constant_int ?_)) rfl));refine subscriptTail_builtin (IsTup.typeIs (s:=_) (Z.keeps F)) slot_tuple_getitem.lookup (getItem_tuple (j:=1) (Z.keeps F) nofun nofun rfl rfl ?_);refine A3Q ?_
 have a5:h₁.IsTuple b #[.int m t1,.int n t2]:=by obtain⟨o,e,r⟩:=a4;exact⟨o,F _ _ e,r⟩
 exact Xn (t:=b) hh a5 λu h' tk hk=>h u h' tk λb o e=>hk b o (F b o e)
end
section
variable {X:Cx}{pins:List (Addr×Obj)}{σ:List (Option V)}{H:Hp}{s:Shared}{h':Heap}
def ay2 (K:W.Frag):List V->Hp->VK->Prop:=λvs H Q=>∃ l xs,∃ q:Nat->Int,vs=[.ref l]/\SqL K H l xs/\0<xs.length/\(∀(i:Nat) v,xs[i]? = some v->∃ a b x m n,v = .ref a/\SqT K H a [x,.ref b]/\SqT K H b [.int m,.int n]/\q i=if n<m then n else m) /\
 ∀(i:Nat) v,xs[i]? = some v->(∀ j,j<xs.length->q i>=q j/\(j<i->q i>q j))->Q v H
theorem ac3 {Q:VK}{u:List Value}{q c':Addr}{qual:Str}{pm a4:Value}{p p1 p2 p3 p4 p5:Pos}(hc:X.calm=true)(aD:X.A.in1.depth<recursionLimit)(aC:X.mg "min" = none)(I:Inv X pins σ H s){vs:List V}(r:Vals vs u)
  (ho:s.heap.get? q=some (W.kla_obj "<lambda>" qual (aE2 p) (aD5 p1 p2 p3 p4 p5) aE0 [] pm c' a4)) (a9:s.heap.CodeRec (.ref c') qual) (h:ay2 X.K vs H Q) :
  wpAny (model X.prog X.w) X.A (call (.builtin "max") u [(Str.ofString "key",.ref q)]) (EP X pins σ Q) X.xe s:=by
 obtain⟨l,xs,kf,rfl,hl,a3,aA,hq⟩:=h;obtain⟨v,rfl,rv⟩:=Ij r
 cases rv;obtain⟨aE,r1,pl,_⟩:=I.list hl;have a2:=r1.length;obtain⟨m,hn,aB⟩:=I.loc;have F:Fr X.base X.env.locals s.heap m:=⟨hn,I.bk,A0O I.ok.bsz I.ok.above⟩;have keep:∀ {h:Heap} {more:List (Addr×Obj)},Fr X.base X.env.locals h m->News X.base X.env.locals h (Ha X.base s.heap X.env.locals++more)->∀ b u,b≠X.env.locals->s.heap.get? b=some u->h.get? b=some u:=λF' J=>Ma I.bk F'.keep J
 have a0:∀ {c:Addr} {o:Obj},s.heap.get? c=some o->(∀ es ep,o.data ≠ .dict es ep)->c≠X.env.locals:=fun {c o} O U z=>by
  obtain⟨oL,es,ep,e4,e5⟩:=hn;rw[z,e4] at O
  cases O;exact U es ep e5.1
 have aG:∀ {c:Addr} {zs:Array Value},IsTup s.heap c zs->c≠X.env.locals:=fun {c zs} p=>by obtain⟨o,O,U,n,Y⟩:=p;exact a0 O λes ep z=>by rw[Y] at z;cases z
 have aF:l≠X.env.locals:=by obtain⟨o,O,U,n,Y⟩:=pl.isList;exact a0 O λes ep z=>by rw[Y] at z;cases z
 have fin:∀ {h:Heap} {t':Nat},Fr X.base X.env.locals h m->News X.base X.env.locals h (Ha X.base s.heap X.env.locals)->Inv X pins σ H {s with heap:=h,toks:=t'}:=fun {h t'} F' J=>I.nsed (keep (more:=[]) F' (by rw[A27];exact J)) aB F'.ns
 have tupK:∀ {h:Heap} {more:List (Addr×Obj)} {c:Addr} {zs:Array Value},Fr X.base X.env.locals h m->News X.base X.env.locals h (Ha X.base s.heap X.env.locals++more)->IsTup s.heap c zs->IsTup h c zs:=λF' J p=>by have a3:=aG p;obtain⟨o,O,U⟩:=p;exact⟨o,keep F' J _ _ a3 O,U⟩
 refine kmk_max kf (vs:=aE) (I.ok.hd hc) F Sk (λh F' J=>?_) ∅ (λi v Z h tk own F' J=>?_) (λi v h tk Z hb F' J=>?_)
 . obtain⟨o,O,U⟩:=pl.isList;exact⟨o,keep (more:=[]) F' (by rw[A27];exact J) _ _ aF O,U⟩
 . obtain⟨x,hx,rx⟩:∃ x,xs[i]? = some x/\RelV x v:=by
    have hi:i<xs.length:=by rw[a2];exact(A00.mp Z).1
    obtain⟨u,hu,ru⟩:=r1.get (A04 hi);rw[Z] at hu
    cases hu;exact⟨_,A04 hi,ru⟩
   obtain⟨a,b,y,m',n',rfl,a5,a6,hk⟩:=aA i x hx
   cases rx;obtain⟨i1,w1,pa,_⟩:=I.tuple a5;obtain⟨i2,w2,pb,_⟩:=I.tuple a6;obtain⟨y1,y2,rfl,aM,aH⟩:=Vals.two w1
   cases aH;obtain⟨z1,z2,rfl,aI,aJ⟩:=Vals.two w2;obtain⟨aK,rfl⟩:=aI;obtain⟨aL,rfl⟩:=aJ;obtain⟨mb,a7,a8⟩:=I.mod.blt;refine am0 (s:={s with heap:=h,toks:=tk}) (m:=m') (n:=n') (t1:=aK) (t2:=aL) (mg:=X.mg) (mb:=mb) (I.ok.hd hc) aD (keep F' J _ _ (a0 ho λes ep z=>by cases z) ho) ?_ (I.mod.nolimit.keeps F'.keep) (I.mod.glob.keeps F'.keep) aC (a7.keeps F'.keep) ((a8 "min" nofun).trans PyProof.Rows.boot_min) (tupK F' J pa) ?_ λu h2 aN a1=>?_
   . obtain⟨c,oc,vs,tq,e0,O,U,Y⟩:=a9
     cases e0;exact⟨c',oc,vs,tq,rfl,keep F' J _ _ (a0 O λes ep z=>by rw[U] at z;cases z) O,U,Y⟩
   . have:=tupK F' J pb;exact this
   rw[hk];exact KskEnd.intro ⟨F'.ns.keeps a1,λb o e=>a1 b o (F'.keep b o e),F'.above⟩ (λp hp=>⟨a1 _ _ (J p hp).1,(J p hp).2⟩) λp hp=>hp
 obtain⟨x,hx,rx⟩:∃ x,xs[i]? = some x/\RelV x v:=by
  have hi:i<xs.length:=by rw[a2];exact(A00.mp Z).1
  obtain⟨u,hu,ru⟩:=r1.get (A04 hi);rw[Z] at hu
  cases hu;exact⟨_,A04 hi,ru⟩
 exact⟨x,H,fin F' J,rx,hq i x hx λj hj=>hb j ∅⟩
end
def Nx (q:Addr)(qual:Str):HO:=.ext λh=>h.CodeRec (.ref q) qual
def LamT (P:Addr)(line F:Nat)(qual:Str)(H:Hp):Prop:=H P=some (.tbl #[])\/∃ q,H P=some (.tbl #[rawInt line,rawInt F,.ref q])/\H q=some (Nx q qual)
structure aI7 (X:Cx)(c P:Addr):Prop where
 code:X.env.code = .ref c
 hd:W.CodeHd X.base c P
 bi:X.base.BuiltinsAt X.mg P
 gP:mainGlobals≠P
section
variable {X:Cx}{pins:List (Addr×Obj)}{σ:List (Option V)}{H:Hp}{s:Shared}{h':Heap}
theorem Gg {q:Addr}{qual:Str}{h1 h2:Heap}(x:h1.CodeRec (.ref q) qual)(k:∀ o,h1.get? q=some o->h2.get? q=some o):h2.CodeRec (.ref q) qual:=by
 obtain⟨c,oc,vs,Y,F,J,O,U⟩:=x
 cases F;exact⟨q,oc,vs,Y,rfl,k _ J,O,U⟩
theorem Inv.grown {P F:Addr}{ps more:Array Value}{qual:Str}{t':Nat}(I:Inv X pins σ H s)(J:H P=some (.tbl ps))(k:∀ b u,b≠P->s.heap.get? b=some u->h'.get? b=some u)(a0:h'.get? P=some (W.tabObj (ps++more)))(hc:s.heap.objs.size<=F)(hr:h'.CodeRec (.ref F) qual) :
  Inv X pins σ (upd (upd H P (.tbl (ps++more))) F (Nx F qual)) {s with heap:=h',toks:=t'}:=by
 have U:H F=none:=I.hok.fresh hc;have a1:F≠P:=λz=>by rw[z,J] at U;cases U
 have Z:(upd (upd H P (.tbl (ps++more))) F (Nx F qual)) P=some (.tbl (ps++more)):=by rw[At a1.symm,Ae]
 have O:∀ b,b≠P->b≠F->(upd (upd H P (.tbl (ps++more))) F (Nx F qual)) b=H b:=λb h1 h2=>by rw[At h2,At h1]
 have trk:∀ b o,H b=some o->b≠F:=λb o e z=>by rw[z,U] at e;cases e
 refine I.call (ch:=[]) ⟨λb o e n _ _=>k b o (λz=>by rw[z,J] at n;cases n) e,λb o e n _ _=>⟨o.slots,k b o (λz=>by rw[z,J] at n;cases n) e⟩,λb o e n _=>?_,λb o e _=>?_,λb xs e=>?_,λb o u e=>?_,λb qs e=>?_⟩ (λb o e=>?_) I.bare (λb z=>absurd z (by simp))
 . rw[O b (λz=>by rw[z,J] at n;cases n) (λz=>by rw[z] at e;exact absurd (A0D e) (Nat.not_lt_of_le hc))];exact n
 . by_cases z:b=P
   . rw[z];exact⟨_,a0⟩
   exact⟨o,k b o z e⟩
 . rw[O b (λz=>by rw[z,J] at e;cases e) (trk b _ e)];exact e
 . rw[O b (λz=>by rw[z,J] at e;cases e) (trk b _ e)];exact e
 . by_cases z:b=P
   . subst z;rw[J] at e
     cases e;exact⟨more,Z⟩
   exact⟨#[],by rw[O b z (trk b _ e),e];simp⟩
 by_cases z:b=F
 . subst z;rw[Ae] at e
   cases e;refine⟨hr,?_,λh1 h2 x y=>Gg x y⟩;obtain⟨c,oc,vs,tq,e0,e1,_⟩:=hr
   cases e0;exact⟨oc,e1⟩
 by_cases Y:b=P
 . subst Y;rw[Z] at e
   cases e;exact a0
 rw[O b Y z] at e;refine(I.hok b o e).stay (λd u hd q=>k d u (λy=>?_) q) (λd q=>?_) λd xs q=>?_
 . rcases hd with rfl|hd
   . exact Y y
   rw[y,J] at hd;cases hd
 . rw[O d (λy=>by rw[y,J] at q;cases q) (trk d _ q)];exact q
 rw[O d (λy=>by rw[y,J] at q;cases q) (trk d _ q)];exact q
def aK7 (K:W.Frag)(P:Addr)(line q:Nat)(qual:Str)(t:TA):TE:=fun σ H Q=>t σ H λvs H1=>LamT P line q qual H1/\∀ H2,ExtBut P H1 H2->LamT P line q qual H2->ay2 K vs H2 Q
theorem ab5 {K:W.Frag}{c P:Addr}{O:Expr}{t:TE}{p p0 p1 p2 p3 p4 p5 pl p7 pos:Pos}(L:aI7 X c P)(hc:X.calm=true)(a4:X.A.in1.depth<recursionLimit)(hg:Gl X "max")(hm:X.mg "max" = none)(a3:X.mg "min" = none)(ha:PA X [O] (Zp t aE3))(hK:X.K=K:=by ac_nf)
  (he:backTo pos (starEach [O] X.env)=(false,eval O X.env) :: backTo pos (starEach [] X.env):=by ac_nf) (a6:(backTo pos (starEach [O] X.env)).any (·.1)=false:=by ac_nf) :
  PE X (.Call (.Name "max" p) [O] [⟨some "key",.Lambda (aE2 p0) (aD5 p1 p2 p3 p4 p5) aE0 pl,p7⟩] pos) (aK7 K P pl.line pl.col (X.env.qual ++ "<lambda>") (Zp t aE3)):=by
 subst hK;intro pins s σ H Q I h;refine A23 (Jz I hg hm PyProof.Rows.Boot.«max» ?_);refine callWith_kw (thn (ha pos pins s σ H _ I h) λus s1 ⟨vs,H1,q,r1,Z⟩=>?_) he a6 rfl rfl;obtain⟨J,Z⟩:=Z;refine kws_cons (W.kla_eval rfl ?_)
 have a2:s1.heap.BuiltinsAt X.mg P:=by obtain⟨bm,ob,b1,b2,b3,b4,b5,b6⟩:=L.bi;exact⟨bm,ob,b1,b2,b3,b4,q.bk _ _ b5,b6⟩
 rcases J with J|⟨F,J,hC⟩
 . have hP:=q.hok P _ J;refine W.kla_makeFunction (mg:=X.mg) rfl q.ok.glob (q.mod.glob.keeps q.bk) L.code (L.hd.keeps q.bk) hP trivial rfl L.gP a2 λF a0 h2 tk hx a1 a8 Y a7=>kws_nil ?_;have I2:=Inv.grown (t':=tk) (h':=h2.push (W.kla_obj "<lambda>" (X.env.qual ++ "<lambda>") (aE2 p0) (aD5 p1 p2 p3 p4 p5) aE0 [] ((X.mg "__name__").getD .none) F a0)) q J (λb u hb e=>A02 _ (hx b u hb e)) (A02 _ a7) a1 (Gg Y λo e=>A02 _ e);refine ac3 hc a4 a3 I2 r1 (A0I _ rfl) (Gg Y λo e=>A02 _ e) (Z _ ?_ ?_)
   . intro b o hb e;have U:H1 F=none:=q.hok.fresh a1;rw[At (λz=>by rw[z,U] at e;cases e),At hb];exact e
   have U:H1 F=none:=q.hok.fresh a1;have a5:P≠F:=λz=>by rw[<- z,J] at U;cases U
   exact .inr ⟨F,by rw[At a5,Ae];rfl,Ae⟩
 have hP:=q.hok P _ J;obtain⟨Y,_,_⟩:=q.hok F _ hC;refine W.kla_makeFunctionHit (mg:=X.mg) rfl q.ok.glob (q.mod.glob.keeps q.bk) L.code (L.hd.keeps q.bk) hP trivial (cv:=.ref F) (by simp[codeAmong,rawInt]) a2 λa0 h2 tk hk hsz=>kws_nil ?_;have I2:Inv X pins σ H1 {s1 with heap:=h2.push {cls:=.type "function",data:=.func (W.kla_fn "<lambda>" (X.env.qual ++ "<lambda>") (aE2 p0) (aD5 p1 p2 p3 p4 p5) aE0 [] ((X.mg "__name__").getD .none) (.ref F) a0)},toks:=tk}:=q.kept λb u e=>A02 _ (hk b u e)
 exact ac3 hc a4 a3 I2 r1 (A0I _ rfl) (Gg Y λo e=>A02 _ (hk _ o e)) (Z H1 .refl (.inr ⟨F,J,hC⟩))
end
theorem Fun.okC {P:Program}{w:World}{K:W.Frag}{mg:Str->Option Value}{base:Heap}{x qual:Str}{st:Stmt}{f c:Addr}{fd:FuncData}{N ps:List Str}{k:Nat}{sp:Sp}(F:Fun K x qual st f fd)(U:fd.code = .ref c)(S:Ak N ps (A4 st))(len:∀ vs H Q E,sp vs H Q E->vs.length=ps.length)
  (O:∀(A:Around) (outer:List Env) (s:Shared) (H:Hp) (vs:List V) (Q:VK) (E:XK),Room k (A.deeper (envOfC qual (A4 st) s.heap.objs.size f (.ref c)))->sp vs H Q E ->
   ∃ t,PSs (at4 CX0 P w K mg base N qual (A4 st) f (.ref c) A outer s H E).nox (Ac st) t/\t {nx:=λ_ H'=>Q .non H',rt:=Q} (start N vs) H):FnOk P w K mg base CX0 (k+1) f fd ps sp:=by
 obtain⟨oc,od,kV,a1,pm,an,J,ct,osl,rfl,lk,Y⟩:=F.ex;obtain rfl:J = .ref c:=U;refine aF5 lk Y S len λA outer s H vs Q E Z a0=>?_;obtain⟨t,h,q⟩:=O A outer s H vs Q E Z a0;exact⟨t,h.nox,q⟩
structure aQ8 (K:W.Frag)(mg:Str->Option Value)(base:Heap)(c P:Addr):Prop where
 hd:W.CodeHd base c P
 bi:base.BuiltinsAt mg P
 gP:mainGlobals≠P
theorem LamT.of {P:Addr}{line F:Nat}{qual:Str}{H H':Hp}(h:LamT P line F qual H)(e:∀ b,(∃ ps,H b=some (.tbl ps))\/(∃ φ,H b=some (.ext φ))->∀ o,H b=some o->H' b=some o):LamT P line F qual H':=by
 rcases h with h|⟨q,h1,h2⟩
 . exact .inl (e P (.inl ⟨_,h⟩) _ h)
 exact .inr ⟨q,e P (.inl ⟨_,h1⟩) _ h1,e q (.inr ⟨_,h2⟩) _ h2⟩
theorem LamT.same {P:Addr}{line F:Nat}{qual:Str}{H H':Hp}(h:LamT P line F qual H)(e:Same H H'):LamT P line F qual H':=h.of λb _ o q=>e b o q
theorem LamT.but {P d:Addr}{line F:Nat}{qual:Str}{H H':Hp}{u:HO}(h:LamT P line F qual H)(e:ExtBut d H H')(hd:H d=some u)(h1:∀ ps,u ≠ .tbl ps)(h2:∀ φ,u ≠ .ext φ):LamT P line F qual H':=h.of λb hb o q=>e b o (λz=>by
 subst z;rw[hd] at hb;rcases hb with ⟨ps,hb⟩|⟨φ,hb⟩
 . exact h1 ps (A15 hb)
 exact h2 φ (A15 hb)) q
section
variable {X:Cx}{K:W.Frag}
def ax2 (K:W.Frag):List V->Hp->VK->Prop:=λxs H Q=>∃ b m n,xs=[.ref b]/\SqT K H b [.int m,.int n]/\Q (.int (if n<m then n else m)) H
theorem ag1 (J:X.calm=true):CallR X (.builtin "min") (ax2 X.K):=by
 intro pins s σ H xs us Q I r h;obtain⟨b,m,n,rfl,F,q⟩:=h;obtain⟨u,rfl,O⟩:=Ij r
 cases O;obtain⟨Y,U,pl,_⟩:=I.tuple F;obtain⟨Z,z2,rfl,⟨t1,rfl⟩,⟨t2,rfl⟩⟩:=Vals.two U;exact Xn (I.ok.hd J) pl λu h' tk k=>⟨.int (if n<m then n else m),H,I.kept k,⟨_,rfl⟩,q⟩
theorem Qg (F:X.calm=true)(q:X.K=K:=by ac_nf):CallR X (.builtin "min") (ax2 K):=q ▸ ag1 F
theorem ar0 {H:Hp}{Q:VK}{b:Addr}{m n:Int}(h:SqT K H b [.int m,.int n])(k:Q (.int (if n<m then n else m)) H):ax2 K [.ref b] H Q:=⟨b,m,n,rfl,h,k⟩
def aC4 (K:W.Frag):List V->Hp->VK->Prop:=λxs H Q=>∃ l,∃ ns:List Int,xs=[.ref l]/\SqL K H l (ns.map V.int)/\ns≠[]/\∀ M∈ns,(∀ x∈ns,x<=M)->Q (.int M) H
theorem ai0 (hc:X.calm=true):CallR X (.builtin "max") (aC4 X.K):=by
 intro pins s σ H xs us Q I r h;obtain⟨l,ns,rfl,hS,a5,q⟩:=h;obtain⟨u,rfl,rv⟩:=Ij r
 cases rv;obtain⟨U,a2,pl,_⟩:=I.list hS;have F:=a2.length;rw[A01] at F;have a8:=A52.mpr a5;have a0:l<s.heap.objs.size:=let ⟨_,e,_⟩:=pl.isList;A0D e;have a4:l≠s.heap.objs.size:=A11 a0
 have a1:∀ i v,U.toArray[i]? = some v->∃ t,v=Value.int (ns.getD i 0) t:=λi v O=>by
  rw[A2Y] at O;have hi:i<ns.length:=by rw[F];exact(A00.mp O).1
  obtain⟨u,hu,ru⟩:=a2.get (i:=i) (show(ns.map V.int)[i]? = some (V.int (ns.getD i 0)) by rw[List.getElem?_map];simp[List.getD,List.getElem?_eq_getElem hi]);rw[O] at hu
  cases hu;obtain⟨t,rfl⟩:=ru;exact⟨t,rfl⟩
 refine call_max_walk (A3S pl.isList ?_);refine⟨_,_,_,_,_,_,_,rfl,Walks.list (A:=X.A.in1) (I.ok.hd hc) s.heap.objs.size l a4 U.toArray,⟨⟨_,A0I _ rfl,rfl,rfl⟩,pl.isList.push _⟩,λb hb=>?_,by rw[A0R];omega,CmpOf.ints_gt (λi=>ns.getD i 0) a1,λv h' tk hP hk=>?_⟩
 . show b<(s.heap.push _).objs.size;rw[A20];simp only[List.mem_cons,List.not_mem_nil,or_false] at hb;rcases hb with rfl|rfl
   . exact A2S _
   exact A2O a0
 obtain⟨t,rfl⟩:=a1 _ v hP;obtain⟨b1,Y⟩:=argBest_gt (λi=>ns.getD i 0) (U.toArray.size-1);rw[A0R,<- F] at b1 Y
 have a3:∀ b o,s.heap.get? b=some o->h'.get? b=some o:=λb o e=>hk b o (λz=>by
  have z':b=s.heap.objs.size:=by simpa using z
  have Z:=A0D e;rw[z'] at Z;exact absurd Z (A1P _)) (A02 _ e)
 have J:argBest (λi j=>decide (ns.getD i 0>ns.getD j 0)) (ns.length-1)<ns.length:=by omega
 refine⟨.int (ns.getD (argBest (λi j=>decide (ns.getD i 0>ns.getD j 0)) (ns.length-1)) 0),H,I.kept a3,⟨t,by rw[A0R,<- F]⟩,?_⟩;refine q _ ?_ λx hx=>?_
 . generalize argBest (λi j=>decide (ns.getD i 0>ns.getD j 0)) (ns.length-1)=k0 at J ⊢;rw[A1R,A04 J];exact A4J J
 obtain⟨j,hj⟩:=A1K.mp hx;obtain⟨a6,a7⟩:=A00.mp hj;have:=Y j ∅;rw[show ns.getD j 0=x by rw[A1R,hj];rfl] at this;exact this
theorem Z0 (F:X.calm=true)(q:X.K=K:=by ac_nf):CallR X (.builtin "max") (aC4 K):=q ▸ ai0 F
theorem aH8 {H:Hp}{Q:VK}{l:Addr}{ns:List Int}(h:SqL K H l (ns.map V.int))(q:ns≠[])(k:∀ M∈ns,(∀ x∈ns,x<=M)->Q (.int M) H):aC4 K [.ref l] H Q:=⟨l,ns,rfl,h,q,k⟩
end
section
variable {ns A B:List Str}{pA pB S:List (Str×Str)}
end
abbrev Zc (p:Pos):Arguments:={posonlyargs:=[],args:=[{arg:="name",annotation:=none,pos:=p}],vararg:=none,kwonlyargs:=[],kw_defaults:=[],kwarg:=none,defaults:=[]}
abbrev Z3 (p1 p2 q F J O:Pos):Expr:=.UnaryOp .USub (.Call (.Name "len" p1) [.Subscript (.Name "reach" p2) (.Name "name" q) F] [] J) O
abbrev Uy:Scope:={kind:=.function,names:=[("name",.local),("reach",.free),("len",.globalImplicit)],isGenerator:=false,isCoroutine:=false,more:=[]}
section
variable {prog:Program}{w:World}{A:Around}{E:Value->Shared->Prop}{s:Shared}{Q:Value->Shared->Prop}
theorem ac7 {q c' r rr U:Addr}{qual z:Str}{pm a1:Value}{O:Tok}{p p1 p2 p3 p4 p5 p6:Pos}{mg mb:Str->Option Value}{vs a0:List (Key×Value)}(a9:A.depth<recursionLimit)
  (ho:s.heap.get? q=some (W.kla_obj "<lambda>" qual (Zc p) (Z3 p1 p2 p3 p4 p5 p6) Uy [("reach",U)] pm c' a1)) (a3:s.heap.CodeRec (.ref c') qual) (aC:s.heap.NoLimit)
  (hg:s.heap.Ns mainGlobals mg) (hm:mg "len" = none) (hb:s.heap.Ns builtinsNs mb) (a7:mb "len" = some (.builtin "len"))
  (a4:s.heap.IsCell U (some (.ref r))) (hr:s.heap.DictOf (Ax prog w) r vs) (a6:valueAt vs (Sum.inr z:Key)=some (.ref rr)) (aA:s.heap.DictOf (Ax prog w) rr a0) (aB:(rr==sysModules)=false) (aD:a0.length<2 ^ 63)
  (h:∀ u h' tk,(∀ b o,s.heap.get? b=some o->h'.get? b=some o)->Q (.int (-(a0.length:Int)) u) {s with heap:=h',toks:=tk}) :
  wpAny (model prog w) A (call (.ref q) [.str z O]) Q E s:=by
 refine wpAny_call (W.kla_callFunE a9 ho rfl rfl rfl rfl a3 ?_);rw[show bindArgs (W.kla_fn "<lambda>" qual (Zc p) (Z3 p1 p2 p3 p4 p5 p6) Uy [("reach",U)] pm (.ref c') a1) ⟨[.str z O],[]⟩=(pure [(("name":Str),Value.str z O)]:Sem (List (Str×Value))) from rfl];refine A0K (wpAny_newFunctionEnv (λy Y=>?_) (λy Y=>?_) (λZ a8 a2=>⟨aC.fresh _ a2,?_⟩) rfl)
 . simp only[List.mem_cons,List.not_mem_nil,or_false] at Y;rcases Y with rfl|rfl|rfl<;>simp
 . have:y=(("name":Str),Value.str z O):=by simpa using Y
   rw[this];rfl
 have J:∀ b o,s.heap.get? b=some o->Z.get? b=some o:=λb o e=>a2.extBut b o (A11 (A0D e)) (A02 _ e);refine W.kla_codeExpr ?_;have dk:∀ {a:Addr} {xs:List (Key×Value)},s.heap.DictOf (Ax prog w) a xs->Z.DictOf (Ax prog w) a xs:=fun {a xs} ⟨o,es,ep,e,r⟩=>⟨o,es,ep,J _ _ e,r⟩
 have a5:Z.IsCell U (some (.ref r)):=by obtain⟨o,e1,e2⟩:=a4;exact⟨o,J _ _ e1,e2⟩
 refine UnaryOp_ ?_;refine A23 (A32 rfl rfl (A4D (hg.keeps J) hm (hb.keeps J) a7 ?_) rfl);refine A3U ?_ rfl rfl;refine A2U (aA8 PySem.F.slot_dict_getitem.lookup (λ_ _=>rfl) (A4V (wpAny_loadName_free rfl rfl rfl a5 (A4V (A4W rfl rfl a8 rfl ⟨(dk hr).typeIs,?_⟩) rfl)) rfl));refine wpAny_getItem_of (Pw (k:=Sum.inr z) ⟨O,rfl⟩) (dk hr).mapOf a6 ?_;refine A3Q ?_;refine call_len_dict aB (dk aA) ∅ ?_;exact neg_int (h _ Z _ J)
end
section
variable {X:Cx}{pins:List (Addr×Obj)}{σ:List (Option V)}{H:Hp}{s:Shared}{h':Heap}
theorem ObjOk.got {P:Program}{w:World}{h:Heap}{a:Addr}{o:HO}(x:ObjOk P w H h a o):∃ u,h.get? a=some u:=by
 cases o with
 |lst xs=>obtain⟨_,_,_,_,e⟩:=x;exact⟨_,e⟩
 |tup xs=>obtain⟨_,_,_,o,e,_⟩:=x;exact⟨_,e⟩
 |dK kvs=>obtain⟨_,_,_,_,o,_,_,e,_⟩:=x;exact⟨_,e⟩
 |dT kvs=>obtain⟨_,_,_,_,o,_,_,e,_⟩:=x;exact⟨_,e⟩
 |set S n=>obtain⟨o,_,_,_,e,_⟩:=x;exact⟨_,e⟩
 |ins C dx fs=>obtain⟨_,_,_,e,_⟩:=x;exact⟨_,e⟩
 |own y=>exact x
 |xd fs=>obtain⟨_,⟨_,_,_,e,_⟩,_⟩:=x;exact⟨_,e⟩
 |rng lo hi=>obtain⟨_,_,_,e⟩:=x;exact⟨_,e⟩
 |frz ob u=>obtain⟨e,_⟩:=x;exact⟨_,e⟩
 |tbl ps=>exact⟨_,x⟩
 |met f y=>exact⟨_,x⟩
 |ext φ=>exact x.2.1
theorem Inv.nsedL {t':Nat}{a:Addr}{ob:HO}(I:Inv X pins σ H s)(k:∀ b u,b≠X.env.locals->s.heap.get? b=some u->h'.get? b=some u){m:Str->Option Value}(a3:∀(i:Nat) (x:Str) (v:V),X.N[i]? = some x->σ[i]? = some (some v)->Vis X.env.scope x->∃ u,RelV v u/\aR8 X.env s.heap m x u)(a4:h'.Ns X.env.locals m)(ha:s.heap.get? a=none)(new:ObjOk X.prog X.w (upd H a ob) h' a ob):Inv X pins σ (upd H a ob) {s with heap:=h',toks:=t'}:=by
 have a0:∀ b o,X.s₀.heap.get? b=some o->b≠X.env.locals:=λb o q e=>by have h1:=A0D q;have h2:=I.ok.above;rw[e] at h1;exact absurd (A18 h1 h2) (A1P _)
 have a2:H a=none:=by
  cases e:H a with
  |none=>rfl
  |some o=>
    obtain⟨u,q⟩:=(I.hok a o e).got;rw[ha] at q
    cases q
 have Y:∀ {b:Addr} {o:Obj},s.heap.get? b=some o->b≠a:=fun {b o} e z=>by
  rw[z,ha] at e
  cases e
 have O:∀ {b:Addr} {o:HO},H b=some o->b≠a:=fun {b o} e z=>by rw[z,a2] at e;cases e
 have a1:X.env.locals≠a:=by obtain⟨m,⟨o,es,ep,e,_⟩,_⟩:=I.loc;exact Y e
 refine⟨I.ok,I.os,I.bare,⟨λb o q n hf F=>k b o (a0 b o q) (I.base.keep b o q n hf F),λb o q n hf F=>?_,λb o q n F=>?_,λb o q F=>?_,λb xs q=>?_,λb o u q=>?_,λb ps q=>?_⟩,?_,λx c e=>?_,?_,λx c e=>?_,λp hp=>?_,λb o e=>?_,I.len⟩
 . obtain⟨sl,e⟩:=I.base.slot b o q n hf F;exact⟨sl,k b _ (a0 b o q) e⟩
 . have hb:=I.base.free b o q n F;obtain⟨o',e⟩:=I.base.there b o q F;rw[At (Y e)];exact hb
 . obtain⟨o',e⟩:=I.base.there b o q F;exact⟨o',k b _ (a0 b o q) e⟩
 . have:=I.base.tups b xs q;rw[At (O this)];exact this
 . have:=I.base.frzs b o u q;rw[At (O this)];exact this
 . obtain⟨more,e⟩:=I.base.tbls b ps q;exact⟨more,by rw[At (O e)];exact e⟩
 . refine⟨m,a4,λi x v a b c=>?_⟩;obtain⟨u,r,l⟩:=a3 i x v a b c;refine⟨u,r,?_⟩;rcases l with l|⟨l1,c,l2,l3⟩
   . exact .inl l
   obtain⟨o,J,U⟩:=l3;exact .inr ⟨l1,c,l2,o,k c o (I.cne x c l2) J,U⟩
 . obtain⟨v,o,J,U⟩:=I.cell x c e;exact⟨v,o,k c o (I.cne x c e) J,U⟩
 . rw[At a1];exact I.free
 . obtain⟨v,o,J,U⟩:=I.cell x c e;rw[At (Y J)];exact I.freeC x c e
 . obtain⟨h1,h2,h3,h4,h5⟩:=I.pin p hp;exact⟨k _ _ h3 h1,by rw[At (Y h1)];exact h2,h3,h4,h5⟩
 by_cases z:b=a
 . subst z;rw[Ae] at e
   cases e;exact new
 rw[At z] at e;refine(I.hok b o e).stay (λd u hd q=>k d u (λy=>?_) q) (λd q=>by rw[At (O q)];exact q) λd xs q=>by rw[At (O q)];exact q
 have Z:=I.free;rcases hd with rfl|hd
 . rw[y] at e;rw[e] at Z
   cases Z
 rw[y,Z] at hd
 cases hd
end
section
variable {X:Cx}{pins:List (Addr×Obj)}{σ:List (Option V)}{H:Hp}{s:Shared}
def ad9:Addr->Hp->VK->Prop:=λr H Q=>∃ kvs ns,∃ sz:Str->Nat,Rd H r (.dK kvs)/\kvs.map (·.1)=ns.map (λx=>(Sum.inr x:Key))/\ns.length<64/\(∀ x∈ns,∃ a q,Cj kvs (Sum.inr x:Key)=some (.ref a)/\Rd H a (.dK q)/\q.length=sz x) /\
 ∀ p (ms:List Str),H p=none->ms.Perm ns->ms.Pairwise (λx y=>sz y<=sz x)->Q (.ref p) (upd H p (.lst (ms.map V.str)))
theorem Md:∀ {ns:List Str} {F:List Value},F.length=ns.length->(∀(i:Nat) v,F[i]? = some v->∃ n t,ns[i]? = some n/\v=Value.str n t)->Vals (ns.map V.str) F
 | [],[],_,_=>.nil
 | [],_ :: _,h,_=>by simp at h
 |_ :: _,[],h,_=>by simp at h
 |n :: ns,v :: F,h,q=>by
   obtain⟨O,t,J,rfl⟩:=q 0 v rfl
   cases J;exact .cons ⟨t,rfl⟩ (Md (by simpa using h) λi u hu=>q (i+1) u hu)
theorem Xg {sz:Str->Nat}:∀ {ns:List Str} {vs:List Value},Vals (ns.map V.str) vs->∃ qs:List (Str×Value),qs.map (·.1)=ns/\(ns.map λx=>(-(sz x:Int))).zip vs=qs.map (λq=>(-(sz q.1:Int),q.2))/\∀ q∈qs,RelV (.str q.1) q.2
 | [],vs,h=>by cases h;exact⟨[],rfl,rfl,λq h=>by cases h⟩
 |n :: ns,vs,h=>by
   cases h with
   |cons r h=>
     obtain⟨qs,J,O,U⟩:=Xg (sz:=sz) h;refine⟨(n,_) :: qs,by rw[A0H,J],by rw[A0H,A59,O];rfl,λq F=>?_⟩;rcases A0A.mp F with rfl|F
     . exact r
     exact U q F
theorem aA7 {sz:Str->Nat}{ns:List Str}{vs a1:List Value}(hv:Vals (ns.map V.str) vs)(h:KskOut false (ns.map λx=>(-(sz x:Int))) vs a1):∃ ms:List Str,ms.Perm ns/\ms.Pairwise (λx y=>sz y<=sz x)/\Vals (ms.map V.str) a1:=by
 obtain⟨ps,p1,rfl,Z⟩:=h;obtain⟨qs,U,O,Y⟩:=Xg (sz:=sz) hv;rw[O] at p1
 obtain⟨J,hr1,hr2⟩:∃ J:List (Str×Value),J.Perm qs/\ps=J.map λq=>(-(sz q.1:Int),q.2):=by
  clear Z O U Y hv;generalize hF:(λq:Str×Value=>((-(sz q.1:Int)),q.2))=F at p1 ⊢
  have a2:∀ {a b:List (Int×Value)},a.Perm b->∀ {qs:List (Str×Value)},b=qs.map F->∃ J:List (Str×Value),J.Perm qs/\a=J.map F:=by
   intro a b hp
   induction hp with
   |nil=>intro qs e;exact⟨qs,.refl _,e⟩
   |@cons x l1 l2 _ ih=>
     intro qs e
     match qs,e with
     | [],e=>cases e
     |q :: qs,e=>obtain⟨U,O⟩:=A31 e;obtain⟨J,h1,h2⟩:=ih O;exact⟨q :: J,h1.cons _,by rw[A0H,U,h2]⟩
   |@swap x y l=>
     intro qs e
     match qs,e with
     | [],e=>cases e
     | [q],e=>cases (A31 e).2
     |q1 :: q2 :: qs,e=>obtain⟨U,O⟩:=A31 e;obtain⟨O,Y⟩:=A31 O;exact⟨q2 :: q1 :: qs,.swap ..,by rw[A0H,A0H,U,O,Y]⟩
   |trans _ _ ih1 ih2=>intro qs e;obtain⟨r2,h1,h2⟩:=ih2 e;obtain⟨r1,h3,h4⟩:=ih1 h2;exact⟨r1,h3.trans h1,h4⟩
  exact a2 p1 rfl
 subst hr2;refine⟨J.map (·.1),U ▸ hr1.map _,?_,?_⟩
 . rw[List.pairwise_map] at Z ⊢;refine Z.imp fun {a b} h=>?_;simp only[Bool.false_eq_true,if_false] at h;omega
 rw[A1A,A1A];have a0:∀ q∈J,RelV (.str q.1) q.2:=λq hq=>Y q (hr1.mem_iff.mp hq);clear p1 Z hr1 U O Y hv
 induction J with
 |nil=>exact .nil
 |cons q J ih=>exact .cons (a0 q (A0B ..)) (ih λq' h=>a0 q' (A09 _ h))
theorem Xb {P:Program}{w:World}{H:Hp}{h:Heap}(hok:HOk P w H h){a:Addr}{kvs:List (Key×V)}(r:Rd H a (.dK kvs)):(∃ ob,H a=some ob)/\ObjOk P w H h a (.dK kvs):=by
 rcases r with e|⟨o,e⟩
 . exact⟨⟨_,e⟩,hok _ _ e⟩
 exact⟨⟨_,e⟩,(hok _ _ e).2⟩
theorem Y6 {Q:VK}{r q c' cc:Addr}{qual:Str}{pm aB:Value}{p p1 p2 p3 p4 p5 p6:Pos}(hc:X.calm=true)(aW:X.A.in1.in1.depth<recursionLimit)(aO:X.mg "len" = none)(I:Inv X pins σ H s)
  (ho:s.heap.get? q=some (W.kla_obj "<lambda>" qual (Zc p) (Z3 p1 p2 p3 p4 p5 p6) Uy [("reach",cc)] pm c' aB)) (aJ:s.heap.CodeRec (.ref c') qual) (aK:s.heap.IsCell cc (some (.ref r))) (h:ad9 r H Q) :
  wpAny (model X.prog X.w) X.A (call (.builtin "sorted") [.ref r] [(Str.ofString "key",.ref q)]) (EP X pins σ Q) X.xe s:=by
 obtain⟨kvs,ns,sz,hd,Z,hz,aX,hq⟩:=h;obtain⟨⟨b6,aM⟩,_,hs,vs,a4,dd⟩:=Xb I.hok hd;obtain⟨ep,aG⟩:=dd.dictAt;have b2:=a4.length;have b1:kvs.length=ns.length:=by have:=congrArg List.length Z;simpa using this
 obtain⟨m,hn,aQ⟩:=I.loc;have F:Fr X.base X.env.locals s.heap m:=⟨hn,I.bk,A0O I.ok.bsz I.ok.above⟩;have keep:∀ {h:Heap} {more:List (Addr×Obj)},Fr X.base X.env.locals h m->News X.base X.env.locals h (Ha X.base s.heap X.env.locals++more)->∀ b u,b≠X.env.locals->s.heap.get? b=some u->h.get? b=some u:=λF' O=>Ma I.bk F'.keep O;have b4:∀ {c:Addr} {o:Obj},s.heap.get? c=some o->(∀ m,¬ s.heap.Ns c m)->c≠X.env.locals:=fun {c o} J U z=>U m (z ▸ hn);have trk:∀ {c:Addr} {u:HO},H c=some u->c≠X.env.locals:=fun {c u} e z=>by rw[z,I.free] at e;cases e
 have a3:∀ {c:Addr} {o:Obj},s.heap.get? c=some o->(∀ es ep,o.data ≠ .dict es ep)->c≠X.env.locals:=fun {c o} J U z=>by
  obtain⟨oL,es,ep,e4,e5⟩:=hn;rw[z,e4] at J
  cases J;exact U es ep e5.1
 refine call_function_entry_kw kind_sorted plain_sorted entry_sorted (ksk_s1 _ _) ?_;unfold Builtin.«sorted»;refine A05 (m:=checkCount "sorted" 1 1 _) (A0K ?_);refine wpAny_bind (W.kdu_collect (W.kdl_dict (knd:=Ax X.prog X.w) (kvs:=vs) (ep:=ep) hs) (by simpa using I.ok.hd hc) aG (by rw[sizeLine_eq];omega) λh1 tk acc k1 a5=>?_);have hl:acc.toList.length=vs.length:=by rw[A4Z];exact a5.1
 refine A05 (wpAny_newList ?_ (by rw[hl,A1I];omega))
 have hV:Vals (ns.map V.str) acc.toList:=Md ∅ λi v hv=>by
  obtain⟨k,x,aN,a2⟩:=a5.2 i v (by rw[<- A4P];exact hv)
  have a6:(kvs.map (·.1))[i]? = some k:=by rw[a4.keys,A06,aN];rfl
  rw[Z,A06] at a6;obtain⟨n,aR,rfl⟩:=A29.mp a6;have a2:Tv (Sum.inr n) v=true:=a2;rcases Br a2 with ⟨i',t,J,_⟩|⟨x',t,J,rfl⟩
  . cases J
  cases J;exact⟨n,t,aR,rfl⟩
 have a8:(h1.push (seqObj "list" acc.toList.toArray 0)).get? h1.objs.size=some (seqObj "list" acc.toList.toArray 0):=A0I _ rfl;have k2:∀ b o,s.heap.get? b=some o->(h1.push (seqObj "list" acc.toList.toArray 0)).get? b=some o:=λb o e=>A02 _ (k1 b o e)
 have Y:s.heap.get? h1.objs.size=none:=by
  cases e:s.heap.get? h1.objs.size with
  |none=>rfl
  |some o=>
    have:=k1 _ _ e;rw[Heap.get?_none_of_le (A08 _)] at this
    cases this
 have aT:h1.objs.size≠X.env.locals:=λz=>by
  obtain⟨oL,es,ep,e4,e5⟩:=hn;rw[<- z,Y] at e4
  cases e4
 have aS:X.base.get? h1.objs.size=none:=by
  cases e:X.base.get? h1.objs.size with
  |none=>rfl
  |some o=>
    rw[I.bk _ _ e] at Y
    cases Y
 obtain⟨mb,aH,aI⟩:=I.mod.blt;have aP:(ns.map λx=>(-(sz x:Int))).length=acc.toList.length:=by rw[A01,hl];omega
 refine A05 (A42 (wpAny_call_entry_kw PyProof.Rows.slot_list_sort ⟨_,a8,rfl⟩ PyProof.Rows.entry_list_sort ?body (ksk_l1 _ _)))
 case body=>
  show wpAny (model X.prog X.w) X.A.in1.in1 (Builtin.«list.sort» ⟨[.ref h1.objs.size],[(Str.ofString "key",.ref q)]⟩) _ _ _;rw[ksk_t1];refine ksk_sort (s:={s with heap:=h1.push (seqObj "list" acc.toList.toArray 0),toks:=tk}) (kz:=ns.map λx=>(-(sz x:Int))) (news:=Ha X.base s.heap X.env.locals) (F.kept k2) (News.grown Sk k2) a8 aT aS (λp hp z=>?_) aP ∅ (λi v k hv Z h tk own F' O=>?_) λh' tk aA c F' O k'=>⟨_,rfl,?_⟩
  . have:=(Sk p hp).1;rw[z,Y] at this
    cases this
  . rw[A06] at Z;obtain⟨x,hx,rfl⟩:=A29.mp Z;obtain⟨u,hu,ru⟩:=hV.get (i:=i) (x:=V.str x) (by rw[A06,hx];rfl);rw[hv] at hu
    cases hu;obtain⟨t,rfl⟩:=ru;obtain⟨a,b3,aD,aE,aF⟩:=aX x (A03 hx);obtain⟨⟨b5,aL⟩,aZ,aY,b8,b0,aC⟩:=Xb I.hok aE;have a0:=a4.val (Sum.inr x:Key);rw[aD] at a0
    obtain⟨y,hy,ry⟩:∃ y,valueAt vs (Sum.inr x:Key)=some y/\RelV (.ref a) y:=by
     cases e:valueAt vs (Sum.inr x:Key) with
     |none=>rw[e] at a0;cases a0
     |some y=>rw[e] at a0;exact⟨y,rfl,a0⟩
    cases ry;have dk:∀ {b:Addr} {ob:HO} {xs:List (Key×Value)},H b=some ob->s.heap.DictOf (Ax X.prog X.w) b xs->h.DictOf (Ax X.prog X.w) b xs:=fun {b ob xs} e ⟨o,es,ep,J,z⟩=>⟨o,es,ep,keep F' O _ _ (trk e) J,z⟩;have a7:=b0.length;rw[<- aF,a7];refine ac7 (s:={s with heap:=h,toks:=tk}) (mg:=X.mg) (mb:=mb) aW (keep F' O _ _ (a3 ho λes ep z=>by cases z) ho) ?_ (I.mod.nolimit.keeps F'.keep) (I.mod.glob.keeps F'.keep) aO (aH.keeps F'.keep) ((aI "len" nofun).trans PyProof.Rows.Boot.«len») ?_ (dk aM dd) hy (dk aL aC) aY (by rw[<- a7];rw[A1I] at aZ;omega) λu h2 b7 a1=>?_
    . obtain⟨c,oc,vs,tq,e0,J,U,e3⟩:=aJ
      cases e0;exact⟨c',oc,vs,tq,rfl,keep F' O _ _ (a3 J λes ep z=>by rw[U] at z;cases z) J,U,e3⟩
    . obtain⟨o,J,U⟩:=aK;exact⟨o,keep F' O _ _ (a3 J λes ep z=>by rw[U] at z;cases z) J,U⟩
    exact KskEnd.intro ⟨F'.ns.keeps a1,λb o e=>a1 b o (F'.keep b o e),F'.above⟩ (λp hp=>⟨a1 _ _ (O p hp).1,(O p hp).2⟩) λp hp=>hp
  obtain ⟨ms,a9,aU,aV⟩:=aA7 hV k'
  have hH:H h1.objs.size=none:=by
   cases e:H h1.objs.size with
   |none=>rfl
   |some o=>
     obtain⟨u,q⟩:=(I.hok _ o e).got;rw[Y] at q
     cases q
  refine A0K ⟨_,rfl,.ref h1.objs.size,_,?_,rfl,hq _ ms hH a9 aU⟩;refine I.nsedL (keep (more:=[(h1.objs.size,seqObj "list" aA c)]) F' λp hp=>?_) aQ F'.ns Y ?_
  . rcases A0C.mp hp with hp|hp
    . exact O p (A09 _ hp)
    rw[A0P.mp hp];exact O _ (A0B ..)
  have:=(O _ (A0B ..)).1;exact⟨by rw[List.length_map,a9.length_eq,sizeLine_eq];omega,aA.toList,c,aV,by simpa using this⟩
theorem Inv.cellIs {i:Nat}{x:Str}{q r:Addr}(I:Inv X pins σ H s)(hi:X.N[i]? = some x)(F:X.env.kindOf x=some .cell)(J:X.env.cells.lookup x=some q)(U:σ[i]? = some (some (.ref r))):s.heap.IsCell q (some (.ref r)):=by
 obtain⟨m,_,O⟩:=I.loc;obtain⟨u,Y,lk⟩:=O i x _ hi U (.inr (.inl F))
 cases Y;rcases lk with ⟨z,_⟩|⟨_,c,h1,h2⟩
 . rw[F] at z
   cases z
 rw[J] at h1
 cases h1;exact h2
def aq2 (P:Addr)(line q:Nat)(qual:Str)(i:Nat)(t:TA):TE:=fun σ H Q=>∃ r,σ[i]? = some (some (.ref r))/\t σ H λvs H1=>vs=[.ref r]/\LamT P line q qual H1/\∀ H2,ExtBut P H1 H2->LamT P line q qual H2->ad9 r H2 Q
theorem Z8 {i:Nat}{c P:Addr}{U:Expr}{t:TE}{p p0 p1 p2 p3 p4 p5 p6 pl p7 pos:Pos}(L:aI7 X c P)(hc:X.calm=true)(a8:X.A.in1.in1.depth<recursionLimit)(hg:Gl X "sorted")(hm:X.mg "sorted" = none)(a7:X.mg "len" = none)(hi:X.N[i]? = some ("reach":Str))(hk:X.env.kindOf "reach" = some .cell)(ha:PA X [U] (Zp t aE3))
  (he:backTo pos (starEach [U] X.env)=(false,eval U X.env) :: backTo pos (starEach [] X.env):=by ac_nf) (aA:(backTo pos (starEach [U] X.env)).any (·.1)=false:=by ac_nf) :
  PE X (.Call (.Name "sorted" p) [U] [⟨some "key",.Lambda (Zc p0) (Z3 p1 p2 p3 p4 p5 p6) Uy pl,p7⟩] pos) (aq2 P pl.line pl.col (X.env.qual ++ "<lambda>") i (Zp t aE3)):=by
 intro pins s σ H Q I ⟨r,hσ,h⟩;obtain⟨Y,Z⟩:=I.ok.has "reach" (.inl hk)
 have a5:closureFor Uy X.env=pure [(("reach":Str),Y)]:=by
  rw[Lj (scope:=Uy) (env:=X.env) λy hy e=>?_]
  . show pure (Lp X.env [(("name":Str),NameKind.local),("reach",.free),("len",.globalImplicit)] [])=_;have:Lp X.env [(("name":Str),NameKind.local),("reach",.free),("len",.globalImplicit)] []=[(("reach":Str),(X.env.cells.lookup ("reach":Str)).getD 0)]:=rfl;rw[this,Z];rfl
  simp only[List.mem_cons,List.not_mem_nil,or_false] at hy;rcases hy with rfl|rfl|rfl
  . cases e
  . exact⟨Y,Z⟩
  cases e
 refine A23 (Jz I hg hm PyProof.Rows.Boot.«sorted» ?_);refine callWith_kw (thn (ha pos pins s σ H _ I h) λus s1 ⟨vs,H1,q,r1,q1⟩=>?_) he aA rfl rfl;obtain⟨rfl,J,q1⟩:=q1;obtain⟨v,rfl,rv⟩:=Ij r1
 cases rv;refine kws_cons (W.kla_eval rfl ?_)
 have a4:s1.heap.BuiltinsAt X.mg P:=by obtain⟨bm,ob,b1,b2,b3,b4,b5,b6⟩:=L.bi;exact⟨bm,ob,b1,b2,b3,b4,q.bk _ _ b5,b6⟩
 rcases J with J|⟨F,J,hC⟩
 . have hP:=q.hok P _ J;refine W.kla_makeFunction (mg:=X.mg) a5 q.ok.glob (q.mod.glob.keeps q.bk) L.code (L.hd.keeps q.bk) hP trivial rfl L.gP a4 λF a2 h2 tk hx a3 aC a1 aB=>kws_nil ?_;have O:=Inv.grown (t':=tk) (h':=h2.push (W.kla_obj "<lambda>" (X.env.qual ++ "<lambda>") (Zc p0) (Z3 p1 p2 p3 p4 p5 p6) Uy [("reach",Y)] ((X.mg "__name__").getD .none) F a2)) q J (λb u hb e=>A02 _ (hx b u hb e)) (A02 _ aB) a3 (Gg a1 λo e=>A02 _ e);refine Y6 hc a8 a7 O (A0I _ rfl) (Gg a1 λo e=>A02 _ e) (O.cellIs hi hk Z hσ) (q1 _ ?_ ?_)
   . intro b o hb e;have a0:H1 F=none:=q.hok.fresh a3;rw[At (λz=>by rw[z,a0] at e;cases e),At hb];exact e
   have a0:H1 F=none:=q.hok.fresh a3;have a9:P≠F:=λz=>by rw[<- z,J] at a0;cases a0
   exact .inr ⟨F,by rw[At a9,Ae];rfl,Ae⟩
 have hP:=q.hok P _ J;obtain⟨a1,_,_⟩:=q.hok F _ hC;refine W.kla_makeFunctionHit (mg:=X.mg) a5 q.ok.glob (q.mod.glob.keeps q.bk) L.code (L.hd.keeps q.bk) hP trivial (cv:=.ref F) (by simp[codeAmong,rawInt]) a4 λa2 h2 tk a6 hsz=>kws_nil ?_;have O:Inv X pins σ H1 {s1 with heap:=h2.push {cls:=.type "function",data:=.func (W.kla_fn "<lambda>" (X.env.qual ++ "<lambda>") (Zc p0) (Z3 p1 p2 p3 p4 p5 p6) Uy [("reach",Y)] ((X.mg "__name__").getD .none) (.ref F) a2)},toks:=tk}:=q.kept λb u e=>A02 _ (a6 b u e)
 exact Y6 hc a8 a7 O (A0I _ rfl) (Gg a1 λo e=>A02 _ (a6 _ o e)) (O.cellIs hi hk Z hσ) (q1 H1 .refl (.inr ⟨F,J,hC⟩))
end
theorem way_said {ps:List (Str×Str)}{x y a b:Str}:Way (ps++[(x,y)]) a b↔Way ps a b\/((a=x\/Way ps a x)/\(y=b\/Way ps y b)):=by
 have up:∀ {u v:Str},Way ps u v->Way (ps++[(x,y)]) u v:=fun {u v} h=>by
  induction h with
  |one e=>exact .one (A0M _ e)
  |cons e _ ih=>exact .cons (A0M _ e) ih
 have q:Way (ps++[(x,y)]) x y:=.one (A12 _ (A0P.mpr rfl));constructor
 . exact a63
 rintro(h|⟨h1,h2⟩)
 . exact up h
 have F:Way (ps++[(x,y)]) a y:=by
  rcases h1 with rfl|h1
  . exact q
  exact(up h1).trans q
 rcases h2 with rfl|h2
 . exact F
 exact F.trans (up h2)
theorem a91 {α:Type}[DecidableEq α]{b:α->α->Bool}:∀ {r:List α},(∀ u∈r,b u u=false)->r.Pairwise (λu v=>b u v=true/\b v u=false)->2*(r.map λx=>(r.filter (b x)).length).sum=r.length*(r.length-1)
 | [],_,_=>rfl
 |a :: t,hi,hp=>by
   rw[A2I] at hp;have U:=a91 (r:=t) (λu hu=>hi u (A09 _ hu)) hp.2
   have q:((a :: t).filter (b a)).length=t.length:=by rw[List.filter_cons_of_neg (by rw[hi a (A0B ..)];decide),A3A.mpr λv J=>(hp.1 v J).1]
   have F:(t.map λx=>((a :: t).filter (b x)).length)=t.map λx=>(t.filter (b x)).length:=A0W λx O=>by rw[List.filter_cons_of_neg (by rw[(hp.1 x O).2];decide)]
   rw[A0H,A1H,q,F,Nat.mul_add,U,A0G,A4B]
   cases t.length with
   |zero=>rfl
   |succ n=>simp only[Nat.add_sub_cancel,Nat.add_mul,Nat.mul_add];omega
def szW (ns:List Str)(ps:List (Str×Str))(x:Str):Nat:=(ns.filter λy=>Aa ps x y).length
section
variable {ns row:List Str}{ps:List (Str×Str)}
theorem ak0 (h:HalfW ns ps)(e:ext (Aa ps) ns.length ns=[row]){x y:Str}(q:x∈ns)(J:y∈ns)(F:x≠y):Aa ps x y=true\/Aa ps y x=true:=by
 have O:cnt (Aa ps) ns=1:=by unfold cnt;rw[e];rfl
 have h2:=Ox h q J F
 cases h3:Aa ps x y with
 |true=>exact .inl rfl
 |false=>
   cases h4:Aa ps y x with
   |true=>exact .inr rfl
   |false=>have:=(Qh h q J F).mpr (by unfold unB;rw[h3,h4];rfl);omega
theorem Sl (h:HalfW ns ps)(e:ext (Aa ps) ns.length ns=[row]):row.Perm ns/\okR (Aa ps) row:=(Cr (Aa ps) ns.length ns row h.nd rfl).mp (by rw[e];exact A0P.mpr rfl)
theorem Iy (h:HalfW ns ps)(x:Str):Aa ps x x=false:=by
 cases e:Aa ps x x with
 |false=>rfl
 |true=>exact absurd (wayB_iff.mp e) (h.irr x)
theorem av0 (h:HalfW ns ps)(e:ext (Aa ps) ns.length ns=[row]):2*(ns.map (szW ns ps)).sum=ns.length*(ns.length-1):=by
 obtain⟨hp,J⟩:=Sl h e;have hn:row.Nodup:=hp.nodup_iff.mpr h.nd
 have F:(ns.map (szW ns ps)).sum=(row.map λx=>(row.filter λy=>Aa ps x y).length).sum:=by rw[<- (hp.map (szW ns ps)).sum_nat];refine congrArg List.sum (A0W λx _=>?_);exact((hp.filter λy=>Aa ps x y).length_eq).symm
 rw[F,<- hp.length_eq];refine a91 (b:=Aa ps) (λu _=>Iy h u) ?_;refine(A1Y.mpr fun {u v} F=>?_);have h1:=A1Y.mp J.2 F;have h2:u≠v:=A1Y.mp hn F;have hu:u∈ns:=hp.mem_iff.mp (F.subset (A0B ..));have O:v∈ns:=hp.mem_iff.mp (F.subset (A09 _ (A0B ..)));rcases ak0 h e hu O h2 with q|q
 . exact⟨q,h1⟩
 rw[h1] at q
 cases q
theorem Z1 (h:HalfW ns ps)(e:ext (Aa ps) ns.length ns=[row]){ms:List Str}(hp:ms.Perm ns)(J:ms.Pairwise λx y=>szW ns ps y<=szW ns ps x):ms=row:=by
 have:ms∈ext (Aa ps) ns.length ns:=(Cr (Aa ps) ns.length ns ms h.nd rfl).mpr ⟨hp,λu _=>Iy h u,A1Y.mpr fun {u v} F=>?_⟩
 . rw[e] at this;exact A0P.mp this
 have h1:=A1Y.mp J F;have hu:u∈ns:=hp.mem_iff.mp (F.subset (A0B ..));have O:v∈ns:=hp.mem_iff.mp (F.subset (A09 _ (A0B ..)))
 cases q:Aa ps v u with
 |false=>rfl
 |true=>exfalso;have:szW ns ps u<szW ns ps v:=Go (λa _ ha=>wayB_iff.mpr ((wayB_iff.mp q).trans (wayB_iff.mp ha))) ⟨u,hu,q,Iy h u⟩;omega
end
inductive PlanP (ns:List Str):List (Str×Str)->PyData->Nat->Prop
 |fin {ps:List (Str×Str)} {row:List Str}:ext (Aa ps) ns.length ns=[row]->PlanP ns ps (.tuple [.str "end",nmD row]) 0
 |ask {ps:List (Str×Str)} {x y:Str} {D E:PyData} {m n:Nat}:x∈ns->y∈ns->x≠y->unB ps x y=true->PlanP ns (ps++[(x,y)]) D m->PlanP ns (ps++[(y,x)]) E n->PlanP ns ps (.tuple [.str "ask",.str x,.str y,D,E]) (1+max m n)
theorem HalfW.saidP {ns:List Str}{ps:List (Str×Str)}(h:HalfW ns ps)(U:ps.length<1000){x y:Str}(F:x∈ns)(O:y∈ns)(J:x≠y)(hu:unB ps x y=true):HalfW ns (ps++[(x,y)]):=by have q:=h.more F O;refine⟨h.nd,q.mem,Vf h.irr (λz=>J z.symm) λg=>?_,h.few,by rw[A07,A16];omega⟩;unfold unB at hu;rw[wayB_iff.mpr g] at hu;simp at hu
theorem Ob {ps:List (Str×Str)}{x y:Str}(hu:unB ps x y=true):unB ps y x=true:=by unfold unB at hu ⊢;rw[A57];exact hu
section
variable {X:Cx}
def ap0:List V->Hp->VK->Prop:=λxs H Q=>∃ o kvs,xs=[V.ref o]/\Rd H o (.dK kvs)/\∀ p,H p=none->Q (.ref p) (upd H p (.dK kvs))
theorem Qu:CallR X (.type "dict") ap0:=by
 intro pins s σ H xs us Q I Z h;obtain⟨o,kvs,rfl,hd,q⟩:=h;obtain⟨u,rfl,Y⟩:=Z.one
 cases Y;obtain⟨⟨ob,he⟩,hz,U,vs,F,J⟩:=Xb I.hok hd;have hl:=F.length;refine kt_call_dict U J ∅ λh' O hb=>?_;refine⟨.ref s.heap.objs.size,_,I.laid (λb o e=>(hb.2 b (A11 (A0D e))).trans (A02 _ e)) (A08 _) (Ut hz ?_ F O),rfl,q _ (I.hok.fresh (A08 _))⟩;exact A1L.mpr (A4N I.big)
theorem af3 {o:Addr}{kvs:List (Key×V)}{H:Hp}{Q:VK}(h:Rd H o (.dK kvs))(k:∀ p H',H p=none->Same H H'->H' p=some (.dK kvs)->Q (.ref p) H'):ap0 [.ref o] H Q:=
 ⟨o,kvs,rfl,h,λp hp=>k p _ hp (Same.upd hp) Ae⟩
def aP6:List V->Hp->VK->Prop:=λxs H Q=>∃ a kvs,xs=[V.ref a]/\Rd H a (.dK kvs)/\Q (.int kvs.length) H
theorem Oe:CallR X (.builtin "len") aP6:=by
 intro pins s σ H xs us Q I r h;obtain⟨a,kvs,rfl,ha,q⟩:=h;obtain⟨u,rfl,Y⟩:=Ij r
 cases Y;obtain⟨⟨ob,he⟩,hz,O,vs,U,F⟩:=Xb I.hok ha;have J:=U.length;refine call_len_dict O F (by rw[A1I] at hz;omega) ?_;rw[<- J];exact⟨.int kvs.length,H,I.tok _,⟨_,rfl⟩,q⟩
theorem a52 {a:Addr}{kvs:List (Key×V)}{H:Hp}{Q:VK}(h:Rd H a (.dK kvs))(k:Q (.int kvs.length) H):aP6 [.ref a] H Q:=⟨a,kvs,rfl,h,k⟩
theorem as9 {K:W.Frag}{a:Addr}{kvs:List (Key×V)}{z:Str}{v:V}{H:Hp}{Q:VK}(h:Rd H a (.dK kvs))(e:Cj kvs (Sum.inr z:Key)=some v)(k:Q (.bl true) H):Xr K false (.str z) (.ref a) H Q:=by refine .inr (.inr (.inl ⟨a,Cj kvs (Sum.inr z:Key),rfl,.inl ⟨_,Sum.inr z,h,rfl,rfl⟩,?_⟩));rw[e];simpa using k
theorem at0 {P:Addr}{line q:Nat}{qual:Str}{i:Nat}{t:TA}{σ:St}{H:Hp}{Q:VK}{r:Addr}(h:σ[i]? = some (some (.ref r)))(k:t σ H λvs H1=>vs=[.ref r]/\LamT P line q qual H1/\∀ H2,ExtBut P H1 H2->LamT P line q qual H2->ad9 r H2 Q):aq2 P line q qual i t σ H Q:=⟨r,h,k⟩
end
section
variable {prog:Program}{w:World}{A:Around}{E:Value->Shared->Prop}{s:Shared}
end
section
variable {X:Cx} {K:W.Frag}
end
theorem a81 {α:Type}{p q:α->Bool}:∀ {l:List α},(∀ a∈l,p a=true->q a=true)->(l.filter p).length<=(l.filter q).length
 | [],_=>A08 _
 |a :: l,h=>by
   have J:=a81 (l:=l) λb hb=>h b (A09 _ hb);have ha:=h a (A0B ..);rw[A19,A19]
   by_cases hp:p a=true
   . rw[A0Z hp,A0Z (ha hp),A0G,A0G];omega
   rw[A0Q hp]
   by_cases F:q a=true
   . rw[A0Z F,A0G];omega
   rw[A0Q F];exact J
section
variable {ps ps':List (Str×Str)}
theorem aN3 (h:∀ x y,unB ps' x y=true->unB ps x y=true):∀ ns:List Str,(unP ns ps').length<=(unP ns ps).length
 | []=>by rw[show unP [] ps'=[] from rfl];exact A2J _
 |a :: t=>by rw[Ih,Ih];have h1:=aN3 h t;have h2:=a81 (l:=t) (p:=λy=>unB ps' a y) (q:=λy=>unB ps a y) λy _=>h a y;omega
theorem aC0 (h:∀ x y,unB ps' x y=true->unB ps x y=true){x y:Str}(J:x≠y)(h1:unB ps x y=true)(h2:unB ps' x y=false):∀ {ns:List Str},x∈ns->y∈ns->(unP ns ps').length<(unP ns ps).length
 | [],hx,_=>by cases hx
 |a :: t,hx,hy=>by
   have O:∀ qs:List (Str×Str),unB qs y x=unB qs x y:=λqs=>by unfold unB;rw[Bool.and_comm]
   rw[Ih,Ih];have U:=aN3 h t;have Y:=a81 (l:=t) (p:=λz=>unB ps' a z) (q:=λz=>unB ps a z) λz _=>h a z;rcases A0A.mp hx with e|hx'
   . subst e;have F:y∈t:=(A0A.mp hy).resolve_left (Ne.symm J);have:=Go (p:=λz=>unB ps' x z) (q:=λz=>unB ps x z) (l:=t) (λz _=>h x z) ⟨y,F,h1,h2⟩;omega
   rcases A0A.mp hy with e|F
   . subst e;have:=Go (p:=λz=>unB ps' y z) (q:=λz=>unB ps y z) (l:=t) (λz _=>h y z) ⟨x,hx',by rw[O];exact h1,by rw[O];exact h2⟩;omega
   have:=aC0 h J h1 h2 hx' F;omega
theorem ab7:∀ ns:List Str,2*(unP ns ps).length<=ns.length*(ns.length-1)
 | []=>A08 _
 |a :: t=>by
   rw [Ih,A0G,A4B];have h1:=ab7 t;have h2:(t.filter λy=>unB ps a y).length<=t.length:=A0T _ _
   cases ht:t.length with
   |zero=>rw[ht] at h1 h2;omega
   |succ n=>rw[ht,A4B] at h1;rw[ht] at h2;simp only[Nat.add_mul,Nat.mul_add] at h1 ⊢;omega
end
theorem Ss {ps:List (Str×Str)}{x y:Str}:(∀ a b,unB (ps++[(x,y)]) a b=true->unB ps a b=true)/\unB (ps++[(x,y)]) x y=false:=by
 constructor
 . intro a b h;unfold unB at h ⊢;rw[A14,Bool.not_eq_true',Bool.not_eq_true'] at h ⊢;refine⟨?_,?_⟩
   . cases e:Aa ps a b with
     |false=>rfl
     |true=>rw[wayB_iff.mpr (way_said.mpr (.inl (wayB_iff.mp e)))] at h;cases h.1
   cases e:Aa ps b a with
   |false=>rfl
   |true=>rw[wayB_iff.mpr (way_said.mpr (.inl (wayB_iff.mp e)))] at h;cases h.2
 unfold unB;rw[wayB_iff.mpr (way_said.mpr (.inr ⟨.inl rfl,.inl rfl⟩))];rfl
theorem PlanP.le_un {ns:List Str}{ps:List (Str×Str)}{D:PyData}{m:Nat}(p:PlanP ns ps D m):m<=(unP ns ps).length:=by
 induction p with
 |fin e=>exact A2J _
 |@ask ps x y D E m n hx hy hxy hu _ _ i1 i2=>have q:=aC0 (Ss (ps:=ps) (x:=x) (y:=y)).1 hxy hu Ss.2 hx hy;have F:=aC0 (Ss (ps:=ps) (x:=y) (y:=x)).1 (Ne.symm hxy) (Ob hu) Ss.2 hy hx;omega
theorem PlanP.le45 {ns:List Str}{ps:List (Str×Str)}{D:PyData}{m:Nat}(p:PlanP ns ps D m)(h:ns.length<=10):m<=45:=by have h1:=p.le_un;have h2:=ab7 (ps:=ps) ns;have q:ns.length*(ns.length-1)<=10*9:=A2K h ∅;omega
section
variable {X:Cx}{k:Nat}{C:Addr}{x:Str}{ps:List Str}{sp:Sp}{e:Expr}{es:List Expr}{t:TA}{p pos:Pos}{E:XK}
end
section
variable {C:Addr}{sp:Sp}{t:TA}{σ:St}{H:Hp}{Q:VK}{E:XK}
end
def ac1 (Ps:List Addr)(H:Hp):Prop:=(∀ p∈Ps,H p=some (.tbl #[]))/\∀ b,b∉Ps->H b=none\/∃ o xs,H b=some (.frz o (.lst xs))
theorem Yw {P:Program}{w:World}{K:W.Frag}{mg mb:Str->Option Value}{CX:CXT}{k:Nat}{fa a:Addr}{Ps:List Addr}{fd:FuncData}{x:Str}{sp:Sp}{J:Shared}{vs:List Value}{ns:List Int}
  (KX:K.In J.heap) (a6:J.heap.Ns mainGlobals mg) (hb:J.heap.Ns builtinsNs mb) (aE:∀ x:Str,x ≠ "__name__" -> mb x=bootBuiltins x) (aG:J.heap.NoLimit) (hg:J.gens = #[])
  (ha:J.heap.get? a=some {cls:=.type "list",data:=.seq vs.toArray}) (hi:IntsAre vs ns) (hl:ns.length<=sizeLine) (hr:Room k callerA)
  (Y:∀ p∈Ps,J.heap.get? p=some (W.tabObj #[])) (aC:∀ p∈Ps,∃ c,W.CodeHd J.heap c p) (aD:∀ p∈Ps,K.lookup p=none) (a9:∀ p∈Ps,J.heap.BuiltinsAt mg p)
  (F:∀ base:Heap,K.In base->base.Ns mainGlobals mg->(∀ p∈Ps,base.BuiltinsAt mg p)->FnOk P w K mg base CX k fa fd [x] sp) (aF:∀(s:Shared) (u:Value),BindsTo s fd ⟨[u],[]⟩ [(x,u)])
  (aH:∀ H:Hp,ac1 Ps H->SqL K H a (ns.map V.int)->sp [.ref a] H (λv _=>v = .bl true) λ_ _ _=>False)
  (aB:∀ H e s',CX [] H J (λ_ _ _=>False) e s'->False) :
  codeAny (model P w) callerA (.call (.ref fa) ⟨[.ref a],[]⟩) (λr s'=>r = .ok (.ret (.bool true))/\OldK J.heap s'.heap/\s'.os=J.os/\AllBare s'.gens) J:=by
 have rv:=Tg hi;have aI:=hi.length;have a5:a∉Ps:=λz=>by rw[Y a z] at ha;cases ha
 have a3:∀ H:Hp,ac1 Ps H->SqL K H a (ns.map V.int)->HOk P w H J.heap->(∀ b,H b≠none->b=a\/b∈Ps)->(H a≠none->K.lookup a=none) ->
   codeAny (model P w) callerA (.call (.ref fa) ⟨[.ref a],[]⟩) (λr s'=>r = .ok (.ret (.bool true))/\OldK J.heap s'.heap/\s'.os=J.os/\AllBare s'.gens) J:=by
  intro H hO hS hok hA hK;have a0:∀ {b:Addr} {o:Obj},J.heap.get? b=some o->H b=none->(ai8 J.heap H).get? b=some o:=λe n=>aj9 e n
  have a8:∀ {b:Addr} {o:Obj},J.heap.get? b=some o->(∀ zs n,o.data ≠ .seq zs n)->(∀ zs,o.data ≠ .fields zs)->H b=none:=fun {b o} e d1 d2=>by
   cases q:H b with
   |none=>rfl
   |some u=>
     rcases hA b (by rw[q];simp) with e'|e'
     . subst e';rw[ha] at e;cases e;exact absurd rfl (d1 _ _)
     rw[Y b e'] at e;cases e;exact absurd rfl (d2 _)
  have Z:∀ {b:Addr} {m:Str->Option Value},J.heap.Ns b m->(ai8 J.heap H).Ns b m:=fun {b m} ⟨o,es,ep,e,d,r⟩=>⟨o,es,ep,a0 e (a8 e (λ_ _ z=>by rw[d] at z;cases z) λ_ z=>by rw[d] at z;cases z),d,r⟩
  have a4:K.In (ai8 J.heap H):=λb o e=>a0 (KX b o e) (by
   cases q:H b with
   |none=>rfl
   |some u=>
     rcases hA b (by rw[q];simp) with e'|e'
     . subst e';rw[hK (by rw[q];simp)] at e;cases e
     rw[aD b e'] at e;cases e)
  have hM:Mod K mg (ai8 J.heap H):=⟨a4,Z a6,⟨mb,Z hb,aE⟩,let ⟨mc,h1,h2⟩:=aG;⟨mc,Z h1,h2⟩⟩
  have aA:∀ p∈Ps,(ai8 J.heap H).BuiltinsAt mg p:=λp hp=>by obtain⟨bm,ob,b1,b2,b3,b4,b5,b6,b7,b8⟩:=a9 p hp;exact⟨bm,ob,b1,b2,b3,b4,a0 b5 (a8 b5 (λ_ _ z=>by rw[b8] at z;cases z) λ_ z=>by rw[b8] at z;cases z),b6,b7,b8⟩
  have e0:Env0 P w K mg (ai8 J.heap H) callerA [] J H:=⟨rfl,hM,λb o e=>aB1 e,Nat.le_of_eq (a87 _ _),trivial,λb hb=>absurd (show b∈([]:List Addr) from hb) (by simp),hok,.of_eq hg⟩;refine codeAny_mono ((F _ a4 (Z a6) aA).run callerA [] J H ⟨[.ref a],[]⟩ [.ref a] [.ref a] _ _ hr e0 (aF J (.ref a)) (.cons rfl .nil) (aH H hO hS)) λr s' h=>?_
  cases r with
  |error e=>exact(aB H e s' h).elim
  |ok fl=>
    cases fl with
    |next=>exact False.elim h
    |brk=>exact False.elim h
    |cont=>exact False.elim h
    |ret u=>
      obtain⟨v,H',os,bare,un,a7,r',q⟩:=h;have q':v = .bl true:=q;subst q';obtain rfl:u=Value.bool true:=r'
      have a2:∀ p∈Ps,∃ ps,s'.heap.get? p=some (W.tabObj ps):=λp hp=>by obtain⟨more,z⟩:=un.tbls p _ (hO.1 p hp);exact ⟨_,a7 p _ z⟩
      have keep:∀ b o,b∉Ps->J.heap.get? b=some o->s'.heap.get? b=some o:=λb o hb e=>by
       cases q:H b with
       |none=>exact un.keep b o e q (by intro z;exact absurd (show b∈([]:List Addr) from z) (by simp)) (by simp)
       |some u=>
         rcases hO.2 b hb with z|⟨ob,xs,z⟩
         . rw[q] at z;cases z
         have z2:=un.frzs b ob _ z;obtain⟨e1,_⟩:=hok b _ z;obtain⟨e2,_⟩:=a7 b _ z2;rw[e] at e1;cases e1;exact e2
      refine⟨rfl,⟨λb o e=>?_,λb o e=>?_⟩,os,bare⟩
      . by_cases hb:b∈Ps
        . obtain⟨ps,hp⟩:=a2 b hb;obtain⟨c,hC⟩:=aC b hb;have hT:=(hC.tab (Y b hb)).isCodeTable;rw[Y b hb] at e
          cases e;exact .inr (.inl ⟨hT,rfl,#[],ps,rfl,by rw[Array.empty_append];exact hp⟩)
        exact .inl (keep b o hb e)
      by_cases hb:b∈Ps
      . obtain⟨ps,hp⟩:=a2 b hb;exact⟨_,hp⟩
      exact⟨o,keep b o hb e⟩
 cases hk:K.lookup a with
 |some o=>
   have e:=KX a o hk;rw[ha] at e
   cases e;refine a3 (λb=>if b∈Ps then some (.tbl #[]) else none) ⟨λp hp=>if_pos hp,λb hb=>.inl (if_neg hb)⟩ (.inr ⟨_,vs.toArray,_,hk,rfl,rfl,rfl,by rw[List.size_toArray,aI];exact hl,by simpa using rv⟩) (λb u z=>?_) (λb z=>?_) λz=>?_
   . by_cases hb:b∈Ps
     . have U:=(A0Z hb).symm.trans z
       cases U;exact Y b hb
     have U:=(A0Q hb).symm.trans z
     cases U
   . by_cases hb:b∈Ps
     . exact .inr hb
     exact absurd (A0Q hb) z
   exact absurd (A0Q a5) z
 |none=>
   refine a3 (λb=>if b=a then some (.frz {cls:=.type "list",data:=.seq vs.toArray} (.lst (ns.map V.int))) else if b∈Ps then some (.tbl #[]) else none) ⟨λp hp=>(A0Q (λz:p=a=>a5 (z ▸ hp))).trans (A0Z hp),λb hb=>?_⟩ (.inl (.inr ⟨{cls:=.type "list",data:=.seq vs.toArray},A0Z rfl⟩)) (λb u z=>?_) (λb z=>?_) λ_=>hk
   . by_cases O:b=a
     . exact .inr ⟨_,_,A0Z O⟩
     exact .inl ((A0Q O).trans (A0Q hb))
   . by_cases O:b=a
     . have U:=(A0Z O).symm.trans z
       cases U;subst O;exact⟨ha,by rw[A01];exact hl,vs,_,rv,ha⟩
     have U:=(A0Q O).symm.trans z
     by_cases hb:b∈Ps
     . have a1:=(A0Z hb).symm.trans U
       cases a1;exact Y b hb
     have a1:=(A0Q hb).symm.trans U
     cases a1
   by_cases O:b=a
   . exact .inl O
   by_cases hb:b∈Ps
   . exact .inr hb
   exact absurd ((A0Q O).trans (A0Q hb)) z
theorem walk_ofTs {l:W.OpenLaw}{n k:Nat}{q:Program}{loose:List Str}{XP:(Str->Option Value)->Heap->Prop}{Z:World->Heap->Prop}{d:DefRec}{K:Params->W.Frag}{CX:World->CXT}{sp:World->Sp}{x:Str}{Ps:List Addr}
  (hn:l.most=some n) (hn2:n<=sizeLine) (hdf:d.params.defaults=[]) (hr:Room k callerA)
  (hY:∀(w:World) (h:Heap),Z w h->(K w.params).In h) (hYT:∀(w:World) (h:Heap),Z w h->∀ p∈Ps,h.get? p=some (W.tabObj #[])) (hKP:∀(w:World),∀ p∈Ps,(K w.params).lookup p=none)
  (F:∀(w:World) (mg:Str->Option Value) (O:Addr) (h:Heap),(K w.params).In h->h.Ns mainGlobals mg->mg d.name=some (.ref O) ->
   ∃ fd:FuncData,(∀ p∈Ps,∃ c,W.codeHdIn (K w.params) c p=true)/\(∀(s:Shared) (u:Value),BindsTo s fd ⟨[u],[]⟩ [(x,u)]) /\
    ∀ base:Heap,(K w.params).In base->base.Ns mainGlobals mg->(∀ p∈Ps,base.BuiltinsAt mg p)->FnOk l.prog w (K w.params) mg base (CX w) k O fd [x] (sp w))
  (hsp:∀(w:World) (H:Hp) (a:Addr) (ns:List Int),ns.length<=n->ac1 Ps H->SqL (K w.params) H a (ns.map V.int)->sp w [.ref a] H (λv _=>v = .bl true) λ_ _ _=>False)
  (hCX:∀(w:World) (H:Hp) (s:Shared) (e:Value) (s':Shared),CX w [] H s (λ_ _ _=>False) e s'->False) :
  W.WalkO q loose XP Z l.row.toRowW d [] (λf vs=>PySem.call f vs):=by
 refine Att.attach_call hn hdf λw s₀ s₁ mg mb O o pm cd doc a vs ns G Y ho hd hcd hmg hobj hints hlen hg=>?_;have U:=hY w _ Y;have hPt:=hYT w _ Y
 have hBi:∀ p∈Ps,s₁.heap.BuiltinsAt mg p:=λp hp=>by
  obtain⟨bm,ob,b1,b2,J,b4,b5,b6⟩:=G.T.bmain;refine⟨bm,ob,b1,b2,λz=>?_,λz=>?_,J,b4,b5,b6⟩
  . obtain⟨o',es,ep,e,hd',_⟩:=G.T.g;rw[z,e] at J
    cases J;rw[hd'] at b6
    cases b6
  rw[z,hPt p hp] at J
  cases J
  cases b4
 obtain⟨fd,hC,hb,hF⟩:=F w mg O _ U G.T.g hmg
 have hCd:∀ p∈Ps,∃ c,W.CodeHd s₁.heap c p:=λp hp=>by obtain⟨c,h⟩:=hC p hp;exact⟨c,W.codeHd_of_K U h⟩
 exact Yw U G.T.g G.T.b G.T.builtins G.T.nolimit hg hobj hints (A0O hlen hn2) hr hPt hCd (hKP w) hBi hF hb (λH hO hS=>hsp w H a ns hlen hO hS) λH e s'=>hCX w H s₁ e s'
theorem LamT.other {P Q:Addr}{line F Y O:Nat}{qual Z:Str}{H H':Hp}(h:LamT Q line F qual H)(U:LamT P Y O Z H)(J:P≠Q)(e:ExtBut P H H'):LamT Q line F qual H':=by
 have q:∃ ps,H P=some (.tbl ps):=by
  rcases U with h|⟨c,h,_⟩
  . exact⟨_,h⟩
  exact⟨_,h⟩
 obtain⟨ps,q⟩:=q;rcases h with h|⟨c,h1,h2⟩
 . exact .inl (e _ _ (Ne.symm J) h)
 refine .inr ⟨c,e _ _ (Ne.symm J) h1,e _ _ (λz=>?_) h2⟩;rw[z,q] at h2;unfold Nx at h2
 cases h2
def aM0:List V->Hp->VK->Prop:=λxs H Q=>∃ i j k:Int,xs=[.int i,.int j,.int k]/\Q (.int (if j<i then(if k<j then k else j) else(if k<i then k else i))) H
theorem a76 {X:Cx} (J:X.calm=true):CallR X (.builtin "min") aM0:=by
 intro pins s σ H xs us Q I r h;obtain ⟨i,j,k,rfl,q⟩:=h
 cases r with
 |cons r1 r=>
   cases r with
   |cons r2 r=>
     cases r with
     |cons r3 r=>
       cases r;obtain⟨t1,rfl⟩:=r1;obtain⟨t2,rfl⟩:=r2;obtain⟨U,rfl⟩:=r3;refine min_three_ints (I.ok.hd J) λh' tk O=>⟨_,H,I.kept O,?_,q⟩
       by_cases h1:j<i<;>by_cases h2:k<j<;>by_cases F:k<i<;>simp only[h1,h2,F,if_true,if_false]<;>exact⟨_,rfl⟩
theorem aJ5 {H:Hp}{Q:VK}{i j k:Int}(q:Q (.int (if j<i then(if k<j then k else j) else(if k<i then k else i))) H):aM0 [.int i,.int j,.int k] H Q:=⟨i,j,k,rfl,q⟩
section
variable {K:W.Frag}{C B:Addr}{hf i0:Bool}{fs:List Str}
end
end L2
namespace K67
open PySem L2 PySem.Spec PyProof.Rows
def top (i:Nat):Stmt:=PySem.Challenge.pw_halforder_k67_planned.main.body.getD i (.Pass ⟨0,0,0,0⟩)
abbrev Bd:Stmt:=top 8
theorem Gs:Ak ["half","asked","name"] ["half","asked"] (A4 Bd):=⟨rfl,rfl,rfl,by decide +kernel,rfl,by decide +kernel,by decide +kernel⟩
abbrev Ct:Stmt:=top 9
theorem Cf:Ak ["half","names","reach","saying","middle","name"] ["half"] (A4 Ct):=⟨rfl,rfl,rfl,by decide +kernel,rfl,by decide +kernel,by decide +kernel⟩
abbrev Jh:Stmt:=top 10
theorem L8:Ak ["half","reach","pairs","one"] ["half"] (A4 Jh):=⟨rfl,rfl,rfl,by decide +kernel,rfl,by decide +kernel,by decide +kernel⟩
abbrev B8:Stmt:=top 11
theorem Jw:Ak ["reach","pair"] ["reach","pair"] (A4 B8):=⟨rfl,rfl,rfl,by decide +kernel,rfl,by decide +kernel,by decide +kernel⟩
abbrev Qi:Stmt:=top 12
theorem a93:Ak ["half","reach"] ["half"] (A4 Qi):=⟨rfl,rfl,rfl,by decide +kernel,rfl,by decide +kernel,by decide +kernel⟩
abbrev Du:Stmt:=top 13
theorem Su:Ak ["reach","one","other"] ["reach","one","other"] (A4 Du):=⟨rfl,rfl,rfl,by decide +kernel,rfl,by decide +kernel,by decide +kernel⟩
abbrev En:Stmt:=top 14
theorem Fq:Ak ["reach","names","pairs","place","one"] ["reach"] (A4 En):=⟨rfl,rfl,rfl,by decide +kernel,rfl,by decide +kernel,by decide +kernel⟩
abbrev Jn:Stmt:=top 15
theorem a90:Ak ["half"] ["half"] (A4 Jn):=⟨rfl,rfl,rfl,by decide +kernel,rfl,by decide +kernel,by decide +kernel⟩
abbrev Hr:Stmt:=top 17
theorem Hs:Ak ["names","bits","bit","name"] ["names"] (A4 Hr):=⟨rfl,rfl,rfl,by decide +kernel,rfl,by decide +kernel,by decide +kernel⟩
abbrev Dt:Stmt:=top 18
theorem G0:Ak ["half","bits","reach","found","name"] ["half","bits"] (A4 Dt):=⟨rfl,rfl,rfl,by decide +kernel,rfl,by decide +kernel,by decide +kernel⟩
abbrev Lz:Stmt:=top 20
theorem Xf:Ak ["half","ways"] ["half"] (A4 Lz):=⟨rfl,rfl,rfl,by decide +kernel,rfl,by decide +kernel,by decide +kernel⟩
abbrev Bx:Stmt:=top 22
theorem Bn:Ak ["sayings","start","goal","ways","waiting","name","number","saying"] ["sayings","start","goal"] (A4 Bx):=⟨rfl,rfl,rfl,by decide +kernel,rfl,by decide +kernel,by decide +kernel⟩
abbrev Hq:Stmt:=top 24
theorem Ze:Ak ["names","sayings"] ["names","sayings"] (A4 Hq):=⟨rfl,rfl,rfl,by decide +kernel,rfl,by decide +kernel,by decide +kernel⟩
abbrev Qw:Stmt:=top 25
theorem a69:Ak ["half","name","other","back"] ["half","name","other"] (A4 Qw):=⟨rfl,rfl,rfl,by decide +kernel,rfl,by decide +kernel,by decide +kernel⟩
abbrev Fc:Stmt:=top 28
theorem Gk:Ak ["ways","left","number","still","name","rest"] ["ways","left","number"] (A4 Fc):=⟨rfl,rfl,rfl,by decide +kernel,rfl,by decide +kernel,by decide +kernel⟩
abbrev Gd:Stmt:=top 29
theorem Nn:Ak ["half","number","ways"] ["half","number"] (A4 Gd):=⟨rfl,rfl,rfl,by decide +kernel,rfl,by decide +kernel,by decide +kernel⟩
abbrev Dw:Stmt:=top 31
theorem Ef:Ak ["ways","comings","left","name","rest"] ["ways"] (A4 Dw):=⟨rfl,rfl,rfl,by decide +kernel,rfl,by decide +kernel,by decide +kernel⟩
abbrev Ep:Stmt:=top 32
theorem C1:Ak ["half","ways","comings","found","left","name","rest","many","other"] ["half"] (A4 Ep):=⟨rfl,rfl,rfl,by decide +kernel,rfl,by decide +kernel,by decide +kernel⟩
abbrev Fe:Stmt:=top 33
theorem M9:Ak ["half","shares"] ["half"] (A4 Fe):=⟨rfl,rfl,rfl,by decide +kernel,rfl,by decide +kernel,by decide +kernel⟩
abbrev Qe:Stmt:=top 34
theorem ad4:Ak ["half","found"] ["half"] (A4 Qe):=⟨rfl,rfl,rfl,by decide +kernel,rfl,by decide +kernel,by decide +kernel⟩
abbrev Cm:Stmt:=top 36
theorem G5:Ak ["half","question","one","other"] ["half"] (A4 Cm):=⟨rfl,rfl,rfl,by decide +kernel,rfl,by decide +kernel,by decide +kernel⟩
abbrev Hi:Stmt:=top 37
theorem Z6:Ak ["half"] ["half"] (A4 Hi):=⟨rfl,rfl,rfl,by decide +kernel,rfl,by decide +kernel,by decide +kernel⟩
abbrev Cv:Stmt:=top 39
theorem Pp:Ak ["thing","size"] ["thing","size"] (A4 Cv):=⟨rfl,rfl,rfl,by decide +kernel,rfl,by decide +kernel,by decide +kernel⟩
abbrev Bv:Stmt:=top 41
theorem Lf:Ak ["reach","one","other"] ["reach","one","other"] (A4 Bv):=⟨rfl,rfl,rfl,by decide +kernel,rfl,by decide +kernel,by decide +kernel⟩
abbrev Fa:Stmt:=top 42
theorem Ud:Ak ["reach"] ["reach"] (A4 Fa):=⟨rfl,rfl,rfl,by decide +kernel,rfl,by decide +kernel,by decide +kernel⟩
abbrev Ce:Stmt:=top 43
theorem Ow:Ak ["reach"] ["reach"] (A4 Ce):=⟨rfl,rfl,rfl,by decide +kernel,rfl,by decide +kernel,by decide +kernel⟩
abbrev Dv:Stmt:=top 44
theorem G7:Ak ["reach","one","other","more","found","name"] ["reach","one","other"] (A4 Dv):=⟨rfl,rfl,rfl,by decide +kernel,rfl,by decide +kernel,by decide +kernel⟩
abbrev Ek:Stmt:=top 46
theorem Vr:Ak ["thing"] ["thing"] (A4 Ek):=⟨rfl,rfl,rfl,by decide +kernel,rfl,by decide +kernel,by decide +kernel⟩
abbrev Jk:Stmt:=top 47
theorem a08:Ak ["thing"] ["thing"] (A4 Jk):=⟨rfl,rfl,rfl,by decide +kernel,rfl,by decide +kernel,by decide +kernel⟩
abbrev Gf:Stmt:=top 48
theorem Wa:Ak ["reach","plan"] ["reach","plan"] (A4 Gf):=⟨rfl,rfl,rfl,by decide +kernel,rfl,by decide +kernel,by decide +kernel⟩
abbrev Fd:Stmt:=top 49
theorem Hy:Ak ["reach","plan","path","word","first","second"] ["reach","plan","path"] (A4 Fd):=⟨rfl,rfl,rfl,by decide +kernel,rfl,by decide +kernel,by decide +kernel⟩
abbrev Er:Stmt:=top 50
theorem T4:Ak ["half","plan"] ["half","plan"] (A4 Er):=⟨rfl,rfl,rfl,by decide +kernel,rfl,by decide +kernel,by decide +kernel⟩
abbrev Ew:Stmt:=top 52
theorem Ui:Ak ["_law_script"] ["_law_script"] (A4 Ew):=⟨rfl,rfl,rfl,by decide +kernel,rfl,by decide +kernel,by decide +kernel⟩
abbrev Fh:Stmt:=top 53
theorem Fo:Ak ["_law_feed_here","_law_many","_law_cell","_law_mixed","_law_found"] ["_law_feed_here","_law_many"] (A4 Fh):=⟨rfl,rfl,rfl,by decide +kernel,rfl,by decide +kernel,by decide +kernel⟩
abbrev Ds:Stmt:=top 54
theorem Av:Ak ["_law_feed_here","_law_many","_law_letters","_law_start","_law_way","_law_size","_law_at","_law_names_here","_law_head","_law_tail","_law_turn"] ["_law_feed_here","_law_many"] (A4 Ds):=⟨rfl,rfl,rfl,by decide +kernel,rfl,by decide +kernel,by decide +kernel⟩
abbrev C7:Stmt:=top 55
theorem Dg:Ak ["_law_feed_here","_law_some","_law_left","_law_found","_law_k"] ["_law_feed_here","_law_some"] (A4 C7):=⟨rfl,rfl,rfl,by decide +kernel,rfl,by decide +kernel,by decide +kernel⟩
abbrev Dn:Stmt:=top 56
theorem B4:Ak ["_law_feed_here","_law_line","_law_many","_law_way","_law_found","_law_k","_law_at","_law_cut","_law_one"] ["_law_feed_here","_law_line"] (A4 Dn):=⟨rfl,rfl,rfl,by decide +kernel,rfl,by decide +kernel,by decide +kernel⟩
abbrev Cg:Stmt:=top 57
theorem Eg:Ak ["_law_feed_here","_law_line","_law_found","_law_pair","_law_turn"] ["_law_feed_here","_law_line"] (A4 Cg):=⟨rfl,rfl,rfl,by decide +kernel,rfl,by decide +kernel,by decide +kernel⟩
abbrev Em:Stmt:=top 58
theorem M7:Ak ["_law_feed_here","_law_most","_law_names_here"] ["_law_feed_here","_law_most"] (A4 Em):=⟨rfl,rfl,rfl,by decide +kernel,rfl,by decide +kernel,by decide +kernel⟩
abbrev Cy:Stmt:=top 59
theorem Bk:Ak ["_law_half_here","_law_rows","_law_k","_law_longer","_law_row","_law_left","_law_later"] ["_law_half_here"] (A4 Cy):=⟨rfl,rfl,rfl,by decide +kernel,rfl,by decide +kernel,by decide +kernel⟩
abbrev Dp:Stmt:=top 60
theorem Kx:Ak ["_law_orders_here","_law_one","_law_other","_law_ahead"] ["_law_orders_here","_law_one","_law_other"] (A4 Dp):=⟨rfl,rfl,rfl,by decide +kernel,rfl,by decide +kernel,by decide +kernel⟩
abbrev Bw:Stmt:=top 61
theorem Bl:Ak ["_law_names_here","_law_orders_here","_law_found","_law_k","_law_other","_law_ahead","_law_hind"] ["_law_names_here","_law_orders_here"] (A4 Bw):=⟨rfl,rfl,rfl,by decide +kernel,rfl,by decide +kernel,by decide +kernel⟩
abbrev Gb:Stmt:=top 62
theorem B2:Ak ["_law_feed_here","_law_names_here","_law_left","_law_level","_law_sayings_here","_law_many","_law_size","_law_fresh","_law_one"] ["_law_feed_here"] (A4 Gb):=⟨rfl,rfl,rfl,by decide +kernel,rfl,by decide +kernel,by decide +kernel⟩
abbrev Ez:Stmt:=top 63
theorem Ve:Ak ["_law_feed_here","_law_half_here"] ["_law_feed_here","_law_half_here"] (A4 Ez):=⟨rfl,rfl,rfl,by decide +kernel,rfl,by decide +kernel,by decide +kernel⟩
abbrev Cn:Stmt:=top 64
theorem Ca:Ak ["_law_names_here","_law_plan","_law_orders_here","_law_some","_law_most","_law_ahead","_law_hind","_law_one","_law_other"] ["_law_names_here","_law_plan","_law_orders_here"] (A4 Cn):=⟨rfl,rfl,rfl,by decide +kernel,rfl,by decide +kernel,by decide +kernel⟩
abbrev R5:Stmt:=top 65
theorem Qo:Ak ["_law_script","_law_feed_here","_law_halves","_law_half_here","_law_found","_law_deep"] ["_law_script"] (A4 R5):=⟨rfl,rfl,rfl,by decide +kernel,rfl,by decide +kernel,by decide +kernel⟩
abbrev Fi:Stmt:=We (top 19) 0
theorem T7:Ak ["self","half"] ["self","half"] (A4 Fi):=⟨rfl,rfl,rfl,by decide +kernel,rfl,by decide +kernel,by decide +kernel⟩
abbrev Bm:Stmt:=We (top 19) 1
theorem L9:Ak ["self","left"] ["self","left"] (A4 Bm):=⟨rfl,rfl,rfl,by decide +kernel,rfl,by decide +kernel,by decide +kernel⟩
abbrev C4:Stmt:=We (top 19) 2
theorem Ou:Ak ["self","left"] ["self","left"] (A4 C4):=⟨rfl,rfl,rfl,by decide +kernel,rfl,by decide +kernel,by decide +kernel⟩
structure Ey (mg:Str->Option Value):Prop where
 g_MOST_LISTED:∃ u,mg "MOST_LISTED" = some u/\RelV (.int 720) u
 b_any:mg "any" = none
 b_dict:mg "dict" = none
 b_enumerate:mg "enumerate" = none
 b_int:mg "int" = none
 b_isinstance:mg "isinstance" = none
 b_len:mg "len" = none
 b_list:mg "list" = none
 b_max:mg "max" = none
 b_min:mg "min" = none
 b_range:mg "range" = none
 b_repr:mg "repr" = none
 b_reversed:mg "reversed" = none
 b_sorted:mg "sorted" = none
 b_str:mg "str" = none
 b_sum:mg "sum" = none
 b_tuple:mg "tuple" = none
structure Ed (K:W.Frag)(C:Addr):Prop where
 cl:Cls K C
 n_names:NoAttr K C "names"
 n_bits:NoAttr K C "bits"
 n_ahead:NoAttr K C "ahead"
 n_full:NoAttr K C "full"
 n_known:NoAttr K C "known"
section
variable {P:Program}{w:World}{K:W.Frag}{mg:Str->Option Value}{base:Heap}
local macro_rules | `(tactic| walk_at "lk") => L2.mRows "as | Same.lk e h: e=as h=lk | ExtBut.lk e h n: e=as n=ne h=lk | no"
local macro_rules | `(tactic| walk_at "ne") => L2.mRows "as | Ne.symm q: q=as | ne_of_none h g: g=as h=lk | ne_none2 h g: g=as h=lk | ne_of h g z: h=as g=as z=nc | no"
local macro_rules | `(tactic| walk_at "nc") => `(tactic| (intro z; cases z))
local macro_rules | `(tactic| walk_at "fr") => L2.mRows "ExtBut.refl | ExtBut.trans a b: b=as a=fr | ExtBut.same a b: b=as a=fr | ExtBut.off a q b: b=as q=as a=fr | no"
local macro_rules | `(tactic| walk_at "sm") => L2.mRows "same_refl | Same.trans a b: b=as a=sm | Same.off a q b: b=as q=as a=sm | no"
local macro_rules | `(tactic| walk_at "fd") => L2.mRows "as | Feed.same h e: e=as h=fd | Feed.off h e q f: e=as q=as f=as h=fd | no"
local macro_rules | `(tactic| walk_at "fz1") => L2.mRows "Same.fz b: b=as | ExtBut.fzL b l: b=as l=lk | ExtBut.fzD b l: b=as l=lk | Feed.fz f b: b=as f=fd | no"
local macro_rules | `(tactic| walk_at "fz") => L2.mRows "fz_refl | Fz.trans a x: x=fz1 a=fz | no"
local macro_rules | `(tactic| walk_at "sd") => `(tactic| first | omega | (show (0 : Int) < _; omega) | (unfold aT4; omega) | (unfold CMul; omega) | (unfold aS6; omega) | (unfold aS6; decide) | (refine ⟨?_, ?_⟩ <;> omega) | decide)
local macro_rules | `(tactic| walk_at "sz") => `(tactic| first | decide | exact Ab (by omega) | (rw [sizeLine_eq]; omega))
local macro_rules | `(tactic| walk_at "kv") => `(tactic| rfl)
local macro_rules | `(tactic| walk_at "rq1") => do
 let a <- L2.mAlts "i_asg i_gname i_ret i_drop i_if i_op i_un i_call i_cb i_cons i_nil i_c i_put i_tTest i_tB i_not i_and i_or i_tup i_lst i_next i_sl i_noPart i_part i_int i_for i_rng1 i_rng2 i_comp i_itS i_iany i_ienum i_ienumL i_irev i_chain i_andV i_orV i_notV i_dget1 i_tAt i_sSt i_tMe i_tMk i_tTru i_dget2 i_iDT i_bmT i_rU i_rI0 i_addI i_bl i_bm i_bm0 i_reprKB i_isN i_isNotN i_isB i_isNotB i_true i_tyS i_find i_intB i_inS i_pair i_pair0 iteR iteNR iteNbb itebb iteT iteF iteNT iteNF"
 let b <- L2.mRows "i_var w _: w=kv | i_rI w _: w=sd | i_mulBI w _: w=sd | i_tyLm w _: w=lk | i_ixD w v _: w=lk v=kv | i_eqS w _: w=kv | i_neS w _: w=kv | i_slS w _: w=sz | i_addS w _: w=sz | i_lenS w _: w=sz | i_lenL w _: w=lk | i_lenT w _: w=lk | i_cutN w _: w=ar"
 let c <- L2.mAltG "i_seqAG i_seqDG i_seqPG"
 `(tactic| first | $c:tactic | $a:tactic | $b:tactic)
local macro_rules | `(tactic| walk_at "rd1") => `(tactic| first | with_reducible refine aE7 fun N hN => ?_ | walk_at "rq1")
local macro_rules | `(tactic| walk_at "rq") => `(tactic| repeat (walk_at "rq1"))
local macro_rules | `(tactic| walk_at "rd") => `(tactic| repeat (walk_at "rd1"))
def Fw (l:Addr)(a t u:Int):List (Key×V):=[(Sum.inr "cells",.ref l),(Sum.inr "at",.int a),(Sum.inr "left",.int t),(Sum.inr "turn",.int u)]
def Feed (H:Hp)(d l:Addr):Prop:=∃(a t u:Int) (ns:List Int),H d=some (.dK (Fw l a t u))/\H l=some (.lst (ns.map V.int))/\0<ns.length/\ns.length<=64
def J9 (K:W.Frag):Sp:=λvs H Q _=>∃(a:Addr) (ns:List Int),vs=[.ref a]/\SqL K H a (ns.map V.int)/\ns.length<=63/\∀ d l H',H d=none->H l=none->Same H H'->Feed H' d l->Q (.ref d) H'
def C0 (K:W.Frag):Sp:=λvs H Q _=>∃ d l n,vs=[.ref d,.int n]/\Feed H d l/\0<n/\n<1073741824/\∀ r H',0<=r->r<n->ExtBut d H H'->Feed H' d l->Q (.int r) H'
theorem aj3 {l:Addr}{a t u:Int}:Cj (Fw l a t u) (Sum.inr "cells":Key)=some (.ref l):=by rfl
theorem aS4 {l:Addr}{a t u:Int}:Cj (Fw l a t u) (Sum.inr "at":Key)=some (.int a):=by rfl
theorem au7 {l:Addr}{a t u:Int}:Cj (Fw l a t u) (Sum.inr "left":Key)=some (.int t):=by rfl
theorem au8 {l:Addr}{a t u:Int}:Cj (Fw l a t u) (Sum.inr "turn":Key)=some (.int u):=by rfl
local macro_rules | `(tactic| walk_at "kv") => `(tactic| first | exact aj3 | exact aS4 | exact au7 | exact au8 | rfl)
theorem ao0 {l:Addr}{a t u x:Int}:G3 (Fw l a t u) (Sum.inr "turn":Key) (.int x)=Fw l a t x:=by rfl
theorem aF7 {l:Addr}{a t u x:Int}:G3 (Fw l a t u) (Sum.inr "at":Key) (.int x)=Fw l x t u:=by rfl
theorem Rw {l:Addr}{a t u x:Int}:G3 (Fw l a t u) (Sum.inr "left":Key) (.int x)=Fw l a x u:=by rfl
theorem Feed.same {H H':Hp}{d l:Addr}(h:Feed H d l)(e:Same H H'):Feed H' d l:=let ⟨a,t,u,ns,h1,h2,h3,h4⟩:=h;⟨a,t,u,ns,e _ _ h1,e _ _ h2,h3,h4⟩
theorem Feed.put {H H':Hp}{d l p:Addr}(h:Feed H d l)(e:ExtBut p H H')(hd:d≠p)(q:l≠p):Feed H' d l:=let ⟨a,t,u,ns,h1,h2,h3,h4⟩:=h;⟨a,t,u,ns,e _ _ hd h1,e _ _ q h2,h3,h4⟩
theorem Feed.nd {H:Hp}{d l p:Addr}(h:Feed H d l)(hp:H p=none):d≠p:=let ⟨_,_,_,_,h1,_⟩:=h;ne_of_none h1 hp
theorem Feed.nl {H:Hp}{d l p:Addr}(h:Feed H d l)(hp:H p=none):l≠p:=let ⟨_,_,_,_,_,h2,_⟩:=h;ne_of_none h2 hp
theorem Feed.lst {H:Hp} {d l b:Addr} {xs:List V} (h:Feed H d l) (hb:H b=some (.lst xs)):b≠d:=let ⟨_,_,_,_,h1,_⟩:=h;ne_of hb h1 (by intro z;cases z)
theorem Feed.free {H H':Hp}{d l p:Addr}(h:Feed H' d l)(e:ExtBut d H H')(hp:H' p=none):H p=none:=by
 cases hq:H p with
 |none=>rfl
 |some o=>
   obtain⟨_,_,_,_,h1,_⟩:=h;have n:p≠d:=λq=>by subst q;rw[hp] at h1;cases h1
   rw[e p o n hq] at hp
   cases hp
theorem Feed.fz {H H':Hp}{d l:Addr}(h:Feed H d l)(e:ExtBut d H H'):Fz H H':=let ⟨_,_,_,_,h1,_⟩:=h;e.fzD h1
theorem Feed.off {H H1 H2:Hp}{d l q:Addr}(h:Feed H1 d l)(e:ExtBut q H1 H2)(J:H q=none)(F:Feed H d l):Feed H2 d l:=h.put e (F.nd J) (F.nl J)
theorem Tt {f:Addr}{fd:FuncData}(F:Fun K "_law_draw" "_law_draw" Fh f fd)(T:Ey mg):FnOk P w K mg base CX0 1 f fd ["_law_feed_here","_law_many"] (C0 K):=by
 refine F.ok Fo (λvs H Q E h=>?_) (λaA A outer s H vs Q E hr h=>?_)
 . obtain⟨d,l,n,rfl,_⟩:=h;rfl
 obtain⟨d,l,n,rfl,⟨a,t,u,ns,hd,hl,Z,a0⟩,hn,aC,k⟩:=h;have hu:=Bj hr;have hq:=Bi hr;have O:l≠d:=ne_of hl hd (by intro z;cases z)
 with_reducible refine⟨_,(A3 (Ff hu (pv 0) B3 (Ap (An (K:=K)) (Ad (A6 (K:=K) hu) (pv 0) B3 (by ac_rfl)) A5) ⋯)
  (A3 (Co (Aj (Ck (K:=K) hq) (Ad (A6 (K:=K) hu) (pv 0) B3 (by ac_rfl)) A5 (Aw _)) (A3 (A9 (i:=2) Fo.nd ⋯ (by eq_refl) (Ad (A6 (K:=K) hu) (Ad (A6 (K:=K) hu) (pv 0) B3 (by ac_rfl)) (Ap Me (Ad (A6 (K:=K) hu) (pv 0) B3 (by ac_rfl)) (Am (Bp (K:=K)) ⋯ T.b_len PyProof.Rows.Boot.«len» (A1 (Ad (A6 (K:=K) hu) (pv 0) B3 (by ac_rfl)) A2))) (by ac_rfl)))
  (A3 (Ff hu (pv 0) B3 (Ap (An (K:=K)) (Ad (A6 (K:=K) hu) (pv 0) B3 (by ac_rfl)) A5) ⋯)
  (A3 (Co (Aj Yr (pv 2) (Ap aG4 A5 A5) (Aw _)) (A3 (A9 (i:=3) Fo.nd ⋯ (by eq_refl) (Ap Me (Ap Dh (Ap (An (K:=K)) (Ap Me (pv 2) A5) (Ap Dh A5 (Ad (A6 (K:=K) hu) (pv 0) B3 (by ac_rfl)))) A5) A5))
  (A3 (A9 (i:=3) Fo.nd ⋯ (by eq_refl) (Ap Me (Ap Dh (Ap (An (K:=K)) (Ap Na (pv 3) A5) (Ap Dh A5 (Ad (A6 (K:=K) hu) (pv 0) B3 (by ac_rfl)))) A5) A5))
  (A7 (Ao (Ap Me (Ap Na (pv 3) A5) (pv 1)))))) Ay)
  (A7 (Ff hu (pv 0) B3 (pv 2) ⋯))))) Ay)
  (A3 (A9 (i:=4) Fo.nd ⋯ (by eq_refl) (Ap Me (Ad (A6 (K:=K) hu) (pv 0) B3 (by ac_rfl)) (pv 1)))
  (A3 (Ff hu (pv 0) B3 (Ap Na (Ad (A6 (K:=K) hu) (pv 0) B3 (by ac_rfl)) (pv 1)) ⋯)
  (A7 (Ao (pv 4))))))),?_⟩
 symm
 refine Iw hd (by show 4<1000;decide) λH1 U a1=>?_;rw[ao0] at a1;have a2:H1 l=some (.lst (ns.map V.int)):=U _ _ O hl
 symm
 refine aU8 (λht=>?_) (λht=>?_)
 . symm
   have a5:(0:Int)<((ns.map V.int).length:Nat):=by rw[A01];omega
   refine i_rI a5 ?_;have a9:0<=a % (((ns.map V.int).length:Nat):Int):=A47 _ ∅;have aB:=A3L a a5
   obtain⟨c,hc⟩:∃ c,(ns.map V.int)[(a % (((ns.map V.int).length:Nat):Int)).toNat]? = some (V.int c):=by refine⟨ns[(a % (((ns.map V.int).length:Nat):Int)).toNat]'(by rw[A01] at *;omega),?_⟩;rw[A06,A04];rfl
   refine Ln a2 (by have:=Dz hc;rwa[A2R a9] at this) ?_
   symm
   refine Iw a1 (by show 4<1000;decide) λH2 q J=>?_;rw[aF7] at J;have Y:H2 l=some (.lst (ns.map V.int)):=q _ _ O a2
   symm
   refine aU8 (λa6=>?_) (λa6=>?_)
   . symm
     exact k _ H2 (A47 _ ∅) (A3L _ hn) (U.trans q) ⟨_,_,_,ns,J,Y,Z,a0⟩
   symm
   refine Iw J (by show 4<1000;decide) λH3 e3 a3=>?_;rw[Rw] at a3;have a7:H3 l=some (.lst (ns.map V.int)):=e3 _ _ O Y
   symm
   refine Iw a3 (by show 4<1000;decide) λH4 e4 a4=>?_;rw[Rw] at a4;have a8:H4 l=some (.lst (ns.map V.int)):=e4 _ _ O a7
   symm
   exact k _ H4 (A47 _ ∅) (A3L _ hn) (((U.trans q).trans e3).trans e4) ⟨_,_,_,ns,a4,a8,Z,a0⟩
 symm
 refine Iw a1 (by show 4<1000;decide) λH2 q J=>?_;rw[Rw] at J;have Y:H2 l=some (.lst (ns.map V.int)):=q _ _ O a2
 symm
 exact k _ H2 (A47 _ ∅) (A3L _ hn) (U.trans q) ⟨_,_,_,ns,J,Y,Z,a0⟩
theorem ab8 (ns:List Int)(h:ns.length<=63):∃ ms:List Int,Pr (ns.map V.int) none (some 63)++(List.replicate (if(PyData.list (ns.map PyData.int)).eqv (PyData.list (([]:List Int).map PyData.int))=true then(1:Int) else 0).toNat [V.int 0]).flatten=ms.map V.int/\0<ms.length/\ms.length<=64:=by
 have q:Pr (ns.map V.int) none (some 63)=ns.map V.int:=by
  unfold Pr
  have e:HT.sIx (ns.map V.int).length (ns.map V.int).length (some 63)=(ns.map V.int).length:=by have:=HT.sIx_nat (ns.map V.int).length (ns.map V.int).length 63;rw[A01] at *;rw[show((63:Nat):Int)=(63:Int) from rfl] at this;rw[this];omega
  rw[HT.sIx_none,e,List.drop_zero,Nat.sub_zero,A0U]
 rw[q]
 cases ns with
 |nil=>exact⟨[0],by simp[PyData.eqv,PyData.eqvAll],by decide,by decide⟩
 |cons n r=>exact⟨n :: r,by simp[PyData.eqv,PyData.eqvAll],by simp,by omega⟩
theorem T2 {f:Addr}{fd:FuncData}(F:Fun K "_law_feed" "_law_feed" Ew f fd)(T:Ey mg):FnOk P w K mg base CX0 1 f fd ["_law_script"] (J9 K):=by
 refine F.ok Ui (λvs H Q E h=>?_) (λa7 A outer s H vs Q E hr h=>?_)
 . obtain⟨a,ns,rfl,_⟩:=h;rfl
 obtain⟨a,ns,rfl,hS,a0,k⟩:=h;have hu:=Bj hr;have hq:=Bi hr
 with_reducible refine⟨_,(A7 (Ao (Sn (Il B3 (Ap (An (K:=K)) (B0 (Qq (K:=K)) ⋯ T.b_list PyProof.Rows.Boot.«list» (A1 (Bt (Sz (K:=K)) (pv 0) Fb (Bq A5)) A2)) (Ap Dh (Ci (A1 A5 A2)) (B0 Vy ⋯ T.b_int PyProof.Rows.Boot.«int» (A1 (Gh (Ck (K:=K) hq) (pv 0) (Ci A2) (Aw _)) A2)))) (Il B3 A5 (Il B3 A5 (Il B3 A5 Rp)))) ⋯ ⋯ nofun nofun))),?_⟩
 symm
 refine Xe λp H1 hp J a8=>?_
 symm
 have a1:=J.seq hS;refine Mn a1 λq H2 a9 O a2=>?_
 symm
 refine aA2 (SqL.of a2) λr H3 aA U aB=>?_
 symm
 refine Ch nofun λz H4 aE Y aF=>?_
 symm
 refine Ch nofun λy H5 aD Z a6=>?_;refine aA1 (Y4 (Z.seq (Y.seq (U.seq (O.seq a1))))) (Y4 (ns:=[]) (SqL.of a6)) (W.ke_shaped_ints ns) (W.ke_shaped_ints []) ?_
 symm
 refine ay6 (xs:=[V.int 0]) (by walk_at "lk") ?_ ?_ λx H6 aC e6 a5=>?_
 . split<;>omega
 . split<;>decide
 refine Vk (xs:=Pr (ns.map V.int) none (some 63)) (by walk_at "lk") a5 ?_ λv H7 a3 e7 a4=>?_
 . obtain⟨ms,e,h1,h2⟩:=ab8 ns a0;rw[<- A07,e,A01];exact A0O h2 nofun
 symm
 refine Rx [(Sum.inr "cells",.ref v),(Sum.inr "at",.int 0),(Sum.inr "left",.int 0),(Sum.inr "turn",.int 0)] (by walk_at "lk") (by rfl) (by show 4<=15;decide) λH8 e8 h8=>?_;have en:H8 p=some (.dK (Fw v 0 0 0)):=h8;refine k p v H8 hp ?_ ?_ ⟨0,0,0,?_⟩
 . exact J.free (O.free (U.free (Y.free (Z.free (e6.free a3)))))
 . exact λb o hb=>e8 b o (ne_of_none hb hp) (e7 _ _ (e6 _ _ (Z _ _ (Y _ _ (U _ _ (O _ _ (J _ _ hb)))))))
 obtain⟨ms,e,h1,h2⟩:=ab8 ns a0;rw[e] at a4;exact⟨ms,en,by walk_at "lk",h1,h2⟩
def Ga (K:W.Frag):Sp:=λvs H Q _=>∃ d l n,vs=[.ref d,.int n]/\Feed H d l/\0<=n/\n<=10/\∀ p ns H',H p=none->ExtBut d H H'->Feed H' d l->H' p=some (.lst (ns.map V.str))->Names ns->ns.length=n.toNat->Q (.ref p) H'
def MN (H:Hp)(d l:Addr)(n st way sz q:Int):L2.St->Hp->Prop:=fun σ' H'=>∃ p ns F J,σ'=[some (V.ref d),some (.int n),some (.str LL),some (.int st),some (.int way),some (.int (1+sz)),some (.int q),some (.ref p),F,J,none]/\H p=none/\ExtBut d H H'/\Feed H' d l/\H' p=some (.lst (ns.map V.str))/\Names ns/\ns.length=10
theorem Sc {f:Addr}{fd:FuncData}(F:Fun K "_law_names" "_law_names" Ds f fd)(T:Ey mg)(Y:Fnd P w K mg base 1 "_law_draw" ["_law_feed_here","_law_many"] (C0 K)):FnOk P w K mg base CX0 2 f fd ["_law_feed_here","_law_many"] (Ga K):=by
 refine F.ok Av (λvs H Q E h=>?_) (λbJ A outer s H vs Q E U h=>?_)
 . obtain⟨d,l,n,rfl,_⟩:=h;rfl
 obtain⟨d,l,n,rfl,hF,b2,bV,k⟩:=h;have hu:=Bj U;have hq:=Bi U
 with_reducible refine⟨_,(A3 (A9 (i:=2) Av.nd ⋯ (by with_unfolding_all exact A37 rfl) (Ap Dh B3 A5))
  (A3 (A9 (i:=3) Av.nd ⋯ (by with_unfolding_all exact A37 rfl) (Aq Y (U.mono nofun) ⋯ (A1 (pv 0) (A1 A5 A2))))
  (A3 (A9 (i:=4) Av.nd ⋯ (by eq_refl) (Aq Y (U.mono nofun) ⋯ (A1 (pv 0) (A1 A5 A2))))
  (A3 (A9 (i:=5) Av.nd ⋯ (by eq_refl) (Ap (An (K:=K)) A5 (Aq Y (U.mono nofun) ⋯ (A1 (pv 0) (A1 A5 A2)))))
  (A3 (A9 (i:=6) Av.nd ⋯ (by eq_refl) (Aq Y (U.mono nofun) ⋯ (A1 (pv 0) (A1 (pv 5) A2))))
  (A3 (A9 (i:=7) Av.nd ⋯ (by eq_refl) (Ci (A1 B3 (A1 B3 (A1 B3 (A1 B3 (A1 B3 (A1 B3 (A1 B3 (A1 B3 (A1 B3 (A1 B3 A2))))))))))))
  (A3 (Co (Aj (Ck (K:=K) hq) (pv 4) A5 (Aw _)) (A7 (A9 (i:=7) Av.nd ⋯ (by eq_refl) (Ap (An (K:=K)) (C2 ["_law_k"] ["_law_letters","_law_start"] [2,3] ⋯ ⋯ ⋯ (Eh ⋯ T.b_range (A1 A5 A2)) (λ_ _ _ _=>(Ag (i:=0) (by with_unfolding_all (show(["_law_k","_law_letters","_law_start"]:List Str).Nodup;decide +kernel)) ⋯ (by eq_refl))) (Bf nofun) (λ_ _ _ _=>El) (λ_ _ _ _=>(Bt (Sz (K:=K)) (pv 1) (Bq (pv 2)) (Bq (Ap (An (K:=K)) (Ap (An (K:=K)) (pv 2) A5) (pv 0)))))) (Ci (A1 (Ad (A6 (K:=K) hu) (pv 2) (Ap (An (K:=K)) (pv 3) A5) (by ac_rfl)) (A1 (Ad (A6 (K:=K) hu) (pv 2) (Ap (An (K:=K)) (pv 3) A5) (by ac_rfl)) A2)))))) Ay)
  (A3 (Co (Aj (Ck (K:=K) hq) (pv 4) A5 (Aw _)) (A3 (A9 (i:=8) Av.nd ⋯ (by with_unfolding_all exact A37 rfl) (Bt (Sz (K:=K)) (pv 2) (Bq (pv 3)) (Bq (Ap (An (K:=K)) (pv 3) (pv 6)))))
  (A3 (A9 (i:=9) Av.nd ⋯ (by with_unfolding_all exact A37 rfl) (Bt (Sz (K:=K)) (pv 2) (Bq (Ap (An (K:=K)) (Ap (An (K:=K)) (pv 3) (pv 6)) A5)) (Bq (Ap (An (K:=K)) (pv 3) (pv 5)))))
  (A7 (Ho (i:=7) ["_law_k"] ["_law_head","_law_letters","_law_start","_law_tail"] [8,2,3,9] ⋯ ⋯ ⋯ Av.nd ⋯ ⋯ (Eh ⋯ T.b_range (A1 A5 A2)) (λ_ _ _ _=>(Ag (i:=0) (by with_unfolding_all (show(["_law_k","_law_head","_law_letters","_law_start","_law_tail"]:List Str).Nodup;decide +kernel)) ⋯ (by eq_refl))) (Bf nofun) (λ_ _ _ _=>El) (λ_ _ _ _=>(Ap (An (K:=K)) (Ap (An (K:=K)) (pv 1) (Ad (A6 (K:=K) hu) (pv 2) (Ap (An (K:=K)) (pv 3) (Ap Me (Ap Dh A5 (pv 0)) A5)) (by ac_rfl))) (pv 4))))))) Ay)
  (A3 (Co (Aj (Ck (K:=K) hq) (pv 4) A5 (Aw _)) (A7 (Ho (i:=7) ["_law_k"] ["_law_letters","_law_start"] [2,3] ⋯ ⋯ ⋯ Av.nd ⋯ ⋯ (Eh ⋯ T.b_range (A1 A5 A2)) (λ_ _ _ _=>(Ag (i:=0) (by with_unfolding_all (show(["_law_k","_law_letters","_law_start"]:List Str).Nodup;decide +kernel)) ⋯ (by eq_refl))) (Bf nofun) (λ_ _ _ _=>El) (λ_ _ _ _=>(Bt (Sz (K:=K)) (pv 1) (Bq (Ap (An (K:=K)) (pv 2) (pv 0))) (Bq (Ap (An (K:=K)) (Ap (An (K:=K)) (Ap (An (K:=K)) (pv 2) (pv 0)) A5) (Ap Me (Ap Dh A5 (pv 0)) A5))))))) Ay)
  (A3 (A9 (i:=10) Av.nd ⋯ (by eq_refl) (Aq Y (U.mono nofun) ⋯ (A1 (pv 0) (A1 A5 A2))))
  (A3 (A9 (i:=7) Av.nd ⋯ (by eq_refl) (Ap (An (K:=K)) (Bt (Sz (K:=K)) (pv 7) (Bq (pv 10)) Fb) (Bt (Sz (K:=K)) (pv 7) Fb (Bq (pv 10)))))
  (A7 (Ao (Vp (Bt (Sz (K:=K)) (pv 7) Fb (Bq (pv 1))) (Ad (A6 (K:=K) hu) (Ci (A1 A5 (A1 (ak4 Xi A5) A2))) (Aq Y (U.mono nofun) ⋯ (A1 (pv 0) (A1 A5 A2))) (by ac_rfl)))))))))))))))),?_⟩
 symm
 refine at2 nofun ?_;rw[aJ1]
 symm
 refine⟨d,l,_,rfl,hF,by omega,by omega,λst H1 aB c6 e1 aN=>?_⟩
 symm
 refine⟨d,l,_,rfl,aN,by omega,by omega,λway H2 c8 cA e2 aP=>?_⟩
 symm
 refine⟨d,l,_,rfl,aP,by omega,by omega,λsz H3 cB cC e3 aQ=>?_⟩
 symm
 refine⟨d,l,_,rfl,aQ,by omega,by omega,λq H4 bQ bR e4 aR=>?_⟩
 symm
 refine Ch nofun λp5 H5 b6 e5 h5=>?_;walk_at "rq";have aI:ExtBut d H H4:=by walk_at "fr"
 have aS:Feed H5 d l:=by walk_at "fd"
 with_reducible refine Vj (MN H d l n st way sz q) (λN O=>?_) (fun σ1 H6 hM=>?_)
 . walk_at "rq";refine Km (λhw=>?_) (λhw=>?_)
   . walk_at "rq";refine L6 ∅ ?_;refine Mt Cd (fI λk=>.str (Txt.slice LL (some st) (some (st+1+k)))) (by simp) (λ_ _=>trivial) (λi x H6 R hx e6 hR=>?_) (λp6 H6 bX e6 h6=>?_)
     . obtain⟨rfl,hi⟩:=Hd hx;walk_at "rq";exact hR
     rw[Wh (G:=λk=>txt (Pq st.toNat (st.toNat+1+k))) (λk hk=>by
      have e:=Xl (i:=st) (j:=st+1+(0+(k:Int))) aB ∅ (by have:((8:Int)).toNat=8:=rfl;omega);have e2:(st+1+(0+(k:Int))).toNat=st.toNat+1+k:=by omega
      rw[e2] at e;rw[e])] at h6
     obtain⟨c9,aX,e9⟩:=az0 (i:=st+9) ∅ ∅;obtain⟨bI,aW,a2⟩:=az0 (i:=st+10) ∅ ∅;walk_at "rq";refine at1 W8 aX ?_;walk_at "rq";refine at1 W8 aW ?_;walk_at "rq";refine Ch (Ab (by simp)) λp7 H7 bY e7 h7=>?_;refine Vk (by walk_at "lk") h7 (by simp[sizeLine_eq]) λp8 Z a0 e8 J=>?_;walk_at "rq";have f5:ExtBut d H H5:=by walk_at "fr"
     refine O _ _ ⟨p8,(nm0 st.toNat).map txt,none,none,rfl,Feed.free (l:=l) (H':=H7) (by walk_at "fd") (by walk_at "fr") a0,by walk_at "fr",by walk_at "fd",?_,aM5 ∅,by simp[nm0]⟩;rw[J,e9,a2];have q9:(st+9).toNat=st.toNat+9:=by omega
     have bD:(st+10).toNat=st.toNat+10:=by omega
     rw[q9,bD];simp[nm0,Function.comp_def]
   walk_at "rq";refine O _ _ ⟨p5,nm3,none,none,rfl,aR.free aI b6,by walk_at "fr",aS,h5,aF1,rfl⟩
 obtain⟨p,ns,x8,x9,rfl,hp,e6,a8,h6,aT,b0⟩:=hM
 with_reducible refine Vj (MN H d l n st way sz q) (λN O=>?_) (fun σ1 H7 hM=>?_)
 . walk_at "rq";refine Km (λhw=>?_) (λhw=>?_)
   . walk_at "rq";refine L6 ∅ ?_;have c1:=Xl (i:=st) (j:=st+q) aB ∅ ∅;have c2:=Xl (i:=st+q+1) (j:=st+(1+sz)) ∅ ∅ ∅;rw[c1,c2];refine Mt Cd (fI λk=>.str (txt (Pq st.toNat (st+q).toNat)++txt (T0 (st+5*k % 26).toNat)++txt (Pq (st+q+1).toNat (st+(1+sz)).toNat))) (by simp) (λ_ _=>trivial) (λi x Z R hx e8 hR=>?_) (λp8 Z a0 e8 J=>?_)
     . obtain⟨rfl,hi⟩:=Hd hx;have bT:=A47 (5*(0+(i:Int))) (show(26:Int)≠0 by decide);have bU:=A3L (5*(0+(i:Int))) (show(0:Int)<26 by decide);obtain⟨c,hc,ec⟩:=az0 (i:=st+5*(0+(i:Int)) % 26) ∅ ∅;walk_at "rq";refine at1 W8 hc ?_;rw[ec];have l1:(txt (Pq st.toNat (st+q).toNat)).length<=52:=by show(Pq _ _).toArray.size<=_;unfold Pq;simp[Le];omega
       have l2:(txt (Pq (st+q+1).toNat (st+(1+sz)).toNat)).length<=52:=by show(Pq _ _).toArray.size<=_;unfold Pq;simp[Le];omega
       have l3:(txt (T0 (st+5*(0+(i:Int)) % 26).toNat)).length<=52:=by show(T0 _).toArray.size<=_;unfold T0;simp[Le];omega
       refine i_addS (Ab ∅) ?_;have l4:(txt (Pq st.toNat (st+q).toNat)++txt (T0 (st+5*(0+(i:Int)) % 26).toNat)).length<=104:=by rw[Str.length_append];omega
       walk_at "rq";exact hR
     rw[Wh (G:=λk=>txt (Pq st.toNat (st.toNat+q.toNat)++T0 (st.toNat+5*k % 26)++Pq (st.toNat+q.toNat+1) (st.toNat+(1+sz).toNat))) (λk hk=>by
      have q1:(st+q).toNat=st.toNat+q.toNat:=by omega
      have q2:(st+5*(0+(k:Int)) % 26).toNat=st.toNat+5*k % 26:=by omega
      have q3:(st+q+1).toNat=st.toNat+q.toNat+1:=by omega
      have q4:(st+(1+sz)).toNat=st.toNat+(1+sz).toNat:=by omega
      rw[q1,q2,q3,q4,a58,a58])] at J
     walk_at "rq";refine O _ _ ⟨p8,(nm1 st.toNat (1+sz).toNat q.toNat).map txt,_,_,rfl,a8.free e6 a0,by walk_at "fr",by walk_at "fd",?_,aP5 ∅ ∅ ∅,by simp[nm1]⟩;rw[J];simp[nm1,Function.comp_def]
   walk_at "rq";exact O _ _ ⟨p,ns,x8,x9,rfl,hp,e6,a8,h6,aT,b0⟩
 obtain⟨p',ns',bE,bF,rfl,b5,e7,a9,h7,aU,b1⟩:=hM
 with_reducible refine Vj (MN H d l n st way sz q) (λN O=>?_) (fun σ1 Z hM=>?_)
 . walk_at "rq";refine Km (λhw=>?_) (λhw=>?_)
   . walk_at "rq";refine L6 ∅ ?_;refine Mt Cd (fI λk=>.str (Txt.slice LL (some (st+k)) (some (st+k+1+3*k % 8)))) (by simp) (λ_ _=>trivial) (λi x Z R hx e8 hR=>?_) (λp8 Z a0 e8 J=>?_)
     . obtain⟨rfl,hi⟩:=Hd hx;walk_at "rq";exact hR
     rw[Wh (G:=λk=>txt (Pq (st.toNat+k) (st.toNat+k+1+3*k % 8))) (λk hk=>by
      have a4:((10:Int)).toNat=10:=rfl;have e:=Xl (i:=st+(0+(k:Int))) (j:=st+(0+(k:Int))+1+3*(0+(k:Int)) % 8) ∅ ∅ ∅;have q1:(st+(0+(k:Int))).toNat=st.toNat+k:=by omega
      have q2:(st+(0+(k:Int))+1+3*(0+(k:Int)) % 8).toNat=st.toNat+k+1+3*k % 8:=by omega
      rw[q1,q2] at e;rw[e])] at J
     walk_at "rq";refine O _ _ ⟨p8,(nm2 st.toNat).map txt,_,_,rfl,a9.free e7 a0,by walk_at "fr",by walk_at "fd",?_,aI1 ∅,by simp[nm2]⟩;rw[J];simp[nm2,Function.comp_def]
   walk_at "rq";exact O _ _ ⟨p',ns',bE,bF,rfl,b5,e7,a9,h7,aU,b1⟩
 obtain⟨p2,ms,y8,y9,rfl,bW,e8,aA,J,aV,bS⟩:=hM
 symm
 refine⟨d,l,_,rfl,aA,by omega,by omega,λtn H9 aC c7 e9 bP=>?_⟩;have nd2:p2≠d:=aA.lst J
 symm
 have h9:H9 p2=some (.lst (ms.map V.str)):=e9 _ _ nd2 J;refine Mn (SqL.of h9) λq1 aD bZ a2 a4=>?_
 symm
 refine Mn (SqL.of (show aD p2=some (.lst (ms.map V.str)) by walk_at "lk")) λq2 bG c0 bK a5=>?_
 symm
 rw[Kr aC (by rw[A01];omega)] at a4;rw[Ib aC] at a5;refine Vk (by walk_at "lk") a5 (Ab (by simp;omega)) λq3 aE c3 bL a6=>?_
 symm
 rw[<- A43,<- A3M,<- A13] at a6;refine Mn (SqL.of a6) λq4 aF b7 bM aK=>?_
 symm
 rw[Ib b2,<- A3M] at aK;refine Ch nofun λq5 bH b9 bN aL=>?_
 symm
 refine⟨d,l,2,rfl,by walk_at "fd",by omega,by omega,λr a1 c4 c5 a3 aO=>?_⟩;have bA:q5≠d:=Ne.symm (Feed.nd (H:=aF) (l:=l) (by walk_at "fd") b9);have b8:q4≠d:=Ne.symm (Feed.nd (H:=aE) (l:=l) (by walk_at "fd") b7);have aM:a1 q4=some (.lst (((ms.drop tn.toNat++ms.take tn.toNat).take n.toNat).map V.str)):=a3 _ _ b8 (by walk_at "lk");have aJ:a1 q5=some (.lst [V.int 1,V.int (-1)]):=a3 _ _ bA aL
 have bC:∃ k,atI [V.int 1,V.int (-1)] r=some (V.int k)/\(k=1\/k = -1):=by
  rcases(by omega:r=0\/r=1) with rfl|rfl
  . exact⟨1,rfl,.inl rfl⟩
  exact⟨-1,rfl,.inr rfl⟩
 obtain⟨kk,aY,aZ⟩:=bC;refine Ln aJ aY ?_;refine aP7 (SqL.of aM) aZ λq6 aG bB bO a7=>?_;obtain⟨os,eo,b3,b4⟩:=Zf (k:=kk) (aV.turn tn.toNat n.toNat);rw[eo] at a7;have aH:ExtBut d H a1:=by walk_at "fr"
 refine k q6 os aG (aO.free aH bB) (by walk_at "fr") (by walk_at "fd") a7 b3 ?_;rw[b4,A10,A07,A1B,A10];omega
def Df (K:W.Frag):Sp:=λvs H Q _=>∃ d l a xs,vs=[.ref d,.ref a]/\Feed H d l/\(SqL K H a xs\/SqT K H a xs)/\xs.length<=1000/\∀ p ys H',H p=none->ExtBut d H H'->Feed H' d l->H' p=some (.lst ys)->ys.Perm xs->Q (.ref p) H'
theorem Mp {f:Addr}{fd:FuncData}(F:Fun K "_law_shuffled" "_law_shuffled" C7 f fd)(T:Ey mg)(A8:Fnd P w K mg base 1 "_law_draw" ["_law_feed_here","_law_many"] (C0 K)):FnOk P w K mg base CX0 2 f fd ["_law_feed_here","_law_some"] (Df K):=by
 refine F.ok Dg (λvs H Q E h=>?_) (λaI A outer s H vs Q E hr h=>?_)
 . obtain⟨d,l,a,xs,rfl,_⟩:=h;rfl
 obtain⟨d,l,a,xs,rfl,Y,hS,hx,k⟩:=h;have hu:=Bj hr;have hq:=Bi hr
 with_reducible refine⟨_,(A3 (A9 (i:=2) Dg.nd ⋯ (by eq_refl) (B0 (Qq (K:=K)) ⋯ T.b_list PyProof.Rows.Boot.«list» (A1 (pv 1) A2)))
  (A3 (A9 (i:=3) Dg.nd ⋯ (by eq_refl) (Ci A2))
  (A3 (C5 A0X ⋯ (Eh ⋯ T.b_range (A1 (Am (Bp (K:=K)) ⋯ T.b_len PyProof.Rows.Boot.«len» (A1 (pv 2) A2)) A2)) (Ag (i:=4) Dg.nd ⋯ (by eq_refl))
  (A7 (Et (Hj (K:=K) A1F A3B A3C (mm J4) (pv 3) (A1 (Hj (K:=K) A1F PySem.F.slot_list_pop PySem.F.type_list_pop (mm Yi) (pv 2) (A1 (Aq A8 (hr.mono nofun) ⋯ (A1 (pv 0) (A1 (Am (Bp (K:=K)) ⋯ T.b_len PyProof.Rows.Boot.«len» (A1 (pv 2) A2)) A2))) A2)) A2)))))
  (A7 (Ao (pv 3)))))),?_⟩
 symm
 refine ay5 hS λq H1 a6 e1 h1=>?_
 symm
 refine Ch nofun λp H2 a2 e2 h2=>?_
 symm
 refine L6 ∅ ?_;have a1:H p=none:=e1.free a2;have a5:p≠q:=λz=>by subst z;rw[h1] at a2;cases a2
 refine Ej Cd (λi σ J=>∃ us vs x4,σ=[some (.ref d),some (.ref a),some (.ref q),some (.ref p),x4]/\ExtBut d H J/\Feed J d l/\J q=some (.lst us)/\J p=some (.lst vs)/\(vs++us).Perm xs/\us.length+i=xs.length/\vs.length=i)
  ⟨xs,[],none,rfl,by walk_at "fr",by walk_at "fd",by walk_at "lk",h2,by simp,rfl,rfl⟩ (λ_ _ _ _=>trivial) (λi x σ J aH hi hP=>?_) (fun σ J hP=>?_)
 . obtain⟨us,vs,x4,rfl,e3,O,a0,U,Z,a4,a7⟩:=hP;obtain⟨rfl,aE⟩:=Hd aH;have aJ:i<xs.length:=by simpa using aE
   symm
   refine⟨d,l,_,rfl,O,by omega,by omega,λr H4 aF aK e4 aD=>?_⟩;have a9:H4 q=some (.lst us):=e4 _ _ (O.lst a0) a0;have a8:H4 p=some (.lst vs):=e4 _ _ (O.lst U) U;have a3:r.toNat<us.length:=by omega
   symm
   refine Xt a9 aF (A04 a3) (λH5 e5 aB=>?_) ∅;have aA:H5 p=some (.lst vs):=e5 _ _ a5 a8
   symm
   refine Ye aA ∅ λH6 e6 aC=>?_
   symm
   refine⟨us.eraseIdx r.toNat,vs++[us[r.toNat]],_,rfl,by walk_at "fr",(aD.put e5 (Y.nd a6) (Y.nl a6)).put e6 (Y.nd a1) (Y.nl a1),e6 _ _ (Ne.symm a5) aB,aC,?_,?_,by simp[a7]⟩
   . exact(aj8 (A04 a3) vs).trans Z
   rw[List.length_eraseIdx,A0Z a3];omega
 obtain⟨us,vs,x4,rfl,e3,O,a0,U,Z,a4,a7⟩:=hP
 symm
 have aG:us=[]:=by rw[A01,A1V] at a4;exact A17.mp ∅
 subst aG;rw[A27] at Z;exact k p vs J a1 e3 O U Z
def Ic (K:W.Frag):Sp:=λvs H Q _=>∃ d l a ls,vs=[.ref d,.ref a]/\Feed H d l/\H a=some (.lst (ls.map V.str))/\ls.length<=10/\∀ p xs ps H',H p=none->ExtBut d H H'->Feed H' d l->H' p=some (.lst xs)->IsL K H' (ps.map prD) xs->Up ls ps->ps.length<=100->Q (.ref p) H'
def MP (K:W.Frag)(H:Hp)(d l a:Addr)(ls:List Str)(way:Int)(E:Prop):L2.St->Hp->Prop:=fun σ' H'=>∃ p xs ps q F J O,σ'=[some (V.ref d),some (.ref a),some (.int (ls.length:Nat)),some (.int way),some (.ref p),q,F,J,O]/\H p=none/\ExtBut d H H'/\Feed H' d l/\H' p=some (.lst xs)/\IsL K H' (ps.map prD) xs/\Up ls ps/\ps.length<=100/\(E->ps=[])
theorem Rn {K:W.Frag}{H:Hp}{ps:List (Str×Str)}{xs:List V}(h:IsL K H (ps.map prD) xs):xs.length=ps.length:=by rw[<- IsL.length h,A01]
theorem Ri {f:Addr}{fd:FuncData}(F:Fun K "_law_pairs" "_law_pairs" Dn f fd)(T:Ey mg)(A8:Fnd P w K mg base 1 "_law_draw" ["_law_feed_here","_law_many"] (C0 K)):FnOk P w K mg base CX0 2 f fd ["_law_feed_here","_law_line"] (Ic K):=by
 refine F.ok B4 (λvs H Q E h=>?_) (λcK A outer s H vs Q E hr h=>?_)
 . obtain⟨d,l,a,xs,rfl,_⟩:=h;rfl
 obtain⟨d,l,a,ls,rfl,hF,hA,hl,k⟩:=h;have hu:=Bj hr;have hq:=Bi hr
 with_reducible refine⟨_,(A3 (A9 (i:=2) B4.nd ⋯ (by eq_refl) (Am (Bp (K:=K)) ⋯ T.b_len PyProof.Rows.Boot.«len» (A1 (pv 1) A2)))
  (A3 (A9 (i:=3) B4.nd ⋯ (by eq_refl) (Aq A8 (hr.mono nofun) ⋯ (A1 (pv 0) (A1 A5 A2))))
  (A3 (A9 (i:=4) B4.nd ⋯ (by eq_refl) (Ci A2))
  (A3 (Co (PW.pt (Ur (Aj Yr (pv 3) A5 (Aw _)) (Oz (Aj W9 (pv 2) A5 (Aw _))))) (A7 (C5 A0X ⋯ (Eh ⋯ T.b_range (A1 (Ad (A6 (K:=K) hu) (Ci (A1 (Ap Na (pv 2) A5) (A1 (pv 2) (A1 (Ap Dh A5 (pv 2)) A2)))) (pv 3) (by ac_rfl)) A2)) (Ag (i:=5) B4.nd ⋯ (by eq_refl))
  (A3 (A9 (i:=6) B4.nd ⋯ (by eq_refl) (Aq A8 (hr.mono nofun) ⋯ (A1 (pv 0) (A1 (Ap K0 (pv 2) A5) A2))))
  (A7 (Et (Hj (K:=K) A1F A3B A3C (mm J4) (pv 4) (A1 (B6 (A1 (Ad (A6 (K:=K) hu) (pv 1) (pv 6) (by ac_rfl)) (A1 (Ad (A6 (K:=K) hu) (pv 1) (Ap (An (K:=K)) (Ap (An (K:=K)) (pv 6) A5) (Aq A8 (hr.mono nofun) ⋯ (A1 (pv 0) (A1 (Ap K0 (Ap K0 (pv 2) A5) (pv 6)) A2)))) (by ac_rfl)) A2))) A2))))))) Ay)
  (A3 (Co (Aj (Ck (K:=K) hq) (pv 3) A5 (Aw _)) (A3 (A9 (i:=7) B4.nd ⋯ (by with_unfolding_all exact A37 rfl) (Aq A8 (hr.mono nofun) ⋯ (A1 (pv 0) (A1 (Ap (An (K:=K)) (pv 2) A5) A2))))
  (A7 (Ho (i:=4) ["_law_k"] ["_law_line","_law_cut"] [1,7] ⋯ ⋯ ⋯ B4.nd ⋯ ⋯ (Eh ⋯ T.b_range (A1 (Ap K0 (pv 2) A5) A2)) (λ_ _ _ _=>(Ag (i:=0) (by with_unfolding_all (show(["_law_k","_law_line","_law_cut"]:List Str).Nodup;decide +kernel)) ⋯ (by eq_refl))) (Bf nofun) (λ_ _ _ _=>(Fg (Aj (Nz (K:=K) hq) (Ap (An (K:=K)) (pv 0) A5) (pv 2) (Aw _)))) (λ_ _ _ _=>(B6 (A1 (Ad (A6 (K:=K) hu) (pv 1) (pv 0) (by ac_rfl)) (A1 (Ad (A6 (K:=K) hu) (pv 1) (Ap (An (K:=K)) (pv 0) A5) (by ac_rfl)) A2))))))) Ay)
  (A3 (Co (Aj (Ck (K:=K) hq) (pv 3) A5 (Aw _)) (A7 (Ho (i:=4) ["_law_k"] ["_law_line","_law_feed_here"] [1,0] ⋯ ⋯ ⋯ B4.nd ⋯ ⋯ (aa5 ⋯ T.b_range (A1 A5 (A1 (pv 2) A2))) (λ_ _ _ _=>(Ag (i:=0) (by with_unfolding_all (show(["_law_k","_law_line","_law_feed_here"]:List Str).Nodup;decide +kernel)) ⋯ (by eq_refl))) (Bf nofun) (λ_ _ _ _=>(Fg (Aj W9 (Aq A8 (hr.mono nofun) ⋯ (A1 (pv 2) (A1 A5 A2))) A5 (Aw _)))) (λ_ _ _ _=>(B6 (A1 (Ad (A6 (K:=K) hu) (pv 1) (Aq A8 (hr.mono nofun) ⋯ (A1 (pv 2) (A1 (pv 0) A2))) (by ac_rfl)) (A1 (Ad (A6 (K:=K) hu) (pv 1) (pv 0) (by ac_rfl)) A2)))))) Ay)
  (A3 (Co (Aj (Ck (K:=K) hq) (pv 3) A5 (Aw _)) (A3 (A9 (i:=7) B4.nd ⋯ (by with_unfolding_all exact A37 rfl) (Aq A8 (hr.mono nofun) ⋯ (A1 (pv 0) (A1 (Ap (An (K:=K)) (pv 2) A5) A2))))
  (A7 (C5 A0X ⋯ (Ar (K:=K) hu (Bt (Sz (K:=K)) (pv 1) Fb (Bq (pv 7)))) (Ag (i:=8) B4.nd ⋯ (by with_unfolding_all exact A37 rfl))
  (A7 (Et (Hj (K:=K) A1F A3D A3E (mm Kw) (pv 4) (A1 (C2 ["_law_other"] ["_law_one"] [8] ⋯ ⋯ ⋯ (Ar (K:=K) hu (Bt (Sz (K:=K)) (pv 1) (Bq (pv 7)) Fb)) (λ_ _ _ _=>(Ag (i:=0) (by with_unfolding_all (show(["_law_other","_law_one"]:List Str).Nodup;decide +kernel)) ⋯ (by eq_refl))) (Bf nofun) (λ_ _ _ _=>El) (λ_ _ _ _=>(B6 (A1 (pv 1) (A1 (pv 0) A2))))) A2))))))) Ay)
  (A7 (Ao (pv 4)))))))))),?_⟩
 symm
 rw[A01];refine⟨d,l,_,rfl,hF,by omega,by omega,λway H1 cZ d0 e1 bM=>?_⟩;have a2:a≠d:=hF.lst hA
 symm
 refine Ch nofun λp H2 c1 e2 h2=>?_;walk_at "rq";have b9:H p=none:=bM.free e1 c1;have bN:Feed H2 d l:=by walk_at "fd"
 have cL:H2 a=some (.lst (ls.map V.str)):=by walk_at "lk"
 with_reducible refine Vj (MP K H d l a ls way (way=5)) (λN hN=>?_) (fun σ1 H3 hM=>?_)
 . walk_at "rq";have aX:N [some (V.ref d),some (.ref a),some (.int (ls.length:Nat)),some (.int way),some (.ref p),none,none,none,none] H2:=hN _ _ ⟨p,[],[],none,none,none,none,rfl,b9,by walk_at "fr",bN,h2,.nil,.nil,by decide,λ_=>rfl⟩;refine Km (λhw=>?_) (λhw=>?_)
   . walk_at "rq";refine Km (λhm=>?_) (λhm=>?_)
     . walk_at "rq";refine Ch (Ab (by simp)) λq H3 cT e3 h3=>?_
       have b8:∃ m,atI [V.int ((ls.length:Nat) / 2),V.int (ls.length:Nat),V.int (3*(ls.length:Nat))] way=some (V.int m)/\0<=m/\m<=30:=by
        rcases(by omega:way=0\/way=1\/way=2) with rfl|rfl|rfl
        . exact⟨_,rfl,by omega,by omega⟩
        . exact⟨_,rfl,by omega,by omega⟩
        exact⟨_,rfl,by omega,by omega⟩
       obtain⟨m,bZ,cQ,b8⟩:=b8;walk_at "rq";refine Ln h3 bZ ?_;walk_at "rq";refine L6 ∅ ?_
       refine Ej Cd (λi σ H4=>∃ xs ps x5 x6,σ=[some (V.ref d),some (.ref a),some (.int (ls.length:Nat)),some (.int way),some (.ref p),x5,x6,none,none]/\ExtBut d H H4/\Feed H4 d l/\H4 p=some (.lst xs)/\IsL K H4 (ps.map prD) xs/\Up ls ps/\ps.length=i)
        ⟨[],[],none,none,rfl,by walk_at "fr",by walk_at "fd",by walk_at "lk",.nil,.nil,rfl⟩ (λ_ _ _ _=>trivial) (λi x σ H4 cB hi hP=>?_) (fun σ H4 hP=>?_)
       . obtain⟨xs,ps,x5,x6,rfl,e4,a1,h4,a6,hU,aS⟩:=hP;obtain⟨rfl,b6⟩:=Hd cB;have aJ:H4 a=some (.lst (ls.map V.str)):=e4 _ _ a2 hA
         symm
         refine⟨d,l,_,rfl,a1,by omega,by omega,λu O bD c8 Y Z=>?_⟩;obtain⟨z1,a8,aD,_⟩:=str_at? (ls:=ls) (i:=u) bD ∅;have a5:O a=some (.lst (ls.map V.str)):=Y _ _ a2 aJ;have h5:O p=some (.lst xs):=Y _ _ (a1.lst h4) h4
         symm
         refine Ln a5 aD ?_
         symm
         refine⟨d,l,_,rfl,Z,by omega,by omega,λu2 H6 bE c9 U a4=>?_⟩;obtain⟨z2,a9,aE,_⟩:=str_at? (ls:=ls) (i:=u+1+u2) ∅ ∅;have aA:H6 a=some (.lst (ls.map V.str)):=U _ _ a2 a5;have h6:H6 p=some (.lst xs):=U _ _ (Z.lst h5) h5
         symm
         refine Ln aA aE ?_
         symm
         refine B5 (Ab (by simp)) λt H7 cX e7 h7=>?_;have b1:H7 p=some (.lst xs):=e7 _ _ h6;have cC:=Rn a6
         symm
         refine Ye b1 ∅ λJ e8 h8=>?_
         symm
         have aI:Fz H7 J:=e8.fzL b1;have bG:Fz H4 H7:=((a1.fz Y).trans (Z.fz U)).trans e7.fz;refine⟨xs++[.ref t],ps++[(z1,z2)],_,_,rfl,by walk_at "fr",by walk_at "fd",h8,?_,?_,by simp[aS]⟩
         . rw[A13];exact(IsL.fz (bG.trans aI) _ _ (Bz ps) a6).append (.one ((Ru (SqT.of h7)).pr_fz aI))
         exact hU.append (.one ∅ a8 a9)
       obtain⟨xs,ps,x5,x6,rfl,e4,a1,h4,a6,hU,aS⟩:=hP;rw[A01,A1V] at aS;exact hN _ _ ⟨p,xs,ps,_,_,_,_,rfl,b9,e4,a1,h4,a6,hU,by omega,λq=>by omega⟩
     walk_at "rq";exact aX
   walk_at "rq";exact aX
 obtain⟨p3,cH,cE,x5,x6,x7,x8,rfl,c2,e3,b4,h3,bO,bQ,bW,bJ⟩:=hM;have bI:H3 a=some (.lst (ls.map V.str)):=e3 _ _ a2 hA
 with_reducible refine Vj (MP K H d l a ls way (way=5)) (λN hN=>?_) (fun σ1 H4 hM=>?_)
 . walk_at "rq";refine Km (λhw=>?_) (λhw=>?_)
   . symm
     refine⟨d,l,_,rfl,b4,by omega,by omega,λa0 H4 aR bT e4 a1=>?_⟩;have aJ:H4 a=some (.lst (ls.map V.str)):=e4 _ _ a2 bI
     symm
     refine L6 ∅ ?_;refine G1 (K:=K) Cd (List.range ((ls.length:Nat)-1:Int).toNat) (by simp) (λk=>!decide (V.int ((0:Int)+(k:Nat)+1)=V.int a0)) (λk=>prD (ls.getD k "",ls.getD (k+1) "")) (λ_=>Gx _) (by simp;omega) (λ_ _=>trivial) (λi k v O R R' hk hv Y hR b5=>?_) (λp5 ys O aL Y h5 a3=>?_)
     . obtain⟨rfl,b6⟩:=Hd hv
       have bV:i=k:=by obtain⟨_,h2⟩:=A00.mp hk;rw[List.getElem_range] at h2;exact h2
       subst bV;have a5:O a=some (.lst (ls.map V.str)):=Y _ _ aJ
       symm
       refine ax9 (λhc=>?_) (λhc=>?_)
       . obtain⟨z1,a8,aD,_⟩:=str_at? (ls:=ls) (i:=0+(i:Int)) ∅ ∅;obtain⟨z2,a9,aE,_⟩:=str_at? (ls:=ls) (i:=0+(i:Int)+1) ∅ ∅
         symm
         refine Ln a5 aD ?_
         symm
         refine Ln a5 aE ?_
         symm
         refine B5 (Ab (by simp)) λt H6 cW U h6=>?_;have q1:(0+(i:Int)).toNat=i:=by omega
         have q2:(0+(i:Int)+1).toNat=i+1:=by omega
         rw[q1] at a8;rw[q2] at a9;refine hR (by rw[A0N hc];rfl) _ _ U ?_;rw[Wf a8,Wf a9];exact Ru (SqT.of h6)
       exact b5 (by rw[A0Y hc];rfl) _ (Same.refl _)
     symm
     rw[af5] at a3;have bA:H p5=none:=a1.free (by walk_at "fr") aL;refine hN _ _ ⟨p5,ys,_,_,_,_,_,rfl,bA,by walk_at "fr",by walk_at "fd",h5,a3,λpr aU=>?_,?_,λq=>by cases hw;cases q⟩
     . obtain⟨j,hj,rfl⟩:=A0E.mp aU;have hj:=A21.mp (A0L.mp hj).1;exact⟨j,j+1,by omega,Gu ∅,Gu ∅⟩
     rw[A01];refine A0O (A0T _ _) ?_;rw[A1V];omega
   walk_at "rq";exact hN _ _ ⟨p3,cH,cE,x5,x6,x7,x8,rfl,c2,e3,b4,h3,bO,bQ,bW,bJ⟩
 obtain⟨p4,cI,cF,y5,y6,y7,y8,rfl,c3,e4,a1,h4,a6,bR,bX,bK⟩:=hM;have aJ:H4 a=some (.lst (ls.map V.str)):=e4 _ _ a2 hA
 with_reducible refine Vj (MP K H d l a ls way (way=5)) (λN hN=>?_) (fun σ1 O hM=>?_)
 . walk_at "rq";refine Km (λhw=>?_) (λhw=>?_)
   . symm
     refine aL8 ∅ ?_;refine Ik Cd (λp i acc O=>∃ ps,ExtBut d H O/\Feed O d l/\IsL K O (ps.map prD) acc/\Up ls ps/\ps.length<=i) (λp O hp Y h5=>⟨[],by walk_at "fr",by walk_at "fd",.nil,.nil,A08 _⟩) (λ_ _ _ _ _=>trivial) (λp i x acc O hp hx hi aB ha hP=>?_) λp acc O hp ha aB hP=>?_
     . obtain⟨ps,Y,Z,a3,a7,aT⟩:=hP;obtain⟨rfl,b6⟩:=Hd hx;have bA:H p=none:=a1.free e4 hp;have bB:p≠d:=Ne.symm (a1.nd hp)
       symm
       refine⟨d,l,_,rfl,Z,by omega,by omega,λu H6 bD c8 U a4=>?_⟩
       symm
       have h6:H6 p=some (.lst acc):=U _ _ bB ha;have aA:H6 a=some (.lst (ls.map V.str)):=U _ _ a2 (Y _ _ a2 hA);refine Km (λhc=>?_) (λhc=>?_)
       . symm
         refine⟨d,l,_,rfl,a4,by omega,by omega,λu2 H7 bE c9 e7 cN=>?_⟩;have h7:H7 p=some (.lst acc):=e7 _ _ bB h6;have b3:H7 a=some (.lst (ls.map V.str)):=e7 _ _ a2 aA;obtain⟨z1,a8,aD,_⟩:=str_at? (ls:=ls) (i:=u2) bE ∅;obtain⟨z2,a9,aE,_⟩:=str_at? (ls:=ls) (i:=1+(i:Int)) ∅ ∅
         symm
         refine Ln b3 aD ?_
         symm
         refine Ln b3 aE ?_
         symm
         refine B5 (Ab (by simp)) λt J cY e8 h8=>?_;have b2:J p=some (.lst acc):=e8 _ _ h7;refine Lc (by simp;omega) hi aB b2 λH9 e9 h9=>?_;have aZ:Fz J H9:=e9.fzL b2;have aI:Fz O J:=((Z.fz U).trans (a4.fz e7)).trans e8.fz;refine⟨ps++[(z1,z2)],by walk_at "fr",by walk_at "fd",?_,a7.append (.one ∅ a8 a9),by simp[aT]⟩;rw[A13];exact(IsL.fz (aI.trans aZ) _ _ (Bz ps) a3).append (.one ((Ru (SqT.of h8)).pr_fz aZ))
       refine So hi aB h6 ⟨ps,by walk_at "fr",a4,IsL.fz (Z.fz U) _ _ (Bz ps) a3,a7,by omega⟩
     obtain⟨ps,Y,Z,a3,a7,aT⟩:=hP;rw[A01,A1V] at aT
     symm
     exact hN _ _ ⟨p,acc,ps,_,_,_,_,rfl,a1.free e4 hp,Y,Z,ha,a3,a7,by omega,λq=>by cases hw;cases q⟩
   walk_at "rq";exact hN _ _ ⟨p4,cI,cF,_,_,_,_,rfl,c3,e4,a1,h4,a6,bR,bX,bK⟩
 obtain⟨p5,aV,bF,z5,z6,z7,z8,rfl,aL,Y,Z,h5,a3,a7,aB,bL⟩:=hM;have a5:O a=some (.lst (ls.map V.str)):=Y _ _ a2 hA
 with_reducible refine Vj (MP K H d l a ls way False) (λN hN=>?_) (fun σ1 H6 hM=>?_)
 . walk_at "rq";refine Km (λhw=>?_) (λhw=>?_)
   . symm
     refine⟨d,l,_,rfl,Z,by omega,by omega,λa0 H6 aR bT U a4=>?_⟩;have aA:H6 a=some (.lst (ls.map V.str)):=U _ _ a2 a5;have h6:H6 p5=some (.lst aV):=U _ _ (Z.lst h5) h5
     symm
     refine Mn (SqL.of aA) λq H7 bC e7 h7=>?_;rw[Ib aR,<- A3M] at h7;have cS:H q=none:=a4.free (by walk_at "fr") bC;have c4:p5≠q:=ne_of_none h6 bC;refine Ju (SqL.of h7) ?_
     have cA:way=5:=by cases hw;rfl
     have c6:bF=[]:=bL cA;subst c6;have cD:aV=[]:=by simpa only[List.map_nil,L2.IsL] using a3
     subst cD;have bU:∀ J,ExtBut d H J->J a=some (.lst (ls.map V.str)):=λJ e8=>e8 _ _ a2 hA
     refine Ej (Bg (xs:=(ls.take a0.toNat).map V.str)) (λi σ J=>∃ xs ps x8,σ=[some (V.ref d),some (.ref a),some (.int (ls.length:Nat)),some (.int way),some (.ref p5),z5,z6,some (.int a0),x8]/\ExtBut d H J/\Feed J d l/\J q=some (.lst ((ls.take a0.toNat).map V.str))/\J p5=some (.lst xs)/\IsL K J (ps.map prD) xs/\Up ls ps/\ps.length<=i*10)
      ⟨[],[],_,rfl,by walk_at "fr",by walk_at "fd",h7,by walk_at "lk",.nil,.nil,by decide⟩ (λi σ J hP=>?_) (λi x σ J aC hi hP=>?_) (fun σ J hP=>?_)
     . obtain⟨xs,ps,x8,rfl,e8,aO,aM,_⟩:=hP;exact SqL.of aM
     . obtain ⟨xs,ps,x8,rfl,e8,aO,aM,h8,aK,aQ,b7⟩:=hP;rw[A06] at aC
       cases hz:(ls.take a0.toNat)[i]? with
       |none=>rw[hz] at aC;cases aC
       |some one=>
         rw[hz] at aC
         cases aC
         have cO:i<10:=by have:=A00.mp hz;obtain⟨h1,_⟩:=this;rw[A10] at h1;omega
         have c0:ls[i]? = some one:=by
          rw[A2W] at hz
          split at hz
          . exact hz
          cases hz
         have cP:i<a0.toNat:=by
          rw[A2W] at hz
          split at hz
          . assumption
          cases hz
         symm
         refine Mn (SqL.of (bU J e8)) λq9 H9 cU e9 h9=>?_;rw[Kr aR (by rw[A01];omega),<- A43] at h9;refine Ju (SqL.of h9) ?_;refine G1 (K:=K) (Bg (xs:=(ls.drop a0.toNat).map V.str)) (ls.drop a0.toNat) (by simp) (λ_=>true) (λo=>prD (one,o)) (λ_=>Gx _) (by simp;omega) (λH' e'=>SqL.of (e' _ _ h9)) (λj o v aF R R' ho hv aG hR b5=>?_) (λd1 ys aF cR aG bH aP=>?_)
         . rw[A06,ho] at hv
           cases hv
           symm
           refine B5 (Ab (by simp)) λt aW cV aH aN=>?_;exact hR rfl _ _ aH (Ru (SqT.of aN))
         symm
         have b0:aF p5=some (.lst xs):=aG _ _ (e9 _ _ h8)
         have hy:ys.length<=10:=by have:=IsL.length aP;rw[A01,Gj,A1B] at this;omega
         have cC:=Rn aK;refine Y1 b0 bH ∅ λaW aH aN=>?_
         symm
         have c7:aF q=some (.lst ((ls.take a0.toNat).map V.str)):=aG _ _ (e9 _ _ aM);have aY:Fz aF aW:=aH.fzL b0;rw[Gj,af5] at aP;refine⟨xs++ys,ps++(ls.drop a0.toNat).map (λo=>(one,o)),_,rfl,by walk_at "fr",by walk_at "fd",aH _ _ (Ne.symm c4) c7,aN,?_,aQ.append λpr aU=>?_,?_⟩
         . rw[A13];exact(IsL.fz ((e9.fz.trans aG.fz).trans aY) _ _ (Bz ps) aK).append (IsL.fz aY _ _ (Bz _) aP)
         . obtain⟨o,ho,rfl⟩:=A0E.mp aU;obtain⟨j,hj,ej⟩:=A1N ho;refine⟨i,a0.toNat+j,by omega,c0,?_⟩;rw[<- List.getElem?_drop,A04 hj,ej]
         rw[A07,A01,A1B,A3T];omega
     obtain⟨xs,ps,x8,rfl,e8,aO,aM,h8,aK,aQ,b7⟩:=hP;rw[A01,A10] at b7;exact hN _ _ ⟨p5,xs,ps,_,_,_,_,rfl,aL,e8,aO,h8,aK,aQ,by omega,False.elim⟩
   walk_at "rq";exact hN _ _ ⟨p5,aV,bF,_,_,_,_,rfl,aL,Y,Z,h5,a3,a7,aB,False.elim⟩
 obtain⟨p6,cJ,cG,w5,w6,w7,w8,rfl,c5,U,a4,h6,bP,bS,bY,cM⟩:=hM
 symm
 exact k p6 cJ cG H6 c5 U a4 h6 bP bS bY
def Gq (K:W.Frag):Sp:=λvs H Q _=>∃ d l a ls,vs=[.ref d,.ref a]/\Feed H d l/\H a=some (.lst (ls.map V.str))/\ls.length<=10/\∀ v ps H',ExtBut d H H'->Feed H' d l->Is K H' (psD ps) v->Up ls ps->ps.length<=60->Q v H'
theorem aw7 {K:W.Frag}{H:Hp}{ps:List (Str×Str)}{xs:List V}{p:Str×Str}{v:V}(n:Nat)(h:IsL K H (ps.map prD) xs)(q:Is K H (prD p) v):IsL K H ((ps.take n++p :: ps.drop n).map prD) (aR6 xs n v):=by rw[A13,A0H,A3M,A43];exact(IsL.take n h).append (.cons q (IsL.drop n h))
theorem Np {f:Addr}{fd:FuncData}(F:Fun K "_law_sayings" "_law_sayings" Cg f fd)(T:Ey mg)(A8:Fnd P w K mg base 1 "_law_draw" ["_law_feed_here","_law_many"] (C0 K))(Jd:Fnd P w K mg base 2 "_law_pairs" ["_law_feed_here","_law_line"] (Ic K)):FnOk P w K mg base CX0 3 f fd ["_law_feed_here","_law_line"] (Gq K):=by
 refine F.ok Eg (λvs H Q E h=>?_) (λb6 A outer s H vs Q E hr h=>?_)
 . obtain⟨d,l,a,xs,rfl,_⟩:=h;rfl
 obtain⟨d,l,a,ls,rfl,hF,hA,hl,k⟩:=h;have hu:=Bj hr;have hq:=Bi hr
 with_reducible refine⟨_,(A3 (A9 (i:=2) Eg.nd ⋯ (by eq_refl) (Ci A2))
  (A3 (C5 A0X ⋯ (Ar (K:=K) hu (Aq Jd (hr.mono nofun) ⋯ (A1 (pv 0) (A1 (pv 1) A2)))) (Ag (i:=3) Eg.nd ⋯ (by eq_refl))
  (A7 (C5 A0X ⋯ (Eh ⋯ T.b_range (A1 (Ap (An (K:=K)) A5 (B0 Vy ⋯ T.b_int PyProof.Rows.Boot.«int» (A1 (Gh (Ck (K:=K) hq) (Aq A8 (hr.mono nofun) ⋯ (A1 (pv 0) (A1 A5 A2))) A5 (Aw _)) A2))) A2)) (Ag (i:=4) Eg.nd ⋯ (by eq_refl))
  (A7 (Et (Hj (K:=K) A1F PySem.F.slot_list_insert PySem.F.type_list_insert (mm ag0) (pv 2) (A1 (Aq A8 (hr.mono nofun) ⋯ (A1 (pv 0) (A1 (Ap (An (K:=K)) (Am (Bp (K:=K)) ⋯ T.b_len PyProof.Rows.Boot.«len» (A1 (pv 2) A2)) A5) A2))) (A1 (pv 3) A2))))))))
  (A7 (Ao (B0 (Cq (K:=K)) ⋯ T.b_tuple PyProof.Rows.Boot.«tuple» (A1 (Bt (Sz (K:=K)) (pv 2) Fb (Bq A5)) A2)))))),?_⟩
 symm
 refine Ch nofun λp H1 b0 e1 h1=>?_;have aQ:H1 a=some (.lst (ls.map V.str)):=e1 _ _ hA;have aR:Feed H1 d l:=hF.same e1
 symm
 refine⟨d,l,a,ls,rfl,aR,aQ,hl,λq xs ps H2 aJ e2 aS h2 aH aV bA=>?_⟩;have aE:p≠d:=Ne.symm (hF.nd b0);have aL:H2 p=some (.lst []):=e2 _ _ aE h1;have b1:p≠q:=ne_of_none h1 aJ;have bB:H q=none:=e1.free aJ;have bH:=Rn aH;refine Ju (SqL.of h2) ?_
 refine Ej (Bg (xs:=xs)) (λi σ O=>∃ ys qs x3 x4,σ=[some (V.ref d),some (.ref a),some (.ref p),x3,x4]/\ExtBut d H O/\Feed O d l/\O q=some (.lst xs)/\Fz H2 O/\O p=some (.lst ys)/\IsL K O (qs.map prD) ys/\Up ls qs/\qs.length<=i*2)
  ⟨[],[],_,_,rfl,by walk_at "fr",aS,h2,.refl _,aL,.nil,.nil,by decide⟩ (λi σ O U=>?_) (λi x σ O b3 hi U=>?_) (fun σ O U=>?_)
 . obtain⟨ys,qs,x3,x4,rfl,e3,a0,a4,_⟩:=U;exact SqL.of a4
 . obtain⟨ys,qs,x3,x4,rfl,e3,a0,a4,aF,aA,aC,aD,aZ⟩:=U;obtain ⟨dp,a3,aX⟩:=IsL.get aH b3;rw[A06] at a3
   cases hpr:ps[i]? with
   |none=>rw[hpr] at a3;cases a3
   |some pr=>
     rw[hpr] at a3
     cases a3
     have aW:Up ls [pr]:=aV.sub λz hz=>by
      have:z=pr:=by simpa using hz
      subst this;exact A03 hpr
     have b8:i<100:=by omega
     symm
     refine⟨d,l,_,rfl,a0,by omega,by omega,λu H4 bE bF Z aT=>?_⟩;have aM:H4 p=some (.lst ys):=Z _ _ aE aA;have aN:H4 q=some (.lst xs):=Z _ _ (a0.lst a4) a4;have aK:Fz H2 H4:=aF.trans (a0.fz Z);have aU:IsL K H4 (qs.map prD) ys:=IsL.fz (a0.fz Z) _ _ (Bz qs) aC
     symm
     refine L6 (by split<;>omega) ?_
     refine Ej Cd (λj σ J=>∃ zs Y x4,σ=[some (V.ref d),some (.ref a),some (.ref p),some x,x4]/\ExtBut d H J/\Feed J d l/\J q=some (.lst xs)/\Fz H2 J/\J p=some (.lst zs)/\IsL K J (Y.map prD) zs/\Up ls Y/\Y.length=qs.length+j)
      ⟨ys,qs,_,rfl,by walk_at "fr",aT,aN,aK,aM,aU,aD,rfl⟩ (λ_ _ _ _=>trivial) (λj x' σ J b4 hj U=>?_) (fun σ J U=>?_)
     . obtain⟨zs,Y,b5,rfl,e5,a2,a7,a5,aB,a1,a6,aI⟩:=U;obtain⟨rfl,b9⟩:=Hd b4;have bI:=Rn a1
       have aY:j<2:=by
        have:(1+if decide (V.int u=V.int 0)=true then(1:Int) else 0).toNat<=2:=by split<;>omega
        omega
       symm
       refine⟨d,l,_,rfl,a2,by omega,by omega,λu2 H6 b2 bG e6 b7=>?_⟩;have aG:H6 p=some (.lst zs):=e6 _ _ aE aB;have aO:H6 q=some (.lst xs):=e6 _ _ (a2.lst a7) a7
       symm
       refine aU0 aG b2 ∅ ∅ λH7 e7 aP=>?_;have a8:Fz J H6:=a2.fz e6;have a9:Fz H6 H7:=e7.fzL aG
       symm
       refine⟨_,_,_,rfl,by walk_at "fr",by walk_at "fd",e7 _ _ (Ne.symm b1) aO,(a5.trans a8).trans a9,aP,aw7 u2.toNat (IsL.fz (a8.trans a9) _ _ (Bz Y) a1) (Is.fz ((a5.trans a8).trans a9) _ _ (Gx pr) aX),?_,?_⟩
       . intro z hz;rcases A0C.mp hz with hz|hz
         . exact a6 z (A25 hz)
         rcases A0A.mp hz with rfl|hz
         . exact aW _ (by simp)
         exact a6 z (A35 hz)
       rw[A07,A0G,A10,A1B];omega
     obtain⟨zs,Y,b5,rfl,e5,a2,a7,a5,aB,a1,a6,aI⟩:=U;rw[A01,A1V] at aI;have aY:(1+if decide (V.int u=V.int 0)=true then(1:Int) else 0).toNat<=2:=by split<;>omega
     exact⟨zs,Y,_,_,rfl,e5,a2,a7,a5,aB,a1,a6,by omega⟩
 obtain⟨ys,qs,x3,x4,rfl,e3,a0,a4,aF,aA,aC,aD,aZ⟩:=U
 symm
 refine Mn (SqL.of aA) λt H4 bC Z h4=>?_
 symm
 rw[Ib nofun] at h4;refine Mv (SqL.of h4) λt2 J bD e5 h5=>?_;have a1:IsL K J (qs.map prD) ys:=IsL.mono e5 _ _ (IsL.mono Z _ _ aC);refine k (.ref t2) (qs.take 60) J (by walk_at "fr") (by walk_at "fd") (Is.of_tup (SqT.of h5) ?_) (aD.sub λz hz=>A25 hz) ?_
 . rw[A3M];exact IsL.take 60 a1
 rw[A10];omega
def Gv (K:W.Frag):Sp:=λvs H Q _=>∃ d l n,vs=[.ref d,.int n]/\Feed H d l/\0<=n/\n<=10/\∀ v ns ps H',ExtBut d H H'->Feed H' d l->Is K H' (hfD ns ps) v->Half ns ps->ns.length<=n.toNat->Q v H'
theorem aw0 {ns ls:List Str}{ps:List (Str×Str)}(h:Names ns)(q:ns.length<=10)(p:ls.Perm ns)(u:Up ls ps)(hp:ps.length<=60):Half ns ps:=⟨h,q,hp,ls,p,u⟩
theorem To {ns:List Str}{ys:List V}(h:ys.Perm (ns.map V.str)):∃ ls:List Str,ys=ls.map V.str/\ls.Perm ns:=by
 refine⟨ys.map λv=>match v with | .str z=>z | _=>"",?_,?_⟩
 . rw[A1A]
   have:∀ v∈ys,(V.str∘λv=>match v with | .str z=>z | _=>"") v=v:=λv q=>by obtain⟨z,_,rfl⟩:=A0E.mp (h.mem_iff.mp q);rfl
   rw[A0W this];simp
 have:=h.map λv=>match v with | .str z=>z | _=>("":Str)
 rw[A1A] at this
 have e:ns.map ((λv=>match v with | .str z=>z | _=>("":Str))∘V.str)=ns:=by rw[show((λv=>match v with | .str z=>z | _=>("":Str))∘V.str)=id from rfl,List.map_id]
 rw[e] at this;exact this
theorem Tx {f:Addr}{fd:FuncData}(F:Fun K "_law_half" "_law_half" Em f fd)(T:Ey mg)(A8:Fnd P w K mg base 1 "_law_draw" ["_law_feed_here","_law_many"] (C0 K))(Dy:Fnd P w K mg base 2 "_law_names" ["_law_feed_here","_law_many"] (Ga K))(Bs:Fnd P w K mg base 2 "_law_shuffled" ["_law_feed_here","_law_some"] (Df K))(Hg:Fnd P w K mg base 3 "_law_sayings" ["_law_feed_here","_law_line"] (Gq K)):FnOk P w K mg base CX0 4 f fd ["_law_feed_here","_law_most"] (Gv K):=by
 refine F.ok M7 (λvs H Q E h=>?_) (λa8 A outer s H vs Q E q h=>?_)
 . obtain⟨d,l,n,rfl,_⟩:=h;rfl
 obtain⟨d,l,n,rfl,hF,h0,a9,k⟩:=h;have hu:=Bj q;have hq:=Bi q
 with_reducible refine⟨_,(A3 (A9 (i:=2) M7.nd ⋯ (by eq_refl) (Aq Dy (q.mono nofun) ⋯ (A1 (pv 0) (A1 (Aq A8 (q.mono nofun) ⋯ (A1 (pv 0) (A1 (Ap (An (K:=K)) (pv 1) A5) A2))) A2))))
  (A7 (Ao (B6 (A1 (B0 (Cq (K:=K)) ⋯ T.b_tuple PyProof.Rows.Boot.«tuple» (A1 (pv 2) A2)) (A1 (Aq Hg (q.mono nofun) ⋯ (A1 (pv 0) (A1 (Aq Bs (q.mono nofun) ⋯ (A1 (pv 0) (A1 (pv 2) A2))) A2))) A2)))))),?_⟩
 symm
 refine⟨d,l,_,rfl,hF,by omega,by omega,λu H1 aF aG e1 a2=>?_⟩
 symm
 refine⟨d,l,_,rfl,a2,by omega,by omega,λp2 ns H2 aB e2 a3 h2 hN hl=>?_⟩
 symm
 refine Mv (SqL.of h2) λt3 H3 aD J h3=>?_;have U:=a3.same J;have a4:Is K H3 (nmD ns) (.ref t3):=Og (SqT.of h3)
 symm
 refine⟨d,l,p2,_,rfl,U,.inl (SqL.of (J _ _ h2)),by rw[A01];omega,λp4 aH H4 aC e4 Y h4 a7=>?_⟩;obtain⟨ls,rfl,Z⟩:=To a7;have a0:=U.fz e4
 symm
 refine⟨d,l,p4,ls,rfl,Y,h4,by rw[Z.length_eq];omega,λv5 ps H5 e5 aA a5 hU a6=>?_⟩;have a1:=Y.fz e5
 symm
 refine B5 (Ab (by simp)) λt6 H6 aE O h6=>?_;exact k (.ref t6) ns ps H6 (by walk_at "fr") (by walk_at "fd") (ag7 (SqT.of h6) (a4.nm_fz ((a0.trans a1).trans O.fz)) (a5.ps_fz O.fz)) (aw0 hN ∅ Z hU a6) ∅
def C3 (K:W.Frag):Sp:=λvs H Q _=>∃ v ns ps,vs=[v]/\Is K H (hfD ns ps) v/\Px ns ps/\∀ r as H',H r=none->(∀ a∈as,H a=none)->Same H H'->Tab H' r ns as (Way ps)->Q (.ref r) H'
theorem Qa {f:Addr}{fd:FuncData}(F:Fun K "behind_each" "behind_each" Ct f fd)(T:Ey mg):FnOk P w K mg base CX0 1 f fd ["half"] (C3 K):=by
 refine F.ok Cf (λvs H Q E h=>?_) (λbG A outer s H vs Q E hr h=>?_)
 . obtain⟨v,ns,ps,rfl,_⟩:=h;rfl
 obtain⟨v,ns,ps,rfl,hI,hW,k⟩:=h;have hu:=Bj hr;have hq:=Bi hr;have hn:=hW.nd;have bH:=hW.few
 with_reducible refine⟨_,(A3 (A9 (i:=1) Cf.nd ⋯ (by eq_refl) (Ad (A6 (K:=K) hu) (pv 0) A5 (by ac_rfl)))
  (A3 (A9 (i:=2) Cf.nd ⋯ (by eq_refl) (B0 (M0 (K:=K) hr.hd) ⋯ T.b_dict PyProof.Rows.Boot.«dict» (A1 (C2 ["name"] [] [] ⋯ ⋯ ⋯ (Ar (K:=K) hu (pv 1)) (λ_ _ _ _=>(Ag (i:=0) (by with_unfolding_all (show(["name"]:List Str).Nodup;decide +kernel)) ⋯ (by eq_refl))) (Bf nofun) (λ_ _ _ _=>El) (λ_ _ _ _=>(B6 (A1 (pv 0) (A1 My A2))))) A2)))
  (A3 (C5 A0X ⋯ (Ar (K:=K) hu (Ad (A6 (K:=K) hu) (pv 0) A5 (by ac_rfl))) (Ag (i:=3) Cf.nd ⋯ (by eq_refl))
  (A7 (Ff hu (Ad (A6 (K:=K) hu) (pv 2) (Ad (A6 (K:=K) hu) (pv 3) A5 (by ac_rfl)) (by ac_rfl)) (Ad (A6 (K:=K) hu) (pv 3) A5 (by ac_rfl)) af1 ⋯)))
  (A3 (C5 A0X ⋯ (Ar (K:=K) hu (pv 1)) (Ag (i:=4) Cf.nd ⋯ (by eq_refl))
  (A7 (C5 A0X ⋯ (Ar (K:=K) hu (pv 1)) (Ag (i:=5) Cf.nd ⋯ (by eq_refl))
  (A7 (Co (Aj (Mf (K:=K) hq) (pv 4) (Ad (A6 (K:=K) hu) (pv 2) (pv 5) (by ac_rfl)) ⋯) (A7 (Et (Hj (K:=K) A2Q PySem.F.slot_dict_update PySem.F.type_dict_update (mm Qm) (Ad (A6 (K:=K) hu) (pv 2) (pv 5) (by ac_rfl)) (A1 (Ad (A6 (K:=K) hu) (pv 2) (pv 4) (by ac_rfl)) A2)))) Ay)))))
  (A7 (Ao (pv 2))))))),?_⟩
 symm
 refine Gy hI λnv hN=>?_
 symm
 obtain⟨na,rfl,hS⟩:=hN.nm;refine Wi hS ?_;refine Ik (Hz (xs:=ns.map V.str)) (λp i acc H1=>Same H H1/\∃ as:List Addr,as.length=i/\as.Nodup/\(∀ a∈as,H1 a=some (.dK [])/\H a=none)/\PrsK K H1 (Ge (ns.take i) as) acc) (λp H' hp e h=>⟨e,[],rfl,by simp,λ_ h=>(by cases h),by rfl⟩) (λp i acc H1 J=>J.1.seqT hS) (λp i x acc H1 hp hx hi hl ha J=>?_) λp acc H1 hp ha hl J=>?_
 . obtain ⟨e1,as,a8,aJ,a3,a5⟩:=J;rw[A06] at hx
   cases hz:ns[i]? with
   |none=>rw[hz] at hx;cases hx
   |some z=>
     rw[hz] at hx
     cases hx;have aL:i<ns.length:=(A00.mp hz).1
     symm
     refine Yh λb H2 aK e2 h2=>?_
     symm
     refine B5 (Ab (by simp)) λt H3 bJ e3 h3=>?_;have aO:H3 p=some (.lst acc):=e3 _ _ (e2 _ _ ha);refine Lc (by rw[A01];omega) hi hl aO λY Z h4=>?_;have b4:b≠p:=Ne.symm (ne_of_none ha aK);refine⟨by walk_at "sm",as++[b],by simp[a8],?_,λa a0=>?_,?_⟩
     . rw[A1E];refine⟨aJ,by simp,λa b2 c hc e=>?_⟩;have:c=b:=by simpa using hc
       subst this;subst e;have:=(a3 _ b2).1;rw[aK] at this
       cases this
     . rcases A0C.mp a0 with a0|a0
       . obtain⟨q1,q2⟩:=a3 a a0;exact⟨Z _ _ (ne_of q1 ha (by intro z;cases z)) (e3 _ _ (e2 _ _ q1)),q2⟩
       have:a=b:=by simpa using a0
       subst this;exact⟨Z _ _ b4 (e3 _ _ h2),e1.free aK⟩
     have ht:ns.take (i+1)=ns.take i++[z]:=by rw[A0S,hz];rfl
     have b7:(ns.take i).length=as.length:=by rw[A10,a8];omega
     rw[ht,Mu b7];have a6:=Z.fzL aO;exact PrsK.snoc (kv:=(Sum.inr z,V.ref b)) (a6.seq (SqT.of h3)) (PrsK.fz ((e2.fz.trans e3.fz).trans a6) a5)
 obtain⟨e1,as,a8,aJ,a3,a5⟩:=J;rw[A01] at a8;rw[A01,A0U] at a5
 symm
 refine a78 ha a5 (by unfold Ge;rw[List.length_map,List.length_zip];omega) λr H2 aW e2 h2=>?_;rw[L7 _ _ (Sv hn) (λ_ _ _ h=>by cases h),A3H] at h2;have bC:H r=none:=e1.free aW
 have bD:r∉as:=λhm=>by
  have:=(a3 r hm).1;rw[aW] at this
  cases this
 have aZ:Tab H2 r ns as (λz y=>(z,y)∈ps.take 0):=⟨a8,aJ,bD,h2,λi z a hz a0=>⟨[],e2 _ _ (a3 a (List.mem_of_getElem? a0)).1,by simp,λ_ h=>(by cases h),λy=>by simp⟩⟩
 symm
 refine T6 (hI.hf_fz (by walk_at "fz")) λpv aY=>?_
 refine aF0 aY (λi σ H3=>∃ x3,σ=[some v,some (.ref na),some (.ref r),x3,none,none]/\Same H H3/\Fz H2 H3/\Tab H3 r ns as (λz y=>(z,y)∈ps.take i))
  ⟨none,rfl,by walk_at "sm",.refl _,aZ⟩ (λi σ' H' J=>J.choose_spec.2.2.1) (λi pr w σ' H3 a5 aP J=>?_) (fun σ' H3 J=>?_)
 . obtain⟨x3,rfl,e3,aN,hT⟩:=J;have aV:=hW.mem pr (A03 a5);obtain⟨j,a,hj,aG⟩:=hT.at aV.1;obtain⟨ks,a2,aB,aC,aH⟩:=hT.row j _ a hj aG;have b6:ks.length<=ns.length:=By aB aC
   symm
   refine Tp aP ?_;refine Ux hT hn hj aG ?_
   symm
   refine On aP ?_;refine Iw a2 (by rw[K8];omega) λY Z h4=>?_;rw[Ws] at h4
   symm
   have b1:H a=none:=(a3 a (A03 aG)).2;refine⟨_,rfl,by walk_at "sm",aN.trans (Z.fzD a2),hT.put Z hn hj aG h4 (Jo aB) (λy hy=>?_) (λy=>?_) (λz hz bE y=>?_)⟩
   . rcases mem_addK.mp hy with hy|rfl
     . exact aC y hy
     exact aV.2
   . rw[mem_addK,aH,A0S,a5,A0C];constructor
     . rintro(h|rfl)
       . exact .inl h
       exact .inr (by simp)
     rintro(h|h)
     . exact .inl h
     right
     have:(pr.1,y)=pr:=by simpa using h
     rw[<- this]
   rw[A0S,a5,A0C];constructor
   . exact .inl
   rintro(h|h)
   . exact h
   have:(z,y)=pr:=by simpa using h
   exact absurd (by rw[<- this]) bE
 obtain⟨x3,rfl,e3,aN,hT⟩:=J;rw[A0U] at hT;have b0:War ns ps [] (λz y=>(z,y)∈ps):=⟨λz y h=>.one h,λz y h=>h,λm hm=>by cases hm⟩
 symm
 have aQ:Is K H3 (nmD ns) (.ref na):=hN.nm_fz e3.fz
 refine Mh aQ (λi σ Y=>∃ x4 x5 R,σ=[some v,some (.ref na),some (.ref r),x3,x4,x5]/\Same H Y/\Fz H3 Y/\Tab Y r ns as R/\War ns ps (ns.take i) R)
  ⟨_,_,_,rfl,e3,.refl _,hT,b0⟩ (λi σ' H' J=>?_) (λi U σ' Y aS J=>?_) (fun σ' Y J=>?_)
 . obtain⟨_,_,_,_,_,fz,_⟩:=J;exact fz
 . obtain⟨x4,x5,R,rfl,Z,a6,aF,hR⟩:=J;obtain⟨jm,am,aA,a9⟩:=aF.at (A03 aS);have aX:Is K Y (nmD ns) (.ref na):=aQ.nm_fz a6
   symm
   refine Mh aX (λj σ H5=>∃ x5,σ=[some v,some (.ref na),some (.ref r),x3,some (.str U),x5]/\Same H H5/\Fz Y H5/\Tab H5 r ns as (ar5 R U (ns.take j)))
    ⟨_,rfl,Z,.refl _,aF.congr λz _ y=>⟨.inl,λh=>h.elim (λq=>q) λq=>absurd q.1 (by simp)⟩⟩ (λi σ' H' J=>J.choose_spec.2.2.1) (λj nm σ' H5 aU J=>?_) (fun σ' H5 J=>?_)
   . obtain⟨bF,rfl,e5,a7,O⟩:=J;obtain⟨jn,an,a4,a1⟩:=O.at (A03 aU);obtain⟨ks,a2,aB,aC,aH⟩:=O.row jn nm an a4 a1;obtain⟨ms,b8,b9,aR,bA⟩:=O.row jm U am aA a9;have b6:ks.length<=ns.length:=By aB aC;have bI:ms.length<=ns.length:=By b9 aR;have aI:ns.take (j+1)=ns.take j++[nm]:=by rw[A0S,aU];rfl
     have aL:U∈ks↔R nm U:=(aH U).trans ⟨λh=>h.elim (λq=>q) λq=>q.2.1,.inl⟩;have bB:∀ y,y∈ms↔R U y:=λy=>(bA y).trans ⟨λh=>h.elim (λq=>q) λq=>q.2.2,.inl⟩
     have aM:∀ z∈ns,z≠nm->∀ y,ar5 R U (ns.take j) z y↔ar5 R U (ns.take (j+1)) z y:=λz _ hz y=>by unfold ar5;rw[aI,A0C,A0P];simp[hz]
     symm
     refine Ux O hn a4 a1 ?_;refine Wv a2 ?_
     symm
     refine Km (λhc=>?_) (λhc=>?_)
     . have aE:=aL.mp hc
       by_cases aT:nm=U
       . subst aT
         have b5:jn=jm:=by obtain⟨p1,p2⟩:=A00.mp a4;obtain⟨q1,q2⟩:=A00.mp aA;exact(A1G hn).mp (p2.trans q2.symm)
         subst b5;rw[a1] at a9
         cases a9
         symm
         refine Ux O hn a4 a1 ?_;refine ag6 a2 ?_
         symm
         refine Ux O hn a4 a1 ?_
         symm
         refine aL5 a2 ?_
         symm
         refine⟨_,rfl,e5,a7,O.congr λz hz y=>?_⟩
         by_cases aD:z=nm
         . subst aD;unfold ar5;constructor
           . exact λh=>.inl (h.elim (λq=>q) λq=>q.2.2)
           exact λh=>.inl (h.elim (λq=>q) λq=>q.2.2)
         exact aM z hz aD y
       have b3:an≠am:=λq=>by subst q;obtain⟨p1,p2⟩:=A00.mp a1;obtain⟨q1,q2⟩:=A00.mp a9;have:=(A1G O.nd).mp (p2.trans q2.symm);subst this;rw[a4] at aA;exact aT (A15 aA)
       symm
       refine Ux O hn a4 a1 ?_;refine ag6 a2 ?_
       symm
       refine Ux O hn aA a9 ?_
       symm
       refine af9 a2 b8 b3 ∅ λH6 e6 h6=>?_
       symm
       have b1:H an=none:=(a3 an (A03 a1)).2;refine⟨_,rfl,by walk_at "sm",a7.trans (e6.fzD a2),O.put e6 hn a4 a1 h6 (Gw aB) (λy hy=>?_) (λy=>?_) aM⟩
       . rcases mem_addAll.mp hy with hy|hy
         . exact aC y hy
         exact aR y hy
       rw[mem_addAll,aH,bB];unfold ar5;rw[aI,A0C,A0P];constructor
       . rintro((h|h)|h)
         . exact .inl h
         . exact .inr ⟨.inl h.1,h.2⟩
         exact .inr ⟨.inr rfl,aE,h⟩
       rintro(h|h)
       . exact .inl (.inl h)
       exact .inr h.2.2
     have aE:¬ R nm U:=λq=>hc (aL.mpr q)
     symm
     refine⟨_,rfl,e5,a7,O.congr λz hz y=>?_⟩
     by_cases aD:z=nm
     . subst aD;unfold ar5;constructor
       . exact λh=>.inl (h.elim (λq=>q) λq=>absurd q.2.1 aE)
       exact λh=>.inl (h.elim (λq=>q) λq=>absurd q.2.1 aE)
     exact aM z hz aD y
   obtain⟨bF,rfl,e5,a7,O⟩:=J;rw[A0U] at O;refine⟨_,_,_,rfl,e5,a6.trans a7,O.congr (R':=λz y=>R z y\/(R z U/\R U y)) λz hz y=>?_,?_⟩
   . unfold ar5;simp[hz]
   have aI:ns.take (i+1)=ns.take i++[U]:=by rw[A0S,aS];rfl
   rw[aI];exact hR.step
 obtain⟨x4,x5,R,rfl,Z,a6,aF,hR⟩:=J;rw[A0U] at hR
 symm
 exact k r as Y bC (λa a0=>(a3 a a0).2) Z (aF.congr λz _ y=>hR.done hW.mem z y)
def Dj (K:W.Frag):Sp:=λvs H Q _=>∃ v u ns ps xs,vs=[v,u]/\Is K H (hfD ns ps) v/\Is K H (nmD xs) u/\(∀ x∈xs,x∈ns)/\Q .non H
theorem Kf {f:Addr}{fd:FuncData}(F:Fun K "refuse_strangers" "refuse_strangers" Bd f fd)(T:Ey mg):FnOk P w K mg base CX0 1 f fd ["half","asked"] (Dj K):=by
 refine F.ok Gs (λvs H Q E h=>?_) (λa0 A outer s H vs Q E U h=>?_)
 . obtain⟨v,u,ns,ps,xs,rfl,_⟩:=h;rfl
 obtain⟨v,u,ns,ps,xs,rfl,Y,hU,hx,k⟩:=h;have hu:=Bj U;have hq:=Bi U
 with_reducible refine⟨_,(A7 (C5 A0X ⋯ (Ar (K:=K) hu (pv 1)) (Ag (i:=2) Gs.nd ⋯ (by eq_refl))
  (A7 (Co (Aj (Fp (K:=K) hq) (pv 2) (Ad (A6 (K:=K) hu) (pv 0) A5 (by ac_rfl)) ⋯) (A7 La) Ay)))),?_⟩
 symm
 refine Mh hU (λi σ H1=>∃ J,σ=[some v,some u,J]/\H1=H) ⟨_,rfl,rfl⟩ (λi σ' H' q=>?_) (λi z σ' H1 hz q=>?_) (fun σ' H1 q=>?_)
 . obtain⟨_,_,rfl⟩:=q;exact .refl _
 . obtain⟨J,rfl,rfl⟩:=q
   symm
   refine Gy Y λnv Z=>?_;refine ap2 Z ?_
   symm
   refine ax9 (λO=>absurd (hx z (A03 hz)) O) (λO=>?_)
   symm
   exact⟨_,rfl,rfl⟩
 obtain⟨J,rfl,rfl⟩:=q;exact k
theorem ay3 {x y:Str}{ns:List Str}(q:x∈ns)(F:y∈ns):∀ z∈[x,y],z∈ns:=λz hz=>by
 rcases A0A.mp hz with rfl|hz
 . exact q
 have:z=y:=by simpa using hz
 subst this;exact F
def Oh (K:W.Frag):Sp:=λvs H Q _=>∃ v ns ps,vs=[v]/\Is K H (hfD ns ps) v/\HalfW ns ps/\∀ u H',Same H H'->Is K H' (psD (clP ns ps)) u->Q u H'
def Db (K:W.Frag):Sp:=λvs H Q _=>∃ r v ns ps as p,vs=[.ref r,v]/\TabR H r ns as (Way ps)/\ns.Nodup/\ns.length<=100/\(∀ q∈ps,q.1∈ns/\q.2∈ns)/\Is K H (prD p) v/\p.1∈ns/\∀ H',Keep as H H'->Q (.bl (thB ns ps p)) H'
theorem ah8 {f:Addr}{fd:FuncData}(F:Fun K "closed" "closed" Jh f fd)(T:Ey mg)(As:Fnd P w K mg base 1 "behind_each" ["half"] (C3 K)):FnOk P w K mg base CX0 2 f fd ["half"] (Oh K):=by
 refine F.ok L8 (λvs H Q E h=>?_) (λaH A outer s H vs Q E hr h=>?_)
 . obtain⟨v,ns,ps,rfl,_⟩:=h;rfl
 obtain⟨v,ns,ps,rfl,hI,hW,k⟩:=h;have hu:=Bj hr;have hq:=Bi hr;have aJ:=hW.few
 with_reducible refine⟨_,(A3 (A9 (i:=1) L8.nd ⋯ (by with_unfolding_all exact A37 rfl) (Aq As (hr.mono nofun) ⋯ (A1 (pv 0) A2)))
  (A3 (A9 (i:=2) L8.nd ⋯ (by eq_refl) (Ci A2))
  (A3 (C5 A0X ⋯ (Ar (K:=K) hu (Ad (A6 (K:=K) hu) (pv 0) A5 (by ac_rfl))) (Ag (i:=3) L8.nd ⋯ (by with_unfolding_all exact A37 rfl))
  (A7 (Et (Hj (K:=K) A1F A3D A3E (mm Kw) (pv 2) (A1 (C2 ["other"] ["one","reach"] [3,1] ⋯ ⋯ ⋯ (Ar (K:=K) hu (Ad (A6 (K:=K) hu) (pv 0) A5 (by ac_rfl))) (λ_ _ _ _=>(Ag (i:=0) (by with_unfolding_all (show(["other","one","reach"]:List Str).Nodup;decide +kernel)) ⋯ (by eq_refl))) (Bf nofun) (λ_ _ _ _=>(Fg (Aj (Mf (K:=K) hq) (pv 0) (Ad (A6 (K:=K) hu) (pv 2) (pv 1) (by ac_rfl)) ⋯))) (λ_ _ _ _=>(B6 (A1 (pv 1) (A1 (pv 0) A2))))) A2)))))
  (A7 (Ao (B0 (Cq (K:=K)) ⋯ T.b_tuple PyProof.Rows.Boot.«tuple» (A1 (pv 2) A2))))))),?_⟩
 symm
 refine⟨v,ns,ps,rfl,hI,hW,λr as H1 aP aI e1 hT=>?_⟩
 symm
 refine Ch (Ab (by simp)) λp H2 aE e2 h2=>?_
 symm
 refine Gy (hI.hf_fz (by walk_at "fz")) λnv hN=>?_
 refine Mh hN (λi σ O=>∃ x3,σ=[some v,some (.ref r),some (.ref p),x3]/\Same H1 O/\Fz H2 O/\∃ ys,O p=some (.lst ys)/\IsL K O (((ns.take i).flatMap (clR ns ps)).map prD) ys/\ys.length<=i*100)
  ⟨none,rfl,e2,.refl _,[],h2,by simp only[List.take_zero,List.flatMap_nil,List.map_nil];exact .nil,by simp⟩ (λi σ' H' Z=>?_) (λi z σ' O hz Z=>?_) (fun σ' O Z=>?_)
 . obtain⟨_,_,_,fz,_⟩:=Z;exact fz
 . obtain⟨x3,rfl,Y,a3,ys,h3,hL,aD⟩:=Z;have a8:Is K O (hfD ns ps) v:=hI.hf_fz (e1.fz.trans Y.fz);have aG:=A03 hz;have aK:i<ns.length:=(A00.mp hz).1
   symm
   refine Gy a8 λaR a9=>?_;refine Sq a9 (λy=>Aa ps z y) (λy=>prD (z,y)) (λ_=>Gx _) ∅ (λj y U R R' hy J hR aA=>?_) (λq zs U aO J h4 a5=>?_)
   . have a2:=hT.same (Y.trans J);obtain⟨a0,b0,a6,a7⟩:=a2.at aG;obtain⟨ks,aB,aL,aM,aC⟩:=a2.row a0 z b0 a6 a7
     symm
     refine Ux a2 hW.nd a6 a7 ?_;refine Wv aB ?_;rw[Ko (aC y)]
     symm
     refine aJ2 (λhc=>?_) (λhc=>?_)
     . symm
       refine B5 (Ab (by simp)) λt H5 aQ e5 h5=>?_;exact hR hc _ _ e5 (Ru (SqT.of h5))
     exact aA hc _ (Same.refl _)
   symm
   have a4:=J _ _ h3
   have aN:zs.length<=ns.length:=by rw[<- IsL.length a5,A01];exact A0T _ _
   refine Y1 a4 h4 ∅ λH5 e5 h5=>?_
   symm
   have a1:Fz U H5:=e5.fzL a4;refine⟨_,rfl,?_,(a3.trans J.fz).trans a1,_,h5,?_,?_⟩
   . refine Same.off (q:=p) (H1:=U) (Y.trans J) ?_ e5;exact aE
   . have ht:ns.take (i+1)=ns.take i++[z]:=by rw[A0S,hz];rfl
     rw[ht,A28,A13];refine IsL.append (IsL.fz (J.fz.trans a1) _ _ (Bz _) hL) ?_
     have e:([z].flatMap (clR ns ps)).map prD=(ns.filter λy=>Aa ps z y).map λy=>prD (z,y):=by simp[clR,Function.comp_def]
     rw[e];exact IsL.fz a1 _ _ (De _ (λ_=>Gx _) _) a5
   rw[A07];omega
 obtain⟨x3,rfl,Y,a3,ys,h3,hL,aD⟩:=Z;rw[A0U] at hL
 symm
 exact Rm h3 hL λu U J aF=>k u U ((e1.trans Y).trans J) aF
theorem Jv {f:Addr}{fd:FuncData}(F:Fun K "has_third_between" "has_third_between" B8 f fd)(T:Ey mg):FnOk P w K mg base CX0 1 f fd ["reach","pair"] (Db K):=by
 refine F.ok Jw (λvs H Q E h=>?_) (λaC A outer s H vs Q E hr h=>?_)
 . obtain⟨r,v,ns,ps,as,p,rfl,_⟩:=h;rfl
 obtain⟨r,v,ns,ps,as,p,rfl,U,hn,aD,aH,hI,aB,k⟩:=h;have hu:=Bj hr;have hq:=Bi hr;obtain⟨i,a,hi,Z⟩:=U.at aB;obtain⟨ks,a6,a7,a0,a8⟩:=U.row i p.1 a hi Z;have aE:ks.length<=ns.length:=By a7 a0
 with_reducible refine⟨_,(A7 (Ao (Am (a73 (K:=K) ⋯) ⋯ T.b_any PyProof.Rows.Boot.«any» (A1 (C2 ["third"] ["pair","reach"] [1,0] ⋯ ⋯ ⋯ (Ar (K:=K) hu (Ad (A6 (K:=K) hu) (pv 0) (Ad (A6 (K:=K) hu) (pv 1) A5 (by ac_rfl)) (by ac_rfl))) (λ_ _ _ _=>(Ag (i:=0) (by with_unfolding_all (show(["third","pair","reach"]:List Str).Nodup;decide +kernel)) ⋯ (by eq_refl))) (Bf nofun) (λ_ _ _ _=>El) (λ_ _ _ _=>(Gh (Mf (K:=K) hq) (Ad (A6 (K:=K) hu) (pv 1) A5 (by ac_rfl)) (Ad (A6 (K:=K) hu) (pv 2) (pv 0) (by ac_rfl)) ⋯))) A2)))),?_⟩
 symm
 refine Tp hI ?_;refine Mc U hn hi Z ?_;refine Ra a6 (A03 Z) λo H1 k1 h1=>?_;have a4:=hI.pr_fz k1.fz;have a5:=U.keep k1;refine Mt Lb (λx=>match x with | .str z=>.bl (Aa ps z p.2) | w=>w) (by rw[A01,K8];omega) (λH' e=>e _ _ h1) (λj x H2 R J O hR=>?_) (λq H2 aI O h2=>?_)
 . obtain⟨z,hz,rfl⟩:∃ z,z∈ks/\x = .str z:=by
    unfold Gz at J;rw[A1A,A06] at J
    cases hz:ks[j]? with
    |none=>rw[hz] at J;cases J
    |some z=>
      rw[hz] at J
      cases J;exact⟨z,A03 hz,rfl⟩
   have Y:=a5.same O;obtain⟨i2,a2,a3,a1⟩:=Y.at (a0 z hz);obtain⟨ms,a9,aF,aG,aA⟩:=Y.row i2 z a2 a3 a1
   symm
   refine On (a4.pr_fz O.fz) ?_
   symm
   refine Mc Y hn a3 a1 ?_;refine Xa a9 ?_;rw[Ko (aA p.2)];exact hR
 symm
 have e:((Gz ks).map λkv=>kV kv.1).map (λx=>match x with | .str z=>.bl (Aa ps z p.2) | w=>w)=(ks.map λz=>Aa ps z p.2).map V.bl:=by unfold Gz;rw[A1A,A1A,A1A];rfl
 rw[e] at h2;refine aU1 (SqL.of h2) ?_;rw[au3 a0 a8];exact k H2 (k1.trans (O.keep as))
def Wz (K:W.Frag):Sp:=λvs H Q _=>∃ v ns ps,vs=[v]/\Is K H (hfD ns ps) v/\HalfW ns ps/\∀ u H',Same H H'->Is K H' (psD (baP ns ps)) u->Q u H'
def G9 (K:W.Frag):Sp:=λvs H Q _=>∃ r x y ns ps as,vs=[.ref r,.str x,.str y]/\TabR H r ns as (Way ps)/\ns.Nodup/\x∈ns/\y∈ns/\Q (.bl (unB ps x y)) H
def J5 (K:W.Frag):Sp:=λvs H Q _=>∃ r ns ps as,vs=[.ref r]/\Tab H r ns as (Way ps)/\ns.Nodup/\ns.length<=100/\∀ u H',Same H H'->Is K H' (psD (unP ns ps)) u->Q u H'
theorem Ld:∀ {ns:List Str} {as:List Addr},as.length=ns.length->(Ge ns as).map (λkv=>kV kv.1)=ns.map V.str
 | [],[],_=>rfl
 | [],_ :: _,h=>by simp at h
 |_ :: _,[],h=>by simp at h
 |n :: ns,a :: as,h=>by have q:=Ld (ns:=ns) (as:=as) (by simpa using h);unfold Ge at q ⊢;rw[A59,A0H,A0H,q];rfl
def Nw (K:W.Frag):Sp:=λvs H Q _=>∃ v ns ps,vs=[v]/\Is K H (hfD ns ps) v/\HalfW ns ps/\∀ u H',Same H H'->Is K H' (psD (unP ns ps)) u->Q u H'
theorem ay0 {f:Addr}{fd:FuncData}(F:Fun K "bare" "bare" Qi f fd)(T:Ey mg)(As:Fnd P w K mg base 1 "behind_each" ["half"] (C3 K))(R9:Fnd P w K mg base 2 "closed" ["half"] (Oh K))(Di:Fnd P w K mg base 1 "has_third_between" ["reach","pair"] (Db K)):FnOk P w K mg base CX0 3 f fd ["half"] (Wz K):=by
 refine F.ok a93 (λvs H Q E h=>?_) (λa6 A outer s H vs Q E O h=>?_)
 . obtain⟨v,ns,ps,rfl,_⟩:=h;rfl
 obtain⟨v,ns,ps,rfl,hI,J,k⟩:=h;have hu:=Bj O;have hq:=Bi O;have Y:=J.few;have a7:(clP ns ps).length<=10000:=A0O (ay7 ns ps) (A2K Y Y)
 with_reducible refine⟨_,(A3 (A9 (i:=1) a93.nd ⋯ (by with_unfolding_all exact A37 rfl) (Aq As (O.mono nofun) ⋯ (A1 (pv 0) A2)))
  (A7 (Ao (B0 (Cq (K:=K)) ⋯ T.b_tuple PyProof.Rows.Boot.«tuple» (A1 (C2 ["pair"] ["reach"] [1] ⋯ ⋯ ⋯ (Ar (K:=K) hu (Aq R9 (O.mono nofun) ⋯ (A1 (pv 0) A2))) (λ_ _ _ _=>(Ag (i:=0) (by with_unfolding_all (show(["pair","reach"]:List Str).Nodup;decide +kernel)) ⋯ (by eq_refl))) (Bf nofun) (λ_ _ _ _=>(Fg (Ug (Mj (Aq Di (O.mono nofun) ⋯ (A1 (pv 1) (A1 (pv 0) A2))))))) (λ_ _ _ _=>(pv 0))) A2))))),?_⟩
 symm
 refine⟨v,ns,ps,rfl,hI,J,λr as H1 a9 a4 e1 hT=>?_⟩
 symm
 refine⟨v,ns,ps,rfl,hI.hf_fz e1.fz,J,λu H2 e2 hU=>?_⟩;have a1:=hT.same e2;refine an4 hU as a1.some (λp=>!thB ns ps p) prD Gx ∅ (λi p w H3 R R' hp a0 k3 hR a3=>?_) (λq ys H3 a8 k3 h3 a2=>?_)
 . symm
   refine⟨r,w,ns,ps,as,p,rfl,a1.toR.keep k3,J.nd,Y,J.mem,a0,(mem_clP.mp (A03 hp)).1,λH4 Z=>?_⟩
   symm
   refine Vg (λU=>?_) (λU=>?_)
   . symm
     exact hR (by rw[U];rfl) _ _ Z (a0.pr_fz Z.fz)
   exact a3 (by rw[U];rfl) _ Z
 symm
 exact Rm h3 a2 λu H4 e4 a5=>k u H4 (((e1.trans e2).then a4 k3).trans e4) a5
theorem Re {f:Addr}{fd:FuncData}(F:Fun K "are_untold" "are_untold" Du f fd)(T:Ey mg):FnOk P w K mg base CX0 1 f fd ["reach","one","other"] (G9 K):=by
 refine F.ok Su (λvs H Q E h=>?_) (λa4 A outer s H vs Q E hr h=>?_)
 . obtain⟨r,x,y,ns,ps,as,rfl,_⟩:=h;rfl
 obtain⟨r,x,y,ns,ps,as,rfl,q,hn,hx,hy,k⟩:=h;have hu:=Bj hr;have Z:=Bi hr;obtain⟨i,a,hi,O⟩:=q.at hx;obtain⟨ks,a0,a5,a6,a1⟩:=q.row i x a hi O;obtain⟨j,b,Y,U⟩:=q.at hy;obtain⟨ms,a2,a7,a8,a3⟩:=q.row j y b Y U
 with_reducible refine⟨_,(A7 (Ao (Mb (Gh (Fp (K:=K) Z) (pv 2) (Ad (A6 (K:=K) hu) (pv 0) (pv 1) (by ac_rfl)) ⋯) (Vo (Gh (Fp (K:=K) Z) (pv 1) (Ad (A6 (K:=K) hu) (pv 0) (pv 2) (by ac_rfl)) ⋯))))),?_⟩
 symm
 refine Mc q hn hi O ?_;refine Ts a0 ?_;rw[Ko (a1 y)]
 symm
 refine Vg (λJ=>?_) (λJ=>?_)
 . symm
   refine Mc q hn Y U ?_;refine Ts a2 ?_;rw[Ko (a3 x)];unfold unB at k;rw[J] at k;exact k
 unfold unB at k;rw[J] at k;exact k
theorem Tq {f:Addr}{fd:FuncData}(F:Fun K "untold_of" "untold_of" En f fd)(T:Ey mg)(Dq:Fnd P w K mg base 1 "are_untold" ["reach","one","other"] (G9 K)):FnOk P w K mg base CX0 2 f fd ["reach"] (J5 K):=by
 refine F.ok Fq (λvs H Q E h=>?_) (λaH A outer s H vs Q E hr h=>?_)
 . obtain⟨r,ns,ps,as,rfl,_⟩:=h;rfl
 obtain⟨r,ns,ps,as,rfl,hT,aD,aC,k⟩:=h;have hu:=Bj hr;have hq:=Bi hr
 with_reducible refine⟨_,(A3 (A9 (i:=1) Fq.nd ⋯ (by eq_refl) (B0 (Qj ⋯) ⋯ T.b_list PyProof.Rows.Boot.«list» (A1 (pv 0) A2)))
  (A3 (A9 (i:=2) Fq.nd ⋯ (by eq_refl) (Ci A2))
  (A3 (C5 A0X ⋯ (aj6 (K:=K) ⋯ T.b_enumerate (A1 (pv 1) A2)) (Nk (K:=K) (n:=2) ⋯ (Fk (Ag (i:=3) Fq.nd ⋯ (by eq_refl)) (Fk (Ag (i:=4) Fq.nd ⋯ (by with_unfolding_all exact A37 rfl)) Nb)))
  (A7 (Et (Hj (K:=K) A1F A3D A3E (mm Kw) (pv 2) (A1 (C2 ["other"] ["one","reach"] [4,0] ⋯ ⋯ ⋯ (Ar (K:=K) hu (Bt (Sz (K:=K)) (pv 1) (Bq (Ap (An (K:=K)) (pv 3) A5)) Fb)) (λ_ _ _ _=>(Ag (i:=0) (by with_unfolding_all (show(["other","one","reach"]:List Str).Nodup;decide +kernel)) ⋯ (by eq_refl))) (Bf nofun) (λ_ _ _ _=>(Fg (Mj (Aq Dq (hr.mono nofun) ⋯ (A1 (pv 2) (A1 (pv 1) (A1 (pv 0) A2))))))) (λ_ _ _ _=>(B6 (A1 (pv 1) (A1 (pv 0) A2))))) A2)))))
  (A7 (Ao (B0 (Cq (K:=K)) ⋯ T.b_tuple PyProof.Rows.Boot.«tuple» (A1 (pv 2) A2))))))),?_⟩
 symm
 refine a95 hT.top (by unfold Ge;rw[List.length_map,List.length_zip];omega) λq H1 aN e1 h1=>?_;rw[Ld hT.len] at h1
 symm
 refine Ch (Ab (by simp)) λp H2 a5 e2 h2=>?_;have aM:q≠p:=ne_of_none h1 a5
 symm
 refine a83 (SqL.of (e2 _ _ h1)) (λi σ O=>∃ x3 x4,σ=[some (.ref r),some (.ref q),some (.ref p),x3,x4]/\Same H1 O/\Fz H2 O/\∃ ys,O p=some (.lst ys)/\IsL K O ((unK ns ps i).map prD) ys)
  ⟨none,none,rfl,e2,.refl _,[],h2,.nil⟩ (λi σ' H' hP=>?_) (λi x σ' aG O hx hP a0=>?_) (fun σ' O hP=>?_)
 . obtain⟨_,_,_,es,_⟩:=hP;exact SqL.of (es _ _ h1)
 . obtain⟨x3,x4,rfl,a6,a7,ys,a8,a9⟩:=hP
   obtain⟨z,hz,rfl⟩:∃ z,ns[i]? = some z/\x = .str z:=by
    rw[A06] at hx
    cases g:ns[i]? with
    |none=>rw[g] at hx;cases hx
    |some z=>rw[g] at hx;cases hx;exact⟨z,rfl,rfl⟩
   have Y:=a6.trans a0;have a2:=a7.trans a0.fz;have h3:=a0 _ _ a8;have Z:=IsL.mono a0 _ _ a9;have aF:=A03 hz;have aI:i<ns.length:=(A00.mp hz).1
   have aJ:ys.length<=i*ns.length:=by rw[<- IsL.length Z,A01];exact az7 ns ps i
   have aK:i*ns.length<=100*100:=A2K ∅ aC
   symm
   refine Mn (SqL.of (Y _ _ h1)) λt H4 aP J h4=>?_;rw[show((i:Int)+1)=(((i+1:Nat)):Int) from rfl,am3 ∅] at h4;refine Sx (SqL.of h4) (λy=>unB ps z y) (λy=>prD (z,y)) (λ_=>Gx _) (by rw[A1B];omega) (λj y H5 R R' hy U hR aA=>?_) (λq5 zs H5 aO U h5 a4=>?_)
   . have aB:=hT.same (((e1.trans Y).trans J).trans U)
     symm
     refine⟨r,z,y,ns,ps,as,rfl,aB.toR,aD,aF,A35 (A03 hy),?_⟩
     symm
     refine aJ2 (λhc=>?_) (λhc=>?_)
     . symm
       refine B5 (Ab (by simp)) λt H6 aQ e6 h6=>?_;exact hR hc _ _ e6 (Ru (SqT.of h6))
     exact aA hc _ (Same.refl _)
   symm
   have a3:=U _ _ (J _ _ h3)
   have aL:zs.length<=ns.length:=by rw[<- IsL.length a4,A01];exact A0O (A0T _ _) (by rw[A1B];omega)
   refine Y1 a3 h5 ∅ λH6 e6 h6=>?_
   symm
   have a1:Fz H5 H6:=e6.fzL a3;refine⟨_,_,rfl,?_,((a2.trans J.fz).trans U.fz).trans a1,_,h6,?_⟩
   . exact Same.off (q:=p) (H1:=H5) ((Y.trans J).trans U) a5 e6
   rw[am2,A13];refine IsL.append (IsL.fz ((J.fz.trans U.fz).trans a1) _ _ (Bz _) Z) ?_
   have e:(unR ns ps i).map prD=((ns.drop (i+1)).filter λy=>unB ps z y).map λy=>prD (z,y):=by unfold unR;rw[Wf hz,A1A];rfl
   rw[e];exact IsL.fz a1 _ _ (De _ (λ_=>Gx _) _) a4
 obtain⟨x3,x4,rfl,Y,a2,ys,h3,Z⟩:=hP;rw[A01] at Z
 symm
 exact Rm h3 Z λu H4 J aE=>k u H4 ((e1.trans Y).trans J) aE
theorem a07 {f:Addr}{fd:FuncData}(F:Fun K "untold" "untold" Jn f fd)(T:Ey mg)(As:Fnd P w K mg base 1 "behind_each" ["half"] (C3 K))(Kb:Fnd P w K mg base 2 "untold_of" ["reach"] (J5 K)):FnOk P w K mg base CX0 3 f fd ["half"] (Nw K):=by
 refine F.ok a90 (λvs H Q E h=>?_) (λa0 A outer s H vs Q E q h=>?_)
 . obtain⟨v,ns,ps,rfl,_⟩:=h;rfl
 obtain⟨v,ns,ps,rfl,Y,J,k⟩:=h;have hu:=Bj q;have hq:=Bi q
 with_reducible refine⟨_,(A7 (Ao (Aq Kb (q.mono nofun) ⋯ (A1 (Aq As (q.mono nofun) ⋯ (A1 (pv 0) A2)) A2)))),?_⟩
 symm
 refine⟨v,ns,ps,rfl,Y,J.c,λr as H1 a2 a1 O Z=>?_⟩
 symm
 exact⟨r,ns,ps,as,rfl,Z,J.nd,J.few,λu H2 U hU=>k u H2 (O.trans U) hU⟩
def WyT (K:W.Frag)(H:Hp)(ps:List (Str×Str))(x:Str)(ks:List Str)(q:List Addr):Prop:=q.length=ks.length/\∀(i:Nat) (z:Str) (t:Addr),ks[i]? = some z->q[i]? = some t->∃ js os,Is K H (jsD js) (.ref t)/\js.length<=1000/\Trl ps x js z os/\∀ o∈os,o∈ks
theorem WyT.fz {K:W.Frag}{H H':Hp}{ps:List (Str×Str)}{x:Str}{ks:List Str}{q:List Addr}(h:WyT K H ps x ks q)(e:Fz H H'):WyT K H' ps x ks q:=
 ⟨h.1,λi z t hz F=>let ⟨js,os,h1,h2⟩:=h.2 i z t hz F;⟨js,os,Is.fz e _ _ (aq5 js) h1,h2⟩⟩
theorem WyT.snoc {K:W.Frag}{H:Hp}{ps:List (Str×Str)}{x:Str}{ks:List Str}{J:List Addr}(h:WyT K H ps x ks J){z:Str}{t:Addr}{js:List Nat}{os:List Str}(h1:Is K H (jsD js) (.ref t))(h2:js.length<=1000)(h3:Trl ps x js z os)(h4:∀ o∈os,o∈ks):WyT K H ps x (ks++[z]) (J++[t]):=by
 refine⟨by simp[h.1],λi y u q hu=>?_⟩
 by_cases hi:i<ks.length
 . rw[A1S hi] at q;rw[A1S (by rw[h.1];exact hi)] at hu;obtain⟨a1,a2,Y,Z,g3,g4⟩:=h.2 i y u q hu;exact⟨a1,a2,Y,Z,g3,λo F=>A0M _ (g4 o F)⟩
 have a0:i=ks.length:=by have:=(A00.mp q).1;rw[A07,A16] at this;omega
 subst a0;have O:y=z:=by simpa using q.symm
 have U:u=t:=by rw[<- h.1] at hu;simpa using hu.symm
 subst O U;exact⟨js,os,h1,h2,h3,λo F=>A0M _ (h4 o F)⟩
def Es (K:W.Frag):Sp:=λvs H Q _=>∃ v x y ps,vs=[v,.str x,.str y]/\Is K H (psD ps) v/\ps.length<=100/\∀ u H',Same H H'->((u = .non/\¬ x=y/\¬ Way ps x y)\/∃ js os,Is K H' (jsD js) u/\js.length<=1000/\Trl ps x js y os)->Q u H'
theorem Lh {f:Addr}{fd:FuncData}(F:Fun K "way_by_sayings" "way_by_sayings" Bx f fd)(T:Ey mg):FnOk P w K mg base CX0 1 f fd ["sayings","start","goal"] (Es K):=by
 refine F.ok Bn (λvs H Q E h=>?_) (λbS A outer s H vs Q E hr h=>?_)
 . obtain⟨v,x,y,ps,rfl,_⟩:=h;rfl
 obtain⟨v,x,y,ps,rfl,hI,hl,k⟩:=h;have hu:=Bj hr;have hq:=Bi hr
 with_reducible refine⟨_,(A3 (A9 (i:=3) Bn.nd ⋯ (by eq_refl) (Sn (Il (pv 1) (B6 A2) Rp) ⋯ ⋯ nofun nofun))
  (A3 (A9 (i:=4) Bn.nd ⋯ (by eq_refl) (Ci (A1 (pv 1) A2)))
  (A3 (Xq A0X (Aj W9 (Am (Bp (K:=K)) ⋯ T.b_len PyProof.Rows.Boot.«len» (A1 (pv 4) A2)) A5 (Aw _))
  (A3 (A9 (i:=5) Bn.nd ⋯ (by eq_refl) (Hj (K:=K) A1F PySem.F.slot_list_pop PySem.F.type_list_pop (mm Yi) (pv 4) (A1 A5 A2)))
  (A7 (C5 A0X ⋯ (aw2 (K:=K) ⋯ T.b_enumerate (A1 (pv 0) A2)) (Nk (K:=K) (n:=2) ⋯ (Fk (Ag (i:=6) Bn.nd ⋯ (by eq_refl)) (Fk (Ag (i:=7) Bn.nd ⋯ (by eq_refl)) Nb)))
  (A7 (Co (PW.pt (Ur (Aj (Ck (K:=K) hq) (Ad (A6 (K:=K) hu) (pv 7) A5 (by ac_rfl)) (pv 5) (Aw _)) (Oz (Aj (Fp (K:=K) hq) (Ad (A6 (K:=K) hu) (pv 7) A5 (by ac_rfl)) (pv 3) ⋯)))) (A3 (Ff hu (pv 3) (Ad (A6 (K:=K) hu) (pv 7) A5 (by ac_rfl)) (Ap (An (K:=K)) (Ad (A6 (K:=K) hu) (pv 3) (pv 5) (by ac_rfl)) (B6 (A1 (pv 6) A2))) ⋯)
  (A7 (Et (Hj (K:=K) A1F A3B A3C (mm J4) (pv 4) (A1 (Ad (A6 (K:=K) hu) (pv 7) A5 (by ac_rfl)) A2))))) Ay))))))
  (A7 (Ao (al7 hu (pv 3) (pv 2) (by with_unfolding_all exact⟨rfl,rfl,rfl,rfl⟩))))))),?_⟩
 symm
 refine Xe λr H1 bY e1 h1=>?_
 symm
 refine B5 nofun λt0 H2 bZ e2 h2=>?_
 symm
 refine Rx [(Sum.inr x,.ref t0)] (by walk_at "lk") (by rfl) (by simp) λH3 e3 h3=>?_;have aW:H3 r=some (.dK (Ge [x] [t0])):=h3
 symm
 refine Ch (Ab (by simp)) λq H4 b2 e4 h4=>?_;have bA:H2 r=some (.dK []):=e2 _ _ h1;have bN:H3 t0=some (.tup []):=e3 _ _ (ne_of h2 bA (by intro z;cases z)) h2;have aI:r≠q:=ne_of_none aW b2;have b3:Same H H4:=by walk_at "sm"
 have bX:H q=none:=Same.free (by walk_at "sm":Same H H3) b2
 have bH:WyT K H4 ps x [x] [t0]:=⟨rfl,λi z t hz ht=>by
  have hi:i=0:=by have:=(A00.mp hz).1;simpa using this
  subst hi;have e1:z=x:=by simpa using hz.symm
  have e2:t=t0:=by simpa using ht.symm
  subst e1 e2;exact⟨[],[],Is.of_tup (SqT.of (e4 _ _ bN)) .nil,by decide,Trl.nil ps _,λ_ h=>by cases h⟩⟩
 symm
 refine ag3 (λm σ Y=>∃ ks ws ts x5 x6 x7,σ=[some v,some (.str x),some (.str y),some (.ref r),some (.ref q),x5,x6,x7]/\Same H Y/\Y r=some (.dK (Ge ks ts))/\Y q=some (.lst (ws.map V.str))/\WyT K Y ps x ks ts/\WyI ps x ks ws/\m=2*(ps.length+1-ks.length)+ws.length)
  (2*(ps.length+1-[x].length)+[x].length) ⟨[x],[x],[t0],_,_,_,rfl,b3,e4 _ _ aW,h4,bH,⟨by simp,by simp,λy hy=>.inl (by simpa using hy),λz hz=>hz,λz hz hn=>absurd hz hn,by simp⟩,rfl⟩ λm σ Y hP=>?_
 obtain⟨ks,ws,ts,x5,x6,x7,rfl,e5,aB,aX,aF,O,rfl⟩:=hP
 symm
 refine Km (λhE=>?_) (λhE=>?_)
 . cases ws with
   |nil=>simp at hE
   |cons here ws=>
   refine ap4 ?_
   symm
   refine Xt (y:=.str here) aX nofun (by rfl) (λH6 e6 bB=>?_) (by have:=O.le;have:=O.few;rw[A01];omega);have bC:H6 q=some (.lst (ws.map V.str)):=bB;have bD:H6 r=some (.dK (Ge ks ts)):=e6 _ _ aI aB;have b6:Fz Y H6:=e6.fzL aX;have aN:Same H H6:=by walk_at "sm"
   have bV:=O.le;have bJ:=O.few;rw[A0G] at bJ
   symm
   refine ax6 (hI.ps_fz aN.fz) (λi σ H7=>∃ J ms us x6 x7,σ=[some v,some (.str x),some (.str y),some (.ref r),some (.ref q),some (.str here),x6,x7]/\Same H H7/\Fz H6 H7/\H7 r=some (.dK (Ge J us))/\H7 q=some (.lst (ms.map V.str))/\WyT K H7 ps x J us/\WyJ ps x here ks ws J ms i)
    ⟨ks,ws,ts,_,_,rfl,aN,.refl _,bD,bC,aF.fz b6,⟨O.nd,O.way,λz hz=>O.line z (A09 _ hz),λ_ h=>h,λ_ h=>h,λ_ h=>.inl h,λj hj=>absurd hj (Nat.not_lt_zero _),rfl⟩⟩ (λi σ' H' hP=>?_) (λi pr w σ' H7 H8 a9 a6 hP e8=>?_) (fun σ' H7 hP=>?_)
   . obtain⟨_,_,_,_,_,_,_,fz,_⟩:=hP;exact fz
   . obtain⟨J,ms,us,bO,bP,rfl,e7,a5,aD,aC,aG,U⟩:=hP;have bK:=U.le;have bL:=U.len;have a2:=e8 _ _ aD;have aE:=e8 _ _ aC;have a1:=aG.fz e8.fz;have a7:here∈J:=U.keep here (O.line here A0B)
     symm
     refine Tp a6 ?_
     symm
     refine Km (λh1=>?_) (λh1=>?_)
     . have aS:pr.1=here:=by injection h1
       symm
       refine On a6 ?_
       symm
       refine aj7 a2 a1.1 ?_
       symm
       refine ax9 (λh2=>?_) (λh2=>?_)
       . obtain⟨ih,aZ,b4⟩:=A1N a7;have aQ:J[ih]? = some here:=by rw[A04 aZ,b4]
         obtain⟨th,gth⟩:∃ th,us[ih]? = some th:=⟨us[ih]'(by rw[a1.1];exact aZ),A04 _⟩;obtain⟨js,os,aH,b1,a3,a8⟩:=a1.2 ih here th aQ gth;obtain⟨bR,bQ,bI,bF,aY⟩:=Is.tup aH
         cases bI;have bW:bQ.length=js.length:=by rw[<- IsL.length aY,A01]
         have bM:=a3.nd
         have bU:js.length<=ps.length+1:=by have:=By (A1E.mp bM).1 (ys:=J) a8;rw[a3.len] at this;omega
         symm
         refine i_ixD a2 (Cu U.nd aQ gth) ?_
         symm
         refine B5 (Ab (by simp)) λt9 H9 c0 Z h9=>?_;refine Qc (Z.seqT bF) (SqT.of h9) (Ab (by simp;omega)) λaJ aK a0 b7=>?_
         have bE:Is K aK (jsD (js++[i])) (.ref aJ):=by unfold jsD;rw[A13];exact Is.of_tup b7 ((IsL.mono a0 _ _ (IsL.mono Z _ _ aY)).append (.one Nh))
         symm
         refine On ((a6.pr_fz Z.fz).pr_fz a0.fz) ?_;have aT:=a0 _ _ (Z _ _ a2);have b8:=a0 _ _ (Z _ _ aE);refine Iw aT (by unfold Ge;rw[List.length_map,List.length_zip];omega) λaL aO aV=>?_;rw[ax4 h2 a1.1.symm] at aV;have a4:Fz aK aL:=aO.fzD aT;have aU:=aO _ _ (Ne.symm aI) b8
         symm
         refine On (((a6.pr_fz Z.fz).pr_fz a0.fz).pr_fz a4) ?_
         symm
         refine Ye aU (by rw[A01];omega) λaM aP b9=>?_
         symm
         have aA:Fz aL aM:=aP.fzL aU
         have bG:WyT K aM ps x (J++[pr.2]) (us++[aJ]):=WyT.snoc (a1.fz (((Z.fz.trans a0.fz).trans a4).trans aA)) (Is.fz (a4.trans aA) _ _ (aq5 _) bE) (by simp;omega) (a3.snoc (by rw[<- aS];exact a9) (λhm=>by
          rcases A0C.mp hm with hm|hm
          . exact h2 (a8 _ hm)
          . have:pr.2=here:=by simpa using hm
            exact h2 (this ▸ a7))) (λo ho=>by
          rcases A0C.mp ho with ho|ho
          . exact a8 o ho
          have:o=here:=by simpa using ho
          exact this ▸ a7)
         refine⟨J++[pr.2],ms++[pr.2],us++[aJ],_,_,rfl,by walk_at "sm",(((a5.trans e8.fz).trans (Z.fz.trans a0.fz)).trans a4).trans aA,aP _ _ aI aV,?_,bG,U.step a7 a9 aS h2⟩;rw[b9,A13];rfl
       exact⟨J,ms,us,_,_,rfl,by walk_at "sm",a5.trans e8.fz,a2,aE,a1,U.skip a9 λ_=>h2⟩
     exact⟨J,ms,us,_,_,rfl,by walk_at "sm",a5.trans e8.fz,a2,aE,a1,U.skip a9 λe=>absurd (by rw[e]) h1⟩
   obtain⟨J,ms,us,bO,bP,rfl,e7,a5,aD,aC,aG,U⟩:=hP;have bK:=U.le;have bL:=U.len;have bT:=By O.nd U.keep;refine⟨_,?_,J,ms,us,_,_,_,rfl,e7,aD,aC,aG,WyJ.done O U,rfl⟩;rw[A0G];omega
 have hn:ws=[]:=by
  cases ws with
  |nil=>rfl
  |cons _ _=>simp at hE
 subst hn
 symm
 refine aE6 aB ?_
 symm
 refine aF6 aB ?_
 by_cases hy:y∈ks
 . obtain⟨iy,b0,b5⟩:=A1N hy;have aR:ks[iy]? = some y:=by rw[A04 b0,b5]
   obtain⟨ty,gty⟩:∃ ty,ts[iy]? = some ty:=⟨ts[iy]'(by rw[aF.1];exact b0),A04 _⟩;obtain⟨js,os,aH,b1,a3,a8⟩:=aF.2 iy y ty aR gty;rw[Cu O.nd aR gty];exact k _ Y e5 (.inr ⟨js,os,aH,b1,a3⟩)
 rw[G8 hy];exact k _ Y e5 (.inl ⟨rfl,λe=>hy (e ▸ O.has),λg=>hy (O.all g)⟩)
def Lx (K:W.Frag):Sp:=λvs H Q _=>∃ v ns,vs=[v]/\Is K H (nmD ns) v/\ns.Nodup/\ns.length<=10/\∀ d H',H d=none->Same H H'->H' d=some (.dK (av2 ns))->Q (.ref d) H'
def Ii (K:W.Frag):Sp:=λvs H Q _=>∃ v bd ns ps,vs=[v,.ref bd]/\Is K H (hfD ns ps) v/\Px ns ps/\ns.length<=10/\H bd=some (.dK (av2 ns))/\∀ d H',H d=none->Same H H'->H' d=some (.dK (ahK ns ps))->Q (.ref d) H'
def Fs (C:Addr)(K:W.Frag):Sp:=λvs H Q _=>∃ p v dx ns ps,vs=[.ref p,v]/\H p=some (.ins C dx [])/\Is K H (hfD ns ps) v/\Px ns ps/\ns.length<=10 /\
 ∀ nv bd ad kd H',H kd=none->ExtBut p H H'->WaysAt K C H' p dx nv bd ad kd ns ps (knK ns ps [λ_=>false])->Q .non H'
def Az (C:Addr)(K:W.Frag):Sp:=λvs H Q _=>∃ p dx nv bd ad kd ns ps q,vs=[.ref p,.int ((B1 ns q:Nat):Int)]/\WaysB K C H p dx nv bd ad kd ns ps/\Px ns ps/\ns.length<=10 /\
 ∀ l H',H l=none->Same H H'->H' l=some (.lst ((frF (Aa ps) (ns.filter q)).map V.str))->Q (.ref l) H'
def Cb (C:Addr)(K:W.Frag)(n:Nat):Sp:=λvs H Q _=>∃ p dx nv bd ad kd ns ps qs q,vs=[.ref p,.int ((B1 ns q:Nat):Int)]/\WaysAt K C H p dx nv bd ad kd ns ps (knK ns ps qs)/\Px ns ps/\ns.length<=10/\(ns.filter q).length<n /\
 ∀ F H',ExtBut kd H H'->WaysAt K C H' p dx nv bd ad kd ns ps (knK ns ps F)->Gr ns ps qs F q->Q (.int ((cnt (Aa ps) (ns.filter q):Nat):Int)) H'
def Bo (C:Addr)(K:W.Frag):Sp:=Cb C K 11
theorem J6 {C:Addr}{K:W.Frag}:∀ vs H Q E,¬ Cb C K 0 vs H Q E:=by rintro vs H Q E ⟨_,_,_,_,_,_,_,_,_,_,_,_,_,_,h,_⟩;exact absurd h (Nat.not_lt_zero _)
def Sf (K:W.Frag):Sp:=λvs H Q _=>∃ v ns ps,vs=[v]/\Is K H (hfD ns ps) v/\Px ns ps/\ns.length<=10/\∀ H',Same H H'->Q (.int ((cnt (Aa ps) ns:Nat):Int)) H'
theorem ar6 {ns:List Str}(hn:ns.Nodup)(h:ns.length<=10){x:Str}(F:x∈ns):Eo ns x<=1024:=by obtain⟨j,q⟩:=A1K.mp F;rw[Oa hn q];exact(A36 nofun (by have:=(A00.mp q).1;omega):2 ^ j<=2 ^ 10)
theorem He {f g:Str}{v x:V}{r:List (Str×V)}(h:¬ g=f):Nj f v ((g,x) :: r)=(g,x) :: Nj f v r:=by
 show(if g=f then _ else _)=_
 rw[A0Q h]
theorem fld2 (a b:V):Nj "bits" b [("names",a)]=([("names",a),("bits",b)]:List (Str×V)):=by rw[He (by decide +kernel)];rfl
theorem fld3 (a b c:V):Nj "ahead" c [("names",a),("bits",b)]=([("names",a),("bits",b),("ahead",c)]:List (Str×V)):=by rw[He (by decide +kernel),He (by decide +kernel)];rfl
theorem fld4 (a b c d:V):Nj "full" d [("names",a),("bits",b),("ahead",c)]=([("names",a),("bits",b),("ahead",c),("full",d)]:List (Str×V)):=by rw[He (by decide +kernel),He (by decide +kernel),He (by decide +kernel)];rfl
theorem fld5 (a b c d e:V):Nj "known" e [("names",a),("bits",b),("ahead",c),("full",d)]=([("names",a),("bits",b),("ahead",c),("full",d),("known",e)]:List (Str×V)):=by rw[He (by decide +kernel),He (by decide +kernel),He (by decide +kernel),He (by decide +kernel)];rfl
theorem Zi {f:Addr}{fd:FuncData}(F:Fun K "bits_of" "bits_of" Hr f fd)(T:Ey mg):FnOk P w K mg base CX0 1 f fd ["names"] (Lx K):=by
 refine F.ok Hs (λvs H Q E h=>?_) (λa5 A outer s H vs Q E hr h=>?_)
 . obtain⟨v,ns,rfl,_⟩:=h;rfl
 obtain⟨v,ns,rfl,hI,hn,a6,k⟩:=h;have hu:=Bj hr;have hq:=Bi hr
 with_reducible refine⟨_,(A3 (A9 (i:=1) Hs.nd ⋯ (by eq_refl) My)
  (A3 (A9 (i:=2) Hs.nd ⋯ (by eq_refl) A5)
  (A3 (C5 A0X ⋯ (Ar (K:=K) hu (pv 0)) (Ag (i:=3) Hs.nd ⋯ (by eq_refl))
  (A3 (Ff hu (pv 1) (pv 3) (pv 2) ⋯)
  (A7 (A9 (i:=2) Hs.nd ⋯ (by eq_refl) (Ap Dh (pv 2) A5)))))
  (A7 (Ao (pv 1)))))),?_⟩
 symm
 refine Yh λd H1 a3 Y h1=>?_
 symm
 refine Mh (hI.nm_fz Y.fz) (λi σ H2=>∃ U,σ=[some v,some (.ref d),some (.int ((2 ^ i:Nat):Int)),U]/\Same H H2/\Fz H1 H2/\H2 d=some (.dK ((ns.take i).map λx=>((Sum.inr x:Key),V.int ((Eo ns x:Nat):Int)))))
  ⟨_,rfl,Y,.refl _,h1⟩ (λi σ' H' q=>q.choose_spec.2.2.1) (λi z σ' H2 hz q=>?_) (fun σ' H2 q=>?_)
 . obtain⟨U,rfl,O,a0,h2⟩:=q;have a7:i<ns.length:=(A00.mp hz).1;have a8:2 ^ i<=2 ^ 10:=A36 nofun ∅
   have a4:z∉ns.take i:=λhm=>by
    obtain⟨j,J⟩:=A1K.mp hm;rw[A2W] at J
    split at J
    . rename_i hji;have a1:=A00.mp J;have a2:=A00.mp hz;have:=(A1G hn).mp (a1.2.trans a2.2.symm);omega
    cases J
   symm
   refine Iw h2 (by rw[A01,A10];omega) λH3 Z h3=>?_;rw[Jl _ (J8 a4)] at h3
   symm
   refine⟨some (.str z),?_,O.off a3 Z,a0.trans (Z.fzD h2),?_⟩
   . have:((2 ^ i:Nat):Int)*2=((2 ^ (i+1):Nat):Int):=by rw[Nat.pow_succ];omega
     rw[this];rfl
   rw[h3,A0S,hz];have:((2 ^ i:Nat):Int)=((Eo ns z:Nat):Int):=by rw[Oa hn hz]
   rw[this];simp
 obtain⟨U,rfl,O,a0,h2⟩:=q;rw[A0U] at h2
 symm
 exact k d H2 a3 O h2
theorem Rj {f:Addr}{fd:FuncData}(F:Fun K "bits_ahead" "bits_ahead" Dt f fd)(T:Ey mg)(As:Fnd P w K mg base 1 "behind_each" ["half"] (C3 K)):FnOk P w K mg base CX0 2 f fd ["half","bits"] (Ii K):=by
 refine F.ok G0 (λvs H Q E h=>?_) (λaJ A outer s H vs Q E hr h=>?_)
 . obtain⟨v,bd,ns,ps,rfl,_⟩:=h;rfl
 obtain⟨v,bd,ns,ps,rfl,hI,hW,aA,hB,k⟩:=h;have hu:=Bj hr;have hq:=Bi hr;have hn:=hW.nd
 with_reducible refine⟨_,(A3 (A9 (i:=2) G0.nd ⋯ (by with_unfolding_all exact A37 rfl) (Aq As (hr.mono nofun) ⋯ (A1 (pv 0) A2)))
  (A3 (A9 (i:=3) G0.nd ⋯ (by eq_refl) My)
  (A3 (C5 A0X ⋯ (Ar (K:=K) hu (Ad (A6 (K:=K) hu) (pv 0) A5 (by ac_rfl))) (Ag (i:=4) G0.nd ⋯ (by with_unfolding_all exact A37 rfl))
  (A7 (Ff hu (pv 3) (pv 4) (Am (Oq (K:=K) ⋯) ⋯ T.b_sum PyProof.Rows.Boot.«sum» (A1 (C2 ["one"] ["bits","name","reach"] [1,4,2] ⋯ ⋯ ⋯ (Ar (K:=K) hu (Ad (A6 (K:=K) hu) (pv 0) A5 (by ac_rfl))) (λ_ _ _ _=>(Ag (i:=0) (by with_unfolding_all (show(["one","bits","name","reach"]:List Str).Nodup;decide +kernel)) ⋯ (by eq_refl))) (Bf nofun) (λ_ _ _ _=>(Fg (Aj (Mf (K:=K) hq) (pv 2) (Ad (A6 (K:=K) hu) (pv 3) (pv 0) (by ac_rfl)) ⋯))) (λ_ _ _ _=>(Ad (A6 (K:=K) hu) (pv 1) (pv 0) (by ac_rfl)))) A2)) ⋯)))
  (A7 (Ao (pv 3)))))),?_⟩
 symm
 refine⟨v,ns,ps,rfl,hI,hW,λr as H1 aP aK Z hT=>?_⟩
 symm
 refine Yh λd H2 a8 e2 h2=>?_
 symm
 have a4:=Z.trans e2;refine Gy (hI.hf_fz a4.fz) λnv hN=>?_
 refine Mh hN (λi σ J=>∃ x4,σ=[some v,some (.ref bd),some (.ref r),some (.ref d),x4]/\Same H1 J/\Fz H2 J/\J d=some (.dK ((ns.take i).map λx=>((Sum.inr x:Key),V.int ((B1 ns (λy=>Aa ps y x):Nat):Int)))))
  ⟨_,rfl,e2,.refl _,h2⟩ (λi σ' H' Y=>Y.choose_spec.2.2.1) (λi z σ' J hz Y=>?_) (fun σ' J Y=>?_)
 . obtain⟨x4,rfl,U,a0,h3⟩:=Y;have aL:i<ns.length:=(A00.mp hz).1
   have aG:z∉ns.take i:=λhm=>by
    obtain⟨j,hj⟩:=A1K.mp hm;rw[A2W] at hj
    split at hj
    . rename_i hji;have a1:=A00.mp hj;have a2:=A00.mp hz;have:=(A1G hn).mp (a1.2.trans a2.2.symm);omega
    cases hj
   symm
   refine Gy (hI.hf_fz (a4.fz.trans a0)) λaQ aB=>?_;refine Sq aB (λy=>Aa ps y z) (λy=>PyData.int ((Eo ns y:Nat):Int)) (λ_=>rfl) ∅ (λj y H4 R R' hy O hR aC=>?_) (λq ys H4 aO O h4 a6=>?_)
   . have a3:=hT.same (U.trans O);obtain⟨jy,ay,a9,a7⟩:=a3.at (A03 hy);obtain⟨ks,aD,aM,aN,aE⟩:=a3.row jy y ay a9 a7
     symm
     refine Ux a3 hn a9 a7 ?_;refine Wv aD ?_;rw[Ko (aE z)]
     symm
     refine aJ2 (λhb=>?_) (λhb=>?_)
     . symm
       refine i_ixD (O _ _ (U _ _ (Z _ _ hB))) (Fv (A03 hy)) ?_;exact hR hb _ _ (.refl _) rfl
     exact aC hb _ (.refl _)
   have hm:(ns.filter λy=>Aa ps y z).map (λy=>PyData.int ((Eo ns y:Nat):Int))=((ns.filter λy=>Aa ps y z).map λy=>((Eo ns y:Nat):Int)).map PyData.int:=by rw[A1A];rfl
   rw[hm] at a6;have aI:=IsL.int_eq a6;subst aI
   symm
   refine aB5 (.inl (SqL.of h4)) (λn aF=>?_) (by rw[A01];exact A0O (A0T _ _) ∅) ?_
   . obtain⟨y,hy,rfl⟩:=A0E.mp aF;have aH:=(A0L.mp hy).1;have:=ar6 hn aA aH;omega
   rw[Mx,Ms _ hn]
   symm
   have a5:H4 d=some _:=O _ _ h3;refine Iw a5 (by rw[A01,A10];omega) λH5 e5 h5=>?_;rw[Jl _ (J8 aG)] at h5
   symm
   refine⟨_,rfl,(U.trans O).off a8 e5,(a0.trans O.fz).trans (e5.fzD a5),?_⟩;rw[h5,A0S,hz];simp
 obtain⟨x4,rfl,U,a0,h3⟩:=Y;rw[A0U] at h3
 symm
 exact k d J (Z.free a8) (Z.trans U) h3
theorem Ue {f:Addr}{fd:FuncData}(F:Fun K "__init__" "Ways.__init__" Fi f fd)(T:Ey mg){J:Addr}(q:Ed K J)(Nf:Fnd P w K mg base 1 "bits_of" ["names"] (Lx K))(Je:Fnd P w K mg base 2 "bits_ahead" ["half","bits"] (Ii K)):FnOk P w K mg base CX0 3 f fd ["self","half"] (Fs J K):=by
 refine F.ok T7 (λvs H Q E h=>?_) (λaT A outer s H vs Q E hr h=>?_)
 . obtain⟨p,v,dx,ns,ps,rfl,_⟩:=h;rfl
 obtain⟨p,v,dx,ns,ps,rfl,hp,hI,hW,a4,k⟩:=h;have hu:=Bj hr;have hq:=Bi hr;have hn:=hW.nd
 with_reducible refine⟨_,(A3 (a61 (C:=J) (pv 0) (Ad (A6 (K:=K) hu) (pv 1) A5 (by ac_rfl)) q.cl q.n_names ⋯)
  (A3 (a61 (C:=J) (pv 0) (Aq Nf (hr.mono nofun) ⋯ (A1 (Ad (A6 (K:=K) hu) (pv 1) A5 (by ac_rfl)) A2)) q.cl q.n_bits ⋯)
  (A3 (a61 (C:=J) (pv 0) (Aq Je (hr.mono nofun) ⋯ (A1 (pv 1) (A1 (Hf (C:=J) (pv 0) q.cl q.n_bits ⋯) A2))) q.cl q.n_ahead ⋯)
  (A3 (a61 (C:=J) (pv 0) (Am (ac4 ⋯) ⋯ T.b_sum PyProof.Rows.Boot.«sum» (A1 (at5 (K:=K) A2Q PySem.F.slot_dict_values PySem.F.type_dict_values (mm aa1) (Hf (C:=J) (pv 0) q.cl q.n_bits ⋯)) A2)) q.cl q.n_full ⋯)
  (A7 (a61 (C:=J) (pv 0) (Sn (Il A5 A5 Rp) ⋯ ⋯ nofun nofun) q.cl q.n_known ⋯)))))),?_⟩
 symm
 refine Gy hI λnv hN=>?_
 symm
 refine aG3 hp nofun λH1 e1 h1=>?_;replace h1:H1 p=some (.ins J dx [("names",nv)]):=h1;have a3:=e1.fzI hp
 symm
 refine Gy (hI.hf_fz a3) λaS aM=>?_
 symm
 refine⟨aS,ns,rfl,aM,hn,a4,λbd H2 aO Y h2=>?_⟩
 symm
 refine aG3 (Y _ _ h1) (by show 1<1000;decide) λH3 e3 h3=>?_;rw[fld2] at h3;have a7:=e3.fzI (Y _ _ h1);have a0:bd≠p:=(ne_of_none h1 aO).symm;have a9:H3 bd=some (.dK (av2 ns)):=e3 _ _ a0 h2
 symm
 refine Pj h3 (by rfl) ?_
 symm
 refine⟨v,bd,ns,ps,rfl,hI.hf_fz ((a3.trans Y.fz).trans a7),hW,a4,a9,λad H4 aN Z h4=>?_⟩
 symm
 refine aG3 (Z _ _ h3) (by show 2<1000;decide) λH5 e5 h5=>?_;rw[fld3] at h5;have aJ:=e5.fzI (Z _ _ h3);have a5:ad≠p:=(ne_of_none h3 aN).symm;have aL:H5 ad=some (.dK (ahK ns ps)):=e5 _ _ a5 h4;have a2:H5 bd=some (.dK (av2 ns)):=e5 _ _ a0 (Z _ _ a9)
 symm
 refine Pj h5 (by rfl) ?_
 symm
 refine ag6 a2 ?_
 symm
 refine aM8 a2 λv6 H6 aV O h6=>?_
 symm
 have aP:∀ n∈ns.map (λx=>((Eo ns x:Nat):Int)),0<=n/\n<=1000000000000:=λn aQ=>by obtain⟨y,hy,rfl⟩:=A0E.mp aQ;have:=ar6 hn a4 hy;omega
 refine aJ7 h6 (O _ _ a2) (ns:=ns.map λx=>((Eo ns x:Nat):Int)) (by unfold av2;rw[List.map_map,List.map_map];rfl) aP (by rw[List.length_map];omega) ?_
 have aR:(ns.map (Eo ns)).sum=B1 ns (λ_=>true):=by have:=Ms (λ_=>true) hn;rwa[show ns.filter (λ_=>true)=ns by simp] at this
 rw[Mx,aR]
 symm
 have aA:=O _ _ h5;refine aG3 aA (by show 3<1000;decide) λH7 e7 h7=>?_;rw[fld4] at h7;have aK:=e7.fzI aA
 symm
 refine Xe λkd H8 a1 e8 h8=>?_
 symm
 refine Rx [(Sum.inl 0,V.int 1)] h8 rfl nofun λH9 e9 h9=>?_
 symm
 have a6:p≠kd:=ne_of_none h7 a1;have aD:=e9 _ _ a6 (e8 _ _ h7);refine aG3 aD (by show 4<1000;decide) λaH U a8=>?_;rw[fld5] at a8;have aI:=U.fzI aD
 symm
 have aU:bd≠p:=a0;have aC:=e7 _ _ a0 (O _ _ a2);have aB:=e7 _ _ a5 (O _ _ aL);have aF:bd≠kd:=ne_of_none aC a1;have aE:ad≠kd:=ne_of_none aB a1;have hE:ExtBut p H H7:=((((e1.same Y).trans e3).same Z).trans e5 |>.same O).trans e7
 have aG:H kd=none:=by
  cases c:H kd with
  |none=>rfl
  |some o=>rw[hE _ _ a6.symm c] at a1;cases a1
 rw[a71 ns ps] at h9;refine k nv bd ad kd aH aG ?_ ⟨a8,?_,?_,?_,?_,aF,aE,a71 ns ps ▸ Knw.new ns ps⟩
 . exact((hE.same e8).off aG e9).trans U
 . exact hN.nm_fz (((((((a3.trans Y.fz).trans a7).trans Z.fz).trans aJ).trans O.fz).trans aK).trans ((e8.fz.trans (e9.fzD h8)).trans aI))
 . exact U _ _ a0 (e9 _ _ aF (e8 _ _ aC))
 . exact U _ _ a5 (e9 _ _ aE (e8 _ _ aB))
 exact U _ _ a6.symm h9
theorem L1 {f:Addr}{fd:FuncData}(F:Fun K "free_names" "Ways.free_names" Bm f fd)(T:Ey mg){O:Addr}(J:Ed K O):FnOk P w K mg base CX0 1 f fd ["self","left"] (Az O K):=by
 refine F.ok L9 (λvs H Q E h=>?_) (λa4 A outer s H vs Q E hr h=>?_)
 . obtain⟨p,dx,nv,bd,ad,kd,ns,ps,q,rfl,_⟩:=h;rfl
 obtain⟨p,dx,nv,bd,ad,kd,ns,ps,q,rfl,Z,hW,a5,k⟩:=h;have hu:=Bj hr;have hq:=Bi hr;have hn:=hW.nd
 with_reducible refine⟨_,(A7 (Ao (C2 ["name"] ["self","left"] [0,1] ⋯ ⋯ ⋯ (Ar (K:=K) hu (Hf (C:=O) (pv 0) J.cl J.n_names ⋯)) (λ_ _ _ _=>(Ag (i:=0) (by with_unfolding_all (show(["name","self","left"]:List Str).Nodup;decide +kernel)) ⋯ (by eq_refl))) (Bf nofun) (λ_ _ _ _=>(Fg (PW.pt (Ur (af8 (Ap Zt (Ad (A6 (K:=K) hu) (Hf (C:=O) (pv 1) J.cl J.n_bits ⋯) (pv 0) (by ac_rfl)) (pv 2))) (Oz (Ug (af8 (Ap Zt (Ad (A6 (K:=K) hu) (Hf (C:=O) (pv 1) J.cl J.n_ahead ⋯) (pv 0) (by ac_rfl)) (pv 2))))))))) (λ_ _ _ _=>(pv 0))))),?_⟩
 symm
 refine Pj Z.ob (by rfl) ?_;refine Sq Z.nm (λx=>q x && !(ns.any λy=>Aa ps y x&&q y)) PyData.str (λ_=>rfl) ∅ (λj x H1 R R' hx Y hR a2=>?_) (λl ys H1 a3 Y h1 a1=>?_)
 . have U:=Z.same Y;have a0:=A03 hx
   symm
   refine Pj U.ob (by rfl) ?_
   symm
   refine i_ixD U.bt (Fv a0) ?_
   symm
   rw[ag9 hn a0];refine aJ2 (λhb=>?_) (λhb=>?_)
   . symm
     refine Pj U.ob (by rfl) ?_
     symm
     refine i_ixD U.ah (Fv a0) ?_
     symm
     rw[a70]
     symm
     refine Vg (λhc=>?_) (λhc=>?_)
     . symm
       exact hR (by rw[hb,hc];rfl) _ _ (.refl _) Iu
     exact a2 (by rw[hb,hc];rfl) _ (.refl _)
   exact a2 (by rw[hb];rfl) _ (.refl _)
 rw[a67] at a1;have:=IsL.str_eq a1;subst this
 symm
 exact k l H1 a3 Y h1
theorem Mo {f:Addr}{fd:FuncData}(F:Fun K "ways_on" "Ways.ways_on" C4 f fd)(T:Ey mg){J:Addr}(Y:Ed K J)(Ah:Mtd P w K mg base 1 J "free_names" ["self","left"] (Az J K))(n:Nat)(Al:Mtd P w K mg base (2+n) J "ways_on" ["self","left"] (Cb J K n)):FnOk P w K mg base CX0 (2+n+1) f fd ["self","left"] (Cb J K (n+1)):=by
 refine F.ok Ou (λvs H Q E h=>?_) (λaL A outer s H vs Q E hr h=>?_)
 . obtain⟨p,dx,nv,bd,ad,kd,ns,ps,qs,q,rfl,_⟩:=h;rfl
 obtain⟨p,dx,nv,bd,ad,kd,ns,ps,qs,q,rfl,O,hW,a5,aS,k⟩:=h;have hu:=Bj hr;have hq:=Bi hr;have hn:=hW.nd;have aO:=O.ok.len a5;have a4:(ns.filter q).Nodup:=A24 A1U hn;have aM:(ns.filter q).length<=ns.length:=A0T _ _
 with_reducible refine⟨_,(A3 (Co (Aj (Fp (K:=K) hq) (pv 1) (Hf (C:=J) (pv 0) Y.cl Y.n_known ⋯) ⋯) (A7 (Ff hu (Hf (C:=J) (pv 0) Y.cl Y.n_known ⋯) (pv 1) (Am (Oq (K:=K) ⋯) ⋯ T.b_sum PyProof.Rows.Boot.«sum» (A1 (C2 ["name"] ["self","left"] [0,1] ⋯ ⋯ ⋯ (Ar (K:=K) hu (Pu (C:=J) (pv 0) Y.cl Ah (hr.mono ∅) (A1 (pv 1) A2))) (λ_ _ _ _=>(Ag (i:=0) (by with_unfolding_all (show(["name","self","left"]:List Str).Nodup;decide +kernel)) ⋯ (by eq_refl))) (Bf nofun) (λ_ _ _ _=>El) (λ_ _ _ _=>(Pu (C:=J) (pv 1) Y.cl Al (hr.mono ∅) (A1 (Ap K0 (pv 2) (Ad (A6 (K:=K) hu) (Hf (C:=J) (pv 1) Y.cl Y.n_bits ⋯) (pv 0) (by ac_rfl))) A2)))) A2)) ⋯)) Ay)
  (A7 (Ao (Ad (A6 (K:=K) hu) (Hf (C:=J) (pv 0) Y.cl Y.n_known ⋯) (pv 1) (by ac_rfl))))),?_⟩
 symm
 refine Pj O.ob (by rfl) ?_;refine aC6 O.kn ?_
 symm
 cases hv:Cj (knK ns ps qs) (Sum.inl ((B1 ns q:Nat):Int):Key) with
 |some v=>
   have:=O.ok.get hv;subst this;refine iteF ?_
   symm
   refine Pj O.ob (by rfl) ?_
   symm
   refine Yj O.kn hv ?_;exact k qs H .refl O ⟨[],by simp,trivial,λM hM=>(by cases hM),ap9 hv⟩
 |none=>
   have aE:ns.filter q≠[]:=λe=>by
    have h0:B1 ns q=0:=binM_zero.mpr λx Z=>by
     cases c:q x with
     |false=>rfl
     |true=>
       have:x∈ns.filter q:=A0L.mpr ⟨Z,c⟩;rw[e] at this
       cases this
    rw[h0] at hv;rw[show((0:Nat):Int)=0 from rfl,O.ok.2.2] at hv
    cases hv
   refine iteT ?_
   symm
   refine ai7 O.ob (by rfl) ?_
   symm
   refine⟨p,dx,nv,bd,ad,kd,ns,ps,q,rfl,O.b,hW,a5,λl H1 aQ e1 h1=>?_⟩;have a8:=O.same e1;refine Ju (SqL.of h1) ?_
   refine Ik (Bg (xs:=(frF (Aa ps) (ns.filter q)).map V.str)) (λpl i acc H2=>∃ a2,ExtBut kd H1 H2/\WaysAt K J H2 p dx nv bd ad kd ns ps (knK ns ps a2)/\GrC ns ps qs a2 (ns.filter q) i/\acc=((frF (Aa ps) (ns.filter q)).take i).map λx=>V.int ((cnt (Aa ps) (Ai (ns.filter q) x):Nat):Int))
    (λpl H' aT e' h'=>⟨qs,e'.but,a8.same e',.zero ..,rfl⟩) (λpl i acc H2 hP=>?_) (λpl i x acc H2 a9 Z hi hl a1 hP=>?_) (λpl acc H2 a9 a1 aN hP=>?_)
   . obtain⟨a2,e2,_⟩:=hP;exact SqL.of (e2 _ _ (ne_of h1 a8.kn (by intro z;cases z)) h1)
   . obtain ⟨a2,e2,U,a3,rfl⟩:=hP;rw[A06] at Z
     cases hz:(frF (Aa ps) (ns.filter q))[i]? with
     |none=>rw[hz] at Z;cases Z
     |some z=>
       rw[hz] at Z
       cases Z;have aJ:=A03 hz;have a6:=(mem_frF.mp aJ).1;have aA:=(A0L.mp a6).1;have aH:=(A0L.mp a6).2;have aU:=Nm hn aA aH;have aR:=Bb a4 a6
       symm
       refine ai7 U.ob (by rfl) ?_
       symm
       refine Pj U.ob (by rfl) ?_
       symm
       refine i_ixD U.bt (Fv aA) ?_
       symm
       have aI:((B1 ns q:Nat):Int)-((Eo ns z:Nat):Int)=((B1 ns (λy=>q y && !decide (y=z)):Nat):Int):=by omega
       rw[aI];refine⟨p,dx,nv,bd,ad,kd,ns,ps,a2,_,rfl,U,hW,a5,by rw[B9];omega,λaK H3 e3 a0 aB=>?_⟩;rw[B9];have aG:pl≠kd:=ne_of a1 U.kn (by intro z;cases z);have a7:=e3 _ _ aG a1;refine Lc (by rw[A01];exact A0O (A0T _ _) ∅) hi hl a7 λH4 e4 h4=>?_;refine⟨aK,?_,a0.list e4 a7,a3.step a4 hz (B9 ..) aB,?_⟩
       . exact(e2.trans e3).off a9 e4
       rw[A0S,hz];simp
   obtain⟨a2,e2,U,a3,rfl⟩:=hP;rw[A01,A0U] at a1;have aC:(frF (Aa ps) (ns.filter q)).map (λx=>V.int ((cnt (Aa ps) (Ai (ns.filter q) x):Nat):Int))=((frF (Aa ps) (ns.filter q)).map λx=>((cnt (Aa ps) (Ai (ns.filter q) x):Nat):Int)).map V.int:=by rw[A1A];rfl
   rw[aC] at a1
   symm
   refine aB5 (.inl (SqL.of a1)) (λn' aD=>?_) (by rw[A01];exact A0O (A0T _ _) ∅) ?_
   . obtain⟨y,hy,rfl⟩:=A0E.mp aD;have:=Bb a4 (mem_frF.mp hy).1;have:=aD2 (b:=Aa ps) (B7 a4 y) ∅;omega
   rw[Mx,<- Kz a4 aE]
   symm
   refine Pj U.ob (by rfl) ?_
   symm
   have aP:=U.ok.len a5;refine ab2 U.kn ∅ λH3 e3 h3=>?_;have aF:=a3.no (λz=>by rw[Yf z] at hv;cases hv);have a0:=U.put e3 h3 (U.ok.put q);rw[aH6 aF] at a0
   symm
   refine Pj a0.ob (by rfl) ?_
   symm
   refine Yj a0.kn (Yf (by rw[Cp];simp[Bu])) ?_;rw[A01] at a3;exact k _ H3 (((e1.but (d:=kd)).trans e2).trans e3) a0 a3.close
theorem Pc {f:Addr}{fd:FuncData}(F:Fun K "ways_on" "Ways.ways_on" C4 f fd)(T:Ey mg){q:Addr}(J:Ed K q)(Ah:Mtd P w K mg base 1 q "free_names" ["self","left"] (Az q K))(hm:aQ5 K q "ways_on" f)(hb:Binds K fd ["self","left"] []):FnOk P w K mg base CX0 13 f fd ["self","left"] (Bo q K):=by
 have h:∀ n:Nat,FnOk P w K mg base CX0 (2+n) f fd ["self","left"] (Cb q K n):=λn=>by
  induction n with
  |zero=>exact FnOk.void J6
  |succ n ih=>exact Mo F T J Ah n ⟨f,fd,ih,hm,hb⟩
 exact h 11
theorem al6 {f:Addr}{fd:FuncData}(F:Fun K "count" "count" Lz f fd)(T:Ey mg){q:Addr}(Y:Ed K q)(C9:Mkd P w K mg base 3 q "Ways" ["self","half"] (Fs q K))(Al:Mtd P w K mg base 13 q "ways_on" ["self","left"] (Bo q K)):FnOk P w K mg base CX0 14 f fd ["half"] (Sf K):=by
 refine F.ok Xf (λvs H Q E h=>?_) (λa3 A outer s H vs Q E J h=>?_)
 . obtain⟨v,ns,ps,rfl,_⟩:=h;rfl
 obtain⟨v,ns,ps,rfl,hI,hW,Z,k⟩:=h;have hu:=Bj J;have hq:=Bi J
 with_reducible refine⟨_,(A3 (A9 (i:=1) Xf.nd ⋯ (by eq_refl) (aD1 C9 (J.mono nofun) ⋯ (A1 (pv 0) A2)))
  (A7 (Ao (Pu (C:=q) (pv 1) Y.cl Al (J.mono nofun) (A1 (Hf (C:=q) (pv 1) Y.cl Y.n_full ⋯) A2))))),?_⟩
 symm
 refine aT2 λp dx H1 a2 O h1=>?_;refine⟨p,v,dx,ns,ps,rfl,h1,hI.hf_fz O.fz,hW,Z,λnv bd ad kd H2 a1 e2 U=>⟨rfl,?_⟩⟩
 symm
 refine ai7 U.ob (by rfl) ?_
 symm
 refine Pj U.ob (by rfl) ?_
 symm
 have a0:ns.filter (λ_=>true)=ns:=by simp
 refine⟨p,dx,nv,bd,ad,kd,ns,ps,_,λ_=>true,rfl,U,hW,Z,by rw[a0];omega,λa5 H3 e3 a4 _=>?_⟩;rw[a0];exact k H3 ((O.off a2 e2).off (O.free a1) e3)
def Lv (K:W.Frag):Sp:=λvs H Q _=>∃ nv pv ns ps,vs=[nv,pv]/\Is K H (nmD ns) nv/\Is K H (psD ps) pv/\HalfW ns ps/\∀ u H',Same H H'->Is K H' (hfD ns (baP ns ps)) u->Q u H'
def R6 (K:W.Frag):Sp:=λvs H Q _=>∃ v x y ns ps,vs=[v,.str x,.str y]/\Is K H (hfD ns ps) v/\HalfW ns ps/\ps.length<=90/\x∈ns/\y∈ns/\x≠y/\¬ Way ps y x/\∀ u H',Same H H'->Is K H' (hfD ns (baP ns (ps++[(x,y)]))) u->Q u H'
theorem Z5 {f:Addr}{fd:FuncData}(F:Fun K "thinned" "thinned" Hq f fd)(T:Ey mg)(a0:Fnd P w K mg base 3 "bare" ["half"] (Wz K)):FnOk P w K mg base CX0 4 f fd ["names","sayings"] (Lv K):=by
 refine F.ok Ze (λvs H Q E h=>?_) (λa2 A outer s H vs Q E O h=>?_)
 . obtain⟨nv,sv,ns,ps,rfl,_⟩:=h;rfl
 obtain⟨nv,sv,ns,ps,rfl,Y,hP,hW,k⟩:=h;have hu:=Bj O;have hq:=Bi O
 with_reducible refine⟨_,(A7 (Ao (B6 (A1 (pv 0) (A1 (Aq a0 (O.mono nofun) ⋯ (A1 (B6 (A1 (pv 0) (A1 (pv 1) A2))) A2)) A2))))),?_⟩
 symm
 refine B5 (Ab (by simp)) λt1 H1 a3 q h1=>?_
 symm
 refine⟨.ref t1,ns,ps,rfl,ag7 (SqT.of h1) (Y.nm_fz q.fz) (hP.ps_fz q.fz),hW,λu2 H2 U a1=>?_⟩
 symm
 refine B5 (Ab (by simp)) λt3 Z a4 J h3=>?_;exact k _ Z ((q.trans U).trans J) (ag7 (SqT.of h3) (Y.nm_fz ((q.trans U).trans J).fz) (a1.ps_fz J.fz))
theorem aw3 {f:Addr}{fd:FuncData}(F:Fun K "said" "said" Qw f fd)(T:Ey mg)(Ee:Fnd P w K mg base 1 "refuse_strangers" ["half","asked"] (Dj K))(Fx:Fnd P w K mg base 1 "way_by_sayings" ["sayings","start","goal"] (Es K))(Nt:Fnd P w K mg base 4 "thinned" ["names","sayings"] (Lv K)):FnOk P w K mg base CX0 5 f fd ["half","name","other"] (R6 K):=by
 refine F.ok a69 (λvs H Q E h=>?_) (λaC A outer s H vs Q E q h=>?_)
 . obtain⟨v,x,y,ns,ps,rfl,_⟩:=h;rfl
 obtain⟨v,x,y,ns,ps,rfl,U,hW,hl,hx,hy,a1,a2,k⟩:=h;have hu:=Bj q;have hq:=Bi q
 with_reducible refine⟨_,(A3 (Et (Aq Ee (q.mono nofun) ⋯ (A1 (pv 0) (A1 (B6 (A1 (pv 1) (A1 (pv 2) A2))) A2))))
  (A3 (A9 (i:=3) a69.nd ⋯ (by eq_refl) (Aq Fx (q.mono nofun) ⋯ (A1 (Ad (A6 (K:=K) hu) (pv 0) A5 (by ac_rfl)) (A1 (pv 2) (A1 (pv 1) A2)))))
  (A3 (Co (Aj Uj (pv 3) Qd (Aw _)) (A7 La) Ay)
  (A7 (Ao (Aq Nt (q.mono nofun) ⋯ (A1 (Ad (A6 (K:=K) hu) (pv 0) A5 (by ac_rfl)) (A1 (Ap (An (K:=K)) (Ad (A6 (K:=K) hu) (pv 0) A5 (by ac_rfl)) (B6 (A1 (B6 (A1 (pv 1) (A1 (pv 2) A2))) A2))) A2)))))))),?_⟩
 symm
 refine B5 (Ab (by simp)) λt1 H1 aD Y h1=>?_
 symm
 refine⟨v,.ref t1,ns,ps,[x,y],rfl,U.hf_fz Y.fz,Og (SqT.of h1),ay3 hx hy,?_⟩
 symm
 refine T6 (U.hf_fz Y.fz) λaB a3=>?_
 symm
 refine⟨aB,y,x,ps,rfl,a3,by omega,λu2 H2 e2 a7=>?_⟩
 have a9:u2 = .non:=by
  rcases a7 with ⟨h,_⟩|⟨js,os,_,_,aA⟩
  . exact h
  rcases aA.way with h|h
  . exact absurd h.symm a1
  exact absurd h a2
 subst a9;have Z:=Y.trans e2
 symm
 refine Gy (U.hf_fz Z.fz) λnv hN=>?_
 symm
 refine T6 (U.hf_fz Z.fz) λpv hP=>?_
 symm
 refine B5 (Ab (by simp)) λt3 H3 aE e3 h3=>?_
 symm
 refine B5 (Ab (by simp)) λt4 H4 aF J h4=>?_;have a4:=hP.ps_fz (e3.trans J).fz;obtain⟨pa,xs,rfl,a6,a0⟩:=Is.tup a4;have aG:ps.length=xs.length:=by rw[<- IsL.length a0,A01]
 refine Qc a6 (SqT.of h4) (Ab (by simp;omega)) λp5 H5 O h5=>?_
 have a5:Is K H5 (psD (ps++[(x,y)])) (.ref p5):=by refine Is.of_tup h5 ?_;rw[A13];exact IsL.append (IsL.mono O _ _ a0) (.one ((Ru (SqT.of (J _ _ h3))).pr_fz O.fz))
 symm
 refine⟨nv,.ref p5,ns,ps++[(x,y)],rfl,hN.nm_fz ((e3.trans J).trans O).fz,a5,hW.said hx hy a1 a2 ∅,λu6 H6 e6 a8=>?_⟩;exact k u6 H6 (((Z.trans e3).trans (J.trans O)).trans e6) a8
def Fl (C:Addr)(K:W.Frag)(n:Nat):Sp:=λvs H Q _=>∃ p dx nv bd ad kd ns ps kvs q,∃ m:Nat,∃ r:List Str,vs=[.ref p,.int ((B1 ns q:Nat):Int),.int (m:Int)]/\WaysAt K C H p dx nv bd ad kd ns ps (knK ns ps kvs)/\HalfW ns ps/\ns.length<=10/\(ns.filter q).length<n/\(ext (Aa ps) (ns.filter q).length (ns.filter q))[m]? = some r /\
 ∀ u kvs' H',ExtBut kd H H'->WaysAt K C H' p dx nv bd ad kd ns ps (knK ns ps kvs')->Is K H' (nmD r) u->Q u H'
def K4 (C:Addr)(K:W.Frag):Sp:=Fl C K 11
theorem Ly {C:Addr}{K:W.Frag}:∀ vs H Q E,¬ Fl C K 0 vs H Q E:=by rintro vs H Q E ⟨_,_,_,_,_,_,_,_,_,_,_,_,_,_,_,_,h,_⟩;exact absurd h (Nat.not_lt_zero _)
def Ie (K:W.Frag):Sp:=λvs H Q _=>∃ v ns ps,∃ m:Nat,∃ r:List Str,vs=[v,.int (m:Int)]/\Is K H (hfD ns ps) v/\HalfW ns ps/\ns.length<=10/\(ext (Aa ps) ns.length ns)[m]? = some r/\∀ u H',Same H H'->Is K H' (nmD r) u->Q u H'
theorem Tl {f:Addr}{fd:FuncData}(F:Fun K "order_on" "order_on" Fc f fd)(T:Ey mg){J:Addr}(a1:Ed K J)(Ah:Mtd P w K mg base 1 J "free_names" ["self","left"] (Az J K))(Al:Mtd P w K mg base 13 J "ways_on" ["self","left"] (Bo J K))(n:Nat)(Hv:Fnd P w K mg base (14+n) "order_on" ["ways","left","number"] (Fl J K n)):FnOk P w K mg base CX0 (14+n+1) f fd ["ways","left","number"] (Fl J K (n+1)):=by
 refine F.ok Gk (λvs H Q E h=>?_) (λb0 A outer s H vs Q E U h=>?_)
 . obtain⟨p,dx,nv,bd,ad,kd,ns,ps,kvs,q,m,r,rfl,_⟩:=h;rfl
 obtain⟨p,dx,nv,bd,ad,kd,ns,ps,kvs,q,m,r,rfl,Z,hW,a2,b3,a4,k⟩:=h;have hu:=Bj U;have hq:=Bi U;have aD:=hW.nd;have aB:(ns.filter q).Nodup:=aD.filter _
 with_reducible refine⟨_,(A3 (Co (Aj (Ck (K:=K) hq) (pv 1) A5 (Aw _)) (A7 (Ao (B6 A2))) Ay)
  (A3 (A9 (i:=3) Gk.nd ⋯ (by eq_refl) (pv 2))
  (A7 (C5 A0X ⋯ (Ar (K:=K) hu (Pu (C:=J) (pv 0) a1.cl Ah (U.mono ∅) (A1 (pv 1) A2))) (Ag (i:=4) Gk.nd ⋯ (by eq_refl))
  (A3 (A9 (i:=5) Gk.nd ⋯ (by eq_refl) (Ap K0 (pv 1) (Ad (A6 (K:=K) hu) (Hf (C:=J) (pv 0) a1.cl a1.n_bits ⋯) (pv 4) (by ac_rfl))))
  (A3 (Co (Aj Yr (pv 3) (Pu (C:=J) (pv 0) a1.cl Al (U.mono ∅) (A1 (pv 5) A2)) (Aw _)) (A7 (Ao (Ap (An (K:=K)) (B6 (A1 (pv 4) A2)) (Aq Hv (U.mono ∅) ⋯ (A1 (pv 0) (A1 (pv 5) (A1 (pv 3) A2))))))) Ay)
  (A7 (A9 (i:=3) Gk.nd ⋯ (by eq_refl) (Ap K0 (pv 3) (Pu (C:=J) (pv 0) a1.cl Al (U.mono ∅) (A1 (pv 5) A2))))))))))),?_⟩
 symm
 refine Km (λhz=>?_) (λhz=>?_)
 . have aP:B1 ns q=0:=by injection hz with hz;omega
   have aS:ns.filter q=[]:=A4L.mpr λx O=>by rw[binM_zero.mp aP x O];decide
   rw[aS] at a4
   have aU:r=[]:=by have:=A03 a4;simpa[ext] using this
   subst aU
   symm
   refine B5 nofun λt1 H1 b6 e1 h1=>?_;exact k _ kvs H1 (by walk_at "fr") (Z.same e1) (Og (ns:=[]) (SqT.of h1))
 have aE:ns.filter q≠[]:=λe=>hz (by
  have:B1 ns q=0:=binM_zero.mpr λx O=>by
   cases c:q x with
   |false=>rfl
   |true=>
     have:x∈ns.filter q:=A0L.mpr ⟨O,c⟩;rw[e] at this
     cases this
  rw[this];rfl)
 symm
 refine ai7 Z.ob (by rfl) ?_
 symm
 refine⟨p,dx,nv,bd,ad,kd,ns,ps,q,rfl,Z.b,hW.c,a2,λl2 H2 aR e2 h2=>?_⟩;refine Ju (SqL.of h2) ?_;have aC:l2≠kd:=Ne.symm (ne_of_none Z.kn aR)
 refine Ej (Bg (xs:=(frF (Aa ps) (ns.filter q)).map V.str)) (λi σ Y=>∃ x4 x5 a6,σ=[some (.ref p),some (.int ((B1 ns q:Nat):Int)),some (.int (m:Int)),some (.int ((m-(Qn (Aa ps) (ns.filter q) ((frF (Aa ps) (ns.filter q)).take i)).length:Nat):Int)),x4,x5]/\(Qn (Aa ps) (ns.filter q) ((frF (Aa ps) (ns.filter q)).take i)).length<=m/\ExtBut kd H Y/\WaysAt K J Y p dx nv bd ad kd ns ps (knK ns ps a6)/\Y l2=some (.lst ((frF (Aa ps) (ns.filter q)).map V.str)))
  ⟨_,_,kvs,rfl,A2J _,by walk_at "fr",Z.same e2,h2⟩ (λi σ' H' hP=>?_) (λi x σ' Y O hi hP=>?_) (fun σ' Y hP=>?_)
 . obtain⟨_,_,_,_,_,_,_,h⟩:=hP;exact SqL.of h
 . obtain ⟨x4,x5,a6,rfl,a8,e3,a0,aA⟩:=hP;rw[A06] at O
   cases hz':(frF (Aa ps) (ns.filter q))[i]? with
   |none=>rw[hz'] at O;cases O
   |some z=>
     rw[hz'] at O
     cases O;have aX:=A03 hz';have a9:=(mem_frF.mp aX).1;have aH:=(A0L.mp a9).1;have aT:=(A0L.mp a9).2;have b5:=Nm aD aH aT;have b2:=Bb aB a9;have b1:=A0T q ns;have a7:(Ai (ns.filter q) z).length=(ns.filter q).length-1:=by omega
     have aW:((B1 ns q:Nat):Int)-((Eo ns z:Nat):Int)=((B1 ns (λy=>q y && !decide (y=z)):Nat):Int):=by omega
     have aQ:cnt (Aa ps) (Ai (ns.filter q) z)=(ext (Aa ps) ((ns.filter q).length-1) (Ai (ns.filter q) z)).length:=by show(ext (Aa ps) (Ai (ns.filter q) z).length (Ai (ns.filter q) z)).length=_;rw[a7]
     have aF:(Qn (Aa ps) (ns.filter q) ((frF (Aa ps) (ns.filter q)).take (i+1))).length=(Qn (Aa ps) (ns.filter q) ((frF (Aa ps) (ns.filter q)).take i)).length+cnt (Aa ps) (Ai (ns.filter q) z):=by rw[A0S,hz'];show(Qn (Aa ps) (ns.filter q) ((frF (Aa ps) (ns.filter q)).take i++[z])).length=_;rw[a62,A07,A01,aQ]
     symm
     refine Pj a0.ob (by rfl) ?_
     symm
     refine i_ixD a0.bt (Fv aH) ?_
     symm
     rw[aW];refine ai7 a0.ob (by rfl) ?_
     symm
     refine⟨p,dx,nv,bd,ad,kd,ns,ps,a6,_,rfl,a0,hW.c,a2,by rw[B9];omega,λaI H4 e4 a3 _=>?_⟩;rw[B9];have aJ:=e4 _ _ aC aA
     symm
     refine Km (λhc=>?_) (λhc=>?_)
     . obtain⟨r',hr'⟩:∃ r',(ext (Aa ps) ((ns.filter q).length-1) (Ai (ns.filter q) z))[m-(Qn (Aa ps) (ns.filter q) ((frF (Aa ps) (ns.filter q)).take i)).length]? = some r':=⟨_,A04 ∅⟩;have a5:=aK3 aE hz' a8 hr';rw[a4] at a5;have a5:=A15 a5;subst a5
       symm
       refine B5 (Ab (by simp)) λt5 H5 aG e5 h5=>?_
       symm
       refine⟨p,dx,nv,bd,ad,kd,ns,ps,aI,_,_,r',rfl,a3.same e5,hW,a2,by rw[B9];omega,by rw[B9,a7];exact hr',λu6 aZ H6 e6 aM aN=>?_⟩;obtain⟨ua,rfl,aO⟩:=aN.nm
       have b4:r'.length<=10:=by obtain⟨hp,_⟩:=(Cr _ _ _ _ (B7 aB z) a7).mp (A03 hr');have:=hp.length_eq;omega
       have aK:H6 t5=some (.tup [V.str z]):=e6 _ _ (λe=>by subst e;rw[a3.kn] at aG;cases aG) h5;refine Qc (SqT.of aK) aO (Ab (by rw[List.length_map];simp;omega)) λp7 H7 e7 h7=>?_;exact k _ aZ H7 (by walk_at "fr") (aM.same e7) (Og h7)
     symm
     refine ai7 a3.ob (by rfl) ?_
     symm
     refine⟨p,dx,nv,bd,ad,kd,ns,ps,aI,_,rfl,a3,hW.c,a2,by rw[B9];omega,λaY H5 e5 aL _=>?_⟩;rw[B9]
     symm
     have aV:((m-(Qn (Aa ps) (ns.filter q) ((frF (Aa ps) (ns.filter q)).take i)).length:Nat):Int)-((cnt (Aa ps) (Ai (ns.filter q) z):Nat):Int)=((m-(Qn (Aa ps) (ns.filter q) ((frF (Aa ps) (ns.filter q)).take (i+1))).length:Nat):Int):=by rw[aF];omega
     refine⟨some (.str z),some (.int ((B1 ns (λy=>q y && !decide (y=z)):Nat):Int)),aY,by rw[<- aV];rfl,by rw[aF];omega,by walk_at "fr",aL,e5 _ _ aC aJ⟩
 obtain⟨x4,x5,a6,rfl,a8,e3,a0,aA⟩:=hP;rw[A01,A0U,Y7 _ aE] at a8;exact absurd (A00.mp a4).1 ∅
theorem X1 {f:Addr}{fd:FuncData}(F:Fun K "order_on" "order_on" Fc f fd)(T:Ey mg){q:Addr}(O:Ed K q)(Ah:Mtd P w K mg base 1 q "free_names" ["self","left"] (Az q K))(Al:Mtd P w K mg base 13 q "ways_on" ["self","left"] (Bo q K))(hm:mg "order_on" = some (.ref f))(J:W.keepIn K (.ref f)=true)(hb:Binds K fd ["ways","left","number"] []):FnOk P w K mg base CX0 25 f fd ["ways","left","number"] (K4 q K):=by
 have h:∀ n:Nat,FnOk P w K mg base CX0 (14+n) f fd ["ways","left","number"] (Fl q K n):=λn=>by
  induction n with
  |zero=>exact FnOk.void Ly
  |succ n ih=>exact Tl F T O Ah Al n ⟨f,fd,ih,hm,J,hb⟩
 exact h 11
theorem Wt {f:Addr}{fd:FuncData}(F:Fun K "order_of" "order_of" Gd f fd)(T:Ey mg){q:Addr}(O:Ed K q)(Hv:Fnd P w K mg base 25 "order_on" ["ways","left","number"] (K4 q K))(C9:Mkd P w K mg base 3 q "Ways" ["self","half"] (Fs q K))(Al:Mtd P w K mg base 13 q "ways_on" ["self","left"] (Bo q K)):FnOk P w K mg base CX0 26 f fd ["half","number"] (Ie K):=by
 refine F.ok Nn (λvs H Q E h=>?_) (λa7 A outer s H vs Q E J h=>?_)
 . obtain⟨v,ns,ps,m,r,rfl,_⟩:=h;rfl
 obtain⟨v,ns,ps,m,r,rfl,hI,hW,Z,a2,k⟩:=h;have hu:=Bj J;have hq:=Bi J;have Y:ns.filter (λ_=>true)=ns:=by simp
 have a9:m<cnt (Aa ps) ns:=(A00.mp a2).1
 with_reducible refine⟨_,(A3 (A9 (i:=2) Nn.nd ⋯ (by eq_refl) (aD1 C9 (J.mono nofun) ⋯ (A1 (pv 0) A2)))
  (A3 (Co (PW.pt (Wj (Aj Yr (pv 1) A5 (Aw _)) (Qt (Aj aR5 (pv 1) (Pu (C:=q) (pv 2) O.cl Al (J.mono nofun) (A1 (Hf (C:=q) (pv 2) O.cl O.n_full ⋯) A2)) (Aw _))))) (A7 La) Ay)
  (A7 (Ao (Aq Hv (J.mono nofun) ⋯ (A1 (pv 2) (A1 (Hf (C:=q) (pv 2) O.cl O.n_full ⋯) (A1 (pv 1) A2)))))))),?_⟩
 symm
 refine aT2 λp dx H1 a6 U h1=>?_;refine⟨p,v,dx,ns,ps,rfl,h1,hI.hf_fz U.fz,hW.c,Z,λnv bd ad kd H2 a3 e2 hA=>⟨rfl,?_⟩⟩
 symm
 refine Km (λa0=>absurd a0 ∅) (λ_=>?_)
 symm
 refine ai7 hA.ob (by rfl) ?_
 symm
 refine Pj hA.ob (by rfl) ?_
 symm
 refine⟨p,dx,nv,bd,ad,kd,ns,ps,_,λ_=>true,rfl,hA,hW.c,Z,by rw[Y];omega,λkvs' H3 e3 a1 _=>?_⟩;rw[Y]
 symm
 refine Km (λa0=>absurd a0 ∅) (λ_=>?_)
 symm
 refine Pj a1.ob (by rfl) ?_
 symm
 refine⟨p,dx,nv,bd,ad,kd,ns,ps,kvs',λ_=>true,m,r,rfl,a1,hW,Z,by rw[Y];omega,by rw[Y];exact a2,λu aA H4 e4 a8 a5=>?_⟩;have a4:Same H H3:=(U.off a6 e2).off (U.free a3) e3;exact k u H4 (a4.off (U.free a3) e4) a5
def Im (C:Addr)(K:W.Frag):Sp:=λvs H Q _=>∃ p dx nv bd ad kd ns ps qs,vs=[.ref p]/\WaysAt K C H p dx nv bd ad kd ns ps (knK ns ps qs)/\Px ns ps/\ns.length<=10/\Gr ns ps [λ_=>false] qs (λ_=>true) /\
 ∀ d ct H',H d=none->Same H H'->H' d=some (.dK (Ix ns ct))->Se ns ct->CmI ns ps (Bu ns qs) (Bu ns qs) ct->Q (.ref d) H'
theorem R3 {f:Addr}{fd:FuncData}(F:Fun K "comings_of" "comings_of" Dw f fd)(T:Ey mg){O:Addr}(a1:Ed K O)(Ah:Mtd P w K mg base 1 O "free_names" ["self","left"] (Az O K)):FnOk P w K mg base CX0 2 f fd ["ways"] (Im O K):=by
 refine F.ok Ef (λvs H Q E h=>?_) (λb2 A outer s H vs Q E hr h=>?_)
 . obtain⟨p,dx,nv,bd,ad,kd,ns,ps,qs,rfl,_⟩:=h;rfl
 obtain⟨p,dx,nv,bd,ad,kd,ns,ps,qs,rfl,hA,hW,aB,hG,k⟩:=h;have hu:=Bj hr;have hq:=Bi hr;have hn:=hW.nd;have b0:=hA.ok.tt;have b3:=hA.ok.len aB
 have aS:ns∈Bu ns qs:=by obtain⟨new,_,_,_,h⟩:=hG;rwa[show ns.filter (λ_=>true)=ns by simp] at h
 with_reducible refine⟨_,(A3 (A9 (i:=1) Ef.nd ⋯ (by eq_refl) (Sn (Il (Hf (C:=O) (pv 0) a1.cl a1.n_full ⋯) A5 Rp) ⋯ ⋯ nofun nofun))
  (A3 (C5 A0X ⋯ (ax1 (K:=K) ⋯ T.b_reversed (A1 (B0 (Qj ⋯) ⋯ T.b_list PyProof.Rows.Boot.«list» (A1 (Hf (C:=O) (pv 0) a1.cl a1.n_known ⋯) A2)) A2)) (Ag (i:=2) Ef.nd ⋯ (by eq_refl))
  (A7 (C5 A0X ⋯ (Ar (K:=K) hu (Pu (C:=O) (pv 0) a1.cl Ah (hr.mono nofun) (A1 (pv 2) A2))) (Ag (i:=3) Ef.nd ⋯ (by eq_refl))
  (A3 (A9 (i:=4) Ef.nd ⋯ (by eq_refl) (Ap K0 (pv 2) (Ad (A6 (K:=K) hu) (Hf (C:=O) (pv 0) a1.cl a1.n_bits ⋯) (pv 3) (by ac_rfl))))
  (A7 (Ff hu (pv 1) (pv 4) (Ap (An (K:=K)) (aj0 hu (pv 1) (pv 4) A5 (by with_unfolding_all exact⟨rfl,rfl,rfl,rfl⟩)) (Ad (A6 (K:=K) hu) (pv 1) (pv 2) (by ac_rfl))) ⋯))))))
  (A7 (Ao (pv 1))))),?_⟩
 symm
 refine Xe λd H1 a3 e1 h1=>?_;have aO:=hA.same e1
 symm
 refine Pj aO.ob (by rfl) ?_
 symm
 refine Rx [(Sum.inl ((B1 ns (λ_=>true):Nat):Int),V.int 1)] h1 rfl (by show 1<=15;decide) λH2 e2 h2=>?_;have aG:Same H H2:=e1.off a3 e2;have aD:=hA.same aG
 symm
 refine ay8 ?_
 symm
 refine Pj aD.ob (by rfl) ?_
 symm
 refine a95 aD.kn ∅ λl H3 aW e3 h3=>?_
 have hl:((knK ns ps qs).map λkv=>kV kv.1)=qs.map λq=>V.int ((B1 ns q:Nat):Int):=by unfold knK;rw[A1A];rfl
 rw[hl] at h3
 symm
 refine aM3 (SqL.of h3) ?_;have aU:bd≠d:=ne_of_none hA.bt a3;have aT:ad≠d:=ne_of_none hA.ah a3;have aV:p≠d:=ne_of_none hA.ob a3;have aZ:l≠d:=(ne_of_none h2 aW).symm
 refine Ej a60 (λi σ Y=>∃ x2 x3 x4 ct,σ=[some (.ref p),some (.ref d),x2,x3,x4]/\Same H Y/\Y l=some (.lst (qs.map λq=>V.int ((B1 ns q:Nat):Int)))/\WaysB K O Y p dx nv bd ad kd ns ps/\Y d=some (.dK (Ix ns ct))/\Se ns ct/\CmI ns ps (Bu ns qs) ((Bu ns qs).reverse.take i).reverse ct)
  ⟨_,_,_,[(λ_=>true,1)],rfl,aG.trans e3,h3,(aD.same e3).b,e3 _ _ h2,by unfold Se Ix;simp,by rw[List.take_zero,List.reverse_nil];exact .start aS⟩ (λi σ' H' J=>?_) (λi x σ' Y U hi J=>?_) (fun σ' Y J=>?_)
 . obtain⟨_,_,_,_,_,_,h,_⟩:=J;exact SqL.of h
 . obtain ⟨x2,x3,x4,a4,rfl,e4,aH,aA,a9,aE,a2⟩:=J;rw[<- List.map_reverse,A06] at U
   cases he:qs.reverse[i]? with
   |none=>rw[he] at U;cases U
   |some e=>
     rw[he] at U
     cases U
     have hM:(Bu ns qs).reverse[i]? = some (ns.filter e):=by unfold Bu;rw[<- List.map_reverse,A06,he];rfl
     obtain⟨A0,aK⟩:=ae8 hM;have aJ:=aG6 hG aK;have aP:(ns.filter e).Nodup:=A24 A1U hn
     symm
     refine ai7 aA.ob (by rfl) ?_
     symm
     refine⟨p,dx,nv,bd,ad,kd,ns,ps,e,rfl,aA,hW,aB,λl5 H5 aX e5 h5=>?_⟩;refine Ju (SqL.of h5) ?_;have aY:l5≠d:=(ne_of_none a9 aX).symm
     refine Ej (Bg (xs:=(frF (Aa ps) (ns.filter e)).map V.str)) (λm σ Z=>∃ y3 y4 ct2,σ=[some (.ref p),some (.ref d),some (.int ((B1 ns e:Nat):Int)),y3,y4]/\Same H Z/\Z l=some (.lst (qs.map λq=>V.int ((B1 ns q:Nat):Int)))/\Z l5=some (.lst ((frF (Aa ps) (ns.filter e)).map V.str))/\WaysB K O Z p dx nv bd ad kd ns ps/\Z d=some (.dK (Ix ns ct2))/\Se ns ct2/\CmJ ns ps (ns.filter e) m a4 ct2)
      ⟨_,_,a4,rfl,e4.trans e5,e5 _ _ aH,h5,aA.same e5,e5 _ _ a9,aE,.zero ..⟩ (λm σ' H' J=>?_) (λm x6 σ' Z a8 hm J=>?_) (fun σ' Z J=>?_)
     . obtain⟨_,_,_,_,_,_,h,_⟩:=J;exact SqL.of h
     . obtain ⟨y3,y4,ct2,rfl,e6,aC,aI,a5,a0,a7,a6⟩:=J;rw[A06] at a8
       cases hz:(frF (Aa ps) (ns.filter e))[m]? with
       |none=>rw[hz] at a8;cases a8
       |some z=>
         rw[hz] at a8
         cases a8;have aF:=A03 hz;have aL:=(mem_frF.mp aF).1;have aM:=(A0L.mp aL).1;have b5:=Nm hn aM (A0L.mp aL).2;have b1:((B1 ns e:Nat):Int)-((Eo ns z:Nat):Int)=((B1 ns (λy=>e y && !decide (y=z)):Nat):Int):=by omega
         have aQ:ns.filter e∈Hm ns a4:=by
          rcases aJ with q|⟨_,q|⟨N,hN,x,U,q⟩⟩
          . rw[q] at aF;cases aF
          . rw[q];exact a2.k2
          rw[q];exact a2.k3 N hN x U
         have aR:ns.filter e∈Hm ns ct2:=(a6.ks _).mpr (.inl aQ);obtain⟨k0,aN,g1,g2,g3,g4,g5⟩:=a96 ns (λy=>e y && !decide (y=z)) (Hx ns (ind (ns.filter e)) ct2) a7;have b4:=aB8 a7 aB
         symm
         refine Pj a5.ob (by rfl) ?_
         symm
         refine i_ixD a5.bt (Fv aM) ?_
         symm
         rw[b1];refine aj4 a0 ?_
         symm
         refine⟨_,DGet.k (k:=Sum.inl _) a0,?_⟩;rw[g1]
         symm
         refine Yj a0 (W1 a7 aR) ?_
         symm
         refine ab2 a0 (by unfold Ix;rw[List.length_map];omega) λH7 e7 h7=>?_
         symm
         refine⟨_,_,aN,rfl,e6.off a3 e7,e7 _ _ aZ aC,e7 _ _ aY aI,a5.of (e7.fzD a0) (λb o hb q=>e7 _ _ (by rcases hb with rfl|rfl|rfl;exact aV;exact aU;exact aT) q),?_,g4,a6.step hz (B9 ..) g3 g5⟩
         rw[h7,g2];rfl
     obtain⟨y3,y4,ct2,rfl,e6,aC,aI,a5,a0,a7,a6⟩:=J;rw[A01] at a6;refine⟨_,_,_,ct2,rfl,e6,aC,a5,a0,a7,?_⟩;rw[aj5 hM];refine a2.step aK b0 aP ?_ a6;rcases aJ with q|⟨q,_⟩
     . rw[q];intro x U
       cases U
     exact q
 obtain⟨x2,x3,x4,a4,rfl,e4,aH,aA,a9,aE,a2⟩:=J;rw[List.length_reverse,List.length_map,show qs.length=(Bu ns qs).reverse.length by unfold Bu;rw[List.length_reverse,List.length_map],List.take_length,List.reverse_reverse] at a2
 symm
 exact k d a4 Y a3 e4 a9 aE a2
structure Shr (K:W.Frag)(C:Addr)(H0 H:Hp)(o:Obj)(p dx:Addr)(nv:V)(bd ad kd cd fd:Addr)(ns:List Str)(ps:List (Str×Str))(qs:List (Str->Bool))(ct:List ((Str->Bool)×Nat))(as:List Addr)(f:Str->Str->Nat):Prop where
 sm:Same H0 H
 kn:H kd=some (.frz o (.dK (knK ns ps qs)))
 wb:WaysB K C H p dx nv bd ad kd ns ps
 cm:H cd=some (.dK (Ix ns ct))
 tb:TabN H fd ns as f
 fr:∀ a∈as,H0 a=none
 ne:∀ a∈as,a≠kd/\a≠p/\a≠bd/\a≠ad/\a≠cd
theorem Shr.same {K:W.Frag}{C:Addr}{H0 H H':Hp}{o:Obj}{p dx:Addr}{nv:V}{bd ad kd cd fd:Addr}{ns:List Str}{ps:List (Str×Str)}{qs:List (Str->Bool)}{ct:List ((Str->Bool)×Nat)}{as:List Addr}{f:Str->Str->Nat}(h:Shr K C H0 H o p dx nv bd ad kd cd fd ns ps qs ct as f)(e:Same H H'):Shr K C H0 H' o p dx nv bd ad kd cd fd ns ps qs ct as f:=
 ⟨h.sm.trans e,e _ _ h.kn,h.wb.same e,e _ _ h.cm,h.tb.same e,h.fr,h.ne⟩
theorem Shr.put {K:W.Frag}{C:Addr}{H0 H H':Hp}{o:Obj}{p dx:Addr}{nv:V}{bd ad kd cd fd:Addr}{ns:List Str}{ps:List (Str×Str)}{qs:List (Str->Bool)}{ct:List ((Str->Bool)×Nat)}{as:List Addr}{f:Str->Str->Nat}(h:Shr K C H0 H o p dx nv bd ad kd cd fd ns ps qs ct as f)(hn:ns.Nodup){j:Nat}{x z:Str}{m:Nat}{a:Addr}(J:ns[j]? = some x)(ha:as[j]? = some a)(hz:z∈ns)(e:ExtBut a H H')(h':H' a=some (.dK (G3 (Vz ns (f x)) (Sum.inr z:Key) (.int ((m:Nat):Int))))) :
  Shr K C H0 H' o p dx nv bd ad kd cd fd ns ps qs ct as λO y=>if O=x/\y=z then m else f O y:=by
 have F:=A03 ha;obtain⟨U,Y,Z,n4,n5⟩:=h.ne a F;exact⟨h.sm.off (h.fr a F) e,e _ _ U.symm h.kn,h.wb.of (e.fzD (h.tb.row j x a J ha)) (λb o' hb q=>e _ _ (by rcases hb with rfl|rfl|rfl;exact Y.symm;exact Z.symm;exact n4.symm) q),e _ _ n5.symm h.cm,h.tb.put hn J ha hz e h',h.fr,h.ne⟩
def Iz (K:W.Frag):Sp:=λvs H Q _=>∃ v ns ps,vs=[v]/\Is K H (hfD ns ps) v/\HalfW ns ps/\ns.length<=10/\∀ fd as f H',Same H H'->TabN H' fd ns as f->(∀ x∈ns,∀ y∈ns,x≠y->f x y=cnt (Aa (ps++[(x,y)])) ns)->Q (.ref fd) H'
theorem Uh {f:Addr}{fd:FuncData}(F:Fun K "shares_of" "shares_of" Ep f fd)(T:Ey mg){Y:Addr}(a0:Ed K Y)(J2:Fnd P w K mg base 2 "comings_of" ["ways"] (Im Y K))(C9:Mkd P w K mg base 3 Y "Ways" ["self","half"] (Fs Y K))(Ah:Mtd P w K mg base 1 Y "free_names" ["self","left"] (Az Y K))(Al:Mtd P w K mg base 13 Y "ways_on" ["self","left"] (Bo Y K)):FnOk P w K mg base CX0 14 f fd ["half"] (Iz K):=by
 refine F.ok C1 (λvs H Q E h=>?_) (λcV A outer s H vs Q E hr h=>?_)
 . obtain⟨v,ns,ps,rfl,_⟩:=h;rfl
 obtain⟨v,ns,ps,rfl,hI,hW,aA,k⟩:=h;have hu:=Bj hr;have hq:=Bi hr;have hn:=hW.nd
 with_reducible refine⟨_,(A3 (A9 (i:=1) C1.nd ⋯ (by eq_refl) (aD1 C9 (hr.mono nofun) ⋯ (A1 (pv 0) A2)))
  (A3 (Et (Pu (C:=Y) (pv 1) a0.cl Al (hr.mono nofun) (A1 (Hf (C:=Y) (pv 1) a0.cl a0.n_full ⋯) A2)))
  (A3 (A9 (i:=2) C1.nd ⋯ (by eq_refl) (Aq J2 (hr.mono nofun) ⋯ (A1 (pv 1) A2)))
  (A3 (A9 (i:=3) C1.nd ⋯ (by eq_refl) (B0 (M0 (K:=K) hr.hd) ⋯ T.b_dict PyProof.Rows.Boot.«dict» (A1 (C2 ["one"] ["half"] [0] ⋯ ⋯ ⋯ (Ar (K:=K) hu (Ad (A6 (K:=K) hu) (pv 0) A5 (by ac_rfl))) (λ_ _ _ _=>(Ag (i:=0) (by with_unfolding_all (show(["one","half"]:List Str).Nodup;decide +kernel)) ⋯ (by eq_refl))) (Bf nofun) (λ_ _ _ _=>El) (λ_ _ _ _=>(B6 (A1 (pv 0) (A1 (B0 (M0 (K:=K) hr.hd) ⋯ T.b_dict PyProof.Rows.Boot.«dict» (A1 (C2 ["other"] [] [] ⋯ ⋯ ⋯ (Ar (K:=K) hu (Ad (A6 (K:=K) hu) (pv 1) A5 (by ac_rfl))) (λ_ _ _ _=>(Ag (i:=0) (by with_unfolding_all (show(["other"]:List Str).Nodup;decide +kernel)) ⋯ (by eq_refl))) (Bf nofun) (λ_ _ _ _=>El) (λ_ _ _ _=>(B6 (A1 (pv 0) (A1 A5 A2))))) A2)) A2))))) A2)))
  (A3 (C5 A0X ⋯ (Ar (K:=K) hu (Hf (C:=Y) (pv 1) a0.cl a0.n_known ⋯)) (Ag (i:=4) C1.nd ⋯ (by eq_refl))
  (A7 (C5 A0X ⋯ (Ar (K:=K) hu (Pu (C:=Y) (pv 1) a0.cl Ah (hr.mono nofun) (A1 (pv 4) A2))) (Ag (i:=5) C1.nd ⋯ (by eq_refl))
  (A3 (A9 (i:=6) C1.nd ⋯ (by eq_refl) (Ap K0 (pv 4) (Ad (A6 (K:=K) hu) (Hf (C:=Y) (pv 1) a0.cl a0.n_bits ⋯) (pv 5) (by ac_rfl))))
  (A3 (A9 (i:=7) C1.nd ⋯ (by eq_refl) (Ap Dh (Ad (A6 (K:=K) hu) (pv 2) (pv 4) (by ac_rfl)) (Ad (A6 (K:=K) hu) (Hf (C:=Y) (pv 1) a0.cl a0.n_known ⋯) (pv 6) (by ac_rfl))))
  (A7 (C5 A0X ⋯ (Ar (K:=K) hu (Ad (A6 (K:=K) hu) (pv 0) A5 (by ac_rfl))) (Ag (i:=8) C1.nd ⋯ (by eq_refl))
  (A7 (Co (af8 (Ap Zt (Ad (A6 (K:=K) hu) (Hf (C:=Y) (pv 1) a0.cl a0.n_bits ⋯) (pv 8) (by ac_rfl)) (pv 6))) (A7 (Ff hu (Ad (A6 (K:=K) hu) (pv 3) (pv 5) (by ac_rfl)) (pv 8) (Ap (An (K:=K)) (Ad (A6 (K:=K) hu) (Ad (A6 (K:=K) hu) (pv 3) (pv 5) (by ac_rfl)) (pv 8) (by ac_rfl)) (pv 7)) ⋯)) Ay)))))))))
  (A7 (Ao (pv 3)))))))),?_⟩
 symm
 refine aT2 λp dx H1 cN e1 h1=>?_;refine⟨p,v,dx,ns,ps,rfl,h1,hI.hf_fz e1.fz,hW,aA,λnv bd ad kd H2 cF e2 hA=>⟨rfl,?_⟩⟩
 symm
 refine ai7 hA.ob (by rfl) ?_
 symm
 refine Pj hA.ob (by rfl) ?_
 symm
 have cB:ns.filter (λ_=>true)=ns:=by simp
 refine⟨p,dx,nv,bd,ad,kd,ns,ps,_,λ_=>true,rfl,hA,hW,aA,by rw[cB];omega,λqs H3 e3 aP hG=>?_⟩
 symm
 refine⟨p,dx,nv,bd,ad,kd,ns,ps,qs,rfl,aP,hW,aA,hG,λcd ct H4 bJ e4 h4 hO hC=>?_⟩;have bM:H kd=none:=e1.free cF;have b3:Same H H3:=(e1.off cN e2).off bM e3;have aL:=b3.trans e4;have a3:=aP.same e4;have cL:=a3.ok.tt;have d2:=a3.ok.len aA;have cY:H cd=none:=b3.free bJ;have c9:cd≠kd:=(ne_of_none aP.kn bJ).symm;clear e3 hA e2 h1 aP
 symm
 refine Gy (hI.hf_fz aL.fz) λd8 bX=>?_;obtain⟨na,rfl,hS⟩:=bX.nm;refine Wi hS ?_
 refine Ik (Hz (xs:=ns.map V.str)) (λq i acc H5=>Same H4 H5/\∃ as:List Addr,as.length=i/\as.Nodup/\(∀ a∈as,H5 a=some (.dK (Vz ns λ_=>0))/\H4 a=none)/\PrsK K H5 (Ge (ns.take i) as) acc)
  (λq H' hp e h=>⟨e,[],rfl,by simp,λ_ h=>(by cases h),by rfl⟩) (λq i acc H5 J=>J.1.seqT hS) (λq i x acc H5 bO O hi hl ha J=>?_) (λq acc H5 bO ha aW J=>?_)
 . obtain ⟨e5,as,aW,aV,a5,aH⟩:=J;rw[A06] at O
   cases hz:ns[i]? with
   |none=>rw[hz] at O;cases O
   |some z=>
     rw[hz] at O
     cases O;have d1:i<ns.length:=(A00.mp hz).1
     symm
     refine Gy (hI.hf_fz (aL.trans e5).fz) λd9 bY=>?_;obtain⟨d6,rfl,bE⟩:=bY.nm;refine Wi bE ?_
     refine Ik (Hz (xs:=ns.map V.str)) (λq6 i6 aE H6=>Same H5 H6/\PrsK K H6 (Vz (ns.take i6) λ_=>0) aE)
      (λq6 H' hp e h=>⟨e,by rfl⟩) (λq6 i6 aE H6 J=>J.1.seqT bE) (λq6 i6 x6 aE H6 bP aK cD cG aU J=>?_) (λq6 aE H6 bP aU cX J=>?_)
     . obtain ⟨e6,aQ⟩:=J;rw[A06] at aK
       cases hz6:ns[i6]? with
       |none=>rw[hz6] at aK;cases aK
       |some z6=>
         rw[hz6] at aK
         cases aK
         symm
         refine B5 (Ab (by simp)) λt H7 d4 e7 h7=>?_;have bC:H7 q6=some (.lst aE):=e7 _ _ aU;refine Lc (by rw[A01];omega) cD cG bC λH8 e8 h8=>?_;have b5:=e8.fzL bC;refine⟨(e6.trans e7).off bP e8,?_⟩;rw[show Vz (ns.take (i6+1)) (λ_=>0)=Vz (ns.take i6) (λ_=>0)++[(Sum.inr z6,V.int 0)] by unfold Vz;rw[List.take_add_one,hz6,List.map_append];rfl];exact PrsK.snoc (kv:=(Sum.inr z6,V.int 0)) (b5.seq (SqT.of h7)) (PrsK.fz (e7.fz.trans b5) aQ)
     obtain⟨e6,aQ⟩:=J;rw[A01,A0U] at aQ
     symm
     refine a78 aU aQ (by unfold Vz;rw[List.length_map];omega) λb H7 aY e7 h7=>?_;rw[L7 _ _ (ah4 hn _) (λ_ _ _ h=>by cases h),A3H] at h7
     symm
     refine B5 (Ab (by simp)) λt H8 d5 e8 h8=>?_;have aM:=(e6.trans e7).trans e8;have bD:H8 q=some (.lst acc):=aM _ _ ha;refine Lc (by rw[A01];omega) hi hl bD λH9 e9 h9=>?_;have c8:b≠q:=Ne.symm (ne_of_none (e6 _ _ ha) aY);have b6:=e9.fzL bD;refine⟨(e5.trans aM).off bO e9,as++[b],by simp[aW],?_,λa a9=>?_,?_⟩
     . rw[A1E];refine⟨aV,by simp,λa c7 c hc e=>?_⟩;have:c=b:=by simpa using hc
       subst this;subst e;have:=e6 _ _ (a5 _ c7).1;rw[aY] at this
       cases this
     . rcases A0C.mp a9 with a9|a9
       . obtain⟨q1,q2⟩:=a5 a a9;exact⟨e9 _ _ (ne_of q1 ha (by intro z;cases z)) (aM _ _ q1),q2⟩
       have:a=b:=by simpa using a9
       subst this;exact⟨e9 _ _ c8 (e8 _ _ h7),e5.free (e6.free aY)⟩
     have ht:ns.take (i+1)=ns.take i++[z]:=by rw[A0S,hz];rfl
     have cJ:(ns.take i).length=as.length:=by rw[A10,aW];omega
     rw[ht,Mu cJ];exact PrsK.snoc (kv:=(Sum.inr z,V.ref b)) (b6.seq (SqT.of h8)) (PrsK.fz (aM.fz.trans b6) aH)
 obtain⟨e5,as,aX,aV,a5,aH⟩:=J;rw[A01] at aX;rw[A01,A0U] at aH
 symm
 refine a78 ha aH (by unfold Ge;rw[List.length_map,List.length_zip];omega) λfd H6 bL e6 h6=>?_;rw[L7 _ _ (Sv hn) (λ_ _ _ h=>by cases h),A3H] at h6;have bK:H4 fd=none:=e5.free bL
 have cA:fd∉as:=λhm=>by
  have:=(a5 fd hm).1;rw[bL] at this
  cases this
 have bF:TabN H6 fd ns as (λ_ _=>0):=⟨aX,aV,cA,h6,λj x a _ a9=>e6 _ _ (a5 a (A03 a9)).1⟩
 have cM:∀ b,b=fd\/b∈as->H4 b=none:=λb hb=>by
  rcases hb with rfl|hb
  . exact bK
  exact(a5 b hb).2
 have aS:=e5.trans e6;have a7:=a3.same aS;have b9:=aS _ _ h4
 symm
 refine Pj a7.ob (by rfl) ?_;refine Ra (as:=[kd]) (.inl a7.kn) (by simp) λo H7 k7 bB=>?_;have cO:p≠kd:=ne_of a7.ob a7.kn (by intro z;cases z);have bH:WaysB K Y H7 p dx nv bd ad kd ns ps:=a7.b.of k7.fz λb o' hb q=>k7.1 b o' (by rcases hb with rfl|rfl|rfl<;>simp[cO,a7.nb,a7.na]) q
 have bN:∀ b,b=fd\/b∈as->b≠kd:=λb hb z=>by
  have:=cM b hb;rw[z,a3.kn] at this
  cases this
 have bG:TabN H7 fd ns as (λ_ _=>0):=bF.of λb o' hb q=>k7.1 b o' (by simpa using bN b hb) q;have bA:H7 cd=some (.dK (Ix ns ct)):=k7.1 _ _ (by simpa using c9) b9;have b4:Same H H7:=λb o' q=>k7.1 b o' (by simpa using ne_of_none q bM) (aS _ _ (aL _ _ q));have cZ:cd≠fd/\cd∉as:=⟨λz=>(by rw[z,bK] at h4;cases h4),λz=>(by rw[(a5 cd z).2] at h4;cases h4)⟩
 have cW:∀ b,b=p\/b=bd\/b=ad->∃ o',H4 b=some o':=λb hb=>by
  rcases hb with rfl|rfl|rfl
  . exact⟨_,a3.ob⟩
  . exact⟨_,a3.bt⟩
  exact⟨_,a3.ah⟩
 have c6:Shr K Y H H7 o p dx nv bd ad kd cd fd ns ps qs ct as (λ_ _=>0):=⟨b4,bB,bH,bA,bG,λa ha=>aL.free (a5 a ha).2,λa ha=>by have aO:=(a5 a ha).2;exact⟨bN a (.inr ha),(ne_of_none a3.ob aO).symm,(ne_of_none a3.bt aO).symm,(ne_of_none a3.ah aO).symm,(ne_of_none h4 aO).symm⟩⟩
 have hl:((knK ns ps qs).map λkv=>kV kv.1)=qs.map λq=>V.int ((B1 ns q:Nat):Int):=by unfold knK;rw[A1A];rfl
 clear bH bG bB bA b4 a7 bF h6 b9 a5 aH
 refine Ej Lb (λi σ H8=>∃ x4 x5 x6 x7 x8 f,σ=[some v,some (.ref p),some (.ref cd),some (.ref fd),x4,x5,x6,x7,x8]/\Shr K Y H H8 o p dx nv bd ad kd cd fd ns ps qs ct as f/\∀ x∈ns,∀ y∈ns,f x y=(((Bu ns qs).take i).map λL=>Hx ns (ind L) ct*ao3 (Aa ps) x y L).sum)
  ⟨_,_,_,_,_,_,rfl,c6,λx _ y _=>rfl⟩ (λi σ' H' J=>?_) (λi x σ' H8 O hi J=>?_) (fun σ' H8 J=>?_)
 . obtain⟨_,_,_,_,_,_,_,h,_⟩:=J;exact h.kn
 . obtain ⟨x4,x5,x6,x7,x8,f,rfl,a8,b0⟩:=J;rw[hl,A06] at O
   cases he:qs[i]? with
   |none=>rw[he] at O;cases O
   |some e=>
     rw[he] at O
     cases O
     have hM:(Bu ns qs)[i]? = some (ns.filter e):=by unfold Bu;rw[A06,he];rfl
     have cP:Bu ns qs=(Bu ns qs).take i++ns.filter e :: (Bu ns qs).drop (i+1):=by
      obtain⟨cC,bU⟩:=A00.mp hM
      conv=>lhs;rw[<- List.take_append_drop i (Bu ns qs),List.drop_eq_getElem_cons cC,bU]
     have bI:=aG6 hG cP;have bT:(ns.filter e).Nodup:=A24 A1U hn;have bS:(frF (Aa ps) (ns.filter e)).Nodup:=A24 A1U bT
     symm
     refine ai7 a8.wb.ob (by rfl) ?_
     symm
     refine⟨p,dx,nv,bd,ad,kd,ns,ps,e,rfl,a8.wb,hW,aA,λl9 H9 cH e9 h9=>?_⟩;refine Ju (SqL.of h9) ?_
     have cI:l9∉as:=λz=>by
      obtain⟨j,Z⟩:=A1K.mp z;have cE:=(A00.mp Z).1;have:=a8.tb.row j (ns[j]'(by rw[<- aX];exact cE)) l9 (A04 _) Z;rw[cH] at this
      cases this
     refine Ej (Bg (xs:=(frF (Aa ps) (ns.filter e)).map V.str)) (λm σ aC=>∃ y5 y6 y7 y8 f2,σ=[some v,some (.ref p),some (.ref cd),some (.ref fd),some (.int ((B1 ns e:Nat):Int)),y5,y6,y7,y8]/\aC l9=some (.lst ((frF (Aa ps) (ns.filter e)).map V.str))/\Shr K Y H aC o p dx nv bd ad kd cd fd ns ps qs ct as f2/\∀ x∈ns,∀ y∈ns,f2 x y=f x y+if x∈(frF (Aa ps) (ns.filter e)).take m/\y∈Ai (ns.filter e) x then Hx ns (ind (ns.filter e)) ct*cnt (Aa ps) (Ai (ns.filter e) x) else 0)
      ⟨_,_,_,_,_,rfl,h9,a8.same e9,λx _ y _=>by simp⟩ (λm σ' H' J=>?_) (λm dA σ' aC aJ hm J=>?_) (fun σ' aC J=>?_)
     . obtain⟨_,_,_,_,_,_,h,_⟩:=J;exact SqL.of h
     . obtain ⟨y5,y6,y7,y8,f2,rfl,b7,a6,aZ⟩:=J;rw[A06] at aJ
       cases hz:(frF (Aa ps) (ns.filter e))[m]? with
       |none=>rw[hz] at aJ;cases aJ
       |some z=>
         rw[hz] at aJ
         cases aJ;have aB:=A03 hz;have bR:=(mem_frF.mp aB).1;have b2:=(A0L.mp bR).1;have d3:=Nm hn b2 (A0L.mp bR).2;have cQ:((B1 ns e:Nat):Int)-((Eo ns z:Nat):Int)=((B1 ns (λy=>e y && !decide (y=z)):Nat):Int):=by omega
         have bV:ns.filter e∈Hm ns ct:=by
          rcases bI with q|⟨_,q|⟨N,hN,x,O,q⟩⟩
          . rw[q] at aB;cases aB
          . rw[q];exact hC.k2
          rw[q];exact hC.k3 N ((A4H _ _).subset hN) x O
         have bZ:ns.filter (λy=>e y && !decide (y=z))∈Bu ns qs:=by
          rw[B9];rcases bI with q|⟨q,_⟩
          . rw[q] at aB;cases aB
          exact(A4E _ _).subset (q z aB)
         have d0:=hC.le hn aA (ns.filter e)
         symm
         refine Pj a6.wb.ob (by rfl) ?_
         symm
         refine i_ixD a6.wb.bt (Fv b2) ?_
         symm
         rw[cQ];refine Yj a6.cm (W1 hO bV) ?_
         symm
         refine Pj a6.wb.ob (by rfl) ?_
         symm
         refine aw9 (.inr ⟨o,a6.kn⟩) (Yf bZ) ?_
         symm
         rw[<- A4U,B9];refine Gy (hI.hf_fz a6.sm.fz) λd7 bW=>?_;generalize cK:Hx ns (ind (ns.filter e)) ct*cnt (Aa ps) (Ai (ns.filter e) z)=many
         refine Mh bW (λk' σ aD=>∃ z8 f3,σ=[some v,some (.ref p),some (.ref cd),some (.ref fd),some (.int ((B1 ns e:Nat):Int)),some (.str z),some (.int ((B1 ns (λy=>e y && !decide (y=z)):Nat):Int)),some (.int ((many:Nat):Int)),z8]/\Fz aC aD/\aD l9=some (.lst ((frF (Aa ps) (ns.filter e)).map V.str))/\Shr K Y H aD o p dx nv bd ad kd cd fd ns ps qs ct as f3/\∀ x∈ns,∀ y∈ns,f3 x y=f2 x y+if x=z/\y∈ns.take k'/\y∈Ai (ns.filter e) z then many else 0)
          ⟨_,f2,rfl,.refl _,b7,a6,λx _ y _=>by simp⟩ (λk' σ' H' J=>?_) (λk' w σ' aD hw J=>?_) (fun σ' aD J=>?_)
         . obtain⟨_,_,_,h,_⟩:=J;exact h
         . obtain⟨z8,f3,rfl,aT,aN,a4,aG⟩:=J;have aI:=A03 hw
           symm
           refine Pj a4.wb.ob (by rfl) ?_
           symm
           refine i_ixD a4.wb.bt (Fv aI) ?_
           symm
           rw[ag9 hn aI]
           have cR:w∉ns.take k':=λhm=>by
            obtain⟨j,Z⟩:=A1K.mp hm;rw[A2W] at Z
            split at Z
            . rename_i hji;have a1:=A00.mp Z;have a2:=A00.mp hw;have:=(A1G hn).mp (a1.2.trans a2.2.symm);omega
            cases Z
           have bQ:w∈Ai (ns.filter e) z↔(e w && !decide (w=z))=true:=by rw[<- B9,A0L];exact⟨λq=>q.2,λq=>⟨aI,q⟩⟩
           have htk:ns.take (k'+1)=ns.take k'++[w]:=by rw[A0S,hw];rfl
           refine aJ2 (λhb=>?_) (λhb=>?_)
           . obtain⟨j,a,Z,aF⟩:=a4.tb.at b2;have b1:=a4.tb.row j z a Z aF
             symm
             refine i_ixD a4.tb.top (Cu hn Z aF) ?_
             symm
             refine i_ixD b1 (Fv aI) ?_
             symm
             refine i_ixD a4.tb.top (Cu hn Z aF) ?_
             symm
             refine Iw b1 (by unfold Vz;rw[List.length_map];omega) λcU aR b8=>?_;rw[<- Int.natCast_add] at b8;have c0:=a4.put hn Z aF aI aR b8
             symm
             refine⟨_,_,rfl,aT.trans (aR.fzD b1),aR _ _ (λz=>cI (z ▸ A03 aF)) aN,c0,λx O y hy=>?_⟩;show(if x=z/\y=w then f3 z w+many else f3 x y)=_
             rw[htk]
             by_cases c:x=z/\y=w
             . obtain⟨rfl,rfl⟩:=c;rw[if_pos ⟨rfl,rfl⟩,aG x O y hy,if_neg (λq=>cR q.2.1),if_pos ⟨rfl,by simp,bQ.mpr hb⟩];rfl
             rw[A0Q c,aG x O y hy];congr 1
             by_cases U:x=z/\y∈ns.take k'/\y∈Ai (ns.filter e) z
             . rw[A0Z U,A0Z ⟨U.1,A0M _ U.2.1,U.2.2⟩]
             rw[A0Q U,A0Q];rintro⟨c3,c4,c5⟩;rcases A0C.mp c4 with c4|c4
             . exact U ⟨c3,c4,c5⟩
             exact c ⟨c3,by simpa using c4⟩
           symm
           refine⟨_,f3,rfl,aT,aN,a4,λx O y hy=>?_⟩;rw[aG x O y hy,htk];congr 1
           by_cases c:x=z/\y∈ns.take k'/\y∈Ai (ns.filter e) z
           . rw[A0Z c,A0Z ⟨c.1,A0M _ c.2.1,c.2.2⟩]
           rw[A0Q c,A0Q];rintro⟨c1,U,c3⟩;rcases A0C.mp U with U|U
           . exact c ⟨c1,U,c3⟩
           have:y=w:=by simpa using U
           subst this;rw[bQ.mp c3] at hb
           cases hb
         obtain⟨z8,f3,rfl,aT,aN,a4,aG⟩:=J;refine⟨_,_,_,_,f3,rfl,aN,a4,λx O y hy=>?_⟩;rw[aG x O y hy,aZ x O y hy,A0U,A0S,hz,Nat.add_assoc];congr 1
         have cT:z∉(frF (Aa ps) (ns.filter e)).take m:=λhm=>by
          obtain⟨j,Z⟩:=A1K.mp hm;rw[A2W] at Z
          split at Z
          . rename_i hji;have a1:=A00.mp Z;have a2:=A00.mp hz;have:=(A1G bS).mp (a1.2.trans a2.2.symm);omega
          cases Z
         by_cases c:x=z
         . subst c
           by_cases U:y∈Ai (ns.filter e) x
           . rw[if_neg (λq=>cT q.1),if_pos ⟨rfl,hy,U⟩,if_pos ⟨by simp,U⟩,cK,Nat.zero_add]
           rw[A0Q (λq=>U q.2),A0Q (λq=>U q.2.2),A0Q (λq=>U q.2)]
         rw[A0Q (λq:x=z/\_=>c q.1),Nat.add_zero]
         by_cases U:x∈(frF (Aa ps) (ns.filter e)).take m/\y∈Ai (ns.filter e) x
         . rw[A0Z U,A0Z ⟨A0M _ U.1,U.2⟩]
         rw[A0Q U,A0Q];rintro⟨q1,q2⟩;rcases A0C.mp q1 with q1|q1
         . exact U ⟨q1,q2⟩
         exact c (by simpa using q1)
     obtain⟨y5,y6,y7,y8,f2,rfl,b7,a6,aZ⟩:=J;refine⟨_,_,_,_,_,f2,rfl,a6,λx O y hy=>?_⟩;rw[aZ x O y hy,b0 x O y hy,A01,A0U,A0S,hM,A13,List.sum_append];congr 1;show _=Hx ns (ind (ns.filter e)) ct*ao3 (Aa ps) x y (ns.filter e)+0;unfold ao3
     split
     . rfl
     rfl
 obtain⟨x4,x5,x6,x7,x8,f,rfl,a8,b0⟩:=J
 symm
 refine k fd as f H8 a8.sm a8.tb λx O y hy cS=>?_;rw[b0 x O y hy,hl,List.length_map,show qs.length=(Bu ns qs).length by unfold Bu;rw[List.length_map],List.take_length];exact hC.share cL hW O hy cS
def Ja (K:W.Frag):Sp:=λvs H Q _=>∃ v ns ps,vs=[v]/\Is K H (hfD ns ps) v/\HalfW ns ps/\ns.length<=10/\∀ l ys H',H l=none->Same H H'->H' l=some (.lst ys)->IsL K H' (quP ns ps) ys->Q (.ref l) H'
theorem Zz {ns:List Str}{ps:List (Str×Str)}(h:ns.length<=10):(unP ns ps).length<=100:=by unfold unP unK;rw[A51];refine A0O (Li (c:=10) λi _=>?_) (by rw[A1V];omega);unfold unR;rw[A01];exact A0O (A0T _ _) (by rw[A1B];omega)
theorem Vb {f:Addr}{fd:FuncData}(F:Fun K "questions" "questions" Fe f fd)(T:Ey mg)(Rv:Fnd P w K mg base 3 "untold" ["half"] (Nw K))(Kg:Fnd P w K mg base 14 "shares_of" ["half"] (Iz K)):FnOk P w K mg base CX0 15 f fd ["half"] (Ja K):=by
 refine F.ok M9 (λvs H Q E h=>?_) (λaA A outer s H vs Q E O h=>?_)
 . obtain⟨v,ns,ps,rfl,_⟩:=h;rfl
 obtain⟨v,ns,ps,rfl,hI,hW,a0,k⟩:=h;have hu:=Bj O;have hq:=Bi O;have hn:=hW.nd
 with_reducible refine⟨_,(A3 (A9 (i:=1) M9.nd ⋯ (by with_unfolding_all exact A37 rfl) (Aq Kg (O.mono nofun) ⋯ (A1 (pv 0) A2)))
  (A7 (Ao (C2 ["pair"] ["shares"] [1] ⋯ ⋯ ⋯ (Ar (K:=K) hu (Aq Rv (O.mono nofun) ⋯ (A1 (pv 0) A2))) (λ_ _ _ _=>(Ag (i:=0) (by with_unfolding_all (show(["pair","shares"]:List Str).Nodup;decide +kernel)) ⋯ (by eq_refl))) (Bf nofun) (λ_ _ _ _=>El) (λ_ _ _ _=>(B6 (A1 (pv 0) (A1 (B6 (A1 (Ad (A6 (K:=K) hu) (Ad (A6 (K:=K) hu) (pv 1) (Ad (A6 (K:=K) hu) (pv 0) A5 (by ac_rfl)) (by ac_rfl)) (Ad (A6 (K:=K) hu) (pv 0) A5 (by ac_rfl)) (by ac_rfl)) (A1 (Ad (A6 (K:=K) hu) (Ad (A6 (K:=K) hu) (pv 1) (Ad (A6 (K:=K) hu) (pv 0) A5 (by ac_rfl)) (by ac_rfl)) (Ad (A6 (K:=K) hu) (pv 0) A5 (by ac_rfl)) (by ac_rfl)) A2))) A2)))))))),?_⟩
 symm
 refine⟨v,ns,ps,rfl,hI,hW,a0,λfd as f H1 Y hT hf=>?_⟩
 symm
 refine⟨v,ns,ps,rfl,hI.hf_fz Y.fz,hW,λu H2 Z a9=>?_⟩
 symm
 have aE:=Zz (ps:=ps) a0;refine a84 a9 (λ_=>true) (λp=>qsD p (cnt (Aa (ps++[(p.1,p.2)])) ns) (cnt (Aa (ps++[(p.2,p.1)])) ns)) (λ_=>Y3 ..) ∅ (λi p w H3 R R' hp J e3 hR aB=>?_) (λl ys H3 hl e3 h3 hL=>?_)
 . have a8:=A03 hp;obtain⟨U,m2,_⟩:=M3 a8;have a7:=Uu hn a8;have q:=hT.same (Z.trans e3);obtain⟨j1,a1,a5,a3⟩:=q.at U;obtain⟨j2,a2,a6,a4⟩:=q.at m2
   symm
   refine Tp J ?_
   symm
   refine i_ixD q.top (Cu hn a5 a3) ?_
   symm
   refine On J ?_
   symm
   refine i_ixD (q.row j1 p.1 a1 a5 a3) (Fv m2) ?_
   symm
   refine On J ?_
   symm
   refine i_ixD q.top (Cu hn a6 a4) ?_
   symm
   refine Tp J ?_
   symm
   refine i_ixD (q.row j2 p.2 a2 a6 a4) (Fv U) ?_;rw[hf p.1 U p.2 m2 a7,hf p.2 m2 p.1 U a7.symm]
   symm
   refine B5 (Ab (by simp)) λt4 H4 aC e4 h4=>?_
   symm
   refine B5 (Ab (by simp)) λt5 H5 aD e5 h5=>?_;exact hR rfl _ _ (e4.trans e5) (Is.of_tup (SqT.of h5) (.cons (Is.mono (e4.trans e5) _ _ J) (.one (Is.of_tup (SqT.of (e5 _ _ h4)) (.cons Nh (.one Nh))))))
 rw[Gj] at hL
 symm
 exact k l ys H3 (Y.free (Z.free hl)) ((Y.trans Z).trans e3) h3 hL
def lamQ:Str:=("best":Str) ++ ".<locals>." ++ "<lambda>"
abbrev LmT (P:Addr)(H:Hp):Prop:=LamT P 158 26 lamQ H
def qA (ns:List Str)(ps:List (Str×Str))(p:Str×Str):Nat:=cnt (Aa (ps++[(p.1,p.2)])) ns
def qB (ns:List Str)(ps:List (Str×Str))(p:Str×Str):Nat:=cnt (Aa (ps++[(p.2,p.1)])) ns
def qMn (ns:List Str)(ps:List (Str×Str))(p:Str×Str):Int:=if((qB ns ps p:Nat):Int)<((qA ns ps p:Nat):Int) then((qB ns ps p:Nat):Int) else((qA ns ps p:Nat):Int)
theorem av4 (ns:List Str)(ps:List (Str×Str)):Mm (quP ns ps)=true:=De _ (λ_=>Y3 ..) _
theorem ai3 (ns:List Str)(ps:List (Str×Str)):quP ns ps=(unP ns ps).map λp=>qsD p (qA ns ps p) (qB ns ps p):=rfl
def aT1 (K:W.Frag)(H:Hp)(ns:List Str)(ps:List (Str×Str))(u:V):Prop:=(u = .non/\unP ns ps=[])\/∃ p∈unP ns ps,Is K H (qsD p (qA ns ps p) (qB ns ps p)) u/\∀ q∈unP ns ps,qMn ns ps q<=qMn ns ps p
def Sb (P:Addr)(K:W.Frag):Sp:=λvs H Q _=>∃ v ns ps,vs=[v]/\Is K H (hfD ns ps) v/\HalfW ns ps/\ns.length<=10/\LmT P H/\∀ u H',ExtBut P H H'->LmT P H'->aT1 K H' ns ps u->Q u H'
theorem aN6 {K:W.Frag}{H:Hp}{p:Str×Str}{m n:Nat}{v:V}(h:Is K H (qsD p m n) v):∃ a b x,v = .ref a/\SqT K H a [x,.ref b]/\SqT K H b [.int ((m:Nat):Int),.int ((n:Nat):Int)]:=by
 obtain⟨a,xs,rfl,h1,h2⟩:=Is.tup h;obtain⟨O,U,rfl,i1,h2⟩:=Bc h2;obtain⟨Y,J,rfl,i2,h2⟩:=Bc h2;have e:J=[]:=by simpa only[L2.IsL] using h2
 subst e;obtain⟨b,ys,rfl,q,F⟩:=Is.tup i2;have:=IsL.int_eq (ns:=[((m:Nat):Int),((n:Nat):Int)]) F;subst this;exact⟨a,b,O,rfl,h1,q⟩
theorem Xh {P:Addr}{H H':Hp}{ps:Array Value}(e:ExtBut P H H')(h:H P=some (.tbl ps)):Fz H H':=Xd e λxs q=>by
 rcases q with q|⟨o,q⟩
 . rw[h] at q;cases q
 rw[h] at q;cases q
theorem Hb {P:Addr}{a b:Nat}{q:Str}{H:Hp}(h:LamT P a b q H):∃ ps,H P=some (.tbl ps):=by
 rcases h with h|⟨c,h,_⟩
 . exact⟨_,h⟩
 exact⟨_,h⟩
theorem aI0 {K:W.Frag}{P:Addr}{line q:Nat}{qual:Str}{t:TA}{σ:L2.St}{H:Hp}{Q:VK}(k:t σ H λvs H1=>LamT P line q qual H1/\∀ H2,ExtBut P H1 H2->LamT P line q qual H2->ay2 K vs H2 Q):aK7 K P line q qual t σ H Q:=k
theorem aw4 {f:Addr}{fd:FuncData}(F:Fun K "best" "best" Qe f fd)(T:Ey mg){a0:Addr}{Wy:Addr}(lb:aQ8 K mg base Wy a0)(a9:fd.code = .ref Wy)(Kd:Fnd P w K mg base 15 "questions" ["half"] (Ja K)):FnOk P w K mg base CX0 16 f fd ["half"] (Sb a0 K):=by
 refine Fun.okC F a9 ad4 (λvs H Q E h=>?_) (λA outer s H vs Q E Y h=>?_)
 . obtain⟨v,ns,ps,rfl,_⟩:=h;rfl
 obtain⟨v,ns,ps,rfl,hI,hW,a6,hT,k⟩:=h;have hu:=Bj Y;have hq:=Bi Y
 with_reducible refine⟨_,(A3 (A9 (i:=1) ad4.nd ⋯ (by eq_refl) (Aq Kd (Y.mono nofun) ⋯ (A1 (pv 0) A2)))
  (A3 (Co (Aj (Ck (K:=K) hq) (Am (Bp (K:=K)) ⋯ T.b_len PyProof.Rows.Boot.«len» (A1 (pv 1) A2)) A5 (Aw _)) (A7 (Ao Qd)) Ay)
  (A7 (Ao (ab5 (K:=K) ⟨⋯,lb.hd,lb.bi,lb.gP⟩ ⋯ Y.depth ⋯ T.b_max T.b_min (A1 (pv 1) A2)))))),?_⟩
 symm
 refine⟨v,ns,ps,rfl,hI,hW,a6,λl ys H1 hl J h1 a1=>?_⟩;have aE:=IsL.length a1;rw[ai3,A01] at aE
 symm
 refine Km (λhc=>?_) (λhc=>?_)
 . symm
   have h0:unP ns ps=[]:=A17.mp (by have:=V.int.inj hc;omega);exact k .non H1 J.but (hT.same J) (.inl ⟨rfl,h0⟩)
 have aD:0<ys.length:=by
  rcases A58 ys.length with z|z
  . exact absurd (by rw[z];rfl) hc
  exact z
 symm
 refine aI0 ?_
 symm
 refine⟨hT.same J,λH2 Z a8=>?_⟩;obtain⟨tps,a3⟩:=Hb (hT.same J);have a5:=Xh Z a3;have aA:l≠_:=ne_of h1 a3 (by intro z;cases z);have a7:=IsL.fz a5 _ _ (av4 ns ps) a1
 have a4:∀(i:Nat) u,ys[i]? = some u->∃ p,(unP ns ps)[i]? = some p/\Is K H2 (qsD p (qA ns ps p) (qB ns ps p)) u:=λi u U=>by
  obtain ⟨dd,hd,O⟩:=IsL.get a7 U;rw[ai3,A06] at hd
  cases hp:(unP ns ps)[i]? with
  |none=>rw[hp] at hd;cases hd
  |some p=>
    rw[hp] at hd
    cases hd;exact⟨p,rfl,O⟩
 refine⟨l,ys,λi=>qMn ns ps ((unP ns ps).getD i ("","")),rfl,SqL.of (Z _ _ aA h1),aD,λi u U=>?_,λi u U aB=>?_⟩
 . obtain⟨p,hp,O⟩:=a4 i u U;obtain⟨a,b,x,rfl,g1,g2⟩:=aN6 O;refine⟨a,b,x,_,_,rfl,g1,g2,?_⟩;show qMn ns ps ((unP ns ps).getD i ("",""))=_;rw[A1R,hp];rfl
 obtain⟨p,hp,O⟩:=a4 i u U;refine k u H2 (λb o hb q=>Z _ _ hb (J _ _ q)) a8 (.inr ⟨p,A03 hp,O,λp' aC=>?_⟩);obtain⟨j,hj⟩:=A1K.mp aC;have aF:=(A00.mp hj).1;have hm:=(aB j ∅).1;have g1:(unP ns ps).getD i ("","")=p:=by rw[A1R,hp];rfl
 have g2:(unP ns ps).getD j ("","")=p':=by rw[A1R,hj];rfl
 have a2:qMn ns ps ((unP ns ps).getD i ("",""))>=qMn ns ps ((unP ns ps).getD j ("","")):=hm;rw[g1,g2] at a2;exact a2
def LmR (P:Addr)(H:Hp):Prop:=LamT P 180 35 "order_of_row.<locals>.<lambda>" H
def Fj (K:W.Frag):Sp:=λvs H Q _=>∃ v ds n,vs=[v,.int n]/\Is K H (.tuple ds) v/\Q (.bl (decide ((ds.length:Int)=n))) H
def Ev (K:W.Frag):Sp:=λvs H Q _=>∃ r x y ns ps as,vs=[.ref r,.str x,.str y]/\TabR H r ns as (Way ps)/\ns.Nodup/\x∈ns/\y∈ns/\x≠y/\unB ps x y=true/\Q (.bl true) H
def Gp (P:Addr)(K:W.Frag):Sp:=λvs H Q _=>∃ r ns ps as row,vs=[.ref r]/\TabR H r ns as (Way ps)/\HalfW ns ps/\ns.length<=10/\ext (Aa ps) ns.length ns=[row]/\LmR P H/\∀ v H',ExtBut P H H'->LmR P H'->Is K H' (nmD row) v->Q v H'
def G4 (K:W.Frag):Sp:=λvs H Q _=>∃ r x y ns ps as,vs=[.ref r,.str x,.str y]/\TabR H r ns as (Way ps)/\HalfW ns ps/\x∈ns/\y∈ns/\∀ r' q H',H r'=none->(∀ a∈q,H a=none)->Keep [r] H H'->Tab H' r' ns q (Way (ps++[(x,y)]))->Q (.ref r') H'
structure TabP (H:Hp)(r:Addr)(ns:List Str)(i:Nat)(as:List Addr)(R:Str->Str->Prop):Prop where
 len:as.length=i
 nd:as.Nodup
 nr:r∉as
 top:H r=some (.dK (Ge (ns.take i) as))
 row:∀(j:Nat) (z:Str) (a:Addr),ns[j]? = some z->as[j]? = some a->∃ ks:List Str,H a=some (.dK (Gz ks))/\ks.Nodup/\(∀ y∈ks,y∈ns)/\∀ y,y∈ks↔R z y
theorem TabP.done {H:Hp}{r:Addr}{ns:List Str}{as:List Addr}{R:Str->Str->Prop}(h:TabP H r ns ns.length as R):Tab H r ns as R:=⟨h.len,h.nd,h.nr,by have:=h.top;rwa[A0U] at this,h.row⟩
theorem TabP.snoc {H:Hp}{f b:Addr}{ns ks:List Str}{i:Nat}{as:List Addr}{z:Str}{R:Str->Str->Prop}(hl:as.length=i)(nd:as.Nodup)(nr:f∉as)(hb:b∉as)(U:b≠f)(hz:ns[i]? = some z)(top:H f=some (.dK (Ge (ns.take (i+1)) (as++[b]))))
  (row:∀(j:Nat) (z:Str) (a:Addr),ns[j]? = some z->as[j]? = some a->∃ ks:List Str,H a=some (.dK (Gz ks))/\ks.Nodup/\(∀ y∈ks,y∈ns)/\∀ y,y∈ks↔R z y)
  (h1:H b=some (.dK (Gz ks))) (h2:ks.Nodup) (J:∀ y∈ks,y∈ns) (O:∀ y,y∈ks↔R z y):TabP H f ns (i+1) (as++[b]) R:=by
 refine⟨by rw[A07,hl];rfl,?_,?_,top,λj z' a F ha=>?_⟩
 . rw[A1E];exact⟨nd,by simp,λu hu v hv e=>hb (by rw[List.mem_singleton.mp hv] at e;exact e ▸ hu)⟩
 . intro q;rcases A0C.mp q with q|q
   . exact nr q
   exact U (A0P.mp q).symm
 rcases Nat.lt_or_ge j as.length with q|q
 . rw[A1S q] at ha;exact row j z' a F ha
 rw[A33 q] at ha
 have Y:j-as.length=0:=by have:=(A00.mp ha).1;simp only[List.length_singleton] at this;omega
 rw[Y] at ha;have:b=a:=by simpa using ha
 subst this;have Z:j=i:=by omega
 subst Z;rw[hz] at F
 cases F;exact⟨ks,h1,h2,J,O⟩
def J0 (K:W.Frag):Sp:=λvs H Q _=>∃ r ns ps as row,vs=[.ref r]/\TabR H r ns as (Way ps)/\HalfW ns ps/\ext (Aa ps) ns.length ns=[row]/\∀ H',Keep [r] H H'->Q (.bl true) H'
theorem aa3 {ns ks:List Str}{ps:List (Str×Str)}{z:Str}(hn:ns.Nodup)(h2:ks.Nodup)(F:∀ y∈ks,y∈ns)(q:∀ y,y∈ks↔Way ps z y):ks.length=szW ns ps z:=by refine Lw h2 (hn.sublist A1U) λy=>?_;rw[A0L,wayB_iff];exact⟨λh=>⟨F y h,(q y).mp h⟩,λh=>(q y).mpr h.2⟩
theorem Y0 {α:Type}(f:α->Nat):∀ l:List α,(l.map λx=>((f x:Nat):Int)).sum=(((l.map f).sum:Nat):Int)
 | []=>rfl
 |a :: l=>by rw[A0H,A1H,Y0 f l,A0H,A1H,Int.natCast_add]
theorem ai2:∀ {ns:List Str} {as:List Addr},as.length=ns.length->(Ge ns as).map (λkv=>kv.1)=ns.map λx=>(Sum.inr x:Key)
 | [],[],_=>rfl
 | [],_ :: _,h=>by simp at h
 |_ :: _,[],h=>by simp at h
 |n :: ns,a :: as,h=>by have q:=ai2 (ns:=ns) (as:=as) (by simpa using h);unfold Ge at q ⊢;rw[A59,A0H,A0H,q];rfl
theorem Lk {f:Addr}{fd:FuncData}(F:Fun K "are_two_untold" "are_two_untold" Bv f fd)(T:Ey mg)(Dq:Fnd P w K mg base 1 "are_untold" ["reach","one","other"] (G9 K)):FnOk P w K mg base CX0 2 f fd ["reach","one","other"] (Ev K):=by
 refine F.ok Lf (λvs H Q E h=>?_) (λa2 A outer s H vs Q E O h=>?_)
 . obtain⟨r,x,y,ns,ps,as,rfl,_⟩:=h;rfl
 obtain⟨r,x,y,ns,ps,as,rfl,q,hn,U,Y,a1,a0,k⟩:=h;have hu:=Bj O;have J:=Bi O;obtain⟨i,a,hi,ha⟩:=q.at U;obtain⟨j,b,Z,hb⟩:=q.at Y
 with_reducible refine⟨_,(A7 (Ao (Mb (Gh (Mf (K:=K) J) (pv 1) (pv 0) ⋯) (Mb (Gh (Mf (K:=K) J) (pv 2) (pv 0) ⋯) (Mb (Gh (Nz (K:=K) J) (pv 1) (pv 2) (Aw _)) (Vo (Aq Dq (O.mono nofun) ⋯ (A1 (pv 0) (A1 (pv 1) (A1 (pv 2) A2)))))))))),?_⟩
 symm
 refine as9 q.top (Cu hn hi ha) ⟨true,rfl,?_⟩
 symm
 refine as9 q.top (Cu hn Z hb) ⟨true,rfl,?_⟩
 symm
 rw[if_pos (by simpa using a1)]
 symm
 exact⟨r,x,y,ns,ps,as,rfl,q,hn,U,Y,by rw[a0];exact k⟩
theorem Vu {f:Addr}{fd:FuncData}(F:Fun K "is_row_of" "is_row_of" Fa f fd)(T:Ey mg):FnOk P w K mg base CX0 1 f fd ["reach"] (J0 K):=by
 refine F.ok Ud (λvs H Q E h=>?_) (λa4 A outer s H vs Q E hr h=>?_)
 . obtain⟨r,ns,ps,as,row,rfl,_⟩:=h;rfl
 obtain⟨r,ns,ps,as,row,rfl,J,hW,he,k⟩:=h;have hu:=Bj hr;have hq:=Bi hr;have a5:=hW.few;have hn:=hW.nd;have a2:(Ge ns as).length=ns.length:=by unfold Ge;rw[List.length_map,List.length_zip,J.len,Nat.min_self]
 with_reducible refine⟨_,(A7 (Ao (Gh (Ck (K:=K) hq) (Ap Dh A5 (Am (Oq (K:=K) ⋯) ⋯ T.b_sum PyProof.Rows.Boot.«sum» (A1 (C2 ["name"] ["reach"] [0] ⋯ ⋯ ⋯ (Ar (K:=K) hu (pv 0)) (λ_ _ _ _=>(Ag (i:=0) (by with_unfolding_all (show(["name","reach"]:List Str).Nodup;decide +kernel)) ⋯ (by eq_refl))) (Bf nofun) (λ_ _ _ _=>El) (λ_ _ _ _=>(Am Oe ⋯ T.b_len PyProof.Rows.Boot.«len» (A1 (Ad (A6 (K:=K) hu) (pv 1) (pv 0) (by ac_rfl)) A2)))) A2))) (Ap Dh (Am Oe ⋯ T.b_len PyProof.Rows.Boot.«len» (A1 (pv 0) A2)) (Ap K0 (Am Oe ⋯ T.b_len PyProof.Rows.Boot.«len» (A1 (pv 0) A2)) A5)) (Aw _)))),?_⟩
 symm
 refine Ra (as:=[r]) J.top (A0P.mpr rfl) λo H1 k1 h1=>?_;refine Ik Lb (λq i acc H2=>Same H1 H2/\acc=(ns.take i).map λx=>V.int ((szW ns ps x:Nat):Int)) (λq H' a0 e h=>⟨e,rfl⟩) (λq i acc H2 U=>U.1 _ _ h1) (λq i x acc H2 a0 hx hi hl Z U=>?_) (λq acc H2 a0 Z hl U=>?_)
 . obtain⟨Y,rfl⟩:=U;rw[Ld J.len,A06] at hx;obtain⟨z,hz,rfl⟩:=A29.mp hx;have O:=(J.keep k1).same Y;obtain⟨j,a,hj,ha⟩:=O.at (A03 hz);obtain⟨ks,g1,g2,g3,g4⟩:=O.row j z a hj ha
   symm
   refine Mc O hn hj ha ?_
   symm
   refine a52 g1 ?_;rw[K8,aa3 hn g2 g3 g4];refine Lc (by rw[A01];omega) hi hl Z λH3 e3 h3=>⟨?_,?_⟩
   . walk_at "sm"
   rw[A0S,hz];simp
 obtain⟨Y,rfl⟩:=U;rw[Ld J.len,A01,A0U] at Z;have O:=(J.keep k1).same Y
 symm
 refine aB5 (ns:=ns.map λx=>((szW ns ps x:Nat):Int)) (.inl (SqL.of (by rw[Z,A1A];rfl))) (λn a1=>?_) (by rw[A01];omega) ?_
 . obtain⟨x,hx,rfl⟩:=A0E.mp a1;have:szW ns ps x<=ns.length:=A0T _ _;omega
 symm
 refine a52 O.top ?_
 symm
 refine a52 O.top ?_;rw[a2]
 symm
 have a3:(2*(ns.map λx=>((szW ns ps x:Nat):Int)).sum:Int)=(ns.length:Int)*((ns.length:Int)-1):=by
  have h1:=av0 hW he;rw[Y0]
  cases hl0:ns.length with
  |zero=>
    rw[hl0] at h1;have:(ns.map (szW ns ps)).sum=0:=by omega
    rw[this];rfl
  |succ n=>
    rw[hl0,A4B] at h1;have h2:((2*(ns.map (szW ns ps)).sum:Nat):Int)=(((n+1)*n:Nat):Int):=by rw[h1]
    push_cast at h2 ⊢
    rw[h2,Int.add_sub_cancel]
 rw[a3,A0Y rfl];exact k H2 (k1.trans (Y.keep _))
theorem a59 {P a:Addr}{H H':Hp}{ps:Array Value}{kvs:List (Key×V)}(e:ExtBut P H H')(h:H P=some (.tbl ps))(r:Rd H a (.dK kvs)):Rd H' a (.dK kvs):=by
 rcases r with r|⟨o,r⟩
 . exact .inl (e _ _ (ne_of r h (by intro z;cases z)) r)
 exact .inr ⟨o,e _ _ (ne_of r h (by intro z;cases z)) r⟩
theorem TabR.tbl {P r:Addr}{H H':Hp}{tps:Array Value}{ns:List Str}{as:List Addr}{R:Str->Str->Prop}(e:ExtBut P H H')(h:H P=some (.tbl tps))(t:TabR H r ns as R):TabR H' r ns as R:=
 ⟨t.len,a59 e h t.top,λi z a hz ha=>let ⟨ks,h1,h2⟩:=t.row i z a hz ha;⟨ks,a59 e h h1,h2⟩⟩
theorem Pb {f:Addr}{fd:FuncData}(F:Fun K "order_of_row" "order_of_row" Ce f fd)(T:Ey mg){Y:Addr}{Z:Addr}(O:aQ8 K mg base Z Y)(a3:fd.code = .ref Z):FnOk P w K mg base CX0 1 f fd ["reach"] (Gp Y K):=by
 refine Fun.okC F a3 Ow (λvs H Q E h=>?_) (λA outer s H vs Q E J h=>?_)
 . obtain⟨r,ns,ps,as,row,rfl,_⟩:=h;rfl
 obtain⟨r,ns,ps,as,row,rfl,hT,hW,a6,he,hL,k⟩:=h;have hu:=Bj J;have hq:=Bi J;have hn:=hW.nd
 with_reducible refine⟨_,(A7 (Ao (B0 (Cq (K:=K)) ⋯ T.b_tuple PyProof.Rows.Boot.«tuple» (A1 (Z8 (i:=0) ⟨⋯,O.hd,O.bi,O.gP⟩ ⋯ J.depth ⋯ T.b_sorted T.b_len ⋯ ⋯ (A1 (pv 0) A2)) A2)))),?_⟩
 symm
 refine at0 rfl ?_
 symm
 refine⟨rfl,hL,λH2 e2 a2=>?_⟩;obtain⟨tps,a5⟩:=Hb hL;have q:=TabR.tbl e2 a5 hT;refine⟨Ge ns as,ns,szW ns ps,q.top,?_,by omega,λx hx=>?_,λp ms hp a4 ho=>?_⟩
 . exact ai2 q.len
 . obtain⟨j,a,hj,ha⟩:=q.at hx;obtain⟨ks,g1,g2,g3,g4⟩:=q.row j x a hj ha;exact⟨a,Gz ks,Cu hn hj ha,g1,by rw[K8,aa3 hn g2 g3 g4]⟩
 have:=Z1 hW he a4 ho;subst this
 symm
 refine ad2 (ns:=ms) Ae (Ov ms) λv U e3 a1=>?_;have a0:Same H2 U:=(Same.upd hp).trans e3;exact k v U (ExtBut.same e2 a0) (a2.same a0) a1
theorem Rz {f:Addr}{fd:FuncData}(F:Fun K "reach_said" "reach_said" Dv f fd)(T:Ey mg):FnOk P w K mg base CX0 1 f fd ["reach","one","other"] (G4 K):=by
 refine F.ok G7 (λvs H Q E h=>?_) (λb4 A outer s H vs Q E hr h=>?_)
 . obtain⟨r,x,y,ns,ps,as,rfl,_⟩:=h;rfl
 obtain⟨r,x,y,ns,ps,as,rfl,hT,hW,hx,hy,k⟩:=h;have hu:=Bj hr;have hq:=Bi hr;have hn:=hW.nd;have b5:=hW.few;obtain⟨jy,ay,aP,aL⟩:=hT.at hy;obtain⟨ky,y1,y2,y3,y4⟩:=hT.row jy y ay aP aL;have b8:ky.length<=ns.length:=By y2 y3
 with_reducible refine⟨_,(A3 (A9 (i:=3) G7.nd ⋯ (by eq_refl) (B0 Qu ⋯ T.b_dict PyProof.Rows.Boot.«dict» (A1 (Ad (A6 (K:=K) hu) (pv 0) (pv 2) (by ac_rfl)) A2)))
  (A3 (Ff hu (pv 3) (pv 2) af1 ⋯)
  (A3 (A9 (i:=4) G7.nd ⋯ (by eq_refl) My)
  (A3 (C5 A0X ⋯ (Ar (K:=K) hu (pv 0)) (Ag (i:=5) G7.nd ⋯ (by eq_refl))
  (A3 (Ff hu (pv 4) (pv 5) (B0 Qu ⋯ T.b_dict PyProof.Rows.Boot.«dict» (A1 (Ad (A6 (K:=K) hu) (pv 0) (pv 5) (by ac_rfl)) A2)) ⋯)
  (A7 (Co (PW.pt (Wj (Aj (Ck (K:=K) hq) (pv 5) (pv 1) (Aw _)) (Qt (Aj (Mf (K:=K) hq) (pv 1) (Ad (A6 (K:=K) hu) (pv 0) (pv 5) (by ac_rfl)) ⋯)))) (A7 (Et (Hj (K:=K) A2Q PySem.F.slot_dict_update PySem.F.type_dict_update (mm Qm) (Ad (A6 (K:=K) hu) (pv 4) (pv 5) (by ac_rfl)) (A1 (pv 3) A2)))) Ay))))
  (A7 (Ao (pv 4))))))),?_⟩
 symm
 refine Mc hT hn aP aL ?_
 symm
 refine af3 y1 λm H1 a8 e1 h1=>?_
 symm
 refine Iw h1 (by rw[K8];omega) λH2 e2 h2=>?_;rw[Ws] at h2
 symm
 refine Yh λf H3 aO e3 h3=>?_
 symm
 have aQ:Same H H2:=by walk_at "sm"
 have aR:Same H H3:=aQ.trans e3;have aZ:m≠f:=ne_of_none h2 aO;have aV:=e3 _ _ h2;have a1:H f=none:=aQ.free aO;refine Ra (as:=[r]) (aR.rd hT.top) (A0P.mpr rfl) λo H4 k4 h4=>?_
 have b1:m∉[r]:=λz=>by
  rw[A0P.mp z] at a8;rcases hT.top with q|⟨o',q⟩
  . rw[q] at a8;cases a8
  rw[q] at a8;cases a8
 have aH:f∉[r]:=λz=>by
  rw[A0P.mp z] at a1;rcases hT.top with q|⟨o',q⟩
  . rw[q] at a1;cases a1
  rw[q] at a1;cases a1
 refine Ej Lb (λi σ H'=>∃ x5 O,σ=[some (.ref r),some (.str x),some (.str y),some (.ref m),some (.ref f),x5]/\Keep [r] H H'/\H' r=some (.frz o (.dK (Ge ns as)))/\H' m=some (.dK (Gz (ag5 ky y)))/\TabP H' f ns i O (Way (ps++[(x,y)]))/\∀ a∈O,H a=none/\a≠m)
  ⟨_,[],rfl,(aR.keep _).trans k4,h4,k4.1 _ _ b1 aV,⟨rfl,.nil,by simp,k4.1 _ _ aH h3,λj z a _ ha=>(by cases ha)⟩,λa ha=>(by cases ha)⟩ (λi σ' H' hP=>?_) (λi w σ' H5 hw hi hP=>?_) (fun σ' H5 hP=>?_)
 . obtain⟨x5,O,_,_,h5,_⟩:=hP;exact h5
 . obtain⟨x5,O,rfl,k5,a0,aB,J,aE⟩:=hP;rw[Ld hT.len,A06] at hw;obtain⟨z,hz,rfl⟩:=A29.mp hw;have aD:=hT.keep k5;obtain⟨jz,az,aA,a9⟩:=aD.at (A03 hz);obtain⟨kz,z1,z2,z3,z4⟩:=aD.row jz z az aA a9;have b9:kz.length<=ns.length:=By z2 z3;have b6:i<ns.length:=(A00.mp hz).1
   have b0:z∉ns.take i:=λq=>by obtain⟨j,hj,e⟩:=A1N q;rw[List.getElem_take] at e;rw[A10] at hj;obtain⟨g1,g2⟩:=A00.mp hz;have:=(A1G hn).mp (e.trans g2.symm);omega
   symm
   refine Mc aD hn aA a9 ?_
   symm
   refine af3 z1 λb H6 Y e6 h6=>?_
   symm
   have b2:(ns.take i).length=O.length:=by rw[A10,J.len];omega
   have b7:(Ge (ns.take i) O).length<=100:=by unfold Ge;rw[List.length_map,List.length_zip,List.length_take,J.len];omega
   have aW:=e6 _ _ J.top;refine Iw aW ∅ λH7 e7 h7=>?_;have ht:ns.take (i+1)=ns.take i++[z]:=by rw[A0S,hz];rfl
   rw[Jl _ (G8 b0),<- Mu b2,<- ht] at h7;have a3:b≠f:=Ne.symm (ne_of_none J.top Y);have a7:b≠m:=Ne.symm (ne_of_none aB Y)
   have aM:H b=none:=by
    cases q:H b with
    |none=>rfl
    |some ob=>
      by_cases aN:b∈[r]
      . rw[A0P.mp aN,a0] at Y;cases Y
      rw[k5.1 _ _ aN q] at Y;cases Y
   have a6:b∉O:=λq=>by
    obtain⟨j,hj,e⟩:=A1N q;have aY:j<ns.length:=by have:=J.len;omega
    obtain⟨_,g,_⟩:=J.row j ns[j] b (A04 aY) (by rw[A04 hj,e]);rw[Y] at g;cases g
   have k7:Keep [r] H H7:=⟨λc oc Z q=>e7 _ _ (λq'=>by rw[q',a1] at q;cases q) (e6 _ _ (k5.1 c oc Z q)),λc Z u q=>by
    have aX:=A0P.mp Z;subst aX;have e':H7 c=H5 c:=by rw[a0];exact e7 _ _ (λq=>aH (by rw[q];exact A0P.mpr rfl)) (e6 _ _ a0)
    rcases k5.2 c Z u q with q|⟨o',q⟩
    . exact .inl (e'.trans q)
    exact .inr ⟨o',e'.trans q⟩⟩
   have aC:H7 r=some (.frz o (.dK (Ge ns as))):=e7 _ _ (λq=>aH (by rw[q];exact A0P.mpr rfl)) (e6 _ _ a0);have a5:H7 m=some (.dK (Gz (ag5 ky y))):=e7 _ _ aZ (e6 _ _ aB);have a4:H7 b=some (.dK (Gz kz)):=e7 _ _ a3 h6
   have aI:∀(j:Nat) (z':Str) (a:Addr),ns[j]? = some z'->O[j]? = some a->∃ ks:List Str,H7 a=some (.dK (Gz ks))/\ks.Nodup/\(∀ y∈ks,y∈ns)/\∀ w,w∈ks↔Way (ps++[(x,y)]) z' w:=λj z' a hj ha=>by obtain⟨ks,g1,g2⟩:=J.row j z' a hj ha;exact⟨ks,e7 _ _ (λq=>J.nr (q ▸ A03 ha)) (e6 _ _ g1),g2⟩
   have aK:=hT.keep k7;obtain⟨bA,b3,bB,bC,aU⟩:=aK.row jz z az aA a9;have aS:Cj (Ge (ns.take (i+1)) (O++[b])) (Sum.inr z:Key)=some (.ref b):=Cu (i:=i) (hn.sublist (List.take_sublist ..)) (by rw[List.getElem?_take_of_lt (Nat.lt_succ_self i)];exact hz) (by rw[List.getElem?_append_right (by rw[J.len];exact Nat.le_refl _),J.len];simp)
   have aG:∀ a∈O++[b],H a=none/\a≠m:=λa ha=>by
    rcases A0C.mp ha with ha|ha
    . exact aE a ha
    rw[A0P.mp ha];exact⟨aM,a7⟩
   have aJ:∀ H8,ExtBut b H7 H8->Keep [r] H H8:=λH8 U=>k7.lst U aM λq=>by rw[A0P.mp q,a0] at Y;cases Y
   have aT:(z=x\/Way ps z x)->∀ w,w∈Mi kz (ag5 ky y)↔Way (ps++[(x,y)]) z w:=λZ w=>by
    rw[mem_addAll,mem_addK,z4,y4,way_said];constructor
    . rintro(h|h|h)
      . exact .inl h
      . exact .inr ⟨Z,.inr h⟩
      exact .inr ⟨Z,.inl h.symm⟩
    rintro(h|⟨_,h|h⟩)
    . exact .inl h
    . exact .inr (.inr h.symm)
    exact .inr (.inl h)
   symm
   refine Km (λZ=>?_) (λZ=>?_)
   . rw[A0Z rfl]
     symm
     refine i_ixD h7 aS ?_;refine ag6 a4 ?_
     symm
     refine af9 a4 a5 a7 (by have:=By (Jo (y:=y) y2) (λw a2=>(mem_addK.mp a2).elim (y3 w) λq=>q ▸ hy);omega) λH8 U h8=>?_
     symm
     exact⟨_,O++[b],rfl,aJ H8 U,U _ _ (λq=>by rw[<- q,a0] at Y;cases Y) aC,U _ _ a7.symm a5,TabP.snoc J.len J.nd J.nr a6 a3 hz (U _ _ a3.symm h7) (λj z' a hj ha=>let ⟨ks,g1,g2⟩:=aI j z' a hj ha;⟨ks,U _ _ (λq=>a6 (q ▸ A03 ha)) g1,g2⟩) h8 (Gw z2) (λw a2=>(mem_addAll.mp a2).elim (z3 w) λq=>(mem_addK.mp q).elim (y3 w) λq=>q ▸ hy) (λw=>aT (.inl (V.str.inj Z)) w),aG⟩
   symm
   refine Mc aK hn aA a9 ?_
   symm
   refine Xa b3 ?_
   symm
   refine Km (λaF=>?_) (λaF=>?_)
   . symm
     refine i_ixD h7 aS ?_;refine ag6 a4 ?_
     symm
     refine af9 a4 a5 a7 (by have:=By (Jo (y:=y) y2) (λw a2=>(mem_addK.mp a2).elim (y3 w) λq=>q ▸ hy);omega) λH8 U h8=>?_
     symm
     exact⟨_,O++[b],rfl,aJ H8 U,U _ _ (λq=>by rw[<- q,a0] at Y;cases Y) aC,U _ _ a7.symm a5,TabP.snoc J.len J.nd J.nr a6 a3 hz (U _ _ a3.symm h7) (λj z' a hj ha=>let ⟨ks,g1,g2⟩:=aI j z' a hj ha;⟨ks,U _ _ (λq=>a6 (q ▸ A03 ha)) g1,g2⟩) h8 (Gw z2) (λw a2=>(mem_addAll.mp a2).elim (z3 w) λq=>(mem_addK.mp q).elim (y3 w) λq=>q ▸ hy) (λw=>aT (.inr ((aU x).mp aF)) w),aG⟩
   symm
   refine⟨_,O++[b],rfl,k7,aC,a5,TabP.snoc J.len J.nd J.nr a6 a3 hz h7 aI a4 z2 z3 (λw=>?_),aG⟩;rw[z4,way_said];refine⟨.inl,λh=>h.elim (λq=>q) λq=>absurd q.1 ?_⟩;rintro(q|q)
   . exact Z (by rw[q])
   exact aF ((aU x).mpr q)
 obtain⟨x5,O,rfl,k5,a0,aB,J,aE⟩:=hP;rw[A01] at J;have hl:(Ge ns as).length=ns.length:=by unfold Ge;rw[List.length_map,List.length_zip,hT.len,Nat.min_self]
 rw[hl] at J
 symm
 exact k f O H5 a1 (λa ha=>(aE a ha).1) k5 J.done
theorem Pt {f:Addr}{fd:FuncData}(F:Fun K "is_tuple_of" "is_tuple_of" Cv f fd)(T:Ey mg):FnOk P w K mg base CX0 1 f fd ["thing","size"] (Fj K):=by
 refine F.ok Pp (λvs H Q E h=>?_) (λY A outer s H vs Q E O h=>?_)
 . obtain⟨v,D,n,rfl,_⟩:=h;rfl
 obtain⟨v,ds,n,rfl,J,k⟩:=h;have hu:=Bj O;have U:=Bi O;obtain⟨a,xs,rfl,h1,h2⟩:=Is.tup J
 with_reducible refine⟨_,(A7 (Ao (Mb (Am (Fn (K:=K)) ⋯ T.b_isinstance PyProof.Rows.Boot.«isinstance» (A1 (pv 0) (A1 (Nv (v:=.ty "tuple") ⋯ T.b_tuple PyProof.Rows.Boot.«tuple» ⋯) A2))) (Vo (Gh (Ck (K:=K) U) (Am (Bp (K:=K)) ⋯ T.b_len PyProof.Rows.Boot.«len» (A1 (pv 0) A2)) (pv 1) (Aw _)))))),?_⟩
 symm
 refine aa6 h1 (b:=true) (by first | rfl | kernel_rfl) ⟨true,rfl,?_⟩
 rw[A0Z rfl]
 symm
 refine a75 J ?_
 symm
 have e:decide (V.int (ds.length:Int)=V.int n)=decide ((ds.length:Int)=n):=by
  by_cases z:(ds.length:Int)=n
  . rw[z];simp
  rw[A0N z,A0N λq=>z (V.int.inj q)]
 rw[e];exact k
def aF4 (row:List Str):PyData:=.tuple [.str "end",nmD row]
def aR4 (x y:Str)(D E:PyData):PyData:=.tuple [.str "ask",.str x,.str y,D,E]
theorem Jm {ns:List Str}{ps:List (Str×Str)}{D:PyData}{m:Nat}(p:PlanP ns ps D m):frz D=true:=by
 induction p with
 |@fin ps row e=>simp[frz,Mm,M4]
 |ask _ _ _ _ _ _ i1 i2=>simp[frz,Mm,i1,i2]
theorem a49 {K:W.Frag}{H:Hp}{row:List Str}{v:V}(h:Is K H (aF4 row) v):∃ a q,v = .ref a/\SqT K H a [.str "end",q]/\Is K H (nmD row) q:=by
 obtain⟨a,xs,rfl,h1,h2⟩:=Is.tup h;obtain⟨U,O,rfl,i1,h2⟩:=Bc h2;obtain⟨J,F,rfl,i2,h2⟩:=Bc h2;have e:F=[]:=by simpa only[L2.IsL] using h2
 subst e;have:=Is.str i1;subst this;exact⟨a,J,rfl,h1,i2⟩
theorem Uv {K:W.Frag}{H:Hp}{x y:Str}{D E:PyData}{v:V}(h:Is K H (aR4 x y D E) v):∃ a d e,v = .ref a/\SqT K H a [.str "ask",.str x,.str y,d,e]/\Is K H D d/\Is K H E e:=by
 obtain⟨a,xs,rfl,h1,h2⟩:=Is.tup h;obtain⟨v1,r1,rfl,i1,h2⟩:=Bc h2;obtain⟨v2,r2,rfl,i2,h2⟩:=Bc h2;obtain⟨v3,r3,rfl,O,h2⟩:=Bc h2;obtain⟨v4,r4,rfl,U,h2⟩:=Bc h2;obtain⟨v5,Z,rfl,Y,h2⟩:=Bc h2;have e:Z=[]:=by simpa only[L2.IsL] using h2
 subst e;have q:=Is.str i1;have F:=Is.str i2;have J:=Is.str O;subst q;subst F;subst J;exact⟨a,v4,v5,rfl,h1,U,Y⟩
theorem aB0 {t:TT}{ta tb:TE}{σ:L2.St}{H:Hp}{Q:VK}(k:t σ H λc H1=>if c=true then ta σ H1 Q else tb σ H1 Q):tIf t ta tb σ H Q:=k
theorem ai9 {r b:Addr}{H:Hp}{kvs:List (Key×V)}{o:HO}(F:Rd H r (.dK kvs))(h:H b=some o)(h1:∀ kvs,o ≠ .dK kvs)(h2:∀ o' u,o ≠ .frz o' u):b≠r:=λz=>by
 subst z;rcases F with q|⟨o',q⟩
 . rw[h] at q;exact h1 _ (A15 q)
 rw[h] at q;exact h2 _ _ (A15 q)
theorem Rh {P r:Addr}{H H':Hp}{kvs:List (Key×V)}(h:LmR P H)(k:Keep [r] H H')(q:Rd H r (.dK kvs)):LmR P H':=by
 rcases h with h|⟨c,h,F⟩
 . exact .inl (k.1 _ _ (λz=>ai9 q h (λ_ z=>by cases z) (λ_ _ z=>by cases z) (A0P.mp z)) h)
 exact .inr ⟨c,k.1 _ _ (λz=>ai9 q h (λ_ z=>by cases z) (λ_ _ z=>by cases z) (List.mem_singleton.mp z)) h,k.1 _ _ (λz=>ai9 q F (λ_ z=>by unfold Nx at z;cases z) (λ_ _ z=>by unfold Nx at z;cases z) (List.mem_singleton.mp z)) F⟩
def J1 (K:W.Frag):Sp:=λvs H Q _=>∃ v D,vs=[v]/\Is K H D v/\((∃ row,D=aF4 row/\Q (.bl false) H)\/∃ x y q D2,D=aR4 x y q D2/\Q (.bl true) H)
def Od (K:W.Frag):Sp:=λvs H Q _=>∃ v row,vs=[v]/\Is K H (aF4 row) v/\Q (.bl true) H
structure Kp (P r:Addr)(H H':Hp):Prop where
 all:∀ b o,b≠P->b≠r->H b=some o->H' b=some o
 rd:∀ kvs,Rd H r (.dK kvs)->Rd H' r (.dK kvs)
section
variable {P r r':Addr}{H H1 H2:Hp}{kvs:List (Key×V)}{tps:Array Value}
theorem Kp.of_keep (k:Keep [r] H H1):Kp P r H H1:=⟨λb o _ hb h=>k.1 b o (λz=>hb (A0P.mp z)) h,λkvs h=>k.rd h⟩
theorem Kp.trans (a:Kp P r H H1)(b:Kp P r H1 H2):Kp P r H H2:=⟨λc o h1 h2 h=>b.all c o h1 h2 (a.all c o h1 h2 h),λkvs h=>b.rd kvs (a.rd kvs h)⟩
theorem Kp.same (a:Kp P r H H1)(e:Same H1 H2):Kp P r H H2:=⟨λc o h1 h2 h=>e c o (a.all c o h1 h2 h),λkvs h=>e.rd (a.rd kvs h)⟩
theorem Kp.rdA (a:Kp P r H H1)(q:H P=some (.tbl tps)){b:Addr}(h:Rd H b (.dK kvs)):Rd H1 b (.dK kvs):=by
 by_cases hb:b=r
 . subst hb;exact a.rd _ h
 rcases h with h|⟨o,h⟩
 . exact .inl (a.all _ _ (ne_of h q (by intro z;cases z)) hb h)
 exact .inr ⟨o,a.all _ _ (ne_of h q (by intro z;cases z)) hb h⟩
theorem Kp.tab (a:Kp P r H H1)(F:H P=some (.tbl tps)){q:Addr}{ns:List Str}{as:List Addr}{R:Str->Str->Prop}(t:TabR H q ns as R):TabR H1 q ns as R:=
 ⟨t.len,a.rdA F t.top,λi z b hz hb=>let ⟨ks,h1,h2⟩:=t.row i z b hz hb;⟨ks,a.rdA F h1,h2⟩⟩
theorem Kp.fz (a:Kp P r H H1)(F:H P=some (.tbl tps))(J:Rd H r (.dK kvs)):Fz H H1:=λb xs h=>by
 rcases h with h|⟨o,h⟩
 . exact .inl (a.all _ _ (ne_of h F (by intro z;cases z)) (ai9 J h (λ_ z=>by cases z) (λ_ _ z=>by cases z)) h)
 refine .inr ⟨o,a.all _ _ (ne_of h F (by intro z;cases z)) (λz=>?_) h⟩;subst z;rcases J with q|⟨o',q⟩
 . rw[h] at q;cases q
 rw[h] at q;cases q
theorem Kp.other (a:Kp P r H H1)(b:Kp P r' H1 H2)(hn:H r'=none)(F:H P=some (.tbl tps))(J:Rd H r (.dK kvs)):Kp P r H H2:=by
 refine⟨λc o h1 h2 h=>b.all c o h1 (λz=>by rw[z,hn] at h;cases h) (a.all c o h1 h2 h),λkvs' h=>?_⟩
 have h1:r≠P:=λz=>by
  subst z;rcases J with q|⟨o',q⟩
  . rw[F] at q;cases q
  rw[F] at q;cases q
 have h2:r≠r':=λz=>by
  subst z;rcases J with q|⟨o',q⟩
  . rw[hn] at q;cases q
  rw[hn] at q;cases q
 rcases a.rd kvs' h with q|⟨o,q⟩
 . exact .inl (b.all _ _ h1 h2 q)
 exact .inr ⟨o,b.all _ _ h1 h2 q⟩
theorem Kp.free (a:Kp P r H H1)(Y:H P=some (.tbl tps))(U:Rd H r (.dK kvs))(F:∃ tps,H1 P=some (.tbl tps)){b:Addr}(h:H1 b=none):H b=none:=by
 cases q:H b with
 |none=>rfl
 |some o=>
   have J:b≠P:=λz=>by obtain⟨t,e⟩:=F;rw[z,e] at h;cases h
   have O:b≠r:=λz=>by
    subst z;rcases a.rd _ U with e|⟨o',e⟩
    . rw[h] at e;cases e
    rw[h] at e;cases e
   rw[a.all _ _ J O q] at h
   cases h
end
def Io (P:Addr)(K:W.Frag):Sp:=λvs H Q _=>∃ r v ns ps as D m,vs=[.ref r,v]/\TabR H r ns as (Way ps)/\HalfW ns ps/\(∀ z∈ns,M8 z=true)/\ns.length<=10/\PlanP ns ps D m/\Is K H D v/\LmR P H/\∀ H',Kp P r H H'->LmR P H'->Q .non H'
def Ft (P:Addr)(K:W.Frag)(n:Nat):Sp:=λvs H Q _=>∃ r v t xs ns ps as D m,vs=[.ref r,v,.ref t]/\TabR H r ns as (Way ps)/\HalfW ns ps/\(∀ z∈ns,M8 z=true)/\ns.length<=10/\PlanP ns ps D m/\Is K H D v/\SqT K H t xs/\m<n/\n<=125/\ps.length+m<=900/\xs.length+m<=900/\LmR P H/\∀ H',Kp P r H H'->LmR P H'->Q (.int m) H'
def Ke (P:Addr)(K:W.Frag):Sp:=Ft P K 125
theorem Lg {P:Addr}{K:W.Frag}:∀ vs H Q E,¬ Ft P K 0 vs H Q E:=by rintro vs H Q E ⟨r,v,t,xs,ns,ps,as,D,m,_,_,_,_,_,_,_,_,h,_⟩;omega
def Jb (P:Addr)(K:W.Frag):Sp:=λvs H Q _=>∃ q v ns ps D m,vs=[q,v]/\Is K H (hfD ns ps) q/\HalfW ns ps/\(∀ z∈ns,M8 z=true)/\ns.length<=10/\PlanP ns ps D m/\Is K H D v/\m<125/\ps.length+m<=900/\LmR P H/\∀ H',ExtBut P H H'->LmR P H'->Q (.int m) H'
theorem Vd {f:Addr}{fd:FuncData}(F:Fun K "is_asking" "is_asking" Ek f fd)(T:Ey mg)(Cs:Fnd P w K mg base 1 "is_tuple_of" ["thing","size"] (Fj K)):FnOk P w K mg base CX0 2 f fd ["thing"] (J1 K):=by
 refine F.ok Vr (λvs H Q E h=>?_) (λa0 A outer s H vs Q E O h=>?_)
 . obtain⟨v,D,rfl,_⟩:=h;rfl
 obtain⟨v,D,rfl,q,U⟩:=h;have hu:=Bj O;have Y:=Bi O
 with_reducible refine⟨_,(A3 (Co (PW.pt (Wj (Ug (Mj (Aq Cs (O.mono nofun) ⋯ (A1 (pv 0) (A1 A5 A2))))) (Qt (Aj (Nz (K:=K) Y) (Ad (A6 (K:=K) hu) (pv 0) A5 (by ac_rfl)) B3 (Aw _))))) (A7 (Ao af1)) Ay)
  (A7 (Ao (Mb (Am (Fn (K:=K)) ⋯ T.b_isinstance PyProof.Rows.Boot.«isinstance» (A1 (Ad (A6 (K:=K) hu) (pv 0) A5 (by ac_rfl)) (A1 (Nv (v:=.ty "str") ⋯ T.b_str PyProof.Rows.Boot.«str» ⋯) A2))) (Vo (Am (Fn (K:=K)) ⋯ T.b_isinstance PyProof.Rows.Boot.«isinstance» (A1 (Ad (A6 (K:=K) hu) (pv 0) A5 (by ac_rfl)) (A1 (Nv (v:=.ty "str") ⋯ T.b_str PyProof.Rows.Boot.«str» ⋯) A2)))))))),?_⟩
 rcases U with ⟨row,rfl,k⟩|⟨x,y,Z,D2,rfl,k⟩
 . symm
   refine⟨v,_,_,rfl,q,?_⟩
   symm
   rw[A0Z (by rfl),A0Z rfl]
   symm
   exact k
 symm
 refine⟨v,_,_,rfl,q,?_⟩;obtain⟨a,d,e,rfl,J,_,_⟩:=Uv q
 symm
 rw[if_neg (by simp)]
 symm
 refine Cz J (by rfl) ?_
 symm
 refine Cz J (by rfl) ?_
 symm
 refine aL6 (TyOf.str x) (b:=true) (by rfl) ⟨true,rfl,?_⟩;rw[A0Z rfl]
 symm
 refine Cz J (by rfl) ?_
 symm
 exact aL6 (TyOf.str y) (b:=true) (by rfl) k
theorem a74 {f:Addr}{fd:FuncData}(F:Fun K "is_end" "is_end" Jk f fd)(T:Ey mg)(Cs:Fnd P w K mg base 1 "is_tuple_of" ["thing","size"] (Fj K)):FnOk P w K mg base CX0 2 f fd ["thing"] (Od K):=by
 refine F.ok a08 (λvs H Q E h=>?_) (λa0 A outer s H vs Q E q h=>?_)
 . obtain⟨v,row,rfl,_⟩:=h;rfl
 obtain⟨v,row,rfl,J,k⟩:=h;have hu:=Bj q;have Z:=Bi q
 with_reducible refine⟨_,(A7 (Ao (Mb (Aq Cs (q.mono nofun) ⋯ (A1 (pv 0) (A1 A5 A2))) (Mb (Gh (Ck (K:=K) Z) (Ad (A6 (K:=K) hu) (pv 0) A5 (by ac_rfl)) B3 (Aw _)) (Vo (Am (Fn (K:=K)) ⋯ T.b_isinstance PyProof.Rows.Boot.«isinstance» (A1 (Ad (A6 (K:=K) hu) (pv 0) A5 (by ac_rfl)) (A1 (Nv (v:=.ty "tuple") ⋯ T.b_tuple PyProof.Rows.Boot.«tuple» ⋯) A2)))))))),?_⟩
 symm
 refine⟨v,_,_,rfl,J,?_⟩;obtain⟨a,rv,rfl,O,U⟩:=a49 J
 symm
 rw[if_pos (by simp)]
 symm
 refine Cz O (by rfl) ?_
 symm
 refine Cz O (by rfl) ?_
 symm
 obtain⟨b,xs,rfl,Y,_⟩:=Is.tup U;exact aa6 Y (b:=true) (by first | rfl | kernel_rfl) k
theorem Wx {f:Addr}{fd:FuncData}(F:Fun K "word_due" "word_due" Gf f fd)(T:Ey mg){Z:Addr}(Fu:Fnd P w K mg base 2 "are_two_untold" ["reach","one","other"] (Ev K))(K2:Fnd P w K mg base 1 "is_row_of" ["reach"] (J0 K))(Hh:Fnd P w K mg base 1 "order_of_row" ["reach"] (Gp Z K))(K5:Fnd P w K mg base 2 "is_asking" ["thing"] (J1 K))(Sw:Fnd P w K mg base 2 "is_end" ["thing"] (Od K)):FnOk P w K mg base CX0 3 f fd ["reach","plan"] (Io Z K):=by
 refine F.ok Wa (λvs H Q E h=>?_) (λaB A outer s H vs Q E q h=>?_)
 . obtain⟨r,v,ns,ps,as,D,m,rfl,_⟩:=h;rfl
 obtain⟨r,v,ns,ps,as,D,m,rfl,U,Y,a8,a5,hP,J,hL,k⟩:=h;have hu:=Bj q;have hq:=Bi q
 with_reducible refine⟨_,(A3 (Co (Mj (Aq K5 (q.mono nofun) ⋯ (A1 (pv 1) A2))) (A7 (Ao (Sd (Mj (Aq Fu (q.mono nofun) ⋯ (A1 (pv 0) (A1 (Ad (A6 (K:=K) hu) (pv 1) A5 (by ac_rfl)) (A1 (Ad (A6 (K:=K) hu) (pv 1) A5 (by ac_rfl)) A2))))) Qd B3))) Ay)
  (A3 (Co (Ug (Mj (Aq Sw (q.mono nofun) ⋯ (A1 (pv 1) A2)))) (A7 (Ao B3)) Ay)
  (A7 (Ao (Sd (PW.pt (Ur (Mj (Aq K2 (q.mono nofun) ⋯ (A1 (pv 0) A2))) (Oz (Aj (Ck (K:=K) hq) (Ad (A6 (K:=K) hu) (pv 1) A5 (by ac_rfl)) (Aq Hh (q.mono nofun) ⋯ (A1 (pv 0) A2)) (Aw _))))) Qd B3))))),?_⟩
 cases hP with
 |@fin _ row he=>
   symm
   refine⟨v,_,rfl,J,.inl ⟨row,rfl,?_⟩⟩
   symm
   refine⟨v,row,rfl,J,?_⟩
   symm
   obtain⟨a,rv,rfl,O,hR⟩:=a49 J;refine aB0 ?_
   symm
   refine⟨r,ns,ps,as,row,rfl,U,Y,he,λH1 k1=>?_⟩
   symm
   have a9:=k1.fz.seq O;refine Cz a9 (by rfl) ?_
   symm
   have a0:LmR Z H1:=Rh hL k1 U.top;refine⟨r,ns,ps,as,row,rfl,U.keep k1,Y,a5,he,a0,λu H2 e2 a7 a6=>?_⟩;obtain⟨tps,a3⟩:=Hb a0;have a4:=(k1.fz).trans (Xh e2 a3);have a2:=(Sl Y he).1;have aC:=a2.length_eq;have a1:∀ z∈row,M8 z=true:=λz hz=>a8 z (a2.mem_iff.mp hz);refine aA1 (hR.nm_fz a4) a6 (ai5 a1 ∅).shaped (ai5 a1 ∅).shaped ?_;rw[aP2,A0Y rfl]
   symm
   exact k H2 ⟨λb o hb aA h=>e2 _ _ hb (k1.1 b o (λz=>aA (A0P.mp z)) h),λkvs h=>a59 e2 a3 (k1.rd h)⟩ a7
 |@ask _ x y D1 D2 m1 m2 hx hy hxy hun p1 p2=>
   symm
   refine⟨v,_,rfl,J,.inr ⟨x,y,D1,D2,rfl,?_⟩⟩;obtain⟨a,d,e,rfl,O,_,_⟩:=Uv J
   symm
   refine aB0 ?_
   symm
   refine Cz O (by rfl) ?_
   symm
   refine Cz O (by rfl) ?_
   symm
   refine⟨r,x,y,ns,ps,as,rfl,U,Y.nd,hx,hy,hxy,hun,?_⟩
   symm
   exact k H ⟨λb o _ _ h=>h,λkvs h=>h⟩ hL
theorem Tj {f:Addr}{fd:FuncData}(F:Fun K "depth_on" "depth_on" Fd f fd)(T:Ey mg){q:Addr}(Dl:Fnd P w K mg base 1 "reach_said" ["reach","one","other"] (G4 K))(Hk:Fnd P w K mg base 3 "word_due" ["reach","plan"] (Io q K))(n:Nat)(Gc:Fnd P w K mg base (4+n) "depth_on" ["reach","plan","path"] (Ft q K n)):FnOk P w K mg base CX0 (4+n+1) f fd ["reach","plan","path"] (Ft q K (n+1)):=by
 refine F.ok Hy (λvs H Q E h=>?_) (λb0 A outer s H vs Q E U h=>?_)
 . obtain⟨r,v,t,xs,ns,ps,as,D,m,rfl,_⟩:=h;rfl
 obtain⟨r,v,t,xs,ns,ps,as,D,m,rfl,J,Z,a7,a3,hP,hI,hS,b4,b6,b7,bA,hL,k⟩:=h;have hu:=Bj U;have hq:=Bi U;have hD:=Jm hP
 with_reducible refine⟨_,(A3 (A9 (i:=3) Hy.nd ⋯ (by eq_refl) (Aq Hk (U.mono ∅) ⋯ (A1 (pv 0) (A1 (pv 1) A2))))
  (A3 (Co (Aj Uj (pv 3) Qd (Aw _)) (A7 La) Ay)
  (A3 (Co (Aj (Ck (K:=K) hq) (Ad (A6 (K:=K) hu) (pv 1) A5 (by ac_rfl)) B3 (Aw _)) (A7 (Ao A5)) Ay)
  (A3 (A9 (i:=4) Hy.nd ⋯ (by eq_refl) (Aq Gc (U.mono ∅) ⋯ (A1 (Aq Dl (U.mono ∅) ⋯ (A1 (pv 0) (A1 (Ad (A6 (K:=K) hu) (pv 1) A5 (by ac_rfl)) (A1 (Ad (A6 (K:=K) hu) (pv 1) A5 (by ac_rfl)) A2)))) (A1 (Ad (A6 (K:=K) hu) (pv 1) A5 (by ac_rfl)) (A1 (Ap (An (K:=K)) (pv 2) (B6 (A1 A5 A2))) A2)))))
  (A3 (A9 (i:=5) Hy.nd ⋯ (by eq_refl) (Aq Gc (U.mono ∅) ⋯ (A1 (Aq Dl (U.mono ∅) ⋯ (A1 (pv 0) (A1 (Ad (A6 (K:=K) hu) (pv 1) A5 (by ac_rfl)) (A1 (Ad (A6 (K:=K) hu) (pv 1) A5 (by ac_rfl)) A2)))) (A1 (Ad (A6 (K:=K) hu) (pv 1) A5 (by ac_rfl)) (A1 (Ap (An (K:=K)) (pv 2) (B6 (A1 A5 A2))) A2)))))
  (A7 (Ao (Ap (An (K:=K)) A5 (Am (Uk ⋯) ⋯ T.b_max PyProof.Rows.Boot.«max» (A1 (pv 4) (A1 (pv 5) A2))))))))))),?_⟩
 symm
 refine⟨r,v,ns,ps,as,D,m,rfl,J,Z,a7,a3,hP,hI,hL,λH1 k1 a6=>?_⟩;obtain⟨tps,O⟩:=Hb hL;have a8:=k1.fz O J.top;have aA:=Is.fz a8 _ _ hD hI;have aC:=k1.tab O J;have aM:=a8.seq hS
 symm
 cases hP with
 |@fin _ row he=>
   obtain⟨a,rv,rfl,Y,_⟩:=a49 aA;refine Cz Y (by rfl) ?_
   symm
   exact k H1 k1 a6
 |@ask _ x y D1 D2 m1 m2 hx hy hxy hun p1 p2=>
   obtain⟨a,d,e,rfl,Y,hd,he⟩:=Uv aA;refine Cz Y (by rfl) ?_
   symm
   rw[A0Q (by intro z;have:=V.str.inj (A4F z);exact absurd this nofun)]
   symm
   refine Cz Y (by rfl) ?_
   symm
   refine Cz Y (by rfl) ?_
   symm
   refine⟨r,x,y,ns,ps,as,rfl,aC,Z,hx,hy,λr1 aE H2 aW b1 k2 aO=>?_⟩;have a2:=k2.fz;have aG:=a2.seq Y
   symm
   refine Cz aG (by rfl) ?_
   symm
   have aN:=a2.seq aM;refine B5 (Ab (by simp)) λt1 H3 b8 e3 h3=>?_;refine Qc (e3.seqT aN) (SqT.of h3) (Ab (by simp only[List.length_singleton];omega)) λt2 H4 e4 h4=>?_;have a0:=e3.trans e4;have aP:=(aO.same a0);have kA:Kp q r H H4:=((k1.trans (.of_keep k2))).same a0;have aI:LmR q H2:=Rh a6 k2 aC.top;have aJ:=aI.same a0;have aU:=Is.fz (a2.trans a0.fz) _ _ (Jm p1) hd;have aR:=Z.saidP ∅ hx hy hxy hun;have aX:H r1=none:=k1.free O J.top (Hb a6) aW
   symm
   refine⟨r1,d,t2,_,ns,_,aE,D1,m1,rfl,aP.toR,aR,a7,a3,p1,aU,h4,by omega,by omega,by rw[A07,A16];omega,by rw[A07,A16];omega,aJ,λH5 k5 aB=>?_⟩;have kB:Kp q r H H5:=kA.other k5 aX O J.top;have a9:=kB.fz O J.top;have aD:=kB.tab O J;obtain⟨a5,d5,b5,q5,a4,b3,aT⟩:=Uv (Is.fz a9 _ _ hD hI)
   cases q5
   symm
   refine Cz a4 (by rfl) ?_
   symm
   refine Cz a4 (by rfl) ?_
   symm
   refine⟨r,y,x,ns,ps,as,rfl,aD,Z,hy,hx,λr2 aF H6 aY b2 k6 aQ=>?_⟩;have aH:=k6.fz.seq a4
   symm
   refine Cz aH (by rfl) ?_
   symm
   refine B5 (Ab (by simp)) λt3 H7 b9 e7 h7=>?_;refine Qc (e7.seqT (k6.fz.seq (a9.seq hS))) (SqT.of h7) (Ab (by simp only[List.length_singleton];omega)) λt4 H8 e8 h8=>?_;have a1:=e7.trans e8;have kC:Kp q r H H8:=(kB.trans (.of_keep k6)).same a1;have aK:LmR q H6:=Rh aB k6 aD.top;have aS:=Z.saidP ∅ hy hx (Ne.symm hxy) (Ob hun);have aZ:H r2=none:=kB.free O J.top (Hb aB) aY
   symm
   refine⟨r2,b5,t4,_,ns,_,aF,D2,m2,rfl,(aQ.same a1).toR,aS,a7,a3,p2,Is.fz (k6.fz.trans a1.fz) _ _ (Jm p2) aT,h8,by omega,by omega,by rw[A07,A16];omega,by rw[A07,A16];omega,aK.same a1,λH9 k9 aL=>?_⟩;have kD:Kp q r H H9:=kC.other k9 aZ O J.top
   symm
   refine⟨_,_,rfl,?_⟩
   have aV:(1+(if(m2:Int)>(m1:Int) then(m2:Int) else(m1:Int)):Int)=((1+max m1 m2:Nat):Int):=by split<;>omega
   show Wr K (V.int 1) (V.int (if(m2:Int)>(m1:Int) then(m2:Int) else(m1:Int))) H9 _
   symm
   rw[aV];exact k H9 kD aL
theorem W2 {f:Addr}{fd:FuncData}(F:Fun K "depth_on" "depth_on" Fd f fd)(T:Ey mg){q:Addr}(Dl:Fnd P w K mg base 1 "reach_said" ["reach","one","other"] (G4 K))(Hk:Fnd P w K mg base 3 "word_due" ["reach","plan"] (Io q K))(hm:mg "depth_on" = some (.ref f))(J:W.keepIn K (.ref f)=true)(hb:Binds K fd ["reach","plan","path"] []):FnOk P w K mg base CX0 129 f fd ["reach","plan","path"] (Ke q K):=by
 have h:∀ n:Nat,FnOk P w K mg base CX0 (4+n) f fd ["reach","plan","path"] (Ft q K n):=λn=>by
  induction n with
  |zero=>exact FnOk.void Lg
  |succ n ih=>exact Tj F T Dl Hk n ⟨f,fd,ih,hm,J,hb⟩
 exact h 125
theorem Uz {f:Addr}{fd:FuncData}(F:Fun K "lets_plan" "lets_plan" Er f fd)(T:Ey mg){U:Addr}(As:Fnd P w K mg base 1 "behind_each" ["half"] (C3 K))(Gc:Fnd P w K mg base 129 "depth_on" ["reach","plan","path"] (Ke U K)):FnOk P w K mg base CX0 130 f fd ["half","plan"] (Jb U K):=by
 refine F.ok T4 (λvs H Q E h=>?_) (λa6 A outer s H vs Q E J h=>?_)
 . obtain⟨hv,v,ns,ps,D,m,rfl,_⟩:=h;rfl
 obtain⟨hv,v,ns,ps,D,m,rfl,hI,hW,a2,a0,Z,hD,hm,a4,Y,k⟩:=h;have hu:=Bj J;have hq:=Bi J;obtain⟨tps,a9⟩:=Hb Y
 with_reducible refine⟨_,(A7 (Ao (Aq Gc (J.mono nofun) ⋯ (A1 (Aq As (J.mono nofun) ⋯ (A1 (pv 0) A2)) (A1 (pv 1) (A1 (B6 A2) A2)))))),?_⟩
 symm
 refine⟨hv,ns,ps,rfl,hI,hW,λr as H1 a5 a7 O a3=>?_⟩
 symm
 refine B5 (Ab (by simp)) λt H2 a8 q h2=>?_
 symm
 refine⟨r,v,t,[],ns,ps,as,D,m,rfl,(a3.same q).toR,hW,a2,a0,Z,Is.fz (O.trans q).fz _ _ (Jm Z) hD,SqT.of h2,hm,Nat.le_refl _,a4,by simp;omega,Y.same (O.trans q),λH3 k3 a1=>?_⟩
 symm
 exact k H3 (λb o hb h=>k3.all b o hb (λz=>by rw[z,a5] at h;cases h) (q _ _ (O _ _ h))) a1
def Hc (K:W.Frag):Sp:=λvs H Q _=>∃ v ns ps,vs=[v]/\HfS K H v ns ps/\HalfW ns ps/\ns.length<=10/\cnt (Aa ps) ns<=1000/\∀ l ys H',H l=none->Same H H'->H' l=some (.lst ys)->IsL K H' ((ext (Aa ps) ns.length ns).map nmD) ys->Q (.ref l) H'
theorem Pl {f:Addr}{fd:FuncData}(F:Fun K "_law_orders" "_law_orders" Cy f fd)(T:Ey mg):FnOk P w K mg base CX0 1 f fd ["_law_half_here"] (Hc K):=by
 refine F.ok Bk (λvs H Q E h=>?_) (λb7 A outer s H vs Q E hr h=>?_)
 . obtain⟨v,ns,ps,rfl,_⟩:=h;rfl
 obtain⟨v,ns,ps,rfl,hI,hW,h6,aX,k⟩:=h;have aG:∀ i,i<=ns.length->(Ex (Aa ps) ns i [[]]).length<=1000:=λi hi=>A0O (au6 (λx=>Iy hW x) (λx y z a b=>wayB_iff.mpr ((wayB_iff.mp a).trans (wayB_iff.mp b))) hW.nd hi) aX;have hu:=Bj hr;have hq:=Bi hr;have hn:=hW.nd
 with_reducible refine⟨_,(A3 (A9 (i:=1) Bk.nd ⋯ (by eq_refl) (Ci (A1 (B6 A2) A2)))
  (A3 (C5 A0X ⋯ (Eh ⋯ T.b_range (A1 (Am (Bp (K:=K)) ⋯ T.b_len PyProof.Rows.Boot.«len» (A1 (Ad (A6 (K:=K) hu) (pv 0) A5 (by ac_rfl)) A2)) A2)) (Ag (i:=2) Bk.nd ⋯ (by eq_refl))
  (A3 (A9 (i:=3) Bk.nd ⋯ (by eq_refl) (Ci A2))
  (A3 (C5 A0X ⋯ (Ar (K:=K) hu (pv 1)) (Ag (i:=4) Bk.nd ⋯ (by with_unfolding_all exact A37 rfl))
  (A3 (A9 (i:=5) Bk.nd ⋯ (by with_unfolding_all exact A37 rfl) (C2 ["_law_name"] ["_law_row"] [4] ⋯ ⋯ ⋯ (Ar (K:=K) hu (Ad (A6 (K:=K) hu) (pv 0) A5 (by ac_rfl))) (λ_ _ _ _=>(Ag (i:=0) (by with_unfolding_all (show(["_law_name","_law_row"]:List Str).Nodup;decide +kernel)) ⋯ (by eq_refl))) (Bf nofun) (λ_ _ _ _=>(Fg (Aj (Fp (K:=K) hq) (pv 0) (pv 1) ⋯))) (λ_ _ _ _=>(pv 0))))
  (A3 (A9 (i:=6) Bk.nd ⋯ (by with_unfolding_all exact A37 rfl) (C2 ["_law_one","_law_other"] ["_law_left"] [5] ⋯ ⋯ ⋯ (Ar (K:=K) hu (Ad (A6 (K:=K) hu) (pv 0) A5 (by ac_rfl))) (λ_ _ _ _=>(Nk (K:=K) (n:=2) ⋯ (Fk (Ag (i:=0) (by with_unfolding_all (show(["_law_one","_law_other","_law_left"]:List Str).Nodup;decide +kernel)) ⋯ (by eq_refl)) (Fk (Ag (i:=1) (by with_unfolding_all (show(["_law_one","_law_other","_law_left"]:List Str).Nodup;decide +kernel)) ⋯ (by eq_refl)) Nb)))) (aF3 (a66 nofun (a66 nofun aM7))) (λ_ _ _ _=>(Fg (Aj (Mf (K:=K) hq) (pv 0) (pv 2) ⋯))) (λ_ _ _ _=>(pv 1))))
  (A7 (Et (Hj (K:=K) A1F A3D A3E (mm Kw) (pv 3) (A1 (C2 ["_law_name"] ["_law_row","_law_later"] [4,6] ⋯ ⋯ ⋯ (Ar (K:=K) hu (pv 5)) (λ_ _ _ _=>(Ag (i:=0) (by with_unfolding_all (show(["_law_name","_law_row","_law_later"]:List Str).Nodup;decide +kernel)) ⋯ (by eq_refl))) (Bf nofun) (λ_ _ _ _=>(Fg (Aj (Fp (K:=K) hq) (pv 0) (pv 2) ⋯))) (λ_ _ _ _=>(Ap (An (K:=K)) (pv 1) (B6 (A1 (pv 0) A2))))) A2)))))))
  (A7 (A9 (i:=1) Bk.nd ⋯ (by eq_refl) (pv 3))))))
  (A7 (Ao (pv 1))))),?_⟩
 symm
 refine B5 nofun λt2 H2 bJ e2 h2=>?_
 symm
 refine Ch (Ab (by simp)) λl3 H3 aY e3 h3=>?_
 symm
 have a9:Same H H3:=e2.trans e3;refine ao6 (hI.same a9) λnv hN=>?_
 symm
 refine ag2 hN ?_
 symm
 refine L6 ∅ ?_
 refine Ej Cd (λi σ J=>∃ l x2 x3 x4 x5 x6 ys,σ=[some v,some (.ref l),x2,x3,x4,x5,x6]/\Same H J/\H l=none/\J l=some (.lst ys)/\IsL K J ((Ex (Aa ps) ns i [[]]).map nmD) ys)
  ⟨l3,_,_,_,_,_,[.ref t2],rfl,a9,e2.free aY,h3,.one (Og (SqT.of (e3 _ _ h2)))⟩ (λ_ _ _ _=>trivial) (λi x σ J hx hi q=>?_) (fun σ J q=>?_)
 . obtain⟨l,x2,x3,x4,x5,x6,ys,rfl,e4,aH,h4,a4⟩:=q;obtain⟨rfl,bB⟩:=Hd hx;have bH:(Ex (Aa ps) ns i [[]]).length<=1000:=aG i ∅;have b1:ys.length=(Ex (Aa ps) ns i [[]]).length:=by rw[<- IsL.length a4,A01]
   symm
   refine Ch nofun λg H5 a6 e5 h5=>?_
   symm
   have bD:l≠g:=ne_of_none h4 a6;refine Ju (SqL.of (e5 _ _ h4)) ?_
   refine Ej (Bg (xs:=ys)) (λj σ Y=>∃ y4 y5 y6 zs,σ=[some v,some (.ref l),some (.int (0+(i:Int))),some (.ref g),y4,y5,y6]/\Same J Y/\Y g=some (.lst zs)/\IsL K Y ((Gi (Aa ps) ns ((Ex (Aa ps) ns i [[]]).take j)).map nmD) zs)
    ⟨_,_,_,[],rfl,e5,h5,.nil⟩ (λj σ' H' q=>?_) (λj x σ' Y b0 hj q=>?_) (fun σ' Y q=>?_)
   . obtain⟨_,_,_,_,_,e,_⟩:=q;exact SqL.of (e _ _ h4)
   . obtain⟨y4,y5,y6,zs,rfl,e6,a3,a0⟩:=q;obtain ⟨dr,a2,aD⟩:=IsL.get (IsL.mono e6 _ _ a4) b0;rw[A06] at a2
     cases hro:(Ex (Aa ps) ns i [[]])[j]? with
     |none=>rw[hro] at a2;cases a2
     |some row=>
       rw[hro] at a2
       cases a2;have aI:=A03 hro;have bG:=Vv _ _ _ _ aI;have aA:Same H Y:=e4.trans e6
       symm
       refine ao6 (hI.same aA) λbK aT=>?_;refine Y2 aT (λz=>!decide (z∈row)) PyData.str (λ_=>rfl) ∅ (λjj z H7 R R' hz O hR a1=>?_) (λlf bO H7 aZ O h7 aQ=>?_)
       . symm
         refine ap2 (aD.nm_fz O.fz) ?_
         symm
         refine Vg (λhb=>?_) (λhb=>?_)
         . symm
           exact hR (by rw[hb];rfl) _ _ (.refl _) Iu
         exact a1 (by rw[hb];rfl) _ (.refl _)
       have aR:=IsL.str_eq aQ;subst aR;have aC:H7 lf=some (.lst ((G6 ns row).map V.str)):=h7;have bC:(G6 ns row).length<=ns.length:=A0T _ _;have bA:g≠lf:=ne_of_none a3 aZ
       symm
       refine aM1 ((hI.same aA).same O) λbM aU=>?_;refine a84 aU (λp=>decide (p.1∈G6 ns row)) (λp=>PyData.str p.2) (λ_=>rfl) (by have:=hW.le;omega) (λjj p w H8 R R' hp aP U hR a1=>?_) (λlt bP H8 bE U h8 aE=>?_)
       . obtain⟨wa,rfl,aW⟩:=aP.pr
         symm
         refine a97 aW ?_
         symm
         refine aN4 (U.seq (SqL.of aC)) ?_
         symm
         refine Km (λhb=>?_) (λhb=>?_)
         . symm
           exact hR (A0Y hb) _ _ (.refl _) Iu
         exact a1 (A0N hb) _ (.refl _)
       rw[show((ps.filter λp=>decide (p.1∈G6 ns row)).map λp=>PyData.str p.2)=((ps.filter λp=>decide (p.1∈G6 ns row)).map (·.2)).map PyData.str by rw[A1A];rfl] at aE;have aS:=IsL.str_eq aE;subst aS
       symm
       have aN:=U _ _ aC;have aO:=aD.nm_fz (O.trans U).fz;refine Sx (SqL.of aN) (λz=>!decide (z∈(ps.filter λp=>decide (p.1∈G6 ns row)).map (·.2))) (λz=>nmD (row++[z])) (λ_=>M4 _) ∅ (λjj z H9 R R' hz Z hR a1=>?_) (λq9 bQ H9 bF Z h9 a5=>?_)
       . symm
         refine az1 (Z.seq (SqL.of h8)) ?_
         symm
         refine Vg (λhb=>?_) (λhb=>?_)
         . symm
           refine B5 (Ab (by simp)) λbN b5 bI a8 aL=>?_;obtain⟨ra,rfl,aV⟩:=(aO.nm_fz (Z.trans a8).fz).nm;refine Qc aV (SqT.of aL) (Ab (by rw[List.length_map];simp;omega)) λbL b6 aJ aM=>?_;exact hR (by rw[hb];rfl) _ _ (a8.trans aJ) (Og (by rw[A13];exact aM))
         exact a1 (by rw[hb];rfl) _ (.refl _)
       rw[al2 hW.mem aI] at a5;have aF:=(((O.trans U).trans Z) _ _ a3);have b2:=IsL.length a5;have b3:=IsL.length a0;rw[A01] at b2 b3;have b8:(frF (Aa ps) (G6 ns row)).length<=10:=A0O (A0T _ _) ∅;have b9:(Gi (Aa ps) ns ((Ex (Aa ps) ns i [[]]).take j)).length<=1000:=A0O (Rk _ _ _ _) (by rw[<- Hl];exact aG (i+1) ∅)
       symm
       refine Y1 aF h9 ∅ λb4 a7 aK=>?_;have aB:=a7.fzL aF
       symm
       refine⟨_,_,_,_,rfl,((e6.trans ((O.trans U).trans Z))).off a6 a7,aK,?_⟩;rw[Zs _ _ hro,A13,A1A];exact IsL.append (IsL.fz (((O.trans U).trans Z).fz.trans aB) _ _ (am1 _) a0) (IsL.fz aB _ _ (De _ (λ_=>M4 _) _) a5)
   obtain⟨y4,y5,y6,zs,rfl,e6,a3,a0⟩:=q;rw[b1,A0U] at a0
   symm
   refine⟨g,_,_,_,_,_,zs,rfl,e4.trans e6,e4.free a6,a3,?_⟩;rw[Hl];exact a0
 obtain⟨l,x2,x3,x4,x5,x6,ys,rfl,e4,aH,h4,a4⟩:=q
 symm
 refine k l ys J aH e4 h4 ?_;have:((ns.length:Nat):Int).toNat=ns.length:=by omega
 rw[<- Us];simpa using a4
def Ec (K:W.Frag):Sp:=λvs H Q _=>∃ l x y q ys,vs=[.ref l,.str x,.str y]/\SqL K H l ys/\IsL K H (q.map nmD) ys/\(∀ r∈q,x∈r/\y∈r)/\q.length<=1000000 /\
 ∀ t F J O U H',Same H H'->SqT K H' t [.ref F,.ref J]->H' F=some (.lst O)->O.length=Tn q x y->H' J=some (.lst U)->U.length=Tn q y x->IsL K H' ((q.filter λr=>decide (r.idxOf x<r.idxOf y)).map nmD) O->IsL K H' ((q.filter λr=>decide (r.idxOf y<r.idxOf x)).map nmD) U->H F=none->H J=none->Q (.ref t) H'
theorem Sm {f:Addr}{fd:FuncData}(F:Fun K "_law_parts" "_law_parts" Dp f fd)(T:Ey mg):FnOk P w K mg base CX0 1 f fd ["_law_orders_here","_law_one","_law_other"] (Ec K):=by
 refine F.ok Kx (λvs H Q E h=>?_) (λaB A outer s H vs Q E hr h=>?_)
 . obtain⟨l,x,y,a2,ys,rfl,_⟩:=h;rfl
 obtain⟨l,x,y,a2,ys,rfl,hl,hL,hm,hz,k⟩:=h;have hu:=Bj hr;have hq:=Bi hr;have a1:=IsL.length hL;rw[A01] at a1
 with_reducible refine⟨_,(A3 (Ho (i:=3) ["_law_order"] ["_law_one","_law_other"] [1,2] ⋯ ⋯ ⋯ Kx.nd ⋯ ⋯ (Ar (K:=K) hu (pv 0)) (λ_ _ _ _=>(Ag (i:=0) (by with_unfolding_all (show(["_law_order","_law_one","_law_other"]:List Str).Nodup;decide +kernel)) ⋯ (by eq_refl))) (Bf nofun) (λ_ _ _ _=>(Fg (Aj Yr (X6 (K:=K) A2P A3F (Jt (K:=K)) (pv 0) (A1 (pv 1) A2)) (X6 (K:=K) A2P A3F (Jt (K:=K)) (pv 0) (A1 (pv 2) A2)) (Aw _)))) (λ_ _ _ _=>(pv 0)))
  (A7 (Ao (B6 (A1 (pv 3) (A1 (C2 ["_law_order"] ["_law_one","_law_other"] [1,2] ⋯ ⋯ ⋯ (Ar (K:=K) hu (pv 0)) (λ_ _ _ _=>(Ag (i:=0) (by with_unfolding_all (show(["_law_order","_law_one","_law_other"]:List Str).Nodup;decide +kernel)) ⋯ (by eq_refl))) (Bf nofun) (λ_ _ _ _=>(Fg (Aj W9 (X6 (K:=K) A2P A3F (Jt (K:=K)) (pv 0) (A1 (pv 1) A2)) (X6 (K:=K) A2P A3F (Jt (K:=K)) (pv 0) (A1 (pv 2) A2)) (Aw _)))) (λ_ _ _ _=>(pv 0))) A2)))))),?_⟩
 symm
 refine Ju hl (G1 (K:=K) (Bg (xs:=ys)) a2 a1 (λr=>decide (r.idxOf x<r.idxOf y)) nmD (λ_=>M4 _) ∅ (λH' e=>e.seq hl) (λi r v H1 R R' Z hv J hR a0=>?_) (λla ya H1 a9 J h1 a3=>?_))
 . obtain⟨dd,hd,Y⟩:=IsL.get (IsL.mono J _ _ hL) hv;rw[A06,Z] at hd
   cases hd;obtain⟨ra,rfl,q⟩:=Y.nm;obtain⟨m1,m2⟩:=hm r (A03 Z);obtain⟨f1,f2,_⟩:=Jy m1;obtain⟨g1,g2,_⟩:=Jy m2
   symm
   refine an2 q ?_
   symm
   refine Mr q f1 f2 ?_
   symm
   refine an2 q ?_
   symm
   refine Mr q g1 g2 ?_
   symm
   refine Km (λhb=>?_) (λhb=>?_)
   . symm
     exact hR (A0Y ∅) _ _ (.refl _) Y
   exact a0 (A0N ∅) _ (.refl _)
 have a6:=IsL.length a3;rw[A01] at a6;have a5:=J.seq hl;have a8:=IsL.mono J _ _ hL
 symm
 refine Ju a5 (G1 (K:=K) (Bg (xs:=ys)) a2 a1 (λr=>decide (r.idxOf y<r.idxOf x)) nmD (λ_=>M4 _) ∅ (λH' e=>e.seq a5) (λi r v H2 R R' Z hv O hR a0=>?_) (λlb yb H2 aA O h2 a4=>?_))
 . obtain⟨dd,hd,Y⟩:=IsL.get (IsL.mono O _ _ a8) hv;rw[A06,Z] at hd
   cases hd;obtain⟨ra,rfl,q⟩:=Y.nm;obtain⟨m1,m2⟩:=hm r (A03 Z);obtain⟨f1,f2,_⟩:=Jy m1;obtain⟨g1,g2,_⟩:=Jy m2
   symm
   refine an2 q ?_
   symm
   refine Mr q f1 f2 ?_
   symm
   refine an2 q ?_
   symm
   refine Mr q g1 g2 ?_
   symm
   refine Km (λhb=>?_) (λhb=>?_)
   . symm
     exact hR (A0Y ∅) _ _ (.refl _) Y
   exact a0 (A0N ∅) _ (.refl _)
 have a7:=IsL.length a4;rw[A01] at a7
 symm
 refine B5 (Ab (by simp)) λt H3 ht U h3=>?_;exact k t la lb ya yb H3 ((J.trans O).trans U) (SqT.of h3) ((O.trans U) _ _ h1) a6.symm (U _ _ h2) a7.symm (IsL.mono (O.trans U) _ _ a3) (IsL.mono U _ _ a4) a9 (J.free aA)
def Cw (K:W.Frag):Sp:=λvs H Q _=>∃ v l ns F ys,vs=[v,.ref l]/\NmS K H v ns/\SqL K H l ys/\IsL K H (F.map nmD) ys/\(∀ r∈F,∀ x∈ns,x∈r)/\ns.length<=10/\F.length<=1000000 /\
 ∀ q zs H',H q=none->Same H H'->H' q=some (.lst zs)->IsL K H' (quK ns (Tn F) ns.length) zs->Q (.ref q) H'
theorem ae6 (ns:List Str)(A:Str->Str->Nat)(i m:Nat):Mm (quR ns A i m)=true:=De _ (λ_=>Y3 ..) _
theorem Sa:∀ {a b:List PyData},Mm a=true->Mm b=true->Mm (a++b)=true
 | [],b,_,h=>h
 |x :: a,b,h,g=>by have h:(frz x&&Mm a)=true:=h;rw[A14] at h;show(frz x&&Mm (a++b))=true;rw[h.1,Sa h.2 g];rfl
theorem a06 (ns:List Str)(A:Str->Str->Nat):∀ k,Mm (quK ns A k)=true
 |0=>rfl
 |k+1=>by rw[Rs];exact Sa (a06 ns A k) (ae6 ..)
theorem Zv (ns:List Str)(A:Str->Str->Nat)(i m:Nat):(quR ns A i m).length<=ns.length:=by unfold quR;rw[A01];refine A0O (A0T _ _) ?_;rw [A10,A1B];omega
theorem ae9 (ns:List Str)(A:Str->Str->Nat):∀ k,(quK ns A k).length<=k*ns.length
 |0=>by simp[quK]
 |k+1=>by rw[Rs,A07,Nat.succ_mul];have:=ae9 ns A k;have:=Zv ns A k ns.length;omega
theorem Lq {f:Addr}{fd:FuncData}(F:Fun K "_law_questions" "_law_questions" Bw f fd)(T:Ey mg)(C8:Fnd P w K mg base 1 "_law_parts" ["_law_orders_here","_law_one","_law_other"] (Ec K)):FnOk P w K mg base CX0 2 f fd ["_law_names_here","_law_orders_here"] (Cw K):=by
 refine F.ok Bl (λvs H Q E h=>?_) (λaT A outer s H vs Q E hr h=>?_)
 . obtain⟨v,l,ns,J,ys,rfl,_⟩:=h;rfl
 obtain⟨v,l,ns,J,ys,rfl,hN,hl,hL,hm,aK,hz,k⟩:=h;have hu:=Bj hr;have hq:=Bi hr
 with_reducible refine⟨_,(A3 (A9 (i:=2) Bl.nd ⋯ (by eq_refl) (Ci A2))
  (A3 (C5 A0X ⋯ (Eh ⋯ T.b_range (A1 (Am (Bp (K:=K)) ⋯ T.b_len PyProof.Rows.Boot.«len» (A1 (pv 0) A2)) A2)) (Ag (i:=3) Bl.nd ⋯ (by eq_refl))
  (A7 (C5 A0X ⋯ (Ar (K:=K) hu (Bt (Sz (K:=K)) (pv 0) (Bq (Ap (An (K:=K)) (pv 3) A5)) Fb)) (Ag (i:=4) Bl.nd ⋯ (by eq_refl))
  (A3 (ap8 (Aq C8 (hr.mono nofun) ⋯ (A1 (pv 1) (A1 (Ad (A6 (K:=K) hu) (pv 0) (pv 3) (by ac_rfl)) (A1 (pv 4) A2)))) (Nk (K:=K) (n:=2) ⋯ (Fk (Ag (i:=5) Bl.nd ⋯ (by eq_refl)) (Fk (Ag (i:=6) Bl.nd ⋯ (by eq_refl)) Nb))))
  (A7 (Co (PW.pt (Ur (Aj (ah2 (K:=K) hq) (pv 5) (Ci A2) (Aw _)) (Oz (Aj (ah2 (K:=K) hq) (pv 6) (Ci A2) (Aw _))))) (A7 (Et (Hj (K:=K) A1F A3B A3C (mm J4) (pv 2) (A1 (B6 (A1 (B6 (A1 (Ad (A6 (K:=K) hu) (pv 0) (pv 3) (by ac_rfl)) (A1 (pv 4) A2))) (A1 (B6 (A1 (Am (Bp (K:=K)) ⋯ T.b_len PyProof.Rows.Boot.«len» (A1 (pv 5) A2)) (A1 (Am (Bp (K:=K)) ⋯ T.b_len PyProof.Rows.Boot.«len» (A1 (pv 6) A2)) A2))) A2))) A2)))) Ay))))))
  (A7 (Ao (pv 2))))),?_⟩
 symm
 refine Ch nofun λq H1 aI e1 h1=>?_
 symm
 refine ag2 (hN.same e1) ?_
 symm
 refine L6 ∅ ?_
 refine Ej Cd (λi σ H2=>∃ x3 x4 x5 x6 zs,σ=[some v,some (.ref l),some (.ref q),x3,x4,x5,x6]/\Same H H2/\H2 q=some (.lst zs)/\IsL K H2 (quK ns (Tn J) i) zs)
  ⟨_,_,_,_,[],rfl,e1,h1,.nil⟩ (λ_ _ _ _=>trivial) (λi x σ H2 hx hi U=>?_) (fun σ H2 U=>?_)
 . obtain⟨x3,x4,x5,x6,zs,rfl,e2,h2,a3⟩:=U;obtain⟨rfl,aU⟩:=Hd hx;have aN:i<ns.length:=by omega
   have aC:ns[i]? = some (ns.getD i ""):=by simp[List.getD,List.getElem?_eq_getElem aN]
   have aO:=A03 aC;have b3:=IsL.length a3;have aW:=ae9 ns (Tn J) i;have aV:i*ns.length<=100:=A0O (A2K (by omega:i<=10) aK) nofun
   symm
   refine aJ3 h2 (hN.same e2) ∅ ∅ λsv H3 e3 aF=>?_;rw[show(0+(i:Int)+1).toNat=i+1 by omega] at aF;have h3:=e3 _ _ h2
   refine aC8 aF (λm σ Y=>∃ y4 y5 y6 a0,σ=[some v,some (.ref l),some (.ref q),some (.int (0+(i:Int))),y4,y5,y6]/\ExtBut q H3 Y/\Fz H3 Y/\Same H Y/\Y q=some (.lst a0)/\IsL K Y (quK ns (Tn J) i++quR ns (Tn J) i m) a0)
    ⟨_,_,_,zs,rfl,.refl,.refl _,e2.trans e3,h3,by simpa[quR] using IsL.mono e3 _ _ a3⟩ (λm σ' H' U=>?_) (λm y σ' Y hy U=>?_) (fun σ' Y U=>?_)
   . obtain⟨_,_,_,_,_,h,h',_⟩:=U;exact⟨h,h'⟩
   . obtain⟨y4,y5,y6,a0,rfl,b4,a8,e4,h4,a2⟩:=U;have aP:y∈ns:=(A4H _ _).subset (A03 hy);have aQ:=IsL.length a2;rw[A07] at aQ;have aZ:=Zv ns (Tn J) i m
     symm
     refine as3 (hN.same e4) (by rw[Int.zero_add];exact Dz aC) ?_
     symm
     refine⟨l,ns.getD i "",y,J,ys,rfl,e4.seq hl,IsL.mono e4 _ _ hL,λr hr=>⟨hm r hr _ aO,hm r hr _ aP⟩,hz,λt la lb ya yb H5 e5 ht aG aA aH aB _ _ _ _=>?_⟩;refine a97 ht ?_
     symm
     refine Ch nofun λn6 H6 aX e6 h6=>?_
     symm
     refine aq1 (SqL.of (e6 _ _ aG)) (SqL.of h6) ?_
     symm
     have aD:=e5.trans e6
     have zero:∀ {ys:List V} {n:Nat},ys.length=n->ys.isEmpty=true->n=0:=fun {ys n} h g=>by
      cases ys with
      |nil=>exact h.symm
      |cons a r=>cases g
     have pos:∀ {ys:List V} {n:Nat},ys.length=n->ys.isEmpty=false->n≠0:=fun {ys n} h g=>by
      cases ys with
      |nil=>cases g
      |cons a r=>rw[A0G] at h;omega
     have aJ:¬ (Tn J (ns.getD i "") y≠0/\Tn J y (ns.getD i "")≠0)->∀ {Z},Same Y Z->ExtBut q H3 Z/\Fz H3 Z/\Same H Z/\Z q=some (.lst a0)/\IsL K Z (quK ns (Tn J) i++quR ns (Tn J) i (m+1)) a0:=λc {Z} O=>by refine⟨b4.same O,a8.trans O.fz,e4.trans O,O _ _ h4,?_⟩;rw[Xv hy,A0Q c,A27];exact IsL.mono O _ _ a2
     refine Vg (λhb=>?_) (λhb=>?_)
     . symm
       refine Ch nofun λn7 Z aY O h7=>?_
       symm
       refine aq1 (SqL.of ((e6.trans O) _ _ aH)) (SqL.of h7) ?_
       symm
       have a6:=aD.trans O;refine Vg (λa9=>?_) (λa9=>?_)
       . symm
         refine as3 ((hN.same e4).same a6) (by rw[Int.zero_add];exact Dz aC) ?_
         symm
         refine B5 (Ab (by simp)) λt8 H8 b1 e8 h8=>?_
         symm
         refine i_lenL (((e6.trans O).trans e8) _ _ aG) ?_
         symm
         refine i_lenL (((e6.trans O).trans e8) _ _ aH) ?_
         symm
         refine B5 (Ab (by simp)) λt9 H9 b2 e9 h9=>?_
         symm
         refine B5 (Ab (by simp)) λb5 aR b0 a4 aL=>?_
         symm
         have a1:=((a6.trans e8).trans e9).trans a4;have aE:=a1 _ _ h4;refine Ye aE ∅ λaS a5 aM=>?_;have a7:=a5.fzL aE
         symm
         refine⟨_,_,_,_,rfl,(b4.same a1).trans a5,(a8.trans a1.fz).trans a7,(e4.trans a1).off aI a5,aM,?_⟩;rw[Xv hy,A0Z ⟨pos aA hb,pos aB a9⟩,<- A1Z];refine IsL.append (IsL.fz (a1.fz.trans a7) _ _ (Sa (a06 ..) (ae6 ..)) a2) (.one ?_);rw[aA,aB] at h9;refine Is.fz a7 _ _ (Y3 ..) (Is.of_tup (SqT.of aL) (.cons (Is.mono (e9.trans a4) _ _ (Ru (SqT.of h8))) (.one (Is.of_tup (a4.seqT (SqT.of h9)) (.cons Nh (.one Nh))))))
       symm
       exact⟨_,_,_,_,rfl,aJ (λc=>c.2 (zero aB a9)) a6⟩
     symm
     exact⟨_,_,_,_,rfl,aJ (λc=>c.1 (zero aA hb)) aD⟩
   obtain⟨y4,y5,y6,a0,rfl,b4,a8,e4,h4,a2⟩:=U;refine⟨_,_,_,_,a0,rfl,e4,h4,?_⟩;rw[Rs]
   have:quR ns (Tn J) i (ns.drop (i+1)).length=quR ns (Tn J) i ns.length:=by unfold quR;rw[A0U,A2A (by rw[A1B];omega)]
   rw[<- this];exact a2
 obtain⟨x3,x4,x5,x6,zs,rfl,e2,h2,a3⟩:=U
 symm
 refine k q zs H2 aI e2 h2 ?_;simpa using a3
def Rows (ns:List Str)(ps:List (Str×Str))(q:List (List Str)):Prop:=q.Perm (ext (Aa ps) ns.length ns)
theorem an9 {q F:List (List Str)} (h:q.Perm F) (x y:Str):Tn q x y=Tn F x y:=(h.filter _).length_eq
theorem Xk {b:Str->Str->Bool}:∀ {r r':List Str},r.Perm r'->r.Pairwise (λu v=>b v u=false)->r'.Pairwise (λu v=>b v u=false)->(∀ u∈r,∀ v∈r,u≠v->b u v=true\/b v u=true)->r.Nodup->r=r'
 | [],r',h,_,_,_,_=>(List.nil_perm.mp h).symm
 |a :: t,[],h,_,_,_,_=>by cases h.length_eq
 |a :: t,c :: t',h,h1,h2,tot,nd=>by
   have O:a=c:=by
    by_cases e:a=c
    . exact e
    exfalso;have ha:a∈c :: t':=h.mem_iff.mp (A0B ..);have F:c∈a :: t:=h.mem_iff.mpr (A0B ..);have J:a∈t':=(A0A.mp ha).resolve_left e;have U:c∈t:=(A0A.mp F).resolve_left λz=>e z.symm;have Z:=(A2I.mp h1).1 c U;have q2:=(A2I.mp h2).1 a J;rcases tot a (A0B ..) c F e with q|q
    . rw[q2] at q;cases q
    rw[Z] at q;cases q
   subst O;rw[Xk (List.Perm.cons_inv h) (A2I.mp h1).2 (A2I.mp h2).2 (λu hu v Y=>tot u (A09 _ hu) v (A09 _ Y)) (A0V.mp nd).2]
theorem aA9 {ns:List Str}{ps:List (Str×Str)}(h:HalfW ns ps)(F:2<=cnt (Aa ps) ns):∃ x∈ns,∃ y∈ns,x≠y/\unB ps x y=true:=by
 false_or_by_contra
 rename_i hno
 have Z:∀ x∈ns,∀ y∈ns,x≠y->Aa ps x y=true\/Aa ps y x=true:=λx O y Y U=>by
  cases e1:Aa ps x y with
  |true=>exact .inl rfl
  |false=>
    cases e2:Aa ps y x with
    |true=>exact .inr rfl
    |false=>exact absurd ⟨x,O,y,Y,U,by unfold unB;rw[e1,e2];rfl⟩ hno
 unfold L2.cnt at F;have nd:=Fm (Aa ps) ns.length ns h.nd;have q:=λr=>Cr (Aa ps) ns.length ns r h.nd rfl
 match hE:ext (Aa ps) ns.length ns,F,nd,q with
 |r :: r' :: rest,_,nd,q=>obtain⟨p1,k1⟩:=(q r).mp (A0B ..);obtain⟨p2,k2⟩:=(q r').mp (A09 _ (A0B ..));have:r=r':=Xk (p1.trans p2.symm) k1.2 k2.2 (λu hu v J=>Z u (p1.mem_iff.mp hu) v (p1.mem_iff.mp J)) (p1.nodup_iff.mpr h.nd);exact(A0V.mp nd).1 (this ▸ A0B ..)
theorem aq3 {ps:List (Str×Str)}{x y:Str}(q:x≠y)(hu:unB ps x y=true):∀ {ns:List Str},x∈ns->y∈ns->0<(unP ns ps).length
 | [],h,_=>by cases h
 |a :: t,hx,hy=>by
   rw[Ih];rcases A0A.mp hx with rfl|hx'
   . have:y∈t.filter λz=>unB ps x z:=A0L.mpr ⟨(A0A.mp hy).resolve_left (Ne.symm q),hu⟩;have:=A4K this;omega
   rcases A0A.mp hy with rfl|hy'
   . have:x∈t.filter λz=>unB ps y z:=A0L.mpr ⟨hx',Ob hu⟩;have:=A4K this;omega
   have:=aq3 q hu hx' hy';omega
theorem Vn {ns:List Str}{ps:List (Str×Str)}{O:List (List Str)}(h:HalfW ns ps)(U:Rows ns ps O){x y:Str}(Y:x∈ns)(Z:y∈ns):Rows ns (ps++[(x,y)]) (O.filter λr=>decide (r.idxOf x<r.idxOf y)):=by
 refine(U.filter _).trans ?_;refine(List.perm_ext_iff_of_nodup ((Fm (Aa ps) ns.length ns h.nd).filter _) (Fm (Aa (ps++[(x,y)])) ns.length ns h.nd)).mpr λr=>?_;have hm:=(h.more Y Z).mem;rw[A0L,Cr _ _ _ _ h.nd rfl,Cr _ _ _ _ h.nd rfl,decide_eq_true_eq];constructor
 . rintro⟨⟨hp,F⟩,hi⟩;refine⟨hp,(Kq h.nd hm hp).mpr λp J=>?_⟩;rcases A0C.mp J with q|q
   . exact(Kq h.nd h.mem hp).mp F p q
   rw[A0P.mp q];exact hi
 rintro⟨hp,F⟩;have:=(Kq h.nd hm hp).mp F;exact⟨⟨hp,(Kq h.nd h.mem hp).mpr λp J=>this p (A0M _ J)⟩,this (x,y) (A12 _ (A0P.mpr rfl))⟩
theorem aq9 {k:Nat}:∀ {ds:List PyData},(∀ e∈ds,e.weight<=k)->PyData.weightAll ds<=ds.length*(k+1)
 | [],_=>by simp only[PyData.weightAll];omega
 |d :: ds,h=>by have h1:=h d (by simp);have h2:=aq9 (ds:=ds) λe he=>h e (by simp[he]);simp only[PyData.weightAll,List.length_cons,Nat.succ_mul];omega
theorem Vm {z:Str}(h:M8 z=true):Asc z:=λc q=>by unfold M8 at h;rw[A14,A2C] at h;have:=h.2 c q;unfold Mg at this;rw[A14,decide_eq_true_eq,decide_eq_true_eq] at this;omega
theorem au1 {p W:Nat}{ns:List Str}(h:∀ z∈ns,M8 z=true)(q:ns.length<=W):Els p (ns.length*9) W (ns.map PyData.str):=by
 refine⟨λe he=>?_,?_,by simpa using q⟩
 . obtain⟨z,hz,rfl⟩:=A0E.mp he;exact⟨8,Uf (Vm (h z hz)) (Qs (h z hz))⟩
 have:=aq9 (k:=8) (ds:=ns.map PyData.str) λe he=>by obtain⟨z,hz,rfl⟩:=A0E.mp he;simp only[PyData.weight];exact Qs (h z hz)
 simpa using this
structure HalfQ (ns:List Str)(ps:List (Str×Str)):Prop where
 w:HalfW ns ps
 nm:∀ z∈ns,M8 z=true
 few:ns.length<=10
 le:ps.length<=60
 cn:cnt (Aa ps) ns<=120
theorem Jc {ps ps':List (Str×Str)}(h:∀ p,p∈ps'->p∈ps){x y:Str}(g:Way ps' x y):Way ps x y:=by
 induction g with
 |one e=>exact .one (h _ e)
 |cons e _ ih=>exact .cons (h _ e) ih
theorem HalfQ.full {ns:List Str} {ps ps':List (Str×Str)} (h:HalfQ ns ps) (q:ps'.length<=60) (hm:∀ p,p∈ps'↔p∈ps):HalfQ ns ps':=by
 have F:Aa ps'=Aa ps:=funext λx=>funext λy=>by
  cases e:Aa ps x y with
  |true=>exact wayB_iff.mpr (Jc (λp hp=>(hm p).mpr hp) (wayB_iff.mp e))
  |false=>
    cases e':Aa ps' x y with
    |false=>rfl
    |true=>rw[wayB_iff.mpr (Jc (λp hp=>(hm p).mp hp) (wayB_iff.mp e'))] at e;cases e
 exact⟨⟨h.w.nd,λp hp=>h.w.mem p ((hm p).mp hp),λx g=>h.w.irr x (Jc (λp hp=>(hm p).mp hp) g),h.w.few,by omega⟩,h.nm,h.few,q,by rw[F];exact h.cn⟩
theorem Wb {b:Str->Str->Bool}:∀(n:Nat) (L:List Str),L.length=n->L.Nodup->cnt b L<=fac n
 |0,L,h,_=>by rw[A17.mp h,L2.cnt_nil];exact A08 _
 |n+1,L,h,hn=>by
   rw[Kz hn (by intro z;rw[z] at h;cases h)];have h1:((frF b L).map λx=>cnt b (Ai L x)).sum<=((frF b L).map λ_=>fac n).sum:=Xm λx F=>Wb n (Ai L x) (by have:=Bb hn (mem_frF.mp F).1;omega) (B7 hn x);have h2:((frF b L).map λ_=>fac n).sum=(frF b L).length*fac n:=by rw[List.map_const',List.sum_replicate_nat]
   have q:(frF b L).length<=n+1:=by rw[<- h];exact A0T _ _
   have J:=A41 (fac n) q;have O:fac (n+1)=(n+1)*fac n:=by first | rfl | (show fac n*(n+1)=_;exact A3W _ _)
   omega
theorem ar8 {ns:List Str}{ps:List (Str×Str)}(h:Half ns ps)(q:ns.length<=5):HalfQ ns ps:=by refine⟨h.w,h.names.2,by omega,h.le,A0O (Wb _ ns rfl h.w.nd) ?_⟩;rcases(show ns.length=0\/ns.length=1\/ns.length=2\/ns.length=3\/ns.length=4\/ns.length=5 by omega) with e|e|e|e|e|e<;>rw[e]<;>decide
structure Lev (done lev:List Str)(S:List (Str×Str))(many:Nat):Prop where
 mem:∀ p∈S,p.1∈done/\p.2∈done
 sub:∀ e∈lev,e∈done
 up:∀ d∈done,d∈lev\/∀ e∈lev,Way S d e
 ne:lev=[]->done=[]
 irr:∀ x,¬ Way S x x
 cn:cnt (Aa S) done<=many
 three:lev.length<=3
 len:S.length<=3*done.length
theorem Rr {S:List (Str×Str)}{done:List Str}(h:∀ p∈S,p.1∈done/\p.2∈done){x y:Str}(g:Way S x y):x∈done/\y∈done:=by
 induction g with
 |one e=>exact h _ e
 |cons e _ ih=>exact⟨(h _ e).1,ih.2⟩
theorem am5:Lev [] [] [] 1:=⟨λp h=>(by cases h),λe h=>(by cases h),λd h=>(by cases h),λ_=>rfl,λx g=>(by have:=(Rr (done:=[]) (λp h=>(by cases h)) g).1;cases this),Nat.le_refl _,by simp,by simp⟩
theorem at7 {done lev fresh:List Str}{S:List (Str×Str)}{many:Nat}(h:Lev done lev S many)(hn:(done++fresh).Nodup){x y:Str}:Way (S++crs lev fresh) x y↔Way S x y\/(x∈done/\y∈fresh):=by
 have F:∀ z,z∈done->z∈fresh->False:=λz h1 h2=>(A1E.mp hn).2.2 z h1 z h2 rfl;constructor
 . intro g
   induction g with
   |one e=>
     rcases A0C.mp e with e|e
     . exact .inl (.one e)
     obtain⟨h1,h2⟩:=mem_crs.mp e;exact .inr ⟨h.sub _ h1,h2⟩
   |cons e _ ih=>
     rcases A0C.mp e with e|e
     . rcases ih with ih|ih
       . exact .inl (.cons e ih)
       exact .inr ⟨(h.mem _ e).1,ih.2⟩
     obtain⟨h1,h2⟩:=mem_crs.mp e;rcases ih with ih|ih
     . exact(F _ (Rr h.mem ih).1 h2).elim
     exact(F _ ih.1 h2).elim
 rintro(g|⟨h1,h2⟩)
 . exact Jc (λp hp=>A0M _ hp) g
 rcases h.up x h1 with q|q
 . exact .one (A12 _ (mem_crs.mpr ⟨q,h2⟩))
 cases hl:lev with
 |nil=>
   rw[h.ne hl] at h1
   cases h1
 |cons e es=>
   have he:e∈lev:=by rw[hl];exact A0B ..
   rw[<- hl];exact(Jc (λp hp=>A0M _ hp) (q e he)).trans (.one (A12 _ (mem_crs.mpr ⟨he,h2⟩)))
theorem Lev.step {done lev fresh:List Str}{S:List (Str×Str)}{many:Nat}(h:Lev done lev S many)(hn:(done++fresh).Nodup)(Y:fresh≠[])(Z:fresh.length<=3):Lev (done++fresh) fresh (S++crs lev fresh) (many*fac fresh.length):=by
 have J:=λx y=>at7 h hn (x:=x) (y:=y);have F:∀ z,z∈done->z∈fresh->False:=λz h1 h2=>(A1E.mp hn).2.2 z h1 z h2 rfl;refine⟨λp hp=>?_,λe he=>A12 _ he,λd hd=>?_,λz=>absurd z Y,λx g=>?_,?_,Z,?_⟩
 . rcases A0C.mp hp with hp|hp
   . exact⟨A0M _ (h.mem p hp).1,A0M _ (h.mem p hp).2⟩
   obtain⟨a,b⟩:=mem_crs.mp hp;exact⟨A0M _ (h.sub _ a),A12 _ b⟩
 . rcases A0C.mp hd with hd|hd
   . exact .inr λe he=>(J d e).mpr (.inr ⟨hd,he⟩)
   exact .inl hd
 . rcases(J x x).mp g with g|g
   . exact h.irr x g
   exact F x g.1 g.2
 . have hb:∀ {x y:Str},Aa (S++crs lev fresh) x y=true↔Way S x y\/(x∈done/\y∈fresh):=wayB_iff.trans (J _ _);rw [Ua done.length rfl hn λx O y q=>⟨hb.mpr (.inr ⟨O,q⟩),?_⟩]
   . have U:cnt (Aa (S++crs lev fresh)) done=cnt (Aa S) done:=Vi done.length rfl (A1E.mp hn).1 λx O y q=>by
      cases e:Aa S x y with
      |true=>exact hb.mpr (.inl (wayB_iff.mp e))
      |false=>
        cases e':Aa (S++crs lev fresh) x y with
        |false=>rfl
        |true=>
          rcases hb.mp e' with g|g
          . rw[wayB_iff.mpr g] at e;cases e
          exact(F y q g.2).elim
     rw[U];exact A2K h.cn (Wb _ fresh rfl (A1E.mp hn).2.1)
   cases e:Aa (S++crs lev fresh) y x with
   |false=>rfl
   |true=>
     rcases hb.mp e with g|g
     . exact(F y (Rr h.mem g).1 q).elim
     exact(F y g.1 q).elim
 have:=h.len;have h4:=A41 fresh.length h.three;rw[A07,ac0,A07];omega
def K6 (K:W.Frag):Sp:=λvs H Q _=>∃ f l,vs=[.ref f]/\Feed H f l/\∀ v ns ps H',ExtBut f H H'->Feed H' f l->Is K H' (hfD ns ps) v->HalfQ ns ps->Q v H'
theorem au0 {ns:List Str}(q:∀ z∈ns,M8 z=true)(a0:ns.length<=10){ps:List (Str×Str)}{D:PyData}{m:Nat}(p:PlanP ns ps D m):HalfW ns ps->ps.length+cnt (Aa ps) ns<=1000->Dk (m+2) (200*cnt (Aa ps) ns-50) 10 D:=by
 induction p with
 |@fin ps row e=>
   intro h _;have hp:=(Sl h e).1;have Y:=hp.length_eq;have h1:=ac9 (au1 (p:=0) (W:=10) (ns:=row) (λz hz=>q z (hp.mem_iff.mp hz)) ∅);have U:cnt (Aa ps) ns=1:=by unfold L2.cnt;rw[e];rfl
   rw[U];refine ac9 ⟨λd hd=>?_,?_,by simp⟩
   . simp only[List.mem_cons,List.not_mem_nil,or_false] at hd;rcases hd with rfl|rfl
     . exact⟨3,Uf (Vm (by rfl)) nofun⟩
     exact⟨_,h1⟩
   have:=h1.wt;have O:("end":Str).cps.size=3:=by rfl
   have h9:=A41 9 (show row.length<=10 by omega);simp only[nmD,PyData.weightAll,PyData.weight] at this ⊢;omega
 |@ask ps x y D E m n hx hy hxy hu _ _ i1 i2=>
   intro h Y;have h2:=Ox h hx hy hxy;have h3:=(Qh h hx hy hxy).mpr hu;have F:=i1 (h.saidP ∅ hx hy hxy hu) (by rw[A07,A16];omega);have J:=i2 (h.saidP ∅ hy hx (Ne.symm hxy) (Ob hu)) (by rw[A07,A16];omega);rw[show 1+max m n+2=(max m n+2)+1 by omega];refine ac9 ⟨λd hd=>?_,?_,by simp⟩
   . simp only[List.mem_cons,List.not_mem_nil,or_false] at hd;rcases hd with rfl|rfl|rfl|rfl|rfl
     . exact⟨3,Uf (Vm (by rfl)) nofun⟩
     . exact⟨8,Uf (Vm (q _ hx)) (Qs (q _ hx))⟩
     . exact⟨8,Uf (Vm (q _ hy)) (Qs (q _ hy))⟩
     . exact⟨_,F.le ∅ (A08 _)⟩
     exact⟨_,J.le ∅ (A08 _)⟩
   have Z:=F.wt;have w2:=J.wt;have l1:x.cps.size<=8:=Qs (q _ hx);have l2:y.cps.size<=8:=Qs (q _ hy);have O:("ask":Str).cps.size=3:=by rfl
   simp only[PyData.weightAll,PyData.weight] at Z w2 ⊢;omega
theorem Wp {f:Addr}{fd:FuncData}(F:Fun K "_law_few" "_law_few" Gb f fd)(T:Ey mg)(A8:Fnd P w K mg base 1 "_law_draw" ["_law_feed_here","_law_many"] (C0 K))(Dy:Fnd P w K mg base 2 "_law_names" ["_law_feed_here","_law_many"] (Ga K))(Bs:Fnd P w K mg base 2 "_law_shuffled" ["_law_feed_here","_law_some"] (Df K))(Eu:Fnd P w K mg base 4 "_law_half" ["_law_feed_here","_law_most"] (Gv K)):FnOk P w K mg base CX0 5 f fd ["_law_feed_here"] (K6 K):=by
 refine F.ok B2 (λvs H Q E h=>?_) (λcF A outer s H vs Q E U h=>?_)
 . obtain⟨f,l,rfl,_⟩:=h;rfl
 obtain⟨f,l,rfl,hF,k⟩:=h;have hu:=Bj U;have hq:=Bi U
 with_reducible refine⟨_,(A3 (Co (Aj (Ck (K:=K) hq) (Aq A8 (U.mono nofun) ⋯ (A1 (pv 0) (A1 A5 A2))) A5 (Aw _)) (A7 (Ao (Aq Eu (U.mono nofun) ⋯ (A1 (pv 0) (A1 A5 A2))))) Ay)
  (A3 (A9 (i:=1) B2.nd ⋯ (by eq_refl) (Aq Dy (U.mono nofun) ⋯ (A1 (pv 0) (A1 (Aq A8 (U.mono nofun) ⋯ (A1 (pv 0) (A1 A5 A2))) A2))))
  (A3 (A9 (i:=2) B2.nd ⋯ (by eq_refl) (Aq Bs (U.mono nofun) ⋯ (A1 (pv 0) (A1 (pv 1) A2))))
  (A3 (A9 (i:=3) B2.nd ⋯ (by eq_refl) (Ci A2))
  (A3 (A9 (i:=4) B2.nd ⋯ (by eq_refl) (Ci A2))
  (A3 (A9 (i:=5) B2.nd ⋯ (by eq_refl) A5)
  (A3 (Xq A0X (Aj (Nz (K:=K) hq) (pv 2) (Ci A2) (Aw _))
  (A3 (A9 (i:=6) B2.nd ⋯ (by eq_refl) (Am (ai6 ⋯) ⋯ T.b_min PyProof.Rows.Boot.«min» (A1 (Am (Bp (K:=K)) ⋯ T.b_len PyProof.Rows.Boot.«len» (A1 (pv 2) A2)) (A1 (Ad (A6 (K:=K) hu) (Ci (A1 A5 (A1 A5 (A1 A5 (A1 A5 A2))))) (Aq A8 (U.mono nofun) ⋯ (A1 (pv 0) (A1 A5 A2))) (by ac_rfl)) A2))))
  (A3 (Co (Aj W9 (Ap Dh (pv 5) (Ad (A6 (K:=K) hu) (Ci (A1 A5 (A1 A5 (A1 A5 (A1 A5 A2))))) (pv 6) (by ac_rfl))) A5 (Aw _)) (A7 (A9 (i:=6) B2.nd ⋯ (by eq_refl) A5)) Ay)
  (A3 (A9 (i:=5) B2.nd ⋯ (by eq_refl) (Ap Dh (pv 5) (Ad (A6 (K:=K) hu) (Ci (A1 A5 (A1 A5 (A1 A5 (A1 A5 A2))))) (pv 6) (by ac_rfl))))
  (A3 (A9 (i:=7) B2.nd ⋯ (by eq_refl) (Bt (Sz (K:=K)) (pv 2) Fb (Bq (pv 6))))
  (A3 (A9 (i:=2) B2.nd ⋯ (by eq_refl) (Bt (Sz (K:=K)) (pv 2) (Bq (pv 6)) Fb))
  (A3 (C5 A0X ⋯ (Ar (K:=K) hu (pv 3)) (Ag (i:=8) B2.nd ⋯ (by with_unfolding_all exact A37 rfl))
  (A7 (A9 (i:=4) B2.nd ⋯ (by eq_refl) (Ap (An (K:=K)) (pv 4) (C2 ["_law_other"] ["_law_one"] [8] ⋯ ⋯ ⋯ (Ar (K:=K) hu (pv 7)) (λ_ _ _ _=>(Ag (i:=0) (by with_unfolding_all (show(["_law_other","_law_one"]:List Str).Nodup;decide +kernel)) ⋯ (by eq_refl))) (Bf nofun) (λ_ _ _ _=>El) (λ_ _ _ _=>(B6 (A1 (pv 1) (A1 (pv 0) A2)))))))))
  (A7 (A9 (i:=3) B2.nd ⋯ (by eq_refl) (pv 7))))))))))
  (A7 (Ao (B6 (A1 (B0 (Cq (K:=K)) ⋯ T.b_tuple PyProof.Rows.Boot.«tuple» (A1 (pv 1) A2)) (A1 (B0 (Cq (K:=K)) ⋯ T.b_tuple PyProof.Rows.Boot.«tuple» (A1 (Aq Bs (U.mono nofun) ⋯ (A1 (pv 0) (A1 (pv 4) A2))) A2)) A2)))))))))))),?_⟩
 symm
 refine⟨f,l,_,rfl,hF,by omega,by omega,λu H1 d8 d9 e1 b8=>?_⟩
 symm
 refine Km (λhc=>?_) (λhc=>?_)
 . symm
   refine⟨f,l,_,rfl,b8,by omega,by omega,λv ns ps H2 e2 aP hI hH hl=>?_⟩;exact k v ns ps H2 (e1.trans e2) aP hI (ar8 hH ∅)
 symm
 refine⟨f,l,_,rfl,b8,by omega,by omega,λu2 H2 dA dB e2 aP=>?_⟩
 symm
 refine⟨f,l,_,rfl,aP,by omega,by omega,λp3 ns H3 cY e3 b9 h3 hN cR=>?_⟩
 symm
 refine⟨f,l,p3,_,rfl,b9,.inl (SqL.of h3),by rw[A01];omega,λp4 dK H4 cZ e4 bA h4 c6=>?_⟩;obtain⟨sh,rfl,a5⟩:=To c6;have b5:=e4 _ _ (b9.lst h3) h3;have bF:sh.Nodup:=a5.nodup_iff.mpr hN.1;have d4:=a5.length_eq
 symm
 refine Ch (Ab (by simp)) λp5 H5 d0 e5 h5=>?_
 symm
 refine Ch (Ab (by simp)) λp6 H6 d1 e6 h6=>?_
 symm
 have aH:=e5.trans e6
 refine ag3 (λmm σ H'=>∃ lf lv sy rest done lev S,∃ many:Nat,∃ x6 x7 x8,∃ zs,σ=[some (.ref f),some (.ref p3),some (.ref lf),some (.ref lv),some (.ref sy),some (.int ((many:Nat):Int)),x6,x7,x8]/\ExtBut f H4 H'/\Feed H' f l/\H' lf=some (.lst (rest.map V.str))/\H' lv=some (.lst (lev.map V.str))/\H' sy=some (.lst zs)/\IsL K H' (S.map prD) zs/\sh=done++rest/\Lev done lev S many/\1<=many/\many<=24/\mm=rest.length) sh.length
  ⟨p4,p5,p6,sh,[],[],[],1,_,_,_,[],rfl,aH.but,bA.same aH,aH _ _ h4,e6 _ _ h5,h6,.nil,rfl,am5,A08 _,by omega,rfl⟩ (λmm σ' H7 hP=>?_)
 obtain⟨lf,lv,sy,rest,done,lev,S,many,x6,x7,x8,zs,rfl,b7,bB,aN,b6,aO,aR,aB,hV,c3,cP,rfl⟩:=hP;have c9:∀ z∈rest,z∈ns:=λz hz=>a5.mem_iff.mp (by rw[aB];exact A12 _ hz);have cO:done.length+rest.length=sh.length:=by rw[aB,A07]
 symm
 refine Ch nofun λt8 H8 d7 O h8=>?_;refine aT3 (dx:=.list (rest.map PyData.str)) (dy:=.list []) (Is.of_lst (SqL.of (O _ _ aN)) (Ov rest)) (Is.of_lst (SqL.of h8) .nil) (am4 λz hz=>(Z4 (hN.2 z (c9 z hz))).1) (by rfl) ?_;rw[Vc]
 symm
 refine Vg (λhE=>?_) (λhE=>?_)
 . have c5:rest≠[]:=by
    intro e;subst e
    cases hE
   have d3:=A52.mpr c5;have a2:=bB.same O;refine ap4 ?_
   symm
   refine Ch (Ab (by simp)) λp9 H9 d2 e9 h9=>?_;have a3:=a2.same e9
   symm
   refine⟨f,l,_,rfl,a3,by omega,by omega,λw bH dC dD a0 aF=>?_⟩;have aE:=a3.fz a0;have bO:=a0 _ _ (a3.lst h9) h9
   obtain⟨c,hc3,hat⟩:∃ c:Int,(1<=c/\c<=3)/\atI [V.int 1,V.int 1,V.int 2,V.int 3] w=some (V.int c):=by
    rcases(show w=0\/w=1\/w=2\/w=3 by omega) with rfl|rfl|rfl|rfl
    . exact⟨1,by omega,rfl⟩
    . exact⟨1,by omega,rfl⟩
    . exact⟨2,by omega,rfl⟩
    exact⟨3,by omega,rfl⟩
   symm
   refine Ln bO hat ?_
   symm
   refine⟨_,_,rfl,?_⟩
   obtain⟨J,hs0,hs1⟩:∃ J:Nat,(1<=J/\J<=3/\J<=rest.length)/\(if c<((rest.map V.str).length:Int) then c else((rest.map V.str).length:Int))=(J:Int):=by
    rw[A01]
    split
    . exact⟨c.toNat,by omega,by omega⟩
    exact⟨rest.length,by omega,rfl⟩
   walk_at "rq";rw[hs1];refine Vj (fun σ' H'=>∃ sz:Nat,σ'=[some (.ref f),some (.ref p3),some (.ref lf),some (.ref lv),some (.ref sy),some (.int ((many:Nat):Int)),some (.int ((sz:Nat):Int)),x7,x8]/\ExtBut f H8 H'/\Feed H' f l/\Fz H8 H'/\1<=sz/\sz<=3/\sz<=rest.length/\many*fac sz<=24) (λN bC=>?_) (fun σ' H' hM=>?_)
   . have aS:atI [V.int 1,V.int 1,V.int 2,V.int 6] (J:Int)=some (V.int ((fac J:Nat):Int)):=by rcases(show J=1\/J=2\/J=3 by omega) with rfl|rfl|rfl<;>rfl
     have cL:fac J<=6:=by rcases(show J=1\/J=2\/J=3 by omega) with rfl|rfl|rfl<;>decide
     symm
     refine Ch (Ab (by simp)) λdH aW cT Y bP=>?_
     symm
     refine Ln bP aS ?_
     symm
     have b0:ExtBut f H8 aW:=(ExtBut.after e9 a0).same Y;have b1:=(e9.fz.trans aE).trans Y.fz;refine Km (λhb=>?_) (λhb=>?_)
     . symm
       exact bC _ _ ⟨1,rfl,b0,aF.same Y,b1,by omega,by omega,by omega,by show many*1<=24;omega⟩
     symm
     exact bC _ _ ⟨J,rfl,b0,aF.same Y,b1,by omega,by omega,by omega,by rw[<- A4U] at hb;omega⟩
   obtain⟨sz,rfl,aC,bU,bM,dE,cA,dF,cB⟩:=hM
   have aS:atI [V.int 1,V.int 1,V.int 2,V.int 6] (sz:Int)=some (V.int ((fac sz:Nat):Int)):=by rcases(show sz=1\/sz=2\/sz=3 by omega) with rfl|rfl|rfl<;>rfl
   have b2:=aC _ _ (a2.lst (O _ _ aN)) (O _ _ aN);have b3:=aC _ _ (a2.lst (O _ _ b6)) (O _ _ b6);have bQ:=aC _ _ (a2.lst (O _ _ aO)) (O _ _ aO)
   symm
   refine Ch (Ab (by simp)) λdI aX cU Z aJ=>?_
   symm
   refine Ln aJ aS ?_
   symm
   refine Mn (SqL.of (Z _ _ b2)) λaV cE cV aZ aK=>?_
   symm
   refine Mn (SqL.of (aZ _ _ (Z _ _ b2))) λbG bI cW aG b4=>?_;rw[Ib ∅,Int.toNat_natCast,<- A3M] at aK;rw[Kr ∅ (by rw[A01];omega),Int.toNat_natCast,<- A43] at b4;have a8:=(Z.trans aZ).trans aG
   symm
   refine Ju (SqL.of (a8 _ _ b3)) ?_
   refine Ej (Bg (xs:=lev.map V.str)) (λj σ' H'=>∃ a6 a7 y8,σ'=[some (.ref f),some (.ref p3),some (.ref bG),some (.ref lv),some (.ref a6),some (.int (((many*fac sz:Nat)):Int)),some (.int ((sz:Nat):Int)),some (.ref aV),y8]/\Same bI H'/\H' a6=some (.lst a7)/\IsL K H' ((S++crs (lev.take j) (rest.take sz)).map prD) a7)
    ⟨sy,zs,_,by rw[A4U];rfl,.refl _,a8 _ _ bQ,?_⟩ (λj σ' H' hP=>?_) (λj x σ' bJ hx hj hP=>?_) (fun σ' bJ hP=>?_)
   . rw[List.take_zero,show crs [] (rest.take sz)=[] from rfl,A27];exact IsL.fz ((O.fz.trans bM).trans a8.fz) _ _ (Bz S) aR
   . obtain⟨a6,a7,y8,_,e,_⟩:=hP;exact SqL.of (e _ _ (a8 _ _ b3))
   . obtain⟨a6,a7,y8,rfl,a1,aL,aA⟩:=hP;rw[A06] at hx;obtain⟨z,hz,rfl⟩:=A29.mp hx;have bR:=a1 _ _ (aG _ _ aK);have aU:=IsL.length aA;rw[A01,A07,ac0] at aU;have cI:=A2K (A53 j lev) (A53 sz rest);have cJ:=Nat.mul_le_mul_left j cA;have cM:j<=3:=by rw[A01] at hj;have:=hV.three;omega
     have bY:=hV.len
     symm
     refine Y2 (ns:=rest.take sz) ⟨aV,rfl,.inl (SqL.of bR)⟩ (λ_=>true) (λo=>prD (z,o)) (λ_=>Gx _) (by rw[A10];omega) (λjj o bK R R' ho aD hR cG=>?_) (λlc yc bK cN aD bS aQ=>?_)
     . symm
       refine B5 (Ab (by simp)) λdJ bL d6 a9 aM=>?_;exact hR rfl _ _ a9 (Is.of_tup (SqT.of aM) (.cons Iu (.one Iu)))
     have c2:(rest.take sz).filter (λ_=>true)=rest.take sz:=A3A.mpr λ_ _=>rfl;rw[c2] at aQ;have bZ:=IsL.length aQ;rw[A01,A10] at bZ
     symm
     refine Vk (aD _ _ aL) bS (Ab ∅) λcC bL cX a9 aM=>?_
     symm
     refine⟨cC,_,_,rfl,(a1.trans aD).trans a9,aM,?_⟩
     have c0:S++crs (lev.take (j+1)) (rest.take sz)=(S++crs (lev.take j) (rest.take sz))++(rest.take sz).map λo=>(z,o):=by rw[A0S,hz];unfold crs;simp[List.flatMap_append]
     rw[c0,A13,A1A];exact IsL.append (IsL.fz (aD.trans a9).fz _ _ (Bz _) aA) (IsL.fz a9.fz _ _ (De _ (λ_=>Gx _) _) aQ)
   obtain⟨a6,a7,y8,rfl,a1,aL,aA⟩:=hP;rw[A01,A0U] at aA;have bE:sh=(done++rest.take sz)++rest.drop sz:=by rw[A1Z,A4S];exact aB
   have aT:(rest.take sz).length=sz:=by rw[A10];omega
   have c4:(done++rest.take sz).Nodup:=by rw[bE] at bF;exact(A1E.mp bF).1
   have bD:=hV.step c4 (λq=>by rw[q] at aT;simp at aT;omega) ∅;rw[aT] at bD;have c1:1<=fac sz:=by rcases(show sz=1\/sz=2\/sz=3 by omega) with rfl|rfl|rfl<;>decide
   have cQ:=A2K c3 c1;have aY:=a8.trans a1
   symm
   exact⟨(rest.drop sz).length,by rw[A1B];omega,bG,aV,a6,rest.drop sz,done++rest.take sz,rest.take sz,S++crs lev (rest.take sz),many*fac sz,_,_,_,a7,rfl,(((b7.same O).trans aC).same aY),bU.same aY,a1 _ _ b4,a1 _ _ (aG _ _ aK),aL,aA,bE,bD,by omega,cB,rfl⟩
 have c8:rest=[]:=by
  cases rest with
  |nil=>rfl
  |cons z zs=>cases hE
 subst c8;rw[A27] at aB;subst aB;have a2:=bB.same O;have bT:H8 p3=some (.lst (ns.map V.str)):=O _ _ (b7 _ _ (bA.lst b5) b5)
 symm
 refine ad2 bT (Ov ns) λtv H9 e9 bV=>?_;have a3:=a2.same e9;have aI:=O.trans e9;have aU:=IsL.length aR;rw[A01] at aU;have bY:=hV.len
 symm
 refine⟨f,l,sy,zs,rfl,a3,.inl (SqL.of (aI _ _ aO)),by omega,λdG ys bH cS a0 aF bN c7=>?_⟩;have aE:=a3.fz a0;obtain⟨S',a4,bW⟩:=ah7 c7 (IsL.fz (aI.fz.trans aE) _ _ (Bz S) aR)
 symm
 refine Rm bN bW λpv aW Y bX=>?_
 symm
 refine B5 (Ab (by simp)) λcD aX d5 Z aJ=>?_
 symm
 have hw:Aa S'=Aa S:=funext λx=>funext λy=>by
  cases e:Aa S x y with
  |true=>exact wayB_iff.mpr (Jc (λp hp=>a4.mem_iff.mpr hp) (wayB_iff.mp e))
  |false=>
    cases e':Aa S' x y with
    |false=>rfl
    |true=>rw[wayB_iff.mpr (Jc (λp hp=>a4.mem_iff.mp hp) (wayB_iff.mp e'))] at e;cases e
 have cH:=a4.length_eq
 have cK:cnt (Aa S') ns<=many:=by rw[hw,<- ak7 hN.1 a5];exact hV.cn
 exact k (.ref cD) ns S' aX (((((((e1.trans e2).trans e3).trans e4).trans b7).same aI).trans a0).same (Y.trans Z)) (aF.same (Y.trans Z)) (ag7 (SqT.of aJ) (bV.nm_fz (aE.trans (Y.trans Z).fz)) (bX.ps_fz Z.fz))
  ⟨⟨hN.1,λp hp=>⟨a5.mem_iff.mp (hV.mem p (a4.mem_iff.mp hp)).1,a5.mem_iff.mp (hV.mem p (a4.mem_iff.mp hp)).2⟩,λx g=>hV.irr x (Jc (λp hp=>a4.mem_iff.mp hp) g),by omega,by omega⟩,hN.2,by omega,by omega,by omega⟩
theorem Ro {ps qs:List (Str×Str)}(h:Aa ps=Aa qs)(p:Str×Str):Aa (ps++[p])=Aa (qs++[p]):=by
 have q:∀ a b,Way ps a b↔Way qs a b:=λa b=>by rw[<- wayB_iff,<- wayB_iff,h]
 funext a b;exact Pf (by rw[show p=(p.1,p.2) from rfl,way_said,way_said,q,q,q])
theorem al4 {ps qs:List (Str×Str)}(h:Aa ps=Aa qs)(ns:List Str):unP ns ps=unP ns qs:=by unfold unP unK unR unB;rw[h]
theorem a82 {ps qs:List (Str×Str)}(h:Aa ps=Aa qs)(ns:List Str)(p:Str×Str):qMn ns ps p=qMn ns qs p:=by unfold qMn qA qB;rw[Ro h,Ro h]
inductive PlanB (ns:List Str):List (Str×Str)->PyData->Nat->Prop
 |fin {ps:List (Str×Str)} {row:List Str} (he:ext (Aa ps) ns.length ns=[row]):PlanB ns ps (aF4 row) 0
 |ask {ps:List (Str×Str)} {x y:Str} {D1 D2:PyData} {m1 m2:Nat} (hp:(x,y)∈unP ns ps) (hb:∀ p'∈unP ns ps,qMn ns ps p'<=qMn ns ps (x,y)) (p1:PlanB ns (ps++[(x,y)]) D1 m1) (p2:PlanB ns (ps++[(y,x)]) D2 m2):PlanB ns ps (aR4 x y D1 D2) (1+max m1 m2)
theorem PlanB.congr {ns:List Str}{ps:List (Str×Str)}{D:PyData}{m:Nat}(h:PlanB ns ps D m):∀ {qs:List (Str×Str)},Aa ps=Aa qs->PlanB ns qs D m:=by
 induction h with
 |fin he=>intro qs e;exact .fin (by rw[<- e];exact he)
 |@ask ps x y D1 D2 m1 m2 hp hb _ _ i1 i2=>intro qs e;have hu:=al4 e ns;exact .ask (by rw[<- hu];exact hp) (λF q=>by rw[<- a82 e,<- a82 e];exact hb F (by rw[hu];exact q)) (i1 (Ro e _)) (i2 (Ro e _))
theorem PlanB.p {ns:List Str}{ps:List (Str×Str)}{D:PyData}{m:Nat}(hn:ns.Nodup)(h:PlanB ns ps D m):PlanP ns ps D m:=by
 induction h with
 |fin he=>exact .fin he
 |ask hp _ _ _ i1 i2=>obtain⟨h1,h2,q⟩:=M3 hp;exact .ask h1 h2 (Uu hn hp) q i1 i2
theorem aH5 {ns:List Str}{ps:List (Str×Str)}(h:HalfW ns ps)(hu:unP ns ps=[]):∃ row,ext (Aa ps) ns.length ns=[row]:=by
 have F:cnt (Aa ps) ns=1:=by
  have Z:=Kc (b:=Aa ps) (λx=>Iy h x) (λx y z a b=>wayB_iff.mpr ((wayB_iff.mp a).trans (wayB_iff.mp b))) ns.length ns rfl h.nd;rcases Nat.lt_or_ge 1 (cnt (Aa ps) ns) with q|q
  . obtain⟨x,O,y,Y,U,J⟩:=aA9 h q;have:=aq3 U J O Y;rw[hu] at this;simp at this
  omega
 exact List.length_eq_one_iff.mp F
def Dc (P:Addr)(K:W.Frag)(n:Nat):Sp:=λvs H Q _=>∃ v ns ps,vs=[v]/\Is K H (hfD ns ps) v/\HalfW ns ps/\ns.length<=10/\ps.length<=60/\cnt (Aa ps) ns<=n/\LmT P H/\∀ u D m H',ExtBut P H H'->LmT P H'->PlanB ns ps D m->Is K H' D u->Q u H'
def Ip (P:Addr)(K:W.Frag):Sp:=Dc P K 125
theorem K3 {P:Addr}{K:W.Frag}:∀ vs H Q E,¬ Dc P K 0 vs H Q E:=by rintro vs H Q E ⟨v,ns,ps,_,_,h,_,_,q,_⟩;have F:=Kc (b:=Aa ps) (λx=>Iy h x) (λx y z a b=>wayB_iff.mpr ((wayB_iff.mp a).trans (wayB_iff.mp b))) ns.length ns rfl h.nd;omega
theorem aS7 {P:Addr}{H H':Hp}(q:LmT P H)(e:ExtBut P H H'):Fz H H':=by obtain⟨ps,F⟩:=Hb q;exact Xh e F
theorem Pm {f:Addr}{fd:FuncData}(F:Fun K "planned_on" "planned_on" Cm f fd)(T:Ey mg){a0:Addr}(Qk:Fnd P w K mg base 5 "said" ["half","name","other"] (R6 K))(Hn:Fnd P w K mg base 26 "order_of" ["half","number"] (Ie K))(T9:Fnd P w K mg base 16 "best" ["half"] (Sb a0 K))(n:Nat)(Dr:Fnd P w K mg base (27+n) "planned_on" ["half"] (Dc a0 K n)):FnOk P w K mg base CX0 (27+n+1) f fd ["half"] (Dc a0 K (n+1)):=by
 refine F.ok G5 (λvs H Q E h=>?_) (λaS A outer s H vs Q E J h=>?_)
 . obtain⟨v,ns,ps,rfl,_⟩:=h;rfl
 obtain⟨v,ns,ps,rfl,hI,q,U,aT,aU,hT,k⟩:=h;have hu:=Bj J;have hq:=Bi J
 with_reducible refine⟨_,(A3 (A9 (i:=1) G5.nd ⋯ (by eq_refl) (Aq T9 (J.mono ∅) ⋯ (A1 (pv 0) A2)))
  (A3 (Co (Aj aK4 (pv 1) Qd (Aw _)) (A7 (Ao (B6 (A1 B3 (A1 (Aq Hn (J.mono ∅) ⋯ (A1 (pv 0) (A1 A5 A2))) A2))))) Ay)
  (A3 (A9 (i:=2) G5.nd ⋯ (by eq_refl) (Ad (A6 (K:=K) hu) (Ad (A6 (K:=K) hu) (pv 1) A5 (by ac_rfl)) A5 (by ac_rfl)))
  (A3 (A9 (i:=3) G5.nd ⋯ (by eq_refl) (Ad (A6 (K:=K) hu) (Ad (A6 (K:=K) hu) (pv 1) A5 (by ac_rfl)) A5 (by ac_rfl)))
  (A7 (Ao (B6 (A1 B3 (A1 (pv 2) (A1 (pv 3) (A1 (Aq Dr (J.mono ∅) ⋯ (A1 (Aq Qk (J.mono ∅) ⋯ (A1 (pv 0) (A1 (pv 2) (A1 (pv 3) A2)))) A2)) (A1 (Aq Dr (J.mono ∅) ⋯ (A1 (Aq Qk (J.mono ∅) ⋯ (A1 (pv 0) (A1 (pv 3) (A1 (pv 2) A2)))) A2)) A2)))))))))))),?_⟩
 symm
 refine⟨v,ns,ps,rfl,hI,q,U,hT,λu1 H1 e1 a4 hB=>?_⟩;have aC:=aS7 hT e1;have a1:=hI.hf_fz aC;rcases hB with ⟨rfl,aR⟩|⟨p,hp,aK,aN⟩
 . obtain⟨row,a9⟩:=aH5 q aR
   symm
   refine⟨v,ns,ps,0,row,rfl,a1,q,U,by rw[a9];rfl,λu2 H2 e2 a2=>?_⟩
   symm
   refine B5 (Ab (by simp)) λt3 H3 aW e3 h3=>?_;have a3:=e2.trans e3;exact k _ _ 0 H3 (ExtBut.same e1 a3) (a4.same a3) (.fin a9) (Is.of_tup (SqT.of h3) (.cons Iu (.one (a2.nm_fz e3.fz))))
 obtain⟨Z,hy,O⟩:=M3 hp;have Y:=Uu q.nd hp;obtain⟨qa,qx,rfl,a8,aQ⟩:=Is.tup aK;obtain⟨pv,q1,rfl,aJ,_⟩:=Bc aQ;obtain⟨pa,px,rfl,a7,aO⟩:=Is.tup aJ;have aP:=IsL.str_eq (ns:=[p.1,p.2]) aO;subst aP
 symm
 refine Km (λz=>by cases z) (λ_=>?_)
 symm
 refine Cz a8 (show atI (V.ref pa :: q1) ((0:Nat):Int)=some (.ref pa) from Dz rfl) ?_
 symm
 refine Cz a7 (show atI _ 0=some (.str p.1) from rfl) ?_
 symm
 refine Cz a8 (show atI (V.ref pa :: q1) ((0:Nat):Int)=some (.ref pa) from Dz rfl) ?_
 symm
 refine Cz a7 (show atI _ 1=some (.str p.2) from rfl) ?_;have aV:=Ox q Z hy Y;obtain⟨aY,aZ⟩:=(Qh q Z hy Y).mpr O
 have aA:¬ Way ps p.2 p.1:=λz=>by have:=wayB_iff.mpr z;unfold unB at O;rw[this] at O;simp at O
 have aB:¬ Way ps p.1 p.2:=λz=>by have:=wayB_iff.mpr z;unfold unB at O;rw[this] at O;simp at O
 obtain⟨b1,l1,w1⟩:=(q.said Z hy Y aA ∅).ba10 U;obtain⟨b2,l2,w2⟩:=(q.said hy Z (Ne.symm Y) aB ∅).ba10 U;have c1:Aa (baP ns (ps++[(p.1,p.2)]))=Aa (ps++[(p.1,p.2)]):=funext λa=>funext λb=>Pf (w1 a b);have c2:Aa (baP ns (ps++[(p.2,p.1)]))=Aa (ps++[(p.2,p.1)]):=funext λa=>funext λb=>Pf (w2 a b)
 symm
 refine⟨v,p.1,p.2,ns,ps,rfl,a1,q,by omega,Z,hy,Y,aA,λu2 H2 e2 a2=>?_⟩;have a5:=a4.same e2
 symm
 refine⟨u2,ns,_,rfl,a2,b1,U,l1,by rw[c1];omega,a5,λu3 D1 m1 H3 e3 aL p1 aG=>?_⟩;have aD:=aS7 a5 e3;have aF:=(a1.hf_fz e2.fz).hf_fz aD
 symm
 refine⟨v,p.2,p.1,ns,ps,rfl,aF,q,by omega,hy,Z,Ne.symm Y,aB,λu4 H4 e4 aH=>?_⟩;have a6:=aL.same e4
 symm
 refine⟨u4,ns,_,rfl,aH,b2,U,l2,by rw[c2];omega,a6,λu5 D2 m2 H5 e5 aM p2 aI=>?_⟩;have aE:=aS7 a6 e5
 symm
 refine B5 (Ab (by simp)) λt6 H6 aX e6 h6=>?_;have q1:=p1.congr c1;have q2:=p2.congr c2;refine k _ _ _ H6 (((ExtBut.same e1 e2).trans e3).same e4 |>.trans e5 |>.same e6) (aM.same e6) (.ask hp aN q1 q2) (Is.of_tup (SqT.of h6) (.cons Iu (.cons Iu (.cons Iu (.cons ?_ (.one ?_))))))
 . exact Is.fz ((e4.fz.trans aE).trans e6.fz) _ _ (Jm (q1.p q.nd)) aG
 exact Is.fz e6.fz _ _ (Jm (q2.p q.nd)) aI
theorem Rq {f:Addr}{fd:FuncData}(F:Fun K "planned_on" "planned_on" Cm f fd)(T:Ey mg){q:Addr}(Qk:Fnd P w K mg base 5 "said" ["half","name","other"] (R6 K))(Hn:Fnd P w K mg base 26 "order_of" ["half","number"] (Ie K))(J:Fnd P w K mg base 16 "best" ["half"] (Sb q K))(hm:mg "planned_on" = some (.ref f))(O:W.keepIn K (.ref f)=true)(hb:Binds K fd ["half"] []):FnOk P w K mg base CX0 152 f fd ["half"] (Ip q K):=by
 have h:∀ n:Nat,FnOk P w K mg base CX0 (27+n) f fd ["half"] (Dc q K n):=λn=>by
  induction n with
  |zero=>exact FnOk.void K3
  |succ n ih=>exact Pm F T Qk Hn J n ⟨f,fd,ih,hm,O,hb⟩
 exact h 125
def Lr (P:Addr)(K:W.Frag):Sp:=λvs H Q _=>∃ v ns ps,vs=[v]/\Is K H (hfD ns ps) v/\HalfW ns ps/\ns.length<=10/\ps.length<=60/\cnt (Aa ps) ns<=125/\LmT P H/\∀ u D m H',ExtBut P H H'->LmT P H'->PlanB ns ps D m->Is K H' D u->Q u H'
theorem Zr {f:Addr}{fd:FuncData}(F:Fun K "planned" "planned" Hi f fd)(T:Ey mg){O:Addr}(Wl:Fnd P w K mg base 14 "count" ["half"] (Sf K))(Dr:Fnd P w K mg base 152 "planned_on" ["half"] (Ip O K)):FnOk P w K mg base CX0 153 f fd ["half"] (Lr O K):=by
 refine F.ok Z6 (λvs H Q E h=>?_) (λa4 A outer s H vs Q E q h=>?_)
 . obtain⟨v,ns,ps,rfl,_⟩:=h;rfl
 obtain⟨v,ns,ps,rfl,Y,Z,U,a0,a3,hT,k⟩:=h;have hu:=Bj q;have hq:=Bi q
 with_reducible refine⟨_,(A3 (Co (Aj W9 (Aq Wl (q.mono nofun) ⋯ (A1 (pv 0) A2)) (aS5 ⋯ T.g_MOST_LISTED) (Aw _)) (A7 La) Ay)
  (A7 (Ao (Aq Dr (q.mono nofun) ⋯ (A1 (pv 0) A2))))),?_⟩
 symm
 refine⟨v,ns,ps,rfl,Y,Z.c,U,λH1 J=>?_⟩
 symm
 refine Km (λhc=>absurd hc ∅) (λ_=>?_)
 symm
 exact ⟨v,ns,ps,rfl,Y.hf_fz J.fz,Z,U,a0,a3,hT.same J,λu D m H2 e2 a2 hB a1=>k u D m H2 (λb o hb z=>e2 _ _ hb (J _ _ z)) a2 hB a1⟩
def J7 (K:W.Frag):Sp:=λvs H Q _=>∃ f l v ns ps,vs=[.ref f,v]/\Feed H f l/\Is K H (hfD ns ps) v/\NmP ps/\ps.length<=60/\∀ u ps' H',ExtBut f H H'->Feed H' f l->Is K H' (hfD ns ps') u->ps'.length<=60->(∀ p,p∈ps'↔p∈ps)->Q u H'
theorem ac8 {K:W.Frag}{H:Hp}{ds:List PyData}{vs:List V}(h:IsL K H ds vs):∀ n:Nat,IsL K H (List.replicate n ds).flatten (List.replicate n vs).flatten
 |0=>.nil
 |n+1=>by rw[A1T,A2N,A1T,A2N];exact IsL.append h (ac8 h n)
theorem Td {f:Addr}{fd:FuncData}(F:Fun K "_law_full" "_law_full" Ez f fd)(T:Ey mg)(A8:Fnd P w K mg base 1 "_law_draw" ["_law_feed_here","_law_many"] (C0 K)):FnOk P w K mg base CX0 2 f fd ["_law_feed_here","_law_half_here"] (J7 K):=by
 refine F.ok Ve (λvs H Q E h=>?_) (λaB A outer s H vs Q E Y h=>?_)
 . obtain⟨f,l,v,ns,ps,rfl,_⟩:=h;rfl
 obtain⟨f,l,v,ns,ps,rfl,hF,hI,a6,a0,k⟩:=h;have hu:=Bj Y;have hq:=Bi Y
 with_reducible refine⟨_,(A3 (Co (PW.pt (Wj (Aj (Ck (K:=K) hq) (Ad (A6 (K:=K) hu) (pv 1) A5 (by ac_rfl)) (B6 A2) (Aw _)) (Qt (Aj W9 (Aq A8 (Y.mono nofun) ⋯ (A1 (pv 0) (A1 A5 A2))) A5 (Aw _))))) (A7 (Ao (pv 1))) Ay)
  (A7 (Ao (B6 (A1 (Ad (A6 (K:=K) hu) (pv 1) A5 (by ac_rfl)) (A1 (Bt (Sz (K:=K)) (Ap (ak2 (K:=K)) (Ad (A6 (K:=K) hu) (pv 1) A5 (by ac_rfl)) A5) Fb (Bq A5)) A2)))))),?_⟩
 symm
 refine T6 hI λpv hP=>?_
 symm
 refine B5 (Ab (by simp)) λt H1 aC q h1=>?_;refine aA1 (hP.ps_fz q.fz) (Is.of_tup (ds:=[]) (SqT.of h1) .nil) (aD3 a6 ∅).shaped (by rfl) ?_;have a1:Feed H1 f l:=hF.same q;have a3:=hI.hf_fz q.fz
 cases ps with
 |nil=>
   rw[show PyData.eqv (psD []) (.tuple [])=true from rfl]
   symm
   exact k v [] H1 q.but a1 a3 (by simp) (λp=>Iff.rfl)
 |cons p0 qs=>
   rw[show PyData.eqv (psD (p0 :: qs)) (.tuple [])=false from by simp[psD,PyData.eqv,PyData.eqvAll]]
   symm
   refine⟨f,l,_,rfl,a1,by omega,by omega,λu H2 aF aG e2 a2=>?_⟩;have a5:Fz H1 H2:=by walk_at "fz"
   have U:=a3.hf_fz a5
   symm
   refine Km (λhc=>?_) (λhc=>?_)
   . symm
     exact k v (p0 :: qs) H2 (ExtBut.after q e2) a2 U a0 (λp=>Iff.rfl)
   symm
   refine Gy U λnv hN=>?_
   symm
   refine T6 U λpw a8=>?_;obtain⟨pa,xs,rfl,hS,hL⟩:=Is.tup a8;have Z:=IsL.length hL;rw[A01] at Z
   symm
   refine aK8 hS ⟨by omega,by omega⟩ (λz=>by rw[z] at Z;simp at Z) ∅ λt3 H3 aD e3 h3=>?_
   symm
   refine aA4 (SqT.of h3) λt4 H4 e4 h4=>?_
   symm
   refine B5 (Ab (by simp)) λt5 O aE e5 h5=>?_
   symm
   have aA:Pr (List.replicate (60:Int).toNat xs).flatten none (some 60)=(List.replicate 60 xs).flatten.take 60:=Ib nofun;have J:Same H2 O:=(e3.trans e4).trans e5;rw[aA] at h4
   have a7:IsL K O ((((List.replicate 60 (p0 :: qs)).flatten.take 60)).map prD) ((List.replicate 60 xs).flatten.take 60):=by rw[A3M,List.map_flatten,List.map_replicate];exact IsL.take 60 (ac8 (IsL.mono J _ _ hL) 60)
   refine k (.ref t5) ((List.replicate 60 (p0 :: qs)).flatten.take 60) O (ExtBut.same (ExtBut.after q e2) J) (a2.same J) (ag7 (SqT.of h5) (hN.nm_fz J.fz) (Is.of_tup (e5.seqT h4) a7)) (A53 _ _) λp=>⟨λh=>?_,λh=>?_⟩
   . obtain⟨c,a9,a4⟩:=List.mem_flatten.mp (A25 h);rw[List.eq_of_mem_replicate a9] at a4;exact a4
   rw[show(60:Nat)=59+1 from rfl,A1T,A2N,List.take_append];refine A0M _ ?_;rw[A2A (by exact a0)];exact h
theorem aF2 {K:W.Frag}{H:Hp}{p:Str×Str}{m n:Nat}{v:V}(h:Is K H (qsD p m n) v):∃ a b x,v = .ref a/\SqT K H a [x,.ref b]/\Is K H (prD p) x/\SqT K H b [.int ((m:Nat):Int),.int ((n:Nat):Int)]:=by
 obtain⟨a,xs,rfl,h1,h2⟩:=Is.tup h;obtain⟨O,U,rfl,i1,h2⟩:=Bc h2;obtain⟨Y,J,rfl,i2,h2⟩:=Bc h2;have e:J=[]:=by simpa only[L2.IsL] using h2
 subst e;obtain⟨b,ys,rfl,q,F⟩:=Is.tup i2;have:=IsL.int_eq (ns:=[((m:Nat):Int),((n:Nat):Int)]) F;subst this;exact⟨a,b,O,rfl,h1,i1,q⟩
def Dd (K:W.Frag)(n:Nat):Sp:=λvs H Q _=>∃ nv v F ns ps D m q ys,vs=[nv,v,.ref F]/\Is K H (nmD ns) nv/\Is K H D v/\PlanB ns ps D m/\H F=some (.lst ys)/\IsL K H (q.map nmD) ys/\HalfW ns ps/\(∀ z∈ns,M8 z=true)/\ns.length<=10/\Rows ns ps q/\ps.length+q.length<=900/\q.length<=n/\n<=125/\∀ H',Same H H'->Q (.int m) H'
def Ia (K:W.Frag):Sp:=Dd K 125
theorem Xp {ns:List Str}{ps:List (Str×Str)}{q:List (List Str)}(h:HalfW ns ps)(F:Rows ns ps q):0<q.length:=by have J:=Kc (b:=Aa ps) (λx=>Iy h x) (λx y z a b=>wayB_iff.mpr ((wayB_iff.mp a).trans (wayB_iff.mp b))) ns.length ns rfl h.nd;have:=F.length_eq;unfold L2.cnt at J;omega
theorem Ki {K:W.Frag}:∀ vs H Q E,¬ Dd K 0 vs H Q E:=by rintro vs H Q E ⟨nv,v,J,ns,ps,D,m,O,ys,_,_,_,_,_,_,F,_,_,q,_,h,_⟩;have:=Xp F q;omega
theorem Pz {f:Addr}{fd:FuncData}(F:Fun K "_law_depth" "_law_depth" Cn f fd)(T:Ey mg)(C8:Fnd P w K mg base 1 "_law_parts" ["_law_orders_here","_law_one","_law_other"] (Ec K))(Cc:Fnd P w K mg base 2 "_law_questions" ["_law_names_here","_law_orders_here"] (Cw K))(n:Nat)(Do:Fnd P w K mg base (3+n) "_law_depth" ["_law_names_here","_law_plan","_law_orders_here"] (Dd K n)):FnOk P w K mg base CX0 (3+n+1) f fd ["_law_names_here","_law_plan","_law_orders_here"] (Dd K (n+1)):=by
 refine F.ok Ca (λvs H Q E h=>?_) (λbD A outer s H vs Q E Z h=>?_)
 . obtain⟨nv,v,ol,ns,ps,D,m,a2,ys,rfl,_⟩:=h;rfl
 obtain⟨nv,v,ol,ns,ps,D,m,a2,ys,rfl,hN,hI,hB,hO,hL,O,a0,a4,Y,bJ,bM,hn,k⟩:=h;have hu:=Bj Z;have hq:=Bi Z;have bC:=IsL.length hL;rw[A01] at bC;have bK:=Xp O Y;have aW:cnt (Aa ps) ns=a2.length:=Y.length_eq.symm
 with_reducible refine⟨_,(A3 (Co (Aj (Ck (K:=K) hq) (Am (Bp (K:=K)) ⋯ T.b_len PyProof.Rows.Boot.«len» (A1 (pv 2) A2)) A5 (Aw _)) (A7 (Ao (Sd (Aj (Ck (K:=K) hq) (Am (K9 (K:=K) hq) ⋯ T.b_repr PyProof.Rows.Boot.«repr» (A1 (pv 1) A2)) (Am (K9 (K:=K) hq) ⋯ T.b_repr PyProof.Rows.Boot.«repr» (A1 (B6 (A1 B3 (A1 (Ad (A6 (K:=K) hu) (pv 2) A5 (by ac_rfl)) A2))) A2)) (Aw _)) A5 (ak4 Xi A5)))) Ay)
  (A3 (Co (PW.pt (Wj (Ug (Mj (Am (Fn (K:=K)) ⋯ T.b_isinstance PyProof.Rows.Boot.«isinstance» (A1 (pv 1) (A1 (Nv (v:=.ty "tuple") ⋯ T.b_tuple PyProof.Rows.Boot.«tuple» ⋯) A2))))) (Wj (Aj (Nz (K:=K) hq) (Am (Bp (K:=K)) ⋯ T.b_len PyProof.Rows.Boot.«len» (A1 (pv 1) A2)) A5 (Aw _)) (Qt (Aj (Nz (K:=K) hq) (Ad (A6 (K:=K) hu) (pv 1) A5 (by ac_rfl)) B3 (Aw _)))))) (A7 (Ao (ak4 Xi A5))) Ay)
  (A3 (A9 (i:=3) Ca.nd ⋯ (by eq_refl) (Aq Cc (Z.mono ∅) ⋯ (A1 (pv 0) (A1 (pv 2) A2))))
  (A3 (A9 (i:=4) Ca.nd ⋯ (by with_unfolding_all exact A37 rfl) (Am (Z0 (K:=K) ⋯) ⋯ T.b_max PyProof.Rows.Boot.«max» (A1 (C2 ["_law_one"] [] [] ⋯ ⋯ ⋯ (Ar (K:=K) hu (pv 3)) (λ_ _ _ _=>(Ag (i:=0) (by with_unfolding_all (show(["_law_one"]:List Str).Nodup;decide +kernel)) ⋯ (by eq_refl))) (Bf nofun) (λ_ _ _ _=>El) (λ_ _ _ _=>(Am (Qg (K:=K) ⋯) ⋯ T.b_min PyProof.Rows.Boot.«min» (A1 (Ad (A6 (K:=K) hu) (pv 0) A5 (by ac_rfl)) A2)))) A2)))
  (A3 (Co (Aj (Fp (K:=K) hq) (Bt (Sz (K:=K)) (pv 1) (Bq A5) (Bq A5)) (C2 ["_law_one"] ["_law_most"] [4] ⋯ ⋯ ⋯ (Ar (K:=K) hu (pv 3)) (λ_ _ _ _=>(Ag (i:=0) (by with_unfolding_all (show(["_law_one","_law_most"]:List Str).Nodup;decide +kernel)) ⋯ (by eq_refl))) (Bf nofun) (λ_ _ _ _=>(Fg (Aj (Ck (K:=K) hq) (Am (Qg (K:=K) ⋯) ⋯ T.b_min PyProof.Rows.Boot.«min» (A1 (Ad (A6 (K:=K) hu) (pv 0) A5 (by ac_rfl)) A2)) (pv 1) (Aw _)))) (λ_ _ _ _=>(Ad (A6 (K:=K) hu) (pv 0) A5 (by ac_rfl)))) ⋯) (A7 (Ao (ak4 Xi A5))) Ay)
  (A3 (ap8 (Aq C8 (Z.mono ∅) ⋯ (A1 (pv 2) (A1 (Ad (A6 (K:=K) hu) (pv 1) A5 (by ac_rfl)) (A1 (Ad (A6 (K:=K) hu) (pv 1) A5 (by ac_rfl)) A2)))) (Nk (K:=K) (n:=2) ⋯ (Fk (Ag (i:=5) Ca.nd ⋯ (by eq_refl)) (Fk (Ag (i:=6) Ca.nd ⋯ (by eq_refl)) Nb))))
  (A3 (A9 (i:=7) Ca.nd ⋯ (by eq_refl) (Aq Do (Z.mono ∅) ⋯ (A1 (pv 0) (A1 (Ad (A6 (K:=K) hu) (pv 1) A5 (by ac_rfl)) (A1 (pv 5) A2)))))
  (A3 (A9 (i:=8) Ca.nd ⋯ (by eq_refl) (Aq Do (Z.mono ∅) ⋯ (A1 (pv 0) (A1 (Ad (A6 (K:=K) hu) (pv 1) A5 (by ac_rfl)) (A1 (pv 6) A2)))))
  (A7 (Ao (Ap (An (K:=K)) (Ap (An (K:=K)) (Am (a76 ⋯) ⋯ T.b_min PyProof.Rows.Boot.«min» (A1 (pv 7) (A1 (pv 8) (A1 A5 A2)))) A5) (Am (Uk ⋯) ⋯ T.b_max PyProof.Rows.Boot.«max» (A1 (pv 7) (A1 (pv 8) A2)))))))))))))),?_⟩
 symm
 refine Km (λhc=>?_) (λhc=>?_)
 . have h1:a2.length=1:=by have:=V.int.inj hc;omega
   obtain⟨row,rfl⟩:=List.length_eq_one_iff.mp h1;have he:ext (Aa ps) ns.length ns=[row]:=List.perm_singleton.mp Y.symm;obtain ⟨y0,r0,rfl,aN,b6⟩:=Bc hL;have:r0=[]:=by simpa only[List.map_nil,L2.IsL] using b6
   subst this
   cases hB with
   |@ask _ x y D1 D2 m1 m2 hp hb p1 p2=>exfalso;obtain⟨J,U,a3⟩:=M3 hp;have a1:=Uu O.nd hp;have:=Ox O J U a1;have:=(Qh O J U a1).mpr a3;omega
   |@fin _ row' he'=>
     have b9:row'=row:=by rw[he] at he';injection he' with z _;exact z.symm
     subst b9;have b8:=(Sl O he).1;have b7:=b8.length_eq;have aY:=au0 a0 a4 (PlanP.fin he) O ∅;obtain⟨t1,t2,t3⟩:=aY.told ∅ ∅
     symm
     refine aB0 ?_
     symm
     refine Wm hI t1 t2 t3 ?_
     symm
     refine Ln hO (by rfl) ?_
     symm
     refine B5 (Ab (by simp)) λt H1 ht e1 h1=>?_
     symm
     refine Wm (d:=aF4 row') (Is.of_tup (SqT.of h1) (.cons Iu (.one (aN.nm_fz e1.fz)))) t1 t2 t3 ?_
     symm
     exact k H1 e1
 have h2:2<=a2.length:=by
  rcases Nat.lt_or_ge 1 a2.length with q|q
  . exact q
  exact absurd (by rw[show ys.length=1 by omega];rfl) hc
 cases hB with
 |@fin _ row' he'=>
   exfalso;have:cnt (Aa ps) ns=1:=by unfold L2.cnt;rw[he'];rfl
   omega
 |@ask _ x y D1 D2 m1 m2 hp hb p1 p2=>
   obtain⟨J,U,a3⟩:=M3 hp;have a1:=Uu O.nd hp;replace J:x∈ns:=J;replace U:y∈ns:=U;replace a1:x≠y:=a1;replace a3:unB ps x y=true:=a3;have aA:∀ r∈a2,∀ x∈ns,x∈r:=λr Z x J=>((Cr (Aa ps) ns.length ns r O.nd rfl).mp (Y.mem_iff.mp Z)).1.mem_iff.mpr J
   have hQ:quK ns (Tn a2) ns.length=quP ns ps:=by rw[<- a51 O];refine congrArg (λA=>quK ns A ns.length) (funext λx=>funext λy=>?_);exact an9 Y x y
   obtain⟨a,d,e,rfl,hA,hd,he⟩:=Uv hI
   symm
   refine aa6 hA (b:=true) (by first | rfl | kernel_rfl) ?_
   symm
   refine a75 (show Is K H (.tuple [.str "ask",.str x,.str y,D1,D2]) _ from hI) ?_
   symm
   rw[if_neg (by simp)]
   symm
   refine Cz hA (by rfl) ?_
   symm
   refine⟨nv,ol,ns,a2,ys,rfl,.of hN,SqL.of hO,hL,aA,a4,by omega,λq zs H1 bL e1 h1 a8=>?_⟩;rw[hQ,ai3] at a8;have aC:=IsL.length a8;rw[A01] at aC;have bN:=Zz (ps:=ps) a4
   have aJ:∀ {H':Hp},Same H1 H'->∀(i:Nat) w p,(unP ns ps)[i]? = some p->zs[i]? = some w->Is K H' (qsD p (qA ns ps p) (qB ns ps p)) w:=fun {H'} e i w p hp hw=>by
    obtain⟨dd,hd,aO⟩:=IsL.get (IsL.mono e _ _ a8) hw;rw[A06,hp] at hd
    cases hd;exact aO
   symm
   refine Ju (SqL.of h1) (G1 (K:=K) (Bg (xs:=zs)) (unP ns ps) aC (λ_=>true) (λq=>PyData.int (qMn ns ps q)) (λ_=>rfl) ∅ (λH' e=>e.seq (SqL.of h1)) (λi q w H3 R R' aB hw e3 Y aG=>?_) (λml bQ H3 bG e3 h3 aF=>?_))
   . obtain⟨a',b',x',rfl,g1,g2⟩:=aN6 (aJ e3 i w q aB hw)
     symm
     refine Cz g1 (show atI [x',V.ref b'] ((1:Nat):Int)=some (.ref b') from Dz rfl) ?_
     symm
     refine ar0 g2 ?_;exact Y rfl _ _ (.refl _) Nh
   rw[Gj,show(unP ns ps).map (λq=>PyData.int (qMn ns ps q))=((unP ns ps).map (qMn ns ps)).map PyData.int by rw[A1A];rfl] at aF;have b3:=IsL.int_eq aF;subst b3
   symm
   refine aH8 (SqL.of h3) (λz=>?_) λM aT aU=>?_
   . rw[List.map_eq_nil_iff.mp z] at hp
     cases hp
   have aV:M=qMn ns ps (x,y):=by obtain⟨p',b5,rfl⟩:=A0E.mp aT;have h1:=hb p' b5;have h2:=aU _ (A0E.mpr ⟨(x,y),hp,rfl⟩);omega
   subst aV;have aL:=(e1.trans e3).seqT hA
   symm
   refine aA4 aL λt4 H4 e4 h4=>?_;have aK:=e3 _ _ h1;have aD:=e4 _ _ aK
   symm
   refine Ju (SqL.of aD) (G1 (K:=K) (Bg (xs:=zs)) (unP ns ps) aC (λq=>decide (qMn ns ps q=qMn ns ps (x,y))) prD (λ_=>Gx _) ∅ (λH' e=>e.seq (SqL.of aD)) (λi q w H5 R R' aB hw e5 Y aG=>?_) (λrl bR H5 b7 e5 h5 aQ=>?_))
   . have aP:=aJ ((e3.trans e4).trans e5) i w q aB hw;obtain⟨a',b',x',rfl,g1,gp,g2⟩:=aF2 aP
     symm
     refine Cz g1 (show atI [x',V.ref b'] ((1:Nat):Int)=some (.ref b') from Dz rfl) ?_
     symm
     refine ar0 g2 ?_
     symm
     refine Km (λa9=>?_) (λa9=>?_)
     . symm
       refine Cz g1 (show atI [x',V.ref b'] ((0:Nat):Int)=some x' from Dz rfl) ?_;exact Y (A0Y (V.int.inj a9)) _ _ (.refl _) gp
     exact aG (A0N λz=>a9 (congrArg V.int z)) _ (.refl _)
   have b4:NmP ((unP ns ps).filter λq=>decide (qMn ns ps q=qMn ns ps (x,y))):=λp hp=>by obtain⟨m1,m2,_⟩:=M3 (A0L.mp hp).1;exact⟨a0 _ m1,a0 _ m2⟩
   symm
   refine aH0 (d:=prD (x,y)) (Ru (e5.seqT (show SqT K H4 t4 [.str x,.str y] from h4))) (.inl (Is.of_lst (SqL.of h5) aQ)) (ay1 b4) (aI3 (a0 _ J) (a0 _ U)) (ak9 (a0 _ J) (a0 _ U)) ?_;rw[show((((unP ns ps).filter λq=>decide (qMn ns ps q=qMn ns ps (x,y))).map prD).any λe=>PyData.eqv e (prD (x,y)))=true from List.any_eq_true.mpr ⟨prD (x,y),List.mem_map.mpr ⟨(x,y),List.mem_filter.mpr ⟨hp,by simp⟩,rfl⟩,by rw[aK0];simp⟩];have a5:=(e1.trans e3).trans (e4.trans e5);have aE:=a5.seqT hA
   symm
   refine Cz aE (by rfl) ?_
   symm
   refine Cz aE (by rfl) ?_
   symm
   refine⟨ol,x,y,a2,ys,rfl,SqL.of (a5 _ _ hO),IsL.mono a5 _ _ hL,λr Z=>⟨aA r Z _ J,aA r Z _ U⟩,by omega,λt la lb ya yb H6 e6 ht aZ bO b0 bP aR aS bH bI=>?_⟩;have aH:=Vn O Y J U;have aI:=Vn O Y U J;have bE:=aH.length_eq;have bF:=aI.length_eq;have aX:=Ox O J U a1;obtain⟨bA,bB⟩:=(Qh O J U a1).mpr a3;unfold L2.cnt at aX bA bB aW;have a6:=a5.trans e6;have aM:=a6.seqT hA;refine a97 ht ?_
   symm
   refine Cz aM (by rfl) ?_
   symm
   refine⟨nv,d,la,ns,ps++[(x,y)],D1,m1,_,ya,rfl,hN.nm_fz a6.fz,Is.mono a6 _ _ hd,p1,aZ,aR,O.saidP ∅ J U a1 a3,a0,a4,aH,by rw[A07,A16];omega,by omega,by omega,λH7 e7=>?_⟩;have a7:=a6.trans e7
   symm
   refine Cz (a7.seqT hA) (by rfl) ?_
   symm
   refine⟨nv,e,lb,ns,ps++[(y,x)],D2,m2,_,yb,rfl,hN.nm_fz a7.fz,Is.mono a7 _ _ he,p2,e7 _ _ b0,IsL.mono e7 _ _ aS,O.saidP ∅ U J (Ne.symm a1) (Ob a3),a0,a4,aI,by rw[A07,A16];omega,by omega,by omega,λH8 e8=>?_⟩
   symm
   refine aJ5 ?_
   symm
   refine⟨_,_,rfl,?_⟩
   have b1:(if(m2:Int)<(m1:Int) then(if(0:Int)<(m2:Int) then(0:Int) else(m2:Int)) else(if(0:Int)<(m1:Int) then(0:Int) else(m1:Int)))=0:=by split<;>split<;>omega
   rw[b1]
   symm
   have b2:(0+1+(if(m2:Int)>(m1:Int) then(m2:Int) else(m1:Int)):Int)=((1+max m1 m2:Nat):Int):=by split<;>omega
   rw[b2];exact k H8 (a7.trans e8)
theorem Si {f:Addr}{fd:FuncData}(F:Fun K "_law_depth" "_law_depth" Cn f fd)(T:Ey mg)(q:Fnd P w K mg base 1 "_law_parts" ["_law_orders_here","_law_one","_law_other"] (Ec K))(Cc:Fnd P w K mg base 2 "_law_questions" ["_law_names_here","_law_orders_here"] (Cw K))(hm:mg "_law_depth" = some (.ref f))(J:W.keepIn K (.ref f)=true)(hb:Binds K fd ["_law_names_here","_law_plan","_law_orders_here"] []):FnOk P w K mg base CX0 128 f fd ["_law_names_here","_law_plan","_law_orders_here"] (Ia K):=by
 have h:∀ n:Nat,FnOk P w K mg base CX0 (3+n) f fd ["_law_names_here","_law_plan","_law_orders_here"] (Dd K n):=λn=>by
  induction n with
  |zero=>exact FnOk.void Ki
  |succ n ih=>exact Pz F T q Cc n ⟨f,fd,ih,hm,J,hb⟩
 exact h 125
def spLaw (P P':Addr)(K:W.Frag):Sp:=λvs H Q _=>∃(a:Addr) (ns:List Int),vs=[.ref a]/\SqL K H a (ns.map V.int)/\ns.length<=63/\[P,P'].Nodup/\(∀ p∈[P,P'],H p=some (.tbl #[])\/False)/\∀ H',Q (.bl true) H'
structure Lm2 (P P':Addr)(H:Hp):Prop where
 b:LmT P H
 r:LmR P' H
 ne:P≠P'
theorem Lm2.same {P P':Addr}{H H':Hp}(h:Lm2 P P' H)(e:Same H H'):Lm2 P P' H':=⟨h.b.same e,h.r.same e,h.ne⟩
theorem Lm2.draw {P P' f l:Addr}{H H':Hp}(h:Lm2 P P' H)(q:Feed H f l)(e:ExtBut f H H'):Lm2 P P' H':=by obtain⟨_,_,_,_,h1,_⟩:=q;exact⟨LamT.but h.b e h1 (λ_ z=>by cases z) (λ_ z=>by cases z),LamT.but h.r e h1 (λ_ z=>by cases z) (λ_ z=>by cases z),h.ne⟩
theorem Lm2.goB {P P':Addr}{H H':Hp}(h:Lm2 P P' H)(e:ExtBut P H H')(h':LmT P H'):Lm2 P P' H':=⟨h',LamT.other h.r h.b h.ne e,h.ne⟩
theorem Lm2.goR {P P':Addr}{H H':Hp}(h:Lm2 P P' H)(e:ExtBut P' H H')(h':LmR P' H'):Lm2 P P' H':=⟨LamT.other h.b h.r (Ne.symm h.ne) e,h',h.ne⟩
def aQ1 (P P':Addr)(H H':Hp):Prop:=∃ p,(p=P\/p=P')/\ExtBut p H H'
theorem Lm2.at {P P' p:Addr}{H:Hp}(h:Lm2 P P' H)(hp:p=P\/p=P'):∃ ps,H p=some (.tbl ps):=by
 rcases hp with rfl|rfl
 . exact Hb h.b
 exact Hb h.r
theorem Lm2.lst {P P' b:Addr}{H H':Hp}{xs:List V}(h:Lm2 P P' H)(hb:H b=some (.lst xs))(q:aQ1 P P' H H'):H' b=some (.lst xs):=by obtain⟨p,hp,e⟩:=q;obtain⟨ps,F⟩:=h.at hp;exact e _ _ (ne_of hb F (by intro z;cases z)) hb
theorem Lm2.fz {P P':Addr}{H H':Hp}(h:Lm2 P P' H)(q:aQ1 P P' H H'):Fz H H':=by obtain⟨p,hp,e⟩:=q;obtain⟨ps,F⟩:=h.at hp;exact Xh e F
theorem ab4 (i:Int):(PyData.int i).shown=Str.ofString (toString i):=by first | rfl | simp only[PyData.shown]
theorem aw6 {n:Nat}(h:n<2 ^ 30):((n:Nat):Int).natAbs.log2<1920:=by
 rw[Int.natAbs_natCast];rcases A58 n with z|z
 . rw[z];decide
 exact(Nat.log2_lt ∅).mpr (A18 h (A36 (A44 1) (Nat.le_of_ble_eq_true rfl)))
theorem aJ4 {f:Addr}{fd:FuncData}(F:Fun K "law" "law" R5 f fd)(T:Ey mg){O:Addr}{U:Addr}(Oj:Fnd P w K mg base 153 "planned" ["half"] (Lr O K))(K7:Fnd P w K mg base 130 "lets_plan" ["half","plan"] (Jb U K))(Ka:Fnd P w K mg base 1 "_law_feed" ["_law_script"] (J9 K))(Eu:Fnd P w K mg base 4 "_law_half" ["_law_feed_here","_law_most"] (Gv K))(I0:Fnd P w K mg base 1 "_law_orders" ["_law_half_here"] (Hc K))(Jf:Fnd P w K mg base 5 "_law_few" ["_law_feed_here"] (K6 K))(Ir:Fnd P w K mg base 2 "_law_full" ["_law_feed_here","_law_half_here"] (J7 K))(Do:Fnd P w K mg base 128 "_law_depth" ["_law_names_here","_law_plan","_law_orders_here"] (Ia K)):FnOk P w K mg base CX0 154 f fd ["_law_script"] (spLaw O U K):=by
 refine F.ok Qo (λvs H Q E h=>?_) (λc4 A outer s H vs Q E J h=>?_)
 . obtain⟨a,ns,rfl,_⟩:=h;rfl
 obtain⟨a,cs,rfl,hS,bM,bV,b6,k⟩:=h;have hu:=Bj J;have hq:=Bi J;have hT:Lm2 O U H:=⟨.inl ((b6 O (by simp)).resolve_right id),.inl ((b6 U (by simp)).resolve_right id),by simpa using bV⟩;have aZ:∀ {ns:List Str} {ps:List (Str×Str)},HalfQ ns ps->NmP ps:=fun {ns ps} q p hp=>⟨q.nm _ (q.w.mem p hp).1,q.nm _ (q.w.mem p hp).2⟩
 with_reducible refine⟨_,(A3 (A9 (i:=1) Qo.nd ⋯ (by eq_refl) (Aq Ka (J.mono nofun) ⋯ (A1 (pv 0) A2)))
  (A3 (A9 (i:=2) Qo.nd ⋯ (by eq_refl) (Ci (A1 (Aq Ir (J.mono nofun) ⋯ (A1 (pv 1) (A1 (Aq Jf (J.mono nofun) ⋯ (A1 (pv 1) A2)) A2))) (A1 (Aq Jf (J.mono nofun) ⋯ (A1 (pv 1) A2)) (A1 (Aq Ir (J.mono nofun) ⋯ (A1 (pv 1) (A1 (Aq Eu (J.mono nofun) ⋯ (A1 (pv 1) (A1 A5 A2))) A2))) A2)))))
  (A3 (C5 A0X ⋯ (Ar (K:=K) hu (Ap (An (K:=K)) (pv 2) (Bt (Sz (K:=K)) (pv 2) Fb (Bq A5)))) (Ag (i:=3) Qo.nd ⋯ (by eq_refl))
  (A3 (A9 (i:=4) Qo.nd ⋯ (by eq_refl) (Aq Oj (J.mono nofun) ⋯ (A1 (pv 3) A2)))
  (A3 (A9 (i:=5) Qo.nd ⋯ (by eq_refl) (Aq Do (J.mono nofun) ⋯ (A1 (Ad (A6 (K:=K) hu) (pv 3) A5 (by ac_rfl)) (A1 (pv 4) (A1 (Aq I0 (J.mono nofun) ⋯ (A1 (pv 3) A2)) A2)))))
  (A7 (Co (PW.pt (Wj (Aj Yr (pv 5) A5 (Aw _)) (Qt (Aj (Nz (K:=K) hq) (Am (K9 (K:=K) hq) ⋯ T.b_repr PyProof.Rows.Boot.«repr» (A1 (Aq K7 (J.mono nofun) ⋯ (A1 (pv 3) (A1 (pv 4) A2))) A2)) (B0 T8 ⋯ T.b_str PyProof.Rows.Boot.«str» (A1 (pv 5) A2)) (Aw _))))) (A7 (Ao af1)) Ay)))))
  (A7 (Ao af1))))),?_⟩
 symm
 refine⟨a,cs,rfl,hS,bM,λf l H1 hf hl e1 hF=>?_⟩;have b0:=hT.same e1
 symm
 refine⟨f,l,rfl,hF,λw0 aG c1 H2 e2 aA aX a4=>?_⟩;have b1:=b0.draw hF e2
 symm
 refine⟨f,l,w0,aG,c1,rfl,aA,aX,aZ a4,a4.le,λv0 b9 H3 e3 a1 aR bW bY=>?_⟩;have aB:=a4.full bW bY;have b2:=b1.draw aA e3
 symm
 refine⟨f,l,rfl,a1,λv1 b8 bA H4 e4 a2 aS aC=>?_⟩;have b3:=b2.draw a1 e4
 symm
 refine⟨f,l,_,rfl,a2,by omega,by omega,λw2 aH c2 H5 e5 a3 aY aP bS=>?_⟩;have b4:=b3.draw a2 e5;have a5:=ar8 aP (show aH.length<=5 by omega)
 symm
 refine⟨f,l,w2,aH,c2,rfl,a3,aY,aZ a5,a5.le,λv2 c0 H6 e6 aO aU bX bZ=>?_⟩;have aQ:=a5.full bX bZ;have b5:=b4.draw a3 e6;have bH:=a1.fz e4;have aM:=a2.fz e5;have aN:=a3.fz e6
 symm
 refine Ch (Ab (by simp)) λbT H7 cA e7 h7=>?_
 symm
 refine Mn (SqL.of h7) λbU H8 cB e8 h8=>?_;rw[Ib nofun] at h8;replace h8:H8 bU=some (.lst [v0,v1]):=h8
 symm
 refine Vk (e8 _ _ h7) h8 (Ab (by simp)) λql H9 cD e9 h9=>?_;have Z:=(e7.trans e8).trans e9;have c6:=aO.same Z;have bR:=b5.same Z;have aD:=aR.hf_fz (((bH.trans aM).trans aN).trans Z.fz);have aE:=aS.hf_fz ((aM.trans aN).trans Z.fz);have aV:=aU.hf_fz Z.fz
 have b7:∀ v∈[v0,v1,v2]++[v0,v1],∃ e:List Str×List (Str×Str),Is K H9 (hfD e.1 e.2) v/\HalfQ e.1 e.2:=λv hv=>by
  simp only[List.cons_append,List.nil_append,List.mem_cons,List.not_mem_nil,or_false] at hv;rcases hv with rfl|rfl|rfl|rfl|rfl
  . exact⟨(aG,b9),aD,aB⟩
  . exact⟨(b8,bA),aE,aC⟩
  . exact⟨(aH,c0),aV,aQ⟩
  . exact⟨(aG,b9),aD,aB⟩
  exact⟨(b8,bA),aE,aC⟩
 clear aR aS aU aD aE aV aB aC aQ bS e2 e3 e4 e5 e6 aA a1 a2 a3 aO b0 b1 b2 b3 b4 b5 aX aY a4 aP a5 h7 h8 e7 e8 e9 Z;generalize [v0,v1,v2]++[v0,v1]=vs5 at b7 h9
 symm
 refine Ju (SqL.of h9) ?_
 refine Ej (Bg (xs:=vs5)) (λi σ H'=>∃ x3 x4 x5,σ=[some (.ref a),some (.ref f),some (.ref bT),x3,x4,x5]/\Fz H9 H'/\H' ql=some (.lst vs5)/\Lm2 O U H')
  ⟨_,_,_,rfl,.refl _,h9,bR⟩ (λi σ' H' Y=>?_) (λi v σ' a8 hv hi Y=>?_) (fun σ' a8 Y=>?_)
 . obtain⟨_,_,_,_,_,h,_⟩:=Y;exact SqL.of h
 . obtain⟨x3,x4,x5,rfl,aK,bI,a6⟩:=Y;obtain⟨⟨ns,ps⟩,hI,q⟩:=b7 v (A03 hv);replace q:HalfQ ns ps:=q;replace hI:Is K H9 (hfD ns ps) v:=hI;have aT:=hI.hf_fz aK;have c8:=q.cn;have bL:=q.le;have c9:=Kc (b:=Aa ps) (λx=>Iy q.w x) (λx y z a b=>wayB_iff.mpr ((wayB_iff.mp a).trans (wayB_iff.mp b))) ns.length ns rfl q.w.nd
   symm
   refine⟨v,ns,ps,rfl,aT,q.w,q.few,bL,by omega,a6.b,λu D m bD aI bO hB aW=>?_⟩;have bB:aQ1 O U a8 bD:=⟨O,.inl rfl,aI⟩;have bP:=a6.goB aI bO;have aL:=a6.fz bB;have bJ:=a6.lst bI bB;have aF:=aT.hf_fz aL;have Y:=hB.p q.w.nd;have c5:=Y.le45 q.few
   symm
   refine Gy aF λnv hN=>?_
   symm
   refine⟨v,ns,ps,rfl,.of aF,q.w,q.few,by omega,λol ys c3 cC a9 bK bN=>?_⟩;have c7:cnt (Aa ps) ns=(ext (Aa ps) ns.length ns).length:=rfl
   symm
   refine⟨nv,u,ol,ns,ps,D,m,ext (Aa ps) ns.length ns,ys,rfl,hN.nm_fz a9.fz,Is.mono a9 _ _ aW,hB,bK,bN,q.w,q.nm,q.few,.refl _,by omega,by omega,by omega,λbE bG=>?_⟩;have a0:=a9.trans bG;have a7:=bP.same a0
   symm
   refine Km (λz=>absurd z ∅) (λ_=>?_)
   symm
   refine⟨v,u,ns,ps,D,m,rfl,aF.hf_fz a0.fz,q.w,q.nm,q.few,Y,Is.mono a0 _ _ aW,by omega,by omega,a7.r,λbF aJ bQ=>?_⟩;have bC:aQ1 O U bE bF:=⟨U,.inr rfl,aJ⟩;obtain⟨i1,i2,i3⟩:=(aK2 (p:=1) (W:=1) (m:=(m:Int)) ∅).told ∅ ∅
   symm
   refine Wm (d:=.int (m:Int)) Nh i1 i2 i3 ?_
   symm
   refine⟨_,rfl,aw6 ∅,?_⟩
   symm
   rw[ab4,if_neg (by simp)]
   symm
   exact⟨_,_,_,rfl,((aK.trans aL).trans a0.fz).trans (a7.fz bC),a7.lst (a0 _ _ bJ) bC,a7.goR aJ bQ⟩
 obtain⟨x3,x4,x5,rfl,_⟩:=Y
 symm
 exact k a8
end
theorem all_mk {l:W.OpenLaw}{w:World}{K:W.Frag}{h:Heap}{mg:Str->Option Value}{fa f0 f1 f2 f3 f4 f5 f6 f7 f8 f9 aF aG aH aI aJ aK aL aM aN aO aP aQ aR aS aT aU aV aW aX aY aZ bA bB bC bD bE bF bG bH bI bJ bK bL bM bN bO Z aA aB q J Wy F Y:Addr}(X:K.In h)(G:h.Ns mainGlobals mg)(sG:mg "law" = some (.ref fa))
  {D0 N0 D1 N1 D2 N2 D3 N3 D4 N4 D5 N5 D6 N6 D7 N7 D8 N8 D9 N9 fV i8 fW i9 fX iA fY iB fZ iC g1 iD g2 iE g3 iF g4 iG g5 iH g6 iI g7 iJ g8 iK g9 iL gA iM gB iN gC iO gD iP gE iQ gF iR gG iS gH iT gI iU gJ iV gK iW gL iX gM iY gN iZ gO j0 gP j1 gQ j2 gR j3 gS j4 gT j5 gU j6 gW d7 gX j7 gY j8 gZ j9:Option Addr} {S0 S1 S2 S3 S4 S5 S6 S7 S8 S9 m0 m1 m2 m3 m4 m5 m6 m7 m8 m9 mB mC mD mE mF mG mH mI mJ mK mL mM mN mO mP mQ mR mS mT mU mV mW mX mY mZ n0 n1 n2 n3:Array (Option Value)} {O0 V0 E0 P0 Q0 U0 O1 V1 E1 P1 Q1 U1 O2 V2 E2 P2 Q2 U2 O3 V3 E3 P3 Q3 U3 O4 V4 E4 P4 Q4 U4 O5 V5 E5 P5 Q5 U5 O6 V6 E6 P6 Q6 U6 O7 V7 E7 P7 Q7 U7 O8 V8 E8 P8 Q8 U8 O9 V9 E9 P9 Q9 U9 jA o6 h0 kN d9 n4 jB o7 h3 kO dA n5 jC o8 h4 kP dB n6 jD o9 h5 kQ dC n7 jE oA h6 kR dD n8 jF oB h7 kS dE n9 jG oC h8 kT dF nA jH oD h9 kU dG nB jI oE hA kW dH nC jJ oF hB kX aC nD jK oG hC kY dI nE jL oH hD kZ dJ nF jM oI hE lA dK nG jN oJ hF lB dL nH jO oK hG lC dM nI jP oL hH lD aD nJ jQ oM hI lE dN nK jR oN hJ lF dO nL jS oO hK lG dP nM jT oP hL lH dQ nN jU oQ hM lI dR nO jV oR hN lJ dS nP jW oS hO lK dT nQ jX oT hP lL dU nR jY oU hQ lM dV nS jZ oV hR lN dW nT kA oW hS lO dX nU kB oX hT lP dY nV kC oY hU lQ dZ nW kD oZ hV lR e0 nX kE p0 hW lS e1 nY kF p1 hX lT e2 nZ kG p3 hY lU e3 o0 kH p4 hZ lV e4 o1 kI p5 i3 lW e5 o2 kJ eA bU d8 aE e9 kK p6 i4 lX e6 o3 kL p7 i5 lY e7 o4 kM p8 i6 lZ e8 o5:Value}
  (q9:W.nsIn K mainGlobals "Ways" = some (some (.ref q))) (u2:W.plainGet K q Str.empty=true) (sF:W.hasDictIn K q=true) (u3:W.plainOver K q=true) (u4:W.findIn K (.ref q) "__setattr__" = some (some (.builtin "object.__setattr__"))) (tW:W.makesIn K q=true) (sL:W.keepIn K (.ref q)=true)
  (u1:W.findIn K (.ref q) "names" = some none)
  (tY:W.findIn K (.ref q) "bits" = some none)
  (tX:W.findIn K (.ref q) "ahead" = some none)
  (tZ:W.findIn K (.ref q) "full" = some none)
  (u0:W.findIn K (.ref q) "known" = some none)
  (a0:W.nsIn K mainGlobals "refuse_strangers" = some (some (.ref f0))) (l0:K.lookup f0=some ⟨O0,D0,.func (W.fnOf "refuse_strangers" "refuse_strangers" (Af Bd) (Ac Bd) (A4 Bd) .none V0 E0 P0 N0 Q0 U0),S0⟩) (c0:W.codeIn K Q0 "refuse_strangers" = true) (k0:W.keepIn K (.ref f0)=true)
  (a1:W.nsIn K mainGlobals "behind_each" = some (some (.ref f1))) (l1:K.lookup f1=some ⟨O1,D1,.func (W.fnOf "behind_each" "behind_each" (Af Ct) (Ac Ct) (A4 Ct) .none V1 E1 P1 N1 Q1 U1),S1⟩) (c1:W.codeIn K Q1 "behind_each" = true) (k1:W.keepIn K (.ref f1)=true)
  (a2:W.nsIn K mainGlobals "closed" = some (some (.ref f2))) (l2:K.lookup f2=some ⟨O2,D2,.func (W.fnOf "closed" "closed" (Af Jh) (Ac Jh) (A4 Jh) .none V2 E2 P2 N2 Q2 U2),S2⟩) (c2:W.codeIn K Q2 "closed" = true) (k2:W.keepIn K (.ref f2)=true)
  (a3:W.nsIn K mainGlobals "has_third_between" = some (some (.ref f3))) (l3:K.lookup f3=some ⟨O3,D3,.func (W.fnOf "has_third_between" "has_third_between" (Af B8) (Ac B8) (A4 B8) .none V3 E3 P3 N3 Q3 U3),S3⟩) (c3:W.codeIn K Q3 "has_third_between" = true) (k3:W.keepIn K (.ref f3)=true)
  (a4:W.nsIn K mainGlobals "bare" = some (some (.ref f4))) (l4:K.lookup f4=some ⟨O4,D4,.func (W.fnOf "bare" "bare" (Af Qi) (Ac Qi) (A4 Qi) .none V4 E4 P4 N4 Q4 U4),S4⟩) (c4:W.codeIn K Q4 "bare" = true) (k4:W.keepIn K (.ref f4)=true)
  (a5:W.nsIn K mainGlobals "are_untold" = some (some (.ref f5))) (l5:K.lookup f5=some ⟨O5,D5,.func (W.fnOf "are_untold" "are_untold" (Af Du) (Ac Du) (A4 Du) .none V5 E5 P5 N5 Q5 U5),S5⟩) (c5:W.codeIn K Q5 "are_untold" = true) (k5:W.keepIn K (.ref f5)=true)
  (a6:W.nsIn K mainGlobals "untold_of" = some (some (.ref f6))) (l6:K.lookup f6=some ⟨O6,D6,.func (W.fnOf "untold_of" "untold_of" (Af En) (Ac En) (A4 En) .none V6 E6 P6 N6 Q6 U6),S6⟩) (c6:W.codeIn K Q6 "untold_of" = true) (k6:W.keepIn K (.ref f6)=true)
  (a7:W.nsIn K mainGlobals "untold" = some (some (.ref f7))) (l7:K.lookup f7=some ⟨O7,D7,.func (W.fnOf "untold" "untold" (Af Jn) (Ac Jn) (A4 Jn) .none V7 E7 P7 N7 Q7 U7),S7⟩) (c7:W.codeIn K Q7 "untold" = true) (k7:W.keepIn K (.ref f7)=true)
  (a8:W.nsIn K mainGlobals "bits_of" = some (some (.ref f8))) (l8:K.lookup f8=some ⟨O8,D8,.func (W.fnOf "bits_of" "bits_of" (Af Hr) (Ac Hr) (A4 Hr) .none V8 E8 P8 N8 Q8 U8),S8⟩) (c8:W.codeIn K Q8 "bits_of" = true) (k8:W.keepIn K (.ref f8)=true)
  (a9:W.nsIn K mainGlobals "bits_ahead" = some (some (.ref f9))) (l9:K.lookup f9=some ⟨O9,D9,.func (W.fnOf "bits_ahead" "bits_ahead" (Af Dt) (Ac Dt) (A4 Dt) .none V9 E9 P9 N9 Q9 U9),S9⟩) (c9:W.codeIn K Q9 "bits_ahead" = true) (k9:W.keepIn K (.ref f9)=true)
  (p9:W.nsIn K mainGlobals "count" = some (some (.ref aF))) (sM:K.lookup aF=some ⟨jA,fV,.func (W.fnOf "count" "count" (Af Lz) (Ac Lz) (A4 Lz) .none o6 h0 kN i8 d9 n4),m0⟩) (rA:W.codeIn K d9 "count" = true) (eN:W.keepIn K (.ref aF)=true)
  (pC:W.nsIn K mainGlobals "way_by_sayings" = some (some (.ref aG))) (sN:K.lookup aG=some ⟨jB,fW,.func (W.fnOf "way_by_sayings" "way_by_sayings" (Af Bx) (Ac Bx) (A4 Bx) .none o7 h3 kO i9 dA n5),m1⟩) (rB:W.codeIn K dA "way_by_sayings" = true) (eO:W.keepIn K (.ref aG)=true)
  (pD:W.nsIn K mainGlobals "thinned" = some (some (.ref aH))) (sO:K.lookup aH=some ⟨jC,fX,.func (W.fnOf "thinned" "thinned" (Af Hq) (Ac Hq) (A4 Hq) .none o8 h4 kP iA dB n6),m2⟩) (rC:W.codeIn K dB "thinned" = true) (eP:W.keepIn K (.ref aH)=true)
  (pE:W.nsIn K mainGlobals "said" = some (some (.ref aI))) (sP:K.lookup aI=some ⟨jD,fY,.func (W.fnOf "said" "said" (Af Qw) (Ac Qw) (A4 Qw) .none o9 h5 kQ iB dC n7),m3⟩) (rD:W.codeIn K dC "said" = true) (eQ:W.keepIn K (.ref aI)=true)
  (eB:W.nsIn K mainGlobals "order_on" = some (some (.ref aJ))) (sQ:K.lookup aJ=some ⟨jE,fZ,.func (W.fnOf "order_on" "order_on" (Af Fc) (Ac Fc) (A4 Fc) .none oA h6 kR iC dD n8),m4⟩) (rE:W.codeIn K dD "order_on" = true) (bP:W.keepIn K (.ref aJ)=true)
  (pF:W.nsIn K mainGlobals "order_of" = some (some (.ref aK))) (sR:K.lookup aK=some ⟨jF,g1,.func (W.fnOf "order_of" "order_of" (Af Gd) (Ac Gd) (A4 Gd) .none oB h7 kS iD dE n9),m5⟩) (rF:W.codeIn K dE "order_of" = true) (eR:W.keepIn K (.ref aK)=true)
  (pG:W.nsIn K mainGlobals "comings_of" = some (some (.ref aL))) (sS:K.lookup aL=some ⟨jG,g2,.func (W.fnOf "comings_of" "comings_of" (Af Dw) (Ac Dw) (A4 Dw) .none oC h8 kT iE dF nA),m6⟩) (rG:W.codeIn K dF "comings_of" = true) (eS:W.keepIn K (.ref aL)=true)
  (pH:W.nsIn K mainGlobals "shares_of" = some (some (.ref aM))) (sT:K.lookup aM=some ⟨jH,g3,.func (W.fnOf "shares_of" "shares_of" (Af Ep) (Ac Ep) (A4 Ep) .none oD h9 kU iF dG nB),m7⟩) (rH:W.codeIn K dG "shares_of" = true) (eT:W.keepIn K (.ref aM)=true)
  (pI:W.nsIn K mainGlobals "questions" = some (some (.ref aN))) (sU:K.lookup aN=some ⟨jI,g4,.func (W.fnOf "questions" "questions" (Af Fe) (Ac Fe) (A4 Fe) .none oE hA kW iG dH nC),m8⟩) (rJ:W.codeIn K dH "questions" = true) (eU:W.keepIn K (.ref aN)=true)
  (pJ:W.nsIn K mainGlobals "best" = some (some (.ref aO))) (sV:K.lookup aO=some ⟨jJ,g5,.func (W.fnOf "best" "best" (Af Qe) (Ac Qe) (A4 Qe) .none oF hB kX iH aC nD),m9⟩) (rK:W.codeIn K aC "best" = true) (eV:W.keepIn K (.ref aO)=true)
  (eC:W.nsIn K mainGlobals "planned_on" = some (some (.ref aP))) (sW:K.lookup aP=some ⟨jK,g6,.func (W.fnOf "planned_on" "planned_on" (Af Cm) (Ac Cm) (A4 Cm) .none oG hC kY iI dI nE),mB⟩) (rL:W.codeIn K dI "planned_on" = true) (bQ:W.keepIn K (.ref aP)=true)
  (pK:W.nsIn K mainGlobals "planned" = some (some (.ref aQ))) (sX:K.lookup aQ=some ⟨jL,g7,.func (W.fnOf "planned" "planned" (Af Hi) (Ac Hi) (A4 Hi) .none oH hD kZ iJ dJ nF),mC⟩) (rM:W.codeIn K dJ "planned" = true) (eW:W.keepIn K (.ref aQ)=true)
  (pL:W.nsIn K mainGlobals "is_tuple_of" = some (some (.ref aR))) (sY:K.lookup aR=some ⟨jM,g8,.func (W.fnOf "is_tuple_of" "is_tuple_of" (Af Cv) (Ac Cv) (A4 Cv) .none oI hE lA iK dK nG),mD⟩) (rN:W.codeIn K dK "is_tuple_of" = true) (eX:W.keepIn K (.ref aR)=true)
  (pM:W.nsIn K mainGlobals "are_two_untold" = some (some (.ref aS))) (sZ:K.lookup aS=some ⟨jN,g9,.func (W.fnOf "are_two_untold" "are_two_untold" (Af Bv) (Ac Bv) (A4 Bv) .none oJ hF lB iL dL nH),mE⟩) (rO:W.codeIn K dL "are_two_untold" = true) (eY:W.keepIn K (.ref aS)=true)
  (pN:W.nsIn K mainGlobals "is_row_of" = some (some (.ref aT))) (t1:K.lookup aT=some ⟨jO,gA,.func (W.fnOf "is_row_of" "is_row_of" (Af Fa) (Ac Fa) (A4 Fa) .none oK hG lC iM dM nI),mF⟩) (rP:W.codeIn K dM "is_row_of" = true) (eZ:W.keepIn K (.ref aT)=true)
  (pO:W.nsIn K mainGlobals "order_of_row" = some (some (.ref aU))) (t2:K.lookup aU=some ⟨jP,gB,.func (W.fnOf "order_of_row" "order_of_row" (Af Ce) (Ac Ce) (A4 Ce) .none oL hH lD iN aD nJ),mG⟩) (rQ:W.codeIn K aD "order_of_row" = true) (fA:W.keepIn K (.ref aU)=true)
  (pP:W.nsIn K mainGlobals "reach_said" = some (some (.ref aV))) (t3:K.lookup aV=some ⟨jQ,gC,.func (W.fnOf "reach_said" "reach_said" (Af Dv) (Ac Dv) (A4 Dv) .none oM hI lE iO dN nK),mH⟩) (rR:W.codeIn K dN "reach_said" = true) (fB:W.keepIn K (.ref aV)=true)
  (pQ:W.nsIn K mainGlobals "is_asking" = some (some (.ref aW))) (t4:K.lookup aW=some ⟨jR,gD,.func (W.fnOf "is_asking" "is_asking" (Af Ek) (Ac Ek) (A4 Ek) .none oN hJ lF iP dO nL),mI⟩) (rS:W.codeIn K dO "is_asking" = true) (fC:W.keepIn K (.ref aW)=true)
  (pR:W.nsIn K mainGlobals "is_end" = some (some (.ref aX))) (t5:K.lookup aX=some ⟨jS,gE,.func (W.fnOf "is_end" "is_end" (Af Jk) (Ac Jk) (A4 Jk) .none oO hK lG iQ dP nM),mJ⟩) (rT:W.codeIn K dP "is_end" = true) (fD:W.keepIn K (.ref aX)=true)
  (pS:W.nsIn K mainGlobals "word_due" = some (some (.ref aY))) (t6:K.lookup aY=some ⟨jT,gF,.func (W.fnOf "word_due" "word_due" (Af Gf) (Ac Gf) (A4 Gf) .none oP hL lH iR dQ nN),mK⟩) (rV:W.codeIn K dQ "word_due" = true) (fE:W.keepIn K (.ref aY)=true)
  (eD:W.nsIn K mainGlobals "depth_on" = some (some (.ref aZ))) (t7:K.lookup aZ=some ⟨jU,gG,.func (W.fnOf "depth_on" "depth_on" (Af Fd) (Ac Fd) (A4 Fd) .none oQ hM lI iS dR nO),mL⟩) (rW:W.codeIn K dR "depth_on" = true) (bR:W.keepIn K (.ref aZ)=true)
  (pT:W.nsIn K mainGlobals "lets_plan" = some (some (.ref bA))) (t8:K.lookup bA=some ⟨jV,gH,.func (W.fnOf "lets_plan" "lets_plan" (Af Er) (Ac Er) (A4 Er) .none oR hN lJ iT dS nP),mM⟩) (rX:W.codeIn K dS "lets_plan" = true) (fF:W.keepIn K (.ref bA)=true)
  (pU:W.nsIn K mainGlobals "_law_feed" = some (some (.ref bB))) (t9:K.lookup bB=some ⟨jW,gI,.func (W.fnOf "_law_feed" "_law_feed" (Af Ew) (Ac Ew) (A4 Ew) .none oS hO lK iU dT nQ),mN⟩) (rY:W.codeIn K dT "_law_feed" = true) (fG:W.keepIn K (.ref bB)=true)
  (pV:W.nsIn K mainGlobals "_law_draw" = some (some (.ref bC))) (tD:K.lookup bC=some ⟨jX,gJ,.func (W.fnOf "_law_draw" "_law_draw" (Af Fh) (Ac Fh) (A4 Fh) .none oT hP lL iV dU nR),mO⟩) (rZ:W.codeIn K dU "_law_draw" = true) (fH:W.keepIn K (.ref bC)=true)
  (pW:W.nsIn K mainGlobals "_law_names" = some (some (.ref bD))) (tE:K.lookup bD=some ⟨jY,gK,.func (W.fnOf "_law_names" "_law_names" (Af Ds) (Ac Ds) (A4 Ds) .none oU hQ lM iW dV nS),mP⟩) (s0:W.codeIn K dV "_law_names" = true) (fJ:W.keepIn K (.ref bD)=true)
  (pX:W.nsIn K mainGlobals "_law_shuffled" = some (some (.ref bE))) (tF:K.lookup bE=some ⟨jZ,gL,.func (W.fnOf "_law_shuffled" "_law_shuffled" (Af C7) (Ac C7) (A4 C7) .none oV hR lN iX dW nT),mQ⟩) (s1:W.codeIn K dW "_law_shuffled" = true) (fK:W.keepIn K (.ref bE)=true)
  (pY:W.nsIn K mainGlobals "_law_pairs" = some (some (.ref bF))) (tG:K.lookup bF=some ⟨kA,gM,.func (W.fnOf "_law_pairs" "_law_pairs" (Af Dn) (Ac Dn) (A4 Dn) .none oW hS lO iY dX nU),mR⟩) (s2:W.codeIn K dX "_law_pairs" = true) (fL:W.keepIn K (.ref bF)=true)
  (pZ:W.nsIn K mainGlobals "_law_sayings" = some (some (.ref bG))) (tH:K.lookup bG=some ⟨kB,gN,.func (W.fnOf "_law_sayings" "_law_sayings" (Af Cg) (Ac Cg) (A4 Cg) .none oX hT lP iZ dY nV),mS⟩) (s3:W.codeIn K dY "_law_sayings" = true) (fM:W.keepIn K (.ref bG)=true)
  (q0:W.nsIn K mainGlobals "_law_half" = some (some (.ref bH))) (tI:K.lookup bH=some ⟨kC,gO,.func (W.fnOf "_law_half" "_law_half" (Af Em) (Ac Em) (A4 Em) .none oY hU lQ j0 dZ nW),mT⟩) (s4:W.codeIn K dZ "_law_half" = true) (fN:W.keepIn K (.ref bH)=true)
  (q1:W.nsIn K mainGlobals "_law_orders" = some (some (.ref bI))) (tJ:K.lookup bI=some ⟨kD,gP,.func (W.fnOf "_law_orders" "_law_orders" (Af Cy) (Ac Cy) (A4 Cy) .none oZ hV lR j1 e0 nX),mU⟩) (s5:W.codeIn K e0 "_law_orders" = true) (fO:W.keepIn K (.ref bI)=true)
  (q2:W.nsIn K mainGlobals "_law_parts" = some (some (.ref bJ))) (tK:K.lookup bJ=some ⟨kE,gQ,.func (W.fnOf "_law_parts" "_law_parts" (Af Dp) (Ac Dp) (A4 Dp) .none p0 hW lS j2 e1 nY),mV⟩) (s6:W.codeIn K e1 "_law_parts" = true) (fP:W.keepIn K (.ref bJ)=true)
  (q3:W.nsIn K mainGlobals "_law_questions" = some (some (.ref bK))) (tL:K.lookup bK=some ⟨kF,gR,.func (W.fnOf "_law_questions" "_law_questions" (Af Bw) (Ac Bw) (A4 Bw) .none p1 hX lT j3 e2 nZ),mW⟩) (s7:W.codeIn K e2 "_law_questions" = true) (fQ:W.keepIn K (.ref bK)=true)
  (q4:W.nsIn K mainGlobals "_law_few" = some (some (.ref bL))) (tM:K.lookup bL=some ⟨kG,gS,.func (W.fnOf "_law_few" "_law_few" (Af Gb) (Ac Gb) (A4 Gb) .none p3 hY lU j4 e3 o0),mX⟩) (s8:W.codeIn K e3 "_law_few" = true) (fR:W.keepIn K (.ref bL)=true)
  (q5:W.nsIn K mainGlobals "_law_full" = some (some (.ref bM))) (tN:K.lookup bM=some ⟨kH,gT,.func (W.fnOf "_law_full" "_law_full" (Af Ez) (Ac Ez) (A4 Ez) .none p4 hZ lV j5 e4 o1),mY⟩) (s9:W.codeIn K e4 "_law_full" = true) (fS:W.keepIn K (.ref bM)=true)
  (eE:W.nsIn K mainGlobals "_law_depth" = some (some (.ref bN))) (tO:K.lookup bN=some ⟨kI,gU,.func (W.fnOf "_law_depth" "_law_depth" (Af Cn) (Ac Cn) (A4 Cn) .none p5 i3 lW j6 e5 o2),mZ⟩) (sA:W.codeIn K e5 "_law_depth" = true) (bS:W.keepIn K (.ref bN)=true)
  (q6:W.nsIn K mainGlobals "law" = some (some (.ref bO))) (tP:K.lookup bO=some ⟨kJ,gW,.func (W.fnOf "law" "law" (Af R5) (Ac R5) (A4 R5) .none eA bU d8 d7 aE e9),n0⟩) (sB:W.codeIn K aE "law" = true) (sJ:W.keepIn K (.ref bO)=true)
  (q7:W.findIn K (.ref q) "__init__" = some (some (.ref Z))) (sH:W.isFn K (.ref Z)=true) (tQ:K.lookup Z=some ⟨kK,gX,.func (W.fnOf "__init__" "Ways.__init__" (Af Fi) (Ac Fi) (A4 Fi) .none p6 i4 lX j7 e6 o3),n1⟩) (sC:W.codeIn K e6 "Ways.__init__" = true) (sK:W.keepIn K (.ref Z)=true)
  (q8:W.findIn K (.ref q) "free_names" = some (some (.ref aA))) (sI:W.isFn K (.ref aA)=true) (tR:K.lookup aA=some ⟨kL,gY,.func (W.fnOf "free_names" "Ways.free_names" (Af Bm) (Ac Bm) (A4 Bm) .none p7 i5 lY j8 e7 o4),n2⟩) (sD:W.codeIn K e7 "Ways.free_names" = true) (fT:W.keepIn K (.ref aA)=true)
  (eF:W.findIn K (.ref q) "ways_on" = some (some (.ref aB))) (eM:W.isFn K (.ref aB)=true) (tS:K.lookup aB=some ⟨kM,gZ,.func (W.fnOf "ways_on" "Ways.ways_on" (Af C4) (Ac C4) (A4 C4) .none p8 i6 lZ j9 e8 o5),n3⟩) (sE:W.codeIn K e8 "Ways.ways_on" = true) (bT:W.keepIn K (.ref aB)=true)
  (lc:aC = .ref Wy) (lh:W.codeHdIn K Wy J=true) (lg:mainGlobals≠J)
  (tU:aD = .ref Y) (fU:W.codeHdIn K Y F=true) (tV:mainGlobals≠F)
  {t0:Tok} (g0:W.nsIn K mainGlobals "MOST_LISTED" = some (some (.int 720 t0)))
  (z0:W.nsIn K mainGlobals "any" = some none)
  (z1:W.nsIn K mainGlobals "dict" = some none)
  (z2:W.nsIn K mainGlobals "enumerate" = some none)
  (z3:W.nsIn K mainGlobals "int" = some none)
  (z4:W.nsIn K mainGlobals "isinstance" = some none)
  (z5:W.nsIn K mainGlobals "len" = some none)
  (z6:W.nsIn K mainGlobals "list" = some none)
  (z7:W.nsIn K mainGlobals "max" = some none)
  (z8:W.nsIn K mainGlobals "min" = some none)
  (z9:W.nsIn K mainGlobals "range" = some none)
  (u5:W.nsIn K mainGlobals "repr" = some none)
  (u6:W.nsIn K mainGlobals "reversed" = some none)
  (u7:W.nsIn K mainGlobals "sorted" = some none)
  (u8:W.nsIn K mainGlobals "str" = some none)
  (u9:W.nsIn K mainGlobals "sum" = some none)
  (uA:W.nsIn K mainGlobals "tuple" = some none)
  : ∃ fd:FuncData,(∀ p∈[J,F],∃ c,W.codeHdIn K c p=true)/\(∀(s:Shared) (v:Value),BindsTo s fd ⟨[v],[]⟩ [("_law_script",v)])/\∀ base:Heap,K.In base->base.Ns mainGlobals mg->(∀ p∈[J,F],base.BuiltinsAt mg p)->FnOk l.prog w K mg base CX0 154 fa fd ["_law_script"] (spLaw J F K):=by
 have e:=sG.symm.trans (A0F X G q6)
 cases e;have T:Ey mg:=⟨⟨_,A0F X G g0,⟨_,rfl⟩⟩,A1C X G z0,A1C X G z1,A1C X G z2,A1C X G z3,A1C X G z4,A1C X G z5,A1C X G z6,A1C X G z7,A1C X G z8,A1C X G z9,A1C X G u5,A1C X G u6,A1C X G u7,A1C X G u8,A1C X G u9,A1C X G uA⟩;have F0:=Au (st:=Bd) l0 c0 k0;have b0:Binds K _ ["half","asked"] []:=Ea F0 λ_ _ _ _ _ _ _ _=>rfl;have F1:=Au (st:=Ct) l1 c1 k1;have b1:Binds K _ ["half"] []:=Dm F1 λ_ _ _ _ _ _ _=>rfl;have F2:=Au (st:=Jh) l2 c2 k2;have b2:Binds K _ ["half"] []:=Dm F2 λ_ _ _ _ _ _ _=>rfl;have F3:=Au (st:=B8) l3 c3 k3;have b3:Binds K _ ["reach","pair"] []:=Ea F3 λ_ _ _ _ _ _ _ _=>rfl;have F4:=Au (st:=Qi) l4 c4 k4;have b4:Binds K _ ["half"] []:=Dm F4 λ_ _ _ _ _ _ _=>rfl;have F5:=Au (st:=Du) l5 c5 k5;have b5:Binds K _ ["reach","one","other"] []:=Kv F5 λ_ _ _ _ _ _ _ _ _=>rfl;have F6:=Au (st:=En) l6 c6 k6;have b6:Binds K _ ["reach"] []:=Dm F6 λ_ _ _ _ _ _ _=>rfl;have F7:=Au (st:=Jn) l7 c7 k7;have b7:Binds K _ ["half"] []:=Dm F7 λ_ _ _ _ _ _ _=>rfl;have F8:=Au (st:=Hr) l8 c8 k8;have b8:Binds K _ ["names"] []:=Dm F8 λ_ _ _ _ _ _ _=>rfl;have F9:=Au (st:=Dt) l9 c9 k9;have b9:Binds K _ ["half","bits"] []:=Ea F9 λ_ _ _ _ _ _ _ _=>rfl;have bV:=Au (st:=Lz) sM rA eN;have qD:Binds K _ ["half"] []:=Dm bV λ_ _ _ _ _ _ _=>rfl;have bW:=Au (st:=Bx) sN rB eO;have qE:Binds K _ ["sayings","start","goal"] []:=Kv bW λ_ _ _ _ _ _ _ _ _=>rfl;have bX:=Au (st:=Hq) sO rC eP;have qF:Binds K _ ["names","sayings"] []:=Ea bX λ_ _ _ _ _ _ _ _=>rfl;have bY:=Au (st:=Qw) sP rD eQ;have qG:Binds K _ ["half","name","other"] []:=Kv bY λ_ _ _ _ _ _ _ _ _=>rfl;have bZ:=Au (st:=Fc) sQ rE bP;have eG:Binds K _ ["ways","left","number"] []:=Kv bZ λ_ _ _ _ _ _ _ _ _=>rfl;have cA:=Au (st:=Gd) sR rF eR;have qH:Binds K _ ["half","number"] []:=Ea cA λ_ _ _ _ _ _ _ _=>rfl;have cB:=Au (st:=Dw) sS rG eS;have qI:Binds K _ ["ways"] []:=Dm cB λ_ _ _ _ _ _ _=>rfl;have cC:=Au (st:=Ep) sT rH eT;have qJ:Binds K _ ["half"] []:=Dm cC λ_ _ _ _ _ _ _=>rfl;have cD:=Au (st:=Fe) sU rJ eU;have qK:Binds K _ ["half"] []:=Dm cD λ_ _ _ _ _ _ _=>rfl;have cE:=Au (st:=Qe) sV rK eV;have qL:Binds K _ ["half"] []:=Dm cE λ_ _ _ _ _ _ _=>rfl;have cF:=Au (st:=Cm) sW rL bQ;have eH:Binds K _ ["half"] []:=Dm cF λ_ _ _ _ _ _ _=>rfl;have cG:=Au (st:=Hi) sX rM eW;have qM:Binds K _ ["half"] []:=Dm cG λ_ _ _ _ _ _ _=>rfl;have cH:=Au (st:=Cv) sY rN eX;have qN:Binds K _ ["thing","size"] []:=Ea cH λ_ _ _ _ _ _ _ _=>rfl;have cI:=Au (st:=Bv) sZ rO eY;have qO:Binds K _ ["reach","one","other"] []:=Kv cI λ_ _ _ _ _ _ _ _ _=>rfl;have cJ:=Au (st:=Fa) t1 rP eZ;have qP:Binds K _ ["reach"] []:=Dm cJ λ_ _ _ _ _ _ _=>rfl;have cK:=Au (st:=Ce) t2 rQ fA;have qQ:Binds K _ ["reach"] []:=Dm cK λ_ _ _ _ _ _ _=>rfl;have cL:=Au (st:=Dv) t3 rR fB;have qR:Binds K _ ["reach","one","other"] []:=Kv cL λ_ _ _ _ _ _ _ _ _=>rfl;have cM:=Au (st:=Ek) t4 rS fC;have qS:Binds K _ ["thing"] []:=Dm cM λ_ _ _ _ _ _ _=>rfl;have cN:=Au (st:=Jk) t5 rT fD;have qT:Binds K _ ["thing"] []:=Dm cN λ_ _ _ _ _ _ _=>rfl;have cO:=Au (st:=Gf) t6 rV fE;have qU:Binds K _ ["reach","plan"] []:=Ea cO λ_ _ _ _ _ _ _ _=>rfl;have cP:=Au (st:=Fd) t7 rW bR;have eI:Binds K _ ["reach","plan","path"] []:=Kv cP λ_ _ _ _ _ _ _ _ _=>rfl;have cQ:=Au (st:=Er) t8 rX fF;have qV:Binds K _ ["half","plan"] []:=Ea cQ λ_ _ _ _ _ _ _ _=>rfl;have cR:=Au (st:=Ew) t9 rY fG;have qW:Binds K _ ["_law_script"] []:=Dm cR λ_ _ _ _ _ _ _=>rfl;have cS:=Au (st:=Fh) tD rZ fH;have qX:Binds K _ ["_law_feed_here","_law_many"] []:=Ea cS λ_ _ _ _ _ _ _ _=>rfl;have cT:=Au (st:=Ds) tE s0 fJ;have qY:Binds K _ ["_law_feed_here","_law_many"] []:=Ea cT λ_ _ _ _ _ _ _ _=>rfl;have cU:=Au (st:=C7) tF s1 fK;have qZ:Binds K _ ["_law_feed_here","_law_some"] []:=Ea cU λ_ _ _ _ _ _ _ _=>rfl;have cV:=Au (st:=Dn) tG s2 fL;have r0:Binds K _ ["_law_feed_here","_law_line"] []:=Ea cV λ_ _ _ _ _ _ _ _=>rfl;have cW:=Au (st:=Cg) tH s3 fM;have r1:Binds K _ ["_law_feed_here","_law_line"] []:=Ea cW λ_ _ _ _ _ _ _ _=>rfl;have cX:=Au (st:=Em) tI s4 fN;have r2:Binds K _ ["_law_feed_here","_law_most"] []:=Ea cX λ_ _ _ _ _ _ _ _=>rfl;have cY:=Au (st:=Cy) tJ s5 fO;have r3:Binds K _ ["_law_half_here"] []:=Dm cY λ_ _ _ _ _ _ _=>rfl;have cZ:=Au (st:=Dp) tK s6 fP;have r4:Binds K _ ["_law_orders_here","_law_one","_law_other"] []:=Kv cZ λ_ _ _ _ _ _ _ _ _=>rfl;have d0:=Au (st:=Bw) tL s7 fQ;have r5:Binds K _ ["_law_names_here","_law_orders_here"] []:=Ea d0 λ_ _ _ _ _ _ _ _=>rfl;have d1:=Au (st:=Gb) tM s8 fR;have r6:Binds K _ ["_law_feed_here"] []:=Dm d1 λ_ _ _ _ _ _ _=>rfl;have d2:=Au (st:=Ez) tN s9 fS;have r7:Binds K _ ["_law_feed_here","_law_half_here"] []:=Ea d2 λ_ _ _ _ _ _ _ _=>rfl;have d3:=Au (st:=Cn) tO sA bS;have eJ:Binds K _ ["_law_names_here","_law_plan","_law_orders_here"] []:=Kv d3 λ_ _ _ _ _ _ _ _ _=>rfl;have i7:=Au (st:=R5) tP sB sJ;have d4:=Au (st:=Fi) tQ sC sK;have r8:Binds K _ ["self","half"] []:=Ea d4 λ_ _ _ _ _ _ _ _=>rfl;have d5:=Au (st:=Bm) tR sD fT;have r9:Binds K _ ["self","left"] []:=Ea d5 λ_ _ _ _ _ _ _ _=>rfl;have d6:=Au (st:=C4) tS sE bT;have eK:Binds K _ ["self","left"] []:=Ea d6 λ_ _ _ _ _ _ _ _=>rfl;have O:Ed K q:=⟨⟨u2,sF,u3,u4⟩,u1,tY,tX,tZ,u0⟩;refine⟨W.fnOf "law" "law" (Af R5) (Ac R5) (A4 R5) .none eA bU d8 d7 aE e9,λp hp=>by {simp only[List.mem_cons,List.not_mem_nil,or_false] at hp;rcases hp with rfl|rfl;exact⟨Wy,lh⟩;exact⟨Y,fU⟩},λs v=>.of_eq rfl,λbase KB _ eL=>?_⟩
 have lb:aQ8 K mg base Wy J:=⟨W.codeHd_of_K KB lh,eL J (by simp),lg⟩;have tT:aQ8 K mg base Y F:=⟨W.codeHd_of_K KB fU,eL F (by simp),tV⟩;have Ee:Fnd l.prog w K mg base 1 "refuse_strangers" ["half","asked"] (Dj K):=⟨_,_,Kf F0 T,A0F X G a0,k0,b0⟩;have As:Fnd l.prog w K mg base 1 "behind_each" ["half"] (C3 K):=⟨_,_,Qa F1 T,A0F X G a1,k1,b1⟩;have Di:Fnd l.prog w K mg base 1 "has_third_between" ["reach","pair"] (Db K):=⟨_,_,Jv F3 T,A0F X G a3,k3,b3⟩;have Dq:Fnd l.prog w K mg base 1 "are_untold" ["reach","one","other"] (G9 K):=⟨_,_,Re F5 T,A0F X G a5,k5,b5⟩;have Nf:Fnd l.prog w K mg base 1 "bits_of" ["names"] (Lx K):=⟨_,_,Zi F8 T,A0F X G a8,k8,b8⟩;have Fx:Fnd l.prog w K mg base 1 "way_by_sayings" ["sayings","start","goal"] (Es K):=⟨_,_,Lh bW T,A0F X G pC,eO,qE⟩;have Cs:Fnd l.prog w K mg base 1 "is_tuple_of" ["thing","size"] (Fj K):=⟨_,_,Pt cH T,A0F X G pL,eX,qN⟩;have K2:Fnd l.prog w K mg base 1 "is_row_of" ["reach"] (J0 K):=⟨_,_,Vu cJ T,A0F X G pN,eZ,qP⟩;have Hh:Fnd l.prog w K mg base 1 "order_of_row" ["reach"] (Gp F K):=⟨_,_,Pb cK T tT tU,A0F X G pO,fA,qQ⟩;have Dl:Fnd l.prog w K mg base 1 "reach_said" ["reach","one","other"] (G4 K):=⟨_,_,Rz cL T,A0F X G pP,fB,qR⟩;have Ka:Fnd l.prog w K mg base 1 "_law_feed" ["_law_script"] (J9 K):=⟨_,_,T2 cR T,A0F X G pU,fG,qW⟩;have U:Fnd l.prog w K mg base 1 "_law_draw" ["_law_feed_here","_law_many"] (C0 K):=⟨_,_,Tt cS T,A0F X G pV,fH,qX⟩;have I0:Fnd l.prog w K mg base 1 "_law_orders" ["_law_half_here"] (Hc K):=⟨_,_,Pl cY T,A0F X G q1,fO,r3⟩;have C8:Fnd l.prog w K mg base 1 "_law_parts" ["_law_orders_here","_law_one","_law_other"] (Ec K):=⟨_,_,Sm cZ T,A0F X G q2,fP,r4⟩;have Ah:Mtd l.prog w K mg base 1 q "free_names" ["self","left"] (Az q K):=⟨_,_,L1 d5 T O,⟨q8,sI,fT⟩,r9⟩;have R9:Fnd l.prog w K mg base 2 "closed" ["half"] (Oh K):=⟨_,_,ah8 F2 T As,A0F X G a2,k2,b2⟩;have Kb:Fnd l.prog w K mg base 2 "untold_of" ["reach"] (J5 K):=⟨_,_,Tq F6 T Dq,A0F X G a6,k6,b6⟩;have Je:Fnd l.prog w K mg base 2 "bits_ahead" ["half","bits"] (Ii K):=⟨_,_,Rj F9 T As,A0F X G a9,k9,b9⟩;have J2:Fnd l.prog w K mg base 2 "comings_of" ["ways"] (Im q K):=⟨_,_,R3 cB T O Ah,A0F X G pG,eS,qI⟩;have Fu:Fnd l.prog w K mg base 2 "are_two_untold" ["reach","one","other"] (Ev K):=⟨_,_,Lk cI T Dq,A0F X G pM,eY,qO⟩;have K5:Fnd l.prog w K mg base 2 "is_asking" ["thing"] (J1 K):=⟨_,_,Vd cM T Cs,A0F X G pQ,fC,qS⟩;have Sw:Fnd l.prog w K mg base 2 "is_end" ["thing"] (Od K):=⟨_,_,a74 cN T Cs,A0F X G pR,fD,qT⟩;have Dy:Fnd l.prog w K mg base 2 "_law_names" ["_law_feed_here","_law_many"] (Ga K):=⟨_,_,Sc cT T U,A0F X G pW,fJ,qY⟩;have Bs:Fnd l.prog w K mg base 2 "_law_shuffled" ["_law_feed_here","_law_some"] (Df K):=⟨_,_,Mp cU T U,A0F X G pX,fK,qZ⟩;have Jd:Fnd l.prog w K mg base 2 "_law_pairs" ["_law_feed_here","_law_line"] (Ic K):=⟨_,_,Ri cV T U,A0F X G pY,fL,r0⟩;have Cc:Fnd l.prog w K mg base 2 "_law_questions" ["_law_names_here","_law_orders_here"] (Cw K):=⟨_,_,Lq d0 T C8,A0F X G q3,fQ,r5⟩;have Ir:Fnd l.prog w K mg base 2 "_law_full" ["_law_feed_here","_law_half_here"] (J7 K):=⟨_,_,Td d2 T U,A0F X G q5,fS,r7⟩;have qC:Fnd l.prog w K mg base 3 "bare" ["half"] (Wz K):=⟨_,_,ay0 F4 T As R9 Di,A0F X G a4,k4,b4⟩;have Rv:Fnd l.prog w K mg base 3 "untold" ["half"] (Nw K):=⟨_,_,a07 F7 T As Kb,A0F X G a7,k7,b7⟩;have Hk:Fnd l.prog w K mg base 3 "word_due" ["reach","plan"] (Io F K):=⟨_,_,Wx cO T Fu K2 Hh K5 Sw,A0F X G pS,fE,qU⟩;have Hg:Fnd l.prog w K mg base 3 "_law_sayings" ["_law_feed_here","_law_line"] (Gq K):=⟨_,_,Np cW T U Jd,A0F X G pZ,fM,r1⟩;have C9:Mkd l.prog w K mg base 3 q "Ways" ["self","half"] (Fs q K):=⟨_,_,Ue d4 T O Nf Je,⟨tW,q7,sH,sL⟩,A0F X G q9,r8⟩;have Nt:Fnd l.prog w K mg base 4 "thinned" ["names","sayings"] (Lv K):=⟨_,_,Z5 bX T qC,A0F X G pD,eP,qF⟩;have Eu:Fnd l.prog w K mg base 4 "_law_half" ["_law_feed_here","_law_most"] (Gv K):=⟨_,_,Tx cX T U Dy Bs Hg,A0F X G q0,fN,r2⟩;have Qk:Fnd l.prog w K mg base 5 "said" ["half","name","other"] (R6 K):=⟨_,_,aw3 bY T Ee Fx Nt,A0F X G pE,eQ,qG⟩;have Jf:Fnd l.prog w K mg base 5 "_law_few" ["_law_feed_here"] (K6 K):=⟨_,_,Wp d1 T U Dy Bs Eu,A0F X G q4,fR,r6⟩;have Al:Mtd l.prog w K mg base 13 q "ways_on" ["self","left"] (Bo q K):=⟨_,_,Pc d6 T O Ah ⟨eF,eM,bT⟩ eK,⟨eF,eM,bT⟩,eK⟩;have Wl:Fnd l.prog w K mg base 14 "count" ["half"] (Sf K):=⟨_,_,al6 bV T O C9 Al,A0F X G p9,eN,qD⟩;have Kg:Fnd l.prog w K mg base 14 "shares_of" ["half"] (Iz K):=⟨_,_,Uh cC T O J2 C9 Ah Al,A0F X G pH,eT,qJ⟩;have Kd:Fnd l.prog w K mg base 15 "questions" ["half"] (Ja K):=⟨_,_,Vb cD T Rv Kg,A0F X G pI,eU,qK⟩;have T9:Fnd l.prog w K mg base 16 "best" ["half"] (Sb J K):=⟨_,_,aw4 cE T lb lc Kd,A0F X G pJ,eV,qL⟩;have Hv:Fnd l.prog w K mg base 25 "order_on" ["ways","left","number"] (K4 q K):=⟨_,_,X1 bZ T O Ah Al (A0F X G eB) bP eG,A0F X G eB,bP,eG⟩;have Hn:Fnd l.prog w K mg base 26 "order_of" ["half","number"] (Ie K):=⟨_,_,Wt cA T O Hv C9 Al,A0F X G pF,eR,qH⟩;have Do:Fnd l.prog w K mg base 128 "_law_depth" ["_law_names_here","_law_plan","_law_orders_here"] (Ia K):=⟨_,_,Si d3 T C8 Cc (A0F X G eE) bS eJ,A0F X G eE,bS,eJ⟩;have Gc:Fnd l.prog w K mg base 129 "depth_on" ["reach","plan","path"] (Ke F K):=⟨_,_,W2 cP T Dl Hk (A0F X G eD) bR eI,A0F X G eD,bR,eI⟩;have K7:Fnd l.prog w K mg base 130 "lets_plan" ["half","plan"] (Jb F K):=⟨_,_,Uz cQ T As Gc,A0F X G pT,fF,qV⟩;have Dr:Fnd l.prog w K mg base 152 "planned_on" ["half"] (Ip J K):=⟨_,_,Rq cF T Qk Hn T9 (A0F X G eC) bQ eH,A0F X G eC,bQ,eH⟩;have Oj:Fnd l.prog w K mg base 153 "planned" ["half"] (Lr J K):=⟨_,_,Zr cG T Wl Dr,A0F X G pK,eW,qM⟩;exact aJ4 i7 T Oj K7 Ka Eu I0 Jf Ir Do
theorem walk {l:W.OpenLaw}{q:Program}{a4:List Str}{Z:(Str->Option Value)->Heap->Prop}{U:World->Heap->Prop}{d:DefRec}{K:Params->W.Frag}{J O:Addr}(hn:l.most=some 63)(a3:d.params.defaults=[])(a1:[J,O].Nodup)
  (hY:∀(w:World) (h:Heap),U w h->(K w.params).In h) (a2:∀(w:World) (h:Heap),U w h->∀ p∈[J,O],h.get? p=some (W.tabObj #[])) (a0:∀(w:World),∀ p∈[J,O],(K w.params).lookup p=none)
  (F:∀(w:World) (mg:Str->Option Value) (Y:Addr) (h:Heap),(K w.params).In h->h.Ns mainGlobals mg->mg d.name=some (.ref Y) ->
   ∃ fd:FuncData,(∀ p∈[J,O],∃ c,W.codeHdIn (K w.params) c p=true)/\(∀(s:Shared) (u:Value),BindsTo s fd ⟨[u],[]⟩ [("_law_script",u)])/\∀ base:Heap,(K w.params).In base->base.Ns mainGlobals mg->(∀ p∈[J,O],base.BuiltinsAt mg p)->FnOk l.prog w (K w.params) mg base CX0 154 Y fd ["_law_script"] (spLaw J O (K w.params))) :
  W.WalkO q a4 Z U l.row.toRowW d [] (λf vs=>PySem.call f vs):=
 L2.walk_ofTs (Ps:=[J,O]) (n:=63) (k:=154) (x:="_law_script") (CX:=λ_=>CX0) (sp:=λw=>spLaw J O (K w.params)) hn nofun a3 ⟨rfl,by decide,by decide,rfl⟩ hY a2 a0 F (λ_ _ a ns hl hO hS=>⟨a,ns,rfl,hS,hl,a1,λp hp=>.inl (hO.1 p hp),λ_=>rfl⟩) λ_ _ _ _ _ z=>z
end K67
theorem PySem.W.Fast.tw12976885630975298 : True := trivial
theorem PySem.W.Fast.tw7161981366855452322 : True := trivial
theorem PySem.W.Fast.tw15943206943228122300 : True := trivial
theorem PySem.W.Fast.tw4640723953328314164 : True := trivial
theorem PySem.W.Fast.tw16044599034939871366 : True := trivial
theorem PySem.W.Fast.tw14389771706803071297 : True := trivial
theorem PySem.W.Fast.tw1161892894533952396 : True := trivial
theorem PySem.W.Fast.tw17640016264270312862 : True := trivial
theorem PySem.W.Fast.tw13214651346620598549 : True := trivial
theorem PySem.W.Fast.tw13647492936082668366 : True := trivial
theorem PySem.W.Fast.tw3630658307182093935 : True := trivial
theorem PySem.W.Fast.tw18386879951398496334 : True := trivial
theorem PySem.W.Fast.tw17521366659256881774 : True := trivial
theorem PySem.W.Fast.tw3761033729401470147 : True := trivial
theorem PySem.W.Fast.tw9049006823388275418 : True := trivial
theorem PySem.W.Fast.tw5523588267005346509 : True := trivial
theorem PySem.W.Fast.tw17372085292178806151 : True := trivial
theorem PySem.W.Fast.tw16343802764772060226 : True := trivial
theorem PySem.W.Fast.tw14639330415670268520 : True := trivial
theorem PySem.W.Fast.tw5724737167353027508 : True := trivial
theorem PySem.W.Fast.tw5786382681814874231 : True := trivial
theorem PySem.W.Fast.tw3588999273707855171 : True := trivial
theorem PySem.W.Fast.tw10536426364822843134 : True := trivial
theorem PySem.W.Fast.tw15236888312880016743 : True := trivial
theorem PySem.W.Fast.tw13882510908012391387 : True := trivial
theorem PySem.W.Fast.tw2219329143912612992 : True := trivial
theorem PySem.W.Fast.tw4472167095491655096 : True := trivial
theorem PySem.W.Fast.tw9435396580047707310 : True := trivial
theorem PySem.W.Fast.tw17748620331637612874 : True := trivial
theorem PySem.W.Fast.tw7048023707209550833 : True := trivial
theorem PySem.W.Fast.tw5367523258500625800 : True := trivial
theorem PySem.W.Fast.tw11458091927923085106 : True := trivial
theorem PySem.W.Fast.tw2011193264895532716 : True := trivial
theorem PySem.W.Fast.tw14827548898818721529 : True := trivial
theorem PySem.W.Fast.tw17920056293699246525 : True := trivial
theorem PySem.W.Fast.tw13807651382066216891 : True := trivial
theorem PySem.W.Fast.tw9179957323538971138 : True := trivial
theorem PySem.W.Fast.tw9711674599822331530 : True := trivial
theorem PySem.W.Fast.tw10560280330347757600 : True := trivial
theorem PySem.W.Fast.tw12385173077720178236 : True := trivial
theorem PySem.W.Fast.tw6952618004770547601 : True := trivial
theorem PySem.W.Fast.tw17367668548793456192 : True := trivial
open PySem PySem.W PyProof.Rows
set_option maxRecDepth 100000 in
set_option maxHeartbeats 0 in
theorem PySem.Challenge.cw_halforder_k67_planned_holds : PySem.Challenge.rw_halforder_k67_planned.Holds := by
 w_on;o_law;k_head;(case hw=>w_witness2)
 k_fill
 refine K67.walk (l:=PySem.Challenge.rw_halforder_k67_planned) rfl rfl ?hPP (λw h Y=>PySem.W.km_in_of Y) (λw h Y p hp=>by {simp only[List.mem_cons,List.not_mem_nil,or_false] at hp;rcases hp with rfl|rfl;exact PySem.W.km_tabs_of Y _ (List.mem_cons_of_mem _ (List.mem_cons_self ..));exact PySem.W.km_tabs_of Y _ (List.mem_cons_self ..)}) (λw p hp=>by {simp only[List.mem_cons,List.not_mem_nil,or_false] at hp;rcases hp with rfl|rfl;kernel_rfl;kernel_rfl}) ?F
 case F=>
  intro w mg fa h KX G hmg;refine' K67.all_mk KX G hmg ?q_aC_Ways ?q_pg_Ways ?q_hd_Ways ?q_po_Ways ?q_sa_Ways ?q_mk_Ways ?q_kc_Ways ?q_n_Ways_names ?q_n_Ways_bits ?q_n_Ways_ahead ?q_n_Ways_full ?q_n_Ways_known ?q_a0 ?q_l0 ?q_c0 ?q_k0 ?q_a1 ?q_l1 ?q_c1 ?q_k1 ?q_a2 ?q_l2 ?q_c2 ?q_k2 ?q_a3 ?q_l3 ?q_c3 ?q_k3 ?q_a4 ?q_l4 ?q_c4 ?q_k4 ?q_a5 ?q_l5 ?q_c5 ?q_k5 ?q_a6 ?q_l6 ?q_c6 ?q_k6 ?q_a7 ?q_l7 ?q_c7 ?q_k7 ?q_a8 ?q_l8 ?q_c8 ?q_k8 ?q_a9 ?q_l9 ?q_c9 ?q_k9 ?q_a10 ?q_l10 ?q_c10 ?q_k10 ?q_a11 ?q_l11 ?q_c11 ?q_k11 ?q_a12 ?q_l12 ?q_c12 ?q_k12 ?q_a13 ?q_l13 ?q_c13 ?q_k13 ?q_a14 ?q_l14 ?q_c14 ?q_k14 ?q_a15 ?q_l15 ?q_c15 ?q_k15 ?q_a16 ?q_l16 ?q_c16 ?q_k16 ?q_a17 ?q_l17 ?q_c17 ?q_k17 ?q_a18 ?q_l18 ?q_c18 ?q_k18 ?q_a19 ?q_l19 ?q_c19 ?q_k19 ?q_a20 ?q_l20 ?q_c20 ?q_k20 ?q_a21 ?q_l21 ?q_c21 ?q_k21 ?q_a22 ?q_l22 ?q_c22 ?q_k22 ?q_a23 ?q_l23 ?q_c23 ?q_k23 ?q_a24 ?q_l24 ?q_c24 ?q_k24 ?q_a25 ?q_l25 ?q_c25 ?q_k25 ?q_a26 ?q_l26 ?q_c26 ?q_k26 ?q_a27 ?q_l27 ?q_c27 ?q_k27 ?q_a28 ?q_l28 ?q_c28 ?q_k28 ?q_a29 ?q_l29 ?q_c29 ?q_k29 ?q_a30 ?q_l30 ?q_c30 ?q_k30 ?q_a31 ?q_l31 ?q_c31 ?q_k31 ?q_a32 ?q_l32 ?q_c32 ?q_k32 ?q_a33 ?q_l33 ?q_c33 ?q_k33 ?q_a34 ?q_l34 ?q_c34 ?q_k34 ?q_a35 ?q_l35 ?q_c35 ?q_k35 ?q_a36 ?q_l36 ?q_c36 ?q_k36 ?q_a37 ?q_l37 ?q_c37 ?q_k37 ?q_a38 ?q_l38 ?q_c38 ?q_k38 ?q_a39 ?q_l39 ?q_c39 ?q_k39 ?q_a40 ?q_l40 ?q_c40 ?q_k40 ?q_a41 ?q_l41 ?q_c41 ?q_k41 ?q_a42 ?q_l42 ?q_c42 ?q_k42 ?q_a43 ?q_l43 ?q_c43 ?q_k43 ?q_a44 ?q_l44 ?q_c44 ?q_k44 ?q_a45 ?q_l45 ?q_c45 ?q_k45 ?q_a46 ?q_i46 ?q_l46 ?q_c46 ?q_k46 ?q_a47 ?q_i47 ?q_l47 ?q_c47 ?q_k47 ?q_a48 ?q_i48 ?q_l48 ?q_c48 ?q_k48 ?q_lc ?q_lh ?q_lg ?q_lc1 ?q_lh1 ?q_lg1 ?q_g0 ?q_z0 ?q_z1 ?q_z2 ?q_z3 ?q_z4 ?q_z5 ?q_z6 ?q_z7 ?q_z8 ?q_z9 ?q_z10 ?q_z11 ?q_z12 ?q_z13 ?q_z14 ?q_z15
  (case q_aC_Ways=>k_is)
  (case q_pg_Ways=>k_is)
  (case q_hd_Ways=>k_is)
  (case q_po_Ways=>k_is)
  (case q_sa_Ways=>k_is)
  (case q_mk_Ways=>k_is)
  (case q_kc_Ways=>k_is)
  (case q_n_Ways_names=>k_is)
  (case q_n_Ways_bits=>k_is)
  (case q_n_Ways_ahead=>k_is)
  (case q_n_Ways_full=>k_is)
  (case q_n_Ways_known=>k_is)
  (case q_a0=>k_is)
  (case q_l0=>k_is)
  (case q_c0=>k_is)
  (case q_k0=>k_is)
  (case q_a1=>k_is)
  (case q_l1=>k_is)
  (case q_c1=>k_is)
  (case q_k1=>k_is)
  (case q_a2=>k_is)
  (case q_l2=>k_is)
  (case q_c2=>k_is)
  (case q_k2=>k_is)
  (case q_a3=>k_is)
  (case q_l3=>k_is)
  (case q_c3=>k_is)
  (case q_k3=>k_is)
  (case q_a4=>k_is)
  (case q_l4=>k_is)
  (case q_c4=>k_is)
  (case q_k4=>k_is)
  (case q_a5=>k_is)
  (case q_l5=>k_is)
  (case q_c5=>k_is)
  (case q_k5=>k_is)
  (case q_a6=>k_is)
  (case q_l6=>k_is)
  (case q_c6=>k_is)
  (case q_k6=>k_is)
  (case q_a7=>k_is)
  (case q_l7=>k_is)
  (case q_c7=>k_is)
  (case q_k7=>k_is)
  (case q_a8=>k_is)
  (case q_l8=>k_is)
  (case q_c8=>k_is)
  (case q_k8=>k_is)
  (case q_a9=>k_is)
  (case q_l9=>k_is)
  (case q_c9=>k_is)
  (case q_k9=>k_is)
  (case q_a10=>k_is)
  (case q_l10=>k_is)
  (case q_c10=>k_is)
  (case q_k10=>k_is)
  (case q_a11=>k_is)
  (case q_l11=>k_is)
  (case q_c11=>k_is)
  (case q_k11=>k_is)
  (case q_a12=>k_is)
  (case q_l12=>k_is)
  (case q_c12=>k_is)
  (case q_k12=>k_is)
  (case q_a13=>k_is)
  (case q_l13=>k_is)
  (case q_c13=>k_is)
  (case q_k13=>k_is)
  (case q_a14=>k_is)
  (case q_l14=>k_is)
  (case q_c14=>k_is)
  (case q_k14=>k_is)
  (case q_a15=>k_is)
  (case q_l15=>k_is)
  (case q_c15=>k_is)
  (case q_k15=>k_is)
  (case q_a16=>k_is)
  (case q_l16=>k_is)
  (case q_c16=>k_is)
  (case q_k16=>k_is)
  (case q_a17=>k_is)
  (case q_l17=>k_is)
  (case q_c17=>k_is)
  (case q_k17=>k_is)
  (case q_a18=>k_is)
  (case q_l18=>k_is)
  (case q_c18=>k_is)
  (case q_k18=>k_is)
  (case q_a19=>k_is)
  (case q_l19=>k_is)
  (case q_c19=>k_is)
  (case q_k19=>k_is)
  (case q_a20=>k_is)
  (case q_l20=>k_is)
  (case q_c20=>k_is)
  (case q_k20=>k_is)
  (case q_a21=>k_is)
  (case q_l21=>k_is)
  (case q_c21=>k_is)
  (case q_k21=>k_is)
  (case q_a22=>k_is)
  (case q_l22=>k_is)
  (case q_c22=>k_is)
  (case q_k22=>k_is)
  (case q_a23=>k_is)
  (case q_l23=>k_is)
  (case q_c23=>k_is)
  (case q_k23=>k_is)
  (case q_a24=>k_is)
  (case q_l24=>k_is)
  (case q_c24=>k_is)
  (case q_k24=>k_is)
  (case q_a25=>k_is)
  (case q_l25=>k_is)
  (case q_c25=>k_is)
  (case q_k25=>k_is)
  (case q_a26=>k_is)
  (case q_l26=>k_is)
  (case q_c26=>k_is)
  (case q_k26=>k_is)
  (case q_a27=>k_is)
  (case q_l27=>k_is)
  (case q_c27=>k_is)
  (case q_k27=>k_is)
  (case q_a28=>k_is)
  (case q_l28=>k_is)
  (case q_c28=>k_is)
  (case q_k28=>k_is)
  (case q_a29=>k_is)
  (case q_l29=>k_is)
  (case q_c29=>k_is)
  (case q_k29=>k_is)
  (case q_a30=>k_is)
  (case q_l30=>k_is)
  (case q_c30=>k_is)
  (case q_k30=>k_is)
  (case q_a31=>k_is)
  (case q_l31=>k_is)
  (case q_c31=>k_is)
  (case q_k31=>k_is)
  (case q_a32=>k_is)
  (case q_l32=>k_is)
  (case q_c32=>k_is)
  (case q_k32=>k_is)
  (case q_a33=>k_is)
  (case q_l33=>k_is)
  (case q_c33=>k_is)
  (case q_k33=>k_is)
  (case q_a34=>k_is)
  (case q_l34=>k_is)
  (case q_c34=>k_is)
  (case q_k34=>k_is)
  (case q_a35=>k_is)
  (case q_l35=>k_is)
  (case q_c35=>k_is)
  (case q_k35=>k_is)
  (case q_a36=>k_is)
  (case q_l36=>k_is)
  (case q_c36=>k_is)
  (case q_k36=>k_is)
  (case q_a37=>k_is)
  (case q_l37=>k_is)
  (case q_c37=>k_is)
  (case q_k37=>k_is)
  (case q_a38=>k_is)
  (case q_l38=>k_is)
  (case q_c38=>k_is)
  (case q_k38=>k_is)
  (case q_a39=>k_is)
  (case q_l39=>k_is)
  (case q_c39=>k_is)
  (case q_k39=>k_is)
  (case q_a40=>k_is)
  (case q_l40=>k_is)
  (case q_c40=>k_is)
  (case q_k40=>k_is)
  (case q_a41=>k_is)
  (case q_l41=>k_is)
  (case q_c41=>k_is)
  (case q_k41=>k_is)
  (case q_a42=>k_is)
  (case q_l42=>k_is)
  (case q_c42=>k_is)
  (case q_k42=>k_is)
  (case q_a43=>k_is)
  (case q_l43=>k_is)
  (case q_c43=>k_is)
  (case q_k43=>k_is)
  (case q_a44=>k_is)
  (case q_l44=>k_is)
  (case q_c44=>k_is)
  (case q_k44=>k_is)
  (case q_a45=>k_is)
  (case q_l45=>k_is)
  (case q_c45=>k_is)
  (case q_k45=>k_is)
  (case q_a46=>k_is)
  (case q_i46=>k_is)
  (case q_l46=>k_is)
  (case q_c46=>k_is)
  (case q_k46=>k_is)
  (case q_a47=>k_is)
  (case q_i47=>k_is)
  (case q_l47=>k_is)
  (case q_c47=>k_is)
  (case q_k47=>k_is)
  (case q_a48=>k_is)
  (case q_i48=>k_is)
  (case q_l48=>k_is)
  (case q_c48=>k_is)
  (case q_k48=>k_is)
  (case q_lc=>rfl)
  (case q_lh=>kernel_rfl)
  (case q_lg=>decide)
  (case q_lc1=>rfl)
  (case q_lh1=>kernel_rfl)
  (case q_lg1=>decide)
  (case q_g0=>k_is)
  (case q_z0=>k_is)
  (case q_z1=>k_is)
  (case q_z2=>k_is)
  (case q_z3=>k_is)
  (case q_z4=>k_is)
  (case q_z5=>k_is)
  (case q_z6=>k_is)
  (case q_z7=>k_is)
  (case q_z8=>k_is)
  (case q_z9=>k_is)
  (case q_z10=>k_is)
  (case q_z11=>k_is)
  (case q_z12=>k_is)
  (case q_z13=>k_is)
  (case q_z14=>k_is)
  (case q_z15=>k_is)
 case hPP=>decide
