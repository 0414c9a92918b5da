import PyProof.Rows.All
import Wide.All
import OpenK.AllK
import Wide.FinOn
import PyProof.EqAt
import PyProof.EqKinds
import PyProof.TupleCall
import Lean
import PyProof.DictWalks
import PyProof.DictIter
import PyProof.P3In
import KE.KEqSeq
import PyProof.ReprLen
import PyProof.ReprRoads
import PyProof.StrOps2
import KE.KRevSl
import PyProof.IsRules
import PyProof.StrLawsIdx
import PyProof.Rows.RegRepr
import PyProof.Rows.RegFStrParts
import PyProof.DictUpdate
import PyProof.AttrMissHeap
import PyProof.Walks
import KE.KDictOf
import PyProof.EnumIter
import PyProof.EnumFor
import PyProof.LayNew
import PyProof.EnumMake
import PyProof.Draws
import PyProof.WalksT
import PyProof.TupleIter
import PyProof.WalksMore
import KE.KRevIter
import KE.KEqDict
import PyProof.Rows.SetFrom
import PyProof.StrLawsTight
import PyProof.StrLawsChain
import PyProof.SumWalk
import PyProof.Rows.SortStr
import PyProof.Rows.SortWalk
import PyProof.TupleOfSeq
import KE.KDictSum
import KE.KSortTup
import PyProof.ListRange
import PyProof.ZipIter
import PyProof.Rows.ZipGen
import KE.KItemsList
import PyProof.ExcArgsOwn
import PyProof.InstStoreFacts
import PyProof.ExcBaseAll.ValueError
import PyProof.StationsW
import PyProof.RulesAs
import PyProof.RulesDel
import PyProof.NeKinds
import PyProof.ListMulAny
import KE.KMinBuiltin
import PyProof.Rows.CallKwBuiltin
import KE.KLam
import KE.KMinKey
import PyProof.WalkInts
import KE.KNestM
import PyProof.SeqI3
import KE.KSortKey
import PyProof.MaxThree
import PySem.Challenge.RW_halforder_k66_steps_and_depths
local macro_rules | `(tactic| eq_refl) => `(tactic| with_unfolding_all exact Or.inl rfl)
local macro_rules | `(tactic| ac_rfl) => `(tactic| with_unfolding_all exact fun _ _ => rfl)
local macro_rules | `(tactic| ac_nf) => `(tactic| with_unfolding_all rfl)
noncomputable section
local macro_rules | `(⋯) => `(by ac_nf)
local macro_rules | `(∅) => `(by omega)
local macro_rules | `(nofun) => `(by decide)
local macro_rules | `(tactic| symm) => `(tactic| walk_at "rd")
def A00:=@List.getElem?_eq_some_iff
def A01:=@List.length_map
def A02:=@PySem.Heap.get?_push_of_some
def A03:=@List.getElem?_eq_getElem
def A04:=@List.mem_of_getElem?
def A05:=@PySem.wpAny_bind
def A06:=@List.length_append
def A07:=@List.getElem?_map
def A08:=@Nat.le_refl
def A09:=@List.mem_cons_of_mem
def A0A:=@List.mem_append
def A0B:=@List.mem_cons
def A0C:=@PySem.wpAny_pure
def A0D:=@List.mem_cons_self
def A0E:=@PySem.W.mg_of
def A0F:=@PySem.Heap.lt_size
def A0G:=@List.length_cons
def A0H:=@List.map_cons
def A0I:=@List.mem_map
def A0J:=@PySem.Heap.get?_push_size
def A0K:=@List.mem_singleton
def A0L:=@List.mem_append_left
def A0M:=@Bool.false_ne_true
def A0N:=@List.mem_filter
def A0O:=@Nat.le_trans
def A0P:=@if_neg
def A0Q:=@List.size_toArray
def A0R:=@List.take_add_one
def A0S:=@decide_eq_false
def A0T:=@List.map_append
def A0U:=@List.length_filter_le
def A0V:=@PySem.PassesOwn.never
def A0W:=@List.take_length
def A0X:=@if_pos
def A0Y:=@List.nodup_cons
def A0Z:=@List.map_congr_left
def A10:=@List.length_take
def A11:=@Nat.ne_of_lt
def A12:=@List.mem_append_right
def A13:=@Option.some.inj
def A14:=@List.length_singleton
def A15:=@Bool.and_eq_true
def A16:=@decide_eq_true
def A17:=@PySem.F.plainAttrs_list
def A18:=@Nat.lt_of_lt_of_le
def A19:=@List.map_map
def A1A:=@List.filter_cons
def A1B:=@List.length_eq_zero_iff
def A1C:=@List.length_drop
def A1D:=@PySem.W.mg_none_of
def A1E:=@List.any_eq_true
def A1F:=@List.sum_cons
def A1G:=@List.nodup_append
def A1H:=@List.getElem_inj
def A1I:=@PySem.sizeLine_eq
def A1J:=@List.filter_congr
def A1K:=@List.mem_iff_getElem?
def A1L:=@PySem.W.kia_one
def A1M:=@List.getElem_of_mem
def A1N:=@List.lookup_cons
def A1O:=@Nat.lt_irrefl
def A1P:=@PyProof.Rows.slot_tuple_getitem
def A1Q:=@List.flatMap_cons
def A1R:=@List.getD_eq_getElem?_getD
def A1S:=@List.getElem?_append_left
def A1T:=@beq_eq_false_iff_ne
def A1U:=@List.filter_sublist
def A1V:=@List.length_range
def A1W:=@PyProof.Rows.callWith_type1
def A1X:=@List.filter_append
def A1Y:=@List.pairwise_iff_forall_sublist
def A1Z:=@Option.map_eq_some_iff
def A20:=@PySem.wpAny_newObj_type
def A21:=@List.append_assoc
def A22:=@PySem.Heap.size_push
def A23:=@List.mem_range
def A24:=@PySem.wpAny_Call_Name_kw
def A25:=@List.Nodup.sublist
def A26:=@PySem.F.slot_list_append
def A27:=@PySem.F.type_list_append
def A28:=@Nat.pow_le_pow_right
def A29:=@Nat.mul_le_mul
def A2A:=@PySem.wpAny_mono
def A2B:=@Bool.eq_iff_iff
def A2C:=@List.append_nil
def A2D:=@Nat.add_mul
def A2E:=@List.flatMap_append
def A2F:=@True.intro
def A2G:=@List.mem_flatMap
def A2H:=@Nat.le_of_lt
def A2I:=@List.length_replicate
def A2J:=@List.any_cons
def A2K:=@PySem.F.slot_dict_get
def A2L:=@List.pairwise_cons
def A2M:=@Nat.zero_le
def A2N:=@List.mem_of_mem_take
def A2O:=@Nat.lt_succ_of_lt
def A2P:=@PySem.F.slot_tuple_index
def A2Q:=@PySem.F.slot_list_extend
def A2R:=@PySem.F.type_list_extend
def A2S:=@PySem.wpAny_callSpecial?_slot
def A2T:=@List.replicate_succ
def A2U:=@PySem.F.plainAttrs_dict
def A2V:=@Nat.lt_succ_self
def A2W:=@PySem.Calls.callWith_builtin
def A2X:=@List.take_of_length_le
def A2Y:=@PySem.Calls.spliced_cons
def A2Z:=@PySem.tupleKind_room_in1
def A30:=@List.getElem?_take
def A31:=@PySem.wpAny_passesOwn
def A32:=@PySem.wpAny_field
def A33:=@List.getElem?_toArray
def A34:=@PySem.Paired.length
def A35:=@beq_iff_eq
def A36:=@of_decide_eq_true
def A37:=@List.cons.inj
def A38:=@PySem.Calls.Name_function_global
def A39:=@List.getElem?_append_right
def A3A:=@List.getElem?_set_ne
def A3B:=@List.mem_of_mem_drop
def A3C:=@PySem.wpAny_call_entry
def A3D:=@Sum.inl.inj
def A3E:=@PySem.mem_of_lookup
def A3F:=@Int.toNat_of_nonneg
def A3G:=@List.filter_eq_self
def A3H:=@PySem.wpAny_typeOf
def A3I:=@Or.inr
def A3J:=@PySem.F.type_tuple_index
def A3K:=@PySem.wpAny_holding
def A3L:=@PySem.wpAny_getItem_str_slice
def A3M:=@PySem.wpAny_pyIter_tuple
def A3N:=@decide_eq_true_iff
def A3O:=@Int.emod_lt_of_pos
def A3P:=@PySem.Heap.get?_update_other
def A3Q:=@PySem.F.entry_dict_get
def A3R:=@PySem.wpAny_truthy_bool
def A3S:=@PySem.Calls.spliced_nil
def A3T:=@PySem.wpAny_pyIter_list
def A3U:=@PyProof.Rows.callWith_builtin1
def A3V:=@Array.getElem?_toList
def A3W:=@PySem.call_meetsIn
def A3X:=@Nat.min_le_right
def A3Y:=@PySem.Calls.evalArgs_plain
def A3Z:=@List.map_drop
def A40:=@List.map_take
def A41:=@PySem.call_meets
def A42:=@Nat.le_succ
def A43:=@List.of_mem_zip
def A44:=@List.nil_append
def A45:=@Int.natCast_add
def A46:=@Nat.mul_le_mul_left
def A47:=@Nat.mul_add
def A48:=@Int.emod_nonneg
def A49:=@Nat.lt_trans
def A4A:=@List.lookup_append
def A4B:=@List.filter_filter
def A4C:=@Nat.add_sub_cancel
def A4D:=@List.drop_eq_getElem_cons
def A4E:=@PySem.Calls.loadGlobal_builtin
def A4F:=@List.take_sublist
def A4G:=@Int.toNat_natCast
def A4H:=@List.flatten_cons
def A4I:=@PySem.wpAny_pyIter_enum
def A4J:=@List.drop_sublist
def A4K:=@List.getElem?_replicate
def A4L:=@List.getElem_mem
def A4M:=@List.all_eq_true
def A4N:=@List.length_pos_of_mem
def A4O:=@List.filter_eq_nil_iff
def A4P:=@PySem.wpAny_execs_nil
def A4Q:=@Nat.ne_of_gt
def A4R:=@List.foldl_cons
def A4S:=@Nat.mul_comm
def A4T:=@Option.map_some
def A4U:=@PySem.post_val_or_str
def A4V:=@List.take_append_drop
def A4W:=@Nat.pow_succ
def A4X:=@PySem.Heap.get?_update_self
def A4Y:=@Nat.zero_mul
def A4Z:=@PySem.F.slot_list_pop
def A50:=@PySem.F.type_list_pop
def A51:=@PySem.wpAny_Name
def A52:=@PyProof.Rows.Subscript_
def A53:=@PySem.wpAny_loadName_local
def A54:=@Nat.mul_le_mul_right
def A55:=@PySem.wpAny_seqItems
def A56:=@PySem.W.plainGet_of
def A57:=@Array.length_toList
def A59:=@List.length_reverse
def A5A:=@List.length_flatMap
def A5B:=@List.length_pos_iff
def A5C:=@List.mem_filterMap
def A5D:=@PySem.W.callWith_K
def A5G:=@PySem.evalPart_none
def A5H:=@PySem.Heap.IsSliceOf.new
def A5I:=@PySem.plainId_quiet
def A5J:=@Bool.and_comm
def A5K:=@Nat.eq_zero_or_pos
def A5L:=@List.zip_cons_cons
set_option linter.all false
set_option maxRecDepth 100000
set_option maxHeartbeats 4000000
set_option Elab.async false
set_option compiler.extract_closed false
namespace L2
open PySem PySem.Spec PyProof.Rows
abbrev Key:=Sum Int Str
def Va:Key->Value->Bool
 |.inl k,v=>Value.isInt k v
 |.inr x,v=>Value.isStrOf x v
def keyH (w:World):Key->Int
 |.inl k=>hashInt k
 |.inr x=>hashStr w x
theorem Bo:∀ {k:Key} {v:Value},Va k v=true->(∃ i t,k=Sum.inl i/\v=Value.int i t)\/(∃ x t,k=Sum.inr x/\v=Value.str x t)
 |.inl i,v,h=>by obtain⟨t,e⟩:=Value.isInt_shape (k:=i) (v:=v) h;exact .inl ⟨i,t,rfl,e⟩
 |.inr x,v,h=>by obtain⟨t,e⟩:=Value.isStrOf_shape (x:=x) (v:=v) h;exact .inr ⟨x,t,rfl,e⟩
theorem a75 (i:Int)(t:Tok):Va (.inl i) (.int i t)=true:=by simp[Va,Value.isInt]
theorem ag7 (x:Str)(t:Tok):Va (.inr x) (.str x t)=true:=by simp[Va,Value.isStrOf]
theorem aH5 (a b:Int):decide ((Sum.inl a:Key)=Sum.inl b)=(a==b):=by
 by_cases e:a=b
 . subst e;simp
 have h:¬ (Sum.inl a:Key)=Sum.inl b:=λq=>e (A3D q);rw[A0S h];exact(A1T.mpr e).symm
theorem aL7 (a b:Str):decide ((Sum.inr a:Key)=Sum.inr b)=decide (a=b):=by
 by_cases e:a=b
 . subst e;simp
 have h:¬ (Sum.inr a:Key)=Sum.inr b:=λq=>e (Sum.inr.inj q);rw[A0S h,A0S e]
theorem aK6 (a:Int)(b:Str):decide ((Sum.inl a:Key)=Sum.inr b)=false:=A0S (λq=>nomatch q)
theorem aM3 (a:Str)(b:Int):decide ((Sum.inr a:Key)=Sum.inl b)=false:=A0S (λq=>nomatch q)
def Ax (prog:Program)(w:World):PySem.KeyKind prog w Key where
 is:=Va
 hash:=keyH w
 inj:=λv a b ha hb=>by
  rcases Bo ha with ⟨i,t,rfl,rfl⟩|⟨x,t,rfl,rfl⟩
  . rcases Bo hb with ⟨j,u,rfl,e⟩|⟨y,u,rfl,e⟩
    . injection e with e1 _;rw[e1]
    exact nomatch e
  rcases Bo hb with ⟨j,u,rfl,e⟩|⟨y,u,rfl,e⟩
  . exact nomatch e
  injection e with e1 _;rw[e1]
 byValue:=λk v h=>by rcases Bo h with ⟨i,t,rfl,rfl⟩|⟨x,t,rfl,rfl⟩<;>rfl
 pyHash:=λq h=>by
  rcases Bo q with ⟨i,t,rfl,rfl⟩|⟨x,t,rfl,rfl⟩
  . exact wpAny_pyHash_int h
  exact wpAny_pyHash_str h
 eqBool:=λhu q h=>by
  rcases Bo hu with ⟨i,t,rfl,rfl⟩|⟨x,t,rfl,rfl⟩
  . rcases Bo q with ⟨j,u,rfl,rfl⟩|⟨y,u,rfl,rfl⟩
    . rw[aH5] at h;exact wpAny_eqBool_int h
    rw[aK6] at h;exact SeqAt.EqAt.int_str i t y u _ _ _ _ h
  rcases Bo q with ⟨j,u,rfl,rfl⟩|⟨y,u,rfl,rfl⟩
  . rw[aM3] at h;exact SeqAt.EqAt.str_int x t j u _ _ _ _ h
  rw[aL7] at h;exact wpAny_eqBool_str h
 «strs»:=λk x t v h=>by
  rcases Bo h with ⟨i,u,rfl,e⟩|⟨y,u,rfl,e⟩
  . exact nomatch e
  injection e with e1 _;subst e1
  cases v<;>rfl
theorem X2 (prog:Program)(w:World)(i:Int)(t:Tok):(Ax prog w).is (.inl i) (.int i t)=true:=a75 i t
theorem Wv (prog:Program)(w:World)(x:Str)(t:Tok):(Ax prog w).is (.inr x) (.str x t)=true:=ag7 x t
inductive V where
 |non | bl (b:Bool) | int (i:Int) | str (x:Str) | byt (b:Array UInt8) | flt (b:UInt64) | ref (a:Addr) | ty (n:String)
 deriving DecidableEq
def RelV:V->Value->Prop
 |.non,u=>u=Value.none
 |.bl b,u=>u=Value.bool b
 |.int i,u=>∃ t,u=Value.int i t
 |.str x,u=>∃ t,u=Value.str x t
 |.byt b,u=>∃ t,u=Value.bytes b t
 |.flt b,u=>∃ t,u=Value.float b t
 |.ref a,u=>u=Value.ref a
 |.ty n,u=>u=Value.type n
abbrev Vals:List V->List Value->Prop:=Paired RelV
theorem Vals.length {xs:List V} {us:List Value} (r:Vals xs us):xs.length=us.length:=A34 r
theorem Vals.get:∀ {xs:List V} {us:List Value} {i:Nat} {x:V},Vals xs us->xs[i]? = some x->∃ u,us[i]? = some u/\RelV x u
 |_,_,_,_,.nil,e=>by simp at e
 |_,_,0,_,.cons r _,e=>by simp at e;subst e;exact⟨_,rfl,r⟩
 |_,_,i+1,x,.cons _ t,e=>by obtain⟨u,h1,h2⟩:=Vals.get (i:=i) (x:=x) t (by simpa using e);exact⟨u,by simpa using h1,h2⟩
theorem Vals.append:∀ {xs ys:List V} {us ws:List Value},Vals xs us->Vals ys ws->Vals (xs++ys) (us++ws)
 |_,_,_,_,.nil,s=>s
 |_,_,_,_,.cons r t,s=>.cons r (Vals.append t s)
theorem Vals.take:∀ {xs:List V} {us:List Value} (n:Nat),Vals xs us->Vals (xs.take n) (us.take n)
 |_,_,0,_=>.nil
 |_,_,_+1,.nil=>.nil
 |_,_,n+1,.cons r t=>.cons r (Vals.take n t)
theorem Vals.drop:∀ {xs:List V} {us:List Value} (n:Nat),Vals xs us->Vals (xs.drop n) (us.drop n)
 |_,_,0,r=>r
 |_,_,_+1,.nil=>.nil
 |_,_,n+1,.cons _ t=>Vals.drop n t
def RelO:Option V->Option Value->Prop
 |some v,some u=>RelV v u
 |none,none=>True
 |_,_=>False
def KV {κ:Type}:List (κ×V)->List (κ×Value)->Prop:=Paired λ(p:κ×V) (q:κ×Value)=>p.1=q.1/\RelV p.2 q.2
def kV:Key->V
 |.inl i=>.int i
 |.inr x=>.str x
def IsTupN (h:Heap)(a:Addr)(items:Array Value):Prop:=∃ o,h.get? a=some o/\o.cls = .type "tuple" /\ (∃ n,o.data = .seq items n)/\o.dict=none
theorem IsTupN.tup {h:Heap}{a:Addr}{items:Array Value}(x:IsTupN h a items):IsTup h a items:=let ⟨o,h1,h2,⟨n,h3⟩,_⟩:=x;⟨o,h1,h2,n,h3⟩
theorem IsTupN.new (h:Heap)(q:Array Value):IsTupN (h.push {cls:=.type "tuple",data:=.seq q}) h.objs.size q:=⟨_,A0J _ rfl,rfl,⟨_,rfl⟩,rfl⟩
inductive HO where
 |lst (xs:List V)
 |tup (xs:List V)
 |dK (kvs:List (Key×V)) | dT (kvs:List (List Key×V))
 |set (S:Int->Bool) (n:Nat)
 |ins (C dx:Addr) (fs:List (Str×V))
 |own (x:Addr)
 |xd (fs:List (Str×V))
 |met (f x:Addr)
 |rng (lo hi:Int)
 |frz (o:Obj) (u:HO)
 |tbl (ps:Array Value)
 |ext (φ:Heap->Prop)
abbrev Hp:=Addr->Option HO
def upd (H:Hp)(a:Addr)(o:HO):Hp:=λb=>if b=a then some o else H b
theorem Af {H:Hp}{a:Addr}{o:HO}:upd H a o a=some o:=by unfold upd;rw[if_pos rfl]
theorem Au {H:Hp}{a b:Addr}{o:HO}(h:b≠a):upd H a o b=H b:=by unfold upd;rw[if_neg h]
theorem ne_of {H:Hp}{a b:Addr}{o u:HO}(h:H a=some o)(h':H b=some u)(d:o≠u):a≠b:=by intro e;subst e;rw[h] at h';exact d (A13 h')
theorem ne_of_none {H:Hp}{a b:Addr}{o:HO}(h:H a=some o)(h':H b=none):a≠b:=by intro e;subst e;rw[h] at h';cases h'
section
variable (P:Program)(w:World)
def ObjOk (H:Hp)(h:Heap)(a:Addr):HO->Prop
 |.lst xs=>xs.length<=sizeLine/\∃(F:List Value) (n:Nat),Vals xs F/\h.get? a=some {cls:=.type "list",data:=.seq F.toArray n}
 |.tup xs=>xs.length<=sizeLine/\∃ F:List Value,Vals xs F/\IsTupN h a F.toArray
 |.dK kvs=>kvs.length<=sizeLine/\(a==sysModules)=false/\∃ vs,KV kvs vs/\h.DictOf (Ax P w) a vs
 |.dT kvs=>kvs.length<=sizeLine/\(a==sysModules)=false/\∃ xs:List (List Key×Addr×Value),
   Paired (λ(p:List Key×V) (q:List Key×Addr×Value)=>p.1=q.1/\H q.2.1=some (.tup (p.1.map kV))/\RelV p.2 q.2.2) kvs xs /\
   ∃ o es ep,h.get? a=some o/\o.ExactDict/\o.data = .dict es ep/\es.toList=xs.map (entryOfKey (tupleKind (Ax P w)))/\(xs.map (·.1)).Nodup
 |.set S n=>h.SetOf (intKind P w) a S n
 |.ins C dx fs=>H dx=some (.own a)/\fs.length<=1000/\dx≠a/\h.get? a=some (W.instObj C dx) /\
   ∃ mA,h.Ns1 dx mA/\(∀ f,RelO (fs.lookup f) (mA f))/\PySem.Within mA (fs.map (·.1))
 |.own _=>∃ o,h.get? a=some o
 |.xd fs=>∃ mA,h.Ns1 a mA/\∀ f,RelO (fs.lookup f) (mA f)
 |.rng lo hi=>∃ t u v,h.get? a=some {cls:=.type "range",data:=.fields #[.int lo t,.int hi u,.int 1 v]}
 |.frz o u=>h.get? a=some o/\ObjOk H h a u
 |.tbl ps=>h.get? a=some {cls:=.none,data:=.fields ps}
 |.met f x=>h.get? a=some (W.methodObj (.ref f) (.ref x))
 |.ext φ=>φ h/\(∃ o,h.get? a=some o)/\∀ h1 h2:Heap,φ h1->(∀ o,h1.get? a=some o->h2.get? a=some o)->φ h2
def HOk (H:Hp)(h:Heap):Prop:=∀ a o,H a=some o->ObjOk P w H h a o
end
section
variable {P:Program}{w:World}{H H':Hp}{h h':Heap}{a:Addr}{o:HO}
theorem ObjOk.lt (x:ObjOk P w H h a o):a<h.objs.size:=by
 cases o with
 |lst xs=>obtain⟨_,_,_,_,e⟩:=x;exact A0F e
 |tup xs=>obtain⟨_,_,_,p⟩:=x;exact p.tup.lt
 |dK kvs=>obtain⟨_,_,_,_,o,_,_,e,_⟩:=x;exact A0F e
 |dT kvs=>obtain⟨_,_,_,_,o,_,_,e,_⟩:=x;exact A0F e
 |set S n=>obtain⟨o,_,_,_,e,_⟩:=x;exact A0F e
 |ins C dx fs=>obtain⟨_,_,_,e,_⟩:=x;exact A0F e
 |own y=>obtain⟨_,e⟩:=x;exact A0F e
 |xd fs=>obtain⟨_,⟨_,_,_,e,_⟩,_⟩:=x;exact A0F e
 |rng lo hi=>obtain⟨_,_,_,e⟩:=x;exact A0F e
 |frz ob u=>obtain⟨e,_⟩:=x;exact A0F e
 |tbl ps=>exact A0F (show h.get? a=some _ from x)
 |met f y=>exact A0F (show h.get? a=some _ from x)
 |ext φ=>obtain⟨_,⟨_,e⟩,_⟩:=x;exact A0F e
theorem Paired.mapP {α β:Type}{F G:α->β->Prop}:∀ {q:List α} {J:List β},Paired F q J->(∀ a b,F a b->G a b)->Paired G q J
 |_,_,.nil,_=>.nil
 |_,_,.cons r t,f=>.cons (f _ _ r) (Paired.mapP t f)
theorem ObjOk.stay (x:ObjOk P w H h a o)(k:∀ b u,(b=a\/H b=some (.own a))->h.get? b=some u->h'.get? b=some u)
  (O:∀ b,H b=some (.own a)->H' b=some (.own a)) (U:∀ b xs,H b=some (.tup xs)->H' b=some (.tup xs)):ObjOk P w H' h' a o:=by
 induction o with
 |lst xs=>obtain⟨z,F,n,r,e⟩:=x;exact⟨z,F,n,r,k _ _ (.inl rfl) e⟩
 |tup xs=>obtain⟨z,F,r,ob,e,c⟩:=x;exact⟨z,F,r,ob,k _ _ (.inl rfl) e,c⟩
 |dK kvs=>obtain⟨z,y,vs,r,ob,es,ep,e,c⟩:=x;exact⟨z,y,vs,r,ob,es,ep,k _ _ (.inl rfl) e,c⟩
 |dT kvs=>obtain⟨z,y,xs,r,ob,es,ep,e,c⟩:=x;exact⟨z,y,xs,Paired.mapP r λp q z=>⟨z.1,U _ _ z.2.1,z.2.2⟩,ob,es,ep,k _ _ (.inl rfl) e,c⟩
 |set S n=>obtain⟨ob,es,ep,t,e,c⟩:=x;exact⟨ob,es,ep,t,k _ _ (.inl rfl) e,c⟩
 |ins C dx fs=>obtain⟨d,z,ne,e,mA,⟨od,es,ep,J,c⟩,r⟩:=x;exact⟨O _ d,z,ne,k _ _ (.inl rfl) e,mA,⟨od,es,ep,k _ _ (.inr d) J,c⟩,r⟩
 |own y=>obtain⟨ob,e⟩:=x;exact⟨ob,k _ _ (.inl rfl) e⟩
 |xd fs=>obtain⟨mA,⟨od,es,ep,e,c⟩,r⟩:=x;exact⟨mA,⟨od,es,ep,k _ _ (.inl rfl) e,c⟩,r⟩
 |rng lo hi=>obtain⟨t,u,v,e⟩:=x;exact⟨t,u,v,k _ _ (.inl rfl) e⟩
 |frz ob u ih=>obtain⟨e,q⟩:=x;exact⟨k _ _ (.inl rfl) e,ih q⟩
 |tbl ps=>have e:h.get? a=some {cls:=.none,data:=.fields ps}:=x;show h'.get? a=some {cls:=.none,data:=.fields ps};exact k a _ (.inl rfl) e
 |met f y=>have e:h.get? a=some (W.methodObj (.ref f) (.ref y)):=x;show h'.get? a=some (W.methodObj (.ref f) (.ref y));exact k a _ (.inl rfl) e
 |ext φ=>obtain⟨p,⟨o,e⟩,st⟩:=x;exact⟨st _ _ p λo q=>k _ _ (.inl rfl) q,⟨o,k _ _ (.inl rfl) e⟩,st⟩
theorem HOk.lt (x:HOk P w H h)(e:H a=some o):a<h.objs.size:=(x a o e).lt
theorem HOk.fresh (x:HOk P w H h)(e:h.objs.size<=a):H a=none:=by
 cases q:H a with
 |none=>rfl
 |some u=>exact absurd (A18 (x.lt q) e) (A1O _)
theorem HOk.kept (x:HOk P w H h)(k:∀ b u,h.get? b=some u->h'.get? b=some u):HOk P w H h':=λa o e=>
 (x a o e).stay (λb u _ q=>k b u q) (λ_ q=>q) λ_ _ q=>q
theorem HOk.laid (x:HOk P w H h)(k:∀ b u,h.get? b=some u->h'.get? b=some u)(hp:h.objs.size<=a)(new:ObjOk P w (upd H a o) h' a o):HOk P w (upd H a o) h':=λb u e=>by
 have hn:=x.fresh hp
 by_cases hb:b=a
 . subst hb;rw[Af] at e;cases e;exact new
 rw[Au hb] at e;exact(x b u e).stay (λc v _ q=>k c v q) (λc q=>by rw[Au (ne_of_none q hn)];exact q) λc xs q=>by rw[Au (ne_of_none q hn)];exact q
end
def Rd (H:Hp)(a:Addr)(u:HO):Prop:=H a=some u\/∃ o,H a=some (.frz o u)
theorem Rd.ok {P:Program}{w:World}{H:Hp}{h:Heap}{a:Addr}{u:HO}(r:Rd H a u)(x:HOk P w H h):ObjOk P w H h a u:=by
 rcases r with r|⟨o,r⟩
 . exact x a u r
 obtain⟨_,q⟩:=x a _ r;exact q
def Mut:Option HO->Prop
 |some (.lst _)=>True
 |some (.dK _)=>True
 |some (.dT _)=>True
 |some (.set _ _)=>True
 |some (.ins _ _ _)=>True
 |some (.ext _)=>True
 |_=>False
section
variable {P:Program}{w:World}{H:Hp}{h h':Heap}{x e:Addr}{o':HO}
theorem HOk.write (ok:HOk P w H h)(O:Mut (H x))(he:e=x\/H e=some (.own x))(k:∀ b u,b≠e->h.get? b=some u->h'.get? b=some u)(Z:∃ u,h'.get? e=some u)
  (new:ObjOk P w (upd H x o') h' x o'):HOk P w (upd H x o') h':=λb u q=>by
 have U:∀ c y,H c=some (.own y)->c≠x:=λc y r z=>by subst z;rw[r] at O;exact O
 have a0:∀ c xs,H c=some (.tup xs)->c≠x:=λc xs r z=>by subst z;rw[r] at O;exact O
 by_cases hb:b=x
 . subst hb;rw[Af] at q;cases q;exact new
 rw[Au hb] at q
 by_cases F:b=e
 . have Y:H b=some (.own x):=by
    rcases he with z|z
    . exact absurd (F.trans z) hb
    rw[F];exact z
   rw[q] at Y;cases Y;obtain⟨v,hv⟩:=Z;exact⟨v,by rw[F];exact hv⟩
 refine(ok b u q).stay (λc v J r=>k c v ?_ r) (λc r=>by rw[Au (U c b r)];exact r) λc xs r=>by rw[Au (a0 c xs r)];exact r
 rcases J with rfl|J
 . exact F
 rintro rfl;rcases he with z|z
 . exact U c b J z
 rw[J] at z;cases z;exact hb rfl
end
structure Un (fs ex:List Addr)(H H':Hp)(h h':Heap):Prop where
 keep:∀ b o,h.get? b=some o->H b=none->b∉fs->b∉ex->h'.get? b=some o
 slot:∀ b o,h.get? b=some o->H b=none->b∈fs->b∉ex->∃ sl,h'.get? b=some {o with slots:=sl}
 free:∀ b o,h.get? b=some o->H b=none->b∉ex->H' b=none
 there:∀ b o,h.get? b=some o->b∉ex->∃ o',h'.get? b=some o'
 tups:∀ b xs,H b=some (.tup xs)->H' b=some (.tup xs)
 frzs:∀ b o u,H b=some (.frz o u)->H' b=some (.frz o u)
 tbls:∀ b ps,H b=some (.tbl ps)->∃ more,H' b=some (.tbl (ps++more))
section
variable {fs fs' ex ex':List Addr}{H H1 H2:Hp}{h h1 h2 h':Heap}{a x e:Addr}{o:HO}
theorem Un.any (u:Un fs ex H H1 h h1){b:Addr}{ob:Obj}(q:h.get? b=some ob)(n:H b=none)(F:b∉ex):∃ J,h1.get? b=some {ob with slots:=J}:=by
 by_cases hb:b∈fs
 . exact u.slot b ob q n hb F
 exact⟨ob.slots,u.keep b ob q n hb F⟩
theorem Un.kept (k:∀ b u,h.get? b=some u->h'.get? b=some u):Un fs ex H H h h':=
 ⟨λb ob q _ _ _=>k b ob q,λb ob q _ _ _=>⟨ob.slots,k b ob q⟩,λ_ _ _ n _=>n,λb ob q _=>⟨ob,k b ob q⟩,λ_ _ q=>q,λ_ _ _ q=>q,λ_ ps q=>⟨#[],by rw[q];simp⟩⟩
theorem Un.refl:Un fs ex H H h h:=Un.kept λ_ _ q=>q
theorem Un.laid (k:∀ b u,h.get? b=some u->h'.get? b=some u)(hp:h.objs.size<=a)(hn:H a=none):Un fs ex H (upd H a o) h h' where
 keep:=λb u q _ _ _=>k b u q
 slot:=λb u q _ _ _=>⟨u.slots,k b u q⟩
 free:=λb u q n _=>by rw[Au (A11 (A18 (A0F q) hp))];exact n
 there:=λb u q _=>⟨u,k b u q⟩
 tups:=λb xs q=>by rw[Au (ne_of_none q hn)];exact q
 frzs:=λb u xs q=>by rw[Au (ne_of_none q hn)];exact q
 tbls:=λb ps q=>⟨#[],by rw[Au (ne_of_none q hn),q];simp⟩
theorem Un.write (F:Mut (H x))(he:e=x\/H e=some (.own x))(k:∀ b u,b≠e->h.get? b=some u->h'.get? b=some u)(U:∃ u,h'.get? e=some u):Un fs ex H (upd H x o) h h':=by
 have O:∀ b,H b=none->b≠x:=λb n z=>by subst z;rw[n] at F;exact F
 have hb:∀ b,H b=none->b≠e:=λb n z=>by
  subst z;rcases he with r|r
  . exact O b n r
  rw[n] at r;cases r
 have hm:∀ b u,H b=some u->¬ Mut (some u)->b≠x:=λb u q nm z=>by subst z;rw[q] at F;exact nm F
 refine⟨λb u q n _ _=>k b u (hb b n) q,λb u q n _ _=>⟨u.slots,k b u (hb b n) q⟩,λb u q n _=>by rw[Au (O b n)];exact n,λb u q _=>?_,
  λb xs q=>by rw[Au (hm b _ q λz=>z)];exact q,λb u xs q=>by rw[Au (hm b _ q λz=>z)];exact q,λb ps q=>⟨#[],by rw[Au (hm b _ q λz=>z),q];simp⟩⟩
 by_cases J:b=e
 . subst J;exact U
 exact⟨u,k b u J q⟩
end
def trk (h:Heap)(H:Hp):List Addr:=(List.range h.objs.size).filter λa=>(H a).isSome
def ak0 (h:Heap)(H:Hp):Heap:=W.hideAll h (trk h H)
theorem ab0 (h:Heap)(H:Hp):(ak0 h H).objs.size=h.objs.size:=W.hideAll_size _ _
theorem am0 {h:Heap}{H:Hp}{b:Addr}{o:Obj}(e:h.get? b=some o)(n:H b=none):(ak0 h H).get? b=some o:=
 W.hideAll_get _ e λhm=>by have q:(H b).isSome=true:=(A0N.mp hm).2;rw[n] at q;simp at q
theorem aA8 {h:Heap}{H:Hp}{b:Addr}{o:Obj}(e:(ak0 h H).get? b=some o):h.get? b=some o/\H b=none:=by
 have F:h.get? b=some o:=W.of_hideAll (trk h H) e;refine⟨F,?_⟩
 cases q:H b with
 |none=>rfl
 |some x=>have hm:b∈trk h H:=List.mem_filter.mpr ⟨List.mem_range.mpr (Heap.lt_size F),by simp[q]⟩;have z:(ak0 h H).get? b=none:=W.hideAll_none (trk h H) hm;rw[z] at e;cases e
def Hi (g h:Heap)(L:Addr):List (Addr×Obj):=(List.range h.objs.size).filterMap λa=>if a=L\/(g.get? a).isSome=true then none else(h.get? a).map λo=>(a,o)
theorem Wk {g h:Heap}{L a:Addr}{o:Obj}(h1:a≠L)(h2:g.get? a=none)(q:h.get? a=some o):(a,o)∈Hi g h L:=
 List.mem_filterMap.mpr ⟨a,List.mem_range.mpr (Heap.lt_size q),by simp[h1,h2,q]⟩
theorem Qc {g h:Heap}{L:Addr}{p:Addr×Obj}(hp:p∈Hi g h L):p.1≠L/\g.get? p.1=none/\h.get? p.1=some p.2:=by
 obtain⟨b,_,e⟩:=A5C.mp hp
 split at e
 . cases e
 rename_i hn
 cases q:h.get? b with
 |none=>rw[q] at e;simp at e
 |some u=>
   rw[q] at e;simp only[Option.map_some,Option.some.injEq] at e;subst e;refine⟨λz=>hn (.inl z),?_,q⟩;show g.get? b=none
   cases r:g.get? b with
   |none=>rfl
   |some v=>exact(hn (.inr (by simp[r]))).elim
def rest (g h:Heap)(L d:Addr):List (Addr×Obj):=(Hi g h L).filter λp=>decide (p.1≠d)
theorem T8 {g h:Heap}{L:Addr}:News g L h (Hi g h L):=λp hp=>let ⟨a,b,c⟩:=Qc hp;⟨c,a,b⟩
structure Mod (K:W.Frag)(mg:Str->Option Value)(base:Heap):Prop where
 kin:K.In base
 glob:base.Ns mainGlobals mg
 blt:∃ mb,base.Ns builtinsNs mb/\∀ x:Str,x ≠ "__name__" -> mb x=bootBuiltins x
 nolimit:base.NoLimit
/-- the context: a def's body (or a comprehension's block) running. base: fixed through the whole law;s₀,H₀: the entry;outer: the frames whose slots others may change (a def's callers);stack: all frames that run;
  ex: iterators that were made ahead of the entry and are walked here (a comprehension's);fn: the names whose cells were made at the entry (a def: all;a comprehension's block: its own);calm: not within an except suite;pn: pins that every state bears;xe: what is wanted of an exception that leaves the code -/
structure Cx where
 prog:Program
 w:World
 K:W.Frag
 mg:Str->Option Value
 base:Heap
 A:Around
 N:List Str
 s₀:Shared
 H₀:Hp
 env:Env
 outer:List Env
 stack:List Env
 ex:List Addr
 fn:Str->Bool
 calm:Bool
 pn:List (Addr×Obj)
 xe:Value->Shared->Prop
def frs (l:List Env):List Addr:=l.filterMap (·.frame)
abbrev Cx.fs (X:Cx):List Addr:=frs X.outer
def Vis (sc:Scope)(x:Str):Prop:=sc.names.lookup x=some .local\/sc.names.lookup x=some .cell\/sc.names.lookup x=some .free
def Loc (sc:Scope)(x:Str):Prop:=sc.names.lookup x=some .local\/sc.names.lookup x=some .cell
def aT7 (env:Env)(h:Heap)(m:Str->Option Value)(x:Str)(u:Value):Prop:=
 (env.kindOf x=some .local/\m x=some u)\/((env.kindOf x=some .cell\/env.kindOf x=some .free)/\∃ c,env.cells.lookup x=some c/\h.IsCell c (some u))
structure Cx.Ok (X:Cx):Prop where
 mod:Mod X.K X.mg X.base
 kind:X.env.scope.kind = .function
 glob:X.env.globals=mainGlobals
 blt:X.env.builtins=builtinsNs
 above:X.s₀.heap.objs.size<=X.env.locals
 inj:∀ x y c,X.env.cells.lookup x=some c->X.env.cells.lookup y=some c->x=y
 has:∀ x,(X.env.kindOf x=some .cell\/X.env.kindOf x=some .free)->∃ c,X.env.cells.lookup x=some c
 cab:∀ x c,X.fn x=true->X.env.cells.lookup x=some c->X.s₀.heap.objs.size<=c
 hd:X.calm=true->X.A.handled=none
 frames:X.A.frames=some X.stack
 stk:X.stack=X.outer\/(X.stack=X.env :: X.outer/\X.env.frame=some X.env.locals)
 exf:∀ b∈X.ex,b≠X.env.locals/\∀ x c,X.env.cells.lookup x=some c->c≠b
 bs:∀ b o,X.base.get? b=some o->X.s₀.heap.get? b=some o/\X.H₀ b=none
 bsz:X.base.objs.size<=X.s₀.heap.objs.size
 noex:∀ b o,X.base.get? b=some o->b∉X.ex
 exfs:∀ b∈X.ex,b∉X.fs
 funs:X.s₀.heap.FunFrames X.base X.outer
 frf:∀ b∈X.fs,X.H₀ b=none
structure Inv (X:Cx)(pins:List (Addr×Obj))(σ:List (Option V))(H:Hp)(s:Shared):Prop where
 ok:X.Ok
 os:s.os=X.s₀.os
 bare:AllBare s.gens
 base:Un X.fs X.ex X.H₀ H X.s₀.heap s.heap
 loc:∃ m,s.heap.Ns X.env.locals m/\∀(i:Nat) (x:Str) (v:V),X.N[i]? = some x->σ[i]? = some (some v)->Vis X.env.scope x->∃ u,RelV v u/\aT7 X.env s.heap m x u
 cell:∀ x c,X.env.cells.lookup x=some c->∃ v,s.heap.IsCell c v
 free:H X.env.locals=none
 freeC:∀ x c,X.env.cells.lookup x=some c->H c=none
 pin:∀ p∈X.pn++pins,s.heap.get? p.1=some p.2/\H p.1=none/\p.1≠X.env.locals/\p.1∉X.fs/\∀ v,p.2.data ≠ .cell v
 hok:HOk X.prog X.w H s.heap
 len:σ.length=X.N.length
section
variable {X:Cx}{pins:List (Addr×Obj)}{σ:List (Option V)}{H H':Hp}{s:Shared}{h':Heap}
theorem Cx.Ok.nofr (ok:X.Ok){b:Addr}{o:Obj}(e:X.base.get? b=some o):b∉X.fs:=λhb=>by have:=(ok.funs.mem hb).1;rw[e] at this;cases this
theorem Inv.bs (I:Inv X pins σ H s):∀ b o,X.base.get? b=some o->s.heap.get? b=some o/\H b=none:=λb o e=>
 ⟨I.base.keep b o (I.ok.bs b o e).1 (I.ok.bs b o e).2 (I.ok.nofr e) (I.ok.noex b o e),I.base.free b o (I.ok.bs b o e).1 (I.ok.bs b o e).2 (I.ok.noex b o e)⟩
theorem Inv.bk (I:Inv X pins σ H s):∀ b o,X.base.get? b=some o->s.heap.get? b=some o:=λb o e=>(I.bs b o e).1
theorem Inv.mod (I:Inv X pins σ H s):Mod X.K X.mg X.base:=I.ok.mod
theorem Inv.kIn (I:Inv X pins σ H s):X.K.In s.heap:=I.ok.mod.kin.keeps I.bk
theorem Inv.lt (I:Inv X pins σ H s):X.env.locals<s.heap.objs.size:=let ⟨_,hn,_⟩:=I.loc;hn.lt
theorem Inv.sz (I:Inv X pins σ H s):X.s₀.heap.objs.size<=s.heap.objs.size:=A0O I.ok.above (A2H I.lt)
theorem Inv.nofs (I:Inv X pins σ H s){a:Addr}(h:s.heap.objs.size<=a):a∉X.fs:=λhb=>by obtain⟨_,o,q,_⟩:=I.ok.funs.mem hb;exact absurd (A18 (A0F q) (A0O I.sz h)) (A1O _)
theorem Inv.cne (I:Inv X pins σ H s):∀ x c,X.env.cells.lookup x=some c->c≠X.env.locals:=λx c e z=>by obtain⟨v,o,q,hd⟩:=I.cell x c e;obtain⟨m,⟨o',es,ep,J,F,_⟩,_⟩:=I.loc;rw[z,J] at q;cases q;rw[F] at hd;cases hd
theorem Inv.funs (I:Inv X pins σ H s):s.heap.FunFrames X.base X.outer:=by
 have all:∀(l:List Env),(∀ b∈frs l,b∈X.fs)->X.s₀.heap.FunFrames X.base l->s.heap.FunFrames X.base l:=by
  intro l
  induction l with
  |nil=>intro _ _;trivial
  |cons env r ih=>intro F O;obtain⟨J,⟨L,o,hf,hn,U,hd⟩,Y⟩:=O;have q:L∈X.fs:=F L (by unfold frs;rw[List.filterMap_cons,hf];exact List.mem_cons_self);obtain⟨Z,e⟩:=I.base.slot L o U (I.ok.frf L q) q λz=>I.ok.exfs L z q;exact⟨J,⟨L,_,hf,hn,e,hd⟩,ih (λb hb=>F b (by unfold frs;rw[List.filterMap_cons,hf];exact List.mem_cons_of_mem _ hb)) Y⟩
 exact all X.outer (λ_ hb=>hb) I.ok.funs
theorem Inv.stack (I:Inv X pins σ H s):s.heap.FunFrames X.base X.stack:=by
 rcases I.ok.stk with e|⟨e,hf⟩
 . rw[e];exact I.funs
 rw[e];obtain⟨m,hn,_⟩:=I.loc;refine .cons (by rw[I.ok.kind];decide) hf hn ?_ I.funs;exact Heap.get?_none_of_le (A0O I.ok.bsz I.ok.above)
theorem Inv.stkSub (I:Inv X pins σ H s):∀ b∈frs X.stack,b∈X.env.locals :: X.fs:=λb hb=>by
 rcases I.ok.stk with e|⟨e,hf⟩
 . rw[e] at hb;exact A09 _ hb
 rw[e] at hb;unfold frs at hb;rw[List.filterMap_cons,hf] at hb;exact hb
theorem Inv.stkFree (I:Inv X pins σ H s):∀ b∈frs X.stack,H b=none:=λb hb=>by
 rcases A0B.mp (I.stkSub b hb) with e|hb
 . rw[e];exact I.free
 obtain⟨_,o,q,_⟩:=I.ok.funs.mem hb;exact I.base.free b o q (I.ok.frf b hb) λz=>I.ok.exfs b z hb
theorem Inv.step {g':Array GenState}{t':Nat}{d':Drawn}{ch:List Addr}(I:Inv X pins σ H s)
  (Y:∀ b∈ch,(b∈X.ex\/X.s₀.heap.objs.size<=b)/\b≠X.env.locals/\(∀ x c,X.env.cells.lookup x=some c->c≠b)/\∀ p∈X.pn++pins,p.1≠b)
  (keep:∀ b o,b≠X.env.locals->b∉X.fs->b∉ch->s.heap.get? b=some o->H b=none->h'.get? b=some o)
  (slot:∀ b o,b≠X.env.locals->b∈X.fs->b∉ch->s.heap.get? b=some o->H b=none->∃ sl,h'.get? b=some {o with slots:=sl}) (free:∀ b o,b∉ch->s.heap.get? b=some o->H b=none->H' b=none)
  (there:∀ b o,b∉ch->s.heap.get? b=some o->∃ o',h'.get? b=some o')
  (tups:∀ b xs,H b=some (.tup xs)->H' b=some (.tup xs)) (frzs:∀ b o u,H b=some (.frz o u)->H' b=some (.frz o u)) (tbls:∀ b ps,H b=some (.tbl ps)->∃ more,H' b=some (.tbl (ps++more)))
  (ns:∀ m,s.heap.Ns X.env.locals m->h'.Ns X.env.locals m) (hok:HOk X.prog X.w H' h') (hg:AllBare g') :
  Inv X pins σ H' {s with heap:=h',gens:=g',drawn:=d',toks:=t'}:=by
 have a2:∀ b o,X.s₀.heap.get? b=some o->b≠X.env.locals:=λb o e=>A11 (A18 (A0F e) I.ok.above)
 have a0:∀ b o,X.s₀.heap.get? b=some o->b∉X.ex->b∉ch:=λb o e F hb=>by
  rcases(Y b hb).1 with z|z
  . exact F z
  exact absurd (A18 (A0F e) z) (A1O _)
 have a1:∀ x c,X.env.cells.lookup x=some c->∀ v,s.heap.IsCell c v->h'.IsCell c v:=λx c e v ⟨o,O,hd⟩=>by
  have Z:c∉ch:=λz=>(Y c z).2.2.1 x c e rfl
  by_cases hc:c∈X.fs
  . obtain⟨sl,q⟩:=slot c o (I.cne x c e) hc Z O (I.freeC x c e);exact⟨_,q,hd⟩
  exact⟨o,keep c o (I.cne x c e) hc Z O (I.freeC x c e),hd⟩
 refine⟨I.ok,I.os,hg,⟨λb o e n hb F=>?_,λb o e n hb F=>?_,λb o e n F=>?_,λb o e F=>?_,λb xs e=>tups b xs (I.base.tups b xs e),λb o xs e=>frzs b o xs (I.base.frzs b o xs e),λb ps e=>?_⟩,?_,λx c e=>?_,?_,λx c e=>?_,λp hp=>?_,hok,I.len⟩
 . exact keep b o (a2 b o e) hb (a0 b o e F) (I.base.keep b o e n hb F) (I.base.free b o e n F)
 . obtain⟨sl,J⟩:=I.base.slot b o e n hb F;obtain⟨a3,U⟩:=slot b _ (a2 b o e) hb (a0 b o e F) J (I.base.free b o e n F);exact⟨a3,U⟩
 . obtain⟨o',J⟩:=I.base.there b o e F;exact free b o' (a0 b o e F) J (I.base.free b o e n F)
 . obtain⟨o',J⟩:=I.base.there b o e F;exact there b o' (a0 b o e F) J
 . obtain⟨m1,J⟩:=I.base.tbls b ps e;obtain⟨m2,U⟩:=tbls b _ J;exact⟨m1++m2,by rw[U,Array.append_assoc]⟩
 . obtain⟨m,hn,hl⟩:=I.loc;refine⟨m,ns m hn,λi x v J U e3=>?_⟩;obtain⟨u,r,l⟩:=hl i x v J U e3;refine⟨u,r,?_⟩;rcases l with l|⟨k,c,e,z⟩
   . exact .inl l
   exact .inr ⟨k,c,e,a1 x c e _ z⟩
 . obtain⟨v,z⟩:=I.cell x c e;exact⟨v,a1 x c e v z⟩
 . obtain⟨m,⟨o,_,_,O,_⟩,_⟩:=I.loc;exact free _ o (λz=>(Y _ z).2.1 rfl) O I.free
 . obtain⟨v,o,O,hd⟩:=I.cell x c e;exact free c o (λz=>(Y c z).2.2.1 x c e rfl) O (I.freeC x c e)
 obtain⟨e,n,ne,nf,d⟩:=I.pin p hp;have Z:p.1∉ch:=λz=>(Y p.1 z).2.2.2 p hp rfl;exact⟨keep p.1 p.2 ne nf Z e n,free p.1 p.2 Z e n,ne,nf,d⟩
theorem Inv.un {t':Nat}(I:Inv X pins σ H s)(u:Un X.fs [] H H' s.heap h')(hok:HOk X.prog X.w H' h'):Inv X pins σ H' {s with heap:=h',toks:=t'}:=by
 obtain⟨m,⟨o,es,ep,q,r⟩,_⟩:=id I.loc;obtain⟨Z,U⟩:=u.any q I.free (by simp)
 exact I.step (g':=s.gens) (d':=s.drawn) (ch:=[]) (λ_ z=>nomatch z) (λb o _ hb _ e n=>u.keep b o e n hb (by simp)) (λb o _ hb _ e n=>u.slot b o e n hb (by simp)) (λb o _ e n=>u.free b o e n (by simp)) (λb o _ e=>u.there b o e (by simp)) u.tups u.frzs u.tbls (λY hm=>by obtain⟨o',O,J,F,r'⟩:=hm;rw[q] at F;cases F;exact⟨_,O,J,U,r'⟩) hok I.bare
theorem Inv.call {g':Array GenState}{t':Nat}{d':Drawn}{ch:List Addr}(I:Inv X pins σ H s)(u:Un (frs X.stack) ch H H' s.heap h')(hok:HOk X.prog X.w H' h')(hg:AllBare g')
  (J:∀ b∈ch,(b∈X.ex\/X.s₀.heap.objs.size<=b)/\b≠X.env.locals/\(∀ x c,X.env.cells.lookup x=some c->c≠b)/\∀ p∈X.pn++pins,p.1≠b) :
  Inv X pins σ H' {s with heap:=h',gens:=g',drawn:=d',toks:=t'}:=by
 obtain⟨m,⟨o,es,ep,O,r⟩,_⟩:=id I.loc;obtain⟨sl,F⟩:=u.any O I.free λz=>(J _ z).2.1 rfl
 exact I.step (ch:=ch) J (λb o F hb q e n=>u.keep b o e n (λz=>(A0B.mp (I.stkSub b z)).elim F hb) q) (λb o _ _ q e n=>u.any e n q) (λb o q e n=>u.free b o e n q) (λb o q e=>u.there b o e q) u.tups u.frzs u.tbls (λm' hm=>by obtain⟨o',Z,Y,U,r'⟩:=hm;rw[O] at U;cases U;exact⟨_,Z,Y,F,r'⟩) hok hg
theorem Inv.turned {t':Nat}{it:Addr}(I:Inv X pins σ H s)(k:∀ b o,b≠it->s.heap.get? b=some o->h'.get? b=some o)(hn:H it=none)(J:it≠X.env.locals)
  (h1:it∈X.ex\/X.s₀.heap.objs.size<=it) (h2:∀ x c,X.env.cells.lookup x=some c->c≠it) (U:∀ p∈X.pn++pins,p.1≠it):Inv X pins σ H {s with heap:=h',toks:=t'}:=by
 have O:∀ b u,H b=some u->b≠it:=λb u e z=>by rw[z,hn] at e;cases e
 refine I.step (g':=s.gens) (d':=s.drawn) (ch:=[it]) (λb hb=>?_) (λb o _ _ F e _=>k b o (λz=>F (by simp[z])) e) (λb o _ _ F e _=>⟨o.slots,k b o (λz=>F (by simp[z])) e⟩) (λ_ _ _ _ n=>n)
  (λb o F e=>⟨o,k b o (λz=>F (by simp[z])) e⟩) (λ_ _ e=>e) (λ_ _ _ e=>e) (λb ps e=>⟨#[],by rw[e];simp⟩) (λm hm=>?_) (λb u e=>?_) I.bare
 . have e:b=it:=by simpa using hb
   subst e;exact⟨h1,J,h2,U⟩
 . obtain⟨o,es,ep,Y,r⟩:=hm;exact⟨o,es,ep,k _ o (Ne.symm J) Y,r⟩
 refine(I.hok b u e).stay (λc v F q=>k c v ?_ q) (λ_ q=>q) λ_ _ q=>q;rcases F with z|z
 . rw[z];exact O b u e
 exact O c _ z
theorem Inv.tok (I:Inv X pins σ H s)(t:Nat):Inv X pins σ H {s with toks:=t}:=I.un (h':=s.heap) (t':=t) Un.refl I.hok
theorem Inv.kept {t':Nat}(I:Inv X pins σ H s)(k:∀ b u,s.heap.get? b=some u->h'.get? b=some u):Inv X pins σ H {s with heap:=h',toks:=t'}:=I.un (Un.kept k) (I.hok.kept k)
theorem Inv.laid {a:Addr}{o:HO}{t':Nat}(I:Inv X pins σ H s)(k:∀ b u,s.heap.get? b=some u->h'.get? b=some u)(hp:s.heap.objs.size<=a)(new:ObjOk X.prog X.w (upd H a o) h' a o) :
  Inv X pins σ (upd H a o) {s with heap:=h',toks:=t'}:=I.un (Un.laid k hp (I.hok.fresh hp)) (I.hok.laid k hp new)
theorem Inv.write {x e:Addr}{o:HO}{t':Nat}(I:Inv X pins σ H s)(F:Mut (H x))(he:e=x\/H e=some (.own x))(k:∀ b u,b≠e->s.heap.get? b=some u->h'.get? b=some u)(q:∃ u,h'.get? e=some u)
  (new:ObjOk X.prog X.w (upd H x o) h' x o):Inv X pins σ (upd H x o) {s with heap:=h',toks:=t'}:=I.un (Un.write F he k q) (I.hok.write F he k q new)
theorem Inv.weak {σ':List (Option V)}(I:Inv X pins σ H s)(O:σ'.length=σ.length)(w:∀(i:Nat) v,σ'[i]? = some (some v)->σ[i]? = some (some v)):Inv X pins σ' H s:=
 ⟨I.ok,I.os,I.bare,I.base,let ⟨m,hn,hl'⟩:=I.loc;⟨m,hn,λi x v q F J=>hl' i x v q (w i v F) J⟩,I.cell,I.free,I.freeC,I.pin,I.hok,O.trans I.len⟩
theorem Inv.pins_of {q:List (Addr×Obj)}(I:Inv X pins σ H s)(h:∀ p∈q,s.heap.get? p.1=some p.2/\H p.1=none/\p.1≠X.env.locals/\p.1∉X.fs/\∀ v,p.2.data ≠ .cell v):Inv X q σ H s:=
 ⟨I.ok,I.os,I.bare,I.base,I.loc,I.cell,I.free,I.freeC,λp hp=>(A0A.mp hp).elim (λz=>I.pin p (A0L _ z)) (h p),I.hok,I.len⟩
theorem Yn {N:List Str}(J:N.Nodup){i j:Nat}{x:Str}(a:N[i]? = some x)(b:N[j]? = some x):i=j:=by obtain⟨h1,q⟩:=A00.mp a;obtain⟨h2,F⟩:=A00.mp b;exact(A1H J).mp (q.trans F.symm)
theorem Vz {M:Model}{A:Around}{E:Value->Shared->Prop}{i:Nat}{x:Str}{v:V}{u:Value}{Q:Unit->Shared->Prop}(I:Inv X pins σ H s)(hN:X.N.Nodup)(hi:X.N[i]? = some x)(U:Loc X.env.scope x)(r:RelV v u)
  (h:∀ s',Inv X pins (σ.set i (some v)) H s'->(∃ a,Heap.SameBut a s.heap s'.heap/\(a=X.env.locals\/X.env.cells.lookup x=some a))->Q () s') (hf:X.fn x=true\/X.env.scope.names.lookup x=some .local:=by with_unfolding_all (first | exact .inl rfl | exact .inr rfl | assumption)):wpAny M A (storeName X.env x u) Q E s:=by
 obtain⟨m,hn,hl⟩:=id I.loc;have a7:(X.env.scope.kind == .class||(X.env.scope.kind == .module&&X.env.locals != X.env.globals))=false:=by rw[I.ok.kind];rfl
 have a4:i<σ.length:=by rw[I.len];exact(A00.mp hi).1
 have cne:=I.cne
 have a6:∀ {a:Addr} {h':Heap},(∃ o,s.heap.get? a=some o/\H a=none)->Heap.SameBut a s.heap h'->HOk X.prog X.w H h':=fun {a h'} ha F b ob e=>by
  obtain⟨_,_,a3⟩:=ha;refine(I.hok b ob e).stay (λc w' O q=>(F.2 c ?_).trans q) (λ_ q=>q) λ_ _ q=>q;rintro rfl;rcases O with rfl|O
  . rw[a3] at e;cases e
  rw[a3] at O;cases O
 rcases U with hk|hk
 . refine wpAny_storeName_local hk hn (λh' a8 F=>?_) a7;obtain⟨oL,_,_,a9,_⟩:=id hn;refine h _ ⟨I.ok,I.os,I.bare,⟨λb o e n hb U=>?_,λb o e n hb U=>?_,I.base.free,λb o e U=>?_,I.base.tups,I.base.frzs,I.base.tbls⟩,⟨_,a8,λj y v' J Y e3=>?_⟩,λy c e=>?_,I.free,I.freeC,λp hp=>?_,a6 ⟨oL,a9,I.free⟩ F,by simpa using I.len⟩ ⟨_,F,.inl rfl⟩
   . exact(F.2 b (A11 (A18 (A0F e) I.ok.above))).trans (I.base.keep b o e n hb U)
   . obtain⟨sl,J⟩:=I.base.slot b o e n hb U;exact⟨sl,(F.2 b (A11 (A18 (A0F e) I.ok.above))).trans J⟩
   . obtain⟨o',J⟩:=I.base.there b o e U;exact⟨o',(F.2 b (A11 (A18 (A0F e) I.ok.above))).trans J⟩
   . by_cases Z:j=i
     . subst Z;rw[hi] at J;cases J;rw[List.getElem?_set_self a4] at Y
       cases Y;exact⟨u,r,.inl ⟨hk,by simp⟩⟩
     rw[A3A (Ne.symm Z)] at Y;obtain⟨u',r',q⟩:=hl j y v' J Y e3;refine⟨u',r',?_⟩;rcases q with ⟨k,e⟩|⟨k,c,e,z⟩
     . refine .inl ⟨k,?_⟩;have:y≠x:=λe=>Z (Yn hN J (e ▸ hi));simp[this,e]
     exact .inr ⟨k,c,e,z.sameBut F (cne y c e)⟩
   . obtain⟨w',z⟩:=I.cell y c e;exact⟨w',z.sameBut F (cne y c e)⟩
   obtain⟨e,n,ne,nf,d⟩:=I.pin p hp;exact⟨(F.2 p.1 ne).trans e,n,ne,nf,d⟩
 have a0:X.fn x=true:=by
  rcases hf with z|z
  . exact z
  rw[z] at hk;cases hk
 obtain⟨c,O⟩:=I.ok.has x (.inl hk);obtain⟨w',z⟩:=I.cell x c O;refine wpAny_storeName_cell I.ok.kind hk O z (λh' a1 F=>?_);obtain⟨oc,a5,aA⟩:=id z;refine h {s with heap:=h'} ⟨I.ok,I.os,I.bare,⟨λb o e n hb U=>?_,λb o e n hb U=>?_,I.base.free,λb o e U=>?_,I.base.tups,I.base.frzs,I.base.tbls⟩,⟨m,hn.sameBut F (Ne.symm (cne x c O)),λj y v' J Y e3=>?_⟩,λy c' e=>?_,I.free,I.freeC,λp hp=>?_,a6 ⟨oc,a5,I.freeC x c O⟩ F,by simpa using I.len⟩ ⟨c,F,.inr O⟩
 . exact(F.2 b (A11 (A18 (A0F e) (I.ok.cab x c a0 O)))).trans (I.base.keep b o e n hb U)
 . obtain⟨sl,J⟩:=I.base.slot b o e n hb U;exact⟨sl,(F.2 b (A11 (A18 (A0F e) (I.ok.cab x c a0 O)))).trans J⟩
 . obtain⟨o',J⟩:=I.base.there b o e U;exact⟨o',(F.2 b (A11 (A18 (A0F e) (I.ok.cab x c a0 O)))).trans J⟩
 . by_cases Z:j=i
   . subst Z;rw[hi] at J;cases J;rw[List.getElem?_set_self a4] at Y
     cases Y;exact⟨u,r,.inr ⟨.inl hk,c,O,a1⟩⟩
   rw[A3A (Ne.symm Z)] at Y;obtain⟨u',r',q⟩:=hl j y v' J Y e3;refine⟨u',r',?_⟩;rcases q with q|⟨k,c',e,z'⟩
   . exact .inl q
   refine .inr ⟨k,c',e,z'.sameBut F ?_⟩;rintro rfl;exact Z (Yn hN J (I.ok.inj _ _ _ e O ▸ hi))
 . by_cases a2:c'=c
   . subst a2;exact⟨_,a1⟩
   obtain⟨w2,z2⟩:=I.cell y c' e;exact⟨w2,z2.sameBut F a2⟩
 obtain⟨e,n,ne,nf,d⟩:=I.pin p hp;refine⟨(F.2 p.1 ?_).trans e,n,ne,nf,d⟩;intro q;rw[q,a5] at e;have q':oc=p.2:=A13 e;exact d w' (by rw[<- q'];exact aA)
theorem Xv {M:Model}{A:Around}{E:Value->Shared->Prop}{i:Nat}{x:Str}{v:V}{u:Value}{Q:Unit->Shared->Prop}(I:Inv X pins σ H s)(F:X.N.Nodup)(hi:X.N[i]? = some x)(J:Loc X.env.scope x)(r:RelV v u)
  (h:∀ s',Inv X pins (σ.set i (some v)) H s'->Q () s') (hf:X.fn x=true\/X.env.scope.names.lookup x=some .local:=by with_unfolding_all (first | exact .inl rfl | exact .inr rfl | assumption)):wpAny M A (storeName X.env x u) Q E s:=
 Vz I F hi J r (λs' q _=>h s' q) hf
theorem Inv.call' {s':Shared}{ch:List Addr}(I:Inv X pins σ H s)(J:s'.os=s.os)(u:Un (frs X.stack) ch H H' s.heap s'.heap)(hok:HOk X.prog X.w H' s'.heap)(F:AllBare s'.gens)
  (q:∀ b∈ch,(b∈X.ex\/X.s₀.heap.objs.size<=b)/\b≠X.env.locals/\(∀ x c,X.env.cells.lookup x=some c->c≠b)/\∀ p∈X.pn++pins,p.1≠b):Inv X pins σ H' s':=by
 obtain⟨h',g',d',t',o'⟩:=s';have e:o'=s.os:=J;subst e;exact I.call (g':=g') (t':=t') (d':=d') u hok F q
end
abbrev XK:=Value->Option Addr->Hp->Prop
abbrev St:=List (Option V)
abbrev VK:=V->Hp->Prop
abbrev TE:=St->Hp->VK->Prop
abbrev TT:=St->Hp->(Bool->Hp->Prop)->Prop
abbrev TA:=St->Hp->(List V->Hp->Prop)->Prop
structure Po where
 nx:St->Hp->Prop
 rt:VK
 bk:St->Hp->Prop:=λ_ _=>False
 ct:St->Hp->Prop:=λ_ _=>False
abbrev TS:=Po->St->Hp->Prop
def EP (X:Cx)(pins:List (Addr×Obj))(σ:St)(Q:VK)(u:Value)(s':Shared):Prop:=∃ v H',Inv X pins σ H' s'/\RelV v u/\Q v H'
def TP (X:Cx)(pins:List (Addr×Obj))(σ:St)(Q:Bool->Hp->Prop)(b:Bool)(s':Shared):Prop:=∃ H',Inv X pins σ H' s'/\Q b H'
def AP (X:Cx)(pins:List (Addr×Obj))(σ:St)(Q:List V->Hp->Prop)(us:List Value)(s':Shared):Prop:=∃ vs H',Inv X pins σ H' s'/\Vals vs us/\Q vs H'
def SP (X:Cx)(pins:List (Addr×Obj))(D:Po)(f:Flow)(s':Shared):Prop:=
 match f with
 |.next=>∃ σ' H',Inv X pins σ' H' s'/\D.nx σ' H'
 |.brk=>∃ σ' H',Inv X pins σ' H' s'/\D.bk σ' H'
 |.cont=>∃ σ' H',Inv X pins σ' H' s'/\D.ct σ' H'
 |.ret u=>∃ v σ' H',Inv X pins σ' H' s'/\RelV v u/\D.rt v H'
def PE (X:Cx)(e:Expr)(t:TE):Prop:=
 ∀(pins:List (Addr×Obj)) (s:Shared) (σ:St) (H:Hp) (Q:VK),Inv X pins σ H s->t σ H Q->wpAny (model X.prog X.w) X.A (eval e X.env) (EP X pins σ Q) X.xe s
def PT (X:Cx)(e:Expr)(t:TT):Prop:=
 ∀(pins:List (Addr×Obj)) (s:Shared) (σ:St) (H:Hp) (Q:Bool->Hp->Prop),Inv X pins σ H s->t σ H Q->wpAny (model X.prog X.w) X.A (isTrue e X.env (eval e X.env)) (TP X pins σ Q) X.xe s
def PW (X:Cx)(e:Expr)(t:TT):Prop:=
 ∀(q:Sem Value) (pins:List (Addr×Obj)) (s:Shared) (σ:St) (H:Hp) (Q:Bool->Hp->Prop),Inv X pins σ H s->t σ H Q->wpAny (model X.prog X.w) X.A (isTrue e X.env q) (TP X pins σ Q) X.xe s
theorem PW.pt {X:Cx}{e:Expr}{t:TT}(h:PW X e t):PT X e t:=h _
def PA (X:Cx)(es:List Expr)(t:TA):Prop:=
 ∀(pos:Pos) (pins:List (Addr×Obj)) (s:Shared) (σ:St) (H:Hp) (Q:List V->Hp->Prop),Inv X pins σ H s->t σ H Q->wpAny (model X.prog X.w) X.A (spliced (backTo pos (starEach es X.env))) (AP X pins σ Q) X.xe s
def PS (X:Cx)(st:Stmt)(t:TS):Prop:=
 ∀(pins:List (Addr×Obj)) (s:Shared) (σ:St) (H:Hp) (D:Po),Inv X pins σ H s->t D σ H->wpAny (model X.prog X.w) X.A (exec st X.env) (SP X pins D) X.xe s
def PSs (X:Cx)(st:List Stmt)(t:TS):Prop:=
 ∀(pins:List (Addr×Obj)) (s:Shared) (σ:St) (H:Hp) (D:Po),Inv X pins σ H s->t D σ H->wpAny (model X.prog X.w) X.A (execs st X.env) (SP X pins D) X.xe s
theorem thn {α:Type}{t:Sem α}{Q q:α->Shared->Prop}{M:Model}{A:Around}{E:Value->Shared->Prop}{s:Shared}(h:wpAny M A t Q E s)(F:∀ a s,Q a s->q a s):wpAny M A t q E s:=A2A h F λ_ _ x=>x
section
variable {X:Cx}
def aR5 (i:Nat):TE:=fun σ H Q=>∃ v,σ[i]? = some (some v)/\Q v H
def tC (v:V):TE:=λ_ H Q=>Q v H
theorem aF3 {i:Nat}{x:Str}{pos:Pos}(O:X.N[i]? = some x)(Z:Vis X.env.scope x)(hd:(x==("__debug__":Str))=false:=by decide)(U:(x==("__classdict__":Str))=false:=by decide):PE X (.Name x pos) (aR5 i):=by
 intro pins s σ H Q I h;obtain⟨v,e,h⟩:=h;obtain⟨m,hn,Y⟩:=I.loc;obtain⟨u,r,l⟩:=Y i x v O e Z;have fin:EP X pins σ Q u s:=⟨v,H,I,r,h⟩;rcases l with ⟨q,hm⟩|⟨q,c,F,J⟩
 . exact A51 (A53 I.ok.kind q hn hm fin) hd
 rcases q with q|q
 . exact A51 (wpAny_loadName_cell I.ok.kind q F J fin) hd
 exact A51 (wpAny_loadName_free I.ok.kind q F J fin U) hd
theorem A5 {i j pos}:PE X (.Constant (.int i) j pos) (tC (.int i)):=λ_ _ _ H _ I h=>wpAny_Constant_int ⟨.int i,H,I.tok _,⟨_,rfl⟩,h⟩
theorem Z0 {b j pos}:PE X (.Constant (.bool b) j pos) (tC (.bl b)):=λ_ _ _ H _ I h=>Constant_bool ⟨.bl b,H,I,rfl,h⟩
theorem Qj {j pos}:PE X (.Constant .none j pos) (tC .non):=λ_ _ _ H _ I h=>Constant_none ⟨.non,H,I,rfl,h⟩
theorem B0 {x j pos}:PE X (.Constant (.str x) j pos) (tC (.str x)):=λ_ _ _ H _ I h=>Calls.Constant_str ⟨.str x,H,I.tok _,⟨_,rfl⟩,h⟩
def Gl (X:Cx)(x:Str):Prop:=X.env.kindOf x=some .globalImplicit
theorem Wy {E:Value->Shared->Prop}{pins:List (Addr×Obj)}{s:Shared}{σ:St}{H:Hp}{x:Str}{u:Value}{pos:Pos}{Q:Value->Shared->Prop}(I:Inv X pins σ H s)(q:Gl X x)(hm:X.mg x=some u)(h:Q u s)
  (hd:(x==("__debug__":Str))=false:=by decide):wpAny (model X.prog X.w) X.A (eval (.Name x pos) X.env) Q E s:=
 A38 I.ok.kind q (Calls.loadGlobal_global (by rw[I.ok.glob];exact I.mod.glob.keeps I.bk) hm h) hd
theorem K3 {E:Value->Shared->Prop}{pins:List (Addr×Obj)}{s:Shared}{σ:St}{H:Hp}{x:Str}{u:Value}{pos:Pos}{Q:Value->Shared->Prop}(I:Inv X pins σ H s)(q:Gl X x)(hm:X.mg x=none)(F:bootBuiltins x=some u)(h:Q u s)
  (hn:x ≠ "__name__":=by decide) (hd:(x==("__debug__":Str))=false:=by decide):wpAny (model X.prog X.w) X.A (eval (.Name x pos) X.env) Q E s:=by
 obtain⟨mb,h1,h2⟩:=I.mod.blt;exact A38 I.ok.kind q (A4E (by rw[I.ok.glob];exact I.mod.glob.keeps I.bk) hm (by rw[I.ok.blt];exact h1.keeps I.bk) ((h2 x hn).trans F) h) hd
theorem aB6 {x:Str}{v:V}{u:Value}{pos:Pos}(q:Gl X x)(hm:X.mg x=some u)(r:RelV v u)(hd:(x==("__debug__":Str))=false:=by decide):PE X (.Name x pos) (tC v):=
 λ_ _ _ H _ I h=>Wy I q hm ⟨v,H,I,r,h⟩ hd
theorem Sf {x:Str}{v:V}{u:Value}{pos:Pos}(q:Gl X x)(hm:X.mg x=none)(F:bootBuiltins x=some u)(r:RelV v u)(hn:x ≠ "__name__":=by decide)(hd:(x==("__debug__":Str))=false:=by decide):PE X (.Name x pos) (tC v):=
 λ_ _ _ H _ I h=>K3 I q hm F ⟨v,H,I,r,h⟩ hn hd
variable {a b:Expr}{ta tb:TE}{pos:Pos}
def tB (t:TE):TT:=fun σ H Q=>t σ H λx H1=>∃ c,x = .bl c/\Q c H1
theorem Mm {e:Expr}{t:TE}(h:PE X e t)(he:∀ F,isTrue e X.env F=(do let v <- F;standAt e.pos;holding [v] (truthy v)):=by intro _;ac_nf):PT X e (tB t):=by
 intro pins s σ H Q I O;refine isTrue_plain (thn (h pins s σ H _ I O) λv Z ⟨x,H1,J,Y,U⟩=>?_) (he _);obtain⟨d,rfl,q⟩:=U
 cases Y;exact A3R ⟨H1,J,q⟩
variable {tA tB':TT}{rest:List Expr}
def aW4 (t u:TT):TT:=fun σ H Q=>t σ H λc H1=>if c=true then u σ H1 Q else Q false H1
def tOr (t u:TT):TT:=fun σ H Q=>t σ H λc H1=>if c=true then Q true H1 else u σ H1 Q
def aW3 (t:TT):TT:=fun σ H Q=>t σ H λc H1=>Q (!c) H1
theorem Pg (ha:PT X a tA):PW X (.BoolOp .And [a] pos) tA:=by
 intro F pins s σ H Q I h;refine isTrue_and (thn (ha pins s σ H Q I h) λc q e=>?_)
 cases c with
 |true=>exact isTrue_and_nil e
 |false=>exact e
theorem Yk (ha:PT X a tA):PW X (.BoolOp .Or [a] pos) tA:=by
 intro F pins s σ H Q I h;refine isTrue_or (thn (ha pins s σ H Q I h) λc q e=>?_)
 cases c with
 |false=>exact isTrue_or_nil e
 |true=>exact e
theorem Tk (ha:PT X a tA)(hb:PW X (.BoolOp .And (b :: rest) pos) tB'):PW X (.BoolOp .And (a :: b :: rest) pos) (aW4 tA tB'):=by
 intro O pins s σ H Q I h;refine isTrue_and (thn (ha pins s σ H _ I h) λc J ⟨H1,q,F⟩=>?_)
 cases c with
 |true=>exact hb O pins J σ H1 Q q F
 |false=>exact⟨H1,q,F⟩
theorem an4 (ha:PT X a tA)(hb:PW X (.BoolOp .Or (b :: rest) pos) tB'):PW X (.BoolOp .Or (a :: b :: rest) pos) (tOr tA tB'):=by
 intro O pins s σ H Q I h;refine isTrue_or (thn (ha pins s σ H _ I h) λc J ⟨H1,q,F⟩=>?_)
 cases c with
 |true=>exact⟨H1,q,F⟩
 |false=>exact hb O pins J σ H1 Q q F
theorem W4 (ha:PT X a tA):PT X (.UnaryOp .Not a pos) (aW3 tA):=by intro pins s σ H Q I h;exact isTrue_not (ha pins s σ H (λc H1=>Q (!c) H1) I h)
def aG9 (ta tb:TE):TE:=fun σ H Q=>ta σ H λx H1=>∃ c,x = .bl c/\if c=true then tb σ H1 Q else Q (.bl false) H1
theorem R5 {op}{t:TE}(h:PE X a t):PE X (.BoolOp op [a] pos) t:=λpins s σ H Q I q=>BoolOp_one (h pins s σ H Q I q)
theorem Ku (ha:PE X a ta)(hb:PE X (.BoolOp .And (b :: rest) pos) tb):PE X (.BoolOp .And (a :: b :: rest) pos) (aG9 ta tb):=by
 intro pins s σ H Q I h;refine BoolOp_and (thn (ha pins s σ H _ I h) λv O ⟨x,H1,F,J,q⟩=>?_);obtain⟨c,rfl,q⟩:=q
 cases J;refine A3R ?_
 cases c with
 |true=>exact hb pins O σ H1 Q F q
 |false=>exact⟨.bl false,H1,F,rfl,q⟩
def tIf (t:TT)(ta tb:TE):TE:=fun σ H Q=>t σ H λc H1=>if c=true then ta σ H1 Q else tb σ H1 Q
theorem Xt {c:Expr}(O:PT X c tA)(ha:PE X a ta)(hb:PE X b tb):PE X (.IfExp c a b pos) (tIf tA ta tb):=by
 intro pins s σ H Q I h;refine wpAny_IfExp (thn (O pins s σ H _ I h) λd J ⟨H1,q,F⟩=>?_)
 cases d with
 |true=>exact ha pins J σ H1 Q q F
 |false=>exact hb pins J σ H1 Q q F
end
def SqL (K:W.Frag)(H:Hp)(a:Addr)(xs:List V):Prop:=
 Rd H a (.lst xs) \/
  ∃(o:Obj) (q:Array Value) (n:Nat),K.lookup a=some o/\o.cls = .type "list" /\ o.dict=none/\o.data = .seq q n/\q.size<=sizeLine/\Vals xs q.toList
def SqT (K:W.Frag)(H:Hp)(a:Addr)(xs:List V):Prop:=
 Rd H a (.tup xs) \/
  ∃(o:Obj) (q:Array Value) (n:Nat),K.lookup a=some o/\o.cls = .type "tuple" /\ o.data = .seq q n/\q.size<=sizeLine/\Vals xs q.toList/\o.dict=none
def absV:Value->Option V
 |.none=>some .non
 |.bool b=>some (.bl b)
 |.int i _=>some (.int i)
 |.str x _=>some (.str x)
 |.bytes b _=>some (.byt b)
 |.float b _=>some (.flt b)
 |.ref a=>some (.ref a)
 |.type n=>some (.ty n)
 |_=>none
theorem RelV.abs {x:V}{u:Value}(r:RelV x u):absV u=some x:=by
 cases x with
 |non=>cases r;rfl
 |bl _=>cases r;rfl
 |int _=>obtain⟨t,rfl⟩:=r;rfl
 |str _=>obtain⟨t,rfl⟩:=r;rfl
 |byt _=>obtain⟨t,rfl⟩:=r;rfl
 |flt _=>obtain⟨t,rfl⟩:=r;rfl
 |ref _=>cases r;rfl
 |ty _=>cases r;rfl
theorem RelV.inj {x y:V}{u:Value}(r:RelV x u)(q:RelV y u):x=y:=A13 (r.abs.symm.trans q.abs)
theorem Vals.inj:∀ {xs ys:List V} {us:List Value},Vals xs us->Vals ys us->xs=ys
 |_,_,_,.nil,.nil=>rfl
 |_,_,_,.cons r t,.cons r' t'=>by rw[r.inj r',Vals.inj t t']
section
variable {X:Cx}{pins:List (Addr×Obj)}{σ:St}{H:Hp}{s:Shared}{a:Addr}{xs ys:List V}
theorem SqL.of {K:W.Frag}(h:H a=some (.lst xs)):SqL K H a xs:=.inl (.inl h)
theorem SqT.of {K:W.Frag}(h:H a=some (.tup xs)):SqT K H a xs:=.inl (.inl h)
theorem Inv.list (I:Inv X pins σ H s)(h:SqL X.K H a xs):∃ q:List Value,Vals xs q/\PlainL s.heap a q.toArray/\xs.length<=sizeLine:=by
 rcases h with h|⟨o,q,n,J,F,hd,O,hz,r⟩
 . obtain⟨z,q,n,r,e⟩:=h.ok I.hok;exact⟨q,r,⟨_,n,e,rfl,rfl,rfl⟩,z⟩
 refine⟨q.toList,r,⟨o,n,I.kIn a o J,F,hd,by simpa using O⟩,?_⟩;have e:=r.length;simp only[Array.length_toList] at e;omega
theorem Inv.tuple (I:Inv X pins σ H s)(h:SqT X.K H a xs):∃ q:List Value,Vals xs q/\IsTup s.heap a q.toArray/\xs.length<=sizeLine:=by
 rcases h with h|⟨o,q,n,J,F,O,hz,r,hn⟩
 . obtain⟨z,q,r,p⟩:=h.ok I.hok;exact⟨q,r,p.tup,z⟩
 refine⟨q.toList,r,⟨o,I.kIn a o J,F,n,by simpa using O⟩,?_⟩;have e:=r.length;simp only[Array.length_toList] at e;omega
theorem Inv.tupleN (I:Inv X pins σ H s)(h:SqT X.K H a xs):∃ ob,s.heap.get? a=some ob/\ob.dict=none:=by
 rcases h with h|⟨o,F,n,q,J,O,hz,r,hn⟩
 . obtain⟨z,F,r,o,h1,_,_,h2⟩:=h.ok I.hok;exact⟨o,h1,h2⟩
 exact⟨o,I.kIn a o q,hn⟩
theorem Inv.list_inj (I:Inv X pins σ H s)(h:SqL X.K H a xs)(h':SqL X.K H a ys):xs=ys:=by
 obtain⟨F,r,⟨o,n,e,_,_,d⟩,_⟩:=I.list h;obtain⟨its',r',⟨o',J,q,_,_,d'⟩,_⟩:=I.list h';rw[e] at q;cases q;rw[d] at d';injection d' with d1 _;have:F=its':=by simpa using congrArg Array.toList d1
 subst this;exact r.inj r'
theorem Inv.tuple_inj (I:Inv X pins σ H s)(h:SqT X.K H a xs)(h':SqT X.K H a ys):xs=ys:=by
 obtain⟨F,r,⟨o,e,_,n,d⟩,_⟩:=I.tuple h;obtain⟨its',r',⟨o',q,_,J,d'⟩,_⟩:=I.tuple h';rw[e] at q;cases q;rw[d] at d';injection d' with d1 _;have:F=its':=by simpa using congrArg Array.toList d1
 subst this;exact r.inj r'
end
abbrev Cx.wish (X:Cx)(E:Value->Shared->Prop):Cx:={X with xe:=E}
abbrev Cx.nox (X:Cx):Cx:=X.wish λ_ _=>False
theorem Cx.Ok.wish {X:Cx}(ok:X.Ok)(E:Value->Shared->Prop):(X.wish E).Ok:=
 ⟨ok.mod,ok.kind,ok.glob,ok.blt,ok.above,ok.inj,ok.has,ok.cab,ok.hd,ok.frames,ok.stk,ok.exf,ok.bs,ok.bsz,ok.noex,ok.exfs,ok.funs,ok.frf⟩
theorem Cx.Ok.unwish {X:Cx}{E:Value->Shared->Prop}(ok:(X.wish E).Ok):X.Ok:=
 ⟨ok.mod,ok.kind,ok.glob,ok.blt,ok.above,ok.inj,ok.has,ok.cab,ok.hd,ok.frames,ok.stk,ok.exf,ok.bs,ok.bsz,ok.noex,ok.exfs,ok.funs,ok.frf⟩
section
variable {X:Cx}{pins:List (Addr×Obj)}{σ:St}{H:Hp}{s:Shared}{E:Value->Shared->Prop}
theorem Inv.wish (I:Inv X pins σ H s)(E:Value->Shared->Prop):Inv (X.wish E) pins σ H s:=⟨I.ok.wish E,I.os,I.bare,I.base,I.loc,I.cell,I.free,I.freeC,I.pin,I.hok,I.len⟩
theorem Inv.unwish (I:Inv (X.wish E) pins σ H s):Inv X pins σ H s:=⟨I.ok.unwish,I.os,I.bare,I.base,I.loc,I.cell,I.free,I.freeC,I.pin,I.hok,I.len⟩
theorem SP.unwish {D:Po}{f:Flow}{s':Shared}(h:SP (X.wish E) pins D f s'):SP X pins D f s':=by
 cases f with
 |next=>obtain⟨σ',H',I,q⟩:=h;exact⟨σ',H',I.unwish,q⟩
 |brk=>obtain⟨σ',H',I,q⟩:=h;exact⟨σ',H',I.unwish,q⟩
 |cont=>obtain⟨σ',H',I,q⟩:=h;exact⟨σ',H',I.unwish,q⟩
 |ret u=>obtain⟨v,σ',H',I,r,q⟩:=h;exact⟨v,σ',H',I.unwish,r,q⟩
theorem PSs.nox {st:List Stmt}{t:TS}(h:PSs X.nox st t):PSs X st t:=λpins s σ H D I F=>A2A (h pins s σ H D (I.wish _) F) (λ_ _ q=>q.unwish) λ_ _ z=>False.elim z
end
section
variable {X:Cx}{st:Stmt}{rest:List Stmt}{t u:TS}{e:Expr}{te:TE}{pos:Pos}
def aL6:TS:=λD σ H=>D.nx σ H
def aQ9 (t u:TS):TS:=λD σ H=>t {D with nx:=u D} σ H
theorem Ay:PSs X [] aL6:=λ_ _ σ H _ I h=>A4P ⟨σ,H,I,h⟩
theorem A3 (h1:PS X st t) (h2:PSs X rest u):PSs X (st :: rest) (aQ9 t u):=by
 intro pins s σ H D I h;refine wpAny_execs_cons (thn (h1 pins s σ H {D with nx:=u D} I h) λf J q=>?_)
 cases f with
 |next=>obtain⟨σ',H',F,q⟩:=q;exact h2 pins J σ' H' D F q
 |ret v=>exact q
 |brk=>exact q
 |cont=>exact q
theorem A7 (h1:PS X st t):PSs X [st] t:=by
 intro pins s σ H D I h;refine wpAny_execs_cons (thn (h1 pins s σ H D I h) λf F q=>?_)
 cases f with
 |next=>exact A4P q
 |ret v=>exact q
 |brk=>exact q
 |cont=>exact q
theorem Inv.quiet {pins:List (Addr×Obj)}{σ:St}{H:Hp}{s:Shared}(I:Inv X pins σ H s):interactive X.env=false:=by simp[interactive,I.ok.kind]
def aM5 (te:TE):TS:=λD σ H=>te σ H λ_ H1=>D.nx σ H1
theorem Dd (he:PE X e te)(F:swapsWith e none pos.line X.env=pure false:=by ac_nf):PS X (.Expr e pos) (aM5 te):=by intro pins s σ H D I h;exact wpAny_Expr_any (thn (he pins s σ H _ I h) λv U ⟨x,H1,q,O,J⟩=>⟨σ,H1,q,J⟩) I.quiet F
def aV6 (te:TE):TS:=λD σ H=>te σ H D.rt
theorem An (he:PE X e te):PS X (.Return (some e) pos) (aV6 te):=by intro pins s σ H D I h;exact wpAny_Return_some (thn (he pins s σ H _ I h) λv O ⟨x,H1,q,J,F⟩=>⟨x,σ,H1,q,J,F⟩)
def aW1 (c:TT)(t u:TS):TS:=λD σ H=>c σ H λb H1=>if b=true then t D σ H1 else u D σ H1
theorem Cj {c:Expr}{a b:List Stmt}{tc:TT}(O:PT X c tc)(ha:PSs X a t)(hb:PSs X b u):PS X (.If c a b pos) (aW1 tc t u):=by
 intro pins s σ H D I h;refine wpAny_If (thn (O pins s σ H _ I h) λd J ⟨H1,q,F⟩=>?_)
 cases d with
 |true=>exact ha pins J σ H1 D q F
 |false=>exact hb pins J σ H1 D q F
def aJ5:TS:=λ_ _ _=>False
theorem L4:PS X st aJ5:=λ_ _ _ _ _ _ h=>h.elim
end
abbrev TG:=V->St->Hp->(St->Hp->Prop)->Prop
abbrev TGs:=List V->St->Hp->(St->Hp->Prop)->Prop
def PG (X:Cx)(q:Expr)(t:TG):Prop:=
 ∀(pins:List (Addr×Obj)) (s:Shared) (σ:St) (H:Hp) (v:V) (u:Value) (Q:St->Hp->Prop),Inv X pins σ H s->RelV v u->t v σ H Q ->
  wpAny (model X.prog X.w) X.A (assign q X.env u) (λ_ s'=>∃ σ' H',Inv X pins σ' H' s'/\Q σ' H') X.xe s
def PGs (X:Cx)(q:List Expr)(t:TGs):Prop:=
 ∀(pins:List (Addr×Obj)) (s:Shared) (σ:St) (H:Hp) (vs:List V) (us:List Value) (Q:St->Hp->Prop),Inv X pins σ H s->Vals vs us->t vs σ H Q ->
  wpAny (model X.prog X.w) X.A (assignInOrder ((assignEach q X.env).map (·.2)) us) (λ_ s'=>∃ σ' H',Inv X pins σ' H' s'/\Q σ' H') X.xe s
section
variable {X:Cx}{pos:Pos}
def K8 (i:Nat):TG:=λv σ H Q=>Q (σ.set i (some v)) H
theorem Ag {i:Nat}{x:Str}(F:X.N.Nodup)(hi:X.N[i]? = some x)(J:Loc X.env.scope x)(hf:X.fn x=true\/X.env.scope.names.lookup x=some .local:=by with_unfolding_all (first | exact .inl rfl | exact .inr rfl | assumption)):PG X (.Name x pos) (K8 i):=by intro pins s σ H v u Q I r h;exact wpAny_assign_Name (Xv I F hi J r (λs' q=>⟨_,H,q,h⟩) hf)
def aE2:TGs:=λvs σ H Q=>vs=[]/\Q σ H
def Qd (t:TG)(u:TGs):TGs:=λvs σ H Q=>∃ v r,vs=v :: r/\t v σ H fun σ' H'=>u r σ' H' Q
theorem Lp:PGs X [] aE2:=by
 intro pins s σ H vs us Q I r h;obtain⟨e,h⟩:=h;subst e
 cases r;exact assignInOrder_nil ⟨σ,H,I,h⟩
theorem Dh {e:Expr}{es:List Expr}{t:TG}{u:TGs}(h1:PG X e t)(h2:PGs X es u)
  (J:(assignEach (e :: es) X.env).map (·.2)=assign e X.env :: (assignEach es X.env).map (·.2):=by ac_nf):PGs X (e :: es) (Qd t u):=by
 intro pins s σ H vs us Q I r h;obtain⟨v,Y,F,h⟩:=h;subst F
 cases r with
 |cons r rr=>rw[J];refine assignInOrder_cons (thn (h1 pins s σ H _ _ _ I r h) λ_ U ⟨σ1,H1,q,O⟩=>?_);exact h2 pins U σ1 H1 _ _ Q q rr O
def ax2 (K:W.Frag)(n:Nat)(t:TGs):TG:=λv σ H Q=>∃ a xs,v = .ref a/\SqT K H a xs/\xs.length=n/\t xs σ H Q
theorem aO5 {es:List Expr}{k:Nat}{t:TGs}{n:Nat}(U:X.calm=true)(h:PGs X es t)
  (hn:(assignEach es X.env).length=n:=by ac_nf) (a0:(assignEach es X.env).findIdx? (·.1)=none:=by ac_nf):PG X (.Tuple es k pos) (ax2 X.K n t):=by
 intro pins s σ H v u Q I r q;obtain⟨a,xs,O,Z,Y,q⟩:=q;subst O
 cases r;obtain⟨a1,F,ht,hz⟩:=I.tuple Z;refine assign_Tuple_tuple (I.ok.hd U) ht (by simp[hn,<- Y,F.length]) a0 λh' hx=>?_;have J:Inv X pins σ H {s with heap:=h'}:=I.kept (t':=s.toks) λb o e=>hx b o (A11 (A0F e)) e
 exact h pins _ σ H xs _ Q J (by simpa using F) q
def aD8 (te:TE)(g:TG):TS:=λD σ H=>te σ H λx H1=>g x σ H1 D.nx
theorem a81 {tg e:Expr}{te:TE}{g:TG}(he:PE X e te)(J:PG X tg g)(O:swapsWithSole [tg] e pos.line X.env=pure false:=by ac_nf)(U:swappedStores [tg] e X.env=pure none:=by ac_nf)
  (h1:(assignEach [tg] X.env).map (·.2)=[assign tg X.env]:=by ac_nf):PS X (.Assign [tg] e pos) (aD8 te g):=by
 intro pins s σ H D I h;refine wpAny_Assign_stores (thn (he pins s σ H _ I h) λv s1 ⟨x,H1,F,Z,Y⟩=>?_) O U;rw[h1];exact thn (J pins s1 σ H1 x v _ F Z Y) λ_ s2 q=>q
theorem Aa {i:Nat}{x:Str}{e:Expr}{te:TE}{pos':Pos}(J:X.N.Nodup)(hi:X.N[i]? = some x)(U:Loc X.env.scope x)(he:PE X e te)(O:swapsWith e (some (.Name x pos')) pos.line X.env=pure false:=by ac_nf)(hf:X.fn x=true\/X.env.scope.names.lookup x=some .local:=by with_unfolding_all (first | exact .inl rfl | exact .inr rfl | assumption)) :
  PS X (.Assign [.Name x pos'] e pos) (aD8 te (K8 i)):=by
 intro pins s σ H D I h;refine wpAny_Assign_Name (thn (he pins s σ H _ I h) λv s1 ⟨y,H1,q,Z,Y⟩=>?_) O;exact Xv q J hi U Z (λs2 F=>⟨_,H1,F,Y⟩) hf
def ar3 (c:TT)(tb:TS):TS:=λD σ H=>∃ W:Nat->St->Hp->Prop,(∃ m,W m σ H)/\∀ m σ H,W m σ H ->
 c σ H λb H1=>if b=true then ∃ N:St->Hp->Prop,(∀ σ' H',N σ' H'->∃ q,q<m/\W q σ' H')/\tb {D with nx:=N,ct:=N,bk:=D.nx} σ H1 else D.nx σ H1
theorem R9 {c:Expr}{a0:List Stmt}{tc:TT}{tb:TS}(hp:PassesOwn (model X.prog X.w) X.A X.env X.xe)(hc:PT X c tc)(hb:PSs X a0 tb):PS X (.While c a0 [] pos) (ar3 tc tb):=by
 intro pins s σ H D I h;obtain⟨W,⟨m0,w0⟩,turn⟩:=h;refine wpAny_While (codeAny_whileLoop (λn s'=>∃ σ' H',Inv X pins σ' H' s'/\W n σ' H') ?_ m0 ⟨σ,H,I,w0⟩);rintro n s1 ⟨σ1,H1,I1,w1⟩;refine A31 hp (thn (hc pins s1 σ1 H1 _ I1 (turn n σ1 H1 w1)) λb s2 ⟨H2,I2,F⟩=>?_)
 cases b with
 |true=>
   obtain ⟨N,hN,F⟩:=F;rw[A0X rfl];refine A31 hp (thn (hb pins s2 σ1 H2 _ I2 F) λf s3 J=>?_)
   cases f with
   |next=>obtain⟨σ3,q,O,Y⟩:=J;obtain⟨U,hm,Z⟩:=hN σ3 q Y;exact⟨U,hm,σ3,q,O,Z⟩
   |cont=>obtain⟨σ3,q,O,Y⟩:=J;obtain⟨U,hm,Z⟩:=hN σ3 q Y;exact⟨U,hm,σ3,q,O,Z⟩
   |brk=>exact J
   |ret v=>exact J
 |false=>rw[A0P A0M];exact A4P ⟨σ1,H2,I2,F⟩
end
structure It where
 go:Nat->Hp->Prop
 yld:Nat->Hp->V->Hp->Prop
 stop:Nat->Hp->Prop
def Xw (X:Cx)(pins:List (Addr×Obj))(H:Hp)(b:Addr):Prop:=
 H b=none/\b≠X.env.locals/\b∉X.fs/\(b∈X.ex\/X.s₀.heap.objs.size<=b)/\(∀ x c,X.env.cells.lookup x=some c->c≠b)/\∀ p∈X.pn++pins,p.1≠b
theorem Inv.fpOk {X:Cx}{pins:List (Addr×Obj)}{σ:St}{H H':Hp}{s:Shared}{b:Addr}(I:Inv X pins σ H s)(hb:s.heap.objs.size<=b)(hn:H' b=none):Xw X pins H' b:=by
 refine⟨hn,A4Q (A18 I.lt hb),I.nofs hb,.inr (A0O I.sz hb),λx c e z=>?_,λp hp z=>?_⟩
 . obtain⟨v,q⟩:=I.cell x c e;exact absurd (A18 q.lt (by rw[z];exact hb)) (A1O _)
 exact absurd (A18 (A0F (I.pin p hp).1) (by rw[z];exact hb)) (A1O _)
structure aa3 (P:Program)(w:World)(K:W.Frag)(tg:Expr)(J:It)(fp:List Addr)(it:Addr)(tn:Nat->Heap->Prop):Prop where
 mem:it∈fp
 obj:∀ i h,tn i h->∀ b∈fp,∃ o,h.get? b=some o/\∀ v,o.data ≠ .cell v
 keep:∀ i h h',tn i h->(∀ b∈fp,∀ o,h.get? b=some o->h'.get? b=some o)->tn i h'
 item:∀(X:Cx),X.prog=P->X.w=w->X.K=K->X.calm=true->∀(i:Nat) (pins:List (Addr×Obj)) (s:Shared) (σ:St) (H:Hp) (E:Value->Shared->Prop),Inv X pins σ H s->(∀ b∈fp,Xw X pins H b)->tn i s.heap->J.go i H ->
  wpAny (model P w) X.A (pyNext (.ref it)) (λr s1=>∃ u,r=some u /\
   wpAny (model P w) X.A (letOwnedTupleGo tg (.ref it) u) (λ_ s2=>∃ x H',Inv X pins σ H' s2/\RelV x u/\J.yld i H x H'/\tn (i+1) s2.heap/\∀ b∈fp,H' b=none) E s1) E s
 done:∀(X:Cx),X.prog=P->X.w=w->X.K=K->X.calm=true->∀(i:Nat) (pins:List (Addr×Obj)) (s:Shared) (σ:St) (H:Hp) (E:Value->Shared->Prop),Inv X pins σ H s->(∀ b∈fp,Xw X pins H b)->tn i s.heap->J.stop i H ->
  wpAny (model P w) X.A (pyNext (.ref it)) (λr s1=>r=none/\Inv X pins σ H s1) E s
 self:∀(A:Around) (i:Nat) (s:Shared) (Q:Value->Shared->Prop) (E:Value->Shared->Prop),tn i s.heap->Q (.ref it) s->wpAny (model P w) A (pyIter (.ref it)) Q E s
abbrev TI:=St->Hp->(It->Hp->Prop)->Prop
def PIE (X:Cx)(pins:List (Addr×Obj))(σ:St)(tg:Expr)(R:It->Hp->Prop)(q:Value)(s2:Shared):Prop:=
 ∃(it:Addr) (fp:List Addr) (tn:Nat->Heap->Prop) (J:It) (H':Hp),q = .ref it/\Inv X pins σ H' s2/\aa3 X.prog X.w X.K tg J fp it tn/\tn 0 s2.heap/\(∀ b∈fp,Xw X pins H' b)/\R J H'
def PI (X:Cx)(tg q:Expr)(J:TI):Prop:=
 ∀(pins:List (Addr×Obj)) (s:Shared) (σ:St) (H:Hp) (R:It->Hp->Prop),Inv X pins σ H s->J σ H R ->
  wpAny (model X.prog X.w) X.A (eval q X.env) (λv F=>wpAny (model X.prog X.w) X.A (pyIter v) (PIE X pins σ tg R) X.xe F) X.xe s
theorem Zx {M:Model}{A:Around}{E:Value->Shared->Prop}{s:Shared}{tg:Expr}{it:Addr}{u:Value}{o:Obj}{n:String}{vs:Array Value}{Q:Unit->Shared->Prop}(J:s.heap.get? it=some o)(F:o.cls = .type n)(hd:o.data = .fields vs)
  (hn:["enumerate","zip","dict_itemiterator","dict_reverseitemiterator","odict_iterator","itertools.zip_longest","itertools.pairwise"].contains n=false) (q:Q () s):wpAny M A (letOwnedTupleGo tg (.ref it) u) Q E s:=by
 unfold letOwnedTupleGo
 cases tg<;>first
  |exact A0C q
  | (cases u<;>first
    |exact A0C q
    | (refine A05 (wpAny_load J ?_)
       rw[F,hd];show wpAny M A (if(["enumerate","zip","dict_itemiterator","dict_reverseitemiterator","odict_iterator","itertools.zip_longest","itertools.pairwise"].contains n&&vs[0]? == some (rawInt _))=true then _ else _) Q E s
       rw[A0P (by intro h;rw[hn,Bool.false_and] at h;cases h)];exact A0C q))
def Itl (K:W.Frag)(a:Addr):It:=
 ⟨λi H=>∃ xs x,SqL K H a xs/\xs[i]? = some x,λi H x H'=>H'=H/\∀ xs,SqL K H a xs->xs[i]? = some x,λi H=>∃ xs,SqL K H a xs/\xs.length<=i⟩
def Itt (K:W.Frag)(a:Addr):It:=
 ⟨λi H=>∃ xs x,SqT K H a xs/\xs[i]? = some x,λi H x H'=>H'=H/\∀ xs,SqT K H a xs->xs[i]? = some x,λi H=>∃ xs,SqT K H a xs/\xs.length<=i⟩
def Itr (lo:Int)(n:Nat):It:=⟨λi _=>i<n,λi H x H'=>H'=H/\x = .int (lo+i),λi _=>n<=i⟩
theorem ae0 {P:Program}{w:World}{K:W.Frag}{tg:Expr}(a it:Addr):aa3 P w K tg (Itl K a) [it] it (λi h=>h.IsListIter it a i) where
 mem:=by simp
 obj:=λi h st b hb=>by
  have e:b=it:=by simpa using hb
  subst e;obtain⟨o,e,c,d⟩:=st;exact⟨o,e,λv z=>by rw[d] at z;cases z⟩
 keep:=λi h h' st k=>st.at λo e=>k it (by simp) o e
 item:=by
  intro X hP hw Z hc i pins s σ H E I hf st hg;subst hP hw Z;obtain⟨xs,x,q,hx⟩:=hg;obtain⟨a1,rv,p,hz⟩:=I.list q;obtain⟨u,hu,ru⟩:=rv.get hx;obtain⟨F,J,f2,O,U,Y⟩:=hf it (by simp);refine wpAny_pyNext_list_item st p.isList (x:=u) (by simpa using hu) λh' a0 sb=>?_;have I1:Inv X pins σ H {s with heap:=h'}:=I.turned (t':=s.toks) (λb o hb e=>(sb.2 b hb).trans e) F J O U Y
  obtain⟨o,e,c,d⟩:=id a0;exact⟨u,rfl,Zx (s:={s with heap:=h'}) e c d nofun ⟨x,H,I1,ru,⟨rfl,λys hy=>by rw[I.list_inj hy q];exact hx⟩,a0,λb hb=>(hf b hb).1⟩⟩
 done:=by intro X hP hw Z hc i pins s σ H E I hf st hg;subst hP hw Z;obtain⟨xs,q,hx⟩:=hg;obtain⟨a1,rv,p,hz⟩:=I.list q;obtain⟨F,J,f2,O,U,Y⟩:=hf it (by simp);have hl:=rv.length;exact wpAny_pyNext_list_end (I.ok.hd hc) st p.isList (by simp;omega) λh' eb=>⟨rfl,I.turned (t':=s.toks) (λb o hb e=>eb b o hb e) F J O U Y⟩
 self:=λ_ _ _ _ _ st h=>wpAny_pyIter_listiter st h
theorem Yx {P:Program}{w:World}{K:W.Frag}{tg:Expr}(a it:Addr):aa3 P w K tg (Itt K a) [it] it (λi h=>h.IsTupleIter it a i) where
 mem:=by simp
 obj:=λi h st b hb=>by
  have e:b=it:=by simpa using hb
  subst e;obtain⟨o,e,c,d⟩:=st;exact⟨o,e,λv z=>by rw[d] at z;cases z⟩
 keep:=λi h h' st k=>st.at λo e=>k it (by simp) o e
 item:=by
  intro X hP hw Z hc i pins s σ H E I hf st hg;subst hP hw Z;obtain⟨xs,x,q,hx⟩:=hg;obtain⟨a0,rv,p,hz⟩:=I.tuple q;obtain⟨u,hu,ru⟩:=rv.get hx;obtain⟨F,J,f2,O,U,Y⟩:=hf it (by simp);refine wpAny_pyNext_tuple_item st (show s.heap.IsTuple a a0.toArray from p) (x:=u) (by simpa using hu) λh' a1 sb=>?_;have I1:Inv X pins σ H {s with heap:=h'}:=I.turned (t':=s.toks) (λb o hb e=>(sb.2 b hb).trans e) F J O U Y
  obtain⟨o,e,c,d⟩:=id a1;exact⟨u,rfl,Zx (s:={s with heap:=h'}) e c d nofun ⟨x,H,I1,ru,⟨rfl,λys hy=>by rw[I.tuple_inj hy q];exact hx⟩,a1,λb hb=>(hf b hb).1⟩⟩
 done:=by intro X hP hw Z hc i pins s σ H E I hf st hg;subst hP hw Z;obtain⟨xs,q,hx⟩:=hg;obtain⟨a0,rv,p,hz⟩:=I.tuple q;obtain⟨F,J,f2,O,U,Y⟩:=hf it (by simp);have hl:=rv.length;exact wpAny_pyNext_tuple_end (I.ok.hd hc) st (show s.heap.IsTuple a a0.toArray from p) (by simp;omega) λh' eb=>⟨rfl,I.turned (t':=s.toks) (λb o hb e=>eb b o hb e) F J O U Y⟩
 self:=λ_ _ _ _ _ st h=>wpAny_pyIter_tupleiter st h
theorem a00 {P:Program}{w:World}{K:PySem.W.Frag}{tg:Expr}(it:Addr)(lo:Int)(n:Nat):aa3 P w K tg (Itr lo n) [it] it (λi h=>IsRangeIter h it (lo+(i:Nat)*1) ((n:Int)-(i:Nat)) 1) where
 mem:=by simp
 obj:=λi h st b hb=>by
  have e:b=it:=by simpa using hb
  subst e
  exact⟨_,st,λv z=>by
   have z':Data.fields _=Data.cell v:=z
   cases z'⟩
 keep:=λi h h' st k=>k it (by simp) _ st
 item:=by
  intro X Z hw Y hc i pins s σ H E I hf st hg;subst Z hw Y;obtain⟨q,F,f2,J,O,U⟩:=hf it (by simp);have W:=Walks.range (prog:=X.prog) (w:=X.w) (I.ok.hd hc) it lo 1 n;refine W.item i s _ _ hg st λv h' tk hv a0 kk=>?_;obtain⟨t,rfl⟩:=hv;have I1:Inv X pins σ H {s with heap:=h',toks:=tk}:=I.turned (λb o hb e=>kk b o (by simpa using hb) e) q F J O U
  refine⟨_,rfl,Zx (s:={s with heap:=h',toks:=tk}) (n:="range_iterator") a0 rfl rfl nofun ⟨.int (lo+i),H,I1,⟨t,?_⟩,⟨rfl,rfl⟩,a0,λb hb=>(hf b hb).1⟩⟩
  rw[Int.mul_one]
 done:=by intro X Z hw Y hc i pins s σ H E I hf st hg;subst Z hw Y;obtain⟨q,F,f2,J,O,U⟩:=hf it (by simp);exact wpAny_pyNext_range_end (I.ok.hd hc) st (by have:n<=i:=hg;omega) λh' eb=>⟨rfl,I.turned (t':=s.toks) (λb o hb e=>eb b o hb e) q F J O U⟩
 self:=λ_ _ _ _ _ st h=>wpAny_pyIter_rangeiter st h
section
variable {X:Cx}{tg:Expr}
theorem Y8 {pins:List (Addr×Obj)}{σ:St}{H:Hp}{s:Shared}{R:It->Hp->Prop}{E:Value->Shared->Prop}{lo hi:Int}{t u v:Tok}{tk:Nat}(I:Inv X pins σ H s)(h1:-(2 ^ 62)<=lo)(h2:lo<2 ^ 62)(U:-(2 ^ 62)<=hi)(Y:hi<2 ^ 62)
  (q:R (Itr lo (hi-lo).toNat) H):wpAny (model X.prog X.w) X.A (pyIter (.ref s.heap.objs.size)) (PIE X pins σ tg R) E {s with heap:=s.heap.push {cls:=.type "range",data:=.fields #[.int lo t,.int hi u,.int 1 v]},toks:=tk}:=by
 refine wpAny_pyIter_range (IsRange.new ..) (small_one h1 h2 U Y) ?_;have F:Inv X pins σ H {s with heap:=s.heap.push {cls:=.type "range",data:=.fields #[.int lo t,.int hi u,.int 1 v]},toks:=tk}:=I.kept λb o e=>A02 _ e
 refine⟨(s.heap.push {cls:=.type "range",data:=.fields #[.int lo t,.int hi u,.int 1 v]}).objs.size,[(s.heap.push {cls:=.type "range",data:=.fields #[.int lo t,.int hi u,.int 1 v]}).objs.size],_,_,H,rfl,
  F.kept (t':=tk) λb o e=>A02 _ e,a00 _ lo (hi-lo).toNat,?_,λb hb=>?_,q⟩
 . have J:lo+((0:Nat):Int)*1=lo:=by simp
   have O:(((hi-lo).toNat:Nat):Int)-((0:Nat):Int)=Builtin.Range.rangeSize lo hi 1:=by rw[rangeSize_one];split<;>omega
   show IsRangeIter _ _ (lo+((0:Nat):Int)*1) ((((hi-lo).toNat:Nat):Int)-((0:Nat):Int)) 1;rw[J,O];exact A0J _ rfl
 have e:b=(s.heap.push {cls:=.type "range",data:=.fields #[.int lo t,.int hi u,.int 1 v]}).objs.size:=by simpa using hb
 subst e;exact F.fpOk (A08 _) (F.hok.fresh (A08 _))
def aI4 (ta:TA):TI:=fun σ H R=>ta σ H λvs H1=>∃ j:Int,vs=[.int j] /\ -(2 ^ 62)<=j/\j<2 ^ 62/\R (Itr 0 j.toNat) H1
def aL4 (ta:TA):TI:=fun σ H R=>ta σ H λvs H1=>∃ i j:Int,vs=[.int i,.int j]/\(-(2 ^ 62)<=i/\i<2 ^ 62 /\ -(2 ^ 62)<=j/\j<2 ^ 62)/\R (Itr i (j-i).toNat) H1
theorem Ei {a:Expr}{ta:TA}{p pos:Pos}(O:Gl X "range")(hm:X.mg "range" = none)(ha:PA X [a] ta)(U:starEach [a] X.env=[(false,eval a X.env)]:=by ac_nf):PI X tg (.Call (.Name "range" p) [a] [] pos) (aI4 ta):=by
 intro pins s σ H R I h;refine Call_ (K3 I O hm boot_range (A1W (thn (ha pos pins s σ H _ I h) λus s1 ⟨vs,H1,J,Z,F⟩=>?_) U rfl));obtain⟨j,e,F,Y,q⟩:=F;subst e
 cases Z with
 |cons r rr=>cases rr;obtain⟨t,rfl⟩:=r;exact call_range_1 (Y8 J ∅ ∅ F Y (by simpa using q))
theorem a57 {a b:Expr}{ta:TA}{p pos:Pos}(U:Gl X "range")(hm:X.mg "range" = none)(ha:PA X [a,b] ta)(Y:starEach [a,b] X.env=[(false,eval a X.env),(false,eval b X.env)]:=by ac_nf)(J:starEach [b] X.env=[(false,eval b X.env)]:=by ac_nf) :
  PI X tg (.Call (.Name "range" p) [a,b] [] pos) (aL4 ta):=by
 intro pins s σ H R I h;refine Call_ (K3 I U hm boot_range (A1W (thn (ha pos pins s σ H _ I h) λus s1 ⟨vs,H1,O,r1,F⟩=>?_) (by rw[Y,J]) (by rw[J];rfl)));obtain⟨i,j,e,⟨F,Z,q3,q4⟩,q⟩:=F;subst e
 cases r1 with
 |cons r rr=>
   cases rr with
   |cons r' rr=>cases rr;obtain⟨t,rfl⟩:=r;obtain⟨t',rfl⟩:=r';exact call_range_2 (Y8 O F Z q3 q4 q)
def aW7 (F:TI)(g:TG)(tb:TS):TS:=λD σ H=>F σ H λJ H1=>∃ W:Nat->Nat->St->Hp->Prop,(∃ m,W 0 m σ H1)/\∀ i m σ H,W i m σ H ->
 (J.stop i H/\D.nx σ H)\/(J.go i H/\∃ N:St->Hp->Prop,(∀ σ' H',N σ' H'->∃ q,q<m/\W (i+1) q σ' H')/\∀ x H',J.yld i H x H'->g x σ H' fun σ2 H2=>tb {D with nx:=N,ct:=N,bk:=D.nx} σ2 H2)
def Vw (fp:List Addr)(h:Heap):List (Addr×Obj):=fp.filterMap λb=>(h.get? b).map λo=>(b,o)
theorem Jw {fp:List Addr}{h:Heap}{b:Addr}{o:Obj}(hb:b∈fp)(e:h.get? b=some o):(b,o)∈Vw fp h:=A5C.mpr ⟨b,hb,by rw[e];rfl⟩
theorem ad3 {fp:List Addr} {h:Heap} {p:Addr×Obj} (hp:p∈Vw fp h):p.1∈fp/\h.get? p.1=some p.2:=by
 obtain⟨b,hb,e⟩:=A5C.mp hp
 cases q:h.get? b with
 |none=>rw[q] at e;cases e
 |some o=>rw[q] at e;have F:(b,o)=p:=A13 e;subst F;exact⟨hb,q⟩
theorem Inv.pinned {pins:List (Addr×Obj)}{σ:St}{H:Hp}{s:Shared}{fp:List Addr}(I:Inv X pins σ H s)(hf:∀ b∈fp,Xw X pins H b)(U:∀ b∈fp,∃ o,s.heap.get? b=some o/\∀ v,o.data ≠ .cell v):Inv X (pins++Vw fp s.heap) σ H s:=
 I.pins_of λp hp=>(A0A.mp hp).elim (λz=>I.pin p (A12 _ z)) λz=>by obtain⟨hb,e⟩:=ad3 z;obtain⟨F,J,O,_⟩:=hf p.1 hb;obtain⟨o,q,d⟩:=U p.1 hb;rw[e] at q;cases q;exact⟨e,F,J,O,d⟩
theorem Inv.unpinned {pins pl:List (Addr×Obj)}{σ:St}{H:Hp}{s:Shared}(I:Inv X (pins++pl) σ H s):Inv X pins σ H s:=I.pins_of λp hp=>I.pin p (A12 _ (A0L _ hp))
theorem C4 {a0:Expr}{a3:List Stmt}{wi:TI}{g:TG}{tb:TS}{pos:Pos}(hp:PassesOwn (model X.prog X.w) X.A X.env X.xe)(hc:X.calm=true)(hi:PI X tg a0 wi)(hg:PG X tg g)(hb:PSs X a3 tb)
  (hs:∀ x,foldedSetIterable a0 X.env x=pure x:=by intro _;ac_nf):PS X (.For tg a0 a3 [] pos) (aW7 wi g tb):=by
 intro pins s σ H D I h;refine wpAny_For (thn (hi pins s σ H _ I h) λv s1 h1=>thn h1 λa9 s2 h2=>?_) hs;obtain⟨it,fp,tn,J,H2,e,I2,T,a8,f2,W,⟨m0,w0⟩,turn⟩:=h2;subst e;have a2:∀ {H':Hp},(∀ b∈fp,H' b=none)->∀ b∈fp,Xw X pins H' b:=λhn b hb=>⟨hn b hb,(f2 b hb).2⟩;refine codeAny_forLoop_any (λn s'=>∃ i σ' H',Inv X pins σ' H' s'/\tn i s'.heap/\(∀ b∈fp,H' b=none)/\W i n σ' H') ?_ m0 ⟨0,σ,H2,I2,a8,λb hb=>(f2 b hb).1,w0⟩;rintro n s3 ⟨i,σ3,Y,I3,a5,a4,w3⟩;rcases turn i n σ3 Y w3 with ⟨stop,qn⟩|⟨go,N,hN,step⟩
 . refine A31 hp (thn (T.done X rfl rfl rfl hc i pins s3 σ3 Y X.xe I3 (a2 a4) a5 stop) λr s4 ⟨Z,I4⟩=>?_);subst Z;exact A4P ⟨σ3,Y,I4,qn⟩
 refine A31 hp (thn (T.item X rfl rfl rfl hc i pins s3 σ3 Y X.xe I3 (a2 a4) a5 go) λr s4 ⟨u,Z,h4⟩=>?_);subst Z;refine A31 hp (thn h4 λ_ s5 ⟨x,H5,I5,r5,y5,a1,a7⟩=>?_);have a6:=I5.pinned (a2 a7) (T.obj _ _ a1);refine A31 hp (thn (hg _ s5 σ3 H5 x u _ a6 r5 (step x H5 y5)) λ_ s6 ⟨σ6,H6,I6,q6⟩=>?_);refine A31 hp (thn (hb _ s6 σ6 H6 _ I6 q6) λf s7 O=>?_)
 have again:∀ {σ7:St} {q:Hp},Inv X (pins++Vw fp s5.heap) σ7 q s7->N σ7 q->∃ m,m<n/\∃ i σ' H',Inv X pins σ' H' s7/\tn i s7.heap/\(∀ b∈fp,H' b=none)/\W i m σ' H':=fun {σ7 q} F U=>by obtain⟨m',hm,w7⟩:=hN σ7 q U;refine⟨m',hm,i+1,σ7,q,F.unpinned,T.keep _ _ _ a1 λb hb o e=>(F.pin (b,o) (A12 _ (A12 _ (Jw hb e)))).1,λb hb=>?_,w7⟩;obtain⟨o,e,d⟩:=T.obj _ _ a1 b hb;exact(F.pin (b,o) (A12 _ (A12 _ (Jw hb e)))).2.1
 cases f with
 |next=>obtain⟨σ7,q,F,U⟩:=O;exact again F U
 |cont=>obtain⟨σ7,q,F,U⟩:=O;exact again F U
 |brk=>obtain⟨σ7,q,F,O⟩:=O;exact⟨σ7,q,F.unpinned,O⟩
 |ret v=>obtain⟨x7,σ7,q,F,r7,O⟩:=O;exact⟨x7,σ7,q,F.unpinned,r7,O⟩
end
abbrev R2:=V->V->Hp->VK->Prop
def OpR (X:Cx)(f:Value->Value->Sem Value)(r:R2):Prop:=
 ∀(pins:List (Addr×Obj)) (s:Shared) (σ:St) (H:Hp) (x y:V) (v u:Value) (Q:VK),Inv X pins σ H s->RelV x v->RelV y u->r x y H Q ->
  wpAny (model X.prog X.w) X.A (f v u) (EP X pins σ Q) X.xe s
def UnR (X:Cx)(f:Value->Sem Value)(r:V->Hp->VK->Prop):Prop:=
 ∀(pins:List (Addr×Obj)) (s:Shared) (σ:St) (H:Hp) (x:V) (v:Value) (Q:VK),Inv X pins σ H s->RelV x v->r x H Q ->
  wpAny (model X.prog X.w) X.A (f v) (EP X pins σ Q) X.xe s
def CallR (X:Cx)(f:Value)(r:List V->Hp->VK->Prop):Prop:=
 ∀(pins:List (Addr×Obj)) (s:Shared) (σ:St) (H:Hp) (xs:List V) (us:List Value) (Q:VK),Inv X pins σ H s->Vals xs us->r xs H Q ->
  wpAny (model X.prog X.w) X.A (call f us) (EP X pins σ Q) X.xe s
def TruR (X:Cx)(r:V->Hp->(Bool->Hp->Prop)->Prop):Prop:=
 ∀(pins:List (Addr×Obj)) (s:Shared) (σ:St) (H:Hp) (x:V) (v:Value) (Q:Bool->Hp->Prop),Inv X pins σ H s->RelV x v->r x H Q ->
  wpAny (model X.prog X.w) X.A (truthy v) (TP X pins σ Q) X.xe s
def tOp (r:R2)(ta tb:TE):TE:=fun σ H Q=>ta σ H λx H1=>tb σ H1 λy H2=>r x y H2 Q
def tUn (r:V->Hp->VK->Prop)(ta:TE):TE:=fun σ H Q=>ta σ H λx H1=>r x H1 Q
def rI (C:Int->Int->Prop)(g:Int->Int->V):R2:=λx y H Q=>∃ i j,x = .int i/\y = .int j/\C i j/\Q (g i j) H
def rI0 (g:Int->Int->V):R2:=λx y H Q=>∃ i j,x = .int i/\y = .int j/\Q (g i j) H
def rU (g:Int->V):V->Hp->VK->Prop:=λx H Q=>∃ i,x = .int i/\Q (g i) H
section
variable {X:Cx}{a b c:Expr}{ta tb tc:TE}{pos:Pos}
theorem aS0 (ha:PE X a ta)(hb:PE X b tb){pins:List (Addr×Obj)}{s:Shared}{σ:St}{H:Hp}{R:V->V->Hp->Prop}(I:Inv X pins σ H s)
  (h:ta σ H λx H1=>tb σ H1 λy H2=>R x y H2) {Q:Value->Shared->Prop} {f:Value->Value->Sem Value}
  (hf:∀ v u s2 x y H2,Inv X pins σ H2 s2->RelV x v->RelV y u->R x y H2->wpAny (model X.prog X.w) X.A (f v u) Q X.xe s2) :
  wpAny (model X.prog X.w) X.A (eval a X.env) (λv s₁=>wpAny (model X.prog X.w) X.A (eval b X.env) (λu s₂=>wpAny (model X.prog X.w) X.A (f v u) Q X.xe s₂) X.xe s₁) X.xe s:=by
 refine thn (ha pins s σ H _ I h) λv Z ⟨x,H1,q,U,J⟩=>?_;refine thn (hb pins Z σ H1 _ q J) λu s2 ⟨y,H2,F,Y,O⟩=>?_;exact hf v u s2 x y H2 F U Y O
theorem Ap {F:Operator}{r:R2}(O:OpR X (binaryOp F) r)(ha:PE X a ta)(hb:PE X b tb):PE X (.BinOp a F b pos) (tOp r ta tb):=by intro pins s σ H Q I h;exact wpAny_BinOp (aS0 ha hb I h λv u s2 x y H2 J U Y q=>O pins s2 σ H2 x y v u Q J U Y q)
theorem aI8 {q:UnaryOp}{r:V->Hp->VK->Prop}(J:UnR X (unaryOp q) r)(ha:PE X a ta):PE X (.UnaryOp q a pos) (tUn r ta):=by intro pins s σ H Q I h;exact UnaryOp_ (thn (ha pins s σ H _ I h) λv Y ⟨x,H1,F,U,O⟩=>J pins Y σ H1 x v Q F U O)
theorem opI {f:Value->Value->Sem Value}{C:Int->Int->Prop}{g:Int->Int->Int}
  (rule:∀(i j:Int) (t u:Tok) (s:Shared) (Q:Value->Shared->Prop) (E:Value->Shared->Prop),C i j->Q (.int (g i j) s.toks) {s with toks:=s.toks+1}->wpAny (model X.prog X.w) X.A (f (.int i t) (.int j u)) Q E s) :
  OpR X f (rI C λi j=>.int (g i j)):=by
 intro pins s σ H x y v u Q I J O h;obtain⟨i,j,rfl,rfl,F,q⟩:=h;obtain⟨t,rfl⟩:=J;obtain⟨t',rfl⟩:=O;exact rule i j t t' s _ _ F ⟨.int (g i j),H,I.tok _,⟨_,rfl⟩,q⟩
theorem aS6 {f:Value->Value->Sem Value}{g:Int->Int->Int}
  (rule:∀(i j:Int) (t u:Tok) (s:Shared) (Q:Value->Shared->Prop) (E:Value->Shared->Prop),Q (.int (g i j) s.toks) {s with toks:=s.toks+1}->wpAny (model X.prog X.w) X.A (f (.int i t) (.int j u)) Q E s) :
  OpR X f (rI0 λi j=>.int (g i j)):=by
 intro pins s σ H x y v u Q I F J h;obtain⟨i,j,rfl,rfl,q⟩:=h;obtain⟨t,rfl⟩:=F;obtain⟨t',rfl⟩:=J;exact rule i j t t' s _ _ ⟨.int (g i j),H,I.tok _,⟨_,rfl⟩,q⟩
theorem aT3 {f:Value->Value->Sem Value}{g:Int->Int->Bool}
  (rule:∀(i j:Int) (t u:Tok) (s:Shared) (Q:Value->Shared->Prop) (E:Value->Shared->Prop),Q (.bool (g i j)) s->wpAny (model X.prog X.w) X.A (f (.int i t) (.int j u)) Q E s) :
  OpR X f (rI0 λi j=>.bl (g i j)):=by
 intro pins s σ H x y v u Q I F J h;obtain⟨i,j,rfl,rfl,q⟩:=h;obtain⟨t,rfl⟩:=F;obtain⟨t',rfl⟩:=J;exact rule i j t t' s _ _ ⟨.bl (g i j),H,I,rfl,q⟩
def aS8 (i j:Int):Prop:=0<j/\j<1073741824
def aR2 (i j:Int):Prop:=0<=j/\j<=1000000/\i.natAbs<2 ^ 64
def CMul (i j:Int):Prop:=(-(2 ^ 64)<i/\i<2 ^ 64)\/(-(2 ^ 64)<j/\j<2 ^ 64)
theorem CMul.ok {i j:Int}(h:CMul i j):IntMulOk i j:=by
 rcases h with ⟨h1,h2⟩|⟨h1,h2⟩
 . exact .of_left (intBits_le_64 h1 h2)
 exact .of_right (intBits_le_64 h1 h2)
theorem op_add:OpR X (binaryOp .Add) (rI0 λi j=>.int (i+j)):=aS6 λ_ _ _ _ _ _ _ q=>add_int q
theorem K2:OpR X (binaryOp .Sub) (rI0 λi j=>.int (i-j)):=aS6 λ_ _ _ _ _ _ _ q=>sub_int q
theorem op_mul:OpR X (binaryOp .Mult) (rI CMul λi j=>.int (i*j)):=opI λ_ _ _ _ _ _ _ F q=>mul_int q F.ok
theorem au8:OpR X (binaryOp .FloorDiv) (rI aS8 λi j=>.int (i / j)):=opI λi j _ _ _ _ _ F q=>by have h1:(0:Int)<j:=F.1;have h2:j<1073741824:=F.2;exact floordiv_int ∅ (by rw[Int.fdiv_eq_ediv_of_nonneg i ∅];exact q) (.inl (PyProof.noPylong_small ∅))
theorem Mq:OpR X (binaryOp .Mod) (rI (λ_ j=>0<j) λi j=>.int (i % j)):=opI λi j _ _ _ _ _ F q=>by have h1:(0:Int)<j:=F;exact mod_int' ∅ (by rw[Int.fmod_eq_emod_of_nonneg i ∅];exact q)
theorem aJ0:OpR X (binaryOp .Pow) (rI aR2 λi j=>.int (i ^ j.toNat)):=opI λ_ _ _ _ _ _ _ F q=>pow_int_small F.1 F.2.1 F.2.2 q
theorem aG5:OpR X (binaryOp .LShift) (rI aR2 λi j=>.int (i*2 ^ j.toNat)):=opI λ_ _ _ _ _ _ _ F q=>lshift_int_small F.1 F.2.1 F.2.2 q
theorem a68:OpR X (binaryOp .BitAnd) (rI0 λi j=>.int (Builtin.bitAnd i j)):=aS6 λ_ _ _ _ _ _ _ q=>and_int q
theorem unI {f:Value->Sem Value}{g:Int->Int}
  (rule:∀(i:Int) (t:Tok) (s:Shared) (Q:Value->Shared->Prop) (E:Value->Shared->Prop),Q (.int (g i) s.toks) {s with toks:=s.toks+1}->wpAny (model X.prog X.w) X.A (f (.int i t)) Q E s) :
  UnR X f (rU λi=>.int (g i)):=by
 intro pins s σ H x v Q I F h;obtain⟨i,rfl,q⟩:=h;obtain⟨t,rfl⟩:=F;exact rule i t s _ _ ⟨.int (g i),H,I.tok _,⟨_,rfl⟩,q⟩
theorem as5:UnR X (unaryOp .USub) (rU λi=>.int (-i)):=unI λ_ _ _ _ _ q=>neg_int q
end
def aR0:V->V->Bool
 |.non,.non=>true | .non,.int _=>true | .int _,.non=>true | .non,.bl _=>true | .bl _,.non=>true | .non,.str _=>true | .str _,.non=>true
 |.int _,.int _=>true | .bl _,.bl _=>true | .str _,.str _=>true | .byt _,.byt _=>true
 |.int _,.str _=>true | .str _,.int _=>true | .bl _,.str _=>true | .str _,.bl _=>true
 |_,_=>false
def rEq:R2:=λx y H Q=>aR0 x y=true/\Q (.bl (decide (x=y))) H
def rNe:R2:=λx y H Q=>aR0 x y=true/\Q (.bl (!decide (x=y))) H
theorem a96 {i j:Int}:decide (V.int i=V.int j)=(i==j):=by rw[A2B];simp
theorem aq2 {i j:Bool}:decide (V.bl i=V.bl j)=(i==j):=by rw[A2B];simp
theorem ae2 {i j:Str}:decide (V.str i=V.str j)=(i==j):=by rw[A2B];simp
theorem aa7 {i j:Array UInt8}:decide (V.byt i=V.byt j)=(i.toList==j.toList):=by
 rw[A2B]
 cases i
 cases j;simp
section
variable {X:Cx}{a b c:Expr}{ta tb tc:TE}{pos:Pos}
theorem Bi {pins:List (Addr×Obj)}{σ:St}{H:Hp}{s:Shared}{Q:VK}{k F:Bool}(I:Inv X pins σ H s)(q:Q (.bl k) H)(e:k=F):EP X pins σ Q (.bool F) s:=by subst e;exact⟨.bl k,H,I,rfl,q⟩
theorem op_eq:OpR X (compareOp .Eq) rEq:=by
 intro pins s σ H x y v u Q I O F h;obtain⟨J,q⟩:=h
 cases x with
 |non=>
   cases O
   cases y with
   |non=>cases F;exact PySem.EqNone.eq_none_none (Bi I q (by simp))
   |bl j=>cases F;exact PySem.EqNone.eq_none_bool (Bi I q (by simp))
   |int j=>obtain⟨t',rfl⟩:=F;exact PySem.EqNone.eq_none_int (Bi I q (by simp))
   |str j=>obtain⟨t',rfl⟩:=F;exact PySem.EqNone.eq_none_str (Bi I q (by simp))
   |_=>exact absurd (show false=true from J) A0M
 |bl i=>
   cases O
   cases y with
   |non=>cases F;exact PySem.EqNone.eq_bool_none (Bi I q (by simp))
   |bl j=>cases F;exact eq_bool (Bi I q aq2)
   |str j=>obtain⟨t',rfl⟩:=F;exact PySem.EqMixed.eq_bool_str (Bi I q (by simp))
   |_=>exact absurd (show false=true from J) A0M
 |int i=>
   obtain⟨t,rfl⟩:=O
   cases y with
   |non=>cases F;exact PySem.EqNone.eq_int_none (Bi I q (by simp))
   |int j=>obtain⟨t',rfl⟩:=F;exact eq_int (Bi I q a96)
   |str j=>obtain⟨t',rfl⟩:=F;exact PySem.EqMixed.eq_int_str (Bi I q (by simp))
   |_=>exact absurd (show false=true from J) A0M
 |str i=>
   obtain⟨t,rfl⟩:=O
   cases y with
   |non=>cases F;exact PySem.EqNone.eq_str_none (Bi I q (by simp))
   |bl j=>cases F;exact PySem.EqMixed.eq_str_bool (Bi I q (by simp))
   |int j=>obtain⟨t',rfl⟩:=F;exact PySem.EqMixed.eq_str_int (Bi I q (by simp))
   |str j=>obtain⟨t',rfl⟩:=F;exact eq_str (Bi I q ae2)
   |_=>exact absurd (show false=true from J) A0M
 |byt i=>
   obtain⟨t,rfl⟩:=O
   cases y with
   |byt j=>obtain⟨t',rfl⟩:=F;exact W.eq_bytes (Bi I q aa7)
   |_=>exact absurd (show false=true from J) A0M
 |_=>cases y<;>exact absurd (show false=true from J) A0M
theorem op_ne:OpR X (compareOp .NotEq) rNe:=by
 intro pins s σ H x y v u Q I O F h;obtain⟨J,q⟩:=h
 cases x with
 |non=>
   cases O
   cases y with
   |non=>cases F;exact PySem.EqNone.ne_none_none (Bi I q (by simp))
   |bl j=>cases F;exact PySem.EqNone.ne_none_bool (Bi I q (by simp))
   |int j=>obtain⟨t',rfl⟩:=F;exact PySem.EqNone.ne_none_int (Bi I q (by simp))
   |str j=>obtain⟨t',rfl⟩:=F;exact PySem.EqNone.ne_none_str (Bi I q (by simp))
   |_=>exact absurd (show false=true from J) A0M
 |bl i=>
   cases O
   cases y with
   |non=>cases F;exact PySem.EqNone.ne_bool_none (Bi I q (by simp))
   |bl j=>cases F;exact ne_bool (Bi I q (congrArg not aq2))
   |str j=>obtain⟨t',rfl⟩:=F;exact PySem.EqMixed.ne_bool_str (Bi I q (by simp))
   |_=>exact absurd (show false=true from J) A0M
 |int i=>
   obtain⟨t,rfl⟩:=O
   cases y with
   |non=>cases F;exact PySem.EqNone.ne_int_none (Bi I q (by simp))
   |int j=>obtain⟨t',rfl⟩:=F;exact ne_int (Bi I q (congrArg not a96))
   |str j=>obtain⟨t',rfl⟩:=F;exact PySem.EqMixed.ne_int_str (Bi I q (by simp))
   |_=>exact absurd (show false=true from J) A0M
 |str i=>
   obtain⟨t,rfl⟩:=O
   cases y with
   |non=>cases F;exact PySem.EqNone.ne_str_none (Bi I q (by simp))
   |bl j=>cases F;exact PySem.EqMixed.ne_str_bool (Bi I q (by simp))
   |int j=>obtain⟨t',rfl⟩:=F;exact PySem.EqMixed.ne_str_int (Bi I q (by simp))
   |str j=>obtain⟨t',rfl⟩:=F;exact ne_str (Bi I q (congrArg not ae2))
   |_=>exact absurd (show false=true from J) A0M
 |byt i=>
   obtain⟨t,rfl⟩:=O
   cases y with
   |byt j=>obtain⟨t',rfl⟩:=F;exact W.ne_bytes (Bi I q (congrArg not aa7))
   |_=>exact absurd (show false=true from J) A0M
 |_=>cases y<;>exact absurd (show false=true from J) A0M
theorem Zs:OpR X (compareOp .Lt) (rI0 λi j=>.bl (decide (i<j))):=aT3 λ_ _ _ _ _ _ _ q=>lt_int q
theorem a03:OpR X (compareOp .Gt) (rI0 λi j=>.bl (decide (j<i))):=aT3 λ_ _ _ _ _ _ _ q=>gt_int q
theorem aN0:OpR X (compareOp .GtE) (rI0 λi j=>.bl (decide (j<=i))):=aT3 λ_ _ _ _ _ _ _ q=>ge_int q
theorem op_in_str:OpR X (compareOp .In) (λx y H Q=>∃ i j,x = .str i/\y = .str j/\Q (.bl (!(Builtin.Str.occurrences j i 0 j.length 1).isEmpty)) H):=by intro pins s σ H x y v u Q I F J h;obtain⟨i,j,rfl,rfl,q⟩:=h;obtain⟨t,rfl⟩:=F;obtain⟨t',rfl⟩:=J;exact in_str (Bi I q rfl)
theorem aK1:OpR X (compareOp .Is) (λx y H Q=>y = .non/\Q (.bl (decide (x = .non))) H):=by
 intro pins s σ H x y v u Q I F J h;obtain⟨rfl,q⟩:=h
 cases J;refine is_none_gen (Bi I q ?_)
 cases x<;>first
  | (cases F;rfl)
  | (obtain⟨t,rfl⟩:=F;rfl)
theorem au4:OpR X (compareOp .IsNot) (λx y H Q=>y = .non/\Q (.bl (!decide (x = .non))) H):=by
 intro pins s σ H x y v u Q I F J h;obtain⟨rfl,q⟩:=h
 cases J;refine isnot_none_gen (Bi I q ?_)
 cases x<;>first
  | (cases F;rfl)
  | (obtain⟨t,rfl⟩:=F;rfl)
theorem OpR.or {f:Value->Value->Sem Value}{r r':R2}(h:OpR X f r)(h':OpR X f r'):OpR X f (λx y H Q=>r x y H Q\/r' x y H Q):=by
 intro pins s σ H x y v u Q I F J q;rcases q with q|q
 . exact h pins s σ H x y v u Q I F J q
 exact h' pins s σ H x y v u Q I F J q
theorem Aw (b:Expr){q:CmpOp}(h:q ≠ .In:=by decide)(h2:q ≠ .NotIn:=by decide):behindInMarks q b=false:=by
 have F:(q==CmpOp.In)=false:=by cases q<;>first | rfl | exact absurd rfl h
 have J:(q==CmpOp.NotIn)=false:=by cases q<;>first | rfl | exact absurd rfl h2
 cases b<;>simp[behindInMarks,F,J]
theorem Fl {F:CmpOp}{r:R2}(O:OpR X (compareOp F) r)(ha:PE X a ta)(hb:PE X b tb)(hm:behindInMarks F b=false):PE X (.Compare a [F] [b] pos) (tOp r ta tb):=by intro pins s σ H Q I h;exact wpAny_Compare1 (aS0 ha hb I h λv u s2 x y H2 J U Y q=>O pins s2 σ H2 x y v u Q J U Y q) hm
def aL2 (t:TE):TT:=fun σ H Q=>t σ H λx H'=>∃ k,x = .bl k/\Q k H'
theorem Ak {q:CmpOp}{r:R2}(Y:OpR X (compareOp q) r)(ha:PE X a ta)(hb:PE X b tb)(hm:behindInMarks q b=false):PT X (.Compare a [q] [b] pos) (aL2 (tOp r ta tb)):=by
 intro pins s σ H Q I h
 refine wpAny_isTrue_Compare1 (thn (ha pins s σ H _ I h) λv s1 ⟨x,H1,J,r1,Z⟩=>thn (hb pins s1 σ H1 _ J Z) λu s2 ⟨y,H2,O,r2,q2⟩=>thn (Y pins s2 σ H2 x y v u _ O r1 r2 q2) λc s3 ⟨z,F,U,r3,k,e,q3⟩=>?_) hm
 subst e
 cases r3;exact A3R ⟨F,U,q3⟩
def TruV (K:W.Frag)(x:V)(H:Hp)(k:Bool):Prop:=
 match x with
 |.non=>k=false
 |.bl b=>k=b
 |.int i=>k=(i != 0)
 |.str y=>y.length<=sizeLine/\k=((y.length:Int) != 0)
 |.byt y=>y.size<=sizeLine/\k=((y.size:Int) != 0)
 |.ref p=>(∃ xs,SqL K H p xs/\k = !xs.isEmpty)\/(∃ xs,SqT K H p xs/\k = !xs.isEmpty)\/∃ kvs,H p=some (.dK kvs)/\k = !kvs.isEmpty
 |_=>False
theorem Zi {κ:Type}{kvs:List (κ×V)}{vs:List (κ×Value)}(r:KV kvs vs):(!vs.isEmpty) = !kvs.isEmpty:=by cases r<;>rfl
theorem Qv {xs:List V}{q:List Value}(r:Vals xs q):(!q.toArray.isEmpty) = !xs.isEmpty:=by cases r<;>simp
theorem Pb:(sizeLine:Nat)<2 ^ 63:=by rw[A1I];decide
theorem aI2:TruR X (λx H Q=>∃ k,TruV X.K x H k/\Q k H):=by
 intro pins s σ H x v Q I J h;obtain ⟨k,e,q⟩:=h;have Z:=Pb;have hs:sizeLine=16777216:=A1I
 cases x with
 |non=>cases J;have F:k=false:=e;subst F;exact truthy_none ⟨H,I,q⟩
 |bl b=>cases J;have F:k=b:=e;subst F;exact A3R ⟨H,I,q⟩
 |int i=>obtain⟨t,rfl⟩:=J;have F:k=(i != 0):=e;subst F;exact PySem.P.truthy_int ⟨H,I,q⟩
 |str y=>obtain⟨t,rfl⟩:=J;obtain⟨hy,F⟩:y.length<=sizeLine/\k=((y.length:Int) != 0):=e;subst F;exact PySem.P.truthy_str ∅ ⟨H,I.tok _,q⟩
 |byt y=>obtain⟨t,rfl⟩:=J;obtain⟨hy,F⟩:y.size<=sizeLine/\k=((y.size:Int) != 0):=e;subst F;exact W.truthy_bytes ∅ ⟨H,I.tok _,q⟩
 |ref p=>
   cases J;have F:(∃ xs,SqL X.K H p xs/\k = !xs.isEmpty)\/(∃ xs,SqT X.K H p xs/\k = !xs.isEmpty)\/∃ kvs,H p=some (.dK kvs)/\k = !kvs.isEmpty:=e;rcases F with ⟨xs,O,F⟩|⟨xs,O,F⟩|⟨kvs,O,F⟩
   . subst F;obtain⟨Y,r,pl,hz⟩:=I.list O;have U:=r.length;exact wpAny_truthy_list pl.isList (by simp only[List.size_toArray];omega) ⟨H,I.tok _,by rw[Qv r];exact q⟩
   . subst F;obtain⟨Y,r,pl,hz⟩:=I.tuple O;have U:=r.length;exact truthy_tuple pl (by simp only[List.size_toArray];omega) ⟨H,I.tok _,by rw[Qv r];exact q⟩
   subst F;obtain⟨hz,hS,vs,r,m⟩:kvs.length<=sizeLine/\(p==sysModules)=false/\∃ vs,KV kvs vs/\s.heap.DictOf (Ax X.prog X.w) p vs:=I.hok p _ O;have U:kvs.length=vs.length:=A34 r;exact wpAny_truthy_dict hS m ∅ ⟨H,I.tok _,by rw[Zi r];exact q⟩
 |_=>exact(show False from e).elim
theorem op_add_str:OpR X (binaryOp .Add) (λx y H Q=>∃ i j,x = .str i/\y = .str j/\i.length+j.length<=sizeLine/\Q (.str (i++j)) H):=by intro pins s σ H x y v u Q I F J h;obtain⟨i,j,rfl,rfl,hz,q⟩:=h;obtain⟨t,rfl⟩:=F;obtain⟨t',rfl⟩:=J;exact add_str (λt' tk=>⟨.str (i++j),H,I.tok _,⟨_,rfl⟩,q⟩) hz
theorem J4 {x:V}{us:List Value}(r:Vals [x] us):∃ u,us=[u]/\RelV x u:=by
 cases r with
 |cons r1 r2=>cases r2;exact⟨_,rfl,r1⟩
theorem ai9 {x y:V}{us:List Value}(r:Vals [x,y] us):∃ u q,us=[u,q]/\RelV x u/\RelV y q:=by
 cases r with
 |cons r1 r2=>
   cases r2 with
   |cons r3 r4=>cases r4;exact⟨_,_,rfl,r1,r3⟩
theorem a62 (J:X.calm=true):CallR X (.builtin "max") (λxs H Q=>∃ i j,xs=[.int i,.int j]/\Q (.int (if j>i then j else i)) H):=by
 intro pins s σ H xs us Q I r h;obtain⟨i,j,rfl,q⟩:=h;obtain⟨u,O,rfl,⟨t,rfl⟩,⟨t',rfl⟩⟩:=ai9 r;refine max_two_ints (I.ok.hd J) λh' tk k=>⟨_,H,I.kept k,?_,q⟩
 by_cases F:j>i
 . rw[A0X F,A0X F];exact⟨_,rfl⟩
 rw[A0P F,A0P F];exact⟨_,rfl⟩
theorem ab7 (J:X.calm=true):CallR X (.builtin "min") (λxs H Q=>∃ i j,xs=[.int i,.int j]/\Q (.int (if j<i then j else i)) H):=by
 intro pins s σ H xs us Q I r h;obtain⟨i,j,rfl,q⟩:=h;obtain⟨u,O,rfl,⟨t,rfl⟩,⟨t',rfl⟩⟩:=ai9 r;refine min_two_ints (I.ok.hd J) λh' tk k=>⟨_,H,I.kept k,?_,q⟩
 by_cases F:j<i
 . rw[A0X F,A0X F];exact⟨_,rfl⟩
 rw[A0P F,A0P F];exact⟨_,rfl⟩
theorem ah8:CallR X (.type "int") (λxs H Q=>(∃ i,xs=[.int i]/\Q (.int i) H)\/∃ k,xs=[.bl k]/\Q (.int (if k then 1 else 0)) H):=by
 intro pins s σ H xs us Q I r h;rcases h with ⟨i,rfl,q⟩|⟨k,rfl,q⟩
 . obtain⟨u,rfl,t,rfl⟩:=J4 r;exact call_int_int ⟨.int i,H,I,⟨_,rfl⟩,q⟩
 obtain⟨u,rfl,F⟩:=J4 r
 cases F;exact call_int_bool ⟨.int (if k then 1 else 0),H,I.tok _,⟨_,rfl⟩,q⟩
theorem Vx:CallR X (.type "str") (λxs H Q=>∃ i,xs=[.int i]/\i.natAbs.log2<1920/\Q (.str (toString i)) H):=by intro pins s σ H xs us Q I r h;obtain⟨i,rfl,hz,q⟩:=h;obtain⟨u,rfl,t,rfl⟩:=J4 r;exact PySem.P.str_of_int hz ⟨.str _,H,I.tok _,⟨_,rfl⟩,q⟩
def aV7 (K:W.Frag)(x:V)(H:Hp)(n:Nat):Prop:=
 match x with
 |.str y=>y.length<=sizeLine/\n=y.length
 |.byt y=>y.size<=sizeLine/\n=y.size
 |.ref p=>(∃ xs,SqL K H p xs/\n=xs.length)\/∃ xs,SqT K H p xs/\n=xs.length
 |_=>False
theorem call_len:CallR X (.builtin "len") (λxs H Q=>∃ x n,xs=[x]/\aV7 X.K x H n/\Q (.int n) H):=by
 intro pins s σ H xs us Q I r h;obtain⟨x,n,rfl,e,q⟩:=h;obtain ⟨u,rfl,U⟩:=J4 r;have Z:=Pb;have hs:sizeLine=16777216:=A1I
 cases x with
 |str y=>obtain⟨t,rfl⟩:=U;obtain⟨hy,F⟩:y.length<=sizeLine/\n=y.length:=e;subst F;exact len_str ∅ ⟨.int _,H,I.tok _,⟨_,rfl⟩,q⟩
 |byt y=>obtain⟨t,rfl⟩:=U;obtain⟨hy,F⟩:y.size<=sizeLine/\n=y.size:=e;subst F;exact W.len_bytes ∅ ⟨.int _,H,I.tok _,⟨_,rfl⟩,q⟩
 |ref p=>
   cases U;have F:(∃ xs,SqL X.K H p xs/\n=xs.length)\/∃ xs,SqT X.K H p xs/\n=xs.length:=e;rcases F with ⟨xs,O,F⟩|⟨xs,O,F⟩
   . subst F;obtain⟨Y,r',pl,hz⟩:=I.list O;have J:=r'.length;exact Calls.call_len_list pl.isList (by simp only[List.size_toArray];omega) ⟨.int xs.length,H,I.tok _,⟨_,by simp only[List.size_toArray];rw[J]⟩,q⟩
   subst F;obtain⟨Y,r',pl,hz⟩:=I.tuple O;have J:=r'.length;exact len_tuple pl (by simp only[List.size_toArray];omega) ⟨.int xs.length,H,I.tok _,⟨_,by simp only[List.size_toArray];rw[J]⟩,q⟩
 |_=>exact(show False from e).elim
end
structure ObjM (h:Heap)(x dx C:Addr)(mA:Str->Option Value):Prop where
 obj:h.get? x=some (W.instObj C dx)
 ns:h.Ns1 dx mA
 ne:dx≠x
theorem ad2 {h:Heap}{dx:Addr}{mA:Str->Option Value}(n:h.Ns1 dx mA):∃ od,h.get? dx=some od/\∀ name,W.lookIn name od=some (mA name):=by
 obtain⟨o,es,ep,U,hd,J,_,hm⟩:=n;refine⟨o,U,λname=>?_⟩;have e:=hm name;unfold nsFind findBy at e;rw[<- Array.find?_toList] at e;unfold W.lookIn;rw[hd];dsimp only
 split
 . rename_i y q;rw[q] at e;exact congrArg some e
 rename_i q;rw[q] at e
 have a:es.toList.any (·.refKey)=false:=by rw[List.any_eq_false];intro y Y;obtain⟨z,t,O⟩:=J y (Array.mem_toList_iff.mp Y);simp[DictEntry.refKey,O]
 have F:¬ es.toList.any (·.refKey)=true:=by rw[a];exact A0M
 rw[A0P F];exact congrArg some e
theorem ObjM.look {h:Heap}{x dx C:Addr}{mA:Str->Option Value}(I:ObjM h x dx C mA):∃ od,W.InstAt h x (W.instObj C dx) C (some od)/\∀ name,W.lookIn name od=some (mA name):=
 let ⟨od,ho,hl⟩:=ad2 I.ns
 ⟨od,⟨I.obj,rfl,rfl,ho⟩,hl⟩
section
variable {prog:Program}{w:World}{A:Around}{E:Value->Shared->Prop}{s:Shared}{K:W.Frag}{x dx C f:Addr}{mA:Str->Option Value}{name:Str}{v:Value}
theorem au9 {q:Bool}{Q:Value->Shared->Prop}(X:K.In s.heap)(I:ObjM s.heap x dx C mA)(F:W.plainGet K C name=true)(O:W.hasDictIn K C=true)
  (ha:W.findIn K (.ref C) name=some none) (Y:mA name=some v) (Z:W.handedIn v=true) (h:Q v {s with toks:=s.toks+1}) :
  wpAny (model prog w) A (getAttr (.ref x) name q) Q E s:=by
 obtain⟨od,J,U⟩:=I.look;exact W.get_value X J (A56 F).1 (W.findObj_own O ha rfl (by rw[U,Y])) Z h
theorem al6 {pl:Sem Bool}{Q:Value×List Value->Shared->Prop}(X:K.In s.heap)(I:ObjM s.heap x dx C mA)(q:W.plainGet K C name=true)
  (hf:W.findIn K (.ref C) name=some (some (.ref f))) (O:W.isFn K (.ref f)=true) (U:mA name=none) (h:Q (.ref f,[.ref x]) s) :
  wpAny (model prog w) A (getMethod (.ref x) name pl) Q E s:=by
 obtain⟨od,J,F⟩:=I.look;exact W.method_fn X J (A56 q).1 (A56 q).2 hf (A35.mp O) (by show(W.lookIn name od).map (·.isSome)=some false;rw[F,U];rfl) h
theorem aw3 {ns:List Str}{Q:Unit->Shared->Prop}(X:K.In s.heap)(I:ObjM s.heap x dx C mA)
  (hs:W.findIn K (.ref C) "__setattr__" = some (some (.builtin "object.__setattr__"))) (hp:W.plainOver K C=true) (ht:W.takerIn K C name=some none) (hh:W.hasDictIn K C=true)
  (hw:PySem.Within mA ns) (hsz:ns.length<=sizeLine)
  (h:∀ h',ObjM h' x dx C (λy=>if y=name then some v else mA y)->Heap.SameBut dx s.heap h'->Q () {s with heap:=h',toks:=s.toks+2}) :
  wpAny (model prog w) A (setAttr (.ref x) name v) Q E s:=by
 obtain⟨od,J,hl⟩:=I.look;refine W.set_plain X J hs (W.osa_open (s:={s with toks:=s.toks+1}) (r:=none) X J hp ht λb=>?_)
 obtain⟨cd,O,Y⟩:=W.any_some hh;have hx:s.heap.get? x=some ⟨.ref C,some dx,.plain,#[]⟩:=I.obj;refine A05 (A0C (A05 (A05 (wpAny_loadPart hx (A05 (W.Looks.here (s:={s with toks:=s.toks+1}) (W.looks_clsIn X O) ?_))))))
 rw[Y];refine A0C (a:=some dx) (A05 (A0C (A05 ?_)));refine wpAny_nsSet1 (s:={s with toks:=s.toks+1}) I.ns λh' q F=>?_
 obtain⟨oD,a2,a1,a0,Z,U⟩:=q.count (PySem.Within.cons name v hw);refine A05 (wpAny_lookBehind a0 (by rw[Z];exact pastItsLine_dict (A0O U (by rw[A0G];omega))) ?_);exact A0C (h _ ⟨(F.2 _ (Ne.symm I.ne)).trans I.obj,q,I.ne⟩ F)
theorem ap0 {R:Result->Shared->Prop}{vs:List Value}{q:List (Str×Value)}(X:K.In s.heap)(hm:W.makesIn K C=true)
  (hi:W.findIn K (.ref C) "__init__" = some (some (.ref f))) (hf:W.typeIn K (.ref f)=some (.type "function"))
  (h:codeAny (model prog w) (A.under (.builtin "type.__call__" ⟨.ref C :: vs,q⟩)) (.call (.ref f) ⟨.ref (s.heap.objs.size+1) :: vs,q⟩) (W.InitBack (s.heap.objs.size+1) R)
   {s with heap:=(s.heap.push W.emptyDict).push (W.instObj C s.heap.objs.size)}) :
  codeAny (model prog w) A (.call (.ref C) ⟨vs,q⟩) R s:=by
 obtain⟨F,g,d,t,os⟩:=s;exact W.make_core (W.makes_of X hm) (W.looks_findIn X hi) (λself=>W.bind_fn X self hf) (.inl rfl) h
end
def Oy (f:Str) (v:V):List (Str×V)->List (Str×V)
 | []=>[(f,v)]
 | (g,x) :: r=>if g=f then(g,v) :: r else(g,x) :: Oy f v r
theorem Nx (f g:Str)(v:V):∀ fs:List (Str×V),(Oy f v fs).lookup g=if g=f then some v else fs.lookup g
 | []=>by
   show List.lookup g [(f,v)]=_
   by_cases h:g=f
   . have hb:(g==f)=true:=A35.mpr h;simp only[List.lookup,hb,if_pos h]
   have hb:(g==f)=false:=A1T.mpr h;simp only[List.lookup,hb,if_neg h]
 | (k,x) :: r=>by
   have F:=Nx f g v r;rw[show Oy f v ((k,x) :: r)=(if k=f then(k,v) :: r else(k,x) :: Oy f v r) from rfl]
   by_cases q:k=f
   . rw[A0X q]
     by_cases h:g=k
     . have hb:(g==k)=true:=A35.mpr h;simp only[List.lookup,hb,if_pos (h.trans q)]
     have hb:(g==k)=false:=A1T.mpr h;simp only[List.lookup,hb,if_neg (λe:g=f=>h (e.trans q.symm))]
   rw[A0P q]
   by_cases h:g=k
   . have hb:(g==k)=true:=A35.mpr h;simp only[List.lookup,hb,if_neg (λe:g=f=>q (h.symm.trans e))]
   have hb:(g==k)=false:=A1T.mpr h;simp only[List.lookup,hb];exact F
theorem Nu (f:Str)(v:V):∀ fs:List (Str×V),f∈(Oy f v fs).map (·.1)/\∀ g,g∈fs.map (·.1)->g∈(Oy f v fs).map (·.1)
 | []=>⟨by simp[Oy],λg h=>by simp at h⟩
 | (k,x) :: r=>by
   obtain⟨i1,i2⟩:=Nu f v r;rw[show Oy f v ((k,x) :: r)=(if k=f then(k,v) :: r else(k,x) :: Oy f v r) from rfl]
   by_cases q:k=f
   . rw[A0X q];subst q;exact⟨by simp,λg h=>by simpa using h⟩
   rw[A0P q];refine⟨?_,λg h=>?_⟩
   . rw[A0H];exact A09 _ i1
   rw[A0H] at h ⊢;rcases A0B.mp h with e|e
   . exact A0B.mpr (.inl e)
   exact A09 _ (i2 g e)
theorem Nq (f:Str)(v:V):∀ fs:List (Str×V),(Oy f v fs).length<=fs.length+1
 | []=>by simp[Oy]
 | (k,x) :: r=>by
   have F:=Nq f v r;rw[show Oy f v ((k,x) :: r)=(if k=f then(k,v) :: r else(k,x) :: Oy f v r) from rfl]
   by_cases q:k=f
   . rw[A0X q,A0G,A0G];omega
   rw[A0P q,A0G,A0G];omega
theorem RelO.some_of {v:V}{o:Option Value}(r:RelO (some v) o):∃ u,o=some u/\RelV v u:=by
 cases o with
 |none=>exact(show False from r).elim
 |some u=>exact⟨u,rfl,r⟩
theorem RelO.none_of {o:Option Value}(r:RelO none o):o=none:=by
 cases o with
 |none=>rfl
 |some u=>exact(show False from r).elim
theorem af0 {v:V}{u:Value}(r:RelV v u):W.handedIn u=true:=by
 cases v with
 |non=>cases (show u=Value.none from r);rfl
 |bl b=>cases (show u=Value.bool b from r);rfl
 |int i=>obtain⟨t,e⟩:=(show ∃ t,u=Value.int i t from r);cases e;rfl
 |str x=>obtain⟨t,e⟩:=(show ∃ t,u=Value.str x t from r);cases e;rfl
 |byt b=>obtain⟨t,e⟩:=(show ∃ t,u=Value.bytes b t from r);cases e;rfl
 |flt b=>obtain⟨t,e⟩:=(show ∃ t,u=Value.float b t from r);cases e;rfl
 |ref a=>cases (show u=Value.ref a from r);rfl
 |ty n=>cases (show u=Value.type n from r);rfl
section
variable {P:Program}{w:World}{H H':Hp}{h h':Heap}{a C dx:Addr}{fs fs':List (Str×V)}
theorem T1 (hok:HOk P w H h)(e:H a=some (.ins C dx fs)):∃ mA,ObjM h a dx C mA/\(∀ f,RelO (fs.lookup f) (mA f))/\PySem.Within mA (fs.map (·.1))/\fs.length<=1000/\H dx=some (.own a):=by obtain⟨d,z,ne,ob,mA,n,r,q⟩:=(show ObjOk P w H h a (.ins C dx fs) from hok a _ e);exact⟨mA,⟨ob,n,ne⟩,r,q,z,d⟩
end
structure Cls (K:W.Frag)(C:Addr):Prop where
 pg:W.plainGet K C Str.empty=true
 hd:W.hasDictIn K C=true
 po:W.plainOver K C=true
 sa:W.findIn K (.ref C) "__setattr__" = some (some (.builtin "object.__setattr__"))
theorem Cls.get {K:W.Frag}{C:Addr}(c:Cls K C)(f:Str):W.plainGet K C f=true:=c.pg
def NoAttr (K:W.Frag)(C:Addr)(f:Str):Prop:=W.findIn K (.ref C) f=some none
theorem NoAttr.taker {K:W.Frag}{C:Addr}{f:Str}(n:NoAttr K C f):W.takerIn K C f=some none:=by unfold W.takerIn;rw[show W.findIn K (.ref C) f=some none from n];rfl
structure aQ4 (K:W.Frag)(C:Addr)(m:Str)(f:Addr):Prop where
 at_:W.findIn K (.ref C) m=some (some (.ref f))
 fn:W.isFn K (.ref f)=true
 kp:W.keepIn K (.ref f)=true
section
variable {X:Cx}{pins:List (Addr×Obj)}{σ:St}{H:Hp}{s:Shared}{a C dx:Addr}{fs:List (Str×V)}{f:Str}{v:V}{A:Around}{E:Value->Shared->Prop}
theorem Zh {b:Bool}{Q:Value->Shared->Prop}(I:Inv X pins σ H s)(e:H a=some (.ins C dx fs))(c:Cls X.K C)(n:NoAttr X.K C f)(l:fs.lookup f=some v)
  (h:∀ u s',Inv X pins σ H s'->RelV v u->Q u s'):wpAny (model X.prog X.w) A (getAttr (.ref a) f b) Q E s:=by
 obtain⟨mA,O,r,_,_,_⟩:=T1 I.hok e;obtain⟨u,hu,q⟩:=RelO.some_of (v:=v) (o:=mA f) (by rw[<- l];exact r f);exact au9 I.kIn O (c.get f) c.hd n hu (af0 q) (h u _ (I.tok _) q)
theorem Z4 {m:Str}{g:Addr}{pl:Sem Bool}{Q:Value×List Value->Shared->Prop}(I:Inv X pins σ H s)(e:H a=some (.ins C dx fs))(c:Cls X.K C)(k:aQ4 X.K C m g)(l:fs.lookup m=none)
  (h:Q (.ref g,[.ref a]) s):wpAny (model X.prog X.w) A (getMethod (.ref a) m pl) Q E s:=by
 obtain⟨mA,O,r,_,_,_⟩:=T1 I.hok e;have hn:mA m=none:=RelO.none_of (by rw[<- l];exact r m);exact al6 I.kIn O (c.get m) k.at_ k.fn hn h
theorem Yy {y:V}{u:Value}{Q:Unit->Shared->Prop}(I:Inv X pins σ H s)(e:H a=some (.ins C dx fs))(c:Cls X.K C)(n:NoAttr X.K C f)(hl:fs.length<1000)(Z:RelV y u)
  (h:∀ s',Inv X pins σ (upd H a (.ins C dx (Oy f y fs))) s'->Q () s'):wpAny (model X.prog X.w) A (setAttr (.ref a) f u) Q E s:=by
 obtain⟨mA,O,r,U,_,J⟩:=T1 I.hok e;have hz:(fs.map (·.1)).length<=sizeLine:=by rw[A01,A1I];omega
 refine aw3 I.kIn O c.sa c.po n.taker c.hd U hz λh' F sb=>h _ ?_;have hd:∃ o,h'.get? dx=some o:=let ⟨o,_,_,e',_⟩:=F.ns;⟨o,e'⟩;refine I.write (x:=a) (e:=dx) (by rw[e];exact A2F) (.inr J) (λb q hb z=>(sb.2 b hb).trans z) hd ?_;refine⟨by rw[Au O.ne];exact J,?_,O.ne,F.obj,_,F.ns,λg=>?_,λg Y=>?_⟩
 . have:=Nq f y fs;omega
 . show RelO ((Oy f y fs).lookup g) (if g=f then some u else mA g)
   rw[Nx]
   by_cases q:g=f
   . rw[A0X q,A0X q];exact Z
   rw[A0P q,A0P q];exact r g
 by_cases q:g=f
 . rw[q];exact(Nu f y fs).1
 refine(Nu f y fs).2 g (U g λz=>Y ?_);show(if g=f then some u else mA g)=none
 rw[A0P q];exact z
theorem Inv.made (I:Inv X pins σ H s):Inv X pins σ (upd (upd H s.heap.objs.size (.own (s.heap.objs.size+1))) (s.heap.objs.size+1) (.ins C s.heap.objs.size []))
  {s with heap:=(s.heap.push W.emptyDict).push (W.instObj C s.heap.objs.size)}:=by
 have F:(s.heap.push W.emptyDict).get? s.heap.objs.size=some W.emptyDict:=A0J s.heap rfl
 have O:((s.heap.push W.emptyDict).push (W.instObj C s.heap.objs.size)).get? (s.heap.objs.size+1)=some (W.instObj C s.heap.objs.size):=by have:=A0J (s.heap.push W.emptyDict) (o:=W.instObj C s.heap.objs.size) rfl;rwa[A22] at this
 have U:(s.heap.push W.emptyDict).Ns s.heap.objs.size (λ_=>none):=⟨W.emptyDict,#[],_,F,rfl,(λe he=>absurd he (by simp)),λ_=>rfl⟩;have J:=I.laid (a:=s.heap.objs.size) (o:=.own (s.heap.objs.size+1)) (h':=s.heap.push W.emptyDict) (t':=s.toks) (λb u q=>A02 _ q) (A08 _) ⟨_,F⟩;refine J.laid (a:=s.heap.objs.size+1) (o:=.ins C s.heap.objs.size []) (t':=s.toks) (λb u q=>A02 _ q) (Nat.le_of_eq (A22 _ _)) ?_;have ne:s.heap.objs.size≠s.heap.objs.size+1:=A11 (A2V _);refine⟨by rw[Au ne,Af],A2M _,ne,O,λ_=>none,(Heap.Ns1.of_empty U).at λo q=>A02 _ q,λ_=>A2F,λy Y=>absurd rfl Y⟩
theorem aA4 {prog:Program}{w:World}{env:Env}{e:Expr}{f:Str}{pos:Pos}{s:Shared}{Q:Value->Shared->Prop}(hb:attributeBase e f env (eval e env)=eval e env)
  (h:wpAny (model prog w) A (eval e env) (λo q=>wpAny (model prog w) A (getAttr o f true) Q E q) E s):wpAny (model prog w) A (eval (.Attribute e f pos) env) Q E s:=
 Attribute_any_ h (by rw[arm_eval_Attribute,hb])
end
section
variable {X:Cx}{o e value:Expr}{f:Str}{pos pos' tpos:Pos}{ta tv:TE}
end
section
variable {X:Cx}{pins:List (Addr×Obj)}{σ:St}{H:Hp}{s:Shared}{A:Around}{E:Value->Shared->Prop}{Q:Value->Shared->Prop}{c:Value}{b:Bool}
inductive TyOf (K:W.Frag)(H:Hp):V->Value->Prop where
 |non:TyOf K H .non (.type "NoneType")
 |bl (x:Bool):TyOf K H (.bl x) (.type "bool")
 |int (i:Int):TyOf K H (.int i) (.type "int")
 |str (x:Str):TyOf K H (.str x) (.type "str")
 |flt (x:UInt64):TyOf K H (.flt x) (.type "float")
 |lst {a:Addr} {xs:List V} (e:H a=some (.lst xs)):TyOf K H (.ref a) (.type "list")
 |frz {a:Addr} {o:Obj} {xs:List V} (e:H a=some (.frz o (.lst xs))):TyOf K H (.ref a) (.type "list")
 |tup {a:Addr} {xs:List V} (e:H a=some (.tup xs)):TyOf K H (.ref a) (.type "tuple")
 |dK {a:Addr} {kvs:List (Key×V)} (e:H a=some (.dK kvs)):TyOf K H (.ref a) (.type "dict")
 |dT {a:Addr} {kvs:List (List Key×V)} (e:H a=some (.dT kvs)):TyOf K H (.ref a) (.type "dict")
 |ins {a C dx:Addr} {fs:List (Str×V)} (e:H a=some (.ins C dx fs)) (cl:Cls K C) (ha:W.findIn K (.ref C) "__class__" = some (some (.builtin "object.__class__")))
   (hn:W.specialIn K (.builtin "object.__class__") "__get__" = some (some (.builtin "getset_descriptor.__get__"))) (htk:W.takesIn K (.builtin "object.__class__")=some true)
   (hm:W.mroIn K C (.type "object")=some true):TyOf K H (.ref a) (.ref C)
theorem Tp {x:V}{u t:Value}(I:Inv X pins σ H s)(F:RelV x u)(ty:TyOf X.K H x t)(e:W.kitOne X.K t c=some b)(h:∀ tk,Q (.bool b) {s with toks:=tk}) :
  wpAny (model X.prog X.w) A (call (.builtin "isinstance") [u,c]) Q E s:=by
 cases ty with
 |non=>cases (show u=Value.none from F);exact A1L W.kitx_none I.kIn A2F e (λz=>nomatch z) h
 |bl y=>cases (show u=Value.bool y from F);exact A1L W.kitx_bool I.kIn A2F e (λz=>nomatch z) h
 |int i=>obtain⟨t,q⟩:=(show ∃ t,u=Value.int i t from F);cases q;exact A1L W.kitx_int I.kIn A2F e (λz=>nomatch z) h
 |str y=>obtain⟨t,q⟩:=(show ∃ t,u=Value.str y t from F);cases q;exact A1L W.kitx_str I.kIn A2F e (λz=>nomatch z) h
 |flt y=>obtain⟨t,q⟩:=(show ∃ t,u=Value.float y t from F);cases q;exact A1L W.kitx_float I.kIn A2F e (λz=>nomatch z) h
 |@lst a xs ea=>cases (show u=Value.ref a from F);obtain⟨_,_,n,_,h1⟩:=(show ObjOk X.prog X.w H s.heap a (.lst xs) from I.hok a _ ea);exact A1L W.kitx_list I.kIn ⟨_,h1,rfl⟩ e (λz=>nomatch z) h
 |@frz a ob xs ea=>cases (show u=Value.ref a from F);obtain⟨_,_,_,n,_,h1⟩:=(show ObjOk X.prog X.w H s.heap a (.frz ob (.lst xs)) from I.hok a _ ea);exact A1L W.kitx_list I.kIn ⟨_,h1,rfl⟩ e (λz=>nomatch z) h
 |@tup a xs ea=>cases (show u=Value.ref a from F);obtain⟨_,_,_,p⟩:=(show ObjOk X.prog X.w H s.heap a (.tup xs) from I.hok a _ ea);obtain⟨o,h1,h2,_⟩:=p;exact A1L W.kitx_tuple I.kIn ⟨o,h1,h2⟩ e (λz=>nomatch z) h
 |@dK a kvs ea=>cases (show u=Value.ref a from F);obtain⟨_,_,vs,_,p⟩:=(show ObjOk X.prog X.w H s.heap a (.dK kvs) from I.hok a _ ea);obtain⟨o,es,ep,h1,h2,_⟩:=p;exact A1L W.kitx_dict I.kIn ⟨o,h1,h2.1⟩ e (λz=>nomatch z) h
 |@dT a kvs ea=>cases (show u=Value.ref a from F);obtain⟨_,_,xs,_,o,es,ep,h1,h2,_⟩:=(show ObjOk X.prog X.w H s.heap a (.dT kvs) from I.hok a _ ea);exact A1L W.kitx_dict I.kIn ⟨o,h1,h2.1⟩ e (λz=>nomatch z) h
 |@ins a C dx fs ea cl ha hn htk hm=>cases (show u=Value.ref a from F);obtain⟨mA,O,_⟩:=T1 I.hok ea;obtain⟨od,J,_⟩:=O.look;exact A1L (W.kitx_own (cl.get _) cl.hd ha hn htk hm) I.kIn J e (λz=>nomatch z) h
end
structure Room (k:Nat)(A:Around):Prop where
 hd:A.handled=none
 dp:A.depth+3*k+5<recursionLimit
 un:A.units+16*k+200<cLine
 gd:A.guards=some []
theorem Room.mono {j k:Nat}{A:Around}(r:Room k A)(h:j<=k):Room j A:=⟨r.hd,by have:=r.dp;omega,by have:=r.un;omega,r.gd⟩
theorem Room.deeper {k:Nat}{A:Around}(r:Room (k+1) A)(env:Env):Room k (A.deeper env):=
 ⟨r.hd,by have:=r.dp;show A.depth+1+3*k+5<_;omega,by have:=r.un;show A.units+3+16*k+200<_;omega,r.gd⟩
theorem Zl {A:Around}{C:Addr}{us:List Value}{q:List (Str×Value)}:(A.under (.builtin "type.__call__" ⟨.ref C :: us,q⟩)).depth=A.depth+1:=by first | rfl | simp[Around.under,Code.weight,Code.isCreation,Code.isGuard,Code.isCaller,Code.frames,Code.isFrame,guardIds]
theorem a02 {A:Around}{C:Addr}{us:List Value}{q:List (Str×Value)}:(A.under (.builtin "type.__call__" ⟨.ref C :: us,q⟩)).units=A.units+1:=by first | rfl | simp[Around.under,Code.cUnits,Code.frames,Code.isFrame]
theorem Room.make {k:Nat}{A:Around}(r:Room (k+1) A)(C:Addr)(us:List Value)(q:List (Str×Value)):Room k (A.under (.builtin "type.__call__" ⟨.ref C :: us,q⟩)):=
 ⟨r.hd,by have:=r.dp;rw[Zl];omega,by have:=r.un;rw[a02];omega,(by first | exact r.gd | (simpa[Around.under,Code.isGuard,guardIds,pushGuards] using r.gd))⟩
theorem Room.depth {k:Nat}{A:Around}(r:Room k A):A.depth<recursionLimit:=by have:=r.dp;omega
theorem Room.units {k:Nat}{A:Around}(r:Room k A):A.units+64<cLine:=by have:=r.un;omega
def aE5:TA:=λ_ H Q=>Q [] H
def Yz (ta:TE)(q:TA):TA:=fun σ H Q=>ta σ H λx H1=>q σ H1 λxs H2=>Q (x :: xs) H2
section
variable {X:Cx}{e:Expr}{es:List Expr}{te:TE}{t:TA}{pos:Pos}
theorem A2:PA X [] aE5:=λ_ _ _ _ H Q I h=>A3S ⟨[],H,I,.nil,h⟩
theorem A1 (ha:PE X e te)(J:PA X es t)(O:starEach (e :: es) X.env=(false,eval e X.env) :: starEach es X.env:=by ac_nf):PA X (e :: es) (Yz te t):=by intro pos pins s σ H Q I h;rw[O];show wpAny _ _ (spliced ((false,eval e X.env) :: backTo pos (starEach es X.env))) _ _ s;refine A2Y (thn (ha pins s σ H _ I h) λu s1 ⟨x,H1,q,Z,U⟩=>?_);exact thn (J pos pins s1 σ H1 _ q U) λus s2 ⟨xs,H2,F,r2,Y⟩=>⟨x :: xs,H2,F,.cons Z r2,Y⟩
def aW8 (t:TA):TE:=fun σ H Q=>t σ H λxs H1=>xs.length<=sizeLine/\∀ p,H1 p=none->Q (.ref p) (upd H1 p (.tup xs))
def aV8 (t:TA):TE:=fun σ H Q=>t σ H λxs H1=>xs.length<=sizeLine/\∀ p,H1 p=none->Q (.ref p) (upd H1 p (.lst xs))
theorem B6 {x1}(h:PA X es t):PE X (.Tuple es x1 pos) (aW8 t):=by intro pins s σ H Q I O;refine wpAny_Tuple_spliced (thn (h pos pins s σ H _ I O) λus F ⟨xs,H1,J,r,z,q⟩=>⟨by rw[<- r.length];exact z,?_⟩);have hf:H1 F.heap.objs.size=none:=J.hok.fresh (A08 _);refine⟨.ref F.heap.objs.size,upd H1 F.heap.objs.size (.tup xs),J.laid (t':=F.toks) (λb u e=>A02 _ e) (A08 _) ?_,rfl,q _ hf⟩;exact⟨z,us,r,⟨_,A0J _ rfl,rfl,⟨_,rfl⟩,rfl⟩⟩
theorem Bv (h:PA X es t):PE X (.List es pos) (aV8 t):=by intro pins s σ H Q I O;refine wpAny_List_spliced (thn (h pos pins s σ H _ I O) λus F ⟨xs,H1,J,r,z,q⟩=>⟨by rw[<- r.length];exact z,?_⟩);have hf:H1 F.heap.objs.size=none:=J.hok.fresh (A08 _);refine⟨.ref F.heap.objs.size,upd H1 F.heap.objs.size (.lst xs),J.laid (t':=F.toks) (λb u e=>A02 _ e) (A08 _) ?_,rfl,q _ hf⟩;exact⟨z,us,0,r,A0J _ rfl⟩
end
abbrev Sp:=List V->Hp->VK->XK->Prop
abbrev CXT:=List Env->Hp->Shared->XK->Value->Shared->Prop
structure Env0 (P:Program)(w:World)(K:W.Frag)(mg:Str->Option Value)(base:Heap)(A:Around)(outer:List Env)(s:Shared)(H:Hp):Prop where
 frames:A.frames=some outer
 mod:Mod K mg base
 bs:∀ b o,base.get? b=some o->s.heap.get? b=some o/\H b=none
 bsz:base.objs.size<=s.heap.objs.size
 funs:s.heap.FunFrames base outer
 frf:∀ b∈frs outer,H b=none
 hok:HOk P w H s.heap
 bare:AllBare s.gens
def CE (outer:List Env)(P:Program)(w:World)(H:Hp)(s:Shared)(Q:VK)(u:Value)(s':Shared):Prop:=
 ∃ v H',s'.os=s.os/\AllBare s'.gens/\Un (frs outer) [] H H' s.heap s'.heap/\HOk P w H' s'.heap/\RelV v u/\Q v H'
def CR (CX:CXT)(outer:List Env)(P:Program)(w:World)(H:Hp)(s:Shared)(Q:VK)(E:XK)(r:Result)(s':Shared):Prop:=
 match r with
 |.ok (.ret u)=>CE outer P w H s Q u s'
 |.ok _=>False
 |.error e=>CX outer H s E e s'
structure FnOk (P:Program)(w:World)(K:W.Frag)(mg:Str->Option Value)(base:Heap)(CX:CXT)(k:Nat)(f:Addr)(fd:FuncData)(ps:List Str)(sp:Sp):Prop where
 len:∀ vs H Q E,sp vs H Q E->vs.length=ps.length
 run:∀(A:Around) (outer:List Env) (s:Shared) (H:Hp) (args:Args) (us:List Value) (vs:List V) (Q:VK) (E:XK),Room k A->Env0 P w K mg base A outer s H->BindsTo s fd args (ps.zip us)->Vals vs us->sp vs H Q E ->
  codeAny (model P w) A (.call (.ref f) args) (CR CX outer P w H s Q E) s
theorem Env0.make {P:Program}{w:World}{K:W.Frag}{mg:Str->Option Value}{base:Heap}{A:Around}{outer:List Env}{s:Shared}{H:Hp}(e:Env0 P w K mg base A outer s H)(C:Addr)(us:List Value)(q:List (Str×Value)) :
  Env0 P w K mg base (A.under (.builtin "type.__call__" ⟨.ref C :: us,q⟩)) outer s H:=⟨by first | exact e.frames | (simpa[Around.under,Code.envs,Code.isFrame,pushEnvs] using e.frames),e.mod,e.bs,e.bsz,e.funs,e.frf,e.hok,e.bare⟩
section
variable {X:Cx}{pins:List (Addr×Obj)}{σ:St}{H:Hp}{s s':Shared}
theorem Inv.env0 (I:Inv X pins σ H s):Env0 X.prog X.w X.K X.mg X.base X.A X.stack s H:=
 ⟨I.ok.frames,I.ok.mod,I.bs,A0O I.ok.bsz I.sz,I.stack,I.stkFree,I.hok,I.bare⟩
theorem Inv.after {Q:VK}{u:Value}(I:Inv X pins σ H s)(h:CE X.stack X.prog X.w H s Q u s'):EP X pins σ Q u s':=by obtain⟨v,H',os,bare,un,hok,r,q⟩:=h;obtain⟨F,g,d,t,J⟩:=s';obtain rfl:J=s.os:=os;exact⟨v,H',I.call (h':=F) (g':=g) (d':=d) (t':=t) (ch:=[]) un hok bare (λb z=>absurd z (by simp)),r,q⟩
end
def az5 (sp:Sp)(dvs:List V)(E:XK)(t:TA):TE:=fun σ H Q=>t σ H λvs H1=>sp (vs++dvs) H1 Q E
def aT4 (C:Addr)(m:Str)(sp:Sp)(dvs:List V)(E:XK)(ta:TE)(t:TA):TE:=fun σ H Q=>ta σ H λx H1=>∃ a dx fs,x = .ref a/\H1 a=some (.ins C dx fs)/\fs.lookup m=none /\
 t σ H1 λvs H2=>sp (x :: (vs++dvs)) H2 Q E
def aT8 (C:Addr)(sp:Sp)(dvs:List V)(E:XK)(t:TA):TE:=fun σ H Q=>t σ H λvs H1=>∀ x dx,H1 x=none->H1 dx=none->dx≠x ->
 sp (.ref x :: (vs++dvs)) (upd (upd H1 dx (.own x)) x (.ins C dx [])) (λv H2=>v = .non/\Q (.ref x) H2) E
def Binds (K:W.Frag)(fd:FuncData)(ps:List Str)(ds:List Value):Prop:=
 ∀(s:Shared) (us:List Value),K.In s.heap->(us++ds).length=ps.length->BindsTo s fd ⟨us,[]⟩ (ps.zip (us++ds))
theorem Binds.all {K:W.Frag}{fd:FuncData}{ps:List Str}(h:∀ us:List Value,us.length=ps.length->bindArgs fd ⟨us,[]⟩=pure (ps.zip us)):Binds K fd ps []:=λs us _ q=>by rw[A2C] at q ⊢;exact .of_eq (h us q)
def Qx (CX:CXT)(X:Cx)(E:XK):Prop:=∀(pins:List (Addr×Obj)) (σ:St) (H:Hp) (s:Shared) (e:Value) (s':Shared),Inv X pins σ H s->CX X.stack H s E e s'->X.xe e s'
section
variable {X:Cx}{CX:CXT}{k:Nat}{f C:Addr}{fd:FuncData}{ps:List Str}{sp:Sp}{dvs:List V}{ds:List Value}{E:XK}{x m:Str}{p pos apos:Pos}{e o:Expr}{es:List Expr}{ta:TE}{t:TA}
theorem ar9 {pins:List (Addr×Obj)}{σ:St}{H:Hp}{s:Shared}{Q:VK}{us:List Value}{vs:List V}(F:FnOk X.prog X.w X.K X.mg X.base CX k f fd ps sp)(U:Room k X.A)(hb:Binds X.K fd ps ds)(hd:Vals dvs ds)(Y:Qx CX X E)
  (I:Inv X pins σ H s) (r:Vals vs us) (h:sp (vs++dvs) H Q E):wpAny (model X.prog X.w) X.A (call (.ref f) us) (EP X pins σ Q) X.xe s:=by
 have J:Vals (vs++dvs) (us++ds):=r.append hd;have O:(us++ds).length=ps.length:=by rw[<- J.length];exact F.len _ _ _ _ h
 refine wpAny_call (codeAny_mono (F.run X.A X.stack s H ⟨us,[]⟩ (us++ds) (vs++dvs) Q E U I.env0 (hb s us I.kIn O) J h) λr s' q=>?_)
 cases r with
 |error e=>exact Y pins σ H s e s' I q
 |ok fl=>
   cases fl with
   |ret u=>exact I.after q
   |next=>exact False.elim q
   |brk=>exact False.elim q
   |cont=>exact False.elim q
theorem aB4 (F:FnOk X.prog X.w X.K X.mg X.base CX k f fd ps sp)(hr:Room k X.A)(U:Gl X x)(hm:X.mg x=some (.ref f))(Y:W.keepIn X.K (.ref f)=true)(hb:Binds X.K fd ps ds)(hd:Vals dvs ds)(hx:Qx CX X E)
  (ha:PA X (e :: es) t) (O:(x==("__debug__":Str))=false:=by decide) (he:starEach (e :: es) X.env=(false,eval e X.env) :: starEach es X.env:=by ac_nf) (Z:(backTo pos (starEach es X.env)).any (·.1)=false:=by ac_nf) :
  PE X (.Call (.Name x p) (e :: es) [] pos) (az5 sp dvs E t):=by
 intro pins s σ H Q I h;refine A24 (Wy I U hm ?_ O);refine A5D (h₀:=X.base) I.ok.mod.kin Y (thn (ha pos pins s σ H _ I h) λus s1 ⟨vs,H1,J,r,q⟩=>⟨J.kIn,?_⟩) he Z;exact ar9 F hr hb hd hx J r q
theorem aC6 {pl:Sem Bool}(he:PE X o ta)(c:Cls X.K C)(hm:aQ4 X.K C m f)(F:FnOk X.prog X.w X.K X.mg X.base CX k f fd ps sp)(Z:Room k X.A)(hb:Binds X.K fd ps ds)(hd:Vals dvs ds)(hx:Qx CX X E)(ha:PA X (e :: es) t)
  (a0:starEach (e :: es) X.env=(false,eval e X.env) :: starEach es X.env:=by ac_nf) (Y:(backTo pos (starEach es X.env)).any (·.1)=false:=by ac_nf)
  (ht:eval (.Call (.Attribute o m apos) (e :: es) [] pos) X.env=(do
   let ov <- eval o X.env
   standAt apos.atName
   let (f,first) <- holding [ov] (getMethod ov m pl)
   callWith pos f first (backTo pos (starEach (e :: es) X.env)) (backToKw pos (keywordEach [] X.env))):=by ac_nf) :
  PE X (.Call (.Attribute o m apos) (e :: es) [] pos) (aT4 C m sp dvs E ta t):=by
 intro pins s σ H Q I h;refine W.methodCall_KW (pl:=pl) (thn (he pins s σ H _ I h) λu s1 ⟨x,H1,J,rx,a,dx,fs,ex,U,l,q⟩=>?_) ht;subst ex;obtain rfl:u=Value.ref a:=rx;refine Z4 J U c hm l ?_;refine A5D (first:=[.ref a]) (h₀:=X.base) I.ok.mod.kin hm.kp (thn (ha pos pins s1 σ H1 _ J q) λus s2 ⟨vs,H2,O,r,q2⟩=>⟨O.kIn,?_⟩) a0 Y
 exact ar9 (us:=.ref a :: us) (vs:=.ref a :: vs) F Z hb hd hx O (.cons rfl r) q2
structure Mk (K:W.Frag)(C f:Addr):Prop where
 makes:W.makesIn K C=true
 init:W.findIn K (.ref C) "__init__" = some (some (.ref f))
 fn:W.isFn K (.ref f)=true
 kp:W.keepIn K (.ref C)=true
theorem al2 {pins:List (Addr×Obj)}{σ:St}{H:Hp}{s:Shared}{Q:VK}{us:List Value}{vs:List V}(M:Mk X.K C f)(F:FnOk X.prog X.w X.K X.mg X.base CX k f fd ps sp)(hr:Room (k+1) X.A)(hb:Binds X.K fd ps ds)(hd:Vals dvs ds)
  (hx:Qx CX X E) (I:Inv X pins σ H s) (r:Vals vs us)
  (h:∀ x dx,H x=none->H dx=none->dx≠x->sp (.ref x :: (vs++dvs)) (upd (upd H dx (.own x)) x (.ins C dx [])) (λv H2=>v = .non/\Q (.ref x) H2) E) :
  wpAny (model X.prog X.w) X.A (call (.ref C) us) (EP X pins σ Q) X.xe s:=by
 have O:=h (s.heap.objs.size+1) s.heap.objs.size (I.hok.fresh (A42 _)) (I.hok.fresh (A08 _)) (A11 (A2V _));have J:=Inv.made (C:=C) I;have U:Vals (V.ref (s.heap.objs.size+1) :: (vs++dvs)) (Value.ref (s.heap.objs.size+1) :: (us++ds)):=.cons rfl (r.append hd)
 have hl:(Value.ref (s.heap.objs.size+1) :: us++ds).length=ps.length:=by have e:=U.length;rw[F.len _ _ _ _ O] at e;exact e.symm
 refine wpAny_call (ap0 (f:=f) I.kIn M.makes M.init (A35.mp M.fn) (codeAny_mono (F.run _ X.stack _ _ ⟨Value.ref (s.heap.objs.size+1) :: us,[]⟩ (Value.ref (s.heap.objs.size+1) :: (us++ds)) _ _ E (hr.make C us [])
  (J.env0.make C us []) (hb _ (Value.ref (s.heap.objs.size+1) :: us) J.kIn hl) U O) λr s' q=>?_))
 cases r with
 |error e=>exact hx pins σ _ _ e s' J q
 |ok fl=>
   cases fl with
   |ret u=>obtain⟨v,H',Y,rv,Z,q3⟩:=J.after q;subst Z;exact⟨rv,⟨V.ref (s.heap.objs.size+1),H',Y,rfl,q3⟩⟩
   |next=>exact False.elim q
   |brk=>exact False.elim q
   |cont=>exact False.elim q
theorem ax9 (M:Mk X.K C f)(F:FnOk X.prog X.w X.K X.mg X.base CX k f fd ps sp)(Z:Room (k+1) X.A)(U:Gl X x)(hm:X.mg x=some (.ref C))(hb:Binds X.K fd ps ds)(hd:Vals dvs ds)(hx:Qx CX X E)
  (ha:PA X (e :: es) t) (O:(x==("__debug__":Str))=false:=by decide) (he:starEach (e :: es) X.env=(false,eval e X.env) :: starEach es X.env:=by ac_nf) (Y:(backTo pos (starEach es X.env)).any (·.1)=false:=by ac_nf) :
  PE X (.Call (.Name x p) (e :: es) [] pos) (aT8 C sp dvs E t):=by
 intro pins s σ H Q I h;refine A24 (Wy I U hm ?_ O);refine A5D (h₀:=X.base) I.ok.mod.kin M.kp (thn (ha pos pins s σ H _ I h) λus s1 ⟨vs,H1,J,r,q⟩=>⟨J.kIn,?_⟩) he Y;exact al2 M F Z hb hd hx J r q
end
section
variable {X:Cx}{CX:CXT}{k:Nat}{f C:Addr}{fd:FuncData}{ps ks:List Str}{sp:Sp}{E:XK}{x m:Str}{p pos apos kpos:Pos}{e o:Expr}{es:List Expr}{kws:List Keyword}{te ta:TE}{t tk:TA}{nm:Option Str}
variable {g:List Value->List Value->List Value}{gV:List V->List V->List V}
end
structure Aj (N P:List Str)(sc:Scope):Prop where
 kind:sc.kind = .function
 co:sc.isCoroutine=false
 gen:sc.isGenerator=false
 nd:N.Nodup
 pre:N.take P.length=P
 par:∀ x∈P,sc.names.lookup x=some .local\/sc.names.lookup x=some .cell
 nofree:∀ y∈sc.names,y.2 ≠ .free
theorem Tr {kindOf:Str->Option NameKind}{x:Str}:∀ {binds:List (Str×Value)} {m:Str->Option Value},(∀ v,(x,v)∉binds)->bindL kindOf binds m x=m x
 | [],_,_=>rfl
 | (n,v) :: r,m,h=>by
   unfold bindL;rw[Tr λw q=>h w (A09 _ q)]
   split
   . have:x≠n:=by rintro rfl;exact h v A0D
     simp[this]
   rfl
theorem Uu {kindOf:Str->Option NameKind}{x:Str}:∀ {binds:List (Str×Value)} {m:Str->Option Value},(∀ v,(x,v)∉binds)->bindC kindOf binds m x=m x
 | [],_,_=>rfl
 | (n,v) :: r,m,h=>by
   unfold bindC;rw[Uu λw q=>h w (A09 _ q)]
   split
   . rfl
   have:x≠n:=by rintro rfl;exact h v A0D
   simp[this]
theorem Vy {kindOf:Str->Option NameKind} {x:Str} {v:Value}:∀ {P:List Str} {vs:List Value} {i:Nat} {m:Str->Option Value},P.Nodup->P[i]? = some x->vs[i]? = some v->kindOf x=some .local ->
  bindL kindOf (P.zip vs) m x=some v
 | [],_,_,_,_,h,_,_=>by simp at h
 |_ :: _,[],_,_,_,_,h,_=>by simp at h
 |p :: P,w :: vs,0,m,nd,h1,h2,hk=>by simp at h1 h2;subst h1;subst h2;show bindL kindOf ((p,w) :: P.zip vs) m p=_;unfold bindL;rw[Tr λv q=>(A0Y.mp nd).1 (A43 q).1,A0X hk];simp
 |p :: P,w :: vs,i+1,m,nd,h1,h2,hk=>by show bindL kindOf ((p,w) :: P.zip vs) m x=_;unfold bindL;exact Vy (i:=i) (List.nodup_cons.mp nd).2 (by simpa using h1) (by simpa using h2) hk
theorem Tf {kindOf:Str->Option NameKind} {x:Str} {v:Value}:∀ {P:List Str} {vs:List Value} {i:Nat} {m:Str->Option Value},P.Nodup->P[i]? = some x->vs[i]? = some v->kindOf x≠some .local ->
  bindC kindOf (P.zip vs) m x=some v
 | [],_,_,_,_,h,_,_=>by simp at h
 |_ :: _,[],_,_,_,_,h,_=>by simp at h
 |p :: P,w :: vs,0,m,nd,h1,h2,hk=>by simp at h1 h2;subst h1;subst h2;show bindC kindOf ((p,w) :: P.zip vs) m p=_;unfold bindC;rw[Uu λv q=>(A0Y.mp nd).1 (A43 q).1,A0P hk];simp
 |p :: P,w :: vs,i+1,m,nd,h1,h2,hk=>by show bindC kindOf ((p,w) :: P.zip vs) m x=_;unfold bindC;exact Tf (i:=i) (List.nodup_cons.mp nd).2 (by simpa using h1) (by simpa using h2) hk
def start (N:List Str)(vs:List V):St:=vs.map some++List.replicate (N.length-vs.length) none
def az2 (CX:CXT)(P:Program)(w:World)(K:W.Frag)(mg:Str->Option Value)(base:Heap)(N:List Str)(qual:Str)(scope:Scope)(f:Addr)(cd:Value)(A:Around)(outer:List Env)(s:Shared)(H:Hp)(E:XK):Cx where
 prog:=P
 w:=w
 K:=K
 mg:=mg
 base:=base
 A:=A.deeper (envOfC qual scope s.heap.objs.size f cd)
 N:=N
 s₀:=s
 H₀:=H
 env:=envOfC qual scope s.heap.objs.size f cd
 outer:=outer
 stack:=envOfC qual scope s.heap.objs.size f cd :: outer
 ex:=[]
 calm:=true
 fn:=λ_=>true
 pn:=[]
 xe:=λe s'=>wpAny (model P w) (A.deeper (envOfC qual scope s.heap.objs.size f cd)) (leaving (envOfC qual scope s.heap.objs.size f cd) e) (λ_ q=>CX outer H s E e q) (λF q=>CX outer H s E F q) s'
theorem Y4 {sc:Scope}{n:Nat}{x:Str}(h:sc.names.lookup x=some .cell):∃ c,(cellsFrom n sc.names []).lookup x=some c:=by have q:=W.cellsFrom_some sc.names n [] (.inl h);exact Option.isSome_iff_exists.mp q
theorem ab5 {CX:CXT}{P:Program}{w:World}{K:W.Frag}{mg:Str->Option Value}{base:Heap}{N ps:List Str}{qual:Str}{scope:Scope}{f:Addr}{cd:Value}{A:Around}{outer:List Env}{s Z:Shared}{H:Hp}{E:XK}{us:List Value}{vs:List V}
  (S:Aj N ps scope) (hd:A.handled=none) (F:Env0 P w K mg base A outer s H) (hl:vs.length=ps.length) (r:Vals vs us)
  (x:InCallC s s.heap.objs.size (bindL (envOfC qual scope s.heap.objs.size f cd).kindOf (ps.zip us) λ_=>none) (cellsFrom (s.heap.objs.size+1) scope.names []) (bindC (envOfC qual scope s.heap.objs.size f cd).kindOf (ps.zip us) λ_=>none) Z) :
  Inv (az2 CX P w K mg base N qual scope f cd A outer s H E) [] (start N vs) H Z:=by
 have a0:ps.length<=N.length:=by have:=congrArg List.length S.pre;rw[A10] at this;omega
 obtain⟨h1,tk,rfl,U⟩:=x.done;have O:∀ b:Addr,b∉(az2 CX P w K mg base N qual scope f cd A outer s H E).ex:=λb z=>absurd (show b∈([]:List Addr) from z) (by simp)
 refine⟨⟨F.mod,S.kind,rfl,rfl,A08 _,λy z c h1 h2=>?_,λy J=>?_,λy c _ h=>?_,λ_=>hd,Around.frames_deeper F.frames,.inr ⟨rfl,rfl⟩,λb z=>absurd z (O b),F.bs,F.bsz,λb _ _=>O b,λb z=>absurd z (O b),F.funs,F.frf⟩,
  rfl,F.bare,Un.kept U,⟨_,x.toInCall.ns,λi y v h1 h2 h3=>?_⟩,λy c h=>⟨_,x.cell y c h⟩,F.hok.fresh (Nat.le_refl _),λy c h=>?_,λp hp=>absurd (show p∈([]:List (Addr×Obj)) from hp) (by simp),F.hok.kept U,?_⟩
 . exact name_of_addr x.apart (A3E h1) (A3E h2)
 . have J:scope.names.lookup y=some .cell\/scope.names.lookup y=some .free:=J;rcases J with J|J
   . exact Y4 J
   exact absurd rfl (S.nofree _ (A3E J))
 . exact A2H (x.above y c (A3E h))
 . have hi:i<vs.length:=by
    unfold start at h2
    by_cases hi:i<vs.length
    . exact hi
    rw[List.getElem?_append_right (by simpa using hi)] at h2;rw[A4K] at h2
    split at h2<;>cases h2
   have ha:vs[i]? = some v:=by
    unfold start at h2;rw[List.getElem?_append_left (by simpa using hi),List.getElem?_map] at h2
    cases e:vs[i]? with
    |none=>rw[e] at h2;cases h2
    |some a=>rw[e] at h2;cases h2;rfl
   obtain⟨u,hu,rv⟩:=r.get ha
   have hp:ps[i]? = some y:=by rw[<- S.pre,List.getElem?_take_of_lt ∅];exact h1
   have Y:ps.Nodup:=by rw[<- S.pre];exact S.nd.sublist (A4F _ _)
   refine⟨u,rv,?_⟩;rcases S.par y (A04 hp) with k|k
   . exact .inl ⟨k,Vy Y hp hu k⟩
   obtain⟨c,e⟩:=Y4 (n:=s.heap.objs.size+1) k;refine .inr ⟨.inl k,c,e,?_⟩;have q:=x.cell y c e;rw[Tf Y hp hu (by show scope.names.lookup y≠_;rw[k];decide)] at q;exact q
 . exact F.hok.fresh (A2H (x.above y c (A3E h)))
 unfold start;show _=N.length;rw[A06,A01,A2I];omega
theorem aO1 {CX:CXT}{P:Program}{w:World}{K:W.Frag}{mg:Str->Option Value}{base:Heap}{k:Nat}{f:Addr}{name qual:Str}{a2:Arguments}{Y:List Stmt}{scope:Scope}{dV kV a0 pm F ct oc:Value}{an od:Option Addr}
  {osl:Array (Option Value)} {N ps:List Str} {sp:Sp} (lk:K.lookup f=some ⟨oc,od,.func (W.fnOf name qual a2 Y scope dV kV a0 pm an F ct),osl⟩) (a4:W.codeIn K F qual=true) (S:Aj N ps scope)
  (len:∀ vs H Q E,sp vs H Q E->vs.length=ps.length)
  (a3:∀(A:Around) (outer:List Env) (s:Shared) (H:Hp) (vs:List V) (Q:VK) (E:XK),Room k (A.deeper (envOfC qual scope s.heap.objs.size f F))->sp vs H Q E ->
   ∃ t,PSs (az2 CX P w K mg base N qual scope f F A outer s H E) Y t/\t {nx:=λ_ H'=>Q .non H',rt:=Q} (start N vs) H) :
  FnOk P w K mg base CX (k+1) f (W.fnOf name qual a2 Y scope dV kV a0 pm an F ct) ps sp:=by
 refine⟨len,λA outer s H args us vs Q E Z U hb r a1=>?_⟩;have hl:=len _ _ _ _ a1;have KX:K.In s.heap:=U.mod.kin.keeps λb o e=>(U.bs b o e).1;have a6:s.heap.NoLimit:=U.mod.nolimit.keeps λb o e=>(U.bs b o e).1
 have a5:∀ y∈ps.zip us,scope.names.lookup y.1=some .local\/(scope.names.lookup y.1=some .cell/\((cellsFrom (s.heap.objs.size+1) scope.names []).lookup y.1).isSome=true):=λ⟨n,v⟩ hy=>by
  rcases S.par n (A43 hy).1 with q|q
  . exact .inl q
  exact .inr ⟨q,W.cellsFrom_some _ _ _ (.inl q)⟩
 refine codeAny_call_function Z.depth (KX _ _ lk) rfl S.co S.gen rfl (W.codeRec_of KX a4) (hb _ _ _ _ ?_);refine wpAny_newFunctionEnv_cells S.kind a5 λenv he s1 x=>?_;subst he;refine⟨a6.keeps x.toInCall.keep,codeAny_func ?_⟩;obtain⟨t,ht,hq⟩:=a3 A outer s H vs Q E (Z.deeper _) a1;have I:Inv (az2 CX P w K mg base N qual scope f F A outer s H E) [] (start N vs) H s1:=ab5 S Z.hd U hl r x;refine A2A (ht [] s1 (start N vs) H _ I hq) (λfl s' O=>?_) λe s' O=>O
 have fin:∀ {σ':St} {H':Hp} {v:V} {u:Value},Inv (az2 CX P w K mg base N qual scope f F A outer s H E) [] σ' H' s'->RelV v u->Q v H'->CE outer P w H s Q u s':=
  fun {σ' H' v u} J rv q=>⟨v,H',J.os,J.bare,J.base,J.hok,rv,q⟩
 cases fl with
 |ret u=>obtain⟨v,σ',H',J,rv,q⟩:=O;exact fin J rv q
 |next=>obtain⟨σ',H',J,q⟩:=O;exact fin (v:=V.non) (u:=Value.none) J rfl q
 |brk=>obtain⟨_,_,_,q⟩:=O;exact False.elim q
 |cont=>obtain⟨_,_,_,q⟩:=O;exact False.elim q
section
variable {X:Cx}{x:Str}{p pos:Pos}{e:Expr}{es:List Expr}{t:TA}{id T:String}{r:List V->Hp->VK->Prop}
def tCB (r:List V->Hp->VK->Prop)(t:TA):TE:=fun σ H Q=>t σ H λvs H1=>r vs H1 Q
theorem Aq (F:CallR X (.builtin id) r)(O:Gl X x)(hm:X.mg x=none)(Y:bootBuiltins x=some (.builtin id))(ha:PA X (e :: es) t)(hn:x ≠ "__name__":=by decide)(J:(x==("__debug__":Str))=false:=by decide)
  (he:starEach (e :: es) X.env=(false,eval e X.env) :: starEach es X.env:=by ac_nf) (U:(backTo pos (starEach es X.env)).any (·.1)=false:=by ac_nf):PE X (.Call (.Name x p) (e :: es) [] pos) (tCB r t):=by
 intro pins s σ H Q I h;refine A24 (K3 I O hm Y ?_ hn J);exact A3U (thn (ha pos pins s σ H _ I h) λus s1 ⟨vs,H1,q,r1,Z⟩=>F pins s1 σ H1 vs us Q q r1 Z) he U
theorem B1 (F:CallR X (.type T) r)(O:Gl X x)(hm:X.mg x=none)(Y:bootBuiltins x=some (.type T))(ha:PA X (e :: es) t)(hn:x ≠ "__name__":=by decide)(J:(x==("__debug__":Str))=false:=by decide)
  (he:starEach (e :: es) X.env=(false,eval e X.env) :: starEach es X.env:=by ac_nf) (U:(backTo pos (starEach es X.env)).any (·.1)=false:=by ac_nf):PE X (.Call (.Name x p) (e :: es) [] pos) (tCB r t):=by
 intro pins s σ H Q I h;refine A24 (K3 I O hm Y ?_ hn J);exact A1W (thn (ha pos pins s σ H _ I h) λus s1 ⟨vs,H1,q,r1,Z⟩=>F pins s1 σ H1 vs us Q q r1 Z) he U
end
end L2
namespace HT
open PySem PyProof.Rows
section
open PySem.SeqAt
open PySem.AutoSeq1 (wpAny_loadPart')
open PySem.MeetsSeq PySem.MeetsSeq2 PySem.MeetsSeq3
end
section
variable {prog:Program}{w:World}{A:Around}{E:Value->Shared->Prop}{s:Shared}
theorem cat_tup {t b:Addr}{vs ws:List Value}{Q:Value->Shared->Prop}(ht:IsTup s.heap t vs.toArray)(hb:IsTup s.heap b ws.toArray)(hv:vs≠[])
  (h1:ws=[]->Q (.ref t) s) (h2:ws≠[]->Q (.ref s.heap.objs.size) {s with heap:=s.heap.push {cls:=.type "tuple",data:=.seq (vs++ws).toArray}})
  (hsz:vs.length+ws.length<=sizeLine):wpAny (model prog w) A (binaryOp .Add (.ref t) (.ref b)) Q E s:=by
 obtain⟨⟨cls,U,data,sl⟩,q,Z,n,hd⟩:=id ht;obtain⟨⟨a3,Y,data2,a2⟩,J,a0,n2,a1⟩:=id hb;simp only at Z hd a0 a1;subst Z hd a0 a1;have e:vs.toArray++ws.toArray=(vs++ws).toArray:=by simp
 by_cases O:ws=[]
 . exact concat_meets ⟨_,q,rfl⟩ ⟨_,J,rfl⟩ noFill_tuple_add seq_tuple_add PySem.F.slot_tuple_add PySem.F.entry_tuple_add (PySem.F.args_tuple_add_2 _ _)
    (tuple_addW1 t b vs.toArray ws.toArray n n2 U Y sl a2 (by simpa using hv) (by simp[O])) ⟨q,J,h1 O⟩
 refine concat_meets ⟨_,q,rfl⟩ ⟨_,J,rfl⟩ noFill_tuple_add seq_tuple_add PySem.F.slot_tuple_add PySem.F.entry_tuple_add (PySem.F.args_tuple_add_2 _ _)
  (tuple_addW2 t b vs.toArray ws.toArray n n2 U Y sl a2 (by simpa using hv) (by simpa using O) (by rw[List.size_toArray,List.size_toArray];exact hsz)) ⟨q,J,?_⟩
 rw[e];exact h2 O
def sIx (n d:Nat):Option Int->Nat
 |none=>d
 |some v=>if v<0 then(v+(n:Int)).toNat else min v.toNat n
theorem sIx_none (n d:Nat):sIx n d none=d:=rfl
theorem sIx_nat (n d k:Nat):sIx n d (some (k:Int))=min k n:=by
 show(if(k:Int)<0 then((k:Int)+(n:Int)).toNat else min (k:Int).toNat n)=min k n
 rw [A0P ∅,A4G]
theorem aG0 (n d:Nat)(hd:d<=n)(o:Option Int):sIx n d o<=n:=by
 cases o with
 |none=>exact hd
 |some v=>
   show(if v<0 then(v+(n:Int)).toNat else min v.toNat n)<=n
   by_cases q:v<0
   . rw[A0X q];omega
   rw[A0P q];exact A3X _ _
theorem a80 (v:Int)(n d:Nat):(if v<0 then max (v+(n:Int)) 0 else min v (n:Int))=((sIx n d (some v):Nat):Int):=by
 show(if v<0 then max (v+(n:Int)) 0 else min v (n:Int))=(((if v<0 then(v+(n:Int)).toNat else min v.toNat n):Nat):Int)
 by_cases q:v<0
 . simp only[if_pos q];omega
 simp only[if_neg q];omega
theorem Zr (lo hi:Option Int)(n:Nat):Builtin.Slice.sliceAdjust lo hi 1 (n:Int)=(((sIx n 0 lo:Nat):Int),((sIx n n hi:Nat):Int)):=by
 have h1:¬ ((1:Int)<0):=by omega
 unfold Builtin.Slice.sliceAdjust;simp only[h1,if_false];refine Prod.ext ?_ ?_
 . cases lo with
   |none=>rfl
   |some v=>exact a80 v n 0
 cases hi with
 |none=>rfl
 |some v=>exact a80 v n n
theorem Zf (i j:Nat):Builtin.Slice.slicePlaces (i:Int) (j:Int) 1=j-i:=by
 unfold Builtin.Slice.slicePlaces;have h1:(1:Int)>0:=by omega
 simp only[h1,if_true,Int.ediv_one]
 split<;>omega
theorem slicePart_ {v:Value}{o:Option Int}{Q:Option Int->Shared->Prop}(p:IsPart v o)(h:Q o s):wpAny (model prog w) A (Builtin.Slice.slicePartIndex v) Q E s:=by
 cases p with
 |none=>exact slicePart_none h
 |int i t=>exact slicePart_int h
theorem sliceApplied_gen {U:Addr}{J O:Value}{lo hi:Option Int}{n:Nat}{Q:Int×Int×Nat->Shared->Prop}(Y:s.heap.IsSliceOf U J O .none)(pl:IsPart J lo)(Z:IsPart O hi)
  (h:Q (((sIx n 0 lo:Nat):Int),1,sIx n n hi-sIx n 0 lo) s):wpAny (model prog w) A (Builtin.Slice.sliceApplied (.ref U) (pure (n:Int))) Q E s:=by
 obtain⟨os,F,a0,q⟩:=id Y;unfold Builtin.Slice.sliceApplied Builtin.Slice.sliceFields;refine A05 (A05 (A32 F q (x:=J) rfl (A05 (A32 F q (x:=O) rfl (A05 (A32 F q (x:=.none) rfl (A0C ?_)))))));refine A05 (slicePart_none ?_);show wpAny _ _ (if((1:Int)==0)=true then _ else _) _ _ s
 rw[A0P nofun];refine A05 (slicePart_ pl (A05 (slicePart_ Z (A05 (A0C ?_)))));show wpAny _ _ (match Builtin.Slice.sliceAdjust lo hi 1 (n:Int) with | (lo,hi)=>pure (lo,(1:Int),Builtin.Slice.slicePlaces lo hi 1)) _ _ s
 rw[Zr lo hi n];show wpAny _ _ (pure (((sIx n 0 lo:Nat):Int),(1:Int),Builtin.Slice.slicePlaces ((sIx n 0 lo:Nat):Int) ((sIx n n hi:Nat):Int) 1)) _ _ s;rw[Zf];exact A0C h
theorem an6 (xs:Array Value)(i k:Nat):((List.range k).filterMap λ(m:Nat)=>xs[((i:Int)+(m:Int)*1).toNat]?).toArray=((xs.toList.drop i).take k).toArray:=by
 have e:(λ(m:Nat)=>xs[((i:Int)+(m:Int)*1).toNat]?)=λm=>xs[i+m]?:=by
  funext m;have:((i:Int)+(m:Int)*1).toNat=i+m:=by omega
  rw[this]
 rw[e];have:=pick_run xs i k;rw[List.filterMap_map] at this;have q:((λx=>xs[x]?)∘λx=>i+x)=λm=>xs[i+m]?:=rfl;rw[q] at this;rw[this]
theorem getItem_tuple_cut {t O:Addr}{items:Array Value}{Y Z:Value}{lo hi:Option Int}{Q:Value->Shared->Prop}(F:IsTup s.heap t items)(U:s.heap.IsSliceOf O Y Z .none)(pl:IsPart Y lo)(pu:IsPart Z hi)
  (hw:¬ (sIx items.size 0 lo=0/\sIx items.size items.size hi=items.size))
  (h:Q (.ref s.heap.objs.size) {s with heap:=s.heap.push {cls:=.type "tuple",data:=.seq ((items.toList.drop (sIx items.size 0 lo)).take (sIx items.size items.size hi-sIx items.size 0 lo)).toArray}})
  (hsz:items.size<=sizeLine):wpAny (model prog w) A (getItem (.ref t) (.ref O)) Q E s:=by
 have J:sizeOk (.seq ((items.toList.drop (sIx items.size 0 lo)).take (sIx items.size items.size hi-sIx items.size 0 lo)).toArray):=by show((items.toList.drop (sIx items.size 0 lo)).take (sIx items.size items.size hi-sIx items.size 0 lo)).toArray.size<=sizeLine;rw[A0Q,A10,A1C,A57];omega
 have hj:sIx items.size items.size hi<=items.size:=aG0 _ _ (A08 _) hi;obtain⟨os,a3,a1,a4⟩:=id U;have a0:s.TypeIs (.ref O) "slice":=⟨os,a3,a1⟩;unfold getItem
 try with_reducible refine A3K ?_
 first | refine A05 (A0C ?_) | skip
 refine A05 (wpAny_sequenceKey F.typeIs nofun ?_)
 refine A05 (A2S (name:=Str.ofString "__getitem__") F.typeIs A1P
  (A3C A1P F.typeIs entry_tuple_getitem ?_ (args_tuple_getitem _ _)))
 show wpAny _ _ (Builtin.Tuple.tupleItemsOf (.ref t) >>= _) _ _ s;refine A05 (tupleItemsOf_ F ?_);refine A05 (A3H a0 ?_);rw[A0X nofun];refine A05 (sliceApplied_gen U pl pu ?_)
 have a2:¬ ((((sIx items.size 0 lo:Nat):Int)==0&&(1:Int)==1&&(sIx items.size items.size hi-sIx items.size 0 lo)==items.size)=true):=by intro q;rw[A15,A15] at q;have q1:((sIx items.size 0 lo:Nat):Int)=0:=eq_of_beq q.1.1;have q2:sIx items.size items.size hi-sIx items.size 0 lo=items.size:=eq_of_beq q.2;exact hw ⟨by omega,by omega⟩
 show wpAny _ _ (if(((sIx items.size 0 lo:Nat):Int)==0&&(1:Int)==1&&(sIx items.size items.size hi-sIx items.size 0 lo)==items.size)=true then _ else _) _ _ s
 rw[A0P a2,an6]
 first
  |exact A05 (m:=Builtin.Tuple.tupleExact _) (A20 (A0C ⟨_,rfl,A0C h⟩) J)
  |exact A05 (m:=Builtin.Tuple.tupleExact _) (A20 (A05 (A0C (A0C ⟨_,rfl,A0C h⟩))) J)
  |exact A05 (A05 (m:=Builtin.Tuple.tupleExact _) (A20 (A0C (A0C ⟨_,rfl,A0C h⟩)) J))
  |exact A05 (A05 (m:=Builtin.Tuple.tupleExact _) (A20 (A0C ⟨_,rfl,A0C h⟩) J))
end
end HT
namespace L2
open PySem PySem.Spec PyProof.Rows
abbrev TO:=St->Hp->(Option Int->Hp->Prop)->Prop
def PO (X:Cx)(e:Option Expr)(t:TO):Prop:=
 ∀(pins:List (Addr×Obj)) (s:Shared) (σ:St) (H:Hp) (Q:Option Int->Hp->Prop),Inv X pins σ H s->t σ H Q ->
  wpAny (model X.prog X.w) X.A (evalPart e X.env) (λu s'=>∃ o H',Inv X pins σ H' s'/\IsPart u o/\Q o H') X.xe s
def ae1:TO:=λ_ H Q=>Q none H
def aJ7 (t:TE):TO:=fun σ H Q=>t σ H λx H1=>∃ i,x = .int i/\Q (some i) H1
section
variable {X:Cx}{e:Expr}{te:TE}{lo hi:Option Expr}{tl th:TO}{pos p2:Pos}
theorem Gz:PO X none ae1:=by intro pins s σ H Q I h;rw[A5G];exact A0C ⟨none,H,I,.none,h⟩
theorem C9 (h:PE X e te):PO X (some e) (aJ7 te):=by intro pins s σ H Q I J;rw[evalPart_some];refine thn (h pins s σ H _ I J) λu Y ⟨x,H1,F,U,O⟩=>?_;obtain⟨i,rfl,q⟩:=O;obtain⟨t,rfl⟩:=U;exact⟨some i,H1,F,.int i t,q⟩
def SlR (X:Cx)(r:V->Option Int->Option Int->Hp->VK->Prop):Prop:=
 ∀(pins:List (Addr×Obj)) (s:Shared) (σ:St) (H:Hp) (x:V) (v vl vu:Value) (lo hi:Option Int) (sl:Addr) (Q:VK),Inv X pins σ H s->RelV x v->s.heap.IsSliceOf sl vl vu .none->IsPart vl lo->IsPart vu hi->r x lo hi H Q ->
  ∃ T id,typeLookup (.type T) "__getitem__" = pure (some (.builtin id))/\s.TypeIs v T/\wpAny (model X.prog X.w) X.A (getItem v (.ref sl)) (EP X pins σ Q) X.xe s
theorem SlR.or {r r':V->Option Int->Option Int->Hp->VK->Prop}(h:SlR X r)(h':SlR X r'):SlR X (λx lo hi H Q=>r x lo hi H Q\/r' x lo hi H Q):=by
 intro pins s σ H x v Y Z lo hi U Q I O F pl J q;rcases q with q|q
 . exact h pins s σ H x v Y Z lo hi U Q I O F pl J q
 exact h' pins s σ H x v Y Z lo hi U Q I O F pl J q
def tSl (r:V->Option Int->Option Int->Hp->VK->Prop)(te:TE)(tl th:TO):TE:=fun σ H Q=>te σ H λx H1=>tl σ H1 λl H2=>th σ H2 λu q=>r x l u q Q
theorem C8 {r:V->Option Int->Option Int->Hp->VK->Prop}(hr:SlR X r)(he:PE X e te)(hl:PO X lo tl)(hu:PO X hi th):PE X (.Subscript e (.Slice lo hi none p2) pos) (tSl r te tl th):=by
 intro pins s σ H Q I h;refine A52 (thn (he pins s σ H _ I h) λv s1 ⟨x,H1,Y,r1,q1⟩=>?_);refine wpAny_Slice (thn (hl pins s1 σ H1 _ Y q1) λJ s2 ⟨l,H2,Z,pl,q2⟩=>thn (hu pins s2 σ H2 _ Z q2) λO F ⟨u,U,I3,pu,q3⟩=>?_);rw[A5G];refine A0C ?_;have I4:Inv X pins σ U {F with heap:=F.heap.push {cls:=.type "slice",data:=.fields #[J,O,.none]}}:=I3.kept (t':=F.toks) λb ob q=>A02 _ q
 obtain⟨T,id,hT,ht,hg⟩:=hr pins {F with heap:=F.heap.push {cls:=.type "slice",data:=.fields #[J,O,.none]}} σ U x v J O l u F.heap.objs.size Q I4 r1 (A5H ..) pl pu q3
 show wpAny (model X.prog X.w) X.A (subscriptTail e (.Slice lo hi none p2) v (.ref F.heap.objs.size)) (EP X pins σ Q) X.xe {F with heap:=F.heap.push {cls:=.type "slice",data:=.fields #[J,O,.none]}}
 exact tail_any (ops:=[.ref F.heap.objs.size,v]) ht hT hg ⋯
def R6 (xs:List V)(lo hi:Option Int):List V:=(xs.drop (HT.sIx xs.length 0 lo)).take (HT.sIx xs.length xs.length hi-HT.sIx xs.length 0 lo)
theorem Nn (xs:List V)(lo hi:Option Int):(R6 xs lo hi).length<=xs.length:=by unfold R6;rw[A10,A1C];omega
def aV3 (K:W.Frag):V->Option Int->Option Int->Hp->VK->Prop:=λx lo hi H Q=>∃ a xs,x = .ref a/\SqT K H a xs /\
 ¬ (HT.sIx xs.length 0 lo=0/\HT.sIx xs.length xs.length hi=xs.length)/\∀ p,H p=none->Q (.ref p) (upd H p (.tup (R6 xs lo hi)))
theorem sl_tup:SlR X (aV3 X.K):=by
 intro pins s σ H x v vl vu lo hi sl Q I rx O pl pu h;obtain⟨a,xs,rfl,Y,U,q⟩:=h
 cases rx;obtain⟨Z,r,J,hz⟩:=I.tuple Y;have F:Z.toArray.size=xs.length:=by rw[A0Q];exact r.length.symm
 refine⟨"tuple",_,PyProof.Rows.slot_tuple_getitem.lookup,J.typeIs,?_⟩;refine HT.getItem_tuple_cut J O pl pu (by rw[F];exact U) ?_ (by rw[F];exact hz);rw[F];refine⟨.ref s.heap.objs.size,_,I.laid (t':=s.toks) (o:=.tup (R6 xs lo hi)) (λb ob q=>A02 _ q) (A08 _) ?_,rfl,q _ (I.hok.fresh (A08 _))⟩;exact⟨A0O (Nn xs lo hi) hz,_,(r.drop (HT.sIx xs.length 0 lo)).take (HT.sIx xs.length xs.length hi-HT.sIx xs.length 0 lo),IsTupN.new _ _⟩
def aP4 (K:W.Frag):R2:=λx y H Q=>∃ a b xs ys,x = .ref a/\y = .ref b/\SqT K H a xs/\SqT K H b ys/\xs≠[]/\xs.length+ys.length<=sizeLine /\
 (ys=[]->Q (.ref a) H)/\(ys≠[]->∀ p,H p=none->Q (.ref p) (upd H p (.tup (xs++ys))))
theorem Vals.nil_iff {xs:List V}{us:List Value}(r:Vals xs us):us=[]↔xs=[]:=by
 cases r with
 |nil=>simp
 |cons _ _=>simp
theorem op_catT:OpR X (binaryOp .Add) (aP4 X.K):=by
 intro pins s σ H x y v u Q I Z ry h;obtain⟨a,b,xs,ys,rfl,rfl,ha,hb,O,hz,U,Y⟩:=h
 cases Z
 cases ry;obtain⟨a0,J,p1,_⟩:=I.tuple ha;obtain⟨a1,F,p2,_⟩:=I.tuple hb;refine HT.cat_tup p1 p2 (λz=>O (J.nil_iff.mp z)) (λz=>⟨.ref a,H,I,rfl,U (F.nil_iff.mp z)⟩) (λz=>?_) (by rw[<- J.length,<- F.length];exact hz);refine⟨.ref s.heap.objs.size,_,I.laid (t':=s.toks) (o:=.tup (xs++ys)) (λb ob q=>A02 _ q) (A08 _) ?_,rfl,Y (λw=>z (F.nil_iff.mpr w)) _ (I.hok.fresh (A08 _))⟩;exact⟨by rw[A06];exact hz,_,J.append F,IsTupN.new _ _⟩
end
def ixN (n:Nat)(i:Int):Option Nat:=if 0<=i then(if i<n then some i.toNat else none) else if -(n:Int)<=i then some (i+n).toNat else none
def atI {α:Type}(xs:List α)(i:Int):Option α:=(ixN xs.length i).bind λj=>xs[j]?
theorem aA1 {n:Nat}{i:Int}{j:Nat}(h:ixN n i=some j):seqIndex? i n=some j/\j<n /\ -(n:Int)<=i/\i<n:=by
 unfold ixN at h
 by_cases q:0<=i
 . rw[A0X q] at h
   by_cases h1:i<n
   . rw[A0X h1] at h;have e:i.toNat=j:=A13 h;exact⟨by rw[seqIndex_of q h1,e],by omega,by omega,h1⟩
   rw[A0P h1] at h;cases h
 rw[A0P q] at h
 by_cases h1:-(n:Int)<=i
 . rw[A0X h1] at h;have e:(i+n).toNat=j:=A13 h;exact⟨by rw[seqIndex_neg ∅ h1,e],by omega,h1,by omega⟩
 rw[A0P h1] at h;cases h
theorem Rw {α:Type} {xs:List α} {i:Int} {v:α} (h:atI xs i=some v):∃ j,seqIndex? i xs.length=some j/\xs[j]? = some v/\j<xs.length /\ -(xs.length:Int)<=i/\i<xs.length:=by
 unfold atI at h
 cases e:ixN xs.length i with
 |none=>rw[e] at h;cases h
 |some j=>rw[e] at h;obtain⟨h1,h2,q,F⟩:=aA1 e;exact⟨j,h1,h,h2,q,F⟩
theorem Fd {α:Type}{xs:List α}{j:Nat}{v:α}(h:xs[j]? = some v):atI xs (j:Int)=some v:=by
 have q:j<xs.length:=(A00.mp h).1
 have e:ixN xs.length (j:Int)=some j:=by unfold ixN;rw[if_pos ∅,if_pos ∅];simp
 unfold atI;rw[e];exact h
def aC0 (b:Expr):Prop:=∀ o i,subscripted b false o i=operate [o,i] (getItem o i)
def IxR (X:Cx)(r:R2):Prop:=
 ∀(value q:Expr) (pins:List (Addr×Obj)) (s:Shared) (σ:St) (H:Hp) (x y:V) (v u:Value) (Q:VK),Inv X pins σ H s->RelV x v->RelV y u->r x y H Q ->
  subscripted q false v u=operate [v,u] (getItem v u)->wpAny (model X.prog X.w) X.A (subscriptTail value q v u) (EP X pins σ Q) X.xe s
def MtR (X:Cx)(id:String)(r:V->List V->Hp->VK->Prop):Prop:=
 ∀(pins:List (Addr×Obj)) (s:Shared) (σ:St) (H:Hp) (x:V) (xs:List V) (v:Value) (us:List Value) (Q:VK),Inv X pins σ H s->RelV x v->Vals xs us->r x xs H Q ->
  wpAny (model X.prog X.w) X.A (call (.builtin id) (v :: us)) (EP X pins σ Q) X.xe s
section
variable {X:Cx}{a b:Expr}{ta tb:TE}{pos:Pos}
theorem IxR.or {r r':R2}(h:IxR X r)(h':IxR X r'):IxR X (λx y H Q=>r x y H Q\/r' x y H Q):=by
 intro value U pins s σ H x y v u Q I J O q F;rcases q with q|q
 . exact h value U pins s σ H x y v u Q I J O q F
 exact h' value U pins s σ H x y v u Q I J O q F
theorem Ad {r:R2}(J:IxR X r)(ha:PE X a ta)(hb:PE X b tb)(O:aC0 b):PE X (.Subscript a b pos) (tOp r ta tb):=by intro pins s σ H Q I h;exact A52 (aS0 ha hb I h λv u s2 x y H2 F U Y q=>J a b pins s2 σ H2 x y v u Q F U Y q (O _ _))
def aU9 (K:W.Frag):R2:=λx y H Q=>∃ p xs i v,x = .ref p/\y = .int i/\SqL K H p xs/\atI xs i=some v/\Q v H
def aV9 (K:W.Frag):R2:=λx y H Q=>∃ p xs i v,x = .ref p/\y = .int i/\SqT K H p xs/\atI xs i=some v/\Q v H
def aV0:R2:=λx y H Q=>∃ z i c,x = .str z/\y = .int i/\z.length<=sizeLine/\atI z.cps.toList i=some c/\Q (.str ⟨#[c]⟩) H
theorem ix_list:IxR X (aU9 X.K):=by
 intro value a2 pins s σ H x y v u Q I rx ry h U;obtain⟨p,xs,i,z,rfl,rfl,hq,he,q⟩:=h
 cases rx;obtain⟨t,rfl⟩:=ry;obtain⟨a0,r,pl,hz⟩:=I.list hq;obtain⟨j,h1,h2,h3,Y,Z⟩:=Rw he;obtain⟨w,J,a1⟩:=r.get h2;have hl:=r.length;have hn:=Pb;have fin:EP X pins σ Q w s:=⟨z,H,I,a1,q⟩
 by_cases O:0<=i
 . have F:i.toNat=j:=by rw[seqIndex_of O Z] at h1;exact A13 h1
   exact item_listR pl.isList O ∅ (by rw[F];simpa using J) fin U
 have F:(i+(a0.toArray.size:Int)).toNat=j:=by rw[seqIndex_neg ∅ Y] at h1;rw[A0Q,<- hl];exact A13 h1
 exact subscriptTail_builtinR (x:=w) pl.isList.typeIs slot_list_getitem.lookup
  (wpAny_getItem_list_neg (Q:=λr s'=>r=w/\EP X pins σ Q r s') pl.isList ∅ (by rw[List.size_toArray]<;>omega) ∅ (by rw[F];simpa using J) ⟨rfl,fin⟩) U
theorem ix_tup:IxR X (aV9 X.K):=by
 intro value a1 pins s σ H x y v u Q I Z ry h U;obtain⟨p,xs,i,z,rfl,rfl,O,he,q⟩:=h
 cases Z;obtain⟨t,rfl⟩:=ry;obtain⟨a0,r,pl,hz⟩:=I.tuple O;obtain⟨j,h1,h2,h3,h4,h5⟩:=Rw he;obtain⟨w,F,Y⟩:=r.get h2;have J:=r.length;have hn:=Pb;have fin:EP X pins σ Q w s:=⟨z,H,I,Y,q⟩
 exact subscriptTail_builtinR (x:=w) pl.typeIs slot_tuple_getitem.lookup
  (getItem_tuple (j:=j) (Q:=λr s'=>r=w/\EP X pins σ Q r s') pl ∅ ∅ (by rw[List.size_toArray,<- J];exact h1) (by simpa using F) ⟨rfl,fin⟩) U
theorem aG6:IxR X aV0:=by
 intro value a0 pins s σ H x y v u Q I rx ry h Z;obtain⟨z,i,c,rfl,rfl,hz,he,q⟩:=h;obtain⟨t,rfl⟩:=rx;obtain⟨t',rfl⟩:=ry;obtain⟨j,h1,h2,h3,O,U⟩:=Rw he;have Y:z.cps.toList.length=z.length:=by simp[Str.length]
 rw[Y] at h1 O U;have hn:=Pb
 exact tail_any (typeIs_str s z t) slot_str_getitem.lookup (getItem_str (c:=c) (by have F:decide (i < -(2 ^ 63:Int))=false:=A0S ∅;have J:decide (i>=2 ^ 63)=false:=A0S ∅;rw[F,J,Bool.or_false]) (by rw[h1];simpa using h2) ⟨.str ⟨#[c]⟩,H,I.tok _,⟨_,rfl⟩,q⟩) Z
def rIx (K:W.Frag):R2:=λx y H Q=>aU9 K x y H Q\/aV9 K x y H Q\/aV0 x y H Q
theorem ix_seq:IxR X (rIx X.K):=ix_list.or (ix_tup.or aG6)
theorem Tl (lo hi:Option Int) (n:Nat):(sliceBounds lo hi none n).1=((HT.sIx n 0 lo:Nat):Int)/\(sliceBounds lo hi none n).2.1=((HT.sIx n n hi:Nat):Int)/\(sliceBounds lo hi none n).2.2=1:=by
 refine⟨?_,?_,rfl⟩
 . cases lo with
   |none=>simp[sliceBounds,HT.sIx]
   |some i=>
     simp only[sliceBounds,HT.sIx,Option.getD_none,show(1:Int)>0 by decide,if_true]
     by_cases h:i<0
     . simp only[h,if_true]<;>omega
     simp only[h,if_false]<;>omega
 cases hi with
 |none=>simp[sliceBounds,HT.sIx]
 |some i=>
   simp only[sliceBounds,HT.sIx,Option.getD_none,show(1:Int)>0 by decide,if_true]
   by_cases h:i<0
   . simp only[h,if_true]<;>omega
   simp only[h,if_false]<;>omega
theorem Kz (q:List Value)(lo hi:Option Int):slicePick q.toArray lo hi none=((q.drop (HT.sIx q.length 0 lo)).take (HT.sIx q.length q.length hi-HT.sIx q.length 0 lo)).toArray:=by obtain⟨h1,h2,F⟩:=Tl lo hi q.toArray.size;unfold slicePick;rw[h1,h2,F];simp only[sliceRange_one,pick_run,List.size_toArray]<;>rfl
def aW6 (K:W.Frag):V->Option Int->Option Int->Hp->VK->Prop:=λx lo hi H Q=>∃ a xs,x = .ref a/\SqL K H a xs/\∀ p,H p=none->Q (.ref p) (upd H p (.lst (R6 xs lo hi)))
theorem sl_list:SlR X (aW6 X.K):=by
 intro pins s σ H x v vl vu lo hi sl Q I Z O pl Y h;obtain⟨a,xs,rfl,U,q⟩:=h
 cases Z;obtain⟨a0,r,F,hz⟩:=I.list U;have J:=r.length;refine⟨"list",_,slot_list_getitem.lookup,F.isList.typeIs,?_⟩;refine wpAny_getItem_list_slice F.isList O pl Y .none (by simp) ?_ (by rw[List.size_toArray]<;>omega)
 rw[Kz,<- J];refine⟨.ref s.heap.objs.size,_,I.laid (t':=s.toks) (o:=.lst (R6 xs lo hi)) (λb ob q=>A02 _ q) (A08 _) ?_,rfl,q _ (I.hok.fresh (A08 _))⟩;exact⟨A0O (Nn xs lo hi) hz,_,0,(r.drop (HT.sIx xs.length 0 lo)).take (HT.sIx xs.length xs.length hi-HT.sIx xs.length 0 lo),A0J _ rfl⟩
def So:V->Bool
 |.non=>true
 |.bl _=>true
 |.int _=>true
 |.str _=>true
 |_=>false
def eqV:V->V->Bool
 |.non,.non=>true
 |.bl a,.bl b=>a==b
 |.bl a,.int b=>(if a then 1 else 0)==b
 |.int a,.bl b=>a==(if b then 1 else 0)
 |.int a,.int b=>a==b
 |.str a,.str b=>a==b
 |_,_=>false
theorem aM0 {A:Around}{s:Shared}{y x:V}{u v:Value}(J:RelV y u)(q:RelV x v)(O:So y=true)(F:So x=true):SeqAt.EqAt A s u v (eqV y x):=by
 cases y with
 |non=>
   cases J
   cases x with
   |non=>cases q;exact SeqAt.EqAt.same _
   |bl b=>cases q;exact SeqAt.EqAt.none_bool b
   |int b=>obtain⟨t,rfl⟩:=q;exact SeqAt.EqAt.none_int b t
   |str b=>obtain⟨t,rfl⟩:=q;exact SeqAt.EqAt.none_str b t
   |_=>exact absurd (show false=true from F) A0M
 |bl a=>
   cases J
   cases x with
   |non=>cases q;exact SeqAt.EqAt.bool_none a
   |bl b=>cases q;exact SeqAt.EqAt.bool_bool a b
   |int b=>obtain⟨t,rfl⟩:=q;exact SeqAt.EqAt.bool_int a b t
   |str b=>obtain⟨t,rfl⟩:=q;exact SeqAt.EqAt.bool_str a b t
   |_=>exact absurd (show false=true from F) A0M
 |int a=>
   obtain⟨t',rfl⟩:=J
   cases x with
   |non=>cases q;exact SeqAt.EqAt.int_none a t'
   |bl b=>cases q;exact SeqAt.EqAt.int_bool a t' b
   |int b=>obtain⟨t,rfl⟩:=q;exact SeqAt.EqAt.int_int a t' b t
   |str b=>obtain⟨t,rfl⟩:=q;exact SeqAt.EqAt.int_str a t' b t
   |_=>exact absurd (show false=true from F) A0M
 |str a=>
   obtain⟨t',rfl⟩:=J
   cases x with
   |non=>cases q;exact SeqAt.EqAt.str_none a t'
   |bl b=>cases q;exact SeqAt.EqAt.str_bool a t' b
   |int b=>obtain⟨t,rfl⟩:=q;exact SeqAt.EqAt.str_int a t' b t
   |str b=>obtain⟨t,rfl⟩:=q;exact SeqAt.EqAt.str_str a t' b t
   |_=>exact absurd (show false=true from F) A0M
 |_=>exact absurd (show false=true from O) A0M
def eqU (x:V)(u:Value):Bool:=match u with
 |.none=>eqV .non x
 |.bool b=>eqV (.bl b) x
 |.int i _=>eqV (.int i) x
 |.str z _=>eqV (.str z) x
 |_=>false
theorem ap8 {x y:V}{u:Value}(r:RelV y u)(f:So y=true):eqU x u=eqV y x:=by
 cases y with
 |non=>cases r;rfl
 |bl b=>cases r;rfl
 |int i=>obtain⟨t,rfl⟩:=r;rfl
 |str z=>obtain⟨t,rfl⟩:=r;rfl
 |_=>exact absurd (show false=true from f) A0M
theorem Pf {x:V}:∀ {xs:List V} {us:List Value},Vals xs us->xs.all So=true->us.any (eqU x)=xs.any λy=>eqV y x
 |_,_,.nil,_=>rfl
 |y :: xs,u :: us,.cons r t,f=>by rw[List.all_cons,A15] at f;rw[A2J,A2J,ap8 r f.1,Pf t f.2]
theorem Jy {A:Around}{s:Shared}{x:V}{v:Value}(F:RelV x v)(q:So x=true):∀ {xs:List V} {us:List Value},Vals xs us->xs.all So=true->∀ u∈us,SeqAt.EqAt A s u v (eqU x u)
 |_,_,.nil,_=>λu hu=>by cases hu
 |y :: xs,u :: us,.cons r t,f=>λJ hu=>by
   rw[List.all_cons,A15] at f;rcases A0B.mp hu with rfl|hu
   . rw[ap8 r f.1];exact aM0 r F f.1 q
   exact Jy F q t f.2 J hu
def inV (x:V)(xs:List V):Bool:=xs.any λy=>eqV y x
def rIn (K:W.Frag)(q:Bool):R2:=λx y H Q=>∃ p xs,y = .ref p/\(SqL K H p xs\/SqT K H p xs)/\So x=true/\xs.all So=true/\Q (.bl (if q then !inV x xs else inV x xs)) H
theorem op_in_seq:OpR X (compareOp .In) (rIn X.K false):=by
 intro pins s σ H x y v u Q I Y Z h;obtain⟨p,xs,rfl,F,U,fs,q⟩:=h
 cases Z;rcases F with F|F
 . obtain⟨J,r,pl,hz⟩:=I.list F;refine SeqAt.in_listAt (eqU x) pl.isList (λw O=>Jy Y U r fs w (by simpa using O)) ⟨.bl _,H,I,rfl,?_⟩;rw[show J.toArray.any (eqU x)=J.any (eqU x) by simp,Pf r fs];exact q
 obtain⟨J,r,pl,hz⟩:=I.tuple F;refine SeqAt.in_tupleAt (eqU x) pl (λw O=>Jy Y U r fs w (by simpa using O)) ⟨.bl _,H,I,rfl,?_⟩;rw[show J.toArray.any (eqU x)=J.any (eqU x) by simp,Pf r fs];exact q
theorem op_notIn_seq:OpR X (compareOp .NotIn) (rIn X.K true):=by
 intro pins s σ H x y v u Q I Y Z h;obtain⟨p,xs,rfl,F,U,fs,q⟩:=h
 cases Z;rcases F with F|F
 . obtain⟨J,r,pl,hz⟩:=I.list F;refine SeqAt.notIn_listAt (eqU x) pl.isList (λw O=>Jy Y U r fs w (by simpa using O)) ⟨.bl _,H,I,rfl,?_⟩;rw[show J.toArray.any (eqU x)=J.any (eqU x) by simp,Pf r fs];exact q
 obtain⟨J,r,pl,hz⟩:=I.tuple F;refine SeqAt.notIn_tupleAt (eqU x) pl (λw O=>Jy Y U r fs w (by simpa using O)) ⟨.bl _,H,I,rfl,?_⟩;rw[show J.toArray.any (eqU x)=J.any (eqU x) by simp,Pf r fs];exact q
theorem op_notIn_str:OpR X (compareOp .NotIn) (λx y H Q=>∃ i j,x = .str i/\y = .str j/\Q (.bl (!(!(Builtin.Str.occurrences j i 0 j.length 1).isEmpty))) H):=by intro pins s σ H x y v u Q I F J h;obtain⟨i,j,rfl,rfl,q⟩:=h;obtain⟨t,rfl⟩:=F;obtain⟨t',rfl⟩:=J;exact notIn_str ⟨.bl _,H,I,rfl,q⟩
theorem CallR.or {f:Value}{r r':List V->Hp->VK->Prop}(h:CallR X f r)(h':CallR X f r'):CallR X f (λxs H Q=>r xs H Q\/r' xs H Q):=by
 intro pins s σ H xs us Q I F q;rcases q with q|q
 . exact h pins s σ H xs us Q I F q
 exact h' pins s σ H xs us Q I F q
theorem Vf:CallR X (.type "list") (λxs H Q=>∃ p ys,xs=[.ref p]/\(SqL X.K H p ys\/SqT X.K H p ys)/\∀ l,H l=none->Q (.ref l) (upd H l (.lst ys))):=by
 intro pins s σ H xs us Q I r h;obtain⟨p,ys,rfl,O,q⟩:=h;obtain⟨u,rfl,rx⟩:=J4 r
 cases rx
 have fin:∀(F:List Value),Vals ys F->ys.length<=sizeLine->∀(h':Heap) (J:Nat),(∀ b o',s.heap.get? b=some o'->h'.get? b=some o') ->
   h'.get? s.heap.objs.size=some {cls:=.type "list",dict:=none,data:=.seq F.toArray J,slots:=#[]}->EP X pins σ Q (.ref s.heap.objs.size) {s with heap:=h'}:=λF r' hz h' J kp e=>
  ⟨.ref s.heap.objs.size,_,I.laid (t':=s.toks) kp (A08 _) (show ObjOk X.prog X.w _ h' _ (.lst ys) from⟨hz,F,J,r',e⟩),rfl,q _ (I.hok.fresh (A08 _))⟩
 rcases O with O|O
 . obtain⟨F,r',pl,hz⟩:=I.list O;have Z:=r'.length;obtain⟨o,Y,U,n,hd⟩:=pl.isList;exact call_list_seq p (.inl rfl) Y U hd (λh' J kp e=>fin F r' hz h' J kp e) (by simp only[List.size_toArray]<;>omega)
 obtain⟨F,r',pl,hz⟩:=I.tuple O;have Z:=r'.length;obtain⟨o,Y,U,n,hd⟩:=pl;exact call_list_seq p (.inr rfl) Y U hd (λh' J kp e=>fin F r' hz h' J kp e) (by simp only[List.size_toArray]<;>omega)
theorem Se:CallR X (.type "tuple") (λxs H Q=>∃ p ys,xs=[.ref p]/\((SqL X.K H p ys/\∀ l,H l=none->Q (.ref l) (upd H l (.tup ys)))\/(SqT X.K H p ys/\Q (.ref p) H))):=by
 intro pins s σ H xs us Q I r h;obtain⟨p,ys,rfl,h⟩:=h;obtain⟨u,rfl,Y⟩:=J4 r
 cases Y;rcases h with ⟨F,q⟩|⟨F,q⟩
 . obtain⟨J,r',pl,hz⟩:=I.list F;have Z:=r'.length;refine call_tuple_list pl.isList (λh' kp=>?_) (by simp only[List.size_toArray]<;>omega)
   have O:Inv X pins σ H {s with heap:=h'}:=I.kept (t':=s.toks) kp
   have U:Inv X pins σ (upd H h'.objs.size (.tup ys)) {s with heap:=h'.push {cls:=.type "tuple",data:=.seq J.toArray}}:=
    O.laid (t':=s.toks) (λb o e=>A02 _ e) (A08 _) (show ObjOk X.prog X.w _ _ _ (.tup ys) from⟨hz,J,r',IsTupN.new _ _⟩)
   exact⟨.ref h'.objs.size,_,U,rfl,q _ (O.hok.fresh (A08 _))⟩
 obtain⟨J,r',pl,hz⟩:=I.tuple F;exact call_tuple_same pl ⟨.ref p,H,I,rfl,q⟩
def tyV (K:W.Frag)(T:String)(x:V)(H:Hp):Prop:=match x with
 |.str _=>T = "str"
 |.int _=>T = "int"
 |.ref p=>(T = "list" /\ ∃ xs,SqL K H p xs)\/(T = "tuple" /\ ∃ o,K.lookup p=some o/\o.cls = .type "tuple" /\ o.dict=none) \/
   (T = "dict" /\ ((∃ kvs,H p=some (.dK kvs))\/∃ kvs,H p=some (.dT kvs)))\/(T = "set" /\ ∃ S n,H p=some (.set S n))
 |_=>False
theorem ar2 {pins:List (Addr×Obj)}{σ:St}{H:Hp}{s:Shared}{T:String}{x:V}{v:Value}(I:Inv X pins σ H s)(r:RelV x v)(ty:tyV X.K T x H) :
  s.TypeIs v T/\∀ a,v = .ref a->∃ ob,s.heap.get? a=some ob/\ob.dict=none:=by
 cases x with
 |str z=>
   obtain⟨t,rfl⟩:=r
   cases (show T = "str" from ty);exact⟨typeIs_str s z t,λ_ e=>nomatch e⟩
 |int i=>
   obtain⟨t,rfl⟩:=r
   cases (show T = "int" from ty);exact⟨typeIs_int s i t,λ_ e=>nomatch e⟩
 |ref p=>
   cases r;rcases ty with ⟨rfl,xs,O⟩|⟨rfl,o,q,J,hd⟩|⟨rfl,q⟩|⟨rfl,S,n,q⟩
   . obtain⟨U,_,pl,_⟩:=I.list O;refine⟨pl.isList.typeIs,λa e=>?_⟩
     cases e;obtain⟨o,n,e,c,hd,_⟩:=pl;exact⟨o,e,hd⟩
   . refine⟨⟨o,I.kIn p o q,J⟩,λa e=>?_⟩
     cases e;exact⟨o,I.kIn _ o q,hd⟩
   . have z:∃ o,s.heap.get? p=some o/\o.ExactDict:=by
      rcases q with ⟨kvs,q⟩|⟨kvs,q⟩
      . obtain⟨_,_,_,_,o,_,_,e,ex,_⟩:=I.hok p _ q;exact⟨o,e,ex⟩
      obtain⟨_,_,_,_,o,_,_,e,ex,_⟩:=I.hok p _ q;exact⟨o,e,ex⟩
     obtain⟨o,e,ex⟩:=z;refine⟨⟨o,e,ex.1⟩,λa F=>?_⟩
     cases F;exact⟨o,e,ex.2.1⟩
   obtain⟨o,_,_,_,e,ex,_⟩:=I.hok p _ q;refine⟨⟨o,e,ex.1⟩,λa F=>?_⟩
   cases F;exact⟨o,e,ex.2.1⟩
 |_=>exact False.elim ty
def aR4 (K:W.Frag)(T:String)(r:V->List V->Hp->VK->Prop)(to:TE):TE:=fun σ H Q=>to σ H λx H1=>tyV K T x H1/\r x [] H1 Q
def tBM (K:W.Frag)(T:String)(r:V->List V->Hp->VK->Prop)(to:TE)(t:TA):TE:=fun σ H Q=>to σ H λx H1=>tyV K T x H1/\t σ H1 λxs H2=>r x xs H2 Q
variable {o e:Expr}{es:List Expr}{to:TE}{t:TA}{name:Str}{apos cpos:Pos}{T id:String}{r:V->List V->Hp->VK->Prop}
theorem aJ6 (Z:PlainAttrs T)(slot:Slot T name id)(Y:typeOf (.builtin id)=pure (.type "method_descriptor"))(hm:MtR X id r)(U:PE X o to)
  (J:attributeBase o name X.env (eval o X.env)=eval o X.env:=by ac_nf) (O:(apos.endLine==cpos.line)=true:=by ac_nf):PE X (.Call (.Attribute o name apos) [] [] cpos) (aR4 X.K T r to):=by
 intro pins s σ H Q I h;refine wpAny_Call_method0_late J O (thn (U pins s σ H _ I h) λv s1 ⟨x,H1,q,F,ty,q1⟩=>?_);obtain⟨h1,h2⟩:=ar2 q F ty;exact⟨T,id,Z,slot,Y,h1,h2,A2W rfl (PySem.evalArgs_none (hm pins s1 σ H1 x [] v [] Q q F .nil q1))⟩
theorem aR3 (pa:PlainAttrs T)(slot:Slot T name id)(a1:typeOf (.builtin id)=pure (.type "method_descriptor"))(hm:MtR X id r)(ho:PE X o to)(ha:PA X (e :: es) t)
  (U:attributeBase o name X.env (eval o X.env)=eval o X.env:=by ac_nf)
  (Y:((backTo cpos (starEach (e :: es) X.env)).all (λx=>!x.1)&&(backToKw cpos (keywordEach [] X.env)).all (λx=>x.1.isSome)
   && decide ((e :: es).length+([]:List Keyword).length+(if([]:List Keyword).isEmpty then 0 else 1)<30))=true:=by ac_nf)
  (Z:(apos.endLine==cpos.line)=true:=by ac_nf) (hs:starEach (e :: es) X.env=(false,eval e X.env) :: starEach es X.env:=by ac_nf) (a0:(backTo cpos (starEach es X.env)).any (·.1)=false:=by ac_nf) :
  PE X (.Call (.Attribute o name apos) (e :: es) [] cpos) (tBM X.K T r to t):=by
 intro pins s σ H Q I h;refine wpAny_Call_method_late U Y Z rfl (thn (ho pins s σ H _ I h) λv s1 ⟨x,H1,q,J,ty,q1⟩=>?_);obtain⟨h1,h2⟩:=ar2 q J ty;refine⟨T,id,pa,slot,a1,h1,h2,?_⟩;have F:=ha cpos pins s1 σ H1 _ q q1;rw[hs] at F ⊢;refine A2W (by show(false||(backTo cpos (starEach es X.env)).any (·.1))=false;rw[a0]<;>rfl) (A3Y ?_)
 exact thn F λus s2 ⟨vs,H2,O,r2,q2⟩=>hm pins s2 σ H2 x vs v us Q O J r2 q2
/- xs.append(e),list.index on a module's tuple .. are MtR facts of 06m -/
end
def MtM (X:Cx)(id:String)(r:V->List V->Hp->VK->Prop):Prop:=
 ∀(pins:List (Addr×Obj)) (s:Shared) (σ:St) (H:Hp) (x:V) (xs:List V) (v:Value) (us:List Value) (Q:VK),Inv X pins σ H s->RelV x v->Vals xs us->r x xs H Q ->
  wpAny (model X.prog X.w) X.A (call (.builtin id) (v :: us)) (EP X pins σ Q) X.xe s
theorem Vals.one {x:V}{us:List Value}(h:Vals [x] us):∃ u,us=[u]/\RelV x u:=by
 cases h with
 |cons r q=>cases q;exact⟨_,rfl,r⟩
theorem Vals.two {x y:V}{us:List Value}(h:Vals [x,y] us):∃ u v,us=[u,v]/\RelV x u/\RelV y v:=by
 cases h with
 |cons r q=>obtain⟨u,rfl,F⟩:=Vals.one q;exact⟨_,_,rfl,r,F⟩
theorem Vals.zero:∀ {us:List Value},Vals [] us->us=[]
 |_,.nil=>rfl
theorem Vals.dropLast {xs:List V}{us:List Value}(h:Vals xs us):Vals xs.dropLast us.dropLast:=by
 induction h with
 |nil=>exact .nil
 |cons r t ih=>
   cases t with
   |nil=>exact .nil
   |cons q t'=>exact .cons r ih
theorem Vals.eraseIdx:∀ {xs:List V} {us:List Value} (i:Nat),Vals xs us->Vals (xs.eraseIdx i) (us.eraseIdx i)
 |_,_,_,.nil=>.nil
 |_,_,0,.cons _ t=>t
 |_,_,i+1,.cons r t=>.cons r (Vals.eraseIdx i t)
theorem Vals.reverse {xs:List V}{us:List Value}(h:Vals xs us):Vals xs.reverse us.reverse:=by
 induction h with
 |nil=>exact .nil
 |cons r t ih=>rw[List.reverse_cons,List.reverse_cons];exact Vals.append ih (.cons r .nil)
theorem Vals.rep {xs:List V}{us:List Value}(h:Vals xs us):∀ k:Nat,Vals (List.replicate k xs).flatten (List.replicate k us).flatten
 |0=>.nil
 |k+1=>by rw[A2T,A2T,A4H,A4H];exact Vals.append h (Vals.rep h k)
theorem Zk {α:Type}(l:List α):l.eraseIdx (l.length-1)=l.dropLast:=by
 induction l with
 |nil=>rfl
 |cons a r ih=>
   cases r with
   |nil=>rfl
   |cons b r=>
     have e:(a :: b :: r).length-1=((b :: r).length-1)+1:=by have h1:(a :: b :: r).length=r.length+2:=rfl;have h2:(b :: r).length=r.length+1:=rfl;omega
     rw[e,List.eraseIdx_cons_succ,ih]
     all_goals rfl
theorem To {α:Type}:∀(l:List α) (i:Nat),(l.eraseIdx i).length<=l.length
 | [],_=>A08 _
 |_ :: _,0=>A42 _
 |_ :: r,i+1=>Nat.succ_le_succ (To r i)
theorem Tx (q:List Value):∀(k:Nat) (acc:List Value),
  List.foldl (λJ O=>J++O) acc.toArray (List.replicate k q.toArray)=(acc++(List.replicate k q).flatten).toArray
 |0,acc=>by simp
 |k+1,acc=>by
   have e:acc.toArray++q.toArray=(acc++q).toArray:=by simp
   have F:(acc++q)++(List.replicate k q).flatten=acc++(List.replicate (k+1) q).flatten:=by rw[A2T,A4H,A21]
   rw[<- F,<- Tx q k (acc++q),<- e,A2T,A4R]
section
variable {X:Cx}{pins:List (Addr×Obj)}{σ:St}{H:Hp}{s:Shared}{l b:Addr}{xs ys zs:List V}
theorem Inv.lset {F its':List Value}{n:Nat}{f:Array Value->Array Value}{t':Nat}(I:Inv X pins σ H s)(J:H l=some (.lst xs))
  (e:s.heap.get? l=some {cls:=.type "list",data:=.seq F.toArray n}) (hf:f F.toArray=its'.toArray) (O:Vals ys its') (hz:ys.length<=sizeLine) :
  Inv X pins σ (upd H l (.lst ys)) {s with heap:=s.heap.update l (Obj.mapSeq f),toks:=t'}:=by
 have q:=PySem.IsL.update e f;rw[hf] at q;refine I.write (x:=l) (e:=l) (by rw[J];exact trivial) (.inl rfl) (λU u hb hu=>(A3P s.heap (Obj.mapSeq f) (Ne.symm hb)).trans hu) ⟨_,q⟩ ?_;exact⟨hz,its',_,O,q⟩
theorem Inv.lnew {F:List Value}{t':Nat}(I:Inv X pins σ H s)(J:Vals ys F)(hz:ys.length<=sizeLine) :
  Inv X pins σ (upd H s.heap.objs.size (.lst ys)) {s with heap:=s.heap.push {cls:=.type "list",data:=.seq F.toArray},toks:=t'}:=
 I.laid (λ_ _ q=>A02 _ q) (A08 _) ⟨hz,F,0,J,A0J _ rfl⟩
theorem Inv.fresh (I:Inv X pins σ H s):H s.heap.objs.size=none:=I.hok.fresh (A08 _)
theorem Inv.lstM (I:Inv X pins σ H s)(F:H l=some (.lst xs)):xs.length<=sizeLine/\∃(q:List Value) (n:Nat),Vals xs q/\xs.length=q.length/\s.heap.get? l=some {cls:=.type "list",data:=.seq q.toArray n}:=by obtain⟨z,q,n,r,e⟩:=I.hok l _ F;exact⟨z,q,n,r,r.length,e⟩
theorem Ya {n:Nat}(h:n<=sizeLine):Builtin.List.listTooLong n=false:=by unfold Builtin.List.listTooLong;exact A0S ∅
end
section
variable {X:Cx}
def a55:V->List V->Hp->VK->Prop:=λx vs H Q=>∃ l xs y,x = .ref l/\vs=[y]/\H l=some (.lst xs)/\xs.length<sizeLine/\Q .non (upd H l (.lst (xs++[y])))
theorem Gw:MtM X "list.append" a55:=by
 intro pins s σ H x vs v us Q I Z Y h;obtain⟨l,xs,y,rfl,rfl,J,hz,q⟩:=h
 cases Z;obtain⟨u,rfl,U⟩:=Y.one;obtain⟨z,O,n,r,hl,e⟩:=I.lstM J;refine A41 F.slot_list_append ⟨_,e,rfl⟩ F.entry_list_append (F.args_list_append_2 _ _) (PySem.list_append l O.toArray n u (by rw[A0Q];omega)) ⟨e,?_⟩;refine⟨.non,_,I.lset (its':=O++[u]) J e (by simp) (r.append (.cons U .nil)) ?_,rfl,q⟩;rw[A06,A14];omega
def ac5:V->List V->Hp->VK->Prop:=λx vs H Q=>∃ l b xs zs,x = .ref l/\vs=[.ref b]/\H l=some (.lst xs)/\H b=some (.lst zs)/\xs.length+zs.length<=sizeLine/\Q .non (upd H l (.lst (xs++zs)))
theorem Jh:MtM X "list.extend" ac5:=by
 intro pins s σ H x vs v us Q I rx rv h;obtain⟨l,b,xs,zs,rfl,rfl,U,Z,hz,q⟩:=h
 cases rx;obtain⟨u,rfl,ru⟩:=rv.one
 cases ru;obtain⟨z,J,n,r,hl,e⟩:=I.lstM U;obtain⟨z2,O,n2,r2,a1,Y⟩:=I.lstM Z;have hsz:J.toArray.size+O.toArray.size<=sizeLine:=by rw[A0Q,A0Q];omega
 have a0:¬ (!J.toArray.isEmpty&&Builtin.List.listTooLong (J.toArray.size+O.toArray.size))=true:=by rw[Ya hsz,Bool.and_false];exact A0M
 refine A41 F.slot_list_extend ⟨_,e,rfl⟩ F.entry_list_extend (F.args_list_extend_2 _ _)
  (AutoSeq1.list_extend_list_list_0 l J.toArray n b O.toArray n2 a0 (by rw[A0Q];omega) ∅) ⟨e,Y,?_⟩
 refine⟨.non,_,I.lset (its':=J++O) U e (by simp) (r.append r2) ?_,rfl,q⟩;rw[A06];omega
def aX0:V->List V->Hp->VK->Prop:=λx vs H Q=>∃ l xs y,x = .ref l/\vs=[]/\H l=some (.lst xs)/\xs[xs.length-1]? = some y/\Q y (upd H l (.lst xs.dropLast))
theorem aJ8:MtM X "list.pop" aX0:=by
 intro pins s σ H x vs v us Q I rx rv h;obtain⟨l,xs,y,rfl,rfl,O,Z,q⟩:=h
 cases rx;have Y:=rv.zero;subst Y;obtain⟨z,J,n,r,U,e⟩:=I.lstM O;obtain⟨u,hu,ru⟩:=r.get Z
 have a0:J.toArray[J.toArray.size-1]? = some u:=by show J.toArray[J.length-1]? = some u;rw[<- A3V,<- U];exact hu
 refine A41 F.slot_list_pop ⟨_,e,rfl⟩ F.entry_list_pop (F.args_list_pop_1 _) (MeetsSeq.list_pop_last l J.toArray n u a0 (by rw[A0Q];omega)) ⟨e,?_⟩;refine⟨y,_,I.lset (its':=J.dropLast) O e ?_ r.dropLast ?_,ru,q⟩
 . show J.toArray.eraseIdxIfInBounds (J.toArray.size-1)=J.dropLast.toArray;rw[A0Q,List.eraseIdxIfInBounds_toArray,Zk]
 rw[List.length_dropLast];omega
def aq9:V->List V->Hp->VK->Prop:=λx vs H Q=>∃ l xs i k y,x = .ref l/\vs=[.int i]/\H l=some (.lst xs) /\ -(2 ^ 63)<=i/\i<2 ^ 63/\seqIndex? i xs.length=some k/\xs[k]? = some y/\Q y (upd H l (.lst (xs.eraseIdx k)))
theorem Xj:MtM X "list.pop" aq9:=by
 intro pins s σ H x vs v us Q I rx rv h;obtain⟨l,xs,i,k,y,rfl,rfl,O,h1,h2,U,hy,q⟩:=h
 cases rx;obtain⟨u,rfl,ru⟩:=rv.one;obtain⟨t,rfl⟩:=ru;obtain⟨z,J,n,r,Y,e⟩:=I.lstM O;obtain⟨w,Z,a0⟩:=r.get hy
 refine A41 F.slot_list_pop ⟨_,e,rfl⟩ F.entry_list_pop (F.args_list_pop_2 _ _)
  (MeetsSeq.list_pop_at l J.toArray n i t k w (fitsIndex_both h1 h2) (by rw[A0Q,<- Y];exact U) (by rw[<- A3V];exact Z) (by rw[A0Q];omega)) ⟨e,?_⟩
 refine⟨y,_,I.lset (its':=J.eraseIdx k) O e ?_ (r.eraseIdx k) ?_,a0,q⟩
 . show J.toArray.eraseIdxIfInBounds k=(J.eraseIdx k).toArray;rw[List.eraseIdxIfInBounds_toArray]
 have:=To xs k;omega
def aW5:R2:=λx y H Q=>∃ l b xs zs,x = .ref l/\y = .ref b/\H l=some (.lst xs)/\H b=some (.lst zs)/\xs.length+zs.length<=sizeLine/\∀ p,H p=none->Q (.ref p) (upd H p (.lst (xs++zs)))
theorem op_cat:OpR X (binaryOp .Add) aW5:=by
 intro pins s σ H x y v u Q I rx ry h;obtain⟨l,b,xs,zs,rfl,rfl,Z,Y,hz,q⟩:=h
 cases rx
 cases ry;obtain⟨z,F,n,r,hl,e⟩:=I.lstM Z;obtain⟨z2,J,n2,r2,a0,O⟩:=I.lstM Y;refine PySem.P.add_list e O ?_ (by rw[A0Q,A0Q];omega);have U:F.toArray++J.toArray=(F++J).toArray:=by simp
 rw[U];exact⟨.ref _,_,I.lnew (t':=s.toks) (r.append r2) (by rw[A06];omega),rfl,q _ I.fresh⟩
def aX1:R2:=λx y H Q=>∃ l k xs,x = .ref l/\y = .int k/\H l=some (.lst xs) /\ -(2 ^ 63)<=k/\k<2 ^ 63/\xs.length*k.toNat<=sizeLine /\
 ∀ p,H p=none->Q (.ref p) (upd H p (.lst (List.replicate k.toNat xs).flatten))
theorem aB2 {α:Type}(xs:List α)(k:Nat):(List.replicate k xs).flatten.length=k*xs.length:=by
 induction k with
 |zero=>simp
 |succ k ih=>rw[A2T,A4H,A06,ih,Nat.succ_mul,Nat.add_comm]
theorem aF8:OpR X (binaryOp .Mult) aX1:=by
 intro pins s σ H x y v u Q I rx ry h;obtain⟨l,k,xs,rfl,rfl,hH,h1,h2,hz,q⟩:=h
 cases rx;obtain⟨t,rfl⟩:=ry;obtain⟨z,J,n,r,hl,e⟩:=I.lstM hH;have a2:J.toArray.size*k.toNat<=sizeLine:=by rw[A0Q,<- hl];exact hz
 have a0:¬ J.toArray.size*k.toNat>(2 ^ 63-1) / 8:=by
  have:(sizeLine:Nat)<=(2 ^ 63-1) / 8:=by decide
  omega
 have a1:¬ (!Builtin.List.listFitsIndex k)=true:=by rw[fitsIndex_both h1 h2];exact A0M
 have a3:¬ Builtin.List.listTooLong (J.toArray.size*k.toNat)=true:=by rw[Ya a2];exact A0M
 have a4:List.foldl (λO Y=>O++Y) #[] (List.replicate (if J.toArray.isEmpty=true then 0 else k.toNat) J.toArray)=(List.replicate k.toNat J).flatten.toArray:=by
  have Z:∀ m:Nat,List.foldl (λO Y=>O++Y) #[] (List.replicate m J.toArray)=(List.replicate m J).flatten.toArray:=λm=>by have:=Tx J m [];rw[A44] at this;exact this
  rw[Z]
  cases J with
  |nil=>simp
  |cons a r'=>rw[if_neg (by simp)]
 refine wpAny_binaryOp_repeat_ref (T:="list") (U:="int") nofun ⟨_,e,rfl⟩ (λs'=>typeIs_int s' k t) noFill_list_mul F.fills_int_mul F.slot_int_rmul repeat_list F.slot_int_index.lookup
  (A41 F.slot_int_rmul (typeIs_int s k t) F.entry_int_rmul (F.args_int_rmul_2 _ _) (int___rmul___int_list k t l J.toArray n)
   ⟨e,rfl,⟨_,e,rfl⟩,A41 F.slot_list_mul ⟨_,e,rfl⟩ F.entry_list_mul (F.args_list_mul_2 _ _) (AutoListH.list___mul___list_int_3 l J.toArray n k t a1 a0 a3) ⟨e,?_⟩⟩)
 rw[a4];exact⟨.ref _,_,I.lnew (t':=s.toks) (r.rep k.toNat) (by rw[aB2,A4S];exact hz),rfl,q _ I.fresh⟩
end
section
variable {prog:Program}{w:World}{A:Around}{E:Value->Shared->Prop}{s:Shared}
set_option maxRecDepth 100000 in
end
section
variable {X:Cx}
end
section
variable {κ:Type}[DecidableEq κ]
def Ck (kvs:List (κ×V))(k:κ):Option V:=(kvs.find? λkv=>decide (kv.1=k)).map (·.2)
def Ge (kvs:List (κ×V))(k:κ)(v:V):List (κ×V):=
 if(kvs.any λkv=>decide (kv.1=k))=true then kvs.map (λkv=>if kv.1=k then(kv.1,v) else kv) else kvs++[(k,v)]
theorem al7 {k:κ}:Ck ([]:List (κ×V)) k=none:=rfl
theorem Bh {p:κ×V} {r:List (κ×V)} {k:κ} (e:p.1=k):Ck (p :: r) k=some p.2:=by simp[Ck,List.find?_cons,e]
theorem Bc {p:κ×V}{r:List (κ×V)}{k:κ}(e:¬ p.1=k):Ck (p :: r) k=Ck r k:=by simp[Ck,List.find?_cons,e]
theorem Ih (k:κ):∀ kvs:List (κ×V),(kvs.any λkv=>decide (kv.1=k))=(Ck kvs k).isSome
 | []=>rfl
 |p :: r=>by
   rw[A2J]
   by_cases e:p.1=k
   . simp only[Bh e,decide_eq_true e,Bool.true_or,Option.isSome_some]
   rw[Bc e,A0S e,Bool.false_or];exact Ih k r
theorem Yg (k j:κ)(y:V):∀ kvs:List (κ×V),Ck (kvs.map λkv=>if kv.1=k then(kv.1,y) else kv) j=(Ck kvs j).map λx=>if j=k then y else x
 | []=>rfl
 |p :: r=>by
   have q:=Yg k j y r;rw[A0H]
   by_cases h:p.1=k
   . rw[A0X h]
     by_cases e:p.1=j
     . rw[Bh (p:=(p.1,y)) e,Bh e,A4T,A0X (e.symm.trans h)]
     rw[Bc (p:=(p.1,y)) e,Bc e,q]
   rw[A0P h]
   by_cases e:p.1=j
   . rw[Bh (p:=p) e,Bh e,A4T,A0P (λz=>h (e.trans z))]
   rw[Bc (p:=p) e,Bc e,q]
theorem Tw (k j:κ)(y:V):∀ kvs:List (κ×V),Ck kvs k=none->Ck (kvs++[(k,y)]) j=if j=k then some y else Ck kvs j
 | [],_=>by
   by_cases e:k=j
   . rw[A0X e.symm];exact Bh (p:=(k,y)) e
   rw[A0P (λz=>e z.symm)];exact Bc (p:=(k,y)) e
 |p :: r,hn=>by
   rw[List.cons_append];have q:¬ p.1=k:=λz=>by rw[Bh z] at hn;cases hn
   rw[Bc q] at hn;have F:=Tw k j y r hn
   by_cases e:p.1=j
   . rw[Bh e,Bh e,A0P (λz=>q (e.trans z))]
   rw[Bc e,Bc e,F]
theorem am4 (kvs:List (κ×V))(k j:κ)(y:V):Ck (Ge kvs k y) j=if j=k then some y else Ck kvs j:=by
 unfold Ge
 by_cases a:(kvs.any λkv=>decide (kv.1=k))=true
 . rw[A0X a,Yg];rw[Ih] at a
   by_cases e:j=k
   . obtain⟨x,F⟩:=Option.isSome_iff_exists.mp a;rw[A0X e,e,F,A4T,A0X rfl]
   rw[A0P e]
   cases Ck kvs j with
   |none=>rfl
   |some x=>rw[A4T,A0P e]
 rw[A0P a];refine Tw k j y kvs ?_;rw[Ih] at a
 cases q:Ck kvs k with
 |none=>rfl
 |some x=>rw[q] at a;exact(a rfl).elim
theorem Kj (kvs:List (κ×V))(k:κ)(v:V):(Ge kvs k v).length<=kvs.length+1:=by
 unfold Ge
 split
 . rw[A01];omega
 rw[A06,A0G,List.length_nil];omega
theorem Jv {kvs:List (κ×V)}{k:κ}(v:V)(h:Ck kvs k=none):Ge kvs k v=kvs++[(k,v)]:=by unfold Ge;rw [Ih,h];exact A0P nofun
theorem RelO.isSome_eq {o:Option V}{u:Option Value}(r:RelO o u):o.isSome=u.isSome:=by
 cases o with
 |none=>cases u with
   |none=>rfl
   |some _=>exact(show False from r).elim
 |some _=>cases u with
   |none=>exact(show False from r).elim
   |some _=>rfl
theorem RelO.getD {o:Option V}{u:Option Value}{d:V}{d':Value}(r:RelO o u)(rd:RelV d d'):RelV (o.getD d) (u.getD d'):=by
 cases o with
 |none=>cases u with
   |none=>exact rd
   |some _=>exact(show False from r).elim
 |some _=>cases u with
   |none=>exact(show False from r).elim
   |some _=>exact r
theorem KV.val {kvs:List (κ×V)} {vs:List (κ×Value)} (r:KV kvs vs) (k:κ):RelO (Ck kvs k) (valueAt vs k):=by
 unfold KV at r
 induction r with
 |nil=>exact A2F
 |@cons p q ps qs h t ih=>
   obtain⟨h1,h2⟩:=h
   by_cases e:p.1=k
   . have F:q.1=k:=h1.symm.trans e;have b:valueAt (q :: qs) k=some q.2:=by simp[valueAt,List.find?_cons,F]
     rw[Bh e,b];exact h2
   have F:¬ q.1=k:=λz=>e (h1.trans z);have b:valueAt (q :: qs) k=valueAt qs k:=by simp[valueAt,List.find?_cons,F]
   rw[Bc e,b];exact ih
theorem KV.any {kvs:List (κ×V)}{vs:List (κ×Value)}(r:KV kvs vs)(k:κ):(kvs.any λkv=>decide (kv.1=k))=vs.any λkv=>decide (kv.1=k):=by
 unfold KV at r
 induction r with
 |nil=>rfl
 |cons h t ih=>rw[A2J,A2J,ih,h.1]
theorem KV.repl {kvs:List (κ×V)}{vs:List (κ×Value)}(r:KV kvs vs)(k:κ){y:V}{u:Value}(F:RelV y u) :
  KV (kvs.map λkv=>if kv.1=k then(kv.1,y) else kv) (vs.map λkv=>if kv.1=k then(kv.1,u) else kv):=by
 unfold KV at r ⊢
 induction r with
 |nil=>exact .nil
 |@cons p q ps qs h t ih=>
   rw[A0H,A0H];refine .cons ?_ ih;obtain⟨h1,h2⟩:=h
   by_cases e:p.1=k
   . rw[A0X e,A0X (h1.symm.trans e)];exact⟨h1,F⟩
   rw[A0P e,A0P (λz=>e (h1.trans z))];exact⟨h1,h2⟩
theorem KV.put {kvs:List (κ×V)}{vs:List (κ×Value)}(r:KV kvs vs)(k:κ){y:V}{u:Value}(q:RelV y u):KV (Ge kvs k y) (stored vs k u):=by
 unfold Ge stored;rw[r.any k]
 by_cases e:(vs.any λkv=>decide (kv.1=k))=true
 . rw[A0X e,A0X e];exact r.repl k q
 rw[A0P e,A0P e];exact Paired.snoc r ⟨rfl,q⟩
theorem KV.keys {kvs:List (κ×V)}{vs:List (κ×Value)}(r:KV kvs vs):kvs.map (·.1)=vs.map (·.1):=by
 unfold KV at r
 induction r with
 |nil=>rfl
 |cons h t ih=>rw[A0H,A0H,ih,h.1]
theorem KV.length {kvs:List (κ×V)}{vs:List (κ×Value)}(r:KV kvs vs):kvs.length=vs.length:=A34 r
end
theorem Pz {P:Program}{w:World}{k:Key}{u:Value}(r:RelV (kV k) u):(Ax P w).is k u=true:=by
 cases k with
 |inl i=>obtain⟨t,e⟩:=(show ∃ t,u=Value.int i t from r);subst e;exact X2 P w i t
 |inr x=>obtain⟨t,e⟩:=(show ∃ t,u=Value.str x t from r);subst e;exact Wv P w x t
theorem Vu {P:Program}{w:World}:∀ {ks:List Key} {us:List Value},Vals (ks.map kV) us->ItemsAre (Ax P w) ks us
 | [],_,r=>by rw[List.map_nil] at r;cases r;exact .nil
 |k :: ks,_,r=>by
   rw[A0H] at r
   cases r with
   |cons h t=>exact .cons (Pz h) (Vu t)
abbrev KT (H:Hp):List (List Key×V)->List (List Key×Addr×Value)->Prop:=Paired λp q=>p.1=q.1/\H q.2.1=some (.tup (p.1.map kV))/\RelV p.2 q.2.2
theorem KT.val {H:Hp}{kvs:List (List Key×V)}{xs:List (List Key×Addr×Value)}(r:KT H kvs xs)(k:List Key):RelO (Ck kvs k) ((atKey xs k).map (·.2)):=by
 induction r with
 |nil=>exact A2F
 |@cons p q ps qs h t ih=>
   obtain⟨h1,_,h2⟩:=h
   by_cases e:p.1=k
   . have F:q.1=k:=h1.symm.trans e;have b:atKey (q :: qs) k=some q.2:=by simp[atKey,List.find?_cons,F]
     rw[Bh e,b];exact h2
   have F:¬ q.1=k:=λz=>e (h1.trans z);have b:atKey (q :: qs) k=atKey qs k:=by simp[atKey,List.find?_cons,F]
   rw[Bc e,b];exact ih
theorem KT.repl {H:Hp} {kvs:List (List Key×V)} {xs:List (List Key×Addr×Value)} (r:KT H kvs xs) (k:List Key) {y:V} {u:Value} (J:RelV y u) :
  KT H (kvs.map λkv=>if kv.1=k then(kv.1,y) else kv) (xs.map (putAt k u)):=by
 induction r with
 |nil=>exact .nil
 |@cons p q ps qs h t ih=>
   rw[A0H,A0H];refine .cons ?_ ih;obtain⟨h1,h2,F⟩:=h;unfold putAt
   by_cases e:p.1=k
   . rw[A0X e,A0X (h1.symm.trans e)];exact⟨h1,h2,J⟩
   rw[A0P e,A0P (λz=>e (h1.trans z))];exact⟨h1,h2,F⟩
theorem KT.put {H:Hp}{kvs:List (List Key×V)}{xs:List (List Key×Addr×Value)}(r:KT H kvs xs)(k:List Key){b:Addr}{y:V}{u:Value}(hb:H b=some (.tup (k.map kV)))(F:RelV y u) :
  KT H (Ge kvs k y) (storedH xs k b u):=by
 have e:(kvs.any λkv=>decide (kv.1=k))=(atKey xs k).isSome:=by rw[Ih,(r.val k).isSome_eq,Option.isSome_map]
 unfold Ge storedH;rw[e]
 by_cases q:(atKey xs k).isSome=true
 . rw[A0X q,A0X q];exact r.repl k F
 rw[A0P q,A0P q];exact Paired.snoc r ⟨rfl,hb,F⟩
theorem KT.keeps {H H':Hp}{kvs:List (List Key×V)}{xs:List (List Key×Addr×Value)}(r:KT H kvs xs)(q:∀ b ys,H b=some (.tup ys)->H' b=some (.tup ys)):KT H' kvs xs:=
 Paired.mapP r λ_ _ z=>⟨z.1,q _ _ z.2.1,z.2.2⟩
section
variable {P:Program}{w:World}{H:Hp}{h:Heap}{a:Addr}
theorem aN1 {u:HO}(ok:HOk P w H h)(e:Rd H a u):ObjOk P w H h a u:=e.ok ok
theorem Rn {kvs:List (Key×V)}(ok:HOk P w H h)(e:Rd H a (.dK kvs)):kvs.length<=sizeLine/\(a==sysModules)=false/\∃ vs,KV kvs vs/\h.DictOf (Ax P w) a vs:=
 show ObjOk P w H h a (.dK kvs) from aN1 ok e
theorem Vi {kvs:List (Key×V)}(ok:HOk P w H h)(e:H a=some (.dK kvs)):kvs.length<=sizeLine/\(a==sysModules)=false/\∃ vs,KV kvs vs/\h.DictOf (Ax P w) a vs:=Rn ok (.inl e)
theorem Ow {ks:List Key}(ok:HOk P w H h)(e:H a=some (.tup (ks.map kV))):(tupleKind (Ax P w)).is h ks a:=by obtain⟨_,F,r,o,h1,h2,⟨n,q⟩,_⟩:=(show ObjOk P w H h a (.tup (ks.map kV)) from ok a _ e);exact⟨o,F.toArray,n,h1,h2,q,by simpa using Vu r⟩
theorem Vc {kvs:List (List Key×V)}(ok:HOk P w H h)(e:Rd H a (.dT kvs)):kvs.length<=sizeLine/\(a==sysModules)=false /\
  ∃ xs,KT H kvs xs/\h.DictOfH (tupleKind (Ax P w)) a xs:=by
 obtain⟨z,y,xs,r,o,es,ep,h1,h2,J,O,U⟩:=(show ObjOk P w H h a (.dT kvs) from aN1 ok e);refine⟨z,y,xs,r,o,es,ep,h1,h2,J,O,λx F=>?_,U⟩
 have all:∀ {l:List (List Key×V)} {m:List (List Key×Addr×Value)},KT H l m->∀ x∈m,(tupleKind (Ax P w)).is h x.1 x.2.1:=by
  intro l m q
  induction q with
  |nil=>intro x F;exact nomatch F
  |@cons p q ps qs hq t ih=>
    intro x F;rcases A0B.mp F with e|F
    . subst e;exact Ow ok (by rw[<- hq.1];exact hq.2.1)
    exact ih x F
 exact all r x F
theorem aU0 {kvs:List (List Key×V)}(ok:HOk P w H h)(e:H a=some (.dT kvs)):kvs.length<=sizeLine/\(a==sysModules)=false /\
  ∃ xs,KT H kvs xs/\h.DictOfH (tupleKind (Ax P w)) a xs:=Vc ok (.inl e)
end
def DGet (H:Hp)(a:Addr)(y:V)(r:Option V):Prop:=
 (∃ kvs k,Rd H a (.dK kvs)/\y=kV k/\r=Ck kvs k)\/∃ kvs k b,Rd H a (.dT kvs)/\y = .ref b/\H b=some (.tup (k.map kV))/\r=Ck kvs k
def DPut (H:Hp)(a:Addr)(y v:V)(H':Hp):Prop:=
 (∃ kvs k,H a=some (.dK kvs)/\y=kV k/\kvs.length<sizeLine/\H'=upd H a (.dK (Ge kvs k v))) \/
 ∃ kvs k b,H a=some (.dT kvs)/\y = .ref b/\H b=some (.tup (k.map kV))/\kvs.length<sizeLine/\H'=upd H a (.dT (Ge kvs k v))
theorem DGet.k {H:Hp}{a:Addr}{kvs:List (Key×V)}{k:Key}(e:H a=some (.dK kvs)):DGet H a (kV k) (Ck kvs k):=.inl ⟨kvs,k,.inl e,rfl,rfl⟩
theorem DPut.k {H:Hp}{a:Addr}{kvs:List (Key×V)}{k:Key}{v:V}(e:H a=some (.dK kvs))(q:kvs.length<sizeLine):DPut H a (kV k) v (upd H a (.dK (Ge kvs k v))):=.inl ⟨kvs,k,e,rfl,q,rfl⟩
section
variable {X:Cx}{pins:List (Addr×Obj)}{σ:St}{H:Hp}{s:Shared}{a:Addr}{y v:V}{u r:Value}{o:Option V}{A:Around}{E:Value->Shared->Prop}
theorem Inv.big (I:Inv X pins σ H s):sysModules<s.heap.objs.size:=by have h:mainGlobals<s.heap.objs.size:=(I.mod.glob.keeps I.bk).lt;exact A49 nofun h
theorem ac7 {Q:Value->Shared->Prop}(hu:A.units+1<cLine)(I:Inv X pins σ H s)(g:DGet H a y (some v))(Z:RelV y u)(h:∀ q s',Inv X pins σ H s'->RelV v q->Q q s') :
  wpAny (model X.prog X.w) A (getItem (.ref a) u) Q E s:=by
 rcases g with ⟨kvs,k,e,J,l⟩|⟨kvs,k,b,e,J,eb,l⟩
 . subst J;obtain⟨z,hd,vs,U,F⟩:=Rn I.hok e;obtain⟨q,O,Y⟩:=RelO.some_of (v:=v) (o:=valueAt vs k) (by rw[l];exact U.val k);exact wpAny_getItem_of (Pz Z) F.mapOf O (h q _ (I.tok _) Y)
 subst J
 cases (show u=Value.ref b from Z);obtain⟨z,hd,xs,U,F⟩:=Vc I.hok e;obtain⟨q,O,Y⟩:=RelO.some_of (v:=v) (o:=(atKey xs k).map (·.2)) (by rw[l];exact U.val k);obtain⟨p,hp,a0⟩:=A1Z.mp O;refine wpAny_getItem_heap (A2Z hu) (Ow I.hok eb) F hp ?_;rw[a0];exact h q _ (I.tok _) Y
theorem d_in {Q:Value->Shared->Prop}(hu:A.units+1<cLine)(I:Inv X pins σ H s)(g:DGet H a y o)(U:RelV y u)(h:∀ s',Inv X pins σ H s'->Q (.bool o.isSome) s') :
  wpAny (model X.prog X.w) A (compareOp .In u (.ref a)) Q E s:=by
 rcases g with ⟨kvs,k,e,J,l⟩|⟨kvs,k,b,e,J,Y,l⟩
 . subst J;obtain⟨z,hd,vs,O,F⟩:=Rn I.hok e;refine wpAny_in_of (Pz U) hd F.mapOf ?_;rw[<- (O.val k).isSome_eq,<- l];exact h _ (I.tok _)
 subst J
 cases (show u=Value.ref b from U);obtain⟨z,hd,xs,O,F⟩:=Vc I.hok e;refine wpAny_in_heap (A2Z hu) (Ow I.hok Y) hd F ?_;have q:=(O.val k).isSome_eq;rw[Option.isSome_map] at q;rw[<- q,<- l];exact h _ (I.tok _)
theorem aA5 {Q:Value->Shared->Prop}(hu:A.units+1<cLine)(I:Inv X pins σ H s)(g:DGet H a y o)(U:RelV y u)(h:∀ s',Inv X pins σ H s'->Q (.bool (!o.isSome)) s') :
  wpAny (model X.prog X.w) A (compareOp .NotIn u (.ref a)) Q E s:=by
 rcases g with ⟨kvs,k,e,J,l⟩|⟨kvs,k,b,e,J,Y,l⟩
 . subst J;obtain⟨z,hd,vs,O,F⟩:=Rn I.hok e;refine wpAny_notIn_of (Pz U) hd F.mapOf ?_;rw[<- (O.val k).isSome_eq,<- l];exact h _ (I.tok _)
 subst J
 cases (show u=Value.ref b from U);obtain⟨z,hd,xs,O,F⟩:=Vc I.hok e;refine wpAny_notIn_heap (A2Z hu) (Ow I.hok Y) hd F ?_;have q:=(O.val k).isSome_eq;rw[Option.isSome_map] at q;rw[<- q,<- l];exact h _ (I.tok _)
theorem Sq {h':Heap}{t':Nat}{ob:HO}(I:Inv X pins σ H s)(J:Mut (H a))(F:Heap.SameBut a s.heap h')(he:∃ q,h'.get? a=some q)(new:ObjOk X.prog X.w (upd H a ob) h' a ob) :
  Inv X pins σ (upd H a ob) {s with heap:=h',toks:=t'}:=
 I.write (x:=a) (e:=a) J (.inl rfl) (λb q hb z=>(F.2 b hb).trans z) he new
theorem Ve {P:Program}{w:World}{H':Hp}{h':Heap}{kvs:List (Key×V)}{vs:List (Key×Value)}(z:kvs.length<=sizeLine)(hd:(a==sysModules)=false)(F:KV kvs vs)(q:h'.DictOf (Ax P w) a vs) :
  ObjOk P w H' h' a (.dK kvs):=⟨z,hd,vs,F,q⟩
theorem a54 {H':Hp}{Q:Unit->Shared->Prop}(hu:A.units+1<cLine)(I:Inv X pins σ H s)(g:DPut H a y v H')(ry:RelV y u)(rv:RelV v r)(h:∀ s',Inv X pins σ H' s'->Q () s') :
  wpAny (model X.prog X.w) A (setItem (.ref a) u r) Q E s:=by
 rcases g with ⟨kvs,k,e,Z,l,Y⟩|⟨kvs,k,b,e,Z,eb,l,Y⟩
 . subst Z Y;obtain⟨z,hd,vs,F,U⟩:=Vi I.hok e;have hz:vs.length<=sizeLine:=by rw[<- F.length];exact z
   have hl:(Ge kvs k v).length<=sizeLine:=by have:=Kj kvs k v;omega
   refine wpAny_setItem_pairs (hsz:=hz) (Pz ry) U λh' J hs=>h _ ?_;have he:∃ q,h'.get? a=some q:=let ⟨q,_,_,O,_⟩:=J;⟨q,O⟩;exact Sq I (by rw[e];exact A2F) hs he (Ve hl hd (F.put k rv) J)
 subst Z Y
 cases (show u=Value.ref b from ry);obtain⟨z,hd,xs,F,U⟩:=aU0 I.hok e;have hz:xs.length<=sizeLine:=by rw[<- A34 F];exact z
 have hl:(Ge kvs k v).length<=sizeLine:=by have:=Kj kvs k v;omega
 refine wpAny_setItem_heap (hsz:=hz) (A2Z hu) (Ow I.hok eb) U λh' J hs=>h _ ?_;obtain⟨q,es,ep,O,h2,h3,h4,_,h5⟩:=J;refine Sq I (by rw[e];exact A2F) hs ⟨q,O⟩ ⟨hl,hd,_,(F.put k eb rv).keeps λc ys ec=>?_,q,es,ep,O,h2,h3,h4,h5⟩;rw[Au (ne_of ec e (λz=>nomatch z))];exact ec
end
section
variable {X:Cx}{pins:List (Addr×Obj)}{σ:St}{H:Hp}{s:Shared}{a:Addr}{kvs:List (Key×V)}{k:Key}{u:Value}{A:Around}{E:Value->Shared->Prop}
theorem aU3 {Q:Value->Shared->Prop}(I:Inv X pins σ H s)(e:Rd H a (.dK kvs))(h:∀ t s',Inv X pins σ H s'->Q (.int kvs.length t) s'):wpAny (model X.prog X.w) A (call (.builtin "len") [.ref a]) Q E s:=by obtain⟨z,hd,vs,q,F⟩:=Rn I.hok e;refine call_len_dict hd F (by rw[<- q.length];rw[A1I] at z;omega) ?_;rw[<- q.length];exact h _ _ (I.tok _)
end
def NoSl (i:Expr):Prop:=∀ F q,subscripted i false F q=operate [F,q] (getItem F q)
theorem aD1 {prog:Program}{w:World}{A:Around}{E:Value->Shared->Prop}{s:Shared}{env:Env}{value q:Expr}{pos:Pos}{T id:String}{Q:Value->Shared->Prop}
  (Z:typeLookup (.type T) "__getitem__" = pure (some (.builtin id))) (hs:NoSl q)
  (h:wpAny (model prog w) A (eval value env) (λo U=>wpAny (model prog w) A (eval q env) (λi F=>F.TypeIs o T/\wpAny (model prog w) A (getItem o i) Q E F) E U) E s) :
  wpAny (model prog w) A (eval (.Subscript value q pos) env) Q E s:=by
 refine A52 (A2A h (λo U h₁=>A2A h₁ (λi F J=>?_) λ_ _ x=>x) λ_ _ x=>x);obtain⟨O,J⟩:=J;unfold subscriptTail;refine A05 ?_;rw[getitemInPython_of_ne O.not_modules];refine A05 (wpAny_specialOf O Z ?_)
 have fin:wpAny (model prog w) A (subscripted q false o i) (λr Y=>wpAny (model prog w) A (letTemporaryGo value o r >>= λ_=>pure r) Q E Y) E F:=by rw[hs o i];exact wpAny_operating (A2A J (λr Y h₃=>A05 (wpAny_letTemporaryGo (A0C h₃))) λ_ _ x=>x)
 first
  |exact A0C (A05 fin)
  |exact A05 (A0C (A05 fin))
  |exact A05 fin
theorem Wu {X:Cx}{pins:List (Addr×Obj)}{σ:St}{H:Hp}{s:Shared}{a:Addr}{y:V}{o:Option V}(I:Inv X pins σ H s)(g:DGet H a y o):s.TypeIs (.ref a) "dict":=by
 rcases g with ⟨kvs,k,e,_,_⟩|⟨kvs,k,b,e,_,_,_⟩
 . obtain⟨_,_,vs,_,q⟩:=Rn I.hok e;exact q.typeIs
 obtain⟨_,_,xs,_,q⟩:=Vc I.hok e;exact q.typeIs
def aJ4 (td ty tv:TE):TS:=λD σ H=>tv σ H λv H1=>td σ H1 λx H2=>ty σ H2 λy F=>∃ a q,x = .ref a/\DPut F a y v q/\D.nx σ q
section
variable {X:Cx}{o i e value:Expr}{pos pos' tpos:Pos}{td ty tv:TE}
theorem Fh (hu:X.A.units+1<cLine)(Y:PE X o td)(hi:PE X i ty)(hv:PE X value tv)(Z:swapsWith value (some (.Subscript o i pos')) pos.line X.env=pure false) :
  PS X (.Assign [.Subscript o i pos'] value pos) (aJ4 td ty tv):=by
 intro pins s σ H D I h;refine wpAny_Assign_Subscript (thn (hv pins s σ H _ I h) λr s1 ⟨v,H1,F,rv,q1⟩=>thn (Y pins s1 σ H1 _ F q1) λu s2 ⟨x,H2,J,rx,q2⟩=>thn (hi pins s2 σ H2 _ J q2) λiv s3 ⟨y,H3,O,ry,a,q,ex,g,q3⟩=>?_) Z;subst ex;obtain rfl:u=Value.ref a:=rx;exact a54 hu O g ry rv λs4 U=>⟨σ,q,U,q3⟩
end
theorem Yi {P:Program}{w:World}{H:Hp}(h:Heap)(hb:sysModules<h.objs.size):ObjOk P w H (h.push {cls:=.type "dict",data:=.dict #[]}) h.objs.size (.dK []):=
 ⟨A2M _,A1T.mpr (Ne.symm (A11 hb)),[],.nil,Heap.DictOf.new h⟩
def at7:TE:=λ_ H Q=>∀ p,H p=none->Q (.ref p) (upd H p (.dK []))
section
variable {X:Cx}{pos:Pos}
theorem Ng:PE X (.Dict [] [] pos) at7:=λpins s σ H Q I h=>wpAny_Dict_empty ⟨.ref s.heap.objs.size,_,I.laid (a:=s.heap.objs.size) (o:=.dK []) (t':=s.toks) (λ_ _ q=>A02 _ q) (A08 _) (Yi s.heap I.big),rfl,h _ (I.hok.fresh (A08 _))⟩
end
def Oo:List (TE×TE)->St->Hp->(List (V×V)->Hp->Prop)->Prop
 | [],_,H,Q=>Q [] H
 | (tk,tv) :: r,σ,H,Q=>tk σ H λx H1=>tv σ H1 λy H2=>Oo r σ H2 λps q=>Q ((x,y) :: ps) q
abbrev VV:List (V×V)->List (Value×Value)->Prop:=Paired λp q=>RelV p.1 q.1/\RelV p.2 q.2
def PPs (X:Cx)(pos:Pos)(keys:List (Option Expr))(F:List Expr)(q:List (TE×TE)):Prop:=
 ∀(pins:List (Addr×Obj)) (s:Shared) (σ:St) (H:Hp) (Q:List (V×V)->Hp->Prop),Inv X pins σ H s->Oo q σ H Q ->
  wpAny (model X.prog X.w) X.A (evalPairs (pairTrees keys F X.env pos)) (λvs s'=>∃ ps H',Inv X pins σ H' s'/\VV ps vs/\Q ps H') X.xe s
theorem Sn {X:Cx}{pos:Pos}:PPs X pos [] [] []:=λpins s σ H Q I h=>pairTrees_nil_walk ⟨[],H,I,.nil,h⟩
theorem Ix {X:Cx}{pos:Pos}{k v:Expr}{ks:List (Option Expr)}{vs:List Expr}{tk tv:TE}{q:List (TE×TE)}(Y:PE X k tk)(hv:PE X v tv)(Z:PPs X pos ks vs q) :
  PPs X pos (some k :: ks) (v :: vs) ((tk,tv) :: q):=λpins s σ H Q I h=>
 pairTrees_cons_walk (thn (Y pins s σ H _ I h) λu s1 ⟨x,H1,J,rx,q1⟩=>thn (hv pins s1 σ H1 _ J q1) λw2 s2 ⟨y,H2,O,ry,q2⟩=>thn (Z pins s2 σ H2 _ O q2) λws s3 ⟨ps,F,U,a0,q3⟩=>⟨(x,y) :: ps,F,U,.cons ⟨rx,ry⟩ a0,q3⟩)
def Gm (kvs more:List (Key×V)):List (Key×V):=more.foldl (λacc kv=>Ge acc kv.1 kv.2) kvs
theorem KV.merge:∀ {more:List (Key×V)} {F:List (Key×Value)} {kvs:List (Key×V)} {vs:List (Key×Value)},KV more F->KV kvs vs->KV (Gm kvs more) (merged vs F):=by
 intro more F kvs vs r;unfold KV at r
 induction r generalizing kvs vs with
 |nil=>intro q;exact q
 |@cons p q ps qs h t ih=>
   intro J
   have e:KV (Ge kvs p.1 p.2) (stored vs q.1 q.2):=by have:=J.put p.1 h.2;rw[<- h.1];exact this
   exact ih e
theorem G8:∀(more kvs:List (Key×V)),(Gm kvs more).length<=kvs.length+more.length
 | [],kvs=>by show kvs.length<=kvs.length+0;omega
 |p :: r,kvs=>by have h1:=G8 r (Ge kvs p.1 p.2);have h2:=Kj kvs p.1 p.2;show(Gm (Ge kvs p.1 p.2) r).length<=_;rw[A0G];omega
theorem R3 {P:Program}{w:World}:∀ {kvs:List (Key×V)} {ws:List (Value×Value)},VV (kvs.map λkv=>(kV kv.1,kv.2)) ws->∃ F,Carries (Ax P w) ws F/\KV kvs F
 | [], _,r=>by rw[List.map_nil] at r;cases r;exact⟨[],A2F,.nil⟩
 |p :: kvs,_,r=>by
   rw[A0H] at r
   cases r with
   |@cons a b as bs h t=>obtain⟨F,c,q⟩:=R3 (P:=P) (w:=w) t;obtain⟨O,J⟩:=b;exact⟨(p.1,J) :: F,⟨Pz h.1,rfl,c⟩,.cons ⟨rfl,h.2⟩ q⟩
def aK5 (q:List (TE×TE)):TE:=fun σ H Q=>∀ p,H p=none->Oo q σ (upd H p (.dK [])) λps H2=>H2 p=some (.dK [])/\∃ kvs:List (Key×V),ps=kvs.map (λkv=>(kV kv.1,kv.2))/\kvs.length<=15/\Q (.ref p) (upd H2 p (.dK (Gm [] kvs)))
theorem Rv {X:Cx}{pos:Pos}{keys:List (Option Expr)}{F:List Expr}{U:List (TE×TE)}(h:PPs X pos keys F U)(a1:keys.all (·.isSome)=true)(hl:keys.length=F.length)(h0:keys≠[])
  (a0:keys.length<=15):PE X (.Dict keys F pos) (aK5 U):=by
 intro pins s σ H Q I q;have hn:=I.hok.fresh (A08 s.heap.objs.size);have Y:=I.laid (a:=s.heap.objs.size) (o:=.dK []) (h':=s.heap.push {cls:=.type "dict",data:=.dict #[]}) (t':=s.toks) (λ_ _ q=>A02 _ q) (A08 _) (Yi s.heap I.big);refine wpAny_Dict_walk (knd:=Ax X.prog X.w) a1 hl h0 a0 (thn (h pins _ σ _ _ Y (q _ hn)) λws s2 ⟨ps,H2,J,a2,e,kvs,ep,lk,q2⟩=>?_);subst ep;obtain⟨rs,c,rk⟩:=R3 (P:=X.prog) (w:=X.w) a2;obtain⟨z,hd,a3,r0,Z⟩:=Vi J.hok e
 cases r0;refine⟨rs,c,Z,λh' O hs=>⟨.ref s.heap.objs.size,_,?_,rfl,q2⟩⟩
 have hz:(Gm [] kvs).length<=sizeLine:=by have h1:=G8 kvs [];rw[List.length_nil] at h1;rw[A1I];omega
 have he:∃ q,h'.get? s.heap.objs.size=some q:=let ⟨q,_,_,hq,_⟩:=O;⟨q,hq⟩;exact Sq J (by rw[e];exact A2F) hs he (Ve hz hd (rk.merge .nil) O)
structure M1 (X:Cx)(o:Expr)(m:Str)(apos:Pos)(e:Expr)(cpos:Pos):Prop where
 base:attributeBase o m X.env (eval o X.env)=eval o X.env
 few:((backTo cpos (starEach [e] X.env)).all (λx=>!x.1)&&(backToKw cpos (keywordEach [] X.env)).all (λx=>x.1.isSome)
  && decide (([e]:List Expr).length+([]:List Keyword).length+(if([]:List Keyword).isEmpty then 0 else 1)<30))=true
 line:(apos.endLine==cpos.line)=true
 trees:backTo cpos (starEach [e] X.env)=[(false,eval e X.env)]
structure M2 (X:Cx)(o:Expr)(m:Str)(apos:Pos)(e f:Expr)(cpos:Pos):Prop where
 base:attributeBase o m X.env (eval o X.env)=eval o X.env
 few:((backTo cpos (starEach [e,f] X.env)).all (λx=>!x.1)&&(backToKw cpos (keywordEach [] X.env)).all (λx=>x.1.isSome)
  && decide (([e,f]:List Expr).length+([]:List Keyword).length+(if([]:List Keyword).isEmpty then 0 else 1)<30))=true
 line:(apos.endLine==cpos.line)=true
 trees:backTo cpos (starEach [e,f] X.env)=[(false,eval e X.env),(false,eval f X.env)]
def IsD (H:Hp)(a:Addr):Prop:=(∃ kvs,Rd H a (.dK kvs))\/∃ kvs,Rd H a (.dT kvs)
theorem aq6 {X:Cx}{pins:List (Addr×Obj)}{σ:St}{H:Hp}{s:Shared}{a:Addr}(I:Inv X pins σ H s)(d:IsD H a) :
  s.TypeIs (.ref a) "dict" /\ (∀ b,Value.ref a = .ref b->∃ ob,s.heap.get? b=some ob/\ob.dict=none)/\(a==sysModules)=false:=by
 rcases d with ⟨kvs,e⟩|⟨kvs,e⟩
 . obtain⟨_,hd,vs,_,F⟩:=Rn I.hok e;refine⟨F.typeIs,λb q=>?_,hd⟩
   cases q;obtain⟨ob,_,_,h1,h2,_⟩:=F;exact⟨ob,h1,h2.2.1⟩
 obtain⟨_,hd,xs,_,F⟩:=Vc I.hok e;refine⟨F.typeIs,λb q=>?_,hd⟩
 cases q;obtain⟨ob,_,_,h1,h2,_⟩:=F;exact⟨ob,h1,h2.2.1⟩
section
variable {X:Cx}{pins:List (Addr×Obj)}{σ:St}{H:Hp}{s:Shared}{a:Addr}{y d:V}{u r:Value}{o:Option V}{A:Around}{E:Value->Shared->Prop}
theorem aG1 {Q:Value->Shared->Prop}(hu:A.units+1<cLine)(I:Inv X pins σ H s)(g:DGet H a y o)(U:RelV y u)(h:∀ Y s',Inv X pins σ H s'->RelV (o.getD .non) Y->Q Y s') :
  wpAny (model X.prog X.w) A (call (.builtin "dict.get") [.ref a,u]) Q E s:=by
 rcases g with ⟨kvs,k,e,J,l⟩|⟨kvs,k,b,e,J,Z,l⟩
 . subst J;obtain⟨z,hd,vs,O,q⟩:=Rn I.hok e;refine A3W A2K q.typeIs A3Q (PySem.F.args_dict_get_2 _ _) (meets_dict_get (Ax X.prog X.w) a (Pz U) hd) ⟨_,q.mapOf,h _ _ (I.tok _) ?_⟩;rw[l];exact(O.val k).getD rfl
 subst J
 cases (show u=Value.ref b from U);obtain⟨z,hd,xs,O,q⟩:=Vc I.hok e;refine A3W A2K q.typeIs A3Q (PySem.F.args_dict_get_2 _ _) (meetsH_dict_get (tupleKind (Ax X.prog X.w)) a b hd) ⟨A2Z hu,k,xs,Ow I.hok Z,q,h _ _ (I.tok _) ?_⟩;rw[l];exact(O.val k).getD rfl
theorem aJ1 {Q:Value->Shared->Prop}(hu:A.units+1<cLine)(I:Inv X pins σ H s)(g:DGet H a y o)(U:RelV y u)(rd:RelV d r)(h:∀ Y s',Inv X pins σ H s'->RelV (o.getD d) Y->Q Y s') :
  wpAny (model X.prog X.w) A (call (.builtin "dict.get") [.ref a,u,r]) Q E s:=by
 rcases g with ⟨kvs,k,e,J,l⟩|⟨kvs,k,b,e,J,Z,l⟩
 . subst J;obtain⟨z,hd,vs,O,q⟩:=Rn I.hok e;refine A3W A2K q.typeIs A3Q (PySem.F.args_dict_get_3 _ _ _) (meets_dict_get_default (Ax X.prog X.w) a (Pz U) hd r) ⟨_,q.mapOf,h _ _ (I.tok _) ?_⟩;rw[l];exact(O.val k).getD rd
 subst J
 cases (show u=Value.ref b from U);obtain⟨z,hd,xs,O,q⟩:=Vc I.hok e;refine A3W A2K q.typeIs A3Q (PySem.F.args_dict_get_3 _ _ _) (meetsH_dict_get_default (tupleKind (Ax X.prog X.w)) a b hd r) ⟨A2Z hu,k,xs,Ow I.hok Z,q,h _ _ (I.tok _) ?_⟩;rw[l];exact(O.val k).getD rd
end
def ap9 (td ty:TE):TE:=fun σ H Q=>td σ H λx H1=>∃ a,x = .ref a/\IsD H1 a/\ty σ H1 λy H2=>∃ o,DGet H2 a y o/\Q (o.getD .non) H2
def at6 (td ty tx:TE):TE:=fun σ H Q=>td σ H λx H1=>∃ a,x = .ref a/\IsD H1 a/\ty σ H1 λy H2=>tx σ H2 λz q=>∃ o,DGet q a y o/\Q (o.getD z) q
section
variable {X:Cx}{o e f:Expr}{apos cpos:Pos}{td ty tx:TE}
theorem ao2 (hu:X.A.units+1<cLine)(U:PE X o td)(he:PE X e ty)(m:M1 X o "get" apos e cpos):PE X (.Call (.Attribute o "get" apos) [e] [] cpos) (ap9 td ty):=by intro pins s σ H Q I h;refine wpAny_Call_method m.base m.few m.line A2U A2K PySem.F.type_dict_get (thn (U pins s σ H _ I h) λu s1 ⟨x,H1,q,rx,a,ex,d,Y⟩=>?_);subst ex;obtain rfl:u=Value.ref a:=rx;obtain⟨t1,t2,_⟩:=aq6 q d;refine⟨t1,t2,?_⟩;rw[m.trees];refine A2W rfl (A3Y (A2Y (thn (he pins s1 σ H1 _ q Y) λiv s2 ⟨y,H2,J,ry,ov,g,Z⟩=>A3S ?_)));exact aG1 hu J g ry λw' s3 O a0=>⟨_,H2,O,a0,Z⟩
theorem an7 (hu:X.A.units+1<cLine)(Z:PE X o td)(he:PE X e ty)(hf:PE X f tx)(m:M2 X o "get" apos e f cpos):PE X (.Call (.Attribute o "get" apos) [e,f] [] cpos) (at6 td ty tx):=by
 intro pins s σ H Q I h;refine wpAny_Call_method m.base m.few m.line A2U A2K PySem.F.type_dict_get (thn (Z pins s σ H _ I h) λu s1 ⟨x,H1,q,rx,a,ex,d,q1⟩=>?_);subst ex;obtain rfl:u=Value.ref a:=rx;obtain⟨t1,t2,_⟩:=aq6 q d;refine⟨t1,t2,?_⟩;rw[m.trees]
 refine A2W rfl (A3Y (A2Y (thn (he pins s1 σ H1 _ q q1) λiv s2 ⟨y,H2,O,ry,q2⟩=>A2Y (thn (hf pins s2 σ H2 _ O q2) λfv s3 ⟨z,J,U,rz,ov,g,q3⟩=>A3S ?_))))
 exact aJ1 hu U g ry rz λw' s4 Y a0=>⟨_,J,Y,a0,q3⟩
end
section
variable {X:Cx}{pins:List (Addr×Obj)}{σ:St}{H:Hp}{s:Shared}{a:Addr}{kvs:List (Key×V)}{A:Around}{E:Value->Shared->Prop}
end
section
variable {X:Cx}{pins:List (Addr×Obj)}{σ:St}{H:Hp}{s:Shared}{a:Addr}{y:V}{u:Value}{A:Around}{E:Value->Shared->Prop}
end
end L2
namespace Att
open PySem PySem.W PySem.Calls PyProof.Rows
theorem Oz {P:Params}{h:Heap}:∀(ns:List Int) (vs:List Value),WellAll P h vs (ns.map WData.int)->IntsAre vs ns:=by
 intro ns
 induction ns with
 |nil=>
   intro vs w;rw[List.map_nil] at w
   cases w;exact .nil
 |cons n ns ih=>
   intro vs w;rw[A0H] at w
   cases w with
   |cons a b=>cases a;exact .cons _ _ (ih _ b)
theorem a90 {l:OpenLaw}{n:Nat}(hn:l.most=some n){P:Params}{h:Heap}{args:List WData}{Y:List Value}
  (U:l.row.toRowW.claim.pre args=true) (a2:WellAll P h Y args) :
  ∃ a vs ns,Y=[Value.ref a]/\args=[WData.list (ns.map WData.int)]/\h.get? a=some {cls:=.type "list",data:=.seq vs.toArray}/\IntsAre vs ns/\ns.length<=n:=by
 have a1:WShape.hasAll [] args [.list .int]=true:=(pre_splitW U).1;have O:l.pre.holds [] {args:=args}=true:=(pre_splitW U).2;obtain⟨d,r,rfl,h1,h2⟩:=hasAllW_cons a1;obtain rfl:=hasAllW_nil h2;obtain⟨xs,rfl,Z⟩:=hasW_list h1;obtain⟨ns,rfl⟩:=items_int Z
 have a0:ns.length<=n:=by
  unfold OpenLaw.pre at O
  have F:(WTm.not (.lt (.lit (.int (n:Int))) (.len (.arg 0)))).holds [] {args:=[.list (ns.map .int)]}=true:=by have F:=(holds_andW O).1;rw[hn] at F;exact F
  have J:=condW_of F (w_not (w_lt w_lit (w_len_list (w_arg rfl))));rw[A01] at J;refine Nat.le_of_not_lt λq=>?_;have q':(n:Int)<((ns.length:Nat):Int):=by omega
  first
   | (rw[A16 q'] at J;exact absurd J nofun)
   | (simp at J;omega)
 cases a2 with
 |cons w1 w2=>
   cases w2
   cases w1 with
   |list ho hall=>exact⟨_,_,ns,rfl,rfl,ho,Oz ns _ hall,a0⟩
theorem a98 (l:OpenLaw)(args:List WData):l.row.toRowW.claim.post args (.bool true) args=true:=
 postW_of (r:=l.row.toRowW) (X:=(true==true))
  (show WShape.has [] (.bool true) .bool=true by first | rfl | decide | simp[WShape.has,WShape.arms,WShape.armsAll])
  (show(WTm.eq .res (.lit (.bool true))).value [] {args:=args,res:=some (.bool true),after:=args}=some (.bool (true==true)) from w_eq_bool (w_res rfl) w_lit) rfl
theorem attach_call {l:OpenLaw}{n:Nat}{q:Program}{a0:List Str}{U:(Str->Option Value)->Heap->Prop}{Z:World->Heap->Prop}{d:DefRec}
  (hn:l.most=some n) (hdf:d.params.defaults=[])
  (call:∀(w:World) (s₀ F:Shared) (mg mb:Str->Option Value) (J:Addr) (o:Obj) (pm cd O:Value) (a:Addr) (vs:List Value) (ns:List Int),
   Ground q a0 [] U w s₀ mg mb F.heap->Z w F.heap ->
   F.heap.get? J=some o->o.data = .func (docDef d.name d.params d.body d.scope pm cd O)->F.heap.CodeRec cd d.name->mg d.name=some (.ref J) ->
   F.heap.get? a=some {cls:=.type "list",data:=.seq vs.toArray}->IntsAre vs ns->ns.length<=n->F.gens = #[] ->
   codeAny (model l.prog w) callerA (.call (.ref J) ⟨[.ref a],[]⟩) (λr s'=>r = .ok (.ret (.bool true))/\OldK F.heap s'.heap/\s'.os=F.os/\AllBare s'.gens) F) :
  WalkO q a0 U Z l.row.toRowW d [] (λf vs=>PySem.call f vs):=by
 intro w s₀ F mg mb G Y J o pm cd O dV kV ho hd hcd hD hmg hg args vals as hpre hlay hrd hwl hlo;obtain rfl:dV = .none:=Dflts.none hD hdf;obtain rfl:kV = .none:=Dflts.noKw hD;obtain⟨a,vs,ns,rfl,rfl,hobj,hints,hlen⟩:=a90 hn hpre hwl;refine enter_call (codeAny_mono (call w s₀ F mg mb J o pm cd O a vs ns G Y ho (fd_plain hd) hcd hmg hobj hints hlen hg) λr s' hq=>?_);obtain⟨rfl,h2,h3,h4⟩:=hq;exact⟨.inl ⟨.bool true,.bool true,[],rfl,λ_=>rfl,.bool true,a98 l _,λ_=>⟨List.Pairwise.nil,λ_ hm=>(nomatch hm)⟩⟩,h2,h3,h4⟩
section
variable {prog:Program}{w:World}{A:Around}{E:Value->Shared->Prop}{s:Shared}{K:Frag}
end
end Att
namespace L2
open PySem PySem.Spec PyProof.Rows
theorem Vp:∀ {vs:List Value} {ns:List Int},IntsAre vs ns->Vals (ns.map V.int) vs
 |_,_,.nil=>.nil
 |_,_,.cons n t h=>.cons ⟨t,rfl⟩ (Vp h)
def We (s:Stmt)(j:Nat):Stmt:=match s with
 |.ClassDef _ _ _ body _ _ _ _ _ _ _=>body.getD j (.Pass ⟨0,0,0,0⟩)
 |_=>.Pass ⟨0,0,0,0⟩
def Ae (s:Stmt):Arguments:=match s with
 |.FunctionDef _ a _ _ _ _ _ _ _ _=>a
 |_=>{posonlyargs:=[],args:=[],vararg:=none,kwonlyargs:=[],kw_defaults:=[],kwarg:=none,defaults:=[]}
def Ac (s:Stmt):List Stmt:=match s with
 |.FunctionDef _ _ b _ _ _ _ _ _ _=>b
 |_=>[]
def A4 (s:Stmt):Scope:=match s with
 |.FunctionDef _ _ _ _ _ _ sc _ _ _=>sc
 |_=>{kind:=.function,names:=[],isGenerator:=false,isCoroutine:=false}
abbrev CX0:CXT:=λ_ _ _ _ _ _=>False
abbrev E0:XK:=λ_ _ _=>False
theorem aA2 {X:Cx}:Qx CX0 X E0:=λ_ _ _ _ _ _ _ h=>h.elim
structure Fun (K:W.Frag)(x qual:Str)(st:Stmt)(f:Addr)(fd:FuncData):Prop where
 ex:∃(oc:Value) (od:Option Addr) (kV doc pm:Value) (an:Option Addr) (cdv ct:Value) (osl:Array (Option Value)),
  fd=W.fnOf x qual (Ae st) (Ac st) (A4 st) .none kV doc pm an cdv ct/\K.lookup f=some ⟨oc,od,.func fd,osl⟩/\W.codeIn K cdv qual=true
 kp:W.keepIn K (.ref f)=true
section
variable {P:Program}{w:World}{K:W.Frag}{mg:Str->Option Value}{base:Heap}
theorem Fun.ok {x qual:Str}{st:Stmt}{f:Addr}{fd:FuncData}{N ps:List Str}{k:Nat}{sp:Sp}(F:Fun K x qual st f fd)(S:Aj N ps (A4 st))(len:∀ vs H Q E,sp vs H Q E->vs.length=ps.length)
  (O:∀(J:Value) (A:Around) (outer:List Env) (s:Shared) (H:Hp) (vs:List V) (Q:VK) (E:XK),Room k (A.deeper (envOfC qual (A4 st) s.heap.objs.size f J))->sp vs H Q E ->
   ∃ t,PSs (az2 CX0 P w K mg base N qual (A4 st) f J A outer s H E).nox (Ac st) t/\t {nx:=λ_ H'=>Q .non H',rt:=Q} (start N vs) H):FnOk P w K mg base CX0 (k+1) f fd ps sp:=by
 obtain⟨oc,od,kV,a0,pm,an,J,ct,osl,rfl,lk,U⟩:=F.ex;refine aO1 lk U S len λA outer s H vs Q E Y Z=>?_;obtain⟨t,h,q⟩:=O J A outer s H vs Q E Y Z;exact⟨t,h.nox,q⟩
theorem Fun.binds {x qual:Str}{st:Stmt}{f:Addr}{fd:FuncData}{ps:List Str}(F:Fun K x qual st f fd)
  (h:∀(kV J pm:Value) (an:Option Addr) (q ct:Value) (us:List Value),us.length=ps.length->bindArgs (W.fnOf x qual (Ae st) (Ac st) (A4 st) .none kV J pm an q ct) ⟨us,[]⟩=pure (ps.zip us)):Binds K fd ps []:=by
 obtain⟨oc,od,kV,J,pm,an,q,ct,osl,rfl,lk,O⟩:=F.ex;exact .all (h kV J pm an q ct)
theorem At {x qual:Str}{st:Stmt}{f:Addr}{oc:Value}{od an:Option Addr}{osl:Array (Option Value)}{kV F pm q ct:Value}(l:K.lookup f=some ⟨oc,od,.func (W.fnOf x qual (Ae st) (Ac st) (A4 st) .none kV F pm an q ct),osl⟩)
  (c:W.codeIn K q qual=true) (k:W.keepIn K (.ref f)=true):Fun K x qual st f (W.fnOf x qual (Ae st) (Ac st) (A4 st) .none kV F pm an q ct):=⟨⟨oc,od,kV,F,pm,an,q,ct,osl,rfl,l,c⟩,k⟩
end
theorem Bf {A:Around}{k:Nat}(q:Room k A):A.units+1<cLine:=Nat.lt_of_le_of_lt (Nat.add_le_add_left (by decide:1<=64) _) q.units
theorem ae6 {n:Nat}(h:n<=1000):n<sizeLine:=Nat.lt_of_le_of_lt h nofun
section
variable {X:Cx}
theorem pv (i:Nat){x:Str}{pos:Pos}(q:X.N[i]? = some x:=by ac_nf)(J:Vis X.env.scope x:=by with_unfolding_all first | exact Or.inl rfl | exact A3I (Or.inl rfl) | exact A3I (A3I rfl))(hd:(x==("__debug__":Str))=false:=by decide)
  (F:(x==("__classdict__":Str))=false:=by decide):PE X (.Name x pos) (aR5 i):=aF3 q J hd F
end
theorem iteF {A B:Prop}(h:B):if false=true then A else B:=by rw[A0P A0M];exact h
theorem iteT {A B:Prop}(h:A):if true=true then A else B:=by rw[A0X rfl];exact h
theorem aW2 {c A B:Prop}[Decidable c](h1:c->A)(h2:¬ c->B):if c then A else B:=by
 by_cases h:c
 . rw[A0X h];exact h1 h
 rw[A0P h];exact h2 h
def Same (H H':Hp):Prop:=∀ b o,H b=some o->H' b=some o
theorem Same.refl (H:Hp):Same H H:=λ_ _ h=>h
theorem Same.trans {H H1 H2:Hp} (a:Same H H1) (b:Same H1 H2):Same H H2:=λc o h=>b c o (a c o h)
theorem Same.free {H H':Hp}(e:Same H H'){l:Addr}(h:H' l=Option.none):H l=Option.none:=by
 cases q:H l with
 |none=>rfl
 |some o=>
   rw[e l o q] at h
   cases h
theorem Same.seq {K:W.Frag}{H H':Hp}{a:Addr}{xs:List V}(e:Same H H')(h:SqL K H a xs):SqL K H' a xs:=by
 rcases h with (h|⟨o,h⟩)|h
 . exact .inl (.inl (e _ _ h))
 . exact .inl (.inr ⟨o,e _ _ h⟩)
 exact .inr h
section
variable {X:Cx}
theorem ai3:CallR X (.builtin "len") (λxs H Q=>∃ a kvs,xs=[V.ref a]/\H a=some (.dK kvs)/\Q (.int kvs.length) H):=by
 intro pins s σ H xs us Q I r h;obtain⟨a,kvs,rfl,ha,q⟩:=h;obtain⟨u,rfl,J⟩:=J4 r
 cases J;exact aU3 I (.inl ha) λt s' F=>⟨.int kvs.length,H,F,⟨t,rfl⟩,q⟩
end
section
variable {κ:Type}[DecidableEq κ]
theorem ap3 {kvs:List (κ×V)}{k:κ}(h:Ck kvs k=none):¬ k∈kvs.map (·.1):=by intro m;obtain⟨p,hp,e⟩:=A0I.mp m;have q:(kvs.any λkv=>decide (kv.1=k))=true:=A1E.mpr ⟨p,hp,A16 e⟩;rw [Ih,h] at q;exact absurd q (by simp)
theorem af1:∀ {l:List κ} {k:κ},l.Nodup->¬ k∈l->(l++[k]).Nodup
 | [],k,_,_=>by simp
 |a :: r,k,h,hk=>by
   obtain⟨h1,h2⟩:=A0Y.mp h;show(a :: (r++[k])).Nodup;refine A0Y.mpr ⟨λm=>?_,af1 h2 λm=>hk (A0B.mpr (A3I m))⟩;rcases A0A.mp m with q|q
   . exact h1 q
   exact hk (A0B.mpr (Or.inl (A0K.mp q).symm))
theorem av2 {kvs:List (κ×V)}{k:κ}(v:V)(hn:(kvs.map (·.1)).Nodup)(h:Ck kvs k=none):((Ge kvs k v).map (·.1)).Nodup:=by rw[Jv v h,A0T];exact af1 hn (ap3 h)
end
def Ln (env:Env)(names:List (Str×NameKind))(acc:List (Str×Addr)):List (Str×Addr):=
 names.foldl (λacc y=>if y.2==NameKind.free then(y.1,(env.cells.lookup y.1).getD 0) :: acc else acc) acc
theorem M9 {env:Env}{scope:Scope}(h:∀ y∈scope.names,y.2=NameKind.free->∃ c,env.cells.lookup y.1=some c):closureFor scope env=pure (Ln env scope.names []):=by
 have all:∀(names:List (Str×NameKind)) (acc:List (Str×Addr)),(∀ y∈names,y.2=NameKind.free->∃ c,env.cells.lookup y.1=some c) ->
   (forIn names acc λ(y:Str×NameKind) (O:List (Str×Addr))=>(match y with
    | (name,kind)=>if(kind==NameKind.free)=true then do let c <- cellOf env name;pure (ForInStep.yield ((name,c) :: O)) else pure (ForInStep.yield O):Sem (ForInStep (List (Str×Addr)))))=(pure (Ln env names acc):Sem (List (Str×Addr))):=by
  intro names
  induction names with
  |nil=>intro acc _;rfl
  |cons y r ih=>
    intro acc J;obtain⟨n,k⟩:=y;rw[List.forIn_cons]
    by_cases Y:k=NameKind.free
    . subst Y;obtain⟨c,U⟩:=J (n,.free) A0D rfl;have e:cellOf env n=pure c:=by unfold cellOf;rw[show env.cells.lookup n=some c from U]
      have F:Ln env ((n,NameKind.free) :: r) acc=Ln env r ((n,c) :: acc):=by unfold Ln;rw[A4R];simp only[beq_self_eq_true,if_true];rw[show env.cells.lookup n=some c from U];rfl
      rw[F,<- ih ((n,c) :: acc) λz hz=>J z (A09 _ hz)];simp only[beq_self_eq_true,if_true,e];rfl
    have hb:(k==NameKind.free)=false:=by simpa using Y
    have F:Ln env ((n,k) :: r) acc=Ln env r acc:=by unfold Ln;rw[A4R];simp only[hb,Bool.false_eq_true,if_false]
    rw[F,<- ih acc λz hz=>J z (A09 _ hz)];simp only[hb,Bool.false_eq_true,if_false];rfl
 have q:=all scope.names [] h;unfold closureFor
 first
  |exact q
  | (simp only[bind_pure];exact q)
  | (refine Eq.trans ?_ q;rfl)
theorem Xk {env:Env}{x:Str}{c:Addr}:∀ {names:List (Str×NameKind)} {acc:List (Str×Addr)},(∀ y∈names,y.2=NameKind.free->∃ c,env.cells.lookup y.1=some c)->(acc.lookup x=some c->env.cells.lookup x=some c) ->
  (Ln env names acc).lookup x=some c->env.cells.lookup x=some c
 | [],acc,_,ha,h=>ha h
 | (n,k) :: r,acc,hn,ha,h=>by
   have e:Ln env ((n,k) :: r) acc=Ln env r (if k==NameKind.free then(n,(env.cells.lookup n).getD 0) :: acc else acc):=rfl
   rw[e] at h;refine Xk (λy U=>hn y (A09 _ U)) (λq=>?_) h
   by_cases J:k=NameKind.free
   . subst J;simp only[beq_self_eq_true,if_true,List.lookup_cons] at q;obtain⟨d,hd⟩:=hn (n,.free) A0D rfl;have F:env.cells.lookup n=some d:=hd
     split at q
     . rename_i hx;have O:x=n:=A35.mp hx;rw[F] at q;rw[O,F];exact q
     exact ha q
   have hb:(k==NameKind.free)=false:=by simpa using J
   simp only[hb,Bool.false_eq_true,if_false] at q;exact ha q
theorem Rb {env:Env}{x:Str}:∀ {names:List (Str×NameKind)} {acc:List (Str×Addr)},((∃ c,acc.lookup x=some c)\/(x,NameKind.free)∈names)->∃ c,(Ln env names acc).lookup x=some c
 | [],acc,h=>by
   rcases h with h|h
   . exact h
   cases h
 | (n,k) :: r,acc,h=>by
   have e:Ln env ((n,k) :: r) acc=Ln env r (if k==NameKind.free then(n,(env.cells.lookup n).getD 0) :: acc else acc):=rfl
   rw[e];refine Rb ?_
   by_cases F:k=NameKind.free
   . subst F;simp only[beq_self_eq_true,if_true,List.lookup_cons]
     by_cases J:x=n
     . left;have hb:(x==n)=true:=A35.mpr J;rw[hb];exact⟨_,rfl⟩
     have hb:(x==n)=false:=A1T.mpr J;rw[hb];rcases h with h|h
     . exact .inl h
     rcases A0B.mp h with q|q
     . cases q;exact absurd rfl J
     exact .inr q
   have hb:(k==NameKind.free)=false:=by simpa using F
   simp only[hb,Bool.false_eq_true,if_false];rcases h with h|h
   . exact .inl h
   rcases A0B.mp h with q|q
   . cases q;exact absurd rfl F
   exact .inr q
theorem Eg:∀(names:List (Str×NameKind)) (n:Nat) (acc:List (Str×Addr)),cellsFrom n names acc=cellsFrom n names []++acc
 | [],_,_=>rfl
 | (x,k) :: r,n,acc=>by
   unfold cellsFrom
   split
   . rw[Eg r (n+1) ((x,n) :: acc),Eg r (n+1) [(x,n)],A21];rfl
   exact Eg r n acc
theorem M3 {x:Str}{c:Addr}:∀ {names:List (Str×NameKind)} {n:Nat},(x,c)∈cellsFrom n names []->(x,NameKind.cell)∈names
 | [],_,h=>by cases h
 | (y,k) :: r,n,h=>by
   unfold cellsFrom at h
   split at h
   . rename_i hk;rw[Eg] at h;rcases A0A.mp h with h|h
     . exact A09 _ (M3 h)
     have e:=A0K.mp h
     cases e;rw[A35.mp hk];exact A0D
   exact A09 _ (M3 h)
theorem Od {α:Type}{x:Str}{c:α}:∀ {l:List (Str×α)},(x,c)∈l->∃ d,l.lookup x=some d
 | [],h=>by cases h
 | (y, d) :: r,h=>by
   rw[A1N]
   cases e:x==y with
   |true=>exact⟨d,rfl⟩
   |false=>
     rcases A0B.mp h with q|q
     . cases q;simp at e
     exact Od q
theorem Lj {x:Str}:∀ {names:List (Str×NameKind)} {n:Nat},(x,NameKind.cell)∈names->∃ c,(x,c)∈cellsFrom n names []
 | [],_,h=>by cases h
 | (y,k) :: r,n,h=>by
   unfold cellsFrom
   split
   . rw[Eg];rcases A0B.mp h with q|q
     . cases q;exact⟨n,List.mem_append_right _ (by simp)⟩
     obtain⟨c,F⟩:=Lj (n:=n+1) q;exact⟨c,A0L _ F⟩
   rename_i hk;rcases A0B.mp h with q|q
   . cases q;exact absurd rfl hk
   exact Lj q
def Xh (outer scope:Scope)(xs fr:List Str):Bool:=
 (scope.kind == .function)&&(outer.kind == .function)&&decide (scope.names.map (·.1)).Nodup
 && (scope.names.all λy=>y.2 != .local||scope.names.lookup y.1==some .local)
 && (scope.names.all λy=>y.2 != .free||(outer.names.lookup y.1==some .cell||outer.names.lookup y.1==some .free))
 && (scope.names.all λy=>y.2 != .free||scope.names.lookup y.1==some .free)
 && (xs.all λx=>scope.names.lookup x==some .local||scope.names.lookup x==some .cell)&&(fr.all λx=>scope.names.lookup x==some .free)&&decide (xs++fr).Nodup
theorem Ds {α:Type}{x:Str}{v:α}:∀ {l:List (Str×α)},l.lookup x=some v->(x,v)∈l
 | [],h=>by cases h
 | (n,k) :: r,h=>by
   rw[A1N] at h
   split at h
   . rename_i hx;have q:x=n:=A35.mp hx
     cases h;rw[q];exact A0D
   exact A09 _ (Ds h)
theorem K5 {scope:Scope}{env:Env}{x:Str}{k:NameKind}(U:env.scope.kind = .function):∀ {names:List (Str×NameKind)},names.lookup x=some k ->
  (names.map λ(n,k)=>if(k==NameKind.free&&env.scope.kind == .function&&env.kindOf n==some .cell) then(n,NameKind.cell) else(n,k)).lookup x=some (if(k==NameKind.free&&env.kindOf x==some .cell) then .cell else k)
 | [],h=>by cases h
 | (n,j) :: r,h=>by
   have Y:=@K5 scope env x k U r;rw[A0H];rw[A1N] at h;dsimp only
   split at h
   . rename_i hx;have J:x=n:=A35.mp hx
     cases h;subst J
     by_cases F:(k==NameKind.free&&env.scope.kind == .function&&env.kindOf x==some .cell)=true
     . have O:(k==NameKind.free&&env.kindOf x==some .cell)=true:=by rw[A15,A15] at F;rw[A15];exact⟨F.1.1,F.2⟩
       rw[A0X F,A0X O,A1N,beq_self_eq_true]
     have O:¬ (k==NameKind.free&&env.kindOf x==some .cell)=true:=λq=>F (by rw[A15] at q;rw[A15,A15,U];exact⟨⟨q.1,rfl⟩,q.2⟩)
     rw[A0P F,A0P O,A1N,beq_self_eq_true]
   rename_i hx;have J:(x==n)=false:=by simpa using hx
   by_cases F:(j==NameKind.free&&env.scope.kind == .function&&env.kindOf n==some .cell)=true
   . rw[A0X F,A1N,J];exact Y h
   rw[A0P F,A1N,J];exact Y h
theorem Hw {env:Env} {x:Str} {k:NameKind}:∀ {names:List (Str×NameKind)},
  (names.map λ(n,k)=>if(k==NameKind.free&&env.scope.kind == .function&&env.kindOf n==some .cell) then(n,NameKind.cell) else(n,k)).lookup x=some k ->
  ∃ j,names.lookup x=some j/\(k=j\/(j = .free/\k = .cell))
 | [],h=>by cases h
 | (n,j) :: r,h=>by
   have F:=@Hw env x k r;rw[A0H] at h;dsimp only at h
   by_cases q:(j==NameKind.free&&env.scope.kind == .function&&env.kindOf n==some .cell)=true
   . rw[A0X q,A1N] at h
     have J:j = .free:=by rw[A15,A15] at q;exact A35.mp q.1.1
     rw[A1N]
     split at h
     . rename_i hx
       cases h;exact⟨j,rfl,.inr ⟨J,rfl⟩⟩
     rename_i hx;have O:(x==n)=false:=by simpa using hx
     exact F h
   rw[A0P q,A1N] at h;rw[A1N]
   split at h
   . rename_i hx
     cases h;exact⟨_,rfl,.inl rfl⟩
   rename_i hx;have O:(x==n)=false:=by simpa using hx
   exact F h
structure CompS (X:Cx)(scope:Scope)(xs fr:List Str):Prop where
 kind:scope.kind = .function
 okind:X.env.scope.kind = .function
 uniq:(scope.names.map (·.1)).Nodup
 names:∀ y∈scope.names,y.2 = .local->scope.names.lookup y.1=some .local
 free:∀ y∈scope.names,y.2 = .free->X.env.kindOf y.1=some .cell\/X.env.kindOf y.1=some .free
 own:∀ x∈xs,scope.names.lookup x=some .local\/scope.names.lookup x=some .cell
 fre:∀ x∈fr,scope.names.lookup x=some .free
 nd:(xs++fr).Nodup
theorem Y6 {X:Cx}{scope:Scope}{xs fr:List Str}(h:Xh X.env.scope scope xs fr=true):CompS X scope xs fr:=by unfold Xh at h;simp only[Bool.and_eq_true,List.all_eq_true,bne_iff_ne,Bool.or_eq_true,beq_iff_eq,decide_eq_true_eq] at h;obtain⟨⟨⟨⟨⟨⟨⟨⟨h1,h2⟩,J⟩,O⟩,U⟩,h6⟩,Y⟩,Z⟩,h9⟩:=h;exact⟨h1,h2,J,λy F e=>(O y F).resolve_left (λq=>q e),λy F e=>(U y F).resolve_left (λq=>q e),Y,Z,h9⟩
def Py (σ:St)(js:List Nat):St:=js.map λj=>(σ[j]?).getD none
abbrev cxC (X:Cx)(scope:Scope)(xs fr:List Str)(C:Addr)(ex:List Addr)(s₀:Shared)(H₀:Hp):Cx:=
 {X with N:=xs++fr,env:=compEnvC scope (cellsFrom (C+1) scope.names (Ln X.env scope.names [])) C X.env,s₀:=s₀,H₀:=H₀,outer:=X.stack,ex:=ex,fn:=λx=>scope.names.lookup x==some .cell,pn:=[],xe:=λ_ _=>False}
section
variable {X:Cx}{scope:Scope}{xs fr:List Str}{pins:List (Addr×Obj)}{σ:St}{H:Hp}{s:Shared}{js:List Nat}{fp:List Addr}
theorem Vl {α:Type}{x:Str}{v:α}:∀ {l:List (Str×α)},(l.map (·.1)).Nodup->(x,v)∈l->l.lookup x=some v
 | [],_,h=>by cases h
 | (y,d) :: r,hn,h=>by
   obtain⟨h1,h2⟩:=A0Y.mp hn;rw[A1N];rcases A0B.mp h with q|q
   . cases q;rw[beq_self_eq_true]
   have F:(x==y)=false:=A1T.mpr λe=>h1 (e ▸ A0I.mpr ⟨(x,v),q,rfl⟩);rw[F];exact Vl h2 q
theorem CompS.cells (S:CompS X scope xs fr)(ok:X.Ok):∀ y∈scope.names,y.2=NameKind.free->∃ c,X.env.cells.lookup y.1=some c:=λy q e=>ok.has _ (S.free y q e)
theorem am7 (S:CompS X scope xs fr)(a7:js.map (λj=>X.N[j]?)=fr.map some)(I:Inv X pins σ H s)(a4:∀ b∈fp,Xw X pins H b)(aD:∀ b∈fp,∃ o,s.heap.get? b=some o){h':Heap}{t':Nat}
  (hn:h'.Ns s.heap.objs.size λ_=>none) (keep:∀ b o,s.heap.get? b=some o->h'.get? b=some o) (a3:CellsOk h' (s.heap.objs.size+1) (cellsFrom (s.heap.objs.size+1) scope.names [])) :
  Inv (cxC X scope xs fr s.heap.objs.size fp s H) [] (List.replicate xs.length none++Py σ js) H {s with heap:=h',toks:=t'}:=by
 have aA:=S.cells I.ok;have sub:∀ x c,(Ln X.env scope.names []).lookup x=some c->X.env.cells.lookup x=some c:=λx c h=>Xk aA (λq=>by cases q) h;have hl:js.length=fr.length:=by have:=congrArg List.length a7;rwa[A01,A01] at this
 have two:∀ x c,(cellsFrom (s.heap.objs.size+1) scope.names (Ln X.env scope.names [])).lookup x=some c->(x,c)∈cellsFrom (s.heap.objs.size+1) scope.names []\/(Ln X.env scope.names []).lookup x=some c:=λx c h=>by
  rw[Eg,A4A] at h
  cases e:(cellsFrom (s.heap.objs.size+1) scope.names []).lookup x with
  |some d=>
    rw[e] at h
    cases h;exact .inl (Ds e)
  |none=>rw[e] at h;exact .inr h
 have a8:∀ x c,X.env.cells.lookup x=some c->c<s.heap.objs.size:=λx c h=>let ⟨_,_,U,_⟩:=I.cell x c h;A0F U;have a0:∀ x c,(x,c)∈cellsFrom (s.heap.objs.size+1) scope.names []->s.heap.objs.size<c:=λx c h=>(a3.empty x c h).2
 refine⟨⟨I.ok.mod,S.kind,I.ok.glob,I.ok.blt,A08 _,λx y c h1 h2=>?_,λx Z=>?_,λx c hf h=>?_,I.ok.hd,I.ok.frames,.inl rfl,λb hb=>?_,λb o e=>I.bs b o e,A0O I.ok.bsz I.sz,λb o e hb=>?_,λb hb a9=>?_,I.stack,I.stkFree⟩,
  rfl,I.bare,Un.kept keep,⟨_,hn,λi x v e1 J e3=>?_⟩,λx c h=>?_,I.hok.fresh (Nat.le_refl _),λx c h=>?_,λp hp=>absurd (show p∈([]:List (Addr×Obj)) from hp) (by simp),I.hok.kept keep,?_⟩
 . rcases two x c h1 with g1|g1
   . rcases two y c h2 with g2|g2
     . exact name_of_addr a3.apart g1 g2
     exact absurd (a8 y c (sub y c g2)) (Nat.not_lt.mpr (A2H (a0 x c g1)))
   rcases two y c h2 with g2|g2
   . exact absurd (a8 x c (sub x c g1)) (Nat.not_lt.mpr (A2H (a0 y c g2)))
   exact I.ok.inj x y c (sub x c g1) (sub y c g2)
 . -- the names that are cells there have one
   have Z:(relabel scope X.env).names.lookup x=some .cell\/(relabel scope X.env).names.lookup x=some .free:=Z
   have app:∀ c,(Ln X.env scope.names []).lookup x=some c\/(x,c)∈cellsFrom (s.heap.objs.size+1) scope.names []->∃ c,(cellsFrom (s.heap.objs.size+1) scope.names (Ln X.env scope.names [])).lookup x=some c:=λc h=>by
    rw[Eg,A4A];rcases h with h|h
    . cases (cellsFrom (s.heap.objs.size+1) scope.names []).lookup x with
      |some d=>exact⟨d,rfl⟩
      |none=>exact⟨c,h⟩
    obtain⟨d,hd⟩:=Od h;rw[hd];exact⟨d,rfl⟩
   have go:∀ k,(relabel scope X.env).names.lookup x=some k->(k = .cell\/k = .free)->∃ c,(cellsFrom (s.heap.objs.size+1) scope.names (Ln X.env scope.names [])).lookup x=some c:=λk e F=>by
    obtain⟨j,hj,q⟩:=Hw (env:=X.env) (names:=scope.names) e;have hm:=Ds hj
    have a1:j = .free\/j = .cell:=by
     rcases q with q|q
     . rcases F with F|F
       . exact .inr (q ▸ F)
       exact .inl (q ▸ F)
     exact .inl q.1
    rcases a1 with a1|a1
    . subst a1;obtain⟨c,O⟩:=Rb (env:=X.env) (x:=x) (names:=scope.names) (acc:=[]) (.inr hm);exact app c (.inl O)
    subst a1;obtain⟨c,O⟩:=Lj (n:=s.heap.objs.size+1) hm;exact app c (.inr O)
   rcases Z with Z|Z
   . exact go _ Z (.inl rfl)
   exact go _ Z (.inr rfl)
 . rcases two x c h with g|g
   . exact A2H (a0 x c g)
   have aB:scope.names.lookup x=some .cell:=by simpa using hf
   obtain⟨d,hd⟩:=Lj (n:=s.heap.objs.size+1) (Ds aB);have h':=h;obtain⟨e,he⟩:=Od hd;have h':(cellsFrom (s.heap.objs.size+1) scope.names (Ln X.env scope.names [])).lookup x=some c:=h;rw[Eg,A4A,he] at h'
   cases h';exact A2H (a0 x _ (Ds he))
 . obtain⟨f0,f1,f2,Y,f4,f5⟩:=a4 b hb;obtain⟨o,U⟩:=aD b hb;refine⟨A11 (A0F U),λx c h z=>?_⟩;rcases two x c h with g|g
   . have h1:=a0 x c g;have h2:=A0F U;rw[<- z] at h2;exact absurd h1 (Nat.not_lt.mpr (A2H h2))
   exact f4 x c (sub x c g) z
 . obtain⟨f0,f1,f2,Y,f4,f5⟩:=a4 b hb;rcases Y with Y|Y
   . exact I.ok.noex b o e Y
   exact absurd (A18 (A0F (I.ok.bs b o e).1) Y) (A1O _)
 . obtain⟨f0,f1,f2,Y,f4,f5⟩:=a4 b hb;rcases A0B.mp (I.stkSub b a9) with z|z
   . exact f1 z
   exact f2 z
 . have e1:(xs++fr)[i]? = some x:=e1
   by_cases hi:i<xs.length
   . rw[A1S (by rw[A2I];exact hi),A4K,A0X hi] at J
     cases J
   have a6:xs.length<=i:=Nat.le_of_not_lt hi;rw[A39 a6] at e1;rw[A39 (by rw[A2I];exact a6),A2I] at J;unfold Py at J;rw[A07] at J
   cases ej:js[i-xs.length]? with
   |none=>rw[ej] at J;cases J
   |some j=>
     rw[ej] at J;have a2:(σ[j]?).getD none=some v:=A13 J
     have e4:σ[j]? = some (some v):=by
      cases q:σ[j]? with
      |none=>rw[q] at a2;cases a2
      |some o=>rw[q] at a2;rw[show o=some v from a2]
     have e5:X.N[j]? = some x:=by have:=congrArg (λl=>l[i-xs.length]?) a7;rw[A07,A07,ej,e1] at this;exact A13 this
     have hf:=S.fre x (A04 e1);have F:=S.free _ (Ds hf) rfl;obtain⟨m,hm,aC⟩:=I.loc;obtain⟨u,r,lk⟩:=aC j x v e5 e4 (.inr F);refine⟨u,r,.inr ⟨?_,?_⟩⟩
     . have q:=K5 (scope:=scope) (env:=X.env) S.okind hf;show(relabel scope X.env).names.lookup x=some .cell\/(relabel scope X.env).names.lookup x=some .free;have q':(relabel scope X.env).names.lookup x=some (if(NameKind.free==NameKind.free&&X.env.kindOf x==some .cell) then .cell else .free):=q
       by_cases O:(NameKind.free==NameKind.free&&X.env.kindOf x==some .cell)=true
       . rw[A0X O] at q';exact .inl q'
       rw[A0P O] at q';exact .inr q'
     obtain⟨c',a5⟩:=Rb (env:=X.env) (x:=x) (names:=scope.names) (acc:=[]) (.inr (Ds hf));rcases lk with ⟨z,_⟩|⟨_,c,O,ob,U,hd⟩
     . rcases F with F|F
       . rw[z] at F;cases F
       rw[z] at F;cases F
     have e6:c=c':=by have:=sub x c' a5;rw[O] at this;exact A13 this
     subst e6;refine⟨_,?_,ob,keep _ _ U,hd⟩;show(cellsFrom (s.heap.objs.size+1) scope.names (Ln X.env scope.names [])).lookup x=some c;rw [Eg,A4A]
     have aE:(cellsFrom (s.heap.objs.size+1) scope.names []).lookup x=none:=by
      cases e:(cellsFrom (s.heap.objs.size+1) scope.names []).lookup x with
      |none=>rfl
      |some d=>
        have:=Vl S.uniq (M3 (Ds e));rw[hf] at this
        cases this
     rw[aE];exact a5
 . rcases two x c h with g|g
   . exact⟨_,(a3.empty x c g).1⟩
   obtain⟨v,ob,U,hd⟩:=I.cell x c (sub x c g);exact⟨v,ob,keep _ _ U,hd⟩
 . rcases two x c h with g|g
   . exact I.hok.fresh (A2H (a0 x c g))
   exact I.freeC x c (sub x c g)
 show _=(xs++fr).length;unfold Py;rw[A06,A06,A2I,A01,hl]
theorem af2 {M:Model}{A:Around}{E:Value->Shared->Prop}{s:Shared}{scope:Scope}{q:Addr}{cl:List (Str×Addr)}{qual:Str}{env:Env}{Q:Env->Shared->Prop}
  (J:∀ h',h'.Ns s.heap.objs.size (λ_=>none)->(∀ b o,s.heap.get? b=some o->h'.get? b=some o)->CellsOk h' (s.heap.objs.size+1) (cellsFrom (s.heap.objs.size+1) scope.names []) ->
   Q (newEnv scope s.heap.objs.size q (cellsFrom (s.heap.objs.size+1) scope.names cl) qual none .none (some env) builtinsNs) {s with heap:=h'}) :
  wpAny M A (newFunctionEnv scope q cl [] qual none .none (some env)) Q E s:=by
 simp only[newFunctionEnv,Option.isSome_some,if_true];refine A05 (wpAny_alloc ?_);refine wpAny_bind (wpAny_layCells _ (λname kind cells=>by cases hkc:kind==NameKind.cell<;>simp[hkc]) _ _ _ _ ?_)
 have F:=cellsFrom_ok scope.names (s.heap.push {cls:=.type "dict",data:=.dict #[]}) (s.heap.objs.size+1) [] ⟨λ_ _ hm=>(nomatch hm),List.Pairwise.nil⟩ (by rw[A22];exact A08 _);rw[A22] at F;rw[show({s with heap:=s.heap.push {cls:=.type "dict",data:=.dict #[]}}:Shared).heap.objs.size=s.heap.objs.size+1 from A22 ..]
 rw[List.forIn_nil];exact A05 (A0C (A0C (J _ ((Heap.Ns.new s.heap (.type "dict")).keeps (pushCells_keeps _ _)) (λb o e=>pushCells_keeps _ _ b o (A02 _ e)) F)))
theorem aj2 {σ':St}{H':Hp}{s':Shared}{a0:Heap}(I:Inv X pins σ H s)(a1:∀ b∈fp,Xw X pins H b)(J:Inv (cxC X scope xs fr s.heap.objs.size fp s H) [] σ' H' s')(Y:Heap.SameBut s.heap.objs.size s'.heap a0) :
  Inv X pins σ H' {s' with heap:=a0}:=by
 have old:∀ b o,s.heap.get? b=some o->b≠s.heap.objs.size:=λb o e=>A11 (A0F e);have F:Un (frs X.stack) fp H H' s.heap s'.heap:=J.base;refine I.call' (s':={s' with heap:=a0}) (ch:=fp) J.os ⟨λb o e n hb U=>(Y.2 b (old b o e)).trans (F.keep b o e n hb U),λb o e n hb U=>?_,F.free,λb o e U=>?_,F.tups,F.frzs,F.tbls⟩ (λb o e=>?_) J.bare λb hb=>?_
 . obtain⟨sl,Z⟩:=F.slot b o e n hb U;exact⟨sl,(Y.2 b (old b o e)).trans Z⟩
 . obtain⟨o',Z⟩:=F.there b o e U;exact⟨o',(Y.2 b (old b o e)).trans Z⟩
 . have hf:H' s.heap.objs.size=none:=J.free;refine(J.hok b o e).stay (λc v O q=>(Y.2 c ?_).trans q) (λ_ q=>q) λ_ _ q=>q;intro z;rcases O with O|O
   . rw[<- O,z,hf] at e;cases e
   rw[z,hf] at O;cases O
 obtain⟨f0,f1,f2,f3,f4,f5⟩:=a1 b hb;exact⟨f3,f1,f4,f5⟩
def PIf (X:Cx)(q:List Expr)(t:TT):Prop:=
 ∀(pins:List (Addr×Obj)) (s:Shared) (σ:St) (H:Hp) (Q:Bool->Hp->Prop) (E:Value->Shared->Prop),(∀ e s',X.xe e s'->E e s')->Inv X pins σ H s->t σ H Q ->
  wpAny (model X.prog X.w) X.A (forIn q true λc r=>if r=true then do let ok <- isTrue c X.env (eval c X.env);pure (ForInStep.yield ok) else pure (ForInStep.yield r)) (TP X pins σ Q) E s
def aw6:TT:=λ_ H Q=>Q true H
theorem G1:PIf X [] aw6:=λ_ _ _ H _ _ _ I h=>wpAny_tests_nil ⟨H,I,h⟩
theorem G2 {c:Expr}{t:TT}(F:PT X c t):PIf X [c] t:=λpins s σ H Q _ q I h=>wpAny_tests_one (A2A (F pins s σ H Q I h) (λ_ _ z=>z) q)
def aB3 (k:Nat)(js:List Nat)(U:TI)(g:TG)(tt:TT)(te:TE):TE:=fun σ H Q=>U σ H λJ H1=>∀ p,H1 p=none ->
 ∃ W:Nat->Nat->Hp->Prop,(∃ m,W 0 m (upd H1 p (.lst [])))/\∀ i m H,W i m H ->
  (J.stop i H/\Q (.ref p) H)\/(J.go i H/\∃ N:Hp->Prop,(∀ H',N H'->∃ O,O<m/\W (i+1) O H') /\
   ∀ x H',J.yld i H x H'->g x (List.replicate k none++Py σ js) H' fun σ2 H2=>tt σ2 H2 λb q=>if b=true then te σ2 q λy F=>∃ acc,F p=some (.lst acc)/\acc.length<sizeLine/\N (upd F p (.lst (acc++[y]))) else N q)
theorem a61 {tg q Z:Expr}{F:List Expr}{pos:Pos}{it acc:Value}{env:Env}{A:Around}{R:Result->Shared->Prop}{s:Shared}{P:Program}{w:World}(I:Nat->Shared->Prop)
  (turn:∀ n s,I n s->wpAny (model P w) A (pyNext it) (λr J=>match r with
   |none=>R (.ok .next) J
   |some v=>wpAny (model P w) A (letOwnedTupleGo tg it v) (λ_ a0=>wpAny (model P w) A (assign tg env v) (λ_ s₂=>
     wpAny (model P w) A (forIn F true λc r=>if r=true then do let ok <- isTrue c env (eval c env);pure (ForInStep.yield ok) else pure (ForInStep.yield r)) (λok O=>
      if ok=true then wpAny (model P w) A (eval q env) (λx s₄=>wpAny (model P w) A (call (.builtin "list.append") [acc,x]) (λ_ s₅=>∃ m,m<n/\I m s₅) (λ_ _=>False) s₄) (λ_ _=>False) O
      else ∃ m,m<n/\I m O) (λ_ _=>False) s₂) (λ_ _=>False) a0) (λ_ _=>False) J) (λ_ _=>False) s)
  (n:Nat) (h:I n s):codeAny (model P w) A (.compLoop (.ListComp q [⟨tg,Z,F,0⟩] scope pos) 0 it acc env) R s:=by
 refine codeAny_loop rfl I (λn s hI=>?_) n h;show wpAny _ A ((compTurn (.ListComp q [⟨tg,Z,F,0⟩] scope pos) 0 it acc env).onRaise (λx=>do noteFrame x env;theTreesLotGoes x)) _ _ s
 refine wpAny_noted ?_;rw [compTurn_list];refine A05 (wpAny_standAt (A05 (A2A (turn n s hI) (λr J U=>?_) λ_ _ h'=>h'.elim)))
 cases r with
 |none=>exact A0C U
 |some v=>
   refine A05 (A2A U (λ_ a0 a1=>?_) λ_ _ h'=>h'.elim);refine A05 (A2A a1 (λ_ s₂ h₂=>A05 (A2A h₂ (λok O Y=>?_) λ_ _ h'=>h'.elim)) λ_ _ h'=>h'.elim)
   cases ok with
   |false=>exact A0C ⟨rfl,Y⟩
   |true=>exact A05 (A05 (A2A Y (λx s₄ h₄=>A05 (A2A h₄ (λ_ s₅ h₅=>A0C (A0C ⟨rfl,h₅⟩)) λ_ _ h'=>h'.elim)) λ_ _ h'=>h'.elim))
def aj3 (n:Nat)(g:TG):Prop:=∀ x σ H Q,g x σ H Q->g x σ H fun σ' H'=>(∀ k,n<=k->σ'[k]? = σ[k]?)/\Q σ' H'
def Y7 (n:Nat)(g:TGs):Prop:=∀ vs σ H Q,g vs σ H Q->g vs σ H fun σ' H'=>(∀ k,n<=k->σ'[k]? = σ[k]?)/\Q σ' H'
theorem Bq {n i:Nat}(h:i<n):aj3 n (K8 i):=λx σ H Q q=>⟨λk F=>A3A ∅,q⟩
theorem aL8 {n:Nat}:Y7 n aE2:=λvs σ H Q ⟨e,q⟩=>⟨e,λ_ _=>rfl,q⟩
theorem ab8 {n i:Nat}{u:TGs}(h:i<n)(hu:Y7 n u):Y7 n (Qd (K8 i) u):=λvs σ H Q ⟨v,r,e,q⟩=>by
 refine⟨v,r,e,?_⟩;have U:u r (σ.set i (some v)) H Q:=q;show u r (σ.set i (some v)) H _;have z:=hu _ _ _ _ U
 have J:(λ(σ':St) (H':Hp)=>(∀ k,n<=k->σ'[k]? = (σ.set i (some v))[k]?)/\Q σ' H')=fun σ' H'=>(∀ k,n<=k->σ'[k]? = σ[k]?)/\Q σ' H':=by
  funext σ' H'
  have O:(∀ k,n<=k->σ'[k]? = (σ.set i (some v))[k]?) = ∀ k,n<=k->σ'[k]? = σ[k]?:=by
   refine propext ⟨λf k F=>?_,λf k F=>?_⟩
   . rw[f k F,A3A ∅]
   rw[f k F,A3A ∅]
  rw[O]
 rw[J] at z;exact z
theorem aJ9 {K:W.Frag}{n m:Nat}{u:TGs}(hu:Y7 n u):aj3 n (ax2 K m u):=λx σ H Q ⟨a,xs,e,J,F,q⟩=>⟨a,xs,e,J,F,hu _ _ _ _ q⟩
theorem Xs {tg a2 aE:Expr}{a4:List Expr}{pos:Pos}{g:TG}{tt:TT}{te:TE}(hc:X.calm=true)(S:CompS X scope xs fr)(aP:js.map (λj=>X.N[j]?)=fr.map some)
  (hg:∀ C ex s₀ H₀,PG (cxC X scope xs fr C ex s₀ H₀) tg g) (hk:aj3 xs.length g) (hi:∀ C ex s₀ H₀,PIf (cxC X scope xs fr C ex s₀ H₀) a4 tt) (he:∀ C ex s₀ H₀,PE (cxC X scope xs fr C ex s₀ H₀) a2 te)
  {s2:Shared} {H1:Hp} {R:Value->Addr->Result->Shared->Prop} {Q:VK} {it:Addr} {tn:Nat->Heap->Prop} {J:It} (I:Inv X pins σ H1 s2) (T:aa3 X.prog X.w X.K tg J fp it tn) (st:tn 0 s2.heap) (aO:∀ b∈fp,Xw X pins H1 b)
  (hq:∀ p,H1 p=none->∃ W:Nat->Nat->Hp->Prop,(∃ m,W 0 m (upd H1 p (.lst [])))/\∀ i m H,W i m H ->
   (J.stop i H/\Q (.ref p) H)\/(J.go i H/\∃ N:Hp->Prop,(∀ H',N H'->∃ m',m'<m/\W (i+1) m' H') /\
    ∀ x H',J.yld i H x H'->g x (List.replicate xs.length none++Py σ js) H' fun σ2 H2=>tt σ2 H2 λb q=>if b=true then te σ2 q λy H4=>∃ acc,H4 p=some (.lst acc)/\acc.length<sizeLine/\N (upd H4 p (.lst (acc++[y]))) else N q))
  (hR:∀(p C:Addr) (s':Shared) (H':Hp),(∃ m,s'.heap.Ns C m)->Xw X pins H' C->Inv X pins σ H' s'->Q (.ref p) H'->R (.ref p) C (.ok .next) s') :
  wpAny (model X.prog X.w) X.A (newList []) (λacc s₃=>wpAny (model X.prog X.w) X.A (newFunctionEnv scope X.env.globals (Ln X.env scope.names []) [] X.env.qual none .none (some X.env)) (λa8 Z=>
   codeAny (model X.prog X.w) X.A (.compStart (.ListComp a2 [⟨tg,aE,a4,0⟩] scope pos) 0 (.ref it) acc {a8 with scope:=relabel scope X.env}) (R acc a8.locals) Z) X.xe s₃) X.xe s2:=by
 refine A20 ?_ (by show 0<=sizeLine;exact A2M _);have aQ:H1 s2.heap.objs.size=none:=I.hok.fresh (A08 _);have I3:Inv X pins σ (upd H1 s2.heap.objs.size (.lst [])) {s2 with heap:=s2.heap.push {cls:=.type "list",data:=.seq ([]:List Value).toArray}}:=I.laid (t':=s2.toks) (λb u e=>A02 _ e) (A08 _) ⟨A2M _,[],0,.nil,A0J _ rfl⟩
 obtain⟨W,⟨m0,w0⟩,turn⟩:=hq _ aQ;have aB:∀ b∈fp,∃ o,s2.heap.get? b=some o:=λb hb=>let ⟨o,e,_⟩:=T.obj _ _ st b hb;⟨o,e⟩
 have a0:∀ b∈fp,Xw X pins (upd H1 s2.heap.objs.size (.lst [])) b:=λb hb=>by obtain⟨f0,f⟩:=aO b hb;obtain⟨o,e⟩:=aB b hb;exact⟨by rw[Au (A11 (A0F e))];exact f0,f⟩
 have aS:∀ b∈fp,∃ o,(s2.heap.push {cls:=.type "list",data:=.seq ([]:List Value).toArray}).get? b=some o:=λb hb=>let ⟨o,e⟩:=aB b hb;⟨o,A02 _ e⟩;have aY:tn 0 (s2.heap.push {cls:=.type "list",data:=.seq ([]:List Value).toArray}):=T.keep _ _ _ st λb _ o e=>A02 _ e;generalize aD:({s2 with heap:=s2.heap.push {cls:=.type "list",data:=.seq ([]:List Value).toArray}}:Shared)=s3 at I3 ⊢;have aZ:tn 0 s3.heap:=by rw[<- aD];exact aY
 have aC:∀ b∈fp,∃ o,s3.heap.get? b=some o:=by rw[<- aD];exact aS
 generalize b0:upd H1 s2.heap.objs.size (.lst [])=q at I3 a0 w0;generalize b1:s2.heap.objs.size=p0 at turn ⊢;refine af2 λh₁ aR aA aN=>?_;have U:=am7 (t':=s3.toks) S aP I3 a0 aC aR aA aN;have a1:tn 0 h₁:=T.keep _ _ _ aZ λb hb o e=>aA b o e
 have aF:∀ Z:Shared,Inv (cxC X scope xs fr s3.heap.objs.size fp s3 q) [] (List.replicate xs.length none++Py σ js) q Z->tn 0 Z.heap ->
   codeAny (model X.prog X.w) X.A (.compLoop (.ListComp a2 [⟨tg,aE,a4,0⟩] scope pos) 0 (.ref it) (.ref p0) (compEnvC scope (cellsFrom (s3.heap.objs.size+1) scope.names (Ln X.env scope.names [])) s3.heap.objs.size X.env)) (R (.ref p0) s3.heap.objs.size) Z:=by
  intro Z U a1
  have a6:∀ {H':Hp},(∀ b∈fp,H' b=none)->∀ b∈fp,Xw (cxC X scope xs fr s3.heap.objs.size fp s3 q) [] H' b:=fun {H'} hn b hb=>by obtain⟨f0,f1,f2,f3,f4,f5⟩:=a0 b hb;obtain⟨o,e⟩:=aC b hb;refine⟨hn b hb,Nat.ne_of_lt (Heap.lt_size e),U.ok.exfs b hb,.inl hb,λx c h=>(U.ok.exf b hb).2 x c h,λp hp=>absurd (show p∈([]:List (Addr×Obj)) from hp) (by simp)⟩
  refine a61 (λn s'=>∃ i H',Inv (cxC X scope xs fr s3.heap.objs.size fp s3 q) [] (List.replicate xs.length none++Py σ js) H' s'/\tn i s'.heap/\(∀ b∈fp,H' b=none)/\W i n H') ?_ m0 ⟨0,q,U,a1,λb hb=>(a0 b hb).1,w0⟩;rintro n s5 ⟨i,H5,I5,aG,a9,w5⟩;rcases turn i n H5 w5 with ⟨stop,qn⟩|⟨go,N,hN,step⟩
  . refine thn (T.done (cxC X scope xs fr s3.heap.objs.size fp s3 q) rfl rfl rfl hc i [] s5 _ H5 (λ_ _=>False) I5 (a6 a9) aG stop) λr s6 ⟨hr,I6⟩=>?_;subst hr;obtain⟨m6,n6,_⟩:=id I6.loc;exact hR p0 s3.heap.objs.size s6 H5 ⟨m6,n6⟩ (I3.fpOk (A08 _) I6.free) (aj2 I3 a0 I6 (Heap.SameBut.refl ..)) qn
  refine thn (T.item (cxC X scope xs fr s3.heap.objs.size fp s3 q) rfl rfl rfl hc i [] s5 _ H5 (λ_ _=>False) I5 (a6 a9) aG go) λr s6 ⟨u,hr,h6⟩=>?_;subst hr;refine thn h6 λ_ s7 ⟨x,H7,I7,r7,y7,a5,aL⟩=>?_;have aK:=I7.pinned (a6 aL) (T.obj _ _ a5);refine thn (hg _ _ _ _ _ s7 _ H7 x u _ aK r7 (hk _ _ _ _ (step x H7 y7))) λ_ s8 ⟨σ8,H8,I8,aT,q8⟩=>?_
  have again:∀ {Y:Shared} {F:Hp},Inv (cxC X scope xs fr s3.heap.objs.size fp s3 q) ([]++Vw fp s7.heap) σ8 F Y->N F ->
    ∃ m,m<n/\∃ i H',Inv (cxC X scope xs fr s3.heap.objs.size fp s3 q) [] (List.replicate xs.length none++Py σ js) H' Y/\tn i Y.heap/\(∀ b∈fp,H' b=none)/\W i m H':=fun {Y F} O n9=>by
   obtain⟨m',hm,w9⟩:=hN F n9;refine⟨m',hm,i+1,F,O.unpinned.weak ?_ ?_,T.keep _ _ _ a5 λb hb o e=>(O.pin (b,o) (A12 _ (A12 _ (Jw hb e)))).1,λb hb=>?_,w9⟩
   . rw[O.len,I5.len]
   . intro k v a3
     by_cases hx:k<xs.length
     . rw[A1S (by rw[A2I];exact hx),A4K,A0X hx] at a3
       cases a3
     rw[aT k (Nat.le_of_not_lt hx)];exact a3
   obtain ⟨o,e,d⟩:=T.obj _ _ a5 b hb;exact(O.pin (b,o) (A12 _ (A12 _ (Jw hb e)))).2.1
  refine A2A (hi _ _ _ _ _ s8 σ8 H8 _ (λ_ _=>False) (λ_ _ z=>z) I8 q8) (λok Y ⟨F,O,q9⟩=>?_) λ_ _ z=>z
  cases ok with
  |false=>rw[A0P A0M];rw[A0P A0M] at q9;exact again O q9
  |true=>rw[A0X rfl];rw[A0X rfl] at q9;refine thn (he _ _ _ _ _ Y σ8 F _ O q9) λuy aX ⟨y,aH,aI,aW,acc,aM,hz,aU⟩=>?_;refine thn (Gw _ aX σ8 aH (.ref p0) [y] (.ref p0) [uy] (λ_ a7=>N a7) aI rfl (.cons aW .nil) ⟨p0,acc,y,rfl,rfl,aM,hz,aU⟩) λ_ b2 ⟨_,a7,aJ,_,aV⟩=>?_;exact again aJ aV
 exact codeAny_compStart_list (aF _ U a1) (T.self _ _ _ _ _ a1 (aF _ U a1))
theorem Inv.letgo {C:Addr}{q:Heap}(I:Inv X pins σ H s)(f:Xw X pins H C)(Z:Heap.SameBut C s.heap q):Inv X pins σ H {s with heap:=q}:=by obtain⟨F,J,f2,O,U,Y⟩:=f;exact I.turned (t':=s.toks) (λb o hb e=>(Z.2 b hb).trans e) F J O U Y
theorem Cb {tg O F:Expr}{U:List Expr}{pos:Pos}{Y:TI}{g:TG}{tt:TT}{te:TE}(xs fr:List Str)(js:List Nat)(hc:X.calm=true)(hS:Xh X.env.scope scope xs fr=true)(a0:js.map (λj=>X.N[j]?)=fr.map some)(hw:PI X tg F Y)
  (hg:∀ C ex s₀ H₀,PG (cxC X scope xs fr C ex s₀ H₀) tg g) (hk:aj3 xs.length g) (hi:∀ C ex s₀ H₀,PIf (cxC X scope xs fr C ex s₀ H₀) U tt) (he:∀ C ex s₀ H₀,PE (cxC X scope xs fr C ex s₀ H₀) O te)
  (hs:∀ x,foldedSetIterable F X.env x=pure x:=by intro _;ac_nf) :
  PE X (.ListComp O [⟨tg,F,U,0⟩] scope pos) (aB3 xs.length js Y g tt te):=by
 intro pins s σ H Q I h;have S:=Y6 hS;rw[eval_ListComp];refine wpAny_comprehension_free (use:=none) rfl hs (M9 (S.cells I.ok)) S.kind S.names ?_;refine thn (hw pins s σ H _ I h) λv s1 h1=>thn h1 λa4 s2 h2=>?_;obtain⟨it,fp,tn,J,H2,e,Z,T,a2,f2,q2⟩:=h2;subst e;refine Xs (Q:=Q) (R:=λacc C=>compPost (model X.prog X.w) X.A X.xe none (EP X pins σ Q) acc C) hc S a0 hg hk hi he Z T a2 f2 q2 ?_;intro p C s' H' ⟨m,hn⟩ fC hI q;exact⟨m,hn,λa3 a1=>⟨.ref p,H',hI.letgo fC a1,rfl,q⟩⟩
theorem Ia {tg U F:Expr}{Y:List Expr}{pos a0 O:Pos}{wi:TI}{g:TG}{tt:TT}{te:TE}{i:Nat}{y:Str}(xs fr:List Str)(js:List Nat)(hc:X.calm=true)(hS:Xh X.env.scope scope xs fr=true)(a3:js.map (λj=>X.N[j]?)=fr.map some)
  (hN:X.N.Nodup) (a2:X.N[i]? = some y) (hy:X.env.scope.names.lookup y=some .local) (hw:PI X tg F wi)
  (hg:∀ C ex s₀ H₀,PG (cxC X scope xs fr C ex s₀ H₀) tg g) (hk:aj3 xs.length g) (hi:∀ C ex s₀ H₀,PIf (cxC X scope xs fr C ex s₀ H₀) Y tt) (he:∀ C ex s₀ H₀,PE (cxC X scope xs fr C ex s₀ H₀) U te)
  (a7:swapsWith (.ListComp U [⟨tg,F,Y,0⟩] scope pos) (some (.Name y O)) a0.line X.env=pure true:=by ac_nf)
  (hs:∀ x,foldedSetIterable F X.env x=pure x:=by intro _;ac_nf) :
  PS X (.Assign [.Name y O] (.ListComp U [⟨tg,F,Y,0⟩] scope pos) a0) (aD8 (aB3 xs.length js wi g tt te) (K8 i)):=by
 intro pins s σ H D I h;have S:=Y6 hS;rw[exec_Assign_Name_used _ _ _ _ a7];refine A05 (wpAny_standAt (A05 ?_));show wpAny _ X.A (do let _ <- comprehension (.ListComp U [⟨tg,F,Y,0⟩] scope pos) scope X.env _ (newList []) false (eval F X.env) (some (assign (.Name y O) X.env))) _ _ s
 refine A05 (A2A (wpAny_comprehension_free (use:=some (assign (.Name y O) X.env)) (Q:=λ_ s'=>SP X pins D .next s') rfl hs (M9 (S.cells I.ok)) S.kind S.names ?_) (λ_ s' hq=>A0C (A0C hq)) λ_ _ e=>e);refine thn (hw pins s σ H _ I h) λv s1 h1=>thn h1 λaA s2 h2=>?_;obtain⟨it,fp,tn,J,H2,e,I2,T,a8,f2,q2⟩:=h2;subst e;refine Xs (Q:=λx H1=>K8 i x σ H1 D.nx) (R:=λacc C=>compPost (model X.prog X.w) X.A X.xe (some (assign (.Name y O) X.env)) (λ_ s'=>SP X pins D .next s') acc C) hc S a3 hg hk hi he I2 T a8 f2 q2 ?_;intro p C s' H' ⟨m,hn⟩ Z I' q;show wpAny _ X.A (assign (.Name y O) X.env (.ref p)) _ _ s';refine wpAny_assign_Name (Vz I' hN a2 (.inl hy) (show RelV (.ref p) (.ref p) from rfl) (λaB a1 ⟨a,a6,ha⟩=>?_) (.inr hy))
 have a4:C≠a:=by
  rcases ha with ha|ha
  . rw[ha];exact Z.2.1
  exact(Z.2.2.2.2.1 y a ha).symm
 exact⟨m,hn.sameBut a6 a4,λa9 a5=>⟨_,H',a1.letgo Z a5,q⟩⟩
end
def Its (x:Str):It:=⟨λi _=>i<x.cps.size,λi H v H'=>H'=H/\∃ c,x.cps[i]? = some c/\v = .str ⟨#[c]⟩,λi _=>x.cps.size<=i⟩
section
variable {X:Cx}{tg:Expr}
theorem a91 {P:Program}{w:World}{K:PySem.W.Frag}{tg:Expr}{it:Addr}{n:Nat}{PV:Nat->Value->Prop}{val:Nat->V->Prop}{St:Nat->Heap->Prop}(W:∀ A:Around,A.handled=none->Walks P w A it [it] [it] n PV St)
  (a2:∀(A:Around) (i:Nat) (s:Shared) (Q:Value->Shared->Prop) (E:Value->Shared->Prop),St i s.heap->Q (.ref it) s->wpAny (model P w) A (pyIter (.ref it)) Q E s)
  (hv:∀ i u,PV i u->∃ v,RelV v u/\val i v) (a0:∀ i h,St i h->∃ o T vs,h.get? it=some o/\o.cls = .type T/\o.data = .fields vs/\["enumerate","zip","dict_itemiterator","dict_reverseitemiterator","odict_iterator","itertools.zip_longest","itertools.pairwise"].contains T=false) :
  aa3 P w K tg ⟨λi _=>i<n,λi H v H'=>H'=H/\val i v,λi _=>n<=i⟩ [it] it (λi h=>St i h/\i<=n) where
 mem:=by simp
 obj:=λi h st b hb=>by
  have e:b=it:=by simpa using hb
  subst e;obtain⟨o,T,vs,F,e2,J,e4⟩:=a0 i h st.1;exact⟨o,F,λv z=>by rw[J] at z;cases z⟩
 keep:=λi h h' st k=>⟨(W {handled:=none} rfl).frame i h h' st.1 k,st.2⟩
 item:=by
  intro X hP hw hK hc i pins s σ H E I hf st q;subst hP hw hK;obtain⟨O,U,f2,Y,Z,f5⟩:=hf it (by simp);refine(W X.A (I.ok.hd hc)).item i s _ _ q st.1 λu h' tk hp a1 kk=>?_;obtain⟨v,rv,vv⟩:=hv i u hp;have I1:Inv X pins σ H {s with heap:=h',toks:=tk}:=I.turned (λb o hb e=>kk b o (by simpa using hb) e) O U Y Z f5
  obtain⟨o,T,vs,F,e2,J,e4⟩:=a0 _ _ a1;exact⟨u,rfl,Zx (s:={s with heap:=h',toks:=tk}) F e2 J e4 ⟨v,H,I1,rv,⟨rfl,vv⟩,⟨a1,q⟩,λb hb=>(hf b hb).1⟩⟩
 done:=by intro X hP hw hK hc i pins s σ H E I hf st q;subst hP hw hK;obtain⟨O,U,f2,Y,Z,f5⟩:=hf it (by simp);have e:i=n:=Nat.le_antisymm st.2 q;subst e;exact(W X.A (I.ok.hd hc)).done s _ _ st.1 λh' tk kk=>⟨rfl,I.turned (λb o hb e=>kk b o (by simpa using hb) e) O U Y Z f5⟩
 self:=λA i s Q E st h=>a2 A i s Q E st.1 h
theorem aP2 {pins:List (Addr×Obj)}{σ:St}{H1:Hp}{F:Shared}{R:It->Hp->Prop}{E:Value->Shared->Prop}{z:Str}{v:Value}(O:Inv X pins σ H1 F)(r1:RelV (.str z) v)(q:R (Its z) H1):wpAny (model X.prog X.w) X.A (pyIter v) (PIE X pins σ tg R) E F:=by
 obtain⟨t,rfl⟩:=r1;have sv:∀ i u,SignAt z i u->∃ v,RelV v u/\∃ c,z.cps[i]? = some c/\v = .str ⟨#[c]⟩:=λi u ⟨c,tu,J,hu⟩=>⟨.str ⟨#[c]⟩,⟨tu,hu⟩,c,J,rfl⟩
 have fin:∀(o:Obj) (St:Nat->Heap->Prop) (n:Nat),St 0 (F.heap.push o)->aa3 X.prog X.w X.K tg (Its z) [F.heap.objs.size] F.heap.objs.size (λi h=>St i h/\i<=z.cps.size)->PIE X pins σ tg R (.ref F.heap.objs.size) {F with heap:=F.heap.push o}:=λo St n h0 T=>by
  refine⟨F.heap.objs.size,[F.heap.objs.size],_,_,H1,rfl,O.kept (t':=F.toks) λb ob e=>A02 _ e,T,⟨h0,A2M _⟩,λb hb=>?_,q⟩;have e:b=F.heap.objs.size:=by simpa using hb
  subst e;exact O.fpOk (A08 _) (O.hok.fresh (A08 _))
 cases ha:z.cps.all (· < 128)
 . exact wpAny_pyIter_wide ha (fin _ _ 0 ⟨_,A0J _ rfl,rfl,rfl⟩ (a91 (λA U=>Walks.strWide U _ z t) (λ_ _ _ _ _ st Z=>wpAny_pyIter_striter_wide st Z) sv λi h ⟨o,Y,J,hd⟩=>⟨o,_,_,Y,J,hd,by decide⟩))
 exact wpAny_pyIter_ascii ha (fin _ _ 0 ⟨_,A0J _ rfl,rfl,rfl⟩ (a91 (λA U=>Walks.strAscii U _ z t) (λ_ _ _ _ _ st Z=>wpAny_pyIter_striter_ascii st Z) sv λi h ⟨o,Y,J,hd⟩=>⟨o,_,_,Y,J,hd,by decide⟩))
end
section
variable {X:Cx}
def aV5:V->Option Int->Option Int->Hp->VK->Prop:=λx lo hi H Q=>∃ z,x = .str z/\z.length<=sizeLine/\Q (.str (Txt.slice z lo hi)) H
theorem sl_str:SlR X aV5:=by
 intro pins s σ H x v Z vu lo hi Y Q I U J pl O h;obtain⟨z,rfl,hz,q⟩:=h;obtain⟨t,rfl⟩:=U;have fin:∀ t' k,EP X pins σ Q (.str (Txt.slice z lo hi) t') {s with toks:=k}:=λt' k=>⟨.str _,H,I.tok _,⟨_,rfl⟩,q⟩
 have sz:=A0O (Txt.slice_le z lo hi) hz;refine⟨"str",_,F.slot_str_getitem.lookup,typeIs_str _ _ _,?_⟩
 cases pl with
 |none=>
   cases O with
   |none=>exact A3L (l:=none) (u:=none) (st:=none) J rfl (A4U ⟨sz,fin⟩)
   |int j uj=>exact A3L (l:=none) (u:=some (j,uj)) (st:=none) J rfl (A4U ⟨sz,fin⟩)
 |int i ui=>
   cases O with
   |none=>exact A3L (l:=some (i,ui)) (u:=none) (st:=none) J rfl (A4U ⟨sz,fin⟩)
   |int j uj=>exact A3L (l:=some (i,ui)) (u:=some (j,uj)) (st:=none) J rfl (A4U ⟨sz,fin⟩)
theorem a05:CallR X (.builtin "repr") (λxs H Q=>(∃ b,xs=[.bl b]/\Q (.str (if b then "True" else "False")) H)\/(xs=[.non]/\Q (.str "None") H)):=by
 intro pins s σ H xs us Q I r h;rcases h with ⟨b,rfl,q⟩|⟨rfl,q⟩
 . obtain⟨u,rfl,F⟩:=J4 r
   cases F;exact PySem.P.repr_of_bool ⟨.str _,H,I.tok _,⟨_,rfl⟩,q⟩
 obtain⟨u,rfl,F⟩:=J4 r
 cases F;exact PySem.P.repr_of_none ⟨.str _,H,I.tok _,⟨_,rfl⟩,q⟩
theorem call_isinst:CallR X (.builtin "isinstance") (λxs H Q=>∃ x c t b,xs=[x,.ty c]/\TyOf X.K H x t/\W.kitOne X.K t (.type c)=some b/\Q (.bl b) H):=by
 intro pins s σ H xs us Q I r h;obtain⟨x,c,t,b,rfl,ty,e,q⟩:=h;obtain⟨u,O,rfl,F,J⟩:=ai9 r
 cases J;exact Tp I F ty e λtk=>⟨.bl _,H,I.tok _,rfl,q⟩
theorem call_isinstR:CallR X (.builtin "isinstance") (λxs H Q=>∃ x c t b,xs=[x,.ref c]/\TyOf X.K H x t/\W.kitOne X.K t (.ref c)=some b/\Q (.bl b) H):=by
 intro pins s σ H xs us Q I r h;obtain⟨x,c,t,b,rfl,ty,e,q⟩:=h;obtain⟨u,O,rfl,F,J⟩:=ai9 r
 cases J;exact Tp I F ty e λtk=>⟨.bl _,H,I.tok _,rfl,q⟩
theorem Tj:CallR X (.builtin "isinstance") (λxs H Q=>∃ a ys c b,xs=[V.ref a,.ty c]/\((SqT X.K H a ys/\W.kitOne X.K (.type "tuple") (.type c)=some b)\/(SqL X.K H a ys/\W.kitOne X.K (.type "list") (.type c)=some b))/\Q (.bl b) H):=by
 intro pins s σ H xs us Q I r h;obtain⟨a,ys,c,b,rfl,ty,q⟩:=h;obtain⟨u,U,rfl,J,O⟩:=ai9 r
 cases O
 cases J;rcases ty with ⟨ty,e⟩|⟨ty,e⟩
 . obtain⟨F,_,p,_⟩:=I.tuple ty;obtain⟨o,h1,h2,_⟩:=p;exact A1L W.kitx_tuple I.kIn ⟨o,h1,h2⟩ e (λz=>nomatch z) λtk=>⟨.bl _,H,I.tok _,rfl,q⟩
 obtain⟨F,_,p,_⟩:=I.list ty;obtain⟨o,h1,h2,_⟩:=p.isList;exact A1L W.kitx_list I.kIn ⟨o,h1,h2⟩ e (λz=>nomatch z) λtk=>⟨.bl _,H,I.tok _,rfl,q⟩
theorem ak5 {bs:List Bool}{q:List Value}(r:Vals (bs.map V.bl) q)(i:Nat)(v:Value)(h:q[i]? = some v):∃ b,bs[i]? = some b/\v = .bool b:=by
 have F:=r.length;have hi:i<q.length:=(A00.mp h).1;have hb:i<bs.length:=by rw[A01] at F;omega
 obtain⟨u,hu,J⟩:=r.get (i:=i) (x:=.bl bs[i]) (by rw[A07,A03 hb];rfl);rw[h] at hu
 cases hu;exact⟨bs[i],A03 hb,J⟩
theorem af6 (bs:List Bool):(List.range bs.length).any (λi=>(bs[i]?).getD false)=bs.any id:=by
 rw[A2B,A1E,A1E];constructor
 . rintro⟨i,hi,h⟩;rw[A03 (A23.mp hi)] at h;exact⟨_,A4L _,h⟩
 rintro⟨b,hb,h⟩;obtain⟨i,hi,e⟩:=List.mem_iff_getElem.mp hb;refine⟨i,A23.mpr hi,?_⟩;rw[A03 hi,e];exact h
theorem ao0 (Y:X.calm=true):CallR X (.builtin "any") (λxs H Q=>∃(a:Addr) (bs:List Bool),xs=[.ref a]/\SqL X.K H a (bs.map V.bl)/\Q (.bl (bs.any id)) H):=by
 intro pins s σ H xs us Q I r h;obtain⟨a,bs,rfl,hl,q⟩:=h;obtain⟨u,rfl,ru⟩:=J4 r
 cases ru;obtain⟨J,O,pl,hz⟩:=I.list hl;have a0:=O.length;have a1:a≠s.heap.objs.size:=by obtain⟨o,n,ho,_⟩:=pl;exact A11 (A0F ho)
 refine call_any_walk (A3T pl.isList ?_);refine⟨_,_,_,_,_,_,λi=>(bs[i]?).getD false,rfl,Walks.list (A:=X.A.in1) (I.ok.hd Y) _ a a1 J.toArray,⟨⟨_,A0J _ rfl,rfl,rfl⟩,pl.isList.at λo e=>A02 _ e⟩,λi v s' Q' E' hp F=>?_,λh' tk Z=>?_⟩
 . obtain⟨b,hb,rfl⟩:=ak5 O i v (by simpa using hp);dsimp only at F;rw[hb] at F;exact A3R F
 refine⟨.bl _,H,I.kept (t':=tk) λb ob e=>Z b ob (λhm=>absurd (Heap.lt_size e) (by rw[show b=s.heap.objs.size by simpa using hm];exact Nat.lt_irrefl _)) (Heap.get?_push_of_some _ e),?_,q⟩;have U:J.toArray.size=bs.length:=by rw[A0Q,<- a0,A01]
 rw[U,af6];rfl
end
section
variable {X:Cx}{x:Str}{pos:Pos}
theorem aU8 {v:V}(q:Gl X x)(hm:∃ u,X.mg x=some u/\RelV v u)(hd:(x==("__debug__":Str))=false:=by decide):PE X (.Name x pos) (tC v):=by obtain⟨u,h1,h2⟩:=hm;exact aB6 q h1 h2 hd
end
section
variable {X:Cx}{K:W.Frag}
def aN5 (K:W.Frag):R2:=λx y H Q=>∃ a b ys,x = .ref a/\y = .ref b/\SqT K H a []/\SqT K H b ys/\Q (.ref b) H
theorem aB9:OpR X (binaryOp .Add) (aN5 X.K):=by
 intro pins s σ H x y v u Q I rx ry h;obtain⟨a,b,ys,rfl,rfl,ha,hb,q⟩:=h
 cases rx
 cases ry;obtain⟨a3,r1,p1,_⟩:=I.tuple ha;obtain⟨a4,r2,p2,_⟩:=I.tuple hb
 cases r1;obtain⟨⟨cls,dd,data,sl⟩,Y,J,n,hd⟩:=id p1;obtain⟨⟨a2,a0,data2,a1⟩,Z,O,n2,U⟩:=id p2;simp only at J hd O U;subst J hd O U;exact concat_meets ⟨_,Y,rfl⟩ ⟨_,Z,rfl⟩ noFill_tuple_add seq_tuple_add PySem.F.slot_tuple_add PySem.F.entry_tuple_add (PySem.F.args_tuple_add_2 _ _) (tuple_addW0 a b _ _ n n2 dd a0 sl a1 (by simp)) ⟨Y,Z,⟨.ref b,H,I,rfl,q⟩⟩
def aV2 (K:W.Frag):V->Option Int->Option Int->Hp->VK->Prop:=λx lo hi H Q=>∃ a xs,x = .ref a/\SqT K H a xs/\(HT.sIx xs.length 0 lo=0/\HT.sIx xs.length xs.length hi=xs.length)/\Q (.ref a) H
theorem an1:SlR X (aV2 X.K):=by
 intro pins s σ H x v vl vu lo hi sl Q I rx O pl pu h;obtain⟨a,xs,rfl,hx,U,q⟩:=h
 cases rx;obtain⟨F,r,J,hz⟩:=I.tuple hx;have a0:F.toArray.size=xs.length:=by rw[A0Q];exact r.length.symm
 refine⟨"tuple",_,PyProof.Rows.slot_tuple_getitem.lookup,J.typeIs,?_⟩;obtain⟨os,a1,Z,a3⟩:=id O;have Y:s.TypeIs (.ref sl) "slice":=⟨os,a1,Z⟩;unfold getItem
 try with_reducible refine A3K ?_
 first | refine A05 (A0C ?_) | skip
 refine A05 (wpAny_sequenceKey J.typeIs nofun ?_);refine A05 (A2S (name:=Str.ofString "__getitem__") J.typeIs A1P (A3C A1P J.typeIs entry_tuple_getitem ?_ (args_tuple_getitem _ _)));refine A05 (m:=Builtin.Tuple.tupleItemsOf (.ref a)) (tupleItemsOf_ J ?_);refine A05 (A3H Y ?_);rw[A0X nofun];refine A05 (HT.sliceApplied_gen O pl pu ?_)
 have a2:(((HT.sIx F.toArray.size 0 lo:Nat):Int)==0&&(1:Int)==1&&(HT.sIx F.toArray.size F.toArray.size hi-HT.sIx F.toArray.size 0 lo)==F.toArray.size)=true:=by rw[a0,U.1,U.2];simp
 show wpAny _ _ (if(((HT.sIx F.toArray.size 0 lo:Nat):Int)==0&&(1:Int)==1&&(HT.sIx F.toArray.size F.toArray.size hi-HT.sIx F.toArray.size 0 lo)==F.toArray.size)=true then _ else _) _ _ s
 rw[A0X a2];have fin:∀ s',s'=s->EP X pins σ Q (.ref a) s':=λs' e=>by subst e;exact⟨.ref a,H,I,rfl,q⟩
 unfold Builtin.Tuple.tupleIsExact;obtain⟨hp,g,d,tk,os⟩:=s;have hT:=J.typeIs
 repeat (any_goals (first | assumption | wp_step))
 exact⟨_,rfl,A0C (fin _ rfl)⟩
end
theorem Inv.freeze {X:Cx}{pins:List (Addr×Obj)}{σ:St}{H:Hp}{s:Shared}{d:Addr}{kvs:List (Key×V)}{o:Obj}(I:Inv X pins σ H s)(hd:H d=some (.dK kvs))(Z:s.heap.get? d=some o):Inv X pins σ (upd H d (.frz o (.dK kvs))) s:=by
 have F:∀ b,H b=none->upd H d (.frz o (.dK kvs)) b=none:=λb h=>by rw[Au (Ne.symm (ne_of_none hd h))];exact h
 have other:∀ b u,H b=some u->u ≠ .dK kvs->upd H d (.frz o (.dK kvs)) b=some u:=λb u h q=>by rw[Au (ne_of h hd q)];exact h
 refine⟨I.ok,I.os,I.bare,⟨I.base.keep,I.base.slot,λb ob q n hx=>F b (I.base.free b ob q n hx),I.base.there,λb xs q=>other b _ (I.base.tups b xs q) (by intro z;cases z),λb ob u q=>other b _ (I.base.frzs b ob u q) (by intro z;cases z),λb ps q=>?_⟩,I.loc,I.cell,F _ I.free,λx c q=>F _ (I.freeC x c q),λp hp=>?_,λb u q=>?_,I.len⟩
 . obtain⟨more,h⟩:=I.base.tbls b ps q;exact⟨more,other b _ h (by intro z;cases z)⟩
 . obtain⟨J,O,U⟩:=I.pin p hp;exact⟨J,F _ O,U⟩
 by_cases e:b=d
 . subst e;rw[Af] at q
   cases q;exact⟨Z,(I.hok b _ hd).stay (λc v Y z=>z) (λc z=>other c _ z (by intro w;cases w)) λc xs z=>other c _ z (by intro w;cases w)⟩
 rw[Au e] at q;exact(I.hok b u q).stay (λc v Y z=>z) (λc z=>other c _ z (by intro w;cases w)) λc xs z=>other c _ z (by intro w;cases w)
def Itd (a:Addr)(o:Obj)(kvs:List (Key×V)):It:=
 ⟨λi H=>H a=some (.frz o (.dK kvs))/\i<kvs.length,λi H x H'=>H'=H/\∃ kv,kvs[i]? = some kv/\x=kV kv.1,λi H=>H a=some (.frz o (.dK kvs))/\kvs.length<=i⟩
theorem a95 {k:Key}{u:Value}(h:Va k u=true):RelV (kV k) u:=by
 rcases Bo h with ⟨i,t,rfl,rfl⟩|⟨x,t,rfl,rfl⟩
 . exact⟨t,rfl⟩
 exact⟨t,rfl⟩
theorem ag2 {X:Cx}{pins:List (Addr×Obj)}{σ:St}{H:Hp}{s:Shared}{a:Addr}{kvs:List (Key×V)}{o:Obj}{es:Array DictEntry}{ep:Nat}(I:Inv X pins σ H s)(h:H a=some (.frz o (.dK kvs)))(q:o.data = .dict es ep):∃ vs,KV kvs vs/\s.heap.DictAt (Ax X.prog X.w) a vs ep:=by
 obtain⟨h1,_,_,vs,r,o',J,F,h2,c,hd,rest⟩:=I.hok a _ h;rw[h1] at h2
 cases h2;rw[q] at hd
 cases hd;exact⟨vs,r,o,es,h1,c,q,rest⟩
theorem KV.get:∀ {kvs:List (Key×V)} {vs:List (Key×Value)} {i:Nat} {kv:Key×V},KV kvs vs->kvs[i]? = some kv->∃ u,vs[i]? = some (kv.1,u)/\RelV kv.2 u
 |_,_,_,_,.nil,e=>by simp at e
 |_,_,0,kv,.cons r _,e=>by simp at e;subst e;exact⟨_,congrArg some (Prod.ext r.1.symm rfl),r.2⟩
 |_,_,i+1,kv,.cons _ t,e=>by obtain⟨u,h1,h2⟩:=KV.get (i:=i) t (by simpa using e);exact⟨u,by simpa using h1,h2⟩
theorem Ub {P:Program}{w:World}{K:W.Frag}{tg:Expr}(a it:Addr)(o:Obj)(kvs:List (Key×V))(es:Array DictEntry)(ep:Nat)(hd:o.data = .dict es ep):aa3 P w K tg (Itd a o kvs) [it] it (λi h=>h.IsKeyIter it a i kvs.length ep) where
 mem:=by simp
 obj:=λi h st b hb=>by
  have e:b=it:=by simpa using hb
  subst e;obtain⟨o,e,c,d⟩:=st;exact⟨o,e,λv z=>by rw[d] at z;cases z⟩
 keep:=λi h h' st k=>st.at λo e=>k it (by simp) o e
 item:=by
  intro X hP hw hK hc i pins s σ H E I hf st hg;subst hP hw hK;obtain⟨hH,hi⟩:=hg;obtain⟨vs,F,a0⟩:=ag2 I hH hd;have q:kvs.length=vs.length:=A34 F;obtain⟨kv,hkv⟩:∃ kv,kvs[i]? = some kv:=⟨kvs[i],A03 hi⟩;obtain⟨u,hu,_⟩:=KV.get F hkv;obtain⟨J,O,f2,U,Y,Z⟩:=hf it (by simp);rw[q] at st;refine wpAny_pyNext_dict_item st a0 hu λa4 h' a2 a1 a3=>?_;have I1:Inv X pins σ H {s with heap:=h'}:=I.turned (t':=s.toks) (λb o hb e=>(a3.2 b hb).trans e) J O U Y Z
  obtain⟨o',e,c,d⟩:=id a1;exact⟨a4,rfl,Zx (s:={s with heap:=h'}) e c d nofun ⟨kV kv.1,H,I1,a95 a2,⟨rfl,kv,hkv,rfl⟩,by rw[q];exact a1,λb hb=>(hf b hb).1⟩⟩
 done:=by intro X hP hw hK hc i pins s σ H E I hf st hg;subst hP hw hK;obtain⟨hH,hi⟩:=hg;obtain⟨vs,F,a0⟩:=ag2 I hH hd;have q:kvs.length=vs.length:=A34 F;obtain⟨J,O,f2,U,Y,Z⟩:=hf it (by simp);rw[q] at st;exact wpAny_pyNext_dict_end (I.ok.hd hc) st a0 (List.getElem?_eq_none ∅) λh' eb=>⟨rfl,I.turned (t':=s.toks) (λb o hb e=>eb b o hb e) J O U Y Z⟩
 self:=λA i s Q E st hQ=>wpAny_pyIter_keyiter st hQ
theorem ay1 {X:Cx}{tg:Expr}{pins:List (Addr×Obj)}{σ:St}{H:Hp}{s:Shared}{a:Addr}{kvs:List (Key×V)}{R:It->Hp->Prop}{E:Value->Shared->Prop}(I:Inv X pins σ H s)(h:H a=some (.dK kvs))(q:∀ o,R (Itd a o kvs) (upd H a (.frz o (.dK kvs)))) :
  wpAny (model X.prog X.w) X.A (pyIter (.ref a)) (PIE X pins σ tg R) E s:=by
 obtain⟨_,U,vs,Y,o,es,ep,J,c,hd,rest⟩:=I.hok a _ h;have F:=I.freeze h J;have O:kvs.length=vs.length:=A34 Y;refine wpAny_pyIter_dict (knd:=Ax X.prog X.w) U ⟨o,es,J,c,hd,rest⟩ ?_;rw[<- O];refine⟨s.heap.objs.size,[s.heap.objs.size],_,_,_,rfl,F.kept (t':=s.toks) λb o e=>A02 _ e,Ub a _ o kvs es ep hd,⟨_,A0J _ rfl,rfl,rfl⟩,λb hb=>?_,q o⟩;have e:b=s.heap.objs.size:=by simpa using hb
 subst e;exact F.fpOk (A08 _) (F.hok.fresh (A08 _))
theorem am5 {X:Cx}{tg:Expr}{pins:List (Addr×Obj)}{σ:St}{H:Hp}{s:Shared}{a:Addr}{kvs:List (Key×V)}{o:Obj}{R:It->Hp->Prop}{E:Value->Shared->Prop}(I:Inv X pins σ H s)(h:H a=some (.frz o (.dK kvs)))(q:R (Itd a o kvs) H) :
  wpAny (model X.prog X.w) X.A (pyIter (.ref a)) (PIE X pins σ tg R) E s:=by
 obtain⟨J,_,U,vs,Y,o',es,ep,F,c,hd,rest⟩:=I.hok a _ h;rw[J] at F
 cases F;have O:kvs.length=vs.length:=A34 Y;refine wpAny_pyIter_dict (knd:=Ax X.prog X.w) U ⟨o,es,J,c,hd,rest⟩ ?_;rw[<- O];refine⟨s.heap.objs.size,[s.heap.objs.size],_,_,_,rfl,I.kept (t':=s.toks) λb o e=>A02 _ e,Ub a _ o kvs es ep hd,⟨_,A0J _ rfl,rfl,rfl⟩,λb hb=>?_,q⟩;have e:b=s.heap.objs.size:=by simpa using hb
 subst e;exact I.fpOk (A08 _) (I.hok.fresh (A08 _))
theorem Same.seqT {K:W.Frag}{H H':Hp}{a:Addr}{xs:List V}(e:Same H H')(h:SqT K H a xs):SqT K H' a xs:=by
 rcases h with (h|⟨o,h⟩)|h
 . exact .inl (.inl (e _ _ h))
 . exact .inl (.inr ⟨o,e _ _ h⟩)
 exact .inr h
mutual
def Is (K:W.Frag)(H:Hp):PyData->V->Prop
 |.none,v=>v = .non
 |.bool b,v=>v = .bl b
 |.int i,v=>v = .int i
 |.str x,v=>v = .str x
 |.list ds,v=>∃ a xs,v = .ref a/\SqL K H a xs/\IsL K H ds xs
 |.tuple ds,v=>∃ a xs,v = .ref a/\SqT K H a xs/\IsL K H ds xs
 |.dict _,_=>False
def IsL (K:W.Frag)(H:Hp):List PyData->List V->Prop
 | [],vs=>vs=[]
 |d :: ds,vs=>∃ v r,vs=v :: r/\Is K H d v/\IsL K H ds r
end
mutual
theorem Is.mono {K:W.Frag}{H H':Hp}(e:Same H H'):∀(d:PyData) (v:V),Is K H d v->Is K H' d v
 |.none,_,h=>by simp only[Is] at h ⊢;exact h
 |.bool _,_,h=>by simp only[Is] at h ⊢;exact h
 |.int _,_,h=>by simp only[Is] at h ⊢;exact h
 |.str _,_,h=>by simp only[Is] at h ⊢;exact h
 |.list ds,v,h=>by simp only[Is] at h ⊢;obtain⟨a,xs,q,F,J⟩:=h;exact⟨a,xs,q,e.seq F,IsL.mono e ds xs J⟩
 |.tuple ds,v,h=>by simp only[Is] at h ⊢;obtain⟨a,xs,q,F,J⟩:=h;exact⟨a,xs,q,e.seqT F,IsL.mono e ds xs J⟩
 |.dict _,_,h=>by simp only[Is] at h
theorem IsL.mono {K:W.Frag}{H H':Hp}(e:Same H H'):∀(ds:List PyData) (vs:List V),IsL K H ds vs->IsL K H' ds vs
 | [],_,h=>by simp only[IsL] at h ⊢;exact h
 |d :: ds,vs,h=>by simp only[IsL] at h ⊢;obtain⟨v,r,q,F,J⟩:=h;exact⟨v,r,q,Is.mono e d v F,IsL.mono e ds r J⟩
end
section
variable {X:Cx}{pins:List (Addr×Obj)}{σ:St}{H:Hp}{s:Shared}
mutual
theorem Is.reads (I:Inv X pins σ H s):∀(d:PyData) (v:V) (u:Value),Is X.K H d v->RelV v u->∃ as,Reads s.heap u d as
 |.none,v,u,i,r=>by
   simp only[Is] at i;subst i
   cases r;exact⟨_,.none⟩
 |.bool b,v,u,i,r=>by
   simp only[Is] at i;subst i
   cases r;exact⟨_,.bool b⟩
 |.int n,v,u,i,r=>by simp only[Is] at i;subst i;obtain⟨t,rfl⟩:=r;exact⟨_,.int n t⟩
 |.str x,v,u,i,r=>by simp only[Is] at i;subst i;obtain⟨t,rfl⟩:=r;exact⟨_,.str x t⟩
 |.list ds,v,u,i,r=>by
   simp only[Is] at i;obtain⟨a,xs,rfl,q,F⟩:=i
   cases r;obtain⟨O,Y,⟨o,n,e,J,hd,Z⟩,_⟩:=I.list q;obtain⟨as,U⟩:=IsL.reads I ds xs O F Y;exact⟨_,.list e J Z (by simpa using U)⟩
 |.tuple ds,v,u,i,r=>by
   simp only[Is] at i;obtain⟨a,xs,rfl,q,F⟩:=i
   cases r;obtain⟨O,Y,⟨o,e,J,n,hd⟩,_⟩:=I.tuple q;obtain⟨as,U⟩:=IsL.reads I ds xs O F Y;exact⟨_,.tuple e J hd (by simpa using U)⟩
 |.dict _,_,_,i,_=>by simp only[Is] at i
theorem IsL.reads (I:Inv X pins σ H s):∀(ds:List PyData) (vs:List V) (us:List Value),IsL X.K H ds vs->Vals vs us->∃ as,ReadsAll s.heap us ds as
 | [],vs,us,i,r=>by
   simp only[IsL] at i;subst i
   cases r;exact⟨_,.nil⟩
 |d :: ds,vs,us,i,r=>by
   simp only[IsL] at i;obtain⟨v,J,rfl,q,F⟩:=i
   cases r with
   |cons r1 r2=>obtain⟨O,h1⟩:=Is.reads I d v _ q r1;obtain⟨U,h2⟩:=IsL.reads I ds J _ F r2;exact⟨_,.cons h1 h2⟩
end
end
theorem aj1 {K:W.Frag}{H:Hp}:∀ ns:List Int,IsL K H (ns.map PyData.int) (ns.map V.int)
 | []=>by simp only[List.map_nil,IsL]
 |n :: r=>by simp only[List.map_cons,IsL];exact⟨_,_,rfl,by simp only[Is],aj1 r⟩
theorem Ot {K:W.Frag}{H:Hp}:∀ ns:List Str,IsL K H (ns.map PyData.str) (ns.map V.str)
 | []=>by simp only[List.map_nil,IsL]
 |n :: r=>by simp only[List.map_cons,IsL];exact⟨_,_,rfl,by simp only[Is],Ot r⟩
theorem Yv {K:W.Frag}{H:Hp}{a:Addr}{ns:List Int}(h:SqL K H a (ns.map V.int)):Is K H (.list (ns.map PyData.int)) (.ref a):=by simp only[Is];exact⟨a,_,rfl,h,aj1 ns⟩
structure QA (A:Around):Prop where
 un:A.units+150<cLine
 gd:A.guards=some []
theorem Be {A:Around}{k:Nat}(q:Room k A):QA A:=⟨by have:=q.un;omega,q.gd⟩
section
variable {X:Cx}
def X8 (K:W.Frag):R2:=λx y H Q=>(∃ i j,x = .int i/\y = .int j/\Q (.int (i+j)) H)\/(∃ i j,x = .str i/\y = .str j/\i.length+j.length<=sizeLine/\Q (.str (i++j)) H)\/aW5 x y H Q\/aP4 K x y H Q\/aN5 K x y H Q
theorem aw9:OpR X (binaryOp .Add) (X8 X.K):=op_add.or (op_add_str.or (op_cat.or (op_catT.or aB9)))
def am3:R2:=λx y H Q=>(∃ i j,x = .int i/\y = .int j/\CMul i j/\Q (.int (i*j)) H)\/aX1 x y H Q
theorem op_mulA:OpR X (binaryOp .Mult) am3:=op_mul.or aF8
theorem My:OpR X (binaryOp .FloorDiv) (rI aS8 λi j=>.int (i / j)):=au8
def aR1 (K:W.Frag)(q:Bool):R2:=λx y H Q=>∃ dx dy,Is K H dx x/\Is K H dy y/\SeqAt.shaped dx=true/\SeqAt.shaped dy=true/\Q (.bl (if q then !PyData.eqv dx dy else PyData.eqv dx dy)) H
theorem aK8 (F:QA X.A):OpR X (compareOp .Eq) (aR1 X.K false):=by intro pins s σ H x y v u Q I Z ry h;obtain⟨dx,dy,J,O,sx,sy,q⟩:=h;obtain⟨as,U⟩:=Is.reads I dx x v J Z;obtain⟨bs,Y⟩:=Is.reads I dy y u O ry;exact eq_dataH U Y sx sy (by have:=F.un;omega) ⟨.bl _,H,I,rfl,q⟩
theorem aQ3 (F:QA X.A):OpR X (compareOp .NotEq) (aR1 X.K true):=by intro pins s σ H x y v u Q I Z ry h;obtain⟨dx,dy,J,O,sx,sy,q⟩:=h;obtain⟨as,U⟩:=Is.reads I dx x v J Z;obtain⟨bs,Y⟩:=Is.reads I dy y u O ry;exact ne_dataH U Y sx sy (by have:=F.un;omega) ⟨.bl _,H,I,rfl,q⟩
def aQ6 (K:W.Frag):R2:=λx y H Q=>rEq x y H Q\/aR1 K false x y H Q
def aQ8 (K:W.Frag):R2:=λx y H Q=>rNe x y H Q\/aR1 K true x y H Q
theorem aQ2 (q:QA X.A):OpR X (compareOp .Eq) (aQ6 X.K):=op_eq.or (aK8 q)
theorem aJ3 (q:QA X.A):OpR X (compareOp .NotEq) (aQ8 X.K):=op_ne.or (aQ3 q)
def rInT (q:Bool):R2:=λx y H Q=>∃ i j,x = .str i/\y = .str j/\Q (.bl (if q then !(!(Builtin.Str.occurrences j i 0 j.length 1).isEmpty) else !(Builtin.Str.occurrences j i 0 j.length 1).isEmpty)) H
def aT2 (q:Bool):R2:=λx y H Q=>∃ a o,y = .ref a/\DGet H a x o/\Q (.bl (if q then !o.isSome else o.isSome)) H
theorem aO4 (hu:X.A.units+1<cLine):OpR X (compareOp .In) (aT2 false):=by
 intro pins s σ H x y v u Q I J O h;obtain⟨a,o,rfl,g,q⟩:=h
 cases O;exact d_in hu I g J λs' F=>⟨.bl _,H,F,rfl,q⟩
theorem aa5 (hu:X.A.units+1<cLine):OpR X (compareOp .NotIn) (aT2 true):=by
 intro pins s σ H x y v u Q I J O h;obtain⟨a,o,rfl,g,q⟩:=h
 cases O;exact aA5 hu I g J λs' F=>⟨.bl _,H,F,rfl,q⟩
def aT9 (K:W.Frag)(q:Bool):R2:=λx y H Q=>∃ d ds,Is K H d x/\(Is K H (.list ds) y\/Is K H (.tuple ds) y)/\PyData.canLayAll0 ds=true/\d.canLay0=true/\d.depth<=100/\Q (.bl (if q then !(ds.any λe=>PyData.eqv e d) else ds.any λe=>PyData.eqv e d)) H
theorem aF0 (O:QA X.A):OpR X (compareOp .In) (aT9 X.K false):=by
 intro pins s σ H x y v u Q I rx Y h;obtain⟨d,ds,Z,F,h1,h2,h3,q⟩:=h;obtain⟨bs,U⟩:=Is.reads I d x v Z rx;rcases F with F|F
 . obtain⟨as,J⟩:=Is.reads I _ y u F Y;exact SeqAt.in_list_reads J U h1 h2 (by have:=O.un;have:=A3X (PyData.depthAll ds) d.depth;omega) ⟨.bl _,H,I,rfl,q⟩
 obtain⟨as,J⟩:=Is.reads I _ y u F Y;exact SeqAt.in_tuple_reads J U h1 h2 (by have:=O.un;have:=A3X (PyData.depthAll ds) d.depth;omega) ⟨.bl _,H,I,rfl,q⟩
theorem a58 (O:QA X.A):OpR X (compareOp .NotIn) (aT9 X.K true):=by
 intro pins s σ H x y v u Q I rx Y h;obtain⟨d,ds,Z,F,h1,h2,h3,q⟩:=h;obtain⟨bs,U⟩:=Is.reads I d x v Z rx;rcases F with F|F
 . obtain⟨as,J⟩:=Is.reads I _ y u F Y;exact SeqAt.notIn_list_reads J U h1 h2 (by have:=O.un;have:=A3X (PyData.depthAll ds) d.depth;omega) ⟨.bl _,H,I,rfl,q⟩
 obtain⟨as,J⟩:=Is.reads I _ y u F Y;exact SeqAt.notIn_tuple_reads J U h1 h2 (by have:=O.un;have:=A3X (PyData.depthAll ds) d.depth;omega) ⟨.bl _,H,I,rfl,q⟩
def Z7 (K:W.Frag)(q:Bool):R2:=λx y H Q=>rIn K q x y H Q\/rInT q x y H Q\/aT2 q x y H Q\/aT9 K q x y H Q
theorem QA.hu {A:Around}(h:QA A):A.units+1<cLine:=by have:=h.un;omega
theorem aO7 (q:QA X.A):OpR X (compareOp .In) (Z7 X.K false):=op_in_seq.or (op_in_str.or ((aO4 q.hu).or (aF0 q)))
theorem aa4 (q:QA X.A):OpR X (compareOp .NotIn) (Z7 X.K true):=op_notIn_seq.or (op_notIn_str.or ((aa5 q.hu).or (a58 q)))
def aE4 (K:W.Frag):V->Option Int->Option Int->Hp->VK->Prop:=λx lo hi H Q=>aW6 K x lo hi H Q\/aV3 K x lo hi H Q\/aV5 x lo hi H Q\/aV2 K x lo hi H Q
theorem sl_A:SlR X (aE4 X.K):=sl_list.or (sl_tup.or (sl_str.or an1))
def aW0:R2:=λx y H Q=>∃ a v,x = .ref a/\DGet H a y (some v)/\Q v H
theorem av3 (hu:X.A.units+1<cLine):IxR X aW0:=by
 intro value a0 pins s σ H x y v u Q I Y Z h O;obtain⟨a,z,rfl,g,q⟩:=h
 cases Y;exact tail_any (Wu I g) PySem.F.slot_dict_getitem.lookup (ac7 hu I g Z λw' s' J U=>⟨z,H,J,U,q⟩) O
def Qm (K:W.Frag):R2:=λx y H Q=>rIx K x y H Q\/aW0 x y H Q
theorem aO8 (hu:X.A.units+1<cLine):IxR X (Qm X.K):=ix_seq.or (av3 hu)
def Zt (K:W.Frag):List V->Hp->VK->Prop:=λxs H Q=>(∃ x n,xs=[x]/\aV7 K x H n/\Q (.int n) H)\/∃ a kvs,xs=[V.ref a]/\H a=some (.dK kvs)/\Q (.int kvs.length) H
theorem aj8:CallR X (.builtin "len") (Zt X.K):=call_len.or ai3
def T7 (K:W.Frag):List V->Hp->VK->Prop:=λxs H Q=>(∃ x c t b,xs=[x,.ty c]/\TyOf K H x t/\W.kitOne K t (.type c)=some b/\Q (.bl b) H)\/(∃ x c t b,xs=[x,.ref c]/\TyOf K H x t/\W.kitOne K t (.ref c)=some b/\Q (.bl b) H)\/∃ a ys c b,xs=[V.ref a,.ty c]/\((SqT K H a ys/\W.kitOne K (.type "tuple") (.type c)=some b)\/(SqL K H a ys/\W.kitOne K (.type "list") (.type c)=some b))/\Q (.bl b) H
theorem W5:CallR X (.builtin "isinstance") (T7 X.K):=call_isinst.or (call_isinstR.or Tj)
def Yu (K:W.Frag):List V->Hp->VK->Prop:=λxs H Q=>∃ p ys,xs=[.ref p]/\(SqL K H p ys\/SqT K H p ys)/\∀ l,H l=none->Q (.ref l) (upd H l (.lst ys))
theorem Zp:CallR X (.type "list") (Yu X.K):=Vf
def Oq (K:W.Frag):List V->Hp->VK->Prop:=λxs H Q=>∃ p ys,xs=[.ref p]/\((SqL K H p ys/\∀ l,H l=none->Q (.ref l) (upd H l (.tup ys)))\/(SqT K H p ys/\Q (.ref p) H))
theorem W9:CallR X (.type "tuple") (Oq X.K):=Se
def aQ1:List V->Hp->VK->Prop:=λxs H Q=>(∃ b,xs=[.bl b]/\Q (.str (if b then "True" else "False")) H)\/(xs=[.non]/\Q (.str "None") H)
theorem Qt:CallR X (.builtin "repr") aQ1:=a05
def aH8:List V->Hp->VK->Prop:=λxs H Q=>(∃ i,xs=[.int i]/\Q (.int i) H)\/∃ k,xs=[.bl k]/\Q (.int (if k then 1 else 0)) H
theorem Vd:CallR X (.type "int") aH8:=ah8
def aC8 (K:W.Frag):List V->Hp->VK->Prop:=λxs H Q=>∃(a:Addr) (bs:List Bool),xs=[.ref a]/\SqL K H a (bs.map V.bl)/\Q (.bl (bs.any id)) H
theorem a93 (q:X.calm=true):CallR X (.builtin "any") (aC8 X.K):=ao0 q
variable {tg:Expr}
def G4 (K:W.Frag)(x:V)(H1:Hp)(R:It->Hp->Prop):Prop:=(∃ a,x = .ref a/\(∃ xs,SqL K H1 a xs)/\R (Itl K a) H1)\/(∃ a,x = .ref a/\(∃ xs,SqT K H1 a xs)/\R (Itt K a) H1)\/(∃ z,x = .str z/\R (Its z) H1)\/∃ a kvs,x = .ref a/\((H1 a=some (.dK kvs)/\∀ o,R (Itd a o kvs) (upd H1 a (.frz o (.dK kvs))))\/∃ o,H1 a=some (.frz o (.dK kvs))/\R (Itd a o kvs) H1)
def aR7 (K:W.Frag)(tl:TE):TI:=fun σ H R=>tl σ H λx H1=>G4 K x H1 R
theorem aI3 (hu:X.A.units+1<cLine){l:Expr}{tl:TE}(Z:PE X l tl):PI X tg l (aR7 X.K tl):=by
 intro pins s σ H R I h;refine thn (Z pins s σ H _ I h) λv J ⟨x,H1,F,O,q1⟩=>?_;rcases q1 with ⟨a,e,⟨xs,U⟩,q⟩|⟨a,e,⟨xs,U⟩,q⟩|⟨z,e,q⟩|⟨a,kvs,e,q⟩
 . subst e
   cases O;obtain⟨Y,rv,p,hz⟩:=F.list U;refine A3T p.isList ?_;refine⟨J.heap.objs.size,[J.heap.objs.size],_,_,H1,rfl,F.kept (t':=J.toks) λb o e=>A02 _ e,ae0 a _,⟨_,A0J _ rfl,rfl,rfl⟩,λb hb=>?_,q⟩;have e:b=J.heap.objs.size:=by simpa using hb
   subst e;exact F.fpOk (A08 _) (F.hok.fresh (A08 _))
 . subst e
   cases O;obtain⟨Y,rv,p,hz⟩:=F.tuple U;refine A3M (show J.heap.IsTuple a Y.toArray from p) ?_;refine⟨J.heap.objs.size,[J.heap.objs.size],_,_,H1,rfl,F.kept (t':=J.toks) λb o e=>A02 _ e,Yx a _,⟨_,A0J _ rfl,rfl,rfl⟩,λb hb=>?_,q⟩;have e:b=J.heap.objs.size:=by simpa using hb
   subst e;exact F.fpOk (A08 _) (F.hok.fresh (A08 _))
 . subst e;exact aP2 F O q
 subst e
 cases O;rcases q with ⟨hd,q⟩|⟨o,hd,q⟩
 . exact ay1 F hd q
 exact am5 F hd q
end
def Fnd (P:Program)(w:World)(K:W.Frag)(mg:Str->Option Value)(base:Heap)(k:Nat)(x:Str)(ps:List Str)(sp:Sp):Prop:=
 ∃ f fd,FnOk P w K mg base CX0 k f fd ps sp/\mg x=some (.ref f)/\W.keepIn K (.ref f)=true/\Binds K fd ps []
section
variable {X:Cx}{k:Nat}{x:Str}{ps:List Str}{sp:Sp}{e:Expr}{es:List Expr}{t:TA}{p pos:Pos}
theorem Ao (F:Fnd X.prog X.w X.K X.mg X.base k x ps sp)(Z:Room k X.A)(U:Gl X x)(ha:PA X (e :: es) t)(O:(x==("__debug__":Str))=false:=by decide)
  (he:starEach (e :: es) X.env=(false,eval e X.env) :: starEach es X.env:=by ac_nf) (Y:(backTo pos (starEach es X.env)).any (·.1)=false:=by ac_nf):PE X (.Call (.Name x p) (e :: es) [] pos) (az5 sp [] E0 t):=by
 obtain⟨f,fd,h1,h2,q,J⟩:=F;exact aB4 h1 Z U h2 q J .nil aA2 ha O he Y
end
def ExtBut (d:Addr)(H H':Hp):Prop:=∀ b o,b≠d->H b=some o->H' b=some o
theorem Same.lk {H H':Hp}{a:Addr}{o:HO}(e:Same H H')(h:H a=some o):H' a=some o:=e a o h
theorem ExtBut.lk {d:Addr}{H H':Hp}{a:Addr}{o:HO}(e:ExtBut d H H')(h:H a=some o)(n:a≠d):H' a=some o:=e a o n h
theorem Same.upd {H:Hp}{p:Addr}{o:HO}(h:H p=none):Same H (upd H p o):=λb u e=>by rw[Au (ne_of_none e h)];exact e
theorem ExtBut.upd {H:Hp}{p:Addr}{o:HO}:ExtBut p H (upd H p o):=λb u n e=>by rw[Au n];exact e
theorem Same.but {d:Addr}{H H':Hp}(e:Same H H'):ExtBut d H H':=λb o _ h=>e b o h
theorem ExtBut.trans {d:Addr}{H H1 H2:Hp}(a:ExtBut d H H1)(b:ExtBut d H1 H2):ExtBut d H H2:=λc o n h=>b c o n (a c o n h)
theorem ExtBut.same {d:Addr}{H H1 H2:Hp}(a:ExtBut d H H1)(b:Same H1 H2):ExtBut d H H2:=λc o n h=>b c o (a c o n h)
theorem ExtBut.after {d:Addr}{H H1 H2:Hp}(a:Same H H1)(b:ExtBut d H1 H2):ExtBut d H H2:=λc o n h=>b c o n (a c o h)
theorem ExtBut.refl {d:Addr}{H:Hp}:ExtBut d H H:=λ_ _ _ h=>h
def aP5 (xs:List V)(H:Hp)(Q:VK):Prop:=xs.length<=sizeLine/\∀ p,H p=none->Q (.ref p) (upd H p (.tup xs))
def aI0 (xs:List V)(H:Hp)(Q:VK):Prop:=xs.length<=sizeLine/\∀ p,H p=none->Q (.ref p) (upd H p (.lst xs))
def aH3 (vs:List V)(H:Hp)(R:It->Hp->Prop):Prop:=∃ j:Int,vs=[.int j] /\ -(2 ^ 62)<=j/\j<2 ^ 62/\R (Itr 0 j.toNat) H
def aL5 (vs:List V)(H:Hp)(R:It->Hp->Prop):Prop:=∃ i j:Int,vs=[.int i,.int j]/\(-(2 ^ 62)<=i/\i<2 ^ 62 /\ -(2 ^ 62)<=j/\j<2 ^ 62)/\R (Itr i (j-i).toNat) H
def an9 (g:TG)(tb:TS)(D:Po)(σ:St)(J:It)(H1:Hp):Prop:=∃ W:Nat->Nat->St->Hp->Prop,(∃ m,W 0 m σ H1)/\∀ i m σ H,W i m σ H ->
 (J.stop i H/\D.nx σ H)\/(J.go i H/\∃ N:St->Hp->Prop,(∀ σ' H',N σ' H'->∃ q,q<m/\W (i+1) q σ' H')/\∀ x H',J.yld i H x H'->g x σ H' fun σ2 H2=>tb {D with nx:=N,ct:=N,bk:=D.nx} σ2 H2)
def Om (k:Nat)(js:List Nat)(g:TG)(tt:TT)(te:TE)(σ:St)(J:It)(H1:Hp)(Q:VK):Prop:=∀ p,H1 p=none ->
 ∃ W:Nat->Nat->Hp->Prop,(∃ m,W 0 m (upd H1 p (.lst [])))/\∀ i m H,W i m H ->
  (J.stop i H/\Q (.ref p) H)\/(J.go i H/\∃ N:Hp->Prop,(∀ H',N H'->∃ O,O<m/\W (i+1) O H') /\
   ∀ x H',J.yld i H x H'->g x (List.replicate k none++Py σ js) H' fun σ2 H2=>tt σ2 H2 λb q=>if b=true then te σ2 q λy F=>∃ acc,F p=some (.lst acc)/\acc.length<sizeLine/\N (upd F p (.lst (acc++[y]))) else N q)
def at0 (p:Addr)(ps:List (V×V))(H:Hp)(Q:VK):Prop:=H p=some (.dK [])/\∃ kvs:List (Key×V),ps=kvs.map (λkv=>(kV kv.1,kv.2))/\kvs.length<=15/\Q (.ref p) (upd H p (.dK (Gm [] kvs)))
section
variable {K:W.Frag}{σ:St}{H:Hp}{Q:VK}{D:Po}{ta tb te:TE}{c:TT}{t u:TS}{x y v:V}{i j:Int}
theorem i_var {n:Nat}(h:σ[n]? = some (some v))(k:Q v H):aR5 n σ H Q:=⟨v,h,k⟩
theorem i_c (k:Q v H):tC v σ H Q:=k
theorem i_next (k:D.nx σ H):aL6 D σ H:=k
theorem i_ret (k:te σ H D.rt):aV6 te D σ H:=k
theorem i_drop (k:te σ H λ_ H1=>D.nx σ H1):aM5 te D σ H:=k
theorem i_asg {g:TG}(k:te σ H λx H1=>g x σ H1 D.nx):aD8 te g D σ H:=k
theorem i_gname {n:Nat}{R:St->Hp->Prop}(k:R (σ.set n (some v)) H):K8 n v σ H R:=k
theorem i_if (k:c σ H λb H1=>if b=true then t D σ H1 else u D σ H1):aW1 c t u D σ H:=k
theorem i_op {r:R2}(k:ta σ H λx H1=>tb σ H1 λy H2=>r x y H2 Q):tOp r ta tb σ H Q:=k
theorem i_un {r:V->Hp->VK->Prop}(k:ta σ H λx H1=>r x H1 Q):tUn r ta σ H Q:=k
theorem i_rU {g:Int->V}(k:Q (g i) H):rU g (.int i) H Q:=⟨i,rfl,k⟩
theorem i_rI0 {g:Int->Int->V}(k:Q (g i j) H):rI0 g (.int i) (.int j) H Q:=⟨i,j,rfl,rfl,k⟩
theorem i_rI {C:Int->Int->Prop}{g:Int->Int->V}(h:C i j)(k:Q (g i j) H):rI C g (.int i) (.int j) H Q:=⟨i,j,rfl,rfl,h,k⟩
theorem i_addI (k:Q (.int (i+j)) H):X8 K (.int i) (.int j) H Q:=.inl ⟨i,j,rfl,rfl,k⟩
theorem i_addS {a b:Str}(h:a.length+b.length<=sizeLine)(k:Q (.str (a++b)) H):X8 K (.str a) (.str b) H Q:=.inr (.inl ⟨a,b,rfl,rfl,h,k⟩)
theorem Ys {a b:Addr}{xs ys:List V}(h1:H a=some (.lst xs))(h2:H b=some (.lst ys))(h:xs.length+ys.length<=sizeLine)(k:∀ p H',H p=none->Same H H'->H' p=some (.lst (xs++ys))->Q (.ref p) H'):X8 K (.ref a) (.ref b) H Q:=
 .inr (.inr (.inl ⟨a,b,xs,ys,rfl,rfl,h1,h2,h,λp hp=>k p _ hp (Same.upd hp) Af⟩))
theorem aH0 (h:CMul i j)(k:Q (.int (i*j)) H):am3 (.int i) (.int j) H Q:=.inl ⟨i,j,rfl,rfl,h,k⟩
theorem aF9 {a:Addr}{xs:List V}(h1:H a=some (.lst xs))(h2:-(2 ^ 63)<=i/\i<2 ^ 63)(q:xs.length*i.toNat<=sizeLine)(k:∀ p H',H p=none->Same H H'->H' p=some (.lst (List.replicate i.toNat xs).flatten)->Q (.ref p) H'):am3 (.ref a) (.int i) H Q:=
 .inr ⟨a,i,xs,rfl,rfl,h1,h2.1,h2.2,q,λp hp=>k p _ hp (Same.upd hp) Af⟩
theorem i_eqS (h:aR0 x y=true)(k:Q (.bl (decide (x=y))) H):aQ6 K x y H Q:=.inl ⟨h,k⟩
theorem i_neS (h:aR0 x y=true)(k:Q (.bl (!decide (x=y))) H):aQ8 K x y H Q:=.inl ⟨h,k⟩
theorem aH7 {dx dy:PyData}(h1:Is K H dx x)(h2:Is K H dy y)(q:SeqAt.shaped dx=true)(F:SeqAt.shaped dy=true)(k:Q (.bl (PyData.eqv dx dy)) H):aQ6 K x y H Q:=.inr ⟨dx,dy,h1,h2,q,F,k⟩
theorem aS9 {dx dy:PyData}(h1:Is K H dx x)(h2:Is K H dy y)(q:SeqAt.shaped dx=true)(F:SeqAt.shaped dy=true)(k:Q (.bl (!PyData.eqv dx dy)) H):aQ8 K x y H Q:=.inr ⟨dx,dy,h1,h2,q,F,k⟩
theorem i_true {R:Bool->Hp->Prop}(k:R true H):aw6 σ H R:=k
theorem i_tTest {R:Bool->Hp->Prop}(k:te σ H λx H'=>∃ b,x = .bl b/\R b H'):aL2 te σ H R:=k
theorem i_tB {R:Bool->Hp->Prop}(k:te σ H λx H'=>∃ b,x = .bl b/\R b H'):tB te σ H R:=k
theorem i_bl {b:Bool}{R:Bool->Prop}(k:R b):∃ c,V.bl b = .bl c/\R c:=⟨b,rfl,k⟩
theorem i_not {R:Bool->Hp->Prop}(k:c σ H λb H1=>R (!b) H1):aW3 c σ H R:=k
theorem i_and {q:TT}{R:Bool->Hp->Prop}(k:c σ H λb H1=>if b=true then q σ H1 R else R false H1):aW4 c q σ H R:=k
theorem i_or {q:TT}{R:Bool->Hp->Prop}(k:c σ H λb H1=>if b=true then R true H1 else q σ H1 R):tOr c q σ H R:=k
theorem Kq {a:Addr}{xs:List V}(h:H a=some (.lst xs))(e:atI xs i=some v)(k:Q v H):Qm K (.ref a) (.int i) H Q:=.inl (.inl ⟨a,xs,i,v,rfl,rfl,SqL.of h,e,k⟩)
theorem aD5 {z:Str}{s:Nat}(h:z.length<=sizeLine)(e:atI z.cps.toList i=some s)(k:Q (.str ⟨#[s]⟩) H):Qm K (.str z) (.int i) H Q:=.inl (.inr (.inr ⟨z,i,s,rfl,rfl,h,e,k⟩))
theorem i_ixD {a:Addr}{kvs:List (Key×V)}{z:Str}(h:H a=some (.dK kvs))(e:Ck kvs (Sum.inr z:Key)=some v)(k:Q v H):Qm K (.ref a) (.str z) H Q:=.inr ⟨a,v,rfl,by rw[<- e];exact DGet.k (k:=Sum.inr z) h,k⟩
theorem i_lenL {a:Addr}{xs:List V}(h:H a=some (.lst xs))(k:Q (.int xs.length) H):Zt K [.ref a] H Q:=.inl ⟨.ref a,_,rfl,.inl ⟨xs,SqL.of h,rfl⟩,k⟩
theorem aE8 {c:String}{t:Value}{b:Bool}(h:TyOf K H x t)(e:W.kitOne K t (.type c)=some b)(k:Q (.bl b) H):T7 K [x,.ty c] H Q:=.inl ⟨x,c,t,b,rfl,h,e,k⟩
theorem aq1 {c:String}{b:Bool}{a:Addr}{ys:List V}(h:SqT K H a ys)(e:W.kitOne K (.type "tuple") (.type c)=some b)(k:Q (.bl b) H):T7 K [.ref a,.ty c] H Q:=.inr (.inr ⟨a,ys,c,b,rfl,.inl ⟨h,e⟩,k⟩)
theorem av7 {a:Addr}{xs:List V}(h:SqL K H a xs)(k:∀ p H',H p=none->Same H H'->H' p=some (.lst xs)->Q (.ref p) H'):Yu K [.ref a] H Q:=⟨a,xs,rfl,.inl h,λp hp=>k p _ hp (Same.upd hp) Af⟩
theorem Mz {a:Addr}{xs:List V}(h:SqL K H a xs)(k:∀ p H',H p=none->Same H H'->H' p=some (.tup xs)->Q (.ref p) H'):Oq K [.ref a] H Q:=⟨a,xs,rfl,.inl ⟨h,λp hp=>k p _ hp (Same.upd hp) Af⟩⟩
theorem i_intB {b:Bool}(k:Q (.int (if b then 1 else 0)) H):aH8 [.bl b] H Q:=.inr ⟨b,rfl,k⟩
theorem aU5 {a:Addr}{bs:List Bool}(h:SqL K H a (bs.map V.bl))(k:Q (.bl (bs.any id)) H):aC8 K [.ref a] H Q:=⟨a,bs,rfl,h,k⟩
theorem i_sl {r:V->Option Int->Option Int->Hp->VK->Prop}{tl th:TO}(k:te σ H λx H1=>tl σ H1 λl H2=>th σ H2 λu q=>r x l u q Q):tSl r te tl th σ H Q:=k
theorem i_noPart {R:Option Int->Hp->Prop}(k:R none H):ae1 σ H R:=k
theorem i_part {R:Option Int->Hp->Prop}(k:te σ H λx H1=>∃ i,x = .int i/\R (some i) H1):aJ7 te σ H R:=k
theorem i_int {R:Int->Prop}(k:R i):∃ j,V.int i = .int j/\R j:=⟨i,rfl,k⟩
theorem i_slS {z:Str}{lo hi:Option Int}(h:z.length<=sizeLine)(k:Q (.str (Txt.slice z lo hi)) H):aE4 K (.str z) lo hi H Q:=.inr (.inr (.inl ⟨z,rfl,h,k⟩))
theorem Nm {a:Addr}{xs:List V}{lo hi:Option Int}(h:SqL K H a xs)(k:∀ p H',H p=none->Same H H'->H' p=some (.lst (R6 xs lo hi))->Q (.ref p) H'):aE4 K (.ref a) lo hi H Q:=.inl ⟨a,xs,rfl,h,λp hp=>k p _ hp (Same.upd hp) Af⟩
theorem i_bm {T:String}{r:V->List V->Hp->VK->Prop}{q:TA}(k:te σ H λx H1=>tyV K T x H1/\q σ H1 λxs H2=>r x xs H2 Q):tBM K T r te q σ H Q:=k
theorem i_bm0 {T:String}{r:V->List V->Hp->VK->Prop}(k:te σ H λx H1=>tyV K T x H1/\r x [] H1 Q):aR4 K T r te σ H Q:=k
theorem i_call {sp:Sp}{E:XK}{q:TA}(k:q σ H λvs H1=>sp (vs++[]) H1 Q E):az5 sp [] E q σ H Q:=k
theorem i_cb {r:List V->Hp->VK->Prop}{q:TA}(k:q σ H λvs H1=>r vs H1 Q):tCB r q σ H Q:=k
theorem i_cons {q:TA}{R:List V->Hp->Prop}(k:ta σ H λx H1=>q σ H1 λxs H2=>R (x :: xs) H2):Yz ta q σ H R:=k
theorem i_nil {R:List V->Hp->Prop}(k:R [] H):aE5 σ H R:=k
theorem i_tup {q:TA}(k:q σ H λxs H1=>aP5 xs H1 Q):aW8 q σ H Q:=k
theorem i_lst {q:TA}(k:q σ H λxs H1=>aI0 xs H1 Q):aV8 q σ H Q:=k
theorem B7 {xs:List V}(h:xs.length<=sizeLine)(k:∀ p H',H p=none->Same H H'->H' p=some (.tup xs)->Q (.ref p) H'):aP5 xs H Q:=⟨h,λp hp=>k p _ hp (Same.upd hp) Af⟩
theorem Bu {xs:List V}(h:xs.length<=sizeLine)(k:∀ p H',H p=none->Same H H'->H' p=some (.lst xs)->Q (.ref p) H'):aI0 xs H Q:=⟨h,λp hp=>k p _ hp (Same.upd hp) Af⟩
theorem Yo (k:∀ p H',H p=none->Same H H'->H' p=some (.dK [])->Q (.ref p) H'):at7 σ H Q:=λp hp=>k p _ hp (Same.upd hp) Af
theorem i_put {td ty tv:TE}(k:tv σ H λv H1=>td σ H1 λx H2=>ty σ H2 λy F=>∃ a q,x = .ref a/\DPut F a y v q/\D.nx σ q):aJ4 td ty tv D σ H:=k
theorem J3 {a:Addr}{kvs:List (Key×V)}{z:Str}{R:Hp->Prop}(h:H a=some (.dK kvs))(F:kvs.length<1000)(k:∀ H',ExtBut a H H'->H' a=some (.dK (Ge kvs (Sum.inr z) v))->R H'):∃ b q,V.ref a = .ref b/\DPut H b (.str z) v q/\R q:=
 ⟨a,_,rfl,DPut.k (k:=Sum.inr z) h (ae6 (A2H F)),k _ ExtBut.upd Af⟩
theorem i_for {q:TI}{g:TG}{tb:TS}(k:q σ H λJ H1=>an9 g tb D σ J H1):aW7 q g tb D σ H:=k
theorem i_comp {m:Nat}{js:List Nat}{q:TI}{g:TG}{tt:TT}(k:q σ H λJ H1=>Om m js g tt te σ J H1 Q):aB3 m js q g tt te σ H Q:=k
theorem Kf {a:Addr}{xs:List V}{R:It->Hp->Prop}(h:SqL K H a xs)(k:R (Itl K a) H):G4 K (.ref a) H R:=.inl ⟨a,rfl,⟨xs,h⟩,k⟩
theorem X9 {a:Addr}{xs:List V}{R:It->Hp->Prop}(h:SqT K H a xs)(k:R (Itt K a) H):G4 K (.ref a) H R:=.inr (.inl ⟨a,rfl,⟨xs,h⟩,k⟩)
theorem aS4 {a:Addr}{kvs:List (Key×V)}{R:It->Hp->Prop}(h:H a=some (.dK kvs))(k:∀ o,R (Itd a o kvs) (upd H a (.frz o (.dK kvs)))):G4 K (.ref a) H R:=.inr (.inr (.inr ⟨a,kvs,rfl,.inl ⟨h,k⟩⟩))
theorem aR9 {a:Addr}{kvs:List (Key×V)}{o:Obj}{R:It->Hp->Prop}(h:H a=some (.frz o (.dK kvs)))(k:R (Itd a o kvs) H):G4 K (.ref a) H R:=.inr (.inr (.inr ⟨a,kvs,rfl,.inr ⟨o,h,k⟩⟩))
theorem i_rng1 {q:TA}{R:It->Hp->Prop}(k:q σ H λvs H1=>aH3 vs H1 R):aI4 q σ H R:=k
theorem Lc {R:It->Hp->Prop}(h:-(2 ^ 62)<=i/\i<2 ^ 62)(k:R (Itr 0 i.toNat) H):aH3 [V.int i] H R:=⟨i,rfl,h.1,h.2,k⟩
theorem i_rng2 {q:TA}{R:It->Hp->Prop}(k:q σ H λvs H1=>aL5 vs H1 R):aL4 q σ H R:=k
theorem aH6 {R:It->Hp->Prop}(h:(-(2 ^ 62)<=i/\i<2 ^ 62) /\ -(2 ^ 62)<=j/\j<2 ^ 62)(k:R (Itr i (j-i).toNat) H):aL5 [V.int i,V.int j] H R:=⟨i,j,rfl,⟨h.1.1,h.1.2,h.2.1,h.2.2⟩,k⟩
theorem i_iany {R:It->Hp->Prop}(k:te σ H λx H1=>G4 K x H1 R):aR7 K te σ H R:=k
theorem Xi {q:List (TE×TE)}(k:∀ p H1,H p=none->Same H H1->H1 p=some (.dK [])->Oo q σ H1 λps H2=>at0 p ps H2 Q):aK5 q σ H Q:=λp hp=>k p _ hp (Same.upd hp) Af
theorem i_pair {tk tv:TE}{r:List (TE×TE)}{R:List (V×V)->Hp->Prop}(k:tk σ H λx H1=>tv σ H1 λy H2=>Oo r σ H2 λps q=>R ((x,y) :: ps) q):Oo ((tk,tv) :: r) σ H R:=k
theorem Rs {p:Addr}{ps:List (V×V)}(kvs:List (Key×V))(h:H p=some (.dK []))(e:ps=kvs.map (λkv=>(kV kv.1,kv.2)))(q:kvs.length<=15)(k:∀ H',ExtBut p H H'->H' p=some (.dK (Gm [] kvs))->Q (.ref p) H'):at0 p ps H Q:=⟨h,kvs,e,q,k _ ExtBut.upd Af⟩
theorem i_pair0 {R:List (V×V)->Hp->Prop}(k:R [] H):Oo [] σ H R:=k
end
theorem Ll {c A B:Prop}[Decidable c](h1:c->A)(h2:¬ c->B):if decide c=true then A else B:=by
 by_cases h:c
 . rw[A0X (A16 h)];exact h1 h
 rw[A0P (by rw[A0S h];exact A0M)];exact h2 h
theorem aC9 {c A B:Prop}[Decidable c](h1:¬ c->A)(h2:c->B):if(!decide c)=true then A else B:=by
 by_cases h:c
 . rw[A16 h,A0P nofun];exact h2 h
 rw[A0S h,A0X nofun];exact h1 h
theorem aF1 {b:Bool}{A B:Prop}(h1:b=true->A)(h2:b=false->B):if b=true then A else B:=by
 cases b
 . rw[A0P A0M];exact h2 rfl
 rw[A0X rfl];exact h1 rfl
theorem T5 {b:Bool}{A B:Prop}(h1:b=false->A)(h2:b=true->B):if(!b)=true then A else B:=by
 cases b
 . exact h1 rfl
 exact h2 rfl
theorem iteNT {A B:Prop}(h:B):if(!true)=true then A else B:=h
theorem A9 {n:Nat}(h:n<=1000000):n<=sizeLine:=by rw[A1I];omega
def Hr (J:It)(xs:List V)(G:Hp->Prop):Prop:=
 ∀ i H,G H->(i<xs.length->J.go i H)/\(xs.length<=i->J.stop i H)/\∀ x H',i<xs.length->J.yld i H x H'->H'=H/\xs[i]? = some x
theorem Bp {K:W.Frag}{a:Addr}{xs:List V}:Hr (Itl K a) xs λH=>SqL K H a xs:=by intro i H g;refine⟨λh=>⟨xs,xs[i],g,A03 h⟩,λh=>⟨xs,g,h⟩,λx H' _ h=>⟨h.1,h.2 xs g⟩⟩
theorem Ir {K:W.Frag}{a:Addr}{xs:List V}:Hr (Itt K a) xs λH=>SqT K H a xs:=by intro i H g;refine⟨λh=>⟨xs,xs[i],g,A03 h⟩,λh=>⟨xs,g,h⟩,λx H' _ h=>⟨h.1,h.2 xs g⟩⟩
theorem La {a:Addr}{o:Obj}{kvs:List (Key×V)}:Hr (Itd a o kvs) (kvs.map λkv=>kV kv.1) λH=>H a=some (.frz o (.dK kvs)):=by intro i H g;rw[A01];refine⟨λh=>⟨g,h⟩,λh=>⟨g,h⟩,λx H' _ h=>?_⟩;obtain⟨e,kv,h1,h2⟩:=h;exact⟨e,by rw[A07,h1,h2];rfl⟩
theorem Ci {lo:Int}{n:Nat}:Hr (Itr lo n) ((List.range n).map λ(i:Nat)=>V.int (lo+(i:Int))) λ_=>True:=by
 intro i H _;refine⟨λh=>?_,λh=>?_,λx H' hi h=>?_⟩
 . show i<n;simpa using h
 . show n<=i;simpa using h
 obtain⟨e,F⟩:=h;refine⟨e,?_⟩;have q:i<n:=by simpa using hi
 rw[A07,List.getElem?_range q,F];rfl
theorem ap1 {J:It}{xs:List V}{G:Hp->Prop}{g:TG}{tb:TS}{D:Po}{σ:St}{H:Hp}(Z:Hr J xs G)(Pv:Nat->St->Hp->Prop)(O:Pv 0 σ H)(U:∀ i σ H,Pv i σ H->G H)
  (Y:∀ i x σ H,xs[i]? = some x->Pv i σ H->g x σ H fun σ2 H2=>tb {D with nx:=Pv (i+1),ct:=Pv (i+1),bk:=D.nx} σ2 H2) (hd:∀ σ H,Pv xs.length σ H->D.nx σ H) :
  ∃ W:Nat->Nat->St->Hp->Prop,(∃ m,W 0 m σ H)/\∀ i m σ H,W i m σ H ->
   (J.stop i H/\D.nx σ H)\/(J.go i H/\∃ N:St->Hp->Prop,(∀ σ' H',N σ' H'->∃ F,F<m/\W (i+1) F σ' H')/\∀ x H',J.yld i H x H'->g x σ H' fun σ2 H2=>tb {D with nx:=N,ct:=N,bk:=D.nx} σ2 H2):=by
 refine⟨λi m σ H=>m=xs.length-i/\i<=xs.length/\Pv i σ H,⟨xs.length,by simp,Nat.zero_le _,O⟩,?_⟩;rintro i m σ H ⟨rfl,hi,p⟩;obtain⟨w1,w2,w3⟩:=Z i H (U i σ H p)
 by_cases q:i<xs.length
 . refine .inr ⟨w1 q,Pv (i+1),fun σ' H' p'=>⟨xs.length-(i+1),by omega,rfl,q,p'⟩,λx H' y=>?_⟩;obtain⟨e,hx⟩:=w3 x H' q y;subst e;exact Y i x σ _ hx p
 have e:i=xs.length:=by omega
 subst e;exact .inl ⟨w2 (A08 _),hd σ H p⟩
def CN (p:Addr)(n:Nat)(Pv:Nat->List V->Hp->Prop)(i:Nat):Hp->Prop:=λH'=>i+1<=n/\∃ acc,H' p=some (.lst acc)/\acc.length<=i+1/\Pv (i+1) acc H'
theorem az0 {p:Addr}{n:Nat}{Pv:Nat->List V->Hp->Prop}{i:Nat}{H:Hp}{acc:List V}{y:V}(hn:n<=1000000)(hi:i<n)(q:acc.length<=i)(e:H p=some (.lst acc))(k:∀ H',ExtBut p H H'->H' p=some (.lst (acc++[y]))->Pv (i+1) (acc++[y]) H') :
  ∃ acc,H p=some (.lst acc)/\acc.length<sizeLine/\CN p n Pv i (upd H p (.lst (acc++[y]))):=
 ⟨acc,e,by rw[A1I];omega,hi,acc++[y],Af,by rw[A06,A14];omega,k _ ExtBut.upd Af⟩
theorem Ru {p:Addr}{n:Nat}{Pv:Nat->List V->Hp->Prop}{i:Nat}{H:Hp}{acc:List V}(hi:i<n)(q:acc.length<=i)(e:H p=some (.lst acc))(k:Pv (i+1) acc H):CN p n Pv i H:=⟨hi,acc,e,by omega,k⟩
theorem a53 {J:It}{xs:List V}{G:Hp->Prop}{g:TG}{tt:TT}{te:TE}{σ:St}{H:Hp}{Q:VK}{p:Addr}{k:Nat}{js:List Nat}(hw:Hr J xs G)(hp:H p=none)(Pv:Nat->List V->Hp->Prop)
  (h0:∀ H',Same H H'->H' p=some (.lst [])->Pv 0 [] H') (hG:∀ i acc H,Pv i acc H->G H)
  (hs:∀ i x acc H,xs[i]? = some x->i<xs.length->acc.length<=i->H p=some (.lst acc)->Pv i acc H->g x (List.replicate k none++Py σ js) H fun σ2 H2=>tt σ2 H2 λb F=>if b=true then te σ2 F λy O=>∃ acc,O p=some (.lst acc)/\acc.length<sizeLine/\CN p xs.length Pv i (upd O p (.lst (acc++[y]))) else CN p xs.length Pv i F)
  (hd:∀ acc H,H p=some (.lst acc)->acc.length<=xs.length->Pv xs.length acc H->Q (.ref p) H) :
  ∃ W:Nat->Nat->Hp->Prop,(∃ m,W 0 m (upd H p (.lst [])))/\∀ i m H,W i m H ->
   (J.stop i H/\Q (.ref p) H)\/(J.go i H/\∃ N:Hp->Prop,(∀ H',N H'->∃ m',m'<m/\W (i+1) m' H') /\
    ∀ x H',J.yld i H x H'->g x (List.replicate k none++Py σ js) H' fun σ2 H2=>tt σ2 H2 λb F=>
     if b=true then te σ2 F λy O=>∃ acc,O p=some (.lst acc)/\acc.length<sizeLine/\N (upd O p (.lst (acc++[y]))) else N F):=by
 refine⟨λi m H=>m=xs.length-i/\i<=xs.length/\∃ acc,H p=some (.lst acc)/\acc.length<=i/\Pv i acc H,⟨xs.length,by simp,Nat.zero_le _,[],Af,Nat.le_refl _,h0 _ (Same.upd hp) Af⟩,?_⟩;rintro i m H ⟨rfl,hi,acc,Y,Z,q⟩;obtain⟨w1,w2,w3⟩:=hw i H (hG i acc H q)
 by_cases U:i<xs.length
 . refine .inr ⟨w1 U,CN p xs.length Pv i,λH' ⟨h1,h2⟩=>⟨xs.length-(i+1),by omega,rfl,h1,h2⟩,λx H' y=>?_⟩;obtain⟨e,hx⟩:=w3 x H' U y;subst e;exact hs i x acc _ hx U Z Y q
 have e:i=xs.length:=by omega
 subst e;exact .inl ⟨w2 (A08 _),hd acc H Y Z q⟩
def aN7 (p:Addr)(N:Hp->Prop):VK:=λy q=>∃ acc,q p=some (.lst acc)/\acc.length<sizeLine/\N (upd q p (.lst (acc++[y])))
theorem Ik {J:It}{xs:List V}{G:Hp->Prop}{g:TG}{tt:TT}{te:TE}{σ:St}{H:Hp}{Q:VK}{k:Nat}{js:List Nat}(hw:Hr J xs G)(Pv:Addr->Nat->List V->Hp->Prop)
  (O:∀ p H',H p=none->Same H H'->H' p=some (.lst [])->Pv p 0 [] H') (Z:∀ p i acc H,Pv p i acc H->G H)
  (hs:∀ p i x acc H1,H p=none->xs[i]? = some x->i<xs.length->acc.length<=i->H1 p=some (.lst acc)->Pv p i acc H1->g x (List.replicate k none++Py σ js) H1 fun σ2 H2=>tt σ2 H2 λb F=>if b=true then te σ2 F (aN7 p (CN p xs.length (Pv p) i)) else CN p xs.length (Pv p) i F)
  (hd:∀ p acc H1,H p=none->H1 p=some (.lst acc)->acc.length<=xs.length->Pv p xs.length acc H1->Q (.ref p) H1):Om k js g tt te σ J H Q:=λp hp=>
 a53 hw hp (Pv p) (λH' e h=>O p H' hp e h) (Z p) (λi x acc H1 h1 h2 q U Y=>hs p i x acc H1 hp h1 h2 q U Y) λacc H1 h1 h2 q=>hd p acc H1 hp h1 h2 q
theorem Lg {p:Addr}{n:Nat}{Pv:Nat->List V->Hp->Prop}{i:Nat}{H:Hp}{acc:List V}{y:V}(hn:n<=1000000)(hi:i<n)(q:acc.length<=i)(e:H p=some (.lst acc))(k:∀ H',ExtBut p H H'->H' p=some (.lst (acc++[y]))->Pv (i+1) (acc++[y]) H') :
  aN7 p (CN p n Pv i) y H:=az0 hn hi q e k
theorem ah9 {J:It}{xs:List V}{G:Hp->Prop}{g:TG}{tt:TT}{te:TE}{σ:St}{H:Hp}{Q:VK}{k:Nat}{js:List Nat}(hw:Hr J xs G)(t:V->Bool)(f:V->V)(hz:xs.length<=1000000)(hG:∀ H',Same H H'->G H')
  (hs:∀(i:Nat) x H1 (R:VK) (R':Hp->Prop),xs[i]? = some x->Same H H1->(t x=true->R (f x) H1)->(t x=false->R' H1)->g x (List.replicate k none++Py σ js) H1 fun σ2 H2=>tt σ2 H2 λb O=>if b=true then te σ2 O R else R' O)
  (hd:∀ p H',H p=none->Same H H'->H' p=some (.lst ((xs.filter t).map f))->Q (.ref p) H'):Om k js g tt te σ J H Q:=by
 refine Ik hw (λp i acc H1=>Same H H1/\acc=((xs.take i).filter t).map f) (λp H' hp e h=>⟨e,by simp⟩) (λp i acc H1 h=>hG H1 h.1) (λp i x acc H1 hp Y hi F ha ⟨e,q⟩=>?_) λp acc H1 hp ha F ⟨e,q⟩=>?_
 . have U:xs.take (i+1)=xs.take i++[x]:=by rw[A0R,Y];rfl
   refine hs i x H1 _ _ Y e (λh=>?_) λh=>?_
   . refine Lg hz hi F ha λH' Z h'=>⟨λb o hb=>Z b o (ne_of_none hb hp) (e b o hb),?_⟩;rw[U,A1X,A0T,q];simp[h]
   refine Ru hi F ha ⟨e,?_⟩;rw[U,A1X,A0T,q];simp[h]
 refine hd p H1 hp e ?_;rw[ha,q,A0W]
theorem Iu {α:Type}(xs:List α):xs.filter (λ_=>true)=xs:=by simp
theorem Nh {J:It}{xs:List V}{G:Hp->Prop}{g:TG}{te:TE}{σ:St}{H:Hp}{Q:VK}{k:Nat}{js:List Nat}(O:Hr J xs G)(f:V->V)(hz:xs.length<=1000000)(q:∀ H',Same H H'->G H')
  (F:∀(i:Nat) x H1 (R:VK),xs[i]? = some x->Same H H1->R (f x) H1->g x (List.replicate k none++Py σ js) H1 fun σ2 H2=>te σ2 H2 R)
  (hd:∀ p H',H p=none->Same H H'->H' p=some (.lst (xs.map f))->Q (.ref p) H'):Om k js g aw6 te σ J H Q:=
 ah9 O (λ_=>true) f hz q (λi x H1 R R' U e h _=>by
  have:=F i x H1 R U e (h rfl);show g x _ H1 fun σ2 H2=>if true=true then te σ2 H2 R else R' H2
  simpa using this) λp H' hp e h=>hd p H' hp e (by rw[h,Iu])
theorem Ep {J:It}{xs:List V}{G:Hp->Prop}{g:TG}{tb:TS}{D:Po}{σ:St}{H:Hp}(Y:Hr J xs G)(Pv:Nat->St->Hp->Prop)(F:Pv 0 σ H)(O:∀ i σ H,Pv i σ H->G H)
  (U:∀ i x σ H,xs[i]? = some x->i<xs.length->Pv i σ H->g x σ H fun σ2 H2=>tb {D with nx:=Pv (i+1),ct:=Pv (i+1),bk:=D.nx} σ2 H2) (hd:∀ σ H,Pv xs.length σ H->D.nx σ H):an9 g tb D σ J H:=
 ap1 Y Pv F O (λi x σ H q=>U i x σ H q (A00.mp q).1) hd
section
variable {X:Cx}{K:W.Frag}
theorem Al (q:X.K=K:=by ac_nf):OpR X (binaryOp .Add) (X8 K):=q ▸ aw9
theorem Cn (F:QA X.A)(q:X.K=K:=by ac_nf):OpR X (compareOp .Eq) (aQ6 K):=q ▸ aQ2 F
theorem Qi (F:QA X.A)(q:X.K=K:=by ac_nf):OpR X (compareOp .NotEq) (aQ8 K):=q ▸ aJ3 F
theorem Mt (F:QA X.A)(q:X.K=K:=by ac_nf):OpR X (compareOp .In) (Z7 K false):=q ▸ aO7 F
theorem Gs (F:QA X.A)(q:X.K=K:=by ac_nf):OpR X (compareOp .NotIn) (Z7 K true):=q ▸ aa4 F
theorem A6 (hu:X.A.units+1<cLine)(q:X.K=K:=by ac_nf):IxR X (Qm K):=q ▸ aO8 hu
theorem X5 (q:X.K=K:=by ac_nf):SlR X (aE4 K):=q ▸ sl_A
theorem B8 (q:X.K=K:=by ac_nf):CallR X (.builtin "len") (Zt K):=q ▸ aj8
theorem Hc (q:X.K=K:=by ac_nf):CallR X (.builtin "isinstance") (T7 K):=q ▸ W5
theorem Qu (q:X.K=K:=by ac_nf):CallR X (.type "list") (Yu K):=q ▸ Zp
theorem Co (q:X.K=K:=by ac_nf):CallR X (.type "tuple") (Oq K):=q ▸ W9
theorem ab4 (F:X.calm=true)(q:X.K=K:=by ac_nf):CallR X (.builtin "any") (aC8 K):=q ▸ a93 F
theorem As {tg:Expr}(hu:X.A.units+1<cLine){l:Expr}{tl:TE}(F:PE X l tl)(q:X.K=K:=by ac_nf):PI X tg l (aR7 K tl):=q ▸ aI3 hu F
theorem Lm {es:List Expr}{k:Nat}{t:TGs}{n:Nat}{pos:Pos}(F:X.calm=true)(h:PGs X es t)(q:X.K=K:=by ac_nf)
  (hn:(assignEach es X.env).length=n:=by ac_nf) (J:(assignEach es X.env).findIdx? (·.1)=none:=by ac_nf):PG X (.Tuple es k pos) (ax2 K n t):=q ▸ aO5 F h hn J
variable {o e:Expr}{es:List Expr}{to:TE}{t:TA}{name:Str}{apos cpos:Pos}{T id:String}{r:V->List V->Hp->VK->Prop}
theorem ad6 (Y:PlainAttrs T)(slot:Slot T name id)(U:typeOf (.builtin id)=pure (.type "method_descriptor"))(hm:MtR X id r)(O:PE X o to)(q:X.K=K:=by ac_nf)
  (F:attributeBase o name X.env (eval o X.env)=eval o X.env:=by ac_nf) (J:(apos.endLine==cpos.line)=true:=by ac_nf):PE X (.Call (.Attribute o name apos) [] [] cpos) (aR4 K T r to):=q ▸ aJ6 Y slot U hm O F J
theorem G3 (pa:PlainAttrs T)(slot:Slot T name id)(a0:typeOf (.builtin id)=pure (.type "method_descriptor"))(hm:MtR X id r)(U:PE X o to)(ha:PA X (e :: es) t)(q:X.K=K:=by ac_nf)
  (F:attributeBase o name X.env (eval o X.env)=eval o X.env:=by ac_nf)
  (J:((backTo cpos (starEach (e :: es) X.env)).all (λx=>!x.1)&&(backToKw cpos (keywordEach [] X.env)).all (λx=>x.1.isSome)
   && decide ((e :: es).length+([]:List Keyword).length+(if([]:List Keyword).isEmpty then 0 else 1)<30))=true:=by ac_nf)
  (O:(apos.endLine==cpos.line)=true:=by ac_nf) (Z:starEach (e :: es) X.env=(false,eval e X.env) :: starEach es X.env:=by ac_nf) (Y:(backTo cpos (starEach es X.env)).any (·.1)=false:=by ac_nf) :
  PE X (.Call (.Attribute o name apos) (e :: es) [] cpos) (tBM K T r to t):=q ▸ aR3 pa slot a0 hm U ha F J O Z Y
end
def Fz (H H':Hp):Prop:=∀ a xs,Rd H a (.tup xs)->Rd H' a (.tup xs)
theorem Fz.refl (H:Hp):Fz H H:=λ_ _ h=>h
theorem Fz.trans {H H1 H2:Hp}(a:Fz H H1)(b:Fz H1 H2):Fz H H2:=λc xs h=>b c xs (a c xs h)
theorem Same.fz {H H':Hp}(e:Same H H'):Fz H H':=λa xs h=>by
 rcases h with h|⟨o,h⟩
 . exact .inl (e _ _ h)
 exact .inr ⟨o,e _ _ h⟩
theorem Yw {p:Addr}{H H':Hp}(e:ExtBut p H H')(hp:∀ xs,¬ Rd H p (.tup xs)):Fz H H':=λa xs h=>by
 have n:a≠p:=λq=>hp xs (q ▸ h);rcases h with h|⟨o,h⟩
 . exact .inl (e _ _ n h)
 exact .inr ⟨o,e _ _ n h⟩
theorem ExtBut.fzL {p:Addr}{H H':Hp}{l:List V}(e:ExtBut p H H')(hp:H p=some (.lst l)):Fz H H':=Yw e λxs h=>by
 rcases h with h|⟨o,h⟩
 . rw[hp] at h;cases h
 rw[hp] at h;cases h
theorem ExtBut.fzD {p:Addr}{H H':Hp}{l:List (Key×V)}(e:ExtBut p H H')(hp:H p=some (.dK l)):Fz H H':=Yw e λxs h=>by
 rcases h with h|⟨o,h⟩
 . rw[hp] at h;cases h
 rw[hp] at h;cases h
theorem Fz.seq {K:W.Frag}{H H':Hp}(e:Fz H H'){a:Addr}{xs:List V}(h:SqT K H a xs):SqT K H' a xs:=by
 rcases h with h|h
 . exact .inl (e _ _ h)
 exact .inr h
mutual
def frz:PyData->Bool
 |.tuple ds=>frzL ds
 |.list _=>false
 |.dict _=>false
 |_=>true
def frzL:List PyData->Bool
 | []=>true
 |d :: ds=>frz d&&frzL ds
end
mutual
theorem Is.fz {K:W.Frag}{H H':Hp}(e:Fz H H'):∀(d:PyData) (v:V),frz d=true->Is K H d v->Is K H' d v
 |.none,_,_,h=>by simp only[Is] at h ⊢;exact h
 |.bool _,_,_,h=>by simp only[Is] at h ⊢;exact h
 |.int _,_,_,h=>by simp only[Is] at h ⊢;exact h
 |.str _,_,_,h=>by simp only[Is] at h ⊢;exact h
 |.list ds,v,hf,_=>by simp[frz] at hf
 |.tuple ds,v,hf,h=>by simp only[Is] at h ⊢;obtain⟨a,xs,q,F,J⟩:=h;exact⟨a,xs,q,e.seq F,IsL.fz e ds xs (by simpa only[frz] using hf) J⟩
 |.dict _,_,_,h=>by simp only[Is] at h
theorem IsL.fz {K:W.Frag}{H H':Hp}(e:Fz H H'):∀(ds:List PyData) (vs:List V),frzL ds=true->IsL K H ds vs->IsL K H' ds vs
 | [],_,_,h=>by simp only[IsL] at h ⊢;exact h
 |d :: ds,vs,hf,h=>by simp only[IsL] at h ⊢;simp only[frzL,Bool.and_eq_true] at hf;obtain⟨v,r,q,F,J⟩:=h;exact⟨v,r,q,Is.fz e d v hf.1 F,IsL.fz e ds r hf.2 J⟩
end
section
variable {K:W.Frag}{H H':Hp}
theorem IsL.length:∀ {ds:List PyData} {vs:List V},IsL K H ds vs->ds.length=vs.length
 | [],_,h=>by simp only[IsL] at h;subst h;rfl
 |d :: ds,vs,h=>by simp only[IsL] at h;obtain⟨v,r,rfl,_,q⟩:=h;simp only[List.length_cons,IsL.length q]
theorem IsL.get:∀ {ds:List PyData} {vs:List V} {i:Nat} {x:V},IsL K H ds vs->vs[i]? = some x->∃ d,ds[i]? = some d/\Is K H d x
 | [],_,_,_,h,e=>by simp only[IsL] at h;subst h;simp at e
 |d :: ds,vs,i,x,h,e=>by
   simp only[IsL] at h;obtain⟨v,r,rfl,q,F⟩:=h
   cases i with
   |zero=>simp at e;subst e;exact⟨d,rfl,q⟩
   |succ i=>obtain⟨d',h1,h2⟩:=IsL.get (i:=i) F (by simpa using e);exact⟨d',by simpa using h1,h2⟩
theorem IsL.at:∀ {ds:List PyData} {vs:List V} {i:Nat} {d:PyData},IsL K H ds vs->ds[i]? = some d->∃ x,vs[i]? = some x/\Is K H d x
 | [],_,_,_,h,e=>by simp at e
 |d :: ds,vs,i,d',h,e=>by
   simp only[IsL] at h;obtain⟨v,r,rfl,q,F⟩:=h
   cases i with
   |zero=>simp at e;subst e;exact⟨v,rfl,q⟩
   |succ i=>obtain⟨x,h1,h2⟩:=IsL.at (i:=i) F (by simpa using e);exact⟨x,by simpa using h1,h2⟩
theorem IsL.append:∀ {ds es:List PyData} {vs us:List V},IsL K H ds vs->IsL K H es us->IsL K H (ds++es) (vs++us)
 | [],_,_,_,h,g=>by simp only[IsL] at h;subst h;exact g
 |d :: ds,es,vs,us,h,g=>by simp only[IsL] at h;obtain⟨v,r,rfl,q,F⟩:=h;simp only[List.cons_append,IsL];exact⟨v,_,rfl,q,IsL.append F g⟩
theorem IsL.one {d:PyData}{v:V}(h:Is K H d v):IsL K H [d] [v]:=by simp only[IsL];exact⟨v,[],rfl,h,rfl⟩
theorem IsL.nil:IsL K H [] []:=by simp only[IsL]
theorem IsL.cons {d:PyData} {v:V} {ds:List PyData} {vs:List V} (h:Is K H d v) (g:IsL K H ds vs):IsL K H (d :: ds) (v :: vs):=by simp only[IsL];exact⟨v,vs,rfl,h,g⟩
theorem IsL.take:∀ {ds:List PyData} {vs:List V} (n:Nat),IsL K H ds vs->IsL K H (ds.take n) (vs.take n)
 |ds,vs,0,h=>by simp only[List.take_zero];exact .nil
 | [],vs,n+1,h=>by simp only[IsL] at h;subst h;exact .nil
 |d :: ds,vs,n+1,h=>by simp only[IsL] at h;obtain⟨v,r,rfl,q,F⟩:=h;exact .cons q (IsL.take n F)
theorem IsL.drop:∀ {ds:List PyData} {vs:List V} (n:Nat),IsL K H ds vs->IsL K H (ds.drop n) (vs.drop n)
 |ds,vs,0,h=>h
 | [],vs,n+1,h=>by simp only[IsL] at h;subst h;exact .nil
 |d :: ds,vs,n+1,h=>by simp only[IsL] at h;obtain⟨v,r,rfl,F,q⟩:=h;exact IsL.drop n q
theorem IsL.str_eq:∀ {ns:List Str} {vs:List V},IsL K H (ns.map PyData.str) vs->vs=ns.map V.str
 | [],vs,h=>by simp only[List.map_nil,IsL] at h;exact h
 |n :: ns,vs,h=>by simp only[List.map_cons,IsL,Is] at h;obtain⟨v,r,rfl,rfl,q⟩:=h;rw[IsL.str_eq q];rfl
theorem Is.tup {ds:List PyData}{v:V}(h:Is K H (.tuple ds) v):∃ a xs,v = .ref a/\SqT K H a xs/\IsL K H ds xs:=by simpa only[Is] using h
theorem Is.of_tup {ds:List PyData}{a:Addr}{xs:List V}(h:SqT K H a xs)(g:IsL K H ds xs):Is K H (.tuple ds) (.ref a):=by simp only[Is];exact⟨a,xs,rfl,h,g⟩
theorem Is.of_lst {ds:List PyData}{a:Addr}{xs:List V}(h:SqL K H a xs)(g:IsL K H ds xs):Is K H (.list ds) (.ref a):=by simp only[Is];exact⟨a,xs,rfl,h,g⟩
theorem Is.str {z:Str}{v:V}(h:Is K H (.str z) v):v = .str z:=by simpa only[Is] using h
theorem Gu {z:Str}:Is K H (.str z) (.str z):=by simp only[Is]
theorem L3 {z:Int}:Is K H (.int z) (.int z):=by simp only[Is]
end
def nmD (ns:List Str):PyData:=.tuple (ns.map PyData.str)
def prD (p:Str×Str):PyData:=.tuple [.str p.1,.str p.2]
def psD (ps:List (Str×Str)):PyData:=.tuple (ps.map prD)
def hfD (ns:List Str)(ps:List (Str×Str)):PyData:=.tuple [nmD ns,psD ps]
theorem Ov:∀ ns:List Str,frzL (ns.map PyData.str)=true
 | []=>rfl
 |n :: ns=>by simp only[List.map_cons,frzL,frz,Ov ns,Bool.and_self]
theorem L8 (ns:List Str):frz (nmD ns)=true:=by simp only[nmD,frz,Ov]
theorem Ho (p:Str×Str):frz (prD p)=true:=by simp[prD,frz,frzL]
theorem C0:∀ ps:List (Str×Str),frzL (ps.map prD)=true
 | []=>rfl
 |n :: ns=>by simp only[List.map_cons,frzL,Ho,C0 ns,Bool.and_self]
theorem as9 (ps:List (Str×Str)):frz (psD ps)=true:=by simp only[psD,frz,C0]
theorem aH9 (ns:List Str)(ps:List (Str×Str)):frz (hfD ns ps)=true:=by simp only[hfD,frz,frzL,L8,as9,Bool.and_self]
section
variable {K:W.Frag}{H H':Hp}
theorem Is.nm {ns:List Str}{v:V}(h:Is K H (nmD ns) v):∃ a,v = .ref a/\SqT K H a (ns.map V.str):=by obtain⟨a,xs,rfl,h1,h2⟩:=Is.tup h;exact⟨a,rfl,by rw[<- IsL.str_eq h2];exact h1⟩
theorem Np {ns:List Str}{a:Addr}(h:SqT K H a (ns.map V.str)):Is K H (nmD ns) (.ref a):=Is.of_tup h (Ot ns)
theorem Is.pr {p:Str×Str}{v:V}(h:Is K H (prD p) v):∃ a,v = .ref a/\SqT K H a [.str p.1,.str p.2]:=by obtain⟨a,xs,rfl,h1,h2⟩:=Is.tup h;simp only[IsL,Is] at h2;obtain⟨_,_,rfl,rfl,_,_,rfl,rfl,rfl⟩:=h2;exact⟨a,rfl,h1⟩
theorem Vk {x y:Str}{a:Addr}(h:SqT K H a [.str x,.str y]):Is K H (prD (x,y)) (.ref a):=Is.of_tup h (.cons Gu (.one Gu))
theorem Is.hf {ns:List Str}{ps:List (Str×Str)}{v:V}(h:Is K H (hfD ns ps) v):∃ a x y,v = .ref a/\SqT K H a [x,y]/\Is K H (nmD ns) x/\Is K H (psD ps) y:=by obtain⟨a,xs,rfl,h1,h2⟩:=Is.tup h;simp only[IsL] at h2;obtain⟨x,_,rfl,q,y,_,rfl,F,rfl⟩:=h2;exact⟨a,x,y,rfl,h1,q,F⟩
theorem al8 {ns:List Str}{ps:List (Str×Str)}{a:Addr}{x y:V}(h:SqT K H a [x,y])(q:Is K H (nmD ns) x)(F:Is K H (psD ps) y):Is K H (hfD ns ps) (.ref a):=Is.of_tup h (.cons q (.one F))
theorem Is.nm_fz {ns:List Str}{v:V}(h:Is K H (nmD ns) v)(e:Fz H H'):Is K H' (nmD ns) v:=Is.fz e _ _ (L8 ns) h
theorem Is.pr_fz {p:Str×Str}{v:V}(h:Is K H (prD p) v)(e:Fz H H'):Is K H' (prD p) v:=Is.fz e _ _ (Ho p) h
theorem Is.ps_fz {ps:List (Str×Str)}{v:V}(h:Is K H (psD ps) v)(e:Fz H H'):Is K H' (psD ps) v:=Is.fz e _ _ (as9 ps) h
theorem Is.hf_fz {ns:List Str}{ps:List (Str×Str)}{v:V}(h:Is K H (hfD ns ps) v)(e:Fz H H'):Is K H' (hfD ns ps) v:=Is.fz e _ _ (aH9 ns ps) h
variable {σ:St}{Q:VK}{x v:V}{i:Int}
theorem Cc {a:Addr}{xs:List V}(h:SqT K H a xs)(e:atI xs i=some v)(k:Q v H):Qm K (.ref a) (.int i) H Q:=.inl (.inr (.inl ⟨a,xs,i,v,rfl,rfl,h,e,k⟩))
theorem aP3 {a:Addr}{xs:List V}(h:SqL K H a xs)(e:atI xs i=some v)(k:Q v H):Qm K (.ref a) (.int i) H Q:=.inl (.inl ⟨a,xs,i,v,rfl,rfl,h,e,k⟩)
theorem aT5 {ns:List Str}{z:Str}(h:Is K H (nmD ns) x)(e:atI ns i=some z)(k:Q (.str z) H):Qm K x (.int i) H Q:=by
 obtain⟨a,rfl,h1⟩:=h.nm;refine Cc h1 ?_ k;unfold atI at e ⊢;rw[A01]
 cases hj:ixN ns.length i with
 |none=>rw[hj] at e;cases e
 |some j=>rw[hj] at e;show(ns.map V.str)[j]? = _;rw[A07,show ns[j]? = some z from e];rfl
theorem Hf {ns:List Str}{ps:List (Str×Str)}(h:Is K H (hfD ns ps) x)(k:∀ v,Is K H (nmD ns) v->Q v H):Qm K x (.int 0) H Q:=by obtain⟨a,u,w,rfl,h1,h2,q⟩:=h.hf;exact Cc h1 rfl (k u h2)
theorem ag0 {ns:List Str}{ps:List (Str×Str)}(h:Is K H (hfD ns ps) x)(k:∀ v,Is K H (psD ps) v->Q v H):Qm K x (.int 1) H Q:=by obtain⟨a,u,w,rfl,h1,h2,q⟩:=h.hf;exact Cc h1 rfl (k w q)
theorem Vv {p:Str×Str}(h:Is K H (prD p) x)(k:Q (.str p.1) H):Qm K x (.int 0) H Q:=by obtain⟨a,rfl,h1⟩:=h.pr;exact Cc h1 rfl k
theorem Ny {p:Str×Str}(h:Is K H (prD p) x)(k:Q (.str p.2) H):Qm K x (.int 1) H Q:=by obtain⟨a,rfl,h1⟩:=h.pr;exact Cc h1 rfl k
theorem aq0 {ds:List PyData}(h:Is K H (.tuple ds) x)(k:Q (.int ds.length) H):Zt K [x] H Q:=by obtain⟨a,xs,rfl,h1,h2⟩:=h.tup;rw[IsL.length h2] at k;exact .inl ⟨.ref a,_,rfl,.inr ⟨xs,h1,rfl⟩,k⟩
theorem aN6 {ns:List Str}(h:Is K H (nmD ns) x)(k:Q (.int ns.length) H):Zt K [x] H Q:=aq0 h (by rw[A01];exact k)
theorem Lb (ns:List Str):(ns.map V.str).all So=true:=by rw[A4M];intro v h;obtain ⟨n,_,rfl⟩:=A0I.mp h;rfl
theorem Nb (z:Str):∀ ns:List Str,inV (.str z) (ns.map V.str)=decide (z∈ns)
 | []=>rfl
 |n :: ns=>by
   have F:=Nb z ns;unfold inV at F ⊢;rw[A0H,A2J,F]
   have e:eqV (V.str n) (V.str z)=decide (n=z):=by
    show(n==z)=_
    by_cases h:n=z<;>simp[h]
   rw[e]
   by_cases h:n=z
   . subst h;simp
   have h':¬ z=n:=λq=>h q.symm
   by_cases g:z∈ns<;>simp[h,h',g]
theorem aO9 {ns:List Str}{z:Str}{a:Addr}(h:SqL K H a (ns.map V.str))(k:Q (.bl (decide (z∈ns))) H):Z7 K false (.str z) (.ref a) H Q:=
 .inl ⟨a,_,rfl,.inl h,rfl,Lb ns,by rw[Nb];exact k⟩
theorem aq7 {ns:List Str}{z:Str}(h:Is K H (nmD ns) x)(k:Q (.bl (!decide (z∈ns))) H):Z7 K true (.str z) x H Q:=by obtain⟨a,rfl,h1⟩:=h.nm;exact .inl ⟨a,_,rfl,.inr h1,rfl,Lb ns,by rw[Nb];exact k⟩
theorem au5 {ns:List Str}{z:Str}{a:Addr}(h:SqL K H a (ns.map V.str))(k:Q (.bl (!decide (z∈ns))) H):Z7 K true (.str z) (.ref a) H Q:=
 .inl ⟨a,_,rfl,.inl h,rfl,Lb ns,by rw[Nb];exact k⟩
theorem Xy {a:Addr}{u w:V}{n m:Nat}{R:St->Hp->Prop}(h:SqT K H a [u,w])(k:R ((σ.set n (some u)).set m (some w)) H):ax2 K 2 (Qd (K8 n) (Qd (K8 m) aE2)) (.ref a) σ H R:=
 ⟨a,_,rfl,h,rfl,u,[w],rfl,w,[],rfl,rfl,k⟩
theorem ar8 {ds:List PyData}{g:TG}{tb:TS}{D:Po}(h:Is K H (.tuple ds) x)(hf:frzL ds=true)(Pv:Nat->St->Hp->Prop)(U:Pv 0 σ H)(q:∀ i σ' H',Pv i σ' H'->Fz H H')
  (Y:∀ i d v σ' H',ds[i]? = some d->Is K H' d v->Pv i σ' H'->g v σ' H' fun σ2 H2=>tb {D with nx:=Pv (i+1),ct:=Pv (i+1),bk:=D.nx} σ2 H2) (hd:∀ σ' H',Pv ds.length σ' H'->D.nx σ' H') :
  G4 K x H λJ H1=>an9 g tb D σ J H1:=by
 obtain⟨a,xs,rfl,h1,h2⟩:=h.tup;refine X9 h1 (Ep Ir Pv U (λi σ' H' p=>(q i σ' H' p).seq h1) (λi v σ' H' Z hi p=>?_) fun σ' H' p=>hd σ' H' (by rw[IsL.length h2];exact p));obtain⟨d,F,O⟩:=IsL.get (IsL.fz (q i σ' H' p) ds xs hf h2) Z;exact Y i d v σ' H' F O p
theorem Ml {ns:List Str}{g:TG}{tb:TS}{D:Po}(h:Is K H (nmD ns) x)(Pv:Nat->St->Hp->Prop)(q:Pv 0 σ H)(F:∀ i σ' H',Pv i σ' H'->Fz H H')
  (O:∀ i z σ' H',ns[i]? = some z->Pv i σ' H'->g (.str z) σ' H' fun σ2 H2=>tb {D with nx:=Pv (i+1),ct:=Pv (i+1),bk:=D.nx} σ2 H2) (hd:∀ σ' H',Pv ns.length σ' H'->D.nx σ' H') :
  G4 K x H λJ H1=>an9 g tb D σ J H1:=
 ar8 h (Ov ns) Pv q F (λi d v σ' H' e h p=>by
  rw[A07] at e
  cases hn:ns[i]? with
  |none=>rw[hn] at e;cases e
  |some z=>
    rw[hn] at e
    cases e;rw[h.str];exact O i z σ' H' hn p) fun σ' H' p=>hd σ' H' (by rw[A01] at p;exact p)
theorem aK4 {ps:List (Str×Str)}{g:TG}{tb:TS}{D:Po}(h:Is K H (psD ps) x)(Pv:Nat->St->Hp->Prop)(q:Pv 0 σ H)(F:∀ i σ' H',Pv i σ' H'->Fz H H')
  (O:∀ i p v σ' H',ps[i]? = some p->Is K H' (prD p) v->Pv i σ' H'->g v σ' H' fun σ2 H2=>tb {D with nx:=Pv (i+1),ct:=Pv (i+1),bk:=D.nx} σ2 H2) (hd:∀ σ' H',Pv ps.length σ' H'->D.nx σ' H') :
  G4 K x H λJ H1=>an9 g tb D σ J H1:=
 ar8 h (C0 ps) Pv q F (λi d v σ' H' e h p=>by
  rw[A07] at e
  cases hn:ps[i]? with
  |none=>rw[hn] at e;cases e
  |some z=>
    rw[hn] at e
    cases e;exact O i z v σ' H' hn h p) fun σ' H' p=>hd σ' H' (by rw[A01] at p;exact p)
theorem Cu {α:Type}(f:α->PyData)(hf:∀ a,frz (f a)=true):∀ xs:List α,frzL (xs.map f)=true
 | []=>rfl
 |x :: xs=>by simp only[List.map_cons,frzL,hf,Cu f hf xs,Bool.and_self]
theorem J1 {α:Type}{J:It}{xs:List V}{G:Hp->Prop}{g:TG}{tt:TT}{te:TE}{Q:VK}{k:Nat}{js:List Nat}(hw:Hr J xs G)(as:List α)(hl:as.length=xs.length)(t:α->Bool)(f:α->PyData)(hf:∀ a,frz (f a)=true)(hz:xs.length<=1000000)(hG:∀ H',Same H H'->G H')
  (hs:∀(i:Nat) a v H1 (R:VK) (R':Hp->Prop),as[i]? = some a->xs[i]? = some v->Same H H1->(t a=true->∀ y H2,Same H1 H2->Is K H2 (f a) y->R y H2)->(t a=false->∀ H2,Same H1 H2->R' H2) ->
   g v (List.replicate k none++Py σ js) H1 fun σ2 H2=>tt σ2 H2 λb U=>if b=true then te σ2 U R else R' U)
  (hd:∀ p ys H',H p=none->Same H H'->H' p=some (.lst ys)->IsL K H' ((as.filter t).map f) ys->Q (.ref p) H'):Om k js g tt te σ J H Q:=by
 refine Ik hw (λp i acc H1=>Same H H1/\IsL K H1 (((as.take i).filter t).map f) acc) (λp H' hp e h=>⟨e,by simp only[List.take_zero,List.filter_nil,List.map_nil];exact .nil⟩) (λp i acc H1 h=>hG H1 h.1) (λp i x acc H1 hp hx hi O ha ⟨e,F⟩=>?_) λp acc H1 hp ha O ⟨e,F⟩=>?_
 . have a0:i<as.length:=by omega
   obtain⟨a,hai⟩:∃ a,as[i]? = some a:=⟨as[i],A03 a0⟩;have Z:as.take (i+1)=as.take i++[a]:=by rw[A0R,hai];rfl
   refine hs i a x H1 _ _ hai hx e (λh y H2 q hy=>?_) λh H2 q=>?_
   . refine Lg hz hi O (q _ _ ha) λH' Y h'=>⟨λb o hb=>Y b o (ne_of_none hb hp) (q _ _ (e b o hb)),?_⟩;rw[Z,A1X,A0T];have fz:=Y.fzL (q _ _ ha);refine IsL.append (IsL.fz (q.fz.trans fz) _ _ (Cu f hf _) F) ?_;simp only[List.filter_cons,h,if_true,List.filter_nil,List.map_cons,List.map_nil];exact .one (Is.fz fz _ _ (hf a) hy)
   refine Ru hi O (q _ _ ha) ⟨e.trans q,?_⟩;rw[Z,A1X,A0T];simp only[List.filter_cons,h,Bool.false_eq_true,if_false,List.filter_nil,List.map_nil,List.append_nil];exact IsL.mono q _ _ F
 refine hd p acc H1 hp e ha ?_;rw[<- hl,A0W] at F;exact F
end
section
variable {X:Cx}{K:W.Frag}
def aF5:PyData->Bool
 |.list _=>true
 |.tuple _=>true
 |_=>false
mutual
theorem Is.noDict {H:Hp}:∀(d:PyData) (v:V),Is K H d v->d.hasDict=false
 |.none,_,h=>by simp only[PyData.hasDict]
 |.bool _,_,h=>by simp only[PyData.hasDict]
 |.int _,_,h=>by simp only[PyData.hasDict]
 |.str _,_,h=>by simp only[PyData.hasDict]
 |.list ds,v,h=>by simp only[Is] at h;obtain⟨a,xs,F,J,q⟩:=h;simp only[PyData.hasDict];exact IsL.noDict ds xs q
 |.tuple ds,v,h=>by simp only[Is] at h;obtain⟨a,xs,F,J,q⟩:=h;simp only[PyData.hasDict];exact IsL.noDict ds xs q
 |.dict _,_,h=>by simp only[Is] at h
theorem IsL.noDict {H:Hp}:∀(ds:List PyData) (vs:List V),IsL K H ds vs->PyData.hasDictAll ds=false
 | [],_,h=>by simp only[PyData.hasDictAll]
 |d :: ds,vs,h=>by simp only[IsL] at h;obtain⟨v,r,J,q,F⟩:=h;simp only[PyData.hasDictAll,Is.noDict d v q,IsL.noDict ds r F,Bool.or_self]
end
structure Sh (d:PyData):Prop where
 dp:aF5 d=true
 sh:d.showable=true
 fits:d.shown.length<=sizeLine
 deep:d.depth<=100
theorem Qo (J:QA X.A):CallR X (.builtin "repr") (λxs H Q=>∃ x d,xs=[x]/\Is X.K H d x/\Sh d/\Q (.str d.shown) H):=by
 intro pins s σ H xs us Q I rv h;obtain⟨x,d,rfl,i,S,q⟩:=h;obtain⟨u,rfl,F⟩:=rv.one;obtain⟨as,Z⟩:=Is.reads I d x u i F
 have U:∃ a,u = .ref a:=by
  have hd:=S.dp
  cases d with
  |list ds=>simp only[Is] at i;obtain⟨a,_,rfl,_⟩:=i;exact⟨a,F⟩
  |tuple ds=>simp only[Is] at i;obtain⟨a,_,rfl,_⟩:=i;exact⟨a,F⟩
  |_=>cases hd
 obtain⟨a,rfl⟩:=U;refine repr_of_reads' Z S.sh (λY=>absurd Y (by rw[Is.noDict d x i];exact A0M)) J.gd (by have:=J.un;have:=S.deep;omega) (λ_ _ e=>e) (λh' t tk O=>?_) S.fits;exact⟨.str d.shown,H,I.kept O,⟨t,rfl⟩,q⟩
def Yf (z:Str)(n:Nat):Str:=⟨(List.replicate n z.cps).foldl (· ++ ·) #[]⟩
def aI5:R2:=λx y H Q=>∃ z n,x = .str z/\y = .int n/\2<=n/\n<=1000/\z.length<=1000/\0<z.length/\Q (.str (Yf z n.toNat)) H
theorem aB1:OpR X (binaryOp .Mult) aI5:=by
 intro pins s σ H x y v u Q I rx ry h;obtain⟨z,n,rfl,rfl,h1,h2,h3,h4,q⟩:=h;obtain⟨t,rfl⟩:=rx;obtain⟨t2,rfl⟩:=ry;have J:¬ n<1:=by omega
 have O:(n==1||z.length==0)=false:=by
  have Z:(n==1)=false:=by simp;omega
  have F:(z.length==0)=false:=by simp;omega
  rw[Z,F];rfl
 have hz:z.length*n.toNat<=1000000:=by have:z.length*n.toNat<=1000*1000:=A29 h3 ∅;omega
 have a0:(Yf z n.toNat).length<=sizeLine:=by
  have e:∀(m:Nat) (a:Array Nat),((List.replicate m z.cps).foldl (· ++ ·) a).size=a.size+m*z.cps.size:=by
   intro m
   induction m with
   |zero=>intro a;simp
   |succ m ih=>intro a;rw[A2T,A4R,ih,Array.size_append,Nat.succ_mul];omega
  show((List.replicate n.toNat z.cps).foldl (· ++ ·) #[]).size<=sizeLine;rw[e];have F:z.cps.size=z.length:=rfl;rw[F,A1I,A4S];simp;omega
 refine PySem.P.mul_str (by
   have U:¬ n < -(2 ^ 63:Int):=by omega
   have Y:¬ n>=2 ^ 63:=by omega
   rw[A0S U,A0S Y];rfl) (λ_ _=>?_) (λ_ _=>?_) ?_
 . have:(2 ^ 63-1:Int) / n>=1000:=by
    refine Int.le_ediv_of_mul_le ∅ ?_;have:1000*n<=1000*1000:=by omega
    omega
   omega
 . have a3:z.length*n.toNat<=sizeLine:=A9 hz;rw[A1I] at a3;unfold Builtin.Str.tooLong;simp[sizeLine_eq];omega
 rw[A0P J,O,A0P A0M];exact⟨a0,.str _,H,I.kept λ_ _ e=>e,⟨_,rfl⟩,q⟩
def al5:R2:=λx y H Q=>am3 x y H Q\/aI5 x y H Q
theorem Do:OpR X (binaryOp .Mult) al5:=op_mulA.or aB1
theorem i_mulBI {i j:Int}{H:Hp}{Q:VK}(h:CMul i j)(k:Q (.int (i*j)) H):al5 (.int i) (.int j) H Q:=.inl (aH0 h k)
theorem aD2 {z:Str}{n:Int}{H:Hp}{Q:VK}(h:2<=n/\n<=1000/\z.length<=1000/\0<z.length)(k:Q (.str (Yf z n.toNat)) H):al5 (.str z) (.int n) H Q:=.inr ⟨z,n,rfl,rfl,h.1,h.2.1,h.2.2.1,h.2.2.2,k⟩
theorem aD3 {i:Int}{H:Hp}{Q:VK}{a:Addr}{xs:List V}(h1:H a=some (.lst xs))(h2:-(2 ^ 63)<=i/\i<2 ^ 63)(q:xs.length*i.toNat<=sizeLine)(k:∀ p H',H p=none->Same H H'->H' p=some (.lst (List.replicate i.toNat xs).flatten)->Q (.ref p) H'):al5 (.ref a) (.int i) H Q:=.inl (aF9 h1 h2 q k)
def rIs (q:Bool):R2:=λx y H Q=>(y = .non/\Q (.bl (if q then !decide (x = .non) else decide (x = .non))) H)\/∃ a b,x = .bl a/\y = .bl b/\Q (.bl (if q then !(a==b) else a==b)) H
theorem aI9:OpR X (compareOp .Is) (rIs false):=by
 intro pins s σ H x y v u Q I F J h;rcases h with ⟨rfl,q⟩|⟨a,b,rfl,rfl,q⟩
 . exact aK1 pins s σ H x .non v u Q I F J ⟨rfl,q⟩
 cases F
 cases J;refine wpAny_is_plain rfl ?_;refine⟨.bl _,H,I,?_,q⟩;show Value.bool (Value.bool a==Value.bool b)=Value.bool (a==b)
 cases a<;>cases b<;>rfl
theorem Tu:OpR X (compareOp .IsNot) (rIs true):=by
 intro pins s σ H x y v u Q I F J h;rcases h with ⟨rfl,q⟩|⟨a,b,rfl,rfl,q⟩
 . exact au4 pins s σ H x .non v u Q I F J ⟨rfl,q⟩
 cases F
 cases J;refine wpAny_isNot_plain rfl ?_;refine⟨.bl _,H,I,?_,q⟩;show Value.bool (!(Value.bool a==Value.bool b))=Value.bool (!(a==b))
 cases a<;>cases b<;>rfl
theorem i_isN {x:V}{H:Hp}{Q:VK}(k:Q (.bl (decide (x = .non))) H):rIs false x .non H Q:=.inl ⟨rfl,k⟩
theorem i_isNotN {x:V}{H:Hp}{Q:VK}(k:Q (.bl (!decide (x = .non))) H):rIs true x .non H Q:=.inl ⟨rfl,k⟩
def aT1 (xs:List V)(i:Nat)(y:V):List V:=xs.take i++y :: xs.drop i
def ac6:V->List V->Hp->VK->Prop:=λx vs H Q=>∃ l xs i y,x = .ref l/\vs=[.int i,y]/\H l=some (.lst xs)/\0<=i/\i<=xs.length/\xs.length<sizeLine/\Q .non (upd H l (.lst (aT1 xs i.toNat y)))
theorem aa1:MtM X "list.insert" ac6:=by
 intro pins s σ H x vs v us Q I rx Y h;obtain⟨l,xs,i,y,rfl,rfl,O,h0,h1,hz,q⟩:=h
 cases rx;obtain⟨u,w,rfl,U,Z⟩:=Vals.two Y;obtain⟨t,rfl⟩:=U;obtain⟨z,J,n,r,hl,e⟩:=I.lstM O;have a0:=r.length
 refine A41 F.slot_list_insert ⟨_,e,rfl⟩ F.entry_list_insert (F.args_list_insert_3 _ _ _)
  (AutoSeq1.list_insert_list_int_val_1 l J.toArray n i t w (by rw[fitsIndex_both ∅ (by rw[A1I] at hz;omega)];decide) (by rw[A0Q];omega)) ⟨e,?_⟩
 refine⟨.non,_,I.lset (its':=J.take i.toNat++w :: J.drop i.toNat) O e ?_ ((r.take i.toNat).append (.cons Z (r.drop i.toNat))) ?_,rfl,q⟩
 . have hi:i.toNat<=J.length:=by omega
   show(have k:=if i<0 then(i+((J.toArray.size:Nat):Int)).toNat else min i.toNat J.toArray.size;(J.toArray.extract 0 k).push w++J.toArray.extract k)=_
   rw[A0P ∅,A0Q,Nat.min_eq_left hi];simp[List.extract_eq_drop_take];exact A2X (by rw[A1C];omega)
 rw[A06,A0G,A10,A1C];omega
section
variable {D:Po}{σ:St}{H:Hp}{t u:TS}{te td ty tv:TE}{g:TG}
theorem Su (M:St->Hp->Prop)(h1:∀ N:St->Hp->Prop,(∀ σ' H',M σ' H'->N σ' H')->t {D with nx:=N} σ H)(h2:∀ σ' H',M σ' H'->u D σ' H'):aQ9 t u D σ H:=h1 (u D) h2
end
theorem aB5 {a:Addr}{xs:List V}{H:Hp}{Q:VK}(h:SqL K H a xs\/SqT K H a xs)(k:∀ p H',H p=none->Same H H'->H' p=some (.lst xs)->Q (.ref p) H'):Yu K [.ref a] H Q:=⟨a,xs,rfl,h,λp hp=>k p _ hp (Same.upd hp) Af⟩
theorem mm {id:String}{r:V->List V->Hp->VK->Prop}(h:MtM X id r):MtR X id r:=h
theorem i_tyLm {a:Addr}{xs:List V}{H:Hp}{B:Prop}(h:H a=some (.lst xs))(k:B):tyV K "list" (.ref a) H/\B:=⟨.inl ⟨rfl,xs,SqL.of h⟩,k⟩
theorem aS3 {l:Addr}{xs:List V}{y:V}{i:Int}{H:Hp}{Q:VK}(h:H l=some (.lst xs))(q:0<=i)(h1:i<=xs.length)(hz:xs.length<=1000000)(k:∀ H',ExtBut l H H'->H' l=some (.lst (aT1 xs i.toNat y))->Q .non H'):ac6 (.ref l) [.int i,y] H Q:=
 ⟨l,xs,i,y,rfl,rfl,h,q,h1,by rw[A1I];omega,k _ ExtBut.upd Af⟩
theorem R0 {l:Addr}{xs:List V}{y:V}{H:Hp}{Q:VK}(h:H l=some (.lst xs))(hz:xs.length<=1000000)(k:∀ H',ExtBut l H H'->H' l=some (.lst (xs++[y]))->Q .non H'):a55 (.ref l) [y] H Q:=
 ⟨l,xs,y,rfl,rfl,h,by rw[A1I];omega,k _ ExtBut.upd Af⟩
theorem Uc {l b:Addr}{xs zs:List V}{H:Hp}{Q:VK}(h:H l=some (.lst xs))(hb:H b=some (.lst zs))(hz:xs.length+zs.length<=1000000)(k:∀ H',ExtBut l H H'->H' l=some (.lst (xs++zs))->Q .non H'):ac5 (.ref l) [.ref b] H Q:=
 ⟨l,b,xs,zs,rfl,rfl,h,hb,A9 hz,k _ ExtBut.upd Af⟩
theorem aK2 {l:Addr}{xs:List V}{y:V}{H:Hp}{Q:VK}(h:H l=some (.lst (xs++[y])))(k:∀ H',ExtBut l H H'->H' l=some (.lst xs)->Q y H'):aX0 (.ref l) [] H Q:=
 ⟨l,xs++[y],y,rfl,rfl,h,by simp,by rw[List.dropLast_concat];exact k _ ExtBut.upd Af⟩
theorem Xu {l:Addr}{xs:List V}{y:V}{i:Int}{H:Hp}{Q:VK}(h:H l=some (.lst xs))(J:0<=i)(h1:xs[i.toNat]? = some y)(k:∀ H',ExtBut l H H'->H' l=some (.lst (xs.eraseIdx i.toNat))->Q y H')(hz:xs.length<=1000000):aq9 (.ref l) [.int i] H Q:=by
 have h2:=(A00.mp h1).1;refine⟨l,xs,i,i.toNat,y,rfl,rfl,h,by omega,by omega,?_,h1,k _ ExtBut.upd Af⟩;have e:=Rw (Fd (α:=V) h1);obtain⟨j,q,O,U,_⟩:=e;rw[A3F J] at q;rw[q]
 have F:seqIndex? i xs.length=some i.toNat:=by unfold seqIndex? at q ⊢;simp[show ¬ i<0 by omega] at q ⊢;omega
 rw[<- q,F]
def a04 (xs:List V)(k:Int):List V:=if k=1 then xs else xs.reverse
def ah6 (K:W.Frag):V->V->Hp->VK->Prop:=λx y H Q=>∃ a xs k,x = .ref a/\y = .int k/\(k=1\/k = -1)/\SqL K H a xs/\∀ p,H p=none->Q (.ref p) (upd H p (.lst (a04 xs k)))
theorem ak6 (items:Array Value):slicePick items none none (some 1)=items:=by have e:slicePick items none none (some 1)=slicePick items none none none:=rfl;rw[e,Kz];simp[HT.sIx];rw[show items.size=items.toList.length by simp,List.take_length]
theorem Th {e st:Expr}{te U:TE}{p2 pos:Pos}(he:PE X e te)(a0:PE X st U)(hK:X.K=K:=by ac_nf):PE X (.Subscript e (.Slice none none (some st) p2) pos) (tOp (ah6 K) te U):=by
 subst hK;intro pins s σ H Q I h;refine A52 (thn (he pins s σ H _ I h) λv s1 ⟨x,H1,Y,r1,q1⟩=>?_);refine wpAny_Slice ?_;rw[A5G];refine A0C (A0C ?_);rw[evalPart_some];refine thn (a0 pins s1 σ H1 _ Y q1) λu s2 ⟨y,H2,Z,r2,q2⟩=>?_;obtain⟨a,xs,k,rfl,rfl,J,hx,q⟩:=q2
 cases r1;obtain⟨t,rfl⟩:=r2;have F:Inv X pins σ H2 {s2 with heap:=s2.heap.push {cls:=.type "slice",data:=.fields #[.none,.none,.int k t]}}:=Z.kept (t':=s2.toks) λb ob q=>A02 _ q
 obtain⟨a2,r,O,hz⟩:=F.list hx;have a1:=r.length;refine tail_any (ops:=[.ref a,.ref s2.heap.objs.size]) O.isList.typeIs slot_list_getitem.lookup ?_ ⋯;refine wpAny_getItem_list_slice O.isList (A5H ..) .none .none (.int k t) (by rcases J with rfl|rfl<;>decide) ?_ (by rw[A0Q];omega)
 rcases J with rfl|rfl
 . rw[ak6];refine⟨.ref _,_,F.laid (t':=s2.toks) (o:=.lst (a04 xs 1)) (λb ob q=>A02 _ q) (A08 _) ?_,rfl,q _ (F.hok.fresh (A08 _))⟩;exact⟨hz,_,0,r,A0J _ rfl⟩
 rw[W.krv_pick];refine⟨.ref _,_,F.laid (t':=s2.toks) (o:=.lst (a04 xs (-1))) (λb ob q=>A02 _ q) (A08 _) ?_,rfl,q _ (F.hok.fresh (A08 _))⟩;exact⟨by show xs.reverse.length<=_;rw[A59];exact hz,_,0,by show Vals xs.reverse _;exact r.reverse,A0J _ rfl⟩
theorem aH1 {a:Addr}{xs:List V}{k:Int}{H:Hp}{Q:VK}(h:SqL K H a xs)(q:k=1\/k = -1)(c:∀ p H',H p=none->Same H H'->H' p=some (.lst (a04 xs k))->Q (.ref p) H'):ah6 K (.ref a) (.int k) H Q:=
 ⟨a,xs,k,rfl,rfl,q,h,λp hp=>c p _ hp (Same.upd hp) Af⟩
end
def Nv (c:Nat):Bool:=decide (97<=c)&&decide (c<=122)
def Z5 (x:Str):Bool:=decide (1<=x.length)&&decide (x.length<=8)&&x.cps.toList.all Nv
def Names (ns:List Str):Prop:=ns.Nodup/\∀ z∈ns,Z5 z=true
def LL:Str:="abcdefghijklmnopqrstuvwxyzabcdefghijklmnopqrstuvwxyz"
theorem aM2:Yf "abcdefghijklmnopqrstuvwxyz" (2:Int).toNat=LL:=by decide +kernel
def LLn:List Nat:=LL.cps.toList
theorem aL9:LL.length=52:=by decide +kernel
theorem Lu:LLn.length=52:=by decide +kernel
theorem Xn:∀ c∈LLn,Nv c=true:=by decide +kernel
def txt (l:List Nat):Str:=⟨l.toArray⟩
theorem aw4 {a b:List Nat}(h:txt a=txt b):a=b:=by have:a.toArray=b.toArray:=congrArg Str.cps h;simpa using this
theorem ah5 (a b:List Nat):txt a++txt b=txt (a++b):=by show(⟨a.toArray++b.toArray⟩:Str)=⟨(a++b).toArray⟩;simp
theorem Kv {l:List Nat}(q:1<=l.length)(h1:l.length<=8)(h2:∀ c∈l,Nv c=true):Z5 (txt l)=true:=by
 unfold Z5;have e:(txt l).length=l.length:=by show l.toArray.size=_;simp
 rw[e,A16 q,A16 h1];show(true&&true&&l.all Nv)=true;rw[A4M.mpr h2];rfl
def Px (a b:Nat):List Nat:=(LLn.drop a).take (b-a)
theorem Mx {a b:Nat}(h:a<=b)(h1:b<=52):(Px a b).length=b-a:=by unfold Px;rw[A10,A1C,Lu];omega
theorem Js {a b:Nat}:∀ c∈Px a b,Nv c=true:=λc q=>Xn c (A3B (A2N q))
theorem Xq {i j:Int}(F:0<=i)(h1:i<=j)(h2:j<=52):Txt.slice LL (some i) (some j)=txt (Px i.toNat j.toNat):=by
 have e:=StrLaws.sliceText_plain (x:=LL) (i:=i) (j:=j) ⟨F,h1,by rw[show LL.cps.toList.length=52 by decide +kernel];omega⟩;have q:(j-i).toNat=j.toNat-i.toNat:=by omega
 rw[q] at e;exact e
def Td (i:Nat):List Nat:=(LLn.drop i).take 1
theorem av5 {i:Int}(q:0<=i)(h1:i<52):∃ c,atI LL.cps.toList i=some c/\(⟨#[c]⟩:Str)=txt (Td i.toNat):=by
 have h2:i.toNat<LLn.length:=by rw[Lu];omega
 refine⟨LLn[i.toNat],?_,?_⟩
 . have:=Fd (A03 h2);rwa[A3F q] at this
 unfold Td;rw[A4D h2];rfl
theorem Sm {i:Nat}(h:i<52):(Td i).length=1:=by unfold Td;rw[A10,A1C,Lu];omega
theorem M5 {i:Nat}:∀ c∈Td i,Nv c=true:=λc q=>Xn c (A3B (A2N q))
def nm0 (s:Nat):List (List Nat):=(List.range 8).map (λk=>Px s (s+1+k))++[Td (s+9),Td (s+10)]
def nm1 (s z a:Nat):List (List Nat):=(List.range 10).map λk=>Px s (s+a)++Td (s+5*k % 26)++Px (s+a+1) (s+z)
def nm2 (s:Nat):List (List Nat):=(List.range 10).map λk=>Px (s+k) (s+k+1+3*k % 8)
theorem nd0:∀ s<26,(nm0 s).Nodup:=by decide +kernel
theorem nd2:∀ s<26,(nm2 s).Nodup:=by decide +kernel
theorem nd1':∀ s<26,((List.range 10).map λk=>Td (s+5*k % 26)).Nodup:=by decide +kernel
theorem Jb {α β:Type}{f:α->β}:∀ {l:List α},l.Nodup->(∀ a∈l,∀ b∈l,f a=f b->a=b)->(l.map f).Nodup
 | [],_,_=>by simp
 |a :: l,h,hf=>by rw[A0H,A0Y];rw[A0Y] at h;refine⟨λhm=>?_,Jb h.2 λx q y F=>hf x (A09 _ q) y (A09 _ F)⟩;obtain⟨b,hb,e⟩:=A0I.mp hm;have:=hf b (A09 _ hb) a A0D e;subst this;exact h.1 hb
theorem J2 {α β:Type}{f:α->β}:∀ {l:List α},(l.map f).Nodup->∀ a∈l,∀ b∈l,f a=f b->a=b
 | [],_,a,ha,_,_,_=>by cases ha
 |c :: l,h,a,ha,b,hb,e=>by
   rw[A0H,A0Y] at h;rcases A0B.mp ha with q|ha'
   . rcases A0B.mp hb with q'|hb'
     . rw[q,q']
     exact absurd (A0I.mpr ⟨b,hb',by rw[<- e,q]⟩) h.1
   rcases A0B.mp hb with q'|hb'
   . exact absurd (A0I.mpr ⟨a,ha',by rw[e,q']⟩) h.1
   exact J2 h.2 a ha' b hb' e
theorem Nz {l:List (List Nat)}(h:l.Nodup):(l.map txt).Nodup:=Jb h λa _ b _ e=>aw4 e
theorem nd1 {s z a:Nat}(O:s<26):(nm1 s z a).Nodup:=by refine Jb List.nodup_range λk J j F e=>?_;have q:Td (s+5*k % 26)=Td (s+5*j % 26):=List.append_cancel_left (List.append_cancel_right e);exact J2 (f:=λk=>Td (s+5*k % 26)) (nd1' s O) k J j F q
theorem aO6 {s:Nat}(J:s<26):Names ((nm0 s).map txt):=by
 refine⟨Nz (nd0 s J),λz hz=>?_⟩;obtain⟨l,F,rfl⟩:=A0I.mp hz;rcases A0A.mp F with h|h
 . obtain⟨k,q,rfl⟩:=A0I.mp h;have q:=A23.mp q;have e:=Mx (a:=s) (b:=s+1+k) ∅ ∅;exact Kv ∅ ∅ Js
 simp only[List.mem_cons,List.not_mem_nil,or_false] at h;rcases h with rfl|rfl
 . have e:=Sm (i:=s+9) ∅;exact Kv ∅ ∅ M5
 have e:=Sm (i:=s+10) ∅;exact Kv ∅ ∅ M5
theorem aL1 {s z a:Nat}(J:s<26)(ha:a<z)(hz:z<=8):Names ((nm1 s z a).map txt):=by
 refine⟨Nz (nd1 J),λy O=>?_⟩;obtain⟨l,F,rfl⟩:=A0I.mp O;obtain⟨k,hk,rfl⟩:=A0I.mp F;have hm:5*k % 26<26:=Nat.mod_lt _ nofun;have U:=Mx (a:=s) (b:=s+a) ∅ ∅;have Y:=Sm (i:=s+5*k % 26) ∅;have Z:=Mx (a:=s+a+1) (b:=s+z) ∅ ∅;refine Kv (by simp only[List.length_append];omega) (by simp only[List.length_append];omega) λc q=>?_;rcases A0A.mp q with q|q
 . rcases A0A.mp q with q|q
   . exact Js c q
   exact M5 c q
 exact Js c q
theorem aN4 {s:Nat}(J:s<26):Names ((nm2 s).map txt):=by refine⟨Nz (nd2 s J),λz hz=>?_⟩;obtain⟨l,F,rfl⟩:=A0I.mp hz;obtain⟨k,q,rfl⟩:=A0I.mp F;have q:=A23.mp q;have hm:3*k % 8<8:=Nat.mod_lt _ nofun;have e:=Mx (a:=s+k) (b:=s+k+1+3*k % 8) ∅ ∅;exact Kv ∅ ∅ Js
def nm3:List Str:=["names","ahead","name","a","ab","aheads","last","ask","row","end"]
theorem aO3:Names nm3:=⟨by decide +kernel,by decide +kernel⟩
theorem Names.perm {ns ms:List Str}(h:Names ns)(p:ms.Perm ns):Names ms:=⟨p.nodup_iff.mpr h.1,λz hz=>h.2 z (p.mem_iff.mp hz)⟩
theorem Names.sublist {ns ms:List Str}(h:Names ns)(p:ms.Sublist ns):Names ms:=⟨h.1.sublist p,λz hz=>h.2 z (p.subset hz)⟩
theorem Names.reverse {ns:List Str}(h:Names ns):Names ns.reverse:=h.perm (List.reverse_perm _)
theorem Names.turn {ns:List Str}(h:Names ns)(t n:Nat):Names ((ns.drop t++ns.take t).take n):=
 Names.sublist (ns:=ns.drop t++ns.take t) (h.perm (List.perm_append_comm.trans (by rw[A4V]))) (A4F _ _)
theorem Kw {xs:List V}{t:Int}(F:0<=t)(h1:t<=xs.length):R6 xs (some t) none=xs.drop t.toNat:=by
 have e:HT.sIx xs.length 0 (some t)=t.toNat:=by unfold HT.sIx;simp[show ¬ t<0 by omega];omega
 unfold R6;rw[e];have q:HT.sIx xs.length xs.length none=xs.length:=rfl;rw[q];exact A2X (by rw[A1C];omega)
theorem Kx {xs:List V}{t:Int}(F:0<=t):R6 xs none (some t)=xs.take t.toNat:=by
 have e:HT.sIx xs.length xs.length (some t)=min t.toNat xs.length:=by unfold HT.sIx;simp[show ¬ t<0 by omega]
 unfold R6;rw[e];have q:HT.sIx xs.length 0 none=0:=rfl;rw[q,List.drop_zero,Nat.sub_zero,Nat.min_comm];rw[<- List.take_take];exact A2X (by rw[A10];omega)
theorem Hg {lo:Int} {n i:Nat} {x:V} (h:((List.range n).map λ(i:Nat)=>V.int (lo+(i:Int)))[i]? = some x):x = .int (lo+(i:Int))/\i<n:=by
 rw[A07] at h
 cases e:(List.range n)[i]? with
 |none=>rw[e] at h;cases h
 |some j=>
   rw[e] at h
   cases h;have q:=A00.mp e;obtain⟨h1,h2⟩:=q;rw[A1V] at h1;rw[List.getElem_range] at h2;subst h2;exact⟨rfl,h1⟩
def fI (F:Int->V):V->V
 |.int k=>F k
 |v=>v
theorem Wc {lo:Int}{n:Nat}{F:Int->V}{G:Nat->Str}(h:∀ k<n,F (lo+(k:Int)) = .str (G k)):((List.range n).map λ(i:Nat)=>V.int (lo+(i:Int))).map (fI F)=((List.range n).map G).map V.str:=by rw[A19,A19];refine A0Z λk q=>?_;exact h k (A23.mp q)
theorem Wf:LL.length<=sizeLine:=by rw[aL9,A1I];omega
theorem Zz {ns:List Str}(h:Names ns){k:Int}:∃ ms,a04 (ns.map V.str) k=ms.map V.str/\Names ms/\ms.length=ns.length:=by
 unfold a04
 split
 . exact⟨ns,rfl,h,rfl⟩
 exact⟨ns.reverse,by rw[List.map_reverse],h.reverse,A59 ..⟩
theorem ExtBut.off {d q:Addr}{H H1 H2:Hp}(e:ExtBut d H H1)(J:H q=none)(F:ExtBut q H1 H2):ExtBut d H H2:=λb o n h=>F b o (ne_of_none h J) (e b o n h)
theorem Same.off {q:Addr}{H H1 H2:Hp}(e:Same H H1)(J:H q=none)(F:ExtBut q H1 H2):Same H H2:=λb o h=>F b o (ne_of_none h J) (e b o h)
def Up (ls:List Str)(ps:List (Str×Str)):Prop:=∀ p∈ps,∃ i j:Nat,i<j/\ls[i]? = some p.1/\ls[j]? = some p.2
theorem Up.nil {ls:List Str}:Up ls []:=λ_ h=>by cases h
theorem Up.append {ls:List Str}{ps qs:List (Str×Str)}(h:Up ls ps)(g:Up ls qs):Up ls (ps++qs):=λp hp=>by
 rcases A0A.mp hp with hp|hp
 . exact h p hp
 exact g p hp
theorem Up.one {ls:List Str}{x y:Str}{i j:Nat}(h:i<j)(q:ls[i]? = some x)(F:ls[j]? = some y):Up ls [(x,y)]:=λp hp=>by
 have:p=(x,y):=by simpa using hp
 subst this;exact⟨i,j,h,q,F⟩
theorem Up.sub {ls:List Str}{ps qs:List (Str×Str)}(h:Up ls ps)(s:∀ p∈qs,p∈ps):Up ls qs:=λp hp=>h p (s p hp)
theorem str_at? {ls:List Str}{i:Int}(q:0<=i)(h1:i<ls.length):∃ z,ls[i.toNat]? = some z/\atI (ls.map V.str) i=some (.str z)/\atI ls i=some z:=by
 have h2:i.toNat<ls.length:=by omega
 refine⟨ls[i.toNat],A03 h2,?_,?_⟩
 . have:=Fd (xs:=ls.map V.str) (j:=i.toNat) (v:=.str ls[i.toNat]) (by rw[A07,A03 h2];rfl);rwa[A3F q] at this
 have:=Fd (A03 h2);rwa[A3F q] at this
theorem Qr {α:Type}:∀(us:List α) (k:Nat) (y:α),us[k]? = some y->(y :: us.eraseIdx k).Perm us
 | [],k,y,h=>by simp at h
 |u :: us,0,y,h=>by
   have:u=y:=by simpa using h
   subst this;exact List.Perm.refl _
 |u :: us,k+1,y,h=>by have q:=Qr us k y (by simpa using h);exact(List.Perm.swap u y _).trans (q.cons u)
theorem ak9 {α:Type}{us:List α}{k:Nat}{y:α}(h:us[k]? = some y)(vs:List α):(vs++[y]++us.eraseIdx k).Perm (vs++us):=by rw[A21];exact List.Perm.append_left vs (Qr us k y h)
theorem X3 {α:Type}{l:List α}{i:Nat}{x y:α}(h:l[i]? = some x):l.getD i y=x:=by rw[A1R,h];rfl
theorem a92 {α:Type}(as:List α)(f:α->Str×Str):as.map (λa=>prD (f a))=(as.map f).map prD:=by rw[A19];rfl
theorem Hd {α:Type}{l:List α}{i:Nat}{y:α}(h:i<l.length):l[i]? = some (l.getD i y):=by rw[A1R,A03 h];rfl
inductive Way (ps:List (Str×Str)):Str->Str->Prop
 |one {x y:Str}:(x,y)∈ps->Way ps x y
 |cons {x z y:Str}:(x,z)∈ps->Way ps z y->Way ps x y
theorem Way.trans {ps:List (Str×Str)}{x y z:Str}(h:Way ps x y)(g:Way ps y z):Way ps x z:=by
 induction h with
 |one e=>exact .cons e g
 |cons e _ ih=>exact .cons e (ih g)
theorem Way.snoc {ps:List (Str×Str)}{x y z:Str}(h:Way ps x y)(g:(y,z)∈ps):Way ps x z:=h.trans (.one g)
theorem Way.left {ps:List (Str×Str)}{x y:Str}(h:Way ps x y):x∈ps.map (·.1):=by
 cases h with
 |one e=>exact A0I.mpr ⟨_,e,rfl⟩
 |cons e _=>exact A0I.mpr ⟨_,e,rfl⟩
theorem Way.right {ps:List (Str×Str)}{x y:Str}(h:Way ps x y):y∈ps.map (·.2):=by
 induction h with
 |one e=>exact A0I.mpr ⟨_,e,rfl⟩
 |cons _ _ ih=>exact ih
theorem Way.mono {ps qs:List (Str×Str)}(h:∀ p∈ps,p∈qs){x y:Str}(g:Way ps x y):Way qs x y:=by
 induction g with
 |one e=>exact .one (h _ e)
 |cons e _ ih=>exact .cons (h _ e) ih
theorem Way.shut {ps:List (Str×Str)}{S:Str->Prop}{x:Str}(q:∀ y,(x,y)∈ps->S y)(h1:∀ z y,S z->(z,y)∈ps->S y){y:Str}(g:Way ps x y):S y:=by
 induction g with
 |one e=>exact q _ e
 |cons e _ ih=>exact ih λy F=>h1 _ _ (q _ e) F
theorem Up.lt {ls:List Str}(hn:ls.Nodup){ps:List (Str×Str)}(h:Up ls ps){x y:Str}(g:Way ps x y):∃ i j:Nat,i<j/\ls[i]? = some x/\ls[j]? = some y:=by
 induction g with
 |one e=>exact h _ e
 |cons e _ ih=>
   obtain⟨i,j,h1,h2,J⟩:=h _ e;obtain⟨O,U,Y,q,F⟩:=ih
   have e:j=O:=by obtain⟨a,b⟩:=A00.mp J;obtain⟨c,d⟩:=A00.mp q;exact(A1H hn).mp (b.trans d.symm)
   exact⟨i,U,by omega,h2,F⟩
theorem Up.irrefl {ls:List Str}(hn:ls.Nodup){ps:List (Str×Str)}(h:Up ls ps){x:Str}:¬ Way ps x x:=λg=>by obtain⟨i,j,h1,h2,q⟩:=h.lt hn g;obtain⟨a,b⟩:=A00.mp h2;obtain⟨c,d⟩:=A00.mp q;have:=(A1H hn).mp (b.trans d.symm);omega
theorem Up.mem {ls:List Str}{ps:List (Str×Str)}(h:Up ls ps){p:Str×Str}(hp:p∈ps):p.1∈ls/\p.2∈ls:=by obtain⟨i,j,_,h2,q⟩:=h p hp;exact⟨A04 h2,A04 q⟩
structure Half (ns:List Str)(ps:List (Str×Str)):Prop where
 names:Names ns
 few:ns.length<=10
 le:ps.length<=60
 line:∃ ls:List Str,ls.Perm ns/\Up ls ps
theorem Half.irrefl {ns:List Str}{ps:List (Str×Str)}(h:Half ns ps){x:Str}:¬ Way ps x x:=by obtain⟨ls,h1,h2⟩:=h.line;exact h2.irrefl (h1.nodup_iff.mpr h.names.1)
theorem Half.mem {ns:List Str}{ps:List (Str×Str)}(h:Half ns ps){p:Str×Str}(hp:p∈ps):p.1∈ns/\p.2∈ns:=by obtain⟨ls,h1,h2⟩:=h.line;have:=h2.mem hp;exact⟨h1.mem_iff.mp this.1,h1.mem_iff.mp this.2⟩
theorem W1 (ls:List Str):PyData.eqv (.list (ls.map PyData.str)) (.list [])=ls.isEmpty:=by cases ls<;>simp[PyData.eqv,PyData.eqvAll]
mutual
def Ha:PyData->Bool
 |.none=>true
 |.bool _=>true
 |.str x=>PyData.strOk x
 |.list ds=>Mn ds
 |.tuple ds=>Mn ds
 |_=>false
def Mn:List PyData->Bool
 | []=>true
 |d :: ds=>Ha d&&Mn ds
end
mutual
theorem Og:∀ d:PyData,Ha d=true->d.canLay0=true
 |.none,_=>by simp only[PyData.canLay0]
 |.bool _,_=>by simp only[PyData.canLay0]
 |.str x,h=>by simpa only[PyData.canLay0,Ha] using h
 |.list ds,h=>by simp only[PyData.canLay0];exact M8 ds (by simpa only[Ha] using h)
 |.tuple ds,h=>by simp only[PyData.canLay0];exact M8 ds (by simpa only[Ha] using h)
 |.int _,h=>by simp[Ha] at h
 |.dict _,h=>by simp[Ha] at h
theorem M8:∀ ds:List PyData,Mn ds=true->PyData.canLayAll0 ds=true
 | [],_=>by simp only[PyData.canLayAll0]
 |d :: ds,h=>by simp only[Mn,Bool.and_eq_true] at h;simp only[PyData.canLayAll0,Og d h.1,M8 ds h.2,Bool.and_self]
end
structure Fine (d:PyData):Prop where
 plain:Ha d=true
 deep:d.depth<=60
 light:d.weight<=1000000
theorem Fine.shaped {d:PyData}(h:Fine d):SeqAt.shaped d=true:=by unfold SeqAt.shaped;rw[Og d h.plain,A16 (A0O h.deep nofun)];rfl
theorem ax8 {z:Str}(h:Z5 z=true):PyData.strOk z=true/\z.cps.size<=8:=by unfold Z5 at h;simp only[Bool.and_eq_true,decide_eq_true_eq] at h;refine⟨?_,h.1.2⟩;unfold PyData.strOk;rw[<- Array.all_toList,A4M];intro c q;have:=A4M.mp h.2 c q;unfold Nv at this;simp only[Bool.and_eq_true,decide_eq_true_eq] at this;exact A16 ∅
theorem Lv {α:Type}(f:α->PyData):∀ xs:List α,(∀ a∈xs,Ha (f a)=true)->Mn (xs.map f)=true
 | [],_=>by simp only[List.map_nil,Mn]
 |x :: xs,h=>by simp only[List.map_cons,Mn,h x List.mem_cons_self,Lv f xs λa ha=>h a (List.mem_cons_of_mem _ ha),Bool.and_self]
theorem Oh {α:Type}(f:α->PyData)(n:Nat):∀ xs:List α,(∀ a∈xs,(f a).depth<=n)->PyData.depthAll (xs.map f)<=n
 | [],_=>by simp only[List.map_nil,PyData.depthAll];omega
 |x :: xs,h=>by have h1:=h x A0D;have h2:=Oh f n xs λa ha=>h a (A09 _ ha);simp only[List.map_cons,PyData.depthAll];omega
theorem R4 {α:Type}(f:α->PyData)(n:Nat):∀ xs:List α,(∀ a∈xs,(f a).weight<=n)->PyData.weightAll (xs.map f)<=xs.length*(n+1)
 | [],_=>by simp only[List.map_nil,PyData.weightAll];omega
 |x :: xs,h=>by have h1:=h x A0D;have h2:=R4 f n xs λa ha=>h a (A09 _ ha);simp only[List.map_cons,PyData.weightAll,List.length_cons,Nat.add_mul];omega
theorem ao8 {ns:List Str}(h:∀ z∈ns,Z5 z=true):Ha (nmD ns)=true/\(nmD ns).depth<=1/\(nmD ns).weight<=ns.length*9:=by
 refine⟨by simp only[nmD,Ha];exact Lv _ ns λz hz=>by simp only[Ha];exact(ax8 (h z hz)).1,?_,?_⟩
 . simp only[nmD,PyData.depth];have:=Oh PyData.str 0 ns λz hz=>by simp only[PyData.depth];omega
   omega
 simp only[nmD,PyData.weight];exact R4 PyData.str 8 ns λz hz=>by simp only[PyData.weight];exact(ax8 (h z hz)).2
theorem a64 {ns:List Str}(h:∀ z∈ns,Z5 z=true)(q:ns.length<=1000):Fine (nmD ns):=let ⟨a,b,c⟩:=ao8 h;⟨a,by omega,by omega⟩
theorem am2 {ns:List Str}(h:∀ z∈ns,PyData.strOk z=true):SeqAt.shaped (.list (ns.map PyData.str))=true:=by
 unfold SeqAt.shaped;have e:(PyData.list (ns.map PyData.str)).canLay0=true:=Og _ (by simp only[Ha];exact Lv _ ns λz hz=>by simp only[Ha];exact h z hz)
 have q:(PyData.list (ns.map PyData.str)).depth<=64:=by
  simp only[PyData.depth];have:=Oh PyData.str 0 ns λz hz=>by simp only[PyData.depth];omega
  omega
 rw [e,A16 q];rfl
theorem C1 {α:Type}[DecidableEq α]:∀ {xs ys:List α},xs.Nodup->(∀ x∈xs,x∈ys)->xs.length<=ys.length
 | [],_,_,_=>A2M _
 |x :: xs,ys,h,hs=>by
   rw[A0Y] at h;have q:x∈ys:=hs x A0D
   have F:=C1 (xs:=xs) (ys:=ys.erase x) h.2 λz hz=>by refine(List.mem_erase_of_ne ?_).mpr (hs z (A09 _ hz));intro e;subst e;exact h.1 hz
   rw[List.length_erase_of_mem q] at F;have:0<ys.length:=A4N q;rw[A0G];omega
section
variable {c:TT}{tb:TS}{D:Po}{σ:St}{H:Hp}
theorem Wd (W:Nat->St->Hp->Prop)(m:Nat)(F:W m σ H)
  (J:∀ m σ H,W m σ H->c σ H λb H1=>if b=true then ∃ N:St->Hp->Prop,(∀ σ' H',N σ' H'->∃ q,q<m/\W q σ' H')/\tb {D with nx:=N,ct:=N,bk:=D.nx} σ H1 else D.nx σ H1):ar3 c tb D σ H:=⟨W,⟨m,F⟩,J⟩
theorem a85 {W:Nat->St->Hp->Prop}{m:Nat}(h:tb {D with nx:=fun σ' H'=>∃ q,q<m/\W q σ' H',ct:=fun σ' H'=>∃ q,q<m/\W q σ' H',bk:=D.nx} σ H) :
  ∃ N:St->Hp->Prop,(∀ σ' H',N σ' H'->∃ q,q<m/\W q σ' H')/\tb {D with nx:=N,ct:=N,bk:=D.nx} σ H:=⟨_,λ_ _ h=>h,h⟩
end
section
variable {X:Cx}{K:W.Frag}
def Wr:V->List V->Hp->VK->Prop:=λx vs H Q=>∃ d o kvs more,x = .ref d/\vs=[.ref o]/\d≠o/\H d=some (.dK kvs)/\H o=some (.dK more)/\kvs.length+more.length<=1000000/\Q .non (upd H d (.dK (Gm kvs more)))
theorem ai4:MtM X "dict.update" Wr:=by
 intro pins s σ H x vs v us Q I rx rv h;obtain⟨d,o,kvs,more,rfl,rfl,a5,U,hO,hz,q⟩:=h
 cases rx;obtain⟨u,rfl,ru⟩:=rv.one
 cases ru;obtain⟨z1,a3,a0,Y,O⟩:=Vi I.hok U;obtain⟨z2,a4,a1,Z,a2⟩:=Vi I.hok hO;have l1:kvs.length=a0.length:=Y.length;have l2:more.length=a1.length:=Z.length;refine A3W F.slot_dict_update O.typeIs F.entry_dict_update (F.args_dict_update_2 _ _) (meets_dict_update (Ax X.prog X.w) d o a5 a4) ⟨a0,a1,O,a2,A9 ∅,λh' J _ hs=>?_⟩;have he:∃ q,h'.get? d=some q:=let ⟨q,_,_,hq,_⟩:=J;⟨q,hq⟩;refine⟨.non,_,Sq I (by rw[U];exact A2F) hs he (Ve ?_ a3 (KV.merge Z Y) J),rfl,q⟩;have:=G8 more kvs;exact A9 ∅
end
theorem Pm:entryFor table "dict.update.loop" = some Builtin.«dict.update.loop»:=entryFor_of_tree (by kernel_rfl)
theorem Ii:plainId "dict.update.loop" = true:=by decide +kernel
theorem Uk:typeLookup (.type "list") "keys" = pure none:=by rw[typeLookup_type,builtinLookup_eq_fast];kernel_rfl
section
variable {prog:Program}{w:World}{κ:Type}[DecidableEq κ]{knd:KeyKind prog w κ}{A:Around}{E:Value->Shared->Prop}{s:Shared}
theorem ad0 {a:Addr}{xs:Array Value}{k:Nat}{Q:Option Value->Shared->Prop}(J:s.heap.get? a=some {cls:=.type "list",data:=.seq xs k})(Y:A.handled=none)
  (h:∀ h' tk,(∀ b o,s.heap.get? b=some o->h'.get? b=some o)->Q none {s with heap:=h',toks:=tk}):wpAny (model prog w) A (getAttr? (.ref a) "keys") Q E s:=by
 obtain⟨hp,g,d,tk,os⟩:=s;have q:∀ U,(⟨hp,g,d,U,os⟩:Shared).TypeIs (.ref a) "list":=λ_=>⟨_,J,rfl⟩;have Z:=sub_AttributeError;have f3:=F.slot_list_getattribute.lookup;have f4:=F.slot_list_getattribute.bind (.ref a);have f5:=am_list_getattr_none;unfold getAttr? getAttrBy? getAttrBy
 repeat (any_goals (first | assumption | exact q _ | ((with_reducible show wpAny _ _ (call (Value.builtin "list.__getattribute__") _ _) _ _ _);refine A41 F.slot_list_getattribute (q _) am_entry_list_getattribute (F.args_list_getattribute_2 _ _) (meets_getattribute_miss_list a xs k #[] "keys" _ Uk (by decide +kernel) (by rw[A1I];decide +kernel)) ⟨J,Y,λh' U e O=>?_⟩) | wp_step))
 obtain⟨t',u',he⟩:=O.there;show wpAny _ _ (getattributeRaised _ _ _ _ _ _ _) _ _ _;unfold getattributeRaised
 repeat (any_goals (first | assumption | wp_step))
 exact h _ _ O.keeps
theorem Zg {t:Addr}{k v:Value}{Q:List Value->Shared->Prop}(J:IsTup s.heap t #[k,v])(h:Q [k,v] s):wpAny (model prog w) A (Builtin.Dict.pairItems (.ref t)) Q E s:=by obtain⟨o,q,F,n,hd⟩:=J;unfold Builtin.Dict.pairItems;refine A05 (A3H ⟨o,q,F⟩ ?_);rw[A0X nofun];refine A05 (A55 q hd ?_);exact A0C h
theorem ac3 {I D l:Addr}{items:Array Value}(hh:A.in1.handled=none)(aH:l≠I)(J:D≠I)(aC:D≠l)(pk:List (κ×Value×Addr×Value))(aG:pk.length=items.size)(hz:items.size<=1000000) :
  ∀(j i:Nat) (s:Shared) (R:Result->Shared->Prop),items.size-i=j->i<=items.size->s.heap.IsListIter I l i->s.heap.IsList l items ->
   s.heap.DictOf knd D (merged [] ((pk.take i).map λp=>(p.1,p.2.1))) ->
   (∀(n:Nat) (p:κ×Value×Addr×Value),pk[n]? = some p->items[n]? = some (Value.ref p.2.2.1)/\p.2.2.1≠I/\p.2.2.1≠D/\IsTup s.heap p.2.2.1 #[p.2.2.2,p.2.1]/\knd.is p.1 p.2.2.2=true) ->
   (∀ h' tk,h'.DictOf knd D (merged [] (pk.map λp=>(p.1,p.2.1)))->(∀ b o,b≠D->b≠I->s.heap.get? b=some o->h'.get? b=some o)->R (.ok (.ret .none)) {s with heap:=h',toks:=tk}) ->
   codeAny (model prog w) A (.builtin "dict.update.loop" ⟨[.ref D,.ref I,.int i 0,.none],[]⟩) R s:=by
 have W:=Walks.list (prog:=prog) (w:=w) hh I l aH items;intro j
 induction j with
 |zero=>
   intro i s R hj hi O U F Y Z;have aE:i=items.size:=by omega
   subst aE;refine codeAny_builtin Pm ?_;rw[Around.under_plainId Ii _];show wpAny _ A.in1 (pyNext (.ref I) >>= _) _ _ s;refine A05 (W.done s _ _ ⟨O,U⟩ λh' tk hm=>?_);show wpAny _ A.in1 (Builtin.Dict.addKeywords D [] >>= _) _ _ _;refine wpAny_bind (wpAny_pure (wpAny_pure (Z h' tk ?_ λb o hb aD e=>hm b o (by simpa using aD) e)));rw[<- aG,A0W] at F;obtain⟨o,es,ep,q,r⟩:=F;exact⟨o,es,ep,hm D o (by simpa using J) q,r⟩
 |succ j ih=>
   intro i s R hj hi O U F Y Z;have a4:i<items.size:=by omega
   obtain⟨p,hp⟩:∃ p,pk[i]? = some p:=⟨pk[i]'∅,A03 _⟩;obtain⟨q1,q2,q3,q4,q5⟩:=Y i p hp;refine codeAny_builtin Pm ?_;rw[Around.under_plainId Ii _];show wpAny _ A.in1 (pyNext (.ref I) >>= _) _ _ s;refine A05 (W.item i s _ _ a4 ⟨O,U⟩ λv h' tk hv a6 hm=>?_)
   have aK:v = .ref p.2.2.1:=by have a7:items[i]? = some v:=hv;rw[q1] at a7;exact(A13 a7).symm
   subst aK
   have aJ:IsTup h' p.2.2.1 #[p.2.2.2,p.2.1]:=by obtain⟨o,q,r⟩:=q4;exact⟨o,hm _ o (by simpa using q2) q,r⟩
   have a9:h'.DictOf knd D (merged [] ((pk.take i).map λp=>(p.1,p.2.1))):=by obtain⟨o,es,ep,q,r⟩:=F;exact⟨o,es,ep,hm D o (by simpa using J) q,r⟩
   show wpAny _ A.in1 (holding [Value.ref p.2.2.1] _ >>= _) _ _ _;refine A05 (A3K ?_);refine A05 (wpAny_tryCatch (Zg aJ ?_));show wpAny _ A.in1 (holding [p.2.2.2,p.2.1] (dictSet D p.2.2.2 p.2.1)) _ _ _;refine A3K (wpAny_dictSet_pairs q5 a9 (λa8 aA hs=>?_) ?_)
   . refine A0C ⟨A5I Ii _,?_⟩;have a0:∀ b o,b≠D->b≠I->s.heap.get? b=some o->a8.get? b=some o:=λb o h1 h2 e=>(hs.2 b h1).trans (hm b o (by simpa using h2) e);refine ih (i+1) _ R ∅ a4 ?_ ?_ ?_ (λn p' aI=>?_) λh3 aL aB aF=>Z h3 aL aB λb o h1 h2 e=>aF b o h1 h2 (a0 b o h1 h2 e)
     . exact a6.1.at λo e=>(hs.2 I (Ne.symm J)).trans e
     . exact a6.2.at λo e=>(hs.2 l (Ne.symm aC)).trans e
     . have e:merged [] ((pk.take (i+1)).map λp=>(p.1,p.2.1))=stored (merged [] ((pk.take i).map λp=>(p.1,p.2.1))) p.1 p.2.1:=by rw[A0R,hp];unfold merged;rw[A0T,List.foldl_append];rfl
       rw[e];exact aA
     obtain⟨a1,a2,a3,⟨o,q,r⟩,a5⟩:=Y n p' aI;exact⟨a1,a2,a3,⟨o,a0 _ o a3 a2 q,r⟩,a5⟩
   refine A0O (merged_length_le _ _) (A9 ?_);rw[A01,A10];simp;omega
theorem Pl {l:Addr}{items:Array Value}{n:Nat}{Q:Value->Shared->Prop}(hl:s.heap.get? l=some {cls:=.type "list",data:=.seq items n})(Z:A.handled=none)(pk:List (κ×Value×Addr×Value))(a6:pk.length=items.size)(hz:items.size<=1000000)
  (hP:∀(n:Nat) (p:κ×Value×Addr×Value),pk[n]? = some p->items[n]? = some (Value.ref p.2.2.1)/\IsTup s.heap p.2.2.1 #[p.2.2.2,p.2.1]/\knd.is p.1 p.2.2.2=true)
  (h:∀ h' tk,h'.DictOf knd s.heap.objs.size (merged [] (pk.map λp=>(p.1,p.2.1)))->(∀ b o,s.heap.get? b=some o->h'.get? b=some o)->Q (.ref s.heap.objs.size) {s with heap:=h',toks:=tk}) :
  wpAny (model prog w) A (call (.type "dict") [.ref l]) Q E s:=by
 refine callType_codes (Q₁:=λobj s₁=>obj = .ref s.heap.objs.size/\s₁={s with heap:=s.heap.push {cls:=.type "dict",data:=.dict #[]}}) F.kt_called_dict (F.kt_typeCall_dict_1 _) F.entry_dict_init (kt_code_dict_new _ ⟨rfl,rfl⟩) ?_
 rintro obj s₁ ⟨rfl,rfl⟩;have Y:(s.heap.push {cls:=.type "dict",data:=.dict #[]}).DictOf knd s.heap.objs.size []:=Heap.DictOf.new s.heap;have U:(s.heap.push {cls:=.type "dict",data:=.dict #[]}).get? l=some {cls:=.type "list",data:=.seq items n}:=A02 _ hl;have a4:l<s.heap.objs.size:=A0F hl;refine⟨Y.typeIs,F.args_dict_init_2 _ _,?_⟩;unfold Builtin.«dict.__init__»;refine A05 ?_;unfold Builtin.Dict.selfAndRest;refine A05 (wpAny_notOrdered_dict Y.typeIs ?_);show wpAny _ _ (pure (s.heap.objs.size,[Value.ref l])) _ _ _;refine A0C ?_;show wpAny _ _ (Builtin.Dict.updateFrom "dict.__init__" s.heap.objs.size (.ref l) [] .none) _ _ _;unfold Builtin.Dict.updateFrom;refine A05 (A3H ⟨_,U,rfl⟩ ?_);rw[A0X nofun];refine wpAny_bind (ad0 U (by simpa using Z) λh1 a7 O=>?_);have a5:h1.get? l=some {cls:=.type "list",data:=.seq items n}:=O _ _ U;rw[A0X (show(none:Option Value).isNone=true from rfl)]
 have a0:h1.DictOf knd s.heap.objs.size []:=by obtain⟨o,es,ep,q,r⟩:=Y;exact⟨o,es,ep,O _ _ q,r⟩
 have hsz:s.heap.objs.size<h1.objs.size:=by obtain⟨o,es,ep,q,r⟩:=a0;exact A0F q
 refine A05 (wpAny_rule ?_);have a2:h1.IsList l items:=⟨_,a5,rfl,n,rfl⟩;refine A05 (A3T a2 ?_);refine A0C ⟨A5I Ii _,?_⟩;have kp:∀ b o,s.heap.get? b=some o->(h1.push {cls:=.type "list_iterator",data:=.fields #[.ref l,.int 0 0]}).get? b=some o:=λb o e=>A02 _ (O _ _ (A02 _ e));refine ac3 (knd:=knd) (A:=A.in1) (I:=h1.objs.size) (D:=s.heap.objs.size) (l:=l) (items:=items) (by simpa using Z) (Nat.ne_of_lt (Nat.lt_trans a4 hsz)) (Nat.ne_of_lt hsz) (Nat.ne_of_gt a4) pk a6 hz items.size 0 _ _ (Nat.sub_zero _) (Nat.zero_le _) ⟨_,Heap.get?_push_size _ rfl,rfl,rfl⟩ (a2.push _) ?_ (λm p hp=>?_) λh' tk hD hk=>?_
 . exact a0.push _
 . obtain⟨a1,⟨o,q,r⟩,a3⟩:=hP m p hp;have J:=A0F q;exact⟨a1,A11 (A49 J hsz),A11 J,⟨o,kp _ _ q,r⟩,a3⟩
 refine⟨rfl,h h' tk hD λb o e=>?_⟩;have J:=A0F e;exact hk b o (A11 J) (A11 (A49 J hsz)) (kp b o e)
end
def PrsK (K:W.Frag)(H:Hp):List (Key×V)->List V->Prop
 | [],ys=>ys=[]
 |kv :: r,ys=>∃ t q,ys = .ref t :: q/\SqT K H t [kV kv.1,kv.2]/\PrsK K H r q
theorem PrsK.pk {X:Cx}{pins:List (Addr×Obj)}{σ:St}{H:Hp}{s:Shared}(I:Inv X pins σ H s):∀(kvs:List (Key×V)) (ys:List V) (its:List Value),PrsK X.K H kvs ys->Vals ys its ->
  ∃ pk:List (Key×Value×Addr×Value),pk.length=its.length/\KV kvs (pk.map λp=>(p.1,p.2.1))/\∀(n:Nat) (p:Key×Value×Addr×Value),pk[n]? = some p->its[n]? = some (Value.ref p.2.2.1)/\IsTup s.heap p.2.2.1 #[p.2.2.2,p.2.1]/\(Ax X.prog X.w).is p.1 p.2.2.2=true
 | [],ys,its,h,v=>by
   have h':ys=[]:=h;subst h'
   cases v;exact ⟨[],rfl,.nil,λn p hp=>by simp at hp⟩
 |kv :: r,ys,its,h,v=>by
   obtain⟨t,a0,rfl,h2,O⟩:=h
   cases v with
   |cons v1 v2=>
     obtain⟨pk,Y,Z,l3⟩:=PrsK.pk I r a0 _ O v2
     cases v1;obtain ⟨a2,rv,U,_⟩:=I.tuple h2;obtain⟨q,val,rfl,F,J⟩:=Vals.two rv;refine⟨(kv.1,val,t,q) :: pk,by simp[Y],.cons ⟨rfl,J⟩ Z,λn p hp=>?_⟩
     cases n with
     |zero=>have:p=(kv.1,val,t,q):=(Option.some.inj (by simpa using hp)).symm;subst this;exact⟨rfl,U,Pz F⟩
     |succ n=>exact l3 n p (by simpa using hp)
section
variable {X:Cx}{K:W.Frag}
def af4 (K:W.Frag):List V->Hp->VK->Prop:=λxs H Q=>∃ l ys kvs,xs=[V.ref l]/\H l=some (.lst ys)/\PrsK K H kvs ys/\ys.length<=1000000/\kvs.length<=1000000/\∀ p,H p=none->Q (.ref p) (upd H p (.dK (Gm [] kvs)))
theorem Za (hr:X.A.handled=none):CallR X (.type "dict") (af4 X.K):=by
 intro pins s σ H xs us Q I rv h;obtain⟨l,ys,kvs,rfl,Z,hp,hz,a0,q⟩:=h;obtain⟨u,rfl,ru⟩:=rv.one
 cases ru;obtain⟨z,a4,n,r,a5,e⟩:=I.lstM Z;obtain⟨pk,l1,l2,l3⟩:=PrsK.pk I kvs ys a4 hp r;refine Pl (knd:=Ax X.prog X.w) e hr pk (by simpa using l1) (by simp;omega) (λn p hp=>?_) λh' tk U Y=>?_
 . obtain⟨F,J,O⟩:=l3 n p hp;exact⟨by simpa using F,J,O⟩
 refine⟨.ref s.heap.objs.size,_,I.laid Y (A08 _) (Ve ?_ ?_ (KV.merge l2 .nil) U),rfl,q _ (I.hok.fresh (A08 _))⟩
 . have:=G8 kvs [];exact A9 (by simpa using Nat.le_trans this (by simpa using a0))
 exact A1T.mpr (A4Q I.big)
theorem Md (F:X.A.handled=none)(q:X.K=K:=by ac_nf):CallR X (.type "dict") (af4 K):=q ▸ Za F
end
def Gj (ns:List Str)(as:List Addr):List (Key×V):=(ns.zip as).map λp=>(Sum.inr p.1,V.ref p.2)
def Hh (ks:List Str):List (Key×V):=ks.map λy=>(Sum.inr y,V.bl true)
theorem Db:∀ {ns:List Str} {as:List Addr} {i:Nat} {z:Str} {a:Addr},ns.Nodup->ns[i]? = some z->as[i]? = some a->Ck (Gj ns as) (Sum.inr z:Key)=some (.ref a)
 | [],_,i,_,_,_,h,_=>by simp at h
 |n :: ns,[],i,_,_,_,_,h=>by simp at h
 |n :: ns,b :: as,0,z,a,_,h,g=>by simp at h g;subst h g;exact Bh rfl
 |n :: ns,b :: as,i+1,z,a,hn,h,g=>by
   rw[A0Y] at hn;have h':ns[i]? = some z:=by simpa using h
   have ne:¬ (Sum.inr n:Key)=Sum.inr z:=by
    intro e;have q:n=z:=by injection e
    subst q;exact hn.1 (A04 h')
   show Ck ((Sum.inr n,V.ref b) :: Gj ns as) _=_;rw[Bc ne];exact Db hn.2 h' (by simpa using g)
theorem Ni (y:Str):∀ ks:List Str,Ck (Hh ks) (Sum.inr y:Key)=if y∈ks then some (.bl true) else none
 | []=>by simp[Hh,al7]
 |k :: ks=>by
   show Ck ((Sum.inr k,V.bl true) :: Hh ks) _=_
   by_cases e:k=y
   . subst e;rw[Bh rfl,A0X A0D]
   rw[Bc (by intro q;injection q with q;exact e q),Ni y ks]
   have:(y∈k :: ks)↔y∈ks:=by simp[Ne.symm e]
   simp only[this]
def ad8 (ks:List Str)(y:Str):List Str:=if y∈ks then ks else ks++[y]
theorem mem_addK {ks:List Str}{y z:Str}:z∈ad8 ks y↔z∈ks\/z=y:=by
 unfold ad8
 split
 . constructor
   . exact .inl
   rintro(h|rfl)
   . exact h
   assumption
 simp
theorem Jr {ks:List Str}{y:Str}(h:ks.Nodup):(ad8 ks y).Nodup:=by
 unfold ad8
 split
 . exact h
 rename_i hy;rw[A1G];refine⟨h,by simp,λa ha b hb e=>?_⟩;have:b=y:=by simpa using hb
 subst this;subst e;exact hy ha
theorem ay0 (y:Str)(ks:List Str):((Hh ks).any λkv=>decide (kv.1=(Sum.inr y:Key)))=decide (y∈ks):=by
 induction ks with
 |nil=>simp[Hh]
 |cons k ks ih=>
   show(decide ((Sum.inr k:Key)=Sum.inr y)||(Hh ks).any _)=_
   rw[ih]
   by_cases e:k=y
   . subst e;simp
   have F:¬ (Sum.inr k:Key)=Sum.inr y:=by intro q;injection q with q;exact e q
   simp[F,Ne.symm e]
theorem Wt (ks:List Str)(y:Str):Ge (Hh ks) (Sum.inr y:Key) (.bl true)=Hh (ad8 ks y):=by
 unfold Ge ad8;rw[ay0]
 by_cases h:y∈ks
 . rw[A0X (A16 h),A0X h];unfold Hh;rw[A19];refine A0Z λk _=>?_;show(if(Sum.inr k:Key)=Sum.inr y then(Sum.inr k,V.bl true) else(Sum.inr k,V.bl true))=_
   split<;>rfl
 rw[if_neg (by simpa using h),if_neg h];unfold Hh;rw[A0T];rfl
def Mj (ks ms:List Str):List Str:=ms.foldl ad8 ks
theorem Tz:∀(ms ks:List Str),Gm (Hh ks) (Hh ms)=Hh (Mj ks ms)
 | [],ks=>rfl
 |m :: ms,ks=>by show Gm (Ge (Hh ks) (Sum.inr m) (.bl true)) (Hh ms)=_;rw[Wt,Tz ms];rfl
theorem mem_addAll:∀ {ms ks:List Str} {z:Str},z∈Mj ks ms↔z∈ks\/z∈ms
 | [],ks,z=>by simp[Mj]
 |m :: ms,ks,z=>by show z∈Mj (ad8 ks m) ms↔_;rw[mem_addAll,mem_addK,A0B,or_assoc]
theorem Hb:∀ {ms ks:List Str},ks.Nodup->(Mj ks ms).Nodup
 | [],ks,h=>h
 |m :: ms,ks,h=>Hb (ms:=ms) (Jr h)
theorem K7 (ks:List Str):(Hh ks).length=ks.length:=by simp[Hh]
theorem L7:∀(kvs acc:List (Key×V)),(kvs.map (·.1)).Nodup->(∀ k∈kvs,∀ q∈acc,q.1≠k.1)->Gm acc kvs=acc++kvs
 | [],acc,_,_=>by simp[Gm]
 |k :: kvs,acc,hn,hd=>by
   show Gm (Ge acc k.1 k.2) kvs=_
   have e:Ge acc k.1 k.2=acc++[k]:=by
    unfold Ge
    have:¬ (acc.any λkv=>decide (kv.1=k.1))=true:=by rw[A1E];rintro⟨q,F,e⟩;exact hd k A0D q F (A36 e)
    rw[A0P this]
   rw[A0H,A0Y] at hn;rw[e,L7 kvs (acc++[k]) hn.2 λx J q F=>?_,A21]
   . rfl
   rcases A0A.mp F with F|F
   . exact hd x (A09 _ J) q F
   have:q=k:=by simpa using F
   subst this;intro e;exact hn.1 (A0I.mpr ⟨x,J,e.symm⟩)
structure Tab (H:Hp)(r:Addr)(ns:List Str)(as:List Addr)(R:Str->Str->Prop):Prop where
 len:as.length=ns.length
 nd:as.Nodup
 nr:r∉as
 top:H r=some (.dK (Gj ns as))
 row:∀(i:Nat) (z:Str) (a:Addr),ns[i]? = some z->as[i]? = some a->∃ ks:List Str,H a=some (.dK (Hh ks))/\ks.Nodup/\(∀ y∈ks,y∈ns)/\∀ y,y∈ks↔R z y
theorem Tab.same {H H':Hp}{r:Addr}{ns:List Str}{as:List Addr}{R:Str->Str->Prop}(h:Tab H r ns as R)(e:Same H H'):Tab H' r ns as R:=
 ⟨h.len,h.nd,h.nr,e _ _ h.top,λi z a hz ha=>let ⟨ks,h1,h2⟩:=h.row i z a hz ha;⟨ks,e _ _ h1,h2⟩⟩
theorem Tab.congr {H:Hp}{r:Addr}{ns:List Str}{as:List Addr}{R R':Str->Str->Prop}(h:Tab H r ns as R)(e:∀ z∈ns,∀ y,R z y↔R' z y):Tab H r ns as R':=
 ⟨h.len,h.nd,h.nr,h.top,λi z a hz ha=>let ⟨ks,h1,h2,h3,h4⟩:=h.row i z a hz ha;⟨ks,h1,h2,h3,λy=>(h4 y).trans (e z (A04 hz) y)⟩⟩
theorem Tab.put {H H':Hp}{r b:Addr}{ns:List Str}{as:List Addr}{R R':Str->Str->Prop}(h:Tab H r ns as R)(e:ExtBut b H H'){j:Nat}{x:Str}(hn:ns.Nodup)(J:ns[j]? = some x)(hb:as[j]? = some b){ks:List Str}
  (hk:H' b=some (.dK (Hh ks))) (k1:ks.Nodup) (k2:∀ y∈ks,y∈ns) (k3:∀ y,y∈ks↔R' x y) (k4:∀ z∈ns,z≠x->∀ y,R z y↔R' z y):Tab H' r ns as R':=by
 refine⟨h.len,h.nd,h.nr,e _ _ (λq=>h.nr (q ▸ A04 hb)) h.top,λi z a hz ha=>?_⟩
 by_cases F:i=j
 . subst F;rw[hz] at J
   cases J;rw[ha] at hb
   cases hb;exact⟨ks,hk,k1,k2,k3⟩
 obtain⟨ms,h1,h2,U,Y⟩:=h.row i z a hz ha
 have Z:a≠b:=by intro q;subst q;obtain⟨p1,p2⟩:=A00.mp ha;obtain⟨q1,O⟩:=A00.mp hb;exact F ((A1H h.nd).mp (p2.trans O.symm))
 have a0:z≠x:=by intro q;subst q;obtain⟨p1,p2⟩:=A00.mp hz;obtain⟨q1,O⟩:=A00.mp J;exact F ((A1H hn).mp (p2.trans O.symm))
 exact⟨ms,e _ _ Z h1,h2,U,λy=>(Y y).trans (k4 z (A04 hz) a0 y)⟩
theorem Tab.at {H:Hp}{r:Addr}{ns:List Str}{as:List Addr}{R:Str->Str->Prop}(h:Tab H r ns as R){x:Str}(F:x∈ns):∃(i:Nat) (a:Addr),ns[i]? = some x/\as[i]? = some a:=by
 obtain⟨i,hi,e⟩:=A1M F;have q:i<as.length:=by rw[h.len];exact hi
 exact⟨i,as[i],by rw[A03 hi,e],A03 q⟩
section
variable {K:W.Frag}{H:Hp}{Q:VK}{r:Addr}{ns:List Str}{as:List Addr}{R:Str->Str->Prop}
theorem Ti {x:Str}{i:Nat}{a:Addr}(h:Tab H r ns as R)(hn:ns.Nodup)(q:ns[i]? = some x)(ha:as[i]? = some a)(k:Q (.ref a) H):Qm K (.ref r) (.str x) H Q:=i_ixD h.top (Db hn q ha) k
theorem Wx {a:Addr}{ks:List Str}{y:Str}(h:H a=some (.dK (Hh ks)))(k:Q (.bl (decide (y∈ks))) H):Z7 K false (.str y) (.ref a) H Q:=by
 refine .inr (.inr (.inl ⟨a,Ck (Hh ks) (Sum.inr y:Key),rfl,DGet.k (k:=Sum.inr y) h,?_⟩));rw[Ni]
 by_cases e:y∈ks
 . rw[if_pos e];simpa[e] using k
 rw[if_neg e];simpa[e] using k
theorem a06 {a:Addr}{kvs:List (Key×V)}{B:Prop}(h:H a=some (.dK kvs))(k:B):tyV K "dict" (.ref a) H/\B:=⟨.inr (.inr (.inl ⟨rfl,.inl ⟨kvs,h⟩⟩)),k⟩
theorem aT0 {d o:Addr}{ks ms:List Str}(hd:H d=some (.dK (Hh ks)))(F:H o=some (.dK (Hh ms)))(q:d≠o)(hz:ks.length+ms.length<=1000000)(k:∀ H',ExtBut d H H'->H' d=some (.dK (Hh (Mj ks ms)))->Q .non H'):Wr (.ref d) [.ref o] H Q:=
 ⟨d,o,_,_,rfl,rfl,q,hd,F,by rw[K7,K7];exact hz,k _ ExtBut.upd (by rw[Af,Tz])⟩
end
structure HalfW (ns:List Str)(ps:List (Str×Str)):Prop where
 nd:ns.Nodup
 mem:∀ p∈ps,p.1∈ns/\p.2∈ns
 irr:∀ x,¬ Way ps x x
 few:ns.length<=100
 le:ps.length<=1000
theorem Half.w {ns:List Str}{ps:List (Str×Str)}(h:Half ns ps):HalfW ns ps:=⟨h.names.1,λp hp=>h.mem hp,λ_=>h.irrefl,A0O h.few nofun,A0O h.le nofun⟩
structure War (ns:List Str)(ps:List (Str×Str))(ms:List Str)(R:Str->Str->Prop):Prop where
 snd:∀ z y,R z y->Way ps z y
 edge:∀ z y,(z,y)∈ps->R z y
 shut:∀ m∈ms,∀ z y,R z m->R m y->R z y
def ar6 (R:Str->Str->Prop)(q:Str)(ms:List Str)(z y:Str):Prop:=R z y\/(z∈ms/\R z q/\R q y)
theorem War.step {ns:List Str}{ps:List (Str×Str)}{ms:List Str}{R:Str->Str->Prop}(h:War ns ps ms R){F:Str}:War ns ps (ms++[F]) (λz y=>R z y\/(R z F/\R F y)):=by
 refine⟨λz y hz=>?_,λz y hz=>.inl (h.edge z y hz),λm hm z y h1 h2=>?_⟩
 . rcases hz with hz|⟨h1,h2⟩
   . exact h.snd z y hz
   exact(h.snd _ _ h1).trans (h.snd _ _ h2)
 rcases A0A.mp hm with hm|hm
 . rcases h1 with h1|⟨h1,J⟩
   . rcases h2 with h2|⟨h2,q⟩
     . exact .inl (h.shut m hm z y h1 h2)
     exact .inr ⟨h.shut m hm z F h1 h2,q⟩
   rcases h2 with h2|⟨h2,q⟩
   . exact .inr ⟨h1,h.shut m hm F y J h2⟩
   exact .inr ⟨h1,q⟩
 have e:m=F:=by simpa using hm
 subst e;rcases h1 with h1|⟨h1,J⟩
 . rcases h2 with h2|⟨h2,q⟩
   . exact .inr ⟨h1,h2⟩
   exact .inr ⟨h1,q⟩
 rcases h2 with h2|⟨h2,q⟩
 . exact .inr ⟨h1,h2⟩
 exact .inr ⟨h1,q⟩
theorem War.done {ns:List Str}{ps:List (Str×Str)}{R:Str->Str->Prop}(h:War ns ps ns R)(hm:∀ p∈ps,p.1∈ns/\p.2∈ns)(z y:Str):R z y↔Way ps z y:=by
 refine⟨h.snd z y,λg=>?_⟩
 induction g with
 |one e=>exact h.edge _ _ e
 |cons e _ ih=>exact h.shut _ (hm _ e).2 _ _ (h.edge _ _ e) ih
theorem PrsK.fz {K:W.Frag} {H H':Hp} (e:Fz H H'):∀ {kvs:List (Key×V)} {ys:List V},PrsK K H kvs ys->PrsK K H' kvs ys
 | [],_,h=>h
 |kv :: r,ys,⟨t,ys',h1,h2,h3⟩=>⟨t,ys',h1,e.seq h2,PrsK.fz e h3⟩
theorem PrsK.snoc {K:W.Frag}{H:Hp}{kv:Key×V}{t:Addr}(h:SqT K H t [kV kv.1,kv.2]):∀ {kvs:List (Key×V)} {ys:List V},PrsK K H kvs ys->PrsK K H (kvs++[kv]) (ys++[.ref t])
 | [],ys,g=>by have g':ys=[]:=g;subst g';exact⟨t,[],rfl,h,rfl⟩
 |k :: r,ys,⟨u,ys',h1,h2,h3⟩=>by subst h1;exact⟨u,ys'++[.ref t],rfl,h2,PrsK.snoc h h3⟩
theorem PrsK.length {K:W.Frag}{H:Hp}:∀ {kvs:List (Key×V)} {ys:List V},PrsK K H kvs ys->ys.length=kvs.length
 | [],ys,g=>by have g':ys=[]:=g;subst g';rfl
 |k :: r,ys,⟨u,ys',h1,h2,h3⟩=>by subst h1;simp[PrsK.length h3]
theorem ac2 {K:W.Frag}{H:Hp}{Q:VK}{l:Addr}{ys:List V}{kvs:List (Key×V)}(h:H l=some (.lst ys))(g:PrsK K H kvs ys)(hz:kvs.length<=1000000)(k:∀ p H',H p=none->Same H H'->H' p=some (.dK (Gm [] kvs))->Q (.ref p) H'):af4 K [.ref l] H Q:=
 ⟨l, ys,kvs,rfl,h,g,by rw[g.length];exact hz,hz,λp hp=>k p _ hp (Same.upd hp) Af⟩
theorem Rm:∀ {ns:List Str} {as:List Addr},ns.Nodup->((Gj ns as).map (·.1)).Nodup
 | [],as,_=>by simp[Gj]
 |n :: ns,[],_=>by simp[Gj]
 |n :: ns,a :: as,h=>by
   rw[A0Y] at h;show((Sum.inr n:Key) :: (Gj ns as).map (·.1)).Nodup;rw[A0Y];refine⟨λhm=>?_,Rm h.2⟩;obtain⟨kv,F,e⟩:=A0I.mp hm;obtain⟨p,hp,rfl⟩:=A0I.mp F;have q:p.1=n:=by injection e
   exact h.1 (q ▸ (A43 hp).1)
theorem Nj {ns:List Str}{as:List Addr}{z:Str}{a:Addr}(h:ns.length=as.length):Gj (ns++[z]) (as++[a])=Gj ns as++[(Sum.inr z,V.ref a)]:=by unfold Gj;rw[List.zip_append h,A0T];rfl
end L2
namespace L2
open PySem PySem.Spec PyProof.Rows
open Classical in
def Ab (ps:List (Str×Str))(x y:Str):Bool:=decide (Way ps x y)
theorem wayB_iff {ps:List (Str×Str)} {x y:Str}:Ab ps x y=true↔Way ps x y:=by unfold Ab;simp
theorem a66 {ps:List (Str×Str)}{x y:Str}{b:Bool}(h:b=true↔Way ps x y):b=Ab ps x y:=by
 cases hb:Ab ps x y with
 |true=>exact h.mpr (wayB_iff.mp hb)
 |false=>
   cases b with
   |false=>rfl
   |true=>
     have:=wayB_iff.mpr (h.mp rfl);rw[hb] at this
     cases this
theorem L1 {ps:List (Str×Str)}{x y:Str}{p:Prop}[Decidable p](h:p↔Way ps x y):decide p=Ab ps x y:=a66 (by rw[A3N];exact h)
theorem Jq {ps:List (Str×Str)}{x y:Str}(h:¬ Way ps x y):Ab ps x y=false:=by
 cases hb:Ab ps x y with
 |false=>rfl
 |true=>exact absurd (wayB_iff.mp hb) h
theorem iteR {α:Type}{a:α}{A B:Prop}[Decidable (a=a)](h:A):if decide (a=a)=true then A else B:=by rw[if_pos (by simp)];exact h
theorem iteNR {α:Type}{a:α}{A B:Prop}[Decidable (a=a)](h:B):if(!decide (a=a))=true then A else B:=by rw[if_neg (by simp)];exact h
section
variable {K:W.Frag}{H:Hp}{σ:St}{x:V}{Q:VK}
theorem Rq {ns:List Str}{g:TG}{tt:TT}{te:TE}{k:Nat}{js:List Nat}(h:Is K H (nmD ns) x)(t:Str->Bool)(f:Str->PyData)(hf:∀ a,frz (f a)=true)(hz:ns.length<=1000000)
  (Z:∀(i:Nat) a H1 (R:VK) (R':Hp->Prop),ns[i]? = some a->Same H H1->(t a=true->∀ y H2,Same H1 H2->Is K H2 (f a) y->R y H2)->(t a=false->∀ H2,Same H1 H2->R' H2) ->
   g (.str a) (List.replicate k none++Py σ js) H1 fun σ2 H2=>tt σ2 H2 λb q=>if b=true then te σ2 q R else R' q)
  (hd:∀ p ys H',H p=none->Same H H'->H' p=some (.lst ys)->IsL K H' ((ns.filter t).map f) ys->Q (.ref p) H'):G4 K x H λJ H1=>Om k js g tt te σ J H1 Q:=by
 obtain⟨a,rfl,F⟩:=h.nm;refine X9 F (J1 (K:=K) (Ir (xs:=ns.map V.str)) ns (by simp) t f hf (by simpa using hz) (λH' e=>e.seqT F) (λi z v H1 R R' hz O e U Y=>?_) hd);rw[A07,hz] at O
 cases O;exact Z i z H1 R R' hz e U Y
theorem Ta {ns:List Str}{a:Addr}{g:TG}{tt:TT}{te:TE}{k:Nat}{js:List Nat}(h:SqL K H a (ns.map V.str))(t:Str->Bool)(f:Str->PyData)(hf:∀ a,frz (f a)=true)(hz:ns.length<=1000000)
  (Y:∀(i:Nat) a H1 (R:VK) (R':Hp->Prop),ns[i]? = some a->Same H H1->(t a=true->∀ y H2,Same H1 H2->Is K H2 (f a) y->R y H2)->(t a=false->∀ H2,Same H1 H2->R' H2) ->
   g (.str a) (List.replicate k none++Py σ js) H1 fun σ2 H2=>tt σ2 H2 λb q=>if b=true then te σ2 q R else R' q)
  (hd:∀ p ys H',H p=none->Same H H'->H' p=some (.lst ys)->IsL K H' ((ns.filter t).map f) ys->Q (.ref p) H'):G4 K (.ref a) H λJ H1=>Om k js g tt te σ J H1 Q:=by
 refine Kf h (J1 (K:=K) (Bp (xs:=ns.map V.str)) ns (by simp) t f hf (by simpa using hz) (λH' e=>e.seq h) (λi z v H1 R R' hz F e O U=>?_) hd);rw[A07,hz] at F
 cases F;exact Y i z H1 R R' hz e O U
theorem a88 {ps:List (Str×Str)}{g:TG}{tt:TT}{te:TE}{k:Nat}{js:List Nat}(h:Is K H (psD ps) x)(t:Str×Str->Bool)(f:Str×Str->PyData)(hf:∀ a,frz (f a)=true)(hz:ps.length<=1000000)
  (hs:∀(i:Nat) a v H1 (R:VK) (R':Hp->Prop),ps[i]? = some a->Is K H1 (prD a) v->Same H H1->(t a=true->∀ y H2,Same H1 H2->Is K H2 (f a) y->R y H2)->(t a=false->∀ H2,Same H1 H2->R' H2) ->
   g v (List.replicate k none++Py σ js) H1 fun σ2 H2=>tt σ2 H2 λb q=>if b=true then te σ2 q R else R' q)
  (hd:∀ p ys H',H p=none->Same H H'->H' p=some (.lst ys)->IsL K H' ((ps.filter t).map f) ys->Q (.ref p) H'):G4 K x H λJ H1=>Om k js g tt te σ J H1 Q:=by
 obtain⟨a,xs,rfl,U,O⟩:=Is.tup h;have hl:ps.length=xs.length:=by rw[<- IsL.length O,A01]
 refine X9 U (J1 (K:=K) (Ir (xs:=xs)) ps hl t f hf ∅ (λH' e=>e.seqT U) (λi z v H1 R R' hz hv e Z a0=>?_) hd);obtain⟨d,F,Y⟩:=IsL.get (IsL.mono e _ _ O) hv;rw[A07,hz] at F
 cases F;exact hs i z v H1 R R' hz Y e Z a0
theorem ah2 {ns:List Str}{a:Addr}{ys:List V}(h:H a=some (.lst ys))(g:IsL K H (ns.map PyData.str) ys)(k:∀ v H',Same H H'->Is K H' (nmD ns) v->Q v H'):Oq K [.ref a] H Q:=by have e:=IsL.str_eq g;subst e;exact Mz (SqL.of h) λp H' hp e h'=>k _ H' e (Np (SqT.of h'))
theorem Rz {ps:List (Str×Str)}{a:Addr}{ys:List V}(h:H a=some (.lst ys))(g:IsL K H (ps.map prD) ys)(k:∀ v H',Same H H'->Is K H' (psD ps) v->Q v H'):Oq K [.ref a] H Q:=
 Mz (SqL.of h) λp H' hp e h'=>k _ H' e (Is.of_tup (SqT.of h') (IsL.mono e _ _ g))
end
end L2
namespace L2
open PySem PySem.Spec PyProof.Rows
open AutoSeq1 (wpAny_loadPart')
section
variable {prog:Program}{w:World}{A:Around}{E:Value->Shared->Prop}{s:Shared}
theorem av8 {it t:Addr}{i:Nat}{items:Array Value}{x:Value}{Q:Value->Shared->Prop}(O:s.heap.IsTupleIter it t i)(Y:s.heap.IsTuple t items)(Z:items[i]? = some x)
  (U:∀ h',h'.IsTupleIter it t (i+1)->Heap.SameBut it s.heap h'->Q x {s with heap:=h'}):wpAny (model prog w) A (Builtin.SmallTypes.nextOf (.ref it)) Q E s:=by
 obtain⟨o,J,o2,q⟩:=id O;obtain⟨u,u1,_,n,u2⟩:=Y;unfold Builtin.SmallTypes.nextOf;refine A05 (A2S (name:=Str.ofString "__next__") O.typeIs F.slot_tuple_iterator_next (A3C F.slot_tuple_iterator_next O.typeIs F.entry_tuple_iterator_next ?_ (F.args_tuple_iterator_next_1 _)));refine A05 (m:=field (.ref it) 0) (A32 J q (x:=.ref t) rfl ?_);rw[A0P (show ¬ ((Value.ref t==Value.none)=true) by intro h;cases h)];refine A05 (m:=field (.ref it) 1) (A32 J q (x:=.int i 0) rfl ?_);refine A05 (m:=seqItems? (.ref t)) (A55 u1 u2 ?_);simp only[Int.toNat_natCast,Z];refine wpAny_bind (wpAny_setField J q (by simp) (wpAny_pure ⟨x,rfl,wpAny_pure (U _ ⟨_,Heap.get?_update_self _ J (Obj.isFreed_of_fields (Obj.data_mapFields q _)),(Obj.cls_mapFields ..).trans o2,?_⟩ (Heap.SameBut.update ..))⟩));rw[Obj.data_mapFields q];simp[rawInt]
theorem aE9 {it t:Addr}{i:Nat}{items:Array Value}{Q:Value->Shared->Prop}(U:A.handled=none)(q:s.heap.IsTupleIter it t i)(Z:s.heap.IsTuple t items)(hx:items[i]? = none)
  (Y:∀ h' e,Heap.ExtBut it s.heap h'->(∃ o,h'.get? e=some o/\o.cls = .type "StopIteration")->E (.ref e) {s with heap:=h'}):wpAny (model prog w) A (Builtin.SmallTypes.nextOf (.ref it)) Q E s:=by
 obtain⟨o,J,o2,O⟩:=id q;obtain⟨u,u1,_,n,u2⟩:=Z;unfold Builtin.SmallTypes.nextOf;refine A05 (A2S (name:=Str.ofString "__next__") q.typeIs F.slot_tuple_iterator_next (A3C F.slot_tuple_iterator_next q.typeIs F.entry_tuple_iterator_next ?_ (F.args_tuple_iterator_next_1 _)));refine A05 (m:=field (.ref it) 0) (A32 J O (x:=.ref t) rfl ?_);rw[A0P (show ¬ ((Value.ref t==Value.none)=true) by intro h;cases h)];refine A05 (m:=field (.ref it) 1) (A32 J O (x:=.int i 0) rfl ?_);refine A05 (m:=seqItems? (.ref t)) (A55 u1 u2 ?_);simp only[Int.toNat_natCast,hx];refine wpAny_bind (wpAny_rule (wpAny_bind (wpAny_setField J O (by simp) ?_)));refine A05 (m:=newExc (.type "StopIteration") []) ?_;simp only[newExc,newTuple];refine A05 (A20 ?_ (by size_fits));refine wpAny_bind (m:=firstArgMember _ _) (wpAny_of_eq (a:=Value.none) (by first | rfl | (simp only[firstArgMember];rfl)) (wpAny_newObj_type ?_ (by size_fits)))
 simp only[raiseNew];refine A05 (wpAny_handled ?_)
 first | rw[show A.in1.handled=none from U] | rw[U]
 refine A05 (A0C (wpAny_throw (Y _ _ (((Heap.SameBut.update ..).extBut.push _).push _) ⟨_,A0J _ rfl,rfl⟩)))
theorem at4 (U:A.handled=none)(it t:Addr)(Y:t≠it)(items:Array Value):Draws prog w A it [it,t] items.size (λi v=>items[i]? = some v) (λi h=>h.IsTupleIter it t i/\h.IsTuple t items) where
 live:=λ_ _ q=>let ⟨o,ho,_⟩:=q.1;⟨o,ho⟩
 frame:=λ_ _ _ q F=>⟨q.1.at λo e=>F it (by simp) o e,let ⟨o,ho,r⟩:=q.2;⟨o,F t (by simp) o ho,r⟩⟩
 item:=λi s Q E hi q O=>av8 q.1 q.2 (x:=items[i]) (by simp[hi]) λh' a b=>O _ h' s.toks (by simp[hi]) ⟨a,q.2.extBut b.extBut Y⟩ b
 done:=λs Q E q J=>aE9 U q.1 q.2 (by simp) J
theorem Wn (l:Addr)(items:Array Value)(n:Nat)(J:Option Addr)(O:Array (Option Value)) :
  Meets (Builtin.«enumerate.__new__» ⟨[.type "enumerate",.ref l],[]⟩) (λ_ R s=>s.heap.get? l=some {cls:=.type "tuple",dict:=J,data:=.seq items n,slots:=O} /\
   R (.ok (.ret (.ref (s.heap.push {cls:=.type "tuple_iterator",data:=.fields #[.ref l,.int 0 0]}).objs.size)))
    {s with heap:=(s.heap.push {cls:=.type "tuple_iterator",data:=.fields #[.ref l,.int 0 0]}).push {cls:=.type "enumerate",data:=.fields #[.none,.bool false,.ref s.heap.objs.size,rawInt 0,.none,.none]}}):=
 .of_wp λprog w A R s h=>by
  obtain⟨hp,g,d,tk,os⟩:=s;obtain⟨q,h⟩:=h;have U:=sub_enumerate;have F:Heap.IsTuple (Shared.heap ⟨hp,g,d,tk,os⟩) l items:=⟨_,q,rfl,n,rfl⟩
  wp_walk using wpAny_loadPart' q
  refine wpAny_stack_any λst=>A0C ?_
  split
  . rename_i c _ _ _ _ _
    cases (c==Value.type "enumerate")<;>(wp_walk using wpAny_loadPart' q,A3M F;exact⟨_,rfl,h⟩)
  wp_walk using wpAny_loadPart' q,A3M F
  exact⟨_,rfl,h⟩
theorem Zc {l:Addr}{items:Array Value}{Q:Value->Shared->Prop}(U:s.heap.IsTuple l items)
  (h:∀ h',IsEnum h' (s.heap.objs.size+1) s.heap.objs.size 0 .none->h'.IsTupleIter s.heap.objs.size l 0->(∀ b o,s.heap.get? b=some o->h'.get? b=some o)->Q (.ref (s.heap.objs.size+1)) {s with heap:=h'}) :
  wpAny (model prog w) A (call (.type "enumerate") [.ref l]) Q E s:=by
 obtain⟨⟨c,J,O,Z⟩,Y,q,n,hd⟩:=U;replace q:c = .type "tuple":=q;replace hd:O = .seq items n:=hd;subst q hd;refine callType_new F.called_enumerate nofun (F.typeCall_enumerate_1 _) (F.newCall_enumerate_1 _) (λobj=>F.args_object_init_2 obj _) F.entry_enumerate_new (Wn l items n J Z) ⟨Y,?_⟩;have hz:(s.heap.push {cls:=.type "tuple_iterator",data:=.fields #[.ref l,.int 0 0]}).objs.size=s.heap.objs.size+1:=A22 ..;show _/\_;have he:=A0J (s.heap.push {cls:=.type "tuple_iterator",data:=.fields #[.ref l,.int 0 0]}) (o:={cls:=.type "enumerate",data:=.fields #[.none,.bool false,.ref s.heap.objs.size,rawInt 0,.none,.none]}) rfl;rw[hz] at he ⊢;exact⟨⟨_,he,rfl⟩,h _ he ⟨_,A02 _ (A0J _ rfl),rfl,rfl⟩ λb o x=>A02 _ (A02 _ x)⟩
end
theorem Inv.turnedL {X:Cx}{pins:List (Addr×Obj)}{σ:St}{H:Hp}{s:Shared}{h':Heap}{t':Nat}{ch:List Addr}(I:Inv X pins σ H s)(k:∀ b o,b∉ch->s.heap.get? b=some o->h'.get? b=some o)(hf:∀ b∈ch,Xw X pins H b):Inv X pins σ H {s with heap:=h',toks:=t'}:=by
 have J:∀ b u,H b=some u->b∉ch:=λb u e z=>by rw[(hf b z).1] at e;cases e
 refine I.step (g':=s.gens) (d':=s.drawn) (ch:=ch) (λb hb=>?_) (λb o _ _ F e _=>k b o F e) (λb o _ _ F e _=>⟨o.slots,k b o F e⟩) (λ_ _ _ _ n=>n)
  (λb o F e=>⟨o,k b o F e⟩) (λ_ _ e=>e) (λ_ _ _ e=>e) (λb ps e=>⟨#[],by rw[e];simp⟩) (λm hm=>?_) (λb u e=>?_) I.bare
 . obtain⟨_,h2,_,O,U,Y⟩:=hf b hb;exact⟨O,h2,U,Y⟩
 . obtain⟨o,es,ep,Z,r⟩:=hm;exact⟨o,es,ep,k _ o (λz=>(hf _ z).2.1 rfl) Z,r⟩
 refine(I.hok b u e).stay (λc v F q=>k c v ?_ q) (λ_ q=>q) λ_ _ q=>q;rcases F with z|z
 . rw[z];exact J b u e
 exact J c _ z
def Ite (K:W.Frag)(a:Addr):It:=
 ⟨λi H=>∃ xs x,SqT K H a xs/\xs[i]? = some x,λi H v H'=>∃ t x,H t=none/\H'=upd H t (.tup [.int i,x])/\v = .ref t/\∀ xs,SqT K H a xs->xs[i]? = some x,λi H=>∃ xs,SqT K H a xs/\xs.length=i⟩
theorem a70 {P:Program}{w:World}{K:W.Frag}{a6:List Expr}{ek:Nat}{a7:Pos}(a it e:Addr)(a0:e≠it)(a2:a≠it)(aA:a≠e):aa3 P w K (.Tuple a6 ek a7) (Ite K a) [e,it] e (λi h=>(∃ old,IsEnum h e it i old)/\h.IsTupleIter it a i) where
 mem:=by simp
 obj:=λi h st b hb=>by
  obtain⟨⟨old,h1⟩,o,h2,h3,h4⟩:=st;rcases A0B.mp hb with rfl|hb
  . exact⟨_,h1,λv z=>by cases z⟩
  have q:b=it:=by simpa using hb
  subst q;exact⟨o,h2,λv z=>by rw[h4] at z;cases z⟩
 keep:=λi h h' st k=>by obtain⟨⟨old,h1⟩,h2⟩:=st;exact⟨⟨old,k e (by simp) _ h1⟩,h2.at λo q=>k it (by simp) o q⟩
 item:=by
  intro X hP hw Z hc i pins s σ H E I hf st hg;subst hP hw Z;obtain⟨xs,x,U,J⟩:=hg;obtain⟨F,Y,p,hz⟩:=I.tuple U
  have aD:i<F.length:=by have:=(A00.mp J).1;rw[<- Y.length];exact this
  have D:=at4 (prog:=X.prog) (w:=X.w) (A:=X.A.in1) (by simpa using I.ok.hd hc) it a a2 F.toArray;obtain⟨⟨old,he⟩,O⟩:=st;have a4:e<s.heap.objs.size:=A0F he;have aE:it<s.heap.objs.size:=let ⟨_,q,_⟩:=O;A0F q;refine wpAny_pyNext_enum_itemD D he ⟨O,p⟩ (by simpa using aD) a0 (by simp[a0,Ne.symm aA]) λv h1 tk hv ho aG hT hsz hk=>?_;obtain⟨u,hu,ru⟩:=Y.get J
  have aH:v=u:=by have a5:F.toArray[i]? = some v:=hv;rw[A33,hu] at a5;exact(A13 a5).symm
  subst aH;refine⟨_,rfl,wpAny_letOwnedTupleGo_enum ho λh2 aC a1=>?_⟩;have a9:H s.heap.objs.size=none:=I.hok.fresh (A08 _);have a8:h2.get? s.heap.objs.size=some {cls:=.type "tuple",data:=.seq #[.int i tk,v]}:=(a1.2 _ (A4Q a4)).trans hT
  have I1:Inv X pins σ (upd H s.heap.objs.size (.tup [.int i,x])) {s with heap:=s.heap.push {cls:=.type "tuple",data:=.seq #[.int i tk,v]}}:=
   I.laid (t':=s.toks) (λb ob q=>Heap.get?_push_of_some _ q) (Nat.le_refl _) ⟨by simp[sizeLine_eq],[.int i tk,v],.cons ⟨tk,rfl⟩ (.cons ru .nil),_,Heap.get?_push_size _ rfl,rfl,⟨_,rfl⟩,rfl⟩
  have nT:∀ b∈[e,it],b≠s.heap.objs.size:=λb hb=>by
   rcases A0B.mp hb with rfl|hb
   . exact A11 a4
   have q:b=it:=by simpa using hb
   subst q;exact A11 aE
  have I2:Inv X pins σ (upd H s.heap.objs.size (.tup [.int i,x])) {s with heap:=h2,toks:=tk+1}:=Inv.turnedL (s:={s with heap:=s.heap.push {cls:=.type "tuple",data:=.seq #[.int i tk,v]}}) (ch:=[e,it]) I1 (λb ob hb q=>?_) (λb hb=>?_)
  . refine⟨.ref s.heap.objs.size,_,I2,rfl,⟨_,x,a9,rfl,rfl,λys hy=>by rw[I.tuple_inj hy U];exact J⟩,⟨⟨_,by simpa using aC⟩,aG.1.at λo q=>(a1.2 it (Ne.symm a0)).trans q⟩,λb hb=>?_⟩;rw[Au (nT b hb)];exact(hf b hb).1
  . have a3:b≠e:=λz=>hb (by simp[z]);have aB:b≠it:=λz=>hb (by simp[z]);rcases Heap.get?_push_cases q with ⟨rfl,rfl⟩|q
    . exact a8
    exact(a1.2 b a3).trans (hk b ob a3 aB q)
  obtain⟨f0,f1,f2,f3,f4,f5⟩:=hf b hb;exact⟨by rw[Au (nT b hb)];exact f0,f1,f2,f3,f4,f5⟩
 done:=by
  intro X hP hw Z hc i pins s σ H E I hf st hg;subst hP hw Z;obtain⟨xs,U,J⟩:=hg;obtain⟨F,Y,p,hz⟩:=I.tuple U;obtain⟨⟨old,he⟩,O⟩:=st;have aF:F.toArray.size=i:=by rw[A0Q,<- Y.length];exact J
  have D:=at4 (prog:=X.prog) (w:=X.w) (A:=X.A.in1) (by simpa using I.ok.hd hc) it a a2 F.toArray;rw[aF] at D;refine wpAny_pyNext_enum_endD D he ⟨O,p⟩ λh' hk=>⟨rfl,I.turnedL (t':=s.toks) (ch:=[e,it]) (λb o hb q=>hk b o (λz=>hb (by simp[z])) q) hf⟩
 self:=by intro A i s Q E st hQ;obtain⟨⟨old,he⟩,_⟩:=st;exact A4I he hQ
section
variable {X:Cx}{K:W.Frag}
def ao5 (K:W.Frag)(vs:List V)(H:Hp)(R:It->Hp->Prop):Prop:=∃ a xs,vs=[.ref a]/\SqT K H a xs/\R (Ite K a) H
def aG2 (K:W.Frag)(ta:TA):TI:=fun σ H R=>ta σ H λvs H1=>ao5 K vs H1 R
theorem K6:bootBuiltins "enumerate" = some (.type "enumerate"):=PyProof.Rows.Boot.«enumerate»
theorem aw7 {e:Expr}{ta:TA}{p pos:Pos}{Z:List Expr}{Y:Nat}{a0:Pos}(hg:Gl X "enumerate")(hm:X.mg "enumerate" = none)(ha:PA X [e] ta)(hK:X.K=K:=by ac_nf)(hs:starEach [e] X.env=[(false,eval e X.env)]:=by ac_nf) :
  PI X (.Tuple Z Y a0) (.Call (.Name "enumerate" p) [e] [] pos) (aG2 K ta):=by
 subst hK;intro pins s σ H R I h;refine Call_ (K3 I hg hm K6 (A1W (thn (ha pos pins s σ H _ I h) λus F ⟨vs,H1,J,r1,q1⟩=>?_) hs rfl));obtain⟨a,xs,rfl,hq,q⟩:=q1;obtain⟨u,rfl,ru⟩:=Vals.one r1
 cases ru;obtain⟨a2,rv,U,hz⟩:=J.tuple hq;have O:a<F.heap.objs.size:=let ⟨_,q,_⟩:=U;A0F q;refine Zc U λh' he a1 hk=>?_;refine A4I he ?_;refine⟨F.heap.objs.size+1,[F.heap.objs.size+1,F.heap.objs.size],_,_,H1,rfl,J.kept (t':=F.toks) hk,a70 a F.heap.objs.size (F.heap.objs.size+1) (Nat.succ_ne_self _) (A11 O) (A11 (A2O O)),⟨⟨_,he⟩,a1⟩,λb hb=>?_,q⟩;rcases A0B.mp hb with rfl|hb
 . exact J.fpOk (A42 _) (J.hok.fresh (A42 _))
 have e:b=F.heap.objs.size:=by simpa using hb
 subst e;exact J.fpOk (A08 _) (J.hok.fresh (A08 _))
end
section
variable {K:W.Frag}{σ:St}{H:Hp}
theorem i_ienum {q:TA}{R:It->Hp->Prop}(k:q σ H λvs H1=>ao5 K vs H1 R):aG2 K q σ H R:=k
theorem an3 {xs:List V}{a:Addr}{n m:Nat}{tb:TS}{D:Po}(h:SqT K H a xs)(Pv:Nat->St->Hp->Prop)(F:Pv 0 σ H)(O:∀ i σ' H',Pv i σ' H'->SqT K H' a xs)
  (U:∀ i x σ' H' H2,xs[i]? = some x->Pv i σ' H'->Same H' H2->tb {D with nx:=Pv (i+1),ct:=Pv (i+1),bk:=D.nx} ((σ'.set n (some (.int i))).set m (some x)) H2) (hd:∀ σ' H',Pv xs.length σ' H'->D.nx σ' H') :
  ao5 K [.ref a] H λJ H1=>an9 (ax2 K 2 (Qd (K8 n) (Qd (K8 m) aE2))) tb D σ J H1:=by
 refine⟨a,xs,rfl,h,λi k σ' H'=>k=xs.length-i/\i<=xs.length/\Pv i σ' H',⟨xs.length,by simp,Nat.zero_le _,F⟩,?_⟩;rintro i k σ' H' ⟨rfl,hi,p⟩;have g:=O i σ' H' p
 by_cases q:i<xs.length
 . refine .inr ⟨⟨xs,xs[i],g,A03 q⟩,Pv (i+1),fun σ2 H2 p2=>⟨xs.length-(i+1),by omega,rfl,q,p2⟩,λv H2 y=>?_⟩;obtain⟨t,x,Y,rfl,rfl,Z⟩:=y;exact⟨t,_,rfl,SqT.of Af,rfl,.int i,[x],rfl,x,[],rfl,rfl,U i x σ' H' _ (Z xs g) p (Same.upd Y)⟩
 have e:i=xs.length:=by omega
 subst e;exact .inl ⟨⟨xs,g,rfl⟩,hd σ' H' p⟩
theorem aC2 {ps:List (Str×Str)}{x:V}{n m:Nat}{tb:TS}{D:Po}(h:Is K H (psD ps) x)(Pv:Nat->St->Hp->Prop)(Z:Pv 0 σ H)(F:∀ i σ' H',Pv i σ' H'->Fz H H')
  (hs:∀ i p v σ' H' H2,ps[i]? = some p->Is K H2 (prD p) v->Pv i σ' H'->Same H' H2->tb {D with nx:=Pv (i+1),ct:=Pv (i+1),bk:=D.nx} ((σ'.set n (some (.int i))).set m (some v)) H2) (hd:∀ σ' H',Pv ps.length σ' H'->D.nx σ' H') :
  ao5 K [x] H λJ H1=>an9 (ax2 K 2 (Qd (K8 n) (Qd (K8 m) aE2))) tb D σ J H1:=by
 obtain⟨a,xs,rfl,U,O⟩:=Is.tup h;have hl:ps.length=xs.length:=by rw[<- IsL.length O,A01]
 refine an3 U Pv Z (λi σ' H' p=>(F i σ' H' p).seq U) (λi v σ' H' H2 hv p e=>?_) fun σ' H' p=>hd σ' H' (by rw[<- hl] at p;exact p);obtain ⟨d,q,Y⟩:=IsL.get (IsL.fz ((F i σ' H' p).trans e.fz) _ _ (C0 ps) O) hv;rw[A07] at q
 cases hn:ps[i]? with
 |none=>rw[hn] at q;cases q
 |some z=>
   rw[hn] at q
   cases q;exact hs i z v σ' H' H2 hn Y p e
end
end L2
namespace L2
open PySem PySem.Spec PyProof.Rows
section
variable {X:Cx}{K:W.Frag}
section
variable {H:Hp}{Q:VK}{lo hi:Option Int}
theorem Qy {a b:Addr}{xs ys:List V}(h1:SqT K H a xs)(h2:SqT K H b ys)(h:xs.length+ys.length<=sizeLine)(k:∀ p H',Same H H'->SqT K H' p (xs++ys)->Q (.ref p) H'):X8 K (.ref a) (.ref b) H Q:=by
 by_cases q:xs=[]
 . subst q;exact .inr (.inr (.inr (.inr ⟨a,b,ys,rfl,rfl,h1,h2,k b H (Same.refl _) h2⟩)))
 refine .inr (.inr (.inr (.inl ⟨a,b,xs,ys,rfl,rfl,h1,h2,q,h,λe=>?_,λ_ p hp=>k p _ (Same.upd hp) (SqT.of Af)⟩)));subst e;exact k a H (Same.refl _) (by rw[A2C];exact h1)
theorem aU6 {a:Addr}{xs:List V}(h:SqT K H a xs)(k:∀ p H',Same H H'->SqT K H' p (R6 xs lo hi)->Q (.ref p) H'):aE4 K (.ref a) lo hi H Q:=by
 by_cases q:HT.sIx xs.length 0 lo=0/\HT.sIx xs.length xs.length hi=xs.length
 . refine .inr (.inr (.inr ⟨a,xs,rfl,h,q,k a H (Same.refl _) ?_⟩))
   have e:R6 xs lo hi=xs:=by unfold R6;rw[q.1,q.2,List.drop_zero,Nat.sub_zero,A0W]
   rw[e];exact h
 exact .inr (.inl ⟨a,xs,rfl,h,q,λp hp=>k p _ (Same.upd hp) (SqT.of Af)⟩)
end
end
def jsD (js:List Nat):PyData:=.tuple (js.map λ(j:Nat)=>PyData.int (j:Int))
theorem aq8 (js:List Nat):frz (jsD js)=true:=by unfold jsD;simp only[frz];exact Cu _ (λ_=>by simp[frz]) js
structure Trl (ps:List (Str×Str))(x:Str)(js:List Nat)(y:Str)(os:List Str):Prop where
 len:os.length=js.length
 hd:(os++[y])[0]? = some x
 ed:∀(i j:Nat),js[i]? = some j->∃ a b,(os++[y])[i]? = some a/\(os++[y])[i+1]? = some b/\ps[j]? = some (a,b)
 nd:(os++[y]).Nodup
theorem Trl.nil (ps:List (Str×Str))(x:Str):Trl ps x [] x []:=⟨rfl,rfl,λi j h=>by simp at h,by simp⟩
theorem Trl.snoc {ps:List (Str×Str)}{x y z:Str}{js:List Nat}{os:List Str}{j:Nat}(h:Trl ps x js y os)(O:ps[j]? = some (y,z))(hz:z∉os++[y]):Trl ps x (js++[j]) z (os++[y]):=by
 refine⟨by simp[h.len],?_,λi k q=>?_,?_⟩
 . rw[List.getElem?_append_left (by simp)];exact h.hd
 . by_cases hi:i<js.length
   . rw[A1S hi] at q;obtain⟨a,b,h1,h2,F⟩:=h.ed i k q;have l:=h.len;refine⟨a,b,?_,?_,F⟩
     . rw[List.getElem?_append_left (by simp;omega)];exact h1
     rw[List.getElem?_append_left (by simp;omega)];exact h2
   have J:i=js.length:=by have:=(A00.mp q).1;rw[A06,A14] at this;omega
   subst J;have e:k=j:=by simpa using q.symm
   subst e;have l:=h.len;refine⟨y,z,?_,?_,O⟩
   . rw[List.getElem?_append_left (by simp;omega),<- l];simp
   rw[<- l];simp
 rw[A1G];refine⟨h.nd,by simp,λa ha b hb e=>?_⟩;have:b=z:=by simpa using hb
 subst this;subst e;exact hz ha
theorem Trl.way {ps:List (Str×Str)}:∀ {js:List Nat} {x y:Str} {os:List Str},Trl ps x js y os->x=y\/Way ps x y:=by
 intro js x y os h;have l:=h.len
 suffices g:∀ i,i<=js.length->∀ z,(os++[y])[i]? = some z->z=x\/Way ps x z by
  rcases g js.length (Nat.le_refl _) y (by rw[<- l];simp) with e|e
  . exact .inl e.symm
  exact .inr e
 intro i
 induction i with
 |zero=>intro _ z hz;rw[h.hd] at hz;exact .inl (A13 hz).symm
 |succ i ih=>
   intro hi z hz;obtain⟨j,hj⟩:∃ j,js[i]? = some j:=⟨js[i]'∅,A03 _⟩;obtain⟨a,b,h1,h2,q⟩:=h.ed i j hj;rw[hz] at h2
   cases h2;rcases ih ∅ a h1 with e|e
   . subst e;exact .inr (.one (A04 q))
   exact .inr (e.snoc (A04 q))
theorem Way.more {ps:List (Str×Str)}{p:Str×Str}{x y:Str}(h:Way (ps++[p]) x y):Way ps x y\/((x=p.1\/Way ps x p.1)/\(y=p.2\/Way ps p.2 y)):=by
 induction h with
 |@one a b e=>
   rcases A0A.mp e with e|e
   . exact .inl (.one e)
   have:(a,b)=p:=by simpa using e
   subst this;exact .inr ⟨.inl rfl,.inl rfl⟩
 |@cons a c b e _ ih=>
   rcases A0A.mp e with e|e
   . rcases ih with g|⟨q,F⟩
     . exact .inl (.cons e g)
     refine .inr ⟨.inr ?_,F⟩;rcases q with rfl|q
     . exact .one e
     exact .cons e q
   have:(a,c)=p:=by simpa using e
   subst this;rcases ih with g|⟨q,F⟩
   . exact .inr ⟨.inl rfl,.inr g⟩
   exact .inr ⟨.inl rfl,F⟩
theorem Ux {ps:List (Str×Str)}{p:Str×Str}(h:∀ x,¬ Way ps x x)(h1:¬ p.2=p.1)(h2:¬ Way ps p.2 p.1):∀ x,¬ Way (ps++[p]) x x:=λx g=>by
 rcases g.more with g|⟨F,q⟩
 . exact h x g
 rcases F with rfl|F
 . rcases q with q|q
   . exact h1 q.symm
   exact h2 q
 rcases q with rfl|q
 . exact h2 F
 exact h2 (q.trans F)
structure WyI (ps:List (Str×Str))(x:Str)(ks ws:List Str):Prop where
 nd:ks.Nodup
 has:x∈ks
 way:∀ y∈ks,y=x\/Way ps x y
 line:∀ z∈ws,z∈ks
 shut:∀ z∈ks,z∉ws->∀ y,(z,y)∈ps->y∈ks
 few:ws.length<=ks.length
theorem WyI.le {ps:List (Str×Str)}{x:Str}{ks ws:List Str}(h:WyI ps x ks ws):ks.length<=ps.length+1:=by
 have:=C1 (ys:=x :: ps.map (·.2)) h.nd λy q=>by
  rcases h.way y q with e|e
  . exact e ▸ A0D
  exact A09 _ e.right
 rwa[A0G,A01] at this
structure WyJ (ps:List (Str×Str))(x here:Str)(ks ws gs ms:List Str)(i:Nat):Prop where
 nd:gs.Nodup
 way:∀ y∈gs,y=x\/Way ps x y
 line:∀ z∈ms,z∈gs
 keep:∀ z∈ks,z∈gs
 keepL:∀ z∈ws,z∈ms
 new:∀ z∈gs,z∈ks\/z∈ms
 seen:∀ j<i,∀ y,ps[j]? = some (here,y)->y∈gs
 len:gs.length+ws.length=ks.length+ms.length
theorem WyJ.le {ps:List (Str×Str)}{x here:Str}{ks ws q ms:List Str}{i:Nat}(h:WyJ ps x here ks ws q ms i):q.length<=ps.length+1:=by
 have:=C1 (ys:=x :: ps.map (·.2)) h.nd λy F=>by
  rcases h.way y F with e|e
  . exact e ▸ A0D
  exact A09 _ e.right
 rwa[A0G,A01] at this
theorem WyJ.step {ps:List (Str×Str)}{x here:Str}{ks ws F ms:List Str}{i:Nat}{p:Str×Str}(h:WyJ ps x here ks ws F ms i)(J:here∈F)(hp:ps[i]? = some p)(h1:p.1=here)(h2:p.2∉F):WyJ ps x here ks ws (F++[p.2]) (ms++[p.2]) (i+1):=by
 have hm:(here,p.2)∈ps:=by rw[<- h1];exact A04 hp
 refine⟨?_,λy q=>?_,λz hz=>?_,λz hz=>A0L _ (h.keep z hz),λz hz=>A0L _ (h.keepL z hz),λz hz=>?_,λj U y e=>?_,?_⟩
 . rw[A1G];refine⟨h.nd,by simp,λa ha b hb e=>?_⟩;have:b=p.2:=by simpa using hb
   subst this;subst e;exact h2 ha
 . rcases A0A.mp q with q|q
   . exact h.way y q
   have:y=p.2:=by simpa using q
   subst this;rcases h.way here J with rfl|hw
   . exact .inr (.one hm)
   exact .inr (hw.snoc hm)
 . rcases A0A.mp hz with hz|hz
   . exact A0L _ (h.line z hz)
   exact A12 _ hz
 . rcases A0A.mp hz with hz|hz
   . rcases h.new z hz with e|e
     . exact .inl e
     exact .inr (A0L _ e)
   exact .inr (A12 _ hz)
 . by_cases O:j=i
   . subst O;rw[hp] at e
     cases e;exact List.mem_append_right _ (by simp)
   exact A0L _ (h.seen j ∅ y e)
 rw[A06,A06,A14];have:=h.len;omega
theorem WyJ.skip {ps:List (Str×Str)}{x here:Str}{ks ws q ms:List Str}{i:Nat}{p:Str×Str}(h:WyJ ps x here ks ws q ms i)(hp:ps[i]? = some p)(h1:p.1=here->p.2∈q):WyJ ps x here ks ws q ms (i+1):=by
 refine⟨h.nd,h.way,h.line,h.keep,h.keepL,h.new,λj J y e=>?_,h.len⟩
 by_cases F:j=i
 . subst F;rw[hp] at e
   cases e;exact h1 rfl
 exact h.seen j ∅ y e
theorem WyJ.done {ps:List (Str×Str)}{x here:Str}{ks ws F ms:List Str}(I:WyI ps x ks (here :: ws))(h:WyJ ps x here ks ws F ms ps.length):WyI ps x F ms:=by
 refine⟨h.nd,h.keep x I.has,h.way,h.line,λz hz hm y O=>?_,?_⟩
 . by_cases e:z=here
   . subst e;obtain⟨j,J,U⟩:=A1M O;exact h.seen j J y (by rw[A03 J,U])
   have Y:z∈ks:=by
    rcases h.new z hz with q|q
    . exact q
    exact absurd q hm
   refine h.keep y (I.shut z Y (λq=>?_) y O);rcases A0B.mp q with q|q
   . exact e q
   exact hm (h.keepL z q)
 have:=h.len;have:=I.few;rw[A0G] at this;omega
theorem WyI.all {ps:List (Str×Str)}{x:Str}{ks:List Str}(h:WyI ps x ks []){y:Str}(g:Way ps x y):y∈ks:=
 Way.shut (S:=λy=>y∈ks) (λy q=>h.shut x h.has (by simp) y q) (λz y hz q=>h.shut z hz (by simp) y q) g
theorem av4 {ns:List Str}{as:List Addr}{z:Str}{a:Addr}(hz:z∉ns)(h:ns.length=as.length):Ge (Gj ns as) (Sum.inr z:Key) (.ref a)=Gj (ns++[z]) (as++[a]):=by
 rw[Nj h];unfold Ge;rw[A0P];rw[A1E];rintro⟨kv,J,e⟩;obtain⟨p,hp,rfl⟩:=A0I.mp J;have q:(Sum.inr p.1:Key)=Sum.inr z:=A36 e;have F:p.1=z:=by injection q
 exact hz (F ▸ (A43 hp).1)
theorem Gc:∀ {ns:List Str} {as:List Addr} {z:Str},z∉ns->Ck (Gj ns as) (Sum.inr z:Key)=none
 | [],_,_,_=>rfl
 |n :: ns,[],_,_=>rfl
 |n :: ns,a :: as,z,h=>by
   show Ck ((Sum.inr n,V.ref a) :: Gj ns as) _=_;rw[Bc (by intro q;injection q with q;exact h (q ▸ A0D))]
   exact Gc λq=>h (A09 _ q)
section
variable {K:W.Frag}{σ:St}{H:Hp}{Q:VK}{td ty:TE}
def aq4 (ty:TE)(σ:St)(x:V)(H1:Hp)(Q:VK):Prop:=∃ a,x = .ref a/\IsD H1 a/\ty σ H1 λy H2=>∃ o,DGet H2 a y o/\Q (o.getD .non) H2
theorem i_dget1 (k:td σ H λx H1=>aq4 ty σ x H1 Q):ap9 td ty σ H Q:=k
theorem aM1 {a:Addr}{kvs:List (Key×V)}(h:H a=some (.dK kvs))(k:ty σ H λy H2=>∃ o,DGet H2 a y o/\Q (o.getD .non) H2):aq4 ty σ (.ref a) H Q:=⟨a,rfl,.inl ⟨kvs,.inl h⟩,k⟩
theorem aF4 {a:Addr}{kvs:List (Key×V)}{z:Str}(h:H a=some (.dK kvs))(k:Q ((Ck kvs (Sum.inr z:Key)).getD .non) H):∃ o,DGet H a (.str z) o/\Q (o.getD .non) H:=⟨_,DGet.k (k:=Sum.inr z) h,k⟩
theorem am6 {r:Addr}{ks:List Str}{F:List Addr}{z:Str}(h:H r=some (.dK (Gj ks F)))(J:F.length=ks.length)(k:Q (.bl (!decide (z∈ks))) H):Z7 K true (.str z) (.ref r) H Q:=by
 refine .inr (.inr (.inl ⟨r,Ck (Gj ks F) (Sum.inr z:Key),rfl,DGet.k (k:=Sum.inr z) h,?_⟩))
 by_cases e:z∈ks
 . obtain⟨i,hi,U⟩:=A1M e
   have:(Ck (Gj ks F) (Sum.inr z:Key)).isSome=true:=by
    suffices g:∀(ks:List Str) (F:List Addr),F.length=ks.length->z∈ks->(Ck (Gj ks F) (Sum.inr z:Key)).isSome=true from g ks F J e
    intro ks
    induction ks with
    |nil=>intro F _ h;cases h
    |cons c ks ih=>
      intro F J hm
      cases F with
      |nil=>cases J
      |cons t F=>
        by_cases O:c=z
        . subst O;show(Ck ((Sum.inr c,V.ref t) :: Gj ks F) _).isSome=true;rw[Bh rfl];rfl
        show(Ck ((Sum.inr c,V.ref t) :: Gj ks F) _).isSome=true;rw[Bc (by intro q;injection q with q;exact O q)]
        refine ih F (by simpa using J) ?_;rcases A0B.mp hm with q|q
        . exact absurd q.symm O
        exact q
   rw[this];simpa[e] using k
 rw[Gc e];simpa[e] using k
theorem i_andV {ta tb:TE}(k:ta σ H λx H1=>∃ c,x = .bl c/\if c=true then tb σ H1 Q else Q (.bl false) H1):aG9 ta tb σ H Q:=k
end
theorem Same.rd {H H':Hp}(e:Same H H'){a:Addr}{u:HO}(h:Rd H a u):Rd H' a u:=by
 rcases h with h|⟨o,h⟩
 . exact .inl (e _ _ h)
 exact .inr ⟨o,e _ _ h⟩
def Keep (as:List Addr)(H H':Hp):Prop:=(∀ b o,b∉as->H b=some o->H' b=some o)/\∀ a∈as,∀ u,Rd H a u->Rd H' a u
theorem Keep.refl (as:List Addr)(H:Hp):Keep as H H:=⟨λ_ _ _ h=>h,λ_ _ _ h=>h⟩
theorem Keep.trans {as:List Addr}{H H1 H2:Hp}(a:Keep as H H1)(b:Keep as H1 H2):Keep as H H2:=⟨λc o n h=>b.1 c o n (a.1 c o n h),λc q u h=>b.2 c q u (a.2 c q u h)⟩
theorem Same.keep {H H':Hp}(e:Same H H')(as:List Addr):Keep as H H':=⟨λb o _ h=>e b o h,λa _ u h=>e.rd h⟩
theorem Keep.freeze {as:List Addr}{H:Hp}{a:Addr}{u:HO}{o:Obj}(ha:a∈as)(h:H a=some u)(hu:∀ o' O,u ≠ .frz o' O):Keep as H (upd H a (.frz o u)):=by
 refine⟨λb q hb e=>?_,λb hb w e=>?_⟩
 . have J:b≠a:=λz=>by subst z;exact hb ha
   rw[Au J];exact e
 by_cases F:b=a
 . subst F;rcases e with e|⟨o',e⟩
   . rw[h] at e
     cases e;exact .inr ⟨o,Af⟩
   rw[h] at e
   cases e;exact absurd rfl (hu _ _)
 rcases e with e|⟨o',e⟩
 . exact .inl (by rw[Au F];exact e)
 exact .inr ⟨o',by rw[Au F];exact e⟩
theorem Keep.rd {as:List Addr}{H H':Hp}(k:Keep as H H'){a:Addr}{u:HO}(h:Rd H a u):Rd H' a u:=by
 by_cases ha:a∈as
 . exact k.2 a ha u h
 rcases h with h|⟨o,h⟩
 . exact .inl (k.1 _ _ ha h)
 exact .inr ⟨o,k.1 _ _ ha h⟩
theorem Keep.fz {as:List Addr}{H H':Hp}(k:Keep as H H'):Fz H H':=λa xs h=>k.rd h
theorem Same.then {as:List Addr}{H H1 H2:Hp}(e:Same H H1)(ha:∀ a∈as,H a=none)(k:Keep as H1 H2):Same H H2:=λb o h=>k.1 b o (λhb=>by rw[ha b hb] at h;cases h) (e b o h)
theorem Keep.lst {as:List Addr}{H H1 H2:Hp}{p:Addr}(k:Keep as H H1)(e:ExtBut p H1 H2)(hp:H p=none)(F:p∉as):Keep as H H2:=by
 refine⟨λb o hb h=>e b o (λz=>?_) (k.1 b o hb h),λa ha u h=>?_⟩
 . subst z;rw[hp] at h
   cases h
 have q:a≠p:=λz=>F (z ▸ ha);rcases k.2 a ha u h with g|⟨o,g⟩
 . exact .inl (e _ _ q g)
 exact .inr ⟨o,e _ _ q g⟩
structure TabR (H:Hp)(r:Addr)(ns:List Str)(as:List Addr)(R:Str->Str->Prop):Prop where
 len:as.length=ns.length
 top:Rd H r (.dK (Gj ns as))
 row:∀(i:Nat) (z:Str) (a:Addr),ns[i]? = some z->as[i]? = some a->∃ ks:List Str,Rd H a (.dK (Hh ks))/\ks.Nodup/\(∀ y∈ks,y∈ns)/\∀ y,y∈ks↔R z y
theorem Tab.toR {H:Hp}{r:Addr}{ns:List Str}{as:List Addr}{R:Str->Str->Prop}(h:Tab H r ns as R):TabR H r ns as R:=
 ⟨h.len,.inl h.top,λi z a hz ha=>let ⟨ks,h1,h2⟩:=h.row i z a hz ha;⟨ks,.inl h1,h2⟩⟩
theorem TabR.keep {bs:List Addr}{H H':Hp}{r:Addr}{ns:List Str}{as:List Addr}{R:Str->Str->Prop}(h:TabR H r ns as R)(k:Keep bs H H'):TabR H' r ns as R:=
 ⟨h.len,k.rd h.top,λi z a hz ha=>let ⟨ks,h1,h2⟩:=h.row i z a hz ha;⟨ks,k.rd h1,h2⟩⟩
theorem TabR.same {H H':Hp}{r:Addr}{ns:List Str}{as:List Addr}{R:Str->Str->Prop}(h:TabR H r ns as R)(e:Same H H'):TabR H' r ns as R:=h.keep (e.keep [])
theorem TabR.at {H:Hp}{r:Addr}{ns:List Str}{as:List Addr}{R:Str->Str->Prop}(h:TabR H r ns as R){x:Str}(F:x∈ns):∃(i:Nat) (a:Addr),ns[i]? = some x/\as[i]? = some a:=by
 obtain⟨i,hi,e⟩:=A1M F;have q:i<as.length:=by rw[h.len];exact hi
 exact⟨i,as[i],by rw[A03 hi,e],A03 q⟩
section
variable {K:W.Frag}{σ:St}{H:Hp}{Q:VK}{r:Addr}{ns:List Str}{as:List Addr}{R:Str->Str->Prop}
theorem aH2 {a:Addr}{kvs:List (Key×V)}{z:Str}{v:V}(h:Rd H a (.dK kvs))(e:Ck kvs (Sum.inr z:Key)=some v)(k:Q v H):Qm K (.ref a) (.str z) H Q:=.inr ⟨a,v,rfl,.inl ⟨kvs,Sum.inr z,h,rfl,e.symm⟩,k⟩
theorem Mh {x:Str}{i:Nat}{a:Addr}(h:TabR H r ns as R)(hn:ns.Nodup)(q:ns[i]? = some x)(ha:as[i]? = some a)(k:Q (.ref a) H):Qm K (.ref r) (.str x) H Q:=aH2 h.top (Db hn q ha) k
theorem Y3 {a:Addr}{ks:List Str}{y:Str}(h:Rd H a (.dK (Hh ks)))(k:Q (.bl (decide (y∈ks))) H):Z7 K false (.str y) (.ref a) H Q:=by
 refine .inr (.inr (.inl ⟨a,Ck (Hh ks) (Sum.inr y:Key),rfl,.inl ⟨_,Sum.inr y,h,rfl,rfl⟩,?_⟩));rw[Ni]
 by_cases e:y∈ks
 . simpa[e] using k
 simpa[e] using k
theorem Uw {a:Addr}{ks:List Str}{y:Str}(h:Rd H a (.dK (Hh ks)))(k:Q (.bl (!decide (y∈ks))) H):Z7 K true (.str y) (.ref a) H Q:=by
 refine .inr (.inr (.inl ⟨a,Ck (Hh ks) (Sum.inr y:Key),rfl,.inl ⟨_,Sum.inr y,h,rfl,rfl⟩,?_⟩));rw[Ni]
 by_cases e:y∈ks
 . simpa[e] using k
 simpa[e] using k
theorem Ri {as:List Addr}{a:Addr}{kvs:List (Key×V)}{R:It->Hp->Prop}(h:Rd H a (.dK kvs))(ha:a∈as)(k:∀ o H',Keep as H H'->H' a=some (.frz o (.dK kvs))->R (Itd a o kvs) H'):G4 K (.ref a) H R:=by
 rcases h with h|⟨o,h⟩
 . exact aS4 h λo=>k o _ (Keep.freeze ha h λ_ _ z=>by cases z) Af
 exact aR9 h (k o H (Keep.refl _ _) h)
end
def clR (ns:List Str)(ps:List (Str×Str))(x:Str):List (Str×Str):=(ns.filter λy=>Ab ps x y).map λy=>(x,y)
def clP (ns:List Str)(ps:List (Str×Str)):List (Str×Str):=ns.flatMap (clR ns ps)
def thB (ns:List Str)(ps:List (Str×Str))(p:Str×Str):Bool:=ns.any λz=>Ab ps p.1 z&&Ab ps z p.2
def baP (ns:List Str)(ps:List (Str×Str)):List (Str×Str):=(clP ns ps).filter λp=>!thB ns ps p
def unB (ps:List (Str×Str))(x y:Str):Bool:=!Ab ps x y && !Ab ps y x
def unR (ns:List Str)(ps:List (Str×Str))(i:Nat):List (Str×Str):=((ns.drop (i+1)).filter λy=>unB ps (ns.getD i "") y).map λy=>(ns.getD i "",y)
def unK (ns:List Str)(ps:List (Str×Str))(k:Nat):List (Str×Str):=(List.range k).flatMap (unR ns ps)
def unP (ns:List Str)(ps:List (Str×Str)):List (Str×Str):=unK ns ps ns.length
theorem mem_clR {ns:List Str}{ps:List (Str×Str)}{x:Str}{p:Str×Str}:p∈clR ns ps x↔p.1=x/\p.2∈ns/\Way ps x p.2:=by
 unfold clR;rw[A0I];constructor
 . rintro⟨y,q,rfl⟩;rw[A0N,wayB_iff] at q;exact⟨rfl,q⟩
 rintro⟨h1,h2⟩;refine⟨p.2,?_,by rw[<- h1]⟩;rw[A0N,wayB_iff];exact h2
theorem mem_clP {ns:List Str}{ps:List (Str×Str)}{p:Str×Str}:p∈clP ns ps↔p.1∈ns/\p.2∈ns/\Way ps p.1 p.2:=by
 unfold clP;rw[A2G];constructor
 . rintro⟨x,q,hp⟩;obtain⟨rfl,h⟩:=mem_clR.mp hp;exact⟨q,h⟩
 rintro⟨h1,h⟩;exact⟨p.1,h1,mem_clR.mpr ⟨rfl,h⟩⟩
theorem aA3 (ns:List Str)(ps:List (Str×Str))(x:Str):(clR ns ps x).length<=ns.length:=by unfold clR;rw [A01];exact A0U _ _
theorem Sy {α β:Type}(f:α->List β)(n:Nat)(h:∀ a,(f a).length<=n):∀ l:List α,(l.flatMap f).length<=l.length*n
 | []=>by simp
 |a :: l=>by rw[A1Q,A06,A0G,A2D];have:=Sy f n h l;have:=h a;omega
theorem aw0 (ns:List Str)(ps:List (Str×Str)):(clP ns ps).length<=ns.length*ns.length:=Sy _ _ (aA3 ns ps) ns
theorem aD7 (ns:List Str)(ps:List (Str×Str))(i:Nat):(unR ns ps i).length<=ns.length:=by unfold unR;rw[A01];exact A0O (A0U _ _) (by rw[A1C];omega)
theorem aA6 (ns:List Str)(ps:List (Str×Str))(k:Nat):(unK ns ps k).length<=k*ns.length:=by have:=Sy (unR ns ps) ns.length (aD7 ns ps) (List.range k);rwa[A1V] at this
theorem al3 (ns:List Str)(ps:List (Str×Str))(k:Nat):unK ns ps (k+1)=unK ns ps k++unR ns ps k:=by unfold unK;rw[List.range_succ,A2E];simp
theorem aD0 {ns:List Str}{ps:List (Str×Str)}{k:Nat}{p:Str×Str}(F:k<=ns.length)(h:p∈unK ns ps k):p.1∈ns/\p.2∈ns/\unB ps p.1 p.2=true:=by unfold unK at h;rw[A2G] at h;obtain⟨i,hi,h⟩:=h;have hi:=A23.mp hi;unfold unR at h;obtain⟨y,q,rfl⟩:=A0I.mp h;rw[A0N] at q;refine⟨?_,A3B q.1,q.2⟩;exact A04 (Hd (i:=i) ∅)
theorem T3 {ns:List Str}{ps:List (Str×Str)}{p:Str×Str}(h:p∈unP ns ps):p.1∈ns/\p.2∈ns/\unB ps p.1 p.2=true:=aD0 (A08 _) h
theorem ay7 {ns ks:List Str}{ps:List (Str×Str)}{p:Str×Str}(h1:∀ y∈ks,y∈ns)(h2:∀ y,y∈ks↔Way ps p.1 y):((ks.map λz=>Ab ps z p.2).any id)=thB ns ps p:=by
 unfold thB;rw[A2B,A1E,A1E];constructor
 . rintro⟨b,hb,e⟩;obtain⟨z,hz,rfl⟩:=A0I.mp hb;exact⟨z,h1 z hz,by rw[A15];exact⟨wayB_iff.mpr ((h2 z).mp hz),e⟩⟩
 rintro⟨z,hz,e⟩;rw[A15] at e;exact⟨_,A0I.mpr ⟨z,(h2 z).mpr (wayB_iff.mp e.1),rfl⟩,e.2⟩
section
variable {K:W.Frag}{H:Hp}{σ:St}
theorem ag4 {α:Type}{J:It}{xs:List V}{G:Hp->Prop}{g:TG}{tt:TT}{te:TE}{Q:VK}{k:Nat}{js:List Nat}(hw:Hr J xs G)(bs:List Addr)(hb:∀ a∈bs,H a≠none)(as:List α)(hl:as.length=xs.length)(t:α->Bool)(f:α->PyData)(hf:∀ a,frz (f a)=true)(hz:xs.length<=1000000)(hG:∀ H',Keep bs H H'->G H')
  (hs:∀(i:Nat) a v H1 (R:VK) (R':Hp->Prop),as[i]? = some a->xs[i]? = some v->Keep bs H H1->(t a=true->∀ y H2,Keep bs H1 H2->Is K H2 (f a) y->R y H2)->(t a=false->∀ H2,Keep bs H1 H2->R' H2) ->
   g v (List.replicate k none++Py σ js) H1 fun σ2 H2=>tt σ2 H2 λb Y=>if b=true then te σ2 Y R else R' Y)
  (hd:∀ p ys H',H p=none->Keep bs H H'->H' p=some (.lst ys)->IsL K H' ((as.filter t).map f) ys->Q (.ref p) H'):Om k js g tt te σ J H Q:=by
 have U:∀ p,H p=none->p∉bs:=λp hp hm=>hb p hm hp;refine Ik hw (λp i acc H1=>Keep bs H H1/\IsL K H1 (((as.take i).filter t).map f) acc) (λp H' hp e h=>⟨e.keep bs,by simp only[List.take_zero,List.filter_nil,List.map_nil];exact .nil⟩) (λp i acc H1 h=>hG H1 h.1) (λp i x acc H1 hp hx hi O ha ⟨e,F⟩=>?_) λp acc H1 hp ha O ⟨e,F⟩=>?_
 . have a0:i<as.length:=by omega
   obtain⟨a,hai⟩:∃ a,as[i]? = some a:=⟨as[i],A03 a0⟩;have ht:as.take (i+1)=as.take i++[a]:=by rw[A0R,hai];rfl
   refine hs i a x H1 _ _ hai hx e (λh y H2 q hy=>?_) λh H2 q=>?_
   . have h2:=q.1 _ _ (U p hp) ha;refine Lg hz hi O h2 λH' Z h'=>⟨(e.trans q).lst Z hp (U p hp),?_⟩;rw[ht,A1X,A0T];have fz:=Z.fzL h2;refine IsL.append (IsL.fz (q.fz.trans fz) _ _ (Cu f hf _) F) ?_;simp only[List.filter_cons,h,if_true,List.filter_nil,List.map_cons,List.map_nil];exact .one (Is.fz fz _ _ (hf a) hy)
   refine Ru hi O (q.1 _ _ (U p hp) ha) ⟨e.trans q,?_⟩;rw[ht,A1X,A0T];simp only[List.filter_cons,h,Bool.false_eq_true,if_false,List.filter_nil,List.map_nil,List.append_nil];exact IsL.fz q.fz _ _ (Cu f hf _) F
 refine hd p acc H1 hp e ha ?_;rw[<- hl,A0W] at F;exact F
theorem an5 {ps:List (Str×Str)}{g:TG}{tt:TT}{te:TE}{Q:VK}{k:Nat}{js:List Nat}{x:V}(h:Is K H (psD ps) x)(bs:List Addr)(hb:∀ a∈bs,H a≠none)(t:Str×Str->Bool)(f:Str×Str->PyData)(hf:∀ a,frz (f a)=true)(hz:ps.length<=1000000)
  (hs:∀(i:Nat) a v H1 (R:VK) (R':Hp->Prop),ps[i]? = some a->Is K H1 (prD a) v->Keep bs H H1->(t a=true->∀ y H2,Keep bs H1 H2->Is K H2 (f a) y->R y H2)->(t a=false->∀ H2,Keep bs H1 H2->R' H2) ->
   g v (List.replicate k none++Py σ js) H1 fun σ2 H2=>tt σ2 H2 λb q=>if b=true then te σ2 q R else R' q)
  (hd:∀ p ys H',H p=none->Keep bs H H'->H' p=some (.lst ys)->IsL K H' ((ps.filter t).map f) ys->Q (.ref p) H'):G4 K x H λJ H1=>Om k js g tt te σ J H1 Q:=by
 obtain⟨a,xs,rfl,U,O⟩:=Is.tup h;have hl:ps.length=xs.length:=by rw[<- IsL.length O,A01]
 refine X9 U (ag4 (K:=K) (Ir (xs:=xs)) bs hb ps hl t f hf ∅ (λH' e=>e.fz.seq U) (λi z v H1 R R' hz hv e Z a0=>?_) hd);obtain⟨d,F,Y⟩:=IsL.get (IsL.fz e.fz _ _ (C0 ps) O) hv;rw[A07,hz] at F
 cases F;exact hs i z v H1 R R' hz Y e Z a0
theorem Tab.some {H:Hp}{r:Addr}{ns:List Str}{as:List Addr}{R:Str->Str->Prop}(h:Tab H r ns as R):∀ a∈as,H a≠none:=λa ha e=>by
 obtain⟨i,hi,F⟩:=A1M ha;have q:i<ns.length:=by rw[<- h.len];exact hi
 obtain⟨ks,h1,_⟩:=h.row i ns[i] a (A03 q) (by rw[A03 hi,F]);rw[e] at h1
 cases h1
theorem al1 {ns:List Str}{i:Nat}(h:i<=ns.length):R6 (ns.map V.str) (some ((i:Nat):Int)) none=(ns.drop i).map V.str:=by rw[Kw ∅ (by rw[A01];omega),A3Z];rfl
end
section
variable {prog:Program}{w:World}{A:Around}{E:Value->Shared->Prop}{s:Shared}
end
section
variable {X:Cx}{K:W.Frag}
end
section
variable {K:W.Frag}{σ:St}{H:Hp}
end
theorem W0 {α:Type}{p:α->Bool}:∀ {l:List α} {x:α},x∈l->p x=false->(l.filter p).length<l.length
 |a :: l,x,hx,h=>by
   rcases A0B.mp hx with rfl|hx
   . rw[A1A,h];exact Nat.lt_succ_of_le (A0U _ _)
   rw[A1A];have:=W0 hx h
   split
   . rw[A0G,A0G];omega
   rw[A0G];omega
theorem Nf (Ls:List (List Str)):frzL (Ls.map nmD)=true:=Cu _ L8 Ls
section
variable {K:W.Frag}{H:Hp}{Q:VK}
end
section
variable {P:Program}{w:World}{κ:Type}[DecidableEq κ]{knd:KeyKind P w κ}{A:Around}{E:Value->Shared->Prop}{s:Shared}
end
section
variable {X:Cx}{pins:List (Addr×Obj)}{σ:St}{H:Hp}{s:Shared}{A:Around}
end
section
variable {prog:Program}{w:World}{A:Around}{E:Value->Shared->Prop}{s:Shared}
end
section
variable {X:Cx}{K:W.Frag}
end
theorem Way.mem {ns:List Str}{ps:List (Str×Str)}(hm:∀ p∈ps,p.1∈ns/\p.2∈ns){x y:Str}(h:Way ps x y):x∈ns/\y∈ns:=by obtain⟨p,hp,e⟩:=A0I.mp h.left;obtain⟨q,J,F⟩:=A0I.mp h.right;exact⟨e ▸ (hm p hp).1,F ▸ (hm q J).2⟩
theorem aI6 {ns:List Str}{ps:List (Str×Str)}(hm:∀ p∈ps,p.1∈ns/\p.2∈ns){x y:Str}:Way (clP ns ps) x y↔Way ps x y:=by
 constructor
 . intro h
   induction h with
   |one e=>exact(mem_clP.mp e).2.2
   |cons e _ ih=>exact(mem_clP.mp e).2.2.trans ih
 intro h;have:=h.mem hm;exact .one (mem_clP.mpr ⟨this.1,this.2,h⟩)
theorem av1 {ns:List Str}{ps:List (Str×Str)}{p:Str×Str}:thB ns ps p=true↔∃ z∈ns,Way ps p.1 z/\Way ps z p.2:=by
 unfold thB;rw[A1E];constructor
 . rintro⟨z,hz,e⟩;rw[A15] at e;exact⟨z,hz,wayB_iff.mp e.1,wayB_iff.mp e.2⟩
 rintro⟨z,hz,q,F⟩;exact⟨z,hz,by rw[A15];exact⟨wayB_iff.mpr q,wayB_iff.mpr F⟩⟩
theorem mem_baP {ns:List Str}{ps:List (Str×Str)}{p:Str×Str}:p∈baP ns ps↔p∈clP ns ps/\¬ ∃ z∈ns,Way ps p.1 z/\Way ps z p.2:=by unfold baP;rw[A0N,Bool.not_eq_true',<- Bool.not_eq_true,av1]
theorem Ql {α:Type}{p q:α->Bool}{l:List α}(h:∀ a∈l,p a=true->q a=true){x:α}(F:x∈l)(h1:q x=true)(h2:p x=false):(l.filter p).length<(l.filter q).length:=by
 have e:l.filter p=(l.filter q).filter p:=by
  rw[A4B];refine A1J λa ha=>?_
  cases hp:p a with
  |false=>rfl
  |true=>rw[h a ha hp];rfl
 rw[e];exact W0 (A0N.mpr ⟨F,h1⟩) h2
theorem as7 {ns:List Str}{ps:List (Str×Str)}(hm:∀ p∈ps,p.1∈ns/\p.2∈ns)(irr:∀ x,¬ Way ps x x){x y:Str}:Way (baP ns ps) x y↔Way ps x y:=by
 constructor
 . exact λh=>(aI6 hm).mp (h.mono λp hp=>(mem_baP.mp hp).1)
 suffices g:∀ n x y,(ns.filter λz=>Ab ps x z&&Ab ps z y).length<=n->Way ps x y->Way (baP ns ps) x y from λh=>g _ x y (A08 _) h
 intro n
 induction n with
 |zero=>
   intro x y hn h;have F:=h.mem hm;refine .one (mem_baP.mpr ⟨mem_clP.mpr ⟨F.1,F.2,h⟩,?_⟩);rintro⟨z,hz,h1,h2⟩;have:z∈ns.filter λz=>Ab ps x z&&Ab ps z y:=A0N.mpr ⟨hz,by rw[A15];exact⟨wayB_iff.mpr h1,wayB_iff.mpr h2⟩⟩;rw[A1B.mp (Nat.le_zero.mp hn)] at this
   cases this
 |succ n ih=>
   intro x y hn h;have F:=h.mem hm
   by_cases O:∃ z∈ns,Way ps x z/\Way ps z y
   . obtain⟨z,hz,h1,h2⟩:=O;have J:(Ab ps x z&&Ab ps z y)=true:=by rw[A15];exact⟨wayB_iff.mpr h1,wayB_iff.mpr h2⟩
     have U:=Ql (p:=λu=>Ab ps x u&&Ab ps u z) (q:=λu=>Ab ps x u&&Ab ps u y) (l:=ns) (λu _ hu=>by rw[A15] at hu ⊢;exact⟨hu.1,wayB_iff.mpr ((wayB_iff.mp hu.2).trans h2)⟩) hz J (by rw[Jq (irr z),Bool.and_false])
     have Y:=Ql (p:=λu=>Ab ps z u&&Ab ps u y) (q:=λu=>Ab ps x u&&Ab ps u y) (l:=ns) (λu _ hu=>by rw[A15] at hu ⊢;exact⟨wayB_iff.mpr (h1.trans (wayB_iff.mp hu.1)),hu.2⟩) hz J (by rw[Jq (irr z),Bool.false_and])
     exact(ih x z ∅ h1).trans (ih z y ∅ h2)
   exact .one (mem_baP.mpr ⟨mem_clP.mpr ⟨F.1,F.2,h⟩,O⟩)
theorem ac1 (ps:List (Str×Str))(a:Str)(m:List Str):∀ t:List Str,(t.flatMap (clR (a :: m) ps)).length=(t.flatMap (clR m ps)).length+(t.filter λx=>Ab ps x a).length
 | []=>by simp
 |x :: t=>by
   rw[A1Q,A1Q,A06,A06,ac1 ps a m t,A1A]
   have e:(clR (a :: m) ps x).length=(clR m ps x).length+(if Ab ps x a=true then 1 else 0):=by
    unfold clR;rw[A01,A01,A1A]
    split
    . rw[A0G]
    rfl
   rw[e]
   split
   . rw[A0G];omega
   omega
theorem Vs {ps:List (Str×Str)}(irr:∀ x,¬ Way ps x x)(a:Str):∀ t:List Str,(t.filter λy=>Ab ps a y).length+(t.filter λy=>Ab ps y a).length+(t.filter λy=>unB ps a y).length=t.length
 | []=>rfl
 |y :: t=>by
   have q:=Vs irr a t;rw[A1A,A1A,A1A,A0G];unfold unB at q ⊢
   cases h1:Ab ps a y<;>cases h2:Ab ps y a
   . simp;omega
   . simp;omega
   . simp;omega
   exact absurd ((wayB_iff.mp h1).trans (wayB_iff.mp h2)) (irr a)
theorem Im (ps:List (Str×Str))(a:Str)(t:List Str):(unP (a :: t) ps).length=(t.filter λy=>unB ps a y).length+(unP t ps).length:=by
 have e:∀ i,unR (a :: t) ps (i+1)=unR t ps i:=λi=>by unfold unR;rw[List.getD_cons_succ,List.drop_succ_cons]
 unfold unP unK;rw[A0G,List.range_succ_eq_map,A1Q,A06,List.flatMap_map]
 have q:(unR (a :: t) ps 0).length=(t.filter λy=>unB ps a y).length:=by unfold unR;rw[A01];rfl
 rw[q];have F:(λi=>unR (a :: t) ps (Nat.succ i))=unR t ps:=funext e;rw[show((List.range t.length).flatMap λi=>unR (a :: t) ps i.succ)=(List.range t.length).flatMap (unR t ps) from by rw[F]]
theorem Xg {ps:List (Str×Str)}(irr:∀ x,¬ Way ps x x):∀ l:List Str,2*(((l.flatMap (clR l ps)).length:Int)+((unP l ps).length:Int))=(l.length:Int)*((l.length:Int)-1)
 | []=>by rfl
 |a :: t=>by
   have F:=Xg irr t;have J:=Vs irr a t;rw[A1Q,A06,ac1,Im]
   have e:(clR (a :: t) ps a).length=(t.filter λy=>Ab ps a y).length:=by unfold clR;rw[A01,A1A,Jq (irr a)];rfl
   rw[e,A0G]
   have q:(((t.length+1:Nat):Int))*((((t.length+1:Nat):Int))-1)=(t.length:Int)*((t.length:Int)-1)+2*(t.length:Int):=by rw[A45,show((1:Nat):Int)=1 from rfl,Int.add_sub_cancel,Int.add_mul,Int.mul_sub];omega
   rw[q,<- F];omega
theorem Wb {ns:List Str}{ps:List (Str×Str)}(irr:∀ x,¬ Way ps x x):2*(((clP ns ps).length:Int)+((unP ns ps).length:Int))=(ns.length:Int)*((ns.length:Int)-1):=Xg irr ns
theorem HalfW.ba {ns:List Str}{ps:List (Str×Str)}(h:HalfW ns ps)(q:(baP ns ps).length<=1000):HalfW ns (baP ns ps):=
 ⟨h.nd,λp hp=>let ⟨a,b,_⟩:=mem_clP.mp (mem_baP.mp hp).1;⟨a,b⟩,λx g=>h.irr x ((as7 h.mem h.irr).mp g),h.few,q⟩
section
variable {P:Program}{w:World}{A:Around}{R:Result->Shared->Prop}{it:Addr}{fp wr:List Addr}{G:Array GenState->Array GenState->Prop}{n:Nat}{PV:Nat->Value->Prop}{St:Nat->Shared->Prop}
end
section
variable {prog:Program}{w:World}{A:Around}{E:Value->Shared->Prop}{s:Shared}
set_option maxHeartbeats 3200000 in
end
section
variable {X:Cx}{K:W.Frag}
end
section
variable {K:W.Frag} {H:Hp} {Q:VK}
end
theorem Go (ns:List Int):∀ j ≤ ns.length,preSum (λi=>ns.getD i 0) j=(ns.take j).sum
 |0,_=>by simp[preSum]
 |j+1,h=>by rw[preSum,Go ns j ∅,A0R,Hd (y:=0) (by omega:j<ns.length)];simp
theorem Pk:∀ {ns:List Int},(∀ n∈ns,0<=n/\n<=1000000000000)->0<=ns.sum/\ns.sum<=1000000000000*(ns.length:Int)
 | [],_=>by simp
 |n :: ns,h=>by have h1:=h n (by simp);have h2:=Pk λm hm=>h m (A09 _ hm);rw[A1F,A0G];omega
section
variable {X:Cx}{K:W.Frag}
def aS7 (K:W.Frag):List V->Hp->VK->Prop:=λxs H Q=>∃(a:Addr) (ns:List Int),xs=[.ref a]/\(SqL K H a (ns.map V.int)\/SqT K H a (ns.map V.int))/\(∀ n∈ns,0<=n/\n<=1000000000000)/\ns.length<=1000000/\Q (.int ns.sum) H
theorem ap6 {ns:List Int}{q:List Value}(r:Vals (ns.map V.int) q){i:Nat}{v:Value}(h:q.toArray[i]? = some v):∃ t,v = .int (ns.getD i 0) t:=by
 rw[A33] at h;have F:=r.length;rw[A01] at F
 have hi:i<ns.length:=by have:=(A00.mp h).1;omega
 obtain⟨u,hu,J⟩:=r.get (i:=i) (x:=.int (ns.getD i 0)) (by rw[A07,Hd (y:=0) hi];rfl);rw[h] at hu
 cases hu;exact J
theorem ad4 (hc:X.calm=true):CallR X (.builtin "sum") (aS7 X.K):=by
 intro pins s σ H xs us Q I r h;obtain⟨a,ns,rfl,J,hb,hz,q⟩:=h;obtain⟨u,rfl,ru⟩:=J4 r
 cases ru
 have fits:∀ j,j<ns.length->InLong (ns.getD j 0)/\InLong (preSum (λi=>ns.getD i 0) (j+1)):=λj hj=>by have h1:=hb _ (A04 (Hd (y:=0) hj));have h2:=Pk (ns:=ns.take (j+1)) λn hn=>hb n (A2N hn);rw[Go ns (j+1) hj];rw[A10] at h2;unfold InLong;omega
 have last:preSum (λi=>ns.getD i 0) ns.length=ns.sum:=by rw[Go ns _ (A08 _),A0W]
 refine call_sum_walk ?_;rcases J with J|J
 . obtain⟨Y,Z,pl,_⟩:=I.list J;have O:Y.toArray.size=ns.length:=by rw[A0Q,<- Z.length,A01]
   have U:a<s.heap.objs.size:=let ⟨_,e,_⟩:=pl.isList;A0F e;refine A3T pl.isList ?_;refine⟨_,_,_,_,_,_,λi=>ns.getD i 0,rfl,Walks.list (by simpa using I.ok.hd hc) _ a (Nat.ne_of_lt U) Y.toArray,⟨⟨_,Heap.get?_push_size _ rfl,rfl,rfl⟩,pl.isList.push _⟩,λb F=>?_,λi v hv=>ap6 Z hv,by rw[O];exact fits,λh' tk t' hk=>?_⟩
   . rw[A22];simp only[List.mem_cons,List.not_mem_nil,or_false] at F;rcases F with rfl|rfl
     . exact A2V _
     exact A2O U
   refine⟨.int ns.sum,H,I.kept (t':=tk) λb o e=>hk b o (λz=>?_) (A02 _ e),⟨t',by rw[O,last]⟩,q⟩;have:b=s.heap.objs.size:=by simpa using z
   subst this;exact absurd (A0F e) (A1O _)
 obtain⟨Y,Z,pl,_⟩:=I.tuple J;have O:Y.toArray.size=ns.length:=by rw[A0Q,<- Z.length,A01]
 have U:a<s.heap.objs.size:=let ⟨_,e,_⟩:=pl;A0F e;refine A3M pl ?_;refine⟨_,_,_,_,_,_,λi=>ns.getD i 0,rfl,Walks.tuple (by simpa using I.ok.hd hc) _ a (Nat.ne_of_lt U) Y.toArray,⟨⟨_,Heap.get?_push_size _ rfl,rfl,rfl⟩,Heap.IsTuple.push pl _⟩,λb F=>?_,λi v hv=>ap6 Z hv,by rw[O];exact fits,λh' tk t' hk=>?_⟩
 . rw[A22];simp only[List.mem_cons,List.not_mem_nil,or_false] at F;rcases F with rfl|rfl
   . exact A2V _
   exact A2O U
 refine⟨.int ns.sum,H,I.kept (t':=tk) λb o e=>hk b o (λz=>?_) (A02 _ e),⟨t',by rw[O,last]⟩,q⟩;have:b=s.heap.objs.size:=by simpa using z
 subst this;exact absurd (A0F e) (A1O _)
theorem Ky (F:X.calm=true)(q:X.K=K:=by ac_nf):CallR X (.builtin "sum") (aS7 K):=q ▸ ad4 F
theorem ap2 {a:Addr}{ns:List Int}{H:Hp}{Q:VK}(h:SqL K H a (ns.map V.int)\/SqT K H a (ns.map V.int))(hb:∀ n∈ns,0<=n/\n<=1000000000000)(hz:ns.length<=1000000)(k:Q (.int ns.sum) H):aS7 K [.ref a] H Q:=⟨a,ns,rfl,h,hb,hz,k⟩
end
section
variable {prog:Program}{w:World}{A:Around}{E:Value->Shared->Prop}{s:Shared}
theorem a97 {t:Addr}{items:Array Value}{x:Value}{e:Value->Bool}{j:Nat}{Q:Value->Shared->Prop}(O:IsTup s.heap t items)(hj:j<items.size)(he:∀ y,y∈items->SeqAt.EqAt A.in1 s y x (e y))(U:e items[j]=true)
  (Z:∀ m (hm:m<items.size),m<j->e items[m]=false) (h:Q (.int j s.toks) {s with toks:=s.toks+1}):wpAny (model prog w) A (call (.builtin "tuple.index") [.ref t,x]) Q E s:=by
 refine A3C A2P O.typeIs PySem.F.entry_tuple_index ?_ (PySem.F.args_tuple_index_2 _ _);unfold Builtin.«tuple.index»;refine A05 (wpAny_of_eq (a:=(Value.ref t,[x])) (by first | rfl | kernel_rfl) ?_)
 refine A05 (m:=Builtin.Tuple.tupleItemsOf _) (tupleItemsOf_ O ?_);refine A05 (m:=pure 0) (A0C ?_);refine A05 (m:=pure items.size) (A0C ?_);dsimp only;rw[Nat.min_self];refine A05 ?_;rw[Std.Legacy.Range.forIn_eq_forIn_range',show Std.Legacy.Range.size [:items.size]=items.size by simp[Std.Legacy.Range.size]];refine wpAny_forIn_list _ (λl q s'=>s'=s/\q=(none,())/\∃ i,i<=j/\l=List.range' i (items.size-i)) _ ?_ ?_ _ _ ⟨rfl,rfl,0,A2M _,rfl⟩
 . rintro m l q s' ⟨rfl,rfl,i,hi,J⟩;rw[show items.size-i=items.size-(i+1)+1 by omega,List.range'_succ] at J;injection J with e1 e2;subst e1;have hm:m<items.size:=by omega
   rw[Array.getElem?_eq_getElem hm];refine A05 (he _ (Array.getElem_mem hm) prog w _ _ ?_)
   by_cases Y:m=j
   . subst Y;rw[U,A0X rfl];refine A05 (m:=retInt _) ?_;refine A05 (wpAny_mkInt ?_);exact A0C (A0C (A0C ⟨_,rfl,h⟩))
   rw[Z m hm ∅,A0P nofun];exact A0C ⟨rfl,rfl,m+1,by omega,e2⟩
 rintro q s' ⟨rfl,rfl,i,hi,J⟩;exfalso;rw[show items.size-i=items.size-(i+1)+1 by omega,List.range'_succ] at J
 cases J
end
section
variable {X:Cx}{K:W.Frag}
def X7 (K:W.Frag):V->List V->Hp->VK->Prop:=λx vs H Q=>∃(a:Addr) (ns:List Str) (z:Str) (j:Nat),x = .ref a/\vs=[.str z]/\SqT K H a (ns.map V.str)/\ns[j]? = some z/\(∀ m<j,ns[m]? ≠ some z)/\Q (.int (j:Nat)) H
theorem ag1:MtR X "tuple.index" (X7 X.K):=by
 intro pins s σ H x vs v us Q I rx rv h;obtain⟨a,ns,z,j,rfl,rfl,Z,J,a2,q⟩:=h
 cases rx;obtain⟨u,rfl,ru⟩:=rv.one;obtain⟨U,r,p,hz⟩:=I.tuple Z;have a0:=r.length;rw[A01] at a0;have a4:=(A00.mp J).1
 have at':∀ m (hm:m<U.toArray.size),∃ y t,ns[m]? = some y/\U.toArray[m] = .str y t:=λm hm=>by
  have O:m<ns.length:=by rw[A0Q] at hm;omega
  obtain⟨w,F,a3⟩:=r.get (i:=m) (x:=.str ns[m]) (by rw[A07,A03 O];rfl);obtain⟨t,rfl⟩:=a3;refine⟨ns[m],t,A03 O,?_⟩;have h2:=(A00.mp F).2;simpa using h2
 have Y:∀ y t,eqU (.str z) (.str y t)=decide (y=z):=λy t=>by
  show(y==z)=_
  by_cases h:y=z<;>simp[h]
 refine a97 (j:=j) (e:=eqU (.str z)) p (by rw[List.size_toArray];omega) (λw F=>Jy ru rfl r (Lb ns) w (by simpa using F)) ?_ (λm hm a1=>?_) ⟨.int _,H,I.tok _,⟨_,rfl⟩,q⟩
 . obtain⟨y,t,h1,h2⟩:=at' j (by rw[A0Q];omega);rw[h2,Y];rw[J] at h1;exact A16 (A13 h1).symm
 obtain⟨y,t,h1,h2⟩:=at' m hm;rw[h2,Y];refine A0S λe=>a2 m a1 ?_;rw[h1,e]
theorem Jo (q:X.K=K:=by ac_nf):MtR X "tuple.index" (X7 K):=q ▸ ag1
theorem Nc {a:Addr}{ns:List Str}{z:Str}{j:Nat}{H:Hp}{Q:VK}(h:SqT K H a (ns.map V.str))(q:ns[j]? = some z)(F:∀ m<j,ns[m]? ≠ some z)(k:Q (.int (j:Nat)) H):X7 K (.ref a) [.str z] H Q:=⟨a,ns,z,j,rfl,rfl,h,q,F,k⟩
def aV4 (K:W.Frag)(r:V->List V->Hp->VK->Prop)(to:TE)(t:TA):TE:=fun σ H Q=>to σ H λx H1=>(∃ a xs,x = .ref a/\SqT K H1 a xs)/\t σ H1 λvs H2=>r x vs H2 Q
theorem Xf {o e:Expr}{es:List Expr}{to:TE}{t:TA}{name:Str}{apos cpos:Pos}{id:String}{r:V->List V->Hp->VK->Prop}(slot:Slot "tuple" name id)(a3:typeOf (.builtin id)=pure (.type "method_descriptor"))(hm:MtR X id r)(ho:PE X o to)(ha:PA X (e :: es) t)(Y:X.K=K:=by ac_nf)
  (Z:attributeBase o name X.env (eval o X.env)=eval o X.env:=by ac_nf)
  (a0:((backTo cpos (starEach (e :: es) X.env)).all (λx=>!x.1)&&(backToKw cpos (keywordEach [] X.env)).all (λx=>x.1.isSome)&&decide ((e :: es).length+([]:List Keyword).length+(if([]:List Keyword).isEmpty then 0 else 1)<30))=true:=by ac_nf)
  (a1:(apos.endLine==cpos.line)=true:=by ac_nf) (hs:starEach (e :: es) X.env=(false,eval e X.env) :: starEach es X.env:=by ac_nf) (a2:(backTo cpos (starEach es X.env)).any (·.1)=false:=by ac_nf) :
  PE X (.Call (.Attribute o name apos) (e :: es) [] cpos) (aV4 K r to t):=by
 subst Y;intro pins s σ H Q I h;refine wpAny_Call_method_late Z a0 a1 rfl (thn (ho pins s σ H _ I h) λv s1 ⟨x,H1,q,r1,ty,q1⟩=>?_);obtain⟨a,xs,rfl,O⟩:=ty
 cases r1;obtain⟨a4,_,p,_⟩:=q.tuple O;refine⟨"tuple",id,PySem.F.plainAttrs_tuple,slot,a3,p.typeIs,(λb e=>by cases e;exact q.tupleN O),?_⟩;have J:=ha cpos pins s1 σ H1 _ q q1;rw[hs] at J ⊢;refine A2W (by show(false||(backTo cpos (starEach es X.env)).any (·.1))=false;rw[a2];rfl) (A3Y ?_)
 exact thn J λus s2 ⟨vs,H2,U,r2,q2⟩=>hm pins s2 σ H2 (.ref a) vs _ us Q U rfl r2 q2
theorem i_bmT {r:V->List V->Hp->VK->Prop}{te:TE}{q:TA}{σ:St}{H:Hp}{Q:VK}(k:te σ H λx H1=>(∃ a xs,x = .ref a/\SqT K H1 a xs)/\q σ H1 λxs H2=>r x xs H2 Q):aV4 K r te q σ H Q:=k
theorem ak2 {a:Addr}{xs:List V}{H:Hp}{B:Prop}(h:SqT K H a xs)(k:B):(∃ q F,V.ref a = .ref q/\SqT K H q F)/\B:=⟨⟨a,xs,rfl,h⟩,k⟩
end
section
variable {prog:Program}{w:World}{A:Around}{E:Value->Shared->Prop}{s:Shared}
end
section
variable {X:Cx}{K:W.Frag}
end
section
variable {α:Type}[DecidableEq α]
def B3:List α->(α->Bool)->Nat
 | [],_=>0
 |x :: xs,p=>(p x).toNat+2*B3 xs p
def Es:List α->α->Nat
 | [],_=>0
 |y :: ys,x=>if x=y then 1 else 2*Es ys x
theorem Ly {p q:α->Bool}:∀ {ns:List α},(∀ x∈ns,p x=q x)->B3 ns p=B3 ns q
 | [],_=>rfl
 |x :: xs,h=>by unfold B3;rw[h x (by simp),Ly (ns:=xs) λy F=>h y (by simp[F])]
theorem ak7 {a b:Bool} {m n:Nat} (h:a.toNat+2*m=b.toNat+2*n):a=b/\m=n:=by cases a<;>cases b<;>simp[Bool.toNat] at h ⊢ <;> omega
theorem Lf {p q:α->Bool}:∀ {ns:List α},B3 ns p=B3 ns q->∀ x∈ns,p x=q x
 | [],_,x,hx=>by cases hx
 |y :: ys,h,x,hx=>by
   unfold B3 at h;obtain⟨h1,h2⟩:=ak7 h;rcases A0B.mp hx with rfl|hx
   . exact h1
   exact Lf h2 x hx
theorem ao9 (a b:Bool)(m n:Nat):(a.toNat+2*m) &&& (b.toNat+2*n)=(a&&b).toNat+2*(m &&& n):=by
 apply Nat.eq_of_testBit_eq;intro i;rw [Nat.testBit_and]
 cases i with
 |zero=>cases a<;>cases b<;>simp[Nat.testBit_zero,Bool.toNat]<;>omega
 |succ i=>
   rw[Nat.testBit_succ,Nat.testBit_succ,Nat.testBit_succ];have e:∀(c:Bool) (k:Nat),(c.toNat+2*k) / 2=k:=λc k=>by cases c<;>simp[Bool.toNat]<;>omega
   rw[e,e,e,Nat.testBit_and]
theorem Xm (p q:α->Bool):∀ ns:List α,B3 ns p &&& B3 ns q=B3 ns (λx=>p x&&q x)
 | []=>by simp[B3]
 |x :: xs=>by unfold B3;rw[ao9,Xm p q xs]
theorem binM_zero {p:α->Bool}:∀ {ns:List α},B3 ns p=0↔∀ x∈ns,p x=false
 | []=>by simp[B3]
 |x :: xs=>by
   unfold B3;have:=binM_zero (p:=p) (ns:=xs);constructor
   . intro h y q;have h1:(p x).toNat=0:=by omega
     have h2:B3 xs p=0:=by omega
     rcases A0B.mp q with rfl|q
     . cases e:p y with
       |false=>rfl
       |true=>rw[e] at h1;cases h1
     exact this.mp h2 y q
   intro h;rw[h x (by simp),this.mpr λy q=>h y (by simp[q])];rfl
theorem X1 (p:α->Bool):∀ ns:List α,B3 ns p<2 ^ ns.length
 | []=>by simp[B3]
 |x :: xs=>by
   have:=X1 p xs;unfold B3;rw[A0G,A4W];have:(p x).toNat<=1:=by cases p x<;>simp[Bool.toNat]
   omega
theorem a74:∀ {ns:List α},ns.Nodup->∀ {x:α},x∈ns->Es ns x=B3 ns (λy=>decide (y=x))
 | [],_,x,h=>by cases h
 |y :: ys,hn,x,h=>by
   obtain⟨h1,h2⟩:=A0Y.mp hn;unfold Es B3
   by_cases e:x=y
   . subst e;rw[A0X rfl,(binM_zero (p:=λy=>decide (y=x)) (ns:=ys)).mpr λz hz=>A0S λq=>h1 (by rw[<- q];exact hz)];simp[Bool.toNat]
   rw[A0P e,a74 h2 ((A0B.mp h).resolve_left e)];have:decide (y=x)=false:=A0S λq=>e q.symm;show _=(decide (y=x)).toNat+_;rw[this];simp[Bool.toNat]
theorem Sx (f:α->Nat):∀ l:List α,(l.map λx=>2*f x).sum=2*(l.map f).sum
 | []=>rfl
 |x :: xs=>by simp[Sx f xs,Nat.mul_add]
theorem Nd (p:α->Bool):∀ {ns:List α},ns.Nodup->((ns.filter p).map (Es ns)).sum=B3 ns p
 | [],_=>rfl
 |y :: ys,hn=>by
   obtain⟨h1,h2⟩:=A0Y.mp hn
   have e:(ys.filter p).map (Es (y :: ys))=(ys.filter p).map λx=>2*Es ys x:=by
    apply A0Z;intro x F;have:x≠y:=λq=>h1 (q ▸ (A0N.mp F).1);show(if x=y then 1 else 2*Es ys x)=_
    rw [A0P this]
   unfold B3;rw[A1A]
   cases hp:p y with
   |true=>
     rw[A0X rfl,A0H,A1F,e,Sx,Nd p h2];show(if y=y then 1 else _)+_=_
     rw[A0X rfl];rfl
   |false=>rw[A0P nofun,e,Sx,Nd p h2];simp[Bool.toNat]
theorem Ou {p:α->Bool}:∀ {ns:List α},ns.Nodup->∀ {x:α},x∈ns->p x=true->B3 ns p=B3 ns (λy=>p y && !decide (y=x))+Es ns x
 | [],_,x,h,_=>by cases h
 |y :: ys,hn,x,h,hp=>by
   obtain⟨h1,h2⟩:=A0Y.mp hn;unfold Es B3
   by_cases e:x=y
   . subst e;rw[A0X rfl,hp,Ly (ns:=ys) (p:=λy=>p y && !decide (y=x)) (q:=p) λz hz=>?_]
     . simp[Bool.toNat];omega
     have:decide (z=x)=false:=A0S λq=>h1 (q ▸ hz);simp[this]
   rw[A0P e,Ou h2 ((A0B.mp h).resolve_left e) hp];have:decide (y=x)=false:=A0S λq=>e q.symm;show _=((p y && !decide (y=x)).toNat+_)+_;rw[this];simp;omega
def frF (b:α->α->Bool)(L:List α):List α:=L.filter λx=>!(L.any λy=>b y x)
def Ai (L:List α)(x:α):List α:=L.filter λy=>!decide (y=x)
def ext (b:α->α->Bool):Nat->List α->List (List α)
 |0,_=>[[]]
 |n+1,L=>(frF b L).flatMap λx=>(ext b n (Ai L x)).map (x :: ·)
def cnt (b:α->α->Bool)(L:List α):Nat:=(ext b L.length L).length
theorem cnt_nil (b:α->α->Bool):cnt b []=1:=rfl
theorem mem_frF {b:α->α->Bool}{L:List α}{x:α}:x∈frF b L↔x∈L/\∀ y∈L,b y x=false:=by
 unfold frF;rw[A0N];constructor
 . rintro ⟨h1,h2⟩;refine⟨h1,λy q=>?_⟩
   cases e:b y x with
   |false=>rfl
   |true=>
     have:(L.any λy=>b y x)=true:=A1E.mpr ⟨y,q,e⟩;rw[this] at h2
     cases h2
 rintro⟨h1,h2⟩;refine⟨h1,?_⟩
 have:(L.any λy=>b y x)=false:=by
  rw[Bool.eq_false_iff];intro h;obtain⟨y,q,e⟩:=A1E.mp h;rw[h2 y q] at e
  cases e
 rw[this];rfl
theorem mem_lessF {L:List α}{x y:α}:y∈Ai L x↔y∈L/\y≠x:=by unfold Ai;rw[A0N];simp
theorem B9 {L:List α}(h:L.Nodup)(x:α):(Ai L x).Nodup:=A25 (A1U) h
theorem Tb:∀ {L:List α} {x:α},x∉L->Ai L x=L:=fun {L x} h=>by unfold Ai;rw[A3G];intro y F;have:y≠x:=λq=>h (q ▸ F);simp[this]
theorem Bd:∀ {L:List α} {x:α},L.Nodup->x∈L->(Ai L x).length+1=L.length
 | [],_,_,h=>by cases h
 |y :: ys,x,hn,h=>by
   obtain⟨h1,h2⟩:=A0Y.mp hn
   by_cases e:y=x
   . subst e;have:Ai (y :: ys) y=Ai ys y:=by unfold Ai;rw[List.filter_cons,if_neg (by simp)]
     rw[this,Tb h1];rfl
   have:Ai (y :: ys) x=y :: Ai ys x:=by unfold Ai;rw[List.filter_cons,if_pos (by simp[e])]
   rw[this,A0G,Bd h2 ((A0B.mp h).resolve_left λq=>e q.symm)];rfl
theorem Ld {b:α->α->Bool} {L:List α} (hn:L.Nodup) (q:L≠[]):cnt b L=((frF b L).map λx=>cnt b (Ai L x)).sum:=by
 unfold cnt
 cases hl:L.length with
 |zero=>exact absurd (A1B.mp hl) q
 |succ n=>
   show((frF b L).flatMap λx=>(ext b n (Ai L x)).map (x :: ·)).length=_;rw[A5A];congr 1;apply A0Z;intro x F;have:=Bd hn (mem_frF.mp F).1;have e:(Ai L x).length=n:=by omega
   rw[A01,e]
def G7 (ns row:List α):List α:=ns.filter λx=>!decide (x∈row)
def Gx (b:α->α->Bool)(ns:List α)(q:List (List α)):List (List α):=q.flatMap λrow=>(frF b (G7 ns row)).map λx=>row++[x]
def Fc (b:α->α->Bool)(ns:List α):Nat->List (List α)->List (List α)
 |0,r=>r
 |k+1,r=>Fc b ns k (Gx b ns r)
theorem Hv (b:α->α->Bool)(ns:List α):∀(k:Nat) (r:List (List α)),Fc b ns (k+1) r=Gx b ns (Fc b ns k r)
 |0,r=>rfl
 |k+1,r=>Hv b ns k (Gx b ns r)
theorem Mg (b:α->α->Bool)(ns:List α):∀(k:Nat) (r t:List (List α)),Fc b ns k (r++t)=Fc b ns k r++Fc b ns k t
 |0,r,t=>rfl
 |k+1,r,t=>by
   show Fc b ns k (Gx b ns (r++t))=_;have:Gx b ns (r++t)=Gx b ns r++Gx b ns t:=by unfold Gx;rw[List.flatMap_append]
   rw[this,Mg b ns k];rfl
theorem Vq (b:α->α->Bool)(ns:List α):∀ k:Nat,Fc b ns k []=[]
 |0=>rfl
 |k+1=>Vq b ns k
theorem Vg (b:α->α->Bool)(ns:List α)(k:Nat)(f:α->List α):∀ l:List α,Fc b ns k (l.map f)=l.flatMap λx=>Fc b ns k [f x]
 | []=>Vq b ns k
 |x :: xs=>by rw[A0H,A1Q,<- Vg b ns k f xs,<- Mg];rfl
theorem Zu (ns row:List α)(x:α):G7 ns (row++[x])=Ai (G7 ns row) x:=by
 unfold G7 Ai;rw[A4B];apply A1J;intro y _
 by_cases h:y∈row<;>by_cases e:y=x<;>simp[h,e]
theorem Yp (b:α->α->Bool)(ns:List α):∀(k:Nat) (row:List α),Fc b ns k [row]=(ext b k (G7 ns row)).map (row ++ ·)
 |0,row=>by simp[Fc,ext]
 |k+1,row=>by
   show Fc b ns k (Gx b ns [row])=_;have e:Gx b ns [row]=(frF b (G7 ns row)).map λx=>row++[x]:=by unfold Gx;simp
   rw[e,Vg];show _=((frF b (G7 ns row)).flatMap λx=>(ext b k (Ai (G7 ns row) x)).map (x :: ·)).map (row ++ ·);rw[List.map_flatMap];congr 1;funext x;rw[Yp b ns k,Zu,A19];congr 1;funext r;simp
theorem a84 (ns:List α):G7 ns []=ns:=by unfold G7;rw[A3G];simp
def fac:Nat->Nat
 |0=>1
 |n+1=>fac n*(n+1)
theorem Y1 {f g:α->Nat}:∀ {l:List α},(∀ x∈l,f x<=g x)->(l.map f).sum<=(l.map g).sum
 | [],_=>A08 _
 |x :: xs,h=>by have h1:=h x (by simp);have h2:=Y1 (l:=xs) (f:=f) (g:=g) λy q=>h y (by simp[q]);simp;omega
theorem Xl (c:Nat)(f:α->Nat):∀ l:List α,(l.map λx=>f x*c).sum=(l.map f).sum*c
 | []=>by simp
 |x :: xs=>by simp[Xl c f xs,Nat.add_mul]
theorem Gq {p q:α->Bool}:∀ {l:List α},(∀ a∈l,p a=true->q a=true)->(∃ z∈l,q z=true/\p z=false)->(l.filter p).length<(l.filter q).length
 | [],_,h=>by obtain⟨z,hz,_⟩:=h;cases hz
 |y :: ys,h,hz=>by
   have le:∀ l:List α,(∀ a∈l,p a=true->q a=true)->(l.filter p).length<=(l.filter q).length:=by
    intro l
    induction l with
    |nil=>intro _;exact A08 _
    |cons a l F=>
      intro h;have:=F λa ha=>h a (by simp[ha]);rw[A1A,A1A]
      cases c:p a with
      |true=>rw[if_pos rfl,if_pos (h a (by simp) c)];simpa using this
      |false=>
        rw[if_neg (by simp)]
        split
        . simp;omega
        exact this
   rw[A1A,A1A];obtain⟨z,hz,J,hp⟩:=hz;rcases A0B.mp hz with rfl|hz
   . rw[hp,if_neg (by simp),if_pos J,List.length_cons];have:=le ys λa ha=>h a (by simp[ha]);omega
   have F:=Gq (l:=ys) (λa ha=>h a (by simp[ha])) ⟨z,hz,J,hp⟩
   cases c:p y with
   |true=>rw[if_pos rfl,if_pos (h y (by simp) c)];simpa using F
   |false=>
     rw[if_neg (by simp)]
     split
     . simp;omega
     exact F
theorem a77 {b:α->α->Bool}(irr:∀ x,b x x=false)(F:∀ x y z,b x y=true->b y z=true->b x z=true){L:List α}:∀(m:Nat) (y:α),y∈L->(L.filter λz=>b z y).length<=m->∃ x∈frF b L,x=y\/b x y=true
 |m,y,hy,hm=>by
   by_cases c:∃ z∈L,b z y=true
   . obtain ⟨z,hz,q⟩:=c;have lt:(L.filter λa=>b a z).length<(L.filter λa=>b a y).length:=Gq (λa _ h=>F a z y h q) ⟨z,hz,q,irr z⟩
     cases m with
     |zero=>omega
     |succ m=>
       obtain⟨x,J,h⟩:=a77 irr F m z hz ∅;refine⟨x,J,.inr ?_⟩;rcases h with rfl|h
       . exact q
       exact F x z y h q
   refine⟨y,mem_frF.mpr ⟨hy,λz hz=>?_⟩,.inl rfl⟩
   cases e:b z y with
   |false=>rfl
   |true=>exact absurd ⟨z,hz,e⟩ c
theorem a59 {b:α->α->Bool} {L:List α} (h:L.Nodup):(frF b L).Nodup:=A25 A1U h
theorem aM9 {b:α->α->Bool}(irr:∀ x,b x x=false)(F:∀ x y z,b x y=true->b y z=true->b x z=true){L:List α}(h:L≠[]):frF b L≠[]:=by
 cases L with
 |nil=>exact absurd rfl h
 |cons y ys=>
   obtain⟨x,q,_⟩:=a77 irr F (L:=y :: ys) _ y (by simp) (Nat.le_refl _);intro e;rw[e] at q
   cases q
theorem W6 {f g:α->Nat}{l:List α}(h:∀ x∈l,f x=g x):(l.map f).sum=(l.map g).sum:=by rw[A0Z h]
end
def Mtd (P:Program)(w:World)(K:W.Frag)(mg:Str->Option Value)(base:Heap)(k:Nat)(C:Addr)(m:Str)(ps:List Str)(sp:Sp):Prop:=
 ∃ f fd,FnOk P w K mg base CX0 k f fd ps sp/\aQ4 K C m f/\Binds K fd ps []
def Mkd (P:Program)(w:World)(K:W.Frag)(mg:Str->Option Value)(base:Heap)(k:Nat)(C:Addr)(x:Str)(ps:List Str)(sp:Sp):Prop:=
 ∃ f fd,FnOk P w K mg base CX0 k f fd ps sp/\Mk K C f/\mg x=some (.ref C)/\Binds K fd ps []
theorem FnOk.void {P:Program}{w:World}{K:W.Frag}{mg:Str->Option Value}{base:Heap}{CX:CXT}{k:Nat}{f:Addr}{fd:FuncData}{ps:List Str}{sp:Sp}(h:∀ vs H Q E,¬ sp vs H Q E):FnOk P w K mg base CX k f fd ps sp:=
 ⟨λvs H Q E q=>absurd q (h vs H Q E),λA outer s H args us vs Q E _ _ _ _ F=>absurd F (h vs H Q E)⟩
def rAt (f:Str)(C:Addr):V->Hp->VK->Prop:=λx H Q=>∃ a dx fs v,x = .ref a/\H a=some (.ins C dx fs)/\fs.lookup f=some v/\Q v H
def tAt (f:Str)(C:Addr)(ta:TE):TE:=fun σ H Q=>ta σ H λx H1=>rAt f C x H1 Q
def rSt (f:Str)(C:Addr)(y:V):V->Hp->(Hp->Prop)->Prop:=λx H R=>∃ a dx fs,x = .ref a/\H a=some (.ins C dx fs)/\fs.length<1000/\R (upd H a (.ins C dx (Oy f y fs)))
def sSt (f:Str)(C:Addr)(ta tv:TE):TS:=λD σ H=>tv σ H λy H1=>ta σ H1 λx H2=>rSt f C y x H2 λq=>D.nx σ q
def rMe (m:Str)(C:Addr)(sp:Sp)(t:TA)(σ:St):V->Hp->VK->Prop:=λx H Q=>∃ a dx fs,x = .ref a/\H a=some (.ins C dx fs)/\fs.lookup m=none/\t σ H λvs H2=>sp (x :: (vs++[])) H2 Q E0
def tMe (m:Str)(C:Addr)(sp:Sp)(ta:TE)(t:TA):TE:=fun σ H Q=>ta σ H λx H1=>rMe m C sp t σ x H1 Q
def rMk (C:Addr)(sp:Sp):List V->Hp->VK->Prop:=λvs H1 Q=>∀ x dx,H1 x=none->H1 dx=none->dx≠x ->
 sp (.ref x :: (vs++[])) (upd (upd H1 dx (.own x)) x (.ins C dx [])) (λv H2=>v = .non/\Q (.ref x) H2) E0
def tMk (C:Addr)(sp:Sp)(t:TA):TE:=fun σ H Q=>t σ H λvs H1=>rMk C sp vs H1 Q
def aV1 (ta:TE):TT:=fun σ H Q=>ta σ H λx H1=>∃ i:Int,x = .int i/\Q (i != 0) H1
section
variable {X:Cx}{K:W.Frag}{k:Nat}{C:Addr}{f x m:Str}{ps:List Str}{sp:Sp}{e o value:Expr}{es:List Expr}{ta tv:TE}{t:TA}{p pos pos' apos:Pos}
theorem Hj (he:PE X e ta)(c:Cls X.K C)(n:NoAttr X.K C f)(hb:attributeBase e f X.env (eval e X.env)=eval e X.env):PE X (.Attribute e f pos) (tAt f C ta):=by
 intro pins s σ H Q I h;refine aA4 hb (thn (he pins s σ H _ I h) ?_);rintro u Z ⟨x,H1,F,Y,a,dx,fs,v,rfl,O,l,q⟩
 cases Y;exact Zh F O c n l λu' s2 J U=>⟨v,H1,J,U,q⟩
theorem a08 (ha:PE X o ta)(Z:PE X value tv)(c:Cls X.K C)(n:NoAttr X.K C f)(Y:swapsWith value (some (.Attribute o f pos')) pos.line X.env=pure false):PS X (.Assign [.Attribute o f pos'] value pos) (sSt f C ta tv):=by
 intro pins s σ H D I h;refine plainObj_wpAny_Assign_Attribute (thn (Z pins s σ H _ I h) ?_) Y;rintro u s1 ⟨y,H1,F,ry,q⟩;refine thn (ha pins s1 σ H1 _ F q) ?_;rintro ov s2 ⟨x,H2,J,rx,a,dx,fs,rfl,U,l,q2⟩
 cases rx;exact Yy J U c n l ry λs3 O=>⟨σ,_,O,q2⟩
theorem Qf {pl:Sem Bool}(he:PE X o ta)(c:Cls X.K C)(F:Mtd X.prog X.w X.K X.mg X.base k C m ps sp)(O:Room k X.A)(ha:PA X (e :: es) t)
  (U:starEach (e :: es) X.env=(false,eval e X.env) :: starEach es X.env:=by ac_nf) (J:(backTo pos (starEach es X.env)).any (·.1)=false:=by ac_nf)
  (Y:eval (.Call (.Attribute o m apos) (e :: es) [] pos) X.env=(do
   let ov <- eval o X.env
   standAt apos.atName
   let (f,first) <- holding [ov] (getMethod ov m pl)
   callWith pos f first (backTo pos (starEach (e :: es) X.env)) (backToKw pos (keywordEach [] X.env))):=by ac_nf) :
  PE X (.Call (.Attribute o m apos) (e :: es) [] pos) (tMe m C sp ta t):=by
 obtain⟨f,fd,h1,h2,q⟩:=F;exact aC6 (pl:=pl) he c h2 h1 O q .nil aA2 ha U J Y
theorem aw8 (F:Mkd X.prog X.w X.K X.mg X.base k C x ps sp)(Z:Room (k+1) X.A)(U:Gl X x)(ha:PA X (e :: es) t)(O:(x==("__debug__":Str))=false:=by decide)
  (he:starEach (e :: es) X.env=(false,eval e X.env) :: starEach es X.env:=by ac_nf) (Y:(backTo pos (starEach es X.env)).any (·.1)=false:=by ac_nf) :
  PE X (.Call (.Name x p) (e :: es) [] pos) (tMk C sp t):=by
 obtain⟨f,fd,h1,h2,q,J⟩:=F;exact ax9 h2 h1 Z U q J .nil aA2 ha O he Y
theorem a82 (ha:PE X e ta)(he:∀ q,isTrue e X.env q=(do let v <- q;standAt e.pos;holding [v] (truthy v)):=by intro _;ac_nf):PT X e (aV1 ta):=by intro pins s σ H Q I h;refine isTrue_plain (thn (ha pins s σ H _ I h) ?_) (he _);rintro v U ⟨x,H1,F,O,i,rfl,J⟩;exact aI2 pins U σ H1 _ v Q F O ⟨_,rfl,J⟩
end
section
variable {K:W.Frag}{C:Addr}{f m:Str}{sp:Sp}{ta tv:TE}{t:TA}{σ:St}{H:Hp}{Q:VK}{D:Po}
theorem i_tAt (k:ta σ H λx H1=>rAt f C x H1 Q):tAt f C ta σ H Q:=k
theorem Pn {a dx:Addr}{fs:List (Str×V)}{v:V}(h:H a=some (.ins C dx fs))(l:fs.lookup f=some v)(k:Q v H):rAt f C (.ref a) H Q:=⟨a,dx,fs,v,rfl,h,l,k⟩
theorem i_sSt (k:tv σ H λy H1=>ta σ H1 λx H2=>rSt f C y x H2 λq=>D.nx σ q):sSt f C ta tv D σ H:=k
theorem aN3 {a dx:Addr}{fs:List (Str×V)}{y:V}{R:Hp->Prop}(h:H a=some (.ins C dx fs))(q:fs.length<1000)(k:∀ H',ExtBut a H H'->H' a=some (.ins C dx (Oy f y fs))->R H'):rSt f C y (.ref a) H R:=
 ⟨a,dx,fs,rfl,h,q,k _ ExtBut.upd Af⟩
theorem i_tMe (k:ta σ H λx H1=>rMe m C sp t σ x H1 Q):tMe m C sp ta t σ H Q:=k
theorem aj9 {a dx:Addr}{fs:List (Str×V)}(h:H a=some (.ins C dx fs))(l:fs.lookup m=none)(k:t σ H λvs H2=>sp (.ref a :: (vs++[])) H2 Q E0):rMe m C sp t σ (.ref a) H Q:=⟨a,dx,fs,rfl,h,l,k⟩
theorem i_tMk (k:t σ H λvs H1=>rMk C sp vs H1 Q):tMk C sp t σ H Q:=k
theorem aU2 {vs:List V}(k:∀ x dx H2,H x=none->Same H H2->H2 x=some (.ins C dx [])->sp (.ref x :: (vs++[])) H2 (λv F=>v = .non/\Q (.ref x) F) E0):rMk C sp vs H Q:=λx dx q hd J=>k x dx _ q (λb o e=>by rw[Au (ne_of_none e q),Au (ne_of_none e hd)];exact e) Af
theorem i_tTru {R:Bool->Hp->Prop}(k:ta σ H λx H1=>∃ i:Int,x = .int i/\R (i != 0) H1):aV1 ta σ H R:=k
theorem ab3 {a:Addr}{kvs:List (Key×V)}{z:Int}{v:V}{R:Hp->Prop}(h:H a=some (.dK kvs))(F:kvs.length<=1000000)(k:∀ H',ExtBut a H H'->H' a=some (.dK (Ge kvs (Sum.inl z) v))->R H'):∃ b q,V.ref a = .ref b/\DPut H b (.int z) v q/\R q:=
 ⟨a,_,rfl,DPut.k (k:=Sum.inl z) h (by rw[A1I];omega),k _ ExtBut.upd Af⟩
theorem Yd {a:Addr}{kvs:List (Key×V)}{z:Int}{v:V}(h:H a=some (.dK kvs))(e:Ck kvs (Sum.inl z:Key)=some v)(k:Q v H):Qm K (.ref a) (.int z) H Q:=.inr ⟨a,v,rfl,by rw[<- e];exact DGet.k (k:=Sum.inl z) h,k⟩
theorem aw1 {a:Addr}{kvs:List (Key×V)}{z:Int}(h:H a=some (.dK kvs))(k:Q (.bl (Ck kvs (Sum.inl z:Key)).isNone) H):Z7 K true (.int z) (.ref a) H Q:=by
 refine .inr (.inr (.inl ⟨a,Ck kvs (Sum.inl z:Key),rfl,DGet.k (k:=Sum.inl z) h,?_⟩))
 cases e:Ck kvs (Sum.inl z:Key) with
 |none=>rw[e] at k;exact k
 |some v=>rw[e] at k;exact k
end
def aE0 (d v:Addr):HO:=.ext λh=>h.IsValuesView v d
def aK7:V->List V->Hp->VK->Prop:=λx vs H Q=>∃ d kvs,x = .ref d/\vs=[]/\H d=some (.dK kvs)/\∀ v,H v=none->Q (.ref v) (upd H v (aE0 d v))
def aE7:List V->Hp->VK->Prop:=λxs H Q=>∃(v d:Addr) (kvs:List (Key×V)) (ns:List Int),xs=[.ref v]/\H v=some (aE0 d v)/\H d=some (.dK kvs)/\kvs.map (·.2)=ns.map V.int/\(∀ n∈ns,0<=n/\n<=1000000000000)/\ns.length<=1000000/\Q (.int ns.sum) H
section
variable {X:Cx}{K:W.Frag}
theorem a67:MtM X "dict.values" aK7:=by
 intro pins s σ H x vs v us Q I rx Z h;obtain⟨d,kvs,rfl,rfl,O,q⟩:=h
 cases rx
 cases Z;obtain⟨z1,U,a0,a1,J⟩:=Vi I.hok O;refine A3W F.slot_dict_values J.typeIs F.entry_dict_values (F.args_dict_values_1 _) (meets_dict_values (Ax X.prog X.w) d U) ⟨⟨a0,J⟩,?_⟩;refine ⟨.ref s.heap.objs.size,upd H s.heap.objs.size (aE0 d s.heap.objs.size),I.laid (t':=s.toks) (λb u e=>A02 _ e) (A08 _) ⟨⟨_,A0J _ rfl,rfl,rfl⟩,⟨_,A0J _ rfl⟩,λh1 h2 ⟨o,e,r⟩ Y=>⟨o,Y o e,r⟩⟩,rfl,q _ (I.hok.fresh (A08 _))⟩
theorem ac4 {α β:Type}{F:α->β->Prop}{q:List α}{J:List β}(h:Paired F q J):∀ {i:Nat} {a:α},q[i]? = some a->∃ b,J[i]? = some b/\F a b:=by
 induction h with
 |nil=>intro i a e;cases e
 |cons r _ ih=>
   intro i a e
   cases i with
   |zero=>cases e;exact⟨_,rfl,r⟩
   |succ i=>exact ih e
theorem au7 {ns:List Int}{kvs:List (Key×V)}{vs:List (Key×Value)}(Y:KV kvs vs)(h:kvs.map (·.2)=ns.map V.int){i:Nat}{k:Key}{u:Value}(O:vs[i]? = some (k,u)):∃ t,u = .int (ns.getD i 0) t:=by
 have hl:kvs.length=vs.length:=Y.length;have hn:kvs.length=ns.length:=by have:=congrArg List.length h;rwa[A01,A01] at this
 have hi:i<vs.length:=(A00.mp O).1;have F:kvs[i]? = some kvs[i]:=A03 ∅;obtain⟨q,J,r⟩:=ac4 Y F;rw[O] at J
 cases J;have e:(kvs.map (·.2))[i]? = some kvs[i].2:=by rw[A07,F];rfl
 rw[h,A07,Hd (y:=0) (by omega:i<ns.length)] at e;have Z:V.int (ns.getD i 0)=kvs[i].2:=A13 e;have U:=r.2;rw[<- Z] at U;exact U
theorem ad7 (hc:X.calm=true):CallR X (.builtin "sum") aE7:=by
 intro pins s σ H xs us Q I r h;obtain⟨v,d,kvs,ns,rfl,hv,hd,O,hb,hz,q⟩:=h;obtain⟨u,rfl,ru⟩:=J4 r
 cases ru
 have fits:∀ j,j<ns.length->InLong (ns.getD j 0)/\InLong (preSum (λi=>ns.getD i 0) (j+1)):=λj J=>by have h1:=hb _ (A04 (Hd (y:=0) J));have h2:=Pk (ns:=ns.take (j+1)) λn hn=>hb n (A2N hn);rw[Go ns (j+1) J];rw[A10] at h2;unfold InLong;omega
 have last:preSum (λi=>ns.getD i 0) ns.length=ns.sum:=by rw[Go ns _ (A08 _),A0W]
 obtain⟨_,hs,vs,U,Y⟩:=Vi I.hok hd;obtain⟨ep,Z⟩:=Y.dictAt;have vv:s.heap.IsValuesView v d:=(show ObjOk X.prog X.w H s.heap v (aE0 d v) from I.hok v _ hv).1;have a1:d<s.heap.objs.size:=I.hok.lt hd
 have hn:vs.length=ns.length:=by have:=congrArg List.length O;rw[A01,A01] at this;have:=U.length;omega
 refine call_sum_walk ?_;obtain⟨oI,St,a0,W,st⟩:=(PySem.W.kdl_values (knd:=Ax X.prog X.w) (r:=v) (d:=d) (kvs:=vs) (ep:=ep)).iter X.A.in1 s (by simpa using I.ok.hd hc) ⟨vv,Z⟩;refine a0 _ _ ?_;refine⟨s.heap.objs.size,_,_,_,_,_,λi=>ns.getD i 0,rfl,W,st,?_,?_,by rw[hn];exact fits,?_⟩
 . intro b F;rw[A22];simp only[List.mem_cons,List.not_mem_nil,or_false] at F;rcases F with rfl|rfl
   . exact A2V _
   exact A2O a1
 . rintro i u ⟨k,hx⟩;exact au7 U O hx
 intro h' tk t' hk;refine⟨.int ns.sum,H,I.kept (t':=tk) ?_,⟨t',by rw[hn,last]⟩,q⟩;intro b o e;refine hk b o (λz=>?_) (A02 _ e);have:b=s.heap.objs.size:=by simpa using z
 subst this;exact absurd (A0F e) (A1O _)
theorem aF6 {d:Addr}{kvs:List (Key×V)}{H:Hp}{Q:VK}(h:H d=some (.dK kvs))(k:∀ v H',H v=none->Same H H'->H' v=some (aE0 d v)->Q (.ref v) H'):aK7 (.ref d) [] H Q:=⟨d,kvs,rfl,rfl,h,λv q=>k v _ q (Same.upd q) Af⟩
theorem aQ0 {v d:Addr}{kvs:List (Key×V)}{ns:List Int}{H:Hp}{Q:VK}(F:H v=some (aE0 d v))(hd:H d=some (.dK kvs))(q:kvs.map (·.2)=ns.map V.int)(hb:∀ n∈ns,0<=n/\n<=1000000000000)(hz:ns.length<=1000000)(k:Q (.int ns.sum) H):aE7 [.ref v] H Q:=
 ⟨v,d,kvs,ns,rfl,F,hd,q,hb,hz,k⟩
end
theorem Uj {α β:Type}{F:α->β->Prop}:∀ {q:List α} {J:List β},q.length=J.length->(∀(i:Nat) a b,q[i]? = some a->J[i]? = some b->F a b)->Paired F q J
 | [],[],_,_=>.nil
 |a :: q,b :: J,hl,h=>.cons (h 0 a b rfl rfl) (Uj (by simpa using hl) λi x y O U=>h (i+1) x y O U)
section
variable {X:Cx}
end
section
variable {α:Type}[DecidableEq α]
theorem aA7 (a b:Nat):Builtin.bitAnd (a:Int) (b:Int)=((a &&& b:Nat):Int):=by rw[bitAnd_pp (Int.natCast_nonneg _) (Int.natCast_nonneg _)];simp
theorem a89 (p q:α->Bool)(ns:List α):(Builtin.bitAnd (B3 ns p:Int) (B3 ns q:Int) != 0)=ns.any λx=>p x&&q x:=by
 rw[aA7,Xm]
 cases e:ns.any λx=>p x&&q x with
 |true=>
   obtain⟨x,F,h⟩:=A1E.mp e
   have:B3 ns (λx=>p x&&q x)≠0:=λz=>by
    have:=binM_zero.mp z x F;rw[this] at h
    cases h
   simp only[bne_iff_ne,ne_eq];omega
 |false=>
   have:B3 ns (λx=>p x&&q x)=0:=binM_zero.mpr λx F=>by
    cases c:(p x&&q x) with
    |false=>rfl
    |true=>rw[A1E.mpr ⟨x,F,c⟩] at e;cases e
   rw[this];rfl
theorem ab2 {ns:List α} (hn:ns.Nodup) {x:α} (J:x∈ns) (q:α->Bool):(Builtin.bitAnd (Es ns x:Int) (B3 ns q:Int) != 0)=q x:=by
 rw[a74 hn J,a89]
 cases c:q x with
 |true=>exact List.any_eq_true.mpr ⟨x,J,by simp[c]⟩
 |false=>
   rw[Bool.eq_false_iff];intro h;obtain⟨y,_,F⟩:=A1E.mp h;rw[A15,A3N] at F;rw[F.1,c] at F
   cases F.2
theorem Z9 (ns:List α)(p q:α->Bool):(ns.any λx=>p x&&q x)=(ns.filter q).any p:=by
 induction ns with
 |nil=>rfl
 |cons y ys ih=>
   rw[A2J,ih,A1A]
   cases c:q y with
   |true=>rw[A0X rfl,A2J,Bool.and_true]
   |false=>rw[A0P nofun,Bool.and_false,Bool.false_or]
theorem ab6 (b:α->α->Bool)(ns:List α)(q:α->Bool):(ns.filter λx=>q x && !(ns.any λy=>b y x&&q y))=frF b (ns.filter q):=by unfold frF;rw[A4B];apply A1J;intro x _;rw[Z9,A5J]
theorem Ba (ns:List α)(q:α->Bool)(x:α):(ns.filter λy=>q y && !decide (y=x))=Ai (ns.filter q) x:=by unfold Ai;rw[A4B];apply A1J;intro y _;rw[A5J]
theorem as6 {m n:Nat}(h:m<=n):fac m<=fac n:=by
 induction h with
 |refl=>exact A08 _
 |@step k _ ih=>exact A0O ih (Nat.le_mul_of_pos_right _ (Nat.succ_pos k))
theorem Vm (c:Nat):∀ l:List α,(l.map λ_=>c).sum=l.length*c
 | []=>by simp
 |x :: xs=>by rw[A0H,A1F,Vm c xs,A0G,A2D,Nat.one_mul,Nat.add_comm]
theorem as3 (b:α->α->Bool):∀(n:Nat) (L:List α),L.length=n->L.Nodup->cnt b L<=fac n
 |0,L,hl,_=>by have:=A1B.mp hl;subst this;exact A08 _
 |n+1,L,hl,hn=>by
   have q:L≠[]:=by intro e;rw[e] at hl;cases hl
   rw[Ld hn q]
   have h1:((frF b L).map λx=>cnt b (Ai L x)).sum<=((frF b L).map λ_=>fac n).sum:=Y1 λx F=>by have:=Bd hn (mem_frF.mp F).1;exact as3 b n (Ai L x) ∅ (B9 hn x)
   rw[Vm] at h1;refine A0O h1 ?_;show _<=fac n*(n+1);rw[A4S];refine A46 _ ?_;rw[<- hl];exact A0U _ _
theorem au6 {b:α->α->Bool}{L:List α}(hn:L.Nodup)(h:L.length<=10):cnt b L<=3628800:=A0O (as3 b _ L rfl hn) (A0O (as6 h) nofun)
end
def aD4 (ns:List Str):List (Key×V):=ns.map λx=>((Sum.inr x:Key),V.int ((Es ns x:Nat):Int))
def ahK (ns:List Str)(ps:List (Str×Str)):List (Key×V):=ns.map λx=>((Sum.inr x:Key),V.int ((B3 ns (λy=>Ab ps y x):Nat):Int))
theorem Fv {f:Str->V}:∀ {ns:List Str} {x:Str},x∈ns->Ck (ns.map λx=>((Sum.inr x:Key),f x)) (Sum.inr x:Key)=some (f x)
 | [],x,h=>by cases h
 |y :: ys,x,h=>by
   rw[A0H]
   by_cases e:y=x
   . subst e;exact Bh rfl
   rw[Bc λq=>e (Sum.inr.inj q)];exact Fv ((A0B.mp h).resolve_left λq=>e q.symm)
theorem J9 {f:Str->V}:∀ {ns:List Str} {x:Str},x∉ns->Ck (ns.map λx=>((Sum.inr x:Key),f x)) (Sum.inr x:Key)=none
 | [],x,h=>rfl
 |y :: ys,x,h=>by rw[List.map_cons,Bc λq=>h (by rw[<- Sum.inr.inj q];simp)];exact J9 λq=>h (A09 _ q)
theorem Oa:∀ {ns:List Str} {i:Nat} {x:Str},ns.Nodup->ns[i]? = some x->Es ns x=2 ^ i
 | [],i,x,_,h=>by cases h
 |y :: ys,0,x,_,h=>by cases h;unfold Es;rw[A0X rfl]
 |y :: ys,i+1,x,hn,h=>by obtain⟨h1,h2⟩:=A0Y.mp hn;have F:ys[i]? = some x:=h;unfold Es;rw[A0P λq=>h1 (by rw[<- q];exact A04 F),Oa h2 F,A4W,A4S]
theorem IsL.int_eq {K:W.Frag}{H:Hp}:∀ {ns:List Int} {vs:List V},IsL K H (ns.map PyData.int) vs->vs=ns.map V.int
 | [],vs,h=>by simp only[List.map_nil,IsL] at h;exact h
 |n :: ns,vs,h=>by simp only[List.map_cons,IsL,Is] at h;obtain⟨v,r,rfl,rfl,q⟩:=h;rw[IsL.int_eq q];rfl
theorem Na {α:Type}(f:α->Nat):∀ l:List α,(l.map λx=>((f x:Nat):Int)).sum=(((l.map f).sum:Nat):Int)
 | []=>rfl
 |x :: xs=>by rw[A0H,A1F,Na f xs,A0H,A1F];omega
theorem ExtBut.fzI {p:Addr}{H H':Hp}{C dx:Addr}{fs:List (Str×V)}(e:ExtBut p H H')(hp:H p=some (.ins C dx fs)):Fz H H':=Yw e λxs h=>by
 rcases h with h|⟨o,h⟩
 . rw[hp] at h;cases h
 rw[hp] at h;cases h
def Knw (ns:List Str) (ps:List (Str×Str)) (kvs:List (Key×V)):Prop:=(kvs.map (·.1)).Nodup /\
 (∀ kv∈kvs,∃ q:Str->Bool,kv.1=Sum.inl ((B3 ns q:Nat):Int)/\kv.2=V.int ((cnt (Ab ps) (ns.filter q):Nat):Int))/\Ck kvs (Sum.inl 0:Key)=some (.int 1)
theorem T9 {κ:Type}[DecidableEq κ]:∀ {kvs:List (κ×V)} {k:κ} {v:V},Ck kvs k=some v->(k,v)∈kvs
 | [],k,v,h=>by cases h
 |p :: r,k,v,h=>by
   by_cases e:p.1=k
   . rw[Bh e] at h
     cases h;rw[<- e];exact A0D
   rw[Bc e] at h;exact A09 _ (T9 h)
theorem Knw.get {ns:List Str}{ps:List (Str×Str)}{kvs:List (Key×V)}(h:Knw ns ps kvs){q:Str->Bool}{v:V}(e:Ck kvs (Sum.inl ((B3 ns q:Nat):Int):Key)=some v):v = .int ((cnt (Ab ps) (ns.filter q):Nat):Int):=by
 obtain⟨F,h1,h2⟩:=h.2.1 _ (T9 e)
 have J:B3 ns F=B3 ns q:=by have:=A3D h1;omega
 have O:ns.filter F=ns.filter q:=A1J λx U=>Lf J x U;rw[O] at h2;exact h2
theorem Knw.len {ns:List Str}{ps:List (Str×Str)}{kvs:List (Key×V)}(h:Knw ns ps kvs)(hf:ns.length<=10):kvs.length<=1024:=by
 have:=C1 (ys:=(List.range 1024).map λi=>(Sum.inl ((i:Nat):Int):Key)) h.1 λk F=>by obtain⟨kv,J,rfl⟩:=A0I.mp F;obtain⟨q,h1,_⟩:=h.2.1 kv J;rw[h1];have h2:=X1 q ns;have O:(2:Nat) ^ ns.length<=2 ^ 10:=A28 nofun hf;exact A0I.mpr ⟨B3 ns q,A23.mpr ∅,rfl⟩
 rwa [A01,A01,A1V] at this
theorem Knw.put {ns:List Str}{ps:List (Str×Str)}{kvs:List (Key×V)}(h:Knw ns ps kvs)(q:Str->Bool) :
  Knw ns ps (Ge kvs (Sum.inl ((B3 ns q:Nat):Int)) (.int ((cnt (Ab ps) (ns.filter q):Nat):Int))):=by
 cases e:Ck kvs (Sum.inl ((B3 ns q:Nat):Int):Key) with
 |some v=>
   have hp:Ge kvs (Sum.inl ((B3 ns q:Nat):Int):Key) (.int ((cnt (Ab ps) (ns.filter q):Nat):Int))=kvs:=by
    unfold Ge;rw[Ih,e,A0X (show(some v).isSome=true from rfl)]
    conv=>rhs;rw[<- List.map_id kvs]
    apply A0Z;intro kv F
    by_cases c:kv.1=Sum.inl ((B3 ns q:Nat):Int)
    . rw[A0X c];obtain⟨J,h1,h2⟩:=h.2.1 kv F;rw[h1] at c
      have O:B3 ns J=B3 ns q:=by have:=A3D c;omega
      have U:ns.filter J=ns.filter q:=A1J λx Y=>Lf O x Y;rw[<- U,<- h2];rfl
    rw[A0P c];rfl
   rw[hp];exact h
 |none=>
   refine⟨av2 _ h.1 e,λkv F=>?_,?_⟩
   . rw[Jv _ e] at F;rcases A0A.mp F with F|F
     . exact h.2.1 kv F
     have:kv=(Sum.inl ((B3 ns q:Nat):Int),V.int ((cnt (Ab ps) (ns.filter q):Nat):Int)):=by simpa using F
     subst this;exact⟨q,rfl,rfl⟩
   rw[am4]
   by_cases c:(Sum.inl 0:Key)=Sum.inl ((B3 ns q:Nat):Int)
   . rw[<- c,h.2.2] at e
     cases e
   rw[A0P c];exact h.2.2
theorem Knw.new (ns:List Str)(ps:List (Str×Str)):Knw ns ps [(Sum.inl 0,V.int 1)]:=by
 refine⟨by simp,λkv q=>?_,Bh rfl⟩;have:kv=(Sum.inl 0,V.int 1):=by simpa using q
 subst this;refine⟨λ_=>false,?_,?_⟩
 . rw[binM_zero.mpr λ_ _=>rfl];rfl
 have:ns.filter (λ_=>false)=[]:=by simp
 rw[this,cnt_nil];rfl
structure WaysAt (K:W.Frag)(C:Addr)(H:Hp)(p dx:Addr)(nv:V)(bd ad kd:Addr)(ns:List Str)(ps:List (Str×Str))(kvs:List (Key×V)):Prop where
 ob:H p=some (.ins C dx [("names",nv),("bits",.ref bd),("ahead",.ref ad),("full",.int ((B3 ns (λ_=>true):Nat):Int)),("known",.ref kd)])
 nm:Is K H (nmD ns) nv
 bt:H bd=some (.dK (aD4 ns))
 ah:H ad=some (.dK (ahK ns ps))
 kn:H kd=some (.dK kvs)
 nb:bd≠kd
 na:ad≠kd
 ok:Knw ns ps kvs
section
variable {K:W.Frag}{C:Addr}{H H':Hp}{p dx:Addr}{nv:V}{bd ad kd:Addr}{ns:List Str}{ps:List (Str×Str)}{kvs kvs':List (Key×V)}
theorem WaysAt.same (h:WaysAt K C H p dx nv bd ad kd ns ps kvs)(e:Same H H'):WaysAt K C H' p dx nv bd ad kd ns ps kvs:=
 ⟨e _ _ h.ob,h.nm.nm_fz e.fz,e _ _ h.bt,e _ _ h.ah,e _ _ h.kn,h.nb,h.na,h.ok⟩
theorem WaysAt.pk (h:WaysAt K C H p dx nv bd ad kd ns ps kvs):p≠kd:=ne_of h.ob h.kn (by intro z;cases z)
theorem WaysAt.put (h:WaysAt K C H p dx nv bd ad kd ns ps kvs)(e:ExtBut kd H H')(q:H' kd=some (.dK kvs'))(ok:Knw ns ps kvs'):WaysAt K C H' p dx nv bd ad kd ns ps kvs':=
 ⟨e _ _ h.pk h.ob,h.nm.nm_fz (e.fzD h.kn),e _ _ h.nb h.bt,e _ _ h.na h.ah,q,h.nb,h.na,ok⟩
theorem WaysAt.list {l:Addr}{xs:List V}(h:WaysAt K C H p dx nv bd ad kd ns ps kvs)(e:ExtBut l H H')(q:H l=some (.lst xs)):WaysAt K C H' p dx nv bd ad kd ns ps kvs:=
 ⟨e _ _ (ne_of h.ob q (by intro z;cases z)) h.ob,h.nm.nm_fz (e.fzL q),e _ _ (ne_of h.bt q (by intro z;cases z)) h.bt,e _ _ (ne_of h.ah q (by intro z;cases z)) h.ah,e _ _ (ne_of h.kn q (by intro z;cases z)) h.kn,h.nb,h.na,h.ok⟩
end
theorem ax0 {ps:List (Str×Str)}(x y z:Str)(h:Ab ps x y=true)(g:Ab ps y z=true):Ab ps x z=true:=wayB_iff.mpr ((wayB_iff.mp h).trans (wayB_iff.mp g))
section
variable {α:Type}[DecidableEq α]
theorem Zn (b:α->α->Bool)(ns:List α){q:List (List α)}{j:Nat}{row:List α}(h:q[j]? = some row):Gx b ns (q.take (j+1))=Gx b ns (q.take j)++(frF b (G7 ns row)).map λx=>row++[x]:=by rw[A0R,h];unfold Gx;rw[A2E];simp
theorem Uf (b:α->α->Bool)(ns:List α):∀(i:Nat) (row:List α),row∈Fc b ns i [[]]->row.length=i
 |0,row,h=>by
   have:row=[]:=by simpa[Fc] using h
   subst this;rfl
 |i+1,row,h=>by rw[Hv] at h;unfold Gx at h;obtain⟨r,q,F⟩:=A2G.mp h;obtain⟨x,_,rfl⟩:=A0I.mp F;rw[A06,Uf b ns i r q];rfl
end
theorem Way.last {ps:List (Str×Str)}{x y:Str}(h:Way ps x y):∃ m,(m,y)∈ps/\(x=m\/Way ps x m):=by
 induction h with
 |one e=>exact⟨_,e,.inl rfl⟩
 |cons e _ ih=>
   obtain⟨m,h1,h2⟩:=ih;refine⟨m,h1,.inr ?_⟩;rcases h2 with rfl|h2
   . exact .one e
   exact .cons e h2
section
variable {α:Type}[DecidableEq α]
end
def J5 (ns:List Str)(ct:List ((Str->Bool)×Nat)):List (Key×V):=ct.map λe=>((Sum.inl ((B3 ns e.1:Nat):Int):Key),V.int ((e.2:Nat):Int))
def Ie (ns:List Str)(F:List Str->Nat)(ct:List ((Str->Bool)×Nat)):Nat:=(ct.map λe=>e.2*F (ns.filter e.1)).sum
def Sz (ns:List Str)(ct:List ((Str->Bool)×Nat)):Prop:=((J5 ns ct).map (·.1)).Nodup
theorem C6 (ns:List Str)(F:List Str->Nat)(e:(Str->Bool)×Nat)(r:List ((Str->Bool)×Nat)):Ie ns F (e :: r)=e.2*F (ns.filter e.1)+Ie ns F r:=by unfold Ie;rw[List.map_cons,List.sum_cons]
theorem aC3 {p:Key×V}{r:List (Key×V)}{k:Key}{v:V}(h:¬ p.1=k):Ge (p :: r) k v=p :: Ge r k v:=by
 unfold Ge;rw[A2J,A0S h,Bool.false_or]
 by_cases c:(r.any λkv=>decide (kv.1=k))=true
 . rw[A0X c,A0X c,A0H,A0P h]
 rw[A0P c,A0P c];rfl
theorem ay5 {p:Key×V}{r:List (Key×V)}{v:V}(h:p.1∉r.map (·.1)):Ge (p :: r) p.1 v=(p.1,v) :: r:=by
 unfold Ge;rw[A2J,A16 rfl,Bool.true_or,A0X rfl,A0H,A0X rfl];congr 1
 conv=>rhs;rw[<- List.map_id r]
 apply A0Z;intro kv F;rw[A0P λq=>h (A0I.mpr ⟨kv,F,q⟩)];rfl
theorem ae9 (ns:List Str) (q:Str->Bool) (c:Nat):∀ {ct:List ((Str->Bool)×Nat)},Sz ns ct->∃(U:Nat) (J:List ((Str->Bool)×Nat)),
  (Ck (J5 ns ct) (Sum.inl ((B3 ns q:Nat):Int):Key)).getD (.int 0) = .int ((U:Nat):Int)/\J5 ns J=Ge (J5 ns ct) (Sum.inl ((B3 ns q:Nat):Int)) (.int (((U+c:Nat)):Int)) /\
  (∀ k,k∈(J5 ns J).map (·.1)↔k∈(J5 ns ct).map (·.1)\/k=Sum.inl ((B3 ns q:Nat):Int))/\Sz ns J/\∀ F,Ie ns F J=Ie ns F ct+c*F (ns.filter q)
 | [],_=>⟨0,[(q,c)],rfl,by rw[Nat.zero_add];rfl,λk=>by simp[J5],by unfold Sz J5;simp,λF=>by unfold Ie;simp⟩
 |e :: r,h=>by
   have h:((Sum.inl ((B3 ns e.1:Nat):Int):Key) :: (J5 ns r).map (·.1)).Nodup:=h;obtain⟨h1,h2⟩:=A0Y.mp h
   by_cases O:B3 ns e.1=B3 ns q
   . have hf:ns.filter e.1=ns.filter q:=A1J λx hx=>Lf O x hx;refine⟨e.2,(e.1,e.2+c) :: r,?_,?_,λk=>?_,h,λF=>?_⟩
     . show(Ck ((Sum.inl ((B3 ns e.1:Nat):Int),V.int ((e.2:Nat):Int)) :: J5 ns r) _).getD _=_;rw[Bh (by rw[O])];rfl
     . show(Sum.inl ((B3 ns e.1:Nat):Int),V.int ((e.2+c:Nat):Int)) :: J5 ns r=Ge ((Sum.inl ((B3 ns e.1:Nat):Int),V.int ((e.2:Nat):Int)) :: J5 ns r) _ _;rw[<- O,ay5 (p:=(Sum.inl ((B3 ns e.1:Nat):Int),V.int ((e.2:Nat):Int))) h1]
     . show k∈(Sum.inl ((B3 ns e.1:Nat):Int):Key) :: (J5 ns r).map (·.1)↔k∈(Sum.inl ((B3 ns e.1:Nat):Int):Key) :: (J5 ns r).map (·.1)\/_;constructor
       . exact .inl
       rintro(h|h)
       . exact h
       rw[h,O];simp
     rw[C6,C6];show(e.2+c)*F (ns.filter e.1)+_=_;rw[hf,A2D];omega
   have Y:¬ (Sum.inl ((B3 ns e.1:Nat):Int):Key)=Sum.inl ((B3 ns q:Nat):Int):=λz=>O (by have:=A3D z;omega);obtain⟨U,J,g1,g2,Z,g4,g5⟩:=ae9 ns q c h2;refine⟨U,e :: J,?_,?_,λk=>?_,?_,λF=>?_⟩
   . show(Ck ((Sum.inl ((B3 ns e.1:Nat):Int),V.int ((e.2:Nat):Int)) :: J5 ns r) _).getD _=_;rw[Bc Y];exact g1
   . show(Sum.inl ((B3 ns e.1:Nat):Int),V.int ((e.2:Nat):Int)) :: J5 ns J=Ge ((Sum.inl ((B3 ns e.1:Nat):Int),V.int ((e.2:Nat):Int)) :: J5 ns r) _ _;rw[aC3 Y,g2]
   . show k∈(Sum.inl ((B3 ns e.1:Nat):Int):Key) :: (J5 ns J).map (·.1)↔k∈(Sum.inl ((B3 ns e.1:Nat):Int):Key) :: (J5 ns r).map (·.1)\/_;rw[A0B,A0B,Z];constructor
     . rintro(h|h|h)
       . exact .inl (.inl h)
       . exact .inl (.inr h)
       exact .inr h
     rintro((h|h)|h)
     . exact .inl h
     . exact .inr (.inl h)
     exact .inr (.inr h)
   . show((Sum.inl ((B3 ns e.1:Nat):Int):Key) :: (J5 ns J).map (·.1)).Nodup;refine A0Y.mpr ⟨λhm=>?_,g4⟩;rcases(Z _).mp hm with hm|hm
     . exact h1 hm
     exact Y hm
   rw[C6,C6,g5];omega
theorem ay6 {ns:List Str}{ct:List ((Str->Bool)×Nat)}(h:Sz ns ct)(hf:ns.length<=10):ct.length<=1024:=by
 have:=C1 (ys:=(List.range 1024).map λi=>(Sum.inl ((i:Nat):Int):Key)) h λk q=>by obtain⟨kv,F,rfl⟩:=A0I.mp q;obtain⟨e,_,rfl⟩:=A0I.mp F;have h2:=X1 e.1 ns;have J:(2:Nat) ^ ns.length<=2 ^ 10:=A28 nofun hf;exact A0I.mpr ⟨B3 ns e.1,A23.mpr ∅,rfl⟩
 unfold J5 at this;rwa[A01,A01,A01,A1V] at this
section
variable {K:W.Frag}{σ:St}{H:Hp}{Q:VK}{td ty tx:TE}
def at9 (ty tx:TE)(σ:St):V->Hp->VK->Prop:=λx H1 Q=>∃ a,x = .ref a/\IsD H1 a/\ty σ H1 λy H2=>tx σ H2 λz q=>∃ o,DGet q a y o/\Q (o.getD z) q
theorem i_dget2 (k:td σ H λx H1=>at9 ty tx σ x H1 Q):at6 td ty tx σ H Q:=k
theorem al9 {a:Addr}{kvs:List (Key×V)}(h:H a=some (.dK kvs))(k:ty σ H λy H2=>tx σ H2 λz q=>∃ o,DGet q a y o/\Q (o.getD z) q):at9 ty tx σ (.ref a) H Q:=⟨a,rfl,.inl ⟨kvs,.inl h⟩,k⟩
theorem ax3 {a:Addr}{kvs:List (Key×V)}{z:Int}{v:V}(h:Rd H a (.dK kvs))(e:Ck kvs (Sum.inl z:Key)=some v)(k:Q v H):Qm K (.ref a) (.int z) H Q:=.inr ⟨a,v,rfl,.inl ⟨kvs,Sum.inl z,h,rfl,e.symm⟩,k⟩
end
section
variable {K:W.Frag}{C:Addr}{H H':Hp}{p dx:Addr}{nv:V}{bd ad kd:Addr}{ns:List Str}{ps:List (Str×Str)}{kvs:List (Key×V)}
end
section
variable {K:W.Frag}{σ:St}{H:Hp}{Q:VK}
end
theorem Pw {prog:Program}{w:World}{κ:Type}[DecidableEq κ](knd:KeyKind prog w κ)(d:Addr) :
  MeetsIn prog w (Builtin.«dict.update» ⟨[.ref d,.ref d],[]⟩) (λ_ R s=>(∃ kvs,s.heap.DictOf knd d kvs)/\R (.ok (.ret .none)) s):=
 .of_wp λA R s q=>by obtain⟨⟨kvs,hd⟩,h⟩:=q;unfold Builtin.«dict.update» Builtin.Dict.selfAndRest;refine A05 (A05 (wpAny_notOrdered_dict hd.typeIs ?_));show wpAny _ _ (pure (d,[Value.ref d])) _ _ s;refine A0C ?_;show wpAny _ _ (Builtin.Dict.updateFrom "dict.update" d (.ref d) [] .none) _ _ s;unfold Builtin.Dict.updateFrom Builtin.Dict.merge Builtin.Dict.readDirectly;refine A05 (A3H hd.typeIs ?_);rw[A0P nofun];refine A05 (A05 (A05 (wpAny_isInstance hd.typeIs isSubtype_dict_dict ?_)));simp only[Bool.not_true,Bool.false_eq_true,if_false];refine A05 (wpAny_specialOf hd.typeIs F.slot_dict_iter.lookup (A0C ?_));simp only[beq_self_eq_true,if_true];refine A05 (A0C ?_);unfold Builtin.Dict.mergeDict;rw[if_pos (by simp)];refine A05 (wpAny_rule (A0C ?_));show wpAny _ _ (Builtin.Dict.addKeywords d [] >>= _) _ _ _;exact A05 (A0C (A0C ⟨.none,rfl,h⟩))
def Xx:V->List V->Hp->VK->Prop:=λx vs H Q=>∃ d kvs,x = .ref d/\vs=[.ref d]/\H d=some (.dK kvs)/\Q .non H
def Rc:V->List V->Hp->VK->Prop:=λx vs H Q=>Wr x vs H Q\/Xx x vs H Q
section
variable {X:Cx}{K:W.Frag}
theorem Zq:MtM X "dict.update" Xx:=by
 intro pins s σ H x vs v us Q I Z Y h;obtain⟨d,kvs,rfl,rfl,O,q⟩:=h
 cases Z;obtain⟨u,rfl,U⟩:=Y.one
 cases U;obtain⟨z1,a1,a0,a2,J⟩:=Vi I.hok O;refine A3W F.slot_dict_update J.typeIs F.entry_dict_update (F.args_dict_update_2 _ _) (Pw (Ax X.prog X.w) d) ⟨⟨a0,J⟩,?_⟩;exact⟨.non,H,I.tok s.toks,rfl,q⟩
theorem Qz:MtM X "dict.update" Rc:=by
 intro pins s σ H x vs v us Q I F q h;rcases h with h|h
 . exact ai4 pins s σ H x vs v us Q I F q h
 exact Zq pins s σ H x vs v us Q I F q h
end
theorem ac0 {d o:Addr}{ks ms:List Str}{H:Hp}{Q:VK}(hd:H d=some (.dK (Hh ks)))(F:H o=some (.dK (Hh ms)))(q:d≠o)(hz:ks.length+ms.length<=1000000)(k:∀ H',ExtBut d H H'->H' d=some (.dK (Hh (Mj ks ms)))->Q .non H'):Rc (.ref d) [.ref o] H Q:=.inl (aT0 hd F q hz k)
theorem aL3 {d:Addr}{kvs:List (Key×V)}{H:Hp}{Q:VK}(hd:H d=some (.dK kvs))(k:Q .non H):Rc (.ref d) [.ref d] H Q:=.inr ⟨d,kvs,rfl,rfl,hd,k⟩
structure Pq (ns:List Str)(ps:List (Str×Str)):Prop where
 nd:ns.Nodup
 mem:∀ p∈ps,p.1∈ns/\p.2∈ns
 few:ns.length<=100
 le:ps.length<=1100
theorem HalfW.c {ns:List Str}{ps:List (Str×Str)}(h:HalfW ns ps):Pq ns ps:=⟨h.nd,h.mem,h.few,A0O h.le nofun⟩
instance {ns:List Str} {ps:List (Str×Str)}:Coe (HalfW ns ps) (Pq ns ps):=⟨HalfW.c⟩
theorem HalfW.more {ns:List Str}{ps:List (Str×Str)}(h:HalfW ns ps){x y:Str}(q:x∈ns)(F:y∈ns):Pq ns (ps++[(x,y)]):=by
 refine⟨h.nd,λp hp=>?_,h.few,?_⟩
 . rcases A0A.mp hp with hp|hp
   . exact h.mem p hp
   have:p=(x,y):=by simpa using hp
   rw[this];exact⟨q,F⟩
 have:=h.le;rw[A06,A14];omega
section
variable {α:Type}[DecidableEq α]
def okR (b:α->α->Bool) (r:List α):Prop:=(∀ u∈r,b u u=false)/\r.Pairwise λu v=>b v u=false
theorem Ud {L:List α}(hn:L.Nodup){x:α}(J:x∈L):(x :: Ai L x).Perm L:=by
 induction L with
 |nil=>cases J
 |cons y ys ih=>
   obtain⟨h1,h2⟩:=A0Y.mp hn
   by_cases e:y=x
   . subst e
     have:Ai (y :: ys) y=ys:=by
      have F:Ai (y :: ys) y=Ai ys y:=by unfold Ai;rw[List.filter_cons,if_neg (by simp)]
      rw[F,Tb h1]
     rw[this]
   have F:Ai (y :: ys) x=y :: Ai ys x:=by unfold Ai;rw[List.filter_cons,if_pos (by simp[e])]
   rw[F];exact(List.Perm.swap y x _).trans ((ih h2 ((A0B.mp J).resolve_left λq=>e q.symm)).cons y)
theorem Cr (b:α->α->Bool):∀(n:Nat) (L r:List α),L.Nodup->L.length=n->(r∈ext b n L↔r.Perm L/\okR b r)
 |0,L,r,_,hl=>by
   have:=A1B.mp hl;subst this;constructor
   . intro h;have:r=[]:=by simpa[ext] using h
     subst this;exact⟨.refl _,(λ_ h=>by cases h),List.Pairwise.nil⟩
   rintro⟨h,_⟩;have:r=[]:=List.perm_nil.mp h;subst this;simp[ext]
 |n+1,L,r,hn,hl=>by
   constructor
   . intro h;obtain⟨x,hx,h⟩:=A2G.mp h;obtain⟨t,Y,rfl⟩:=A0I.mp h;have q:=mem_frF.mp hx;have O:=Bd hn q.1;obtain⟨h1,h2,J⟩:=(Cr b n (Ai L x) t (B9 hn x) ∅).mp Y;refine⟨(h1.cons x).trans (Ud hn q.1),λu hu=>?_,A2L.mpr ⟨λv Z=>q.2 v (mem_lessF.mp (h1.mem_iff.mp Z)).1,J⟩⟩;rcases A0B.mp hu with rfl|hu
     . exact q.2 u q.1
     exact h2 u hu
   rintro⟨hp,hd,U⟩
   cases r with
   |nil=>
     have:=hp.length_eq;rw[hl] at this
     cases this
   |cons x t=>
     have q:x∈L:=hp.mem_iff.mp (by simp);have O:=Bd hn q;have F:t.Perm (Ai L x):=List.Perm.cons_inv (hp.trans (Ud hn q).symm);obtain⟨q1,q2⟩:=A2L.mp U;refine List.mem_flatMap.mpr ⟨x,mem_frF.mpr ⟨q,λy hy=>?_⟩,List.mem_map.mpr ⟨t,(Cr b n (Ai L x) t (B9 hn x) ∅).mpr ⟨F,λu hu=>hd u (by simp[hu]),q2⟩,rfl⟩⟩
     by_cases e:y=x
     . rw[e];exact hd x (by simp)
     exact q1 y (F.mem_iff.mpr (mem_lessF.mpr ⟨hy,e⟩))
theorem Fs (b:α->α->Bool):∀(n:Nat) (L:List α),L.Nodup->(ext b n L).Nodup
 |0,L,_=>by simp[ext]
 |n+1,L,hn=>by
   show((frF b L).flatMap λx=>(ext b n (Ai L x)).map (x :: ·)).Nodup
   have U:∀ l:List α,l.Nodup->(l.flatMap λx=>(ext b n (Ai L x)).map (x :: ·)).Nodup:=by
    intro l
    induction l with
    |nil=>intro _;simp
    |cons y ys ih=>
      intro F;obtain⟨h1,h2⟩:=A0Y.mp F;rw[A1Q,A1G];refine⟨?_,ih h2,?_⟩
      . have hi:=Fs b n (Ai L y) (B9 hn y);exact List.pairwise_map.mpr (hi.imp λJ e=>J (A37 e).2)
      intro r O t q e;obtain⟨r',_,rfl⟩:=A0I.mp O;obtain⟨z,hz,q⟩:=A2G.mp q;obtain⟨t',_,rfl⟩:=A0I.mp q;have:y=z:=(A37 e).1;exact h1 (this ▸ hz)
   exact U _ (a59 hn)
theorem Lo {β:Type}[DecidableEq β]{xs ys:List β}(h1:xs.Nodup)(h2:ys.Nodup)(h:∀ z,z∈xs↔z∈ys):xs.length=ys.length:=
 Nat.le_antisymm (C1 h1 λz hz=>(h z).mp hz) (C1 h2 λz hz=>(h z).mpr hz)
end
theorem K1:∀ {r:List Str} {x:Str},x∈r->r[r.idxOf x]? = some x/\(∀ m<r.idxOf x,r[m]? ≠ some x)/\r.idxOf x<r.length
 | [],_,h=>by cases h
 |y :: ys,x,h=>by
   rw[List.idxOf_cons]
   by_cases e:y=x
   . subst e;simp
   have hb:(y==x)=false:=by simpa using e
   obtain⟨h1,h2,F⟩:=K1 ((A0B.mp h).resolve_left λq=>e q.symm);rw[hb];refine⟨h1,λm hm=>?_,by simpa using F⟩
   cases m with
   |zero=>simpa using e
   |succ m=>exact h2 m (by simpa using hm)
theorem Li {ns r:List Str}{ps:List (Str×Str)}(hn:ns.Nodup)(hm:∀ p∈ps,p.1∈ns/\p.2∈ns)(hp:r.Perm ns):okR (Ab ps) r↔∀ p∈ps,r.idxOf p.1<r.idxOf p.2:=by
 have a0:r.Nodup:=hp.nodup_iff.mpr hn;constructor
 . rintro⟨h1,h2⟩ p U;obtain⟨m1,m2⟩:=hm p U;obtain⟨F,_,Z⟩:=K1 (hp.mem_iff.mpr m1);obtain⟨J,_,b3⟩:=K1 (hp.mem_iff.mpr m2);have q:Ab ps p.1 p.2=true:=wayB_iff.mpr (.one U);have a4:=(A00.mp F).2;have b4:=(A00.mp J).2;rcases Nat.lt_trichotomy (r.idxOf p.1) (r.idxOf p.2) with h|h|h
   . exact h
   . have e:p.1=p.2:=by rw[h,J] at F;exact(A13 F).symm
     rw[e] at q;rw[h1 p.2 (hp.mem_iff.mpr m2)] at q
     cases q
   have:=List.pairwise_iff_getElem.mp h2 _ _ b3 Z h;rw[a4,b4] at this;rw[this] at q
   cases q
 intro h
 have q:∀ u v,Way ps u v->r.idxOf u<r.idxOf v:=λu v g=>by
  induction g with
  |one e=>exact h _ e
  |cons e _ ih=>exact A49 (h _ e) ih
 refine⟨λu hu=>?_,List.pairwise_iff_getElem.mpr λi j hi hj a2=>?_⟩
 . cases c:Ab ps u u with
   |false=>rfl
   |true=>exact absurd (q u u (wayB_iff.mp c)) (A1O _)
 cases c:Ab ps r[j] r[i] with
 |false=>rfl
 |true=>
   have g:=q _ _ (wayB_iff.mp c)
   have Y:∀ k (O:k<r.length),r.idxOf r[k]=k:=λk O=>by obtain⟨f1,_,f3⟩:=K1 (A4L O);exact(A1H a0).mp (A00.mp f1).2
   rw[Y j hj,Y i hi] at g;omega
theorem Jp {ns:List Str}{ps:List (Str×Str)}(h:HalfW ns ps){x y:Str}(Y:x∈ns)(Z:y∈ns):cnt (Ab (ps++[(x,y)])) ns=((ext (Ab ps) ns.length ns).filter λr=>decide (r.idxOf x<r.idxOf y)).length:=by
 refine Lo (Fs _ _ _ h.nd) (A25 A1U (Fs _ _ _ h.nd)) λr=>?_;rw[A0N,Cr _ _ _ _ h.nd rfl,Cr _ _ _ _ h.nd rfl,A3N]
 have J:∀ hp:r.Perm ns,okR (Ab (ps++[(x,y)])) r↔okR (Ab ps) r/\r.idxOf x<r.idxOf y:=λhp=>by
  rw[Li h.nd (h.more Y Z).mem hp,Li h.nd h.mem hp];constructor
  . intro g;exact⟨λp q=>g p (List.mem_append_left _ q),g (x,y) (by simp)⟩
  rintro⟨O,U⟩ p q;rcases A0A.mp q with q|q
  . exact O p q
  have:p=(x,y):=by simpa using q
  rw[this];exact U
 constructor
 . rintro⟨hp,F⟩;exact⟨⟨hp,((J hp).mp F).1⟩,((J hp).mp F).2⟩
 rintro⟨⟨hp,F⟩,hi⟩;exact⟨hp,(J hp).mpr ⟨F,hi⟩⟩
theorem Sr {ns:List Str}{ps:List (Str×Str)}(h:HalfW ns ps){x y:Str}(q:x∈ns)(F:y∈ns)(a0:x≠y):cnt (Ab (ps++[(x,y)])) ns+cnt (Ab (ps++[(y,x)])) ns=cnt (Ab ps) ns:=by
 rw[Jp h q F,Jp h F q]
 have a2:∀ l:List (List Str),(∀ r∈l,r.idxOf x≠r.idxOf y)->(l.filter λr=>decide (r.idxOf x<r.idxOf y)).length+(l.filter λr=>decide (r.idxOf y<r.idxOf x)).length=l.length:=by
  intro l
  induction l with
  |nil=>intro _;rfl
  |cons r rs ih=>
    intro g;have U:=g r (by simp);have g2:=ih λt Z=>g t (by simp[Z]);rw[A1A,A1A,A0G];rcases Nat.lt_or_gt_of_ne U with c|c
    . rw[A0X (A16 c),A0P (by rw[A0S ∅];decide),A0G];omega
    rw[A0P (by rw[A0S ∅];decide),A0X (A16 c),A0G];omega
 refine a2 _ λr Y e=>a0 ?_;obtain⟨hp,_⟩:=(Cr _ _ _ _ h.nd rfl).mp Y;obtain⟨J,_,_⟩:=K1 (hp.mem_iff.mpr q);obtain⟨O,_,_⟩:=K1 (hp.mem_iff.mpr F);rw[e,O] at J;exact(A13 J).symm
section
variable {prog:Program}{w:World}{A:Around}{E:Value->Shared->Prop}{I:Addr}{fp wr:List Addr}{n:Nat}{P:Nat->Value->Prop}{St:Nat->Heap->Prop}
end
section
variable {α:Type}[DecidableEq α]
theorem an8 {b:α->α->Bool}{L M:List α}(hn:L.Nodup)(hp:M.Perm L):cnt b M=cnt b L:=by
 have hm:M.Nodup:=hp.nodup_iff.mpr hn;unfold cnt;refine Lo (Fs _ _ _ hm) (Fs _ _ _ hn) λr=>?_;rw[Cr _ _ _ _ hm rfl,Cr _ _ _ _ hn rfl];constructor
 . rintro⟨h1,h2⟩;exact⟨h1.trans hp,h2⟩
 rintro⟨h1,h2⟩;exact⟨h1.trans hp.symm,h2⟩
theorem ah7 {b c:α->α->Bool}{L:List α}(h:∀ x∈L,∀ y∈L,b x y=c x y):frF b L=frF c L:=by
 unfold frF;apply A1J;intro x F
 have:(L.any λy=>b y x)=L.any λy=>c y x:=by
  rw[A2B,A1E,A1E];constructor
  . rintro⟨y,q,e⟩;exact⟨y,q,by rw[<- h y q x F];exact e⟩
  rintro ⟨y,q,e⟩;exact⟨y,q,by rw[h y q x F];exact e⟩
 rw[this]
theorem Vn {b c:α->α->Bool}:∀(n:Nat) {L:List α},L.length=n->L.Nodup->(∀ x∈L,∀ y∈L,b x y=c x y)->cnt b L=cnt c L
 |0,L,hl,_,_=>by have:=A1B.mp hl;subst this;rfl
 |n+1,L,hl,hn,h=>by
   have q:L≠[]:=by intro e;rw[e] at hl;cases hl
   rw[Ld hn q,Ld hn q,ah7 h];apply W6;intro x J;have:=Bd hn (mem_frF.mp J).1;exact Vn n ∅ (B9 hn x) λu hu v F=>h u (mem_lessF.mp hu).1 v (mem_lessF.mp F).1
theorem Uy (A B:List α)(x:α):Ai (A++B) x=Ai A x++Ai B x:=by unfold Ai;rw[List.filter_append]
theorem ad5 {l:List α}{p:α->Bool}(h:∀ x∈l,p x=false):l.any p=false:=by
 rw[Bool.eq_false_iff];intro e;obtain ⟨x,q,hp⟩:=A1E.mp e;rw[h x q] at hp
 cases hp
theorem Vt {b:α->α->Bool}:∀(n:Nat) {A B:List α},A.length=n->(A++B).Nodup->(∀ x∈A,∀ y∈B,b x y=true/\b y x=false)->cnt b (A++B)=cnt b A*cnt b B
 |0,A,B,hl,_,_=>by have:=A1B.mp hl;subst this;rw[A44,cnt_nil,Nat.one_mul]
 |n+1,A,B,hl,hn,h=>by
   obtain⟨q,hB,Y⟩:=A1G.mp hn;have F:A≠[]:=by intro e;rw[e] at hl;cases hl
   have a1:A++B≠[]:=by simp[F]
   have a0:frF b (A++B)=frF b A:=by
    unfold frF;rw[A1X]
    have e1:(A.filter λx=>!((A++B).any λy=>b y x))=A.filter λx=>!(A.any λy=>b y x):=by apply A1J;intro x O;rw[List.any_append,ad5 (l:=B) λy U=>(h x O y U).2,Bool.or_false]
    have e2:(B.filter λx=>!((A++B).any λy=>b y x))=[]:=by
     rw [A4O];intro y U
     cases A with
     |nil=>exact absurd rfl F
     |cons a A=>have:((a :: A++B).any λz=>b z y)=true:=List.any_eq_true.mpr ⟨a,by simp,(h a (by simp) y U).1⟩;rw[this];decide
    rw[e1,e2,A2C]
   rw[Ld hn a1,a0,Ld q F,<- Xl];apply W6;intro x O;have Z:=(mem_frF.mp O).1;have a2:x∉B:=λhb=>Y x Z x hb rfl;have a3:=Bd q Z;rw[Uy,Tb a2];refine Vt n ∅ ?_ λu hu v J=>h u (mem_lessF.mp hu).1 v J;rw[A1G];exact⟨B9 q x,hB,λu hu v J=>Y u (mem_lessF.mp hu).1 v J⟩
end
section
variable {prog:Program}{w:World}{A:Around}{E:Value->Shared->Prop}{s:Shared}
end
section
variable {κ:Type}[DecidableEq κ]
end
theorem Lq {α:Type}[DecidableEq α]{b:α->α->Bool}(irr:∀ x,b x x=false)(F:∀ x y z,b x y=true->b y z=true->b x z=true):∀(n:Nat) (L:List α),L.length=n->L.Nodup->0<cnt b L
 |0,L,hl,_=>by have:=A1B.mp hl;subst this;exact Nat.zero_lt_one
 |n+1,L,hl,hn=>by
   have q:L≠[]:=by intro e;rw[e] at hl;cases hl
   rw[Ld hn q]
   cases hf:frF b L with
   |nil=>exact absurd hf (aM9 irr F q)
   |cons x t=>
     have J:x∈frF b L:=by rw[hf];simp
     have:=Bd hn (mem_frF.mp J).1;have:=Lq irr F n (Ai L x) ∅ (B9 hn x);rw[A0H,A1F];omega
theorem ar0 {α:Type}[DecidableEq α]{b:α->α->Bool}(irr:∀ x,b x x=false)(q:∀ x y z,b x y=true->b y z=true->b x z=true):∀(i:Nat) (L:List α),L.Nodup->i<=L.length->(ext b i L).length<=cnt b L
 |0,L,hn,_=>Lq irr q _ L rfl hn
 |i+1,L,hn,hi=>by
   have F:L≠[]:=by intro e;rw[e] at hi;simp at hi
   rw[Ld hn F]
   have e:(ext b (i+1) L).length=((frF b L).map λx=>(ext b i (Ai L x)).length).sum:=by show((frF b L).flatMap λx=>(ext b i (Ai L x)).map (x :: ·)).length=_;rw[A5A];congr 1;apply A0Z;intro x _;rw[A01]
   rw[e];apply Y1;intro x J;have:=Bd hn (mem_frF.mp J).1;exact ar0 irr q i (Ai L x) (B9 hn x) ∅
theorem Vh {α:Type}[DecidableEq α](b:α->α->Bool)(ns:List α)(k:Nat):Fc b ns k [[]]=ext b k ns:=by rw[Yp,a84];simp
theorem aw2 {α:Type}[DecidableEq α]{b:α->α->Bool}(irr:∀ x,b x x=false)(q:∀ x y z,b x y=true->b y z=true->b x z=true){ns:List α}(hn:ns.Nodup){i:Nat}(hi:i<=ns.length):(Fc b ns i [[]]).length<=cnt b ns:=by rw[Vh];exact ar0 irr q i ns hn hi
theorem Rl {α:Type}[DecidableEq α](b:α->α->Bool)(ns:List α)(q:List (List α))(j:Nat):(Gx b ns (q.take j)).length<=(Gx b ns q).length:=by
 have:Gx b ns q=Gx b ns (q.take j)++Gx b ns (q.drop j):=by unfold Gx;rw[<- A2E,A4V]
 rw[this,A06];omega
section
variable {α:Type}[DecidableEq α]
def Qh (b:α->α->Bool)(L:List α)(xs:List α):List (List α):=xs.flatMap λx=>(ext b (L.length-1) (Ai L x)).map (x :: ·)
theorem Yb (b:α->α->Bool){L:List α}(q:L≠[]):Qh b L (frF b L)=ext b L.length L:=by
 cases L with
 |nil=>exact absurd rfl q
 |cons y ys=>rfl
theorem ah0 (b:α->α->Bool)(L xs:List α)(x:α):Qh b L (xs++[x])=Qh b L xs++(ext b (L.length-1) (Ai L x)).map (x :: ·):=by unfold Qh;rw[A2E];simp
end
section
variable {X:Cx}
end
theorem aj7 {ps:List (Str×Str)}{x y a b:Str}(g:Way (ps++[(x,y)]) a b):Way ps a b\/((a=x\/Way ps a x)/\(y=b\/Way ps y b)):=by
 induction g with
 |one e=>
   rcases A0A.mp e with e|e
   . exact .inl (.one e)
   have e:=A0K.mp e
   cases e;exact .inr ⟨.inl rfl,.inl rfl⟩
 |cons e _ q=>
   rcases A0A.mp e with e'|e'
   . rcases q with q|⟨h1,h2⟩
     . exact .inl (.cons e' q)
     refine .inr ⟨.inr ?_,h2⟩;rcases h1 with h1|h1
     . exact .one (h1 ▸ e')
     exact .cons e' h1
   have F:=A0K.mp e'
   cases F;rcases q with q|⟨_,h2⟩
   . exact .inr ⟨.inl rfl,.inr q⟩
   exact .inr ⟨.inl rfl,h2⟩
theorem HalfW.said {ns:List Str}{ps:List (Str×Str)}(h:HalfW ns ps){x y:Str}(Y:x∈ns)(Z:y∈ns)(U:x≠y)(J:¬ Way ps y x)(O:ps.length+1<=1000):HalfW ns (ps++[(x,y)]):=by
 refine⟨h.nd,(h.more Y Z).mem,λz g=>?_,h.few,by rw[A06,A14];exact O⟩;rcases aj7 g with g|⟨F,q⟩
 . exact h.irr z g
 rcases F with rfl|F
 . rcases q with q|q
   . exact U q.symm
   exact J q
 rcases q with rfl|q
 . exact J F
 exact J (q.trans F)
def ItE (K:W.Frag)(a:Addr):It:=
 ⟨λi H=>∃ xs x,SqL K H a xs/\xs[i]? = some x,λi H v H'=>∃ t x,H t=none/\H'=upd H t (.tup [.int i,x])/\v = .ref t/\∀ xs,SqL K H a xs->xs[i]? = some x,λi H=>∃ xs,SqL K H a xs/\xs.length=i⟩
theorem Zb {P:Program}{w:World}{K:W.Frag}{a6:List Expr}{ek:Nat}{a7:Pos}(a it e:Addr)(a0:e≠it)(a2:a≠it)(aA:a≠e):aa3 P w K (.Tuple a6 ek a7) (ItE K a) [e,it] e (λi h=>(∃ old,IsEnum h e it i old)/\h.IsListIter it a i) where
 mem:=by simp
 obj:=λi h st b hb=>by
  obtain⟨⟨old,h1⟩,o,h2,h3,h4⟩:=st;rcases A0B.mp hb with rfl|hb
  . exact⟨_,h1,λv z=>by cases z⟩
  have q:b=it:=by simpa using hb
  subst q;exact⟨o,h2,λv z=>by rw[h4] at z;cases z⟩
 keep:=λi h h' st k=>by obtain⟨⟨old,h1⟩,h2⟩:=st;exact⟨⟨old,k e (by simp) _ h1⟩,h2.at λo q=>k it (by simp) o q⟩
 item:=by
  intro X hP hw Z hc i pins s σ H E I hf st hg;subst hP hw Z;obtain⟨xs,x,U,J⟩:=hg;obtain⟨F,Y,p,hz⟩:=I.list U
  have aD:i<F.length:=by have:=(A00.mp J).1;rw[<- Y.length];exact this
  have D:=Draws.list (prog:=X.prog) (w:=X.w) (A:=X.A.in1) (by simpa using I.ok.hd hc) it a a2 F.toArray;obtain⟨⟨old,he⟩,O⟩:=st;have a4:e<s.heap.objs.size:=A0F he;have aE:it<s.heap.objs.size:=let ⟨_,q,_⟩:=O;A0F q;refine wpAny_pyNext_enum_itemD D he ⟨O,(PlainL.isList p)⟩ (by simpa using aD) a0 (by simp[a0,Ne.symm aA]) λv h1 tk hv ho aG hT hsz hk=>?_;obtain⟨u,hu,ru⟩:=Y.get J
  have aH:v=u:=by have a5:F.toArray[i]? = some v:=hv;rw[A33,hu] at a5;exact(A13 a5).symm
  subst aH;refine⟨_,rfl,wpAny_letOwnedTupleGo_enum ho λh2 aC a1=>?_⟩;have a9:H s.heap.objs.size=none:=I.hok.fresh (A08 _);have a8:h2.get? s.heap.objs.size=some {cls:=.type "tuple",data:=.seq #[.int i tk,v]}:=(a1.2 _ (A4Q a4)).trans hT
  have I1:Inv X pins σ (upd H s.heap.objs.size (.tup [.int i,x])) {s with heap:=s.heap.push {cls:=.type "tuple",data:=.seq #[.int i tk,v]}}:=
   I.laid (t':=s.toks) (λb ob q=>Heap.get?_push_of_some _ q) (Nat.le_refl _) ⟨by simp[sizeLine_eq],[.int i tk,v],.cons ⟨tk,rfl⟩ (.cons ru .nil),_,Heap.get?_push_size _ rfl,rfl,⟨_,rfl⟩,rfl⟩
  have nT:∀ b∈[e,it],b≠s.heap.objs.size:=λb hb=>by
   rcases A0B.mp hb with rfl|hb
   . exact A11 a4
   have q:b=it:=by simpa using hb
   subst q;exact A11 aE
  have I2:Inv X pins σ (upd H s.heap.objs.size (.tup [.int i,x])) {s with heap:=h2,toks:=tk+1}:=Inv.turnedL (s:={s with heap:=s.heap.push {cls:=.type "tuple",data:=.seq #[.int i tk,v]}}) (ch:=[e,it]) I1 (λb ob hb q=>?_) (λb hb=>?_)
  . refine⟨.ref s.heap.objs.size,_,I2,rfl,⟨_,x,a9,rfl,rfl,λys hy=>by rw[I.list_inj hy U];exact J⟩,⟨⟨_,by simpa using aC⟩,aG.1.at λo q=>(a1.2 it (Ne.symm a0)).trans q⟩,λb hb=>?_⟩;rw[Au (nT b hb)];exact(hf b hb).1
  . have a3:b≠e:=λz=>hb (by simp[z]);have aB:b≠it:=λz=>hb (by simp[z]);rcases Heap.get?_push_cases q with ⟨rfl,rfl⟩|q
    . exact a8
    exact(a1.2 b a3).trans (hk b ob a3 aB q)
  obtain⟨f0,f1,f2,f3,f4,f5⟩:=hf b hb;exact⟨by rw[Au (nT b hb)];exact f0,f1,f2,f3,f4,f5⟩
 done:=by
  intro X hP hw Z hc i pins s σ H E I hf st hg;subst hP hw Z;obtain⟨xs,U,J⟩:=hg;obtain⟨F,Y,p,hz⟩:=I.list U;obtain⟨⟨old,he⟩,O⟩:=st;have aF:F.toArray.size=i:=by rw[A0Q,<- Y.length];exact J
  have D:=Draws.list (prog:=X.prog) (w:=X.w) (A:=X.A.in1) (by simpa using I.ok.hd hc) it a a2 F.toArray;rw[aF] at D;refine wpAny_pyNext_enum_endD D he ⟨O,(PlainL.isList p)⟩ λh' hk=>⟨rfl,I.turnedL (t':=s.toks) (ch:=[e,it]) (λb o hb q=>hk b o (λz=>hb (by simp[z])) q) hf⟩
 self:=by intro A i s Q E st hQ;obtain⟨⟨old,he⟩,_⟩:=st;exact A4I he hQ
section
variable {X:Cx}{K:W.Frag}
def ad1 (K:W.Frag)(vs:List V)(H:Hp)(R:It->Hp->Prop):Prop:=∃ a xs,vs=[.ref a]/\SqL K H a xs/\R (ItE K a) H
def as8 (K:W.Frag)(ta:TA):TI:=fun σ H R=>ta σ H λvs H1=>ad1 K vs H1 R
theorem ao1 {e:Expr}{ta:TA}{p pos:Pos}{Z:List Expr}{Y:Nat}{a0:Pos}(hg:Gl X "enumerate")(hm:X.mg "enumerate" = none)(ha:PA X [e] ta)(hK:X.K=K:=by ac_nf)(hs:starEach [e] X.env=[(false,eval e X.env)]:=by ac_nf) :
  PI X (.Tuple Z Y a0) (.Call (.Name "enumerate" p) [e] [] pos) (as8 K ta):=by
 subst hK;intro pins s σ H R I h;refine Call_ (K3 I hg hm K6 (A1W (thn (ha pos pins s σ H _ I h) λus F ⟨vs,H1,J,r1,q1⟩=>?_) hs rfl));obtain⟨a,xs,rfl,hq,q⟩:=q1;obtain⟨u,rfl,ru⟩:=Vals.one r1
 cases ru;obtain⟨a2,rv,U,hz⟩:=J.list hq;have O:a<F.heap.objs.size:=let ⟨_,q,_⟩:=(PlainL.isList U);A0F q;refine call_enumerate_list (PlainL.isList U) λh' he a1 _ hk=>?_;refine A4I he ?_;refine⟨F.heap.objs.size+1,[F.heap.objs.size+1,F.heap.objs.size],_,_,H1,rfl,J.kept (t':=F.toks) hk,Zb a F.heap.objs.size (F.heap.objs.size+1) (Nat.succ_ne_self _) (A11 O) (A11 (A2O O)),⟨⟨_,he⟩,a1⟩,λb hb=>?_,q⟩;rcases A0B.mp hb with rfl|hb
 . exact J.fpOk (A42 _) (J.hok.fresh (A42 _))
 have e:b=F.heap.objs.size:=by simpa using hb
 subst e;exact J.fpOk (A08 _) (J.hok.fresh (A08 _))
end
section
variable {K:W.Frag}{σ:St}{H:Hp}
theorem i_ienumL {q:TA}{R:It->Hp->Prop}(k:q σ H λvs H1=>ad1 K vs H1 R):as8 K q σ H R:=k
theorem a56 {xs:List V}{a:Addr}{n m:Nat}{tb:TS}{D:Po}(h:SqL K H a xs)(Pv:Nat->St->Hp->Prop)(F:Pv 0 σ H)(O:∀ i σ' H',Pv i σ' H'->SqL K H' a xs)
  (U:∀ i x σ' H' H2,xs[i]? = some x->Pv i σ' H'->Same H' H2->tb {D with nx:=Pv (i+1),ct:=Pv (i+1),bk:=D.nx} ((σ'.set n (some (.int i))).set m (some x)) H2) (hd:∀ σ' H',Pv xs.length σ' H'->D.nx σ' H') :
  ad1 K [.ref a] H λJ H1=>an9 (ax2 K 2 (Qd (K8 n) (Qd (K8 m) aE2))) tb D σ J H1:=by
 refine⟨a,xs,rfl,h,λi k σ' H'=>k=xs.length-i/\i<=xs.length/\Pv i σ' H',⟨xs.length,by simp,Nat.zero_le _,F⟩,?_⟩;rintro i k σ' H' ⟨rfl,hi,p⟩;have g:=O i σ' H' p
 by_cases q:i<xs.length
 . refine .inr ⟨⟨xs,xs[i],g,A03 q⟩,Pv (i+1),fun σ2 H2 p2=>⟨xs.length-(i+1),by omega,rfl,q,p2⟩,λv H2 y=>?_⟩;obtain⟨t,x,Y,rfl,rfl,Z⟩:=y;exact⟨t,_,rfl,SqT.of Af,rfl,.int i,[x],rfl,x,[],rfl,rfl,U i x σ' H' _ (Z xs g) p (Same.upd Y)⟩
 have e:i=xs.length:=by omega
 subst e;exact .inl ⟨⟨xs,g,rfl⟩,hd σ' H' p⟩
end
end L2
namespace L2
open PySem PySem.Spec PyProof.Rows
open PySem PySem.W PyProof.Rows
section
variable {n:Nat}{r:Nat->Nat}
end
section
variable {prog:Program}{w:World}{A:Around}{E:Value->Shared->Prop}{z:Shared}
end
section
variable {X:Cx}{K:W.Frag}
end
end L2
namespace L2
open PySem PySem.Spec PyProof.Rows
theorem Y0 {ns:List Str}{ps:List (Str×Str)}(hn:ns.Nodup){p:Str×Str}(h:p∈unP ns ps):p.1≠p.2:=by
 unfold unP unK at h;rw[A2G] at h;obtain⟨i,hi,h⟩:=h;have F:=A23.mp hi;unfold unR at h;obtain⟨y,O,rfl⟩:=A0I.mp h;have U:=(A0N.mp O).1;intro (e:ns.getD i "" = y);have J:ns.getD i "" = ns[i]:=by simp[F]
 have q:(ns.drop i).Nodup:=hn.sublist (A4J _ _);rw[A4D F] at q;exact (A0Y.mp q).1 (by rw[<- J,e];exact U)
theorem ai5 (xs ys:List Str):PyData.eqvAll (xs.map PyData.str) (ys.map PyData.str)=decide (xs=ys):=by
 induction xs generalizing ys with
 |nil=>cases ys<;>simp[PyData.eqvAll]
 |cons x xs ih=>
   cases ys with
   |nil=>simp[PyData.eqvAll]
   |cons y ys=>
     simp only[List.map_cons,PyData.eqvAll,ih,PyData.eqv]
     by_cases c:x=y
     . subst c;simp
     simp[c]
section
variable {κ:Type}[DecidableEq κ]{P:Program}{w:World}{kd:KeyKind P w κ}{A:Around}{E:Value->Shared->Prop}{z:Shared}
theorem a60 {e:Addr}{J:List (κ×Value)}{G:Bool->Shared->Prop}(nd:(e==sysModules)=false)(od:z.heap.DictOf kd e J)(go:G false z) :
  wpAny (model P w) A (Builtin.List.listLengthHint (.ref e)) G E z:=by
 unfold Builtin.List.listLengthHint;refine(A05 (wpAny_specialOf od.typeIs (F.slot_dict_len).lookup ?_));generalize q:("dict.__len__":String)=which
 wp_delta
 rw[show splitId which=some ("dict","__len__") from(by subst q;decide +kernel)];subst q;refine(A05 (wpAny_isInstance (T:="dict") (b:=true) od.typeIs (by rw[isSubtype_type];kernel_rfl) ?_));refine(wpAny_ite_split (λno=>absurd no nofun) (λ_=>?_));refine(wpAny_ite_split (λ_=>?_) (λno=>absurd (by decide +kernel) no));refine(A05 (A3H (T:="dict") od.typeIs ?_));exact A0C go
theorem Xb {R:Result->Shared->Prop}{e:Addr}{J:List (κ×Value)}{ep:Nat}(calm:A.handled=none)(nd:(e==sysModules)=false)(od:z.heap.DictAt kd e J ep)(few:J.length<=2 ^ 24)
  (L:Addr) (res:Value) (c0:Nat) (hL:z.heap.get? L=some {cls:=.type "list",data:=.seq #[] c0})
  (go:∀ g tk Z c,(∀ b o,b≠L->z.heap.get? b=some o->g.get? b=some o)->g.get? L=some {cls:=.type "list",dict:=none,data:=.seq Z c,slots:=#[]} ->
   ItemsOf (λi v=>∃ k x,J[i]? = some (k,x)/\kd.is k v=true) Z J.length->R (.ok (.ret res)) {z with heap:=g,toks:=tk}) :
  wpAny (model P w) A.in1 (Builtin.List.listExtendWith (.ref L) (.ref e) res)
   (λfin s'=>match fin with | .done f=>R (.ok f) s' | .again Y=>Y.quiet=true/\codeAny (model P w) A Y R s') (λe s'=>R (.error e) s') z:=by
 have a3:z.TypeIs (.ref e) "dict":=od.dictOf.typeIs
 have a0:L≠e:=λq=>by
  obtain⟨o,h1,h2⟩:=a3;rw[<- q,hL] at h1
  cases h1;simp at h2
 have a6:L<z.heap.objs.size:=A0F hL;have a7:e<z.heap.objs.size:=od.lt_size;have off:L≠z.heap.objs.size:=A11 a6;have W:=(Walks.dictKeys (knd:=kd) (prog:=P) (w:=w) (A:=A.in1) calm z.heap.objs.size e (A11 a7) J ep).toS
 have a8:L∉[z.heap.objs.size,e]:=λq=>by
  simp only[List.mem_cons,List.not_mem_nil,or_false] at q;rcases q with q|q
  . exact off q
  exact a0 q
 have run:∀(g:Heap) (c1 tk:Nat),g.IsKeyIter z.heap.objs.size e 0 J.length ep->g.DictAt kd e J ep->(∀ b o,b≠L->z.heap.get? b=some o->g.get? b=some o) ->
   g.get? L=some {cls:=.type "list",data:=.seq #[] c1}->codeAny (model P w) A (.builtin "list.extend.loop" ⟨[.ref L,.ref z.heap.objs.size,res],[]⟩) R {z with heap:=g,toks:=tk}:=by
  intro g c1 tk it U keep O;refine(codeAny_extend_loopS W (by rw[A1I];omega) L a8 res J.length 0 _ #[] c1 rfl (A2M _) ⟨it,U⟩ O (ItemsOf.nil _) λs' Z Y mv a4 items=>?_);rw[Moved.eq_with mv];refine(go s'.heap s'.toks Z Y (λb o hb q=>mv.heap b o (λm=>?_) (keep b o hb q)) a4 items);rcases A0B.mp m with q'|m
  . exact hb q'
  exact absurd (A0F q) (by rw[A0K.mp m];exact A1O _)
 unfold Builtin.List.listExtendWith;refine(A05 (A3H (T:="dict") a3 ?_));have n1:Builtin.List.listSameRef (.ref L) (.ref e)=false:=by simp[Builtin.List.listSameRef,a0]
 have n2:(Value.type "dict" == Value.type "list")=false:=by decide
 have n3:(Value.type "dict" == Value.type "tuple")=false:=by decide
 simp only[n1,n2,n3,Bool.or_false,Bool.false_eq_true,if_false];refine(A05 (wpAny_pyIter_dict nd od ?_));have U:=od.push {cls:=.type "dict_keyiterator",data:=.fields #[.ref e,.int 0 0,.int J.length 0,.int ep 0]};refine(A05 (A3K (a60 nd U.dictOf ?_)));have a2:(z.heap.push {cls:=.type "dict_keyiterator",data:=.fields #[.ref e,.int 0 0,.int J.length 0,.int ep 0]}).IsKeyIter z.heap.objs.size e 0 J.length ep:=⟨_,A0J _ rfl,rfl,rfl⟩;have O:=A02 {cls:=.type "dict_keyiterator",data:=.fields #[.ref e,.int 0 0,.int J.length 0,.int ep 0]} hL;refine(wpAny_ite_split (λ_=>?_) (λ_=>A0C ⟨A5I F.plain_extend_loop _,run _ c0 _ a2 U (λb o _ q=>A02 _ q) O⟩));refine(A05 (wpAny_rule ?_));refine(A05 ?_);show wpAny _ _ (updateSeq L (·.push .none) >>= λ_=>updateSeq L (·.pop)) _ _ _;refine(A05 (wpAny_updateSeq O rfl ?_));have a1:=A4X (Obj.mapSeq (·.push Value.none)) O rfl;refine(wpAny_updateSeq (hz:=by seq_fits) a1 rfl ?_);have a5:=A4X (Obj.mapSeq (·.pop)) a1 rfl
 have up:∀ b o,b≠L->(z.heap.push {cls:=.type "dict_keyiterator",data:=.fields #[.ref e,.int 0 0,.int J.length 0,.int ep 0]}).get? b=some o->_:=λb o hb q=>
  (A3P _ (Obj.mapSeq (·.pop)) (Ne.symm hb)).trans ((A3P _ (Obj.mapSeq (·.push Value.none)) (Ne.symm hb)).trans q)
 exact A0C ⟨A5I F.plain_extend_loop _,run _ _ _ (a2.at λo q=>up _ o (Ne.symm off) q) (U.at' λo q=>up _ o (Ne.symm a0) q) (λb o hb q=>up b o hb (A02 _ q)) a5⟩
theorem af8 {R:Result->Shared->Prop}{e:Addr}{F:List (κ×Value)}{ep:Nat}(calm:A.handled=none)(nd:(e==sysModules)=false)(od:z.heap.DictAt kd e F ep)(few:F.length<=2 ^ 24)
  (L:Addr) (J:z.heap.get? L=some {cls:=.type "list",data:=.seq #[]})
  (go:∀ g tk O c,(∀ b o,b≠L->z.heap.get? b=some o->g.get? b=some o)->g.get? L=some {cls:=.type "list",dict:=none,data:=.seq O c,slots:=#[]} ->
   ItemsOf (λi v=>∃ k x,F[i]? = some (k,x)/\kd.is k v=true) O F.length->R (.ok (.ret .none)) {z with heap:=g,toks:=tk}) :
  wpAny (model P w) A.in1 (Builtin.«list.__init__» ⟨[.ref L,.ref e],[]⟩)
   (λfin s'=>match fin with | .done f=>R (.ok f) s' | .again c'=>c'.quiet=true/\codeAny (model P w) A c' R s') (λe s'=>R (.error e) s') z:=by
 have U:e≠L:=λq=>by
  obtain⟨o,h1,h2⟩:=od.dictOf.typeIs (s:=z);rw[q,J] at h1
  cases h1;simp at h2
 show wpAny _ _ (do let was <- Builtin.List.listItems (.ref L);Builtin.List.listUpdate (.ref L) (λ_=>#[]);letGo was.toList.reverse;Builtin.List.listExtendWith (.ref L) (.ref e) .none) _ _ z
 refine(A05 ?_);unfold Builtin.List.listItems;refine(A05 (A55 J rfl (A0C ?_)));show wpAny _ _ (updateSeq L (λ_=>#[]) >>= λ_=>letGo (#[]:Array Value).toList.reverse >>= λ_=>Builtin.List.listExtendWith (.ref L) (.ref e) .none) _ _ z;refine(A05 (wpAny_updateSeq J rfl ?_));have Z:=A4X (Obj.mapSeq (λ_=>(#[]:Array Value))) J rfl
 have up:∀ b o,b≠L->z.heap.get? b=some o->(z.heap.update L (Obj.mapSeq (λ_=>(#[]:Array Value)))).get? b=some o:=
  λb o hb q=>(A3P _ _ (Ne.symm hb)).trans q
 refine(A05 (wpAny_letGo ?_));refine(Xb calm nd (od.at' λo q=>up e o U q) few L .none _ Z λg tk O c keep Y items=>?_);exact go g tk O c (λb o hb q=>keep b o hb (up b o hb q)) Y items
theorem Pr {Q:Value->Shared->Prop}{e:Addr}{J:List (κ×Value)}{ep:Nat}(calm:A.handled=none)(nd:(e==sysModules)=false)(od:z.heap.DictAt kd e J ep)(few:J.length<=2 ^ 24)
  (go:∀ g tk O c,(∀ b o,z.heap.get? b=some o->g.get? b=some o)->g.get? z.heap.objs.size=some {cls:=.type "list",dict:=none,data:=.seq O c,slots:=#[]} ->
   ItemsOf (λi v=>∃ k x,J[i]? = some (k,x)/\kd.is k v=true) O J.length->Q (.ref z.heap.objs.size) {z with heap:=g,toks:=tk}) :
  wpAny (model P w) A (call (.type "list") [.ref e]) Q E z:=by
 refine callType_codes (Q₁:=λnew Y=>new = .ref z.heap.objs.size/\Y={z with heap:=z.heap.push {cls:=.type "list",data:=.seq #[]}}) F.called_list (F.typeCall_list_1 _) F.entry_list_init
  (code_list_new _ ⟨rfl,rfl⟩) λnew Y Z=>?_
 obtain⟨rfl,rfl⟩:=Z;have U:(z.heap.push {cls:=.type "list",data:=.seq #[]}).get? z.heap.objs.size=some {cls:=.type "list",data:=.seq #[]}:=A0J _ rfl;refine⟨⟨_,U,rfl⟩,F.args_list_init_2 _ _,af8 (A:=A.in1) calm nd (od.push _) few _ U λg tk O c keep a0 items=>?_⟩;exact⟨rfl,go g tk O c (λb o q=>keep b o (A11 (A0F q)) (A02 _ q)) a0 items⟩
end
section
variable {X:Cx}{K:W.Frag}
def at8:List V->Hp->VK->Prop:=λxs H Q=>∃(d:Addr) (kvs:List (Key×V)),xs=[.ref d]/\H d=some (.dK kvs)/\kvs.length<=1000000/\∀ l,H l=none->Q (.ref l) (upd H l (.lst (kvs.map λkv=>kV kv.1)))
theorem Qq (hc:X.calm=true):CallR X (.type "list") at8:=by
 intro pins s σ H xs us Q I r h;obtain⟨d,kvs,rfl,hd,hz,q⟩:=h;obtain⟨u,rfl,ru⟩:=J4 r
 cases ru;obtain⟨_,hs,vs,O,U⟩:=Vi I.hok hd;obtain⟨ep,Z⟩:=U.dictAt;have a1:=O.length;refine Pr (by simpa using I.ok.hd hc) hs Z ∅ λg tk F c keep Y items=>?_;refine⟨.ref s.heap.objs.size,_,I.laid (t':=tk) (o:=.lst (kvs.map λkv=>kV kv.1)) keep (Nat.le_refl _) ⟨?_,F.toList,c,Uj ?_ ?_,by simpa using Y⟩,rfl,q _ (I.hok.fresh (Nat.le_refl _))⟩
 . rw[A01,A1I];omega
 . have e1:=items.1;have e2:F.toList.length=F.size:=A57;have e3:(kvs.map λkv=>kV kv.1).length=kvs.length:=A01 ..;omega
 intro i a b ha hb;rw[A3V] at hb;obtain⟨k,x,a0,hk⟩:=items.2 i b hb
 have J:kvs[i]?.map (·.1)=some k:=by rw[<- A07,O.keys,A07,a0];rfl
 rw[A07] at ha
 cases g:kvs[i]? with
 |none=>rw[g] at ha;cases ha
 |some kv=>
   rw[g] at ha J
   cases ha;have e:kv.1=k:=A13 J;subst e;exact a95 hk
theorem ai1 {d:Addr}{kvs:List (Key×V)}{H:Hp}{Q:VK}(h:H d=some (.dK kvs))(hz:kvs.length<=1000000)(k:∀ l H',H l=none->Same H H'->H' l=some (.lst (kvs.map λkv=>kV kv.1))->Q (.ref l) H'):at8 [.ref d] H Q:=
 ⟨d,kvs,rfl,h,hz,λl q=>k l _ q (Same.upd q) Af⟩
end
section
variable {P:Program}{w:World}{A:Around}{E:Value->Shared->Prop}{z:Shared}
end
section
variable {P:Program}{w:World}{A:Around}{E:Value->Shared->Prop}{z:Shared}{c TI TO i1 i2 D:Addr}{fp1 fp2:List Addr}{n:Nat}{P1 P2:Nat->Value->Prop}{S1 S2:Nat->Heap->Prop}
end
section
variable {P:Program}{w:World}{κ:Type}[DecidableEq κ]{kd:KeyKind P w κ}{A:Around}{E:Value->Shared->Prop}{c TI TO i1 i2 D:Addr}{fp1 fp2:List Addr}{n:Nat}{P1 P2:Nat->Value->Prop}{S1 S2:Nat->Heap->Prop}
end
section
variable {P:Program}{w:World}{A:Around}{E:Value->Shared->Prop}{z:Shared}
end
section
variable {X:Cx}{K:W.Frag}
end
section
variable {K:W.Frag}{H:Hp}{Q:VK}
end
theorem HalfW.cl_few {ns:List Str}{ps:List (Str×Str)}(h:HalfW ns ps)(q:ns.length<=10):(clP ns ps).length+(unP ns ps).length<=45:=by
 have h1:=Wb (ns:=ns) (ps:=ps) h.irr
 have F:(ns.length:Int)*((ns.length:Int)-1)<=10*9:=by
  have a:(ns.length:Int)<=10:=by omega
  rcases A5K ns.length with e|e
  . rw[e];decide
  exact Int.mul_le_mul a ∅ ∅ ∅
 omega
section
variable {K:W.Frag}{H:Hp}{Q:VK}
theorem aL0 (xs ys:List Str):PyData.eqv (nmD xs) (nmD ys)=decide (xs=ys):=by simp only[nmD,PyData.eqv,ai5]
end
section
variable {ns ns':List Str}{ps ps' bs:List (Str×Str)}
theorem at3 (h:HalfW ns ps)(q:ns.length<=10):(baP ns ps).length<=45:=by have:=h.cl_few q;have:(baP ns ps).length<=(clP ns ps).length:=A0U _ _;omega
theorem ax1 (h:HalfW ns ps)(q:ns.length<=10):HalfW ns (baP ns ps):=h.ba (A0O (at3 h q) nofun)
end
section
variable {ns:List Str}{ps:List (Str×Str)}
end
section
variable {P:Program}{w:World}{A:Around}{E:Value->Shared->Prop}{z:Shared}
end
section
variable {X:Cx}{K:W.Frag}
end
section
variable {α:Type}[DecidableEq α]{b:α->α->Bool}{L:List α}
theorem Xr (xs ys:List α):Qh b L (xs++ys)=Qh b L xs++Qh b L ys:=by unfold Qh;rw[A2E]
theorem ap4 (x:α):Qh b L [x]=(ext b (L.length-1) (Ai L x)).map (x :: ·):=by unfold Qh;simp
theorem aM8 (J:L≠[]){m n:Nat}{x:α}{r:List α}(hm:(frF b L)[m]? = some x)(hn:(Qh b L ((frF b L).take m)).length<=n)
  (q:(ext b (L.length-1) (Ai L x))[n-(Qh b L ((frF b L).take m)).length]? = some r):(ext b L.length L)[n]? = some (x :: r):=by
 rw[<- Yb b J]
 have e:frF b L=(frF b L).take m++([x]++(frF b L).drop (m+1)):=by
  have F:m<(frF b L).length:=(A00.mp hm).1;have h1:=A4D F;have h2:(frF b L)[m]=x:=(A00.mp hm).2;rw[h2] at h1
  conv=>lhs;rw[<- List.take_append_drop m (frF b L),h1]
  rfl
 rw[e,Xr,Xr,ap4];rw[A39 hn,A1S (by rw[A01];exact(A00.mp q).1),A07,q];rfl
end
def aK3:List V->Hp->VK->Prop:=λxs H Q=>∃ i:Int,xs=[.int i]/\i.natAbs.log2<1920/\Q (.str (toString i)) H
theorem Z2 {X:Cx}:CallR X (.builtin "repr") aK3:=by intro pins s σ H xs us Q I r h;obtain⟨i,rfl,hz,q⟩:=h;obtain ⟨u,rfl,t,rfl⟩:=J4 r;exact PySem.P.repr_of_int hz ⟨.str _,H,I.tok _,⟨_,rfl⟩,q⟩
def xB:List Value:=[.type "ValueError",.type "Exception",.type "BaseException",.type "object"]
def aW9 (K:W.Frag)(C:Addr):Bool:=match K.lookup C with
 |some ⟨.type "type",_,.cls cd,sl⟩=>(match cd.mro,sl.toList with
   |.ref D :: bm,[_,_,_,_,some (.builtin n),_]=>D==C&&n == "ValueError.__new__" && !cd.hasDel&&cd.hasDict&&W.tailIn K xB bm
   |_,_=>false)
 |_=>false
section
variable {prog:Program}{w:World}{A:Around}{E:Value->Shared->Prop}{h:Heap}{g:Array GenState}{d:Drawn}{t:Nat}{os:OsState}{K:W.Frag}{C fI:Addr}{rest:List Value}
end
end L2
namespace L2
open PySem PySem.Spec PyProof.Rows
open PySem PySem.Spec PyProof.Rows Builtin Builtin.ObjectAttr
section
variable {prog:Program}{w:World}{A:Around}{E:Value->Shared->Prop}{s:Shared}{K:W.Frag}{C x:Addr}{name:Str}{v:Value}
end
end L2
namespace L2
open PySem PySem.Spec PyProof.Rows
section
variable {P:Program}{w:World}{H:Hp}{h:Heap}{a C dx:Addr}{od:Option Addr}{fs:List (Str×V)}
end
def aP9 (K:W.Frag)(C B:Addr):Bool:=(W.clsIn K C).any λcd=>cd.mro == .ref C :: .ref B :: xB
section
variable {K:W.Frag}{C B D:Addr}
end
section
variable {X:Cx}{pins:List (Addr×Obj)}{σ:St}{H:Hp}{s:Shared}{a C dx:Addr}{fs:List (Str×V)}{f:Str}{v:V}{A:Around}{E:Value->Shared->Prop}
end
section
variable {X:Cx}{o e value:Expr}{f:Str}{pos pos' tpos:Pos}{ta tv:TE}
end
def az3 (K:W.Frag)(C:Addr):Bool:=match K.lookup C with
 |some ⟨_,_,.cls cd,_⟩=>W.nsOkIn K cd.ns&&W.nsIn K cd.ns "__init__" == some none
 |_=>false
section
variable {X:Cx}{k:Nat}{f C:Addr}{fd:FuncData}{ps:List Str}{sp:Sp}{x:Str}{p pos:Pos}{e:Expr}{es:List Expr}{t:TA}{pins:List (Addr×Obj)}{σ:St}{H:Hp}{s:Shared}{Q:VK}{us:List Value}{vs:List V}
end
section
variable {X:Cx}{K:W.Frag}{o e value:Expr}{f:Str}{pos pos':Pos}{ta tv:TE}
end
section
variable {K:W.Frag}{σ:St}{H:Hp}{Q:VK}{D:Po}{f:Str}{ta tv:TE}{t:TA}{sp:Sp}{C a dx B G:Addr}{fs:List (Str×V)}{v y:V}{R:Hp->Prop}{vs:List V}
end
section
variable {M:Model}{A:Around}{E:Value->Shared->Prop}{s:Shared}{base:Heap}{env:Env}{outer:List Env}{L a:Addr}{oe:Obj}{vs:Array Value}{Q:Unit->Shared->Prop}
end
section
variable {P:Program}{w:World}{fs:List Addr}{a C:Addr}{od:Option Addr}{oe:Obj}{old:List Addr}{h h':Heap}{H:Hp}{n:Bool}
end
section
variable {P:Program}{w:World}{K:W.Frag}{mg:Str->Option Value}{base:Heap}{N:List Str}{qual:Str}{scope:Scope}{f:Addr}{cd:Value}{A:Around}{outer:List Env}{s₀:Shared}{H₀:Hp}{E:XK}
end
section
variable {X:Cx}{pins:List (Addr×Obj)}{σ:St}{H:Hp}{s:Shared}
end
section
variable {M:Model}{A:Around}{E:Value->Shared->Prop}{s:Shared}{K:W.Frag}{C B a:Addr}{oe:Obj}{Q:Bool->Shared->Prop}
end
section
variable {X:Cx}{pins:List (Addr×Obj)}
end
section
variable {X:Cx}{k:Nat}{x:Str}{ps:List Str}{sp:Sp}{e:Expr}{es:List Expr}{t:TA}{p pos:Pos}{E:XK}
end
section
variable {P:Program}{w:World}{K:W.Frag}{mg:Str->Option Value}{base:Heap}
end
section
variable {K:W.Frag}{σ:St}{H H0:Hp}{D:Po}{t:TE}{C a:Addr}{fs:List (Str×V)}{E:XK}
end
section
open Lean
def mWay (s:String):MacroM (TSyntax `tactic):=
 if s == "as" then `(tactic| assumption) else if s == "ar" then `(tactic| with_reducible assumption) else `(tactic| walk_at $(quote s))
def ag6 (q:Array (TSyntax `tactic)):MacroM (TSyntax `tactic):=do
 let q <- q.mapM λt=>`(Lean.Parser.Tactic.tacticSeq| $t:tactic)
 `(tactic| first $[| $q]*)
def mId (s:String):Ident:=mkIdent ((s.splitOn ".").foldl Name.mkStr Name.anonymous)
def mIs (s:String):MacroM Ident:=do return mkIdent (<- Macro.addMacroScope (.mkSimple s))
def ac9:List String->TSyntax `tactic->MacroM (TSyntax `tactic)
 | [],t=>pure t
 |s :: r,t=>do
   match s.splitOn "=" with
   | [x,y]=>let w <- mWay y;let i <- mIs x;ac9 r (<- `(tactic| ($t:tactic;(case $i:ident=>$w:tactic))))
   |_=>ac9 r t
def mRow (s:String):MacroM (TSyntax `tactic):=do
 match s.splitOn ": " with
 | [h,c]=>
   match h.splitOn " " with
   |f :: as=>
     let xs <- as.toArray.mapM λa=>do if a == "_" then `(?_) else `(?$(<- mIs a))
     let u:=Syntax.mkApp (mId f) xs
     let t <- if as.contains "_" then `(tactic| with_reducible refine' $u) else `(tactic| refine' $u)
     ac9 (c.splitOn " ") t
   |_=>Macro.throwUnsupported
 |_=>do
   if s == "as" then `(tactic| assumption)
   else if s == "no" then `(tactic| fail "no")
   else `(tactic| exact $(mId s))
def mRows (s:String):MacroM (TSyntax `tactic):=do ag6 (<- (s.splitOn " | ").toArray.mapM mRow)
def mAlts (s:String):MacroM (TSyntax `tactic):=do
 let a <- ag6 (<- (s.splitOn " ").toArray.mapM λn=>`(tactic| refine $(mId n) ?_))
 `(tactic| with_reducible $a:tactic)
def mAltG (s:String):MacroM (TSyntax `tactic):=do
 let a <- ag6 (<- (s.splitOn " ").toArray.mapM λn=>`(tactic| refine $(mId n) λN q=>?_))
 `(tactic| with_reducible $a:tactic)
end
section
open PySem
theorem same_refl {H:Hp}:Same H H:=Same.refl _
theorem fz_refl {H:Hp}:Fz H H:=Fz.refl _
theorem ne_none2 {H:Hp}{a b:PySem.Addr}{o:HO}(h:H a=some o)(g:H b=none):b≠a:=Ne.symm (ne_of_none h g)
def Cut (N M:St->Hp->Prop):Prop:=∀ σ H,M σ H->N σ H
section
variable {t u:TS}{te td ty tv:TE}{g:TG}{D:Po}{σ:St}{H:Hp}
theorem aM6 (k:∀ N:St->Hp->Prop,Cut N (u D)->t {D with nx:=N} σ H):aQ9 t u D σ H:=k (u D) λ_ _ h=>h
theorem i_seqAG (k:∀ N:St->Hp->Prop,Cut N (u D)->aD8 te g {D with nx:=N} σ H):aQ9 (aD8 te g) u D σ H:=k (u D) λ_ _ h=>h
theorem i_cutN {N M:St->Hp->Prop}(h:Cut N M)(k:M σ H):N σ H:=h _ _ k
end
theorem aG4 {α:Type}{P:List α->Prop}{us:List α}(q:us.length=0)(h:P []):P us:=by rw[A1B.mp q];exact h
theorem ap7 {α:Type}{P:List α->Prop}{us:List α}(q:us.length=1)(h:∀ F:α,P [F]):P us:=by
 cases us with
 |nil=>cases q
 |cons a r=>exact aG4 (P:=λr=>P (a :: r)) (Nat.succ.inj q) (h a)
theorem au0 {α:Type}{P:List α->Prop}{us:List α}(q:us.length=2)(h:∀ F J:α,P [F,J]):P us:=by
 cases us with
 |nil=>cases q
 |cons a r=>exact ap7 (P:=λr=>P (a :: r)) (Nat.succ.inj q) (h a)
theorem aJ2 {α:Type}{P:List α->Prop}{us:List α}(q:us.length=3)(h:∀ F J O:α,P [F,J,O]):P us:=by
 cases us with
 |nil=>cases q
 |cons a r=>exact au0 (P:=λr=>P (a :: r)) (Nat.succ.inj q) (h a)
end
section
variable {K:W.Frag}{x qual:Str}{st:Stmt}{f:Addr}{fd:FuncData}
theorem Dc {O:Str}(F:Fun K x qual st f fd)(h:∀(kV J pm:Value) (an:Option Addr) (q ct:Value) (U:Value),bindArgs (W.fnOf x qual (Ae st) (Ac st) (A4 st) .none kV J pm an q ct) ⟨[U],[]⟩=pure (([O]:List Str).zip [U])):Binds K fd [O] []:=
 F.binds λkV J pm an q ct us Y=>ap7 (P:=λus=>bindArgs (W.fnOf x qual (Ae st) (Ac st) (A4 st) .none kV J pm an q ct) ⟨us,[]⟩=pure (([O]:List Str).zip us)) Y (h kV J pm an q ct)
theorem Em {O p1:Str}(F:Fun K x qual st f fd)(h:∀(kV J pm:Value) (an:Option Addr) (q ct:Value) (U Y:Value),bindArgs (W.fnOf x qual (Ae st) (Ac st) (A4 st) .none kV J pm an q ct) ⟨[U,Y],[]⟩=pure (([O,p1]:List Str).zip [U,Y])):Binds K fd [O,p1] []:=
 F.binds λkV J pm an q ct us Z=>au0 (P:=λus=>bindArgs (W.fnOf x qual (Ae st) (Ac st) (A4 st) .none kV J pm an q ct) ⟨us,[]⟩=pure (([O,p1]:List Str).zip us)) Z (h kV J pm an q ct)
theorem K4 {O p1 p2:Str}(F:Fun K x qual st f fd)(h:∀(kV J pm:Value) (an:Option Addr) (q ct:Value) (U Y Z:Value),bindArgs (W.fnOf x qual (Ae st) (Ac st) (A4 st) .none kV J pm an q ct) ⟨[U,Y,Z],[]⟩=pure (([O,p1,p2]:List Str).zip [U,Y,Z])):Binds K fd [O,p1,p2] []:=
 F.binds λkV J pm an q ct us hl=>aJ2 (P:=λus=>bindArgs (W.fnOf x qual (Ae st) (Ac st) (A4 st) .none kV J pm an q ct) ⟨us,[]⟩=pure (([O,p1,p2]:List Str).zip us)) hl (h kV J pm an q ct)
end
def aP8 (K:W.Frag):R2:=λx y H Q=>∃ a b xs,x = .ref a/\y = .ref b/\SqL K H a xs/\SqL K H b []/\Q (.bl (!xs.isEmpty)) H
theorem Xd {X:Cx}{K:W.Frag}(Y:QA X.A)(U:X.K=K:=by ac_nf):OpR X (compareOp .NotEq) (aP8 K):=by
 subst U;intro pins s σ H x y v u Q I rx ry h;obtain⟨a,b,xs,rfl,rfl,ha,hb,q⟩:=h
 cases rx
 cases ry;obtain⟨Z,O,la,_⟩:=I.list ha;obtain⟨a1,a0,lb,_⟩:=I.list hb
 cases a0;have hu:X.A.units<cLine:=by have:=Y.un;omega
 have F:s.heap.IsList a Z.toArray:=let ⟨o,n,e1,e2,e3,e4⟩:=la;⟨o,e1,e2,_,e4⟩;have J:s.heap.IsList b ([]:List Value).toArray:=let ⟨o,n,e1,e2,e3,e4⟩:=lb;⟨o,e1,e2,_,e4⟩
 cases xs with
 |nil=>cases O;have r:=SeqAt.RcNeAt.lists (A:=X.A) (s:=s) (e:=λ_=>true) F J rfl hu (λj h1=>absurd h1 (by simp));exact r _ _ _ _ ⟨.bl _,H,I,rfl,q⟩
 |cons x r=>
   cases O with
   |cons r1 r2=>have r:=SeqAt.RcNeAt.lists_lengths (A:=X.A) (s:=s) F J (by simp) hu;exact r _ _ _ _ ⟨.bl _,H,I,rfl,q⟩
theorem a86 {K:W.Frag}{H:Hp}{Q:VK}{a b:Addr}{xs:List V}(h:SqL K H a xs)(h':SqL K H b [])(k:Q (.bl (!xs.isEmpty)) H):aP8 K (.ref a) (.ref b) H Q:=⟨a,b,xs,rfl,rfl,h,h',k⟩
section
open PySem.SeqAt PySem.MeetsSeq
variable {A:Around}{s:Shared}
end
section
variable {prog:Program}{w:World}{A:Around}{E:Value->Shared->Prop}{s:Shared}
set_option maxRecDepth 100000 in
end
section
variable {X:Cx}{pos p2:Pos}
end
section
variable {P:Program}{w:World}{A:Around}{E:Value->Shared->Prop}{z:Shared}
end
section
variable {X:Cx}{K:W.Frag}
end
section
variable {K:W.Frag}{H:Hp}{Q:VK}
end
section
variable {X:Cx}{pins:List (Addr×Obj)}{σ:St}{H:Hp}{s:Shared}
end
mutual
def aU4:PyData->Bool
 |.str z=>z.cps.toList.all λc=>decide (c<128)
 |.list ds=>aR8 ds
 |.tuple ds=>aR8 ds
 |.dict _=>false
 |_=>true
def aR8:List PyData->Bool
 | []=>true
 |d :: ds=>aU4 d&&aR8 ds
end
mutual
def aU1:PyData->Nat
 |.list ds=>max ds.length (aS1 ds)
 |.tuple ds=>max ds.length (aS1 ds)
 |_=>0
def aS1:List PyData->Nat
 | []=>0
 |d :: ds=>max (aU1 d) (aS1 ds)
end
structure Dk (p w W:Nat)(D:PyData):Prop where
 asc:aU4 D=true
 lay:D.canLay0=true
 sh:D.showable=true
 lv:D.leavesShort 45=true
 dp:D.depth<=p
 wt:D.weight<=w
 wd:aU1 D<=W
section
variable {X:Cx}{K:W.Frag}
def aj6 (K:W.Frag):List V->Hp->VK->Prop:=λxs H Q=>∃ x d,xs=[x]/\Is K H d x/\d.showable=true/\d.shown.length<=sizeLine/\d.depth<=100/\Q (.str d.shown) H
theorem Zy (O:QA X.A):CallR X (.builtin "repr") (aj6 X.K):=by
 intro pins s σ H xs us Q I F h;obtain⟨x,d,rfl,i,J,hf,hd,q⟩:=h
 cases d with
 |none=>simp only[Is] at i;subst i;exact Qt pins s σ H _ us Q I F (.inr ⟨rfl,q⟩)
 |bool b=>
   simp only[Is] at i;subst i;refine Qt pins s σ H _ us Q I F (.inl ⟨b,rfl,?_⟩)
   cases b<;>exact q
 |int n=>simp only[Is] at i;subst i;exact Z2 pins s σ H _ us Q I F ⟨n,rfl,of_decide_eq_true (by simpa only[PyData.showable] using J),q⟩
 |str z=>simp only[Is] at i;subst i;obtain⟨u,rfl,U⟩:=F.one;obtain⟨t,rfl⟩:=U;exact PySem.P.repr_of_str ⟨.str _,H,I.tok _,⟨_,rfl⟩,q⟩ hf
 |list ds=>exact Qo O pins s σ H _ us Q I F ⟨x,_,rfl,i,⟨rfl,J,hf,hd⟩,q⟩
 |tuple ds=>exact Qo O pins s σ H _ us Q I F ⟨x,_,rfl,i,⟨rfl,J,hf,hd⟩,q⟩
 |dict kvs=>simp only[Is] at i
theorem X6 (F:QA X.A)(q:X.K=K:=by ac_nf):CallR X (.builtin "repr") (aj6 K):=q ▸ Zy F
theorem av9 {H:Hp}{Q:VK}{d:PyData}{x:V}(h:Is K H d x)(h1:d.showable=true)(h2:d.shown.length<=sizeLine)(q:d.depth<=100)(k:Q (.str d.shown) H):aj6 K [x] H Q:=⟨x,d,rfl,h,h1,h2,q,k⟩
theorem Dk.told {p w W:Nat}{D:PyData}(h:Dk p w W D)(hp:p<=60)(J:w<=100000):D.showable=true/\D.shown.length<=sizeLine/\D.depth<=100:=by have h2:=PyData.shown_le 45 nofun D h.lv;have q:=h.wt;have F:=h.dp;refine⟨h.sh,?_,by omega⟩;rw[A1I];omega
end
section
variable {prog:Program}{w:World}{A:Around}{E:Value->Shared->Prop}{s:Shared}
end
section
variable {P:Program}{w:World}{A:Around}{R:Result->Shared->Prop}{it:Addr}{fp wr:List Addr}{G:Array GenState->Array GenState->Prop}{n:Nat}{PV:Nat->Value->Prop}{St:Nat->Shared->Prop}
end
section
variable {prog:Program}{w:World}{A:Around}{E:Value->Shared->Prop}{s:Shared}
set_option maxHeartbeats 3200000 in
end
section
variable {X:Cx}{K:W.Frag}
end
end L2
namespace L2
open PySem PySem.Spec PyProof.Rows
open Builtin
section
variable {X:Cx}{K:W.Frag}
end
end L2
namespace L2
open PySem PySem.Spec PyProof.Rows
section
variable {P:Program} {w:World} {K:W.Frag} {mg:Str->Option Value} {base:Heap} {k:Nat} {f:Addr} {fd:FuncData} {ps:List Str} {sp sp':Sp}
end
theorem Pj:∀(k q n:Nat) (ds:List Char),1<=k->n<10 ^ k->(Nat.toDigitsCore 10 q n ds).length<=ds.length+k
 |_,0,n,ds,_,_=>by simp[Nat.toDigitsCore]
 |k,q+1,n,ds,hk,hn=>by
   unfold Nat.toDigitsCore;dsimp only
   split
   . simp;omega
   rename_i h0
   cases k with
   |zero=>omega
   |succ k=>
     have h1:n / 10<10 ^ k:=by rw[Nat.div_lt_iff_lt_mul ∅];rw[A4W] at hn;exact hn
     have F:1<=k:=by
      cases k with
      |zero=>simp at h1;omega
      |succ _=>omega
     have:=Pj k q (n / 10) (Nat.digitChar (n % 10) :: ds) F h1;rw[A0G] at this;omega
theorem aB0 (s:String):(s:Str).length=s.toList.length:=by show(Str.ofString s).cps.size=_;rw[Str.ofString_eq_byList];unfold Str.ofStringByList;simp
theorem Xp {n:Nat}(h:n<10 ^ 44):(Nat.repr n).toList.length<=44:=by unfold Nat.repr Nat.toDigits;have:=Pj 44 (n+1) n [] ∅ h;simpa using this
theorem a79 {m:Int} (h:m.natAbs<10 ^ 44):(PyData.int m).shown.length<=45:=by
 simp only[PyData.shown];rw[aB0]
 cases m with
 |ofNat n=>have:(toString (Int.ofNat n):String)=Nat.repr n:=rfl;rw[this];exact A0O (Xp h) ∅
 |negSucc n=>
   have:(toString (Int.negSucc n):String) = "-" ++ Nat.repr (n+1):=rfl;rw[this];have h2:=Xp (n:=n+1) h;rw[String.toList_append,A06];have:("-":String).toList.length=1:=by decide
   omega
theorem ax4 {m:Int}(h:m.natAbs<10 ^ 44):m.natAbs.log2<147:=by
 by_cases q:m.natAbs=0
 . rw[q];decide
 exact(Nat.log2_lt q).mpr (A49 h nofun)
theorem aM7 {p W:Nat}{m:Int}(h:m.natAbs<10 ^ 44):Dk p 150 W (.int m):=by
 have q:=ax4 h;refine⟨by simp only[aU4],by simp only[PyData.canLay0],?_,?_,by simp only[PyData.depth];omega,?_,by simp only[aU1];omega⟩
 . simp only[PyData.showable];exact A16 ∅
 . simp only[PyData.leavesShort];exact A16 (a79 h)
 simp only[PyData.weight]
 split<;>omega
section
variable {P:Program}{w:World}{A:Around}{E:Value->Shared->Prop}{z:Shared}
end
section
variable {X:Cx}{K:W.Frag}
end
section
variable {K:W.Frag}{σ:St}{H:Hp}{Q:VK}
end
section
variable {X:Cx}{K:W.Frag}{H:Hp}{Q:VK}
end
section
variable {X:Cx}{K:W.Frag}
end
section
variable {α:Type}[DecidableEq α]
end
section
variable {X:Cx}{pins:List (Addr×Obj)}{σ:List (Option V)}{H:Hp}{s:Shared}{h':Heap}
theorem Inv.nsed {t':Nat}(I:Inv X pins σ H s)(k:∀ b u,b≠X.env.locals->s.heap.get? b=some u->h'.get? b=some u){m:Str->Option Value}(a0:∀(i:Nat) (x:Str) (v:V),X.N[i]? = some x->σ[i]? = some (some v)->Vis X.env.scope x->∃ u,RelV v u/\aT7 X.env s.heap m x u)(a1:h'.Ns X.env.locals m):Inv X pins σ H {s with heap:=h',toks:=t'}:=by
 have U:∀ b o,X.s₀.heap.get? b=some o->b≠X.env.locals:=λb o q e=>by have h1:=A0F q;have h2:=I.ok.above;rw[e] at h1;exact absurd (A18 h1 h2) (A1O _)
 refine⟨I.ok,I.os,I.bare,⟨λb o q n hf F=>k b o (U b o q) (I.base.keep b o q n hf F),λb o q n hf F=>?_,I.base.free,λb o q F=>?_,I.base.tups,I.base.frzs,I.base.tbls⟩,?_,λx c e=>?_,I.free,I.freeC,λp hp=>?_,λa o e=>?_,I.len⟩
 . obtain⟨sl,e⟩:=I.base.slot b o q n hf F;exact⟨sl,k b _ (U b o q) e⟩
 . obtain⟨o',e⟩:=I.base.there b o q F;exact⟨o',k b _ (U b o q) e⟩
 . refine⟨m,a1,λi x v a b c=>?_⟩;obtain⟨u,r,l⟩:=a0 i x v a b c;refine⟨u,r,?_⟩;rcases l with l|⟨l1,c,Z,l3⟩
   . exact .inl l
   obtain⟨o,J,O⟩:=l3;exact .inr ⟨l1,c,Z,o,k c o (I.cne x c Z) J,O⟩
 . obtain⟨v,o,J,O⟩:=I.cell x c e;exact⟨v,o,k c o (I.cne x c e) J,O⟩
 . obtain⟨h1,h2,Y,h4,h5⟩:=I.pin p hp;exact⟨k _ _ Y h1,h2,Y,h4,h5⟩
 refine(I.hok a o e).stay (λb u hb q=>k b u (λz=>?_) q) (λ_ q=>q) λ_ _ q=>q;have:=I.free;rcases hb with rfl|hb
 . rw[z] at e;rw[e] at this
   cases this
 rw [z,this] at hb
 cases hb
theorem Mi {g h:Heap}{L:Addr}(hb:∀ b o,g.get? b=some o->h.get? b=some o)(q:∀ b o,g.get? b=some o->h'.get? b=some o){more:List (Addr×Obj)}(N:News g L h' (Hi g h L++more)):∀ b u,b≠L->h.get? b=some u->h'.get? b=some u:=λb u n e=>by
 cases hc:g.get? b with
 |some o=>
   have:=hb b o hc;rw[e] at this
   cases this;exact q b u hc
 |none=>exact(N (b,u) (A0L _ (Wk n hc e))).1
variable {K:W.Frag}
end
section
variable {α:Type}[DecidableEq α]
end
section
variable {α:Type}[DecidableEq α]
variable {β:Type}[DecidableEq β]
end
section
variable {X:Cx}{k:Nat}{x:Str}{ps:List Str}{sp:Sp}{e:Expr}{es:List Expr}{t:TA}{p pos:Pos}{E:St->XK}
end
section
variable {X:Cx}{pins:List (Addr×Obj)}
end
section
variable {α:Type}[DecidableEq α]
end
theorem Oi {ps qs:List (Str×Str)}{x y:Str}(h:Way ps x y↔Way qs x y):Ab ps x y=Ab qs x y:=a66 (by rw[wayB_iff];exact h)
section
variable {ns ns':List Str}{ps ps':List (Str×Str)}
theorem HalfW.ba10 (h:HalfW ns ps)(q:ns.length<=10):HalfW ns (baP ns ps)/\(baP ns ps).length<=60/\∀ x y,Way (baP ns ps) x y↔Way ps x y:=⟨ax1 h q,A0O (at3 h q) nofun,λ_ _=>as7 h.mem h.irr⟩
variable {qs:List (Str×Str)}
end
section
variable {M:Model}{A:Around}{E:Value->Shared->Prop}{s:Shared}{base:Heap}{env:Env}{outer:List Env}{L a:Addr}{oe:Obj}{vs:Array Value}{Q:Unit->Shared->Prop}
end
section
variable {P:Program}{w:World}{fs:List Addr}{a C:Addr}{od:Option Addr}{oe:Obj}{old:List Addr}{h h':Heap}{H:Hp}{n:Bool}
end
section
variable {P:Program}{w:World}{K:W.Frag}{mg:Str->Option Value}{base:Heap}{N:List Str}{qual:Str}{scope:Scope}{f:Addr}{cd:Value}{A:Around}{outer:List Env}{s₀:Shared}{H₀:Hp}{E:XK}
end
section
variable {X:Cx}{scope:Scope}{xs fr:List Str}{pins:List (Addr×Obj)}{σ:St}{H:Hp}{s:Shared}{js:List Nat}{fp:List Addr}
end
section
variable {X:Cx}{k:Nat}{C:Addr}{m:Str}{ps:List Str}{sp:Sp}{e o:Expr}{es:List Expr}{ta:TE}{t:TA}{p pos apos:Pos}{E:XK}
end
section
variable {σ:St}{H:Hp}{Q:VK}{C:Addr}{m:Str}{sp:Sp}{ta:TE}{t:TA}{E:XK}
end
section
variable {P:Program}{w:World}{K:W.Frag}{mg:Str->Option Value}{base:Heap}
end
section
variable {X:Cx}{k:Nat}{x:Str}{ps:List Str}{sp:Sp}{e:Expr}{es:List Expr}{t:TA}{p pos:Pos}
end
section
variable {X:Cx}
end
section
variable {α:Type}[DecidableEq α]{b:α->α->Bool}
def Grow (b:α->α->Bool)(R:List α->Prop):List (List α)->List (List α)->Prop
 |_,[]=>True
 |T,M :: B=>(∀ x∈frF b M,Ai M x∈T)/\(R M\/∃ N∈B,∃ x∈frF b N,M=Ai N x)/\Grow b R (T++[M]) B
theorem Grow.mono {R R':List α->Prop}(h:∀ M,R M->R' M):∀ {T A:List (List α)},Grow b R T A->Grow b R' T A
 |_,[],_=>trivial
 |T,M :: B,⟨h1,h2,h3⟩=>⟨h1,h2.imp (h M) id,Grow.mono h h3⟩
theorem Grow.app {R:List α->Prop}:∀ {T A B:List (List α)},Grow b R T A->Grow b R (T++A) B->Grow b R T (A++B)
 |T,[],B,_,h=>by simpa using h
 |T,M :: A,B,⟨h1,h2,h3⟩,h=>⟨h1,h2.imp id (λ⟨N,q,r⟩=>⟨N,List.mem_append_left _ q,r⟩),Grow.app h3 (by simpa using h)⟩
theorem Grow.close {L:List α}:∀ {T A:List (List α)},Grow b (λM=>∃ x∈frF b L,M=Ai L x) T A->(∀ x∈frF b L,Ai L x∈T++A)->Grow b (· = L) T (A++[L])
 |T,[],_,h=>⟨by simpa using h,.inl rfl,trivial⟩
 |T,M :: A,⟨h1,h2,h3⟩,h=>⟨h1,.inr (by
   rcases h2 with ⟨x,F,e⟩|⟨N,q,r⟩
   . exact⟨L,by simp,x,F,e⟩
   exact⟨N,List.mem_append_left _ q,r⟩),Grow.close h3 (by simpa using h)⟩
theorem Grow.at {R:List α->Prop}:∀ {T A D:List (List α)} {M:List α},Grow b R T (A++M :: D)->(∀ x∈frF b M,Ai M x∈T++A)/\(R M\/∃ N∈D,∃ x∈frF b N,M=Ai N x)
 |T,[],D,M,⟨h1,h2,h3⟩=>⟨by simpa using h1,h2⟩
 |T,N :: A,D,M,⟨h1,h2,h3⟩=>by have:=Grow.at (T:=T++[N]) (A:=A) h3;simpa using this
end
def ind (L:List Str):List Str->Nat:=λM=>if M=L then 1 else 0
theorem Sd {ns:List Str}{p q:Str->Bool}(h:ns.filter p=ns.filter q):B3 ns p=B3 ns q:=Ly λx F=>by
 have h1:x∈ns.filter p↔x∈ns.filter q:=by rw[h]
 rw[A0N,A0N] at h1
 cases hp:p x<;>cases hq:q x<;>simp_all
theorem Op {ns:List Str}{p q:Str->Bool}(h:B3 ns p=B3 ns q):ns.filter p=ns.filter q:=A1J λx F=>Lf h x F
theorem Zd {ns:List Str}{F G:List Str->Nat}{ct:List ((Str->Bool)×Nat)}(h:∀ e∈ct,F (ns.filter e.1)=G (ns.filter e.1)):Ie ns F ct=Ie ns G ct:=by unfold Ie;congr 1;exact A0Z λe he=>by rw[h e he]
def Ic (ns:List Str)(ct:List ((Str->Bool)×Nat)):List (List Str):=ct.map λe=>ns.filter e.1
theorem com_keys {ns:List Str}{ct:List ((Str->Bool)×Nat)}{q:Str->Bool}:(Sum.inl ((B3 ns q:Nat):Int):Key)∈(J5 ns ct).map (·.1)↔ns.filter q∈Ic ns ct:=by
 unfold J5 Ic;rw[A19,A0I,A0I];constructor
 . rintro⟨e,he,h⟩;refine⟨e,he,Op ?_⟩;have:=A3D h;omega
 rintro ⟨e,he,h⟩;exact⟨e,he,by show(Sum.inl ((B3 ns e.1:Nat):Int):Key)=_;rw[Sd h]⟩
theorem Yq {ns:List Str}{L:List Str}:∀ {ct:List ((Str->Bool)×Nat)},L∉Ic ns ct->Ie ns (ind L) ct=0
 | [],_=>rfl
 |e :: r,h=>by have h:L∉(ns.filter e.1) :: Ic ns r:=h;rw[A0B,not_or] at h;rw[C6,Yq h.2];unfold ind;rw[A0P (λz=>h.1 z.symm)];rfl
theorem Xc {ns:List Str}{q:Str->Bool}:∀ {ct:List ((Str->Bool)×Nat)},Sz ns ct->ns.filter q∈Ic ns ct->Ck (J5 ns ct) (Sum.inl ((B3 ns q:Nat):Int):Key)=some (.int ((Ie ns (ind (ns.filter q)) ct:Nat):Int))
 | [],_,h=>by cases h
 |e :: r,hO,h=>by
   have F:((Sum.inl ((B3 ns e.1:Nat):Int):Key) :: (J5 ns r).map (·.1)).Nodup:=hO;obtain⟨h1,h2⟩:=A0Y.mp F;have J:ns.filter e.1∉Ic ns r:=λz=>h1 (com_keys.mpr z);have h:ns.filter q∈(ns.filter e.1) :: Ic ns r:=h
   by_cases c:ns.filter e.1=ns.filter q
   . show Ck ((Sum.inl ((B3 ns e.1:Nat):Int),V.int ((e.2:Nat):Int)) :: J5 ns r) _=_;rw[Bh (by rw[Sd c]),C6,Yq (c ▸ J)];unfold ind;rw[A0X c,Nat.mul_one,Nat.add_zero]
   rcases A0B.mp h with h|h
   . exact absurd h.symm c
   have O:¬ (Sum.inl ((B3 ns e.1:Nat):Int):Key)=Sum.inl ((B3 ns q:Nat):Int):=λz=>c (Op (by have:=A3D z;omega));show Ck ((Sum.inl ((B3 ns e.1:Nat):Int),V.int ((e.2:Nat):Int)) :: J5 ns r) _=_;rw[Bc O,Xc h2 h,C6];unfold ind;rw[A0P c,Nat.mul_zero,Nat.zero_add]
theorem ah3 {ns:List Str}{F F':List Str->Nat}{L:List Str}(h:∀ M,M≠L->F M=F' M)(ct:List ((Str->Bool)×Nat)):Ie ns F ct+Ie ns (ind L) ct*F' L=Ie ns F' ct+Ie ns (ind L) ct*F L:=by
 induction ct with
 |nil=>simp[Ie]
 |cons e r ih=>
   rw[C6,C6,C6,A2D,A2D]
   by_cases c:ns.filter e.1=L
   . rw[c];unfold ind at ih ⊢;rw[A0X rfl,Nat.mul_one];omega
   rw[h _ c];unfold ind at ih ⊢;rw[A0P c,Nat.mul_zero,A4Y,A4Y];omega
theorem Ks {β:Type}(f g:β->Nat):∀ l:List β,(l.map λx=>f x+g x).sum=(l.map f).sum+(l.map g).sum
 | []=>rfl
 |x :: r=>by rw[A0H,A1F,Ks f g r,A0H,A1F,A0H,A1F];omega
theorem ae5 {β:Type}(f:β->Nat)(c:Nat):∀ l:List β,(l.map λx=>c*f x).sum=c*(l.map f).sum
 | []=>rfl
 |x :: r=>by rw[A0H,A1F,ae5 f c r,A0H,A1F,A47]
theorem af5 {L:List Str}{F:List Str->Nat}:∀ {all:List (List Str)},all.Nodup->L∈all->(all.map λM=>ind M L*F M).sum=F L
 | [],_,h=>by cases h
 |M :: r,hn,h=>by
   obtain⟨h1,h2⟩:=A0Y.mp hn;rw[A0H,A1F]
   by_cases c:L=M
   . subst c
     have:(r.map λM=>ind M L*F M).sum=0:=by
      rw[show(r.map λM=>ind M L*F M)=r.map λ_=>0 from A0Z λM q=>by unfold ind;rw[A0P (λz:L=M=>h1 (z ▸ q)),A4Y]]
      clear h h1 h2 hn
      induction r with
      |nil=>rfl
      |cons x r ih=>simpa using ih
     rw[this];unfold ind;rw[A0X rfl];omega
   rcases A0B.mp h with h|h
   . exact absurd h c
   rw[af5 h2 h];unfold ind;rw[A0P c];omega
theorem Yh {ns:List Str}{F:List Str->Nat}{all:List (List Str)}(hn:all.Nodup):∀ {ct:List ((Str->Bool)×Nat)},(∀ L∈Ic ns ct,L∈all)->(all.map λL=>Ie ns (ind L) ct*F L).sum=Ie ns F ct
 | [],h=>by
   show(all.map λL=>0*F L).sum=0;clear hn h
   induction all with
   |nil=>rfl
   |cons x r ih=>rw[A0H,A1F,ih,A4Y]
 |e :: r,h=>by have h1:ns.filter e.1∈all:=h _ (A0D ..);rw[C6,<- Yh hn (ct:=r) (λL q=>h L (A09 _ q)),<- af5 hn h1 (F:=F)];rw[<- ae5,<- Ks];congr 1;refine A0Z λL _=>?_;rw[C6,A2D,Nat.mul_assoc]
def Kc (D:List (List Str))(W loc:List Str->Nat):List Str->Nat:=λL=>if L∈D then loc L else W L
def Rec (b:Str->Str->Bool)(W loc:List Str->Nat):Prop:=∀ L,L.Nodup->W L=loc L+((frF b L).map λx=>W (Ai L x)).sum
theorem tele {b:Str->Str->Bool}{ns:List Str}{W loc:List Str->Nat}{D:List (List Str)}{M:List Str}{ct q:List ((Str->Bool)×Nat)}{w:Nat}(hR:Rec b W loc)(Z:M.Nodup)(Y:M∉D)(hn:∀ x∈frF b M,Ai M x∉M :: D)(J:Ie ns (Kc D W loc) ct=w)
  (h:∀ F,Ie ns F q=Ie ns F ct+Ie ns (ind M) ct*((frF b M).map λx=>F (Ai M x)).sum):Ie ns (Kc (M :: D) W loc) q=w:=by
 rw[h]
 have h1:((frF b M).map λx=>Kc (M :: D) W loc (Ai M x))=(frF b M).map λx=>W (Ai M x):=A0Z λx hx=>by unfold Kc;rw[A0P (hn x hx)]
 rw[h1]
 have h2:=ah3 (ns:=ns) (F:=Kc D W loc) (F':=Kc (M :: D) W loc) (L:=M) (λN hN=>by
  unfold Kc
  by_cases c:N∈D
  . rw[A0X c,A0X (A09 _ c)]
  rw[A0P c,A0P (λz=>by rcases A0B.mp z with z|z;exact hN z;exact c z)]) ct
 have O:Kc (M :: D) W loc M=loc M:=by unfold Kc;rw[if_pos (List.mem_cons_self ..)]
 have U:Kc D W loc M=W M:=by unfold Kc;rw[if_neg Y]
 rw[O,U,hR M Z,A47,J] at h2;omega
theorem Ws {a x:Str}{r:List Str}(h:a≠x):(a :: r).idxOf x=r.idxOf x+1:=by
 rw[List.idxOf_cons];have:(a==x)=false:=by simpa using h
 rw[this];rfl
def ahN (b:Str->Str->Bool)(x y:Str)(L:List Str):Nat:=if x∈L/\y∈L then((ext b L.length L).filter λr=>decide (r.idxOf x<r.idxOf y)).length else 0
def aq3 (b:Str->Str->Bool)(x y:Str)(L:List Str):Nat:=if x∈frF b L/\y∈Ai L x then cnt b (Ai L x) else 0
theorem Ua {α β:Type}(f:α->List β):∀ l:List α,(l.flatMap f).length=(l.map λx=>(f x).length).sum
 | []=>rfl
 |x :: r=>by rw[A1Q,A06,Ua f r,A0H,A1F]
theorem Ym {α β:Type}(f:α->List β)(p:β->Bool):∀ l:List α,(l.flatMap f).filter p=l.flatMap λx=>(f x).filter p
 | []=>rfl
 |x :: r=>by rw[A1Q,A1X,Ym f p r,A1Q]
theorem Wl {α:Type}{p:α->Bool}{l:List α}(h:∀ x∈l,p x=true):(l.filter p).length=l.length:=by rw[A3G.mpr h]
theorem Ms {α:Type}{p:α->Bool}{l:List α}(h:∀ x∈l,p x=false):(l.filter p).length=0:=by rw[A4O.mpr λx q=>by rw[h x q];decide];rfl
theorem ax6 {b:Str->Str->Bool}{x y:Str}{L:List Str}(hn:L.Nodup)(c:Nat):((frF b L).map λz=>if z=x then c else 0).sum=if x∈frF b L then c else 0:=by
 have J:(frF b L).Nodup:=A25 A1U hn;generalize frF b L=l at J ⊢
 induction l with
 |nil=>rfl
 |cons z r ih=>
   obtain⟨h1,h2⟩:=A0Y.mp J;rw[A0H,A1F,ih h2]
   by_cases F:z=x
   . subst F;rw[A0X rfl,A0P h1,A0X (A0D ..)];rfl
   rw[A0P F,Nat.zero_add]
   by_cases q:x∈r
   . rw[A0X q,A0X (A09 _ q)]
   rw[A0P q,A0P (λz=>by rcases A0B.mp z with z|z;exact F z.symm;exact q z)]
theorem aP7 {b:Str->Str->Bool}{x y:Str}(Y:x≠y):Rec b (ahN b x y) (aq3 b x y):=λL hn=>by
 by_cases hm:x∈L/\y∈L
 . have a1:L≠[]:=λz=>by rw[z] at hm;cases hm.1
   obtain⟨n,hl⟩:∃ n,L.length=n+1:=⟨L.length-1,by have:=A5B.mpr a1;omega⟩
   have h1:ahN b x y L=((frF b L).map λz=>(if z=x then cnt b (Ai L x) else 0)+ahN b x y (Ai L z)).sum:=by
    unfold ahN;rw[A0X hm,hl];show(((frF b L).flatMap λz=>(ext b n (Ai L z)).map (z :: ·)).filter _).length=_;rw[Ym,Ua];congr 1;refine A0Z λz hz=>?_;have a2:=(mem_frF.mp hz).1;have U:(Ai L z).length=n:=by have:=Bd hn a2;omega
    have a0:∀ r∈ext b n (Ai L z),r.Perm (Ai L z):=λr F=>((Cr b n (Ai L z) r (B9 hn z) U).mp F).1;rw[List.filter_map,A01]
    by_cases J:z=x
    . subst J;rw[A0X rfl,A0P (λq=>(mem_lessF.mp q.1).2 rfl),Nat.add_zero,Wl]
      . unfold cnt;rw[U]
      intro r F;have hy:y∈r:=(a0 r F).mem_iff.mpr (mem_lessF.mpr ⟨hm.2,Y.symm⟩);refine A16 ?_;show(z :: r).idxOf z<(z :: r).idxOf y;rw[List.idxOf_cons_self,Ws Y];omega
    rw[A0P J,Nat.zero_add]
    by_cases O:z=y
    . subst O;rw[A0P (λq=>(mem_lessF.mp q.2).2 rfl),Ms];intro r F;refine A0S ?_;show ¬ (z :: r).idxOf x<(z :: r).idxOf z;rw[List.idxOf_cons_self];omega
    rw[A0X ⟨mem_lessF.mpr ⟨hm.1,λq=>J q.symm⟩,mem_lessF.mpr ⟨hm.2,λq=>O q.symm⟩⟩,U];congr 1;refine A1J λr F=>?_;show decide ((z :: r).idxOf x<(z :: r).idxOf y)=_;rw[Ws J,Ws O]
    by_cases q:r.idxOf x<r.idxOf y
    . rw[A16 q,A16 ∅]
    rw[A0S q,A0S ∅]
   rw[h1,Ks,ax6 (y:=y) hn];congr 1;unfold aq3
   by_cases c:x∈frF b L
   . rw[A0X c,A0X ⟨c,mem_lessF.mpr ⟨hm.2,Y.symm⟩⟩]
   rw[A0P c,A0P (λq=>c q.1)]
 have h1:ahN b x y L=0:=by unfold ahN;rw[if_neg hm]
 have h2:aq3 b x y L=0:=by unfold aq3;rw[A0P (λq=>hm ⟨(mem_frF.mp q.1).1,(mem_lessF.mp q.2).1⟩)]
 have Z:((frF b L).map λz=>ahN b x y (Ai L z))=(frF b L).map λ_=>0:=A0Z λz _=>by unfold ahN;rw[A0P (λq=>hm ⟨(mem_lessF.mp q.1).1,(mem_lessF.mp q.2).1⟩)]
 rw[h1,h2,Z];generalize frF b L=l
 induction l with
 |nil=>rfl
 |cons z r ih=>simpa using ih
def knK (ns:List Str)(ps:List (Str×Str))(qs:List (Str->Bool)):List (Key×V):=qs.map λq=>((Sum.inl ((B3 ns q:Nat):Int):Key),V.int ((cnt (Ab ps) (ns.filter q):Nat):Int))
def Bt (ns:List Str)(qs:List (Str->Bool)):List (List Str):=qs.map λq=>ns.filter q
theorem Cm (ns:List Str)(a b:List (Str->Bool)):Bt ns (a++b)=Bt ns a++Bt ns b:=A0T
theorem aq5 {ns:List Str}{ps:List (Str×Str)}{qs:List (Str->Bool)}{q:Str->Bool}{v:V}(h:Ck (knK ns ps qs) (Sum.inl ((B3 ns q:Nat):Int):Key)=some v):ns.filter q∈Bt ns qs:=by obtain⟨e,he,h1⟩:=A0I.mp (T9 h);refine A0I.mpr ⟨e,he,Op ?_⟩;have:=A3D (Prod.mk.inj h1).1;omega
theorem az1 {ns:List Str}{ps:List (Str×Str)}{qs:List (Str->Bool)}{q:Str->Bool}(h:ns.filter q∉Bt ns qs):Ck (knK ns ps qs) (Sum.inl ((B3 ns q:Nat):Int):Key)=none:=by
 cases e:Ck (knK ns ps qs) (Sum.inl ((B3 ns q:Nat):Int):Key) with
 |none=>rfl
 |some v=>exact absurd (aq5 e) h
theorem aN9 {ns:List Str}{ps:List (Str×Str)}{qs:List (Str->Bool)}{q:Str->Bool}(h:ns.filter q∉Bt ns qs):Ge (knK ns ps qs) (Sum.inl ((B3 ns q:Nat):Int)) (.int ((cnt (Ab ps) (ns.filter q):Nat):Int))=knK ns ps (qs++[q]):=by rw[Jv _ (az1 h)];unfold knK;rw[A0T];rfl
theorem ai2 (ns:List Str)(ps:List (Str×Str)):([(Sum.inl 0,V.int 1)]:List (Key×V))=knK ns ps [λ_=>false]:=by unfold knK;rw [List.map_cons,List.map_nil,binM_zero.mpr λ_ _=>rfl,List.filter_eq_nil_iff.mpr (by simp)];rfl
theorem Xz {ns:List Str}{ps:List (Str×Str)}:∀ {qs:List (Str->Bool)} {q:Str->Bool},ns.filter q∈Bt ns qs->Ck (knK ns ps qs) (Sum.inl ((B3 ns q:Nat):Int):Key)=some (.int ((cnt (Ab ps) (ns.filter q):Nat):Int))
 | [],_,h=>by cases h
 |e :: r,q,h=>by
   show Ck ((Sum.inl ((B3 ns e:Nat):Int),V.int ((cnt (Ab ps) (ns.filter e):Nat):Int)) :: knK ns ps r) _=_
   by_cases c:ns.filter e=ns.filter q
   . rw[Bh (by rw[Sd c]),c]
   have F:¬ (Sum.inl ((B3 ns e:Nat):Int):Key)=Sum.inl ((B3 ns q:Nat):Int):=λz=>c (Op (by have:=A3D z;omega));rw[Bc F];rcases A0B.mp (show ns.filter q∈ns.filter e :: Bt ns r from h) with z|z
   . exact absurd z.symm c
   exact Xz z
theorem Knw.tt {ns:List Str}{ps:List (Str×Str)}{qs:List (Str->Bool)}(h:Knw ns ps (knK ns ps qs)):(Bt ns qs).Nodup:=by have h1:=h.1;unfold knK at h1;rw[A19] at h1;unfold Bt;unfold List.Nodup at h1 ⊢;rw[List.pairwise_map] at h1 ⊢;exact h1.imp fun {a b} q z=>q (by show(Sum.inl ((B3 ns a:Nat):Int):Key)=Sum.inl ((B3 ns b:Nat):Int);rw[Sd z])
def Gr (ns:List Str)(ps:List (Str×Str))(qs F:List (Str->Bool))(q:Str->Bool):Prop:=∃ new,F=qs++new/\Grow (Ab ps) (· = ns.filter q) (Bt ns qs) (Bt ns new)/\(∀ M∈Bt ns new,M.length<=(ns.filter q).length)/\ns.filter q∈Bt ns F
def GrC (ns:List Str)(ps:List (Str×Str))(qs q:List (Str->Bool))(L:List Str)(i:Nat):Prop:=∃ new,q=qs++new/\Grow (Ab ps) (λM=>∃ x∈frF (Ab ps) L,M=Ai L x) (Bt ns qs) (Bt ns new)/\(∀ M∈Bt ns new,M.length<L.length)/\∀ x∈(frF (Ab ps) L).take i,Ai L x∈Bt ns q
theorem GrC.zero (ns:List Str)(ps:List (Str×Str))(qs:List (Str->Bool))(L:List Str):GrC ns ps qs qs L 0:=⟨[],by simp,trivial,λM q=>(by cases q),λx F=>(by cases F)⟩
theorem GrC.step {ns:List Str}{ps:List (Str×Str)}{qs a0 a1:List (Str->Bool)}{L:List Str}{i:Nat}{z:Str}{q:Str->Bool}(hL:L.Nodup)(h:GrC ns ps qs a0 L i)(hz:(frF (Ab ps) L)[i]? = some z)(hq:ns.filter q=Ai L z)(g:Gr ns ps a0 a1 q):GrC ns ps qs a1 L (i+1):=by
 obtain⟨n1,rfl,h1,h2,h3⟩:=h;obtain⟨n2,rfl,O,U,Y⟩:=g;have Z:=A04 hz;have a2:=Bd hL (mem_frF.mp Z).1;rw[hq] at O U Y;refine⟨n1++n2,by rw[A21],?_,λM F=>?_,λx J=>?_⟩
 . rw[Cm];rw[Cm] at O;exact h1.app (O.mono λM F=>⟨z,Z,F⟩)
 . rw[Cm] at F;rcases A0A.mp F with F|F
   . exact h2 M F
   have:=U M F;omega
 rw[A0R,hz] at J;rcases A0A.mp J with J|J
 . rw[Cm];exact A0L _ (h3 x J)
 have:x=z:=by simpa using J
 rw[this];exact Y
theorem GrC.no {ns:List Str}{ps:List (Str×Str)}{qs F:List (Str->Bool)}{q:Str->Bool}{i:Nat}(h:GrC ns ps qs F (ns.filter q) i)(J:ns.filter q∉Bt ns qs):ns.filter q∉Bt ns F:=by
 obtain⟨U,rfl,h1,h2,O⟩:=h;intro z;rw[Cm] at z;rcases A0A.mp z with z|z
 . exact J z
 have:=h2 _ z;omega
theorem GrC.close {ns:List Str}{ps:List (Str×Str)}{qs O:List (Str->Bool)}{q:Str->Bool}(h:GrC ns ps qs O (ns.filter q) (frF (Ab ps) (ns.filter q)).length):Gr ns ps qs (O++[q]) q:=by
 obtain⟨Y,rfl,h1,h2,J⟩:=h;rw[A0W] at J;refine⟨Y++[q],by rw[A21],?_,λM F=>?_,?_⟩
 . rw[Cm];exact h1.close λx U=>by rw[<- Cm];exact J x U
 . rw[Cm] at F;rcases A0A.mp F with F|F
   . exact A2H (h2 M F)
   have:M=ns.filter q:=by simpa[Bt] using F
   rw[this];exact A08 _
 rw[Cm];exact List.mem_append_right _ (by simp[Bt])
structure WaysB (K:W.Frag)(C:Addr)(H:Hp)(p dx:Addr)(nv:V)(bd ad kd:Addr)(ns:List Str)(ps:List (Str×Str)):Prop where
 ob:H p=some (.ins C dx [("names",nv),("bits",.ref bd),("ahead",.ref ad),("full",.int ((B3 ns (λ_=>true):Nat):Int)),("known",.ref kd)])
 nm:Is K H (nmD ns) nv
 bt:H bd=some (.dK (aD4 ns))
 ah:H ad=some (.dK (ahK ns ps))
theorem WaysAt.b {K:W.Frag}{C:Addr}{H:Hp}{p dx:Addr}{nv:V}{bd ad kd:Addr}{ns:List Str}{ps:List (Str×Str)}{kvs:List (Key×V)}(h:WaysAt K C H p dx nv bd ad kd ns ps kvs):WaysB K C H p dx nv bd ad kd ns ps:=⟨h.ob,h.nm,h.bt,h.ah⟩
theorem WaysB.of {K:W.Frag}{C:Addr}{H H':Hp}{p dx:Addr}{nv:V}{bd ad kd:Addr}{ns:List Str}{ps:List (Str×Str)}(h:WaysB K C H p dx nv bd ad kd ns ps)(f:Fz H H')(e:∀ b o,b=p\/b=bd\/b=ad->H b=some o->H' b=some o):WaysB K C H' p dx nv bd ad kd ns ps:=⟨e _ _ (.inl rfl) h.ob,h.nm.nm_fz f,e _ _ (.inr (.inl rfl)) h.bt,e _ _ (.inr (.inr rfl)) h.ah⟩
theorem WaysB.same {K:W.Frag}{C:Addr}{H H':Hp}{p dx:Addr}{nv:V}{bd ad kd:Addr}{ns:List Str}{ps:List (Str×Str)}(h:WaysB K C H p dx nv bd ad kd ns ps)(e:Same H H'):WaysB K C H' p dx nv bd ad kd ns ps:=h.of e.fz λb o _=>e b o
def aQ7 (K:W.Frag)(a:Addr)(n:Nat):It:=
 ⟨λi H=>i<n/\∃ xs,SqL K H a xs/\xs.length=n,λi H v H'=>H'=H/\∀ xs,SqL K H a xs->xs[n-1-i]? = some v,λi H=>n<=i⟩
theorem ag3 {P:Program}{w:World}{K:W.Frag}{tg:Expr}(a it:Addr)(n:Nat)(a4:a≠it):aa3 P w K tg (aQ7 K a n) [it] it (λi h=>i<=n/\h.IsRevIter it a ((n:Int)-1-(i:Int))) where
 mem:=by simp
 obj:=λi h st b hb=>by
  have q:b=it:=by simpa using hb
  subst q;obtain⟨_,o,h2,h3,h4⟩:=st;exact⟨o,h2,λv z=>by rw[h4] at z;cases z⟩
 keep:=λi h h' st k=>⟨st.1,st.2.at λo q=>k it (by simp) o q⟩
 item:=by
  intro X hP hw hK hc i pins s σ H E I hf st hg;subst hP hw hK;obtain⟨a2,xs,hq,a5⟩:=hg;obtain⟨a6,rv,p,hz⟩:=I.list hq;have hl:=rv.length;have hn:=Pb;obtain⟨J,O,f2,U,Y,Z⟩:=hf it (by simp);have e:(n:Int)-1-(i:Int)=((n-1-i:Nat):Int):=by omega
  have F:=st.2;rw[e] at F;obtain⟨x,hx⟩:∃ x,xs[n-1-i]? = some x:=⟨xs[n-1-i]'∅,A03 _⟩;obtain⟨u,hu,ru⟩:=rv.get hx;refine wpAny_pyNext_rev_item F p.isList (x:=u) (by rw[A33];exact hu) λh' a0 a3=>?_;have I1:Inv X pins σ H {s with heap:=h'}:=I.turned (t':=s.toks) (λb o hb e=>a3.extBut b o (by simpa using hb) e) J O U Y Z
  obtain⟨o,q1,q2,q3⟩:=id a0;have e2:((n-1-i:Nat):Int)-1=(n:Int)-1-((i+1:Nat):Int):=by omega
  rw[e2] at a0;refine⟨u,rfl,Zx (s:={s with heap:=h'}) q1 q2 q3 (by decide +kernel) ⟨x,H,I1,ru,⟨rfl,λys hy=>by rw[I.list_inj hy hq];exact hx⟩,⟨a2,a0⟩,λb hb=>(hf b hb).1⟩⟩
 done:=by intro X hP hw hK hc i pins s σ H E I hf st hg;subst hP hw hK;obtain⟨J,O,f2,U,Y,Z⟩:=hf it (by simp);have a1:n<=i:=hg;have hi:i=n:=Nat.le_antisymm st.1 a1;subst hi;have F:=st.2;rw[show(i:Int)-1-(i:Int) = -1 by omega] at F;refine wpAny_pyNext_rev_end (by simpa using I.ok.hd hc) F λh' hk=>⟨rfl,I.turned (t':=s.toks) (λb o hb e=>hk b o (by simpa using hb) e) J O U Y Z⟩
 self:=by intro A i s Q E st hQ;exact wpAny_pyIter_revIter st.2 hQ
section
variable {X:Cx}{K:W.Frag}
def aA0 (K:W.Frag)(vs:List V)(H:Hp)(R:It->Hp->Prop):Prop:=∃ a xs,vs=[.ref a]/\SqL K H a xs/\R (aQ7 K a xs.length) H
def aO0 (K:W.Frag)(ta:TA):TI:=fun σ H R=>ta σ H λvs H1=>aA0 K vs H1 R
theorem ay2 {e:Expr}{ta:TA}{p pos:Pos}{tg:Expr}(hg:Gl X "reversed")(hm:X.mg "reversed" = none)(ha:PA X [e] ta)(Y:X.K=K:=by ac_nf)(hs:starEach [e] X.env=[(false,eval e X.env)]:=by ac_nf) :
  PI X tg (.Call (.Name "reversed" p) [e] [] pos) (aO0 K ta):=by
 subst Y;intro pins s σ H R I h;refine Call_ (K3 I hg hm boot_reversed (A1W (thn (ha pos pins s σ H _ I h) λus F ⟨vs,H1,J,r1,q1⟩=>?_) hs rfl));obtain⟨a,xs,rfl,hq,q⟩:=q1;obtain⟨u,rfl,ru⟩:=Vals.one r1
 cases ru;obtain⟨a0,rv,U,hz⟩:=J.list hq;have Z:a<F.heap.objs.size:=let ⟨_,q,_⟩:=U.isList;A0F q;have hl:=rv.length;have hn:=Pb;refine call_reversed_list U.isList ?_;have O:(F.heap.push (revObj a ((a0.toArray.size:Int)-1))).IsRevIter F.heap.objs.size a ((xs.length:Int)-1-((0:Nat):Int)):=⟨_,Heap.get?_push_size _ rfl,rfl,by rw[List.size_toArray,<- hl];simp[revObj]⟩;refine wpAny_pyIter_revIter O ?_;refine⟨F.heap.objs.size,[F.heap.objs.size],_,_,H1,rfl,J.kept (t':=F.toks) (λb o e=>A02 _ e),ag3 a F.heap.objs.size xs.length (A11 Z),⟨A2M _,O⟩,λb hb=>?_,q⟩;have e:b=F.heap.objs.size:=by simpa using hb
 subst e;exact J.fpOk (A08 _) (J.hok.fresh (A08 _))
end
section
variable {K:W.Frag}{σ:St}{H:Hp}
theorem ax7 {q:TA}{R:It->Hp->Prop}(k:q σ H λvs H1=>aA0 K vs H1 R):aO0 K q σ H R:=k
theorem aa0 {a:Addr}{xs:List V}:Hr (aQ7 K a xs.length) xs.reverse λH=>SqL K H a xs:=by intro i H g;rw[A59];refine⟨λh=>⟨h,xs,g,rfl⟩,λh=>h,λx H' hi h=>?_⟩;obtain⟨e,h2⟩:=h;refine⟨e,?_⟩;rw[List.getElem?_reverse hi];exact h2 xs g
theorem aP6 {a:Addr}{xs:List V}{R:It->Hp->Prop}(h:SqL K H a xs)(k:R (aQ7 K a xs.length) H):aA0 K [.ref a] H R:=⟨a,xs,rfl,h,k⟩
end
theorem aj0 {α:Type}{xs:List α}{i:Nat}{M:α}(h:xs.reverse[i]? = some M):∃ A,xs=A++M :: (xs.reverse.take i).reverse:=by
 obtain⟨hi,q⟩:=A00.mp h;refine⟨(xs.reverse.drop (i+1)).reverse,?_⟩
 have h1:xs.reverse=xs.reverse.take i++M :: xs.reverse.drop (i+1):=by conv=>lhs;rw[<- List.take_append_drop i xs.reverse,List.drop_eq_getElem_cons hi,q]
 have h2:=congrArg List.reverse h1;rw[List.reverse_reverse,List.reverse_append,List.reverse_cons,A21] at h2;exact h2
theorem ao7 {α:Type}{xs:List α}{i:Nat}{M:α}(h:xs[i]? = some M):(xs.take (i+1)).reverse=M :: (xs.take i).reverse:=by rw[A0R,h];simp
theorem az6 (b:Str->Str->Bool):frF b ([]:List Str)=[]:=rfl
theorem aK9 {ns:List Str}{ps:List (Str×Str)}{qs:List (Str->Bool)}{A D:List (List Str)}{M:List Str}(h:Gr ns ps [λ_=>false] qs (λ_=>true))(e:Bt ns qs=A++M :: D) :
  frF (Ab ps) M=[]\/((∀ x∈frF (Ab ps) M,Ai M x∈A)/\(M=ns\/∃ N∈D,∃ x∈frF (Ab ps) N,M=Ai N x)):=by
 obtain⟨new,rfl,h1,h2,Z⟩:=h;have J:Bt ns [λ_=>false]=[[]]:=by unfold Bt;simp
 rw[Cm,J] at e;rw[J] at h1
 cases A with
 |nil=>left;have:([]:List Str)=M:=(A37 e).1;rw[<- this];exact az6 _
 |cons B A=>
   right
   obtain⟨O,F⟩:=A37 e;subst O;have F:Bt ns new=A++M :: D:=F;rw[F] at h1;obtain⟨U,q⟩:=h1.at;refine⟨λx Y=>by simpa using U x Y,?_⟩;rcases q with q|q
   . left;rw[q];simp
   exact .inr q
structure CmI (ns:List Str)(ps:List (Str×Str))(T D:List (List Str))(ct:List ((Str->Bool)×Nat)):Prop where
 k1:∀ L∈Ic ns ct,L∈T
 k2:ns∈Ic ns ct
 k3:∀ M∈D,∀ x∈frF (Ab ps) M,Ai M x∈Ic ns ct
 sm:∀ W loc,Rec (Ab ps) W loc->Ie ns (Kc D W loc) ct=W ns
theorem CmI.start {ns:List Str}{ps:List (Str×Str)}{T:List (List Str)}(h:ns∈T):CmI ns ps T [] [(λ_=>true,1)]:=by
 have q:ns.filter (λ_=>true)=ns:=by simp
 refine⟨λL F=>?_,?_,λM J=>(by cases J),λW loc _=>?_⟩
 . have:L=ns:=by simpa[Ic,q] using F
   rw[this];exact h
 . rw[show Ic ns [((λ_=>true:Str->Bool),1)]=[ns.filter λ_=>true] from rfl,q];exact A0D ..
 rw[C6];show 1*Kc [] W loc (ns.filter λ_=>true)+0=_;rw[q];unfold Kc;rw[if_neg (by simp)];omega
structure CmJ (ns:List Str)(ps:List (Str×Str))(M:List Str)(m:Nat)(ct1 ct2:List ((Str->Bool)×Nat)):Prop where
 ks:∀ L,L∈Ic ns ct2↔L∈Ic ns ct1\/∃ x∈(frF (Ab ps) M).take m,L=Ai M x
 sm:∀ F,Ie ns F ct2=Ie ns F ct1+Ie ns (ind M) ct1*(((frF (Ab ps) M).take m).map λx=>F (Ai M x)).sum
theorem CmJ.zero (ns:List Str)(ps:List (Str×Str))(M:List Str)(ct:List ((Str->Bool)×Nat)):CmJ ns ps M 0 ct ct:=⟨λL=>by simp,λF=>by simp⟩
theorem ay3 {L:List Str}{x:Str}(h:x∈L):Ai L x≠L:=λz=>by rw[<- z] at h;exact(mem_lessF.mp h).2 rfl
theorem CmJ.same {ns:List Str}{ps:List (Str×Str)}{M:List Str}{m:Nat}{q ct2:List ((Str->Bool)×Nat)}(h:CmJ ns ps M m q ct2):Ie ns (ind M) ct2=Ie ns (ind M) q:=by
 rw[h.sm]
 have:((frF (Ab ps) M).take m).map (λx=>ind M (Ai M x))=((frF (Ab ps) M).take m).map λ_=>0:=A0Z λx F=>by unfold ind;rw[A0P (ay3 (mem_frF.mp ((A4F _ _).subset F)).1)]
 rw[this];generalize (frF (Ab ps) M).take m=l
 have:(l.map λ_=>0).sum=0:=by
  induction l with
  |nil=>rfl
  |cons z r ih=>simpa using ih
 rw[this];omega
theorem CmJ.step {ns:List Str}{ps:List (Str×Str)}{M:List Str}{m:Nat}{a0 ct2 U:List ((Str->Bool)×Nat)}{z:Str}{q:Str->Bool}(h:CmJ ns ps M m a0 ct2)(hz:(frF (Ab ps) M)[m]? = some z)(Z:ns.filter q=Ai M z)
  (Y:∀ k,k∈(J5 ns U).map (·.1)↔k∈(J5 ns ct2).map (·.1)\/k=Sum.inl ((B3 ns q:Nat):Int)) (g5:∀ F,Ie ns F U=Ie ns F ct2+Ie ns (ind M) ct2*F (ns.filter q)):CmJ ns ps M (m+1) a0 U:=by
 refine⟨λL=>?_,λF=>?_⟩
 . have a1:L∈Ic ns U↔L∈Ic ns ct2\/L=Ai M z:=by
    constructor
    . intro O;obtain⟨e,he,rfl⟩:=A0I.mp O;rcases(Y _).mp (com_keys.mpr O) with g|g
      . exact .inl (com_keys.mp g)
      right
      rw[<- Z];exact Op (by have:=A3D g;omega)
    rintro(O|rfl)
    . obtain⟨e,he,rfl⟩:=A0I.mp O;exact com_keys.mp ((Y _).mpr (.inl (com_keys.mpr O)))
    rw[<- Z];exact com_keys.mp ((Y _).mpr (.inr rfl))
   rw[a1,h.ks,A0R,hz];constructor
   . rintro((a|⟨x,J,e⟩)|e)
     . exact .inl a
     . exact .inr ⟨x,A0L _ J,e⟩
     exact .inr ⟨z,by simp,e⟩
   rintro(a|⟨x,J,e⟩)
   . exact .inl (.inl a)
   rcases A0A.mp J with J|J
   . exact .inl (.inr ⟨x,J,e⟩)
   have:x=z:=by simpa using J
   exact .inr (this ▸ e)
 rw[g5,h.same,h.sm,Z,A0R,hz,A0T,List.sum_append,A47];simp;omega
theorem CmI.step {ns:List Str}{ps:List (Str×Str)}{T A D:List (List Str)}{M:List Str}{U ct2:List ((Str->Bool)×Nat)}(h:CmI ns ps T D U)(hT:T=A++M :: D)(hn:T.Nodup)(hM:M.Nodup)(a0:∀ x∈frF (Ab ps) M,Ai M x∈A)(g:CmJ ns ps M (frF (Ab ps) M).length U ct2):CmI ns ps T (M :: D) ct2:=by
 have J:=g.ks;have Y:=g.sm;rw[A0W] at J Y;rw[hT] at hn;obtain⟨n1,n2,n3⟩:=A1G.mp hn;refine⟨λL hL=>?_,(J _).mpr (.inl h.k2),λN O x F=>?_,λW loc Z=>?_⟩
 . rcases(J L).mp hL with q|⟨x,F,rfl⟩
   . exact h.k1 L q
   rw[hT];exact A0L _ (a0 x F)
 . rcases A0B.mp O with rfl|O
   . exact(J _).mpr (.inr ⟨x,F,rfl⟩)
   exact(J _).mpr (.inl (h.k3 N O x F))
 exact tele Z hM (A0Y.mp n2).1 (λx F z=>n3 _ (a0 x F) _ z rfl) (h.sm W loc Z) Y
def wof (b:Str->Str->Bool)(loc:List Str->Nat):Nat->List Str->Nat
 |0,L=>loc L
 |n+1,L=>loc L+((frF b L).map λx=>wof b loc n (Ai L x)).sum
theorem az8 {b:Str->Str->Bool}(loc:List Str->Nat):Rec b (λL=>wof b loc L.length L) loc:=λL hn=>by
 show wof b loc L.length L=_
 cases hl:L.length with
 |zero=>have:L=[]:=A1B.mp hl;subst this;rfl
 |succ n=>show loc L+_=loc L+_;congr 2;refine A0Z λx q=>?_;have:=Bd hn (mem_frF.mp q).1;show _=wof b loc (Ai L x).length (Ai L x);rw[show(Ai L x).length=n by omega]
theorem M7 {α:Type}{f:α->Nat}{c:Nat}:∀ {l:List α},(∀ x∈l,f x<=c)->(l.map f).sum<=l.length*c
 | [],_=>by simp
 |x :: r,h=>by have h1:=h x (A0D ..);have h2:=M7 (l:=r) λy q=>h y (A09 _ q);rw[A0H,A1F,A0G,A2D];omega
theorem Ob {α:Type}{f:α->Nat}:∀ {l:List α},(∀ x∈l,f x=0)->(l.map f).sum=0
 | [],_=>rfl
 |x :: r,h=>by rw[A0H,A1F,h x (A0D ..),Ob (l:=r) λy q=>h y (A09 _ q)]
theorem as4 {b:Str->Str->Bool}{q:List Str}:∀(n:Nat) (L:List Str),L.Nodup->L.length=n->wof b (ind q) n L<=fac n/\(n<q.length->wof b (ind q) n L=0)
 |0,L,_,hl=>by
   have:L=[]:=A1B.mp hl;subst this;refine⟨?_,λh=>?_⟩
   . show ind q []<=1;unfold ind
     split<;>omega
   show ind q []=0;unfold ind;rw[A0P (λz:([]:List Str)=q=>by rw[<- z] at h;cases h)]
 |n+1,L,hn,hl=>by
   have sub:∀ x∈frF b L,wof b (ind q) n (Ai L x)<=fac n/\(n<q.length->wof b (ind q) n (Ai L x)=0):=λx F=>as4 n (Ai L x) (B9 hn x) (by have:=Bd hn (mem_frF.mp F).1;omega)
   have J:(frF b L).length<=n+1:=hl ▸ A0U _ _;refine⟨?_,λh=>?_⟩
   . show ind q L+((frF b L).map λx=>wof b (ind q) n (Ai L x)).sum<=fac (n+1);rw[show fac (n+1)=(n+1)*fac n by simp[fac,Nat.mul_comm]]
     by_cases c:L=q
     . have hz:((frF b L).map λx=>wof b (ind q) n (Ai L x)).sum=0:=Ob λx F=>(sub x F).2 (by rw[<- c,hl];omega);rw[hz]
       have:1<=fac n:=by
        clear hz sub J hl c
        induction n with
        |zero=>exact A08 _
        |succ n ih=>rw[show fac (n+1)=(n+1)*fac n by simp[fac,Nat.mul_comm]];exact Nat.le_trans ih (Nat.le_mul_of_pos_left _ ∅)
       unfold ind;rw[A0X c];have:=Nat.le_mul_of_pos_left (fac n) (show 0<n+1 by omega);omega
     have h1:=M7 λx F=>(sub x F).1;have h2:=A54 (fac n) J;unfold ind at h1 ⊢;rw[A0P c];omega
   show ind q L+_=0;rw[Ob λx F=>(sub x F).2 ∅];unfold ind;rw[A0P (λz=>by rw[<- z] at h;omega)]
theorem CmI.sum {ns:List Str}{ps:List (Str×Str)}{T:List (List Str)}{ct:List ((Str->Bool)×Nat)}(h:CmI ns ps T T ct){W loc:List Str->Nat}(q:Rec (Ab ps) W loc):Ie ns loc ct=W ns:=by rw[<- h.sm W loc q];refine Zd λe he=>?_;unfold Kc;rw[A0X (h.k1 _ (A0I.mpr ⟨e,he,rfl⟩))]
theorem CmI.le {ns:List Str}{ps:List (Str×Str)}{T:List (List Str)}{ct:List ((Str->Bool)×Nat)}(h:CmI ns ps T T ct)(hn:ns.Nodup)(q:ns.length<=10)(L:List Str):Ie ns (ind L) ct<=3628800:=by rw[h.sum (az8 (ind L))];exact A0O (as4 _ ns hn rfl).1 (A0O (as6 q) nofun)
theorem CmI.share {ns:List Str}{ps:List (Str×Str)}{T:List (List Str)}{ct:List ((Str->Bool)×Nat)}(h:CmI ns ps T T ct)(hn:T.Nodup)(J:HalfW ns ps){x y:Str}(q:x∈ns)(F:y∈ns)(O:x≠y) :
  (T.map λL=>Ie ns (ind L) ct*aq3 (Ab ps) x y L).sum=cnt (Ab (ps++[(x,y)])) ns:=by
 rw[Yh hn h.k1,h.sum (aP7 O),Jp J q F];unfold ahN;rw[A0X ⟨q,F⟩]
def W7 (ns:List Str)(g:Str->Nat):List (Key×V):=ns.map λy=>((Sum.inr y:Key),V.int ((g y:Nat):Int))
structure TabN (H:Hp)(r:Addr)(ns:List Str)(as:List Addr)(f:Str->Str->Nat):Prop where
 len:as.length=ns.length
 nd:as.Nodup
 no:r∉as
 top:H r=some (.dK (Gj ns as))
 row:∀(j:Nat) x a,ns[j]? = some x->as[j]? = some a->H a=some (.dK (W7 ns (f x)))
theorem TabN.of {H H':Hp}{r:Addr}{ns:List Str}{as:List Addr}{f:Str->Str->Nat}(h:TabN H r ns as f)(e:∀ b o,b=r\/b∈as->H b=some o->H' b=some o):TabN H' r ns as f:=
 ⟨h.len,h.nd,h.no,e _ _ (.inl rfl) h.top,λj x a q ha=>e _ _ (.inr (A04 ha)) (h.row j x a q ha)⟩
theorem TabN.same {H H':Hp}{r:Addr}{ns:List Str}{as:List Addr}{f:Str->Str->Nat}(h:TabN H r ns as f)(e:Same H H'):TabN H' r ns as f:=h.of λb o _=>e b o
theorem TabN.at {H:Hp}{r:Addr}{ns:List Str}{as:List Addr}{f:Str->Str->Nat}(h:TabN H r ns as f){x:Str}(J:x∈ns):∃(j:Nat) (a:Addr),ns[j]? = some x/\as[j]? = some a:=by obtain⟨j,q⟩:=A1K.mp J;have F:=(A00.mp q).1;exact⟨j,as[j]'(by rw[h.len];exact F),q,A03 _⟩
theorem ao6 {ns:List Str}(hn:ns.Nodup){g:Str->Nat}{z:Str}(hz:z∈ns){m:Nat}:Ge (W7 ns g) (Sum.inr z:Key) (.int ((m:Nat):Int))=W7 ns λy=>if y=z then m else g y:=by
 unfold Ge
 have F:((W7 ns g).any λkv=>decide (kv.1=(Sum.inr z:Key)))=true:=by rw[A1E];exact⟨_,List.mem_map.mpr ⟨z,hz,rfl⟩,by simp⟩
 rw[A0X F];unfold W7;rw[A19];refine A0Z λy _=>?_
 by_cases c:y=z
 . subst c;simp
 have:(Sum.inr y:Key)≠Sum.inr z:=λq=>c (by injection q);simp[c,this]
theorem TabN.put {H H':Hp}{r a:Addr}{ns:List Str}{as:List Addr}{f:Str->Str->Nat}(h:TabN H r ns as f)(hn:ns.Nodup){j:Nat}{x z:Str}{m:Nat}(Z:ns[j]? = some x)(ha:as[j]? = some a)(hz:z∈ns)(e:ExtBut a H H')(h':H' a=some (.dK (Ge (W7 ns (f x)) (Sum.inr z:Key) (.int ((m:Nat):Int))))) :
  TabN H' r ns as λF y=>if F=x/\y=z then m else f F y:=by
 have a0:=A04 ha;refine⟨h.len,h.nd,h.no,e _ _ (λq=>h.no (q ▸ a0)) h.top,λi F Y hi J=>?_⟩
 by_cases c:i=j
 . subst c;rw[Z] at hi
   cases hi;rw[ha] at J
   cases J;rw[h',ao6 hn hz];congr 2;exact List.map_congr_left λy _=>by by_cases q:y=z<;>simp[q]
 have a1:Y≠a:=λq=>by subst q;obtain⟨l1,O⟩:=A00.mp ha;obtain⟨l2,U⟩:=A00.mp J;exact c ((A1H h.nd).mp (U.trans O.symm))
 have hx:F≠x:=λq=>by subst q;obtain⟨l1,O⟩:=A00.mp Z;obtain⟨l2,U⟩:=A00.mp hi;exact c ((A1H hn).mp (U.trans O.symm))
 rw[e _ _ a1 (h.row i F Y hi J)];congr 2;exact List.map_congr_left λy _=>by simp[hx]
theorem aj5 {ns:List Str}(hn:ns.Nodup)(g:Str->Nat):((W7 ns g).map (·.1)).Nodup:=by unfold W7;rw[A19];exact List.Pairwise.map _ (λa b h z=>h (by injection z)) hn
section
variable {K:W.Frag}{H H':Hp}{x:V}{ns:List Str}{σ:St}{Q:VK}
def NmS (K:W.Frag)(H:Hp)(x:V)(ns:List Str):Prop:=∃ a,x = .ref a/\(SqL K H a (ns.map V.str)\/SqT K H a (ns.map V.str))
theorem NmS.same (h:NmS K H x ns)(e:Same H H'):NmS K H' x ns:=by obtain⟨a,rfl,h⟩:=h;exact⟨a,rfl,h.imp e.seq e.seqT⟩
theorem NmS.of (h:Is K H (nmD ns) x):NmS K H x ns:=by obtain⟨a,rfl,g⟩:=h.nm;exact⟨a,rfl,.inr g⟩
theorem aj4 (h:NmS K H x ns)(k:Q (.int ns.length) H):Zt K [x] H Q:=by
 obtain⟨a,rfl,h | h⟩:=h
 . exact .inl ⟨.ref a,_,rfl,.inl ⟨_,h,rfl⟩,by rw[A01];exact k⟩
 exact aN6 (Np h) k
theorem at2 {i:Int}{z:Str}(h:NmS K H x ns)(e:atI ns i=some z)(k:Q (.str z) H):Qm K x (.int i) H Q:=by
 obtain⟨a,rfl,h | h⟩:=h
 . refine aP3 h ?_ k;unfold atI at e ⊢;rw[A01]
   cases c:ixN ns.length i with
   |none=>rw[c] at e;cases e
   |some j=>rw[c] at e;show(ns.map V.str)[j]? = _;rw[A07,show ns[j]? = some z from e];rfl
 exact aT5 (Np h) e k
theorem Y9 {g:TG}{tt:TT}{te:TE}{k:Nat}{js:List Nat}(h:NmS K H x ns)(t:Str->Bool)(f:Str->PyData)(hf:∀ a,frz (f a)=true)(hz:ns.length<=1000000)
  (F:∀(i:Nat) a H1 (R:VK) (R':Hp->Prop),ns[i]? = some a->Same H H1->(t a=true->∀ y H2,Same H1 H2->Is K H2 (f a) y->R y H2)->(t a=false->∀ H2,Same H1 H2->R' H2) ->
   g (.str a) (List.replicate k none++Py σ js) H1 fun σ2 H2=>tt σ2 H2 λb q=>if b=true then te σ2 q R else R' q)
  (hd:∀ p ys H',H p=none->Same H H'->H' p=some (.lst ys)->IsL K H' ((ns.filter t).map f) ys->Q (.ref p) H'):G4 K x H λJ H1=>Om k js g tt te σ J H1 Q:=by
 obtain⟨a,rfl,h | h⟩:=h
 . exact Ta h t f hf hz F hd
 exact Rq (Np h) t f hf hz F hd
def NmX (K:W.Frag)(H:Hp)(q:Addr)(x:V)(ns:List Str):Prop:=∃ p,x = .ref p/\((p≠q/\H p=some (.lst (ns.map V.str)))\/SqT K H p (ns.map V.str))
theorem aO2 {q:Addr}{o:HO}{t:Int}(O:H q=some o)(h:NmS K H x ns)(J:0<=t)(h1:t<=ns.length)(k:∀ y H',Same H H'->NmX K H' q y (ns.drop t.toNat)->Q y H'):aE4 K x (some t) none H Q:=by
 have F:R6 (ns.map V.str) (some t) none=(ns.drop t.toNat).map V.str:=by rw[Kw J (by rw[A01];exact h1),A3Z]
 obtain⟨a,rfl,h | h⟩:=h
 . exact Nm h λp H' hp e g=>k _ _ e ⟨p,rfl,.inl ⟨(ne_of_none O hp).symm,by rw[<- F];exact g⟩⟩
 exact aU6 h λp H' e g=>k _ _ e ⟨p,rfl,.inr (by rw[<- F];exact g)⟩
theorem ay8 {q:Addr}{g:TG}{tb:TS}{D:Po}(h:NmX K H q x ns)(Pv:Nat->St->Hp->Prop)(O:Pv 0 σ H)(U:∀ i σ' H',Pv i σ' H'->ExtBut q H H'/\Fz H H')
  (Y:∀ i z σ' H',ns[i]? = some z->Pv i σ' H'->g (.str z) σ' H' fun σ2 H2=>tb {D with nx:=Pv (i+1),ct:=Pv (i+1),bk:=D.nx} σ2 H2) (hd:∀ σ' H',Pv ns.length σ' H'->D.nx σ' H') :
  G4 K x H λJ H1=>an9 g tb D σ J H1:=by
 obtain⟨a,rfl,⟨Z,h⟩ | h⟩:=h
 . refine Kf (SqL.of h) (Ep Bp Pv O (λi σ' H' p=>SqL.of ((U i σ' H' p).1 _ _ Z h)) (λi v σ' H' F hi p=>?_) fun σ' H' p=>hd σ' H' (by rw[A01] at p;exact p));rw[A07] at F
   cases hn:ns[i]? with
   |none=>rw[hn] at F;cases F
   |some z=>
     rw[hn] at F
     cases F;exact Y i z σ' H' hn p
 exact Ml (Np h) Pv O (λi σ' H' p=>(U i σ' H' p).2) Y hd
def HfS (K:W.Frag)(H:Hp)(x:V)(ns:List Str)(ps:List (Str×Str)):Prop:=∃ a nv pv,x = .ref a/\SqT K H a [nv,pv]/\NmS K H nv ns/\Is K H (psD ps) pv
theorem HfS.same {ps:List (Str×Str)}(h:HfS K H x ns ps)(e:Same H H'):HfS K H' x ns ps:=by obtain⟨a,nv,pv,rfl,h1,h2,q⟩:=h;exact⟨a,nv,pv,rfl,e.seqT h1,h2.same e,Is.mono e _ _ q⟩
theorem HfS.of {ps:List (Str×Str)}(h:Is K H (hfD ns ps) x):HfS K H x ns ps:=by
 obtain⟨a,xs,rfl,h1,h2⟩:=Is.tup h;obtain ⟨Y,q,J⟩:=h2.at (i:=0) rfl;obtain⟨Z,F,O⟩:=h2.at (i:=1) rfl;have U:=h2.length
 match xs,q,F,U with
 | [y1,y2],q,F,_=>
   cases q
   cases F;exact⟨a,Y,Z,rfl,h1,.of J,O⟩
theorem au1 {ps:List (Str×Str)}(h:HfS K H x ns ps)(k:∀ v,NmS K H v ns->Q v H):Qm K x (.int 0) H Q:=by obtain⟨a,nv,pv,rfl,h1,h2,q⟩:=h;exact .inl (.inr (.inl ⟨a,_,_,_,rfl,rfl,h1,Fd (j:=0) rfl,k _ h2⟩))
theorem aH4 {ps:List (Str×Str)}(h:HfS K H x ns ps)(k:∀ v,Is K H (psD ps) v->Q v H):Qm K x (.int 1) H Q:=by obtain ⟨a,nv,pv,rfl,h1,h2,q⟩:=h;exact .inl (.inr (.inl ⟨a,_,_,_,rfl,rfl,h1,Fd (j:=1) rfl,k _ q⟩))
end
theorem a52 {ns:List Str}{ps:List (Str×Str)}:∀(i:Nat) (row:List Str),row∈Fc (Ab ps) ns i [[]]->∀ y∈G7 ns row,∀ z∈ns,Ab ps y z=true->z∈G7 ns row
 |0,row,h,y,hy,z,hz,g=>by
   have:row=[]:=by simpa[Fc] using h
   subst this;exact List.mem_filter.mpr ⟨hz,by simp⟩
 |i+1,row,h,y,hy,z,hz,g=>by
   rw[Hv] at h;obtain⟨r,O,h⟩:=A2G.mp h;obtain⟨w,U,rfl⟩:=A0I.mp h;obtain⟨y1,y2⟩:=A0N.mp hy;have J:y∉r++[w]:=by simpa using y2
   rw[A0A,not_or] at J;have F:y∈G7 ns r:=List.mem_filter.mpr ⟨y1,by simpa using J.1⟩;have Y:=a52 i r O y F z hz g;refine A0N.mpr ⟨hz,?_⟩;have Z:z∉r:=by simpa using (List.mem_filter.mp Y).2
   have a0:z≠w:=λq=>by
    subst q;rw[(mem_frF.mp U).2 y F] at g
    cases g
   simp[Z,a0]
theorem am9 {ns:List Str}{ps:List (Str×Str)}(hm:∀ p∈ps,p.1∈ns/\p.2∈ns){i:Nat}{row:List Str}(h:row∈Fc (Ab ps) ns i [[]]) :
  ((G7 ns row).filter λz=>!decide (z∈(ps.filter λp=>decide (p.1∈G7 ns row)).map (·.2)))=frF (Ab ps) (G7 ns row):=by
 unfold frF;refine A1J λz hz=>?_;congr 1;rw[A2B,A3N,A1E];constructor
 . intro q;obtain⟨p,hp,rfl⟩:=A0I.mp q;obtain⟨p1,p2⟩:=A0N.mp hp;exact⟨p.1,A36 p2,wayB_iff.mpr (.one p1)⟩
 rintro⟨y,O,g⟩;obtain⟨m,J,F⟩:=Way.last (wayB_iff.mp g);refine A0I.mpr ⟨(m,z),A0N.mpr ⟨J,A16 ?_⟩,rfl⟩;rcases F with rfl|F
 . exact O
 exact a52 i row h y O m (hm _ J).1 (wayB_iff.mpr F)
theorem Mo {ns:List Str}{ps:List (Str×Str)}(h:HalfW ns ps){x y:Str}(U:x∈ns)(Y:y∈ns)(a2:x≠y):cnt (Ab (ps++[(x,y)])) ns=0↔Ab ps y x=true:=by
 constructor
 . intro g
   cases c:Ab ps y x with
   |true=>rfl
   |false=>
     have Z:¬ Way ps y x:=λq=>by rw[wayB_iff.mpr q] at c;cases c
     have a0:=Ux h.irr (p:=(x,y)) (λq=>a2 q.symm) Z;have:=Lq (b:=Ab (ps++[(x,y)])) (λz=>Jq (a0 z)) ax0 ns.length ns rfl h.nd;omega
 intro g;rw[Jp h U Y];refine Ms λr hr=>?_;refine A0S λq=>?_;obtain⟨hp,O⟩:=(Cr _ _ _ _ h.nd rfl).mp hr
 have h1:okR (Ab (ps++[(x,y)])) r:=by
  rw[Li h.nd (h.more U Y).mem hp];intro p F;rcases A0A.mp F with F|F
  . exact(Li h.nd h.mem hp).mp O p F
  have:p=(x,y):=by simpa using F
  rw[this];exact q
 have h2:r∈ext (Ab (ps++[(x,y)])) ns.length ns:=(Cr _ _ _ _ h.nd rfl).mpr ⟨hp,h1⟩;have J:=(Li h.nd h.mem hp).mp O
 have a1:∀ a b,Way ps a b->r.idxOf a<r.idxOf b:=λa b g=>by
  induction g with
  |one e=>exact J _ e
  |cons e _ ih=>exact A49 (J _ e) ih
 have:=a1 y x (wayB_iff.mp g);omega
def qsD (p:Str×Str)(m n:Nat):PyData:=.tuple [prD p,.tuple [.int ((m:Nat):Int),.int ((n:Nat):Int)]]
theorem Tq (p:Str×Str)(m n:Nat):frz (qsD p m n)=true:=by simp[qsD,frz,frzL,Ho]
def quR (ns:List Str)(A:Str->Str->Nat)(i m:Nat):List PyData:=(((ns.drop (i+1)).take m).filter λy=>decide (A (ns.getD i "") y≠0/\A y (ns.getD i "")≠0)).map λy=>qsD (ns.getD i "",y) (A (ns.getD i "") y) (A y (ns.getD i ""))
def quK (ns:List Str)(A:Str->Str->Nat)(k:Nat):List PyData:=(List.range k).flatMap λi=>quR ns A i ns.length
def quP (ns:List Str)(ps:List (Str×Str)):List PyData:=(unP ns ps).map λp=>qsD p (cnt (Ab (ps++[(p.1,p.2)])) ns) (cnt (Ab (ps++[(p.2,p.1)])) ns)
theorem aU7 {ns:List Str}{ps:List (Str×Str)}(h:HalfW ns ps){A:Str->Str->Nat}(J:∀ x∈ns,∀ y∈ns,x≠y->(A x y≠0/\A y x≠0↔unB ps x y=true)/\(unB ps x y=true->A x y=cnt (Ab (ps++[(x,y)])) ns)):quK ns A ns.length=quP ns ps:=by
 unfold quP unP unK quK;rw[List.map_flatMap];rw[List.flatMap_def,List.flatMap_def];congr 1;refine A0Z λi hi=>?_;have hi:i<ns.length:=A23.mp hi;have hx:ns.getD i "" = ns[i]:=by simp[List.getD,List.getElem?_eq_getElem hi]
 have O:ns[i]∈ns:=A4L hi;unfold quR unR;rw[A19,hx,A2X (by rw[A1C];omega)]
 have Y:∀ y∈ns.drop (i+1),y∈ns/\ns[i]≠y:=λy F=>by refine⟨(A4J _ _).subset F,λq=>?_⟩;obtain⟨j,U⟩:=A1K.mp F;rw[List.getElem?_drop] at U;obtain⟨h1,h2⟩:=A00.mp U;have:=(A1H h.nd).mp (h2.trans q.symm);omega
 have hf:((ns.drop (i+1)).filter λy=>decide (A ns[i] y≠0/\A y ns[i]≠0))=(ns.drop (i+1)).filter λy=>unB ps ns[i] y:=A1J λy F=>by obtain⟨h1,h2⟩:=Y y F;rw[A2B,A3N];exact(J _ O y h1 h2).1
 rw[hf];refine A0Z λy F=>?_;obtain⟨y1,Z⟩:=A0N.mp F;obtain⟨h1,h2⟩:=Y y y1
 have hs:unB ps y ns[i]=true:=by have:=Z;unfold unB at this ⊢;rw[A5J];exact this
 show qsD (ns[i],y) _ _=qsD (ns[i],y) _ _;rw[(J _ O y h1 h2).2 Z,(J y h1 _ O h2.symm).2 hs]
theorem Yc {ns:List Str}{ps:List (Str×Str)}(h:HalfW ns ps){x y:Str}(q:x∈ns)(J:y∈ns)(F:x≠y):(cnt (Ab (ps++[(x,y)])) ns≠0/\cnt (Ab (ps++[(y,x)])) ns≠0)↔unB ps x y=true:=by
 rw[Ne,Ne,Mo h q J F,Mo h J q F.symm];unfold unB
 cases Ab ps x y<;>cases Ab ps y x<;>simp
theorem ae3 {ns:List Str}{ps:List (Str×Str)}(h:HalfW ns ps):quK ns (λx y=>((ext (Ab ps) ns.length ns).filter λr=>decide (r.idxOf x<r.idxOf y)).length) ns.length=quP ns ps:=by refine aU7 h λx q y F J=>?_;rw[<- Jp h q F,<- Jp h F q];exact⟨Yc h q F J,λ_=>rfl⟩
theorem Ry (ns:List Str)(A:Str->Str->Nat)(k:Nat):quK ns A (k+1)=quK ns A k++quR ns A k ns.length:=by unfold quK;rw[List.range_succ,A2E];simp
theorem Xo {ns:List Str}{A:Str->Str->Nat}{i m:Nat}{y:Str}(h:(ns.drop (i+1))[m]? = some y):quR ns A i (m+1)=quR ns A i m++if A (ns.getD i "") y≠0/\A y (ns.getD i "")≠0 then [qsD (ns.getD i "",y) (A (ns.getD i "") y) (A y (ns.getD i ""))] else []:=by
 unfold quR;rw[A0R,h,A1X,A0T];congr 1
 by_cases c:A (ns.getD i "") y≠0/\A y (ns.getD i "")≠0
 . rw[A0X c];show(([y].filter λy=>decide (A (ns.getD i "") y≠0/\A y (ns.getD i "")≠0)).map _)=_;rw[A1A,A0X (by rw[A16 c])];rfl
 rw[A0P c]
 have:([y].filter λy=>decide (A (ns.getD i "") y≠0/\A y (ns.getD i "")≠0))=[]:=by rw[A1A,A0P (by rw[A0S c];decide)];rfl
 show(([y].filter λy=>decide (A (ns.getD i "") y≠0/\A y (ns.getD i "")≠0)).map _)=_;rw[this];rfl
theorem B2 {K:W.Frag}{H:Hp}{d:PyData}{ds:List PyData}{vs:List V}(h:IsL K H (d :: ds) vs):∃ v r,vs=v :: r/\Is K H d v/\IsL K H ds r:=by simpa only[IsL] using h
theorem a65 {α:Type}{K:W.Frag}{H:Hp}{f:α->PyData}{xs ys:List V}(hp:ys.Perm xs):∀ {S:List α},IsL K H (S.map f) xs->∃ q:List α,q.Perm S/\IsL K H (q.map f) ys:=by
 induction hp with
 |nil=>intro S h;exact⟨S,.refl _,h⟩
 |@cons x l1 l2 _ ih=>
   intro S h
   match S,h with
   | [],h=>simp only[List.map_nil,IsL] at h;cases h
   |s :: S,h=>
     obtain⟨v,r,e,h1,h2⟩:=B2 h
     cases e;obtain⟨q,F,J⟩:=ih h2;exact⟨s :: q,F.cons _,.cons h1 J⟩
 |@swap x y l=>
   intro S h
   match S,h with
   | [],h=>simp only[List.map_nil,IsL] at h;cases h
   | [s],h=>
     obtain⟨v,r,e,h1,h2⟩:=B2 h
     cases e;simp only[List.map_nil,IsL] at h2
     cases h2
   |s :: s2 :: S,h=>
     obtain⟨v,r,e,h1,h2⟩:=B2 h
     cases e;obtain⟨v',r',O,U,Y⟩:=B2 h2
     cases O;exact⟨s2 :: s :: S,.swap ..,.cons U (.cons h1 Y)⟩
 |trans p1 p2 ih1 ih2=>intro S h;obtain⟨S2,F,J⟩:=ih2 h;obtain⟨S1,Z,q4⟩:=ih1 J;exact⟨S1,Z.trans F,q4⟩
def crs (A B:List Str):List (Str×Str):=A.flatMap λx=>B.map λy=>(x,y)
theorem mem_crs {A B:List Str}{p:Str×Str}:p∈crs A B↔p.1∈A/\p.2∈B:=by
 unfold crs;rw[A2G];constructor
 . rintro⟨x,q,h⟩;obtain⟨y,F,rfl⟩:=A0I.mp h;exact⟨q,F⟩
 rintro⟨h1,h2⟩;exact⟨p.1,h1,A0I.mpr ⟨p.2,h2,rfl⟩⟩
theorem ab1 (A B:List Str):(crs A B).length=A.length*B.length:=by
 unfold crs
 induction A with
 |nil=>simp
 |cons a A ih=>rw[A1Q,A06,ih,A01,A0G,Nat.succ_mul];omega
section
variable {ns A B:List Str}{pA pB S:List (Str×Str)}
def Tc (q:List (List Str))(x y:Str):Nat:=(q.filter λr=>decide (r.idxOf x<r.idxOf y)).length
end
section
variable {prog:Program}{w:World}{A:Around}{E:Value->Shared->Prop}{s:Shared}{Q:Value->Shared->Prop}
theorem ak3 {t:Addr}{m n:Int}{t1 t2:Tok}(Z:A.handled=none)(O:s.heap.IsTuple t #[.int m t1,.int n t2])
  (h:∀ u h' tk,(∀ b o,s.heap.get? b=some o->h'.get? b=some o)->Q (.int (if n<m then n else m) u) {s with heap:=h',toks:=tk}) :
  wpAny (model prog w) A (call (.builtin "min") [.ref t]) Q E s:=by
 have Y:t<s.heap.objs.size:=by obtain⟨_,e,_⟩:=O;exact A0F e
 refine call_min_walk (A3M O ?_);have a0:t≠s.heap.objs.size:=A11 Y;refine⟨_,_,_,_,_,_,_,rfl,Walks.tuple (A:=A.in1) Z s.heap.objs.size t a0 #[.int m t1,.int n t2],⟨⟨_,A0J _ rfl,rfl,rfl⟩,?_⟩,λb hb=>?_,(by show 0<2;decide),CmpOf.ints_lt (λi=>if i=0 then m else n) (λi v F=>?_),λv h' tk q hk=>?_⟩
 . obtain⟨o,e,r⟩:=O;exact⟨o,A02 _ e,r⟩
 . show b<(s.heap.push _).objs.size;rw[A22];simp only[List.mem_cons,List.not_mem_nil,or_false] at hb;rcases hb with rfl|rfl
   . exact A2V _
   exact A2O Y
 . match i,F with
   |0,F=>cases F;exact⟨t1,rfl⟩
   |1,F=>cases F;exact⟨t2,rfl⟩
   |i+2,F=>simp at F
 have keep:∀ b o,s.heap.get? b=some o->h'.get? b=some o:=λb o e=>hk b o (λz=>by
  have z':b=s.heap.objs.size:=by simpa using z
  have U:=A0F e;rw[z'] at U;exact absurd U (A1O _)) (A02 _ e)
 by_cases c:n<m
 . have q:(#[Value.int m t1,.int n t2])[argBest (λi j=>decide ((if i=0 then m else n)<(if j=0 then m else n))) (2-1)]? = some v:=q
   have J:argBest (λi j=>decide ((if i=0 then m else n)<(if j=0 then m else n))) (2-1)=1:=by
    show(if decide ((if 0+1=0 then m else n)<(if 0=0 then m else n)) then 0+1 else 0)=1
    simp[c]
   rw[J] at q
   cases q;have:=h t2 h' tk keep;rwa[A0X c] at this
 have q:(#[Value.int m t1,.int n t2])[argBest (λi j=>decide ((if i=0 then m else n)<(if j=0 then m else n))) (2-1)]? = some v:=q
 have J:argBest (λi j=>decide ((if i=0 then m else n)<(if j=0 then m else n))) (2-1)=0:=by
  show(if decide ((if 0+1=0 then m else n)<(if 0=0 then m else n)) then 0+1 else 0)=0
  simp[c]
 rw[J] at q
 cases q;have:=h t1 h' tk keep;rwa[A0P c] at this
end
abbrev aE6 (p:Pos):Arguments:={posonlyargs:=[],args:=[{arg:="question",annotation:=none,pos:=p}],vararg:=none,kwonlyargs:=[],kw_defaults:=[],kwarg:=none,defaults:=[]}
abbrev aE3 (p1 p2 q F J:Pos):Expr:=.Call (.Name "min" p1) [.Subscript (.Name "question" p2) (.Constant (.int 1) 0 q) F] [] J
abbrev aD9:Scope:={kind:=.function,names:=[("question",.local),("min",.globalImplicit)],isGenerator:=false,isCoroutine:=false,more:=[]}
section
variable {prog:Program}{w:World}{A:Around}{E:Value->Shared->Prop}{s:Shared}{Q:Value->Shared->Prop}
theorem ao4 {q O a b:Addr}{qual:Str}{pm U x:Value}{p p1 p2 p3 p4 p5:Pos}{m n:Int}{t1 t2:Tok}{mg mb:Str->Option Value}(hh:A.handled=none)(a3:A.depth<recursionLimit)
  (ho:s.heap.get? q=some (W.kla_obj "<lambda>" qual (aE6 p) (aE3 p1 p2 p3 p4 p5) aD9 [] pm O U)) (a0:s.heap.CodeRec (.ref O) qual) (a6:s.heap.NoLimit)
  (hg:s.heap.Ns mainGlobals mg) (hm:mg "min" = none) (hb:s.heap.Ns builtinsNs mb) (a1:mb "min" = some (.builtin "min"))
  (Z:IsTup s.heap a #[x,.ref b]) (a4:s.heap.IsTuple b #[.int m t1,.int n t2])
  (h:∀ u h' tk,(∀ b o,s.heap.get? b=some o->h'.get? b=some o)->Q (.int (if n<m then n else m) u) {s with heap:=h',toks:=tk}) :
  wpAny (model prog w) A (call (.ref q) [.ref a]) Q E s:=by
 refine wpAny_call (W.kla_callFunE a3 ho rfl rfl rfl rfl a0 ?_);rw[show bindArgs (W.kla_fn "<lambda>" qual (aE6 p) (aE3 p1 p2 p3 p4 p5) aD9 [] pm (.ref O) U) ⟨[.ref a],[]⟩=(pure [(("question":Str),Value.ref a)]:Sem (List (Str×Value))) from rfl];refine A0C (wpAny_newFunctionEnv (λy J=>?_) (λy J=>?_) (λh₁ a2 Y=>⟨a6.fresh _ Y,?_⟩) rfl)
 . simp only[List.mem_cons,List.not_mem_nil,or_false] at J;rcases J with rfl|rfl<;>simp
 . have:y=(("question":Str),Value.ref a):=by simpa using J
   rw[this];rfl
 have F:∀ b o,s.heap.get? b=some o->h₁.get? b=some o:=λb o e=>Y.extBut b o (A11 (A0F e)) (A02 _ e);refine W.kla_codeExpr ?_;refine A24 (A38 rfl rfl (A4E (hg.keeps F) hm (hb.keeps F) a1 ?_) rfl);refine A3U ?_ rfl rfl;refine A2Y (A52 (A51 (A53 rfl rfl a2 rfl (wpAny_Constant_int ?_)) rfl));refine subscriptTail_builtin (IsTup.typeIs (s:=_) (Z.keeps F)) slot_tuple_getitem.lookup (getItem_tuple (j:=1) (Z.keeps F) nofun nofun rfl rfl ?_);refine A3S ?_
 have a5:h₁.IsTuple b #[.int m t1,.int n t2]:=by obtain⟨o,e,r⟩:=a4;exact⟨o,F _ _ e,r⟩
 exact ak3 (t:=b) hh a5 λu h' tk hk=>h u h' tk λb o e=>hk b o (F b o e)
end
section
variable {X:Cx}{pins:List (Addr×Obj)}{σ:List (Option V)}{H:Hp}{s:Shared}{h':Heap}
def ax5 (K:W.Frag):List V->Hp->VK->Prop:=λvs H Q=>∃ l xs,∃ q:Nat->Int,vs=[.ref l]/\SqL K H l xs/\0<xs.length/\(∀(i:Nat) v,xs[i]? = some v->∃ a b x m n,v = .ref a/\SqT K H a [x,.ref b]/\SqT K H b [.int m,.int n]/\q i=if n<m then n else m) /\
 ∀(i:Nat) v,xs[i]? = some v->(∀ j,j<xs.length->q i>=q j/\(j<i->q i>q j))->Q v H
theorem a94 {Q:VK}{u:List Value}{q c':Addr}{qual:Str}{pm a4:Value}{p p1 p2 p3 p4 p5:Pos}(hc:X.calm=true)(aD:X.A.in1.depth<recursionLimit)(aC:X.mg "min" = none)(I:Inv X pins σ H s){vs:List V}(r:Vals vs u)
  (ho:s.heap.get? q=some (W.kla_obj "<lambda>" qual (aE6 p) (aE3 p1 p2 p3 p4 p5) aD9 [] pm c' a4)) (a9:s.heap.CodeRec (.ref c') qual) (h:ax5 X.K vs H Q) :
  wpAny (model X.prog X.w) X.A (call (.builtin "max") u [(Str.ofString "key",.ref q)]) (EP X pins σ Q) X.xe s:=by
 obtain⟨l,xs,kf,rfl,hl,a3,aA,hq⟩:=h;obtain⟨v,rfl,rv⟩:=J4 r
 cases rv;obtain⟨aE,r1,pl,_⟩:=I.list hl;have a2:=r1.length;obtain⟨m,hn,aB⟩:=I.loc;have F:Fr X.base X.env.locals s.heap m:=⟨hn,I.bk,A0O I.ok.bsz I.ok.above⟩;have keep:∀ {h:Heap} {more:List (Addr×Obj)},Fr X.base X.env.locals h m->News X.base X.env.locals h (Hi X.base s.heap X.env.locals++more)->∀ b u,b≠X.env.locals->s.heap.get? b=some u->h.get? b=some u:=λF' J=>Mi I.bk F'.keep J
 have a0:∀ {c:Addr} {o:Obj},s.heap.get? c=some o->(∀ es ep,o.data ≠ .dict es ep)->c≠X.env.locals:=fun {c o} O U z=>by
  obtain⟨oL,es,ep,e4,e5⟩:=hn;rw[z,e4] at O
  cases O;exact U es ep e5.1
 have aG:∀ {c:Addr} {zs:Array Value},IsTup s.heap c zs->c≠X.env.locals:=fun {c zs} p=>by obtain⟨o,O,U,n,Y⟩:=p;exact a0 O λes ep z=>by rw[Y] at z;cases z
 have aF:l≠X.env.locals:=by obtain⟨o,O,U,n,Y⟩:=pl.isList;exact a0 O λes ep z=>by rw[Y] at z;cases z
 have fin:∀ {h:Heap} {t':Nat},Fr X.base X.env.locals h m->News X.base X.env.locals h (Hi X.base s.heap X.env.locals)->Inv X pins σ H {s with heap:=h,toks:=t'}:=fun {h t'} F' J=>I.nsed (keep (more:=[]) F' (by rw[A2C];exact J)) aB F'.ns
 have tupK:∀ {h:Heap} {more:List (Addr×Obj)} {c:Addr} {zs:Array Value},Fr X.base X.env.locals h m->News X.base X.env.locals h (Hi X.base s.heap X.env.locals++more)->IsTup s.heap c zs->IsTup h c zs:=λF' J p=>by have a3:=aG p;obtain⟨o,O,U⟩:=p;exact⟨o,keep F' J _ _ a3 O,U⟩
 refine kmk_max kf (vs:=aE) (I.ok.hd hc) F T8 (λh F' J=>?_) ∅ (λi v Z h tk own F' J=>?_) (λi v h tk Z hb F' J=>?_)
 . obtain⟨o,O,U⟩:=pl.isList;exact⟨o,keep (more:=[]) F' (by rw[A2C];exact J) _ _ aF O,U⟩
 . obtain⟨x,hx,rx⟩:∃ x,xs[i]? = some x/\RelV x v:=by
    have hi:i<xs.length:=by rw[a2];exact(A00.mp Z).1
    obtain⟨u,hu,ru⟩:=r1.get (A03 hi);rw[Z] at hu
    cases hu;exact⟨_,A03 hi,ru⟩
   obtain⟨a,b,y,m',n',rfl,a5,a6,hk⟩:=aA i x hx
   cases rx;obtain⟨i1,w1,pa,_⟩:=I.tuple a5;obtain⟨i2,w2,pb,_⟩:=I.tuple a6;obtain⟨y1,y2,rfl,aM,aH⟩:=Vals.two w1
   cases aH;obtain⟨z1,z2,rfl,aI,aJ⟩:=Vals.two w2;obtain⟨aK,rfl⟩:=aI;obtain⟨aL,rfl⟩:=aJ;obtain⟨mb,a7,a8⟩:=I.mod.blt;refine ao4 (s:={s with heap:=h,toks:=tk}) (m:=m') (n:=n') (t1:=aK) (t2:=aL) (mg:=X.mg) (mb:=mb) (I.ok.hd hc) aD (keep F' J _ _ (a0 ho λes ep z=>by cases z) ho) ?_ (I.mod.nolimit.keeps F'.keep) (I.mod.glob.keeps F'.keep) aC (a7.keeps F'.keep) ((a8 "min" nofun).trans PyProof.Rows.boot_min) (tupK F' J pa) ?_ λu h2 aN a1=>?_
   . obtain⟨c,oc,vs,tq,e0,O,U,Y⟩:=a9
     cases e0;exact⟨c',oc,vs,tq,rfl,keep F' J _ _ (a0 O λes ep z=>by rw[U] at z;cases z) O,U,Y⟩
   . have:=tupK F' J pb;exact this
   rw[hk];exact KskEnd.intro ⟨F'.ns.keeps a1,λb o e=>a1 b o (F'.keep b o e),F'.above⟩ (λp hp=>⟨a1 _ _ (J p hp).1,(J p hp).2⟩) λp hp=>hp
 obtain⟨x,hx,rx⟩:∃ x,xs[i]? = some x/\RelV x v:=by
  have hi:i<xs.length:=by rw[a2];exact(A00.mp Z).1
  obtain⟨u,hu,ru⟩:=r1.get (A03 hi);rw[Z] at hu
  cases hu;exact⟨_,A03 hi,ru⟩
 exact⟨x,H,fin F' J,rx,hq i x hx λj hj=>hb j ∅⟩
end
def On (q:Addr)(qual:Str):HO:=.ext λh=>h.CodeRec (.ref q) qual
def LamT (P:Addr)(line F:Nat)(qual:Str)(H:Hp):Prop:=H P=some (.tbl #[])\/∃ q,H P=some (.tbl #[rawInt line,rawInt F,.ref q])/\H q=some (On q qual)
structure aK0 (X:Cx)(c P:Addr):Prop where
 code:X.env.code = .ref c
 hd:W.CodeHd X.base c P
 bi:X.base.BuiltinsAt X.mg P
 gP:mainGlobals≠P
section
variable {X:Cx}{pins:List (Addr×Obj)}{σ:List (Option V)}{H:Hp}{s:Shared}{h':Heap}
theorem Gn {q:Addr}{qual:Str}{h1 h2:Heap}(x:h1.CodeRec (.ref q) qual)(k:∀ o,h1.get? q=some o->h2.get? q=some o):h2.CodeRec (.ref q) qual:=by
 obtain⟨c,oc,vs,Y,F,J,O,U⟩:=x
 cases F;exact⟨q,oc,vs,Y,rfl,k _ J,O,U⟩
theorem Inv.grown {P F:Addr}{ps more:Array Value}{qual:Str}{t':Nat}(I:Inv X pins σ H s)(J:H P=some (.tbl ps))(k:∀ b u,b≠P->s.heap.get? b=some u->h'.get? b=some u)(a0:h'.get? P=some (W.tabObj (ps++more)))(hc:s.heap.objs.size<=F)(hr:h'.CodeRec (.ref F) qual) :
  Inv X pins σ (upd (upd H P (.tbl (ps++more))) F (On F qual)) {s with heap:=h',toks:=t'}:=by
 have U:H F=none:=I.hok.fresh hc;have a1:F≠P:=λz=>by rw[z,J] at U;cases U
 have Z:(upd (upd H P (.tbl (ps++more))) F (On F qual)) P=some (.tbl (ps++more)):=by rw[Au a1.symm,Af]
 have O:∀ b,b≠P->b≠F->(upd (upd H P (.tbl (ps++more))) F (On F qual)) b=H b:=λb h1 h2=>by rw[Au h2,Au h1]
 have trk:∀ b o,H b=some o->b≠F:=λb o e z=>by rw[z,U] at e;cases e
 refine I.call (ch:=[]) ⟨λb o e n _ _=>k b o (λz=>by rw[z,J] at n;cases n) e,λb o e n _ _=>⟨o.slots,k b o (λz=>by rw[z,J] at n;cases n) e⟩,λb o e n _=>?_,λb o e _=>?_,λb xs e=>?_,λb o u e=>?_,λb qs e=>?_⟩ (λb o e=>?_) I.bare (λb z=>absurd z (by simp))
 . rw[O b (λz=>by rw[z,J] at n;cases n) (λz=>by rw[z] at e;exact absurd (A0F e) (Nat.not_lt_of_le hc))];exact n
 . by_cases z:b=P
   . rw[z];exact⟨_,a0⟩
   exact⟨o,k b o z e⟩
 . rw[O b (λz=>by rw[z,J] at e;cases e) (trk b _ e)];exact e
 . rw[O b (λz=>by rw[z,J] at e;cases e) (trk b _ e)];exact e
 . by_cases z:b=P
   . subst z;rw[J] at e
     cases e;exact⟨more,Z⟩
   exact⟨#[],by rw[O b z (trk b _ e),e];simp⟩
 by_cases z:b=F
 . subst z;rw[Af] at e
   cases e;refine⟨hr,?_,λh1 h2 x y=>Gn x y⟩;obtain⟨c,oc,vs,tq,e0,e1,_⟩:=hr
   cases e0;exact⟨oc,e1⟩
 by_cases Y:b=P
 . subst Y;rw[Z] at e
   cases e;exact a0
 rw[O b Y z] at e;refine(I.hok b o e).stay (λd u hd q=>k d u (λy=>?_) q) (λd q=>?_) λd xs q=>?_
 . rcases hd with rfl|hd
   . exact Y y
   rw[y,J] at hd;cases hd
 . rw[O d (λy=>by rw[y,J] at q;cases q) (trk d _ q)];exact q
 rw[O d (λy=>by rw[y,J] at q;cases q) (trk d _ q)];exact q
def aI1 (K:W.Frag)(P:Addr)(line q:Nat)(qual:Str)(t:TA):TE:=fun σ H Q=>t σ H λvs H1=>LamT P line q qual H1/\∀ H2,ExtBut P H1 H2->LamT P line q qual H2->ax5 K vs H2 Q
theorem ab9 {K:W.Frag}{c P:Addr}{O:Expr}{t:TE}{p p0 p1 p2 p3 p4 p5 pl p7 pos:Pos}(L:aK0 X c P)(hc:X.calm=true)(a4:X.A.in1.depth<recursionLimit)(hg:Gl X "max")(hm:X.mg "max" = none)(a3:X.mg "min" = none)(ha:PA X [O] (Yz t aE5))(hK:X.K=K:=by ac_nf)
  (he:backTo pos (starEach [O] X.env)=(false,eval O X.env) :: backTo pos (starEach [] X.env):=by ac_nf) (a6:(backTo pos (starEach [O] X.env)).any (·.1)=false:=by ac_nf) :
  PE X (.Call (.Name "max" p) [O] [⟨some "key",.Lambda (aE6 p0) (aE3 p1 p2 p3 p4 p5) aD9 pl,p7⟩] pos) (aI1 K P pl.line pl.col (X.env.qual ++ "<lambda>") (Yz t aE5)):=by
 subst hK;intro pins s σ H Q I h;refine A24 (K3 I hg hm PyProof.Rows.Boot.«max» ?_);refine callWith_kw (thn (ha pos pins s σ H _ I h) λus s1 ⟨vs,H1,q,r1,Z⟩=>?_) he a6 rfl rfl;obtain⟨J,Z⟩:=Z;refine kws_cons (W.kla_eval rfl ?_)
 have a2:s1.heap.BuiltinsAt X.mg P:=by obtain⟨bm,ob,b1,b2,b3,b4,b5,b6⟩:=L.bi;exact⟨bm,ob,b1,b2,b3,b4,q.bk _ _ b5,b6⟩
 rcases J with J|⟨F,J,hC⟩
 . have hP:=q.hok P _ J;refine W.kla_makeFunction (mg:=X.mg) rfl q.ok.glob (q.mod.glob.keeps q.bk) L.code (L.hd.keeps q.bk) hP trivial rfl L.gP a2 λF a0 h2 tk hx a1 a8 Y a7=>kws_nil ?_;have I2:=Inv.grown (t':=tk) (h':=h2.push (W.kla_obj "<lambda>" (X.env.qual ++ "<lambda>") (aE6 p0) (aE3 p1 p2 p3 p4 p5) aD9 [] ((X.mg "__name__").getD .none) F a0)) q J (λb u hb e=>A02 _ (hx b u hb e)) (A02 _ a7) a1 (Gn Y λo e=>A02 _ e);refine a94 hc a4 a3 I2 r1 (A0J _ rfl) (Gn Y λo e=>A02 _ e) (Z _ ?_ ?_)
   . intro b o hb e;have U:H1 F=none:=q.hok.fresh a1;rw[Au (λz=>by rw[z,U] at e;cases e),Au hb];exact e
   have U:H1 F=none:=q.hok.fresh a1;have a5:P≠F:=λz=>by rw[<- z,J] at U;cases U
   exact .inr ⟨F,by rw[Au a5,Af];rfl,Af⟩
 have hP:=q.hok P _ J;obtain⟨Y,_,_⟩:=q.hok F _ hC;refine W.kla_makeFunctionHit (mg:=X.mg) rfl q.ok.glob (q.mod.glob.keeps q.bk) L.code (L.hd.keeps q.bk) hP trivial (cv:=.ref F) (by simp[codeAmong,rawInt]) a2 λa0 h2 tk hk hsz=>kws_nil ?_;have I2:Inv X pins σ H1 {s1 with heap:=h2.push {cls:=.type "function",data:=.func (W.kla_fn "<lambda>" (X.env.qual ++ "<lambda>") (aE6 p0) (aE3 p1 p2 p3 p4 p5) aD9 [] ((X.mg "__name__").getD .none) (.ref F) a0)},toks:=tk}:=q.kept λb u e=>A02 _ (hk b u e)
 exact a94 hc a4 a3 I2 r1 (A0J _ rfl) (Gn Y λo e=>A02 _ (hk _ o e)) (Z H1 .refl (.inr ⟨F,J,hC⟩))
end
theorem Fun.okC {P:Program}{w:World}{K:W.Frag}{mg:Str->Option Value}{base:Heap}{x qual:Str}{st:Stmt}{f c:Addr}{fd:FuncData}{N ps:List Str}{k:Nat}{sp:Sp}(F:Fun K x qual st f fd)(U:fd.code = .ref c)(S:Aj N ps (A4 st))(len:∀ vs H Q E,sp vs H Q E->vs.length=ps.length)
  (O:∀(A:Around) (outer:List Env) (s:Shared) (H:Hp) (vs:List V) (Q:VK) (E:XK),Room k (A.deeper (envOfC qual (A4 st) s.heap.objs.size f (.ref c)))->sp vs H Q E ->
   ∃ t,PSs (az2 CX0 P w K mg base N qual (A4 st) f (.ref c) A outer s H E).nox (Ac st) t/\t {nx:=λ_ H'=>Q .non H',rt:=Q} (start N vs) H):FnOk P w K mg base CX0 (k+1) f fd ps sp:=by
 obtain⟨oc,od,kV,a1,pm,an,J,ct,osl,rfl,lk,Y⟩:=F.ex;obtain rfl:J = .ref c:=U;refine aO1 lk Y S len λA outer s H vs Q E Z a0=>?_;obtain⟨t,h,q⟩:=O A outer s H vs Q E Z a0;exact⟨t,h.nox,q⟩
structure aQ5 (K:W.Frag)(mg:Str->Option Value)(base:Heap)(c P:Addr):Prop where
 hd:W.CodeHd base c P
 bi:base.BuiltinsAt mg P
 gP:mainGlobals≠P
theorem LamT.of {P:Addr}{line F:Nat}{qual:Str}{H H':Hp}(h:LamT P line F qual H)(e:∀ b,(∃ ps,H b=some (.tbl ps))\/(∃ φ,H b=some (.ext φ))->∀ o,H b=some o->H' b=some o):LamT P line F qual H':=by
 rcases h with h|⟨q,h1,h2⟩
 . exact .inl (e P (.inl ⟨_,h⟩) _ h)
 exact .inr ⟨q,e P (.inl ⟨_,h1⟩) _ h1,e q (.inr ⟨_,h2⟩) _ h2⟩
theorem LamT.same {P:Addr}{line F:Nat}{qual:Str}{H H':Hp}(h:LamT P line F qual H)(e:Same H H'):LamT P line F qual H':=h.of λb _ o q=>e b o q
theorem LamT.but {P d:Addr}{line F:Nat}{qual:Str}{H H':Hp}{u:HO}(h:LamT P line F qual H)(e:ExtBut d H H')(hd:H d=some u)(h1:∀ ps,u ≠ .tbl ps)(h2:∀ φ,u ≠ .ext φ):LamT P line F qual H':=h.of λb hb o q=>e b o (λz=>by
 subst z;rw[hd] at hb;rcases hb with ⟨ps,hb⟩|⟨φ,hb⟩
 . exact h1 ps (A13 hb)
 exact h2 φ (A13 hb)) q
section
variable {X:Cx}{K:W.Frag}
def au3 (K:W.Frag):List V->Hp->VK->Prop:=λxs H Q=>∃ l,∃ ns:List Int,xs=[.ref l]/\SqL K H l (ns.map V.int)/\ns≠[]/\∀ M∈ns,(∀ x∈ns,x<=M)->Q (.int M) H
theorem a83 (hc:X.calm=true):CallR X (.builtin "max") (au3 X.K):=by
 intro pins s σ H xs us Q I r h;obtain⟨l,ns,rfl,hS,a5,q⟩:=h;obtain⟨u,rfl,rv⟩:=J4 r
 cases rv;obtain⟨U,a2,pl,_⟩:=I.list hS;have F:=a2.length;rw[A01] at F;have a8:=A5B.mpr a5;have a0:l<s.heap.objs.size:=let ⟨_,e,_⟩:=pl.isList;A0F e;have a4:l≠s.heap.objs.size:=A11 a0
 have a1:∀ i v,U.toArray[i]? = some v->∃ t,v=Value.int (ns.getD i 0) t:=λi v O=>by
  rw[A33] at O;have hi:i<ns.length:=by rw[F];exact(A00.mp O).1
  obtain⟨u,hu,ru⟩:=a2.get (i:=i) (show(ns.map V.int)[i]? = some (V.int (ns.getD i 0)) by rw[List.getElem?_map];simp[List.getD,List.getElem?_eq_getElem hi]);rw[O] at hu
  cases hu;obtain⟨t,rfl⟩:=ru;exact⟨t,rfl⟩
 refine call_max_walk (A3T pl.isList ?_);refine⟨_,_,_,_,_,_,_,rfl,Walks.list (A:=X.A.in1) (I.ok.hd hc) s.heap.objs.size l a4 U.toArray,⟨⟨_,A0J _ rfl,rfl,rfl⟩,pl.isList.push _⟩,λb hb=>?_,by rw[A0Q];omega,CmpOf.ints_gt (λi=>ns.getD i 0) a1,λv h' tk hP hk=>?_⟩
 . show b<(s.heap.push _).objs.size;rw[A22];simp only[List.mem_cons,List.not_mem_nil,or_false] at hb;rcases hb with rfl|rfl
   . exact A2V _
   exact A2O a0
 obtain⟨t,rfl⟩:=a1 _ v hP;obtain⟨b1,Y⟩:=argBest_gt (λi=>ns.getD i 0) (U.toArray.size-1);rw[A0Q,<- F] at b1 Y
 have a3:∀ b o,s.heap.get? b=some o->h'.get? b=some o:=λb o e=>hk b o (λz=>by
  have z':b=s.heap.objs.size:=by simpa using z
  have Z:=A0F e;rw[z'] at Z;exact absurd Z (A1O _)) (A02 _ e)
 have J:argBest (λi j=>decide (ns.getD i 0>ns.getD j 0)) (ns.length-1)<ns.length:=by omega
 refine⟨.int (ns.getD (argBest (λi j=>decide (ns.getD i 0>ns.getD j 0)) (ns.length-1)) 0),H,I.kept a3,⟨t,by rw[A0Q,<- F]⟩,?_⟩;refine q _ ?_ λx hx=>?_
 . generalize argBest (λi j=>decide (ns.getD i 0>ns.getD j 0)) (ns.length-1)=k0 at J ⊢;rw[A1R,A03 J];exact A4L J
 obtain⟨j,hj⟩:=A1K.mp hx;obtain⟨a6,a7⟩:=A00.mp hj;have:=Y j ∅;rw[show ns.getD j 0=x by rw[A1R,hj];rfl] at this;exact this
theorem Zv (F:X.calm=true)(q:X.K=K:=by ac_nf):CallR X (.builtin "max") (au3 K):=q ▸ a83 F
theorem aM4 {H:Hp}{Q:VK}{l:Addr}{ns:List Int}(h:SqL K H l (ns.map V.int))(q:ns≠[])(k:∀ M∈ns,(∀ x∈ns,x<=M)->Q (.int M) H):au3 K [.ref l] H Q:=⟨l,ns,rfl,h,q,k⟩
end
section
variable {ns A B:List Str}{pA pB S:List (Str×Str)}
end
abbrev Z6 (p:Pos):Arguments:={posonlyargs:=[],args:=[{arg:="name",annotation:=none,pos:=p}],vararg:=none,kwonlyargs:=[],kw_defaults:=[],kwarg:=none,defaults:=[]}
abbrev a01 (p1 p2 q F J O:Pos):Expr:=.UnaryOp .USub (.Call (.Name "len" p1) [.Subscript (.Name "reach" p2) (.Name "name" q) F] [] J) O
abbrev Te:Scope:={kind:=.function,names:=[("name",.local),("reach",.free),("len",.globalImplicit)],isGenerator:=false,isCoroutine:=false,more:=[]}
section
variable {prog:Program}{w:World}{A:Around}{E:Value->Shared->Prop}{s:Shared}{Q:Value->Shared->Prop}
theorem a72 {q c' r rr U:Addr}{qual z:Str}{pm a1:Value}{O:Tok}{p p1 p2 p3 p4 p5 p6:Pos}{mg mb:Str->Option Value}{vs a0:List (Key×Value)}(a9:A.depth<recursionLimit)
  (ho:s.heap.get? q=some (W.kla_obj "<lambda>" qual (Z6 p) (a01 p1 p2 p3 p4 p5 p6) Te [("reach",U)] pm c' a1)) (a3:s.heap.CodeRec (.ref c') qual) (aC:s.heap.NoLimit)
  (hg:s.heap.Ns mainGlobals mg) (hm:mg "len" = none) (hb:s.heap.Ns builtinsNs mb) (a7:mb "len" = some (.builtin "len"))
  (a4:s.heap.IsCell U (some (.ref r))) (hr:s.heap.DictOf (Ax prog w) r vs) (a6:valueAt vs (Sum.inr z:Key)=some (.ref rr)) (aA:s.heap.DictOf (Ax prog w) rr a0) (aB:(rr==sysModules)=false) (aD:a0.length<2 ^ 63)
  (h:∀ u h' tk,(∀ b o,s.heap.get? b=some o->h'.get? b=some o)->Q (.int (-(a0.length:Int)) u) {s with heap:=h',toks:=tk}) :
  wpAny (model prog w) A (call (.ref q) [.str z O]) Q E s:=by
 refine wpAny_call (W.kla_callFunE a9 ho rfl rfl rfl rfl a3 ?_);rw[show bindArgs (W.kla_fn "<lambda>" qual (Z6 p) (a01 p1 p2 p3 p4 p5 p6) Te [("reach",U)] pm (.ref c') a1) ⟨[.str z O],[]⟩=(pure [(("name":Str),Value.str z O)]:Sem (List (Str×Value))) from rfl];refine A0C (wpAny_newFunctionEnv (λy Y=>?_) (λy Y=>?_) (λZ a8 a2=>⟨aC.fresh _ a2,?_⟩) rfl)
 . simp only[List.mem_cons,List.not_mem_nil,or_false] at Y;rcases Y with rfl|rfl|rfl<;>simp
 . have:y=(("name":Str),Value.str z O):=by simpa using Y
   rw[this];rfl
 have J:∀ b o,s.heap.get? b=some o->Z.get? b=some o:=λb o e=>a2.extBut b o (A11 (A0F e)) (A02 _ e);refine W.kla_codeExpr ?_;have dk:∀ {a:Addr} {xs:List (Key×Value)},s.heap.DictOf (Ax prog w) a xs->Z.DictOf (Ax prog w) a xs:=fun {a xs} ⟨o,es,ep,e,r⟩=>⟨o,es,ep,J _ _ e,r⟩
 have a5:Z.IsCell U (some (.ref r)):=by obtain⟨o,e1,e2⟩:=a4;exact⟨o,J _ _ e1,e2⟩
 refine UnaryOp_ ?_;refine A24 (A38 rfl rfl (A4E (hg.keeps J) hm (hb.keeps J) a7 ?_) rfl);refine A3U ?_ rfl rfl;refine A2Y (aD1 PySem.F.slot_dict_getitem.lookup (λ_ _=>rfl) (A51 (wpAny_loadName_free rfl rfl rfl a5 (A51 (A53 rfl rfl a8 rfl ⟨(dk hr).typeIs,?_⟩) rfl)) rfl));refine wpAny_getItem_of (Pz (k:=Sum.inr z) ⟨O,rfl⟩) (dk hr).mapOf a6 ?_;refine A3S ?_;refine call_len_dict aB (dk aA) ∅ ?_;exact neg_int (h _ Z _ J)
end
section
variable {X:Cx}{pins:List (Addr×Obj)}{σ:List (Option V)}{H:Hp}{s:Shared}{h':Heap}
theorem ObjOk.got {P:Program}{w:World}{h:Heap}{a:Addr}{o:HO}(x:ObjOk P w H h a o):∃ u,h.get? a=some u:=by
 cases o with
 |lst xs=>obtain⟨_,_,_,_,e⟩:=x;exact⟨_,e⟩
 |tup xs=>obtain⟨_,_,_,o,e,_⟩:=x;exact⟨_,e⟩
 |dK kvs=>obtain⟨_,_,_,_,o,_,_,e,_⟩:=x;exact⟨_,e⟩
 |dT kvs=>obtain⟨_,_,_,_,o,_,_,e,_⟩:=x;exact⟨_,e⟩
 |set S n=>obtain⟨o,_,_,_,e,_⟩:=x;exact⟨_,e⟩
 |ins C dx fs=>obtain⟨_,_,_,e,_⟩:=x;exact⟨_,e⟩
 |own y=>exact x
 |xd fs=>obtain⟨_,⟨_,_,_,e,_⟩,_⟩:=x;exact⟨_,e⟩
 |rng lo hi=>obtain⟨_,_,_,e⟩:=x;exact⟨_,e⟩
 |frz ob u=>obtain⟨e,_⟩:=x;exact⟨_,e⟩
 |tbl ps=>exact⟨_,x⟩
 |met f y=>exact⟨_,x⟩
 |ext φ=>exact x.2.1
theorem Inv.nsedL {t':Nat}{a:Addr}{ob:HO}(I:Inv X pins σ H s)(k:∀ b u,b≠X.env.locals->s.heap.get? b=some u->h'.get? b=some u){m:Str->Option Value}(a3:∀(i:Nat) (x:Str) (v:V),X.N[i]? = some x->σ[i]? = some (some v)->Vis X.env.scope x->∃ u,RelV v u/\aT7 X.env s.heap m x u)(a4:h'.Ns X.env.locals m)(ha:s.heap.get? a=none)(new:ObjOk X.prog X.w (upd H a ob) h' a ob):Inv X pins σ (upd H a ob) {s with heap:=h',toks:=t'}:=by
 have a0:∀ b o,X.s₀.heap.get? b=some o->b≠X.env.locals:=λb o q e=>by have h1:=A0F q;have h2:=I.ok.above;rw[e] at h1;exact absurd (A18 h1 h2) (A1O _)
 have a2:H a=none:=by
  cases e:H a with
  |none=>rfl
  |some o=>
    obtain⟨u,q⟩:=(I.hok a o e).got;rw[ha] at q
    cases q
 have Y:∀ {b:Addr} {o:Obj},s.heap.get? b=some o->b≠a:=fun {b o} e z=>by
  rw[z,ha] at e
  cases e
 have O:∀ {b:Addr} {o:HO},H b=some o->b≠a:=fun {b o} e z=>by rw[z,a2] at e;cases e
 have a1:X.env.locals≠a:=by obtain⟨m,⟨o,es,ep,e,_⟩,_⟩:=I.loc;exact Y e
 refine⟨I.ok,I.os,I.bare,⟨λb o q n hf F=>k b o (a0 b o q) (I.base.keep b o q n hf F),λb o q n hf F=>?_,λb o q n F=>?_,λb o q F=>?_,λb xs q=>?_,λb o u q=>?_,λb ps q=>?_⟩,?_,λx c e=>?_,?_,λx c e=>?_,λp hp=>?_,λb o e=>?_,I.len⟩
 . obtain⟨sl,e⟩:=I.base.slot b o q n hf F;exact⟨sl,k b _ (a0 b o q) e⟩
 . have hb:=I.base.free b o q n F;obtain⟨o',e⟩:=I.base.there b o q F;rw[Au (Y e)];exact hb
 . obtain⟨o',e⟩:=I.base.there b o q F;exact⟨o',k b _ (a0 b o q) e⟩
 . have:=I.base.tups b xs q;rw[Au (O this)];exact this
 . have:=I.base.frzs b o u q;rw[Au (O this)];exact this
 . obtain⟨more,e⟩:=I.base.tbls b ps q;exact⟨more,by rw[Au (O e)];exact e⟩
 . refine⟨m,a4,λi x v a b c=>?_⟩;obtain⟨u,r,l⟩:=a3 i x v a b c;refine⟨u,r,?_⟩;rcases l with l|⟨l1,c,l2,l3⟩
   . exact .inl l
   obtain⟨o,J,U⟩:=l3;exact .inr ⟨l1,c,l2,o,k c o (I.cne x c l2) J,U⟩
 . obtain⟨v,o,J,U⟩:=I.cell x c e;exact⟨v,o,k c o (I.cne x c e) J,U⟩
 . rw[Au a1];exact I.free
 . obtain⟨v,o,J,U⟩:=I.cell x c e;rw[Au (Y J)];exact I.freeC x c e
 . obtain⟨h1,h2,h3,h4,h5⟩:=I.pin p hp;exact⟨k _ _ h3 h1,by rw[Au (Y h1)];exact h2,h3,h4,h5⟩
 by_cases z:b=a
 . subst z;rw[Af] at e
   cases e;exact new
 rw[Au z] at e;refine(I.hok b o e).stay (λd u hd q=>k d u (λy=>?_) q) (λd q=>by rw[Au (O q)];exact q) λd xs q=>by rw[Au (O q)];exact q
 have Z:=I.free;rcases hd with rfl|hd
 . rw[y] at e;rw[e] at Z
   cases Z
 rw[y,Z] at hd
 cases hd
end
section
variable {X:Cx}{pins:List (Addr×Obj)}{σ:List (Option V)}{H:Hp}{s:Shared}
def a73:Addr->Hp->VK->Prop:=λr H Q=>∃ kvs ns,∃ sz:Str->Nat,Rd H r (.dK kvs)/\kvs.map (·.1)=ns.map (λx=>(Sum.inr x:Key))/\ns.length<64/\(∀ x∈ns,∃ a q,Ck kvs (Sum.inr x:Key)=some (.ref a)/\Rd H a (.dK q)/\q.length=sz x) /\
 ∀ p (ms:List Str),H p=none->ms.Perm ns->ms.Pairwise (λx y=>sz y<=sz x)->Q (.ref p) (upd H p (.lst (ms.map V.str)))
theorem Mp:∀ {ns:List Str} {F:List Value},F.length=ns.length->(∀(i:Nat) v,F[i]? = some v->∃ n t,ns[i]? = some n/\v=Value.str n t)->Vals (ns.map V.str) F
 | [],[],_,_=>.nil
 | [],_ :: _,h,_=>by simp at h
 |_ :: _,[],h,_=>by simp at h
 |n :: ns,v :: F,h,q=>by
   obtain⟨O,t,J,rfl⟩:=q 0 v rfl
   cases J;exact .cons ⟨t,rfl⟩ (Mp (by simpa using h) λi u hu=>q (i+1) u hu)
theorem Yr {sz:Str->Nat}:∀ {ns:List Str} {vs:List Value},Vals (ns.map V.str) vs->∃ qs:List (Str×Value),qs.map (·.1)=ns/\(ns.map λx=>(-(sz x:Int))).zip vs=qs.map (λq=>(-(sz q.1:Int),q.2))/\∀ q∈qs,RelV (.str q.1) q.2
 | [],vs,h=>by cases h;exact⟨[],rfl,rfl,λq h=>by cases h⟩
 |n :: ns,vs,h=>by
   cases h with
   |cons r h=>
     obtain⟨qs,J,O,U⟩:=Yr (sz:=sz) h;refine⟨(n,_) :: qs,by rw[A0H,J],by rw[A0H,A5L,O];rfl,λq F=>?_⟩;rcases A0B.mp F with rfl|F
     . exact r
     exact U q F
theorem aC5 {sz:Str->Nat}{ns:List Str}{vs a1:List Value}(hv:Vals (ns.map V.str) vs)(h:KskOut false (ns.map λx=>(-(sz x:Int))) vs a1):∃ ms:List Str,ms.Perm ns/\ms.Pairwise (λx y=>sz y<=sz x)/\Vals (ms.map V.str) a1:=by
 obtain⟨ps,p1,rfl,Z⟩:=h;obtain⟨qs,U,O,Y⟩:=Yr (sz:=sz) hv;rw[O] at p1
 obtain⟨J,hr1,hr2⟩:∃ J:List (Str×Value),J.Perm qs/\ps=J.map λq=>(-(sz q.1:Int),q.2):=by
  clear Z O U Y hv;generalize hF:(λq:Str×Value=>((-(sz q.1:Int)),q.2))=F at p1 ⊢
  have a2:∀ {a b:List (Int×Value)},a.Perm b->∀ {qs:List (Str×Value)},b=qs.map F->∃ J:List (Str×Value),J.Perm qs/\a=J.map F:=by
   intro a b hp
   induction hp with
   |nil=>intro qs e;exact⟨qs,.refl _,e⟩
   |@cons x l1 l2 _ ih=>
     intro qs e
     match qs,e with
     | [],e=>cases e
     |q :: qs,e=>obtain⟨U,O⟩:=A37 e;obtain⟨J,h1,h2⟩:=ih O;exact⟨q :: J,h1.cons _,by rw[A0H,U,h2]⟩
   |@swap x y l=>
     intro qs e
     match qs,e with
     | [],e=>cases e
     | [q],e=>cases (A37 e).2
     |q1 :: q2 :: qs,e=>obtain⟨U,O⟩:=A37 e;obtain⟨O,Y⟩:=A37 O;exact⟨q2 :: q1 :: qs,.swap ..,by rw[A0H,A0H,U,O,Y]⟩
   |trans _ _ ih1 ih2=>intro qs e;obtain⟨r2,h1,h2⟩:=ih2 e;obtain⟨r1,h3,h4⟩:=ih1 h2;exact⟨r1,h3.trans h1,h4⟩
  exact a2 p1 rfl
 subst hr2;refine⟨J.map (·.1),U ▸ hr1.map _,?_,?_⟩
 . rw[List.pairwise_map] at Z ⊢;refine Z.imp fun {a b} h=>?_;simp only[Bool.false_eq_true,if_false] at h;omega
 rw[A19,A19];have a0:∀ q∈J,RelV (.str q.1) q.2:=λq hq=>Y q (hr1.mem_iff.mp hq);clear p1 Z hr1 U O Y hv
 induction J with
 |nil=>exact .nil
 |cons q J ih=>exact .cons (a0 q (A0D ..)) (ih λq' h=>a0 q' (A09 _ h))
theorem Y2 {P:Program}{w:World}{H:Hp}{h:Heap}(hok:HOk P w H h){a:Addr}{kvs:List (Key×V)}(r:Rd H a (.dK kvs)):(∃ ob,H a=some ob)/\ObjOk P w H h a (.dK kvs):=by
 rcases r with e|⟨o,e⟩
 . exact⟨⟨_,e⟩,hok _ _ e⟩
 exact⟨⟨_,e⟩,(hok _ _ e).2⟩
theorem Y5 {Q:VK}{r q c' cc:Addr}{qual:Str}{pm aB:Value}{p p1 p2 p3 p4 p5 p6:Pos}(hc:X.calm=true)(aW:X.A.in1.in1.depth<recursionLimit)(aO:X.mg "len" = none)(I:Inv X pins σ H s)
  (ho:s.heap.get? q=some (W.kla_obj "<lambda>" qual (Z6 p) (a01 p1 p2 p3 p4 p5 p6) Te [("reach",cc)] pm c' aB)) (aJ:s.heap.CodeRec (.ref c') qual) (aK:s.heap.IsCell cc (some (.ref r))) (h:a73 r H Q) :
  wpAny (model X.prog X.w) X.A (call (.builtin "sorted") [.ref r] [(Str.ofString "key",.ref q)]) (EP X pins σ Q) X.xe s:=by
 obtain⟨kvs,ns,sz,hd,Z,hz,aX,hq⟩:=h;obtain⟨⟨b6,aM⟩,_,hs,vs,a4,dd⟩:=Y2 I.hok hd;obtain⟨ep,aG⟩:=dd.dictAt;have b2:=a4.length;have b1:kvs.length=ns.length:=by have:=congrArg List.length Z;simpa using this
 obtain⟨m,hn,aQ⟩:=I.loc;have F:Fr X.base X.env.locals s.heap m:=⟨hn,I.bk,A0O I.ok.bsz I.ok.above⟩;have keep:∀ {h:Heap} {more:List (Addr×Obj)},Fr X.base X.env.locals h m->News X.base X.env.locals h (Hi X.base s.heap X.env.locals++more)->∀ b u,b≠X.env.locals->s.heap.get? b=some u->h.get? b=some u:=λF' O=>Mi I.bk F'.keep O;have b4:∀ {c:Addr} {o:Obj},s.heap.get? c=some o->(∀ m,¬ s.heap.Ns c m)->c≠X.env.locals:=fun {c o} J U z=>U m (z ▸ hn);have trk:∀ {c:Addr} {u:HO},H c=some u->c≠X.env.locals:=fun {c u} e z=>by rw[z,I.free] at e;cases e
 have a3:∀ {c:Addr} {o:Obj},s.heap.get? c=some o->(∀ es ep,o.data ≠ .dict es ep)->c≠X.env.locals:=fun {c o} J U z=>by
  obtain⟨oL,es,ep,e4,e5⟩:=hn;rw[z,e4] at J
  cases J;exact U es ep e5.1
 refine call_function_entry_kw kind_sorted plain_sorted entry_sorted (ksk_s1 _ _) ?_;unfold Builtin.«sorted»;refine A05 (m:=checkCount "sorted" 1 1 _) (A0C ?_);refine wpAny_bind (W.kdu_collect (W.kdl_dict (knd:=Ax X.prog X.w) (kvs:=vs) (ep:=ep) hs) (by simpa using I.ok.hd hc) aG (by rw[sizeLine_eq];omega) λh1 tk acc k1 a5=>?_);have hl:acc.toList.length=vs.length:=by rw[A57];exact a5.1
 refine A05 (wpAny_newList ?_ (by rw[hl,A1I];omega))
 have hV:Vals (ns.map V.str) acc.toList:=Mp ∅ λi v hv=>by
  obtain⟨k,x,aN,a2⟩:=a5.2 i v (by rw[<- A3V];exact hv)
  have a6:(kvs.map (·.1))[i]? = some k:=by rw[a4.keys,A07,aN];rfl
  rw[Z,A07] at a6;obtain⟨n,aR,rfl⟩:=A1Z.mp a6;have a2:Va (Sum.inr n) v=true:=a2;rcases Bo a2 with ⟨i',t,J,_⟩|⟨x',t,J,rfl⟩
  . cases J
  cases J;exact⟨n,t,aR,rfl⟩
 have a8:(h1.push (seqObj "list" acc.toList.toArray 0)).get? h1.objs.size=some (seqObj "list" acc.toList.toArray 0):=A0J _ rfl;have k2:∀ b o,s.heap.get? b=some o->(h1.push (seqObj "list" acc.toList.toArray 0)).get? b=some o:=λb o e=>A02 _ (k1 b o e)
 have Y:s.heap.get? h1.objs.size=none:=by
  cases e:s.heap.get? h1.objs.size with
  |none=>rfl
  |some o=>
    have:=k1 _ _ e;rw[Heap.get?_none_of_le (A08 _)] at this
    cases this
 have aT:h1.objs.size≠X.env.locals:=λz=>by
  obtain⟨oL,es,ep,e4,e5⟩:=hn;rw[<- z,Y] at e4
  cases e4
 have aS:X.base.get? h1.objs.size=none:=by
  cases e:X.base.get? h1.objs.size with
  |none=>rfl
  |some o=>
    rw[I.bk _ _ e] at Y
    cases Y
 obtain⟨mb,aH,aI⟩:=I.mod.blt;have aP:(ns.map λx=>(-(sz x:Int))).length=acc.toList.length:=by rw[A01,hl];omega
 refine A05 (A3K (wpAny_call_entry_kw PyProof.Rows.slot_list_sort ⟨_,a8,rfl⟩ PyProof.Rows.entry_list_sort ?body (ksk_l1 _ _)))
 case body=>
  show wpAny (model X.prog X.w) X.A.in1.in1 (Builtin.«list.sort» ⟨[.ref h1.objs.size],[(Str.ofString "key",.ref q)]⟩) _ _ _;rw[ksk_t1];refine ksk_sort (s:={s with heap:=h1.push (seqObj "list" acc.toList.toArray 0),toks:=tk}) (kz:=ns.map λx=>(-(sz x:Int))) (news:=Hi X.base s.heap X.env.locals) (F.kept k2) (News.grown T8 k2) a8 aT aS (λp hp z=>?_) aP ∅ (λi v k hv Z h tk own F' O=>?_) λh' tk aA c F' O k'=>⟨_,rfl,?_⟩
  . have:=(T8 p hp).1;rw[z,Y] at this
    cases this
  . rw[A07] at Z;obtain⟨x,hx,rfl⟩:=A1Z.mp Z;obtain⟨u,hu,ru⟩:=hV.get (i:=i) (x:=V.str x) (by rw[A07,hx];rfl);rw[hv] at hu
    cases hu;obtain⟨t,rfl⟩:=ru;obtain⟨a,b3,aD,aE,aF⟩:=aX x (A04 hx);obtain⟨⟨b5,aL⟩,aZ,aY,b8,b0,aC⟩:=Y2 I.hok aE;have a0:=a4.val (Sum.inr x:Key);rw[aD] at a0
    obtain⟨y,hy,ry⟩:∃ y,valueAt vs (Sum.inr x:Key)=some y/\RelV (.ref a) y:=by
     cases e:valueAt vs (Sum.inr x:Key) with
     |none=>rw[e] at a0;cases a0
     |some y=>rw[e] at a0;exact⟨y,rfl,a0⟩
    cases ry;have dk:∀ {b:Addr} {ob:HO} {xs:List (Key×Value)},H b=some ob->s.heap.DictOf (Ax X.prog X.w) b xs->h.DictOf (Ax X.prog X.w) b xs:=fun {b ob xs} e ⟨o,es,ep,J,z⟩=>⟨o,es,ep,keep F' O _ _ (trk e) J,z⟩;have a7:=b0.length;rw[<- aF,a7];refine a72 (s:={s with heap:=h,toks:=tk}) (mg:=X.mg) (mb:=mb) aW (keep F' O _ _ (a3 ho λes ep z=>by cases z) ho) ?_ (I.mod.nolimit.keeps F'.keep) (I.mod.glob.keeps F'.keep) aO (aH.keeps F'.keep) ((aI "len" nofun).trans PyProof.Rows.Boot.«len») ?_ (dk aM dd) hy (dk aL aC) aY (by rw[<- a7];rw[A1I] at aZ;omega) λu h2 b7 a1=>?_
    . obtain⟨c,oc,vs,tq,e0,J,U,e3⟩:=aJ
      cases e0;exact⟨c',oc,vs,tq,rfl,keep F' O _ _ (a3 J λes ep z=>by rw[U] at z;cases z) J,U,e3⟩
    . obtain⟨o,J,U⟩:=aK;exact⟨o,keep F' O _ _ (a3 J λes ep z=>by rw[U] at z;cases z) J,U⟩
    exact KskEnd.intro ⟨F'.ns.keeps a1,λb o e=>a1 b o (F'.keep b o e),F'.above⟩ (λp hp=>⟨a1 _ _ (O p hp).1,(O p hp).2⟩) λp hp=>hp
  obtain ⟨ms,a9,aU,aV⟩:=aC5 hV k'
  have hH:H h1.objs.size=none:=by
   cases e:H h1.objs.size with
   |none=>rfl
   |some o=>
     obtain⟨u,q⟩:=(I.hok _ o e).got;rw[Y] at q
     cases q
  refine A0C ⟨_,rfl,.ref h1.objs.size,_,?_,rfl,hq _ ms hH a9 aU⟩;refine I.nsedL (keep (more:=[(h1.objs.size,seqObj "list" aA c)]) F' λp hp=>?_) aQ F'.ns Y ?_
  . rcases A0A.mp hp with hp|hp
    . exact O p (A09 _ hp)
    rw[A0K.mp hp];exact O _ (A0D ..)
  have:=(O _ (A0D ..)).1;exact⟨by rw[List.length_map,a9.length_eq,sizeLine_eq];omega,aA.toList,c,aV,by simpa using this⟩
theorem Inv.cellIs {i:Nat}{x:Str}{q r:Addr}(I:Inv X pins σ H s)(hi:X.N[i]? = some x)(F:X.env.kindOf x=some .cell)(J:X.env.cells.lookup x=some q)(U:σ[i]? = some (some (.ref r))):s.heap.IsCell q (some (.ref r)):=by
 obtain⟨m,_,O⟩:=I.loc;obtain⟨u,Y,lk⟩:=O i x _ hi U (.inr (.inl F))
 cases Y;rcases lk with ⟨z,_⟩|⟨_,c,h1,h2⟩
 . rw[F] at z
   cases z
 rw[J] at h1
 cases h1;exact h2
def ar1 (P:Addr)(line q:Nat)(qual:Str)(i:Nat)(t:TA):TE:=fun σ H Q=>∃ r,σ[i]? = some (some (.ref r))/\t σ H λvs H1=>vs=[.ref r]/\LamT P line q qual H1/\∀ H2,ExtBut P H1 H2->LamT P line q qual H2->a73 r H2 Q
theorem Zj {i:Nat}{c P:Addr}{U:Expr}{t:TE}{p p0 p1 p2 p3 p4 p5 p6 pl p7 pos:Pos}(L:aK0 X c P)(hc:X.calm=true)(a8:X.A.in1.in1.depth<recursionLimit)(hg:Gl X "sorted")(hm:X.mg "sorted" = none)(a7:X.mg "len" = none)(hi:X.N[i]? = some ("reach":Str))(hk:X.env.kindOf "reach" = some .cell)(ha:PA X [U] (Yz t aE5))
  (he:backTo pos (starEach [U] X.env)=(false,eval U X.env) :: backTo pos (starEach [] X.env):=by ac_nf) (aA:(backTo pos (starEach [U] X.env)).any (·.1)=false:=by ac_nf) :
  PE X (.Call (.Name "sorted" p) [U] [⟨some "key",.Lambda (Z6 p0) (a01 p1 p2 p3 p4 p5 p6) Te pl,p7⟩] pos) (ar1 P pl.line pl.col (X.env.qual ++ "<lambda>") i (Yz t aE5)):=by
 intro pins s σ H Q I ⟨r,hσ,h⟩;obtain⟨Y,Z⟩:=I.ok.has "reach" (.inl hk)
 have a5:closureFor Te X.env=pure [(("reach":Str),Y)]:=by
  rw[M9 (scope:=Te) (env:=X.env) λy hy e=>?_]
  . show pure (Ln X.env [(("name":Str),NameKind.local),("reach",.free),("len",.globalImplicit)] [])=_;have:Ln X.env [(("name":Str),NameKind.local),("reach",.free),("len",.globalImplicit)] []=[(("reach":Str),(X.env.cells.lookup ("reach":Str)).getD 0)]:=rfl;rw[this,Z];rfl
  simp only[List.mem_cons,List.not_mem_nil,or_false] at hy;rcases hy with rfl|rfl|rfl
  . cases e
  . exact⟨Y,Z⟩
  cases e
 refine A24 (K3 I hg hm PyProof.Rows.Boot.«sorted» ?_);refine callWith_kw (thn (ha pos pins s σ H _ I h) λus s1 ⟨vs,H1,q,r1,q1⟩=>?_) he aA rfl rfl;obtain⟨rfl,J,q1⟩:=q1;obtain⟨v,rfl,rv⟩:=J4 r1
 cases rv;refine kws_cons (W.kla_eval rfl ?_)
 have a4:s1.heap.BuiltinsAt X.mg P:=by obtain⟨bm,ob,b1,b2,b3,b4,b5,b6⟩:=L.bi;exact⟨bm,ob,b1,b2,b3,b4,q.bk _ _ b5,b6⟩
 rcases J with J|⟨F,J,hC⟩
 . have hP:=q.hok P _ J;refine W.kla_makeFunction (mg:=X.mg) a5 q.ok.glob (q.mod.glob.keeps q.bk) L.code (L.hd.keeps q.bk) hP trivial rfl L.gP a4 λF a2 h2 tk hx a3 aC a1 aB=>kws_nil ?_;have O:=Inv.grown (t':=tk) (h':=h2.push (W.kla_obj "<lambda>" (X.env.qual ++ "<lambda>") (Z6 p0) (a01 p1 p2 p3 p4 p5 p6) Te [("reach",Y)] ((X.mg "__name__").getD .none) F a2)) q J (λb u hb e=>A02 _ (hx b u hb e)) (A02 _ aB) a3 (Gn a1 λo e=>A02 _ e);refine Y5 hc a8 a7 O (A0J _ rfl) (Gn a1 λo e=>A02 _ e) (O.cellIs hi hk Z hσ) (q1 _ ?_ ?_)
   . intro b o hb e;have a0:H1 F=none:=q.hok.fresh a3;rw[Au (λz=>by rw[z,a0] at e;cases e),Au hb];exact e
   have a0:H1 F=none:=q.hok.fresh a3;have a9:P≠F:=λz=>by rw[<- z,J] at a0;cases a0
   exact .inr ⟨F,by rw[Au a9,Af];rfl,Af⟩
 have hP:=q.hok P _ J;obtain⟨a1,_,_⟩:=q.hok F _ hC;refine W.kla_makeFunctionHit (mg:=X.mg) a5 q.ok.glob (q.mod.glob.keeps q.bk) L.code (L.hd.keeps q.bk) hP trivial (cv:=.ref F) (by simp[codeAmong,rawInt]) a4 λa2 h2 tk a6 hsz=>kws_nil ?_;have O:Inv X pins σ H1 {s1 with heap:=h2.push {cls:=.type "function",data:=.func (W.kla_fn "<lambda>" (X.env.qual ++ "<lambda>") (Z6 p0) (a01 p1 p2 p3 p4 p5 p6) Te [("reach",Y)] ((X.mg "__name__").getD .none) (.ref F) a2)},toks:=tk}:=q.kept λb u e=>A02 _ (a6 b u e)
 exact Y5 hc a8 a7 O (A0J _ rfl) (Gn a1 λo e=>A02 _ (a6 _ o e)) (O.cellIs hi hk Z hσ) (q1 H1 .refl (.inr ⟨F,J,hC⟩))
end
theorem way_said {ps:List (Str×Str)}{x y a b:Str}:Way (ps++[(x,y)]) a b↔Way ps a b\/((a=x\/Way ps a x)/\(y=b\/Way ps y b)):=by
 have up:∀ {u v:Str},Way ps u v->Way (ps++[(x,y)]) u v:=fun {u v} h=>by
  induction h with
  |one e=>exact .one (A0L _ e)
  |cons e _ ih=>exact .cons (A0L _ e) ih
 have q:Way (ps++[(x,y)]) x y:=.one (A12 _ (A0K.mpr rfl));constructor
 . exact aj7
 rintro(h|⟨h1,h2⟩)
 . exact up h
 have F:Way (ps++[(x,y)]) a y:=by
  rcases h1 with rfl|h1
  . exact q
  exact(up h1).trans q
 rcases h2 with rfl|h2
 . exact F
 exact F.trans (up h2)
theorem ac8 {α:Type}[DecidableEq α]{b:α->α->Bool}:∀ {r:List α},(∀ u∈r,b u u=false)->r.Pairwise (λu v=>b u v=true/\b v u=false)->2*(r.map λx=>(r.filter (b x)).length).sum=r.length*(r.length-1)
 | [],_,_=>rfl
 |a :: t,hi,hp=>by
   rw[A2L] at hp;have U:=ac8 (r:=t) (λu hu=>hi u (A09 _ hu)) hp.2
   have q:((a :: t).filter (b a)).length=t.length:=by rw[List.filter_cons_of_neg (by rw[hi a (A0D ..)];decide),A3G.mpr λv J=>(hp.1 v J).1]
   have F:(t.map λx=>((a :: t).filter (b x)).length)=t.map λx=>(t.filter (b x)).length:=A0Z λx O=>by rw[List.filter_cons_of_neg (by rw[(hp.1 x O).2];decide)]
   rw[A0H,A1F,q,F,A47,U,A0G,A4C]
   cases t.length with
   |zero=>rfl
   |succ n=>simp only[Nat.add_sub_cancel,Nat.add_mul,Nat.mul_add];omega
def szW (ns:List Str)(ps:List (Str×Str))(x:Str):Nat:=(ns.filter λy=>Ab ps x y).length
section
variable {ns row:List Str}{ps:List (Str×Str)}
theorem ao3 (h:HalfW ns ps)(e:ext (Ab ps) ns.length ns=[row]){x y:Str}(q:x∈ns)(J:y∈ns)(F:x≠y):Ab ps x y=true\/Ab ps y x=true:=by
 have O:cnt (Ab ps) ns=1:=by unfold cnt;rw[e];rfl
 have h2:=Sr h q J F
 cases h3:Ab ps x y with
 |true=>exact .inl rfl
 |false=>
   cases h4:Ab ps y x with
   |true=>exact .inr rfl
   |false=>have:=(Yc h q J F).mpr (by unfold unB;rw[h3,h4];rfl);omega
theorem ae4 (h:HalfW ns ps)(e:ext (Ab ps) ns.length ns=[row]):row.Perm ns/\okR (Ab ps) row:=(Cr (Ab ps) ns.length ns row h.nd rfl).mp (by rw[e];exact A0K.mpr rfl)
theorem Kn (h:HalfW ns ps)(x:Str):Ab ps x x=false:=by
 cases e:Ab ps x x with
 |false=>rfl
 |true=>exact absurd (wayB_iff.mp e) (h.irr x)
theorem av6 (h:HalfW ns ps)(e:ext (Ab ps) ns.length ns=[row]):2*(ns.map (szW ns ps)).sum=ns.length*(ns.length-1):=by
 obtain⟨hp,J⟩:=ae4 h e;have hn:row.Nodup:=hp.nodup_iff.mpr h.nd
 have F:(ns.map (szW ns ps)).sum=(row.map λx=>(row.filter λy=>Ab ps x y).length).sum:=by rw[<- (hp.map (szW ns ps)).sum_nat];refine congrArg List.sum (A0Z λx _=>?_);exact((hp.filter λy=>Ab ps x y).length_eq).symm
 rw[F,<- hp.length_eq];refine ac8 (b:=Ab ps) (λu _=>Kn h u) ?_;refine(A1Y.mpr fun {u v} F=>?_);have h1:=A1Y.mp J.2 F;have h2:u≠v:=A1Y.mp hn F;have hu:u∈ns:=hp.mem_iff.mp (F.subset (A0D ..));have O:v∈ns:=hp.mem_iff.mp (F.subset (A09 _ (A0D ..)));rcases ao3 h e hu O h2 with q|q
 . exact⟨q,h1⟩
 rw[h1] at q
 cases q
theorem Zm (h:HalfW ns ps)(e:ext (Ab ps) ns.length ns=[row]){ms:List Str}(hp:ms.Perm ns)(J:ms.Pairwise λx y=>szW ns ps y<=szW ns ps x):ms=row:=by
 have:ms∈ext (Ab ps) ns.length ns:=(Cr (Ab ps) ns.length ns ms h.nd rfl).mpr ⟨hp,λu _=>Kn h u,A1Y.mpr fun {u v} F=>?_⟩
 . rw[e] at this;exact A0K.mp this
 have h1:=A1Y.mp J F;have hu:u∈ns:=hp.mem_iff.mp (F.subset (A0D ..));have O:v∈ns:=hp.mem_iff.mp (F.subset (A09 _ (A0D ..)))
 cases q:Ab ps v u with
 |false=>rfl
 |true=>exfalso;have:szW ns ps u<szW ns ps v:=Gq (λa _ ha=>wayB_iff.mpr ((wayB_iff.mp q).trans (wayB_iff.mp ha))) ⟨u,hu,q,Kn h u⟩;omega
end
inductive PlanP (ns:List Str):List (Str×Str)->PyData->Nat->Prop
 |fin {ps:List (Str×Str)} {row:List Str}:ext (Ab ps) ns.length ns=[row]->PlanP ns ps (.tuple [.str "end",nmD row]) 0
 |ask {ps:List (Str×Str)} {x y:Str} {D E:PyData} {m n:Nat}:x∈ns->y∈ns->x≠y->unB ps x y=true->PlanP ns (ps++[(x,y)]) D m->PlanP ns (ps++[(y,x)]) E n->PlanP ns ps (.tuple [.str "ask",.str x,.str y,D,E]) (1+max m n)
theorem HalfW.saidP {ns:List Str}{ps:List (Str×Str)}(h:HalfW ns ps)(U:ps.length<1000){x y:Str}(F:x∈ns)(O:y∈ns)(J:x≠y)(hu:unB ps x y=true):HalfW ns (ps++[(x,y)]):=by have q:=h.more F O;refine⟨h.nd,q.mem,Ux h.irr (λz=>J z.symm) λg=>?_,h.few,by rw[A06,A14];omega⟩;unfold unB at hu;rw[wayB_iff.mpr g] at hu;simp at hu
theorem Ma {ps:List (Str×Str)}{x y:Str}(hu:unB ps x y=true):unB ps y x=true:=by unfold unB at hu ⊢;rw[A5J];exact hu
section
variable {X:Cx}
def at5:List V->Hp->VK->Prop:=λxs H Q=>∃ o kvs,xs=[V.ref o]/\Rd H o (.dK kvs)/\∀ p,H p=none->Q (.ref p) (upd H p (.dK kvs))
theorem R1:CallR X (.type "dict") at5:=by
 intro pins s σ H xs us Q I Z h;obtain⟨o,kvs,rfl,hd,q⟩:=h;obtain⟨u,rfl,Y⟩:=Z.one
 cases Y;obtain⟨⟨ob,he⟩,hz,U,vs,F,J⟩:=Y2 I.hok hd;have hl:=F.length;refine kt_call_dict U J ∅ λh' O hb=>?_;refine⟨.ref s.heap.objs.size,_,I.laid (λb o e=>(hb.2 b (A11 (A0F e))).trans (A02 _ e)) (A08 _) (Ve hz ?_ F O),rfl,q _ (I.hok.fresh (A08 _))⟩;exact A1T.mpr (A4Q I.big)
theorem a69 {o:Addr}{kvs:List (Key×V)}{H:Hp}{Q:VK}(h:Rd H o (.dK kvs))(k:∀ p H',H p=none->Same H H'->H' p=some (.dK kvs)->Q (.ref p) H'):at5 [.ref o] H Q:=
 ⟨o,kvs,rfl,h,λp hp=>k p _ hp (Same.upd hp) Af⟩
def aI7:List V->Hp->VK->Prop:=λxs H Q=>∃ a kvs,xs=[V.ref a]/\Rd H a (.dK kvs)/\Q (.int kvs.length) H
theorem Nl:CallR X (.builtin "len") aI7:=by
 intro pins s σ H xs us Q I r h;obtain⟨a,kvs,rfl,ha,q⟩:=h;obtain⟨u,rfl,Y⟩:=J4 r
 cases Y;obtain⟨⟨ob,he⟩,hz,O,vs,U,F⟩:=Y2 I.hok ha;have J:=U.length;refine call_len_dict O F (by rw[A1I] at hz;omega) ?_;rw[<- J];exact⟨.int kvs.length,H,I.tok _,⟨_,rfl⟩,q⟩
theorem ai6 {a:Addr}{kvs:List (Key×V)}{H:Hp}{Q:VK}(h:Rd H a (.dK kvs))(k:Q (.int kvs.length) H):aI7 [.ref a] H Q:=⟨a,kvs,rfl,h,k⟩
theorem ar4 {K:W.Frag}{a:Addr}{kvs:List (Key×V)}{z:Str}{v:V}{H:Hp}{Q:VK}(h:Rd H a (.dK kvs))(e:Ck kvs (Sum.inr z:Key)=some v)(k:Q (.bl true) H):Z7 K false (.str z) (.ref a) H Q:=by refine .inr (.inr (.inl ⟨a,Ck kvs (Sum.inr z:Key),rfl,.inl ⟨_,Sum.inr z,h,rfl,rfl⟩,?_⟩));rw[e];simpa using k
theorem aw5 {P:Addr}{line q:Nat}{qual:Str}{i:Nat}{t:TA}{σ:St}{H:Hp}{Q:VK}{r:Addr}(h:σ[i]? = some (some (.ref r)))(k:t σ H λvs H1=>vs=[.ref r]/\LamT P line q qual H1/\∀ H2,ExtBut P H1 H2->LamT P line q qual H2->a73 r H2 Q):ar1 P line q qual i t σ H Q:=⟨r,h,k⟩
end
section
variable {prog:Program}{w:World}{A:Around}{E:Value->Shared->Prop}{s:Shared}
theorem Wa {J:Addr}{k:Int}{tk:Tok}{Q:Int×Int×Nat->Shared->Prop}(U:s.heap.IsSliceOf J .none .none (.int k tk))(O:k=1\/k = -1)(h:Q (if k=1 then(0,1,2) else(1,-1,2)) s) :
  wpAny (model prog w) A (Builtin.Slice.sliceApplied (.ref J) (pure ((2:Nat):Int))) Q E s:=by
 obtain⟨os,F,Y,q⟩:=id U;unfold Builtin.Slice.sliceApplied Builtin.Slice.sliceFields;refine A05 (A05 (A32 F q (x:=.none) rfl (A05 (A32 F q (x:=.none) rfl (A05 (A32 F q (x:=.int k tk) rfl (A0C ?_)))))));refine A05 (HT.slicePart_ (.int k tk) ?_);rcases O with rfl|rfl
 . show wpAny _ _ (if((1:Int)==0)=true then _ else _) _ _ s
   rw[A0P nofun];refine A05 (HT.slicePart_ .none (A05 (HT.slicePart_ .none (A05 (A0C ?_)))));exact A0C h
 show wpAny _ _ (if((-1:Int)==0)=true then _ else _) _ _ s
 rw[A0P nofun];refine A05 (HT.slicePart_ .none (A05 (HT.slicePart_ .none (A05 (A0C ?_)))));exact A0C h
theorem Wq {t J:Addr}{x y:Value}{k:Int}{tk:Tok}{Q:Value->Shared->Prop}(q:IsTup s.heap t #[x,y])(U:s.heap.IsSliceOf J .none .none (.int k tk))(O:k=1\/k = -1)(h1:k=1->Q (.ref t) s)
  (h2:k = -1->Q (.ref s.heap.objs.size) {s with heap:=s.heap.push {cls:=.type "tuple",data:=.seq #[y,x]}}):wpAny (model prog w) A (getItem (.ref t) (.ref J)) Q E s:=by
 obtain⟨os,a0,Z,a1⟩:=id U;have Y:s.TypeIs (.ref J) "slice":=⟨os,a0,Z⟩;unfold getItem
 try with_reducible refine A3K ?_
 first | refine A05 (A0C ?_) | skip
 refine A05 (wpAny_sequenceKey q.typeIs nofun ?_)
 refine A05 (A2S (name:=Str.ofString "__getitem__") q.typeIs A1P
  (A3C A1P q.typeIs entry_tuple_getitem ?_ (args_tuple_getitem _ _)))
 show wpAny _ _ (Builtin.Tuple.tupleItemsOf (.ref t) >>= _) _ _ s;refine A05 (tupleItemsOf_ q ?_);refine A05 (A3H Y ?_);rw[A0X nofun];refine A05 (Wa U O ?_);rcases O with rfl|rfl
 . show wpAny _ _ (if(((0:Int)==0&&(1:Int)==1&&(2:Nat)==2))=true then _ else _) _ _ s
   rw[A0X nofun];have fin:∀ s',s'=s->Q (.ref t) s':=λs' e=>by subst e;exact h1 rfl
   clear h1 h2;unfold Builtin.Tuple.tupleIsExact;obtain⟨hp,g,d,a3,a2⟩:=s;have hT:=q.typeIs
   repeat (any_goals (first | assumption | wp_step))
   exact⟨_,rfl,A0C (fin _ rfl)⟩
 show wpAny _ _ (if(((1:Int)==0&&(-1:Int)==1&&(2:Nat)==2))=true then _ else _) _ _ s
 rw[A0P nofun];have e:(((List.range 2).filterMap λ(m:Nat)=>(#[x,y]:Array Value)[((1:Int)+(m:Int)*(-1)).toNat]?).toArray) = #[y,x]:=rfl
 have F:sizeOk (.seq (#[y,x]:Array Value)):=by show(#[y,x]:Array Value).size<=sizeLine;rw[A1I];exact Nat.le_of_ble_eq_true rfl
 have h:=h2 rfl;show wpAny _ _ (Builtin.Tuple.tupleExact (((List.range 2).filterMap λ(m:Nat)=>(#[x,y]:Array Value)[((1:Int)+(m:Int)*(-1)).toNat]?).toArray) >>= _) _ _ s;rw[e]
 first
  |exact A05 (m:=Builtin.Tuple.tupleExact _) (A20 (A0C ⟨_,rfl,A0C h⟩) F)
  |exact A05 (m:=Builtin.Tuple.tupleExact _) (A20 (A05 (A0C (A0C ⟨_,rfl,A0C h⟩))) F)
  |exact A05 (A05 (m:=Builtin.Tuple.tupleExact _) (A20 (A0C (A0C ⟨_,rfl,A0C h⟩)) F))
end
section
variable {X:Cx}{K:W.Frag}
def Ye (K:W.Frag):V->V->Hp->VK->Prop:=λx y H Q=>∃ a p q k,x = .ref a/\y = .int k/\(k=1\/k = -1)/\SqT K H a [p,q]/\(k=1->Q (.ref a) H)/\(k = -1->∀ b,H b=none->Q (.ref b) (upd H b (.tup [q,p])))
theorem Ra {e st:Expr}{te O:TE}{p2 pos:Pos}(he:PE X e te)(a0:PE X st O)(hK:X.K=K:=by ac_nf):PE X (.Subscript e (.Slice none none (some st) p2) pos) (tOp (Ye K) te O):=by
 subst hK;intro pins s σ H Q I h;refine A52 (thn (he pins s σ H _ I h) λv s1 ⟨x,H1,U,r1,q1⟩=>?_);refine wpAny_Slice ?_;rw[A5G];refine A0C (A0C ?_);rw[evalPart_some];refine thn (a0 pins s1 σ H1 _ U q1) λu s2 ⟨y,H2,Y,r2,q2⟩=>?_;obtain⟨a,p,q,k,rfl,rfl,hk,hx,Z,c2⟩:=q2
 cases r1;obtain⟨t,rfl⟩:=r2;have F:Inv X pins σ H2 {s2 with heap:=s2.heap.push {cls:=.type "slice",data:=.fields #[.none,.none,.int k t]}}:=Y.kept (t':=s2.toks) λb ob q=>A02 _ q
 obtain⟨a3,r,J,hz⟩:=F.tuple hx;obtain⟨x1,x2,rfl,a1,a2⟩:=Vals.two r;refine tail_any (ops:=[.ref a,.ref s2.heap.objs.size]) J.typeIs PyProof.Rows.slot_tuple_getitem.lookup ?_ ⋯;refine Wq J (A5H ..) hk (λe=>⟨.ref a,H2,F,rfl,Z e⟩) λe=>?_;refine⟨.ref _,_,F.laid (t':=s2.toks) (o:=.tup [q,p]) (λb ob q=>A02 _ q) (A08 _) ?_,rfl,c2 e _ (F.hok.fresh (A08 _))⟩;exact⟨by rw[sizeLine_eq];simp,[x2,x1],.cons a2 (.cons a1 .nil),IsTupN.new _ _⟩
theorem az9 {a:Addr}{p q:V}{k:Int}{H:Hp}{Q:VK}(h:SqT K H a [p,q])(F:k=1\/k = -1)(c:∀ b H',Same H H'->SqT K H' b (if k=1 then [p,q] else [q,p])->Q (.ref b) H'):Ye K (.ref a) (.int k) H Q:=
 ⟨a, p,q,k,rfl,rfl,F,h,λe=>c a H (.refl _) (by rw[A0X e];exact h),λe b hb=>c b _ (Same.upd hb) (by rw[A0P ∅];exact SqT.of Af)⟩
end
theorem ag8 {α:Type}{p q:α->Bool}:∀ {l:List α},(∀ a∈l,p a=true->q a=true)->(l.filter p).length<=(l.filter q).length
 | [],_=>A08 _
 |a :: l,h=>by
   have J:=ag8 (l:=l) λb hb=>h b (A09 _ hb);have ha:=h a (A0D ..);rw[A1A,A1A]
   by_cases hp:p a=true
   . rw[A0X hp,A0X (ha hp),A0G,A0G];omega
   rw[A0P hp]
   by_cases F:q a=true
   . rw[A0X F,A0G];omega
   rw[A0P F];exact J
section
variable {ps ps':List (Str×Str)}
theorem aF2 (h:∀ x y,unB ps' x y=true->unB ps x y=true):∀ ns:List Str,(unP ns ps').length<=(unP ns ps).length
 | []=>by rw[show unP [] ps'=[] from rfl];exact A2M _
 |a :: t=>by rw[Im,Im];have h1:=aF2 h t;have h2:=ag8 (l:=t) (p:=λy=>unB ps' a y) (q:=λy=>unB ps a y) λy _=>h a y;omega
theorem aA9 (h:∀ x y,unB ps' x y=true->unB ps x y=true){x y:Str}(J:x≠y)(h1:unB ps x y=true)(h2:unB ps' x y=false):∀ {ns:List Str},x∈ns->y∈ns->(unP ns ps').length<(unP ns ps).length
 | [],hx,_=>by cases hx
 |a :: t,hx,hy=>by
   have O:∀ qs:List (Str×Str),unB qs y x=unB qs x y:=λqs=>by unfold unB;rw[Bool.and_comm]
   rw[Im,Im];have U:=aF2 h t;have Y:=ag8 (l:=t) (p:=λz=>unB ps' a z) (q:=λz=>unB ps a z) λz _=>h a z;rcases A0B.mp hx with e|hx'
   . subst e;have F:y∈t:=(A0B.mp hy).resolve_left (Ne.symm J);have:=Gq (p:=λz=>unB ps' x z) (q:=λz=>unB ps x z) (l:=t) (λz _=>h x z) ⟨y,F,h1,h2⟩;omega
   rcases A0B.mp hy with e|F
   . subst e;have:=Gq (p:=λz=>unB ps' y z) (q:=λz=>unB ps y z) (l:=t) (λz _=>h y z) ⟨x,hx',by rw[O];exact h1,by rw[O];exact h2⟩;omega
   have:=aA9 h J h1 h2 hx' F;omega
theorem a78:∀ ns:List Str,2*(unP ns ps).length<=ns.length*(ns.length-1)
 | []=>A08 _
 |a :: t=>by
   rw [Im,A0G,A4C];have h1:=a78 t;have h2:(t.filter λy=>unB ps a y).length<=t.length:=A0U _ _
   cases ht:t.length with
   |zero=>rw[ht] at h1 h2;omega
   |succ n=>rw[ht,A4C] at h1;rw[ht] at h2;simp only[Nat.add_mul,Nat.mul_add] at h1 ⊢;omega
end
theorem R8 {ps:List (Str×Str)}{x y:Str}:(∀ a b,unB (ps++[(x,y)]) a b=true->unB ps a b=true)/\unB (ps++[(x,y)]) x y=false:=by
 constructor
 . intro a b h;unfold unB at h ⊢;rw[A15,Bool.not_eq_true',Bool.not_eq_true'] at h ⊢;refine⟨?_,?_⟩
   . cases e:Ab ps a b with
     |false=>rfl
     |true=>rw[wayB_iff.mpr (way_said.mpr (.inl (wayB_iff.mp e)))] at h;cases h.1
   cases e:Ab ps b a with
   |false=>rfl
   |true=>rw[wayB_iff.mpr (way_said.mpr (.inl (wayB_iff.mp e)))] at h;cases h.2
 unfold unB;rw[wayB_iff.mpr (way_said.mpr (.inr ⟨.inl rfl,.inl rfl⟩))];rfl
theorem PlanP.le_un {ns:List Str}{ps:List (Str×Str)}{D:PyData}{m:Nat}(p:PlanP ns ps D m):m<=(unP ns ps).length:=by
 induction p with
 |fin e=>exact A2M _
 |@ask ps x y D E m n hx hy hxy hu _ _ i1 i2=>have q:=aA9 (R8 (ps:=ps) (x:=x) (y:=y)).1 hxy hu R8.2 hx hy;have F:=aA9 (R8 (ps:=ps) (x:=y) (y:=x)).1 (Ne.symm hxy) (Ma hu) R8.2 hy hx;omega
theorem PlanP.le45 {ns:List Str}{ps:List (Str×Str)}{D:PyData}{m:Nat}(p:PlanP ns ps D m)(h:ns.length<=10):m<=45:=by have h1:=p.le_un;have h2:=a78 (ps:=ps) ns;have q:ns.length*(ns.length-1)<=10*9:=A29 h ∅;omega
section
variable {X:Cx}{k:Nat}{C:Addr}{x:Str}{ps:List Str}{sp:Sp}{e:Expr}{es:List Expr}{t:TA}{p pos:Pos}{E:XK}
end
section
variable {C:Addr}{sp:Sp}{t:TA}{σ:St}{H:Hp}{Q:VK}{E:XK}
end
def ai8 (Ps:List Addr)(H:Hp):Prop:=(∀ p∈Ps,H p=some (.tbl #[]))/\∀ b,b∉Ps->H b=none\/∃ o xs,H b=some (.frz o (.lst xs))
theorem Z1 {P:Program}{w:World}{K:W.Frag}{mg mb:Str->Option Value}{CX:CXT}{k:Nat}{fa a:Addr}{Ps:List Addr}{fd:FuncData}{x:Str}{sp:Sp}{J:Shared}{vs:List Value}{ns:List Int}
  (KX:K.In J.heap) (a6:J.heap.Ns mainGlobals mg) (hb:J.heap.Ns builtinsNs mb) (aE:∀ x:Str,x ≠ "__name__" -> mb x=bootBuiltins x) (aG:J.heap.NoLimit) (hg:J.gens = #[])
  (ha:J.heap.get? a=some {cls:=.type "list",data:=.seq vs.toArray}) (hi:IntsAre vs ns) (hl:ns.length<=sizeLine) (hr:Room k callerA)
  (Y:∀ p∈Ps,J.heap.get? p=some (W.tabObj #[])) (aC:∀ p∈Ps,∃ c,W.CodeHd J.heap c p) (aD:∀ p∈Ps,K.lookup p=none) (a9:∀ p∈Ps,J.heap.BuiltinsAt mg p)
  (F:∀ base:Heap,K.In base->base.Ns mainGlobals mg->(∀ p∈Ps,base.BuiltinsAt mg p)->FnOk P w K mg base CX k fa fd [x] sp) (aF:∀(s:Shared) (u:Value),BindsTo s fd ⟨[u],[]⟩ [(x,u)])
  (aH:∀ H:Hp,ai8 Ps H->SqL K H a (ns.map V.int)->sp [.ref a] H (λv _=>v = .bl true) λ_ _ _=>False)
  (aB:∀ H e s',CX [] H J (λ_ _ _=>False) e s'->False) :
  codeAny (model P w) callerA (.call (.ref fa) ⟨[.ref a],[]⟩) (λr s'=>r = .ok (.ret (.bool true))/\OldK J.heap s'.heap/\s'.os=J.os/\AllBare s'.gens) J:=by
 have rv:=Vp hi;have aI:=hi.length;have a5:a∉Ps:=λz=>by rw[Y a z] at ha;cases ha
 have a3:∀ H:Hp,ai8 Ps H->SqL K H a (ns.map V.int)->HOk P w H J.heap->(∀ b,H b≠none->b=a\/b∈Ps)->(H a≠none->K.lookup a=none) ->
   codeAny (model P w) callerA (.call (.ref fa) ⟨[.ref a],[]⟩) (λr s'=>r = .ok (.ret (.bool true))/\OldK J.heap s'.heap/\s'.os=J.os/\AllBare s'.gens) J:=by
  intro H hO hS hok hA hK;have a0:∀ {b:Addr} {o:Obj},J.heap.get? b=some o->H b=none->(ak0 J.heap H).get? b=some o:=λe n=>am0 e n
  have a8:∀ {b:Addr} {o:Obj},J.heap.get? b=some o->(∀ zs n,o.data ≠ .seq zs n)->(∀ zs,o.data ≠ .fields zs)->H b=none:=fun {b o} e d1 d2=>by
   cases q:H b with
   |none=>rfl
   |some u=>
     rcases hA b (by rw[q];simp) with e'|e'
     . subst e';rw[ha] at e;cases e;exact absurd rfl (d1 _ _)
     rw[Y b e'] at e;cases e;exact absurd rfl (d2 _)
  have Z:∀ {b:Addr} {m:Str->Option Value},J.heap.Ns b m->(ak0 J.heap H).Ns b m:=fun {b m} ⟨o,es,ep,e,d,r⟩=>⟨o,es,ep,a0 e (a8 e (λ_ _ z=>by rw[d] at z;cases z) λ_ z=>by rw[d] at z;cases z),d,r⟩
  have a4:K.In (ak0 J.heap H):=λb o e=>a0 (KX b o e) (by
   cases q:H b with
   |none=>rfl
   |some u=>
     rcases hA b (by rw[q];simp) with e'|e'
     . subst e';rw[hK (by rw[q];simp)] at e;cases e
     rw[aD b e'] at e;cases e)
  have hM:Mod K mg (ak0 J.heap H):=⟨a4,Z a6,⟨mb,Z hb,aE⟩,let ⟨mc,h1,h2⟩:=aG;⟨mc,Z h1,h2⟩⟩
  have aA:∀ p∈Ps,(ak0 J.heap H).BuiltinsAt mg p:=λp hp=>by obtain⟨bm,ob,b1,b2,b3,b4,b5,b6,b7,b8⟩:=a9 p hp;exact⟨bm,ob,b1,b2,b3,b4,a0 b5 (a8 b5 (λ_ _ z=>by rw[b8] at z;cases z) λ_ z=>by rw[b8] at z;cases z),b6,b7,b8⟩
  have e0:Env0 P w K mg (ak0 J.heap H) callerA [] J H:=⟨rfl,hM,λb o e=>aA8 e,Nat.le_of_eq (ab0 _ _),trivial,λb hb=>absurd (show b∈([]:List Addr) from hb) (by simp),hok,.of_eq hg⟩;refine codeAny_mono ((F _ a4 (Z a6) aA).run callerA [] J H ⟨[.ref a],[]⟩ [.ref a] [.ref a] _ _ hr e0 (aF J (.ref a)) (.cons rfl .nil) (aH H hO hS)) λr s' h=>?_
  cases r with
  |error e=>exact(aB H e s' h).elim
  |ok fl=>
    cases fl with
    |next=>exact False.elim h
    |brk=>exact False.elim h
    |cont=>exact False.elim h
    |ret u=>
      obtain⟨v,H',os,bare,un,a7,r',q⟩:=h;have q':v = .bl true:=q;subst q';obtain rfl:u=Value.bool true:=r'
      have a2:∀ p∈Ps,∃ ps,s'.heap.get? p=some (W.tabObj ps):=λp hp=>by obtain⟨more,z⟩:=un.tbls p _ (hO.1 p hp);exact ⟨_,a7 p _ z⟩
      have keep:∀ b o,b∉Ps->J.heap.get? b=some o->s'.heap.get? b=some o:=λb o hb e=>by
       cases q:H b with
       |none=>exact un.keep b o e q (by intro z;exact absurd (show b∈([]:List Addr) from z) (by simp)) (by simp)
       |some u=>
         rcases hO.2 b hb with z|⟨ob,xs,z⟩
         . rw[q] at z;cases z
         have z2:=un.frzs b ob _ z;obtain⟨e1,_⟩:=hok b _ z;obtain⟨e2,_⟩:=a7 b _ z2;rw[e] at e1;cases e1;exact e2
      refine⟨rfl,⟨λb o e=>?_,λb o e=>?_⟩,os,bare⟩
      . by_cases hb:b∈Ps
        . obtain⟨ps,hp⟩:=a2 b hb;obtain⟨c,hC⟩:=aC b hb;have hT:=(hC.tab (Y b hb)).isCodeTable;rw[Y b hb] at e
          cases e;exact .inr (.inl ⟨hT,rfl,#[],ps,rfl,by rw[Array.empty_append];exact hp⟩)
        exact .inl (keep b o hb e)
      by_cases hb:b∈Ps
      . obtain⟨ps,hp⟩:=a2 b hb;exact⟨_,hp⟩
      exact⟨o,keep b o hb e⟩
 cases hk:K.lookup a with
 |some o=>
   have e:=KX a o hk;rw[ha] at e
   cases e;refine a3 (λb=>if b∈Ps then some (.tbl #[]) else none) ⟨λp hp=>if_pos hp,λb hb=>.inl (if_neg hb)⟩ (.inr ⟨_,vs.toArray,_,hk,rfl,rfl,rfl,by rw[List.size_toArray,aI];exact hl,by simpa using rv⟩) (λb u z=>?_) (λb z=>?_) λz=>?_
   . by_cases hb:b∈Ps
     . have U:=(A0X hb).symm.trans z
       cases U;exact Y b hb
     have U:=(A0P hb).symm.trans z
     cases U
   . by_cases hb:b∈Ps
     . exact .inr hb
     exact absurd (A0P hb) z
   exact absurd (A0P a5) z
 |none=>
   refine a3 (λb=>if b=a then some (.frz {cls:=.type "list",data:=.seq vs.toArray} (.lst (ns.map V.int))) else if b∈Ps then some (.tbl #[]) else none) ⟨λp hp=>(A0P (λz:p=a=>a5 (z ▸ hp))).trans (A0X hp),λb hb=>?_⟩ (.inl (.inr ⟨{cls:=.type "list",data:=.seq vs.toArray},A0X rfl⟩)) (λb u z=>?_) (λb z=>?_) λ_=>hk
   . by_cases O:b=a
     . exact .inr ⟨_,_,A0X O⟩
     exact .inl ((A0P O).trans (A0P hb))
   . by_cases O:b=a
     . have U:=(A0X O).symm.trans z
       cases U;subst O;exact⟨ha,by rw[A01];exact hl,vs,_,rv,ha⟩
     have U:=(A0P O).symm.trans z
     by_cases hb:b∈Ps
     . have a1:=(A0X hb).symm.trans U
       cases a1;exact Y b hb
     have a1:=(A0P hb).symm.trans U
     cases a1
   by_cases O:b=a
   . exact .inl O
   by_cases hb:b∈Ps
   . exact .inr hb
   exact absurd ((A0P O).trans (A0P hb)) z
theorem walk_ofTs {l:W.OpenLaw}{n k:Nat}{q:Program}{loose:List Str}{XP:(Str->Option Value)->Heap->Prop}{Z:World->Heap->Prop}{d:DefRec}{K:Params->W.Frag}{CX:World->CXT}{sp:World->Sp}{x:Str}{Ps:List Addr}
  (hn:l.most=some n) (hn2:n<=sizeLine) (hdf:d.params.defaults=[]) (hr:Room k callerA)
  (hY:∀(w:World) (h:Heap),Z w h->(K w.params).In h) (hYT:∀(w:World) (h:Heap),Z w h->∀ p∈Ps,h.get? p=some (W.tabObj #[])) (hKP:∀(w:World),∀ p∈Ps,(K w.params).lookup p=none)
  (F:∀(w:World) (mg:Str->Option Value) (O:Addr) (h:Heap),(K w.params).In h->h.Ns mainGlobals mg->mg d.name=some (.ref O) ->
   ∃ fd:FuncData,(∀ p∈Ps,∃ c,W.codeHdIn (K w.params) c p=true)/\(∀(s:Shared) (u:Value),BindsTo s fd ⟨[u],[]⟩ [(x,u)]) /\
    ∀ base:Heap,(K w.params).In base->base.Ns mainGlobals mg->(∀ p∈Ps,base.BuiltinsAt mg p)->FnOk l.prog w (K w.params) mg base (CX w) k O fd [x] (sp w))
  (hsp:∀(w:World) (H:Hp) (a:Addr) (ns:List Int),ns.length<=n->ai8 Ps H->SqL (K w.params) H a (ns.map V.int)->sp w [.ref a] H (λv _=>v = .bl true) λ_ _ _=>False)
  (hCX:∀(w:World) (H:Hp) (s:Shared) (e:Value) (s':Shared),CX w [] H s (λ_ _ _=>False) e s'->False) :
  W.WalkO q loose XP Z l.row.toRowW d [] (λf vs=>PySem.call f vs):=by
 refine Att.attach_call hn hdf λw s₀ s₁ mg mb O o pm cd doc a vs ns G Y ho hd hcd hmg hobj hints hlen hg=>?_;have U:=hY w _ Y;have hPt:=hYT w _ Y
 have hBi:∀ p∈Ps,s₁.heap.BuiltinsAt mg p:=λp hp=>by
  obtain⟨bm,ob,b1,b2,J,b4,b5,b6⟩:=G.T.bmain;refine⟨bm,ob,b1,b2,λz=>?_,λz=>?_,J,b4,b5,b6⟩
  . obtain⟨o',es,ep,e,hd',_⟩:=G.T.g;rw[z,e] at J
    cases J;rw[hd'] at b6
    cases b6
  rw[z,hPt p hp] at J
  cases J
  cases b4
 obtain⟨fd,hC,hb,hF⟩:=F w mg O _ U G.T.g hmg
 have hCd:∀ p∈Ps,∃ c,W.CodeHd s₁.heap c p:=λp hp=>by obtain⟨c,h⟩:=hC p hp;exact⟨c,W.codeHd_of_K U h⟩
 exact Z1 U G.T.g G.T.b G.T.builtins G.T.nolimit hg hobj hints (A0O hlen hn2) hr hPt hCd (hKP w) hBi hF hb (λH hO hS=>hsp w H a ns hlen hO hS) λH e s'=>hCX w H s₁ e s'
theorem LamT.other {P Q:Addr}{line F Y O:Nat}{qual Z:Str}{H H':Hp}(h:LamT Q line F qual H)(U:LamT P Y O Z H)(J:P≠Q)(e:ExtBut P H H'):LamT Q line F qual H':=by
 have q:∃ ps,H P=some (.tbl ps):=by
  rcases U with h|⟨c,h,_⟩
  . exact⟨_,h⟩
  exact⟨_,h⟩
 obtain⟨ps,q⟩:=q;rcases h with h|⟨c,h1,h2⟩
 . exact .inl (e _ _ (Ne.symm J) h)
 refine .inr ⟨c,e _ _ (Ne.symm J) h1,e _ _ (λz=>?_) h2⟩;rw[z,q] at h2;unfold On at h2
 cases h2
def xF (K:W.Frag)(C B:Addr)(hf i0:Bool)(fs:List Str):Bool:=
 aW9 K C&&(W.findIn K (.ref C) "__setattr__" == some (some (.builtin "object.__setattr__")))&&(W.findIn K (.ref C) "__getattribute__" == some (some (.builtin "BaseException.__getattribute__"))) &&
 (W.findIn K (.ref C) "__getattr__" == some none)&&(W.findIn K (.ref C) "__class__" == some (some (.builtin "object.__class__")))&&(hf||aP9 K C B)&&W.keepIn K (.ref C)&&(!i0||az3 K C)&&fs.all λf=>W.findIn K (.ref C) f==some none
section
variable {K:W.Frag}{C B:Addr}{hf i0:Bool}{fs:List Str}
theorem at1 (h:xF K C B hf i0 fs=true):aW9 K C=true/\W.findIn K (.ref C) "__setattr__" = some (some (.builtin "object.__setattr__"))/\W.findIn K (.ref C) "__getattribute__" = some (some (.builtin "BaseException.__getattribute__"))/\W.findIn K (.ref C) "__getattr__" = some none/\W.findIn K (.ref C) "__class__" = some (some (.builtin "object.__class__"))/\(hf=true\/aP9 K C B=true)/\W.keepIn K (.ref C)=true/\(i0=true->az3 K C=true)/\∀ f∈fs,W.findIn K (.ref C) f=some none:=by unfold xF at h;simp only[Bool.and_eq_true,beq_iff_eq,Bool.or_eq_true,List.all_eq_true] at h;obtain⟨⟨⟨⟨⟨⟨⟨⟨h1,h2⟩,F⟩,J⟩,O⟩,U⟩,Y⟩,q⟩,Z⟩:=h;exact⟨h1,h2,F,J,O,U,Y,λz=>by rw[z] at q;simpa using q,Z⟩
theorem xF.kp (h:xF K C B hf i0 fs=true):W.keepIn K (.ref C)=true:=(at1 h).2.2.2.2.2.2.1
theorem xF.no (h:xF K C B hf true fs=true):az3 K C=true:=(at1 h).2.2.2.2.2.2.2.1 rfl
end
end L2
namespace K66
open PySem L2 PySem.Spec PyProof.Rows
def top (i:Nat):Stmt:=PySem.Challenge.pw_halforder_k66_steps_and_depths.main.body.getD i (.Pass ⟨0,0,0,0⟩)
abbrev Bg:Stmt:=top 8
theorem Gv:Aj ["half","asked","name"] ["half","asked"] (A4 Bg):=⟨rfl,rfl,rfl,by decide +kernel,rfl,by decide +kernel,by decide +kernel⟩
abbrev Cs:Stmt:=top 9
theorem Ch:Aj ["half","names","reach","saying","middle","name"] ["half"] (A4 Cs):=⟨rfl,rfl,rfl,by decide +kernel,rfl,by decide +kernel,by decide +kernel⟩
abbrev Jx:Stmt:=top 10
theorem Lk:Aj ["half","reach","pairs","one"] ["half"] (A4 Jx):=⟨rfl,rfl,rfl,by decide +kernel,rfl,by decide +kernel,by decide +kernel⟩
abbrev Bb:Stmt:=top 11
theorem K0:Aj ["reach","pair"] ["reach","pair"] (A4 Bb):=⟨rfl,rfl,rfl,by decide +kernel,rfl,by decide +kernel,by decide +kernel⟩
abbrev Qn:Stmt:=top 12
theorem af3:Aj ["half","reach"] ["half"] (A4 Qn):=⟨rfl,rfl,rfl,by decide +kernel,rfl,by decide +kernel,by decide +kernel⟩
abbrev Dv:Stmt:=top 13
theorem Rt:Aj ["reach","one","other"] ["reach","one","other"] (A4 Dv):=⟨rfl,rfl,rfl,by decide +kernel,rfl,by decide +kernel,by decide +kernel⟩
abbrev Eu:Stmt:=top 14
theorem Fp:Aj ["reach","names","pairs","place","one"] ["reach"] (A4 Eu):=⟨rfl,rfl,rfl,by decide +kernel,rfl,by decide +kernel,by decide +kernel⟩
abbrev Ju:Stmt:=top 15
theorem ah4:Aj ["half"] ["half"] (A4 Ju):=⟨rfl,rfl,rfl,by decide +kernel,rfl,by decide +kernel,by decide +kernel⟩
abbrev Hz:Stmt:=top 17
theorem Ht:Aj ["names","bits","bit","name"] ["names"] (A4 Hz):=⟨rfl,rfl,rfl,by decide +kernel,rfl,by decide +kernel,by decide +kernel⟩
abbrev Dq:Stmt:=top 18
theorem G9:Aj ["half","bits","reach","found","name"] ["half","bits"] (A4 Dq):=⟨rfl,rfl,rfl,by decide +kernel,rfl,by decide +kernel,by decide +kernel⟩
abbrev Me:Stmt:=top 20
theorem Yl:Aj ["half","ways"] ["half"] (A4 Me):=⟨rfl,rfl,rfl,by decide +kernel,rfl,by decide +kernel,by decide +kernel⟩
abbrev Bx:Stmt:=top 22
theorem Bn:Aj ["sayings","start","goal","ways","waiting","name","number","saying"] ["sayings","start","goal"] (A4 Bx):=⟨rfl,rfl,rfl,by decide +kernel,rfl,by decide +kernel,by decide +kernel⟩
abbrev Ib:Stmt:=top 24
theorem Zo:Aj ["names","sayings"] ["names","sayings"] (A4 Ib):=⟨rfl,rfl,rfl,by decide +kernel,rfl,by decide +kernel,by decide +kernel⟩
abbrev Qw:Stmt:=top 25
theorem a99:Aj ["half","name","other","back"] ["half","name","other"] (A4 Qw):=⟨rfl,rfl,rfl,by decide +kernel,rfl,by decide +kernel,by decide +kernel⟩
abbrev Ew:Stmt:=top 28
theorem Gy:Aj ["ways","left","number","still","name","rest"] ["ways","left","number"] (A4 Ew):=⟨rfl,rfl,rfl,by decide +kernel,rfl,by decide +kernel,by decide +kernel⟩
abbrev Gh:Stmt:=top 29
theorem Ph:Aj ["half","number","ways"] ["half","number"] (A4 Gh):=⟨rfl,rfl,rfl,by decide +kernel,rfl,by decide +kernel,by decide +kernel⟩
abbrev Ed:Stmt:=top 31
theorem Ek:Aj ["ways","comings","left","name","rest"] ["ways"] (A4 Ed):=⟨rfl,rfl,rfl,by decide +kernel,rfl,by decide +kernel,by decide +kernel⟩
abbrev Fj:Stmt:=top 32
theorem Bz:Aj ["half","ways","comings","found","left","name","rest","many","other"] ["half"] (A4 Fj):=⟨rfl,rfl,rfl,by decide +kernel,rfl,by decide +kernel,by decide +kernel⟩
abbrev Ff:Stmt:=top 33
theorem Mu:Aj ["half","shares"] ["half"] (A4 Ff):=⟨rfl,rfl,rfl,by decide +kernel,rfl,by decide +kernel,by decide +kernel⟩
abbrev Qp:Stmt:=top 34
theorem ag5:Aj ["half","found"] ["half"] (A4 Qp):=⟨rfl,rfl,rfl,by decide +kernel,rfl,by decide +kernel,by decide +kernel⟩
abbrev Cq:Stmt:=top 36
theorem Rx:Aj ["plan","askings"] ["plan","askings"] (A4 Cq):=⟨rfl,rfl,rfl,by decide +kernel,rfl,by decide +kernel,by decide +kernel⟩
abbrev Lw:Stmt:=top 37
theorem am1:Aj ["plan"] ["plan"] (A4 Lw):=⟨rfl,rfl,rfl,by decide +kernel,rfl,by decide +kernel,by decide +kernel⟩
abbrev Cp:Stmt:=top 38
theorem Gb:Aj ["half","question","one","other"] ["half"] (A4 Cp):=⟨rfl,rfl,rfl,by decide +kernel,rfl,by decide +kernel,by decide +kernel⟩
abbrev Hu:Stmt:=top 39
theorem Z8:Aj ["half"] ["half"] (A4 Hu):=⟨rfl,rfl,rfl,by decide +kernel,rfl,by decide +kernel,by decide +kernel⟩
abbrev Cz:Stmt:=top 41
theorem Pt:Aj ["thing","size"] ["thing","size"] (A4 Cz):=⟨rfl,rfl,rfl,by decide +kernel,rfl,by decide +kernel,by decide +kernel⟩
abbrev By:Stmt:=top 43
theorem M6:Aj ["reach","one","other"] ["reach","one","other"] (A4 By):=⟨rfl,rfl,rfl,by decide +kernel,rfl,by decide +kernel,by decide +kernel⟩
abbrev Er:Stmt:=top 44
theorem Vj:Aj ["reach"] ["reach"] (A4 Er):=⟨rfl,rfl,rfl,by decide +kernel,rfl,by decide +kernel,by decide +kernel⟩
abbrev Cf:Stmt:=top 45
theorem Nk:Aj ["reach"] ["reach"] (A4 Cf):=⟨rfl,rfl,rfl,by decide +kernel,rfl,by decide +kernel,by decide +kernel⟩
abbrev Dy:Stmt:=top 46
theorem G6:Aj ["reach","one","other","more","found","name"] ["reach","one","other"] (A4 Dy):=⟨rfl,rfl,rfl,by decide +kernel,rfl,by decide +kernel,by decide +kernel⟩
abbrev Fk:Stmt:=top 48
theorem Tg:Aj ["thing"] ["thing"] (A4 Fk):=⟨rfl,rfl,rfl,by decide +kernel,rfl,by decide +kernel,by decide +kernel⟩
abbrev Jn:Stmt:=top 49
theorem ah1:Aj ["thing"] ["thing"] (A4 Jn):=⟨rfl,rfl,rfl,by decide +kernel,rfl,by decide +kernel,by decide +kernel⟩
abbrev Gi:Stmt:=top 50
theorem W8:Aj ["reach","plan"] ["reach","plan"] (A4 Gi):=⟨rfl,rfl,rfl,by decide +kernel,rfl,by decide +kernel,by decide +kernel⟩
abbrev Fb:Stmt:=top 51
theorem Iv:Aj ["reach","plan","path","word","first","second"] ["reach","plan","path"] (A4 Fb):=⟨rfl,rfl,rfl,by decide +kernel,rfl,by decide +kernel,by decide +kernel⟩
abbrev Ex:Stmt:=top 52
theorem Tt:Aj ["half","plan"] ["half","plan"] (A4 Ex):=⟨rfl,rfl,rfl,by decide +kernel,rfl,by decide +kernel,by decide +kernel⟩
abbrev Fe:Stmt:=top 54
theorem Vb:Aj ["_law_script"] ["_law_script"] (A4 Fe):=⟨rfl,rfl,rfl,by decide +kernel,rfl,by decide +kernel,by decide +kernel⟩
abbrev Fa:Stmt:=top 55
theorem Fu:Aj ["_law_feed_here","_law_many","_law_cell","_law_mixed","_law_found"] ["_law_feed_here","_law_many"] (A4 Fa):=⟨rfl,rfl,rfl,by decide +kernel,rfl,by decide +kernel,by decide +kernel⟩
abbrev Dt:Stmt:=top 56
theorem Av:Aj ["_law_feed_here","_law_many","_law_letters","_law_start","_law_way","_law_size","_law_at","_law_names_here","_law_head","_law_tail","_law_turn"] ["_law_feed_here","_law_many"] (A4 Dt):=⟨rfl,rfl,rfl,by decide +kernel,rfl,by decide +kernel,by decide +kernel⟩
abbrev C5:Stmt:=top 57
theorem Dj:Aj ["_law_feed_here","_law_some","_law_left","_law_found","_law_k"] ["_law_feed_here","_law_some"] (A4 C5):=⟨rfl,rfl,rfl,by decide +kernel,rfl,by decide +kernel,by decide +kernel⟩
abbrev Ec:Stmt:=top 58
theorem B4:Aj ["_law_feed_here","_law_line","_law_many","_law_way","_law_found","_law_k","_law_at","_law_cut","_law_one"] ["_law_feed_here","_law_line"] (A4 Ec):=⟨rfl,rfl,rfl,by decide +kernel,rfl,by decide +kernel,by decide +kernel⟩
abbrev Cg:Stmt:=top 59
theorem En:Aj ["_law_feed_here","_law_line","_law_found","_law_pair","_law_turn"] ["_law_feed_here","_law_line"] (A4 Cg):=⟨rfl,rfl,rfl,by decide +kernel,rfl,by decide +kernel,by decide +kernel⟩
abbrev Et:Stmt:=top 60
theorem Mr:Aj ["_law_feed_here","_law_most","_law_names_here"] ["_law_feed_here","_law_most"] (A4 Et):=⟨rfl,rfl,rfl,by decide +kernel,rfl,by decide +kernel,by decide +kernel⟩
abbrev Cw:Stmt:=top 61
theorem Bk:Aj ["_law_half_here","_law_rows","_law_k","_law_longer","_law_row","_law_left","_law_later"] ["_law_half_here"] (A4 Cw):=⟨rfl,rfl,rfl,by decide +kernel,rfl,by decide +kernel,by decide +kernel⟩
abbrev Ea:Stmt:=top 62
theorem Le:Aj ["_law_orders_here","_law_one","_law_other","_law_ahead"] ["_law_orders_here","_law_one","_law_other"] (A4 Ea):=⟨rfl,rfl,rfl,by decide +kernel,rfl,by decide +kernel,by decide +kernel⟩
abbrev Bw:Stmt:=top 63
theorem Bm:Aj ["_law_names_here","_law_orders_here","_law_found","_law_k","_law_other","_law_ahead","_law_hind"] ["_law_names_here","_law_orders_here"] (A4 Bw):=⟨rfl,rfl,rfl,by decide +kernel,rfl,by decide +kernel,by decide +kernel⟩
abbrev Gg:Stmt:=top 64
theorem B5:Aj ["_law_feed_here","_law_names_here","_law_left","_law_level","_law_sayings_here","_law_many","_law_size","_law_fresh","_law_one"] ["_law_feed_here"] (A4 Gg):=⟨rfl,rfl,rfl,by decide +kernel,rfl,by decide +kernel,by decide +kernel⟩
abbrev Dn:Stmt:=top 65
theorem Dx:Aj ["_law_feed_here","_law_names_here","_law_orders_here","_law_some","_law_pair","_law_ahead","_law_hind","_law_first"] ["_law_feed_here","_law_names_here","_law_orders_here"] (A4 Dn):=⟨rfl,rfl,rfl,by decide +kernel,rfl,by decide +kernel,by decide +kernel⟩
abbrev Fi:Stmt:=top 66
theorem Fo:Aj ["_law_plan_here","_law_found","_law_left","_law_here","_law_many"] ["_law_plan_here"] (A4 Fi):=⟨rfl,rfl,rfl,by decide +kernel,rfl,by decide +kernel,by decide +kernel⟩
abbrev Dz:Stmt:=top 67
theorem J0:Aj ["_law_half_here","_law_plan_here","_law_many","_law_ends_here","_law_deep"] ["_law_half_here","_law_plan_here","_law_many"] (A4 Dz):=⟨rfl,rfl,rfl,by decide +kernel,rfl,by decide +kernel,by decide +kernel⟩
abbrev Sl:Stmt:=top 68
theorem Qs:Aj ["_law_script","_law_feed_here","_law_half_here","_law_orders_here","_law_plans","_law_plan_here"] ["_law_script"] (A4 Sl):=⟨rfl,rfl,rfl,by decide +kernel,rfl,by decide +kernel,by decide +kernel⟩
abbrev Ez:Stmt:=We (top 19) 0
theorem W2:Aj ["self","half"] ["self","half"] (A4 Ez):=⟨rfl,rfl,rfl,by decide +kernel,rfl,by decide +kernel,by decide +kernel⟩
abbrev Bl:Stmt:=We (top 19) 1
theorem L5:Aj ["self","left"] ["self","left"] (A4 Bl):=⟨rfl,rfl,rfl,by decide +kernel,rfl,by decide +kernel,by decide +kernel⟩
abbrev C2:Stmt:=We (top 19) 2
theorem Nr:Aj ["self","left"] ["self","left"] (A4 C2):=⟨rfl,rfl,rfl,by decide +kernel,rfl,by decide +kernel,by decide +kernel⟩
structure Eo (mg:Str->Option Value):Prop where
 g_MOST_LISTED:∃ u,mg "MOST_LISTED" = some u/\RelV (.int 720) u
 b_any:mg "any" = none
 b_dict:mg "dict" = none
 b_enumerate:mg "enumerate" = none
 b_int:mg "int" = none
 b_isinstance:mg "isinstance" = none
 b_len:mg "len" = none
 b_list:mg "list" = none
 b_max:mg "max" = none
 b_min:mg "min" = none
 b_range:mg "range" = none
 b_repr:mg "repr" = none
 b_reversed:mg "reversed" = none
 b_sorted:mg "sorted" = none
 b_str:mg "str" = none
 b_sum:mg "sum" = none
 b_tuple:mg "tuple" = none
structure El (K:W.Frag)(C:Addr):Prop where
 cl:Cls K C
 n_names:NoAttr K C "names"
 n_bits:NoAttr K C "bits"
 n_ahead:NoAttr K C "ahead"
 n_full:NoAttr K C "full"
 n_known:NoAttr K C "known"
section
variable {P:Program}{w:World}{K:W.Frag}{mg:Str->Option Value}{base:Heap}
local macro_rules | `(tactic| walk_at "lk") => L2.mRows "as | Same.lk e h: e=as h=lk | ExtBut.lk e h n: e=as n=ne h=lk | no"
local macro_rules | `(tactic| walk_at "ne") => L2.mRows "as | Ne.symm q: q=as | ne_of_none h g: g=as h=lk | ne_none2 h g: g=as h=lk | ne_of h g z: h=as g=as z=nc | no"
local macro_rules | `(tactic| walk_at "nc") => `(tactic| (intro z; cases z))
local macro_rules | `(tactic| walk_at "fr") => L2.mRows "ExtBut.refl | ExtBut.trans a b: b=as a=fr | ExtBut.same a b: b=as a=fr | ExtBut.off a q b: b=as q=as a=fr | no"
local macro_rules | `(tactic| walk_at "sm") => L2.mRows "same_refl | Same.trans a b: b=as a=sm | Same.off a q b: b=as q=as a=sm | no"
local macro_rules | `(tactic| walk_at "fd") => L2.mRows "as | Feed.same h e: e=as h=fd | Feed.off h e q f: e=as q=as f=as h=fd | no"
local macro_rules | `(tactic| walk_at "fz1") => L2.mRows "Same.fz b: b=as | ExtBut.fzL b l: b=as l=lk | ExtBut.fzD b l: b=as l=lk | Feed.fz f b: b=as f=fd | no"
local macro_rules | `(tactic| walk_at "fz") => L2.mRows "fz_refl | Fz.trans a x: x=fz1 a=fz | no"
local macro_rules | `(tactic| walk_at "sd") => `(tactic| first | omega | (show (0 : Int) < _; omega) | (unfold aS8; omega) | (unfold CMul; omega) | (unfold aR2; omega) | (unfold aR2; decide) | (refine ⟨?_, ?_⟩ <;> omega) | decide)
local macro_rules | `(tactic| walk_at "sz") => `(tactic| first | decide | exact A9 (by omega) | (rw [sizeLine_eq]; omega))
local macro_rules | `(tactic| walk_at "kv") => `(tactic| rfl)
local macro_rules | `(tactic| walk_at "rq1") => do
 let a <- L2.mAlts "i_asg i_gname i_ret i_drop i_if i_op i_un i_call i_cb i_cons i_nil i_c i_put i_tTest i_tB i_not i_and i_or i_tup i_lst i_next i_sl i_noPart i_part i_int i_for i_rng1 i_rng2 i_comp i_itS i_iany i_ienum i_ienumL i_irev i_chain i_andV i_orV i_notV i_dget1 i_tAt i_sSt i_tMe i_tMk i_tTru i_dget2 i_iDT i_bmT i_rU i_rI0 i_addI i_bl i_bm i_bm0 i_reprKB i_isN i_isNotN i_isB i_isNotB i_true i_tyS i_find i_intB i_inS i_pair i_pair0 iteR iteNR iteNbb itebb iteT iteF iteNT iteNF"
 let b <- L2.mRows "i_var w _: w=kv | i_rI w _: w=sd | i_mulBI w _: w=sd | i_tyLm w _: w=lk | i_ixD w v _: w=lk v=kv | i_eqS w _: w=kv | i_neS w _: w=kv | i_slS w _: w=sz | i_addS w _: w=sz | i_lenS w _: w=sz | i_lenL w _: w=lk | i_lenT w _: w=lk | i_cutN w _: w=ar"
 let c <- L2.mAltG "i_seqAG i_seqDG i_seqPG"
 `(tactic| first | $c:tactic | $a:tactic | $b:tactic)
local macro_rules | `(tactic| walk_at "rd1") => `(tactic| first | with_reducible refine aM6 fun N hN => ?_ | walk_at "rq1")
local macro_rules | `(tactic| walk_at "rq") => `(tactic| repeat (walk_at "rq1"))
local macro_rules | `(tactic| walk_at "rd") => `(tactic| repeat (walk_at "rd1"))
def Fw (l:Addr)(a t u:Int):List (Key×V):=[(Sum.inr "cells",.ref l),(Sum.inr "at",.int a),(Sum.inr "left",.int t),(Sum.inr "turn",.int u)]
def Feed (H:Hp)(d l:Addr):Prop:=∃(a t u:Int) (ns:List Int),H d=some (.dK (Fw l a t u))/\H l=some (.lst (ns.map V.int))/\0<ns.length/\ns.length<=64
def Jf (K:W.Frag):Sp:=λvs H Q _=>∃(a:Addr) (ns:List Int),vs=[.ref a]/\SqL K H a (ns.map V.int)/\ns.length<=63/\∀ d l H',H d=none->H l=none->Same H H'->Feed H' d l->Q (.ref d) H'
def Bj (K:W.Frag):Sp:=λvs H Q _=>∃ d l n,vs=[.ref d,.int n]/\Feed H d l/\0<n/\n<1073741824/\∀ r H',0<=r->r<n->ExtBut d H H'->Feed H' d l->Q (.int r) H'
theorem an0 {l:Addr}{a t u:Int}:Ck (Fw l a t u) (Sum.inr "cells":Key)=some (.ref l):=by rfl
theorem aT6 {l:Addr}{a t u:Int}:Ck (Fw l a t u) (Sum.inr "at":Key)=some (.int a):=by rfl
theorem au2 {l:Addr}{a t u:Int}:Ck (Fw l a t u) (Sum.inr "left":Key)=some (.int t):=by rfl
theorem aC7 {l:Addr}{a t u:Int}:Ck (Fw l a t u) (Sum.inr "turn":Key)=some (.int u):=by rfl
local macro_rules | `(tactic| walk_at "kv") => `(tactic| first | exact an0 | exact aT6 | exact au2 | exact aC7 | rfl)
theorem ak1 {l:Addr}{a t u x:Int}:Ge (Fw l a t u) (Sum.inr "turn":Key) (.int x)=Fw l a t x:=by rfl
theorem aG3 {l:Addr}{a t u x:Int}:Ge (Fw l a t u) (Sum.inr "at":Key) (.int x)=Fw l x t u:=by rfl
theorem R7 {l:Addr}{a t u x:Int}:Ge (Fw l a t u) (Sum.inr "left":Key) (.int x)=Fw l a x u:=by rfl
theorem Feed.same {H H':Hp}{d l:Addr}(h:Feed H d l)(e:Same H H'):Feed H' d l:=let ⟨a,t,u,ns,h1,h2,h3,h4⟩:=h;⟨a,t,u,ns,e _ _ h1,e _ _ h2,h3,h4⟩
theorem Feed.put {H H':Hp}{d l p:Addr}(h:Feed H d l)(e:ExtBut p H H')(hd:d≠p)(q:l≠p):Feed H' d l:=let ⟨a,t,u,ns,h1,h2,h3,h4⟩:=h;⟨a,t,u,ns,e _ _ hd h1,e _ _ q h2,h3,h4⟩
theorem Feed.nd {H:Hp}{d l p:Addr}(h:Feed H d l)(hp:H p=none):d≠p:=let ⟨_,_,_,_,h1,_⟩:=h;ne_of_none h1 hp
theorem Feed.nl {H:Hp}{d l p:Addr}(h:Feed H d l)(hp:H p=none):l≠p:=let ⟨_,_,_,_,_,h2,_⟩:=h;ne_of_none h2 hp
theorem Feed.lst {H:Hp} {d l b:Addr} {xs:List V} (h:Feed H d l) (hb:H b=some (.lst xs)):b≠d:=let ⟨_,_,_,_,h1,_⟩:=h;ne_of hb h1 (by intro z;cases z)
theorem Feed.free {H H':Hp}{d l p:Addr}(h:Feed H' d l)(e:ExtBut d H H')(hp:H' p=none):H p=none:=by
 cases hq:H p with
 |none=>rfl
 |some o=>
   obtain⟨_,_,_,_,h1,_⟩:=h;have n:p≠d:=λq=>by subst q;rw[hp] at h1;cases h1
   rw[e p o n hq] at hp
   cases hp
theorem Feed.fz {H H':Hp}{d l:Addr}(h:Feed H d l)(e:ExtBut d H H'):Fz H H':=let ⟨_,_,_,_,h1,_⟩:=h;e.fzD h1
theorem Feed.off {H H1 H2:Hp}{d l q:Addr}(h:Feed H1 d l)(e:ExtBut q H1 H2)(J:H q=none)(F:Feed H d l):Feed H2 d l:=h.put e (F.nd J) (F.nl J)
theorem Tv {f:Addr}{fd:FuncData}(F:Fun K "_law_draw" "_law_draw" Fa f fd)(T:Eo mg):FnOk P w K mg base CX0 1 f fd ["_law_feed_here","_law_many"] (Bj K):=by
 refine F.ok Fu (λvs H Q E h=>?_) (λaA A outer s H vs Q E hr h=>?_)
 . obtain⟨d,l,n,rfl,_⟩:=h;rfl
 obtain⟨d,l,n,rfl,⟨a,t,u,ns,hd,hl,Z,a0⟩,hn,aC,k⟩:=h;have hu:=Bf hr;have hq:=Be hr;have O:l≠d:=ne_of hl hd (by intro z;cases z)
 with_reducible refine⟨_,(A3 (Fh hu (pv 0) B0 (Ap (Al (K:=K)) (Ad (A6 (K:=K) hu) (pv 0) B0 (by ac_rfl)) A5) ⋯)
  (A3 (Cj (Ak (Cn (K:=K) hq) (Ad (A6 (K:=K) hu) (pv 0) B0 (by ac_rfl)) A5 (Aw _)) (A3 (Aa (i:=2) Fu.nd ⋯ (by eq_refl) (Ad (A6 (K:=K) hu) (Ad (A6 (K:=K) hu) (pv 0) B0 (by ac_rfl)) (Ap Mq (Ad (A6 (K:=K) hu) (pv 0) B0 (by ac_rfl)) (Aq (B8 (K:=K)) ⋯ T.b_len PyProof.Rows.Boot.«len» (A1 (Ad (A6 (K:=K) hu) (pv 0) B0 (by ac_rfl)) A2))) (by ac_rfl)))
  (A3 (Fh hu (pv 0) B0 (Ap (Al (K:=K)) (Ad (A6 (K:=K) hu) (pv 0) B0 (by ac_rfl)) A5) ⋯)
  (A3 (Cj (Ak Zs (pv 2) (Ap aJ0 A5 A5) (Aw _)) (A3 (Aa (i:=3) Fu.nd ⋯ (by eq_refl) (Ap Mq (Ap Do (Ap (Al (K:=K)) (Ap Mq (pv 2) A5) (Ap Do A5 (Ad (A6 (K:=K) hu) (pv 0) B0 (by ac_rfl)))) A5) A5))
  (A3 (Aa (i:=3) Fu.nd ⋯ (by eq_refl) (Ap Mq (Ap Do (Ap (Al (K:=K)) (Ap My (pv 3) A5) (Ap Do A5 (Ad (A6 (K:=K) hu) (pv 0) B0 (by ac_rfl)))) A5) A5))
  (A7 (An (Ap Mq (Ap My (pv 3) A5) (pv 1)))))) Ay)
  (A7 (Fh hu (pv 0) B0 (pv 2) ⋯))))) Ay)
  (A3 (Aa (i:=4) Fu.nd ⋯ (by eq_refl) (Ap Mq (Ad (A6 (K:=K) hu) (pv 0) B0 (by ac_rfl)) (pv 1)))
  (A3 (Fh hu (pv 0) B0 (Ap My (Ad (A6 (K:=K) hu) (pv 0) B0 (by ac_rfl)) (pv 1)) ⋯)
  (A7 (An (pv 4))))))),?_⟩
 symm
 refine J3 hd (by show 4<1000;decide) λH1 U a1=>?_;rw[ak1] at a1;have a2:H1 l=some (.lst (ns.map V.int)):=U _ _ O hl
 symm
 refine aW2 (λht=>?_) (λht=>?_)
 . symm
   have a5:(0:Int)<((ns.map V.int).length:Nat):=by rw[A01];omega
   refine i_rI a5 ?_;have a9:0<=a % (((ns.map V.int).length:Nat):Int):=A48 _ ∅;have aB:=A3O a a5
   obtain⟨c,hc⟩:∃ c,(ns.map V.int)[(a % (((ns.map V.int).length:Nat):Int)).toNat]? = some (V.int c):=by refine⟨ns[(a % (((ns.map V.int).length:Nat):Int)).toNat]'(by rw[A01] at *;omega),?_⟩;rw[A07,A03];rfl
   refine Kq a2 (by have:=Fd hc;rwa[A3F a9] at this) ?_
   symm
   refine J3 a1 (by show 4<1000;decide) λH2 q J=>?_;rw[aG3] at J;have Y:H2 l=some (.lst (ns.map V.int)):=q _ _ O a2
   symm
   refine aW2 (λa6=>?_) (λa6=>?_)
   . symm
     exact k _ H2 (A48 _ ∅) (A3O _ hn) (U.trans q) ⟨_,_,_,ns,J,Y,Z,a0⟩
   symm
   refine J3 J (by show 4<1000;decide) λH3 e3 a3=>?_;rw[R7] at a3;have a7:H3 l=some (.lst (ns.map V.int)):=e3 _ _ O Y
   symm
   refine J3 a3 (by show 4<1000;decide) λH4 e4 a4=>?_;rw[R7] at a4;have a8:H4 l=some (.lst (ns.map V.int)):=e4 _ _ O a7
   symm
   exact k _ H4 (A48 _ ∅) (A3O _ hn) (((U.trans q).trans e3).trans e4) ⟨_,_,_,ns,a4,a8,Z,a0⟩
 symm
 refine J3 a1 (by show 4<1000;decide) λH2 q J=>?_;rw[R7] at J;have Y:H2 l=some (.lst (ns.map V.int)):=q _ _ O a2
 symm
 exact k _ H2 (A48 _ ∅) (A3O _ hn) (U.trans q) ⟨_,_,_,ns,J,Y,Z,a0⟩
theorem a07 (ns:List Int)(h:ns.length<=63):∃ ms:List Int,R6 (ns.map V.int) none (some 63)++(List.replicate (if(PyData.list (ns.map PyData.int)).eqv (PyData.list (([]:List Int).map PyData.int))=true then(1:Int) else 0).toNat [V.int 0]).flatten=ms.map V.int/\0<ms.length/\ms.length<=64:=by
 have q:R6 (ns.map V.int) none (some 63)=ns.map V.int:=by
  unfold R6
  have e:HT.sIx (ns.map V.int).length (ns.map V.int).length (some 63)=(ns.map V.int).length:=by have:=HT.sIx_nat (ns.map V.int).length (ns.map V.int).length 63;rw[A01] at *;rw[show((63:Nat):Int)=(63:Int) from rfl] at this;rw[this];omega
  rw[HT.sIx_none,e,List.drop_zero,Nat.sub_zero,A0W]
 rw[q]
 cases ns with
 |nil=>exact⟨[0],by simp[PyData.eqv,PyData.eqvAll],by decide,by decide⟩
 |cons n r=>exact⟨n :: r,by simp[PyData.eqv,PyData.eqvAll],by simp,by omega⟩
theorem Uq {f:Addr}{fd:FuncData}(F:Fun K "_law_feed" "_law_feed" Fe f fd)(T:Eo mg):FnOk P w K mg base CX0 1 f fd ["_law_script"] (Jf K):=by
 refine F.ok Vb (λvs H Q E h=>?_) (λa7 A outer s H vs Q E hr h=>?_)
 . obtain⟨a,ns,rfl,_⟩:=h;rfl
 obtain⟨a,ns,rfl,hS,a0,k⟩:=h;have hu:=Bf hr;have hq:=Be hr
 with_reducible refine⟨_,(A7 (An (Rv (Ix B0 (Ap (Al (K:=K)) (B1 (Qu (K:=K)) ⋯ T.b_list PyProof.Rows.Boot.«list» (A1 (C8 (X5 (K:=K)) (pv 0) Gz (C9 A5)) A2)) (Ap Do (Bv (A1 A5 A2)) (B1 Vd ⋯ T.b_int PyProof.Rows.Boot.«int» (A1 (Fl (Cn (K:=K) hq) (pv 0) (Bv A2) (Aw _)) A2)))) (Ix B0 A5 (Ix B0 A5 (Ix B0 A5 Sn)))) ⋯ ⋯ nofun nofun))),?_⟩
 symm
 refine Xi λp H1 hp J a8=>?_
 symm
 have a1:=J.seq hS;refine Nm a1 λq H2 a9 O a2=>?_
 symm
 refine av7 (SqL.of a2) λr H3 aA U aB=>?_
 symm
 refine Bu nofun λz H4 aE Y aF=>?_
 symm
 refine Bu nofun λy H5 aD Z a6=>?_;refine aH7 (Yv (Z.seq (Y.seq (U.seq (O.seq a1))))) (Yv (ns:=[]) (SqL.of a6)) (W.ke_shaped_ints ns) (W.ke_shaped_ints []) ?_
 symm
 refine aD3 (xs:=[V.int 0]) (by walk_at "lk") ?_ ?_ λx H6 aC e6 a5=>?_
 . split<;>omega
 . split<;>decide
 refine Ys (xs:=R6 (ns.map V.int) none (some 63)) (by walk_at "lk") a5 ?_ λv H7 a3 e7 a4=>?_
 . obtain⟨ms,e,h1,h2⟩:=a07 ns a0;rw[<- A06,e,A01];exact A0O h2 nofun
 symm
 refine Rs [(Sum.inr "cells",.ref v),(Sum.inr "at",.int 0),(Sum.inr "left",.int 0),(Sum.inr "turn",.int 0)] (by walk_at "lk") (by rfl) (by show 4<=15;decide) λH8 e8 h8=>?_;have en:H8 p=some (.dK (Fw v 0 0 0)):=h8;refine k p v H8 hp ?_ ?_ ⟨0,0,0,?_⟩
 . exact J.free (O.free (U.free (Y.free (Z.free (e6.free a3)))))
 . exact λb o hb=>e8 b o (ne_of_none hb hp) (e7 _ _ (e6 _ _ (Z _ _ (Y _ _ (U _ _ (O _ _ (J _ _ hb)))))))
 obtain⟨ms,e,h1,h2⟩:=a07 ns a0;rw[e] at a4;exact⟨ms,en,by walk_at "lk",h1,h2⟩
def Ga (K:W.Frag):Sp:=λvs H Q _=>∃ d l n,vs=[.ref d,.int n]/\Feed H d l/\0<=n/\n<=10/\∀ p ns H',H p=none->ExtBut d H H'->Feed H' d l->H' p=some (.lst (ns.map V.str))->Names ns->ns.length=n.toNat->Q (.ref p) H'
def MN (H:Hp)(d l:Addr)(n st way sz at':Int):L2.St->Hp->Prop:=fun σ' H'=>∃ p ns q F,σ'=[some (V.ref d),some (.int n),some (.str LL),some (.int st),some (.int way),some (.int (1+sz)),some (.int at'),some (.ref p),q,F,none]/\H p=none/\ExtBut d H H'/\Feed H' d l/\H' p=some (.lst (ns.map V.str))/\Names ns/\ns.length=10
theorem Ro {f:Addr}{fd:FuncData}(F:Fun K "_law_names" "_law_names" Dt f fd)(T:Eo mg)(U:Fnd P w K mg base 1 "_law_draw" ["_law_feed_here","_law_many"] (Bj K)):FnOk P w K mg base CX0 2 f fd ["_law_feed_here","_law_many"] (Ga K):=by
 refine F.ok Av (λvs H Q E h=>?_) (λbJ A outer s H vs Q E O h=>?_)
 . obtain⟨d,l,n,rfl,_⟩:=h;rfl
 obtain⟨d,l,n,rfl,hF,b2,bV,k⟩:=h;have hu:=Bf O;have hq:=Be O
 with_reducible refine⟨_,(A3 (Aa (i:=2) Av.nd ⋯ (by with_unfolding_all exact A3I rfl) (Ap Do B0 A5))
  (A3 (Aa (i:=3) Av.nd ⋯ (by with_unfolding_all exact A3I rfl) (Ao U (O.mono nofun) ⋯ (A1 (pv 0) (A1 A5 A2))))
  (A3 (Aa (i:=4) Av.nd ⋯ (by eq_refl) (Ao U (O.mono nofun) ⋯ (A1 (pv 0) (A1 A5 A2))))
  (A3 (Aa (i:=5) Av.nd ⋯ (by eq_refl) (Ap (Al (K:=K)) A5 (Ao U (O.mono nofun) ⋯ (A1 (pv 0) (A1 A5 A2)))))
  (A3 (Aa (i:=6) Av.nd ⋯ (by eq_refl) (Ao U (O.mono nofun) ⋯ (A1 (pv 0) (A1 (pv 5) A2))))
  (A3 (Aa (i:=7) Av.nd ⋯ (by eq_refl) (Bv (A1 B0 (A1 B0 (A1 B0 (A1 B0 (A1 B0 (A1 B0 (A1 B0 (A1 B0 (A1 B0 (A1 B0 A2))))))))))))
  (A3 (Cj (Ak (Cn (K:=K) hq) (pv 4) A5 (Aw _)) (A7 (Aa (i:=7) Av.nd ⋯ (by eq_refl) (Ap (Al (K:=K)) (Cb ["_law_k"] ["_law_letters","_law_start"] [2,3] ⋯ ⋯ ⋯ (Ei ⋯ T.b_range (A1 A5 A2)) (λ_ _ _ _=>(Ag (i:=0) (by with_unfolding_all (show(["_law_k","_law_letters","_law_start"]:List Str).Nodup;decide +kernel)) ⋯ (by eq_refl))) (Bq nofun) (λ_ _ _ _=>G1) (λ_ _ _ _=>(C8 (X5 (K:=K)) (pv 1) (C9 (pv 2)) (C9 (Ap (Al (K:=K)) (Ap (Al (K:=K)) (pv 2) A5) (pv 0)))))) (Bv (A1 (Ad (A6 (K:=K) hu) (pv 2) (Ap (Al (K:=K)) (pv 3) A5) (by ac_rfl)) (A1 (Ad (A6 (K:=K) hu) (pv 2) (Ap (Al (K:=K)) (pv 3) A5) (by ac_rfl)) A2)))))) Ay)
  (A3 (Cj (Ak (Cn (K:=K) hq) (pv 4) A5 (Aw _)) (A3 (Aa (i:=8) Av.nd ⋯ (by with_unfolding_all exact A3I rfl) (C8 (X5 (K:=K)) (pv 2) (C9 (pv 3)) (C9 (Ap (Al (K:=K)) (pv 3) (pv 6)))))
  (A3 (Aa (i:=9) Av.nd ⋯ (by with_unfolding_all exact A3I rfl) (C8 (X5 (K:=K)) (pv 2) (C9 (Ap (Al (K:=K)) (Ap (Al (K:=K)) (pv 3) (pv 6)) A5)) (C9 (Ap (Al (K:=K)) (pv 3) (pv 5)))))
  (A7 (Ia (i:=7) ["_law_k"] ["_law_head","_law_letters","_law_start","_law_tail"] [8,2,3,9] ⋯ ⋯ ⋯ Av.nd ⋯ ⋯ (Ei ⋯ T.b_range (A1 A5 A2)) (λ_ _ _ _=>(Ag (i:=0) (by with_unfolding_all (show(["_law_k","_law_head","_law_letters","_law_start","_law_tail"]:List Str).Nodup;decide +kernel)) ⋯ (by eq_refl))) (Bq nofun) (λ_ _ _ _=>G1) (λ_ _ _ _=>(Ap (Al (K:=K)) (Ap (Al (K:=K)) (pv 1) (Ad (A6 (K:=K) hu) (pv 2) (Ap (Al (K:=K)) (pv 3) (Ap Mq (Ap Do A5 (pv 0)) A5)) (by ac_rfl))) (pv 4))))))) Ay)
  (A3 (Cj (Ak (Cn (K:=K) hq) (pv 4) A5 (Aw _)) (A7 (Ia (i:=7) ["_law_k"] ["_law_letters","_law_start"] [2,3] ⋯ ⋯ ⋯ Av.nd ⋯ ⋯ (Ei ⋯ T.b_range (A1 A5 A2)) (λ_ _ _ _=>(Ag (i:=0) (by with_unfolding_all (show(["_law_k","_law_letters","_law_start"]:List Str).Nodup;decide +kernel)) ⋯ (by eq_refl))) (Bq nofun) (λ_ _ _ _=>G1) (λ_ _ _ _=>(C8 (X5 (K:=K)) (pv 1) (C9 (Ap (Al (K:=K)) (pv 2) (pv 0))) (C9 (Ap (Al (K:=K)) (Ap (Al (K:=K)) (Ap (Al (K:=K)) (pv 2) (pv 0)) A5) (Ap Mq (Ap Do A5 (pv 0)) A5))))))) Ay)
  (A3 (Aa (i:=10) Av.nd ⋯ (by eq_refl) (Ao U (O.mono nofun) ⋯ (A1 (pv 0) (A1 A5 A2))))
  (A3 (Aa (i:=7) Av.nd ⋯ (by eq_refl) (Ap (Al (K:=K)) (C8 (X5 (K:=K)) (pv 7) (C9 (pv 10)) Gz) (C8 (X5 (K:=K)) (pv 7) Gz (C9 (pv 10)))))
  (A7 (An (Th (C8 (X5 (K:=K)) (pv 7) Gz (C9 (pv 1))) (Ad (A6 (K:=K) hu) (Bv (A1 A5 (A1 (aI8 as5 A5) A2))) (Ao U (O.mono nofun) ⋯ (A1 (pv 0) (A1 A5 A2))) (by ac_rfl)))))))))))))))),?_⟩
 symm
 refine aD2 nofun ?_;rw[aM2]
 symm
 refine⟨d,l,_,rfl,hF,by omega,by omega,λst H1 aB c6 e1 aN=>?_⟩
 symm
 refine⟨d,l,_,rfl,aN,by omega,by omega,λway H2 c8 cA e2 aP=>?_⟩
 symm
 refine⟨d,l,_,rfl,aP,by omega,by omega,λsz H3 cB cC e3 aQ=>?_⟩
 symm
 refine⟨d,l,_,rfl,aQ,by omega,by omega,λat' H4 bQ bR e4 aR=>?_⟩
 symm
 refine Bu nofun λp5 H5 b6 e5 h5=>?_;walk_at "rq";have aI:ExtBut d H H4:=by walk_at "fr"
 have aS:Feed H5 d l:=by walk_at "fd"
 with_reducible refine Su (MN H d l n st way sz at') (λN J=>?_) (fun σ1 H6 hM=>?_)
 . walk_at "rq";refine Ll (λhw=>?_) (λhw=>?_)
   . walk_at "rq";refine Lc ∅ ?_;refine Nh Ci (fI λk=>.str (Txt.slice LL (some st) (some (st+1+k)))) (by simp) (λ_ _=>trivial) (λi x H6 R hx e6 hR=>?_) (λp6 H6 bX e6 h6=>?_)
     . obtain⟨rfl,hi⟩:=Hg hx;walk_at "rq";exact hR
     rw[Wc (G:=λk=>txt (Px st.toNat (st.toNat+1+k))) (λk hk=>by
      have e:=Xq (i:=st) (j:=st+1+(0+(k:Int))) aB ∅ (by have:((8:Int)).toNat=8:=rfl;omega);have e2:(st+1+(0+(k:Int))).toNat=st.toNat+1+k:=by omega
      rw[e2] at e;rw[e])] at h6
     obtain⟨c9,aX,e9⟩:=av5 (i:=st+9) ∅ ∅;obtain⟨bI,aW,a2⟩:=av5 (i:=st+10) ∅ ∅;walk_at "rq";refine aD5 Wf aX ?_;walk_at "rq";refine aD5 Wf aW ?_;walk_at "rq";refine Bu (A9 (by simp)) λp7 H7 bY e7 h7=>?_;refine Ys (by walk_at "lk") h7 (by simp[sizeLine_eq]) λp8 Y a0 Z q=>?_;walk_at "rq";have f5:ExtBut d H H5:=by walk_at "fr"
     refine J _ _ ⟨p8,(nm0 st.toNat).map txt,none,none,rfl,Feed.free (l:=l) (H':=H7) (by walk_at "fd") (by walk_at "fr") a0,by walk_at "fr",by walk_at "fd",?_,aO6 ∅,by simp[nm0]⟩;rw[q,e9,a2];have q9:(st+9).toNat=st.toNat+9:=by omega
     have bD:(st+10).toNat=st.toNat+10:=by omega
     rw[q9,bD];simp[nm0,Function.comp_def]
   walk_at "rq";refine J _ _ ⟨p5,nm3,none,none,rfl,aR.free aI b6,by walk_at "fr",aS,h5,aO3,rfl⟩
 obtain⟨p,ns,x8,x9,rfl,hp,e6,a8,h6,aT,b0⟩:=hM
 with_reducible refine Su (MN H d l n st way sz at') (λN J=>?_) (fun σ1 H7 hM=>?_)
 . walk_at "rq";refine Ll (λhw=>?_) (λhw=>?_)
   . walk_at "rq";refine Lc ∅ ?_;have c1:=Xq (i:=st) (j:=st+at') aB ∅ ∅;have c2:=Xq (i:=st+at'+1) (j:=st+(1+sz)) ∅ ∅ ∅;rw[c1,c2];refine Nh Ci (fI λk=>.str (txt (Px st.toNat (st+at').toNat)++txt (Td (st+5*k % 26).toNat)++txt (Px (st+at'+1).toNat (st+(1+sz)).toNat))) (by simp) (λ_ _=>trivial) (λi x Y R hx Z hR=>?_) (λp8 Y a0 Z q=>?_)
     . obtain⟨rfl,hi⟩:=Hg hx;have bT:=A48 (5*(0+(i:Int))) (show(26:Int)≠0 by decide);have bU:=A3O (5*(0+(i:Int))) (show(0:Int)<26 by decide);obtain⟨c,hc,ec⟩:=av5 (i:=st+5*(0+(i:Int)) % 26) ∅ ∅;walk_at "rq";refine aD5 Wf hc ?_;rw[ec];have l1:(txt (Px st.toNat (st+at').toNat)).length<=52:=by show(Px _ _).toArray.size<=_;unfold Px;simp[Lu];omega
       have l2:(txt (Px (st+at'+1).toNat (st+(1+sz)).toNat)).length<=52:=by show(Px _ _).toArray.size<=_;unfold Px;simp[Lu];omega
       have l3:(txt (Td (st+5*(0+(i:Int)) % 26).toNat)).length<=52:=by show(Td _).toArray.size<=_;unfold Td;simp[Lu];omega
       refine i_addS (A9 ∅) ?_;have l4:(txt (Px st.toNat (st+at').toNat)++txt (Td (st+5*(0+(i:Int)) % 26).toNat)).length<=104:=by rw[Str.length_append];omega
       walk_at "rq";exact hR
     rw[Wc (G:=λk=>txt (Px st.toNat (st.toNat+at'.toNat)++Td (st.toNat+5*k % 26)++Px (st.toNat+at'.toNat+1) (st.toNat+(1+sz).toNat))) (λk hk=>by
      have q1:(st+at').toNat=st.toNat+at'.toNat:=by omega
      have q2:(st+5*(0+(k:Int)) % 26).toNat=st.toNat+5*k % 26:=by omega
      have q3:(st+at'+1).toNat=st.toNat+at'.toNat+1:=by omega
      have q4:(st+(1+sz)).toNat=st.toNat+(1+sz).toNat:=by omega
      rw[q1,q2,q3,q4,ah5,ah5])] at q
     walk_at "rq";refine J _ _ ⟨p8,(nm1 st.toNat (1+sz).toNat at'.toNat).map txt,_,_,rfl,a8.free e6 a0,by walk_at "fr",by walk_at "fd",?_,aL1 ∅ ∅ ∅,by simp[nm1]⟩;rw[q];simp[nm1,Function.comp_def]
   walk_at "rq";exact J _ _ ⟨p,ns,x8,x9,rfl,hp,e6,a8,h6,aT,b0⟩
 obtain⟨p',ns',bE,bF,rfl,b5,e7,a9,h7,aU,b1⟩:=hM
 with_reducible refine Su (MN H d l n st way sz at') (λN J=>?_) (fun σ1 Y hM=>?_)
 . walk_at "rq";refine Ll (λhw=>?_) (λhw=>?_)
   . walk_at "rq";refine Lc ∅ ?_;refine Nh Ci (fI λk=>.str (Txt.slice LL (some (st+k)) (some (st+k+1+3*k % 8)))) (by simp) (λ_ _=>trivial) (λi x Y R hx Z hR=>?_) (λp8 Y a0 Z q=>?_)
     . obtain⟨rfl,hi⟩:=Hg hx;walk_at "rq";exact hR
     rw[Wc (G:=λk=>txt (Px (st.toNat+k) (st.toNat+k+1+3*k % 8))) (λk hk=>by
      have a4:((10:Int)).toNat=10:=rfl;have e:=Xq (i:=st+(0+(k:Int))) (j:=st+(0+(k:Int))+1+3*(0+(k:Int)) % 8) ∅ ∅ ∅;have q1:(st+(0+(k:Int))).toNat=st.toNat+k:=by omega
      have q2:(st+(0+(k:Int))+1+3*(0+(k:Int)) % 8).toNat=st.toNat+k+1+3*k % 8:=by omega
      rw[q1,q2] at e;rw[e])] at q
     walk_at "rq";refine J _ _ ⟨p8,(nm2 st.toNat).map txt,_,_,rfl,a9.free e7 a0,by walk_at "fr",by walk_at "fd",?_,aN4 ∅,by simp[nm2]⟩;rw[q];simp[nm2,Function.comp_def]
   walk_at "rq";exact J _ _ ⟨p',ns',bE,bF,rfl,b5,e7,a9,h7,aU,b1⟩
 obtain⟨p2,ms,y8,y9,rfl,bW,Z,aA,q,aV,bS⟩:=hM
 symm
 refine⟨d,l,_,rfl,aA,by omega,by omega,λtn H9 aC c7 e9 bP=>?_⟩;have nd2:p2≠d:=aA.lst q
 symm
 have h9:H9 p2=some (.lst (ms.map V.str)):=e9 _ _ nd2 q;refine Nm (SqL.of h9) λq1 aD bZ a2 a4=>?_
 symm
 refine Nm (SqL.of (show aD p2=some (.lst (ms.map V.str)) by walk_at "lk")) λq2 bG c0 bK a5=>?_
 symm
 rw[Kw aC (by rw[A01];omega)] at a4;rw[Kx aC] at a5;refine Ys (by walk_at "lk") a5 (A9 (by simp;omega)) λq3 aE c3 bL a6=>?_
 symm
 rw[<- A3Z,<- A40,<- A0T] at a6;refine Nm (SqL.of a6) λq4 aF b7 bM aK=>?_
 symm
 rw[Kx b2,<- A40] at aK;refine Bu nofun λq5 bH b9 bN aL=>?_
 symm
 refine⟨d,l,2,rfl,by walk_at "fd",by omega,by omega,λr a1 c4 c5 a3 aO=>?_⟩;have bA:q5≠d:=Ne.symm (Feed.nd (H:=aF) (l:=l) (by walk_at "fd") b9);have b8:q4≠d:=Ne.symm (Feed.nd (H:=aE) (l:=l) (by walk_at "fd") b7);have aM:a1 q4=some (.lst (((ms.drop tn.toNat++ms.take tn.toNat).take n.toNat).map V.str)):=a3 _ _ b8 (by walk_at "lk");have aJ:a1 q5=some (.lst [V.int 1,V.int (-1)]):=a3 _ _ bA aL
 have bC:∃ k,atI [V.int 1,V.int (-1)] r=some (V.int k)/\(k=1\/k = -1):=by
  rcases(by omega:r=0\/r=1) with rfl|rfl
  . exact⟨1,rfl,.inl rfl⟩
  exact⟨-1,rfl,.inr rfl⟩
 obtain⟨kk,aY,aZ⟩:=bC;refine Kq aJ aY ?_;refine aH1 (SqL.of aM) aZ λq6 aG bB bO a7=>?_;obtain⟨os,eo,b3,b4⟩:=Zz (k:=kk) (aV.turn tn.toNat n.toNat);rw[eo] at a7;have aH:ExtBut d H a1:=by walk_at "fr"
 refine k q6 os aG (aO.free aH bB) (by walk_at "fr") (by walk_at "fd") a7 b3 ?_;rw[b4,A10,A06,A1C,A10];omega
def Di (K:W.Frag):Sp:=λvs H Q _=>∃ d l a xs,vs=[.ref d,.ref a]/\Feed H d l/\(SqL K H a xs\/SqT K H a xs)/\xs.length<=1000/\∀ p ys H',H p=none->ExtBut d H H'->Feed H' d l->H' p=some (.lst ys)->ys.Perm xs->Q (.ref p) H'
theorem Mw {f:Addr}{fd:FuncData}(F:Fun K "_law_shuffled" "_law_shuffled" C5 f fd)(T:Eo mg)(A8:Fnd P w K mg base 1 "_law_draw" ["_law_feed_here","_law_many"] (Bj K)):FnOk P w K mg base CX0 2 f fd ["_law_feed_here","_law_some"] (Di K):=by
 refine F.ok Dj (λvs H Q E h=>?_) (λaI A outer s H vs Q E hr h=>?_)
 . obtain⟨d,l,a,xs,rfl,_⟩:=h;rfl
 obtain⟨d,l,a,xs,rfl,Y,hS,hx,k⟩:=h;have hu:=Bf hr;have hq:=Be hr
 with_reducible refine⟨_,(A3 (Aa (i:=2) Dj.nd ⋯ (by eq_refl) (B1 (Qu (K:=K)) ⋯ T.b_list PyProof.Rows.Boot.«list» (A1 (pv 1) A2)))
  (A3 (Aa (i:=3) Dj.nd ⋯ (by eq_refl) (Bv A2))
  (A3 (C4 A0V ⋯ (Ei ⋯ T.b_range (A1 (Aq (B8 (K:=K)) ⋯ T.b_len PyProof.Rows.Boot.«len» (A1 (pv 2) A2)) A2)) (Ag (i:=4) Dj.nd ⋯ (by eq_refl))
  (A7 (Dd (G3 (K:=K) A17 A26 A27 (mm Gw) (pv 3) (A1 (G3 (K:=K) A17 A4Z A50 (mm Xj) (pv 2) (A1 (Ao A8 (hr.mono nofun) ⋯ (A1 (pv 0) (A1 (Aq (B8 (K:=K)) ⋯ T.b_len PyProof.Rows.Boot.«len» (A1 (pv 2) A2)) A2))) A2)) A2)))))
  (A7 (An (pv 3)))))),?_⟩
 symm
 refine aB5 hS λq H1 a6 e1 h1=>?_
 symm
 refine Bu nofun λp H2 a2 e2 h2=>?_
 symm
 refine Lc ∅ ?_;have a1:H p=none:=e1.free a2;have a5:p≠q:=λz=>by subst z;rw[h1] at a2;cases a2
 refine Ep Ci (λi σ J=>∃ us vs x4,σ=[some (.ref d),some (.ref a),some (.ref q),some (.ref p),x4]/\ExtBut d H J/\Feed J d l/\J q=some (.lst us)/\J p=some (.lst vs)/\(vs++us).Perm xs/\us.length+i=xs.length/\vs.length=i)
  ⟨xs,[],none,rfl,by walk_at "fr",by walk_at "fd",by walk_at "lk",h2,by simp,rfl,rfl⟩ (λ_ _ _ _=>trivial) (λi x σ J aH hi hP=>?_) (fun σ J hP=>?_)
 . obtain⟨us,vs,x4,rfl,e3,O,a0,U,Z,a4,a7⟩:=hP;obtain⟨rfl,aE⟩:=Hg aH;have aJ:i<xs.length:=by simpa using aE
   symm
   refine⟨d,l,_,rfl,O,by omega,by omega,λr H4 aF aK e4 aD=>?_⟩;have a9:H4 q=some (.lst us):=e4 _ _ (O.lst a0) a0;have a8:H4 p=some (.lst vs):=e4 _ _ (O.lst U) U;have a3:r.toNat<us.length:=by omega
   symm
   refine Xu a9 aF (A03 a3) (λH5 e5 aB=>?_) ∅;have aA:H5 p=some (.lst vs):=e5 _ _ a5 a8
   symm
   refine R0 aA ∅ λH6 e6 aC=>?_
   symm
   refine⟨us.eraseIdx r.toNat,vs++[us[r.toNat]],_,rfl,by walk_at "fr",(aD.put e5 (Y.nd a6) (Y.nl a6)).put e6 (Y.nd a1) (Y.nl a1),e6 _ _ (Ne.symm a5) aB,aC,?_,?_,by simp[a7]⟩
   . exact(ak9 (A03 a3) vs).trans Z
   rw[List.length_eraseIdx,A0X a3];omega
 obtain⟨us,vs,x4,rfl,e3,O,a0,U,Z,a4,a7⟩:=hP
 symm
 have aG:us=[]:=by rw[A01,A1V] at a4;exact A1B.mp ∅
 subst aG;rw[A2C] at Z;exact k p vs J a1 e3 O U Z
def Iz (K:W.Frag):Sp:=λvs H Q _=>∃ d l a ls,vs=[.ref d,.ref a]/\Feed H d l/\H a=some (.lst (ls.map V.str))/\ls.length<=10/\∀ p xs ps H',H p=none->ExtBut d H H'->Feed H' d l->H' p=some (.lst xs)->IsL K H' (ps.map prD) xs->Up ls ps->ps.length<=100->Q (.ref p) H'
def MP (K:W.Frag)(H:Hp)(d l a:Addr)(ls:List Str)(way:Int)(E:Prop):L2.St->Hp->Prop:=fun σ' H'=>∃ p xs ps q F J O,σ'=[some (V.ref d),some (.ref a),some (.int (ls.length:Nat)),some (.int way),some (.ref p),q,F,J,O]/\H p=none/\ExtBut d H H'/\Feed H' d l/\H' p=some (.lst xs)/\IsL K H' (ps.map prD) xs/\Up ls ps/\ps.length<=100/\(E->ps=[])
theorem Sj {K:W.Frag}{H:Hp}{ps:List (Str×Str)}{xs:List V}(h:IsL K H (ps.map prD) xs):xs.length=ps.length:=by rw[<- IsL.length h,A01]
theorem Sk {f:Addr}{fd:FuncData}(F:Fun K "_law_pairs" "_law_pairs" Ec f fd)(T:Eo mg)(A8:Fnd P w K mg base 1 "_law_draw" ["_law_feed_here","_law_many"] (Bj K)):FnOk P w K mg base CX0 2 f fd ["_law_feed_here","_law_line"] (Iz K):=by
 refine F.ok B4 (λvs H Q E h=>?_) (λcK A outer s H vs Q E hr h=>?_)
 . obtain⟨d,l,a,xs,rfl,_⟩:=h;rfl
 obtain⟨d,l,a,ls,rfl,hF,hA,hl,k⟩:=h;have hu:=Bf hr;have hq:=Be hr
 with_reducible refine⟨_,(A3 (Aa (i:=2) B4.nd ⋯ (by eq_refl) (Aq (B8 (K:=K)) ⋯ T.b_len PyProof.Rows.Boot.«len» (A1 (pv 1) A2)))
  (A3 (Aa (i:=3) B4.nd ⋯ (by eq_refl) (Ao A8 (hr.mono nofun) ⋯ (A1 (pv 0) (A1 A5 A2))))
  (A3 (Aa (i:=4) B4.nd ⋯ (by eq_refl) (Bv A2))
  (A3 (Cj (PW.pt (Tk (Ak Zs (pv 3) A5 (Aw _)) (Pg (Ak a03 (pv 2) A5 (Aw _))))) (A7 (C4 A0V ⋯ (Ei ⋯ T.b_range (A1 (Ad (A6 (K:=K) hu) (Bv (A1 (Ap My (pv 2) A5) (A1 (pv 2) (A1 (Ap Do A5 (pv 2)) A2)))) (pv 3) (by ac_rfl)) A2)) (Ag (i:=5) B4.nd ⋯ (by eq_refl))
  (A3 (Aa (i:=6) B4.nd ⋯ (by eq_refl) (Ao A8 (hr.mono nofun) ⋯ (A1 (pv 0) (A1 (Ap K2 (pv 2) A5) A2))))
  (A7 (Dd (G3 (K:=K) A17 A26 A27 (mm Gw) (pv 4) (A1 (B6 (A1 (Ad (A6 (K:=K) hu) (pv 1) (pv 6) (by ac_rfl)) (A1 (Ad (A6 (K:=K) hu) (pv 1) (Ap (Al (K:=K)) (Ap (Al (K:=K)) (pv 6) A5) (Ao A8 (hr.mono nofun) ⋯ (A1 (pv 0) (A1 (Ap K2 (Ap K2 (pv 2) A5) (pv 6)) A2)))) (by ac_rfl)) A2))) A2))))))) Ay)
  (A3 (Cj (Ak (Cn (K:=K) hq) (pv 3) A5 (Aw _)) (A3 (Aa (i:=7) B4.nd ⋯ (by with_unfolding_all exact A3I rfl) (Ao A8 (hr.mono nofun) ⋯ (A1 (pv 0) (A1 (Ap (Al (K:=K)) (pv 2) A5) A2))))
  (A7 (Ia (i:=4) ["_law_k"] ["_law_line","_law_cut"] [1,7] ⋯ ⋯ ⋯ B4.nd ⋯ ⋯ (Ei ⋯ T.b_range (A1 (Ap K2 (pv 2) A5) A2)) (λ_ _ _ _=>(Ag (i:=0) (by with_unfolding_all (show(["_law_k","_law_line","_law_cut"]:List Str).Nodup;decide +kernel)) ⋯ (by eq_refl))) (Bq nofun) (λ_ _ _ _=>(G2 (Ak (Qi (K:=K) hq) (Ap (Al (K:=K)) (pv 0) A5) (pv 2) (Aw _)))) (λ_ _ _ _=>(B6 (A1 (Ad (A6 (K:=K) hu) (pv 1) (pv 0) (by ac_rfl)) (A1 (Ad (A6 (K:=K) hu) (pv 1) (Ap (Al (K:=K)) (pv 0) A5) (by ac_rfl)) A2))))))) Ay)
  (A3 (Cj (Ak (Cn (K:=K) hq) (pv 3) A5 (Aw _)) (A7 (Ia (i:=4) ["_law_k"] ["_law_line","_law_feed_here"] [1,0] ⋯ ⋯ ⋯ B4.nd ⋯ ⋯ (a57 ⋯ T.b_range (A1 A5 (A1 (pv 2) A2))) (λ_ _ _ _=>(Ag (i:=0) (by with_unfolding_all (show(["_law_k","_law_line","_law_feed_here"]:List Str).Nodup;decide +kernel)) ⋯ (by eq_refl))) (Bq nofun) (λ_ _ _ _=>(G2 (Ak a03 (Ao A8 (hr.mono nofun) ⋯ (A1 (pv 2) (A1 A5 A2))) A5 (Aw _)))) (λ_ _ _ _=>(B6 (A1 (Ad (A6 (K:=K) hu) (pv 1) (Ao A8 (hr.mono nofun) ⋯ (A1 (pv 2) (A1 (pv 0) A2))) (by ac_rfl)) (A1 (Ad (A6 (K:=K) hu) (pv 1) (pv 0) (by ac_rfl)) A2)))))) Ay)
  (A3 (Cj (Ak (Cn (K:=K) hq) (pv 3) A5 (Aw _)) (A3 (Aa (i:=7) B4.nd ⋯ (by with_unfolding_all exact A3I rfl) (Ao A8 (hr.mono nofun) ⋯ (A1 (pv 0) (A1 (Ap (Al (K:=K)) (pv 2) A5) A2))))
  (A7 (C4 A0V ⋯ (As (K:=K) hu (C8 (X5 (K:=K)) (pv 1) Gz (C9 (pv 7)))) (Ag (i:=8) B4.nd ⋯ (by with_unfolding_all exact A3I rfl))
  (A7 (Dd (G3 (K:=K) A17 A2Q A2R (mm Jh) (pv 4) (A1 (Cb ["_law_other"] ["_law_one"] [8] ⋯ ⋯ ⋯ (As (K:=K) hu (C8 (X5 (K:=K)) (pv 1) (C9 (pv 7)) Gz)) (λ_ _ _ _=>(Ag (i:=0) (by with_unfolding_all (show(["_law_other","_law_one"]:List Str).Nodup;decide +kernel)) ⋯ (by eq_refl))) (Bq nofun) (λ_ _ _ _=>G1) (λ_ _ _ _=>(B6 (A1 (pv 1) (A1 (pv 0) A2))))) A2))))))) Ay)
  (A7 (An (pv 4)))))))))),?_⟩
 symm
 rw[A01];refine⟨d,l,_,rfl,hF,by omega,by omega,λway H1 cZ d0 e1 bM=>?_⟩;have a2:a≠d:=hF.lst hA
 symm
 refine Bu nofun λp H2 c1 e2 h2=>?_;walk_at "rq";have b9:H p=none:=bM.free e1 c1;have bN:Feed H2 d l:=by walk_at "fd"
 have cL:H2 a=some (.lst (ls.map V.str)):=by walk_at "lk"
 with_reducible refine Su (MP K H d l a ls way (way=5)) (λN hN=>?_) (fun σ1 H3 hM=>?_)
 . walk_at "rq";have aX:N [some (V.ref d),some (.ref a),some (.int (ls.length:Nat)),some (.int way),some (.ref p),none,none,none,none] H2:=hN _ _ ⟨p,[],[],none,none,none,none,rfl,b9,by walk_at "fr",bN,h2,.nil,.nil,by decide,λ_=>rfl⟩;refine Ll (λhw=>?_) (λhw=>?_)
   . walk_at "rq";refine Ll (λhm=>?_) (λhm=>?_)
     . walk_at "rq";refine Bu (A9 (by simp)) λq H3 cT e3 h3=>?_
       have b8:∃ m,atI [V.int ((ls.length:Nat) / 2),V.int (ls.length:Nat),V.int (3*(ls.length:Nat))] way=some (V.int m)/\0<=m/\m<=30:=by
        rcases(by omega:way=0\/way=1\/way=2) with rfl|rfl|rfl
        . exact⟨_,rfl,by omega,by omega⟩
        . exact⟨_,rfl,by omega,by omega⟩
        exact⟨_,rfl,by omega,by omega⟩
       obtain⟨m,bZ,cQ,b8⟩:=b8;walk_at "rq";refine Kq h3 bZ ?_;walk_at "rq";refine Lc ∅ ?_
       refine Ep Ci (λi σ H4=>∃ xs ps x5 x6,σ=[some (V.ref d),some (.ref a),some (.int (ls.length:Nat)),some (.int way),some (.ref p),x5,x6,none,none]/\ExtBut d H H4/\Feed H4 d l/\H4 p=some (.lst xs)/\IsL K H4 (ps.map prD) xs/\Up ls ps/\ps.length=i)
        ⟨[],[],none,none,rfl,by walk_at "fr",by walk_at "fd",by walk_at "lk",.nil,.nil,rfl⟩ (λ_ _ _ _=>trivial) (λi x σ H4 cB hi hP=>?_) (fun σ H4 hP=>?_)
       . obtain⟨xs,ps,x5,x6,rfl,e4,a1,h4,a6,hU,aS⟩:=hP;obtain⟨rfl,b6⟩:=Hg cB;have aJ:H4 a=some (.lst (ls.map V.str)):=e4 _ _ a2 hA
         symm
         refine⟨d,l,_,rfl,a1,by omega,by omega,λu O bD c8 Y Z=>?_⟩;obtain⟨z1,a8,aD,_⟩:=str_at? (ls:=ls) (i:=u) bD ∅;have a5:O a=some (.lst (ls.map V.str)):=Y _ _ a2 aJ;have h5:O p=some (.lst xs):=Y _ _ (a1.lst h4) h4
         symm
         refine Kq a5 aD ?_
         symm
         refine⟨d,l,_,rfl,Z,by omega,by omega,λu2 H6 bE c9 U a4=>?_⟩;obtain⟨z2,a9,aE,_⟩:=str_at? (ls:=ls) (i:=u+1+u2) ∅ ∅;have aA:H6 a=some (.lst (ls.map V.str)):=U _ _ a2 a5;have h6:H6 p=some (.lst xs):=U _ _ (Z.lst h5) h5
         symm
         refine Kq aA aE ?_
         symm
         refine B7 (A9 (by simp)) λt H7 cX e7 h7=>?_;have b1:H7 p=some (.lst xs):=e7 _ _ h6;have cC:=Sj a6
         symm
         refine R0 b1 ∅ λJ e8 h8=>?_
         symm
         have aI:Fz H7 J:=e8.fzL b1;have bG:Fz H4 H7:=((a1.fz Y).trans (Z.fz U)).trans e7.fz;refine⟨xs++[.ref t],ps++[(z1,z2)],_,_,rfl,by walk_at "fr",by walk_at "fd",h8,?_,?_,by simp[aS]⟩
         . rw[A0T];exact(IsL.fz (bG.trans aI) _ _ (C0 ps) a6).append (.one ((Vk (SqT.of h7)).pr_fz aI))
         exact hU.append (.one ∅ a8 a9)
       obtain⟨xs,ps,x5,x6,rfl,e4,a1,h4,a6,hU,aS⟩:=hP;rw[A01,A1V] at aS;exact hN _ _ ⟨p,xs,ps,_,_,_,_,rfl,b9,e4,a1,h4,a6,hU,by omega,λq=>by omega⟩
     walk_at "rq";exact aX
   walk_at "rq";exact aX
 obtain⟨p3,cH,cE,x5,x6,x7,x8,rfl,c2,e3,b4,h3,bO,bQ,bW,bJ⟩:=hM;have bI:H3 a=some (.lst (ls.map V.str)):=e3 _ _ a2 hA
 with_reducible refine Su (MP K H d l a ls way (way=5)) (λN hN=>?_) (fun σ1 H4 hM=>?_)
 . walk_at "rq";refine Ll (λhw=>?_) (λhw=>?_)
   . symm
     refine⟨d,l,_,rfl,b4,by omega,by omega,λa0 H4 aR bT e4 a1=>?_⟩;have aJ:H4 a=some (.lst (ls.map V.str)):=e4 _ _ a2 bI
     symm
     refine Lc ∅ ?_;refine J1 (K:=K) Ci (List.range ((ls.length:Nat)-1:Int).toNat) (by simp) (λk=>!decide (V.int ((0:Int)+(k:Nat)+1)=V.int a0)) (λk=>prD (ls.getD k "",ls.getD (k+1) "")) (λ_=>Ho _) (by simp;omega) (λ_ _=>trivial) (λi k v O R R' hk hv Y hR b5=>?_) (λp5 ys O aL Y h5 a3=>?_)
     . obtain⟨rfl,b6⟩:=Hg hv
       have bV:i=k:=by obtain⟨_,h2⟩:=A00.mp hk;rw[List.getElem_range] at h2;exact h2
       subst bV;have a5:O a=some (.lst (ls.map V.str)):=Y _ _ aJ
       symm
       refine aC9 (λhc=>?_) (λhc=>?_)
       . obtain⟨z1,a8,aD,_⟩:=str_at? (ls:=ls) (i:=0+(i:Int)) ∅ ∅;obtain⟨z2,a9,aE,_⟩:=str_at? (ls:=ls) (i:=0+(i:Int)+1) ∅ ∅
         symm
         refine Kq a5 aD ?_
         symm
         refine Kq a5 aE ?_
         symm
         refine B7 (A9 (by simp)) λt H6 cW U h6=>?_;have q1:(0+(i:Int)).toNat=i:=by omega
         have q2:(0+(i:Int)+1).toNat=i+1:=by omega
         rw[q1] at a8;rw[q2] at a9;refine hR (by rw[A0S hc];rfl) _ _ U ?_;rw[X3 a8,X3 a9];exact Vk (SqT.of h6)
       exact b5 (by rw[A16 hc];rfl) _ (Same.refl _)
     symm
     rw[a92] at a3;have bA:H p5=none:=a1.free (by walk_at "fr") aL;refine hN _ _ ⟨p5,ys,_,_,_,_,_,rfl,bA,by walk_at "fr",by walk_at "fd",h5,a3,λpr aU=>?_,?_,λq=>by cases hw;cases q⟩
     . obtain⟨j,hj,rfl⟩:=A0I.mp aU;have hj:=A23.mp (A0N.mp hj).1;exact⟨j,j+1,by omega,Hd ∅,Hd ∅⟩
     rw[A01];refine A0O (A0U _ _) ?_;rw[A1V];omega
   walk_at "rq";exact hN _ _ ⟨p3,cH,cE,x5,x6,x7,x8,rfl,c2,e3,b4,h3,bO,bQ,bW,bJ⟩
 obtain⟨p4,cI,cF,y5,y6,y7,y8,rfl,c3,e4,a1,h4,a6,bR,bX,bK⟩:=hM;have aJ:H4 a=some (.lst (ls.map V.str)):=e4 _ _ a2 hA
 with_reducible refine Su (MP K H d l a ls way (way=5)) (λN hN=>?_) (fun σ1 O hM=>?_)
 . walk_at "rq";refine Ll (λhw=>?_) (λhw=>?_)
   . symm
     refine aH6 ∅ ?_;refine Ik Ci (λp i acc O=>∃ ps,ExtBut d H O/\Feed O d l/\IsL K O (ps.map prD) acc/\Up ls ps/\ps.length<=i) (λp O hp Y h5=>⟨[],by walk_at "fr",by walk_at "fd",.nil,.nil,A08 _⟩) (λ_ _ _ _ _=>trivial) (λp i x acc O hp hx hi aB ha hP=>?_) λp acc O hp ha aB hP=>?_
     . obtain⟨ps,Y,Z,a3,a7,aT⟩:=hP;obtain⟨rfl,b6⟩:=Hg hx;have bA:H p=none:=a1.free e4 hp;have bB:p≠d:=Ne.symm (a1.nd hp)
       symm
       refine⟨d,l,_,rfl,Z,by omega,by omega,λu H6 bD c8 U a4=>?_⟩
       symm
       have h6:H6 p=some (.lst acc):=U _ _ bB ha;have aA:H6 a=some (.lst (ls.map V.str)):=U _ _ a2 (Y _ _ a2 hA);refine Ll (λhc=>?_) (λhc=>?_)
       . symm
         refine⟨d,l,_,rfl,a4,by omega,by omega,λu2 H7 bE c9 e7 cN=>?_⟩;have h7:H7 p=some (.lst acc):=e7 _ _ bB h6;have b3:H7 a=some (.lst (ls.map V.str)):=e7 _ _ a2 aA;obtain⟨z1,a8,aD,_⟩:=str_at? (ls:=ls) (i:=u2) bE ∅;obtain⟨z2,a9,aE,_⟩:=str_at? (ls:=ls) (i:=1+(i:Int)) ∅ ∅
         symm
         refine Kq b3 aD ?_
         symm
         refine Kq b3 aE ?_
         symm
         refine B7 (A9 (by simp)) λt J cY e8 h8=>?_;have b2:J p=some (.lst acc):=e8 _ _ h7;refine Lg (by simp;omega) hi aB b2 λH9 e9 h9=>?_;have aZ:Fz J H9:=e9.fzL b2;have aI:Fz O J:=((Z.fz U).trans (a4.fz e7)).trans e8.fz;refine⟨ps++[(z1,z2)],by walk_at "fr",by walk_at "fd",?_,a7.append (.one ∅ a8 a9),by simp[aT]⟩;rw[A0T];exact(IsL.fz (aI.trans aZ) _ _ (C0 ps) a3).append (.one ((Vk (SqT.of h8)).pr_fz aZ))
       refine Ru hi aB h6 ⟨ps,by walk_at "fr",a4,IsL.fz (Z.fz U) _ _ (C0 ps) a3,a7,by omega⟩
     obtain⟨ps,Y,Z,a3,a7,aT⟩:=hP;rw[A01,A1V] at aT
     symm
     exact hN _ _ ⟨p,acc,ps,_,_,_,_,rfl,a1.free e4 hp,Y,Z,ha,a3,a7,by omega,λq=>by cases hw;cases q⟩
   walk_at "rq";exact hN _ _ ⟨p4,cI,cF,_,_,_,_,rfl,c3,e4,a1,h4,a6,bR,bX,bK⟩
 obtain⟨p5,aV,bF,z5,z6,z7,z8,rfl,aL,Y,Z,h5,a3,a7,aB,bL⟩:=hM;have a5:O a=some (.lst (ls.map V.str)):=Y _ _ a2 hA
 with_reducible refine Su (MP K H d l a ls way False) (λN hN=>?_) (fun σ1 H6 hM=>?_)
 . walk_at "rq";refine Ll (λhw=>?_) (λhw=>?_)
   . symm
     refine⟨d,l,_,rfl,Z,by omega,by omega,λa0 H6 aR bT U a4=>?_⟩;have aA:H6 a=some (.lst (ls.map V.str)):=U _ _ a2 a5;have h6:H6 p5=some (.lst aV):=U _ _ (Z.lst h5) h5
     symm
     refine Nm (SqL.of aA) λq H7 bC e7 h7=>?_;rw[Kx aR,<- A40] at h7;have cS:H q=none:=a4.free (by walk_at "fr") bC;have c4:p5≠q:=ne_of_none h6 bC;refine Kf (SqL.of h7) ?_
     have cA:way=5:=by cases hw;rfl
     have c6:bF=[]:=bL cA;subst c6;have cD:aV=[]:=by simpa only[List.map_nil,L2.IsL] using a3
     subst cD;have bU:∀ J,ExtBut d H J->J a=some (.lst (ls.map V.str)):=λJ e8=>e8 _ _ a2 hA
     refine Ep (Bp (xs:=(ls.take a0.toNat).map V.str)) (λi σ J=>∃ xs ps x8,σ=[some (V.ref d),some (.ref a),some (.int (ls.length:Nat)),some (.int way),some (.ref p5),z5,z6,some (.int a0),x8]/\ExtBut d H J/\Feed J d l/\J q=some (.lst ((ls.take a0.toNat).map V.str))/\J p5=some (.lst xs)/\IsL K J (ps.map prD) xs/\Up ls ps/\ps.length<=i*10)
      ⟨[],[],_,rfl,by walk_at "fr",by walk_at "fd",h7,by walk_at "lk",.nil,.nil,by decide⟩ (λi σ J hP=>?_) (λi x σ J aC hi hP=>?_) (fun σ J hP=>?_)
     . obtain⟨xs,ps,x8,rfl,e8,aO,aM,_⟩:=hP;exact SqL.of aM
     . obtain ⟨xs,ps,x8,rfl,e8,aO,aM,h8,aK,aQ,b7⟩:=hP;rw[A07] at aC
       cases hz:(ls.take a0.toNat)[i]? with
       |none=>rw[hz] at aC;cases aC
       |some one=>
         rw[hz] at aC
         cases aC
         have cO:i<10:=by have:=A00.mp hz;obtain⟨h1,_⟩:=this;rw[A10] at h1;omega
         have c0:ls[i]? = some one:=by
          rw[A30] at hz
          split at hz
          . exact hz
          cases hz
         have cP:i<a0.toNat:=by
          rw[A30] at hz
          split at hz
          . assumption
          cases hz
         symm
         refine Nm (SqL.of (bU J e8)) λq9 H9 cU e9 h9=>?_;rw[Kw aR (by rw[A01];omega),<- A3Z] at h9;refine Kf (SqL.of h9) ?_;refine J1 (K:=K) (Bp (xs:=(ls.drop a0.toNat).map V.str)) (ls.drop a0.toNat) (by simp) (λ_=>true) (λo=>prD (one,o)) (λ_=>Ho _) (by simp;omega) (λH' e'=>SqL.of (e' _ _ h9)) (λj o v aF R R' ho hv aG hR b5=>?_) (λd1 ys aF cR aG bH aP=>?_)
         . rw[A07,ho] at hv
           cases hv
           symm
           refine B7 (A9 (by simp)) λt aW cV aH aN=>?_;exact hR rfl _ _ aH (Vk (SqT.of aN))
         symm
         have b0:aF p5=some (.lst xs):=aG _ _ (e9 _ _ h8)
         have hy:ys.length<=10:=by have:=IsL.length aP;rw[A01,Iu,A1C] at this;omega
         have cC:=Sj aK;refine Uc b0 bH ∅ λaW aH aN=>?_
         symm
         have c7:aF q=some (.lst ((ls.take a0.toNat).map V.str)):=aG _ _ (e9 _ _ aM);have aY:Fz aF aW:=aH.fzL b0;rw[Iu,a92] at aP;refine⟨xs++ys,ps++(ls.drop a0.toNat).map (λo=>(one,o)),_,rfl,by walk_at "fr",by walk_at "fd",aH _ _ (Ne.symm c4) c7,aN,?_,aQ.append λpr aU=>?_,?_⟩
         . rw[A0T];exact(IsL.fz ((e9.fz.trans aG.fz).trans aY) _ _ (C0 ps) aK).append (IsL.fz aY _ _ (C0 _) aP)
         . obtain⟨o,ho,rfl⟩:=A0I.mp aU;obtain⟨j,hj,ej⟩:=A1M ho;refine⟨i,a0.toNat+j,by omega,c0,?_⟩;rw[<- List.getElem?_drop,A03 hj,ej]
         rw[A06,A01,A1C,A2D];omega
     obtain⟨xs,ps,x8,rfl,e8,aO,aM,h8,aK,aQ,b7⟩:=hP;rw[A01,A10] at b7;exact hN _ _ ⟨p5,xs,ps,_,_,_,_,rfl,aL,e8,aO,h8,aK,aQ,by omega,False.elim⟩
   walk_at "rq";exact hN _ _ ⟨p5,aV,bF,_,_,_,_,rfl,aL,Y,Z,h5,a3,a7,aB,False.elim⟩
 obtain⟨p6,cJ,cG,w5,w6,w7,w8,rfl,c5,U,a4,h6,bP,bS,bY,cM⟩:=hM
 symm
 exact k p6 cJ cG H6 c5 U a4 h6 bP bS bY
def Gp (K:W.Frag):Sp:=λvs H Q _=>∃ d l a ls,vs=[.ref d,.ref a]/\Feed H d l/\H a=some (.lst (ls.map V.str))/\ls.length<=10/\∀ v ps H',ExtBut d H H'->Feed H' d l->Is K H' (psD ps) v->Up ls ps->ps.length<=60->Q v H'
theorem aC4 {K:W.Frag}{H:Hp}{ps:List (Str×Str)}{xs:List V}{p:Str×Str}{v:V}(n:Nat)(h:IsL K H (ps.map prD) xs)(q:Is K H (prD p) v):IsL K H ((ps.take n++p :: ps.drop n).map prD) (aT1 xs n v):=by rw[A0T,A0H,A40,A3Z];exact(IsL.take n h).append (.cons q (IsL.drop n h))
theorem Ox {f:Addr}{fd:FuncData}(F:Fun K "_law_sayings" "_law_sayings" Cg f fd)(T:Eo mg)(A8:Fnd P w K mg base 1 "_law_draw" ["_law_feed_here","_law_many"] (Bj K))(J7:Fnd P w K mg base 2 "_law_pairs" ["_law_feed_here","_law_line"] (Iz K)):FnOk P w K mg base CX0 3 f fd ["_law_feed_here","_law_line"] (Gp K):=by
 refine F.ok En (λvs H Q E h=>?_) (λb6 A outer s H vs Q E hr h=>?_)
 . obtain⟨d,l,a,xs,rfl,_⟩:=h;rfl
 obtain⟨d,l,a,ls,rfl,hF,hA,hl,k⟩:=h;have hu:=Bf hr;have hq:=Be hr
 with_reducible refine⟨_,(A3 (Aa (i:=2) En.nd ⋯ (by eq_refl) (Bv A2))
  (A3 (C4 A0V ⋯ (As (K:=K) hu (Ao J7 (hr.mono nofun) ⋯ (A1 (pv 0) (A1 (pv 1) A2)))) (Ag (i:=3) En.nd ⋯ (by eq_refl))
  (A7 (C4 A0V ⋯ (Ei ⋯ T.b_range (A1 (Ap (Al (K:=K)) A5 (B1 Vd ⋯ T.b_int PyProof.Rows.Boot.«int» (A1 (Fl (Cn (K:=K) hq) (Ao A8 (hr.mono nofun) ⋯ (A1 (pv 0) (A1 A5 A2))) A5 (Aw _)) A2))) A2)) (Ag (i:=4) En.nd ⋯ (by eq_refl))
  (A7 (Dd (G3 (K:=K) A17 PySem.F.slot_list_insert PySem.F.type_list_insert (mm aa1) (pv 2) (A1 (Ao A8 (hr.mono nofun) ⋯ (A1 (pv 0) (A1 (Ap (Al (K:=K)) (Aq (B8 (K:=K)) ⋯ T.b_len PyProof.Rows.Boot.«len» (A1 (pv 2) A2)) A5) A2))) (A1 (pv 3) A2))))))))
  (A7 (An (B1 (Co (K:=K)) ⋯ T.b_tuple PyProof.Rows.Boot.«tuple» (A1 (C8 (X5 (K:=K)) (pv 2) Gz (C9 A5)) A2)))))),?_⟩
 symm
 refine Bu nofun λp H1 b0 e1 h1=>?_;have aQ:H1 a=some (.lst (ls.map V.str)):=e1 _ _ hA;have aR:Feed H1 d l:=hF.same e1
 symm
 refine⟨d,l,a,ls,rfl,aR,aQ,hl,λq xs ps H2 aJ e2 aS h2 aH aV bA=>?_⟩;have aE:p≠d:=Ne.symm (hF.nd b0);have aL:H2 p=some (.lst []):=e2 _ _ aE h1;have b1:p≠q:=ne_of_none h1 aJ;have bB:H q=none:=e1.free aJ;have bH:=Sj aH;refine Kf (SqL.of h2) ?_
 refine Ep (Bp (xs:=xs)) (λi σ O=>∃ ys qs x3 x4,σ=[some (V.ref d),some (.ref a),some (.ref p),x3,x4]/\ExtBut d H O/\Feed O d l/\O q=some (.lst xs)/\Fz H2 O/\O p=some (.lst ys)/\IsL K O (qs.map prD) ys/\Up ls qs/\qs.length<=i*2)
  ⟨[],[],_,_,rfl,by walk_at "fr",aS,h2,.refl _,aL,.nil,.nil,by decide⟩ (λi σ O U=>?_) (λi x σ O b3 hi U=>?_) (fun σ O U=>?_)
 . obtain⟨ys,qs,x3,x4,rfl,e3,a0,a4,_⟩:=U;exact SqL.of a4
 . obtain⟨ys,qs,x3,x4,rfl,e3,a0,a4,aF,aA,aC,aD,aZ⟩:=U;obtain ⟨dp,a3,aX⟩:=IsL.get aH b3;rw[A07] at a3
   cases hpr:ps[i]? with
   |none=>rw[hpr] at a3;cases a3
   |some pr=>
     rw[hpr] at a3
     cases a3
     have aW:Up ls [pr]:=aV.sub λz hz=>by
      have:z=pr:=by simpa using hz
      subst this;exact A04 hpr
     have b8:i<100:=by omega
     symm
     refine⟨d,l,_,rfl,a0,by omega,by omega,λu H4 bE bF Z aT=>?_⟩;have aM:H4 p=some (.lst ys):=Z _ _ aE aA;have aN:H4 q=some (.lst xs):=Z _ _ (a0.lst a4) a4;have aK:Fz H2 H4:=aF.trans (a0.fz Z);have aU:IsL K H4 (qs.map prD) ys:=IsL.fz (a0.fz Z) _ _ (C0 qs) aC
     symm
     refine Lc (by split<;>omega) ?_
     refine Ep Ci (λj σ J=>∃ zs Y x4,σ=[some (V.ref d),some (.ref a),some (.ref p),some x,x4]/\ExtBut d H J/\Feed J d l/\J q=some (.lst xs)/\Fz H2 J/\J p=some (.lst zs)/\IsL K J (Y.map prD) zs/\Up ls Y/\Y.length=qs.length+j)
      ⟨ys,qs,_,rfl,by walk_at "fr",aT,aN,aK,aM,aU,aD,rfl⟩ (λ_ _ _ _=>trivial) (λj x' σ J b4 hj U=>?_) (fun σ J U=>?_)
     . obtain⟨zs,Y,b5,rfl,e5,a2,a7,a5,aB,a1,a6,aI⟩:=U;obtain⟨rfl,b9⟩:=Hg b4;have bI:=Sj a1
       have aY:j<2:=by
        have:(1+if decide (V.int u=V.int 0)=true then(1:Int) else 0).toNat<=2:=by split<;>omega
        omega
       symm
       refine⟨d,l,_,rfl,a2,by omega,by omega,λu2 H6 b2 bG e6 b7=>?_⟩;have aG:H6 p=some (.lst zs):=e6 _ _ aE aB;have aO:H6 q=some (.lst xs):=e6 _ _ (a2.lst a7) a7
       symm
       refine aS3 aG b2 ∅ ∅ λH7 e7 aP=>?_;have a8:Fz J H6:=a2.fz e6;have a9:Fz H6 H7:=e7.fzL aG
       symm
       refine⟨_,_,_,rfl,by walk_at "fr",by walk_at "fd",e7 _ _ (Ne.symm b1) aO,(a5.trans a8).trans a9,aP,aC4 u2.toNat (IsL.fz (a8.trans a9) _ _ (C0 Y) a1) (Is.fz ((a5.trans a8).trans a9) _ _ (Ho pr) aX),?_,?_⟩
       . intro z hz;rcases A0A.mp hz with hz|hz
         . exact a6 z (A2N hz)
         rcases A0B.mp hz with rfl|hz
         . exact aW _ (by simp)
         exact a6 z (A3B hz)
       rw[A06,A0G,A10,A1C];omega
     obtain⟨zs,Y,b5,rfl,e5,a2,a7,a5,aB,a1,a6,aI⟩:=U;rw[A01,A1V] at aI;have aY:(1+if decide (V.int u=V.int 0)=true then(1:Int) else 0).toNat<=2:=by split<;>omega
     exact⟨zs,Y,_,_,rfl,e5,a2,a7,a5,aB,a1,a6,by omega⟩
 obtain⟨ys,qs,x3,x4,rfl,e3,a0,a4,aF,aA,aC,aD,aZ⟩:=U
 symm
 refine Nm (SqL.of aA) λt H4 bC Z h4=>?_
 symm
 rw[Kx nofun] at h4;refine Mz (SqL.of h4) λt2 J bD e5 h5=>?_;have a1:IsL K J (qs.map prD) ys:=IsL.mono e5 _ _ (IsL.mono Z _ _ aC);refine k (.ref t2) (qs.take 60) J (by walk_at "fr") (by walk_at "fd") (Is.of_tup (SqT.of h5) ?_) (aD.sub λz hz=>A2N hz) ?_
 . rw[A40];exact IsL.take 60 a1
 rw[A10];omega
def He (K:W.Frag):Sp:=λvs H Q _=>∃ d l n,vs=[.ref d,.int n]/\Feed H d l/\0<=n/\n<=10/\∀ v ns ps H',ExtBut d H H'->Feed H' d l->Is K H' (hfD ns ps) v->Half ns ps->ns.length<=n.toNat->Q v H'
theorem ay4 {ns ls:List Str}{ps:List (Str×Str)}(h:Names ns)(q:ns.length<=10)(p:ls.Perm ns)(u:Up ls ps)(hp:ps.length<=60):Half ns ps:=⟨h,q,hp,ls,p,u⟩
theorem Uv {ns:List Str}{ys:List V}(h:ys.Perm (ns.map V.str)):∃ ls:List Str,ys=ls.map V.str/\ls.Perm ns:=by
 refine⟨ys.map λv=>match v with | .str z=>z | _=>"",?_,?_⟩
 . rw[A19]
   have:∀ v∈ys,(V.str∘λv=>match v with | .str z=>z | _=>"") v=v:=λv q=>by obtain⟨z,_,rfl⟩:=A0I.mp (h.mem_iff.mp q);rfl
   rw[A0Z this];simp
 have:=h.map λv=>match v with | .str z=>z | _=>("":Str)
 rw[A19] at this
 have e:ns.map ((λv=>match v with | .str z=>z | _=>("":Str))∘V.str)=ns:=by rw[show((λv=>match v with | .str z=>z | _=>("":Str))∘V.str)=id from rfl,List.map_id]
 rw[e] at this;exact this
theorem Ul {f:Addr}{fd:FuncData}(F:Fun K "_law_half" "_law_half" Et f fd)(T:Eo mg)(A8:Fnd P w K mg base 1 "_law_draw" ["_law_feed_here","_law_many"] (Bj K))(Ee:Fnd P w K mg base 2 "_law_names" ["_law_feed_here","_law_many"] (Ga K))(Br:Fnd P w K mg base 2 "_law_shuffled" ["_law_feed_here","_law_some"] (Di K))(Hk:Fnd P w K mg base 3 "_law_sayings" ["_law_feed_here","_law_line"] (Gp K)):FnOk P w K mg base CX0 4 f fd ["_law_feed_here","_law_most"] (He K):=by
 refine F.ok Mr (λvs H Q E h=>?_) (λa8 A outer s H vs Q E q h=>?_)
 . obtain⟨d,l,n,rfl,_⟩:=h;rfl
 obtain⟨d,l,n,rfl,hF,h0,a9,k⟩:=h;have hu:=Bf q;have hq:=Be q
 with_reducible refine⟨_,(A3 (Aa (i:=2) Mr.nd ⋯ (by eq_refl) (Ao Ee (q.mono nofun) ⋯ (A1 (pv 0) (A1 (Ao A8 (q.mono nofun) ⋯ (A1 (pv 0) (A1 (Ap (Al (K:=K)) (pv 1) A5) A2))) A2))))
  (A7 (An (B6 (A1 (B1 (Co (K:=K)) ⋯ T.b_tuple PyProof.Rows.Boot.«tuple» (A1 (pv 2) A2)) (A1 (Ao Hk (q.mono nofun) ⋯ (A1 (pv 0) (A1 (Ao Br (q.mono nofun) ⋯ (A1 (pv 0) (A1 (pv 2) A2))) A2))) A2)))))),?_⟩
 symm
 refine⟨d,l,_,rfl,hF,by omega,by omega,λu H1 aF aG e1 a2=>?_⟩
 symm
 refine⟨d,l,_,rfl,a2,by omega,by omega,λp2 ns H2 aB e2 a3 h2 hN hl=>?_⟩
 symm
 refine Mz (SqL.of h2) λt3 H3 aD J h3=>?_;have U:=a3.same J;have a4:Is K H3 (nmD ns) (.ref t3):=Np (SqT.of h3)
 symm
 refine⟨d,l,p2,_,rfl,U,.inl (SqL.of (J _ _ h2)),by rw[A01];omega,λp4 aH H4 aC e4 Y h4 a7=>?_⟩;obtain⟨ls,rfl,Z⟩:=Uv a7;have a0:=U.fz e4
 symm
 refine⟨d,l,p4,ls,rfl,Y,h4,by rw[Z.length_eq];omega,λv5 ps H5 e5 aA a5 hU a6=>?_⟩;have a1:=Y.fz e5
 symm
 refine B7 (A9 (by simp)) λt6 H6 aE O h6=>?_;exact k (.ref t6) ns ps H6 (by walk_at "fr") (by walk_at "fd") (al8 (SqT.of h6) (a4.nm_fz ((a0.trans a1).trans O.fz)) (a5.ps_fz O.fz)) (ay4 hN ∅ Z hU a6) ∅
def C3 (K:W.Frag):Sp:=λvs H Q _=>∃ v ns ps,vs=[v]/\Is K H (hfD ns ps) v/\Pq ns ps/\∀ r as H',H r=none->(∀ a∈as,H a=none)->Same H H'->Tab H' r ns as (Way ps)->Q (.ref r) H'
theorem Qe {f:Addr}{fd:FuncData}(F:Fun K "behind_each" "behind_each" Cs f fd)(T:Eo mg):FnOk P w K mg base CX0 1 f fd ["half"] (C3 K):=by
 refine F.ok Ch (λvs H Q E h=>?_) (λbG A outer s H vs Q E hr h=>?_)
 . obtain⟨v,ns,ps,rfl,_⟩:=h;rfl
 obtain⟨v,ns,ps,rfl,hI,hW,k⟩:=h;have hu:=Bf hr;have hq:=Be hr;have hn:=hW.nd;have bH:=hW.few
 with_reducible refine⟨_,(A3 (Aa (i:=1) Ch.nd ⋯ (by eq_refl) (Ad (A6 (K:=K) hu) (pv 0) A5 (by ac_rfl)))
  (A3 (Aa (i:=2) Ch.nd ⋯ (by eq_refl) (B1 (Md (K:=K) hr.hd) ⋯ T.b_dict PyProof.Rows.Boot.«dict» (A1 (Cb ["name"] [] [] ⋯ ⋯ ⋯ (As (K:=K) hu (pv 1)) (λ_ _ _ _=>(Ag (i:=0) (by with_unfolding_all (show(["name"]:List Str).Nodup;decide +kernel)) ⋯ (by eq_refl))) (Bq nofun) (λ_ _ _ _=>G1) (λ_ _ _ _=>(B6 (A1 (pv 0) (A1 Ng A2))))) A2)))
  (A3 (C4 A0V ⋯ (As (K:=K) hu (Ad (A6 (K:=K) hu) (pv 0) A5 (by ac_rfl))) (Ag (i:=3) Ch.nd ⋯ (by eq_refl))
  (A7 (Fh hu (Ad (A6 (K:=K) hu) (pv 2) (Ad (A6 (K:=K) hu) (pv 3) A5 (by ac_rfl)) (by ac_rfl)) (Ad (A6 (K:=K) hu) (pv 3) A5 (by ac_rfl)) Z0 ⋯)))
  (A3 (C4 A0V ⋯ (As (K:=K) hu (pv 1)) (Ag (i:=4) Ch.nd ⋯ (by eq_refl))
  (A7 (C4 A0V ⋯ (As (K:=K) hu (pv 1)) (Ag (i:=5) Ch.nd ⋯ (by eq_refl))
  (A7 (Cj (Ak (Mt (K:=K) hq) (pv 4) (Ad (A6 (K:=K) hu) (pv 2) (pv 5) (by ac_rfl)) ⋯) (A7 (Dd (G3 (K:=K) A2U PySem.F.slot_dict_update PySem.F.type_dict_update (mm Qz) (Ad (A6 (K:=K) hu) (pv 2) (pv 5) (by ac_rfl)) (A1 (Ad (A6 (K:=K) hu) (pv 2) (pv 4) (by ac_rfl)) A2)))) Ay)))))
  (A7 (An (pv 2))))))),?_⟩
 symm
 refine Hf hI λnv hN=>?_
 symm
 obtain⟨na,rfl,hS⟩:=hN.nm;refine X9 hS ?_;refine Ik (Ir (xs:=ns.map V.str)) (λp i acc H1=>Same H H1/\∃ as:List Addr,as.length=i/\as.Nodup/\(∀ a∈as,H1 a=some (.dK [])/\H a=none)/\PrsK K H1 (Gj (ns.take i) as) acc) (λp H' hp e h=>⟨e,[],rfl,by simp,λ_ h=>(by cases h),by rfl⟩) (λp i acc H1 J=>J.1.seqT hS) (λp i x acc H1 hp hx hi hl ha J=>?_) λp acc H1 hp ha hl J=>?_
 . obtain ⟨e1,as,a8,aJ,a3,a5⟩:=J;rw[A07] at hx
   cases hz:ns[i]? with
   |none=>rw[hz] at hx;cases hx
   |some z=>
     rw[hz] at hx
     cases hx;have aL:i<ns.length:=(A00.mp hz).1
     symm
     refine Yo λb H2 aK e2 h2=>?_
     symm
     refine B7 (A9 (by simp)) λt H3 bJ e3 h3=>?_;have aO:H3 p=some (.lst acc):=e3 _ _ (e2 _ _ ha);refine Lg (by rw[A01];omega) hi hl aO λY Z h4=>?_;have b4:b≠p:=Ne.symm (ne_of_none ha aK);refine⟨by walk_at "sm",as++[b],by simp[a8],?_,λa a0=>?_,?_⟩
     . rw[A1G];refine⟨aJ,by simp,λa b2 c hc e=>?_⟩;have:c=b:=by simpa using hc
       subst this;subst e;have:=(a3 _ b2).1;rw[aK] at this
       cases this
     . rcases A0A.mp a0 with a0|a0
       . obtain⟨q1,q2⟩:=a3 a a0;exact⟨Z _ _ (ne_of q1 ha (by intro z;cases z)) (e3 _ _ (e2 _ _ q1)),q2⟩
       have:a=b:=by simpa using a0
       subst this;exact⟨Z _ _ b4 (e3 _ _ h2),e1.free aK⟩
     have ht:ns.take (i+1)=ns.take i++[z]:=by rw[A0R,hz];rfl
     have b7:(ns.take i).length=as.length:=by rw[A10,a8];omega
     rw[ht,Nj b7];have a6:=Z.fzL aO;exact PrsK.snoc (kv:=(Sum.inr z,V.ref b)) (a6.seq (SqT.of h3)) (PrsK.fz ((e2.fz.trans e3.fz).trans a6) a5)
 obtain⟨e1,as,a8,aJ,a3,a5⟩:=J;rw[A01] at a8;rw[A01,A0W] at a5
 symm
 refine ac2 ha a5 (by unfold Gj;rw[List.length_map,List.length_zip];omega) λr H2 aW e2 h2=>?_;rw[L7 _ _ (Rm hn) (λ_ _ _ h=>by cases h),A44] at h2;have bC:H r=none:=e1.free aW
 have bD:r∉as:=λhm=>by
  have:=(a3 r hm).1;rw[aW] at this
  cases this
 have aZ:Tab H2 r ns as (λz y=>(z,y)∈ps.take 0):=⟨a8,aJ,bD,h2,λi z a hz a0=>⟨[],e2 _ _ (a3 a (List.mem_of_getElem? a0)).1,by simp,λ_ h=>(by cases h),λy=>by simp⟩⟩
 symm
 refine ag0 (hI.hf_fz (by walk_at "fz")) λpv aY=>?_
 refine aK4 aY (λi σ H3=>∃ x3,σ=[some v,some (.ref na),some (.ref r),x3,none,none]/\Same H H3/\Fz H2 H3/\Tab H3 r ns as (λz y=>(z,y)∈ps.take i))
  ⟨none,rfl,by walk_at "sm",.refl _,aZ⟩ (λi σ' H' J=>J.choose_spec.2.2.1) (λi pr w σ' H3 a5 aP J=>?_) (fun σ' H3 J=>?_)
 . obtain⟨x3,rfl,e3,aN,hT⟩:=J;have aV:=hW.mem pr (A04 a5);obtain⟨j,a,hj,aG⟩:=hT.at aV.1;obtain⟨ks,a2,aB,aC,aH⟩:=hT.row j _ a hj aG;have b6:ks.length<=ns.length:=C1 aB aC
   symm
   refine Vv aP ?_;refine Ti hT hn hj aG ?_
   symm
   refine Ny aP ?_;refine J3 a2 (by rw[K7];omega) λY Z h4=>?_;rw[Wt] at h4
   symm
   have b1:H a=none:=(a3 a (A04 aG)).2;refine⟨_,rfl,by walk_at "sm",aN.trans (Z.fzD a2),hT.put Z hn hj aG h4 (Jr aB) (λy hy=>?_) (λy=>?_) (λz hz bE y=>?_)⟩
   . rcases mem_addK.mp hy with hy|rfl
     . exact aC y hy
     exact aV.2
   . rw[mem_addK,aH,A0R,a5,A0A];constructor
     . rintro(h|rfl)
       . exact .inl h
       exact .inr (by simp)
     rintro(h|h)
     . exact .inl h
     right
     have:(pr.1,y)=pr:=by simpa using h
     rw[<- this]
   rw[A0R,a5,A0A];constructor
   . exact .inl
   rintro(h|h)
   . exact h
   have:(z,y)=pr:=by simpa using h
   exact absurd (by rw[<- this]) bE
 obtain⟨x3,rfl,e3,aN,hT⟩:=J;rw[A0W] at hT;have b0:War ns ps [] (λz y=>(z,y)∈ps):=⟨λz y h=>.one h,λz y h=>h,λm hm=>by cases hm⟩
 symm
 have aQ:Is K H3 (nmD ns) (.ref na):=hN.nm_fz e3.fz
 refine Ml aQ (λi σ Y=>∃ x4 x5 R,σ=[some v,some (.ref na),some (.ref r),x3,x4,x5]/\Same H Y/\Fz H3 Y/\Tab Y r ns as R/\War ns ps (ns.take i) R)
  ⟨_,_,_,rfl,e3,.refl _,hT,b0⟩ (λi σ' H' J=>?_) (λi U σ' Y aS J=>?_) (fun σ' Y J=>?_)
 . obtain⟨_,_,_,_,_,fz,_⟩:=J;exact fz
 . obtain⟨x4,x5,R,rfl,Z,a6,aF,hR⟩:=J;obtain⟨jm,am,aA,a9⟩:=aF.at (A04 aS);have aX:Is K Y (nmD ns) (.ref na):=aQ.nm_fz a6
   symm
   refine Ml aX (λj σ H5=>∃ x5,σ=[some v,some (.ref na),some (.ref r),x3,some (.str U),x5]/\Same H H5/\Fz Y H5/\Tab H5 r ns as (ar6 R U (ns.take j)))
    ⟨_,rfl,Z,.refl _,aF.congr λz _ y=>⟨.inl,λh=>h.elim (λq=>q) λq=>absurd q.1 (by simp)⟩⟩ (λi σ' H' J=>J.choose_spec.2.2.1) (λj nm σ' H5 aU J=>?_) (fun σ' H5 J=>?_)
   . obtain⟨bF,rfl,e5,a7,O⟩:=J;obtain⟨jn,an,a4,a1⟩:=O.at (A04 aU);obtain⟨ks,a2,aB,aC,aH⟩:=O.row jn nm an a4 a1;obtain⟨ms,b8,b9,aR,bA⟩:=O.row jm U am aA a9;have b6:ks.length<=ns.length:=C1 aB aC;have bI:ms.length<=ns.length:=C1 b9 aR;have aI:ns.take (j+1)=ns.take j++[nm]:=by rw[A0R,aU];rfl
     have aL:U∈ks↔R nm U:=(aH U).trans ⟨λh=>h.elim (λq=>q) λq=>q.2.1,.inl⟩;have bB:∀ y,y∈ms↔R U y:=λy=>(bA y).trans ⟨λh=>h.elim (λq=>q) λq=>q.2.2,.inl⟩
     have aM:∀ z∈ns,z≠nm->∀ y,ar6 R U (ns.take j) z y↔ar6 R U (ns.take (j+1)) z y:=λz _ hz y=>by unfold ar6;rw[aI,A0A,A0K];simp[hz]
     symm
     refine Ti O hn a4 a1 ?_;refine Wx a2 ?_
     symm
     refine Ll (λhc=>?_) (λhc=>?_)
     . have aE:=aL.mp hc
       by_cases aT:nm=U
       . subst aT
         have b5:jn=jm:=by obtain⟨p1,p2⟩:=A00.mp a4;obtain⟨q1,q2⟩:=A00.mp aA;exact(A1H hn).mp (p2.trans q2.symm)
         subst b5;rw[a1] at a9
         cases a9
         symm
         refine Ti O hn a4 a1 ?_;refine a06 a2 ?_
         symm
         refine Ti O hn a4 a1 ?_
         symm
         refine aL3 a2 ?_
         symm
         refine⟨_,rfl,e5,a7,O.congr λz hz y=>?_⟩
         by_cases aD:z=nm
         . subst aD;unfold ar6;constructor
           . exact λh=>.inl (h.elim (λq=>q) λq=>q.2.2)
           exact λh=>.inl (h.elim (λq=>q) λq=>q.2.2)
         exact aM z hz aD y
       have b3:an≠am:=λq=>by subst q;obtain⟨p1,p2⟩:=A00.mp a1;obtain⟨q1,q2⟩:=A00.mp a9;have:=(A1H O.nd).mp (p2.trans q2.symm);subst this;rw[a4] at aA;exact aT (A13 aA)
       symm
       refine Ti O hn a4 a1 ?_;refine a06 a2 ?_
       symm
       refine Ti O hn aA a9 ?_
       symm
       refine ac0 a2 b8 b3 ∅ λH6 e6 h6=>?_
       symm
       have b1:H an=none:=(a3 an (A04 a1)).2;refine⟨_,rfl,by walk_at "sm",a7.trans (e6.fzD a2),O.put e6 hn a4 a1 h6 (Hb aB) (λy hy=>?_) (λy=>?_) aM⟩
       . rcases mem_addAll.mp hy with hy|hy
         . exact aC y hy
         exact aR y hy
       rw[mem_addAll,aH,bB];unfold ar6;rw[aI,A0A,A0K];constructor
       . rintro((h|h)|h)
         . exact .inl h
         . exact .inr ⟨.inl h.1,h.2⟩
         exact .inr ⟨.inr rfl,aE,h⟩
       rintro(h|h)
       . exact .inl (.inl h)
       exact .inr h.2.2
     have aE:¬ R nm U:=λq=>hc (aL.mpr q)
     symm
     refine⟨_,rfl,e5,a7,O.congr λz hz y=>?_⟩
     by_cases aD:z=nm
     . subst aD;unfold ar6;constructor
       . exact λh=>.inl (h.elim (λq=>q) λq=>absurd q.2.1 aE)
       exact λh=>.inl (h.elim (λq=>q) λq=>absurd q.2.1 aE)
     exact aM z hz aD y
   obtain⟨bF,rfl,e5,a7,O⟩:=J;rw[A0W] at O;refine⟨_,_,_,rfl,e5,a6.trans a7,O.congr (R':=λz y=>R z y\/(R z U/\R U y)) λz hz y=>?_,?_⟩
   . unfold ar6;simp[hz]
   have aI:ns.take (i+1)=ns.take i++[U]:=by rw[A0R,aS];rfl
   rw[aI];exact hR.step
 obtain⟨x4,x5,R,rfl,Z,a6,aF,hR⟩:=J;rw[A0W] at hR
 symm
 exact k r as Y bC (λa a0=>(a3 a a0).2) Z (aF.congr λz _ y=>hR.done hW.mem z y)
def Dm (K:W.Frag):Sp:=λvs H Q _=>∃ v u ns ps xs,vs=[v,u]/\Is K H (hfD ns ps) v/\Is K H (nmD xs) u/\(∀ x∈xs,x∈ns)/\Q .non H
theorem Kh {f:Addr}{fd:FuncData}(F:Fun K "refuse_strangers" "refuse_strangers" Bg f fd)(T:Eo mg):FnOk P w K mg base CX0 1 f fd ["half","asked"] (Dm K):=by
 refine F.ok Gv (λvs H Q E h=>?_) (λa0 A outer s H vs Q E U h=>?_)
 . obtain⟨v,u,ns,ps,xs,rfl,_⟩:=h;rfl
 obtain⟨v,u,ns,ps,xs,rfl,Y,hU,hx,k⟩:=h;have hu:=Bf U;have hq:=Be U
 with_reducible refine⟨_,(A7 (C4 A0V ⋯ (As (K:=K) hu (pv 1)) (Ag (i:=2) Gv.nd ⋯ (by eq_refl))
  (A7 (Cj (Ak (Gs (K:=K) hq) (pv 2) (Ad (A6 (K:=K) hu) (pv 0) A5 (by ac_rfl)) ⋯) (A7 L4) Ay)))),?_⟩
 symm
 refine Ml hU (λi σ H1=>∃ J,σ=[some v,some u,J]/\H1=H) ⟨_,rfl,rfl⟩ (λi σ' H' q=>?_) (λi z σ' H1 hz q=>?_) (fun σ' H1 q=>?_)
 . obtain⟨_,_,rfl⟩:=q;exact .refl _
 . obtain⟨J,rfl,rfl⟩:=q
   symm
   refine Hf Y λnv Z=>?_;refine aq7 Z ?_
   symm
   refine aC9 (λO=>absurd (hx z (A04 hz)) O) (λO=>?_)
   symm
   exact⟨_,rfl,rfl⟩
 obtain⟨J,rfl,rfl⟩:=q;exact k
theorem az7 {x y:Str}{ns:List Str}(q:x∈ns)(F:y∈ns):∀ z∈[x,y],z∈ns:=λz hz=>by
 rcases A0B.mp hz with rfl|hz
 . exact q
 have:z=y:=by simpa using hz
 subst this;exact F
def Nw (K:W.Frag):Sp:=λvs H Q _=>∃ v ns ps,vs=[v]/\Is K H (hfD ns ps) v/\HalfW ns ps/\∀ u H',Same H H'->Is K H' (psD (clP ns ps)) u->Q u H'
def De (K:W.Frag):Sp:=λvs H Q _=>∃ r v ns ps as p,vs=[.ref r,v]/\TabR H r ns as (Way ps)/\ns.Nodup/\ns.length<=100/\(∀ q∈ps,q.1∈ns/\q.2∈ns)/\Is K H (prD p) v/\p.1∈ns/\∀ H',Keep as H H'->Q (.bl (thB ns ps p)) H'
theorem aa8 {f:Addr}{fd:FuncData}(F:Fun K "closed" "closed" Jx f fd)(T:Eo mg)(Ar:Fnd P w K mg base 1 "behind_each" ["half"] (C3 K)):FnOk P w K mg base CX0 2 f fd ["half"] (Nw K):=by
 refine F.ok Lk (λvs H Q E h=>?_) (λaH A outer s H vs Q E hr h=>?_)
 . obtain⟨v,ns,ps,rfl,_⟩:=h;rfl
 obtain⟨v,ns,ps,rfl,hI,hW,k⟩:=h;have hu:=Bf hr;have hq:=Be hr;have aJ:=hW.few
 with_reducible refine⟨_,(A3 (Aa (i:=1) Lk.nd ⋯ (by with_unfolding_all exact A3I rfl) (Ao Ar (hr.mono nofun) ⋯ (A1 (pv 0) A2)))
  (A3 (Aa (i:=2) Lk.nd ⋯ (by eq_refl) (Bv A2))
  (A3 (C4 A0V ⋯ (As (K:=K) hu (Ad (A6 (K:=K) hu) (pv 0) A5 (by ac_rfl))) (Ag (i:=3) Lk.nd ⋯ (by with_unfolding_all exact A3I rfl))
  (A7 (Dd (G3 (K:=K) A17 A2Q A2R (mm Jh) (pv 2) (A1 (Cb ["other"] ["one","reach"] [3,1] ⋯ ⋯ ⋯ (As (K:=K) hu (Ad (A6 (K:=K) hu) (pv 0) A5 (by ac_rfl))) (λ_ _ _ _=>(Ag (i:=0) (by with_unfolding_all (show(["other","one","reach"]:List Str).Nodup;decide +kernel)) ⋯ (by eq_refl))) (Bq nofun) (λ_ _ _ _=>(G2 (Ak (Mt (K:=K) hq) (pv 0) (Ad (A6 (K:=K) hu) (pv 2) (pv 1) (by ac_rfl)) ⋯))) (λ_ _ _ _=>(B6 (A1 (pv 1) (A1 (pv 0) A2))))) A2)))))
  (A7 (An (B1 (Co (K:=K)) ⋯ T.b_tuple PyProof.Rows.Boot.«tuple» (A1 (pv 2) A2))))))),?_⟩
 symm
 refine⟨v,ns,ps,rfl,hI,hW,λr as H1 aP aI e1 hT=>?_⟩
 symm
 refine Bu (A9 (by simp)) λp H2 aE e2 h2=>?_
 symm
 refine Hf (hI.hf_fz (by walk_at "fz")) λnv hN=>?_
 refine Ml hN (λi σ O=>∃ x3,σ=[some v,some (.ref r),some (.ref p),x3]/\Same H1 O/\Fz H2 O/\∃ ys,O p=some (.lst ys)/\IsL K O (((ns.take i).flatMap (clR ns ps)).map prD) ys/\ys.length<=i*100)
  ⟨none,rfl,e2,.refl _,[],h2,by simp only[List.take_zero,List.flatMap_nil,List.map_nil];exact .nil,by simp⟩ (λi σ' H' Z=>?_) (λi z σ' O hz Z=>?_) (fun σ' O Z=>?_)
 . obtain⟨_,_,_,fz,_⟩:=Z;exact fz
 . obtain⟨x3,rfl,Y,a3,ys,h3,hL,aD⟩:=Z;have a8:Is K O (hfD ns ps) v:=hI.hf_fz (e1.fz.trans Y.fz);have aG:=A04 hz;have aK:i<ns.length:=(A00.mp hz).1
   symm
   refine Hf a8 λaR a9=>?_;refine Rq a9 (λy=>Ab ps z y) (λy=>prD (z,y)) (λ_=>Ho _) ∅ (λj y U R R' hy J hR aA=>?_) (λq zs U aO J h4 a5=>?_)
   . have a2:=hT.same (Y.trans J);obtain⟨a0,b0,a6,a7⟩:=a2.at aG;obtain⟨ks,aB,aL,aM,aC⟩:=a2.row a0 z b0 a6 a7
     symm
     refine Ti a2 hW.nd a6 a7 ?_;refine Wx aB ?_;rw[L1 (aC y)]
     symm
     refine aF1 (λhc=>?_) (λhc=>?_)
     . symm
       refine B7 (A9 (by simp)) λt H5 aQ e5 h5=>?_;exact hR hc _ _ e5 (Vk (SqT.of h5))
     exact aA hc _ (Same.refl _)
   symm
   have a4:=J _ _ h3
   have aN:zs.length<=ns.length:=by rw[<- IsL.length a5,A01];exact A0U _ _
   refine Uc a4 h4 ∅ λH5 e5 h5=>?_
   symm
   have a1:Fz U H5:=e5.fzL a4;refine⟨_,rfl,?_,(a3.trans J.fz).trans a1,_,h5,?_,?_⟩
   . refine Same.off (q:=p) (H1:=U) (Y.trans J) ?_ e5;exact aE
   . have ht:ns.take (i+1)=ns.take i++[z]:=by rw[A0R,hz];rfl
     rw[ht,A2E,A0T];refine IsL.append (IsL.fz (J.fz.trans a1) _ _ (C0 _) hL) ?_
     have e:([z].flatMap (clR ns ps)).map prD=(ns.filter λy=>Ab ps z y).map λy=>prD (z,y):=by simp[clR,Function.comp_def]
     rw[e];exact IsL.fz a1 _ _ (Cu _ (λ_=>Ho _) _) a5
   rw[A06];omega
 obtain⟨x3,rfl,Y,a3,ys,h3,hL,aD⟩:=Z;rw[A0W] at hL
 symm
 exact Rz h3 hL λu U J aF=>k u U ((e1.trans Y).trans J) aF
theorem Jz {f:Addr}{fd:FuncData}(F:Fun K "has_third_between" "has_third_between" Bb f fd)(T:Eo mg):FnOk P w K mg base CX0 1 f fd ["reach","pair"] (De K):=by
 refine F.ok K0 (λvs H Q E h=>?_) (λaC A outer s H vs Q E hr h=>?_)
 . obtain⟨r,v,ns,ps,as,p,rfl,_⟩:=h;rfl
 obtain⟨r,v,ns,ps,as,p,rfl,U,hn,aD,aH,hI,aB,k⟩:=h;have hu:=Bf hr;have hq:=Be hr;obtain⟨i,a,hi,Z⟩:=U.at aB;obtain⟨ks,a6,a7,a0,a8⟩:=U.row i p.1 a hi Z;have aE:ks.length<=ns.length:=C1 a7 a0
 with_reducible refine⟨_,(A7 (An (Aq (ab4 (K:=K) ⋯) ⋯ T.b_any PyProof.Rows.Boot.«any» (A1 (Cb ["third"] ["pair","reach"] [1,0] ⋯ ⋯ ⋯ (As (K:=K) hu (Ad (A6 (K:=K) hu) (pv 0) (Ad (A6 (K:=K) hu) (pv 1) A5 (by ac_rfl)) (by ac_rfl))) (λ_ _ _ _=>(Ag (i:=0) (by with_unfolding_all (show(["third","pair","reach"]:List Str).Nodup;decide +kernel)) ⋯ (by eq_refl))) (Bq nofun) (λ_ _ _ _=>G1) (λ_ _ _ _=>(Fl (Mt (K:=K) hq) (Ad (A6 (K:=K) hu) (pv 1) A5 (by ac_rfl)) (Ad (A6 (K:=K) hu) (pv 2) (pv 0) (by ac_rfl)) ⋯))) A2)))),?_⟩
 symm
 refine Vv hI ?_;refine Mh U hn hi Z ?_;refine Ri a6 (A04 Z) λo H1 k1 h1=>?_;have a4:=hI.pr_fz k1.fz;have a5:=U.keep k1;refine Nh La (λx=>match x with | .str z=>.bl (Ab ps z p.2) | w=>w) (by rw[A01,K7];omega) (λH' e=>e _ _ h1) (λj x H2 R J O hR=>?_) (λq H2 aI O h2=>?_)
 . obtain⟨z,hz,rfl⟩:∃ z,z∈ks/\x = .str z:=by
    unfold Hh at J;rw[A19,A07] at J
    cases hz:ks[j]? with
    |none=>rw[hz] at J;cases J
    |some z=>
      rw[hz] at J
      cases J;exact⟨z,A04 hz,rfl⟩
   have Y:=a5.same O;obtain⟨i2,a2,a3,a1⟩:=Y.at (a0 z hz);obtain⟨ms,a9,aF,aG,aA⟩:=Y.row i2 z a2 a3 a1
   symm
   refine Ny (a4.pr_fz O.fz) ?_
   symm
   refine Mh Y hn a3 a1 ?_;refine Y3 a9 ?_;rw[L1 (aA p.2)];exact hR
 symm
 have e:((Hh ks).map λkv=>kV kv.1).map (λx=>match x with | .str z=>.bl (Ab ps z p.2) | w=>w)=(ks.map λz=>Ab ps z p.2).map V.bl:=by unfold Hh;rw[A19,A19,A19];rfl
 rw[e] at h2;refine aU5 (SqL.of h2) ?_;rw[ay7 a0 a8];exact k H2 (k1.trans (O.keep as))
def Wj (K:W.Frag):Sp:=λvs H Q _=>∃ v ns ps,vs=[v]/\Is K H (hfD ns ps) v/\HalfW ns ps/\∀ u H',Same H H'->Is K H' (psD (baP ns ps)) u->Q u H'
def Gd (K:W.Frag):Sp:=λvs H Q _=>∃ r x y ns ps as,vs=[.ref r,.str x,.str y]/\TabR H r ns as (Way ps)/\ns.Nodup/\x∈ns/\y∈ns/\Q (.bl (unB ps x y)) H
def J8 (K:W.Frag):Sp:=λvs H Q _=>∃ r ns ps as,vs=[.ref r]/\Tab H r ns as (Way ps)/\ns.Nodup/\ns.length<=100/\∀ u H',Same H H'->Is K H' (psD (unP ns ps)) u->Q u H'
theorem Lh:∀ {ns:List Str} {as:List Addr},as.length=ns.length->(Gj ns as).map (λkv=>kV kv.1)=ns.map V.str
 | [],[],_=>rfl
 | [],_ :: _,h=>by simp at h
 |_ :: _,[],h=>by simp at h
 |n :: ns,a :: as,h=>by have q:=Lh (ns:=ns) (as:=as) (by simpa using h);unfold Gj at q ⊢;rw[A5L,A0H,A0H,q];rfl
def Oj (K:W.Frag):Sp:=λvs H Q _=>∃ v ns ps,vs=[v]/\Is K H (hfD ns ps) v/\HalfW ns ps/\∀ u H',Same H H'->Is K H' (psD (unP ns ps)) u->Q u H'
theorem aB8 {f:Addr}{fd:FuncData}(F:Fun K "bare" "bare" Qn f fd)(T:Eo mg)(Ar:Fnd P w K mg base 1 "behind_each" ["half"] (C3 K))(Rk:Fnd P w K mg base 2 "closed" ["half"] (Nw K))(Dp:Fnd P w K mg base 1 "has_third_between" ["reach","pair"] (De K)):FnOk P w K mg base CX0 3 f fd ["half"] (Wj K):=by
 refine F.ok af3 (λvs H Q E h=>?_) (λa6 A outer s H vs Q E O h=>?_)
 . obtain⟨v,ns,ps,rfl,_⟩:=h;rfl
 obtain⟨v,ns,ps,rfl,hI,J,k⟩:=h;have hu:=Bf O;have hq:=Be O;have Y:=J.few;have a7:(clP ns ps).length<=10000:=A0O (aw0 ns ps) (A29 Y Y)
 with_reducible refine⟨_,(A3 (Aa (i:=1) af3.nd ⋯ (by with_unfolding_all exact A3I rfl) (Ao Ar (O.mono nofun) ⋯ (A1 (pv 0) A2)))
  (A7 (An (B1 (Co (K:=K)) ⋯ T.b_tuple PyProof.Rows.Boot.«tuple» (A1 (Cb ["pair"] ["reach"] [1] ⋯ ⋯ ⋯ (As (K:=K) hu (Ao Rk (O.mono nofun) ⋯ (A1 (pv 0) A2))) (λ_ _ _ _=>(Ag (i:=0) (by with_unfolding_all (show(["pair","reach"]:List Str).Nodup;decide +kernel)) ⋯ (by eq_refl))) (Bq nofun) (λ_ _ _ _=>(G2 (W4 (Mm (Ao Dp (O.mono nofun) ⋯ (A1 (pv 1) (A1 (pv 0) A2))))))) (λ_ _ _ _=>(pv 0))) A2))))),?_⟩
 symm
 refine⟨v,ns,ps,rfl,hI,J,λr as H1 a9 a4 e1 hT=>?_⟩
 symm
 refine⟨v,ns,ps,rfl,hI.hf_fz e1.fz,J,λu H2 e2 hU=>?_⟩;have a1:=hT.same e2;refine an5 hU as a1.some (λp=>!thB ns ps p) prD Ho ∅ (λi p w H3 R R' hp a0 k3 hR a3=>?_) (λq ys H3 a8 k3 h3 a2=>?_)
 . symm
   refine⟨r,w,ns,ps,as,p,rfl,a1.toR.keep k3,J.nd,Y,J.mem,a0,(mem_clP.mp (A04 hp)).1,λH4 Z=>?_⟩
   symm
   refine T5 (λU=>?_) (λU=>?_)
   . symm
     exact hR (by rw[U];rfl) _ _ Z (a0.pr_fz Z.fz)
   exact a3 (by rw[U];rfl) _ Z
 symm
 exact Rz h3 a2 λu H4 e4 a5=>k u H4 (((e1.trans e2).then a4 k3).trans e4) a5
theorem Sg {f:Addr}{fd:FuncData}(F:Fun K "are_untold" "are_untold" Dv f fd)(T:Eo mg):FnOk P w K mg base CX0 1 f fd ["reach","one","other"] (Gd K):=by
 refine F.ok Rt (λvs H Q E h=>?_) (λa4 A outer s H vs Q E hr h=>?_)
 . obtain⟨r,x,y,ns,ps,as,rfl,_⟩:=h;rfl
 obtain⟨r,x,y,ns,ps,as,rfl,q,hn,hx,hy,k⟩:=h;have hu:=Bf hr;have Z:=Be hr;obtain⟨i,a,hi,O⟩:=q.at hx;obtain⟨ks,a0,a5,a6,a1⟩:=q.row i x a hi O;obtain⟨j,b,Y,U⟩:=q.at hy;obtain⟨ms,a2,a7,a8,a3⟩:=q.row j y b Y U
 with_reducible refine⟨_,(A7 (An (Ku (Fl (Gs (K:=K) Z) (pv 2) (Ad (A6 (K:=K) hu) (pv 0) (pv 1) (by ac_rfl)) ⋯) (R5 (Fl (Gs (K:=K) Z) (pv 1) (Ad (A6 (K:=K) hu) (pv 0) (pv 2) (by ac_rfl)) ⋯))))),?_⟩
 symm
 refine Mh q hn hi O ?_;refine Uw a0 ?_;rw[L1 (a1 y)]
 symm
 refine T5 (λJ=>?_) (λJ=>?_)
 . symm
   refine Mh q hn Y U ?_;refine Uw a2 ?_;rw[L1 (a3 x)];unfold unB at k;rw[J] at k;exact k
 unfold unB at k;rw[J] at k;exact k
theorem Vr {f:Addr}{fd:FuncData}(F:Fun K "untold_of" "untold_of" Eu f fd)(T:Eo mg)(Dr:Fnd P w K mg base 1 "are_untold" ["reach","one","other"] (Gd K)):FnOk P w K mg base CX0 2 f fd ["reach"] (J8 K):=by
 refine F.ok Fp (λvs H Q E h=>?_) (λaH A outer s H vs Q E hr h=>?_)
 . obtain⟨r,ns,ps,as,rfl,_⟩:=h;rfl
 obtain⟨r,ns,ps,as,rfl,hT,aD,aC,k⟩:=h;have hu:=Bf hr;have hq:=Be hr
 with_reducible refine⟨_,(A3 (Aa (i:=1) Fp.nd ⋯ (by eq_refl) (B1 (Qq ⋯) ⋯ T.b_list PyProof.Rows.Boot.«list» (A1 (pv 0) A2)))
  (A3 (Aa (i:=2) Fp.nd ⋯ (by eq_refl) (Bv A2))
  (A3 (C4 A0V ⋯ (ao1 (K:=K) ⋯ T.b_enumerate (A1 (pv 1) A2)) (Lm (K:=K) (n:=2) ⋯ (Dh (Ag (i:=3) Fp.nd ⋯ (by eq_refl)) (Dh (Ag (i:=4) Fp.nd ⋯ (by with_unfolding_all exact A3I rfl)) Lp)))
  (A7 (Dd (G3 (K:=K) A17 A2Q A2R (mm Jh) (pv 2) (A1 (Cb ["other"] ["one","reach"] [4,0] ⋯ ⋯ ⋯ (As (K:=K) hu (C8 (X5 (K:=K)) (pv 1) (C9 (Ap (Al (K:=K)) (pv 3) A5)) Gz)) (λ_ _ _ _=>(Ag (i:=0) (by with_unfolding_all (show(["other","one","reach"]:List Str).Nodup;decide +kernel)) ⋯ (by eq_refl))) (Bq nofun) (λ_ _ _ _=>(G2 (Mm (Ao Dr (hr.mono nofun) ⋯ (A1 (pv 2) (A1 (pv 1) (A1 (pv 0) A2))))))) (λ_ _ _ _=>(B6 (A1 (pv 1) (A1 (pv 0) A2))))) A2)))))
  (A7 (An (B1 (Co (K:=K)) ⋯ T.b_tuple PyProof.Rows.Boot.«tuple» (A1 (pv 2) A2))))))),?_⟩
 symm
 refine ai1 hT.top (by unfold Gj;rw[List.length_map,List.length_zip];omega) λq H1 aN e1 h1=>?_;rw[Lh hT.len] at h1
 symm
 refine Bu (A9 (by simp)) λp H2 a5 e2 h2=>?_;have aM:q≠p:=ne_of_none h1 a5
 symm
 refine a56 (SqL.of (e2 _ _ h1)) (λi σ O=>∃ x3 x4,σ=[some (.ref r),some (.ref q),some (.ref p),x3,x4]/\Same H1 O/\Fz H2 O/\∃ ys,O p=some (.lst ys)/\IsL K O ((unK ns ps i).map prD) ys)
  ⟨none,none,rfl,e2,.refl _,[],h2,.nil⟩ (λi σ' H' hP=>?_) (λi x σ' aG O hx hP a0=>?_) (fun σ' O hP=>?_)
 . obtain⟨_,_,_,es,_⟩:=hP;exact SqL.of (es _ _ h1)
 . obtain⟨x3,x4,rfl,a6,a7,ys,a8,a9⟩:=hP
   obtain⟨z,hz,rfl⟩:∃ z,ns[i]? = some z/\x = .str z:=by
    rw[A07] at hx
    cases g:ns[i]? with
    |none=>rw[g] at hx;cases hx
    |some z=>rw[g] at hx;cases hx;exact⟨z,rfl,rfl⟩
   have Y:=a6.trans a0;have a2:=a7.trans a0.fz;have h3:=a0 _ _ a8;have Z:=IsL.mono a0 _ _ a9;have aF:=A04 hz;have aI:i<ns.length:=(A00.mp hz).1
   have aJ:ys.length<=i*ns.length:=by rw[<- IsL.length Z,A01];exact aA6 ns ps i
   have aK:i*ns.length<=100*100:=A29 ∅ aC
   symm
   refine Nm (SqL.of (Y _ _ h1)) λt H4 aP J h4=>?_;rw[show((i:Int)+1)=(((i+1:Nat)):Int) from rfl,al1 ∅] at h4;refine Ta (SqL.of h4) (λy=>unB ps z y) (λy=>prD (z,y)) (λ_=>Ho _) (by rw[A1C];omega) (λj y H5 R R' hy U hR aA=>?_) (λq5 zs H5 aO U h5 a4=>?_)
   . have aB:=hT.same (((e1.trans Y).trans J).trans U)
     symm
     refine⟨r,z,y,ns,ps,as,rfl,aB.toR,aD,aF,A3B (A04 hy),?_⟩
     symm
     refine aF1 (λhc=>?_) (λhc=>?_)
     . symm
       refine B7 (A9 (by simp)) λt H6 aQ e6 h6=>?_;exact hR hc _ _ e6 (Vk (SqT.of h6))
     exact aA hc _ (Same.refl _)
   symm
   have a3:=U _ _ (J _ _ h3)
   have aL:zs.length<=ns.length:=by rw[<- IsL.length a4,A01];exact A0O (A0U _ _) (by rw[A1C];omega)
   refine Uc a3 h5 ∅ λH6 e6 h6=>?_
   symm
   have a1:Fz H5 H6:=e6.fzL a3;refine⟨_,_,rfl,?_,((a2.trans J.fz).trans U.fz).trans a1,_,h6,?_⟩
   . exact Same.off (q:=p) (H1:=H5) ((Y.trans J).trans U) a5 e6
   rw[al3,A0T];refine IsL.append (IsL.fz ((J.fz.trans U.fz).trans a1) _ _ (C0 _) Z) ?_
   have e:(unR ns ps i).map prD=((ns.drop (i+1)).filter λy=>unB ps z y).map λy=>prD (z,y):=by unfold unR;rw[X3 hz,A19];rfl
   rw[e];exact IsL.fz a1 _ _ (Cu _ (λ_=>Ho _) _) a4
 obtain⟨x3,x4,rfl,Y,a2,ys,h3,Z⟩:=hP;rw[A01] at Z
 symm
 exact Rz h3 Z λu H4 J aE=>k u H4 ((e1.trans Y).trans J) aE
theorem a76 {f:Addr}{fd:FuncData}(F:Fun K "untold" "untold" Ju f fd)(T:Eo mg)(Ar:Fnd P w K mg base 1 "behind_each" ["half"] (C3 K))(Kg:Fnd P w K mg base 2 "untold_of" ["reach"] (J8 K)):FnOk P w K mg base CX0 3 f fd ["half"] (Oj K):=by
 refine F.ok ah4 (λvs H Q E h=>?_) (λa0 A outer s H vs Q E q h=>?_)
 . obtain⟨v,ns,ps,rfl,_⟩:=h;rfl
 obtain⟨v,ns,ps,rfl,Y,J,k⟩:=h;have hu:=Bf q;have hq:=Be q
 with_reducible refine⟨_,(A7 (An (Ao Kg (q.mono nofun) ⋯ (A1 (Ao Ar (q.mono nofun) ⋯ (A1 (pv 0) A2)) A2)))),?_⟩
 symm
 refine⟨v,ns,ps,rfl,Y,J.c,λr as H1 a2 a1 O Z=>?_⟩
 symm
 exact⟨r,ns,ps,as,rfl,Z,J.nd,J.few,λu H2 U hU=>k u H2 (O.trans U) hU⟩
def WyT (K:W.Frag)(H:Hp)(ps:List (Str×Str))(x:Str)(ks:List Str)(q:List Addr):Prop:=q.length=ks.length/\∀(i:Nat) (z:Str) (t:Addr),ks[i]? = some z->q[i]? = some t->∃ js os,Is K H (jsD js) (.ref t)/\js.length<=1000/\Trl ps x js z os/\∀ o∈os,o∈ks
theorem WyT.fz {K:W.Frag}{H H':Hp}{ps:List (Str×Str)}{x:Str}{ks:List Str}{q:List Addr}(h:WyT K H ps x ks q)(e:Fz H H'):WyT K H' ps x ks q:=
 ⟨h.1,λi z t hz F=>let ⟨js,os,h1,h2⟩:=h.2 i z t hz F;⟨js,os,Is.fz e _ _ (aq8 js) h1,h2⟩⟩
theorem WyT.snoc {K:W.Frag}{H:Hp}{ps:List (Str×Str)}{x:Str}{ks:List Str}{J:List Addr}(h:WyT K H ps x ks J){z:Str}{t:Addr}{js:List Nat}{os:List Str}(h1:Is K H (jsD js) (.ref t))(h2:js.length<=1000)(h3:Trl ps x js z os)(h4:∀ o∈os,o∈ks):WyT K H ps x (ks++[z]) (J++[t]):=by
 refine⟨by simp[h.1],λi y u q hu=>?_⟩
 by_cases hi:i<ks.length
 . rw[A1S hi] at q;rw[A1S (by rw[h.1];exact hi)] at hu;obtain⟨a1,a2,Y,Z,g3,g4⟩:=h.2 i y u q hu;exact⟨a1,a2,Y,Z,g3,λo F=>A0L _ (g4 o F)⟩
 have a0:i=ks.length:=by have:=(A00.mp q).1;rw[A06,A14] at this;omega
 subst a0;have O:y=z:=by simpa using q.symm
 have U:u=t:=by rw[<- h.1] at hu;simpa using hu.symm
 subst O U;exact⟨js,os,h1,h2,h3,λo F=>A0L _ (h4 o F)⟩
def Fg (K:W.Frag):Sp:=λvs H Q _=>∃ v x y ps,vs=[v,.str x,.str y]/\Is K H (psD ps) v/\ps.length<=100/\∀ u H',Same H H'->((u = .non/\¬ x=y/\¬ Way ps x y)\/∃ js os,Is K H' (jsD js) u/\js.length<=1000/\Trl ps x js y os)->Q u H'
theorem Mb {f:Addr}{fd:FuncData}(F:Fun K "way_by_sayings" "way_by_sayings" Bx f fd)(T:Eo mg):FnOk P w K mg base CX0 1 f fd ["sayings","start","goal"] (Fg K):=by
 refine F.ok Bn (λvs H Q E h=>?_) (λbR A outer s H vs Q E hr h=>?_)
 . obtain⟨v,x,y,ps,rfl,_⟩:=h;rfl
 obtain⟨v,x,y,ps,rfl,hI,hl,k⟩:=h;have hu:=Bf hr;have hq:=Be hr
 with_reducible refine⟨_,(A3 (Aa (i:=3) Bn.nd ⋯ (by eq_refl) (Rv (Ix (pv 1) (B6 A2) Sn) ⋯ ⋯ nofun nofun))
  (A3 (Aa (i:=4) Bn.nd ⋯ (by eq_refl) (Bv (A1 (pv 1) A2)))
  (A3 (R9 A0V (Ak a03 (Aq (B8 (K:=K)) ⋯ T.b_len PyProof.Rows.Boot.«len» (A1 (pv 4) A2)) A5 (Aw _))
  (A3 (Aa (i:=5) Bn.nd ⋯ (by eq_refl) (G3 (K:=K) A17 A4Z A50 (mm Xj) (pv 4) (A1 A5 A2)))
  (A7 (C4 A0V ⋯ (aw7 (K:=K) ⋯ T.b_enumerate (A1 (pv 0) A2)) (Lm (K:=K) (n:=2) ⋯ (Dh (Ag (i:=6) Bn.nd ⋯ (by eq_refl)) (Dh (Ag (i:=7) Bn.nd ⋯ (by eq_refl)) Lp)))
  (A7 (Cj (PW.pt (Tk (Ak (Cn (K:=K) hq) (Ad (A6 (K:=K) hu) (pv 7) A5 (by ac_rfl)) (pv 5) (Aw _)) (Pg (Ak (Gs (K:=K) hq) (Ad (A6 (K:=K) hu) (pv 7) A5 (by ac_rfl)) (pv 3) ⋯)))) (A3 (Fh hu (pv 3) (Ad (A6 (K:=K) hu) (pv 7) A5 (by ac_rfl)) (Ap (Al (K:=K)) (Ad (A6 (K:=K) hu) (pv 3) (pv 5) (by ac_rfl)) (B6 (A1 (pv 6) A2))) ⋯)
  (A7 (Dd (G3 (K:=K) A17 A26 A27 (mm Gw) (pv 4) (A1 (Ad (A6 (K:=K) hu) (pv 7) A5 (by ac_rfl)) A2))))) Ay))))))
  (A7 (An (ao2 hu (pv 3) (pv 2) (by with_unfolding_all exact⟨rfl,rfl,rfl,rfl⟩))))))),?_⟩
 symm
 refine Xi λr H1 bX e1 h1=>?_
 symm
 refine B7 nofun λt0 H2 bY e2 h2=>?_
 symm
 refine Rs [(Sum.inr x,.ref t0)] (by walk_at "lk") (by rfl) (by simp) λH3 e3 h3=>?_;have aW:H3 r=some (.dK (Gj [x] [t0])):=h3
 symm
 refine Bu (A9 (by simp)) λq H4 b2 e4 h4=>?_;have bA:H2 r=some (.dK []):=e2 _ _ h1;have bN:H3 t0=some (.tup []):=e3 _ _ (ne_of h2 bA (by intro z;cases z)) h2;have aI:r≠q:=ne_of_none aW b2;have b3:Same H H4:=by walk_at "sm"
 have bW:H q=none:=Same.free (by walk_at "sm":Same H H3) b2
 have bH:WyT K H4 ps x [x] [t0]:=⟨rfl,λi z t hz ht=>by
  have hi:i=0:=by have:=(A00.mp hz).1;simpa using this
  subst hi;have e1:z=x:=by simpa using hz.symm
  have e2:t=t0:=by simpa using ht.symm
  subst e1 e2;exact⟨[],[],Is.of_tup (SqT.of (e4 _ _ bN)) .nil,by decide,Trl.nil ps _,λ_ h=>by cases h⟩⟩
 symm
 refine Wd (λm σ Y=>∃ ks ws ts x5 x6 x7,σ=[some v,some (.str x),some (.str y),some (.ref r),some (.ref q),x5,x6,x7]/\Same H Y/\Y r=some (.dK (Gj ks ts))/\Y q=some (.lst (ws.map V.str))/\WyT K Y ps x ks ts/\WyI ps x ks ws/\m=2*(ps.length+1-ks.length)+ws.length)
  (2*(ps.length+1-[x].length)+[x].length) ⟨[x],[x],[t0],_,_,_,rfl,b3,e4 _ _ aW,h4,bH,⟨by simp,by simp,λy hy=>.inl (by simpa using hy),λz hz=>hz,λz hz hn=>absurd hz hn,by simp⟩,rfl⟩ λm σ Y hP=>?_
 obtain⟨ks,ws,ts,x5,x6,x7,rfl,e5,aB,aX,aF,O,rfl⟩:=hP
 symm
 refine Ll (λhE=>?_) (λhE=>?_)
 . cases ws with
   |nil=>simp at hE
   |cons here ws=>
   refine a85 ?_
   symm
   refine Xu (y:=.str here) aX nofun (by rfl) (λH6 e6 bB=>?_) (by have:=O.le;have:=O.few;rw[A01];omega);have bC:H6 q=some (.lst (ws.map V.str)):=bB;have bD:H6 r=some (.dK (Gj ks ts)):=e6 _ _ aI aB;have b6:Fz Y H6:=e6.fzL aX;have aN:Same H H6:=by walk_at "sm"
   have bU:=O.le;have bJ:=O.few;rw[A0G] at bJ
   symm
   refine aC2 (hI.ps_fz aN.fz) (λi σ H7=>∃ J ms us x6 x7,σ=[some v,some (.str x),some (.str y),some (.ref r),some (.ref q),some (.str here),x6,x7]/\Same H H7/\Fz H6 H7/\H7 r=some (.dK (Gj J us))/\H7 q=some (.lst (ms.map V.str))/\WyT K H7 ps x J us/\WyJ ps x here ks ws J ms i)
    ⟨ks,ws,ts,_,_,rfl,aN,.refl _,bD,bC,aF.fz b6,⟨O.nd,O.way,λz hz=>O.line z (A09 _ hz),λ_ h=>h,λ_ h=>h,λ_ h=>.inl h,λj hj=>absurd hj (Nat.not_lt_zero _),rfl⟩⟩ (λi σ' H' hP=>?_) (λi pr w σ' H7 H8 a9 a6 hP e8=>?_) (fun σ' H7 hP=>?_)
   . obtain⟨_,_,_,_,_,_,_,fz,_⟩:=hP;exact fz
   . obtain⟨J,ms,us,bO,bP,rfl,e7,a5,aD,aC,aG,U⟩:=hP;have bK:=U.le;have bL:=U.len;have a2:=e8 _ _ aD;have aE:=e8 _ _ aC;have a1:=aG.fz e8.fz;have a7:here∈J:=U.keep here (O.line here A0D)
     symm
     refine Vv a6 ?_
     symm
     refine Ll (λh1=>?_) (λh1=>?_)
     . have aS:pr.1=here:=by injection h1
       symm
       refine Ny a6 ?_
       symm
       refine am6 a2 a1.1 ?_
       symm
       refine aC9 (λh2=>?_) (λh2=>?_)
       . obtain⟨ih,aZ,b4⟩:=A1M a7;have aQ:J[ih]? = some here:=by rw[A03 aZ,b4]
         obtain⟨th,gth⟩:∃ th,us[ih]? = some th:=⟨us[ih]'(by rw[a1.1];exact aZ),A03 _⟩;obtain⟨js,os,aH,b1,a3,a8⟩:=a1.2 ih here th aQ gth;obtain⟨at',bQ,bI,bF,aY⟩:=Is.tup aH
         cases bI;have bV:bQ.length=js.length:=by rw[<- IsL.length aY,A01]
         have bM:=a3.nd
         have bT:js.length<=ps.length+1:=by have:=C1 (A1G.mp bM).1 (ys:=J) a8;rw[a3.len] at this;omega
         symm
         refine i_ixD a2 (Db U.nd aQ gth) ?_
         symm
         refine B7 (A9 (by simp)) λt9 H9 bZ Z h9=>?_;refine Qy (Z.seqT bF) (SqT.of h9) (A9 (by simp;omega)) λaJ aK a0 b7=>?_
         have bE:Is K aK (jsD (js++[i])) (.ref aJ):=by unfold jsD;rw[A0T];exact Is.of_tup b7 ((IsL.mono a0 _ _ (IsL.mono Z _ _ aY)).append (.one L3))
         symm
         refine Ny ((a6.pr_fz Z.fz).pr_fz a0.fz) ?_;have aT:=a0 _ _ (Z _ _ a2);have b8:=a0 _ _ (Z _ _ aE);refine J3 aT (by unfold Gj;rw[List.length_map,List.length_zip];omega) λaL aO aV=>?_;rw[av4 h2 a1.1.symm] at aV;have a4:Fz aK aL:=aO.fzD aT;have aU:=aO _ _ (Ne.symm aI) b8
         symm
         refine Ny (((a6.pr_fz Z.fz).pr_fz a0.fz).pr_fz a4) ?_
         symm
         refine R0 aU (by rw[A01];omega) λaM aP b9=>?_
         symm
         have aA:Fz aL aM:=aP.fzL aU
         have bG:WyT K aM ps x (J++[pr.2]) (us++[aJ]):=WyT.snoc (a1.fz (((Z.fz.trans a0.fz).trans a4).trans aA)) (Is.fz (a4.trans aA) _ _ (aq8 _) bE) (by simp;omega) (a3.snoc (by rw[<- aS];exact a9) (λhm=>by
          rcases A0A.mp hm with hm|hm
          . exact h2 (a8 _ hm)
          . have:pr.2=here:=by simpa using hm
            exact h2 (this ▸ a7))) (λo ho=>by
          rcases A0A.mp ho with ho|ho
          . exact a8 o ho
          have:o=here:=by simpa using ho
          exact this ▸ a7)
         refine⟨J++[pr.2],ms++[pr.2],us++[aJ],_,_,rfl,by walk_at "sm",(((a5.trans e8.fz).trans (Z.fz.trans a0.fz)).trans a4).trans aA,aP _ _ aI aV,?_,bG,U.step a7 a9 aS h2⟩;rw[b9,A0T];rfl
       exact⟨J,ms,us,_,_,rfl,by walk_at "sm",a5.trans e8.fz,a2,aE,a1,U.skip a9 λ_=>h2⟩
     exact⟨J,ms,us,_,_,rfl,by walk_at "sm",a5.trans e8.fz,a2,aE,a1,U.skip a9 λe=>absurd (by rw[e]) h1⟩
   obtain⟨J,ms,us,bO,bP,rfl,e7,a5,aD,aC,aG,U⟩:=hP;have bK:=U.le;have bL:=U.len;have bS:=C1 O.nd U.keep;refine⟨_,?_,J,ms,us,_,_,_,rfl,e7,aD,aC,aG,WyJ.done O U,rfl⟩;rw[A0G];omega
 have hn:ws=[]:=by
  cases ws with
  |nil=>rfl
  |cons _ _=>simp at hE
 subst hn
 symm
 refine aM1 aB ?_
 symm
 refine aF4 aB ?_
 by_cases hy:y∈ks
 . obtain⟨iy,b0,b5⟩:=A1M hy;have aR:ks[iy]? = some y:=by rw[A03 b0,b5]
   obtain⟨ty,gty⟩:∃ ty,ts[iy]? = some ty:=⟨ts[iy]'(by rw[aF.1];exact b0),A03 _⟩;obtain⟨js,os,aH,b1,a3,a8⟩:=aF.2 iy y ty aR gty;rw[Db O.nd aR gty];exact k _ Y e5 (.inr ⟨js,os,aH,b1,a3⟩)
 rw[Gc hy];exact k _ Y e5 (.inl ⟨rfl,λe=>hy (e ▸ O.has),λg=>hy (O.all g)⟩)
def Mf (K:W.Frag):Sp:=λvs H Q _=>∃ v ns,vs=[v]/\Is K H (nmD ns) v/\ns.Nodup/\ns.length<=10/\∀ d H',H d=none->Same H H'->H' d=some (.dK (aD4 ns))->Q (.ref d) H'
def Ip (K:W.Frag):Sp:=λvs H Q _=>∃ v bd ns ps,vs=[v,.ref bd]/\Is K H (hfD ns ps) v/\Pq ns ps/\ns.length<=10/\H bd=some (.dK (aD4 ns))/\∀ d H',H d=none->Same H H'->H' d=some (.dK (ahK ns ps))->Q (.ref d) H'
def Ft (C:Addr)(K:W.Frag):Sp:=λvs H Q _=>∃ p v dx ns ps,vs=[.ref p,v]/\H p=some (.ins C dx [])/\Is K H (hfD ns ps) v/\Pq ns ps/\ns.length<=10 /\
 ∀ nv bd ad kd H',H kd=none->ExtBut p H H'->WaysAt K C H' p dx nv bd ad kd ns ps (knK ns ps [λ_=>false])->Q .non H'
def Az (C:Addr)(K:W.Frag):Sp:=λvs H Q _=>∃ p dx nv bd ad kd ns ps q,vs=[.ref p,.int ((B3 ns q:Nat):Int)]/\WaysB K C H p dx nv bd ad kd ns ps/\Pq ns ps/\ns.length<=10 /\
 ∀ l H',H l=none->Same H H'->H' l=some (.lst ((frF (Ab ps) (ns.filter q)).map V.str))->Q (.ref l) H'
def Ce (C:Addr)(K:W.Frag)(n:Nat):Sp:=λvs H Q _=>∃ p dx nv bd ad kd ns ps qs q,vs=[.ref p,.int ((B3 ns q:Nat):Int)]/\WaysAt K C H p dx nv bd ad kd ns ps (knK ns ps qs)/\Pq ns ps/\ns.length<=10/\(ns.filter q).length<n /\
 ∀ F H',ExtBut kd H H'->WaysAt K C H' p dx nv bd ad kd ns ps (knK ns ps F)->Gr ns ps qs F q->Q (.int ((cnt (Ab ps) (ns.filter q):Nat):Int)) H'
def Bs (C:Addr)(K:W.Frag):Sp:=Ce C K 11
theorem Jc {C:Addr}{K:W.Frag}:∀ vs H Q E,¬ Ce C K 0 vs H Q E:=by rintro vs H Q E ⟨_,_,_,_,_,_,_,_,_,_,_,_,_,_,h,_⟩;exact absurd h (Nat.not_lt_zero _)
def Rf (K:W.Frag):Sp:=λvs H Q _=>∃ v ns ps,vs=[v]/\Is K H (hfD ns ps) v/\Pq ns ps/\ns.length<=10/\∀ H',Same H H'->Q (.int ((cnt (Ab ps) ns:Nat):Int)) H'
theorem ar5 {ns:List Str}(hn:ns.Nodup)(h:ns.length<=10){x:Str}(F:x∈ns):Es ns x<=1024:=by obtain⟨j,q⟩:=A1K.mp F;rw[Oa hn q];exact(A28 nofun (by have:=(A00.mp q).1;omega):2 ^ j<=2 ^ 10)
theorem Hn {f g:Str}{v x:V}{r:List (Str×V)}(h:¬ g=f):Oy f v ((g,x) :: r)=(g,x) :: Oy f v r:=by
 show(if g=f then _ else _)=_
 rw[A0P h]
theorem fld2 (a b:V):Oy "bits" b [("names",a)]=([("names",a),("bits",b)]:List (Str×V)):=by rw[Hn (by decide +kernel)];rfl
theorem fld3 (a b c:V):Oy "ahead" c [("names",a),("bits",b)]=([("names",a),("bits",b),("ahead",c)]:List (Str×V)):=by rw[Hn (by decide +kernel),Hn (by decide +kernel)];rfl
theorem fld4 (a b c d:V):Oy "full" d [("names",a),("bits",b),("ahead",c)]=([("names",a),("bits",b),("ahead",c),("full",d)]:List (Str×V)):=by rw[Hn (by decide +kernel),Hn (by decide +kernel),Hn (by decide +kernel)];rfl
theorem fld5 (a b c d e:V):Oy "known" e [("names",a),("bits",b),("ahead",c),("full",d)]=([("names",a),("bits",b),("ahead",c),("full",d),("known",e)]:List (Str×V)):=by rw[Hn (by decide +kernel),Hn (by decide +kernel),Hn (by decide +kernel),Hn (by decide +kernel)];rfl
theorem Ze {f:Addr}{fd:FuncData}(F:Fun K "bits_of" "bits_of" Hz f fd)(T:Eo mg):FnOk P w K mg base CX0 1 f fd ["names"] (Mf K):=by
 refine F.ok Ht (λvs H Q E h=>?_) (λa5 A outer s H vs Q E hr h=>?_)
 . obtain⟨v,ns,rfl,_⟩:=h;rfl
 obtain⟨v,ns,rfl,hI,hn,a6,k⟩:=h;have hu:=Bf hr;have hq:=Be hr
 with_reducible refine⟨_,(A3 (Aa (i:=1) Ht.nd ⋯ (by eq_refl) Ng)
  (A3 (Aa (i:=2) Ht.nd ⋯ (by eq_refl) A5)
  (A3 (C4 A0V ⋯ (As (K:=K) hu (pv 0)) (Ag (i:=3) Ht.nd ⋯ (by eq_refl))
  (A3 (Fh hu (pv 1) (pv 3) (pv 2) ⋯)
  (A7 (Aa (i:=2) Ht.nd ⋯ (by eq_refl) (Ap Do (pv 2) A5)))))
  (A7 (An (pv 1)))))),?_⟩
 symm
 refine Yo λd H1 a3 Y h1=>?_
 symm
 refine Ml (hI.nm_fz Y.fz) (λi σ H2=>∃ U,σ=[some v,some (.ref d),some (.int ((2 ^ i:Nat):Int)),U]/\Same H H2/\Fz H1 H2/\H2 d=some (.dK ((ns.take i).map λx=>((Sum.inr x:Key),V.int ((Es ns x:Nat):Int)))))
  ⟨_,rfl,Y,.refl _,h1⟩ (λi σ' H' q=>q.choose_spec.2.2.1) (λi z σ' H2 hz q=>?_) (fun σ' H2 q=>?_)
 . obtain⟨U,rfl,O,a0,h2⟩:=q;have a7:i<ns.length:=(A00.mp hz).1;have a8:2 ^ i<=2 ^ 10:=A28 nofun ∅
   have a4:z∉ns.take i:=λhm=>by
    obtain⟨j,J⟩:=A1K.mp hm;rw[A30] at J
    split at J
    . rename_i hji;have a1:=A00.mp J;have a2:=A00.mp hz;have:=(A1H hn).mp (a1.2.trans a2.2.symm);omega
    cases J
   symm
   refine J3 h2 (by rw[A01,A10];omega) λH3 Z h3=>?_;rw[Jv _ (J9 a4)] at h3
   symm
   refine⟨some (.str z),?_,O.off a3 Z,a0.trans (Z.fzD h2),?_⟩
   . have:((2 ^ i:Nat):Int)*2=((2 ^ (i+1):Nat):Int):=by rw[A4W];omega
     rw[this];rfl
   rw[h3,A0R,hz];have:((2 ^ i:Nat):Int)=((Es ns z:Nat):Int):=by rw[Oa hn hz]
   rw[this];simp
 obtain⟨U,rfl,O,a0,h2⟩:=q;rw[A0W] at h2
 symm
 exact k d H2 a3 O h2
theorem T0 {f:Addr}{fd:FuncData}(F:Fun K "bits_ahead" "bits_ahead" Dq f fd)(T:Eo mg)(Ar:Fnd P w K mg base 1 "behind_each" ["half"] (C3 K)):FnOk P w K mg base CX0 2 f fd ["half","bits"] (Ip K):=by
 refine F.ok G9 (λvs H Q E h=>?_) (λaJ A outer s H vs Q E hr h=>?_)
 . obtain⟨v,bd,ns,ps,rfl,_⟩:=h;rfl
 obtain⟨v,bd,ns,ps,rfl,hI,hW,aA,hB,k⟩:=h;have hu:=Bf hr;have hq:=Be hr;have hn:=hW.nd
 with_reducible refine⟨_,(A3 (Aa (i:=2) G9.nd ⋯ (by with_unfolding_all exact A3I rfl) (Ao Ar (hr.mono nofun) ⋯ (A1 (pv 0) A2)))
  (A3 (Aa (i:=3) G9.nd ⋯ (by eq_refl) Ng)
  (A3 (C4 A0V ⋯ (As (K:=K) hu (Ad (A6 (K:=K) hu) (pv 0) A5 (by ac_rfl))) (Ag (i:=4) G9.nd ⋯ (by with_unfolding_all exact A3I rfl))
  (A7 (Fh hu (pv 3) (pv 4) (Aq (Ky (K:=K) ⋯) ⋯ T.b_sum PyProof.Rows.Boot.«sum» (A1 (Cb ["one"] ["bits","name","reach"] [1,4,2] ⋯ ⋯ ⋯ (As (K:=K) hu (Ad (A6 (K:=K) hu) (pv 0) A5 (by ac_rfl))) (λ_ _ _ _=>(Ag (i:=0) (by with_unfolding_all (show(["one","bits","name","reach"]:List Str).Nodup;decide +kernel)) ⋯ (by eq_refl))) (Bq nofun) (λ_ _ _ _=>(G2 (Ak (Mt (K:=K) hq) (pv 2) (Ad (A6 (K:=K) hu) (pv 3) (pv 0) (by ac_rfl)) ⋯))) (λ_ _ _ _=>(Ad (A6 (K:=K) hu) (pv 1) (pv 0) (by ac_rfl)))) A2)) ⋯)))
  (A7 (An (pv 3)))))),?_⟩
 symm
 refine⟨v,ns,ps,rfl,hI,hW,λr as H1 aP aK Z hT=>?_⟩
 symm
 refine Yo λd H2 a8 e2 h2=>?_
 symm
 have a4:=Z.trans e2;refine Hf (hI.hf_fz a4.fz) λnv hN=>?_
 refine Ml hN (λi σ J=>∃ x4,σ=[some v,some (.ref bd),some (.ref r),some (.ref d),x4]/\Same H1 J/\Fz H2 J/\J d=some (.dK ((ns.take i).map λx=>((Sum.inr x:Key),V.int ((B3 ns (λy=>Ab ps y x):Nat):Int)))))
  ⟨_,rfl,e2,.refl _,h2⟩ (λi σ' H' Y=>Y.choose_spec.2.2.1) (λi z σ' J hz Y=>?_) (fun σ' J Y=>?_)
 . obtain⟨x4,rfl,U,a0,h3⟩:=Y;have aL:i<ns.length:=(A00.mp hz).1
   have aG:z∉ns.take i:=λhm=>by
    obtain⟨j,hj⟩:=A1K.mp hm;rw[A30] at hj
    split at hj
    . rename_i hji;have a1:=A00.mp hj;have a2:=A00.mp hz;have:=(A1H hn).mp (a1.2.trans a2.2.symm);omega
    cases hj
   symm
   refine Hf (hI.hf_fz (a4.fz.trans a0)) λaQ aB=>?_;refine Rq aB (λy=>Ab ps y z) (λy=>PyData.int ((Es ns y:Nat):Int)) (λ_=>rfl) ∅ (λj y H4 R R' hy O hR aC=>?_) (λq ys H4 aO O h4 a6=>?_)
   . have a3:=hT.same (U.trans O);obtain⟨jy,ay,a9,a7⟩:=a3.at (A04 hy);obtain⟨ks,aD,aM,aN,aE⟩:=a3.row jy y ay a9 a7
     symm
     refine Ti a3 hn a9 a7 ?_;refine Wx aD ?_;rw[L1 (aE z)]
     symm
     refine aF1 (λhb=>?_) (λhb=>?_)
     . symm
       refine i_ixD (O _ _ (U _ _ (Z _ _ hB))) (Fv (A04 hy)) ?_;exact hR hb _ _ (.refl _) rfl
     exact aC hb _ (.refl _)
   have hm:(ns.filter λy=>Ab ps y z).map (λy=>PyData.int ((Es ns y:Nat):Int))=((ns.filter λy=>Ab ps y z).map λy=>((Es ns y:Nat):Int)).map PyData.int:=by rw[A19];rfl
   rw[hm] at a6;have aI:=IsL.int_eq a6;subst aI
   symm
   refine ap2 (.inl (SqL.of h4)) (λn aF=>?_) (by rw[A01];exact A0O (A0U _ _) ∅) ?_
   . obtain⟨y,hy,rfl⟩:=A0I.mp aF;have aH:=(A0N.mp hy).1;have:=ar5 hn aA aH;omega
   rw[Na,Nd _ hn]
   symm
   have a5:H4 d=some _:=O _ _ h3;refine J3 a5 (by rw[A01,A10];omega) λH5 e5 h5=>?_;rw[Jv _ (J9 aG)] at h5
   symm
   refine⟨_,rfl,(U.trans O).off a8 e5,(a0.trans O.fz).trans (e5.fzD a5),?_⟩;rw[h5,A0R,hz];simp
 obtain⟨x4,rfl,U,a0,h3⟩:=Y;rw[A0W] at h3
 symm
 exact k d J (Z.free a8) (Z.trans U) h3
theorem Ut {f:Addr}{fd:FuncData}(F:Fun K "__init__" "Ways.__init__" Ez f fd)(T:Eo mg){J:Addr}(q:El K J)(Pd:Fnd P w K mg base 1 "bits_of" ["names"] (Mf K))(Je:Fnd P w K mg base 2 "bits_ahead" ["half","bits"] (Ip K)):FnOk P w K mg base CX0 3 f fd ["self","half"] (Ft J K):=by
 refine F.ok W2 (λvs H Q E h=>?_) (λaT A outer s H vs Q E hr h=>?_)
 . obtain⟨p,v,dx,ns,ps,rfl,_⟩:=h;rfl
 obtain⟨p,v,dx,ns,ps,rfl,hp,hI,hW,a4,k⟩:=h;have hu:=Bf hr;have hq:=Be hr;have hn:=hW.nd
 with_reducible refine⟨_,(A3 (a08 (C:=J) (pv 0) (Ad (A6 (K:=K) hu) (pv 1) A5 (by ac_rfl)) q.cl q.n_names ⋯)
  (A3 (a08 (C:=J) (pv 0) (Ao Pd (hr.mono nofun) ⋯ (A1 (Ad (A6 (K:=K) hu) (pv 1) A5 (by ac_rfl)) A2)) q.cl q.n_bits ⋯)
  (A3 (a08 (C:=J) (pv 0) (Ao Je (hr.mono nofun) ⋯ (A1 (pv 1) (A1 (Hj (C:=J) (pv 0) q.cl q.n_bits ⋯) A2))) q.cl q.n_ahead ⋯)
  (A3 (a08 (C:=J) (pv 0) (Aq (ad7 ⋯) ⋯ T.b_sum PyProof.Rows.Boot.«sum» (A1 (ad6 (K:=K) A2U PySem.F.slot_dict_values PySem.F.type_dict_values (mm a67) (Hj (C:=J) (pv 0) q.cl q.n_bits ⋯)) A2)) q.cl q.n_full ⋯)
  (A7 (a08 (C:=J) (pv 0) (Rv (Ix A5 A5 Sn) ⋯ ⋯ nofun nofun) q.cl q.n_known ⋯)))))),?_⟩
 symm
 refine Hf hI λnv hN=>?_
 symm
 refine aN3 hp nofun λH1 e1 h1=>?_;replace h1:H1 p=some (.ins J dx [("names",nv)]):=h1;have a3:=e1.fzI hp
 symm
 refine Hf (hI.hf_fz a3) λaS aM=>?_
 symm
 refine⟨aS,ns,rfl,aM,hn,a4,λbd H2 aO Y h2=>?_⟩
 symm
 refine aN3 (Y _ _ h1) (by show 1<1000;decide) λH3 e3 h3=>?_;rw[fld2] at h3;have a7:=e3.fzI (Y _ _ h1);have a0:bd≠p:=(ne_of_none h1 aO).symm;have a9:H3 bd=some (.dK (aD4 ns)):=e3 _ _ a0 h2
 symm
 refine Pn h3 (by rfl) ?_
 symm
 refine⟨v,bd,ns,ps,rfl,hI.hf_fz ((a3.trans Y.fz).trans a7),hW,a4,a9,λad H4 aN Z h4=>?_⟩
 symm
 refine aN3 (Z _ _ h3) (by show 2<1000;decide) λH5 e5 h5=>?_;rw[fld3] at h5;have aJ:=e5.fzI (Z _ _ h3);have a5:ad≠p:=(ne_of_none h3 aN).symm;have aL:H5 ad=some (.dK (ahK ns ps)):=e5 _ _ a5 h4;have a2:H5 bd=some (.dK (aD4 ns)):=e5 _ _ a0 (Z _ _ a9)
 symm
 refine Pn h5 (by rfl) ?_
 symm
 refine a06 a2 ?_
 symm
 refine aF6 a2 λv6 H6 aV O h6=>?_
 symm
 have aP:∀ n∈ns.map (λx=>((Es ns x:Nat):Int)),0<=n/\n<=1000000000000:=λn aQ=>by obtain⟨y,hy,rfl⟩:=A0I.mp aQ;have:=ar5 hn a4 hy;omega
 refine aQ0 h6 (O _ _ a2) (ns:=ns.map λx=>((Es ns x:Nat):Int)) (by unfold aD4;rw[List.map_map,List.map_map];rfl) aP (by rw[List.length_map];omega) ?_
 have aR:(ns.map (Es ns)).sum=B3 ns (λ_=>true):=by have:=Nd (λ_=>true) hn;rwa[show ns.filter (λ_=>true)=ns by simp] at this
 rw[Na,aR]
 symm
 have aA:=O _ _ h5;refine aN3 aA (by show 3<1000;decide) λH7 e7 h7=>?_;rw[fld4] at h7;have aK:=e7.fzI aA
 symm
 refine Xi λkd H8 a1 e8 h8=>?_
 symm
 refine Rs [(Sum.inl 0,V.int 1)] h8 rfl nofun λH9 e9 h9=>?_
 symm
 have a6:p≠kd:=ne_of_none h7 a1;have aD:=e9 _ _ a6 (e8 _ _ h7);refine aN3 aD (by show 4<1000;decide) λaH U a8=>?_;rw[fld5] at a8;have aI:=U.fzI aD
 symm
 have aU:bd≠p:=a0;have aC:=e7 _ _ a0 (O _ _ a2);have aB:=e7 _ _ a5 (O _ _ aL);have aF:bd≠kd:=ne_of_none aC a1;have aE:ad≠kd:=ne_of_none aB a1;have hE:ExtBut p H H7:=((((e1.same Y).trans e3).same Z).trans e5 |>.same O).trans e7
 have aG:H kd=none:=by
  cases c:H kd with
  |none=>rfl
  |some o=>rw[hE _ _ a6.symm c] at a1;cases a1
 rw[ai2 ns ps] at h9;refine k nv bd ad kd aH aG ?_ ⟨a8,?_,?_,?_,?_,aF,aE,ai2 ns ps ▸ Knw.new ns ps⟩
 . exact((hE.same e8).off aG e9).trans U
 . exact hN.nm_fz (((((((a3.trans Y.fz).trans a7).trans Z.fz).trans aJ).trans O.fz).trans aK).trans ((e8.fz.trans (e9.fzD h8)).trans aI))
 . exact U _ _ a0 (e9 _ _ aF (e8 _ _ aC))
 . exact U _ _ a5 (e9 _ _ aE (e8 _ _ aB))
 exact U _ _ a6.symm h9
theorem L9 {f:Addr}{fd:FuncData}(F:Fun K "free_names" "Ways.free_names" Bl f fd)(T:Eo mg){O:Addr}(J:El K O):FnOk P w K mg base CX0 1 f fd ["self","left"] (Az O K):=by
 refine F.ok L5 (λvs H Q E h=>?_) (λa4 A outer s H vs Q E hr h=>?_)
 . obtain⟨p,dx,nv,bd,ad,kd,ns,ps,q,rfl,_⟩:=h;rfl
 obtain⟨p,dx,nv,bd,ad,kd,ns,ps,q,rfl,Z,hW,a5,k⟩:=h;have hu:=Bf hr;have hq:=Be hr;have hn:=hW.nd
 with_reducible refine⟨_,(A7 (An (Cb ["name"] ["self","left"] [0,1] ⋯ ⋯ ⋯ (As (K:=K) hu (Hj (C:=O) (pv 0) J.cl J.n_names ⋯)) (λ_ _ _ _=>(Ag (i:=0) (by with_unfolding_all (show(["name","self","left"]:List Str).Nodup;decide +kernel)) ⋯ (by eq_refl))) (Bq nofun) (λ_ _ _ _=>(G2 (PW.pt (Tk (a82 (Ap a68 (Ad (A6 (K:=K) hu) (Hj (C:=O) (pv 1) J.cl J.n_bits ⋯) (pv 0) (by ac_rfl)) (pv 2))) (Pg (W4 (a82 (Ap a68 (Ad (A6 (K:=K) hu) (Hj (C:=O) (pv 1) J.cl J.n_ahead ⋯) (pv 0) (by ac_rfl)) (pv 2))))))))) (λ_ _ _ _=>(pv 0))))),?_⟩
 symm
 refine Pn Z.ob (by rfl) ?_;refine Rq Z.nm (λx=>q x && !(ns.any λy=>Ab ps y x&&q y)) PyData.str (λ_=>rfl) ∅ (λj x H1 R R' hx Y hR a2=>?_) (λl ys H1 a3 Y h1 a1=>?_)
 . have U:=Z.same Y;have a0:=A04 hx
   symm
   refine Pn U.ob (by rfl) ?_
   symm
   refine i_ixD U.bt (Fv a0) ?_
   symm
   rw[ab2 hn a0];refine aF1 (λhb=>?_) (λhb=>?_)
   . symm
     refine Pn U.ob (by rfl) ?_
     symm
     refine i_ixD U.ah (Fv a0) ?_
     symm
     rw[a89]
     symm
     refine T5 (λhc=>?_) (λhc=>?_)
     . symm
       exact hR (by rw[hb,hc];rfl) _ _ (.refl _) Gu
     exact a2 (by rw[hb,hc];rfl) _ (.refl _)
   exact a2 (by rw[hb];rfl) _ (.refl _)
 rw[ab6] at a1;have:=IsL.str_eq a1;subst this
 symm
 exact k l H1 a3 Y h1
theorem Mv {f:Addr}{fd:FuncData}(F:Fun K "ways_on" "Ways.ways_on" C2 f fd)(T:Eo mg){J:Addr}(Y:El K J)(Ah:Mtd P w K mg base 1 J "free_names" ["self","left"] (Az J K))(n:Nat)(Am:Mtd P w K mg base (2+n) J "ways_on" ["self","left"] (Ce J K n)):FnOk P w K mg base CX0 (2+n+1) f fd ["self","left"] (Ce J K (n+1)):=by
 refine F.ok Nr (λvs H Q E h=>?_) (λaL A outer s H vs Q E hr h=>?_)
 . obtain⟨p,dx,nv,bd,ad,kd,ns,ps,qs,q,rfl,_⟩:=h;rfl
 obtain⟨p,dx,nv,bd,ad,kd,ns,ps,qs,q,rfl,O,hW,a5,aS,k⟩:=h;have hu:=Bf hr;have hq:=Be hr;have hn:=hW.nd;have aO:=O.ok.len a5;have a4:(ns.filter q).Nodup:=A25 A1U hn;have aM:(ns.filter q).length<=ns.length:=A0U _ _
 with_reducible refine⟨_,(A3 (Cj (Ak (Gs (K:=K) hq) (pv 1) (Hj (C:=J) (pv 0) Y.cl Y.n_known ⋯) ⋯) (A7 (Fh hu (Hj (C:=J) (pv 0) Y.cl Y.n_known ⋯) (pv 1) (Aq (Ky (K:=K) ⋯) ⋯ T.b_sum PyProof.Rows.Boot.«sum» (A1 (Cb ["name"] ["self","left"] [0,1] ⋯ ⋯ ⋯ (As (K:=K) hu (Qf (C:=J) (pv 0) Y.cl Ah (hr.mono ∅) (A1 (pv 1) A2))) (λ_ _ _ _=>(Ag (i:=0) (by with_unfolding_all (show(["name","self","left"]:List Str).Nodup;decide +kernel)) ⋯ (by eq_refl))) (Bq nofun) (λ_ _ _ _=>G1) (λ_ _ _ _=>(Qf (C:=J) (pv 1) Y.cl Am (hr.mono ∅) (A1 (Ap K2 (pv 2) (Ad (A6 (K:=K) hu) (Hj (C:=J) (pv 1) Y.cl Y.n_bits ⋯) (pv 0) (by ac_rfl))) A2)))) A2)) ⋯)) Ay)
  (A7 (An (Ad (A6 (K:=K) hu) (Hj (C:=J) (pv 0) Y.cl Y.n_known ⋯) (pv 1) (by ac_rfl))))),?_⟩
 symm
 refine Pn O.ob (by rfl) ?_;refine aw1 O.kn ?_
 symm
 cases hv:Ck (knK ns ps qs) (Sum.inl ((B3 ns q:Nat):Int):Key) with
 |some v=>
   have:=O.ok.get hv;subst this;refine iteF ?_
   symm
   refine Pn O.ob (by rfl) ?_
   symm
   refine Yd O.kn hv ?_;exact k qs H .refl O ⟨[],by simp,trivial,λM hM=>(by cases hM),aq5 hv⟩
 |none=>
   have aE:ns.filter q≠[]:=λe=>by
    have h0:B3 ns q=0:=binM_zero.mpr λx Z=>by
     cases c:q x with
     |false=>rfl
     |true=>
       have:x∈ns.filter q:=A0N.mpr ⟨Z,c⟩;rw[e] at this
       cases this
    rw[h0] at hv;rw[show((0:Nat):Int)=0 from rfl,O.ok.2.2] at hv
    cases hv
   refine iteT ?_
   symm
   refine aj9 O.ob (by rfl) ?_
   symm
   refine⟨p,dx,nv,bd,ad,kd,ns,ps,q,rfl,O.b,hW,a5,λl H1 aQ e1 h1=>?_⟩;have a8:=O.same e1;refine Kf (SqL.of h1) ?_
   refine Ik (Bp (xs:=(frF (Ab ps) (ns.filter q)).map V.str)) (λpl i acc H2=>∃ a2,ExtBut kd H1 H2/\WaysAt K J H2 p dx nv bd ad kd ns ps (knK ns ps a2)/\GrC ns ps qs a2 (ns.filter q) i/\acc=((frF (Ab ps) (ns.filter q)).take i).map λx=>V.int ((cnt (Ab ps) (Ai (ns.filter q) x):Nat):Int))
    (λpl H' aT e' h'=>⟨qs,e'.but,a8.same e',.zero ..,rfl⟩) (λpl i acc H2 hP=>?_) (λpl i x acc H2 a9 Z hi hl a1 hP=>?_) (λpl acc H2 a9 a1 aN hP=>?_)
   . obtain⟨a2,e2,_⟩:=hP;exact SqL.of (e2 _ _ (ne_of h1 a8.kn (by intro z;cases z)) h1)
   . obtain ⟨a2,e2,U,a3,rfl⟩:=hP;rw[A07] at Z
     cases hz:(frF (Ab ps) (ns.filter q))[i]? with
     |none=>rw[hz] at Z;cases Z
     |some z=>
       rw[hz] at Z
       cases Z;have aJ:=A04 hz;have a6:=(mem_frF.mp aJ).1;have aA:=(A0N.mp a6).1;have aH:=(A0N.mp a6).2;have aU:=Ou hn aA aH;have aR:=Bd a4 a6
       symm
       refine aj9 U.ob (by rfl) ?_
       symm
       refine Pn U.ob (by rfl) ?_
       symm
       refine i_ixD U.bt (Fv aA) ?_
       symm
       have aI:((B3 ns q:Nat):Int)-((Es ns z:Nat):Int)=((B3 ns (λy=>q y && !decide (y=z)):Nat):Int):=by omega
       rw[aI];refine⟨p,dx,nv,bd,ad,kd,ns,ps,a2,_,rfl,U,hW,a5,by rw[Ba];omega,λaK H3 e3 a0 aB=>?_⟩;rw[Ba];have aG:pl≠kd:=ne_of a1 U.kn (by intro z;cases z);have a7:=e3 _ _ aG a1;refine Lg (by rw[A01];exact A0O (A0U _ _) ∅) hi hl a7 λH4 e4 h4=>?_;refine⟨aK,?_,a0.list e4 a7,a3.step a4 hz (Ba ..) aB,?_⟩
       . exact(e2.trans e3).off a9 e4
       rw[A0R,hz];simp
   obtain⟨a2,e2,U,a3,rfl⟩:=hP;rw[A01,A0W] at a1;have aC:(frF (Ab ps) (ns.filter q)).map (λx=>V.int ((cnt (Ab ps) (Ai (ns.filter q) x):Nat):Int))=((frF (Ab ps) (ns.filter q)).map λx=>((cnt (Ab ps) (Ai (ns.filter q) x):Nat):Int)).map V.int:=by rw[A19];rfl
   rw[aC] at a1
   symm
   refine ap2 (.inl (SqL.of a1)) (λn' aD=>?_) (by rw[A01];exact A0O (A0U _ _) ∅) ?_
   . obtain⟨y,hy,rfl⟩:=A0I.mp aD;have:=Bd a4 (mem_frF.mp hy).1;have:=au6 (b:=Ab ps) (B9 a4 y) ∅;omega
   rw[Na,<- Ld a4 aE]
   symm
   refine Pn U.ob (by rfl) ?_
   symm
   have aP:=U.ok.len a5;refine ab3 U.kn ∅ λH3 e3 h3=>?_;have aF:=a3.no (λz=>by rw[Xz z] at hv;cases hv);have a0:=U.put e3 h3 (U.ok.put q);rw[aN9 aF] at a0
   symm
   refine Pn a0.ob (by rfl) ?_
   symm
   refine Yd a0.kn (Xz (by rw[Cm];simp[Bt])) ?_;rw[A01] at a3;exact k _ H3 (((e1.but (d:=kd)).trans e2).trans e3) a0 a3.close
theorem Ol {f:Addr}{fd:FuncData}(F:Fun K "ways_on" "Ways.ways_on" C2 f fd)(T:Eo mg){q:Addr}(J:El K q)(Ah:Mtd P w K mg base 1 q "free_names" ["self","left"] (Az q K))(hm:aQ4 K q "ways_on" f)(hb:Binds K fd ["self","left"] []):FnOk P w K mg base CX0 13 f fd ["self","left"] (Bs q K):=by
 have h:∀ n:Nat,FnOk P w K mg base CX0 (2+n) f fd ["self","left"] (Ce q K n):=λn=>by
  induction n with
  |zero=>exact FnOk.void Jc
  |succ n ih=>exact Mv F T J Ah n ⟨f,fd,ih,hm,hb⟩
 exact h 11
theorem al0 {f:Addr}{fd:FuncData}(F:Fun K "count" "count" Me f fd)(T:Eo mg){q:Addr}(Y:El K q)(Ca:Mkd P w K mg base 3 q "Ways" ["self","half"] (Ft q K))(Am:Mtd P w K mg base 13 q "ways_on" ["self","left"] (Bs q K)):FnOk P w K mg base CX0 14 f fd ["half"] (Rf K):=by
 refine F.ok Yl (λvs H Q E h=>?_) (λa3 A outer s H vs Q E J h=>?_)
 . obtain⟨v,ns,ps,rfl,_⟩:=h;rfl
 obtain⟨v,ns,ps,rfl,hI,hW,Z,k⟩:=h;have hu:=Bf J;have hq:=Be J
 with_reducible refine⟨_,(A3 (Aa (i:=1) Yl.nd ⋯ (by eq_refl) (aw8 Ca (J.mono nofun) ⋯ (A1 (pv 0) A2)))
  (A7 (An (Qf (C:=q) (pv 1) Y.cl Am (J.mono nofun) (A1 (Hj (C:=q) (pv 1) Y.cl Y.n_full ⋯) A2))))),?_⟩
 symm
 refine aU2 λp dx H1 a2 O h1=>?_;refine⟨p,v,dx,ns,ps,rfl,h1,hI.hf_fz O.fz,hW,Z,λnv bd ad kd H2 a1 e2 U=>⟨rfl,?_⟩⟩
 symm
 refine aj9 U.ob (by rfl) ?_
 symm
 refine Pn U.ob (by rfl) ?_
 symm
 have a0:ns.filter (λ_=>true)=ns:=by simp
 refine⟨p,dx,nv,bd,ad,kd,ns,ps,_,λ_=>true,rfl,U,hW,Z,by rw[a0];omega,λa5 H3 e3 a4 _=>?_⟩;rw[a0];exact k H3 ((O.off a2 e2).off (O.free a1) e3)
def Mc (K:W.Frag):Sp:=λvs H Q _=>∃ nv pv ns ps,vs=[nv,pv]/\Is K H (nmD ns) nv/\Is K H (psD ps) pv/\HalfW ns ps/\∀ u H',Same H H'->Is K H' (hfD ns (baP ns ps)) u->Q u H'
def Sv (K:W.Frag):Sp:=λvs H Q _=>∃ v x y ns ps,vs=[v,.str x,.str y]/\Is K H (hfD ns ps) v/\HalfW ns ps/\ps.length<=90/\x∈ns/\y∈ns/\x≠y/\¬ Way ps y x/\∀ u H',Same H H'->Is K H' (hfD ns (baP ns (ps++[(x,y)]))) u->Q u H'
theorem Zw {f:Addr}{fd:FuncData}(F:Fun K "thinned" "thinned" Ib f fd)(T:Eo mg)(a0:Fnd P w K mg base 3 "bare" ["half"] (Wj K)):FnOk P w K mg base CX0 4 f fd ["names","sayings"] (Mc K):=by
 refine F.ok Zo (λvs H Q E h=>?_) (λa2 A outer s H vs Q E O h=>?_)
 . obtain⟨nv,sv,ns,ps,rfl,_⟩:=h;rfl
 obtain⟨nv,sv,ns,ps,rfl,Y,hP,hW,k⟩:=h;have hu:=Bf O;have hq:=Be O
 with_reducible refine⟨_,(A7 (An (B6 (A1 (pv 0) (A1 (Ao a0 (O.mono nofun) ⋯ (A1 (B6 (A1 (pv 0) (A1 (pv 1) A2))) A2)) A2))))),?_⟩
 symm
 refine B7 (A9 (by simp)) λt1 H1 a3 q h1=>?_
 symm
 refine⟨.ref t1,ns,ps,rfl,al8 (SqT.of h1) (Y.nm_fz q.fz) (hP.ps_fz q.fz),hW,λu2 H2 U a1=>?_⟩
 symm
 refine B7 (A9 (by simp)) λt3 Z a4 J h3=>?_;exact k _ Z ((q.trans U).trans J) (al8 (SqT.of h3) (Y.nm_fz ((q.trans U).trans J).fz) (a1.ps_fz J.fz))
theorem aB7 {f:Addr}{fd:FuncData}(F:Fun K "said" "said" Qw f fd)(T:Eo mg)(Ef:Fnd P w K mg base 1 "refuse_strangers" ["half","asked"] (Dm K))(G0:Fnd P w K mg base 1 "way_by_sayings" ["sayings","start","goal"] (Fg K))(Oe:Fnd P w K mg base 4 "thinned" ["names","sayings"] (Mc K)):FnOk P w K mg base CX0 5 f fd ["half","name","other"] (Sv K):=by
 refine F.ok a99 (λvs H Q E h=>?_) (λaC A outer s H vs Q E q h=>?_)
 . obtain⟨v,x,y,ns,ps,rfl,_⟩:=h;rfl
 obtain⟨v,x,y,ns,ps,rfl,U,hW,hl,hx,hy,a1,a2,k⟩:=h;have hu:=Bf q;have hq:=Be q
 with_reducible refine⟨_,(A3 (Dd (Ao Ef (q.mono nofun) ⋯ (A1 (pv 0) (A1 (B6 (A1 (pv 1) (A1 (pv 2) A2))) A2))))
  (A3 (Aa (i:=3) a99.nd ⋯ (by eq_refl) (Ao G0 (q.mono nofun) ⋯ (A1 (Ad (A6 (K:=K) hu) (pv 0) A5 (by ac_rfl)) (A1 (pv 2) (A1 (pv 1) A2)))))
  (A3 (Cj (Ak Tu (pv 3) Qj (Aw _)) (A7 L4) Ay)
  (A7 (An (Ao Oe (q.mono nofun) ⋯ (A1 (Ad (A6 (K:=K) hu) (pv 0) A5 (by ac_rfl)) (A1 (Ap (Al (K:=K)) (Ad (A6 (K:=K) hu) (pv 0) A5 (by ac_rfl)) (B6 (A1 (B6 (A1 (pv 1) (A1 (pv 2) A2))) A2))) A2)))))))),?_⟩
 symm
 refine B7 (A9 (by simp)) λt1 H1 aD Y h1=>?_
 symm
 refine⟨v,.ref t1,ns,ps,[x,y],rfl,U.hf_fz Y.fz,Np (SqT.of h1),az7 hx hy,?_⟩
 symm
 refine ag0 (U.hf_fz Y.fz) λaB a3=>?_
 symm
 refine⟨aB,y,x,ps,rfl,a3,by omega,λu2 H2 e2 a7=>?_⟩
 have a9:u2 = .non:=by
  rcases a7 with ⟨h,_⟩|⟨js,os,_,_,aA⟩
  . exact h
  rcases aA.way with h|h
  . exact absurd h.symm a1
  exact absurd h a2
 subst a9;have Z:=Y.trans e2
 symm
 refine Hf (U.hf_fz Z.fz) λnv hN=>?_
 symm
 refine ag0 (U.hf_fz Z.fz) λpv hP=>?_
 symm
 refine B7 (A9 (by simp)) λt3 H3 aE e3 h3=>?_
 symm
 refine B7 (A9 (by simp)) λt4 H4 aF J h4=>?_;have a4:=hP.ps_fz (e3.trans J).fz;obtain⟨pa,xs,rfl,a6,a0⟩:=Is.tup a4;have aG:ps.length=xs.length:=by rw[<- IsL.length a0,A01]
 refine Qy a6 (SqT.of h4) (A9 (by simp;omega)) λp5 H5 O h5=>?_
 have a5:Is K H5 (psD (ps++[(x,y)])) (.ref p5):=by refine Is.of_tup h5 ?_;rw[A0T];exact IsL.append (IsL.mono O _ _ a0) (.one ((Vk (SqT.of (J _ _ h3))).pr_fz O.fz))
 symm
 refine⟨nv,.ref p5,ns,ps++[(x,y)],rfl,hN.nm_fz ((e3.trans J).trans O).fz,a5,hW.said hx hy a1 a2 ∅,λu6 H6 e6 a8=>?_⟩;exact k u6 H6 (((Z.trans e3).trans (J.trans O)).trans e6) a8
def Fq (C:Addr)(K:W.Frag)(n:Nat):Sp:=λvs H Q _=>∃ p dx nv bd ad kd ns ps kvs q,∃ m:Nat,∃ r:List Str,vs=[.ref p,.int ((B3 ns q:Nat):Int),.int (m:Int)]/\WaysAt K C H p dx nv bd ad kd ns ps (knK ns ps kvs)/\HalfW ns ps/\ns.length<=10/\(ns.filter q).length<n/\(ext (Ab ps) (ns.filter q).length (ns.filter q))[m]? = some r /\
 ∀ u kvs' H',ExtBut kd H H'->WaysAt K C H' p dx nv bd ad kd ns ps (knK ns ps kvs')->Is K H' (nmD r) u->Q u H'
def Kk (C:Addr)(K:W.Frag):Sp:=Fq C K 11
theorem M4 {C:Addr}{K:W.Frag}:∀ vs H Q E,¬ Fq C K 0 vs H Q E:=by rintro vs H Q E ⟨_,_,_,_,_,_,_,_,_,_,_,_,_,_,_,_,h,_⟩;exact absurd h (Nat.not_lt_zero _)
def Il (K:W.Frag):Sp:=λvs H Q _=>∃ v ns ps,∃ m:Nat,∃ r:List Str,vs=[v,.int (m:Int)]/\Is K H (hfD ns ps) v/\HalfW ns ps/\ns.length<=10/\(ext (Ab ps) ns.length ns)[m]? = some r/\∀ u H',Same H H'->Is K H' (nmD r) u->Q u H'
theorem Um {f:Addr}{fd:FuncData}(F:Fun K "order_on" "order_on" Ew f fd)(T:Eo mg){J:Addr}(a1:El K J)(Ah:Mtd P w K mg base 1 J "free_names" ["self","left"] (Az J K))(Am:Mtd P w K mg base 13 J "ways_on" ["self","left"] (Bs J K))(n:Nat)(I0:Fnd P w K mg base (14+n) "order_on" ["ways","left","number"] (Fq J K n)):FnOk P w K mg base CX0 (14+n+1) f fd ["ways","left","number"] (Fq J K (n+1)):=by
 refine F.ok Gy (λvs H Q E h=>?_) (λb0 A outer s H vs Q E U h=>?_)
 . obtain⟨p,dx,nv,bd,ad,kd,ns,ps,kvs,q,m,r,rfl,_⟩:=h;rfl
 obtain⟨p,dx,nv,bd,ad,kd,ns,ps,kvs,q,m,r,rfl,Z,hW,a2,b3,a4,k⟩:=h;have hu:=Bf U;have hq:=Be U;have aD:=hW.nd;have aB:(ns.filter q).Nodup:=aD.filter _
 with_reducible refine⟨_,(A3 (Cj (Ak (Cn (K:=K) hq) (pv 1) A5 (Aw _)) (A7 (An (B6 A2))) Ay)
  (A3 (Aa (i:=3) Gy.nd ⋯ (by eq_refl) (pv 2))
  (A7 (C4 A0V ⋯ (As (K:=K) hu (Qf (C:=J) (pv 0) a1.cl Ah (U.mono ∅) (A1 (pv 1) A2))) (Ag (i:=4) Gy.nd ⋯ (by eq_refl))
  (A3 (Aa (i:=5) Gy.nd ⋯ (by eq_refl) (Ap K2 (pv 1) (Ad (A6 (K:=K) hu) (Hj (C:=J) (pv 0) a1.cl a1.n_bits ⋯) (pv 4) (by ac_rfl))))
  (A3 (Cj (Ak Zs (pv 3) (Qf (C:=J) (pv 0) a1.cl Am (U.mono ∅) (A1 (pv 5) A2)) (Aw _)) (A7 (An (Ap (Al (K:=K)) (B6 (A1 (pv 4) A2)) (Ao I0 (U.mono ∅) ⋯ (A1 (pv 0) (A1 (pv 5) (A1 (pv 3) A2))))))) Ay)
  (A7 (Aa (i:=3) Gy.nd ⋯ (by eq_refl) (Ap K2 (pv 3) (Qf (C:=J) (pv 0) a1.cl Am (U.mono ∅) (A1 (pv 5) A2))))))))))),?_⟩
 symm
 refine Ll (λhz=>?_) (λhz=>?_)
 . have aP:B3 ns q=0:=by injection hz with hz;omega
   have aS:ns.filter q=[]:=A4O.mpr λx O=>by rw[binM_zero.mp aP x O];decide
   rw[aS] at a4
   have aU:r=[]:=by have:=A04 a4;simpa[ext] using this
   subst aU
   symm
   refine B7 nofun λt1 H1 b6 e1 h1=>?_;exact k _ kvs H1 (by walk_at "fr") (Z.same e1) (Np (ns:=[]) (SqT.of h1))
 have aE:ns.filter q≠[]:=λe=>hz (by
  have:B3 ns q=0:=binM_zero.mpr λx O=>by
   cases c:q x with
   |false=>rfl
   |true=>
     have:x∈ns.filter q:=A0N.mpr ⟨O,c⟩;rw[e] at this
     cases this
  rw[this];rfl)
 symm
 refine aj9 Z.ob (by rfl) ?_
 symm
 refine⟨p,dx,nv,bd,ad,kd,ns,ps,q,rfl,Z.b,hW.c,a2,λl2 H2 aR e2 h2=>?_⟩;refine Kf (SqL.of h2) ?_;have aC:l2≠kd:=Ne.symm (ne_of_none Z.kn aR)
 refine Ep (Bp (xs:=(frF (Ab ps) (ns.filter q)).map V.str)) (λi σ Y=>∃ x4 x5 a6,σ=[some (.ref p),some (.int ((B3 ns q:Nat):Int)),some (.int (m:Int)),some (.int ((m-(Qh (Ab ps) (ns.filter q) ((frF (Ab ps) (ns.filter q)).take i)).length:Nat):Int)),x4,x5]/\(Qh (Ab ps) (ns.filter q) ((frF (Ab ps) (ns.filter q)).take i)).length<=m/\ExtBut kd H Y/\WaysAt K J Y p dx nv bd ad kd ns ps (knK ns ps a6)/\Y l2=some (.lst ((frF (Ab ps) (ns.filter q)).map V.str)))
  ⟨_,_,kvs,rfl,A2M _,by walk_at "fr",Z.same e2,h2⟩ (λi σ' H' hP=>?_) (λi x σ' Y O hi hP=>?_) (fun σ' Y hP=>?_)
 . obtain⟨_,_,_,_,_,_,_,h⟩:=hP;exact SqL.of h
 . obtain ⟨x4,x5,a6,rfl,a8,e3,a0,aA⟩:=hP;rw[A07] at O
   cases hz':(frF (Ab ps) (ns.filter q))[i]? with
   |none=>rw[hz'] at O;cases O
   |some z=>
     rw[hz'] at O
     cases O;have aX:=A04 hz';have a9:=(mem_frF.mp aX).1;have aH:=(A0N.mp a9).1;have aT:=(A0N.mp a9).2;have b5:=Ou aD aH aT;have b2:=Bd aB a9;have b1:=A0U q ns;have a7:(Ai (ns.filter q) z).length=(ns.filter q).length-1:=by omega
     have aW:((B3 ns q:Nat):Int)-((Es ns z:Nat):Int)=((B3 ns (λy=>q y && !decide (y=z)):Nat):Int):=by omega
     have aQ:cnt (Ab ps) (Ai (ns.filter q) z)=(ext (Ab ps) ((ns.filter q).length-1) (Ai (ns.filter q) z)).length:=by show(ext (Ab ps) (Ai (ns.filter q) z).length (Ai (ns.filter q) z)).length=_;rw[a7]
     have aF:(Qh (Ab ps) (ns.filter q) ((frF (Ab ps) (ns.filter q)).take (i+1))).length=(Qh (Ab ps) (ns.filter q) ((frF (Ab ps) (ns.filter q)).take i)).length+cnt (Ab ps) (Ai (ns.filter q) z):=by rw[A0R,hz'];show(Qh (Ab ps) (ns.filter q) ((frF (Ab ps) (ns.filter q)).take i++[z])).length=_;rw[ah0,A06,A01,aQ]
     symm
     refine Pn a0.ob (by rfl) ?_
     symm
     refine i_ixD a0.bt (Fv aH) ?_
     symm
     rw[aW];refine aj9 a0.ob (by rfl) ?_
     symm
     refine⟨p,dx,nv,bd,ad,kd,ns,ps,a6,_,rfl,a0,hW.c,a2,by rw[Ba];omega,λaI H4 e4 a3 _=>?_⟩;rw[Ba];have aJ:=e4 _ _ aC aA
     symm
     refine Ll (λhc=>?_) (λhc=>?_)
     . obtain⟨r',hr'⟩:∃ r',(ext (Ab ps) ((ns.filter q).length-1) (Ai (ns.filter q) z))[m-(Qh (Ab ps) (ns.filter q) ((frF (Ab ps) (ns.filter q)).take i)).length]? = some r':=⟨_,A03 ∅⟩;have a5:=aM8 aE hz' a8 hr';rw[a4] at a5;have a5:=A13 a5;subst a5
       symm
       refine B7 (A9 (by simp)) λt5 H5 aG e5 h5=>?_
       symm
       refine⟨p,dx,nv,bd,ad,kd,ns,ps,aI,_,_,r',rfl,a3.same e5,hW,a2,by rw[Ba];omega,by rw[Ba,a7];exact hr',λu6 aZ H6 e6 aM aN=>?_⟩;obtain⟨ua,rfl,aO⟩:=aN.nm
       have b4:r'.length<=10:=by obtain⟨hp,_⟩:=(Cr _ _ _ _ (B9 aB z) a7).mp (A04 hr');have:=hp.length_eq;omega
       have aK:H6 t5=some (.tup [V.str z]):=e6 _ _ (λe=>by subst e;rw[a3.kn] at aG;cases aG) h5;refine Qy (SqT.of aK) aO (A9 (by rw[List.length_map];simp;omega)) λp7 H7 e7 h7=>?_;exact k _ aZ H7 (by walk_at "fr") (aM.same e7) (Np h7)
     symm
     refine aj9 a3.ob (by rfl) ?_
     symm
     refine⟨p,dx,nv,bd,ad,kd,ns,ps,aI,_,rfl,a3,hW.c,a2,by rw[Ba];omega,λaY H5 e5 aL _=>?_⟩;rw[Ba]
     symm
     have aV:((m-(Qh (Ab ps) (ns.filter q) ((frF (Ab ps) (ns.filter q)).take i)).length:Nat):Int)-((cnt (Ab ps) (Ai (ns.filter q) z):Nat):Int)=((m-(Qh (Ab ps) (ns.filter q) ((frF (Ab ps) (ns.filter q)).take (i+1))).length:Nat):Int):=by rw[aF];omega
     refine⟨some (.str z),some (.int ((B3 ns (λy=>q y && !decide (y=z)):Nat):Int)),aY,by rw[<- aV];rfl,by rw[aF];omega,by walk_at "fr",aL,e5 _ _ aC aJ⟩
 obtain⟨x4,x5,a6,rfl,a8,e3,a0,aA⟩:=hP;rw[A01,A0W,Yb _ aE] at a8;exact absurd (A00.mp a4).1 ∅
theorem Wi {f:Addr}{fd:FuncData}(F:Fun K "order_on" "order_on" Ew f fd)(T:Eo mg){q:Addr}(O:El K q)(Ah:Mtd P w K mg base 1 q "free_names" ["self","left"] (Az q K))(Am:Mtd P w K mg base 13 q "ways_on" ["self","left"] (Bs q K))(hm:mg "order_on" = some (.ref f))(J:W.keepIn K (.ref f)=true)(hb:Binds K fd ["ways","left","number"] []):FnOk P w K mg base CX0 25 f fd ["ways","left","number"] (Kk q K):=by
 have h:∀ n:Nat,FnOk P w K mg base CX0 (14+n) f fd ["ways","left","number"] (Fq q K n):=λn=>by
  induction n with
  |zero=>exact FnOk.void M4
  |succ n ih=>exact Um F T O Ah Am n ⟨f,fd,ih,hm,J,hb⟩
 exact h 11
theorem Ww {f:Addr}{fd:FuncData}(F:Fun K "order_of" "order_of" Gh f fd)(T:Eo mg){q:Addr}(O:El K q)(I0:Fnd P w K mg base 25 "order_on" ["ways","left","number"] (Kk q K))(Ca:Mkd P w K mg base 3 q "Ways" ["self","half"] (Ft q K))(Am:Mtd P w K mg base 13 q "ways_on" ["self","left"] (Bs q K)):FnOk P w K mg base CX0 26 f fd ["half","number"] (Il K):=by
 refine F.ok Ph (λvs H Q E h=>?_) (λa7 A outer s H vs Q E J h=>?_)
 . obtain⟨v,ns,ps,m,r,rfl,_⟩:=h;rfl
 obtain⟨v,ns,ps,m,r,rfl,hI,hW,Z,a2,k⟩:=h;have hu:=Bf J;have hq:=Be J;have Y:ns.filter (λ_=>true)=ns:=by simp
 have a9:m<cnt (Ab ps) ns:=(A00.mp a2).1
 with_reducible refine⟨_,(A3 (Aa (i:=2) Ph.nd ⋯ (by eq_refl) (aw8 Ca (J.mono nofun) ⋯ (A1 (pv 0) A2)))
  (A3 (Cj (PW.pt (an4 (Ak Zs (pv 1) A5 (Aw _)) (Yk (Ak aN0 (pv 1) (Qf (C:=q) (pv 2) O.cl Am (J.mono nofun) (A1 (Hj (C:=q) (pv 2) O.cl O.n_full ⋯) A2)) (Aw _))))) (A7 L4) Ay)
  (A7 (An (Ao I0 (J.mono nofun) ⋯ (A1 (pv 2) (A1 (Hj (C:=q) (pv 2) O.cl O.n_full ⋯) (A1 (pv 1) A2)))))))),?_⟩
 symm
 refine aU2 λp dx H1 a6 U h1=>?_;refine⟨p,v,dx,ns,ps,rfl,h1,hI.hf_fz U.fz,hW.c,Z,λnv bd ad kd H2 a3 e2 hA=>⟨rfl,?_⟩⟩
 symm
 refine Ll (λa0=>absurd a0 ∅) (λ_=>?_)
 symm
 refine aj9 hA.ob (by rfl) ?_
 symm
 refine Pn hA.ob (by rfl) ?_
 symm
 refine⟨p,dx,nv,bd,ad,kd,ns,ps,_,λ_=>true,rfl,hA,hW.c,Z,by rw[Y];omega,λkvs' H3 e3 a1 _=>?_⟩;rw[Y]
 symm
 refine Ll (λa0=>absurd a0 ∅) (λ_=>?_)
 symm
 refine Pn a1.ob (by rfl) ?_
 symm
 refine⟨p,dx,nv,bd,ad,kd,ns,ps,kvs',λ_=>true,m,r,rfl,a1,hW,Z,by rw[Y];omega,by rw[Y];exact a2,λu aA H4 e4 a8 a5=>?_⟩;have a4:Same H H3:=(U.off a6 e2).off (U.free a3) e3;exact k u H4 (a4.off (U.free a3) e4) a5
def Iy (C:Addr)(K:W.Frag):Sp:=λvs H Q _=>∃ p dx nv bd ad kd ns ps qs,vs=[.ref p]/\WaysAt K C H p dx nv bd ad kd ns ps (knK ns ps qs)/\Pq ns ps/\ns.length<=10/\Gr ns ps [λ_=>false] qs (λ_=>true) /\
 ∀ d ct H',H d=none->Same H H'->H' d=some (.dK (J5 ns ct))->Sz ns ct->CmI ns ps (Bt ns qs) (Bt ns qs) ct->Q (.ref d) H'
theorem Ss {f:Addr}{fd:FuncData}(F:Fun K "comings_of" "comings_of" Ed f fd)(T:Eo mg){O:Addr}(a1:El K O)(Ah:Mtd P w K mg base 1 O "free_names" ["self","left"] (Az O K)):FnOk P w K mg base CX0 2 f fd ["ways"] (Iy O K):=by
 refine F.ok Ek (λvs H Q E h=>?_) (λb2 A outer s H vs Q E hr h=>?_)
 . obtain⟨p,dx,nv,bd,ad,kd,ns,ps,qs,rfl,_⟩:=h;rfl
 obtain⟨p,dx,nv,bd,ad,kd,ns,ps,qs,rfl,hA,hW,aB,hG,k⟩:=h;have hu:=Bf hr;have hq:=Be hr;have hn:=hW.nd;have b0:=hA.ok.tt;have b3:=hA.ok.len aB
 have aS:ns∈Bt ns qs:=by obtain⟨new,_,_,_,h⟩:=hG;rwa[show ns.filter (λ_=>true)=ns by simp] at h
 with_reducible refine⟨_,(A3 (Aa (i:=1) Ek.nd ⋯ (by eq_refl) (Rv (Ix (Hj (C:=O) (pv 0) a1.cl a1.n_full ⋯) A5 Sn) ⋯ ⋯ nofun nofun))
  (A3 (C4 A0V ⋯ (ay2 (K:=K) ⋯ T.b_reversed (A1 (B1 (Qq ⋯) ⋯ T.b_list PyProof.Rows.Boot.«list» (A1 (Hj (C:=O) (pv 0) a1.cl a1.n_known ⋯) A2)) A2)) (Ag (i:=2) Ek.nd ⋯ (by eq_refl))
  (A7 (C4 A0V ⋯ (As (K:=K) hu (Qf (C:=O) (pv 0) a1.cl Ah (hr.mono nofun) (A1 (pv 2) A2))) (Ag (i:=3) Ek.nd ⋯ (by eq_refl))
  (A3 (Aa (i:=4) Ek.nd ⋯ (by eq_refl) (Ap K2 (pv 2) (Ad (A6 (K:=K) hu) (Hj (C:=O) (pv 0) a1.cl a1.n_bits ⋯) (pv 3) (by ac_rfl))))
  (A7 (Fh hu (pv 1) (pv 4) (Ap (Al (K:=K)) (an7 hu (pv 1) (pv 4) A5 (by with_unfolding_all exact⟨rfl,rfl,rfl,rfl⟩)) (Ad (A6 (K:=K) hu) (pv 1) (pv 2) (by ac_rfl))) ⋯))))))
  (A7 (An (pv 1))))),?_⟩
 symm
 refine Xi λd H1 a3 e1 h1=>?_;have aO:=hA.same e1
 symm
 refine Pn aO.ob (by rfl) ?_
 symm
 refine Rs [(Sum.inl ((B3 ns (λ_=>true):Nat):Int),V.int 1)] h1 rfl (by show 1<=15;decide) λH2 e2 h2=>?_;have aG:Same H H2:=e1.off a3 e2;have aD:=hA.same aG
 symm
 refine ax7 ?_
 symm
 refine Pn aD.ob (by rfl) ?_
 symm
 refine ai1 aD.kn ∅ λl H3 aW e3 h3=>?_
 have hl:((knK ns ps qs).map λkv=>kV kv.1)=qs.map λq=>V.int ((B3 ns q:Nat):Int):=by unfold knK;rw[A19];rfl
 rw[hl] at h3
 symm
 refine aP6 (SqL.of h3) ?_;have aU:bd≠d:=ne_of_none hA.bt a3;have aT:ad≠d:=ne_of_none hA.ah a3;have aV:p≠d:=ne_of_none hA.ob a3;have aZ:l≠d:=(ne_of_none h2 aW).symm
 refine Ep aa0 (λi σ Y=>∃ x2 x3 x4 ct,σ=[some (.ref p),some (.ref d),x2,x3,x4]/\Same H Y/\Y l=some (.lst (qs.map λq=>V.int ((B3 ns q:Nat):Int)))/\WaysB K O Y p dx nv bd ad kd ns ps/\Y d=some (.dK (J5 ns ct))/\Sz ns ct/\CmI ns ps (Bt ns qs) ((Bt ns qs).reverse.take i).reverse ct)
  ⟨_,_,_,[(λ_=>true,1)],rfl,aG.trans e3,h3,(aD.same e3).b,e3 _ _ h2,by unfold Sz J5;simp,by rw[List.take_zero,List.reverse_nil];exact .start aS⟩ (λi σ' H' J=>?_) (λi x σ' Y U hi J=>?_) (fun σ' Y J=>?_)
 . obtain⟨_,_,_,_,_,_,h,_⟩:=J;exact SqL.of h
 . obtain ⟨x2,x3,x4,a4,rfl,e4,aH,aA,a9,aE,a2⟩:=J;rw[<- List.map_reverse,A07] at U
   cases he:qs.reverse[i]? with
   |none=>rw[he] at U;cases U
   |some e=>
     rw[he] at U
     cases U
     have hM:(Bt ns qs).reverse[i]? = some (ns.filter e):=by unfold Bt;rw[<- List.map_reverse,A07,he];rfl
     obtain⟨A0,aK⟩:=aj0 hM;have aJ:=aK9 hG aK;have aP:(ns.filter e).Nodup:=A25 A1U hn
     symm
     refine aj9 aA.ob (by rfl) ?_
     symm
     refine⟨p,dx,nv,bd,ad,kd,ns,ps,e,rfl,aA,hW,aB,λl5 H5 aX e5 h5=>?_⟩;refine Kf (SqL.of h5) ?_;have aY:l5≠d:=(ne_of_none a9 aX).symm
     refine Ep (Bp (xs:=(frF (Ab ps) (ns.filter e)).map V.str)) (λm σ Z=>∃ y3 y4 ct2,σ=[some (.ref p),some (.ref d),some (.int ((B3 ns e:Nat):Int)),y3,y4]/\Same H Z/\Z l=some (.lst (qs.map λq=>V.int ((B3 ns q:Nat):Int)))/\Z l5=some (.lst ((frF (Ab ps) (ns.filter e)).map V.str))/\WaysB K O Z p dx nv bd ad kd ns ps/\Z d=some (.dK (J5 ns ct2))/\Sz ns ct2/\CmJ ns ps (ns.filter e) m a4 ct2)
      ⟨_,_,a4,rfl,e4.trans e5,e5 _ _ aH,h5,aA.same e5,e5 _ _ a9,aE,.zero ..⟩ (λm σ' H' J=>?_) (λm x6 σ' Z a8 hm J=>?_) (fun σ' Z J=>?_)
     . obtain⟨_,_,_,_,_,_,h,_⟩:=J;exact SqL.of h
     . obtain ⟨y3,y4,ct2,rfl,e6,aC,aI,a5,a0,a7,a6⟩:=J;rw[A07] at a8
       cases hz:(frF (Ab ps) (ns.filter e))[m]? with
       |none=>rw[hz] at a8;cases a8
       |some z=>
         rw[hz] at a8
         cases a8;have aF:=A04 hz;have aL:=(mem_frF.mp aF).1;have aM:=(A0N.mp aL).1;have b5:=Ou hn aM (A0N.mp aL).2;have b1:((B3 ns e:Nat):Int)-((Es ns z:Nat):Int)=((B3 ns (λy=>e y && !decide (y=z)):Nat):Int):=by omega
         have aQ:ns.filter e∈Ic ns a4:=by
          rcases aJ with q|⟨_,q|⟨N,hN,x,U,q⟩⟩
          . rw[q] at aF;cases aF
          . rw[q];exact a2.k2
          rw[q];exact a2.k3 N hN x U
         have aR:ns.filter e∈Ic ns ct2:=(a6.ks _).mpr (.inl aQ);obtain⟨k0,aN,g1,g2,g3,g4,g5⟩:=ae9 ns (λy=>e y && !decide (y=z)) (Ie ns (ind (ns.filter e)) ct2) a7;have b4:=ay6 a7 aB
         symm
         refine Pn a5.ob (by rfl) ?_
         symm
         refine i_ixD a5.bt (Fv aM) ?_
         symm
         rw[b1];refine al9 a0 ?_
         symm
         refine⟨_,DGet.k (k:=Sum.inl _) a0,?_⟩;rw[g1]
         symm
         refine Yd a0 (Xc a7 aR) ?_
         symm
         refine ab3 a0 (by unfold J5;rw[List.length_map];omega) λH7 e7 h7=>?_
         symm
         refine⟨_,_,aN,rfl,e6.off a3 e7,e7 _ _ aZ aC,e7 _ _ aY aI,a5.of (e7.fzD a0) (λb o hb q=>e7 _ _ (by rcases hb with rfl|rfl|rfl;exact aV;exact aU;exact aT) q),?_,g4,a6.step hz (Ba ..) g3 g5⟩
         rw[h7,g2];rfl
     obtain⟨y3,y4,ct2,rfl,e6,aC,aI,a5,a0,a7,a6⟩:=J;rw[A01] at a6;refine⟨_,_,_,ct2,rfl,e6,aC,a5,a0,a7,?_⟩;rw[ao7 hM];refine a2.step aK b0 aP ?_ a6;rcases aJ with q|⟨q,_⟩
     . rw[q];intro x U
       cases U
     exact q
 obtain⟨x2,x3,x4,a4,rfl,e4,aH,aA,a9,aE,a2⟩:=J;rw[List.length_reverse,List.length_map,show qs.length=(Bt ns qs).reverse.length by unfold Bt;rw[List.length_reverse,List.length_map],List.take_length,List.reverse_reverse] at a2
 symm
 exact k d a4 Y a3 e4 a9 aE a2
structure Shr (K:W.Frag)(C:Addr)(H0 H:Hp)(o:Obj)(p dx:Addr)(nv:V)(bd ad kd cd fd:Addr)(ns:List Str)(ps:List (Str×Str))(qs:List (Str->Bool))(ct:List ((Str->Bool)×Nat))(as:List Addr)(f:Str->Str->Nat):Prop where
 sm:Same H0 H
 kn:H kd=some (.frz o (.dK (knK ns ps qs)))
 wb:WaysB K C H p dx nv bd ad kd ns ps
 cm:H cd=some (.dK (J5 ns ct))
 tb:TabN H fd ns as f
 fr:∀ a∈as,H0 a=none
 ne:∀ a∈as,a≠kd/\a≠p/\a≠bd/\a≠ad/\a≠cd
theorem Shr.same {K:W.Frag}{C:Addr}{H0 H H':Hp}{o:Obj}{p dx:Addr}{nv:V}{bd ad kd cd fd:Addr}{ns:List Str}{ps:List (Str×Str)}{qs:List (Str->Bool)}{ct:List ((Str->Bool)×Nat)}{as:List Addr}{f:Str->Str->Nat}(h:Shr K C H0 H o p dx nv bd ad kd cd fd ns ps qs ct as f)(e:Same H H'):Shr K C H0 H' o p dx nv bd ad kd cd fd ns ps qs ct as f:=
 ⟨h.sm.trans e,e _ _ h.kn,h.wb.same e,e _ _ h.cm,h.tb.same e,h.fr,h.ne⟩
theorem Shr.put {K:W.Frag}{C:Addr}{H0 H H':Hp}{o:Obj}{p dx:Addr}{nv:V}{bd ad kd cd fd:Addr}{ns:List Str}{ps:List (Str×Str)}{qs:List (Str->Bool)}{ct:List ((Str->Bool)×Nat)}{as:List Addr}{f:Str->Str->Nat}(h:Shr K C H0 H o p dx nv bd ad kd cd fd ns ps qs ct as f)(hn:ns.Nodup){j:Nat}{x z:Str}{m:Nat}{a:Addr}(J:ns[j]? = some x)(ha:as[j]? = some a)(hz:z∈ns)(e:ExtBut a H H')(h':H' a=some (.dK (Ge (W7 ns (f x)) (Sum.inr z:Key) (.int ((m:Nat):Int))))) :
  Shr K C H0 H' o p dx nv bd ad kd cd fd ns ps qs ct as λO y=>if O=x/\y=z then m else f O y:=by
 have F:=A04 ha;obtain⟨U,Y,Z,n4,n5⟩:=h.ne a F;exact⟨h.sm.off (h.fr a F) e,e _ _ U.symm h.kn,h.wb.of (e.fzD (h.tb.row j x a J ha)) (λb o' hb q=>e _ _ (by rcases hb with rfl|rfl|rfl;exact Y.symm;exact Z.symm;exact n4.symm) q),e _ _ n5.symm h.cm,h.tb.put hn J ha hz e h',h.fr,h.ne⟩
def Jk (K:W.Frag):Sp:=λvs H Q _=>∃ v ns ps,vs=[v]/\Is K H (hfD ns ps) v/\HalfW ns ps/\ns.length<=10/\∀ fd as f H',Same H H'->TabN H' fd ns as f->(∀ x∈ns,∀ y∈ns,x≠y->f x y=cnt (Ab (ps++[(x,y)])) ns)->Q (.ref fd) H'
theorem Ts {f:Addr}{fd:FuncData}(F:Fun K "shares_of" "shares_of" Fj f fd)(T:Eo mg){Y:Addr}(a0:El K Y)(Jd:Fnd P w K mg base 2 "comings_of" ["ways"] (Iy Y K))(Ca:Mkd P w K mg base 3 Y "Ways" ["self","half"] (Ft Y K))(Ah:Mtd P w K mg base 1 Y "free_names" ["self","left"] (Az Y K))(Am:Mtd P w K mg base 13 Y "ways_on" ["self","left"] (Bs Y K)):FnOk P w K mg base CX0 14 f fd ["half"] (Jk K):=by
 refine F.ok Bz (λvs H Q E h=>?_) (λcV A outer s H vs Q E hr h=>?_)
 . obtain⟨v,ns,ps,rfl,_⟩:=h;rfl
 obtain⟨v,ns,ps,rfl,hI,hW,aA,k⟩:=h;have hu:=Bf hr;have hq:=Be hr;have hn:=hW.nd
 with_reducible refine⟨_,(A3 (Aa (i:=1) Bz.nd ⋯ (by eq_refl) (aw8 Ca (hr.mono nofun) ⋯ (A1 (pv 0) A2)))
  (A3 (Dd (Qf (C:=Y) (pv 1) a0.cl Am (hr.mono nofun) (A1 (Hj (C:=Y) (pv 1) a0.cl a0.n_full ⋯) A2)))
  (A3 (Aa (i:=2) Bz.nd ⋯ (by eq_refl) (Ao Jd (hr.mono nofun) ⋯ (A1 (pv 1) A2)))
  (A3 (Aa (i:=3) Bz.nd ⋯ (by eq_refl) (B1 (Md (K:=K) hr.hd) ⋯ T.b_dict PyProof.Rows.Boot.«dict» (A1 (Cb ["one"] ["half"] [0] ⋯ ⋯ ⋯ (As (K:=K) hu (Ad (A6 (K:=K) hu) (pv 0) A5 (by ac_rfl))) (λ_ _ _ _=>(Ag (i:=0) (by with_unfolding_all (show(["one","half"]:List Str).Nodup;decide +kernel)) ⋯ (by eq_refl))) (Bq nofun) (λ_ _ _ _=>G1) (λ_ _ _ _=>(B6 (A1 (pv 0) (A1 (B1 (Md (K:=K) hr.hd) ⋯ T.b_dict PyProof.Rows.Boot.«dict» (A1 (Cb ["other"] [] [] ⋯ ⋯ ⋯ (As (K:=K) hu (Ad (A6 (K:=K) hu) (pv 1) A5 (by ac_rfl))) (λ_ _ _ _=>(Ag (i:=0) (by with_unfolding_all (show(["other"]:List Str).Nodup;decide +kernel)) ⋯ (by eq_refl))) (Bq nofun) (λ_ _ _ _=>G1) (λ_ _ _ _=>(B6 (A1 (pv 0) (A1 A5 A2))))) A2)) A2))))) A2)))
  (A3 (C4 A0V ⋯ (As (K:=K) hu (Hj (C:=Y) (pv 1) a0.cl a0.n_known ⋯)) (Ag (i:=4) Bz.nd ⋯ (by eq_refl))
  (A7 (C4 A0V ⋯ (As (K:=K) hu (Qf (C:=Y) (pv 1) a0.cl Ah (hr.mono nofun) (A1 (pv 4) A2))) (Ag (i:=5) Bz.nd ⋯ (by eq_refl))
  (A3 (Aa (i:=6) Bz.nd ⋯ (by eq_refl) (Ap K2 (pv 4) (Ad (A6 (K:=K) hu) (Hj (C:=Y) (pv 1) a0.cl a0.n_bits ⋯) (pv 5) (by ac_rfl))))
  (A3 (Aa (i:=7) Bz.nd ⋯ (by eq_refl) (Ap Do (Ad (A6 (K:=K) hu) (pv 2) (pv 4) (by ac_rfl)) (Ad (A6 (K:=K) hu) (Hj (C:=Y) (pv 1) a0.cl a0.n_known ⋯) (pv 6) (by ac_rfl))))
  (A7 (C4 A0V ⋯ (As (K:=K) hu (Ad (A6 (K:=K) hu) (pv 0) A5 (by ac_rfl))) (Ag (i:=8) Bz.nd ⋯ (by eq_refl))
  (A7 (Cj (a82 (Ap a68 (Ad (A6 (K:=K) hu) (Hj (C:=Y) (pv 1) a0.cl a0.n_bits ⋯) (pv 8) (by ac_rfl)) (pv 6))) (A7 (Fh hu (Ad (A6 (K:=K) hu) (pv 3) (pv 5) (by ac_rfl)) (pv 8) (Ap (Al (K:=K)) (Ad (A6 (K:=K) hu) (Ad (A6 (K:=K) hu) (pv 3) (pv 5) (by ac_rfl)) (pv 8) (by ac_rfl)) (pv 7)) ⋯)) Ay)))))))))
  (A7 (An (pv 3)))))))),?_⟩
 symm
 refine aU2 λp dx H1 cN e1 h1=>?_;refine⟨p,v,dx,ns,ps,rfl,h1,hI.hf_fz e1.fz,hW,aA,λnv bd ad kd H2 cF e2 hA=>⟨rfl,?_⟩⟩
 symm
 refine aj9 hA.ob (by rfl) ?_
 symm
 refine Pn hA.ob (by rfl) ?_
 symm
 have cB:ns.filter (λ_=>true)=ns:=by simp
 refine⟨p,dx,nv,bd,ad,kd,ns,ps,_,λ_=>true,rfl,hA,hW,aA,by rw[cB];omega,λqs H3 e3 aP hG=>?_⟩
 symm
 refine⟨p,dx,nv,bd,ad,kd,ns,ps,qs,rfl,aP,hW,aA,hG,λcd ct H4 bJ e4 h4 hO hC=>?_⟩;have bM:H kd=none:=e1.free cF;have b3:Same H H3:=(e1.off cN e2).off bM e3;have aL:=b3.trans e4;have a3:=aP.same e4;have cL:=a3.ok.tt;have d2:=a3.ok.len aA;have cY:H cd=none:=b3.free bJ;have c9:cd≠kd:=(ne_of_none aP.kn bJ).symm;clear e3 hA e2 h1 aP
 symm
 refine Hf (hI.hf_fz aL.fz) λd8 bX=>?_;obtain⟨na,rfl,hS⟩:=bX.nm;refine X9 hS ?_
 refine Ik (Ir (xs:=ns.map V.str)) (λq i acc H5=>Same H4 H5/\∃ as:List Addr,as.length=i/\as.Nodup/\(∀ a∈as,H5 a=some (.dK (W7 ns λ_=>0))/\H4 a=none)/\PrsK K H5 (Gj (ns.take i) as) acc)
  (λq H' hp e h=>⟨e,[],rfl,by simp,λ_ h=>(by cases h),by rfl⟩) (λq i acc H5 J=>J.1.seqT hS) (λq i x acc H5 bO O hi hl ha J=>?_) (λq acc H5 bO ha aW J=>?_)
 . obtain ⟨e5,as,aW,aV,a5,aH⟩:=J;rw[A07] at O
   cases hz:ns[i]? with
   |none=>rw[hz] at O;cases O
   |some z=>
     rw[hz] at O
     cases O;have d1:i<ns.length:=(A00.mp hz).1
     symm
     refine Hf (hI.hf_fz (aL.trans e5).fz) λd9 bY=>?_;obtain⟨d6,rfl,bE⟩:=bY.nm;refine X9 bE ?_
     refine Ik (Ir (xs:=ns.map V.str)) (λq6 i6 aE H6=>Same H5 H6/\PrsK K H6 (W7 (ns.take i6) λ_=>0) aE)
      (λq6 H' hp e h=>⟨e,by rfl⟩) (λq6 i6 aE H6 J=>J.1.seqT bE) (λq6 i6 x6 aE H6 bP aK cD cG aU J=>?_) (λq6 aE H6 bP aU cX J=>?_)
     . obtain ⟨e6,aQ⟩:=J;rw[A07] at aK
       cases hz6:ns[i6]? with
       |none=>rw[hz6] at aK;cases aK
       |some z6=>
         rw[hz6] at aK
         cases aK
         symm
         refine B7 (A9 (by simp)) λt H7 d4 e7 h7=>?_;have bC:H7 q6=some (.lst aE):=e7 _ _ aU;refine Lg (by rw[A01];omega) cD cG bC λH8 e8 h8=>?_;have b5:=e8.fzL bC;refine⟨(e6.trans e7).off bP e8,?_⟩;rw[show W7 (ns.take (i6+1)) (λ_=>0)=W7 (ns.take i6) (λ_=>0)++[(Sum.inr z6,V.int 0)] by unfold W7;rw[List.take_add_one,hz6,List.map_append];rfl];exact PrsK.snoc (kv:=(Sum.inr z6,V.int 0)) (b5.seq (SqT.of h7)) (PrsK.fz (e7.fz.trans b5) aQ)
     obtain⟨e6,aQ⟩:=J;rw[A01,A0W] at aQ
     symm
     refine ac2 aU aQ (by unfold W7;rw[List.length_map];omega) λb H7 aY e7 h7=>?_;rw[L7 _ _ (aj5 hn _) (λ_ _ _ h=>by cases h),A44] at h7
     symm
     refine B7 (A9 (by simp)) λt H8 d5 e8 h8=>?_;have aM:=(e6.trans e7).trans e8;have bD:H8 q=some (.lst acc):=aM _ _ ha;refine Lg (by rw[A01];omega) hi hl bD λH9 e9 h9=>?_;have c8:b≠q:=Ne.symm (ne_of_none (e6 _ _ ha) aY);have b6:=e9.fzL bD;refine⟨(e5.trans aM).off bO e9,as++[b],by simp[aW],?_,λa a9=>?_,?_⟩
     . rw[A1G];refine⟨aV,by simp,λa c7 c hc e=>?_⟩;have:c=b:=by simpa using hc
       subst this;subst e;have:=e6 _ _ (a5 _ c7).1;rw[aY] at this
       cases this
     . rcases A0A.mp a9 with a9|a9
       . obtain⟨q1,q2⟩:=a5 a a9;exact⟨e9 _ _ (ne_of q1 ha (by intro z;cases z)) (aM _ _ q1),q2⟩
       have:a=b:=by simpa using a9
       subst this;exact⟨e9 _ _ c8 (e8 _ _ h7),e5.free (e6.free aY)⟩
     have ht:ns.take (i+1)=ns.take i++[z]:=by rw[A0R,hz];rfl
     have cJ:(ns.take i).length=as.length:=by rw[A10,aW];omega
     rw[ht,Nj cJ];exact PrsK.snoc (kv:=(Sum.inr z,V.ref b)) (b6.seq (SqT.of h8)) (PrsK.fz (aM.fz.trans b6) aH)
 obtain⟨e5,as,aX,aV,a5,aH⟩:=J;rw[A01] at aX;rw[A01,A0W] at aH
 symm
 refine ac2 ha aH (by unfold Gj;rw[List.length_map,List.length_zip];omega) λfd H6 bL e6 h6=>?_;rw[L7 _ _ (Rm hn) (λ_ _ _ h=>by cases h),A44] at h6;have bK:H4 fd=none:=e5.free bL
 have cA:fd∉as:=λhm=>by
  have:=(a5 fd hm).1;rw[bL] at this
  cases this
 have bF:TabN H6 fd ns as (λ_ _=>0):=⟨aX,aV,cA,h6,λj x a _ a9=>e6 _ _ (a5 a (A04 a9)).1⟩
 have cM:∀ b,b=fd\/b∈as->H4 b=none:=λb hb=>by
  rcases hb with rfl|hb
  . exact bK
  exact(a5 b hb).2
 have aS:=e5.trans e6;have a7:=a3.same aS;have b9:=aS _ _ h4
 symm
 refine Pn a7.ob (by rfl) ?_;refine Ri (as:=[kd]) (.inl a7.kn) (by simp) λo H7 k7 bB=>?_;have cO:p≠kd:=ne_of a7.ob a7.kn (by intro z;cases z);have bH:WaysB K Y H7 p dx nv bd ad kd ns ps:=a7.b.of k7.fz λb o' hb q=>k7.1 b o' (by rcases hb with rfl|rfl|rfl<;>simp[cO,a7.nb,a7.na]) q
 have bN:∀ b,b=fd\/b∈as->b≠kd:=λb hb z=>by
  have:=cM b hb;rw[z,a3.kn] at this
  cases this
 have bG:TabN H7 fd ns as (λ_ _=>0):=bF.of λb o' hb q=>k7.1 b o' (by simpa using bN b hb) q;have bA:H7 cd=some (.dK (J5 ns ct)):=k7.1 _ _ (by simpa using c9) b9;have b4:Same H H7:=λb o' q=>k7.1 b o' (by simpa using ne_of_none q bM) (aS _ _ (aL _ _ q));have cZ:cd≠fd/\cd∉as:=⟨λz=>(by rw[z,bK] at h4;cases h4),λz=>(by rw[(a5 cd z).2] at h4;cases h4)⟩
 have cW:∀ b,b=p\/b=bd\/b=ad->∃ o',H4 b=some o':=λb hb=>by
  rcases hb with rfl|rfl|rfl
  . exact⟨_,a3.ob⟩
  . exact⟨_,a3.bt⟩
  exact⟨_,a3.ah⟩
 have c6:Shr K Y H H7 o p dx nv bd ad kd cd fd ns ps qs ct as (λ_ _=>0):=⟨b4,bB,bH,bA,bG,λa ha=>aL.free (a5 a ha).2,λa ha=>by have aO:=(a5 a ha).2;exact⟨bN a (.inr ha),(ne_of_none a3.ob aO).symm,(ne_of_none a3.bt aO).symm,(ne_of_none a3.ah aO).symm,(ne_of_none h4 aO).symm⟩⟩
 have hl:((knK ns ps qs).map λkv=>kV kv.1)=qs.map λq=>V.int ((B3 ns q:Nat):Int):=by unfold knK;rw[A19];rfl
 clear bH bG bB bA b4 a7 bF h6 b9 a5 aH
 refine Ep La (λi σ H8=>∃ x4 x5 x6 x7 x8 f,σ=[some v,some (.ref p),some (.ref cd),some (.ref fd),x4,x5,x6,x7,x8]/\Shr K Y H H8 o p dx nv bd ad kd cd fd ns ps qs ct as f/\∀ x∈ns,∀ y∈ns,f x y=(((Bt ns qs).take i).map λL=>Ie ns (ind L) ct*aq3 (Ab ps) x y L).sum)
  ⟨_,_,_,_,_,_,rfl,c6,λx _ y _=>rfl⟩ (λi σ' H' J=>?_) (λi x σ' H8 O hi J=>?_) (fun σ' H8 J=>?_)
 . obtain⟨_,_,_,_,_,_,_,h,_⟩:=J;exact h.kn
 . obtain ⟨x4,x5,x6,x7,x8,f,rfl,a8,b0⟩:=J;rw[hl,A07] at O
   cases he:qs[i]? with
   |none=>rw[he] at O;cases O
   |some e=>
     rw[he] at O
     cases O
     have hM:(Bt ns qs)[i]? = some (ns.filter e):=by unfold Bt;rw[A07,he];rfl
     have cP:Bt ns qs=(Bt ns qs).take i++ns.filter e :: (Bt ns qs).drop (i+1):=by
      obtain⟨cC,bU⟩:=A00.mp hM
      conv=>lhs;rw[<- List.take_append_drop i (Bt ns qs),List.drop_eq_getElem_cons cC,bU]
     have bI:=aK9 hG cP;have bT:(ns.filter e).Nodup:=A25 A1U hn;have bS:(frF (Ab ps) (ns.filter e)).Nodup:=A25 A1U bT
     symm
     refine aj9 a8.wb.ob (by rfl) ?_
     symm
     refine⟨p,dx,nv,bd,ad,kd,ns,ps,e,rfl,a8.wb,hW,aA,λl9 H9 cH e9 h9=>?_⟩;refine Kf (SqL.of h9) ?_
     have cI:l9∉as:=λz=>by
      obtain⟨j,Z⟩:=A1K.mp z;have cE:=(A00.mp Z).1;have:=a8.tb.row j (ns[j]'(by rw[<- aX];exact cE)) l9 (A03 _) Z;rw[cH] at this
      cases this
     refine Ep (Bp (xs:=(frF (Ab ps) (ns.filter e)).map V.str)) (λm σ aC=>∃ y5 y6 y7 y8 f2,σ=[some v,some (.ref p),some (.ref cd),some (.ref fd),some (.int ((B3 ns e:Nat):Int)),y5,y6,y7,y8]/\aC l9=some (.lst ((frF (Ab ps) (ns.filter e)).map V.str))/\Shr K Y H aC o p dx nv bd ad kd cd fd ns ps qs ct as f2/\∀ x∈ns,∀ y∈ns,f2 x y=f x y+if x∈(frF (Ab ps) (ns.filter e)).take m/\y∈Ai (ns.filter e) x then Ie ns (ind (ns.filter e)) ct*cnt (Ab ps) (Ai (ns.filter e) x) else 0)
      ⟨_,_,_,_,_,rfl,h9,a8.same e9,λx _ y _=>by simp⟩ (λm σ' H' J=>?_) (λm dA σ' aC aJ hm J=>?_) (fun σ' aC J=>?_)
     . obtain⟨_,_,_,_,_,_,h,_⟩:=J;exact SqL.of h
     . obtain ⟨y5,y6,y7,y8,f2,rfl,b7,a6,aZ⟩:=J;rw[A07] at aJ
       cases hz:(frF (Ab ps) (ns.filter e))[m]? with
       |none=>rw[hz] at aJ;cases aJ
       |some z=>
         rw[hz] at aJ
         cases aJ;have aB:=A04 hz;have bR:=(mem_frF.mp aB).1;have b2:=(A0N.mp bR).1;have d3:=Ou hn b2 (A0N.mp bR).2;have cQ:((B3 ns e:Nat):Int)-((Es ns z:Nat):Int)=((B3 ns (λy=>e y && !decide (y=z)):Nat):Int):=by omega
         have bV:ns.filter e∈Ic ns ct:=by
          rcases bI with q|⟨_,q|⟨N,hN,x,O,q⟩⟩
          . rw[q] at aB;cases aB
          . rw[q];exact hC.k2
          rw[q];exact hC.k3 N ((A4J _ _).subset hN) x O
         have bZ:ns.filter (λy=>e y && !decide (y=z))∈Bt ns qs:=by
          rw[Ba];rcases bI with q|⟨q,_⟩
          . rw[q] at aB;cases aB
          exact(A4F _ _).subset (q z aB)
         have d0:=hC.le hn aA (ns.filter e)
         symm
         refine Pn a6.wb.ob (by rfl) ?_
         symm
         refine i_ixD a6.wb.bt (Fv b2) ?_
         symm
         rw[cQ];refine Yd a6.cm (Xc hO bV) ?_
         symm
         refine Pn a6.wb.ob (by rfl) ?_
         symm
         refine ax3 (.inr ⟨o,a6.kn⟩) (Xz bZ) ?_
         symm
         rw[<- Int.natCast_mul,Ba];refine Hf (hI.hf_fz a6.sm.fz) λd7 bW=>?_;generalize cK:Ie ns (ind (ns.filter e)) ct*cnt (Ab ps) (Ai (ns.filter e) z)=many
         refine Ml bW (λk' σ aD=>∃ z8 f3,σ=[some v,some (.ref p),some (.ref cd),some (.ref fd),some (.int ((B3 ns e:Nat):Int)),some (.str z),some (.int ((B3 ns (λy=>e y && !decide (y=z)):Nat):Int)),some (.int ((many:Nat):Int)),z8]/\Fz aC aD/\aD l9=some (.lst ((frF (Ab ps) (ns.filter e)).map V.str))/\Shr K Y H aD o p dx nv bd ad kd cd fd ns ps qs ct as f3/\∀ x∈ns,∀ y∈ns,f3 x y=f2 x y+if x=z/\y∈ns.take k'/\y∈Ai (ns.filter e) z then many else 0)
          ⟨_,f2,rfl,.refl _,b7,a6,λx _ y _=>by simp⟩ (λk' σ' H' J=>?_) (λk' w σ' aD hw J=>?_) (fun σ' aD J=>?_)
         . obtain⟨_,_,_,h,_⟩:=J;exact h
         . obtain⟨z8,f3,rfl,aT,aN,a4,aG⟩:=J;have aI:=A04 hw
           symm
           refine Pn a4.wb.ob (by rfl) ?_
           symm
           refine i_ixD a4.wb.bt (Fv aI) ?_
           symm
           rw[ab2 hn aI]
           have cR:w∉ns.take k':=λhm=>by
            obtain⟨j,Z⟩:=A1K.mp hm;rw[A30] at Z
            split at Z
            . rename_i hji;have a1:=A00.mp Z;have a2:=A00.mp hw;have:=(A1H hn).mp (a1.2.trans a2.2.symm);omega
            cases Z
           have bQ:w∈Ai (ns.filter e) z↔(e w && !decide (w=z))=true:=by rw[<- Ba,A0N];exact⟨λq=>q.2,λq=>⟨aI,q⟩⟩
           have htk:ns.take (k'+1)=ns.take k'++[w]:=by rw[A0R,hw];rfl
           refine aF1 (λhb=>?_) (λhb=>?_)
           . obtain⟨j,a,Z,aF⟩:=a4.tb.at b2;have b1:=a4.tb.row j z a Z aF
             symm
             refine i_ixD a4.tb.top (Db hn Z aF) ?_
             symm
             refine i_ixD b1 (Fv aI) ?_
             symm
             refine i_ixD a4.tb.top (Db hn Z aF) ?_
             symm
             refine J3 b1 (by unfold W7;rw[List.length_map];omega) λcU aR b8=>?_;rw[<- A45] at b8;have c0:=a4.put hn Z aF aI aR b8
             symm
             refine⟨_,_,rfl,aT.trans (aR.fzD b1),aR _ _ (λz=>cI (z ▸ A04 aF)) aN,c0,λx O y hy=>?_⟩;show(if x=z/\y=w then f3 z w+many else f3 x y)=_
             rw[htk]
             by_cases c:x=z/\y=w
             . obtain⟨rfl,rfl⟩:=c;rw[if_pos ⟨rfl,rfl⟩,aG x O y hy,if_neg (λq=>cR q.2.1),if_pos ⟨rfl,by simp,bQ.mpr hb⟩];rfl
             rw[A0P c,aG x O y hy];congr 1
             by_cases U:x=z/\y∈ns.take k'/\y∈Ai (ns.filter e) z
             . rw[A0X U,A0X ⟨U.1,A0L _ U.2.1,U.2.2⟩]
             rw[A0P U,A0P];rintro⟨c3,c4,c5⟩;rcases A0A.mp c4 with c4|c4
             . exact U ⟨c3,c4,c5⟩
             exact c ⟨c3,by simpa using c4⟩
           symm
           refine⟨_,f3,rfl,aT,aN,a4,λx O y hy=>?_⟩;rw[aG x O y hy,htk];congr 1
           by_cases c:x=z/\y∈ns.take k'/\y∈Ai (ns.filter e) z
           . rw[A0X c,A0X ⟨c.1,A0L _ c.2.1,c.2.2⟩]
           rw[A0P c,A0P];rintro⟨c1,U,c3⟩;rcases A0A.mp U with U|U
           . exact c ⟨c1,U,c3⟩
           have:y=w:=by simpa using U
           subst this;rw[bQ.mp c3] at hb
           cases hb
         obtain⟨z8,f3,rfl,aT,aN,a4,aG⟩:=J;refine⟨_,_,_,_,f3,rfl,aN,a4,λx O y hy=>?_⟩;rw[aG x O y hy,aZ x O y hy,A0W,A0R,hz,Nat.add_assoc];congr 1
         have cT:z∉(frF (Ab ps) (ns.filter e)).take m:=λhm=>by
          obtain⟨j,Z⟩:=A1K.mp hm;rw[A30] at Z
          split at Z
          . rename_i hji;have a1:=A00.mp Z;have a2:=A00.mp hz;have:=(A1H bS).mp (a1.2.trans a2.2.symm);omega
          cases Z
         by_cases c:x=z
         . subst c
           by_cases U:y∈Ai (ns.filter e) x
           . rw[if_neg (λq=>cT q.1),if_pos ⟨rfl,hy,U⟩,if_pos ⟨by simp,U⟩,cK,Nat.zero_add]
           rw[A0P (λq=>U q.2),A0P (λq=>U q.2.2),A0P (λq=>U q.2)]
         rw[A0P (λq:x=z/\_=>c q.1),Nat.add_zero]
         by_cases U:x∈(frF (Ab ps) (ns.filter e)).take m/\y∈Ai (ns.filter e) x
         . rw[A0X U,A0X ⟨A0L _ U.1,U.2⟩]
         rw[A0P U,A0P];rintro⟨q1,q2⟩;rcases A0A.mp q1 with q1|q1
         . exact U ⟨q1,q2⟩
         exact c (by simpa using q1)
     obtain⟨y5,y6,y7,y8,f2,rfl,b7,a6,aZ⟩:=J;refine⟨_,_,_,_,_,f2,rfl,a6,λx O y hy=>?_⟩;rw[aZ x O y hy,b0 x O y hy,A01,A0W,A0R,hM,A0T,List.sum_append];congr 1;show _=Ie ns (ind (ns.filter e)) ct*aq3 (Ab ps) x y (ns.filter e)+0;unfold aq3
     split
     . rfl
     rfl
 obtain⟨x4,x5,x6,x7,x8,f,rfl,a8,b0⟩:=J
 symm
 refine k fd as f H8 a8.sm a8.tb λx O y hy cS=>?_;rw[b0 x O y hy,hl,List.length_map,show qs.length=(Bt ns qs).length by unfold Bt;rw[List.length_map],List.take_length];exact hC.share cL hW O hy cS
def Jg (K:W.Frag):Sp:=λvs H Q _=>∃ v ns ps,vs=[v]/\Is K H (hfD ns ps) v/\HalfW ns ps/\ns.length<=10/\∀ l ys H',H l=none->Same H H'->H' l=some (.lst ys)->IsL K H' (quP ns ps) ys->Q (.ref l) H'
theorem ay9 {ns:List Str}{ps:List (Str×Str)}(h:ns.length<=10):(unP ns ps).length<=100:=by unfold unP unK;rw[A5A];refine A0O (M7 (c:=10) λi _=>?_) (by rw[A1V];omega);unfold unR;rw[A01];exact A0O (A0U _ _) (by rw[A1C];omega)
theorem Ur {f:Addr}{fd:FuncData}(F:Fun K "questions" "questions" Ff f fd)(T:Eo mg)(Rg:Fnd P w K mg base 3 "untold" ["half"] (Oj K))(Km:Fnd P w K mg base 14 "shares_of" ["half"] (Jk K)):FnOk P w K mg base CX0 15 f fd ["half"] (Jg K):=by
 refine F.ok Mu (λvs H Q E h=>?_) (λaA A outer s H vs Q E O h=>?_)
 . obtain⟨v,ns,ps,rfl,_⟩:=h;rfl
 obtain⟨v,ns,ps,rfl,hI,hW,a0,k⟩:=h;have hu:=Bf O;have hq:=Be O;have hn:=hW.nd
 with_reducible refine⟨_,(A3 (Aa (i:=1) Mu.nd ⋯ (by with_unfolding_all exact A3I rfl) (Ao Km (O.mono nofun) ⋯ (A1 (pv 0) A2)))
  (A7 (An (Cb ["pair"] ["shares"] [1] ⋯ ⋯ ⋯ (As (K:=K) hu (Ao Rg (O.mono nofun) ⋯ (A1 (pv 0) A2))) (λ_ _ _ _=>(Ag (i:=0) (by with_unfolding_all (show(["pair","shares"]:List Str).Nodup;decide +kernel)) ⋯ (by eq_refl))) (Bq nofun) (λ_ _ _ _=>G1) (λ_ _ _ _=>(B6 (A1 (pv 0) (A1 (B6 (A1 (Ad (A6 (K:=K) hu) (Ad (A6 (K:=K) hu) (pv 1) (Ad (A6 (K:=K) hu) (pv 0) A5 (by ac_rfl)) (by ac_rfl)) (Ad (A6 (K:=K) hu) (pv 0) A5 (by ac_rfl)) (by ac_rfl)) (A1 (Ad (A6 (K:=K) hu) (Ad (A6 (K:=K) hu) (pv 1) (Ad (A6 (K:=K) hu) (pv 0) A5 (by ac_rfl)) (by ac_rfl)) (Ad (A6 (K:=K) hu) (pv 0) A5 (by ac_rfl)) (by ac_rfl)) A2))) A2)))))))),?_⟩
 symm
 refine⟨v,ns,ps,rfl,hI,hW,a0,λfd as f H1 Y hT hf=>?_⟩
 symm
 refine⟨v,ns,ps,rfl,hI.hf_fz Y.fz,hW,λu H2 Z a9=>?_⟩
 symm
 have aE:=ay9 (ps:=ps) a0;refine a88 a9 (λ_=>true) (λp=>qsD p (cnt (Ab (ps++[(p.1,p.2)])) ns) (cnt (Ab (ps++[(p.2,p.1)])) ns)) (λ_=>Tq ..) ∅ (λi p w H3 R R' hp J e3 hR aB=>?_) (λl ys H3 hl e3 h3 hL=>?_)
 . have a8:=A04 hp;obtain⟨U,m2,_⟩:=T3 a8;have a7:=Y0 hn a8;have q:=hT.same (Z.trans e3);obtain⟨j1,a1,a5,a3⟩:=q.at U;obtain⟨j2,a2,a6,a4⟩:=q.at m2
   symm
   refine Vv J ?_
   symm
   refine i_ixD q.top (Db hn a5 a3) ?_
   symm
   refine Ny J ?_
   symm
   refine i_ixD (q.row j1 p.1 a1 a5 a3) (Fv m2) ?_
   symm
   refine Ny J ?_
   symm
   refine i_ixD q.top (Db hn a6 a4) ?_
   symm
   refine Vv J ?_
   symm
   refine i_ixD (q.row j2 p.2 a2 a6 a4) (Fv U) ?_;rw[hf p.1 U p.2 m2 a7,hf p.2 m2 p.1 U a7.symm]
   symm
   refine B7 (A9 (by simp)) λt4 H4 aC e4 h4=>?_
   symm
   refine B7 (A9 (by simp)) λt5 H5 aD e5 h5=>?_;exact hR rfl _ _ (e4.trans e5) (Is.of_tup (SqT.of h5) (.cons (Is.mono (e4.trans e5) _ _ J) (.one (Is.of_tup (SqT.of (e5 _ _ h4)) (.cons L3 (.one L3))))))
 rw[Iu] at hL
 symm
 exact k l ys H3 (Y.free (Z.free hl)) ((Y.trans Z).trans e3) h3 hL
def lamQ:Str:=("best":Str) ++ ".<locals>." ++ "<lambda>"
abbrev LmT (P:Addr)(H:Hp):Prop:=LamT P 158 26 lamQ H
def qA (ns:List Str)(ps:List (Str×Str))(p:Str×Str):Nat:=cnt (Ab (ps++[(p.1,p.2)])) ns
def qB (ns:List Str)(ps:List (Str×Str))(p:Str×Str):Nat:=cnt (Ab (ps++[(p.2,p.1)])) ns
def qMn (ns:List Str)(ps:List (Str×Str))(p:Str×Str):Int:=if((qB ns ps p:Nat):Int)<((qA ns ps p:Nat):Int) then((qB ns ps p:Nat):Int) else((qA ns ps p:Nat):Int)
theorem az4 (ns:List Str)(ps:List (Str×Str)):frzL (quP ns ps)=true:=Cu _ (λ_=>Tq ..) _
theorem as0 (ns:List Str)(ps:List (Str×Str)):quP ns ps=(unP ns ps).map λp=>qsD p (qA ns ps p) (qB ns ps p):=rfl
def aR6 (K:W.Frag)(H:Hp)(ns:List Str)(ps:List (Str×Str))(u:V):Prop:=(u = .non/\unP ns ps=[])\/∃ p∈unP ns ps,Is K H (qsD p (qA ns ps p) (qB ns ps p)) u/\∀ q∈unP ns ps,qMn ns ps q<=qMn ns ps p
def Sa (P:Addr)(K:W.Frag):Sp:=λvs H Q _=>∃ v ns ps,vs=[v]/\Is K H (hfD ns ps) v/\HalfW ns ps/\ns.length<=10/\LmT P H/\∀ u H',ExtBut P H H'->LmT P H'->aR6 K H' ns ps u->Q u H'
theorem aS5 {K:W.Frag}{H:Hp}{p:Str×Str}{m n:Nat}{v:V}(h:Is K H (qsD p m n) v):∃ a b x,v = .ref a/\SqT K H a [x,.ref b]/\SqT K H b [.int ((m:Nat):Int),.int ((n:Nat):Int)]:=by
 obtain⟨a,xs,rfl,h1,h2⟩:=Is.tup h;obtain⟨O,U,rfl,i1,h2⟩:=B2 h2;obtain⟨Y,J,rfl,i2,h2⟩:=B2 h2;have e:J=[]:=by simpa only[L2.IsL] using h2
 subst e;obtain⟨b,ys,rfl,q,F⟩:=Is.tup i2;have:=IsL.int_eq (ns:=[((m:Nat):Int),((n:Nat):Int)]) F;subst this;exact⟨a,b,O,rfl,h1,q⟩
theorem Ue {P:Addr}{H H':Hp}{ps:Array Value}(e:ExtBut P H H')(h:H P=some (.tbl ps)):Fz H H':=Yw e λxs q=>by
 rcases q with q|⟨o,q⟩
 . rw[h] at q;cases q
 rw[h] at q;cases q
theorem Fx {P:Addr}{a b:Nat}{q:Str}{H:Hp}(h:LamT P a b q H):∃ ps,H P=some (.tbl ps):=by
 rcases h with h|⟨c,h,_⟩
 . exact⟨_,h⟩
 exact⟨_,h⟩
theorem aG7 {K:W.Frag}{P:Addr}{line q:Nat}{qual:Str}{t:TA}{σ:L2.St}{H:Hp}{Q:VK}(k:t σ H λvs H1=>LamT P line q qual H1/\∀ H2,ExtBut P H1 H2->LamT P line q qual H2->ax5 K vs H2 Q):aI1 K P line q qual t σ H Q:=k
theorem aC1 {f:Addr}{fd:FuncData}(F:Fun K "best" "best" Qp f fd)(T:Eo mg){a0:Addr}{Wz:Addr}(lb:aQ5 K mg base Wz a0)(a9:fd.code = .ref Wz)(Ki:Fnd P w K mg base 15 "questions" ["half"] (Jg K)):FnOk P w K mg base CX0 16 f fd ["half"] (Sa a0 K):=by
 refine Fun.okC F a9 ag5 (λvs H Q E h=>?_) (λA outer s H vs Q E Y h=>?_)
 . obtain⟨v,ns,ps,rfl,_⟩:=h;rfl
 obtain⟨v,ns,ps,rfl,hI,hW,a6,hT,k⟩:=h;have hu:=Bf Y;have hq:=Be Y
 with_reducible refine⟨_,(A3 (Aa (i:=1) ag5.nd ⋯ (by eq_refl) (Ao Ki (Y.mono nofun) ⋯ (A1 (pv 0) A2)))
  (A3 (Cj (Ak (Cn (K:=K) hq) (Aq (B8 (K:=K)) ⋯ T.b_len PyProof.Rows.Boot.«len» (A1 (pv 1) A2)) A5 (Aw _)) (A7 (An Qj)) Ay)
  (A7 (An (ab9 (K:=K) ⟨⋯,lb.hd,lb.bi,lb.gP⟩ ⋯ Y.depth ⋯ T.b_max T.b_min (A1 (pv 1) A2)))))),?_⟩
 symm
 refine⟨v,ns,ps,rfl,hI,hW,a6,λl ys H1 hl J h1 a1=>?_⟩;have aE:=IsL.length a1;rw[as0,A01] at aE
 symm
 refine Ll (λhc=>?_) (λhc=>?_)
 . symm
   have h0:unP ns ps=[]:=A1B.mp (by have:=V.int.inj hc;omega);exact k .non H1 J.but (hT.same J) (.inl ⟨rfl,h0⟩)
 have aD:0<ys.length:=by
  rcases A5K ys.length with z|z
  . exact absurd (by rw[z];rfl) hc
  exact z
 symm
 refine aG7 ?_
 symm
 refine⟨hT.same J,λH2 Z a8=>?_⟩;obtain⟨tps,a3⟩:=Fx (hT.same J);have a5:=Ue Z a3;have aA:l≠_:=ne_of h1 a3 (by intro z;cases z);have a7:=IsL.fz a5 _ _ (az4 ns ps) a1
 have a4:∀(i:Nat) u,ys[i]? = some u->∃ p,(unP ns ps)[i]? = some p/\Is K H2 (qsD p (qA ns ps p) (qB ns ps p)) u:=λi u U=>by
  obtain ⟨dd,hd,O⟩:=IsL.get a7 U;rw[as0,A07] at hd
  cases hp:(unP ns ps)[i]? with
  |none=>rw[hp] at hd;cases hd
  |some p=>
    rw[hp] at hd
    cases hd;exact⟨p,rfl,O⟩
 refine⟨l,ys,λi=>qMn ns ps ((unP ns ps).getD i ("","")),rfl,SqL.of (Z _ _ aA h1),aD,λi u U=>?_,λi u U aB=>?_⟩
 . obtain⟨p,hp,O⟩:=a4 i u U;obtain⟨a,b,x,rfl,g1,g2⟩:=aS5 O;refine⟨a,b,x,_,_,rfl,g1,g2,?_⟩;show qMn ns ps ((unP ns ps).getD i ("",""))=_;rw[A1R,hp];rfl
 obtain⟨p,hp,O⟩:=a4 i u U;refine k u H2 (λb o hb q=>Z _ _ hb (J _ _ q)) a8 (.inr ⟨p,A04 hp,O,λp' aC=>?_⟩);obtain⟨j,hj⟩:=A1K.mp aC;have aF:=(A00.mp hj).1;have hm:=(aB j ∅).1;have g1:(unP ns ps).getD i ("","")=p:=by rw[A1R,hp];rfl
 have g2:(unP ns ps).getD j ("","")=p':=by rw[A1R,hj];rfl
 have a2:qMn ns ps ((unP ns ps).getD i ("",""))>=qMn ns ps ((unP ns ps).getD j ("","")):=hm;rw[g1,g2] at a2;exact a2
def LmR (P:Addr)(H:Hp):Prop:=LamT P 186 35 "order_of_row.<locals>.<lambda>" H
def Fm (K:W.Frag):Sp:=λvs H Q _=>∃ v ds n,vs=[v,.int n]/\Is K H (.tuple ds) v/\Q (.bl (decide ((ds.length:Int)=n))) H
def Ey (K:W.Frag):Sp:=λvs H Q _=>∃ r x y ns ps as,vs=[.ref r,.str x,.str y]/\TabR H r ns as (Way ps)/\ns.Nodup/\x∈ns/\y∈ns/\x≠y/\unB ps x y=true/\Q (.bl true) H
def Gk (P:Addr)(K:W.Frag):Sp:=λvs H Q _=>∃ r ns ps as row,vs=[.ref r]/\TabR H r ns as (Way ps)/\HalfW ns ps/\ns.length<=10/\ext (Ab ps) ns.length ns=[row]/\LmR P H/\∀ v H',ExtBut P H H'->LmR P H'->Is K H' (nmD row) v->Q v H'
def G5 (K:W.Frag):Sp:=λvs H Q _=>∃ r x y ns ps as,vs=[.ref r,.str x,.str y]/\TabR H r ns as (Way ps)/\HalfW ns ps/\x∈ns/\y∈ns/\∀ r' q H',H r'=none->(∀ a∈q,H a=none)->Keep [r] H H'->Tab H' r' ns q (Way (ps++[(x,y)]))->Q (.ref r') H'
structure TabP (H:Hp)(r:Addr)(ns:List Str)(i:Nat)(as:List Addr)(R:Str->Str->Prop):Prop where
 len:as.length=i
 nd:as.Nodup
 nr:r∉as
 top:H r=some (.dK (Gj (ns.take i) as))
 row:∀(j:Nat) (z:Str) (a:Addr),ns[j]? = some z->as[j]? = some a->∃ ks:List Str,H a=some (.dK (Hh ks))/\ks.Nodup/\(∀ y∈ks,y∈ns)/\∀ y,y∈ks↔R z y
theorem TabP.done {H:Hp}{r:Addr}{ns:List Str}{as:List Addr}{R:Str->Str->Prop}(h:TabP H r ns ns.length as R):Tab H r ns as R:=⟨h.len,h.nd,h.nr,by have:=h.top;rwa[A0W] at this,h.row⟩
theorem TabP.snoc {H:Hp}{f b:Addr}{ns ks:List Str}{i:Nat}{as:List Addr}{z:Str}{R:Str->Str->Prop}(hl:as.length=i)(nd:as.Nodup)(nr:f∉as)(hb:b∉as)(U:b≠f)(hz:ns[i]? = some z)(top:H f=some (.dK (Gj (ns.take (i+1)) (as++[b]))))
  (row:∀(j:Nat) (z:Str) (a:Addr),ns[j]? = some z->as[j]? = some a->∃ ks:List Str,H a=some (.dK (Hh ks))/\ks.Nodup/\(∀ y∈ks,y∈ns)/\∀ y,y∈ks↔R z y)
  (h1:H b=some (.dK (Hh ks))) (h2:ks.Nodup) (J:∀ y∈ks,y∈ns) (O:∀ y,y∈ks↔R z y):TabP H f ns (i+1) (as++[b]) R:=by
 refine⟨by rw[A06,hl];rfl,?_,?_,top,λj z' a F ha=>?_⟩
 . rw[A1G];exact⟨nd,by simp,λu hu v hv e=>hb (by rw[List.mem_singleton.mp hv] at e;exact e ▸ hu)⟩
 . intro q;rcases A0A.mp q with q|q
   . exact nr q
   exact U (A0K.mp q).symm
 rcases Nat.lt_or_ge j as.length with q|q
 . rw[A1S q] at ha;exact row j z' a F ha
 rw[A39 q] at ha
 have Y:j-as.length=0:=by have:=(A00.mp ha).1;simp only[List.length_singleton] at this;omega
 rw[Y] at ha;have:b=a:=by simpa using ha
 subst this;have Z:j=i:=by omega
 subst Z;rw[hz] at F
 cases F;exact⟨ks,h1,h2,J,O⟩
def J6 (K:W.Frag):Sp:=λvs H Q _=>∃ r ns ps as row,vs=[.ref r]/\TabR H r ns as (Way ps)/\HalfW ns ps/\ext (Ab ps) ns.length ns=[row]/\∀ H',Keep [r] H H'->Q (.bl true) H'
theorem aa9 {ns ks:List Str}{ps:List (Str×Str)}{z:Str}(hn:ns.Nodup)(h2:ks.Nodup)(F:∀ y∈ks,y∈ns)(q:∀ y,y∈ks↔Way ps z y):ks.length=szW ns ps z:=by refine Lo h2 (hn.sublist A1U) λy=>?_;rw[A0N,wayB_iff];exact⟨λh=>⟨F y h,(q y).mp h⟩,λh=>(q y).mpr h.2⟩
theorem Xe {α:Type}(f:α->Nat):∀ l:List α,(l.map λx=>((f x:Nat):Int)).sum=(((l.map f).sum:Nat):Int)
 | []=>rfl
 |a :: l=>by rw[A0H,A1F,Xe f l,A0H,A1F,A45]
theorem aa2:∀ {ns:List Str} {as:List Addr},as.length=ns.length->(Gj ns as).map (λkv=>kv.1)=ns.map λx=>(Sum.inr x:Key)
 | [],[],_=>rfl
 | [],_ :: _,h=>by simp at h
 |_ :: _,[],h=>by simp at h
 |n :: ns,a :: as,h=>by have q:=aa2 (ns:=ns) (as:=as) (by simpa using h);unfold Gj at q ⊢;rw[A5L,A0H,A0H,q];rfl
theorem Lx {f:Addr}{fd:FuncData}(F:Fun K "are_two_untold" "are_two_untold" By f fd)(T:Eo mg)(Dr:Fnd P w K mg base 1 "are_untold" ["reach","one","other"] (Gd K)):FnOk P w K mg base CX0 2 f fd ["reach","one","other"] (Ey K):=by
 refine F.ok M6 (λvs H Q E h=>?_) (λa2 A outer s H vs Q E O h=>?_)
 . obtain⟨r,x,y,ns,ps,as,rfl,_⟩:=h;rfl
 obtain⟨r,x,y,ns,ps,as,rfl,q,hn,U,Y,a1,a0,k⟩:=h;have hu:=Bf O;have J:=Be O;obtain⟨i,a,hi,ha⟩:=q.at U;obtain⟨j,b,Z,hb⟩:=q.at Y
 with_reducible refine⟨_,(A7 (An (Ku (Fl (Mt (K:=K) J) (pv 1) (pv 0) ⋯) (Ku (Fl (Mt (K:=K) J) (pv 2) (pv 0) ⋯) (Ku (Fl (Qi (K:=K) J) (pv 1) (pv 2) (Aw _)) (R5 (Ao Dr (O.mono nofun) ⋯ (A1 (pv 0) (A1 (pv 1) (A1 (pv 2) A2)))))))))),?_⟩
 symm
 refine ar4 q.top (Db hn hi ha) ⟨true,rfl,?_⟩
 symm
 refine ar4 q.top (Db hn Z hb) ⟨true,rfl,?_⟩
 symm
 rw[if_pos (by simpa using a1)]
 symm
 exact⟨r,x,y,ns,ps,as,rfl,q,hn,U,Y,by rw[a0];exact k⟩
theorem Uo {f:Addr}{fd:FuncData}(F:Fun K "is_row_of" "is_row_of" Er f fd)(T:Eo mg):FnOk P w K mg base CX0 1 f fd ["reach"] (J6 K):=by
 refine F.ok Vj (λvs H Q E h=>?_) (λa4 A outer s H vs Q E hr h=>?_)
 . obtain⟨r,ns,ps,as,row,rfl,_⟩:=h;rfl
 obtain⟨r,ns,ps,as,row,rfl,J,hW,he,k⟩:=h;have hu:=Bf hr;have hq:=Be hr;have a5:=hW.few;have hn:=hW.nd;have a2:(Gj ns as).length=ns.length:=by unfold Gj;rw[List.length_map,List.length_zip,J.len,Nat.min_self]
 with_reducible refine⟨_,(A7 (An (Fl (Cn (K:=K) hq) (Ap Do A5 (Aq (Ky (K:=K) ⋯) ⋯ T.b_sum PyProof.Rows.Boot.«sum» (A1 (Cb ["name"] ["reach"] [0] ⋯ ⋯ ⋯ (As (K:=K) hu (pv 0)) (λ_ _ _ _=>(Ag (i:=0) (by with_unfolding_all (show(["name","reach"]:List Str).Nodup;decide +kernel)) ⋯ (by eq_refl))) (Bq nofun) (λ_ _ _ _=>G1) (λ_ _ _ _=>(Aq Nl ⋯ T.b_len PyProof.Rows.Boot.«len» (A1 (Ad (A6 (K:=K) hu) (pv 1) (pv 0) (by ac_rfl)) A2)))) A2))) (Ap Do (Aq Nl ⋯ T.b_len PyProof.Rows.Boot.«len» (A1 (pv 0) A2)) (Ap K2 (Aq Nl ⋯ T.b_len PyProof.Rows.Boot.«len» (A1 (pv 0) A2)) A5)) (Aw _)))),?_⟩
 symm
 refine Ri (as:=[r]) J.top (A0K.mpr rfl) λo H1 k1 h1=>?_;refine Ik La (λq i acc H2=>Same H1 H2/\acc=(ns.take i).map λx=>V.int ((szW ns ps x:Nat):Int)) (λq H' a0 e h=>⟨e,rfl⟩) (λq i acc H2 U=>U.1 _ _ h1) (λq i x acc H2 a0 hx hi hl Z U=>?_) (λq acc H2 a0 Z hl U=>?_)
 . obtain⟨Y,rfl⟩:=U;rw[Lh J.len,A07] at hx;obtain⟨z,hz,rfl⟩:=A1Z.mp hx;have O:=(J.keep k1).same Y;obtain⟨j,a,hj,ha⟩:=O.at (A04 hz);obtain⟨ks,g1,g2,g3,g4⟩:=O.row j z a hj ha
   symm
   refine Mh O hn hj ha ?_
   symm
   refine ai6 g1 ?_;rw[K7,aa9 hn g2 g3 g4];refine Lg (by rw[A01];omega) hi hl Z λH3 e3 h3=>⟨?_,?_⟩
   . walk_at "sm"
   rw[A0R,hz];simp
 obtain⟨Y,rfl⟩:=U;rw[Lh J.len,A01,A0W] at Z;have O:=(J.keep k1).same Y
 symm
 refine ap2 (ns:=ns.map λx=>((szW ns ps x:Nat):Int)) (.inl (SqL.of (by rw[Z,A19];rfl))) (λn a1=>?_) (by rw[A01];omega) ?_
 . obtain⟨x,hx,rfl⟩:=A0I.mp a1;have:szW ns ps x<=ns.length:=A0U _ _;omega
 symm
 refine ai6 O.top ?_
 symm
 refine ai6 O.top ?_;rw[a2]
 symm
 have a3:(2*(ns.map λx=>((szW ns ps x:Nat):Int)).sum:Int)=(ns.length:Int)*((ns.length:Int)-1):=by
  have h1:=av6 hW he;rw[Xe]
  cases hl0:ns.length with
  |zero=>
    rw[hl0] at h1;have:(ns.map (szW ns ps)).sum=0:=by omega
    rw[this];rfl
  |succ n=>
    rw[hl0,A4C] at h1;have h2:((2*(ns.map (szW ns ps)).sum:Nat):Int)=(((n+1)*n:Nat):Int):=by rw[h1]
    push_cast at h2 ⊢
    rw[h2,Int.add_sub_cancel]
 rw[a3,A16 rfl];exact k H2 (k1.trans (Y.keep _))
theorem a87 {P a:Addr}{H H':Hp}{ps:Array Value}{kvs:List (Key×V)}(e:ExtBut P H H')(h:H P=some (.tbl ps))(r:Rd H a (.dK kvs)):Rd H' a (.dK kvs):=by
 rcases r with r|⟨o,r⟩
 . exact .inl (e _ _ (ne_of r h (by intro z;cases z)) r)
 exact .inr ⟨o,e _ _ (ne_of r h (by intro z;cases z)) r⟩
theorem TabR.tbl {P r:Addr}{H H':Hp}{tps:Array Value}{ns:List Str}{as:List Addr}{R:Str->Str->Prop}(e:ExtBut P H H')(h:H P=some (.tbl tps))(t:TabR H r ns as R):TabR H' r ns as R:=
 ⟨t.len,a87 e h t.top,λi z a hz ha=>let ⟨ks,h1,h2⟩:=t.row i z a hz ha;⟨ks,a87 e h h1,h2⟩⟩
theorem Pe {f:Addr}{fd:FuncData}(F:Fun K "order_of_row" "order_of_row" Cf f fd)(T:Eo mg){Y:Addr}{Wm:Addr}(O:aQ5 K mg base Wm Y)(a3:fd.code = .ref Wm):FnOk P w K mg base CX0 1 f fd ["reach"] (Gk Y K):=by
 refine Fun.okC F a3 Nk (λvs H Q E h=>?_) (λA outer s H vs Q E J h=>?_)
 . obtain⟨r,ns,ps,as,row,rfl,_⟩:=h;rfl
 obtain⟨r,ns,ps,as,row,rfl,hT,hW,a6,he,hL,k⟩:=h;have hu:=Bf J;have hq:=Be J;have hn:=hW.nd
 with_reducible refine⟨_,(A7 (An (B1 (Co (K:=K)) ⋯ T.b_tuple PyProof.Rows.Boot.«tuple» (A1 (Zj (i:=0) ⟨⋯,O.hd,O.bi,O.gP⟩ ⋯ J.depth ⋯ T.b_sorted T.b_len ⋯ ⋯ (A1 (pv 0) A2)) A2)))),?_⟩
 symm
 refine aw5 rfl ?_
 symm
 refine⟨rfl,hL,λH2 Z a2=>?_⟩;obtain⟨tps,a5⟩:=Fx hL;have q:=TabR.tbl Z a5 hT;refine⟨Gj ns as,ns,szW ns ps,q.top,?_,by omega,λx hx=>?_,λp ms hp a4 ho=>?_⟩
 . exact aa2 q.len
 . obtain⟨j,a,hj,ha⟩:=q.at hx;obtain⟨ks,g1,g2,g3,g4⟩:=q.row j x a hj ha;exact⟨a,Hh ks,Db hn hj ha,g1,by rw[K7,aa9 hn g2 g3 g4]⟩
 have:=Zm hW he a4 ho;subst this
 symm
 refine ah2 (ns:=ms) Af (Ot ms) λv U e3 a1=>?_;have a0:Same H2 U:=(Same.upd hp).trans e3;exact k v U (ExtBut.same Z a0) (a2.same a0) a1
theorem Re {f:Addr}{fd:FuncData}(F:Fun K "reach_said" "reach_said" Dy f fd)(T:Eo mg):FnOk P w K mg base CX0 1 f fd ["reach","one","other"] (G5 K):=by
 refine F.ok G6 (λvs H Q E h=>?_) (λb4 A outer s H vs Q E hr h=>?_)
 . obtain⟨r,x,y,ns,ps,as,rfl,_⟩:=h;rfl
 obtain⟨r,x,y,ns,ps,as,rfl,hT,hW,hx,hy,k⟩:=h;have hu:=Bf hr;have hq:=Be hr;have hn:=hW.nd;have b5:=hW.few;obtain⟨jy,ay,aP,aL⟩:=hT.at hy;obtain⟨ky,y1,y2,y3,y4⟩:=hT.row jy y ay aP aL;have b8:ky.length<=ns.length:=C1 y2 y3
 with_reducible refine⟨_,(A3 (Aa (i:=3) G6.nd ⋯ (by eq_refl) (B1 R1 ⋯ T.b_dict PyProof.Rows.Boot.«dict» (A1 (Ad (A6 (K:=K) hu) (pv 0) (pv 2) (by ac_rfl)) A2)))
  (A3 (Fh hu (pv 3) (pv 2) Z0 ⋯)
  (A3 (Aa (i:=4) G6.nd ⋯ (by eq_refl) Ng)
  (A3 (C4 A0V ⋯ (As (K:=K) hu (pv 0)) (Ag (i:=5) G6.nd ⋯ (by eq_refl))
  (A3 (Fh hu (pv 4) (pv 5) (B1 R1 ⋯ T.b_dict PyProof.Rows.Boot.«dict» (A1 (Ad (A6 (K:=K) hu) (pv 0) (pv 5) (by ac_rfl)) A2)) ⋯)
  (A7 (Cj (PW.pt (an4 (Ak (Cn (K:=K) hq) (pv 5) (pv 1) (Aw _)) (Yk (Ak (Mt (K:=K) hq) (pv 1) (Ad (A6 (K:=K) hu) (pv 0) (pv 5) (by ac_rfl)) ⋯)))) (A7 (Dd (G3 (K:=K) A2U PySem.F.slot_dict_update PySem.F.type_dict_update (mm Qz) (Ad (A6 (K:=K) hu) (pv 4) (pv 5) (by ac_rfl)) (A1 (pv 3) A2)))) Ay))))
  (A7 (An (pv 4))))))),?_⟩
 symm
 refine Mh hT hn aP aL ?_
 symm
 refine a69 y1 λm H1 a8 e1 h1=>?_
 symm
 refine J3 h1 (by rw[K7];omega) λH2 e2 h2=>?_;rw[Wt] at h2
 symm
 refine Yo λf H3 aO e3 h3=>?_
 symm
 have aQ:Same H H2:=by walk_at "sm"
 have aR:Same H H3:=aQ.trans e3;have aZ:m≠f:=ne_of_none h2 aO;have aV:=e3 _ _ h2;have a1:H f=none:=aQ.free aO;refine Ri (as:=[r]) (aR.rd hT.top) (A0K.mpr rfl) λo H4 k4 h4=>?_
 have b1:m∉[r]:=λz=>by
  rw[A0K.mp z] at a8;rcases hT.top with q|⟨o',q⟩
  . rw[q] at a8;cases a8
  rw[q] at a8;cases a8
 have aH:f∉[r]:=λz=>by
  rw[A0K.mp z] at a1;rcases hT.top with q|⟨o',q⟩
  . rw[q] at a1;cases a1
  rw[q] at a1;cases a1
 refine Ep La (λi σ H'=>∃ x5 O,σ=[some (.ref r),some (.str x),some (.str y),some (.ref m),some (.ref f),x5]/\Keep [r] H H'/\H' r=some (.frz o (.dK (Gj ns as)))/\H' m=some (.dK (Hh (ad8 ky y)))/\TabP H' f ns i O (Way (ps++[(x,y)]))/\∀ a∈O,H a=none/\a≠m)
  ⟨_,[],rfl,(aR.keep _).trans k4,h4,k4.1 _ _ b1 aV,⟨rfl,.nil,by simp,k4.1 _ _ aH h3,λj z a _ ha=>(by cases ha)⟩,λa ha=>(by cases ha)⟩ (λi σ' H' hP=>?_) (λi w σ' H5 hw hi hP=>?_) (fun σ' H5 hP=>?_)
 . obtain⟨x5,O,_,_,h5,_⟩:=hP;exact h5
 . obtain⟨x5,O,rfl,k5,a0,aB,J,aE⟩:=hP;rw[Lh hT.len,A07] at hw;obtain⟨z,hz,rfl⟩:=A1Z.mp hw;have aD:=hT.keep k5;obtain⟨jz,az,aA,a9⟩:=aD.at (A04 hz);obtain⟨kz,z1,z2,z3,z4⟩:=aD.row jz z az aA a9;have b9:kz.length<=ns.length:=C1 z2 z3;have b6:i<ns.length:=(A00.mp hz).1
   have b0:z∉ns.take i:=λq=>by obtain⟨j,hj,e⟩:=A1M q;rw[List.getElem_take] at e;rw[A10] at hj;obtain⟨g1,g2⟩:=A00.mp hz;have:=(A1H hn).mp (e.trans g2.symm);omega
   symm
   refine Mh aD hn aA a9 ?_
   symm
   refine a69 z1 λb H6 Y e6 h6=>?_
   symm
   have b2:(ns.take i).length=O.length:=by rw[A10,J.len];omega
   have b7:(Gj (ns.take i) O).length<=100:=by unfold Gj;rw[List.length_map,List.length_zip,List.length_take,J.len];omega
   have aW:=e6 _ _ J.top;refine J3 aW ∅ λH7 e7 h7=>?_;have ht:ns.take (i+1)=ns.take i++[z]:=by rw[A0R,hz];rfl
   rw[Jv _ (Gc b0),<- Nj b2,<- ht] at h7;have a3:b≠f:=Ne.symm (ne_of_none J.top Y);have a7:b≠m:=Ne.symm (ne_of_none aB Y)
   have aM:H b=none:=by
    cases q:H b with
    |none=>rfl
    |some ob=>
      by_cases aN:b∈[r]
      . rw[A0K.mp aN,a0] at Y;cases Y
      rw[k5.1 _ _ aN q] at Y;cases Y
   have a6:b∉O:=λq=>by
    obtain⟨j,hj,e⟩:=A1M q;have aY:j<ns.length:=by have:=J.len;omega
    obtain⟨_,g,_⟩:=J.row j ns[j] b (A03 aY) (by rw[A03 hj,e]);rw[Y] at g;cases g
   have k7:Keep [r] H H7:=⟨λc oc Z q=>e7 _ _ (λq'=>by rw[q',a1] at q;cases q) (e6 _ _ (k5.1 c oc Z q)),λc Z u q=>by
    have aX:=A0K.mp Z;subst aX;have e':H7 c=H5 c:=by rw[a0];exact e7 _ _ (λq=>aH (by rw[q];exact A0K.mpr rfl)) (e6 _ _ a0)
    rcases k5.2 c Z u q with q|⟨o',q⟩
    . exact .inl (e'.trans q)
    exact .inr ⟨o',e'.trans q⟩⟩
   have aC:H7 r=some (.frz o (.dK (Gj ns as))):=e7 _ _ (λq=>aH (by rw[q];exact A0K.mpr rfl)) (e6 _ _ a0);have a5:H7 m=some (.dK (Hh (ad8 ky y))):=e7 _ _ aZ (e6 _ _ aB);have a4:H7 b=some (.dK (Hh kz)):=e7 _ _ a3 h6
   have aI:∀(j:Nat) (z':Str) (a:Addr),ns[j]? = some z'->O[j]? = some a->∃ ks:List Str,H7 a=some (.dK (Hh ks))/\ks.Nodup/\(∀ y∈ks,y∈ns)/\∀ w,w∈ks↔Way (ps++[(x,y)]) z' w:=λj z' a hj ha=>by obtain⟨ks,g1,g2⟩:=J.row j z' a hj ha;exact⟨ks,e7 _ _ (λq=>J.nr (q ▸ A04 ha)) (e6 _ _ g1),g2⟩
   have aK:=hT.keep k7;obtain⟨bA,b3,bB,bC,aU⟩:=aK.row jz z az aA a9;have aS:Ck (Gj (ns.take (i+1)) (O++[b])) (Sum.inr z:Key)=some (.ref b):=Db (i:=i) (hn.sublist (List.take_sublist ..)) (by rw[List.getElem?_take_of_lt (Nat.lt_succ_self i)];exact hz) (by rw[List.getElem?_append_right (by rw[J.len];exact Nat.le_refl _),J.len];simp)
   have aG:∀ a∈O++[b],H a=none/\a≠m:=λa ha=>by
    rcases A0A.mp ha with ha|ha
    . exact aE a ha
    rw[A0K.mp ha];exact⟨aM,a7⟩
   have aJ:∀ H8,ExtBut b H7 H8->Keep [r] H H8:=λH8 U=>k7.lst U aM λq=>by rw[A0K.mp q,a0] at Y;cases Y
   have aT:(z=x\/Way ps z x)->∀ w,w∈Mj kz (ad8 ky y)↔Way (ps++[(x,y)]) z w:=λZ w=>by
    rw[mem_addAll,mem_addK,z4,y4,way_said];constructor
    . rintro(h|h|h)
      . exact .inl h
      . exact .inr ⟨Z,.inr h⟩
      exact .inr ⟨Z,.inl h.symm⟩
    rintro(h|⟨_,h|h⟩)
    . exact .inl h
    . exact .inr (.inr h.symm)
    exact .inr (.inl h)
   symm
   refine Ll (λZ=>?_) (λZ=>?_)
   . rw[A0X rfl]
     symm
     refine i_ixD h7 aS ?_;refine a06 a4 ?_
     symm
     refine ac0 a4 a5 a7 (by have:=C1 (Jr (y:=y) y2) (λw a2=>(mem_addK.mp a2).elim (y3 w) λq=>q ▸ hy);omega) λH8 U h8=>?_
     symm
     exact⟨_,O++[b],rfl,aJ H8 U,U _ _ (λq=>by rw[<- q,a0] at Y;cases Y) aC,U _ _ a7.symm a5,TabP.snoc J.len J.nd J.nr a6 a3 hz (U _ _ a3.symm h7) (λj z' a hj ha=>let ⟨ks,g1,g2⟩:=aI j z' a hj ha;⟨ks,U _ _ (λq=>a6 (q ▸ A04 ha)) g1,g2⟩) h8 (Hb z2) (λw a2=>(mem_addAll.mp a2).elim (z3 w) λq=>(mem_addK.mp q).elim (y3 w) λq=>q ▸ hy) (λw=>aT (.inl (V.str.inj Z)) w),aG⟩
   symm
   refine Mh aK hn aA a9 ?_
   symm
   refine Y3 b3 ?_
   symm
   refine Ll (λaF=>?_) (λaF=>?_)
   . symm
     refine i_ixD h7 aS ?_;refine a06 a4 ?_
     symm
     refine ac0 a4 a5 a7 (by have:=C1 (Jr (y:=y) y2) (λw a2=>(mem_addK.mp a2).elim (y3 w) λq=>q ▸ hy);omega) λH8 U h8=>?_
     symm
     exact⟨_,O++[b],rfl,aJ H8 U,U _ _ (λq=>by rw[<- q,a0] at Y;cases Y) aC,U _ _ a7.symm a5,TabP.snoc J.len J.nd J.nr a6 a3 hz (U _ _ a3.symm h7) (λj z' a hj ha=>let ⟨ks,g1,g2⟩:=aI j z' a hj ha;⟨ks,U _ _ (λq=>a6 (q ▸ A04 ha)) g1,g2⟩) h8 (Hb z2) (λw a2=>(mem_addAll.mp a2).elim (z3 w) λq=>(mem_addK.mp q).elim (y3 w) λq=>q ▸ hy) (λw=>aT (.inr ((aU x).mp aF)) w),aG⟩
   symm
   refine⟨_,O++[b],rfl,k7,aC,a5,TabP.snoc J.len J.nd J.nr a6 a3 hz h7 aI a4 z2 z3 (λw=>?_),aG⟩;rw[z4,way_said];refine⟨.inl,λh=>h.elim (λq=>q) λq=>absurd q.1 ?_⟩;rintro(q|q)
   . exact Z (by rw[q])
   exact aF ((aU x).mpr q)
 obtain⟨x5,O,rfl,k5,a0,aB,J,aE⟩:=hP;rw[A01] at J;have hl:(Gj ns as).length=ns.length:=by unfold Gj;rw[List.length_map,List.length_zip,hT.len,Nat.min_self]
 rw[hl] at J
 symm
 exact k f O H5 a1 (λa ha=>(aE a ha).1) k5 J.done
theorem Pp {f:Addr}{fd:FuncData}(F:Fun K "is_tuple_of" "is_tuple_of" Cz f fd)(T:Eo mg):FnOk P w K mg base CX0 1 f fd ["thing","size"] (Fm K):=by
 refine F.ok Pt (λvs H Q E h=>?_) (λY A outer s H vs Q E O h=>?_)
 . obtain⟨v,D,n,rfl,_⟩:=h;rfl
 obtain⟨v,ds,n,rfl,J,k⟩:=h;have hu:=Bf O;have U:=Be O;obtain⟨a,xs,rfl,h1,h2⟩:=Is.tup J
 with_reducible refine⟨_,(A7 (An (Ku (Aq (Hc (K:=K)) ⋯ T.b_isinstance PyProof.Rows.Boot.«isinstance» (A1 (pv 0) (A1 (Sf (v:=.ty "tuple") ⋯ T.b_tuple PyProof.Rows.Boot.«tuple» ⋯) A2))) (R5 (Fl (Cn (K:=K) U) (Aq (B8 (K:=K)) ⋯ T.b_len PyProof.Rows.Boot.«len» (A1 (pv 0) A2)) (pv 1) (Aw _)))))),?_⟩
 symm
 refine aq1 h1 (b:=true) (by first | rfl | kernel_rfl) ⟨true,rfl,?_⟩
 rw[A0X rfl]
 symm
 refine aq0 J ?_
 symm
 have e:decide (V.int (ds.length:Int)=V.int n)=decide ((ds.length:Int)=n):=by
  by_cases z:(ds.length:Int)=n
  . rw[z];simp
  rw[A0S z,A0S λq=>z (V.int.inj q)]
 rw[e];exact k
def aE1 (row:List Str):PyData:=.tuple [.str "end",nmD row]
def aP0 (x y:Str)(D E:PyData):PyData:=.tuple [.str "ask",.str x,.str y,D,E]
theorem Cy {ns:List Str}{ps:List (Str×Str)}{D:PyData}{m:Nat}(p:PlanP ns ps D m):frz D=true:=by
 induction p with
 |@fin ps row e=>simp[frz,frzL,L8]
 |ask _ _ _ _ _ _ i1 i2=>simp[frz,frzL,i1,i2]
theorem Uh {K:W.Frag}{H:Hp}{row:List Str}{v:V}(h:Is K H (aE1 row) v):∃ a q,v = .ref a/\SqT K H a [.str "end",q]/\Is K H (nmD row) q:=by
 obtain⟨a,xs,rfl,h1,h2⟩:=Is.tup h;obtain⟨U,O,rfl,i1,h2⟩:=B2 h2;obtain⟨J,F,rfl,i2,h2⟩:=B2 h2;have e:F=[]:=by simpa only[L2.IsL] using h2
 subst e;have:=Is.str i1;subst this;exact⟨a,J,rfl,h1,i2⟩
theorem Qg {K:W.Frag}{H:Hp}{x y:Str}{D E:PyData}{v:V}(h:Is K H (aP0 x y D E) v):∃ a d e,v = .ref a/\SqT K H a [.str "ask",.str x,.str y,d,e]/\Is K H D d/\Is K H E e:=by
 obtain⟨a,xs,rfl,h1,h2⟩:=Is.tup h;obtain⟨v1,r1,rfl,i1,h2⟩:=B2 h2;obtain⟨v2,r2,rfl,i2,h2⟩:=B2 h2;obtain⟨v3,r3,rfl,O,h2⟩:=B2 h2;obtain⟨v4,r4,rfl,U,h2⟩:=B2 h2;obtain⟨v5,Z,rfl,Y,h2⟩:=B2 h2;have e:Z=[]:=by simpa only[L2.IsL] using h2
 subst e;have q:=Is.str i1;have F:=Is.str i2;have J:=Is.str O;subst q;subst F;subst J;exact⟨a,v4,v5,rfl,h1,U,Y⟩
theorem aN2 {t:TT}{ta tb:TE}{σ:L2.St}{H:Hp}{Q:VK}(k:t σ H λc H1=>if c=true then ta σ H1 Q else tb σ H1 Q):tIf t ta tb σ H Q:=k
theorem an2 {r b:Addr}{H:Hp}{kvs:List (Key×V)}{o:HO}(F:Rd H r (.dK kvs))(h:H b=some o)(h1:∀ kvs,o ≠ .dK kvs)(h2:∀ o' u,o ≠ .frz o' u):b≠r:=λz=>by
 subst z;rcases F with q|⟨o',q⟩
 . rw[h] at q;exact h1 _ (A13 q)
 rw[h] at q;exact h2 _ _ (A13 q)
theorem Si {P r:Addr}{H H':Hp}{kvs:List (Key×V)}(h:LmR P H)(k:Keep [r] H H')(q:Rd H r (.dK kvs)):LmR P H':=by
 rcases h with h|⟨c,h,F⟩
 . exact .inl (k.1 _ _ (λz=>an2 q h (λ_ z=>by cases z) (λ_ _ z=>by cases z) (A0K.mp z)) h)
 exact .inr ⟨c,k.1 _ _ (λz=>an2 q h (λ_ z=>by cases z) (λ_ _ z=>by cases z) (List.mem_singleton.mp z)) h,k.1 _ _ (λz=>an2 q F (λ_ z=>by unfold On at z;cases z) (λ_ _ z=>by unfold On at z;cases z) (List.mem_singleton.mp z)) F⟩
def Jm (K:W.Frag):Sp:=λvs H Q _=>∃ v D,vs=[v]/\Is K H D v/\((∃ row,D=aE1 row/\Q (.bl false) H)\/∃ x y q D2,D=aP0 x y q D2/\Q (.bl true) H)
def Nt (K:W.Frag):Sp:=λvs H Q _=>∃ v row,vs=[v]/\Is K H (aE1 row) v/\Q (.bl true) H
structure Kp (P r:Addr)(H H':Hp):Prop where
 all:∀ b o,b≠P->b≠r->H b=some o->H' b=some o
 rd:∀ kvs,Rd H r (.dK kvs)->Rd H' r (.dK kvs)
section
variable {P r r':Addr}{H H1 H2:Hp}{kvs:List (Key×V)}{tps:Array Value}
theorem Kp.of_keep (k:Keep [r] H H1):Kp P r H H1:=⟨λb o _ hb h=>k.1 b o (λz=>hb (A0K.mp z)) h,λkvs h=>k.rd h⟩
theorem Kp.trans (a:Kp P r H H1)(b:Kp P r H1 H2):Kp P r H H2:=⟨λc o h1 h2 h=>b.all c o h1 h2 (a.all c o h1 h2 h),λkvs h=>b.rd kvs (a.rd kvs h)⟩
theorem Kp.same (a:Kp P r H H1)(e:Same H1 H2):Kp P r H H2:=⟨λc o h1 h2 h=>e c o (a.all c o h1 h2 h),λkvs h=>e.rd (a.rd kvs h)⟩
theorem Kp.rdA (a:Kp P r H H1)(q:H P=some (.tbl tps)){b:Addr}(h:Rd H b (.dK kvs)):Rd H1 b (.dK kvs):=by
 by_cases hb:b=r
 . subst hb;exact a.rd _ h
 rcases h with h|⟨o,h⟩
 . exact .inl (a.all _ _ (ne_of h q (by intro z;cases z)) hb h)
 exact .inr ⟨o,a.all _ _ (ne_of h q (by intro z;cases z)) hb h⟩
theorem Kp.tab (a:Kp P r H H1)(F:H P=some (.tbl tps)){q:Addr}{ns:List Str}{as:List Addr}{R:Str->Str->Prop}(t:TabR H q ns as R):TabR H1 q ns as R:=
 ⟨t.len,a.rdA F t.top,λi z b hz hb=>let ⟨ks,h1,h2⟩:=t.row i z b hz hb;⟨ks,a.rdA F h1,h2⟩⟩
theorem Kp.fz (a:Kp P r H H1)(F:H P=some (.tbl tps))(J:Rd H r (.dK kvs)):Fz H H1:=λb xs h=>by
 rcases h with h|⟨o,h⟩
 . exact .inl (a.all _ _ (ne_of h F (by intro z;cases z)) (an2 J h (λ_ z=>by cases z) (λ_ _ z=>by cases z)) h)
 refine .inr ⟨o,a.all _ _ (ne_of h F (by intro z;cases z)) (λz=>?_) h⟩;subst z;rcases J with q|⟨o',q⟩
 . rw[h] at q;cases q
 rw[h] at q;cases q
theorem Kp.other (a:Kp P r H H1)(b:Kp P r' H1 H2)(hn:H r'=none)(F:H P=some (.tbl tps))(J:Rd H r (.dK kvs)):Kp P r H H2:=by
 refine⟨λc o h1 h2 h=>b.all c o h1 (λz=>by rw[z,hn] at h;cases h) (a.all c o h1 h2 h),λkvs' h=>?_⟩
 have h1:r≠P:=λz=>by
  subst z;rcases J with q|⟨o',q⟩
  . rw[F] at q;cases q
  rw[F] at q;cases q
 have h2:r≠r':=λz=>by
  subst z;rcases J with q|⟨o',q⟩
  . rw[hn] at q;cases q
  rw[hn] at q;cases q
 rcases a.rd kvs' h with q|⟨o,q⟩
 . exact .inl (b.all _ _ h1 h2 q)
 exact .inr ⟨o,b.all _ _ h1 h2 q⟩
theorem Kp.free (a:Kp P r H H1)(Y:H P=some (.tbl tps))(U:Rd H r (.dK kvs))(F:∃ tps,H1 P=some (.tbl tps)){b:Addr}(h:H1 b=none):H b=none:=by
 cases q:H b with
 |none=>rfl
 |some o=>
   have J:b≠P:=λz=>by obtain⟨t,e⟩:=F;rw[z,e] at h;cases h
   have O:b≠r:=λz=>by
    subst z;rcases a.rd _ U with e|⟨o',e⟩
    . rw[h] at e;cases e
    rw[h] at e;cases e
   rw[a.all _ _ J O q] at h
   cases h
end
def Io (P:Addr)(K:W.Frag):Sp:=λvs H Q _=>∃ r v ns ps as D m,vs=[.ref r,v]/\TabR H r ns as (Way ps)/\HalfW ns ps/\(∀ z∈ns,Z5 z=true)/\ns.length<=10/\PlanP ns ps D m/\Is K H D v/\LmR P H/\∀ H',Kp P r H H'->LmR P H'->Q .non H'
def Fn (P:Addr)(K:W.Frag)(n:Nat):Sp:=λvs H Q _=>∃ r v t xs ns ps as D m,vs=[.ref r,v,.ref t]/\TabR H r ns as (Way ps)/\HalfW ns ps/\(∀ z∈ns,Z5 z=true)/\ns.length<=10/\PlanP ns ps D m/\Is K H D v/\SqT K H t xs/\m<n/\n<=125/\ps.length+m<=900/\xs.length+m<=900/\LmR P H/\∀ H',Kp P r H H'->LmR P H'->Q (.int m) H'
def K9 (P:Addr)(K:W.Frag):Sp:=Fn P K 125
theorem Lz {P:Addr}{K:W.Frag}:∀ vs H Q E,¬ Fn P K 0 vs H Q E:=by rintro vs H Q E ⟨r,v,t,xs,ns,ps,as,D,m,_,_,_,_,_,_,_,_,h,_⟩;omega
def Ji (P:Addr)(K:W.Frag):Sp:=λvs H Q _=>∃ q v ns ps D m,vs=[q,v]/\Is K H (hfD ns ps) q/\HalfW ns ps/\(∀ z∈ns,Z5 z=true)/\ns.length<=10/\PlanP ns ps D m/\Is K H D v/\m<125/\ps.length+m<=900/\LmR P H/\∀ H',ExtBut P H H'->LmR P H'->Q (.int m) H'
theorem Ug {f:Addr}{fd:FuncData}(F:Fun K "is_asking" "is_asking" Fk f fd)(T:Eo mg)(Ct:Fnd P w K mg base 1 "is_tuple_of" ["thing","size"] (Fm K)):FnOk P w K mg base CX0 2 f fd ["thing"] (Jm K):=by
 refine F.ok Tg (λvs H Q E h=>?_) (λa0 A outer s H vs Q E O h=>?_)
 . obtain⟨v,D,rfl,_⟩:=h;rfl
 obtain⟨v,D,rfl,q,U⟩:=h;have hu:=Bf O;have Y:=Be O
 with_reducible refine⟨_,(A3 (Cj (PW.pt (an4 (W4 (Mm (Ao Ct (O.mono nofun) ⋯ (A1 (pv 0) (A1 A5 A2))))) (Yk (Ak (Qi (K:=K) Y) (Ad (A6 (K:=K) hu) (pv 0) A5 (by ac_rfl)) B0 (Aw _))))) (A7 (An Z0)) Ay)
  (A7 (An (Ku (Aq (Hc (K:=K)) ⋯ T.b_isinstance PyProof.Rows.Boot.«isinstance» (A1 (Ad (A6 (K:=K) hu) (pv 0) A5 (by ac_rfl)) (A1 (Sf (v:=.ty "str") ⋯ T.b_str PyProof.Rows.Boot.«str» ⋯) A2))) (R5 (Aq (Hc (K:=K)) ⋯ T.b_isinstance PyProof.Rows.Boot.«isinstance» (A1 (Ad (A6 (K:=K) hu) (pv 0) A5 (by ac_rfl)) (A1 (Sf (v:=.ty "str") ⋯ T.b_str PyProof.Rows.Boot.«str» ⋯) A2)))))))),?_⟩
 rcases U with ⟨row,rfl,k⟩|⟨x,y,Z,D2,rfl,k⟩
 . symm
   refine⟨v,_,_,rfl,q,?_⟩
   symm
   rw[A0X (by rfl),A0X rfl]
   symm
   exact k
 symm
 refine⟨v,_,_,rfl,q,?_⟩;obtain⟨a,d,e,rfl,J,_,_⟩:=Qg q
 symm
 rw[if_neg (by simp)]
 symm
 refine Cc J (by rfl) ?_
 symm
 refine Cc J (by rfl) ?_
 symm
 refine aE8 (TyOf.str x) (b:=true) (by rfl) ⟨true,rfl,?_⟩;rw[A0X rfl]
 symm
 refine Cc J (by rfl) ?_
 symm
 exact aE8 (TyOf.str y) (b:=true) (by rfl) k
theorem ae7 {f:Addr}{fd:FuncData}(F:Fun K "is_end" "is_end" Jn f fd)(T:Eo mg)(Ct:Fnd P w K mg base 1 "is_tuple_of" ["thing","size"] (Fm K)):FnOk P w K mg base CX0 2 f fd ["thing"] (Nt K):=by
 refine F.ok ah1 (λvs H Q E h=>?_) (λa0 A outer s H vs Q E q h=>?_)
 . obtain⟨v,row,rfl,_⟩:=h;rfl
 obtain⟨v,row,rfl,J,k⟩:=h;have hu:=Bf q;have Z:=Be q
 with_reducible refine⟨_,(A7 (An (Ku (Ao Ct (q.mono nofun) ⋯ (A1 (pv 0) (A1 A5 A2))) (Ku (Fl (Cn (K:=K) Z) (Ad (A6 (K:=K) hu) (pv 0) A5 (by ac_rfl)) B0 (Aw _)) (R5 (Aq (Hc (K:=K)) ⋯ T.b_isinstance PyProof.Rows.Boot.«isinstance» (A1 (Ad (A6 (K:=K) hu) (pv 0) A5 (by ac_rfl)) (A1 (Sf (v:=.ty "tuple") ⋯ T.b_tuple PyProof.Rows.Boot.«tuple» ⋯) A2)))))))),?_⟩
 symm
 refine⟨v,_,_,rfl,J,?_⟩;obtain⟨a,rv,rfl,O,U⟩:=Uh J
 symm
 rw[if_pos (by simp)]
 symm
 refine Cc O (by rfl) ?_
 symm
 refine Cc O (by rfl) ?_
 symm
 obtain⟨b,xs,rfl,Y,_⟩:=Is.tup U;exact aq1 Y (b:=true) (by first | rfl | kernel_rfl) k
theorem Wo {f:Addr}{fd:FuncData}(F:Fun K "word_due" "word_due" Gi f fd)(T:Eo mg){Z:Addr}(Fy:Fnd P w K mg base 2 "are_two_untold" ["reach","one","other"] (Ey K))(Kb:Fnd P w K mg base 1 "is_row_of" ["reach"] (J6 K))(Hm:Fnd P w K mg base 1 "order_of_row" ["reach"] (Gk Z K))(Kt:Fnd P w K mg base 2 "is_asking" ["thing"] (Jm K))(T2:Fnd P w K mg base 2 "is_end" ["thing"] (Nt K)):FnOk P w K mg base CX0 3 f fd ["reach","plan"] (Io Z K):=by
 refine F.ok W8 (λvs H Q E h=>?_) (λaB A outer s H vs Q E q h=>?_)
 . obtain⟨r,v,ns,ps,as,D,m,rfl,_⟩:=h;rfl
 obtain⟨r,v,ns,ps,as,D,m,rfl,U,Y,a8,a5,hP,J,hL,k⟩:=h;have hu:=Bf q;have hq:=Be q
 with_reducible refine⟨_,(A3 (Cj (Mm (Ao Kt (q.mono nofun) ⋯ (A1 (pv 1) A2))) (A7 (An (Xt (Mm (Ao Fy (q.mono nofun) ⋯ (A1 (pv 0) (A1 (Ad (A6 (K:=K) hu) (pv 1) A5 (by ac_rfl)) (A1 (Ad (A6 (K:=K) hu) (pv 1) A5 (by ac_rfl)) A2))))) Qj B0))) Ay)
  (A3 (Cj (W4 (Mm (Ao T2 (q.mono nofun) ⋯ (A1 (pv 1) A2)))) (A7 (An B0)) Ay)
  (A7 (An (Xt (PW.pt (Tk (Mm (Ao Kb (q.mono nofun) ⋯ (A1 (pv 0) A2))) (Pg (Ak (Cn (K:=K) hq) (Ad (A6 (K:=K) hu) (pv 1) A5 (by ac_rfl)) (Ao Hm (q.mono nofun) ⋯ (A1 (pv 0) A2)) (Aw _))))) Qj B0))))),?_⟩
 cases hP with
 |@fin _ row he=>
   symm
   refine⟨v,_,rfl,J,.inl ⟨row,rfl,?_⟩⟩
   symm
   refine⟨v,row,rfl,J,?_⟩
   symm
   obtain⟨a,rv,rfl,O,hR⟩:=Uh J;refine aN2 ?_
   symm
   refine⟨r,ns,ps,as,row,rfl,U,Y,he,λH1 k1=>?_⟩
   symm
   have a9:=k1.fz.seq O;refine Cc a9 (by rfl) ?_
   symm
   have a0:LmR Z H1:=Si hL k1 U.top;refine⟨r,ns,ps,as,row,rfl,U.keep k1,Y,a5,he,a0,λu H2 e2 a7 a6=>?_⟩;obtain⟨tps,a3⟩:=Fx a0;have a4:=(k1.fz).trans (Ue e2 a3);have a2:=(ae4 Y he).1;have aC:=a2.length_eq;have a1:∀ z∈row,Z5 z=true:=λz hz=>a8 z (a2.mem_iff.mp hz);refine aH7 (hR.nm_fz a4) a6 (a64 a1 ∅).shaped (a64 a1 ∅).shaped ?_;rw[aL0,A16 rfl]
   symm
   exact k H2 ⟨λb o hb aA h=>e2 _ _ hb (k1.1 b o (λz=>aA (A0K.mp z)) h),λkvs h=>a87 e2 a3 (k1.rd h)⟩ a7
 |@ask _ x y D1 D2 m1 m2 hx hy hxy hun p1 p2=>
   symm
   refine⟨v,_,rfl,J,.inr ⟨x,y,D1,D2,rfl,?_⟩⟩;obtain⟨a,d,e,rfl,O,_,_⟩:=Qg J
   symm
   refine aN2 ?_
   symm
   refine Cc O (by rfl) ?_
   symm
   refine Cc O (by rfl) ?_
   symm
   refine⟨r,x,y,ns,ps,as,rfl,U,Y.nd,hx,hy,hxy,hun,?_⟩
   symm
   exact k H ⟨λb o _ _ h=>h,λkvs h=>h⟩ hL
theorem Us {f:Addr}{fd:FuncData}(F:Fun K "depth_on" "depth_on" Fb f fd)(T:Eo mg){q:Addr}(Eb:Fnd P w K mg base 1 "reach_said" ["reach","one","other"] (G5 K))(Hq:Fnd P w K mg base 3 "word_due" ["reach","plan"] (Io q K))(n:Nat)(Gf:Fnd P w K mg base (4+n) "depth_on" ["reach","plan","path"] (Fn q K n)):FnOk P w K mg base CX0 (4+n+1) f fd ["reach","plan","path"] (Fn q K (n+1)):=by
 refine F.ok Iv (λvs H Q E h=>?_) (λb0 A outer s H vs Q E U h=>?_)
 . obtain⟨r,v,t,xs,ns,ps,as,D,m,rfl,_⟩:=h;rfl
 obtain⟨r,v,t,xs,ns,ps,as,D,m,rfl,J,Z,a7,a3,hP,hI,hS,b4,b6,b7,bA,hL,k⟩:=h;have hu:=Bf U;have hq:=Be U;have hD:=Cy hP
 with_reducible refine⟨_,(A3 (Aa (i:=3) Iv.nd ⋯ (by eq_refl) (Ao Hq (U.mono ∅) ⋯ (A1 (pv 0) (A1 (pv 1) A2))))
  (A3 (Cj (Ak Tu (pv 3) Qj (Aw _)) (A7 L4) Ay)
  (A3 (Cj (Ak (Cn (K:=K) hq) (Ad (A6 (K:=K) hu) (pv 1) A5 (by ac_rfl)) B0 (Aw _)) (A7 (An A5)) Ay)
  (A3 (Aa (i:=4) Iv.nd ⋯ (by eq_refl) (Ao Gf (U.mono ∅) ⋯ (A1 (Ao Eb (U.mono ∅) ⋯ (A1 (pv 0) (A1 (Ad (A6 (K:=K) hu) (pv 1) A5 (by ac_rfl)) (A1 (Ad (A6 (K:=K) hu) (pv 1) A5 (by ac_rfl)) A2)))) (A1 (Ad (A6 (K:=K) hu) (pv 1) A5 (by ac_rfl)) (A1 (Ap (Al (K:=K)) (pv 2) (B6 (A1 A5 A2))) A2)))))
  (A3 (Aa (i:=5) Iv.nd ⋯ (by eq_refl) (Ao Gf (U.mono ∅) ⋯ (A1 (Ao Eb (U.mono ∅) ⋯ (A1 (pv 0) (A1 (Ad (A6 (K:=K) hu) (pv 1) A5 (by ac_rfl)) (A1 (Ad (A6 (K:=K) hu) (pv 1) A5 (by ac_rfl)) A2)))) (A1 (Ad (A6 (K:=K) hu) (pv 1) A5 (by ac_rfl)) (A1 (Ap (Al (K:=K)) (pv 2) (B6 (A1 A5 A2))) A2)))))
  (A7 (An (Ap (Al (K:=K)) A5 (Aq (a62 ⋯) ⋯ T.b_max PyProof.Rows.Boot.«max» (A1 (pv 4) (A1 (pv 5) A2))))))))))),?_⟩
 symm
 refine⟨r,v,ns,ps,as,D,m,rfl,J,Z,a7,a3,hP,hI,hL,λH1 k1 a6=>?_⟩;obtain⟨tps,O⟩:=Fx hL;have a8:=k1.fz O J.top;have aA:=Is.fz a8 _ _ hD hI;have aC:=k1.tab O J;have aM:=a8.seq hS
 symm
 cases hP with
 |@fin _ row he=>
   obtain⟨a,rv,rfl,Y,_⟩:=Uh aA;refine Cc Y (by rfl) ?_
   symm
   exact k H1 k1 a6
 |@ask _ x y D1 D2 m1 m2 hx hy hxy hun p1 p2=>
   obtain⟨a,d,e,rfl,Y,hd,he⟩:=Qg aA;refine Cc Y (by rfl) ?_
   symm
   rw[A0P (by intro z;have:=V.str.inj (A36 z);exact absurd this nofun)]
   symm
   refine Cc Y (by rfl) ?_
   symm
   refine Cc Y (by rfl) ?_
   symm
   refine⟨r,x,y,ns,ps,as,rfl,aC,Z,hx,hy,λr1 aE H2 aW b1 k2 aO=>?_⟩;have a2:=k2.fz;have aG:=a2.seq Y
   symm
   refine Cc aG (by rfl) ?_
   symm
   have aN:=a2.seq aM;refine B7 (A9 (by simp)) λt1 H3 b8 e3 h3=>?_;refine Qy (e3.seqT aN) (SqT.of h3) (A9 (by simp only[List.length_singleton];omega)) λt2 H4 e4 h4=>?_;have a0:=e3.trans e4;have aP:=(aO.same a0);have kA:Kp q r H H4:=((k1.trans (.of_keep k2))).same a0;have aI:LmR q H2:=Si a6 k2 aC.top;have aJ:=aI.same a0;have aU:=Is.fz (a2.trans a0.fz) _ _ (Cy p1) hd;have aR:=Z.saidP ∅ hx hy hxy hun;have aX:H r1=none:=k1.free O J.top (Fx a6) aW
   symm
   refine⟨r1,d,t2,_,ns,_,aE,D1,m1,rfl,aP.toR,aR,a7,a3,p1,aU,h4,by omega,by omega,by rw[A06,A14];omega,by rw[A06,A14];omega,aJ,λH5 k5 aB=>?_⟩;have kB:Kp q r H H5:=kA.other k5 aX O J.top;have a9:=kB.fz O J.top;have aD:=kB.tab O J;obtain⟨a5,d5,b5,q5,a4,b3,aT⟩:=Qg (Is.fz a9 _ _ hD hI)
   cases q5
   symm
   refine Cc a4 (by rfl) ?_
   symm
   refine Cc a4 (by rfl) ?_
   symm
   refine⟨r,y,x,ns,ps,as,rfl,aD,Z,hy,hx,λr2 aF H6 aY b2 k6 aQ=>?_⟩;have aH:=k6.fz.seq a4
   symm
   refine Cc aH (by rfl) ?_
   symm
   refine B7 (A9 (by simp)) λt3 H7 b9 e7 h7=>?_;refine Qy (e7.seqT (k6.fz.seq (a9.seq hS))) (SqT.of h7) (A9 (by simp only[List.length_singleton];omega)) λt4 H8 e8 h8=>?_;have a1:=e7.trans e8;have kC:Kp q r H H8:=(kB.trans (.of_keep k6)).same a1;have aK:LmR q H6:=Si aB k6 aD.top;have aS:=Z.saidP ∅ hy hx (Ne.symm hxy) (Ma hun);have aZ:H r2=none:=kB.free O J.top (Fx aB) aY
   symm
   refine⟨r2,b5,t4,_,ns,_,aF,D2,m2,rfl,(aQ.same a1).toR,aS,a7,a3,p2,Is.fz (k6.fz.trans a1.fz) _ _ (Cy p2) aT,h8,by omega,by omega,by rw[A06,A14];omega,by rw[A06,A14];omega,aK.same a1,λH9 k9 aL=>?_⟩;have kD:Kp q r H H9:=kC.other k9 aZ O J.top
   symm
   refine⟨_,_,rfl,?_⟩
   have aV:(1+(if(m2:Int)>(m1:Int) then(m2:Int) else(m1:Int)):Int)=((1+max m1 m2:Nat):Int):=by split<;>omega
   show X8 K (V.int 1) (V.int (if(m2:Int)>(m1:Int) then(m2:Int) else(m1:Int))) H9 _
   symm
   rw[aV];exact k H9 kD aL
theorem Xa {f:Addr}{fd:FuncData}(F:Fun K "depth_on" "depth_on" Fb f fd)(T:Eo mg){q:Addr}(Eb:Fnd P w K mg base 1 "reach_said" ["reach","one","other"] (G5 K))(Hq:Fnd P w K mg base 3 "word_due" ["reach","plan"] (Io q K))(hm:mg "depth_on" = some (.ref f))(J:W.keepIn K (.ref f)=true)(hb:Binds K fd ["reach","plan","path"] []):FnOk P w K mg base CX0 129 f fd ["reach","plan","path"] (K9 q K):=by
 have h:∀ n:Nat,FnOk P w K mg base CX0 (4+n) f fd ["reach","plan","path"] (Fn q K n):=λn=>by
  induction n with
  |zero=>exact FnOk.void Lz
  |succ n ih=>exact Us F T Eb Hq n ⟨f,fd,ih,hm,J,hb⟩
 exact h 125
theorem Tn {f:Addr}{fd:FuncData}(F:Fun K "lets_plan" "lets_plan" Ex f fd)(T:Eo mg){U:Addr}(Ar:Fnd P w K mg base 1 "behind_each" ["half"] (C3 K))(Gf:Fnd P w K mg base 129 "depth_on" ["reach","plan","path"] (K9 U K)):FnOk P w K mg base CX0 130 f fd ["half","plan"] (Ji U K):=by
 refine F.ok Tt (λvs H Q E h=>?_) (λa6 A outer s H vs Q E J h=>?_)
 . obtain⟨hv,v,ns,ps,D,m,rfl,_⟩:=h;rfl
 obtain⟨hv,v,ns,ps,D,m,rfl,hI,hW,a2,a0,Z,hD,hm,a4,Y,k⟩:=h;have hu:=Bf J;have hq:=Be J;obtain⟨tps,a9⟩:=Fx Y
 with_reducible refine⟨_,(A7 (An (Ao Gf (J.mono nofun) ⋯ (A1 (Ao Ar (J.mono nofun) ⋯ (A1 (pv 0) A2)) (A1 (pv 1) (A1 (B6 A2) A2)))))),?_⟩
 symm
 refine⟨hv,ns,ps,rfl,hI,hW,λr as H1 a5 a7 O a3=>?_⟩
 symm
 refine B7 (A9 (by simp)) λt H2 a8 q h2=>?_
 symm
 refine⟨r,v,t,[],ns,ps,as,D,m,rfl,(a3.same q).toR,hW,a2,a0,Z,Is.fz (O.trans q).fz _ _ (Cy Z) hD,SqT.of h2,hm,Nat.le_refl _,a4,by simp;omega,Y.same (O.trans q),λH3 k3 a1=>?_⟩
 symm
 exact k H3 (λb o hb h=>k3.all b o hb (λz=>by rw[z,a5] at h;cases h) (q _ _ (O _ _ h))) a1
def Hl (K:W.Frag):Sp:=λvs H Q _=>∃ v ns ps,vs=[v]/\HfS K H v ns ps/\HalfW ns ps/\ns.length<=10/\cnt (Ab ps) ns<=1000/\∀ l ys H',H l=none->Same H H'->H' l=some (.lst ys)->IsL K H' ((ext (Ab ps) ns.length ns).map nmD) ys->Q (.ref l) H'
theorem Qa {f:Addr}{fd:FuncData}(F:Fun K "_law_orders" "_law_orders" Cw f fd)(T:Eo mg):FnOk P w K mg base CX0 1 f fd ["_law_half_here"] (Hl K):=by
 refine F.ok Bk (λvs H Q E h=>?_) (λb7 A outer s H vs Q E hr h=>?_)
 . obtain⟨v,ns,ps,rfl,_⟩:=h;rfl
 obtain⟨v,ns,ps,rfl,hI,hW,h6,aX,k⟩:=h;have aG:∀ i,i<=ns.length->(Fc (Ab ps) ns i [[]]).length<=1000:=λi hi=>A0O (aw2 (λx=>Kn hW x) (λx y z a b=>wayB_iff.mpr ((wayB_iff.mp a).trans (wayB_iff.mp b))) hW.nd hi) aX;have hu:=Bf hr;have hq:=Be hr;have hn:=hW.nd
 with_reducible refine⟨_,(A3 (Aa (i:=1) Bk.nd ⋯ (by eq_refl) (Bv (A1 (B6 A2) A2)))
  (A3 (C4 A0V ⋯ (Ei ⋯ T.b_range (A1 (Aq (B8 (K:=K)) ⋯ T.b_len PyProof.Rows.Boot.«len» (A1 (Ad (A6 (K:=K) hu) (pv 0) A5 (by ac_rfl)) A2)) A2)) (Ag (i:=2) Bk.nd ⋯ (by eq_refl))
  (A3 (Aa (i:=3) Bk.nd ⋯ (by eq_refl) (Bv A2))
  (A3 (C4 A0V ⋯ (As (K:=K) hu (pv 1)) (Ag (i:=4) Bk.nd ⋯ (by with_unfolding_all exact A3I rfl))
  (A3 (Aa (i:=5) Bk.nd ⋯ (by with_unfolding_all exact A3I rfl) (Cb ["_law_name"] ["_law_row"] [4] ⋯ ⋯ ⋯ (As (K:=K) hu (Ad (A6 (K:=K) hu) (pv 0) A5 (by ac_rfl))) (λ_ _ _ _=>(Ag (i:=0) (by with_unfolding_all (show(["_law_name","_law_row"]:List Str).Nodup;decide +kernel)) ⋯ (by eq_refl))) (Bq nofun) (λ_ _ _ _=>(G2 (Ak (Gs (K:=K) hq) (pv 0) (pv 1) ⋯))) (λ_ _ _ _=>(pv 0))))
  (A3 (Aa (i:=6) Bk.nd ⋯ (by with_unfolding_all exact A3I rfl) (Cb ["_law_one","_law_other"] ["_law_left"] [5] ⋯ ⋯ ⋯ (As (K:=K) hu (Ad (A6 (K:=K) hu) (pv 0) A5 (by ac_rfl))) (λ_ _ _ _=>(Lm (K:=K) (n:=2) ⋯ (Dh (Ag (i:=0) (by with_unfolding_all (show(["_law_one","_law_other","_law_left"]:List Str).Nodup;decide +kernel)) ⋯ (by eq_refl)) (Dh (Ag (i:=1) (by with_unfolding_all (show(["_law_one","_law_other","_law_left"]:List Str).Nodup;decide +kernel)) ⋯ (by eq_refl)) Lp)))) (aJ9 (ab8 nofun (ab8 nofun aL8))) (λ_ _ _ _=>(G2 (Ak (Mt (K:=K) hq) (pv 0) (pv 2) ⋯))) (λ_ _ _ _=>(pv 1))))
  (A7 (Dd (G3 (K:=K) A17 A2Q A2R (mm Jh) (pv 3) (A1 (Cb ["_law_name"] ["_law_row","_law_later"] [4,6] ⋯ ⋯ ⋯ (As (K:=K) hu (pv 5)) (λ_ _ _ _=>(Ag (i:=0) (by with_unfolding_all (show(["_law_name","_law_row","_law_later"]:List Str).Nodup;decide +kernel)) ⋯ (by eq_refl))) (Bq nofun) (λ_ _ _ _=>(G2 (Ak (Gs (K:=K) hq) (pv 0) (pv 2) ⋯))) (λ_ _ _ _=>(Ap (Al (K:=K)) (pv 1) (B6 (A1 (pv 0) A2))))) A2)))))))
  (A7 (Aa (i:=1) Bk.nd ⋯ (by eq_refl) (pv 3))))))
  (A7 (An (pv 1))))),?_⟩
 symm
 refine B7 nofun λt2 H2 bJ e2 h2=>?_
 symm
 refine Bu (A9 (by simp)) λl3 H3 aY e3 h3=>?_
 symm
 have a9:Same H H3:=e2.trans e3;refine au1 (hI.same a9) λnv hN=>?_
 symm
 refine aj4 hN ?_
 symm
 refine Lc ∅ ?_
 refine Ep Ci (λi σ J=>∃ l x2 x3 x4 x5 x6 ys,σ=[some v,some (.ref l),x2,x3,x4,x5,x6]/\Same H J/\H l=none/\J l=some (.lst ys)/\IsL K J ((Fc (Ab ps) ns i [[]]).map nmD) ys)
  ⟨l3,_,_,_,_,_,[.ref t2],rfl,a9,e2.free aY,h3,.one (Np (SqT.of (e3 _ _ h2)))⟩ (λ_ _ _ _=>trivial) (λi x σ J hx hi q=>?_) (fun σ J q=>?_)
 . obtain⟨l,x2,x3,x4,x5,x6,ys,rfl,e4,aH,h4,a4⟩:=q;obtain⟨rfl,bB⟩:=Hg hx;have bH:(Fc (Ab ps) ns i [[]]).length<=1000:=aG i ∅;have b1:ys.length=(Fc (Ab ps) ns i [[]]).length:=by rw[<- IsL.length a4,A01]
   symm
   refine Bu nofun λg H5 a6 e5 h5=>?_
   symm
   have bD:l≠g:=ne_of_none h4 a6;refine Kf (SqL.of (e5 _ _ h4)) ?_
   refine Ep (Bp (xs:=ys)) (λj σ Y=>∃ y4 y5 y6 zs,σ=[some v,some (.ref l),some (.int (0+(i:Int))),some (.ref g),y4,y5,y6]/\Same J Y/\Y g=some (.lst zs)/\IsL K Y ((Gx (Ab ps) ns ((Fc (Ab ps) ns i [[]]).take j)).map nmD) zs)
    ⟨_,_,_,[],rfl,e5,h5,.nil⟩ (λj σ' H' q=>?_) (λj x σ' Y b0 hj q=>?_) (fun σ' Y q=>?_)
   . obtain⟨_,_,_,_,_,e,_⟩:=q;exact SqL.of (e _ _ h4)
   . obtain⟨y4,y5,y6,zs,rfl,e6,a3,a0⟩:=q;obtain ⟨dr,a2,aD⟩:=IsL.get (IsL.mono e6 _ _ a4) b0;rw[A07] at a2
     cases hro:(Fc (Ab ps) ns i [[]])[j]? with
     |none=>rw[hro] at a2;cases a2
     |some row=>
       rw[hro] at a2
       cases a2;have aI:=A04 hro;have bG:=Uf _ _ _ _ aI;have aA:Same H Y:=e4.trans e6
       symm
       refine au1 (hI.same aA) λbK aT=>?_;refine Y9 aT (λz=>!decide (z∈row)) PyData.str (λ_=>rfl) ∅ (λjj z H7 R R' hz O hR a1=>?_) (λlf bO H7 aZ O h7 aQ=>?_)
       . symm
         refine aq7 (aD.nm_fz O.fz) ?_
         symm
         refine T5 (λhb=>?_) (λhb=>?_)
         . symm
           exact hR (by rw[hb];rfl) _ _ (.refl _) Gu
         exact a1 (by rw[hb];rfl) _ (.refl _)
       have aR:=IsL.str_eq aQ;subst aR;have aC:H7 lf=some (.lst ((G7 ns row).map V.str)):=h7;have bC:(G7 ns row).length<=ns.length:=A0U _ _;have bA:g≠lf:=ne_of_none a3 aZ
       symm
       refine aH4 ((hI.same aA).same O) λbM aU=>?_;refine a88 aU (λp=>decide (p.1∈G7 ns row)) (λp=>PyData.str p.2) (λ_=>rfl) (by have:=hW.le;omega) (λjj p w H8 R R' hp aP U hR a1=>?_) (λlt bP H8 bE U h8 aE=>?_)
       . obtain⟨wa,rfl,aW⟩:=aP.pr
         symm
         refine Xy aW ?_
         symm
         refine aO9 (U.seq (SqL.of aC)) ?_
         symm
         refine Ll (λhb=>?_) (λhb=>?_)
         . symm
           exact hR (A16 hb) _ _ (.refl _) Gu
         exact a1 (A0S hb) _ (.refl _)
       rw[show((ps.filter λp=>decide (p.1∈G7 ns row)).map λp=>PyData.str p.2)=((ps.filter λp=>decide (p.1∈G7 ns row)).map (·.2)).map PyData.str by rw[A19];rfl] at aE;have aS:=IsL.str_eq aE;subst aS
       symm
       have aN:=U _ _ aC;have aO:=aD.nm_fz (O.trans U).fz;refine Ta (SqL.of aN) (λz=>!decide (z∈(ps.filter λp=>decide (p.1∈G7 ns row)).map (·.2))) (λz=>nmD (row++[z])) (λ_=>L8 _) ∅ (λjj z H9 R R' hz Z hR a1=>?_) (λq9 bQ H9 bF Z h9 a5=>?_)
       . symm
         refine au5 (Z.seq (SqL.of h8)) ?_
         symm
         refine T5 (λhb=>?_) (λhb=>?_)
         . symm
           refine B7 (A9 (by simp)) λbN b5 bI a8 aL=>?_;obtain⟨ra,rfl,aV⟩:=(aO.nm_fz (Z.trans a8).fz).nm;refine Qy aV (SqT.of aL) (A9 (by rw[List.length_map];simp;omega)) λbL b6 aJ aM=>?_;exact hR (by rw[hb];rfl) _ _ (a8.trans aJ) (Np (by rw[A0T];exact aM))
         exact a1 (by rw[hb];rfl) _ (.refl _)
       rw[am9 hW.mem aI] at a5;have aF:=(((O.trans U).trans Z) _ _ a3);have b2:=IsL.length a5;have b3:=IsL.length a0;rw[A01] at b2 b3;have b8:(frF (Ab ps) (G7 ns row)).length<=10:=A0O (A0U _ _) ∅;have b9:(Gx (Ab ps) ns ((Fc (Ab ps) ns i [[]]).take j)).length<=1000:=A0O (Rl _ _ _ _) (by rw[<- Hv];exact aG (i+1) ∅)
       symm
       refine Uc aF h9 ∅ λb4 a7 aK=>?_;have aB:=a7.fzL aF
       symm
       refine⟨_,_,_,_,rfl,((e6.trans ((O.trans U).trans Z))).off a6 a7,aK,?_⟩;rw[Zn _ _ hro,A0T,A19];exact IsL.append (IsL.fz (((O.trans U).trans Z).fz.trans aB) _ _ (Nf _) a0) (IsL.fz aB _ _ (Cu _ (λ_=>L8 _) _) a5)
   obtain⟨y4,y5,y6,zs,rfl,e6,a3,a0⟩:=q;rw[b1,A0W] at a0
   symm
   refine⟨g,_,_,_,_,_,zs,rfl,e4.trans e6,e4.free a6,a3,?_⟩;rw[Hv];exact a0
 obtain⟨l,x2,x3,x4,x5,x6,ys,rfl,e4,aH,h4,a4⟩:=q
 symm
 refine k l ys J aH e4 h4 ?_;have:((ns.length:Nat):Int).toNat=ns.length:=by omega
 rw[<- Vh];simpa using a4
def Ej (K:W.Frag):Sp:=λvs H Q _=>∃ l x y q ys,vs=[.ref l,.str x,.str y]/\SqL K H l ys/\IsL K H (q.map nmD) ys/\(∀ r∈q,x∈r/\y∈r)/\q.length<=1000000 /\
 ∀ t F J O U H',Same H H'->SqT K H' t [.ref F,.ref J]->H' F=some (.lst O)->O.length=Tc q x y->H' J=some (.lst U)->U.length=Tc q y x->IsL K H' ((q.filter λr=>decide (r.idxOf x<r.idxOf y)).map nmD) O->IsL K H' ((q.filter λr=>decide (r.idxOf y<r.idxOf x)).map nmD) U->H F=none->H J=none->Q (.ref t) H'
theorem Sw {f:Addr}{fd:FuncData}(F:Fun K "_law_parts" "_law_parts" Ea f fd)(T:Eo mg):FnOk P w K mg base CX0 1 f fd ["_law_orders_here","_law_one","_law_other"] (Ej K):=by
 refine F.ok Le (λvs H Q E h=>?_) (λaB A outer s H vs Q E hr h=>?_)
 . obtain⟨l,x,y,a2,ys,rfl,_⟩:=h;rfl
 obtain⟨l,x,y,a2,ys,rfl,hl,hL,hm,hz,k⟩:=h;have hu:=Bf hr;have hq:=Be hr;have a1:=IsL.length hL;rw[A01] at a1
 with_reducible refine⟨_,(A3 (Ia (i:=3) ["_law_order"] ["_law_one","_law_other"] [1,2] ⋯ ⋯ ⋯ Le.nd ⋯ ⋯ (As (K:=K) hu (pv 0)) (λ_ _ _ _=>(Ag (i:=0) (by with_unfolding_all (show(["_law_order","_law_one","_law_other"]:List Str).Nodup;decide +kernel)) ⋯ (by eq_refl))) (Bq nofun) (λ_ _ _ _=>(G2 (Ak Zs (Xf (K:=K) A2P A3J (Jo (K:=K)) (pv 0) (A1 (pv 1) A2)) (Xf (K:=K) A2P A3J (Jo (K:=K)) (pv 0) (A1 (pv 2) A2)) (Aw _)))) (λ_ _ _ _=>(pv 0)))
  (A7 (An (B6 (A1 (pv 3) (A1 (Cb ["_law_order"] ["_law_one","_law_other"] [1,2] ⋯ ⋯ ⋯ (As (K:=K) hu (pv 0)) (λ_ _ _ _=>(Ag (i:=0) (by with_unfolding_all (show(["_law_order","_law_one","_law_other"]:List Str).Nodup;decide +kernel)) ⋯ (by eq_refl))) (Bq nofun) (λ_ _ _ _=>(G2 (Ak a03 (Xf (K:=K) A2P A3J (Jo (K:=K)) (pv 0) (A1 (pv 1) A2)) (Xf (K:=K) A2P A3J (Jo (K:=K)) (pv 0) (A1 (pv 2) A2)) (Aw _)))) (λ_ _ _ _=>(pv 0))) A2)))))),?_⟩
 symm
 refine Kf hl (J1 (K:=K) (Bp (xs:=ys)) a2 a1 (λr=>decide (r.idxOf x<r.idxOf y)) nmD (λ_=>L8 _) ∅ (λH' e=>e.seq hl) (λi r v H1 R R' Z hv J hR a0=>?_) (λla ya H1 a9 J h1 a3=>?_))
 . obtain⟨dd,hd,Y⟩:=IsL.get (IsL.mono J _ _ hL) hv;rw[A07,Z] at hd
   cases hd;obtain⟨ra,rfl,q⟩:=Y.nm;obtain⟨m1,m2⟩:=hm r (A04 Z);obtain⟨f1,f2,_⟩:=K1 m1;obtain⟨g1,g2,_⟩:=K1 m2
   symm
   refine ak2 q ?_
   symm
   refine Nc q f1 f2 ?_
   symm
   refine ak2 q ?_
   symm
   refine Nc q g1 g2 ?_
   symm
   refine Ll (λhb=>?_) (λhb=>?_)
   . symm
     exact hR (A16 ∅) _ _ (.refl _) Y
   exact a0 (A0S ∅) _ (.refl _)
 have a6:=IsL.length a3;rw[A01] at a6;have a5:=J.seq hl;have a8:=IsL.mono J _ _ hL
 symm
 refine Kf a5 (J1 (K:=K) (Bp (xs:=ys)) a2 a1 (λr=>decide (r.idxOf y<r.idxOf x)) nmD (λ_=>L8 _) ∅ (λH' e=>e.seq a5) (λi r v H2 R R' Z hv O hR a0=>?_) (λlb yb H2 aA O h2 a4=>?_))
 . obtain⟨dd,hd,Y⟩:=IsL.get (IsL.mono O _ _ a8) hv;rw[A07,Z] at hd
   cases hd;obtain⟨ra,rfl,q⟩:=Y.nm;obtain⟨m1,m2⟩:=hm r (A04 Z);obtain⟨f1,f2,_⟩:=K1 m1;obtain⟨g1,g2,_⟩:=K1 m2
   symm
   refine ak2 q ?_
   symm
   refine Nc q f1 f2 ?_
   symm
   refine ak2 q ?_
   symm
   refine Nc q g1 g2 ?_
   symm
   refine Ll (λhb=>?_) (λhb=>?_)
   . symm
     exact hR (A16 ∅) _ _ (.refl _) Y
   exact a0 (A0S ∅) _ (.refl _)
 have a7:=IsL.length a4;rw[A01] at a7
 symm
 refine B7 (A9 (by simp)) λt H3 ht U h3=>?_;exact k t la lb ya yb H3 ((J.trans O).trans U) (SqT.of h3) ((O.trans U) _ _ h1) a6.symm (U _ _ h2) a7.symm (IsL.mono (O.trans U) _ _ a3) (IsL.mono U _ _ a4) a9 (J.free aA)
def Cv (K:W.Frag):Sp:=λvs H Q _=>∃ v l ns F ys,vs=[v,.ref l]/\NmS K H v ns/\SqL K H l ys/\IsL K H (F.map nmD) ys/\(∀ r∈F,∀ x∈ns,x∈r)/\ns.length<=10/\F.length<=1000000 /\
 ∀ q zs H',H q=none->Same H H'->H' q=some (.lst zs)->IsL K H' (quK ns (Tc F) ns.length) zs->Q (.ref q) H'
theorem ag9 (ns:List Str)(A:Str->Str->Nat)(i m:Nat):frzL (quR ns A i m)=true:=Cu _ (λ_=>Tq ..) _
theorem Sc:∀ {a b:List PyData},frzL a=true->frzL b=true->frzL (a++b)=true
 | [],b,_,h=>h
 |x :: a,b,h,g=>by have h:(frz x&&frzL a)=true:=h;rw[A15] at h;show(frz x&&frzL (a++b))=true;rw[h.1,Sc h.2 g];rfl
theorem ae8 (ns:List Str)(A:Str->Str->Nat):∀ k,frzL (quK ns A k)=true
 |0=>rfl
 |k+1=>by rw[Ry];exact Sc (ae8 ns A k) (ag9 ..)
theorem aa6 (ns:List Str)(A:Str->Str->Nat)(i m:Nat):(quR ns A i m).length<=ns.length:=by unfold quR;rw[A01];refine A0O (A0U _ _) ?_;rw [A10,A1C];omega
theorem X4 (ns:List Str)(A:Str->Str->Nat):∀ k,(quK ns A k).length<=k*ns.length
 |0=>by simp[quK]
 |k+1=>by rw[Ry,A06,Nat.succ_mul];have:=X4 ns A k;have:=aa6 ns A k ns.length;omega
theorem Lr {f:Addr}{fd:FuncData}(F:Fun K "_law_questions" "_law_questions" Bw f fd)(T:Eo mg)(C7:Fnd P w K mg base 1 "_law_parts" ["_law_orders_here","_law_one","_law_other"] (Ej K)):FnOk P w K mg base CX0 2 f fd ["_law_names_here","_law_orders_here"] (Cv K):=by
 refine F.ok Bm (λvs H Q E h=>?_) (λaT A outer s H vs Q E hr h=>?_)
 . obtain⟨v,l,ns,J,ys,rfl,_⟩:=h;rfl
 obtain⟨v,l,ns,J,ys,rfl,hN,hl,hL,hm,aK,hz,k⟩:=h;have hu:=Bf hr;have hq:=Be hr
 with_reducible refine⟨_,(A3 (Aa (i:=2) Bm.nd ⋯ (by eq_refl) (Bv A2))
  (A3 (C4 A0V ⋯ (Ei ⋯ T.b_range (A1 (Aq (B8 (K:=K)) ⋯ T.b_len PyProof.Rows.Boot.«len» (A1 (pv 0) A2)) A2)) (Ag (i:=3) Bm.nd ⋯ (by eq_refl))
  (A7 (C4 A0V ⋯ (As (K:=K) hu (C8 (X5 (K:=K)) (pv 0) (C9 (Ap (Al (K:=K)) (pv 3) A5)) Gz)) (Ag (i:=4) Bm.nd ⋯ (by eq_refl))
  (A3 (a81 (Ao C7 (hr.mono nofun) ⋯ (A1 (pv 1) (A1 (Ad (A6 (K:=K) hu) (pv 0) (pv 3) (by ac_rfl)) (A1 (pv 4) A2)))) (Lm (K:=K) (n:=2) ⋯ (Dh (Ag (i:=5) Bm.nd ⋯ (by eq_refl)) (Dh (Ag (i:=6) Bm.nd ⋯ (by eq_refl)) Lp))))
  (A7 (Cj (PW.pt (Tk (Ak (Xd (K:=K) hq) (pv 5) (Bv A2) (Aw _)) (Pg (Ak (Xd (K:=K) hq) (pv 6) (Bv A2) (Aw _))))) (A7 (Dd (G3 (K:=K) A17 A26 A27 (mm Gw) (pv 2) (A1 (B6 (A1 (B6 (A1 (Ad (A6 (K:=K) hu) (pv 0) (pv 3) (by ac_rfl)) (A1 (pv 4) A2))) (A1 (B6 (A1 (Aq (B8 (K:=K)) ⋯ T.b_len PyProof.Rows.Boot.«len» (A1 (pv 5) A2)) (A1 (Aq (B8 (K:=K)) ⋯ T.b_len PyProof.Rows.Boot.«len» (A1 (pv 6) A2)) A2))) A2))) A2)))) Ay))))))
  (A7 (An (pv 2))))),?_⟩
 symm
 refine Bu nofun λq H1 aI e1 h1=>?_
 symm
 refine aj4 (hN.same e1) ?_
 symm
 refine Lc ∅ ?_
 refine Ep Ci (λi σ H2=>∃ x3 x4 x5 x6 zs,σ=[some v,some (.ref l),some (.ref q),x3,x4,x5,x6]/\Same H H2/\H2 q=some (.lst zs)/\IsL K H2 (quK ns (Tc J) i) zs)
  ⟨_,_,_,_,[],rfl,e1,h1,.nil⟩ (λ_ _ _ _=>trivial) (λi x σ H2 hx hi U=>?_) (fun σ H2 U=>?_)
 . obtain⟨x3,x4,x5,x6,zs,rfl,e2,h2,a3⟩:=U;obtain⟨rfl,aU⟩:=Hg hx;have aN:i<ns.length:=by omega
   have aC:ns[i]? = some (ns.getD i ""):=by simp[List.getD,List.getElem?_eq_getElem aN]
   have aO:=A04 aC;have b3:=IsL.length a3;have aW:=X4 ns (Tc J) i;have aV:i*ns.length<=100:=A0O (A29 (by omega:i<=10) aK) nofun
   symm
   refine aO2 h2 (hN.same e2) ∅ ∅ λsv H3 e3 aF=>?_;rw[show(0+(i:Int)+1).toNat=i+1 by omega] at aF;have h3:=e3 _ _ h2
   refine ay8 aF (λm σ Y=>∃ y4 y5 y6 a0,σ=[some v,some (.ref l),some (.ref q),some (.int (0+(i:Int))),y4,y5,y6]/\ExtBut q H3 Y/\Fz H3 Y/\Same H Y/\Y q=some (.lst a0)/\IsL K Y (quK ns (Tc J) i++quR ns (Tc J) i m) a0)
    ⟨_,_,_,zs,rfl,.refl,.refl _,e2.trans e3,h3,by simpa[quR] using IsL.mono e3 _ _ a3⟩ (λm σ' H' U=>?_) (λm y σ' Y hy U=>?_) (fun σ' Y U=>?_)
   . obtain⟨_,_,_,_,_,h,h',_⟩:=U;exact⟨h,h'⟩
   . obtain⟨y4,y5,y6,a0,rfl,b4,a8,e4,h4,a2⟩:=U;have aP:y∈ns:=(A4J _ _).subset (A04 hy);have aQ:=IsL.length a2;rw[A06] at aQ;have aZ:=aa6 ns (Tc J) i m
     symm
     refine at2 (hN.same e4) (by rw[Int.zero_add];exact Fd aC) ?_
     symm
     refine⟨l,ns.getD i "",y,J,ys,rfl,e4.seq hl,IsL.mono e4 _ _ hL,λr hr=>⟨hm r hr _ aO,hm r hr _ aP⟩,hz,λt la lb ya yb H5 e5 ht aG aA aH aB _ _ _ _=>?_⟩;refine Xy ht ?_
     symm
     refine Bu nofun λn6 H6 aX e6 h6=>?_
     symm
     refine a86 (SqL.of (e6 _ _ aG)) (SqL.of h6) ?_
     symm
     have aD:=e5.trans e6
     have zero:∀ {ys:List V} {n:Nat},ys.length=n->ys.isEmpty=true->n=0:=fun {ys n} h g=>by
      cases ys with
      |nil=>exact h.symm
      |cons a r=>cases g
     have pos:∀ {ys:List V} {n:Nat},ys.length=n->ys.isEmpty=false->n≠0:=fun {ys n} h g=>by
      cases ys with
      |nil=>cases g
      |cons a r=>rw[A0G] at h;omega
     have aJ:¬ (Tc J (ns.getD i "") y≠0/\Tc J y (ns.getD i "")≠0)->∀ {Z},Same Y Z->ExtBut q H3 Z/\Fz H3 Z/\Same H Z/\Z q=some (.lst a0)/\IsL K Z (quK ns (Tc J) i++quR ns (Tc J) i (m+1)) a0:=λc {Z} O=>by refine⟨b4.same O,a8.trans O.fz,e4.trans O,O _ _ h4,?_⟩;rw[Xo hy,A0P c,A2C];exact IsL.mono O _ _ a2
     refine T5 (λhb=>?_) (λhb=>?_)
     . symm
       refine Bu nofun λn7 Z aY O h7=>?_
       symm
       refine a86 (SqL.of ((e6.trans O) _ _ aH)) (SqL.of h7) ?_
       symm
       have a6:=aD.trans O;refine T5 (λa9=>?_) (λa9=>?_)
       . symm
         refine at2 ((hN.same e4).same a6) (by rw[Int.zero_add];exact Fd aC) ?_
         symm
         refine B7 (A9 (by simp)) λt8 H8 b1 e8 h8=>?_
         symm
         refine i_lenL (((e6.trans O).trans e8) _ _ aG) ?_
         symm
         refine i_lenL (((e6.trans O).trans e8) _ _ aH) ?_
         symm
         refine B7 (A9 (by simp)) λt9 H9 b2 e9 h9=>?_
         symm
         refine B7 (A9 (by simp)) λb5 aR b0 a4 aL=>?_
         symm
         have a1:=((a6.trans e8).trans e9).trans a4;have aE:=a1 _ _ h4;refine R0 aE ∅ λaS a5 aM=>?_;have a7:=a5.fzL aE
         symm
         refine⟨_,_,_,_,rfl,(b4.same a1).trans a5,(a8.trans a1.fz).trans a7,(e4.trans a1).off aI a5,aM,?_⟩;rw[Xo hy,A0X ⟨pos aA hb,pos aB a9⟩,<- A21];refine IsL.append (IsL.fz (a1.fz.trans a7) _ _ (Sc (ae8 ..) (ag9 ..)) a2) (.one ?_);rw[aA,aB] at h9;refine Is.fz a7 _ _ (Tq ..) (Is.of_tup (SqT.of aL) (.cons (Is.mono (e9.trans a4) _ _ (Vk (SqT.of h8))) (.one (Is.of_tup (a4.seqT (SqT.of h9)) (.cons L3 (.one L3))))))
       symm
       exact⟨_,_,_,_,rfl,aJ (λc=>c.2 (zero aB a9)) a6⟩
     symm
     exact⟨_,_,_,_,rfl,aJ (λc=>c.1 (zero aA hb)) aD⟩
   obtain⟨y4,y5,y6,a0,rfl,b4,a8,e4,h4,a2⟩:=U;refine⟨_,_,_,_,a0,rfl,e4,h4,?_⟩;rw[Ry]
   have:quR ns (Tc J) i (ns.drop (i+1)).length=quR ns (Tc J) i ns.length:=by unfold quR;rw[A0W,A2X (by rw[A1C];omega)]
   rw[<- this];exact a2
 obtain⟨x3,x4,x5,x6,zs,rfl,e2,h2,a3⟩:=U
 symm
 refine k q zs H2 aI e2 h2 ?_;simpa using a3
def Rows (ns:List Str)(ps:List (Str×Str))(q:List (List Str)):Prop:=q.Perm (ext (Ab ps) ns.length ns)
theorem am8 {q F:List (List Str)} (h:q.Perm F) (x y:Str):Tc q x y=Tc F x y:=(h.filter _).length_eq
theorem Yt {b:Str->Str->Bool}:∀ {r r':List Str},r.Perm r'->r.Pairwise (λu v=>b v u=false)->r'.Pairwise (λu v=>b v u=false)->(∀ u∈r,∀ v∈r,u≠v->b u v=true\/b v u=true)->r.Nodup->r=r'
 | [],r',h,_,_,_,_=>(List.nil_perm.mp h).symm
 |a :: t,[],h,_,_,_,_=>by cases h.length_eq
 |a :: t,c :: t',h,h1,h2,tot,nd=>by
   have O:a=c:=by
    by_cases e:a=c
    . exact e
    exfalso;have ha:a∈c :: t':=h.mem_iff.mp (A0D ..);have F:c∈a :: t:=h.mem_iff.mpr (A0D ..);have J:a∈t':=(A0B.mp ha).resolve_left e;have U:c∈t:=(A0B.mp F).resolve_left λz=>e z.symm;have Z:=(A2L.mp h1).1 c U;have q2:=(A2L.mp h2).1 a J;rcases tot a (A0D ..) c F e with q|q
    . rw[q2] at q;cases q
    rw[Z] at q;cases q
   subst O;rw[Yt (List.Perm.cons_inv h) (A2L.mp h1).2 (A2L.mp h2).2 (λu hu v Y=>tot u (A09 _ hu) v (A09 _ Y)) (A0Y.mp nd).2]
theorem ai0 {ns:List Str}{ps:List (Str×Str)}(h:HalfW ns ps)(F:2<=cnt (Ab ps) ns):∃ x∈ns,∃ y∈ns,x≠y/\unB ps x y=true:=by
 false_or_by_contra
 rename_i hno
 have Z:∀ x∈ns,∀ y∈ns,x≠y->Ab ps x y=true\/Ab ps y x=true:=λx O y Y U=>by
  cases e1:Ab ps x y with
  |true=>exact .inl rfl
  |false=>
    cases e2:Ab ps y x with
    |true=>exact .inr rfl
    |false=>exact absurd ⟨x,O,y,Y,U,by unfold unB;rw[e1,e2];rfl⟩ hno
 unfold L2.cnt at F;have nd:=Fs (Ab ps) ns.length ns h.nd;have q:=λr=>Cr (Ab ps) ns.length ns r h.nd rfl
 match hE:ext (Ab ps) ns.length ns,F,nd,q with
 |r :: r' :: rest,_,nd,q=>obtain⟨p1,k1⟩:=(q r).mp (A0D ..);obtain⟨p2,k2⟩:=(q r').mp (A09 _ (A0D ..));have:r=r':=Yt (p1.trans p2.symm) k1.2 k2.2 (λu hu v J=>Z u (p1.mem_iff.mp hu) v (p1.mem_iff.mp J)) (p1.nodup_iff.mpr h.nd);exact(A0Y.mp nd).1 (this ▸ A0D ..)
theorem af7 {ps:List (Str×Str)}{x y:Str}(q:x≠y)(hu:unB ps x y=true):∀ {ns:List Str},x∈ns->y∈ns->0<(unP ns ps).length
 | [],h,_=>by cases h
 |a :: t,hx,hy=>by
   rw[Im];rcases A0B.mp hx with rfl|hx'
   . have:y∈t.filter λz=>unB ps x z:=A0N.mpr ⟨(A0B.mp hy).resolve_left (Ne.symm q),hu⟩;have:=A4N this;omega
   rcases A0B.mp hy with rfl|hy'
   . have:x∈t.filter λz=>unB ps y z:=A0N.mpr ⟨hx',Ma hu⟩;have:=A4N this;omega
   have:=af7 q hu hx' hy';omega
theorem W3 {ns:List Str}{ps:List (Str×Str)}{O:List (List Str)}(h:HalfW ns ps)(U:Rows ns ps O){x y:Str}(Y:x∈ns)(Z:y∈ns):Rows ns (ps++[(x,y)]) (O.filter λr=>decide (r.idxOf x<r.idxOf y)):=by
 refine(U.filter _).trans ?_;refine(List.perm_ext_iff_of_nodup ((Fs (Ab ps) ns.length ns h.nd).filter _) (Fs (Ab (ps++[(x,y)])) ns.length ns h.nd)).mpr λr=>?_;have hm:=(h.more Y Z).mem;rw[A0N,Cr _ _ _ _ h.nd rfl,Cr _ _ _ _ h.nd rfl,decide_eq_true_eq];constructor
 . rintro⟨⟨hp,F⟩,hi⟩;refine⟨hp,(Li h.nd hm hp).mpr λp J=>?_⟩;rcases A0A.mp J with q|q
   . exact(Li h.nd h.mem hp).mp F p q
   rw[A0K.mp q];exact hi
 rintro⟨hp,F⟩;have:=(Li h.nd hm hp).mp F;exact⟨⟨hp,(Li h.nd h.mem hp).mpr λp J=>this p (A0L _ J)⟩,this (x,y) (A12 _ (A0K.mpr rfl))⟩
def Eh (K:W.Frag)(n:Nat):Sp:=λvs H Q _=>∃ f l v F ns ps q ys,vs=[.ref f,v,.ref F]/\Feed H f l/\Is K H (nmD ns) v/\H F=some (.lst ys)/\IsL K H (q.map nmD) ys/\HalfW ns ps/\ns.length<=10/\Rows ns ps q/\ps.length+q.length<=900/\0<q.length/\q.length<=n/\n<=125/\∀ u D m H',ExtBut f H H'->Feed H' f l->PlanP ns ps D m->m<q.length->Is K H' D u->Q u H'
def Jj (K:W.Frag):Sp:=Eh K 125
theorem L6 {K:W.Frag}:∀ vs H Q E,¬ Eh K 0 vs H Q E:=by rintro vs H Q E ⟨f,l,v,q,ns,ps,F,ys,_,_,_,_,_,_,_,_,_,h1,h2,_⟩;omega
theorem T4 {f:Addr}{fd:FuncData}(F:Fun K "_law_plan" "_law_plan" Dn f fd)(T:Eo mg)(A8:Fnd P w K mg base 1 "_law_draw" ["_law_feed_here","_law_many"] (Bj K))(C7:Fnd P w K mg base 1 "_law_parts" ["_law_orders_here","_law_one","_law_other"] (Ej K))(Cd:Fnd P w K mg base 2 "_law_questions" ["_law_names_here","_law_orders_here"] (Cv K))(n:Nat)(Dl:Fnd P w K mg base (3+n) "_law_plan" ["_law_feed_here","_law_names_here","_law_orders_here"] (Eh K n)):FnOk P w K mg base CX0 (3+n+1) f fd ["_law_feed_here","_law_names_here","_law_orders_here"] (Eh K (n+1)):=by
 refine F.ok Dx (λvs H Q E h=>?_) (λbP A outer s H vs Q E J h=>?_)
 . obtain⟨f,l,v,ol,ns,ps,U,ys,rfl,_⟩:=h;rfl
 obtain⟨f,l,v,ol,ns,ps,U,ys,rfl,hF,hN,hO,hL,Y,a1,hR,bW,bX,bY,hn,k⟩:=h;have hu:=Bf J;have hq:=Be J;have bO:=IsL.length hL;rw[A01] at bO
 with_reducible refine⟨_,(A3 (Cj (Ak (Cn (K:=K) hq) (Aq (B8 (K:=K)) ⋯ T.b_len PyProof.Rows.Boot.«len» (A1 (pv 2) A2)) A5 (Aw _)) (A7 (An (B6 (A1 B0 (A1 (Ad (A6 (K:=K) hu) (pv 2) A5 (by ac_rfl)) A2))))) Ay)
  (A3 (Aa (i:=3) Dx.nd ⋯ (by eq_refl) (Ao Cd (J.mono ∅) ⋯ (A1 (pv 1) (A1 (pv 2) A2))))
  (A3 (Aa (i:=4) Dx.nd ⋯ (by eq_refl) (Ra (K:=K) (Ad (A6 (K:=K) hu) (Ad (A6 (K:=K) hu) (pv 3) (Ao A8 (J.mono ∅) ⋯ (A1 (pv 0) (A1 (Aq (B8 (K:=K)) ⋯ T.b_len PyProof.Rows.Boot.«len» (A1 (pv 3) A2)) A2))) (by ac_rfl)) A5 (by ac_rfl)) (Ad (A6 (K:=K) hu) (Bv (A1 A5 (A1 (aI8 as5 A5) A2))) (Ao A8 (J.mono ∅) ⋯ (A1 (pv 0) (A1 A5 A2))) (by ac_rfl))))
  (A3 (a81 (Ao C7 (J.mono ∅) ⋯ (A1 (pv 2) (A1 (Ad (A6 (K:=K) hu) (pv 4) A5 (by ac_rfl)) (A1 (Ad (A6 (K:=K) hu) (pv 4) A5 (by ac_rfl)) A2)))) (Lm (K:=K) (n:=2) ⋯ (Dh (Ag (i:=5) Dx.nd ⋯ (by eq_refl)) (Dh (Ag (i:=6) Dx.nd ⋯ (by eq_refl)) Lp))))
  (A3 (Aa (i:=7) Dx.nd ⋯ (by eq_refl) (Ao Dl (J.mono ∅) ⋯ (A1 (pv 0) (A1 (pv 1) (A1 (pv 5) A2)))))
  (A7 (An (B6 (A1 B0 (A1 (Ad (A6 (K:=K) hu) (pv 4) A5 (by ac_rfl)) (A1 (Ad (A6 (K:=K) hu) (pv 4) A5 (by ac_rfl)) (A1 (pv 7) (A1 (Ao Dl (J.mono ∅) ⋯ (A1 (pv 0) (A1 (pv 1) (A1 (pv 6) A2)))) A2))))))))))))),?_⟩
 symm
 refine Ll (λhc=>?_) (λhc=>?_)
 . have h1:U.length=1:=by have:=V.int.inj hc;omega
   obtain⟨row,rfl⟩:=List.length_eq_one_iff.mp h1;have he:ext (Ab ps) ns.length ns=[row]:=List.perm_singleton.mp hR.symm;obtain⟨y0,r0,rfl,aX,bH⟩:=B2 hL;have:r0=[]:=by simpa only[List.map_nil,L2.IsL] using bH
   subst this
   symm
   refine Kq hO (by rfl) ?_
   symm
   refine B7 (A9 (by simp)) λt H1 ht e1 h1=>?_
   symm
   exact k (.ref t) _ 0 H1 e1.but (hF.same e1) (.fin he) (by simp) (Is.of_tup (SqT.of h1) (.cons Gu (.one (aX.nm_fz e1.fz))))
 have h2:2<=U.length:=by
  rcases Nat.lt_or_ge 1 U.length with q|q
  . exact q
  exact absurd (by rw[show ys.length=1 by omega];rfl) hc
 have a4:∀ r∈U,∀ x∈ns,x∈r:=λr J x O=>((Cr (Ab ps) ns.length ns r Y.nd rfl).mp (hR.mem_iff.mp J)).1.mem_iff.mpr O;have b7:cnt (Ab ps) ns=U.length:=hR.length_eq.symm
 have hQ:quK ns (Tc U) ns.length=quP ns ps:=by rw[<- ae3 Y];refine congrArg (λA=>quK ns A ns.length) (funext λx=>funext λy=>?_);exact am8 hR x y
 symm
 refine⟨v,ol,ns,U,ys,rfl,.of hN,SqL.of hO,hL,a4,a1,by omega,λq zs H1 bF e1 h1 a3=>?_⟩;rw[hQ] at a3;have aM:=IsL.length a3;unfold quP at aM;rw[A01] at aM
 have c3:0<(unP ns ps).length:=by obtain⟨x,O,y,Z,bN,a0⟩:=ai0 Y ∅;exact af7 bN a0 O Z
 have c2:(unP ns ps).length<=1000:=by have h1:=X4 ns (Tc U) ns.length;rw[hQ] at h1;unfold quP at h1;rw[A01] at h1;exact A0O h1 (A0O (A29 a1 a1) nofun)
 have aR:Feed H1 f l:=hF.same e1
 symm
 refine⟨f,l,_,rfl,aR,by omega,by omega,λu H2 c0 c1 e2 a8=>?_⟩;have a5:Fz H1 H2:=by walk_at "fz"
 have bG:q≠f:=Ne.symm (hF.nd bF);have aO:=e2 _ _ bG h1;have b6:=IsL.fz a5 _ _ (Cu _ (λ_=>Tq ..) _) a3;have aL:u.toNat<zs.length:=by omega
 obtain⟨dd,hd,b1⟩:=IsL.get b6 (A03 aL);rw[A07] at hd;obtain⟨pr,aJ,rfl⟩:=A1Z.mp hd;obtain⟨aE,aF,aK⟩:=T3 (A04 aJ);have aI:=Y0 Y.nd (A04 aJ)
 symm
 refine Kq aO (by have:=Fd (A03 aL);rwa[show((u.toNat:Nat):Int)=u by omega] at this) ?_;obtain⟨ua,ux,bK,bM,bL⟩:=Is.tup b1;obtain⟨pv,u1,rfl,b0,_⟩:=B2 bL;rw[bK]
 symm
 refine Cc bM (show atI (pv :: u1) ((0:Nat):Int)=some pv from Fd rfl) ?_;obtain⟨pa,px,rfl,bD,bC⟩:=Is.tup b0;have bE:=IsL.str_eq (ns:=[pr.1,pr.2]) bC;subst bE
 symm
 refine Bu (A9 (by simp)) λl3 H3 b9 e3 h3=>?_;have aS:Feed H3 f l:=a8.same e3
 symm
 refine⟨f,l,_,rfl,aS,by omega,by omega,λw H4 c4 c5 e4 aT=>?_⟩;have a6:Fz H3 H4:=by walk_at "fz"
 have aP:=e4 _ _ (Ne.symm (a8.nd b9)) h3
 symm
 obtain⟨kk,hkk,hat⟩:∃ kk:Int,(kk=1\/kk = -1)/\atI [V.int 1,V.int (-1)] w=some (V.int kk):=by
  rcases(show w=0\/w=1 by omega) with rfl|rfl
  . exact⟨1,.inl rfl,rfl⟩
  exact⟨-1,.inr rfl,rfl⟩
 refine Kq aP hat ?_
 symm
 refine az9 ((e3.fz.trans a6).seq bD) hkk λpb H5 e5 aG=>?_
 obtain⟨x,y,hxy',O,Z,a0,hpb'⟩:∃ x y:Str,x≠y/\x∈ns/\y∈ns/\unB ps x y=true/\SqT K H5 pb [.str x,.str y]:=by
  rcases hkk with rfl|rfl
  . exact⟨pr.1,pr.2,aI,aE,aF,aK,aG⟩
  exact⟨pr.2,pr.1,Ne.symm aI,aF,aE,Ma aK,aG⟩
 have b5:ExtBut f H H5:=((ExtBut.same (ExtBut.after e1 e2) e3).trans e4).same e5;have aU:=aT.same e5;have a7:Fz H H5:=(((e1.fz.trans a5).trans e3.fz).trans a6).trans e5.fz;have aQ:=b5 _ _ (hF.lst hO) hO;have b2:=IsL.fz a7 _ _ (Nf U) hL;have aA:=hN.nm_fz a7;have aB:=W3 Y hR O Z;have aC:=W3 Y hR Z O;have bQ:=aB.length_eq;have bR:=aC.length_eq;have b8:=Sr Y O Z hxy';obtain⟨bI,bJ⟩:=(Yc Y O Z hxy').mpr a0;unfold L2.cnt at b8 bI bJ b7
 symm
 refine Cc hpb' (by rfl) ?_
 symm
 refine Cc hpb' (by rfl) ?_
 symm
 refine⟨ol,x,y,U,ys,rfl,SqL.of aQ,b2,λr J=>⟨a4 r J _ O,a4 r J _ Z⟩,by omega,λt la lb ya yb H6 e6 ht bA c6 aD c7 b3 b4 bU bV=>?_⟩;have a9:=aU.same e6;have bB:=e6.seqT hpb';refine Xy ht ?_
 symm
 refine⟨f,l,v,la,ns,ps++[(x,y)],_,ya,rfl,a9,aA.nm_fz e6.fz,bA,b3,Y.saidP ∅ O Z hxy' a0,a1,aB,by rw[A06,A14];omega,by omega,by omega,by omega,λu1 D1 m1 H7 e7 aV p1 bS aY=>?_⟩;have a2:Fz H6 H7:=by walk_at "fz"
 have aH:=a2.seq bB
 symm
 refine Cc aH (by rfl) ?_
 symm
 refine Cc aH (by rfl) ?_
 symm
 refine⟨f,l,v,lb,ns,ps++[(y,x)],_,yb,rfl,aV,(aA.nm_fz e6.fz).nm_fz a2,e7 _ _ (a9.lst aD) aD,IsL.fz a2 _ _ (Nf _) b4,Y.saidP ∅ Z O (Ne.symm hxy') (Ma a0),a1,aC,by rw[A06,A14];omega,by omega,by omega,by omega,λu2 D2 m2 H8 e8 aW p2 bT aZ=>?_⟩;have aN:Fz H7 H8:=by walk_at "fz"
 symm
 refine B7 (A9 (by simp)) λt9 H9 bZ e9 h9=>?_
 symm
 refine k (.ref t9) _ _ H9 ((((ExtBut.same b5 e6).trans e7).trans e8).same e9) (aW.same e9) (.ask O Z hxy' a0 p1 p2) ∅ (Is.of_tup (SqT.of h9) (.cons Gu (.cons Gu (.cons Gu (.cons (Is.fz (aN.trans e9.fz) _ _ (Cy p1) aY) (.one (Is.fz e9.fz _ _ (Cy p2) aZ)))))))
theorem Vo {f:Addr}{fd:FuncData}(F:Fun K "_law_plan" "_law_plan" Dn f fd)(T:Eo mg)(q:Fnd P w K mg base 1 "_law_draw" ["_law_feed_here","_law_many"] (Bj K))(J:Fnd P w K mg base 1 "_law_parts" ["_law_orders_here","_law_one","_law_other"] (Ej K))(Cd:Fnd P w K mg base 2 "_law_questions" ["_law_names_here","_law_orders_here"] (Cv K))(hm:mg "_law_plan" = some (.ref f))(O:W.keepIn K (.ref f)=true)(hb:Binds K fd ["_law_feed_here","_law_names_here","_law_orders_here"] []):FnOk P w K mg base CX0 128 f fd ["_law_feed_here","_law_names_here","_law_orders_here"] (Jj K):=by
 have h:∀ n:Nat,FnOk P w K mg base CX0 (3+n) f fd ["_law_feed_here","_law_names_here","_law_orders_here"] (Eh K n):=λn=>by
  induction n with
  |zero=>exact FnOk.void L6
  |succ n ih=>exact T4 F T q J Cd n ⟨f,fd,ih,hm,O,hb⟩
 exact h 125
structure ak8 (ns:List Str)(ps:List (Str×Str)):Prop where
 w:HalfW ns ps
 nm:∀ z∈ns,Z5 z=true
 few:ns.length<=10
 le:ps.length<=60
 cn:cnt (Ab ps) ns<=120
theorem Pc {ps ps':List (Str×Str)}(h:∀ p,p∈ps'->p∈ps){x y:Str}(g:Way ps' x y):Way ps x y:=by
 induction g with
 |one e=>exact .one (h _ e)
 |cons e _ ih=>exact .cons (h _ e) ih
theorem X0 {b:Str->Str->Bool}:∀(n:Nat) (L:List Str),L.length=n->L.Nodup->cnt b L<=fac n
 |0,L,h,_=>by rw[A1B.mp h,L2.cnt_nil];exact A08 _
 |n+1,L,h,hn=>by
   rw[Ld hn (by intro z;rw[z] at h;cases h)];have h1:((frF b L).map λx=>cnt b (Ai L x)).sum<=((frF b L).map λ_=>fac n).sum:=Y1 λx F=>X0 n (Ai L x) (by have:=Bd hn (mem_frF.mp F).1;omega) (B9 hn x);have h2:((frF b L).map λ_=>fac n).sum=(frF b L).length*fac n:=by rw[List.map_const',List.sum_replicate_nat]
   have q:(frF b L).length<=n+1:=by rw[<- h];exact A0U _ _
   have J:=A54 (fac n) q;have O:fac (n+1)=(n+1)*fac n:=by first | rfl | (show fac n*(n+1)=_;exact A4S _ _)
   omega
theorem ar7 {ns:List Str}{ps:List (Str×Str)}(h:Half ns ps)(q:ns.length<=5):ak8 ns ps:=by refine⟨h.w,h.names.2,by omega,h.le,A0O (X0 _ ns rfl h.w.nd) ?_⟩;rcases(show ns.length=0\/ns.length=1\/ns.length=2\/ns.length=3\/ns.length=4\/ns.length=5 by omega) with e|e|e|e|e|e<;>rw[e]<;>decide
structure Lev (done lev:List Str)(S:List (Str×Str))(many:Nat):Prop where
 mem:∀ p∈S,p.1∈done/\p.2∈done
 sub:∀ e∈lev,e∈done
 up:∀ d∈done,d∈lev\/∀ e∈lev,Way S d e
 ne:lev=[]->done=[]
 irr:∀ x,¬ Way S x x
 cn:cnt (Ab S) done<=many
 three:lev.length<=3
 len:S.length<=3*done.length
theorem Rj {S:List (Str×Str)}{done:List Str}(h:∀ p∈S,p.1∈done/\p.2∈done){x y:Str}(g:Way S x y):x∈done/\y∈done:=by
 induction g with
 |one e=>exact h _ e
 |cons e _ ih=>exact⟨(h _ e).1,ih.2⟩
theorem ap5:Lev [] [] [] 1:=⟨λp h=>(by cases h),λe h=>(by cases h),λd h=>(by cases h),λ_=>rfl,λx g=>(by have:=(Rj (done:=[]) (λp h=>(by cases h)) g).1;cases this),Nat.le_refl _,by simp,by simp⟩
theorem aD6 {done lev fresh:List Str}{S:List (Str×Str)}{many:Nat}(h:Lev done lev S many)(hn:(done++fresh).Nodup){x y:Str}:Way (S++crs lev fresh) x y↔Way S x y\/(x∈done/\y∈fresh):=by
 have F:∀ z,z∈done->z∈fresh->False:=λz h1 h2=>(A1G.mp hn).2.2 z h1 z h2 rfl;constructor
 . intro g
   induction g with
   |one e=>
     rcases A0A.mp e with e|e
     . exact .inl (.one e)
     obtain⟨h1,h2⟩:=mem_crs.mp e;exact .inr ⟨h.sub _ h1,h2⟩
   |cons e _ ih=>
     rcases A0A.mp e with e|e
     . rcases ih with ih|ih
       . exact .inl (.cons e ih)
       exact .inr ⟨(h.mem _ e).1,ih.2⟩
     obtain⟨h1,h2⟩:=mem_crs.mp e;rcases ih with ih|ih
     . exact(F _ (Rj h.mem ih).1 h2).elim
     exact(F _ ih.1 h2).elim
 rintro(g|⟨h1,h2⟩)
 . exact Pc (λp hp=>A0L _ hp) g
 rcases h.up x h1 with q|q
 . exact .one (A12 _ (mem_crs.mpr ⟨q,h2⟩))
 cases hl:lev with
 |nil=>
   rw[h.ne hl] at h1
   cases h1
 |cons e es=>
   have he:e∈lev:=by rw[hl];exact A0D ..
   rw[<- hl];exact(Pc (λp hp=>A0L _ hp) (q e he)).trans (.one (A12 _ (mem_crs.mpr ⟨he,h2⟩)))
theorem Lev.step {done lev fresh:List Str}{S:List (Str×Str)}{many:Nat}(h:Lev done lev S many)(hn:(done++fresh).Nodup)(Y:fresh≠[])(Z:fresh.length<=3):Lev (done++fresh) fresh (S++crs lev fresh) (many*fac fresh.length):=by
 have J:=λx y=>aD6 h hn (x:=x) (y:=y);have F:∀ z,z∈done->z∈fresh->False:=λz h1 h2=>(A1G.mp hn).2.2 z h1 z h2 rfl;refine⟨λp hp=>?_,λe he=>A12 _ he,λd hd=>?_,λz=>absurd z Y,λx g=>?_,?_,Z,?_⟩
 . rcases A0A.mp hp with hp|hp
   . exact⟨A0L _ (h.mem p hp).1,A0L _ (h.mem p hp).2⟩
   obtain⟨a,b⟩:=mem_crs.mp hp;exact⟨A0L _ (h.sub _ a),A12 _ b⟩
 . rcases A0A.mp hd with hd|hd
   . exact .inr λe he=>(J d e).mpr (.inr ⟨hd,he⟩)
   exact .inl hd
 . rcases(J x x).mp g with g|g
   . exact h.irr x g
   exact F x g.1 g.2
 . have hb:∀ {x y:Str},Ab (S++crs lev fresh) x y=true↔Way S x y\/(x∈done/\y∈fresh):=wayB_iff.trans (J _ _);rw [Vt done.length rfl hn λx O y q=>⟨hb.mpr (.inr ⟨O,q⟩),?_⟩]
   . have U:cnt (Ab (S++crs lev fresh)) done=cnt (Ab S) done:=Vn done.length rfl (A1G.mp hn).1 λx O y q=>by
      cases e:Ab S x y with
      |true=>exact hb.mpr (.inl (wayB_iff.mp e))
      |false=>
        cases e':Ab (S++crs lev fresh) x y with
        |false=>rfl
        |true=>
          rcases hb.mp e' with g|g
          . rw[wayB_iff.mpr g] at e;cases e
          exact(F y q g.2).elim
     rw[U];exact A29 h.cn (X0 _ fresh rfl (A1G.mp hn).2.1)
   cases e:Ab (S++crs lev fresh) y x with
   |false=>rfl
   |true=>
     rcases hb.mp e with g|g
     . exact(F y (Rj h.mem g).1 q).elim
     exact(F y g.1 q).elim
 have:=h.len;have h4:=A54 fresh.length h.three;rw[A06,ab1,A06];omega
def Kl (K:W.Frag):Sp:=λvs H Q _=>∃ f l,vs=[.ref f]/\Feed H f l/\∀ v ns ps H',ExtBut f H H'->Feed H' f l->Is K H' (hfD ns ps) v->ak8 ns ps->Q v H'
theorem Wp {f:Addr}{fd:FuncData}(F:Fun K "_law_few" "_law_few" Gg f fd)(T:Eo mg)(A8:Fnd P w K mg base 1 "_law_draw" ["_law_feed_here","_law_many"] (Bj K))(Ee:Fnd P w K mg base 2 "_law_names" ["_law_feed_here","_law_many"] (Ga K))(Br:Fnd P w K mg base 2 "_law_shuffled" ["_law_feed_here","_law_some"] (Di K))(Ev:Fnd P w K mg base 4 "_law_half" ["_law_feed_here","_law_most"] (He K)):FnOk P w K mg base CX0 5 f fd ["_law_feed_here"] (Kl K):=by
 refine F.ok B5 (λvs H Q E h=>?_) (λcF A outer s H vs Q E U h=>?_)
 . obtain⟨f,l,rfl,_⟩:=h;rfl
 obtain⟨f,l,rfl,hF,k⟩:=h;have hu:=Bf U;have hq:=Be U
 with_reducible refine⟨_,(A3 (Cj (Ak (Cn (K:=K) hq) (Ao A8 (U.mono nofun) ⋯ (A1 (pv 0) (A1 A5 A2))) A5 (Aw _)) (A7 (An (Ao Ev (U.mono nofun) ⋯ (A1 (pv 0) (A1 A5 A2))))) Ay)
  (A3 (Aa (i:=1) B5.nd ⋯ (by eq_refl) (Ao Ee (U.mono nofun) ⋯ (A1 (pv 0) (A1 (Ao A8 (U.mono nofun) ⋯ (A1 (pv 0) (A1 A5 A2))) A2))))
  (A3 (Aa (i:=2) B5.nd ⋯ (by eq_refl) (Ao Br (U.mono nofun) ⋯ (A1 (pv 0) (A1 (pv 1) A2))))
  (A3 (Aa (i:=3) B5.nd ⋯ (by eq_refl) (Bv A2))
  (A3 (Aa (i:=4) B5.nd ⋯ (by eq_refl) (Bv A2))
  (A3 (Aa (i:=5) B5.nd ⋯ (by eq_refl) A5)
  (A3 (R9 A0V (Ak (Qi (K:=K) hq) (pv 2) (Bv A2) (Aw _))
  (A3 (Aa (i:=6) B5.nd ⋯ (by eq_refl) (Aq (ab7 ⋯) ⋯ T.b_min PyProof.Rows.Boot.«min» (A1 (Aq (B8 (K:=K)) ⋯ T.b_len PyProof.Rows.Boot.«len» (A1 (pv 2) A2)) (A1 (Ad (A6 (K:=K) hu) (Bv (A1 A5 (A1 A5 (A1 A5 (A1 A5 A2))))) (Ao A8 (U.mono nofun) ⋯ (A1 (pv 0) (A1 A5 A2))) (by ac_rfl)) A2))))
  (A3 (Cj (Ak a03 (Ap Do (pv 5) (Ad (A6 (K:=K) hu) (Bv (A1 A5 (A1 A5 (A1 A5 (A1 A5 A2))))) (pv 6) (by ac_rfl))) A5 (Aw _)) (A7 (Aa (i:=6) B5.nd ⋯ (by eq_refl) A5)) Ay)
  (A3 (Aa (i:=5) B5.nd ⋯ (by eq_refl) (Ap Do (pv 5) (Ad (A6 (K:=K) hu) (Bv (A1 A5 (A1 A5 (A1 A5 (A1 A5 A2))))) (pv 6) (by ac_rfl))))
  (A3 (Aa (i:=7) B5.nd ⋯ (by eq_refl) (C8 (X5 (K:=K)) (pv 2) Gz (C9 (pv 6))))
  (A3 (Aa (i:=2) B5.nd ⋯ (by eq_refl) (C8 (X5 (K:=K)) (pv 2) (C9 (pv 6)) Gz))
  (A3 (C4 A0V ⋯ (As (K:=K) hu (pv 3)) (Ag (i:=8) B5.nd ⋯ (by with_unfolding_all exact A3I rfl))
  (A7 (Aa (i:=4) B5.nd ⋯ (by eq_refl) (Ap (Al (K:=K)) (pv 4) (Cb ["_law_other"] ["_law_one"] [8] ⋯ ⋯ ⋯ (As (K:=K) hu (pv 7)) (λ_ _ _ _=>(Ag (i:=0) (by with_unfolding_all (show(["_law_other","_law_one"]:List Str).Nodup;decide +kernel)) ⋯ (by eq_refl))) (Bq nofun) (λ_ _ _ _=>G1) (λ_ _ _ _=>(B6 (A1 (pv 1) (A1 (pv 0) A2)))))))))
  (A7 (Aa (i:=3) B5.nd ⋯ (by eq_refl) (pv 7))))))))))
  (A7 (An (B6 (A1 (B1 (Co (K:=K)) ⋯ T.b_tuple PyProof.Rows.Boot.«tuple» (A1 (pv 1) A2)) (A1 (B1 (Co (K:=K)) ⋯ T.b_tuple PyProof.Rows.Boot.«tuple» (A1 (Ao Br (U.mono nofun) ⋯ (A1 (pv 0) (A1 (pv 4) A2))) A2)) A2)))))))))))),?_⟩
 symm
 refine⟨f,l,_,rfl,hF,by omega,by omega,λu H1 d8 d9 e1 b8=>?_⟩
 symm
 refine Ll (λhc=>?_) (λhc=>?_)
 . symm
   refine⟨f,l,_,rfl,b8,by omega,by omega,λv ns ps H2 e2 aP hI hH hl=>?_⟩;exact k v ns ps H2 (e1.trans e2) aP hI (ar7 hH ∅)
 symm
 refine⟨f,l,_,rfl,b8,by omega,by omega,λu2 H2 dA dB e2 aP=>?_⟩
 symm
 refine⟨f,l,_,rfl,aP,by omega,by omega,λp3 ns H3 cY e3 b9 h3 hN cR=>?_⟩
 symm
 refine⟨f,l,p3,_,rfl,b9,.inl (SqL.of h3),by rw[A01];omega,λp4 dK H4 cZ e4 bA h4 c6=>?_⟩;obtain⟨sh,rfl,a5⟩:=Uv c6;have b5:=e4 _ _ (b9.lst h3) h3;have bF:sh.Nodup:=a5.nodup_iff.mpr hN.1;have d4:=a5.length_eq
 symm
 refine Bu (A9 (by simp)) λp5 H5 d0 e5 h5=>?_
 symm
 refine Bu (A9 (by simp)) λp6 H6 d1 e6 h6=>?_
 symm
 have aH:=e5.trans e6
 refine Wd (λmm σ H'=>∃ lf lv sy rest done lev S,∃ many:Nat,∃ x6 x7 x8,∃ zs,σ=[some (.ref f),some (.ref p3),some (.ref lf),some (.ref lv),some (.ref sy),some (.int ((many:Nat):Int)),x6,x7,x8]/\ExtBut f H4 H'/\Feed H' f l/\H' lf=some (.lst (rest.map V.str))/\H' lv=some (.lst (lev.map V.str))/\H' sy=some (.lst zs)/\IsL K H' (S.map prD) zs/\sh=done++rest/\Lev done lev S many/\1<=many/\many<=24/\mm=rest.length) sh.length
  ⟨p4,p5,p6,sh,[],[],[],1,_,_,_,[],rfl,aH.but,bA.same aH,aH _ _ h4,e6 _ _ h5,h6,.nil,rfl,ap5,A08 _,by omega,rfl⟩ (λmm σ' H7 hP=>?_)
 obtain⟨lf,lv,sy,rest,done,lev,S,many,x6,x7,x8,zs,rfl,b7,bB,aN,b6,aO,aR,aB,hV,c3,cP,rfl⟩:=hP;have c9:∀ z∈rest,z∈ns:=λz hz=>a5.mem_iff.mp (by rw[aB];exact A12 _ hz);have cO:done.length+rest.length=sh.length:=by rw[aB,A06]
 symm
 refine Bu nofun λt8 H8 d7 O h8=>?_;refine aS9 (dx:=.list (rest.map PyData.str)) (dy:=.list []) (Is.of_lst (SqL.of (O _ _ aN)) (Ot rest)) (Is.of_lst (SqL.of h8) .nil) (am2 λz hz=>(ax8 (hN.2 z (c9 z hz))).1) (by rfl) ?_;rw[W1]
 symm
 refine T5 (λhE=>?_) (λhE=>?_)
 . have c5:rest≠[]:=by
    intro e;subst e
    cases hE
   have d3:=A5B.mpr c5;have a2:=bB.same O;refine a85 ?_
   symm
   refine Bu (A9 (by simp)) λp9 H9 d2 e9 h9=>?_;have a3:=a2.same e9
   symm
   refine⟨f,l,_,rfl,a3,by omega,by omega,λw bH dC dD a0 aF=>?_⟩;have aE:=a3.fz a0;have bO:=a0 _ _ (a3.lst h9) h9
   obtain⟨c,hc3,hat⟩:∃ c:Int,(1<=c/\c<=3)/\atI [V.int 1,V.int 1,V.int 2,V.int 3] w=some (V.int c):=by
    rcases(show w=0\/w=1\/w=2\/w=3 by omega) with rfl|rfl|rfl|rfl
    . exact⟨1,by omega,rfl⟩
    . exact⟨1,by omega,rfl⟩
    . exact⟨2,by omega,rfl⟩
    exact⟨3,by omega,rfl⟩
   symm
   refine Kq bO hat ?_
   symm
   refine⟨_,_,rfl,?_⟩
   obtain⟨J,hs0,hs1⟩:∃ J:Nat,(1<=J/\J<=3/\J<=rest.length)/\(if c<((rest.map V.str).length:Int) then c else((rest.map V.str).length:Int))=(J:Int):=by
    rw[A01]
    split
    . exact⟨c.toNat,by omega,by omega⟩
    exact⟨rest.length,by omega,rfl⟩
   walk_at "rq";rw[hs1];refine Su (fun σ' H'=>∃ sz:Nat,σ'=[some (.ref f),some (.ref p3),some (.ref lf),some (.ref lv),some (.ref sy),some (.int ((many:Nat):Int)),some (.int ((sz:Nat):Int)),x7,x8]/\ExtBut f H8 H'/\Feed H' f l/\Fz H8 H'/\1<=sz/\sz<=3/\sz<=rest.length/\many*fac sz<=24) (λN bC=>?_) (fun σ' H' hM=>?_)
   . have aS:atI [V.int 1,V.int 1,V.int 2,V.int 6] (J:Int)=some (V.int ((fac J:Nat):Int)):=by rcases(show J=1\/J=2\/J=3 by omega) with rfl|rfl|rfl<;>rfl
     have cL:fac J<=6:=by rcases(show J=1\/J=2\/J=3 by omega) with rfl|rfl|rfl<;>decide
     symm
     refine Bu (A9 (by simp)) λdH aW cT Y bP=>?_
     symm
     refine Kq bP aS ?_
     symm
     have b0:ExtBut f H8 aW:=(ExtBut.after e9 a0).same Y;have b1:=(e9.fz.trans aE).trans Y.fz;refine Ll (λhb=>?_) (λhb=>?_)
     . symm
       exact bC _ _ ⟨1,rfl,b0,aF.same Y,b1,by omega,by omega,by omega,by show many*1<=24;omega⟩
     symm
     exact bC _ _ ⟨J,rfl,b0,aF.same Y,b1,by omega,by omega,by omega,by rw[<- Int.natCast_mul] at hb;omega⟩
   obtain⟨sz,rfl,aC,bU,bM,dE,cA,dF,cB⟩:=hM
   have aS:atI [V.int 1,V.int 1,V.int 2,V.int 6] (sz:Int)=some (V.int ((fac sz:Nat):Int)):=by rcases(show sz=1\/sz=2\/sz=3 by omega) with rfl|rfl|rfl<;>rfl
   have b2:=aC _ _ (a2.lst (O _ _ aN)) (O _ _ aN);have b3:=aC _ _ (a2.lst (O _ _ b6)) (O _ _ b6);have bQ:=aC _ _ (a2.lst (O _ _ aO)) (O _ _ aO)
   symm
   refine Bu (A9 (by simp)) λdI aX cU Z aJ=>?_
   symm
   refine Kq aJ aS ?_
   symm
   refine Nm (SqL.of (Z _ _ b2)) λaV cE cV aZ aK=>?_
   symm
   refine Nm (SqL.of (aZ _ _ (Z _ _ b2))) λbG bI cW aG b4=>?_;rw[Kx ∅,A4G,<- A40] at aK;rw[Kw ∅ (by rw[A01];omega),A4G,<- A3Z] at b4;have a8:=(Z.trans aZ).trans aG
   symm
   refine Kf (SqL.of (a8 _ _ b3)) ?_
   refine Ep (Bp (xs:=lev.map V.str)) (λj σ' H'=>∃ a6 a7 y8,σ'=[some (.ref f),some (.ref p3),some (.ref bG),some (.ref lv),some (.ref a6),some (.int (((many*fac sz:Nat)):Int)),some (.int ((sz:Nat):Int)),some (.ref aV),y8]/\Same bI H'/\H' a6=some (.lst a7)/\IsL K H' ((S++crs (lev.take j) (rest.take sz)).map prD) a7)
    ⟨sy,zs,_,by rw[Int.natCast_mul];rfl,.refl _,a8 _ _ bQ,?_⟩ (λj σ' H' hP=>?_) (λj x σ' bJ hx hj hP=>?_) (fun σ' bJ hP=>?_)
   . rw[List.take_zero,show crs [] (rest.take sz)=[] from rfl,A2C];exact IsL.fz ((O.fz.trans bM).trans a8.fz) _ _ (C0 S) aR
   . obtain⟨a6,a7,y8,_,e,_⟩:=hP;exact SqL.of (e _ _ (a8 _ _ b3))
   . obtain⟨a6,a7,y8,rfl,a1,aL,aA⟩:=hP;rw[A07] at hx;obtain⟨z,hz,rfl⟩:=A1Z.mp hx;have bR:=a1 _ _ (aG _ _ aK);have aU:=IsL.length aA;rw[A01,A06,ab1] at aU;have cI:=A29 (List.length_take_le j lev) (List.length_take_le sz rest);have cJ:=A46 j cA;have cM:j<=3:=by rw[A01] at hj;have:=hV.three;omega
     have bY:=hV.len
     symm
     refine Y9 (ns:=rest.take sz) ⟨aV,rfl,.inl (SqL.of bR)⟩ (λ_=>true) (λo=>prD (z,o)) (λ_=>Ho _) (by rw[A10];omega) (λjj o bK R R' ho aD hR cG=>?_) (λlc yc bK cN aD bS aQ=>?_)
     . symm
       refine B7 (A9 (by simp)) λdJ bL d6 a9 aM=>?_;exact hR rfl _ _ a9 (Is.of_tup (SqT.of aM) (.cons Gu (.one Gu)))
     have c2:(rest.take sz).filter (λ_=>true)=rest.take sz:=A3G.mpr λ_ _=>rfl;rw[c2] at aQ;have bZ:=IsL.length aQ;rw[A01,A10] at bZ
     symm
     refine Ys (aD _ _ aL) bS (A9 ∅) λcC bL cX a9 aM=>?_
     symm
     refine⟨cC,_,_,rfl,(a1.trans aD).trans a9,aM,?_⟩
     have c0:S++crs (lev.take (j+1)) (rest.take sz)=(S++crs (lev.take j) (rest.take sz))++(rest.take sz).map λo=>(z,o):=by rw[A0R,hz];unfold crs;simp[List.flatMap_append]
     rw[c0,A0T,A19];exact IsL.append (IsL.fz (aD.trans a9).fz _ _ (C0 _) aA) (IsL.fz a9.fz _ _ (Cu _ (λ_=>Ho _) _) aQ)
   obtain⟨a6,a7,y8,rfl,a1,aL,aA⟩:=hP;rw[A01,A0W] at aA;have bE:sh=(done++rest.take sz)++rest.drop sz:=by rw[A21,A4V];exact aB
   have aT:(rest.take sz).length=sz:=by rw[A10];omega
   have c4:(done++rest.take sz).Nodup:=by rw[bE] at bF;exact(A1G.mp bF).1
   have bD:=hV.step c4 (λq=>by rw[q] at aT;simp at aT;omega) ∅;rw[aT] at bD;have c1:1<=fac sz:=by rcases(show sz=1\/sz=2\/sz=3 by omega) with rfl|rfl|rfl<;>decide
   have cQ:=A29 c3 c1;have aY:=a8.trans a1
   symm
   exact⟨(rest.drop sz).length,by rw[A1C];omega,bG,aV,a6,rest.drop sz,done++rest.take sz,rest.take sz,S++crs lev (rest.take sz),many*fac sz,_,_,_,a7,rfl,(((b7.same O).trans aC).same aY),bU.same aY,a1 _ _ b4,a1 _ _ (aG _ _ aK),aL,aA,bE,bD,by omega,cB,rfl⟩
 have c8:rest=[]:=by
  cases rest with
  |nil=>rfl
  |cons z zs=>cases hE
 subst c8;rw[A2C] at aB;subst aB;have a2:=bB.same O;have bT:H8 p3=some (.lst (ns.map V.str)):=O _ _ (b7 _ _ (bA.lst b5) b5)
 symm
 refine ah2 bT (Ot ns) λtv H9 e9 bV=>?_;have a3:=a2.same e9;have aI:=O.trans e9;have aU:=IsL.length aR;rw[A01] at aU;have bY:=hV.len
 symm
 refine⟨f,l,sy,zs,rfl,a3,.inl (SqL.of (aI _ _ aO)),by omega,λdG ys bH cS a0 aF bN c7=>?_⟩;have aE:=a3.fz a0;obtain⟨S',a4,bW⟩:=a65 c7 (IsL.fz (aI.fz.trans aE) _ _ (C0 S) aR)
 symm
 refine Rz bN bW λpv aW Y bX=>?_
 symm
 refine B7 (A9 (by simp)) λcD aX d5 Z aJ=>?_
 symm
 have hw:Ab S'=Ab S:=funext λx=>funext λy=>by
  cases e:Ab S x y with
  |true=>exact wayB_iff.mpr (Pc (λp hp=>a4.mem_iff.mpr hp) (wayB_iff.mp e))
  |false=>
    cases e':Ab S' x y with
    |false=>rfl
    |true=>rw[wayB_iff.mpr (Pc (λp hp=>a4.mem_iff.mp hp) (wayB_iff.mp e'))] at e;cases e
 have cH:=a4.length_eq
 have cK:cnt (Ab S') ns<=many:=by rw[hw,<- an8 hN.1 a5];exact hV.cn
 exact k (.ref cD) ns S' aX (((((((e1.trans e2).trans e3).trans e4).trans b7).same aI).trans a0).same (Y.trans Z)) (aF.same (Y.trans Z)) (al8 (SqT.of aJ) (bV.nm_fz (aE.trans (Y.trans Z).fz)) (bX.ps_fz Z.fz))
  ⟨⟨hN.1,λp hp=>⟨a5.mem_iff.mp (hV.mem p (a4.mem_iff.mp hp)).1,a5.mem_iff.mp (hV.mem p (a4.mem_iff.mp hp)).2⟩,λx g=>hV.irr x (Pc (λp hp=>a4.mem_iff.mp hp) g),by omega,by omega⟩,hN.2,by omega,by omega,by omega⟩
theorem Rp {ps qs:List (Str×Str)}(h:Ab ps=Ab qs)(p:Str×Str):Ab (ps++[p])=Ab (qs++[p]):=by
 have q:∀ a b,Way ps a b↔Way qs a b:=λa b=>by rw[<- wayB_iff,<- wayB_iff,h]
 funext a b;exact Oi (by rw[show p=(p.1,p.2) from rfl,way_said,way_said,q,q,q])
theorem al4 {ps qs:List (Str×Str)}(h:Ab ps=Ab qs)(ns:List Str):unP ns ps=unP ns qs:=by unfold unP unK unR unB;rw[h]
theorem af9 {ps qs:List (Str×Str)}(h:Ab ps=Ab qs)(ns:List Str)(p:Str×Str):qMn ns ps p=qMn ns qs p:=by unfold qMn qA qB;rw[Rp h,Rp h]
inductive PlanB (ns:List Str):List (Str×Str)->PyData->Nat->Prop
 |fin {ps:List (Str×Str)} {row:List Str} (he:ext (Ab ps) ns.length ns=[row]):PlanB ns ps (aE1 row) 0
 |ask {ps:List (Str×Str)} {x y:Str} {D1 D2:PyData} {m1 m2:Nat} (hp:(x,y)∈unP ns ps) (hb:∀ p'∈unP ns ps,qMn ns ps p'<=qMn ns ps (x,y)) (p1:PlanB ns (ps++[(x,y)]) D1 m1) (p2:PlanB ns (ps++[(y,x)]) D2 m2):PlanB ns ps (aP0 x y D1 D2) (1+max m1 m2)
theorem PlanB.congr {ns:List Str}{ps:List (Str×Str)}{D:PyData}{m:Nat}(h:PlanB ns ps D m):∀ {qs:List (Str×Str)},Ab ps=Ab qs->PlanB ns qs D m:=by
 induction h with
 |fin he=>intro qs e;exact .fin (by rw[<- e];exact he)
 |@ask ps x y D1 D2 m1 m2 hp hb _ _ i1 i2=>intro qs e;have hu:=al4 e ns;exact .ask (by rw[<- hu];exact hp) (λF q=>by rw[<- af9 e,<- af9 e];exact hb F (by rw[hu];exact q)) (i1 (Rp e _)) (i2 (Rp e _))
theorem PlanB.p {ns:List Str}{ps:List (Str×Str)}{D:PyData}{m:Nat}(hn:ns.Nodup)(h:PlanB ns ps D m):PlanP ns ps D m:=by
 induction h with
 |fin he=>exact .fin he
 |ask hp _ _ _ i1 i2=>obtain⟨h1,h2,q⟩:=T3 hp;exact .ask h1 h2 (Y0 hn hp) q i1 i2
theorem aF7 {ns:List Str}{ps:List (Str×Str)}(h:HalfW ns ps)(hu:unP ns ps=[]):∃ row,ext (Ab ps) ns.length ns=[row]:=by
 have F:cnt (Ab ps) ns=1:=by
  have Z:=Lq (b:=Ab ps) (λx=>Kn h x) (λx y z a b=>wayB_iff.mpr ((wayB_iff.mp a).trans (wayB_iff.mp b))) ns.length ns rfl h.nd;rcases Nat.lt_or_ge 1 (cnt (Ab ps) ns) with q|q
  . obtain⟨x,O,y,Y,U,J⟩:=ai0 h q;have:=af7 U J O Y;rw[hu] at this;simp at this
  omega
 exact List.length_eq_one_iff.mp F
def Df (P:Addr)(K:W.Frag)(n:Nat):Sp:=λvs H Q _=>∃ v ns ps,vs=[v]/\Is K H (hfD ns ps) v/\HalfW ns ps/\ns.length<=10/\ps.length<=60/\cnt (Ab ps) ns<=n/\LmT P H/\∀ u D m H',ExtBut P H H'->LmT P H'->PlanB ns ps D m->Is K H' D u->Q u H'
def Ij (P:Addr)(K:W.Frag):Sp:=Df P K 125
theorem Ko {P:Addr}{K:W.Frag}:∀ vs H Q E,¬ Df P K 0 vs H Q E:=by rintro vs H Q E ⟨v,ns,ps,_,_,h,_,_,q,_⟩;have F:=Lq (b:=Ab ps) (λx=>Kn h x) (λx y z a b=>wayB_iff.mpr ((wayB_iff.mp a).trans (wayB_iff.mp b))) ns.length ns rfl h.nd;omega
theorem aS2 {P:Addr}{H H':Hp}(q:LmT P H)(e:ExtBut P H H'):Fz H H':=by obtain⟨ps,F⟩:=Fx q;exact Ue e F
theorem Pu {f:Addr}{fd:FuncData}(F:Fun K "planned_on" "planned_on" Cp f fd)(T:Eo mg){a0:Addr}(Qk:Fnd P w K mg base 5 "said" ["half","name","other"] (Sv K))(Hs:Fnd P w K mg base 26 "order_of" ["half","number"] (Il K))(Ui:Fnd P w K mg base 16 "best" ["half"] (Sa a0 K))(n:Nat)(Du:Fnd P w K mg base (27+n) "planned_on" ["half"] (Df a0 K n)):FnOk P w K mg base CX0 (27+n+1) f fd ["half"] (Df a0 K (n+1)):=by
 refine F.ok Gb (λvs H Q E h=>?_) (λaS A outer s H vs Q E J h=>?_)
 . obtain⟨v,ns,ps,rfl,_⟩:=h;rfl
 obtain⟨v,ns,ps,rfl,hI,q,U,aT,aU,hT,k⟩:=h;have hu:=Bf J;have hq:=Be J
 with_reducible refine⟨_,(A3 (Aa (i:=1) Gb.nd ⋯ (by eq_refl) (Ao Ui (J.mono ∅) ⋯ (A1 (pv 0) A2)))
  (A3 (Cj (Ak aI9 (pv 1) Qj (Aw _)) (A7 (An (B6 (A1 B0 (A1 (Ao Hs (J.mono ∅) ⋯ (A1 (pv 0) (A1 A5 A2))) A2))))) Ay)
  (A3 (Aa (i:=2) Gb.nd ⋯ (by eq_refl) (Ad (A6 (K:=K) hu) (Ad (A6 (K:=K) hu) (pv 1) A5 (by ac_rfl)) A5 (by ac_rfl)))
  (A3 (Aa (i:=3) Gb.nd ⋯ (by eq_refl) (Ad (A6 (K:=K) hu) (Ad (A6 (K:=K) hu) (pv 1) A5 (by ac_rfl)) A5 (by ac_rfl)))
  (A7 (An (B6 (A1 B0 (A1 (pv 2) (A1 (pv 3) (A1 (Ao Du (J.mono ∅) ⋯ (A1 (Ao Qk (J.mono ∅) ⋯ (A1 (pv 0) (A1 (pv 2) (A1 (pv 3) A2)))) A2)) (A1 (Ao Du (J.mono ∅) ⋯ (A1 (Ao Qk (J.mono ∅) ⋯ (A1 (pv 0) (A1 (pv 3) (A1 (pv 2) A2)))) A2)) A2)))))))))))),?_⟩
 symm
 refine⟨v,ns,ps,rfl,hI,q,U,hT,λu1 H1 e1 a4 hB=>?_⟩;have aC:=aS2 hT e1;have a1:=hI.hf_fz aC;rcases hB with ⟨rfl,aR⟩|⟨p,hp,aK,aN⟩
 . obtain⟨row,a9⟩:=aF7 q aR
   symm
   refine⟨v,ns,ps,0,row,rfl,a1,q,U,by rw[a9];rfl,λu2 H2 e2 a2=>?_⟩
   symm
   refine B7 (A9 (by simp)) λt3 H3 aW e3 h3=>?_;have a3:=e2.trans e3;exact k _ _ 0 H3 (ExtBut.same e1 a3) (a4.same a3) (.fin a9) (Is.of_tup (SqT.of h3) (.cons Gu (.one (a2.nm_fz e3.fz))))
 obtain⟨Z,hy,O⟩:=T3 hp;have Y:=Y0 q.nd hp;obtain⟨qa,qx,rfl,a8,aQ⟩:=Is.tup aK;obtain⟨pv,q1,rfl,aJ,_⟩:=B2 aQ;obtain⟨pa,px,rfl,a7,aO⟩:=Is.tup aJ;have aP:=IsL.str_eq (ns:=[p.1,p.2]) aO;subst aP
 symm
 refine Ll (λz=>by cases z) (λ_=>?_)
 symm
 refine Cc a8 (show atI (V.ref pa :: q1) ((0:Nat):Int)=some (.ref pa) from Fd rfl) ?_
 symm
 refine Cc a7 (show atI _ 0=some (.str p.1) from rfl) ?_
 symm
 refine Cc a8 (show atI (V.ref pa :: q1) ((0:Nat):Int)=some (.ref pa) from Fd rfl) ?_
 symm
 refine Cc a7 (show atI _ 1=some (.str p.2) from rfl) ?_;have aV:=Sr q Z hy Y;obtain⟨aY,aZ⟩:=(Yc q Z hy Y).mpr O
 have aA:¬ Way ps p.2 p.1:=λz=>by have:=wayB_iff.mpr z;unfold unB at O;rw[this] at O;simp at O
 have aB:¬ Way ps p.1 p.2:=λz=>by have:=wayB_iff.mpr z;unfold unB at O;rw[this] at O;simp at O
 obtain⟨b1,l1,w1⟩:=(q.said Z hy Y aA ∅).ba10 U;obtain⟨b2,l2,w2⟩:=(q.said hy Z (Ne.symm Y) aB ∅).ba10 U;have c1:Ab (baP ns (ps++[(p.1,p.2)]))=Ab (ps++[(p.1,p.2)]):=funext λa=>funext λb=>Oi (w1 a b);have c2:Ab (baP ns (ps++[(p.2,p.1)]))=Ab (ps++[(p.2,p.1)]):=funext λa=>funext λb=>Oi (w2 a b)
 symm
 refine⟨v,p.1,p.2,ns,ps,rfl,a1,q,by omega,Z,hy,Y,aA,λu2 H2 e2 a2=>?_⟩;have a5:=a4.same e2
 symm
 refine⟨u2,ns,_,rfl,a2,b1,U,l1,by rw[c1];omega,a5,λu3 D1 m1 H3 e3 aL p1 aG=>?_⟩;have aD:=aS2 a5 e3;have aF:=(a1.hf_fz e2.fz).hf_fz aD
 symm
 refine⟨v,p.2,p.1,ns,ps,rfl,aF,q,by omega,hy,Z,Ne.symm Y,aB,λu4 H4 e4 aH=>?_⟩;have a6:=aL.same e4
 symm
 refine⟨u4,ns,_,rfl,aH,b2,U,l2,by rw[c2];omega,a6,λu5 D2 m2 H5 e5 aM p2 aI=>?_⟩;have aE:=aS2 a6 e5
 symm
 refine B7 (A9 (by simp)) λt6 H6 aX e6 h6=>?_;have q1:=p1.congr c1;have q2:=p2.congr c2;refine k _ _ _ H6 (((ExtBut.same e1 e2).trans e3).same e4 |>.trans e5 |>.same e6) (aM.same e6) (.ask hp aN q1 q2) (Is.of_tup (SqT.of h6) (.cons Gu (.cons Gu (.cons Gu (.cons ?_ (.one ?_))))))
 . exact Is.fz ((e4.fz.trans aE).trans e6.fz) _ _ (Cy (q1.p q.nd)) aG
 exact Is.fz e6.fz _ _ (Cy (q2.p q.nd)) aI
theorem Sb {f:Addr}{fd:FuncData}(F:Fun K "planned_on" "planned_on" Cp f fd)(T:Eo mg){q:Addr}(Qk:Fnd P w K mg base 5 "said" ["half","name","other"] (Sv K))(Hs:Fnd P w K mg base 26 "order_of" ["half","number"] (Il K))(Ui:Fnd P w K mg base 16 "best" ["half"] (Sa q K))(hm:mg "planned_on" = some (.ref f))(J:W.keepIn K (.ref f)=true)(hb:Binds K fd ["half"] []):FnOk P w K mg base CX0 152 f fd ["half"] (Ij q K):=by
 have h:∀ n:Nat,FnOk P w K mg base CX0 (27+n) f fd ["half"] (Df q K n):=λn=>by
  induction n with
  |zero=>exact FnOk.void Ko
  |succ n ih=>exact Pu F T Qk Hs Ui n ⟨f,fd,ih,hm,J,hb⟩
 exact h 125
def M0 (P:Addr)(K:W.Frag):Sp:=λvs H Q _=>∃ v ns ps,vs=[v]/\Is K H (hfD ns ps) v/\HalfW ns ps/\ns.length<=10/\ps.length<=60/\cnt (Ab ps) ns<=125/\LmT P H/\∀ u D m H',ExtBut P H H'->LmT P H'->PlanB ns ps D m->Is K H' D u->Q u H'
theorem Z3 {f:Addr}{fd:FuncData}(F:Fun K "planned" "planned" Hu f fd)(T:Eo mg){O:Addr}(Wg:Fnd P w K mg base 14 "count" ["half"] (Rf K))(Du:Fnd P w K mg base 152 "planned_on" ["half"] (Ij O K)):FnOk P w K mg base CX0 153 f fd ["half"] (M0 O K):=by
 refine F.ok Z8 (λvs H Q E h=>?_) (λa4 A outer s H vs Q E q h=>?_)
 . obtain⟨v,ns,ps,rfl,_⟩:=h;rfl
 obtain⟨v,ns,ps,rfl,Y,Z,U,a0,a3,hT,k⟩:=h;have hu:=Bf q;have hq:=Be q
 with_reducible refine⟨_,(A3 (Cj (Ak a03 (Ao Wg (q.mono nofun) ⋯ (A1 (pv 0) A2)) (aU8 ⋯ T.g_MOST_LISTED) (Aw _)) (A7 L4) Ay)
  (A7 (An (Ao Du (q.mono nofun) ⋯ (A1 (pv 0) A2))))),?_⟩
 symm
 refine⟨v,ns,ps,rfl,Y,Z.c,U,λH1 J=>?_⟩
 symm
 refine Ll (λhc=>absurd hc ∅) (λ_=>?_)
 symm
 exact⟨v,ns,ps,rfl,Y.hf_fz J.fz,Z,U,a0,a3,hT.same J,λu D m H2 e2 a2 hB a1=>k u D m H2 (λb o hb z=>e2 _ _ hb (J _ _ z)) a2 hB a1⟩
inductive PlanN:PyData->Nat->Nat->Nat->Prop
 |fin {row:List Str}:PlanN (aE1 row) 0 1 0
 |ask {x y:Str} {D1 D2:PyData} {m1 c1 s1 m2 c2 s2:Nat} (p1:PlanN D1 m1 c1 s1) (p2:PlanN D2 m2 c2 s2):PlanN (aP0 x y D1 D2) (1+max m1 m2) (c1+c2) (s1+c1+(s2+c2))
theorem aG8 {ns:List Str}{ps:List (Str×Str)}{D:PyData}{m:Nat}(p:PlanP ns ps D m):HalfW ns ps->ps.length+m<=900->∃ s,PlanN D m (cnt (Ab ps) ns) s:=by
 induction p with
 |@fin ps row he=>
   intro _ _;have:cnt (Ab ps) ns=1:=by unfold L2.cnt;rw[he];rfl
   rw[this];exact⟨0,.fin⟩
 |@ask ps x y D1 D2 m1 m2 hx hy hxy hu _ _ i1 i2=>intro h J;obtain⟨O,q⟩:=i1 (h.saidP ∅ hx hy hxy hu) (by rw[A06,A14];omega);obtain⟨s2,F⟩:=i2 (h.saidP ∅ hy hx (Ne.symm hxy) (Ma hu)) (by rw[A06,A14];omega);rw[<- Sr h hx hy hxy];exact⟨_,.ask q F⟩
theorem PlanN.frz {D:PyData}{m c s:Nat}(p:PlanN D m c s):frz D=true:=by
 induction p with
 |fin=>simp[aE1,L2.frz,L2.frzL,L8]
 |ask _ _ i1 i2=>simp[aP0,L2.frz,L2.frzL,i1,i2]
theorem PlanN.pos {D:PyData}{m c s:Nat}(p:PlanN D m c s):1<=c:=by
 induction p with
 |fin=>exact A08 _
 |ask _ _ i1 i2=>omega
theorem PlanN.pow {D:PyData}{m c s:Nat}(p:PlanN D m c s):c<=2 ^ m:=by
 induction p with
 |fin=>exact A08 _
 |@ask _ _ _ _ m1 _ _ m2 _ _ _ _ i1 i2=>have h1:2 ^ m1<=2 ^ max m1 m2:=A28 nofun (Nat.le_max_left ..);have h2:2 ^ m2<=2 ^ max m1 m2:=A28 nofun (Nat.le_max_right ..);rw[Nat.add_comm 1,A4W];omega
theorem PlanN.sum {D:PyData}{m c s:Nat}(p:PlanN D m c s):s<=c*m:=by
 induction p with
 |fin=>exact A08 _
 |@ask _ _ _ _ m1 c1 _ m2 c2 _ _ _ i1 i2=>have h1:c1*m1<=c1*max m1 m2:=A46 _ (Nat.le_max_left ..);have h2:c2*m2<=c2*max m1 m2:=A46 _ (Nat.le_max_right ..);rw[A47,Nat.mul_one,A2D];omega
def Dg (K:W.Frag)(n:Nat):Sp:=λvs H Q _=>∃ v D,∃ m c s k:Nat,vs=[v,.int ((k:Nat):Int)]/\Is K H D v/\PlanN D m c s/\m<n/\∀ H',Same H H'->Q (.int ((s+k*c:Nat):Int)) H'
def Iq (K:W.Frag):Sp:=Dg K 125
theorem Kr {K:W.Frag}:∀ vs H Q E,¬ Dg K 0 vs H Q E:=by rintro vs H Q E ⟨v,D,m,c,s,k,_,_,_,h,_⟩;omega
def T6 (K:W.Frag):Sp:=λvs H Q _=>∃ v D,∃ m c s:Nat,vs=[v]/\Is K H D v/\PlanN D m c s/\m<125/\∀ H',Same H H'->Q (.int ((s:Nat):Int)) H'
theorem Qb {f:Addr}{fd:FuncData}(F:Fun K "steps_from" "steps_from" Cq f fd)(T:Eo mg)(n:Nat)(Dw:Fnd P w K mg base (1+n) "steps_from" ["plan","askings"] (Dg K n)):FnOk P w K mg base CX0 (1+n+1) f fd ["plan","askings"] (Dg K (n+1)):=by
 refine F.ok Rx (λvs H Q E h=>?_) (λa0 A outer s H vs Q E O h=>?_)
 . obtain⟨v,D,m,c,s,k,rfl,_⟩:=h;rfl
 obtain⟨v,D,m,c,sm,J,rfl,Y,hP,hm,k⟩:=h;have hu:=Bf O;have hq:=Be O
 with_reducible refine⟨_,(A3 (Cj (Ak (Cn (K:=K) hq) (Ad (A6 (K:=K) hu) (pv 0) A5 (by ac_rfl)) B0 (Aw _)) (A7 (An (pv 1))) Ay)
  (A7 (An (Ap (Al (K:=K)) (Ao Dw (O.mono ∅) ⋯ (A1 (Ad (A6 (K:=K) hu) (pv 0) A5 (by ac_rfl)) (A1 (Ap (Al (K:=K)) (pv 1) A5) A2))) (Ao Dw (O.mono ∅) ⋯ (A1 (Ad (A6 (K:=K) hu) (pv 0) A5 (by ac_rfl)) (A1 (Ap (Al (K:=K)) (pv 1) A5) A2))))))),?_⟩
 symm
 cases hP with
 |@fin row=>
   obtain⟨a,rv,rfl,q,_⟩:=Uh Y;refine Cc q (by rfl) ?_
   symm
   have:=k H (.refl _);rw[Nat.zero_add,Nat.mul_one] at this;exact this
 |@ask x y D1 D2 m1 c1 s1 m2 c2 s2 p1 p2=>
   obtain⟨a,d,e,rfl,q,hd,he⟩:=Qg Y;refine Cc q (by rfl) ?_
   symm
   rw[A0P (by intro z;have:=V.str.inj (A36 z);exact absurd this nofun)]
   symm
   refine Cc q (by rfl) ?_
   symm
   refine⟨d,D1,m1,c1,s1,J+1,by push_cast;rfl,hd,p1,by omega,λH1 U=>?_⟩
   symm
   refine Cc (U.seqT q) (by rfl) ?_
   symm
   refine⟨e,D2,m2,c2,s2,J+1,by push_cast;rfl,Is.mono U _ _ he,p2,by omega,λH2 Z=>?_⟩
   symm
   have hv:((s1+(J+1)*c1:Nat):Int)+((s2+(J+1)*c2:Nat):Int)=((s1+c1+(s2+c2)+J*(c1+c2):Nat):Int):=by rw[<- A45];congr 1;rw[A2D,A2D,A47];omega
   rw[hv];exact k H2 (U.trans Z)
theorem Rr {f:Addr}{fd:FuncData}(F:Fun K "steps_from" "steps_from" Cq f fd)(T:Eo mg)(hm:mg "steps_from" = some (.ref f))(q:W.keepIn K (.ref f)=true)(hb:Binds K fd ["plan","askings"] []):FnOk P w K mg base CX0 126 f fd ["plan","askings"] (Iq K):=by
 have h:∀ n:Nat,FnOk P w K mg base CX0 (1+n) f fd ["plan","askings"] (Dg K n):=λn=>by
  induction n with
  |zero=>exact FnOk.void Kr
  |succ n ih=>exact Qb F T n ⟨f,fd,ih,hm,q,hb⟩
 exact h 125
theorem ak4 {f:Addr}{fd:FuncData}(F:Fun K "steps" "steps" Lw f fd)(T:Eo mg)(Dw:Fnd P w K mg base 126 "steps_from" ["plan","askings"] (Iq K)):FnOk P w K mg base CX0 127 f fd ["plan"] (T6 K):=by
 refine F.ok am1 (λvs H Q E h=>?_) (λY A outer s H vs Q E q h=>?_)
 . obtain⟨v,D,m,c,s,rfl,_⟩:=h;rfl
 obtain⟨v,D,m,c,sm,rfl,O,U,hm,k⟩:=h;have hu:=Bf q;have Z:=Be q
 with_reducible refine⟨_,(A7 (An (Ao Dw (q.mono nofun) ⋯ (A1 (pv 0) (A1 A5 A2))))),?_⟩
 symm
 refine⟨v,D,m,c,sm,0,rfl,O,U,hm,λH1 J=>?_⟩;rw[A4Y,Nat.add_zero];exact k H1 J
structure ItW where
 D:PyData
 m:Nat
 c:Nat
 s:Nat
 k:Nat
def itD (i:ItW):PyData:=.tuple [i.D,.int ((i.k:Nat):Int)]
def itC (st:List ItW):Nat:=(st.map (·.c)).sum
def itS (st:List ItW):Nat:=(st.map λi=>i.s+i.k*i.c).sum
structure EndW (m c s:Nat)(ns:List Nat)(st:List ItW):Prop where
 pl:∀ i∈st,PlanN i.D i.m i.c i.s
 cn:ns.length+itC st=c
 sm:ns.sum+itS st=s
 le:∀ x∈ns,x<=m
 lk:∀ i∈st,i.m+i.k<=m
 at':m∈ns\/∃ i∈st,i.m+i.k=m
theorem Oc (a b:List ItW):itC (a++b)=itC a+itC b:=by unfold itC;rw[List.map_append,List.sum_append_nat]
theorem a71 (a b:List ItW):itS (a++b)=itS a+itS b:=by unfold itS;rw[List.map_append,List.sum_append_nat]
theorem a63 {st:List ItW}(h:∀ i∈st,1<=i.c):st.length<=itC st:=by
 induction st with
 |nil=>exact A08 _
 |cons a r ih=>have h1:=h a (by simp);have h2:=ih λi hi=>h i (by simp[hi]);unfold itC at h2 ⊢;rw[A0H,A1F,A0G];omega
theorem Yj:∀ {st:List ItW},(∀ i∈st,PlanN i.D i.m i.c i.s)->frzL (st.map itD)=true
 | [],_=>rfl
 |a :: r,h=>by have h1:=(h a (by simp)).frz;have h2:=Yj (st:=r) λi hi=>h i (by simp[hi]);simp only[List.map_cons,frzL,h2,itD,L2.frz,L2.frzL,h1];rfl
def Ja (K:W.Frag):Sp:=λvs H Q _=>∃ v D,∃ m c s:Nat,vs=[v]/\Is K H D v/\PlanN D m c s/\c<=1000/\∀ l H',∀ ns:List Nat,Same H H'->H' l=some (.lst (ns.map λn=>V.int ((n:Nat):Int)))->ns.length=c->ns.sum=s->(∀ x∈ns,x<=m)->m∈ns->Q (.ref l) H'
theorem ad9 {K:W.Frag}{H:Hp}{ds:List PyData}{d:PyData}:∀ {vs:List V},IsL K H (ds++[d]) vs->∃ us v,vs=us++[v]/\IsL K H ds us/\Is K H d v:=by
 induction ds with
 |nil=>
   intro vs h;obtain⟨v,r,rfl,h1,h2⟩:=B2 h;have:r=[]:=by simpa only[L2.IsL] using h2
   subst this;exact⟨[],v,rfl,.nil,h1⟩
 |cons a ds ih=>intro vs h;obtain⟨v,r,rfl,h1,h2⟩:=B2 h;obtain⟨us,w,rfl,q,F⟩:=ih h2;exact⟨v :: us,w,rfl,.cons h1 q,F⟩
theorem Uz {f:Addr}{fd:FuncData}(F:Fun K "_law_ends" "_law_ends" Fi f fd)(T:Eo mg):FnOk P w K mg base CX0 1 f fd ["_law_plan_here"] (Ja K):=by
 refine F.ok Fo (λvs H Q E h=>?_) (λb3 A outer s H vs Q E hr h=>?_)
 . obtain⟨v,D,m,c,s,rfl,_⟩:=h;rfl
 obtain⟨v,D,m,c,sm,rfl,hI,hP,hc,k⟩:=h;have hu:=Bf hr;have hq:=Be hr
 with_reducible refine⟨_,(A3 (Aa (i:=1) Fo.nd ⋯ (by eq_refl) (Bv A2))
  (A3 (Aa (i:=2) Fo.nd ⋯ (by eq_refl) (Bv (A1 (B6 (A1 (pv 0) (A1 A5 A2))) A2)))
  (A3 (R9 A0V (Ak (Xd (K:=K) hq) (pv 2) (Bv A2) (Aw _))
  (A3 (a81 (ad6 (K:=K) A17 A4Z A50 (mm aJ8) (pv 2)) (Lm (K:=K) (n:=2) ⋯ (Dh (Ag (i:=3) Fo.nd ⋯ (by eq_refl)) (Dh (Ag (i:=4) Fo.nd ⋯ (by eq_refl)) Lp))))
  (A7 (Cj (Ak (Cn (K:=K) hq) (Ad (A6 (K:=K) hu) (pv 3) A5 (by ac_rfl)) B0 (Aw _)) (A7 (Dd (G3 (K:=K) A17 A26 A27 (mm Gw) (pv 1) (A1 (pv 4) A2)))) (A7 (Dd (G3 (K:=K) A17 A2Q A2R (mm Jh) (pv 2) (A1 (Bv (A1 (B6 (A1 (Ad (A6 (K:=K) hu) (pv 3) A5 (by ac_rfl)) (A1 (Ap (Al (K:=K)) (pv 4) A5) A2))) (A1 (B6 (A1 (Ad (A6 (K:=K) hu) (pv 3) A5 (by ac_rfl)) (A1 (Ap (Al (K:=K)) (pv 4) A5) A2))) A2))) A2))))))))
  (A7 (An (pv 1)))))),?_⟩
 symm
 refine Bu (A9 (by simp)) λf1 H1 aW e1 h1=>?_
 symm
 refine B7 (A9 (by simp)) λt2 H2 b8 e2 h2=>?_
 symm
 refine Bu (A9 (by simp)) λl3 H3 aL e3 h3=>?_;have aC:=(e1.trans e2).trans e3;have aK:H l3=none:=(e1.trans e2).free aL;have a9:f1≠l3:=ne_of_none (e2 _ _ h1) aL
 symm
 refine Wd (λmm σ H'=>∃ ns st ys x3 x4,σ=[some v,some (.ref f1),some (.ref l3),x3,x4]/\Same H H'/\H' f1=some (.lst (ns.map λn:Nat=>V.int ((n:Nat):Int)))/\H' l3=some (.lst ys)/\IsL K H' (st.map itD) ys/\EndW m c sm ns st/\mm=2*itC st-st.length) (2*c-1)
  ⟨[],[⟨D,m,c,sm,0⟩],[.ref t2],_,_,rfl,aC,e3 _ _ (e2 _ _ h1),h3,.one (Is.of_tup (SqT.of (e3 _ _ h2)) (.cons (Is.mono aC _ _ hI) (.one L3))),⟨λi hi=>by rw[List.mem_singleton.mp hi];exact hP,by simp[itC],by simp[itS],by simp,λi hi=>by rw[List.mem_singleton.mp hi];simp,.inr ⟨_,List.mem_singleton.mpr rfl,by simp⟩⟩,by simp[itC]⟩ (λmm σ' H4 hW=>?_)
 obtain⟨ns,st,ys,x3,x4,rfl,e4,aE,a6,a2,O,rfl⟩:=hW;have aH:=a63 λi hi=>(O.pl i hi).pos;have aB:=IsL.length a2;rw[A01] at aB;have aI:=O.cn
 symm
 refine Bu nofun λt5 H5 b9 U h5=>?_;refine a86 (SqL.of (U _ _ a6)) (SqL.of h5) ?_
 symm
 refine T5 (λhB=>?_) (λhB=>?_)
 . have aY:st≠[]:=λz=>by
    subst z;have:ys=[]:=List.length_eq_zero_iff.mp (by simpa using aB.symm);rw[this] at hB
    cases hB
   obtain⟨st',it,rfl⟩:∃ a b,st=a++[b]:=by
    rcases List.eq_nil_or_concat st with q|⟨a,b,q⟩
    . exact absurd q aY
    exact⟨a,b,by rw[q,List.concat_eq_append]⟩
   rw[A0T] at a2;obtain⟨aT,y,rfl,aF,hy⟩:=ad9 a2;refine a85 ?_
   symm
   refine aK2 (U _ _ a6) λH6 e6 h6=>?_;have aS:Same H H6:=(e4.trans U).off aK e6;have aD:Fz H4 H6:=U.fz.trans (e6.fzL (U _ _ a6));have a7:=e6 _ _ a9 (U _ _ aE);have a4:=O.pl it (by simp);have aX:frz (itD it)=true:=by simp[itD,L2.frz,L2.frzL,a4.frz]
   obtain⟨ya,yx,rfl,b0,aR⟩:=Is.tup (Is.fz aD _ _ aX hy);obtain⟨dv,r1,rfl,a3,aP⟩:=B2 aR;obtain⟨kv,r2,rfl,aJ,aQ⟩:=B2 aP;have z2:r2=[]:=by simpa only[L2.IsL] using aQ
   have z3:kv = .int ((it.k:Nat):Int):=by simpa only[Is] using aJ
   subst z2 z3;have a0:∀ i∈st',PlanN i.D i.m i.c i.s:=λi hi=>O.pl i (by simp[hi]);have a8:=IsL.fz aD _ _ (Yj a0) aF;have b4:=a63 λi hi=>(a0 i hi).pos;have aA:=O.sm;have aM:=O.le;have aO:∀ i∈st',i.m+i.k<=m:=λi hi=>O.lk i (by simp[hi]);have aN:=O.lk it (by simp);have aG:=O.at';rw[Oc] at aI aH;rw[a71] at aA;clear O a2 aF hy aR aP aQ aJ;obtain⟨D',m',c',s',J⟩:=it;replace a4:PlanN D' m' c' s':=a4;replace a3:Is K H6 D' dv:=a3;replace aN:m'+J<=m:=aN;have aU:itC [⟨D',m',c',s',J⟩]=c':=by simp[itC]
   have b1:itS [⟨D',m',c',s',J⟩]=s'+J*c':=by simp[itS]
   rw[aU] at aI aH;rw[b1] at aA
   have b7:st'.length+1=aT.length+1:=by have:=IsL.length a8;rw[A01] at this;omega
   refine Xy b0 ?_
   symm
   cases a4 with
   |@fin row=>
     obtain⟨a,rv,rfl,hA,_⟩:=Uh a3;refine Cc hA (by rfl) ?_
     symm
     refine R0 a7 (by rw[A01];omega) λH7 Z h7=>?_
     symm
     refine⟨2*itC st'-st'.length,by rw[Oc,A06];show _<2*(itC st'+1)-(st'.length+1);omega,ns++[J],st',aT,_,_,rfl,aS.off aW Z,by rw[h7,A0T];rfl,Z _ _ (Ne.symm a9) h6,IsL.fz (Z.fzL a7) _ _ (Yj a0) a8,⟨a0,by rw[A06,A14];omega,by rw[List.sum_append_nat,List.sum_singleton];omega,λx hx=>?_,aO,?_⟩,rfl⟩
     . rcases A0A.mp hx with q|q
       . exact aM x q
       rw[A0K.mp q];omega
     rcases aG with q|⟨i,hi,q⟩
     . exact .inl (A0L _ q)
     rcases A0A.mp hi with z|z
     . exact .inr ⟨i,z,q⟩
     rw[A0K.mp z] at q;replace q:0+J=m:=q;exact .inl (List.mem_append_right _ (by simp;omega))
   |@ask x y D1 D2 m1 c1 s1 m2 c2 s2 p1 p2=>
     obtain⟨a,d,e,rfl,hA,hd,he⟩:=Qg a3;have b5:=p1.pos;have b6:=p2.pos;refine Cc hA (by rfl) ?_
     symm
     rw[A0P (by intro z;have:=V.str.inj (A36 z);exact absurd this nofun)]
     symm
     refine Cc hA (by rfl) ?_
     symm
     refine B7 (A9 (by simp)) λt7 H7 bA Z h7=>?_
     symm
     refine Cc (Z.seqT hA) (by rfl) ?_
     symm
     refine B7 (A9 (by simp)) λt8 H8 bB e8 h8=>?_
     symm
     refine Bu (A9 (by simp)) λt9 H9 bC e9 h9=>?_;have Y:=(Z.trans e8).trans e9
     symm
     refine Uc (Y _ _ h6) h9 (by simp;omega) λb2 a5 aV=>?_;have a1:=a5.fzL (Y _ _ h6)
     symm
     refine⟨2*(itC st'+(c1+c2))-(st'.length+2),by rw[Oc,A06];show _<2*(itC st'+(c1+c2+0))-(st'.length+1);omega,ns,st'++[⟨D1,m1,c1,s1,J+1⟩,⟨D2,m2,c2,s2,J+1⟩],_,_,_,rfl,(aS.trans Y).off aK a5,a5 _ _ a9 (Y _ _ a7),aV,?_,⟨λi hi=>?_,?_,?_,aM,λi hi=>?_,?_⟩,?_⟩
     . rw[A0T];refine IsL.append (IsL.fz (Y.fz.trans a1) _ _ (Yj a0) a8) (.cons ?_ (.one ?_))
       . exact Is.of_tup (a1.seq (SqT.of (e9 _ _ (e8 _ _ h7)))) (.cons (Is.fz (Y.fz.trans a1) _ _ p1.frz hd) (.one (by show Is K _ (.int _) _;push_cast;exact L3)))
       exact Is.of_tup (a1.seq (SqT.of (e9 _ _ h8))) (.cons (Is.fz (Y.fz.trans a1) _ _ p2.frz he) (.one (by show Is K _ (.int _) _;push_cast;exact L3)))
     . rcases A0A.mp hi with q|q
       . exact a0 i q
       simp only[List.mem_cons,List.not_mem_nil,or_false] at q;rcases q with rfl|rfl
       . exact p1
       exact p2
     . rw[Oc,show itC [⟨D1,m1,c1,s1,J+1⟩,⟨D2,m2,c2,s2,J+1⟩]=c1+c2 by simp[itC]];omega
     . rw[a71,show itS [⟨D1,m1,c1,s1,J+1⟩,⟨D2,m2,c2,s2,J+1⟩]=s1+(J+1)*c1+(s2+(J+1)*c2) by simp[itS]];rw[A47] at aA;rw[A2D,A2D];omega
     . rcases A0A.mp hi with q|q
       . exact aO i q
       simp only[List.mem_cons,List.not_mem_nil,or_false] at q;rcases q with rfl|rfl
       . show m1+(J+1)<=m;omega
       show m2+(J+1)<=m;omega
     . rcases aG with q|⟨i,hi,q⟩
       . exact .inl q
       rcases A0A.mp hi with z|z
       . exact .inr ⟨i,A0L _ z,q⟩
       rw[A0K.mp z] at q;replace q:1+max m1 m2+J=m:=q;rcases(show m1+(J+1)=m\/m2+(J+1)=m by omega) with w|w
       . exact .inr ⟨⟨D1,m1,c1,s1,J+1⟩,by simp,w⟩
       exact .inr ⟨⟨D2,m2,c2,s2,J+1⟩,by simp,w⟩
     rw[Oc,show itC [⟨D1,m1,c1,s1,J+1⟩,⟨D2,m2,c2,s2,J+1⟩]=c1+c2 by simp[itC],List.length_append];rfl
 have aZ:st=[]:=by
  cases ys with
  |nil=>exact List.length_eq_zero_iff.mp (by simpa using aB)
  |cons _ _=>cases hB
 subst aZ;have h1:=O.cn;have h2:=O.sm;simp only[itC,itS,List.map_nil,List.sum_nil,Nat.add_zero] at h1 h2
 symm
 refine k f1 H5 ns (e4.trans U) (U _ _ aE) h1 h2 O.le ?_;rcases O.at' with q|⟨i,hi,_⟩
 . exact q
 cases hi
theorem ai7 (i:Int):(PyData.int i).shown=Str.ofString (toString i):=by first | rfl | simp only[PyData.shown]
theorem av0 {n:Nat}(h:n<2 ^ 30):((n:Nat):Int).natAbs.log2<1920:=by
 rw[Int.natAbs_natCast];rcases A5K n with z|z
 . rw[z];decide
 exact(Nat.log2_lt ∅).mpr (A18 h (A28 (A42 1) (Nat.le_of_ble_eq_true rfl)))
def Iw (P:Addr)(K:W.Frag):Sp:=λvs H Q _=>∃ q v ns ps D m,vs=[q,v,.int ((cnt (Ab ps) ns:Nat):Int)]/\Is K H (hfD ns ps) q/\HalfW ns ps/\(∀ z∈ns,Z5 z=true)/\ns.length<=10/\ps.length<=60/\PlanP ns ps D m/\Is K H D v/\cnt (Ab ps) ns<=125/\LmR P H/\∀ H',ExtBut P H H'->LmR P H'->Q (.bl true) H'
theorem fz_R {P:Addr}{H H':Hp}(q:LmR P H)(e:ExtBut P H H'):Fz H H':=by obtain⟨ps,F⟩:=Fx q;exact Ue e F
theorem Rh {f:Addr}{fd:FuncData}(F:Fun K "_law_right" "_law_right" Dz f fd)(T:Eo mg){a1:Addr}(Wh:Fnd P w K mg base 127 "steps" ["plan"] (T6 K))(Kd:Fnd P w K mg base 130 "lets_plan" ["half","plan"] (Ji a1 K))(Ke:Fnd P w K mg base 1 "_law_ends" ["_law_plan_here"] (Ja K)):FnOk P w K mg base CX0 131 f fd ["_law_half_here","_law_plan_here","_law_many"] (Iw a1 K):=by
 refine F.ok J0 (λvs H Q E h=>?_) (λaJ A outer s H vs Q E J h=>?_)
 . obtain⟨hv,v,ns,ps,D,m,rfl,_⟩:=h;rfl
 obtain⟨hv,v,ns,ps,D,m,rfl,hI,hW,a9,a2,aL,hP,hD,aC,hT,k⟩:=h;have hu:=Bf J;have Z:=Be J;have a7:=hP.le45 a2;obtain⟨sm,U⟩:=aG8 hP hW ∅;have aN:=U.sum;have aG:=U.pow;have hb:cnt (Ab ps) ns*m<=125*45:=A29 aC a7;generalize aM:cnt (Ab ps) ns=cc at *
 with_reducible refine⟨_,(A3 (Aa (i:=3) J0.nd ⋯ (by eq_refl) (Ao Ke (J.mono nofun) ⋯ (A1 (pv 1) A2)))
  (A3 (Cj (PW.pt (an4 (Ak (Qi (K:=K) Z) (Aq (X6 (K:=K) Z) ⋯ T.b_repr PyProof.Rows.Boot.«repr» (A1 (Ao Wh (J.mono nofun) ⋯ (A1 (pv 1) A2)) A2)) (B1 Vx ⋯ T.b_str PyProof.Rows.Boot.«str» (A1 (Aq (Ky (K:=K) ⋯) ⋯ T.b_sum PyProof.Rows.Boot.«sum» (A1 (pv 3) A2)) A2)) (Aw _)) (Yk (Ak (Qi (K:=K) Z) (Aq (B8 (K:=K)) ⋯ T.b_len PyProof.Rows.Boot.«len» (A1 (pv 3) A2)) (pv 2) (Aw _))))) (A7 (An Z0)) Ay)
  (A3 (Aa (i:=4) J0.nd ⋯ (by eq_refl) (Ao Kd (J.mono nofun) ⋯ (A1 (pv 0) (A1 (pv 1) A2))))
  (A7 (An (Ku (Fl (Cn (K:=K) Z) (pv 4) (Aq (Zv (K:=K) ⋯) ⋯ T.b_max PyProof.Rows.Boot.«max» (A1 (pv 3) A2)) (Aw _)) (R5 (Fl aN0 (Ap aG5 A5 (pv 4)) (pv 2) (Aw _))))))))),?_⟩
 symm
 refine⟨v,D,m,cc,sm,rfl,hD,U,by omega,λl H1 es e1 h1 a5 a6 a0 Y=>?_⟩;have a8:=Is.mono e1 _ _ hD
 symm
 refine⟨v,D,m,cc,sm,rfl,a8,U,by omega,λH2 O=>?_⟩;obtain⟨i1,i2,i3⟩:=(aM7 (p:=1) (W:=1) (m:=(sm:Int)) ∅).told ∅ ∅
 symm
 refine av9 (d:=.int (sm:Int)) L3 i1 i2 i3 ?_
 symm
 have a4:∀ n∈es.map (λn:Nat=>(n:Int)),0<=n/\n<=1000000000000:=λn hn=>by obtain⟨z,hz,rfl⟩:=A0I.mp hn;have:=a0 z hz;omega
 have a3:SqL K H2 l ((es.map λn:Nat=>(n:Int)).map V.int):=SqL.of (by rw[A19];exact O _ _ h1)
 have aD:(es.map λn:Nat=>(n:Int)).sum=((sm:Nat):Int):=by
  rw[<- a6];clear a6 a0 Y a5 h1 a4 a3
  induction es with
  |nil=>rfl
  |cons a r ih=>rw[A0H,A1F,A1F,ih,A45]
 refine ap2 (.inl a3) a4 (by rw[A01];omega) ?_;rw[aD]
 symm
 refine⟨_,rfl,av0 ∅,?_⟩
 symm
 rw[ai7,if_neg (by simp)]
 symm
 rw[List.length_map,a5,if_neg (by simp)];have q:=e1.trans O
 symm
 refine⟨hv,v,ns,ps,D,m,rfl,hI.hf_fz q.fz,hW,a9,a2,hP,Is.mono q _ _ hD,by omega,by omega,hT.same q,λH3 e3 aB=>?_⟩;have aK:=fz_R (hT.same q) e3;obtain⟨tps,aH⟩:=Fx (hT.same q);have h3:=e3 _ _ (ne_of (O _ _ h1) aH (by intro z;cases z)) (O _ _ h1);have aA:SqL K H3 l ((es.map λn:Nat=>(n:Int)).map V.int):=SqL.of (by rw[A19];exact h3)
 symm
 refine aM4 aA (λz=>?_) (λM hM aF=>?_)
 . have:=List.map_eq_nil_iff.mp z;rw[this] at Y
   cases Y
 obtain⟨y,hy,rfl⟩:=A0I.mp hM
 have aI:y=m:=by have h1:=a0 y hy;have h2:=aF _ (A0I.mpr ⟨m,Y,rfl⟩);omega
 subst aI
 symm
 have aE:decide ((cc:Int)<=1*2 ^ ((y:Nat):Int).toNat)=true:=by
  rw[decide_eq_true_eq,Int.one_mul,A4G]
  exact_mod_cast aG
 rw[aE];exact k H3 (λb o hb z=>e3 _ _ hb (q _ _ z)) aB
def spLaw (P P':Addr)(K:W.Frag):Sp:=λvs H Q _=>∃(a:Addr) (ns:List Int),vs=[.ref a]/\SqL K H a (ns.map V.int)/\ns.length<=63/\[P,P'].Nodup/\(∀ p∈[P,P'],H p=some (.tbl #[])\/False)/\∀ H',Q (.bl true) H'
structure Lm2 (P P':Addr)(H:Hp):Prop where
 b:LmT P H
 r:LmR P' H
 ne:P≠P'
theorem Lm2.same {P P':Addr}{H H':Hp}(h:Lm2 P P' H)(e:Same H H'):Lm2 P P' H':=⟨h.b.same e,h.r.same e,h.ne⟩
theorem Lm2.draw {P P' f l:Addr}{H H':Hp}(h:Lm2 P P' H)(q:Feed H f l)(e:ExtBut f H H'):Lm2 P P' H':=by obtain⟨_,_,_,_,h1,_⟩:=q;exact⟨LamT.but h.b e h1 (λ_ z=>by cases z) (λ_ z=>by cases z),LamT.but h.r e h1 (λ_ z=>by cases z) (λ_ z=>by cases z),h.ne⟩
theorem Lm2.list {P P' l:Addr}{H H':Hp}{xs:List V}(h:Lm2 P P' H)(h1:H l=some (.lst xs))(e:ExtBut l H H'):Lm2 P P' H':=
 ⟨LamT.but h.b e h1 (λ_ z=>by cases z) (λ_ z=>by cases z),LamT.but h.r e h1 (λ_ z=>by cases z) (λ_ z=>by cases z),h.ne⟩
theorem Lm2.goB {P P':Addr}{H H':Hp}(h:Lm2 P P' H)(e:ExtBut P H H')(h':LmT P H'):Lm2 P P' H':=⟨h',LamT.other h.r h.b h.ne e,h.ne⟩
theorem Lm2.goR {P P':Addr}{H H':Hp}(h:Lm2 P P' H)(e:ExtBut P' H H')(h':LmR P' H'):Lm2 P P' H':=⟨LamT.other h.b h.r (Ne.symm h.ne) e,h',h.ne⟩
def aN8 (P P':Addr)(H H':Hp):Prop:=∃ p,(p=P\/p=P')/\ExtBut p H H'
theorem Lm2.at {P P' p:Addr}{H:Hp}(h:Lm2 P P' H)(hp:p=P\/p=P'):∃ ps,H p=some (.tbl ps):=by
 rcases hp with rfl|rfl
 . exact Fx h.b
 exact Fx h.r
theorem Lm2.feed {P P' f l:Addr}{H H':Hp}(h:Lm2 P P' H)(U:Feed H f l)(b:aN8 P P' H H'):Feed H' f l:=by obtain⟨p,hp,e⟩:=b;obtain⟨ps,q⟩:=h.at hp;obtain⟨a,t,u,F,h1,h2,J,O⟩:=U;exact⟨a,t,u,F,e _ _ (ne_of h1 q (by intro z;cases z)) h1,e _ _ (ne_of h2 q (by intro z;cases z)) h2,J,O⟩
theorem Lm2.lst {P P' b:Addr}{H H':Hp}{xs:List V}(h:Lm2 P P' H)(hb:H b=some (.lst xs))(q:aN8 P P' H H'):H' b=some (.lst xs):=by obtain⟨p,hp,e⟩:=q;obtain⟨ps,F⟩:=h.at hp;exact e _ _ (ne_of hb F (by intro z;cases z)) hb
theorem Lm2.fz {P P':Addr}{H H':Hp}(h:Lm2 P P' H)(q:aN8 P P' H H'):Fz H H':=by obtain⟨p,hp,e⟩:=q;obtain⟨ps,F⟩:=h.at hp;exact Ue e F
theorem aP1 {f:Addr}{fd:FuncData}(F:Fun K "law" "law" Sl f fd)(T:Eo mg){Z:Addr}{a0:Addr}(Pa:Fnd P w K mg base 153 "planned" ["half"] (M0 Z K))(Ka:Fnd P w K mg base 1 "_law_feed" ["_law_script"] (Jf K))(Ev:Fnd P w K mg base 4 "_law_half" ["_law_feed_here","_law_most"] (He K))(Ig:Fnd P w K mg base 1 "_law_orders" ["_law_half_here"] (Hl K))(Jt:Fnd P w K mg base 5 "_law_few" ["_law_feed_here"] (Kl K))(Dl:Fnd P w K mg base 128 "_law_plan" ["_law_feed_here","_law_names_here","_law_orders_here"] (Jj K))(Jl:Fnd P w K mg base 131 "_law_right" ["_law_half_here","_law_plan_here","_law_many"] (Iw a0 K)):FnOk P w K mg base CX0 154 f fd ["_law_script"] (spLaw Z a0 K):=by
 refine F.ok Qs (λvs H Q E h=>?_) (λd5 A outer s H vs Q E U h=>?_)
 . obtain⟨a,ns,rfl,_⟩:=h;rfl
 obtain⟨a,cs,rfl,hS,cA,cS,bZ,k⟩:=h;have hu:=Bf U;have hq:=Be U;have hT:Lm2 Z a0 H:=⟨.inl ((bZ Z (by simp)).resolve_right id),.inl ((bZ a0 (by simp)).resolve_right id),by simpa using cS⟩
 with_reducible refine⟨_,(A3 (Aa (i:=1) Qs.nd ⋯ (by eq_refl) (Ao Ka (U.mono nofun) ⋯ (A1 (pv 0) A2)))
  (A3 (C4 A0V ⋯ (As (K:=K) hu (Bv (A1 (Ao Jt (U.mono nofun) ⋯ (A1 (pv 1) A2)) (A1 (Ao Jt (U.mono nofun) ⋯ (A1 (pv 1) A2)) (A1 (Ao Ev (U.mono nofun) ⋯ (A1 (pv 1) (A1 A5 A2))) A2))))) (Ag (i:=2) Qs.nd ⋯ (by eq_refl))
  (A3 (Aa (i:=3) Qs.nd ⋯ (by eq_refl) (Ao Ig (U.mono nofun) ⋯ (A1 (pv 2) A2)))
  (A3 (Aa (i:=4) Qs.nd ⋯ (by eq_refl) (Bv (A1 (Ao Dl (U.mono nofun) ⋯ (A1 (pv 1) (A1 (Ad (A6 (K:=K) hu) (pv 2) A5 (by ac_rfl)) (A1 (pv 3) A2)))) (A1 (Ao Dl (U.mono nofun) ⋯ (A1 (pv 1) (A1 (Ad (A6 (K:=K) hu) (pv 2) A5 (by ac_rfl)) (A1 (pv 3) A2)))) A2))))
  (A3 (Cj (Ak Zs (Aq (B8 (K:=K)) ⋯ T.b_len PyProof.Rows.Boot.«len» (A1 (pv 3) A2)) A5 (Aw _)) (A7 (Dd (G3 (K:=K) A17 A26 A27 (mm Gw) (pv 4) (A1 (Ao Pa (U.mono nofun) ⋯ (A1 (pv 2) A2)) A2)))) Ay)
  (A7 (C4 A0V ⋯ (As (K:=K) hu (pv 4)) (Ag (i:=5) Qs.nd ⋯ (by eq_refl))
  (A7 (Cj (W4 (Mm (Ao Jl (U.mono nofun) ⋯ (A1 (pv 2) (A1 (pv 5) (A1 (Aq (B8 (K:=K)) ⋯ T.b_len PyProof.Rows.Boot.«len» (A1 (pv 3) A2)) A2)))))) (A7 (An Z0)) Ay))))))))
  (A7 (An Z0)))),?_⟩
 symm
 refine⟨a,cs,rfl,hS,cA,λf l H1 hf hl e1 hF=>?_⟩;have bS:=hT.same e1
 symm
 refine⟨f,l,rfl,hF,λv0 cY d1 H2 e2 aJ bH bE=>?_⟩;have bU:=bS.draw hF e2
 symm
 refine⟨f,l,rfl,aJ,λv1 cZ d2 H3 e3 aK aL bF=>?_⟩;have bV:=bU.draw aJ e3
 symm
 refine⟨f,l,_,rfl,aK,by omega,by omega,λv2 c1 d3 H4 e4 bD aM bG cQ=>?_⟩;have bW:=bV.draw aK e4
 symm
 refine Bu (A9 (by simp)) λaN H5 d9 e5 h5=>?_;have cC:=bD.same e5;have cM:=bW.same e5;have b8:=aK.fz e4;have c4:=aJ.fz e3;have bI:=bH.hf_fz ((c4.trans b8).trans e5.fz);have bJ:=aL.hf_fz (b8.trans e5.fz);have bL:=aM.hf_fz e5.fz
 have cX:∀(i:Nat) v,[v0,v1,v2][i]? = some v->∃ e:List Str×List (Str×Str),Is K H5 (hfD e.1 e.2) v/\ak8 e.1 e.2:=λi v Y=>by
  match i,Y with
  |0,Y=>cases Y;exact⟨(cY,d1),bI,bE⟩
  |1,Y=>cases Y;exact⟨(cZ,d2),bJ,bF⟩
  |2,Y=>cases Y;exact⟨(c1,d3),bL,ar7 bG (by show c1.length<=5;omega)⟩
  |n+3,Y=>cases Y
 clear bH aL aM bI bJ bL bE bF bG cQ e2 e3 e4 aJ aK bD bS bU bV bW
 symm
 refine Kf (SqL.of h5) ?_
 refine Ep (Bp (xs:=[v0,v1,v2])) (λi σ H'=>∃ x2 x3 x4 x5,σ=[some (.ref a),some (.ref f),x2,x3,x4,x5]/\Feed H' f l/\Fz H5 H'/\H' aN=some (.lst [v0,v1,v2])/\Lm2 Z a0 H')
  ⟨_,_,_,_,rfl,cC,.refl _,h5,cM⟩ (λi σ' H' O=>?_) (λi v σ' H6 Y hi O=>?_) (fun σ' H6 O=>?_)
 . obtain⟨_,_,_,_,_,_,_,h,_⟩:=O;exact SqL.of h
 . obtain⟨x2,x3,x4,x5,rfl,cD,b9,h6,cN⟩:=O;obtain⟨⟨ns,ps⟩,hI,J⟩:=cX i v Y;replace J:ak8 ns ps:=J;replace hI:Is K H5 (hfD ns ps) v:=hI;have bM:=hI.hf_fz b9;have d7:=J.cn;have bA:=J.le;have d8:=Lq (b:=Ab ps) (λx=>Kn J.w x) (λx y z a b=>wayB_iff.mpr ((wayB_iff.mp a).trans (wayB_iff.mp b))) ns.length ns rfl J.w.nd
   symm
   refine⟨v,ns,ps,rfl,.of bM,J.w,J.few,by omega,λol ys H8 dC e8 h8 b1=>?_⟩;have d6:cnt (Ab ps) ns=(ext (Ab ps) ns.length ns).length:=rfl;have c0:=IsL.length b1;rw[A01] at c0;have aA:=cD.same e8;have cO:=cN.same e8;have bB:=e8 _ _ h6;have bN:=bM.hf_fz e8.fz
   symm
   refine Hf bN λnv hN=>?_
   symm
   refine⟨f,l,nv,ol,ns,ps,ext (Ab ps) ns.length ns,ys,rfl,aA,hN,h8,b1,J.w,J.few,.refl _,by omega,by omega,by omega,by omega,λp1 D1 m1 H9 e9 aB bQ dA aL=>?_⟩;have cP:=cO.draw aA e9;have aQ:=aA.fz e9;have bO:=bN.hf_fz aQ;have bC:=e9 _ _ (aA.lst bB) bB;have aX:=e9 _ _ (aA.lst h8) h8
   symm
   refine Hf bO λd0 cH=>?_
   symm
   refine⟨f,l,d0,ol,ns,ps,ext (Ab ps) ns.length ns,ys,rfl,aB,cH,aX,IsL.fz aQ _ _ (Nf _) b1,J.w,J.few,.refl _,by omega,by omega,by omega,by omega,λp2 D2 m2 d4 aF aI bR dB aM=>?_⟩;have bT:=cP.draw aB aF;have aP:=aB.fz aF;have cF:=bO.hf_fz aP;have aR:=aF _ _ (aB.lst bC) bC;have aS:=aF _ _ (aB.lst aX) aX
   symm
   refine Bu (A9 (by simp)) λpl aE a6 a5 aT=>?_;have aY:=aI.same a5;have a3:=bT.same a5;have bK:=cF.hf_fz a5.fz;have aU:=a5 _ _ aR;have aV:=a5 _ _ aS;have bX:=Is.fz (aP.trans a5.fz) _ _ (Cy bQ) aL;have bY:=Is.fz a5.fz _ _ (Cy bR) aM;have c5:Fz H5 aE:=(((b9.trans e8.fz).trans aQ).trans aP).trans a5.fz;walk_at "rq"
   with_reducible refine Su (fun σ' H'=>∃ us,σ'=[some (.ref a),some (.ref f),some v,some (.ref ol),some (.ref pl),x5]/\Feed H' f l/\Fz aE H'/\H' aN=some (.lst [v0,v1,v2])/\Lm2 Z a0 H'/\H' ol=some (.lst ys)/\H' pl=some (.lst us)/\us.length<=3/\∀ u∈us,∃ D m,PlanP ns ps D m/\Is K H' D u) (λN bP=>?_) (fun σ1 b2 hM=>?_)
   . have aO:∀ u∈[p1,p2],∃ D m,PlanP ns ps D m/\Is K aE D u:=λu hu=>by
      simp only[List.mem_cons,List.not_mem_nil,or_false] at hu;rcases hu with rfl|rfl
      . exact⟨D1,m1,bQ,bX⟩
      exact⟨D2,m2,bR,bY⟩
     symm
     refine Ll (λhc=>?_) (λhc=>?_)
     . symm
       refine⟨v,ns,ps,rfl,bK,J.w,J.few,bA,by omega,a3.b,λu D m c2 b5 cI hB b0=>?_⟩;have aC:aN8 Z a0 aE c2:=⟨Z,.inl rfl,b5⟩;have cJ:=a3.goB b5 cI;have b7:=a3.fz aC;have aG:=a3.lst aT aC
       symm
       refine R0 aG (by simp) λb2 a8 aH=>?_;have a7:=a8.fzL aG;have cV:pl≠ol:=λz=>by rw[z,aS] at a6;cases a6
       have cU:pl≠aN:=λz=>by rw[z,aR] at a6;cases a6
       have dD:pl≠f:=Ne.symm (aI.nd a6)
       have cE:∀ {Hx Hy:Hp} {xs:List V},Feed Hx f l->Hx pl=some (.lst xs)->ExtBut pl Hx Hy->l≠pl->Feed Hy f l:=fun {Hx Hy xs} hF hx e cT=>by obtain⟨a',t,u',b4,g1,g2,g3,g4⟩:=hF;exact⟨a',t,u',b4,e _ _ (ne_of g1 hx (by intro z;cases z)) g1,e _ _ cT g2,g3,g4⟩
       have cR:l≠pl:=by obtain⟨a',t,u',b4,g1,g2,g3,g4⟩:=aI;exact λz=>by rw[<- z,g2] at a6;cases a6
       symm
       refine bP _ _ ⟨[p1,p2]++[u],rfl,cE (a3.feed aY aC) aG a8 cR,b7.trans a7,a8 _ _ (Ne.symm cU) (a3.lst aU aC),cJ.list aG a8,a8 _ _ (Ne.symm cV) (a3.lst aV aC),aH,by simp,λw hw=>?_⟩;rcases A0A.mp hw with q|q
       . obtain⟨D',m',a1,a2⟩:=aO w q;exact⟨D',m',a1,Is.fz (b7.trans a7) _ _ (Cy a1) a2⟩
       rw[A0K.mp q];exact⟨D,m,hB.p J.w.nd,Is.fz a7 _ _ (Cy (hB.p J.w.nd)) b0⟩
     symm
     exact bP _ _ ⟨[p1,p2],rfl,aY,.refl _,aU,a3,aV,aT,by simp,aO⟩
   obtain⟨us,rfl,cB,a7,c6,cK,c7,aH,dE,aO⟩:=hM;have cG:=bK.hf_fz a7;clear bX bY a3 aY aT aU aV aI bT aR aS
   symm
   refine Kf (SqL.of aH) ?_
   refine Ep (Bp (xs:=us)) (λj σ H'=>∃ x5,σ=[some (.ref a),some (.ref f),some v,some (.ref ol),some (.ref pl),x5]/\Feed H' f l/\Fz b2 H'/\H' aN=some (.lst [v0,v1,v2])/\Lm2 Z a0 H'/\H' ol=some (.lst ys)/\H' pl=some (.lst us))
    ⟨_,rfl,cB,.refl _,c6,cK,c7,aH⟩ (λj σ' H' O=>?_) (λj u σ' b3 cW hj O=>?_) (fun σ' b3 O=>?_)
   . obtain⟨_,_,_,_,_,_,_,h⟩:=O;exact SqL.of h
   . obtain⟨y5,rfl,aZ,a9,aW,a4,c9,c8⟩:=O;obtain⟨D,m,O,b0⟩:=aO u (A04 cW)
     symm
     rw[<- c0];refine⟨v,u,ns,ps,D,m,rfl,cG.hf_fz a9,J.w,J.nm,J.few,bA,O,Is.fz a9 _ _ (Cy O) b0,by omega,a4.r,λc3 b6 cL=>?_⟩;have aD:aN8 Z a0 b3 c3:=⟨a0,.inr rfl,b6⟩
     symm
     exact⟨_,rfl,a4.feed aZ aD,a9.trans (a4.fz aD),a4.lst aW aD,a4.goR b6 cL,a4.lst c9 aD,a4.lst c8 aD⟩
   obtain⟨y5,rfl,aZ,a9,aW,a4,_⟩:=O
   symm
   exact⟨_,_,_,_,rfl,aZ,(c5.trans a7).trans a9,aW,a4⟩
 obtain⟨x2,x3,x4,x5,rfl,_⟩:=O
 symm
 exact k H6
end
theorem all_mk {l:W.OpenLaw}{w:World}{K:W.Frag}{h:Heap}{mg:Str->Option Value}{fa f0 f1 f2 f3 f4 f5 f6 f7 f8 f9 aE aF aG aH aI aJ aK aL aM aN aO aP aQ aR aS aT aU aV aW aX aY aZ bA bB bC bD bE bF bG bH bI bJ bK bL bM bN bO bP bQ Y Z aA q J Wz F Wm:Addr}(X:K.In h)(G:h.Ns mainGlobals mg)(tS:mg "law" = some (.ref fa))
  {D0 N0 D1 N1 D2 N2 D3 N3 D4 N4 D5 N5 D6 N6 D7 N7 D8 N8 D9 N9 g9 iR gA iS gB iT gC iU gD iV gE iW gF iX gG iY gH iZ gI j0 gJ j1 gK j2 gL j3 gM j4 gN j5 gO j6 gP j7 gQ j8 gR j9 gS jA gT jB gU jC gW jD gX jE gY jF gZ jG h0 jH h3 jI h4 jJ h5 jK h6 jL h7 jM h8 jN h9 jO hA jP hB jQ hC jR hD jS hE dD hF jT hG jU hH jV:Option Addr} {S0 S1 S2 S3 S4 S5 S6 S7 S8 S9 mT mU mV mW mX mY mZ n0 n1 n2 n3 n4 n5 n6 n7 n8 n9 nA nB nC nD nE nF nG nH nI nJ nK nL nM nN nO nP nQ nR nS nT nU nV nW nX nY:Array (Option Value)} {O0 V0 E0 P0 Q0 U0 O1 V1 E1 P1 Q1 U1 O2 V2 E2 P2 Q2 U2 O3 V3 E3 P3 Q3 U3 O4 V4 E4 P4 Q4 U4 O5 V5 E5 P5 Q5 U5 O6 V6 E6 P6 Q6 U6 O7 V7 E7 P7 Q7 U7 O8 V8 E8 P8 Q8 U8 O9 V9 E9 P9 Q9 U9 jW p5 hI lN dF nZ jX p6 hJ lO dG o0 jY p7 hK lP dH o1 jZ p8 hL lQ dI o2 kA p9 hM lR dJ o3 kB pC hN lS dK o4 kC pD hO lT dL o5 kD pE hP lU dM o6 kE pF hQ lV dN o7 kF pG hR lW aB o8 kG pH hS lX dO o9 kH pI hT lY dP oA kI pJ hU lZ dQ oB kJ pK hV m0 dR oC kK pL hW m1 dS oD kL pM hX m2 dT oE kM pN hY m3 dU oF kN pO hZ m4 aC oG kO pP i3 m5 dV oH kP pQ i4 m6 dW oI kQ pR i5 m7 dX oJ kR pS i6 m8 dY oK kS pT i7 m9 dZ oL kT pU i8 mB e0 oM kU pV i9 mC e1 oN kW pW iA mD e2 oO kX pX iB mE e3 oP kY pY iC mF e4 oQ kZ pZ iD mG e5 oR lA q0 iE mH e6 oS lB q1 iF mI e7 oT lC q2 iG mJ e8 oU lD q3 iH mK e9 oV lE q4 iI mL eA oW lF q5 iJ mM eB oX lG q6 iK mN eC oY lH q7 iL mO eD oZ lI q8 iM mP eE p0 lJ eJ bX dE aD eI lK q9 iN mQ eF p1 lL qC iO mR eG p3 lM qD iP mS eH p4:Value}
  (rF:W.nsIn K mainGlobals "Ways" = some (some (.ref q))) (vD:W.plainGet K q Str.empty=true) (tR:W.hasDictIn K q=true) (vE:W.plainOver K q=true) (vF:W.findIn K (.ref q) "__setattr__" = some (some (.builtin "object.__setattr__"))) (v7:W.makesIn K q=true) (tX:W.keepIn K (.ref q)=true)
  (vC:W.findIn K (.ref q) "names" = some none)
  (v9:W.findIn K (.ref q) "bits" = some none)
  (v8:W.findIn K (.ref q) "ahead" = some none)
  (vA:W.findIn K (.ref q) "full" = some none)
  (vB:W.findIn K (.ref q) "known" = some none)
  (a0:W.nsIn K mainGlobals "refuse_strangers" = some (some (.ref f0))) (l0:K.lookup f0=some ⟨O0,D0,.func (W.fnOf "refuse_strangers" "refuse_strangers" (Ae Bg) (Ac Bg) (A4 Bg) .none V0 E0 P0 N0 Q0 U0),S0⟩) (c0:W.codeIn K Q0 "refuse_strangers" = true) (k0:W.keepIn K (.ref f0)=true)
  (a1:W.nsIn K mainGlobals "behind_each" = some (some (.ref f1))) (l1:K.lookup f1=some ⟨O1,D1,.func (W.fnOf "behind_each" "behind_each" (Ae Cs) (Ac Cs) (A4 Cs) .none V1 E1 P1 N1 Q1 U1),S1⟩) (c1:W.codeIn K Q1 "behind_each" = true) (k1:W.keepIn K (.ref f1)=true)
  (a2:W.nsIn K mainGlobals "closed" = some (some (.ref f2))) (l2:K.lookup f2=some ⟨O2,D2,.func (W.fnOf "closed" "closed" (Ae Jx) (Ac Jx) (A4 Jx) .none V2 E2 P2 N2 Q2 U2),S2⟩) (c2:W.codeIn K Q2 "closed" = true) (k2:W.keepIn K (.ref f2)=true)
  (a3:W.nsIn K mainGlobals "has_third_between" = some (some (.ref f3))) (l3:K.lookup f3=some ⟨O3,D3,.func (W.fnOf "has_third_between" "has_third_between" (Ae Bb) (Ac Bb) (A4 Bb) .none V3 E3 P3 N3 Q3 U3),S3⟩) (c3:W.codeIn K Q3 "has_third_between" = true) (k3:W.keepIn K (.ref f3)=true)
  (a4:W.nsIn K mainGlobals "bare" = some (some (.ref f4))) (l4:K.lookup f4=some ⟨O4,D4,.func (W.fnOf "bare" "bare" (Ae Qn) (Ac Qn) (A4 Qn) .none V4 E4 P4 N4 Q4 U4),S4⟩) (c4:W.codeIn K Q4 "bare" = true) (k4:W.keepIn K (.ref f4)=true)
  (a5:W.nsIn K mainGlobals "are_untold" = some (some (.ref f5))) (l5:K.lookup f5=some ⟨O5,D5,.func (W.fnOf "are_untold" "are_untold" (Ae Dv) (Ac Dv) (A4 Dv) .none V5 E5 P5 N5 Q5 U5),S5⟩) (c5:W.codeIn K Q5 "are_untold" = true) (k5:W.keepIn K (.ref f5)=true)
  (a6:W.nsIn K mainGlobals "untold_of" = some (some (.ref f6))) (l6:K.lookup f6=some ⟨O6,D6,.func (W.fnOf "untold_of" "untold_of" (Ae Eu) (Ac Eu) (A4 Eu) .none V6 E6 P6 N6 Q6 U6),S6⟩) (c6:W.codeIn K Q6 "untold_of" = true) (k6:W.keepIn K (.ref f6)=true)
  (a7:W.nsIn K mainGlobals "untold" = some (some (.ref f7))) (l7:K.lookup f7=some ⟨O7,D7,.func (W.fnOf "untold" "untold" (Ae Ju) (Ac Ju) (A4 Ju) .none V7 E7 P7 N7 Q7 U7),S7⟩) (c7:W.codeIn K Q7 "untold" = true) (k7:W.keepIn K (.ref f7)=true)
  (a8:W.nsIn K mainGlobals "bits_of" = some (some (.ref f8))) (l8:K.lookup f8=some ⟨O8,D8,.func (W.fnOf "bits_of" "bits_of" (Ae Hz) (Ac Hz) (A4 Hz) .none V8 E8 P8 N8 Q8 U8),S8⟩) (c8:W.codeIn K Q8 "bits_of" = true) (k8:W.keepIn K (.ref f8)=true)
  (a9:W.nsIn K mainGlobals "bits_ahead" = some (some (.ref f9))) (l9:K.lookup f9=some ⟨O9,D9,.func (W.fnOf "bits_ahead" "bits_ahead" (Ae Dq) (Ac Dq) (A4 Dq) .none V9 E9 P9 N9 Q9 U9),S9⟩) (c9:W.codeIn K Q9 "bits_ahead" = true) (k9:W.keepIn K (.ref f9)=true)
  (qF:W.nsIn K mainGlobals "count" = some (some (.ref aE))) (tY:K.lookup aE=some ⟨jW,g9,.func (W.fnOf "count" "count" (Ae Me) (Ac Me) (A4 Me) .none p5 hI lN iR dF nZ),mT⟩) (sH:W.codeIn K dF "count" = true) (eY:W.keepIn K (.ref aE)=true)
  (qG:W.nsIn K mainGlobals "way_by_sayings" = some (some (.ref aF))) (tZ:K.lookup aF=some ⟨jX,gA,.func (W.fnOf "way_by_sayings" "way_by_sayings" (Ae Bx) (Ac Bx) (A4 Bx) .none p6 hJ lO iS dG o0),mU⟩) (sI:W.codeIn K dG "way_by_sayings" = true) (eZ:W.keepIn K (.ref aF)=true)
  (qH:W.nsIn K mainGlobals "thinned" = some (some (.ref aG))) (u0:K.lookup aG=some ⟨jY,gB,.func (W.fnOf "thinned" "thinned" (Ae Ib) (Ac Ib) (A4 Ib) .none p7 hK lP iT dH o1),mV⟩) (sJ:W.codeIn K dH "thinned" = true) (fA:W.keepIn K (.ref aG)=true)
  (qI:W.nsIn K mainGlobals "said" = some (some (.ref aH))) (u1:K.lookup aH=some ⟨jZ,gC,.func (W.fnOf "said" "said" (Ae Qw) (Ac Qw) (A4 Qw) .none p8 hL lQ iU dI o2),mW⟩) (sK:W.codeIn K dI "said" = true) (fB:W.keepIn K (.ref aH)=true)
  (eK:W.nsIn K mainGlobals "order_on" = some (some (.ref aI))) (u2:K.lookup aI=some ⟨kA,gD,.func (W.fnOf "order_on" "order_on" (Ae Ew) (Ac Ew) (A4 Ew) .none p9 hM lR iV dJ o3),mX⟩) (sL:W.codeIn K dJ "order_on" = true) (bR:W.keepIn K (.ref aI)=true)
  (qJ:W.nsIn K mainGlobals "order_of" = some (some (.ref aJ))) (u3:K.lookup aJ=some ⟨kB,gE,.func (W.fnOf "order_of" "order_of" (Ae Gh) (Ac Gh) (A4 Gh) .none pC hN lS iW dK o4),mY⟩) (sM:W.codeIn K dK "order_of" = true) (fC:W.keepIn K (.ref aJ)=true)
  (qK:W.nsIn K mainGlobals "comings_of" = some (some (.ref aK))) (u4:K.lookup aK=some ⟨kC,gF,.func (W.fnOf "comings_of" "comings_of" (Ae Ed) (Ac Ed) (A4 Ed) .none pD hO lT iX dL o5),mZ⟩) (sN:W.codeIn K dL "comings_of" = true) (fD:W.keepIn K (.ref aK)=true)
  (qL:W.nsIn K mainGlobals "shares_of" = some (some (.ref aL))) (u5:K.lookup aL=some ⟨kD,gG,.func (W.fnOf "shares_of" "shares_of" (Ae Fj) (Ac Fj) (A4 Fj) .none pE hP lU iY dM o6),n0⟩) (sO:W.codeIn K dM "shares_of" = true) (fE:W.keepIn K (.ref aL)=true)
  (qM:W.nsIn K mainGlobals "questions" = some (some (.ref aM))) (u6:K.lookup aM=some ⟨kE,gH,.func (W.fnOf "questions" "questions" (Ae Ff) (Ac Ff) (A4 Ff) .none pF hQ lV iZ dN o7),n1⟩) (sP:W.codeIn K dN "questions" = true) (fF:W.keepIn K (.ref aM)=true)
  (qN:W.nsIn K mainGlobals "best" = some (some (.ref aN))) (u7:K.lookup aN=some ⟨kF,gI,.func (W.fnOf "best" "best" (Ae Qp) (Ac Qp) (A4 Qp) .none pG hR lW j0 aB o8),n2⟩) (sQ:W.codeIn K aB "best" = true) (fG:W.keepIn K (.ref aN)=true)
  (eL:W.nsIn K mainGlobals "steps_from" = some (some (.ref aO))) (u8:K.lookup aO=some ⟨kG,gJ,.func (W.fnOf "steps_from" "steps_from" (Ae Cq) (Ac Cq) (A4 Cq) .none pH hS lX j1 dO o9),n3⟩) (sR:W.codeIn K dO "steps_from" = true) (bS:W.keepIn K (.ref aO)=true)
  (qO:W.nsIn K mainGlobals "steps" = some (some (.ref aP))) (u9:K.lookup aP=some ⟨kH,gK,.func (W.fnOf "steps" "steps" (Ae Lw) (Ac Lw) (A4 Lw) .none pI hT lY j2 dP oA),n4⟩) (sS:W.codeIn K dP "steps" = true) (fH:W.keepIn K (.ref aP)=true)
  (eM:W.nsIn K mainGlobals "planned_on" = some (some (.ref aQ))) (uA:K.lookup aQ=some ⟨kI,gL,.func (W.fnOf "planned_on" "planned_on" (Ae Cp) (Ac Cp) (A4 Cp) .none pJ hU lZ j3 dQ oB),n5⟩) (sT:W.codeIn K dQ "planned_on" = true) (bT:W.keepIn K (.ref aQ)=true)
  (qP:W.nsIn K mainGlobals "planned" = some (some (.ref aR))) (uB:K.lookup aR=some ⟨kJ,gM,.func (W.fnOf "planned" "planned" (Ae Hu) (Ac Hu) (A4 Hu) .none pK hV m0 j4 dR oC),n6⟩) (sU:W.codeIn K dR "planned" = true) (fJ:W.keepIn K (.ref aR)=true)
  (qQ:W.nsIn K mainGlobals "is_tuple_of" = some (some (.ref aS))) (uC:K.lookup aS=some ⟨kK,gN,.func (W.fnOf "is_tuple_of" "is_tuple_of" (Ae Cz) (Ac Cz) (A4 Cz) .none pL hW m1 j5 dS oD),n7⟩) (sV:W.codeIn K dS "is_tuple_of" = true) (fK:W.keepIn K (.ref aS)=true)
  (qR:W.nsIn K mainGlobals "are_two_untold" = some (some (.ref aT))) (uD:K.lookup aT=some ⟨kL,gO,.func (W.fnOf "are_two_untold" "are_two_untold" (Ae By) (Ac By) (A4 By) .none pM hX m2 j6 dT oE),n8⟩) (sW:W.codeIn K dT "are_two_untold" = true) (fL:W.keepIn K (.ref aT)=true)
  (qS:W.nsIn K mainGlobals "is_row_of" = some (some (.ref aU))) (uE:K.lookup aU=some ⟨kM,gP,.func (W.fnOf "is_row_of" "is_row_of" (Ae Er) (Ac Er) (A4 Er) .none pN hY m3 j7 dU oF),n9⟩) (sX:W.codeIn K dU "is_row_of" = true) (fM:W.keepIn K (.ref aU)=true)
  (qT:W.nsIn K mainGlobals "order_of_row" = some (some (.ref aV))) (uF:K.lookup aV=some ⟨kN,gQ,.func (W.fnOf "order_of_row" "order_of_row" (Ae Cf) (Ac Cf) (A4 Cf) .none pO hZ m4 j8 aC oG),nA⟩) (sY:W.codeIn K aC "order_of_row" = true) (fN:W.keepIn K (.ref aV)=true)
  (qU:W.nsIn K mainGlobals "reach_said" = some (some (.ref aW))) (uG:K.lookup aW=some ⟨kO,gR,.func (W.fnOf "reach_said" "reach_said" (Ae Dy) (Ac Dy) (A4 Dy) .none pP i3 m5 j9 dV oH),nB⟩) (sZ:W.codeIn K dV "reach_said" = true) (fO:W.keepIn K (.ref aW)=true)
  (qV:W.nsIn K mainGlobals "is_asking" = some (some (.ref aX))) (uH:K.lookup aX=some ⟨kP,gS,.func (W.fnOf "is_asking" "is_asking" (Ae Fk) (Ac Fk) (A4 Fk) .none pQ i4 m6 jA dW oI),nC⟩) (t1:W.codeIn K dW "is_asking" = true) (fP:W.keepIn K (.ref aX)=true)
  (qW:W.nsIn K mainGlobals "is_end" = some (some (.ref aY))) (uI:K.lookup aY=some ⟨kQ,gT,.func (W.fnOf "is_end" "is_end" (Ae Jn) (Ac Jn) (A4 Jn) .none pR i5 m7 jB dX oJ),nD⟩) (t2:W.codeIn K dX "is_end" = true) (fQ:W.keepIn K (.ref aY)=true)
  (qX:W.nsIn K mainGlobals "word_due" = some (some (.ref aZ))) (uJ:K.lookup aZ=some ⟨kR,gU,.func (W.fnOf "word_due" "word_due" (Ae Gi) (Ac Gi) (A4 Gi) .none pS i6 m8 jC dY oK),nE⟩) (t3:W.codeIn K dY "word_due" = true) (fR:W.keepIn K (.ref aZ)=true)
  (eN:W.nsIn K mainGlobals "depth_on" = some (some (.ref bA))) (uK:K.lookup bA=some ⟨kS,gW,.func (W.fnOf "depth_on" "depth_on" (Ae Fb) (Ac Fb) (A4 Fb) .none pT i7 m9 jD dZ oL),nF⟩) (t4:W.codeIn K dZ "depth_on" = true) (bU:W.keepIn K (.ref bA)=true)
  (qY:W.nsIn K mainGlobals "lets_plan" = some (some (.ref bB))) (uL:K.lookup bB=some ⟨kT,gX,.func (W.fnOf "lets_plan" "lets_plan" (Ae Ex) (Ac Ex) (A4 Ex) .none pU i8 mB jE e0 oM),nG⟩) (t5:W.codeIn K e0 "lets_plan" = true) (fS:W.keepIn K (.ref bB)=true)
  (qZ:W.nsIn K mainGlobals "_law_feed" = some (some (.ref bC))) (uM:K.lookup bC=some ⟨kU,gY,.func (W.fnOf "_law_feed" "_law_feed" (Ae Fe) (Ac Fe) (A4 Fe) .none pV i9 mC jF e1 oN),nH⟩) (t6:W.codeIn K e1 "_law_feed" = true) (fT:W.keepIn K (.ref bC)=true)
  (r0:W.nsIn K mainGlobals "_law_draw" = some (some (.ref bD))) (uN:K.lookup bD=some ⟨kW,gZ,.func (W.fnOf "_law_draw" "_law_draw" (Ae Fa) (Ac Fa) (A4 Fa) .none pW iA mD jG e2 oO),nI⟩) (t7:W.codeIn K e2 "_law_draw" = true) (fU:W.keepIn K (.ref bD)=true)
  (r1:W.nsIn K mainGlobals "_law_names" = some (some (.ref bE))) (uO:K.lookup bE=some ⟨kX,h0,.func (W.fnOf "_law_names" "_law_names" (Ae Dt) (Ac Dt) (A4 Dt) .none pX iB mE jH e3 oP),nJ⟩) (t8:W.codeIn K e3 "_law_names" = true) (fV:W.keepIn K (.ref bE)=true)
  (r2:W.nsIn K mainGlobals "_law_shuffled" = some (some (.ref bF))) (uP:K.lookup bF=some ⟨kY,h3,.func (W.fnOf "_law_shuffled" "_law_shuffled" (Ae C5) (Ac C5) (A4 C5) .none pY iC mF jI e4 oQ),nK⟩) (t9:W.codeIn K e4 "_law_shuffled" = true) (fW:W.keepIn K (.ref bF)=true)
  (r3:W.nsIn K mainGlobals "_law_pairs" = some (some (.ref bG))) (uQ:K.lookup bG=some ⟨kZ,h4,.func (W.fnOf "_law_pairs" "_law_pairs" (Ae Ec) (Ac Ec) (A4 Ec) .none pZ iD mG jJ e5 oR),nL⟩) (tD:W.codeIn K e5 "_law_pairs" = true) (fX:W.keepIn K (.ref bG)=true)
  (r4:W.nsIn K mainGlobals "_law_sayings" = some (some (.ref bH))) (uR:K.lookup bH=some ⟨lA,h5,.func (W.fnOf "_law_sayings" "_law_sayings" (Ae Cg) (Ac Cg) (A4 Cg) .none q0 iE mH jK e6 oS),nM⟩) (tE:W.codeIn K e6 "_law_sayings" = true) (fY:W.keepIn K (.ref bH)=true)
  (r5:W.nsIn K mainGlobals "_law_half" = some (some (.ref bI))) (uS:K.lookup bI=some ⟨lB,h6,.func (W.fnOf "_law_half" "_law_half" (Ae Et) (Ac Et) (A4 Et) .none q1 iF mI jL e7 oT),nN⟩) (tF:W.codeIn K e7 "_law_half" = true) (fZ:W.keepIn K (.ref bI)=true)
  (r6:W.nsIn K mainGlobals "_law_orders" = some (some (.ref bJ))) (uT:K.lookup bJ=some ⟨lC,h7,.func (W.fnOf "_law_orders" "_law_orders" (Ae Cw) (Ac Cw) (A4 Cw) .none q2 iG mJ jM e8 oU),nO⟩) (tG:W.codeIn K e8 "_law_orders" = true) (g1:W.keepIn K (.ref bJ)=true)
  (r7:W.nsIn K mainGlobals "_law_parts" = some (some (.ref bK))) (uU:K.lookup bK=some ⟨lD,h8,.func (W.fnOf "_law_parts" "_law_parts" (Ae Ea) (Ac Ea) (A4 Ea) .none q3 iH mK jN e9 oV),nP⟩) (tH:W.codeIn K e9 "_law_parts" = true) (g2:W.keepIn K (.ref bK)=true)
  (r8:W.nsIn K mainGlobals "_law_questions" = some (some (.ref bL))) (uV:K.lookup bL=some ⟨lE,h9,.func (W.fnOf "_law_questions" "_law_questions" (Ae Bw) (Ac Bw) (A4 Bw) .none q4 iI mL jO eA oW),nQ⟩) (tI:W.codeIn K eA "_law_questions" = true) (g3:W.keepIn K (.ref bL)=true)
  (r9:W.nsIn K mainGlobals "_law_few" = some (some (.ref bM))) (uW:K.lookup bM=some ⟨lF,hA,.func (W.fnOf "_law_few" "_law_few" (Ae Gg) (Ac Gg) (A4 Gg) .none q5 iJ mM jP eB oX),nR⟩) (tJ:W.codeIn K eB "_law_few" = true) (g4:W.keepIn K (.ref bM)=true)
  (eO:W.nsIn K mainGlobals "_law_plan" = some (some (.ref bN))) (uX:K.lookup bN=some ⟨lG,hB,.func (W.fnOf "_law_plan" "_law_plan" (Ae Dn) (Ac Dn) (A4 Dn) .none q6 iK mN jQ eC oY),nS⟩) (tK:W.codeIn K eC "_law_plan" = true) (bV:W.keepIn K (.ref bN)=true)
  (rA:W.nsIn K mainGlobals "_law_ends" = some (some (.ref bO))) (uY:K.lookup bO=some ⟨lH,hC,.func (W.fnOf "_law_ends" "_law_ends" (Ae Fi) (Ac Fi) (A4 Fi) .none q7 iL mO jR eD oZ),nT⟩) (tL:W.codeIn K eD "_law_ends" = true) (g5:W.keepIn K (.ref bO)=true)
  (rB:W.nsIn K mainGlobals "_law_right" = some (some (.ref bP))) (uZ:K.lookup bP=some ⟨lI,hD,.func (W.fnOf "_law_right" "_law_right" (Ae Dz) (Ac Dz) (A4 Dz) .none q8 iM mP jS eE p0),nU⟩) (tM:W.codeIn K eE "_law_right" = true) (g6:W.keepIn K (.ref bP)=true)
  (rC:W.nsIn K mainGlobals "law" = some (some (.ref bQ))) (v0:K.lookup bQ=some ⟨lJ,hE,.func (W.fnOf "law" "law" (Ae Sl) (Ac Sl) (A4 Sl) .none eJ bX dE dD aD eI),nV⟩) (tN:W.codeIn K aD "law" = true) (tV:W.keepIn K (.ref bQ)=true)
  (rD:W.findIn K (.ref q) "__init__" = some (some (.ref Y))) (tT:W.isFn K (.ref Y)=true) (v1:K.lookup Y=some ⟨lK,hF,.func (W.fnOf "__init__" "Ways.__init__" (Ae Ez) (Ac Ez) (A4 Ez) .none q9 iN mQ jT eF p1),nW⟩) (tO:W.codeIn K eF "Ways.__init__" = true) (tW:W.keepIn K (.ref Y)=true)
  (rE:W.findIn K (.ref q) "free_names" = some (some (.ref Z))) (tU:W.isFn K (.ref Z)=true) (v2:K.lookup Z=some ⟨lL,hG,.func (W.fnOf "free_names" "Ways.free_names" (Ae Bl) (Ac Bl) (A4 Bl) .none qC iO mR jU eG p3),nX⟩) (tP:W.codeIn K eG "Ways.free_names" = true) (g7:W.keepIn K (.ref Z)=true)
  (eP:W.findIn K (.ref q) "ways_on" = some (some (.ref aA))) (eX:W.isFn K (.ref aA)=true) (v3:K.lookup aA=some ⟨lM,hH,.func (W.fnOf "ways_on" "Ways.ways_on" (Ae C2) (Ac C2) (A4 C2) .none qD iP mS jV eH p4),nY⟩) (tQ:W.codeIn K eH "Ways.ways_on" = true) (bW:W.keepIn K (.ref aA)=true)
  (lc:aB = .ref Wz) (lh:W.codeHdIn K Wz J=true) (lg:mainGlobals≠J)
  (v5:aC = .ref Wm) (g8:W.codeHdIn K Wm F=true) (v6:mainGlobals≠F)
  {t0:Tok} (g0:W.nsIn K mainGlobals "MOST_LISTED" = some (some (.int 720 t0)))
  (z0:W.nsIn K mainGlobals "any" = some none)
  (z1:W.nsIn K mainGlobals "dict" = some none)
  (z2:W.nsIn K mainGlobals "enumerate" = some none)
  (z3:W.nsIn K mainGlobals "int" = some none)
  (z4:W.nsIn K mainGlobals "isinstance" = some none)
  (z5:W.nsIn K mainGlobals "len" = some none)
  (z6:W.nsIn K mainGlobals "list" = some none)
  (z7:W.nsIn K mainGlobals "max" = some none)
  (z8:W.nsIn K mainGlobals "min" = some none)
  (z9:W.nsIn K mainGlobals "range" = some none)
  (vG:W.nsIn K mainGlobals "repr" = some none)
  (vH:W.nsIn K mainGlobals "reversed" = some none)
  (vI:W.nsIn K mainGlobals "sorted" = some none)
  (vJ:W.nsIn K mainGlobals "str" = some none)
  (vK:W.nsIn K mainGlobals "sum" = some none)
  (vL:W.nsIn K mainGlobals "tuple" = some none)
  : ∃ fd:FuncData,(∀ p∈[J,F],∃ c,W.codeHdIn K c p=true)/\(∀(s:Shared) (v:Value),BindsTo s fd ⟨[v],[]⟩ [("_law_script",v)])/\∀ base:Heap,K.In base->base.Ns mainGlobals mg->(∀ p∈[J,F],base.BuiltinsAt mg p)->FnOk l.prog w K mg base CX0 154 fa fd ["_law_script"] (spLaw J F K):=by
 have e:=tS.symm.trans (A0E X G rC)
 cases e;have T:Eo mg:=⟨⟨_,A0E X G g0,⟨_,rfl⟩⟩,A1D X G z0,A1D X G z1,A1D X G z2,A1D X G z3,A1D X G z4,A1D X G z5,A1D X G z6,A1D X G z7,A1D X G z8,A1D X G z9,A1D X G vG,A1D X G vH,A1D X G vI,A1D X G vJ,A1D X G vK,A1D X G vL⟩;have F0:=At (st:=Bg) l0 c0 k0;have b0:Binds K _ ["half","asked"] []:=Em F0 λ_ _ _ _ _ _ _ _=>rfl;have F1:=At (st:=Cs) l1 c1 k1;have b1:Binds K _ ["half"] []:=Dc F1 λ_ _ _ _ _ _ _=>rfl;have F2:=At (st:=Jx) l2 c2 k2;have b2:Binds K _ ["half"] []:=Dc F2 λ_ _ _ _ _ _ _=>rfl;have F3:=At (st:=Bb) l3 c3 k3;have b3:Binds K _ ["reach","pair"] []:=Em F3 λ_ _ _ _ _ _ _ _=>rfl;have F4:=At (st:=Qn) l4 c4 k4;have b4:Binds K _ ["half"] []:=Dc F4 λ_ _ _ _ _ _ _=>rfl;have F5:=At (st:=Dv) l5 c5 k5;have b5:Binds K _ ["reach","one","other"] []:=K4 F5 λ_ _ _ _ _ _ _ _ _=>rfl;have F6:=At (st:=Eu) l6 c6 k6;have b6:Binds K _ ["reach"] []:=Dc F6 λ_ _ _ _ _ _ _=>rfl;have F7:=At (st:=Ju) l7 c7 k7;have b7:Binds K _ ["half"] []:=Dc F7 λ_ _ _ _ _ _ _=>rfl;have F8:=At (st:=Hz) l8 c8 k8;have b8:Binds K _ ["names"] []:=Dc F8 λ_ _ _ _ _ _ _=>rfl;have F9:=At (st:=Dq) l9 c9 k9;have b9:Binds K _ ["half","bits"] []:=Em F9 λ_ _ _ _ _ _ _ _=>rfl;have bY:=At (st:=Me) tY sH eY;have rG:Binds K _ ["half"] []:=Dc bY λ_ _ _ _ _ _ _=>rfl;have bZ:=At (st:=Bx) tZ sI eZ;have rH:Binds K _ ["sayings","start","goal"] []:=K4 bZ λ_ _ _ _ _ _ _ _ _=>rfl;have cA:=At (st:=Ib) u0 sJ fA;have rJ:Binds K _ ["names","sayings"] []:=Em cA λ_ _ _ _ _ _ _ _=>rfl;have cB:=At (st:=Qw) u1 sK fB;have rK:Binds K _ ["half","name","other"] []:=K4 cB λ_ _ _ _ _ _ _ _ _=>rfl;have cC:=At (st:=Ew) u2 sL bR;have eQ:Binds K _ ["ways","left","number"] []:=K4 cC λ_ _ _ _ _ _ _ _ _=>rfl;have cD:=At (st:=Gh) u3 sM fC;have rL:Binds K _ ["half","number"] []:=Em cD λ_ _ _ _ _ _ _ _=>rfl;have cE:=At (st:=Ed) u4 sN fD;have rM:Binds K _ ["ways"] []:=Dc cE λ_ _ _ _ _ _ _=>rfl;have cF:=At (st:=Fj) u5 sO fE;have rN:Binds K _ ["half"] []:=Dc cF λ_ _ _ _ _ _ _=>rfl;have cG:=At (st:=Ff) u6 sP fF;have rO:Binds K _ ["half"] []:=Dc cG λ_ _ _ _ _ _ _=>rfl;have cH:=At (st:=Qp) u7 sQ fG;have rP:Binds K _ ["half"] []:=Dc cH λ_ _ _ _ _ _ _=>rfl;have cI:=At (st:=Cq) u8 sR bS;have eR:Binds K _ ["plan","askings"] []:=Em cI λ_ _ _ _ _ _ _ _=>rfl;have cJ:=At (st:=Lw) u9 sS fH;have rQ:Binds K _ ["plan"] []:=Dc cJ λ_ _ _ _ _ _ _=>rfl;have cK:=At (st:=Cp) uA sT bT;have eS:Binds K _ ["half"] []:=Dc cK λ_ _ _ _ _ _ _=>rfl;have cL:=At (st:=Hu) uB sU fJ;have rR:Binds K _ ["half"] []:=Dc cL λ_ _ _ _ _ _ _=>rfl;have cM:=At (st:=Cz) uC sV fK;have rS:Binds K _ ["thing","size"] []:=Em cM λ_ _ _ _ _ _ _ _=>rfl;have cN:=At (st:=By) uD sW fL;have rT:Binds K _ ["reach","one","other"] []:=K4 cN λ_ _ _ _ _ _ _ _ _=>rfl;have cO:=At (st:=Er) uE sX fM;have rV:Binds K _ ["reach"] []:=Dc cO λ_ _ _ _ _ _ _=>rfl;have cP:=At (st:=Cf) uF sY fN;have rW:Binds K _ ["reach"] []:=Dc cP λ_ _ _ _ _ _ _=>rfl;have cQ:=At (st:=Dy) uG sZ fO;have rX:Binds K _ ["reach","one","other"] []:=K4 cQ λ_ _ _ _ _ _ _ _ _=>rfl;have cR:=At (st:=Fk) uH t1 fP;have rY:Binds K _ ["thing"] []:=Dc cR λ_ _ _ _ _ _ _=>rfl;have cS:=At (st:=Jn) uI t2 fQ;have rZ:Binds K _ ["thing"] []:=Dc cS λ_ _ _ _ _ _ _=>rfl;have cT:=At (st:=Gi) uJ t3 fR;have s0:Binds K _ ["reach","plan"] []:=Em cT λ_ _ _ _ _ _ _ _=>rfl;have cU:=At (st:=Fb) uK t4 bU;have eT:Binds K _ ["reach","plan","path"] []:=K4 cU λ_ _ _ _ _ _ _ _ _=>rfl;have cV:=At (st:=Ex) uL t5 fS;have s1:Binds K _ ["half","plan"] []:=Em cV λ_ _ _ _ _ _ _ _=>rfl;have cW:=At (st:=Fe) uM t6 fT;have s2:Binds K _ ["_law_script"] []:=Dc cW λ_ _ _ _ _ _ _=>rfl;have cX:=At (st:=Fa) uN t7 fU;have s3:Binds K _ ["_law_feed_here","_law_many"] []:=Em cX λ_ _ _ _ _ _ _ _=>rfl;have cY:=At (st:=Dt) uO t8 fV;have s4:Binds K _ ["_law_feed_here","_law_many"] []:=Em cY λ_ _ _ _ _ _ _ _=>rfl;have cZ:=At (st:=C5) uP t9 fW;have s5:Binds K _ ["_law_feed_here","_law_some"] []:=Em cZ λ_ _ _ _ _ _ _ _=>rfl;have d0:=At (st:=Ec) uQ tD fX;have s6:Binds K _ ["_law_feed_here","_law_line"] []:=Em d0 λ_ _ _ _ _ _ _ _=>rfl;have d1:=At (st:=Cg) uR tE fY;have s7:Binds K _ ["_law_feed_here","_law_line"] []:=Em d1 λ_ _ _ _ _ _ _ _=>rfl;have d2:=At (st:=Et) uS tF fZ;have s8:Binds K _ ["_law_feed_here","_law_most"] []:=Em d2 λ_ _ _ _ _ _ _ _=>rfl;have d3:=At (st:=Cw) uT tG g1;have s9:Binds K _ ["_law_half_here"] []:=Dc d3 λ_ _ _ _ _ _ _=>rfl;have d4:=At (st:=Ea) uU tH g2;have sA:Binds K _ ["_law_orders_here","_law_one","_law_other"] []:=K4 d4 λ_ _ _ _ _ _ _ _ _=>rfl;have d5:=At (st:=Bw) uV tI g3;have sB:Binds K _ ["_law_names_here","_law_orders_here"] []:=Em d5 λ_ _ _ _ _ _ _ _=>rfl;have d6:=At (st:=Gg) uW tJ g4;have sC:Binds K _ ["_law_feed_here"] []:=Dc d6 λ_ _ _ _ _ _ _=>rfl;have d7:=At (st:=Dn) uX tK bV;have eU:Binds K _ ["_law_feed_here","_law_names_here","_law_orders_here"] []:=K4 d7 λ_ _ _ _ _ _ _ _ _=>rfl;have d8:=At (st:=Fi) uY tL g5;have sD:Binds K _ ["_law_plan_here"] []:=Dc d8 λ_ _ _ _ _ _ _=>rfl;have d9:=At (st:=Dz) uZ tM g6;have sE:Binds K _ ["_law_half_here","_law_plan_here","_law_many"] []:=K4 d9 λ_ _ _ _ _ _ _ _ _=>rfl;have iQ:=At (st:=Sl) v0 tN tV;have dA:=At (st:=Ez) v1 tO tW;have sF:Binds K _ ["self","half"] []:=Em dA λ_ _ _ _ _ _ _ _=>rfl;have dB:=At (st:=Bl) v2 tP g7;have sG:Binds K _ ["self","left"] []:=Em dB λ_ _ _ _ _ _ _ _=>rfl;have dC:=At (st:=C2) v3 tQ bW;have eV:Binds K _ ["self","left"] []:=Em dC λ_ _ _ _ _ _ _ _=>rfl;have O:El K q:=⟨⟨vD,tR,vE,vF⟩,vC,v9,v8,vA,vB⟩;refine⟨W.fnOf "law" "law" (Ae Sl) (Ac Sl) (A4 Sl) .none eJ bX dE dD aD eI,λp hp=>by {simp only[List.mem_cons,List.not_mem_nil,or_false] at hp;rcases hp with rfl|rfl;exact⟨Wz,lh⟩;exact⟨Wm,g8⟩},λs v=>.of_eq rfl,λbase KB _ eW=>?_⟩
 have lb:aQ5 K mg base Wz J:=⟨W.codeHd_of_K KB lh,eW J (by simp),lg⟩;have v4:aQ5 K mg base Wm F:=⟨W.codeHd_of_K KB g8,eW F (by simp),v6⟩;have Ef:Fnd l.prog w K mg base 1 "refuse_strangers" ["half","asked"] (Dm K):=⟨_,_,Kh F0 T,A0E X G a0,k0,b0⟩;have Ar:Fnd l.prog w K mg base 1 "behind_each" ["half"] (C3 K):=⟨_,_,Qe F1 T,A0E X G a1,k1,b1⟩;have Dp:Fnd l.prog w K mg base 1 "has_third_between" ["reach","pair"] (De K):=⟨_,_,Jz F3 T,A0E X G a3,k3,b3⟩;have Dr:Fnd l.prog w K mg base 1 "are_untold" ["reach","one","other"] (Gd K):=⟨_,_,Sg F5 T,A0E X G a5,k5,b5⟩;have Pd:Fnd l.prog w K mg base 1 "bits_of" ["names"] (Mf K):=⟨_,_,Ze F8 T,A0E X G a8,k8,b8⟩;have G0:Fnd l.prog w K mg base 1 "way_by_sayings" ["sayings","start","goal"] (Fg K):=⟨_,_,Mb bZ T,A0E X G qG,eZ,rH⟩;have Ct:Fnd l.prog w K mg base 1 "is_tuple_of" ["thing","size"] (Fm K):=⟨_,_,Pp cM T,A0E X G qQ,fK,rS⟩;have Kb:Fnd l.prog w K mg base 1 "is_row_of" ["reach"] (J6 K):=⟨_,_,Uo cO T,A0E X G qS,fM,rV⟩;have Hm:Fnd l.prog w K mg base 1 "order_of_row" ["reach"] (Gk F K):=⟨_,_,Pe cP T v4 v5,A0E X G qT,fN,rW⟩;have Eb:Fnd l.prog w K mg base 1 "reach_said" ["reach","one","other"] (G5 K):=⟨_,_,Re cQ T,A0E X G qU,fO,rX⟩;have Ka:Fnd l.prog w K mg base 1 "_law_feed" ["_law_script"] (Jf K):=⟨_,_,Uq cW T,A0E X G qZ,fT,s2⟩;have U:Fnd l.prog w K mg base 1 "_law_draw" ["_law_feed_here","_law_many"] (Bj K):=⟨_,_,Tv cX T,A0E X G r0,fU,s3⟩;have Ig:Fnd l.prog w K mg base 1 "_law_orders" ["_law_half_here"] (Hl K):=⟨_,_,Qa d3 T,A0E X G r6,g1,s9⟩;have C7:Fnd l.prog w K mg base 1 "_law_parts" ["_law_orders_here","_law_one","_law_other"] (Ej K):=⟨_,_,Sw d4 T,A0E X G r7,g2,sA⟩;have Ke:Fnd l.prog w K mg base 1 "_law_ends" ["_law_plan_here"] (Ja K):=⟨_,_,Uz d8 T,A0E X G rA,g5,sD⟩;have Ah:Mtd l.prog w K mg base 1 q "free_names" ["self","left"] (Az q K):=⟨_,_,L9 dB T O,⟨rE,tU,g7⟩,sG⟩;have Rk:Fnd l.prog w K mg base 2 "closed" ["half"] (Nw K):=⟨_,_,aa8 F2 T Ar,A0E X G a2,k2,b2⟩;have Kg:Fnd l.prog w K mg base 2 "untold_of" ["reach"] (J8 K):=⟨_,_,Vr F6 T Dr,A0E X G a6,k6,b6⟩;have Je:Fnd l.prog w K mg base 2 "bits_ahead" ["half","bits"] (Ip K):=⟨_,_,T0 F9 T Ar,A0E X G a9,k9,b9⟩;have Jd:Fnd l.prog w K mg base 2 "comings_of" ["ways"] (Iy q K):=⟨_,_,Ss cE T O Ah,A0E X G qK,fD,rM⟩;have Fy:Fnd l.prog w K mg base 2 "are_two_untold" ["reach","one","other"] (Ey K):=⟨_,_,Lx cN T Dr,A0E X G qR,fL,rT⟩;have Kt:Fnd l.prog w K mg base 2 "is_asking" ["thing"] (Jm K):=⟨_,_,Ug cR T Ct,A0E X G qV,fP,rY⟩;have T2:Fnd l.prog w K mg base 2 "is_end" ["thing"] (Nt K):=⟨_,_,ae7 cS T Ct,A0E X G qW,fQ,rZ⟩;have Ee:Fnd l.prog w K mg base 2 "_law_names" ["_law_feed_here","_law_many"] (Ga K):=⟨_,_,Ro cY T U,A0E X G r1,fV,s4⟩;have Br:Fnd l.prog w K mg base 2 "_law_shuffled" ["_law_feed_here","_law_some"] (Di K):=⟨_,_,Mw cZ T U,A0E X G r2,fW,s5⟩;have J7:Fnd l.prog w K mg base 2 "_law_pairs" ["_law_feed_here","_law_line"] (Iz K):=⟨_,_,Sk d0 T U,A0E X G r3,fX,s6⟩;have Cd:Fnd l.prog w K mg base 2 "_law_questions" ["_law_names_here","_law_orders_here"] (Cv K):=⟨_,_,Lr d5 T C7,A0E X G r8,g3,sB⟩;have qE:Fnd l.prog w K mg base 3 "bare" ["half"] (Wj K):=⟨_,_,aB8 F4 T Ar Rk Dp,A0E X G a4,k4,b4⟩;have Rg:Fnd l.prog w K mg base 3 "untold" ["half"] (Oj K):=⟨_,_,a76 F7 T Ar Kg,A0E X G a7,k7,b7⟩;have Hq:Fnd l.prog w K mg base 3 "word_due" ["reach","plan"] (Io F K):=⟨_,_,Wo cT T Fy Kb Hm Kt T2,A0E X G qX,fR,s0⟩;have Hk:Fnd l.prog w K mg base 3 "_law_sayings" ["_law_feed_here","_law_line"] (Gp K):=⟨_,_,Ox d1 T U J7,A0E X G r4,fY,s7⟩;have Ca:Mkd l.prog w K mg base 3 q "Ways" ["self","half"] (Ft q K):=⟨_,_,Ut dA T O Pd Je,⟨v7,rD,tT,tX⟩,A0E X G rF,sF⟩;have Oe:Fnd l.prog w K mg base 4 "thinned" ["names","sayings"] (Mc K):=⟨_,_,Zw cA T qE,A0E X G qH,fA,rJ⟩;have Ev:Fnd l.prog w K mg base 4 "_law_half" ["_law_feed_here","_law_most"] (He K):=⟨_,_,Ul d2 T U Ee Br Hk,A0E X G r5,fZ,s8⟩;have Qk:Fnd l.prog w K mg base 5 "said" ["half","name","other"] (Sv K):=⟨_,_,aB7 cB T Ef G0 Oe,A0E X G qI,fB,rK⟩;have Jt:Fnd l.prog w K mg base 5 "_law_few" ["_law_feed_here"] (Kl K):=⟨_,_,Wp d6 T U Ee Br Ev,A0E X G r9,g4,sC⟩;have Am:Mtd l.prog w K mg base 13 q "ways_on" ["self","left"] (Bs q K):=⟨_,_,Ol dC T O Ah ⟨eP,eX,bW⟩ eV,⟨eP,eX,bW⟩,eV⟩;have Wg:Fnd l.prog w K mg base 14 "count" ["half"] (Rf K):=⟨_,_,al0 bY T O Ca Am,A0E X G qF,eY,rG⟩;have Km:Fnd l.prog w K mg base 14 "shares_of" ["half"] (Jk K):=⟨_,_,Ts cF T O Jd Ca Ah Am,A0E X G qL,fE,rN⟩;have Ki:Fnd l.prog w K mg base 15 "questions" ["half"] (Jg K):=⟨_,_,Ur cG T Rg Km,A0E X G qM,fF,rO⟩;have Ui:Fnd l.prog w K mg base 16 "best" ["half"] (Sa J K):=⟨_,_,aC1 cH T lb lc Ki,A0E X G qN,fG,rP⟩;have I0:Fnd l.prog w K mg base 25 "order_on" ["ways","left","number"] (Kk q K):=⟨_,_,Wi cC T O Ah Am (A0E X G eK) bR eQ,A0E X G eK,bR,eQ⟩;have Hs:Fnd l.prog w K mg base 26 "order_of" ["half","number"] (Il K):=⟨_,_,Ww cD T O I0 Ca Am,A0E X G qJ,fC,rL⟩;have Dw:Fnd l.prog w K mg base 126 "steps_from" ["plan","askings"] (Iq K):=⟨_,_,Rr cI T (A0E X G eL) bS eR,A0E X G eL,bS,eR⟩;have Wh:Fnd l.prog w K mg base 127 "steps" ["plan"] (T6 K):=⟨_,_,ak4 cJ T Dw,A0E X G qO,fH,rQ⟩;have Dl:Fnd l.prog w K mg base 128 "_law_plan" ["_law_feed_here","_law_names_here","_law_orders_here"] (Jj K):=⟨_,_,Vo d7 T U C7 Cd (A0E X G eO) bV eU,A0E X G eO,bV,eU⟩;have Gf:Fnd l.prog w K mg base 129 "depth_on" ["reach","plan","path"] (K9 F K):=⟨_,_,Xa cU T Eb Hq (A0E X G eN) bU eT,A0E X G eN,bU,eT⟩;have Kd:Fnd l.prog w K mg base 130 "lets_plan" ["half","plan"] (Ji F K):=⟨_,_,Tn cV T Ar Gf,A0E X G qY,fS,s1⟩;have Jl:Fnd l.prog w K mg base 131 "_law_right" ["_law_half_here","_law_plan_here","_law_many"] (Iw F K):=⟨_,_,Rh d9 T Wh Kd Ke,A0E X G rB,g6,sE⟩;have Du:Fnd l.prog w K mg base 152 "planned_on" ["half"] (Ij J K):=⟨_,_,Sb cK T Qk Hs Ui (A0E X G eM) bT eS,A0E X G eM,bT,eS⟩;have Pa:Fnd l.prog w K mg base 153 "planned" ["half"] (M0 J K):=⟨_,_,Z3 cL T Wg Du,A0E X G qP,fJ,rR⟩;exact aP1 iQ T Pa Ka Ev Ig Jt Dl Jl
theorem walk {l:W.OpenLaw}{q:Program}{a4:List Str}{Z:(Str->Option Value)->Heap->Prop}{U:World->Heap->Prop}{d:DefRec}{K:Params->W.Frag}{J O:Addr}(hn:l.most=some 63)(a3:d.params.defaults=[])(a1:[J,O].Nodup)
  (hY:∀(w:World) (h:Heap),U w h->(K w.params).In h) (a2:∀(w:World) (h:Heap),U w h->∀ p∈[J,O],h.get? p=some (W.tabObj #[])) (a0:∀(w:World),∀ p∈[J,O],(K w.params).lookup p=none)
  (F:∀(w:World) (mg:Str->Option Value) (Y:Addr) (h:Heap),(K w.params).In h->h.Ns mainGlobals mg->mg d.name=some (.ref Y) ->
   ∃ fd:FuncData,(∀ p∈[J,O],∃ c,W.codeHdIn (K w.params) c p=true)/\(∀(s:Shared) (u:Value),BindsTo s fd ⟨[u],[]⟩ [("_law_script",u)])/\∀ base:Heap,(K w.params).In base->base.Ns mainGlobals mg->(∀ p∈[J,O],base.BuiltinsAt mg p)->FnOk l.prog w (K w.params) mg base CX0 154 Y fd ["_law_script"] (spLaw J O (K w.params))) :
  W.WalkO q a4 Z U l.row.toRowW d [] (λf vs=>PySem.call f vs):=
 L2.walk_ofTs (Ps:=[J,O]) (n:=63) (k:=154) (x:="_law_script") (CX:=λ_=>CX0) (sp:=λw=>spLaw J O (K w.params)) hn nofun a3 ⟨rfl,by decide,by decide,rfl⟩ hY a2 a0 F (λ_ _ a ns hl hO hS=>⟨a,ns,rfl,hS,hl,a1,λp hp=>.inl (hO.1 p hp),λ_=>rfl⟩) λ_ _ _ _ _ z=>z
end K66
theorem PySem.W.Fast.tw511257994685417383 : True := trivial
theorem PySem.W.Fast.tw13660611739847556000 : True := trivial
theorem PySem.W.Fast.tw14955729295759496673 : True := trivial
theorem PySem.W.Fast.tw15171441039202104665 : True := trivial
theorem PySem.W.Fast.tw621122065412828472 : True := trivial
theorem PySem.W.Fast.tw18377965309384194607 : True := trivial
theorem PySem.W.Fast.tw13670281661851866364 : True := trivial
theorem PySem.W.Fast.tw6690494078442030356 : True := trivial
theorem PySem.W.Fast.tw9369639163241853351 : True := trivial
theorem PySem.W.Fast.tw5514871387569711869 : True := trivial
theorem PySem.W.Fast.tw3318561534291966181 : True := trivial
theorem PySem.W.Fast.tw10119410377126353430 : True := trivial
theorem PySem.W.Fast.tw3757691178309130001 : True := trivial
theorem PySem.W.Fast.tw17615513936327458941 : True := trivial
theorem PySem.W.Fast.tw10455425347254140190 : True := trivial
theorem PySem.W.Fast.tw17557120438833577906 : True := trivial
theorem PySem.W.Fast.tw2339234024810411299 : True := trivial
theorem PySem.W.Fast.tw11302153868098022721 : True := trivial
theorem PySem.W.Fast.tw18231691620607326040 : True := trivial
theorem PySem.W.Fast.tw5017961658486140771 : True := trivial
theorem PySem.W.Fast.tw9334855959751021555 : True := trivial
theorem PySem.W.Fast.tw13004306391300270285 : True := trivial
theorem PySem.W.Fast.tw18221238081627181522 : True := trivial
theorem PySem.W.Fast.tw16393742089475199076 : True := trivial
theorem PySem.W.Fast.tw17141850419105161183 : True := trivial
theorem PySem.W.Fast.tw10475995282262193225 : True := trivial
theorem PySem.W.Fast.tw14134223035984817300 : True := trivial
theorem PySem.W.Fast.tw6851115284716413078 : True := trivial
theorem PySem.W.Fast.tw3761619694311639053 : True := trivial
theorem PySem.W.Fast.tw1080984779040975202 : True := trivial
theorem PySem.W.Fast.tw9769164530334807462 : True := trivial
theorem PySem.W.Fast.tw16359154358678126278 : True := trivial
theorem PySem.W.Fast.tw18364146498109504678 : True := trivial
theorem PySem.W.Fast.tw4011709565286668454 : True := trivial
theorem PySem.W.Fast.tw14109856686715189019 : True := trivial
theorem PySem.W.Fast.tw17988811945232958421 : True := trivial
theorem PySem.W.Fast.tw17126132043025827631 : True := trivial
theorem PySem.W.Fast.tw18142481006489546058 : True := trivial
theorem PySem.W.Fast.tw1376543794471405072 : True := trivial
theorem PySem.W.Fast.tw8074434220179375975 : True := trivial
theorem PySem.W.Fast.tw7424722675403349676 : True := trivial
theorem PySem.W.Fast.tw9309257408123056534 : True := trivial
theorem PySem.W.Fast.tw18262804976733028763 : True := trivial
theorem PySem.W.Fast.tw7692381827405886735 : True := trivial
theorem PySem.W.Fast.tw17252680568710446467 : True := trivial
theorem PySem.W.Fast.tw15586063470825217257 : True := trivial
theorem PySem.W.Fast.tw13409558659730649904 : True := trivial
theorem PySem.W.Fast.tw14264706804013695956 : True := trivial
theorem PySem.W.Fast.tw896818233454679258 : True := trivial
theorem PySem.W.Fast.tw11815543781656508482 : True := trivial
theorem PySem.W.Fast.tw9214976058704083320 : True := trivial
theorem PySem.W.Fast.tw3542733076988011907 : True := trivial
theorem PySem.W.Fast.tw2565138402646679889 : True := trivial
theorem PySem.W.Fast.tw2921178772786553918 : True := trivial
theorem PySem.W.Fast.tw11831435319927092292 : True := trivial
theorem PySem.W.Fast.tw6540433853588529063 : True := trivial
theorem PySem.W.Fast.tw10047466749370627941 : True := trivial
theorem PySem.W.Fast.tw6850971740785263709 : True := trivial
theorem PySem.W.Fast.tw1970869487566884909 : True := trivial
theorem PySem.W.Fast.tw15107069169044914432 : True := trivial
theorem PySem.W.Fast.tw14044348499845804644 : True := trivial
theorem PySem.W.Fast.tw8069077222406391050 : True := trivial
theorem PySem.W.Fast.tw9021890218817885076 : True := trivial
open PySem PySem.W PyProof.Rows
set_option maxRecDepth 100000 in
set_option maxHeartbeats 0 in
theorem PySem.Challenge.cw_halforder_k66_steps_and_depths_holds : PySem.Challenge.rw_halforder_k66_steps_and_depths.Holds := by
 w_on;o_law;k_head;(case hw=>w_witness2)
 k_fill
 refine K66.walk (l:=PySem.Challenge.rw_halforder_k66_steps_and_depths) rfl rfl ?hPP (λw h Y=>PySem.W.km_in_of Y) (λw h Y p hp=>by {simp only[List.mem_cons,List.not_mem_nil,or_false] at hp;rcases hp with rfl|rfl;exact PySem.W.km_tabs_of Y _ (List.mem_cons_of_mem _ (List.mem_cons_self ..));exact PySem.W.km_tabs_of Y _ (List.mem_cons_self ..)}) (λw p hp=>by {simp only[List.mem_cons,List.not_mem_nil,or_false] at hp;rcases hp with rfl|rfl;kernel_rfl;kernel_rfl}) ?F
 case F=>
  intro w mg fa h KX G hmg;refine' K66.all_mk KX G hmg ?q_aC_Ways ?q_pg_Ways ?q_hd_Ways ?q_po_Ways ?q_sa_Ways ?q_mk_Ways ?q_kc_Ways ?q_n_Ways_names ?q_n_Ways_bits ?q_n_Ways_ahead ?q_n_Ways_full ?q_n_Ways_known ?q_a0 ?q_l0 ?q_c0 ?q_k0 ?q_a1 ?q_l1 ?q_c1 ?q_k1 ?q_a2 ?q_l2 ?q_c2 ?q_k2 ?q_a3 ?q_l3 ?q_c3 ?q_k3 ?q_a4 ?q_l4 ?q_c4 ?q_k4 ?q_a5 ?q_l5 ?q_c5 ?q_k5 ?q_a6 ?q_l6 ?q_c6 ?q_k6 ?q_a7 ?q_l7 ?q_c7 ?q_k7 ?q_a8 ?q_l8 ?q_c8 ?q_k8 ?q_a9 ?q_l9 ?q_c9 ?q_k9 ?q_a10 ?q_l10 ?q_c10 ?q_k10 ?q_a11 ?q_l11 ?q_c11 ?q_k11 ?q_a12 ?q_l12 ?q_c12 ?q_k12 ?q_a13 ?q_l13 ?q_c13 ?q_k13 ?q_a14 ?q_l14 ?q_c14 ?q_k14 ?q_a15 ?q_l15 ?q_c15 ?q_k15 ?q_a16 ?q_l16 ?q_c16 ?q_k16 ?q_a17 ?q_l17 ?q_c17 ?q_k17 ?q_a18 ?q_l18 ?q_c18 ?q_k18 ?q_a19 ?q_l19 ?q_c19 ?q_k19 ?q_a20 ?q_l20 ?q_c20 ?q_k20 ?q_a21 ?q_l21 ?q_c21 ?q_k21 ?q_a22 ?q_l22 ?q_c22 ?q_k22 ?q_a23 ?q_l23 ?q_c23 ?q_k23 ?q_a24 ?q_l24 ?q_c24 ?q_k24 ?q_a25 ?q_l25 ?q_c25 ?q_k25 ?q_a26 ?q_l26 ?q_c26 ?q_k26 ?q_a27 ?q_l27 ?q_c27 ?q_k27 ?q_a28 ?q_l28 ?q_c28 ?q_k28 ?q_a29 ?q_l29 ?q_c29 ?q_k29 ?q_a30 ?q_l30 ?q_c30 ?q_k30 ?q_a31 ?q_l31 ?q_c31 ?q_k31 ?q_a32 ?q_l32 ?q_c32 ?q_k32 ?q_a33 ?q_l33 ?q_c33 ?q_k33 ?q_a34 ?q_l34 ?q_c34 ?q_k34 ?q_a35 ?q_l35 ?q_c35 ?q_k35 ?q_a36 ?q_l36 ?q_c36 ?q_k36 ?q_a37 ?q_l37 ?q_c37 ?q_k37 ?q_a38 ?q_l38 ?q_c38 ?q_k38 ?q_a39 ?q_l39 ?q_c39 ?q_k39 ?q_a40 ?q_l40 ?q_c40 ?q_k40 ?q_a41 ?q_l41 ?q_c41 ?q_k41 ?q_a42 ?q_l42 ?q_c42 ?q_k42 ?q_a43 ?q_l43 ?q_c43 ?q_k43 ?q_a44 ?q_l44 ?q_c44 ?q_k44 ?q_a45 ?q_l45 ?q_c45 ?q_k45 ?q_a46 ?q_l46 ?q_c46 ?q_k46 ?q_a47 ?q_l47 ?q_c47 ?q_k47 ?q_a48 ?q_l48 ?q_c48 ?q_k48 ?q_a49 ?q_i49 ?q_l49 ?q_c49 ?q_k49 ?q_a50 ?q_i50 ?q_l50 ?q_c50 ?q_k50 ?q_a51 ?q_i51 ?q_l51 ?q_c51 ?q_k51 ?q_lc ?q_lh ?q_lg ?q_lc1 ?q_lh1 ?q_lg1 ?q_g0 ?q_z0 ?q_z1 ?q_z2 ?q_z3 ?q_z4 ?q_z5 ?q_z6 ?q_z7 ?q_z8 ?q_z9 ?q_z10 ?q_z11 ?q_z12 ?q_z13 ?q_z14 ?q_z15
  (case q_aC_Ways=>k_is)
  (case q_pg_Ways=>k_is)
  (case q_hd_Ways=>k_is)
  (case q_po_Ways=>k_is)
  (case q_sa_Ways=>k_is)
  (case q_mk_Ways=>k_is)
  (case q_kc_Ways=>k_is)
  (case q_n_Ways_names=>k_is)
  (case q_n_Ways_bits=>k_is)
  (case q_n_Ways_ahead=>k_is)
  (case q_n_Ways_full=>k_is)
  (case q_n_Ways_known=>k_is)
  (case q_a0=>k_is)
  (case q_l0=>k_is)
  (case q_c0=>k_is)
  (case q_k0=>k_is)
  (case q_a1=>k_is)
  (case q_l1=>k_is)
  (case q_c1=>k_is)
  (case q_k1=>k_is)
  (case q_a2=>k_is)
  (case q_l2=>k_is)
  (case q_c2=>k_is)
  (case q_k2=>k_is)
  (case q_a3=>k_is)
  (case q_l3=>k_is)
  (case q_c3=>k_is)
  (case q_k3=>k_is)
  (case q_a4=>k_is)
  (case q_l4=>k_is)
  (case q_c4=>k_is)
  (case q_k4=>k_is)
  (case q_a5=>k_is)
  (case q_l5=>k_is)
  (case q_c5=>k_is)
  (case q_k5=>k_is)
  (case q_a6=>k_is)
  (case q_l6=>k_is)
  (case q_c6=>k_is)
  (case q_k6=>k_is)
  (case q_a7=>k_is)
  (case q_l7=>k_is)
  (case q_c7=>k_is)
  (case q_k7=>k_is)
  (case q_a8=>k_is)
  (case q_l8=>k_is)
  (case q_c8=>k_is)
  (case q_k8=>k_is)
  (case q_a9=>k_is)
  (case q_l9=>k_is)
  (case q_c9=>k_is)
  (case q_k9=>k_is)
  (case q_a10=>k_is)
  (case q_l10=>k_is)
  (case q_c10=>k_is)
  (case q_k10=>k_is)
  (case q_a11=>k_is)
  (case q_l11=>k_is)
  (case q_c11=>k_is)
  (case q_k11=>k_is)
  (case q_a12=>k_is)
  (case q_l12=>k_is)
  (case q_c12=>k_is)
  (case q_k12=>k_is)
  (case q_a13=>k_is)
  (case q_l13=>k_is)
  (case q_c13=>k_is)
  (case q_k13=>k_is)
  (case q_a14=>k_is)
  (case q_l14=>k_is)
  (case q_c14=>k_is)
  (case q_k14=>k_is)
  (case q_a15=>k_is)
  (case q_l15=>k_is)
  (case q_c15=>k_is)
  (case q_k15=>k_is)
  (case q_a16=>k_is)
  (case q_l16=>k_is)
  (case q_c16=>k_is)
  (case q_k16=>k_is)
  (case q_a17=>k_is)
  (case q_l17=>k_is)
  (case q_c17=>k_is)
  (case q_k17=>k_is)
  (case q_a18=>k_is)
  (case q_l18=>k_is)
  (case q_c18=>k_is)
  (case q_k18=>k_is)
  (case q_a19=>k_is)
  (case q_l19=>k_is)
  (case q_c19=>k_is)
  (case q_k19=>k_is)
  (case q_a20=>k_is)
  (case q_l20=>k_is)
  (case q_c20=>k_is)
  (case q_k20=>k_is)
  (case q_a21=>k_is)
  (case q_l21=>k_is)
  (case q_c21=>k_is)
  (case q_k21=>k_is)
  (case q_a22=>k_is)
  (case q_l22=>k_is)
  (case q_c22=>k_is)
  (case q_k22=>k_is)
  (case q_a23=>k_is)
  (case q_l23=>k_is)
  (case q_c23=>k_is)
  (case q_k23=>k_is)
  (case q_a24=>k_is)
  (case q_l24=>k_is)
  (case q_c24=>k_is)
  (case q_k24=>k_is)
  (case q_a25=>k_is)
  (case q_l25=>k_is)
  (case q_c25=>k_is)
  (case q_k25=>k_is)
  (case q_a26=>k_is)
  (case q_l26=>k_is)
  (case q_c26=>k_is)
  (case q_k26=>k_is)
  (case q_a27=>k_is)
  (case q_l27=>k_is)
  (case q_c27=>k_is)
  (case q_k27=>k_is)
  (case q_a28=>k_is)
  (case q_l28=>k_is)
  (case q_c28=>k_is)
  (case q_k28=>k_is)
  (case q_a29=>k_is)
  (case q_l29=>k_is)
  (case q_c29=>k_is)
  (case q_k29=>k_is)
  (case q_a30=>k_is)
  (case q_l30=>k_is)
  (case q_c30=>k_is)
  (case q_k30=>k_is)
  (case q_a31=>k_is)
  (case q_l31=>k_is)
  (case q_c31=>k_is)
  (case q_k31=>k_is)
  (case q_a32=>k_is)
  (case q_l32=>k_is)
  (case q_c32=>k_is)
  (case q_k32=>k_is)
  (case q_a33=>k_is)
  (case q_l33=>k_is)
  (case q_c33=>k_is)
  (case q_k33=>k_is)
  (case q_a34=>k_is)
  (case q_l34=>k_is)
  (case q_c34=>k_is)
  (case q_k34=>k_is)
  (case q_a35=>k_is)
  (case q_l35=>k_is)
  (case q_c35=>k_is)
  (case q_k35=>k_is)
  (case q_a36=>k_is)
  (case q_l36=>k_is)
  (case q_c36=>k_is)
  (case q_k36=>k_is)
  (case q_a37=>k_is)
  (case q_l37=>k_is)
  (case q_c37=>k_is)
  (case q_k37=>k_is)
  (case q_a38=>k_is)
  (case q_l38=>k_is)
  (case q_c38=>k_is)
  (case q_k38=>k_is)
  (case q_a39=>k_is)
  (case q_l39=>k_is)
  (case q_c39=>k_is)
  (case q_k39=>k_is)
  (case q_a40=>k_is)
  (case q_l40=>k_is)
  (case q_c40=>k_is)
  (case q_k40=>k_is)
  (case q_a41=>k_is)
  (case q_l41=>k_is)
  (case q_c41=>k_is)
  (case q_k41=>k_is)
  (case q_a42=>k_is)
  (case q_l42=>k_is)
  (case q_c42=>k_is)
  (case q_k42=>k_is)
  (case q_a43=>k_is)
  (case q_l43=>k_is)
  (case q_c43=>k_is)
  (case q_k43=>k_is)
  (case q_a44=>k_is)
  (case q_l44=>k_is)
  (case q_c44=>k_is)
  (case q_k44=>k_is)
  (case q_a45=>k_is)
  (case q_l45=>k_is)
  (case q_c45=>k_is)
  (case q_k45=>k_is)
  (case q_a46=>k_is)
  (case q_l46=>k_is)
  (case q_c46=>k_is)
  (case q_k46=>k_is)
  (case q_a47=>k_is)
  (case q_l47=>k_is)
  (case q_c47=>k_is)
  (case q_k47=>k_is)
  (case q_a48=>k_is)
  (case q_l48=>k_is)
  (case q_c48=>k_is)
  (case q_k48=>k_is)
  (case q_a49=>k_is)
  (case q_i49=>k_is)
  (case q_l49=>k_is)
  (case q_c49=>k_is)
  (case q_k49=>k_is)
  (case q_a50=>k_is)
  (case q_i50=>k_is)
  (case q_l50=>k_is)
  (case q_c50=>k_is)
  (case q_k50=>k_is)
  (case q_a51=>k_is)
  (case q_i51=>k_is)
  (case q_l51=>k_is)
  (case q_c51=>k_is)
  (case q_k51=>k_is)
  (case q_lc=>rfl)
  (case q_lh=>kernel_rfl)
  (case q_lg=>decide)
  (case q_lc1=>rfl)
  (case q_lh1=>kernel_rfl)
  (case q_lg1=>decide)
  (case q_g0=>k_is)
  (case q_z0=>k_is)
  (case q_z1=>k_is)
  (case q_z2=>k_is)
  (case q_z3=>k_is)
  (case q_z4=>k_is)
  (case q_z5=>k_is)
  (case q_z6=>k_is)
  (case q_z7=>k_is)
  (case q_z8=>k_is)
  (case q_z9=>k_is)
  (case q_z10=>k_is)
  (case q_z11=>k_is)
  (case q_z12=>k_is)
  (case q_z13=>k_is)
  (case q_z14=>k_is)
  (case q_z15=>k_is)
 case hPP=>decide
