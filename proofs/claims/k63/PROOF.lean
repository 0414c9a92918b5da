import PyProof.Rows.All
import Wide.All
import OpenK.AllK
import Wide.FinOn
import PyProof.EqAt
import PyProof.EqKinds
import PyProof.TupleCall
import Lean
import PyProof.DictWalks
import PyProof.DictIter
import PyProof.P3In
import KE.KEqSeq
import PyProof.ReprLen
import PyProof.ReprRoads
import PyProof.StrOps2
import KE.KRevSl
import PyProof.IsRules
import PyProof.StrLawsIdx
import PyProof.Rows.RegRepr
import PyProof.Rows.RegFStrParts
import PyProof.DictUpdate
import PyProof.AttrMissHeap
import PyProof.Walks
import KE.KDictOf
import PyProof.EnumIter
import PyProof.EnumFor
import PyProof.LayNew
import PyProof.EnumMake
import PyProof.Draws
import PyProof.WalksT
import PyProof.TupleIter
import PyProof.WalksMore
import KE.KRevIter
import KE.KEqDict
import PyProof.Rows.SetFrom
import PyProof.StrLawsTight
import PyProof.StrLawsChain
import PyProof.SumWalk
import PyProof.Rows.SortStr
import PyProof.Rows.SortWalk
import PyProof.TupleOfSeq
import KE.KDictSum
import KE.KSortTup
import PyProof.ListRange
import PyProof.ZipIter
import PyProof.Rows.ZipGen
import KE.KItemsList
import PyProof.ExcArgsOwn
import PyProof.InstStoreFacts
import PyProof.ExcBaseAll.ValueError
import PyProof.StationsW
import PyProof.RulesAs
import PyProof.RulesDel
import PyProof.NeKinds
import PyProof.ListMulAny
import KE.KMinBuiltin
import PyProof.Rows.CallKwBuiltin
import KE.KLam
import KE.KMinKey
import PyProof.WalkInts
import KE.KNestM
import PyProof.SeqI3
import KE.KSortKey
import PyProof.MaxThree
import PySem.Challenge.RW_halforder_k63_plans_amiss
local macro_rules | `(tactic| eq_refl) => `(tactic| with_unfolding_all exact Or.inl rfl)
local macro_rules | `(tactic| ac_rfl) => `(tactic| with_unfolding_all exact fun _ _ => rfl)
local macro_rules | `(tactic| ac_nf) => `(tactic| with_unfolding_all rfl)
noncomputable section
local macro_rules | `(⋯) => `(by ac_nf)
local macro_rules | `(∅) => `(by omega)
local macro_rules | `(nofun) => `(by decide)
local macro_rules | `(tactic| symm) => `(tactic| walk_at "rd")
def A00:=@PySem.wpAny_bind
def A01:=@List.length_map
def A02:=@PySem.Heap.get?_push_of_some
def A03:=@List.getElem?_eq_some_iff
def A04:=@List.length_append
def A05:=@PySem.wpAny_pure
def A06:=@Nat.le_refl
def A07:=@List.getElem?_eq_getElem
def A08:=@List.mem_cons_of_mem
def A09:=@List.getElem?_map
def A0A:=@PySem.W.mg_of
def A0B:=@List.mem_of_getElem?
def A0C:=@List.mem_cons_self
def A0D:=@PySem.Heap.lt_size
def A0E:=@List.mem_append
def A0F:=@List.mem_append_right
def A0G:=@List.mem_singleton
def A0H:=@List.mem_cons
def A0I:=@Bool.false_ne_true
def A0J:=@List.length_singleton
def A0K:=@List.mem_map
def A0L:=@Nat.le_trans
def A0M:=@List.size_toArray
def A0N:=@List.map_append
def A0O:=@PySem.Heap.get?_push_size
def A0P:=@decide_eq_true
def A0Q:=@List.map_cons
def A0R:=@decide_eq_false
def A0S:=@Nat.lt_of_lt_of_le
def A0T:=@List.mem_append_left
def A0U:=@List.length_take
def A0V:=@List.length_cons
def A0W:=@beq_eq_false_iff_ne
def A0X:=@List.mem_filter
def A0Y:=@PySem.F.plainAttrs_list
def A0Z:=@Option.some.inj
def A10:=@Nat.ne_of_lt
def A11:=@PySem.PassesOwn.never
def A12:=@if_pos
def A13:=@if_neg
def A14:=@List.length_drop
def A15:=@Bool.and_eq_true
def A16:=@PySem.sizeLine_eq
def A17:=@PyProof.Rows.slot_tuple_getitem
def A18:=@List.take_add_one
def A19:=@List.nodup_cons
def A1A:=@List.take_length
def A1B:=@PySem.W.mg_none_of
def A1C:=@PySem.W.kia_one
def A1D:=@PySem.wpAny_newObj_type
def A1E:=@List.length_eq_zero_iff
def A1F:=@List.filter_cons
def A1G:=@List.nodup_append
def A1H:=@PySem.F.slot_list_append
def A1I:=@PySem.F.type_list_append
def A1J:=@List.map_map
def A1K:=@List.lookup_cons
def A1L:=@List.length_range
def A1M:=@Option.map_eq_some_iff
def A1N:=@Bool.eq_iff_iff
def A1O:=@Nat.lt_irrefl
def A1P:=@PySem.wpAny_mono
def A1Q:=@List.length_filter_le
def A1R:=@List.append_nil
def A1S:=@PySem.wpAny_Call_Name_kw
def A1T:=@PySem.wpAny_holding
def A1U:=@List.getElem_inj
def A1V:=@PySem.Heap.get?_update_other
def A1W:=@List.take_of_length_le
def A1X:=@List.map_congr_left
def A1Y:=@decide_eq_true_eq
def A1Z:=@True.intro
def A20:=@List.getElem?_set_ne
def A21:=@of_decide_eq_true
def A22:=@PySem.wpAny_field
def A23:=@PySem.Calls.Name_function_global
def A24:=@Array.getElem?_eq_some_iff
def A25:=@beq_iff_eq
def A26:=@List.all_eq_true
def A27:=@List.any_eq_true
def A28:=@Nat.le_of_lt
def A29:=@List.length_replicate
def A2A:=@List.filter_append
def A2B:=@Nat.mul_le_mul
def A2C:=@List.mem_of_mem_take
def A2D:=@PySem.F.slot_tuple_index
def A2E:=@PySem.wpAny_loadPart_at
def A2F:=@PySem.mem_of_lookup
def A2G:=@List.replicate_succ
def A2H:=@Nat.zero_le
def A2I:=@List.getElem_of_mem
def A2J:=@List.mem_flatMap
def A2K:=@List.mem_range
def A2L:=@List.pairwise_cons
def A2M:=@PySem.wpAny_passesOwn
def A2N:=@List.append_assoc
def A2O:=@List.flatMap_cons
def A2P:=@List.mem_of_mem_drop
def A2Q:=@List.getElem?_append_left
def A2R:=@Int.toNat_of_nonneg
def A2S:=@List.length_reverse
def A2T:=@List.filter_eq_self
def A2U:=@PySem.F.type_tuple_index
def A2V:=@PySem.Paired.length
def A2W:=@PySem.Calls.spliced_cons
def A2X:=@PySem.wpAny_callSpecial?_slot
def A2Y:=@List.any_cons
def A2Z:=@PySem.wpAny_getItem_str_slice
def A30:=@List.sum_cons
def A31:=@PySem.W.tail_of_in
def A32:=@List.contains_cons
def A33:=@Int.emod_lt_of_pos
def A34:=@List.map_take
def A35:=@List.getElem?_set_self
def A36:=@List.length_pos_of_mem
def A37:=@List.singleton_sublist
def A38:=@PySem.wpAny_truthy_bool
def A39:=@List.filter_congr
def A3A:=@Nat.ne_of_gt
def A3B:=@PyProof.Rows.callWith_builtin1
def A3C:=@PySem.wpAny_typeOf
def A3D:=@PySem.Heap.get?_update_self
def A3E:=@PySem.Obj.isFreed_of_fields
def A3F:=@Nat.min_le_right
def A3G:=@PySem.wpAny_call_entry
def A3H:=@PySem.Heap.get?_none_of_le
def A3I:=@PySem.W.looks_findIn
def A3J:=@List.cons.inj
def A3K:=@List.map_drop
def A3L:=@PySem.wpAny_call
def A3M:=@PySem.call_meets
def A3N:=@PyProof.Rows.callWith_type1
def A3O:=@PyProof.Rows.entry_tuple_getitem
def A3P:=@Or.inr
def A3Q:=@List.flatMap_append
def A3R:=@List.filter_sublist
def A3S:=@Int.emod_nonneg
def A3T:=@List.getElem?_append_right
def A3U:=@PyProof.Rows.args_tuple_getitem
def A3V:=@PySem.Heap.IsSliceOf.new
def A3W:=@Nat.lt_trans
def A3X:=@PySem.tupleKind_room_in1
def A3Y:=@List.lookup_append
def A3Z:=@decide_eq_true_iff
def A40:=@Nat.add_sub_cancel
def A41:=@PySem.Heap.size_push
def A42:=@PySem.wpAny_Name
def A43:=@PySem.Calls.loadGlobal_builtin
def A44:=@PySem.Calls.spliced_nil
def A45:=@PySem.wpAny_sequenceKey
def A46:=@List.flatten_cons
def A47:=@PySem.F.slot_list_extend
def A48:=@PySem.F.type_list_extend
def A49:=@List.getElem?_replicate
def A4A:=@PyProof.Rows.tupleItemsOf_
def A4B:=@PySem.evalPart_none
def A4C:=@beq_self_eq_true
def A4D:=@List.getElem_mem
def A4E:=@PySem.Calls.callWith_builtin
def A4F:=@PySem.wpAny_execs_nil
def A4G:=@PySem.codeAny_mono
def A4H:=@List.of_mem_zip
def A4I:=@List.foldl_cons
def A4J:=@Array.getElem?_toList
def A4K:=@PySem.post_val_or_str
def A4L:=@List.getElem?_eq_none
def A4M:=@List.take_append_drop
def A4N:=@List.range_succ
def A4O:=@PyProof.Rows.Subscript_
def A4P:=@PySem.wpAny_loadName_local
def A4Q:=@PySem.wpAny_loadName_free
def A4R:=@Array.length_toList
def A4S:=@Nat.le_succ
def A4T:=@PySem.wpAny_isSubtype_exc
def A4U:=@PySem.W.looks_mroIn
def A4V:=@PySem.W.looks_clsIn
def A4W:=@List.mem_filterMap
def A4X:=@PySem.W.callWith_K
def A4Y:=@PySem.evalPart_some
def A4Z:=@PySem.wpAny_standAt
def A50:=@List.Nodup.sublist
def A51:=@PySem.Value.ref.inj
def A52:=@PySem.Obj.data_mapFields
def A53:=@List.getElem?_drop
def A54:=@List.zip_cons_cons
set_option linter.all false
set_option maxRecDepth 100000
set_option maxHeartbeats 4000000
set_option Elab.async false
set_option compiler.extract_closed false
namespace L2
open PySem PySem.Spec PyProof.Rows
abbrev Key:=Sum Int Str
def Qd:Key->Value->Bool
 |.inl k,v=>Value.isInt k v
 |.inr x,v=>Value.isStrOf x v
def keyH (w:World):Key->Int
 |.inl k=>hashInt k
 |.inr x=>hashStr w x
theorem Bh:∀ {k:Key} {v:Value},Qd k v=true->(∃ i t,k=Sum.inl i/\v=Value.int i t)\/(∃ x t,k=Sum.inr x/\v=Value.str x t)
 |.inl i,v,h=>by obtain⟨t,e⟩:=Value.isInt_shape (k:=i) (v:=v) h;exact .inl ⟨i,t,rfl,e⟩
 |.inr x,v,h=>by obtain⟨t,e⟩:=Value.isStrOf_shape (x:=x) (v:=v) h;exact .inr ⟨x,t,rfl,e⟩
theorem Zx (i:Int)(t:Tok):Qd (.inl i) (.int i t)=true:=by simp[Qd,Value.isInt]
theorem Xk (x:Str)(t:Tok):Qd (.inr x) (.str x t)=true:=by simp[Qd,Value.isStrOf]
theorem ar8 (a b:Int):decide ((Sum.inl a:Key)=Sum.inl b)=(a==b):=by
 by_cases e:a=b
 . subst e;simp
 have h:¬ (Sum.inl a:Key)=Sum.inl b:=λq=>e (Sum.inl.inj q);rw[A0R h];exact(A0W.mpr e).symm
theorem am6 (a b:Str):decide ((Sum.inr a:Key)=Sum.inr b)=decide (a=b):=by
 by_cases e:a=b
 . subst e;simp
 have h:¬ (Sum.inr a:Key)=Sum.inr b:=λq=>e (Sum.inr.inj q);rw[A0R h,A0R e]
theorem an6 (a:Int)(b:Str):decide ((Sum.inl a:Key)=Sum.inr b)=false:=A0R (λq=>nomatch q)
theorem at1 (a:Str)(b:Int):decide ((Sum.inr a:Key)=Sum.inl b)=false:=A0R (λq=>nomatch q)
def B1 (prog:Program)(w:World):PySem.KeyKind prog w Key where
 is:=Qd
 hash:=keyH w
 inj:=λv a b ha hb=>by
  rcases Bh ha with ⟨i,t,rfl,rfl⟩|⟨x,t,rfl,rfl⟩
  . rcases Bh hb with ⟨j,u,rfl,e⟩|⟨y,u,rfl,e⟩
    . injection e with e1 _;rw[e1]
    exact nomatch e
  rcases Bh hb with ⟨j,u,rfl,e⟩|⟨y,u,rfl,e⟩
  . exact nomatch e
  injection e with e1 _;rw[e1]
 byValue:=λk v h=>by rcases Bh h with ⟨i,t,rfl,rfl⟩|⟨x,t,rfl,rfl⟩<;>rfl
 pyHash:=λhv h=>by
  rcases Bh hv with ⟨i,t,rfl,rfl⟩|⟨x,t,rfl,rfl⟩
  . exact wpAny_pyHash_int h
  exact wpAny_pyHash_str h
 eqBool:=λhu hv h=>by
  rcases Bh hu with ⟨i,t,rfl,rfl⟩|⟨x,t,rfl,rfl⟩
  . rcases Bh hv with ⟨j,u,rfl,rfl⟩|⟨y,u,rfl,rfl⟩
    . rw[ar8] at h;exact wpAny_eqBool_int h
    rw[an6] at h;exact SeqAt.EqAt.int_str i t y u _ _ _ _ h
  rcases Bh hv with ⟨j,u,rfl,rfl⟩|⟨y,u,rfl,rfl⟩
  . rw[at1] at h;exact SeqAt.EqAt.str_int x t j u _ _ _ _ h
  rw[am6] at h;exact wpAny_eqBool_str h
 «strs»:=λk x t v h=>by
  rcases Bh h with ⟨i,u,rfl,e⟩|⟨y,u,rfl,e⟩
  . exact nomatch e
  injection e with e1 _;subst e1
  cases v<;>rfl
theorem T2 (prog:Program)(w:World)(i:Int)(t:Tok):(B1 prog w).is (.inl i) (.int i t)=true:=Zx i t
theorem T0 (prog:Program)(w:World)(x:Str)(t:Tok):(B1 prog w).is (.inr x) (.str x t)=true:=Xk x t
inductive V where
 |non | bl (b:Bool) | int (i:Int) | str (x:Str) | byt (b:Array UInt8) | flt (b:UInt64) | ref (a:Addr) | ty (n:String)
 deriving DecidableEq
def RelV:V->Value->Prop
 |.non,u=>u=Value.none
 |.bl b,u=>u=Value.bool b
 |.int i,u=>∃ t,u=Value.int i t
 |.str x,u=>∃ t,u=Value.str x t
 |.byt b,u=>∃ t,u=Value.bytes b t
 |.flt b,u=>∃ t,u=Value.float b t
 |.ref a,u=>u=Value.ref a
 |.ty n,u=>u=Value.type n
abbrev Vals:List V->List Value->Prop:=Paired RelV
theorem Vals.length {xs:List V} {us:List Value} (r:Vals xs us):xs.length=us.length:=A2V r
theorem Vals.get:∀ {xs:List V} {us:List Value} {i:Nat} {x:V},Vals xs us->xs[i]? = some x->∃ u,us[i]? = some u/\RelV x u
 |_,_,_,_,.nil,e=>by simp at e
 |_,_,0,_,.cons r _,e=>by simp at e;subst e;exact⟨_,rfl,r⟩
 |_,_,i+1,x,.cons _ t,e=>by obtain⟨u,h1,h2⟩:=Vals.get (i:=i) (x:=x) t (by simpa using e);exact⟨u,by simpa using h1,h2⟩
theorem Vals.append:∀ {xs ys:List V} {us ws:List Value},Vals xs us->Vals ys ws->Vals (xs++ys) (us++ws)
 |_,_,_,_,.nil,s=>s
 |_,_,_,_,.cons r t,s=>.cons r (Vals.append t s)
theorem Vals.take:∀ {xs:List V} {us:List Value} (n:Nat),Vals xs us->Vals (xs.take n) (us.take n)
 |_,_,0,_=>.nil
 |_,_,_+1,.nil=>.nil
 |_,_,n+1,.cons r t=>.cons r (Vals.take n t)
theorem Vals.drop:∀ {xs:List V} {us:List Value} (n:Nat),Vals xs us->Vals (xs.drop n) (us.drop n)
 |_,_,0,r=>r
 |_,_,_+1,.nil=>.nil
 |_,_,n+1,.cons _ t=>Vals.drop n t
def RelO:Option V->Option Value->Prop
 |some v,some u=>RelV v u
 |none,none=>True
 |_,_=>False
def KV {κ:Type}:List (κ×V)->List (κ×Value)->Prop:=Paired λ(p:κ×V) (q:κ×Value)=>p.1=q.1/\RelV p.2 q.2
def kV:Key->V
 |.inl i=>.int i
 |.inr x=>.str x
def IsTupN (h:Heap)(a:Addr)(items:Array Value):Prop:=∃ o,h.get? a=some o/\o.cls = .type "tuple" /\ (∃ n,o.data = .seq items n)/\o.dict=none
theorem IsTupN.tup {h:Heap}{a:Addr}{items:Array Value}(x:IsTupN h a items):IsTup h a items:=let ⟨o,h1,h2,⟨n,h3⟩,_⟩:=x;⟨o,h1,h2,n,h3⟩
theorem IsTupN.new (h:Heap)(its:Array Value):IsTupN (h.push {cls:=.type "tuple",data:=.seq its}) h.objs.size its:=⟨_,A0O _ rfl,rfl,⟨_,rfl⟩,rfl⟩
inductive HO where
 |lst (xs:List V)
 |tup (xs:List V)
 |dK (kvs:List (Key×V)) | dT (kvs:List (List Key×V))
 |set (S:Int->Bool) (n:Nat)
 |ins (C dx:Addr) (fs:List (Str×V))
 |own (x:Addr)
 |xd (fs:List (Str×V))
 |met (f x:Addr)
 |rng (lo hi:Int)
 |frz (o:Obj) (u:HO)
 |tbl (ps:Array Value)
 |ext (φ:Heap->Prop)
abbrev Hp:=Addr->Option HO
def upd (H:Hp)(a:Addr)(o:HO):Hp:=λb=>if b=a then some o else H b
theorem A9 {H:Hp}{a:Addr}{o:HO}:upd H a o a=some o:=by unfold upd;rw[if_pos rfl]
theorem Ag {H:Hp}{a b:Addr}{o:HO}(h:b≠a):upd H a o b=H b:=by unfold upd;rw[if_neg h]
theorem ne_of {H:Hp}{a b:Addr}{o u:HO}(h:H a=some o)(h':H b=some u)(d:o≠u):a≠b:=by intro e;subst e;rw[h] at h';exact d (A0Z h')
theorem ne_of_none {H:Hp}{a b:Addr}{o:HO}(h:H a=some o)(h':H b=none):a≠b:=by intro e;subst e;rw[h] at h';cases h'
section
variable (P:Program)(w:World)
def ObjOk (H:Hp)(h:Heap)(a:Addr):HO->Prop
 |.lst xs=>xs.length<=sizeLine/\∃(its:List Value) (n:Nat),Vals xs its/\h.get? a=some {cls:=.type "list",data:=.seq its.toArray n}
 |.tup xs=>xs.length<=sizeLine/\∃ its:List Value,Vals xs its/\IsTupN h a its.toArray
 |.dK kvs=>kvs.length<=sizeLine/\(a==sysModules)=false/\∃ vs,KV kvs vs/\h.DictOf (B1 P w) a vs
 |.dT kvs=>kvs.length<=sizeLine/\(a==sysModules)=false/\∃ xs:List (List Key×Addr×Value),
   Paired (λ(p:List Key×V) (q:List Key×Addr×Value)=>p.1=q.1/\H q.2.1=some (.tup (p.1.map kV))/\RelV p.2 q.2.2) kvs xs /\
   ∃ o es ep,h.get? a=some o/\o.ExactDict/\o.data = .dict es ep/\es.toList=xs.map (entryOfKey (tupleKind (B1 P w)))/\(xs.map (·.1)).Nodup
 |.set S n=>h.SetOf (intKind P w) a S n
 |.ins C dx fs=>H dx=some (.own a)/\fs.length<=1000/\dx≠a/\h.get? a=some (W.instObj C dx) /\
   ∃ mA,h.Ns1 dx mA/\(∀ f,RelO (fs.lookup f) (mA f))/\PySem.Within mA (fs.map (·.1))
 |.own _=>∃ o,h.get? a=some o
 |.xd fs=>∃ mA,h.Ns1 a mA/\∀ f,RelO (fs.lookup f) (mA f)
 |.rng lo hi=>∃ t u v,h.get? a=some {cls:=.type "range",data:=.fields #[.int lo t,.int hi u,.int 1 v]}
 |.frz o u=>h.get? a=some o/\ObjOk H h a u
 |.tbl ps=>h.get? a=some {cls:=.none,data:=.fields ps}
 |.met f x=>h.get? a=some (W.methodObj (.ref f) (.ref x))
 |.ext φ=>φ h/\(∃ o,h.get? a=some o)/\∀ h1 h2:Heap,φ h1->(∀ o,h1.get? a=some o->h2.get? a=some o)->φ h2
def HOk (H:Hp)(h:Heap):Prop:=∀ a o,H a=some o->ObjOk P w H h a o
end
section
variable {P:Program}{w:World}{H H':Hp}{h h':Heap}{a:Addr}{o:HO}
theorem ObjOk.lt (x:ObjOk P w H h a o):a<h.objs.size:=by
 cases o with
 |lst xs=>obtain⟨_,_,_,_,e⟩:=x;exact A0D e
 |tup xs=>obtain⟨_,_,_,p⟩:=x;exact p.tup.lt
 |dK kvs=>obtain⟨_,_,_,_,o,_,_,e,_⟩:=x;exact A0D e
 |dT kvs=>obtain⟨_,_,_,_,o,_,_,e,_⟩:=x;exact A0D e
 |set S n=>obtain⟨o,_,_,_,e,_⟩:=x;exact A0D e
 |ins C dx fs=>obtain⟨_,_,_,e,_⟩:=x;exact A0D e
 |own y=>obtain⟨_,e⟩:=x;exact A0D e
 |xd fs=>obtain⟨_,⟨_,_,_,e,_⟩,_⟩:=x;exact A0D e
 |rng lo hi=>obtain⟨_,_,_,e⟩:=x;exact A0D e
 |frz ob u=>obtain⟨e,_⟩:=x;exact A0D e
 |tbl ps=>exact A0D (show h.get? a=some _ from x)
 |met f y=>exact A0D (show h.get? a=some _ from x)
 |ext φ=>obtain⟨_,⟨_,e⟩,_⟩:=x;exact A0D e
theorem Paired.mapP {α β:Type}{F G:α->β->Prop}:∀ {l₁:List α} {l₂:List β},Paired F l₁ l₂->(∀ a b,F a b->G a b)->Paired G l₁ l₂
 |_,_,.nil,_=>.nil
 |_,_,.cons r t,f=>.cons (f _ _ r) (Paired.mapP t f)
theorem ObjOk.stay (x:ObjOk P w H h a o)(k:∀ b u,(b=a\/H b=some (.own a))->h.get? b=some u->h'.get? b=some u)
  (ho:∀ b,H b=some (.own a)->H' b=some (.own a)) (ht:∀ b xs,H b=some (.tup xs)->H' b=some (.tup xs)):ObjOk P w H' h' a o:=by
 induction o with
 |lst xs=>obtain⟨z,its,n,r,e⟩:=x;exact⟨z,its,n,r,k _ _ (.inl rfl) e⟩
 |tup xs=>obtain⟨z,its,r,ob,e,c⟩:=x;exact⟨z,its,r,ob,k _ _ (.inl rfl) e,c⟩
 |dK kvs=>obtain⟨z,y,vs,r,ob,es,ep,e,c⟩:=x;exact⟨z,y,vs,r,ob,es,ep,k _ _ (.inl rfl) e,c⟩
 |dT kvs=>obtain⟨z,y,xs,r,ob,es,ep,e,c⟩:=x;exact⟨z,y,xs,Paired.mapP r λp q z=>⟨z.1,ht _ _ z.2.1,z.2.2⟩,ob,es,ep,k _ _ (.inl rfl) e,c⟩
 |set S n=>obtain⟨ob,es,ep,t,e,c⟩:=x;exact⟨ob,es,ep,t,k _ _ (.inl rfl) e,c⟩
 |ins C dx fs=>obtain⟨d,z,ne,e,mA,⟨od,es,ep,e2,c⟩,r⟩:=x;exact⟨ho _ d,z,ne,k _ _ (.inl rfl) e,mA,⟨od,es,ep,k _ _ (.inr d) e2,c⟩,r⟩
 |own y=>obtain⟨ob,e⟩:=x;exact⟨ob,k _ _ (.inl rfl) e⟩
 |xd fs=>obtain⟨mA,⟨od,es,ep,e,c⟩,r⟩:=x;exact⟨mA,⟨od,es,ep,k _ _ (.inl rfl) e,c⟩,r⟩
 |rng lo hi=>obtain⟨t,u,v,e⟩:=x;exact⟨t,u,v,k _ _ (.inl rfl) e⟩
 |frz ob u ih=>obtain⟨e,q⟩:=x;exact⟨k _ _ (.inl rfl) e,ih q⟩
 |tbl ps=>have e:h.get? a=some {cls:=.none,data:=.fields ps}:=x;show h'.get? a=some {cls:=.none,data:=.fields ps};exact k a _ (.inl rfl) e
 |met f y=>have e:h.get? a=some (W.methodObj (.ref f) (.ref y)):=x;show h'.get? a=some (W.methodObj (.ref f) (.ref y));exact k a _ (.inl rfl) e
 |ext φ=>obtain⟨p,⟨o,e⟩,st⟩:=x;exact⟨st _ _ p λo q=>k _ _ (.inl rfl) q,⟨o,k _ _ (.inl rfl) e⟩,st⟩
theorem HOk.lt (x:HOk P w H h)(e:H a=some o):a<h.objs.size:=(x a o e).lt
theorem HOk.fresh (x:HOk P w H h)(e:h.objs.size<=a):H a=none:=by
 cases q:H a with
 |none=>rfl
 |some u=>exact absurd (A0S (x.lt q) e) (A1O _)
theorem HOk.kept (x:HOk P w H h)(k:∀ b u,h.get? b=some u->h'.get? b=some u):HOk P w H h':=λa o e=>
 (x a o e).stay (λb u _ q=>k b u q) (λ_ q=>q) λ_ _ q=>q
theorem HOk.laid (x:HOk P w H h)(k:∀ b u,h.get? b=some u->h'.get? b=some u)(hp:h.objs.size<=a)(new:ObjOk P w (upd H a o) h' a o):HOk P w (upd H a o) h':=λb u e=>by
 have hn:=x.fresh hp
 by_cases hb:b=a
 . subst hb;rw[A9] at e;cases e;exact new
 rw[Ag hb] at e;exact(x b u e).stay (λc v _ q=>k c v q) (λc q=>by rw[Ag (ne_of_none q hn)];exact q) λc xs q=>by rw[Ag (ne_of_none q hn)];exact q
end
def Rd (H:Hp)(a:Addr)(u:HO):Prop:=H a=some u\/∃ o,H a=some (.frz o u)
theorem Rd.ok {P:Program}{w:World}{H:Hp}{h:Heap}{a:Addr}{u:HO}(r:Rd H a u)(x:HOk P w H h):ObjOk P w H h a u:=by
 rcases r with r|⟨o,r⟩
 . exact x a u r
 obtain⟨_,q⟩:=x a _ r;exact q
def Mut:Option HO->Prop
 |some (.lst _)=>True
 |some (.dK _)=>True
 |some (.dT _)=>True
 |some (.set _ _)=>True
 |some (.ins _ _ _)=>True
 |some (.ext _)=>True
 |_=>False
section
variable {P:Program}{w:World}{H:Hp}{h h':Heap}{x e:Addr}{o':HO}
theorem HOk.write (ok:HOk P w H h)(mu:Mut (H x))(he:e=x\/H e=some (.own x))(k:∀ b u,b≠e->h.get? b=some u->h'.get? b=some u)(heo:∃ u,h'.get? e=some u)
  (new:ObjOk P w (upd H x o') h' x o'):HOk P w (upd H x o') h':=λb u q=>by
 have nown:∀ c y,H c=some (.own y)->c≠x:=λc y r z=>by subst z;rw[r] at mu;exact mu
 have ntup:∀ c xs,H c=some (.tup xs)->c≠x:=λc xs r z=>by subst z;rw[r] at mu;exact mu
 by_cases hb:b=x
 . subst hb;rw[A9] at q;cases q;exact new
 rw[Ag hb] at q
 by_cases hbe:b=e
 . have q':H b=some (.own x):=by
    rcases he with z|z
    . exact absurd (hbe.trans z) hb
    rw[hbe];exact z
   rw[q] at q';cases q';obtain⟨v,hv⟩:=heo;exact⟨v,by rw[hbe];exact hv⟩
 refine(ok b u q).stay (λc v hc r=>k c v ?_ r) (λc r=>by rw[Ag (nown c b r)];exact r) λc xs r=>by rw[Ag (ntup c xs r)];exact r
 rcases hc with rfl|hc
 . exact hbe
 rintro rfl;rcases he with z|z
 . exact nown c b hc z
 rw[hc] at z;cases z;exact hb rfl
end
structure Un (fs ex:List Addr)(H H':Hp)(h h':Heap):Prop where
 keep:∀ b o,h.get? b=some o->H b=none->b∉fs->b∉ex->h'.get? b=some o
 slot:∀ b o,h.get? b=some o->H b=none->b∈fs->b∉ex->∃ sl,h'.get? b=some {o with slots:=sl}
 free:∀ b o,h.get? b=some o->H b=none->b∉ex->H' b=none
 there:∀ b o,h.get? b=some o->b∉ex->∃ o',h'.get? b=some o'
 tups:∀ b xs,H b=some (.tup xs)->H' b=some (.tup xs)
 frzs:∀ b o u,H b=some (.frz o u)->H' b=some (.frz o u)
 tbls:∀ b ps,H b=some (.tbl ps)->∃ more,H' b=some (.tbl (ps++more))
section
variable {fs fs' ex ex':List Addr}{H H1 H2:Hp}{h h1 h2 h':Heap}{a x e:Addr}{o:HO}
theorem Un.any (u:Un fs ex H H1 h h1){b:Addr}{ob:Obj}(q:h.get? b=some ob)(n:H b=none)(hx:b∉ex):∃ sl,h1.get? b=some {ob with slots:=sl}:=by
 by_cases hb:b∈fs
 . exact u.slot b ob q n hb hx
 exact⟨ob.slots,u.keep b ob q n hb hx⟩
theorem Un.kept (k:∀ b u,h.get? b=some u->h'.get? b=some u):Un fs ex H H h h':=
 ⟨λb ob q _ _ _=>k b ob q,λb ob q _ _ _=>⟨ob.slots,k b ob q⟩,λ_ _ _ n _=>n,λb ob q _=>⟨ob,k b ob q⟩,λ_ _ q=>q,λ_ _ _ q=>q,λ_ ps q=>⟨#[],by rw[q];simp⟩⟩
theorem Un.refl:Un fs ex H H h h:=Un.kept λ_ _ q=>q
theorem Un.laid (k:∀ b u,h.get? b=some u->h'.get? b=some u)(hp:h.objs.size<=a)(hn:H a=none):Un fs ex H (upd H a o) h h' where
 keep:=λb u q _ _ _=>k b u q
 slot:=λb u q _ _ _=>⟨u.slots,k b u q⟩
 free:=λb u q n _=>by rw[Ag (A10 (A0S (A0D q) hp))];exact n
 there:=λb u q _=>⟨u,k b u q⟩
 tups:=λb xs q=>by rw[Ag (ne_of_none q hn)];exact q
 frzs:=λb u xs q=>by rw[Ag (ne_of_none q hn)];exact q
 tbls:=λb ps q=>⟨#[],by rw[Ag (ne_of_none q hn),q];simp⟩
theorem Un.write (mu:Mut (H x))(he:e=x\/H e=some (.own x))(k:∀ b u,b≠e->h.get? b=some u->h'.get? b=some u)(heo:∃ u,h'.get? e=some u):Un fs ex H (upd H x o) h h':=by
 have hx:∀ b,H b=none->b≠x:=λb n z=>by subst z;rw[n] at mu;exact mu
 have hb:∀ b,H b=none->b≠e:=λb n z=>by
  subst z;rcases he with r|r
  . exact hx b n r
  rw[n] at r;cases r
 have hm:∀ b u,H b=some u->¬ Mut (some u)->b≠x:=λb u q nm z=>by subst z;rw[q] at mu;exact nm mu
 refine⟨λb u q n _ _=>k b u (hb b n) q,λb u q n _ _=>⟨u.slots,k b u (hb b n) q⟩,λb u q n _=>by rw[Ag (hx b n)];exact n,λb u q _=>?_,
  λb xs q=>by rw[Ag (hm b _ q λz=>z)];exact q,λb u xs q=>by rw[Ag (hm b _ q λz=>z)];exact q,λb ps q=>⟨#[],by rw[Ag (hm b _ q λz=>z),q];simp⟩⟩
 by_cases hbe:b=e
 . subst hbe;exact heo
 exact⟨u,k b u hbe q⟩
end
def trk (h:Heap)(H:Hp):List Addr:=(List.range h.objs.size).filter λa=>(H a).isSome
def a35 (h:Heap)(H:Hp):Heap:=W.hideAll h (trk h H)
theorem Yu (h:Heap)(H:Hp):(a35 h H).objs.size=h.objs.size:=W.hideAll_size _ _
theorem a49 {h:Heap}{H:Hp}{b:Addr}{o:Obj}(e:h.get? b=some o)(n:H b=none):(a35 h H).get? b=some o:=
 W.hideAll_get _ e λhm=>by have q:(H b).isSome=true:=(A0X.mp hm).2;rw[n] at q;simp at q
theorem ac4 {h:Heap}{H:Hp}{b:Addr}{o:Obj}(e:(a35 h H).get? b=some o):h.get? b=some o/\H b=none:=by
 have e':h.get? b=some o:=W.of_hideAll (trk h H) e;refine⟨e',?_⟩
 cases q:H b with
 |none=>rfl
 |some x=>have hm:b∈trk h H:=List.mem_filter.mpr ⟨List.mem_range.mpr (Heap.lt_size e'),by simp[q]⟩;have z:(a35 h H).get? b=none:=W.hideAll_none (trk h H) hm;rw[z] at e;cases e
def Ha (g h:Heap)(L:Addr):List (Addr×Obj):=(List.range h.objs.size).filterMap λa=>if a=L\/(g.get? a).isSome=true then none else(h.get? a).map λo=>(a,o)
theorem M9 {g h:Heap}{L a:Addr}{o:Obj}(h1:a≠L)(h2:g.get? a=none)(h3:h.get? a=some o):(a,o)∈Ha g h L:=
 List.mem_filterMap.mpr ⟨a,List.mem_range.mpr (Heap.lt_size h3),by simp[h1,h2,h3]⟩
theorem Mx {g h:Heap}{L:Addr}{p:Addr×Obj}(hp:p∈Ha g h L):p.1≠L/\g.get? p.1=none/\h.get? p.1=some p.2:=by
 obtain⟨b,_,e⟩:=A4W.mp hp
 split at e
 . cases e
 rename_i hn
 cases q:h.get? b with
 |none=>rw[q] at e;simp at e
 |some u=>
   rw[q] at e;simp only[Option.map_some,Option.some.injEq] at e;subst e;refine⟨λz=>hn (.inl z),?_,q⟩;show g.get? b=none
   cases r:g.get? b with
   |none=>rfl
   |some v=>exact(hn (.inr (by simp[r]))).elim
def rest (g h:Heap)(L d:Addr):List (Addr×Obj):=(Ha g h L).filter λp=>decide (p.1≠d)
theorem Oy {g h:Heap}{L:Addr}:News g L h (Ha g h L):=λp hp=>let ⟨a,b,c⟩:=Mx hp;⟨c,a,b⟩
structure Mod (K:W.Frag)(mg:Str->Option Value)(base:Heap):Prop where
 kin:K.In base
 glob:base.Ns mainGlobals mg
 blt:∃ mb,base.Ns builtinsNs mb/\∀ x:Str,x ≠ "__name__" -> mb x=bootBuiltins x
 nolimit:base.NoLimit
/-- the context: a def's body (or a comprehension's block) running. base: fixed through the whole law;s₀,H₀: the entry;outer: the frames whose slots others may change (a def's callers);stack: all frames that run;
  ex: iterators that were made ahead of the entry and are walked here (a comprehension's);fn: the names whose cells were made at the entry (a def: all;a comprehension's block: its own);calm: not within an except suite;pn: pins that every state bears;xe: what is wanted of an exception that leaves the code -/
structure Cx where
 prog:Program
 w:World
 K:W.Frag
 mg:Str->Option Value
 base:Heap
 A:Around
 N:List Str
 s₀:Shared
 H₀:Hp
 env:Env
 outer:List Env
 stack:List Env
 ex:List Addr
 fn:Str->Bool
 calm:Bool
 pn:List (Addr×Obj)
 xe:Value->Shared->Prop
def frs (l:List Env):List Addr:=l.filterMap (·.frame)
abbrev Cx.fs (X:Cx):List Addr:=frs X.outer
def Vis (sc:Scope)(x:Str):Prop:=sc.names.lookup x=some .local\/sc.names.lookup x=some .cell\/sc.names.lookup x=some .free
def Loc (sc:Scope)(x:Str):Prop:=sc.names.lookup x=some .local\/sc.names.lookup x=some .cell
def az9 (env:Env)(h:Heap)(m:Str->Option Value)(x:Str)(u:Value):Prop:=
 (env.kindOf x=some .local/\m x=some u)\/((env.kindOf x=some .cell\/env.kindOf x=some .free)/\∃ c,env.cells.lookup x=some c/\h.IsCell c (some u))
structure Cx.Ok (X:Cx):Prop where
 mod:Mod X.K X.mg X.base
 kind:X.env.scope.kind = .function
 glob:X.env.globals=mainGlobals
 blt:X.env.builtins=builtinsNs
 above:X.s₀.heap.objs.size<=X.env.locals
 inj:∀ x y c,X.env.cells.lookup x=some c->X.env.cells.lookup y=some c->x=y
 has:∀ x,(X.env.kindOf x=some .cell\/X.env.kindOf x=some .free)->∃ c,X.env.cells.lookup x=some c
 cab:∀ x c,X.fn x=true->X.env.cells.lookup x=some c->X.s₀.heap.objs.size<=c
 hd:X.calm=true->X.A.handled=none
 frames:X.A.frames=some X.stack
 stk:X.stack=X.outer\/(X.stack=X.env :: X.outer/\X.env.frame=some X.env.locals)
 exf:∀ b∈X.ex,b≠X.env.locals/\∀ x c,X.env.cells.lookup x=some c->c≠b
 bs:∀ b o,X.base.get? b=some o->X.s₀.heap.get? b=some o/\X.H₀ b=none
 bsz:X.base.objs.size<=X.s₀.heap.objs.size
 noex:∀ b o,X.base.get? b=some o->b∉X.ex
 exfs:∀ b∈X.ex,b∉X.fs
 funs:X.s₀.heap.FunFrames X.base X.outer
 frf:∀ b∈X.fs,X.H₀ b=none
structure Inv (X:Cx)(pins:List (Addr×Obj))(σ:List (Option V))(H:Hp)(s:Shared):Prop where
 ok:X.Ok
 os:s.os=X.s₀.os
 bare:AllBare s.gens
 base:Un X.fs X.ex X.H₀ H X.s₀.heap s.heap
 loc:∃ m,s.heap.Ns X.env.locals m/\∀(i:Nat) (x:Str) (v:V),X.N[i]? = some x->σ[i]? = some (some v)->Vis X.env.scope x->∃ u,RelV v u/\az9 X.env s.heap m x u
 cell:∀ x c,X.env.cells.lookup x=some c->∃ v,s.heap.IsCell c v
 free:H X.env.locals=none
 freeC:∀ x c,X.env.cells.lookup x=some c->H c=none
 pin:∀ p∈X.pn++pins,s.heap.get? p.1=some p.2/\H p.1=none/\p.1≠X.env.locals/\p.1∉X.fs/\∀ v,p.2.data ≠ .cell v
 hok:HOk X.prog X.w H s.heap
 len:σ.length=X.N.length
section
variable {X:Cx}{pins:List (Addr×Obj)}{σ:List (Option V)}{H H':Hp}{s:Shared}{h':Heap}
theorem Cx.Ok.nofr (ok:X.Ok){b:Addr}{o:Obj}(e:X.base.get? b=some o):b∉X.fs:=λhb=>by have:=(ok.funs.mem hb).1;rw[e] at this;cases this
theorem Inv.bs (I:Inv X pins σ H s):∀ b o,X.base.get? b=some o->s.heap.get? b=some o/\H b=none:=λb o e=>
 ⟨I.base.keep b o (I.ok.bs b o e).1 (I.ok.bs b o e).2 (I.ok.nofr e) (I.ok.noex b o e),I.base.free b o (I.ok.bs b o e).1 (I.ok.bs b o e).2 (I.ok.noex b o e)⟩
theorem Inv.bk (I:Inv X pins σ H s):∀ b o,X.base.get? b=some o->s.heap.get? b=some o:=λb o e=>(I.bs b o e).1
theorem Inv.mod (I:Inv X pins σ H s):Mod X.K X.mg X.base:=I.ok.mod
theorem Inv.kIn (I:Inv X pins σ H s):X.K.In s.heap:=I.ok.mod.kin.keeps I.bk
theorem Inv.lt (I:Inv X pins σ H s):X.env.locals<s.heap.objs.size:=let ⟨_,hn,_⟩:=I.loc;hn.lt
theorem Inv.sz (I:Inv X pins σ H s):X.s₀.heap.objs.size<=s.heap.objs.size:=A0L I.ok.above (A28 I.lt)
theorem Inv.nofs (I:Inv X pins σ H s){a:Addr}(h:s.heap.objs.size<=a):a∉X.fs:=λhb=>by obtain⟨_,o,ho,_⟩:=I.ok.funs.mem hb;exact absurd (A0S (A0D ho) (A0L I.sz h)) (A1O _)
theorem Inv.cne (I:Inv X pins σ H s):∀ x c,X.env.cells.lookup x=some c->c≠X.env.locals:=λx c e z=>by obtain⟨v,o,ho,hd⟩:=I.cell x c e;obtain⟨m,⟨o',es,ep,ho',hd',_⟩,_⟩:=I.loc;rw[z,ho'] at ho;cases ho;rw[hd'] at hd;cases hd
theorem Inv.funs (I:Inv X pins σ H s):s.heap.FunFrames X.base X.outer:=by
 have all:∀(l:List Env),(∀ b∈frs l,b∈X.fs)->X.s₀.heap.FunFrames X.base l->s.heap.FunFrames X.base l:=by
  intro l
  induction l with
  |nil=>intro _ _;trivial
  |cons env r ih=>intro hs hl;obtain⟨hk,⟨L,o,hf,hn,ho,hd⟩,hr⟩:=hl;have hL:L∈X.fs:=hs L (by unfold frs;rw[List.filterMap_cons,hf];exact List.mem_cons_self);obtain⟨sl,e⟩:=I.base.slot L o ho (I.ok.frf L hL) hL λz=>I.ok.exfs L z hL;exact⟨hk,⟨L,_,hf,hn,e,hd⟩,ih (λb hb=>hs b (by unfold frs;rw[List.filterMap_cons,hf];exact List.mem_cons_of_mem _ hb)) hr⟩
 exact all X.outer (λ_ hb=>hb) I.ok.funs
theorem Inv.stack (I:Inv X pins σ H s):s.heap.FunFrames X.base X.stack:=by
 rcases I.ok.stk with e|⟨e,hf⟩
 . rw[e];exact I.funs
 rw[e];obtain⟨m,hn,_⟩:=I.loc;refine .cons (by rw[I.ok.kind];decide) hf hn ?_ I.funs;exact A3H (A0L I.ok.bsz I.ok.above)
theorem Inv.stkSub (I:Inv X pins σ H s):∀ b∈frs X.stack,b∈X.env.locals :: X.fs:=λb hb=>by
 rcases I.ok.stk with e|⟨e,hf⟩
 . rw[e] at hb;exact A08 _ hb
 rw[e] at hb;unfold frs at hb;rw[List.filterMap_cons,hf] at hb;exact hb
theorem Inv.stkFree (I:Inv X pins σ H s):∀ b∈frs X.stack,H b=none:=λb hb=>by
 rcases A0H.mp (I.stkSub b hb) with e|hb
 . rw[e];exact I.free
 obtain⟨_,o,ho,_⟩:=I.ok.funs.mem hb;exact I.base.free b o ho (I.ok.frf b hb) λz=>I.ok.exfs b z hb
theorem Inv.step {g':Array GenState}{t':Nat}{d':Drawn}{ch:List Addr}(I:Inv X pins σ H s)
  (hch:∀ b∈ch,(b∈X.ex\/X.s₀.heap.objs.size<=b)/\b≠X.env.locals/\(∀ x c,X.env.cells.lookup x=some c->c≠b)/\∀ p∈X.pn++pins,p.1≠b)
  (keep:∀ b o,b≠X.env.locals->b∉X.fs->b∉ch->s.heap.get? b=some o->H b=none->h'.get? b=some o)
  (slot:∀ b o,b≠X.env.locals->b∈X.fs->b∉ch->s.heap.get? b=some o->H b=none->∃ sl,h'.get? b=some {o with slots:=sl}) (free:∀ b o,b∉ch->s.heap.get? b=some o->H b=none->H' b=none)
  (there:∀ b o,b∉ch->s.heap.get? b=some o->∃ o',h'.get? b=some o')
  (tups:∀ b xs,H b=some (.tup xs)->H' b=some (.tup xs)) (frzs:∀ b o u,H b=some (.frz o u)->H' b=some (.frz o u)) (tbls:∀ b ps,H b=some (.tbl ps)->∃ more,H' b=some (.tbl (ps++more)))
  (ns:∀ m,s.heap.Ns X.env.locals m->h'.Ns X.env.locals m) (hok:HOk X.prog X.w H' h') (hg:AllBare g') :
  Inv X pins σ H' {s with heap:=h',gens:=g',drawn:=d',toks:=t'}:=by
 have neL:∀ b o,X.s₀.heap.get? b=some o->b≠X.env.locals:=λb o e=>A10 (A0S (A0D e) I.ok.above)
 have neC:∀ b o,X.s₀.heap.get? b=some o->b∉X.ex->b∉ch:=λb o e hx hb=>by
  rcases(hch b hb).1 with z|z
  . exact hx z
  exact absurd (A0S (A0D e) z) (A1O _)
 have cellK:∀ x c,X.env.cells.lookup x=some c->∀ v,s.heap.IsCell c v->h'.IsCell c v:=λx c e v ⟨o,ho,hd⟩=>by
  have nch:c∉ch:=λz=>(hch c z).2.2.1 x c e rfl
  by_cases hc:c∈X.fs
  . obtain⟨sl,q⟩:=slot c o (I.cne x c e) hc nch ho (I.freeC x c e);exact⟨_,q,hd⟩
  exact⟨o,keep c o (I.cne x c e) hc nch ho (I.freeC x c e),hd⟩
 refine⟨I.ok,I.os,hg,⟨λb o e n hb hx=>?_,λb o e n hb hx=>?_,λb o e n hx=>?_,λb o e hx=>?_,λb xs e=>tups b xs (I.base.tups b xs e),λb o xs e=>frzs b o xs (I.base.frzs b o xs e),λb ps e=>?_⟩,?_,λx c e=>?_,?_,λx c e=>?_,λp hp=>?_,hok,I.len⟩
 . exact keep b o (neL b o e) hb (neC b o e hx) (I.base.keep b o e n hb hx) (I.base.free b o e n hx)
 . obtain⟨sl,e1⟩:=I.base.slot b o e n hb hx;obtain⟨sl',e2⟩:=slot b _ (neL b o e) hb (neC b o e hx) e1 (I.base.free b o e n hx);exact⟨sl',e2⟩
 . obtain⟨o',e1⟩:=I.base.there b o e hx;exact free b o' (neC b o e hx) e1 (I.base.free b o e n hx)
 . obtain⟨o',e1⟩:=I.base.there b o e hx;exact there b o' (neC b o e hx) e1
 . obtain⟨m1,e1⟩:=I.base.tbls b ps e;obtain⟨m2,e2⟩:=tbls b _ e1;exact⟨m1++m2,by rw[e2,Array.append_assoc]⟩
 . obtain⟨m,hn,hl⟩:=I.loc;refine⟨m,ns m hn,λi x v e1 e2 e3=>?_⟩;obtain⟨u,r,l⟩:=hl i x v e1 e2 e3;refine⟨u,r,?_⟩;rcases l with l|⟨k,c,e,z⟩
   . exact .inl l
   exact .inr ⟨k,c,e,cellK x c e _ z⟩
 . obtain⟨v,z⟩:=I.cell x c e;exact⟨v,cellK x c e v z⟩
 . obtain⟨m,⟨o,_,_,ho,_⟩,_⟩:=I.loc;exact free _ o (λz=>(hch _ z).2.1 rfl) ho I.free
 . obtain⟨v,o,ho,hd⟩:=I.cell x c e;exact free c o (λz=>(hch c z).2.2.1 x c e rfl) ho (I.freeC x c e)
 obtain⟨e,n,ne,nf,d⟩:=I.pin p hp;have nch:p.1∉ch:=λz=>(hch p.1 z).2.2.2 p hp rfl;exact⟨keep p.1 p.2 ne nf nch e n,free p.1 p.2 nch e n,ne,nf,d⟩
theorem Inv.un {t':Nat}(I:Inv X pins σ H s)(u:Un X.fs [] H H' s.heap h')(hok:HOk X.prog X.w H' h'):Inv X pins σ H' {s with heap:=h',toks:=t'}:=by
 obtain⟨m,⟨o,es,ep,ho,r⟩,_⟩:=id I.loc;obtain⟨sl,hL⟩:=u.any ho I.free (by simp)
 exact I.step (g':=s.gens) (d':=s.drawn) (ch:=[]) (λ_ z=>nomatch z) (λb o _ hb _ e n=>u.keep b o e n hb (by simp)) (λb o _ hb _ e n=>u.slot b o e n hb (by simp)) (λb o _ e n=>u.free b o e n (by simp)) (λb o _ e=>u.there b o e (by simp)) u.tups u.frzs u.tbls (λm' hm=>by obtain⟨o',es',ep',ho',r'⟩:=hm;rw[ho] at ho';cases ho';exact⟨_,es',ep',hL,r'⟩) hok I.bare
theorem Inv.call {g':Array GenState}{t':Nat}{d':Drawn}{ch:List Addr}(I:Inv X pins σ H s)(u:Un (frs X.stack) ch H H' s.heap h')(hok:HOk X.prog X.w H' h')(hg:AllBare g')
  (hch:∀ b∈ch,(b∈X.ex\/X.s₀.heap.objs.size<=b)/\b≠X.env.locals/\(∀ x c,X.env.cells.lookup x=some c->c≠b)/\∀ p∈X.pn++pins,p.1≠b) :
  Inv X pins σ H' {s with heap:=h',gens:=g',drawn:=d',toks:=t'}:=by
 obtain⟨m,⟨o,es,ep,ho,r⟩,_⟩:=id I.loc;obtain⟨sl,hL⟩:=u.any ho I.free λz=>(hch _ z).2.1 rfl
 exact I.step (ch:=ch) hch (λb o hL hb hc e n=>u.keep b o e n (λz=>(A0H.mp (I.stkSub b z)).elim hL hb) hc) (λb o _ _ hc e n=>u.any e n hc) (λb o hc e n=>u.free b o e n hc) (λb o hc e=>u.there b o e hc) u.tups u.frzs u.tbls (λm' hm=>by obtain⟨o',es',ep',ho',r'⟩:=hm;rw[ho] at ho';cases ho';exact⟨_,es',ep',hL,r'⟩) hok hg
theorem Inv.turned {t':Nat}{it:Addr}(I:Inv X pins σ H s)(k:∀ b o,b≠it->s.heap.get? b=some o->h'.get? b=some o)(hn:H it=none)(hL:it≠X.env.locals)
  (h1:it∈X.ex\/X.s₀.heap.objs.size<=it) (h2:∀ x c,X.env.cells.lookup x=some c->c≠it) (h3:∀ p∈X.pn++pins,p.1≠it):Inv X pins σ H {s with heap:=h',toks:=t'}:=by
 have nit:∀ b u,H b=some u->b≠it:=λb u e z=>by rw[z,hn] at e;cases e
 refine I.step (g':=s.gens) (d':=s.drawn) (ch:=[it]) (λb hb=>?_) (λb o _ _ hc e _=>k b o (λz=>hc (by simp[z])) e) (λb o _ _ hc e _=>⟨o.slots,k b o (λz=>hc (by simp[z])) e⟩) (λ_ _ _ _ n=>n)
  (λb o hc e=>⟨o,k b o (λz=>hc (by simp[z])) e⟩) (λ_ _ e=>e) (λ_ _ _ e=>e) (λb ps e=>⟨#[],by rw[e];simp⟩) (λm hm=>?_) (λb u e=>?_) I.bare
 . have e:b=it:=by simpa using hb
   subst e;exact⟨h1,hL,h2,h3⟩
 . obtain⟨o,es,ep,ho,r⟩:=hm;exact⟨o,es,ep,k _ o (Ne.symm hL) ho,r⟩
 refine(I.hok b u e).stay (λc v hc q=>k c v ?_ q) (λ_ q=>q) λ_ _ q=>q;rcases hc with z|z
 . rw[z];exact nit b u e
 exact nit c _ z
theorem Inv.tok (I:Inv X pins σ H s)(t:Nat):Inv X pins σ H {s with toks:=t}:=I.un (h':=s.heap) (t':=t) Un.refl I.hok
theorem Inv.kept {t':Nat}(I:Inv X pins σ H s)(k:∀ b u,s.heap.get? b=some u->h'.get? b=some u):Inv X pins σ H {s with heap:=h',toks:=t'}:=I.un (Un.kept k) (I.hok.kept k)
theorem Inv.laid {a:Addr}{o:HO}{t':Nat}(I:Inv X pins σ H s)(k:∀ b u,s.heap.get? b=some u->h'.get? b=some u)(hp:s.heap.objs.size<=a)(new:ObjOk X.prog X.w (upd H a o) h' a o) :
  Inv X pins σ (upd H a o) {s with heap:=h',toks:=t'}:=I.un (Un.laid k hp (I.hok.fresh hp)) (I.hok.laid k hp new)
theorem Inv.write {x e:Addr}{o:HO}{t':Nat}(I:Inv X pins σ H s)(mu:Mut (H x))(he:e=x\/H e=some (.own x))(k:∀ b u,b≠e->s.heap.get? b=some u->h'.get? b=some u)(heo:∃ u,h'.get? e=some u)
  (new:ObjOk X.prog X.w (upd H x o) h' x o):Inv X pins σ (upd H x o) {s with heap:=h',toks:=t'}:=I.un (Un.write mu he k heo) (I.hok.write mu he k heo new)
theorem Inv.weak {σ':List (Option V)}(I:Inv X pins σ H s)(hl:σ'.length=σ.length)(w:∀(i:Nat) v,σ'[i]? = some (some v)->σ[i]? = some (some v)):Inv X pins σ' H s:=
 ⟨I.ok,I.os,I.bare,I.base,let ⟨m,hn,hl'⟩:=I.loc;⟨m,hn,λi x v e1 e2 e3=>hl' i x v e1 (w i v e2) e3⟩,I.cell,I.free,I.freeC,I.pin,I.hok,hl.trans I.len⟩
theorem Inv.pins_of {pins':List (Addr×Obj)}(I:Inv X pins σ H s)(h:∀ p∈pins',s.heap.get? p.1=some p.2/\H p.1=none/\p.1≠X.env.locals/\p.1∉X.fs/\∀ v,p.2.data ≠ .cell v):Inv X pins' σ H s:=
 ⟨I.ok,I.os,I.bare,I.base,I.loc,I.cell,I.free,I.freeC,λp hp=>(A0E.mp hp).elim (λz=>I.pin p (A0T _ z)) (h p),I.hok,I.len⟩
theorem Oo {N:List Str}(hN:N.Nodup){i j:Nat}{x:Str}(a:N[i]? = some x)(b:N[j]? = some x):i=j:=by obtain⟨h1,e1⟩:=A03.mp a;obtain⟨h2,e2⟩:=A03.mp b;exact(A1U hN).mp (e1.trans e2.symm)
theorem R0 {M:Model}{A:Around}{E:Value->Shared->Prop}{i:Nat}{x:Str}{v:V}{u:Value}{Q:Unit->Shared->Prop}(I:Inv X pins σ H s)(hN:X.N.Nodup)(hi:X.N[i]? = some x)(hx:Loc X.env.scope x)(r:RelV v u)
  (h:∀ s',Inv X pins (σ.set i (some v)) H s'->(∃ a,Heap.SameBut a s.heap s'.heap/\(a=X.env.locals\/X.env.cells.lookup x=some a))->Q () s') (hf:X.fn x=true\/X.env.scope.names.lookup x=some .local:=by with_unfolding_all (first | exact .inl rfl | exact .inr rfl | assumption)):wpAny M A (storeName X.env x u) Q E s:=by
 obtain⟨m,hn,hl⟩:=id I.loc;have hcls:(X.env.scope.kind == .class||(X.env.scope.kind == .module&&X.env.locals != X.env.globals))=false:=by rw[I.ok.kind];rfl
 have hiσ:i<σ.length:=by rw[I.len];exact(A03.mp hi).1
 have cne:=I.cne
 have tracked:∀ {a:Addr} {h':Heap},(∃ o,s.heap.get? a=some o/\H a=none)->Heap.SameBut a s.heap h'->HOk X.prog X.w H h':=fun {a h'} ha hs b ob e=>by
  obtain⟨_,_,hfree⟩:=ha;refine(I.hok b ob e).stay (λc w' hc q=>(hs.2 c ?_).trans q) (λ_ q=>q) λ_ _ q=>q;rintro rfl;rcases hc with rfl|hc
  . rw[hfree] at e;cases e
  rw[hfree] at hc;cases hc
 rcases hx with hk|hk
 . refine wpAny_storeName_local hk hn (λh' hn' hs=>?_) hcls;obtain⟨oL,_,_,hoL,_⟩:=id hn;refine h _ ⟨I.ok,I.os,I.bare,⟨λb o e n hb hx=>?_,λb o e n hb hx=>?_,I.base.free,λb o e hx=>?_,I.base.tups,I.base.frzs,I.base.tbls⟩,⟨_,hn',λj y v' e1 e2 e3=>?_⟩,λy c e=>?_,I.free,I.freeC,λp hp=>?_,tracked ⟨oL,hoL,I.free⟩ hs,by simpa using I.len⟩ ⟨_,hs,.inl rfl⟩
   . exact(hs.2 b (A10 (A0S (A0D e) I.ok.above))).trans (I.base.keep b o e n hb hx)
   . obtain⟨sl,e1⟩:=I.base.slot b o e n hb hx;exact⟨sl,(hs.2 b (A10 (A0S (A0D e) I.ok.above))).trans e1⟩
   . obtain⟨o',e1⟩:=I.base.there b o e hx;exact⟨o',(hs.2 b (A10 (A0S (A0D e) I.ok.above))).trans e1⟩
   . by_cases hj:j=i
     . subst hj;rw[hi] at e1;cases e1;rw[A35 hiσ] at e2
       cases e2;exact⟨u,r,.inl ⟨hk,by simp⟩⟩
     rw[A20 (Ne.symm hj)] at e2;obtain⟨u',r',q⟩:=hl j y v' e1 e2 e3;refine⟨u',r',?_⟩;rcases q with ⟨k,e⟩|⟨k,c,e,z⟩
     . refine .inl ⟨k,?_⟩;have:y≠x:=λe=>hj (Oo hN e1 (e ▸ hi));simp[this,e]
     exact .inr ⟨k,c,e,z.sameBut hs (cne y c e)⟩
   . obtain⟨w',z⟩:=I.cell y c e;exact⟨w',z.sameBut hs (cne y c e)⟩
   obtain⟨e,n,ne,nf,d⟩:=I.pin p hp;exact⟨(hs.2 p.1 ne).trans e,n,ne,nf,d⟩
 have hfn:X.fn x=true:=by
  rcases hf with z|z
  . exact z
  rw[z] at hk;cases hk
 obtain⟨c,hc⟩:=I.ok.has x (.inl hk);obtain⟨w',z⟩:=I.cell x c hc;refine wpAny_storeName_cell I.ok.kind hk hc z (λh' hc' hs=>?_);obtain⟨oc,hoc,hocd⟩:=id z;refine h {s with heap:=h'} ⟨I.ok,I.os,I.bare,⟨λb o e n hb hx=>?_,λb o e n hb hx=>?_,I.base.free,λb o e hx=>?_,I.base.tups,I.base.frzs,I.base.tbls⟩,⟨m,hn.sameBut hs (Ne.symm (cne x c hc)),λj y v' e1 e2 e3=>?_⟩,λy c' e=>?_,I.free,I.freeC,λp hp=>?_,tracked ⟨oc,hoc,I.freeC x c hc⟩ hs,by simpa using I.len⟩ ⟨c,hs,.inr hc⟩
 . exact(hs.2 b (A10 (A0S (A0D e) (I.ok.cab x c hfn hc)))).trans (I.base.keep b o e n hb hx)
 . obtain⟨sl,e1⟩:=I.base.slot b o e n hb hx;exact⟨sl,(hs.2 b (A10 (A0S (A0D e) (I.ok.cab x c hfn hc)))).trans e1⟩
 . obtain⟨o',e1⟩:=I.base.there b o e hx;exact⟨o',(hs.2 b (A10 (A0S (A0D e) (I.ok.cab x c hfn hc)))).trans e1⟩
 . by_cases hj:j=i
   . subst hj;rw[hi] at e1;cases e1;rw[A35 hiσ] at e2
     cases e2;exact⟨u,r,.inr ⟨.inl hk,c,hc,hc'⟩⟩
   rw[A20 (Ne.symm hj)] at e2;obtain⟨u',r',q⟩:=hl j y v' e1 e2 e3;refine⟨u',r',?_⟩;rcases q with q|⟨k,c',e,z'⟩
   . exact .inl q
   refine .inr ⟨k,c',e,z'.sameBut hs ?_⟩;rintro rfl;exact hj (Oo hN e1 (I.ok.inj _ _ _ e hc ▸ hi))
 . by_cases hcc:c'=c
   . subst hcc;exact⟨_,hc'⟩
   obtain⟨w2,z2⟩:=I.cell y c' e;exact⟨w2,z2.sameBut hs hcc⟩
 obtain⟨e,n,ne,nf,d⟩:=I.pin p hp;refine⟨(hs.2 p.1 ?_).trans e,n,ne,nf,d⟩;intro q;rw[q,hoc] at e;have q':oc=p.2:=A0Z e;exact d w' (by rw[<- q'];exact hocd)
theorem L8 {M:Model}{A:Around}{E:Value->Shared->Prop}{i:Nat}{x:Str}{v:V}{u:Value}{Q:Unit->Shared->Prop}(I:Inv X pins σ H s)(hN:X.N.Nodup)(hi:X.N[i]? = some x)(hx:Loc X.env.scope x)(r:RelV v u)
  (h:∀ s',Inv X pins (σ.set i (some v)) H s'->Q () s') (hf:X.fn x=true\/X.env.scope.names.lookup x=some .local:=by with_unfolding_all (first | exact .inl rfl | exact .inr rfl | assumption)):wpAny M A (storeName X.env x u) Q E s:=
 R0 I hN hi hx r (λs' I' _=>h s' I') hf
theorem Inv.call' {s':Shared}{ch:List Addr}(I:Inv X pins σ H s)(ho:s'.os=s.os)(u:Un (frs X.stack) ch H H' s.heap s'.heap)(hok:HOk X.prog X.w H' s'.heap)(hg:AllBare s'.gens)
  (hch:∀ b∈ch,(b∈X.ex\/X.s₀.heap.objs.size<=b)/\b≠X.env.locals/\(∀ x c,X.env.cells.lookup x=some c->c≠b)/\∀ p∈X.pn++pins,p.1≠b):Inv X pins σ H' s':=by
 obtain⟨h',g',d',t',o'⟩:=s';have e:o'=s.os:=ho;subst e;exact I.call (g':=g') (t':=t') (d':=d') u hok hg hch
end
abbrev XK:=Value->Option Addr->Hp->Prop
abbrev St:=List (Option V)
abbrev VK:=V->Hp->Prop
abbrev TE:=St->Hp->VK->Prop
abbrev TT:=St->Hp->(Bool->Hp->Prop)->Prop
abbrev TA:=St->Hp->(List V->Hp->Prop)->Prop
structure Ends where
 nx:St->Hp->Prop
 rt:VK
 bk:St->Hp->Prop:=λ_ _=>False
 ct:St->Hp->Prop:=λ_ _=>False
abbrev TS:=Ends->St->Hp->Prop
def EP (X:Cx)(pins:List (Addr×Obj))(σ:St)(Q:VK)(u:Value)(s':Shared):Prop:=∃ v H',Inv X pins σ H' s'/\RelV v u/\Q v H'
def TP (X:Cx)(pins:List (Addr×Obj))(σ:St)(Q:Bool->Hp->Prop)(b:Bool)(s':Shared):Prop:=∃ H',Inv X pins σ H' s'/\Q b H'
def AP (X:Cx)(pins:List (Addr×Obj))(σ:St)(Q:List V->Hp->Prop)(us:List Value)(s':Shared):Prop:=∃ vs H',Inv X pins σ H' s'/\Vals vs us/\Q vs H'
def SP (X:Cx)(pins:List (Addr×Obj))(D:Ends)(f:Flow)(s':Shared):Prop:=
 match f with
 |.next=>∃ σ' H',Inv X pins σ' H' s'/\D.nx σ' H'
 |.brk=>∃ σ' H',Inv X pins σ' H' s'/\D.bk σ' H'
 |.cont=>∃ σ' H',Inv X pins σ' H' s'/\D.ct σ' H'
 |.ret u=>∃ v σ' H',Inv X pins σ' H' s'/\RelV v u/\D.rt v H'
def PE (X:Cx)(e:Expr)(t:TE):Prop:=
 ∀(pins:List (Addr×Obj)) (s:Shared) (σ:St) (H:Hp) (Q:VK),Inv X pins σ H s->t σ H Q->wpAny (model X.prog X.w) X.A (eval e X.env) (EP X pins σ Q) X.xe s
def PT (X:Cx)(e:Expr)(t:TT):Prop:=
 ∀(pins:List (Addr×Obj)) (s:Shared) (σ:St) (H:Hp) (Q:Bool->Hp->Prop),Inv X pins σ H s->t σ H Q->wpAny (model X.prog X.w) X.A (isTrue e X.env (eval e X.env)) (TP X pins σ Q) X.xe s
def PW (X:Cx)(e:Expr)(t:TT):Prop:=
 ∀(whole:Sem Value) (pins:List (Addr×Obj)) (s:Shared) (σ:St) (H:Hp) (Q:Bool->Hp->Prop),Inv X pins σ H s->t σ H Q->wpAny (model X.prog X.w) X.A (isTrue e X.env whole) (TP X pins σ Q) X.xe s
theorem PW.pt {X:Cx}{e:Expr}{t:TT}(h:PW X e t):PT X e t:=h _
def PA (X:Cx)(es:List Expr)(t:TA):Prop:=
 ∀(pos:Pos) (pins:List (Addr×Obj)) (s:Shared) (σ:St) (H:Hp) (Q:List V->Hp->Prop),Inv X pins σ H s->t σ H Q->wpAny (model X.prog X.w) X.A (spliced (backTo pos (starEach es X.env))) (AP X pins σ Q) X.xe s
def PS (X:Cx)(st:Stmt)(t:TS):Prop:=
 ∀(pins:List (Addr×Obj)) (s:Shared) (σ:St) (H:Hp) (D:Ends),Inv X pins σ H s->t D σ H->wpAny (model X.prog X.w) X.A (exec st X.env) (SP X pins D) X.xe s
def PSs (X:Cx)(st:List Stmt)(t:TS):Prop:=
 ∀(pins:List (Addr×Obj)) (s:Shared) (σ:St) (H:Hp) (D:Ends),Inv X pins σ H s->t D σ H->wpAny (model X.prog X.w) X.A (execs st X.env) (SP X pins D) X.xe s
theorem thn {α:Type}{t:Sem α}{Q Q':α->Shared->Prop}{M:Model}{A:Around}{E:Value->Shared->Prop}{s:Shared}(h:wpAny M A t Q E s)(hQ:∀ a s,Q a s->Q' a s):wpAny M A t Q' E s:=A1P h hQ λ_ _ x=>x
section
variable {X:Cx}
def aw9 (i:Nat):TE:=fun σ H Q=>∃ v,σ[i]? = some (some v)/\Q v H
def tC (v:V):TE:=λ_ H Q=>Q v H
theorem al7 {i:Nat}{x:Str}{pos:Pos}(hN:X.N[i]? = some x)(hv:Vis X.env.scope x)(hd:(x==("__debug__":Str))=false:=by decide)(hcd:(x==("__classdict__":Str))=false:=by decide):PE X (.Name x pos) (aw9 i):=by
 intro pins s σ H Q I h;obtain⟨v,e,h⟩:=h;obtain⟨m,hn,hl⟩:=I.loc;obtain⟨u,r,l⟩:=hl i x v hN e hv;have fin:EP X pins σ Q u s:=⟨v,H,I,r,h⟩;rcases l with ⟨hk,hm⟩|⟨hk,c,hc,hcell⟩
 . exact A42 (A4P I.ok.kind hk hn hm fin) hd
 rcases hk with hk|hk
 . exact A42 (wpAny_loadName_cell I.ok.kind hk hc hcell fin) hd
 exact A42 (A4Q I.ok.kind hk hc hcell fin hcd) hd
theorem A3 {i j pos}:PE X (.Constant (.int i) j pos) (tC (.int i)):=λ_ _ _ H _ I h=>wpAny_Constant_int ⟨.int i,H,I.tok _,⟨_,rfl⟩,h⟩
theorem Xv {b j pos}:PE X (.Constant (.bool b) j pos) (tC (.bl b)):=λ_ _ _ H _ I h=>Constant_bool ⟨.bl b,H,I,rfl,h⟩
theorem Uu {j pos}:PE X (.Constant .none j pos) (tC .non):=λ_ _ _ H _ I h=>Constant_none ⟨.non,H,I,rfl,h⟩
theorem Al {x j pos}:PE X (.Constant (.str x) j pos) (tC (.str x)):=λ_ _ _ H _ I h=>Calls.Constant_str ⟨.str x,H,I.tok _,⟨_,rfl⟩,h⟩
def Gl (X:Cx)(x:Str):Prop:=X.env.kindOf x=some .globalImplicit
theorem Ov {E:Value->Shared->Prop}{pins:List (Addr×Obj)}{s:Shared}{σ:St}{H:Hp}{x:Str}{u:Value}{pos:Pos}{Q:Value->Shared->Prop}(I:Inv X pins σ H s)(hg:Gl X x)(hm:X.mg x=some u)(h:Q u s)
  (hd:(x==("__debug__":Str))=false:=by decide):wpAny (model X.prog X.w) X.A (eval (.Name x pos) X.env) Q E s:=
 A23 I.ok.kind hg (Calls.loadGlobal_global (by rw[I.ok.glob];exact I.mod.glob.keeps I.bk) hm h) hd
theorem Le {E:Value->Shared->Prop}{pins:List (Addr×Obj)}{s:Shared}{σ:St}{H:Hp}{x:Str}{u:Value}{pos:Pos}{Q:Value->Shared->Prop}(I:Inv X pins σ H s)(hg:Gl X x)(hm:X.mg x=none)(hv:bootBuiltins x=some u)(h:Q u s)
  (hn:x ≠ "__name__":=by decide) (hd:(x==("__debug__":Str))=false:=by decide):wpAny (model X.prog X.w) X.A (eval (.Name x pos) X.env) Q E s:=by
 obtain⟨mb,h1,h2⟩:=I.mod.blt;exact A23 I.ok.kind hg (A43 (by rw[I.ok.glob];exact I.mod.glob.keeps I.bk) hm (by rw[I.ok.blt];exact h1.keeps I.bk) ((h2 x hn).trans hv) h) hd
theorem ad5 {x:Str}{v:V}{u:Value}{pos:Pos}(hg:Gl X x)(hm:X.mg x=some u)(r:RelV v u)(hd:(x==("__debug__":Str))=false:=by decide):PE X (.Name x pos) (tC v):=
 λ_ _ _ H _ I h=>Ov I hg hm ⟨v,H,I,r,h⟩ hd
theorem Gw {x:Str}{v:V}{u:Value}{pos:Pos}(hg:Gl X x)(hm:X.mg x=none)(hv:bootBuiltins x=some u)(r:RelV v u)(hn:x ≠ "__name__":=by decide)(hd:(x==("__debug__":Str))=false:=by decide):PE X (.Name x pos) (tC v):=
 λ_ _ _ H _ I h=>Le I hg hm hv ⟨v,H,I,r,h⟩ hn hd
variable {a b:Expr}{ta tb:TE}{pos:Pos}
def tB (t:TE):TT:=fun σ H Q=>t σ H λx H1=>∃ c,x = .bl c/\Q c H1
theorem Hr {e:Expr}{t:TE}(h:PE X e t)(he:∀ whole,isTrue e X.env whole=(do let v <- whole;standAt e.pos;holding [v] (truthy v)):=by intro _;ac_nf):PT X e (tB t):=by
 intro pins s σ H Q I hw;refine isTrue_plain (thn (h pins s σ H _ I hw) λv s1 ⟨x,H1,I1,r1,q1⟩=>?_) (he _);obtain⟨d,rfl,q⟩:=q1
 cases r1;exact A38 ⟨H1,I1,q⟩
variable {tA tB':TT}{rest:List Expr}
def aA7 (t u:TT):TT:=fun σ H Q=>t σ H λc H1=>if c=true then u σ H1 Q else Q false H1
def tOr (t u:TT):TT:=fun σ H Q=>t σ H λc H1=>if c=true then Q true H1 else u σ H1 Q
def aA5 (t:TT):TT:=fun σ H Q=>t σ H λc H1=>Q (!c) H1
theorem Hf (ha:PT X a tA):PW X (.BoolOp .And [a] pos) tA:=by
 intro wh pins s σ H Q I h;refine isTrue_and (thn (ha pins s σ H Q I h) λc s1 e=>?_)
 cases c with
 |true=>exact isTrue_and_nil e
 |false=>exact e
theorem Si (ha:PT X a tA):PW X (.BoolOp .Or [a] pos) tA:=by
 intro wh pins s σ H Q I h;refine isTrue_or (thn (ha pins s σ H Q I h) λc s1 e=>?_)
 cases c with
 |false=>exact isTrue_or_nil e
 |true=>exact e
theorem Kx (ha:PT X a tA)(hb:PW X (.BoolOp .And (b :: rest) pos) tB'):PW X (.BoolOp .And (a :: b :: rest) pos) (aA7 tA tB'):=by
 intro wh pins s σ H Q I h;refine isTrue_and (thn (ha pins s σ H _ I h) λc s1 ⟨H1,I1,q1⟩=>?_)
 cases c with
 |true=>exact hb wh pins s1 σ H1 Q I1 q1
 |false=>exact⟨H1,I1,q1⟩
theorem W5 (ha:PT X a tA)(hb:PW X (.BoolOp .Or (b :: rest) pos) tB'):PW X (.BoolOp .Or (a :: b :: rest) pos) (tOr tA tB'):=by
 intro wh pins s σ H Q I h;refine isTrue_or (thn (ha pins s σ H _ I h) λc s1 ⟨H1,I1,q1⟩=>?_)
 cases c with
 |true=>exact⟨H1,I1,q1⟩
 |false=>exact hb wh pins s1 σ H1 Q I1 q1
theorem Ll (ha:PT X a tA):PT X (.UnaryOp .Not a pos) (aA5 tA):=by intro pins s σ H Q I h;exact isTrue_not (ha pins s σ H (λc H1=>Q (!c) H1) I h)
def av2 (ta tb:TE):TE:=fun σ H Q=>ta σ H λx H1=>∃ c,x = .bl c/\if c=true then tb σ H1 Q else Q (.bl false) H1
def aB9 (ta tb:TE):TE:=fun σ H Q=>ta σ H λx H1=>∃ c,x = .bl c/\if c=true then Q (.bl true) H1 else tb σ H1 Q
def ao8 (ta:TE):TE:=fun σ H Q=>ta σ H λx H1=>∃ c,x = .bl c/\Q (.bl (!c)) H1
theorem Nh {op}{t:TE}(h:PE X a t):PE X (.BoolOp op [a] pos) t:=λpins s σ H Q I hw=>BoolOp_one (h pins s σ H Q I hw)
theorem Ku (ha:PE X a ta)(hb:PE X (.BoolOp .And (b :: rest) pos) tb):PE X (.BoolOp .And (a :: b :: rest) pos) (av2 ta tb):=by
 intro pins s σ H Q I h;refine BoolOp_and (thn (ha pins s σ H _ I h) λv s1 ⟨x,H1,I1,r1,q1⟩=>?_);obtain⟨c,rfl,q1⟩:=q1
 cases r1;refine A38 ?_
 cases c with
 |true=>exact hb pins s1 σ H1 Q I1 q1
 |false=>exact⟨.bl false,H1,I1,rfl,q1⟩
theorem an9 (ha:PE X a ta)(hb:PE X (.BoolOp .Or (b :: rest) pos) tb):PE X (.BoolOp .Or (a :: b :: rest) pos) (aB9 ta tb):=by
 intro pins s σ H Q I h;refine BoolOp_or (thn (ha pins s σ H _ I h) λv s1 ⟨x,H1,I1,r1,q1⟩=>?_);obtain⟨c,rfl,q1⟩:=q1
 cases r1;refine A38 ?_
 cases c with
 |false=>exact hb pins s1 σ H1 Q I1 q1
 |true=>exact⟨.bl true,H1,I1,rfl,q1⟩
theorem al3 (ha:PE X a ta):PE X (.UnaryOp .Not a pos) (ao8 ta):=by
 intro pins s σ H Q I h;refine UnaryOp_ (thn (ha pins s σ H _ I h) λv s1 ⟨x,H1,I1,r1,q1⟩=>?_);obtain⟨c,rfl,q1⟩:=q1
 cases r1;exact not_of (A38 ⟨.bl (!c),H1,I1,rfl,q1⟩)
def tIf (t:TT)(ta tb:TE):TE:=fun σ H Q=>t σ H λc H1=>if c=true then ta σ H1 Q else tb σ H1 Q
theorem Og {c:Expr}(hc:PT X c tA)(ha:PE X a ta)(hb:PE X b tb):PE X (.IfExp c a b pos) (tIf tA ta tb):=by
 intro pins s σ H Q I h;refine wpAny_IfExp (thn (hc pins s σ H _ I h) λd s1 ⟨H1,I1,q1⟩=>?_)
 cases d with
 |true=>exact ha pins s1 σ H1 Q I1 q1
 |false=>exact hb pins s1 σ H1 Q I1 q1
end
def SqL (K:W.Frag)(H:Hp)(a:Addr)(xs:List V):Prop:=
 Rd H a (.lst xs) \/
  ∃(o:Obj) (its:Array Value) (n:Nat),K.lookup a=some o/\o.cls = .type "list" /\ o.dict=none/\o.data = .seq its n/\its.size<=sizeLine/\Vals xs its.toList
def SqT (K:W.Frag)(H:Hp)(a:Addr)(xs:List V):Prop:=
 Rd H a (.tup xs) \/
  ∃(o:Obj) (its:Array Value) (n:Nat),K.lookup a=some o/\o.cls = .type "tuple" /\ o.data = .seq its n/\its.size<=sizeLine/\Vals xs its.toList/\o.dict=none
def absV:Value->Option V
 |.none=>some .non
 |.bool b=>some (.bl b)
 |.int i _=>some (.int i)
 |.str x _=>some (.str x)
 |.bytes b _=>some (.byt b)
 |.float b _=>some (.flt b)
 |.ref a=>some (.ref a)
 |.type n=>some (.ty n)
 |_=>none
theorem RelV.abs {x:V}{u:Value}(r:RelV x u):absV u=some x:=by
 cases x with
 |non=>cases r;rfl
 |bl _=>cases r;rfl
 |int _=>obtain⟨t,rfl⟩:=r;rfl
 |str _=>obtain⟨t,rfl⟩:=r;rfl
 |byt _=>obtain⟨t,rfl⟩:=r;rfl
 |flt _=>obtain⟨t,rfl⟩:=r;rfl
 |ref _=>cases r;rfl
 |ty _=>cases r;rfl
theorem RelV.inj {x y:V}{u:Value}(r:RelV x u)(q:RelV y u):x=y:=A0Z (r.abs.symm.trans q.abs)
theorem Vals.inj:∀ {xs ys:List V} {us:List Value},Vals xs us->Vals ys us->xs=ys
 |_,_,_,.nil,.nil=>rfl
 |_,_,_,.cons r t,.cons r' t'=>by rw[r.inj r',Vals.inj t t']
section
variable {X:Cx}{pins:List (Addr×Obj)}{σ:St}{H:Hp}{s:Shared}{a:Addr}{xs ys:List V}
theorem SqL.of {K:W.Frag}(h:H a=some (.lst xs)):SqL K H a xs:=.inl (.inl h)
theorem SqT.of {K:W.Frag}(h:H a=some (.tup xs)):SqT K H a xs:=.inl (.inl h)
theorem Inv.list (I:Inv X pins σ H s)(h:SqL X.K H a xs):∃ its:List Value,Vals xs its/\PlainL s.heap a its.toArray/\xs.length<=sizeLine:=by
 rcases h with h|⟨o,its,n,hk,hc,hd,hs,hz,r⟩
 . obtain⟨z,its,n,r,e⟩:=h.ok I.hok;exact⟨its,r,⟨_,n,e,rfl,rfl,rfl⟩,z⟩
 refine⟨its.toList,r,⟨o,n,I.kIn a o hk,hc,hd,by simpa using hs⟩,?_⟩;have e:=r.length;simp only[Array.length_toList] at e;omega
theorem Inv.tuple (I:Inv X pins σ H s)(h:SqT X.K H a xs):∃ its:List Value,Vals xs its/\IsTup s.heap a its.toArray/\xs.length<=sizeLine:=by
 rcases h with h|⟨o,its,n,hk,hc,hs,hz,r,hn⟩
 . obtain⟨z,its,r,p⟩:=h.ok I.hok;exact⟨its,r,p.tup,z⟩
 refine⟨its.toList,r,⟨o,I.kIn a o hk,hc,n,by simpa using hs⟩,?_⟩;have e:=r.length;simp only[Array.length_toList] at e;omega
theorem Inv.tupleN (I:Inv X pins σ H s)(h:SqT X.K H a xs):∃ ob,s.heap.get? a=some ob/\ob.dict=none:=by
 rcases h with h|⟨o,its,n,hk,hc,hs,hz,r,hn⟩
 . obtain⟨z,its,r,o,h1,_,_,h2⟩:=h.ok I.hok;exact⟨o,h1,h2⟩
 exact⟨o,I.kIn a o hk,hn⟩
theorem Inv.list_inj (I:Inv X pins σ H s)(h:SqL X.K H a xs)(h':SqL X.K H a ys):xs=ys:=by
 obtain⟨its,r,⟨o,n,e,_,_,d⟩,_⟩:=I.list h;obtain⟨its',r',⟨o',n',e',_,_,d'⟩,_⟩:=I.list h';rw[e] at e';cases e';rw[d] at d';injection d' with d1 _;have:its=its':=by simpa using congrArg Array.toList d1
 subst this;exact r.inj r'
theorem Inv.tuple_inj (I:Inv X pins σ H s)(h:SqT X.K H a xs)(h':SqT X.K H a ys):xs=ys:=by
 obtain⟨its,r,⟨o,e,_,n,d⟩,_⟩:=I.tuple h;obtain⟨its',r',⟨o',e',_,n',d'⟩,_⟩:=I.tuple h';rw[e] at e';cases e';rw[d] at d';injection d' with d1 _;have:its=its':=by simpa using congrArg Array.toList d1
 subst this;exact r.inj r'
end
abbrev Cx.wish (X:Cx)(E:Value->Shared->Prop):Cx:={X with xe:=E}
abbrev Cx.nox (X:Cx):Cx:=X.wish λ_ _=>False
theorem Cx.Ok.wish {X:Cx}(ok:X.Ok)(E:Value->Shared->Prop):(X.wish E).Ok:=
 ⟨ok.mod,ok.kind,ok.glob,ok.blt,ok.above,ok.inj,ok.has,ok.cab,ok.hd,ok.frames,ok.stk,ok.exf,ok.bs,ok.bsz,ok.noex,ok.exfs,ok.funs,ok.frf⟩
theorem Cx.Ok.unwish {X:Cx}{E:Value->Shared->Prop}(ok:(X.wish E).Ok):X.Ok:=
 ⟨ok.mod,ok.kind,ok.glob,ok.blt,ok.above,ok.inj,ok.has,ok.cab,ok.hd,ok.frames,ok.stk,ok.exf,ok.bs,ok.bsz,ok.noex,ok.exfs,ok.funs,ok.frf⟩
section
variable {X:Cx}{pins:List (Addr×Obj)}{σ:St}{H:Hp}{s:Shared}{E:Value->Shared->Prop}
theorem Inv.wish (I:Inv X pins σ H s)(E:Value->Shared->Prop):Inv (X.wish E) pins σ H s:=⟨I.ok.wish E,I.os,I.bare,I.base,I.loc,I.cell,I.free,I.freeC,I.pin,I.hok,I.len⟩
theorem Inv.unwish (I:Inv (X.wish E) pins σ H s):Inv X pins σ H s:=⟨I.ok.unwish,I.os,I.bare,I.base,I.loc,I.cell,I.free,I.freeC,I.pin,I.hok,I.len⟩
theorem SP.unwish {D:Ends}{f:Flow}{s':Shared}(h:SP (X.wish E) pins D f s'):SP X pins D f s':=by
 cases f with
 |next=>obtain⟨σ',H',I,q⟩:=h;exact⟨σ',H',I.unwish,q⟩
 |brk=>obtain⟨σ',H',I,q⟩:=h;exact⟨σ',H',I.unwish,q⟩
 |cont=>obtain⟨σ',H',I,q⟩:=h;exact⟨σ',H',I.unwish,q⟩
 |ret u=>obtain⟨v,σ',H',I,r,q⟩:=h;exact⟨v,σ',H',I.unwish,r,q⟩
theorem PSs.nox {st:List Stmt}{t:TS}(h:PSs X.nox st t):PSs X st t:=λpins s σ H D I hw=>A1P (h pins s σ H D (I.wish _) hw) (λ_ _ q=>q.unwish) λ_ _ z=>False.elim z
end
section
variable {X:Cx}{st:Stmt}{rest:List Stmt}{t u:TS}{e:Expr}{te:TE}{pos:Pos}
def ar5:TS:=λD σ H=>D.nx σ H
def aw3 (t u:TS):TS:=λD σ H=>t {D with nx:=u D} σ H
theorem Aw:PSs X [] ar5:=λ_ _ σ H _ I h=>A4F ⟨σ,H,I,h⟩
theorem A2 (h1:PS X st t) (h2:PSs X rest u):PSs X (st :: rest) (aw3 t u):=by
 intro pins s σ H D I h;refine wpAny_execs_cons (thn (h1 pins s σ H {D with nx:=u D} I h) λf s1 q=>?_)
 cases f with
 |next=>obtain⟨σ',H',I',q⟩:=q;exact h2 pins s1 σ' H' D I' q
 |ret v=>exact q
 |brk=>exact q
 |cont=>exact q
theorem A8 (h1:PS X st t):PSs X [st] t:=by
 intro pins s σ H D I h;refine wpAny_execs_cons (thn (h1 pins s σ H D I h) λf s1 q=>?_)
 cases f with
 |next=>exact A4F q
 |ret v=>exact q
 |brk=>exact q
 |cont=>exact q
theorem Inv.quiet {pins:List (Addr×Obj)}{σ:St}{H:Hp}{s:Shared}(I:Inv X pins σ H s):interactive X.env=false:=by simp[interactive,I.ok.kind]
def as5 (te:TE):TS:=λD σ H=>te σ H λ_ H1=>D.nx σ H1
theorem Dz (he:PE X e te)(hs:swapsWith e none pos.line X.env=pure false:=by ac_nf):PS X (.Expr e pos) (as5 te):=by intro pins s σ H D I h;exact wpAny_Expr_any (thn (he pins s σ H _ I h) λv s1 ⟨x,H1,I1,r1,q1⟩=>⟨σ,H1,I1,q1⟩) I.quiet hs
def aB7 (te:TE):TS:=λD σ H=>te σ H D.rt
theorem As (he:PE X e te):PS X (.Return (some e) pos) (aB7 te):=by intro pins s σ H D I h;exact wpAny_Return_some (thn (he pins s σ H _ I h) λv s1 ⟨x,H1,I1,r1,q1⟩=>⟨x,σ,H1,I1,r1,q1⟩)
def aA9 (c:TT)(t u:TS):TS:=λD σ H=>c σ H λb H1=>if b=true then t D σ H1 else u D σ H1
theorem Cd {c:Expr}{a b:List Stmt}{tc:TT}(hc:PT X c tc)(ha:PSs X a t)(hb:PSs X b u):PS X (.If c a b pos) (aA9 tc t u):=by
 intro pins s σ H D I h;refine wpAny_If (thn (hc pins s σ H _ I h) λd s1 ⟨H1,I1,q1⟩=>?_)
 cases d with
 |true=>exact ha pins s1 σ H1 D I1 q1
 |false=>exact hb pins s1 σ H1 D I1 q1
end
abbrev TG:=V->St->Hp->(St->Hp->Prop)->Prop
abbrev TGs:=List V->St->Hp->(St->Hp->Prop)->Prop
def PG (X:Cx)(target:Expr)(t:TG):Prop:=
 ∀(pins:List (Addr×Obj)) (s:Shared) (σ:St) (H:Hp) (v:V) (u:Value) (Q:St->Hp->Prop),Inv X pins σ H s->RelV v u->t v σ H Q ->
  wpAny (model X.prog X.w) X.A (assign target X.env u) (λ_ s'=>∃ σ' H',Inv X pins σ' H' s'/\Q σ' H') X.xe s
def PGs (X:Cx)(ts:List Expr)(t:TGs):Prop:=
 ∀(pins:List (Addr×Obj)) (s:Shared) (σ:St) (H:Hp) (vs:List V) (us:List Value) (Q:St->Hp->Prop),Inv X pins σ H s->Vals vs us->t vs σ H Q ->
  wpAny (model X.prog X.w) X.A (assignInOrder ((assignEach ts X.env).map (·.2)) us) (λ_ s'=>∃ σ' H',Inv X pins σ' H' s'/\Q σ' H') X.xe s
section
variable {X:Cx}{pos:Pos}
def Lp (i:Nat):TG:=λv σ H Q=>Q (σ.set i (some v)) H
theorem Ad {i:Nat}{x:Str}(hN:X.N.Nodup)(hi:X.N[i]? = some x)(hx:Loc X.env.scope x)(hf:X.fn x=true\/X.env.scope.names.lookup x=some .local:=by with_unfolding_all (first | exact .inl rfl | exact .inr rfl | assumption)):PG X (.Name x pos) (Lp i):=by intro pins s σ H v u Q I r h;exact wpAny_assign_Name (L8 I hN hi hx r (λs' I'=>⟨_,H,I',h⟩) hf)
def aw1:TGs:=λvs σ H Q=>vs=[]/\Q σ H
def Wc (t:TG)(u:TGs):TGs:=λvs σ H Q=>∃ v r,vs=v :: r/\t v σ H fun σ' H'=>u r σ' H' Q
theorem Ke:PGs X [] aw1:=by
 intro pins s σ H vs us Q I r h;obtain⟨e,h⟩:=h;subst e
 cases r;exact assignInOrder_nil ⟨σ,H,I,h⟩
theorem Bi {e:Expr}{es:List Expr}{t:TG}{u:TGs}(h1:PG X e t)(h2:PGs X es u)
  (hs:(assignEach (e :: es) X.env).map (·.2)=assign e X.env :: (assignEach es X.env).map (·.2):=by ac_nf):PGs X (e :: es) (Wc t u):=by
 intro pins s σ H vs us Q I r h;obtain⟨v,vr,e1,h⟩:=h;subst e1
 cases r with
 |cons r rr=>rw[hs];refine assignInOrder_cons (thn (h1 pins s σ H _ _ _ I r h) λ_ s1 ⟨σ1,H1,I1,q1⟩=>?_);exact h2 pins s1 σ1 H1 _ _ Q I1 rr q1
def ar4 (K:W.Frag)(n:Nat)(t:TGs):TG:=λv σ H Q=>∃ a xs,v = .ref a/\SqT K H a xs/\xs.length=n/\t xs σ H Q
theorem al1 {es:List Expr}{k:Nat}{t:TGs}{n:Nat}(hc:X.calm=true)(h:PGs X es t)
  (hn:(assignEach es X.env).length=n:=by ac_nf) (hst:(assignEach es X.env).findIdx? (·.1)=none:=by ac_nf):PG X (.Tuple es k pos) (ar4 X.K n t):=by
 intro pins s σ H v u Q I r hw;obtain⟨a,xs,e1,hq,hl,hw⟩:=hw;subst e1
 cases r;obtain⟨its,rv,ht,hz⟩:=I.tuple hq;refine assign_Tuple_tuple (I.ok.hd hc) ht (by simp[hn,<- hl,rv.length]) hst λh' hx=>?_;have I1:Inv X pins σ H {s with heap:=h'}:=I.kept (t':=s.toks) λb o e=>hx b o (A10 (A0D e)) e
 exact h pins _ σ H xs _ Q I1 (by simpa using rv) hw
def ak5 (te:TE)(g:TG):TS:=λD σ H=>te σ H λx H1=>g x σ H1 D.nx
theorem Vf {tg e:Expr}{te:TE}{g:TG}(he:PE X e te)(hg:PG X tg g)(hs:swapsWithSole [tg] e pos.line X.env=pure false:=by ac_nf)(hw:swappedStores [tg] e X.env=pure none:=by ac_nf)
  (h1:(assignEach [tg] X.env).map (·.2)=[assign tg X.env]:=by ac_nf):PS X (.Assign [tg] e pos) (ak5 te g):=by
 intro pins s σ H D I h;refine wpAny_Assign_stores (thn (he pins s σ H _ I h) λv s1 ⟨x,H1,I1,r1,q1⟩=>?_) hs hw;rw[h1];exact thn (hg pins s1 σ H1 x v _ I1 r1 q1) λ_ s2 q=>q
theorem Aa {i:Nat}{x:Str}{e:Expr}{te:TE}{pos':Pos}(hN:X.N.Nodup)(hi:X.N[i]? = some x)(hx:Loc X.env.scope x)(he:PE X e te)(hs:swapsWith e (some (.Name x pos')) pos.line X.env=pure false:=by ac_nf)(hf:X.fn x=true\/X.env.scope.names.lookup x=some .local:=by with_unfolding_all (first | exact .inl rfl | exact .inr rfl | assumption)) :
  PS X (.Assign [.Name x pos'] e pos) (ak5 te (Lp i)):=by
 intro pins s σ H D I h;refine wpAny_Assign_Name (thn (he pins s σ H _ I h) λv s1 ⟨y,H1,I1,r1,q1⟩=>?_) hs;exact L8 I1 hN hi hx r1 (λs2 I2=>⟨_,H1,I2,q1⟩) hf
def a89 (c:TT)(tb:TS):TS:=λD σ H=>∃ W:Nat->St->Hp->Prop,(∃ m,W m σ H)/\∀ m σ H,W m σ H ->
 c σ H λb H1=>if b=true then ∃ N:St->Hp->Prop,(∀ σ' H',N σ' H'->∃ m',m'<m/\W m' σ' H')/\tb {D with nx:=N,ct:=N,bk:=D.nx} σ H1 else D.nx σ H1
theorem Th {c:Expr}{body:List Stmt}{tc:TT}{tb:TS}(hp:PassesOwn (model X.prog X.w) X.A X.env X.xe)(hc:PT X c tc)(hb:PSs X body tb):PS X (.While c body [] pos) (a89 tc tb):=by
 intro pins s σ H D I h;obtain⟨W,⟨m0,w0⟩,turn⟩:=h;refine wpAny_While (codeAny_whileLoop (λn s'=>∃ σ' H',Inv X pins σ' H' s'/\W n σ' H') ?_ m0 ⟨σ,H,I,w0⟩);rintro n s1 ⟨σ1,H1,I1,w1⟩;refine A2M hp (thn (hc pins s1 σ1 H1 _ I1 (turn n σ1 H1 w1)) λb s2 ⟨H2,I2,q2⟩=>?_)
 cases b with
 |true=>
   obtain ⟨N,hN,q2⟩:=q2;rw[A12 rfl];refine A2M hp (thn (hb pins s2 σ1 H2 _ I2 q2) λf s3 q3=>?_)
   cases f with
   |next=>obtain⟨σ3,H3,I3,n3⟩:=q3;obtain⟨m',hm,w3⟩:=hN σ3 H3 n3;exact⟨m',hm,σ3,H3,I3,w3⟩
   |cont=>obtain⟨σ3,H3,I3,n3⟩:=q3;obtain⟨m',hm,w3⟩:=hN σ3 H3 n3;exact⟨m',hm,σ3,H3,I3,w3⟩
   |brk=>exact q3
   |ret v=>exact q3
 |false=>rw[A13 A0I];exact A4F ⟨σ1,H2,I2,q2⟩
end
structure It where
 go:Nat->Hp->Prop
 yld:Nat->Hp->V->Hp->Prop
 stop:Nat->Hp->Prop
def W3 (X:Cx)(pins:List (Addr×Obj))(H:Hp)(b:Addr):Prop:=
 H b=none/\b≠X.env.locals/\b∉X.fs/\(b∈X.ex\/X.s₀.heap.objs.size<=b)/\(∀ x c,X.env.cells.lookup x=some c->c≠b)/\∀ p∈X.pn++pins,p.1≠b
theorem Inv.fpOk {X:Cx}{pins:List (Addr×Obj)}{σ:St}{H H':Hp}{s:Shared}{b:Addr}(I:Inv X pins σ H s)(hb:s.heap.objs.size<=b)(hn:H' b=none):W3 X pins H' b:=by
 refine⟨hn,A3A (A0S I.lt hb),I.nofs hb,.inr (A0L I.sz hb),λx c e z=>?_,λp hp z=>?_⟩
 . obtain⟨v,q⟩:=I.cell x c e;exact absurd (A0S q.lt (by rw[z];exact hb)) (A1O _)
 exact absurd (A0S (A0D (I.pin p hp).1) (by rw[z];exact hb)) (A1O _)
structure a85 (P:Program)(w:World)(K:W.Frag)(tg:Expr)(J:It)(fp:List Addr)(it:Addr)(tn:Nat->Heap->Prop):Prop where
 mem:it∈fp
 obj:∀ i h,tn i h->∀ b∈fp,∃ o,h.get? b=some o/\∀ v,o.data ≠ .cell v
 keep:∀ i h h',tn i h->(∀ b∈fp,∀ o,h.get? b=some o->h'.get? b=some o)->tn i h'
 item:∀(X:Cx),X.prog=P->X.w=w->X.K=K->X.calm=true->∀(i:Nat) (pins:List (Addr×Obj)) (s:Shared) (σ:St) (H:Hp) (E:Value->Shared->Prop),Inv X pins σ H s->(∀ b∈fp,W3 X pins H b)->tn i s.heap->J.go i H ->
  wpAny (model P w) X.A (pyNext (.ref it)) (λr s1=>∃ u,r=some u /\
   wpAny (model P w) X.A (letOwnedTupleGo tg (.ref it) u) (λ_ s2=>∃ x H',Inv X pins σ H' s2/\RelV x u/\J.yld i H x H'/\tn (i+1) s2.heap/\∀ b∈fp,H' b=none) E s1) E s
 done:∀(X:Cx),X.prog=P->X.w=w->X.K=K->X.calm=true->∀(i:Nat) (pins:List (Addr×Obj)) (s:Shared) (σ:St) (H:Hp) (E:Value->Shared->Prop),Inv X pins σ H s->(∀ b∈fp,W3 X pins H b)->tn i s.heap->J.stop i H ->
  wpAny (model P w) X.A (pyNext (.ref it)) (λr s1=>r=none/\Inv X pins σ H s1) E s
 self:∀(A:Around) (i:Nat) (s:Shared) (Q:Value->Shared->Prop) (E:Value->Shared->Prop),tn i s.heap->Q (.ref it) s->wpAny (model P w) A (pyIter (.ref it)) Q E s
abbrev TI:=St->Hp->(It->Hp->Prop)->Prop
def PIE (X:Cx)(pins:List (Addr×Obj))(σ:St)(tg:Expr)(R:It->Hp->Prop)(itv:Value)(s2:Shared):Prop:=
 ∃(it:Addr) (fp:List Addr) (tn:Nat->Heap->Prop) (J:It) (H':Hp),itv = .ref it/\Inv X pins σ H' s2/\a85 X.prog X.w X.K tg J fp it tn/\tn 0 s2.heap/\(∀ b∈fp,W3 X pins H' b)/\R J H'
def PI (X:Cx)(tg iter:Expr)(wi:TI):Prop:=
 ∀(pins:List (Addr×Obj)) (s:Shared) (σ:St) (H:Hp) (R:It->Hp->Prop),Inv X pins σ H s->wi σ H R ->
  wpAny (model X.prog X.w) X.A (eval iter X.env) (λv s1=>wpAny (model X.prog X.w) X.A (pyIter v) (PIE X pins σ tg R) X.xe s1) X.xe s
theorem Zz {M:Model}{A:Around}{E:Value->Shared->Prop}{s:Shared}{tg:Expr}{it:Addr}{u:Value}{o:Obj}{n:String}{vs:Array Value}{Q:Unit->Shared->Prop}(ho:s.heap.get? it=some o)(hc:o.cls = .type n)(hd:o.data = .fields vs)
  (hn:["enumerate","zip","dict_itemiterator","dict_reverseitemiterator","odict_iterator","itertools.zip_longest","itertools.pairwise"].contains n=false) (hQ:Q () s):wpAny M A (letOwnedTupleGo tg (.ref it) u) Q E s:=by
 unfold letOwnedTupleGo
 cases tg<;>first
  |exact A05 hQ
  | (cases u<;>first
    |exact A05 hQ
    | (refine A00 (wpAny_load ho ?_)
       rw[hc,hd];show wpAny M A (if(["enumerate","zip","dict_itemiterator","dict_reverseitemiterator","odict_iterator","itertools.zip_longest","itertools.pairwise"].contains n&&vs[0]? == some (rawInt _))=true then _ else _) Q E s
       rw[A13 (by intro h;rw[hn,Bool.false_and] at h;cases h)];exact A05 hQ))
def Itl (K:W.Frag)(a:Addr):It:=
 ⟨λi H=>∃ xs x,SqL K H a xs/\xs[i]? = some x,λi H x H'=>H'=H/\∀ xs,SqL K H a xs->xs[i]? = some x,λi H=>∃ xs,SqL K H a xs/\xs.length<=i⟩
def Itt (K:W.Frag)(a:Addr):It:=
 ⟨λi H=>∃ xs x,SqT K H a xs/\xs[i]? = some x,λi H x H'=>H'=H/\∀ xs,SqT K H a xs->xs[i]? = some x,λi H=>∃ xs,SqT K H a xs/\xs.length<=i⟩
def Itr (lo:Int)(n:Nat):It:=⟨λi _=>i<n,λi H x H'=>H'=H/\x = .int (lo+i),λi _=>n<=i⟩
theorem a02 {P:Program}{w:World}{K:W.Frag}{tg:Expr}(a it:Addr):a85 P w K tg (Itl K a) [it] it (λi h=>h.IsListIter it a i) where
 mem:=by simp
 obj:=λi h st b hb=>by
  have e:b=it:=by simpa using hb
  subst e;obtain⟨o,e,c,d⟩:=st;exact⟨o,e,λv z=>by rw[d] at z;cases z⟩
 keep:=λi h h' st k=>st.at λo e=>k it (by simp) o e
 item:=by
  intro X hP hw hK hc i pins s σ H E I hf st hg;subst hP hw hK;obtain⟨xs,x,hq,hx⟩:=hg;obtain⟨its,rv,p,hz⟩:=I.list hq;obtain⟨u,hu,ru⟩:=rv.get hx;obtain⟨f0,f1,f2,f3,f4,f5⟩:=hf it (by simp);refine wpAny_pyNext_list_item st p.isList (x:=u) (by simpa using hu) λh' st' sb=>?_;have I1:Inv X pins σ H {s with heap:=h'}:=I.turned (t':=s.toks) (λb o hb e=>(sb.2 b hb).trans e) f0 f1 f3 f4 f5
  obtain⟨o,e,c,d⟩:=id st';exact⟨u,rfl,Zz (s:={s with heap:=h'}) e c d nofun ⟨x,H,I1,ru,⟨rfl,λys hy=>by rw[I.list_inj hy hq];exact hx⟩,st',λb hb=>(hf b hb).1⟩⟩
 done:=by intro X hP hw hK hc i pins s σ H E I hf st hg;subst hP hw hK;obtain⟨xs,hq,hx⟩:=hg;obtain⟨its,rv,p,hz⟩:=I.list hq;obtain⟨f0,f1,f2,f3,f4,f5⟩:=hf it (by simp);have hl:=rv.length;exact wpAny_pyNext_list_end (I.ok.hd hc) st p.isList (by simp;omega) λh' eb=>⟨rfl,I.turned (t':=s.toks) (λb o hb e=>eb b o hb e) f0 f1 f3 f4 f5⟩
 self:=λ_ _ _ _ _ st h=>wpAny_pyIter_listiter st h
theorem Vs {P:Program}{w:World}{K:W.Frag}{tg:Expr}(a it:Addr):a85 P w K tg (Itt K a) [it] it (λi h=>h.IsTupleIter it a i) where
 mem:=by simp
 obj:=λi h st b hb=>by
  have e:b=it:=by simpa using hb
  subst e;obtain⟨o,e,c,d⟩:=st;exact⟨o,e,λv z=>by rw[d] at z;cases z⟩
 keep:=λi h h' st k=>st.at λo e=>k it (by simp) o e
 item:=by
  intro X hP hw hK hc i pins s σ H E I hf st hg;subst hP hw hK;obtain⟨xs,x,hq,hx⟩:=hg;obtain⟨its,rv,p,hz⟩:=I.tuple hq;obtain⟨u,hu,ru⟩:=rv.get hx;obtain⟨f0,f1,f2,f3,f4,f5⟩:=hf it (by simp);refine wpAny_pyNext_tuple_item st (show s.heap.IsTuple a its.toArray from p) (x:=u) (by simpa using hu) λh' st' sb=>?_;have I1:Inv X pins σ H {s with heap:=h'}:=I.turned (t':=s.toks) (λb o hb e=>(sb.2 b hb).trans e) f0 f1 f3 f4 f5
  obtain⟨o,e,c,d⟩:=id st';exact⟨u,rfl,Zz (s:={s with heap:=h'}) e c d nofun ⟨x,H,I1,ru,⟨rfl,λys hy=>by rw[I.tuple_inj hy hq];exact hx⟩,st',λb hb=>(hf b hb).1⟩⟩
 done:=by intro X hP hw hK hc i pins s σ H E I hf st hg;subst hP hw hK;obtain⟨xs,hq,hx⟩:=hg;obtain⟨its,rv,p,hz⟩:=I.tuple hq;obtain⟨f0,f1,f2,f3,f4,f5⟩:=hf it (by simp);have hl:=rv.length;exact wpAny_pyNext_tuple_end (I.ok.hd hc) st (show s.heap.IsTuple a its.toArray from p) (by simp;omega) λh' eb=>⟨rfl,I.turned (t':=s.toks) (λb o hb e=>eb b o hb e) f0 f1 f3 f4 f5⟩
 self:=λ_ _ _ _ _ st h=>wpAny_pyIter_tupleiter st h
theorem Vo {P:Program}{w:World}{K:PySem.W.Frag}{tg:Expr}(it:Addr)(lo:Int)(n:Nat):a85 P w K tg (Itr lo n) [it] it (λi h=>IsRangeIter h it (lo+(i:Nat)*1) ((n:Int)-(i:Nat)) 1) where
 mem:=by simp
 obj:=λi h st b hb=>by
  have e:b=it:=by simpa using hb
  subst e
  exact⟨_,st,λv z=>by
   have z':Data.fields _=Data.cell v:=z
   cases z'⟩
 keep:=λi h h' st k=>k it (by simp) _ st
 item:=by
  intro X hP hw hK hc i pins s σ H E I hf st hg;subst hP hw hK;obtain⟨f0,f1,f2,f3,f4,f5⟩:=hf it (by simp);have W:=Walks.range (prog:=X.prog) (w:=X.w) (I.ok.hd hc) it lo 1 n;refine W.item i s _ _ hg st λv h' tk hv st' kk=>?_;obtain⟨t,rfl⟩:=hv;have I1:Inv X pins σ H {s with heap:=h',toks:=tk}:=I.turned (λb o hb e=>kk b o (by simpa using hb) e) f0 f1 f3 f4 f5
  refine⟨_,rfl,Zz (s:={s with heap:=h',toks:=tk}) (n:="range_iterator") st' rfl rfl nofun ⟨.int (lo+i),H,I1,⟨t,?_⟩,⟨rfl,rfl⟩,st',λb hb=>(hf b hb).1⟩⟩
  rw[Int.mul_one]
 done:=by intro X hP hw hK hc i pins s σ H E I hf st hg;subst hP hw hK;obtain⟨f0,f1,f2,f3,f4,f5⟩:=hf it (by simp);exact wpAny_pyNext_range_end (I.ok.hd hc) st (by have:n<=i:=hg;omega) λh' eb=>⟨rfl,I.turned (t':=s.toks) (λb o hb e=>eb b o hb e) f0 f1 f3 f4 f5⟩
 self:=λ_ _ _ _ _ st h=>wpAny_pyIter_rangeiter st h
section
variable {X:Cx}{tg:Expr}
theorem Tq {pins:List (Addr×Obj)}{σ:St}{H:Hp}{s:Shared}{R:It->Hp->Prop}{E:Value->Shared->Prop}{lo hi:Int}{t u v:Tok}{tk:Nat}(I:Inv X pins σ H s)(h1:-(2 ^ 62)<=lo)(h2:lo<2 ^ 62)(h3:-(2 ^ 62)<=hi)(h4:hi<2 ^ 62)
  (q:R (Itr lo (hi-lo).toNat) H):wpAny (model X.prog X.w) X.A (pyIter (.ref s.heap.objs.size)) (PIE X pins σ tg R) E {s with heap:=s.heap.push {cls:=.type "range",data:=.fields #[.int lo t,.int hi u,.int 1 v]},toks:=tk}:=by
 refine wpAny_pyIter_range (IsRange.new ..) (small_one h1 h2 h3 h4) ?_;have I1:Inv X pins σ H {s with heap:=s.heap.push {cls:=.type "range",data:=.fields #[.int lo t,.int hi u,.int 1 v]},toks:=tk}:=I.kept λb o e=>A02 _ e
 refine⟨(s.heap.push {cls:=.type "range",data:=.fields #[.int lo t,.int hi u,.int 1 v]}).objs.size,[(s.heap.push {cls:=.type "range",data:=.fields #[.int lo t,.int hi u,.int 1 v]}).objs.size],_,_,H,rfl,
  I1.kept (t':=tk) λb o e=>A02 _ e,Vo _ lo (hi-lo).toNat,?_,λb hb=>?_,q⟩
 . have e1:lo+((0:Nat):Int)*1=lo:=by simp
   have e2:(((hi-lo).toNat:Nat):Int)-((0:Nat):Int)=Builtin.Range.rangeSize lo hi 1:=by rw[rangeSize_one];split<;>omega
   show IsRangeIter _ _ (lo+((0:Nat):Int)*1) ((((hi-lo).toNat:Nat):Int)-((0:Nat):Int)) 1;rw[e1,e2];exact A0O _ rfl
 have e:b=(s.heap.push {cls:=.type "range",data:=.fields #[.int lo t,.int hi u,.int 1 v]}).objs.size:=by simpa using hb
 subst e;exact I1.fpOk (A06 _) (I1.hok.fresh (A06 _))
def ar9 (ta:TA):TI:=fun σ H R=>ta σ H λvs H1=>∃ j:Int,vs=[.int j] /\ -(2 ^ 62)<=j/\j<2 ^ 62/\R (Itr 0 j.toNat) H1
def av5 (ta:TA):TI:=fun σ H R=>ta σ H λvs H1=>∃ i j:Int,vs=[.int i,.int j]/\(-(2 ^ 62)<=i/\i<2 ^ 62 /\ -(2 ^ 62)<=j/\j<2 ^ 62)/\R (Itr i (j-i).toNat) H1
theorem Bu {a:Expr}{ta:TA}{p pos:Pos}(hg:Gl X "range")(hm:X.mg "range" = none)(ha:PA X [a] ta)(hs:starEach [a] X.env=[(false,eval a X.env)]:=by ac_nf):PI X tg (.Call (.Name "range" p) [a] [] pos) (ar9 ta):=by
 intro pins s σ H R I h;refine Call_ (Le I hg hm boot_range (A3N (thn (ha pos pins s σ H _ I h) λus s1 ⟨vs,H1,I1,r1,q1⟩=>?_) hs rfl));obtain⟨j,e,q1,q2,q⟩:=q1;subst e
 cases r1 with
 |cons r rr=>cases rr;obtain⟨t,rfl⟩:=r;exact call_range_1 (Tq I1 ∅ ∅ q1 q2 (by simpa using q))
theorem Rc {a b:Expr}{ta:TA}{p pos:Pos}(hg:Gl X "range")(hm:X.mg "range" = none)(ha:PA X [a,b] ta)(hs:starEach [a,b] X.env=[(false,eval a X.env),(false,eval b X.env)]:=by ac_nf)(hs2:starEach [b] X.env=[(false,eval b X.env)]:=by ac_nf) :
  PI X tg (.Call (.Name "range" p) [a,b] [] pos) (av5 ta):=by
 intro pins s σ H R I h;refine Call_ (Le I hg hm boot_range (A3N (thn (ha pos pins s σ H _ I h) λus s1 ⟨vs,H1,I1,r1,q1⟩=>?_) (by rw[hs,hs2]) (by rw[hs2];rfl)));obtain⟨i,j,e,⟨q1,q2,q3,q4⟩,q⟩:=q1;subst e
 cases r1 with
 |cons r rr=>
   cases rr with
   |cons r' rr=>cases rr;obtain⟨t,rfl⟩:=r;obtain⟨t',rfl⟩:=r';exact call_range_2 (Tq I1 q1 q2 q3 q4 q)
def aC1 (wi:TI)(g:TG)(tb:TS):TS:=λD σ H=>wi σ H λJ H1=>∃ W:Nat->Nat->St->Hp->Prop,(∃ m,W 0 m σ H1)/\∀ i m σ H,W i m σ H ->
 (J.stop i H/\D.nx σ H)\/(J.go i H/\∃ N:St->Hp->Prop,(∀ σ' H',N σ' H'->∃ m',m'<m/\W (i+1) m' σ' H')/\∀ x H',J.yld i H x H'->g x σ H' fun σ2 H2=>tb {D with nx:=N,ct:=N,bk:=D.nx} σ2 H2)
def Qt (fp:List Addr)(h:Heap):List (Addr×Obj):=fp.filterMap λb=>(h.get? b).map λo=>(b,o)
theorem Ia {fp:List Addr}{h:Heap}{b:Addr}{o:Obj}(hb:b∈fp)(e:h.get? b=some o):(b,o)∈Qt fp h:=A4W.mpr ⟨b,hb,by rw[e];rfl⟩
theorem Xf {fp:List Addr} {h:Heap} {p:Addr×Obj} (hp:p∈Qt fp h):p.1∈fp/\h.get? p.1=some p.2:=by
 obtain⟨b,hb,e⟩:=A4W.mp hp
 cases q:h.get? b with
 |none=>rw[q] at e;cases e
 |some o=>rw[q] at e;have e':(b,o)=p:=A0Z e;subst e';exact⟨hb,q⟩
theorem Inv.pinned {pins:List (Addr×Obj)}{σ:St}{H:Hp}{s:Shared}{fp:List Addr}(I:Inv X pins σ H s)(hf:∀ b∈fp,W3 X pins H b)(ho:∀ b∈fp,∃ o,s.heap.get? b=some o/\∀ v,o.data ≠ .cell v):Inv X (pins++Qt fp s.heap) σ H s:=
 I.pins_of λp hp=>(A0E.mp hp).elim (λz=>I.pin p (A0F _ z)) λz=>by obtain⟨hb,e⟩:=Xf z;obtain⟨f0,f1,f2,_⟩:=hf p.1 hb;obtain⟨o,e',d⟩:=ho p.1 hb;rw[e] at e';cases e';exact⟨e,f0,f1,f2,d⟩
theorem Inv.unpinned {pins pl:List (Addr×Obj)}{σ:St}{H:Hp}{s:Shared}(I:Inv X (pins++pl) σ H s):Inv X pins σ H s:=I.pins_of λp hp=>I.pin p (A0F _ (A0T _ hp))
theorem Du {iter:Expr}{body:List Stmt}{wi:TI}{g:TG}{tb:TS}{pos:Pos}(hp:PassesOwn (model X.prog X.w) X.A X.env X.xe)(hc:X.calm=true)(hi:PI X tg iter wi)(hg:PG X tg g)(hb:PSs X body tb)
  (hs:∀ x,foldedSetIterable iter X.env x=pure x:=by intro _;ac_nf):PS X (.For tg iter body [] pos) (aC1 wi g tb):=by
 intro pins s σ H D I h;refine wpAny_For (thn (hi pins s σ H _ I h) λv s1 h1=>thn h1 λitv s2 h2=>?_) hs;obtain⟨it,fp,tn,J,H2,e,I2,T,st2,f2,W,⟨m0,w0⟩,turn⟩:=h2;subst e;have stat:∀ {H':Hp},(∀ b∈fp,H' b=none)->∀ b∈fp,W3 X pins H' b:=λhn b hb=>⟨hn b hb,(f2 b hb).2⟩;refine codeAny_forLoop_any (λn s'=>∃ i σ' H',Inv X pins σ' H' s'/\tn i s'.heap/\(∀ b∈fp,H' b=none)/\W i n σ' H') ?_ m0 ⟨0,σ,H2,I2,st2,λb hb=>(f2 b hb).1,w0⟩;rintro n s3 ⟨i,σ3,H3,I3,st3,fr3,w3⟩;rcases turn i n σ3 H3 w3 with ⟨stop,qn⟩|⟨go,N,hN,step⟩
 . refine A2M hp (thn (T.done X rfl rfl rfl hc i pins s3 σ3 H3 X.xe I3 (stat fr3) st3 stop) λr s4 ⟨hr,I4⟩=>?_);subst hr;exact A4F ⟨σ3,H3,I4,qn⟩
 refine A2M hp (thn (T.item X rfl rfl rfl hc i pins s3 σ3 H3 X.xe I3 (stat fr3) st3 go) λr s4 ⟨u,hr,h4⟩=>?_);subst hr;refine A2M hp (thn h4 λ_ s5 ⟨x,H5,I5,r5,y5,st5,fr5⟩=>?_);have I5':=I5.pinned (stat fr5) (T.obj _ _ st5);refine A2M hp (thn (hg _ s5 σ3 H5 x u _ I5' r5 (step x H5 y5)) λ_ s6 ⟨σ6,H6,I6,q6⟩=>?_);refine A2M hp (thn (hb _ s6 σ6 H6 _ I6 q6) λf s7 q7=>?_)
 have again:∀ {σ7:St} {H7:Hp},Inv X (pins++Qt fp s5.heap) σ7 H7 s7->N σ7 H7->∃ m,m<n/\∃ i σ' H',Inv X pins σ' H' s7/\tn i s7.heap/\(∀ b∈fp,H' b=none)/\W i m σ' H':=fun {σ7 H7} I7 n7=>by obtain⟨m',hm,w7⟩:=hN σ7 H7 n7;refine⟨m',hm,i+1,σ7,H7,I7.unpinned,T.keep _ _ _ st5 λb hb o e=>(I7.pin (b,o) (A0F _ (A0F _ (Ia hb e)))).1,λb hb=>?_,w7⟩;obtain⟨o,e,d⟩:=T.obj _ _ st5 b hb;exact(I7.pin (b,o) (A0F _ (A0F _ (Ia hb e)))).2.1
 cases f with
 |next=>obtain⟨σ7,H7,I7,n7⟩:=q7;exact again I7 n7
 |cont=>obtain⟨σ7,H7,I7,n7⟩:=q7;exact again I7 n7
 |brk=>obtain⟨σ7,H7,I7,q7⟩:=q7;exact⟨σ7,H7,I7.unpinned,q7⟩
 |ret v=>obtain⟨x7,σ7,H7,I7,r7,q7⟩:=q7;exact⟨x7,σ7,H7,I7.unpinned,r7,q7⟩
end
abbrev R2:=V->V->Hp->VK->Prop
def OpR (X:Cx)(f:Value->Value->Sem Value)(r:R2):Prop:=
 ∀(pins:List (Addr×Obj)) (s:Shared) (σ:St) (H:Hp) (x y:V) (v u:Value) (Q:VK),Inv X pins σ H s->RelV x v->RelV y u->r x y H Q ->
  wpAny (model X.prog X.w) X.A (f v u) (EP X pins σ Q) X.xe s
def UnR (X:Cx)(f:Value->Sem Value)(r:V->Hp->VK->Prop):Prop:=
 ∀(pins:List (Addr×Obj)) (s:Shared) (σ:St) (H:Hp) (x:V) (v:Value) (Q:VK),Inv X pins σ H s->RelV x v->r x H Q ->
  wpAny (model X.prog X.w) X.A (f v) (EP X pins σ Q) X.xe s
def CallR (X:Cx)(f:Value)(r:List V->Hp->VK->Prop):Prop:=
 ∀(pins:List (Addr×Obj)) (s:Shared) (σ:St) (H:Hp) (xs:List V) (us:List Value) (Q:VK),Inv X pins σ H s->Vals xs us->r xs H Q ->
  wpAny (model X.prog X.w) X.A (call f us) (EP X pins σ Q) X.xe s
def tOp (r:R2)(ta tb:TE):TE:=fun σ H Q=>ta σ H λx H1=>tb σ H1 λy H2=>r x y H2 Q
def tUn (r:V->Hp->VK->Prop)(ta:TE):TE:=fun σ H Q=>ta σ H λx H1=>r x H1 Q
def rI (C:Int->Int->Prop)(g:Int->Int->V):R2:=λx y H Q=>∃ i j,x = .int i/\y = .int j/\C i j/\Q (g i j) H
def rI0 (g:Int->Int->V):R2:=λx y H Q=>∃ i j,x = .int i/\y = .int j/\Q (g i j) H
def rU (g:Int->V):V->Hp->VK->Prop:=λx H Q=>∃ i,x = .int i/\Q (g i) H
section
variable {X:Cx}{a b c:Expr}{ta tb tc:TE}{pos:Pos}
theorem ax5 (ha:PE X a ta)(hb:PE X b tb){pins:List (Addr×Obj)}{s:Shared}{σ:St}{H:Hp}{R:V->V->Hp->Prop}(I:Inv X pins σ H s)
  (h:ta σ H λx H1=>tb σ H1 λy H2=>R x y H2) {Q:Value->Shared->Prop} {f:Value->Value->Sem Value}
  (hf:∀ v u s2 x y H2,Inv X pins σ H2 s2->RelV x v->RelV y u->R x y H2->wpAny (model X.prog X.w) X.A (f v u) Q X.xe s2) :
  wpAny (model X.prog X.w) X.A (eval a X.env) (λv s₁=>wpAny (model X.prog X.w) X.A (eval b X.env) (λu s₂=>wpAny (model X.prog X.w) X.A (f v u) Q X.xe s₂) X.xe s₁) X.xe s:=by
 refine thn (ha pins s σ H _ I h) λv s1 ⟨x,H1,I1,r1,q1⟩=>?_;refine thn (hb pins s1 σ H1 _ I1 q1) λu s2 ⟨y,H2,I2,r2,q2⟩=>?_;exact hf v u s2 x y H2 I2 r1 r2 q2
theorem Aj {op:Operator}{r:R2}(ho:OpR X (binaryOp op) r)(ha:PE X a ta)(hb:PE X b tb):PE X (.BinOp a op b pos) (tOp r ta tb):=by intro pins s σ H Q I h;exact wpAny_BinOp (ax5 ha hb I h λv u s2 x y H2 I2 rx ry q=>ho pins s2 σ H2 x y v u Q I2 rx ry q)
theorem ad8 {op:UnaryOp}{r:V->Hp->VK->Prop}(ho:UnR X (unaryOp op) r)(ha:PE X a ta):PE X (.UnaryOp op a pos) (tUn r ta):=by intro pins s σ H Q I h;exact UnaryOp_ (thn (ha pins s σ H _ I h) λv s1 ⟨x,H1,I1,r1,q1⟩=>ho pins s1 σ H1 x v Q I1 r1 q1)
theorem opI {f:Value->Value->Sem Value}{C:Int->Int->Prop}{g:Int->Int->Int}
  (rule:∀(i j:Int) (t u:Tok) (s:Shared) (Q:Value->Shared->Prop) (E:Value->Shared->Prop),C i j->Q (.int (g i j) s.toks) {s with toks:=s.toks+1}->wpAny (model X.prog X.w) X.A (f (.int i t) (.int j u)) Q E s) :
  OpR X f (rI C λi j=>.int (g i j)):=by
 intro pins s σ H x y v u Q I rx ry h;obtain⟨i,j,rfl,rfl,hc,q⟩:=h;obtain⟨t,rfl⟩:=rx;obtain⟨t',rfl⟩:=ry;exact rule i j t t' s _ _ hc ⟨.int (g i j),H,I.tok _,⟨_,rfl⟩,q⟩
theorem aB4 {f:Value->Value->Sem Value}{g:Int->Int->Int}
  (rule:∀(i j:Int) (t u:Tok) (s:Shared) (Q:Value->Shared->Prop) (E:Value->Shared->Prop),Q (.int (g i j) s.toks) {s with toks:=s.toks+1}->wpAny (model X.prog X.w) X.A (f (.int i t) (.int j u)) Q E s) :
  OpR X f (rI0 λi j=>.int (g i j)):=by
 intro pins s σ H x y v u Q I rx ry h;obtain⟨i,j,rfl,rfl,q⟩:=h;obtain⟨t,rfl⟩:=rx;obtain⟨t',rfl⟩:=ry;exact rule i j t t' s _ _ ⟨.int (g i j),H,I.tok _,⟨_,rfl⟩,q⟩
theorem aA2 {f:Value->Value->Sem Value}{g:Int->Int->Bool}
  (rule:∀(i j:Int) (t u:Tok) (s:Shared) (Q:Value->Shared->Prop) (E:Value->Shared->Prop),Q (.bool (g i j)) s->wpAny (model X.prog X.w) X.A (f (.int i t) (.int j u)) Q E s) :
  OpR X f (rI0 λi j=>.bl (g i j)):=by
 intro pins s σ H x y v u Q I rx ry h;obtain⟨i,j,rfl,rfl,q⟩:=h;obtain⟨t,rfl⟩:=rx;obtain⟨t',rfl⟩:=ry;exact rule i j t t' s _ _ ⟨.bl (g i j),H,I,rfl,q⟩
def ay4 (i j:Int):Prop:=0<j/\j<1073741824
def aw8 (i j:Int):Prop:=0<=j/\j<=1000000/\i.natAbs<2 ^ 64
def CMul (i j:Int):Prop:=(-(2 ^ 64)<i/\i<2 ^ 64)\/(-(2 ^ 64)<j/\j<2 ^ 64)
theorem CMul.ok {i j:Int}(h:CMul i j):IntMulOk i j:=by
 rcases h with ⟨h1,h2⟩|⟨h1,h2⟩
 . exact .of_left (intBits_le_64 h1 h2)
 exact .of_right (intBits_le_64 h1 h2)
theorem op_add:OpR X (binaryOp .Add) (rI0 λi j=>.int (i+j)):=aB4 λ_ _ _ _ _ _ _ q=>add_int q
theorem Hb:OpR X (binaryOp .Sub) (rI0 λi j=>.int (i-j)):=aB4 λ_ _ _ _ _ _ _ q=>sub_int q
theorem op_mul:OpR X (binaryOp .Mult) (rI CMul λi j=>.int (i*j)):=opI λ_ _ _ _ _ _ _ hc q=>mul_int q hc.ok
theorem af7:OpR X (binaryOp .FloorDiv) (rI ay4 λi j=>.int (i / j)):=opI λi j _ _ _ _ _ hc q=>by have h1:(0:Int)<j:=hc.1;have h2:j<1073741824:=hc.2;exact floordiv_int ∅ (by rw[Int.fdiv_eq_ediv_of_nonneg i ∅];exact q) (.inl (PyProof.noPylong_small ∅))
theorem Kt:OpR X (binaryOp .Mod) (rI (λ_ j=>0<j) λi j=>.int (i % j)):=opI λi j _ _ _ _ _ hc q=>by have h1:(0:Int)<j:=hc;exact mod_int' ∅ (by rw[Int.fmod_eq_emod_of_nonneg i ∅];exact q)
theorem as0:OpR X (binaryOp .Pow) (rI aw8 λi j=>.int (i ^ j.toNat)):=opI λ_ _ _ _ _ _ _ hc q=>pow_int_small hc.1 hc.2.1 hc.2.2 q
theorem unI {f:Value->Sem Value}{g:Int->Int}
  (rule:∀(i:Int) (t:Tok) (s:Shared) (Q:Value->Shared->Prop) (E:Value->Shared->Prop),Q (.int (g i) s.toks) {s with toks:=s.toks+1}->wpAny (model X.prog X.w) X.A (f (.int i t)) Q E s) :
  UnR X f (rU λi=>.int (g i)):=by
 intro pins s σ H x v Q I rx h;obtain⟨i,rfl,q⟩:=h;obtain⟨t,rfl⟩:=rx;exact rule i t s _ _ ⟨.int (g i),H,I.tok _,⟨_,rfl⟩,q⟩
theorem Wy:UnR X (unaryOp .USub) (rU λi=>.int (-i)):=unI λ_ _ _ _ _ q=>neg_int q
end
def aw4:V->V->Bool
 |.non,.non=>true | .non,.int _=>true | .int _,.non=>true | .non,.bl _=>true | .bl _,.non=>true | .non,.str _=>true | .str _,.non=>true
 |.int _,.int _=>true | .bl _,.bl _=>true | .str _,.str _=>true | .byt _,.byt _=>true
 |.int _,.str _=>true | .str _,.int _=>true | .bl _,.str _=>true | .str _,.bl _=>true
 |_,_=>false
def rEq:R2:=λx y H Q=>aw4 x y=true/\Q (.bl (decide (x=y))) H
def rNe:R2:=λx y H Q=>aw4 x y=true/\Q (.bl (!decide (x=y))) H
theorem Zj {i j:Int}:decide (V.int i=V.int j)=(i==j):=by rw[A1N];simp
theorem aa7 {i j:Bool}:decide (V.bl i=V.bl j)=(i==j):=by rw[A1N];simp
theorem Z2 {i j:Str}:decide (V.str i=V.str j)=(i==j):=by rw[A1N];simp
theorem Z5 {i j:Array UInt8}:decide (V.byt i=V.byt j)=(i.toList==j.toList):=by
 rw[A1N]
 cases i
 cases j;simp
section
variable {X:Cx}{a b c:Expr}{ta tb tc:TE}{pos:Pos}
theorem Bd {pins:List (Addr×Obj)}{σ:St}{H:Hp}{s:Shared}{Q:VK}{k k':Bool}(I:Inv X pins σ H s)(q:Q (.bl k) H)(e:k=k'):EP X pins σ Q (.bool k') s:=by subst e;exact⟨.bl k,H,I,rfl,q⟩
theorem op_eq:OpR X (compareOp .Eq) rEq:=by
 intro pins s σ H x y v u Q I rx ry h;obtain⟨hs,q⟩:=h
 cases x with
 |non=>
   cases rx
   cases y with
   |non=>cases ry;exact PySem.EqNone.eq_none_none (Bd I q (by simp))
   |bl j=>cases ry;exact PySem.EqNone.eq_none_bool (Bd I q (by simp))
   |int j=>obtain⟨t',rfl⟩:=ry;exact PySem.EqNone.eq_none_int (Bd I q (by simp))
   |str j=>obtain⟨t',rfl⟩:=ry;exact PySem.EqNone.eq_none_str (Bd I q (by simp))
   |_=>exact absurd (show false=true from hs) A0I
 |bl i=>
   cases rx
   cases y with
   |non=>cases ry;exact PySem.EqNone.eq_bool_none (Bd I q (by simp))
   |bl j=>cases ry;exact eq_bool (Bd I q aa7)
   |str j=>obtain⟨t',rfl⟩:=ry;exact PySem.EqMixed.eq_bool_str (Bd I q (by simp))
   |_=>exact absurd (show false=true from hs) A0I
 |int i=>
   obtain⟨t,rfl⟩:=rx
   cases y with
   |non=>cases ry;exact PySem.EqNone.eq_int_none (Bd I q (by simp))
   |int j=>obtain⟨t',rfl⟩:=ry;exact eq_int (Bd I q Zj)
   |str j=>obtain⟨t',rfl⟩:=ry;exact PySem.EqMixed.eq_int_str (Bd I q (by simp))
   |_=>exact absurd (show false=true from hs) A0I
 |str i=>
   obtain⟨t,rfl⟩:=rx
   cases y with
   |non=>cases ry;exact PySem.EqNone.eq_str_none (Bd I q (by simp))
   |bl j=>cases ry;exact PySem.EqMixed.eq_str_bool (Bd I q (by simp))
   |int j=>obtain⟨t',rfl⟩:=ry;exact PySem.EqMixed.eq_str_int (Bd I q (by simp))
   |str j=>obtain⟨t',rfl⟩:=ry;exact eq_str (Bd I q Z2)
   |_=>exact absurd (show false=true from hs) A0I
 |byt i=>
   obtain⟨t,rfl⟩:=rx
   cases y with
   |byt j=>obtain⟨t',rfl⟩:=ry;exact W.eq_bytes (Bd I q Z5)
   |_=>exact absurd (show false=true from hs) A0I
 |_=>cases y<;>exact absurd (show false=true from hs) A0I
theorem op_ne:OpR X (compareOp .NotEq) rNe:=by
 intro pins s σ H x y v u Q I rx ry h;obtain⟨hs,q⟩:=h
 cases x with
 |non=>
   cases rx
   cases y with
   |non=>cases ry;exact PySem.EqNone.ne_none_none (Bd I q (by simp))
   |bl j=>cases ry;exact PySem.EqNone.ne_none_bool (Bd I q (by simp))
   |int j=>obtain⟨t',rfl⟩:=ry;exact PySem.EqNone.ne_none_int (Bd I q (by simp))
   |str j=>obtain⟨t',rfl⟩:=ry;exact PySem.EqNone.ne_none_str (Bd I q (by simp))
   |_=>exact absurd (show false=true from hs) A0I
 |bl i=>
   cases rx
   cases y with
   |non=>cases ry;exact PySem.EqNone.ne_bool_none (Bd I q (by simp))
   |bl j=>cases ry;exact ne_bool (Bd I q (congrArg not aa7))
   |str j=>obtain⟨t',rfl⟩:=ry;exact PySem.EqMixed.ne_bool_str (Bd I q (by simp))
   |_=>exact absurd (show false=true from hs) A0I
 |int i=>
   obtain⟨t,rfl⟩:=rx
   cases y with
   |non=>cases ry;exact PySem.EqNone.ne_int_none (Bd I q (by simp))
   |int j=>obtain⟨t',rfl⟩:=ry;exact ne_int (Bd I q (congrArg not Zj))
   |str j=>obtain⟨t',rfl⟩:=ry;exact PySem.EqMixed.ne_int_str (Bd I q (by simp))
   |_=>exact absurd (show false=true from hs) A0I
 |str i=>
   obtain⟨t,rfl⟩:=rx
   cases y with
   |non=>cases ry;exact PySem.EqNone.ne_str_none (Bd I q (by simp))
   |bl j=>cases ry;exact PySem.EqMixed.ne_str_bool (Bd I q (by simp))
   |int j=>obtain⟨t',rfl⟩:=ry;exact PySem.EqMixed.ne_str_int (Bd I q (by simp))
   |str j=>obtain⟨t',rfl⟩:=ry;exact ne_str (Bd I q (congrArg not Z2))
   |_=>exact absurd (show false=true from hs) A0I
 |byt i=>
   obtain⟨t,rfl⟩:=rx
   cases y with
   |byt j=>obtain⟨t',rfl⟩:=ry;exact W.ne_bytes (Bd I q (congrArg not Z5))
   |_=>exact absurd (show false=true from hs) A0I
 |_=>cases y<;>exact absurd (show false=true from hs) A0I
theorem a56:OpR X (compareOp .Lt) (rI0 λi j=>.bl (decide (i<j))):=aA2 λ_ _ _ _ _ _ _ q=>lt_int q
theorem a51:OpR X (compareOp .Gt) (rI0 λi j=>.bl (decide (j<i))):=aA2 λ_ _ _ _ _ _ _ q=>gt_int q
theorem op_in_str:OpR X (compareOp .In) (λx y H Q=>∃ i j,x = .str i/\y = .str j/\Q (.bl (!(Builtin.Str.occurrences j i 0 j.length 1).isEmpty)) H):=by intro pins s σ H x y v u Q I rx ry h;obtain⟨i,j,rfl,rfl,q⟩:=h;obtain⟨t,rfl⟩:=rx;obtain⟨t',rfl⟩:=ry;exact in_str (Bd I q rfl)
theorem ah9:OpR X (compareOp .IsNot) (λx y H Q=>y = .non/\Q (.bl (!decide (x = .non))) H):=by
 intro pins s σ H x y v u Q I rx ry h;obtain⟨rfl,q⟩:=h
 cases ry;refine isnot_none_gen (Bd I q ?_)
 cases x<;>first
  | (cases rx;rfl)
  | (obtain⟨t,rfl⟩:=rx;rfl)
theorem OpR.or {f:Value->Value->Sem Value}{r r':R2}(h:OpR X f r)(h':OpR X f r'):OpR X f (λx y H Q=>r x y H Q\/r' x y H Q):=by
 intro pins s σ H x y v u Q I rx ry q;rcases q with q|q
 . exact h pins s σ H x y v u Q I rx ry q
 exact h' pins s σ H x y v u Q I rx ry q
theorem Av (b:Expr){op:CmpOp}(h:op ≠ .In:=by decide)(h2:op ≠ .NotIn:=by decide):behindInMarks op b=false:=by
 have e1:(op==CmpOp.In)=false:=by cases op<;>first | rfl | exact absurd rfl h
 have e2:(op==CmpOp.NotIn)=false:=by cases op<;>first | rfl | exact absurd rfl h2
 cases b<;>simp[behindInMarks,e1,e2]
theorem Fp {op:CmpOp}{r:R2}(ho:OpR X (compareOp op) r)(ha:PE X a ta)(hb:PE X b tb)(hm:behindInMarks op b=false):PE X (.Compare a [op] [b] pos) (tOp r ta tb):=by intro pins s σ H Q I h;exact wpAny_Compare1 (ax5 ha hb I h λv u s2 x y H2 I2 rx ry q=>ho pins s2 σ H2 x y v u Q I2 rx ry q) hm
def au1 (t:TE):TT:=fun σ H Q=>t σ H λx H'=>∃ k,x = .bl k/\Q k H'
theorem Af {op:CmpOp}{r:R2}(ho:OpR X (compareOp op) r)(ha:PE X a ta)(hb:PE X b tb)(hm:behindInMarks op b=false):PT X (.Compare a [op] [b] pos) (au1 (tOp r ta tb)):=by
 intro pins s σ H Q I h
 refine wpAny_isTrue_Compare1 (thn (ha pins s σ H _ I h) λv s1 ⟨x,H1,I1,r1,q1⟩=>thn (hb pins s1 σ H1 _ I1 q1) λu s2 ⟨y,H2,I2,r2,q2⟩=>thn (ho pins s2 σ H2 x y v u _ I2 r1 r2 q2) λc s3 ⟨z,H3,I3,r3,k,e,q3⟩=>?_) hm
 subst e
 cases r3;exact A38 ⟨H3,I3,q3⟩
theorem Ub:(sizeLine:Nat)<2 ^ 63:=by rw[A16];decide
theorem op_add_str:OpR X (binaryOp .Add) (λx y H Q=>∃ i j,x = .str i/\y = .str j/\i.length+j.length<=sizeLine/\Q (.str (i++j)) H):=by intro pins s σ H x y v u Q I rx ry h;obtain⟨i,j,rfl,rfl,hz,q⟩:=h;obtain⟨t,rfl⟩:=rx;obtain⟨t',rfl⟩:=ry;exact add_str (λt' tk=>⟨.str (i++j),H,I.tok _,⟨_,rfl⟩,q⟩) hz
theorem Ms {x:V}{us:List Value}(r:Vals [x] us):∃ u,us=[u]/\RelV x u:=by
 cases r with
 |cons r1 r2=>cases r2;exact⟨_,rfl,r1⟩
theorem Qa {x y:V}{us:List Value}(r:Vals [x,y] us):∃ u w',us=[u,w']/\RelV x u/\RelV y w':=by
 cases r with
 |cons r1 r2=>
   cases r2 with
   |cons r3 r4=>cases r4;exact⟨_,_,rfl,r1,r3⟩
theorem R4 (hc:X.calm=true):CallR X (.builtin "max") (λxs H Q=>∃ i j,xs=[.int i,.int j]/\Q (.int (if j>i then j else i)) H):=by
 intro pins s σ H xs us Q I r h;obtain⟨i,j,rfl,q⟩:=h;obtain⟨u,w',rfl,⟨t,rfl⟩,⟨t',rfl⟩⟩:=Qa r;refine max_two_ints (I.ok.hd hc) λh' tk k=>⟨_,H,I.kept k,?_,q⟩
 by_cases hj:j>i
 . rw[A12 hj,A12 hj];exact⟨_,rfl⟩
 rw[A13 hj,A13 hj];exact⟨_,rfl⟩
theorem Zr (hc:X.calm=true):CallR X (.builtin "min") (λxs H Q=>∃ i j,xs=[.int i,.int j]/\Q (.int (if j<i then j else i)) H):=by
 intro pins s σ H xs us Q I r h;obtain⟨i,j,rfl,q⟩:=h;obtain⟨u,w',rfl,⟨t,rfl⟩,⟨t',rfl⟩⟩:=Qa r;refine min_two_ints (I.ok.hd hc) λh' tk k=>⟨_,H,I.kept k,?_,q⟩
 by_cases hj:j<i
 . rw[A12 hj,A12 hj];exact⟨_,rfl⟩
 rw[A13 hj,A13 hj];exact⟨_,rfl⟩
theorem Zo:CallR X (.type "int") (λxs H Q=>(∃ i,xs=[.int i]/\Q (.int i) H)\/∃ k,xs=[.bl k]/\Q (.int (if k then 1 else 0)) H):=by
 intro pins s σ H xs us Q I r h;rcases h with ⟨i,rfl,q⟩|⟨k,rfl,q⟩
 . obtain⟨u,rfl,t,rfl⟩:=Ms r;exact call_int_int ⟨.int i,H,I,⟨_,rfl⟩,q⟩
 obtain⟨u,rfl,r1⟩:=Ms r
 cases r1;exact call_int_bool ⟨.int (if k then 1 else 0),H,I.tok _,⟨_,rfl⟩,q⟩
def aC2 (K:W.Frag)(x:V)(H:Hp)(n:Nat):Prop:=
 match x with
 |.str y=>y.length<=sizeLine/\n=y.length
 |.byt y=>y.size<=sizeLine/\n=y.size
 |.ref p=>(∃ xs,SqL K H p xs/\n=xs.length)\/∃ xs,SqT K H p xs/\n=xs.length
 |_=>False
theorem call_len:CallR X (.builtin "len") (λxs H Q=>∃ x n,xs=[x]/\aC2 X.K x H n/\Q (.int n) H):=by
 intro pins s σ H xs us Q I r h;obtain⟨x,n,rfl,e,q⟩:=h;obtain ⟨u,rfl,rx⟩:=Ms r;have hl:=Ub;have hs:sizeLine=16777216:=A16
 cases x with
 |str y=>obtain⟨t,rfl⟩:=rx;obtain⟨hy,e'⟩:y.length<=sizeLine/\n=y.length:=e;subst e';exact len_str ∅ ⟨.int _,H,I.tok _,⟨_,rfl⟩,q⟩
 |byt y=>obtain⟨t,rfl⟩:=rx;obtain⟨hy,e'⟩:y.size<=sizeLine/\n=y.size:=e;subst e';exact W.len_bytes ∅ ⟨.int _,H,I.tok _,⟨_,rfl⟩,q⟩
 |ref p=>
   cases rx;have e':(∃ xs,SqL X.K H p xs/\n=xs.length)\/∃ xs,SqT X.K H p xs/\n=xs.length:=e;rcases e' with ⟨xs,hx,e'⟩|⟨xs,hx,e'⟩
   . subst e';obtain⟨its,r',pl,hz⟩:=I.list hx;have hlen:=r'.length;exact Calls.call_len_list pl.isList (by simp only[List.size_toArray];omega) ⟨.int xs.length,H,I.tok _,⟨_,by simp only[List.size_toArray];rw[hlen]⟩,q⟩
   subst e';obtain⟨its,r',pl,hz⟩:=I.tuple hx;have hlen:=r'.length;exact len_tuple pl (by simp only[List.size_toArray];omega) ⟨.int xs.length,H,I.tok _,⟨_,by simp only[List.size_toArray];rw[hlen]⟩,q⟩
 |_=>exact(show False from e).elim
end
structure ObjM (h:Heap)(x dx C:Addr)(mA:Str->Option Value):Prop where
 obj:h.get? x=some (W.instObj C dx)
 ns:h.Ns1 dx mA
 ne:dx≠x
theorem Qh {h:Heap}{dx:Addr}{mA:Str->Option Value}(n:h.Ns1 dx mA):∃ od,h.get? dx=some od/\∀ name,W.lookIn name od=some (mA name):=by
 obtain⟨o,es,ep,ho,hd,hk,_,hm⟩:=n;refine⟨o,ho,λname=>?_⟩;have e:=hm name;unfold nsFind findBy at e;rw[<- Array.find?_toList] at e;unfold W.lookIn;rw[hd];dsimp only
 split
 . rename_i y q;rw[q] at e;exact congrArg some e
 rename_i q;rw[q] at e
 have a:es.toList.any (·.refKey)=false:=by rw[List.any_eq_false];intro y hy;obtain⟨z,t,hkey⟩:=hk y (Array.mem_toList_iff.mp hy);simp[DictEntry.refKey,hkey]
 have a':¬ es.toList.any (·.refKey)=true:=by rw[a];exact A0I
 rw[A13 a'];exact congrArg some e
theorem ObjM.look {h:Heap}{x dx C:Addr}{mA:Str->Option Value}(I:ObjM h x dx C mA):∃ od,W.InstAt h x (W.instObj C dx) C (some od)/\∀ name,W.lookIn name od=some (mA name):=
 let ⟨od,ho,hl⟩:=Qh I.ns
 ⟨od,⟨I.obj,rfl,rfl,ho⟩,hl⟩
section
variable {prog:Program}{w:World}{A:Around}{E:Value->Shared->Prop}{s:Shared}{K:W.Frag}{x dx C f:Addr}{mA:Str->Option Value}{name:Str}{v:Value}
end
def ag6 (f:Str) (v:V):List (Str×V)->List (Str×V)
 | []=>[(f,v)]
 | (g,x) :: r=>if g=f then(g,v) :: r else(g,x) :: ag6 f v r
theorem Lv (f g:Str)(v:V):∀ fs:List (Str×V),(ag6 f v fs).lookup g=if g=f then some v else fs.lookup g
 | []=>by
   show List.lookup g [(f,v)]=_
   by_cases h:g=f
   . have hb:(g==f)=true:=A25.mpr h;simp only[List.lookup,hb,if_pos h]
   have hb:(g==f)=false:=A0W.mpr h;simp only[List.lookup,hb,if_neg h]
 | (k,x) :: r=>by
   have ih:=Lv f g v r;rw[show ag6 f v ((k,x) :: r)=(if k=f then(k,v) :: r else(k,x) :: ag6 f v r) from rfl]
   by_cases hk:k=f
   . rw[A12 hk]
     by_cases h:g=k
     . have hb:(g==k)=true:=A25.mpr h;simp only[List.lookup,hb,if_pos (h.trans hk)]
     have hb:(g==k)=false:=A0W.mpr h;simp only[List.lookup,hb,if_neg (λe:g=f=>h (e.trans hk.symm))]
   rw[A13 hk]
   by_cases h:g=k
   . have hb:(g==k)=true:=A25.mpr h;simp only[List.lookup,hb,if_neg (λe:g=f=>hk (h.symm.trans e))]
   have hb:(g==k)=false:=A0W.mpr h;simp only[List.lookup,hb];exact ih
theorem RelO.some_of {v:V}{o:Option Value}(r:RelO (some v) o):∃ u,o=some u/\RelV v u:=by
 cases o with
 |none=>exact(show False from r).elim
 |some u=>exact⟨u,rfl,r⟩
theorem RelO.none_of {o:Option Value}(r:RelO none o):o=none:=by
 cases o with
 |none=>rfl
 |some u=>exact(show False from r).elim
theorem Xc {v:V}{u:Value}(r:RelV v u):W.handedIn u=true:=by
 cases v with
 |non=>cases (show u=Value.none from r);rfl
 |bl b=>cases (show u=Value.bool b from r);rfl
 |int i=>obtain⟨t,e⟩:=(show ∃ t,u=Value.int i t from r);cases e;rfl
 |str x=>obtain⟨t,e⟩:=(show ∃ t,u=Value.str x t from r);cases e;rfl
 |byt b=>obtain⟨t,e⟩:=(show ∃ t,u=Value.bytes b t from r);cases e;rfl
 |flt b=>obtain⟨t,e⟩:=(show ∃ t,u=Value.float b t from r);cases e;rfl
 |ref a=>cases (show u=Value.ref a from r);rfl
 |ty n=>cases (show u=Value.type n from r);rfl
section
variable {P:Program}{w:World}{H H':Hp}{h h':Heap}{a C dx:Addr}{fs fs':List (Str×V)}
theorem ad1 (hok:HOk P w H h)(e:H a=some (.ins C dx fs)):∃ mA,ObjM h a dx C mA/\(∀ f,RelO (fs.lookup f) (mA f))/\PySem.Within mA (fs.map (·.1))/\fs.length<=1000/\H dx=some (.own a):=by obtain⟨d,z,ne,ob,mA,n,r,q⟩:=(show ObjOk P w H h a (.ins C dx fs) from hok a _ e);exact⟨mA,⟨ob,n,ne⟩,r,q,z,d⟩
end
structure Cls (K:W.Frag)(C:Addr):Prop where
 pg:W.plainGet K C Str.empty=true
 hd:W.hasDictIn K C=true
 po:W.plainOver K C=true
 sa:W.findIn K (.ref C) "__setattr__" = some (some (.builtin "object.__setattr__"))
theorem Cls.get {K:W.Frag}{C:Addr}(c:Cls K C)(f:Str):W.plainGet K C f=true:=c.pg
def Cb (K:W.Frag)(C:Addr)(f:Str):Prop:=W.findIn K (.ref C) f=some none
section
variable {X:Cx}{pins:List (Addr×Obj)}{σ:St}{H:Hp}{s:Shared}{a C dx:Addr}{fs:List (Str×V)}{f:Str}{v:V}{A:Around}{E:Value->Shared->Prop}
theorem ai1 {prog:Program}{w:World}{env:Env}{e:Expr}{f:Str}{pos:Pos}{s:Shared}{Q:Value->Shared->Prop}(hb:attributeBase e f env (eval e env)=eval e env)
  (h:wpAny (model prog w) A (eval e env) (λo s₁=>wpAny (model prog w) A (getAttr o f true) Q E s₁) E s):wpAny (model prog w) A (eval (.Attribute e f pos) env) Q E s:=
 Attribute_any_ h (by rw[arm_eval_Attribute,hb])
end
section
variable {X:Cx}{o e value:Expr}{f:Str}{pos pos' tpos:Pos}{ta tv:TE}
end
section
variable {X:Cx}{pins:List (Addr×Obj)}{σ:St}{H:Hp}{s:Shared}{A:Around}{E:Value->Shared->Prop}{Q:Value->Shared->Prop}{c:Value}{b:Bool}
inductive Qf (K:W.Frag)(H:Hp):V->Value->Prop where
 |non:Qf K H .non (.type "NoneType")
 |bl (x:Bool):Qf K H (.bl x) (.type "bool")
 |int (i:Int):Qf K H (.int i) (.type "int")
 |str (x:Str):Qf K H (.str x) (.type "str")
 |flt (x:UInt64):Qf K H (.flt x) (.type "float")
 |lst {a:Addr} {xs:List V} (e:H a=some (.lst xs)):Qf K H (.ref a) (.type "list")
 |frz {a:Addr} {o:Obj} {xs:List V} (e:H a=some (.frz o (.lst xs))):Qf K H (.ref a) (.type "list")
 |tup {a:Addr} {xs:List V} (e:H a=some (.tup xs)):Qf K H (.ref a) (.type "tuple")
 |dK {a:Addr} {kvs:List (Key×V)} (e:H a=some (.dK kvs)):Qf K H (.ref a) (.type "dict")
 |dT {a:Addr} {kvs:List (List Key×V)} (e:H a=some (.dT kvs)):Qf K H (.ref a) (.type "dict")
 |ins {a C dx:Addr} {fs:List (Str×V)} (e:H a=some (.ins C dx fs)) (cl:Cls K C) (ha:W.findIn K (.ref C) "__class__" = some (some (.builtin "object.__class__")))
   (hn:W.specialIn K (.builtin "object.__class__") "__get__" = some (some (.builtin "getset_descriptor.__get__"))) (htk:W.takesIn K (.builtin "object.__class__")=some true)
   (hm:W.mroIn K C (.type "object")=some true):Qf K H (.ref a) (.ref C)
theorem Rv {x:V}{u t:Value}(I:Inv X pins σ H s)(rx:RelV x u)(ty:Qf X.K H x t)(e:W.kitOne X.K t c=some b)(h:∀ tk,Q (.bool b) {s with toks:=tk}) :
  wpAny (model X.prog X.w) A (call (.builtin "isinstance") [u,c]) Q E s:=by
 cases ty with
 |non=>cases (show u=Value.none from rx);exact A1C W.kitx_none I.kIn A1Z e (λz=>nomatch z) h
 |bl y=>cases (show u=Value.bool y from rx);exact A1C W.kitx_bool I.kIn A1Z e (λz=>nomatch z) h
 |int i=>obtain⟨t,q⟩:=(show ∃ t,u=Value.int i t from rx);cases q;exact A1C W.kitx_int I.kIn A1Z e (λz=>nomatch z) h
 |str y=>obtain⟨t,q⟩:=(show ∃ t,u=Value.str y t from rx);cases q;exact A1C W.kitx_str I.kIn A1Z e (λz=>nomatch z) h
 |flt y=>obtain⟨t,q⟩:=(show ∃ t,u=Value.float y t from rx);cases q;exact A1C W.kitx_float I.kIn A1Z e (λz=>nomatch z) h
 |@lst a xs ea=>cases (show u=Value.ref a from rx);obtain⟨_,_,n,_,h1⟩:=(show ObjOk X.prog X.w H s.heap a (.lst xs) from I.hok a _ ea);exact A1C W.kitx_list I.kIn ⟨_,h1,rfl⟩ e (λz=>nomatch z) h
 |@frz a ob xs ea=>cases (show u=Value.ref a from rx);obtain⟨_,_,_,n,_,h1⟩:=(show ObjOk X.prog X.w H s.heap a (.frz ob (.lst xs)) from I.hok a _ ea);exact A1C W.kitx_list I.kIn ⟨_,h1,rfl⟩ e (λz=>nomatch z) h
 |@tup a xs ea=>cases (show u=Value.ref a from rx);obtain⟨_,_,_,p⟩:=(show ObjOk X.prog X.w H s.heap a (.tup xs) from I.hok a _ ea);obtain⟨o,h1,h2,_⟩:=p;exact A1C W.kitx_tuple I.kIn ⟨o,h1,h2⟩ e (λz=>nomatch z) h
 |@dK a kvs ea=>cases (show u=Value.ref a from rx);obtain⟨_,_,vs,_,p⟩:=(show ObjOk X.prog X.w H s.heap a (.dK kvs) from I.hok a _ ea);obtain⟨o,es,ep,h1,h2,_⟩:=p;exact A1C W.kitx_dict I.kIn ⟨o,h1,h2.1⟩ e (λz=>nomatch z) h
 |@dT a kvs ea=>cases (show u=Value.ref a from rx);obtain⟨_,_,xs,_,o,es,ep,h1,h2,_⟩:=(show ObjOk X.prog X.w H s.heap a (.dT kvs) from I.hok a _ ea);exact A1C W.kitx_dict I.kIn ⟨o,h1,h2.1⟩ e (λz=>nomatch z) h
 |@ins a C dx fs ea cl ha hn htk hm=>cases (show u=Value.ref a from rx);obtain⟨mA,O,_⟩:=ad1 I.hok ea;obtain⟨od,J,_⟩:=O.look;exact A1C (W.kitx_own (cl.get _) cl.hd ha hn htk hm) I.kIn J e (λz=>nomatch z) h
end
structure Room (k:Nat)(A:Around):Prop where
 hd:A.handled=none
 dp:A.depth+3*k+5<recursionLimit
 un:A.units+16*k+200<cLine
 gd:A.guards=some []
theorem Room.mono {j k:Nat}{A:Around}(r:Room k A)(h:j<=k):Room j A:=⟨r.hd,by have:=r.dp;omega,by have:=r.un;omega,r.gd⟩
theorem Room.deeper {k:Nat}{A:Around}(r:Room (k+1) A)(env:Env):Room k (A.deeper env):=
 ⟨r.hd,by have:=r.dp;show A.depth+1+3*k+5<_;omega,by have:=r.un;show A.units+3+16*k+200<_;omega,r.gd⟩
theorem Room.in1 {k:Nat}{A:Around}(r:Room (k+1) A):Room k A.in1:=
 ⟨r.hd,by have:=r.dp;show A.depth+3*k+5<_;omega,by have:=r.un;show A.units+1+16*k+200<_;omega,r.gd⟩
theorem Vq {A:Around}{C:Addr}{us:List Value}{kw:List (Str×Value)}:(A.under (.builtin "type.__call__" ⟨.ref C :: us,kw⟩)).depth=A.depth+1:=by first | rfl | simp[Around.under,Code.weight,Code.isCreation,Code.isGuard,Code.isCaller,Code.frames,Code.isFrame,guardIds]
theorem W6 {A:Around}{C:Addr}{us:List Value}{kw:List (Str×Value)}:(A.under (.builtin "type.__call__" ⟨.ref C :: us,kw⟩)).units=A.units+1:=by first | rfl | simp[Around.under,Code.cUnits,Code.frames,Code.isFrame]
theorem Room.make {k:Nat}{A:Around}(r:Room (k+1) A)(C:Addr)(us:List Value)(kw:List (Str×Value)):Room k (A.under (.builtin "type.__call__" ⟨.ref C :: us,kw⟩)):=
 ⟨r.hd,by have:=r.dp;rw[Vq];omega,by have:=r.un;rw[W6];omega,(by first | exact r.gd | (simpa[Around.under,Code.isGuard,guardIds,pushGuards] using r.gd))⟩
theorem Room.depth {k:Nat}{A:Around}(r:Room k A):A.depth<recursionLimit:=by have:=r.dp;omega
theorem Room.units {k:Nat}{A:Around}(r:Room k A):A.units+64<cLine:=by have:=r.un;omega
def al0:TA:=λ_ H Q=>Q [] H
def Vz (ta:TE)(tr:TA):TA:=fun σ H Q=>ta σ H λx H1=>tr σ H1 λxs H2=>Q (x :: xs) H2
section
variable {X:Cx}{e:Expr}{es:List Expr}{te:TE}{t:TA}{pos:Pos}
theorem A1:PA X [] al0:=λ_ _ _ _ H Q I h=>A44 ⟨[],H,I,.nil,h⟩
theorem A0 (ha:PE X e te)(hr:PA X es t)(hs:starEach (e :: es) X.env=(false,eval e X.env) :: starEach es X.env:=by ac_nf):PA X (e :: es) (Vz te t):=by intro pos pins s σ H Q I h;rw[hs];show wpAny _ _ (spliced ((false,eval e X.env) :: backTo pos (starEach es X.env))) _ _ s;refine A2W (thn (ha pins s σ H _ I h) λu s1 ⟨x,H1,I1,r1,q1⟩=>?_);exact thn (hr pos pins s1 σ H1 _ I1 q1) λus s2 ⟨xs,H2,I2,r2,q2⟩=>⟨x :: xs,H2,I2,.cons r1 r2,q2⟩
def aB8 (t:TA):TE:=fun σ H Q=>t σ H λxs H1=>xs.length<=sizeLine/\∀ p,H1 p=none->Q (.ref p) (upd H1 p (.tup xs))
def aA0 (t:TA):TE:=fun σ H Q=>t σ H λxs H1=>xs.length<=sizeLine/\∀ p,H1 p=none->Q (.ref p) (upd H1 p (.lst xs))
theorem Ao {x1}(h:PA X es t):PE X (.Tuple es x1 pos) (aB8 t):=by intro pins s σ H Q I hq;refine wpAny_Tuple_spliced (thn (h pos pins s σ H _ I hq) λus s1 ⟨xs,H1,I1,r,z,q⟩=>⟨by rw[<- r.length];exact z,?_⟩);have hf:H1 s1.heap.objs.size=none:=I1.hok.fresh (A06 _);refine⟨.ref s1.heap.objs.size,upd H1 s1.heap.objs.size (.tup xs),I1.laid (t':=s1.toks) (λb u e=>A02 _ e) (A06 _) ?_,rfl,q _ hf⟩;exact⟨z,us,r,⟨_,A0O _ rfl,rfl,⟨_,rfl⟩,rfl⟩⟩
theorem Bc (h:PA X es t):PE X (.List es pos) (aA0 t):=by intro pins s σ H Q I hq;refine wpAny_List_spliced (thn (h pos pins s σ H _ I hq) λus s1 ⟨xs,H1,I1,r,z,q⟩=>⟨by rw[<- r.length];exact z,?_⟩);have hf:H1 s1.heap.objs.size=none:=I1.hok.fresh (A06 _);refine⟨.ref s1.heap.objs.size,upd H1 s1.heap.objs.size (.lst xs),I1.laid (t':=s1.toks) (λb u e=>A02 _ e) (A06 _) ?_,rfl,q _ hf⟩;exact⟨z,us,0,r,A0O _ rfl⟩
end
abbrev Sp:=List V->Hp->VK->XK->Prop
abbrev CXT:=List Env->Hp->Shared->XK->Value->Shared->Prop
structure Env0 (P:Program)(w:World)(K:W.Frag)(mg:Str->Option Value)(base:Heap)(A:Around)(outer:List Env)(s:Shared)(H:Hp):Prop where
 frames:A.frames=some outer
 mod:Mod K mg base
 bs:∀ b o,base.get? b=some o->s.heap.get? b=some o/\H b=none
 bsz:base.objs.size<=s.heap.objs.size
 funs:s.heap.FunFrames base outer
 frf:∀ b∈frs outer,H b=none
 hok:HOk P w H s.heap
 bare:AllBare s.gens
def CE (outer:List Env)(P:Program)(w:World)(H:Hp)(s:Shared)(Q:VK)(u:Value)(s':Shared):Prop:=
 ∃ v H',s'.os=s.os/\AllBare s'.gens/\Un (frs outer) [] H H' s.heap s'.heap/\HOk P w H' s'.heap/\RelV v u/\Q v H'
def CR (CX:CXT)(outer:List Env)(P:Program)(w:World)(H:Hp)(s:Shared)(Q:VK)(E:XK)(r:Result)(s':Shared):Prop:=
 match r with
 |.ok (.ret u)=>CE outer P w H s Q u s'
 |.ok _=>False
 |.error e=>CX outer H s E e s'
structure FnOk (P:Program)(w:World)(K:W.Frag)(mg:Str->Option Value)(base:Heap)(CX:CXT)(k:Nat)(f:Addr)(fd:FuncData)(ps:List Str)(sp:Sp):Prop where
 len:∀ vs H Q E,sp vs H Q E->vs.length=ps.length
 run:∀(A:Around) (outer:List Env) (s:Shared) (H:Hp) (args:Args) (us:List Value) (vs:List V) (Q:VK) (E:XK),Room k A->Env0 P w K mg base A outer s H->BindsTo s fd args (ps.zip us)->Vals vs us->sp vs H Q E ->
  codeAny (model P w) A (.call (.ref f) args) (CR CX outer P w H s Q E) s
theorem Env0.make {P:Program}{w:World}{K:W.Frag}{mg:Str->Option Value}{base:Heap}{A:Around}{outer:List Env}{s:Shared}{H:Hp}(e:Env0 P w K mg base A outer s H)(C:Addr)(us:List Value)(kw:List (Str×Value)) :
  Env0 P w K mg base (A.under (.builtin "type.__call__" ⟨.ref C :: us,kw⟩)) outer s H:=⟨by first | exact e.frames | (simpa[Around.under,Code.envs,Code.isFrame,pushEnvs] using e.frames),e.mod,e.bs,e.bsz,e.funs,e.frf,e.hok,e.bare⟩
theorem Env0.in1 {P:Program}{w:World}{K:W.Frag}{mg:Str->Option Value}{base:Heap}{A:Around}{outer:List Env}{s:Shared}{H:Hp}(e:Env0 P w K mg base A outer s H) :
  Env0 P w K mg base A.in1 outer s H:=⟨e.frames,e.mod,e.bs,e.bsz,e.funs,e.frf,e.hok,e.bare⟩
section
variable {X:Cx}{pins:List (Addr×Obj)}{σ:St}{H:Hp}{s s':Shared}
theorem Inv.env0 (I:Inv X pins σ H s):Env0 X.prog X.w X.K X.mg X.base X.A X.stack s H:=
 ⟨I.ok.frames,I.ok.mod,I.bs,A0L I.ok.bsz I.sz,I.stack,I.stkFree,I.hok,I.bare⟩
theorem Inv.after {Q:VK}{u:Value}(I:Inv X pins σ H s)(h:CE X.stack X.prog X.w H s Q u s'):EP X pins σ Q u s':=by obtain⟨v,H',os,bare,un,hok,r,q⟩:=h;obtain⟨hh,g,d,t,os'⟩:=s';obtain rfl:os'=s.os:=os;exact⟨v,H',I.call (h':=hh) (g':=g) (d':=d) (t':=t) (ch:=[]) un hok bare (λb z=>absurd z (by simp)),r,q⟩
end
def a72 (sp:Sp)(dvs:List V)(E:XK)(t:TA):TE:=fun σ H Q=>t σ H λvs H1=>sp (vs++dvs) H1 Q E
def Binds (K:W.Frag)(fd:FuncData)(ps:List Str)(ds:List Value):Prop:=
 ∀(s:Shared) (us:List Value),K.In s.heap->(us++ds).length=ps.length->BindsTo s fd ⟨us,[]⟩ (ps.zip (us++ds))
theorem Binds.all {K:W.Frag}{fd:FuncData}{ps:List Str}(h:∀ us:List Value,us.length=ps.length->bindArgs fd ⟨us,[]⟩=pure (ps.zip us)):Binds K fd ps []:=λs us _ hl=>by rw[A1R] at hl ⊢;exact .of_eq (h us hl)
def Lg (CX:CXT)(X:Cx)(E:XK):Prop:=∀(pins:List (Addr×Obj)) (σ:St) (H:Hp) (s:Shared) (e:Value) (s':Shared),Inv X pins σ H s->CX X.stack H s E e s'->X.xe e s'
section
variable {X:Cx}{CX:CXT}{k:Nat}{f C:Addr}{fd:FuncData}{ps:List Str}{sp:Sp}{dvs:List V}{ds:List Value}{E:XK}{x m:Str}{p pos apos:Pos}{e o:Expr}{es:List Expr}{ta:TE}{t:TA}
theorem au3 {pins:List (Addr×Obj)}{σ:St}{H:Hp}{s:Shared}{Q:VK}{us:List Value}{vs:List V}(F:FnOk X.prog X.w X.K X.mg X.base CX k f fd ps sp)(hr:Room k X.A)(hb:Binds X.K fd ps ds)(hd:Vals dvs ds)(hx:Lg CX X E)
  (I:Inv X pins σ H s) (r:Vals vs us) (h:sp (vs++dvs) H Q E):wpAny (model X.prog X.w) X.A (call (.ref f) us) (EP X pins σ Q) X.xe s:=by
 have r2:Vals (vs++dvs) (us++ds):=r.append hd;have hl:(us++ds).length=ps.length:=by rw[<- r2.length];exact F.len _ _ _ _ h
 refine A3L (A4G (F.run X.A X.stack s H ⟨us,[]⟩ (us++ds) (vs++dvs) Q E hr I.env0 (hb s us I.kIn hl) r2 h) λr s' hq=>?_)
 cases r with
 |error e=>exact hx pins σ H s e s' I hq
 |ok fl=>
   cases fl with
   |ret u=>exact I.after hq
   |next=>exact False.elim hq
   |brk=>exact False.elim hq
   |cont=>exact False.elim hq
theorem X6 (F:FnOk X.prog X.w X.K X.mg X.base CX k f fd ps sp)(hr:Room k X.A)(hg:Gl X x)(hm:X.mg x=some (.ref f))(hk:W.keepIn X.K (.ref f)=true)(hb:Binds X.K fd ps ds)(hd:Vals dvs ds)(hx:Lg CX X E)
  (ha:PA X (e :: es) t) (hdb:(x==("__debug__":Str))=false:=by decide) (he:starEach (e :: es) X.env=(false,eval e X.env) :: starEach es X.env:=by ac_nf) (hpl:(backTo pos (starEach es X.env)).any (·.1)=false:=by ac_nf) :
  PE X (.Call (.Name x p) (e :: es) [] pos) (a72 sp dvs E t):=by
 intro pins s σ H Q I h;refine A1S (Ov I hg hm ?_ hdb);refine A4X (h₀:=X.base) I.ok.mod.kin hk (thn (ha pos pins s σ H _ I h) λus s1 ⟨vs,H1,I1,r,q⟩=>⟨I1.kIn,?_⟩) he hpl;exact au3 F hr hb hd hx I1 r q
end
section
variable {X:Cx}{CX:CXT}{k:Nat}{f C:Addr}{fd:FuncData}{ps ks:List Str}{sp:Sp}{E:XK}{x m:Str}{p pos apos kpos:Pos}{e o:Expr}{es:List Expr}{kws:List Keyword}{te ta:TE}{t tk:TA}{nm:Option Str}
variable {g:List Value->List Value->List Value}{gV:List V->List V->List V}
end
structure Ar (N P:List Str)(sc:Scope):Prop where
 kind:sc.kind = .function
 co:sc.isCoroutine=false
 gen:sc.isGenerator=false
 nd:N.Nodup
 pre:N.take P.length=P
 par:∀ x∈P,sc.names.lookup x=some .local\/sc.names.lookup x=some .cell
 nofree:∀ y∈sc.names,y.2 ≠ .free
theorem R7 {kindOf:Str->Option NameKind}{x:Str}:∀ {binds:List (Str×Value)} {m:Str->Option Value},(∀ v,(x,v)∉binds)->bindL kindOf binds m x=m x
 | [],_,_=>rfl
 | (n,v) :: r,m,h=>by
   unfold bindL;rw[R7 λw hw=>h w (A08 _ hw)]
   split
   . have:x≠n:=by rintro rfl;exact h v A0C
     simp[this]
   rfl
theorem Rq {kindOf:Str->Option NameKind}{x:Str}:∀ {binds:List (Str×Value)} {m:Str->Option Value},(∀ v,(x,v)∉binds)->bindC kindOf binds m x=m x
 | [],_,_=>rfl
 | (n,v) :: r,m,h=>by
   unfold bindC;rw[Rq λw hw=>h w (A08 _ hw)]
   split
   . rfl
   have:x≠n:=by rintro rfl;exact h v A0C
   simp[this]
theorem Qx {kindOf:Str->Option NameKind} {x:Str} {v:Value}:∀ {P:List Str} {vs:List Value} {i:Nat} {m:Str->Option Value},P.Nodup->P[i]? = some x->vs[i]? = some v->kindOf x=some .local ->
  bindL kindOf (P.zip vs) m x=some v
 | [],_,_,_,_,h,_,_=>by simp at h
 |_ :: _,[],_,_,_,_,h,_=>by simp at h
 |p :: P,w :: vs,0,m,nd,h1,h2,hk=>by simp at h1 h2;subst h1;subst h2;show bindL kindOf ((p,w) :: P.zip vs) m p=_;unfold bindL;rw[R7 λv hv=>(A19.mp nd).1 (A4H hv).1,A12 hk];simp
 |p :: P,w :: vs,i+1,m,nd,h1,h2,hk=>by show bindL kindOf ((p,w) :: P.zip vs) m x=_;unfold bindL;exact Qx (i:=i) (List.nodup_cons.mp nd).2 (by simpa using h1) (by simpa using h2) hk
theorem Ql {kindOf:Str->Option NameKind} {x:Str} {v:Value}:∀ {P:List Str} {vs:List Value} {i:Nat} {m:Str->Option Value},P.Nodup->P[i]? = some x->vs[i]? = some v->kindOf x≠some .local ->
  bindC kindOf (P.zip vs) m x=some v
 | [],_,_,_,_,h,_,_=>by simp at h
 |_ :: _,[],_,_,_,_,h,_=>by simp at h
 |p :: P,w :: vs,0,m,nd,h1,h2,hk=>by simp at h1 h2;subst h1;subst h2;show bindC kindOf ((p,w) :: P.zip vs) m p=_;unfold bindC;rw[Rq λv hv=>(A19.mp nd).1 (A4H hv).1,A13 hk];simp
 |p :: P,w :: vs,i+1,m,nd,h1,h2,hk=>by show bindC kindOf ((p,w) :: P.zip vs) m x=_;unfold bindC;exact Ql (i:=i) (List.nodup_cons.mp nd).2 (by simpa using h1) (by simpa using h2) hk
def start (N:List Str)(vs:List V):St:=vs.map some++List.replicate (N.length-vs.length) none
def Vw (CX:CXT)(P:Program)(w:World)(K:W.Frag)(mg:Str->Option Value)(base:Heap)(N:List Str)(qual:Str)(scope:Scope)(f:Addr)(cd:Value)(A:Around)(outer:List Env)(s:Shared)(H:Hp)(E:XK):Cx where
 prog:=P
 w:=w
 K:=K
 mg:=mg
 base:=base
 A:=A.deeper (envOfC qual scope s.heap.objs.size f cd)
 N:=N
 s₀:=s
 H₀:=H
 env:=envOfC qual scope s.heap.objs.size f cd
 outer:=outer
 stack:=envOfC qual scope s.heap.objs.size f cd :: outer
 ex:=[]
 calm:=true
 fn:=λ_=>true
 pn:=[]
 xe:=λe s'=>wpAny (model P w) (A.deeper (envOfC qual scope s.heap.objs.size f cd)) (leaving (envOfC qual scope s.heap.objs.size f cd) e) (λ_ s''=>CX outer H s E e s'') (λe' s''=>CX outer H s E e' s'') s'
theorem Vh {sc:Scope}{n:Nat}{x:Str}(h:sc.names.lookup x=some .cell):∃ c,(cellsFrom n sc.names []).lookup x=some c:=by have q:=W.cellsFrom_some sc.names n [] (.inl h);exact Option.isSome_iff_exists.mp q
theorem Xs {CX:CXT}{P:Program}{w:World}{K:W.Frag}{mg:Str->Option Value}{base:Heap}{N ps:List Str}{qual:Str}{scope:Scope}{f:Addr}{cd:Value}{A:Around}{outer:List Env}{s s1:Shared}{H:Hp}{E:XK}{us:List Value}{vs:List V}
  (S:Ar N ps scope) (hd:A.handled=none) (e0:Env0 P w K mg base A outer s H) (hl:vs.length=ps.length) (r:Vals vs us)
  (x:InCallC s s.heap.objs.size (bindL (envOfC qual scope s.heap.objs.size f cd).kindOf (ps.zip us) λ_=>none) (cellsFrom (s.heap.objs.size+1) scope.names []) (bindC (envOfC qual scope s.heap.objs.size f cd).kindOf (ps.zip us) λ_=>none) s1) :
  Inv (Vw CX P w K mg base N qual scope f cd A outer s H E) [] (start N vs) H s1:=by
 have hpl:ps.length<=N.length:=by have:=congrArg List.length S.pre;rw[A0U] at this;omega
 obtain⟨h1,tk,rfl,hk⟩:=x.done;have noA:∀ b:Addr,b∉(Vw CX P w K mg base N qual scope f cd A outer s H E).ex:=λb z=>absurd (show b∈([]:List Addr) from z) (by simp)
 refine⟨⟨e0.mod,S.kind,rfl,rfl,A06 _,λy z c h1 h2=>?_,λy hy=>?_,λy c _ h=>?_,λ_=>hd,Around.frames_deeper e0.frames,.inr ⟨rfl,rfl⟩,λb z=>absurd z (noA b),e0.bs,e0.bsz,λb _ _=>noA b,λb z=>absurd z (noA b),e0.funs,e0.frf⟩,
  rfl,e0.bare,Un.kept hk,⟨_,x.toInCall.ns,λi y v h1 h2 h3=>?_⟩,λy c h=>⟨_,x.cell y c h⟩,e0.hok.fresh (Nat.le_refl _),λy c h=>?_,λp hp=>absurd (show p∈([]:List (Addr×Obj)) from hp) (by simp),e0.hok.kept hk,?_⟩
 . exact name_of_addr x.apart (A2F h1) (A2F h2)
 . have hy:scope.names.lookup y=some .cell\/scope.names.lookup y=some .free:=hy;rcases hy with hy|hy
   . exact Vh hy
   exact absurd rfl (S.nofree _ (A2F hy))
 . exact A28 (x.above y c (A2F h))
 . have hi:i<vs.length:=by
    unfold start at h2
    by_cases hi:i<vs.length
    . exact hi
    rw[List.getElem?_append_right (by simpa using hi)] at h2;rw[A49] at h2
    split at h2<;>cases h2
   have ha:vs[i]? = some v:=by
    unfold start at h2;rw[List.getElem?_append_left (by simpa using hi),List.getElem?_map] at h2
    cases e:vs[i]? with
    |none=>rw[e] at h2;cases h2
    |some a=>rw[e] at h2;cases h2;rfl
   obtain⟨u,hu,rv⟩:=r.get ha
   have hp:ps[i]? = some y:=by rw[<- S.pre,List.getElem?_take_of_lt ∅];exact h1
   have ndP:ps.Nodup:=by rw[<- S.pre];exact S.nd.sublist (List.take_sublist _ _)
   refine⟨u,rv,?_⟩;rcases S.par y (A0B hp) with k|k
   . exact .inl ⟨k,Qx ndP hp hu k⟩
   obtain⟨c,e⟩:=Vh (n:=s.heap.objs.size+1) k;refine .inr ⟨.inl k,c,e,?_⟩;have q:=x.cell y c e;rw[Ql ndP hp hu (by show scope.names.lookup y≠_;rw[k];decide)] at q;exact q
 . exact e0.hok.fresh (A28 (x.above y c (A2F h)))
 unfold start;show _=N.length;rw[A04,A01,A29];omega
theorem aj3 {CX:CXT}{P:Program}{w:World}{K:W.Frag}{mg:Str->Option Value}{base:Heap}{k:Nat}{f:Addr}{name qual:Str}{params:Arguments}{body:List Stmt}{scope:Scope}{dV kV doc pm cdv ct oc:Value}{an od:Option Addr}
  {osl:Array (Option Value)} {N ps:List Str} {sp:Sp} (lk:K.lookup f=some ⟨oc,od,.func (W.fnOf name qual params body scope dV kV doc pm an cdv ct),osl⟩) (hcd:W.codeIn K cdv qual=true) (S:Ar N ps scope)
  (len:∀ vs H Q E,sp vs H Q E->vs.length=ps.length)
  (hbody:∀(A:Around) (outer:List Env) (s:Shared) (H:Hp) (vs:List V) (Q:VK) (E:XK),Room k (A.deeper (envOfC qual scope s.heap.objs.size f cdv))->sp vs H Q E ->
   ∃ t,PSs (Vw CX P w K mg base N qual scope f cdv A outer s H E) body t/\t {nx:=λ_ H'=>Q .non H',rt:=Q} (start N vs) H) :
  FnOk P w K mg base CX (k+1) f (W.fnOf name qual params body scope dV kV doc pm an cdv ct) ps sp:=by
 refine⟨len,λA outer s H args us vs Q E hr e0 hb r hsp=>?_⟩;have hl:=len _ _ _ _ hsp;have KX:K.In s.heap:=e0.mod.kin.keeps λb o e=>(e0.bs b o e).1;have lim:s.heap.NoLimit:=e0.mod.nolimit.keeps λb o e=>(e0.bs b o e).1
 have hkind:∀ y∈ps.zip us,scope.names.lookup y.1=some .local\/(scope.names.lookup y.1=some .cell/\((cellsFrom (s.heap.objs.size+1) scope.names []).lookup y.1).isSome=true):=λ⟨n,v⟩ hy=>by
  rcases S.par n (A4H hy).1 with q|q
  . exact .inl q
  exact .inr ⟨q,W.cellsFrom_some _ _ _ (.inl q)⟩
 refine codeAny_call_function hr.depth (KX _ _ lk) rfl S.co S.gen rfl (W.codeRec_of KX hcd) (hb _ _ _ _ ?_);refine wpAny_newFunctionEnv_cells S.kind hkind λenv he s1 x=>?_;subst he;refine⟨lim.keeps x.toInCall.keep,codeAny_func ?_⟩;obtain⟨t,ht,hq⟩:=hbody A outer s H vs Q E (hr.deeper _) hsp;have I:Inv (Vw CX P w K mg base N qual scope f cdv A outer s H E) [] (start N vs) H s1:=Xs S hr.hd e0 hl r x;refine A1P (ht [] s1 (start N vs) H _ I hq) (λfl s' hs=>?_) λe s' hs=>hs
 have fin:∀ {σ':St} {H':Hp} {v:V} {u:Value},Inv (Vw CX P w K mg base N qual scope f cdv A outer s H E) [] σ' H' s'->RelV v u->Q v H'->CE outer P w H s Q u s':=
  fun {σ' H' v u} J rv q=>⟨v,H',J.os,J.bare,J.base,J.hok,rv,q⟩
 cases fl with
 |ret u=>obtain⟨v,σ',H',J,rv,q⟩:=hs;exact fin J rv q
 |next=>obtain⟨σ',H',J,q⟩:=hs;exact fin (v:=V.non) (u:=Value.none) J rfl q
 |brk=>obtain⟨_,_,_,q⟩:=hs;exact False.elim q
 |cont=>obtain⟨_,_,_,q⟩:=hs;exact False.elim q
section
variable {X:Cx}{x:Str}{p pos:Pos}{e:Expr}{es:List Expr}{t:TA}{id T:String}{r:List V->Hp->VK->Prop}
def tCB (r:List V->Hp->VK->Prop)(t:TA):TE:=fun σ H Q=>t σ H λvs H1=>r vs H1 Q
theorem Ac (hc:CallR X (.builtin id) r)(hg:Gl X x)(hm:X.mg x=none)(hv:bootBuiltins x=some (.builtin id))(ha:PA X (e :: es) t)(hn:x ≠ "__name__":=by decide)(hdb:(x==("__debug__":Str))=false:=by decide)
  (he:starEach (e :: es) X.env=(false,eval e X.env) :: starEach es X.env:=by ac_nf) (hpl:(backTo pos (starEach es X.env)).any (·.1)=false:=by ac_nf):PE X (.Call (.Name x p) (e :: es) [] pos) (tCB r t):=by
 intro pins s σ H Q I h;refine A1S (Le I hg hm hv ?_ hn hdb);exact A3B (thn (ha pos pins s σ H _ I h) λus s1 ⟨vs,H1,I1,r1,q1⟩=>hc pins s1 σ H1 vs us Q I1 r1 q1) he hpl
theorem Ba (hc:CallR X (.type T) r)(hg:Gl X x)(hm:X.mg x=none)(hv:bootBuiltins x=some (.type T))(ha:PA X (e :: es) t)(hn:x ≠ "__name__":=by decide)(hdb:(x==("__debug__":Str))=false:=by decide)
  (he:starEach (e :: es) X.env=(false,eval e X.env) :: starEach es X.env:=by ac_nf) (hpl:(backTo pos (starEach es X.env)).any (·.1)=false:=by ac_nf):PE X (.Call (.Name x p) (e :: es) [] pos) (tCB r t):=by
 intro pins s σ H Q I h;refine A1S (Le I hg hm hv ?_ hn hdb);exact A3N (thn (ha pos pins s σ H _ I h) λus s1 ⟨vs,H1,I1,r1,q1⟩=>hc pins s1 σ H1 vs us Q I1 r1 q1) he hpl
end
end L2
namespace HT
open PySem PyProof.Rows
section
open PySem.SeqAt
open PySem.AutoSeq1 (wpAny_loadPart')
open PySem.MeetsSeq PySem.MeetsSeq2 PySem.MeetsSeq3
end
section
variable {prog:Program}{w:World}{A:Around}{E:Value->Shared->Prop}{s:Shared}
theorem cat_tup {t b:Addr}{vs ws:List Value}{Q:Value->Shared->Prop}(ht:IsTup s.heap t vs.toArray)(hb:IsTup s.heap b ws.toArray)(hv:vs≠[])
  (h1:ws=[]->Q (.ref t) s) (h2:ws≠[]->Q (.ref s.heap.objs.size) {s with heap:=s.heap.push {cls:=.type "tuple",data:=.seq (vs++ws).toArray}})
  (hsz:vs.length+ws.length<=sizeLine):wpAny (model prog w) A (binaryOp .Add (.ref t) (.ref b)) Q E s:=by
 obtain⟨⟨cls,dd,data,sl⟩,ho,hc,n,hd⟩:=id ht;obtain⟨⟨cls2,dd2,data2,sl2⟩,ho2,hc2,n2,hd2⟩:=id hb;simp only at hc hd hc2 hd2;subst hc hd hc2 hd2;have e:vs.toArray++ws.toArray=(vs++ws).toArray:=by simp
 by_cases hw:ws=[]
 . exact concat_meets ⟨_,ho,rfl⟩ ⟨_,ho2,rfl⟩ noFill_tuple_add seq_tuple_add PySem.F.slot_tuple_add PySem.F.entry_tuple_add (PySem.F.args_tuple_add_2 _ _)
    (tuple_addW1 t b vs.toArray ws.toArray n n2 dd dd2 sl sl2 (by simpa using hv) (by simp[hw])) ⟨ho,ho2,h1 hw⟩
 refine concat_meets ⟨_,ho,rfl⟩ ⟨_,ho2,rfl⟩ noFill_tuple_add seq_tuple_add PySem.F.slot_tuple_add PySem.F.entry_tuple_add (PySem.F.args_tuple_add_2 _ _)
  (tuple_addW2 t b vs.toArray ws.toArray n n2 dd dd2 sl sl2 (by simpa using hv) (by simpa using hw) (by rw[List.size_toArray,List.size_toArray];exact hsz)) ⟨ho,ho2,?_⟩
 rw[e];exact h2 hw
def sIx (n d:Nat):Option Int->Nat
 |none=>d
 |some v=>if v<0 then(v+(n:Int)).toNat else min v.toNat n
theorem sIx_none (n d:Nat):sIx n d none=d:=rfl
theorem sIx_nat (n d k:Nat):sIx n d (some (k:Int))=min k n:=by
 show(if(k:Int)<0 then((k:Int)+(n:Int)).toNat else min (k:Int).toNat n)=min k n
 rw [A13 ∅,Int.toNat_natCast]
theorem ar7 (n d:Nat)(hd:d<=n)(o:Option Int):sIx n d o<=n:=by
 cases o with
 |none=>exact hd
 |some v=>
   show(if v<0 then(v+(n:Int)).toNat else min v.toNat n)<=n
   by_cases hv:v<0
   . rw[A12 hv];omega
   rw[A13 hv];exact A3F _ _
theorem Yb (v:Int)(n d:Nat):(if v<0 then max (v+(n:Int)) 0 else min v (n:Int))=((sIx n d (some v):Nat):Int):=by
 show(if v<0 then max (v+(n:Int)) 0 else min v (n:Int))=(((if v<0 then(v+(n:Int)).toNat else min v.toNat n):Nat):Int)
 by_cases hv:v<0
 . simp only[if_pos hv];omega
 simp only[if_neg hv];omega
theorem We (lo hi:Option Int)(n:Nat):Builtin.Slice.sliceAdjust lo hi 1 (n:Int)=(((sIx n 0 lo:Nat):Int),((sIx n n hi:Nat):Int)):=by
 have h1:¬ ((1:Int)<0):=by omega
 unfold Builtin.Slice.sliceAdjust;simp only[h1,if_false];refine Prod.ext ?_ ?_
 . cases lo with
   |none=>rfl
   |some v=>exact Yb v n 0
 cases hi with
 |none=>rfl
 |some v=>exact Yb v n n
theorem Vi (i j:Nat):Builtin.Slice.slicePlaces (i:Int) (j:Int) 1=j-i:=by
 unfold Builtin.Slice.slicePlaces;have h1:(1:Int)>0:=by omega
 simp only[h1,if_true,Int.ediv_one]
 split<;>omega
theorem slicePart_ {v:Value}{o:Option Int}{Q:Option Int->Shared->Prop}(p:IsPart v o)(h:Q o s):wpAny (model prog w) A (Builtin.Slice.slicePartIndex v) Q E s:=by
 cases p with
 |none=>exact slicePart_none h
 |int i t=>exact slicePart_int h
theorem sliceApplied_gen {sl:Addr}{vl vu:Value}{lo hi:Option Int}{n:Nat}{Q:Int×Int×Nat->Shared->Prop}(hs:s.heap.IsSliceOf sl vl vu .none)(pl:IsPart vl lo)(pu:IsPart vu hi)
  (h:Q (((sIx n 0 lo:Nat):Int),1,sIx n n hi-sIx n 0 lo) s):wpAny (model prog w) A (Builtin.Slice.sliceApplied (.ref sl) (pure (n:Int))) Q E s:=by
 obtain⟨os,hos,hcs,hds⟩:=id hs;unfold Builtin.Slice.sliceApplied Builtin.Slice.sliceFields;refine A00 (A00 (A22 hos hds (x:=vl) rfl (A00 (A22 hos hds (x:=vu) rfl (A00 (A22 hos hds (x:=.none) rfl (A05 ?_)))))));refine A00 (slicePart_none ?_);show wpAny _ _ (if((1:Int)==0)=true then _ else _) _ _ s
 rw[A13 nofun];refine A00 (slicePart_ pl (A00 (slicePart_ pu (A00 (A05 ?_)))));show wpAny _ _ (match Builtin.Slice.sliceAdjust lo hi 1 (n:Int) with | (lo,hi)=>pure (lo,(1:Int),Builtin.Slice.slicePlaces lo hi 1)) _ _ s
 rw[We lo hi n];show wpAny _ _ (pure (((sIx n 0 lo:Nat):Int),(1:Int),Builtin.Slice.slicePlaces ((sIx n 0 lo:Nat):Int) ((sIx n n hi:Nat):Int) 1)) _ _ s;rw[Vi];exact A05 h
theorem a58 (xs:Array Value)(i k:Nat):((List.range k).filterMap λ(m:Nat)=>xs[((i:Int)+(m:Int)*1).toNat]?).toArray=((xs.toList.drop i).take k).toArray:=by
 have e:(λ(m:Nat)=>xs[((i:Int)+(m:Int)*1).toNat]?)=λm=>xs[i+m]?:=by
  funext m;have:((i:Int)+(m:Int)*1).toNat=i+m:=by omega
  rw[this]
 rw[e];have:=pick_run xs i k;rw[List.filterMap_map] at this;have e2:((λx=>xs[x]?)∘λx=>i+x)=λm=>xs[i+m]?:=rfl;rw[e2] at this;rw[this]
theorem getItem_tuple_cut {t sl:Addr}{items:Array Value}{vl vu:Value}{lo hi:Option Int}{Q:Value->Shared->Prop}(ht:IsTup s.heap t items)(hs:s.heap.IsSliceOf sl vl vu .none)(pl:IsPart vl lo)(pu:IsPart vu hi)
  (hw:¬ (sIx items.size 0 lo=0/\sIx items.size items.size hi=items.size))
  (h:Q (.ref s.heap.objs.size) {s with heap:=s.heap.push {cls:=.type "tuple",data:=.seq ((items.toList.drop (sIx items.size 0 lo)).take (sIx items.size items.size hi-sIx items.size 0 lo)).toArray}})
  (hsz:items.size<=sizeLine):wpAny (model prog w) A (getItem (.ref t) (.ref sl)) Q E s:=by
 have htake:sizeOk (.seq ((items.toList.drop (sIx items.size 0 lo)).take (sIx items.size items.size hi-sIx items.size 0 lo)).toArray):=by show((items.toList.drop (sIx items.size 0 lo)).take (sIx items.size items.size hi-sIx items.size 0 lo)).toArray.size<=sizeLine;rw[A0M,A0U,A14,A4R];omega
 have hj:sIx items.size items.size hi<=items.size:=ar7 _ _ (A06 _) hi;obtain⟨os,hos,hcs,hds⟩:=id hs;have hTs:s.TypeIs (.ref sl) "slice":=⟨os,hos,hcs⟩;unfold getItem
 try with_reducible refine A1T ?_
 first | refine A00 (A05 ?_) | skip
 refine A00 (A45 ht.typeIs nofun ?_)
 refine A00 (A2X (name:=Str.ofString "__getitem__") ht.typeIs A17
  (A3G A17 ht.typeIs A3O ?_ (A3U _ _)))
 show wpAny _ _ (Builtin.Tuple.tupleItemsOf (.ref t) >>= _) _ _ s;refine A00 (A4A ht ?_);refine A00 (A3C hTs ?_);rw[A12 nofun];refine A00 (sliceApplied_gen hs pl pu ?_)
 have hno:¬ ((((sIx items.size 0 lo:Nat):Int)==0&&(1:Int)==1&&(sIx items.size items.size hi-sIx items.size 0 lo)==items.size)=true):=by intro q;rw[A15,A15] at q;have q1:((sIx items.size 0 lo:Nat):Int)=0:=eq_of_beq q.1.1;have q2:sIx items.size items.size hi-sIx items.size 0 lo=items.size:=eq_of_beq q.2;exact hw ⟨by omega,by omega⟩
 show wpAny _ _ (if(((sIx items.size 0 lo:Nat):Int)==0&&(1:Int)==1&&(sIx items.size items.size hi-sIx items.size 0 lo)==items.size)=true then _ else _) _ _ s
 rw[A13 hno,a58]
 first
  |exact A00 (m:=Builtin.Tuple.tupleExact _) (A1D (A05 ⟨_,rfl,A05 h⟩) htake)
  |exact A00 (m:=Builtin.Tuple.tupleExact _) (A1D (A00 (A05 (A05 ⟨_,rfl,A05 h⟩))) htake)
  |exact A00 (A00 (m:=Builtin.Tuple.tupleExact _) (A1D (A05 (A05 ⟨_,rfl,A05 h⟩)) htake))
  |exact A00 (A00 (m:=Builtin.Tuple.tupleExact _) (A1D (A05 ⟨_,rfl,A05 h⟩) htake))
end
end HT
namespace L2
open PySem PySem.Spec PyProof.Rows
abbrev TO:=St->Hp->(Option Int->Hp->Prop)->Prop
def PO (X:Cx)(e:Option Expr)(t:TO):Prop:=
 ∀(pins:List (Addr×Obj)) (s:Shared) (σ:St) (H:Hp) (Q:Option Int->Hp->Prop),Inv X pins σ H s->t σ H Q ->
  wpAny (model X.prog X.w) X.A (evalPart e X.env) (λu s'=>∃ o H',Inv X pins σ H' s'/\IsPart u o/\Q o H') X.xe s
def Wx:TO:=λ_ H Q=>Q none H
def am4 (t:TE):TO:=fun σ H Q=>t σ H λx H1=>∃ i,x = .int i/\Q (some i) H1
section
variable {X:Cx}{e:Expr}{te:TE}{lo hi:Option Expr}{tl th:TO}{pos p2:Pos}
theorem Ca:PO X none Wx:=by intro pins s σ H Q I h;rw[A4B];exact A05 ⟨none,H,I,.none,h⟩
theorem B6 (h:PE X e te):PO X (some e) (am4 te):=by intro pins s σ H Q I hw;rw[A4Y];refine thn (h pins s σ H _ I hw) λu s1 ⟨x,H1,I1,r1,q1⟩=>?_;obtain⟨i,rfl,q⟩:=q1;obtain⟨t,rfl⟩:=r1;exact⟨some i,H1,I1,.int i t,q⟩
def SlR (X:Cx)(r:V->Option Int->Option Int->Hp->VK->Prop):Prop:=
 ∀(pins:List (Addr×Obj)) (s:Shared) (σ:St) (H:Hp) (x:V) (v vl vu:Value) (lo hi:Option Int) (sl:Addr) (Q:VK),Inv X pins σ H s->RelV x v->s.heap.IsSliceOf sl vl vu .none->IsPart vl lo->IsPart vu hi->r x lo hi H Q ->
  ∃ T id,typeLookup (.type T) "__getitem__" = pure (some (.builtin id))/\s.TypeIs v T/\wpAny (model X.prog X.w) X.A (getItem v (.ref sl)) (EP X pins σ Q) X.xe s
theorem SlR.or {r r':V->Option Int->Option Int->Hp->VK->Prop}(h:SlR X r)(h':SlR X r'):SlR X (λx lo hi H Q=>r x lo hi H Q\/r' x lo hi H Q):=by
 intro pins s σ H x v vl vu lo hi sl Q I rx hs pl pu q;rcases q with q|q
 . exact h pins s σ H x v vl vu lo hi sl Q I rx hs pl pu q
 exact h' pins s σ H x v vl vu lo hi sl Q I rx hs pl pu q
def tSl (r:V->Option Int->Option Int->Hp->VK->Prop)(te:TE)(tl th:TO):TE:=fun σ H Q=>te σ H λx H1=>tl σ H1 λl H2=>th σ H2 λu H3=>r x l u H3 Q
theorem B4 {r:V->Option Int->Option Int->Hp->VK->Prop}(hr:SlR X r)(he:PE X e te)(hl:PO X lo tl)(hu:PO X hi th):PE X (.Subscript e (.Slice lo hi none p2) pos) (tSl r te tl th):=by
 intro pins s σ H Q I h;refine A4O (thn (he pins s σ H _ I h) λv s1 ⟨x,H1,I1,r1,q1⟩=>?_);refine wpAny_Slice (thn (hl pins s1 σ H1 _ I1 q1) λvl s2 ⟨l,H2,I2,pl,q2⟩=>thn (hu pins s2 σ H2 _ I2 q2) λvu s3 ⟨u,H3,I3,pu,q3⟩=>?_);rw[A4B];refine A05 ?_;have I4:Inv X pins σ H3 {s3 with heap:=s3.heap.push {cls:=.type "slice",data:=.fields #[vl,vu,.none]}}:=I3.kept (t':=s3.toks) λb ob q=>A02 _ q
 obtain⟨T,id,hT,ht,hg⟩:=hr pins {s3 with heap:=s3.heap.push {cls:=.type "slice",data:=.fields #[vl,vu,.none]}} σ H3 x v vl vu l u s3.heap.objs.size Q I4 r1 (A3V ..) pl pu q3
 show wpAny (model X.prog X.w) X.A (subscriptTail e (.Slice lo hi none p2) v (.ref s3.heap.objs.size)) (EP X pins σ Q) X.xe {s3 with heap:=s3.heap.push {cls:=.type "slice",data:=.fields #[vl,vu,.none]}}
 exact tail_any (ops:=[.ref s3.heap.objs.size,v]) ht hT hg ⋯
def Kz (xs:List V)(lo hi:Option Int):List V:=(xs.drop (HT.sIx xs.length 0 lo)).take (HT.sIx xs.length xs.length hi-HT.sIx xs.length 0 lo)
theorem Mf (xs:List V)(lo hi:Option Int):(Kz xs lo hi).length<=xs.length:=by unfold Kz;rw[A0U,A14];omega
def aA3 (K:W.Frag):V->Option Int->Option Int->Hp->VK->Prop:=λx lo hi H Q=>∃ a xs,x = .ref a/\SqT K H a xs /\
 ¬ (HT.sIx xs.length 0 lo=0/\HT.sIx xs.length xs.length hi=xs.length)/\∀ p,H p=none->Q (.ref p) (upd H p (.tup (Kz xs lo hi)))
theorem sl_tup:SlR X (aA3 X.K):=by
 intro pins s σ H x v vl vu lo hi sl Q I rx hs pl pu h;obtain⟨a,xs,rfl,hx,hw,q⟩:=h
 cases rx;obtain⟨its,r,ht,hz⟩:=I.tuple hx;have hlen:its.toArray.size=xs.length:=by rw[A0M];exact r.length.symm
 refine⟨"tuple",_,PyProof.Rows.slot_tuple_getitem.lookup,ht.typeIs,?_⟩;refine HT.getItem_tuple_cut ht hs pl pu (by rw[hlen];exact hw) ?_ (by rw[hlen];exact hz);rw[hlen];refine⟨.ref s.heap.objs.size,_,I.laid (t':=s.toks) (o:=.tup (Kz xs lo hi)) (λb ob q=>A02 _ q) (A06 _) ?_,rfl,q _ (I.hok.fresh (A06 _))⟩;exact⟨A0L (Mf xs lo hi) hz,_,(r.drop (HT.sIx xs.length 0 lo)).take (HT.sIx xs.length xs.length hi-HT.sIx xs.length 0 lo),IsTupN.new _ _⟩
def aq8 (K:W.Frag):R2:=λx y H Q=>∃ a b xs ys,x = .ref a/\y = .ref b/\SqT K H a xs/\SqT K H b ys/\xs≠[]/\xs.length+ys.length<=sizeLine /\
 (ys=[]->Q (.ref a) H)/\(ys≠[]->∀ p,H p=none->Q (.ref p) (upd H p (.tup (xs++ys))))
theorem Vals.nil_iff {xs:List V}{us:List Value}(r:Vals xs us):us=[]↔xs=[]:=by
 cases r with
 |nil=>simp
 |cons _ _=>simp
theorem op_catT:OpR X (binaryOp .Add) (aq8 X.K):=by
 intro pins s σ H x y v u Q I rx ry h;obtain⟨a,b,xs,ys,rfl,rfl,ha,hb,hx,hz,q1,q2⟩:=h
 cases rx
 cases ry;obtain⟨its,r1,p1,_⟩:=I.tuple ha;obtain⟨its2,r2,p2,_⟩:=I.tuple hb;refine HT.cat_tup p1 p2 (λz=>hx (r1.nil_iff.mp z)) (λz=>⟨.ref a,H,I,rfl,q1 (r2.nil_iff.mp z)⟩) (λz=>?_) (by rw[<- r1.length,<- r2.length];exact hz);refine⟨.ref s.heap.objs.size,_,I.laid (t':=s.toks) (o:=.tup (xs++ys)) (λb ob q=>A02 _ q) (A06 _) ?_,rfl,q2 (λw=>z (r2.nil_iff.mpr w)) _ (I.hok.fresh (A06 _))⟩;exact⟨by rw[A04];exact hz,_,r1.append r2,IsTupN.new _ _⟩
end
def ixN (n:Nat)(i:Int):Option Nat:=if 0<=i then(if i<n then some i.toNat else none) else if -(n:Int)<=i then some (i+n).toNat else none
def atI {α:Type}(xs:List α)(i:Int):Option α:=(ixN xs.length i).bind λj=>xs[j]?
theorem ae6 {n:Nat}{i:Int}{j:Nat}(h:ixN n i=some j):seqIndex? i n=some j/\j<n /\ -(n:Int)<=i/\i<n:=by
 unfold ixN at h
 by_cases h0:0<=i
 . rw[A12 h0] at h
   by_cases h1:i<n
   . rw[A12 h1] at h;have e:i.toNat=j:=A0Z h;exact⟨by rw[seqIndex_of h0 h1,e],by omega,by omega,h1⟩
   rw[A13 h1] at h;cases h
 rw[A13 h0] at h
 by_cases h1:-(n:Int)<=i
 . rw[A12 h1] at h;have e:(i+n).toNat=j:=A0Z h;exact⟨by rw[seqIndex_neg ∅ h1,e],by omega,h1,by omega⟩
 rw[A13 h1] at h;cases h
theorem Pd {α:Type} {xs:List α} {i:Int} {v:α} (h:atI xs i=some v):∃ j,seqIndex? i xs.length=some j/\xs[j]? = some v/\j<xs.length /\ -(xs.length:Int)<=i/\i<xs.length:=by
 unfold atI at h
 cases e:ixN xs.length i with
 |none=>rw[e] at h;cases h
 |some j=>rw[e] at h;obtain⟨h1,h2,h3,h4⟩:=ae6 e;exact⟨j,h1,h,h2,h3,h4⟩
theorem Bz {α:Type}{xs:List α}{j:Nat}{v:α}(h:xs[j]? = some v):atI xs (j:Int)=some v:=by
 have hj:j<xs.length:=(A03.mp h).1
 have e:ixN xs.length (j:Int)=some j:=by unfold ixN;rw[if_pos ∅,if_pos ∅];simp
 unfold atI;rw[e];exact h
def ah2 (b:Expr):Prop:=∀ o i,subscripted b false o i=operate [o,i] (getItem o i)
def IxR (X:Cx)(r:R2):Prop:=
 ∀(value slice:Expr) (pins:List (Addr×Obj)) (s:Shared) (σ:St) (H:Hp) (x y:V) (v u:Value) (Q:VK),Inv X pins σ H s->RelV x v->RelV y u->r x y H Q ->
  subscripted slice false v u=operate [v,u] (getItem v u)->wpAny (model X.prog X.w) X.A (subscriptTail value slice v u) (EP X pins σ Q) X.xe s
def MtR (X:Cx)(id:String)(r:V->List V->Hp->VK->Prop):Prop:=
 ∀(pins:List (Addr×Obj)) (s:Shared) (σ:St) (H:Hp) (x:V) (xs:List V) (v:Value) (us:List Value) (Q:VK),Inv X pins σ H s->RelV x v->Vals xs us->r x xs H Q ->
  wpAny (model X.prog X.w) X.A (call (.builtin id) (v :: us)) (EP X pins σ Q) X.xe s
section
variable {X:Cx}{a b:Expr}{ta tb:TE}{pos:Pos}
theorem IxR.or {r r':R2}(h:IxR X r)(h':IxR X r'):IxR X (λx y H Q=>r x y H Q\/r' x y H Q):=by
 intro value slice pins s σ H x y v u Q I rx ry q hs;rcases q with q|q
 . exact h value slice pins s σ H x y v u Q I rx ry q hs
 exact h' value slice pins s σ H x y v u Q I rx ry q hs
theorem Ae {r:R2}(hr:IxR X r)(ha:PE X a ta)(hb:PE X b tb)(hs:ah2 b):PE X (.Subscript a b pos) (tOp r ta tb):=by intro pins s σ H Q I h;exact A4O (ax5 ha hb I h λv u s2 x y H2 I2 rx ry q=>hr a b pins s2 σ H2 x y v u Q I2 rx ry q (hs _ _))
def aC0 (K:W.Frag):R2:=λx y H Q=>∃ p xs i v,x = .ref p/\y = .int i/\SqL K H p xs/\atI xs i=some v/\Q v H
def aA6 (K:W.Frag):R2:=λx y H Q=>∃ p xs i v,x = .ref p/\y = .int i/\SqT K H p xs/\atI xs i=some v/\Q v H
def aA1:R2:=λx y H Q=>∃ z i c,x = .str z/\y = .int i/\z.length<=sizeLine/\atI z.cps.toList i=some c/\Q (.str ⟨#[c]⟩) H
theorem ix_list:IxR X (aC0 X.K):=by
 intro value slice pins s σ H x y v u Q I rx ry h hs;obtain⟨p,xs,i,z,rfl,rfl,hq,he,q⟩:=h
 cases rx;obtain⟨t,rfl⟩:=ry;obtain⟨its,r,pl,hz⟩:=I.list hq;obtain⟨j,h1,h2,h3,h4,h5⟩:=Pd he;obtain⟨w,ew,rw'⟩:=r.get h2;have hl:=r.length;have hn:=Ub;have fin:EP X pins σ Q w s:=⟨z,H,I,rw',q⟩
 by_cases h0:0<=i
 . have hj:i.toNat=j:=by rw[seqIndex_of h0 h5] at h1;exact A0Z h1
   exact item_listR pl.isList h0 ∅ (by rw[hj];simpa using ew) fin hs
 have hj:(i+(its.toArray.size:Int)).toNat=j:=by rw[seqIndex_neg ∅ h4] at h1;rw[A0M,<- hl];exact A0Z h1
 exact subscriptTail_builtinR (x:=w) pl.isList.typeIs slot_list_getitem.lookup
  (wpAny_getItem_list_neg (Q:=λr s'=>r=w/\EP X pins σ Q r s') pl.isList ∅ (by rw[List.size_toArray]<;>omega) ∅ (by rw[hj];simpa using ew) ⟨rfl,fin⟩) hs
theorem ix_tup:IxR X (aA6 X.K):=by
 intro value slice pins s σ H x y v u Q I rx ry h hs;obtain⟨p,xs,i,z,rfl,rfl,hq,he,q⟩:=h
 cases rx;obtain⟨t,rfl⟩:=ry;obtain⟨its,r,pl,hz⟩:=I.tuple hq;obtain⟨j,h1,h2,h3,h4,h5⟩:=Pd he;obtain⟨w,ew,rw'⟩:=r.get h2;have hl:=r.length;have hn:=Ub;have fin:EP X pins σ Q w s:=⟨z,H,I,rw',q⟩
 exact subscriptTail_builtinR (x:=w) pl.typeIs slot_tuple_getitem.lookup
  (getItem_tuple (j:=j) (Q:=λr s'=>r=w/\EP X pins σ Q r s') pl ∅ ∅ (by rw[List.size_toArray,<- hl];exact h1) (by simpa using ew) ⟨rfl,fin⟩) hs
theorem al2:IxR X aA1:=by
 intro value slice pins s σ H x y v u Q I rx ry h hs;obtain⟨z,i,c,rfl,rfl,hz,he,q⟩:=h;obtain⟨t,rfl⟩:=rx;obtain⟨t',rfl⟩:=ry;obtain⟨j,h1,h2,h3,h4,h5⟩:=Pd he;have hl:z.cps.toList.length=z.length:=by simp[Str.length]
 rw[hl] at h1 h4 h5;have hn:=Ub
 exact tail_any (typeIs_str s z t) slot_str_getitem.lookup (getItem_str (c:=c) (by have e1:decide (i < -(2 ^ 63:Int))=false:=A0R ∅;have e2:decide (i>=2 ^ 63)=false:=A0R ∅;rw[e1,e2,Bool.or_false]) (by rw[h1];simpa using h2) ⟨.str ⟨#[c]⟩,H,I.tok _,⟨_,rfl⟩,q⟩) hs
def rIx (K:W.Frag):R2:=λx y H Q=>aC0 K x y H Q\/aA6 K x y H Q\/aA1 x y H Q
theorem ix_seq:IxR X (rIx X.K):=ix_list.or (ix_tup.or al2)
theorem Rw (lo hi:Option Int) (n:Nat):(sliceBounds lo hi none n).1=((HT.sIx n 0 lo:Nat):Int)/\(sliceBounds lo hi none n).2.1=((HT.sIx n n hi:Nat):Int)/\(sliceBounds lo hi none n).2.2=1:=by
 refine⟨?_,?_,rfl⟩
 . cases lo with
   |none=>simp[sliceBounds,HT.sIx]
   |some i=>
     simp only[sliceBounds,HT.sIx,Option.getD_none,show(1:Int)>0 by decide,if_true]
     by_cases h:i<0
     . simp only[h,if_true]<;>omega
     simp only[h,if_false]<;>omega
 cases hi with
 |none=>simp[sliceBounds,HT.sIx]
 |some i=>
   simp only[sliceBounds,HT.sIx,Option.getD_none,show(1:Int)>0 by decide,if_true]
   by_cases h:i<0
   . simp only[h,if_true]<;>omega
   simp only[h,if_false]<;>omega
theorem Jf (its:List Value)(lo hi:Option Int):slicePick its.toArray lo hi none=((its.drop (HT.sIx its.length 0 lo)).take (HT.sIx its.length its.length hi-HT.sIx its.length 0 lo)).toArray:=by obtain⟨h1,h2,h3⟩:=Rw lo hi its.toArray.size;unfold slicePick;rw[h1,h2,h3];simp only[sliceRange_one,pick_run,List.size_toArray]<;>rfl
def az8 (K:W.Frag):V->Option Int->Option Int->Hp->VK->Prop:=λx lo hi H Q=>∃ a xs,x = .ref a/\SqL K H a xs/\∀ p,H p=none->Q (.ref p) (upd H p (.lst (Kz xs lo hi)))
theorem sl_list:SlR X (az8 X.K):=by
 intro pins s σ H x v vl vu lo hi sl Q I rx hs pl pu h;obtain⟨a,xs,rfl,hx,q⟩:=h
 cases rx;obtain⟨its,r,ht,hz⟩:=I.list hx;have hlen:=r.length;refine⟨"list",_,slot_list_getitem.lookup,ht.isList.typeIs,?_⟩;refine wpAny_getItem_list_slice ht.isList hs pl pu .none (by simp) ?_ (by rw[List.size_toArray]<;>omega)
 rw[Jf,<- hlen];refine⟨.ref s.heap.objs.size,_,I.laid (t':=s.toks) (o:=.lst (Kz xs lo hi)) (λb ob q=>A02 _ q) (A06 _) ?_,rfl,q _ (I.hok.fresh (A06 _))⟩;exact⟨A0L (Mf xs lo hi) hz,_,0,(r.drop (HT.sIx xs.length 0 lo)).take (HT.sIx xs.length xs.length hi-HT.sIx xs.length 0 lo),A0O _ rfl⟩
def Ox:V->Bool
 |.non=>true
 |.bl _=>true
 |.int _=>true
 |.str _=>true
 |_=>false
def eqV:V->V->Bool
 |.non,.non=>true
 |.bl a,.bl b=>a==b
 |.bl a,.int b=>(if a then 1 else 0)==b
 |.int a,.bl b=>a==(if b then 1 else 0)
 |.int a,.int b=>a==b
 |.str a,.str b=>a==b
 |_,_=>false
theorem av6 {A:Around}{s:Shared}{y x:V}{u v:Value}(ry:RelV y u)(rx:RelV x v)(fy:Ox y=true)(fx:Ox x=true):SeqAt.EqAt A s u v (eqV y x):=by
 cases y with
 |non=>
   cases ry
   cases x with
   |non=>cases rx;exact SeqAt.EqAt.same _
   |bl b=>cases rx;exact SeqAt.EqAt.none_bool b
   |int b=>obtain⟨t,rfl⟩:=rx;exact SeqAt.EqAt.none_int b t
   |str b=>obtain⟨t,rfl⟩:=rx;exact SeqAt.EqAt.none_str b t
   |_=>exact absurd (show false=true from fx) A0I
 |bl a=>
   cases ry
   cases x with
   |non=>cases rx;exact SeqAt.EqAt.bool_none a
   |bl b=>cases rx;exact SeqAt.EqAt.bool_bool a b
   |int b=>obtain⟨t,rfl⟩:=rx;exact SeqAt.EqAt.bool_int a b t
   |str b=>obtain⟨t,rfl⟩:=rx;exact SeqAt.EqAt.bool_str a b t
   |_=>exact absurd (show false=true from fx) A0I
 |int a=>
   obtain⟨t',rfl⟩:=ry
   cases x with
   |non=>cases rx;exact SeqAt.EqAt.int_none a t'
   |bl b=>cases rx;exact SeqAt.EqAt.int_bool a t' b
   |int b=>obtain⟨t,rfl⟩:=rx;exact SeqAt.EqAt.int_int a t' b t
   |str b=>obtain⟨t,rfl⟩:=rx;exact SeqAt.EqAt.int_str a t' b t
   |_=>exact absurd (show false=true from fx) A0I
 |str a=>
   obtain⟨t',rfl⟩:=ry
   cases x with
   |non=>cases rx;exact SeqAt.EqAt.str_none a t'
   |bl b=>cases rx;exact SeqAt.EqAt.str_bool a t' b
   |int b=>obtain⟨t,rfl⟩:=rx;exact SeqAt.EqAt.str_int a t' b t
   |str b=>obtain⟨t,rfl⟩:=rx;exact SeqAt.EqAt.str_str a t' b t
   |_=>exact absurd (show false=true from fx) A0I
 |_=>exact absurd (show false=true from fy) A0I
def eqU (x:V)(u:Value):Bool:=match u with
 |.none=>eqV .non x
 |.bool b=>eqV (.bl b) x
 |.int i _=>eqV (.int i) x
 |.str z _=>eqV (.str z) x
 |_=>false
theorem a94 {x y:V}{u:Value}(r:RelV y u)(f:Ox y=true):eqU x u=eqV y x:=by
 cases y with
 |non=>cases r;rfl
 |bl b=>cases r;rfl
 |int i=>obtain⟨t,rfl⟩:=r;rfl
 |str z=>obtain⟨t,rfl⟩:=r;rfl
 |_=>exact absurd (show false=true from f) A0I
theorem Me {x:V}:∀ {xs:List V} {us:List Value},Vals xs us->xs.all Ox=true->us.any (eqU x)=xs.any λy=>eqV y x
 |_,_,.nil,_=>rfl
 |y :: xs,u :: us,.cons r t,f=>by rw[List.all_cons,A15] at f;rw[A2Y,A2Y,a94 r f.1,Me t f.2]
theorem Ie {A:Around}{s:Shared}{x:V}{v:Value}(rx:RelV x v)(fx:Ox x=true):∀ {xs:List V} {us:List Value},Vals xs us->xs.all Ox=true->∀ u∈us,SeqAt.EqAt A s u v (eqU x u)
 |_,_,.nil,_=>λu hu=>by cases hu
 |y :: xs,u :: us,.cons r t,f=>λu' hu=>by
   rw[List.all_cons,A15] at f;rcases A0H.mp hu with rfl|hu
   . rw[a94 r f.1];exact av6 r rx f.1 fx
   exact Ie rx fx t f.2 u' hu
def inV (x:V)(xs:List V):Bool:=xs.any λy=>eqV y x
def rIn (K:W.Frag)(neg:Bool):R2:=λx y H Q=>∃ p xs,y = .ref p/\(SqL K H p xs\/SqT K H p xs)/\Ox x=true/\xs.all Ox=true/\Q (.bl (if neg then !inV x xs else inV x xs)) H
theorem op_in_seq:OpR X (compareOp .In) (rIn X.K false):=by
 intro pins s σ H x y v u Q I rx ry h;obtain⟨p,xs,rfl,hq,fx,fs,q⟩:=h
 cases ry;rcases hq with hq|hq
 . obtain⟨its,r,pl,hz⟩:=I.list hq;refine SeqAt.in_listAt (eqU x) pl.isList (λw hw=>Ie rx fx r fs w (by simpa using hw)) ⟨.bl _,H,I,rfl,?_⟩;rw[show its.toArray.any (eqU x)=its.any (eqU x) by simp,Me r fs];exact q
 obtain⟨its,r,pl,hz⟩:=I.tuple hq;refine SeqAt.in_tupleAt (eqU x) pl (λw hw=>Ie rx fx r fs w (by simpa using hw)) ⟨.bl _,H,I,rfl,?_⟩;rw[show its.toArray.any (eqU x)=its.any (eqU x) by simp,Me r fs];exact q
theorem op_notIn_seq:OpR X (compareOp .NotIn) (rIn X.K true):=by
 intro pins s σ H x y v u Q I rx ry h;obtain⟨p,xs,rfl,hq,fx,fs,q⟩:=h
 cases ry;rcases hq with hq|hq
 . obtain⟨its,r,pl,hz⟩:=I.list hq;refine SeqAt.notIn_listAt (eqU x) pl.isList (λw hw=>Ie rx fx r fs w (by simpa using hw)) ⟨.bl _,H,I,rfl,?_⟩;rw[show its.toArray.any (eqU x)=its.any (eqU x) by simp,Me r fs];exact q
 obtain⟨its,r,pl,hz⟩:=I.tuple hq;refine SeqAt.notIn_tupleAt (eqU x) pl (λw hw=>Ie rx fx r fs w (by simpa using hw)) ⟨.bl _,H,I,rfl,?_⟩;rw[show its.toArray.any (eqU x)=its.any (eqU x) by simp,Me r fs];exact q
theorem op_notIn_str:OpR X (compareOp .NotIn) (λx y H Q=>∃ i j,x = .str i/\y = .str j/\Q (.bl (!(!(Builtin.Str.occurrences j i 0 j.length 1).isEmpty))) H):=by intro pins s σ H x y v u Q I rx ry h;obtain⟨i,j,rfl,rfl,q⟩:=h;obtain⟨t,rfl⟩:=rx;obtain⟨t',rfl⟩:=ry;exact notIn_str ⟨.bl _,H,I,rfl,q⟩
theorem CallR.or {f:Value}{r r':List V->Hp->VK->Prop}(h:CallR X f r)(h':CallR X f r'):CallR X f (λxs H Q=>r xs H Q\/r' xs H Q):=by
 intro pins s σ H xs us Q I rs q;rcases q with q|q
 . exact h pins s σ H xs us Q I rs q
 exact h' pins s σ H xs us Q I rs q
theorem Rh:CallR X (.type "list") (λxs H Q=>∃ p ys,xs=[.ref p]/\(SqL X.K H p ys\/SqT X.K H p ys)/\∀ l,H l=none->Q (.ref l) (upd H l (.lst ys))):=by
 intro pins s σ H xs us Q I r h;obtain⟨p,ys,rfl,hq,q⟩:=h;obtain⟨u,rfl,rx⟩:=Ms r
 cases rx
 have fin:∀(its:List Value),Vals ys its->ys.length<=sizeLine->∀(h':Heap) (c':Nat),(∀ b o',s.heap.get? b=some o'->h'.get? b=some o') ->
   h'.get? s.heap.objs.size=some {cls:=.type "list",dict:=none,data:=.seq its.toArray c',slots:=#[]}->EP X pins σ Q (.ref s.heap.objs.size) {s with heap:=h'}:=λits r' hz h' c' kp e=>
  ⟨.ref s.heap.objs.size,_,I.laid (t':=s.toks) kp (A06 _) (show ObjOk X.prog X.w _ h' _ (.lst ys) from⟨hz,its,c',r',e⟩),rfl,q _ (I.hok.fresh (A06 _))⟩
 rcases hq with hq|hq
 . obtain⟨its,r',pl,hz⟩:=I.list hq;have hlen:=r'.length;obtain⟨o,ho,hc,n,hd⟩:=pl.isList;exact call_list_seq p (.inl rfl) ho hc hd (λh' c' kp e=>fin its r' hz h' c' kp e) (by simp only[List.size_toArray]<;>omega)
 obtain⟨its,r',pl,hz⟩:=I.tuple hq;have hlen:=r'.length;obtain⟨o,ho,hc,n,hd⟩:=pl;exact call_list_seq p (.inr rfl) ho hc hd (λh' c' kp e=>fin its r' hz h' c' kp e) (by simp only[List.size_toArray]<;>omega)
theorem Oe:CallR X (.type "tuple") (λxs H Q=>∃ p ys,xs=[.ref p]/\((SqL X.K H p ys/\∀ l,H l=none->Q (.ref l) (upd H l (.tup ys)))\/(SqT X.K H p ys/\Q (.ref p) H))):=by
 intro pins s σ H xs us Q I r h;obtain⟨p,ys,rfl,h⟩:=h;obtain⟨u,rfl,rx⟩:=Ms r
 cases rx;rcases h with ⟨hq,q⟩|⟨hq,q⟩
 . obtain⟨its,r',pl,hz⟩:=I.list hq;have hlen:=r'.length;refine call_tuple_list pl.isList (λh' kp=>?_) (by simp only[List.size_toArray]<;>omega)
   have I1:Inv X pins σ H {s with heap:=h'}:=I.kept (t':=s.toks) kp
   have I2:Inv X pins σ (upd H h'.objs.size (.tup ys)) {s with heap:=h'.push {cls:=.type "tuple",data:=.seq its.toArray}}:=
    I1.laid (t':=s.toks) (λb o e=>A02 _ e) (A06 _) (show ObjOk X.prog X.w _ _ _ (.tup ys) from⟨hz,its,r',IsTupN.new _ _⟩)
   exact⟨.ref h'.objs.size,_,I2,rfl,q _ (I1.hok.fresh (A06 _))⟩
 obtain⟨its,r',pl,hz⟩:=I.tuple hq;exact call_tuple_same pl ⟨.ref p,H,I,rfl,q⟩
def tyV (K:W.Frag)(T:String)(x:V)(H:Hp):Prop:=match x with
 |.str _=>T = "str"
 |.int _=>T = "int"
 |.ref p=>(T = "list" /\ ∃ xs,SqL K H p xs)\/(T = "tuple" /\ ∃ o,K.lookup p=some o/\o.cls = .type "tuple" /\ o.dict=none) \/
   (T = "dict" /\ ((∃ kvs,H p=some (.dK kvs))\/∃ kvs,H p=some (.dT kvs)))\/(T = "set" /\ ∃ S n,H p=some (.set S n))
 |_=>False
theorem a93 {pins:List (Addr×Obj)}{σ:St}{H:Hp}{s:Shared}{T:String}{x:V}{v:Value}(I:Inv X pins σ H s)(r:RelV x v)(ty:tyV X.K T x H) :
  s.TypeIs v T/\∀ a,v = .ref a->∃ ob,s.heap.get? a=some ob/\ob.dict=none:=by
 cases x with
 |str z=>
   obtain⟨t,rfl⟩:=r
   cases (show T = "str" from ty);exact⟨typeIs_str s z t,λ_ e=>nomatch e⟩
 |int i=>
   obtain⟨t,rfl⟩:=r
   cases (show T = "int" from ty);exact⟨typeIs_int s i t,λ_ e=>nomatch e⟩
 |ref p=>
   cases r;rcases ty with ⟨rfl,xs,hq⟩|⟨rfl,o,hk,hc,hd⟩|⟨rfl,hk⟩|⟨rfl,S,n,hk⟩
   . obtain⟨its,_,pl,_⟩:=I.list hq;refine⟨pl.isList.typeIs,λa e=>?_⟩
     cases e;obtain⟨o,n,e,c,hd,_⟩:=pl;exact⟨o,e,hd⟩
   . refine⟨⟨o,I.kIn p o hk,hc⟩,λa e=>?_⟩
     cases e;exact⟨o,I.kIn _ o hk,hd⟩
   . have z:∃ o,s.heap.get? p=some o/\o.ExactDict:=by
      rcases hk with ⟨kvs,hk⟩|⟨kvs,hk⟩
      . obtain⟨_,_,_,_,o,_,_,e,ex,_⟩:=I.hok p _ hk;exact⟨o,e,ex⟩
      obtain⟨_,_,_,_,o,_,_,e,ex,_⟩:=I.hok p _ hk;exact⟨o,e,ex⟩
     obtain⟨o,e,ex⟩:=z;refine⟨⟨o,e,ex.1⟩,λa e2=>?_⟩
     cases e2;exact⟨o,e,ex.2.1⟩
   obtain⟨o,_,_,_,e,ex,_⟩:=I.hok p _ hk;refine⟨⟨o,e,ex.1⟩,λa e2=>?_⟩
   cases e2;exact⟨o,e,ex.2.1⟩
 |_=>exact False.elim ty
def ax3 (K:W.Frag)(T:String)(r:V->List V->Hp->VK->Prop)(to:TE):TE:=fun σ H Q=>to σ H λx H1=>tyV K T x H1/\r x [] H1 Q
def tBM (K:W.Frag)(T:String)(r:V->List V->Hp->VK->Prop)(to:TE)(t:TA):TE:=fun σ H Q=>to σ H λx H1=>tyV K T x H1/\t σ H1 λxs H2=>r x xs H2 Q
variable {o e:Expr}{es:List Expr}{to:TE}{t:TA}{name:Str}{apos cpos:Pos}{T id:String}{r:V->List V->Hp->VK->Prop}
theorem aq2 (pa:PlainAttrs T)(slot:Slot T name id)(hty:typeOf (.builtin id)=pure (.type "method_descriptor"))(hm:MtR X id r)(ho:PE X o to)
  (hbase:attributeBase o name X.env (eval o X.env)=eval o X.env:=by ac_nf) (hline:(apos.endLine==cpos.line)=true:=by ac_nf):PE X (.Call (.Attribute o name apos) [] [] cpos) (ax3 X.K T r to):=by
 intro pins s σ H Q I h;refine wpAny_Call_method0_late hbase hline (thn (ho pins s σ H _ I h) λv s1 ⟨x,H1,I1,r1,ty,q1⟩=>?_);obtain⟨h1,h2⟩:=a93 I1 r1 ty;exact⟨T,id,pa,slot,hty,h1,h2,A4E rfl (PySem.evalArgs_none (hm pins s1 σ H1 x [] v [] Q I1 r1 .nil q1))⟩
theorem ay1 (pa:PlainAttrs T)(slot:Slot T name id)(hty:typeOf (.builtin id)=pure (.type "method_descriptor"))(hm:MtR X id r)(ho:PE X o to)(ha:PA X (e :: es) t)
  (hbase:attributeBase o name X.env (eval o X.env)=eval o X.env:=by ac_nf)
  (hfew:((backTo cpos (starEach (e :: es) X.env)).all (λx=>!x.1)&&(backToKw cpos (keywordEach [] X.env)).all (λx=>x.1.isSome)
   && decide ((e :: es).length+([]:List Keyword).length+(if([]:List Keyword).isEmpty then 0 else 1)<30))=true:=by ac_nf)
  (hline:(apos.endLine==cpos.line)=true:=by ac_nf) (hs:starEach (e :: es) X.env=(false,eval e X.env) :: starEach es X.env:=by ac_nf) (hplain:(backTo cpos (starEach es X.env)).any (·.1)=false:=by ac_nf) :
  PE X (.Call (.Attribute o name apos) (e :: es) [] cpos) (tBM X.K T r to t):=by
 intro pins s σ H Q I h;refine wpAny_Call_method_late hbase hfew hline rfl (thn (ho pins s σ H _ I h) λv s1 ⟨x,H1,I1,r1,ty,q1⟩=>?_);obtain⟨h1,h2⟩:=a93 I1 r1 ty;refine⟨T,id,pa,slot,hty,h1,h2,?_⟩;have hA:=ha cpos pins s1 σ H1 _ I1 q1;rw[hs] at hA ⊢;refine A4E (by show(false||(backTo cpos (starEach es X.env)).any (·.1))=false;rw[hplain]<;>rfl) (Calls.evalArgs_plain ?_)
 exact thn hA λus s2 ⟨vs,H2,I2,r2,q2⟩=>hm pins s2 σ H2 x vs v us Q I2 r1 r2 q2
/- xs.append(e),list.index on a module's tuple .. are MtR facts of 06m -/
end
def MtM (X:Cx)(id:String)(r:V->List V->Hp->VK->Prop):Prop:=
 ∀(pins:List (Addr×Obj)) (s:Shared) (σ:St) (H:Hp) (x:V) (xs:List V) (v:Value) (us:List Value) (Q:VK),Inv X pins σ H s->RelV x v->Vals xs us->r x xs H Q ->
  wpAny (model X.prog X.w) X.A (call (.builtin id) (v :: us)) (EP X pins σ Q) X.xe s
theorem Vals.one {x:V}{us:List Value}(h:Vals [x] us):∃ u,us=[u]/\RelV x u:=by
 cases h with
 |cons r q=>cases q;exact⟨_,rfl,r⟩
theorem Vals.two {x y:V}{us:List Value}(h:Vals [x,y] us):∃ u v,us=[u,v]/\RelV x u/\RelV y v:=by
 cases h with
 |cons r q=>obtain⟨u,rfl,q'⟩:=Vals.one q;exact⟨_,_,rfl,r,q'⟩
theorem Vals.zero:∀ {us:List Value},Vals [] us->us=[]
 |_,.nil=>rfl
theorem Vals.dropLast {xs:List V}{us:List Value}(h:Vals xs us):Vals xs.dropLast us.dropLast:=by
 induction h with
 |nil=>exact .nil
 |cons r t ih=>
   cases t with
   |nil=>exact .nil
   |cons q t'=>exact .cons r ih
theorem Vals.eraseIdx:∀ {xs:List V} {us:List Value} (i:Nat),Vals xs us->Vals (xs.eraseIdx i) (us.eraseIdx i)
 |_,_,_,.nil=>.nil
 |_,_,0,.cons _ t=>t
 |_,_,i+1,.cons r t=>.cons r (Vals.eraseIdx i t)
theorem Vals.reverse {xs:List V}{us:List Value}(h:Vals xs us):Vals xs.reverse us.reverse:=by
 induction h with
 |nil=>exact .nil
 |cons r t ih=>rw[List.reverse_cons,List.reverse_cons];exact Vals.append ih (.cons r .nil)
theorem Vals.rep {xs:List V}{us:List Value}(h:Vals xs us):∀ k:Nat,Vals (List.replicate k xs).flatten (List.replicate k us).flatten
 |0=>.nil
 |k+1=>by rw[A2G,A2G,A46,A46];exact Vals.append h (Vals.rep h k)
theorem Wa {α:Type}(l:List α):l.eraseIdx (l.length-1)=l.dropLast:=by
 induction l with
 |nil=>rfl
 |cons a r ih=>
   cases r with
   |nil=>rfl
   |cons b r=>
     have e:(a :: b :: r).length-1=((b :: r).length-1)+1:=by have h1:(a :: b :: r).length=r.length+2:=rfl;have h2:(b :: r).length=r.length+1:=rfl;omega
     rw[e,List.eraseIdx_cons_succ,ih]
     all_goals rfl
theorem Sk {α:Type}:∀(l:List α) (i:Nat),(l.eraseIdx i).length<=l.length
 | [],_=>A06 _
 |_ :: _,0=>A4S _
 |_ :: r,i+1=>Nat.succ_le_succ (Sk r i)
theorem R3 (its:List Value):∀(k:Nat) (acc:List Value),
  List.foldl (λx1 x2=>x1++x2) acc.toArray (List.replicate k its.toArray)=(acc++(List.replicate k its).flatten).toArray
 |0,acc=>by simp
 |k+1,acc=>by
   have e:acc.toArray++its.toArray=(acc++its).toArray:=by simp
   have e2:(acc++its)++(List.replicate k its).flatten=acc++(List.replicate (k+1) its).flatten:=by rw[A2G,A46,A2N]
   rw[<- e2,<- R3 its k (acc++its),<- e,A2G,A4I]
section
variable {X:Cx}{pins:List (Addr×Obj)}{σ:St}{H:Hp}{s:Shared}{l b:Addr}{xs ys zs:List V}
theorem Inv.lset {its its':List Value}{n:Nat}{f:Array Value->Array Value}{t':Nat}(I:Inv X pins σ H s)(hH:H l=some (.lst xs))
  (e:s.heap.get? l=some {cls:=.type "list",data:=.seq its.toArray n}) (hf:f its.toArray=its'.toArray) (hv:Vals ys its') (hz:ys.length<=sizeLine) :
  Inv X pins σ (upd H l (.lst ys)) {s with heap:=s.heap.update l (Obj.mapSeq f),toks:=t'}:=by
 have q:=PySem.IsL.update e f;rw[hf] at q;refine I.write (x:=l) (e:=l) (by rw[hH];exact trivial) (.inl rfl) (λb' u hb hu=>(A1V s.heap (Obj.mapSeq f) (Ne.symm hb)).trans hu) ⟨_,q⟩ ?_;exact⟨hz,its',_,hv,q⟩
theorem Inv.lnew {its:List Value}{t':Nat}(I:Inv X pins σ H s)(hv:Vals ys its)(hz:ys.length<=sizeLine) :
  Inv X pins σ (upd H s.heap.objs.size (.lst ys)) {s with heap:=s.heap.push {cls:=.type "list",data:=.seq its.toArray},toks:=t'}:=
 I.laid (λ_ _ q=>A02 _ q) (A06 _) ⟨hz,its,0,hv,A0O _ rfl⟩
theorem Inv.fresh (I:Inv X pins σ H s):H s.heap.objs.size=none:=I.hok.fresh (A06 _)
theorem Inv.lstM (I:Inv X pins σ H s)(hH:H l=some (.lst xs)):xs.length<=sizeLine/\∃(its:List Value) (n:Nat),Vals xs its/\xs.length=its.length/\s.heap.get? l=some {cls:=.type "list",data:=.seq its.toArray n}:=by obtain⟨z,its,n,r,e⟩:=I.hok l _ hH;exact⟨z,its,n,r,r.length,e⟩
theorem Va {n:Nat}(h:n<=sizeLine):Builtin.List.listTooLong n=false:=by unfold Builtin.List.listTooLong;exact A0R ∅
end
section
variable {X:Cx}
def Ym:V->List V->Hp->VK->Prop:=λx vs H Q=>∃ l xs y,x = .ref l/\vs=[y]/\H l=some (.lst xs)/\xs.length<sizeLine/\Q .non (upd H l (.lst (xs++[y])))
theorem Dq:MtM X "list.append" Ym:=by
 intro pins s σ H x vs v us Q I rx rv h;obtain⟨l,xs,y,rfl,rfl,hH,hz,q⟩:=h
 cases rx;obtain⟨u,rfl,ru⟩:=rv.one;obtain⟨z,its,n,r,hl,e⟩:=I.lstM hH;refine A3M F.slot_list_append ⟨_,e,rfl⟩ F.entry_list_append (F.args_list_append_2 _ _) (PySem.list_append l its.toArray n u (by rw[A0M];omega)) ⟨e,?_⟩;refine⟨.non,_,I.lset (its':=its++[u]) hH e (by simp) (r.append (.cons ru .nil)) ?_,rfl,q⟩;rw[A04,A0J];omega
def X5:V->List V->Hp->VK->Prop:=λx vs H Q=>∃ l b xs zs,x = .ref l/\vs=[.ref b]/\H l=some (.lst xs)/\H b=some (.lst zs)/\xs.length+zs.length<=sizeLine/\Q .non (upd H l (.lst (xs++zs)))
theorem Mc:MtM X "list.extend" X5:=by
 intro pins s σ H x vs v us Q I rx rv h;obtain⟨l,b,xs,zs,rfl,rfl,hH,hB,hz,q⟩:=h
 cases rx;obtain⟨u,rfl,ru⟩:=rv.one
 cases ru;obtain⟨z,its,n,r,hl,e⟩:=I.lstM hH;obtain⟨z2,its2,n2,r2,hl2,e2⟩:=I.lstM hB;have hsz:its.toArray.size+its2.toArray.size<=sizeLine:=by rw[A0M,A0M];omega
 have hlong:¬ (!its.toArray.isEmpty&&Builtin.List.listTooLong (its.toArray.size+its2.toArray.size))=true:=by rw[Va hsz,Bool.and_false];exact A0I
 refine A3M F.slot_list_extend ⟨_,e,rfl⟩ F.entry_list_extend (F.args_list_extend_2 _ _)
  (AutoSeq1.list_extend_list_list_0 l its.toArray n b its2.toArray n2 hlong (by rw[A0M];omega) ∅) ⟨e,e2,?_⟩
 refine⟨.non,_,I.lset (its':=its++its2) hH e (by simp) (r.append r2) ?_,rfl,q⟩;rw[A04];omega
def aB0:V->List V->Hp->VK->Prop:=λx vs H Q=>∃ l xs y,x = .ref l/\vs=[]/\H l=some (.lst xs)/\xs[xs.length-1]? = some y/\Q y (upd H l (.lst xs.dropLast))
theorem au2:MtM X "list.pop" aB0:=by
 intro pins s σ H x vs v us Q I rx rv h;obtain⟨l,xs,y,rfl,rfl,hH,hy,q⟩:=h
 cases rx;have hus:=rv.zero;subst hus;obtain⟨z,its,n,r,hl,e⟩:=I.lstM hH;obtain⟨u,hu,ru⟩:=r.get hy
 have hy':its.toArray[its.toArray.size-1]? = some u:=by show its.toArray[its.length-1]? = some u;rw[<- A4J,<- hl];exact hu
 refine A3M F.slot_list_pop ⟨_,e,rfl⟩ F.entry_list_pop (F.args_list_pop_1 _) (MeetsSeq.list_pop_last l its.toArray n u hy' (by rw[A0M];omega)) ⟨e,?_⟩;refine⟨y,_,I.lset (its':=its.dropLast) hH e ?_ r.dropLast ?_,ru,q⟩
 . show its.toArray.eraseIdxIfInBounds (its.toArray.size-1)=its.dropLast.toArray;rw[A0M,List.eraseIdxIfInBounds_toArray,Wa]
 rw[List.length_dropLast];omega
def aa3:V->List V->Hp->VK->Prop:=λx vs H Q=>∃ l xs i k y,x = .ref l/\vs=[.int i]/\H l=some (.lst xs) /\ -(2 ^ 63)<=i/\i<2 ^ 63/\seqIndex? i xs.length=some k/\xs[k]? = some y/\Q y (upd H l (.lst (xs.eraseIdx k)))
theorem a39:MtM X "list.pop" aa3:=by
 intro pins s σ H x vs v us Q I rx rv h;obtain⟨l,xs,i,k,y,rfl,rfl,hH,h1,h2,hk,hy,q⟩:=h
 cases rx;obtain⟨u,rfl,ru⟩:=rv.one;obtain⟨t,rfl⟩:=ru;obtain⟨z,its,n,r,hl,e⟩:=I.lstM hH;obtain⟨w,hw,rw'⟩:=r.get hy
 refine A3M F.slot_list_pop ⟨_,e,rfl⟩ F.entry_list_pop (F.args_list_pop_2 _ _)
  (MeetsSeq.list_pop_at l its.toArray n i t k w (fitsIndex_both h1 h2) (by rw[A0M,<- hl];exact hk) (by rw[<- A4J];exact hw) (by rw[A0M];omega)) ⟨e,?_⟩
 refine⟨y,_,I.lset (its':=its.eraseIdx k) hH e ?_ (r.eraseIdx k) ?_,rw',q⟩
 . show its.toArray.eraseIdxIfInBounds k=(its.eraseIdx k).toArray;rw[List.eraseIdxIfInBounds_toArray]
 have:=Sk xs k;omega
def aA8:R2:=λx y H Q=>∃ l b xs zs,x = .ref l/\y = .ref b/\H l=some (.lst xs)/\H b=some (.lst zs)/\xs.length+zs.length<=sizeLine/\∀ p,H p=none->Q (.ref p) (upd H p (.lst (xs++zs)))
theorem op_cat:OpR X (binaryOp .Add) aA8:=by
 intro pins s σ H x y v u Q I rx ry h;obtain⟨l,b,xs,zs,rfl,rfl,hH,hB,hz,q⟩:=h
 cases rx
 cases ry;obtain⟨z,its,n,r,hl,e⟩:=I.lstM hH;obtain⟨z2,its2,n2,r2,hl2,e2⟩:=I.lstM hB;refine PySem.P.add_list e e2 ?_ (by rw[A0M,A0M];omega);have ea:its.toArray++its2.toArray=(its++its2).toArray:=by simp
 rw[ea];exact⟨.ref _,_,I.lnew (t':=s.toks) (r.append r2) (by rw[A04];omega),rfl,q _ I.fresh⟩
def aB1:R2:=λx y H Q=>∃ l k xs,x = .ref l/\y = .int k/\H l=some (.lst xs) /\ -(2 ^ 63)<=k/\k<2 ^ 63/\xs.length*k.toNat<=sizeLine /\
 ∀ p,H p=none->Q (.ref p) (upd H p (.lst (List.replicate k.toNat xs).flatten))
theorem ad6 {α:Type}(xs:List α)(k:Nat):(List.replicate k xs).flatten.length=k*xs.length:=by
 induction k with
 |zero=>simp
 |succ k ih=>rw[A2G,A46,A04,ih,Nat.succ_mul,Nat.add_comm]
theorem as3:OpR X (binaryOp .Mult) aB1:=by
 intro pins s σ H x y v u Q I rx ry h;obtain⟨l,k,xs,rfl,rfl,hH,h1,h2,hz,q⟩:=h
 cases rx;obtain⟨t,rfl⟩:=ry;obtain⟨z,its,n,r,hl,e⟩:=I.lstM hH;have hlen:its.toArray.size*k.toNat<=sizeLine:=by rw[A0M,<- hl];exact hz
 have hcap:¬ its.toArray.size*k.toNat>(2 ^ 63-1) / 8:=by
  have:(sizeLine:Nat)<=(2 ^ 63-1) / 8:=by decide
  omega
 have hfit:¬ (!Builtin.List.listFitsIndex k)=true:=by rw[fitsIndex_both h1 h2];exact A0I
 have hlong:¬ Builtin.List.listTooLong (its.toArray.size*k.toNat)=true:=by rw[Va hlen];exact A0I
 have hnew:List.foldl (λx1 x2=>x1++x2) #[] (List.replicate (if its.toArray.isEmpty=true then 0 else k.toNat) its.toArray)=(List.replicate k.toNat its).flatten.toArray:=by
  have f0:∀ m:Nat,List.foldl (λx1 x2=>x1++x2) #[] (List.replicate m its.toArray)=(List.replicate m its).flatten.toArray:=λm=>by have:=R3 its m [];rw[List.nil_append] at this;exact this
  rw[f0]
  cases its with
  |nil=>simp
  |cons a r'=>rw[if_neg (by simp)]
 refine wpAny_binaryOp_repeat_ref (T:="list") (U:="int") nofun ⟨_,e,rfl⟩ (λs'=>typeIs_int s' k t) noFill_list_mul F.fills_int_mul F.slot_int_rmul repeat_list F.slot_int_index.lookup
  (A3M F.slot_int_rmul (typeIs_int s k t) F.entry_int_rmul (F.args_int_rmul_2 _ _) (int___rmul___int_list k t l its.toArray n)
   ⟨e,rfl,⟨_,e,rfl⟩,A3M F.slot_list_mul ⟨_,e,rfl⟩ F.entry_list_mul (F.args_list_mul_2 _ _) (AutoListH.list___mul___list_int_3 l its.toArray n k t hfit hcap hlong) ⟨e,?_⟩⟩)
 rw[hnew];exact⟨.ref _,_,I.lnew (t':=s.toks) (r.rep k.toNat) (by rw[ad6,Nat.mul_comm];exact hz),rfl,q _ I.fresh⟩
end
section
variable {prog:Program}{w:World}{A:Around}{E:Value->Shared->Prop}{s:Shared}
set_option maxRecDepth 100000 in
end
section
variable {X:Cx}
end
section
variable {κ:Type}[DecidableEq κ]
def Hz (kvs:List (κ×V))(k:κ):Option V:=(kvs.find? λkv=>decide (kv.1=k)).map (·.2)
def K6 (kvs:List (κ×V))(k:κ)(v:V):List (κ×V):=
 if(kvs.any λkv=>decide (kv.1=k))=true then kvs.map (λkv=>if kv.1=k then(kv.1,v) else kv) else kvs++[(k,v)]
theorem a40 {k:κ}:Hz ([]:List (κ×V)) k=none:=rfl
theorem Jv {p:κ×V} {r:List (κ×V)} {k:κ} (e:p.1=k):Hz (p :: r) k=some p.2:=by simp[Hz,List.find?_cons,e]
theorem Il {p:κ×V}{r:List (κ×V)}{k:κ}(e:¬ p.1=k):Hz (p :: r) k=Hz r k:=by simp[Hz,List.find?_cons,e]
theorem Ou (k:κ):∀ kvs:List (κ×V),(kvs.any λkv=>decide (kv.1=k))=(Hz kvs k).isSome
 | []=>rfl
 |p :: r=>by
   rw[A2Y]
   by_cases e:p.1=k
   . simp only[Jv e,decide_eq_true e,Bool.true_or,Option.isSome_some]
   rw[Il e,A0R e,Bool.false_or];exact Ou k r
theorem J1 (kvs:List (κ×V))(k:κ)(v:V):(K6 kvs k v).length<=kvs.length+1:=by
 unfold K6
 split
 . rw[A01];omega
 rw[A04,A0V,List.length_nil];omega
theorem a47 {kvs:List (κ×V)}{k:κ}(v:V)(h:Hz kvs k=none):K6 kvs k v=kvs++[(k,v)]:=by unfold K6;rw [Ou,h];exact A13 nofun
theorem RelO.isSome_eq {o:Option V}{u:Option Value}(r:RelO o u):o.isSome=u.isSome:=by
 cases o with
 |none=>cases u with
   |none=>rfl
   |some _=>exact(show False from r).elim
 |some _=>cases u with
   |none=>exact(show False from r).elim
   |some _=>rfl
theorem KV.val {kvs:List (κ×V)} {vs:List (κ×Value)} (r:KV kvs vs) (k:κ):RelO (Hz kvs k) (valueAt vs k):=by
 unfold KV at r
 induction r with
 |nil=>exact A1Z
 |@cons p q ps qs h t ih=>
   obtain⟨h1,h2⟩:=h
   by_cases e:p.1=k
   . have e':q.1=k:=h1.symm.trans e;have b:valueAt (q :: qs) k=some q.2:=by simp[valueAt,List.find?_cons,e']
     rw[Jv e,b];exact h2
   have e':¬ q.1=k:=λz=>e (h1.trans z);have b:valueAt (q :: qs) k=valueAt qs k:=by simp[valueAt,List.find?_cons,e']
   rw[Il e,b];exact ih
theorem KV.any {kvs:List (κ×V)}{vs:List (κ×Value)}(r:KV kvs vs)(k:κ):(kvs.any λkv=>decide (kv.1=k))=vs.any λkv=>decide (kv.1=k):=by
 unfold KV at r
 induction r with
 |nil=>rfl
 |cons h t ih=>rw[A2Y,A2Y,ih,h.1]
theorem KV.repl {kvs:List (κ×V)}{vs:List (κ×Value)}(r:KV kvs vs)(k:κ){y:V}{u:Value}(ry:RelV y u) :
  KV (kvs.map λkv=>if kv.1=k then(kv.1,y) else kv) (vs.map λkv=>if kv.1=k then(kv.1,u) else kv):=by
 unfold KV at r ⊢
 induction r with
 |nil=>exact .nil
 |@cons p q ps qs h t ih=>
   rw[A0Q,A0Q];refine .cons ?_ ih;obtain⟨h1,h2⟩:=h
   by_cases e:p.1=k
   . rw[A12 e,A12 (h1.symm.trans e)];exact⟨h1,ry⟩
   rw[A13 e,A13 (λz=>e (h1.trans z))];exact⟨h1,h2⟩
theorem KV.put {kvs:List (κ×V)}{vs:List (κ×Value)}(r:KV kvs vs)(k:κ){y:V}{u:Value}(ry:RelV y u):KV (K6 kvs k y) (stored vs k u):=by
 unfold K6 stored;rw[r.any k]
 by_cases e:(vs.any λkv=>decide (kv.1=k))=true
 . rw[A12 e,A12 e];exact r.repl k ry
 rw[A13 e,A13 e];exact Paired.snoc r ⟨rfl,ry⟩
theorem KV.keys {kvs:List (κ×V)}{vs:List (κ×Value)}(r:KV kvs vs):kvs.map (·.1)=vs.map (·.1):=by
 unfold KV at r
 induction r with
 |nil=>rfl
 |cons h t ih=>rw[A0Q,A0Q,ih,h.1]
theorem KV.length {kvs:List (κ×V)}{vs:List (κ×Value)}(r:KV kvs vs):kvs.length=vs.length:=A2V r
end
theorem Qg {P:Program}{w:World}{k:Key}{u:Value}(r:RelV (kV k) u):(B1 P w).is k u=true:=by
 cases k with
 |inl i=>obtain⟨t,e⟩:=(show ∃ t,u=Value.int i t from r);subst e;exact T2 P w i t
 |inr x=>obtain⟨t,e⟩:=(show ∃ t,u=Value.str x t from r);subst e;exact T0 P w x t
theorem Rg {P:Program}{w:World}:∀ {ks:List Key} {us:List Value},Vals (ks.map kV) us->ItemsAre (B1 P w) ks us
 | [],_,r=>by rw[List.map_nil] at r;cases r;exact .nil
 |k :: ks,_,r=>by
   rw[A0Q] at r
   cases r with
   |cons h t=>exact .cons (Qg h) (Rg t)
abbrev KT (H:Hp):List (List Key×V)->List (List Key×Addr×Value)->Prop:=Paired λp q=>p.1=q.1/\H q.2.1=some (.tup (p.1.map kV))/\RelV p.2 q.2.2
theorem KT.val {H:Hp}{kvs:List (List Key×V)}{xs:List (List Key×Addr×Value)}(r:KT H kvs xs)(k:List Key):RelO (Hz kvs k) ((atKey xs k).map (·.2)):=by
 induction r with
 |nil=>exact A1Z
 |@cons p q ps qs h t ih=>
   obtain⟨h1,_,h2⟩:=h
   by_cases e:p.1=k
   . have e':q.1=k:=h1.symm.trans e;have b:atKey (q :: qs) k=some q.2:=by simp[atKey,List.find?_cons,e']
     rw[Jv e,b];exact h2
   have e':¬ q.1=k:=λz=>e (h1.trans z);have b:atKey (q :: qs) k=atKey qs k:=by simp[atKey,List.find?_cons,e']
   rw[Il e,b];exact ih
theorem KT.repl {H:Hp} {kvs:List (List Key×V)} {xs:List (List Key×Addr×Value)} (r:KT H kvs xs) (k:List Key) {y:V} {u:Value} (ry:RelV y u) :
  KT H (kvs.map λkv=>if kv.1=k then(kv.1,y) else kv) (xs.map (putAt k u)):=by
 induction r with
 |nil=>exact .nil
 |@cons p q ps qs h t ih=>
   rw[A0Q,A0Q];refine .cons ?_ ih;obtain⟨h1,h2,h3⟩:=h;unfold putAt
   by_cases e:p.1=k
   . rw[A12 e,A12 (h1.symm.trans e)];exact⟨h1,h2,ry⟩
   rw[A13 e,A13 (λz=>e (h1.trans z))];exact⟨h1,h2,h3⟩
theorem KT.put {H:Hp}{kvs:List (List Key×V)}{xs:List (List Key×Addr×Value)}(r:KT H kvs xs)(k:List Key){b:Addr}{y:V}{u:Value}(hb:H b=some (.tup (k.map kV)))(ry:RelV y u) :
  KT H (K6 kvs k y) (storedH xs k b u):=by
 have e:(kvs.any λkv=>decide (kv.1=k))=(atKey xs k).isSome:=by rw[Ou,(r.val k).isSome_eq,Option.isSome_map]
 unfold K6 storedH;rw[e]
 by_cases q:(atKey xs k).isSome=true
 . rw[A12 q,A12 q];exact r.repl k ry
 rw[A13 q,A13 q];exact Paired.snoc r ⟨rfl,hb,ry⟩
theorem KT.keeps {H H':Hp}{kvs:List (List Key×V)}{xs:List (List Key×Addr×Value)}(r:KT H kvs xs)(ht:∀ b ys,H b=some (.tup ys)->H' b=some (.tup ys)):KT H' kvs xs:=
 Paired.mapP r λ_ _ z=>⟨z.1,ht _ _ z.2.1,z.2.2⟩
section
variable {P:Program}{w:World}{H:Hp}{h:Heap}{a:Addr}
theorem as4 {u:HO}(ok:HOk P w H h)(e:Rd H a u):ObjOk P w H h a u:=e.ok ok
theorem Wg {kvs:List (Key×V)}(ok:HOk P w H h)(e:Rd H a (.dK kvs)):kvs.length<=sizeLine/\(a==sysModules)=false/\∃ vs,KV kvs vs/\h.DictOf (B1 P w) a vs:=
 show ObjOk P w H h a (.dK kvs) from as4 ok e
theorem Xn {kvs:List (Key×V)}(ok:HOk P w H h)(e:H a=some (.dK kvs)):kvs.length<=sizeLine/\(a==sysModules)=false/\∃ vs,KV kvs vs/\h.DictOf (B1 P w) a vs:=Wg ok (.inl e)
theorem Qn {ks:List Key}(ok:HOk P w H h)(e:H a=some (.tup (ks.map kV))):(tupleKind (B1 P w)).is h ks a:=by obtain⟨_,its,r,o,h1,h2,⟨n,h3⟩,_⟩:=(show ObjOk P w H h a (.tup (ks.map kV)) from ok a _ e);exact⟨o,its.toArray,n,h1,h2,h3,by simpa using Rg r⟩
theorem Xq {kvs:List (List Key×V)}(ok:HOk P w H h)(e:Rd H a (.dT kvs)):kvs.length<=sizeLine/\(a==sysModules)=false /\
  ∃ xs,KT H kvs xs/\h.DictOfH (tupleKind (B1 P w)) a xs:=by
 obtain⟨z,y,xs,r,o,es,ep,h1,h2,h3,h4,h5⟩:=(show ObjOk P w H h a (.dT kvs) from as4 ok e);refine⟨z,y,xs,r,o,es,ep,h1,h2,h3,h4,λx hx=>?_,h5⟩
 have all:∀ {l:List (List Key×V)} {m:List (List Key×Addr×Value)},KT H l m->∀ x∈m,(tupleKind (B1 P w)).is h x.1 x.2.1:=by
  intro l m q
  induction q with
  |nil=>intro x hx;exact nomatch hx
  |@cons p q ps qs hq t ih=>
    intro x hx;rcases A0H.mp hx with e|hx
    . subst e;exact Qn ok (by rw[<- hq.1];exact hq.2.1)
    exact ih x hx
 exact all r x hx
theorem az4 {kvs:List (List Key×V)}(ok:HOk P w H h)(e:H a=some (.dT kvs)):kvs.length<=sizeLine/\(a==sysModules)=false /\
  ∃ xs,KT H kvs xs/\h.DictOfH (tupleKind (B1 P w)) a xs:=Xq ok (.inl e)
end
def DGet (H:Hp)(a:Addr)(y:V)(r:Option V):Prop:=
 (∃ kvs k,Rd H a (.dK kvs)/\y=kV k/\r=Hz kvs k)\/∃ kvs k b,Rd H a (.dT kvs)/\y = .ref b/\H b=some (.tup (k.map kV))/\r=Hz kvs k
def DPut (H:Hp)(a:Addr)(y v:V)(H':Hp):Prop:=
 (∃ kvs k,H a=some (.dK kvs)/\y=kV k/\kvs.length<sizeLine/\H'=upd H a (.dK (K6 kvs k v))) \/
 ∃ kvs k b,H a=some (.dT kvs)/\y = .ref b/\H b=some (.tup (k.map kV))/\kvs.length<sizeLine/\H'=upd H a (.dT (K6 kvs k v))
theorem DGet.k {H:Hp}{a:Addr}{kvs:List (Key×V)}{k:Key}(e:H a=some (.dK kvs)):DGet H a (kV k) (Hz kvs k):=.inl ⟨kvs,k,.inl e,rfl,rfl⟩
theorem DPut.k {H:Hp}{a:Addr}{kvs:List (Key×V)}{k:Key}{v:V}(e:H a=some (.dK kvs))(hl:kvs.length<sizeLine):DPut H a (kV k) v (upd H a (.dK (K6 kvs k v))):=.inl ⟨kvs,k,e,rfl,hl,rfl⟩
section
variable {X:Cx}{pins:List (Addr×Obj)}{σ:St}{H:Hp}{s:Shared}{a:Addr}{y v:V}{u r:Value}{o:Option V}{A:Around}{E:Value->Shared->Prop}
theorem Inv.big (I:Inv X pins σ H s):sysModules<s.heap.objs.size:=by have h:mainGlobals<s.heap.objs.size:=(I.mod.glob.keeps I.bk).lt;exact A3W nofun h
theorem Yj {Q:Value->Shared->Prop}(hu:A.units+1<cLine)(I:Inv X pins σ H s)(g:DGet H a y (some v))(ry:RelV y u)(h:∀ w' s',Inv X pins σ H s'->RelV v w'->Q w' s') :
  wpAny (model X.prog X.w) A (getItem (.ref a) u) Q E s:=by
 rcases g with ⟨kvs,k,e,ey,l⟩|⟨kvs,k,b,e,ey,eb,l⟩
 . subst ey;obtain⟨z,hd,vs,rel,dd⟩:=Wg I.hok e;obtain⟨w',hw,rw'⟩:=RelO.some_of (v:=v) (o:=valueAt vs k) (by rw[l];exact rel.val k);exact wpAny_getItem_of (Qg ry) dd.mapOf hw (h w' _ (I.tok _) rw')
 subst ey
 cases (show u=Value.ref b from ry);obtain⟨z,hd,xs,rel,dd⟩:=Xq I.hok e;obtain⟨w',hw,rw'⟩:=RelO.some_of (v:=v) (o:=(atKey xs k).map (·.2)) (by rw[l];exact rel.val k);obtain⟨p,hp,hp2⟩:=A1M.mp hw;refine wpAny_getItem_heap (A3X hu) (Qn I.hok eb) dd hp ?_;rw[hp2];exact h w' _ (I.tok _) rw'
theorem d_in {Q:Value->Shared->Prop}(hu:A.units+1<cLine)(I:Inv X pins σ H s)(g:DGet H a y o)(ry:RelV y u)(h:∀ s',Inv X pins σ H s'->Q (.bool o.isSome) s') :
  wpAny (model X.prog X.w) A (compareOp .In u (.ref a)) Q E s:=by
 rcases g with ⟨kvs,k,e,ey,l⟩|⟨kvs,k,b,e,ey,eb,l⟩
 . subst ey;obtain⟨z,hd,vs,rel,dd⟩:=Wg I.hok e;refine wpAny_in_of (Qg ry) hd dd.mapOf ?_;rw[<- (rel.val k).isSome_eq,<- l];exact h _ (I.tok _)
 subst ey
 cases (show u=Value.ref b from ry);obtain⟨z,hd,xs,rel,dd⟩:=Xq I.hok e;refine wpAny_in_heap (A3X hu) (Qn I.hok eb) hd dd ?_;have q:=(rel.val k).isSome_eq;rw[Option.isSome_map] at q;rw[<- q,<- l];exact h _ (I.tok _)
theorem af2 {Q:Value->Shared->Prop}(hu:A.units+1<cLine)(I:Inv X pins σ H s)(g:DGet H a y o)(ry:RelV y u)(h:∀ s',Inv X pins σ H s'->Q (.bool (!o.isSome)) s') :
  wpAny (model X.prog X.w) A (compareOp .NotIn u (.ref a)) Q E s:=by
 rcases g with ⟨kvs,k,e,ey,l⟩|⟨kvs,k,b,e,ey,eb,l⟩
 . subst ey;obtain⟨z,hd,vs,rel,dd⟩:=Wg I.hok e;refine wpAny_notIn_of (Qg ry) hd dd.mapOf ?_;rw[<- (rel.val k).isSome_eq,<- l];exact h _ (I.tok _)
 subst ey
 cases (show u=Value.ref b from ry);obtain⟨z,hd,xs,rel,dd⟩:=Xq I.hok e;refine wpAny_notIn_heap (A3X hu) (Qn I.hok eb) hd dd ?_;have q:=(rel.val k).isSome_eq;rw[Option.isSome_map] at q;rw[<- q,<- l];exact h _ (I.tok _)
theorem Ph {h':Heap}{t':Nat}{ob:HO}(I:Inv X pins σ H s)(mu:Mut (H a))(hs:Heap.SameBut a s.heap h')(he:∃ q,h'.get? a=some q)(new:ObjOk X.prog X.w (upd H a ob) h' a ob) :
  Inv X pins σ (upd H a ob) {s with heap:=h',toks:=t'}:=
 I.write (x:=a) (e:=a) mu (.inl rfl) (λb q hb z=>(hs.2 b hb).trans z) he new
theorem Rk {P:Program}{w:World}{H':Hp}{h':Heap}{kvs:List (Key×V)}{vs:List (Key×Value)}(z:kvs.length<=sizeLine)(hd:(a==sysModules)=false)(rel:KV kvs vs)(dd:h'.DictOf (B1 P w) a vs) :
  ObjOk P w H' h' a (.dK kvs):=⟨z,hd,vs,rel,dd⟩
theorem Yx {H':Hp}{Q:Unit->Shared->Prop}(hu:A.units+1<cLine)(I:Inv X pins σ H s)(g:DPut H a y v H')(ry:RelV y u)(rv:RelV v r)(h:∀ s',Inv X pins σ H' s'->Q () s') :
  wpAny (model X.prog X.w) A (setItem (.ref a) u r) Q E s:=by
 rcases g with ⟨kvs,k,e,ey,l,eH⟩|⟨kvs,k,b,e,ey,eb,l,eH⟩
 . subst ey eH;obtain⟨z,hd,vs,rel,dd⟩:=Xn I.hok e;have hz:vs.length<=sizeLine:=by rw[<- rel.length];exact z
   have hl:(K6 kvs k v).length<=sizeLine:=by have:=J1 kvs k v;omega
   refine wpAny_setItem_pairs (hsz:=hz) (Qg ry) dd λh' dd' hs=>h _ ?_;have he:∃ q,h'.get? a=some q:=let ⟨q,_,_,hq,_⟩:=dd';⟨q,hq⟩;exact Ph I (by rw[e];exact A1Z) hs he (Rk hl hd (rel.put k rv) dd')
 subst ey eH
 cases (show u=Value.ref b from ry);obtain⟨z,hd,xs,rel,dd⟩:=az4 I.hok e;have hz:xs.length<=sizeLine:=by rw[<- A2V rel];exact z
 have hl:(K6 kvs k v).length<=sizeLine:=by have:=J1 kvs k v;omega
 refine wpAny_setItem_heap (hsz:=hz) (A3X hu) (Qn I.hok eb) dd λh' dd' hs=>h _ ?_;obtain⟨q,es,ep,hq,h2,h3,h4,_,h5⟩:=dd';refine Ph I (by rw[e];exact A1Z) hs ⟨q,hq⟩ ⟨hl,hd,_,(rel.put k eb rv).keeps λc ys ec=>?_,q,es,ep,hq,h2,h3,h4,h5⟩;rw[Ag (ne_of ec e (λz=>nomatch z))];exact ec
end
section
variable {X:Cx}{pins:List (Addr×Obj)}{σ:St}{H:Hp}{s:Shared}{a:Addr}{kvs:List (Key×V)}{k:Key}{u:Value}{A:Around}{E:Value->Shared->Prop}
theorem ax1 {Q:Value->Shared->Prop}(I:Inv X pins σ H s)(e:Rd H a (.dK kvs))(h:∀ t s',Inv X pins σ H s'->Q (.int kvs.length t) s'):wpAny (model X.prog X.w) A (call (.builtin "len") [.ref a]) Q E s:=by obtain⟨z,hd,vs,rel,dd⟩:=Wg I.hok e;refine call_len_dict hd dd (by rw[<- rel.length];rw[A16] at z;omega) ?_;rw[<- rel.length];exact h _ _ (I.tok _)
end
def NoSl (i:Expr):Prop:=∀ ov iv,subscripted i false ov iv=operate [ov,iv] (getItem ov iv)
theorem ag8 {prog:Program}{w:World}{A:Around}{E:Value->Shared->Prop}{s:Shared}{env:Env}{value slice:Expr}{pos:Pos}{T id:String}{Q:Value->Shared->Prop}
  (hl:typeLookup (.type T) "__getitem__" = pure (some (.builtin id))) (hs:NoSl slice)
  (h:wpAny (model prog w) A (eval value env) (λo s₁=>wpAny (model prog w) A (eval slice env) (λi s₂=>s₂.TypeIs o T/\wpAny (model prog w) A (getItem o i) Q E s₂) E s₁) E s) :
  wpAny (model prog w) A (eval (.Subscript value slice pos) env) Q E s:=by
 refine A4O (A1P h (λo s₁ h₁=>A1P h₁ (λi s₂ h₂=>?_) λ_ _ x=>x) λ_ _ x=>x);obtain⟨hT,h₂⟩:=h₂;unfold subscriptTail;refine A00 ?_;rw[getitemInPython_of_ne hT.not_modules];refine A00 (wpAny_specialOf hT hl ?_)
 have fin:wpAny (model prog w) A (subscripted slice false o i) (λr s₃=>wpAny (model prog w) A (letTemporaryGo value o r >>= λ_=>pure r) Q E s₃) E s₂:=by rw[hs o i];exact wpAny_operating (A1P h₂ (λr s₃ h₃=>A00 (wpAny_letTemporaryGo (A05 h₃))) λ_ _ x=>x)
 first
  |exact A05 (A00 fin)
  |exact A00 (A05 (A00 fin))
  |exact A00 fin
theorem T3 {X:Cx}{pins:List (Addr×Obj)}{σ:St}{H:Hp}{s:Shared}{a:Addr}{y:V}{o:Option V}(I:Inv X pins σ H s)(g:DGet H a y o):s.TypeIs (.ref a) "dict":=by
 rcases g with ⟨kvs,k,e,_,_⟩|⟨kvs,k,b,e,_,_,_⟩
 . obtain⟨_,_,vs,_,dd⟩:=Wg I.hok e;exact dd.typeIs
 obtain⟨_,_,xs,_,dd⟩:=Xq I.hok e;exact dd.typeIs
def av4 (td ty tv:TE):TS:=λD σ H=>tv σ H λv H1=>td σ H1 λx H2=>ty σ H2 λy H3=>∃ a H4,x = .ref a/\DPut H3 a y v H4/\D.nx σ H4
section
variable {X:Cx}{o i e value:Expr}{pos pos' tpos:Pos}{td ty tv:TE}
theorem J9 (hu:X.A.units+1<cLine)(ho:PE X o td)(hi:PE X i ty)(hv:PE X value tv)(hs:swapsWith value (some (.Subscript o i pos')) pos.line X.env=pure false) :
  PS X (.Assign [.Subscript o i pos'] value pos) (av4 td ty tv):=by
 intro pins s σ H D I h;refine wpAny_Assign_Subscript (thn (hv pins s σ H _ I h) λr s1 ⟨v,H1,I1,rv,q1⟩=>thn (ho pins s1 σ H1 _ I1 q1) λu s2 ⟨x,H2,I2,rx,q2⟩=>thn (hi pins s2 σ H2 _ I2 q2) λiv s3 ⟨y,H3,I3,ry,a,H4,ex,g,q3⟩=>?_) hs;subst ex;obtain rfl:u=Value.ref a:=rx;exact Yx hu I3 g ry rv λs4 I4=>⟨σ,H4,I4,q3⟩
end
theorem Tx {P:Program}{w:World}{H:Hp}(h:Heap)(hb:sysModules<h.objs.size):ObjOk P w H (h.push {cls:=.type "dict",data:=.dict #[]}) h.objs.size (.dK []):=
 ⟨A2H _,A0W.mpr (Ne.symm (A10 hb)),[],.nil,Heap.DictOf.new h⟩
def ab8:TE:=λ_ H Q=>∀ p,H p=none->Q (.ref p) (upd H p (.dK []))
section
variable {X:Cx}{pos:Pos}
theorem Tv:PE X (.Dict [] [] pos) ab8:=λpins s σ H Q I h=>wpAny_Dict_empty ⟨.ref s.heap.objs.size,_,I.laid (a:=s.heap.objs.size) (o:=.dK []) (t':=s.toks) (λ_ _ q=>A02 _ q) (A06 _) (Tx s.heap I.big),rfl,h _ (I.hok.fresh (A06 _))⟩
end
def Lx:List (TE×TE)->St->Hp->(List (V×V)->Hp->Prop)->Prop
 | [],_,H,Q=>Q [] H
 | (tk,tv) :: r,σ,H,Q=>tk σ H λx H1=>tv σ H1 λy H2=>Lx r σ H2 λps H3=>Q ((x,y) :: ps) H3
abbrev VV:List (V×V)->List (Value×Value)->Prop:=Paired λp q=>RelV p.1 q.1/\RelV p.2 q.2
def PPs (X:Cx)(pos:Pos)(keys:List (Option Expr))(values:List Expr)(trs:List (TE×TE)):Prop:=
 ∀(pins:List (Addr×Obj)) (s:Shared) (σ:St) (H:Hp) (Q:List (V×V)->Hp->Prop),Inv X pins σ H s->Lx trs σ H Q ->
  wpAny (model X.prog X.w) X.A (evalPairs (pairTrees keys values X.env pos)) (λvs s'=>∃ ps H',Inv X pins σ H' s'/\VV ps vs/\Q ps H') X.xe s
theorem ac7 {X:Cx}{pos:Pos}:PPs X pos [] [] []:=λpins s σ H Q I h=>pairTrees_nil_walk ⟨[],H,I,.nil,h⟩
theorem L6 {X:Cx}{pos:Pos}{k v:Expr}{ks:List (Option Expr)}{vs:List Expr}{tk tv:TE}{trs:List (TE×TE)}(hk:PE X k tk)(hv:PE X v tv)(hr:PPs X pos ks vs trs) :
  PPs X pos (some k :: ks) (v :: vs) ((tk,tv) :: trs):=λpins s σ H Q I h=>
 pairTrees_cons_walk (thn (hk pins s σ H _ I h) λu s1 ⟨x,H1,I1,rx,q1⟩=>thn (hv pins s1 σ H1 _ I1 q1) λw2 s2 ⟨y,H2,I2,ry,q2⟩=>thn (hr pins s2 σ H2 _ I2 q2) λws s3 ⟨ps,H3,I3,rel,q3⟩=>⟨(x,y) :: ps,H3,I3,.cons ⟨rx,ry⟩ rel,q3⟩)
def Fl (kvs more:List (Key×V)):List (Key×V):=more.foldl (λacc kv=>K6 acc kv.1 kv.2) kvs
theorem KV.merge:∀ {more:List (Key×V)} {rs:List (Key×Value)} {kvs:List (Key×V)} {vs:List (Key×Value)},KV more rs->KV kvs vs->KV (Fl kvs more) (merged vs rs):=by
 intro more rs kvs vs r;unfold KV at r
 induction r generalizing kvs vs with
 |nil=>intro q;exact q
 |@cons p q ps qs h t ih=>
   intro r0
   have e:KV (K6 kvs p.1 p.2) (stored vs q.1 q.2):=by have:=r0.put p.1 h.2;rw[<- h.1];exact this
   exact ih e
theorem Fb:∀(more kvs:List (Key×V)),(Fl kvs more).length<=kvs.length+more.length
 | [],kvs=>by show kvs.length<=kvs.length+0;omega
 |p :: r,kvs=>by have h1:=Fb r (K6 kvs p.1 p.2);have h2:=J1 kvs p.1 p.2;show(Fl (K6 kvs p.1 p.2) r).length<=_;rw[A0V];omega
theorem Nj {P:Program}{w:World}:∀ {kvs:List (Key×V)} {ws:List (Value×Value)},VV (kvs.map λkv=>(kV kv.1,kv.2)) ws->∃ rs,Carries (B1 P w) ws rs/\KV kvs rs
 | [], _,r=>by rw[List.map_nil] at r;cases r;exact⟨[],A1Z,.nil⟩
 |p :: kvs,_,r=>by
   rw[A0Q] at r
   cases r with
   |@cons a b as bs h t=>obtain⟨rs,c,q⟩:=Nj (P:=P) (w:=w) t;obtain⟨b1,b2⟩:=b;exact⟨(p.1,b2) :: rs,⟨Qg h.1,rfl,c⟩,.cons ⟨rfl,h.2⟩ q⟩
def av7 (trs:List (TE×TE)):TE:=fun σ H Q=>∀ p,H p=none->Lx trs σ (upd H p (.dK [])) λps H2=>H2 p=some (.dK [])/\∃ kvs:List (Key×V),ps=kvs.map (λkv=>(kV kv.1,kv.2))/\kvs.length<=15/\Q (.ref p) (upd H2 p (.dK (Fl [] kvs)))
theorem ai0 {X:Cx}{pos:Pos}{keys:List (Option Expr)}{values:List Expr}{trs:List (TE×TE)}(h:PPs X pos keys values trs)(hall:keys.all (·.isSome)=true)(hl:keys.length=values.length)(h0:keys≠[])
  (h15:keys.length<=15):PE X (.Dict keys values pos) (av7 trs):=by
 intro pins s σ H Q I q;have hn:=I.hok.fresh (A06 s.heap.objs.size);have I1:=I.laid (a:=s.heap.objs.size) (o:=.dK []) (h':=s.heap.push {cls:=.type "dict",data:=.dict #[]}) (t':=s.toks) (λ_ _ q=>A02 _ q) (A06 _) (Tx s.heap I.big);refine wpAny_Dict_walk (knd:=B1 X.prog X.w) hall hl h0 h15 (thn (h pins _ σ _ _ I1 (q _ hn)) λws s2 ⟨ps,H2,I2,rel,e,kvs,ep,lk,q2⟩=>?_);subst ep;obtain⟨rs,c,rk⟩:=Nj (P:=X.prog) (w:=X.w) rel;obtain⟨z,hd,vs0,r0,dd⟩:=Xn I2.hok e
 cases r0;refine⟨rs,c,dd,λh' dd' hs=>⟨.ref s.heap.objs.size,_,?_,rfl,q2⟩⟩
 have hz:(Fl [] kvs).length<=sizeLine:=by have h1:=Fb kvs [];rw[List.length_nil] at h1;rw[A16];omega
 have he:∃ q,h'.get? s.heap.objs.size=some q:=let ⟨q,_,_,hq,_⟩:=dd';⟨q,hq⟩;exact Ph I2 (by rw[e];exact A1Z) hs he (Rk hz hd (rk.merge .nil) dd')
section
variable {X:Cx}{pins:List (Addr×Obj)}{σ:St}{H:Hp}{s:Shared}{a:Addr}{y d:V}{u r:Value}{o:Option V}{A:Around}{E:Value->Shared->Prop}
end
section
variable {X:Cx}{o e f:Expr}{apos cpos:Pos}{td ty tx:TE}
end
section
variable {X:Cx}{pins:List (Addr×Obj)}{σ:St}{H:Hp}{s:Shared}{a:Addr}{kvs:List (Key×V)}{A:Around}{E:Value->Shared->Prop}
end
section
variable {X:Cx}{pins:List (Addr×Obj)}{σ:St}{H:Hp}{s:Shared}{a:Addr}{y:V}{u:Value}{A:Around}{E:Value->Shared->Prop}
end
end L2
namespace Att
open PySem PySem.W PySem.Calls PyProof.Rows
theorem M4 {P:Params}{h:Heap}:∀(ns:List Int) (vs:List Value),WellAll P h vs (ns.map WData.int)->IntsAre vs ns:=by
 intro ns
 induction ns with
 |nil=>
   intro vs w;rw[List.map_nil] at w
   cases w;exact .nil
 |cons n ns ih=>
   intro vs w;rw[A0Q] at w
   cases w with
   |cons a b=>cases a;exact .cons _ _ (ih _ b)
theorem Za {l:OpenLaw}{n:Nat}(hn:l.most=some n){P:Params}{h:Heap}{args:List WData}{vals:List Value}
  (hpre:l.row.toRowW.claim.pre args=true) (hwl:WellAll P h vals args) :
  ∃ a vs ns,vals=[Value.ref a]/\args=[WData.list (ns.map WData.int)]/\h.get? a=some {cls:=.type "list",data:=.seq vs.toArray}/\IntsAre vs ns/\ns.length<=n:=by
 have hsh:WShape.hasAll [] args [.list .int]=true:=(pre_splitW hpre).1;have hc:l.pre.holds [] {args:=args}=true:=(pre_splitW hpre).2;obtain⟨d,r,rfl,h1,h2⟩:=hasAllW_cons hsh;obtain rfl:=hasAllW_nil h2;obtain⟨xs,rfl,h3⟩:=hasW_list h1;obtain⟨ns,rfl⟩:=items_int h3
 have hlen:ns.length<=n:=by
  unfold OpenLaw.pre at hc
  have h4:(WTm.not (.lt (.lit (.int (n:Int))) (.len (.arg 0)))).holds [] {args:=[.list (ns.map .int)]}=true:=by have h4:=(holds_andW hc).1;rw[hn] at h4;exact h4
  have h5:=condW_of h4 (w_not (w_lt w_lit (w_len_list (w_arg rfl))));rw[A01] at h5;refine Nat.le_of_not_lt λq=>?_;have q':(n:Int)<((ns.length:Nat):Int):=by omega
  first
   | (rw[A0P q'] at h5;exact absurd h5 nofun)
   | (simp at h5;omega)
 cases hwl with
 |cons w1 w2=>
   cases w2
   cases w1 with
   |list ho hall=>exact⟨_,_,ns,rfl,rfl,ho,M4 ns _ hall,hlen⟩
theorem Y4 (l:OpenLaw)(args:List WData):l.row.toRowW.claim.post args (.bool true) args=true:=
 postW_of (r:=l.row.toRowW) (X:=(true==true))
  (show WShape.has [] (.bool true) .bool=true by first | rfl | decide | simp[WShape.has,WShape.arms,WShape.armsAll])
  (show(WTm.eq .res (.lit (.bool true))).value [] {args:=args,res:=some (.bool true),after:=args}=some (.bool (true==true)) from w_eq_bool (w_res rfl) w_lit) rfl
theorem attach_call {l:OpenLaw}{n:Nat}{q:Program}{loose:List Str}{XP:(Str->Option Value)->Heap->Prop}{YP:World->Heap->Prop}{d:DefRec}
  (hn:l.most=some n) (hdf:d.params.defaults=[])
  (call:∀(w:World) (s₀ s₁:Shared) (mg mb:Str->Option Value) (fa:Addr) (o:Obj) (pm cd doc:Value) (a:Addr) (vs:List Value) (ns:List Int),
   Ground q loose [] XP w s₀ mg mb s₁.heap->YP w s₁.heap ->
   s₁.heap.get? fa=some o->o.data = .func (docDef d.name d.params d.body d.scope pm cd doc)->s₁.heap.CodeRec cd d.name->mg d.name=some (.ref fa) ->
   s₁.heap.get? a=some {cls:=.type "list",data:=.seq vs.toArray}->IntsAre vs ns->ns.length<=n->s₁.gens = #[] ->
   codeAny (model l.prog w) callerA (.call (.ref fa) ⟨[.ref a],[]⟩) (λr s'=>r = .ok (.ret (.bool true))/\OldK s₁.heap s'.heap/\s'.os=s₁.os/\AllBare s'.gens) s₁) :
  WalkO q loose XP YP l.row.toRowW d [] (λf vs=>PySem.call f vs):=by
 intro w s₀ s₁ mg mb G Y fa o pm cd doc dV kV ho hd hcd hD hmg hg args vals as hpre hlay hrd hwl hlo;obtain rfl:dV = .none:=Dflts.none hD hdf;obtain rfl:kV = .none:=Dflts.noKw hD;obtain⟨a,vs,ns,rfl,rfl,hobj,hints,hlen⟩:=Za hn hpre hwl;refine enter_call (A4G (call w s₀ s₁ mg mb fa o pm cd doc a vs ns G Y ho (fd_plain hd) hcd hmg hobj hints hlen hg) λr s' hq=>?_);obtain⟨rfl,h2,h3,h4⟩:=hq;exact⟨.inl ⟨.bool true,.bool true,[],rfl,λ_=>rfl,.bool true,Y4 l _,λ_=>⟨List.Pairwise.nil,λ_ hm=>(nomatch hm)⟩⟩,h2,h3,h4⟩
section
variable {prog:Program}{w:World}{A:Around}{E:Value->Shared->Prop}{s:Shared}{K:Frag}
end
end Att
namespace L2
open PySem PySem.Spec PyProof.Rows
theorem R6:∀ {vs:List Value} {ns:List Int},IntsAre vs ns->Vals (ns.map V.int) vs
 |_,_,.nil=>.nil
 |_,_,.cons n t h=>.cons ⟨t,rfl⟩ (R6 h)
def aj2 (s:Stmt)(j:Nat):Stmt:=match s with
 |.ClassDef _ _ _ body _ _ _ _ _ _ _=>body.getD j (.Pass ⟨0,0,0,0⟩)
 |_=>.Pass ⟨0,0,0,0⟩
def Am (s:Stmt):Arguments:=match s with
 |.FunctionDef _ a _ _ _ _ _ _ _ _=>a
 |_=>{posonlyargs:=[],args:=[],vararg:=none,kwonlyargs:=[],kw_defaults:=[],kwarg:=none,defaults:=[]}
def Ai (s:Stmt):List Stmt:=match s with
 |.FunctionDef _ _ b _ _ _ _ _ _ _=>b
 |_=>[]
def A5 (s:Stmt):Scope:=match s with
 |.FunctionDef _ _ _ _ _ _ sc _ _ _=>sc
 |_=>{kind:=.function,names:=[],isGenerator:=false,isCoroutine:=false}
abbrev CX0:CXT:=λ_ _ _ _ _ _=>False
abbrev E0:XK:=λ_ _ _=>False
theorem ay3 {X:Cx}:Lg CX0 X E0:=λ_ _ _ _ _ _ _ h=>h.elim
structure Fun (K:W.Frag)(x qual:Str)(st:Stmt)(f:Addr)(fd:FuncData):Prop where
 ex:∃(oc:Value) (od:Option Addr) (kV doc pm:Value) (an:Option Addr) (cdv ct:Value) (osl:Array (Option Value)),
  fd=W.fnOf x qual (Am st) (Ai st) (A5 st) .none kV doc pm an cdv ct/\K.lookup f=some ⟨oc,od,.func fd,osl⟩/\W.codeIn K cdv qual=true
 kp:W.keepIn K (.ref f)=true
section
variable {P:Program}{w:World}{K:W.Frag}{mg:Str->Option Value}{base:Heap}
theorem Fun.ok {x qual:Str}{st:Stmt}{f:Addr}{fd:FuncData}{N ps:List Str}{k:Nat}{sp:Sp}(F:Fun K x qual st f fd)(S:Ar N ps (A5 st))(len:∀ vs H Q E,sp vs H Q E->vs.length=ps.length)
  (hbody:∀(cdv:Value) (A:Around) (outer:List Env) (s:Shared) (H:Hp) (vs:List V) (Q:VK) (E:XK),Room k (A.deeper (envOfC qual (A5 st) s.heap.objs.size f cdv))->sp vs H Q E ->
   ∃ t,PSs (Vw CX0 P w K mg base N qual (A5 st) f cdv A outer s H E).nox (Ai st) t/\t {nx:=λ_ H'=>Q .non H',rt:=Q} (start N vs) H):FnOk P w K mg base CX0 (k+1) f fd ps sp:=by
 obtain⟨oc,od,kV,doc,pm,an,cdv,ct,osl,rfl,lk,hcd⟩:=F.ex;refine aj3 lk hcd S len λA outer s H vs Q E hr hsp=>?_;obtain⟨t,h,q⟩:=hbody cdv A outer s H vs Q E hr hsp;exact⟨t,h.nox,q⟩
theorem Fun.binds {x qual:Str}{st:Stmt}{f:Addr}{fd:FuncData}{ps:List Str}(F:Fun K x qual st f fd)
  (h:∀(kV doc pm:Value) (an:Option Addr) (cdv ct:Value) (us:List Value),us.length=ps.length->bindArgs (W.fnOf x qual (Am st) (Ai st) (A5 st) .none kV doc pm an cdv ct) ⟨us,[]⟩=pure (ps.zip us)):Binds K fd ps []:=by
 obtain⟨oc,od,kV,doc,pm,an,cdv,ct,osl,rfl,lk,hcd⟩:=F.ex;exact .all (h kV doc pm an cdv ct)
theorem B8 {x qual:Str}{st:Stmt}{f:Addr}{oc:Value}{od an:Option Addr}{osl:Array (Option Value)}{kV doc pm cdv ct:Value}(l:K.lookup f=some ⟨oc,od,.func (W.fnOf x qual (Am st) (Ai st) (A5 st) .none kV doc pm an cdv ct),osl⟩)
  (c:W.codeIn K cdv qual=true) (k:W.keepIn K (.ref f)=true):Fun K x qual st f (W.fnOf x qual (Am st) (Ai st) (A5 st) .none kV doc pm an cdv ct):=⟨⟨oc,od,kV,doc,pm,an,cdv,ct,osl,rfl,l,c⟩,k⟩
end
theorem Cs {A:Around}{k:Nat}(hr:Room k A):A.units+1<cLine:=Nat.lt_of_le_of_lt (Nat.add_le_add_left (by decide:1<=64) _) hr.units
theorem Wk {n:Nat}(h:n<=1000):n<sizeLine:=Nat.lt_of_le_of_lt h nofun
section
variable {X:Cx}
theorem pv (i:Nat){x:Str}{pos:Pos}(hN:X.N[i]? = some x:=by ac_nf)(hv:Vis X.env.scope x:=by with_unfolding_all first | exact Or.inl rfl | exact A3P (Or.inl rfl) | exact A3P (A3P rfl))(hd:(x==("__debug__":Str))=false:=by decide)
  (hcd:(x==("__classdict__":Str))=false:=by decide):PE X (.Name x pos) (aw9 i):=al7 hN hv hd hcd
end
theorem iteF {A B:Prop}(h:B):if false=true then A else B:=by rw[A13 A0I];exact h
theorem iteT {A B:Prop}(h:A):if true=true then A else B:=by rw[A12 rfl];exact h
theorem aA4 {c A B:Prop}[Decidable c](h1:c->A)(h2:¬ c->B):if c then A else B:=by
 by_cases h:c
 . rw[A12 h];exact h1 h
 rw[A13 h];exact h2 h
def Same (H H':Hp):Prop:=∀ b o,H b=some o->H' b=some o
theorem Same.refl (H:Hp):Same H H:=λ_ _ h=>h
theorem Same.trans {H H1 H2:Hp} (a:Same H H1) (b:Same H1 H2):Same H H2:=λc o h=>b c o (a c o h)
theorem Same.free {H H':Hp}(e:Same H H'){l:Addr}(h:H' l=Option.none):H l=Option.none:=by
 cases q:H l with
 |none=>rfl
 |some o=>
   rw[e l o q] at h
   cases h
theorem Same.seq {K:W.Frag}{H H':Hp}{a:Addr}{xs:List V}(e:Same H H')(h:SqL K H a xs):SqL K H' a xs:=by
 rcases h with (h|⟨o,h⟩)|h
 . exact .inl (.inl (e _ _ h))
 . exact .inl (.inr ⟨o,e _ _ h⟩)
 exact .inr h
section
variable {X:Cx}
theorem Xg:CallR X (.builtin "len") (λxs H Q=>∃ a kvs,xs=[V.ref a]/\H a=some (.dK kvs)/\Q (.int kvs.length) H):=by
 intro pins s σ H xs us Q I r h;obtain⟨a,kvs,rfl,ha,q⟩:=h;obtain⟨u,rfl,ru⟩:=Ms r
 cases ru;exact ax1 I (.inl ha) λt s' I'=>⟨.int kvs.length,H,I',⟨t,rfl⟩,q⟩
end
section
variable {κ:Type}[DecidableEq κ]
end
def Jk (env:Env)(names:List (Str×NameKind))(acc:List (Str×Addr)):List (Str×Addr):=
 names.foldl (λacc y=>if y.2==NameKind.free then(y.1,(env.cells.lookup y.1).getD 0) :: acc else acc) acc
theorem Ib {env:Env}{scope:Scope}(h:∀ y∈scope.names,y.2=NameKind.free->∃ c,env.cells.lookup y.1=some c):closureFor scope env=pure (Jk env scope.names []):=by
 have all:∀(names:List (Str×NameKind)) (acc:List (Str×Addr)),(∀ y∈names,y.2=NameKind.free->∃ c,env.cells.lookup y.1=some c) ->
   (forIn names acc λ(y:Str×NameKind) (cs:List (Str×Addr))=>(match y with
    | (name,kind)=>if(kind==NameKind.free)=true then do let c <- cellOf env name;pure (ForInStep.yield ((name,c) :: cs)) else pure (ForInStep.yield cs):Sem (ForInStep (List (Str×Addr)))))=(pure (Jk env names acc):Sem (List (Str×Addr))):=by
  intro names
  induction names with
  |nil=>intro acc _;rfl
  |cons y r ih=>
    intro acc hy;obtain⟨n,k⟩:=y;rw[List.forIn_cons]
    by_cases hk:k=NameKind.free
    . subst hk;obtain⟨c,hc⟩:=hy (n,.free) A0C rfl;have e:cellOf env n=pure c:=by unfold cellOf;rw[show env.cells.lookup n=some c from hc]
      have e2:Jk env ((n,NameKind.free) :: r) acc=Jk env r ((n,c) :: acc):=by unfold Jk;rw[A4I];simp only[beq_self_eq_true,if_true];rw[show env.cells.lookup n=some c from hc];rfl
      rw[e2,<- ih ((n,c) :: acc) λz hz=>hy z (A08 _ hz)];simp only[beq_self_eq_true,if_true,e];rfl
    have hb:(k==NameKind.free)=false:=by simpa using hk
    have e2:Jk env ((n,k) :: r) acc=Jk env r acc:=by unfold Jk;rw[A4I];simp only[hb,Bool.false_eq_true,if_false]
    rw[e2,<- ih acc λz hz=>hy z (A08 _ hz)];simp only[hb,Bool.false_eq_true,if_false];rfl
 have q:=all scope.names [] h;unfold closureFor
 first
  |exact q
  | (simp only[bind_pure];exact q)
  | (refine Eq.trans ?_ q;rfl)
theorem Tg {env:Env}{x:Str}{c:Addr}:∀ {names:List (Str×NameKind)} {acc:List (Str×Addr)},(∀ y∈names,y.2=NameKind.free->∃ c,env.cells.lookup y.1=some c)->(acc.lookup x=some c->env.cells.lookup x=some c) ->
  (Jk env names acc).lookup x=some c->env.cells.lookup x=some c
 | [],acc,_,ha,h=>ha h
 | (n,k) :: r,acc,hn,ha,h=>by
   have e:Jk env ((n,k) :: r) acc=Jk env r (if k==NameKind.free then(n,(env.cells.lookup n).getD 0) :: acc else acc):=rfl
   rw[e] at h;refine Tg (λy hy=>hn y (A08 _ hy)) (λq=>?_) h
   by_cases hk:k=NameKind.free
   . subst hk;simp only[beq_self_eq_true,if_true,List.lookup_cons] at q;obtain⟨d,hd⟩:=hn (n,.free) A0C rfl;have hd':env.cells.lookup n=some d:=hd
     split at q
     . rename_i hx;have hx':x=n:=A25.mp hx;rw[hd'] at q;rw[hx',hd'];exact q
     exact ha q
   have hb:(k==NameKind.free)=false:=by simpa using hk
   simp only[hb,Bool.false_eq_true,if_false] at q;exact ha q
theorem Nv {env:Env}{x:Str}:∀ {names:List (Str×NameKind)} {acc:List (Str×Addr)},((∃ c,acc.lookup x=some c)\/(x,NameKind.free)∈names)->∃ c,(Jk env names acc).lookup x=some c
 | [],acc,h=>by
   rcases h with h|h
   . exact h
   cases h
 | (n,k) :: r,acc,h=>by
   have e:Jk env ((n,k) :: r) acc=Jk env r (if k==NameKind.free then(n,(env.cells.lookup n).getD 0) :: acc else acc):=rfl
   rw[e];refine Nv ?_
   by_cases hk:k=NameKind.free
   . subst hk;simp only[beq_self_eq_true,if_true,List.lookup_cons]
     by_cases hx:x=n
     . left;have hb:(x==n)=true:=A25.mpr hx;rw[hb];exact⟨_,rfl⟩
     have hb:(x==n)=false:=A0W.mpr hx;rw[hb];rcases h with h|h
     . exact .inl h
     rcases A0H.mp h with q|q
     . cases q;exact absurd rfl hx
     exact .inr q
   have hb:(k==NameKind.free)=false:=by simpa using hk
   simp only[hb,Bool.false_eq_true,if_false];rcases h with h|h
   . exact .inl h
   rcases A0H.mp h with q|q
   . cases q;exact absurd rfl hk
   exact .inr q
theorem Dt:∀(names:List (Str×NameKind)) (n:Nat) (acc:List (Str×Addr)),cellsFrom n names acc=cellsFrom n names []++acc
 | [],_,_=>rfl
 | (x,k) :: r,n,acc=>by
   unfold cellsFrom
   split
   . rw[Dt r (n+1) ((x,n) :: acc),Dt r (n+1) [(x,n)],A2N];rfl
   exact Dt r n acc
theorem K4 {x:Str}{c:Addr}:∀ {names:List (Str×NameKind)} {n:Nat},(x,c)∈cellsFrom n names []->(x,NameKind.cell)∈names
 | [],_,h=>by cases h
 | (y,k) :: r,n,h=>by
   unfold cellsFrom at h
   split at h
   . rename_i hk;rw[Dt] at h;rcases A0E.mp h with h|h
     . exact A08 _ (K4 h)
     have e:=A0G.mp h
     cases e;rw[A25.mp hk];exact A0C
   exact A08 _ (K4 h)
theorem M8 {α:Type}{x:Str}{c:α}:∀ {l:List (Str×α)},(x,c)∈l->∃ d,l.lookup x=some d
 | [],h=>by cases h
 | (y, d) :: r,h=>by
   rw[A1K]
   cases e:x==y with
   |true=>exact⟨d,rfl⟩
   |false=>
     rcases A0H.mp h with q|q
     . cases q;simp at e
     exact M8 q
theorem Jp {x:Str}:∀ {names:List (Str×NameKind)} {n:Nat},(x,NameKind.cell)∈names->∃ c,(x,c)∈cellsFrom n names []
 | [],_,h=>by cases h
 | (y,k) :: r,n,h=>by
   unfold cellsFrom
   split
   . rw[Dt];rcases A0H.mp h with q|q
     . cases q;exact⟨n,List.mem_append_right _ (by simp)⟩
     obtain⟨c,hc⟩:=Jp (n:=n+1) q;exact⟨c,A0T _ hc⟩
   rename_i hk;rcases A0H.mp h with q|q
   . cases q;exact absurd rfl hk
   exact Jp q
def Uz (outer scope:Scope)(xs fr:List Str):Bool:=
 (scope.kind == .function)&&(outer.kind == .function)&&decide (scope.names.map (·.1)).Nodup
 && (scope.names.all λy=>y.2 != .local||scope.names.lookup y.1==some .local)
 && (scope.names.all λy=>y.2 != .free||(outer.names.lookup y.1==some .cell||outer.names.lookup y.1==some .free))
 && (scope.names.all λy=>y.2 != .free||scope.names.lookup y.1==some .free)
 && (xs.all λx=>scope.names.lookup x==some .local||scope.names.lookup x==some .cell)&&(fr.all λx=>scope.names.lookup x==some .free)&&decide (xs++fr).Nodup
theorem Dg {α:Type}{x:Str}{v:α}:∀ {l:List (Str×α)},l.lookup x=some v->(x,v)∈l
 | [],h=>by cases h
 | (n,k) :: r,h=>by
   rw[A1K] at h
   split at h
   . rename_i hx;have hx':x=n:=A25.mp hx
     cases h;rw[hx'];exact A0C
   exact A08 _ (Dg h)
theorem Iu {scope:Scope}{env:Env}{x:Str}{k:NameKind}(hk:env.scope.kind = .function):∀ {names:List (Str×NameKind)},names.lookup x=some k ->
  (names.map λ(n,k)=>if(k==NameKind.free&&env.scope.kind == .function&&env.kindOf n==some .cell) then(n,NameKind.cell) else(n,k)).lookup x=some (if(k==NameKind.free&&env.kindOf x==some .cell) then .cell else k)
 | [],h=>by cases h
 | (n,j) :: r,h=>by
   have ih:=@Iu scope env x k hk r;rw[A0Q];rw[A1K] at h;dsimp only
   split at h
   . rename_i hx;have hx':x=n:=A25.mp hx
     cases h;subst hx'
     by_cases hc:(k==NameKind.free&&env.scope.kind == .function&&env.kindOf x==some .cell)=true
     . have hc2:(k==NameKind.free&&env.kindOf x==some .cell)=true:=by rw[A15,A15] at hc;rw[A15];exact⟨hc.1.1,hc.2⟩
       rw[A12 hc,A12 hc2,A1K,A4C]
     have hc2:¬ (k==NameKind.free&&env.kindOf x==some .cell)=true:=λq=>hc (by rw[A15] at q;rw[A15,A15,hk];exact⟨⟨q.1,rfl⟩,q.2⟩)
     rw[A13 hc,A13 hc2,A1K,A4C]
   rename_i hx;have hx':(x==n)=false:=by simpa using hx
   by_cases hc:(j==NameKind.free&&env.scope.kind == .function&&env.kindOf n==some .cell)=true
   . rw[A12 hc,A1K,hx'];exact ih h
   rw[A13 hc,A1K,hx'];exact ih h
theorem Gb {env:Env} {x:Str} {k:NameKind}:∀ {names:List (Str×NameKind)},
  (names.map λ(n,k)=>if(k==NameKind.free&&env.scope.kind == .function&&env.kindOf n==some .cell) then(n,NameKind.cell) else(n,k)).lookup x=some k ->
  ∃ j,names.lookup x=some j/\(k=j\/(j = .free/\k = .cell))
 | [],h=>by cases h
 | (n,j) :: r,h=>by
   have ih:=@Gb env x k r;rw[A0Q] at h;dsimp only at h
   by_cases hc:(j==NameKind.free&&env.scope.kind == .function&&env.kindOf n==some .cell)=true
   . rw[A12 hc,A1K] at h
     have hj:j = .free:=by rw[A15,A15] at hc;exact A25.mp hc.1.1
     rw[A1K]
     split at h
     . rename_i hx
       cases h;exact⟨j,rfl,.inr ⟨hj,rfl⟩⟩
     rename_i hx;have hx':(x==n)=false:=by simpa using hx
     exact ih h
   rw[A13 hc,A1K] at h;rw[A1K]
   split at h
   . rename_i hx
     cases h;exact⟨_,rfl,.inl rfl⟩
   rename_i hx;have hx':(x==n)=false:=by simpa using hx
   exact ih h
structure CompS (X:Cx)(scope:Scope)(xs fr:List Str):Prop where
 kind:scope.kind = .function
 okind:X.env.scope.kind = .function
 uniq:(scope.names.map (·.1)).Nodup
 names:∀ y∈scope.names,y.2 = .local->scope.names.lookup y.1=some .local
 free:∀ y∈scope.names,y.2 = .free->X.env.kindOf y.1=some .cell\/X.env.kindOf y.1=some .free
 own:∀ x∈xs,scope.names.lookup x=some .local\/scope.names.lookup x=some .cell
 fre:∀ x∈fr,scope.names.lookup x=some .free
 nd:(xs++fr).Nodup
theorem Ts {X:Cx}{scope:Scope}{xs fr:List Str}(h:Uz X.env.scope scope xs fr=true):CompS X scope xs fr:=by unfold Uz at h;simp only[Bool.and_eq_true,List.all_eq_true,bne_iff_ne,Bool.or_eq_true,beq_iff_eq,decide_eq_true_eq] at h;obtain⟨⟨⟨⟨⟨⟨⟨⟨h1,h2⟩,h3⟩,h4⟩,h5⟩,h6⟩,h7⟩,h8⟩,h9⟩:=h;exact⟨h1,h2,h3,λy hy e=>(h4 y hy).resolve_left (λq=>q e),λy hy e=>(h5 y hy).resolve_left (λq=>q e),h7,h8,h9⟩
def Mi (σ:St)(js:List Nat):St:=js.map λj=>(σ[j]?).getD none
abbrev cxC (X:Cx)(scope:Scope)(xs fr:List Str)(C:Addr)(ex:List Addr)(s₀:Shared)(H₀:Hp):Cx:=
 {X with N:=xs++fr,env:=compEnvC scope (cellsFrom (C+1) scope.names (Jk X.env scope.names [])) C X.env,s₀:=s₀,H₀:=H₀,outer:=X.stack,ex:=ex,fn:=λx=>scope.names.lookup x==some .cell,pn:=[],xe:=λ_ _=>False}
section
variable {X:Cx}{scope:Scope}{xs fr:List Str}{pins:List (Addr×Obj)}{σ:St}{H:Hp}{s:Shared}{js:List Nat}{fp:List Addr}
theorem Rs {α:Type}{x:Str}{v:α}:∀ {l:List (Str×α)},(l.map (·.1)).Nodup->(x,v)∈l->l.lookup x=some v
 | [],_,h=>by cases h
 | (y,d) :: r,hn,h=>by
   obtain⟨h1,h2⟩:=A19.mp hn;rw[A1K];rcases A0H.mp h with q|q
   . cases q;rw[A4C]
   have hne:(x==y)=false:=A0W.mpr λe=>h1 (e ▸ A0K.mpr ⟨(x,v),q,rfl⟩);rw[hne];exact Rs h2 q
theorem CompS.cells (S:CompS X scope xs fr)(ok:X.Ok):∀ y∈scope.names,y.2=NameKind.free->∃ c,X.env.cells.lookup y.1=some c:=λy hy e=>ok.has _ (S.free y hy e)
theorem a57 (S:CompS X scope xs fr)(hjs:js.map (λj=>X.N[j]?)=fr.map some)(I:Inv X pins σ H s)(hfp:∀ b∈fp,W3 X pins H b)(hob:∀ b∈fp,∃ o,s.heap.get? b=some o){h':Heap}{t':Nat}
  (hn:h'.Ns s.heap.objs.size λ_=>none) (keep:∀ b o,s.heap.get? b=some o->h'.get? b=some o) (hcs:CellsOk h' (s.heap.objs.size+1) (cellsFrom (s.heap.objs.size+1) scope.names [])) :
  Inv (cxC X scope xs fr s.heap.objs.size fp s H) [] (List.replicate xs.length none++Mi σ js) H {s with heap:=h',toks:=t'}:=by
 have hcl:=S.cells I.ok;have sub:∀ x c,(Jk X.env scope.names []).lookup x=some c->X.env.cells.lookup x=some c:=λx c h=>Tg hcl (λq=>by cases q) h;have hl:js.length=fr.length:=by have:=congrArg List.length hjs;rwa[A01,A01] at this
 have two:∀ x c,(cellsFrom (s.heap.objs.size+1) scope.names (Jk X.env scope.names [])).lookup x=some c->(x,c)∈cellsFrom (s.heap.objs.size+1) scope.names []\/(Jk X.env scope.names []).lookup x=some c:=λx c h=>by
  rw[Dt,A3Y] at h
  cases e:(cellsFrom (s.heap.objs.size+1) scope.names []).lookup x with
  |some d=>
    rw[e] at h
    cases h;exact .inl (Dg e)
  |none=>rw[e] at h;exact .inr h
 have oldc:∀ x c,X.env.cells.lookup x=some c->c<s.heap.objs.size:=λx c h=>let ⟨_,_,ho,_⟩:=I.cell x c h;A0D ho;have newc:∀ x c,(x,c)∈cellsFrom (s.heap.objs.size+1) scope.names []->s.heap.objs.size<c:=λx c h=>(hcs.empty x c h).2
 refine⟨⟨I.ok.mod,S.kind,I.ok.glob,I.ok.blt,A06 _,λx y c h1 h2=>?_,λx hx=>?_,λx c hf h=>?_,I.ok.hd,I.ok.frames,.inl rfl,λb hb=>?_,λb o e=>I.bs b o e,A0L I.ok.bsz I.sz,λb o e hb=>?_,λb hb hb2=>?_,I.stack,I.stkFree⟩,
  rfl,I.bare,Un.kept keep,⟨_,hn,λi x v e1 e2 e3=>?_⟩,λx c h=>?_,I.hok.fresh (Nat.le_refl _),λx c h=>?_,λp hp=>absurd (show p∈([]:List (Addr×Obj)) from hp) (by simp),I.hok.kept keep,?_⟩
 . rcases two x c h1 with g1|g1
   . rcases two y c h2 with g2|g2
     . exact name_of_addr hcs.apart g1 g2
     exact absurd (oldc y c (sub y c g2)) (Nat.not_lt.mpr (A28 (newc x c g1)))
   rcases two y c h2 with g2|g2
   . exact absurd (oldc x c (sub x c g1)) (Nat.not_lt.mpr (A28 (newc y c g2)))
   exact I.ok.inj x y c (sub x c g1) (sub y c g2)
 . -- the names that are cells there have one
   have hx:(relabel scope X.env).names.lookup x=some .cell\/(relabel scope X.env).names.lookup x=some .free:=hx
   have app:∀ c,(Jk X.env scope.names []).lookup x=some c\/(x,c)∈cellsFrom (s.heap.objs.size+1) scope.names []->∃ c,(cellsFrom (s.heap.objs.size+1) scope.names (Jk X.env scope.names [])).lookup x=some c:=λc h=>by
    rw[Dt,A3Y];rcases h with h|h
    . cases (cellsFrom (s.heap.objs.size+1) scope.names []).lookup x with
      |some d=>exact⟨d,rfl⟩
      |none=>exact⟨c,h⟩
    obtain⟨d,hd⟩:=M8 h;rw[hd];exact⟨d,rfl⟩
   have go:∀ k,(relabel scope X.env).names.lookup x=some k->(k = .cell\/k = .free)->∃ c,(cellsFrom (s.heap.objs.size+1) scope.names (Jk X.env scope.names [])).lookup x=some c:=λk e hk=>by
    obtain⟨j,hj,q⟩:=Gb (env:=X.env) (names:=scope.names) e;have hm:=Dg hj
    have hjf:j = .free\/j = .cell:=by
     rcases q with q|q
     . rcases hk with hk|hk
       . exact .inr (q ▸ hk)
       exact .inl (q ▸ hk)
     exact .inl q.1
    rcases hjf with hjf|hjf
    . subst hjf;obtain⟨c,hc⟩:=Nv (env:=X.env) (x:=x) (names:=scope.names) (acc:=[]) (.inr hm);exact app c (.inl hc)
    subst hjf;obtain⟨c,hc⟩:=Jp (n:=s.heap.objs.size+1) hm;exact app c (.inr hc)
   rcases hx with hx|hx
   . exact go _ hx (.inl rfl)
   exact go _ hx (.inr rfl)
 . rcases two x c h with g|g
   . exact A28 (newc x c g)
   have hf':scope.names.lookup x=some .cell:=by simpa using hf
   obtain⟨d,hd⟩:=Jp (n:=s.heap.objs.size+1) (Dg hf');have h':=h;obtain⟨e,he⟩:=M8 hd;have h':(cellsFrom (s.heap.objs.size+1) scope.names (Jk X.env scope.names [])).lookup x=some c:=h;rw[Dt,A3Y,he] at h'
   cases h';exact A28 (newc x _ (Dg he))
 . obtain⟨f0,f1,f2,f3,f4,f5⟩:=hfp b hb;obtain⟨o,ho⟩:=hob b hb;refine⟨A10 (A0D ho),λx c h z=>?_⟩;rcases two x c h with g|g
   . have h1:=newc x c g;have h2:=A0D ho;rw[<- z] at h2;exact absurd h1 (Nat.not_lt.mpr (A28 h2))
   exact f4 x c (sub x c g) z
 . obtain⟨f0,f1,f2,f3,f4,f5⟩:=hfp b hb;rcases f3 with f3|f3
   . exact I.ok.noex b o e f3
   exact absurd (A0S (A0D (I.ok.bs b o e).1) f3) (A1O _)
 . obtain⟨f0,f1,f2,f3,f4,f5⟩:=hfp b hb;rcases A0H.mp (I.stkSub b hb2) with z|z
   . exact f1 z
   exact f2 z
 . have e1:(xs++fr)[i]? = some x:=e1
   by_cases hi:i<xs.length
   . rw[A2Q (by rw[A29];exact hi),A49,A12 hi] at e2
     cases e2
   have hi':xs.length<=i:=Nat.le_of_not_lt hi;rw[A3T hi'] at e1;rw[A3T (by rw[A29];exact hi'),A29] at e2;unfold Mi at e2;rw[A09] at e2
   cases ej:js[i-xs.length]? with
   |none=>rw[ej] at e2;cases e2
   |some j=>
     rw[ej] at e2;have e2':(σ[j]?).getD none=some v:=A0Z e2
     have e4:σ[j]? = some (some v):=by
      cases q:σ[j]? with
      |none=>rw[q] at e2';cases e2'
      |some o=>rw[q] at e2';rw[show o=some v from e2']
     have e5:X.N[j]? = some x:=by have:=congrArg (λl=>l[i-xs.length]?) hjs;rw[A09,A09,ej,e1] at this;exact A0Z this
     have hf:=S.fre x (A0B e1);have hk:=S.free _ (Dg hf) rfl;obtain⟨m,hm,hl'⟩:=I.loc;obtain⟨u,r,lk⟩:=hl' j x v e5 e4 (.inr hk);refine⟨u,r,.inr ⟨?_,?_⟩⟩
     . have q:=Iu (scope:=scope) (env:=X.env) S.okind hf;show(relabel scope X.env).names.lookup x=some .cell\/(relabel scope X.env).names.lookup x=some .free;have q':(relabel scope X.env).names.lookup x=some (if(NameKind.free==NameKind.free&&X.env.kindOf x==some .cell) then .cell else .free):=q
       by_cases hc:(NameKind.free==NameKind.free&&X.env.kindOf x==some .cell)=true
       . rw[A12 hc] at q';exact .inl q'
       rw[A13 hc] at q';exact .inr q'
     obtain⟨c',hc'⟩:=Nv (env:=X.env) (x:=x) (names:=scope.names) (acc:=[]) (.inr (Dg hf));rcases lk with ⟨z,_⟩|⟨_,c,hc,ob,ho,hd⟩
     . rcases hk with hk|hk
       . rw[z] at hk;cases hk
       rw[z] at hk;cases hk
     have e6:c=c':=by have:=sub x c' hc';rw[hc] at this;exact A0Z this
     subst e6;refine⟨_,?_,ob,keep _ _ ho,hd⟩;show(cellsFrom (s.heap.objs.size+1) scope.names (Jk X.env scope.names [])).lookup x=some c;rw [Dt,A3Y]
     have none':(cellsFrom (s.heap.objs.size+1) scope.names []).lookup x=none:=by
      cases e:(cellsFrom (s.heap.objs.size+1) scope.names []).lookup x with
      |none=>rfl
      |some d=>
        have:=Rs S.uniq (K4 (Dg e));rw[hf] at this
        cases this
     rw[none'];exact hc'
 . rcases two x c h with g|g
   . exact⟨_,(hcs.empty x c g).1⟩
   obtain⟨v,ob,ho,hd⟩:=I.cell x c (sub x c g);exact⟨v,ob,keep _ _ ho,hd⟩
 . rcases two x c h with g|g
   . exact I.hok.fresh (A28 (newc x c g))
   exact I.freeC x c (sub x c g)
 show _=(xs++fr).length;unfold Mi;rw[A04,A04,A29,A01,hl]
theorem Xe {M:Model}{A:Around}{E:Value->Shared->Prop}{s:Shared}{scope:Scope}{globals:Addr}{cl:List (Str×Addr)}{qual:Str}{env:Env}{Q:Env->Shared->Prop}
  (hQ:∀ h',h'.Ns s.heap.objs.size (λ_=>none)->(∀ b o,s.heap.get? b=some o->h'.get? b=some o)->CellsOk h' (s.heap.objs.size+1) (cellsFrom (s.heap.objs.size+1) scope.names []) ->
   Q (newEnv scope s.heap.objs.size globals (cellsFrom (s.heap.objs.size+1) scope.names cl) qual none .none (some env) builtinsNs) {s with heap:=h'}) :
  wpAny M A (newFunctionEnv scope globals cl [] qual none .none (some env)) Q E s:=by
 simp only[newFunctionEnv,Option.isSome_some,if_true];refine A00 (wpAny_alloc ?_);refine wpAny_bind (wpAny_layCells _ (λname kind cells=>by cases hkc:kind==NameKind.cell<;>simp[hkc]) _ _ _ _ ?_)
 have okc:=cellsFrom_ok scope.names (s.heap.push {cls:=.type "dict",data:=.dict #[]}) (s.heap.objs.size+1) [] ⟨λ_ _ hm=>(nomatch hm),List.Pairwise.nil⟩ (by rw[A41];exact A06 _);rw[A41] at okc;rw[show({s with heap:=s.heap.push {cls:=.type "dict",data:=.dict #[]}}:Shared).heap.objs.size=s.heap.objs.size+1 from A41 ..]
 rw[List.forIn_nil];exact A00 (A05 (A05 (hQ _ ((Heap.Ns.new s.heap (.type "dict")).keeps (pushCells_keeps _ _)) (λb o e=>pushCells_keeps _ _ b o (A02 _ e)) okc)))
theorem Ws {σ':St}{H':Hp}{s':Shared}{h'':Heap}(I:Inv X pins σ H s)(hfp:∀ b∈fp,W3 X pins H b)(J:Inv (cxC X scope xs fr s.heap.objs.size fp s H) [] σ' H' s')(hs:Heap.SameBut s.heap.objs.size s'.heap h'') :
  Inv X pins σ H' {s' with heap:=h''}:=by
 have old:∀ b o,s.heap.get? b=some o->b≠s.heap.objs.size:=λb o e=>A10 (A0D e);have ub:Un (frs X.stack) fp H H' s.heap s'.heap:=J.base;refine I.call' (s':={s' with heap:=h''}) (ch:=fp) J.os ⟨λb o e n hb hx=>(hs.2 b (old b o e)).trans (ub.keep b o e n hb hx),λb o e n hb hx=>?_,ub.free,λb o e hx=>?_,ub.tups,ub.frzs,ub.tbls⟩ (λb o e=>?_) J.bare λb hb=>?_
 . obtain⟨sl,e1⟩:=ub.slot b o e n hb hx;exact⟨sl,(hs.2 b (old b o e)).trans e1⟩
 . obtain⟨o',e1⟩:=ub.there b o e hx;exact⟨o',(hs.2 b (old b o e)).trans e1⟩
 . have hf:H' s.heap.objs.size=none:=J.free;refine(J.hok b o e).stay (λc v hc q=>(hs.2 c ?_).trans q) (λ_ q=>q) λ_ _ q=>q;intro z;rcases hc with hc|hc
   . rw[<- hc,z,hf] at e;cases e
   rw[z,hf] at hc;cases hc
 obtain⟨f0,f1,f2,f3,f4,f5⟩:=hfp b hb;exact⟨f3,f1,f4,f5⟩
def PIf (X:Cx)(ifs:List Expr)(t:TT):Prop:=
 ∀(pins:List (Addr×Obj)) (s:Shared) (σ:St) (H:Hp) (Q:Bool->Hp->Prop) (E:Value->Shared->Prop),(∀ e s',X.xe e s'->E e s')->Inv X pins σ H s->t σ H Q ->
  wpAny (model X.prog X.w) X.A (forIn ifs true λc r=>if r=true then do let ok <- isTrue c X.env (eval c X.env);pure (ForInStep.yield ok) else pure (ForInStep.yield r)) (TP X pins σ Q) E s
def ad7:TT:=λ_ H Q=>Q true H
theorem Gu:PIf X [] ad7:=λ_ _ _ H _ _ _ I h=>wpAny_tests_nil ⟨H,I,h⟩
theorem Hq {c:Expr}{t:TT}(hc:PT X c t):PIf X [c] t:=λpins s σ H Q _ hE I h=>wpAny_tests_one (A1P (hc pins s σ H Q I h) (λ_ _ z=>z) hE)
def ae4 (k:Nat)(js:List Nat)(wi:TI)(g:TG)(tt:TT)(te:TE):TE:=fun σ H Q=>wi σ H λJ H1=>∀ p,H1 p=none ->
 ∃ W:Nat->Nat->Hp->Prop,(∃ m,W 0 m (upd H1 p (.lst [])))/\∀ i m H,W i m H ->
  (J.stop i H/\Q (.ref p) H)\/(J.go i H/\∃ N:Hp->Prop,(∀ H',N H'->∃ m',m'<m/\W (i+1) m' H') /\
   ∀ x H',J.yld i H x H'->g x (List.replicate k none++Mi σ js) H' fun σ2 H2=>tt σ2 H2 λb H3=>if b=true then te σ2 H3 λy H4=>∃ acc,H4 p=some (.lst acc)/\acc.length<sizeLine/\N (upd H4 p (.lst (acc++[y]))) else N H3)
theorem Zv {tg elt iter:Expr}{ifs:List Expr}{pos:Pos}{it acc:Value}{env:Env}{A:Around}{R:Result->Shared->Prop}{s:Shared}{P:Program}{w:World}(I:Nat->Shared->Prop)
  (turn:∀ n s,I n s->wpAny (model P w) A (pyNext it) (λr s₁=>match r with
   |none=>R (.ok .next) s₁
   |some v=>wpAny (model P w) A (letOwnedTupleGo tg it v) (λ_ s₁'=>wpAny (model P w) A (assign tg env v) (λ_ s₂=>
     wpAny (model P w) A (forIn ifs true λc r=>if r=true then do let ok <- isTrue c env (eval c env);pure (ForInStep.yield ok) else pure (ForInStep.yield r)) (λok s₃=>
      if ok=true then wpAny (model P w) A (eval elt env) (λx s₄=>wpAny (model P w) A (call (.builtin "list.append") [acc,x]) (λ_ s₅=>∃ m,m<n/\I m s₅) (λ_ _=>False) s₄) (λ_ _=>False) s₃
      else ∃ m,m<n/\I m s₃) (λ_ _=>False) s₂) (λ_ _=>False) s₁') (λ_ _=>False) s₁) (λ_ _=>False) s)
  (n:Nat) (h:I n s):codeAny (model P w) A (.compLoop (.ListComp elt [⟨tg,iter,ifs,0⟩] scope pos) 0 it acc env) R s:=by
 refine codeAny_loop rfl I (λn s hI=>?_) n h;show wpAny _ A ((compTurn (.ListComp elt [⟨tg,iter,ifs,0⟩] scope pos) 0 it acc env).onRaise (λx=>do noteFrame x env;theTreesLotGoes x)) _ _ s
 refine wpAny_noted ?_;rw [compTurn_list];refine A00 (A4Z (A00 (A1P (turn n s hI) (λr s₁ h₁=>?_) λ_ _ h'=>h'.elim)))
 cases r with
 |none=>exact A05 h₁
 |some v=>
   refine A00 (A1P h₁ (λ_ s₁' h₁'=>?_) λ_ _ h'=>h'.elim);refine A00 (A1P h₁' (λ_ s₂ h₂=>A00 (A1P h₂ (λok s₃ h₃=>?_) λ_ _ h'=>h'.elim)) λ_ _ h'=>h'.elim)
   cases ok with
   |false=>exact A05 ⟨rfl,h₃⟩
   |true=>exact A00 (A00 (A1P h₃ (λx s₄ h₄=>A00 (A1P h₄ (λ_ s₅ h₅=>A05 (A05 ⟨rfl,h₅⟩)) λ_ _ h'=>h'.elim)) λ_ _ h'=>h'.elim))
def X7 (n:Nat)(g:TG):Prop:=∀ x σ H Q,g x σ H Q->g x σ H fun σ' H'=>(∀ k,n<=k->σ'[k]? = σ[k]?)/\Q σ' H'
def Ua (n:Nat)(g:TGs):Prop:=∀ vs σ H Q,g vs σ H Q->g vs σ H fun σ' H'=>(∀ k,n<=k->σ'[k]? = σ[k]?)/\Q σ' H'
theorem Ct {n i:Nat}(h:i<n):X7 n (Lp i):=λx σ H Q q=>⟨λk hk=>A20 ∅,q⟩
theorem ao4 {n:Nat}:Ua n aw1:=λvs σ H Q ⟨e,q⟩=>⟨e,λ_ _=>rfl,q⟩
theorem Yd {n i:Nat}{u:TGs}(h:i<n)(hu:Ua n u):Ua n (Wc (Lp i) u):=λvs σ H Q ⟨v,r,e,q⟩=>by
 refine⟨v,r,e,?_⟩;have q':u r (σ.set i (some v)) H Q:=q;show u r (σ.set i (some v)) H _;have z:=hu _ _ _ _ q'
 have e2:(λ(σ':St) (H':Hp)=>(∀ k,n<=k->σ'[k]? = (σ.set i (some v))[k]?)/\Q σ' H')=fun σ' H'=>(∀ k,n<=k->σ'[k]? = σ[k]?)/\Q σ' H':=by
  funext σ' H'
  have e3:(∀ k,n<=k->σ'[k]? = (σ.set i (some v))[k]?) = ∀ k,n<=k->σ'[k]? = σ[k]?:=by
   refine propext ⟨λf k hk=>?_,λf k hk=>?_⟩
   . rw[f k hk,A20 ∅]
   rw[f k hk,A20 ∅]
  rw[e3]
 rw[e2] at z;exact z
theorem ap4 {K:W.Frag}{n m:Nat}{u:TGs}(hu:Ua n u):X7 n (ar4 K m u):=λx σ H Q ⟨a,xs,e,hq,hl,q⟩=>⟨a,xs,e,hq,hl,hu _ _ _ _ q⟩
theorem Ux {tg elt iter:Expr}{ifs:List Expr}{pos:Pos}{g:TG}{tt:TT}{te:TE}(hc:X.calm=true)(S:CompS X scope xs fr)(hjs:js.map (λj=>X.N[j]?)=fr.map some)
  (hg:∀ C ex s₀ H₀,PG (cxC X scope xs fr C ex s₀ H₀) tg g) (hk:X7 xs.length g) (hi:∀ C ex s₀ H₀,PIf (cxC X scope xs fr C ex s₀ H₀) ifs tt) (he:∀ C ex s₀ H₀,PE (cxC X scope xs fr C ex s₀ H₀) elt te)
  {s2:Shared} {H1:Hp} {R:Value->Addr->Result->Shared->Prop} {Q:VK} {it:Addr} {tn:Nat->Heap->Prop} {J:It} (I:Inv X pins σ H1 s2) (T:a85 X.prog X.w X.K tg J fp it tn) (st:tn 0 s2.heap) (hfp:∀ b∈fp,W3 X pins H1 b)
  (hq:∀ p,H1 p=none->∃ W:Nat->Nat->Hp->Prop,(∃ m,W 0 m (upd H1 p (.lst [])))/\∀ i m H,W i m H ->
   (J.stop i H/\Q (.ref p) H)\/(J.go i H/\∃ N:Hp->Prop,(∀ H',N H'->∃ m',m'<m/\W (i+1) m' H') /\
    ∀ x H',J.yld i H x H'->g x (List.replicate xs.length none++Mi σ js) H' fun σ2 H2=>tt σ2 H2 λb H3=>if b=true then te σ2 H3 λy H4=>∃ acc,H4 p=some (.lst acc)/\acc.length<sizeLine/\N (upd H4 p (.lst (acc++[y]))) else N H3))
  (hR:∀(p C:Addr) (s':Shared) (H':Hp),(∃ m,s'.heap.Ns C m)->W3 X pins H' C->Inv X pins σ H' s'->Q (.ref p) H'->R (.ref p) C (.ok .next) s') :
  wpAny (model X.prog X.w) X.A (newList []) (λacc s₃=>wpAny (model X.prog X.w) X.A (newFunctionEnv scope X.env.globals (Jk X.env scope.names []) [] X.env.qual none .none (some X.env)) (λcenv s₄=>
   codeAny (model X.prog X.w) X.A (.compStart (.ListComp elt [⟨tg,iter,ifs,0⟩] scope pos) 0 (.ref it) acc {cenv with scope:=relabel scope X.env}) (R acc cenv.locals) s₄) X.xe s₃) X.xe s2:=by
 refine A1D ?_ (by show 0<=sizeLine;exact A2H _);have hn0:H1 s2.heap.objs.size=none:=I.hok.fresh (A06 _);have I3:Inv X pins σ (upd H1 s2.heap.objs.size (.lst [])) {s2 with heap:=s2.heap.push {cls:=.type "list",data:=.seq ([]:List Value).toArray}}:=I.laid (t':=s2.toks) (λb u e=>A02 _ e) (A06 _) ⟨A2H _,[],0,.nil,A0O _ rfl⟩
 obtain⟨W,⟨m0,w0⟩,turn⟩:=hq _ hn0;have hob:∀ b∈fp,∃ o,s2.heap.get? b=some o:=λb hb=>let ⟨o,e,_⟩:=T.obj _ _ st b hb;⟨o,e⟩
 have hfp3:∀ b∈fp,W3 X pins (upd H1 s2.heap.objs.size (.lst [])) b:=λb hb=>by obtain⟨f0,f⟩:=hfp b hb;obtain⟨o,e⟩:=hob b hb;exact⟨by rw[Ag (A10 (A0D e))];exact f0,f⟩
 have hob3:∀ b∈fp,∃ o,(s2.heap.push {cls:=.type "list",data:=.seq ([]:List Value).toArray}).get? b=some o:=λb hb=>let ⟨o,e⟩:=hob b hb;⟨o,A02 _ e⟩;have st3:tn 0 (s2.heap.push {cls:=.type "list",data:=.seq ([]:List Value).toArray}):=T.keep _ _ _ st λb _ o e=>A02 _ e;generalize hs3:({s2 with heap:=s2.heap.push {cls:=.type "list",data:=.seq ([]:List Value).toArray}}:Shared)=s3 at I3 ⊢;have st3':tn 0 s3.heap:=by rw[<- hs3];exact st3
 have hob3':∀ b∈fp,∃ o,s3.heap.get? b=some o:=by rw[<- hs3];exact hob3
 generalize hH3:upd H1 s2.heap.objs.size (.lst [])=H3 at I3 hfp3 w0;generalize hp0:s2.heap.objs.size=p0 at turn ⊢;refine Xe λh₁ hns₁ hkp₁ hco₁=>?_;have I4:=a57 (t':=s3.toks) S hjs I3 hfp3 hob3' hns₁ hkp₁ hco₁;have st4:tn 0 h₁:=T.keep _ _ _ st3' λb hb o e=>hkp₁ b o e
 have loop:∀ s₄:Shared,Inv (cxC X scope xs fr s3.heap.objs.size fp s3 H3) [] (List.replicate xs.length none++Mi σ js) H3 s₄->tn 0 s₄.heap ->
   codeAny (model X.prog X.w) X.A (.compLoop (.ListComp elt [⟨tg,iter,ifs,0⟩] scope pos) 0 (.ref it) (.ref p0) (compEnvC scope (cellsFrom (s3.heap.objs.size+1) scope.names (Jk X.env scope.names [])) s3.heap.objs.size X.env)) (R (.ref p0) s3.heap.objs.size) s₄:=by
  intro s₄ I4 st4
  have stat:∀ {H':Hp},(∀ b∈fp,H' b=none)->∀ b∈fp,W3 (cxC X scope xs fr s3.heap.objs.size fp s3 H3) [] H' b:=fun {H'} hn b hb=>by obtain⟨f0,f1,f2,f3,f4,f5⟩:=hfp3 b hb;obtain⟨o,e⟩:=hob3' b hb;refine⟨hn b hb,Nat.ne_of_lt (Heap.lt_size e),I4.ok.exfs b hb,.inl hb,λx c h=>(I4.ok.exf b hb).2 x c h,λp hp=>absurd (show p∈([]:List (Addr×Obj)) from hp) (by simp)⟩
  refine Zv (λn s'=>∃ i H',Inv (cxC X scope xs fr s3.heap.objs.size fp s3 H3) [] (List.replicate xs.length none++Mi σ js) H' s'/\tn i s'.heap/\(∀ b∈fp,H' b=none)/\W i n H') ?_ m0 ⟨0,H3,I4,st4,λb hb=>(hfp3 b hb).1,w0⟩;rintro n s5 ⟨i,H5,I5,st5,fr5,w5⟩;rcases turn i n H5 w5 with ⟨stop,qn⟩|⟨go,N,hN,step⟩
  . refine thn (T.done (cxC X scope xs fr s3.heap.objs.size fp s3 H3) rfl rfl rfl hc i [] s5 _ H5 (λ_ _=>False) I5 (stat fr5) st5 stop) λr s6 ⟨hr,I6⟩=>?_;subst hr;obtain⟨m6,n6,_⟩:=id I6.loc;exact hR p0 s3.heap.objs.size s6 H5 ⟨m6,n6⟩ (I3.fpOk (A06 _) I6.free) (Ws I3 hfp3 I6 (Heap.SameBut.refl ..)) qn
  refine thn (T.item (cxC X scope xs fr s3.heap.objs.size fp s3 H3) rfl rfl rfl hc i [] s5 _ H5 (λ_ _=>False) I5 (stat fr5) st5 go) λr s6 ⟨u,hr,h6⟩=>?_;subst hr;refine thn h6 λ_ s7 ⟨x,H7,I7,r7,y7,st7,fr7⟩=>?_;have I7':=I7.pinned (stat fr7) (T.obj _ _ st7);refine thn (hg _ _ _ _ _ s7 _ H7 x u _ I7' r7 (hk _ _ _ _ (step x H7 y7))) λ_ s8 ⟨σ8,H8,I8,kp8,q8⟩=>?_
  have again:∀ {s9:Shared} {H9:Hp},Inv (cxC X scope xs fr s3.heap.objs.size fp s3 H3) ([]++Qt fp s7.heap) σ8 H9 s9->N H9 ->
    ∃ m,m<n/\∃ i H',Inv (cxC X scope xs fr s3.heap.objs.size fp s3 H3) [] (List.replicate xs.length none++Mi σ js) H' s9/\tn i s9.heap/\(∀ b∈fp,H' b=none)/\W i m H':=fun {s9 H9} I9 n9=>by
   obtain⟨m',hm,w9⟩:=hN H9 n9;refine⟨m',hm,i+1,H9,I9.unpinned.weak ?_ ?_,T.keep _ _ _ st7 λb hb o e=>(I9.pin (b,o) (A0F _ (A0F _ (Ia hb e)))).1,λb hb=>?_,w9⟩
   . rw[I9.len,I5.len]
   . intro k v hkv
     by_cases hx:k<xs.length
     . rw[A2Q (by rw[A29];exact hx),A49,A12 hx] at hkv
       cases hkv
     rw[kp8 k (Nat.le_of_not_lt hx)];exact hkv
   obtain ⟨o,e,d⟩:=T.obj _ _ st7 b hb;exact(I9.pin (b,o) (A0F _ (A0F _ (Ia hb e)))).2.1
  refine A1P (hi _ _ _ _ _ s8 σ8 H8 _ (λ_ _=>False) (λ_ _ z=>z) I8 q8) (λok s9 ⟨H9,I9,q9⟩=>?_) λ_ _ z=>z
  cases ok with
  |false=>rw[A13 A0I];rw[A13 A0I] at q9;exact again I9 q9
  |true=>rw[A12 rfl];rw[A12 rfl] at q9;refine thn (he _ _ _ _ _ s9 σ8 H9 _ I9 q9) λuy s10 ⟨y,H10,I10,r10,acc,hacc,hz,n10⟩=>?_;refine thn (Dq _ s10 σ8 H10 (.ref p0) [y] (.ref p0) [uy] (λ_ H11=>N H11) I10 rfl (.cons r10 .nil) ⟨p0,acc,y,rfl,rfl,hacc,hz,n10⟩) λ_ s11 ⟨_,H11,I11,_,n11⟩=>?_;exact again I11 n11
 exact codeAny_compStart_list (loop _ I4 st4) (T.self _ _ _ _ _ st4 (loop _ I4 st4))
theorem Inv.letgo {C:Addr}{h'':Heap}(I:Inv X pins σ H s)(f:W3 X pins H C)(hs:Heap.SameBut C s.heap h''):Inv X pins σ H {s with heap:=h''}:=by obtain⟨f0,f1,f2,f3,f4,f5⟩:=f;exact I.turned (t':=s.toks) (λb o hb e=>(hs.2 b hb).trans e) f0 f1 f3 f4 f5
theorem Fq {tg elt iter:Expr}{ifs:List Expr}{pos:Pos}{wi:TI}{g:TG}{tt:TT}{te:TE}(xs fr:List Str)(js:List Nat)(hc:X.calm=true)(hS:Uz X.env.scope scope xs fr=true)(hjs:js.map (λj=>X.N[j]?)=fr.map some)(hw:PI X tg iter wi)
  (hg:∀ C ex s₀ H₀,PG (cxC X scope xs fr C ex s₀ H₀) tg g) (hk:X7 xs.length g) (hi:∀ C ex s₀ H₀,PIf (cxC X scope xs fr C ex s₀ H₀) ifs tt) (he:∀ C ex s₀ H₀,PE (cxC X scope xs fr C ex s₀ H₀) elt te)
  (hs:∀ x,foldedSetIterable iter X.env x=pure x:=by intro _;ac_nf) :
  PE X (.ListComp elt [⟨tg,iter,ifs,0⟩] scope pos) (ae4 xs.length js wi g tt te):=by
 intro pins s σ H Q I h;have S:=Ts hS;rw[eval_ListComp];refine wpAny_comprehension_free (use:=none) rfl hs (Ib (S.cells I.ok)) S.kind S.names ?_;refine thn (hw pins s σ H _ I h) λv s1 h1=>thn h1 λitv s2 h2=>?_;obtain⟨it,fp,tn,J,H2,e,I2,T,st2,f2,q2⟩:=h2;subst e;refine Ux (Q:=Q) (R:=λacc C=>compPost (model X.prog X.w) X.A X.xe none (EP X pins σ Q) acc C) hc S hjs hg hk hi he I2 T st2 f2 q2 ?_;intro p C s' H' ⟨m,hn⟩ fC hI q;exact⟨m,hn,λh'' hs''=>⟨.ref p,H',hI.letgo fC hs'',rfl,q⟩⟩
theorem Fi {tg elt iter:Expr}{ifs:List Expr}{pos spos py:Pos}{wi:TI}{g:TG}{tt:TT}{te:TE}{i:Nat}{y:Str}(xs fr:List Str)(js:List Nat)(hc:X.calm=true)(hS:Uz X.env.scope scope xs fr=true)(hjs:js.map (λj=>X.N[j]?)=fr.map some)
  (hN:X.N.Nodup) (hi':X.N[i]? = some y) (hy:X.env.scope.names.lookup y=some .local) (hw:PI X tg iter wi)
  (hg:∀ C ex s₀ H₀,PG (cxC X scope xs fr C ex s₀ H₀) tg g) (hk:X7 xs.length g) (hi:∀ C ex s₀ H₀,PIf (cxC X scope xs fr C ex s₀ H₀) ifs tt) (he:∀ C ex s₀ H₀,PE (cxC X scope xs fr C ex s₀ H₀) elt te)
  (hsw:swapsWith (.ListComp elt [⟨tg,iter,ifs,0⟩] scope pos) (some (.Name y py)) spos.line X.env=pure true:=by ac_nf)
  (hs:∀ x,foldedSetIterable iter X.env x=pure x:=by intro _;ac_nf) :
  PS X (.Assign [.Name y py] (.ListComp elt [⟨tg,iter,ifs,0⟩] scope pos) spos) (ak5 (ae4 xs.length js wi g tt te) (Lp i)):=by
 intro pins s σ H D I h;have S:=Ts hS;rw[exec_Assign_Name_used _ _ _ _ hsw];refine A00 (A4Z (A00 ?_));show wpAny _ X.A (do let _ <- comprehension (.ListComp elt [⟨tg,iter,ifs,0⟩] scope pos) scope X.env _ (newList []) false (eval iter X.env) (some (assign (.Name y py) X.env))) _ _ s
 refine A00 (A1P (wpAny_comprehension_free (use:=some (assign (.Name y py) X.env)) (Q:=λ_ s'=>SP X pins D .next s') rfl hs (Ib (S.cells I.ok)) S.kind S.names ?_) (λ_ s' hq=>A05 (A05 hq)) λ_ _ e=>e);refine thn (hw pins s σ H _ I h) λv s1 h1=>thn h1 λitv s2 h2=>?_;obtain⟨it,fp,tn,J,H2,e,I2,T,st2,f2,q2⟩:=h2;subst e;refine Ux (Q:=λx H1=>Lp i x σ H1 D.nx) (R:=λacc C=>compPost (model X.prog X.w) X.A X.xe (some (assign (.Name y py) X.env)) (λ_ s'=>SP X pins D .next s') acc C) hc S hjs hg hk hi he I2 T st2 f2 q2 ?_;intro p C s' H' ⟨m,hn⟩ fC I' q;show wpAny _ X.A (assign (.Name y py) X.env (.ref p)) _ _ s';refine wpAny_assign_Name (R0 I' hN hi' (.inl hy) (show RelV (.ref p) (.ref p) from rfl) (λs'' I'' ⟨a,hs1,ha⟩=>?_) (.inr hy))
 have hne:C≠a:=by
  rcases ha with ha|ha
  . rw[ha];exact fC.2.1
  exact(fC.2.2.2.2.1 y a ha).symm
 exact⟨m,hn.sameBut hs1 hne,λh'' hs''=>⟨_,H',I''.letgo fC hs'',q⟩⟩
end
def Its (x:Str):It:=⟨λi _=>i<x.cps.size,λi H v H'=>H'=H/\∃ c,x.cps[i]? = some c/\v = .str ⟨#[c]⟩,λi _=>x.cps.size<=i⟩
section
variable {X:Cx}{tg:Expr}
theorem Yz {P:Program}{w:World}{K:PySem.W.Frag}{tg:Expr}{it:Addr}{n:Nat}{PV:Nat->Value->Prop}{val:Nat->V->Prop}{St:Nat->Heap->Prop}(W:∀ A:Around,A.handled=none->Walks P w A it [it] [it] n PV St)
  (hself:∀(A:Around) (i:Nat) (s:Shared) (Q:Value->Shared->Prop) (E:Value->Shared->Prop),St i s.heap->Q (.ref it) s->wpAny (model P w) A (pyIter (.ref it)) Q E s)
  (hv:∀ i u,PV i u->∃ v,RelV v u/\val i v) (hto:∀ i h,St i h->∃ o T vs,h.get? it=some o/\o.cls = .type T/\o.data = .fields vs/\["enumerate","zip","dict_itemiterator","dict_reverseitemiterator","odict_iterator","itertools.zip_longest","itertools.pairwise"].contains T=false) :
  a85 P w K tg ⟨λi _=>i<n,λi H v H'=>H'=H/\val i v,λi _=>n<=i⟩ [it] it (λi h=>St i h/\i<=n) where
 mem:=by simp
 obj:=λi h st b hb=>by
  have e:b=it:=by simpa using hb
  subst e;obtain⟨o,T,vs,e1,e2,e3,e4⟩:=hto i h st.1;exact⟨o,e1,λv z=>by rw[e3] at z;cases z⟩
 keep:=λi h h' st k=>⟨(W {handled:=none} rfl).frame i h h' st.1 k,st.2⟩
 item:=by
  intro X hP hw hK hc i pins s σ H E I hf st hg;subst hP hw hK;obtain⟨f0,f1,f2,f3,f4,f5⟩:=hf it (by simp);refine(W X.A (I.ok.hd hc)).item i s _ _ hg st.1 λu h' tk hp st' kk=>?_;obtain⟨v,rv,vv⟩:=hv i u hp;have I1:Inv X pins σ H {s with heap:=h',toks:=tk}:=I.turned (λb o hb e=>kk b o (by simpa using hb) e) f0 f1 f3 f4 f5
  obtain⟨o,T,vs,e1,e2,e3,e4⟩:=hto _ _ st';exact⟨u,rfl,Zz (s:={s with heap:=h',toks:=tk}) e1 e2 e3 e4 ⟨v,H,I1,rv,⟨rfl,vv⟩,⟨st',hg⟩,λb hb=>(hf b hb).1⟩⟩
 done:=by intro X hP hw hK hc i pins s σ H E I hf st hg;subst hP hw hK;obtain⟨f0,f1,f2,f3,f4,f5⟩:=hf it (by simp);have e:i=n:=Nat.le_antisymm st.2 hg;subst e;exact(W X.A (I.ok.hd hc)).done s _ _ st.1 λh' tk kk=>⟨rfl,I.turned (λb o hb e=>kk b o (by simpa using hb) e) f0 f1 f3 f4 f5⟩
 self:=λA i s Q E st h=>hself A i s Q E st.1 h
theorem an7 {pins:List (Addr×Obj)}{σ:St}{H1:Hp}{s1:Shared}{R:It->Hp->Prop}{E:Value->Shared->Prop}{z:Str}{v:Value}(I1:Inv X pins σ H1 s1)(r1:RelV (.str z) v)(q:R (Its z) H1):wpAny (model X.prog X.w) X.A (pyIter v) (PIE X pins σ tg R) E s1:=by
 obtain⟨t,rfl⟩:=r1;have sv:∀ i u,SignAt z i u->∃ v,RelV v u/\∃ c,z.cps[i]? = some c/\v = .str ⟨#[c]⟩:=λi u ⟨c,tu,hc,hu⟩=>⟨.str ⟨#[c]⟩,⟨tu,hu⟩,c,hc,rfl⟩
 have fin:∀(o:Obj) (St:Nat->Heap->Prop) (n:Nat),St 0 (s1.heap.push o)->a85 X.prog X.w X.K tg (Its z) [s1.heap.objs.size] s1.heap.objs.size (λi h=>St i h/\i<=z.cps.size)->PIE X pins σ tg R (.ref s1.heap.objs.size) {s1 with heap:=s1.heap.push o}:=λo St n h0 T=>by
  refine⟨s1.heap.objs.size,[s1.heap.objs.size],_,_,H1,rfl,I1.kept (t':=s1.toks) λb ob e=>A02 _ e,T,⟨h0,A2H _⟩,λb hb=>?_,q⟩;have e:b=s1.heap.objs.size:=by simpa using hb
  subst e;exact I1.fpOk (A06 _) (I1.hok.fresh (A06 _))
 cases ha:z.cps.all (· < 128)
 . exact wpAny_pyIter_wide ha (fin _ _ 0 ⟨_,A0O _ rfl,rfl,rfl⟩ (Yz (λA hA=>Walks.strWide hA _ z t) (λ_ _ _ _ _ st hq=>wpAny_pyIter_striter_wide st hq) sv λi h ⟨o,ho,hc,hd⟩=>⟨o,_,_,ho,hc,hd,by decide⟩))
 exact wpAny_pyIter_ascii ha (fin _ _ 0 ⟨_,A0O _ rfl,rfl,rfl⟩ (Yz (λA hA=>Walks.strAscii hA _ z t) (λ_ _ _ _ _ st hq=>wpAny_pyIter_striter_ascii st hq) sv λi h ⟨o,ho,hc,hd⟩=>⟨o,_,_,ho,hc,hd,by decide⟩))
end
section
variable {X:Cx}
def az7:V->Option Int->Option Int->Hp->VK->Prop:=λx lo hi H Q=>∃ z,x = .str z/\z.length<=sizeLine/\Q (.str (Txt.slice z lo hi)) H
theorem sl_str:SlR X az7:=by
 intro pins s σ H x v vl vu lo hi sl Q I rx hs pl pu h;obtain⟨z,rfl,hz,q⟩:=h;obtain⟨t,rfl⟩:=rx;have fin:∀ t' k,EP X pins σ Q (.str (Txt.slice z lo hi) t') {s with toks:=k}:=λt' k=>⟨.str _,H,I.tok _,⟨_,rfl⟩,q⟩
 have sz:=A0L (Txt.slice_le z lo hi) hz;refine⟨"str",_,F.slot_str_getitem.lookup,typeIs_str _ _ _,?_⟩
 cases pl with
 |none=>
   cases pu with
   |none=>exact A2Z (l:=none) (u:=none) (st:=none) hs rfl (A4K ⟨sz,fin⟩)
   |int j uj=>exact A2Z (l:=none) (u:=some (j,uj)) (st:=none) hs rfl (A4K ⟨sz,fin⟩)
 |int i ui=>
   cases pu with
   |none=>exact A2Z (l:=some (i,ui)) (u:=none) (st:=none) hs rfl (A4K ⟨sz,fin⟩)
   |int j uj=>exact A2Z (l:=some (i,ui)) (u:=some (j,uj)) (st:=none) hs rfl (A4K ⟨sz,fin⟩)
theorem call_isinst:CallR X (.builtin "isinstance") (λxs H Q=>∃ x c t b,xs=[x,.ty c]/\Qf X.K H x t/\W.kitOne X.K t (.type c)=some b/\Q (.bl b) H):=by
 intro pins s σ H xs us Q I r h;obtain⟨x,c,t,b,rfl,ty,e,q⟩:=h;obtain⟨u,w',rfl,r1,r2⟩:=Qa r
 cases r2;exact Rv I r1 ty e λtk=>⟨.bl _,H,I.tok _,rfl,q⟩
theorem call_isinstR:CallR X (.builtin "isinstance") (λxs H Q=>∃ x c t b,xs=[x,.ref c]/\Qf X.K H x t/\W.kitOne X.K t (.ref c)=some b/\Q (.bl b) H):=by
 intro pins s σ H xs us Q I r h;obtain⟨x,c,t,b,rfl,ty,e,q⟩:=h;obtain⟨u,w',rfl,r1,r2⟩:=Qa r
 cases r2;exact Rv I r1 ty e λtk=>⟨.bl _,H,I.tok _,rfl,q⟩
theorem Qb:CallR X (.builtin "isinstance") (λxs H Q=>∃ a ys c b,xs=[V.ref a,.ty c]/\((SqT X.K H a ys/\W.kitOne X.K (.type "tuple") (.type c)=some b)\/(SqL X.K H a ys/\W.kitOne X.K (.type "list") (.type c)=some b))/\Q (.bl b) H):=by
 intro pins s σ H xs us Q I r h;obtain⟨a,ys,c,b,rfl,ty,q⟩:=h;obtain⟨u,w',rfl,r1,r2⟩:=Qa r
 cases r2
 cases r1;rcases ty with ⟨ty,e⟩|⟨ty,e⟩
 . obtain⟨its,_,p,_⟩:=I.tuple ty;obtain⟨o,h1,h2,_⟩:=p;exact A1C W.kitx_tuple I.kIn ⟨o,h1,h2⟩ e (λz=>nomatch z) λtk=>⟨.bl _,H,I.tok _,rfl,q⟩
 obtain⟨its,_,p,_⟩:=I.list ty;obtain⟨o,h1,h2,_⟩:=p.isList;exact A1C W.kitx_list I.kIn ⟨o,h1,h2⟩ e (λz=>nomatch z) λtk=>⟨.bl _,H,I.tok _,rfl,q⟩
end
section
variable {X:Cx}{x:Str}{pos:Pos}
theorem K1 {v:V}(hg:Gl X x)(hm:∃ u,X.mg x=some u/\RelV v u)(hd:(x==("__debug__":Str))=false:=by decide):PE X (.Name x pos) (tC v):=by obtain⟨u,h1,h2⟩:=hm;exact ad5 hg h1 h2 hd
end
section
variable {X:Cx}{K:W.Frag}
def ap8 (K:W.Frag):R2:=λx y H Q=>∃ a b ys,x = .ref a/\y = .ref b/\SqT K H a []/\SqT K H b ys/\Q (.ref b) H
theorem ae3:OpR X (binaryOp .Add) (ap8 X.K):=by
 intro pins s σ H x y v u Q I rx ry h;obtain⟨a,b,ys,rfl,rfl,ha,hb,q⟩:=h
 cases rx
 cases ry;obtain⟨its,r1,p1,_⟩:=I.tuple ha;obtain⟨its2,r2,p2,_⟩:=I.tuple hb
 cases r1;obtain⟨⟨cls,dd,data,sl⟩,ho,hc,n,hd⟩:=id p1;obtain⟨⟨cls2,dd2,data2,sl2⟩,ho2,hc2,n2,hd2⟩:=id p2;simp only at hc hd hc2 hd2;subst hc hd hc2 hd2;exact concat_meets ⟨_,ho,rfl⟩ ⟨_,ho2,rfl⟩ noFill_tuple_add seq_tuple_add PySem.F.slot_tuple_add PySem.F.entry_tuple_add (PySem.F.args_tuple_add_2 _ _) (tuple_addW0 a b _ _ n n2 dd dd2 sl sl2 (by simp)) ⟨ho,ho2,⟨.ref b,H,I,rfl,q⟩⟩
def aB3 (K:W.Frag):V->Option Int->Option Int->Hp->VK->Prop:=λx lo hi H Q=>∃ a xs,x = .ref a/\SqT K H a xs/\(HT.sIx xs.length 0 lo=0/\HT.sIx xs.length xs.length hi=xs.length)/\Q (.ref a) H
theorem a52:SlR X (aB3 X.K):=by
 intro pins s σ H x v vl vu lo hi sl Q I rx hs pl pu h;obtain⟨a,xs,rfl,hx,hw,q⟩:=h
 cases rx;obtain⟨its,r,ht,hz⟩:=I.tuple hx;have hlen:its.toArray.size=xs.length:=by rw[A0M];exact r.length.symm
 refine⟨"tuple",_,PyProof.Rows.slot_tuple_getitem.lookup,ht.typeIs,?_⟩;obtain⟨os,hos,hcs,hds⟩:=id hs;have hTs:s.TypeIs (.ref sl) "slice":=⟨os,hos,hcs⟩;unfold getItem
 try with_reducible refine A1T ?_
 first | refine A00 (A05 ?_) | skip
 refine A00 (A45 ht.typeIs nofun ?_);refine A00 (A2X (name:=Str.ofString "__getitem__") ht.typeIs A17 (A3G A17 ht.typeIs A3O ?_ (A3U _ _)));refine A00 (m:=Builtin.Tuple.tupleItemsOf (.ref a)) (A4A ht ?_);refine A00 (A3C hTs ?_);rw[A12 nofun];refine A00 (HT.sliceApplied_gen hs pl pu ?_)
 have yes:(((HT.sIx its.toArray.size 0 lo:Nat):Int)==0&&(1:Int)==1&&(HT.sIx its.toArray.size its.toArray.size hi-HT.sIx its.toArray.size 0 lo)==its.toArray.size)=true:=by rw[hlen,hw.1,hw.2];simp
 show wpAny _ _ (if(((HT.sIx its.toArray.size 0 lo:Nat):Int)==0&&(1:Int)==1&&(HT.sIx its.toArray.size its.toArray.size hi-HT.sIx its.toArray.size 0 lo)==its.toArray.size)=true then _ else _) _ _ s
 rw[A12 yes];have fin:∀ s',s'=s->EP X pins σ Q (.ref a) s':=λs' e=>by subst e;exact⟨.ref a,H,I,rfl,q⟩
 unfold Builtin.Tuple.tupleIsExact;obtain⟨hp,g,d,tk,os⟩:=s;have hT:=ht.typeIs
 repeat (any_goals (first | assumption | wp_step))
 exact⟨_,rfl,A05 (fin _ rfl)⟩
end
theorem Inv.freeze {X:Cx}{pins:List (Addr×Obj)}{σ:St}{H:Hp}{s:Shared}{d:Addr}{kvs:List (Key×V)}{o:Obj}(I:Inv X pins σ H s)(hd:H d=some (.dK kvs))(ho:s.heap.get? d=some o):Inv X pins σ (upd H d (.frz o (.dK kvs))) s:=by
 have nn:∀ b,H b=none->upd H d (.frz o (.dK kvs)) b=none:=λb h=>by rw[Ag (Ne.symm (ne_of_none hd h))];exact h
 have other:∀ b u,H b=some u->u ≠ .dK kvs->upd H d (.frz o (.dK kvs)) b=some u:=λb u h q=>by rw[Ag (ne_of h hd q)];exact h
 refine⟨I.ok,I.os,I.bare,⟨I.base.keep,I.base.slot,λb ob q n hx=>nn b (I.base.free b ob q n hx),I.base.there,λb xs q=>other b _ (I.base.tups b xs q) (by intro z;cases z),λb ob u q=>other b _ (I.base.frzs b ob u q) (by intro z;cases z),λb ps q=>?_⟩,I.loc,I.cell,nn _ I.free,λx c q=>nn _ (I.freeC x c q),λp hp=>?_,λb u q=>?_,I.len⟩
 . obtain⟨more,h⟩:=I.base.tbls b ps q;exact⟨more,other b _ h (by intro z;cases z)⟩
 . obtain⟨a1,a2,a3⟩:=I.pin p hp;exact⟨a1,nn _ a2,a3⟩
 by_cases e:b=d
 . subst e;rw[A9] at q
   cases q;exact⟨ho,(I.hok b _ hd).stay (λc v hc z=>z) (λc z=>other c _ z (by intro w;cases w)) λc xs z=>other c _ z (by intro w;cases w)⟩
 rw[Ag e] at q;exact(I.hok b u q).stay (λc v hc z=>z) (λc z=>other c _ z (by intro w;cases w)) λc xs z=>other c _ z (by intro w;cases w)
def Itd (a:Addr)(o:Obj)(kvs:List (Key×V)):It:=
 ⟨λi H=>H a=some (.frz o (.dK kvs))/\i<kvs.length,λi H x H'=>H'=H/\∃ kv,kvs[i]? = some kv/\x=kV kv.1,λi H=>H a=some (.frz o (.dK kvs))/\kvs.length<=i⟩
theorem ac3 {k:Key}{u:Value}(h:Qd k u=true):RelV (kV k) u:=by
 rcases Bh h with ⟨i,t,rfl,rfl⟩|⟨x,t,rfl,rfl⟩
 . exact⟨t,rfl⟩
 exact⟨t,rfl⟩
theorem Y7 {X:Cx}{pins:List (Addr×Obj)}{σ:St}{H:Hp}{s:Shared}{a:Addr}{kvs:List (Key×V)}{o:Obj}{es:Array DictEntry}{ep:Nat}(I:Inv X pins σ H s)(h:H a=some (.frz o (.dK kvs)))(ho:o.data = .dict es ep):∃ vs,KV kvs vs/\s.heap.DictAt (B1 X.prog X.w) a vs ep:=by
 obtain⟨h1,_,_,vs,r,o',es',ep',h2,c,hd,rest⟩:=I.hok a _ h;rw[h1] at h2
 cases h2;rw[ho] at hd
 cases hd;exact⟨vs,r,o,es,h1,c,ho,rest⟩
theorem KV.get:∀ {kvs:List (Key×V)} {vs:List (Key×Value)} {i:Nat} {kv:Key×V},KV kvs vs->kvs[i]? = some kv->∃ u,vs[i]? = some (kv.1,u)/\RelV kv.2 u
 |_,_,_,_,.nil,e=>by simp at e
 |_,_,0,kv,.cons r _,e=>by simp at e;subst e;exact⟨_,congrArg some (Prod.ext r.1.symm rfl),r.2⟩
 |_,_,i+1,kv,.cons _ t,e=>by obtain⟨u,h1,h2⟩:=KV.get (i:=i) t (by simpa using e);exact⟨u,by simpa using h1,h2⟩
theorem R8 {P:Program}{w:World}{K:W.Frag}{tg:Expr}(a it:Addr)(o:Obj)(kvs:List (Key×V))(es:Array DictEntry)(ep:Nat)(hd:o.data = .dict es ep):a85 P w K tg (Itd a o kvs) [it] it (λi h=>h.IsKeyIter it a i kvs.length ep) where
 mem:=by simp
 obj:=λi h st b hb=>by
  have e:b=it:=by simpa using hb
  subst e;obtain⟨o,e,c,d⟩:=st;exact⟨o,e,λv z=>by rw[d] at z;cases z⟩
 keep:=λi h h' st k=>st.at λo e=>k it (by simp) o e
 item:=by
  intro X hP hw hK hc i pins s σ H E I hf st hg;subst hP hw hK;obtain⟨hH,hi⟩:=hg;obtain⟨vs,rv,hat⟩:=Y7 I hH hd;have hl:kvs.length=vs.length:=A2V rv;obtain⟨kv,hkv⟩:∃ kv,kvs[i]? = some kv:=⟨kvs[i],A07 hi⟩;obtain⟨u,hu,_⟩:=KV.get rv hkv;obtain⟨f0,f1,f2,f3,f4,f5⟩:=hf it (by simp);rw[hl] at st;refine wpAny_pyNext_dict_item st hat hu λkey h' hkey hit' hs'=>?_;have I1:Inv X pins σ H {s with heap:=h'}:=I.turned (t':=s.toks) (λb o hb e=>(hs'.2 b hb).trans e) f0 f1 f3 f4 f5
  obtain⟨o',e,c,d⟩:=id hit';exact⟨key,rfl,Zz (s:={s with heap:=h'}) e c d nofun ⟨kV kv.1,H,I1,ac3 hkey,⟨rfl,kv,hkv,rfl⟩,by rw[hl];exact hit',λb hb=>(hf b hb).1⟩⟩
 done:=by intro X hP hw hK hc i pins s σ H E I hf st hg;subst hP hw hK;obtain⟨hH,hi⟩:=hg;obtain⟨vs,rv,hat⟩:=Y7 I hH hd;have hl:kvs.length=vs.length:=A2V rv;obtain⟨f0,f1,f2,f3,f4,f5⟩:=hf it (by simp);rw[hl] at st;exact wpAny_pyNext_dict_end (I.ok.hd hc) st hat (A4L ∅) λh' eb=>⟨rfl,I.turned (t':=s.toks) (λb o hb e=>eb b o hb e) f0 f1 f3 f4 f5⟩
 self:=λA i s Q E st hQ=>wpAny_pyIter_keyiter st hQ
theorem ai9 {X:Cx}{tg:Expr}{pins:List (Addr×Obj)}{σ:St}{H:Hp}{s:Shared}{a:Addr}{kvs:List (Key×V)}{R:It->Hp->Prop}{E:Value->Shared->Prop}(I:Inv X pins σ H s)(h:H a=some (.dK kvs))(q:∀ o,R (Itd a o kvs) (upd H a (.frz o (.dK kvs)))) :
  wpAny (model X.prog X.w) X.A (pyIter (.ref a)) (PIE X pins σ tg R) E s:=by
 obtain⟨_,hs,vs,rv,o,es,ep,ho,c,hd,rest⟩:=I.hok a _ h;have I1:=I.freeze h ho;have hl:kvs.length=vs.length:=A2V rv;refine wpAny_pyIter_dict (knd:=B1 X.prog X.w) hs ⟨o,es,ho,c,hd,rest⟩ ?_;rw[<- hl];refine⟨s.heap.objs.size,[s.heap.objs.size],_,_,_,rfl,I1.kept (t':=s.toks) λb o e=>A02 _ e,R8 a _ o kvs es ep hd,⟨_,A0O _ rfl,rfl,rfl⟩,λb hb=>?_,q o⟩;have e:b=s.heap.objs.size:=by simpa using hb
 subst e;exact I1.fpOk (A06 _) (I1.hok.fresh (A06 _))
theorem a71 {X:Cx}{tg:Expr}{pins:List (Addr×Obj)}{σ:St}{H:Hp}{s:Shared}{a:Addr}{kvs:List (Key×V)}{o:Obj}{R:It->Hp->Prop}{E:Value->Shared->Prop}(I:Inv X pins σ H s)(h:H a=some (.frz o (.dK kvs)))(q:R (Itd a o kvs) H) :
  wpAny (model X.prog X.w) X.A (pyIter (.ref a)) (PIE X pins σ tg R) E s:=by
 obtain⟨ho',_,hs,vs,rv,o',es,ep,ho,c,hd,rest⟩:=I.hok a _ h;rw[ho'] at ho
 cases ho;have hl:kvs.length=vs.length:=A2V rv;refine wpAny_pyIter_dict (knd:=B1 X.prog X.w) hs ⟨o,es,ho',c,hd,rest⟩ ?_;rw[<- hl];refine⟨s.heap.objs.size,[s.heap.objs.size],_,_,_,rfl,I.kept (t':=s.toks) λb o e=>A02 _ e,R8 a _ o kvs es ep hd,⟨_,A0O _ rfl,rfl,rfl⟩,λb hb=>?_,q⟩;have e:b=s.heap.objs.size:=by simpa using hb
 subst e;exact I.fpOk (A06 _) (I.hok.fresh (A06 _))
theorem Same.seqT {K:W.Frag}{H H':Hp}{a:Addr}{xs:List V}(e:Same H H')(h:SqT K H a xs):SqT K H' a xs:=by
 rcases h with (h|⟨o,h⟩)|h
 . exact .inl (.inl (e _ _ h))
 . exact .inl (.inr ⟨o,e _ _ h⟩)
 exact .inr h
mutual
def Is (K:W.Frag)(H:Hp):PyData->V->Prop
 |.none,v=>v = .non
 |.bool b,v=>v = .bl b
 |.int i,v=>v = .int i
 |.str x,v=>v = .str x
 |.list ds,v=>∃ a xs,v = .ref a/\SqL K H a xs/\IsL K H ds xs
 |.tuple ds,v=>∃ a xs,v = .ref a/\SqT K H a xs/\IsL K H ds xs
 |.dict _,_=>False
def IsL (K:W.Frag)(H:Hp):List PyData->List V->Prop
 | [],vs=>vs=[]
 |d :: ds,vs=>∃ v r,vs=v :: r/\Is K H d v/\IsL K H ds r
end
mutual
theorem Is.mono {K:W.Frag}{H H':Hp}(e:Same H H'):∀(d:PyData) (v:V),Is K H d v->Is K H' d v
 |.none,_,h=>by simp only[Is] at h ⊢;exact h
 |.bool _,_,h=>by simp only[Is] at h ⊢;exact h
 |.int _,_,h=>by simp only[Is] at h ⊢;exact h
 |.str _,_,h=>by simp only[Is] at h ⊢;exact h
 |.list ds,v,h=>by simp only[Is] at h ⊢;obtain⟨a,xs,e1,e2,e3⟩:=h;exact⟨a,xs,e1,e.seq e2,IsL.mono e ds xs e3⟩
 |.tuple ds,v,h=>by simp only[Is] at h ⊢;obtain⟨a,xs,e1,e2,e3⟩:=h;exact⟨a,xs,e1,e.seqT e2,IsL.mono e ds xs e3⟩
 |.dict _,_,h=>by simp only[Is] at h
theorem IsL.mono {K:W.Frag}{H H':Hp}(e:Same H H'):∀(ds:List PyData) (vs:List V),IsL K H ds vs->IsL K H' ds vs
 | [],_,h=>by simp only[IsL] at h ⊢;exact h
 |d :: ds,vs,h=>by simp only[IsL] at h ⊢;obtain⟨v,r,e1,e2,e3⟩:=h;exact⟨v,r,e1,Is.mono e d v e2,IsL.mono e ds r e3⟩
end
section
variable {X:Cx}{pins:List (Addr×Obj)}{σ:St}{H:Hp}{s:Shared}
mutual
theorem Is.reads (I:Inv X pins σ H s):∀(d:PyData) (v:V) (u:Value),Is X.K H d v->RelV v u->∃ as,Reads s.heap u d as
 |.none,v,u,i,r=>by
   simp only[Is] at i;subst i
   cases r;exact⟨_,.none⟩
 |.bool b,v,u,i,r=>by
   simp only[Is] at i;subst i
   cases r;exact⟨_,.bool b⟩
 |.int n,v,u,i,r=>by simp only[Is] at i;subst i;obtain⟨t,rfl⟩:=r;exact⟨_,.int n t⟩
 |.str x,v,u,i,r=>by simp only[Is] at i;subst i;obtain⟨t,rfl⟩:=r;exact⟨_,.str x t⟩
 |.list ds,v,u,i,r=>by
   simp only[Is] at i;obtain⟨a,xs,rfl,e2,e3⟩:=i
   cases r;obtain⟨its,rv,⟨o,n,e,hc,hd,hs⟩,_⟩:=I.list e2;obtain⟨as,ra⟩:=IsL.reads I ds xs its e3 rv;exact⟨_,.list e hc hs (by simpa using ra)⟩
 |.tuple ds,v,u,i,r=>by
   simp only[Is] at i;obtain⟨a,xs,rfl,e2,e3⟩:=i
   cases r;obtain⟨its,rv,⟨o,e,hc,n,hd⟩,_⟩:=I.tuple e2;obtain⟨as,ra⟩:=IsL.reads I ds xs its e3 rv;exact⟨_,.tuple e hc hd (by simpa using ra)⟩
 |.dict _,_,_,i,_=>by simp only[Is] at i
theorem IsL.reads (I:Inv X pins σ H s):∀(ds:List PyData) (vs:List V) (us:List Value),IsL X.K H ds vs->Vals vs us->∃ as,ReadsAll s.heap us ds as
 | [],vs,us,i,r=>by
   simp only[IsL] at i;subst i
   cases r;exact⟨_,.nil⟩
 |d :: ds,vs,us,i,r=>by
   simp only[IsL] at i;obtain⟨v,rr,rfl,e2,e3⟩:=i
   cases r with
   |cons r1 r2=>obtain⟨a1,h1⟩:=Is.reads I d v _ e2 r1;obtain⟨a2,h2⟩:=IsL.reads I ds rr _ e3 r2;exact⟨_,.cons h1 h2⟩
end
end
theorem Wz {K:W.Frag}{H:Hp}:∀ ns:List Int,IsL K H (ns.map PyData.int) (ns.map V.int)
 | []=>by simp only[List.map_nil,IsL]
 |n :: r=>by simp only[List.map_cons,IsL];exact⟨_,_,rfl,by simp only[Is],Wz r⟩
theorem G3 {K:W.Frag}{H:Hp}:∀ ns:List Str,IsL K H (ns.map PyData.str) (ns.map V.str)
 | []=>by simp only[List.map_nil,IsL]
 |n :: r=>by simp only[List.map_cons,IsL];exact⟨_,_,rfl,by simp only[Is],G3 r⟩
theorem Vd {K:W.Frag}{H:Hp}{a:Addr}{ns:List Int}(h:SqL K H a (ns.map V.int)):Is K H (.list (ns.map PyData.int)) (.ref a):=by simp only[Is];exact⟨a,_,rfl,h,Wz ns⟩
structure QA (A:Around):Prop where
 un:A.units+150<cLine
 gd:A.guards=some []
theorem Cu {A:Around}{k:Nat}(hr:Room k A):QA A:=⟨by have:=hr.un;omega,hr.gd⟩
section
variable {X:Cx}
def Px (K:W.Frag):R2:=λx y H Q=>(∃ i j,x = .int i/\y = .int j/\Q (.int (i+j)) H)\/(∃ i j,x = .str i/\y = .str j/\i.length+j.length<=sizeLine/\Q (.str (i++j)) H)\/aA8 x y H Q\/aq8 K x y H Q\/ap8 K x y H Q
theorem ad4:OpR X (binaryOp .Add) (Px X.K):=op_add.or (op_add_str.or (op_cat.or (op_catT.or ae3)))
def a69:R2:=λx y H Q=>(∃ i j,x = .int i/\y = .int j/\CMul i j/\Q (.int (i*j)) H)\/aB1 x y H Q
theorem op_mulA:OpR X (binaryOp .Mult) a69:=op_mul.or as3
theorem Ij:OpR X (binaryOp .FloorDiv) (rI ay4 λi j=>.int (i / j)):=af7
def aw6 (K:W.Frag)(neg:Bool):R2:=λx y H Q=>∃ dx dy,Is K H dx x/\Is K H dy y/\SeqAt.shaped dx=true/\SeqAt.shaped dy=true/\Q (.bl (if neg then !PyData.eqv dx dy else PyData.eqv dx dy)) H
theorem ap9 (hq:QA X.A):OpR X (compareOp .Eq) (aw6 X.K false):=by intro pins s σ H x y v u Q I rx ry h;obtain⟨dx,dy,ix,iy,sx,sy,q⟩:=h;obtain⟨as,ra⟩:=Is.reads I dx x v ix rx;obtain⟨bs,rb⟩:=Is.reads I dy y u iy ry;exact eq_dataH ra rb sx sy (by have:=hq.un;omega) ⟨.bl _,H,I,rfl,q⟩
theorem ap5 (hq:QA X.A):OpR X (compareOp .NotEq) (aw6 X.K true):=by intro pins s σ H x y v u Q I rx ry h;obtain⟨dx,dy,ix,iy,sx,sy,q⟩:=h;obtain⟨as,ra⟩:=Is.reads I dx x v ix rx;obtain⟨bs,rb⟩:=Is.reads I dy y u iy ry;exact ne_dataH ra rb sx sy (by have:=hq.un;omega) ⟨.bl _,H,I,rfl,q⟩
def av9 (K:W.Frag):R2:=λx y H Q=>rEq x y H Q\/aw6 K false x y H Q
def aw0 (K:W.Frag):R2:=λx y H Q=>rNe x y H Q\/aw6 K true x y H Q
theorem ao7 (hq:QA X.A):OpR X (compareOp .Eq) (av9 X.K):=op_eq.or (ap9 hq)
theorem ar0 (hq:QA X.A):OpR X (compareOp .NotEq) (aw0 X.K):=op_ne.or (ap5 hq)
def rInT (neg:Bool):R2:=λx y H Q=>∃ i j,x = .str i/\y = .str j/\Q (.bl (if neg then !(!(Builtin.Str.occurrences j i 0 j.length 1).isEmpty) else !(Builtin.Str.occurrences j i 0 j.length 1).isEmpty)) H
def ay2 (neg:Bool):R2:=λx y H Q=>∃ a o,y = .ref a/\DGet H a x o/\Q (.bl (if neg then !o.isSome else o.isSome)) H
theorem au6 (hu:X.A.units+1<cLine):OpR X (compareOp .In) (ay2 false):=by
 intro pins s σ H x y v u Q I rx ry h;obtain⟨a,o,rfl,g,q⟩:=h
 cases ry;exact d_in hu I g rx λs' I'=>⟨.bl _,H,I',rfl,q⟩
theorem a01 (hu:X.A.units+1<cLine):OpR X (compareOp .NotIn) (ay2 true):=by
 intro pins s σ H x y v u Q I rx ry h;obtain⟨a,o,rfl,g,q⟩:=h
 cases ry;exact af2 hu I g rx λs' I'=>⟨.bl _,H,I',rfl,q⟩
def ax4 (K:W.Frag)(neg:Bool):R2:=λx y H Q=>∃ d ds,Is K H d x/\(Is K H (.list ds) y\/Is K H (.tuple ds) y)/\PyData.canLayAll0 ds=true/\d.canLay0=true/\d.depth<=100/\Q (.bl (if neg then !(ds.any λe=>PyData.eqv e d) else ds.any λe=>PyData.eqv e d)) H
theorem aq4 (hq:QA X.A):OpR X (compareOp .In) (ax4 X.K false):=by
 intro pins s σ H x y v u Q I rx ry h;obtain⟨d,ds,ix,iy,h1,h2,h3,q⟩:=h;obtain⟨bs,rb⟩:=Is.reads I d x v ix rx;rcases iy with iy|iy
 . obtain⟨as,ra⟩:=Is.reads I _ y u iy ry;exact SeqAt.in_list_reads ra rb h1 h2 (by have:=hq.un;have:=A3F (PyData.depthAll ds) d.depth;omega) ⟨.bl _,H,I,rfl,q⟩
 obtain⟨as,ra⟩:=Is.reads I _ y u iy ry;exact SeqAt.in_tuple_reads ra rb h1 h2 (by have:=hq.un;have:=A3F (PyData.depthAll ds) d.depth;omega) ⟨.bl _,H,I,rfl,q⟩
theorem Z3 (hq:QA X.A):OpR X (compareOp .NotIn) (ax4 X.K true):=by
 intro pins s σ H x y v u Q I rx ry h;obtain⟨d,ds,ix,iy,h1,h2,h3,q⟩:=h;obtain⟨bs,rb⟩:=Is.reads I d x v ix rx;rcases iy with iy|iy
 . obtain⟨as,ra⟩:=Is.reads I _ y u iy ry;exact SeqAt.notIn_list_reads ra rb h1 h2 (by have:=hq.un;have:=A3F (PyData.depthAll ds) d.depth;omega) ⟨.bl _,H,I,rfl,q⟩
 obtain⟨as,ra⟩:=Is.reads I _ y u iy ry;exact SeqAt.notIn_tuple_reads ra rb h1 h2 (by have:=hq.un;have:=A3F (PyData.depthAll ds) d.depth;omega) ⟨.bl _,H,I,rfl,q⟩
def Wj (K:W.Frag)(neg:Bool):R2:=λx y H Q=>rIn K neg x y H Q\/rInT neg x y H Q\/ay2 neg x y H Q\/ax4 K neg x y H Q
theorem QA.hu {A:Around}(h:QA A):A.units+1<cLine:=by have:=h.un;omega
theorem au0 (hq:QA X.A):OpR X (compareOp .In) (Wj X.K false):=op_in_seq.or (op_in_str.or ((au6 hq.hu).or (aq4 hq)))
theorem Ww (hq:QA X.A):OpR X (compareOp .NotIn) (Wj X.K true):=op_notIn_seq.or (op_notIn_str.or ((a01 hq.hu).or (Z3 hq)))
def ak7 (K:W.Frag):V->Option Int->Option Int->Hp->VK->Prop:=λx lo hi H Q=>az8 K x lo hi H Q\/aA3 K x lo hi H Q\/az7 x lo hi H Q\/aB3 K x lo hi H Q
theorem sl_A:SlR X (ak7 X.K):=sl_list.or (sl_tup.or (sl_str.or a52))
def aC3:R2:=λx y H Q=>∃ a v,x = .ref a/\DGet H a y (some v)/\Q v H
theorem ai2 (hu:X.A.units+1<cLine):IxR X aC3:=by
 intro value slice pins s σ H x y v u Q I rx ry h hs;obtain⟨a,z,rfl,g,q⟩:=h
 cases rx;exact tail_any (T3 I g) PySem.F.slot_dict_getitem.lookup (Yj hu I g ry λw' s' I' rw'=>⟨z,H,I',rw',q⟩) hs
def Pw (K:W.Frag):R2:=λx y H Q=>rIx K x y H Q\/aC3 x y H Q
theorem ar2 (hu:X.A.units+1<cLine):IxR X (Pw X.K):=ix_seq.or (ai2 hu)
def Wi (K:W.Frag):List V->Hp->VK->Prop:=λxs H Q=>(∃ x n,xs=[x]/\aC2 K x H n/\Q (.int n) H)\/∃ a kvs,xs=[V.ref a]/\H a=some (.dK kvs)/\Q (.int kvs.length) H
theorem Zc:CallR X (.builtin "len") (Wi X.K):=call_len.or Xg
def J8 (K:W.Frag):List V->Hp->VK->Prop:=λxs H Q=>(∃ x c t b,xs=[x,.ty c]/\Qf K H x t/\W.kitOne K t (.type c)=some b/\Q (.bl b) H)\/(∃ x c t b,xs=[x,.ref c]/\Qf K H x t/\W.kitOne K t (.ref c)=some b/\Q (.bl b) H)\/∃ a ys c b,xs=[V.ref a,.ty c]/\((SqT K H a ys/\W.kitOne K (.type "tuple") (.type c)=some b)\/(SqL K H a ys/\W.kitOne K (.type "list") (.type c)=some b))/\Q (.bl b) H
theorem Rz:CallR X (.builtin "isinstance") (J8 X.K):=call_isinst.or (call_isinstR.or Qb)
def Uj (K:W.Frag):List V->Hp->VK->Prop:=λxs H Q=>∃ p ys,xs=[.ref p]/\(SqL K H p ys\/SqT K H p ys)/\∀ l,H l=none->Q (.ref l) (upd H l (.lst ys))
theorem Vk:CallR X (.type "list") (Uj X.K):=Rh
def Lj (K:W.Frag):List V->Hp->VK->Prop:=λxs H Q=>∃ p ys,xs=[.ref p]/\((SqL K H p ys/\∀ l,H l=none->Q (.ref l) (upd H l (.tup ys)))\/(SqT K H p ys/\Q (.ref p) H))
theorem T7:CallR X (.type "tuple") (Lj X.K):=Oe
def av1:List V->Hp->VK->Prop:=λxs H Q=>(∃ i,xs=[.int i]/\Q (.int i) H)\/∃ k,xs=[.bl k]/\Q (.int (if k then 1 else 0)) H
theorem Qr:CallR X (.type "int") av1:=Zo
variable {tg:Expr}
def Fw (K:W.Frag)(x:V)(H1:Hp)(R:It->Hp->Prop):Prop:=(∃ a,x = .ref a/\(∃ xs,SqL K H1 a xs)/\R (Itl K a) H1)\/(∃ a,x = .ref a/\(∃ xs,SqT K H1 a xs)/\R (Itt K a) H1)\/(∃ z,x = .str z/\R (Its z) H1)\/∃ a kvs,x = .ref a/\((H1 a=some (.dK kvs)/\∀ o,R (Itd a o kvs) (upd H1 a (.frz o (.dK kvs))))\/∃ o,H1 a=some (.frz o (.dK kvs))/\R (Itd a o kvs) H1)
def ay6 (K:W.Frag)(tl:TE):TI:=fun σ H R=>tl σ H λx H1=>Fw K x H1 R
theorem au5 (hu:X.A.units+1<cLine){l:Expr}{tl:TE}(hl:PE X l tl):PI X tg l (ay6 X.K tl):=by
 intro pins s σ H R I h;refine thn (hl pins s σ H _ I h) λv s1 ⟨x,H1,I1,r1,q1⟩=>?_;rcases q1 with ⟨a,e,⟨xs,hq⟩,q⟩|⟨a,e,⟨xs,hq⟩,q⟩|⟨z,e,q⟩|⟨a,kvs,e,q⟩
 . subst e
   cases r1;obtain⟨its,rv,p,hz⟩:=I1.list hq;refine wpAny_pyIter_list p.isList ?_;refine⟨s1.heap.objs.size,[s1.heap.objs.size],_,_,H1,rfl,I1.kept (t':=s1.toks) λb o e=>A02 _ e,a02 a _,⟨_,A0O _ rfl,rfl,rfl⟩,λb hb=>?_,q⟩;have e:b=s1.heap.objs.size:=by simpa using hb
   subst e;exact I1.fpOk (A06 _) (I1.hok.fresh (A06 _))
 . subst e
   cases r1;obtain⟨its,rv,p,hz⟩:=I1.tuple hq;refine wpAny_pyIter_tuple (show s1.heap.IsTuple a its.toArray from p) ?_;refine⟨s1.heap.objs.size,[s1.heap.objs.size],_,_,H1,rfl,I1.kept (t':=s1.toks) λb o e=>A02 _ e,Vs a _,⟨_,A0O _ rfl,rfl,rfl⟩,λb hb=>?_,q⟩;have e:b=s1.heap.objs.size:=by simpa using hb
   subst e;exact I1.fpOk (A06 _) (I1.hok.fresh (A06 _))
 . subst e;exact an7 I1 r1 q
 subst e
 cases r1;rcases q with ⟨hd,q⟩|⟨o,hd,q⟩
 . exact ai9 I1 hd q
 exact a71 I1 hd q
end
def Fnd (P:Program)(w:World)(K:W.Frag)(mg:Str->Option Value)(base:Heap)(k:Nat)(x:Str)(ps:List Str)(sp:Sp):Prop:=
 ∃ f fd,FnOk P w K mg base CX0 k f fd ps sp/\mg x=some (.ref f)/\W.keepIn K (.ref f)=true/\Binds K fd ps []
section
variable {X:Cx}{k:Nat}{x:Str}{ps:List Str}{sp:Sp}{e:Expr}{es:List Expr}{t:TA}{p pos:Pos}
theorem An (F:Fnd X.prog X.w X.K X.mg X.base k x ps sp)(hr:Room k X.A)(hg:Gl X x)(ha:PA X (e :: es) t)(hdb:(x==("__debug__":Str))=false:=by decide)
  (he:starEach (e :: es) X.env=(false,eval e X.env) :: starEach es X.env:=by ac_nf) (hpl:(backTo pos (starEach es X.env)).any (·.1)=false:=by ac_nf):PE X (.Call (.Name x p) (e :: es) [] pos) (a72 sp [] E0 t):=by
 obtain⟨f,fd,h1,h2,h3,h4⟩:=F;exact X6 h1 hr hg h2 h3 h4 .nil ay3 ha hdb he hpl
end
def ExtBut (d:Addr)(H H':Hp):Prop:=∀ b o,b≠d->H b=some o->H' b=some o
theorem Same.lk {H H':Hp}{a:Addr}{o:HO}(e:Same H H')(h:H a=some o):H' a=some o:=e a o h
theorem ExtBut.lk {d:Addr}{H H':Hp}{a:Addr}{o:HO}(e:ExtBut d H H')(h:H a=some o)(n:a≠d):H' a=some o:=e a o n h
theorem Same.upd {H:Hp}{p:Addr}{o:HO}(h:H p=none):Same H (upd H p o):=λb u e=>by rw[Ag (ne_of_none e h)];exact e
theorem ExtBut.upd {H:Hp}{p:Addr}{o:HO}:ExtBut p H (upd H p o):=λb u n e=>by rw[Ag n];exact e
theorem Same.but {d:Addr}{H H':Hp}(e:Same H H'):ExtBut d H H':=λb o _ h=>e b o h
theorem ExtBut.trans {d:Addr}{H H1 H2:Hp}(a:ExtBut d H H1)(b:ExtBut d H1 H2):ExtBut d H H2:=λc o n h=>b c o n (a c o n h)
theorem ExtBut.same {d:Addr}{H H1 H2:Hp}(a:ExtBut d H H1)(b:Same H1 H2):ExtBut d H H2:=λc o n h=>b c o (a c o n h)
theorem ExtBut.after {d:Addr}{H H1 H2:Hp}(a:Same H H1)(b:ExtBut d H1 H2):ExtBut d H H2:=λc o n h=>b c o n (a c o h)
theorem ExtBut.refl {d:Addr}{H:Hp}:ExtBut d H H:=λ_ _ _ h=>h
theorem ExtBut.seq {K:W.Frag}{d:Addr}{H H':Hp}{a:Addr}{xs:List V}(e:ExtBut d H H')(n:a≠d)(h:SqL K H a xs):SqL K H' a xs:=by
 rcases h with (h|⟨o,h⟩)|h
 . exact .inl (.inl (e _ _ n h))
 . exact .inl (.inr ⟨o,e _ _ n h⟩)
 exact .inr h
def ac0 (xs:List V)(H:Hp)(Q:VK):Prop:=xs.length<=sizeLine/\∀ p,H p=none->Q (.ref p) (upd H p (.tup xs))
def am0 (xs:List V)(H:Hp)(Q:VK):Prop:=xs.length<=sizeLine/\∀ p,H p=none->Q (.ref p) (upd H p (.lst xs))
def ap7 (vs:List V)(H:Hp)(R:It->Hp->Prop):Prop:=∃ j:Int,vs=[.int j] /\ -(2 ^ 62)<=j/\j<2 ^ 62/\R (Itr 0 j.toNat) H
def ar1 (vs:List V)(H:Hp)(R:It->Hp->Prop):Prop:=∃ i j:Int,vs=[.int i,.int j]/\(-(2 ^ 62)<=i/\i<2 ^ 62 /\ -(2 ^ 62)<=j/\j<2 ^ 62)/\R (Itr i (j-i).toNat) H
def ak8 (g:TG)(tb:TS)(D:Ends)(σ:St)(J:It)(H1:Hp):Prop:=∃ W:Nat->Nat->St->Hp->Prop,(∃ m,W 0 m σ H1)/\∀ i m σ H,W i m σ H ->
 (J.stop i H/\D.nx σ H)\/(J.go i H/\∃ N:St->Hp->Prop,(∀ σ' H',N σ' H'->∃ m',m'<m/\W (i+1) m' σ' H')/\∀ x H',J.yld i H x H'->g x σ H' fun σ2 H2=>tb {D with nx:=N,ct:=N,bk:=D.nx} σ2 H2)
def Oi (k:Nat)(js:List Nat)(g:TG)(tt:TT)(te:TE)(σ:St)(J:It)(H1:Hp)(Q:VK):Prop:=∀ p,H1 p=none ->
 ∃ W:Nat->Nat->Hp->Prop,(∃ m,W 0 m (upd H1 p (.lst [])))/\∀ i m H,W i m H ->
  (J.stop i H/\Q (.ref p) H)\/(J.go i H/\∃ N:Hp->Prop,(∀ H',N H'->∃ m',m'<m/\W (i+1) m' H') /\
   ∀ x H',J.yld i H x H'->g x (List.replicate k none++Mi σ js) H' fun σ2 H2=>tt σ2 H2 λb H3=>if b=true then te σ2 H3 λy H4=>∃ acc,H4 p=some (.lst acc)/\acc.length<sizeLine/\N (upd H4 p (.lst (acc++[y]))) else N H3)
def a91 (p:Addr)(ps:List (V×V))(H:Hp)(Q:VK):Prop:=H p=some (.dK [])/\∃ kvs:List (Key×V),ps=kvs.map (λkv=>(kV kv.1,kv.2))/\kvs.length<=15/\Q (.ref p) (upd H p (.dK (Fl [] kvs)))
section
variable {K:W.Frag}{σ:St}{H:Hp}{Q:VK}{D:Ends}{ta tb te:TE}{c:TT}{t u:TS}{x y v:V}{i j:Int}
theorem i_var {n:Nat}(h:σ[n]? = some (some v))(k:Q v H):aw9 n σ H Q:=⟨v,h,k⟩
theorem i_c (k:Q v H):tC v σ H Q:=k
theorem i_next (k:D.nx σ H):ar5 D σ H:=k
theorem i_ret (k:te σ H D.rt):aB7 te D σ H:=k
theorem i_drop (k:te σ H λ_ H1=>D.nx σ H1):as5 te D σ H:=k
theorem i_asg {g:TG}(k:te σ H λx H1=>g x σ H1 D.nx):ak5 te g D σ H:=k
theorem i_gname {n:Nat}{R:St->Hp->Prop}(k:R (σ.set n (some v)) H):Lp n v σ H R:=k
theorem i_if (k:c σ H λb H1=>if b=true then t D σ H1 else u D σ H1):aA9 c t u D σ H:=k
theorem i_op {r:R2}(k:ta σ H λx H1=>tb σ H1 λy H2=>r x y H2 Q):tOp r ta tb σ H Q:=k
theorem i_un {r:V->Hp->VK->Prop}(k:ta σ H λx H1=>r x H1 Q):tUn r ta σ H Q:=k
theorem i_rU {g:Int->V}(k:Q (g i) H):rU g (.int i) H Q:=⟨i,rfl,k⟩
theorem i_rI0 {g:Int->Int->V}(k:Q (g i j) H):rI0 g (.int i) (.int j) H Q:=⟨i,j,rfl,rfl,k⟩
theorem i_rI {C:Int->Int->Prop}{g:Int->Int->V}(h:C i j)(k:Q (g i j) H):rI C g (.int i) (.int j) H Q:=⟨i,j,rfl,rfl,h,k⟩
theorem i_addI (k:Q (.int (i+j)) H):Px K (.int i) (.int j) H Q:=.inl ⟨i,j,rfl,rfl,k⟩
theorem i_addS {a b:Str}(h:a.length+b.length<=sizeLine)(k:Q (.str (a++b)) H):Px K (.str a) (.str b) H Q:=.inr (.inl ⟨a,b,rfl,rfl,h,k⟩)
theorem Sg {a b:Addr}{xs ys:List V}(h1:H a=some (.lst xs))(h2:H b=some (.lst ys))(h:xs.length+ys.length<=sizeLine)(k:∀ p H',H p=none->Same H H'->H' p=some (.lst (xs++ys))->Q (.ref p) H'):Px K (.ref a) (.ref b) H Q:=
 .inr (.inr (.inl ⟨a,b,xs,ys,rfl,rfl,h1,h2,h,λp hp=>k p _ hp (Same.upd hp) A9⟩))
theorem av8 (h:CMul i j)(k:Q (.int (i*j)) H):a69 (.int i) (.int j) H Q:=.inl ⟨i,j,rfl,rfl,h,k⟩
theorem am3 {a:Addr}{xs:List V}(h1:H a=some (.lst xs))(h2:-(2 ^ 63)<=i/\i<2 ^ 63)(h3:xs.length*i.toNat<=sizeLine)(k:∀ p H',H p=none->Same H H'->H' p=some (.lst (List.replicate i.toNat xs).flatten)->Q (.ref p) H'):a69 (.ref a) (.int i) H Q:=
 .inr ⟨a,i,xs,rfl,rfl,h1,h2.1,h2.2,h3,λp hp=>k p _ hp (Same.upd hp) A9⟩
theorem i_eqS (h:aw4 x y=true)(k:Q (.bl (decide (x=y))) H):av9 K x y H Q:=.inl ⟨h,k⟩
theorem i_neS (h:aw4 x y=true)(k:Q (.bl (!decide (x=y))) H):aw0 K x y H Q:=.inl ⟨h,k⟩
theorem W4 {dx dy:PyData}(h1:Is K H dx x)(h2:Is K H dy y)(h3:SeqAt.shaped dx=true)(h4:SeqAt.shaped dy=true)(k:Q (.bl (PyData.eqv dx dy)) H):av9 K x y H Q:=.inr ⟨dx,dy,h1,h2,h3,h4,k⟩
theorem Wf {dx dy:PyData}(h1:Is K H dx x)(h2:Is K H dy y)(h3:SeqAt.shaped dx=true)(h4:SeqAt.shaped dy=true)(k:Q (.bl (!PyData.eqv dx dy)) H):aw0 K x y H Q:=.inr ⟨dx,dy,h1,h2,h3,h4,k⟩
theorem i_true {R:Bool->Hp->Prop}(k:R true H):ad7 σ H R:=k
theorem i_tTest {R:Bool->Hp->Prop}(k:te σ H λx H'=>∃ b,x = .bl b/\R b H'):au1 te σ H R:=k
theorem i_tB {R:Bool->Hp->Prop}(k:te σ H λx H'=>∃ b,x = .bl b/\R b H'):tB te σ H R:=k
theorem i_bl {b:Bool}{R:Bool->Prop}(k:R b):∃ c,V.bl b = .bl c/\R c:=⟨b,rfl,k⟩
theorem i_not {R:Bool->Hp->Prop}(k:c σ H λb H1=>R (!b) H1):aA5 c σ H R:=k
theorem i_and {c':TT}{R:Bool->Hp->Prop}(k:c σ H λb H1=>if b=true then c' σ H1 R else R false H1):aA7 c c' σ H R:=k
theorem i_or {c':TT}{R:Bool->Hp->Prop}(k:c σ H λb H1=>if b=true then R true H1 else c' σ H1 R):tOr c c' σ H R:=k
theorem Eh {a:Addr}{xs:List V}(h:H a=some (.lst xs))(e:atI xs i=some v)(k:Q v H):Pw K (.ref a) (.int i) H Q:=.inl (.inl ⟨a,xs,i,v,rfl,rfl,SqL.of h,e,k⟩)
theorem aj4 {z:Str}{s:Nat}(h:z.length<=sizeLine)(e:atI z.cps.toList i=some s)(k:Q (.str ⟨#[s]⟩) H):Pw K (.str z) (.int i) H Q:=.inl (.inr (.inr ⟨z,i,s,rfl,rfl,h,e,k⟩))
theorem i_ixD {a:Addr}{kvs:List (Key×V)}{z:Str}(h:H a=some (.dK kvs))(e:Hz kvs (Sum.inr z:Key)=some v)(k:Q v H):Pw K (.ref a) (.str z) H Q:=.inr ⟨a,v,rfl,by rw[<- e];exact DGet.k (k:=Sum.inr z) h,k⟩
theorem i_lenL {a:Addr}{xs:List V}(h:H a=some (.lst xs))(k:Q (.int xs.length) H):Wi K [.ref a] H Q:=.inl ⟨.ref a,_,rfl,.inl ⟨xs,SqL.of h,rfl⟩,k⟩
theorem Ru {c:String}{t:Value}{b:Bool}(h:Qf K H x t)(e:W.kitOne K t (.type c)=some b)(k:Q (.bl b) H):J8 K [x,.ty c] H Q:=.inl ⟨x,c,t,b,rfl,h,e,k⟩
theorem ab6 {c:String}{b:Bool}{a:Addr}{ys:List V}(h:SqT K H a ys)(e:W.kitOne K (.type "tuple") (.type c)=some b)(k:Q (.bl b) H):J8 K [.ref a,.ty c] H Q:=.inr (.inr ⟨a,ys,c,b,rfl,.inl ⟨h,e⟩,k⟩)
theorem aa1 {c:String}{b:Bool}{a:Addr}{ys:List V}(h:SqL K H a ys)(e:W.kitOne K (.type "list") (.type c)=some b)(k:Q (.bl b) H):J8 K [.ref a,.ty c] H Q:=.inr (.inr ⟨a,ys,c,b,rfl,.inr ⟨h,e⟩,k⟩)
theorem af4 {a:Addr}{xs:List V}(h:SqL K H a xs)(k:∀ p H',H p=none->Same H H'->H' p=some (.lst xs)->Q (.ref p) H'):Uj K [.ref a] H Q:=⟨a,xs,rfl,.inl h,λp hp=>k p _ hp (Same.upd hp) A9⟩
theorem Js {a:Addr}{xs:List V}(h:SqL K H a xs)(k:∀ p H',H p=none->Same H H'->H' p=some (.tup xs)->Q (.ref p) H'):Lj K [.ref a] H Q:=⟨a,xs,rfl,.inl ⟨h,λp hp=>k p _ hp (Same.upd hp) A9⟩⟩
theorem i_intB {b:Bool}(k:Q (.int (if b then 1 else 0)) H):av1 [.bl b] H Q:=.inr ⟨b,rfl,k⟩
theorem i_sl {r:V->Option Int->Option Int->Hp->VK->Prop}{tl th:TO}(k:te σ H λx H1=>tl σ H1 λl H2=>th σ H2 λu H3=>r x l u H3 Q):tSl r te tl th σ H Q:=k
theorem i_noPart {R:Option Int->Hp->Prop}(k:R none H):Wx σ H R:=k
theorem i_part {R:Option Int->Hp->Prop}(k:te σ H λx H1=>∃ i,x = .int i/\R (some i) H1):am4 te σ H R:=k
theorem i_int {R:Int->Prop}(k:R i):∃ j,V.int i = .int j/\R j:=⟨i,rfl,k⟩
theorem i_slS {z:Str}{lo hi:Option Int}(h:z.length<=sizeLine)(k:Q (.str (Txt.slice z lo hi)) H):ak7 K (.str z) lo hi H Q:=.inr (.inr (.inl ⟨z,rfl,h,k⟩))
theorem Mu {a:Addr}{xs:List V}{lo hi:Option Int}(h:SqL K H a xs)(k:∀ p H',H p=none->Same H H'->H' p=some (.lst (Kz xs lo hi))->Q (.ref p) H'):ak7 K (.ref a) lo hi H Q:=.inl ⟨a,xs,rfl,h,λp hp=>k p _ hp (Same.upd hp) A9⟩
theorem i_bm {T:String}{r:V->List V->Hp->VK->Prop}{ts:TA}(k:te σ H λx H1=>tyV K T x H1/\ts σ H1 λxs H2=>r x xs H2 Q):tBM K T r te ts σ H Q:=k
theorem i_bm0 {T:String}{r:V->List V->Hp->VK->Prop}(k:te σ H λx H1=>tyV K T x H1/\r x [] H1 Q):ax3 K T r te σ H Q:=k
theorem i_call {sp:Sp}{E:XK}{ts:TA}(k:ts σ H λvs H1=>sp (vs++[]) H1 Q E):a72 sp [] E ts σ H Q:=k
theorem i_cb {r:List V->Hp->VK->Prop}{ts:TA}(k:ts σ H λvs H1=>r vs H1 Q):tCB r ts σ H Q:=k
theorem i_cons {tr:TA}{R:List V->Hp->Prop}(k:ta σ H λx H1=>tr σ H1 λxs H2=>R (x :: xs) H2):Vz ta tr σ H R:=k
theorem i_nil {R:List V->Hp->Prop}(k:R [] H):al0 σ H R:=k
theorem i_tup {ts:TA}(k:ts σ H λxs H1=>ac0 xs H1 Q):aB8 ts σ H Q:=k
theorem i_lst {ts:TA}(k:ts σ H λxs H1=>am0 xs H1 Q):aA0 ts σ H Q:=k
theorem Ap {xs:List V}(h:xs.length<=sizeLine)(k:∀ p H',H p=none->Same H H'->H' p=some (.tup xs)->Q (.ref p) H'):ac0 xs H Q:=⟨h,λp hp=>k p _ hp (Same.upd hp) A9⟩
theorem Bb {xs:List V}(h:xs.length<=sizeLine)(k:∀ p H',H p=none->Same H H'->H' p=some (.lst xs)->Q (.ref p) H'):am0 xs H Q:=⟨h,λp hp=>k p _ hp (Same.upd hp) A9⟩
theorem a82 (k:∀ p H',H p=none->Same H H'->H' p=some (.dK [])->Q (.ref p) H'):ab8 σ H Q:=λp hp=>k p _ hp (Same.upd hp) A9
theorem i_put {td ty tv:TE}(k:tv σ H λv H1=>td σ H1 λx H2=>ty σ H2 λy H3=>∃ a H4,x = .ref a/\DPut H3 a y v H4/\D.nx σ H4):av4 td ty tv D σ H:=k
theorem Kr {a:Addr}{kvs:List (Key×V)}{z:Str}{R:Hp->Prop}(h:H a=some (.dK kvs))(hl:kvs.length<1000)(k:∀ H',ExtBut a H H'->H' a=some (.dK (K6 kvs (Sum.inr z) v))->R H'):∃ b H4,V.ref a = .ref b/\DPut H b (.str z) v H4/\R H4:=
 ⟨a,_,rfl,DPut.k (k:=Sum.inr z) h (Wk (A28 hl)),k _ ExtBut.upd A9⟩
theorem i_for {wi:TI}{g:TG}{tb:TS}(k:wi σ H λJ H1=>ak8 g tb D σ J H1):aC1 wi g tb D σ H:=k
theorem i_comp {m:Nat}{js:List Nat}{wi:TI}{g:TG}{tt:TT}(k:wi σ H λJ H1=>Oi m js g tt te σ J H1 Q):ae4 m js wi g tt te σ H Q:=k
theorem Mq {a:Addr}{xs:List V}{R:It->Hp->Prop}(h:SqL K H a xs)(k:R (Itl K a) H):Fw K (.ref a) H R:=.inl ⟨a,rfl,⟨xs,h⟩,k⟩
theorem Xt {a:Addr}{xs:List V}{R:It->Hp->Prop}(h:SqT K H a xs)(k:R (Itt K a) H):Fw K (.ref a) H R:=.inr (.inl ⟨a,rfl,⟨xs,h⟩,k⟩)
theorem az0 {a:Addr}{kvs:List (Key×V)}{R:It->Hp->Prop}(h:H a=some (.dK kvs))(k:∀ o,R (Itd a o kvs) (upd H a (.frz o (.dK kvs)))):Fw K (.ref a) H R:=.inr (.inr (.inr ⟨a,kvs,rfl,.inl ⟨h,k⟩⟩))
theorem az2 {a:Addr}{kvs:List (Key×V)}{o:Obj}{R:It->Hp->Prop}(h:H a=some (.frz o (.dK kvs)))(k:R (Itd a o kvs) H):Fw K (.ref a) H R:=.inr (.inr (.inr ⟨a,kvs,rfl,.inr ⟨o,h,k⟩⟩))
theorem i_rng1 {ts:TA}{R:It->Hp->Prop}(k:ts σ H λvs H1=>ap7 vs H1 R):ar9 ts σ H R:=k
theorem Gf {R:It->Hp->Prop}(h:-(2 ^ 62)<=i/\i<2 ^ 62)(k:R (Itr 0 i.toNat) H):ap7 [V.int i] H R:=⟨i,rfl,h.1,h.2,k⟩
theorem i_rng2 {ts:TA}{R:It->Hp->Prop}(k:ts σ H λvs H1=>ar1 vs H1 R):av5 ts σ H R:=k
theorem ab9 {R:It->Hp->Prop}(h:(-(2 ^ 62)<=i/\i<2 ^ 62) /\ -(2 ^ 62)<=j/\j<2 ^ 62)(k:R (Itr i (j-i).toNat) H):ar1 [V.int i,V.int j] H R:=⟨i,j,rfl,⟨h.1.1,h.1.2,h.2.1,h.2.2⟩,k⟩
theorem i_iany {R:It->Hp->Prop}(k:te σ H λx H1=>Fw K x H1 R):ay6 K te σ H R:=k
theorem am8 {trs:List (TE×TE)}(k:∀ p H1,H p=none->Same H H1->H1 p=some (.dK [])->Lx trs σ H1 λps H2=>a91 p ps H2 Q):av7 trs σ H Q:=λp hp=>k p _ hp (Same.upd hp) A9
theorem i_pair {tk tv:TE}{r:List (TE×TE)}{R:List (V×V)->Hp->Prop}(k:tk σ H λx H1=>tv σ H1 λy H2=>Lx r σ H2 λps H3=>R ((x,y) :: ps) H3):Lx ((tk,tv) :: r) σ H R:=k
theorem ac9 {p:Addr}{ps:List (V×V)}(kvs:List (Key×V))(h:H p=some (.dK []))(e:ps=kvs.map (λkv=>(kV kv.1,kv.2)))(hl:kvs.length<=15)(k:∀ H',ExtBut p H H'->H' p=some (.dK (Fl [] kvs))->Q (.ref p) H'):a91 p ps H Q:=⟨h,kvs,e,hl,k _ ExtBut.upd A9⟩
theorem i_pair0 {R:List (V×V)->Hp->Prop}(k:R [] H):Lx [] σ H R:=k
end
theorem Ly {c A B:Prop}[Decidable c](h1:c->A)(h2:¬ c->B):if decide c=true then A else B:=by
 by_cases h:c
 . rw[A12 (A0P h)];exact h1 h
 rw[A13 (by rw[A0R h];exact A0I)];exact h2 h
theorem aq9 {c A B:Prop}[Decidable c](h1:¬ c->A)(h2:c->B):if(!decide c)=true then A else B:=by
 by_cases h:c
 . rw[A0P h,A13 nofun];exact h2 h
 rw[A0R h,A12 nofun];exact h1 h
theorem Sz {b:Bool}{A B:Prop}(h1:b=false->A)(h2:b=true->B):if(!b)=true then A else B:=by
 cases b
 . exact h1 rfl
 exact h2 rfl
theorem iteNT {A B:Prop}(h:B):if(!true)=true then A else B:=h
theorem iteNF {A B:Prop}(h:A):if(!false)=true then A else B:=h
theorem A7 {n:Nat}(h:n<=1000000):n<=sizeLine:=by rw[A16];omega
def Ht (J:It)(xs:List V)(G:Hp->Prop):Prop:=
 ∀ i H,G H->(i<xs.length->J.go i H)/\(xs.length<=i->J.stop i H)/\∀ x H',i<xs.length->J.yld i H x H'->H'=H/\xs[i]? = some x
theorem Cv {K:W.Frag}{a:Addr}{xs:List V}:Ht (Itl K a) xs λH=>SqL K H a xs:=by intro i H g;refine⟨λh=>⟨xs,xs[i],g,A07 h⟩,λh=>⟨xs,g,h⟩,λx H' _ h=>⟨h.1,h.2 xs g⟩⟩
theorem Jm {K:W.Frag}{a:Addr}{xs:List V}:Ht (Itt K a) xs λH=>SqT K H a xs:=by intro i H g;refine⟨λh=>⟨xs,xs[i],g,A07 h⟩,λh=>⟨xs,g,h⟩,λx H' _ h=>⟨h.1,h.2 xs g⟩⟩
theorem Rr {a:Addr}{o:Obj}{kvs:List (Key×V)}:Ht (Itd a o kvs) (kvs.map λkv=>kV kv.1) λH=>H a=some (.frz o (.dK kvs)):=by intro i H g;rw[A01];refine⟨λh=>⟨g,h⟩,λh=>⟨g,h⟩,λx H' _ h=>?_⟩;obtain⟨e,kv,h1,h2⟩:=h;exact⟨e,by rw[A09,h1,h2];rfl⟩
theorem B5 {lo:Int}{n:Nat}:Ht (Itr lo n) ((List.range n).map λ(i:Nat)=>V.int (lo+(i:Int))) λ_=>True:=by
 intro i H _;refine⟨λh=>?_,λh=>?_,λx H' hi h=>?_⟩
 . show i<n;simpa using h
 . show n<=i;simpa using h
 obtain⟨e,hx⟩:=h;refine⟨e,?_⟩;have hi':i<n:=by simpa using hi
 rw[A09,List.getElem?_range hi',hx];rfl
theorem a44 {J:It}{xs:List V}{G:Hp->Prop}{g:TG}{tb:TS}{D:Ends}{σ:St}{H:Hp}(hw:Ht J xs G)(Pv:Nat->St->Hp->Prop)(h0:Pv 0 σ H)(hG:∀ i σ H,Pv i σ H->G H)
  (hs:∀ i x σ H,xs[i]? = some x->Pv i σ H->g x σ H fun σ2 H2=>tb {D with nx:=Pv (i+1),ct:=Pv (i+1),bk:=D.nx} σ2 H2) (hd:∀ σ H,Pv xs.length σ H->D.nx σ H) :
  ∃ W:Nat->Nat->St->Hp->Prop,(∃ m,W 0 m σ H)/\∀ i m σ H,W i m σ H ->
   (J.stop i H/\D.nx σ H)\/(J.go i H/\∃ N:St->Hp->Prop,(∀ σ' H',N σ' H'->∃ m',m'<m/\W (i+1) m' σ' H')/\∀ x H',J.yld i H x H'->g x σ H' fun σ2 H2=>tb {D with nx:=N,ct:=N,bk:=D.nx} σ2 H2):=by
 refine⟨λi m σ H=>m=xs.length-i/\i<=xs.length/\Pv i σ H,⟨xs.length,by simp,Nat.zero_le _,h0⟩,?_⟩;rintro i m σ H ⟨rfl,hi,p⟩;obtain⟨w1,w2,w3⟩:=hw i H (hG i σ H p)
 by_cases hlt:i<xs.length
 . refine .inr ⟨w1 hlt,Pv (i+1),fun σ' H' p'=>⟨xs.length-(i+1),by omega,rfl,hlt,p'⟩,λx H' y=>?_⟩;obtain⟨e,hx⟩:=w3 x H' hlt y;subst e;exact hs i x σ _ hx p
 have e:i=xs.length:=by omega
 subst e;exact .inl ⟨w2 (A06 _),hd σ H p⟩
def CN (p:Addr)(n:Nat)(Pv:Nat->List V->Hp->Prop)(i:Nat):Hp->Prop:=λH'=>i+1<=n/\∃ acc,H' p=some (.lst acc)/\acc.length<=i+1/\Pv (i+1) acc H'
theorem ad2 {p:Addr}{n:Nat}{Pv:Nat->List V->Hp->Prop}{i:Nat}{H:Hp}{acc:List V}{y:V}(hn:n<=1000000)(hi:i<n)(hl:acc.length<=i)(e:H p=some (.lst acc))(k:∀ H',ExtBut p H H'->H' p=some (.lst (acc++[y]))->Pv (i+1) (acc++[y]) H') :
  ∃ acc,H p=some (.lst acc)/\acc.length<sizeLine/\CN p n Pv i (upd H p (.lst (acc++[y]))):=
 ⟨acc,e,by rw[A16];omega,hi,acc++[y],A9,by rw[A04,A0J];omega,k _ ExtBut.upd A9⟩
theorem Pe {p:Addr}{n:Nat}{Pv:Nat->List V->Hp->Prop}{i:Nat}{H:Hp}{acc:List V}(hi:i<n)(hl:acc.length<=i)(e:H p=some (.lst acc))(k:Pv (i+1) acc H):CN p n Pv i H:=⟨hi,acc,e,by omega,k⟩
theorem Zi {J:It}{xs:List V}{G:Hp->Prop}{g:TG}{tt:TT}{te:TE}{σ:St}{H:Hp}{Q:VK}{p:Addr}{k:Nat}{js:List Nat}(hw:Ht J xs G)(hp:H p=none)(Pv:Nat->List V->Hp->Prop)
  (h0:∀ H',Same H H'->H' p=some (.lst [])->Pv 0 [] H') (hG:∀ i acc H,Pv i acc H->G H)
  (hs:∀ i x acc H,xs[i]? = some x->i<xs.length->acc.length<=i->H p=some (.lst acc)->Pv i acc H->g x (List.replicate k none++Mi σ js) H fun σ2 H2=>tt σ2 H2 λb H3=>if b=true then te σ2 H3 λy H4=>∃ acc,H4 p=some (.lst acc)/\acc.length<sizeLine/\CN p xs.length Pv i (upd H4 p (.lst (acc++[y]))) else CN p xs.length Pv i H3)
  (hd:∀ acc H,H p=some (.lst acc)->acc.length<=xs.length->Pv xs.length acc H->Q (.ref p) H) :
  ∃ W:Nat->Nat->Hp->Prop,(∃ m,W 0 m (upd H p (.lst [])))/\∀ i m H,W i m H ->
   (J.stop i H/\Q (.ref p) H)\/(J.go i H/\∃ N:Hp->Prop,(∀ H',N H'->∃ m',m'<m/\W (i+1) m' H') /\
    ∀ x H',J.yld i H x H'->g x (List.replicate k none++Mi σ js) H' fun σ2 H2=>tt σ2 H2 λb H3=>
     if b=true then te σ2 H3 λy H4=>∃ acc,H4 p=some (.lst acc)/\acc.length<sizeLine/\N (upd H4 p (.lst (acc++[y]))) else N H3):=by
 refine⟨λi m H=>m=xs.length-i/\i<=xs.length/\∃ acc,H p=some (.lst acc)/\acc.length<=i/\Pv i acc H,⟨xs.length,by simp,Nat.zero_le _,[],A9,Nat.le_refl _,h0 _ (Same.upd hp) A9⟩,?_⟩;rintro i m H ⟨rfl,hi,acc,hacc,hl,q⟩;obtain⟨w1,w2,w3⟩:=hw i H (hG i acc H q)
 by_cases hlt:i<xs.length
 . refine .inr ⟨w1 hlt,CN p xs.length Pv i,λH' ⟨h1,h2⟩=>⟨xs.length-(i+1),by omega,rfl,h1,h2⟩,λx H' y=>?_⟩;obtain⟨e,hx⟩:=w3 x H' hlt y;subst e;exact hs i x acc _ hx hlt hl hacc q
 have e:i=xs.length:=by omega
 subst e;exact .inl ⟨w2 (A06 _),hd acc H hacc hl q⟩
def al5 (p:Addr)(N:Hp->Prop):VK:=λy H4=>∃ acc,H4 p=some (.lst acc)/\acc.length<sizeLine/\N (upd H4 p (.lst (acc++[y])))
theorem J4 {J:It}{xs:List V}{G:Hp->Prop}{g:TG}{tt:TT}{te:TE}{σ:St}{H:Hp}{Q:VK}{k:Nat}{js:List Nat}(hw:Ht J xs G)(Pv:Addr->Nat->List V->Hp->Prop)
  (h0:∀ p H',H p=none->Same H H'->H' p=some (.lst [])->Pv p 0 [] H') (hG:∀ p i acc H,Pv p i acc H->G H)
  (hs:∀ p i x acc H1,H p=none->xs[i]? = some x->i<xs.length->acc.length<=i->H1 p=some (.lst acc)->Pv p i acc H1->g x (List.replicate k none++Mi σ js) H1 fun σ2 H2=>tt σ2 H2 λb H3=>if b=true then te σ2 H3 (al5 p (CN p xs.length (Pv p) i)) else CN p xs.length (Pv p) i H3)
  (hd:∀ p acc H1,H p=none->H1 p=some (.lst acc)->acc.length<=xs.length->Pv p xs.length acc H1->Q (.ref p) H1):Oi k js g tt te σ J H Q:=λp hp=>
 Zi hw hp (Pv p) (λH' e h=>h0 p H' hp e h) (hG p) (λi x acc H1 h1 h2 h3 h4 h5=>hs p i x acc H1 hp h1 h2 h3 h4 h5) λacc H1 h1 h2 h3=>hd p acc H1 hp h1 h2 h3
theorem Mg {p:Addr}{n:Nat}{Pv:Nat->List V->Hp->Prop}{i:Nat}{H:Hp}{acc:List V}{y:V}(hn:n<=1000000)(hi:i<n)(hl:acc.length<=i)(e:H p=some (.lst acc))(k:∀ H',ExtBut p H H'->H' p=some (.lst (acc++[y]))->Pv (i+1) (acc++[y]) H') :
  al5 p (CN p n Pv i) y H:=ad2 hn hi hl e k
theorem X2 {J:It}{xs:List V}{G:Hp->Prop}{g:TG}{tt:TT}{te:TE}{σ:St}{H:Hp}{Q:VK}{k:Nat}{js:List Nat}(hw:Ht J xs G)(t:V->Bool)(f:V->V)(hz:xs.length<=1000000)(hG:∀ H',Same H H'->G H')
  (hs:∀(i:Nat) x H1 (R:VK) (R':Hp->Prop),xs[i]? = some x->Same H H1->(t x=true->R (f x) H1)->(t x=false->R' H1)->g x (List.replicate k none++Mi σ js) H1 fun σ2 H2=>tt σ2 H2 λb H3=>if b=true then te σ2 H3 R else R' H3)
  (hd:∀ p H',H p=none->Same H H'->H' p=some (.lst ((xs.filter t).map f))->Q (.ref p) H'):Oi k js g tt te σ J H Q:=by
 refine J4 hw (λp i acc H1=>Same H H1/\acc=((xs.take i).filter t).map f) (λp H' hp e h=>⟨e,by simp⟩) (λp i acc H1 h=>hG H1 h.1) (λp i x acc H1 hp hx hi hl ha ⟨e,hacc⟩=>?_) λp acc H1 hp ha hl ⟨e,hacc⟩=>?_
 . have ht:xs.take (i+1)=xs.take i++[x]:=by rw[A18,hx];rfl
   refine hs i x H1 _ _ hx e (λh=>?_) λh=>?_
   . refine Mg hz hi hl ha λH' e' h'=>⟨λb o hb=>e' b o (ne_of_none hb hp) (e b o hb),?_⟩;rw[ht,A2A,A0N,hacc];simp[h]
   refine Pe hi hl ha ⟨e,?_⟩;rw[ht,A2A,A0N,hacc];simp[h]
 refine hd p H1 hp e ?_;rw[ha,hacc,A1A]
theorem Jb {α:Type}(xs:List α):xs.filter (λ_=>true)=xs:=by simp
theorem Nx {J:It}{xs:List V}{G:Hp->Prop}{g:TG}{te:TE}{σ:St}{H:Hp}{Q:VK}{k:Nat}{js:List Nat}(hw:Ht J xs G)(f:V->V)(hz:xs.length<=1000000)(hG:∀ H',Same H H'->G H')
  (hs:∀(i:Nat) x H1 (R:VK),xs[i]? = some x->Same H H1->R (f x) H1->g x (List.replicate k none++Mi σ js) H1 fun σ2 H2=>te σ2 H2 R)
  (hd:∀ p H',H p=none->Same H H'->H' p=some (.lst (xs.map f))->Q (.ref p) H'):Oi k js g ad7 te σ J H Q:=
 X2 hw (λ_=>true) f hz hG (λi x H1 R R' hx e h _=>by
  have:=hs i x H1 R hx e (h rfl);show g x _ H1 fun σ2 H2=>if true=true then te σ2 H2 R else R' H2
  simpa using this) λp H' hp e h=>hd p H' hp e (by rw[h,Jb])
theorem Ez {J:It}{xs:List V}{G:Hp->Prop}{g:TG}{tb:TS}{D:Ends}{σ:St}{H:Hp}(hw:Ht J xs G)(Pv:Nat->St->Hp->Prop)(h0:Pv 0 σ H)(hG:∀ i σ H,Pv i σ H->G H)
  (hs:∀ i x σ H,xs[i]? = some x->i<xs.length->Pv i σ H->g x σ H fun σ2 H2=>tb {D with nx:=Pv (i+1),ct:=Pv (i+1),bk:=D.nx} σ2 H2) (hd:∀ σ H,Pv xs.length σ H->D.nx σ H):ak8 g tb D σ J H:=
 a44 hw Pv h0 hG (λi x σ H hx=>hs i x σ H hx (A03.mp hx).1) hd
section
variable {X:Cx}{K:W.Frag}
theorem Ab (hK:X.K=K:=by ac_nf):OpR X (binaryOp .Add) (Px K):=hK ▸ ad4
theorem Bx (hq:QA X.A)(hK:X.K=K:=by ac_nf):OpR X (compareOp .Eq) (av9 K):=hK ▸ ao7 hq
theorem Iv (hq:QA X.A)(hK:X.K=K:=by ac_nf):OpR X (compareOp .NotEq) (aw0 K):=hK ▸ ar0 hq
theorem Qv (hq:QA X.A)(hK:X.K=K:=by ac_nf):OpR X (compareOp .In) (Wj K false):=hK ▸ au0 hq
theorem Cw (hq:QA X.A)(hK:X.K=K:=by ac_nf):OpR X (compareOp .NotIn) (Wj K true):=hK ▸ Ww hq
theorem A6 (hu:X.A.units+1<cLine)(hK:X.K=K:=by ac_nf):IxR X (Pw K):=hK ▸ ar2 hu
theorem Mh (hK:X.K=K:=by ac_nf):SlR X (ak7 K):=hK ▸ sl_A
theorem Au (hK:X.K=K:=by ac_nf):CallR X (.builtin "len") (Wi K):=hK ▸ Zc
theorem Bw (hK:X.K=K:=by ac_nf):CallR X (.builtin "isinstance") (J8 K):=hK ▸ Rz
theorem Np (hK:X.K=K:=by ac_nf):CallR X (.type "list") (Uj K):=hK ▸ Vk
theorem C0 (hK:X.K=K:=by ac_nf):CallR X (.type "tuple") (Lj K):=hK ▸ T7
theorem Bp {tg:Expr}(hu:X.A.units+1<cLine){l:Expr}{tl:TE}(hl:PE X l tl)(hK:X.K=K:=by ac_nf):PI X tg l (ay6 K tl):=hK ▸ au5 hu hl
theorem Kg {es:List Expr}{k:Nat}{t:TGs}{n:Nat}{pos:Pos}(hc:X.calm=true)(h:PGs X es t)(hK:X.K=K:=by ac_nf)
  (hn:(assignEach es X.env).length=n:=by ac_nf) (hst:(assignEach es X.env).findIdx? (·.1)=none:=by ac_nf):PG X (.Tuple es k pos) (ar4 K n t):=hK ▸ al1 hc h hn hst
variable {o e:Expr}{es:List Expr}{to:TE}{t:TA}{name:Str}{apos cpos:Pos}{T id:String}{r:V->List V->Hp->VK->Prop}
theorem ae7 (pa:PlainAttrs T)(slot:Slot T name id)(hty:typeOf (.builtin id)=pure (.type "method_descriptor"))(hm:MtR X id r)(ho:PE X o to)(hK:X.K=K:=by ac_nf)
  (hbase:attributeBase o name X.env (eval o X.env)=eval o X.env:=by ac_nf) (hline:(apos.endLine==cpos.line)=true:=by ac_nf):PE X (.Call (.Attribute o name apos) [] [] cpos) (ax3 K T r to):=hK ▸ aq2 pa slot hty hm ho hbase hline
theorem Fv (pa:PlainAttrs T)(slot:Slot T name id)(hty:typeOf (.builtin id)=pure (.type "method_descriptor"))(hm:MtR X id r)(ho:PE X o to)(ha:PA X (e :: es) t)(hK:X.K=K:=by ac_nf)
  (hbase:attributeBase o name X.env (eval o X.env)=eval o X.env:=by ac_nf)
  (hfew:((backTo cpos (starEach (e :: es) X.env)).all (λx=>!x.1)&&(backToKw cpos (keywordEach [] X.env)).all (λx=>x.1.isSome)
   && decide ((e :: es).length+([]:List Keyword).length+(if([]:List Keyword).isEmpty then 0 else 1)<30))=true:=by ac_nf)
  (hline:(apos.endLine==cpos.line)=true:=by ac_nf) (hs:starEach (e :: es) X.env=(false,eval e X.env) :: starEach es X.env:=by ac_nf) (hplain:(backTo cpos (starEach es X.env)).any (·.1)=false:=by ac_nf) :
  PE X (.Call (.Attribute o name apos) (e :: es) [] cpos) (tBM K T r to t):=hK ▸ ay1 pa slot hty hm ho ha hbase hfew hline hs hplain
end
def Fz (H H':Hp):Prop:=∀ a xs,Rd H a (.tup xs)->Rd H' a (.tup xs)
theorem Fz.refl (H:Hp):Fz H H:=λ_ _ h=>h
theorem Fz.trans {H H1 H2:Hp}(a:Fz H H1)(b:Fz H1 H2):Fz H H2:=λc xs h=>b c xs (a c xs h)
theorem Same.fz {H H':Hp}(e:Same H H'):Fz H H':=λa xs h=>by
 rcases h with h|⟨o,h⟩
 . exact .inl (e _ _ h)
 exact .inr ⟨o,e _ _ h⟩
theorem Xb {p:Addr}{H H':Hp}(e:ExtBut p H H')(hp:∀ xs,¬ Rd H p (.tup xs)):Fz H H':=λa xs h=>by
 have n:a≠p:=λq=>hp xs (q ▸ h);rcases h with h|⟨o,h⟩
 . exact .inl (e _ _ n h)
 exact .inr ⟨o,e _ _ n h⟩
theorem ExtBut.fzL {p:Addr}{H H':Hp}{l:List V}(e:ExtBut p H H')(hp:H p=some (.lst l)):Fz H H':=Xb e λxs h=>by
 rcases h with h|⟨o,h⟩
 . rw[hp] at h;cases h
 rw[hp] at h;cases h
theorem ExtBut.fzD {p:Addr}{H H':Hp}{l:List (Key×V)}(e:ExtBut p H H')(hp:H p=some (.dK l)):Fz H H':=Xb e λxs h=>by
 rcases h with h|⟨o,h⟩
 . rw[hp] at h;cases h
 rw[hp] at h;cases h
theorem Fz.seq {K:W.Frag}{H H':Hp}(e:Fz H H'){a:Addr}{xs:List V}(h:SqT K H a xs):SqT K H' a xs:=by
 rcases h with h|h
 . exact .inl (e _ _ h)
 exact .inr h
mutual
def frz:PyData->Bool
 |.tuple ds=>frzL ds
 |.list _=>false
 |.dict _=>false
 |_=>true
def frzL:List PyData->Bool
 | []=>true
 |d :: ds=>frz d&&frzL ds
end
mutual
theorem Is.fz {K:W.Frag}{H H':Hp}(e:Fz H H'):∀(d:PyData) (v:V),frz d=true->Is K H d v->Is K H' d v
 |.none,_,_,h=>by simp only[Is] at h ⊢;exact h
 |.bool _,_,_,h=>by simp only[Is] at h ⊢;exact h
 |.int _,_,_,h=>by simp only[Is] at h ⊢;exact h
 |.str _,_,_,h=>by simp only[Is] at h ⊢;exact h
 |.list ds,v,hf,_=>by simp[frz] at hf
 |.tuple ds,v,hf,h=>by simp only[Is] at h ⊢;obtain⟨a,xs,e1,e2,e3⟩:=h;exact⟨a,xs,e1,e.seq e2,IsL.fz e ds xs (by simpa only[frz] using hf) e3⟩
 |.dict _,_,_,h=>by simp only[Is] at h
theorem IsL.fz {K:W.Frag}{H H':Hp}(e:Fz H H'):∀(ds:List PyData) (vs:List V),frzL ds=true->IsL K H ds vs->IsL K H' ds vs
 | [],_,_,h=>by simp only[IsL] at h ⊢;exact h
 |d :: ds,vs,hf,h=>by simp only[IsL] at h ⊢;simp only[frzL,Bool.and_eq_true] at hf;obtain⟨v,r,e1,e2,e3⟩:=h;exact⟨v,r,e1,Is.fz e d v hf.1 e2,IsL.fz e ds r hf.2 e3⟩
end
section
variable {K:W.Frag}{H H':Hp}
theorem IsL.length:∀ {ds:List PyData} {vs:List V},IsL K H ds vs->ds.length=vs.length
 | [],_,h=>by simp only[IsL] at h;subst h;rfl
 |d :: ds,vs,h=>by simp only[IsL] at h;obtain⟨v,r,rfl,_,e3⟩:=h;simp only[List.length_cons,IsL.length e3]
theorem IsL.get:∀ {ds:List PyData} {vs:List V} {i:Nat} {x:V},IsL K H ds vs->vs[i]? = some x->∃ d,ds[i]? = some d/\Is K H d x
 | [],_,_,_,h,e=>by simp only[IsL] at h;subst h;simp at e
 |d :: ds,vs,i,x,h,e=>by
   simp only[IsL] at h;obtain⟨v,r,rfl,e2,e3⟩:=h
   cases i with
   |zero=>simp at e;subst e;exact⟨d,rfl,e2⟩
   |succ i=>obtain⟨d',h1,h2⟩:=IsL.get (i:=i) e3 (by simpa using e);exact⟨d',by simpa using h1,h2⟩
theorem IsL.at:∀ {ds:List PyData} {vs:List V} {i:Nat} {d:PyData},IsL K H ds vs->ds[i]? = some d->∃ x,vs[i]? = some x/\Is K H d x
 | [],_,_,_,h,e=>by simp at e
 |d :: ds,vs,i,d',h,e=>by
   simp only[IsL] at h;obtain⟨v,r,rfl,e2,e3⟩:=h
   cases i with
   |zero=>simp at e;subst e;exact⟨v,rfl,e2⟩
   |succ i=>obtain⟨x,h1,h2⟩:=IsL.at (i:=i) e3 (by simpa using e);exact⟨x,by simpa using h1,h2⟩
theorem IsL.append:∀ {ds es:List PyData} {vs us:List V},IsL K H ds vs->IsL K H es us->IsL K H (ds++es) (vs++us)
 | [],_,_,_,h,g=>by simp only[IsL] at h;subst h;exact g
 |d :: ds,es,vs,us,h,g=>by simp only[IsL] at h;obtain⟨v,r,rfl,e2,e3⟩:=h;simp only[List.cons_append,IsL];exact⟨v,_,rfl,e2,IsL.append e3 g⟩
theorem IsL.one {d:PyData}{v:V}(h:Is K H d v):IsL K H [d] [v]:=by simp only[IsL];exact⟨v,[],rfl,h,rfl⟩
theorem IsL.nil:IsL K H [] []:=by simp only[IsL]
theorem IsL.cons {d:PyData} {v:V} {ds:List PyData} {vs:List V} (h:Is K H d v) (g:IsL K H ds vs):IsL K H (d :: ds) (v :: vs):=by simp only[IsL];exact⟨v,vs,rfl,h,g⟩
theorem IsL.take:∀ {ds:List PyData} {vs:List V} (n:Nat),IsL K H ds vs->IsL K H (ds.take n) (vs.take n)
 |ds,vs,0,h=>by simp only[List.take_zero];exact .nil
 | [],vs,n+1,h=>by simp only[IsL] at h;subst h;exact .nil
 |d :: ds,vs,n+1,h=>by simp only[IsL] at h;obtain⟨v,r,rfl,e2,e3⟩:=h;exact .cons e2 (IsL.take n e3)
theorem IsL.drop:∀ {ds:List PyData} {vs:List V} (n:Nat),IsL K H ds vs->IsL K H (ds.drop n) (vs.drop n)
 |ds,vs,0,h=>h
 | [],vs,n+1,h=>by simp only[IsL] at h;subst h;exact .nil
 |d :: ds,vs,n+1,h=>by simp only[IsL] at h;obtain⟨v,r,rfl,e2,e3⟩:=h;exact IsL.drop n e3
theorem IsL.str_eq:∀ {ns:List Str} {vs:List V},IsL K H (ns.map PyData.str) vs->vs=ns.map V.str
 | [],vs,h=>by simp only[List.map_nil,IsL] at h;exact h
 |n :: ns,vs,h=>by simp only[List.map_cons,IsL,Is] at h;obtain⟨v,r,rfl,rfl,e3⟩:=h;rw[IsL.str_eq e3];rfl
theorem Is.tup {ds:List PyData}{v:V}(h:Is K H (.tuple ds) v):∃ a xs,v = .ref a/\SqT K H a xs/\IsL K H ds xs:=by simpa only[Is] using h
theorem Is.of_tup {ds:List PyData}{a:Addr}{xs:List V}(h:SqT K H a xs)(g:IsL K H ds xs):Is K H (.tuple ds) (.ref a):=by simp only[Is];exact⟨a,xs,rfl,h,g⟩
theorem Is.of_lst {ds:List PyData}{a:Addr}{xs:List V}(h:SqL K H a xs)(g:IsL K H ds xs):Is K H (.list ds) (.ref a):=by simp only[Is];exact⟨a,xs,rfl,h,g⟩
theorem Is.str {z:Str}{v:V}(h:Is K H (.str z) v):v = .str z:=by simpa only[Is] using h
theorem B7 {z:Str}:Is K H (.str z) (.str z):=by simp only[Is]
theorem aa0 {z:Int}:Is K H (.int z) (.int z):=by simp only[Is]
end
def nmD (ns:List Str):PyData:=.tuple (ns.map PyData.str)
def prD (p:Str×Str):PyData:=.tuple [.str p.1,.str p.2]
def psD (ps:List (Str×Str)):PyData:=.tuple (ps.map prD)
def hfD (ns:List Str)(ps:List (Str×Str)):PyData:=.tuple [nmD ns,psD ps]
theorem Lh:∀ ns:List Str,frzL (ns.map PyData.str)=true
 | []=>rfl
 |n :: ns=>by simp only[List.map_cons,frzL,frz,Lh ns,Bool.and_self]
theorem Jo (ns:List Str):frz (nmD ns)=true:=by simp only[nmD,frz,Lh]
theorem Iq (p:Str×Str):frz (prD p)=true:=by simp[prD,frz,frzL]
theorem Bs:∀ ps:List (Str×Str),frzL (ps.map prD)=true
 | []=>rfl
 |n :: ns=>by simp only[List.map_cons,frzL,Iq,Bs ns,Bool.and_self]
theorem ab1 (ps:List (Str×Str)):frz (psD ps)=true:=by simp only[psD,frz,Bs]
theorem an4 (ns:List Str)(ps:List (Str×Str)):frz (hfD ns ps)=true:=by simp only[hfD,frz,frzL,Jo,ab1,Bool.and_self]
section
variable {K:W.Frag}{H H':Hp}
theorem Is.nm {ns:List Str}{v:V}(h:Is K H (nmD ns) v):∃ a,v = .ref a/\SqT K H a (ns.map V.str):=by obtain⟨a,xs,rfl,h1,h2⟩:=Is.tup h;exact⟨a,rfl,by rw[<- IsL.str_eq h2];exact h1⟩
theorem Jy {ns:List Str}{a:Addr}(h:SqT K H a (ns.map V.str)):Is K H (nmD ns) (.ref a):=Is.of_tup h (G3 ns)
theorem Is.pr {p:Str×Str}{v:V}(h:Is K H (prD p) v):∃ a,v = .ref a/\SqT K H a [.str p.1,.str p.2]:=by obtain⟨a,xs,rfl,h1,h2⟩:=Is.tup h;simp only[IsL,Is] at h2;obtain⟨_,_,rfl,rfl,_,_,rfl,rfl,rfl⟩:=h2;exact⟨a,rfl,h1⟩
theorem Mb {x y:Str}{a:Addr}(h:SqT K H a [.str x,.str y]):Is K H (prD (x,y)) (.ref a):=Is.of_tup h (.cons B7 (.one B7))
theorem Is.hf {ns:List Str}{ps:List (Str×Str)}{v:V}(h:Is K H (hfD ns ps) v):∃ a x y,v = .ref a/\SqT K H a [x,y]/\Is K H (nmD ns) x/\Is K H (psD ps) y:=by obtain⟨a,xs,rfl,h1,h2⟩:=Is.tup h;simp only[IsL] at h2;obtain⟨x,_,rfl,hx,y,_,rfl,hy,rfl⟩:=h2;exact⟨a,x,y,rfl,h1,hx,hy⟩
theorem Zk {ns:List Str}{ps:List (Str×Str)}{a:Addr}{x y:V}(h:SqT K H a [x,y])(hx:Is K H (nmD ns) x)(hy:Is K H (psD ps) y):Is K H (hfD ns ps) (.ref a):=Is.of_tup h (.cons hx (.one hy))
theorem Is.nm_fz {ns:List Str}{v:V}(h:Is K H (nmD ns) v)(e:Fz H H'):Is K H' (nmD ns) v:=Is.fz e _ _ (Jo ns) h
theorem Is.pr_fz {p:Str×Str}{v:V}(h:Is K H (prD p) v)(e:Fz H H'):Is K H' (prD p) v:=Is.fz e _ _ (Iq p) h
theorem Is.ps_fz {ps:List (Str×Str)}{v:V}(h:Is K H (psD ps) v)(e:Fz H H'):Is K H' (psD ps) v:=Is.fz e _ _ (ab1 ps) h
theorem Is.hf_fz {ns:List Str}{ps:List (Str×Str)}{v:V}(h:Is K H (hfD ns ps) v)(e:Fz H H'):Is K H' (hfD ns ps) v:=Is.fz e _ _ (an4 ns ps) h
variable {σ:St}{Q:VK}{x v:V}{i:Int}
theorem Bg {a:Addr}{xs:List V}(h:SqT K H a xs)(e:atI xs i=some v)(k:Q v H):Pw K (.ref a) (.int i) H Q:=.inl (.inr (.inl ⟨a,xs,i,v,rfl,rfl,h,e,k⟩))
theorem ao0 {a:Addr}{xs:List V}(h:SqL K H a xs)(e:atI xs i=some v)(k:Q v H):Pw K (.ref a) (.int i) H Q:=.inl (.inl ⟨a,xs,i,v,rfl,rfl,h,e,k⟩)
theorem aw7 {ns:List Str}{z:Str}(h:Is K H (nmD ns) x)(e:atI ns i=some z)(k:Q (.str z) H):Pw K x (.int i) H Q:=by
 obtain⟨a,rfl,h1⟩:=h.nm;refine Bg h1 ?_ k;unfold atI at e ⊢;rw[A01]
 cases hj:ixN ns.length i with
 |none=>rw[hj] at e;cases e
 |some j=>rw[hj] at e;show(ns.map V.str)[j]? = _;rw[A09,show ns[j]? = some z from e];rfl
theorem Jq {ns:List Str}{ps:List (Str×Str)}(h:Is K H (hfD ns ps) x)(k:∀ v,Is K H (nmD ns) v->Q v H):Pw K x (.int 0) H Q:=by obtain⟨a,u,w,rfl,h1,h2,h3⟩:=h.hf;exact Bg h1 rfl (k u h2)
theorem Um {ns:List Str}{ps:List (Str×Str)}(h:Is K H (hfD ns ps) x)(k:∀ v,Is K H (psD ps) v->Q v H):Pw K x (.int 1) H Q:=by obtain⟨a,u,w,rfl,h1,h2,h3⟩:=h.hf;exact Bg h1 rfl (k w h3)
theorem at9 {p:Str×Str}(h:Is K H (prD p) x)(k:Q (.str p.1) H):Pw K x (.int 0) H Q:=by obtain⟨a,rfl,h1⟩:=h.pr;exact Bg h1 rfl k
theorem ap6 {p:Str×Str}(h:Is K H (prD p) x)(k:Q (.str p.2) H):Pw K x (.int 1) H Q:=by obtain⟨a,rfl,h1⟩:=h.pr;exact Bg h1 rfl k
theorem Hk {ds:List PyData}(h:Is K H (.tuple ds) x)(k:Q (.int ds.length) H):Wi K [x] H Q:=by obtain⟨a,xs,rfl,h1,h2⟩:=h.tup;rw[IsL.length h2] at k;exact .inl ⟨.ref a,_,rfl,.inr ⟨xs,h1,rfl⟩,k⟩
theorem av3 {ns:List Str}(h:Is K H (nmD ns) x)(k:Q (.int ns.length) H):Wi K [x] H Q:=Hk h (by rw[A01];exact k)
theorem Jl (ns:List Str):(ns.map V.str).all Ox=true:=by rw[A26];intro v h;obtain ⟨n,_,rfl⟩:=A0K.mp h;rfl
theorem L1 (z:Str):∀ ns:List Str,inV (.str z) (ns.map V.str)=decide (z∈ns)
 | []=>rfl
 |n :: ns=>by
   have ih:=L1 z ns;unfold inV at ih ⊢;rw[A0Q,A2Y,ih]
   have e:eqV (V.str n) (V.str z)=decide (n=z):=by
    show(n==z)=_
    by_cases h:n=z<;>simp[h]
   rw[e]
   by_cases h:n=z
   . subst h;simp
   have h':¬ z=n:=λq=>h q.symm
   by_cases g:z∈ns<;>simp[h,h',g]
theorem ap2 {ns:List Str}{z:Str}{a:Addr}(h:SqL K H a (ns.map V.str))(k:Q (.bl (decide (z∈ns))) H):Wj K false (.str z) (.ref a) H Q:=
 .inl ⟨a,_,rfl,.inl h,rfl,Jl ns,by rw[L1];exact k⟩
theorem aq5 {ns:List Str}{z:Str}(h:Is K H (nmD ns) x)(k:Q (.bl (!decide (z∈ns))) H):Wj K true (.str z) x H Q:=by obtain⟨a,rfl,h1⟩:=h.nm;exact .inl ⟨a,_,rfl,.inr h1,rfl,Jl ns,by rw[L1];exact k⟩
theorem Oa {ns:List Str}{z:Str}{a:Addr}(h:SqL K H a (ns.map V.str))(k:Q (.bl (!decide (z∈ns))) H):Wj K true (.str z) (.ref a) H Q:=
 .inl ⟨a,_,rfl,.inl h,rfl,Jl ns,by rw[L1];exact k⟩
theorem ai3 {p:Str×Str}{n m:Nat}{R:St->Hp->Prop}(h:Is K H (prD p) x)(k:R ((σ.set n (some (.str p.1))).set m (some (.str p.2))) H):ar4 K 2 (Wc (Lp n) (Wc (Lp m) aw1)) x σ H R:=by obtain⟨a,rfl,h1⟩:=h.pr;exact⟨a,_,rfl,h1,rfl,.str p.1,[.str p.2],rfl,.str p.2,[],rfl,rfl,k⟩
theorem Xm {a:Addr}{u w:V}{n m:Nat}{R:St->Hp->Prop}(h:SqT K H a [u,w])(k:R ((σ.set n (some u)).set m (some w)) H):ar4 K 2 (Wc (Lp n) (Wc (Lp m) aw1)) (.ref a) σ H R:=
 ⟨a,_,rfl,h,rfl,u,[w],rfl,w,[],rfl,rfl,k⟩
theorem a80 {ds:List PyData}{g:TG}{tb:TS}{D:Ends}(h:Is K H (.tuple ds) x)(hf:frzL ds=true)(Pv:Nat->St->Hp->Prop)(h0:Pv 0 σ H)(hG:∀ i σ' H',Pv i σ' H'->Fz H H')
  (hs:∀ i d v σ' H',ds[i]? = some d->Is K H' d v->Pv i σ' H'->g v σ' H' fun σ2 H2=>tb {D with nx:=Pv (i+1),ct:=Pv (i+1),bk:=D.nx} σ2 H2) (hd:∀ σ' H',Pv ds.length σ' H'->D.nx σ' H') :
  Fw K x H λJ H1=>ak8 g tb D σ J H1:=by
 obtain⟨a,xs,rfl,h1,h2⟩:=h.tup;refine Xt h1 (Ez Jm Pv h0 (λi σ' H' p=>(hG i σ' H' p).seq h1) (λi v σ' H' hx hi p=>?_) fun σ' H' p=>hd σ' H' (by rw[IsL.length h2];exact p));obtain⟨d,e1,e2⟩:=IsL.get (IsL.fz (hG i σ' H' p) ds xs hf h2) hx;exact hs i d v σ' H' e1 e2 p
theorem Ys {ns:List Str}{g:TG}{tb:TS}{D:Ends}(h:Is K H (nmD ns) x)(Pv:Nat->St->Hp->Prop)(h0:Pv 0 σ H)(hG:∀ i σ' H',Pv i σ' H'->Fz H H')
  (hs:∀ i z σ' H',ns[i]? = some z->Pv i σ' H'->g (.str z) σ' H' fun σ2 H2=>tb {D with nx:=Pv (i+1),ct:=Pv (i+1),bk:=D.nx} σ2 H2) (hd:∀ σ' H',Pv ns.length σ' H'->D.nx σ' H') :
  Fw K x H λJ H1=>ak8 g tb D σ J H1:=
 a80 h (Lh ns) Pv h0 hG (λi d v σ' H' e h p=>by
  rw[A09] at e
  cases hn:ns[i]? with
  |none=>rw[hn] at e;cases e
  |some z=>
    rw[hn] at e
    cases e;rw[h.str];exact hs i z σ' H' hn p) fun σ' H' p=>hd σ' H' (by rw[A01] at p;exact p)
theorem aa2 {ps:List (Str×Str)}{g:TG}{tb:TS}{D:Ends}(h:Is K H (psD ps) x)(Pv:Nat->St->Hp->Prop)(h0:Pv 0 σ H)(hG:∀ i σ' H',Pv i σ' H'->Fz H H')
  (hs:∀ i p v σ' H',ps[i]? = some p->Is K H' (prD p) v->Pv i σ' H'->g v σ' H' fun σ2 H2=>tb {D with nx:=Pv (i+1),ct:=Pv (i+1),bk:=D.nx} σ2 H2) (hd:∀ σ' H',Pv ps.length σ' H'->D.nx σ' H') :
  Fw K x H λJ H1=>ak8 g tb D σ J H1:=
 a80 h (Bs ps) Pv h0 hG (λi d v σ' H' e h p=>by
  rw[A09] at e
  cases hn:ps[i]? with
  |none=>rw[hn] at e;cases e
  |some z=>
    rw[hn] at e
    cases e;exact hs i z v σ' H' hn h p) fun σ' H' p=>hd σ' H' (by rw[A01] at p;exact p)
theorem Fy {α:Type}(f:α->PyData)(hf:∀ a,frz (f a)=true):∀ xs:List α,frzL (xs.map f)=true
 | []=>rfl
 |x :: xs=>by simp only[List.map_cons,frzL,hf,Fy f hf xs,Bool.and_self]
theorem G2 {α:Type}{J:It}{xs:List V}{G:Hp->Prop}{g:TG}{tt:TT}{te:TE}{Q:VK}{k:Nat}{js:List Nat}(hw:Ht J xs G)(as:List α)(hl:as.length=xs.length)(t:α->Bool)(f:α->PyData)(hf:∀ a,frz (f a)=true)(hz:xs.length<=1000000)(hG:∀ H',Same H H'->G H')
  (hs:∀(i:Nat) a v H1 (R:VK) (R':Hp->Prop),as[i]? = some a->xs[i]? = some v->Same H H1->(t a=true->∀ y H2,Same H1 H2->Is K H2 (f a) y->R y H2)->(t a=false->∀ H2,Same H1 H2->R' H2) ->
   g v (List.replicate k none++Mi σ js) H1 fun σ2 H2=>tt σ2 H2 λb H3=>if b=true then te σ2 H3 R else R' H3)
  (hd:∀ p ys H',H p=none->Same H H'->H' p=some (.lst ys)->IsL K H' ((as.filter t).map f) ys->Q (.ref p) H'):Oi k js g tt te σ J H Q:=by
 refine J4 hw (λp i acc H1=>Same H H1/\IsL K H1 (((as.take i).filter t).map f) acc) (λp H' hp e h=>⟨e,by simp only[List.take_zero,List.filter_nil,List.map_nil];exact .nil⟩) (λp i acc H1 h=>hG H1 h.1) (λp i x acc H1 hp hx hi hl1 ha ⟨e,hacc⟩=>?_) λp acc H1 hp ha hl1 ⟨e,hacc⟩=>?_
 . have hi':i<as.length:=by omega
   obtain⟨a,hai⟩:∃ a,as[i]? = some a:=⟨as[i],A07 hi'⟩;have ht:as.take (i+1)=as.take i++[a]:=by rw[A18,hai];rfl
   refine hs i a x H1 _ _ hai hx e (λh y H2 e2 hy=>?_) λh H2 e2=>?_
   . refine Mg hz hi hl1 (e2 _ _ ha) λH' e' h'=>⟨λb o hb=>e' b o (ne_of_none hb hp) (e2 _ _ (e b o hb)),?_⟩;rw[ht,A2A,A0N];have fz:=e'.fzL (e2 _ _ ha);refine IsL.append (IsL.fz (e2.fz.trans fz) _ _ (Fy f hf _) hacc) ?_;simp only[List.filter_cons,h,if_true,List.filter_nil,List.map_cons,List.map_nil];exact .one (Is.fz fz _ _ (hf a) hy)
   refine Pe hi hl1 (e2 _ _ ha) ⟨e.trans e2,?_⟩;rw[ht,A2A,A0N];simp only[List.filter_cons,h,Bool.false_eq_true,if_false,List.filter_nil,List.map_nil,List.append_nil];exact IsL.mono e2 _ _ hacc
 refine hd p acc H1 hp e ha ?_;rw[<- hl,A1A] at hacc;exact hacc
end
section
variable {X:Cx}{K:W.Frag}
def Vc (z:Str)(n:Nat):Str:=⟨(List.replicate n z.cps).foldl (· ++ ·) #[]⟩
def am7:R2:=λx y H Q=>∃ z n,x = .str z/\y = .int n/\2<=n/\n<=1000/\z.length<=1000/\0<z.length/\Q (.str (Vc z n.toNat)) H
theorem aj9:OpR X (binaryOp .Mult) am7:=by
 intro pins s σ H x y v u Q I rx ry h;obtain⟨z,n,rfl,rfl,h1,h2,h3,h4,q⟩:=h;obtain⟨t,rfl⟩:=rx;obtain⟨t2,rfl⟩:=ry;have a1:¬ n<1:=by omega
 have a2:(n==1||z.length==0)=false:=by
  have e1:(n==1)=false:=by simp;omega
  have e2:(z.length==0)=false:=by simp;omega
  rw[e1,e2];rfl
 have hz:z.length*n.toNat<=1000000:=by have:z.length*n.toNat<=1000*1000:=A2B h3 ∅;omega
 have hlen:(Vc z n.toNat).length<=sizeLine:=by
  have e:∀(m:Nat) (a:Array Nat),((List.replicate m z.cps).foldl (· ++ ·) a).size=a.size+m*z.cps.size:=by
   intro m
   induction m with
   |zero=>intro a;simp
   |succ m ih=>intro a;rw[A2G,A4I,ih,Array.size_append,Nat.succ_mul];omega
  show((List.replicate n.toNat z.cps).foldl (· ++ ·) #[]).size<=sizeLine;rw[e];have e2:z.cps.size=z.length:=rfl;rw[e2,A16,Nat.mul_comm];simp;omega
 refine PySem.P.mul_str (by
   have b1:¬ n < -(2 ^ 63:Int):=by omega
   have b2:¬ n>=2 ^ 63:=by omega
   rw[A0R b1,A0R b2];rfl) (λ_ _=>?_) (λ_ _=>?_) ?_
 . have:(2 ^ 63-1:Int) / n>=1000:=by
    refine Int.le_ediv_of_mul_le ∅ ?_;have:1000*n<=1000*1000:=by omega
    omega
   omega
 . have hz2:z.length*n.toNat<=sizeLine:=A7 hz;rw[A16] at hz2;unfold Builtin.Str.tooLong;simp[sizeLine_eq];omega
 rw[A13 a1,a2,A13 A0I];exact⟨hlen,.str _,H,I.kept λ_ _ e=>e,⟨_,rfl⟩,q⟩
def a36:R2:=λx y H Q=>a69 x y H Q\/am7 x y H Q
theorem En:OpR X (binaryOp .Mult) a36:=op_mulA.or aj9
theorem i_mulBI {i j:Int}{H:Hp}{Q:VK}(h:CMul i j)(k:Q (.int (i*j)) H):a36 (.int i) (.int j) H Q:=.inl (av8 h k)
theorem ai6 {z:Str}{n:Int}{H:Hp}{Q:VK}(h:2<=n/\n<=1000/\z.length<=1000/\0<z.length)(k:Q (.str (Vc z n.toNat)) H):a36 (.str z) (.int n) H Q:=.inr ⟨z,n,rfl,rfl,h.1,h.2.1,h.2.2.1,h.2.2.2,k⟩
theorem ac1 {i:Int}{H:Hp}{Q:VK}{a:Addr}{xs:List V}(h1:H a=some (.lst xs))(h2:-(2 ^ 63)<=i/\i<2 ^ 63)(h3:xs.length*i.toNat<=sizeLine)(k:∀ p H',H p=none->Same H H'->H' p=some (.lst (List.replicate i.toNat xs).flatten)->Q (.ref p) H'):a36 (.ref a) (.int i) H Q:=.inl (am3 h1 h2 h3 k)
def rIs (neg:Bool):R2:=λx y H Q=>(y = .non/\Q (.bl (if neg then !decide (x = .non) else decide (x = .non))) H)\/∃ a b,x = .bl a/\y = .bl b/\Q (.bl (if neg then !(a==b) else a==b)) H
theorem Wq:OpR X (compareOp .IsNot) (rIs true):=by
 intro pins s σ H x y v u Q I rx ry h;rcases h with ⟨rfl,q⟩|⟨a,b,rfl,rfl,q⟩
 . exact ah9 pins s σ H x .non v u Q I rx ry ⟨rfl,q⟩
 cases rx
 cases ry;refine wpAny_isNot_plain rfl ?_;refine⟨.bl _,H,I,?_,q⟩;show Value.bool (!(Value.bool a==Value.bool b))=Value.bool (!(a==b))
 cases a<;>cases b<;>rfl
theorem i_isNotN {x:V}{H:Hp}{Q:VK}(k:Q (.bl (!decide (x = .non))) H):rIs true x .non H Q:=.inl ⟨rfl,k⟩
def az1 (xs:List V)(i:Nat)(y:V):List V:=xs.take i++y :: xs.drop i
def Zt:V->List V->Hp->VK->Prop:=λx vs H Q=>∃ l xs i y,x = .ref l/\vs=[.int i,y]/\H l=some (.lst xs)/\0<=i/\i<=xs.length/\xs.length<sizeLine/\Q .non (upd H l (.lst (az1 xs i.toNat y)))
theorem Z8:MtM X "list.insert" Zt:=by
 intro pins s σ H x vs v us Q I rx rv h;obtain⟨l,xs,i,y,rfl,rfl,hH,h0,h1,hz,q⟩:=h
 cases rx;obtain⟨u,w,rfl,ru,rw'⟩:=Vals.two rv;obtain⟨t,rfl⟩:=ru;obtain⟨z,its,n,r,hl,e⟩:=I.lstM hH;have hlen:=r.length
 refine A3M F.slot_list_insert ⟨_,e,rfl⟩ F.entry_list_insert (F.args_list_insert_3 _ _ _)
  (AutoSeq1.list_insert_list_int_val_1 l its.toArray n i t w (by rw[fitsIndex_both ∅ (by rw[A16] at hz;omega)];decide) (by rw[A0M];omega)) ⟨e,?_⟩
 refine⟨.non,_,I.lset (its':=its.take i.toNat++w :: its.drop i.toNat) hH e ?_ ((r.take i.toNat).append (.cons rw' (r.drop i.toNat))) ?_,rfl,q⟩
 . have hi:i.toNat<=its.length:=by omega
   show(have k:=if i<0 then(i+((its.toArray.size:Nat):Int)).toNat else min i.toNat its.toArray.size;(its.toArray.extract 0 k).push w++its.toArray.extract k)=_
   rw[A13 ∅,A0M,Nat.min_eq_left hi];simp[List.extract_eq_drop_take];exact A1W (by rw[A14];omega)
 rw[A04,A0V,A0U,A14];omega
section
variable {D:Ends}{σ:St}{H:Hp}{t u:TS}{te td ty tv:TE}{g:TG}
theorem Op (M:St->Hp->Prop)(h1:∀ N:St->Hp->Prop,(∀ σ' H',M σ' H'->N σ' H')->t {D with nx:=N} σ H)(h2:∀ σ' H',M σ' H'->u D σ' H'):aw3 t u D σ H:=h1 (u D) h2
end
theorem af1 {a:Addr}{xs:List V}{H:Hp}{Q:VK}(h:SqL K H a xs\/SqT K H a xs)(k:∀ p H',H p=none->Same H H'->H' p=some (.lst xs)->Q (.ref p) H'):Uj K [.ref a] H Q:=⟨a,xs,rfl,h,λp hp=>k p _ hp (Same.upd hp) A9⟩
theorem mm {id:String}{r:V->List V->Hp->VK->Prop}(h:MtM X id r):MtR X id r:=h
theorem i_tyLm {a:Addr}{xs:List V}{H:Hp}{B:Prop}(h:H a=some (.lst xs))(k:B):tyV K "list" (.ref a) H/\B:=⟨.inl ⟨rfl,xs,SqL.of h⟩,k⟩
theorem ax8 {l:Addr}{xs:List V}{y:V}{i:Int}{H:Hp}{Q:VK}(h:H l=some (.lst xs))(h0:0<=i)(h1:i<=xs.length)(hz:xs.length<=1000000)(k:∀ H',ExtBut l H H'->H' l=some (.lst (az1 xs i.toNat y))->Q .non H'):Zt (.ref l) [.int i,y] H Q:=
 ⟨l,xs,i,y,rfl,rfl,h,h0,h1,by rw[A16];omega,k _ ExtBut.upd A9⟩
theorem Kq {l:Addr}{xs:List V}{y:V}{H:Hp}{Q:VK}(h:H l=some (.lst xs))(hz:xs.length<=1000000)(k:∀ H',ExtBut l H H'->H' l=some (.lst (xs++[y]))->Q .non H'):Ym (.ref l) [y] H Q:=
 ⟨l,xs,y,rfl,rfl,h,by rw[A16];omega,k _ ExtBut.upd A9⟩
theorem Xy {l b:Addr}{xs zs:List V}{H:Hp}{Q:VK}(h:H l=some (.lst xs))(hb:H b=some (.lst zs))(hz:xs.length+zs.length<=1000000)(k:∀ H',ExtBut l H H'->H' l=some (.lst (xs++zs))->Q .non H'):X5 (.ref l) [.ref b] H Q:=
 ⟨l,b,xs,zs,rfl,rfl,h,hb,A7 hz,k _ ExtBut.upd A9⟩
theorem an2 {l:Addr}{xs:List V}{y:V}{H:Hp}{Q:VK}(h:H l=some (.lst (xs++[y])))(k:∀ H',ExtBut l H H'->H' l=some (.lst xs)->Q y H'):aB0 (.ref l) [] H Q:=
 ⟨l,xs++[y],y,rfl,rfl,h,by simp,by rw[List.dropLast_concat];exact k _ ExtBut.upd A9⟩
theorem a38 {l:Addr}{xs:List V}{y:V}{i:Int}{H:Hp}{Q:VK}(h:H l=some (.lst xs))(h0:0<=i)(h1:xs[i.toNat]? = some y)(k:∀ H',ExtBut l H H'->H' l=some (.lst (xs.eraseIdx i.toNat))->Q y H')(hz:xs.length<=1000000):aa3 (.ref l) [.int i] H Q:=by
 have h2:=(A03.mp h1).1;refine⟨l,xs,i,i.toNat,y,rfl,rfl,h,by omega,by omega,?_,h1,k _ ExtBut.upd A9⟩;have e:=Pd (Bz (α:=V) h1);obtain⟨j,e1,e2,e3,_⟩:=e;rw[A2R h0] at e1;rw[e1]
 have e4:seqIndex? i xs.length=some i.toNat:=by unfold seqIndex? at e1 ⊢;simp[show ¬ i<0 by omega] at e1 ⊢;omega
 rw[<- e1,e4]
def Vy (xs:List V)(k:Int):List V:=if k=1 then xs else xs.reverse
def Zf (K:W.Frag):V->V->Hp->VK->Prop:=λx y H Q=>∃ a xs k,x = .ref a/\y = .int k/\(k=1\/k = -1)/\SqL K H a xs/\∀ p,H p=none->Q (.ref p) (upd H p (.lst (Vy xs k)))
theorem a46 (items:Array Value):slicePick items none none (some 1)=items:=by have e:slicePick items none none (some 1)=slicePick items none none none:=rfl;rw[e,Jf];simp[HT.sIx];rw[show items.size=items.toList.length by simp,List.take_length]
theorem R5 {e st:Expr}{te ts:TE}{p2 pos:Pos}(he:PE X e te)(hst:PE X st ts)(hK:X.K=K:=by ac_nf):PE X (.Subscript e (.Slice none none (some st) p2) pos) (tOp (Zf K) te ts):=by
 subst hK;intro pins s σ H Q I h;refine A4O (thn (he pins s σ H _ I h) λv s1 ⟨x,H1,I1,r1,q1⟩=>?_);refine wpAny_Slice ?_;rw[A4B];refine A05 (A05 ?_);rw[A4Y];refine thn (hst pins s1 σ H1 _ I1 q1) λu s2 ⟨y,H2,I2,r2,q2⟩=>?_;obtain⟨a,xs,k,rfl,rfl,hk,hx,q⟩:=q2
 cases r1;obtain⟨t,rfl⟩:=r2;have I4:Inv X pins σ H2 {s2 with heap:=s2.heap.push {cls:=.type "slice",data:=.fields #[.none,.none,.int k t]}}:=I2.kept (t':=s2.toks) λb ob q=>A02 _ q
 obtain⟨its,r,ht,hz⟩:=I4.list hx;have hlen:=r.length;refine tail_any (ops:=[.ref a,.ref s2.heap.objs.size]) ht.isList.typeIs slot_list_getitem.lookup ?_ ⋯;refine wpAny_getItem_list_slice ht.isList (A3V ..) .none .none (.int k t) (by rcases hk with rfl|rfl<;>decide) ?_ (by rw[A0M];omega)
 rcases hk with rfl|rfl
 . rw[a46];refine⟨.ref _,_,I4.laid (t':=s2.toks) (o:=.lst (Vy xs 1)) (λb ob q=>A02 _ q) (A06 _) ?_,rfl,q _ (I4.hok.fresh (A06 _))⟩;exact⟨hz,_,0,r,A0O _ rfl⟩
 rw[W.krv_pick];refine⟨.ref _,_,I4.laid (t':=s2.toks) (o:=.lst (Vy xs (-1))) (λb ob q=>A02 _ q) (A06 _) ?_,rfl,q _ (I4.hok.fresh (A06 _))⟩;exact⟨by show xs.reverse.length<=_;rw[A2S];exact hz,_,0,by show Vals xs.reverse _;exact r.reverse,A0O _ rfl⟩
theorem at2 {a:Addr}{xs:List V}{k:Int}{H:Hp}{Q:VK}(h:SqL K H a xs)(hk:k=1\/k = -1)(c:∀ p H',H p=none->Same H H'->H' p=some (.lst (Vy xs k))->Q (.ref p) H'):Zf K (.ref a) (.int k) H Q:=
 ⟨a,xs,k,rfl,rfl,hk,h,λp hp=>c p _ hp (Same.upd hp) A9⟩
end
def Kw (c:Nat):Bool:=decide (97<=c)&&decide (c<=122)
def I0 (x:Str):Bool:=decide (1<=x.length)&&decide (x.length<=8)&&x.cps.toList.all Kw
def Names (ns:List Str):Prop:=ns.Nodup/\∀ z∈ns,I0 z=true
def LL:Str:="abcdefghijklmnopqrstuvwxyzabcdefghijklmnopqrstuvwxyz"
theorem al4:Vc "abcdefghijklmnopqrstuvwxyz" (2:Int).toNat=LL:=by decide +kernel
def LLn:List Nat:=LL.cps.toList
theorem aq6:LL.length=52:=by decide +kernel
theorem Kc:LLn.length=52:=by decide +kernel
theorem Vb:∀ c∈LLn,Kw c=true:=by decide +kernel
def txt (l:List Nat):Str:=⟨l.toArray⟩
theorem ad0 {a b:List Nat}(h:txt a=txt b):a=b:=by have:a.toArray=b.toArray:=congrArg Str.cps h;simpa using this
theorem Yo (a b:List Nat):txt a++txt b=txt (a++b):=by show(⟨a.toArray++b.toArray⟩:Str)=⟨(a++b).toArray⟩;simp
theorem Ju {l:List Nat}(h0:1<=l.length)(h1:l.length<=8)(h2:∀ c∈l,Kw c=true):I0 (txt l)=true:=by
 unfold I0;have e:(txt l).length=l.length:=by show l.toArray.size=_;simp
 rw[e,A0P h0,A0P h1];show(true&&true&&l.all Kw)=true;rw[A26.mpr h2];rfl
def Mw (a b:Nat):List Nat:=(LLn.drop a).take (b-a)
theorem L5 {a b:Nat}(h:a<=b)(h1:b<=52):(Mw a b).length=b-a:=by unfold Mw;rw[A0U,A14,Kc];omega
theorem Ik {a b:Nat}:∀ c∈Mw a b,Kw c=true:=λc hc=>Vb c (A2P (A2C hc))
theorem Ur {i j:Int}(h0:0<=i)(h1:i<=j)(h2:j<=52):Txt.slice LL (some i) (some j)=txt (Mw i.toNat j.toNat):=by
 have e:=StrLaws.sliceText_plain (x:=LL) (i:=i) (j:=j) ⟨h0,h1,by rw[show LL.cps.toList.length=52 by decide +kernel];omega⟩;have e2:(j-i).toNat=j.toNat-i.toNat:=by omega
 rw[e2] at e;exact e
def Pu (i:Nat):List Nat:=(LLn.drop i).take 1
theorem ac2 {i:Int}(h0:0<=i)(h1:i<52):∃ c,atI LL.cps.toList i=some c/\(⟨#[c]⟩:Str)=txt (Pu i.toNat):=by
 have h2:i.toNat<LLn.length:=by rw[Kc];omega
 refine⟨LLn[i.toNat],?_,?_⟩
 . have:=Bz (A07 h2);rwa[A2R h0] at this
 unfold Pu;rw[List.drop_eq_getElem_cons h2];rfl
theorem Pc {i:Nat}(h:i<52):(Pu i).length=1:=by unfold Pu;rw[A0U,A14,Kc];omega
theorem K8 {i:Nat}:∀ c∈Pu i,Kw c=true:=λc hc=>Vb c (A2P (A2C hc))
def nm0 (s:Nat):List (List Nat):=(List.range 8).map (λk=>Mw s (s+1+k))++[Pu (s+9),Pu (s+10)]
def nm1 (s z a:Nat):List (List Nat):=(List.range 10).map λk=>Mw s (s+a)++Pu (s+5*k % 26)++Mw (s+a+1) (s+z)
def nm2 (s:Nat):List (List Nat):=(List.range 10).map λk=>Mw (s+k) (s+k+1+3*k % 8)
theorem nd0:∀ s<26,(nm0 s).Nodup:=by decide +kernel
theorem nd2:∀ s<26,(nm2 s).Nodup:=by decide +kernel
theorem nd1':∀ s<26,((List.range 10).map λk=>Pu (s+5*k % 26)).Nodup:=by decide +kernel
theorem Hm {α β:Type}{f:α->β}:∀ {l:List α},l.Nodup->(∀ a∈l,∀ b∈l,f a=f b->a=b)->(l.map f).Nodup
 | [],_,_=>by simp
 |a :: l,h,hf=>by rw[A0Q,A19];rw[A19] at h;refine⟨λhm=>?_,Hm h.2 λx hx y hy=>hf x (A08 _ hx) y (A08 _ hy)⟩;obtain⟨b,hb,e⟩:=A0K.mp hm;have:=hf b (A08 _ hb) a A0C e;subst this;exact h.1 hb
theorem Gz {α β:Type}{f:α->β}:∀ {l:List α},(l.map f).Nodup->∀ a∈l,∀ b∈l,f a=f b->a=b
 | [],_,a,ha,_,_,_=>by cases ha
 |c :: l,h,a,ha,b,hb,e=>by
   rw[A0Q,A19] at h;rcases A0H.mp ha with q|ha'
   . rcases A0H.mp hb with q'|hb'
     . rw[q,q']
     exact absurd (A0K.mpr ⟨b,hb',by rw[<- e,q]⟩) h.1
   rcases A0H.mp hb with q'|hb'
   . exact absurd (A0K.mpr ⟨a,ha',by rw[e,q']⟩) h.1
   exact Gz h.2 a ha' b hb' e
theorem Lm {l:List (List Nat)}(h:l.Nodup):(l.map txt).Nodup:=Hm h λa _ b _ e=>ad0 e
theorem nd1 {s z a:Nat}(hs:s<26):(nm1 s z a).Nodup:=by refine Hm List.nodup_range λk hk j hj e=>?_;have e1:Pu (s+5*k % 26)=Pu (s+5*j % 26):=List.append_cancel_left (List.append_cancel_right e);exact Gz (f:=λk=>Pu (s+5*k % 26)) (nd1' s hs) k hk j hj e1
theorem ao9 {s:Nat}(hs:s<26):Names ((nm0 s).map txt):=by
 refine⟨Lm (nd0 s hs),λz hz=>?_⟩;obtain⟨l,hl,rfl⟩:=A0K.mp hz;rcases A0E.mp hl with h|h
 . obtain⟨k,hk,rfl⟩:=A0K.mp h;have hk:=A2K.mp hk;have e:=L5 (a:=s) (b:=s+1+k) ∅ ∅;exact Ju ∅ ∅ Ik
 simp only[List.mem_cons,List.not_mem_nil,or_false] at h;rcases h with rfl|rfl
 . have e:=Pc (i:=s+9) ∅;exact Ju ∅ ∅ K8
 have e:=Pc (i:=s+10) ∅;exact Ju ∅ ∅ K8
theorem au7 {s z a:Nat}(hs:s<26)(ha:a<z)(hz:z<=8):Names ((nm1 s z a).map txt):=by
 refine⟨Lm (nd1 hs),λy hy=>?_⟩;obtain⟨l,hl,rfl⟩:=A0K.mp hy;obtain⟨k,hk,rfl⟩:=A0K.mp hl;have hm:5*k % 26<26:=Nat.mod_lt _ nofun;have e1:=L5 (a:=s) (b:=s+a) ∅ ∅;have e2:=Pc (i:=s+5*k % 26) ∅;have e3:=L5 (a:=s+a+1) (b:=s+z) ∅ ∅;refine Ju (by simp only[List.length_append];omega) (by simp only[List.length_append];omega) λc hc=>?_;rcases A0E.mp hc with hc|hc
 . rcases A0E.mp hc with hc|hc
   . exact Ik c hc
   exact K8 c hc
 exact Ik c hc
theorem at6 {s:Nat}(hs:s<26):Names ((nm2 s).map txt):=by refine⟨Lm (nd2 s hs),λz hz=>?_⟩;obtain⟨l,hl,rfl⟩:=A0K.mp hz;obtain⟨k,hk,rfl⟩:=A0K.mp hl;have hk:=A2K.mp hk;have hm:3*k % 8<8:=Nat.mod_lt _ nofun;have e:=L5 (a:=s+k) (b:=s+k+1+3*k % 8) ∅ ∅;exact Ju ∅ ∅ Ik
def nm3:List Str:=["names","ahead","name","a","ab","aheads","last","ask","row","end"]
theorem al6:Names nm3:=⟨by decide +kernel,by decide +kernel⟩
theorem Names.perm {ns ms:List Str}(h:Names ns)(p:ms.Perm ns):Names ms:=⟨p.nodup_iff.mpr h.1,λz hz=>h.2 z (p.mem_iff.mp hz)⟩
theorem Names.sublist {ns ms:List Str}(h:Names ns)(p:ms.Sublist ns):Names ms:=⟨h.1.sublist p,λz hz=>h.2 z (p.subset hz)⟩
theorem Names.reverse {ns:List Str}(h:Names ns):Names ns.reverse:=h.perm (List.reverse_perm _)
theorem Names.turn {ns:List Str}(h:Names ns)(t n:Nat):Names ((ns.drop t++ns.take t).take n):=
 Names.sublist (ns:=ns.drop t++ns.take t) (h.perm (List.perm_append_comm.trans (by rw[A4M]))) (List.take_sublist _ _)
theorem L3 {xs:List V}{t:Int}(h0:0<=t)(h1:t<=xs.length):Kz xs (some t) none=xs.drop t.toNat:=by
 have e:HT.sIx xs.length 0 (some t)=t.toNat:=by unfold HT.sIx;simp[show ¬ t<0 by omega];omega
 unfold Kz;rw[e];have e2:HT.sIx xs.length xs.length none=xs.length:=rfl;rw[e2];exact A1W (by rw[A14];omega)
theorem Jn {xs:List V}{t:Int}(h0:0<=t):Kz xs none (some t)=xs.take t.toNat:=by
 have e:HT.sIx xs.length xs.length (some t)=min t.toNat xs.length:=by unfold HT.sIx;simp[show ¬ t<0 by omega]
 unfold Kz;rw[e];have e2:HT.sIx xs.length 0 none=0:=rfl;rw[e2,List.drop_zero,Nat.sub_zero,Nat.min_comm];rw[<- List.take_take];exact A1W (by rw[A0U];omega)
theorem Ej {lo:Int} {n i:Nat} {x:V} (h:((List.range n).map λ(i:Nat)=>V.int (lo+(i:Int)))[i]? = some x):x = .int (lo+(i:Int))/\i<n:=by
 rw[A09] at h
 cases e:(List.range n)[i]? with
 |none=>rw[e] at h;cases h
 |some j=>
   rw[e] at h
   cases h;have e1:=A03.mp e;obtain⟨h1,h2⟩:=e1;rw[A1L] at h1;rw[List.getElem_range] at h2;subst h2;exact⟨rfl,h1⟩
def fI (F:Int->V):V->V
 |.int k=>F k
 |v=>v
theorem Sn {lo:Int}{n:Nat}{F:Int->V}{G:Nat->Str}(h:∀ k<n,F (lo+(k:Int)) = .str (G k)):((List.range n).map λ(i:Nat)=>V.int (lo+(i:Int))).map (fI F)=((List.range n).map G).map V.str:=by rw[A1J,A1J];refine A1X λk hk=>?_;exact h k (A2K.mp hk)
theorem Sw:LL.length<=sizeLine:=by rw[aq6,A16];omega
theorem W9 {ns:List Str}(h:Names ns){k:Int}:∃ ms,Vy (ns.map V.str) k=ms.map V.str/\Names ms/\ms.length=ns.length:=by
 unfold Vy
 split
 . exact⟨ns,rfl,h,rfl⟩
 exact⟨ns.reverse,by rw[List.map_reverse],h.reverse,A2S ..⟩
theorem ExtBut.off {d q:Addr}{H H1 H2:Hp}(e:ExtBut d H H1)(hq:H q=none)(e2:ExtBut q H1 H2):ExtBut d H H2:=λb o n h=>e2 b o (ne_of_none h hq) (e b o n h)
theorem Same.off {q:Addr}{H H1 H2:Hp}(e:Same H H1)(hq:H q=none)(e2:ExtBut q H1 H2):Same H H2:=λb o h=>e2 b o (ne_of_none h hq) (e b o h)
def Up (ls:List Str)(ps:List (Str×Str)):Prop:=∀ p∈ps,∃ i j:Nat,i<j/\ls[i]? = some p.1/\ls[j]? = some p.2
theorem Up.nil {ls:List Str}:Up ls []:=λ_ h=>by cases h
theorem Up.append {ls:List Str}{ps qs:List (Str×Str)}(h:Up ls ps)(g:Up ls qs):Up ls (ps++qs):=λp hp=>by
 rcases A0E.mp hp with hp|hp
 . exact h p hp
 exact g p hp
theorem Up.one {ls:List Str}{x y:Str}{i j:Nat}(h:i<j)(hx:ls[i]? = some x)(hy:ls[j]? = some y):Up ls [(x,y)]:=λp hp=>by
 have:p=(x,y):=by simpa using hp
 subst this;exact⟨i,j,h,hx,hy⟩
theorem Up.sub {ls:List Str}{ps qs:List (Str×Str)}(h:Up ls ps)(s:∀ p∈qs,p∈ps):Up ls qs:=λp hp=>h p (s p hp)
theorem str_at? {ls:List Str}{i:Int}(h0:0<=i)(h1:i<ls.length):∃ z,ls[i.toNat]? = some z/\atI (ls.map V.str) i=some (.str z)/\atI ls i=some z:=by
 have h2:i.toNat<ls.length:=by omega
 refine⟨ls[i.toNat],A07 h2,?_,?_⟩
 . have:=Bz (xs:=ls.map V.str) (j:=i.toNat) (v:=.str ls[i.toNat]) (by rw[A09,A07 h2];rfl);rwa[A2R h0] at this
 have:=Bz (A07 h2);rwa[A2R h0] at this
theorem Nr {α:Type}:∀(us:List α) (k:Nat) (y:α),us[k]? = some y->(y :: us.eraseIdx k).Perm us
 | [],k,y,h=>by simp at h
 |u :: us,0,y,h=>by
   have:u=y:=by simpa using h
   subst this;exact List.Perm.refl _
 |u :: us,k+1,y,h=>by have ih:=Nr us k y (by simpa using h);exact(List.Perm.swap u y _).trans (ih.cons u)
theorem a67 {α:Type}{us:List α}{k:Nat}{y:α}(h:us[k]? = some y)(vs:List α):(vs++[y]++us.eraseIdx k).Perm (vs++us):=by rw[A2N];exact List.Perm.append_left vs (Nr us k y h)
theorem Xp {α:Type}{l:List α}{i:Nat}{x y:α}(h:l[i]? = some x):l.getD i y=x:=by rw[List.getD_eq_getElem?_getD,h];rfl
theorem X8 {α:Type}(as:List α)(f:α->Str×Str):as.map (λa=>prD (f a))=(as.map f).map prD:=by rw[A1J];rfl
theorem Ii {α:Type}{l:List α}{i:Nat}{y:α}(h:i<l.length):l[i]? = some (l.getD i y):=by rw[List.getD_eq_getElem?_getD,A07 h];rfl
inductive Way (ps:List (Str×Str)):Str->Str->Prop
 |one {x y:Str}:(x,y)∈ps->Way ps x y
 |cons {x z y:Str}:(x,z)∈ps->Way ps z y->Way ps x y
theorem Way.trans {ps:List (Str×Str)}{x y z:Str}(h:Way ps x y)(g:Way ps y z):Way ps x z:=by
 induction h with
 |one e=>exact .cons e g
 |cons e _ ih=>exact .cons e (ih g)
theorem Way.snoc {ps:List (Str×Str)}{x y z:Str}(h:Way ps x y)(g:(y,z)∈ps):Way ps x z:=h.trans (.one g)
theorem Way.left {ps:List (Str×Str)}{x y:Str}(h:Way ps x y):x∈ps.map (·.1):=by
 cases h with
 |one e=>exact A0K.mpr ⟨_,e,rfl⟩
 |cons e _=>exact A0K.mpr ⟨_,e,rfl⟩
theorem Way.right {ps:List (Str×Str)}{x y:Str}(h:Way ps x y):y∈ps.map (·.2):=by
 induction h with
 |one e=>exact A0K.mpr ⟨_,e,rfl⟩
 |cons _ _ ih=>exact ih
theorem Way.shut {ps:List (Str×Str)}{S:Str->Prop}{x:Str}(h0:∀ y,(x,y)∈ps->S y)(h1:∀ z y,S z->(z,y)∈ps->S y){y:Str}(g:Way ps x y):S y:=by
 induction g with
 |one e=>exact h0 _ e
 |cons e _ ih=>exact ih λy hy=>h1 _ _ (h0 _ e) hy
theorem Up.lt {ls:List Str}(hn:ls.Nodup){ps:List (Str×Str)}(h:Up ls ps){x y:Str}(g:Way ps x y):∃ i j:Nat,i<j/\ls[i]? = some x/\ls[j]? = some y:=by
 induction g with
 |one e=>exact h _ e
 |cons e _ ih=>
   obtain⟨i,j,h1,h2,h3⟩:=h _ e;obtain⟨i',j',g1,g2,g3⟩:=ih
   have e:j=i':=by obtain⟨a,b⟩:=A03.mp h3;obtain⟨c,d⟩:=A03.mp g2;exact(A1U hn).mp (b.trans d.symm)
   exact⟨i,j',by omega,h2,g3⟩
theorem Up.irrefl {ls:List Str}(hn:ls.Nodup){ps:List (Str×Str)}(h:Up ls ps){x:Str}:¬ Way ps x x:=λg=>by obtain⟨i,j,h1,h2,h3⟩:=h.lt hn g;obtain⟨a,b⟩:=A03.mp h2;obtain⟨c,d⟩:=A03.mp h3;have:=(A1U hn).mp (b.trans d.symm);omega
theorem Up.mem {ls:List Str}{ps:List (Str×Str)}(h:Up ls ps){p:Str×Str}(hp:p∈ps):p.1∈ls/\p.2∈ls:=by obtain⟨i,j,_,h2,h3⟩:=h p hp;exact⟨A0B h2,A0B h3⟩
structure Half (ns:List Str)(ps:List (Str×Str)):Prop where
 names:Names ns
 few:ns.length<=10
 le:ps.length<=60
 line:∃ ls:List Str,ls.Perm ns/\Up ls ps
theorem Half.irrefl {ns:List Str}{ps:List (Str×Str)}(h:Half ns ps){x:Str}:¬ Way ps x x:=by obtain⟨ls,h1,h2⟩:=h.line;exact h2.irrefl (h1.nodup_iff.mpr h.names.1)
theorem Half.mem {ns:List Str}{ps:List (Str×Str)}(h:Half ns ps){p:Str×Str}(hp:p∈ps):p.1∈ns/\p.2∈ns:=by obtain⟨ls,h1,h2⟩:=h.line;have:=h2.mem hp;exact⟨h1.mem_iff.mp this.1,h1.mem_iff.mp this.2⟩
theorem Kv (ls:List Str):PyData.eqv (.list (ls.map PyData.str)) (.list [])=ls.isEmpty:=by cases ls<;>simp[PyData.eqv,PyData.eqvAll]
mutual
def Ev:PyData->Bool
 |.none=>true
 |.bool _=>true
 |.str x=>PyData.strOk x
 |.list ds=>Je ds
 |.tuple ds=>Je ds
 |_=>false
def Je:List PyData->Bool
 | []=>true
 |d :: ds=>Ev d&&Je ds
end
mutual
theorem Ji:∀ d:PyData,Ev d=true->d.canLay0=true
 |.none,_=>by simp only[PyData.canLay0]
 |.bool _,_=>by simp only[PyData.canLay0]
 |.str x,h=>by simpa only[PyData.canLay0,Ev] using h
 |.list ds,h=>by simp only[PyData.canLay0];exact K3 ds (by simpa only[Ev] using h)
 |.tuple ds,h=>by simp only[PyData.canLay0];exact K3 ds (by simpa only[Ev] using h)
 |.int _,h=>by simp[Ev] at h
 |.dict _,h=>by simp[Ev] at h
theorem K3:∀ ds:List PyData,Je ds=true->PyData.canLayAll0 ds=true
 | [],_=>by simp only[PyData.canLayAll0]
 |d :: ds,h=>by simp only[Je,Bool.and_eq_true] at h;simp only[PyData.canLayAll0,Ji d h.1,K3 ds h.2,Bool.and_self]
end
structure Fine (d:PyData):Prop where
 plain:Ev d=true
 deep:d.depth<=60
 light:d.weight<=1000000
theorem Fine.shaped {d:PyData}(h:Fine d):SeqAt.shaped d=true:=by unfold SeqAt.shaped;rw[Ji d h.plain,A0P (A0L h.deep nofun)];rfl
theorem Mz {z:Str}(h:I0 z=true):PyData.strOk z=true/\z.cps.size<=8:=by unfold I0 at h;simp only[Bool.and_eq_true,decide_eq_true_eq] at h;refine⟨?_,h.1.2⟩;unfold PyData.strOk;rw[<- Array.all_toList,A26];intro c hc;have:=A26.mp h.2 c hc;unfold Kw at this;simp only[Bool.and_eq_true,decide_eq_true_eq] at this;exact A0P ∅
theorem Ig {α:Type}(f:α->PyData):∀ xs:List α,(∀ a∈xs,Ev (f a)=true)->Je (xs.map f)=true
 | [],_=>by simp only[List.map_nil,Je]
 |x :: xs,h=>by simp only[List.map_cons,Je,h x List.mem_cons_self,Ig f xs λa ha=>h a (List.mem_cons_of_mem _ ha),Bool.and_self]
theorem Jt {α:Type}(f:α->PyData)(n:Nat):∀ xs:List α,(∀ a∈xs,(f a).depth<=n)->PyData.depthAll (xs.map f)<=n
 | [],_=>by simp only[List.map_nil,PyData.depthAll];omega
 |x :: xs,h=>by have h1:=h x A0C;have h2:=Jt f n xs λa ha=>h a (A08 _ ha);simp only[List.map_cons,PyData.depthAll];omega
theorem Nq {α:Type}(f:α->PyData)(n:Nat):∀ xs:List α,(∀ a∈xs,(f a).weight<=n)->PyData.weightAll (xs.map f)<=xs.length*(n+1)
 | [],_=>by simp only[List.map_nil,PyData.weightAll];omega
 |x :: xs,h=>by have h1:=h x A0C;have h2:=Nq f n xs λa ha=>h a (A08 _ ha);simp only[List.map_cons,PyData.weightAll,List.length_cons,Nat.add_mul];omega
theorem Ui {p:Str×Str}(h1:I0 p.1=true)(h2:I0 p.2=true):Ev (prD p)=true/\(prD p).depth<=1/\(prD p).weight<=18:=by have a:=Mz h1;have b:=Mz h2;refine⟨by simp only[prD,Ev,Je,a.1,b.1,Bool.and_self],by simp only[prD,PyData.depth,PyData.depthAll];omega,?_⟩;simp only[prD,PyData.weight,PyData.weightAll];omega
theorem a41 {ns:List Str}(h:∀ z∈ns,I0 z=true):Ev (nmD ns)=true/\(nmD ns).depth<=1/\(nmD ns).weight<=ns.length*9:=by
 refine⟨by simp only[nmD,Ev];exact Ig _ ns λz hz=>by simp only[Ev];exact(Mz (h z hz)).1,?_,?_⟩
 . simp only[nmD,PyData.depth];have:=Jt PyData.str 0 ns λz hz=>by simp only[PyData.depth];omega
   omega
 simp only[nmD,PyData.weight];exact Nq PyData.str 8 ns λz hz=>by simp only[PyData.weight];exact(Mz (h z hz)).2
def NmP (ps:List (Str×Str)):Prop:=∀ p∈ps,I0 p.1=true/\I0 p.2=true
theorem a04 {ns:List Str}(h:∀ z∈ns,I0 z=true)(hl:ns.length<=1000):Fine (nmD ns):=let ⟨a,b,c⟩:=a41 h;⟨a,by omega,by omega⟩
theorem Ug {ns:List Str}(h:∀ z∈ns,PyData.strOk z=true):SeqAt.shaped (.list (ns.map PyData.str))=true:=by
 unfold SeqAt.shaped;have e:(PyData.list (ns.map PyData.str)).canLay0=true:=Ji _ (by simp only[Ev];exact Ig _ ns λz hz=>by simp only[Ev];exact h z hz)
 have e2:(PyData.list (ns.map PyData.str)).depth<=64:=by
  simp only[PyData.depth];have:=Jt PyData.str 0 ns λz hz=>by simp only[PyData.depth];omega
  omega
 rw [e,A0P e2];rfl
theorem Cf {α:Type}[DecidableEq α]:∀ {xs ys:List α},xs.Nodup->(∀ x∈xs,x∈ys)->xs.length<=ys.length
 | [],_,_,_=>A2H _
 |x :: xs,ys,h,hs=>by
   rw[A19] at h;have hx:x∈ys:=hs x A0C
   have ih:=Cf (xs:=xs) (ys:=ys.erase x) h.2 λz hz=>by refine(List.mem_erase_of_ne ?_).mpr (hs z (A08 _ hz));intro e;subst e;exact h.1 hz
   rw[List.length_erase_of_mem hx] at ih;have:0<ys.length:=A36 hx;rw[A0V];omega
section
variable {c:TT}{tb:TS}{D:Ends}{σ:St}{H:Hp}
theorem Yn (W:Nat->St->Hp->Prop)(m:Nat)(h0:W m σ H)
  (hs:∀ m σ H,W m σ H->c σ H λb H1=>if b=true then ∃ N:St->Hp->Prop,(∀ σ' H',N σ' H'->∃ m',m'<m/\W m' σ' H')/\tb {D with nx:=N,ct:=N,bk:=D.nx} σ H1 else D.nx σ H1):a89 c tb D σ H:=⟨W,⟨m,h0⟩,hs⟩
theorem aa6 {W:Nat->St->Hp->Prop}{m:Nat}(h:tb {D with nx:=fun σ' H'=>∃ m',m'<m/\W m' σ' H',ct:=fun σ' H'=>∃ m',m'<m/\W m' σ' H',bk:=D.nx} σ H) :
  ∃ N:St->Hp->Prop,(∀ σ' H',N σ' H'->∃ m',m'<m/\W m' σ' H')/\tb {D with nx:=N,ct:=N,bk:=D.nx} σ H:=⟨_,λ_ _ h=>h,h⟩
end
section
variable {X:Cx}{K:W.Frag}
def Sx:V->List V->Hp->VK->Prop:=λx vs H Q=>∃ d o kvs more,x = .ref d/\vs=[.ref o]/\d≠o/\H d=some (.dK kvs)/\H o=some (.dK more)/\kvs.length+more.length<=1000000/\Q .non (upd H d (.dK (Fl kvs more)))
theorem Xl:MtM X "dict.update" Sx:=by
 intro pins s σ H x vs v us Q I rx rv h;obtain⟨d,o,kvs,more,rfl,rfl,hdo,hD,hO,hz,q⟩:=h
 cases rx;obtain⟨u,rfl,ru⟩:=rv.one
 cases ru;obtain⟨z1,hd1,vs1,rel1,dd1⟩:=Xn I.hok hD;obtain⟨z2,hd2,vs2,rel2,dd2⟩:=Xn I.hok hO;have l1:kvs.length=vs1.length:=rel1.length;have l2:more.length=vs2.length:=rel2.length;refine call_meetsIn F.slot_dict_update dd1.typeIs F.entry_dict_update (F.args_dict_update_2 _ _) (meets_dict_update (B1 X.prog X.w) d o hdo hd2) ⟨vs1,vs2,dd1,dd2,A7 ∅,λh' dd' _ hs=>?_⟩;have he:∃ q,h'.get? d=some q:=let ⟨q,_,_,hq,_⟩:=dd';⟨q,hq⟩;refine⟨.non,_,Ph I (by rw[hD];exact A1Z) hs he (Rk ?_ hd1 (KV.merge rel2 rel1) dd'),rfl,q⟩;have:=Fb more kvs;exact A7 ∅
end
theorem M5:entryFor table "dict.update.loop" = some Builtin.«dict.update.loop»:=entryFor_of_tree (by kernel_rfl)
theorem Gp:plainId "dict.update.loop" = true:=by decide +kernel
theorem Rn:typeLookup (.type "list") "keys" = pure none:=by rw[typeLookup_type,builtinLookup_eq_fast];kernel_rfl
section
variable {prog:Program}{w:World}{κ:Type}[DecidableEq κ]{knd:KeyKind prog w κ}{A:Around}{E:Value->Shared->Prop}{s:Shared}
theorem Xw {a:Addr}{xs:Array Value}{k:Nat}{Q:Option Value->Shared->Prop}(hx:s.heap.get? a=some {cls:=.type "list",data:=.seq xs k})(hA:A.handled=none)
  (h:∀ h' tk,(∀ b o,s.heap.get? b=some o->h'.get? b=some o)->Q none {s with heap:=h',toks:=tk}):wpAny (model prog w) A (getAttr? (.ref a) "keys") Q E s:=by
 obtain⟨hp,g,d,tk,os⟩:=s;have hT:∀ tk',(⟨hp,g,d,tk',os⟩:Shared).TypeIs (.ref a) "list":=λ_=>⟨_,hx,rfl⟩;have f1:=sub_AttributeError;have f3:=F.slot_list_getattribute.lookup;have f4:=F.slot_list_getattribute.bind (.ref a);have f5:=am_list_getattr_none;unfold getAttr? getAttrBy? getAttrBy
 repeat (any_goals (first | assumption | exact hT _ | ((with_reducible show wpAny _ _ (call (Value.builtin "list.__getattribute__") _ _) _ _ _);refine A3M F.slot_list_getattribute (hT _) am_entry_list_getattribute (F.args_list_getattribute_2 _ _) (meets_getattribute_miss_list a xs k #[] "keys" _ Rn (by decide +kernel) (by rw[A16];decide +kernel)) ⟨hx,hA,λh' tk' e hx'=>?_⟩) | wp_step))
 obtain⟨t',u',he⟩:=hx'.there;show wpAny _ _ (getattributeRaised _ _ _ _ _ _ _) _ _ _;unfold getattributeRaised
 repeat (any_goals (first | assumption | wp_step))
 exact h _ _ hx'.keeps
theorem Vn {t:Addr}{k v:Value}{Q:List Value->Shared->Prop}(ht:IsTup s.heap t #[k,v])(h:Q [k,v] s):wpAny (model prog w) A (Builtin.Dict.pairItems (.ref t)) Q E s:=by obtain⟨o,ho,hc,n,hd⟩:=ht;unfold Builtin.Dict.pairItems;refine A00 (A3C ⟨o,ho,hc⟩ ?_);rw[A12 nofun];refine A00 (wpAny_seqItems ho hd ?_);exact A05 h
theorem Zq {I D l:Addr}{items:Array Value}(hh:A.in1.handled=none)(hne:l≠I)(hDI:D≠I)(hDl:D≠l)(pk:List (κ×Value×Addr×Value))(hlen:pk.length=items.size)(hz:items.size<=1000000) :
  ∀(j i:Nat) (s:Shared) (R:Result->Shared->Prop),items.size-i=j->i<=items.size->s.heap.IsListIter I l i->s.heap.IsList l items ->
   s.heap.DictOf knd D (merged [] ((pk.take i).map λp=>(p.1,p.2.1))) ->
   (∀(n:Nat) (p:κ×Value×Addr×Value),pk[n]? = some p->items[n]? = some (Value.ref p.2.2.1)/\p.2.2.1≠I/\p.2.2.1≠D/\IsTup s.heap p.2.2.1 #[p.2.2.2,p.2.1]/\knd.is p.1 p.2.2.2=true) ->
   (∀ h' tk,h'.DictOf knd D (merged [] (pk.map λp=>(p.1,p.2.1)))->(∀ b o,b≠D->b≠I->s.heap.get? b=some o->h'.get? b=some o)->R (.ok (.ret .none)) {s with heap:=h',toks:=tk}) ->
   codeAny (model prog w) A (.builtin "dict.update.loop" ⟨[.ref D,.ref I,.int i 0,.none],[]⟩) R s:=by
 have W:=Walks.list (prog:=prog) (w:=w) hh I l hne items;intro j
 induction j with
 |zero=>
   intro i s R hj hi hI hL hD hP hR;have hin:i=items.size:=by omega
   subst hin;refine codeAny_builtin M5 ?_;rw[Around.under_plainId Gp _];show wpAny _ A.in1 (pyNext (.ref I) >>= _) _ _ s;refine A00 (W.done s _ _ ⟨hI,hL⟩ λh' tk hm=>?_);show wpAny _ A.in1 (Builtin.Dict.addKeywords D [] >>= _) _ _ _;refine wpAny_bind (wpAny_pure (wpAny_pure (hR h' tk ?_ λb o hb hb' e=>hm b o (by simpa using hb') e)));rw[<- hlen,A1A] at hD;obtain⟨o,es,ep,ho,r⟩:=hD;exact⟨o,es,ep,hm D o (by simpa using hDI) ho,r⟩
 |succ j ih=>
   intro i s R hj hi hI hL hD hP hR;have hlt:i<items.size:=by omega
   obtain⟨p,hp⟩:∃ p,pk[i]? = some p:=⟨pk[i]'∅,A07 _⟩;obtain⟨q1,q2,q3,q4,q5⟩:=hP i p hp;refine codeAny_builtin M5 ?_;rw[Around.under_plainId Gp _];show wpAny _ A.in1 (pyNext (.ref I) >>= _) _ _ s;refine A00 (W.item i s _ _ hlt ⟨hI,hL⟩ λv h' tk hv hst hm=>?_)
   have hv':v = .ref p.2.2.1:=by have hv2:items[i]? = some v:=hv;rw[q1] at hv2;exact(A0Z hv2).symm
   subst hv'
   have ht':IsTup h' p.2.2.1 #[p.2.2.2,p.2.1]:=by obtain⟨o,ho,r⟩:=q4;exact⟨o,hm _ o (by simpa using q2) ho,r⟩
   have hD':h'.DictOf knd D (merged [] ((pk.take i).map λp=>(p.1,p.2.1))):=by obtain⟨o,es,ep,ho,r⟩:=hD;exact⟨o,es,ep,hm D o (by simpa using hDI) ho,r⟩
   show wpAny _ A.in1 (holding [Value.ref p.2.2.1] _ >>= _) _ _ _;refine A00 (A1T ?_);refine A00 (wpAny_tryCatch (Vn ht' ?_));show wpAny _ A.in1 (holding [p.2.2.2,p.2.1] (dictSet D p.2.2.2 p.2.1)) _ _ _;refine A1T (wpAny_dictSet_pairs q5 hD' (λh'' hD'' hs=>?_) ?_)
   . refine A05 ⟨plainId_quiet Gp _,?_⟩;have hkeep:∀ b o,b≠D->b≠I->s.heap.get? b=some o->h''.get? b=some o:=λb o h1 h2 e=>(hs.2 b h1).trans (hm b o (by simpa using h2) e);refine ih (i+1) _ R ∅ hlt ?_ ?_ ?_ (λn p' hp'=>?_) λh3 tk3 hD3 hk3=>hR h3 tk3 hD3 λb o h1 h2 e=>hk3 b o h1 h2 (hkeep b o h1 h2 e)
     . exact hst.1.at λo e=>(hs.2 I (Ne.symm hDI)).trans e
     . exact hst.2.at λo e=>(hs.2 l (Ne.symm hDl)).trans e
     . have e:merged [] ((pk.take (i+1)).map λp=>(p.1,p.2.1))=stored (merged [] ((pk.take i).map λp=>(p.1,p.2.1))) p.1 p.2.1:=by rw[A18,hp];unfold merged;rw[A0N,List.foldl_append];rfl
       rw[e];exact hD''
     obtain⟨a1,a2,a3,⟨o,ho,r⟩,a5⟩:=hP n p' hp';exact⟨a1,a2,a3,⟨o,hkeep _ o a3 a2 ho,r⟩,a5⟩
   refine A0L (merged_length_le _ _) (A7 ?_);rw[A01,A0U];simp;omega
theorem Lc {l:Addr}{items:Array Value}{n:Nat}{Q:Value->Shared->Prop}(hl:s.heap.get? l=some {cls:=.type "list",data:=.seq items n})(hA:A.handled=none)(pk:List (κ×Value×Addr×Value))(hlen:pk.length=items.size)(hz:items.size<=1000000)
  (hP:∀(n:Nat) (p:κ×Value×Addr×Value),pk[n]? = some p->items[n]? = some (Value.ref p.2.2.1)/\IsTup s.heap p.2.2.1 #[p.2.2.2,p.2.1]/\knd.is p.1 p.2.2.2=true)
  (h:∀ h' tk,h'.DictOf knd s.heap.objs.size (merged [] (pk.map λp=>(p.1,p.2.1)))->(∀ b o,s.heap.get? b=some o->h'.get? b=some o)->Q (.ref s.heap.objs.size) {s with heap:=h',toks:=tk}) :
  wpAny (model prog w) A (call (.type "dict") [.ref l]) Q E s:=by
 refine callType_codes (Q₁:=λobj s₁=>obj = .ref s.heap.objs.size/\s₁={s with heap:=s.heap.push {cls:=.type "dict",data:=.dict #[]}}) F.kt_called_dict (F.kt_typeCall_dict_1 _) F.entry_dict_init (kt_code_dict_new _ ⟨rfl,rfl⟩) ?_
 rintro obj s₁ ⟨rfl,rfl⟩;have hnew:(s.heap.push {cls:=.type "dict",data:=.dict #[]}).DictOf knd s.heap.objs.size []:=Heap.DictOf.new s.heap;have hl':(s.heap.push {cls:=.type "dict",data:=.dict #[]}).get? l=some {cls:=.type "list",data:=.seq items n}:=A02 _ hl;have hll:l<s.heap.objs.size:=A0D hl;refine⟨hnew.typeIs,F.args_dict_init_2 _ _,?_⟩;unfold Builtin.«dict.__init__»;refine A00 ?_;unfold Builtin.Dict.selfAndRest;refine A00 (wpAny_notOrdered_dict hnew.typeIs ?_);show wpAny _ _ (pure (s.heap.objs.size,[Value.ref l])) _ _ _;refine A05 ?_;show wpAny _ _ (Builtin.Dict.updateFrom "dict.__init__" s.heap.objs.size (.ref l) [] .none) _ _ _;unfold Builtin.Dict.updateFrom;refine A00 (A3C ⟨_,hl',rfl⟩ ?_);rw[A12 nofun];refine wpAny_bind (Xw hl' (by simpa using hA) λh1 tk1 hk1=>?_);have hl1:h1.get? l=some {cls:=.type "list",data:=.seq items n}:=hk1 _ _ hl';rw[A12 (show(none:Option Value).isNone=true from rfl)]
 have hD1:h1.DictOf knd s.heap.objs.size []:=by obtain⟨o,es,ep,ho,r⟩:=hnew;exact⟨o,es,ep,hk1 _ _ ho,r⟩
 have hsz:s.heap.objs.size<h1.objs.size:=by obtain⟨o,es,ep,ho,r⟩:=hD1;exact A0D ho
 refine A00 (wpAny_rule ?_);have hL1:h1.IsList l items:=⟨_,hl1,rfl,n,rfl⟩;refine A00 (wpAny_pyIter_list hL1 ?_);refine A05 ⟨plainId_quiet Gp _,?_⟩;have kp:∀ b o,s.heap.get? b=some o->(h1.push {cls:=.type "list_iterator",data:=.fields #[.ref l,.int 0 0]}).get? b=some o:=λb o e=>A02 _ (hk1 _ _ (A02 _ e));refine Zq (knd:=knd) (A:=A.in1) (I:=h1.objs.size) (D:=s.heap.objs.size) (l:=l) (items:=items) (by simpa using hA) (Nat.ne_of_lt (Nat.lt_trans hll hsz)) (Nat.ne_of_lt hsz) (Nat.ne_of_gt hll) pk hlen hz items.size 0 _ _ (Nat.sub_zero _) (Nat.zero_le _) ⟨_,Heap.get?_push_size _ rfl,rfl,rfl⟩ (hL1.push _) ?_ (λm p hp=>?_) λh' tk hD hk=>?_
 . exact hD1.push _
 . obtain⟨a1,⟨o,ho,r⟩,a3⟩:=hP m p hp;have hlt:=A0D ho;exact⟨a1,A10 (A3W hlt hsz),A10 hlt,⟨o,kp _ _ ho,r⟩,a3⟩
 refine⟨rfl,h h' tk hD λb o e=>?_⟩;have hlt:=A0D e;exact hk b o (A10 hlt) (A10 (A3W hlt hsz)) (kp b o e)
end
def PrsK (K:W.Frag)(H:Hp):List (Key×V)->List V->Prop
 | [],ys=>ys=[]
 |kv :: r,ys=>∃ t ys',ys = .ref t :: ys'/\SqT K H t [kV kv.1,kv.2]/\PrsK K H r ys'
theorem PrsK.pk {X:Cx}{pins:List (Addr×Obj)}{σ:St}{H:Hp}{s:Shared}(I:Inv X pins σ H s):∀(kvs:List (Key×V)) (ys:List V) (its:List Value),PrsK X.K H kvs ys->Vals ys its ->
  ∃ pk:List (Key×Value×Addr×Value),pk.length=its.length/\KV kvs (pk.map λp=>(p.1,p.2.1))/\∀(n:Nat) (p:Key×Value×Addr×Value),pk[n]? = some p->its[n]? = some (Value.ref p.2.2.1)/\IsTup s.heap p.2.2.1 #[p.2.2.2,p.2.1]/\(B1 X.prog X.w).is p.1 p.2.2.2=true
 | [],ys,its,h,v=>by
   have h':ys=[]:=h;subst h'
   cases v;exact ⟨[],rfl,.nil,λn p hp=>by simp at hp⟩
 |kv :: r,ys,its,h,v=>by
   obtain⟨t,ys',rfl,h2,h3⟩:=h
   cases v with
   |cons v1 v2=>
     obtain⟨pk,l1,l2,l3⟩:=PrsK.pk I r ys' _ h3 v2
     cases v1;obtain ⟨its2,rv,ht,_⟩:=I.tuple h2;obtain⟨key,val,rfl,a1,a3⟩:=Vals.two rv;refine⟨(kv.1,val,t,key) :: pk,by simp[l1],.cons ⟨rfl,a3⟩ l2,λn p hp=>?_⟩
     cases n with
     |zero=>have:p=(kv.1,val,t,key):=(Option.some.inj (by simpa using hp)).symm;subst this;exact⟨rfl,ht,Qg a1⟩
     |succ n=>exact l3 n p (by simpa using hp)
section
variable {X:Cx}{K:W.Frag}
def Zl (K:W.Frag):List V->Hp->VK->Prop:=λxs H Q=>∃ l ys kvs,xs=[V.ref l]/\H l=some (.lst ys)/\PrsK K H kvs ys/\ys.length<=1000000/\kvs.length<=1000000/\∀ p,H p=none->Q (.ref p) (upd H p (.dK (Fl [] kvs)))
theorem Vj (hr:X.A.handled=none):CallR X (.type "dict") (Zl X.K):=by
 intro pins s σ H xs us Q I rv h;obtain⟨l,ys,kvs,rfl,hl,hp,hz,hz2,q⟩:=h;obtain⟨u,rfl,ru⟩:=rv.one
 cases ru;obtain⟨z,its,n,r,hlen,e⟩:=I.lstM hl;obtain⟨pk,l1,l2,l3⟩:=PrsK.pk I kvs ys its hp r;refine Lc (knd:=B1 X.prog X.w) e hr pk (by simpa using l1) (by simp;omega) (λn p hp=>?_) λh' tk hD hk=>?_
 . obtain⟨a1,a2,a3⟩:=l3 n p hp;exact⟨by simpa using a1,a2,a3⟩
 refine⟨.ref s.heap.objs.size,_,I.laid hk (A06 _) (Rk ?_ ?_ (KV.merge l2 .nil) hD),rfl,q _ (I.hok.fresh (A06 _))⟩
 . have:=Fb kvs [];exact A7 (by simpa using Nat.le_trans this (by simpa using hz2))
 exact A0W.mpr (A3A I.big)
theorem Vr (hr:X.A.handled=none)(hK:X.K=K:=by ac_nf):CallR X (.type "dict") (Zl K):=hK ▸ Vj hr
end
def Io (ns:List Str)(as:List Addr):List (Key×V):=(ns.zip as).map λp=>(Sum.inr p.1,V.ref p.2)
def Gh (ks:List Str):List (Key×V):=ks.map λy=>(Sum.inr y,V.bl true)
theorem Ih:∀ {ns:List Str} {as:List Addr} {i:Nat} {z:Str} {a:Addr},ns.Nodup->ns[i]? = some z->as[i]? = some a->Hz (Io ns as) (Sum.inr z:Key)=some (.ref a)
 | [],_,i,_,_,_,h,_=>by simp at h
 |n :: ns,[],i,_,_,_,_,h=>by simp at h
 |n :: ns,b :: as,0,z,a,_,h,g=>by simp at h g;subst h g;exact Jv rfl
 |n :: ns,b :: as,i+1,z,a,hn,h,g=>by
   rw[A19] at hn;have h':ns[i]? = some z:=by simpa using h
   have ne:¬ (Sum.inr n:Key)=Sum.inr z:=by
    intro e;have e2:n=z:=by injection e
    subst e2;exact hn.1 (A0B h')
   show Hz ((Sum.inr n,V.ref b) :: Io ns as) _=_;rw[Il ne];exact Ih hn.2 h' (by simpa using g)
theorem L7 (y:Str):∀ ks:List Str,Hz (Gh ks) (Sum.inr y:Key)=if y∈ks then some (.bl true) else none
 | []=>by simp[Gh,a40]
 |k :: ks=>by
   show Hz ((Sum.inr k,V.bl true) :: Gh ks) _=_
   by_cases e:k=y
   . subst e;rw[Jv rfl,A12 A0C]
   rw[Il (by intro q;injection q with q;exact e q),L7 y ks]
   have:(y∈k :: ks)↔y∈ks:=by simp[Ne.symm e]
   simp only[this]
def Y9 (ks:List Str)(y:Str):List Str:=if y∈ks then ks else ks++[y]
theorem mem_addK {ks:List Str}{y z:Str}:z∈Y9 ks y↔z∈ks\/z=y:=by
 unfold Y9
 split
 . constructor
   . exact .inl
   rintro(h|rfl)
   . exact h
   assumption
 simp
theorem Ic {ks:List Str}{y:Str}(h:ks.Nodup):(Y9 ks y).Nodup:=by
 unfold Y9
 split
 . exact h
 rename_i hy;rw[A1G];refine⟨h,by simp,λa ha b hb e=>?_⟩;have:b=y:=by simpa using hb
 subst this;subst e;exact hy ha
theorem af5 (y:Str)(ks:List Str):((Gh ks).any λkv=>decide (kv.1=(Sum.inr y:Key)))=decide (y∈ks):=by
 induction ks with
 |nil=>simp[Gh]
 |cons k ks ih=>
   show(decide ((Sum.inr k:Key)=Sum.inr y)||(Gh ks).any _)=_
   rw[ih]
   by_cases e:k=y
   . subst e;simp
   have e':¬ (Sum.inr k:Key)=Sum.inr y:=by intro q;injection q with q;exact e q
   simp[e',Ne.symm e]
theorem T8 (ks:List Str)(y:Str):K6 (Gh ks) (Sum.inr y:Key) (.bl true)=Gh (Y9 ks y):=by
 unfold K6 Y9;rw[af5]
 by_cases h:y∈ks
 . rw[A12 (A0P h),A12 h];unfold Gh;rw[A1J];refine A1X λk _=>?_;show(if(Sum.inr k:Key)=Sum.inr y then(Sum.inr k,V.bl true) else(Sum.inr k,V.bl true))=_
   split<;>rfl
 rw[if_neg (by simpa using h),if_neg h];unfold Gh;rw[A0N];rfl
def Km (ks ms:List Str):List Str:=ms.foldl Y9 ks
theorem Qk:∀(ms ks:List Str),Fl (Gh ks) (Gh ms)=Gh (Km ks ms)
 | [],ks=>rfl
 |m :: ms,ks=>by show Fl (K6 (Gh ks) (Sum.inr m) (.bl true)) (Gh ms)=_;rw[T8,Qk ms];rfl
theorem mem_addAll:∀ {ms ks:List Str} {z:Str},z∈Km ks ms↔z∈ks\/z∈ms
 | [],ks,z=>by simp[Km]
 |m :: ms,ks,z=>by show z∈Km (Y9 ks m) ms↔_;rw[mem_addAll,mem_addK,A0H,or_assoc]
theorem G1:∀ {ms ks:List Str},ks.Nodup->(Km ks ms).Nodup
 | [],ks,h=>h
 |m :: ms,ks,h=>G1 (ms:=ms) (Ic h)
theorem Ka (ks:List Str):(Gh ks).length=ks.length:=by simp[Gh]
theorem Qo:∀(kvs acc:List (Key×V)),(kvs.map (·.1)).Nodup->(∀ k∈kvs,∀ q∈acc,q.1≠k.1)->Fl acc kvs=acc++kvs
 | [],acc,_,_=>by simp[Fl]
 |k :: kvs,acc,hn,hd=>by
   show Fl (K6 acc k.1 k.2) kvs=_
   have e:K6 acc k.1 k.2=acc++[k]:=by
    unfold K6
    have:¬ (acc.any λkv=>decide (kv.1=k.1))=true:=by rw[A27];rintro⟨q,hq,e⟩;exact hd k A0C q hq (A21 e)
    rw[A13 this]
   rw[A0Q,A19] at hn;rw[e,Qo kvs (acc++[k]) hn.2 λx hx q hq=>?_,A2N]
   . rfl
   rcases A0E.mp hq with hq|hq
   . exact hd x (A08 _ hx) q hq
   have:q=k:=by simpa using hq
   subst this;intro e;exact hn.1 (A0K.mpr ⟨x,hx,e.symm⟩)
structure Tab (H:Hp)(r:Addr)(ns:List Str)(as:List Addr)(R:Str->Str->Prop):Prop where
 len:as.length=ns.length
 nd:as.Nodup
 nr:r∉as
 top:H r=some (.dK (Io ns as))
 row:∀(i:Nat) (z:Str) (a:Addr),ns[i]? = some z->as[i]? = some a->∃ ks:List Str,H a=some (.dK (Gh ks))/\ks.Nodup/\(∀ y∈ks,y∈ns)/\∀ y,y∈ks↔R z y
theorem Tab.same {H H':Hp}{r:Addr}{ns:List Str}{as:List Addr}{R:Str->Str->Prop}(h:Tab H r ns as R)(e:Same H H'):Tab H' r ns as R:=
 ⟨h.len,h.nd,h.nr,e _ _ h.top,λi z a hz ha=>let ⟨ks,h1,h2⟩:=h.row i z a hz ha;⟨ks,e _ _ h1,h2⟩⟩
theorem Tab.congr {H:Hp}{r:Addr}{ns:List Str}{as:List Addr}{R R':Str->Str->Prop}(h:Tab H r ns as R)(e:∀ z∈ns,∀ y,R z y↔R' z y):Tab H r ns as R':=
 ⟨h.len,h.nd,h.nr,h.top,λi z a hz ha=>let ⟨ks,h1,h2,h3,h4⟩:=h.row i z a hz ha;⟨ks,h1,h2,h3,λy=>(h4 y).trans (e z (A0B hz) y)⟩⟩
theorem Tab.put {H H':Hp}{r b:Addr}{ns:List Str}{as:List Addr}{R R':Str->Str->Prop}(h:Tab H r ns as R)(e:ExtBut b H H'){j:Nat}{x:Str}(hn:ns.Nodup)(hj:ns[j]? = some x)(hb:as[j]? = some b){ks:List Str}
  (hk:H' b=some (.dK (Gh ks))) (k1:ks.Nodup) (k2:∀ y∈ks,y∈ns) (k3:∀ y,y∈ks↔R' x y) (k4:∀ z∈ns,z≠x->∀ y,R z y↔R' z y):Tab H' r ns as R':=by
 refine⟨h.len,h.nd,h.nr,e _ _ (λq=>h.nr (q ▸ A0B hb)) h.top,λi z a hz ha=>?_⟩
 by_cases hij:i=j
 . subst hij;rw[hz] at hj
   cases hj;rw[ha] at hb
   cases hb;exact⟨ks,hk,k1,k2,k3⟩
 obtain⟨ms,h1,h2,h3,h4⟩:=h.row i z a hz ha
 have hab:a≠b:=by intro q;subst q;obtain⟨p1,p2⟩:=A03.mp ha;obtain⟨q1,q2⟩:=A03.mp hb;exact hij ((A1U h.nd).mp (p2.trans q2.symm))
 have hzx:z≠x:=by intro q;subst q;obtain⟨p1,p2⟩:=A03.mp hz;obtain⟨q1,q2⟩:=A03.mp hj;exact hij ((A1U hn).mp (p2.trans q2.symm))
 exact⟨ms,e _ _ hab h1,h2,h3,λy=>(h4 y).trans (k4 z (A0B hz) hzx y)⟩
theorem Tab.at {H:Hp}{r:Addr}{ns:List Str}{as:List Addr}{R:Str->Str->Prop}(h:Tab H r ns as R){x:Str}(hx:x∈ns):∃(i:Nat) (a:Addr),ns[i]? = some x/\as[i]? = some a:=by
 obtain⟨i,hi,e⟩:=A2I hx;have hi':i<as.length:=by rw[h.len];exact hi
 exact⟨i,as[i],by rw[A07 hi,e],A07 hi'⟩
section
variable {K:W.Frag}{H:Hp}{Q:VK}{r:Addr}{ns:List Str}{as:List Addr}{R:Str->Str->Prop}
theorem Vv {x:Str}{i:Nat}{a:Addr}(h:Tab H r ns as R)(hn:ns.Nodup)(hx:ns[i]? = some x)(ha:as[i]? = some a)(k:Q (.ref a) H):Pw K (.ref r) (.str x) H Q:=i_ixD h.top (Ih hn hx ha) k
theorem ah7 {a:Addr}{ks:List Str}{y:Str}(h:H a=some (.dK (Gh ks)))(k:Q (.bl (decide (y∈ks))) H):Wj K false (.str y) (.ref a) H Q:=by
 refine .inr (.inr (.inl ⟨a,Hz (Gh ks) (Sum.inr y:Key),rfl,DGet.k (k:=Sum.inr y) h,?_⟩));rw[L7]
 by_cases e:y∈ks
 . rw[if_pos e];simpa[e] using k
 rw[if_neg e];simpa[e] using k
theorem a50 {a:Addr}{kvs:List (Key×V)}{B:Prop}(h:H a=some (.dK kvs))(k:B):tyV K "dict" (.ref a) H/\B:=⟨.inr (.inr (.inl ⟨rfl,.inl ⟨kvs,h⟩⟩)),k⟩
theorem ay9 {d o:Addr}{ks ms:List Str}(hd:H d=some (.dK (Gh ks)))(ho:H o=some (.dK (Gh ms)))(hne:d≠o)(hz:ks.length+ms.length<=1000000)(k:∀ H',ExtBut d H H'->H' d=some (.dK (Gh (Km ks ms)))->Q .non H'):Sx (.ref d) [.ref o] H Q:=
 ⟨d,o,_,_,rfl,rfl,hne,hd,ho,by rw[Ka,Ka];exact hz,k _ ExtBut.upd (by rw[A9,Qk])⟩
end
structure HalfW (ns:List Str)(ps:List (Str×Str)):Prop where
 nd:ns.Nodup
 mem:∀ p∈ps,p.1∈ns/\p.2∈ns
 irr:∀ x,¬ Way ps x x
 few:ns.length<=100
 le:ps.length<=1000
theorem Half.w {ns:List Str}{ps:List (Str×Str)}(h:Half ns ps):HalfW ns ps:=⟨h.names.1,λp hp=>h.mem hp,λ_=>h.irrefl,A0L h.few nofun,A0L h.le nofun⟩
structure War (ns:List Str)(ps:List (Str×Str))(ms:List Str)(R:Str->Str->Prop):Prop where
 snd:∀ z y,R z y->Way ps z y
 edge:∀ z y,(z,y)∈ps->R z y
 shut:∀ m∈ms,∀ z y,R z m->R m y->R z y
def ab3 (R:Str->Str->Prop)(mid:Str)(ms:List Str)(z y:Str):Prop:=R z y\/(z∈ms/\R z mid/\R mid y)
theorem War.step {ns:List Str}{ps:List (Str×Str)}{ms:List Str}{R:Str->Str->Prop}(h:War ns ps ms R){mid:Str}:War ns ps (ms++[mid]) (λz y=>R z y\/(R z mid/\R mid y)):=by
 refine⟨λz y hz=>?_,λz y hz=>.inl (h.edge z y hz),λm hm z y h1 h2=>?_⟩
 . rcases hz with hz|⟨h1,h2⟩
   . exact h.snd z y hz
   exact(h.snd _ _ h1).trans (h.snd _ _ h2)
 rcases A0E.mp hm with hm|hm
 . rcases h1 with h1|⟨h1,h1'⟩
   . rcases h2 with h2|⟨h2,h2'⟩
     . exact .inl (h.shut m hm z y h1 h2)
     exact .inr ⟨h.shut m hm z mid h1 h2,h2'⟩
   rcases h2 with h2|⟨h2,h2'⟩
   . exact .inr ⟨h1,h.shut m hm mid y h1' h2⟩
   exact .inr ⟨h1,h2'⟩
 have e:m=mid:=by simpa using hm
 subst e;rcases h1 with h1|⟨h1,h1'⟩
 . rcases h2 with h2|⟨h2,h2'⟩
   . exact .inr ⟨h1,h2⟩
   exact .inr ⟨h1,h2'⟩
 rcases h2 with h2|⟨h2,h2'⟩
 . exact .inr ⟨h1,h2⟩
 exact .inr ⟨h1,h2'⟩
theorem War.done {ns:List Str}{ps:List (Str×Str)}{R:Str->Str->Prop}(h:War ns ps ns R)(hm:∀ p∈ps,p.1∈ns/\p.2∈ns)(z y:Str):R z y↔Way ps z y:=by
 refine⟨h.snd z y,λg=>?_⟩
 induction g with
 |one e=>exact h.edge _ _ e
 |cons e _ ih=>exact h.shut _ (hm _ e).2 _ _ (h.edge _ _ e) ih
theorem PrsK.fz {K:W.Frag} {H H':Hp} (e:Fz H H'):∀ {kvs:List (Key×V)} {ys:List V},PrsK K H kvs ys->PrsK K H' kvs ys
 | [],_,h=>h
 |kv :: r,ys,⟨t,ys',h1,h2,h3⟩=>⟨t,ys',h1,e.seq h2,PrsK.fz e h3⟩
theorem PrsK.snoc {K:W.Frag}{H:Hp}{kv:Key×V}{t:Addr}(h:SqT K H t [kV kv.1,kv.2]):∀ {kvs:List (Key×V)} {ys:List V},PrsK K H kvs ys->PrsK K H (kvs++[kv]) (ys++[.ref t])
 | [],ys,g=>by have g':ys=[]:=g;subst g';exact⟨t,[],rfl,h,rfl⟩
 |k :: r,ys,⟨u,ys',h1,h2,h3⟩=>by subst h1;exact⟨u,ys'++[.ref t],rfl,h2,PrsK.snoc h h3⟩
theorem PrsK.length {K:W.Frag}{H:Hp}:∀ {kvs:List (Key×V)} {ys:List V},PrsK K H kvs ys->ys.length=kvs.length
 | [],ys,g=>by have g':ys=[]:=g;subst g';rfl
 |k :: r,ys,⟨u,ys',h1,h2,h3⟩=>by subst h1;simp[PrsK.length h3]
theorem aq1 {K:W.Frag}{H:Hp}{Q:VK}{l:Addr}{ys:List V}{kvs:List (Key×V)}(h:H l=some (.lst ys))(g:PrsK K H kvs ys)(hz:kvs.length<=1000000)(k:∀ p H',H p=none->Same H H'->H' p=some (.dK (Fl [] kvs))->Q (.ref p) H'):Zl K [.ref l] H Q:=
 ⟨l, ys,kvs,rfl,h,g,by rw[g.length];exact hz,hz,λp hp=>k p _ hp (Same.upd hp) A9⟩
theorem Ve:∀ {ns:List Str} {as:List Addr},ns.Nodup->((Io ns as).map (·.1)).Nodup
 | [],as,_=>by simp[Io]
 |n :: ns,[],_=>by simp[Io]
 |n :: ns,a :: as,h=>by
   rw[A19] at h;show((Sum.inr n:Key) :: (Io ns as).map (·.1)).Nodup;rw[A19];refine⟨λhm=>?_,Ve h.2⟩;obtain⟨kv,hkv,e⟩:=A0K.mp hm;obtain⟨p,hp,rfl⟩:=A0K.mp hkv;have e':p.1=n:=by injection e
   exact h.1 (e' ▸ (A4H hp).1)
theorem Uv {ns:List Str}{as:List Addr}{z:Str}{a:Addr}(h:ns.length=as.length):Io (ns++[z]) (as++[a])=Io ns as++[(Sum.inr z,V.ref a)]:=by unfold Io;rw[List.zip_append h,A0N];rfl
end L2
namespace L2
open PySem PySem.Spec PyProof.Rows
open Classical in
def Ay (ps:List (Str×Str))(x y:Str):Bool:=decide (Way ps x y)
theorem wayB_iff {ps:List (Str×Str)} {x y:Str}:Ay ps x y=true↔Way ps x y:=by unfold Ay;simp
theorem aj6 {ps:List (Str×Str)}{x y:Str}{b:Bool}(h:b=true↔Way ps x y):b=Ay ps x y:=by
 cases hb:Ay ps x y with
 |true=>exact h.mpr (wayB_iff.mp hb)
 |false=>
   cases b with
   |false=>rfl
   |true=>
     have:=wayB_iff.mpr (h.mp rfl);rw[hb] at this
     cases this
theorem Tp {ps:List (Str×Str)}{x y:Str}{p:Prop}[Decidable p](h:p↔Way ps x y):decide p=Ay ps x y:=aj6 (by rw[A3Z];exact h)
theorem Vl {ps:List (Str×Str)}{x y:Str}(h:¬ Way ps x y):Ay ps x y=false:=by
 cases hb:Ay ps x y with
 |false=>rfl
 |true=>exact absurd (wayB_iff.mp hb) h
theorem iteR {α:Type}{a:α}{A B:Prop}[Decidable (a=a)](h:A):if decide (a=a)=true then A else B:=by rw[if_pos (by simp)];exact h
theorem iteNR {α:Type}{a:α}{A B:Prop}[Decidable (a=a)](h:B):if(!decide (a=a))=true then A else B:=by rw[if_neg (by simp)];exact h
section
variable {K:W.Frag}{H:Hp}{σ:St}{x:V}{Q:VK}
theorem ak1 {ns:List Str}{g:TG}{tt:TT}{te:TE}{k:Nat}{js:List Nat}(h:Is K H (nmD ns) x)(t:Str->Bool)(f:Str->PyData)(hf:∀ a,frz (f a)=true)(hz:ns.length<=1000000)
  (hs:∀(i:Nat) a H1 (R:VK) (R':Hp->Prop),ns[i]? = some a->Same H H1->(t a=true->∀ y H2,Same H1 H2->Is K H2 (f a) y->R y H2)->(t a=false->∀ H2,Same H1 H2->R' H2) ->
   g (.str a) (List.replicate k none++Mi σ js) H1 fun σ2 H2=>tt σ2 H2 λb H3=>if b=true then te σ2 H3 R else R' H3)
  (hd:∀ p ys H',H p=none->Same H H'->H' p=some (.lst ys)->IsL K H' ((ns.filter t).map f) ys->Q (.ref p) H'):Fw K x H λJ H1=>Oi k js g tt te σ J H1 Q:=by
 obtain⟨a,rfl,hS⟩:=h.nm;refine Xt hS (G2 (K:=K) (Jm (xs:=ns.map V.str)) ns (by simp) t f hf (by simpa using hz) (λH' e=>e.seqT hS) (λi z v H1 R R' hz hv e hR hR'=>?_) hd);rw[A09,hz] at hv
 cases hv;exact hs i z H1 R R' hz e hR hR'
theorem Us {ns:List Str}{a:Addr}{g:TG}{tt:TT}{te:TE}{k:Nat}{js:List Nat}(h:SqL K H a (ns.map V.str))(t:Str->Bool)(f:Str->PyData)(hf:∀ a,frz (f a)=true)(hz:ns.length<=1000000)
  (hs:∀(i:Nat) a H1 (R:VK) (R':Hp->Prop),ns[i]? = some a->Same H H1->(t a=true->∀ y H2,Same H1 H2->Is K H2 (f a) y->R y H2)->(t a=false->∀ H2,Same H1 H2->R' H2) ->
   g (.str a) (List.replicate k none++Mi σ js) H1 fun σ2 H2=>tt σ2 H2 λb H3=>if b=true then te σ2 H3 R else R' H3)
  (hd:∀ p ys H',H p=none->Same H H'->H' p=some (.lst ys)->IsL K H' ((ns.filter t).map f) ys->Q (.ref p) H'):Fw K (.ref a) H λJ H1=>Oi k js g tt te σ J H1 Q:=by
 refine Mq h (G2 (K:=K) (Cv (xs:=ns.map V.str)) ns (by simp) t f hf (by simpa using hz) (λH' e=>e.seq h) (λi z v H1 R R' hz hv e hR hR'=>?_) hd);rw[A09,hz] at hv
 cases hv;exact hs i z H1 R R' hz e hR hR'
theorem ac6 {ps:List (Str×Str)}{g:TG}{tt:TT}{te:TE}{k:Nat}{js:List Nat}(h:Is K H (psD ps) x)(t:Str×Str->Bool)(f:Str×Str->PyData)(hf:∀ a,frz (f a)=true)(hz:ps.length<=1000000)
  (hs:∀(i:Nat) a v H1 (R:VK) (R':Hp->Prop),ps[i]? = some a->Is K H1 (prD a) v->Same H H1->(t a=true->∀ y H2,Same H1 H2->Is K H2 (f a) y->R y H2)->(t a=false->∀ H2,Same H1 H2->R' H2) ->
   g v (List.replicate k none++Mi σ js) H1 fun σ2 H2=>tt σ2 H2 λb H3=>if b=true then te σ2 H3 R else R' H3)
  (hd:∀ p ys H',H p=none->Same H H'->H' p=some (.lst ys)->IsL K H' ((ps.filter t).map f) ys->Q (.ref p) H'):Fw K x H λJ H1=>Oi k js g tt te σ J H1 Q:=by
 obtain⟨a,xs,rfl,hS,hL⟩:=Is.tup h;have hl:ps.length=xs.length:=by rw[<- IsL.length hL,A01]
 refine Xt hS (G2 (K:=K) (Jm (xs:=xs)) ps hl t f hf ∅ (λH' e=>e.seqT hS) (λi z v H1 R R' hz hv e hR hR'=>?_) hd);obtain⟨d,e1,e2⟩:=IsL.get (IsL.mono e _ _ hL) hv;rw[A09,hz] at e1
 cases e1;exact hs i z v H1 R R' hz e2 e hR hR'
theorem Ln {ns:List Str}{a:Addr}{ys:List V}(h:H a=some (.lst ys))(g:IsL K H (ns.map PyData.str) ys)(k:∀ v H',Same H H'->Is K H' (nmD ns) v->Q v H'):Lj K [.ref a] H Q:=by have e:=IsL.str_eq g;subst e;exact Js (SqL.of h) λp H' hp e h'=>k _ H' e (Jy (SqT.of h'))
theorem Wt {ps:List (Str×Str)}{a:Addr}{ys:List V}(h:H a=some (.lst ys))(g:IsL K H (ps.map prD) ys)(k:∀ v H',Same H H'->Is K H' (psD ps) v->Q v H'):Lj K [.ref a] H Q:=
 Js (SqL.of h) λp H' hp e h'=>k _ H' e (Is.of_tup (SqT.of h') (IsL.mono e _ _ g))
end
end L2
namespace L2
open PySem PySem.Spec PyProof.Rows
open AutoSeq1 (wpAny_loadPart')
section
variable {prog:Program}{w:World}{A:Around}{E:Value->Shared->Prop}{s:Shared}
end
section
variable {X:Cx}{K:W.Frag}
end
section
variable {K:W.Frag}{σ:St}{H:Hp}
end
end L2
namespace L2
open PySem PySem.Spec PyProof.Rows
section
variable {X:Cx}{K:W.Frag}
section
variable {H:Hp}{Q:VK}{lo hi:Option Int}
theorem Fu {a b:Addr}{xs ys:List V}(h1:SqT K H a xs)(h2:SqT K H b ys)(h:xs.length+ys.length<=sizeLine)(k:∀ p H',Same H H'->SqT K H' p (xs++ys)->Q (.ref p) H'):Px K (.ref a) (.ref b) H Q:=by
 by_cases hx:xs=[]
 . subst hx;exact .inr (.inr (.inr (.inr ⟨a,b,ys,rfl,rfl,h1,h2,k b H (Same.refl _) h2⟩)))
 refine .inr (.inr (.inr (.inl ⟨a,b,xs,ys,rfl,rfl,h1,h2,hx,h,λe=>?_,λ_ p hp=>k p _ (Same.upd hp) (SqT.of A9)⟩)));subst e;exact k a H (Same.refl _) (by rw[A1R];exact h1)
theorem M0 {a:Addr}{xs:List V}(h:SqT K H a xs)(k:∀ p H',Same H H'->SqT K H' p (Kz xs lo hi)->Q (.ref p) H'):ak7 K (.ref a) lo hi H Q:=by
 by_cases hw:HT.sIx xs.length 0 lo=0/\HT.sIx xs.length xs.length hi=xs.length
 . refine .inr (.inr (.inr ⟨a,xs,rfl,h,hw,k a H (Same.refl _) ?_⟩))
   have e:Kz xs lo hi=xs:=by unfold Kz;rw[hw.1,hw.2,List.drop_zero,Nat.sub_zero,A1A]
   rw[e];exact h
 exact .inr (.inl ⟨a,xs,rfl,h,hw,λp hp=>k p _ (Same.upd hp) (SqT.of A9)⟩)
theorem a07 {x y:V}{d:PyData}{ds:List PyData}(hx:Is K H d x)(hy:Is K H (.list ds) y\/Is K H (.tuple ds) y)(h1:PyData.canLayAll0 ds=true)(h2:d.canLay0=true)(h3:d.depth<=100)(k:Q (.bl (!(ds.any λe=>PyData.eqv e d))) H):Wj K true x y H Q:=.inr (.inr (.inr ⟨d,ds,hx,hy,h1,h2,h3,k⟩))
end
end
def jsD (js:List Nat):PyData:=.tuple (js.map λ(j:Nat)=>PyData.int (j:Int))
theorem Way.more {ps:List (Str×Str)}{p:Str×Str}{x y:Str}(h:Way (ps++[p]) x y):Way ps x y\/((x=p.1\/Way ps x p.1)/\(y=p.2\/Way ps p.2 y)):=by
 induction h with
 |@one a b e=>
   rcases A0E.mp e with e|e
   . exact .inl (.one e)
   have:(a,b)=p:=by simpa using e
   subst this;exact .inr ⟨.inl rfl,.inl rfl⟩
 |@cons a c b e _ ih=>
   rcases A0E.mp e with e|e
   . rcases ih with g|⟨g1,g2⟩
     . exact .inl (.cons e g)
     refine .inr ⟨.inr ?_,g2⟩;rcases g1 with rfl|g1
     . exact .one e
     exact .cons e g1
   have:(a,c)=p:=by simpa using e
   subst this;rcases ih with g|⟨g1,g2⟩
   . exact .inr ⟨.inl rfl,.inr g⟩
   exact .inr ⟨.inl rfl,g2⟩
theorem Qu {ps:List (Str×Str)}{p:Str×Str}(h:∀ x,¬ Way ps x x)(h1:¬ p.2=p.1)(h2:¬ Way ps p.2 p.1):∀ x,¬ Way (ps++[p]) x x:=λx g=>by
 rcases g.more with g|⟨g1,g2⟩
 . exact h x g
 rcases g1 with rfl|g1
 . rcases g2 with g2|g2
   . exact h1 g2.symm
   exact h2 g2
 rcases g2 with rfl|g2
 . exact h2 g1
 exact h2 (g2.trans g1)
theorem Gr:∀ {ns:List Str} {as:List Addr} {z:Str},z∉ns->Hz (Io ns as) (Sum.inr z:Key)=none
 | [],_,_,_=>rfl
 |n :: ns,[],_,_=>rfl
 |n :: ns,a :: as,z,h=>by
   show Hz ((Sum.inr n,V.ref a) :: Io ns as) _=_;rw[Il (by intro q;injection q with q;exact h (q ▸ A0C))]
   exact Gr λq=>h (A08 _ q)
section
variable {K:W.Frag}{σ:St}{H:Hp}{Q:VK}{td ty:TE}
theorem i_andV {ta tb:TE}(k:ta σ H λx H1=>∃ c,x = .bl c/\if c=true then tb σ H1 Q else Q (.bl false) H1):av2 ta tb σ H Q:=k
theorem i_orV {ta tb:TE}(k:ta σ H λx H1=>∃ c,x = .bl c/\if c=true then Q (.bl true) H1 else tb σ H1 Q):aB9 ta tb σ H Q:=k
theorem i_notV {ta:TE}(k:ta σ H λx H1=>∃ c,x = .bl c/\Q (.bl (!c)) H1):ao8 ta σ H Q:=k
end
theorem Same.rd {H H':Hp}(e:Same H H'){a:Addr}{u:HO}(h:Rd H a u):Rd H' a u:=by
 rcases h with h|⟨o,h⟩
 . exact .inl (e _ _ h)
 exact .inr ⟨o,e _ _ h⟩
def Keep (as:List Addr)(H H':Hp):Prop:=(∀ b o,b∉as->H b=some o->H' b=some o)/\∀ a∈as,∀ u,Rd H a u->Rd H' a u
theorem Keep.refl (as:List Addr)(H:Hp):Keep as H H:=⟨λ_ _ _ h=>h,λ_ _ _ h=>h⟩
theorem Keep.trans {as:List Addr}{H H1 H2:Hp}(a:Keep as H H1)(b:Keep as H1 H2):Keep as H H2:=⟨λc o n h=>b.1 c o n (a.1 c o n h),λc hc u h=>b.2 c hc u (a.2 c hc u h)⟩
theorem Same.keep {H H':Hp}(e:Same H H')(as:List Addr):Keep as H H':=⟨λb o _ h=>e b o h,λa _ u h=>e.rd h⟩
theorem Keep.freeze {as:List Addr}{H:Hp}{a:Addr}{u:HO}{o:Obj}(ha:a∈as)(h:H a=some u)(hu:∀ o' u',u ≠ .frz o' u'):Keep as H (upd H a (.frz o u)):=by
 refine⟨λb q hb e=>?_,λb hb w e=>?_⟩
 . have hne:b≠a:=λz=>by subst z;exact hb ha
   rw[Ag hne];exact e
 by_cases hba:b=a
 . subst hba;rcases e with e|⟨o',e⟩
   . rw[h] at e
     cases e;exact .inr ⟨o,A9⟩
   rw[h] at e
   cases e;exact absurd rfl (hu _ _)
 rcases e with e|⟨o',e⟩
 . exact .inl (by rw[Ag hba];exact e)
 exact .inr ⟨o',by rw[Ag hba];exact e⟩
theorem Keep.rd {as:List Addr}{H H':Hp}(k:Keep as H H'){a:Addr}{u:HO}(h:Rd H a u):Rd H' a u:=by
 by_cases ha:a∈as
 . exact k.2 a ha u h
 rcases h with h|⟨o,h⟩
 . exact .inl (k.1 _ _ ha h)
 exact .inr ⟨o,k.1 _ _ ha h⟩
theorem Keep.fz {as:List Addr}{H H':Hp}(k:Keep as H H'):Fz H H':=λa xs h=>k.rd h
theorem Keep.lst {as:List Addr}{H H1 H2:Hp}{p:Addr}(k:Keep as H H1)(e:ExtBut p H1 H2)(hp:H p=none)(hpa:p∉as):Keep as H H2:=by
 refine⟨λb o hb h=>e b o (λz=>?_) (k.1 b o hb h),λa ha u h=>?_⟩
 . subst z;rw[hp] at h
   cases h
 have hap:a≠p:=λz=>hpa (z ▸ ha);rcases k.2 a ha u h with g|⟨o,g⟩
 . exact .inl (e _ _ hap g)
 exact .inr ⟨o,e _ _ hap g⟩
structure TabR (H:Hp)(r:Addr)(ns:List Str)(as:List Addr)(R:Str->Str->Prop):Prop where
 len:as.length=ns.length
 top:Rd H r (.dK (Io ns as))
 row:∀(i:Nat) (z:Str) (a:Addr),ns[i]? = some z->as[i]? = some a->∃ ks:List Str,Rd H a (.dK (Gh ks))/\ks.Nodup/\(∀ y∈ks,y∈ns)/\∀ y,y∈ks↔R z y
theorem Tab.toR {H:Hp}{r:Addr}{ns:List Str}{as:List Addr}{R:Str->Str->Prop}(h:Tab H r ns as R):TabR H r ns as R:=
 ⟨h.len,.inl h.top,λi z a hz ha=>let ⟨ks,h1,h2⟩:=h.row i z a hz ha;⟨ks,.inl h1,h2⟩⟩
theorem TabR.keep {bs:List Addr}{H H':Hp}{r:Addr}{ns:List Str}{as:List Addr}{R:Str->Str->Prop}(h:TabR H r ns as R)(k:Keep bs H H'):TabR H' r ns as R:=
 ⟨h.len,k.rd h.top,λi z a hz ha=>let ⟨ks,h1,h2⟩:=h.row i z a hz ha;⟨ks,k.rd h1,h2⟩⟩
theorem TabR.same {H H':Hp}{r:Addr}{ns:List Str}{as:List Addr}{R:Str->Str->Prop}(h:TabR H r ns as R)(e:Same H H'):TabR H' r ns as R:=h.keep (e.keep [])
theorem TabR.at {H:Hp}{r:Addr}{ns:List Str}{as:List Addr}{R:Str->Str->Prop}(h:TabR H r ns as R){x:Str}(hx:x∈ns):∃(i:Nat) (a:Addr),ns[i]? = some x/\as[i]? = some a:=by
 obtain⟨i,hi,e⟩:=A2I hx;have hi':i<as.length:=by rw[h.len];exact hi
 exact⟨i,as[i],by rw[A07 hi,e],A07 hi'⟩
section
variable {K:W.Frag}{σ:St}{H:Hp}{Q:VK}{r:Addr}{ns:List Str}{as:List Addr}{R:Str->Str->Prop}
theorem ao5 {a:Addr}{kvs:List (Key×V)}{z:Str}{v:V}(h:Rd H a (.dK kvs))(e:Hz kvs (Sum.inr z:Key)=some v)(k:Q v H):Pw K (.ref a) (.str z) H Q:=.inr ⟨a,v,rfl,.inl ⟨kvs,Sum.inr z,h,rfl,e.symm⟩,k⟩
theorem Nk {x:Str}{i:Nat}{a:Addr}(h:TabR H r ns as R)(hn:ns.Nodup)(hx:ns[i]? = some x)(ha:as[i]? = some a)(k:Q (.ref a) H):Pw K (.ref r) (.str x) H Q:=ao5 h.top (Ih hn hx ha) k
theorem a70 {a:Addr}{ks:List Str}{y:Str}(h:Rd H a (.dK (Gh ks)))(k:Q (.bl (decide (y∈ks))) H):Wj K false (.str y) (.ref a) H Q:=by
 refine .inr (.inr (.inl ⟨a,Hz (Gh ks) (Sum.inr y:Key),rfl,.inl ⟨_,Sum.inr y,h,rfl,rfl⟩,?_⟩));rw[L7]
 by_cases e:y∈ks
 . simpa[e] using k
 simpa[e] using k
theorem Rp {a:Addr}{ks:List Str}{y:Str}(h:Rd H a (.dK (Gh ks)))(k:Q (.bl (!decide (y∈ks))) H):Wj K true (.str y) (.ref a) H Q:=by
 refine .inr (.inr (.inl ⟨a,Hz (Gh ks) (Sum.inr y:Key),rfl,.inl ⟨_,Sum.inr y,h,rfl,rfl⟩,?_⟩));rw[L7]
 by_cases e:y∈ks
 . simpa[e] using k
 simpa[e] using k
theorem Yi {as:List Addr}{a:Addr}{kvs:List (Key×V)}{R:It->Hp->Prop}(h:Rd H a (.dK kvs))(ha:a∈as)(k:∀ o H',Keep as H H'->H' a=some (.frz o (.dK kvs))->R (Itd a o kvs) H'):Fw K (.ref a) H R:=by
 rcases h with h|⟨o,h⟩
 . exact az0 h λo=>k o _ (Keep.freeze ha h λ_ _ z=>by cases z) A9
 exact az2 h (k o H (Keep.refl _ _) h)
end
def unB (ps:List (Str×Str))(x y:Str):Bool:=!Ay ps x y && !Ay ps y x
def unR (ns:List Str)(ps:List (Str×Str))(i:Nat):List (Str×Str):=((ns.drop (i+1)).filter λy=>unB ps (ns.getD i "") y).map λy=>(ns.getD i "",y)
def unK (ns:List Str) (ps:List (Str×Str)) (k:Nat):List (Str×Str):=(List.range k).flatMap (unR ns ps)
def unP (ns:List Str)(ps:List (Str×Str)):List (Str×Str):=unK ns ps ns.length
theorem Tl {α β:Type}(f:α->List β)(n:Nat)(h:∀ a,(f a).length<=n):∀ l:List α,(l.flatMap f).length<=l.length*n
 | []=>by simp
 |a :: l=>by rw[A2O,A04,A0V,Nat.add_mul];have:=Tl f n h l;have:=h a;omega
theorem ag1 (ns:List Str)(ps:List (Str×Str))(i:Nat):(unR ns ps i).length<=ns.length:=by unfold unR;rw[A01];exact A0L (A1Q _ _) (by rw[A14];omega)
theorem ag7 (ns:List Str)(ps:List (Str×Str))(k:Nat):(unK ns ps k).length<=k*ns.length:=by have:=Tl (unR ns ps) ns.length (ag1 ns ps) (List.range k);rwa[A1L] at this
theorem a73 (ns:List Str)(ps:List (Str×Str))(k:Nat):unK ns ps (k+1)=unK ns ps k++unR ns ps k:=by unfold unK;rw[A4N,A3Q];simp
theorem ai4 {ns:List Str}{ps:List (Str×Str)}{k:Nat}{p:Str×Str}(hk:k<=ns.length)(h:p∈unK ns ps k):p.1∈ns/\p.2∈ns/\unB ps p.1 p.2=true:=by unfold unK at h;rw[A2J] at h;obtain⟨i,hi,h⟩:=h;have hi:=A2K.mp hi;unfold unR at h;obtain⟨y,hy,rfl⟩:=A0K.mp h;rw[A0X] at hy;refine⟨?_,A2P hy.1,hy.2⟩;exact A0B (Ii (i:=i) ∅)
theorem Hd {ns:List Str}{ps:List (Str×Str)}{p:Str×Str}(h:p∈unP ns ps):p.1∈ns/\p.2∈ns/\unB ps p.1 p.2=true:=ai4 (A06 _) h
theorem Z1 (p q:Str×Str):PyData.eqv (prD p) (prD q)=decide (p=q):=by obtain⟨a,b⟩:=p;obtain⟨c,d⟩:=q;simp only[prD,PyData.eqv,PyData.eqvAll,Prod.mk.injEq,Bool.and_true];rw[A1N];simp
theorem Xj (ps:List (Str×Str))(p:Str×Str):((ps.map prD).any λe=>PyData.eqv e (prD p))=decide (p∈ps):=by
 induction ps with
 |nil=>simp
 |cons q ps ih=>
   rw[A0Q,A2Y,ih,Z1]
   by_cases h:q=p
   . subst h;simp
   simp[h,Ne.symm h]
section
variable {K:W.Frag}{H:Hp}{σ:St}
end
theorem Nn {ps:List (Str×Str)}(h:NmP ps):SeqAt.shaped (.list (ps.map prD))=true:=by
 unfold SeqAt.shaped;have e:(PyData.list (ps.map prD)).canLay0=true:=Ji _ (by simp only[Ev];exact Ig _ ps λp hp=>(Ui (h p hp).1 (h p hp).2).1)
 have e2:(PyData.list (ps.map prD)).depth<=64:=by simp only[PyData.depth];have:=Jt prD 1 ps λp hp=>(Ui (h p hp).1 (h p hp).2).2.1;omega
 rw[e,A0P e2];rfl
section
variable {prog:Program}{w:World}{A:Around}{E:Value->Shared->Prop}{s:Shared}
end
section
variable {X:Cx}{K:W.Frag}
end
section
variable {K:W.Frag}{σ:St}{H:Hp}
end
theorem Od (Ls:List (List Str)):frzL (Ls.map nmD)=true:=Fy _ Jo Ls
section
variable {K:W.Frag}{H:Hp}{Q:VK}
end
section
variable {P:Program}{w:World}{κ:Type}[DecidableEq κ]{knd:KeyKind P w κ}{A:Around}{E:Value->Shared->Prop}{s:Shared}
end
section
variable {X:Cx}{pins:List (Addr×Obj)}{σ:St}{H:Hp}{s:Shared}{A:Around}
end
section
variable {prog:Program}{w:World}{A:Around}{E:Value->Shared->Prop}{s:Shared}
theorem Y5 (xs:Array Value):((List.range xs.size).filterMap λ(m:Nat)=>xs[(((xs.size:Int)-1)+(m:Int)*(-1)).toNat]?).toArray=xs.toList.reverse.toArray:=by
 congr 1;simp only[<- Array.getElem?_toList,<- Array.length_toList];generalize xs.toList=l
 have e:∀ k ≤ l.length,(List.range k).filterMap (λ(m:Nat)=>l[(((l.length:Nat):Int)-1+(m:Int)*(-1)).toNat]?)=l.reverse.take k:=by
  intro k
  induction k with
  |zero=>intro _;rfl
  |succ k ih=>
    intro hk;rw[A4N,List.filterMap_append,ih ∅,A18];congr 1;have e2:(((l.length:Nat):Int)-1+(k:Int)*(-1)).toNat=l.length-1-k:=by omega
    rw[List.filterMap_cons,e2,List.getElem?_reverse ∅,A07 ∅];rfl
 rw[e _ (A06 _),A1W (by rw[A2S];omega)]
theorem Qq {sl:Addr}{tk:Tok}{n:Nat}{Q:Int×Int×Nat->Shared->Prop}(hs:s.heap.IsSliceOf sl .none .none (.int (-1) tk))(h:Q ((n:Int)-1,-1,n) s):wpAny (model prog w) A (Builtin.Slice.sliceApplied (.ref sl) (pure (n:Int))) Q E s:=by
 obtain⟨os,g1,_,g3⟩:=id hs;unfold Builtin.Slice.sliceApplied Builtin.Slice.sliceFields;refine A00 (A00 (A22 g1 g3 (x:=.none) rfl ?_));refine A00 (A22 g1 g3 (x:=.none) rfl ?_);refine A00 (A22 g1 g3 (x:=.int (-1) tk) rfl (A05 ?_));refine A00 (HT.slicePart_ (.int (-1) tk) ?_);show wpAny _ _ (if((-1:Int)==0)=true then _ else _) _ _ s
 rw[A13 nofun];refine A00 (HT.slicePart_ .none ?_);refine A00 (HT.slicePart_ .none ?_);refine A00 (A05 ?_)
 have e1:Builtin.Slice.sliceAdjust none none (-1) (n:Int)=((n:Int)-1,-1):=by unfold Builtin.Slice.sliceAdjust;simp
 have e2:Builtin.Slice.slicePlaces ((n:Int)-1) (-1) (-1)=n:=by
  unfold Builtin.Slice.slicePlaces;simp
  try omega
 show wpAny _ _ (match Builtin.Slice.sliceAdjust none none (-1) (n:Int) with | (lo,hi)=>pure (lo,(-1:Int),Builtin.Slice.slicePlaces lo hi (-1))) _ _ s
 rw[e1];show wpAny _ _ (pure ((n:Int)-1,(-1:Int),Builtin.Slice.slicePlaces ((n:Int)-1) (-1) (-1))) _ _ s;rw[e2];exact A05 h
theorem a06 {t sl:Addr}{items:Array Value}{tk:Tok}{Q:Value->Shared->Prop}(ht:IsTup s.heap t items)(hs:s.heap.IsSliceOf sl .none .none (.int (-1) tk))
  (h:Q (.ref s.heap.objs.size) {s with heap:=s.heap.push {cls:=.type "tuple",data:=.seq items.toList.reverse.toArray}}) (hz:items.size<=sizeLine):wpAny (model prog w) A (getItem (.ref t) (.ref sl)) Q E s:=by
 obtain⟨os,g1,g2,g3⟩:=id hs;have hTs:s.TypeIs (.ref sl) "slice":=⟨os,g1,g2⟩
 have hok:sizeOk (.seq items.toList.reverse.toArray):=by show items.toList.reverse.toArray.size<=sizeLine;simpa using hz
 unfold getItem
 try with_reducible refine A1T ?_
 first | refine A00 (A05 ?_) | skip
 refine A00 (A45 ht.typeIs nofun ?_);refine A00 (A2X (name:=Str.ofString "__getitem__") ht.typeIs A17 (A3G A17 ht.typeIs A3O ?_ (A3U _ _)));show wpAny _ _ (Builtin.Tuple.tupleItemsOf (.ref t) >>= _) _ _ s;refine A00 (A4A ht ?_);refine A00 (A3C hTs ?_);rw[A12 nofun];refine A00 (Qq hs ?_);show wpAny _ _ (if((((items.size:Nat):Int)-1)==0&&(-1:Int)==1&&items.size==items.size)=true then _ else _) _ _ s
 rw[if_neg (by simp),Y5]
 first
  |exact A00 (m:=Builtin.Tuple.tupleExact _) (A1D (A05 ⟨_,rfl,A05 h⟩) hok)
  |exact A00 (A00 (m:=Builtin.Tuple.tupleExact _) (A1D (A05 (A05 ⟨_,rfl,A05 h⟩)) hok))
  |exact A00 (A00 (m:=Builtin.Tuple.tupleExact _) (A1D (A05 ⟨_,rfl,A05 h⟩) hok))
  |exact A00 (m:=Builtin.Tuple.tupleExact _) (A1D (A00 (A05 (A05 ⟨_,rfl,A05 h⟩))) hok)
end
section
variable {X:Cx}{K:W.Frag}
def aa5 (K:W.Frag):V->V->Hp->VK->Prop:=λx y H Q=>∃ a xs,x = .ref a/\y = .int (-1)/\SqT K H a xs/\∀ p,H p=none->Q (.ref p) (upd H p (.tup xs.reverse))
theorem a66 {e st:Expr}{te ts:TE}{p2 pos:Pos}(he:PE X e te)(hst:PE X st ts)(hK:X.K=K:=by ac_nf):PE X (.Subscript e (.Slice none none (some st) p2) pos) (tOp (aa5 K) te ts):=by
 subst hK;intro pins s σ H Q I h;refine A4O (thn (he pins s σ H _ I h) λv s1 ⟨x,H1,I1,r1,q1⟩=>wpAny_Slice ?_);rw[A4B];refine A05 (A05 ?_);rw[A4Y];refine thn (hst pins s1 σ H1 _ I1 q1) λu s2 ⟨y,H2,I2,r2,q2⟩=>?_;obtain⟨a,xs,rfl,rfl,hx,q⟩:=q2
 cases r1;obtain⟨t,rfl⟩:=r2;have I4:Inv X pins σ H2 {s2 with heap:=s2.heap.push {cls:=.type "slice",data:=.fields #[.none,.none,.int (-1) t]}}:=I2.kept (t':=s2.toks) λb ob q=>A02 _ q
 obtain⟨its,r,ht,hz⟩:=I4.tuple hx;have hlen:=r.length;refine tail_any (ops:=[.ref a,.ref s2.heap.objs.size]) ht.typeIs PyProof.Rows.slot_tuple_getitem.lookup ?_ ⋯;refine a06 ht (A3V ..) ?_ (by rw[A0M];omega);refine⟨.ref _,_,I4.laid (t':=s2.toks) (o:=.tup xs.reverse) (λb ob q=>A02 _ q) (A06 _) ?_,rfl,q _ (I4.hok.fresh (A06 _))⟩;exact⟨by rw[A2S];exact hz,_,r.reverse,IsTupN.new _ _⟩
theorem ai8 {a:Addr}{xs:List V}{H:Hp}{Q:VK}(h:SqT K H a xs)(c:∀ p H',H p=none->Same H H'->H' p=some (.tup xs.reverse)->Q (.ref p) H'):aa5 K (.ref a) (.int (-1)) H Q:=
 ⟨a,xs,rfl,rfl,h,λp hp=>c p _ hp (Same.upd hp) A9⟩
end
theorem Way.mem {ns:List Str}{ps:List (Str×Str)}(hm:∀ p∈ps,p.1∈ns/\p.2∈ns){x y:Str}(h:Way ps x y):x∈ns/\y∈ns:=by obtain⟨p,hp,e⟩:=A0K.mp h.left;obtain⟨q,hq,e'⟩:=A0K.mp h.right;exact⟨e ▸ (hm p hp).1,e' ▸ (hm q hq).2⟩
theorem Gq (ps:List (Str×Str))(a:Str)(t:List Str):(unP (a :: t) ps).length=(t.filter λy=>unB ps a y).length+(unP t ps).length:=by
 have e:∀ i,unR (a :: t) ps (i+1)=unR t ps i:=λi=>by unfold unR;rw[List.getD_cons_succ,List.drop_succ_cons]
 unfold unP unK;rw[A0V,List.range_succ_eq_map,A2O,A04,List.flatMap_map]
 have e0:(unR (a :: t) ps 0).length=(t.filter λy=>unB ps a y).length:=by unfold unR;rw[A01];rfl
 rw[e0];have e1:(λi=>unR (a :: t) ps (Nat.succ i))=unR t ps:=funext e;rw[show((List.range t.length).flatMap λi=>unR (a :: t) ps i.succ)=(List.range t.length).flatMap (unR t ps) from by rw[e1]]
section
variable {P:Program}{w:World}{A:Around}{R:Result->Shared->Prop}{it:Addr}{fp wr:List Addr}{G:Array GenState->Array GenState->Prop}{n:Nat}{PV:Nat->Value->Prop}{St:Nat->Shared->Prop}
end
section
variable {prog:Program}{w:World}{A:Around}{E:Value->Shared->Prop}{s:Shared}
set_option maxHeartbeats 3200000 in
end
section
variable {X:Cx}{K:W.Frag}
end
theorem Tu {z:Str}(h:I0 z=true):z.length<=8:=(Mz h).2
section
variable {K:W.Frag} {H:Hp} {Q:VK}
end
theorem Ja (ns:List Int):∀ j ≤ ns.length,preSum (λi=>ns.getD i 0) j=(ns.take j).sum
 |0,_=>by simp[preSum]
 |j+1,h=>by rw[preSum,Ja ns j ∅,A18,Ii (y:=0) (by omega:j<ns.length)];simp
theorem Ry:∀ {ns:List Int},(∀ n∈ns,0<=n/\n<=1000000000000)->0<=ns.sum/\ns.sum<=1000000000000*(ns.length:Int)
 | [],_=>by simp
 |n :: ns,h=>by have h1:=h n (by simp);have h2:=Ry λm hm=>h m (A08 _ hm);rw[A30,A0V];omega
section
variable {X:Cx}{K:W.Frag}
def ax0 (K:W.Frag):List V->Hp->VK->Prop:=λxs H Q=>∃(a:Addr) (ns:List Int),xs=[.ref a]/\(SqL K H a (ns.map V.int)\/SqT K H a (ns.map V.int))/\(∀ n∈ns,0<=n/\n<=1000000000000)/\ns.length<=1000000/\Q (.int ns.sum) H
theorem a87 {ns:List Int}{its:List Value}(r:Vals (ns.map V.int) its){i:Nat}{v:Value}(h:its.toArray[i]? = some v):∃ t,v = .int (ns.getD i 0) t:=by
 rw[List.getElem?_toArray] at h;have hl:=r.length;rw[A01] at hl
 have hi:i<ns.length:=by have:=(A03.mp h).1;omega
 obtain⟨u,hu,ru⟩:=r.get (i:=i) (x:=.int (ns.getD i 0)) (by rw[A09,Ii (y:=0) hi];rfl);rw[h] at hu
 cases hu;exact ru
theorem Xx (hc:X.calm=true):CallR X (.builtin "sum") (ax0 X.K):=by
 intro pins s σ H xs us Q I r h;obtain⟨a,ns,rfl,hl,hb,hz,q⟩:=h;obtain⟨u,rfl,ru⟩:=Ms r
 cases ru
 have fits:∀ j,j<ns.length->InLong (ns.getD j 0)/\InLong (preSum (λi=>ns.getD i 0) (j+1)):=λj hj=>by have h1:=hb _ (A0B (Ii (y:=0) hj));have h2:=Ry (ns:=ns.take (j+1)) λn hn=>hb n (A2C hn);rw[Ja ns (j+1) hj];rw[A0U] at h2;unfold InLong;omega
 have last:preSum (λi=>ns.getD i 0) ns.length=ns.sum:=by rw[Ja ns _ (A06 _),A1A]
 refine call_sum_walk ?_;rcases hl with hl|hl
 . obtain⟨its,rv,pl,_⟩:=I.list hl;have hlen:its.toArray.size=ns.length:=by rw[A0M,<- rv.length,A01]
   have hlt:a<s.heap.objs.size:=let ⟨_,e,_⟩:=pl.isList;A0D e;refine wpAny_pyIter_list pl.isList ?_;refine⟨_,_,_,_,_,_,λi=>ns.getD i 0,rfl,Walks.list (by simpa using I.ok.hd hc) _ a (Nat.ne_of_lt hlt) its.toArray,⟨⟨_,Heap.get?_push_size _ rfl,rfl,rfl⟩,pl.isList.push _⟩,λb hb'=>?_,λi v hv=>a87 rv hv,by rw[hlen];exact fits,λh' tk t' hk=>?_⟩
   . rw[A41];simp only[List.mem_cons,List.not_mem_nil,or_false] at hb';rcases hb' with rfl|rfl
     . exact Nat.lt_succ_self _
     exact Nat.lt_succ_of_lt hlt
   refine⟨.int ns.sum,H,I.kept (t':=tk) λb o e=>hk b o (λz=>?_) (A02 _ e),⟨t',by rw[hlen,last]⟩,q⟩;have:b=s.heap.objs.size:=by simpa using z
   subst this;exact absurd (A0D e) (A1O _)
 obtain⟨its,rv,pl,_⟩:=I.tuple hl;have hlen:its.toArray.size=ns.length:=by rw[A0M,<- rv.length,A01]
 have hlt:a<s.heap.objs.size:=let ⟨_,e,_⟩:=pl;A0D e;refine wpAny_pyIter_tuple pl ?_;refine⟨_,_,_,_,_,_,λi=>ns.getD i 0,rfl,Walks.tuple (by simpa using I.ok.hd hc) _ a (Nat.ne_of_lt hlt) its.toArray,⟨⟨_,Heap.get?_push_size _ rfl,rfl,rfl⟩,Heap.IsTuple.push pl _⟩,λb hb'=>?_,λi v hv=>a87 rv hv,by rw[hlen];exact fits,λh' tk t' hk=>?_⟩
 . rw[A41];simp only[List.mem_cons,List.not_mem_nil,or_false] at hb';rcases hb' with rfl|rfl
   . exact Nat.lt_succ_self _
   exact Nat.lt_succ_of_lt hlt
 refine⟨.int ns.sum,H,I.kept (t':=tk) λb o e=>hk b o (λz=>?_) (A02 _ e),⟨t',by rw[hlen,last]⟩,q⟩;have:b=s.heap.objs.size:=by simpa using z
 subst this;exact absurd (A0D e) (A1O _)
theorem Yh (hc:X.calm=true)(hK:X.K=K:=by ac_nf):CallR X (.builtin "sum") (ax0 K):=hK ▸ Xx hc
theorem az6 {a:Addr}{ns:List Int}{H:Hp}{Q:VK}(h:SqL K H a (ns.map V.int)\/SqT K H a (ns.map V.int))(hb:∀ n∈ns,0<=n/\n<=1000000000000)(hz:ns.length<=1000000)(k:Q (.int ns.sum) H):ax0 K [.ref a] H Q:=⟨a,ns,rfl,h,hb,hz,k⟩
end
section
variable {prog:Program}{w:World}{A:Around}{E:Value->Shared->Prop}{s:Shared}
theorem Yv {t:Addr}{items:Array Value}{x:Value}{e:Value->Bool}{j:Nat}{Q:Value->Shared->Prop}(ht:IsTup s.heap t items)(hj:j<items.size)(he:∀ y,y∈items->SeqAt.EqAt A.in1 s y x (e y))(hit:e items[j]=true)
  (hno:∀ m (hm:m<items.size),m<j->e items[m]=false) (h:Q (.int j s.toks) {s with toks:=s.toks+1}):wpAny (model prog w) A (call (.builtin "tuple.index") [.ref t,x]) Q E s:=by
 refine A3G A2D ht.typeIs PySem.F.entry_tuple_index ?_ (PySem.F.args_tuple_index_2 _ _);unfold Builtin.«tuple.index»;refine A00 (wpAny_of_eq (a:=(Value.ref t,[x])) (by first | rfl | kernel_rfl) ?_)
 refine A00 (m:=Builtin.Tuple.tupleItemsOf _) (A4A ht ?_);refine A00 (m:=pure 0) (A05 ?_);refine A00 (m:=pure items.size) (A05 ?_);dsimp only;rw[Nat.min_self];refine A00 ?_;rw[Std.Legacy.Range.forIn_eq_forIn_range',show Std.Legacy.Range.size [:items.size]=items.size by simp[Std.Legacy.Range.size]];refine wpAny_forIn_list _ (λl q s'=>s'=s/\q=(none,())/\∃ i,i<=j/\l=List.range' i (items.size-i)) _ ?_ ?_ _ _ ⟨rfl,rfl,0,A2H _,rfl⟩
 . rintro m l q s' ⟨rfl,rfl,i,hi,el⟩;rw[show items.size-i=items.size-(i+1)+1 by omega,List.range'_succ] at el;injection el with e1 e2;subst e1;have hm:m<items.size:=by omega
   rw[Array.getElem?_eq_getElem hm];refine A00 (he _ (Array.getElem_mem hm) prog w _ _ ?_)
   by_cases hmj:m=j
   . subst hmj;rw[hit,A12 rfl];refine A00 (m:=retInt _) ?_;refine A00 (wpAny_mkInt ?_);exact A05 (A05 (A05 ⟨_,rfl,h⟩))
   rw[hno m hm ∅,A13 nofun];exact A05 ⟨rfl,rfl,m+1,by omega,e2⟩
 rintro q s' ⟨rfl,rfl,i,hi,el⟩;exfalso;rw[show items.size-i=items.size-(i+1)+1 by omega,List.range'_succ] at el
 cases el
end
section
variable {X:Cx}{K:W.Frag}
def Sm (K:W.Frag):V->List V->Hp->VK->Prop:=λx vs H Q=>∃(a:Addr) (ns:List Str) (z:Str) (j:Nat),x = .ref a/\vs=[.str z]/\SqT K H a (ns.map V.str)/\ns[j]? = some z/\(∀ m<j,ns[m]? ≠ some z)/\Q (.int (j:Nat)) H
theorem Ye:MtR X "tuple.index" (Sm X.K):=by
 intro pins s σ H x vs v us Q I rx rv h;obtain⟨a,ns,z,j,rfl,rfl,hS,hj,hno,q⟩:=h
 cases rx;obtain⟨u,rfl,ru⟩:=rv.one;obtain⟨its,r,p,hz⟩:=I.tuple hS;have hlen:=r.length;rw[A01] at hlen;have hjn:=(A03.mp hj).1
 have at':∀ m (hm:m<its.toArray.size),∃ y t,ns[m]? = some y/\its.toArray[m] = .str y t:=λm hm=>by
  have hm':m<ns.length:=by rw[A0M] at hm;omega
  obtain⟨w,hw,rw'⟩:=r.get (i:=m) (x:=.str ns[m]) (by rw[A09,A07 hm'];rfl);obtain⟨t,rfl⟩:=rw';refine⟨ns[m],t,A07 hm',?_⟩;have h2:=(A03.mp hw).2;simpa using h2
 have tell:∀ y t,eqU (.str z) (.str y t)=decide (y=z):=λy t=>by
  show(y==z)=_
  by_cases h:y=z<;>simp[h]
 refine Yv (j:=j) (e:=eqU (.str z)) p (by rw[List.size_toArray];omega) (λw hw=>Ie ru rfl r (Jl ns) w (by simpa using hw)) ?_ (λm hm hmj=>?_) ⟨.int _,H,I.tok _,⟨_,rfl⟩,q⟩
 . obtain⟨y,t,h1,h2⟩:=at' j (by rw[A0M];omega);rw[h2,tell];rw[hj] at h1;exact A0P (A0Z h1).symm
 obtain⟨y,t,h1,h2⟩:=at' m hm;rw[h2,tell];refine A0R λe=>hno m hmj ?_;rw[h1,e]
theorem Hx (hK:X.K=K:=by ac_nf):MtR X "tuple.index" (Sm K):=hK ▸ Ye
theorem La {a:Addr}{ns:List Str}{z:Str}{j:Nat}{H:Hp}{Q:VK}(h:SqT K H a (ns.map V.str))(hj:ns[j]? = some z)(hno:∀ m<j,ns[m]? ≠ some z)(k:Q (.int (j:Nat)) H):Sm K (.ref a) [.str z] H Q:=⟨a,ns,z,j,rfl,rfl,h,hj,hno,k⟩
def aB5 (K:W.Frag)(r:V->List V->Hp->VK->Prop)(to:TE)(t:TA):TE:=fun σ H Q=>to σ H λx H1=>(∃ a xs,x = .ref a/\SqT K H1 a xs)/\t σ H1 λvs H2=>r x vs H2 Q
theorem Td {o e:Expr}{es:List Expr}{to:TE}{t:TA}{name:Str}{apos cpos:Pos}{id:String}{r:V->List V->Hp->VK->Prop}(slot:Slot "tuple" name id)(hty:typeOf (.builtin id)=pure (.type "method_descriptor"))(hm:MtR X id r)(ho:PE X o to)(ha:PA X (e :: es) t)(hK:X.K=K:=by ac_nf)
  (hbase:attributeBase o name X.env (eval o X.env)=eval o X.env:=by ac_nf)
  (hfew:((backTo cpos (starEach (e :: es) X.env)).all (λx=>!x.1)&&(backToKw cpos (keywordEach [] X.env)).all (λx=>x.1.isSome)&&decide ((e :: es).length+([]:List Keyword).length+(if([]:List Keyword).isEmpty then 0 else 1)<30))=true:=by ac_nf)
  (hline:(apos.endLine==cpos.line)=true:=by ac_nf) (hs:starEach (e :: es) X.env=(false,eval e X.env) :: starEach es X.env:=by ac_nf) (hplain:(backTo cpos (starEach es X.env)).any (·.1)=false:=by ac_nf) :
  PE X (.Call (.Attribute o name apos) (e :: es) [] cpos) (aB5 K r to t):=by
 subst hK;intro pins s σ H Q I h;refine wpAny_Call_method_late hbase hfew hline rfl (thn (ho pins s σ H _ I h) λv s1 ⟨x,H1,I1,r1,ty,q1⟩=>?_);obtain⟨a,xs,rfl,hS⟩:=ty
 cases r1;obtain⟨its,_,p,_⟩:=I1.tuple hS;refine⟨"tuple",id,PySem.F.plainAttrs_tuple,slot,hty,p.typeIs,(λb e=>by cases e;exact I1.tupleN hS),?_⟩;have hA:=ha cpos pins s1 σ H1 _ I1 q1;rw[hs] at hA ⊢;refine A4E (by show(false||(backTo cpos (starEach es X.env)).any (·.1))=false;rw[hplain];rfl) (Calls.evalArgs_plain ?_)
 exact thn hA λus s2 ⟨vs,H2,I2,r2,q2⟩=>hm pins s2 σ H2 (.ref a) vs _ us Q I2 rfl r2 q2
theorem i_bmT {r:V->List V->Hp->VK->Prop}{te:TE}{ts:TA}{σ:St}{H:Hp}{Q:VK}(k:te σ H λx H1=>(∃ a xs,x = .ref a/\SqT K H1 a xs)/\ts σ H1 λxs H2=>r x xs H2 Q):aB5 K r te ts σ H Q:=k
theorem a74 {a:Addr}{xs:List V}{H:Hp}{B:Prop}(h:SqT K H a xs)(k:B):(∃ a' xs',V.ref a = .ref a'/\SqT K H a' xs')/\B:=⟨⟨a,xs,rfl,h⟩,k⟩
end
section
variable {prog:Program}{w:World}{A:Around}{E:Value->Shared->Prop}{s:Shared}
end
section
variable {X:Cx}{K:W.Frag}
end
section
variable {α:Type}[DecidableEq α]
def frF (b:α->α->Bool)(L:List α):List α:=L.filter λx=>!(L.any λy=>b y x)
def Bq (L:List α)(x:α):List α:=L.filter λy=>!decide (y=x)
def ext (b:α->α->Bool):Nat->List α->List (List α)
 |0,_=>[[]]
 |n+1,L=>(frF b L).flatMap λx=>(ext b n (Bq L x)).map (x :: ·)
def cnt (b:α->α->Bool)(L:List α):Nat:=(ext b L.length L).length
theorem cnt_nil (b:α->α->Bool):cnt b []=1:=rfl
theorem mem_frF {b:α->α->Bool}{L:List α}{x:α}:x∈frF b L↔x∈L/\∀ y∈L,b y x=false:=by
 unfold frF;rw[A0X];constructor
 . rintro ⟨h1,h2⟩;refine⟨h1,λy hy=>?_⟩
   cases e:b y x with
   |false=>rfl
   |true=>
     have:(L.any λy=>b y x)=true:=A27.mpr ⟨y,hy,e⟩;rw[this] at h2
     cases h2
 rintro⟨h1,h2⟩;refine⟨h1,?_⟩
 have:(L.any λy=>b y x)=false:=by
  rw[Bool.eq_false_iff];intro h;obtain⟨y,hy,e⟩:=A27.mp h;rw[h2 y hy] at e
  cases e
 rw[this];rfl
theorem mem_lessF {L:List α}{x y:α}:y∈Bq L x↔y∈L/\y≠x:=by unfold Bq;rw[A0X];simp
theorem Ce {L:List α}(h:L.Nodup)(x:α):(Bq L x).Nodup:=A50 (A3R) h
theorem Ot:∀ {L:List α} {x:α},x∉L->Bq L x=L:=fun {L x} h=>by unfold Bq;rw[A2T];intro y hy;have:y≠x:=λq=>h (q ▸ hy);simp[this]
theorem Dy:∀ {L:List α} {x:α},L.Nodup->x∈L->(Bq L x).length+1=L.length
 | [],_,_,h=>by cases h
 |y :: ys,x,hn,h=>by
   obtain⟨h1,h2⟩:=A19.mp hn
   by_cases e:y=x
   . subst e;have:Bq (y :: ys) y=Bq ys y:=by unfold Bq;rw[List.filter_cons,if_neg (by simp)]
     rw[this,Ot h1];rfl
   have:Bq (y :: ys) x=y :: Bq ys x:=by unfold Bq;rw[List.filter_cons,if_pos (by simp[e])]
   rw[this,A0V,Dy h2 ((A0H.mp h).resolve_left λq=>e q.symm)];rfl
theorem Md {b:α->α->Bool} {L:List α} (hn:L.Nodup) (hne:L≠[]):cnt b L=((frF b L).map λx=>cnt b (Bq L x)).sum:=by
 unfold cnt
 cases hl:L.length with
 |zero=>exact absurd (A1E.mp hl) hne
 |succ n=>
   show((frF b L).flatMap λx=>(ext b n (Bq L x)).map (x :: ·)).length=_;rw[List.length_flatMap];congr 1;apply A1X;intro x hx;have:=Dy hn (mem_frF.mp hx).1;have e:(Bq L x).length=n:=by omega
   rw[A01,e]
def Fa (ns row:List α):List α:=ns.filter λx=>!decide (x∈row)
def Fo (b:α->α->Bool)(ns:List α)(rows:List (List α)):List (List α):=rows.flatMap λrow=>(frF b (Fa ns row)).map λx=>row++[x]
def Eo (b:α->α->Bool)(ns:List α):Nat->List (List α)->List (List α)
 |0,r=>r
 |k+1,r=>Eo b ns k (Fo b ns r)
theorem Ga (b:α->α->Bool)(ns:List α):∀(k:Nat) (r:List (List α)),Eo b ns (k+1) r=Fo b ns (Eo b ns k r)
 |0,r=>rfl
 |k+1,r=>Ga b ns k (Fo b ns r)
theorem Kl (b:α->α->Bool)(ns:List α):∀(k:Nat) (r t:List (List α)),Eo b ns k (r++t)=Eo b ns k r++Eo b ns k t
 |0,r,t=>rfl
 |k+1,r,t=>by
   show Eo b ns k (Fo b ns (r++t))=_;have:Fo b ns (r++t)=Fo b ns r++Fo b ns t:=by unfold Fo;rw[List.flatMap_append]
   rw[this,Kl b ns k];rfl
theorem R9 (b:α->α->Bool)(ns:List α):∀ k:Nat,Eo b ns k []=[]
 |0=>rfl
 |k+1=>R9 b ns k
theorem Sa (b:α->α->Bool)(ns:List α)(k:Nat)(f:α->List α):∀ l:List α,Eo b ns k (l.map f)=l.flatMap λx=>Eo b ns k [f x]
 | []=>R9 b ns k
 |x :: xs=>by rw[A0Q,A2O,<- Sa b ns k f xs,<- Kl];rfl
theorem Wb (ns row:List α)(x:α):Fa ns (row++[x])=Bq (Fa ns row) x:=by
 unfold Fa Bq;rw[List.filter_filter];apply A39;intro y _
 by_cases h:y∈row<;>by_cases e:y=x<;>simp[h,e]
theorem Tn (b:α->α->Bool)(ns:List α):∀(k:Nat) (row:List α),Eo b ns k [row]=(ext b k (Fa ns row)).map (row ++ ·)
 |0,row=>by simp[Eo,ext]
 |k+1,row=>by
   show Eo b ns k (Fo b ns [row])=_;have e:Fo b ns [row]=(frF b (Fa ns row)).map λx=>row++[x]:=by unfold Fo;simp
   rw[e,Sa];show _=((frF b (Fa ns row)).flatMap λx=>(ext b k (Bq (Fa ns row) x)).map (x :: ·)).map (row ++ ·);rw[List.map_flatMap];congr 1;funext x;rw[Tn b ns k,Wb,A1J];congr 1;funext r;simp
theorem Zh (ns:List α):Fa ns []=ns:=by unfold Fa;rw[A2T];simp
def fac:Nat->Nat
 |0=>1
 |n+1=>fac n*(n+1)
theorem Z7 {f g:α->Nat}:∀ {l:List α},(∀ x∈l,f x<=g x)->(l.map f).sum<=(l.map g).sum
 | [],_=>A06 _
 |x :: xs,h=>by have h1:=h x (by simp);have h2:=Z7 (l:=xs) (f:=f) (g:=g) λy hy=>h y (by simp[hy]);simp;omega
theorem Ut (c:Nat)(f:α->Nat):∀ l:List α,(l.map λx=>f x*c).sum=(l.map f).sum*c
 | []=>by simp
 |x :: xs=>by simp[Ut c f xs,Nat.add_mul]
theorem Fm {p q:α->Bool}:∀ {l:List α},(∀ a∈l,p a=true->q a=true)->(∃ z∈l,q z=true/\p z=false)->(l.filter p).length<(l.filter q).length
 | [],_,h=>by obtain⟨z,hz,_⟩:=h;cases hz
 |y :: ys,h,hz=>by
   have le:∀ l:List α,(∀ a∈l,p a=true->q a=true)->(l.filter p).length<=(l.filter q).length:=by
    intro l
    induction l with
    |nil=>intro _;exact A06 _
    |cons a l ih=>
      intro h;have:=ih λa ha=>h a (by simp[ha]);rw[A1F,A1F]
      cases c:p a with
      |true=>rw[if_pos rfl,if_pos (h a (by simp) c)];simpa using this
      |false=>
        rw[if_neg (by simp)]
        split
        . simp;omega
        exact this
   rw[A1F,A1F];obtain⟨z,hz,hq,hp⟩:=hz;rcases A0H.mp hz with rfl|hz
   . rw[hp,if_neg (by simp),if_pos hq,List.length_cons];have:=le ys λa ha=>h a (by simp[ha]);omega
   have ih:=Fm (l:=ys) (λa ha=>h a (by simp[ha])) ⟨z,hz,hq,hp⟩
   cases c:p y with
   |true=>rw[if_pos rfl,if_pos (h y (by simp) c)];simpa using ih
   |false=>
     rw[if_neg (by simp)]
     split
     . simp;omega
     exact ih
theorem Yw {b:α->α->Bool}(irr:∀ x,b x x=false)(tr:∀ x y z,b x y=true->b y z=true->b x z=true){L:List α}:∀(m:Nat) (y:α),y∈L->(L.filter λz=>b z y).length<=m->∃ x∈frF b L,x=y\/b x y=true
 |m,y,hy,hm=>by
   by_cases c:∃ z∈L,b z y=true
   . obtain ⟨z,hz,hzy⟩:=c;have lt:(L.filter λa=>b a z).length<(L.filter λa=>b a y).length:=Fm (λa _ h=>tr a z y h hzy) ⟨z,hz,hzy,irr z⟩
     cases m with
     |zero=>omega
     |succ m=>
       obtain⟨x,hx,h⟩:=Yw irr tr m z hz ∅;refine⟨x,hx,.inr ?_⟩;rcases h with rfl|h
       . exact hzy
       exact tr x z y h hzy
   refine⟨y,mem_frF.mpr ⟨hy,λz hz=>?_⟩,.inl rfl⟩
   cases e:b z y with
   |false=>rfl
   |true=>exact absurd ⟨z,hz,e⟩ c
theorem Wp {b:α->α->Bool} {L:List α} (h:L.Nodup):(frF b L).Nodup:=A50 A3R h
theorem an3 {b:α->α->Bool}(irr:∀ x,b x x=false)(tr:∀ x y z,b x y=true->b y z=true->b x z=true){L:List α}(h:L≠[]):frF b L≠[]:=by
 cases L with
 |nil=>exact absurd rfl h
 |cons y ys=>
   obtain⟨x,hx,_⟩:=Yw irr tr (L:=y :: ys) _ y (by simp) (Nat.le_refl _);intro e;rw[e] at hx
   cases hx
theorem Qe {f g:α->Nat}{l:List α}(h:∀ x∈l,f x=g x):(l.map f).sum=(l.map g).sum:=by rw[A1X h]
end
theorem FnOk.void {P:Program}{w:World}{K:W.Frag}{mg:Str->Option Value}{base:Heap}{CX:CXT}{k:Nat}{f:Addr}{fd:FuncData}{ps:List Str}{sp:Sp}(h:∀ vs H Q E,¬ sp vs H Q E):FnOk P w K mg base CX k f fd ps sp:=
 ⟨λvs H Q E q=>absurd q (h vs H Q E),λA outer s H args us vs Q E _ _ _ _ hs=>absurd hs (h vs H Q E)⟩
section
variable {X:Cx}{K:W.Frag}{k:Nat}{C:Addr}{f x m:Str}{ps:List Str}{sp:Sp}{e o value:Expr}{es:List Expr}{ta tv:TE}{t:TA}{p pos pos' apos:Pos}
end
section
variable {K:W.Frag}{C:Addr}{f m:Str}{sp:Sp}{ta tv:TE}{t:TA}{σ:St}{H:Hp}{Q:VK}{D:Ends}
end
section
variable {X:Cx}{K:W.Frag}
end
section
variable {X:Cx}
end
section
variable {α:Type}[DecidableEq α]
end
section
variable {K:W.Frag}{C:Addr}{H H':Hp}{p dx:Addr}{nv:V}{bd ad kd:Addr}{ns:List Str}{ps:List (Str×Str)}{kvs kvs':List (Key×V)}
end
theorem ah5 {ps:List (Str×Str)}(x y z:Str)(h:Ay ps x y=true)(g:Ay ps y z=true):Ay ps x z=true:=wayB_iff.mpr ((wayB_iff.mp h).trans (wayB_iff.mp g))
section
variable {α:Type}[DecidableEq α]
theorem Vx (b:α->α->Bool)(ns:List α){rows:List (List α)}{j:Nat}{row:List α}(h:rows[j]? = some row):Fo b ns (rows.take (j+1))=Fo b ns (rows.take j)++(frF b (Fa ns row)).map λx=>row++[x]:=by rw[A18,h];unfold Fo;rw[A3Q];simp
theorem Qi (b:α->α->Bool)(ns:List α):∀(i:Nat) (row:List α),row∈Eo b ns i [[]]->row.length=i
 |0,row,h=>by
   have:row=[]:=by simpa[Eo] using h
   subst this;rfl
 |i+1,row,h=>by rw[Ga] at h;unfold Fo at h;obtain⟨r,hr,hx⟩:=A2J.mp h;obtain⟨x,_,rfl⟩:=A0K.mp hx;rw[A04,Qi b ns i r hr];rfl
end
theorem Way.last {ps:List (Str×Str)}{x y:Str}(h:Way ps x y):∃ m,(m,y)∈ps/\(x=m\/Way ps x m):=by
 induction h with
 |one e=>exact⟨_,e,.inl rfl⟩
 |cons e _ ih=>
   obtain⟨m,h1,h2⟩:=ih;refine⟨m,h1,.inr ?_⟩;rcases h2 with rfl|h2
   . exact .one e
   exact .cons e h2
section
variable {α:Type}[DecidableEq α]
end
section
variable {K:W.Frag}{σ:St}{H:Hp}{Q:VK}{td ty tx:TE}
end
section
variable {K:W.Frag}{C:Addr}{H H':Hp}{p dx:Addr}{nv:V}{bd ad kd:Addr}{ns:List Str}{ps:List (Str×Str)}{kvs:List (Key×V)}
end
section
variable {K:W.Frag}{σ:St}{H:Hp}{Q:VK}
end
theorem Mm {prog:Program}{w:World}{κ:Type}[DecidableEq κ](knd:KeyKind prog w κ)(d:Addr) :
  MeetsIn prog w (Builtin.«dict.update» ⟨[.ref d,.ref d],[]⟩) (λ_ R s=>(∃ kvs,s.heap.DictOf knd d kvs)/\R (.ok (.ret .none)) s):=
 .of_wp λA R s hh=>by obtain⟨⟨kvs,hd⟩,h⟩:=hh;unfold Builtin.«dict.update» Builtin.Dict.selfAndRest;refine A00 (A00 (wpAny_notOrdered_dict hd.typeIs ?_));show wpAny _ _ (pure (d,[Value.ref d])) _ _ s;refine A05 ?_;show wpAny _ _ (Builtin.Dict.updateFrom "dict.update" d (.ref d) [] .none) _ _ s;unfold Builtin.Dict.updateFrom Builtin.Dict.merge Builtin.Dict.readDirectly;refine A00 (A3C hd.typeIs ?_);rw[A13 nofun];refine A00 (A00 (A00 (wpAny_isInstance hd.typeIs isSubtype_dict_dict ?_)));simp only[Bool.not_true,Bool.false_eq_true,if_false];refine A00 (wpAny_specialOf hd.typeIs F.slot_dict_iter.lookup (A05 ?_));simp only[beq_self_eq_true,if_true];refine A00 (A05 ?_);unfold Builtin.Dict.mergeDict;rw[if_pos (by simp)];refine A00 (wpAny_rule (A05 ?_));show wpAny _ _ (Builtin.Dict.addKeywords d [] >>= _) _ _ _;exact A00 (A05 (A05 ⟨.none,rfl,h⟩))
def Uc:V->List V->Hp->VK->Prop:=λx vs H Q=>∃ d kvs,x = .ref d/\vs=[.ref d]/\H d=some (.dK kvs)/\Q .non H
def Ow:V->List V->Hp->VK->Prop:=λx vs H Q=>Sx x vs H Q\/Uc x vs H Q
section
variable {X:Cx}{K:W.Frag}
theorem Vu:MtM X "dict.update" Uc:=by
 intro pins s σ H x vs v us Q I rx rv h;obtain⟨d,kvs,rfl,rfl,hD,q⟩:=h
 cases rx;obtain⟨u,rfl,ru⟩:=rv.one
 cases ru;obtain⟨z1,hd1,vs1,rel1,dd1⟩:=Xn I.hok hD;refine call_meetsIn F.slot_dict_update dd1.typeIs F.entry_dict_update (F.args_dict_update_2 _ _) (Mm (B1 X.prog X.w) d) ⟨⟨vs1,dd1⟩,?_⟩;exact⟨.non,H,I.tok s.toks,rfl,q⟩
theorem Nt:MtM X "dict.update" Ow:=by
 intro pins s σ H x vs v us Q I rx rv h;rcases h with h|h
 . exact Xl pins s σ H x vs v us Q I rx rv h
 exact Vu pins s σ H x vs v us Q I rx rv h
end
theorem Xd {d o:Addr}{ks ms:List Str}{H:Hp}{Q:VK}(hd:H d=some (.dK (Gh ks)))(ho:H o=some (.dK (Gh ms)))(hne:d≠o)(hz:ks.length+ms.length<=1000000)(k:∀ H',ExtBut d H H'->H' d=some (.dK (Gh (Km ks ms)))->Q .non H'):Ow (.ref d) [.ref o] H Q:=.inl (ay9 hd ho hne hz k)
theorem ap1 {d:Addr}{kvs:List (Key×V)}{H:Hp}{Q:VK}(hd:H d=some (.dK kvs))(k:Q .non H):Ow (.ref d) [.ref d] H Q:=.inr ⟨d,kvs,rfl,rfl,hd,k⟩
structure a54 (ns:List Str)(ps:List (Str×Str)):Prop where
 nd:ns.Nodup
 mem:∀ p∈ps,p.1∈ns/\p.2∈ns
 few:ns.length<=100
 le:ps.length<=1100
theorem HalfW.c {ns:List Str}{ps:List (Str×Str)}(h:HalfW ns ps):a54 ns ps:=⟨h.nd,h.mem,h.few,A0L h.le nofun⟩
instance {ns:List Str} {ps:List (Str×Str)}:Coe (HalfW ns ps) (a54 ns ps):=⟨HalfW.c⟩
theorem HalfW.more {ns:List Str}{ps:List (Str×Str)}(h:HalfW ns ps){x y:Str}(hx:x∈ns)(hy:y∈ns):a54 ns (ps++[(x,y)]):=by
 refine⟨h.nd,λp hp=>?_,h.few,?_⟩
 . rcases A0E.mp hp with hp|hp
   . exact h.mem p hp
   have:p=(x,y):=by simpa using hp
   rw[this];exact⟨hx,hy⟩
 have:=h.le;rw[A04,A0J];omega
section
variable {α:Type}[DecidableEq α]
def okR (b:α->α->Bool) (r:List α):Prop:=(∀ u∈r,b u u=false)/\r.Pairwise λu v=>b v u=false
theorem Ri {L:List α}(hn:L.Nodup){x:α}(hx:x∈L):(x :: Bq L x).Perm L:=by
 induction L with
 |nil=>cases hx
 |cons y ys ih=>
   obtain⟨h1,h2⟩:=A19.mp hn
   by_cases e:y=x
   . subst e
     have:Bq (y :: ys) y=ys:=by
      have e1:Bq (y :: ys) y=Bq ys y:=by unfold Bq;rw[List.filter_cons,if_neg (by simp)]
      rw[e1,Ot h1]
     rw[this]
   have e1:Bq (y :: ys) x=y :: Bq ys x:=by unfold Bq;rw[List.filter_cons,if_pos (by simp[e])]
   rw[e1];exact(List.Perm.swap y x _).trans ((ih h2 ((A0H.mp hx).resolve_left λq=>e q.symm)).cons y)
theorem Dc (b:α->α->Bool):∀(n:Nat) (L r:List α),L.Nodup->L.length=n->(r∈ext b n L↔r.Perm L/\okR b r)
 |0,L,r,_,hl=>by
   have:=A1E.mp hl;subst this;constructor
   . intro h;have:r=[]:=by simpa[ext] using h
     subst this;exact⟨.refl _,(λ_ h=>by cases h),List.Pairwise.nil⟩
   rintro⟨h,_⟩;have:r=[]:=List.perm_nil.mp h;subst this;simp[ext]
 |n+1,L,r,hn,hl=>by
   constructor
   . intro h;obtain⟨x,hx,h⟩:=A2J.mp h;obtain⟨t,ht,rfl⟩:=A0K.mp h;have hxL:=mem_frF.mp hx;have hlen:=Dy hn hxL.1;obtain⟨h1,h2,h3⟩:=(Dc b n (Bq L x) t (Ce hn x) ∅).mp ht;refine⟨(h1.cons x).trans (Ri hn hxL.1),λu hu=>?_,A2L.mpr ⟨λv hv=>hxL.2 v (mem_lessF.mp (h1.mem_iff.mp hv)).1,h3⟩⟩;rcases A0H.mp hu with rfl|hu
     . exact hxL.2 u hxL.1
     exact h2 u hu
   rintro⟨hp,hd,hpw⟩
   cases r with
   |nil=>
     have:=hp.length_eq;rw[hl] at this
     cases this
   |cons x t=>
     have hxL:x∈L:=hp.mem_iff.mp (by simp);have hlen:=Dy hn hxL;have hpt:t.Perm (Bq L x):=List.Perm.cons_inv (hp.trans (Ri hn hxL).symm);obtain⟨q1,q2⟩:=A2L.mp hpw;refine List.mem_flatMap.mpr ⟨x,mem_frF.mpr ⟨hxL,λy hy=>?_⟩,List.mem_map.mpr ⟨t,(Dc b n (Bq L x) t (Ce hn x) ∅).mpr ⟨hpt,λu hu=>hd u (by simp[hu]),q2⟩,rfl⟩⟩
     by_cases e:y=x
     . rw[e];exact hd x (by simp)
     exact q1 y (hpt.mem_iff.mpr (mem_lessF.mpr ⟨hy,e⟩))
theorem Ew (b:α->α->Bool):∀(n:Nat) (L:List α),L.Nodup->(ext b n L).Nodup
 |0,L,_=>by simp[ext]
 |n+1,L,hn=>by
   show((frF b L).flatMap λx=>(ext b n (Bq L x)).map (x :: ·)).Nodup
   have key:∀ l:List α,l.Nodup->(l.flatMap λx=>(ext b n (Bq L x)).map (x :: ·)).Nodup:=by
    intro l
    induction l with
    |nil=>intro _;simp
    |cons y ys ih=>
      intro hl;obtain⟨h1,h2⟩:=A19.mp hl;rw[A2O,A1G];refine⟨?_,ih h2,?_⟩
      . have hi:=Ew b n (Bq L y) (Ce hn y);exact List.pairwise_map.mpr (hi.imp λhne e=>hne (A3J e).2)
      intro r hr t ht e;obtain⟨r',_,rfl⟩:=A0K.mp hr;obtain⟨z,hz,ht⟩:=A2J.mp ht;obtain⟨t',_,rfl⟩:=A0K.mp ht;have:y=z:=(A3J e).1;exact h1 (this ▸ hz)
   exact key _ (Wp hn)
theorem Kd {β:Type}[DecidableEq β]{xs ys:List β}(h1:xs.Nodup)(h2:ys.Nodup)(h:∀ z,z∈xs↔z∈ys):xs.length=ys.length:=
 Nat.le_antisymm (Cf h1 λz hz=>(h z).mp hz) (Cf h2 λz hz=>(h z).mpr hz)
end
theorem Ix:∀ {r:List Str} {x:Str},x∈r->r[r.idxOf x]? = some x/\(∀ m<r.idxOf x,r[m]? ≠ some x)/\r.idxOf x<r.length
 | [],_,h=>by cases h
 |y :: ys,x,h=>by
   rw[List.idxOf_cons]
   by_cases e:y=x
   . subst e;simp
   have hb:(y==x)=false:=by simpa using e
   obtain⟨h1,h2,h3⟩:=Ix ((A0H.mp h).resolve_left λq=>e q.symm);rw[hb];refine⟨h1,λm hm=>?_,by simpa using h3⟩
   cases m with
   |zero=>simpa using e
   |succ m=>exact h2 m (by simpa using hm)
theorem K0 {ns r:List Str}{ps:List (Str×Str)}(hn:ns.Nodup)(hm:∀ p∈ps,p.1∈ns/\p.2∈ns)(hp:r.Perm ns):okR (Ay ps) r↔∀ p∈ps,r.idxOf p.1<r.idxOf p.2:=by
 have hrn:r.Nodup:=hp.nodup_iff.mpr hn;constructor
 . rintro⟨h1,h2⟩ p hpp;obtain⟨m1,m2⟩:=hm p hpp;obtain⟨a1,_,a3⟩:=Ix (hp.mem_iff.mpr m1);obtain⟨b1,_,b3⟩:=Ix (hp.mem_iff.mpr m2);have hw:Ay ps p.1 p.2=true:=wayB_iff.mpr (.one hpp);have a4:=(A03.mp a1).2;have b4:=(A03.mp b1).2;rcases Nat.lt_trichotomy (r.idxOf p.1) (r.idxOf p.2) with h|h|h
   . exact h
   . have e:p.1=p.2:=by rw[h,b1] at a1;exact(A0Z a1).symm
     rw[e] at hw;rw[h1 p.2 (hp.mem_iff.mpr m2)] at hw
     cases hw
   have:=List.pairwise_iff_getElem.mp h2 _ _ b3 a3 h;rw[a4,b4] at this;rw[this] at hw
   cases hw
 intro h
 have hw:∀ u v,Way ps u v->r.idxOf u<r.idxOf v:=λu v g=>by
  induction g with
  |one e=>exact h _ e
  |cons e _ ih=>exact A3W (h _ e) ih
 refine⟨λu hu=>?_,List.pairwise_iff_getElem.mpr λi j hi hj hij=>?_⟩
 . cases c:Ay ps u u with
   |false=>rfl
   |true=>exact absurd (hw u u (wayB_iff.mp c)) (A1O _)
 cases c:Ay ps r[j] r[i] with
 |false=>rfl
 |true=>
   have g:=hw _ _ (wayB_iff.mp c)
   have ix:∀ k (hk:k<r.length),r.idxOf r[k]=k:=λk hk=>by obtain⟨f1,_,f3⟩:=Ix (A4D hk);exact(A1U hrn).mp (A03.mp f1).2
   rw[ix j hj,ix i hi] at g;omega
theorem Jg {ns:List Str}{ps:List (Str×Str)}(h:HalfW ns ps){x y:Str}(hx:x∈ns)(hy:y∈ns):cnt (Ay (ps++[(x,y)])) ns=((ext (Ay ps) ns.length ns).filter λr=>decide (r.idxOf x<r.idxOf y)).length:=by
 refine Kd (Ew _ _ _ h.nd) (A50 A3R (Ew _ _ _ h.nd)) λr=>?_;rw[A0X,Dc _ _ _ _ h.nd rfl,Dc _ _ _ _ h.nd rfl,A3Z]
 have key:∀ hp:r.Perm ns,okR (Ay (ps++[(x,y)])) r↔okR (Ay ps) r/\r.idxOf x<r.idxOf y:=λhp=>by
  rw[K0 h.nd (h.more hx hy).mem hp,K0 h.nd h.mem hp];constructor
  . intro g;exact⟨λp hpp=>g p (List.mem_append_left _ hpp),g (x,y) (by simp)⟩
  rintro⟨g1,g2⟩ p hpp;rcases A0E.mp hpp with hpp|hpp
  . exact g1 p hpp
  have:p=(x,y):=by simpa using hpp
  rw[this];exact g2
 constructor
 . rintro⟨hp,ho⟩;exact⟨⟨hp,((key hp).mp ho).1⟩,((key hp).mp ho).2⟩
 rintro⟨⟨hp,ho⟩,hi⟩;exact⟨hp,(key hp).mpr ⟨ho,hi⟩⟩
theorem Wv {ns:List Str}{ps:List (Str×Str)}(h:HalfW ns ps){x y:Str}(hx:x∈ns)(hy:y∈ns)(hxy:x≠y):cnt (Ay (ps++[(x,y)])) ns+cnt (Ay (ps++[(y,x)])) ns=cnt (Ay ps) ns:=by
 rw[Jg h hx hy,Jg h hy hx]
 have key:∀ l:List (List Str),(∀ r∈l,r.idxOf x≠r.idxOf y)->(l.filter λr=>decide (r.idxOf x<r.idxOf y)).length+(l.filter λr=>decide (r.idxOf y<r.idxOf x)).length=l.length:=by
  intro l
  induction l with
  |nil=>intro _;rfl
  |cons r rs ih=>
    intro g;have g1:=g r (by simp);have g2:=ih λt ht=>g t (by simp[ht]);rw[A1F,A1F,A0V];rcases Nat.lt_or_gt_of_ne g1 with c|c
    . rw[A12 (A0P c),A13 (by rw[A0R ∅];decide),A0V];omega
    rw[A13 (by rw[A0R ∅];decide),A12 (A0P c),A0V];omega
 refine key _ λr hr e=>hxy ?_;obtain⟨hp,_⟩:=(Dc _ _ _ _ h.nd rfl).mp hr;obtain⟨a1,_,_⟩:=Ix (hp.mem_iff.mpr hx);obtain⟨b1,_,_⟩:=Ix (hp.mem_iff.mpr hy);rw[e,b1] at a1;exact(A0Z a1).symm
section
variable {prog:Program}{w:World}{A:Around}{E:Value->Shared->Prop}{I:Addr}{fp wr:List Addr}{n:Nat}{P:Nat->Value->Prop}{St:Nat->Heap->Prop}
end
section
variable {α:Type}[DecidableEq α]
theorem a48 {b:α->α->Bool}{L M:List α}(hn:L.Nodup)(hp:M.Perm L):cnt b M=cnt b L:=by
 have hm:M.Nodup:=hp.nodup_iff.mpr hn;unfold cnt;refine Kd (Ew _ _ _ hm) (Ew _ _ _ hn) λr=>?_;rw[Dc _ _ _ _ hm rfl,Dc _ _ _ _ hn rfl];constructor
 . rintro⟨h1,h2⟩;exact⟨h1.trans hp,h2⟩
 rintro⟨h1,h2⟩;exact⟨h1.trans hp.symm,h2⟩
theorem Z0 {b c:α->α->Bool}{L:List α}(h:∀ x∈L,∀ y∈L,b x y=c x y):frF b L=frF c L:=by
 unfold frF;apply A39;intro x hx
 have:(L.any λy=>b y x)=L.any λy=>c y x:=by
  rw[A1N,A27,A27];constructor
  . rintro⟨y,hy,e⟩;exact⟨y,hy,by rw[<- h y hy x hx];exact e⟩
  rintro ⟨y,hy,e⟩;exact⟨y,hy,by rw[h y hy x hx];exact e⟩
 rw[this]
theorem Sf {b c:α->α->Bool}:∀(n:Nat) {L:List α},L.length=n->L.Nodup->(∀ x∈L,∀ y∈L,b x y=c x y)->cnt b L=cnt c L
 |0,L,hl,_,_=>by have:=A1E.mp hl;subst this;rfl
 |n+1,L,hl,hn,h=>by
   have hne:L≠[]:=by intro e;rw[e] at hl;cases hl
   rw[Md hn hne,Md hn hne,Z0 h];apply Qe;intro x hx;have:=Dy hn (mem_frF.mp hx).1;exact Sf n ∅ (Ce hn x) λu hu v hv=>h u (mem_lessF.mp hu).1 v (mem_lessF.mp hv).1
theorem Pz (A B:List α)(x:α):Bq (A++B) x=Bq A x++Bq B x:=by unfold Bq;rw[List.filter_append]
theorem Y8 {l:List α}{p:α->Bool}(h:∀ x∈l,p x=false):l.any p=false:=by
 rw[Bool.eq_false_iff];intro e;obtain ⟨x,hx,hp⟩:=A27.mp e;rw[h x hx] at hp
 cases hp
theorem Rl {b:α->α->Bool}:∀(n:Nat) {A B:List α},A.length=n->(A++B).Nodup->(∀ x∈A,∀ y∈B,b x y=true/\b y x=false)->cnt b (A++B)=cnt b A*cnt b B
 |0,A,B,hl,_,_=>by have:=A1E.mp hl;subst this;rw[List.nil_append,cnt_nil,Nat.one_mul]
 |n+1,A,B,hl,hn,h=>by
   obtain⟨hA,hB,hAB⟩:=A1G.mp hn;have hne:A≠[]:=by intro e;rw[e] at hl;cases hl
   have hne2:A++B≠[]:=by simp[hne]
   have hfr:frF b (A++B)=frF b A:=by
    unfold frF;rw[A2A]
    have e1:(A.filter λx=>!((A++B).any λy=>b y x))=A.filter λx=>!(A.any λy=>b y x):=by apply A39;intro x hx;rw[List.any_append,Y8 (l:=B) λy hy=>(h x hx y hy).2,Bool.or_false]
    have e2:(B.filter λx=>!((A++B).any λy=>b y x))=[]:=by
     rw [List.filter_eq_nil_iff];intro y hy
     cases A with
     |nil=>exact absurd rfl hne
     |cons a A=>have:((a :: A++B).any λz=>b z y)=true:=List.any_eq_true.mpr ⟨a,by simp,(h a (by simp) y hy).1⟩;rw[this];decide
    rw[e1,e2,A1R]
   rw[Md hn hne2,hfr,Md hA hne,<- Ut];apply Qe;intro x hx;have hxA:=(mem_frF.mp hx).1;have hxB:x∉B:=λhb=>hAB x hxA x hb rfl;have hlen:=Dy hA hxA;rw[Pz,Ot hxB];refine Rl n ∅ ?_ λu hu v hv=>h u (mem_lessF.mp hu).1 v hv;rw[A1G];exact⟨Ce hA x,hB,λu hu v hv=>hAB u (mem_lessF.mp hu).1 v hv⟩
end
section
variable {prog:Program}{w:World}{A:Around}{E:Value->Shared->Prop}{s:Shared}
end
section
variable {κ:Type}[DecidableEq κ]
end
theorem M6 {α:Type}[DecidableEq α]{b:α->α->Bool}(irr:∀ x,b x x=false)(tr:∀ x y z,b x y=true->b y z=true->b x z=true):∀(n:Nat) (L:List α),L.length=n->L.Nodup->0<cnt b L
 |0,L,hl,_=>by have:=A1E.mp hl;subst this;exact Nat.zero_lt_one
 |n+1,L,hl,hn=>by
   have hne:L≠[]:=by intro e;rw[e] at hl;cases hl
   rw[Md hn hne]
   cases hf:frF b L with
   |nil=>exact absurd hf (an3 irr tr hne)
   |cons x t=>
     have hx:x∈frF b L:=by rw[hf];simp
     have:=Dy hn (mem_frF.mp hx).1;have:=M6 irr tr n (Bq L x) ∅ (Ce hn x);rw[A0Q,A30];omega
theorem ab5 {α:Type}[DecidableEq α]{b:α->α->Bool}(irr:∀ x,b x x=false)(tr:∀ x y z,b x y=true->b y z=true->b x z=true):∀(i:Nat) (L:List α),L.Nodup->i<=L.length->(ext b i L).length<=cnt b L
 |0,L,hn,_=>M6 irr tr _ L rfl hn
 |i+1,L,hn,hi=>by
   have hne:L≠[]:=by intro e;rw[e] at hi;simp at hi
   rw[Md hn hne]
   have e:(ext b (i+1) L).length=((frF b L).map λx=>(ext b i (Bq L x)).length).sum:=by show((frF b L).flatMap λx=>(ext b i (Bq L x)).map (x :: ·)).length=_;rw[List.length_flatMap];congr 1;apply A1X;intro x _;rw[A01]
   rw[e];apply Z7;intro x hx;have:=Dy hn (mem_frF.mp hx).1;exact ab5 irr tr i (Bq L x) (Ce hn x) ∅
theorem Py {α:Type}[DecidableEq α](b:α->α->Bool)(ns:List α)(k:Nat):Eo b ns k [[]]=ext b k ns:=by rw[Tn,Zh];simp
theorem ac8 {α:Type}[DecidableEq α]{b:α->α->Bool}(irr:∀ x,b x x=false)(tr:∀ x y z,b x y=true->b y z=true->b x z=true){ns:List α}(hn:ns.Nodup){i:Nat}(hi:i<=ns.length):(Eo b ns i [[]]).length<=cnt b ns:=by rw[Py];exact ab5 irr tr i ns hn hi
theorem Pm {α:Type}[DecidableEq α](b:α->α->Bool)(ns:List α)(rows:List (List α))(j:Nat):(Fo b ns (rows.take j)).length<=(Fo b ns rows).length:=by
 have:Fo b ns rows=Fo b ns (rows.take j)++Fo b ns (rows.drop j):=by unfold Fo;rw[<- A3Q,A4M]
 rw[this,A04];omega
section
variable {α:Type}[DecidableEq α]
end
section
variable {X:Cx}
end
theorem aj7 {ps:List (Str×Str)}{x y a b:Str}(g:Way (ps++[(x,y)]) a b):Way ps a b\/((a=x\/Way ps a x)/\(y=b\/Way ps y b)):=by
 induction g with
 |one e=>
   rcases A0E.mp e with e|e
   . exact .inl (.one e)
   have e:=A0G.mp e
   cases e;exact .inr ⟨.inl rfl,.inl rfl⟩
 |cons e _ ih=>
   rcases A0E.mp e with e'|e'
   . rcases ih with ih|⟨h1,h2⟩
     . exact .inl (.cons e' ih)
     refine .inr ⟨.inr ?_,h2⟩;rcases h1 with h1|h1
     . exact .one (h1 ▸ e')
     exact .cons e' h1
   have e2:=A0G.mp e'
   cases e2;rcases ih with ih|⟨_,h2⟩
   . exact .inr ⟨.inl rfl,.inr ih⟩
   exact .inr ⟨.inl rfl,h2⟩
section
variable {X:Cx}{K:W.Frag}
end
section
variable {K:W.Frag}{σ:St}{H:Hp}
end
end L2
namespace L2
open PySem PySem.Spec PyProof.Rows
open PySem PySem.W PyProof.Rows
section
variable {n:Nat}{r:Nat->Nat}
end
section
variable {prog:Program}{w:World}{A:Around}{E:Value->Shared->Prop}{z:Shared}
end
section
variable {X:Cx}{K:W.Frag}
end
end L2
namespace L2
open PySem PySem.Spec PyProof.Rows
theorem Tc {ns:List Str}{ps:List (Str×Str)}(hn:ns.Nodup){p:Str×Str}(h:p∈unP ns ps):p.1≠p.2:=by
 unfold unP unK at h;rw[A2J] at h;obtain⟨i,hi,h⟩:=h;have hi':=A2K.mp hi;unfold unR at h;obtain⟨y,hy,rfl⟩:=A0K.mp h;have hy1:=(A0X.mp hy).1;intro (e:ns.getD i "" = y);have e1:ns.getD i "" = ns[i]:=by simp[hi']
 have h3:(ns.drop i).Nodup:=hn.sublist (List.drop_sublist _ _);rw[List.drop_eq_getElem_cons hi'] at h3;exact(A19.mp h3).1 (by rw[<- e1,e];exact hy1)
section
variable {κ:Type}[DecidableEq κ]{P:Program}{w:World}{kd:KeyKind P w κ}{A:Around}{E:Value->Shared->Prop}{z:Shared}
end
section
variable {X:Cx}{K:W.Frag}
end
section
variable {P:Program}{w:World}{A:Around}{E:Value->Shared->Prop}{z:Shared}
end
section
variable {P:Program}{w:World}{A:Around}{E:Value->Shared->Prop}{z:Shared}{c TI TO i1 i2 D:Addr}{fp1 fp2:List Addr}{n:Nat}{P1 P2:Nat->Value->Prop}{S1 S2:Nat->Heap->Prop}
end
section
variable {P:Program}{w:World}{κ:Type}[DecidableEq κ]{kd:KeyKind P w κ}{A:Around}{E:Value->Shared->Prop}{c TI TO i1 i2 D:Addr}{fp1 fp2:List Addr}{n:Nat}{P1 P2:Nat->Value->Prop}{S1 S2:Nat->Heap->Prop}
end
section
variable {P:Program}{w:World}{A:Around}{E:Value->Shared->Prop}{z:Shared}
end
section
variable {X:Cx}{K:W.Frag}
end
section
variable {K:W.Frag}{H:Hp}{Q:VK}
end
section
variable {ns ns':List Str}{ps ps' bs:List (Str×Str)}
end
section
variable {ns:List Str}{ps:List (Str×Str)}
end
section
variable {P:Program}{w:World}{A:Around}{E:Value->Shared->Prop}{z:Shared}
end
section
variable {X:Cx}{K:W.Frag}
end
section
variable {α:Type} [DecidableEq α] {b:α->α->Bool} {L:List α}
end
def xB:List Value:=[.type "ValueError",.type "Exception",.type "BaseException",.type "object"]
def aj0 (K:W.Frag)(C:Addr):Bool:=match K.lookup C with
 |some ⟨.type "type",_,.cls cd,sl⟩=>(match cd.mro,sl.toList with
   |.ref D :: bm,[_,_,_,_,some (.builtin n),_]=>D==C&&n == "ValueError.__new__" && !cd.hasDel&&cd.hasDict&&W.tailIn K xB bm
   |_,_=>false)
 |_=>false
theorem Kn {K:W.Frag}{C:Addr}(q:aj0 K C=true):∃(nm qn:Str) (N:Addr) (bs bm:List Value) (sn:List Str) (sub:List Value) (ab:Bool) (col:Option Bool) (dd:Option Addr) (k0 k1 k2 k3 k5:Option Value),
  K.lookup C=some (excClassObj nm qn C N bs bm true sn sub ab col dd k0 k1 k2 k3 k5 "ValueError.__new__")/\W.tailIn K xB bm=true:=by
 unfold aj0 at q
 split at q
 . rename_i dd cd sl ho
   split at q
   . rename_i D bm k0 k1 k2 k3 n k5 hm hs;simp only[Bool.and_eq_true,beq_iff_eq,Bool.not_eq_true'] at q;obtain⟨⟨⟨⟨e1,e2⟩,hdel⟩,hdc⟩,ht⟩:=q;subst e1 e2;obtain⟨nm,bs,mro,ns,qn,hd,sn,sub,ab,col,del⟩:=cd;dsimp only at hm hdel hdc;subst hm hdel hdc
     have e3:sl = #[k0,k1,k2,k3,some (.builtin "ValueError.__new__"),k5]:=by obtain⟨l⟩:=sl;simp only at hs;rw[hs]
     subst e3;exact⟨nm,qn,ns,bs,bm,sn,sub,ab,col,dd,k0,k1,k2,k3,k5,ho,ht⟩
   cases q
 cases q
theorem Xo (self:Value){h:Heap}{l:List Value}(T:OwnTail h xB l):refuseLoop self "__setattr__" l=pure ():=by
 induction T with
 |base=>exact PySem.F.store_ValueError.passes self
 |own _ _ _ _ ih=>rw[refuseLoop_ref];exact ih
theorem a99 {h:Heap}{l:List Value}(T:OwnTail h xB l):l.contains (.type "BaseException")=true:=T.hasType (by decide +kernel)
abbrev ak3 (rest:List Value):Obj:={cls:=.type "tuple",data:=.seq rest.toArray}
abbrev a98 (C t:Addr):Obj:={cls:=.ref C,data:=.fields #[.ref t,.none,.none,.none,.bool false,.none]}
section
variable {prog:Program}{w:World}{A:Around}{E:Value->Shared->Prop}{h:Heap}{g:Array GenState}{d:Drawn}{t:Nat}{os:OsState}{K:W.Frag}{C fI:Addr}{rest:List Value}
theorem a62 {Q:Fin->Shared->Prop}(X:K.In h)(q:aj0 K C=true)(hi:W.findIn K (.ref C) "__init__" = some (some (.ref fI)))(ht:W.typeIn K (.ref fI)=some (.type "function"))(hr:rest.length<=sizeLine)
  (hq:wpAny (model prog w) A (call (.ref fI) (.ref (h.objs.size+1) :: rest)) (λr s'=>r = .none/\Q (.done (.ret (.ref (h.objs.size+1)))) s') E ⟨(h.push (ak3 rest)).push (a98 C h.objs.size),g,d,t,os⟩) :
  wpAny (model prog w) A (Builtin.«type.__call__» ⟨.ref C :: rest,[]⟩) Q E ⟨h,g,d,t,os⟩:=by
 obtain⟨nm,qn,N,bs,bm,sn,sub,ab,col,dd,k0,k1,k2,k3,k5,hl,htl⟩:=Kn q;have F:=PySem.F.excBase_ValueError;have T:OwnTail h xB bm:=A31 X htl;have hC:=X _ _ hl
 repeat (first | (with_reducible refine A2E hC ?_) | (with_reducible refine wpAny_madeBy_exc hC ?_) | wp_step)
 refine codeAny_call_builtin_code (Code.quiet_builtin _ F.quiet) (wpAny_check_new_subT F T hC (codeAny_exc_new_subT F T hC ?_ hr));show wpAny _ _ _ _ _ _;have X1:K.In ((h.push (ak3 rest)).push (a98 C h.objs.size)):=X.keeps λb o e=>A02 _ (A02 _ e);have hC1:=X1 _ _ hl;have hg1:((h.push (ak3 rest)).push (a98 C h.objs.size)).get? (h.objs.size+1)=some (a98 C h.objs.size):=by heap_get
 have hcC:(Value.ref C :: bm).contains (.ref C)=true:=by simp
 unfold isInstance
 repeat (first | (with_reducible refine A2E hg1 ?_) | (with_reducible refine A4T hC1 ?_;rw[hcC]) | wp_step)
 show wpAny _ _ (typeLookup (.ref C) _) _ _ _;refine(A3I (M:=model prog w) X1 hi).at ?_;refine A1T (A00 ((W.bind_fn X1 _ ht).at ?_));refine A00 (A1P hq (λr s' hr'=>?_) λ_ _ x=>x);obtain⟨rfl,hQ⟩:=hr'
 wp_walk
 exact hQ
theorem ak0 {Q:Value->Shared->Prop}(X:K.In h)(q:aj0 K C=true)(hi:W.findIn K (.ref C) "__init__" = some (some (.ref fI)))(ht:W.typeIn K (.ref fI)=some (.type "function"))(hr:rest.length<=sizeLine)
  (hq:wpAny (model prog w) (A.under (.builtin "type.__call__" ⟨.ref C :: rest,[]⟩)) (call (.ref fI) (.ref (h.objs.size+1) :: rest)) (λr s'=>r = .none/\Q (.ref (h.objs.size+1)) s') E ⟨(h.push (ak3 rest)).push (a98 C h.objs.size),g,d,t,os⟩) :
  wpAny (model prog w) A (call (.ref C) rest) Q E ⟨h,g,d,t,os⟩:=by
 obtain⟨nm,qn,N,bs,bm,sn,sub,ab,col,dd,k0,k1,k2,k3,k5,hl,htl⟩:=Kn q;have hC:=X _ _ hl;have f1:=tc_lookup;have f2:=tc_bind (.ref C);have tt:(⟨h,g,d,t,os⟩:Shared).TypeIs (.ref C) "type":=⟨_,hC,rfl⟩;refine A3L (codeAny_of_tree ?_);show wpAny _ _ (callAny (.ref C) _) _ _ _
 repeat (any_goals (first | assumption | (with_reducible refine A2E hC ?_) | wp_step))
 refine⟨rfl,codeAny_call_builtin_at (Code.quiet_builtin _ (by decide +kernel)) entry_typeCall (wpAny_check_type_call_sub hC (a62 X q hi ht hr ?_))⟩;exact hq
end
end L2
namespace L2
open PySem PySem.Spec PyProof.Rows
open PySem PySem.Spec PyProof.Rows Builtin Builtin.ObjectAttr
structure XC (K:W.Frag)(C:Addr):Prop where
 ex:aj0 K C=true
 sa:W.findIn K (.ref C) "__setattr__" = some (some (.builtin "object.__setattr__"))
 ga:W.findIn K (.ref C) "__getattribute__" = some (some (.builtin "BaseException.__getattribute__"))
 gt:W.findIn K (.ref C) "__getattr__" = some none
 cl:W.findIn K (.ref C) "__class__" = some (some (.builtin "object.__class__"))
 cg:W.specialIn K (.builtin "object.__class__") "__get__" = some (some (.builtin "getset_descriptor.__get__"))
 ct:W.takesIn K (.builtin "object.__class__")=some true
section
variable {prog:Program}{w:World}{A:Around}{E:Value->Shared->Prop}{s:Shared}{K:W.Frag}{C x:Addr}{name:Str}{v:Value}
theorem XC.cls (c:XC K C):∃ cd,W.clsIn K C=some cd/\cd.hasDict=true/\∃ bm,cd.mro = .ref C :: bm/\W.tailIn K xB bm=true:=by obtain⟨nm,qn,N,bs,bm,sn,sub,ab,col,dd,k0,k1,k2,k3,k5,hl,htl⟩:=Kn c.ex;exact⟨_,by unfold W.clsIn;rw[hl],rfl,bm,rfl,htl⟩
theorem XC.mro (c:XC K C){h:Heap}(X:K.In h){T:String}(hT:xB.contains (.type T)=true):W.mroIn K C (.type T)=some true:=by obtain⟨cd,hc,_,bm,hm,ht⟩:=c.cls;unfold W.mroIn;rw[hc,Option.bind_some,hm,if_neg (by simp)];rw[A32,(A31 X ht).hasType hT,Bool.or_true]
theorem ab7 {R:Result->Shared->Prop}{ox:Obj}{od:Option Obj}{tk:Tok}(c:XC K C)(X:K.In s.heap)(I:W.InstAt s.heap x ox C od)(ht:W.findIn K (.ref C) name=some none)
  (h:∀ b,wpAny (model prog w) A.in1 (storeInOwnDict (.ref x) (.ref C) (.str name tk) name v b)
   (λfin s'=>match fin with | .done f=>R (.ok f) s' | .again c'=>c'.quiet=true/\codeAny (model prog w) A c' R s') (λe s'=>R (.error e) s') s) :
  codeAny (model prog w) A (.call (.builtin "object.__setattr__") ⟨[.ref x,.str name tk,v],[]⟩) R s:=by
 have SF:=PySem.F.store_object;obtain⟨cd,hc,hd,bm,hmr,htl⟩:=c.cls;have T:=A31 X htl;have sub:W.Looks (model prog w) s.heap (isInstance (.ref x) (.type "object")) true:=I.type.andThen (A4U X (c.mro X (by decide +kernel)));refine codeAny_call_builtin SF.slot.plain SF.entry (@PySem.W.check_slot (model prog w) _ _ s "object.__setattr__" "object" "__setattr__" (.ref x) [.str name tk,v] [] _ SF.kind SF.split sub (SF.args (.ref x) (.str name tk) v) ?_);have hm:W.Looks (model prog w) s.heap (mroOf (.ref C)) cd.mro:=(A4V X hc).andThen .now;have l3:W.Looks (model prog w) s.heap (storeTaker? none) none:=.now;rw[W.osa_eq,refuse_eq];refine A00 (A00 (I.type.here (A00 (hm.here ?_))));rw[hmr,refuseLoop_ref,Xo _ T];refine A05 (A00 (I.type.here (A00 ((A3I X ht).here (A00 (l3.here ?_))))));exact h _
theorem ah1 {Q:Unit->Shared->Prop}{vs:Array Value}{sl:Array (Option Value)}(c:XC K C)(X:K.In s.heap)(hx:s.heap.get? x=some ⟨.ref C,none,.fields vs,sl⟩)(ht:W.findIn K (.ref C) name=some none)
  (hq:∀ h',h'.Ns1 s.heap.objs.size (λy=>if y=name then some v else none)->h'.get? x=some ⟨.ref C,some s.heap.objs.size,.fields vs,sl⟩->(∀ b o,b≠x->s.heap.get? b=some o->h'.get? b=some o)->Q () {s with heap:=h',toks:=s.toks+2}) :
  wpAny (model prog w) A (setAttr (.ref x) name v) Q E s:=by
 have J:W.InstAt s.heap x ⟨.ref C,none,.fields vs,sl⟩ C none:=⟨hx,rfl,rfl,A1Z⟩;obtain⟨cd,hc,hd,bm,hmr,htl⟩:=c.cls;refine W.set_plain X J c.sa (ab7 (s:={s with toks:=s.toks+1}) c X J ht λb=>?_)
 refine A00 (A05 (A00 (A00 (wpAny_loadPart hx (A00 (W.Looks.here (s:={s with toks:=s.toks+1}) (A4V X hc) ?_))))))
 rw[hd];have hx1:(s.heap.push {cls:=.type "dict",data:=.dict #[]}).get? x=some ⟨.ref C,none,.fields vs,sl⟩:=A02 _ hx;have hxs:x≠s.heap.objs.size:=A10 (A0D hx);refine A00 (wpAny_alloc' ?_);refine A00 (wpAny_update' hx1 ?_);refine A05 ?_
 have hgd:((s.heap.push {cls:=.type "dict",data:=.dict #[]}).update x λo=>{o with dict:=some s.heap.objs.size}).get? s.heap.objs.size=some {cls:=.type "dict",data:=.dict #[]}:=
  (Heap.get?_update_ne _ _ _ _ hxs.symm).trans (Heap.get?_push_at rfl rfl)
 have hnd:((s.heap.push {cls:=.type "dict",data:=.dict #[]}).update x λo=>{o with dict:=some s.heap.objs.size}).Ns s.heap.objs.size (λ_=>none):=
  ⟨_,#[],_,hgd,rfl,λe he=>absurd he (by simp),λ_=>rfl⟩
 show wpAny _ _ (storeInDict s.heap.objs.size (.str name _) name v) _ _ _;unfold storeInDict newKeyGuard;refine A00 (A05 (A00 (wpAny_nsSet1 (Heap.Ns1.of_empty hnd) λh' hn' hs=>?_)));obtain⟨oD,esD,epD,hoD,hdD,hcD⟩:=hn'.count (Within.cons name v Within.nil);refine A00 (wpAny_lookBehind hoD (by rw[hdD];exact pastItsLine_dict (A0L hcD (by rw[A0V,List.length_nil,A16];omega))) ?_);refine A05 (hq h' hn' ((hs.2 x hxs).trans (A3D _ hx1 rfl)) λb o hb hbo=>?_);exact(hs.2 b (A10 (A0D hbo))).trans ((Heap.get?_update_ne _ _ _ _ hb).trans (A02 _ hbo))
theorem ag0 {Q:Unit->Shared->Prop}{dx:Addr}{mA:Str->Option Value}{ns:List Str}{vs:Array Value}{sl:Array (Option Value)}(c:XC K C)(X:K.In s.heap)(hx:s.heap.get? x=some ⟨.ref C,some dx,.fields vs,sl⟩)(hn:s.heap.Ns1 dx mA)
  (hw:Within mA ns) (hz:ns.length<=sizeLine) (ht:W.findIn K (.ref C) name=some none)
  (hq:∀ h',h'.Ns1 dx (λy=>if y=name then some v else mA y)->Heap.SameBut dx s.heap h'->Q () {s with heap:=h',toks:=s.toks+2}) :
  wpAny (model prog w) A (setAttr (.ref x) name v) Q E s:=by
 obtain⟨od,_,_,hod,_⟩:=id hn;have J:W.InstAt s.heap x ⟨.ref C,some dx,.fields vs,sl⟩ C (some od):=⟨hx,rfl,rfl,hod⟩;obtain⟨cd,hc,hd,bm,hmr,htl⟩:=c.cls;refine W.set_plain X J c.sa (ab7 (s:={s with toks:=s.toks+1}) c X J ht λb=>?_)
 refine A00 (A05 (A00 (A00 (wpAny_loadPart hx (A00 (W.Looks.here (s:={s with toks:=s.toks+1}) (A4V X hc) ?_))))))
 rw[hd];refine A05 (a:=some dx) (A00 (A05 (A00 ?_)));refine wpAny_nsSet1 (s:={s with toks:=s.toks+1}) hn λh' hn2 hs2=>?_
 obtain⟨oD,esD,epD,hoD,hdD,hcD⟩:=hn2.count (Within.cons name v hw);refine A00 (wpAny_lookBehind hoD (by rw[hdD];exact pastItsLine_dict (A0L hcD (by rw[A0V];omega))) ?_);exact A05 (hq _ hn2 hs2)
theorem a61 {M:Model}{ox:Obj}{od:Option Obj}{nameV:Value}{Q:Unit->Shared->Prop}(c:XC K C)(X:K.In s.heap)(I:W.InstAt s.heap x ox C od)(hq:Q () s) :
  wpAny M A (checkBuiltinCall "BaseException.__getattribute__" ⟨[.ref x,nameV],[]⟩) Q E s:=by
 have sub:W.Looks M s.heap (isInstance (.ref x) (.type "BaseException")) true:=I.type.andThen (A4U X (c.mro X (by decide +kernel)));exact @PySem.W.check_slot M _ _ s "BaseException.__getattribute__" "BaseException" "__getattribute__" (.ref x) [nameV] [] _ (by decide +kernel) (by decide +kernel) sub (PySem.F.args_bexc_ga (.ref x) nameV) hq
theorem ar3 {fill expr:Bool}{tk:Tok}{Q:Value->Shared->Prop}{ox:Obj}{od:Option Obj}(c:XC K C)(X:K.In s.heap)(I:W.InstAt s.heap x ox C od)
  (h:wpAny (model prog w) A.in1 (Builtin.«object.__getattribute__» ⟨[.ref x,.str name tk],[]⟩)
   (λfin s'=>match fin with | .done (.ret v)=>wpAny (model prog w) A (handedOut v) Q E s' | _=>False) (λ_ _=>False) s):wpAny (model prog w) A (getAttrBy (.ref x) (.str name tk) fill expr) Q E s:=by
 obtain⟨hh,g,d,t,os⟩:=s;have l0:=I.type (M:=model prog w);have l1:=A3I (M:=model prog w) X c.ga;have l2:=A3I (M:=model prog w) X c.gt;have f3:=PySem.F.excAttr_ValueError.ga.bind (.ref x);have e2:(Value.builtin "BaseException.__getattribute__" == Value.builtin "object.__getattribute__")=false:=by decide +kernel
 unfold getAttrBy;refine A1T (A00 (l0.at (A00 (l1.at ?_))));show wpAny _ _ (if(onTheHeap (Value.ref C)&&Value.builtin "BaseException.__getattribute__" == Value.builtin "object.__getattribute__")=true then _ else _) _ _ _
 rw[e2,Bool.and_false,A13 nofun];unfold getAttrByItsOwn hookBefore;rw[A12 (show onTheHeap (Value.ref C)=true from rfl)];refine A00 (l2.at (A00 (wpAny_attempt (A1T ?_))));unfold callGetattribute;rw[A13 (by cases expr<;>decide)]
 unfold boundAndCalled;rw[f3];refine A00 (A05 (A3L (codeAny_call_builtin PySem.F.excAttr_ValueError.ga.plain PySem.F.entry_bexc_ga (a61 (s:=⟨hh,g,d,t,os⟩) c X I ?_))));refine A1P h (λfin s' z=>?_) λ_ _ z=>z.elim;rcases fin with (_ | _ | _ | _) | _<;>first | exact z | exact z.elim
theorem am2 {expr:Bool}{Q:Value->Shared->Prop}{ox od:Obj}(c:XC K C)(X:K.In s.heap)(I:W.InstAt s.heap x ox C (some od))(ht:W.findIn K (.ref C) name=some none)(hl:W.lookIn name od=some (some v))
  (hv:W.handedIn v=true) (h:Q v {s with toks:=s.toks+1}):wpAny (model prog w) A (getAttr (.ref x) name expr) Q E s:=by
 obtain⟨hh,g,d,t,os⟩:=s;obtain⟨cd,hc,hd,bm,hmr,htl⟩:=c.cls;have l0:=I.type (M:=model prog w)
 have hf:W.findObj K C (some od) name=some (.value v):=by unfold W.findObj W.ownOf;simp only[hc,ht,hd,hl,Option.bind_some,if_true]
 have l3:=W.looks_find (M:=model prog w) X I hf;unfold getAttr;refine A00 (wpAny_mkText (ar3 (s:=⟨hh,g,d,t+1,os⟩) c X I ?_));refine A00 (A05 (A00 (A05 (A00 (l0.at (A00 (l3.at ?_)))))));refine A05 ?_;show wpAny _ _ (handedOut v) _ _ _;rw[W.handedOut_of hv];exact A05 h
theorem a60 {Q:Option Value->Shared->Prop}{ox:Obj}{od:Option Obj}(c:XC K C)(X:K.In s.heap)(I:W.InstAt s.heap x ox C od)(h:Q (some (.ref C)) {s with toks:=s.toks+1}) :
  wpAny (model prog w) A (getAttr? (.ref x) "__class__") Q E s:=by
 obtain⟨hh,g,d,t,os⟩:=s;obtain⟨cd,hc,hd,bm,hmr,htl⟩:=c.cls;have l0:=I.type (M:=model prog w)
 have hf:W.findObj K C od "__class__" = some (.bind (.builtin "getset_descriptor.__get__") (.builtin "object.__class__")):=by unfold W.findObj;simp only[hc,c.cl,c.cg,c.ct,Option.bind_some]
 have l3:=W.looks_find (M:=model prog w) X I hf;unfold getAttr? getAttrBy?;refine A00 (wpAny_mkText (A00 (wpAny_attempt ?_)));refine ar3 (s:=⟨hh,g,d,t+1,os⟩) c X I ?_;refine A00 (A05 (A00 (A05 (A00 (l0.at (A00 (l3.at ?_)))))));show wpAny _ _ (holding [Value.builtin "object.__class__"] (call (.builtin "getset_descriptor.__get__") [.builtin "object.__class__",.ref x,.ref C]) >>= ret) _ _ _;refine A00 (A1T (A3L (W.class_get (s:=⟨hh,g,d,t+1,os⟩) (ox:=ox) (od:=od) X I (c.mro X (by decide +kernel)) ?_)));refine A05 ?_;show wpAny _ _ (handedOut (.ref C)) _ _ _;rw[W.handedOut_of rfl];exact A05 (A05 h)
theorem a08 {od:Option Obj}{ox:Obj}(c:XC K C):W.KitX K (.ref x) (.ref C) (λh=>W.InstAt h x ox C od) where
 ty:=λ_ _ _ I=>I.type
 it:=λ_ _ X _=>by obtain⟨nm,qn,N,bs,bm,sn,sub,ab,col,dd,k0,k1,k2,k3,k5,hl,htl⟩:=Kn c.ex;intro A' Q' E' s' k q;unfold isType loadHead;exact A00 (wpAny_loadPart (k _ _ (X _ _ hl)) (A05 q))
 ne:=λh tp dd its n sl X htp=>by obtain⟨nm,qn,N,bs,bm,sn,sub,ab,col,dd,k0,k1,k2,k3,k5,hl,htl⟩:=Kn c.ex;refine Bool.eq_false_iff.mpr λq=>?_;have e:C=tp:=A51 (A25.mp q);subst e;have z:=congrArg Obj.cls (A0Z ((X _ _ hl).symm.trans htp));exact absurd (Value.type.inj z) nofun
 ca:=λX I k=>a60 c X I k
end
end L2
namespace L2
open PySem PySem.Spec PyProof.Rows
def exG (n:Bool)(a C:Addr)(od:Option Addr):HO:=.ext λh=>∃ vs sl,h.get? a=some ⟨.ref C,od,.fields vs,sl⟩/\(n=true->vs[1]? = some .none)
abbrev exO (a C:Addr)(od:Option Addr):HO:=exG true a C od
def xdO (dx:Addr)(fs:List (Str×V)):HO:=.ext λh=>∃ mA,h.Ns1 dx mA/\∀ f,RelO (fs.lookup f) (mA f)
section
variable {P:Program}{w:World}{H:Hp}{h:Heap}{a C dx:Addr}{od:Option Addr}{fs:List (Str×V)}
theorem exG_ok {n:Bool}:ObjOk P w H h a (exG n a C od)↔∃ vs sl,h.get? a=some ⟨.ref C,od,.fields vs,sl⟩/\(n=true->vs[1]? = some .none):=
 ⟨λx=>x.1,λ⟨vs,sl,e,z⟩=>⟨⟨vs,sl,e,z⟩,⟨_,e⟩,λh1 h2 ⟨vs,sl,e,z⟩ k=>⟨vs,sl,k _ e,z⟩⟩⟩
theorem exO_ok:ObjOk P w H h a (exO a C od)↔∃ vs sl,h.get? a=some ⟨.ref C,od,.fields vs,sl⟩/\(true=true->vs[1]? = some .none):=exG_ok
theorem xdO_ok:ObjOk P w H h dx (xdO dx fs)↔∃ mA,h.Ns1 dx mA/\∀ f,RelO (fs.lookup f) (mA f):=
 ⟨λx=>x.1,λ⟨mA,n,r⟩=>⟨⟨mA,n,r⟩,(let ⟨o,_,_,e,_⟩:=n;⟨o,e⟩),λh1 h2 ⟨mA,n,r⟩ k=>⟨mA,(let ⟨o,es,ep,e,z⟩:=n;⟨o,es,ep,k _ e,z⟩),r⟩⟩⟩
end
def Fx (K:W.Frag)(C B:Addr):Bool:=(W.clsIn K C).any λcd=>cd.mro == .ref C :: .ref B :: xB
section
variable {K:W.Frag}{C B D:Addr}
theorem XC.ty (c:XC K C):W.typeIn K (.ref C)=some (.type "type"):=by obtain⟨nm,qn,N,bs,bm,sn,sub,ab,col,dd,k0,k1,k2,k3,k5,hl,htl⟩:=Kn c.ex;show Option.map (λx=>x.cls) (List.lookup C K)=_;rw[hl];rfl
theorem X9 (c:XC K C)(hm:Fx K C B=true)(d:XC K D):W.kitOne K (.ref C) (.ref D)=some (C==D||D==B):=by
 unfold W.kitOne
 by_cases e:C=D
 . subst e;simp
 have e1:(Value.ref C==Value.ref D)=false:=A0W.mpr λq=>e (A51 q);have e2:(C==D)=false:=A0W.mpr e;rw[A13 (by rw[e1];decide),e2,Bool.false_or];unfold W.kitCls;obtain⟨cd,hc,_⟩:=d.cls;dsimp only;rw[A12 (by rw[hc,d.ty];rfl)];show W.mroIn K C (.ref D)=_;obtain⟨cd,hc,hx⟩:=W.any_some hm;unfold W.mroIn;rw[hc,Option.bind_some,beq_iff_eq.mp hx,if_neg (by simp)];rw[A32,A32,show xB.contains (Value.ref D)=false from rfl,Bool.or_false];congr 1;rw[show(Value.ref D==Value.ref C)=false from A0W.mpr λq=>e (A51 q).symm,Bool.false_or]
 by_cases eb:D=B
 . subst eb;simp
 rw[show(D==B)=false from A0W.mpr eb,A0W.mpr λq=>eb (A51 q)]
end
section
variable {X:Cx}{pins:List (Addr×Obj)}{σ:St}{H:Hp}{s:Shared}{a C dx:Addr}{fs:List (Str×V)}{f:Str}{v:V}{A:Around}{E:Value->Shared->Prop}
theorem ag4 {n' b:Bool}{Q:Value->Shared->Prop}(I:Inv X pins σ H s)(e:H a=some (exG n' a C (some dx)))(ed:H dx=some (xdO dx fs))(c:XC X.K C)(n:Cb X.K C f)(l:fs.lookup f=some v)
  (h:∀ u s',Inv X pins σ H s'->RelV v u->Q u s'):wpAny (model X.prog X.w) A (getAttr (.ref a) f b) Q E s:=by
 obtain⟨vs,sl,e1,_⟩:=exG_ok.mp (I.hok a _ e);obtain⟨mA,hn,r⟩:=xdO_ok.mp (I.hok dx _ ed);obtain⟨u,hu,ru⟩:=RelO.some_of (v:=v) (o:=mA f) (by rw[<- l];exact r f);obtain⟨od,hod,hl⟩:=Qh hn;exact am2 c I.kIn ⟨e1,rfl,rfl,hod⟩ n (by rw[hl,hu]) (Xc ru) (h u _ (I.tok _) ru)
theorem X4 {mA:Str->Option Value}(r:∀ f,RelO (fs.lookup f) (mA f)):PySem.Within mA (fs.map (·.1)):=λg hg=>by
 cases q:fs.lookup g with
 |none=>exact absurd (RelO.none_of (by rw[<- q];exact r g)) hg
 |some v=>exact A0K.mpr ⟨(g,v),A2F q,rfl⟩
theorem a76 {y:V}{u:Value}{Q:Unit->Shared->Prop}(I:Inv X pins σ H s)(e:H a=some (exO a C none))(c:XC X.K C)(n:Cb X.K C f)(ry:RelV y u)
  (h:∀ dx s',H dx=none->dx≠a->Inv X pins σ (upd (upd H dx (xdO dx [(f,y)])) a (exO a C (some dx))) s'->Q () s'):wpAny (model X.prog X.w) A (setAttr (.ref a) f u) Q E s:=by
 obtain⟨vs,sl,e1,e1n⟩:=exO_ok.mp (I.hok a _ e);refine ah1 c I.kIn e1 n λh' hn he hk=>?_;have hf:H s.heap.objs.size=none:=I.hok.fresh (A06 _);have hne:s.heap.objs.size≠a:=A3A (A0D e1);have na:∀ b,H b=none->b≠a:=λb q z=>by rw[z,e] at q;cases q
 have nd:∀ b u,H b=some u->b≠s.heap.objs.size:=λb u q z=>by rw[z,hf] at q;cases q
 have nb:∀ b o,s.heap.get? b=some o->b≠s.heap.objs.size:=λb o q=>A10 (A0D q);have hu:∀ b o,H b=some o->b≠a->upd (upd H s.heap.objs.size (xdO s.heap.objs.size [(f,y)])) a (exO a C (some s.heap.objs.size)) b=some o:=λb o q z=>by rw[Ag z,Ag (nd b o q)];exact q
 refine h _ _ hf hne (I.un ⟨λb o q z _ _=>hk b o (na b z) q,λb o q z _ _=>⟨o.slots,hk b o (na b z) q⟩,λb o q z _=>by rw[Ag (na b z),Ag (nb b o q)];exact z,λb o q _=>?_,
  λb xs q=>hu b _ q λz=>?_,λb o u q=>hu b _ q λz=>?_,λb ps q=>⟨#[],?_⟩⟩ λb o q=>?_)
 . by_cases z:b=a
   . subst z;exact⟨_,he⟩
   exact⟨o,hk b o z q⟩
 . rw[z,e] at q;cases q
 . rw[z,e] at q;cases q
 . rw[Array.append_empty];exact hu b _ q λz=>by rw[z,e] at q;cases q
 by_cases z:b=a
 . subst z;rw[A9] at q;cases q;exact exO_ok.mpr ⟨_,_,he,e1n⟩
 rw[Ag z] at q
 by_cases z2:b=s.heap.objs.size
 . subst z2;rw[A9] at q;cases q;refine xdO_ok.mpr ⟨_,hn,λg=>?_⟩;show RelO (List.lookup g [(f,y)]) (if g=f then some u else none)
   by_cases q:g=f
   . have hb:(g==f)=true:=A25.mpr q;simp only[List.lookup,hb,if_pos q];exact ry
   have hb:(g==f)=false:=A0W.mpr q;simp only[List.lookup,hb,if_neg q];exact True.intro
 rw[Ag z2] at q;refine(I.hok b o q).stay (λc v hc r=>hk c v (λz3=>?_) r) (λc r=>hu c _ r λz3=>?_) λc xs r=>hu c _ r λz3=>?_
 . subst z3;rcases hc with hc|hc
   . exact z hc.symm
   rw[e] at hc;cases hc
 . rw[z3,e] at r;cases r
 rw[z3,e] at r;cases r
theorem a37 {y:V}{u:Value}{Q:Unit->Shared->Prop}(I:Inv X pins σ H s)(e:H a=some (exO a C (some dx)))(ed:H dx=some (xdO dx fs))(c:XC X.K C)(n:Cb X.K C f)(hl:fs.length<1000)(ry:RelV y u)
  (h:∀ s',Inv X pins σ (upd H dx (xdO dx (ag6 f y fs))) s'->Q () s'):wpAny (model X.prog X.w) A (setAttr (.ref a) f u) Q E s:=by
 obtain⟨vs,sl,e1,e1n⟩:=exO_ok.mp (I.hok a _ e);obtain⟨mA,hn,r⟩:=xdO_ok.mp (I.hok dx _ ed);refine ag0 c I.kIn e1 hn (X4 r) (by rw[A01,A16];omega) n λh' hn' hs=>h _ ?_;have hd:∃ o,h'.get? dx=some o:=let ⟨o,_,_,e',_⟩:=hn';⟨o,e'⟩;refine I.write (x:=dx) (e:=dx) (by rw[ed];exact A1Z) (.inl rfl) (λb q hb z=>(hs.2 b hb).trans z) hd (xdO_ok.mpr ⟨_,hn',λg=>?_⟩);rw[Lv]
 by_cases q:g=f
 . rw[A12 q];show RelO (some y) (if g=f then some u else mA g)
   rw[A12 q];exact ry
 rw[A13 q];show RelO _ (if g=f then some u else mA g)
 rw[A13 q];exact r g
end
def af3 (K:W.Frag)(f:Str):V->Hp->VK->Prop:=λx H1 Q=>∃ n a C dx fs v,x = .ref a/\H1 a=some (exG n a C (some dx))/\H1 dx=some (xdO dx fs)/\XC K C/\Cb K C f/\fs.lookup f=some v/\Q v H1
def ae8 (K:W.Frag)(ta:TE)(f:Str):TE:=fun σ H Q=>ta σ H λx H1=>af3 K f x H1 Q
def aw5 (K:W.Frag)(f:Str)(y:V):V->Hp->(Hp->Prop)->Prop:=λx H2 R=>∃ a C,x = .ref a/\XC K C/\Cb K C f /\
 ((H2 a=some (exO a C none)/\∀ dx,H2 dx=none->dx≠a->R (upd (upd H2 dx (xdO dx [(f,y)])) a (exO a C (some dx)))) \/
   ∃ dx fs,H2 a=some (exO a C (some dx))/\H2 dx=some (xdO dx fs)/\fs.length<1000/\R (upd H2 dx (xdO dx (ag6 f y fs))))
def ae2 (K:W.Frag)(ta tv:TE)(f:Str):TS:=λD σ H=>tv σ H λy H1=>ta σ H1 λx H2=>aw5 K f y x H2 λH3=>D.nx σ H3
section
variable {X:Cx}{o e value:Expr}{f:Str}{pos pos' tpos:Pos}{ta tv:TE}
theorem aj5 (he:PE X e ta)(hb:attributeBase e f X.env (eval e X.env)=eval e X.env):PE X (.Attribute e f pos) (ae8 X.K ta f):=by intro pins s σ H Q I h;refine ai1 hb (thn (he pins s σ H _ I h) λu s1 ⟨x,H1,I1,rx,n',a,C,dx,fs,v,ex,ea,ed,c,n,l,q⟩=>?_);subst ex;obtain rfl:u=Value.ref a:=rx;exact ag4 I1 ea ed c n l λu' s2 I2 ru=>⟨v,H1,I2,ru,q⟩
theorem ad3 (ha:PE X o ta)(hv:PE X value tv)(hs:swapsWith value (some (.Attribute o f pos')) pos.line X.env=pure false):PS X (.Assign [.Attribute o f pos'] value pos) (ae2 X.K ta tv f):=by
 intro pins s σ H D I h;refine plainObj_wpAny_Assign_Attribute (thn (hv pins s σ H _ I h) λu s1 ⟨y,H1,I1,ry,q⟩=>thn (ha pins s1 σ H1 _ I1 q) λov s2 ⟨x,H2,I2,rx,a,C,ex,c,n,q2⟩=>?_) hs;subst ex;obtain rfl:ov=Value.ref a:=rx;rcases q2 with ⟨ea,q2⟩|⟨dx,fs,ea,ed,l,q2⟩
 . exact a76 I2 ea c n ry λdx s3 h1 h2 I3=>⟨σ,_,I3,q2 dx h1 h2⟩
 exact a37 I2 ea ed c n l ry λs3 I3=>⟨σ,_,I3,q2⟩
end
def ExB (n:Bool)(H:Hp)(a C:Addr)(fs:List (Str×V)):Prop:=(fs=[]/\H a=some (exG n a C none))\/∃ dx,dx≠a/\H a=some (exG n a C (some dx))/\H dx=some (xdO dx fs)
abbrev ExA (H:Hp)(a C:Addr)(fs:List (Str×V)):Prop:=ExB true H a C fs
theorem ExB.inst {n:Bool}{P:Program}{w:World}{H:Hp}{h:Heap}{a C:Addr}{fs:List (Str×V)}(e:ExB n H a C fs)(x:HOk P w H h):∃ ox od,W.InstAt h a ox C od:=by
 rcases e with ⟨_,e⟩|⟨dx,_,e,d⟩
 . obtain⟨vs,sl,q,_⟩:=exG_ok.mp (x a _ e);exact⟨_,none,q,rfl,rfl,A1Z⟩
 obtain⟨vs,sl,q,_⟩:=exG_ok.mp (x a _ e);obtain⟨mA,hn,_⟩:=xdO_ok.mp (x dx _ d);obtain⟨o,_,_,ho,_⟩:=hn;exact⟨_,some o,q,rfl,rfl,ho⟩
theorem ExB.same {n:Bool}{H H':Hp}{a C:Addr}{fs:List (Str×V)}(e:ExB n H a C fs)(s:∀ b o,H b=some o->H' b=some o):ExB n H' a C fs:=by
 rcases e with ⟨e1,e⟩|⟨dx,ne,e,d⟩
 . exact .inl ⟨e1,s _ _ e⟩
 exact .inr ⟨dx,ne,s _ _ e,s _ _ d⟩
def au9 (K:W.Frag):List V->Hp->VK->Prop:=λxs H Q=>∃ n a C fs b,ExB n H a C fs/\XC K C /\
 ((∃ c,xs=[.ref a,.ref c]/\W.kitOne K (.ref C) (.ref c)=some b)\/(∃ c,xs=[.ref a,.ty c]/\W.kitOne K (.ref C) (.type c)=some b) \/
   ∃(p:Addr) (cs:List Addr),xs=[.ref a,.ref p]/\H p=some (.tup (cs.map V.ref))/\W.kitAny K (.ref C) (cs.map Value.ref)=some b)/\Q (.bl b) H
theorem Rm:∀ {cs:List Addr} {us:List Value},Vals (cs.map V.ref) us->us=cs.map Value.ref
 | [], us,r=>by cases us with | nil=>rfl | cons _ _=>cases r
 |c :: cs,us,r=>by
   cases us with
   |nil=>cases r
   |cons u us=>
     cases r with
     |cons r1 r2=>rw[A0Q,Rm r2,show u=Value.ref c from r1]
theorem a53 {X:Cx}:CallR X (.builtin "isinstance") (au9 X.K):=by
 intro pins s σ H xs us Q I r h;obtain⟨n,a,C,fs,b,ea,c,hc,q⟩:=h;obtain⟨ox,od,J⟩:=ea.inst I.hok;rcases hc with ⟨c',rfl,e⟩|⟨c',rfl,e⟩|⟨p,cs,rfl,hp,e⟩
 . obtain⟨u,w',rfl,r1,r2⟩:=Qa r
   cases r1;cases r2;exact A1C (a08 c) I.kIn J e (λz=>nomatch z) λtk=>⟨.bl _,H,I.tok _,rfl,q⟩
 . obtain⟨u,w',rfl,r1,r2⟩:=Qa r
   cases r1;cases r2;exact A1C (a08 c) I.kIn J e (λz=>nomatch z) λtk=>⟨.bl _,H,I.tok _,rfl,q⟩
 obtain⟨u,w',rfl,r1,r2⟩:=Qa r
 cases r1;cases r2;obtain⟨_,its,ri,ob,g1,g2,⟨n,g3⟩,g4⟩:=(show ObjOk X.prog X.w H s.heap p (.tup (cs.map V.ref)) from I.hok p _ hp);obtain rfl:=Rm ri;obtain⟨oc,odd,oda,osl⟩:=ob;dsimp only at g2 g3 g4;subst g2 g3 g4;exact W.kia_tup (a08 c) I.kIn J g1 e (λz=>nomatch z) λtk=>⟨.bl _,H,I.tok _,rfl,q⟩
theorem Jz {X:Cx}{K:W.Frag}(hK:X.K=K:=by ac_nf):CallR X (.builtin "isinstance") (au9 K):=hK ▸ a53
def Mkx (P:Program)(w:World)(K:W.Frag)(mg:Str->Option Value)(base:Heap)(k:Nat)(C:Addr)(x:Str)(ps:List Str)(sp:Sp):Prop:=
 ∃ f fd,FnOk P w K mg base CX0 k f fd ps sp/\XC K C/\W.findIn K (.ref C) "__init__" = some (some (.ref f))/\W.isFn K (.ref f)=true/\W.keepIn K (.ref C)=true/\mg x=some (.ref C)/\Binds K fd ps []
def a65 (K:W.Frag)(C:Addr):Bool:=match K.lookup C with
 |some ⟨_,_,.cls cd,_⟩=>W.nsOkIn K cd.ns&&W.nsIn K cd.ns "__init__" == some none
 |_=>false
structure aw2 (K:W.Frag)(mg:Str->Option Value)(C:Addr)(x:Str):Prop where
 xc:XC K C
 no:a65 K C=true
 kp:W.keepIn K (.ref C)=true
 gl:mg x=some (.ref C)
def ax9 (C:Addr)(sp:Sp)(vs:List V)(H1:Hp)(Q:VK):Prop:=vs.length<=8/\∀ x,H1 x=none->sp (.ref x :: vs) (upd H1 x (exO x C none)) (λv H2=>v = .non/\Q (.ref x) H2) E0
def aB6 (C:Addr) (sp:Sp) (t:TA):TE:=fun σ H Q=>t σ H λvs H1=>ax9 C sp vs H1 Q
theorem ae5 {P:Program}{w:World}{H:Hp}{h:Heap}{a:Addr}(x:HOk P w H h)(n:h.get? a=none):H a=none:=by
 cases q:H a with
 |none=>rfl
 |some o=>
   have t:∀ o,ObjOk P w H h a o->∃ u,h.get? a=some u:=λo z=>by
    cases o with
    |lst xs=>obtain⟨_,_,_,_,e⟩:=z;exact⟨_,e⟩
    |tup xs=>obtain⟨_,_,_,_,e,_⟩:=z;exact⟨_,e⟩
    |dK kvs=>obtain⟨_,_,_,_,o,_,_,e,_⟩:=z;exact⟨_,e⟩
    |dT kvs=>obtain⟨_,_,_,_,o,_,_,e,_⟩:=z;exact⟨_,e⟩
    |set S n=>obtain⟨o,_,_,_,e,_⟩:=z;exact⟨_,e⟩
    |ins C dx fs=>obtain⟨_,_,_,e,_⟩:=z;exact⟨_,e⟩
    |own y=>obtain⟨_,e⟩:=z;exact⟨_,e⟩
    |xd fs=>obtain⟨_,⟨_,_,_,e,_⟩,_⟩:=z;exact⟨_,e⟩
    |rng lo hi=>obtain⟨_,_,_,e⟩:=z;exact⟨_,e⟩
    |frz ob u=>obtain⟨e,_⟩:=z;exact⟨_,e⟩
    |tbl ps=>exact⟨_,z⟩
    |met f y=>exact⟨_,z⟩
    |ext φ=>obtain⟨_,e,_⟩:=z;exact e
   obtain⟨u,e⟩:=t o (x a o q);rw[n] at e;cases e
section
variable {X:Cx}{k:Nat}{f C:Addr}{fd:FuncData}{ps:List Str}{sp:Sp}{x:Str}{p pos:Pos}{e:Expr}{es:List Expr}{t:TA}{pins:List (Addr×Obj)}{σ:St}{H:Hp}{s:Shared}{Q:VK}{us:List Value}{vs:List V}
theorem aj1 (M:Mkx X.prog X.w X.K X.mg X.base k C x ps sp)(hr:Room (k+1) X.A)(I:Inv X pins σ H s)(r:Vals vs us)(hz:vs.length<=8)
  (h:∀ x,H x=none->sp (.ref x :: vs) (upd H x (exO x C none)) (λv H2=>v = .non/\Q (.ref x) H2) E0) :
  wpAny (model X.prog X.w) X.A (call (.ref C) us) (EP X pins σ Q) X.xe s:=by
 obtain⟨f,fd,F,c,hi,hf,hk,hm,hb⟩:=M;have hq:=h (s.heap.objs.size+1) (I.hok.fresh (A4S _));have r2:Vals (V.ref (s.heap.objs.size+1) :: vs) (Value.ref (s.heap.objs.size+1) :: us):=.cons rfl r
 have hl:((Value.ref (s.heap.objs.size+1) :: us)++[]).length=ps.length:=by have e:=r2.length;rw[F.len _ _ _ _ hq] at e;rw[A1R];exact e.symm
 have hg1:((s.heap.push (ak3 us)).push (a98 C s.heap.objs.size)).get? (s.heap.objs.size+1)=some (a98 C s.heap.objs.size):=by heap_get
 have I2:Inv X pins σ (upd H (s.heap.objs.size+1) (exO (s.heap.objs.size+1) C none)) {s with heap:=(s.heap.push (ak3 us)).push (a98 C s.heap.objs.size)}:=
  I.laid (a:=s.heap.objs.size+1) (t':=s.toks) (λb u q=>A02 _ (A02 _ q)) (A4S _) (exO_ok.mpr ⟨_,_,hg1,λ_=>rfl⟩)
 obtain⟨hh,g,d,tk,os⟩:=s
 refine ak0 I.kIn c.ex hi (A25.mp hf) (by rw[<- r.length,A16];omega) (A3L (A4G (F.run _ X.stack _ _ ⟨Value.ref (hh.objs.size+1) :: us,[]⟩ (Value.ref (hh.objs.size+1) :: us) _ _ E0 (hr.make C us [])
  (I2.env0.make C us []) (by have:=hb _ (Value.ref (hh.objs.size+1) :: us) I2.kIn hl;rw[A1R] at this;exact this) r2 hq) λr s' hq'=>?_))
 cases r with
 |error e=>exact False.elim hq'
 |ok fl=>
   cases fl with
   |ret u=>obtain⟨v,H',I3,rv,ev,q3⟩:=I2.after hq';subst ev;exact⟨rv,⟨V.ref (hh.objs.size+1),H',I3,rfl,q3⟩⟩
   |next=>exact False.elim hq'
   |brk=>exact False.elim hq'
   |cont=>exact False.elim hq'
theorem at0 (M:Mkx X.prog X.w X.K X.mg X.base k C x ps sp)(hr:Room (k+1) X.A)(hg:Gl X x)(ha:PA X (e :: es) t)(hdb:(x==("__debug__":Str))=false:=by decide)
  (he:starEach (e :: es) X.env=(false,eval e X.env) :: starEach es X.env:=by ac_nf) (hpl:(backTo pos (starEach es X.env)).any (·.1)=false:=by ac_nf) :
  PE X (.Call (.Name x p) (e :: es) [] pos) (aB6 C sp t):=by
 intro pins s σ H Q I h;have M':=M;obtain⟨f,fd,F,c,hi,hf,hk,hm,hb⟩:=M';refine A1S (Ov I hg hm ?_ hdb);refine A4X (h₀:=X.base) I.ok.mod.kin hk (thn (ha pos pins s σ H _ I h) λus s1 ⟨vs,H1,I1,r,z,q⟩=>⟨I1.kIn,?_⟩) he hpl;exact aj1 M hr I1 r z q
end
def spX (C:Addr)(fs:List Str):Sp:=λvs H Q _=>∃ a ws,vs = .ref a :: ws/\ws.length=fs.length/\H a=some (exO a C none) /\
 ∀ dx H',H dx=none->dx≠a->(∀ b,b≠a->b≠dx->H' b=H b)->H' a=some (exO a C (some dx))->H' dx=some (xdO dx (fs.zip ws))->Q .non H'
section
variable {X:Cx}{K:W.Frag}{o e value:Expr}{f:Str}{pos pos':Pos}{ta tv:TE}
theorem Tf (he:PE X e ta)(hb:attributeBase e f X.env (eval e X.env)=eval e X.env)(hK:X.K=K:=by ac_nf):PE X (.Attribute e f pos) (ae8 K ta f):=hK ▸ aj5 he hb
theorem Tw (ha:PE X o ta)(hv:PE X value tv)(hs:swapsWith value (some (.Attribute o f pos')) pos.line X.env=pure false)(hK:X.K=K:=by ac_nf):PS X (.Assign [.Attribute o f pos'] value pos) (ae2 K ta tv f):=
 hK ▸ ad3 ha hv hs
end
section
variable {K:W.Frag}{σ:St}{H:Hp}{Q:VK}{D:Ends}{f:Str}{ta tv:TE}{t:TA}{sp:Sp}{C a dx B G:Addr}{fs:List (Str×V)}{v y:V}{R:Hp->Prop}{vs:List V}
theorem ah4 (k:ta σ H λx H1=>af3 K f x H1 Q):ae8 K ta f σ H Q:=k
theorem a92 {n':Bool}(h:ExB n' H a C fs)(c:XC K C)(n:Cb K C f)(l:fs.lookup f=some v)(k:Q v H):af3 K f (.ref a) H Q:=by
 rcases h with ⟨rfl,_⟩|⟨dx,_,h1,h2⟩
 . cases l
 exact⟨n',a,C,dx,fs,v,rfl,h1,h2,c,n,l,k⟩
theorem ag9 (k:tv σ H λy H1=>ta σ H1 λx H2=>aw5 K f y x H2 λH3=>D.nx σ H3):ae2 K ta tv f D σ H:=k
theorem an1 (h:H a=some (exO a C none))(c:XC K C)(n:Cb K C f)(k:∀ dx H',H dx=none->dx≠a->(∀ b,b≠a->b≠dx->H' b=H b)->H' a=some (exO a C (some dx))->H' dx=some (xdO dx [(f,y)])->R H'):aw5 K f y (.ref a) H R:=
 ⟨a,C,rfl,c,n,.inl ⟨h,λdx h1 h2=>k dx _ h1 h2 (λb hb hd=>by rw[Ag hb,Ag hd]) A9 (by rw[Ag h2,A9])⟩⟩
theorem ao3 (h:H a=some (exO a C (some dx)))(hd:H dx=some (xdO dx fs))(c:XC K C)(n:Cb K C f)(hl:fs.length<1000)(k:∀ H',(∀ b,b≠dx->H' b=H b)->H' dx=some (xdO dx (ag6 f y fs))->R H'):aw5 K f y (.ref a) H R:=
 ⟨a,C,rfl,c,n,.inr ⟨dx,fs,h,hd,hl,k _ (λb hb=>Ag hb) A9⟩⟩
theorem as7 (k:t σ H λvs H1=>ax9 C sp vs H1 Q):aB6 C sp t σ H Q:=k
theorem ay0 {gs:List Str}(hl:vs.length=gs.length)(hz:gs.length<=8)(k:∀ x H',H x=none->Same H H'->ExA H' x C (gs.zip vs)->Q (.ref x) H'):ax9 C (spX C gs) vs H Q:=by refine⟨by omega,λx hx=>⟨x,vs,rfl,hl,A9,λdx H' h1 h2 h3 h4 h5=>⟨rfl,k x H' hx (λb u q=>?_) (.inr ⟨dx,h2,h4,h5⟩)⟩⟩⟩;have b1:b≠x:=ne_of_none q hx;rw[Ag h2] at h1;rw[h3 b b1 (ne_of_none q h1),Ag b1];exact q
theorem az3 {n' b:Bool}(h:ExB n' H a C fs)(c:XC K C)(e:W.kitOne K (.ref C) (.ref G)=some b)(k:Q (.bl b) H):au9 K [.ref a,.ref G] H Q:=⟨n',a,C,fs,b,h,c,.inl ⟨G,rfl,e⟩,k⟩
theorem ap3 {n' b:Bool}{T:String}(h:ExB n' H a C fs)(c:XC K C)(e:W.kitOne K (.ref C) (.type T)=some b)(k:Q (.bl b) H):au9 K [.ref a,.ty T] H Q:=⟨n',a,C,fs,b,h,c,.inr (.inl ⟨T,rfl,e⟩),k⟩
theorem a81 {n' b:Bool}{p:Addr}{cs:List Addr}(h:ExB n' H a C fs)(c:XC K C)(hp:H p=some (.tup (cs.map V.ref)))(e:W.kitAny K (.ref C) (cs.map Value.ref)=some b)(k:Q (.bl b) H):au9 K [.ref a,.ref p] H Q:=
 ⟨n',a,C,fs,b,h,c,.inr (.inr ⟨p,cs,rfl,hp,e⟩),k⟩
end
theorem ag5 {K:W.Frag}{C B:Addr}(hm:Fx K C B=true):W.kitOne K (.ref C) (.type "ValueError")=some true:=by obtain⟨cd,hc,hx⟩:=W.any_some hm;unfold W.kitOne;rw[A13 (by rw[A0W.mpr (by intro q;cases q)];decide)];unfold W.kitCls;dsimp only;rw[A12 (by decide +kernel)];show W.mroIn K C _=_;unfold W.mroIn;rw[hc,Option.bind_some,beq_iff_eq.mp hx,if_neg (by simp),List.contains_cons,List.contains_cons,show xB.contains (Value.type "ValueError")=true by decide +kernel,Bool.or_true,Bool.or_true]
structure Lft (fs:List Addr)(a:Addr)(oe:Obj)(old:List Addr)(h h':Heap):Prop where
 keep:∀ b o,b∉fs->b≠a->b∉old->h.get? b=some o->h'.get? b=some o
 slot:∀ b o,b∈fs->h.get? b=some o->∃ sl,h'.get? b=some {o with slots:=sl}
 there:∀ b o,h.get? b=some o->∃ o',h'.get? b=some o'
 tr:∃ oe' vs T oT ts,h'.get? a=some oe'/\oe'.cls=oe.cls/\oe'.dict=oe.dict/\oe'.slots=oe.slots/\oe'.data = .fields vs/\vs[1]? = some (.ref T)/\T≠a/\h.get? T=none/\h'.get? T=some oT/\oT.data = .fields ts/\ts[3]? = some .none
section
variable {M:Model}{A:Around}{E:Value->Shared->Prop}{s:Shared}{base:Heap}{env:Env}{outer:List Env}{L a:Addr}{oe:Obj}{vs:Array Value}{Q:Unit->Shared->Prop}
theorem Yp (o:Obj)(g:Array Value->Array Value):(o.mapFields g).dict=o.dict/\(o.mapFields g).slots=o.slots/\(o.mapFields g).cls=o.cls:=by
 obtain⟨c,d,dt,sl⟩:=o
 cases dt<;>exact⟨rfl,rfl,rfl⟩
theorem Tr {head:Value}{hadNext:Bool}(hfr:A.frames=some (env :: outer))(hl:s.heap.FunFrames base (env :: outer))(hf:env.frame=some L)(he:s.heap.get? a=some oe)(hd:oe.data = .fields vs)(hsz:1<vs.size)
  (h:∀ h',Lft (frs (env :: outer)) a oe [] s.heap h'->Q () {s with heap:=h'}) :
  wpAny M A (do let x <- frameOf env;let pl <- entryPlaceOf L hadNext;let b <- EntryCells.newEntry head x .none (rawInt L) .none pl;setField (.ref a) 1 b) (λ_ s'=>wpAny M A (setFlight (.ref a) none) Q E s') E s:=by
 have ha:a∉frs (env :: outer):=λhm=>by obtain⟨_,o,ho,hnf⟩:=hl.mem hm;rw[he] at ho;cases ho;exact hnf vs hd
 refine A00 (wpAny_frameOf_fun hfr hl hf λh1 k1=>?_);refine A00 (wpAny_entryPlaceOf λpl hpl=>?_);unfold EntryCells.newEntry newFields;refine A00 (A1D ?_ (hpl.sizeOk5 _ _ _ _ _));generalize hob:(Obj.mk (Value.type "traceback") none (Data.fields ([head,Value.ref L,Value.none,rawInt L,Value.none]++(if pl.isEmpty then List.replicate 6 Value.none else pl)).toArray) #[]:Obj)=ob
 have obd:ob.data = .fields ([head,Value.ref L,Value.none,rawInt L,Value.none]++(if pl.isEmpty then List.replicate 6 Value.none else pl)).toArray:=by rw[<- hob]
 have hob2:ob.isFreed=false:=A3E obd;have he1:h1.get? a=some oe:=(k1.2.1 a ha).trans he;have he2:=A02 (h:=h1) ob he1;refine wpAny_setField he2 hd hsz ?_;have hTe:h1.objs.size≠a:=A3A (A0D he1);have d3:=A52 hd (·.setIfInBounds 1 (Value.ref h1.objs.size));have he3:=A3D (Obj.mapFields (·.setIfInBounds 1 (Value.ref h1.objs.size))) he2 (A3E d3);have hT3:=(A1V (h1.push ob) (Obj.mapFields (·.setIfInBounds 1 (Value.ref h1.objs.size))) (Ne.symm hTe)).trans (A0O h1 hob2);unfold setFlight;refine wpAny_bind (wpAny_field he3 d3 (x:=.ref h1.objs.size) (by simp[hsz]) ?_);rw[if_pos (show(Value.ref h1.objs.size != Value.none)=true from by simp)];refine wpAny_setField hT3 obd (by simp only[List.size_toArray,List.length_append,List.length_cons,List.length_nil]<;>omega) (h _ ?_)
 have kp:∀ b o,b≠a->h1.get? b=some o->(((h1.push ob).update a (Obj.mapFields (·.setIfInBounds 1 (Value.ref h1.objs.size)))).update h1.objs.size (Obj.mapFields (·.setIfInBounds 3 ((none:Option Addr).elim Value.none λf=>rawInt f)))).get? b=some o:=λb o hbe hb=>by rw[A1V _ _ (A3A (A0D hb)),A1V _ _ (Ne.symm hbe)];exact A02 _ hb
 have hea:=(A1V _ (Obj.mapFields (·.setIfInBounds 3 ((none:Option Addr).elim Value.none λf=>rawInt f))) hTe).trans he3;refine⟨λb o hb hba _ q=>kp b o hba ((k1.2.1 b hb).trans q),λb o hb q=>?_,λb o q=>?_,?_⟩
 . obtain⟨sl,z⟩:=k1.2.2 b o q;exact⟨sl,kp b _ (λw=>ha (w ▸ hb)) z⟩
 . by_cases w:b=a
   . subst w;exact⟨_,hea⟩
   obtain⟨sl,z⟩:=k1.2.2 b o q;exact⟨_,kp b _ w z⟩
 obtain⟨m1,m2,m3⟩:=Yp oe (·.setIfInBounds 1 (Value.ref h1.objs.size));refine⟨_,_,h1.objs.size,_,_,hea,m3,m1,m2,d3,by simp[hsz],hTe,Heap.get?_none_of_le (by rw[k1.1];exact Nat.le_refl _),Heap.get?_update_self _ hT3 (Obj.isFreed_of_fields (Obj.data_mapFields obd _)),Obj.data_mapFields obd _,?_⟩;rcases hpl with rfl|⟨_,_,_,_,_,_,_,rfl⟩<;>simp
theorem a75 (hfr:A.frames=some (env :: outer))(hl:s.heap.FunFrames base (env :: outer))(hf:env.frame=some L)(he:s.heap.get? a=some oe)(hd:oe.data = .fields vs)(h1:vs[1]? = some .none)
  (h:∀ h',Lft (frs (env :: outer)) a oe [] s.heap h'->Q () {s with heap:=h'}):wpAny M A (leaving env (.ref a)) Q E s:=by
 unfold leaving noteFrame;simp only[hf];refine A00 (A00 (A22 he hd h1 ?_));rw[A13 nofun];exact Tr hfr hl hf he hd (A24.mp h1).1 h
theorem Vg {T:Addr}{oT:Obj}{ts:Array Value}(hfr:A.frames=some (env :: outer))(hl:s.heap.FunFrames base (env :: outer))(hf:env.frame=some L)(he:s.heap.get? a=some oe)(hd:oe.data = .fields vs)(h1:vs[1]? = some (.ref T))
  (hTe:T≠a) (hT:s.heap.get? T=some oT) (hdT:oT.data = .fields ts) (h3:ts[3]? = some .none)
  (h:∀ h',Lft (frs (env :: outer)) a oe [T] s.heap h'->Q () {s with heap:=h'}):wpAny M A (noteFrame (.ref a) env) (λ_ s'=>wpAny M A (setFlight (.ref a) none) Q E s') E s:=by
 unfold noteFrame;simp only[hf];refine A00 (A22 he hd h1 ?_);rw[if_pos (show(Value.ref T != Value.none)=true from by simp)];refine A00 (A22 hT hdT h3 ?_);rw[if_neg (show ¬ ((Value.none==rawInt L)=true) from by simp[rawInt])];refine A00 (wpAny_setField hT hdT (A24.mp h3).1 ?_);have ot:∀ b,b≠T->(s.heap.update T (Obj.mapFields (·.setIfInBounds 3 Value.none))).get? b=s.heap.get? b:=λb hb=>A1V _ _ (Ne.symm hb);have tt:=A3D (Obj.mapFields (·.setIfInBounds 3 Value.none)) hT (A3E (A52 hdT _))
 have nT:∀ b o,s.heap.get? b=some o->(∀ us,o.data ≠ .fields us)->b≠T:=λb o hb hnf q=>by rw[q,hT] at hb;cases hb;exact hnf ts hdT
 have fT:T∉frs (env :: outer):=λhm=>by obtain⟨_,o,ho,hnf⟩:=hl.mem hm;exact nT T o ho hnf rfl
 refine Tr (hl:=hl.of_keeps λb o hb hnf=>⟨o,(ot b (nT b o hb hnf)).trans hb,rfl⟩) hfr hf ((ot a (Ne.symm hTe)).trans he) hd (A24.mp h1).1 λh' l=>h h' ?_;obtain⟨x1,x2,x3,oe',us,T',oT',ts',q1,q2,q3,q4,q5,q6,q7,q8,q9⟩:=l;refine⟨λb o hb hba hbt q=>x1 b o hb hba (by simp) ((ot b λz=>hbt (by simp[z])).trans q),λb o hb q=>x2 b o hb ((ot b λz=>fT (z ▸ hb)).trans q),λb o q=>?_,oe',us,T',oT',ts',q1,q2,q3,q4,q5,q6,q7,?_,q9⟩
 . by_cases z:b=T
   . subst z;exact x3 _ _ tt
   exact x3 b o ((ot b z).trans q)
 by_cases z:T'=T
 . rw[z,tt] at q8;cases q8
 rw[<- ot T' z];exact q8
theorem ai5 {T:Addr}{oT:Obj}{ts:Array Value}(hfr:A.frames=some (env :: outer))(hl:s.heap.FunFrames base (env :: outer))(hf:env.frame=some L)(he:s.heap.get? a=some oe)(hd:oe.data = .fields vs)(h1:vs[1]? = some (.ref T))
  (hTe:T≠a) (hT:s.heap.get? T=some oT) (hdT:oT.data = .fields ts) (h3:ts[3]? = some .none)
  (h:∀ h',Lft (frs (env :: outer)) a oe [T] s.heap h'->Q () {s with heap:=h'}):wpAny M A (leaving env (.ref a)) Q E s:=by
 unfold leaving;exact A00 (Vg hfr hl hf he hd h1 hTe hT hdT h3 h)
end
def Tra (a:Addr)(H':Hp)(h0 h:Heap):Prop:=∃ oe vs T oT ts,h.get? a=some oe/\oe.data = .fields vs/\vs[1]? = some (.ref T)/\T≠a/\h.get? T=some oT/\oT.data = .fields ts/\ts[3]? = some .none/\H' T=none/\h0.get? T=none
def CX1 (P:Program)(w:World):CXT:=λouter H s E e s'=>∃ a C od H',e = .ref a/\s'.os=s.os/\AllBare s'.gens/\Un (frs outer) [] H H' s.heap s'.heap/\HOk P w H' s'.heap/\H' a=some (exG false a C od)/\s.heap.get? a=none/\Tra a H' s.heap s'.heap/\E (.ref a) none H'
section
variable {P:Program}{w:World}{fs:List Addr}{a C:Addr}{od:Option Addr}{oe:Obj}{old:List Addr}{h h':Heap}{H:Hp}{n:Bool}
theorem Lft.hok (l:Lft fs a oe old h h')(ok:HOk P w H h)(he:h.get? a=some oe)(ha:H a=some (exG n a C od))(hfs:∀ b∈fs,H b=none)(hold:∀ b∈old,H b=none):HOk P w (upd H a (exG false a C od)) h':=λb u q=>by
 have hu:∀ c z,H c=some z->c≠a->upd H a (exG false a C od) c=some z:=λc z r ne=>by rw[Ag ne];exact r
 by_cases hb:b=a
 . subst hb;rw[A9] at q;cases q;obtain⟨vs,sl,e1,_⟩:=exG_ok.mp (ok b _ ha);rw[he] at e1;cases e1;obtain⟨oe',us,T,oT,ts,q1,q2,q3,q4,q5,_⟩:=l.tr;obtain⟨c,d,dt,s4⟩:=oe';dsimp only at q2 q3 q4 q5;subst q2 q3 q4 q5;exact exG_ok.mpr ⟨us,_,q1,λz=>Bool.noConfusion z⟩
 rw[Ag hb] at q;refine(ok b u q).stay (λc v hc r=>?_) (λc r=>hu c _ r λz=>?_) λc xs r=>hu c _ r λz=>?_
 . have hcn:∃ z,H c=some z:=by
    rcases hc with hc|hc
    . exact⟨u,hc ▸ q⟩
    exact⟨_,hc⟩
   obtain⟨z,hz⟩:=hcn;refine l.keep c v (λm=>by rw[hfs c m] at hz;cases hz) (λe=>?_) (λm=>by rw[hold c m] at hz;cases hz) r;subst e;rcases hc with hc|hc
   . exact hb hc.symm
   rw[ha] at hc;cases hc
 . rw[z,ha] at r;cases r
 rw[z,ha] at r;cases r
end
section
variable {P:Program}{w:World}{K:W.Frag}{mg:Str->Option Value}{base:Heap}{N:List Str}{qual:Str}{scope:Scope}{f:Addr}{cd:Value}{A:Around}{outer:List Env}{s₀:Shared}{H₀:Hp}{E:XK}
theorem Wl {h h':Heap}:∀ {l:List Env},h.FunFrames base l->(∀ b∈frs l,∀ o,h.get? b=some o->∃ sl,h'.get? b=some {o with slots:=sl})->h'.FunFrames base l
 | [],_,_=>A1Z
 |env :: r,hl,k=>by
   obtain⟨hk,⟨L,o,hf,hn,ho,hd⟩,hr⟩:=hl;have e:frs (env :: r)=L :: frs r:=by unfold frs;rw[List.filterMap_cons,hf]
   obtain⟨sl,z⟩:=k L (by rw[e];exact A0C) o ho;exact⟨hk,⟨L,_,hf,hn,z,hd⟩,Wl hr λb hb=>k b (by rw[e];exact A08 _ hb)⟩
theorem am5 {CX:CXT}{pins:List (Addr×Obj)}{σ:St}{H1 H2:Hp}{s1 s2:Shared}{h3:Heap}{a C:Addr}{od:Option Addr}{oe:Obj}{old:List Addr}{n:Bool}(I:Inv (Vw CX P w K mg base N qual scope f cd A outer s₀ H₀ E) pins σ H1 s1)
  (os:s2.os=s1.os) (bare:AllBare s2.gens) (un:Un (frs (envOfC qual scope s₀.heap.objs.size f cd :: outer)) [] H1 H2 s1.heap s2.heap) (ok:HOk P w H2 s2.heap) (ha:H2 a=some (exG n a C od)) (he:s2.heap.get? a=some oe) (hn:s₀.heap.get? a=none) (hold:∀ b∈old,H2 b=none/\s₀.heap.get? b=none)
  (l:Lft (frs (envOfC qual scope s₀.heap.objs.size f cd :: outer)) a oe old s2.heap h3) (q:E (.ref a) none (upd H2 a (exG false a C od))) :
  CX1 P w outer H₀ s₀ E (.ref a) {s2 with heap:=h3}:=by
 have stk:∀ b∈frs (envOfC qual scope s₀.heap.objs.size f cd :: outer),b=s₀.heap.objs.size\/b∈frs outer:=λb hb=>by
  rcases A0H.mp (I.stkSub b hb) with z|z
  . exact .inl z
  exact .inr z
 have fr2:∀ b∈frs (envOfC qual scope s₀.heap.objs.size f cd :: outer),H2 b=none:=λb hb=>by obtain⟨_,o,ho,_⟩:=I.stack.mem hb;exact un.free b o ho (I.stkFree b hb) (by simp)
 obtain⟨oe',us,T,oT,ts,q1,q2,q3,q4,q5,q6,q7,q8,q9,q10,q11⟩:=l.tr;have nl:∀ b o,s₀.heap.get? b=some o->b≠s₀.heap.objs.size:=λb o z=>A10 (A0D z);have na:∀ b o,s₀.heap.get? b=some o->b≠a:=λb o z e=>by rw[e,hn] at z;cases z
 have no:∀ b o,s₀.heap.get? b=some o->b∉old:=λb o z e=>by rw[(hold b e).2] at z;cases z
 have tn:H2 T=none:=ae5 ok q8
 have t0:s₀.heap.get? T=none:=by
  cases z:s₀.heap.get? T with
  |none=>rfl
  |some o=>obtain⟨o1,z1⟩:=I.base.there T o z (by intro m;cases m);obtain⟨o2,z2⟩:=un.there T o1 z1 (by simp);rw[q8] at z2;cases z2
 have hu:∀ c z,H2 c=some z->z≠exG n a C od->upd H2 a (exG false a C od) c=some z:=λc z r ne=>by rw[Ag λe=>ne (by rw[e,ha] at r;exact(A0Z r).symm)];exact r
 refine⟨a,C,od,upd H2 a (exG false a C od),rfl,os.trans I.os,bare,⟨λb o z nz hb _=>?_,λb o z nz hb _=>?_,λb o z nz _=>?_,λb o z _=>?_,λb xs z=>?_,λb o u z=>?_,λb ps z=>?_⟩,l.hok ok he ha fr2 (λb m=>(hold b m).1),A9,hn,⟨oe',us,T,oT,ts,q1,q5,q6,q7,q9,q10,q11,by rw[Ag q7];exact tn,t0⟩,q⟩
 . have z1:=I.base.keep b o z nz hb (by intro m;cases m);have n1:=I.base.free b o z nz (by intro m;cases m);have hb2:b∉frs (envOfC qual scope s₀.heap.objs.size f cd :: outer):=λm=>(stk b m).elim (nl b o z) hb;exact l.keep b o hb2 (na b o z) (no b o z) (un.keep b o z1 n1 hb2 (by simp))
 . obtain⟨sl,z1⟩:=I.base.slot b o z nz hb (by intro m;cases m);have n1:=I.base.free b o z nz (by intro m;cases m);obtain⟨sl2,z2⟩:=un.any z1 n1 (by simp)
   by_cases m:b∈frs (envOfC qual scope s₀.heap.objs.size f cd :: outer)
   . obtain⟨sl3,z3⟩:=l.slot b _ m z2;exact⟨sl3,z3⟩
   exact⟨sl2,l.keep b _ m (na b o z) (no b o z) z2⟩
 . obtain⟨o1,z1⟩:=I.base.there b o z (by intro m;cases m);have n1:=I.base.free b o z nz (by intro m;cases m);show upd H2 a _ b=none;rw[Ag (na b o z)];exact un.free b o1 z1 n1 (by simp)
 . obtain⟨o1,z1⟩:=I.base.there b o z (by intro m;cases m);obtain⟨o2,z2⟩:=un.there b o1 z1 (by simp);exact l.there b o2 z2
 . exact hu b _ (un.tups b xs (I.base.tups b xs z)) (λe=>nomatch e)
 . exact hu b _ (un.frzs b o u (I.base.frzs b o u z)) (λe=>nomatch e)
 obtain⟨m1,z1⟩:=I.base.tbls b ps z;obtain⟨m2,z2⟩:=un.tbls b _ z1;exact⟨m1++m2,by rw[<- Array.append_assoc];exact hu b _ z2 (λe=>nomatch e)⟩
theorem ax2 (hfr:scope.kind ≠ .module)(hE:∀ a H C od,H a=some (exG false a C od)->E (.ref a) none H->E (.ref a) none (upd H a (exG false a C od))):Lg (CX1 P w) (Vw (CX1 P w) P w K mg base N qual scope f cd A outer s₀ H₀ E) E:=by
 intro pins σ H1 s1 e s' I hq;obtain ⟨a,C,od,H2,rfl,os,bare,un,ok,ha,hn,⟨oe,vs,T,oT,ts,t1,t2,t3,t4,t5,t6,t7,t8,t9⟩,q⟩:=hq
 have hn0:s₀.heap.get? a=none:=by
  cases z:s₀.heap.get? a with
  |none=>rfl
  |some o=>obtain⟨o1,z1⟩:=I.base.there a o z (by intro m;cases m);rw[hn] at z1;cases z1
 have hT0:s₀.heap.get? T=none:=by
  cases z:s₀.heap.get? T with
  |none=>rfl
  |some o=>obtain⟨o1,z1⟩:=I.base.there T o z (by intro m;cases m);rw[t9] at z1;cases z1
 have fun2:s'.heap.FunFrames base (envOfC qual scope s₀.heap.objs.size f cd :: outer):=Wl I.stack λb hb o ho=>un.any ho (I.stkFree b hb) (by simp);refine ai5 (base:=base) (L:=s₀.heap.objs.size) (I.ok.frames) fun2 rfl t1 t2 t3 t4 t5 t6 t7 λh3 l=>?_;exact am5 I os bare un ok ha t1 hn0 (λb hb=>by simp at hb;subst hb;exact⟨t8,hT0⟩) l (hE a H2 C od ha q)
theorem Ul {H:Hp}{a:Addr}{o:HO}(h:H a=some o):upd H a o=H:=by
 funext b;unfold upd
 split
 . rename_i e;rw[e,h]
 rfl
theorem Zb:Lg (CX1 P w) (Vw (CX1 P w) P w K mg base N qual scope f cd A outer s₀ H₀ E) E:=by intro pins σ H1 s1 e s' I hq;exact ax2 (by have:=I.ok.kind;show scope.kind≠_;rw[show scope.kind = .function from this];decide) (λa H C od h q=>by rw[Ul h];exact q) pins σ H1 s1 e s' I hq
def Y2 (K:W.Frag)(H0:Hp)(E:XK)(x:V)(H1:Hp):Prop:=∃ a C od,x = .ref a/\H1 a=some (exO a C od)/\XC K C/\H0 a=none/\E (.ref a) none (upd H1 a (exG false a C od))
def ab0 (K:W.Frag)(H0:Hp)(E:XK)(t:TE):TS:=λD σ H=>t σ H λx H1=>Y2 K H0 E x H1
theorem a64 {ex:Expr}{t:TE}{pos:Pos}{X:Cx}(hX:X=Vw (CX1 P w) P w K mg base N qual scope f cd A outer s₀ H₀ E)(he:PE X ex t):PS X (.Raise (some ex) none pos) (ab0 K H₀ E t):=by
 subst hX;intro pins s σ H D I h;rw[arm_exec_Raise];refine A00 (A4Z ?_);unfold raiseStmt;simp only[evalOpt,Option.map];refine A00 (A00 (thn (he pins s σ H _ I h) λv s1 ⟨x,H1,I1,rx,a,C,od,ex',ha,hc,h0,q⟩=>A00 (A4Z (A05 ?_))));subst ex';obtain rfl:v=Value.ref a:=rx;obtain⟨vs,sl,hx,hv⟩:=exO_ok.mp (I1.hok a _ ha);have hv:=hv rfl;obtain⟨nm,qn,N',bs,bm,sn,sub,ab,col,dd,k0,k1,k2,k3,k5,hl,htl⟩:=Kn hc.ex;have hC:=I1.kIn _ _ hl;have hcB:(Value.ref C :: bm).contains (.type "BaseException")=true:=by rw[A32,a99 (A31 I1.kIn htl),Bool.or_true]
 have fin:(Vw (CX1 P w) P w K mg base N qual scope f cd A outer s₀ H₀ E).xe (.ref a) s1:=by
  refine a75 (base:=base) (L:=s₀.heap.objs.size) I1.ok.frames I1.stack rfl hx rfl hv λh3 l=>?_
  have hn0:s₀.heap.get? a=none:=by
   cases z:s₀.heap.get? a with
   |none=>rfl
   |some o=>have:=I1.base.free a o z h0 (by intro m;cases m);rw[ha] at this;cases this
  exact am5 I1 rfl I1.bare Un.refl I1.hok ha hx hn0 (by simp) l q
 obtain⟨hh,g,d,tk,os⟩:=s1
 repeat (first | (with_reducible refine A2E hx ?_) | (with_reducible refine A2E hC ?_) | (with_reducible refine A4T hC ?_;rw[hcB]) | (with_reducible refine A22 hx rfl hv ?_) | wp_step)
 exact wpAny_raiseNew_none (I1.ok.hd rfl) fin
end
section
variable {X:Cx}{pins:List (Addr×Obj)}{σ:St}{H:Hp}{s:Shared}
theorem Ol {M:Model}{A:Around}{E:Value->Shared->Prop}{i:Nat}{x:Str}{pos:Pos}{Q:Unit->Shared->Prop}(I:Inv X pins σ H s)(hN:X.N.Nodup)(hi:X.N[i]? = some x)(hk:X.env.scope.names.lookup x=some .local)
  (h:∀ s',Inv X pins (σ.set i none) H s'->Q () s'):wpAny M A (do bindName X.env x .none;unbindBehindTheSuite X.env x pos) Q E s:=by
 refine A00 (wpAny_bindName (L8 (v:=.non) (u:=.none) I hN hi (.inl hk) rfl (λs1 I1=>?_) (.inr hk)));unfold unbindBehindTheSuite;refine wpAny_onRaise ?_;obtain⟨m,hn,hl⟩:=id I1.loc;have hcls:(X.env.scope.kind == .class||(X.env.scope.kind == .module&&X.env.locals != X.env.globals))=false:=by rw[I1.ok.kind];rfl
 have hiσ:i<σ.length:=by rw[I.len];exact(A03.mp hi).1
 obtain⟨u,ru,lu⟩:=hl i x .non hi (A35 hiσ) (.inl hk)
 have hmx:m x=some u:=by
  rcases lu with ⟨_,z⟩|⟨z,_⟩
  . exact z
  have z':X.env.scope.names.lookup x=some .cell\/X.env.scope.names.lookup x=some .free:=z;rw[hk] at z';rcases z' with z'|z'<;>cases z'
 refine wpAny_unbindName_local hk hn hmx hcls λh' w hn' hs=>h _ ?_;obtain⟨oL,_,_,hoL,_⟩:=id hn;have cne:=I1.cne;refine⟨I1.ok,I1.os,I1.bare,⟨λb o e n hb hx=>?_,λb o e n hb hx=>?_,I1.base.free,λb o e hx=>?_,I1.base.tups,I1.base.frzs,I1.base.tbls⟩,⟨_,hn',λj y v' e1 e2 e3=>?_⟩,λy c e=>?_,I1.free,I1.freeC,λp hp=>?_,λb ob e=>?_,by simpa using I.len⟩
 . exact(hs.2 b (A10 (A0S (A0D e) I1.ok.above))).trans (I1.base.keep b o e n hb hx)
 . obtain⟨sl,e1⟩:=I1.base.slot b o e n hb hx;exact⟨sl,(hs.2 b (A10 (A0S (A0D e) I1.ok.above))).trans e1⟩
 . obtain⟨o',e1⟩:=I1.base.there b o e hx;exact⟨o',(hs.2 b (A10 (A0S (A0D e) I1.ok.above))).trans e1⟩
 . by_cases hj:j=i
   . subst hj;rw[A35 hiσ] at e2
     cases e2
   rw[A20 (Ne.symm hj)] at e2;obtain⟨u',r',q⟩:=hl j y v' e1 (by rw[A20 (Ne.symm hj)];exact e2) e3;refine⟨u',r',?_⟩;rcases q with ⟨k,e⟩|⟨k,c,e,z⟩
   . refine .inl ⟨k,?_⟩;have ne:y≠x:=λe=>hj (Oo hN e1 (e ▸ hi));simp[ne,e]
   exact .inr ⟨k,c,e,z.sameBut hs (cne y c e)⟩
 . obtain⟨w',z⟩:=I1.cell y c e;exact⟨w',z.sameBut hs (cne y c e)⟩
 . obtain⟨e,n,ne,nf,d⟩:=I1.pin p hp;exact⟨(hs.2 p.1 ne).trans e,n,ne,nf,d⟩
 refine(I1.hok b ob e).stay (λc w' hc q=>(hs.2 c ?_).trans q) (λ_ q=>q) λ_ _ q=>q;rintro rfl;rcases hc with hc|hc
 . rw[<- hc] at e;rw[I1.free] at e;cases e
 rw[I1.free] at hc;cases hc
abbrev Cx.tri (X:Cx)(pins:List (Addr×Obj))(E:Value->Shared->Prop):Cx:={X with xe:=E,pn:=X.pn++pins}
abbrev Cx.hnd (X:Cx)(a:Addr)(E:Value->Shared->Prop):Cx:={X with A:=X.A.mark (some (.ref a)),calm:=false,xe:=E}
theorem Inv.tri (I:Inv X pins σ H s)(E:Value->Shared->Prop):Inv (X.tri pins E) [] σ H s:=
 ⟨⟨I.ok.mod,I.ok.kind,I.ok.glob,I.ok.blt,I.ok.above,I.ok.inj,I.ok.has,I.ok.cab,I.ok.hd,I.ok.frames,I.ok.stk,I.ok.exf,I.ok.bs,I.ok.bsz,I.ok.noex,I.ok.exfs,I.ok.funs,I.ok.frf⟩,I.os,I.bare,I.base,I.loc,I.cell,I.free,I.freeC,λp hp=>I.pin p (by simpa using hp),I.hok,I.len⟩
theorem Inv.untri {E:Value->Shared->Prop}{more:List (Addr×Obj)}(I:Inv (X.tri pins E) more σ H s):Inv X pins σ H s:=
 ⟨⟨I.ok.mod,I.ok.kind,I.ok.glob,I.ok.blt,I.ok.above,I.ok.inj,I.ok.has,I.ok.cab,I.ok.hd,I.ok.frames,I.ok.stk,I.ok.exf,I.ok.bs,I.ok.bsz,I.ok.noex,I.ok.exfs,I.ok.funs,I.ok.frf⟩,I.os,I.bare,I.base,I.loc,I.cell,I.free,I.freeC,λp hp=>I.pin p (A0T _ hp),I.hok,I.len⟩
theorem Inv.hnd (I:Inv X pins σ H s)(a:Addr)(E:Value->Shared->Prop):Inv (X.hnd a E) pins σ H s:=
 ⟨⟨I.ok.mod,I.ok.kind,I.ok.glob,I.ok.blt,I.ok.above,I.ok.inj,I.ok.has,I.ok.cab,λz=>Bool.noConfusion z,I.ok.frames,I.ok.stk,I.ok.exf,I.ok.bs,I.ok.bsz,I.ok.noex,I.ok.exfs,I.ok.funs,I.ok.frf⟩,I.os,I.bare,I.base,I.loc,I.cell,I.free,I.freeC,I.pin,I.hok,I.len⟩
theorem Inv.unhnd {a:Addr}{E:Value->Shared->Prop}(hd:X.calm=true->X.A.handled=none)(I:Inv (X.hnd a E) pins σ H s):Inv X pins σ H s:=
 ⟨⟨I.ok.mod,I.ok.kind,I.ok.glob,I.ok.blt,I.ok.above,I.ok.inj,I.ok.has,I.ok.cab,hd,I.ok.frames,I.ok.stk,I.ok.exf,I.ok.bs,I.ok.bsz,I.ok.noex,I.ok.exfs,I.ok.funs,I.ok.frf⟩,I.os,I.bare,I.base,I.loc,I.cell,I.free,I.freeC,I.pin,I.hok,I.len⟩
end
section
variable {M:Model}{A:Around}{E:Value->Shared->Prop}{s:Shared}{K:W.Frag}{C B a:Addr}{oe:Obj}{Q:Bool->Shared->Prop}
theorem a68 (X:K.In s.heap)(c:XC K C)(b:XC K B)(hm:W.mroIn K C (.ref B)=some true)(he:s.heap.get? a=some oe)(hc:oe.cls = .ref C)(hq:Q true s):wpAny M A (excMatches (.ref a) (.ref B)) Q E s:=by
 obtain⟨nm,qn,N,bs,bm,sn,sub,ab,col,dd,k0,k1,k2,k3,k5,hl,htl⟩:=Kn b.ex;have hB:=X _ _ hl;have hcB:(Value.ref B :: bm).contains (.type "BaseException")=true:=by rw[A32,a99 (A31 X htl),Bool.or_true]
 have f:=tc_notTuple;have l1:W.Looks M s.heap (isSubtype (.ref C) (.ref B)) true:=A4U X hm;obtain⟨h,g,d,t,os⟩:=s;unfold excMatches
 repeat (first | (with_reducible refine A2E he ?_;rw[hc]) | (with_reducible refine A2E hB ?_) | (with_reducible refine A4T hB ?_;rw[hcB]) | (with_reducible refine l1.at ?_) | wp_step)
 exact hq
end
def tryE (G:Addr->Hp->Prop):XK:=λv _ H'=>∃ a,v = .ref a/\G a H'
def sTry (K:W.Frag)(len i:Nat)(B:Addr)(G:Addr->Hp->Prop)(tb th:TS):TS:=λD σ H=>tb D σ H/\∀(a:Addr) (H':Hp) (σ':St),σ'.length=len->G a H' ->
 (∃ C od,H' a=some (exG false a C od)/\XC K C/\W.mroIn K C (.ref B)=some true) /\
  th {nx:=fun σ2 H2=>D.nx (σ2.set i none) H2,rt:=D.rt,bk:=fun σ2 H2=>D.bk (σ2.set i none) H2,ct:=fun σ2 H2=>D.ct (σ2.set i none) H2} (σ'.set i (some (.ref a))) H'
section
variable {X:Cx}{pins:List (Addr×Obj)}
theorem SP.untri {E:Value->Shared->Prop}{D:Ends}{f:Flow}{s':Shared}(h:SP (X.tri pins E) [] D f s'):SP X pins D f s':=by
 cases f with
 |next=>obtain⟨σ',H',I,q⟩:=h;exact⟨σ',H',I.untri,q⟩
 |brk=>obtain⟨σ',H',I,q⟩:=h;exact⟨σ',H',I.untri,q⟩
 |cont=>obtain⟨σ',H',I,q⟩:=h;exact⟨σ',H',I.untri,q⟩
 |ret u=>obtain⟨v,σ',H',I,r,q⟩:=h;exact⟨v,σ',H',I.untri,r,q⟩
theorem af0 {ts:Array Value}(h:ts[3]? = some .none):ts.setIfInBounds 3 .none=ts:=by
 obtain⟨h1,h2⟩:=A24.mp h;refine Array.ext (by simp) λj j1 j2=>?_;rw[Array.getElem_setIfInBounds]
 split
 . rename_i e;subst e;exact h2.symm
 rfl
theorem ao1 {body suite:List Stmt}{b0:Stmt}{tb th:TS}{n bx:Str}{i:Nat}{B:Addr}{p1 p2 pos:Pos}(G:Addr->Hp->Prop)(hN:X.N.Nodup)(hi:X.N[i]? = some n)(hk:X.env.scope.names.lookup n=some .local)(hg:Gl X bx)(hm:X.mg bx=some (.ref B))(hB:XC X.K B)
  (hst:X.stack=X.env :: X.outer) (hf:X.env.frame=some X.env.locals) (hex:X.ex=[])
  (hb:∀ ps xe,Lg (CX1 X.prog X.w) (X.tri ps xe) (tryE G)->PSs (X.tri ps xe) body tb) (hs:∀ a xe,PSs (X.hnd a xe) (b0 :: suite) th) (hd:(bx==("__debug__":Str))=false:=by decide) :
  PS X (.Try body [.ExceptHandler (some (.Name bx p1)) (some n) (b0 :: suite) p2] [] [] pos) (sTry X.K X.N.length i B G tb th):=by
 intro pins s σ H D I h;refine wpAny_Try_except ?_;refine A1P (hb pins _ ?_ [] s σ H D (I.tri _) h.1) (λf s1 hs1=>?_) λe s1 he=>he
 . intro pins2 σ2 H2 s2 e s3 I2 hq;obtain⟨a,C',od',H3,rfl,os,bare,un,ok,ha',hn,⟨oe,vs,T,oT,ts,t1,t2,t3,t4,t5,t6,t7,t8,t9⟩,a',ea,q⟩:=hq
   cases ea;have J2:Inv X pins σ2 H2 s2:=I2.untri;obtain⟨⟨C,od,ha,hc,hmro⟩,q3⟩:=h.2 a H3 σ2 (by rw[J2.len]) q;have un':Un (frs X.stack) [] H2 H3 s2.heap s3.heap:=un
   have fun3:s3.heap.FunFrames X.base (X.env :: X.outer):=by have:=Wl (h':=s3.heap) J2.stack λb hb o ho=>un'.any ho (J2.stkFree b hb) (by simp);rwa[hst] at this
   have fr3:∀ b∈frs X.stack,H3 b=none:=λb hb=>by obtain⟨_,o,ho,_⟩:=J2.stack.mem hb;exact un'.free b o ho (J2.stkFree b hb) (by simp)
   refine Vg (base:=X.base) (L:=X.env.locals) (by have:=J2.ok.frames;rwa[hst] at this) fun3 hf t1 t2 t3 t4 t5 t6 t7 λh4 l=>?_;rw[<- hst] at l
   have ok4:HOk X.prog X.w H3 h4:=by have:=l.hok ok t1 ha fr3 (λb hb=>by simp at hb;subst hb;exact t8);rwa[Ul ha] at this
   have un4:Un (frs X.stack) [] H2 H3 s2.heap h4:=by
    have na:∀ b o,s2.heap.get? b=some o->b≠a:=λb o z e=>by rw[e,hn] at z;cases z
    have nT:∀ b o,s2.heap.get? b=some o->b∉[T]:=λb o z e=>by simp at e;rw[e,t9] at z;cases z
    refine⟨λb o z nz hb hx=>l.keep b o hb (na b o z) (nT b o z) (un'.keep b o z nz hb hx),λb o z nz hb hx=>?_,un'.free,λb o z hx=>?_,un'.tups,un'.frzs,un'.tbls⟩
    . obtain⟨sl,z1⟩:=un'.slot b o z nz hb hx;obtain⟨sl2,z2⟩:=l.slot b _ hb z1;exact⟨sl2,z2⟩
    obtain⟨o1,z1⟩:=un'.there b o z hx;exact l.there b o1 z1
   have I4:Inv X pins σ2 H3 {s3 with heap:=h4}:=J2.call' (s':={s3 with heap:=h4}) (ch:=[]) os un4 ok4 bare (λb z=>absurd z (by simp))
   obtain⟨us,sl4,he4,_⟩:=exG_ok.mp (ok4 a _ ha);obtain⟨oe',vs',T',oT',ts',q1,q2,q3',q4,q5,q6,q7,q8,q9,q10,q11⟩:=l.tr;have hd4:X.calm=true->X.A.handled=none:=I.ok.hd;refine wpAny_handleBy_cons (codeAny_handlers_test ?_) (by intro q;cases q);refine Ov (X:=X.hnd a λ_ _=>False) (I4.hnd a _) hg hm ?_ hd;refine a68 (s:={s3 with heap:=h4}) I4.kIn hc hB hmro he4 rfl ?_
   refine codeAny_handlers_suite_as ?_;have hz:3<ts'.size:=(A24.mp q11).1;refine wpAny_setFlight_none q1 q5 q6 q9 q10 hz ?_
   have same:∀ b u,h4.get? b=some u->(h4.update T' (Obj.mapFields (·.setIfInBounds 3 .none))).get? b=some u:=λb u z=>by
    by_cases e:b=T'
    . subst e;rw[q9] at z;cases z;rw[A3D _ q9 (A3E (A52 q10 _))];obtain⟨c1,d1,dt1,s1'⟩:=oT';dsimp only at q10;subst q10;refine congrArg some ?_;show Obj.mk c1 d1 (Data.fields (ts'.setIfInBounds 3 .none)) s1'=_;rw[af0 q11]
    rw[A1V _ _ (Ne.symm e)];exact z
   have I5:Inv X pins σ2 H3 {s3 with heap:=h4.update T' (Obj.mapFields (·.setIfInBounds 3 .none))}:=I4.kept (t':=s3.toks) same
   refine L8 (X:=X) (v:=.ref a) I5 hN hi (.inl hk) rfl (λs6 I6=>?_) (.inr hk);refine thn (hs a _ pins s6 _ H3 _ (I6.hnd a _) q3) λf s7 h7=>?_
   cases f with
   |next=>obtain⟨σ7,H7,I7,q7'⟩:=h7;exact Ol (I7.unhnd hd4) hN hi hk λs8 I8=>⟨_,_,I8,q7'⟩
   |brk=>obtain⟨σ7,H7,I7,q7'⟩:=h7;exact Ol (I7.unhnd hd4) hN hi hk λs8 I8=>⟨_,_,I8,q7'⟩
   |cont=>obtain⟨σ7,H7,I7,q7'⟩:=h7;exact Ol (I7.unhnd hd4) hN hi hk λs8 I8=>⟨_,_,I8,q7'⟩
   |ret u=>obtain⟨v,σ7,H7,I7,r7,q7'⟩:=h7;exact Ol (I7.unhnd hd4) hN hi hk λs8 I8=>⟨v,_,_,I8,r7,q7'⟩
 have hs1:=hs1.untri
 cases f with
 |next=>exact A05 hs1
 |brk=>exact hs1
 |cont=>exact hs1
 |ret u=>exact hs1
end
def ak6 (P:Program)(w:World)(K:W.Frag)(mg:Str->Option Value)(base:Heap)(k:Nat)(x:Str)(ps:List Str)(sp:Sp):Prop:=
 ∃ f fd,FnOk P w K mg base (CX1 P w) k f fd ps sp/\mg x=some (.ref f)/\W.keepIn K (.ref f)=true/\Binds K fd ps []
section
variable {X:Cx}{k:Nat}{x:Str}{ps:List Str}{sp:Sp}{e:Expr}{es:List Expr}{t:TA}{p pos:Pos}{E:XK}
theorem To (F:ak6 X.prog X.w X.K X.mg X.base k x ps sp)(hr:Room k X.A)(hg:Gl X x)(hx:Lg (CX1 X.prog X.w) X E)(ha:PA X (e :: es) t)(hdb:(x==("__debug__":Str))=false:=by decide)
  (he:starEach (e :: es) X.env=(false,eval e X.env) :: starEach es X.env:=by ac_nf) (hpl:(backTo pos (starEach es X.env)).any (·.1)=false:=by ac_nf):PE X (.Call (.Name x p) (e :: es) [] pos) (a72 sp [] E t):=by
 obtain⟨f,fd,h1,h2,h3,h4⟩:=F;exact X6 h1 hr hg h2 h3 h4 .nil hx ha hdb he hpl
end
section
variable {P:Program}{w:World}{K:W.Frag}{mg:Str->Option Value}{base:Heap}
theorem Fun.ok1 {x qual:Str}{st:Stmt}{f:Addr}{fd:FuncData}{N ps:List Str}{k:Nat}{sp:Sp}(F:Fun K x qual st f fd)(S:Ar N ps (A5 st))(len:∀ vs H Q E,sp vs H Q E->vs.length=ps.length)
  (hbody:∀(cdv:Value) (A:Around) (outer:List Env) (s:Shared) (H:Hp) (vs:List V) (Q:VK) (E:XK),Room k (A.deeper (envOfC qual (A5 st) s.heap.objs.size f cdv))->sp vs H Q E ->
   ∃ t,PSs (Vw (CX1 P w) P w K mg base N qual (A5 st) f cdv A outer s H E) (Ai st) t/\t {nx:=λ_ H'=>Q .non H',rt:=Q} (start N vs) H):FnOk P w K mg base (CX1 P w) (k+1) f fd ps sp:=by
 obtain⟨oc,od,kV,doc,pm,an,cdv,ct,osl,rfl,lk,hcd⟩:=F.ex;exact aj3 lk hcd S len λA outer s H vs Q E hr hsp=>hbody cdv A outer s H vs Q E hr hsp
end
section
variable {K:W.Frag}{σ:St}{H H0:Hp}{D:Ends}{t:TE}{C a:Addr}{fs:List (Str×V)}{E:XK}
theorem i_sRaise (k:t σ H λx H1=>Y2 K H0 E x H1):ab0 K H0 E t D σ H:=k
theorem ai7 (h:ExA H a C fs)(c:XC K C)(h0:H0 a=none)(k:∀ H2,(∀ b o,b≠a->H b=some o->H2 b=some o)->ExB false H2 a C fs->E (.ref a) none H2):Y2 K H0 E (.ref a) H:=by
 have kp:∀ od b o,b≠a->H b=some o->upd H a (exG false a C od) b=some o:=λod b o hb q=>by rw[Ag hb];exact q
 rcases h with ⟨e1,h⟩|⟨dx,ne,h,g⟩
 . exact⟨a,C,none,rfl,h,c,h0,k _ (kp _) (.inl ⟨e1,A9⟩)⟩
 exact⟨a,C,some dx,rfl,h,c,h0,k _ (kp _) (.inr ⟨dx,ne,A9,kp _ _ _ ne g⟩)⟩
end
section
open Lean
def mWay (s:String):MacroM (TSyntax `tactic):=
 if s == "as" then `(tactic| assumption) else if s == "ar" then `(tactic| with_reducible assumption) else `(tactic| walk_at $(quote s))
def a09 (ts:Array (TSyntax `tactic)):MacroM (TSyntax `tactic):=do
 let ts <- ts.mapM λt=>`(Lean.Parser.Tactic.tacticSeq| $t:tactic)
 `(tactic| first $[| $ts]*)
def mId (s:String):Ident:=mkIdent ((s.splitOn ".").foldl Name.mkStr Name.anonymous)
def mIs (s:String):MacroM Ident:=do return mkIdent (<- Macro.addMacroScope (.mkSimple s))
def Wu:List String->TSyntax `tactic->MacroM (TSyntax `tactic)
 | [],t=>pure t
 |s :: r,t=>do
   match s.splitOn "=" with
   | [x,y]=>let w <- mWay y;let i <- mIs x;Wu r (<- `(tactic| ($t:tactic;(case $i:ident=>$w:tactic))))
   |_=>Wu r t
def mRow (s:String):MacroM (TSyntax `tactic):=do
 match s.splitOn ": " with
 | [h,c]=>
   match h.splitOn " " with
   |f :: as=>
     let xs <- as.toArray.mapM λa=>do if a == "_" then `(?_) else `(?$(<- mIs a))
     let u:=Syntax.mkApp (mId f) xs
     let t <- if as.contains "_" then `(tactic| with_reducible refine' $u) else `(tactic| refine' $u)
     Wu (c.splitOn " ") t
   |_=>Macro.throwUnsupported
 |_=>do
   if s == "as" then `(tactic| assumption)
   else if s == "no" then `(tactic| fail "no")
   else `(tactic| exact $(mId s))
def mRows (s:String):MacroM (TSyntax `tactic):=do a09 (<- (s.splitOn " | ").toArray.mapM mRow)
def mAlts (s:String):MacroM (TSyntax `tactic):=do
 let a <- a09 (<- (s.splitOn " ").toArray.mapM λn=>`(tactic| refine $(mId n) ?_))
 `(tactic| with_reducible $a:tactic)
def mAltG (s:String):MacroM (TSyntax `tactic):=do
 let a <- a09 (<- (s.splitOn " ").toArray.mapM λn=>`(tactic| refine $(mId n) λN hN=>?_))
 `(tactic| with_reducible $a:tactic)
end
section
open PySem
theorem same_refl {H:Hp}:Same H H:=Same.refl _
theorem fz_refl {H:Hp}:Fz H H:=Fz.refl _
theorem ne_none2 {H:Hp}{a b:PySem.Addr}{o:HO}(h:H a=some o)(g:H b=none):b≠a:=Ne.symm (ne_of_none h g)
def Cut (N M:St->Hp->Prop):Prop:=∀ σ H,M σ H->N σ H
section
variable {t u:TS}{te td ty tv:TE}{g:TG}{D:Ends}{σ:St}{H:Hp}
theorem at7 (k:∀ N:St->Hp->Prop,Cut N (u D)->t {D with nx:=N} σ H):aw3 t u D σ H:=k (u D) λ_ _ h=>h
theorem i_seqAG (k:∀ N:St->Hp->Prop,Cut N (u D)->ak5 te g {D with nx:=N} σ H):aw3 (ak5 te g) u D σ H:=k (u D) λ_ _ h=>h
theorem i_nxS {i:Nat}{rt:VK}{bk ct:St->Hp->Prop}(k:D.nx (σ.set i none) H):Ends.nx {nx:=fun σ2 H2=>D.nx (σ2.set i none) H2,rt:=rt,bk:=bk,ct:=ct} σ H:=k
theorem i_cutN {N M:St->Hp->Prop}(h:Cut N M)(k:M σ H):N σ H:=h _ _ k
end
theorem at8 {α:Type}{P:List α->Prop}{us:List α}(hl:us.length=0)(h:P []):P us:=by rw[A1E.mp hl];exact h
theorem ab4 {α:Type}{P:List α->Prop}{us:List α}(hl:us.length=1)(h:∀ a0:α,P [a0]):P us:=by
 cases us with
 |nil=>cases hl
 |cons a r=>exact at8 (P:=λr=>P (a :: r)) (Nat.succ.inj hl) (h a)
theorem a95 {α:Type}{P:List α->Prop}{us:List α}(hl:us.length=2)(h:∀ a0 a1:α,P [a0,a1]):P us:=by
 cases us with
 |nil=>cases hl
 |cons a r=>exact ab4 (P:=λr=>P (a :: r)) (Nat.succ.inj hl) (h a)
theorem as6 {α:Type}{P:List α->Prop}{us:List α}(hl:us.length=3)(h:∀ a0 a1 a2:α,P [a0,a1,a2]):P us:=by
 cases us with
 |nil=>cases hl
 |cons a r=>exact a95 (P:=λr=>P (a :: r)) (Nat.succ.inj hl) (h a)
end
section
variable {K:W.Frag}{x qual:Str}{st:Stmt}{f:Addr}{fd:FuncData}
theorem Ir {p0:Str}(F:Fun K x qual st f fd)(h:∀(kV doc pm:Value) (an:Option Addr) (cdv ct:Value) (u0:Value),bindArgs (W.fnOf x qual (Am st) (Ai st) (A5 st) .none kV doc pm an cdv ct) ⟨[u0],[]⟩=pure (([p0]:List Str).zip [u0])):Binds K fd [p0] []:=
 F.binds λkV doc pm an cdv ct us hl=>ab4 (P:=λus=>bindArgs (W.fnOf x qual (Am st) (Ai st) (A5 st) .none kV doc pm an cdv ct) ⟨us,[]⟩=pure (([p0]:List Str).zip us)) hl (h kV doc pm an cdv ct)
theorem Gc {p0 p1:Str}(F:Fun K x qual st f fd)(h:∀(kV doc pm:Value) (an:Option Addr) (cdv ct:Value) (u0 u1:Value),bindArgs (W.fnOf x qual (Am st) (Ai st) (A5 st) .none kV doc pm an cdv ct) ⟨[u0,u1],[]⟩=pure (([p0,p1]:List Str).zip [u0,u1])):Binds K fd [p0,p1] []:=
 F.binds λkV doc pm an cdv ct us hl=>a95 (P:=λus=>bindArgs (W.fnOf x qual (Am st) (Ai st) (A5 st) .none kV doc pm an cdv ct) ⟨us,[]⟩=pure (([p0,p1]:List Str).zip us)) hl (h kV doc pm an cdv ct)
theorem Iw {p0 p1 p2:Str}(F:Fun K x qual st f fd)(h:∀(kV doc pm:Value) (an:Option Addr) (cdv ct:Value) (u0 u1 u2:Value),bindArgs (W.fnOf x qual (Am st) (Ai st) (A5 st) .none kV doc pm an cdv ct) ⟨[u0,u1,u2],[]⟩=pure (([p0,p1,p2]:List Str).zip [u0,u1,u2])):Binds K fd [p0,p1,p2] []:=
 F.binds λkV doc pm an cdv ct us hl=>as6 (P:=λus=>bindArgs (W.fnOf x qual (Am st) (Ai st) (A5 st) .none kV doc pm an cdv ct) ⟨us,[]⟩=pure (([p0,p1,p2]:List Str).zip us)) hl (h kV doc pm an cdv ct)
end
def aq3 (K:W.Frag):R2:=λx y H Q=>∃ a b xs,x = .ref a/\y = .ref b/\SqL K H a xs/\SqL K H b []/\Q (.bl (!xs.isEmpty)) H
theorem Z9 {X:Cx}{K:W.Frag}(hq:QA X.A)(hK:X.K=K:=by ac_nf):OpR X (compareOp .NotEq) (aq3 K):=by
 subst hK;intro pins s σ H x y v u Q I rx ry h;obtain⟨a,b,xs,rfl,rfl,ha,hb,q⟩:=h
 cases rx
 cases ry;obtain⟨its,rv,la,_⟩:=I.list ha;obtain⟨its2,rv2,lb,_⟩:=I.list hb
 cases rv2;have hu:X.A.units<cLine:=by have:=hq.un;omega
 have la':s.heap.IsList a its.toArray:=let ⟨o,n,e1,e2,e3,e4⟩:=la;⟨o,e1,e2,_,e4⟩;have lb':s.heap.IsList b ([]:List Value).toArray:=let ⟨o,n,e1,e2,e3,e4⟩:=lb;⟨o,e1,e2,_,e4⟩
 cases xs with
 |nil=>cases rv;have r:=SeqAt.RcNeAt.lists (A:=X.A) (s:=s) (e:=λ_=>true) la' lb' rfl hu (λj h1=>absurd h1 (by simp));exact r _ _ _ _ ⟨.bl _,H,I,rfl,q⟩
 |cons x r=>
   cases rv with
   |cons r1 r2=>have r:=SeqAt.RcNeAt.lists_lengths (A:=X.A) (s:=s) la' lb' (by simp) hu;exact r _ _ _ _ ⟨.bl _,H,I,rfl,q⟩
theorem ab2 {K:W.Frag}{H:Hp}{Q:VK}{a b:Addr}{xs:List V}(h:SqL K H a xs)(h':SqL K H b [])(k:Q (.bl (!xs.isEmpty)) H):aq3 K (.ref a) (.ref b) H Q:=⟨a,b,xs,rfl,rfl,h,h',k⟩
section
open PySem.SeqAt PySem.MeetsSeq
variable {A:Around}{s:Shared}
end
section
variable {prog:Program}{w:World}{A:Around}{E:Value->Shared->Prop}{s:Shared}
set_option maxRecDepth 100000 in
end
section
variable {X:Cx}{pos p2:Pos}
end
section
variable {P:Program}{w:World}{A:Around}{E:Value->Shared->Prop}{z:Shared}
end
section
variable {X:Cx}{K:W.Frag}
end
section
variable {K:W.Frag}{H:Hp}{Q:VK}
end
section
variable {X:Cx}{pins:List (Addr×Obj)}{σ:St}{H:Hp}{s:Shared}
end
theorem ak2 {K:W.Frag}{H H':Hp}{d a:Addr}{kvs:List (Key×V)}{xs:List V}(hd:H d=some (.dK kvs))(e:ExtBut d H H')(h:SqL K H a xs):SqL K H' a xs:=by
 rcases h with h|h
 . refine e.seq (λz=>?_) (.inl h);subst z;rcases h with h|⟨o,h⟩
   . rw[hd] at h;cases h
   rw[hd] at h;cases h
 exact .inr h
mutual
theorem Is.off {K:W.Frag}{H H':Hp}{d:Addr}{kvs:List (Key×V)}(hd:H d=some (.dK kvs))(e:ExtBut d H H'):∀(D:PyData) (v:V),Is K H D v->Is K H' D v
 |.none,_,h=>by simp only[Is] at h ⊢;exact h
 |.bool _,_,h=>by simp only[Is] at h ⊢;exact h
 |.int _,_,h=>by simp only[Is] at h ⊢;exact h
 |.str _,_,h=>by simp only[Is] at h ⊢;exact h
 |.list ds,v,h=>by simp only[Is] at h ⊢;obtain⟨a,xs,e1,e2,e3⟩:=h;exact⟨a,xs,e1,ak2 hd e e2,IsL.off hd e ds xs e3⟩
 |.tuple ds,v,h=>by simp only[Is] at h ⊢;obtain⟨a,xs,e1,e2,e3⟩:=h;exact⟨a,xs,e1,(e.fzD hd).seq e2,IsL.off hd e ds xs e3⟩
 |.dict _,_,h=>by simp only[Is] at h
theorem IsL.off {K:W.Frag}{H H':Hp}{d:Addr}{kvs:List (Key×V)}(hd:H d=some (.dK kvs))(e:ExtBut d H H'):∀(ds:List PyData) (vs:List V),IsL K H ds vs->IsL K H' ds vs
 | [],_,h=>by simp only[IsL] at h ⊢;exact h
 |D :: ds,vs,h=>by simp only[IsL] at h ⊢;obtain⟨v,r,e1,e2,e3⟩:=h;exact⟨v,r,e1,Is.off hd e D v e2,IsL.off hd e ds r e3⟩
end
mutual
def ak9:PyData->Bool
 |.str z=>z.cps.toList.all λc=>decide (c<128)
 |.list ds=>a97 ds
 |.tuple ds=>a97 ds
 |.dict _=>false
 |_=>true
def a97:List PyData->Bool
 | []=>true
 |d :: ds=>ak9 d&&a97 ds
end
mutual
def ak4:PyData->Nat
 |.list ds=>max ds.length (a84 ds)
 |.tuple ds=>max ds.length (a84 ds)
 |_=>0
def a84:List PyData->Nat
 | []=>0
 |d :: ds=>max (ak4 d) (a84 ds)
end
structure Dk (p w W:Nat)(D:PyData):Prop where
 asc:ak9 D=true
 lay:D.canLay0=true
 sh:D.showable=true
 lv:D.leavesShort 45=true
 dp:D.depth<=p
 wt:D.weight<=w
 wd:ak4 D<=W
structure Els (p w W:Nat)(ds:List PyData):Prop where
 all:∀ e∈ds,∃ u,Dk p u W e
 wt:PyData.weightAll ds<=w
 len:ds.length<=W
theorem Dk.le {p w W p' w' W':Nat}{D:PyData}(h:Dk p w W D)(h1:p<=p')(h2:w<=w')(h3:W<=W':=by omega):Dk p' w' W' D:=⟨h.asc,h.lay,h.sh,h.lv,A0L h.dp h1,A0L h.wt h2,A0L h.wd h3⟩
theorem Wn {p W:Nat}:∀ {ds:List PyData},(∀ e∈ds,∃ u,Dk p u W e)->a97 ds=true/\PyData.canLayAll0 ds=true/\PyData.showableAll ds=true/\PyData.leavesShortAll 45 ds=true/\PyData.depthAll ds<=p/\a84 ds<=W
 | [],_=>⟨by simp only[a97],by simp only[PyData.canLayAll0],by simp only[PyData.showableAll],by simp only[PyData.leavesShortAll],by simp only[PyData.depthAll];omega,by simp only[a84];omega⟩
 |d :: ds,h=>by obtain⟨u,a⟩:=h d (by simp);obtain⟨b0,b1,b2,b3,b4,b5⟩:=Wn (ds:=ds) λe he=>h e (by simp[he]);have:=a.dp;have:=a.wd;exact⟨by simp only[a97,a.asc,b0,Bool.and_self],by simp only[PyData.canLayAll0,a.lay,b1,Bool.and_self],by simp only[PyData.showableAll,a.sh,b2,Bool.and_self],by simp only[PyData.leavesShortAll,a.lv,b3,Bool.and_self],by simp only[PyData.depthAll];omega,by simp only[a84];omega⟩
theorem Z4 {p W:Nat}:∀ {ds:List PyData},a97 ds=true->PyData.canLayAll0 ds=true->PyData.showableAll ds=true->PyData.leavesShortAll 45 ds=true->PyData.depthAll ds<=p->a84 ds<=W->∀ e∈ds,∃ u,Dk p u W e
 | [],_,_,_,_,_,_=>λe he=>by cases he
 |d :: ds,h0,h1,h2,h3,h4,h5=>λe he=>by
   simp only[a97,PyData.canLayAll0,PyData.showableAll,PyData.leavesShortAll,PyData.depthAll,a84,Bool.and_eq_true] at h0 h1 h2 h3 h4 h5;rcases A0H.mp he with rfl|he
   . exact⟨_,h0.1,h1.1,h2.1,h3.1,by omega,A06 _,by omega⟩
   exact Z4 h0.2 h1.2 h2.2 h3.2 ∅ ∅ e he
theorem Nb {p w W:Nat}{ds:List PyData}(h:Els p w W ds):Dk (p+1) w W (.tuple ds):=by obtain⟨a0,a1,a2,a3,a4,a5⟩:=Wn h.all;have:=h.len;exact⟨by simpa only[ak9] using a0,by simpa only[PyData.canLay0] using a1,by simpa only[PyData.showable] using a2,by simpa only[PyData.leavesShort] using a3,by simp only[PyData.depth];omega,by simpa only[PyData.weight] using h.wt,by simp only[ak4];omega⟩
theorem Dk.els {p w W:Nat}{ds:List PyData}(h:Dk (p+1) w W (.tuple ds)):Els p w W ds:=by obtain⟨a0,a1,a2,a3,a4,a5,a6⟩:=h;simp only[ak4,ak9,PyData.canLay0,PyData.showable,PyData.leavesShort,PyData.depth,PyData.weight] at a0 a1 a2 a3 a4 a5 a6;exact⟨Z4 a0 a1 a2 a3 ∅ ∅,a5,by omega⟩
def Asc (z:Str):Prop:=∀ c∈z.cps.toList,c<128
theorem Asc.ok {z:Str}(h:Asc z):PyData.strOk z=true:=by unfold PyData.strOk;rw[<- Array.all_toList,A26];intro c hc;have:=h c hc;exact A0P ∅
theorem Jx {p w W:Nat}{z:Str}(h:Asc z)(hl:z.length<=w):Dk p w W (.str z):=by
 refine⟨?_,by simpa only[PyData.canLay0] using h.ok,by simp only[PyData.showable],?_,by simp only[PyData.depth];omega,by simp only[PyData.weight];exact hl,by simp only[ak4];omega⟩
 . simp only[ak9];rw[A26];exact λc hc=>A0P (h c hc)
 simp only[PyData.leavesShort];rw[A26];intro c hc;have:=h c hc;exact A0P ∅
theorem Dk.shaped {p w W:Nat}{D:PyData}(h:Dk p w W D)(hp:p<=64):SeqAt.shaped D=true:=by have:=h.dp;unfold SeqAt.shaped;rw[h.lay,A0P ∅];rfl
section
variable {X:Cx}{K:W.Frag}
end
section
variable {prog:Program}{w:World}{A:Around}{E:Value->Shared->Prop}{s:Shared}
end
section
variable {P:Program}{w:World}{A:Around}{R:Result->Shared->Prop}{it:Addr}{fp wr:List Addr}{G:Array GenState->Array GenState->Prop}{n:Nat}{PV:Nat->Value->Prop}{St:Nat->Shared->Prop}
end
section
variable {prog:Program}{w:World}{A:Around}{E:Value->Shared->Prop}{s:Shared}
set_option maxHeartbeats 3200000 in
end
section
variable {X:Cx}{K:W.Frag}
end
end L2
namespace L2
open PySem PySem.Spec PyProof.Rows
open Builtin
section
variable {X:Cx}{K:W.Frag}
end
end L2
namespace L2
open PySem PySem.Spec PyProof.Rows
section
variable {P:Program} {w:World} {K:W.Frag} {mg:Str->Option Value} {base:Heap} {k:Nat} {f:Addr} {fd:FuncData} {ps:List Str} {sp sp':Sp}
end
theorem M1:∀(k fuel n:Nat) (ds:List Char),1<=k->n<10 ^ k->(Nat.toDigitsCore 10 fuel n ds).length<=ds.length+k
 |_,0,n,ds,_,_=>by simp[Nat.toDigitsCore]
 |k,fuel+1,n,ds,hk,hn=>by
   unfold Nat.toDigitsCore;dsimp only
   split
   . simp;omega
   rename_i h0
   cases k with
   |zero=>omega
   |succ k=>
     have h1:n / 10<10 ^ k:=by rw[Nat.div_lt_iff_lt_mul ∅];rw[Nat.pow_succ] at hn;exact hn
     have hk1:1<=k:=by
      cases k with
      |zero=>simp at h1;omega
      |succ _=>omega
     have:=M1 k fuel (n / 10) (Nat.digitChar (n % 10) :: ds) hk1 h1;rw[A0V] at this;omega
theorem af8 (s:String):(s:Str).length=s.toList.length:=by show(Str.ofString s).cps.size=_;rw[Str.ofString_eq_byList];unfold Str.ofStringByList;simp
theorem Tt {n:Nat}(h:n<10 ^ 44):(Nat.repr n).toList.length<=44:=by unfold Nat.repr Nat.toDigits;have:=M1 44 (n+1) n [] ∅ h;simpa using this
theorem Zn {m:Int} (h:m.natAbs<10 ^ 44):(PyData.int m).shown.length<=45:=by
 simp only[PyData.shown];rw[af8]
 cases m with
 |ofNat n=>have:(toString (Int.ofNat n):String)=Nat.repr n:=rfl;rw[this];exact A0L (Tt h) ∅
 |negSucc n=>
   have:(toString (Int.negSucc n):String) = "-" ++ Nat.repr (n+1):=rfl;rw[this];have h2:=Tt (n:=n+1) h;rw[String.toList_append,A04];have:("-":String).toList.length=1:=by decide
   omega
theorem ad9 {m:Int}(h:m.natAbs<10 ^ 44):m.natAbs.log2<147:=by
 by_cases h0:m.natAbs=0
 . rw[h0];decide
 exact(Nat.log2_lt h0).mpr (A3W h nofun)
theorem Ti {p W:Nat}{m:Int}(h:m.natAbs<10 ^ 44):Dk p 150 W (.int m):=by
 have hl:=ad9 h;refine⟨by simp only[ak9],by simp only[PyData.canLay0],?_,?_,by simp only[PyData.depth];omega,?_,by simp only[ak4];omega⟩
 . simp only[PyData.showable];exact A0P ∅
 . simp only[PyData.leavesShort];exact A0P (Zn h)
 simp only[PyData.weight]
 split<;>omega
section
variable {P:Program}{w:World}{A:Around}{E:Value->Shared->Prop}{z:Shared}
end
section
variable {X:Cx}{K:W.Frag}
end
section
variable {K:W.Frag}{σ:St}{H:Hp}{Q:VK}
end
section
variable {X:Cx}{K:W.Frag}{H:Hp}{Q:VK}
end
theorem eqv_str_iff {e:PyData}{z:Str}:PyData.eqv e (.str z)=true↔e = .str z:=by
 cases e with
 |str y=>simp only[PyData.eqv,PyData.str.injEq];simp
 |_=>simp only[PyData.eqv];simp
theorem Nc:∀ {ds:List PyData} {row:List Str},PyData.eqvAll ds (row.map PyData.str)=true↔ds=row.map PyData.str
 | [],[]=>by simp[PyData.eqvAll]
 | [],_ :: _=>by simp[PyData.eqvAll]
 |_ :: _,[]=>by simp[PyData.eqvAll]
 |d :: ds,z :: row=>by simp only[List.map_cons,PyData.eqvAll,Bool.and_eq_true,eqv_str_iff,Nc,List.cons.injEq]
theorem eqv_row {ds:List PyData}{row:List Str}:PyData.eqv (.tuple ds) (nmD row)=true↔ds=row.map PyData.str:=by unfold nmD;simp only[PyData.eqv];exact Nc
section
variable {X:Cx}{K:W.Frag}
end
section
variable {α:Type}[DecidableEq α]
end
section
variable {X:Cx}{pins:List (Addr×Obj)}{σ:List (Option V)}{H:Hp}{s:Shared}{h':Heap}
theorem Re {g h:Heap}{L:Addr}(hb:∀ b o,g.get? b=some o->h.get? b=some o)(hb':∀ b o,g.get? b=some o->h'.get? b=some o){more:List (Addr×Obj)}(N:News g L h' (Ha g h L++more)):∀ b u,b≠L->h.get? b=some u->h'.get? b=some u:=λb u n e=>by
 cases hc:g.get? b with
 |some o=>
   have:=hb b o hc;rw[e] at this
   cases this;exact hb' b u hc
 |none=>exact(N (b,u) (A0T _ (M9 n hc e))).1
variable {K:W.Frag}
end
section
variable {α:Type}[DecidableEq α]
end
section
variable {α:Type}[DecidableEq α]
variable {β:Type}[DecidableEq β]
end
section
variable {X:Cx}{k:Nat}{x:Str}{ps:List Str}{sp:Sp}{e:Expr}{es:List Expr}{t:TA}{p pos:Pos}{E:St->XK}
end
section
variable {X:Cx}{pins:List (Addr×Obj)}
end
section
variable {α:Type}[DecidableEq α]
end
section
variable {ns ns':List Str}{ps ps':List (Str×Str)}
variable {qs:List (Str×Str)}
end
section
variable {M:Model}{A:Around}{E:Value->Shared->Prop}{s:Shared}{base:Heap}{env:Env}{outer:List Env}{L a:Addr}{oe:Obj}{vs:Array Value}{Q:Unit->Shared->Prop}
end
section
variable {P:Program}{w:World}{fs:List Addr}{a C:Addr}{od:Option Addr}{oe:Obj}{old:List Addr}{h h':Heap}{H:Hp}{n:Bool}
end
section
variable {P:Program}{w:World}{K:W.Frag}{mg:Str->Option Value}{base:Heap}{N:List Str}{qual:Str}{scope:Scope}{f:Addr}{cd:Value}{A:Around}{outer:List Env}{s₀:Shared}{H₀:Hp}{E:XK}
end
section
variable {X:Cx}{scope:Scope}{xs fr:List Str}{pins:List (Addr×Obj)}{σ:St}{H:Hp}{s:Shared}{js:List Nat}{fp:List Addr}
end
section
variable {X:Cx}{k:Nat}{C:Addr}{m:Str}{ps:List Str}{sp:Sp}{e o:Expr}{es:List Expr}{ta:TE}{t:TA}{p pos apos:Pos}{E:XK}
end
section
variable {σ:St}{H:Hp}{Q:VK}{C:Addr}{m:Str}{sp:Sp}{ta:TE}{t:TA}{E:XK}
end
section
variable {P:Program}{w:World}{K:W.Frag}{mg:Str->Option Value}{base:Heap}
end
section
variable {X:Cx}{k:Nat}{x:Str}{ps:List Str}{sp:Sp}{e:Expr}{es:List Expr}{t:TA}{p pos:Pos}
end
section
variable {X:Cx}
end
section
variable {α:Type}[DecidableEq α]{b:α->α->Bool}
end
theorem Sh {α:Type}{p:α->Bool}{l:List α}(h:∀ x∈l,p x=false):(l.filter p).length=0:=by rw[List.filter_eq_nil_iff.mpr λx hx=>by rw[h x hx];decide];rfl
section
variable {X:Cx}{K:W.Frag}
end
section
variable {K:W.Frag}{σ:St}{H:Hp}
end
section
variable {K:W.Frag}{H H':Hp}{x:V}{ns:List Str}{σ:St}{Q:VK}
def NmS (K:W.Frag)(H:Hp)(x:V)(ns:List Str):Prop:=∃ a,x = .ref a/\(SqL K H a (ns.map V.str)\/SqT K H a (ns.map V.str))
theorem NmS.same (h:NmS K H x ns)(e:Same H H'):NmS K H' x ns:=by obtain⟨a,rfl,h⟩:=h;exact⟨a,rfl,h.imp e.seq e.seqT⟩
theorem NmS.of (h:Is K H (nmD ns) x):NmS K H x ns:=by obtain⟨a,rfl,g⟩:=h.nm;exact⟨a,rfl,.inr g⟩
theorem Yc (h:NmS K H x ns)(k:Q (.int ns.length) H):Wi K [x] H Q:=by
 obtain⟨a,rfl,h | h⟩:=h
 . exact .inl ⟨.ref a,_,rfl,.inl ⟨_,h,rfl⟩,by rw[A01];exact k⟩
 exact av3 (Jy h) k
theorem aa8 {i:Int}{z:Str}(h:NmS K H x ns)(e:atI ns i=some z)(k:Q (.str z) H):Pw K x (.int i) H Q:=by
 obtain⟨a,rfl,h | h⟩:=h
 . refine ao0 h ?_ k;unfold atI at e ⊢;rw[A01]
   cases c:ixN ns.length i with
   |none=>rw[c] at e;cases e
   |some j=>rw[c] at e;show(ns.map V.str)[j]? = _;rw[A09,show ns[j]? = some z from e];rfl
 exact aw7 (Jy h) e k
theorem Ue {g:TG}{tt:TT}{te:TE}{k:Nat}{js:List Nat}(h:NmS K H x ns)(t:Str->Bool)(f:Str->PyData)(hf:∀ a,frz (f a)=true)(hz:ns.length<=1000000)
  (hs:∀(i:Nat) a H1 (R:VK) (R':Hp->Prop),ns[i]? = some a->Same H H1->(t a=true->∀ y H2,Same H1 H2->Is K H2 (f a) y->R y H2)->(t a=false->∀ H2,Same H1 H2->R' H2) ->
   g (.str a) (List.replicate k none++Mi σ js) H1 fun σ2 H2=>tt σ2 H2 λb H3=>if b=true then te σ2 H3 R else R' H3)
  (hd:∀ p ys H',H p=none->Same H H'->H' p=some (.lst ys)->IsL K H' ((ns.filter t).map f) ys->Q (.ref p) H'):Fw K x H λJ H1=>Oi k js g tt te σ J H1 Q:=by
 obtain⟨a,rfl,h | h⟩:=h
 . exact Us h t f hf hz hs hd
 exact ak1 (Jy h) t f hf hz hs hd
def NmX (K:W.Frag)(H:Hp)(q:Addr)(x:V)(ns:List Str):Prop:=∃ p,x = .ref p/\((p≠q/\H p=some (.lst (ns.map V.str)))\/SqT K H p (ns.map V.str))
theorem au8 {q:Addr}{o:HO}{t:Int}(hq:H q=some o)(h:NmS K H x ns)(h0:0<=t)(h1:t<=ns.length)(k:∀ y H',Same H H'->NmX K H' q y (ns.drop t.toNat)->Q y H'):ak7 K x (some t) none H Q:=by
 have hc:Kz (ns.map V.str) (some t) none=(ns.drop t.toNat).map V.str:=by rw[L3 h0 (by rw[A01];exact h1),A3K]
 obtain⟨a,rfl,h | h⟩:=h
 . exact Mu h λp H' hp e g=>k _ _ e ⟨p,rfl,.inl ⟨(ne_of_none hq hp).symm,by rw[<- hc];exact g⟩⟩
 exact M0 h λp H' e g=>k _ _ e ⟨p,rfl,.inr (by rw[<- hc];exact g)⟩
theorem aj8 {q:Addr}{g:TG}{tb:TS}{D:Ends}(h:NmX K H q x ns)(Pv:Nat->St->Hp->Prop)(h0:Pv 0 σ H)(hG:∀ i σ' H',Pv i σ' H'->ExtBut q H H'/\Fz H H')
  (hs:∀ i z σ' H',ns[i]? = some z->Pv i σ' H'->g (.str z) σ' H' fun σ2 H2=>tb {D with nx:=Pv (i+1),ct:=Pv (i+1),bk:=D.nx} σ2 H2) (hd:∀ σ' H',Pv ns.length σ' H'->D.nx σ' H') :
  Fw K x H λJ H1=>ak8 g tb D σ J H1:=by
 obtain⟨a,rfl,⟨hne,h⟩ | h⟩:=h
 . refine Mq (SqL.of h) (Ez Cv Pv h0 (λi σ' H' p=>SqL.of ((hG i σ' H' p).1 _ _ hne h)) (λi v σ' H' hx hi p=>?_) fun σ' H' p=>hd σ' H' (by rw[A01] at p;exact p));rw[A09] at hx
   cases hn:ns[i]? with
   |none=>rw[hn] at hx;cases hx
   |some z=>
     rw[hn] at hx
     cases hx;exact hs i z σ' H' hn p
 exact Ys (Jy h) Pv h0 (λi σ' H' p=>(hG i σ' H' p).2) hs hd
def HfS (K:W.Frag)(H:Hp)(x:V)(ns:List Str)(ps:List (Str×Str)):Prop:=∃ a nv pv,x = .ref a/\SqT K H a [nv,pv]/\NmS K H nv ns/\Is K H (psD ps) pv
theorem HfS.same {ps:List (Str×Str)}(h:HfS K H x ns ps)(e:Same H H'):HfS K H' x ns ps:=by obtain⟨a,nv,pv,rfl,h1,h2,h3⟩:=h;exact⟨a,nv,pv,rfl,e.seqT h1,h2.same e,Is.mono e _ _ h3⟩
theorem HfS.of {ps:List (Str×Str)}(h:Is K H (hfD ns ps) x):HfS K H x ns ps:=by
 obtain⟨a,xs,rfl,h1,h2⟩:=Is.tup h;obtain ⟨v1,q1,q2⟩:=h2.at (i:=0) rfl;obtain⟨v2,q3,q4⟩:=h2.at (i:=1) rfl;have q5:=h2.length
 match xs,q1,q3,q5 with
 | [y1,y2],q1,q3,_=>
   cases q1
   cases q3;exact⟨a,v1,v2,rfl,h1,.of q2,q4⟩
theorem a96 {ps:List (Str×Str)}(h:HfS K H x ns ps)(k:∀ v,NmS K H v ns->Q v H):Pw K x (.int 0) H Q:=by obtain⟨a,nv,pv,rfl,h1,h2,h3⟩:=h;exact .inl (.inr (.inl ⟨a,_,_,_,rfl,rfl,h1,Bz (j:=0) rfl,k _ h2⟩))
theorem an0 {ps:List (Str×Str)}(h:HfS K H x ns ps)(k:∀ v,Is K H (psD ps) v->Q v H):Pw K x (.int 1) H Q:=by obtain ⟨a,nv,pv,rfl,h1,h2,h3⟩:=h;exact .inl (.inr (.inl ⟨a,_,_,_,rfl,rfl,h1,Bz (j:=1) rfl,k _ h3⟩))
end
theorem Z6 {ns:List Str}{ps:List (Str×Str)}:∀(i:Nat) (row:List Str),row∈Eo (Ay ps) ns i [[]]->∀ y∈Fa ns row,∀ z∈ns,Ay ps y z=true->z∈Fa ns row
 |0,row,h,y,hy,z,hz,g=>by
   have:row=[]:=by simpa[Eo] using h
   subst this;exact List.mem_filter.mpr ⟨hz,by simp⟩
 |i+1,row,h,y,hy,z,hz,g=>by
   rw[Ga] at h;obtain⟨r,hr,h⟩:=A2J.mp h;obtain⟨w,hw,rfl⟩:=A0K.mp h;obtain⟨y1,y2⟩:=A0X.mp hy;have y3:y∉r++[w]:=by simpa using y2
   rw[A0E,not_or] at y3;have hyl:y∈Fa ns r:=List.mem_filter.mpr ⟨y1,by simpa using y3.1⟩;have hzl:=Z6 i r hr y hyl z hz g;refine A0X.mpr ⟨hz,?_⟩;have hzr:z∉r:=by simpa using (List.mem_filter.mp hzl).2
   have hzw:z≠w:=λq=>by
    subst q;rw[(mem_frF.mp hw).2 y hyl] at g
    cases g
   simp[hzr,hzw]
theorem a79 {ns:List Str}{ps:List (Str×Str)}(hm:∀ p∈ps,p.1∈ns/\p.2∈ns){i:Nat}{row:List Str}(h:row∈Eo (Ay ps) ns i [[]]) :
  ((Fa ns row).filter λz=>!decide (z∈(ps.filter λp=>decide (p.1∈Fa ns row)).map (·.2)))=frF (Ay ps) (Fa ns row):=by
 unfold frF;refine A39 λz hz=>?_;congr 1;rw[A1N,A3Z,A27];constructor
 . intro q;obtain⟨p,hp,rfl⟩:=A0K.mp q;obtain⟨p1,p2⟩:=A0X.mp hp;exact⟨p.1,A21 p2,wayB_iff.mpr (.one p1)⟩
 rintro⟨y,hy,g⟩;obtain⟨m,hm1,hm2⟩:=Way.last (wayB_iff.mp g);refine A0K.mpr ⟨(m,z),A0X.mpr ⟨hm1,A0P ?_⟩,rfl⟩;rcases hm2 with rfl|hm2
 . exact hy
 exact Z6 i row h y hy m (hm _ hm1).1 (wayB_iff.mpr hm2)
theorem Ki {ns:List Str}{ps:List (Str×Str)}(h:HalfW ns ps){x y:Str}(hx:x∈ns)(hy:y∈ns)(hxy:x≠y):cnt (Ay (ps++[(x,y)])) ns=0↔Ay ps y x=true:=by
 constructor
 . intro g
   cases c:Ay ps y x with
   |true=>rfl
   |false=>
     have c':¬ Way ps y x:=λq=>by rw[wayB_iff.mpr q] at c;cases c
     have hirr:=Qu h.irr (p:=(x,y)) (λq=>hxy q.symm) c';have:=M6 (b:=Ay (ps++[(x,y)])) (λz=>Vl (hirr z)) ah5 ns.length ns rfl h.nd;omega
 intro g;rw[Jg h hx hy];refine Sh λr hr=>?_;refine A0R λq=>?_;obtain⟨hp,ho⟩:=(Dc _ _ _ _ h.nd rfl).mp hr
 have h1:okR (Ay (ps++[(x,y)])) r:=by
  rw[K0 h.nd (h.more hx hy).mem hp];intro p hpp;rcases A0E.mp hpp with hpp|hpp
  . exact(K0 h.nd h.mem hp).mp ho p hpp
  have:p=(x,y):=by simpa using hpp
  rw[this];exact q
 have h2:r∈ext (Ay (ps++[(x,y)])) ns.length ns:=(Dc _ _ _ _ h.nd rfl).mpr ⟨hp,h1⟩;have h3:=(K0 h.nd h.mem hp).mp ho
 have hlt:∀ a b,Way ps a b->r.idxOf a<r.idxOf b:=λa b g=>by
  induction g with
  |one e=>exact h3 _ e
  |cons e _ ih=>exact A3W (h3 _ e) ih
 have:=hlt y x (wayB_iff.mp g);omega
def qsD (p:Str×Str)(m n:Nat):PyData:=.tuple [prD p,.tuple [.int ((m:Nat):Int),.int ((n:Nat):Int)]]
theorem Zg (p:Str×Str)(m n:Nat):frz (qsD p m n)=true:=by simp[qsD,frz,frzL,Iq]
def quR (ns:List Str)(A:Str->Str->Nat)(i m:Nat):List PyData:=(((ns.drop (i+1)).take m).filter λy=>decide (A (ns.getD i "") y≠0/\A y (ns.getD i "")≠0)).map λy=>qsD (ns.getD i "",y) (A (ns.getD i "") y) (A y (ns.getD i ""))
def quK (ns:List Str)(A:Str->Str->Nat)(k:Nat):List PyData:=(List.range k).flatMap λi=>quR ns A i ns.length
def quP (ns:List Str)(ps:List (Str×Str)):List PyData:=(unP ns ps).map λp=>qsD p (cnt (Ay (ps++[(p.1,p.2)])) ns) (cnt (Ay (ps++[(p.2,p.1)])) ns)
theorem ay7 {ns:List Str}{ps:List (Str×Str)}(h:HalfW ns ps){A:Str->Str->Nat}(hA:∀ x∈ns,∀ y∈ns,x≠y->(A x y≠0/\A y x≠0↔unB ps x y=true)/\(unB ps x y=true->A x y=cnt (Ay (ps++[(x,y)])) ns)):quK ns A ns.length=quP ns ps:=by
 unfold quP unP unK quK;rw[List.map_flatMap];rw[List.flatMap_def,List.flatMap_def];congr 1;refine A1X λi hi=>?_;have hi:i<ns.length:=A2K.mp hi;have hx:ns.getD i "" = ns[i]:=by simp[List.getD,List.getElem?_eq_getElem hi]
 have hxm:ns[i]∈ns:=A4D hi;unfold quR unR;rw[A1J,hx,A1W (by rw[A14];omega)]
 have hne:∀ y∈ns.drop (i+1),y∈ns/\ns[i]≠y:=λy hy=>by refine⟨(List.drop_sublist _ _).subset hy,λq=>?_⟩;obtain⟨j,hj⟩:=List.mem_iff_getElem?.mp hy;rw[A53] at hj;obtain⟨h1,h2⟩:=A03.mp hj;have:=(A1U h.nd).mp (h2.trans q.symm);omega
 have hf:((ns.drop (i+1)).filter λy=>decide (A ns[i] y≠0/\A y ns[i]≠0))=(ns.drop (i+1)).filter λy=>unB ps ns[i] y:=A39 λy hy=>by obtain⟨h1,h2⟩:=hne y hy;rw[A1N,A3Z];exact(hA _ hxm y h1 h2).1
 rw[hf];refine A1X λy hy=>?_;obtain⟨y1,y2⟩:=A0X.mp hy;obtain⟨h1,h2⟩:=hne y y1
 have hs:unB ps y ns[i]=true:=by have:=y2;unfold unB at this ⊢;rw[Bool.and_comm];exact this
 show qsD (ns[i],y) _ _=qsD (ns[i],y) _ _;rw[(hA _ hxm y h1 h2).2 y2,(hA y h1 _ hxm h2.symm).2 hs]
theorem X0 {ns:List Str}{ps:List (Str×Str)}(h:HalfW ns ps){x y:Str}(hx:x∈ns)(hy:y∈ns)(hxy:x≠y):(cnt (Ay (ps++[(x,y)])) ns≠0/\cnt (Ay (ps++[(y,x)])) ns≠0)↔unB ps x y=true:=by
 rw[Ne,Ne,Ki h hx hy hxy,Ki h hy hx hxy.symm];unfold unB
 cases Ay ps x y<;>cases Ay ps y x<;>simp
theorem Zd {ns:List Str}{ps:List (Str×Str)}(h:HalfW ns ps):quK ns (λx y=>((ext (Ay ps) ns.length ns).filter λr=>decide (r.idxOf x<r.idxOf y)).length) ns.length=quP ns ps:=by refine ay7 h λx hx y hy hxy=>?_;rw[<- Jg h hx hy,<- Jg h hy hx];exact⟨X0 h hx hy hxy,λ_=>rfl⟩
theorem Pk (ns:List Str)(A:Str->Str->Nat)(k:Nat):quK ns A (k+1)=quK ns A k++quR ns A k ns.length:=by unfold quK;rw[A4N,A3Q];simp
theorem Tk {ns:List Str}{A:Str->Str->Nat}{i m:Nat}{y:Str}(h:(ns.drop (i+1))[m]? = some y):quR ns A i (m+1)=quR ns A i m++if A (ns.getD i "") y≠0/\A y (ns.getD i "")≠0 then [qsD (ns.getD i "",y) (A (ns.getD i "") y) (A y (ns.getD i ""))] else []:=by
 unfold quR;rw[A18,h,A2A,A0N];congr 1
 by_cases c:A (ns.getD i "") y≠0/\A y (ns.getD i "")≠0
 . rw[A12 c];show(([y].filter λy=>decide (A (ns.getD i "") y≠0/\A y (ns.getD i "")≠0)).map _)=_;rw[A1F,A12 (by rw[A0P c])];rfl
 rw[A13 c]
 have:([y].filter λy=>decide (A (ns.getD i "") y≠0/\A y (ns.getD i "")≠0))=[]:=by rw[A1F,A13 (by rw[A0R c];decide)];rfl
 show(([y].filter λy=>decide (A (ns.getD i "") y≠0/\A y (ns.getD i "")≠0)).map _)=_;rw[this];rfl
theorem Ah {K:W.Frag}{H:Hp}{d:PyData}{ds:List PyData}{vs:List V}(h:IsL K H (d :: ds) vs):∃ v r,vs=v :: r/\Is K H d v/\IsL K H ds r:=by simpa only[IsL] using h
theorem Zw {α:Type}{K:W.Frag}{H:Hp}{f:α->PyData}{xs ys:List V}(hp:ys.Perm xs):∀ {S:List α},IsL K H (S.map f) xs->∃ S':List α,S'.Perm S/\IsL K H (S'.map f) ys:=by
 induction hp with
 |nil=>intro S h;exact⟨S,.refl _,h⟩
 |@cons x l1 l2 _ ih=>
   intro S h
   match S,h with
   | [],h=>simp only[List.map_nil,IsL] at h;cases h
   |s :: S,h=>
     obtain⟨v,r,e,h1,h2⟩:=Ah h
     cases e;obtain⟨S',q1,q2⟩:=ih h2;exact⟨s :: S',q1.cons _,.cons h1 q2⟩
 |@swap x y l=>
   intro S h
   match S,h with
   | [],h=>simp only[List.map_nil,IsL] at h;cases h
   | [s],h=>
     obtain⟨v,r,e,h1,h2⟩:=Ah h
     cases e;simp only[List.map_nil,IsL] at h2
     cases h2
   |s :: s2 :: S,h=>
     obtain⟨v,r,e,h1,h2⟩:=Ah h
     cases e;obtain⟨v',r',e',h1',h2'⟩:=Ah h2
     cases e';exact⟨s2 :: s :: S,.swap ..,.cons h1' (.cons h1 h2')⟩
 |trans p1 p2 ih1 ih2=>intro S h;obtain⟨S2,q1,q2⟩:=ih2 h;obtain⟨S1,q3,q4⟩:=ih1 q2;exact⟨S1,q3.trans q1,q4⟩
def crs (A B:List Str):List (Str×Str):=A.flatMap λx=>B.map λy=>(x,y)
theorem mem_crs {A B:List Str}{p:Str×Str}:p∈crs A B↔p.1∈A/\p.2∈B:=by
 unfold crs;rw[A2J];constructor
 . rintro⟨x,hx,h⟩;obtain⟨y,hy,rfl⟩:=A0K.mp h;exact⟨hx,hy⟩
 rintro⟨h1,h2⟩;exact⟨p.1,h1,A0K.mpr ⟨p.2,h2,rfl⟩⟩
theorem Xz (A B:List Str):(crs A B).length=A.length*B.length:=by
 unfold crs
 induction A with
 |nil=>simp
 |cons a A ih=>rw[A2O,A04,ih,A01,A0V,Nat.succ_mul];omega
section
variable {ns A B:List Str}{pA pB S:List (Str×Str)}
def Pt (rows:List (List Str))(x y:Str):Nat:=(rows.filter λr=>decide (r.idxOf x<r.idxOf y)).length
end
section
variable {prog:Program}{w:World}{A:Around}{E:Value->Shared->Prop}{s:Shared}{Q:Value->Shared->Prop}
end
section
variable {X:Cx}{pins:List (Addr×Obj)}{σ:List (Option V)}{H:Hp}{s:Shared}{h':Heap}
end
def Kk (c':Addr)(qual:Str):HO:=.ext λh=>h.CodeRec (.ref c') qual
def LamT (P:Addr)(line col:Nat)(qual:Str)(H:Hp):Prop:=H P=some (.tbl #[])\/∃ c',H P=some (.tbl #[rawInt line,rawInt col,.ref c'])/\H c'=some (Kk c' qual)
structure as9 (X:Cx)(c P:Addr):Prop where
 code:X.env.code = .ref c
 hd:W.CodeHd X.base c P
 bi:X.base.BuiltinsAt X.mg P
 gP:mainGlobals≠P
section
variable {X:Cx}{pins:List (Addr×Obj)}{σ:List (Option V)}{H:Hp}{s:Shared}{h':Heap}
theorem Jr {c':Addr}{qual:Str}{h1 h2:Heap}(x:h1.CodeRec (.ref c') qual)(k:∀ o,h1.get? c'=some o->h2.get? c'=some o):h2.CodeRec (.ref c') qual:=by
 obtain⟨c,oc,vs,tq,e0,e1,e2,e3⟩:=x
 cases e0;exact⟨c',oc,vs,tq,rfl,k _ e1,e2,e3⟩
theorem Inv.grown {P c':Addr}{ps more:Array Value}{qual:Str}{t':Nat}(I:Inv X pins σ H s)(hP:H P=some (.tbl ps))(k:∀ b u,b≠P->s.heap.get? b=some u->h'.get? b=some u)(hP':h'.get? P=some (W.tabObj (ps++more)))(hc:s.heap.objs.size<=c')(hr:h'.CodeRec (.ref c') qual) :
  Inv X pins σ (upd (upd H P (.tbl (ps++more))) c' (Kk c' qual)) {s with heap:=h',toks:=t'}:=by
 have hcn:H c'=none:=I.hok.fresh hc;have hcP:c'≠P:=λz=>by rw[z,hP] at hcn;cases hcn
 have at_P:(upd (upd H P (.tbl (ps++more))) c' (Kk c' qual)) P=some (.tbl (ps++more)):=by rw[Ag hcP.symm,A9]
 have ot:∀ b,b≠P->b≠c'->(upd (upd H P (.tbl (ps++more))) c' (Kk c' qual)) b=H b:=λb h1 h2=>by rw[Ag h2,Ag h1]
 have trk:∀ b o,H b=some o->b≠c':=λb o e z=>by rw[z,hcn] at e;cases e
 refine I.call (ch:=[]) ⟨λb o e n _ _=>k b o (λz=>by rw[z,hP] at n;cases n) e,λb o e n _ _=>⟨o.slots,k b o (λz=>by rw[z,hP] at n;cases n) e⟩,λb o e n _=>?_,λb o e _=>?_,λb xs e=>?_,λb o u e=>?_,λb qs e=>?_⟩ (λb o e=>?_) I.bare (λb z=>absurd z (by simp))
 . rw[ot b (λz=>by rw[z,hP] at n;cases n) (λz=>by rw[z] at e;exact absurd (A0D e) (Nat.not_lt_of_le hc))];exact n
 . by_cases z:b=P
   . rw[z];exact⟨_,hP'⟩
   exact⟨o,k b o z e⟩
 . rw[ot b (λz=>by rw[z,hP] at e;cases e) (trk b _ e)];exact e
 . rw[ot b (λz=>by rw[z,hP] at e;cases e) (trk b _ e)];exact e
 . by_cases z:b=P
   . subst z;rw[hP] at e
     cases e;exact⟨more,at_P⟩
   exact⟨#[],by rw[ot b z (trk b _ e),e];simp⟩
 by_cases z:b=c'
 . subst z;rw[A9] at e
   cases e;refine⟨hr,?_,λh1 h2 x y=>Jr x y⟩;obtain⟨c,oc,vs,tq,e0,e1,_⟩:=hr
   cases e0;exact⟨oc,e1⟩
 by_cases z2:b=P
 . subst z2;rw[at_P] at e
   cases e;exact hP'
 rw[ot b z2 z] at e;refine(I.hok b o e).stay (λd u hd q=>k d u (λy=>?_) q) (λd q=>?_) λd xs q=>?_
 . rcases hd with rfl|hd
   . exact z2 y
   rw[y,hP] at hd;cases hd
 . rw[ot d (λy=>by rw[y,hP] at q;cases q) (trk d _ q)];exact q
 rw[ot d (λy=>by rw[y,hP] at q;cases q) (trk d _ q)];exact q
end
theorem Fun.okC {P:Program}{w:World}{K:W.Frag}{mg:Str->Option Value}{base:Heap}{x qual:Str}{st:Stmt}{f c:Addr}{fd:FuncData}{N ps:List Str}{k:Nat}{sp:Sp}(F:Fun K x qual st f fd)(hc:fd.code = .ref c)(S:Ar N ps (A5 st))(len:∀ vs H Q E,sp vs H Q E->vs.length=ps.length)
  (hbody:∀(A:Around) (outer:List Env) (s:Shared) (H:Hp) (vs:List V) (Q:VK) (E:XK),Room k (A.deeper (envOfC qual (A5 st) s.heap.objs.size f (.ref c)))->sp vs H Q E ->
   ∃ t,PSs (Vw CX0 P w K mg base N qual (A5 st) f (.ref c) A outer s H E).nox (Ai st) t/\t {nx:=λ_ H'=>Q .non H',rt:=Q} (start N vs) H):FnOk P w K mg base CX0 (k+1) f fd ps sp:=by
 obtain⟨oc,od,kV,doc,pm,an,cdv,ct,osl,rfl,lk,hcd⟩:=F.ex;obtain rfl:cdv = .ref c:=hc;refine aj3 lk hcd S len λA outer s H vs Q E hr hsp=>?_;obtain⟨t,h,q⟩:=hbody A outer s H vs Q E hr hsp;exact⟨t,h.nox,q⟩
structure as8 (K:W.Frag)(mg:Str->Option Value)(base:Heap)(c P:Addr):Prop where
 hd:W.CodeHd base c P
 bi:base.BuiltinsAt mg P
 gP:mainGlobals≠P
theorem LamT.of {P:Addr}{line col:Nat}{qual:Str}{H H':Hp}(h:LamT P line col qual H)(e:∀ b,(∃ ps,H b=some (.tbl ps))\/(∃ φ,H b=some (.ext φ))->∀ o,H b=some o->H' b=some o):LamT P line col qual H':=by
 rcases h with h|⟨c',h1,h2⟩
 . exact .inl (e P (.inl ⟨_,h⟩) _ h)
 exact .inr ⟨c',e P (.inl ⟨_,h1⟩) _ h1,e c' (.inr ⟨_,h2⟩) _ h2⟩
theorem LamT.same {P:Addr}{line col:Nat}{qual:Str}{H H':Hp}(h:LamT P line col qual H)(e:Same H H'):LamT P line col qual H':=h.of λb _ o q=>e b o q
theorem LamT.but {P d:Addr}{line col:Nat}{qual:Str}{H H':Hp}{u:HO}(h:LamT P line col qual H)(e:ExtBut d H H')(hd:H d=some u)(h1:∀ ps,u ≠ .tbl ps)(h2:∀ φ,u ≠ .ext φ):LamT P line col qual H':=h.of λb hb o q=>e b o (λz=>by
 subst z;rw[hd] at hb;rcases hb with ⟨ps,hb⟩|⟨φ,hb⟩
 . exact h1 ps (A0Z hb)
 exact h2 φ (A0Z hb)) q
section
variable {X:Cx}{K:W.Frag}
end
def pR (f:Str->Str->Bool):List Str->List (Str×Str)
 | []=>[]
 |x :: xs=>((xs.filter λy=>f x y).map λy=>(x,y))++pR f xs
theorem aq7 (f:Str->Str->Bool):∀ ns:List Str,((List.range ns.length).flatMap λi=>((ns.drop (i+1)).filter λy=>f (ns.getD i "") y).map λy=>(ns.getD i "",y))=pR f ns
 | []=>rfl
 |x :: xs=>by rw[A0V,List.range_succ_eq_map,A2O,List.flatMap_map];show _=_++pR f xs;rw[<- aq7 f xs];rfl
theorem ar6 (ns:List Str)(ps:List (Str×Str)):unP ns ps=pR (unB ps) ns:=aq7 _ _
theorem Yl {f:Str->Str->Bool}{p:Str×Str}:∀ {ns:List Str},p∈pR f ns↔[p.1,p.2].Sublist ns/\f p.1 p.2=true
 | []=>by
   constructor
   . intro h;cases h
   rintro⟨h,_⟩;cases h
 |x :: xs=>by
   show p∈_++_↔_;rw[A0E,Yl (ns:=xs),List.sublist_cons_iff,A0K];constructor
   . rintro(⟨y,hy,rfl⟩|⟨h1,h2⟩)
     . obtain⟨h1,h2⟩:=A0X.mp hy;exact⟨.inr ⟨[y],rfl,A37.mpr h1⟩,h2⟩
     exact⟨.inl h1,h2⟩
   rintro⟨h|⟨r,e,h⟩,h2⟩
   . exact .inr ⟨h,h2⟩
   left
   cases e;exact⟨p.2,A0X.mpr ⟨A37.mp h,h2⟩,rfl⟩
section
variable {ns A B:List Str}{pA pB S:List (Str×Str)}
end
abbrev Vt (p:Pos):Arguments:={posonlyargs:=[],args:=[{arg:="name",annotation:=none,pos:=p}],vararg:=none,kwonlyargs:=[],kw_defaults:=[],kwarg:=none,defaults:=[]}
abbrev Wh (p1 p2 p3 p4 p5 p6:Pos):Expr:=.UnaryOp .USub (.Call (.Name "len" p1) [.Subscript (.Name "reach" p2) (.Name "name" p3) p4] [] p5) p6
abbrev Qj:Scope:={kind:=.function,names:=[("name",.local),("reach",.free),("len",.globalImplicit)],isGenerator:=false,isCoroutine:=false,more:=[]}
section
variable {prog:Program}{w:World}{A:Around}{E:Value->Shared->Prop}{s:Shared}{Q:Value->Shared->Prop}
theorem Yf {q c' r rr cc:Addr}{qual z:Str}{pm ctv:Value}{tz:Tok}{p p1 p2 p3 p4 p5 p6:Pos}{mg mb:Str->Option Value}{vs vs2:List (Key×Value)}(hroom:A.depth<recursionLimit)
  (ho:s.heap.get? q=some (W.kla_obj "<lambda>" qual (Vt p) (Wh p1 p2 p3 p4 p5 p6) Qj [("reach",cc)] pm c' ctv)) (hcd:s.heap.CodeRec (.ref c') qual) (lim:s.heap.NoLimit)
  (hg:s.heap.Ns mainGlobals mg) (hm:mg "len" = none) (hb:s.heap.Ns builtinsNs mb) (hmb:mb "len" = some (.builtin "len"))
  (hcell:s.heap.IsCell cc (some (.ref r))) (hr:s.heap.DictOf (B1 prog w) r vs) (hget:valueAt vs (Sum.inr z:Key)=some (.ref rr)) (hrow:s.heap.DictOf (B1 prog w) rr vs2) (hsys:(rr==sysModules)=false) (h63:vs2.length<2 ^ 63)
  (h:∀ u h' tk,(∀ b o,s.heap.get? b=some o->h'.get? b=some o)->Q (.int (-(vs2.length:Int)) u) {s with heap:=h',toks:=tk}) :
  wpAny (model prog w) A (call (.ref q) [.str z tz]) Q E s:=by
 refine A3L (W.kla_callFunE hroom ho rfl rfl rfl rfl hcd ?_);rw[show bindArgs (W.kla_fn "<lambda>" qual (Vt p) (Wh p1 p2 p3 p4 p5 p6) Qj [("reach",cc)] pm (.ref c') ctv) ⟨[.str z tz],[]⟩=(pure [(("name":Str),Value.str z tz)]:Sem (List (Str×Value))) from rfl];refine A05 (wpAny_newFunctionEnv (λy hy=>?_) (λy hy=>?_) (λh₁ hns hsb=>⟨lim.fresh _ hsb,?_⟩) rfl)
 . simp only[List.mem_cons,List.not_mem_nil,or_false] at hy;rcases hy with rfl|rfl|rfl<;>simp
 . have:y=(("name":Str),Value.str z tz):=by simpa using hy
   rw[this];rfl
 have hk₁:∀ b o,s.heap.get? b=some o->h₁.get? b=some o:=λb o e=>hsb.extBut b o (A10 (A0D e)) (A02 _ e);refine W.kla_codeExpr ?_;have dk:∀ {a:Addr} {xs:List (Key×Value)},s.heap.DictOf (B1 prog w) a xs->h₁.DictOf (B1 prog w) a xs:=fun {a xs} ⟨o,es,ep,e,r⟩=>⟨o,es,ep,hk₁ _ _ e,r⟩
 have hcell':h₁.IsCell cc (some (.ref r)):=by obtain⟨o,e1,e2⟩:=hcell;exact⟨o,hk₁ _ _ e1,e2⟩
 refine UnaryOp_ ?_;refine A1S (A23 rfl rfl (A43 (hg.keeps hk₁) hm (hb.keeps hk₁) hmb ?_) rfl);refine A3B ?_ rfl rfl;refine A2W (ag8 PySem.F.slot_dict_getitem.lookup (λ_ _=>rfl) (A42 (A4Q rfl rfl rfl hcell' (A42 (A4P rfl rfl hns rfl ⟨(dk hr).typeIs,?_⟩) rfl)) rfl));refine wpAny_getItem_of (Qg (k:=Sum.inr z) ⟨tz,rfl⟩) (dk hr).mapOf hget ?_;refine A44 ?_;refine call_len_dict hsys (dk hrow) ∅ ?_;exact neg_int (h _ h₁ _ hk₁)
end
section
variable {X:Cx}{pins:List (Addr×Obj)}{σ:List (Option V)}{H:Hp}{s:Shared}{h':Heap}
theorem ObjOk.got {P:Program}{w:World}{h:Heap}{a:Addr}{o:HO}(x:ObjOk P w H h a o):∃ u,h.get? a=some u:=by
 cases o with
 |lst xs=>obtain⟨_,_,_,_,e⟩:=x;exact⟨_,e⟩
 |tup xs=>obtain⟨_,_,_,o,e,_⟩:=x;exact⟨_,e⟩
 |dK kvs=>obtain⟨_,_,_,_,o,_,_,e,_⟩:=x;exact⟨_,e⟩
 |dT kvs=>obtain⟨_,_,_,_,o,_,_,e,_⟩:=x;exact⟨_,e⟩
 |set S n=>obtain⟨o,_,_,_,e,_⟩:=x;exact⟨_,e⟩
 |ins C dx fs=>obtain⟨_,_,_,e,_⟩:=x;exact⟨_,e⟩
 |own y=>exact x
 |xd fs=>obtain⟨_,⟨_,_,_,e,_⟩,_⟩:=x;exact⟨_,e⟩
 |rng lo hi=>obtain⟨_,_,_,e⟩:=x;exact⟨_,e⟩
 |frz ob u=>obtain⟨e,_⟩:=x;exact⟨_,e⟩
 |tbl ps=>exact⟨_,x⟩
 |met f y=>exact⟨_,x⟩
 |ext φ=>exact x.2.1
theorem Inv.nsedL {t':Nat}{a:Addr}{ob:HO}(I:Inv X pins σ H s)(k:∀ b u,b≠X.env.locals->s.heap.get? b=some u->h'.get? b=some u){m:Str->Option Value}(hlk:∀(i:Nat) (x:Str) (v:V),X.N[i]? = some x->σ[i]? = some (some v)->Vis X.env.scope x->∃ u,RelV v u/\az9 X.env s.heap m x u)(hns:h'.Ns X.env.locals m)(ha:s.heap.get? a=none)(new:ObjOk X.prog X.w (upd H a ob) h' a ob):Inv X pins σ (upd H a ob) {s with heap:=h',toks:=t'}:=by
 have low:∀ b o,X.s₀.heap.get? b=some o->b≠X.env.locals:=λb o q e=>by have h1:=A0D q;have h2:=I.ok.above;rw[e] at h1;exact absurd (A0S h1 h2) (A1O _)
 have han:H a=none:=by
  cases e:H a with
  |none=>rfl
  |some o=>
    obtain⟨u,q⟩:=(I.hok a o e).got;rw[ha] at q
    cases q
 have nea:∀ {b:Addr} {o:Obj},s.heap.get? b=some o->b≠a:=fun {b o} e z=>by
  rw[z,ha] at e
  cases e
 have net:∀ {b:Addr} {o:HO},H b=some o->b≠a:=fun {b o} e z=>by rw[z,han] at e;cases e
 have hLa:X.env.locals≠a:=by obtain⟨m,⟨o,es,ep,e,_⟩,_⟩:=I.loc;exact nea e
 refine⟨I.ok,I.os,I.bare,⟨λb o q n hf hx=>k b o (low b o q) (I.base.keep b o q n hf hx),λb o q n hf hx=>?_,λb o q n hx=>?_,λb o q hx=>?_,λb xs q=>?_,λb o u q=>?_,λb ps q=>?_⟩,?_,λx c e=>?_,?_,λx c e=>?_,λp hp=>?_,λb o e=>?_,I.len⟩
 . obtain⟨sl,e⟩:=I.base.slot b o q n hf hx;exact⟨sl,k b _ (low b o q) e⟩
 . have hb:=I.base.free b o q n hx;obtain⟨o',e⟩:=I.base.there b o q hx;rw[Ag (nea e)];exact hb
 . obtain⟨o',e⟩:=I.base.there b o q hx;exact⟨o',k b _ (low b o q) e⟩
 . have:=I.base.tups b xs q;rw[Ag (net this)];exact this
 . have:=I.base.frzs b o u q;rw[Ag (net this)];exact this
 . obtain⟨more,e⟩:=I.base.tbls b ps q;exact⟨more,by rw[Ag (net e)];exact e⟩
 . refine⟨m,hns,λi x v a b c=>?_⟩;obtain⟨u,r,l⟩:=hlk i x v a b c;refine⟨u,r,?_⟩;rcases l with l|⟨l1,c,l2,l3⟩
   . exact .inl l
   obtain⟨o,e1,e2⟩:=l3;exact .inr ⟨l1,c,l2,o,k c o (I.cne x c l2) e1,e2⟩
 . obtain⟨v,o,e1,e2⟩:=I.cell x c e;exact⟨v,o,k c o (I.cne x c e) e1,e2⟩
 . rw[Ag hLa];exact I.free
 . obtain⟨v,o,e1,e2⟩:=I.cell x c e;rw[Ag (nea e1)];exact I.freeC x c e
 . obtain⟨h1,h2,h3,h4,h5⟩:=I.pin p hp;exact⟨k _ _ h3 h1,by rw[Ag (nea h1)];exact h2,h3,h4,h5⟩
 by_cases z:b=a
 . subst z;rw[A9] at e
   cases e;exact new
 rw[Ag z] at e;refine(I.hok b o e).stay (λd u hd q=>k d u (λy=>?_) q) (λd q=>by rw[Ag (net q)];exact q) λd xs q=>by rw[Ag (net q)];exact q
 have hfr:=I.free;rcases hd with rfl|hd
 . rw[y] at e;rw[e] at hfr
   cases hfr
 rw[y,hfr] at hd
 cases hd
end
section
variable {X:Cx}{pins:List (Addr×Obj)}{σ:List (Option V)}{H:Hp}{s:Shared}
def Y3:Addr->Hp->VK->Prop:=λr H Q=>∃ kvs ns,∃ sz:Str->Nat,Rd H r (.dK kvs)/\kvs.map (·.1)=ns.map (λx=>(Sum.inr x:Key))/\ns.length<64/\(∀ x∈ns,∃ a kvs2,Hz kvs (Sum.inr x:Key)=some (.ref a)/\Rd H a (.dK kvs2)/\kvs2.length=sz x) /\
 ∀ p (ms:List Str),H p=none->ms.Perm ns->ms.Pairwise (λx y=>sz y<=sz x)->Q (.ref p) (upd H p (.lst (ms.map V.str)))
theorem Ko:∀ {ns:List Str} {out:List Value},out.length=ns.length->(∀(i:Nat) v,out[i]? = some v->∃ n t,ns[i]? = some n/\v=Value.str n t)->Vals (ns.map V.str) out
 | [],[],_,_=>.nil
 | [],_ :: _,h,_=>by simp at h
 |_ :: _,[],h,_=>by simp at h
 |n :: ns,v :: out,h,q=>by
   obtain⟨n',t,e1,rfl⟩:=q 0 v rfl
   cases e1;exact .cons ⟨t,rfl⟩ (Ko (by simpa using h) λi u hu=>q (i+1) u hu)
theorem Uy {sz:Str->Nat}:∀ {ns:List Str} {vs:List Value},Vals (ns.map V.str) vs->∃ qs:List (Str×Value),qs.map (·.1)=ns/\(ns.map λx=>(-(sz x:Int))).zip vs=qs.map (λq=>(-(sz q.1:Int),q.2))/\∀ q∈qs,RelV (.str q.1) q.2
 | [],vs,h=>by cases h;exact⟨[],rfl,rfl,λq h=>by cases h⟩
 |n :: ns,vs,h=>by
   cases h with
   |cons r h=>
     obtain⟨qs,e1,e2,e3⟩:=Uy (sz:=sz) h;refine⟨(n,_) :: qs,by rw[A0Q,e1],by rw[A0Q,A54,e2];rfl,λq hq=>?_⟩;rcases A0H.mp hq with rfl|hq
     . exact r
     exact e3 q hq
theorem Zy {sz:Str->Nat}{ns:List Str}{vs out:List Value}(hv:Vals (ns.map V.str) vs)(h:KskOut false (ns.map λx=>(-(sz x:Int))) vs out):∃ ms:List Str,ms.Perm ns/\ms.Pairwise (λx y=>sz y<=sz x)/\Vals (ms.map V.str) out:=by
 obtain⟨ps,p1,rfl,p3⟩:=h;obtain⟨qs,e1,e2,e3⟩:=Uy (sz:=sz) hv;rw[e2] at p1
 obtain⟨rs,hr1,hr2⟩:∃ rs:List (Str×Value),rs.Perm qs/\ps=rs.map λq=>(-(sz q.1:Int),q.2):=by
  clear p3 e2 e1 e3 hv;generalize hF:(λq:Str×Value=>((-(sz q.1:Int)),q.2))=F at p1 ⊢
  have aux:∀ {a b:List (Int×Value)},a.Perm b->∀ {qs:List (Str×Value)},b=qs.map F->∃ rs:List (Str×Value),rs.Perm qs/\a=rs.map F:=by
   intro a b hp
   induction hp with
   |nil=>intro qs e;exact⟨qs,.refl _,e⟩
   |@cons x l1 l2 _ ih=>
     intro qs e
     match qs,e with
     | [],e=>cases e
     |q :: qs,e=>obtain⟨e1,e2⟩:=A3J e;obtain⟨rs,h1,h2⟩:=ih e2;exact⟨q :: rs,h1.cons _,by rw[A0Q,e1,h2]⟩
   |@swap x y l=>
     intro qs e
     match qs,e with
     | [],e=>cases e
     | [q],e=>cases (A3J e).2
     |q1 :: q2 :: qs,e=>obtain⟨e1,e2⟩:=A3J e;obtain⟨e2,e3⟩:=A3J e2;exact⟨q2 :: q1 :: qs,.swap ..,by rw[A0Q,A0Q,e1,e2,e3]⟩
   |trans _ _ ih1 ih2=>intro qs e;obtain⟨r2,h1,h2⟩:=ih2 e;obtain⟨r1,h3,h4⟩:=ih1 h2;exact⟨r1,h3.trans h1,h4⟩
  exact aux p1 rfl
 subst hr2;refine⟨rs.map (·.1),e1 ▸ hr1.map _,?_,?_⟩
 . rw[List.pairwise_map] at p3 ⊢;refine p3.imp fun {a b} h=>?_;simp only[Bool.false_eq_true,if_false] at h;omega
 rw[A1J,A1J];have e3':∀ q∈rs,RelV (.str q.1) q.2:=λq hq=>e3 q (hr1.mem_iff.mp hq);clear p1 p3 hr1 e1 e2 e3 hv
 induction rs with
 |nil=>exact .nil
 |cons q rs ih=>exact .cons (e3' q (A0C ..)) (ih λq' h=>e3' q' (A08 _ h))
theorem Uw {P:Program}{w:World}{H:Hp}{h:Heap}(hok:HOk P w H h){a:Addr}{kvs:List (Key×V)}(r:Rd H a (.dK kvs)):(∃ ob,H a=some ob)/\ObjOk P w H h a (.dK kvs):=by
 rcases r with e|⟨o,e⟩
 . exact⟨⟨_,e⟩,hok _ _ e⟩
 exact⟨⟨_,e⟩,(hok _ _ e).2⟩
theorem Te {Q:VK}{r q c' cc:Addr}{qual:Str}{pm ctv:Value}{p p1 p2 p3 p4 p5 p6:Pos}(hc:X.calm=true)(hroom:X.A.in1.in1.depth<recursionLimit)(hlen:X.mg "len" = none)(I:Inv X pins σ H s)
  (ho:s.heap.get? q=some (W.kla_obj "<lambda>" qual (Vt p) (Wh p1 p2 p3 p4 p5 p6) Qj [("reach",cc)] pm c' ctv)) (hcd:s.heap.CodeRec (.ref c') qual) (hcell:s.heap.IsCell cc (some (.ref r))) (h:Y3 r H Q) :
  wpAny (model X.prog X.w) X.A (call (.builtin "sorted") [.ref r] [(Str.ofString "key",.ref q)]) (EP X pins σ Q) X.xe s:=by
 obtain⟨kvs,ns,sz,hd,hk,hz,hrow,hq⟩:=h;obtain⟨⟨obr,her⟩,_,hs,vs,rel,dd⟩:=Uw I.hok hd;obtain⟨ep,hat⟩:=dd.dictAt;have hrl:=rel.length;have hkl:kvs.length=ns.length:=by have:=congrArg List.length hk;simpa using this
 obtain⟨m,hn,hlk⟩:=I.loc;have F:Fr X.base X.env.locals s.heap m:=⟨hn,I.bk,A0L I.ok.bsz I.ok.above⟩;have keep:∀ {h:Heap} {more:List (Addr×Obj)},Fr X.base X.env.locals h m->News X.base X.env.locals h (Ha X.base s.heap X.env.locals++more)->∀ b u,b≠X.env.locals->s.heap.get? b=some u->h.get? b=some u:=λF' N'=>Re I.bk F'.keep N';have notL:∀ {c:Addr} {o:Obj},s.heap.get? c=some o->(∀ m,¬ s.heap.Ns c m)->c≠X.env.locals:=fun {c o} e1 e2 z=>e2 m (z ▸ hn);have trk:∀ {c:Addr} {u:HO},H c=some u->c≠X.env.locals:=fun {c u} e z=>by rw[z,I.free] at e;cases e
 have notD:∀ {c:Addr} {o:Obj},s.heap.get? c=some o->(∀ es ep,o.data ≠ .dict es ep)->c≠X.env.locals:=fun {c o} e1 e2 z=>by
  obtain⟨oL,es,ep,e4,e5⟩:=hn;rw[z,e4] at e1
  cases e1;exact e2 es ep e5.1
 refine call_function_entry_kw kind_sorted plain_sorted entry_sorted (ksk_s1 _ _) ?_;unfold Builtin.«sorted»;refine A00 (m:=checkCount "sorted" 1 1 _) (A05 ?_);refine wpAny_bind (W.kdu_collect (W.kdl_dict (knd:=B1 X.prog X.w) (kvs:=vs) (ep:=ep) hs) (by simpa using I.ok.hd hc) hat (by rw[sizeLine_eq];omega) λh1 tk acc k1 hacc=>?_);have hl:acc.toList.length=vs.length:=by rw[A4R];exact hacc.1
 refine A00 (wpAny_newList ?_ (by rw[hl,A16];omega))
 have hV:Vals (ns.map V.str) acc.toList:=Ko ∅ λi v hv=>by
  obtain⟨k,x,hkx,hkv⟩:=hacc.2 i v (by rw[<- A4J];exact hv)
  have hk':(kvs.map (·.1))[i]? = some k:=by rw[rel.keys,A09,hkx];rfl
  rw[hk,A09] at hk';obtain⟨n,hn',rfl⟩:=A1M.mp hk';have hkv:Qd (Sum.inr n) v=true:=hkv;rcases Bh hkv with ⟨i',t,e1,_⟩|⟨x',t,e1,rfl⟩
  . cases e1
  cases e1;exact⟨n,t,hn',rfl⟩
 have hnew:(h1.push (seqObj "list" acc.toList.toArray 0)).get? h1.objs.size=some (seqObj "list" acc.toList.toArray 0):=A0O _ rfl;have k2:∀ b o,s.heap.get? b=some o->(h1.push (seqObj "list" acc.toList.toArray 0)).get? b=some o:=λb o e=>A02 _ (k1 b o e)
 have hno:s.heap.get? h1.objs.size=none:=by
  cases e:s.heap.get? h1.objs.size with
  |none=>rfl
  |some o=>
    have:=k1 _ _ e;rw[A3H (A06 _)] at this
    cases this
 have hnl:h1.objs.size≠X.env.locals:=λz=>by
  obtain⟨oL,es,ep,e4,e5⟩:=hn;rw[<- z,hno] at e4
  cases e4
 have hnb:X.base.get? h1.objs.size=none:=by
  cases e:X.base.get? h1.objs.size with
  |none=>rfl
  |some o=>
    rw[I.bk _ _ e] at hno
    cases hno
 obtain⟨mb,hb1,hb2⟩:=I.mod.blt;have hlen2:(ns.map λx=>(-(sz x:Int))).length=acc.toList.length:=by rw[A01,hl];omega
 refine A00 (A1T (wpAny_call_entry_kw PyProof.Rows.slot_list_sort ⟨_,hnew,rfl⟩ PyProof.Rows.entry_list_sort ?body (ksk_l1 _ _)))
 case body=>
  show wpAny (model X.prog X.w) X.A.in1.in1 (Builtin.«list.sort» ⟨[.ref h1.objs.size],[(Str.ofString "key",.ref q)]⟩) _ _ _;rw[ksk_t1];refine ksk_sort (s:={s with heap:=h1.push (seqObj "list" acc.toList.toArray 0),toks:=tk}) (kz:=ns.map λx=>(-(sz x:Int))) (news:=Ha X.base s.heap X.env.locals) (F.kept k2) (News.grown Oy k2) hnew hnl hnb (λp hp z=>?_) hlen2 ∅ (λi v k hv hk h tk own F' N'=>?_) λh' tk out c F' N' k'=>⟨_,rfl,?_⟩
  . have:=(Oy p hp).1;rw[z,hno] at this
    cases this
  . rw[A09] at hk;obtain⟨x,hx,rfl⟩:=A1M.mp hk;obtain⟨u,hu,ru⟩:=hV.get (i:=i) (x:=V.str x) (by rw[A09,hx];rfl);rw[hv] at hu
    cases hu;obtain⟨t,rfl⟩:=ru;obtain⟨a,kvs2,ha1,ha2,ha3⟩:=hrow x (A0B hx);obtain⟨⟨ob2,he2⟩,hz2,hs2,vs2,rel2,dd2⟩:=Uw I.hok ha2;have hv1:=rel.val (Sum.inr x:Key);rw[ha1] at hv1
    obtain⟨y,hy,ry⟩:∃ y,valueAt vs (Sum.inr x:Key)=some y/\RelV (.ref a) y:=by
     cases e:valueAt vs (Sum.inr x:Key) with
     |none=>rw[e] at hv1;cases hv1
     |some y=>rw[e] at hv1;exact⟨y,rfl,hv1⟩
    cases ry;have dk:∀ {b:Addr} {ob:HO} {xs:List (Key×Value)},H b=some ob->s.heap.DictOf (B1 X.prog X.w) b xs->h.DictOf (B1 X.prog X.w) b xs:=fun {b ob xs} e ⟨o,es,ep,e1,z⟩=>⟨o,es,ep,keep F' N' _ _ (trk e) e1,z⟩;have hl2:=rel2.length;rw[<- ha3,hl2];refine Yf (s:={s with heap:=h,toks:=tk}) (mg:=X.mg) (mb:=mb) hroom (keep F' N' _ _ (notD ho λes ep z=>by cases z) ho) ?_ (I.mod.nolimit.keeps F'.keep) (I.mod.glob.keeps F'.keep) hlen (hb1.keeps F'.keep) ((hb2 "len" nofun).trans PyProof.Rows.Boot.«len») ?_ (dk her dd) hy (dk he2 dd2) hs2 (by rw[<- hl2];rw[A16] at hz2;omega) λu h2 tk2' hk2=>?_
    . obtain⟨c,oc,vs,tq,e0,e1,e2,e3⟩:=hcd
      cases e0;exact⟨c',oc,vs,tq,rfl,keep F' N' _ _ (notD e1 λes ep z=>by rw[e2] at z;cases z) e1,e2,e3⟩
    . obtain⟨o,e1,e2⟩:=hcell;exact⟨o,keep F' N' _ _ (notD e1 λes ep z=>by rw[e2] at z;cases z) e1,e2⟩
    exact KskEnd.intro ⟨F'.ns.keeps hk2,λb o e=>hk2 b o (F'.keep b o e),F'.above⟩ (λp hp=>⟨hk2 _ _ (N' p hp).1,(N' p hp).2⟩) λp hp=>hp
  obtain ⟨ms,hp1,hp2,hp3⟩:=Zy hV k'
  have hH:H h1.objs.size=none:=by
   cases e:H h1.objs.size with
   |none=>rfl
   |some o=>
     obtain⟨u,q⟩:=(I.hok _ o e).got;rw[hno] at q
     cases q
  refine A05 ⟨_,rfl,.ref h1.objs.size,_,?_,rfl,hq _ ms hH hp1 hp2⟩;refine I.nsedL (keep (more:=[(h1.objs.size,seqObj "list" out c)]) F' λp hp=>?_) hlk F'.ns hno ?_
  . rcases A0E.mp hp with hp|hp
    . exact N' p (A08 _ hp)
    rw[A0G.mp hp];exact N' _ (A0C ..)
  have:=(N' _ (A0C ..)).1;exact⟨by rw[List.length_map,hp1.length_eq,sizeLine_eq];omega,out.toList,c,hp3,by simpa using this⟩
theorem Inv.cellIs {i:Nat}{x:Str}{cc r:Addr}(I:Inv X pins σ H s)(hi:X.N[i]? = some x)(hk:X.env.kindOf x=some .cell)(hl:X.env.cells.lookup x=some cc)(hσ:σ[i]? = some (some (.ref r))):s.heap.IsCell cc (some (.ref r)):=by
 obtain⟨m,_,hlk⟩:=I.loc;obtain⟨u,ru,lk⟩:=hlk i x _ hi hσ (.inr (.inl hk))
 cases ru;rcases lk with ⟨z,_⟩|⟨_,c,h1,h2⟩
 . rw[hk] at z
   cases z
 rw[hl] at h1
 cases h1;exact h2
def a83 (P:Addr)(line col:Nat)(qual:Str)(i:Nat)(t:TA):TE:=fun σ H Q=>∃ r,σ[i]? = some (some (.ref r))/\t σ H λvs H1=>vs=[.ref r]/\LamT P line col qual H1/\∀ H2,ExtBut P H1 H2->LamT P line col qual H2->Y3 r H2 Q
theorem Vp {i:Nat}{c P:Addr}{ea:Expr}{t:TE}{p p0 p1 p2 p3 p4 p5 p6 pl p7 pos:Pos}(L:as9 X c P)(hc:X.calm=true)(hroom:X.A.in1.in1.depth<recursionLimit)(hg:Gl X "sorted")(hm:X.mg "sorted" = none)(hlen:X.mg "len" = none)(hi:X.N[i]? = some ("reach":Str))(hk:X.env.kindOf "reach" = some .cell)(ha:PA X [ea] (Vz t al0))
  (he:backTo pos (starEach [ea] X.env)=(false,eval ea X.env) :: backTo pos (starEach [] X.env):=by ac_nf) (hpl:(backTo pos (starEach [ea] X.env)).any (·.1)=false:=by ac_nf) :
  PE X (.Call (.Name "sorted" p) [ea] [⟨some "key",.Lambda (Vt p0) (Wh p1 p2 p3 p4 p5 p6) Qj pl,p7⟩] pos) (a83 P pl.line pl.col (X.env.qual ++ "<lambda>") i (Vz t al0)):=by
 intro pins s σ H Q I ⟨r,hσ,h⟩;obtain⟨cc,hcc⟩:=I.ok.has "reach" (.inl hk)
 have hcl:closureFor Qj X.env=pure [(("reach":Str),cc)]:=by
  rw[Ib (scope:=Qj) (env:=X.env) λy hy e=>?_]
  . show pure (Jk X.env [(("name":Str),NameKind.local),("reach",.free),("len",.globalImplicit)] [])=_;have:Jk X.env [(("name":Str),NameKind.local),("reach",.free),("len",.globalImplicit)] []=[(("reach":Str),(X.env.cells.lookup ("reach":Str)).getD 0)]:=rfl;rw[this,hcc];rfl
  simp only[List.mem_cons,List.not_mem_nil,or_false] at hy;rcases hy with rfl|rfl|rfl
  . cases e
  . exact⟨cc,hcc⟩
  cases e
 refine A1S (Le I hg hm PyProof.Rows.Boot.«sorted» ?_);refine callWith_kw (thn (ha pos pins s σ H _ I h) λus s1 ⟨vs,H1,I1,r1,q1⟩=>?_) he hpl rfl rfl;obtain⟨rfl,hT,q1⟩:=q1;obtain⟨v,rfl,rv⟩:=Ms r1
 cases rv;refine kws_cons (W.kla_eval rfl ?_)
 have hbi:s1.heap.BuiltinsAt X.mg P:=by obtain⟨bm,ob,b1,b2,b3,b4,b5,b6⟩:=L.bi;exact⟨bm,ob,b1,b2,b3,b4,I1.bk _ _ b5,b6⟩
 rcases hT with hT|⟨c',hT,hC⟩
 . have hP:=I1.hok P _ hT;refine W.kla_makeFunction (mg:=X.mg) hcl I1.ok.glob (I1.mod.glob.keeps I1.bk) L.code (L.hd.keeps I1.bk) hP trivial rfl L.gP hbi λc' ctv h2 tk hx hge hlt hrec htb=>kws_nil ?_;have I2:=Inv.grown (t':=tk) (h':=h2.push (W.kla_obj "<lambda>" (X.env.qual ++ "<lambda>") (Vt p0) (Wh p1 p2 p3 p4 p5 p6) Qj [("reach",cc)] ((X.mg "__name__").getD .none) c' ctv)) I1 hT (λb u hb e=>A02 _ (hx b u hb e)) (A02 _ htb) hge (Jr hrec λo e=>A02 _ e);refine Te hc hroom hlen I2 (A0O _ rfl) (Jr hrec λo e=>A02 _ e) (I2.cellIs hi hk hcc hσ) (q1 _ ?_ ?_)
   . intro b o hb e;have hcn:H1 c'=none:=I1.hok.fresh hge;rw[Ag (λz=>by rw[z,hcn] at e;cases e),Ag hb];exact e
   have hcn:H1 c'=none:=I1.hok.fresh hge;have hcP:P≠c':=λz=>by rw[<- z,hT] at hcn;cases hcn
   exact .inr ⟨c',by rw[Ag hcP,A9];rfl,A9⟩
 have hP:=I1.hok P _ hT;obtain⟨hrec,_,_⟩:=I1.hok c' _ hC;refine W.kla_makeFunctionHit (mg:=X.mg) hcl I1.ok.glob (I1.mod.glob.keeps I1.bk) L.code (L.hd.keeps I1.bk) hP trivial (cv:=.ref c') (by simp[codeAmong,rawInt]) hbi λctv h2 tk hk' hsz=>kws_nil ?_;have I2:Inv X pins σ H1 {s1 with heap:=h2.push {cls:=.type "function",data:=.func (W.kla_fn "<lambda>" (X.env.qual ++ "<lambda>") (Vt p0) (Wh p1 p2 p3 p4 p5 p6) Qj [("reach",cc)] ((X.mg "__name__").getD .none) (.ref c') ctv)},toks:=tk}:=I1.kept λb u e=>A02 _ (hk' b u e)
 exact Te hc hroom hlen I2 (A0O _ rfl) (Jr hrec λo e=>A02 _ (hk' _ o e)) (I2.cellIs hi hk hcc hσ) (q1 H1 .refl (.inr ⟨c',hT,hC⟩))
end
theorem way_said {ps:List (Str×Str)}{x y a b:Str}:Way (ps++[(x,y)]) a b↔Way ps a b\/((a=x\/Way ps a x)/\(y=b\/Way ps y b)):=by
 have up:∀ {u v:Str},Way ps u v->Way (ps++[(x,y)]) u v:=fun {u v} h=>by
  induction h with
  |one e=>exact .one (A0T _ e)
  |cons e _ ih=>exact .cons (A0T _ e) ih
 have e1:Way (ps++[(x,y)]) x y:=.one (A0F _ (A0G.mpr rfl));constructor
 . exact aj7
 rintro(h|⟨h1,h2⟩)
 . exact up h
 have h3:Way (ps++[(x,y)]) a y:=by
  rcases h1 with rfl|h1
  . exact e1
  exact(up h1).trans e1
 rcases h2 with rfl|h2
 . exact h3
 exact h3.trans (up h2)
def szW (ns:List Str)(ps:List (Str×Str))(x:Str):Nat:=(ns.filter λy=>Ay ps x y).length
section
variable {ns row:List Str}{ps:List (Str×Str)}
theorem a43 (h:HalfW ns ps)(e:ext (Ay ps) ns.length ns=[row]){x y:Str}(hx:x∈ns)(hy:y∈ns)(hxy:x≠y):Ay ps x y=true\/Ay ps y x=true:=by
 have hc:cnt (Ay ps) ns=1:=by unfold cnt;rw[e];rfl
 have h2:=Wv h hx hy hxy
 cases h3:Ay ps x y with
 |true=>exact .inl rfl
 |false=>
   cases h4:Ay ps y x with
   |true=>exact .inr rfl
   |false=>have:=(X0 h hx hy hxy).mpr (by unfold unB;rw[h3,h4];rfl);omega
theorem Zp (h:HalfW ns ps)(e:ext (Ay ps) ns.length ns=[row]):row.Perm ns/\okR (Ay ps) row:=(Dc (Ay ps) ns.length ns row h.nd rfl).mp (by rw[e];exact A0G.mpr rfl)
theorem Kb (h:HalfW ns ps)(x:Str):Ay ps x x=false:=by
 cases e:Ay ps x x with
 |false=>rfl
 |true=>exact absurd (wayB_iff.mp e) (h.irr x)
theorem Nd (h:HalfW ns ps)(e:ext (Ay ps) ns.length ns=[row]){ms:List Str}(hp:ms.Perm ns)(ho:ms.Pairwise λx y=>szW ns ps y<=szW ns ps x):ms=row:=by
 have:ms∈ext (Ay ps) ns.length ns:=(Dc (Ay ps) ns.length ns ms h.nd rfl).mpr ⟨hp,λu _=>Kb h u,List.pairwise_iff_forall_sublist.mpr fun {u v} hs=>?_⟩
 . rw[e] at this;exact A0G.mp this
 have h1:=List.pairwise_iff_forall_sublist.mp ho hs;have hu:u∈ns:=hp.mem_iff.mp (hs.subset (A0C ..));have hv:v∈ns:=hp.mem_iff.mp (hs.subset (A08 _ (A0C ..)))
 cases q:Ay ps v u with
 |false=>rfl
 |true=>exfalso;have:szW ns ps u<szW ns ps v:=Fm (λa _ ha=>wayB_iff.mpr ((wayB_iff.mp q).trans (wayB_iff.mp ha))) ⟨u,hu,q,Kb h u⟩;omega
end
inductive PlanP (ns:List Str):List (Str×Str)->PyData->Nat->Prop
 |fin {ps:List (Str×Str)} {row:List Str}:ext (Ay ps) ns.length ns=[row]->PlanP ns ps (.tuple [.str "end",nmD row]) 0
 |ask {ps:List (Str×Str)} {x y:Str} {D E:PyData} {m n:Nat}:x∈ns->y∈ns->x≠y->unB ps x y=true->PlanP ns (ps++[(x,y)]) D m->PlanP ns (ps++[(y,x)]) E n->PlanP ns ps (.tuple [.str "ask",.str x,.str y,D,E]) (1+max m n)
theorem HalfW.saidP {ns:List Str}{ps:List (Str×Str)}(h:HalfW ns ps)(hl:ps.length<1000){x y:Str}(hx:x∈ns)(hy:y∈ns)(hxy:x≠y)(hu:unB ps x y=true):HalfW ns (ps++[(x,y)]):=by have hc:=h.more hx hy;refine⟨h.nd,hc.mem,Qu h.irr (λz=>hxy z.symm) λg=>?_,h.few,by rw[A04,A0J];omega⟩;unfold unB at hu;rw[wayB_iff.mpr g] at hu;simp at hu
theorem Go {ps:List (Str×Str)}{x y:Str}(hu:unB ps x y=true):unB ps y x=true:=by unfold unB at hu ⊢;rw[Bool.and_comm];exact hu
section
variable {X:Cx}
def aa9:List V->Hp->VK->Prop:=λxs H Q=>∃ o kvs,xs=[V.ref o]/\Rd H o (.dK kvs)/\∀ p,H p=none->Q (.ref p) (upd H p (.dK kvs))
theorem Ng:CallR X (.type "dict") aa9:=by
 intro pins s σ H xs us Q I rv h;obtain⟨o,kvs,rfl,hd,q⟩:=h;obtain⟨u,rfl,ru⟩:=rv.one
 cases ru;obtain⟨⟨ob,he⟩,hz,hs,vs,rel,dd⟩:=Uw I.hok hd;have hl:=rel.length;refine kt_call_dict hs dd ∅ λh' hD hb=>?_;refine⟨.ref s.heap.objs.size,_,I.laid (λb o e=>(hb.2 b (A10 (A0D e))).trans (A02 _ e)) (A06 _) (Rk hz ?_ rel hD),rfl,q _ (I.hok.fresh (A06 _))⟩;exact A0W.mpr (A3A I.big)
theorem Zu {o:Addr}{kvs:List (Key×V)}{H:Hp}{Q:VK}(h:Rd H o (.dK kvs))(k:∀ p H',H p=none->Same H H'->H' p=some (.dK kvs)->Q (.ref p) H'):aa9 [.ref o] H Q:=
 ⟨o,kvs,rfl,h,λp hp=>k p _ hp (Same.upd hp) A9⟩
def at4:List V->Hp->VK->Prop:=λxs H Q=>∃ a kvs,xs=[V.ref a]/\Rd H a (.dK kvs)/\Q (.int kvs.length) H
theorem Lf:CallR X (.builtin "len") at4:=by
 intro pins s σ H xs us Q I r h;obtain⟨a,kvs,rfl,ha,q⟩:=h;obtain⟨u,rfl,ru⟩:=Ms r
 cases ru;obtain⟨⟨ob,he⟩,hz,hs,vs,rel,dd⟩:=Uw I.hok ha;have hl:=rel.length;refine call_len_dict hs dd (by rw[A16] at hz;omega) ?_;rw[<- hl];exact⟨.int kvs.length,H,I.tok _,⟨_,rfl⟩,q⟩
theorem Xh {a:Addr}{kvs:List (Key×V)}{H:Hp}{Q:VK}(h:Rd H a (.dK kvs))(k:Q (.int kvs.length) H):at4 [.ref a] H Q:=⟨a,kvs,rfl,h,k⟩
theorem ag3 {P:Addr}{line col:Nat}{qual:Str}{i:Nat}{t:TA}{σ:St}{H:Hp}{Q:VK}{r:Addr}(h:σ[i]? = some (some (.ref r)))(k:t σ H λvs H1=>vs=[.ref r]/\LamT P line col qual H1/\∀ H2,ExtBut P H1 H2->LamT P line col qual H2->Y3 r H2 Q):a83 P line col qual i t σ H Q:=⟨r,h,k⟩
end
section
variable {prog:Program}{w:World}{A:Around}{E:Value->Shared->Prop}{s:Shared}
theorem T6 {sl:Addr}{k:Int}{tk:Tok}{Q:Int×Int×Nat->Shared->Prop}(hs:s.heap.IsSliceOf sl .none .none (.int k tk))(hk:k=1\/k = -1)(h:Q (if k=1 then(0,1,2) else(1,-1,2)) s) :
  wpAny (model prog w) A (Builtin.Slice.sliceApplied (.ref sl) (pure ((2:Nat):Int))) Q E s:=by
 obtain⟨os,hos,hcs,hds⟩:=id hs;unfold Builtin.Slice.sliceApplied Builtin.Slice.sliceFields;refine A00 (A00 (A22 hos hds (x:=.none) rfl (A00 (A22 hos hds (x:=.none) rfl (A00 (A22 hos hds (x:=.int k tk) rfl (A05 ?_)))))));refine A00 (HT.slicePart_ (.int k tk) ?_);rcases hk with rfl|rfl
 . show wpAny _ _ (if((1:Int)==0)=true then _ else _) _ _ s
   rw[A13 nofun];refine A00 (HT.slicePart_ .none (A00 (HT.slicePart_ .none (A00 (A05 ?_)))));exact A05 h
 show wpAny _ _ (if((-1:Int)==0)=true then _ else _) _ _ s
 rw[A13 nofun];refine A00 (HT.slicePart_ .none (A00 (HT.slicePart_ .none (A00 (A05 ?_)))));exact A05 h
theorem T5 {t sl:Addr}{x y:Value}{k:Int}{tk:Tok}{Q:Value->Shared->Prop}(ht:IsTup s.heap t #[x,y])(hs:s.heap.IsSliceOf sl .none .none (.int k tk))(hk:k=1\/k = -1)(h1:k=1->Q (.ref t) s)
  (h2:k = -1->Q (.ref s.heap.objs.size) {s with heap:=s.heap.push {cls:=.type "tuple",data:=.seq #[y,x]}}):wpAny (model prog w) A (getItem (.ref t) (.ref sl)) Q E s:=by
 obtain⟨os,hos,hcs,hds⟩:=id hs;have hTs:s.TypeIs (.ref sl) "slice":=⟨os,hos,hcs⟩;unfold getItem
 try with_reducible refine A1T ?_
 first | refine A00 (A05 ?_) | skip
 refine A00 (A45 ht.typeIs nofun ?_)
 refine A00 (A2X (name:=Str.ofString "__getitem__") ht.typeIs A17
  (A3G A17 ht.typeIs A3O ?_ (A3U _ _)))
 show wpAny _ _ (Builtin.Tuple.tupleItemsOf (.ref t) >>= _) _ _ s;refine A00 (A4A ht ?_);refine A00 (A3C hTs ?_);rw[A12 nofun];refine A00 (T6 hs hk ?_);rcases hk with rfl|rfl
 . show wpAny _ _ (if(((0:Int)==0&&(1:Int)==1&&(2:Nat)==2))=true then _ else _) _ _ s
   rw[A12 nofun];have fin:∀ s',s'=s->Q (.ref t) s':=λs' e=>by subst e;exact h1 rfl
   clear h1 h2;unfold Builtin.Tuple.tupleIsExact;obtain⟨hp,g,d,tk',os'⟩:=s;have hT:=ht.typeIs
   repeat (any_goals (first | assumption | wp_step))
   exact⟨_,rfl,A05 (fin _ rfl)⟩
 show wpAny _ _ (if(((1:Int)==0&&(-1:Int)==1&&(2:Nat)==2))=true then _ else _) _ _ s
 rw[A13 nofun];have e:(((List.range 2).filterMap λ(m:Nat)=>(#[x,y]:Array Value)[((1:Int)+(m:Int)*(-1)).toNat]?).toArray) = #[y,x]:=rfl
 have htake:sizeOk (.seq (#[y,x]:Array Value)):=by show(#[y,x]:Array Value).size<=sizeLine;rw[A16];exact Nat.le_of_ble_eq_true rfl
 have h:=h2 rfl;show wpAny _ _ (Builtin.Tuple.tupleExact (((List.range 2).filterMap λ(m:Nat)=>(#[x,y]:Array Value)[((1:Int)+(m:Int)*(-1)).toNat]?).toArray) >>= _) _ _ s;rw[e]
 first
  |exact A00 (m:=Builtin.Tuple.tupleExact _) (A1D (A05 ⟨_,rfl,A05 h⟩) htake)
  |exact A00 (m:=Builtin.Tuple.tupleExact _) (A1D (A00 (A05 (A05 ⟨_,rfl,A05 h⟩))) htake)
  |exact A00 (A00 (m:=Builtin.Tuple.tupleExact _) (A1D (A05 (A05 ⟨_,rfl,A05 h⟩)) htake))
end
section
variable {X:Cx}{K:W.Frag}
def Ud (K:W.Frag):V->V->Hp->VK->Prop:=λx y H Q=>∃ a p q k,x = .ref a/\y = .int k/\(k=1\/k = -1)/\SqT K H a [p,q]/\(k=1->Q (.ref a) H)/\(k = -1->∀ b,H b=none->Q (.ref b) (upd H b (.tup [q,p])))
theorem Oq {e st:Expr}{te ts:TE}{p2 pos:Pos}(he:PE X e te)(hst:PE X st ts)(hK:X.K=K:=by ac_nf):PE X (.Subscript e (.Slice none none (some st) p2) pos) (tOp (Ud K) te ts):=by
 subst hK;intro pins s σ H Q I h;refine A4O (thn (he pins s σ H _ I h) λv s1 ⟨x,H1,I1,r1,q1⟩=>?_);refine wpAny_Slice ?_;rw[A4B];refine A05 (A05 ?_);rw[A4Y];refine thn (hst pins s1 σ H1 _ I1 q1) λu s2 ⟨y,H2,I2,r2,q2⟩=>?_;obtain⟨a,p,q,k,rfl,rfl,hk,hx,c1,c2⟩:=q2
 cases r1;obtain⟨t,rfl⟩:=r2;have I4:Inv X pins σ H2 {s2 with heap:=s2.heap.push {cls:=.type "slice",data:=.fields #[.none,.none,.int k t]}}:=I2.kept (t':=s2.toks) λb ob q=>A02 _ q
 obtain⟨its,r,ht,hz⟩:=I4.tuple hx;obtain⟨x1,x2,rfl,rx1,rx2⟩:=Vals.two r;refine tail_any (ops:=[.ref a,.ref s2.heap.objs.size]) ht.typeIs PyProof.Rows.slot_tuple_getitem.lookup ?_ ⋯;refine T5 ht (A3V ..) hk (λe=>⟨.ref a,H2,I4,rfl,c1 e⟩) λe=>?_;refine⟨.ref _,_,I4.laid (t':=s2.toks) (o:=.tup [q,p]) (λb ob q=>A02 _ q) (A06 _) ?_,rfl,c2 e _ (I4.hok.fresh (A06 _))⟩;exact⟨by rw[sizeLine_eq];simp,[x2,x1],.cons rx2 (.cons rx1 .nil),IsTupN.new _ _⟩
theorem af9 {a:Addr}{p q:V}{k:Int}{H:Hp}{Q:VK}(h:SqT K H a [p,q])(hk:k=1\/k = -1)(c:∀ b H',Same H H'->SqT K H' b (if k=1 then [p,q] else [q,p])->Q (.ref b) H'):Ud K (.ref a) (.int k) H Q:=
 ⟨a, p,q,k,rfl,rfl,hk,h,λe=>c a H (.refl _) (by rw[A12 e];exact h),λe b hb=>c b _ (Same.upd hb) (by rw[A13 ∅];exact SqT.of A9)⟩
end
theorem a03 {α:Type}{p q:α->Bool}:∀ {l:List α},(∀ a∈l,p a=true->q a=true)->(l.filter p).length<=(l.filter q).length
 | [],_=>A06 _
 |a :: l,h=>by
   have ih:=a03 (l:=l) λb hb=>h b (A08 _ hb);have ha:=h a (A0C ..);rw[A1F,A1F]
   by_cases hp:p a=true
   . rw[A12 hp,A12 (ha hp),A0V,A0V];omega
   rw[A13 hp]
   by_cases hq:q a=true
   . rw[A12 hq,A0V];omega
   rw[A13 hq];exact ih
section
variable {ps ps':List (Str×Str)}
theorem al9 (h:∀ x y,unB ps' x y=true->unB ps x y=true):∀ ns:List Str,(unP ns ps').length<=(unP ns ps).length
 | []=>by rw[show unP [] ps'=[] from rfl];exact A2H _
 |a :: t=>by rw[Gq,Gq];have h1:=al9 h t;have h2:=a03 (l:=t) (p:=λy=>unB ps' a y) (q:=λy=>unB ps a y) λy _=>h a y;omega
theorem ah6 (h:∀ x y,unB ps' x y=true->unB ps x y=true){x y:Str}(hxy:x≠y)(h1:unB ps x y=true)(h2:unB ps' x y=false):∀ {ns:List Str},x∈ns->y∈ns->(unP ns ps').length<(unP ns ps).length
 | [],hx,_=>by cases hx
 |a :: t,hx,hy=>by
   have sy:∀ qs:List (Str×Str),unB qs y x=unB qs x y:=λqs=>by unfold unB;rw[Bool.and_comm]
   rw[Gq,Gq];have l1:=al9 h t;have l2:=a03 (l:=t) (p:=λz=>unB ps' a z) (q:=λz=>unB ps a z) λz _=>h a z;rcases A0H.mp hx with e|hx'
   . subst e;have hy':y∈t:=(A0H.mp hy).resolve_left (Ne.symm hxy);have:=Fm (p:=λz=>unB ps' x z) (q:=λz=>unB ps x z) (l:=t) (λz _=>h x z) ⟨y,hy',h1,h2⟩;omega
   rcases A0H.mp hy with e|hy'
   . subst e;have:=Fm (p:=λz=>unB ps' y z) (q:=λz=>unB ps y z) (l:=t) (λz _=>h y z) ⟨x,hx',by rw[sy];exact h1,by rw[sy];exact h2⟩;omega
   have:=ah6 h hxy h1 h2 hx' hy';omega
theorem Ya:∀ ns:List Str,2*(unP ns ps).length<=ns.length*(ns.length-1)
 | []=>A06 _
 |a :: t=>by
   rw [Gq,A0V,A40];have h1:=Ya t;have h2:(t.filter λy=>unB ps a y).length<=t.length:=A1Q _ _
   cases ht:t.length with
   |zero=>rw[ht] at h1 h2;omega
   |succ n=>rw[ht,A40] at h1;rw[ht] at h2;simp only[Nat.add_mul,Nat.mul_add] at h1 ⊢;omega
end
theorem Pa {ps:List (Str×Str)}{x y:Str}:(∀ a b,unB (ps++[(x,y)]) a b=true->unB ps a b=true)/\unB (ps++[(x,y)]) x y=false:=by
 constructor
 . intro a b h;unfold unB at h ⊢;rw[A15,Bool.not_eq_true',Bool.not_eq_true'] at h ⊢;refine⟨?_,?_⟩
   . cases e:Ay ps a b with
     |false=>rfl
     |true=>rw[wayB_iff.mpr (way_said.mpr (.inl (wayB_iff.mp e)))] at h;cases h.1
   cases e:Ay ps b a with
   |false=>rfl
   |true=>rw[wayB_iff.mpr (way_said.mpr (.inl (wayB_iff.mp e)))] at h;cases h.2
 unfold unB;rw[wayB_iff.mpr (way_said.mpr (.inr ⟨.inl rfl,.inl rfl⟩))];rfl
theorem PlanP.le_un {ns:List Str}{ps:List (Str×Str)}{D:PyData}{m:Nat}(p:PlanP ns ps D m):m<=(unP ns ps).length:=by
 induction p with
 |fin e=>exact A2H _
 |@ask ps x y D E m n hx hy hxy hu _ _ i1 i2=>have a1:=ah6 (Pa (ps:=ps) (x:=x) (y:=y)).1 hxy hu Pa.2 hx hy;have a2:=ah6 (Pa (ps:=ps) (x:=y) (y:=x)).1 (Ne.symm hxy) (Go hu) Pa.2 hy hx;omega
theorem PlanP.le45 {ns:List Str}{ps:List (Str×Str)}{D:PyData}{m:Nat}(p:PlanP ns ps D m)(h:ns.length<=10):m<=45:=by have h1:=p.le_un;have h2:=Ya (ps:=ps) ns;have h3:ns.length*(ns.length-1)<=10*9:=A2B h ∅;omega
section
variable {X:Cx}{k:Nat}{C:Addr}{x:Str}{ps:List Str}{sp:Sp}{e:Expr}{es:List Expr}{t:TA}{p pos:Pos}{E:XK}
end
section
variable {C:Addr}{sp:Sp}{t:TA}{σ:St}{H:Hp}{Q:VK}{E:XK}
end
def Ze (Ps:List Addr)(H:Hp):Prop:=(∀ p∈Ps,H p=some (.tbl #[]))/\∀ b,b∉Ps->H b=none\/∃ o xs,H b=some (.frz o (.lst xs))
theorem Vm {P:Program}{w:World}{K:W.Frag}{mg mb:Str->Option Value}{CX:CXT}{k:Nat}{fa a:Addr}{Ps:List Addr}{fd:FuncData}{x:Str}{sp:Sp}{s₁:Shared}{vs:List Value}{ns:List Int}
  (KX:K.In s₁.heap) (hns:s₁.heap.Ns mainGlobals mg) (hb:s₁.heap.Ns builtinsNs mb) (hbb:∀ x:Str,x ≠ "__name__" -> mb x=bootBuiltins x) (hlim:s₁.heap.NoLimit) (hg:s₁.gens = #[])
  (ha:s₁.heap.get? a=some {cls:=.type "list",data:=.seq vs.toArray}) (hi:IntsAre vs ns) (hl:ns.length<=sizeLine) (hr:Room k callerA)
  (hPt:∀ p∈Ps,s₁.heap.get? p=some (W.tabObj #[])) (hCd:∀ p∈Ps,∃ c,W.CodeHd s₁.heap c p) (hKP:∀ p∈Ps,K.lookup p=none) (hBi:∀ p∈Ps,s₁.heap.BuiltinsAt mg p)
  (F:∀ base:Heap,K.In base->base.Ns mainGlobals mg->(∀ p∈Ps,base.BuiltinsAt mg p)->FnOk P w K mg base CX k fa fd [x] sp) (hbind:∀(s:Shared) (u:Value),BindsTo s fd ⟨[u],[]⟩ [(x,u)])
  (hsp:∀ H:Hp,Ze Ps H->SqL K H a (ns.map V.int)->sp [.ref a] H (λv _=>v = .bl true) λ_ _ _=>False)
  (hCX:∀ H e s',CX [] H s₁ (λ_ _ _=>False) e s'->False) :
  codeAny (model P w) callerA (.call (.ref fa) ⟨[.ref a],[]⟩) (λr s'=>r = .ok (.ret (.bool true))/\OldK s₁.heap s'.heap/\s'.os=s₁.os/\AllBare s'.gens) s₁:=by
 have rv:=R6 hi;have lenV:=hi.length;have haP:a∉Ps:=λz=>by rw[hPt a z] at ha;cases ha
 have core:∀ H:Hp,Ze Ps H->SqL K H a (ns.map V.int)->HOk P w H s₁.heap->(∀ b,H b≠none->b=a\/b∈Ps)->(H a≠none->K.lookup a=none) ->
   codeAny (model P w) callerA (.call (.ref fa) ⟨[.ref a],[]⟩) (λr s'=>r = .ok (.ret (.bool true))/\OldK s₁.heap s'.heap/\s'.os=s₁.os/\AllBare s'.gens) s₁:=by
  intro H hO hS hok hA hK;have base_of:∀ {b:Addr} {o:Obj},s₁.heap.get? b=some o->H b=none->(a35 s₁.heap H).get? b=some o:=λe n=>a49 e n
  have noA:∀ {b:Addr} {o:Obj},s₁.heap.get? b=some o->(∀ zs n,o.data ≠ .seq zs n)->(∀ zs,o.data ≠ .fields zs)->H b=none:=fun {b o} e d1 d2=>by
   cases q:H b with
   |none=>rfl
   |some u=>
     rcases hA b (by rw[q];simp) with e'|e'
     . subst e';rw[ha] at e;cases e;exact absurd rfl (d1 _ _)
     rw[hPt b e'] at e;cases e;exact absurd rfl (d2 _)
  have nsK:∀ {b:Addr} {m:Str->Option Value},s₁.heap.Ns b m->(a35 s₁.heap H).Ns b m:=fun {b m} ⟨o,es,ep,e,d,r⟩=>⟨o,es,ep,base_of e (noA e (λ_ _ z=>by rw[d] at z;cases z) λ_ z=>by rw[d] at z;cases z),d,r⟩
  have hKb:K.In (a35 s₁.heap H):=λb o e=>base_of (KX b o e) (by
   cases q:H b with
   |none=>rfl
   |some u=>
     rcases hA b (by rw[q];simp) with e'|e'
     . subst e';rw[hK (by rw[q];simp)] at e;cases e
     rw[hKP b e'] at e;cases e)
  have hM:Mod K mg (a35 s₁.heap H):=⟨hKb,nsK hns,⟨mb,nsK hb,hbb⟩,let ⟨mc,h1,h2⟩:=hlim;⟨mc,nsK h1,h2⟩⟩
  have hBi':∀ p∈Ps,(a35 s₁.heap H).BuiltinsAt mg p:=λp hp=>by obtain⟨bm,ob,b1,b2,b3,b4,b5,b6,b7,b8⟩:=hBi p hp;exact⟨bm,ob,b1,b2,b3,b4,base_of b5 (noA b5 (λ_ _ z=>by rw[b8] at z;cases z) λ_ z=>by rw[b8] at z;cases z),b6,b7,b8⟩
  have e0:Env0 P w K mg (a35 s₁.heap H) callerA [] s₁ H:=⟨rfl,hM,λb o e=>ac4 e,Nat.le_of_eq (Yu _ _),trivial,λb hb=>absurd (show b∈([]:List Addr) from hb) (by simp),hok,.of_eq hg⟩;refine A4G ((F _ hKb (nsK hns) hBi').run callerA [] s₁ H ⟨[.ref a],[]⟩ [.ref a] [.ref a] _ _ hr e0 (hbind s₁ (.ref a)) (.cons rfl .nil) (hsp H hO hS)) λr s' h=>?_
  cases r with
  |error e=>exact(hCX H e s' h).elim
  |ok fl=>
    cases fl with
    |next=>exact False.elim h
    |brk=>exact False.elim h
    |cont=>exact False.elim h
    |ret u=>
      obtain⟨v,H',os,bare,un,hok',r',q⟩:=h;have q':v = .bl true:=q;subst q';obtain rfl:u=Value.bool true:=r'
      have at_P:∀ p∈Ps,∃ ps,s'.heap.get? p=some (W.tabObj ps):=λp hp=>by obtain⟨more,z⟩:=un.tbls p _ (hO.1 p hp);exact ⟨_,hok' p _ z⟩
      have keep:∀ b o,b∉Ps->s₁.heap.get? b=some o->s'.heap.get? b=some o:=λb o hb e=>by
       cases q:H b with
       |none=>exact un.keep b o e q (by intro z;exact absurd (show b∈([]:List Addr) from z) (by simp)) (by simp)
       |some u=>
         rcases hO.2 b hb with z|⟨ob,xs,z⟩
         . rw[q] at z;cases z
         have z2:=un.frzs b ob _ z;obtain⟨e1,_⟩:=hok b _ z;obtain⟨e2,_⟩:=hok' b _ z2;rw[e] at e1;cases e1;exact e2
      refine⟨rfl,⟨λb o e=>?_,λb o e=>?_⟩,os,bare⟩
      . by_cases hb:b∈Ps
        . obtain⟨ps,hp⟩:=at_P b hb;obtain⟨c,hC⟩:=hCd b hb;have hT:=(hC.tab (hPt b hb)).isCodeTable;rw[hPt b hb] at e
          cases e;exact .inr (.inl ⟨hT,rfl,#[],ps,rfl,by rw[Array.empty_append];exact hp⟩)
        exact .inl (keep b o hb e)
      by_cases hb:b∈Ps
      . obtain⟨ps,hp⟩:=at_P b hb;exact⟨_,hp⟩
      exact⟨o,keep b o hb e⟩
 cases hk:K.lookup a with
 |some o=>
   have e:=KX a o hk;rw[ha] at e
   cases e;refine core (λb=>if b∈Ps then some (.tbl #[]) else none) ⟨λp hp=>if_pos hp,λb hb=>.inl (if_neg hb)⟩ (.inr ⟨_,vs.toArray,_,hk,rfl,rfl,rfl,by rw[List.size_toArray,lenV];exact hl,by simpa using rv⟩) (λb u z=>?_) (λb z=>?_) λz=>?_
   . by_cases hb:b∈Ps
     . have z':=(A12 hb).symm.trans z
       cases z';exact hPt b hb
     have z':=(A13 hb).symm.trans z
     cases z'
   . by_cases hb:b∈Ps
     . exact .inr hb
     exact absurd (A13 hb) z
   exact absurd (A13 haP) z
 |none=>
   refine core (λb=>if b=a then some (.frz {cls:=.type "list",data:=.seq vs.toArray} (.lst (ns.map V.int))) else if b∈Ps then some (.tbl #[]) else none) ⟨λp hp=>(A13 (λz:p=a=>haP (z ▸ hp))).trans (A12 hp),λb hb=>?_⟩ (.inl (.inr ⟨{cls:=.type "list",data:=.seq vs.toArray},A12 rfl⟩)) (λb u z=>?_) (λb z=>?_) λ_=>hk
   . by_cases hba:b=a
     . exact .inr ⟨_,_,A12 hba⟩
     exact .inl ((A13 hba).trans (A13 hb))
   . by_cases hba:b=a
     . have z':=(A12 hba).symm.trans z
       cases z';subst hba;exact⟨ha,by rw[A01];exact hl,vs,_,rv,ha⟩
     have z':=(A13 hba).symm.trans z
     by_cases hb:b∈Ps
     . have z'':=(A12 hb).symm.trans z'
       cases z'';exact hPt b hb
     have z'':=(A13 hb).symm.trans z'
     cases z''
   by_cases hba:b=a
   . exact .inl hba
   by_cases hb:b∈Ps
   . exact .inr hb
   exact absurd ((A13 hba).trans (A13 hb)) z
theorem walk_ofTs {l:W.OpenLaw}{n k:Nat}{q:Program}{loose:List Str}{XP:(Str->Option Value)->Heap->Prop}{YP:World->Heap->Prop}{d:DefRec}{K:Params->W.Frag}{CX:World->CXT}{sp:World->Sp}{x:Str}{Ps:List Addr}
  (hn:l.most=some n) (hn2:n<=sizeLine) (hdf:d.params.defaults=[]) (hr:Room k callerA)
  (hY:∀(w:World) (h:Heap),YP w h->(K w.params).In h) (hYT:∀(w:World) (h:Heap),YP w h->∀ p∈Ps,h.get? p=some (W.tabObj #[])) (hKP:∀(w:World),∀ p∈Ps,(K w.params).lookup p=none)
  (F:∀(w:World) (mg:Str->Option Value) (fa:Addr) (h:Heap),(K w.params).In h->h.Ns mainGlobals mg->mg d.name=some (.ref fa) ->
   ∃ fd:FuncData,(∀ p∈Ps,∃ c,W.codeHdIn (K w.params) c p=true)/\(∀(s:Shared) (u:Value),BindsTo s fd ⟨[u],[]⟩ [(x,u)]) /\
    ∀ base:Heap,(K w.params).In base->base.Ns mainGlobals mg->(∀ p∈Ps,base.BuiltinsAt mg p)->FnOk l.prog w (K w.params) mg base (CX w) k fa fd [x] (sp w))
  (hsp:∀(w:World) (H:Hp) (a:Addr) (ns:List Int),ns.length<=n->Ze Ps H->SqL (K w.params) H a (ns.map V.int)->sp w [.ref a] H (λv _=>v = .bl true) λ_ _ _=>False)
  (hCX:∀(w:World) (H:Hp) (s:Shared) (e:Value) (s':Shared),CX w [] H s (λ_ _ _=>False) e s'->False) :
  W.WalkO q loose XP YP l.row.toRowW d [] (λf vs=>PySem.call f vs):=by
 refine Att.attach_call hn hdf λw s₀ s₁ mg mb fa o pm cd doc a vs ns G Y ho hd hcd hmg hobj hints hlen hg=>?_;have KX:=hY w _ Y;have hPt:=hYT w _ Y
 have hBi:∀ p∈Ps,s₁.heap.BuiltinsAt mg p:=λp hp=>by
  obtain⟨bm,ob,b1,b2,b3,b4,b5,b6⟩:=G.T.bmain;refine⟨bm,ob,b1,b2,λz=>?_,λz=>?_,b3,b4,b5,b6⟩
  . obtain⟨o',es,ep,e,hd',_⟩:=G.T.g;rw[z,e] at b3
    cases b3;rw[hd'] at b6
    cases b6
  rw[z,hPt p hp] at b3
  cases b3
  cases b4
 obtain⟨fd,hC,hb,hF⟩:=F w mg fa _ KX G.T.g hmg
 have hCd:∀ p∈Ps,∃ c,W.CodeHd s₁.heap c p:=λp hp=>by obtain⟨c,h⟩:=hC p hp;exact⟨c,W.codeHd_of_K KX h⟩
 exact Vm KX G.T.g G.T.b G.T.builtins G.T.nolimit hg hobj hints (A0L hlen hn2) hr hPt hCd (hKP w) hBi hF hb (λH hO hS=>hsp w H a ns hlen hO hS) λH e s'=>hCX w H s₁ e s'
theorem LamT.other {P Q:Addr}{line col l' c':Nat}{qual q':Str}{H H':Hp}(h:LamT Q line col qual H)(hP:LamT P l' c' q' H)(hne:P≠Q)(e:ExtBut P H H'):LamT Q line col qual H':=by
 have ht:∃ ps,H P=some (.tbl ps):=by
  rcases hP with h|⟨c,h,_⟩
  . exact⟨_,h⟩
  exact⟨_,h⟩
 obtain⟨ps,ht⟩:=ht;rcases h with h|⟨c,h1,h2⟩
 . exact .inl (e _ _ (Ne.symm hne) h)
 refine .inr ⟨c,e _ _ (Ne.symm hne) h1,e _ _ (λz=>?_) h2⟩;rw[z,ht] at h2;unfold Kk at h2
 cases h2
def xF (K:W.Frag)(C B:Addr)(hf i0:Bool)(fs:List Str):Bool:=
 aj0 K C&&(W.findIn K (.ref C) "__setattr__" == some (some (.builtin "object.__setattr__")))&&(W.findIn K (.ref C) "__getattribute__" == some (some (.builtin "BaseException.__getattribute__"))) &&
 (W.findIn K (.ref C) "__getattr__" == some none)&&(W.findIn K (.ref C) "__class__" == some (some (.builtin "object.__class__")))&&(hf||Fx K C B)&&W.keepIn K (.ref C)&&(!i0||a65 K C)&&fs.all λf=>W.findIn K (.ref C) f==some none
section
variable {K:W.Frag}{C B:Addr}{hf i0:Bool}{fs:List Str}
theorem Qm (h:xF K C B hf i0 fs=true):aj0 K C=true/\W.findIn K (.ref C) "__setattr__" = some (some (.builtin "object.__setattr__"))/\W.findIn K (.ref C) "__getattribute__" = some (some (.builtin "BaseException.__getattribute__"))/\W.findIn K (.ref C) "__getattr__" = some none/\W.findIn K (.ref C) "__class__" = some (some (.builtin "object.__class__"))/\(hf=true\/Fx K C B=true)/\W.keepIn K (.ref C)=true/\(i0=true->a65 K C=true)/\∀ f∈fs,W.findIn K (.ref C) f=some none:=by unfold xF at h;simp only[Bool.and_eq_true,beq_iff_eq,Bool.or_eq_true,List.all_eq_true] at h;obtain⟨⟨⟨⟨⟨⟨⟨⟨h1,h2⟩,h3⟩,h4⟩,h5⟩,h6⟩,h7⟩,h8⟩,h9⟩:=h;exact⟨h1,h2,h3,h4,h5,h6,h7,λz=>by rw[z] at h8;simpa using h8,h9⟩
theorem xF.xc (h:xF K C B hf i0 fs=true)(cg:W.specialIn K (.builtin "object.__class__") "__get__" = some (some (.builtin "getset_descriptor.__get__")))(ct:W.takesIn K (.builtin "object.__class__")=some true):XC K C:=
 let ⟨h1,h2,h3,h4,h5,_⟩:=Qm h;⟨h1,h2,h3,h4,h5,cg,ct⟩
theorem xF.mr (h:xF K C B false i0 fs=true):Fx K C B=true:=(Qm h).2.2.2.2.2.1.resolve_left (λz=>by cases z)
theorem xF.kp (h:xF K C B hf i0 fs=true):W.keepIn K (.ref C)=true:=(Qm h).2.2.2.2.2.2.1
theorem xF.no (h:xF K C B hf true fs=true):a65 K C=true:=(Qm h).2.2.2.2.2.2.2.1 rfl
theorem xF.n (h:xF K C B hf i0 fs=true){f:Str}(hf:f∈fs):Cb K C f:=(Qm h).2.2.2.2.2.2.2.2 f hf
end
mutual
theorem T9 {K:W.Frag}{H H':Hp}(l:∀ a xs,SqL K H a xs->SqL K H' a xs)(t:∀ a xs,SqT K H a xs->SqT K H' a xs):∀(D:PyData) (v:V),Is K H D v->Is K H' D v
 |.none,_,h=>by simp only[Is] at h ⊢;exact h
 |.bool _,_,h=>by simp only[Is] at h ⊢;exact h
 |.int _,_,h=>by simp only[Is] at h ⊢;exact h
 |.str _,_,h=>by simp only[Is] at h ⊢;exact h
 |.list ds,v,h=>by simp only[Is] at h ⊢;obtain⟨a,xs,e1,e2,e3⟩:=h;exact⟨a,xs,e1,l _ _ e2,Pl l t ds xs e3⟩
 |.tuple ds,v,h=>by simp only[Is] at h ⊢;obtain⟨a,xs,e1,e2,e3⟩:=h;exact⟨a,xs,e1,t _ _ e2,Pl l t ds xs e3⟩
 |.dict _,_,h=>by simp only[Is] at h
theorem Pl {K:W.Frag}{H H':Hp}(l:∀ a xs,SqL K H a xs->SqL K H' a xs)(t:∀ a xs,SqT K H a xs->SqT K H' a xs):∀(ds:List PyData) (vs:List V),IsL K H ds vs->IsL K H' ds vs
 | [],_,h=>by simp only[IsL] at h ⊢;exact h
 |D :: ds,vs,h=>by simp only[IsL] at h ⊢;obtain⟨v,r,e1,e2,e3⟩:=h;exact⟨v,r,e1,T9 l t D v e2,Pl l t ds r e3⟩
end
theorem Rj {α:Type}{p q r:α->Bool}:∀ {l:List α},(∀ a∈l,(p a=true/\q a=false/\r a=false)\/(p a=false/\q a=true/\r a=false)\/(p a=false/\q a=false/\r a=true))->(l.filter p).length+(l.filter q).length+(l.filter r).length=l.length
 | [],_=>rfl
 |a :: l,h=>by have ih:=Rj (l:=l) λb hb=>h b (A08 _ hb);rcases h a (List.mem_cons_self ..) with ⟨h1,h2,h3⟩|⟨h1,h2,h3⟩|⟨h1,h2,h3⟩<;>simp only[List.filter_cons,h1,h2,h3,if_true,Bool.false_eq_true,if_false,List.length_cons]<;>omega
theorem al8 {ps:List (Str×Str)}(irr:∀ x,Ay ps x x=false)(asym:∀ x y,Ay ps x y=true->Ay ps y x=false):∀ ns:List Str,2*(ns.map λx=>(ns.filter λy=>Ay ps x y).length).sum+2*(unP ns ps).length=ns.length*(ns.length-1)
 | []=>rfl
 |a :: t=>by
   have ih:=al8 irr asym t
   have h3:(t.filter λy=>Ay ps a y).length+(t.filter λy=>Ay ps y a).length+(t.filter λy=>unB ps a y).length=t.length:=Rj λy _=>by
    unfold unB
    cases e1:Ay ps a y with
    |true=>rw[asym _ _ e1];simp
    |false=>cases e2:Ay ps y a<;>simp
   have hs:(t.map λx=>((a :: t).filter λy=>Ay ps x y).length).sum=(t.map λx=>(t.filter λy=>Ay ps x y).length).sum+(t.filter λy=>Ay ps y a).length:=by
    have key:∀ l:List Str,(l.map λx=>((a :: t).filter λy=>Ay ps x y).length).sum=(l.map λx=>(t.filter λy=>Ay ps x y).length).sum+(l.filter λy=>Ay ps y a).length:=λl=>by
     induction l with
     |nil=>rfl
     |cons b l ih=>
       rw[A0Q,A30,ih,A0Q,A30,A1F (xs:=t),A1F (xs:=l)]
       cases Ay ps b a<;>simp<;>omega
    exact key t
   rw [A0Q,A30,hs,Gq,A1F,irr a,A0V,A40];simp only[Bool.false_eq_true,if_false]
   cases hl:t.length with
   |zero=>rw[hl] at ih h3;simp only[Nat.zero_mul] at ih;omega
   |succ n=>
     rw[hl] at ih h3;simp only[Nat.add_sub_cancel] at ih
     have e1:(n+1+1)*(n+1)=(n+1)*n+2*(n+1):=by rw[Nat.add_mul (n+1) 1,Nat.mul_add,Nat.mul_one];omega
     rw[e1];omega
theorem a86 {K:W.Frag}{a:Addr}{kvs:List (Key×V)}{z:Str}{H:Hp}{Q:VK}(h:Rd H a (.dK kvs))(k:Q (.bl (Hz kvs (Sum.inr z:Key)).isSome) H):Wj K false (.str z) (.ref a) H Q:=by
 refine .inr (.inr (.inl ⟨a,Hz kvs (Sum.inr z:Key),rfl,.inl ⟨_,Sum.inr z,h,rfl,rfl⟩,?_⟩))
 cases e:Hz kvs (Sum.inr z:Key) with
 |none=>rw[e] at k;simpa using k
 |some v=>rw[e] at k;simpa using k
abbrev Qc (p:Pos):Arguments:={posonlyargs:=[],args:=[{arg:="_law_name",annotation:=none,pos:=p}],vararg:=none,kwonlyargs:=[],kw_defaults:=[],kwarg:=none,defaults:=[]}
abbrev Se (p0 p1 p2 p3 p4 p5 p6 p7:Pos):Expr:=.BinOp (.Constant (.int 0) 0 p0) .Sub (.Call (.Name "len" p1) [.Call (.Name "_law_behind" p2) [.Name "_law_half_here" p3,.Name "_law_name" p4] [] p5] [] p6) p7
abbrev Mj:Scope:={kind:=.function,names:=[("_law_name",.local),("_law_half_here",.free),("len",.globalImplicit),("_law_behind",.globalImplicit)],isGenerator:=false,isCoroutine:=false,more:=[]}
section
variable {P:Program}{w:World}{K:W.Frag}{mg:Str->Option Value}{base:Heap}{A:Around}{outer:List Env}{s:Shared}{H:Hp}
theorem a45 {k:Nat}{f:Addr}{fd:FuncData}{ps:List Str}{sp:Sp}{env:Env}{s1:Shared}{us:List Value}{vs:List V}{Q0:VK}{E':Value->Shared->Prop}{m:Str->Option Value}(hr:Room (k+1) A)(e0:Env0 P w K mg base A outer s H)(hf:env.frame=some s.heap.objs.size)(hkd:env.scope.kind ≠ .module)(hns:s1.heap.Ns s.heap.objs.size m)
  (hk₁:∀ b o,s.heap.get? b=some o->s1.heap.get? b=some o) (hg:s1.gens=s.gens) (F:FnOk P w K mg base CX0 k f fd ps sp) (hb:Binds K fd ps []) (rr:Vals vs us) (h:sp vs H Q0 λ_ _ _=>False):wpAny (model P w) (A.deeper env) (call (.ref f) us) (CE (env :: outer) P w H s1 Q0) E' s1:=by
 have bk:∀ b o,base.get? b=some o->s1.heap.get? b=some o:=λb o e=>hk₁ _ _ (e0.bs b o e).1;have hl:us.length=ps.length:=by rw[<- rr.length];exact F.len _ _ _ _ h
 have bd:BindsTo s1 fd ⟨us,[]⟩ (ps.zip us):=by have:=hb s1 us (e0.mod.kin.keeps bk) (by rw[A1R];exact hl);rwa[A1R] at this
 have env0:Env0 P w K mg base (A.deeper env) (env :: outer) s1 H:=by
  refine⟨Around.frames_deeper e0.frames,e0.mod,λb o e=>⟨bk b o e,(e0.bs b o e).2⟩,A0L e0.bsz (A28 hns.lt),?_,λb hb'=>?_,e0.hok.kept hk₁,by rw[hg];exact e0.bare⟩
  . exact .cons hkd hf hns (A3H e0.bsz) (Heap.FunFrames.of_keeps (λb o e _=>⟨o,hk₁ b o e,rfl⟩) e0.funs)
  rcases List.mem_cons.mp (show b∈s.heap.objs.size :: frs outer from by unfold frs at hb' ⊢;rw[List.filterMap_cons,hf] at hb';exact hb') with e|e
  . rw[e];exact e0.hok.fresh (A06 _)
  exact e0.frf b e
 refine A3L (A4G (F.run (A.deeper env) (env :: outer) s1 H ⟨us,[]⟩ us vs Q0 _ (hr.deeper env) env0 bd rr h) λr s' hq=>?_)
 cases r with
 |error e=>exact False.elim hq
 |ok fl=>
   cases fl with
   |next=>exact False.elim hq
   |brk=>exact False.elim hq
   |cont=>exact False.elim hq
   |ret u=>exact hq
theorem CE.out {env:Env}{h1:Heap}{s':Shared}{Q:VK}{u:Value}{v:V}{H':Hp}(hf:env.frame=some s.heap.objs.size)(hk₁:∀ b o,s.heap.get? b=some o->h1.get? b=some o)(os:s'.os=s.os)(bare:AllBare s'.gens)(un:Un (frs (env :: outer)) [] H H' h1 s'.heap)(hok:HOk P w H' s'.heap)(rv:RelV v u)(q:Q v H'):CE outer P w H s Q u s':=by
 have hfr:frs (env :: outer)=s.heap.objs.size :: frs outer:=by unfold frs;rw[List.filterMap_cons,hf]
 rw[hfr] at un;refine⟨v,H',os,bare,⟨λb o e n1 hf hx=>?_,λb o e n1 hf hx=>?_,λb o e n1 hx=>?_,λb o e hx=>?_,un.tups,un.frzs,un.tbls⟩,hok,rv,q⟩
 . refine un.keep b o (hk₁ b o e) n1 (λz=>?_) hx;rcases A0H.mp z with q|q
   . exact absurd q (A10 (A0D e))
   exact hf q
 . exact un.slot b o (hk₁ b o e) n1 (A08 _ hf) hx
 . exact un.free b o (hk₁ b o e) n1 hx
 exact un.there b o (hk₁ b o e) hx
theorem a63 {k:Nat}{q c' cc f:Addr}{fd:FuncData}{hv:V}{hu:Value}{qual z:Str}{pm ctv:Value}{tz:Tok}{p p0 p1 p2 p3 p4 p5 p6 p7:Pos}{sp:Sp}{Q:VK}{ps:List Str}
  (hr:Room (k+1) A) (e0:Env0 P w K mg base A outer s H)
  (ho:s.heap.get? q=some (W.kla_obj "<lambda>" qual (Qc p) (Se p0 p1 p2 p3 p4 p5 p6 p7) Mj [("_law_half_here",cc)] pm c' ctv)) (hcd:s.heap.CodeRec (.ref c') qual)
  (hm:mg "len" = none) (hcell:s.heap.IsCell cc (some hu)) (rh:RelV hv hu)
  (F:FnOk P w K mg base CX0 k f fd ps sp) (hmf:mg "_law_behind" = some (.ref f)) (hk:W.keepIn K (.ref f)=true) (hb:Binds K fd ps [])
  (h:sp [hv,.str z] H (λv H1=>∃ a xs,v = .ref a/\H1 a=some (.lst xs)/\Q (.int (0-(xs.length:Int))) H1) λ_ _ _=>False) :
  wpAny (model P w) A (call (.ref q) [.str z tz]) (CE outer P w H s Q) (λ_ _=>False) s:=by
 have kin:K.In s.heap:=e0.mod.kin.keeps λb o e=>(e0.bs b o e).1;have lim:s.heap.NoLimit:=e0.mod.nolimit.keeps λb o e=>(e0.bs b o e).1;refine A3L (W.kla_callFunE hr.depth ho rfl rfl rfl rfl hcd ?_);rw[show bindArgs (W.kla_fn "<lambda>" qual (Qc p) (Se p0 p1 p2 p3 p4 p5 p6 p7) Mj [("_law_half_here",cc)] pm (.ref c') ctv) ⟨[.str z tz],[]⟩=(pure [(("_law_name":Str),Value.str z tz)]:Sem (List (Str×Value))) from rfl];refine A05 (wpAny_newFunctionEnv (λy hy=>?_) (λy hy=>?_) (λh₁ hns hsb=>⟨lim.fresh _ hsb,?_⟩) rfl)
 . simp only[List.mem_cons,List.not_mem_nil,or_false] at hy;rcases hy with rfl|rfl|rfl|rfl<;>simp
 . have:y=(("_law_name":Str),Value.str z tz):=by simpa using hy
   rw[this];rfl
 have hk₁:∀ b o,s.heap.get? b=some o->h₁.get? b=some o:=λb o e=>hsb.extBut b o (A10 (A0D e)) (A02 _ e);refine W.kla_codeExpr ?_
 have hcell':h₁.IsCell cc (some hu):=by obtain⟨o,e1,e2⟩:=hcell;exact⟨o,hk₁ _ _ e1,e2⟩
 obtain⟨mb,hb1,hb2⟩:=e0.mod.blt;have bk:∀ b o,base.get? b=some o->h₁.get? b=some o:=λb o e=>hk₁ _ _ (e0.bs b o e).1;refine wpAny_BinOp (wpAny_Constant_int ?_);refine A1S (A23 rfl rfl (A43 (e0.mod.glob.keeps bk) hm (hb1.keeps bk) ((hb2 "len" nofun).trans PyProof.Rows.Boot.«len») ?_) rfl);refine A3B ?_ rfl rfl;refine A2W (A1S (A23 rfl rfl (Calls.loadGlobal_global (e0.mod.glob.keeps bk) hmf ?_) rfl));refine A4X (h₀:=base) e0.mod.kin hk ?_ ⋯ ⋯;refine A2W (A42 (A4Q rfl rfl rfl hcell' ?_) rfl);refine A2W (A42 (A4P rfl rfl hns rfl ?_) rfl);have kin1:K.In h₁:=kin.keeps hk₁;refine A44 ⟨kin1,?_⟩;have rr:Vals [hv,V.str z] [hu,Value.str z tz]:=.cons rh (.cons ⟨tz,rfl⟩ .nil);refine thn (a45 (outer:=outer) hr e0 rfl (λz=>by cases z) hns hk₁ rfl F hb rr h) λu s' hq=>?_;obtain⟨v,H',os,bare,un,hok,rv,a,xs,rfl,hla,hQ⟩:=hq
 cases rv;obtain⟨hz,its,n,hV,hobj⟩:=hok a _ hla;refine A44 ?_;have hil:=hV.length;refine Calls.call_len_list (items:=its.toArray) ⟨_,hobj,rfl,n,rfl⟩ (by rw[A0M,<- hil];rw[A16] at hz;omega) ?_;refine sub_int ?_;refine CE.out (v:=.int (0-(xs.length:Int))) ?_ hk₁ os bare un hok ⟨_,by rw[hil,A0M]⟩ hQ;rfl
end
section
variable {X:Cx}{pins:List (Addr×Obj)}{σ:List (Option V)}{H:Hp}{s s':Shared}
structure Odd (X:Cx)(pins:List (Addr×Obj))(a:Addr):Prop where
 new:X.s₀.heap.objs.size<=a
 loc:a≠X.env.locals
 cel:∀ x c,X.env.cells.lookup x=some c->c≠a
 pin:∀ p∈X.pn++pins,p.1≠a
theorem Inv.odd (I:Inv X pins σ H s){a:Addr}(h:s.heap.objs.size<=a):Odd X pins a where
 new:=A0L I.sz h
 loc:=λz=>absurd (A0S I.lt (z ▸ h)) (A1O _)
 cel:=λx c e z=>by obtain⟨v,o,ho,_⟩:=I.cell x c e;exact absurd (A0S (A0D ho) (z ▸ h)) (A1O _)
 pin:=λp hp z=>absurd (A0S (A0D (I.pin p hp).1) (z ▸ h)) (A1O _)
theorem Odd.nofs {a:Addr}(h:Odd X pins a)(ok:X.Ok):a∉X.fs:=λhb=>by obtain⟨_,o,ho,_⟩:=ok.funs.mem hb;exact absurd (A0S (A0D ho) h.new) (A1O _)
theorem Odd.nobase {a:Addr}(h:Odd X pins a)(ok:X.Ok):X.base.get? a=none:=A3H (A0L ok.bsz h.new)
theorem Inv.poke {a:Addr}(I:Inv X pins σ H s)(os:s'.os=s.os)(hg:s'.gens=s.gens)(k:∀ b u,b≠a->s.heap.get? b=some u->s'.heap.get? b=some u)(hH:H a=none)(ho:Odd X pins a):Inv X pins σ H s':=by
 refine I.call' (ch:=[a]) os ⟨λb o e n hb hx=>k b o (λz=>hx (by rw[z];exact List.mem_singleton.mpr rfl)) e,λb o e n hb hx=>⟨o.slots,k b o (λz=>hx (by rw[z];exact List.mem_singleton.mpr rfl)) e⟩,λb o e n hx=>n,λb o e hx=>⟨o,k b o (λz=>hx (by rw[z];exact List.mem_singleton.mpr rfl)) e⟩,λb xs e=>e,λb o u e=>e,λb ps e=>⟨#[],by simpa using e⟩⟩ (λb o e=>?_) (by rw[hg];exact I.bare) λb hb=>?_
 . refine(I.hok b o e).stay (λd u hd q=>k d u (λz=>?_) q) (λ_ q=>q) λ_ _ q=>q;rcases hd with rfl|hd
   . rw[z,hH] at e;cases e
   rw[z,hH] at hd;cases hd
 rw[A0G.mp hb];exact⟨.inr ho.new,ho.loc,ho.cel,ho.pin⟩
end
section
variable {X:Cx}{pins:List (Addr×Obj)}{σ:List (Option V)}{H:Hp}{s:Shared}
theorem Xa {a:Addr}{f:Value}{n:Nat}{ns:List Str}{vs:List Value}{sz:Str->Nat}{P:PySem.Fin->Shared->Prop}(I:Inv X pins σ H s)(ho:s.heap.get? a=some (seqObj "list" vs.toArray n))(hod:Odd X pins a)(hHa:H a=none)(hV:Vals (ns.map V.str) vs)(h64:ns.length<64)
  (turn:∀ x t pins' H' s',x∈ns->Inv X pins' σ H' s'->(∀ p∈pins,p∈pins')->Same H H'->wpAny (model X.prog X.w) X.A.in1.in1 (call f [.str x t]) (EP X pins' σ λv H''=>v = .int (-(sz x:Int))/\Same H' H'') (λ_ _=>False) s')
  (h:∀(ms:List Str) H' s',ms.Perm ns->ms.Pairwise (λx y=>sz y<=sz x)->Same H H'->H' a=none->Inv X pins σ (upd H' a (.lst (ms.map V.str))) s'->P (.done (.ret .none)) s') :
  wpAny (model X.prog X.w) X.A.in1.in1 (ksk_tree a f false) P X.xe s:=by
 have hl:vs.length=ns.length:=by rw[<- hV.length,A01]
 have ha:a<s.heap.objs.size:=A0D ho;have s1:=Heap.SameBut.update s.heap a (Obj.mapSeq λ_=>(#[]:Array Value));obtain⟨e1,ho1⟩:∃ e1,(s.heap.update a (Obj.mapSeq λ_=>(#[]:Array Value))).get? a=some (seqObj "list" #[] e1):=⟨_,get?_update_seq ho λ_=>#[]⟩;unfold ksk_tree;refine A00 (listItems_at ho rfl ?_);refine A00 (listUpdate_at ho rfl ?_ (by rw[A0M,A16];omega) (A2H _));refine A00 (seqEpoch_at ho1 rfl ?_);refine A00 (wpAny_newTuple ?_ (by show vs.length<=_;rw[A16];omega));refine A00 (wpAny_newList ?_ (A2H _));refine A1T ?_;generalize hkS:((s.heap.update a (Obj.mapSeq λ_=>(#[]:Array Value))).push {cls:=Value.type "tuple",data:=Data.seq vs.toArray.toList.toArray}).objs.size=kS;have hkS1:kS=s.heap.objs.size+1:=by rw[<- hkS,size_push',Heap.size_update]
 have hodk:Odd X pins kS:=I.odd (by rw[hkS1];exact A4S _);have hka:kS≠a:=A3A (by rw[hkS1];exact Nat.lt_succ_of_lt ha);have hHk:H kS=none:=I.hok.fresh (by rw[hkS1];exact A4S _)
 have repin:∀ {H':Hp} {s':Shared} {kA:Array Value} {e:Nat},Inv X pins σ H' s'->H' kS=none->H' a=none->s'.heap.get? kS=some (seqObj "list" kA e)->s'.heap.get? a=some (seqObj "list" #[] e1)->Inv X ((kS,seqObj "list" kA e) :: (a,seqObj "list" #[] e1) :: pins) σ H' s':=fun {H' s' kA e} J h1 h2 g1 g2=>J.pins_of λp hp=>by
  rcases A0H.mp hp with rfl|hp
  . exact⟨g1,h1,hodk.loc,hodk.nofs I.ok,λv z=>by cases z⟩
  rcases A0H.mp hp with rfl|hp
  . exact⟨g2,h2,hod.loc,hod.nofs I.ok,λv z=>by cases z⟩
  exact J.pin p (A0F _ hp)
 have unpin:∀ {H':Hp} {s':Shared} {p1 p2:Addr×Obj},Inv X (p1 :: p2 :: pins) σ H' s'->Inv X pins σ H' s':=fun {H' s' p1 p2} J=>J.pins_of λp hp=>J.pin p (A0F _ (A08 _ (A08 _ hp)));have hlen:(ns.map λx=>(-(sz x:Int))).length=vs.length:=by rw[A01,hl]
 unfold ksk_rest;refine A00 (wpAny_rule ?_)
 first
  |rw[List.forIn_toArray]
  | (rw[<- Array.forIn_toList];simp only[List.toList_toArray])
  |rw[<- Array.forIn_toList]
 refine A00 (ksk_fold (λi s'=>∃ H' kA e,Inv X ((kS,seqObj "list" kA e) :: (a,seqObj "list" #[] e1) :: pins) σ H' s'/\Same H H'/\IntsAre kA.toList ((ns.map λx=>(-(sz x:Int))).take i)) vs 0 _ ?start ?step ?done)
 case start=>
  refine⟨H,#[],0,repin ?_ hHk hHa ?_ ?_,.refl _,by simpa using IntsAre.nil⟩
  . exact I.poke (a:=a) rfl rfl (λb u hb e=>A02 _ (A02 _ ((s1.2 b hb).trans e))) hHa hod
  . rw[<- hkS];exact A0O _ rfl
  exact A02 _ (A02 _ ho1)
 case step=>
  rintro j x s' hx ⟨H',kA,e,J,sm,hk⟩;simp only[Nat.zero_add] at hk ⊢;have hj:j<vs.length:=(A03.mp hx).1;obtain⟨z,hz⟩:∃ z,ns[j]? = some z:=⟨_,A07 ∅⟩;obtain⟨u0,hu,ru⟩:=hV.get (i:=j) (x:=V.str z) (by rw[A09,hz];rfl);rw[hx] at hu
  cases hu;obtain⟨t,rfl⟩:=ru;have hkj:(ns.map λx=>(-(sz x:Int)))[j]? = some (-(sz z:Int)):=by rw[A09,hz];rfl
  have hzz:kA.size<=vs.length:=by have h1:=hk.length;rw[A4R,A0U] at h1;omega
  refine A00 (wpAny_attempt (A1P (turn z t _ H' s' (A0B hz) J (λp hp=>A08 _ (A08 _ hp)) sm) (λv s'' he=>?_) λ_ _ hF=>hF.elim));obtain⟨v',H2,J2,rv,rfl,sm2⟩:=he;obtain⟨t2,rfl⟩:=rv
  try dsimp only
  have nk:=J2.pin (kS,seqObj "list" kA e) (A0F _ (A0C ..));have na:=J2.pin (a,seqObj "list" #[] e1) (A0F _ (A08 _ (A0C ..)));have s2:=Heap.SameBut.update s''.heap kS (Obj.mapSeq (·.push (.int (-(sz z:Int)) t2)));obtain⟨c2,hc2⟩:∃ c2,(s''.heap.update kS (Obj.mapSeq (·.push (.int (-(sz z:Int)) t2)))).get? kS=some (seqObj "list" (kA.push (.int (-(sz z:Int)) t2)) c2):=⟨_,get?_update_seq nk.1 (·.push (.int (-(sz z:Int)) t2))⟩;have ek:(ns.map λx=>(-(sz x:Int))).take (j+1)=(ns.map λx=>(-(sz x:Int))).take j++[-(sz z:Int)]:=by rw[List.take_add_one,hkj];simp
  have ea:(kA.push (Value.int (-(sz z:Int)) t2)).toList=kA.toList++[Value.int (-(sz z:Int)) t2]:=by simp
  refine A00 (listUpdate_at nk.1 rfl ?_ (by rw[A16];omega) (A0L (Nat.le_of_eq (Array.size_push ..)) (by rw[A16];omega)));refine A05 ⟨rfl,H2,kA.push (.int (-(sz z:Int)) t2),c2,repin ?_ nk.2.1 na.2.1 hc2 ((s2.2 a hka.symm).trans na.1),sm.trans sm2,by rw[ea,ek];exact ksk_snoc hk⟩;exact(unpin J2).poke (a:=kS) rfl rfl (λb u hb e=>(s2.2 b hb).trans e) nk.2.1 hodk
 case done=>
  rintro s' ⟨H',kA,e,J,sm,hk⟩
  have hk':IntsAre kA.toList (ns.map λx=>(-(sz x:Int))):=by rw[Nat.zero_add,A1W (Nat.le_of_eq hlen)] at hk;exact hk
  have nk:=J.pin (kS,seqObj "list" kA e) (A0F _ (A0C ..));have na:=J.pin (a,seqObj "list" #[] e1) (A0F _ (A08 _ (A0C ..)));have J0:=unpin J;obtain⟨m,hn,hlk⟩:=J0.loc;have F:Fr X.base X.env.locals s'.heap m:=⟨hn,J0.bk,A0L J0.ok.bsz J0.ok.above⟩
  try dsimp only
  refine A00 (listItems_at nk.1 rfl ?_);refine ksk_end_ (e:=e) (h₀:=X.base) (L:=X.env.locals) (m:=m) (news:=(Ha X.base s'.heap X.env.locals).filter λp=>decide (p.1≠kS/\p.1≠a)) F (λp hp=>?_) hka (λp hp=>(A21 (A0X.mp hp).2).1) (λp hp=>(A21 (A0X.mp hp).2).2) hk' hlen ∅ λh3 tk3 out c F3 N3 k3=>?_
  . rcases A0E.mp hp with hp|hp
    . exact Oy p (A0X.mp hp).1
    rcases A0H.mp hp with rfl|hp
    . exact⟨nk.1,hodk.loc,hodk.nobase I.ok⟩
    rw[A0G.mp hp];exact⟨na.1,hod.loc,hod.nobase I.ok⟩
  obtain ⟨ms,hp1,hp2,hp3⟩:=Zy hV k3;have hml:=hp1.length_eq
  have kept:∀ b u,b≠X.env.locals->b≠kS->b≠a->s'.heap.get? b=some u->h3.get? b=some u:=λb u n1 n2 n3 e=>by
   cases hc:X.base.get? b with
   |some o=>
     have:=J0.bk b o hc;rw[e] at this
     cases this;exact F3.keep b u hc
   |none=>exact(N3 (b,u) (A08 _ (A0X.mpr ⟨M9 n1 hc e,A0P ⟨n2,n3⟩⟩))).1
  have nch:∀ {b:Addr},b∉[kS,a]->b≠kS/\b≠a:=fun {b} q=>⟨λz=>q (by rw[z];exact A0C ..),λz=>q (by rw[z];exact A08 _ (A0C ..))⟩;have trk:∀ {b:Addr} {o:HO},H' b=some o->b≠X.env.locals/\b≠kS/\b≠a:=fun {b o} q=>⟨λz=>(by rw[z,J0.free] at q;cases q),λz=>(by rw[z,nk.2.1] at q;cases q),λz=>(by rw[z,na.2.1] at q;cases q)⟩;refine h ms H' _ hp1 hp2 sm na.2.1 (J0.step (g':=s'.gens) (d':=s'.drawn) (ch:=[kS,a]) (λb hb=>?_) (λb o h1 h2 h3 e _=>kept b o h1 (nch h3).1 (nch h3).2 e) (λb o h1 h2 h3 e _=>⟨o.slots,kept b o h1 (nch h3).1 (nch h3).2 e⟩) (λb o h1 e n=>by rw[Ag (nch h1).2];exact n) (λb o h1 e=>?_) (λb xs q=>by rw[Ag (trk q).2.2];exact q) (λb o u q=>by rw[Ag (trk q).2.2];exact q) (λb ps q=>⟨#[],by rw[Ag (trk q).2.2];simpa using q⟩) (λm' hm=>?_) (λb o q=>?_) J0.bare)
  . rcases A0H.mp hb with rfl|hb
    . exact⟨.inr hodk.new,hodk.loc,hodk.cel,hodk.pin⟩
    rw[A0G.mp hb];exact⟨.inr hod.new,hod.loc,hod.cel,hod.pin⟩
  . by_cases z:b=X.env.locals
    . obtain⟨o',_,_,q,_⟩:=F3.ns;exact⟨o',by rw[z];exact q⟩
    exact⟨o,kept b o z (nch h1).1 (nch h1).2 e⟩
  . rw[hm.eq_nsMap,<- hn.eq_nsMap];exact F3.ns
  by_cases z:b=a
  . subst z;rw[A9] at q
    cases q;have:=(N3 _ (A0C ..)).1;exact⟨by rw[List.length_map,hml,sizeLine_eq];omega,out.toList,c,hp3,by simpa using this⟩
  rw[Ag z] at q;refine(J0.hok b o q).stay (λd u hd g=>?_) (λd g=>by rw[Ag (trk g).2.2];exact g) λd xs g=>by rw[Ag (trk g).2.2];exact g
  rcases hd with rfl|hd
  . exact kept _ u (trk q).1 (trk q).2.1 (trk q).2.2 g
  exact kept _ u (trk hd).1 (trk hd).2.1 (trk hd).2.2 g
def a88 (K:W.Frag)(sp:Sp)(h r:Addr):Hp->VK->Prop:=λH Q=>∃(ns:List Str) (sz:Str->Nat),SqT K H r (ns.map V.str)/\ns.length<64 /\
 (∀ x∈ns,∀ H1,Same H H1->sp [.ref h,.str x] H1 (λv H2=>∃ a xs,v = .ref a/\H2 a=some (.lst xs)/\V.int (0-(xs.length:Int))=V.int (-(sz x:Int))/\Same H1 H2) λ_ _ _=>False) /\
 ∀ p (ms:List Str) H1,Same H H1->H1 p=none->ms.Perm ns->ms.Pairwise (λx y=>sz y<=sz x)->Q (.ref p) (upd H1 p (.lst (ms.map V.str)))
theorem Qy {Q:VK}{k:Nat}{r h q c' cc f:Addr}{fd:FuncData}{ps:List Str}{sp:Sp}{qual:Str}{pm ctv:Value}{i:Nat}{p p0 p1 p2 p3 p4 p5 p6 p7:Pos}(hr:Room (k+1) X.A.in1.in1)(hlen:X.mg "len" = none)(I:Inv X pins σ H s)
  (F:FnOk X.prog X.w X.K X.mg X.base CX0 k f fd ps sp) (hmf:X.mg "_law_behind" = some (.ref f)) (hkf:W.keepIn X.K (.ref f)=true) (hb:Binds X.K fd ps [])
  (ho:s.heap.get? q=some (W.kla_obj "<lambda>" qual (Qc p) (Se p0 p1 p2 p3 p4 p5 p6 p7) Mj [("_law_half_here",cc)] pm c' ctv)) (hq:H q=none) (hqo:Odd X pins q) (hC:H c'=some (Kk c' qual)) (hi:X.N[i]? = some ("_law_half_here":Str)) (hk:X.env.kindOf "_law_half_here" = some .cell) (hcc:X.env.cells.lookup ("_law_half_here":Str)=some cc) (hσ:σ[i]? = some (some (.ref h)))
  (hs:a88 X.K sp h r H Q):wpAny (model X.prog X.w) X.A (call (.builtin "sorted") [.ref r] [(Str.ofString "key",.ref q)]) (EP X pins σ Q) X.xe s:=by
 obtain⟨ns,sz,hS,h64,hsp,hQ⟩:=hs;obtain⟨its,rv,⟨o,h1,h2,n,h3⟩,_⟩:=I.tuple hS;have hl:its.length=ns.length:=by rw[<- rv.length,A01]
 refine call_function_entry_kw kind_sorted plain_sorted entry_sorted (ksk_s1 _ _) ?_;unfold Builtin.«sorted»;refine A00 (m:=checkCount "sorted" 1 1 _) (A05 ?_);refine A00 (wpAny_collect_seq r (.inr rfl) h1 h2 h3 (λg1 k1=>?_) (by rw[A0M,A16];omega));refine wpAny_bind (wpAny_newList ?_ (by simp only[List.size_toArray];rw[sizeLine_eq];omega));have hnew:(g1.push (seqObj "list" its.toArray 0)).get? g1.objs.size=some (seqObj "list" its.toArray 0):=A0O _ rfl;show wpAny _ _ _ _ _ {s with heap:=g1.push (seqObj "list" its.toArray 0)}
 have I1:Inv X pins σ H {s with heap:=g1}:=I.kept k1
 have I2:Inv X pins σ H {s with heap:=g1.push (seqObj "list" its.toArray 0)}:=I1.kept λb u e=>A02 _ e
 have hod:Odd X pins g1.objs.size:=I1.odd (A06 _);have hqn:q≠g1.objs.size:=A10 (A0D (k1 _ _ ho));have hHa:H g1.objs.size=none:=I1.hok.fresh (A06 _)
 have I3:Inv X ((q,W.kla_obj "<lambda>" qual (Qc p) (Se p0 p1 p2 p3 p4 p5 p6 p7) Mj [("_law_half_here",cc)] pm c' ctv) :: pins) σ H {s with heap:=g1.push (seqObj "list" its.toArray 0)}:=I2.pins_of λu hu=>by
  rcases A0H.mp hu with rfl|hu
  . exact⟨A02 _ (k1 _ _ ho),hq,hqo.loc,hqo.nofs I.ok,λv z=>by cases z⟩
  exact I2.pin u (A0F _ hu)
 have hod3:Odd X ((q,W.kla_obj "<lambda>" qual (Qc p) (Se p0 p1 p2 p3 p4 p5 p6 p7) Mj [("_law_half_here",cc)] pm c' ctv) :: pins) g1.objs.size:=⟨hod.new,hod.loc,hod.cel,λu hu=>by
  rcases A0E.mp hu with hu|hu
  . exact hod.pin u (A0T _ hu)
  rcases A0H.mp hu with rfl|hu
  . exact hqn
  exact hod.pin u (A0F _ hu)⟩
 refine A00 (A1T (wpAny_call_entry_kw PyProof.Rows.slot_list_sort ⟨_,hnew,rfl⟩ PyProof.Rows.entry_list_sort ?body (ksk_l1 _ _)))
 case body=>
  show wpAny (model X.prog X.w) X.A.in1.in1 (Builtin.«list.sort» ⟨[.ref g1.objs.size],[(Str.ofString "key",.ref q)]⟩) _ _ _;rw[ksk_t1];refine Xa (ns:=ns) (sz:=sz) I3 hnew hod3 hHa rv h64 (λx t pins' H' s' hx J hp sm=>?_) λms H' s' hm hpw sm ha J=>⟨_,rfl,?_⟩
  . have hqp:=J.pin _ (A0F _ (hp _ (A0C ..)));obtain⟨hrec,_,_⟩:=J.hok c' _ (sm _ _ hC);refine thn (a63 hr J.env0.in1.in1 hqp.1 hrec hlen (J.cellIs hi hk hcc hσ) (hv:=.ref h) rfl F hmf hkf hb ?_) λu s'' hce=>J.after hce;exact hsp x hx H' sm
  refine A05 ⟨_,rfl,.ref g1.objs.size,_,J.pins_of λu hu=>J.pin u (A0F _ (A08 _ hu)),rfl,hQ _ ms H' sm ha hm hpw⟩
def am9 (P:Addr)(line col:Nat)(qual:Str)(K:W.Frag)(sp:Sp)(i:Nat)(t:TA):TE:=fun σ H Q=>∃ h,σ[i]? = some (some (.ref h))/\t σ H λvs H1=>∃ r,vs=[.ref r]/\LamT P line col qual H1/\∀ H2,ExtBut P H1 H2->LamT P line col qual H2->a88 K sp h r H2 Q
theorem Sv {k i:Nat}{c P:Addr}{ea:Expr}{t:TE}{ps:List Str}{sp:Sp}{p q p0 p1 p2 p3 p4 p5 p6 p7 pl p8 pos:Pos}(L:as9 X c P)(F:Fnd X.prog X.w X.K X.mg X.base k "_law_behind" ps sp)(hr:Room (k+3) X.A)(hg:Gl X "sorted")(hm:X.mg "sorted" = none)(hlen:X.mg "len" = none)(hi:X.N[i]? = some ("_law_half_here":Str))(hk:X.env.kindOf "_law_half_here" = some .cell)(ha:PA X [ea] (Vz t al0))
  (he:backTo pos (starEach [ea] X.env)=(false,eval ea X.env) :: backTo pos (starEach [] X.env):=by ac_nf) (hpl:(backTo pos (starEach [ea] X.env)).any (·.1)=false:=by ac_nf) :
  PE X (.Call (.Name "sorted" p) [ea] [⟨some "key",.Lambda (Qc q) (Se p0 p1 p2 p3 p4 p5 p6 p7) Mj pl,p8⟩] pos) (am9 P pl.line pl.col (X.env.qual ++ "<lambda>") X.K sp i (Vz t al0)):=by
 intro pins s σ H Q I ⟨h,hσ,hw⟩;obtain⟨f,fd,hF,hmf,hkf,hbf⟩:=F;obtain⟨cc,hcc⟩:=I.ok.has "_law_half_here" (.inl hk)
 have hcl:closureFor Mj X.env=pure [(("_law_half_here":Str),cc)]:=by
  rw[Ib (scope:=Mj) (env:=X.env) λy hy e=>?_]
  . show pure (Jk X.env [(("_law_name":Str),NameKind.local),("_law_half_here",.free),("len",.globalImplicit),("_law_behind",.globalImplicit)] [])=_;have:Jk X.env [(("_law_name":Str),NameKind.local),("_law_half_here",.free),("len",.globalImplicit),("_law_behind",.globalImplicit)] []=[(("_law_half_here":Str),(X.env.cells.lookup ("_law_half_here":Str)).getD 0)]:=rfl;rw[this,hcc];rfl
  simp only[List.mem_cons,List.not_mem_nil,or_false] at hy;rcases hy with rfl|rfl|rfl|rfl
  . cases e
  . exact⟨cc,hcc⟩
  . cases e
  cases e
 refine A1S (Le I hg hm PyProof.Rows.Boot.«sorted» ?_);refine callWith_kw (thn (ha pos pins s σ H _ I hw) λus s1 ⟨vs,H1,I1,r1,q1⟩=>?_) he hpl rfl rfl;obtain⟨r,rfl,hT,q1⟩:=q1;obtain⟨v,rfl,rv⟩:=Ms r1
 cases rv;refine kws_cons (W.kla_eval rfl ?_)
 have hbi:s1.heap.BuiltinsAt X.mg P:=by obtain⟨bm,ob,b1,b2,b3,b4,b5,b6⟩:=L.bi;exact⟨bm,ob,b1,b2,b3,b4,I1.bk _ _ b5,b6⟩
 rcases hT with hT|⟨c',hT,hC⟩
 . have hP:=I1.hok P _ hT;refine W.kla_makeFunction (mg:=X.mg) hcl I1.ok.glob (I1.mod.glob.keeps I1.bk) L.code (L.hd.keeps I1.bk) hP trivial rfl L.gP hbi λc' ctv h2 tk hx hge hlt hrec htb=>kws_nil ?_;have I2:=Inv.grown (t':=tk) (h':=h2) I1 hT hx htb hge hrec;have hcn:H1 c'=none:=I1.hok.fresh hge;have hcP:P≠c':=λz=>by rw[<- z,hT] at hcn;cases hcn
   have I3:=I2.kept (t':=tk) (h':=h2.push (W.kla_obj "<lambda>" (X.env.qual ++ "<lambda>") (Qc q) (Se p0 p1 p2 p3 p4 p5 p6 p7) Mj [("_law_half_here",cc)] ((X.mg "__name__").getD .none) c' ctv)) λb u e=>A02 _ e;refine Qy hr.in1.in1 hlen I3 hF hmf hkf hbf (A0O _ rfl) (I2.hok.fresh (A06 _)) (I2.odd (A06 _)) A9 hi hk hcc hσ (q1 _ ?_ ?_)
   . intro b o hb e;rw[Ag (λz=>by rw[z,hcn] at e;cases e),Ag hb];exact e
   exact .inr ⟨c',by rw[Ag hcP,A9];rfl,A9⟩
 have hP:=I1.hok P _ hT;refine W.kla_makeFunctionHit (mg:=X.mg) hcl I1.ok.glob (I1.mod.glob.keeps I1.bk) L.code (L.hd.keeps I1.bk) hP trivial (cv:=.ref c') (by simp[codeAmong,rawInt]) hbi λctv h2 tk hk' hsz=>kws_nil ?_;have I2:=I1.kept (t':=tk) (h':=h2) hk';have I3:=I2.kept (t':=tk) (h':=h2.push {cls:=.type "function",data:=.func (W.kla_fn "<lambda>" (X.env.qual ++ "<lambda>") (Qc q) (Se p0 p1 p2 p3 p4 p5 p6 p7) Mj [("_law_half_here",cc)] ((X.mg "__name__").getD .none) (.ref c') ctv)}) λb u e=>A02 _ e;exact Qy hr.in1.in1 hlen I3 hF hmf hkf hbf (A0O _ rfl) (I2.hok.fresh (A06 _)) (I2.odd (A06 _)) hC hi hk hcc hσ (q1 H1 .refl (.inr ⟨c',hT,hC⟩))
end
def drop (H:Hp)(a:Addr):Hp:=λb=>if b=a then none else H b
section
variable {X:Cx}{k:Nat}{x:Str}{ps:List Str}{sp:Sp}{e:Expr}{es:List Expr}{t:TA}{p pos:Pos}
end
end L2
namespace K63
open PySem L2 PySem.Spec PyProof.Rows
def top (i:Nat):Stmt:=PySem.Challenge.pw_halforder_k63_plans_amiss.main.body.getD i (.Pass ⟨0,0,0,0⟩)
abbrev Cj:Stmt:=top 17
theorem C6:Ar ["half","names","reach","saying","middle","name"] ["half"] (A5 Cj):=⟨rfl,rfl,rfl,by decide +kernel,rfl,by decide +kernel,by decide +kernel⟩
abbrev Di:Stmt:=top 18
theorem Ob:Ar ["reach","one","other"] ["reach","one","other"] (A5 Di):=⟨rfl,rfl,rfl,by decide +kernel,rfl,by decide +kernel,by decide +kernel⟩
abbrev Cm:Stmt:=top 20
theorem Mo:Ar ["thing","size"] ["thing","size"] (A5 Cm):=⟨rfl,rfl,rfl,by decide +kernel,rfl,by decide +kernel,by decide +kernel⟩
abbrev Bk:Stmt:=top 22
theorem Kf:Ar ["reach","one","other"] ["reach","one","other"] (A5 Bk):=⟨rfl,rfl,rfl,by decide +kernel,rfl,by decide +kernel,by decide +kernel⟩
abbrev Ed:Stmt:=top 23
theorem Qz:Ar ["reach"] ["reach"] (A5 Ed):=⟨rfl,rfl,rfl,by decide +kernel,rfl,by decide +kernel,by decide +kernel⟩
abbrev C8:Stmt:=top 24
theorem M3:Ar ["reach"] ["reach"] (A5 C8):=⟨rfl,rfl,rfl,by decide +kernel,rfl,by decide +kernel,by decide +kernel⟩
abbrev Do:Stmt:=top 25
theorem Fd:Ar ["reach","one","other","more","found","name"] ["reach","one","other"] (A5 Do):=⟨rfl,rfl,rfl,by decide +kernel,rfl,by decide +kernel,by decide +kernel⟩
abbrev Eg:Stmt:=top 27
theorem Sb:Ar ["thing"] ["thing"] (A5 Eg):=⟨rfl,rfl,rfl,by decide +kernel,rfl,by decide +kernel,by decide +kernel⟩
abbrev Hy:Stmt:=top 28
theorem Zs:Ar ["thing"] ["thing"] (A5 Hy):=⟨rfl,rfl,rfl,by decide +kernel,rfl,by decide +kernel,by decide +kernel⟩
abbrev Fg:Stmt:=top 29
theorem Ss:Ar ["reach","plan"] ["reach","plan"] (A5 Fg):=⟨rfl,rfl,rfl,by decide +kernel,rfl,by decide +kernel,by decide +kernel⟩
abbrev Ef:Stmt:=top 30
theorem Gy:Ar ["reach","plan","path","word","first","second"] ["reach","plan","path"] (A5 Ef):=⟨rfl,rfl,rfl,by decide +kernel,rfl,by decide +kernel,by decide +kernel⟩
abbrev Ee:Stmt:=top 31
theorem Rt:Ar ["half","plan"] ["half","plan"] (A5 Ee):=⟨rfl,rfl,rfl,by decide +kernel,rfl,by decide +kernel,by decide +kernel⟩
abbrev Ep:Stmt:=top 33
theorem Sj:Ar ["_law_script"] ["_law_script"] (A5 Ep):=⟨rfl,rfl,rfl,by decide +kernel,rfl,by decide +kernel,by decide +kernel⟩
abbrev Ek:Stmt:=top 34
theorem Eu:Ar ["_law_feed_here","_law_many","_law_cell","_law_mixed","_law_found"] ["_law_feed_here","_law_many"] (A5 Ek):=⟨rfl,rfl,rfl,by decide +kernel,rfl,by decide +kernel,by decide +kernel⟩
abbrev Dl:Stmt:=top 35
theorem At:Ar ["_law_feed_here","_law_many","_law_letters","_law_start","_law_way","_law_size","_law_at","_law_names_here","_law_head","_law_tail","_law_turn"] ["_law_feed_here","_law_many"] (A5 Dl):=⟨rfl,rfl,rfl,by decide +kernel,rfl,by decide +kernel,by decide +kernel⟩
abbrev Bt:Stmt:=top 36
theorem Cz:Ar ["_law_feed_here","_law_some","_law_left","_law_found","_law_k"] ["_law_feed_here","_law_some"] (A5 Bt):=⟨rfl,rfl,rfl,by decide +kernel,rfl,by decide +kernel,by decide +kernel⟩
abbrev Dn:Stmt:=top 37
theorem B2:Ar ["_law_feed_here","_law_line","_law_many","_law_way","_law_found","_law_k","_law_at","_law_cut","_law_one"] ["_law_feed_here","_law_line"] (A5 Dn):=⟨rfl,rfl,rfl,by decide +kernel,rfl,by decide +kernel,by decide +kernel⟩
abbrev C5:Stmt:=top 38
theorem Dp:Ar ["_law_feed_here","_law_line","_law_found","_law_pair","_law_turn"] ["_law_feed_here","_law_line"] (A5 C5):=⟨rfl,rfl,rfl,by decide +kernel,rfl,by decide +kernel,by decide +kernel⟩
abbrev Ei:Stmt:=top 39
theorem Kj:Ar ["_law_feed_here","_law_most","_law_names_here"] ["_law_feed_here","_law_most"] (A5 Ei):=⟨rfl,rfl,rfl,by decide +kernel,rfl,by decide +kernel,by decide +kernel⟩
abbrev Cn:Stmt:=top 40
theorem C4:Ar ["_law_half_here","_law_name","_law_found","_law_line","_law_here","_law_one","_law_other"] ["_law_half_here","_law_name"] (A5 Cn):=⟨rfl,rfl,rfl,by decide +kernel,rfl,by decide +kernel,by decide +kernel⟩
abbrev Cq:Stmt:=top 41
theorem C9:Ar ["_law_half_here","_law_names_here","_law_table","_law_found","_law_k","_law_some"] ["_law_half_here"] (A5 Cq):=⟨rfl,rfl,rfl,by decide +kernel,rfl,by decide +kernel,by decide +kernel⟩
abbrev Ci:Stmt:=top 42
theorem Be:Ar ["_law_half_here","_law_rows","_law_k","_law_longer","_law_row","_law_left","_law_later"] ["_law_half_here"] (A5 Ci):=⟨rfl,rfl,rfl,by decide +kernel,rfl,by decide +kernel,by decide +kernel⟩
abbrev Df:Stmt:=top 43
theorem Jh:Ar ["_law_orders_here","_law_one","_law_other","_law_ahead"] ["_law_orders_here","_law_one","_law_other"] (A5 Df):=⟨rfl,rfl,rfl,by decide +kernel,rfl,by decide +kernel,by decide +kernel⟩
abbrev Bl:Stmt:=top 44
theorem Bf:Ar ["_law_names_here","_law_orders_here","_law_found","_law_k","_law_other","_law_ahead","_law_hind"] ["_law_names_here","_law_orders_here"] (A5 Bl):=⟨rfl,rfl,rfl,by decide +kernel,rfl,by decide +kernel,by decide +kernel⟩
abbrev Fh:Stmt:=top 45
theorem B3:Ar ["_law_feed_here","_law_names_here","_law_left","_law_level","_law_sayings_here","_law_many","_law_size","_law_fresh","_law_one"] ["_law_feed_here"] (A5 Fh):=⟨rfl,rfl,rfl,by decide +kernel,rfl,by decide +kernel,by decide +kernel⟩
abbrev Dd:Stmt:=top 46
theorem Dj:Ar ["_law_feed_here","_law_names_here","_law_orders_here","_law_some","_law_pair","_law_ahead","_law_hind","_law_first"] ["_law_feed_here","_law_names_here","_law_orders_here"] (A5 Dd):=⟨rfl,rfl,rfl,by decide +kernel,rfl,by decide +kernel,by decide +kernel⟩
abbrev By:Stmt:=top 47
theorem B0:Ar ["_law_half_here","_law_thing","_law_path","_law_free_pairs","_law_row","_law_word","_law_one","_law_other","_law_first","_law_second","_law_ahead","_law_hind"] ["_law_half_here","_law_thing","_law_path"] (A5 By):=⟨rfl,rfl,rfl,by decide +kernel,rfl,by decide +kernel,by decide +kernel⟩
abbrev Bj:Stmt:=top 48
theorem Az:Ar ["_law_half_here","_law_thing","_law_found","e","_law_strange"] ["_law_half_here","_law_thing"] (A5 Bj):=⟨rfl,rfl,rfl,by decide +kernel,rfl,by decide +kernel,by decide +kernel⟩
abbrev Fj:Stmt:=top 49
theorem Ft:Ar ["_law_feed_here","_law_order","_law_at","_law_some","_law_end_here"] ["_law_feed_here","_law_order"] (A5 Fj):=⟨rfl,rfl,rfl,by decide +kernel,rfl,by decide +kernel,by decide +kernel⟩
abbrev Br:Stmt:=top 50
theorem Ax:Ar ["_law_feed_here","_law_plan_here","_law_names_here","_law_word","_law_one","_law_other","_law_first","_law_second","_law_way","_law_at","_law_inner","_law_name","_law_some"] ["_law_feed_here","_law_plan_here","_law_names_here"] (A5 Br):=⟨rfl,rfl,rfl,by decide +kernel,rfl,by decide +kernel,by decide +kernel⟩
abbrev Db:Stmt:=top 51
theorem G0:Ar ["_law_feed_here","_law_names_here","_law_deep","_law_one","_law_other","_law_first"] ["_law_feed_here","_law_names_here","_law_deep"] (A5 Db):=⟨rfl,rfl,rfl,by decide +kernel,rfl,by decide +kernel,by decide +kernel⟩
abbrev Dm:Stmt:=top 52
theorem Ck:Ar ["_law_feed_here","_law_names_here","_law_line","_law_sayings_here","_law_turn","_law_at"] ["_law_feed_here"] (A5 Dm):=⟨rfl,rfl,rfl,by decide +kernel,rfl,by decide +kernel,by decide +kernel⟩
abbrev On:Stmt:=top 53
theorem Ip:Ar ["_law_script","_law_feed_here","_law_half_here","_law_plan_here","_law_turn","_law_thing","_law_great_here"] ["_law_script"] (A5 On):=⟨rfl,rfl,rfl,by decide +kernel,rfl,by decide +kernel,by decide +kernel⟩
abbrev Cg:Stmt:=aj2 (top 12) 0
theorem Na:Ar ["self","word","path"] ["self","word","path"] (A5 Cg):=⟨rfl,rfl,rfl,by decide +kernel,rfl,by decide +kernel,by decide +kernel⟩
structure Gg (mg:Str->Option Value):Prop where
 b_ValueError:mg "ValueError" = none
 b_dict:mg "dict" = none
 b_int:mg "int" = none
 b_isinstance:mg "isinstance" = none
 b_len:mg "len" = none
 b_list:mg "list" = none
 b_max:mg "max" = none
 b_min:mg "min" = none
 b_range:mg "range" = none
 b_sorted:mg "sorted" = none
 b_str:mg "str" = none
 b_sum:mg "sum" = none
 b_tuple:mg "tuple" = none
structure Cr (K:W.Frag)(mg:Str->Option Value)(C B:Addr):Prop where
 xc:XC K C
 gl:mg "HalfError" = some (.ref C)
 mk0:aw2 K mg C "HalfError"
structure Ni (K:W.Frag)(mg:Str->Option Value)(C B:Addr):Prop where
 xc:XC K C
 gl:mg "NoHalf" = some (.ref C)
 mr:Fx K C B=true
 n_word:Cb K C "word"
 n_number:Cb K C "number"
structure Nm (K:W.Frag)(mg:Str->Option Value)(C B:Addr):Prop where
 xc:XC K C
 gl:mg "NoText" = some (.ref C)
 mr:Fx K C B=true
 n_row:Cb K C "row"
structure G9 (K:W.Frag)(mg:Str->Option Value)(C B:Addr):Prop where
 xc:XC K C
 gl:mg "NoName" = some (.ref C)
 mr:Fx K C B=true
 n_name:Cb K C "name"
structure Lz (K:W.Frag)(mg:Str->Option Value)(C B:Addr):Prop where
 xc:XC K C
 gl:mg "TooMany" = some (.ref C)
 mr:Fx K C B=true
 n_word:Cb K C "word"
structure Lr (K:W.Frag)(mg:Str->Option Value)(C B:Addr):Prop where
 xc:XC K C
 gl:mg "NoCover" = some (.ref C)
 mr:Fx K C B=true
 mk0:aw2 K mg C "NoCover"
structure Lq (K:W.Frag)(mg:Str->Option Value)(C B:Addr):Prop where
 xc:XC K C
 gl:mg "NoPlace" = some (.ref C)
 mr:Fx K C B=true
 n_number:Cb K C "number"
structure M2 (K:W.Frag)(mg:Str->Option Value)(C B:Addr):Prop where
 xc:XC K C
 gl:mg "NoOrder" = some (.ref C)
 mr:Fx K C B=true
 mk0:aw2 K mg C "NoOrder"
structure Nf (K:W.Frag)(mg:Str->Option Value)(C B:Addr):Prop where
 xc:XC K C
 gl:mg "NoJoin" = some (.ref C)
 mr:Fx K C B=true
 n_word:Cb K C "word"
structure Rf (K:W.Frag)(mg:Str->Option Value)(C B:Addr):Prop where
 xc:XC K C
 gl:mg "Clash" = some (.ref C)
 mr:Fx K C B=true
 n_way:Cb K C "way"
structure Li (K:W.Frag)(mg:Str->Option Value)(C B:Addr):Prop where
 xc:XC K C
 gl:mg "NoPaper" = some (.ref C)
 mr:Fx K C B=true
 n_word:Cb K C "word"
 n_row:Cb K C "row"
structure Fe (K:W.Frag)(mg:Str->Option Value)(C B:Addr):Prop where
 xc:XC K C
 gl:mg "NoPlan" = some (.ref C)
 mr:Fx K C B=true
 n_word:Cb K C "word"
 n_path:Cb K C "path"
structure Ma (K:W.Frag)(mg:Str->Option Value)(C B:Addr):Prop where
 xc:XC K C
 gl:mg "NoBound" = some (.ref C)
 mr:Fx K C B=true
 n_word:Cb K C "word"
 n_row:Cb K C "row"
structure Ks (K:W.Frag)(mg:Str->Option Value)(C B:Addr):Prop where
 xc:XC K C
 gl:mg "NoSaying" = some (.ref C)
 mr:Fx K C B=true
 n_number:Cb K C "number"
structure Nu (K:W.Frag)(mg:Str->Option Value)(C B:Addr):Prop where
 xc:XC K C
 gl:mg "NoMore" = some (.ref C)
 mr:Fx K C B=true
 mk0:aw2 K mg C "NoMore"
section
variable {P:Program}{w:World}{K:W.Frag}{mg:Str->Option Value}{base:Heap}
local macro_rules | `(tactic| walk_at "lk") => L2.mRows "as | Same.lk e h: e=as h=lk | ExtBut.lk e h n: e=as n=ne h=lk | no"
local macro_rules | `(tactic| walk_at "ne") => L2.mRows "as | Ne.symm q: q=as | ne_of_none h g: g=as h=lk | ne_none2 h g: g=as h=lk | ne_of h g z: h=as g=as z=nc | no"
local macro_rules | `(tactic| walk_at "nc") => `(tactic| (intro z; cases z))
local macro_rules | `(tactic| walk_at "fr") => L2.mRows "ExtBut.refl | ExtBut.trans a b: b=as a=fr | ExtBut.same a b: b=as a=fr | ExtBut.off a q b: b=as q=as a=fr | no"
local macro_rules | `(tactic| walk_at "sm") => L2.mRows "same_refl | Same.trans a b: b=as a=sm | Same.off a q b: b=as q=as a=sm | no"
local macro_rules | `(tactic| walk_at "fd") => L2.mRows "as | Feed.same h e: e=as h=fd | Feed.off h e q f: e=as q=as f=as h=fd | no"
local macro_rules | `(tactic| walk_at "fz1") => L2.mRows "Same.fz b: b=as | ExtBut.fzL b l: b=as l=lk | ExtBut.fzD b l: b=as l=lk | Feed.fz f b: b=as f=fd | no"
local macro_rules | `(tactic| walk_at "fz") => L2.mRows "fz_refl | Fz.trans a x: x=fz1 a=fz | no"
local macro_rules | `(tactic| walk_at "sd") => `(tactic| first | omega | (show (0 : Int) < _; omega) | (unfold ay4; omega) | (unfold CMul; omega) | (unfold aw8; omega) | (unfold aw8; decide) | (refine ⟨?_, ?_⟩ <;> omega) | decide)
local macro_rules | `(tactic| walk_at "sz") => `(tactic| first | decide | exact A7 (by omega) | (rw [sizeLine_eq]; omega))
local macro_rules | `(tactic| walk_at "kv") => `(tactic| rfl)
local macro_rules | `(tactic| walk_at "rq1") => do
 let a <- L2.mAlts "i_asg i_gname i_ret i_drop i_if i_op i_un i_call i_cb i_cons i_nil i_c i_put i_tTest i_tB i_not i_and i_or i_tup i_lst i_next i_sl i_noPart i_part i_int i_for i_rng1 i_rng2 i_comp i_itS i_iany i_ienum i_ienumL i_irev i_chain i_andV i_orV i_notV i_dget1 i_tAt i_sSt i_tMe i_tMk i_tTru i_dget2 i_iDT i_bmT i_rU i_rI0 i_addI i_bl i_bm i_bm0 i_reprKB i_isN i_isNotN i_isB i_isNotB i_true i_tyS i_find i_intB i_inS i_pair i_pair0 iteR iteNR iteNbb itebb iteT iteF iteNT iteNF"
 let b <- L2.mRows "i_var w _: w=kv | i_rI w _: w=sd | i_mulBI w _: w=sd | i_tyLm w _: w=lk | i_ixD w v _: w=lk v=kv | i_eqS w _: w=kv | i_neS w _: w=kv | i_slS w _: w=sz | i_addS w _: w=sz | i_lenS w _: w=sz | i_lenL w _: w=lk | i_lenT w _: w=lk | i_cutN w _: w=ar"
 let c <- L2.mAltG "i_seqAG i_seqDG i_seqPG"
 `(tactic| first | $c:tactic | $a:tactic | $b:tactic)
local macro_rules | `(tactic| walk_at "rd1") => `(tactic| first | with_reducible refine at7 fun N hN => ?_ | walk_at "rq1")
local macro_rules | `(tactic| walk_at "rq") => `(tactic| repeat (walk_at "rq1"))
local macro_rules | `(tactic| walk_at "rd") => `(tactic| repeat (walk_at "rd1"))
def Ex (l:Addr)(a t u:Int):List (Key×V):=[(Sum.inr "cells",.ref l),(Sum.inr "at",.int a),(Sum.inr "left",.int t),(Sum.inr "turn",.int u)]
def Feed (H:Hp)(d l:Addr):Prop:=∃(a t u:Int) (ns:List Int),H d=some (.dK (Ex l a t u))/\H l=some (.lst (ns.map V.int))/\0<ns.length/\ns.length<=64
def Hw (K:W.Frag):Sp:=λvs H Q _=>∃(a:Addr) (ns:List Int),vs=[.ref a]/\SqL K H a (ns.map V.int)/\ns.length<=63/\∀ d l H',H d=none->H l=none->Same H H'->Feed H' d l->Q (.ref d) H'
def Aq (K:W.Frag):Sp:=λvs H Q _=>∃ d l n,vs=[.ref d,.int n]/\Feed H d l/\0<n/\n<1073741824/\∀ r H',0<=r->r<n->ExtBut d H H'->Feed H' d l->Q (.int r) H'
theorem a55 {l:Addr}{a t u:Int}:Hz (Ex l a t u) (Sum.inr "cells":Key)=some (.ref l):=by rfl
theorem ay8 {l:Addr}{a t u:Int}:Hz (Ex l a t u) (Sum.inr "at":Key)=some (.int a):=by rfl
theorem ae0 {l:Addr}{a t u:Int}:Hz (Ex l a t u) (Sum.inr "left":Key)=some (.int t):=by rfl
theorem ag2 {l:Addr}{a t u:Int}:Hz (Ex l a t u) (Sum.inr "turn":Key)=some (.int u):=by rfl
local macro_rules | `(tactic| walk_at "kv") => `(tactic| first | exact a55 | exact ay8 | exact ae0 | exact ag2 | rfl)
theorem a42 {l:Addr}{a t u x:Int}:K6 (Ex l a t u) (Sum.inr "turn":Key) (.int x)=Ex l a t x:=by rfl
theorem an5 {l:Addr}{a t u x:Int}:K6 (Ex l a t u) (Sum.inr "at":Key) (.int x)=Ex l x t u:=by rfl
theorem Pf {l:Addr}{a t u x:Int}:K6 (Ex l a t u) (Sum.inr "left":Key) (.int x)=Ex l a x u:=by rfl
theorem Feed.same {H H':Hp}{d l:Addr}(h:Feed H d l)(e:Same H H'):Feed H' d l:=let ⟨a,t,u,ns,h1,h2,h3,h4⟩:=h;⟨a,t,u,ns,e _ _ h1,e _ _ h2,h3,h4⟩
theorem Feed.put {H H':Hp}{d l p:Addr}(h:Feed H d l)(e:ExtBut p H H')(hd:d≠p)(hl:l≠p):Feed H' d l:=let ⟨a,t,u,ns,h1,h2,h3,h4⟩:=h;⟨a,t,u,ns,e _ _ hd h1,e _ _ hl h2,h3,h4⟩
theorem Feed.nd {H:Hp}{d l p:Addr}(h:Feed H d l)(hp:H p=none):d≠p:=let ⟨_,_,_,_,h1,_⟩:=h;ne_of_none h1 hp
theorem Feed.nl {H:Hp}{d l p:Addr}(h:Feed H d l)(hp:H p=none):l≠p:=let ⟨_,_,_,_,_,h2,_⟩:=h;ne_of_none h2 hp
theorem Feed.lst {H:Hp} {d l b:Addr} {xs:List V} (h:Feed H d l) (hb:H b=some (.lst xs)):b≠d:=let ⟨_,_,_,_,h1,_⟩:=h;ne_of hb h1 (by intro z;cases z)
theorem Feed.free {H H':Hp}{d l p:Addr}(h:Feed H' d l)(e:ExtBut d H H')(hp:H' p=none):H p=none:=by
 cases hq:H p with
 |none=>rfl
 |some o=>
   obtain⟨_,_,_,_,h1,_⟩:=h;have n:p≠d:=λq=>by subst q;rw[hp] at h1;cases h1
   rw[e p o n hq] at hp
   cases hp
theorem Feed.fz {H H':Hp}{d l:Addr}(h:Feed H d l)(e:ExtBut d H H'):Fz H H':=let ⟨_,_,_,_,h1,_⟩:=h;e.fzD h1
theorem Feed.off {H H1 H2:Hp}{d l q:Addr}(h:Feed H1 d l)(e:ExtBut q H1 H2)(hq:H q=none)(hF:Feed H d l):Feed H2 d l:=h.put e (hF.nd hq) (hF.nl hq)
theorem Sd {f:Addr}{fd:FuncData}(F:Fun K "_law_draw" "_law_draw" Ek f fd)(T:Gg mg):FnOk P w K mg base CX0 1 f fd ["_law_feed_here","_law_many"] (Aq K):=by
 refine F.ok Eu (λvs H Q E h=>?_) (λcdv A outer s H vs Q E hr h=>?_)
 . obtain⟨d,l,n,rfl,_⟩:=h;rfl
 obtain⟨d,l,n,rfl,⟨a,t,u,ns,hd,hl,h0,h64⟩,hn,hn2,k⟩:=h;have hu:=Cs hr;have hq:=Cu hr;have hld:l≠d:=ne_of hl hd (by intro z;cases z)
 with_reducible refine⟨_,(A2 (J9 hu (pv 0) Al (Aj (Ab (K:=K)) (Ae (A6 (K:=K) hu) (pv 0) Al (by ac_rfl)) A3) ⋯)
  (A2 (Cd (Af (Bx (K:=K) hq) (Ae (A6 (K:=K) hu) (pv 0) Al (by ac_rfl)) A3 (Av _)) (A2 (Aa (i:=2) Eu.nd ⋯ (by eq_refl) (Ae (A6 (K:=K) hu) (Ae (A6 (K:=K) hu) (pv 0) Al (by ac_rfl)) (Aj Kt (Ae (A6 (K:=K) hu) (pv 0) Al (by ac_rfl)) (Ac (Au (K:=K)) ⋯ T.b_len PyProof.Rows.Boot.«len» (A0 (Ae (A6 (K:=K) hu) (pv 0) Al (by ac_rfl)) A1))) (by ac_rfl)))
  (A2 (J9 hu (pv 0) Al (Aj (Ab (K:=K)) (Ae (A6 (K:=K) hu) (pv 0) Al (by ac_rfl)) A3) ⋯)
  (A2 (Cd (Af a56 (pv 2) (Aj as0 A3 A3) (Av _)) (A2 (Aa (i:=3) Eu.nd ⋯ (by eq_refl) (Aj Kt (Aj En (Aj (Ab (K:=K)) (Aj Kt (pv 2) A3) (Aj En A3 (Ae (A6 (K:=K) hu) (pv 0) Al (by ac_rfl)))) A3) A3))
  (A2 (Aa (i:=3) Eu.nd ⋯ (by eq_refl) (Aj Kt (Aj En (Aj (Ab (K:=K)) (Aj Ij (pv 3) A3) (Aj En A3 (Ae (A6 (K:=K) hu) (pv 0) Al (by ac_rfl)))) A3) A3))
  (A8 (As (Aj Kt (Aj Ij (pv 3) A3) (pv 1)))))) Aw)
  (A8 (J9 hu (pv 0) Al (pv 2) ⋯))))) Aw)
  (A2 (Aa (i:=4) Eu.nd ⋯ (by eq_refl) (Aj Kt (Ae (A6 (K:=K) hu) (pv 0) Al (by ac_rfl)) (pv 1)))
  (A2 (J9 hu (pv 0) Al (Aj Ij (Ae (A6 (K:=K) hu) (pv 0) Al (by ac_rfl)) (pv 1)) ⋯)
  (A8 (As (pv 4))))))),?_⟩
 symm
 refine Kr hd (by show 4<1000;decide) λH1 e1 hd1=>?_;rw[a42] at hd1;have hl1:H1 l=some (.lst (ns.map V.int)):=e1 _ _ hld hl
 symm
 refine aA4 (λht=>?_) (λht=>?_)
 . symm
   have hlen:(0:Int)<((ns.map V.int).length:Nat):=by rw[A01];omega
   refine i_rI hlen ?_;have hm0:0<=a % (((ns.map V.int).length:Nat):Int):=A3S _ ∅;have hm1:=A33 a hlen
   obtain⟨c,hc⟩:∃ c,(ns.map V.int)[(a % (((ns.map V.int).length:Nat):Int)).toNat]? = some (V.int c):=by refine⟨ns[(a % (((ns.map V.int).length:Nat):Int)).toNat]'(by rw[A01] at *;omega),?_⟩;rw[A09,A07];rfl
   refine Eh hl1 (by have:=Bz hc;rwa[A2R hm0] at this) ?_
   symm
   refine Kr hd1 (by show 4<1000;decide) λH2 e2 hd2=>?_;rw[an5] at hd2;have hl2:H2 l=some (.lst (ns.map V.int)):=e2 _ _ hld hl1
   symm
   refine aA4 (λhc1=>?_) (λhc1=>?_)
   . symm
     exact k _ H2 (A3S _ ∅) (A33 _ hn) (e1.trans e2) ⟨_,_,_,ns,hd2,hl2,h0,h64⟩
   symm
   refine Kr hd2 (by show 4<1000;decide) λH3 e3 hd3=>?_;rw[Pf] at hd3;have hl3:H3 l=some (.lst (ns.map V.int)):=e3 _ _ hld hl2
   symm
   refine Kr hd3 (by show 4<1000;decide) λH4 e4 hd4=>?_;rw[Pf] at hd4;have hl4:H4 l=some (.lst (ns.map V.int)):=e4 _ _ hld hl3
   symm
   exact k _ H4 (A3S _ ∅) (A33 _ hn) (((e1.trans e2).trans e3).trans e4) ⟨_,_,_,ns,hd4,hl4,h0,h64⟩
 symm
 refine Kr hd1 (by show 4<1000;decide) λH2 e2 hd2=>?_;rw[Pf] at hd2;have hl2:H2 l=some (.lst (ns.map V.int)):=e2 _ _ hld hl1
 symm
 exact k _ H2 (A3S _ ∅) (A33 _ hn) (e1.trans e2) ⟨_,_,_,ns,hd2,hl2,h0,h64⟩
theorem Xr (ns:List Int)(h:ns.length<=63):∃ ms:List Int,Kz (ns.map V.int) none (some 63)++(List.replicate (if(PyData.list (ns.map PyData.int)).eqv (PyData.list (([]:List Int).map PyData.int))=true then(1:Int) else 0).toNat [V.int 0]).flatten=ms.map V.int/\0<ms.length/\ms.length<=64:=by
 have hc:Kz (ns.map V.int) none (some 63)=ns.map V.int:=by
  unfold Kz
  have e:HT.sIx (ns.map V.int).length (ns.map V.int).length (some 63)=(ns.map V.int).length:=by have:=HT.sIx_nat (ns.map V.int).length (ns.map V.int).length 63;rw[A01] at *;rw[show((63:Nat):Int)=(63:Int) from rfl] at this;rw[this];omega
  rw[HT.sIx_none,e,List.drop_zero,Nat.sub_zero,A1A]
 rw[hc]
 cases ns with
 |nil=>exact⟨[0],by simp[PyData.eqv,PyData.eqvAll],by decide,by decide⟩
 |cons n r=>exact⟨n :: r,by simp[PyData.eqv,PyData.eqvAll],by simp,by omega⟩
theorem Qs {f:Addr}{fd:FuncData}(F:Fun K "_law_feed" "_law_feed" Ep f fd)(T:Gg mg):FnOk P w K mg base CX0 1 f fd ["_law_script"] (Hw K):=by
 refine F.ok Sj (λvs H Q E h=>?_) (λcdv A outer s H vs Q E hr h=>?_)
 . obtain⟨a,ns,rfl,_⟩:=h;rfl
 obtain⟨a,ns,rfl,hS,h63,k⟩:=h;have hu:=Cs hr;have hq:=Cu hr
 with_reducible refine⟨_,(A8 (As (ai0 (L6 Al (Aj (Ab (K:=K)) (Ba (Np (K:=K)) ⋯ T.b_list PyProof.Rows.Boot.«list» (A0 (B4 (Mh (K:=K)) (pv 0) Ca (B6 A3)) A1)) (Aj En (Bc (A0 A3 A1)) (Ba Qr ⋯ T.b_int PyProof.Rows.Boot.«int» (A0 (Fp (Bx (K:=K) hq) (pv 0) (Bc A1) (Av _)) A1)))) (L6 Al A3 (L6 Al A3 (L6 Al A3 ac7)))) ⋯ ⋯ nofun nofun))),?_⟩
 symm
 refine am8 λp H1 hp e1 hp1=>?_
 symm
 have hS1:=e1.seq hS;refine Mu hS1 λq H2 hq2 e2 hq2'=>?_
 symm
 refine af4 (SqL.of hq2') λr H3 hr3 e3 hr3'=>?_
 symm
 refine Bb nofun λz H4 hz4 e4 hz4'=>?_
 symm
 refine Bb nofun λy H5 hy5 e5 hy5'=>?_;refine W4 (Vd (e5.seq (e4.seq (e3.seq (e2.seq hS1))))) (Vd (ns:=[]) (SqL.of hy5')) (W.ke_shaped_ints ns) (W.ke_shaped_ints []) ?_
 symm
 refine ac1 (xs:=[V.int 0]) (by walk_at "lk") ?_ ?_ λx H6 hx6 e6 hx6'=>?_
 . split<;>omega
 . split<;>decide
 refine Sg (xs:=Kz (ns.map V.int) none (some 63)) (by walk_at "lk") hx6' ?_ λv H7 hv7 e7 hv7'=>?_
 . obtain⟨ms,e,h1,h2⟩:=Xr ns h63;rw[<- A04,e,A01];exact A0L h2 nofun
 symm
 refine ac9 [(Sum.inr "cells",.ref v),(Sum.inr "at",.int 0),(Sum.inr "left",.int 0),(Sum.inr "turn",.int 0)] (by walk_at "lk") (by rfl) (by show 4<=15;decide) λH8 e8 h8=>?_;have en:H8 p=some (.dK (Ex v 0 0 0)):=h8;refine k p v H8 hp ?_ ?_ ⟨0,0,0,?_⟩
 . exact e1.free (e2.free (e3.free (e4.free (e5.free (e6.free hv7)))))
 . exact λb o hb=>e8 b o (ne_of_none hb hp) (e7 _ _ (e6 _ _ (e5 _ _ (e4 _ _ (e3 _ _ (e2 _ _ (e1 _ _ hb)))))))
 obtain⟨ms,e,h1,h2⟩:=Xr ns h63;rw[e] at hv7';exact⟨ms,en,by walk_at "lk",h1,h2⟩
def Dv (K:W.Frag):Sp:=λvs H Q _=>∃ d l n,vs=[.ref d,.int n]/\Feed H d l/\0<=n/\n<=10/\∀ p ns H',H p=none->ExtBut d H H'->Feed H' d l->H' p=some (.lst (ns.map V.str))->Names ns->ns.length=n.toNat->Q (.ref p) H'
def MN (H:Hp)(d l:Addr)(n st way sz at':Int):L2.St->Hp->Prop:=fun σ' H'=>∃ p ns x8 x9,σ'=[some (V.ref d),some (.int n),some (.str LL),some (.int st),some (.int way),some (.int (1+sz)),some (.int at'),some (.ref p),x8,x9,none]/\H p=none/\ExtBut d H H'/\Feed H' d l/\H' p=some (.lst (ns.map V.str))/\Names ns/\ns.length=10
theorem Pr {f:Addr}{fd:FuncData}(F:Fun K "_law_names" "_law_names" Dl f fd)(T:Gg mg)(A4:Fnd P w K mg base 1 "_law_draw" ["_law_feed_here","_law_many"] (Aq K)):FnOk P w K mg base CX0 2 f fd ["_law_feed_here","_law_many"] (Dv K):=by
 refine F.ok At (λvs H Q E h=>?_) (λcdv A outer s H vs Q E hr h=>?_)
 . obtain⟨d,l,n,rfl,_⟩:=h;rfl
 obtain⟨d,l,n,rfl,hF,hn0,hn1,k⟩:=h;have hu:=Cs hr;have hq:=Cu hr
 with_reducible refine⟨_,(A2 (Aa (i:=2) At.nd ⋯ (by with_unfolding_all exact A3P rfl) (Aj En Al A3))
  (A2 (Aa (i:=3) At.nd ⋯ (by with_unfolding_all exact A3P rfl) (An A4 (hr.mono nofun) ⋯ (A0 (pv 0) (A0 A3 A1))))
  (A2 (Aa (i:=4) At.nd ⋯ (by eq_refl) (An A4 (hr.mono nofun) ⋯ (A0 (pv 0) (A0 A3 A1))))
  (A2 (Aa (i:=5) At.nd ⋯ (by eq_refl) (Aj (Ab (K:=K)) A3 (An A4 (hr.mono nofun) ⋯ (A0 (pv 0) (A0 A3 A1)))))
  (A2 (Aa (i:=6) At.nd ⋯ (by eq_refl) (An A4 (hr.mono nofun) ⋯ (A0 (pv 0) (A0 (pv 5) A1))))
  (A2 (Aa (i:=7) At.nd ⋯ (by eq_refl) (Bc (A0 Al (A0 Al (A0 Al (A0 Al (A0 Al (A0 Al (A0 Al (A0 Al (A0 Al (A0 Al A1))))))))))))
  (A2 (Cd (Af (Bx (K:=K) hq) (pv 4) A3 (Av _)) (A8 (Aa (i:=7) At.nd ⋯ (by eq_refl) (Aj (Ab (K:=K)) (Fq ["_law_k"] ["_law_letters","_law_start"] [2,3] ⋯ ⋯ ⋯ (Bu ⋯ T.b_range (A0 A3 A1)) (λ_ _ _ _=>(Ad (i:=0) (by with_unfolding_all (show(["_law_k","_law_letters","_law_start"]:List Str).Nodup;decide +kernel)) ⋯ (by eq_refl))) (Ct nofun) (λ_ _ _ _=>Gu) (λ_ _ _ _=>(B4 (Mh (K:=K)) (pv 1) (B6 (pv 2)) (B6 (Aj (Ab (K:=K)) (Aj (Ab (K:=K)) (pv 2) A3) (pv 0)))))) (Bc (A0 (Ae (A6 (K:=K) hu) (pv 2) (Aj (Ab (K:=K)) (pv 3) A3) (by ac_rfl)) (A0 (Ae (A6 (K:=K) hu) (pv 2) (Aj (Ab (K:=K)) (pv 3) A3) (by ac_rfl)) A1)))))) Aw)
  (A2 (Cd (Af (Bx (K:=K) hq) (pv 4) A3 (Av _)) (A2 (Aa (i:=8) At.nd ⋯ (by with_unfolding_all exact A3P rfl) (B4 (Mh (K:=K)) (pv 2) (B6 (pv 3)) (B6 (Aj (Ab (K:=K)) (pv 3) (pv 6)))))
  (A2 (Aa (i:=9) At.nd ⋯ (by with_unfolding_all exact A3P rfl) (B4 (Mh (K:=K)) (pv 2) (B6 (Aj (Ab (K:=K)) (Aj (Ab (K:=K)) (pv 3) (pv 6)) A3)) (B6 (Aj (Ab (K:=K)) (pv 3) (pv 5)))))
  (A8 (Fi (i:=7) ["_law_k"] ["_law_head","_law_letters","_law_start","_law_tail"] [8,2,3,9] ⋯ ⋯ ⋯ At.nd ⋯ ⋯ (Bu ⋯ T.b_range (A0 A3 A1)) (λ_ _ _ _=>(Ad (i:=0) (by with_unfolding_all (show(["_law_k","_law_head","_law_letters","_law_start","_law_tail"]:List Str).Nodup;decide +kernel)) ⋯ (by eq_refl))) (Ct nofun) (λ_ _ _ _=>Gu) (λ_ _ _ _=>(Aj (Ab (K:=K)) (Aj (Ab (K:=K)) (pv 1) (Ae (A6 (K:=K) hu) (pv 2) (Aj (Ab (K:=K)) (pv 3) (Aj Kt (Aj En A3 (pv 0)) A3)) (by ac_rfl))) (pv 4))))))) Aw)
  (A2 (Cd (Af (Bx (K:=K) hq) (pv 4) A3 (Av _)) (A8 (Fi (i:=7) ["_law_k"] ["_law_letters","_law_start"] [2,3] ⋯ ⋯ ⋯ At.nd ⋯ ⋯ (Bu ⋯ T.b_range (A0 A3 A1)) (λ_ _ _ _=>(Ad (i:=0) (by with_unfolding_all (show(["_law_k","_law_letters","_law_start"]:List Str).Nodup;decide +kernel)) ⋯ (by eq_refl))) (Ct nofun) (λ_ _ _ _=>Gu) (λ_ _ _ _=>(B4 (Mh (K:=K)) (pv 1) (B6 (Aj (Ab (K:=K)) (pv 2) (pv 0))) (B6 (Aj (Ab (K:=K)) (Aj (Ab (K:=K)) (Aj (Ab (K:=K)) (pv 2) (pv 0)) A3) (Aj Kt (Aj En A3 (pv 0)) A3))))))) Aw)
  (A2 (Aa (i:=10) At.nd ⋯ (by eq_refl) (An A4 (hr.mono nofun) ⋯ (A0 (pv 0) (A0 A3 A1))))
  (A2 (Aa (i:=7) At.nd ⋯ (by eq_refl) (Aj (Ab (K:=K)) (B4 (Mh (K:=K)) (pv 7) (B6 (pv 10)) Ca) (B4 (Mh (K:=K)) (pv 7) Ca (B6 (pv 10)))))
  (A8 (As (R5 (B4 (Mh (K:=K)) (pv 7) Ca (B6 (pv 1))) (Ae (A6 (K:=K) hu) (Bc (A0 A3 (A0 (ad8 Wy A3) A1))) (An A4 (hr.mono nofun) ⋯ (A0 (pv 0) (A0 A3 A1))) (by ac_rfl)))))))))))))))),?_⟩
 symm
 refine ai6 nofun ?_;rw[al4]
 symm
 refine⟨d,l,_,rfl,hF,by omega,by omega,λst H1 hs0 hs1 e1 hF1=>?_⟩
 symm
 refine⟨d,l,_,rfl,hF1,by omega,by omega,λway H2 hw0 hw1 e2 hF2=>?_⟩
 symm
 refine⟨d,l,_,rfl,hF2,by omega,by omega,λsz H3 hz0 hz1 e3 hF3=>?_⟩
 symm
 refine⟨d,l,_,rfl,hF3,by omega,by omega,λat' H4 ha0 ha1 e4 hF4=>?_⟩
 symm
 refine Bb nofun λp5 H5 hp5 e5 h5=>?_;walk_at "rq";have fr4:ExtBut d H H4:=by walk_at "fr"
 have hF5:Feed H5 d l:=by walk_at "fd"
 with_reducible refine Op (MN H d l n st way sz at') (λN hN=>?_) (fun σ1 H6 hM=>?_)
 . walk_at "rq";refine Ly (λhw=>?_) (λhw=>?_)
   . walk_at "rq";refine Gf ∅ ?_;refine Nx B5 (fI λk=>.str (Txt.slice LL (some st) (some (st+1+k)))) (by simp) (λ_ _=>trivial) (λi x H6 R hx e6 hR=>?_) (λp6 H6 hp6 e6 h6=>?_)
     . obtain⟨rfl,hi⟩:=Ej hx;walk_at "rq";exact hR
     rw[Sn (G:=λk=>txt (Mw st.toNat (st.toNat+1+k))) (λk hk=>by
      have e:=Ur (i:=st) (j:=st+1+(0+(k:Int))) hs0 ∅ (by have:((8:Int)).toNat=8:=rfl;omega);have e2:(st+1+(0+(k:Int))).toNat=st.toNat+1+k:=by omega
      rw[e2] at e;rw[e])] at h6
     obtain⟨c9,hc9,e9⟩:=ac2 (i:=st+9) ∅ ∅;obtain⟨c10,hc10,e10⟩:=ac2 (i:=st+10) ∅ ∅;walk_at "rq";refine aj4 Sw hc9 ?_;walk_at "rq";refine aj4 Sw hc10 ?_;walk_at "rq";refine Bb (A7 (by simp)) λp7 H7 hp7 e7 h7=>?_;refine Sg (by walk_at "lk") h7 (by simp[sizeLine_eq]) λp8 H8 hp8 e8 h8=>?_;walk_at "rq";have f5:ExtBut d H H5:=by walk_at "fr"
     refine hN _ _ ⟨p8,(nm0 st.toNat).map txt,none,none,rfl,Feed.free (l:=l) (H':=H7) (by walk_at "fd") (by walk_at "fr") hp8,by walk_at "fr",by walk_at "fd",?_,ao9 ∅,by simp[nm0]⟩;rw[h8,e9,e10];have q9:(st+9).toNat=st.toNat+9:=by omega
     have q10:(st+10).toNat=st.toNat+10:=by omega
     rw[q9,q10];simp[nm0,Function.comp_def]
   walk_at "rq";refine hN _ _ ⟨p5,nm3,none,none,rfl,hF4.free fr4 hp5,by walk_at "fr",hF5,h5,al6,rfl⟩
 obtain⟨p,ns,x8,x9,rfl,hp,e6,hF6,h6,hN6,hl6⟩:=hM
 with_reducible refine Op (MN H d l n st way sz at') (λN hN=>?_) (fun σ1 H7 hM=>?_)
 . walk_at "rq";refine Ly (λhw=>?_) (λhw=>?_)
   . walk_at "rq";refine Gf ∅ ?_;have c1:=Ur (i:=st) (j:=st+at') hs0 ∅ ∅;have c2:=Ur (i:=st+at'+1) (j:=st+(1+sz)) ∅ ∅ ∅;rw[c1,c2];refine Nx B5 (fI λk=>.str (txt (Mw st.toNat (st+at').toNat)++txt (Pu (st+5*k % 26).toNat)++txt (Mw (st+at'+1).toNat (st+(1+sz)).toNat))) (by simp) (λ_ _=>trivial) (λi x H8 R hx e8 hR=>?_) (λp8 H8 hp8 e8 h8=>?_)
     . obtain⟨rfl,hi⟩:=Ej hx;have hm0:=A3S (5*(0+(i:Int))) (show(26:Int)≠0 by decide);have hm1:=A33 (5*(0+(i:Int))) (show(0:Int)<26 by decide);obtain⟨c,hc,ec⟩:=ac2 (i:=st+5*(0+(i:Int)) % 26) ∅ ∅;walk_at "rq";refine aj4 Sw hc ?_;rw[ec];have l1:(txt (Mw st.toNat (st+at').toNat)).length<=52:=by show(Mw _ _).toArray.size<=_;unfold Mw;simp[Kc];omega
       have l2:(txt (Mw (st+at'+1).toNat (st+(1+sz)).toNat)).length<=52:=by show(Mw _ _).toArray.size<=_;unfold Mw;simp[Kc];omega
       have l3:(txt (Pu (st+5*(0+(i:Int)) % 26).toNat)).length<=52:=by show(Pu _).toArray.size<=_;unfold Pu;simp[Kc];omega
       refine i_addS (A7 ∅) ?_;have l4:(txt (Mw st.toNat (st+at').toNat)++txt (Pu (st+5*(0+(i:Int)) % 26).toNat)).length<=104:=by rw[Str.length_append];omega
       walk_at "rq";exact hR
     rw[Sn (G:=λk=>txt (Mw st.toNat (st.toNat+at'.toNat)++Pu (st.toNat+5*k % 26)++Mw (st.toNat+at'.toNat+1) (st.toNat+(1+sz).toNat))) (λk hk=>by
      have q1:(st+at').toNat=st.toNat+at'.toNat:=by omega
      have q2:(st+5*(0+(k:Int)) % 26).toNat=st.toNat+5*k % 26:=by omega
      have q3:(st+at'+1).toNat=st.toNat+at'.toNat+1:=by omega
      have q4:(st+(1+sz)).toNat=st.toNat+(1+sz).toNat:=by omega
      rw[q1,q2,q3,q4,Yo,Yo])] at h8
     walk_at "rq";refine hN _ _ ⟨p8,(nm1 st.toNat (1+sz).toNat at'.toNat).map txt,_,_,rfl,hF6.free e6 hp8,by walk_at "fr",by walk_at "fd",?_,au7 ∅ ∅ ∅,by simp[nm1]⟩;rw[h8];simp[nm1,Function.comp_def]
   walk_at "rq";exact hN _ _ ⟨p,ns,x8,x9,rfl,hp,e6,hF6,h6,hN6,hl6⟩
 obtain⟨p',ns',x8',x9',rfl,hp',e7,hF7,h7,hN7,hl7⟩:=hM
 with_reducible refine Op (MN H d l n st way sz at') (λN hN=>?_) (fun σ1 H8 hM=>?_)
 . walk_at "rq";refine Ly (λhw=>?_) (λhw=>?_)
   . walk_at "rq";refine Gf ∅ ?_;refine Nx B5 (fI λk=>.str (Txt.slice LL (some (st+k)) (some (st+k+1+3*k % 8)))) (by simp) (λ_ _=>trivial) (λi x H8 R hx e8 hR=>?_) (λp8 H8 hp8 e8 h8=>?_)
     . obtain⟨rfl,hi⟩:=Ej hx;walk_at "rq";exact hR
     rw[Sn (G:=λk=>txt (Mw (st.toNat+k) (st.toNat+k+1+3*k % 8))) (λk hk=>by
      have h10:((10:Int)).toNat=10:=rfl;have e:=Ur (i:=st+(0+(k:Int))) (j:=st+(0+(k:Int))+1+3*(0+(k:Int)) % 8) ∅ ∅ ∅;have q1:(st+(0+(k:Int))).toNat=st.toNat+k:=by omega
      have q2:(st+(0+(k:Int))+1+3*(0+(k:Int)) % 8).toNat=st.toNat+k+1+3*k % 8:=by omega
      rw[q1,q2] at e;rw[e])] at h8
     walk_at "rq";refine hN _ _ ⟨p8,(nm2 st.toNat).map txt,_,_,rfl,hF7.free e7 hp8,by walk_at "fr",by walk_at "fd",?_,at6 ∅,by simp[nm2]⟩;rw[h8];simp[nm2,Function.comp_def]
   walk_at "rq";exact hN _ _ ⟨p',ns',x8',x9',rfl,hp',e7,hF7,h7,hN7,hl7⟩
 obtain⟨p2,ms,y8,y9,rfl,hp2,e8,hF8,h8,hN8,hl8⟩:=hM
 symm
 refine⟨d,l,_,rfl,hF8,by omega,by omega,λtn H9 ht0 ht1 e9 hF9=>?_⟩;have nd2:p2≠d:=hF8.lst h8
 symm
 have h9:H9 p2=some (.lst (ms.map V.str)):=e9 _ _ nd2 h8;refine Mu (SqL.of h9) λq1 H10 hq1 e10 h10=>?_
 symm
 refine Mu (SqL.of (show H10 p2=some (.lst (ms.map V.str)) by walk_at "lk")) λq2 H11 hq2 e11 h11=>?_
 symm
 rw[L3 ht0 (by rw[A01];omega)] at h10;rw[Jn ht0] at h11;refine Sg (by walk_at "lk") h11 (A7 (by simp;omega)) λq3 H12 hq3 e12 h12=>?_
 symm
 rw[<- A3K,<- A34,<- A0N] at h12;refine Mu (SqL.of h12) λq4 H13 hq4 e13 h13=>?_
 symm
 rw[Jn hn0,<- A34] at h13;refine Bb nofun λq5 H14 hq5 e14 h14=>?_
 symm
 refine⟨d,l,2,rfl,by walk_at "fd",by omega,by omega,λr H15 hr0 hr1 e15 hF15=>?_⟩;have hq5d:q5≠d:=Ne.symm (Feed.nd (H:=H13) (l:=l) (by walk_at "fd") hq5);have hq4d:q4≠d:=Ne.symm (Feed.nd (H:=H12) (l:=l) (by walk_at "fd") hq4);have h15:H15 q4=some (.lst (((ms.drop tn.toNat++ms.take tn.toNat).take n.toNat).map V.str)):=e15 _ _ hq4d (by walk_at "lk");have g15:H15 q5=some (.lst [V.int 1,V.int (-1)]):=e15 _ _ hq5d h14
 have hstep:∃ k,atI [V.int 1,V.int (-1)] r=some (V.int k)/\(k=1\/k = -1):=by
  rcases(by omega:r=0\/r=1) with rfl|rfl
  . exact⟨1,rfl,.inl rfl⟩
  exact⟨-1,rfl,.inr rfl⟩
 obtain⟨kk,hk1,hk2⟩:=hstep;refine Eh g15 hk1 ?_;refine at2 (SqL.of h15) hk2 λq6 H16 hq6 e16 h16=>?_;obtain⟨os,eo,ho1,ho2⟩:=W9 (k:=kk) (hN8.turn tn.toNat n.toNat);rw[eo] at h16;have fr15:ExtBut d H H15:=by walk_at "fr"
 refine k q6 os H16 (hF15.free fr15 hq6) (by walk_at "fr") (by walk_at "fd") h16 ho1 ?_;rw[ho2,A0U,A04,A14,A0U];omega
def B9 (K:W.Frag):Sp:=λvs H Q _=>∃ d l a xs,vs=[.ref d,.ref a]/\Feed H d l/\(SqL K H a xs\/SqT K H a xs)/\xs.length<=1000/\∀ p ys H',H p=none->ExtBut d H H'->Feed H' d l->H' p=some (.lst ys)->ys.Perm xs->Q (.ref p) H'
theorem Ky {f:Addr}{fd:FuncData}(F:Fun K "_law_shuffled" "_law_shuffled" Bt f fd)(T:Gg mg)(A4:Fnd P w K mg base 1 "_law_draw" ["_law_feed_here","_law_many"] (Aq K)):FnOk P w K mg base CX0 2 f fd ["_law_feed_here","_law_some"] (B9 K):=by
 refine F.ok Cz (λvs H Q E h=>?_) (λcdv A outer s H vs Q E hr h=>?_)
 . obtain⟨d,l,a,xs,rfl,_⟩:=h;rfl
 obtain⟨d,l,a,xs,rfl,hF,hS,hx,k⟩:=h;have hu:=Cs hr;have hq:=Cu hr
 with_reducible refine⟨_,(A2 (Aa (i:=2) Cz.nd ⋯ (by eq_refl) (Ba (Np (K:=K)) ⋯ T.b_list PyProof.Rows.Boot.«list» (A0 (pv 1) A1)))
  (A2 (Aa (i:=3) Cz.nd ⋯ (by eq_refl) (Bc A1))
  (A2 (Du A11 ⋯ (Bu ⋯ T.b_range (A0 (Ac (Au (K:=K)) ⋯ T.b_len PyProof.Rows.Boot.«len» (A0 (pv 2) A1)) A1)) (Ad (i:=4) Cz.nd ⋯ (by eq_refl))
  (A8 (Dz (Fv (K:=K) A0Y A1H A1I (mm Dq) (pv 3) (A0 (Fv (K:=K) A0Y PySem.F.slot_list_pop PySem.F.type_list_pop (mm a39) (pv 2) (A0 (An A4 (hr.mono nofun) ⋯ (A0 (pv 0) (A0 (Ac (Au (K:=K)) ⋯ T.b_len PyProof.Rows.Boot.«len» (A0 (pv 2) A1)) A1))) A1)) A1)))))
  (A8 (As (pv 3)))))),?_⟩
 symm
 refine af1 hS λq H1 hq1 e1 h1=>?_
 symm
 refine Bb nofun λp H2 hp2 e2 h2=>?_
 symm
 refine Gf ∅ ?_;have hp0:H p=none:=e1.free hp2;have hpq:p≠q:=λz=>by subst z;rw[h1] at hp2;cases hp2
 refine Ez B5 (λi σ H3=>∃ us vs x4,σ=[some (.ref d),some (.ref a),some (.ref q),some (.ref p),x4]/\ExtBut d H H3/\Feed H3 d l/\H3 q=some (.lst us)/\H3 p=some (.lst vs)/\(vs++us).Perm xs/\us.length+i=xs.length/\vs.length=i)
  ⟨xs,[],none,rfl,by walk_at "fr",by walk_at "fd",by walk_at "lk",h2,by simp,rfl,rfl⟩ (λ_ _ _ _=>trivial) (λi x σ H3 hx3 hi hP=>?_) (fun σ H3 hP=>?_)
 . obtain⟨us,vs,x4,rfl,e3,hF3,h3q,h3p,hperm,hlen,hvl⟩:=hP;obtain⟨rfl,hi2⟩:=Ej hx3;have hi3:i<xs.length:=by simpa using hi2
   symm
   refine⟨d,l,_,rfl,hF3,by omega,by omega,λr H4 hr0 hr1 e4 hF4=>?_⟩;have h4q:H4 q=some (.lst us):=e4 _ _ (hF3.lst h3q) h3q;have h4p:H4 p=some (.lst vs):=e4 _ _ (hF3.lst h3p) h3p;have hr2:r.toNat<us.length:=by omega
   symm
   refine a38 h4q hr0 (A07 hr2) (λH5 e5 h5q=>?_) ∅;have h5p:H5 p=some (.lst vs):=e5 _ _ hpq h4p
   symm
   refine Kq h5p ∅ λH6 e6 h6p=>?_
   symm
   refine⟨us.eraseIdx r.toNat,vs++[us[r.toNat]],_,rfl,by walk_at "fr",(hF4.put e5 (hF.nd hq1) (hF.nl hq1)).put e6 (hF.nd hp0) (hF.nl hp0),e6 _ _ (Ne.symm hpq) h5q,h6p,?_,?_,by simp[hvl]⟩
   . exact(a67 (A07 hr2) vs).trans hperm
   rw[List.length_eraseIdx,A12 hr2];omega
 obtain⟨us,vs,x4,rfl,e3,hF3,h3q,h3p,hperm,hlen,hvl⟩:=hP
 symm
 have hu0:us=[]:=by rw[A01,A1L] at hlen;exact A1E.mp ∅
 subst hu0;rw[A1R] at hperm;exact k p vs H3 hp0 e3 hF3 h3p hperm
def Gi (K:W.Frag):Sp:=λvs H Q _=>∃ d l a ls,vs=[.ref d,.ref a]/\Feed H d l/\H a=some (.lst (ls.map V.str))/\ls.length<=10/\∀ p xs ps H',H p=none->ExtBut d H H'->Feed H' d l->H' p=some (.lst xs)->IsL K H' (ps.map prD) xs->Up ls ps->ps.length<=100->Q (.ref p) H'
def MP (K:W.Frag)(H:Hp)(d l a:Addr)(ls:List Str)(way:Int)(E:Prop):L2.St->Hp->Prop:=fun σ' H'=>∃ p xs ps x5 x6 x7 x8,σ'=[some (V.ref d),some (.ref a),some (.int (ls.length:Nat)),some (.int way),some (.ref p),x5,x6,x7,x8]/\H p=none/\ExtBut d H H'/\Feed H' d l/\H' p=some (.lst xs)/\IsL K H' (ps.map prD) xs/\Up ls ps/\ps.length<=100/\(E->ps=[])
theorem Lb {K:W.Frag}{H:Hp}{ps:List (Str×Str)}{xs:List V}(h:IsL K H (ps.map prD) xs):xs.length=ps.length:=by rw[<- IsL.length h,A01]
theorem Pq {f:Addr}{fd:FuncData}(F:Fun K "_law_pairs" "_law_pairs" Dn f fd)(T:Gg mg)(A4:Fnd P w K mg base 1 "_law_draw" ["_law_feed_here","_law_many"] (Aq K)):FnOk P w K mg base CX0 2 f fd ["_law_feed_here","_law_line"] (Gi K):=by
 refine F.ok B2 (λvs H Q E h=>?_) (λcdv A outer s H vs Q E hr h=>?_)
 . obtain⟨d,l,a,xs,rfl,_⟩:=h;rfl
 obtain⟨d,l,a,ls,rfl,hF,hA,hl,k⟩:=h;have hu:=Cs hr;have hq:=Cu hr
 with_reducible refine⟨_,(A2 (Aa (i:=2) B2.nd ⋯ (by eq_refl) (Ac (Au (K:=K)) ⋯ T.b_len PyProof.Rows.Boot.«len» (A0 (pv 1) A1)))
  (A2 (Aa (i:=3) B2.nd ⋯ (by eq_refl) (An A4 (hr.mono nofun) ⋯ (A0 (pv 0) (A0 A3 A1))))
  (A2 (Aa (i:=4) B2.nd ⋯ (by eq_refl) (Bc A1))
  (A2 (Cd (PW.pt (Kx (Af a56 (pv 3) A3 (Av _)) (Hf (Af a51 (pv 2) A3 (Av _))))) (A8 (Du A11 ⋯ (Bu ⋯ T.b_range (A0 (Ae (A6 (K:=K) hu) (Bc (A0 (Aj Ij (pv 2) A3) (A0 (pv 2) (A0 (Aj En A3 (pv 2)) A1)))) (pv 3) (by ac_rfl)) A1)) (Ad (i:=5) B2.nd ⋯ (by eq_refl))
  (A2 (Aa (i:=6) B2.nd ⋯ (by eq_refl) (An A4 (hr.mono nofun) ⋯ (A0 (pv 0) (A0 (Aj Hb (pv 2) A3) A1))))
  (A8 (Dz (Fv (K:=K) A0Y A1H A1I (mm Dq) (pv 4) (A0 (Ao (A0 (Ae (A6 (K:=K) hu) (pv 1) (pv 6) (by ac_rfl)) (A0 (Ae (A6 (K:=K) hu) (pv 1) (Aj (Ab (K:=K)) (Aj (Ab (K:=K)) (pv 6) A3) (An A4 (hr.mono nofun) ⋯ (A0 (pv 0) (A0 (Aj Hb (Aj Hb (pv 2) A3) (pv 6)) A1)))) (by ac_rfl)) A1))) A1))))))) Aw)
  (A2 (Cd (Af (Bx (K:=K) hq) (pv 3) A3 (Av _)) (A2 (Aa (i:=7) B2.nd ⋯ (by with_unfolding_all exact A3P rfl) (An A4 (hr.mono nofun) ⋯ (A0 (pv 0) (A0 (Aj (Ab (K:=K)) (pv 2) A3) A1))))
  (A8 (Fi (i:=4) ["_law_k"] ["_law_line","_law_cut"] [1,7] ⋯ ⋯ ⋯ B2.nd ⋯ ⋯ (Bu ⋯ T.b_range (A0 (Aj Hb (pv 2) A3) A1)) (λ_ _ _ _=>(Ad (i:=0) (by with_unfolding_all (show(["_law_k","_law_line","_law_cut"]:List Str).Nodup;decide +kernel)) ⋯ (by eq_refl))) (Ct nofun) (λ_ _ _ _=>(Hq (Af (Iv (K:=K) hq) (Aj (Ab (K:=K)) (pv 0) A3) (pv 2) (Av _)))) (λ_ _ _ _=>(Ao (A0 (Ae (A6 (K:=K) hu) (pv 1) (pv 0) (by ac_rfl)) (A0 (Ae (A6 (K:=K) hu) (pv 1) (Aj (Ab (K:=K)) (pv 0) A3) (by ac_rfl)) A1))))))) Aw)
  (A2 (Cd (Af (Bx (K:=K) hq) (pv 3) A3 (Av _)) (A8 (Fi (i:=4) ["_law_k"] ["_law_line","_law_feed_here"] [1,0] ⋯ ⋯ ⋯ B2.nd ⋯ ⋯ (Rc ⋯ T.b_range (A0 A3 (A0 (pv 2) A1))) (λ_ _ _ _=>(Ad (i:=0) (by with_unfolding_all (show(["_law_k","_law_line","_law_feed_here"]:List Str).Nodup;decide +kernel)) ⋯ (by eq_refl))) (Ct nofun) (λ_ _ _ _=>(Hq (Af a51 (An A4 (hr.mono nofun) ⋯ (A0 (pv 2) (A0 A3 A1))) A3 (Av _)))) (λ_ _ _ _=>(Ao (A0 (Ae (A6 (K:=K) hu) (pv 1) (An A4 (hr.mono nofun) ⋯ (A0 (pv 2) (A0 (pv 0) A1))) (by ac_rfl)) (A0 (Ae (A6 (K:=K) hu) (pv 1) (pv 0) (by ac_rfl)) A1)))))) Aw)
  (A2 (Cd (Af (Bx (K:=K) hq) (pv 3) A3 (Av _)) (A2 (Aa (i:=7) B2.nd ⋯ (by with_unfolding_all exact A3P rfl) (An A4 (hr.mono nofun) ⋯ (A0 (pv 0) (A0 (Aj (Ab (K:=K)) (pv 2) A3) A1))))
  (A8 (Du A11 ⋯ (Bp (K:=K) hu (B4 (Mh (K:=K)) (pv 1) Ca (B6 (pv 7)))) (Ad (i:=8) B2.nd ⋯ (by with_unfolding_all exact A3P rfl))
  (A8 (Dz (Fv (K:=K) A0Y A47 A48 (mm Mc) (pv 4) (A0 (Fq ["_law_other"] ["_law_one"] [8] ⋯ ⋯ ⋯ (Bp (K:=K) hu (B4 (Mh (K:=K)) (pv 1) (B6 (pv 7)) Ca)) (λ_ _ _ _=>(Ad (i:=0) (by with_unfolding_all (show(["_law_other","_law_one"]:List Str).Nodup;decide +kernel)) ⋯ (by eq_refl))) (Ct nofun) (λ_ _ _ _=>Gu) (λ_ _ _ _=>(Ao (A0 (pv 1) (A0 (pv 0) A1))))) A1))))))) Aw)
  (A8 (As (pv 4)))))))))),?_⟩
 symm
 rw[A01];refine⟨d,l,_,rfl,hF,by omega,by omega,λway H1 hw0 hw1 e1 hF1=>?_⟩;have had:a≠d:=hF.lst hA
 symm
 refine Bb nofun λp H2 hp2 e2 h2=>?_;walk_at "rq";have hp0:H p=none:=hF1.free e1 hp2;have hF2:Feed H2 d l:=by walk_at "fd"
 have hA2:H2 a=some (.lst (ls.map V.str)):=by walk_at "lk"
 with_reducible refine Op (MP K H d l a ls way (way=5)) (λN hN=>?_) (fun σ1 H3 hM=>?_)
 . walk_at "rq";have done0:N [some (V.ref d),some (.ref a),some (.int (ls.length:Nat)),some (.int way),some (.ref p),none,none,none,none] H2:=hN _ _ ⟨p,[],[],none,none,none,none,rfl,hp0,by walk_at "fr",hF2,h2,.nil,.nil,by decide,λ_=>rfl⟩;refine Ly (λhw=>?_) (λhw=>?_)
   . walk_at "rq";refine Ly (λhm=>?_) (λhm=>?_)
     . walk_at "rq";refine Bb (A7 (by simp)) λq H3 hq3 e3 h3=>?_
       have hm3:∃ m,atI [V.int ((ls.length:Nat) / 2),V.int (ls.length:Nat),V.int (3*(ls.length:Nat))] way=some (V.int m)/\0<=m/\m<=30:=by
        rcases(by omega:way=0\/way=1\/way=2) with rfl|rfl|rfl
        . exact⟨_,rfl,by omega,by omega⟩
        . exact⟨_,rfl,by omega,by omega⟩
        exact⟨_,rfl,by omega,by omega⟩
       obtain⟨m,hm1,hm2,hm3⟩:=hm3;walk_at "rq";refine Eh h3 hm1 ?_;walk_at "rq";refine Gf ∅ ?_
       refine Ez B5 (λi σ H4=>∃ xs ps x5 x6,σ=[some (V.ref d),some (.ref a),some (.int (ls.length:Nat)),some (.int way),some (.ref p),x5,x6,none,none]/\ExtBut d H H4/\Feed H4 d l/\H4 p=some (.lst xs)/\IsL K H4 (ps.map prD) xs/\Up ls ps/\ps.length=i)
        ⟨[],[],none,none,rfl,by walk_at "fr",by walk_at "fd",by walk_at "lk",.nil,.nil,rfl⟩ (λ_ _ _ _=>trivial) (λi x σ H4 hx4 hi hP=>?_) (fun σ H4 hP=>?_)
       . obtain⟨xs,ps,x5,x6,rfl,e4,hF4,h4,hI4,hU,hpl⟩:=hP;obtain⟨rfl,hi2⟩:=Ej hx4;have hA4:H4 a=some (.lst (ls.map V.str)):=e4 _ _ had hA
         symm
         refine⟨d,l,_,rfl,hF4,by omega,by omega,λu H5 hu0 hu1 e5 hF5=>?_⟩;obtain⟨z1,hz1,hz1',_⟩:=str_at? (ls:=ls) (i:=u) hu0 ∅;have hA5:H5 a=some (.lst (ls.map V.str)):=e5 _ _ had hA4;have h5:H5 p=some (.lst xs):=e5 _ _ (hF4.lst h4) h4
         symm
         refine Eh hA5 hz1' ?_
         symm
         refine⟨d,l,_,rfl,hF5,by omega,by omega,λu2 H6 hv0 hv1 e6 hF6=>?_⟩;obtain⟨z2,hz2,hz2',_⟩:=str_at? (ls:=ls) (i:=u+1+u2) ∅ ∅;have hA6:H6 a=some (.lst (ls.map V.str)):=e6 _ _ had hA5;have h6:H6 p=some (.lst xs):=e6 _ _ (hF5.lst h5) h5
         symm
         refine Eh hA6 hz2' ?_
         symm
         refine Ap (A7 (by simp)) λt H7 ht7 e7 h7=>?_;have h7p:H7 p=some (.lst xs):=e7 _ _ h6;have hxl:=Lb hI4
         symm
         refine Kq h7p ∅ λH8 e8 h8=>?_
         symm
         have fz8:Fz H7 H8:=e8.fzL h7p;have fz7:Fz H4 H7:=((hF4.fz e5).trans (hF5.fz e6)).trans e7.fz;refine⟨xs++[.ref t],ps++[(z1,z2)],_,_,rfl,by walk_at "fr",by walk_at "fd",h8,?_,?_,by simp[hpl]⟩
         . rw[A0N];exact(IsL.fz (fz7.trans fz8) _ _ (Bs ps) hI4).append (.one ((Mb (SqT.of h7)).pr_fz fz8))
         exact hU.append (.one ∅ hz1 hz2)
       obtain⟨xs,ps,x5,x6,rfl,e4,hF4,h4,hI4,hU,hpl⟩:=hP;rw[A01,A1L] at hpl;exact hN _ _ ⟨p,xs,ps,_,_,_,_,rfl,hp0,e4,hF4,h4,hI4,hU,by omega,λq=>by omega⟩
     walk_at "rq";exact done0
   walk_at "rq";exact done0
 obtain⟨p3,xs3,ps3,x5,x6,x7,x8,rfl,hp3,e3,hF3,h3,hI3,hU3,hl3,hE3⟩:=hM;have hA3:H3 a=some (.lst (ls.map V.str)):=e3 _ _ had hA
 with_reducible refine Op (MP K H d l a ls way (way=5)) (λN hN=>?_) (fun σ1 H4 hM=>?_)
 . walk_at "rq";refine Ly (λhw=>?_) (λhw=>?_)
   . symm
     refine⟨d,l,_,rfl,hF3,by omega,by omega,λcut H4 hc0 hc1 e4 hF4=>?_⟩;have hA4:H4 a=some (.lst (ls.map V.str)):=e4 _ _ had hA3
     symm
     refine Gf ∅ ?_;refine G2 (K:=K) B5 (List.range ((ls.length:Nat)-1:Int).toNat) (by simp) (λk=>!decide (V.int ((0:Int)+(k:Nat)+1)=V.int cut)) (λk=>prD (ls.getD k "",ls.getD (k+1) "")) (λ_=>Iq _) (by simp;omega) (λ_ _=>trivial) (λi k v H5 R R' hk hv e5 hR hR'=>?_) (λp5 ys H5 hp5 e5 h5 hI5=>?_)
     . obtain⟨rfl,hi2⟩:=Ej hv
       have hki:i=k:=by obtain⟨_,h2⟩:=A03.mp hk;rw[List.getElem_range] at h2;exact h2
       subst hki;have hA5:H5 a=some (.lst (ls.map V.str)):=e5 _ _ hA4
       symm
       refine aq9 (λhc=>?_) (λhc=>?_)
       . obtain⟨z1,hz1,hz1',_⟩:=str_at? (ls:=ls) (i:=0+(i:Int)) ∅ ∅;obtain⟨z2,hz2,hz2',_⟩:=str_at? (ls:=ls) (i:=0+(i:Int)+1) ∅ ∅
         symm
         refine Eh hA5 hz1' ?_
         symm
         refine Eh hA5 hz2' ?_
         symm
         refine Ap (A7 (by simp)) λt H6 ht6 e6 h6=>?_;have q1:(0+(i:Int)).toNat=i:=by omega
         have q2:(0+(i:Int)+1).toNat=i+1:=by omega
         rw[q1] at hz1;rw[q2] at hz2;refine hR (by rw[A0R hc];rfl) _ _ e6 ?_;rw[Xp hz1,Xp hz2];exact Mb (SqT.of h6)
       exact hR' (by rw[A0P hc];rfl) _ (Same.refl _)
     symm
     rw[X8] at hI5;have hp0':H p5=none:=hF4.free (by walk_at "fr") hp5;refine hN _ _ ⟨p5,ys,_,_,_,_,_,rfl,hp0',by walk_at "fr",by walk_at "fd",h5,hI5,λpr hpr=>?_,?_,λq=>by cases hw;cases q⟩
     . obtain⟨j,hj,rfl⟩:=A0K.mp hpr;have hj:=A2K.mp (A0X.mp hj).1;exact⟨j,j+1,by omega,Ii ∅,Ii ∅⟩
     rw[A01];refine A0L (A1Q _ _) ?_;rw[A1L];omega
   walk_at "rq";exact hN _ _ ⟨p3,xs3,ps3,x5,x6,x7,x8,rfl,hp3,e3,hF3,h3,hI3,hU3,hl3,hE3⟩
 obtain⟨p4,xs4,ps4,y5,y6,y7,y8,rfl,hp4,e4,hF4,h4,hI4,hU4,hl4,hE4⟩:=hM;have hA4:H4 a=some (.lst (ls.map V.str)):=e4 _ _ had hA
 with_reducible refine Op (MP K H d l a ls way (way=5)) (λN hN=>?_) (fun σ1 H5 hM=>?_)
 . walk_at "rq";refine Ly (λhw=>?_) (λhw=>?_)
   . symm
     refine ab9 ∅ ?_;refine J4 B5 (λp i acc H5=>∃ ps,ExtBut d H H5/\Feed H5 d l/\IsL K H5 (ps.map prD) acc/\Up ls ps/\ps.length<=i) (λp H5 hp e5 h5=>⟨[],by walk_at "fr",by walk_at "fd",.nil,.nil,A06 _⟩) (λ_ _ _ _ _=>trivial) (λp i x acc H5 hp hx hi hl5 ha hP=>?_) λp acc H5 hp ha hl5 hP=>?_
     . obtain⟨ps,e5,hF5,hI5,hU5,hpl5⟩:=hP;obtain⟨rfl,hi2⟩:=Ej hx;have hp0':H p=none:=hF4.free e4 hp;have hpd:p≠d:=Ne.symm (hF4.nd hp)
       symm
       refine⟨d,l,_,rfl,hF5,by omega,by omega,λu H6 hu0 hu1 e6 hF6=>?_⟩
       symm
       have h6:H6 p=some (.lst acc):=e6 _ _ hpd ha;have hA6:H6 a=some (.lst (ls.map V.str)):=e6 _ _ had (e5 _ _ had hA);refine Ly (λhc=>?_) (λhc=>?_)
       . symm
         refine⟨d,l,_,rfl,hF6,by omega,by omega,λu2 H7 hv0 hv1 e7 hF7=>?_⟩;have h7:H7 p=some (.lst acc):=e7 _ _ hpd h6;have hA7:H7 a=some (.lst (ls.map V.str)):=e7 _ _ had hA6;obtain⟨z1,hz1,hz1',_⟩:=str_at? (ls:=ls) (i:=u2) hv0 ∅;obtain⟨z2,hz2,hz2',_⟩:=str_at? (ls:=ls) (i:=1+(i:Int)) ∅ ∅
         symm
         refine Eh hA7 hz1' ?_
         symm
         refine Eh hA7 hz2' ?_
         symm
         refine Ap (A7 (by simp)) λt H8 ht8 e8 h8=>?_;have h8p:H8 p=some (.lst acc):=e8 _ _ h7;refine Mg (by simp;omega) hi hl5 h8p λH9 e9 h9=>?_;have fz9:Fz H8 H9:=e9.fzL h8p;have fz8:Fz H5 H8:=((hF5.fz e6).trans (hF6.fz e7)).trans e8.fz;refine⟨ps++[(z1,z2)],by walk_at "fr",by walk_at "fd",?_,hU5.append (.one ∅ hz1 hz2),by simp[hpl5]⟩;rw[A0N];exact(IsL.fz (fz8.trans fz9) _ _ (Bs ps) hI5).append (.one ((Mb (SqT.of h8)).pr_fz fz9))
       refine Pe hi hl5 h6 ⟨ps,by walk_at "fr",hF6,IsL.fz (hF5.fz e6) _ _ (Bs ps) hI5,hU5,by omega⟩
     obtain⟨ps,e5,hF5,hI5,hU5,hpl5⟩:=hP;rw[A01,A1L] at hpl5
     symm
     exact hN _ _ ⟨p,acc,ps,_,_,_,_,rfl,hF4.free e4 hp,e5,hF5,ha,hI5,hU5,by omega,λq=>by cases hw;cases q⟩
   walk_at "rq";exact hN _ _ ⟨p4,xs4,ps4,_,_,_,_,rfl,hp4,e4,hF4,h4,hI4,hU4,hl4,hE4⟩
 obtain⟨p5,xs5,ps5,z5,z6,z7,z8,rfl,hp5,e5,hF5,h5,hI5,hU5,hl5,hE5⟩:=hM;have hA5:H5 a=some (.lst (ls.map V.str)):=e5 _ _ had hA
 with_reducible refine Op (MP K H d l a ls way False) (λN hN=>?_) (fun σ1 H6 hM=>?_)
 . walk_at "rq";refine Ly (λhw=>?_) (λhw=>?_)
   . symm
     refine⟨d,l,_,rfl,hF5,by omega,by omega,λcut H6 hc0 hc1 e6 hF6=>?_⟩;have hA6:H6 a=some (.lst (ls.map V.str)):=e6 _ _ had hA5;have h6:H6 p5=some (.lst xs5):=e6 _ _ (hF5.lst h5) h5
     symm
     refine Mu (SqL.of hA6) λq H7 hq7 e7 h7=>?_;rw[Jn hc0,<- A34] at h7;have hq0:H q=none:=hF6.free (by walk_at "fr") hq7;have hp5n:p5≠q:=ne_of_none h6 hq7;refine Mq (SqL.of h7) ?_
     have hway:way=5:=by cases hw;rfl
     have hps:ps5=[]:=hE5 hway;subst hps;have hxs:xs5=[]:=by simpa only[List.map_nil,L2.IsL] using hI5
     subst hxs;have hdrop:∀ H8,ExtBut d H H8->H8 a=some (.lst (ls.map V.str)):=λH8 e8=>e8 _ _ had hA
     refine Ez (Cv (xs:=(ls.take cut.toNat).map V.str)) (λi σ H8=>∃ xs ps x8,σ=[some (V.ref d),some (.ref a),some (.int (ls.length:Nat)),some (.int way),some (.ref p5),z5,z6,some (.int cut),x8]/\ExtBut d H H8/\Feed H8 d l/\H8 q=some (.lst ((ls.take cut.toNat).map V.str))/\H8 p5=some (.lst xs)/\IsL K H8 (ps.map prD) xs/\Up ls ps/\ps.length<=i*10)
      ⟨[],[],_,rfl,by walk_at "fr",by walk_at "fd",h7,by walk_at "lk",.nil,.nil,by decide⟩ (λi σ H8 hP=>?_) (λi x σ H8 hx8 hi hP=>?_) (fun σ H8 hP=>?_)
     . obtain⟨xs,ps,x8,rfl,e8,hF8,hq8,_⟩:=hP;exact SqL.of hq8
     . obtain ⟨xs,ps,x8,rfl,e8,hF8,hq8,h8,hI8,hU8,hl8⟩:=hP;rw[A09] at hx8
       cases hz:(ls.take cut.toNat)[i]? with
       |none=>rw[hz] at hx8;cases hx8
       |some one=>
         rw[hz] at hx8
         cases hx8
         have hi10:i<10:=by have:=A03.mp hz;obtain⟨h1,_⟩:=this;rw[A0U] at h1;omega
         have hone:ls[i]? = some one:=by
          rw[List.getElem?_take] at hz
          split at hz
          . exact hz
          cases hz
         have hicut:i<cut.toNat:=by
          rw[List.getElem?_take] at hz
          split at hz
          . assumption
          cases hz
         symm
         refine Mu (SqL.of (hdrop H8 e8)) λq9 H9 hq9 e9 h9=>?_;rw[L3 hc0 (by rw[A01];omega),<- A3K] at h9;refine Mq (SqL.of h9) ?_;refine G2 (K:=K) (Cv (xs:=(ls.drop cut.toNat).map V.str)) (ls.drop cut.toNat) (by simp) (λ_=>true) (λo=>prD (one,o)) (λ_=>Iq _) (by simp;omega) (λH' e'=>SqL.of (e' _ _ h9)) (λj o v H10 R R' ho hv e10 hR hR'=>?_) (λp10 ys H10 hp10 e10 h10 hI10=>?_)
         . rw[A09,ho] at hv
           cases hv
           symm
           refine Ap (A7 (by simp)) λt H11 ht11 e11 h11=>?_;exact hR rfl _ _ e11 (Mb (SqT.of h11))
         symm
         have h10p:H10 p5=some (.lst xs):=e10 _ _ (e9 _ _ h8)
         have hy:ys.length<=10:=by have:=IsL.length hI10;rw[A01,Jb,A14] at this;omega
         have hxl:=Lb hI8;refine Xy h10p h10 ∅ λH11 e11 h11=>?_
         symm
         have hq10:H10 q=some (.lst ((ls.take cut.toNat).map V.str)):=e10 _ _ (e9 _ _ hq8);have fz11:Fz H10 H11:=e11.fzL h10p;rw[Jb,X8] at hI10;refine⟨xs++ys,ps++(ls.drop cut.toNat).map (λo=>(one,o)),_,rfl,by walk_at "fr",by walk_at "fd",e11 _ _ (Ne.symm hp5n) hq10,h11,?_,hU8.append λpr hpr=>?_,?_⟩
         . rw[A0N];exact(IsL.fz ((e9.fz.trans e10.fz).trans fz11) _ _ (Bs ps) hI8).append (IsL.fz fz11 _ _ (Bs _) hI10)
         . obtain⟨o,ho,rfl⟩:=A0K.mp hpr;obtain⟨j,hj,ej⟩:=A2I ho;refine⟨i,cut.toNat+j,by omega,hone,?_⟩;rw[<- A53,A07 hj,ej]
         rw[A04,A01,A14,Nat.add_mul];omega
     obtain⟨xs,ps,x8,rfl,e8,hF8,hq8,h8,hI8,hU8,hl8⟩:=hP;rw[A01,A0U] at hl8;exact hN _ _ ⟨p5,xs,ps,_,_,_,_,rfl,hp5,e8,hF8,h8,hI8,hU8,by omega,False.elim⟩
   walk_at "rq";exact hN _ _ ⟨p5,xs5,ps5,_,_,_,_,rfl,hp5,e5,hF5,h5,hI5,hU5,hl5,False.elim⟩
 obtain⟨p6,xs6,ps6,w5,w6,w7,w8,rfl,hp6,e6,hF6,h6,hI6,hU6,hl6,hE6⟩:=hM
 symm
 exact k p6 xs6 ps6 H6 hp6 e6 hF6 h6 hI6 hU6 hl6
def Fk (K:W.Frag):Sp:=λvs H Q _=>∃ d l a ls,vs=[.ref d,.ref a]/\Feed H d l/\H a=some (.lst (ls.map V.str))/\ls.length<=10/\∀ v ps H',ExtBut d H H'->Feed H' d l->Is K H' (psD ps) v->Up ls ps->ps.length<=60->Q v H'
theorem ae1 {K:W.Frag}{H:Hp}{ps:List (Str×Str)}{xs:List V}{p:Str×Str}{v:V}(n:Nat)(h:IsL K H (ps.map prD) xs)(hv:Is K H (prD p) v):IsL K H ((ps.take n++p :: ps.drop n).map prD) (az1 xs n v):=by rw[A0N,A0Q,A34,A3K];exact(IsL.take n h).append (.cons hv (IsL.drop n h))
theorem Lw {f:Addr}{fd:FuncData}(F:Fun K "_law_sayings" "_law_sayings" C5 f fd)(T:Gg mg)(A4:Fnd P w K mg base 1 "_law_draw" ["_law_feed_here","_law_many"] (Aq K))(Hi:Fnd P w K mg base 2 "_law_pairs" ["_law_feed_here","_law_line"] (Gi K)):FnOk P w K mg base CX0 3 f fd ["_law_feed_here","_law_line"] (Fk K):=by
 refine F.ok Dp (λvs H Q E h=>?_) (λcdv A outer s H vs Q E hr h=>?_)
 . obtain⟨d,l,a,xs,rfl,_⟩:=h;rfl
 obtain⟨d,l,a,ls,rfl,hF,hA,hl,k⟩:=h;have hu:=Cs hr;have hq:=Cu hr
 with_reducible refine⟨_,(A2 (Aa (i:=2) Dp.nd ⋯ (by eq_refl) (Bc A1))
  (A2 (Du A11 ⋯ (Bp (K:=K) hu (An Hi (hr.mono nofun) ⋯ (A0 (pv 0) (A0 (pv 1) A1)))) (Ad (i:=3) Dp.nd ⋯ (by eq_refl))
  (A8 (Du A11 ⋯ (Bu ⋯ T.b_range (A0 (Aj (Ab (K:=K)) A3 (Ba Qr ⋯ T.b_int PyProof.Rows.Boot.«int» (A0 (Fp (Bx (K:=K) hq) (An A4 (hr.mono nofun) ⋯ (A0 (pv 0) (A0 A3 A1))) A3 (Av _)) A1))) A1)) (Ad (i:=4) Dp.nd ⋯ (by eq_refl))
  (A8 (Dz (Fv (K:=K) A0Y PySem.F.slot_list_insert PySem.F.type_list_insert (mm Z8) (pv 2) (A0 (An A4 (hr.mono nofun) ⋯ (A0 (pv 0) (A0 (Aj (Ab (K:=K)) (Ac (Au (K:=K)) ⋯ T.b_len PyProof.Rows.Boot.«len» (A0 (pv 2) A1)) A3) A1))) (A0 (pv 3) A1))))))))
  (A8 (As (Ba (C0 (K:=K)) ⋯ T.b_tuple PyProof.Rows.Boot.«tuple» (A0 (B4 (Mh (K:=K)) (pv 2) Ca (B6 A3)) A1)))))),?_⟩
 symm
 refine Bb nofun λp H1 hp1 e1 h1=>?_;have hA1:H1 a=some (.lst (ls.map V.str)):=e1 _ _ hA;have hF1:Feed H1 d l:=hF.same e1
 symm
 refine⟨d,l,a,ls,rfl,hF1,hA1,hl,λq xs ps H2 hq2 e2 hF2 h2 hI2 hU2 hl2=>?_⟩;have hpd:p≠d:=Ne.symm (hF.nd hp1);have h2p:H2 p=some (.lst []):=e2 _ _ hpd h1;have hpq:p≠q:=ne_of_none h1 hq2;have hq0:H q=none:=e1.free hq2;have hxl:=Lb hI2;refine Mq (SqL.of h2) ?_
 refine Ez (Cv (xs:=xs)) (λi σ H3=>∃ ys qs x3 x4,σ=[some (V.ref d),some (.ref a),some (.ref p),x3,x4]/\ExtBut d H H3/\Feed H3 d l/\H3 q=some (.lst xs)/\Fz H2 H3/\H3 p=some (.lst ys)/\IsL K H3 (qs.map prD) ys/\Up ls qs/\qs.length<=i*2)
  ⟨[],[],_,_,rfl,by walk_at "fr",hF2,h2,.refl _,h2p,.nil,.nil,by decide⟩ (λi σ H3 hP=>?_) (λi x σ H3 hx3 hi hP=>?_) (fun σ H3 hP=>?_)
 . obtain⟨ys,qs,x3,x4,rfl,e3,hF3,hq3,_⟩:=hP;exact SqL.of hq3
 . obtain⟨ys,qs,x3,x4,rfl,e3,hF3,hq3,fz3,h3p,hI3,hU3,hl3⟩:=hP;obtain ⟨dp,hdp,hip⟩:=IsL.get hI2 hx3;rw[A09] at hdp
   cases hpr:ps[i]? with
   |none=>rw[hpr] at hdp;cases hdp
   |some pr=>
     rw[hpr] at hdp
     cases hdp
     have hUp:Up ls [pr]:=hU2.sub λz hz=>by
      have:z=pr:=by simpa using hz
      subst this;exact A0B hpr
     have hi100:i<100:=by omega
     symm
     refine⟨d,l,_,rfl,hF3,by omega,by omega,λu H4 hu0 hu1 e4 hF4=>?_⟩;have h4p:H4 p=some (.lst ys):=e4 _ _ hpd h3p;have h4q:H4 q=some (.lst xs):=e4 _ _ (hF3.lst hq3) hq3;have fz4:Fz H2 H4:=fz3.trans (hF3.fz e4);have hI4:IsL K H4 (qs.map prD) ys:=IsL.fz (hF3.fz e4) _ _ (Bs qs) hI3
     symm
     refine Gf (by split<;>omega) ?_
     refine Ez B5 (λj σ H5=>∃ zs rs x4,σ=[some (V.ref d),some (.ref a),some (.ref p),some x,x4]/\ExtBut d H H5/\Feed H5 d l/\H5 q=some (.lst xs)/\Fz H2 H5/\H5 p=some (.lst zs)/\IsL K H5 (rs.map prD) zs/\Up ls rs/\rs.length=qs.length+j)
      ⟨ys,qs,_,rfl,by walk_at "fr",hF4,h4q,fz4,h4p,hI4,hU3,rfl⟩ (λ_ _ _ _=>trivial) (λj x' σ H5 hx5 hj hP=>?_) (fun σ H5 hP=>?_)
     . obtain⟨zs,rs,x4',rfl,e5,hF5,hq5,fz5,h5p,hI5,hU5,hl5⟩:=hP;obtain⟨rfl,hj2⟩:=Ej hx5;have hzl:=Lb hI5
       have hj3:j<2:=by
        have:(1+if decide (V.int u=V.int 0)=true then(1:Int) else 0).toNat<=2:=by split<;>omega
        omega
       symm
       refine⟨d,l,_,rfl,hF5,by omega,by omega,λu2 H6 hv0 hv1 e6 hF6=>?_⟩;have h6p:H6 p=some (.lst zs):=e6 _ _ hpd h5p;have h6q:H6 q=some (.lst xs):=e6 _ _ (hF5.lst hq5) hq5
       symm
       refine ax8 h6p hv0 ∅ ∅ λH7 e7 h7p=>?_;have fz6:Fz H5 H6:=hF5.fz e6;have fz7:Fz H6 H7:=e7.fzL h6p
       symm
       refine⟨_,_,_,rfl,by walk_at "fr",by walk_at "fd",e7 _ _ (Ne.symm hpq) h6q,(fz5.trans fz6).trans fz7,h7p,ae1 u2.toNat (IsL.fz (fz6.trans fz7) _ _ (Bs rs) hI5) (Is.fz ((fz5.trans fz6).trans fz7) _ _ (Iq pr) hip),?_,?_⟩
       . intro z hz;rcases A0E.mp hz with hz|hz
         . exact hU5 z (A2C hz)
         rcases A0H.mp hz with rfl|hz
         . exact hUp _ (by simp)
         exact hU5 z (A2P hz)
       rw[A04,A0V,A0U,A14];omega
     obtain⟨zs,rs,x4',rfl,e5,hF5,hq5,fz5,h5p,hI5,hU5,hl5⟩:=hP;rw[A01,A1L] at hl5;have hj3:(1+if decide (V.int u=V.int 0)=true then(1:Int) else 0).toNat<=2:=by split<;>omega
     exact⟨zs,rs,_,_,rfl,e5,hF5,hq5,fz5,h5p,hI5,hU5,by omega⟩
 obtain⟨ys,qs,x3,x4,rfl,e3,hF3,hq3,fz3,h3p,hI3,hU3,hl3⟩:=hP
 symm
 refine Mu (SqL.of h3p) λt H4 ht4 e4 h4=>?_
 symm
 rw[Jn nofun] at h4;refine Js (SqL.of h4) λt2 H5 ht5 e5 h5=>?_;have hI5:IsL K H5 (qs.map prD) ys:=IsL.mono e5 _ _ (IsL.mono e4 _ _ hI3);refine k (.ref t2) (qs.take 60) H5 (by walk_at "fr") (by walk_at "fd") (Is.of_tup (SqT.of h5) ?_) (hU3.sub λz hz=>A2C hz) ?_
 . rw[A34];exact IsL.take 60 hI5
 rw[A0U];omega
def Hu (K:W.Frag):Sp:=λvs H Q _=>∃ d l n,vs=[.ref d,.int n]/\Feed H d l/\0<=n/\n<=10/\∀ v ns ps H',ExtBut d H H'->Feed H' d l->Is K H' (hfD ns ps) v->Half ns ps->ns.length<=n.toNat->Q v H'
theorem X3 {ns ls:List Str}{ps:List (Str×Str)}(h:Names ns)(hl:ns.length<=10)(p:ls.Perm ns)(u:Up ls ps)(hp:ps.length<=60):Half ns ps:=⟨h,hl,hp,ls,p,u⟩
theorem Hs {ns:List Str}{ys:List V}(h:ys.Perm (ns.map V.str)):∃ ls:List Str,ys=ls.map V.str/\ls.Perm ns:=by
 refine⟨ys.map λv=>match v with | .str z=>z | _=>"",?_,?_⟩
 . rw[A1J]
   have:∀ v∈ys,(V.str∘λv=>match v with | .str z=>z | _=>"") v=v:=λv hv=>by obtain⟨z,_,rfl⟩:=A0K.mp (h.mem_iff.mp hv);rfl
   rw[A1X this];simp
 have:=h.map λv=>match v with | .str z=>z | _=>("":Str)
 rw[A1J] at this
 have e:ns.map ((λv=>match v with | .str z=>z | _=>("":Str))∘V.str)=ns:=by rw[show((λv=>match v with | .str z=>z | _=>("":Str))∘V.str)=id from rfl,List.map_id]
 rw[e] at this;exact this
theorem Ro {f:Addr}{fd:FuncData}(F:Fun K "_law_half" "_law_half" Ei f fd)(T:Gg mg)(A4:Fnd P w K mg base 1 "_law_draw" ["_law_feed_here","_law_many"] (Aq K))(Bn:Fnd P w K mg base 2 "_law_names" ["_law_feed_here","_law_many"] (Dv K))(Ak:Fnd P w K mg base 2 "_law_shuffled" ["_law_feed_here","_law_some"] (B9 K))(G6:Fnd P w K mg base 3 "_law_sayings" ["_law_feed_here","_law_line"] (Fk K)):FnOk P w K mg base CX0 4 f fd ["_law_feed_here","_law_most"] (Hu K):=by
 refine F.ok Kj (λvs H Q E h=>?_) (λcdv A outer s H vs Q E hr h=>?_)
 . obtain⟨d,l,n,rfl,_⟩:=h;rfl
 obtain⟨d,l,n,rfl,hF,h0,h10,k⟩:=h;have hu:=Cs hr;have hq:=Cu hr
 with_reducible refine⟨_,(A2 (Aa (i:=2) Kj.nd ⋯ (by eq_refl) (An Bn (hr.mono nofun) ⋯ (A0 (pv 0) (A0 (An A4 (hr.mono nofun) ⋯ (A0 (pv 0) (A0 (Aj (Ab (K:=K)) (pv 1) A3) A1))) A1))))
  (A8 (As (Ao (A0 (Ba (C0 (K:=K)) ⋯ T.b_tuple PyProof.Rows.Boot.«tuple» (A0 (pv 2) A1)) (A0 (An G6 (hr.mono nofun) ⋯ (A0 (pv 0) (A0 (An Ak (hr.mono nofun) ⋯ (A0 (pv 0) (A0 (pv 2) A1))) A1))) A1)))))),?_⟩
 symm
 refine⟨d,l,_,rfl,hF,by omega,by omega,λu H1 hu0 hu1 e1 hF1=>?_⟩
 symm
 refine⟨d,l,_,rfl,hF1,by omega,by omega,λp2 ns H2 hp2 e2 hF2 h2 hN hl=>?_⟩
 symm
 refine Js (SqL.of h2) λt3 H3 ht3 e3 h3=>?_;have hF3:=hF2.same e3;have hI3:Is K H3 (nmD ns) (.ref t3):=Jy (SqT.of h3)
 symm
 refine⟨d,l,p2,_,rfl,hF3,.inl (SqL.of (e3 _ _ h2)),by rw[A01];omega,λp4 ys4 H4 hp4 e4 hF4 h4 hperm=>?_⟩;obtain⟨ls,rfl,hpm⟩:=Hs hperm;have fz4:=hF3.fz e4
 symm
 refine⟨d,l,p4,ls,rfl,hF4,h4,by rw[hpm.length_eq];omega,λv5 ps H5 e5 hF5 hI5 hU hl5=>?_⟩;have fz5:=hF4.fz e5
 symm
 refine Ap (A7 (by simp)) λt6 H6 ht6 e6 h6=>?_;exact k (.ref t6) ns ps H6 (by walk_at "fr") (by walk_at "fd") (Zk (SqT.of h6) (hI3.nm_fz ((fz4.trans fz5).trans e6.fz)) (hI5.ps_fz e6.fz)) (X3 hN ∅ hpm hU hl5) ∅
def OkP (ps:List (Str×Str)):Prop:=∀ p∈ps,PyData.strOk p.1=true/\PyData.strOk p.2=true
def Cy (K:W.Frag):Sp:=λvs H Q _=>∃ v x ns ps,vs=[v,.str x]/\Is K H (hfD ns ps) v/\ps.length<=1000/\OkP ps/\PyData.strOk x=true/\∀ p (fs:List Str) H',H p=none->Same H H'->H' p=some (.lst (fs.map V.str))->fs.Nodup->(∀ y,y∈fs↔Way ps x y)->Q (.ref p) H'
structure BhI (ps:List (Str×Str))(x:Str)(fs ls:List Str):Prop where
 nd:fs.Nodup
 way:∀ y∈fs,Way ps x y
 line:∀ z∈ls,z=x\/z∈fs
 shut:∀ z,z=x\/z∈fs->z∉ls->∀ y,(z,y)∈ps->y∈fs
 few:ls.length<=fs.length+1
theorem BhI.le {ps:List (Str×Str)}{x:Str}{fs ls:List Str}(h:BhI ps x fs ls):fs.length<=ps.length:=by have:=Cf (ys:=ps.map (·.2)) h.nd λy hy=>(h.way y hy).right;rwa[A01] at this
structure BhJ (ps:List (Str×Str))(x here:Str)(fs ls gs ms:List Str)(i:Nat):Prop where
 nd:gs.Nodup
 way:∀ y∈gs,Way ps x y
 line:∀ z∈ms,z=x\/z∈gs
 keep:∀ z∈fs,z∈gs
 keepL:∀ z∈ls,z∈ms
 new:∀ z∈gs,z∈fs\/z∈ms
 seen:∀ j<i,∀ y,ps[j]? = some (here,y)->y∈gs
 len:gs.length+ls.length=fs.length+ms.length
theorem BhJ.le {ps:List (Str×Str)}{x here:Str}{fs ls gs ms:List Str}{i:Nat}(h:BhJ ps x here fs ls gs ms i):gs.length<=ps.length:=by have:=Cf (ys:=ps.map (·.2)) h.nd λy hy=>(h.way y hy).right;rwa[A01] at this
theorem BhJ.step {ps:List (Str×Str)}{x here:Str}{fs ls gs ms:List Str}{i:Nat}{p:Str×Str}(h:BhJ ps x here fs ls gs ms i)(hw:here=x\/Way ps x here)(hp:ps[i]? = some p)(h1:p.1=here)(h2:p.2∉gs):BhJ ps x here fs ls (gs++[p.2]) (ms++[p.2]) (i+1):=by
 have hm:(here,p.2)∈ps:=by rw[<- h1];exact A0B hp
 refine⟨?_,λy hy=>?_,λz hz=>?_,λz hz=>A0T _ (h.keep z hz),λz hz=>A0T _ (h.keepL z hz),λz hz=>?_,λj hj y e=>?_,?_⟩
 . rw[A1G];refine⟨h.nd,by simp,λa ha b hb=>?_⟩;have:b=p.2:=by simpa using hb
   subst this;intro e;subst e;exact h2 ha
 . rcases A0E.mp hy with hy|hy
   . exact h.way y hy
   have:y=p.2:=by simpa using hy
   subst this;rcases hw with rfl|hw
   . exact .one hm
   exact hw.snoc hm
 . rcases A0E.mp hz with hz|hz
   . rcases h.line z hz with e|e
     . exact .inl e
     exact .inr (A0T _ e)
   exact .inr (A0F _ hz)
 . rcases A0E.mp hz with hz|hz
   . rcases h.new z hz with e|e
     . exact .inl e
     exact .inr (A0T _ e)
   exact .inr (A0F _ hz)
 . by_cases hji:j=i
   . subst hji;rw[hp] at e
     cases e;exact List.mem_append_right _ (by simp)
   exact A0T _ (h.seen j ∅ y e)
 rw[A04,A04,A0J];have:=h.len;omega
theorem BhJ.skip {ps:List (Str×Str)}{x here:Str}{fs ls gs ms:List Str}{i:Nat}{p:Str×Str}(h:BhJ ps x here fs ls gs ms i)(hp:ps[i]? = some p)(h1:p.1=here->p.2∈gs):BhJ ps x here fs ls gs ms (i+1):=by
 refine⟨h.nd,h.way,h.line,h.keep,h.keepL,h.new,λj hj y e=>?_,h.len⟩
 by_cases hji:j=i
 . subst hji;rw[hp] at e
   cases e;exact h1 rfl
 exact h.seen j ∅ y e
theorem BhJ.done {ps:List (Str×Str)}{x here:Str}{fs ls gs ms:List Str}(I:BhI ps x fs (ls++[here]))(h:BhJ ps x here fs ls gs ms ps.length):BhI ps x gs ms:=by
 refine⟨h.nd,h.way,h.line,λz hz hm y hy=>?_,?_⟩
 . by_cases e:z=here
   . subst e;obtain⟨j,hj,ej⟩:=A2I hy;exact h.seen j hj y (by rw[A07 hj,ej])
   have hz':z=x\/z∈fs:=by
    rcases hz with hz|hz
    . exact .inl hz
    rcases h.new z hz with q|q
    . exact .inr q
    exact absurd q hm
   refine h.keep y (I.shut z hz' (λq=>?_) y hy);rcases A0E.mp q with q|q
   . exact hm (h.keepL z q)
   exact e (by simpa using q)
 have:=h.len;have:=I.few;rw[A04,A0J] at this;omega
theorem Mp {f:Addr}{fd:FuncData}(F:Fun K "_law_behind" "_law_behind" Cn f fd)(T:Gg mg):FnOk P w K mg base CX0 1 f fd ["_law_half_here","_law_name"] (Cy K):=by
 refine F.ok C4 (λvs H Q E h=>?_) (λcdv A outer s H vs Q E hr h=>?_)
 . obtain⟨v,x,ns,ps,rfl,_⟩:=h;rfl
 obtain⟨v,x,ns,ps,rfl,hI,hl,hok,hx,k⟩:=h;have hu:=Cs hr;have hq:=Cu hr
 with_reducible refine⟨_,(A2 (Aa (i:=2) C4.nd ⋯ (by eq_refl) (Bc A1))
  (A2 (Aa (i:=3) C4.nd ⋯ (by eq_refl) (Bc (A0 (pv 1) A1)))
  (A2 (Th A11 (Af (Iv (K:=K) hq) (pv 3) (Bc A1) (Av _))
  (A2 (Aa (i:=4) C4.nd ⋯ (by eq_refl) (ae7 (K:=K) A0Y PySem.F.slot_list_pop PySem.F.type_list_pop (mm au2) (pv 3)))
  (A8 (Du A11 ⋯ (Bp (K:=K) hu (Ae (A6 (K:=K) hu) (pv 0) A3 (by ac_rfl))) (Kg (K:=K) (n:=2) ⋯ (Bi (Ad (i:=5) C4.nd ⋯ (by eq_refl)) (Bi (Ad (i:=6) C4.nd ⋯ (by eq_refl)) Ke)))
  (A8 (Cd (PW.pt (Kx (Af (Bx (K:=K) hq) (pv 5) (pv 4) (Av _)) (Hf (Af (Cw (K:=K) hq) (pv 6) (pv 2) ⋯)))) (A2 (Dz (Fv (K:=K) A0Y A1H A1I (mm Dq) (pv 2) (A0 (pv 6) A1)))
  (A8 (Dz (Fv (K:=K) A0Y A1H A1I (mm Dq) (pv 3) (A0 (pv 6) A1))))) Aw))))))
  (A8 (As (pv 2)))))),?_⟩
 symm
 refine Bb nofun λp H1 hp1 e1 h1=>?_
 symm
 refine Bb (A7 (by simp)) λq H2 hq2 e2 h2=>?_
 symm
 have hpq:p≠q:=ne_of_none h1 hq2;have hq0:H q=none:=e1.free hq2
 have okn:∀ y,y=x\/Way ps x y->PyData.strOk y=true:=λy hy=>by
  rcases hy with rfl|hy
  . exact hx
  obtain⟨pr,hpr,e⟩:=A0K.mp hy.right;exact e ▸ (hok pr hpr).2
 refine Yn (λm σ H3=>∃ fs ls x4 x5 x6,σ=[some v,some (.str x),some (.ref p),some (.ref q),x4,x5,x6]/\Same H H3/\H3 p=some (.lst (fs.map V.str))/\H3 q=some (.lst (ls.map V.str))/\BhI ps x fs ls/\m=2*(ps.length-fs.length)+ls.length)
  (2*(ps.length-([]:List Str).length)+[x].length) ⟨[],[x],_,_,_,rfl,by walk_at "sm",by walk_at "lk",h2,⟨by simp,λ_ h=>(by cases h),λz hz=>.inl (by simpa using hz),λz hz hn=>(by
   rcases hz with rfl|hz
   . exact absurd (by simp) hn
   cases hz),by simp⟩,rfl⟩ λm σ H3 hP=>?_
 obtain⟨fs,ls,x4,x5,x6,rfl,e3,h3p,h3q,hB,rfl⟩:=hP
 symm
 refine Bb nofun λt H4 ht4 e4 h4=>?_;refine Wf (dx:=.list (ls.map PyData.str)) (dy:=.list []) (Is.of_lst (SqL.of (e4 _ _ h3q)) (G3 ls)) (Is.of_lst (SqL.of h4) .nil) (Ug λz hz=>?_) (by rfl) ?_
 . refine okn z ?_;rcases hB.line z hz with e|e
   . exact .inl e
   exact .inr (hB.way z e)
 rw[Kv]
 symm
 refine Sz (λhE=>?_) (λhE=>?_)
 . have hne:ls≠[]:=by
    intro e;subst e
    cases hE
   obtain⟨ls',here,rfl⟩:∃ ls' here,ls=ls'++[here]:=⟨ls.dropLast,ls.getLast hne,(List.dropLast_concat_getLast hne).symm⟩;refine aa6 ?_
   symm
   have h4p:H4 p=some (.lst (fs.map V.str)):=e4 _ _ h3p;have h4q:H4 q=some (.lst (ls'.map V.str++[V.str here])):=by rw[e4 _ _ h3q,A0N];rfl
   refine an2 h4q λH5 e5 h5q=>?_
   symm
   have h5p:H5 p=some (.lst (fs.map V.str)):=e5 _ _ hpq h4p;have e05:Same H H5:=by walk_at "sm"
   refine Um (hI.hf_fz e05.fz) λu hI5=>?_;have hle:=hB.le;have hfew:=hB.few;rw[A04,A0J] at hfew
   refine aa2 hI5 (λi σ H6=>∃ gs ms x5 x6,σ=[some v,some (.str x),some (.ref p),some (.ref q),some (.str here),x5,x6]/\Same H H6/\Fz H5 H6/\H6 p=some (.lst (gs.map V.str))/\H6 q=some (.lst (ms.map V.str))/\BhJ ps x here fs ls' gs ms i)
    ⟨fs,ls',_,_,rfl,e05,.refl _,h5p,h5q,⟨hB.nd,hB.way,λz hz=>hB.line z (A0T _ hz),λ_ h=>h,λ_ h=>h,λ_ h=>.inl h,λj hj=>absurd hj (Nat.not_lt_zero _),rfl⟩⟩ (λi σ' H' hP=>?_) (λi pr w σ' H6 hpr hIp hP=>?_) (fun σ' H6 hP=>?_)
   . obtain⟨_,_,_,_,_,_,fz,_⟩:=hP;exact fz
   . obtain⟨gs,ms,x5',x6',rfl,e6,fz6,h6p,h6q,hJ⟩:=hP;have hgl:=hJ.le;have hml:=hJ.len;refine ai3 hIp ?_
     symm
     refine Ly (λh1=>?_) (λh1=>?_)
     . have h1':pr.1=here:=by injection h1
       symm
       refine Oa (SqL.of h6p) ?_
       symm
       refine aq9 (λh2=>?_) (λh2=>?_)
       . symm
         refine Kq h6p (by rw[A01];omega) λH7 e7 h7p=>?_
         symm
         have h7q:H7 q=some (.lst (ms.map V.str)):=e7 _ _ (Ne.symm hpq) h6q;refine Kq h7q (by rw[A01];omega) λH8 e8 h8q=>?_
         symm
         refine⟨gs++[pr.2],ms++[pr.2],_,_,rfl,by walk_at "sm",(fz6.trans (e7.fzL h6p)).trans (e8.fzL h7q),?_,?_,hJ.step ?_ hpr h1' h2⟩
         . rw[e8 _ _ hpq h7p,A0N];rfl
         . rw[h8q,A0N];rfl
         rcases hB.line here (List.mem_append_right _ (by simp)) with e|e
         . exact .inl e
         exact .inr (hB.way _ e)
       exact⟨gs,ms,_,_,rfl,e6,fz6,h6p,h6q,hJ.skip hpr λ_=>h2⟩
     exact⟨gs,ms,_,_,rfl,e6,fz6,h6p,h6q,hJ.skip hpr λe=>absurd (by rw[e]) h1⟩
   obtain⟨gs,ms,x5',x6',rfl,e6,fz6,h6p,h6q,hJ⟩:=hP;have hgl:=hJ.le;have hml:=hJ.len;have hge:=Cf hB.nd hJ.keep;refine⟨_,?_,gs,ms,_,_,_,rfl,e6,h6p,h6q,BhJ.done hB hJ,rfl⟩;rw[A04,A0J];omega
 have hn:ls=[]:=by
  cases ls with
  |nil=>rfl
  |cons _ _=>cases hE
 subst hn
 symm
 refine k p fs H4 hp1 (by walk_at "sm") (e4 _ _ h3p) hB.nd λy=>⟨hB.way y,λg=>?_⟩;exact Way.shut (S:=λy=>y∈fs) (λy hy=>hB.shut x (.inl rfl) (by simp) y hy) (λz y hz hy=>hB.shut z (.inr hz) (by simp) y hy) g
def G7 (K:W.Frag):Sp:=λvs H Q _=>∃ v ns ps,vs=[v]/\Is K H (hfD ns ps) v/\a54 ns ps/\∀ r as H',H r=none->(∀ a∈as,H a=none)->Same H H'->Tab H' r ns as (Way ps)->Q (.ref r) H'
theorem Ml {f:Addr}{fd:FuncData}(F:Fun K "behind_each" "behind_each" Cj f fd)(T:Gg mg):FnOk P w K mg base CX0 1 f fd ["half"] (G7 K):=by
 refine F.ok C6 (λvs H Q E h=>?_) (λcdv A outer s H vs Q E hr h=>?_)
 . obtain⟨v,ns,ps,rfl,_⟩:=h;rfl
 obtain⟨v,ns,ps,rfl,hI,hW,k⟩:=h;have hu:=Cs hr;have hq:=Cu hr;have hn:=hW.nd;have hfew:=hW.few
 with_reducible refine⟨_,(A2 (Aa (i:=1) C6.nd ⋯ (by eq_refl) (Ae (A6 (K:=K) hu) (pv 0) A3 (by ac_rfl)))
  (A2 (Aa (i:=2) C6.nd ⋯ (by eq_refl) (Ba (Vr (K:=K) hr.hd) ⋯ T.b_dict PyProof.Rows.Boot.«dict» (A0 (Fq ["name"] [] [] ⋯ ⋯ ⋯ (Bp (K:=K) hu (pv 1)) (λ_ _ _ _=>(Ad (i:=0) (by with_unfolding_all (show(["name"]:List Str).Nodup;decide +kernel)) ⋯ (by eq_refl))) (Ct nofun) (λ_ _ _ _=>Gu) (λ_ _ _ _=>(Ao (A0 (pv 0) (A0 Tv A1))))) A1)))
  (A2 (Du A11 ⋯ (Bp (K:=K) hu (Ae (A6 (K:=K) hu) (pv 0) A3 (by ac_rfl))) (Ad (i:=3) C6.nd ⋯ (by eq_refl))
  (A8 (J9 hu (Ae (A6 (K:=K) hu) (pv 2) (Ae (A6 (K:=K) hu) (pv 3) A3 (by ac_rfl)) (by ac_rfl)) (Ae (A6 (K:=K) hu) (pv 3) A3 (by ac_rfl)) Xv ⋯)))
  (A2 (Du A11 ⋯ (Bp (K:=K) hu (pv 1)) (Ad (i:=4) C6.nd ⋯ (by eq_refl))
  (A8 (Du A11 ⋯ (Bp (K:=K) hu (pv 1)) (Ad (i:=5) C6.nd ⋯ (by eq_refl))
  (A8 (Cd (Af (Qv (K:=K) hq) (pv 4) (Ae (A6 (K:=K) hu) (pv 2) (pv 5) (by ac_rfl)) ⋯) (A8 (Dz (Fv (K:=K) PySem.F.plainAttrs_dict PySem.F.slot_dict_update PySem.F.type_dict_update (mm Nt) (Ae (A6 (K:=K) hu) (pv 2) (pv 5) (by ac_rfl)) (A0 (Ae (A6 (K:=K) hu) (pv 2) (pv 4) (by ac_rfl)) A1)))) Aw)))))
  (A8 (As (pv 2))))))),?_⟩
 symm
 refine Jq hI λnv hN=>?_
 symm
 obtain⟨na,rfl,hS⟩:=hN.nm;refine Xt hS ?_;refine J4 (Jm (xs:=ns.map V.str)) (λp i acc H1=>Same H H1/\∃ as:List Addr,as.length=i/\as.Nodup/\(∀ a∈as,H1 a=some (.dK [])/\H a=none)/\PrsK K H1 (Io (ns.take i) as) acc) (λp H' hp e h=>⟨e,[],rfl,by simp,λ_ h=>(by cases h),by rfl⟩) (λp i acc H1 hP=>hP.1.seqT hS) (λp i x acc H1 hp hx hi hl ha hP=>?_) λp acc H1 hp ha hl hP=>?_
 . obtain ⟨e1,as,hal,had,haf,hpr⟩:=hP;rw[A09] at hx
   cases hz:ns[i]? with
   |none=>rw[hz] at hx;cases hx
   |some z=>
     rw[hz] at hx
     cases hx;have hin:i<ns.length:=(A03.mp hz).1
     symm
     refine a82 λb H2 hb2 e2 h2=>?_
     symm
     refine Ap (A7 (by simp)) λt H3 ht3 e3 h3=>?_;have h3p:H3 p=some (.lst acc):=e3 _ _ (e2 _ _ ha);refine Mg (by rw[A01];omega) hi hl h3p λH4 e4 h4=>?_;have hbp:b≠p:=Ne.symm (ne_of_none ha hb2);refine⟨by walk_at "sm",as++[b],by simp[hal],?_,λa ha'=>?_,?_⟩
     . rw[A1G];refine⟨had,by simp,λa ha1 c hc e=>?_⟩;have:c=b:=by simpa using hc
       subst this;subst e;have:=(haf _ ha1).1;rw[hb2] at this
       cases this
     . rcases A0E.mp ha' with ha'|ha'
       . obtain⟨q1,q2⟩:=haf a ha';exact⟨e4 _ _ (ne_of q1 ha (by intro z;cases z)) (e3 _ _ (e2 _ _ q1)),q2⟩
       have:a=b:=by simpa using ha'
       subst this;exact⟨e4 _ _ hbp (e3 _ _ h2),e1.free hb2⟩
     have ht:ns.take (i+1)=ns.take i++[z]:=by rw[A18,hz];rfl
     have hlen:(ns.take i).length=as.length:=by rw[A0U,hal];omega
     rw[ht,Uv hlen];have fz4:=e4.fzL h3p;exact PrsK.snoc (kv:=(Sum.inr z,V.ref b)) (fz4.seq (SqT.of h3)) (PrsK.fz ((e2.fz.trans e3.fz).trans fz4) hpr)
 obtain⟨e1,as,hal,had,haf,hpr⟩:=hP;rw[A01] at hal;rw[A01,A1A] at hpr
 symm
 refine aq1 ha hpr (by unfold Io;rw[List.length_map,List.length_zip];omega) λr H2 hr2 e2 h2=>?_;rw[Qo _ _ (Ve hn) (λ_ _ _ h=>by cases h),List.nil_append] at h2;have hr0:H r=none:=e1.free hr2
 have hra:r∉as:=λhm=>by
  have:=(haf r hm).1;rw[hr2] at this
  cases this
 have hT0:Tab H2 r ns as (λz y=>(z,y)∈ps.take 0):=⟨hal,had,hra,h2,λi z a hz ha'=>⟨[],e2 _ _ (haf a (List.mem_of_getElem? ha')).1,by simp,λ_ h=>(by cases h),λy=>by simp⟩⟩
 symm
 refine Um (hI.hf_fz (by walk_at "fz")) λpv hP2=>?_
 refine aa2 hP2 (λi σ H3=>∃ x3,σ=[some v,some (.ref na),some (.ref r),x3,none,none]/\Same H H3/\Fz H2 H3/\Tab H3 r ns as (λz y=>(z,y)∈ps.take i))
  ⟨none,rfl,by walk_at "sm",.refl _,hT0⟩ (λi σ' H' hP=>hP.choose_spec.2.2.1) (λi pr w σ' H3 hpr hIp hP=>?_) (fun σ' H3 hP=>?_)
 . obtain⟨x3,rfl,e3,fz3,hT⟩:=hP;have hpm:=hW.mem pr (A0B hpr);obtain⟨j,a,hj,haj⟩:=hT.at hpm.1;obtain⟨ks,hk1,hk2,hk3,hk4⟩:=hT.row j _ a hj haj;have hkl:ks.length<=ns.length:=Cf hk2 hk3
   symm
   refine at9 hIp ?_;refine Vv hT hn hj haj ?_
   symm
   refine ap6 hIp ?_;refine Kr hk1 (by rw[Ka];omega) λH4 e4 h4=>?_;rw[T8] at h4
   symm
   have ha0:H a=none:=(haf a (A0B haj)).2;refine⟨_,rfl,by walk_at "sm",fz3.trans (e4.fzD hk1),hT.put e4 hn hj haj h4 (Ic hk2) (λy hy=>?_) (λy=>?_) (λz hz hzx y=>?_)⟩
   . rcases mem_addK.mp hy with hy|rfl
     . exact hk3 y hy
     exact hpm.2
   . rw[mem_addK,hk4,A18,hpr,A0E];constructor
     . rintro(h|rfl)
       . exact .inl h
       exact .inr (by simp)
     rintro(h|h)
     . exact .inl h
     right
     have:(pr.1,y)=pr:=by simpa using h
     rw[<- this]
   rw[A18,hpr,A0E];constructor
   . exact .inl
   rintro(h|h)
   . exact h
   have:(z,y)=pr:=by simpa using h
   exact absurd (by rw[<- this]) hzx
 obtain⟨x3,rfl,e3,fz3,hT⟩:=hP;rw[A1A] at hT;have hW0:War ns ps [] (λz y=>(z,y)∈ps):=⟨λz y h=>.one h,λz y h=>h,λm hm=>by cases hm⟩
 symm
 have hN3:Is K H3 (nmD ns) (.ref na):=hN.nm_fz e3.fz
 refine Ys hN3 (λi σ H4=>∃ x4 x5 R,σ=[some v,some (.ref na),some (.ref r),x3,x4,x5]/\Same H H4/\Fz H3 H4/\Tab H4 r ns as R/\War ns ps (ns.take i) R)
  ⟨_,_,_,rfl,e3,.refl _,hT,hW0⟩ (λi σ' H' hP=>?_) (λi mid σ' H4 hmid hP=>?_) (fun σ' H4 hP=>?_)
 . obtain⟨_,_,_,_,_,fz,_⟩:=hP;exact fz
 . obtain⟨x4,x5,R,rfl,e4,fz4,hT4,hR⟩:=hP;obtain⟨jm,am,hjm,ham⟩:=hT4.at (A0B hmid);have hN4:Is K H4 (nmD ns) (.ref na):=hN3.nm_fz fz4
   symm
   refine Ys hN4 (λj σ H5=>∃ x5,σ=[some v,some (.ref na),some (.ref r),x3,some (.str mid),x5]/\Same H H5/\Fz H4 H5/\Tab H5 r ns as (ab3 R mid (ns.take j)))
    ⟨_,rfl,e4,.refl _,hT4.congr λz _ y=>⟨.inl,λh=>h.elim (λq=>q) λq=>absurd q.1 (by simp)⟩⟩ (λi σ' H' hP=>hP.choose_spec.2.2.1) (λj nm σ' H5 hnm hP=>?_) (fun σ' H5 hP=>?_)
   . obtain⟨x5',rfl,e5,fz5,hT5⟩:=hP;obtain⟨jn,an,hjn,han⟩:=hT5.at (A0B hnm);obtain⟨ks,hk1,hk2,hk3,hk4⟩:=hT5.row jn nm an hjn han;obtain⟨ms,hm1,hm2,hm3,hm4⟩:=hT5.row jm mid am hjm ham;have hkl:ks.length<=ns.length:=Cf hk2 hk3;have hml:ms.length<=ns.length:=Cf hm2 hm3;have htj:ns.take (j+1)=ns.take j++[nm]:=by rw[A18,hnm];rfl
     have hin:mid∈ks↔R nm mid:=(hk4 mid).trans ⟨λh=>h.elim (λq=>q) λq=>q.2.1,.inl⟩;have hmid2:∀ y,y∈ms↔R mid y:=λy=>(hm4 y).trans ⟨λh=>h.elim (λq=>q) λq=>q.2.2,.inl⟩
     have hother:∀ z∈ns,z≠nm->∀ y,ab3 R mid (ns.take j) z y↔ab3 R mid (ns.take (j+1)) z y:=λz _ hz y=>by unfold ab3;rw[htj,A0E,A0G];simp[hz]
     symm
     refine Vv hT5 hn hjn han ?_;refine ah7 hk1 ?_
     symm
     refine Ly (λhc=>?_) (λhc=>?_)
     . have hRn:=hin.mp hc
       by_cases hne:nm=mid
       . subst hne
         have hji:jn=jm:=by obtain⟨p1,p2⟩:=A03.mp hjn;obtain⟨q1,q2⟩:=A03.mp hjm;exact(A1U hn).mp (p2.trans q2.symm)
         subst hji;rw[han] at ham
         cases ham
         symm
         refine Vv hT5 hn hjn han ?_;refine a50 hk1 ?_
         symm
         refine Vv hT5 hn hjn han ?_
         symm
         refine ap1 hk1 ?_
         symm
         refine⟨_,rfl,e5,fz5,hT5.congr λz hz y=>?_⟩
         by_cases hzn:z=nm
         . subst hzn;unfold ab3;constructor
           . exact λh=>.inl (h.elim (λq=>q) λq=>q.2.2)
           exact λh=>.inl (h.elim (λq=>q) λq=>q.2.2)
         exact hother z hz hzn y
       have hane:an≠am:=λq=>by subst q;obtain⟨p1,p2⟩:=A03.mp han;obtain⟨q1,q2⟩:=A03.mp ham;have:=(A1U hT5.nd).mp (p2.trans q2.symm);subst this;rw[hjn] at hjm;exact hne (A0Z hjm)
       symm
       refine Vv hT5 hn hjn han ?_;refine a50 hk1 ?_
       symm
       refine Vv hT5 hn hjm ham ?_
       symm
       refine Xd hk1 hm1 hane ∅ λH6 e6 h6=>?_
       symm
       have ha0:H an=none:=(haf an (A0B han)).2;refine⟨_,rfl,by walk_at "sm",fz5.trans (e6.fzD hk1),hT5.put e6 hn hjn han h6 (G1 hk2) (λy hy=>?_) (λy=>?_) hother⟩
       . rcases mem_addAll.mp hy with hy|hy
         . exact hk3 y hy
         exact hm3 y hy
       rw[mem_addAll,hk4,hmid2];unfold ab3;rw[htj,A0E,A0G];constructor
       . rintro((h|h)|h)
         . exact .inl h
         . exact .inr ⟨.inl h.1,h.2⟩
         exact .inr ⟨.inr rfl,hRn,h⟩
       rintro(h|h)
       . exact .inl (.inl h)
       exact .inr h.2.2
     have hRn:¬ R nm mid:=λq=>hc (hin.mpr q)
     symm
     refine⟨_,rfl,e5,fz5,hT5.congr λz hz y=>?_⟩
     by_cases hzn:z=nm
     . subst hzn;unfold ab3;constructor
       . exact λh=>.inl (h.elim (λq=>q) λq=>absurd q.2.1 hRn)
       exact λh=>.inl (h.elim (λq=>q) λq=>absurd q.2.1 hRn)
     exact hother z hz hzn y
   obtain⟨x5',rfl,e5,fz5,hT5⟩:=hP;rw[A1A] at hT5;refine⟨_,_,_,rfl,e5,fz4.trans fz5,hT5.congr (R':=λz y=>R z y\/(R z mid/\R mid y)) λz hz y=>?_,?_⟩
   . unfold ab3;simp[hz]
   have htj:ns.take (i+1)=ns.take i++[mid]:=by rw[A18,hmid];rfl
   rw[htj];exact hR.step
 obtain⟨x4,x5,R,rfl,e4,fz4,hT4,hR⟩:=hP;rw[A1A] at hR
 symm
 exact k r as H4 hr0 (λa ha'=>(haf a ha').2) e4 (hT4.congr λz _ y=>hR.done hW.mem z y)
def Gk (K:W.Frag):Sp:=λvs H Q _=>∃ r x y ns ps as,vs=[.ref r,.str x,.str y]/\TabR H r ns as (Way ps)/\ns.Nodup/\x∈ns/\y∈ns/\Q (.bl (unB ps x y)) H
theorem L4:∀ {ns:List Str} {as:List Addr},as.length=ns.length->(Io ns as).map (λkv=>kV kv.1)=ns.map V.str
 | [],[],_=>rfl
 | [],_ :: _,h=>by simp at h
 |_ :: _,[],h=>by simp at h
 |n :: ns,a :: as,h=>by have ih:=L4 (ns:=ns) (as:=as) (by simpa using h);unfold Io at ih ⊢;rw[A54,A0Q,A0Q,ih];rfl
theorem Pn {f:Addr}{fd:FuncData}(F:Fun K "are_untold" "are_untold" Di f fd)(T:Gg mg):FnOk P w K mg base CX0 1 f fd ["reach","one","other"] (Gk K):=by
 refine F.ok Ob (λvs H Q E h=>?_) (λcdv A outer s H vs Q E hr h=>?_)
 . obtain⟨r,x,y,ns,ps,as,rfl,_⟩:=h;rfl
 obtain⟨r,x,y,ns,ps,as,rfl,hT,hn,hx,hy,k⟩:=h;have hu:=Cs hr;have hq:=Cu hr;obtain⟨i,a,hi,hai⟩:=hT.at hx;obtain⟨ks,hk1,hk2,hk3,hk4⟩:=hT.row i x a hi hai;obtain⟨j,b,hj,hbj⟩:=hT.at hy;obtain⟨ms,hm1,hm2,hm3,hm4⟩:=hT.row j y b hj hbj
 with_reducible refine⟨_,(A8 (As (Ku (Fp (Cw (K:=K) hq) (pv 2) (Ae (A6 (K:=K) hu) (pv 0) (pv 1) (by ac_rfl)) ⋯) (Nh (Fp (Cw (K:=K) hq) (pv 1) (Ae (A6 (K:=K) hu) (pv 0) (pv 2) (by ac_rfl)) ⋯))))),?_⟩
 symm
 refine Nk hT hn hi hai ?_;refine Rp hk1 ?_;rw[Tp (hk4 y)]
 symm
 refine Sz (λhc=>?_) (λhc=>?_)
 . symm
   refine Nk hT hn hj hbj ?_;refine Rp hm1 ?_;rw[Tp (hm4 x)];unfold unB at k;rw[hc] at k;exact k
 unfold unB at k;rw[hc] at k;exact k
local macro_rules | `(tactic| walk_at "rq1") => `(tactic| with_reducible first | refine as7 ?_ | refine i_tMkX0 ?_ | refine ah4 ?_ | refine ag9 ?_)
theorem aB2 {ws:List V}{a b:Str}(h:ws.length=[a,b].length):∃ v u,ws=[v,u]:=by
 match ws,h with
 | [v,u],_=>exact⟨v,u,rfl⟩
theorem Mr {f:Addr}{fd:FuncData}(F:Fun K "__init__" "NoPlan.__init__" Cg f fd)(T:Gg mg){C_HalfError:Addr}{C_NoPlan:Addr}(x_HalfError:Cr K mg C_HalfError C_HalfError)(x_NoPlan:Fe K mg C_NoPlan C_HalfError):FnOk P w K mg base CX0 1 f fd ["self","word","path"] (spX C_NoPlan ["word","path"]):=by
 refine F.ok Na (λvs H Q E h=>?_) (λcdv A outer s H vs Q E hr h=>?_)
 . obtain⟨a,ws,rfl,hl,_⟩:=h;obtain⟨v,u,rfl⟩:=aB2 hl;rfl
 obtain⟨a,ws,rfl,hl,ha,k⟩:=h;obtain⟨v,u,rfl⟩:=aB2 hl
 with_reducible refine⟨_,(A2 (Tw (K:=K) (pv 0) (pv 1) ⋯)
  (A8 (Tw (K:=K) (pv 0) (pv 2) ⋯))),?_⟩
 symm
 refine an1 ha x_NoPlan.xc x_NoPlan.n_word λdx H1 h1 h2 h3 h4 h5=>?_
 symm
 refine ao3 h4 h5 x_NoPlan.xc x_NoPlan.n_path (by simp) λH2 g1 g2=>?_
 symm
 exact k dx H2 h1 h2 (λb b1 b2=>(g1 b b2).trans (h3 b b1 b2)) ((g1 a (Ne.symm h2)).trans h4) g2
def ay5:PyData->Bool
 |.tuple _=>true
 |_=>false
def ax6:PyData->Bool
 |.str _=>true
 |_=>false
theorem Tz {K:W.Frag}{H:Hp}{Q:VK}{D:PyData}{v:V}(h:Is K H D v)(k:Q (.bl (ay5 D)) H):J8 K [v,.ty "tuple"] H Q:=by
 cases D with
 |none=>simp only[Is] at h;subst h;exact Ru .non (b:=false) (by rfl) k
 |bool b=>simp only[Is] at h;subst h;exact Ru (.bl b) (b:=false) (by rfl) k
 |int b=>simp only[Is] at h;subst h;exact Ru (.int b) (b:=false) (by rfl) k
 |str b=>simp only[Is] at h;subst h;exact Ru (.str b) (b:=false) (by rfl) k
 |list ds=>simp only[Is] at h;obtain⟨a,xs,rfl,h1,_⟩:=h;exact aa1 h1 (b:=false) (by rfl) k
 |tuple ds=>simp only[Is] at h;obtain⟨a,xs,rfl,h1,_⟩:=h;exact ab6 h1 (b:=true) (by rfl) k
 |dict _=>simp only[Is] at h
theorem Tj {K:W.Frag}{H:Hp}{Q:VK}{D:PyData}{v:V}(h:Is K H D v)(k:Q (.bl (ax6 D)) H):J8 K [v,.ty "str"] H Q:=by
 cases D with
 |none=>simp only[Is] at h;subst h;exact Ru .non (b:=false) (by rfl) k
 |bool b=>simp only[Is] at h;subst h;exact Ru (.bl b) (b:=false) (by rfl) k
 |int b=>simp only[Is] at h;subst h;exact Ru (.int b) (b:=false) (by rfl) k
 |str b=>simp only[Is] at h;subst h;exact Ru (.str b) (b:=true) (by rfl) k
 |list ds=>simp only[Is] at h;obtain⟨a,xs,rfl,h1,_⟩:=h;exact aa1 h1 (b:=false) (by rfl) k
 |tuple ds=>simp only[Is] at h;obtain⟨a,xs,rfl,h1,_⟩:=h;exact ab6 h1 (b:=false) (by rfl) k
 |dict _=>simp only[Is] at h
def LmR (P:Addr)(H:Hp):Prop:=LamT P 80 35 "order_of_row.<locals>.<lambda>" H
def aq0 (n:Int):PyData->Bool
 |.tuple ds=>decide ((ds.length:Int)=n)
 |_=>false
def Et (K:W.Frag):Sp:=λvs H Q _=>∃ v D n,vs=[v,.int n]/\Is K H D v/\Q (.bl (aq0 n D)) H
def UnT (ns:List Str)(ps:List (Str×Str))(x y:Str):Prop:=x∈ns/\y∈ns/\x≠y/\unB ps x y=true
def Em (K:W.Frag):Sp:=λvs H Q _=>∃ r x y ns ps as,vs=[.ref r,.str x,.str y]/\TabR H r ns as (Way ps)/\ns.Nodup/\∀ b,(b=true↔UnT ns ps x y)->Q (.bl b) H
def Fs (P:Addr)(K:W.Frag):Sp:=λvs H Q _=>∃ r ns ps as row,vs=[.ref r]/\TabR H r ns as (Way ps)/\HalfW ns ps/\ns.length<=10/\ext (Ay ps) ns.length ns=[row]/\LmR P H/\∀ v H',ExtBut P H H'->LmR P H'->Is K H' (nmD row) v->Q v H'
def Fc (K:W.Frag):Sp:=λvs H Q _=>∃ r x y ns ps as,vs=[.ref r,.str x,.str y]/\TabR H r ns as (Way ps)/\HalfW ns ps/\x∈ns/\y∈ns/\∀ r' as' H',H r'=none->(∀ a∈as',H a=none)->Keep [r] H H'->Tab H' r' ns as' (Way (ps++[(x,y)]))->Q (.ref r') H'
structure TabP (H:Hp)(r:Addr)(ns:List Str)(i:Nat)(as:List Addr)(R:Str->Str->Prop):Prop where
 len:as.length=i
 nd:as.Nodup
 nr:r∉as
 top:H r=some (.dK (Io (ns.take i) as))
 row:∀(j:Nat) (z:Str) (a:Addr),ns[j]? = some z->as[j]? = some a->∃ ks:List Str,H a=some (.dK (Gh ks))/\ks.Nodup/\(∀ y∈ks,y∈ns)/\∀ y,y∈ks↔R z y
theorem TabP.done {H:Hp}{r:Addr}{ns:List Str}{as:List Addr}{R:Str->Str->Prop}(h:TabP H r ns ns.length as R):Tab H r ns as R:=⟨h.len,h.nd,h.nr,by have:=h.top;rwa[A1A] at this,h.row⟩
theorem TabP.snoc {H:Hp}{f b:Addr}{ns ks:List Str}{i:Nat}{as:List Addr}{z:Str}{R:Str->Str->Prop}(hl:as.length=i)(nd:as.Nodup)(nr:f∉as)(hb:b∉as)(hbf:b≠f)(hz:ns[i]? = some z)(top:H f=some (.dK (Io (ns.take (i+1)) (as++[b]))))
  (row:∀(j:Nat) (z:Str) (a:Addr),ns[j]? = some z->as[j]? = some a->∃ ks:List Str,H a=some (.dK (Gh ks))/\ks.Nodup/\(∀ y∈ks,y∈ns)/\∀ y,y∈ks↔R z y)
  (h1:H b=some (.dK (Gh ks))) (h2:ks.Nodup) (h3:∀ y∈ks,y∈ns) (h4:∀ y,y∈ks↔R z y):TabP H f ns (i+1) (as++[b]) R:=by
 refine⟨by rw[A04,hl];rfl,?_,?_,top,λj z' a hj ha=>?_⟩
 . rw[A1G];exact⟨nd,by simp,λu hu v hv e=>hb (by rw[List.mem_singleton.mp hv] at e;exact e ▸ hu)⟩
 . intro q;rcases A0E.mp q with q|q
   . exact nr q
   exact hbf (A0G.mp q).symm
 rcases Nat.lt_or_ge j as.length with q|q
 . rw[A2Q q] at ha;exact row j z' a hj ha
 rw[A3T q] at ha
 have hj0:j-as.length=0:=by have:=(A03.mp ha).1;simp only[List.length_singleton] at this;omega
 rw[hj0] at ha;have:b=a:=by simpa using ha
 subst this;have hji:j=i:=by omega
 subst hji;rw[hz] at hj
 cases hj;exact⟨ks,h1,h2,h3,h4⟩
def Hc (K:W.Frag):Sp:=λvs H Q _=>∃ r ns ps as,vs=[.ref r]/\TabR H r ns as (Way ps)/\HalfW ns ps/\∀ b H',Keep [r] H H'->(b=true↔unP ns ps=[])->Q (.bl b) H'
theorem Sq {ns ks:List Str}{ps:List (Str×Str)}{z:Str}(hn:ns.Nodup)(h2:ks.Nodup)(h3:∀ y∈ks,y∈ns)(h4:∀ y,y∈ks↔Way ps z y):ks.length=szW ns ps z:=by refine Kd h2 (hn.sublist A3R) λy=>?_;rw[A0X,wayB_iff];exact⟨λh=>⟨h3 y h,(h4 y).mp h⟩,λh=>(h4 y).mpr h.2⟩
theorem Ta {α:Type}(f:α->Nat):∀ l:List α,(l.map λx=>((f x:Nat):Int)).sum=(((l.map f).sum:Nat):Int)
 | []=>rfl
 |a :: l=>by rw[A0Q,A30,Ta f l,A0Q,A30,Int.natCast_add]
theorem a00:∀ {ns:List Str} {as:List Addr},as.length=ns.length->(Io ns as).map (λkv=>kv.1)=ns.map λx=>(Sum.inr x:Key)
 | [],[],_=>rfl
 | [],_ :: _,h=>by simp at h
 |_ :: _,[],h=>by simp at h
 |n :: ns,a :: as,h=>by have ih:=a00 (ns:=ns) (as:=as) (by simpa using h);unfold Io at ih ⊢;rw[A54,A0Q,A0Q,ih];rfl
theorem Mv {f:Addr}{fd:FuncData}(F:Fun K "is_tuple_of" "is_tuple_of" Cm f fd)(T:Gg mg):FnOk P w K mg base CX0 1 f fd ["thing","size"] (Et K):=by
 refine F.ok Mo (λvs H Q E h=>?_) (λcdv A outer s H vs Q E hr h=>?_)
 . obtain⟨v,D,n,rfl,_⟩:=h;rfl
 obtain⟨v,D,n,rfl,hI,k⟩:=h;have hu:=Cs hr;have hq:=Cu hr
 with_reducible refine⟨_,(A8 (As (Ku (Ac (Bw (K:=K)) ⋯ T.b_isinstance PyProof.Rows.Boot.«isinstance» (A0 (pv 0) (A0 (Gw (v:=.ty "tuple") ⋯ T.b_tuple PyProof.Rows.Boot.«tuple» ⋯) A1))) (Nh (Fp (Bx (K:=K) hq) (Ac (Au (K:=K)) ⋯ T.b_len PyProof.Rows.Boot.«len» (A0 (pv 0) A1)) (pv 1) (Av _)))))),?_⟩
 symm
 refine Tz hI ⟨_,rfl,?_⟩
 cases D with
 |tuple ds=>
   rw[A12 (by rfl)]
   symm
   refine Hk hI ?_
   symm
   rw[show decide (V.int (ds.length:Int)=V.int n)=decide ((ds.length:Int)=n) by rw[decide_eq_decide];exact⟨V.int.inj,congrArg V.int⟩];exact k
 |_=>exact k
theorem a90 {ns:List Str}{as:List Addr}(hn:ns.Nodup)(hl:as.length=ns.length)(x:Str):(Hz (Io ns as) (Sum.inr x:Key)).isSome=decide (x∈ns):=by
 by_cases hx:x∈ns
 . obtain⟨i,hi⟩:=List.mem_iff_getElem?.mp hx;have hil:=(A03.mp hi).1;rw[Ih hn hi (A07 ∅),A0P hx];rfl
 rw[Gr hx,A0R hx];rfl
theorem K5 {f:Addr}{fd:FuncData}(F:Fun K "are_two_untold" "are_two_untold" Bk f fd)(T:Gg mg)(Hn:Fnd P w K mg base 1 "are_untold" ["reach","one","other"] (Gk K)):FnOk P w K mg base CX0 2 f fd ["reach","one","other"] (Em K):=by
 refine F.ok Kf (λvs H Q E h=>?_) (λcdv A outer s H vs Q E hr h=>?_)
 . obtain⟨r,x,y,ns,ps,as,rfl,_⟩:=h;rfl
 obtain⟨r,x,y,ns,ps,as,rfl,hT,hn,k⟩:=h;have hu:=Cs hr;have hq:=Cu hr
 with_reducible refine⟨_,(A8 (As (Ku (Fp (Qv (K:=K) hq) (pv 1) (pv 0) ⋯) (Ku (Fp (Qv (K:=K) hq) (pv 2) (pv 0) ⋯) (Ku (Fp (Iv (K:=K) hq) (pv 1) (pv 2) (Av _)) (Nh (An Hn (hr.mono nofun) ⋯ (A0 (pv 0) (A0 (pv 1) (A0 (pv 2) A1)))))))))),?_⟩
 symm
 refine a86 hT.top ?_;rw[a90 hn hT.len]
 by_cases hx:x∈ns
 . rw[A0P hx]
   symm
   refine a86 hT.top ?_;rw[a90 hn hT.len]
   by_cases hy:y∈ns
   . rw[A0P hy]
     symm
     by_cases hxy:x=y
     . subst hxy;rw[if_neg (by simp)]
       symm
       first | exact k false ⟨λz=>(by cases z),λz=>absurd rfl z.2.2.1⟩ | (rw[A0P rfl];exact k false ⟨λz=>(by cases z),λz=>absurd rfl z.2.2.1⟩)
     rw[if_pos (by simpa using hxy)]
     symm
     exact⟨r,x,y,ns,ps,as,rfl,hT,hn,hx,hy,k _ ⟨λz=>⟨hx,hy,hxy,z⟩,λz=>z.2.2.2⟩⟩
   rw[A0R hy]
   symm
   exact k false ⟨λz=>(by cases z),λz=>absurd z.2.1 hy⟩
 rw[A0R hx]
 symm
 exact k false ⟨λz=>(by cases z),λz=>absurd z.1 hx⟩
theorem Rb {f:Addr}{fd:FuncData}(F:Fun K "is_row_of" "is_row_of" Ed f fd)(T:Gg mg):FnOk P w K mg base CX0 1 f fd ["reach"] (Hc K):=by
 refine F.ok Qz (λvs H Q E h=>?_) (λcdv A outer s H vs Q E hr h=>?_)
 . obtain⟨r,ns,ps,as,rfl,_⟩:=h;rfl
 obtain⟨r,ns,ps,as,rfl,hT,hW,k⟩:=h;have hu:=Cs hr;have hq:=Cu hr;have hfew:=hW.few;have hn:=hW.nd;have hrl:(Io ns as).length=ns.length:=by unfold Io;rw[List.length_map,List.length_zip,hT.len,Nat.min_self]
 with_reducible refine⟨_,(A8 (As (Fp (Bx (K:=K) hq) (Aj En A3 (Ac (Yh (K:=K) ⋯) ⋯ T.b_sum PyProof.Rows.Boot.«sum» (A0 (Fq ["name"] ["reach"] [0] ⋯ ⋯ ⋯ (Bp (K:=K) hu (pv 0)) (λ_ _ _ _=>(Ad (i:=0) (by with_unfolding_all (show(["name","reach"]:List Str).Nodup;decide +kernel)) ⋯ (by eq_refl))) (Ct nofun) (λ_ _ _ _=>Gu) (λ_ _ _ _=>(Ac Lf ⋯ T.b_len PyProof.Rows.Boot.«len» (A0 (Ae (A6 (K:=K) hu) (pv 1) (pv 0) (by ac_rfl)) A1)))) A1))) (Aj En (Ac Lf ⋯ T.b_len PyProof.Rows.Boot.«len» (A0 (pv 0) A1)) (Aj Hb (Ac Lf ⋯ T.b_len PyProof.Rows.Boot.«len» (A0 (pv 0) A1)) A3)) (Av _)))),?_⟩
 symm
 refine Yi (as:=[r]) hT.top (A0G.mpr rfl) λo H1 k1 h1=>?_;refine J4 Rr (λq i acc H2=>Same H1 H2/\acc=(ns.take i).map λx=>V.int ((szW ns ps x:Nat):Int)) (λq H' hq' e h=>⟨e,rfl⟩) (λq i acc H2 hP=>hP.1 _ _ h1) (λq i x acc H2 hq' hx hi hl hacc hP=>?_) (λq acc H2 hq' hacc hl hP=>?_)
 . obtain⟨e2,rfl⟩:=hP;rw[L4 hT.len,A09] at hx;obtain⟨z,hz,rfl⟩:=A1M.mp hx;have hT2:=(hT.keep k1).same e2;obtain⟨j,a,hj,ha⟩:=hT2.at (A0B hz);obtain⟨ks,g1,g2,g3,g4⟩:=hT2.row j z a hj ha
   symm
   refine Nk hT2 hn hj ha ?_
   symm
   refine Xh g1 ?_;rw[Ka,Sq hn g2 g3 g4];refine Mg (by rw[A01];omega) hi hl hacc λH3 e3 h3=>⟨?_,?_⟩
   . walk_at "sm"
   rw[A18,hz];simp
 obtain⟨e2,rfl⟩:=hP;rw[L4 hT.len,A01,A1A] at hacc;have hT2:=(hT.keep k1).same e2
 symm
 refine az6 (ns:=ns.map λx=>((szW ns ps x:Nat):Int)) (.inl (SqL.of (by rw[hacc,A1J];rfl))) (λn hn'=>?_) (by rw[A01];omega) ?_
 . obtain⟨x,hx,rfl⟩:=A0K.mp hn';have:szW ns ps x<=ns.length:=A1Q _ _;omega
 symm
 refine Xh hT2.top ?_
 symm
 refine Xh hT2.top ?_;rw[hrl]
 symm
 refine k _ H2 (k1.trans (e2.keep _)) ?_;rw[A1Y]
 have h1:=al8 (ps:=ps) (λx=>Kb hW x) (λx y h=>by
  cases e:Ay ps y x with
  |false=>rfl
  |true=>exact absurd ((wayB_iff.mp h).trans (wayB_iff.mp e)) (hW.irr x)) ns
 have hsum:(2*(ns.map λx=>((szW ns ps x:Nat):Int)).sum:Int)+2*(((unP ns ps).length:Nat):Int)=(ns.length:Int)*((ns.length:Int)-1):=by
  rw[Ta];unfold szW
  cases hl0:ns.length with
  |zero=>rw[hl0] at h1;simp only[Nat.zero_mul] at h1;simp;omega
  |succ n=>
    rw[hl0,A40] at h1;have h2:((2*(ns.map λx=>(ns.filter λy=>Ay ps x y).length).sum+2*(unP ns ps).length:Nat):Int)=(((n+1)*n:Nat):Int):=by rw[h1]
    push_cast at h2 ⊢
    rw[h2,Int.add_sub_cancel]
 rw[<- A1E];constructor
 . intro z;have:=V.int.inj z;omega
 intro z;rw[z] at hsum;exact congrArg V.int ∅
theorem Y0 {P:Addr}{H H':Hp}{ps:Array Value}(e:ExtBut P H H')(h:H P=some (.tbl ps)):Fz H H':=Xb e λxs q=>by
 rcases q with q|⟨o,q⟩
 . rw[h] at q;cases q
 rw[h] at q;cases q
theorem De {P:Addr}{a b:Nat}{q:Str}{H:Hp}(h:LamT P a b q H):∃ ps,H P=some (.tbl ps):=by
 rcases h with h|⟨c,h,_⟩
 . exact⟨_,h⟩
 exact⟨_,h⟩
theorem Wm {P a:Addr}{H H':Hp}{ps:Array Value}{kvs:List (Key×V)}(e:ExtBut P H H')(h:H P=some (.tbl ps))(r:Rd H a (.dK kvs)):Rd H' a (.dK kvs):=by
 rcases r with r|⟨o,r⟩
 . exact .inl (e _ _ (ne_of r h (by intro z;cases z)) r)
 exact .inr ⟨o,e _ _ (ne_of r h (by intro z;cases z)) r⟩
theorem TabR.tbl {P r:Addr}{H H':Hp}{tps:Array Value}{ns:List Str}{as:List Addr}{R:Str->Str->Prop}(e:ExtBut P H H')(h:H P=some (.tbl tps))(t:TabR H r ns as R):TabR H' r ns as R:=
 ⟨t.len,Wm e h t.top,λi z a hz ha=>let ⟨ks,h1,h2⟩:=t.row i z a hz ha;⟨ks,Wm e h h1,h2⟩⟩
theorem Ld {f:Addr}{fd:FuncData}(F:Fun K "order_of_row" "order_of_row" C8 f fd)(T:Gg mg){P_row:Addr}{T4:Addr}(lb:as8 K mg base T4 P_row)(hcd:fd.code = .ref T4):FnOk P w K mg base CX0 1 f fd ["reach"] (Fs P_row K):=by
 refine Fun.okC F hcd M3 (λvs H Q E h=>?_) (λA outer s H vs Q E hr h=>?_)
 . obtain⟨r,ns,ps,as,row,rfl,_⟩:=h;rfl
 obtain⟨r,ns,ps,as,row,rfl,hT,hW,h10,he,hL,k⟩:=h;have hu:=Cs hr;have hq:=Cu hr;have hn:=hW.nd
 with_reducible refine⟨_,(A8 (As (Ba (C0 (K:=K)) ⋯ T.b_tuple PyProof.Rows.Boot.«tuple» (A0 (Vp (i:=0) ⟨⋯,lb.hd,lb.bi,lb.gP⟩ ⋯ hr.depth ⋯ T.b_sorted T.b_len ⋯ ⋯ (A0 (pv 0) A1)) A1)))),?_⟩
 symm
 refine ag3 rfl ?_
 symm
 refine⟨rfl,hL,λH2 e2 hL2=>?_⟩;obtain⟨tps,htb⟩:=De hL;have hT2:=TabR.tbl e2 htb hT;refine⟨Io ns as,ns,szW ns ps,hT2.top,?_,by omega,λx hx=>?_,λp ms hp hperm ho=>?_⟩
 . exact a00 hT2.len
 . obtain⟨j,a,hj,ha⟩:=hT2.at hx;obtain⟨ks,g1,g2,g3,g4⟩:=hT2.row j x a hj ha;exact⟨a,Gh ks,Ih hn hj ha,g1,by rw[Ka,Sq hn g2 g3 g4]⟩
 have:=Nd hW he hperm ho;subst this
 symm
 refine Ln (ns:=ms) A9 (G3 ms) λv H3 e3 hI3=>?_;have e23:Same H2 H3:=(Same.upd hp).trans e3;exact k v H3 (ExtBut.same e2 e23) (hL2.same e23) hI3
theorem Ny {f:Addr}{fd:FuncData}(F:Fun K "reach_said" "reach_said" Do f fd)(T:Gg mg):FnOk P w K mg base CX0 1 f fd ["reach","one","other"] (Fc K):=by
 refine F.ok Fd (λvs H Q E h=>?_) (λcdv A outer s H vs Q E hr h=>?_)
 . obtain⟨r,x,y,ns,ps,as,rfl,_⟩:=h;rfl
 obtain⟨r,x,y,ns,ps,as,rfl,hT,hW,hx,hy,k⟩:=h;have hu:=Cs hr;have hq:=Cu hr;have hn:=hW.nd;have hfew:=hW.few;obtain⟨jy,ay,hjy,hay⟩:=hT.at hy;obtain⟨ky,y1,y2,y3,y4⟩:=hT.row jy y ay hjy hay;have hyl:ky.length<=ns.length:=Cf y2 y3
 with_reducible refine⟨_,(A2 (Aa (i:=3) Fd.nd ⋯ (by eq_refl) (Ba Ng ⋯ T.b_dict PyProof.Rows.Boot.«dict» (A0 (Ae (A6 (K:=K) hu) (pv 0) (pv 2) (by ac_rfl)) A1)))
  (A2 (J9 hu (pv 3) (pv 2) Xv ⋯)
  (A2 (Aa (i:=4) Fd.nd ⋯ (by eq_refl) Tv)
  (A2 (Du A11 ⋯ (Bp (K:=K) hu (pv 0)) (Ad (i:=5) Fd.nd ⋯ (by eq_refl))
  (A2 (J9 hu (pv 4) (pv 5) (Ba Ng ⋯ T.b_dict PyProof.Rows.Boot.«dict» (A0 (Ae (A6 (K:=K) hu) (pv 0) (pv 5) (by ac_rfl)) A1)) ⋯)
  (A8 (Cd (PW.pt (W5 (Af (Bx (K:=K) hq) (pv 5) (pv 1) (Av _)) (Si (Af (Qv (K:=K) hq) (pv 1) (Ae (A6 (K:=K) hu) (pv 0) (pv 5) (by ac_rfl)) ⋯)))) (A8 (Dz (Fv (K:=K) PySem.F.plainAttrs_dict PySem.F.slot_dict_update PySem.F.type_dict_update (mm Nt) (Ae (A6 (K:=K) hu) (pv 4) (pv 5) (by ac_rfl)) (A0 (pv 3) A1)))) Aw))))
  (A8 (As (pv 4))))))),?_⟩
 symm
 refine Nk hT hn hjy hay ?_
 symm
 refine Zu y1 λm H1 hm1 e1 h1=>?_
 symm
 refine Kr h1 (by rw[Ka];omega) λH2 e2 h2=>?_;rw[T8] at h2
 symm
 refine a82 λf H3 hf3 e3 h3=>?_
 symm
 have hsm2:Same H H2:=by walk_at "sm"
 have hsm3:Same H H3:=hsm2.trans e3;have hmf:m≠f:=ne_of_none h2 hf3;have h3m:=e3 _ _ h2;have hf0:H f=none:=hsm2.free hf3;refine Yi (as:=[r]) (hsm3.rd hT.top) (A0G.mpr rfl) λo H4 k4 h4=>?_
 have hrm:m∉[r]:=λz=>by
  rw[A0G.mp z] at hm1;rcases hT.top with q|⟨o',q⟩
  . rw[q] at hm1;cases hm1
  rw[q] at hm1;cases hm1
 have hrf:f∉[r]:=λz=>by
  rw[A0G.mp z] at hf0;rcases hT.top with q|⟨o',q⟩
  . rw[q] at hf0;cases hf0
  rw[q] at hf0;cases hf0
 refine Ez Rr (λi σ H'=>∃ x5 as',σ=[some (.ref r),some (.str x),some (.str y),some (.ref m),some (.ref f),x5]/\Keep [r] H H'/\H' r=some (.frz o (.dK (Io ns as)))/\H' m=some (.dK (Gh (Y9 ky y)))/\TabP H' f ns i as' (Way (ps++[(x,y)]))/\∀ a∈as',H a=none/\a≠m)
  ⟨_,[],rfl,(hsm3.keep _).trans k4,h4,k4.1 _ _ hrm h3m,⟨rfl,.nil,by simp,k4.1 _ _ hrf h3,λj z a _ ha=>(by cases ha)⟩,λa ha=>(by cases ha)⟩ (λi σ' H' hP=>?_) (λi w σ' H5 hw hi hP=>?_) (fun σ' H5 hP=>?_)
 . obtain⟨x5,as',_,_,h5,_⟩:=hP;exact h5
 . obtain⟨x5,as',rfl,k5,h5r,h5m,hP5,ha5⟩:=hP;rw[L4 hT.len,A09] at hw;obtain⟨z,hz,rfl⟩:=A1M.mp hw;have hT5:=hT.keep k5;obtain⟨jz,az,hjz,haz⟩:=hT5.at (A0B hz);obtain⟨kz,z1,z2,z3,z4⟩:=hT5.row jz z az hjz haz;have hzl:kz.length<=ns.length:=Cf z2 z3;have hin:i<ns.length:=(A03.mp hz).1
   have hnew:z∉ns.take i:=λq=>by obtain⟨j,hj,e⟩:=A2I q;rw[List.getElem_take] at e;rw[A0U] at hj;obtain⟨g1,g2⟩:=A03.mp hz;have:=(A1U hn).mp (e.trans g2.symm);omega
   symm
   refine Nk hT5 hn hjz haz ?_
   symm
   refine Zu z1 λb H6 hb6 e6 h6=>?_
   symm
   have htl:(ns.take i).length=as'.length:=by rw[A0U,hP5.len];omega
   have hkl:(Io (ns.take i) as').length<=100:=by unfold Io;rw[List.length_map,List.length_zip,List.length_take,hP5.len];omega
   have h6f:=e6 _ _ hP5.top;refine Kr h6f ∅ λH7 e7 h7=>?_;have ht:ns.take (i+1)=ns.take i++[z]:=by rw[A18,hz];rfl
   rw[a47 _ (Gr hnew),<- Uv htl,<- ht] at h7;have hbf:b≠f:=Ne.symm (ne_of_none hP5.top hb6);have hbm:b≠m:=Ne.symm (ne_of_none h5m hb6)
   have hb0:H b=none:=by
    cases q:H b with
    |none=>rfl
    |some ob=>
      by_cases hbr:b∈[r]
      . rw[A0G.mp hbr,h5r] at hb6;cases hb6
      rw[k5.1 _ _ hbr q] at hb6;cases hb6
   have hba:b∉as':=λq=>by
    obtain⟨j,hj,e⟩:=A2I q;have hjn:j<ns.length:=by have:=hP5.len;omega
    obtain⟨_,g,_⟩:=hP5.row j ns[j] b (A07 hjn) (by rw[A07 hj,e]);rw[hb6] at g;cases g
   have k7:Keep [r] H H7:=⟨λc oc hc q=>e7 _ _ (λq'=>by rw[q',hf0] at q;cases q) (e6 _ _ (k5.1 c oc hc q)),λc hc u q=>by
    have hcr:=A0G.mp hc;subst hcr;have e':H7 c=H5 c:=by rw[h5r];exact e7 _ _ (λq=>hrf (by rw[q];exact A0G.mpr rfl)) (e6 _ _ h5r)
    rcases k5.2 c hc u q with q|⟨o',q⟩
    . exact .inl (e'.trans q)
    exact .inr ⟨o',e'.trans q⟩⟩
   have h7r:H7 r=some (.frz o (.dK (Io ns as))):=e7 _ _ (λq=>hrf (by rw[q];exact A0G.mpr rfl)) (e6 _ _ h5r);have h7m:H7 m=some (.dK (Gh (Y9 ky y))):=e7 _ _ hmf (e6 _ _ h5m);have h7b:H7 b=some (.dK (Gh kz)):=e7 _ _ hbf h6
   have hrow7:∀(j:Nat) (z':Str) (a:Addr),ns[j]? = some z'->as'[j]? = some a->∃ ks:List Str,H7 a=some (.dK (Gh ks))/\ks.Nodup/\(∀ y∈ks,y∈ns)/\∀ w,w∈ks↔Way (ps++[(x,y)]) z' w:=λj z' a hj ha=>by obtain⟨ks,g1,g2⟩:=hP5.row j z' a hj ha;exact⟨ks,e7 _ _ (λq=>hP5.nr (q ▸ A0B ha)) (e6 _ _ g1),g2⟩
   have hT7:=hT.keep k7;obtain⟨kz',z1',z2',z3',z4'⟩:=hT7.row jz z az hjz haz;have hval:Hz (Io (ns.take (i+1)) (as'++[b])) (Sum.inr z:Key)=some (.ref b):=Ih (i:=i) (hn.sublist (List.take_sublist ..)) (by rw[List.getElem?_take_of_lt (Nat.lt_succ_self i)];exact hz) (by rw[List.getElem?_append_right (by rw[hP5.len];exact Nat.le_refl _),hP5.len];simp)
   have hfree:∀ a∈as'++[b],H a=none/\a≠m:=λa ha=>by
    rcases A0E.mp ha with ha|ha
    . exact ha5 a ha
    rw[A0G.mp ha];exact⟨hb0,hbm⟩
   have hK8:∀ H8,ExtBut b H7 H8->Keep [r] H H8:=λH8 e8=>k7.lst e8 hb0 λq=>by rw[A0G.mp q,h5r] at hb6;cases hb6
   have hyes:(z=x\/Way ps z x)->∀ w,w∈Km kz (Y9 ky y)↔Way (ps++[(x,y)]) z w:=λhc w=>by
    rw[mem_addAll,mem_addK,z4,y4,way_said];constructor
    . rintro(h|h|h)
      . exact .inl h
      . exact .inr ⟨hc,.inr h⟩
      exact .inr ⟨hc,.inl h.symm⟩
    rintro(h|⟨_,h|h⟩)
    . exact .inl h
    . exact .inr (.inr h.symm)
    exact .inr (.inl h)
   symm
   refine Ly (λhc=>?_) (λhc=>?_)
   . rw[A12 rfl]
     symm
     refine i_ixD h7 hval ?_;refine a50 h7b ?_
     symm
     refine Xd h7b h7m hbm (by have:=Cf (Ic (y:=y) y2) (λw hw'=>(mem_addK.mp hw').elim (y3 w) λq=>q ▸ hy);omega) λH8 e8 h8=>?_
     symm
     exact⟨_,as'++[b],rfl,hK8 H8 e8,e8 _ _ (λq=>by rw[<- q,h5r] at hb6;cases hb6) h7r,e8 _ _ hbm.symm h7m,TabP.snoc hP5.len hP5.nd hP5.nr hba hbf hz (e8 _ _ hbf.symm h7) (λj z' a hj ha=>let ⟨ks,g1,g2⟩:=hrow7 j z' a hj ha;⟨ks,e8 _ _ (λq=>hba (q ▸ A0B ha)) g1,g2⟩) h8 (G1 z2) (λw hw'=>(mem_addAll.mp hw').elim (z3 w) λq=>(mem_addK.mp q).elim (y3 w) λq=>q ▸ hy) (λw=>hyes (.inl (V.str.inj hc)) w),hfree⟩
   symm
   refine Nk hT7 hn hjz haz ?_
   symm
   refine a70 z1' ?_
   symm
   refine Ly (λhc2=>?_) (λhc2=>?_)
   . symm
     refine i_ixD h7 hval ?_;refine a50 h7b ?_
     symm
     refine Xd h7b h7m hbm (by have:=Cf (Ic (y:=y) y2) (λw hw'=>(mem_addK.mp hw').elim (y3 w) λq=>q ▸ hy);omega) λH8 e8 h8=>?_
     symm
     exact⟨_,as'++[b],rfl,hK8 H8 e8,e8 _ _ (λq=>by rw[<- q,h5r] at hb6;cases hb6) h7r,e8 _ _ hbm.symm h7m,TabP.snoc hP5.len hP5.nd hP5.nr hba hbf hz (e8 _ _ hbf.symm h7) (λj z' a hj ha=>let ⟨ks,g1,g2⟩:=hrow7 j z' a hj ha;⟨ks,e8 _ _ (λq=>hba (q ▸ A0B ha)) g1,g2⟩) h8 (G1 z2) (λw hw'=>(mem_addAll.mp hw').elim (z3 w) λq=>(mem_addK.mp q).elim (y3 w) λq=>q ▸ hy) (λw=>hyes (.inr ((z4' x).mp hc2)) w),hfree⟩
   symm
   refine⟨_,as'++[b],rfl,k7,h7r,h7m,TabP.snoc hP5.len hP5.nd hP5.nr hba hbf hz h7 hrow7 h7b z2 z3 (λw=>?_),hfree⟩;rw[z4,way_said];refine⟨.inl,λh=>h.elim (λq=>q) λq=>absurd q.1 ?_⟩;rintro(q|q)
   . exact hc (by rw[q])
   exact hc2 ((z4' x).mpr q)
 obtain⟨x5,as',rfl,k5,h5r,h5m,hP5,ha5⟩:=hP;rw[A01] at hP5;have hl:(Io ns as).length=ns.length:=by unfold Io;rw[List.length_map,List.length_zip,hT.len,Nat.min_self]
 rw[hl] at hP5
 symm
 exact k f as' H5 hf0 (λa ha=>(ha5 a ha).1) k5 hP5.done
theorem Uh {ns:List Str}{ps:List (Str×Str)}{D:PyData}{m:Nat}(p:PlanP ns ps D m):frz D=true:=by
 induction p with
 |@fin ps row e=>simp[frz,frzL,Jo]
 |ask _ _ _ _ _ _ i1 i2=>simp[frz,frzL,i1,i2]
def G5 (K:W.Frag):Sp:=λvs H Q _=>∃ v ns ps,vs=[v]/\HfS K H v ns ps/\HalfW ns ps/\ns.length<=10/\cnt (Ay ps) ns<=1000/\∀ l ys H',H l=none->Same H H'->H' l=some (.lst ys)->IsL K H' ((ext (Ay ps) ns.length ns).map nmD) ys->Q (.ref l) H'
theorem Mk {f:Addr}{fd:FuncData}(F:Fun K "_law_orders" "_law_orders" Ci f fd)(T:Gg mg):FnOk P w K mg base CX0 1 f fd ["_law_half_here"] (G5 K):=by
 refine F.ok Be (λvs H Q E h=>?_) (λcdv A outer s H vs Q E hr h=>?_)
 . obtain⟨v,ns,ps,rfl,_⟩:=h;rfl
 obtain⟨v,ns,ps,rfl,hI,hW,h6,hcn,k⟩:=h;have hgr:∀ i,i<=ns.length->(Eo (Ay ps) ns i [[]]).length<=1000:=λi hi=>A0L (ac8 (λx=>Kb hW x) (λx y z a b=>wayB_iff.mpr ((wayB_iff.mp a).trans (wayB_iff.mp b))) hW.nd hi) hcn;have hu:=Cs hr;have hq:=Cu hr;have hn:=hW.nd
 with_reducible refine⟨_,(A2 (Aa (i:=1) Be.nd ⋯ (by eq_refl) (Bc (A0 (Ao A1) A1)))
  (A2 (Du A11 ⋯ (Bu ⋯ T.b_range (A0 (Ac (Au (K:=K)) ⋯ T.b_len PyProof.Rows.Boot.«len» (A0 (Ae (A6 (K:=K) hu) (pv 0) A3 (by ac_rfl)) A1)) A1)) (Ad (i:=2) Be.nd ⋯ (by eq_refl))
  (A2 (Aa (i:=3) Be.nd ⋯ (by eq_refl) (Bc A1))
  (A2 (Du A11 ⋯ (Bp (K:=K) hu (pv 1)) (Ad (i:=4) Be.nd ⋯ (by with_unfolding_all exact A3P rfl))
  (A2 (Aa (i:=5) Be.nd ⋯ (by with_unfolding_all exact A3P rfl) (Fq ["_law_name"] ["_law_row"] [4] ⋯ ⋯ ⋯ (Bp (K:=K) hu (Ae (A6 (K:=K) hu) (pv 0) A3 (by ac_rfl))) (λ_ _ _ _=>(Ad (i:=0) (by with_unfolding_all (show(["_law_name","_law_row"]:List Str).Nodup;decide +kernel)) ⋯ (by eq_refl))) (Ct nofun) (λ_ _ _ _=>(Hq (Af (Cw (K:=K) hq) (pv 0) (pv 1) ⋯))) (λ_ _ _ _=>(pv 0))))
  (A2 (Aa (i:=6) Be.nd ⋯ (by with_unfolding_all exact A3P rfl) (Fq ["_law_one","_law_other"] ["_law_left"] [5] ⋯ ⋯ ⋯ (Bp (K:=K) hu (Ae (A6 (K:=K) hu) (pv 0) A3 (by ac_rfl))) (λ_ _ _ _=>(Kg (K:=K) (n:=2) ⋯ (Bi (Ad (i:=0) (by with_unfolding_all (show(["_law_one","_law_other","_law_left"]:List Str).Nodup;decide +kernel)) ⋯ (by eq_refl)) (Bi (Ad (i:=1) (by with_unfolding_all (show(["_law_one","_law_other","_law_left"]:List Str).Nodup;decide +kernel)) ⋯ (by eq_refl)) Ke)))) (ap4 (Yd nofun (Yd nofun ao4))) (λ_ _ _ _=>(Hq (Af (Qv (K:=K) hq) (pv 0) (pv 2) ⋯))) (λ_ _ _ _=>(pv 1))))
  (A8 (Dz (Fv (K:=K) A0Y A47 A48 (mm Mc) (pv 3) (A0 (Fq ["_law_name"] ["_law_row","_law_later"] [4,6] ⋯ ⋯ ⋯ (Bp (K:=K) hu (pv 5)) (λ_ _ _ _=>(Ad (i:=0) (by with_unfolding_all (show(["_law_name","_law_row","_law_later"]:List Str).Nodup;decide +kernel)) ⋯ (by eq_refl))) (Ct nofun) (λ_ _ _ _=>(Hq (Af (Cw (K:=K) hq) (pv 0) (pv 2) ⋯))) (λ_ _ _ _=>(Aj (Ab (K:=K)) (pv 1) (Ao (A0 (pv 0) A1))))) A1)))))))
  (A8 (Aa (i:=1) Be.nd ⋯ (by eq_refl) (pv 3))))))
  (A8 (As (pv 1))))),?_⟩
 symm
 refine Ap nofun λt2 H2 ht2 e2 h2=>?_
 symm
 refine Bb (A7 (by simp)) λl3 H3 hl3 e3 h3=>?_
 symm
 have e13:Same H H3:=e2.trans e3;refine a96 (hI.same e13) λnv hN=>?_
 symm
 refine Yc hN ?_
 symm
 refine Gf ∅ ?_
 refine Ez B5 (λi σ H4=>∃ l x2 x3 x4 x5 x6 ys,σ=[some v,some (.ref l),x2,x3,x4,x5,x6]/\Same H H4/\H l=none/\H4 l=some (.lst ys)/\IsL K H4 ((Eo (Ay ps) ns i [[]]).map nmD) ys)
  ⟨l3,_,_,_,_,_,[.ref t2],rfl,e13,e2.free hl3,h3,.one (Jy (SqT.of (e3 _ _ h2)))⟩ (λ_ _ _ _=>trivial) (λi x σ H4 hx hi hP=>?_) (fun σ H4 hP=>?_)
 . obtain⟨l,x2,x3,x4,x5,x6,ys,rfl,e4,hl1,h4,hL4⟩:=hP;obtain⟨rfl,hin⟩:=Ej hx;have hrows:(Eo (Ay ps) ns i [[]]).length<=1000:=hgr i ∅;have hyl:ys.length=(Eo (Ay ps) ns i [[]]).length:=by rw[<- IsL.length hL4,A01]
   symm
   refine Bb nofun λg H5 hg5 e5 h5=>?_
   symm
   have hlg:l≠g:=ne_of_none h4 hg5;refine Mq (SqL.of (e5 _ _ h4)) ?_
   refine Ez (Cv (xs:=ys)) (λj σ H6=>∃ y4 y5 y6 zs,σ=[some v,some (.ref l),some (.int (0+(i:Int))),some (.ref g),y4,y5,y6]/\Same H4 H6/\H6 g=some (.lst zs)/\IsL K H6 ((Fo (Ay ps) ns ((Eo (Ay ps) ns i [[]]).take j)).map nmD) zs)
    ⟨_,_,_,[],rfl,e5,h5,.nil⟩ (λj σ' H' hP=>?_) (λj x σ' H6 hx6 hj hP=>?_) (fun σ' H6 hP=>?_)
   . obtain⟨_,_,_,_,_,e,_⟩:=hP;exact SqL.of (e _ _ h4)
   . obtain⟨y4,y5,y6,zs,rfl,e6,h6g,hL6⟩:=hP;obtain ⟨dr,hdr,hIr⟩:=IsL.get (IsL.mono e6 _ _ hL4) hx6;rw[A09] at hdr
     cases hro:(Eo (Ay ps) ns i [[]])[j]? with
     |none=>rw[hro] at hdr;cases hdr
     |some row=>
       rw[hro] at hdr
       cases hdr;have hrowm:=A0B hro;have hrl:=Qi _ _ _ _ hrowm;have e16:Same H H6:=e4.trans e6
       symm
       refine a96 (hI.same e16) λnv6 hN6=>?_;refine Ue hN6 (λz=>!decide (z∈row)) PyData.str (λ_=>rfl) ∅ (λjj z H7 R R' hz e7 hR hR'=>?_) (λlf ys7 H7 hlf7 e7 h7 hL7=>?_)
       . symm
         refine aq5 (hIr.nm_fz e7.fz) ?_
         symm
         refine Sz (λhb=>?_) (λhb=>?_)
         . symm
           exact hR (by rw[hb];rfl) _ _ (.refl _) B7
         exact hR' (by rw[hb];rfl) _ (.refl _)
       have hLf:=IsL.str_eq hL7;subst hLf;have h7':H7 lf=some (.lst ((Fa ns row).map V.str)):=h7;have hlfl:(Fa ns row).length<=ns.length:=A1Q _ _;have hglf:g≠lf:=ne_of_none h6g hlf7
       symm
       refine an0 ((hI.same e16).same e7) λpv7 hP7=>?_;refine ac6 hP7 (λp=>decide (p.1∈Fa ns row)) (λp=>PyData.str p.2) (λ_=>rfl) (by have:=hW.le;omega) (λjj p w H8 R R' hp hIw e8 hR hR'=>?_) (λlt ys8 H8 hlt8 e8 h8 hL8=>?_)
       . obtain⟨wa,rfl,hSw⟩:=hIw.pr
         symm
         refine Xm hSw ?_
         symm
         refine ap2 (e8.seq (SqL.of h7')) ?_
         symm
         refine Ly (λhb=>?_) (λhb=>?_)
         . symm
           exact hR (A0P hb) _ _ (.refl _) B7
         exact hR' (A0R hb) _ (.refl _)
       rw[show((ps.filter λp=>decide (p.1∈Fa ns row)).map λp=>PyData.str p.2)=((ps.filter λp=>decide (p.1∈Fa ns row)).map (·.2)).map PyData.str by rw[A1J];rfl] at hL8;have hLt:=IsL.str_eq hL8;subst hLt
       symm
       have h8l:=e8 _ _ h7';have hIr8:=hIr.nm_fz (e7.trans e8).fz;refine Us (SqL.of h8l) (λz=>!decide (z∈(ps.filter λp=>decide (p.1∈Fa ns row)).map (·.2))) (λz=>nmD (row++[z])) (λ_=>Jo _) ∅ (λjj z H9 R R' hz e9 hR hR'=>?_) (λq9 zs9 H9 hq9 e9 h9 hL9=>?_)
       . symm
         refine Oa (e9.seq (SqL.of h8)) ?_
         symm
         refine Sz (λhb=>?_) (λhb=>?_)
         . symm
           refine Ap (A7 (by simp)) λt11 H11 ht11 e11 h11=>?_;obtain⟨ra,rfl,hSr⟩:=(hIr8.nm_fz (e9.trans e11).fz).nm;refine Fu hSr (SqT.of h11) (A7 (by rw[List.length_map];simp;omega)) λp12 H12 e12 h12=>?_;exact hR (by rw[hb];rfl) _ _ (e11.trans e12) (Jy (by rw[A0N];exact h12))
         exact hR' (by rw[hb];rfl) _ (.refl _)
       rw[a79 hW.mem hrowm] at hL9;have hg9:=(((e7.trans e8).trans e9) _ _ h6g);have hzl:=IsL.length hL9;have hzl6:=IsL.length hL6;rw[A01] at hzl hzl6;have hfl:(frF (Ay ps) (Fa ns row)).length<=10:=A0L (A1Q _ _) ∅;have hgl:(Fo (Ay ps) ns ((Eo (Ay ps) ns i [[]]).take j)).length<=1000:=A0L (Pm _ _ _ _) (by rw[<- Ga];exact hgr (i+1) ∅)
       symm
       refine Xy hg9 h9 ∅ λH10 e10 h10=>?_;have fz10:=e10.fzL hg9
       symm
       refine⟨_,_,_,_,rfl,((e6.trans ((e7.trans e8).trans e9))).off hg5 e10,h10,?_⟩;rw[Vx _ _ hro,A0N,A1J];exact IsL.append (IsL.fz (((e7.trans e8).trans e9).fz.trans fz10) _ _ (Od _) hL6) (IsL.fz fz10 _ _ (Fy _ (λ_=>Jo _) _) hL9)
   obtain⟨y4,y5,y6,zs,rfl,e6,h6g,hL6⟩:=hP;rw[hyl,A1A] at hL6
   symm
   refine⟨g,_,_,_,_,_,zs,rfl,e4.trans e6,e4.free hg5,h6g,?_⟩;rw[Ga];exact hL6
 obtain⟨l,x2,x3,x4,x5,x6,ys,rfl,e4,hl1,h4,hL4⟩:=hP
 symm
 refine k l ys H4 hl1 e4 h4 ?_;have:((ns.length:Nat):Int).toNat=ns.length:=by omega
 rw[<- Py];simpa using hL4
def Dw (K:W.Frag):Sp:=λvs H Q _=>∃ l x y rows ys,vs=[.ref l,.str x,.str y]/\SqL K H l ys/\IsL K H (rows.map nmD) ys/\(∀ r∈rows,x∈r/\y∈r)/\rows.length<=1000000 /\
 ∀ t la lb ya yb H',Same H H'->SqT K H' t [.ref la,.ref lb]->H' la=some (.lst ya)->ya.length=Pt rows x y->H' lb=some (.lst yb)->yb.length=Pt rows y x->IsL K H' ((rows.filter λr=>decide (r.idxOf x<r.idxOf y)).map nmD) ya->IsL K H' ((rows.filter λr=>decide (r.idxOf y<r.idxOf x)).map nmD) yb->H la=none->H lb=none->Q (.ref t) H'
theorem Po {f:Addr}{fd:FuncData}(F:Fun K "_law_parts" "_law_parts" Df f fd)(T:Gg mg):FnOk P w K mg base CX0 1 f fd ["_law_orders_here","_law_one","_law_other"] (Dw K):=by
 refine F.ok Jh (λvs H Q E h=>?_) (λcdv A outer s H vs Q E hr h=>?_)
 . obtain⟨l,x,y,rows,ys,rfl,_⟩:=h;rfl
 obtain⟨l,x,y,rows,ys,rfl,hl,hL,hm,hz,k⟩:=h;have hu:=Cs hr;have hq:=Cu hr;have hyl:=IsL.length hL;rw[A01] at hyl
 with_reducible refine⟨_,(A2 (Fi (i:=3) ["_law_order"] ["_law_one","_law_other"] [1,2] ⋯ ⋯ ⋯ Jh.nd ⋯ ⋯ (Bp (K:=K) hu (pv 0)) (λ_ _ _ _=>(Ad (i:=0) (by with_unfolding_all (show(["_law_order","_law_one","_law_other"]:List Str).Nodup;decide +kernel)) ⋯ (by eq_refl))) (Ct nofun) (λ_ _ _ _=>(Hq (Af a56 (Td (K:=K) A2D A2U (Hx (K:=K)) (pv 0) (A0 (pv 1) A1)) (Td (K:=K) A2D A2U (Hx (K:=K)) (pv 0) (A0 (pv 2) A1)) (Av _)))) (λ_ _ _ _=>(pv 0)))
  (A8 (As (Ao (A0 (pv 3) (A0 (Fq ["_law_order"] ["_law_one","_law_other"] [1,2] ⋯ ⋯ ⋯ (Bp (K:=K) hu (pv 0)) (λ_ _ _ _=>(Ad (i:=0) (by with_unfolding_all (show(["_law_order","_law_one","_law_other"]:List Str).Nodup;decide +kernel)) ⋯ (by eq_refl))) (Ct nofun) (λ_ _ _ _=>(Hq (Af a51 (Td (K:=K) A2D A2U (Hx (K:=K)) (pv 0) (A0 (pv 1) A1)) (Td (K:=K) A2D A2U (Hx (K:=K)) (pv 0) (A0 (pv 2) A1)) (Av _)))) (λ_ _ _ _=>(pv 0))) A1)))))),?_⟩
 symm
 refine Mq hl (G2 (K:=K) (Cv (xs:=ys)) rows hyl (λr=>decide (r.idxOf x<r.idxOf y)) nmD (λ_=>Jo _) ∅ (λH' e=>e.seq hl) (λi r v H1 R R' hr' hv e1 hR hR'=>?_) (λla ya H1 hla e1 h1 hL1=>?_))
 . obtain⟨dd,hd,hI⟩:=IsL.get (IsL.mono e1 _ _ hL) hv;rw[A09,hr'] at hd
   cases hd;obtain⟨ra,rfl,hS⟩:=hI.nm;obtain⟨m1,m2⟩:=hm r (A0B hr');obtain⟨f1,f2,_⟩:=Ix m1;obtain⟨g1,g2,_⟩:=Ix m2
   symm
   refine a74 hS ?_
   symm
   refine La hS f1 f2 ?_
   symm
   refine a74 hS ?_
   symm
   refine La hS g1 g2 ?_
   symm
   refine Ly (λhb=>?_) (λhb=>?_)
   . symm
     exact hR (A0P ∅) _ _ (.refl _) hI
   exact hR' (A0R ∅) _ (.refl _)
 have hyl1:=IsL.length hL1;rw[A01] at hyl1;have hl1:=e1.seq hl;have hLb:=IsL.mono e1 _ _ hL
 symm
 refine Mq hl1 (G2 (K:=K) (Cv (xs:=ys)) rows hyl (λr=>decide (r.idxOf y<r.idxOf x)) nmD (λ_=>Jo _) ∅ (λH' e=>e.seq hl1) (λi r v H2 R R' hr' hv e2 hR hR'=>?_) (λlb yb H2 hlb e2 h2 hL2=>?_))
 . obtain⟨dd,hd,hI⟩:=IsL.get (IsL.mono e2 _ _ hLb) hv;rw[A09,hr'] at hd
   cases hd;obtain⟨ra,rfl,hS⟩:=hI.nm;obtain⟨m1,m2⟩:=hm r (A0B hr');obtain⟨f1,f2,_⟩:=Ix m1;obtain⟨g1,g2,_⟩:=Ix m2
   symm
   refine a74 hS ?_
   symm
   refine La hS f1 f2 ?_
   symm
   refine a74 hS ?_
   symm
   refine La hS g1 g2 ?_
   symm
   refine Ly (λhb=>?_) (λhb=>?_)
   . symm
     exact hR (A0P ∅) _ _ (.refl _) hI
   exact hR' (A0R ∅) _ (.refl _)
 have hyl2:=IsL.length hL2;rw[A01] at hyl2
 symm
 refine Ap (A7 (by simp)) λt H3 ht e3 h3=>?_;exact k t la lb ya yb H3 ((e1.trans e2).trans e3) (SqT.of h3) ((e2.trans e3) _ _ h1) hyl1.symm (e3 _ _ h2) hyl2.symm (IsL.mono (e2.trans e3) _ _ hL1) (IsL.mono e3 _ _ hL2) hla (e1.free hlb)
def Ch (K:W.Frag):Sp:=λvs H Q _=>∃ v l ns rows ys,vs=[v,.ref l]/\NmS K H v ns/\SqL K H l ys/\IsL K H (rows.map nmD) ys/\(∀ r∈rows,∀ x∈ns,x∈r)/\ns.length<=10/\rows.length<=1000000 /\
 ∀ q zs H',H q=none->Same H H'->H' q=some (.lst zs)->IsL K H' (quK ns (Pt rows) ns.length) zs->Q (.ref q) H'
theorem Yy (ns:List Str)(A:Str->Str->Nat)(i m:Nat):frzL (quR ns A i m)=true:=Fy _ (λ_=>Zg ..) _
theorem Oz:∀ {a b:List PyData},frzL a=true->frzL b=true->frzL (a++b)=true
 | [],b,_,h=>h
 |x :: a,b,h,g=>by have h:(frz x&&frzL a)=true:=h;rw[A15] at h;show(frz x&&frzL (a++b))=true;rw[h.1,Oz h.2 g];rfl
theorem Y6 (ns:List Str)(A:Str->Str->Nat):∀ k,frzL (quK ns A k)=true
 |0=>rfl
 |k+1=>by rw[Pk];exact Oz (Y6 ns A k) (Yy ..)
theorem Y1 (ns:List Str)(A:Str->Str->Nat)(i m:Nat):(quR ns A i m).length<=ns.length:=by unfold quR;rw[A01];refine A0L (A1Q _ _) ?_;rw [A0U,A14];omega
theorem Sl (ns:List Str)(A:Str->Str->Nat):∀ k,(quK ns A k).length<=k*ns.length
 |0=>by simp[quK]
 |k+1=>by rw[Pk,A04,Nat.succ_mul];have:=Sl ns A k;have:=Y1 ns A k ns.length;omega
theorem K7 {f:Addr}{fd:FuncData}(F:Fun K "_law_questions" "_law_questions" Bl f fd)(T:Gg mg)(Bv:Fnd P w K mg base 1 "_law_parts" ["_law_orders_here","_law_one","_law_other"] (Dw K)):FnOk P w K mg base CX0 2 f fd ["_law_names_here","_law_orders_here"] (Ch K):=by
 refine F.ok Bf (λvs H Q E h=>?_) (λcdv A outer s H vs Q E hr h=>?_)
 . obtain⟨v,l,ns,rows,ys,rfl,_⟩:=h;rfl
 obtain⟨v,l,ns,rows,ys,rfl,hN,hl,hL,hm,h10,hz,k⟩:=h;have hu:=Cs hr;have hq:=Cu hr
 with_reducible refine⟨_,(A2 (Aa (i:=2) Bf.nd ⋯ (by eq_refl) (Bc A1))
  (A2 (Du A11 ⋯ (Bu ⋯ T.b_range (A0 (Ac (Au (K:=K)) ⋯ T.b_len PyProof.Rows.Boot.«len» (A0 (pv 0) A1)) A1)) (Ad (i:=3) Bf.nd ⋯ (by eq_refl))
  (A8 (Du A11 ⋯ (Bp (K:=K) hu (B4 (Mh (K:=K)) (pv 0) (B6 (Aj (Ab (K:=K)) (pv 3) A3)) Ca)) (Ad (i:=4) Bf.nd ⋯ (by eq_refl))
  (A2 (Vf (An Bv (hr.mono nofun) ⋯ (A0 (pv 1) (A0 (Ae (A6 (K:=K) hu) (pv 0) (pv 3) (by ac_rfl)) (A0 (pv 4) A1)))) (Kg (K:=K) (n:=2) ⋯ (Bi (Ad (i:=5) Bf.nd ⋯ (by eq_refl)) (Bi (Ad (i:=6) Bf.nd ⋯ (by eq_refl)) Ke))))
  (A8 (Cd (PW.pt (Kx (Af (Z9 (K:=K) hq) (pv 5) (Bc A1) (Av _)) (Hf (Af (Z9 (K:=K) hq) (pv 6) (Bc A1) (Av _))))) (A8 (Dz (Fv (K:=K) A0Y A1H A1I (mm Dq) (pv 2) (A0 (Ao (A0 (Ao (A0 (Ae (A6 (K:=K) hu) (pv 0) (pv 3) (by ac_rfl)) (A0 (pv 4) A1))) (A0 (Ao (A0 (Ac (Au (K:=K)) ⋯ T.b_len PyProof.Rows.Boot.«len» (A0 (pv 5) A1)) (A0 (Ac (Au (K:=K)) ⋯ T.b_len PyProof.Rows.Boot.«len» (A0 (pv 6) A1)) A1))) A1))) A1)))) Aw))))))
  (A8 (As (pv 2))))),?_⟩
 symm
 refine Bb nofun λq H1 hq1 e1 h1=>?_
 symm
 refine Yc (hN.same e1) ?_
 symm
 refine Gf ∅ ?_
 refine Ez B5 (λi σ H2=>∃ x3 x4 x5 x6 zs,σ=[some v,some (.ref l),some (.ref q),x3,x4,x5,x6]/\Same H H2/\H2 q=some (.lst zs)/\IsL K H2 (quK ns (Pt rows) i) zs)
  ⟨_,_,_,_,[],rfl,e1,h1,.nil⟩ (λ_ _ _ _=>trivial) (λi x σ H2 hx hi hP=>?_) (fun σ H2 hP=>?_)
 . obtain⟨x3,x4,x5,x6,zs,rfl,e2,h2,hL2⟩:=hP;obtain⟨rfl,hin⟩:=Ej hx;have hin':i<ns.length:=by omega
   have hzx:ns[i]? = some (ns.getD i ""):=by simp[List.getD,List.getElem?_eq_getElem hin']
   have hxm:=A0B hzx;have hzl:=IsL.length hL2;have hkl:=Sl ns (Pt rows) i;have hk100:i*ns.length<=100:=A0L (A2B (by omega:i<=10) h10) nofun
   symm
   refine au8 h2 (hN.same e2) ∅ ∅ λsv H3 e3 hN3=>?_;rw[show(0+(i:Int)+1).toNat=i+1 by omega] at hN3;have h3:=e3 _ _ h2
   refine aj8 hN3 (λm σ H4=>∃ y4 y5 y6 zs',σ=[some v,some (.ref l),some (.ref q),some (.int (0+(i:Int))),y4,y5,y6]/\ExtBut q H3 H4/\Fz H3 H4/\Same H H4/\H4 q=some (.lst zs')/\IsL K H4 (quK ns (Pt rows) i++quR ns (Pt rows) i m) zs')
    ⟨_,_,_,zs,rfl,.refl,.refl _,e2.trans e3,h3,by simpa[quR] using IsL.mono e3 _ _ hL2⟩ (λm σ' H' hP=>?_) (λm y σ' H4 hy hP=>?_) (fun σ' H4 hP=>?_)
   . obtain⟨_,_,_,_,_,h,h',_⟩:=hP;exact⟨h,h'⟩
   . obtain⟨y4,y5,y6,zs',rfl,b4,fz4,e4,h4,hL4⟩:=hP;have hyn:y∈ns:=(List.drop_sublist _ _).subset (A0B hy);have hzl4:=IsL.length hL4;rw[A04] at hzl4;have hrl:=Y1 ns (Pt rows) i m
     symm
     refine aa8 (hN.same e4) (by rw[Int.zero_add];exact Bz hzx) ?_
     symm
     refine⟨l,ns.getD i "",y,rows,ys,rfl,e4.seq hl,IsL.mono e4 _ _ hL,λr hr=>⟨hm r hr _ hxm,hm r hr _ hyn⟩,hz,λt la lb ya yb H5 e5 ht hla hya hlb hyb _ _ _ _=>?_⟩;refine Xm ht ?_
     symm
     refine Bb nofun λn6 H6 hn6 e6 h6=>?_
     symm
     refine ab2 (SqL.of (e6 _ _ hla)) (SqL.of h6) ?_
     symm
     have e46:=e5.trans e6
     have zero:∀ {ys:List V} {n:Nat},ys.length=n->ys.isEmpty=true->n=0:=fun {ys n} h g=>by
      cases ys with
      |nil=>exact h.symm
      |cons a r=>cases g
     have pos:∀ {ys:List V} {n:Nat},ys.length=n->ys.isEmpty=false->n≠0:=fun {ys n} h g=>by
      cases ys with
      |nil=>cases g
      |cons a r=>rw[A0V] at h;omega
     have skp:¬ (Pt rows (ns.getD i "") y≠0/\Pt rows y (ns.getD i "")≠0)->∀ {H7},Same H4 H7->ExtBut q H3 H7/\Fz H3 H7/\Same H H7/\H7 q=some (.lst zs')/\IsL K H7 (quK ns (Pt rows) i++quR ns (Pt rows) i (m+1)) zs':=λc {H7} e7=>by refine⟨b4.same e7,fz4.trans e7.fz,e4.trans e7,e7 _ _ h4,?_⟩;rw[Tk hy,A13 c,A1R];exact IsL.mono e7 _ _ hL4
     refine Sz (λhb=>?_) (λhb=>?_)
     . symm
       refine Bb nofun λn7 H7 hn7 e7 h7=>?_
       symm
       refine ab2 (SqL.of ((e6.trans e7) _ _ hlb)) (SqL.of h7) ?_
       symm
       have e47:=e46.trans e7;refine Sz (λhb2=>?_) (λhb2=>?_)
       . symm
         refine aa8 ((hN.same e4).same e47) (by rw[Int.zero_add];exact Bz hzx) ?_
         symm
         refine Ap (A7 (by simp)) λt8 H8 ht8 e8 h8=>?_
         symm
         refine i_lenL (((e6.trans e7).trans e8) _ _ hla) ?_
         symm
         refine i_lenL (((e6.trans e7).trans e8) _ _ hlb) ?_
         symm
         refine Ap (A7 (by simp)) λt9 H9 ht9 e9 h9=>?_
         symm
         refine Ap (A7 (by simp)) λt10 H10 ht10 e10 h10'=>?_
         symm
         have e410:=((e47.trans e8).trans e9).trans e10;have h410:=e410 _ _ h4;refine Kq h410 ∅ λH11 e11 h11=>?_;have fz11:=e11.fzL h410
         symm
         refine⟨_,_,_,_,rfl,(b4.same e410).trans e11,(fz4.trans e410.fz).trans fz11,(e4.trans e410).off hq1 e11,h11,?_⟩;rw[Tk hy,A12 ⟨pos hya hb,pos hyb hb2⟩,<- A2N];refine IsL.append (IsL.fz (e410.fz.trans fz11) _ _ (Oz (Y6 ..) (Yy ..)) hL4) (.one ?_);rw[hya,hyb] at h9;refine Is.fz fz11 _ _ (Zg ..) (Is.of_tup (SqT.of h10') (.cons (Is.mono (e9.trans e10) _ _ (Mb (SqT.of h8))) (.one (Is.of_tup (e10.seqT (SqT.of h9)) (.cons aa0 (.one aa0))))))
       symm
       exact⟨_,_,_,_,rfl,skp (λc=>c.2 (zero hyb hb2)) e47⟩
     symm
     exact⟨_,_,_,_,rfl,skp (λc=>c.1 (zero hya hb)) e46⟩
   obtain⟨y4,y5,y6,zs',rfl,b4,fz4,e4,h4,hL4⟩:=hP;refine⟨_,_,_,_,zs',rfl,e4,h4,?_⟩;rw[Pk]
   have:quR ns (Pt rows) i (ns.drop (i+1)).length=quR ns (Pt rows) i ns.length:=by unfold quR;rw[A1A,A1W (by rw[A14];omega)]
   rw[<- this];exact hL4
 obtain⟨x3,x4,x5,x6,zs,rfl,e2,h2,hL2⟩:=hP
 symm
 refine k q zs H2 hq1 e2 h2 ?_;simpa using hL2
def Rows (ns:List Str)(ps:List (Str×Str))(rows:List (List Str)):Prop:=rows.Perm (ext (Ay ps) ns.length ns)
theorem a59 {rows rows':List (List Str)} (h:rows.Perm rows') (x y:Str):Pt rows x y=Pt rows' x y:=(h.filter _).length_eq
theorem Uf {b:Str->Str->Bool}:∀ {r r':List Str},r.Perm r'->r.Pairwise (λu v=>b v u=false)->r'.Pairwise (λu v=>b v u=false)->(∀ u∈r,∀ v∈r,u≠v->b u v=true\/b v u=true)->r.Nodup->r=r'
 | [],r',h,_,_,_,_=>(List.nil_perm.mp h).symm
 |a :: t,[],h,_,_,_,_=>by cases h.length_eq
 |a :: t,c :: t',h,h1,h2,tot,nd=>by
   have hac:a=c:=by
    by_cases e:a=c
    . exact e
    exfalso;have ha:a∈c :: t':=h.mem_iff.mp (A0C ..);have hc:c∈a :: t:=h.mem_iff.mpr (A0C ..);have ha':a∈t':=(A0H.mp ha).resolve_left e;have hc':c∈t:=(A0H.mp hc).resolve_left λz=>e z.symm;have q1:=(A2L.mp h1).1 c hc';have q2:=(A2L.mp h2).1 a ha';rcases tot a (A0C ..) c hc e with q|q
    . rw[q2] at q;cases q
    rw[q1] at q;cases q
   subst hac;rw[Uf (List.Perm.cons_inv h) (A2L.mp h1).2 (A2L.mp h2).2 (λu hu v hv=>tot u (A08 _ hu) v (A08 _ hv)) (A19.mp nd).2]
theorem Xi {ns:List Str}{ps:List (Str×Str)}(h:HalfW ns ps)(hc:2<=cnt (Ay ps) ns):∃ x∈ns,∃ y∈ns,x≠y/\unB ps x y=true:=by
 false_or_by_contra
 rename_i hno
 have tot:∀ x∈ns,∀ y∈ns,x≠y->Ay ps x y=true\/Ay ps y x=true:=λx hx y hy hxy=>by
  cases e1:Ay ps x y with
  |true=>exact .inl rfl
  |false=>
    cases e2:Ay ps y x with
    |true=>exact .inr rfl
    |false=>exact absurd ⟨x,hx,y,hy,hxy,by unfold unB;rw[e1,e2];rfl⟩ hno
 unfold L2.cnt at hc;have nd:=Ew (Ay ps) ns.length ns h.nd;have me:=λr=>Dc (Ay ps) ns.length ns r h.nd rfl
 match hE:ext (Ay ps) ns.length ns,hc,nd,me with
 |r :: r' :: rest,_,nd,me=>obtain⟨p1,k1⟩:=(me r).mp (A0C ..);obtain⟨p2,k2⟩:=(me r').mp (A08 _ (A0C ..));have:r=r':=Uf (p1.trans p2.symm) k1.2 k2.2 (λu hu v hv=>tot u (p1.mem_iff.mp hu) v (p1.mem_iff.mp hv)) (p1.nodup_iff.mpr h.nd);exact(A19.mp nd).1 (this ▸ A0C ..)
theorem a05 {ps:List (Str×Str)}{x y:Str}(hxy:x≠y)(hu:unB ps x y=true):∀ {ns:List Str},x∈ns->y∈ns->0<(unP ns ps).length
 | [],h,_=>by cases h
 |a :: t,hx,hy=>by
   rw[Gq];rcases A0H.mp hx with rfl|hx'
   . have:y∈t.filter λz=>unB ps x z:=A0X.mpr ⟨(A0H.mp hy).resolve_left (Ne.symm hxy),hu⟩;have:=A36 this;omega
   rcases A0H.mp hy with rfl|hy'
   . have:x∈t.filter λz=>unB ps y z:=A0X.mpr ⟨hx',Go hu⟩;have:=A36 this;omega
   have:=a05 hxy hu hx' hy';omega
theorem Qp {ns:List Str}{ps:List (Str×Str)}{rows:List (List Str)}(h:HalfW ns ps)(hR:Rows ns ps rows){x y:Str}(hx:x∈ns)(hy:y∈ns):Rows ns (ps++[(x,y)]) (rows.filter λr=>decide (r.idxOf x<r.idxOf y)):=by
 refine(hR.filter _).trans ?_;refine(List.perm_ext_iff_of_nodup ((Ew (Ay ps) ns.length ns h.nd).filter _) (Ew (Ay (ps++[(x,y)])) ns.length ns h.nd)).mpr λr=>?_;have hm:=(h.more hx hy).mem;rw[A0X,Dc _ _ _ _ h.nd rfl,Dc _ _ _ _ h.nd rfl,A1Y];constructor
 . rintro⟨⟨hp,hk⟩,hi⟩;refine⟨hp,(K0 h.nd hm hp).mpr λp hpm=>?_⟩;rcases A0E.mp hpm with q|q
   . exact(K0 h.nd h.mem hp).mp hk p q
   rw[A0G.mp q];exact hi
 rintro⟨hp,hk⟩;have:=(K0 h.nd hm hp).mp hk;exact⟨⟨hp,(K0 h.nd h.mem hp).mpr λp hpm=>this p (A0T _ hpm)⟩,this (x,y) (A0F _ (A0G.mpr rfl))⟩
def Ea (K:W.Frag)(n:Nat):Sp:=λvs H Q _=>∃ f l v ol ns ps rows ys,vs=[.ref f,v,.ref ol]/\Feed H f l/\Is K H (nmD ns) v/\H ol=some (.lst ys)/\IsL K H (rows.map nmD) ys/\HalfW ns ps/\ns.length<=10/\Rows ns ps rows/\ps.length+rows.length<=900/\0<rows.length/\rows.length<=n/\n<=125/\∀ u D m H',ExtBut f H H'->Feed H' f l->PlanP ns ps D m->m<rows.length->Is K H' D u->Q u H'
def Hh (K:W.Frag):Sp:=Ea K 125
theorem Jj {K:W.Frag}:∀ vs H Q E,¬ Ea K 0 vs H Q E:=by rintro vs H Q E ⟨f,l,v,ol,ns,ps,rows,ys,_,_,_,_,_,_,_,_,_,h1,h2,_⟩;omega
theorem Oj {f:Addr}{fd:FuncData}(F:Fun K "_law_plan" "_law_plan" Dd f fd)(T:Gg mg)(A4:Fnd P w K mg base 1 "_law_draw" ["_law_feed_here","_law_many"] (Aq K))(Bv:Fnd P w K mg base 1 "_law_parts" ["_law_orders_here","_law_one","_law_other"] (Dw K))(C2:Fnd P w K mg base 2 "_law_questions" ["_law_names_here","_law_orders_here"] (Ch K))(n:Nat)(El:Fnd P w K mg base (3+n) "_law_plan" ["_law_feed_here","_law_names_here","_law_orders_here"] (Ea K n)):FnOk P w K mg base CX0 (3+n+1) f fd ["_law_feed_here","_law_names_here","_law_orders_here"] (Ea K (n+1)):=by
 refine F.ok Dj (λvs H Q E h=>?_) (λcdv A outer s H vs Q E hr h=>?_)
 . obtain⟨f,l,v,ol,ns,ps,rows,ys,rfl,_⟩:=h;rfl
 obtain⟨f,l,v,ol,ns,ps,rows,ys,rfl,hF,hN,hO,hL,hW,h10,hR,hpl,hpos,hrn,hn,k⟩:=h;have hu:=Cs hr;have hq:=Cu hr;have hyl:=IsL.length hL;rw[A01] at hyl
 with_reducible refine⟨_,(A2 (Cd (Af (Bx (K:=K) hq) (Ac (Au (K:=K)) ⋯ T.b_len PyProof.Rows.Boot.«len» (A0 (pv 2) A1)) A3 (Av _)) (A8 (As (Ao (A0 Al (A0 (Ae (A6 (K:=K) hu) (pv 2) A3 (by ac_rfl)) A1))))) Aw)
  (A2 (Aa (i:=3) Dj.nd ⋯ (by eq_refl) (An C2 (hr.mono ∅) ⋯ (A0 (pv 1) (A0 (pv 2) A1))))
  (A2 (Aa (i:=4) Dj.nd ⋯ (by eq_refl) (Oq (K:=K) (Ae (A6 (K:=K) hu) (Ae (A6 (K:=K) hu) (pv 3) (An A4 (hr.mono ∅) ⋯ (A0 (pv 0) (A0 (Ac (Au (K:=K)) ⋯ T.b_len PyProof.Rows.Boot.«len» (A0 (pv 3) A1)) A1))) (by ac_rfl)) A3 (by ac_rfl)) (Ae (A6 (K:=K) hu) (Bc (A0 A3 (A0 (ad8 Wy A3) A1))) (An A4 (hr.mono ∅) ⋯ (A0 (pv 0) (A0 A3 A1))) (by ac_rfl))))
  (A2 (Vf (An Bv (hr.mono ∅) ⋯ (A0 (pv 2) (A0 (Ae (A6 (K:=K) hu) (pv 4) A3 (by ac_rfl)) (A0 (Ae (A6 (K:=K) hu) (pv 4) A3 (by ac_rfl)) A1)))) (Kg (K:=K) (n:=2) ⋯ (Bi (Ad (i:=5) Dj.nd ⋯ (by eq_refl)) (Bi (Ad (i:=6) Dj.nd ⋯ (by eq_refl)) Ke))))
  (A2 (Aa (i:=7) Dj.nd ⋯ (by eq_refl) (An El (hr.mono ∅) ⋯ (A0 (pv 0) (A0 (pv 1) (A0 (pv 5) A1)))))
  (A8 (As (Ao (A0 Al (A0 (Ae (A6 (K:=K) hu) (pv 4) A3 (by ac_rfl)) (A0 (Ae (A6 (K:=K) hu) (pv 4) A3 (by ac_rfl)) (A0 (pv 7) (A0 (An El (hr.mono ∅) ⋯ (A0 (pv 0) (A0 (pv 1) (A0 (pv 6) A1)))) A1))))))))))))),?_⟩
 symm
 refine Ly (λhc=>?_) (λhc=>?_)
 . have h1:rows.length=1:=by have:=V.int.inj hc;omega
   obtain⟨row,rfl⟩:=List.length_eq_one_iff.mp h1;have he:ext (Ay ps) ns.length ns=[row]:=List.perm_singleton.mp hR.symm;obtain⟨y0,r0,rfl,hI0,hr0⟩:=Ah hL;have:r0=[]:=by simpa only[List.map_nil,L2.IsL] using hr0
   subst this
   symm
   refine Eh hO (by rfl) ?_
   symm
   refine Ap (A7 (by simp)) λt H1 ht e1 h1=>?_
   symm
   exact k (.ref t) _ 0 H1 e1.but (hF.same e1) (.fin he) (by simp) (Is.of_tup (SqT.of h1) (.cons B7 (.one (hI0.nm_fz e1.fz))))
 have h2:2<=rows.length:=by
  rcases Nat.lt_or_ge 1 rows.length with q|q
  . exact q
  exact absurd (by rw[show ys.length=1 by omega];rfl) hc
 have hin:∀ r∈rows,∀ x∈ns,x∈r:=λr hr x hx=>((Dc (Ay ps) ns.length ns r hW.nd rfl).mp (hR.mem_iff.mp hr)).1.mem_iff.mpr hx;have hcn:cnt (Ay ps) ns=rows.length:=hR.length_eq.symm
 have hQ:quK ns (Pt rows) ns.length=quP ns ps:=by rw[<- Zd hW];refine congrArg (λA=>quK ns A ns.length) (funext λx=>funext λy=>?_);exact a59 hR x y
 symm
 refine⟨v,ol,ns,rows,ys,rfl,.of hN,SqL.of hO,hL,hin,h10,by omega,λq zs H1 hq1 e1 h1 hLq=>?_⟩;rw[hQ] at hLq;have hzl:=IsL.length hLq;unfold quP at hzl;rw[A01] at hzl
 have hupos:0<(unP ns ps).length:=by obtain⟨x,hx,y,hy,hxy,hun⟩:=Xi hW ∅;exact a05 hxy hun hx hy
 have hul:(unP ns ps).length<=1000:=by have h1:=Sl ns (Pt rows) ns.length;rw[hQ] at h1;unfold quP at h1;rw[A01] at h1;exact A0L h1 (A0L (A2B h10 h10) nofun)
 have hF1:Feed H1 f l:=hF.same e1
 symm
 refine⟨f,l,_,rfl,hF1,by omega,by omega,λu H2 hu0 hu1 e2 hF2=>?_⟩;have fz2:Fz H1 H2:=by walk_at "fz"
 have hqf:q≠f:=Ne.symm (hF.nd hq1);have h2q:=e2 _ _ hqf h1;have hLq2:=IsL.fz fz2 _ _ (Fy _ (λ_=>Zg ..) _) hLq;have hui:u.toNat<zs.length:=by omega
 obtain⟨dd,hd,hIu⟩:=IsL.get hLq2 (A07 hui);rw[A09] at hd;obtain⟨pr,hpr,rfl⟩:=A1M.mp hd;obtain⟨hp1,hp2,hpu⟩:=Hd (A0B hpr);have hpne:=Tc hW.nd (A0B hpr)
 symm
 refine Eh h2q (by have:=Bz (A07 hui);rwa[show((u.toNat:Nat):Int)=u by omega] at this) ?_;obtain⟨ua,ux,hua,hus,hul2⟩:=Is.tup hIu;obtain⟨pv,u1,rfl,hIp,_⟩:=Ah hul2;rw[hua]
 symm
 refine Bg hus (show atI (pv :: u1) ((0:Nat):Int)=some pv from Bz rfl) ?_;obtain⟨pa,px,rfl,hps,hpl2⟩:=Is.tup hIp;have hpx:=IsL.str_eq (ns:=[pr.1,pr.2]) hpl2;subst hpx
 symm
 refine Bb (A7 (by simp)) λl3 H3 hl3 e3 h3=>?_;have hF3:Feed H3 f l:=hF2.same e3
 symm
 refine⟨f,l,_,rfl,hF3,by omega,by omega,λw H4 hw0 hw1 e4 hF4=>?_⟩;have fz4:Fz H3 H4:=by walk_at "fz"
 have h4l:=e4 _ _ (Ne.symm (hF2.nd hl3)) h3
 symm
 obtain⟨kk,hkk,hat⟩:∃ kk:Int,(kk=1\/kk = -1)/\atI [V.int 1,V.int (-1)] w=some (V.int kk):=by
  rcases(show w=0\/w=1 by omega) with rfl|rfl
  . exact⟨1,.inl rfl,rfl⟩
  exact⟨-1,.inr rfl,rfl⟩
 refine Eh h4l hat ?_
 symm
 refine af9 ((e3.fz.trans fz4).seq hps) hkk λpb H5 e5 hpb=>?_
 obtain⟨x,y,hxy',hx,hy,hun,hpb'⟩:∃ x y:Str,x≠y/\x∈ns/\y∈ns/\unB ps x y=true/\SqT K H5 pb [.str x,.str y]:=by
  rcases hkk with rfl|rfl
  . exact⟨pr.1,pr.2,hpne,hp1,hp2,hpu,hpb⟩
  exact⟨pr.2,pr.1,Ne.symm hpne,hp2,hp1,Go hpu,hpb⟩
 have b5:ExtBut f H H5:=((ExtBut.same (ExtBut.after e1 e2) e3).trans e4).same e5;have hF5:=hF4.same e5;have fz5:Fz H H5:=(((e1.fz.trans fz2).trans e3.fz).trans fz4).trans e5.fz;have h5o:=b5 _ _ (hF.lst hO) hO;have hL5:=IsL.fz fz5 _ _ (Od rows) hL;have hN5:=hN.nm_fz fz5;have hR1:=Qp hW hR hx hy;have hR2:=Qp hW hR hy hx;have hc1:=hR1.length_eq;have hc2:=hR2.length_eq;have hct:=Wv hW hx hy hxy';obtain⟨hu1',hu2'⟩:=(X0 hW hx hy hxy').mpr hun;unfold L2.cnt at hct hu1' hu2' hcn
 symm
 refine Bg hpb' (by rfl) ?_
 symm
 refine Bg hpb' (by rfl) ?_
 symm
 refine⟨ol,x,y,rows,ys,rfl,SqL.of h5o,hL5,λr hr=>⟨hin r hr _ hx,hin r hr _ hy⟩,by omega,λt la lb ya yb H6 e6 ht hla hya hlb hyb hLa hLb hna hnb=>?_⟩;have hF6:=hF5.same e6;have hpb6:=e6.seqT hpb';refine Xm ht ?_
 symm
 refine⟨f,l,v,la,ns,ps++[(x,y)],_,ya,rfl,hF6,hN5.nm_fz e6.fz,hla,hLa,hW.saidP ∅ hx hy hxy' hun,h10,hR1,by rw[A04,A0J];omega,by omega,by omega,by omega,λu1 D1 m1 H7 e7 hF7 p1 hm1 hI1=>?_⟩;have fz7:Fz H6 H7:=by walk_at "fz"
 have hpb7:=fz7.seq hpb6
 symm
 refine Bg hpb7 (by rfl) ?_
 symm
 refine Bg hpb7 (by rfl) ?_
 symm
 refine⟨f,l,v,lb,ns,ps++[(y,x)],_,yb,rfl,hF7,(hN5.nm_fz e6.fz).nm_fz fz7,e7 _ _ (hF6.lst hlb) hlb,IsL.fz fz7 _ _ (Od _) hLb,hW.saidP ∅ hy hx (Ne.symm hxy') (Go hun),h10,hR2,by rw[A04,A0J];omega,by omega,by omega,by omega,λu2 D2 m2 H8 e8 hF8 p2 hm2 hI2=>?_⟩;have fz8:Fz H7 H8:=by walk_at "fz"
 symm
 refine Ap (A7 (by simp)) λt9 H9 ht9 e9 h9=>?_
 symm
 refine k (.ref t9) _ _ H9 ((((ExtBut.same b5 e6).trans e7).trans e8).same e9) (hF8.same e9) (.ask hx hy hxy' hun p1 p2) ∅ (Is.of_tup (SqT.of h9) (.cons B7 (.cons B7 (.cons B7 (.cons (Is.fz (fz8.trans e9.fz) _ _ (Uh p1) hI1) (.one (Is.fz e9.fz _ _ (Uh p2) hI2)))))))
theorem Ra {f:Addr}{fd:FuncData}(F:Fun K "_law_plan" "_law_plan" Dd f fd)(T:Gg mg)(A4:Fnd P w K mg base 1 "_law_draw" ["_law_feed_here","_law_many"] (Aq K))(Bv:Fnd P w K mg base 1 "_law_parts" ["_law_orders_here","_law_one","_law_other"] (Dw K))(C2:Fnd P w K mg base 2 "_law_questions" ["_law_names_here","_law_orders_here"] (Ch K))(hm:mg "_law_plan" = some (.ref f))(hk:W.keepIn K (.ref f)=true)(hb:Binds K fd ["_law_feed_here","_law_names_here","_law_orders_here"] []):FnOk P w K mg base CX0 128 f fd ["_law_feed_here","_law_names_here","_law_orders_here"] (Hh K):=by
 have h:∀ n:Nat,FnOk P w K mg base CX0 (3+n) f fd ["_law_feed_here","_law_names_here","_law_orders_here"] (Ea K n):=λn=>by
  induction n with
  |zero=>exact FnOk.void Jj
  |succ n ih=>exact Oj F T A4 Bv C2 n ⟨f,fd,ih,hm,hk,hb⟩
 exact h 125
inductive Res
 |deep (m:Nat)
 |no (w:Str) (js:List Int)
def Kh (x y:Str)(D E:PyData):PyData:=.tuple [.str "ask",.str x,.str y,D,E]
def Nl (ds:List PyData):PyData:=.tuple [.str "end",.tuple ds]
def jsD (js:List Int):PyData:=.tuple (js.map PyData.int)
inductive Wd (ns:List Str)(ps:List (Str×Str))(D:PyData):Option Str->Prop
 |shape:(∀ x y A B,D≠Kh x y A B)->(∀ ds,D≠Nl ds)->Wd ns ps D (some "shape")
 |fin {row:List Str}:D=Nl (row.map PyData.str)->ext (Ay ps) ns.length ns=[row]->Wd ns ps D none
 |noend {ds:List PyData}:D=Nl ds->(∀ row,ext (Ay ps) ns.length ns=[row]->ds≠row.map PyData.str)->Wd ns ps D (some "end")
 |told {x y:Str} {A B:PyData}:D=Kh x y A B->¬ UnT ns ps x y->Wd ns ps D (some "told")
 |ask {x y:Str} {A B:PyData}:D=Kh x y A B->UnT ns ps x y->Wd ns ps D none
inductive Jd (ns:List Str):List (Str×Str)->PyData->List Int->Res->Prop
 |no {ps:List (Str×Str)} {D:PyData} {js:List Int} {w:Str}:Wd ns ps D (some w)->Jd ns ps D js (.no w js)
 |fin {ps:List (Str×Str)} {D:PyData} {js:List Int} {row:List Str}:D=Nl (row.map PyData.str)->ext (Ay ps) ns.length ns=[row]->Jd ns ps D js (.deep 0)
 |first {ps:List (Str×Str)} {D A B:PyData} {js q:List Int} {w x y:Str}:D=Kh x y A B->UnT ns ps x y->Jd ns (ps++[(x,y)]) A (js++[0]) (.no w q)->Jd ns ps D js (.no w q)
 |second {ps:List (Str×Str)} {D A B:PyData} {js q:List Int} {w x y:Str} {m:Nat}:D=Kh x y A B->UnT ns ps x y->Jd ns (ps++[(x,y)]) A (js++[0]) (.deep m)->Jd ns (ps++[(y,x)]) B (js++[1]) (.no w q)->Jd ns ps D js (.no w q)
 |ask {ps:List (Str×Str)} {D A B:PyData} {js:List Int} {x y:Str} {m n:Nat}:D=Kh x y A B->UnT ns ps x y->Jd ns (ps++[(x,y)]) A (js++[0]) (.deep m)->Jd ns (ps++[(y,x)]) B (js++[1]) (.deep n)->Jd ns ps D js (.deep (1+max m n))
theorem G4 {x y x' y':Str}{A B A' B':PyData}(h:Kh x y A B=Kh x' y' A' B'):x=x'/\y=y'/\A=A'/\B=B':=by unfold Kh at h;simpa using h
theorem Hl {x y:Str}{A B:PyData}{ds:List PyData}(h:Kh x y A B=Nl ds):False:=by unfold Kh Nl at h;simp at h
theorem Yq {ds es:List PyData}(h:Nl ds=Nl es):ds=es:=by unfold Nl at h;simpa using h
theorem Jd.det {ns:List Str}{ps:List (Str×Str)}{D:PyData}{js:List Int}{R:Res}(h:Jd ns ps D js R):∀ R',Jd ns ps D js R'->R=R':=by
 have wd:∀ {ps:List (Str×Str)} {D:PyData} {a b:Option Str},Wd ns ps D a->Wd ns ps D b->a=b:=fun {ps D a b} ha hb=>by
  cases ha<;>cases hb<;>first
   |rfl
   | (rename_i a1 a2 _ _ _ _ e _;exact absurd e (a1 _ _ _ _))
   | (rename_i a1 a2 _ e _;exact absurd e (a2 _))
   | (rename_i _ _ _ _ e _ a1 a2;exact absurd e (a1 _ _ _ _))
   | (rename_i _ e _ a1 a2;exact absurd e (a2 _))
   | (rename_i _ e1 h1 _ e2 h2;subst e1;exact absurd (Yq e2).symm (h2 _ h1))
   | (rename_i _ e2 h2 _ e1 h1;subst e1;exact absurd (Yq e2).symm (h2 _ h1))
   | (rename_i _ _ _ _ e1 h1 _ _ _ _ e2 h2;subst e1;obtain⟨rfl,rfl,_,_⟩:=G4 e2;exact absurd ‹UnT _ _ _ _› ‹¬ UnT _ _ _ _›)
   | (rename_i _ e1 h1 _ _ _ _ e2 h2;subst e2;exact(Hl e1).elim)
   | (rename_i _ _ _ _ e2 h2 _ e1 h1;subst e2;exact(Hl e1).elim)
 induction h with
 |no a=>
   intro R' h'
   cases h' with
   |no b=>cases wd a b;rfl
   |fin e1 e2=>cases wd a (.fin e1 e2)
   |first e1 e2 _=>cases wd a (.ask e1 e2)
   |second e1 e2 _ _=>cases wd a (.ask e1 e2)
   |ask e1 e2 _ _=>cases wd a (.ask e1 e2)
 |fin a1 a2=>
   intro R' h'
   cases h' with
   |no b=>cases wd b (.fin a1 a2)
   |fin e1 e2=>rfl
   |first e1 e2 _=>subst e1;exact(Hl a1).elim
   |second e1 e2 _ _=>subst e1;exact(Hl a1).elim
   |ask e1 e2 _ _=>subst e1;exact(Hl a1).elim
 |first a1 a2 _ ih=>
   intro R' h';subst a1
   cases h' with
   |no b=>cases wd b (.ask rfl a2)
   |fin e1 e2=>exact(Hl e1).elim
   |first e1 e2 h=>obtain⟨rfl,rfl,rfl,rfl⟩:=G4 e1;exact ih _ h
   |second e1 e2 h _=>obtain⟨rfl,rfl,rfl,rfl⟩:=G4 e1;cases ih _ h
   |ask e1 e2 h _=>obtain⟨rfl,rfl,rfl,rfl⟩:=G4 e1;cases ih _ h
 |second a1 a2 _ _ ih ih2=>
   intro R' h';subst a1
   cases h' with
   |no b=>cases wd b (.ask rfl a2)
   |fin e1 e2=>exact(Hl e1).elim
   |first e1 e2 h=>obtain⟨rfl,rfl,rfl,rfl⟩:=G4 e1;cases ih _ h
   |second e1 e2 h g=>obtain⟨rfl,rfl,rfl,rfl⟩:=G4 e1;exact ih2 _ g
   |ask e1 e2 h g=>obtain⟨rfl,rfl,rfl,rfl⟩:=G4 e1;cases ih2 _ g
 |ask a1 a2 _ _ ih ih2=>
   intro R' h';subst a1
   cases h' with
   |no b=>cases wd b (.ask rfl a2)
   |fin e1 e2=>exact(Hl e1).elim
   |first e1 e2 h=>obtain⟨rfl,rfl,rfl,rfl⟩:=G4 e1;cases ih _ h
   |second e1 e2 h g=>obtain⟨rfl,rfl,rfl,rfl⟩:=G4 e1;cases ih2 _ g
   |ask e1 e2 h g=>obtain⟨rfl,rfl,rfl,rfl⟩:=G4 e1;cases ih _ h;cases ih2 _ g;rfl
theorem Yt {K:W.Frag}{H:Hp}{ds:List PyData}{v:V}(h:Is K H (Nl ds) v):∃ a rv,v = .ref a/\SqT K H a [.str "end",rv]/\Is K H (.tuple ds) rv:=by
 obtain⟨a,xs,rfl,h1,h2⟩:=Is.tup h;obtain⟨v1,r1,rfl,i1,h2⟩:=Ah h2;obtain⟨v2,r2,rfl,i2,h2⟩:=Ah h2;have e:r2=[]:=by simpa only[L2.IsL] using h2
 subst e;have:=Is.str i1;subst this;exact⟨a,v2,rfl,h1,i2⟩
theorem Uq {K:W.Frag}{H:Hp}{x y:Str}{D E:PyData}{v:V}(h:Is K H (Kh x y D E) v):∃ a d e,v = .ref a/\SqT K H a [.str "ask",.str x,.str y,d,e]/\Is K H D d/\Is K H E e:=by
 obtain⟨a,xs,rfl,h1,h2⟩:=Is.tup h;obtain⟨v1,r1,rfl,i1,h2⟩:=Ah h2;obtain⟨v2,r2,rfl,i2,h2⟩:=Ah h2;obtain⟨v3,r3,rfl,i3,h2⟩:=Ah h2;obtain⟨v4,r4,rfl,i4,h2⟩:=Ah h2;obtain⟨v5,r5,rfl,i5,h2⟩:=Ah h2;have e:r5=[]:=by simpa only[L2.IsL] using h2
 subst e;have e1:=Is.str i1;have e2:=Is.str i2;have e3:=Is.str i3;subst e1;subst e2;subst e3;exact⟨a,v4,v5,rfl,h1,i4,i5⟩
theorem tup5 {D:PyData}(h:aq0 5 D=true):∃ a b c d e,D = .tuple [a,b,c,d,e]:=by
 cases D with
 |tuple ds=>
   have:=A21 h
   match ds,this with
   | [a,b,c,d,e],_=>exact⟨a,b,c,d,e,rfl⟩
 |_=>cases h
theorem tup2 {D:PyData}(h:aq0 2 D=true):∃ a b,D = .tuple [a,b]:=by
 cases D with
 |tuple ds=>
   have:=A21 h
   match ds,this with
   | [a,b],_=>exact⟨a,b,rfl⟩
 |_=>cases h
theorem Pp {ns:List Str}{ps:List (Str×Str)}(h:HalfW ns ps):unP ns ps=[]↔∃ row,ext (Ay ps) ns.length ns=[row]:=by
 constructor
 . intro e
   have h1:¬ 2<=cnt (Ay ps) ns:=λq=>by obtain⟨x,hx,y,hy,hxy,hu⟩:=Xi h q;have:=a05 hxy hu hx hy;rw[e] at this;exact absurd this (by simp)
   have h2:=M6 (λx=>Kb h x) (λx y z a b=>wayB_iff.mpr ((wayB_iff.mp a).trans (wayB_iff.mp b))) _ ns rfl h.nd;have h3:(ext (Ay ps) ns.length ns).length=1:=by unfold L2.cnt at h1 h2;omega
   match ext (Ay ps) ns.length ns,h3 with
   | [row],_=>exact⟨row,rfl⟩
 rintro⟨row,e⟩
 cases q:unP ns ps with
 |nil=>rfl
 |cons p t=>
   have hp:p∈unP ns ps:=by rw[q];exact A0C
   obtain⟨g1,g2,g3⟩:=Hd hp;have:=a43 h e g1 g2 (Tc h.nd hp);unfold unB at g3;rcases this with z|z<;>rw[z] at g3<;>simp at g3
theorem ah3 {t:TT}{ta tb:TE}{σ:L2.St}{H:Hp}{Q:VK}(k:t σ H λc H1=>if c=true then ta σ H1 Q else tb σ H1 Q):tIf t ta tb σ H Q:=k
theorem Zm {r b:Addr}{H:Hp}{kvs:List (Key×V)}{o:HO}(hr:Rd H r (.dK kvs))(h:H b=some o)(h1:∀ kvs,o ≠ .dK kvs)(h2:∀ o' u,o ≠ .frz o' u):b≠r:=λz=>by
 subst z;rcases hr with q|⟨o',q⟩
 . rw[h] at q;exact h1 _ (A0Z q)
 rw[h] at q;exact h2 _ _ (A0Z q)
theorem Oc {P r:Addr}{H H':Hp}{kvs:List (Key×V)}(h:LmR P H)(k:Keep [r] H H')(hr:Rd H r (.dK kvs)):LmR P H':=by
 rcases h with h|⟨c,h,hc⟩
 . exact .inl (k.1 _ _ (λz=>Zm hr h (λ_ z=>by cases z) (λ_ _ z=>by cases z) (A0G.mp z)) h)
 exact .inr ⟨c,k.1 _ _ (λz=>Zm hr h (λ_ z=>by cases z) (λ_ _ z=>by cases z) (List.mem_singleton.mp z)) h,k.1 _ _ (λz=>Zm hr hc (λ_ z=>by unfold Kk at z;cases z) (λ_ _ z=>by unfold Kk at z;cases z) (List.mem_singleton.mp z)) hc⟩
structure Kp (P r:Addr)(H H':Hp):Prop where
 all:∀ b o,b≠P->b≠r->H b=some o->H' b=some o
 rd:∀ kvs,Rd H r (.dK kvs)->Rd H' r (.dK kvs)
section
variable {P r r':Addr}{H H1 H2:Hp}{kvs:List (Key×V)}{tps:Array Value}
theorem Kp.of_keep (k:Keep [r] H H1):Kp P r H H1:=⟨λb o _ hb h=>k.1 b o (λz=>hb (A0G.mp z)) h,λkvs h=>k.rd h⟩
theorem Kp.trans (a:Kp P r H H1)(b:Kp P r H1 H2):Kp P r H H2:=⟨λc o h1 h2 h=>b.all c o h1 h2 (a.all c o h1 h2 h),λkvs h=>b.rd kvs (a.rd kvs h)⟩
theorem Kp.same (a:Kp P r H H1)(e:Same H1 H2):Kp P r H H2:=⟨λc o h1 h2 h=>e c o (a.all c o h1 h2 h),λkvs h=>e.rd (a.rd kvs h)⟩
theorem Kp.rdA (a:Kp P r H H1)(hP:H P=some (.tbl tps)){b:Addr}(h:Rd H b (.dK kvs)):Rd H1 b (.dK kvs):=by
 by_cases hb:b=r
 . subst hb;exact a.rd _ h
 rcases h with h|⟨o,h⟩
 . exact .inl (a.all _ _ (ne_of h hP (by intro z;cases z)) hb h)
 exact .inr ⟨o,a.all _ _ (ne_of h hP (by intro z;cases z)) hb h⟩
theorem Kp.tab (a:Kp P r H H1)(hP:H P=some (.tbl tps)){q:Addr}{ns:List Str}{as:List Addr}{R:Str->Str->Prop}(t:TabR H q ns as R):TabR H1 q ns as R:=
 ⟨t.len,a.rdA hP t.top,λi z b hz hb=>let ⟨ks,h1,h2⟩:=t.row i z b hz hb;⟨ks,a.rdA hP h1,h2⟩⟩
theorem Kp.fz (a:Kp P r H H1)(hP:H P=some (.tbl tps))(hr:Rd H r (.dK kvs)):Fz H H1:=λb xs h=>by
 rcases h with h|⟨o,h⟩
 . exact .inl (a.all _ _ (ne_of h hP (by intro z;cases z)) (Zm hr h (λ_ z=>by cases z) (λ_ _ z=>by cases z)) h)
 refine .inr ⟨o,a.all _ _ (ne_of h hP (by intro z;cases z)) (λz=>?_) h⟩;subst z;rcases hr with q|⟨o',q⟩
 . rw[h] at q;cases q
 rw[h] at q;cases q
theorem Kp.other (a:Kp P r H H1)(b:Kp P r' H1 H2)(hn:H r'=none)(hP:H P=some (.tbl tps))(hr:Rd H r (.dK kvs)):Kp P r H H2:=by
 refine⟨λc o h1 h2 h=>b.all c o h1 (λz=>by rw[z,hn] at h;cases h) (a.all c o h1 h2 h),λkvs' h=>?_⟩
 have h1:r≠P:=λz=>by
  subst z;rcases hr with q|⟨o',q⟩
  . rw[hP] at q;cases q
  rw[hP] at q;cases q
 have h2:r≠r':=λz=>by
  subst z;rcases hr with q|⟨o',q⟩
  . rw[hn] at q;cases q
  rw[hn] at q;cases q
 rcases a.rd kvs' h with q|⟨o,q⟩
 . exact .inl (b.all _ _ h1 h2 q)
 exact .inr ⟨o,b.all _ _ h1 h2 q⟩
theorem Kp.free (a:Kp P r H H1)(hP:H P=some (.tbl tps))(hr:Rd H r (.dK kvs))(hL:∃ tps,H1 P=some (.tbl tps)){b:Addr}(h:H1 b=none):H b=none:=by
 cases q:H b with
 |none=>rfl
 |some o=>
   have hbP:b≠P:=λz=>by obtain⟨t,e⟩:=hL;rw[z,e] at h;cases h
   have hbr:b≠r:=λz=>by
    subst z;rcases a.rd _ hr with e|⟨o',e⟩
    . rw[h] at e;cases e
    rw[h] at e;cases e
   rw[a.all _ _ hbP hbr q] at h
   cases h
theorem Kp.seqL (a:Kp P r H H1)(hP:H P=some (.tbl tps))(hr:Rd H r (.dK kvs)){K:W.Frag}{b:Addr}{xs:List V}(h:SqL K H b xs):SqL K H1 b xs:=by
 rcases h with (h|⟨o,h⟩)|h
 . exact .inl (.inl (a.all _ _ (ne_of h hP (by intro z;cases z)) (Zm hr h (λ_ z=>by cases z) (λ_ _ z=>by cases z)) h))
 . refine .inl (.inr ⟨o,a.all _ _ (ne_of h hP (by intro z;cases z)) (λz=>?_) h⟩);subst z;rcases hr with q|⟨o',q⟩
   . rw[h] at q;cases q
   rw[h] at q;cases q
 exact .inr h
theorem Kp.data (a:Kp P r H H1)(hP:H P=some (.tbl tps))(hr:Rd H r (.dK kvs)){K:W.Frag}{D:PyData}{v:V}(h:Is K H D v):Is K H1 D v:=
 T9 (λ_ _ q=>a.seqL hP hr q) (λ_ _ q=>(a.fz hP hr).seq q) D v h
end
def wdV:Option Str->V
 |none=>.non
 |some z=>.str z
def Hj (K:PySem.W.Frag):Sp:=λvs H Q _=>∃ v D n w W,vs=[v]/\Is K H D v/\Dk n w W D/\n<=60/\∀ b,(b=true↔∃ x y A B,D=Kh x y A B)->Q (.bl b) H
def Lk (K:PySem.W.Frag):Sp:=λvs H Q _=>∃ v D n w W,vs=[v]/\Is K H D v/\Dk n w W D/\n<=60/\∀ b,(b=true↔∃ ds,D=Nl ds)->Q (.bl b) H
def Gv (P:Addr)(K:PySem.W.Frag):Sp:=λvs H Q _=>∃ r v ns ps as D n w W,vs=[.ref r,v]/\TabR H r ns as (Way ps)/\HalfW ns ps/\(∀ z∈ns,I0 z=true)/\ns.length<=10/\Is K H D v/\Dk n w W D/\n<=60/\LmR P H/\∀ o H',Wd ns ps D o->Kp P r H H'->LmR P H'->Q (wdV o) H'
def az5 (K:W.Frag)(P r:Addr)(H:Hp)(C:Addr)(w:Str)(js:List Int)(E:XK):Prop:=∀ a t H',Kp P r H H'->LmR P H'->SqT K H' t (js.map V.int)->ExB false H' a C [("word",.str w),("path",.ref t)]->E (.ref a) none H'
def Dx (P C:Addr)(K:PySem.W.Frag)(N:Nat):Sp:=λvs H Q E=>∃ r v t js ns ps as D n w W,vs=[.ref r,v,.ref t]/\TabR H r ns as (Way ps)/\HalfW ns ps/\(∀ z∈ns,I0 z=true)/\ns.length<=10/\Is K H D v/\Dk n w W D/\SqT K H t (js.map V.int)/\n<N/\n<=60/\ps.length+n<=900/\js.length+n<=900/\LmR P H/\(∀ m H',Jd ns ps D js (.deep m)->Kp P r H H'->LmR P H'->Q (.int m) H')/\∀ z q,Jd ns ps D js (.no z q)->az5 K P r H C z q E
def Hg (P C:Addr)(K:W.Frag):Sp:=Dx P C K 125
theorem Jw {P C:Addr}{K:PySem.W.Frag}:∀ vs H Q E,¬ Dx P C K 0 vs H Q E:=by rintro vs H Q E ⟨r,v,t,js,ns,ps,as,D,n,w,W,_,_,_,_,_,_,_,_,h,_⟩;omega
theorem Sc {f:Addr}{fd:FuncData}(F:Fun K "is_asking" "is_asking" Eg f fd)(T:Gg mg)(Co:Fnd P w K mg base 1 "is_tuple_of" ["thing","size"] (Et K)):FnOk P w K mg base CX0 2 f fd ["thing"] (Hj K):=by
 refine F.ok Sb (λvs H Q E h=>?_) (λcdv A outer s H vs Q E hr h=>?_)
 . obtain⟨v,D,n,w,W,rfl,_⟩:=h;rfl
 obtain⟨v,D,n,w,W,rfl,hI,hD,hn,k⟩:=h;have hu:=Cs hr;have hq:=Cu hr
 with_reducible refine⟨_,(A2 (Cd (PW.pt (W5 (Ll (Hr (An Co (hr.mono nofun) ⋯ (A0 (pv 0) (A0 A3 A1))))) (Si (Af (Iv (K:=K) hq) (Ae (A6 (K:=K) hu) (pv 0) A3 (by ac_rfl)) Al (Av _))))) (A8 (As Xv)) Aw)
  (A8 (As (Ku (Ac (Bw (K:=K)) ⋯ T.b_isinstance PyProof.Rows.Boot.«isinstance» (A0 (Ae (A6 (K:=K) hu) (pv 0) A3 (by ac_rfl)) (A0 (Gw (v:=.ty "str") ⋯ T.b_str PyProof.Rows.Boot.«str» ⋯) A1))) (Nh (Ac (Bw (K:=K)) ⋯ T.b_isinstance PyProof.Rows.Boot.«isinstance» (A0 (Ae (A6 (K:=K) hu) (pv 0) A3 (by ac_rfl)) (A0 (Gw (v:=.ty "str") ⋯ T.b_str PyProof.Rows.Boot.«str» ⋯) A1)))))))),?_⟩
 symm
 refine⟨v,_,_,rfl,hI,?_⟩
 cases h5:aq0 5 D with
 |false=>
   symm
   exact k false ⟨λz=>(by cases z),λ⟨x,y,A,B,e⟩=>by rw[e] at h5;cases h5⟩
 |true=>
   obtain⟨d0,d1,d2,d3,d4,rfl⟩:=tup5 h5;obtain⟨a,xs,rfl,hS,h2⟩:=Is.tup hI;obtain⟨v1,r1,rfl,i1,h2⟩:=Ah h2;obtain⟨v2,r2,rfl,i2,h2⟩:=Ah h2;obtain⟨v3,r3,rfl,i3,h2⟩:=Ah h2;obtain⟨v4,r4,rfl,i4,h2⟩:=Ah h2;obtain⟨v5,r5,rfl,i5,h2⟩:=Ah h2;have e:r5=[]:=by simpa only[L2.IsL] using h2
   subst e;have hn0:1<=n:=by have:=hD.dp;simp only[PyData.depth] at this;omega
   obtain⟨n',rfl⟩:∃ n',n=n'+1:=⟨n-1,by omega⟩;obtain⟨u0,k0⟩:=hD.els.all d0 (by simp)
   symm
   refine Bg hS (by rfl) ?_
   symm
   refine Wf i1 (dy:=.str "ask") (by simp only[Is]) (k0.shaped ∅) (by decide +kernel) ⟨_,rfl,?_⟩
   cases hE:PyData.eqv d0 (.str "ask") with
   |false=>
     symm
     exact k false ⟨λz=>(by cases z),λ⟨x,y,A,B,e⟩=>by
      unfold Kh at e;have:d0 = .str "ask":=by simp at e;exact e.1
      rw[eqv_str_iff.mpr this] at hE
      cases hE⟩
   |true=>
     have:=eqv_str_iff.mp hE;subst this
     symm
     refine Bg hS (by rfl) ?_
     symm
     refine Tj i2 ⟨_,rfl,?_⟩
     cases d1 with
     |str x=>
       rw[A12 (by rfl)]
       symm
       refine Bg hS (by rfl) ?_
       symm
       refine Tj i3 ?_
       cases d2 with
       |str y=>exact k true ⟨λ_=>⟨x,y,_,_,rfl⟩,λ_=>rfl⟩
       |_=>exact k false ⟨λz=>(by cases z),λ⟨x,y,A,B,e⟩=>by unfold Kh at e;simp at e⟩
     |_=>exact k false ⟨λz=>(by cases z),λ⟨x,y,A,B,e⟩=>by unfold Kh at e;simp at e⟩
theorem Yk {f:Addr}{fd:FuncData}(F:Fun K "is_end" "is_end" Hy f fd)(T:Gg mg)(Co:Fnd P w K mg base 1 "is_tuple_of" ["thing","size"] (Et K)):FnOk P w K mg base CX0 2 f fd ["thing"] (Lk K):=by
 refine F.ok Zs (λvs H Q E h=>?_) (λcdv A outer s H vs Q E hr h=>?_)
 . obtain⟨v,D,n,w,W,rfl,_⟩:=h;rfl
 obtain⟨v,D,n,w,W,rfl,hI,hD,hn,k⟩:=h;have hu:=Cs hr;have hq:=Cu hr
 with_reducible refine⟨_,(A8 (As (Ku (An Co (hr.mono nofun) ⋯ (A0 (pv 0) (A0 A3 A1))) (Ku (Fp (Bx (K:=K) hq) (Ae (A6 (K:=K) hu) (pv 0) A3 (by ac_rfl)) Al (Av _)) (Nh (Ac (Bw (K:=K)) ⋯ T.b_isinstance PyProof.Rows.Boot.«isinstance» (A0 (Ae (A6 (K:=K) hu) (pv 0) A3 (by ac_rfl)) (A0 (Gw (v:=.ty "tuple") ⋯ T.b_tuple PyProof.Rows.Boot.«tuple» ⋯) A1)))))))),?_⟩
 symm
 refine⟨v,_,_,rfl,hI,?_⟩
 cases h5:aq0 2 D with
 |false=>
   symm
   exact k false ⟨λz=>(by cases z),λ⟨ds,e⟩=>by rw[e] at h5;cases h5⟩
 |true=>
   obtain⟨d0,d1,rfl⟩:=tup2 h5;obtain⟨a,xs,rfl,hS,h2⟩:=Is.tup hI;obtain⟨v1,r1,rfl,i1,h2⟩:=Ah h2;obtain⟨v2,r2,rfl,i2,h2⟩:=Ah h2;have e:r2=[]:=by simpa only[L2.IsL] using h2
   subst e;have hn0:1<=n:=by have:=hD.dp;simp only[PyData.depth] at this;omega
   obtain⟨n',rfl⟩:∃ n',n=n'+1:=⟨n-1,by omega⟩;obtain⟨u0,k0⟩:=hD.els.all d0 (by simp)
   symm
   refine Bg hS (by rfl) ?_
   symm
   refine W4 i1 (dy:=.str "end") (by simp only[Is]) (k0.shaped ∅) (by decide +kernel) ⟨_,rfl,?_⟩
   cases hE:PyData.eqv d0 (.str "end") with
   |false=>
     symm
     exact k false ⟨λz=>(by cases z),λ⟨ds,e⟩=>by
      unfold Nl at e;have:d0 = .str "end":=by simp at e;exact e.1
      rw[eqv_str_iff.mpr this] at hE
      cases hE⟩
   |true=>
     have:=eqv_str_iff.mp hE;subst this
     symm
     refine Bg hS (by rfl) ?_
     symm
     refine Tz i2 ?_
     cases d1 with
     |tuple ds=>exact k true ⟨λ_=>⟨ds,rfl⟩,λ_=>rfl⟩
     |_=>exact k false ⟨λz=>(by cases z),λ⟨ds,e⟩=>by unfold Nl at e;simp at e⟩
def Gm (P C:Addr)(K:PySem.W.Frag):Sp:=λvs H Q E=>∃ hv v ns ps D n w W,vs=[hv,v]/\Is K H (hfD ns ps) hv/\HalfW ns ps/\(∀ z∈ns,I0 z=true)/\ns.length<=10/\Is K H D v/\Dk n w W D/\n<=60/\ps.length+n<=900/\LmR P H/\(∀ m H',Jd ns ps D [] (.deep m)->ExtBut P H H'->LmR P H'->Q (.int m) H')/\∀ z q a t H',Jd ns ps D [] (.no z q)->ExtBut P H H'->LmR P H'->SqT K H' t (q.map V.int)->ExB false H' a C [("word",.str z),("path",.ref t)]->E (.ref a) none H'
theorem Sr {f:Addr}{fd:FuncData}(F:Fun K "word_due" "word_due" Fg f fd)(T:Gg mg){P_row:Addr}(Ey:Fnd P w K mg base 2 "are_two_untold" ["reach","one","other"] (Em K))(J3:Fnd P w K mg base 1 "is_row_of" ["reach"] (Hc K))(G8:Fnd P w K mg base 1 "order_of_row" ["reach"] (Fs P_row K))(J7:Fnd P w K mg base 2 "is_asking" ["thing"] (Hj K))(Nw:Fnd P w K mg base 2 "is_end" ["thing"] (Lk K)):FnOk P w K mg base CX0 3 f fd ["reach","plan"] (Gv P_row K):=by
 refine F.ok Ss (λvs H Q E h=>?_) (λcdv A outer s H vs Q E hr h=>?_)
 . obtain⟨r,v,ns,ps,as,D,n,w,W,rfl,_⟩:=h;rfl
 obtain⟨r,v,ns,ps,as,D,n,w,W,rfl,hT,hW,hNm,h10,hI,hD,hn,hL,k⟩:=h;have hu:=Cs hr;have hq:=Cu hr;have kI:Kp P_row r H H:=⟨λb o _ _ h=>h,λkvs h=>h⟩
 with_reducible refine⟨_,(A2 (Cd (Hr (An J7 (hr.mono nofun) ⋯ (A0 (pv 1) A1))) (A8 (As (Og (Hr (An Ey (hr.mono nofun) ⋯ (A0 (pv 0) (A0 (Ae (A6 (K:=K) hu) (pv 1) A3 (by ac_rfl)) (A0 (Ae (A6 (K:=K) hu) (pv 1) A3 (by ac_rfl)) A1))))) Uu Al))) Aw)
  (A2 (Cd (Ll (Hr (An Nw (hr.mono nofun) ⋯ (A0 (pv 1) A1)))) (A8 (As Al)) Aw)
  (A8 (As (Og (PW.pt (Kx (Hr (An J3 (hr.mono nofun) ⋯ (A0 (pv 0) A1))) (Hf (Af (Bx (K:=K) hq) (Ae (A6 (K:=K) hu) (pv 1) A3 (by ac_rfl)) (An G8 (hr.mono nofun) ⋯ (A0 (pv 0) A1)) (Av _))))) Uu Al))))),?_⟩
 symm
 refine⟨v,D,n,w,W,rfl,hI,hD,hn,λb hb=>?_⟩
 cases b with
 |true=>
   obtain⟨x,y,A,B,rfl⟩:=hb.mp rfl;obtain⟨a,d,e,rfl,hS,_,_⟩:=Uq hI
   symm
   refine ah3 ?_
   symm
   refine Bg hS (by rfl) ?_
   symm
   refine Bg hS (by rfl) ?_
   symm
   refine⟨r,x,y,ns,ps,as,rfl,hT,hW.nd,λc hc=>?_⟩
   cases c with
   |true=>
     symm
     exact k none H (.ask rfl (hc.mp rfl)) kI hL
   |false=>
     symm
     exact k (some "told") H (.told rfl λz=>by cases hc.mpr z) kI hL
 |false=>
   have hb':∀ x y A B,D≠Kh x y A B:=λx y A B e=>by cases hb.mpr ⟨x,y,A,B,e⟩
   symm
   refine⟨v,D,n,w,W,rfl,hI,hD,hn,λc hc=>?_⟩
   cases c with
   |false=>
     symm
     exact k (some "shape") H (.shape hb' λds e=>by cases hc.mpr ⟨ds,e⟩) kI hL
   |true=>
     obtain⟨ds,rfl⟩:=hc.mp rfl;obtain⟨a,rv,rfl,hS,hR⟩:=Yt hI
     symm
     refine ah3 ?_
     symm
     refine⟨r,ns,ps,as,rfl,hT,hW,λo H1 k1 ho=>?_⟩;have hL1:LmR P_row H1:=Oc hL k1 hT.top;have kp1:Kp P_row r H H1:=.of_keep k1;obtain⟨tps0,htb0⟩:=De hL
     cases o with
     |false=>
       symm
       exact k (some "end") H1 (.noend rfl λrow e=>by cases ho.mpr ((Pp hW).mpr ⟨row,e⟩)) kp1 hL1
     |true=>
       obtain⟨row,he⟩:=(Pp hW).mp (ho.mp rfl)
       symm
       refine Bg (k1.fz.seq hS) (by rfl) ?_
       symm
       refine⟨r,ns,ps,as,row,rfl,hT.keep k1,hW,h10,he,hL1,λu H2 e2 hL2 hI2=>?_⟩;obtain⟨tps,htb⟩:=De hL1;have kp2:Kp P_row r H H2:=⟨λb o hb hb2 h=>e2 _ _ hb (k1.1 b o (λz=>hb2 (A0G.mp z)) h),λkvs h=>Wm e2 htb (k1.rd h)⟩;have hR2:=kp2.data htb0 hT.top hR;have hrp:=(Zp hW he).1;have hrl:=hrp.length_eq;have hrn:∀ z∈row,I0 z=true:=λz hz=>hNm z (hrp.mem_iff.mp hz);have hn0:1<=n:=by have:=hD.dp;simp only[Nl,PyData.depth] at this;omega
       obtain ⟨n',rfl⟩:∃ n',n=n'+1:=⟨n-1,by omega⟩;obtain⟨u0,k0⟩:=hD.els.all (.tuple ds) (by simp);refine W4 hR2 hI2 (k0.shaped ∅) (a04 hrn ∅).shaped ?_
       cases hE:PyData.eqv (.tuple ds) (nmD row) with
       |true=>
         have:=eqv_row.mp hE;subst this
         symm
         exact k none H2 (.fin rfl he) kp2 hL2
       |false=>
         symm
         refine k (some "end") H2 (.noend rfl λrow' e' z=>?_) kp2 hL2;rw[he] at e'
         cases e';rw[eqv_row.mpr z] at hE
         cases hE
local macro_rules | `(tactic| walk_at "rq1") => L2.mAlts "i_sRaise"
theorem Oh {f:Addr}{fd:FuncData}(F:Fun K "depth_on" "depth_on" Ef f fd)(T:Gg mg){P_row:Addr}{C_HalfError:Addr}{C_NoName:Addr}{C_NoPlan:Addr}(x_HalfError:Cr K mg C_HalfError C_HalfError)(x_NoName:G9 K mg C_NoName C_HalfError)(x_NoPlan:Fe K mg C_NoPlan C_HalfError)(Dh:Fnd P w K mg base 1 "reach_said" ["reach","one","other"] (Fc K))(Gd:Fnd P w K mg base 3 "word_due" ["reach","plan"] (Gv P_row K))(Ds:Mkx P w K mg base 1 C_NoPlan "NoPlan" ["self","word","path"] (spX C_NoPlan ["word","path"]))(n:Nat)(Ff:ak6 P w K mg base (4+n) "depth_on" ["reach","plan","path"] (Dx P_row C_NoPlan K n)):FnOk P w K mg base (CX1 P w) (4+n+1) f fd ["reach","plan","path"] (Dx P_row C_NoPlan K (n+1)):=by
 refine F.ok1 Gy (λvs H Q E h=>?_) (λcdv A outer s H vs Q E hr h=>?_)
 . obtain⟨r,v,t,js,ns,ps,as,D,n,w,W,rfl,_⟩:=h;rfl
 obtain⟨r,v,t,js,ns,ps,as,D,m,w,W,rfl,hT,hW,hNm,h10,hI,hD,hS,hmn,hm60,hpl,hxl,hL,kq,ke⟩:=h;have hu:=Cs hr;have hq:=Cu hr;obtain⟨tps,htb⟩:=De hL
 with_reducible refine⟨_,(A2 (Aa (i:=3) Gy.nd ⋯ (by eq_refl) (An Gd (hr.mono ∅) ⋯ (A0 (pv 0) (A0 (pv 1) A1))))
  (A2 (Cd (Af Wq (pv 3) Uu (Av _)) (A8 (a64 ⋯ (at0 Ds (hr.mono ∅) ⋯ (A0 (pv 3) (A0 (pv 2) A1))))) Aw)
  (A2 (Cd (Af (Bx (K:=K) hq) (Ae (A6 (K:=K) hu) (pv 1) A3 (by ac_rfl)) Al (Av _)) (A8 (As A3)) Aw)
  (A2 (Aa (i:=4) Gy.nd ⋯ (by eq_refl) (To Ff (hr.mono ∅) ⋯ Zb (A0 (An Dh (hr.mono ∅) ⋯ (A0 (pv 0) (A0 (Ae (A6 (K:=K) hu) (pv 1) A3 (by ac_rfl)) (A0 (Ae (A6 (K:=K) hu) (pv 1) A3 (by ac_rfl)) A1)))) (A0 (Ae (A6 (K:=K) hu) (pv 1) A3 (by ac_rfl)) (A0 (Aj (Ab (K:=K)) (pv 2) (Ao (A0 A3 A1))) A1)))))
  (A2 (Aa (i:=5) Gy.nd ⋯ (by eq_refl) (To Ff (hr.mono ∅) ⋯ Zb (A0 (An Dh (hr.mono ∅) ⋯ (A0 (pv 0) (A0 (Ae (A6 (K:=K) hu) (pv 1) A3 (by ac_rfl)) (A0 (Ae (A6 (K:=K) hu) (pv 1) A3 (by ac_rfl)) A1)))) (A0 (Ae (A6 (K:=K) hu) (pv 1) A3 (by ac_rfl)) (A0 (Aj (Ab (K:=K)) (pv 2) (Ao (A0 A3 A1))) A1)))))
  (A8 (As (Aj (Ab (K:=K)) A3 (Ac (R4 ⋯) ⋯ T.b_max PyProof.Rows.Boot.«max» (A0 (pv 4) (A0 (pv 5) A1))))))))))),?_⟩
 symm
 refine⟨r,v,ns,ps,as,D,m,w,W,rfl,hT,hW,hNm,h10,hI,hD,hm60,hL,λo H1 hwd k1 hL1=>?_⟩;have fz1:=k1.fz htb hT.top;have hI1:=k1.data htb hT.top hI;have hT1:=k1.tab htb hT;have hS1:=fz1.seq hS
 cases o with
 |some z=>
   symm
   rw[if_pos (by simp[wdV])]
   symm
   refine ay0 (by rfl) nofun λa H4 ha4 e4 hE=>?_
   symm
   have ha0:H a=none:=k1.free htb hT.top (De hL1) ha4;refine ai7 hE x_NoPlan.xc ha0 λH5 kp hE5=>?_;have e15:Same H1 H5:=λb o q=>kp b o (ne_of_none q ha4) (e4 _ _ q);exact ke z js (.no hwd) a t H5 (k1.same e15) (hL1.same e15) (e15.seqT hS1) hE5
 |none=>
   symm
   rw[if_neg (by simp[wdV])]
   symm
   cases hwd with
   |@fin row e he=>
     obtain⟨a,rv,rfl,hA,_⟩:=Yt (e ▸ hI1);refine Bg hA (by rfl) ?_
     symm
     exact kq 0 H1 (.fin e he) k1 hL1
   |@ask x y A B e hU=>
     subst e;obtain⟨hx,hy,hxy,hun⟩:=id hU;have hn0:1<=m:=by have:=hD.dp;simp only[Kh,PyData.depth] at this;omega
     obtain⟨m',rfl⟩:∃ m',m=m'+1:=⟨m-1,by omega⟩;obtain⟨uA,hDA⟩:=hD.els.all A (by simp);obtain⟨uB,hDB⟩:=hD.els.all B (by simp);obtain⟨a,d,e,rfl,hA,hd,he⟩:=Uq hI1;refine Bg hA (by rfl) ?_
     symm
     rw[A13 (by intro z;have:=V.str.inj (A21 z);exact absurd this nofun)]
     symm
     refine Bg hA (by rfl) ?_
     symm
     refine Bg hA (by rfl) ?_
     symm
     refine⟨r,x,y,ns,ps,as,rfl,hT1,hW,hx,hy,λr1 as1 H2 hr1 has1 k2 hT2=>?_⟩;have fz2:=k2.fz;have hA2:=fz2.seq hA
     symm
     refine Bg hA2 (by rfl) ?_
     symm
     have hS2:=fz2.seq hS1;refine Ap (A7 (by simp)) λt1 H3 ht3 e3 h3=>?_;refine Fu (e3.seqT hS2) (SqT.of h3) (A7 (by simp only[List.length_singleton,List.length_map];omega)) λt2 H4 e4 h4=>?_;have e24:=e3.trans e4;have hT4:=(hT2.same e24);have kA:Kp P_row r H H4:=((k1.trans (.of_keep k2))).same e24;have hL2:LmR P_row H2:=Oc hL1 k2 hT1.top;have hL4:=hL2.same e24;obtain⟨tps1,htb1⟩:=De hL1;have hd4:=((Kp.of_keep (P:=P_row) k2).same e24).data htb1 hT1.top hd;have hW1:=hW.saidP ∅ hx hy hxy hun;have hr10:H r1=none:=k1.free htb hT.top (De hL1) hr1
     symm
     refine⟨r1,_,t2,js++[0],ns,_,as1,A,m',_,_,rfl,hT4.toR,hW1,hNm,h10,hd4,hDA,(by rw[A0N];exact h4),by omega,by omega,by rw[A04,A0J];omega,by rw[A04,A0J];omega,hL4,λm1 H5 j1 k5 hL5=>?_,λz q j1 a5 t5 H5 k5 hL5 hS5 hE5=>?_⟩
     . have kB:Kp P_row r H H5:=kA.other k5 hr10 htb hT.top;have fzB:=kB.fz htb hT.top;have hT5:=kB.tab htb hT;obtain⟨a5,d5,b5,q5,hA5,hd5,hb5⟩:=Uq (kB.data htb hT.top hI)
       cases q5
       symm
       refine Bg hA5 (by rfl) ?_
       symm
       refine Bg hA5 (by rfl) ?_
       symm
       refine⟨r,y,x,ns,ps,as,rfl,hT5,hW,hy,hx,λr2 as2 H6 hr2 has2 k6 hT6=>?_⟩;have hA6:=k6.fz.seq hA5
       symm
       refine Bg hA6 (by rfl) ?_
       symm
       refine Ap (A7 (by simp)) λt3 H7 ht7 e7 h7=>?_;refine Fu (e7.seqT (k6.fz.seq (fzB.seq hS))) (SqT.of h7) (A7 (by simp only[List.length_singleton,List.length_map];omega)) λt4 H8 e8 h8=>?_;have e68:=e7.trans e8;have k58:Kp P_row r H5 H8:=(Kp.of_keep k6).same e68;have kC:Kp P_row r H H8:=kB.trans k58;have hL6:LmR P_row H6:=Oc hL5 k6 hT5.top;obtain⟨tps5,htb5⟩:=De hL5;have hW2:=hW.saidP ∅ hy hx (Ne.symm hxy) (Go hun);have hr20:H r2=none:=kB.free htb hT.top (De hL5) hr2
       symm
       refine⟨r2,b5,t4,js++[1],ns,_,as2,B,m',_,_,rfl,(hT6.same e68).toR,hW2,hNm,h10,k58.data htb5 hT5.top hb5,hDB,(by rw[A0N];exact h8),by omega,by omega,by rw[A04,A0J];omega,by rw[A04,A0J];omega,hL6.same e68,λm2 H9 j2 k9 hL9=>?_,λz q j2 a9 t9 H9 k9 hL9 hS9 hE9=>?_⟩
       . have kD:Kp P_row r H H9:=kC.other k9 hr20 htb hT.top
         symm
         refine⟨_,_,rfl,?_⟩
         have hmx:(1+(if(m2:Int)>(m1:Int) then(m2:Int) else(m1:Int)):Int)=((1+max m1 m2:Nat):Int):=by split<;>omega
         show Px K (V.int 1) (V.int (if(m2:Int)>(m1:Int) then(m2:Int) else(m1:Int))) H9 _
         symm
         rw[hmx];exact kq _ H9 (.ask rfl hU j1 j2) kD hL9
       exact ke z q (.second rfl hU j1 j2) a9 t9 H9 (kC.other k9 hr20 htb hT.top) hL9 hS9 hE9
     exact ke z q (.first rfl hU j1) a5 t5 H5 (kA.other k5 hr10 htb hT.top) hL5 hS5 hE5
theorem Qw {f:Addr}{fd:FuncData}(F:Fun K "depth_on" "depth_on" Ef f fd)(T:Gg mg){P_row:Addr}{C_HalfError:Addr}{C_NoName:Addr}{C_NoPlan:Addr}(x_HalfError:Cr K mg C_HalfError C_HalfError)(x_NoName:G9 K mg C_NoName C_HalfError)(x_NoPlan:Fe K mg C_NoPlan C_HalfError)(Dh:Fnd P w K mg base 1 "reach_said" ["reach","one","other"] (Fc K))(Gd:Fnd P w K mg base 3 "word_due" ["reach","plan"] (Gv P_row K))(Ds:Mkx P w K mg base 1 C_NoPlan "NoPlan" ["self","word","path"] (spX C_NoPlan ["word","path"]))(hm:mg "depth_on" = some (.ref f))(hk:W.keepIn K (.ref f)=true)(hb:Binds K fd ["reach","plan","path"] []):FnOk P w K mg base (CX1 P w) 129 f fd ["reach","plan","path"] (Hg P_row C_NoPlan K):=by
 have h:∀ n:Nat,FnOk P w K mg base (CX1 P w) (4+n) f fd ["reach","plan","path"] (Dx P_row C_NoPlan K n):=λn=>by
  induction n with
  |zero=>exact FnOk.void Jw
  |succ n ih=>exact Oh F T x_HalfError x_NoName x_NoPlan Dh Gd Ds n ⟨f,fd,ih,hm,hk,hb⟩
 exact h 125
theorem Pj {f:Addr}{fd:FuncData}(F:Fun K "lets_plan" "lets_plan" Ee f fd)(T:Gg mg){P_row:Addr}{C_HalfError:Addr}{C_NoName:Addr}{C_NoPlan:Addr}(x_HalfError:Cr K mg C_HalfError C_HalfError)(x_NoName:G9 K mg C_NoName C_HalfError)(x_NoPlan:Fe K mg C_NoPlan C_HalfError)(Gn:Fnd P w K mg base 1 "behind_each" ["half"] (G7 K))(Ff:ak6 P w K mg base 129 "depth_on" ["reach","plan","path"] (Hg P_row C_NoPlan K)):FnOk P w K mg base (CX1 P w) 130 f fd ["half","plan"] (Gm P_row C_NoPlan K):=by
 refine F.ok1 Rt (λvs H Q E h=>?_) (λcdv A outer s H vs Q E hr h=>?_)
 . obtain⟨hv,v,ns,ps,D,n,w,W,rfl,_⟩:=h;rfl
 obtain⟨hv,v,ns,ps,D,n,w,W,rfl,hI,hW,hNm,h10,hD,hk,hn,hpl,hL,kq,ke⟩:=h;have hu:=Cs hr;have hq:=Cu hr;obtain⟨tps,htb⟩:=De hL
 with_reducible refine⟨_,(A8 (As (To Ff (hr.mono nofun) ⋯ Zb (A0 (An Gn (hr.mono nofun) ⋯ (A0 (pv 0) A1)) (A0 (pv 1) (A0 (Ao A1) A1)))))),?_⟩
 symm
 refine⟨hv,ns,ps,rfl,hI,hW,λr as H1 hr1 has1 e1 hT1=>?_⟩
 symm
 refine Ap (A7 (by simp)) λt H2 ht2 e2 h2=>?_
 symm
 have e12:=e1.trans e2;have up:∀ H3,Kp P_row r H2 H3->ExtBut P_row H H3:=λH3 k3 b o hb h=>k3.all b o hb (λz=>by rw[z,hr1] at h;cases h) (e2 _ _ (e1 _ _ h));refine⟨r,v,t,[],ns,ps,as,D,n,w,W,rfl,(hT1.same e2).toR,hW,hNm,h10,Is.mono e12 _ _ hD,hk,SqT.of h2,by omega,hn,hpl,by simp;omega,hL.same e12,λm H3 j k3 hL3=>?_,λz q j a t' H3 k3 hL3 hS3 hE3=>ke z q a t' H3 j (up H3 k3) hL3 hS3 hE3⟩
 symm
 exact kq m H3 j (up H3 k3) hL3
def Es (K:W.Frag):Sp:=λvs H Q _=>∃ v ns ps,vs=[v]/\Is K H (hfD ns ps) v/\HalfW ns ps/\(∀ z∈ns,I0 z=true)/\NmP ps/\ns.length<=10/\∀ p zs H',H p=none->Same H H'->H' p=some (.lst zs)->IsL K H' ((unP ns ps).map prD) zs->Q (.ref p) H'
def jsN (ns:List Str)(ps:List (Str×Str))(k m:Nat):List Nat:=((List.range m).map λi=>k+1+i).filter λj=>unB ps (ns.getD k "") (ns.getD j "")
theorem am1 (ns:List Str)(ps:List (Str×Str))(k:Nat):unR ns ps k=(jsN ns ps k (ns.length-(k+1))).map λj=>(ns.getD k "",ns.getD j ""):=by
 have e:ns.drop (k+1)=(List.range (ns.length-(k+1))).map λi=>ns.getD (k+1+i) "":=by
  refine List.ext_getElem? λi=>?_;rw[A53,A09];rcases Nat.lt_or_ge i (ns.length-(k+1)) with q|q
  . rw[List.getElem?_range q];simp[List.getD,List.getElem?_eq_getElem (show k+1+i<ns.length by omega)]
  rw[A4L ∅,A4L (by rw[A1L];exact q)];rfl
 unfold unR jsN;rw[e,List.filter_map,List.filter_map,A1J,A1J];rfl
theorem Tb (ns:List Str)(ps:List (Str×Str))(k m:Nat):jsN ns ps k (m+1)=jsN ns ps k m++if unB ps (ns.getD k "") (ns.getD (k+1+m) "")=true then [k+1+m] else []:=by unfold jsN;rw[A4N,A0N,A2A];simp only[List.map_cons,List.map_nil,List.filter_cons,List.filter_nil]
theorem ah8 {ns:List Str}{ps:List (Str×Str)}{k m j:Nat}(h:j∈jsN ns ps k m):j<k+1+m:=by unfold jsN at h;obtain⟨i,hi,rfl⟩:=A0K.mp (A0X.mp h).1;have:=A2K.mp hi;omega
structure RowsL (H:Hp)(as:List Addr)(ns:List Str)(ps:List (Str×Str)):Prop where
 len:as.length=ns.length
 row:∀(j:Nat) (z:Str) (a:Addr),ns[j]? = some z->as[j]? = some a->∃ ks:List Str,H a=some (.lst (ks.map V.str))/\∀ y,y∈ks↔Way ps z y
theorem RowsL.at {H:Hp}{as:List Addr}{ns:List Str}{ps:List (Str×Str)}(h:RowsL H as ns ps){j:Nat}{z:Str}(hz:ns[j]? = some z):∃(a:Addr) (ks:List Str),as[j]? = some a/\H a=some (.lst (ks.map V.str))/\∀ y,(!decide (y∈ks)) = !Ay ps z y:=by have hj:=(A03.mp hz).1;obtain⟨a,ha⟩:∃ a,as[j]? = some a:=⟨_,A07 (by rw[h.len];exact hj)⟩;obtain⟨ks,h1,h2⟩:=h.row j z a hz ha;refine⟨a,ks,ha,h1,λy=>congrArg _ ?_⟩;rw[A1N,A1Y,h2,wayB_iff]
theorem RowsL.ext {H H':Hp}{as:List Addr}{ns:List Str}{ps:List (Str×Str)}(h:RowsL H as ns ps)(e:Same H H'):RowsL H' as ns ps:=⟨h.len,λj z a hz ha=>let ⟨ks,h1,h2⟩:=h.row j z a hz ha;⟨ks,e _ _ h1,h2⟩⟩
theorem aa4 {ps:List (Str×Str)}(h:NmP ps):OkP ps:=λp hp=>⟨(Mz (h p hp).1).1,(Mz (h p hp).2).1⟩
theorem Mn {f:Addr}{fd:FuncData}(F:Fun K "_law_untold" "_law_untold" Cq f fd)(T:Gg mg)(Bo:Fnd P w K mg base 1 "_law_behind" ["_law_half_here","_law_name"] (Cy K)):FnOk P w K mg base CX0 2 f fd ["_law_half_here"] (Es K):=by
 refine F.ok C9 (λvs H Q E h=>?_) (λcdv A outer s H vs Q E hr h=>?_)
 . obtain⟨v,ns,ps,rfl,_⟩:=h;rfl
 obtain⟨v,ns,ps,rfl,hI,hW,hNm,hNp,h10,k⟩:=h;have hu:=Cs hr;have hq:=Cu hr;have hok:OkP ps:=aa4 hNp;have hok1:∀ z∈ns,PyData.strOk z=true:=λz hz=>(Mz (hNm z hz)).1;have hpl:=hW.le
 with_reducible refine⟨_,(A2 (Aa (i:=1) C9.nd ⋯ (by with_unfolding_all exact A3P rfl) (Ae (A6 (K:=K) hu) (pv 0) A3 (by ac_rfl)))
  (A2 (Aa (i:=2) C9.nd ⋯ (by with_unfolding_all exact A3P rfl) (Fq ["_law_name"] ["_law_half_here"] [0] ⋯ ⋯ ⋯ (Bp (K:=K) hu (pv 1)) (λ_ _ _ _=>(Ad (i:=0) (by with_unfolding_all (show(["_law_name","_law_half_here"]:List Str).Nodup;decide +kernel)) ⋯ (by eq_refl))) (Ct nofun) (λ_ _ _ _=>Gu) (λ_ _ _ _=>(An Bo (hr.mono nofun) ⋯ (A0 (pv 1) (A0 (pv 0) A1))))))
  (A2 (Aa (i:=3) C9.nd ⋯ (by eq_refl) (Bc A1))
  (A2 (Du A11 ⋯ (Bu ⋯ T.b_range (A0 (Ac (Au (K:=K)) ⋯ T.b_len PyProof.Rows.Boot.«len» (A0 (pv 1) A1)) A1)) (Ad (i:=4) C9.nd ⋯ (by with_unfolding_all exact A3P rfl))
  (A2 (Fi (i:=5) ["_law_j"] ["_law_names_here","_law_table","_law_k"] [1,2,4] ⋯ ⋯ ⋯ C9.nd ⋯ ⋯ (Rc ⋯ T.b_range (A0 (Aj (Ab (K:=K)) (pv 4) A3) (A0 (Ac (Au (K:=K)) ⋯ T.b_len PyProof.Rows.Boot.«len» (A0 (pv 1) A1)) A1))) (λ_ _ _ _=>(Ad (i:=0) (by with_unfolding_all (show(["_law_j","_law_names_here","_law_table","_law_k"]:List Str).Nodup;decide +kernel)) ⋯ (by eq_refl))) (Ct nofun) (λ_ _ _ _=>(Hq (PW.pt (Kx (Af (Cw (K:=K) hq) (Ae (A6 (K:=K) hu) (pv 1) (pv 0) (by ac_rfl)) (Ae (A6 (K:=K) hu) (pv 2) (pv 3) (by ac_rfl)) ⋯) (Hf (Af (Cw (K:=K) hq) (Ae (A6 (K:=K) hu) (pv 1) (pv 3) (by ac_rfl)) (Ae (A6 (K:=K) hu) (pv 2) (pv 0) (by ac_rfl)) ⋯)))))) (λ_ _ _ _=>(pv 0)))
  (A8 (Dz (Fv (K:=K) A0Y A47 A48 (mm Mc) (pv 3) (A0 (Fq ["_law_j"] ["_law_names_here","_law_k"] [1,4] ⋯ ⋯ ⋯ (Bp (K:=K) hu (pv 5)) (λ_ _ _ _=>(Ad (i:=0) (by with_unfolding_all (show(["_law_j","_law_names_here","_law_k"]:List Str).Nodup;decide +kernel)) ⋯ (by eq_refl))) (Ct nofun) (λ_ _ _ _=>Gu) (λ_ _ _ _=>(Ao (A0 (Ae (A6 (K:=K) hu) (pv 1) (pv 2) (by ac_rfl)) (A0 (Ae (A6 (K:=K) hu) (pv 1) (pv 0) (by ac_rfl)) A1))))) A1))))))
  (A8 (As (pv 3))))))),?_⟩
 symm
 refine Jq hI λnv hN=>?_;obtain⟨na,rfl,hS⟩:=hN.nm
 symm
 refine Xt hS ?_;refine J4 (Jm (xs:=ns.map V.str)) (λp i acc H1=>Same H H1/\∃ as:List Addr,as.length=i/\acc=as.map V.ref/\∀(j:Nat) (z:Str) (a:Addr),ns[j]? = some z->as[j]? = some a->∃ ks:List Str,H1 a=some (.lst (ks.map V.str))/\a≠p/\∀ y,y∈ks↔Way ps z y) (λp H' hp e h=>⟨e,[],rfl,rfl,λj z a _ h=>(by simp at h)⟩) (λp i acc H1 hP=>hP.1.seqT hS) (λp i x acc H1 hp hx hi hl ha hP=>?_) λp acc H1 hp ha hl hP=>?_
 . obtain⟨e1,as,hal,rfl,hrow⟩:=hP;rw[A09] at hx;obtain⟨z,hz,rfl⟩:=A1M.mp hx;have hin:i<ns.length:=(A03.mp hz).1
   symm
   refine⟨v,z,ns,ps,rfl,hI.hf_fz e1.fz,by omega,hok,hok1 z (A0B hz),λb fs H2 hb2 e2 h2 hnd hfs=>?_⟩;have hbp:b≠p:=Ne.symm (ne_of_none ha hb2);refine Mg (by rw[List.length_map];omega) hi hl (e2 _ _ ha) λH4 e4 h4=>⟨?_,as++[b],by simp[hal],by rw[List.map_append];rfl,λj y a hj haj=>?_⟩
   . exact(e1.trans e2).off hp e4
   rcases Nat.lt_or_ge j as.length with q|q
   . rw[A2Q q] at haj;obtain⟨ks,q1,q2,q3⟩:=hrow j y a hj haj;exact⟨ks,e4 _ _ q2 (e2 _ _ q1),q2,q3⟩
   have hj':j=as.length:=by have:=(A03.mp haj).1;rw[A04,A0J] at this;omega
   subst hj';have:a=b:=by simpa using haj.symm
   subst this;rw[hal,hz] at hj
   cases hj;exact⟨fs,e4 _ _ hbp h2,hbp,hfs⟩
 obtain⟨e1,as,hal,rfl,hrow⟩:=hP;rw[A01] at hal;have hR1:RowsL H1 as ns ps:=⟨hal,λj z a hz ha=>let ⟨ks,q1,_,q3⟩:=hrow j z a hz ha;⟨ks,q1,q3⟩⟩
 symm
 refine Bb nofun λq H2 hq2 e2 h2=>?_
 symm
 refine Hk (hN.nm_fz (e1.trans e2).fz) ?_;rw[A01]
 symm
 refine Gf ∅ ?_;have hqp:q≠p:=Ne.symm (ne_of_none ha hq2)
 refine Ez B5 (λi σ H3=>∃ x4 x5 zs,σ=[some v,some (.ref na),some (.ref p),some (.ref q),x4,x5]/\Same H1 H3/\H3 q=some (.lst zs)/\IsL K H3 ((unK ns ps i).map prD) zs)
  ⟨_,_,[],rfl,e2,h2,.nil⟩ (λ_ _ _ _=>trivial) (λi x σ H3 hx hi hP=>?_) (fun σ H3 hP=>?_)
 . obtain⟨x4,x5,zs,rfl,e3,h3,hL3⟩:=hP;obtain⟨rfl,hin⟩:=Ej hx;have hin':i<ns.length:=by omega
   have hzx:ns[i]? = some (ns.getD i ""):=by simp[List.getD,List.getElem?_eq_getElem hin']
   have hlz:zs.length<=100:=by rw[<- IsL.length hL3,A01];exact A0L (ag7 ns ps i) (A2B (by omega:i<=10) h10)
   have ixV:∀ {j:Nat} {z:Str},ns[j]? = some z->atI (ns.map V.str) ((j:Nat):Int)=some (.str z):=fun {j z} h=>Bz (by rw[A09,h];rfl);have ixA:∀ {j:Nat} {a:Addr},as[j]? = some a->atI (as.map V.ref) ((j:Nat):Int)=some (.ref a):=fun {j a} h=>Bz (by rw[A09,h];rfl);have ei:(0+(i:Int))=((i:Nat):Int):=by omega
   rw[ei]
   symm
   refine Hk (hN.nm_fz (e1.trans e3).fz) ?_;rw[A01]
   symm
   refine ab9 ∅ ?_;refine J4 B5 (λb m acc H4=>Same H3 H4/\acc=(jsN ns ps i m).map λj=>V.int ((j:Nat):Int)) (λb H' hb e h=>⟨e,rfl⟩) (λ_ _ _ _ _=>trivial) (λb m x acc H4 hb hx hi2 hl4 ha4 hP=>?_) (λb acc H4 hb h4 hl4 hP=>?_)
   . obtain⟨e4,rfl⟩:=hP;obtain⟨rfl,hmm⟩:=Ej hx;have hml:i+1+m<ns.length:=by omega
     have hzy:ns[i+1+m]? = some (ns.getD (i+1+m) ""):=by simp[List.getD,List.getElem?_eq_getElem hml]
     have hR4:=(hR1.ext e3).ext e4;have hp4:=e4 _ _ (e3 _ _ ha);have hS4:=((e1.trans e3).trans e4).seqT hS;obtain⟨a1,ks1,q1,q2,q3⟩:=hR4.at hzx;obtain⟨a2,ks2,r1,r2,r3⟩:=hR4.at hzy;have ej:((i:Int)+1+(m:Int))=((i+1+m:Nat):Int):=by omega
     rw[ej]
     symm
     refine Bg hS4 (ixV hzy) ?_
     symm
     refine Eh hp4 (ixA q1) ?_
     symm
     refine Oa (SqL.of q2) ?_;rw[q3]
     symm
     have skip:unB ps (ns.getD i "") (ns.getD (i+1+m) "")=false->CN b ((List.range ((ns.length:Int)-((i:Int)+1)).toNat).map λ(i_1:Nat)=>V.int ((i:Int)+1+(i_1:Int))).length (λm acc H4=>Same H3 H4/\acc=(jsN ns ps i m).map λj=>V.int ((j:Nat):Int)) m H4:=λhc=>Pe hi2 hl4 ha4 ⟨e4,by rw[Tb,if_neg (by rw[hc];simp),List.append_nil]⟩
     cases w1:Ay ps (ns.getD i "") (ns.getD (i+1+m) "") with
     |true=>exact skip (by unfold unB;rw[w1];rfl)
     |false=>
       symm
       refine Bg hS4 (ixV hzx) ?_
       symm
       refine Eh hp4 (ixA r1) ?_
       symm
       refine Oa (SqL.of r2) ?_;rw [r3]
       symm
       cases w2:Ay ps (ns.getD (i+1+m) "") (ns.getD i "") with
       |true=>exact skip (by unfold unB;rw[w2,Bool.and_comm];rfl)
       |false=>
         symm
         refine Mg (by simp;omega) hi2 hl4 ha4 λH5 e5 h5=>⟨e4.off hb e5,?_⟩;rw[Tb,if_pos (by unfold unB;rw[w1,w2];rfl),List.map_append];rfl
   obtain⟨e4,rfl⟩:=hP;have hmx:((List.range ((ns.length:Int)-((i:Int)+1)).toNat).map λ(i_1:Nat)=>V.int ((i:Int)+1+(i_1:Int))).length=ns.length-(i+1):=by rw[A01,A1L];omega
   rw[hmx] at h4 hl4;rw[A01] at hl4
   symm
   refine Mq (SqL.of h4) (G2 (K:=K) (Cv (xs:=(jsN ns ps i (ns.length-(i+1))).map λj=>V.int ((j:Nat):Int))) (jsN ns ps i (ns.length-(i+1))) (by simp) (λ_=>true) (λj=>prD (ns.getD i "",ns.getD j "")) (λ_=>Iq _) (by simp;omega) (λH' e=>e.seq (SqL.of h4)) (λm j w H5 R R' hj hw e5 hR hR'=>?_) λq5 zs5 H5 hq5 e5 h5 hL5=>?_)
   . rw[A09,hj] at hw
     cases hw;have hjl:=ah8 (A0B hj);have hzj:ns[j]? = some (ns.getD j ""):=by simp[List.getD,List.getElem?_eq_getElem (show j<ns.length by omega)]
     have hS5:=(((e1.trans e3).trans e4).trans e5).seqT hS
     symm
     refine Bg hS5 (ixV hzx) ?_
     symm
     refine Bg hS5 (ixV hzj) ?_
     symm
     refine Ap (A7 (by simp)) λt H6 ht6 e6 h6=>?_;exact hR rfl _ _ e6 (Mb (SqT.of h6))
   symm
   have h5q:=e5 _ _ (e4 _ _ h3)
   have hlz5:zs5.length<=100:=by rw[<- IsL.length hL5,A01,A2T.mpr (λ_ _=>rfl)];omega
   refine Xy h5q h5 ∅ λH6 e6 h6=>?_
   symm
   have fz6:Fz H5 H6:=e6.fzL h5q;have e35:=e4.trans e5;refine⟨_,_,_,rfl,(e3.trans e35).off hq2 e6,h6,?_⟩;rw[a73,A0N,am1,A1J];refine IsL.append (IsL.fz (e35.fz.trans fz6) _ _ (Bs _) hL3) ?_;have:=IsL.fz fz6 _ _ (Fy _ (λ_=>Iq _) _) hL5;rw[A2T.mpr (λ_ _=>rfl)] at this;exact this
 obtain⟨x4,x5,zs,rfl,e3,h3,hL3⟩:=hP;rw[A01,A1L] at hL3
 symm
 exact k q zs H3 (e1.free hq2) (e1.trans e3) h3 hL3
def LmJ (P:Addr)(H:Hp):Prop:=LamT P 254 55 "_law_judged.<locals>.<lambda>" H
def a34:Res->PyData
 |.deep m=>.tuple [.str "deep",.int m]
 |.no w js=>.tuple [.str w,jsD js]
theorem Wd.ne {ns:List Str}{ps:List (Str×Str)}{D:PyData}{w:Str}(h:Wd ns ps D (some w)):w ≠ "deep":=by cases h<;>decide
theorem Jd.ne {ns:List Str}{ps:List (Str×Str)}{D:PyData}{js:List Int}{R:Res}(h:Jd ns ps D js R):∀ w q,R = .no w q->w ≠ "deep":=by
 induction h with
 |no a=>intro w q e;cases e;exact a.ne
 |fin _ _=>intro w q e;cases e
 |first _ _ _ ih=>intro w q e;cases e;exact ih _ _ rfl
 |second _ _ _ _ _ ih=>intro w q e;cases e;exact ih _ _ rfl
 |ask _ _ _ _ _ _=>intro w q e;cases e
theorem T1 {ns:List Str}{ps:List (Str×Str)}(hn:ns.Nodup){x y:Str}:((x,y)∈unP ns ps\/(y,x)∈unP ns ps)↔UnT ns ps x y:=by
 constructor
 . rintro(h|h)
   . obtain⟨h1,h2,h3⟩:=Hd h;exact⟨h1,h2,Tc hn h,h3⟩
   obtain⟨h1,h2,h3⟩:=Hd h;exact⟨h2,h1,Ne.symm (Tc hn h),Go h3⟩
 rintro⟨h1,h2,h3,h4⟩;rw[ar6,Yl,Yl]
 have two:∀ {l:List Str},x∈l->y∈l->[x,y].Sublist l\/[y,x].Sublist l:=by
  intro l
  induction l with
  |nil=>intro h;cases h
  |cons a t ih=>
    intro hx hy;rcases A0H.mp hx with rfl|hx'
    . exact .inl (.cons₂ _ (A37.mpr ((A0H.mp hy).resolve_left (Ne.symm h3))))
    rcases A0H.mp hy with rfl|hy'
    . exact .inr (.cons₂ _ (A37.mpr hx'))
    exact(ih hx' hy').imp (.cons _) (.cons _)
 exact(two h1 h2).imp (λq=>⟨q,h4⟩) λq=>⟨q,Go h4⟩
def Cc (P:Addr)(K:PySem.W.Frag)(N:Nat):Sp:=λvs H Q _=>∃ h v t js ns ps D n w W,vs=[h,v,.ref t]/\Is K H (hfD ns ps) h/\HalfW ns ps/\(∀ z∈ns,I0 z=true)/\NmP ps/\ns.length<=10/\Is K H D v/\Dk n w W D/\SqT K H t (js.map V.int)/\n<N/\n<=60/\ps.length+n<=900/\js.length+n<=900/\LmJ P H/\∀ R u H',Jd ns ps D js R->ExtBut P H H'->LmJ P H'->Is K H' (a34 R) u->Q u H'
def Er (P:Addr)(K:W.Frag):Sp:=Cc P K 125
theorem Im {P:Addr}{K:PySem.W.Frag}:∀ vs H Q E,¬ Cc P K 0 vs H Q E:=by rintro vs H Q E ⟨h,v,t,js,ns,ps,D,n,w,W,_,_,_,_,_,_,_,_,_,h,_⟩;omega
theorem ao6 {K:W.Frag}{H:Hp}{t:Addr}{js:List Int}(h:SqT K H t (js.map V.int)):Is K H (jsD js) (.ref t):=by
 refine Is.of_tup h ?_;clear h
 induction js with
 |nil=>exact .nil
 |cons a r ih=>exact .cons (by simp only[Is]) ih
theorem ah0 {n:Nat}:(!([PyData.int 2,.int 5].any λe=>PyData.eqv e (.int (n:Int)))) = !(decide (n=2)||decide (n=5)):=by
 simp only[List.any_cons,List.any_nil,PyData.eqv,Bool.or_false];congr 1;congr 1
 . rw[A1N,A25,A1Y];omega
 rw[A1N,A25,A1Y];omega
theorem Xj {ps:List (Str×Str)}{p:Str×Str}:((ps.map prD).any λe=>PyData.eqv e (prD p))=decide (p∈ps):=by
 rw[A1N,A27,A1Y];constructor
 . rintro⟨e,he,h⟩;obtain⟨q,hq,rfl⟩:=A0K.mp he;rw[Z1,A1Y] at h;exact h ▸ hq
 exact λh=>⟨_,A0K.mpr ⟨p,h,rfl⟩,by rw[Z1,A0P rfl]⟩
theorem ap0 {G:Hp->Prop}{A:Prop}{S:Hp->Prop}(main:(∀ H',S H'->G H')->A)(rest:∀ H',S H'->G H'):A:=main rest
theorem L9 {K:W.Frag}{P:Addr}{H H':Hp}{tps:Array Value}(e:ExtBut P H H')(hP:H P=some (.tbl tps)){D:PyData}{v:V}(h:Is K H D v):Is K H' D v:=by
 have rd:∀ {a:Addr} {o:HO},(∀ ps,o ≠ .tbl ps)->Rd H a o->Rd H' a o:=fun {a o} hn r=>by
  rcases r with r|⟨u,r⟩
  . exact .inl (e _ _ (ne_of r hP (hn _)) r)
  exact .inr ⟨u,e _ _ (ne_of r hP (by intro z;cases z)) r⟩
 exact T9 (λ_ _ q=>q.imp (rd (by intro ps z;cases z)) id) (λ_ _ q=>q.imp (rd (by intro ps z;cases z)) id) D v h
theorem Lu {f:Addr}{fd:FuncData}(F:Fun K "_law_judged" "_law_judged" By f fd)(T:Gg mg){P_jud:Addr}{My:Addr}(lb:as8 K mg base My P_jud)(hcd:fd.code = .ref My)(Bo:Fnd P w K mg base 1 "_law_behind" ["_law_half_here","_law_name"] (Cy K))(Eb:Fnd P w K mg base 2 "_law_untold" ["_law_half_here"] (Es K))(n:Nat)(Bm:Fnd P w K mg base (5+n) "_law_judged" ["_law_half_here","_law_thing","_law_path"] (Cc P_jud K n)):FnOk P w K mg base CX0 (5+n+1) f fd ["_law_half_here","_law_thing","_law_path"] (Cc P_jud K (n+1)):=by
 refine Fun.okC F hcd B0 (λvs H Q E h=>?_) (λA outer s H vs Q E hr h=>?_)
 . obtain⟨h,v,t,js,ns,ps,D,n,w,W,rfl,_⟩:=h;rfl
 obtain⟨h,v,t,js,ns,ps,D,n',w,W,rfl,hI,hW,hNm,hNp,h10,hD,hk,hS,hnN,hn60,hpl,hjl,hL,kk⟩:=h;have hu:=Cs hr;have hq:=Cu hr;obtain⟨hh,hxs,rfl,_,_⟩:=Is.tup hI;have no:∀ {H1:Hp} (z:Str),ExtBut P_jud H H1->LmJ P_jud H1->SqT K H1 t (js.map V.int)->Wd ns ps D (some z)->ac0 [V.str z,V.ref t] H1 Q:=λz e hl hs hw=>Ap (A7 (by simp)) λa H2 ha e2 h2=>kk (.no z js) (.ref a) H2 (.no hw) (e.same e2) (hl.same e2) (Is.of_tup (SqT.of h2) (.cons (by simp only[Is]) (.one (ao6 (e2.seqT hs)))))
 with_reducible refine⟨_,(A2 (Cd (PW.pt (W5 (Ll (Hr (Ac (Bw (K:=K)) ⋯ T.b_isinstance PyProof.Rows.Boot.«isinstance» (A0 (pv 1) (A0 (Gw (v:=.ty "tuple") ⋯ T.b_tuple PyProof.Rows.Boot.«tuple» ⋯) A1))))) (W5 (Af (Cw (K:=K) hq) (Ac (Au (K:=K)) ⋯ T.b_len PyProof.Rows.Boot.«len» (A0 (pv 1) A1)) (Ao (A0 A3 (A0 A3 A1))) ⋯) (Si (Af (Iv (K:=K) hq) (Ae (A6 (K:=K) hu) (pv 1) A3 (by ac_rfl)) (Ae (A6 (K:=K) hu) (Bc (A0 Al (A0 Al A1))) (Aj Ij (Ac (Au (K:=K)) ⋯ T.b_len PyProof.Rows.Boot.«len» (A0 (pv 1) A1)) A3) (by ac_rfl)) (Av _)))))) (A8 (As (Ao (A0 Al (A0 (pv 2) A1))))) Aw)
  (A2 (Aa (i:=3) B0.nd ⋯ (by eq_refl) (An Eb (hr.mono ∅) ⋯ (A0 (pv 0) A1)))
  (A2 (Cd (Af (Bx (K:=K) hq) (Ac (Au (K:=K)) ⋯ T.b_len PyProof.Rows.Boot.«len» (A0 (pv 1) A1)) A3 (Av _)) (A2 (Cd (Ll (Hr (Ac (Bw (K:=K)) ⋯ T.b_isinstance PyProof.Rows.Boot.«isinstance» (A0 (Ae (A6 (K:=K) hu) (pv 1) A3 (by ac_rfl)) (A0 (Gw (v:=.ty "tuple") ⋯ T.b_tuple PyProof.Rows.Boot.«tuple» ⋯) A1))))) (A8 (As (Ao (A0 Al (A0 (pv 2) A1))))) Aw)
  (A2 (Aa (i:=4) B0.nd ⋯ (by eq_refl) (Ba (C0 (K:=K)) ⋯ T.b_tuple PyProof.Rows.Boot.«tuple» (A0 (Sv (i:=0) ⟨⋯,lb.hd,lb.bi,lb.gP⟩ Bo (hr.mono ∅) ⋯ T.b_sorted T.b_len ⋯ ⋯ (A0 (Ae (A6 (K:=K) hu) (pv 0) A3 (by ac_rfl)) A1)) A1)))
  (A8 (As (Og (PW.pt (Kx (Af (Bx (K:=K) hq) (pv 3) (Bc A1) (Av _)) (Hf (Af (Bx (K:=K) hq) (Ae (A6 (K:=K) hu) (pv 1) A3 (by ac_rfl)) (pv 4) (Av _))))) (Ao (A0 Al (A0 A3 A1))) (Ao (A0 Al (A0 (pv 2) A1)))))))) Aw)
  (A2 (Vf (pv 1) (Kg (K:=K) (n:=5) ⋯ (Bi (Ad (i:=5) B0.nd ⋯ (by eq_refl)) (Bi (Ad (i:=6) B0.nd ⋯ (by eq_refl)) (Bi (Ad (i:=7) B0.nd ⋯ (by eq_refl)) (Bi (Ad (i:=8) B0.nd ⋯ (by eq_refl)) (Bi (Ad (i:=9) B0.nd ⋯ (by eq_refl)) Ke)))))))
  (A2 (Cd (PW.pt (W5 (Ll (Hr (Ac (Bw (K:=K)) ⋯ T.b_isinstance PyProof.Rows.Boot.«isinstance» (A0 (pv 6) (A0 (Gw (v:=.ty "str") ⋯ T.b_str PyProof.Rows.Boot.«str» ⋯) A1))))) (Si (Ll (Hr (Ac (Bw (K:=K)) ⋯ T.b_isinstance PyProof.Rows.Boot.«isinstance» (A0 (pv 7) (A0 (Gw (v:=.ty "str") ⋯ T.b_str PyProof.Rows.Boot.«str» ⋯) A1)))))))) (A8 (As (Ao (A0 Al (A0 (pv 2) A1))))) Aw)
  (A2 (Cd (PW.pt (Kx (Af (Cw (K:=K) hq) (Ao (A0 (pv 6) (A0 (pv 7) A1))) (pv 3) ⋯) (Hf (Af (Cw (K:=K) hq) (Ao (A0 (pv 7) (A0 (pv 6) A1))) (pv 3) ⋯)))) (A8 (As (Ao (A0 Al (A0 (pv 2) A1))))) Aw)
  (A2 (Aa (i:=10) B0.nd ⋯ (by eq_refl) (An Bm (hr.mono ∅) ⋯ (A0 (Ao (A0 (Ae (A6 (K:=K) hu) (pv 0) A3 (by ac_rfl)) (A0 (Aj (Ab (K:=K)) (Ae (A6 (K:=K) hu) (pv 0) A3 (by ac_rfl)) (Ao (A0 (Ao (A0 (pv 6) (A0 (pv 7) A1))) A1))) A1))) (A0 (pv 8) (A0 (Aj (Ab (K:=K)) (pv 2) (Ao (A0 A3 A1))) A1)))))
  (A2 (Cd (Af (Iv (K:=K) hq) (Ae (A6 (K:=K) hu) (pv 10) A3 (by ac_rfl)) Al (Av _)) (A8 (As (pv 10))) Aw)
  (A2 (Aa (i:=11) B0.nd ⋯ (by eq_refl) (An Bm (hr.mono ∅) ⋯ (A0 (Ao (A0 (Ae (A6 (K:=K) hu) (pv 0) A3 (by ac_rfl)) (A0 (Aj (Ab (K:=K)) (Ae (A6 (K:=K) hu) (pv 0) A3 (by ac_rfl)) (Ao (A0 (Ao (A0 (pv 7) (A0 (pv 6) A1))) A1))) A1))) (A0 (pv 9) (A0 (Aj (Ab (K:=K)) (pv 2) (Ao (A0 A3 A1))) A1)))))
  (A2 (Cd (Af (Iv (K:=K) hq) (Ae (A6 (K:=K) hu) (pv 11) A3 (by ac_rfl)) Al (Av _)) (A8 (As (pv 11))) Aw)
  (A8 (As (Ao (A0 Al (A0 (Aj (Ab (K:=K)) A3 (Ac (R4 ⋯) ⋯ T.b_max PyProof.Rows.Boot.«max» (A0 (Ae (A6 (K:=K) hu) (pv 10) A3 (by ac_rfl)) (A0 (Ae (A6 (K:=K) hu) (pv 11) A3 (by ac_rfl)) A1)))) A1))))))))))))))),?_⟩
 symm
 refine Tz hD ⟨_,rfl,?_⟩
 cases D with
 |tuple ds=>
   rw[show ay5 (.tuple ds)=true from rfl]
   symm
   refine Hk hD ?_
   symm
   refine Ap (A7 (by simp)) λa1 H1 ha1 e1 h1=>?_
   symm
   refine a07 (d:=.int (ds.length:Int)) (ds:=[.int 2,.int 5]) (by simp only[Is]) (.inr (Is.of_tup (SqT.of h1) (.cons (by simp only[Is]) (.one (by simp only[Is]))))) (by decide +kernel) (by simp[PyData.canLay0]) (by simp[PyData.depth]) ?_;rw[ah0];refine⟨_,rfl,?_⟩
   by_cases h25:ds.length=2\/ds.length=5
   . rw[if_neg (by rcases h25 with e|e<;>simp[e])]
     symm
     obtain⟨a,xs,rfl,hSd,hLd⟩:=Is.tup hD
     obtain⟨d0,dr,rfl⟩:∃ d0 dr,ds=d0 :: dr:=by
      cases ds with
      |nil=>simp at h25
      |cons d0 dr=>exact⟨d0,dr,rfl⟩
     obtain⟨v0,vr,rfl,i0,hLr⟩:=Ah hLd;have hn0:1<=n':=by have:=hk.dp;simp only[PyData.depth] at this;omega
     obtain⟨n'',rfl⟩:∃ n'',n'=n''+1:=⟨n'-1,by omega⟩;obtain⟨u0,k0⟩:=hk.els.all d0 (by simp);refine Bg (v:=v0) (e1.seqT hSd) (show atI (v0 :: vr) ((0:Nat):Int)=some v0 from Bz rfl) ?_
     symm
     refine Bb nofun λa2 H2 ha2 e2 h2=>?_
     symm
     have e12:=e1.trans e2;refine Hk (Is.mono e12 _ _ hD) ?_
     symm
     obtain⟨z0,hz0,hz⟩:∃ z0:Str,atI [V.str "end",V.str "ask"] (((d0 :: dr).length:Int) / 5)=some (.str z0)/\(((d0 :: dr).length=2/\z0 = "end")\/((d0 :: dr).length=5/\z0 = "ask")):=by
      rcases h25 with e|e
      . rw[e];exact⟨"end",rfl,.inl ⟨rfl,rfl⟩⟩
      rw[e];exact⟨"ask",rfl,.inr ⟨rfl,rfl⟩⟩
     have hsz:SeqAt.shaped (.str z0)=true:=by rcases hz with ⟨_,rfl⟩|⟨_,rfl⟩<;>decide +kernel
     refine Eh h2 hz0 ?_;refine Wf (Is.mono e12 _ _ i0) (dy:=.str z0) (by simp only[Is]) (k0.shaped ∅) hsz ⟨_,rfl,?_⟩
     cases hE:PyData.eqv d0 (.str z0) with
     |false=>
       symm
       refine no "shape" e12.but (hL.same e12) (e12.seqT hS) (.shape (λx y A B e=>?_) λes e=>?_)
       . unfold Kh at e
         cases e;rcases hz with ⟨q,_⟩|⟨_,rfl⟩
         . simp at q
         rw[eqv_str_iff.mpr rfl] at hE;cases hE
       unfold Nl at e
       cases e;rcases hz with ⟨_,rfl⟩|⟨q,_⟩
       . rw[eqv_str_iff.mpr rfl] at hE;cases hE
       simp at q
     |true=>
       have:=eqv_str_iff.mp hE;subst this
       symm
       refine⟨.ref hh,ns,ps,rfl,hI.hf_fz e12.fz,hW,hNm,hNp,h10,λfp zs H3 hfp e3 h3 hL3=>?_⟩;have e13:=e12.trans e3;have hL3':=hL.same e13;have hD3:=Is.mono e13 _ _ hD;have hS3:=e13.seqT hSd;have hSt:=e13.seqT hS
       symm
       refine Hk hD3 ?_
       symm
       rcases hz with ⟨hl2,rfl⟩|⟨hl5,rfl⟩
       . obtain⟨d1,rfl⟩:∃ d1,dr=[d1]:=by
          match dr,hl2 with
          | [d1],_=>exact⟨d1,rfl⟩
         obtain⟨v1,vr1,rfl,i1,hLr1⟩:=Ah hLr;have e:vr1=[]:=by simpa only[L2.IsL] using hLr1
         subst e;rw[A12 (by rfl)]
         symm
         refine Bg hS3 (by rfl) ?_
         symm
         refine Tz (Is.mono e13 _ _ i1) ⟨_,rfl,?_⟩
         cases d1 with
         |tuple es=>
           rw[show ay5 (.tuple es)=true from rfl]
           symm
           refine⟨hh,rfl,?_⟩
           symm
           have hI3:=hI.hf_fz e13.fz;refine Jq hI3 λnv hN=>?_;obtain⟨na,rfl,hSn⟩:=hN.nm;obtain⟨tps,htb⟩:=De hL3';refine⟨na,rfl,hL3',λH4 e4 hL4=>?_⟩;have fz4:Fz H3 H4:=Y0 e4 htb;refine⟨ns,szW ns ps,fz4.seq hSn,by omega,λx hx H5 e5=>?_,λp5 ms H5 e5 hp5 hperm hpw=>?_⟩
           . refine⟨.ref hh,x,ns,ps,rfl,hI3.hf_fz (fz4.trans e5.fz),hW.le,aa4 hNp,(Mz (hNm x hx)).1,λp6 fs H6 hp6 e6 h6 hnd hfs=>⟨p6,_,rfl,h6,?_,e6⟩⟩;rw[A01,Sq hW.nd hnd (λy hy=>((hfs y).mp hy |>.mem hW.mem).2) hfs,Int.zero_sub]
           symm
           refine Ln (ns:=ms) A9 (G3 ms) λrv H6 e6 hI6=>?_;have e56:Same H5 H6:=(Same.upd hp5).trans e6;have e46:Same H4 H6:=e5.trans e56;have b36:ExtBut P_jud H3 H6:=e4.same e46;have fz36:Fz H3 H6:=fz4.trans e46.fz;have hL6:=hL4.same e46;have nfp:fp≠P_jud:=λz=>by rw[z,htb] at h3;cases h3
           have h36:=b36 _ _ nfp h3
           symm
           refine ah3 ?_
           symm
           refine Bb nofun λa7 H7 ha7 e7 h7=>?_
           symm
           have hNu:NmP (unP ns ps):=λq hq'=>⟨hNm _ (Hd hq').1,hNm _ (Hd hq').2.1⟩;have hLu:=IsL.fz (fz36.trans e7.fz) _ _ (Bs _) hL3;refine W4 (dx:=.list ((unP ns ps).map prD)) (dy:=.list []) (Is.of_lst (SqL.of (e7 _ _ h36)) hLu) (Is.of_lst (SqL.of h7) .nil) (Nn hNu) (by decide +kernel) ⟨_,rfl,?_⟩;have b7:ExtBut P_jud H H7:=(e13.but.trans b36).same e7;have hL7:=hL6.same e7;have hSt7:=(fz36.trans e7.fz).seq hSt
           by_cases hu0:unP ns ps=[]
           . obtain⟨row,he⟩:=(Pp hW).mp hu0;have hms:=Nd hW he hperm hpw;subst hms;rw[hu0,A12 (by rfl)]
             symm
             refine Bg ((fz36.trans e7.fz).seq hS3) (by rfl) ?_
             symm
             obtain⟨u1,k1⟩:=hk.els.all (.tuple es) (by simp);have hrn:∀ z∈ms,I0 z=true:=λz hz=>hNm z (hperm.mem_iff.mp hz);have hml:=hperm.length_eq;refine W4 (Is.mono e7 _ _ (L9 b36 htb (Is.mono e13 _ _ i1))) (Is.mono e7 _ _ hI6) (k1.shaped ∅) (a04 hrn ∅).shaped ⟨_,rfl,?_⟩
             cases hE2:PyData.eqv (.tuple es) (nmD ms) with
             |true=>
               have:=eqv_row.mp hE2;subst this
               symm
               refine Ap (A7 (by simp)) λa8 H8 ha8 e8 h8=>?_;exact kk (.deep 0) _ H8 (.fin rfl he) (b7.same e8) (hL7.same e8) (Is.of_tup (SqT.of h8) (.cons (by simp only[Is]) (.one (by simp only[Is];rfl))))
             |false=>
               symm
               refine no "end" b7 hL7 hSt7 (.noend rfl λrow' e' z=>?_);rw[he] at e'
               cases e';rw[eqv_row.mpr z] at hE2
               cases hE2
           rw[A13 (by
            cases hc:unP ns ps with
            |nil=>exact absurd hc hu0
            |cons q r=>simp[PyData.eqv,PyData.eqvAll])]
           symm
           exact no "end" b7 hL7 hSt7 (.noend rfl λrow e=>absurd ((Pp hW).mpr ⟨row,e⟩) hu0)
         |_=>
           rw[A12 (by rfl)]
           symm
           exact no "shape" e13.but hL3' hSt (.shape (λx y A B e=>by unfold Kh at e;cases e) λes e=>by unfold Nl at e;cases e)
       obtain⟨d1,d2,d3,d4,rfl⟩:∃ d1 d2 d3 d4,dr=[d1,d2,d3,d4]:=by
        match dr,hl5 with
        | [d1,d2,d3,d4],_=>exact⟨d1,d2,d3,d4,rfl⟩
       obtain⟨v1,vr,rfl,i1,hLr⟩:=Ah hLr;obtain⟨v2,vr,rfl,i2,hLr⟩:=Ah hLr;obtain⟨v3,vr,rfl,i3,hLr⟩:=Ah hLr;obtain⟨v4,vr,rfl,i4,hLr⟩:=Ah hLr;have e:vr=[]:=by simpa only[L2.IsL] using hLr
       subst e;rw[if_neg (by intro z;have:=V.int.inj (of_decide_eq_true z);simp at this)]
       symm
       refine ⟨a,_,rfl,hS3,rfl,v0,_,rfl,v1,_,rfl,v2,_,rfl,v3,_,rfl,v4,[],rfl,rfl,?_⟩
       symm
       refine Tj (Is.mono e13 _ _ i1) ⟨_,rfl,?_⟩
       cases d1 with
       |str x=>
         have:=Is.str i1;subst this;rw [show ax6 (.str x)=true from rfl]
         symm
         refine Tj (Is.mono e13 _ _ i2) ⟨_,rfl,?_⟩
         cases d2 with
         |str y=>
           have:=Is.str i2;subst this;rw[show ax6 (.str y)=true from rfl]
           symm
           obtain⟨ux,kx⟩:=hk.els.all (.str x) (by simp);obtain⟨uy,ky⟩:=hk.els.all (.str y) (by simp);have layP:∀ q:Str×Str,(PyData.str q.1).canLay0=true->(PyData.str q.2).canLay0=true->(prD q).canLay0=true/\(prD q).depth<=100:=λq g1 g2=>⟨by unfold prD;simp only[PyData.canLay0,PyData.canLayAll0] at g1 g2 ⊢;simp[g1,g2],by unfold prD;simp[PyData.depth,PyData.depthAll]⟩;have hNu:NmP (unP ns ps):=λq hq'=>⟨hNm _ (Hd hq').1,hNm _ (Hd hq').2.1⟩
           have layU:PyData.canLayAll0 ((unP ns ps).map prD)=true:=by have q:=Nn hNu;unfold SeqAt.shaped at q;rw[A15] at q;simpa only[PyData.canLay0] using q.1
           have lst4:∀ {H':Hp},Same H3 H'->Is K H' (.list ((unP ns ps).map prD)) (.ref fp):=λe=>Is.of_lst (SqL.of (e _ _ h3)) (IsL.mono e _ _ hL3);apply ap0 (S:=λH'=>Same H3 H'/\UnT ns ps x y)
           . intro rest;refine Ap (A7 (by simp)) λa4 H4 ha4 e4 h4=>?_
             symm
             refine a07 (d:=prD (x,y)) (Mb (SqT.of h4)) (.inl (lst4 e4)) layU (layP _ kx.lay ky.lay).1 (layP (x,y) kx.lay ky.lay).2 ⟨_,rfl,?_⟩;rw[Xj]
             by_cases h1:(x,y)∈unP ns ps
             . rw[A0P h1];simp only[Bool.not_true,Bool.false_eq_true,if_false];exact rest H4 ⟨e4,(T1 hW.nd).mp (.inl h1)⟩
             rw[A0R h1]
             symm
             refine Ap (A7 (by simp)) λa5 H5 ha5 e5 h5=>?_
             symm
             have e35:=e4.trans e5;refine a07 (d:=prD (y,x)) (Mb (SqT.of h5)) (.inl (lst4 e35)) layU (layP _ ky.lay kx.lay).1 (layP (y,x) ky.lay kx.lay).2 ⟨_,rfl,?_⟩;rw[Xj]
             by_cases h2:(y,x)∈unP ns ps
             . rw[A0P h2];simp only[Bool.not_true,Bool.false_eq_true,if_false];exact rest H5 ⟨e35,(T1 hW.nd).mp (.inr h2)⟩
             rw[A0R h2]
             symm
             exact no "told" (e13.trans e35).but (hL3'.same e35) (e35.seqT hSt) (.told rfl λz=>((T1 hW.nd).mpr z).elim h1 h2)
           rintro H4 ⟨e4,hU⟩;obtain⟨hx,hy,hxy,hun⟩:=id hU;obtain⟨tps,htb⟩:=De hL;obtain⟨uA,hkA⟩:=hk.els.all d3 (by simp);obtain⟨uB,hkB⟩:=hk.els.all d4 (by simp)
           have more:∀ {x y:Str},x∈ns->y∈ns->NmP (ps++[(x,y)]):=fun {x y} hx hy q hq'=>by
            rcases A0E.mp hq' with g|g
            . exact hNp q g
            rw[A0G.mp g];exact⟨hNm _ hx,hNm _ hy⟩
           have e04:=e13.trans e4
           symm
           refine Jq (hI.hf_fz e04.fz) λnv hN=>?_
           symm
           refine Um (hI.hf_fz e04.fz) λpv hP=>?_
           symm
           refine Ap (A7 (by simp)) λt5 H5 ht5 e5 h5=>?_
           symm
           refine Ap (A7 (by simp)) λt6 H6 ht6 e6 h6=>?_;have hP6:=hP.ps_fz (e5.trans e6).fz;obtain⟨pa,xs,rfl,hS6,hL6⟩:=Is.tup hP6;have hxl:ps.length=xs.length:=by rw[<- IsL.length hL6,A01]
           refine Fu hS6 (SqT.of h6) (A7 (by simp;omega)) λp7 H7 e7 h7=>?_
           have hP7:Is K H7 (psD (ps++[(x,y)])) (.ref p7):=by refine Is.of_tup h7 ?_;rw[A0N];exact IsL.append (IsL.mono e7 _ _ hL6) (.one ((Mb (SqT.of (e6 _ _ h5))).pr_fz e7.fz))
           have e57:=(e5.trans e6).trans e7
           symm
           refine Ap (A7 (by simp)) λt8 H8 ht8 e8 h8=>?_;have hH8:Is K H8 (hfD ns (ps++[(x,y)])) (.ref t8):=Zk (SqT.of h8) (hN.nm_fz (e57.trans e8).fz) (hP7.ps_fz e8.fz)
           symm
           refine Ap (A7 (by simp)) λt9 H9 ht9 e9 h9=>?_;have e09:=((e04.trans e57).trans e8).trans e9;refine Fu (e09.seqT hS) (SqT.of h9) (A7 (by simp only[List.length_singleton,List.length_map];omega)) λt10 H10 e10 h10'=>?_;have e010:=e09.trans e10
           symm
           refine⟨.ref t8,v3,t10,js++[0],ns,_,d3,n'',_,_,rfl,hH8.hf_fz (e9.trans e10).fz,hW.saidP ∅ hx hy hxy hun,hNm,more hx hy,h10,Is.mono e010 _ _ i3,hkA,(by rw[A0N];exact h10'),by omega,by omega,by rw[A04,A0J];omega,by rw[A04,A0J];omega,hL.same e010,λR1 u1 H11 j1 b11 hL11 hR1=>?_⟩;have b011:ExtBut P_jud H H11:=e010.but.trans b11
           cases R1 with
           |no z q=>
             obtain⟨ra,rxs,rfl,hRS,hRL⟩:=Is.tup hR1;obtain⟨w0,wr,rfl,g0,_⟩:=Ah hRL;have:=Is.str g0;subst this
             symm
             refine Bg (v:=.str z) hRS (show atI (V.str z :: wr) ((0:Nat):Int)=_ from Bz rfl) ?_
             symm
             rw[A12 (by rw[A0R λg=>j1.ne _ _ rfl (V.str.inj g)];rfl)]
             symm
             exact kk (.no z q) _ H11 (.first rfl hU j1) b011 hL11 hR1
           |deep m1=>
             have fz11:Fz H H11:=Y0 b011 htb
             have hA1:∃ ra,u1 = .ref ra/\SqT K H11 ra [.str "deep",.int m1]:=by
              obtain⟨ra,rxs,rfl,hRS,hRL⟩:=Is.tup hR1;obtain⟨w0,wr,rfl,g0,hRL⟩:=Ah hRL;obtain⟨w1,wr,rfl,g1,hRL⟩:=Ah hRL;have e:wr=[]:=by simpa only[L2.IsL] using hRL
              have:=Is.str g0;have g1':w1 = .int m1:=by simpa only[Is] using g1
              subst e this g1';exact⟨ra,rfl,hRS⟩
             obtain⟨ra,rfl,hRS⟩:=hA1
             symm
             refine Bg hRS (by rfl) ?_
             symm
             refine Jq (hI.hf_fz fz11) λnv' hN'=>?_
             symm
             refine Um (hI.hf_fz fz11) λpv' hP'=>?_
             symm
             refine Ap (A7 (by simp)) λt12 H12 ht12 e12' h12=>?_
             symm
             refine Ap (A7 (by simp)) λt13 H13 ht13 e13' h13=>?_;have hP13:=hP'.ps_fz (e12'.trans e13').fz;obtain⟨pa',xs',rfl,hS13,hL13⟩:=Is.tup hP13;have hxl':ps.length=xs'.length:=by rw[<- IsL.length hL13,A01]
             refine Fu hS13 (SqT.of h13) (A7 (by simp;omega)) λp14 H14 e14 h14=>?_
             have hP14:Is K H14 (psD (ps++[(y,x)])) (.ref p14):=by refine Is.of_tup h14 ?_;rw[A0N];exact IsL.append (IsL.mono e14 _ _ hL13) (.one ((Mb (SqT.of (e13' _ _ h12))).pr_fz e14.fz))
             have e1114:=(e12'.trans e13').trans e14
             symm
             refine Ap (A7 (by simp)) λt15 H15 ht15 e15 h15=>?_;have hH15:Is K H15 (hfD ns (ps++[(y,x)])) (.ref t15):=Zk (SqT.of h15) (hN'.nm_fz (e1114.trans e15).fz) (hP14.ps_fz e15.fz)
             symm
             refine Ap (A7 (by simp)) λt16 H16 ht16 e16 h16=>?_;have e1116:=(e1114.trans e15).trans e16;refine Fu (e1116.seqT (fz11.seq hS)) (SqT.of h16) (A7 (by simp only[List.length_singleton,List.length_map];omega)) λt17 H17 e17 h17=>?_;have e1117:=e1116.trans e17
             symm
             refine ⟨.ref t15,v4,t17,js++[1],ns,_,d4,n'',_,_,rfl,hH15.hf_fz (e16.trans e17).fz,hW.saidP ∅ hy hx (Ne.symm hxy) (Go hun),hNm,more hy hx,h10,Is.mono e1117 _ _ (L9 b011 htb i4),hkB,(by rw[A0N];exact h17),by omega,by omega,by rw[A04,A0J];omega,by rw[A04,A0J];omega,hL11.same e1117,λR2 u2 H18 j2 b18 hL18 hR2=>?_⟩;have b1118:ExtBut P_jud H11 H18:=e1117.but.trans b18;have b018:=b011.trans b1118
             cases R2 with
             |no z q=>
               obtain⟨ra2,rxs,rfl,hRS2,hRL⟩:=Is.tup hR2;obtain⟨w0,wr,rfl,g0,_⟩:=Ah hRL;have:=Is.str g0;subst this
               symm
               refine Bg (v:=.str z) hRS2 (show atI (V.str z :: wr) ((0:Nat):Int)=_ from Bz rfl) ?_
               symm
               rw[A12 (by rw[A0R λg=>j2.ne _ _ rfl (V.str.inj g)];rfl)]
               symm
               exact kk (.no z q) _ H18 (.second rfl hU j1 j2) b018 hL18 hR2
             |deep m2=>
               obtain⟨tps1,htb1⟩:=De hL11;have fz18:Fz H11 H18:=Y0 b1118 htb1
               have hA2:∃ ra,u2 = .ref ra/\SqT K H18 ra [.str "deep",.int m2]:=by
                obtain⟨ra,rxs,rfl,hRS,hRL⟩:=Is.tup hR2;obtain⟨w0,wr,rfl,g0,hRL⟩:=Ah hRL;obtain⟨w1,wr,rfl,g1,hRL⟩:=Ah hRL;have e:wr=[]:=by simpa only[L2.IsL] using hRL
                have:=Is.str g0;have g1':w1 = .int m2:=by simpa only[Is] using g1
                subst e this g1';exact⟨ra,rfl,hRS⟩
               obtain⟨ra2,rfl,hRS2⟩:=hA2
               symm
               refine Bg hRS2 (by rfl) ?_
               symm
               refine Bg (fz18.seq hRS) (by rfl) ?_
               symm
               refine Bg hRS2 (by rfl) ?_
               symm
               refine⟨_,_,rfl,?_⟩
               have hmx:(1+(if(m2:Int)>(m1:Int) then(m2:Int) else(m1:Int)):Int)=((1+max m1 m2:Nat):Int):=by split<;>omega
               show Px K (V.int 1) (V.int (if(m2:Int)>(m1:Int) then(m2:Int) else(m1:Int))) H18 _
               symm
               rw[hmx];refine Ap (A7 (by simp)) λt19 H19 ht19 e19 h19=>?_;exact kk (.deep (1+max m1 m2)) _ H19 (.ask rfl hU j1 j2) (b018.same e19) (hL18.same e19) (Is.of_tup (SqT.of h19) (.cons (by simp only[Is]) (.one (by simp only[Is]))))
         |_=>
           rw[A12 (by rfl)]
           symm
           exact no "shape" e13.but hL3' hSt (.shape (λx y A B e=>by unfold Kh at e;cases e) λes e=>by unfold Nl at e;cases e)
       |_=>
         rw[A12 (by rfl),A12 rfl]
         symm
         exact no "shape" e13.but hL3' hSt (.shape (λx y A B e=>by unfold Kh at e;cases e) λes e=>by unfold Nl at e;cases e)
   have hsh:Wd ns ps (.tuple ds) (some "shape"):=.shape (λx y A B e=>h25 (.inr (by unfold Kh at e;cases e;rfl))) λes e=>h25 (.inl (by unfold Nl at e;cases e;rfl));rw[if_pos (by simpa using not_or.mp h25)]
   symm
   exact no "shape" e1.but (hL.same e1) (e1.seqT hS) hsh
 |_=>
   rw[A12 (by rfl),A12 rfl]
   symm
   exact no "shape" (Same.refl _).but hL hS (.shape (λx y A B e=>by unfold Kh at e;cases e) λes e=>by unfold Nl at e;cases e)
theorem Mt {f:Addr}{fd:FuncData}(F:Fun K "_law_judged" "_law_judged" By f fd)(T:Gg mg){P_jud:Addr}{My:Addr}(lb:as8 K mg base My P_jud)(hcd:fd.code = .ref My)(Bo:Fnd P w K mg base 1 "_law_behind" ["_law_half_here","_law_name"] (Cy K))(Eb:Fnd P w K mg base 2 "_law_untold" ["_law_half_here"] (Es K))(hm:mg "_law_judged" = some (.ref f))(hk:W.keepIn K (.ref f)=true)(hb:Binds K fd ["_law_half_here","_law_thing","_law_path"] []):FnOk P w K mg base CX0 130 f fd ["_law_half_here","_law_thing","_law_path"] (Er P_jud K):=by
 have h:∀ n:Nat,FnOk P w K mg base CX0 (5+n) f fd ["_law_half_here","_law_thing","_law_path"] (Cc P_jud K n):=λn=>by
  induction n with
  |zero=>exact FnOk.void Im
  |succ n ih=>exact Lu F T lb hcd Bo Eb n ⟨f,fd,ih,hm,hk,hb⟩
 exact h 125
local macro_rules | `(tactic| walk_at "rq1") => L2.mAlts "i_nxS"
theorem ac5 {K:W.Frag} {C B:Addr} (c:XC K C) (hm:Fx K C B=true):W.kitOne K (.ref C) (.ref C)=some true:=by rw[X9 c hm c,A4C,Bool.true_or]
theorem Uo {K:W.Frag}{C B:Addr}(c:XC K C)(hm:Fx K C B=true):∀ cs:List Addr,(∀ D∈cs,XC K D/\C≠D/\D≠B)->W.kitAny K (.ref C) (cs.map Value.ref)=some false
 | [],_=>rfl
 |D :: cs,h=>by obtain⟨d,h1,h2⟩:=h D (by simp);rw[A0Q];unfold W.kitAny;rw[X9 c hm d,A0W.mpr h1,A0W.mpr h2];exact Uo c hm cs λE hE=>h E (by simp[hE])
theorem at3 {H:Hp}{a C:Addr}{f:Str×V}{fs:List (Str×V)}(h:ExB false H a C (f :: fs)):∃ dx,H a=some (exG false a C (some dx)):=by
 rcases h with ⟨e,_⟩|⟨dx,_,h1,_⟩
 . cases e
 exact⟨dx,h1⟩
theorem at5 {K:W.Frag}{C B:Addr}(hm:Fx K C B=true):W.mroIn K C (.ref B)=some true:=by obtain⟨cd,hc,hx⟩:=W.any_some hm;unfold W.mroIn;rw[hc,Option.bind_some,beq_iff_eq.mp hx,if_neg (by simp),List.contains_cons,List.contains_cons,beq_self_eq_true,Bool.true_or,Bool.or_true]
theorem len5 {σ:L2.St}(h:σ.length=5):∃ a b c d e,σ=[a,b,c,d,e]:=by
 match σ,h with
 | [a,b,c,d,e],_=>exact⟨a,b,c,d,e,rfl⟩
def Cp (P:Addr)(K:PySem.W.Frag):Sp:=λvs H Q _=>∃ hv v ns ps D n w W,vs=[hv,v]/\Is K H (hfD ns ps) hv/\HalfW ns ps/\(∀ z∈ns,I0 z=true)/\ns.length<=10/\Is K H D v/\Dk n w W D/\n<=60/\ps.length+n<=900/\LmR P H/\∀ R u H',Jd ns ps D [] R->ExtBut P H H'->LmR P H'->Is K H' (a34 R) u->Q u H'
theorem K9 {f:Addr}{fd:FuncData}(F:Fun K "_law_plan_told" "_law_plan_told" Bj f fd)(T:Gg mg){P_row:Addr}{C_HalfError:Addr}{C_NoHalf:Addr}{C_NoText:Addr}{C_NoName:Addr}{C_TooMany:Addr}{C_NoCover:Addr}{C_NoPlace:Addr}{C_NoOrder:Addr}{C_NoJoin:Addr}{C_Clash:Addr}{C_NoPaper:Addr}{C_NoPlan:Addr}{C_NoBound:Addr}{C_NoSaying:Addr}{C_NoMore:Addr}(x_HalfError:Cr K mg C_HalfError C_HalfError)(x_NoHalf:Ni K mg C_NoHalf C_HalfError)(x_NoText:Nm K mg C_NoText C_HalfError)(x_NoName:G9 K mg C_NoName C_HalfError)(x_TooMany:Lz K mg C_TooMany C_HalfError)(x_NoCover:Lr K mg C_NoCover C_HalfError)(x_NoPlace:Lq K mg C_NoPlace C_HalfError)(x_NoOrder:M2 K mg C_NoOrder C_HalfError)(x_NoJoin:Nf K mg C_NoJoin C_HalfError)(x_Clash:Rf K mg C_Clash C_HalfError)(x_NoPaper:Li K mg C_NoPaper C_HalfError)(x_NoPlan:Fe K mg C_NoPlan C_HalfError)(x_NoBound:Ma K mg C_NoBound C_HalfError)(x_NoSaying:Ks K mg C_NoSaying C_HalfError)(x_NoMore:Nu K mg C_NoMore C_HalfError)(ndX:([C_HalfError,C_Clash,C_NoBound,C_NoCover,C_NoHalf,C_NoJoin,C_NoMore,C_NoName,C_NoOrder,C_NoPaper,C_NoPlace,C_NoPlan,C_NoSaying,C_NoText,C_TooMany]:List Addr).Nodup)(J6:ak6 P w K mg base 130 "lets_plan" ["half","plan"] (Gm P_row C_NoPlan K)):FnOk P w K mg base CX0 131 f fd ["_law_half_here","_law_thing"] (Cp P_row K):=by
 refine F.ok Az (λvs H Q E h=>?_) (λcdv A outer s H vs Q E hr h=>?_)
 . obtain⟨hv,v,ns,ps,D,n,w,W,rfl,_⟩:=h;rfl
 obtain⟨hv,v,ns,ps,D,n,w,W,rfl,hI,hW,hNm,h10,hD,hk,hn,hpl,hL,k⟩:=h;have hu:=Cs hr;have hq:=Cu hr
 have all:∀ cs:List Addr,(∀ D∈cs,XC K D/\D∈[C_Clash,C_NoBound,C_NoCover,C_NoHalf,C_NoJoin,C_NoMore,C_NoName,C_NoOrder,C_NoPaper,C_NoPlace,C_NoSaying,C_NoText,C_TooMany])->PySem.W.kitAny K (.ref C_NoPlan) (cs.map Value.ref)=some false:=λcs h=>Uo x_NoPlan.xc x_NoPlan.mr cs λD hD=>by
  obtain⟨h1,h2⟩:=h D hD;refine⟨h1,λe=>?_,λe=>?_⟩
  . subst e;simp at ndX h2;rcases h2 with e|e|e|e|e|e|e|e|e|e|e|e|e<;>simp[e] at ndX
  subst e;simp at ndX h2;rcases h2 with e|e|e|e|e|e|e|e|e|e|e|e|e<;>simp[e] at ndX
 clear ndX;obtain⟨xG,hG⟩:∃ G:Addr->Hp->Prop,G=λa H'=>∃ z q t,Jd ns ps D [] (.no z q)/\ExtBut P_row H H'/\LmR P_row H'/\SqT K H' t (q.map V.int)/\ExB false H' a C_NoPlan [("word",.str z),("path",.ref t)]:=⟨_,rfl⟩
 with_reducible refine⟨_,(A2 (Aa (i:=2) Az.nd ⋯ (by eq_refl) Uu)
  (A2 (ao1 (i:=3) xG Az.nd ⋯ ⋯ ⋯ x_HalfError.gl x_HalfError.xc ⋯ ⋯ ⋯ (λ_ _ hps=>(A8 (Aa (i:=2) Az.nd ⋯ (by eq_refl) (Ao (A0 Al (A0 (To J6 (hr.mono nofun) ⋯ hps (A0 (pv 0) (A0 (pv 1) A1))) A1))))))
  (λ_ _=>(A2 (Aa (i:=2) Az.nd ⋯ (by eq_refl) Al)
  (A2 (Aa (i:=4) Az.nd ⋯ (by eq_refl) (Ac (Jz (K:=K)) ⋯ T.b_isinstance PyProof.Rows.Boot.«isinstance» (A0 (pv 3) (A0 (Ao (A0 (K1 (v:=.ref C_Clash) ⋯ ⟨_,x_Clash.gl,⋯⟩) (A0 (K1 (v:=.ref C_NoBound) ⋯ ⟨_,x_NoBound.gl,⋯⟩) (A0 (K1 (v:=.ref C_NoCover) ⋯ ⟨_,x_NoCover.gl,⋯⟩) (A0 (K1 (v:=.ref C_NoHalf) ⋯ ⟨_,x_NoHalf.gl,⋯⟩) (A0 (K1 (v:=.ref C_NoJoin) ⋯ ⟨_,x_NoJoin.gl,⋯⟩) (A0 (K1 (v:=.ref C_NoMore) ⋯ ⟨_,x_NoMore.gl,⋯⟩) (A0 (K1 (v:=.ref C_NoName) ⋯ ⟨_,x_NoName.gl,⋯⟩) (A0 (K1 (v:=.ref C_NoOrder) ⋯ ⟨_,x_NoOrder.gl,⋯⟩) (A0 (K1 (v:=.ref C_NoPaper) ⋯ ⟨_,x_NoPaper.gl,⋯⟩) A1)))))))))) A1))))
  (A2 (Aa (i:=4) Az.nd ⋯ (by eq_refl) (an9 (pv 4) (an9 (Ac (Jz (K:=K)) ⋯ T.b_isinstance PyProof.Rows.Boot.«isinstance» (A0 (pv 3) (A0 (Ao (A0 (K1 (v:=.ref C_NoPlace) ⋯ ⟨_,x_NoPlace.gl,⋯⟩) (A0 (K1 (v:=.ref C_NoSaying) ⋯ ⟨_,x_NoSaying.gl,⋯⟩) (A0 (K1 (v:=.ref C_NoText) ⋯ ⟨_,x_NoText.gl,⋯⟩) (A0 (K1 (v:=.ref C_TooMany) ⋯ ⟨_,x_TooMany.gl,⋯⟩) A1))))) A1))) (Nh (al3 (Ac (Jz (K:=K)) ⋯ T.b_isinstance PyProof.Rows.Boot.«isinstance» (A0 (pv 3) (A0 (Gw (v:=.ty "ValueError") ⋯ T.b_ValueError PyProof.Rows.Boot.«ValueError» ⋯) A1))))))))
  (A8 (Cd (PW.pt (Kx (Hr (Ac (Jz (K:=K)) ⋯ T.b_isinstance PyProof.Rows.Boot.«isinstance» (A0 (pv 3) (A0 (K1 (v:=.ref C_NoPlan) ⋯ ⟨_,x_NoPlan.gl,⋯⟩) A1)))) (Hf (Ll (Hr (pv 4)))))) (A8 (Aa (i:=2) Az.nd ⋯ (by eq_refl) (Ao (A0 (Tf (K:=K) (pv 3) ⋯) (A0 (Tf (K:=K) (pv 3) ⋯) A1))))) Aw)))))))
  (A8 (As (pv 2))))),?_⟩
 symm
 refine⟨?_,λa H' σ' hl hg=>?_⟩
 . symm
   refine⟨hv,v,ns,ps,D,n,w,W,rfl,hI,hW,hNm,h10,hD,hk,hn,hpl,hL,λm H1 j b1 hL1=>?_,λz q a t H1 j b1 hL1 hS1 hE1=>⟨a,rfl,by rw[hG];exact⟨z,q,t,j,b1,hL1,hS1,hE1⟩⟩⟩
   symm
   refine Ap (A7 (by simp)) λt2 H2 ht2 e2 h2=>?_
   symm
   exact k (.deep m) _ H2 j (b1.same e2) (hL1.same e2) (Is.of_tup (SqT.of h2) (.cons (by simp only[Is]) (.one (by simp only[Is]))))
 rw[hG] at hg;obtain⟨z,q,t,j,b1,hL1,hS1,hE⟩:=hg;obtain⟨y0,y1,y2,y3,y4,rfl⟩:=len5 hl;obtain⟨dx,ha⟩:=at3 hE;refine⟨⟨C_NoPlan,some dx,ha,x_NoPlan.xc,at5 x_NoPlan.mr⟩,?_⟩
 symm
 refine Ap (A7 (by simp)) λt1 H1 ht1 e2 h1=>?_;have hE1:=hE.same e2
 symm
 refine a81 (cs:=[C_Clash,C_NoBound,C_NoCover,C_NoHalf,C_NoJoin,C_NoMore,C_NoName,C_NoOrder,C_NoPaper]) hE1 x_NoPlan.xc h1 (all _ λD hD=>?_) ?_
 . simp only[List.mem_cons,List.not_mem_nil,or_false] at hD;refine⟨?_,?_⟩
   . rcases hD with rfl | rfl | rfl | rfl | rfl | rfl | rfl | rfl | rfl<;>first | exact x_Clash.xc | exact x_NoBound.xc | exact x_NoCover.xc | exact x_NoHalf.xc | exact x_NoJoin.xc | exact x_NoMore.xc | exact x_NoName.xc | exact x_NoOrder.xc | exact x_NoPaper.xc
   rcases hD with rfl|rfl|rfl|rfl|rfl|rfl|rfl|rfl|rfl<;>simp
 symm
 refine Ap (A7 (by simp)) λt2 H2 ht2 e3 h2=>?_;have hE2:=hE1.same e3
 symm
 refine a81 (cs:=[C_NoPlace,C_NoSaying,C_NoText,C_TooMany]) hE2 x_NoPlan.xc h2 (all _ λD hD=>?_) ?_
 . simp only[List.mem_cons,List.not_mem_nil,or_false] at hD;refine⟨?_,?_⟩
   . rcases hD with rfl | rfl | rfl | rfl<;>first | exact x_NoPlace.xc | exact x_NoSaying.xc | exact x_NoText.xc | exact x_TooMany.xc
   rcases hD with rfl|rfl|rfl|rfl<;>simp
 symm
 refine ap3 hE2 x_NoPlan.xc (ag5 x_NoPlan.mr) ?_
 symm
 refine az3 hE2 x_NoPlan.xc (ac5 x_NoPlan.xc x_NoPlan.mr) ?_
 symm
 rw[A12 (by rfl)]
 symm
 refine a92 hE2 x_NoPlan.xc x_NoPlan.n_word (show _=some (V.str z) from rfl) ?_
 symm
 refine a92 hE2 x_NoPlan.xc x_NoPlan.n_path (show _=some (V.ref t) from rfl) ?_
 symm
 refine Ap (A7 (by simp)) λt3 H3 ht3 e4 h3=>?_
 symm
 have e24:=(e2.trans e3).trans e4;exact k (.no z q) _ H3 j (b1.same e24) (hL1.same e24) (Is.of_tup (SqT.of h3) (.cons (by simp only[Is]) (.one (ao6 (e24.seqT hS1)))))
theorem Wr {k:Nat}:∀ {ds:List PyData},(∀ e∈ds,e.weight<=k)->PyData.weightAll ds<=ds.length*(k+1)
 | [],_=>by simp only[PyData.weightAll];omega
 |d :: ds,h=>by have h1:=h d (by simp);have h2:=Wr (ds:=ds) λe he=>h e (by simp[he]);simp only[PyData.weightAll,List.length_cons,Nat.succ_mul];omega
theorem Yg {z:Str}(h:I0 z=true):Asc z:=λc hc=>by unfold I0 at h;rw[A15,A26] at h;have:=h.2 c hc;unfold Kw at this;rw[A15,A1Y,A1Y] at this;omega
theorem af6 {p W:Nat}{ns:List Str}(h:∀ z∈ns,I0 z=true)(hl:ns.length<=W):Els p (ns.length*9) W (ns.map PyData.str):=by
 refine⟨λe he=>?_,?_,by simpa using hl⟩
 . obtain⟨z,hz,rfl⟩:=A0K.mp he;exact⟨8,Jx (Yg (h z hz)) (Tu (h z hz))⟩
 have:=Wr (k:=8) (ds:=ns.map PyData.str) λe he=>by obtain⟨z,hz,rfl⟩:=A0K.mp he;simp only[PyData.weight];exact Tu (h z hz)
 simpa using this
structure au4 (ns:List Str)(ps:List (Str×Str)):Prop where
 w:HalfW ns ps
 nm:∀ z∈ns,I0 z=true
 few:ns.length<=10
 le:ps.length<=60
 cn:cnt (Ay ps) ns<=120
theorem Lo {ps ps':List (Str×Str)}(h:∀ p,p∈ps'->p∈ps){x y:Str}(g:Way ps' x y):Way ps x y:=by
 induction g with
 |one e=>exact .one (h _ e)
 |cons e _ ih=>exact .cons (h _ e) ih
theorem Sy {b:Str->Str->Bool}:∀(n:Nat) (L:List Str),L.length=n->L.Nodup->cnt b L<=fac n
 |0,L,h,_=>by rw[A1E.mp h,L2.cnt_nil];exact A06 _
 |n+1,L,h,hn=>by
   rw[Md hn (by intro z;rw[z] at h;cases h)];have h1:((frF b L).map λx=>cnt b (Bq L x)).sum<=((frF b L).map λ_=>fac n).sum:=Z7 λx hx=>Sy n (Bq L x) (by have:=Dy hn (mem_frF.mp hx).1;omega) (Ce hn x);have h2:((frF b L).map λ_=>fac n).sum=(frF b L).length*fac n:=by rw[List.map_const',List.sum_replicate_nat]
   have h3:(frF b L).length<=n+1:=by rw[<- h];exact A1Q _ _
   have h4:=Nat.mul_le_mul_right (fac n) h3;have h5:fac (n+1)=(n+1)*fac n:=by first | rfl | (show fac n*(n+1)=_;exact Nat.mul_comm _ _)
   omega
theorem ao2 {ns:List Str}{ps:List (Str×Str)}(h:Half ns ps)(h5:ns.length<=5):au4 ns ps:=by refine⟨h.w,h.names.2,by omega,h.le,A0L (Sy _ ns rfl h.w.nd) ?_⟩;rcases(show ns.length=0\/ns.length=1\/ns.length=2\/ns.length=3\/ns.length=4\/ns.length=5 by omega) with e|e|e|e|e|e<;>rw[e]<;>decide
structure Lev (done lev:List Str)(S:List (Str×Str))(many:Nat):Prop where
 mem:∀ p∈S,p.1∈done/\p.2∈done
 sub:∀ e∈lev,e∈done
 up:∀ d∈done,d∈lev\/∀ e∈lev,Way S d e
 ne:lev=[]->done=[]
 irr:∀ x,¬ Way S x x
 cn:cnt (Ay S) done<=many
 three:lev.length<=3
 len:S.length<=3*done.length
theorem Pg {S:List (Str×Str)}{done:List Str}(h:∀ p∈S,p.1∈done/\p.2∈done){x y:Str}(g:Way S x y):x∈done/\y∈done:=by
 induction g with
 |one e=>exact h _ e
 |cons e _ ih=>exact⟨(h _ e).1,ih.2⟩
theorem a77:Lev [] [] [] 1:=⟨λp h=>(by cases h),λe h=>(by cases h),λd h=>(by cases h),λ_=>rfl,λx g=>(by have:=(Pg (done:=[]) (λp h=>(by cases h)) g).1;cases this),Nat.le_refl _,by simp,by simp⟩
theorem ae9 {done lev fresh:List Str}{S:List (Str×Str)}{many:Nat}(h:Lev done lev S many)(hn:(done++fresh).Nodup){x y:Str}:Way (S++crs lev fresh) x y↔Way S x y\/(x∈done/\y∈fresh):=by
 have dis:∀ z,z∈done->z∈fresh->False:=λz h1 h2=>(A1G.mp hn).2.2 z h1 z h2 rfl;constructor
 . intro g
   induction g with
   |one e=>
     rcases A0E.mp e with e|e
     . exact .inl (.one e)
     obtain⟨h1,h2⟩:=mem_crs.mp e;exact .inr ⟨h.sub _ h1,h2⟩
   |cons e _ ih=>
     rcases A0E.mp e with e|e
     . rcases ih with ih|ih
       . exact .inl (.cons e ih)
       exact .inr ⟨(h.mem _ e).1,ih.2⟩
     obtain⟨h1,h2⟩:=mem_crs.mp e;rcases ih with ih|ih
     . exact(dis _ (Pg h.mem ih).1 h2).elim
     exact(dis _ ih.1 h2).elim
 rintro(g|⟨h1,h2⟩)
 . exact Lo (λp hp=>A0T _ hp) g
 rcases h.up x h1 with q|q
 . exact .one (A0F _ (mem_crs.mpr ⟨q,h2⟩))
 cases hl:lev with
 |nil=>
   rw[h.ne hl] at h1
   cases h1
 |cons e es=>
   have he:e∈lev:=by rw[hl];exact A0C ..
   rw[<- hl];exact(Lo (λp hp=>A0T _ hp) (q e he)).trans (.one (A0F _ (mem_crs.mpr ⟨he,h2⟩)))
theorem Lev.step {done lev fresh:List Str}{S:List (Str×Str)}{many:Nat}(h:Lev done lev S many)(hn:(done++fresh).Nodup)(h0:fresh≠[])(h3:fresh.length<=3):Lev (done++fresh) fresh (S++crs lev fresh) (many*fac fresh.length):=by
 have hw:=λx y=>ae9 h hn (x:=x) (y:=y);have dis:∀ z,z∈done->z∈fresh->False:=λz h1 h2=>(A1G.mp hn).2.2 z h1 z h2 rfl;refine⟨λp hp=>?_,λe he=>A0F _ he,λd hd=>?_,λz=>absurd z h0,λx g=>?_,?_,h3,?_⟩
 . rcases A0E.mp hp with hp|hp
   . exact⟨A0T _ (h.mem p hp).1,A0T _ (h.mem p hp).2⟩
   obtain⟨a,b⟩:=mem_crs.mp hp;exact⟨A0T _ (h.sub _ a),A0F _ b⟩
 . rcases A0E.mp hd with hd|hd
   . exact .inr λe he=>(hw d e).mpr (.inr ⟨hd,he⟩)
   exact .inl hd
 . rcases(hw x x).mp g with g|g
   . exact h.irr x g
   exact dis x g.1 g.2
 . have hb:∀ {x y:Str},Ay (S++crs lev fresh) x y=true↔Way S x y\/(x∈done/\y∈fresh):=wayB_iff.trans (hw _ _);rw [Rl done.length rfl hn λx hx y hy=>⟨hb.mpr (.inr ⟨hx,hy⟩),?_⟩]
   . have e1:cnt (Ay (S++crs lev fresh)) done=cnt (Ay S) done:=Sf done.length rfl (A1G.mp hn).1 λx hx y hy=>by
      cases e:Ay S x y with
      |true=>exact hb.mpr (.inl (wayB_iff.mp e))
      |false=>
        cases e':Ay (S++crs lev fresh) x y with
        |false=>rfl
        |true=>
          rcases hb.mp e' with g|g
          . rw[wayB_iff.mpr g] at e;cases e
          exact(dis y hy g.2).elim
     rw[e1];exact A2B h.cn (Sy _ fresh rfl (A1G.mp hn).2.1)
   cases e:Ay (S++crs lev fresh) y x with
   |false=>rfl
   |true=>
     rcases hb.mp e with g|g
     . exact(dis y (Pg h.mem g).1 hy).elim
     exact(dis y g.1 hy).elim
 have:=h.len;have h4:=Nat.mul_le_mul_right fresh.length h.three;rw[A04,Xz,A04];omega
def Iz (K:W.Frag):Sp:=λvs H Q _=>∃ f l,vs=[.ref f]/\Feed H f l/\∀ v ns ps H',ExtBut f H H'->Feed H' f l->Is K H' (hfD ns ps) v->au4 ns ps->Q v H'
theorem So {f:Addr}{fd:FuncData}(F:Fun K "_law_few" "_law_few" Fh f fd)(T:Gg mg)(A4:Fnd P w K mg base 1 "_law_draw" ["_law_feed_here","_law_many"] (Aq K))(Bn:Fnd P w K mg base 2 "_law_names" ["_law_feed_here","_law_many"] (Dv K))(Ak:Fnd P w K mg base 2 "_law_shuffled" ["_law_feed_here","_law_some"] (B9 K))(J5:Fnd P w K mg base 4 "_law_half" ["_law_feed_here","_law_most"] (Hu K)):FnOk P w K mg base CX0 5 f fd ["_law_feed_here"] (Iz K):=by
 refine F.ok B3 (λvs H Q E h=>?_) (λcdv A outer s H vs Q E hr h=>?_)
 . obtain⟨f,l,rfl,_⟩:=h;rfl
 obtain⟨f,l,rfl,hF,k⟩:=h;have hu:=Cs hr;have hq:=Cu hr
 with_reducible refine⟨_,(A2 (Cd (Af (Bx (K:=K) hq) (An A4 (hr.mono nofun) ⋯ (A0 (pv 0) (A0 A3 A1))) A3 (Av _)) (A8 (As (An J5 (hr.mono nofun) ⋯ (A0 (pv 0) (A0 A3 A1))))) Aw)
  (A2 (Aa (i:=1) B3.nd ⋯ (by eq_refl) (An Bn (hr.mono nofun) ⋯ (A0 (pv 0) (A0 (An A4 (hr.mono nofun) ⋯ (A0 (pv 0) (A0 A3 A1))) A1))))
  (A2 (Aa (i:=2) B3.nd ⋯ (by eq_refl) (An Ak (hr.mono nofun) ⋯ (A0 (pv 0) (A0 (pv 1) A1))))
  (A2 (Aa (i:=3) B3.nd ⋯ (by eq_refl) (Bc A1))
  (A2 (Aa (i:=4) B3.nd ⋯ (by eq_refl) (Bc A1))
  (A2 (Aa (i:=5) B3.nd ⋯ (by eq_refl) A3)
  (A2 (Th A11 (Af (Iv (K:=K) hq) (pv 2) (Bc A1) (Av _))
  (A2 (Aa (i:=6) B3.nd ⋯ (by eq_refl) (Ac (Zr ⋯) ⋯ T.b_min PyProof.Rows.Boot.«min» (A0 (Ac (Au (K:=K)) ⋯ T.b_len PyProof.Rows.Boot.«len» (A0 (pv 2) A1)) (A0 (Ae (A6 (K:=K) hu) (Bc (A0 A3 (A0 A3 (A0 A3 (A0 A3 A1))))) (An A4 (hr.mono nofun) ⋯ (A0 (pv 0) (A0 A3 A1))) (by ac_rfl)) A1))))
  (A2 (Cd (Af a51 (Aj En (pv 5) (Ae (A6 (K:=K) hu) (Bc (A0 A3 (A0 A3 (A0 A3 (A0 A3 A1))))) (pv 6) (by ac_rfl))) A3 (Av _)) (A8 (Aa (i:=6) B3.nd ⋯ (by eq_refl) A3)) Aw)
  (A2 (Aa (i:=5) B3.nd ⋯ (by eq_refl) (Aj En (pv 5) (Ae (A6 (K:=K) hu) (Bc (A0 A3 (A0 A3 (A0 A3 (A0 A3 A1))))) (pv 6) (by ac_rfl))))
  (A2 (Aa (i:=7) B3.nd ⋯ (by eq_refl) (B4 (Mh (K:=K)) (pv 2) Ca (B6 (pv 6))))
  (A2 (Aa (i:=2) B3.nd ⋯ (by eq_refl) (B4 (Mh (K:=K)) (pv 2) (B6 (pv 6)) Ca))
  (A2 (Du A11 ⋯ (Bp (K:=K) hu (pv 3)) (Ad (i:=8) B3.nd ⋯ (by with_unfolding_all exact A3P rfl))
  (A8 (Aa (i:=4) B3.nd ⋯ (by eq_refl) (Aj (Ab (K:=K)) (pv 4) (Fq ["_law_other"] ["_law_one"] [8] ⋯ ⋯ ⋯ (Bp (K:=K) hu (pv 7)) (λ_ _ _ _=>(Ad (i:=0) (by with_unfolding_all (show(["_law_other","_law_one"]:List Str).Nodup;decide +kernel)) ⋯ (by eq_refl))) (Ct nofun) (λ_ _ _ _=>Gu) (λ_ _ _ _=>(Ao (A0 (pv 1) (A0 (pv 0) A1)))))))))
  (A8 (Aa (i:=3) B3.nd ⋯ (by eq_refl) (pv 7))))))))))
  (A8 (As (Ao (A0 (Ba (C0 (K:=K)) ⋯ T.b_tuple PyProof.Rows.Boot.«tuple» (A0 (pv 1) A1)) (A0 (Ba (C0 (K:=K)) ⋯ T.b_tuple PyProof.Rows.Boot.«tuple» (A0 (An Ak (hr.mono nofun) ⋯ (A0 (pv 0) (A0 (pv 4) A1))) A1)) A1)))))))))))),?_⟩
 symm
 refine⟨f,l,_,rfl,hF,by omega,by omega,λu H1 hu0 hu1 e1 hF1=>?_⟩
 symm
 refine Ly (λhc=>?_) (λhc=>?_)
 . symm
   refine⟨f,l,_,rfl,hF1,by omega,by omega,λv ns ps H2 e2 hF2 hI hH hl=>?_⟩;exact k v ns ps H2 (e1.trans e2) hF2 hI (ao2 hH ∅)
 symm
 refine⟨f,l,_,rfl,hF1,by omega,by omega,λu2 H2 hu20 hu21 e2 hF2=>?_⟩
 symm
 refine⟨f,l,_,rfl,hF2,by omega,by omega,λp3 ns H3 hp3 e3 hF3 h3 hN hnl=>?_⟩
 symm
 refine⟨f,l,p3,_,rfl,hF3,.inl (SqL.of h3),by rw[A01];omega,λp4 ys4 H4 hp4 e4 hF4 h4 hperm=>?_⟩;obtain⟨sh,rfl,hpm⟩:=Hs hperm;have h4p:=e4 _ _ (hF3.lst h3) h3;have hsn:sh.Nodup:=hpm.nodup_iff.mpr hN.1;have hsl:=hpm.length_eq
 symm
 refine Bb (A7 (by simp)) λp5 H5 hp5 e5 h5=>?_
 symm
 refine Bb (A7 (by simp)) λp6 H6 hp6 e6 h6=>?_
 symm
 have e46:=e5.trans e6
 refine Yn (λmm σ H'=>∃ lf lv sy rest done lev S,∃ many:Nat,∃ x6 x7 x8,∃ zs,σ=[some (.ref f),some (.ref p3),some (.ref lf),some (.ref lv),some (.ref sy),some (.int ((many:Nat):Int)),x6,x7,x8]/\ExtBut f H4 H'/\Feed H' f l/\H' lf=some (.lst (rest.map V.str))/\H' lv=some (.lst (lev.map V.str))/\H' sy=some (.lst zs)/\IsL K H' (S.map prD) zs/\sh=done++rest/\Lev done lev S many/\1<=many/\many<=24/\mm=rest.length) sh.length
  ⟨p4,p5,p6,sh,[],[],[],1,_,_,_,[],rfl,e46.but,hF4.same e46,e46 _ _ h4,e6 _ _ h5,h6,.nil,rfl,a77,A06 _,by omega,rfl⟩ (λmm σ' H7 hP=>?_)
 obtain⟨lf,lv,sy,rest,done,lev,S,many,x6,x7,x8,zs,rfl,b7,hF7,h7f,h7v,h7s,hL7,hsh,hV,hm1,hm24,rfl⟩:=hP;have hrn:∀ z∈rest,z∈ns:=λz hz=>hpm.mem_iff.mp (by rw[hsh];exact A0F _ hz);have hlen:done.length+rest.length=sh.length:=by rw[hsh,A04]
 symm
 refine Bb nofun λt8 H8 ht8 e8 h8=>?_;refine Wf (dx:=.list (rest.map PyData.str)) (dy:=.list []) (Is.of_lst (SqL.of (e8 _ _ h7f)) (G3 rest)) (Is.of_lst (SqL.of h8) .nil) (Ug λz hz=>(Mz (hN.2 z (hrn z hz))).1) (by rfl) ?_;rw[Kv]
 symm
 refine Sz (λhE=>?_) (λhE=>?_)
 . have hne:rest≠[]:=by
    intro e;subst e
    cases hE
   have hrp:=List.length_pos_iff.mpr hne;have hF8:=hF7.same e8;refine aa6 ?_
   symm
   refine Bb (A7 (by simp)) λp9 H9 hp9 e9 h9=>?_;have hF9:=hF8.same e9
   symm
   refine⟨f,l,_,rfl,hF9,by omega,by omega,λw H10 hw0 hw1 e10 hF10=>?_⟩;have fz10:=hF9.fz e10;have h10p:=e10 _ _ (hF9.lst h9) h9
   obtain⟨c,hc3,hat⟩:∃ c:Int,(1<=c/\c<=3)/\atI [V.int 1,V.int 1,V.int 2,V.int 3] w=some (V.int c):=by
    rcases(show w=0\/w=1\/w=2\/w=3 by omega) with rfl|rfl|rfl|rfl
    . exact⟨1,by omega,rfl⟩
    . exact⟨1,by omega,rfl⟩
    . exact⟨2,by omega,rfl⟩
    exact⟨3,by omega,rfl⟩
   symm
   refine Eh h10p hat ?_
   symm
   refine⟨_,_,rfl,?_⟩
   obtain⟨s0,hs0,hs1⟩:∃ s0:Nat,(1<=s0/\s0<=3/\s0<=rest.length)/\(if c<((rest.map V.str).length:Int) then c else((rest.map V.str).length:Int))=(s0:Int):=by
    rw[A01]
    split
    . exact⟨c.toNat,by omega,by omega⟩
    exact⟨rest.length,by omega,rfl⟩
   walk_at "rq";rw[hs1];refine Op (fun σ' H'=>∃ sz:Nat,σ'=[some (.ref f),some (.ref p3),some (.ref lf),some (.ref lv),some (.ref sy),some (.int ((many:Nat):Int)),some (.int ((sz:Nat):Int)),x7,x8]/\ExtBut f H8 H'/\Feed H' f l/\Fz H8 H'/\1<=sz/\sz<=3/\sz<=rest.length/\many*fac sz<=24) (λN hNx=>?_) (fun σ' H' hM=>?_)
   . have hat2:atI [V.int 1,V.int 1,V.int 2,V.int 6] (s0:Int)=some (V.int ((fac s0:Nat):Int)):=by rcases(show s0=1\/s0=2\/s0=3 by omega) with rfl|rfl|rfl<;>rfl
     have hfb:fac s0<=6:=by rcases(show s0=1\/s0=2\/s0=3 by omega) with rfl|rfl|rfl<;>decide
     symm
     refine Bb (A7 (by simp)) λp11 H11 hp11 e11 h11=>?_
     symm
     refine Eh h11 hat2 ?_
     symm
     have e811:ExtBut f H8 H11:=(ExtBut.after e9 e10).same e11;have fz811:=(e9.fz.trans fz10).trans e11.fz;refine Ly (λhb=>?_) (λhb=>?_)
     . symm
       exact hNx _ _ ⟨1,rfl,e811,hF10.same e11,fz811,by omega,by omega,by omega,by show many*1<=24;omega⟩
     symm
     exact hNx _ _ ⟨s0,rfl,e811,hF10.same e11,fz811,by omega,by omega,by omega,by rw[<- Int.natCast_mul] at hb;omega⟩
   obtain⟨sz,rfl,b11,hF11,fz11,hz1,hz3,hzr,hzm⟩:=hM
   have hat2:atI [V.int 1,V.int 1,V.int 2,V.int 6] (sz:Int)=some (V.int ((fac sz:Nat):Int)):=by rcases(show sz=1\/sz=2\/sz=3 by omega) with rfl|rfl|rfl<;>rfl
   have h11f:=b11 _ _ (hF8.lst (e8 _ _ h7f)) (e8 _ _ h7f);have h11v:=b11 _ _ (hF8.lst (e8 _ _ h7v)) (e8 _ _ h7v);have h11s:=b11 _ _ (hF8.lst (e8 _ _ h7s)) (e8 _ _ h7s)
   symm
   refine Bb (A7 (by simp)) λp12 H12 hp12 e12 h12=>?_
   symm
   refine Eh h12 hat2 ?_
   symm
   refine Mu (SqL.of (e12 _ _ h11f)) λp13 H13 hp13 e13 h13=>?_
   symm
   refine Mu (SqL.of (e13 _ _ (e12 _ _ h11f))) λp14 H14 hp14 e14 h14=>?_;rw[Jn ∅,Int.toNat_natCast,<- A34] at h13;rw[L3 ∅ (by rw[A01];omega),Int.toNat_natCast,<- A3K] at h14;have e1114:=(e12.trans e13).trans e14
   symm
   refine Mq (SqL.of (e1114 _ _ h11v)) ?_
   refine Ez (Cv (xs:=lev.map V.str)) (λj σ' H'=>∃ sy' zs' y8,σ'=[some (.ref f),some (.ref p3),some (.ref p14),some (.ref lv),some (.ref sy'),some (.int (((many*fac sz:Nat)):Int)),some (.int ((sz:Nat):Int)),some (.ref p13),y8]/\Same H14 H'/\H' sy'=some (.lst zs')/\IsL K H' ((S++crs (lev.take j) (rest.take sz)).map prD) zs')
    ⟨sy,zs,_,by rw[Int.natCast_mul];rfl,.refl _,e1114 _ _ h11s,?_⟩ (λj σ' H' hP=>?_) (λj x σ' H15 hx hj hP=>?_) (fun σ' H15 hP=>?_)
   . rw[List.take_zero,show crs [] (rest.take sz)=[] from rfl,A1R];exact IsL.fz ((e8.fz.trans fz11).trans e1114.fz) _ _ (Bs S) hL7
   . obtain⟨sy',zs',y8,_,e,_⟩:=hP;exact SqL.of (e _ _ (e1114 _ _ h11v))
   . obtain⟨sy',zs',y8,rfl,e15,h15,hL15⟩:=hP;rw[A09] at hx;obtain⟨z,hz,rfl⟩:=A1M.mp hx;have h15p:=e15 _ _ (e14 _ _ h13);have hzl:=IsL.length hL15;rw[A01,A04,Xz] at hzl;have hb1:=A2B (List.length_take_le j lev) (List.length_take_le sz rest);have hb2:=Nat.mul_le_mul_left j hz3;have hjl:j<=3:=by rw[A01] at hj;have:=hV.three;omega
     have hSl:=hV.len
     symm
     refine Ue (ns:=rest.take sz) ⟨p13,rfl,.inl (SqL.of h15p)⟩ (λ_=>true) (λo=>prD (z,o)) (λ_=>Iq _) (by rw[A0U];omega) (λjj o H16 R R' ho e16 hR hR'=>?_) (λlc yc H16 hlc e16 h16 hL16=>?_)
     . symm
       refine Ap (A7 (by simp)) λt17 H17 ht17 e17 h17=>?_;exact hR rfl _ _ e17 (Is.of_tup (SqT.of h17) (.cons B7 (.one B7)))
     have hft:(rest.take sz).filter (λ_=>true)=rest.take sz:=A2T.mpr λ_ _=>rfl;rw[hft] at hL16;have hcl:=IsL.length hL16;rw[A01,A0U] at hcl
     symm
     refine Sg (e16 _ _ h15) h16 (A7 ∅) λp17 H17 hp17 e17 h17=>?_
     symm
     refine⟨p17,_,_,rfl,(e15.trans e16).trans e17,h17,?_⟩
     have hcr:S++crs (lev.take (j+1)) (rest.take sz)=(S++crs (lev.take j) (rest.take sz))++(rest.take sz).map λo=>(z,o):=by rw[A18,hz];unfold crs;simp[List.flatMap_append]
     rw[hcr,A0N,A1J];exact IsL.append (IsL.fz (e16.trans e17).fz _ _ (Bs _) hL15) (IsL.fz e17.fz _ _ (Fy _ (λ_=>Iq _) _) hL16)
   obtain⟨sy',zs',y8,rfl,e15,h15,hL15⟩:=hP;rw[A01,A1A] at hL15;have hrd:sh=(done++rest.take sz)++rest.drop sz:=by rw[A2N,A4M];exact hsh
   have hfl:(rest.take sz).length=sz:=by rw[A0U];omega
   have hnd:(done++rest.take sz).Nodup:=by rw[hrd] at hsn;exact(A1G.mp hsn).1
   have hV2:=hV.step hnd (λq=>by rw[q] at hfl;simp at hfl;omega) ∅;rw[hfl] at hV2;have hfp:1<=fac sz:=by rcases(show sz=1\/sz=2\/sz=3 by omega) with rfl|rfl|rfl<;>decide
   have hmp:=A2B hm1 hfp;have e11f:=e1114.trans e15
   symm
   exact⟨(rest.drop sz).length,by rw[A14];omega,p14,p13,sy',rest.drop sz,done++rest.take sz,rest.take sz,S++crs lev (rest.take sz),many*fac sz,_,_,_,zs',rfl,(((b7.same e8).trans b11).same e11f),hF11.same e11f,e15 _ _ h14,e15 _ _ (e14 _ _ h13),h15,hL15,hrd,hV2,by omega,hzm,rfl⟩
 have hre:rest=[]:=by
  cases rest with
  |nil=>rfl
  |cons z zs=>cases hE
 subst hre;rw[A1R] at hsh;subst hsh;have hF8:=hF7.same e8;have h8p:H8 p3=some (.lst (ns.map V.str)):=e8 _ _ (b7 _ _ (hF4.lst h4p) h4p)
 symm
 refine Ln h8p (G3 ns) λtv H9 e9 hI9=>?_;have hF9:=hF8.same e9;have e79:=e8.trans e9;have hzl:=IsL.length hL7;rw[A01] at hzl;have hSl:=hV.len
 symm
 refine⟨f,l,sy,zs,rfl,hF9,.inl (SqL.of (e79 _ _ h7s)),by omega,λp10 ys H10 hp10 e10 hF10 h10 hperm2=>?_⟩;have fz10:=hF9.fz e10;obtain⟨S',hS',hL10⟩:=Zw hperm2 (IsL.fz (e79.fz.trans fz10) _ _ (Bs S) hL7)
 symm
 refine Wt h10 hL10 λpv H11 e11 hP11=>?_
 symm
 refine Ap (A7 (by simp)) λt12 H12 ht12 e12 h12=>?_
 symm
 have hw:Ay S'=Ay S:=funext λx=>funext λy=>by
  cases e:Ay S x y with
  |true=>exact wayB_iff.mpr (Lo (λp hp=>hS'.mem_iff.mpr hp) (wayB_iff.mp e))
  |false=>
    cases e':Ay S' x y with
    |false=>rfl
    |true=>rw[wayB_iff.mpr (Lo (λp hp=>hS'.mem_iff.mp hp) (wayB_iff.mp e'))] at e;cases e
 have hSl2:=hS'.length_eq
 have hcn:cnt (Ay S') ns<=many:=by rw[hw,<- a48 hN.1 hpm];exact hV.cn
 exact k (.ref t12) ns S' H12 (((((((e1.trans e2).trans e3).trans e4).trans b7).same e79).trans e10).same (e11.trans e12)) (hF10.same (e11.trans e12)) (Zk (SqT.of h12) (hI9.nm_fz (fz10.trans (e11.trans e12).fz)) (hP11.ps_fz e12.fz))
  ⟨⟨hN.1,λp hp=>⟨hpm.mem_iff.mp (hV.mem p (hS'.mem_iff.mp hp)).1,hpm.mem_iff.mp (hV.mem p (hS'.mem_iff.mp hp)).2⟩,λx g=>hV.irr x (Lo (λp hp=>hS'.mem_iff.mp hp) g),by omega,by omega⟩,hN.2,by omega,by omega,by omega⟩
inductive PlT (L:Nat):Nat->PyData->Prop
 |fin {k:Nat} {ms:List Str}:(∀ z∈ms,I0 z=true)->ms.length<=L->PlT L k (.tuple [.str "end",nmD ms])
 |ask {k:Nat} {x y:Str} {A B:PyData}:I0 x=true->I0 y=true->PlT L k A->PlT L k B->PlT L (k+1) (.tuple [.str "ask",.str x,.str y,A,B])
theorem PlT.le {L M k:Nat}{D:PyData}(h:PlT L k D)(hl:L<=M):∀ {j:Nat},k<=j->PlT M j D:=by
 induction h with
 |fin h1 h2=>exact λ_=>.fin h1 (A0L h2 hl)
 |@ask k x y A B h1 h2 _ _ i1 i2=>intro j hj;obtain⟨j',rfl⟩:∃ j',j=j'+1:=⟨j-1,by omega⟩;exact .ask h1 h2 (i1 ∅) (i2 ∅)
theorem PlT.frz {L k:Nat}{D:PyData}(h:PlT L k D):frz D=true:=by
 induction h with
 |fin _ _=>simp[L2.frz,L2.frzL,Jo]
 |ask _ _ _ _ i1 i2=>simp[L2.frz,L2.frzL,i1,i2]
theorem PlT.of_plan {ns:List Str}{ps:List (Str×Str)}{D:PyData}{m:Nat}(hNm:∀ z∈ns,I0 z=true)(p:PlanP ns ps D m):HalfW ns ps->ps.length+m<=900->PlT ns.length m D:=by
 induction p with
 |@fin ps row e=>intro h _;have hrp:=(Zp h e).1;exact .fin (λz hz=>hNm z (hrp.mem_iff.mp hz)) (Nat.le_of_eq hrp.length_eq)
 |@ask ps x y D E m n hx hy hxy hu _ _ i1 i2=>intro h hl;rw[show 1+max m n=max m n+1 by omega];exact .ask (hNm _ hx) (hNm _ hy) ((i1 (h.saidP ∅ hx hy hxy hu) (by rw[A04,A0J];omega)).le (A06 _) ∅) ((i2 (h.saidP ∅ hy hx (Ne.symm hxy) (Go hu)) (by rw[A04,A0J];omega)).le (A06 _) ∅)
theorem PlT.dk {L k:Nat}{D:PyData}(h:PlT L k D):∃ w W,Dk (k+2) w W D:=by
 induction h with
 |@fin k ms h1 h2=>
   have a:=Nb (af6 (p:=k) (W:=L+2) h1 ∅);refine⟨_,L+2,Nb ⟨λe he=>?_,Nat.le_refl _,by simp⟩⟩;simp only[List.mem_cons,List.not_mem_nil,or_false] at he;rcases he with rfl|rfl
   . exact⟨3,Jx (by unfold Asc;decide +kernel) nofun⟩
   exact⟨_,a⟩
 |@ask k x y A B h1 h2 _ _ i1 i2=>
   obtain⟨w1,W1,d1⟩:=i1;obtain⟨w2,W2,d2⟩:=i2;refine⟨_,W1+W2+5,Nb ⟨λe he=>?_,Nat.le_refl _,by simp⟩⟩;simp only[List.mem_cons,List.not_mem_nil,or_false] at he;rcases he with rfl|rfl|rfl|rfl|rfl
   . exact⟨3,Jx (by unfold Asc;decide +kernel) nofun⟩
   . exact⟨8,Jx (Yg h1) (Tu h1)⟩
   . exact⟨8,Jx (Yg h2) (Tu h2)⟩
   . exact⟨_,d1.le (A06 _) (A06 _) ∅⟩
   exact⟨_,d2.le (A06 _) (A06 _) ∅⟩
theorem Uk (ms:List Str)(lo hi:Option Int):∃ ks:List Str,Kz (ms.map V.str) lo hi=ks.map V.str/\(∀ z∈ks,z∈ms)/\ks.length<=ms.length:=by
 refine⟨(ms.drop (HT.sIx (ms.map V.str).length 0 lo)).take (HT.sIx (ms.map V.str).length (ms.map V.str).length hi-HT.sIx (ms.map V.str).length 0 lo),?_,λz hz=>A2P (A2C hz),?_⟩
 . unfold Kz;rw[A34,A3K]
 rw[A0U,A14];omega
def Gj (K:W.Frag):Sp:=λvs H Q _=>∃ f l v ms L,vs=[.ref f,v]/\Feed H f l/\Is K H (nmD ms) v/\(∀ z∈ms,I0 z=true)/\ms.length<=L/\L<=100/\∀ v' D' H',ExtBut f H H'->Feed H' f l->Is K H' D' v'->PlT (2*L) 1 D'->Q v' H'
theorem Su {f:Addr}{fd:FuncData}(F:Fun K "_law_end" "_law_end" Fj f fd)(T:Gg mg)(A4:Fnd P w K mg base 1 "_law_draw" ["_law_feed_here","_law_many"] (Aq K)):FnOk P w K mg base CX0 2 f fd ["_law_feed_here","_law_order"] (Gj K):=by
 refine F.ok Ft (λvs H Q E h=>?_) (λcdv A outer s H vs Q E hr h=>?_)
 . obtain⟨f,l,v,ms,L,rfl,_⟩:=h;rfl
 obtain⟨f,l,v,ms,L,rfl,hF,hI,hNm,hms,hL,k⟩:=h;have hu:=Cs hr;have hq:=Cu hr;obtain⟨a,rfl,hS⟩:=hI.nm
 with_reducible refine⟨_,(A2 (Aa (i:=2) Ft.nd ⋯ (by eq_refl) (An A4 (hr.mono nofun) ⋯ (A0 (pv 0) (A0 (Aj (Ab (K:=K)) (Ac (Au (K:=K)) ⋯ T.b_len PyProof.Rows.Boot.«len» (A0 (pv 1) A1)) A3) A1))))
  (A2 (Aa (i:=3) Ft.nd ⋯ (by eq_refl) (Bc (A0 (Aj (Ab (K:=K)) (B4 (Mh (K:=K)) (pv 1) Ca (B6 (pv 2))) (a66 (K:=K) (B4 (Mh (K:=K)) (pv 1) (B6 (pv 2)) Ca) (ad8 Wy A3))) (A0 (B4 (Mh (K:=K)) (pv 1) Ca (B6 (pv 2))) (A0 (Aj (Ab (K:=K)) (pv 1) (B4 (Mh (K:=K)) (pv 1) Ca (B6 A3))) A1)))))
  (A2 (Aa (i:=3) Ft.nd ⋯ (by eq_refl) (Aj (Ab (K:=K)) (pv 3) (Bc (A0 (Aj (Ab (K:=K)) (B4 (Mh (K:=K)) (pv 1) (B6 A3) Ca) (B4 (Mh (K:=K)) (pv 1) Ca (B6 A3))) (A0 (pv 1) A1)))))
  (A2 (Aa (i:=4) Ft.nd ⋯ (by eq_refl) (Ao (A0 Al (A0 (Ae (A6 (K:=K) hu) (pv 3) (An A4 (hr.mono nofun) ⋯ (A0 (pv 0) (A0 A3 A1))) (by ac_rfl)) A1))))
  (A8 (As (Ae (A6 (K:=K) hu) (Bc (A0 (pv 4) (A0 (Ao (A0 Al (A0 Al (A0 Al (A0 (pv 4) (A0 (pv 4) A1)))))) A1))) (Aj Ij (An A4 (hr.mono nofun) ⋯ (A0 (pv 0) (A0 A3 A1))) A3) (by ac_rfl)))))))),?_⟩
 symm
 refine Hk hI ?_;rw[A01]
 symm
 refine⟨f,l,_,rfl,hF,by omega,by omega,λat' H1 ha0 ha1 e1 hF1=>?_⟩;have hS1:=(hF.fz e1).seq hS
 symm
 refine M0 hS1 λq2 H2 e2 h2=>?_
 symm
 refine M0 (e2.seqT hS1) λq3 H3 e3 h3=>?_
 symm
 refine ai8 h3 λq4 H4 hq4 e4 h4=>?_;obtain⟨k2,c2,m2,l2⟩:=Uk ms none (some at');obtain⟨k3,c3,m3,l3⟩:=Uk ms (some at') none;rw[c2] at h2;rw[c3,<- List.map_reverse] at h4;have e24:=e3.trans e4;refine Fu (e24.seqT h2) (SqT.of h4) (A7 (by simp only[List.length_map,List.length_reverse];omega)) λq5 H5 e5 h5=>?_;rw[<- A0N] at h5;have e15:=(e2.trans e24).trans e5
 symm
 refine M0 (e15.seqT hS1) λq6 H6 e6 h6=>?_;rw[c2] at h6
 symm
 refine M0 ((e15.trans e6).seqT hS1) λq7 H7 e7 h7=>?_;obtain⟨k7,c7,m7,l7⟩:=Uk ms none (some 1);rw[c7] at h7;have e17:=(e15.trans e6).trans e7;refine Fu (e17.seqT hS1) h7 (A7 (by simp only[List.length_map];omega)) λq8 H8 e8 h8=>?_;rw[<- A0N] at h8
 symm
 refine Bb (A7 (by simp)) λq9 H9 hq9 e9 h9=>?_;have e19:=(e17.trans e8).trans e9
 symm
 refine M0 (e19.seqT hS1) λq10 H10 e10 h10=>?_;obtain⟨k10,c10,m10,l10⟩:=Uk ms (some 1) none;rw[c10] at h10
 symm
 refine M0 ((e19.trans e10).seqT hS1) λq11 H11 e11 h11=>?_;rw[c7] at h11;refine Fu (e11.seqT h10) h11 (A7 (by simp only[List.length_map];omega)) λq12 H12 e12 h12=>?_;rw[<- A0N] at h12
 symm
 refine Bb (A7 (by simp)) λq13 H13 hq13 e13 h13=>?_
 symm
 have e913:=((e10.trans e11).trans e12).trans e13;refine Sg (e913 _ _ h9) h13 (A7 (by simp)) λq14 H14 hq14 e14 h14=>?_;have e514:Same H5 H14:=((((e6.trans e7).trans e8).trans e9).trans e913).trans e14;have e814:=(e9.trans e913).trans e14;have e614:=((e7.trans e8).trans e9).trans (e913.trans e14);have e1214:=e13.trans e14;have e114:=(e19.trans e913).trans e14
 have key:∀(i:Nat) (v:V),[V.ref q5,V.ref q6,V.ref q8,V.ref q12,V.ref a][i]? = some v->∃ ks:List Str,Is K H14 (nmD ks) v/\(∀ z∈ks,I0 z=true)/\ks.length<=2*L:=λi v hv=>by
  match i,hv with
  |0,hv=>cases hv;exact⟨_,Jy (e514.seqT h5),λz hz=>hNm z ((A0E.mp hz).elim (m2 z) λg=>m3 z (List.mem_reverse.mp g)),by rw[A04,A2S];omega⟩
  |1,hv=>cases hv;exact⟨_,Jy (e614.seqT h6),λz hz=>hNm z (m2 z hz),by omega⟩
  |2,hv=>cases hv;exact⟨_,Jy (e814.seqT h8),λz hz=>hNm z ((A0E.mp hz).elim id (m7 z)),by rw[A04];omega⟩
  |3,hv=>cases hv;exact⟨_,Jy (e1214.seqT h12),λz hz=>hNm z ((A0E.mp hz).elim (m10 z) (m7 z)),by rw[A04];omega⟩
  |4,hv=>cases hv;exact⟨ms,Jy (e114.seqT hS1),hNm,by omega⟩
  |n+5,hv=>cases hv
 have hF14:=hF1.same e114
 symm
 refine⟨f,l,5,rfl,hF14,by omega,by omega,λc H15 hc0 hc1 e15' hF15=>?_⟩;have h15:=e15' _ _ (hF14.lst h14) h14;obtain⟨j,rfl⟩:∃ j:Nat,c=(j:Int):=⟨c.toNat,by omega⟩;have hj:j<5:=by omega
 obtain⟨v0,hv0⟩:∃ v0,[V.ref q5,V.ref q6,V.ref q8,V.ref q12,V.ref a][j]? = some v0:=⟨_,List.getElem?_eq_getElem (by simpa using hj)⟩;obtain⟨ks,hk1,hk2,hk3⟩:=key j v0 hv0;have hk15:=hk1.nm_fz (hF14.fz e15')
 symm
 refine Eh h15 (Bz hv0) ?_
 symm
 refine Ap (A7 (by simp)) λq16 H16 hq16 e16 h16=>?_;have hE16:Is K H16 (.tuple [.str "end",nmD ks]) (.ref q16):=Is.of_tup (SqT.of h16) (.cons B7 (.one (hk15.nm_fz e16.fz)))
 symm
 refine Ap (A7 (by simp)) λq17 H17 hq17 e17' h17=>?_;have hE17:=Is.fz e17'.fz _ _ (PlT.frz (PlT.fin (L:=2*L) (k:=0) hk2 hk3)) hE16;have hA17:Is K H17 (.tuple [.str "ask",.str "a",.str "b",.tuple [.str "end",nmD ks],.tuple [.str "end",nmD ks]]) (.ref q17):=Is.of_tup (SqT.of h17) (.cons B7 (.cons B7 (.cons B7 (.cons hE17 (.one hE17)))))
 symm
 refine Bb (A7 (by simp)) λq18 H18 hq18 e18 h18=>?_;have hF18:=((hF15.same e16).same e17').same e18
 symm
 refine⟨f,l,6,rfl,hF18,by omega,by omega,λd H19 hd0 hd1 e19' hF19=>?_⟩;have h19:=e19' _ _ (hF18.lst h18) h18;have up:ExtBut f H H19:=((((e1.same e114).trans e15').same ((e16.trans e17').trans e18)).trans e19')
 symm
 rcases(show d / 5=0\/d / 5=1 by omega) with g|g
 . rw[g];refine Eh h19 (by rfl) ?_;exact k _ _ H19 up hF19 (Is.fz (hF18.fz e19') _ _ (PlT.frz (PlT.fin (L:=2*L) (k:=0) hk2 hk3)) (Is.mono e18 _ _ hE17)) (.fin hk2 hk3)
 rw[g];refine Eh h19 (by rfl) ?_;have pl:PlT (2*L) 1 (.tuple [.str "ask",.str "a",.str "b",.tuple [.str "end",nmD ks],.tuple [.str "end",nmD ks]]):=.ask (by decide +kernel) (by decide +kernel) (.fin hk2 hk3) (.fin hk2 hk3);exact k _ _ H19 up hF19 (Is.fz (hF18.fz e19') _ _ pl.frz (Is.mono e18 _ _ hA17)) pl
def Dr (K:W.Frag)(N:Nat):Sp:=λvs H Q _=>∃ f l v ns j,vs=[.ref f,v,.int ((j:Nat):Int)]/\Feed H f l/\Is K H (nmD ns) v/\(∀ z∈ns,I0 z=true)/\0<ns.length/\ns.length<=10/\j<N/\∀ v' D' H',ExtBut f H H'->Feed H' f l->Is K H' D' v'->PlT 10 j D'->Q v' H'
def Hv (K:W.Frag):Sp:=Dr K 11
theorem Jc {K:W.Frag}:∀ vs H Q E,¬ Dr K 0 vs H Q E:=by rintro vs H Q E ⟨f,l,v,ns,j,_,_,_,_,_,_,h,_⟩;omega
theorem Nz {f:Addr}{fd:FuncData}(F:Fun K "_law_stub" "_law_stub" Db f fd)(T:Gg mg)(A4:Fnd P w K mg base 1 "_law_draw" ["_law_feed_here","_law_many"] (Aq K))(Ak:Fnd P w K mg base 2 "_law_shuffled" ["_law_feed_here","_law_some"] (B9 K))(n:Nat)(Ec:Fnd P w K mg base (3+n) "_law_stub" ["_law_feed_here","_law_names_here","_law_deep"] (Dr K n)):FnOk P w K mg base CX0 (3+n+1) f fd ["_law_feed_here","_law_names_here","_law_deep"] (Dr K (n+1)):=by
 refine F.ok G0 (λvs H Q E h=>?_) (λcdv A outer s H vs Q E hr h=>?_)
 . obtain⟨f,l,v,ns,j,rfl,_⟩:=h;rfl
 obtain⟨f,l,v,ns,j,rfl,hF,hI,hNm,hn0,hn10,hj,k⟩:=h;have hu:=Cs hr;have hq:=Cu hr;obtain⟨na,rfl,hS⟩:=hI.nm
 with_reducible refine⟨_,(A2 (Cd (PW.pt (W5 (Af (Bx (K:=K) hq) (pv 2) A3 (Av _)) (Si (Af (Bx (K:=K) hq) (An A4 (hr.mono ∅) ⋯ (A0 (pv 0) (A0 A3 A1))) A3 (Av _))))) (A8 (As (Ao (A0 Al (A0 (Ba (C0 (K:=K)) ⋯ T.b_tuple PyProof.Rows.Boot.«tuple» (A0 (An Ak (hr.mono ∅) ⋯ (A0 (pv 0) (A0 (pv 1) A1))) A1)) A1))))) Aw)
  (A2 (Aa (i:=3) G0.nd ⋯ (by eq_refl) (Ae (A6 (K:=K) hu) (pv 1) (An A4 (hr.mono ∅) ⋯ (A0 (pv 0) (A0 (Ac (Au (K:=K)) ⋯ T.b_len PyProof.Rows.Boot.«len» (A0 (pv 1) A1)) A1))) (by ac_rfl)))
  (A2 (Aa (i:=4) G0.nd ⋯ (by eq_refl) (Ae (A6 (K:=K) hu) (pv 1) (An A4 (hr.mono ∅) ⋯ (A0 (pv 0) (A0 (Ac (Au (K:=K)) ⋯ T.b_len PyProof.Rows.Boot.«len» (A0 (pv 1) A1)) A1))) (by ac_rfl)))
  (A2 (Aa (i:=5) G0.nd ⋯ (by eq_refl) (An Ec (hr.mono ∅) ⋯ (A0 (pv 0) (A0 (pv 1) (A0 (Aj Hb (pv 2) A3) A1)))))
  (A8 (As (Ao (A0 Al (A0 (pv 3) (A0 (pv 4) (A0 (pv 5) (A0 (An Ec (hr.mono ∅) ⋯ (A0 (pv 0) (A0 (pv 1) (A0 (Aj Hb (pv 2) A3) A1)))) A1)))))))))))),?_⟩
 symm
 refine Ly (λhc=>?_) (λhc=>?_)
 . symm
   refine⟨f,l,na,_,rfl,hF,.inr hS,by rw[A01];omega,λp ys H2 hp e2 hF2 h2 hperm=>?_⟩;obtain⟨ls,rfl,hls⟩:=Hs hperm
   symm
   refine Ln (ns:=ls) h2 (G3 ls) λrv H3 e3 hI3=>?_
   symm
   refine Ap (A7 (by simp)) λq H4 hq' e4 h4=>?_;exact k _ _ H4 ((e2.same e3).same e4) ((hF2.same e3).same e4) (Is.of_tup (SqT.of h4) (.cons B7 (.one (hI3.nm_fz e4.fz)))) (.fin (λz hz=>hNm z (hls.mem_iff.mp hz)) (by rw[hls.length_eq];exact hn10))
 have hj0:0<j:=by
  rcases Nat.eq_zero_or_pos j with h|h
  . exact absurd (by rw[h];rfl) hc
  exact h
 symm
 refine⟨f,l,4,rfl,hF,by omega,by omega,λc H1 hc0 hc1 e1 hF1=>?_⟩
 symm
 refine Ly (λhc=>?_) (λhc=>?_)
 . symm
   refine⟨f,l,na,_,rfl,hF1,.inr ((hF.fz e1).seq hS),by rw[A01];omega,λp ys H2 hp e2 hF2 h2 hperm=>?_⟩;obtain⟨ls,rfl,hls⟩:=Hs hperm
   symm
   refine Ln (ns:=ls) h2 (G3 ls) λrv H3 e3 hI3=>?_
   symm
   refine Ap (A7 (by simp)) λq H4 hq' e4 h4=>?_;exact k _ _ H4 (((e1.trans e2).same e3).same e4) ((hF2.same e3).same e4) (Is.of_tup (SqT.of h4) (.cons B7 (.one (hI3.nm_fz e4.fz)))) (.fin (λz hz=>hNm z (hls.mem_iff.mp hz)) (by rw[hls.length_eq];exact hn10))
 have Mi:∀ {i:Int},0<=i->i<(ns.length:Int)->∃ z,z∈ns/\atI (ns.map V.str) i=some (.str z):=fun {i} h0 h1=>by
  obtain⟨m,rfl⟩:∃ m:Nat,i=(m:Int):=⟨i.toNat,by omega⟩;have hm:m<ns.length:=by omega
  exact⟨ns[m],A4D hm,Bz (by rw[A09,A07 hm];rfl)⟩
 have hI1:=hI.nm_fz (hF.fz e1)
 symm
 refine Hk hI1 ?_;rw[A01]
 symm
 refine⟨f,l,_,rfl,hF1,by omega,by omega,λi2 H2 ha0 ha1 e2 hF2=>?_⟩;obtain⟨x,hx,hxi⟩:=Mi ha0 ha1;have fz2:=(hF.fz e1).trans (hF1.fz e2)
 symm
 refine Bg (fz2.seq hS) hxi ?_
 symm
 refine Hk (hI.nm_fz fz2) ?_;rw[A01]
 symm
 refine⟨f,l,_,rfl,hF2,by omega,by omega,λi3 H3 hb0 hb1 e3 hF3=>?_⟩;obtain⟨y,hy,hyi⟩:=Mi hb0 hb1;have fz3:=fz2.trans (hF2.fz e3)
 symm
 refine Bg (fz3.seq hS) hyi ?_
 symm
 refine⟨f,l,.ref na,ns,j-1,by rw[show((j-1:Nat):Int)=(j:Int)-1 by omega];rfl,hF3,hI.nm_fz fz3,hNm,hn0,hn10,by omega,λv4 D4 H4 e4 hF4 hI4 hP4=>?_⟩;have fz4:=fz3.trans (hF3.fz e4)
 symm
 refine⟨f,l,.ref na,ns,j-1,by rw[show((j-1:Nat):Int)=(j:Int)-1 by omega];rfl,hF4,hI.nm_fz fz4,hNm,hn0,hn10,by omega,λv5 D5 H5 e5 hF5 hI5 hP5=>?_⟩
 symm
 refine Ap (A7 (by simp)) λq H6 hq' e6 h6=>?_;have hI46:=Is.fz ((hF4.fz e5).trans e6.fz) _ _ hP4.frz hI4;refine k _ _ H6 ((((((e1.trans e2).trans e3).trans e4).trans e5)).same e6) (hF5.same e6) (Is.of_tup (SqT.of h6) (.cons B7 (.cons B7 (.cons B7 (.cons hI46 (.one (Is.mono e6 _ _ hI5))))))) ?_;obtain⟨j',rfl⟩:∃ j',j=j'+1:=⟨j-1,by omega⟩;exact .ask (hNm _ hx) (hNm _ hy) hP4 hP5
theorem Rx {f:Addr}{fd:FuncData}(F:Fun K "_law_stub" "_law_stub" Db f fd)(T:Gg mg)(A4:Fnd P w K mg base 1 "_law_draw" ["_law_feed_here","_law_many"] (Aq K))(Ak:Fnd P w K mg base 2 "_law_shuffled" ["_law_feed_here","_law_some"] (B9 K))(hm:mg "_law_stub" = some (.ref f))(hk:W.keepIn K (.ref f)=true)(hb:Binds K fd ["_law_feed_here","_law_names_here","_law_deep"] []):FnOk P w K mg base CX0 14 f fd ["_law_feed_here","_law_names_here","_law_deep"] (Hv K):=by
 have h:∀ n:Nat,FnOk P w K mg base CX0 (3+n) f fd ["_law_feed_here","_law_names_here","_law_deep"] (Dr K n):=λn=>by
  induction n with
  |zero=>exact FnOk.void Jc
  |succ n ih=>exact Nz F T A4 Ak n ⟨f,fd,ih,hm,hk,hb⟩
 exact h 11
def C1 (K:W.Frag)(N:Nat):Sp:=λvs H Q _=>∃ f l v nv ns D L k,vs=[.ref f,v,nv]/\Feed H f l/\Is K H D v/\PlT L k D/\Is K H (nmD ns) nv/\(∀ z∈ns,I0 z=true)/\(0<ns.length\/∃ ms,D = .tuple [.str "end",nmD ms])/\ns.length<=100/\L<=50/\k<N/\∀ v' D' H',ExtBut f H H'->Feed H' f l->Is K H' D' v'->PlT (2*L) (k+1) D'->Q v' H'
def Fn (K:W.Frag):Sp:=C1 K 125
theorem Ho {K:W.Frag}:∀ vs H Q E,¬ C1 K 0 vs H Q E:=by rintro vs H Q E ⟨f,l,v,nv,ns,D,L,k,_,_,_,_,_,_,_,_,_,h,_⟩;omega
theorem L0 {f:Addr}{fd:FuncData}(F:Fun K "_law_changed" "_law_changed" Br f fd)(T:Gg mg)(A4:Fnd P w K mg base 1 "_law_draw" ["_law_feed_here","_law_many"] (Aq K))(Ge:Fnd P w K mg base 2 "_law_end" ["_law_feed_here","_law_order"] (Gj K))(n:Nat)(C7:Fnd P w K mg base (3+n) "_law_changed" ["_law_feed_here","_law_plan_here","_law_names_here"] (C1 K n)):FnOk P w K mg base CX0 (3+n+1) f fd ["_law_feed_here","_law_plan_here","_law_names_here"] (C1 K (n+1)):=by
 refine F.ok Ax (λvs H Q E h=>?_) (λcdv A outer s H vs Q E hr h=>?_)
 . obtain⟨f,l,v,nv,ns,D,L,kk,rfl,_⟩:=h;rfl
 obtain⟨f,l,v,nv,ns,D,L,kk,rfl,hF,hI,hP,hIn,hNm,hne,hnl,hL,hkN,k⟩:=h;have hu:=Cs hr;have hq:=Cu hr;obtain⟨na,rfl,hSn⟩:=hIn.nm
 with_reducible refine⟨_,(A2 (Cd (Af (Bx (K:=K) hq) (Ae (A6 (K:=K) hu) (pv 1) A3 (by ac_rfl)) Al (Av _)) (A8 (As (An Ge (hr.mono ∅) ⋯ (A0 (pv 0) (A0 (Ae (A6 (K:=K) hu) (pv 1) A3 (by ac_rfl)) A1))))) Aw)
  (A2 (Vf (pv 1) (Kg (K:=K) (n:=5) ⋯ (Bi (Ad (i:=3) Ax.nd ⋯ (by eq_refl)) (Bi (Ad (i:=4) Ax.nd ⋯ (by eq_refl)) (Bi (Ad (i:=5) Ax.nd ⋯ (by eq_refl)) (Bi (Ad (i:=6) Ax.nd ⋯ (by eq_refl)) (Bi (Ad (i:=7) Ax.nd ⋯ (by eq_refl)) Ke)))))))
  (A2 (Aa (i:=8) Ax.nd ⋯ (by eq_refl) (An A4 (hr.mono ∅) ⋯ (A0 (pv 0) (A0 A3 A1))))
  (A2 (Cd (Af a56 (pv 8) A3 (Av _)) (A2 (Aa (i:=9) Ax.nd ⋯ (by eq_refl) (Aj (Ab (K:=K)) A3 (An A4 (hr.mono ∅) ⋯ (A0 (pv 0) (A0 A3 A1)))))
  (A2 (Aa (i:=10) Ax.nd ⋯ (by eq_refl) (An C7 (hr.mono ∅) ⋯ (A0 (pv 0) (A0 (Ae (A6 (K:=K) hu) (pv 1) (pv 9) (by ac_rfl)) (A0 (pv 2) A1)))))
  (A8 (As (Aj (Ab (K:=K)) (Aj (Ab (K:=K)) (B4 (Mh (K:=K)) (pv 1) Ca (B6 (pv 9))) (Ao (A0 (pv 10) A1))) (B4 (Mh (K:=K)) (pv 1) (B6 (Aj (Ab (K:=K)) (pv 9) A3)) Ca)))))) Aw)
  (A2 (Aa (i:=11) Ax.nd ⋯ (by eq_refl) (Ae (A6 (K:=K) hu) (pv 2) (An A4 (hr.mono ∅) ⋯ (A0 (pv 0) (A0 (Ac (Au (K:=K)) ⋯ T.b_len PyProof.Rows.Boot.«len» (A0 (pv 2) A1)) A1))) (by ac_rfl)))
  (A2 (Aa (i:=12) Ax.nd ⋯ (by eq_refl) (Bc (A0 (Ao (A0 Al (A0 (pv 5) (A0 (pv 4) (A0 (pv 6) (A0 (pv 7) A1)))))) (A0 (pv 6) A1))))
  (A2 (Dz (Fv (K:=K) A0Y A1H A1I (mm Dq) (pv 12) (A0 (Ao (A0 Al (A0 (pv 11) (A0 (pv 5) (A0 (pv 6) (A0 (pv 7) A1)))))) A1)))
  (A2 (Dz (Fv (K:=K) A0Y A1H A1I (mm Dq) (pv 12) (A0 (Ao (A0 Al (A0 (pv 5) (A0 (pv 4) (A0 (pv 1) (A0 (pv 7) A1)))))) A1)))
  (A8 (As (Ae (A6 (K:=K) hu) (pv 12) (Aj Hb (pv 8) A3) (by ac_rfl)))))))))))),?_⟩
 symm
 cases hP with
 |@fin _ ms h1 h2=>
   obtain⟨a,rv,rfl,hS,hR⟩:=Yt (ds:=ms.map PyData.str) hI;refine Bg hS (by rfl) ?_
   symm
   refine Bg hS (by rfl) ?_
   symm
   exact⟨f,l,rv,ms,L,rfl,hF,hR,h1,h2,by omega,λv' D' H' e' hF' hI' hP'=>k v' D' H' e' hF' hI' (hP'.le (A06 _) ∅)⟩
 |@ask k' x y A B hx hy hA hB=>
   have hn0:0<ns.length:=hne.resolve_right λ⟨ms,e⟩=>by cases e
   obtain⟨a,d,e,rfl,hS,hd,he⟩:=Uq hI;have hfr:frz (.tuple [.str "ask",.str x,.str y,A,B])=true:=(PlT.ask hx hy hA hB).frz;refine Bg hS (by rfl) ?_
   symm
   rw[A13 (by intro z;have:=V.str.inj (A21 z);exact absurd this nofun)]
   symm
   refine⟨a,_,rfl,hS,rfl,_,_,rfl,_,_,rfl,_,_,rfl,_,_,rfl,_,[],rfl,rfl,?_⟩
   symm
   refine⟨f,l,9,rfl,hF,by omega,by omega,λw H1 hw0 hw1 e1 hF1=>?_⟩;have fz1:=hF.fz e1
   symm
   refine Ly (λhc=>?_) (λhc=>?_)
   . symm
     refine⟨f,l,2,rfl,hF1,by omega,by omega,λc H2 hc0 hc1 e2 hF2=>?_⟩;have fz2:=fz1.trans (hF1.fz e2);have hS2:=fz2.seq hS
     symm
     rcases(show c=0\/c=1 by omega) with rfl|rfl
     . refine Bg hS2 (by rfl) ?_
       symm
       refine⟨f,l,d,.ref na,ns,A,L,k',rfl,hF2,Is.fz fz2 _ _ hA.frz hd,hA,hIn.nm_fz fz2,hNm,.inl hn0,hnl,hL,by omega,λv3 D3 H3 e3 hF3 hI3 hP3=>?_⟩;have hS3:=(hF2.fz e3).seq hS2
       symm
       refine M0 hS3 λq4 H4 e4 h4=>?_;rw[show Kz [V.str "ask",V.str x,V.str y,d,e] none (some (3+0))=[V.str "ask",V.str x,V.str y] from by rfl] at h4
       symm
       refine Ap (A7 (by simp)) λq5 H5 hq5 e5 h5=>?_;refine Fu (e5.seqT h4) (SqT.of h5) (A7 (by simp)) λq6 H6 e6 h6=>?_
       symm
       have e46:=(e4.trans e5).trans e6;refine M0 (e46.seqT hS3) λq7 H7 e7 h7=>?_;rw[show Kz [V.str "ask",V.str x,V.str y,d,e] (some (3+0+1)) none=[e] from by rfl] at h7;refine Fu (e7.seqT h6) h7 (A7 (by simp)) λq8 H8 e8 h8=>?_;have e47:=(e46.trans e7).trans e8;exact k _ (.tuple [.str "ask",.str x,.str y,D3,B]) H8 (((e1.trans e2).trans e3).same e47) (hF3.same e47) (Is.of_tup h8 (.cons B7 (.cons B7 (.cons B7 (.cons (Is.mono e47 _ _ hI3) (.one (Is.fz ((fz2.trans (hF2.fz e3)).trans e47.fz) _ _ hB.frz he))))))) (.ask hx hy hP3 (hB.le ∅ ∅))
     refine Bg hS2 (by rfl) ?_
     symm
     refine⟨f,l,e,.ref na,ns,B,L,k',rfl,hF2,Is.fz fz2 _ _ hB.frz he,hB,hIn.nm_fz fz2,hNm,.inl hn0,hnl,hL,by omega,λv3 D3 H3 e3 hF3 hI3 hP3=>?_⟩;have hS3:=(hF2.fz e3).seq hS2
     symm
     refine M0 hS3 λq4 H4 e4 h4=>?_;rw[show Kz [V.str "ask",V.str x,V.str y,d,e] none (some (3+1))=[V.str "ask",V.str x,V.str y,d] from by rfl] at h4
     symm
     refine Ap (A7 (by simp)) λq5 H5 hq5 e5 h5=>?_;refine Fu (e5.seqT h4) (SqT.of h5) (A7 (by simp)) λq6 H6 e6 h6=>?_
     symm
     have e46:=(e4.trans e5).trans e6;refine M0 (e46.seqT hS3) λq7 H7 e7 h7=>?_;rw[show Kz [V.str "ask",V.str x,V.str y,d,e] (some (3+1+1)) none=[] from by rfl] at h7;refine Fu (e7.seqT h6) h7 (A7 (by simp)) λq8 H8 e8 h8=>?_;have e47:=(e46.trans e7).trans e8;exact k _ (.tuple [.str "ask",.str x,.str y,A,D3]) H8 (((e1.trans e2).trans e3).same e47) (hF3.same e47) (Is.of_tup h8 (.cons B7 (.cons B7 (.cons B7 (.cons (Is.fz ((fz2.trans (hF2.fz e3)).trans e47.fz) _ _ hA.frz hd) (.one (Is.mono e47 _ _ hI3))))))) (.ask hx hy (hA.le ∅ ∅) hP3)
   symm
   refine Hk (hIn.nm_fz fz1) ?_;rw[A01]
   symm
   refine⟨f,l,_,rfl,hF1,by omega,by omega,λi2 H2 ha0 ha1 e2 hF2=>?_⟩;have fz2:=fz1.trans (hF1.fz e2)
   obtain⟨z,hz,hzi⟩:∃ z,z∈ns/\atI (ns.map V.str) i2=some (.str z):=by
    obtain⟨m,rfl⟩:∃ m:Nat,i2=(m:Int):=⟨i2.toNat,by omega⟩;have hm:m<ns.length:=by omega
    exact⟨ns[m],A4D hm,Bz (by rw[A09,A07 hm];rfl)⟩
   symm
   refine Bg (fz2.seq hSn) hzi ?_
   symm
   have hd2:=Is.fz fz2 _ _ hA.frz hd;have he2:=Is.fz fz2 _ _ hB.frz he;have hI2:=Is.fz fz2 _ _ hfr hI;refine Ap (A7 (by simp)) λq3 H3 hq3 e3 h3=>?_;have d3:Is K H3 (.tuple [.str "ask",.str y,.str x,A,B]) (.ref q3):=Is.of_tup (SqT.of h3) (.cons B7 (.cons B7 (.cons B7 (.cons (Is.mono e3 _ _ hd2) (.one (Is.mono e3 _ _ he2))))))
   symm
   refine Bb (A7 (by simp)) λq4 H4 hq4 e4 h4=>?_
   symm
   refine Ap (A7 (by simp)) λq5 H5 hq5 e5 h5=>?_;have e25:=(e3.trans e4).trans e5;have d5:Is K H5 (.tuple [.str "ask",.str z,.str y,A,B]) (.ref q5):=Is.of_tup (SqT.of h5) (.cons B7 (.cons B7 (.cons B7 (.cons (Is.mono e25 _ _ hd2) (.one (Is.mono e25 _ _ he2))))));have h45:=e5 _ _ h4
   symm
   refine Kq h45 (by simp) λH6 e6 h6=>?_;have fz6:=e6.fzL h45
   symm
   refine Ap (A7 (by simp)) λq7 H7 hq7 e7 h7=>?_;have fz27:=(e25.fz.trans fz6).trans e7.fz;have d7:Is K H7 (.tuple [.str "ask",.str y,.str x,.tuple [.str "ask",.str x,.str y,A,B],B]) (.ref q7):=Is.of_tup (SqT.of h7) (.cons B7 (.cons B7 (.cons B7 (.cons (Is.fz fz27 _ _ hfr hI2) (.one (Is.fz fz27 _ _ hB.frz he2))))));have h67:=e7 _ _ h6
   symm
   refine Kq h67 (by simp) λH8 e8 h8=>?_;have fz8:=e8.fzL h67
   symm
   have e02:ExtBut f H H2:=e1.trans e2;have hq40:H q4=none:=hF2.free e02 (e3.free hq4);have up:ExtBut f H H8:=(((e02.same e25).off hq40 e6).same e7).off hq40 e8;have hF8:Feed H8 f l:=(((hF2.same e25).off e6 hq40 hF).same e7).off e8 hq40 hF;have fz28:=fz27.trans fz8;rcases(show w=5\/w=6\/w=7\/w=8 by omega) with rfl|rfl|rfl|rfl
   . refine Eh h8 (by rfl) ?_;have pl:PlT (2*L) (k'+1+1) (.tuple [.str "ask",.str y,.str x,A,B]):=.ask hy hx (hA.le ∅ ∅) (hB.le ∅ ∅);exact k _ _ H8 up hF8 (Is.fz (((e4.trans e5).fz.trans fz6).trans (e7.fz.trans fz8)) _ _ pl.frz d3) pl
   . refine Eh h8 (by rfl) ?_;exact k _ _ H8 up hF8 (Is.fz fz28 _ _ hA.frz hd2) (hA.le ∅ ∅)
   . refine Eh h8 (by rfl) ?_;have pl:PlT (2*L) (k'+1+1) (.tuple [.str "ask",.str z,.str y,A,B]):=.ask (hNm _ hz) hy (hA.le ∅ ∅) (hB.le ∅ ∅);exact k _ _ H8 up hF8 (Is.fz (fz6.trans (e7.fz.trans fz8)) _ _ pl.frz d5) pl
   refine Eh h8 (by rfl) ?_;have pl:PlT (2*L) (k'+1+1) (.tuple [.str "ask",.str y,.str x,.tuple [.str "ask",.str x,.str y,A,B],B]):=.ask hy hx (PlT.le (PlT.ask hx hy hA hB) ∅ (A06 _)) (hB.le ∅ ∅);exact k _ _ H8 up hF8 (Is.fz fz8 _ _ pl.frz d7) pl
theorem M7 {f:Addr}{fd:FuncData}(F:Fun K "_law_changed" "_law_changed" Br f fd)(T:Gg mg)(A4:Fnd P w K mg base 1 "_law_draw" ["_law_feed_here","_law_many"] (Aq K))(Ge:Fnd P w K mg base 2 "_law_end" ["_law_feed_here","_law_order"] (Gj K))(hm:mg "_law_changed" = some (.ref f))(hk:W.keepIn K (.ref f)=true)(hb:Binds K fd ["_law_feed_here","_law_plan_here","_law_names_here"] []):FnOk P w K mg base CX0 128 f fd ["_law_feed_here","_law_plan_here","_law_names_here"] (Fn K):=by
 have h:∀ n:Nat,FnOk P w K mg base CX0 (3+n) f fd ["_law_feed_here","_law_plan_here","_law_names_here"] (C1 K n):=λn=>by
  induction n with
  |zero=>exact FnOk.void Ho
  |succ n ih=>exact L0 F T A4 Ge n ⟨f,fd,ih,hm,hk,hb⟩
 exact h 125
def Gs (K:W.Frag):Sp:=λvs H Q _=>∃ f l,vs=[.ref f]/\Feed H f l/\∀ v ns ps H',ExtBut f H H'->Feed H' f l->Is K H' (hfD ns ps) v->Half ns ps->0<ns.length->Q v H'
theorem Pb {f:Addr}{fd:FuncData}(F:Fun K "_law_great" "_law_great" Dm f fd)(T:Gg mg)(A4:Fnd P w K mg base 1 "_law_draw" ["_law_feed_here","_law_many"] (Aq K))(Bn:Fnd P w K mg base 2 "_law_names" ["_law_feed_here","_law_many"] (Dv K))(Ak:Fnd P w K mg base 2 "_law_shuffled" ["_law_feed_here","_law_some"] (B9 K)):FnOk P w K mg base CX0 3 f fd ["_law_feed_here"] (Gs K):=by
 refine F.ok Ck (λvs H Q E h=>?_) (λcdv A outer s H vs Q E hr h=>?_)
 . obtain⟨f,l,rfl,_⟩:=h;rfl
 obtain⟨d,l,rfl,hF,k⟩:=h;have hu:=Cs hr;have hq:=Cu hr
 with_reducible refine⟨_,(A2 (Aa (i:=1) Ck.nd ⋯ (by eq_refl) (An Bn (hr.mono nofun) ⋯ (A0 (pv 0) (A0 (Aj (Ab (K:=K)) A3 (An A4 (hr.mono nofun) ⋯ (A0 (pv 0) (A0 A3 A1)))) A1))))
  (A2 (Aa (i:=2) Ck.nd ⋯ (by eq_refl) (An Ak (hr.mono nofun) ⋯ (A0 (pv 0) (A0 (pv 1) A1))))
  (A2 (Aa (i:=3) Ck.nd ⋯ (by eq_refl) (Bc A1))
  (A2 (Du A11 ⋯ (Bu ⋯ T.b_range (A0 (An A4 (hr.mono nofun) ⋯ (A0 (pv 0) (A0 A3 A1))) A1)) (Ad (i:=4) Ck.nd ⋯ (by eq_refl))
  (A2 (Aa (i:=5) Ck.nd ⋯ (by eq_refl) (An A4 (hr.mono nofun) ⋯ (A0 (pv 0) (A0 (Aj Hb (Ac (Au (K:=K)) ⋯ T.b_len PyProof.Rows.Boot.«len» (A0 (pv 2) A1)) A3) A1))))
  (A8 (Dz (Fv (K:=K) A0Y A1H A1I (mm Dq) (pv 3) (A0 (Ao (A0 (Ae (A6 (K:=K) hu) (pv 2) (pv 5) (by ac_rfl)) (A0 (Ae (A6 (K:=K) hu) (pv 2) (Aj (Ab (K:=K)) (Aj (Ab (K:=K)) (pv 5) A3) (An A4 (hr.mono nofun) ⋯ (A0 (pv 0) (A0 (Aj Hb (Aj Hb (Ac (Au (K:=K)) ⋯ T.b_len PyProof.Rows.Boot.«len» (A0 (pv 2) A1)) A3) (pv 5)) A1)))) (by ac_rfl)) A1))) A1))))))
  (A8 (As (Ao (A0 (Ba (C0 (K:=K)) ⋯ T.b_tuple PyProof.Rows.Boot.«tuple» (A0 (pv 1) A1)) (A0 (Ba (C0 (K:=K)) ⋯ T.b_tuple PyProof.Rows.Boot.«tuple» (A0 (pv 3) A1)) A1))))))))),?_⟩
 symm
 refine⟨d,l,3,rfl,hF,by omega,by omega,λu H1 hu0 hu1 e1 hF1=>?_⟩
 symm
 refine⟨d,l,_,rfl,hF1,by omega,by omega,λp2 ns H2 hp2 e2 hF2 h2 hN hl=>?_⟩
 symm
 refine⟨d,l,p2,_,rfl,hF2,.inl (SqL.of h2),by rw[A01];omega,λa ys H3 ha3 e3 hF3 h3 hperm=>?_⟩;obtain⟨ls,rfl,hpm⟩:=Hs hperm;have hll:=hpm.length_eq;have h23:=e3 _ _ (hF2.lst h2) h2
 symm
 refine Bb nofun λp H4 hp4 e4 h4=>?_;have hF4:=hF3.same e4;have h34:=e4 _ _ h3;have h24:=e4 _ _ h23;have hpa:a≠p:=ne_of_none h3 hp4;have hp2p:p2≠p:=ne_of_none h23 hp4;have e03:ExtBut d H H3:=(e1.trans e2).trans e3;have hp0:H p=none:=hF3.free e03 hp4
 symm
 refine⟨d,l,4,rfl,hF4,by omega,by omega,λm H5 hm0 hm1 e5 hF5=>?_⟩;have e05:ExtBut d H H5:=(e03.same e4).trans e5
 symm
 refine Gf ∅ ?_
 refine Ez B5 (λi σ H6=>∃ xs ps x4 x5,σ=[some (V.ref d),some (.ref p2),some (.ref a),some (.ref p),x4,x5]/\ExtBut d H H6/\Feed H6 d l/\H6 p=some (.lst xs)/\H6 a=some (.lst (ls.map V.str))/\H6 p2=some (.lst (ns.map V.str))/\IsL K H6 (ps.map prD) xs/\Up ls ps/\ps.length=i)
  ⟨[],[],_,_,rfl,e05,hF5,e5 _ _ (hF4.lst h4) h4,e5 _ _ (hF4.lst h34) h34,e5 _ _ (hF4.lst h24) h24,.nil,.nil,rfl⟩ (λ_ _ _ _=>trivial) (λi x σ H6 hx6 hi hP=>?_) (fun σ H6 hP=>?_)
 . obtain⟨xs,ps,x4,x5,rfl,e6,hF6,h6,hA6,hB6,hI6,hU,hpl⟩:=hP;obtain⟨rfl,hi2⟩:=Ej hx6;have hxl:=Lb hI6
   symm
   rw[A01];refine⟨d,l,_,rfl,hF6,by omega,by omega,λw H7 hw0 hw1 e7 hF7=>?_⟩;obtain⟨z1,hz1,hz1',_⟩:=str_at? (ls:=ls) (i:=w) hw0 ∅;have hA7:=e7 _ _ (hF6.lst hA6) hA6;have hB7:=e7 _ _ (hF6.lst hB6) hB6;have h7:=e7 _ _ (hF6.lst h6) h6
   symm
   refine Eh hA7 hz1' ?_
   symm
   rw[A01];refine⟨d,l,_,rfl,hF7,by omega,by omega,λw2 H8 hv0 hv1 e8 hF8=>?_⟩;obtain⟨z2,hz2,hz2',_⟩:=str_at? (ls:=ls) (i:=w+1+w2) ∅ ∅;have hA8:=e8 _ _ (hF7.lst hA7) hA7;have hB8:=e8 _ _ (hF7.lst hB7) hB7;have h8:=e8 _ _ (hF7.lst h7) h7
   symm
   refine Eh hA8 hz2' ?_
   symm
   refine Ap (A7 (by simp)) λt H9 ht9 e9 h9=>?_;have h9p:=e9 _ _ h8
   symm
   refine Kq h9p ∅ λH10 e10 h10=>?_
   symm
   have fz10:Fz H9 H10:=e10.fzL h9p;have fz9:Fz H6 H9:=((hF6.fz e7).trans (hF7.fz e8)).trans e9.fz;refine⟨xs++[.ref t],ps++[(z1,z2)],_,_,rfl,(((e6.trans e7).trans e8).same e9).off hp0 e10,(hF8.same e9).off e10 hp0 hF,h10,e10 _ _ hpa (e9 _ _ hA8),e10 _ _ hp2p (e9 _ _ hB8),?_,hU.append (.one ∅ hz1 hz2),by simp[hpl]⟩;rw[A0N];exact(IsL.fz (fz9.trans fz10) _ _ (Bs ps) hI6).append (.one ((Mb (SqT.of h9)).pr_fz fz10))
 obtain⟨xs,ps,x4,x5,rfl,e6,hF6,h6,hA6,hB6,hI6,hU,hpl⟩:=hP;rw[A01,A1L] at hpl
 symm
 refine Js (SqL.of hB6) λt7 H7 ht7 e7 h7=>?_
 symm
 refine Wt (e7 _ _ h6) (IsL.mono e7 _ _ hI6) λw8 H8 e8 hI8=>?_
 symm
 refine Ap (A7 (by simp)) λt9 H9 ht9 e9 h9=>?_;have e79:=(e7.trans e8).trans e9;exact k (.ref t9) ns ps H9 (e6.same e79) (hF6.same e79) (Zk (SqT.of h9) ((Jy (SqT.of h7)).nm_fz (e8.trans e9).fz) (hI8.ps_fz e9.fz)) (X3 hN ∅ hpm hU ∅) ∅
def spLaw (P P':Addr)(K:W.Frag):Sp:=λvs H Q _=>∃(a:Addr) (ns:List Int),vs=[.ref a]/\SqL K H a (ns.map V.int)/\ns.length<=63/\[P,P'].Nodup/\(∀ p∈[P,P'],H p=some (.tbl #[])\/False)/\∀ H',Q (.bl true) H'
structure Lm2 (P P':Addr)(H:Hp):Prop where
 b:LmR P H
 r:LmJ P' H
 ne:P≠P'
theorem Lm2.same {P P':Addr}{H H':Hp}(h:Lm2 P P' H)(e:Same H H'):Lm2 P P' H':=⟨h.b.same e,h.r.same e,h.ne⟩
theorem Lm2.draw {P P' f l:Addr}{H H':Hp}(h:Lm2 P P' H)(hF:Feed H f l)(e:ExtBut f H H'):Lm2 P P' H':=by obtain⟨_,_,_,_,h1,_⟩:=hF;exact⟨LamT.but h.b e h1 (λ_ z=>by cases z) (λ_ z=>by cases z),LamT.but h.r e h1 (λ_ z=>by cases z) (λ_ z=>by cases z),h.ne⟩
theorem Lm2.goB {P P':Addr}{H H':Hp}(h:Lm2 P P' H)(e:ExtBut P H H')(h':LmR P H'):Lm2 P P' H':=⟨h',LamT.other h.r h.b h.ne e,h.ne⟩
theorem Lm2.goR {P P':Addr}{H H':Hp}(h:Lm2 P P' H)(e:ExtBut P' H H')(h':LmJ P' H'):Lm2 P P' H':=⟨LamT.other h.b h.r (Ne.symm h.ne) e,h',h.ne⟩
theorem Xu:∀ q:List Int,PyData.eqvAll (q.map PyData.int) (q.map PyData.int)=true
 | []=>rfl
 |a :: q=>by simp only[List.map_cons,PyData.eqvAll,PyData.eqv,beq_self_eq_true,Bool.true_and];exact Xu q
theorem Om (R:Res):PyData.eqv (a34 R) (a34 R)=true:=by
 cases R with
 |deep m=>simp[a34,PyData.eqv,PyData.eqvAll]
 |no w q=>have:=Xu q;simp only[a34,jsD,PyData.eqv,PyData.eqvAll,beq_self_eq_true,Bool.true_and,Bool.and_true];exact this
def a78 (n k:Nat):Res->Prop
 |.deep m=>m<=n
 |.no w q=>(w = "shape" \/ w = "end" \/ w = "told")/\q.length<=k/\∀ j∈q,j=0\/j=1
theorem Wd.word {ns:List Str}{ps:List (Str×Str)}{D:PyData}{w:Str}(h:Wd ns ps D (some w)):w = "shape" \/ w = "end" \/ w = "told":=by
 cases h
 . exact .inl rfl
 . exact .inr (.inl rfl)
 exact .inr (.inr rfl)
theorem ax7 {ns:List Str}{ps:List (Str×Str)}{D:PyData}{js:List Int}{R:Res}(h:Jd ns ps D js R):∀ {n w W:Nat},Dk n w W D->(∀ j∈js,j=0\/j=1)->a78 n (js.length+n) R:=by
 have two:∀ {n w W:Nat} {x y:Str} {A B:PyData},Dk n w W (Kh x y A B)->∃ n',n=n'+1/\(∃ u,Dk n' u W A)/\∃ u,Dk n' u W B:=fun {n w W x y A B} h=>by
  have hn0:1<=n:=by have:=h.dp;simp only[Kh,PyData.depth] at this;omega
  obtain⟨n',rfl⟩:∃ n',n=n'+1:=⟨n-1,by omega⟩;exact⟨n',rfl,h.els.all A (by simp),h.els.all B (by simp)⟩
 have snoc:∀ {js:List Int} {b:Int},(∀ j∈js,j=0\/j=1)->(b=0\/b=1)->∀ j∈js++[b],j=0\/j=1:=fun {js b} h hb j hj=>by
  rcases A0E.mp hj with g|g
  . exact h j g
  rw[A0G.mp g];exact hb
 have grow:∀ {n n' a b:Nat} {w:Str} {q:List Int},a78 n a (.no w q)->a<=b->a78 n' b (.no w q):=fun {n n' a b w q} h hab=>⟨h.1,A0L h.2.1 hab,h.2.2⟩
 induction h with
 |no a=>intro n w W hk hj;exact⟨a.word,by omega,hj⟩
 |fin _ _=>intro n w W hk hj;exact A2H _
 |first e _ _ ih=>intro n w W hk hj;subst e;obtain⟨n',rfl,⟨u,ha⟩,_⟩:=two hk;exact grow (ih ha (snoc hj (.inl rfl))) (by rw[A04,A0J];omega)
 |second e _ _ _ _ ih=>intro n w W hk hj;subst e;obtain⟨n',rfl,_,⟨u,hb⟩⟩:=two hk;exact grow (ih hb (snoc hj (.inr rfl))) (by rw[A04,A0J];omega)
 |@ask _ _ _ _ js _ _ m1 m2 e _ _ _ ih1 ih2=>intro n w W hk hj;subst e;obtain⟨n',rfl,⟨u,ha⟩,⟨v,hb⟩⟩:=two hk;have a1:m1<=n':=ih1 ha (snoc hj (.inl rfl));have a2:m2<=n':=ih2 hb (snoc hj (.inr rfl));show 1+max m1 m2<=n'+1;omega
theorem an8 {n k:Nat}{R:Res}(h:a78 n k R)(hn:n<=100)(hk:k<=100):SeqAt.shaped (a34 R)=true:=by
 cases R with
 |deep m=>
   have h':m<=n:=h;refine(Nb (p:=2) (w:=400) (W:=2) ⟨λe he=>?_,?_,by simp⟩).shaped ∅
   . simp only[List.mem_cons,List.not_mem_nil,or_false] at he;rcases he with rfl|rfl
     . exact⟨4,Jx (by unfold Asc;decide +kernel) nofun⟩
     exact⟨150,Ti ∅⟩
   have a:=(Ti (p:=1) (W:=1) (m:=(m:Int)) ∅).wt;have b:(PyData.str "deep").weight=4:=by decide +kernel
   simp only[PyData.weightAll];rw[b];omega
 |no w q=>
   obtain⟨h1,h2,h3⟩:=h
   have hq:Els 1 (100*151) 100 (q.map PyData.int):=by
    refine⟨λe he=>?_,?_,by rw[A01];omega⟩
    . obtain⟨j,hj,rfl⟩:=A0K.mp he;exact⟨150,Ti (by rcases h3 j hj with rfl|rfl<;>decide)⟩
    have:=Wr (k:=150) (ds:=q.map PyData.int) λe he=>by obtain⟨j,hj,rfl⟩:=A0K.mp he;exact(Ti (p:=1) (W:=1) (m:=j) (by rcases h3 j hj with rfl|rfl<;>decide)).wt
    rw[A01] at this;exact A0L this (A2B ∅ (A06 _))
   have a:=Nb hq
   have hw:Dk 2 5 100 (.str w)/\(PyData.str w).weight<=5:=by
    rcases h1 with rfl|rfl|rfl
    . exact⟨Jx (by unfold Asc;decide +kernel) nofun,by decide +kernel⟩
    . exact⟨Jx (by unfold Asc;decide +kernel) nofun,by decide +kernel⟩
    exact⟨Jx (by unfold Asc;decide +kernel) nofun,by decide +kernel⟩
   refine(Nb (p:=2) (w:=20000) (W:=100) ⟨λe he=>?_,?_,by simp⟩).shaped ∅
   . simp only[List.mem_cons,List.not_mem_nil,or_false] at he;rcases he with rfl|rfl
     . exact⟨_,hw.1⟩
     exact⟨_,a⟩
   have:=a.wt;have:=hw.2;simp only[PyData.weightAll];show(PyData.str w).weight+1+((PyData.tuple (q.map PyData.int)).weight+1+0)<=_;omega
theorem Yr {P f l:Addr}{H H':Hp}{tps:Array Value}(ht:H P=some (.tbl tps))(hF:Feed H f l)(e:ExtBut P H H'):Feed H' f l:=by obtain⟨a,t,u,cs,h1,h2,h3,h4⟩:=hF;exact⟨a,t,u,cs,e _ _ (ne_of h1 ht (by intro z;cases z)) h1,e _ _ (ne_of h2 ht (by intro z;cases z)) h2,h3,h4⟩
structure Wo (K:W.Frag)(P P' f l:Addr)(H0 H:Hp):Prop where
 feed:Feed H f l
 lm:Lm2 P P' H
 kk:∀ {D v},Is K H0 D v->Is K H D v
section
variable {K:W.Frag}{P P' f l:Addr}{H0 H H':Hp}
theorem Wo.on (h:Wo K P P' f l H0 H)(g:Wo K P P' f l H H'):Wo K P P' f l H0 H':=⟨g.feed,g.lm,λq=>g.kk (h.kk q)⟩
theorem Wo.draw (h:Wo K P P' f l H0 H)(e:ExtBut f H H')(hF:Feed H' f l):Wo K P P' f l H H':=by obtain⟨kvs,hd⟩:∃ kvs,H f=some (.dK kvs):=let ⟨_,_,_,_,h1,_⟩:=h.feed;⟨_,h1⟩;exact⟨hF,h.lm.draw h.feed e,λq=>Is.off hd e _ _ q⟩
theorem Wo.same (h:Wo K P P' f l H0 H)(e:Same H H'):Wo K P P' f l H H':=⟨h.feed.same e,h.lm.same e,λq=>Is.mono e _ _ q⟩
variable {ns:List Str}{ps:List (Str×Str)}{D:PyData}{hv v:V}{n w W:Nat}{Q:VK}{E:XK}
theorem Wo.told (h:Wo K P P' f l H0 H)(hw:HalfW ns ps)(hN:∀ z∈ns,I0 z=true)(h10:ns.length<=10)(hp:ps.length<=60)(hI:Is K H (hfD ns ps) hv)(hD:Is K H D v)(hd:Dk n w W D)(hn:n<=60)(k:∀ R u H',Jd ns ps D [] R->Wo K P P' f l H H'->Is K H' (a34 R) u->Q u H'):Cp P K [hv,v] H Q E:=by obtain⟨tps,ht⟩:=De h.lm.b;exact⟨hv,v,ns,ps,D,n,w,W,rfl,hI,hw,hN,h10,hD,hd,hn,by omega,h.lm.b,λR u H' j e hL hR=>k R u H' j ⟨Yr ht h.feed e,h.lm.goB e hL,λq=>L9 e ht q⟩ hR⟩
theorem Wo.judged {t:Addr}(h:Wo K P P' f l H0 H)(ht:H t=some (.tup []))(hw:HalfW ns ps)(hN:∀ z∈ns,I0 z=true)(h10:ns.length<=10)(hp:ps.length<=60)(hI:Is K H (hfD ns ps) hv)(hD:Is K H D v)(hd:Dk n w W D)(hn:n<=60){R:Res}(j:Jd ns ps D [] R)(k:∀ u H',SeqAt.shaped (a34 R)=true->Wo K P P' f l H H'->Is K H' (a34 R) u->Q u H'):Er P' K [hv,v,.ref t] H Q E:=by obtain⟨tps,hb⟩:=De h.lm.r;refine⟨hv,v,t,[],ns,ps,D,n,w,W,rfl,hI,hw,hN,λp hp=>⟨hN _ (hw.mem p hp).1,hN _ (hw.mem p hp).2⟩,h10,hD,hd,SqT.of ht,by omega,hn,by omega,by simp;omega,h.lm.r,λR' u H' j2 e hL hR=>?_⟩;have hRR:=j.det _ j2;subst hRR;exact k u H' (an8 (ax7 j hd (λj hj=>by cases hj)) ∅ (by simp;omega)) ⟨Yr hb h.feed e,h.lm.goR e hL,λq=>L9 e hb q⟩ hR
end
theorem av0 {f:Addr}{fd:FuncData}(F:Fun K "law" "law" On f fd)(T:Gg mg){P_row:Addr}{P_jud:Addr}(Iy:Fnd P w K mg base 1 "_law_feed" ["_law_script"] (Hw K))(A4:Fnd P w K mg base 1 "_law_draw" ["_law_feed_here","_law_many"] (Aq K))(Gx:Fnd P w K mg base 1 "_law_orders" ["_law_half_here"] (G5 K))(K2:Fnd P w K mg base 5 "_law_few" ["_law_feed_here"] (Iz K))(El:Fnd P w K mg base 128 "_law_plan" ["_law_feed_here","_law_names_here","_law_orders_here"] (Hh K))(Bm:Fnd P w K mg base 130 "_law_judged" ["_law_half_here","_law_thing","_law_path"] (Er P_jud K))(C3:Fnd P w K mg base 131 "_law_plan_told" ["_law_half_here","_law_thing"] (Cp P_row K))(C7:Fnd P w K mg base 128 "_law_changed" ["_law_feed_here","_law_plan_here","_law_names_here"] (Fn K))(Ec:Fnd P w K mg base 14 "_law_stub" ["_law_feed_here","_law_names_here","_law_deep"] (Hv K))(He:Fnd P w K mg base 3 "_law_great" ["_law_feed_here"] (Gs K)):FnOk P w K mg base CX0 132 f fd ["_law_script"] (spLaw P_row P_jud K):=by
 refine F.ok Ip (λvs H Q E h=>?_) (λcdv A outer s H vs Q E hr h=>?_)
 . obtain⟨a,ns,rfl,_⟩:=h;rfl
 obtain⟨a,cs,rfl,hS,h63,hnd,htb,k⟩:=h;have hu:=Cs hr;have hq:=Cu hr;have hT:Lm2 P_row P_jud H:=⟨.inl ((htb P_row (by simp)).resolve_right id),.inl ((htb P_jud (by simp)).resolve_right id),by simpa using hnd⟩
 with_reducible refine⟨_,(A2 (Aa (i:=1) Ip.nd ⋯ (by eq_refl) (An Iy (hr.mono nofun) ⋯ (A0 (pv 0) A1)))
  (A2 (Aa (i:=2) Ip.nd ⋯ (by eq_refl) (An K2 (hr.mono nofun) ⋯ (A0 (pv 1) A1)))
  (A2 (Aa (i:=3) Ip.nd ⋯ (by eq_refl) (An El (hr.mono nofun) ⋯ (A0 (pv 1) (A0 (Ae (A6 (K:=K) hu) (pv 2) A3 (by ac_rfl)) (A0 (An Gx (hr.mono nofun) ⋯ (A0 (pv 2) A1)) A1)))))
  (A2 (Du A11 ⋯ (Bu ⋯ T.b_range (A0 A3 A1)) (Ad (i:=4) Ip.nd ⋯ (by eq_refl))
  (A2 (Aa (i:=5) Ip.nd ⋯ (by eq_refl) (An C7 (hr.mono nofun) ⋯ (A0 (pv 1) (A0 (pv 3) (A0 (Ae (A6 (K:=K) hu) (pv 2) A3 (by ac_rfl)) A1)))))
  (A2 (Cd (Af (Bx (K:=K) hq) (An A4 (hr.mono nofun) ⋯ (A0 (pv 1) (A0 A3 A1))) A3 (Av _)) (A8 (Aa (i:=5) Ip.nd ⋯ (by eq_refl) (An C7 (hr.mono nofun) ⋯ (A0 (pv 1) (A0 (pv 5) (A0 (Aj (Ab (K:=K)) (Ae (A6 (K:=K) hu) (pv 2) A3 (by ac_rfl)) (Ao (A0 Al A1))) A1)))))) Aw)
  (A8 (Cd (Af (Iv (K:=K) hq) (An C3 (hr.mono nofun) ⋯ (A0 (pv 2) (A0 (pv 5) A1))) (An Bm (hr.mono nofun) ⋯ (A0 (pv 2) (A0 (pv 5) (A0 (Ao A1) A1)))) (Av _)) (A8 (As Xv)) Aw)))))
  (A2 (Aa (i:=6) Ip.nd ⋯ (by eq_refl) (An He (hr.mono nofun) ⋯ (A0 (pv 1) A1)))
  (A2 (Du A11 ⋯ (Bu ⋯ T.b_range (A0 A3 A1)) (Ad (i:=4) Ip.nd ⋯ (by eq_refl))
  (A2 (Aa (i:=5) Ip.nd ⋯ (by eq_refl) (An Ec (hr.mono nofun) ⋯ (A0 (pv 1) (A0 (Ae (A6 (K:=K) hu) (pv 6) A3 (by ac_rfl)) (A0 A3 A1)))))
  (A8 (Cd (Af (Iv (K:=K) hq) (An C3 (hr.mono nofun) ⋯ (A0 (pv 6) (A0 (pv 5) A1))) (An Bm (hr.mono nofun) ⋯ (A0 (pv 6) (A0 (pv 5) (A0 (Ao A1) A1)))) (Av _)) (A8 (As Xv)) Aw))))
  (A8 (As (Fp (Bx (K:=K) hq) (An C3 (hr.mono nofun) ⋯ (A0 (pv 2) (A0 (pv 3) A1))) (An Bm (hr.mono nofun) ⋯ (A0 (pv 2) (A0 (pv 3) (A0 (Ao A1) A1)))) (Av _)))))))))),?_⟩
 symm
 refine⟨a,cs,rfl,hS,h63,λf l H1 hf hl e1 hF=>?_⟩;have hT1:=hT.same e1
 symm
 refine⟨f,l,rfl,hF,λhv ns ps H2 e2 hF2 hI2 hQ=>?_⟩;have hT2:=hT1.draw hF e2;have hcn:=hQ.cn;have hple:=hQ.le;have hcp:=M6 (b:=Ay ps) (λx=>Kb hQ.w x) (λx y z a b=>wayB_iff.mpr ((wayB_iff.mp a).trans (wayB_iff.mp b))) ns.length ns rfl hQ.w.nd;have hcl:cnt (Ay ps) ns=(ext (Ay ps) ns.length ns).length:=rfl;have hNp:NmP ps:=λp hp=>⟨hQ.nm _ (hQ.w.mem p hp).1,hQ.nm _ (hQ.w.mem p hp).2⟩
 symm
 refine Jq hI2 λnv hN=>?_
 symm
 refine⟨hv,ns,ps,rfl,.of hI2,hQ.w,hQ.few,by omega,λol ys H3 hol e3 h3 hL3=>?_⟩;have hF3:=hF2.same e3;have hT3:=hT2.same e3
 symm
 refine⟨f,l,nv,ol,ns,ps,ext (Ay ps) ns.length ns,ys,rfl,hF3,hN.nm_fz e3.fz,h3,hL3,hQ.w,hQ.few,.refl _,by omega,by omega,by omega,by omega,λpv D m H4 e4 hF4 hP hm hIp=>?_⟩;have hm45:=hP.le45 hQ.few;have hfew:=hQ.few;have hpt:PlT 10 45 D:=(PlT.of_plan hQ.nm hP hQ.w ∅).le hfew hm45;obtain⟨w0,W0,hd0⟩:=hpt.dk;have wo4:Wo K P_row P_jud f l H4 H4:=⟨hF4,hT3.draw hF3 e4,id⟩;have hI4:=(hI2.hf_fz e3.fz).hf_fz (hF3.fz e4)
 symm
 refine Gf ∅ ?_
 refine Ez B5 (λi σ H'=>∃ x4 x5,σ=[some (.ref a),some (.ref f),some hv,some pv,x4,x5,none]/\Wo K P_row P_jud f l H4 H')
  ⟨_,_,rfl,wo4⟩ (λ_ _ _ _=>trivial) (λi x σ H5 hx hi hPv=>?_) (fun σ H5 hPv=>?_)
 . obtain⟨x4,x5,rfl,wo5⟩:=hPv
   symm
   refine Jq (wo5.kk hI4) λnv5 hN5=>?_
   symm
   refine⟨f,l,pv,nv5,ns,D,10,45,rfl,wo5.feed,wo5.kk hIp,hpt,hN5,hQ.nm,?_,by omega,by omega,by omega,λv6 D6 H6 e6 hF6 hI6 hP6=>?_⟩
   . cases hP with
     |fin _=>exact .inr ⟨_,rfl⟩
     |ask hx _ _ _ _ _=>exact .inl (A36 hx)
   have wo6:=wo5.on (wo5.draw e6 hF6);walk_at "rq"
   with_reducible refine Op (fun σ' H'=>∃ v7 D7,σ'=[some (.ref a),some (.ref f),some hv,some pv,some x,some v7,none]/\Wo K P_row P_jud f l H4 H'/\Is K H' D7 v7/\PlT 40 47 D7) (λN hN=>?_) (fun σ1 H7 hM=>?_)
   . symm
     refine⟨f,l,2,rfl,hF6,by omega,by omega,λc H7 hc0 hc1 e7 hF7=>?_⟩;have wo7:=wo6.draw e7 hF7
     symm
     refine Ly (λhc=>?_) (λhc=>?_)
     . symm
       refine Jq (wo7.kk (wo6.kk hI4)) λnv8 hN8=>?_
       symm
       refine Ap (A7 (by simp)) λt9 H9 ht9 e9 h9=>?_;obtain⟨na,rfl,hSn⟩:=hN8.nm
       symm
       refine Fu (e9.seqT hSn) (SqT.of h9) (A7 (by simp;omega)) λq10 H10 e10 h10=>?_;have wo9:=wo7.same e9;have wo10:=wo9.on (wo9.same e10)
       symm
       refine⟨f,l,v6,.ref q10,ns++[("a":Str)],D6,20,46,rfl,wo10.feed,wo10.kk (wo7.kk hI6),hP6,Is.of_tup (show SqT K H10 q10 ((ns++[("a":Str)]).map V.str) by rw[List.map_append];exact h10) (G3 _),λz hz=>?_,.inl (by simp),by simp;omega,by omega,by omega,λv11 D11 H11 e11 hF11 hI11 hP11=>?_⟩
       . rcases A0E.mp hz with g|g
         . exact hQ.nm z g
         rw[A0G.mp g];decide +kernel
       symm
       exact hN _ _ ⟨_,_,rfl,(wo6.on wo7).on (wo10.on (wo10.draw e11 hF11)),hI11,hP11⟩
     symm
     exact hN _ _ ⟨_,_,rfl,wo6.on wo7,wo7.kk hI6,hP6.le ∅ ∅⟩
   obtain⟨v7,D7,rfl,wo7,hI7,hP7⟩:=hM;obtain⟨w7,W7,hd7⟩:=hP7.dk
   symm
   refine wo7.told hQ.w hQ.nm hfew ∅ (wo7.kk hI4) hI7 hd7 ∅ λR u H8 j wo8 hR8=>?_
   symm
   refine Ap (A7 (by simp)) λtp H9 htp e9 h9=>?_;have wo9:=wo8.on (wo8.same e9)
   symm
   refine wo9.judged h9 hQ.w hQ.nm hfew ∅ (wo9.kk (wo7.kk hI4)) (wo9.kk hI7) hd7 ∅ j λu' H10 hs wo10 hR10=>?_
   symm
   refine Wf (wo10.kk (Is.mono e9 _ _ hR8)) hR10 hs hs ⟨_,rfl,?_⟩;rw[Om]
   symm
   exact⟨_,_,rfl,wo7.on (wo9.on wo10)⟩
 obtain⟨x4,x5,rfl,wo5⟩:=hPv
 symm
 refine⟨f,l,rfl,wo5.feed,λgv ms qs H6 e6 hF6 hG hHf hpos=>?_⟩;have wo6:=wo5.on (wo5.draw e6 hF6);have wg:Wo K P_row P_jud f l H6 H6:=⟨wo6.feed,wo6.lm,id⟩
 symm
 refine Gf ∅ ?_
 refine Ez B5 (λi σ H'=>∃ x4 x5,σ=[some (.ref a),some (.ref f),some hv,some pv,x4,x5,some gv]/\Wo K P_row P_jud f l H6 H')
  ⟨_,_,rfl,wg⟩ (λ_ _ _ _=>trivial) (λi x σ H7 hx hi hPv=>?_) (fun σ H7 hPv=>?_)
 . obtain⟨x4,x5,rfl,wo7⟩:=hPv
   symm
   refine Jq (wo7.kk hG) λnv7 hN7=>?_
   symm
   refine⟨f,l,nv7,ms,4,rfl,wo7.feed,hN7,hHf.names.2,hpos,hHf.few,by omega,λv8 D8 H8 e8 hF8 hI8 hP8=>?_⟩;have wo8:=wo7.on (wo7.draw e8 hF8);obtain⟨w8,W8,hd8⟩:=hP8.dk
   symm
   refine wo8.told hHf.w hHf.names.2 hHf.few hHf.le (wo8.kk hG) hI8 hd8 ∅ λR u H9 j wo9 hR9=>?_
   symm
   refine Ap (A7 (by simp)) λtp H10 htp e10 h10=>?_;have wo10:=wo9.on (wo9.same e10)
   symm
   refine wo10.judged h10 hHf.w hHf.names.2 hHf.few hHf.le (wo10.kk (wo8.kk hG)) (wo10.kk hI8) hd8 ∅ j λu' H11 hs wo11 hR11=>?_
   symm
   refine Wf (wo11.kk (Is.mono e10 _ _ hR9)) hR11 hs hs ⟨_,rfl,?_⟩;rw[Om]
   symm
   exact⟨_,_,rfl,wo8.on (wo10.on wo11)⟩
 obtain⟨x4,x5,rfl,wo7⟩:=hPv;have woZ:=wo6.on wo7
 symm
 refine woZ.told hQ.w hQ.nm hfew ∅ (woZ.kk hI4) (woZ.kk hIp) hd0 ∅ λR u H8 j wo8 hR8=>?_
 symm
 refine Ap (A7 (by simp)) λtp H9 htp e9 h9=>?_;have wo9:=wo8.on (wo8.same e9)
 symm
 refine wo9.judged h9 hQ.w hQ.nm hfew ∅ (wo9.kk (woZ.kk hI4)) (wo9.kk (woZ.kk hIp)) hd0 ∅ j λu' H10 hs wo10 hR10=>?_
 symm
 refine W4 (wo10.kk (Is.mono e9 _ _ hR8)) hR10 hs hs ?_;rw[Om];exact k H10
end
theorem all_mk {l:W.OpenLaw}{w:World}{K:W.Frag}{h:Heap}{mg:Str->Option Value}{fa f0 f1 f2 f3 f4 f5 f6 f7 f8 f9 f10 f11 f12 f13 f14 f15 f16 f17 f18 f19 f20 f21 f22 f23 f24 f25 f26 f27 f28 f29 f30 f31 f32 f33 C_HalfError C_NoHalf C_NoText C_NoName C_TooMany C_NoCover C_NoPlace C_NoOrder C_NoJoin C_Clash C_NoPaper C_NoPlan C_NoBound C_NoSaying C_NoMore P_row T4 P_jud My:Addr}(X:K.In h)(G:h.Ns mainGlobals mg)(hfa:mg "law" = some (.ref fa))
  {D0 N0 D1 N1 D2 N2 D3 N3 D4 N4 D5 N5 D6 N6 D7 N7 D8 N8 D9 N9 D10 N10 D11 N11 D12 N12 D13 N13 D14 N14 D15 N15 D16 N16 D17 N17 D18 N18 D19 N19 D20 N20 D21 N21 D22 N22 D23 N23 D24 N24 D25 N25 D26 N26 D27 N27 D28 N28 D29 N29 D30 N30 D31 N31 D32 N32 D33 N33:Option Addr} {S0 S1 S2 S3 S4 S5 S6 S7 S8 S9 S10 S11 S12 S13 S14 S15 S16 S17 S18 S19 S20 S21 S22 S23 S24 S25 S26 S27 S28 S29 S30 S31 S32 S33:Array (Option Value)} {O0 V0 E0 P0 Q0 U0 O1 V1 E1 P1 Q1 U1 O2 V2 E2 P2 Q2 U2 O3 V3 E3 P3 Q3 U3 O4 V4 E4 P4 Q4 U4 O5 V5 E5 P5 Q5 U5 O6 V6 E6 P6 Q6 U6 O7 V7 E7 P7 Q7 U7 O8 V8 E8 P8 Q8 U8 O9 V9 E9 P9 Q9 U9 O10 V10 E10 P10 Q10 U10 O11 V11 E11 P11 Q11 U11 O12 V12 E12 P12 Q12 U12 O13 V13 E13 P13 Q13 U13 O14 V14 E14 P14 Q14 U14 O15 V15 E15 P15 Q15 U15 O16 V16 E16 P16 Q16 U16 O17 V17 E17 P17 Q17 U17 O18 V18 E18 P18 Q18 U18 O19 V19 E19 P19 Q19 U19 O20 V20 E20 P20 Q20 U20 O21 V21 E21 P21 Q21 U21 O22 V22 E22 P22 Q22 U22 O23 V23 E23 P23 Q23 U23 O24 V24 E24 P24 Q24 U24 O25 V25 E25 P25 Q25 U25 O26 V26 E26 P26 Q26 U26 O27 V27 E27 P27 Q27 U27 O28 V28 E28 P28 Q28 U28 O29 V29 E29 P29 Q29 U29 O30 V30 E30 P30 Q30 U30 O31 V31 E31 P31 Q31 U31 O32 V32 E32 P32 Q32 U32 O33 V33 E33 P33 Q33 U33:Value}
  (cg:W.specialIn K (.builtin "object.__class__") "__get__" = some (some (.builtin "getset_descriptor.__get__"))) (ct:W.takesIn K (.builtin "object.__class__")=some true)
  (aX_HalfError:W.nsIn K mainGlobals "HalfError" = some (some (.ref C_HalfError)))
  (aX_NoHalf:W.nsIn K mainGlobals "NoHalf" = some (some (.ref C_NoHalf)))
  (aX_NoText:W.nsIn K mainGlobals "NoText" = some (some (.ref C_NoText)))
  (aX_NoName:W.nsIn K mainGlobals "NoName" = some (some (.ref C_NoName)))
  (aX_TooMany:W.nsIn K mainGlobals "TooMany" = some (some (.ref C_TooMany)))
  (aX_NoCover:W.nsIn K mainGlobals "NoCover" = some (some (.ref C_NoCover)))
  (aX_NoPlace:W.nsIn K mainGlobals "NoPlace" = some (some (.ref C_NoPlace)))
  (aX_NoOrder:W.nsIn K mainGlobals "NoOrder" = some (some (.ref C_NoOrder)))
  (aX_NoJoin:W.nsIn K mainGlobals "NoJoin" = some (some (.ref C_NoJoin)))
  (aX_Clash:W.nsIn K mainGlobals "Clash" = some (some (.ref C_Clash)))
  (aX_NoPaper:W.nsIn K mainGlobals "NoPaper" = some (some (.ref C_NoPaper)))
  (aX_NoPlan:W.nsIn K mainGlobals "NoPlan" = some (some (.ref C_NoPlan)))
  (aX_NoBound:W.nsIn K mainGlobals "NoBound" = some (some (.ref C_NoBound)))
  (aX_NoSaying:W.nsIn K mainGlobals "NoSaying" = some (some (.ref C_NoSaying)))
  (aX_NoMore:W.nsIn K mainGlobals "NoMore" = some (some (.ref C_NoMore)))
  (ex_HalfError:xF K C_HalfError C_HalfError true true []=true)
  (ex_NoHalf:xF K C_NoHalf C_HalfError false false ["word","number"]=true)
  (ex_NoText:xF K C_NoText C_HalfError false false ["row"]=true)
  (ex_NoName:xF K C_NoName C_HalfError false false ["name"]=true)
  (ex_TooMany:xF K C_TooMany C_HalfError false false ["word"]=true)
  (ex_NoCover:xF K C_NoCover C_HalfError false true []=true)
  (ex_NoPlace:xF K C_NoPlace C_HalfError false false ["number"]=true)
  (ex_NoOrder:xF K C_NoOrder C_HalfError false true []=true)
  (ex_NoJoin:xF K C_NoJoin C_HalfError false false ["word"]=true)
  (ex_Clash:xF K C_Clash C_HalfError false false ["way"]=true)
  (ex_NoPaper:xF K C_NoPaper C_HalfError false false ["word","row"]=true)
  (ex_NoPlan:xF K C_NoPlan C_HalfError false false ["word","path"]=true)
  (ex_NoBound:xF K C_NoBound C_HalfError false false ["word","row"]=true)
  (ex_NoSaying:xF K C_NoSaying C_HalfError false false ["number"]=true)
  (ex_NoMore:xF K C_NoMore C_HalfError false true []=true)
  (ndX:([C_HalfError,C_Clash,C_NoBound,C_NoCover,C_NoHalf,C_NoJoin,C_NoMore,C_NoName,C_NoOrder,C_NoPaper,C_NoPlace,C_NoPlan,C_NoSaying,C_NoText,C_TooMany]:List Addr).Nodup)
  (a0:W.nsIn K mainGlobals "behind_each" = some (some (.ref f0))) (l0:K.lookup f0=some ⟨O0,D0,.func (W.fnOf "behind_each" "behind_each" (Am Cj) (Ai Cj) (A5 Cj) .none V0 E0 P0 N0 Q0 U0),S0⟩) (c0:W.codeIn K Q0 "behind_each" = true) (k0:W.keepIn K (.ref f0)=true)
  (a1:W.nsIn K mainGlobals "are_untold" = some (some (.ref f1))) (l1:K.lookup f1=some ⟨O1,D1,.func (W.fnOf "are_untold" "are_untold" (Am Di) (Ai Di) (A5 Di) .none V1 E1 P1 N1 Q1 U1),S1⟩) (c1:W.codeIn K Q1 "are_untold" = true) (k1:W.keepIn K (.ref f1)=true)
  (a2:W.nsIn K mainGlobals "is_tuple_of" = some (some (.ref f2))) (l2:K.lookup f2=some ⟨O2,D2,.func (W.fnOf "is_tuple_of" "is_tuple_of" (Am Cm) (Ai Cm) (A5 Cm) .none V2 E2 P2 N2 Q2 U2),S2⟩) (c2:W.codeIn K Q2 "is_tuple_of" = true) (k2:W.keepIn K (.ref f2)=true)
  (a3:W.nsIn K mainGlobals "are_two_untold" = some (some (.ref f3))) (l3:K.lookup f3=some ⟨O3,D3,.func (W.fnOf "are_two_untold" "are_two_untold" (Am Bk) (Ai Bk) (A5 Bk) .none V3 E3 P3 N3 Q3 U3),S3⟩) (c3:W.codeIn K Q3 "are_two_untold" = true) (k3:W.keepIn K (.ref f3)=true)
  (a4:W.nsIn K mainGlobals "is_row_of" = some (some (.ref f4))) (l4:K.lookup f4=some ⟨O4,D4,.func (W.fnOf "is_row_of" "is_row_of" (Am Ed) (Ai Ed) (A5 Ed) .none V4 E4 P4 N4 Q4 U4),S4⟩) (c4:W.codeIn K Q4 "is_row_of" = true) (k4:W.keepIn K (.ref f4)=true)
  (a5:W.nsIn K mainGlobals "order_of_row" = some (some (.ref f5))) (l5:K.lookup f5=some ⟨O5,D5,.func (W.fnOf "order_of_row" "order_of_row" (Am C8) (Ai C8) (A5 C8) .none V5 E5 P5 N5 Q5 U5),S5⟩) (c5:W.codeIn K Q5 "order_of_row" = true) (k5:W.keepIn K (.ref f5)=true)
  (a6:W.nsIn K mainGlobals "reach_said" = some (some (.ref f6))) (l6:K.lookup f6=some ⟨O6,D6,.func (W.fnOf "reach_said" "reach_said" (Am Do) (Ai Do) (A5 Do) .none V6 E6 P6 N6 Q6 U6),S6⟩) (c6:W.codeIn K Q6 "reach_said" = true) (k6:W.keepIn K (.ref f6)=true)
  (a7:W.nsIn K mainGlobals "is_asking" = some (some (.ref f7))) (l7:K.lookup f7=some ⟨O7,D7,.func (W.fnOf "is_asking" "is_asking" (Am Eg) (Ai Eg) (A5 Eg) .none V7 E7 P7 N7 Q7 U7),S7⟩) (c7:W.codeIn K Q7 "is_asking" = true) (k7:W.keepIn K (.ref f7)=true)
  (a8:W.nsIn K mainGlobals "is_end" = some (some (.ref f8))) (l8:K.lookup f8=some ⟨O8,D8,.func (W.fnOf "is_end" "is_end" (Am Hy) (Ai Hy) (A5 Hy) .none V8 E8 P8 N8 Q8 U8),S8⟩) (c8:W.codeIn K Q8 "is_end" = true) (k8:W.keepIn K (.ref f8)=true)
  (a9:W.nsIn K mainGlobals "word_due" = some (some (.ref f9))) (l9:K.lookup f9=some ⟨O9,D9,.func (W.fnOf "word_due" "word_due" (Am Fg) (Ai Fg) (A5 Fg) .none V9 E9 P9 N9 Q9 U9),S9⟩) (c9:W.codeIn K Q9 "word_due" = true) (k9:W.keepIn K (.ref f9)=true)
  (a10:W.nsIn K mainGlobals "depth_on" = some (some (.ref f10))) (l10:K.lookup f10=some ⟨O10,D10,.func (W.fnOf "depth_on" "depth_on" (Am Ef) (Ai Ef) (A5 Ef) .none V10 E10 P10 N10 Q10 U10),S10⟩) (c10:W.codeIn K Q10 "depth_on" = true) (k10:W.keepIn K (.ref f10)=true)
  (a11:W.nsIn K mainGlobals "lets_plan" = some (some (.ref f11))) (l11:K.lookup f11=some ⟨O11,D11,.func (W.fnOf "lets_plan" "lets_plan" (Am Ee) (Ai Ee) (A5 Ee) .none V11 E11 P11 N11 Q11 U11),S11⟩) (c11:W.codeIn K Q11 "lets_plan" = true) (k11:W.keepIn K (.ref f11)=true)
  (a12:W.nsIn K mainGlobals "_law_feed" = some (some (.ref f12))) (l12:K.lookup f12=some ⟨O12,D12,.func (W.fnOf "_law_feed" "_law_feed" (Am Ep) (Ai Ep) (A5 Ep) .none V12 E12 P12 N12 Q12 U12),S12⟩) (c12:W.codeIn K Q12 "_law_feed" = true) (k12:W.keepIn K (.ref f12)=true)
  (a13:W.nsIn K mainGlobals "_law_draw" = some (some (.ref f13))) (l13:K.lookup f13=some ⟨O13,D13,.func (W.fnOf "_law_draw" "_law_draw" (Am Ek) (Ai Ek) (A5 Ek) .none V13 E13 P13 N13 Q13 U13),S13⟩) (c13:W.codeIn K Q13 "_law_draw" = true) (k13:W.keepIn K (.ref f13)=true)
  (a14:W.nsIn K mainGlobals "_law_names" = some (some (.ref f14))) (l14:K.lookup f14=some ⟨O14,D14,.func (W.fnOf "_law_names" "_law_names" (Am Dl) (Ai Dl) (A5 Dl) .none V14 E14 P14 N14 Q14 U14),S14⟩) (c14:W.codeIn K Q14 "_law_names" = true) (k14:W.keepIn K (.ref f14)=true)
  (a15:W.nsIn K mainGlobals "_law_shuffled" = some (some (.ref f15))) (l15:K.lookup f15=some ⟨O15,D15,.func (W.fnOf "_law_shuffled" "_law_shuffled" (Am Bt) (Ai Bt) (A5 Bt) .none V15 E15 P15 N15 Q15 U15),S15⟩) (c15:W.codeIn K Q15 "_law_shuffled" = true) (k15:W.keepIn K (.ref f15)=true)
  (a16:W.nsIn K mainGlobals "_law_pairs" = some (some (.ref f16))) (l16:K.lookup f16=some ⟨O16,D16,.func (W.fnOf "_law_pairs" "_law_pairs" (Am Dn) (Ai Dn) (A5 Dn) .none V16 E16 P16 N16 Q16 U16),S16⟩) (c16:W.codeIn K Q16 "_law_pairs" = true) (k16:W.keepIn K (.ref f16)=true)
  (a17:W.nsIn K mainGlobals "_law_sayings" = some (some (.ref f17))) (l17:K.lookup f17=some ⟨O17,D17,.func (W.fnOf "_law_sayings" "_law_sayings" (Am C5) (Ai C5) (A5 C5) .none V17 E17 P17 N17 Q17 U17),S17⟩) (c17:W.codeIn K Q17 "_law_sayings" = true) (k17:W.keepIn K (.ref f17)=true)
  (a18:W.nsIn K mainGlobals "_law_half" = some (some (.ref f18))) (l18:K.lookup f18=some ⟨O18,D18,.func (W.fnOf "_law_half" "_law_half" (Am Ei) (Ai Ei) (A5 Ei) .none V18 E18 P18 N18 Q18 U18),S18⟩) (c18:W.codeIn K Q18 "_law_half" = true) (k18:W.keepIn K (.ref f18)=true)
  (a19:W.nsIn K mainGlobals "_law_behind" = some (some (.ref f19))) (l19:K.lookup f19=some ⟨O19,D19,.func (W.fnOf "_law_behind" "_law_behind" (Am Cn) (Ai Cn) (A5 Cn) .none V19 E19 P19 N19 Q19 U19),S19⟩) (c19:W.codeIn K Q19 "_law_behind" = true) (k19:W.keepIn K (.ref f19)=true)
  (a20:W.nsIn K mainGlobals "_law_untold" = some (some (.ref f20))) (l20:K.lookup f20=some ⟨O20,D20,.func (W.fnOf "_law_untold" "_law_untold" (Am Cq) (Ai Cq) (A5 Cq) .none V20 E20 P20 N20 Q20 U20),S20⟩) (c20:W.codeIn K Q20 "_law_untold" = true) (k20:W.keepIn K (.ref f20)=true)
  (a21:W.nsIn K mainGlobals "_law_orders" = some (some (.ref f21))) (l21:K.lookup f21=some ⟨O21,D21,.func (W.fnOf "_law_orders" "_law_orders" (Am Ci) (Ai Ci) (A5 Ci) .none V21 E21 P21 N21 Q21 U21),S21⟩) (c21:W.codeIn K Q21 "_law_orders" = true) (k21:W.keepIn K (.ref f21)=true)
  (a22:W.nsIn K mainGlobals "_law_parts" = some (some (.ref f22))) (l22:K.lookup f22=some ⟨O22,D22,.func (W.fnOf "_law_parts" "_law_parts" (Am Df) (Ai Df) (A5 Df) .none V22 E22 P22 N22 Q22 U22),S22⟩) (c22:W.codeIn K Q22 "_law_parts" = true) (k22:W.keepIn K (.ref f22)=true)
  (a23:W.nsIn K mainGlobals "_law_questions" = some (some (.ref f23))) (l23:K.lookup f23=some ⟨O23,D23,.func (W.fnOf "_law_questions" "_law_questions" (Am Bl) (Ai Bl) (A5 Bl) .none V23 E23 P23 N23 Q23 U23),S23⟩) (c23:W.codeIn K Q23 "_law_questions" = true) (k23:W.keepIn K (.ref f23)=true)
  (a24:W.nsIn K mainGlobals "_law_few" = some (some (.ref f24))) (l24:K.lookup f24=some ⟨O24,D24,.func (W.fnOf "_law_few" "_law_few" (Am Fh) (Ai Fh) (A5 Fh) .none V24 E24 P24 N24 Q24 U24),S24⟩) (c24:W.codeIn K Q24 "_law_few" = true) (k24:W.keepIn K (.ref f24)=true)
  (a25:W.nsIn K mainGlobals "_law_plan" = some (some (.ref f25))) (l25:K.lookup f25=some ⟨O25,D25,.func (W.fnOf "_law_plan" "_law_plan" (Am Dd) (Ai Dd) (A5 Dd) .none V25 E25 P25 N25 Q25 U25),S25⟩) (c25:W.codeIn K Q25 "_law_plan" = true) (k25:W.keepIn K (.ref f25)=true)
  (a26:W.nsIn K mainGlobals "_law_judged" = some (some (.ref f26))) (l26:K.lookup f26=some ⟨O26,D26,.func (W.fnOf "_law_judged" "_law_judged" (Am By) (Ai By) (A5 By) .none V26 E26 P26 N26 Q26 U26),S26⟩) (c26:W.codeIn K Q26 "_law_judged" = true) (k26:W.keepIn K (.ref f26)=true)
  (a27:W.nsIn K mainGlobals "_law_plan_told" = some (some (.ref f27))) (l27:K.lookup f27=some ⟨O27,D27,.func (W.fnOf "_law_plan_told" "_law_plan_told" (Am Bj) (Ai Bj) (A5 Bj) .none V27 E27 P27 N27 Q27 U27),S27⟩) (c27:W.codeIn K Q27 "_law_plan_told" = true) (k27:W.keepIn K (.ref f27)=true)
  (a28:W.nsIn K mainGlobals "_law_end" = some (some (.ref f28))) (l28:K.lookup f28=some ⟨O28,D28,.func (W.fnOf "_law_end" "_law_end" (Am Fj) (Ai Fj) (A5 Fj) .none V28 E28 P28 N28 Q28 U28),S28⟩) (c28:W.codeIn K Q28 "_law_end" = true) (k28:W.keepIn K (.ref f28)=true)
  (a29:W.nsIn K mainGlobals "_law_changed" = some (some (.ref f29))) (l29:K.lookup f29=some ⟨O29,D29,.func (W.fnOf "_law_changed" "_law_changed" (Am Br) (Ai Br) (A5 Br) .none V29 E29 P29 N29 Q29 U29),S29⟩) (c29:W.codeIn K Q29 "_law_changed" = true) (k29:W.keepIn K (.ref f29)=true)
  (a30:W.nsIn K mainGlobals "_law_stub" = some (some (.ref f30))) (l30:K.lookup f30=some ⟨O30,D30,.func (W.fnOf "_law_stub" "_law_stub" (Am Db) (Ai Db) (A5 Db) .none V30 E30 P30 N30 Q30 U30),S30⟩) (c30:W.codeIn K Q30 "_law_stub" = true) (k30:W.keepIn K (.ref f30)=true)
  (a31:W.nsIn K mainGlobals "_law_great" = some (some (.ref f31))) (l31:K.lookup f31=some ⟨O31,D31,.func (W.fnOf "_law_great" "_law_great" (Am Dm) (Ai Dm) (A5 Dm) .none V31 E31 P31 N31 Q31 U31),S31⟩) (c31:W.codeIn K Q31 "_law_great" = true) (k31:W.keepIn K (.ref f31)=true)
  (a32:W.nsIn K mainGlobals "law" = some (some (.ref f32))) (l32:K.lookup f32=some ⟨O32,D32,.func (W.fnOf "law" "law" (Am On) (Ai On) (A5 On) .none V32 E32 P32 N32 Q32 U32),S32⟩) (c32:W.codeIn K Q32 "law" = true) (k32:W.keepIn K (.ref f32)=true)
  (a33:W.findIn K (.ref C_NoPlan) "__init__" = some (some (.ref f33))) (i33:W.isFn K (.ref f33)=true) (l33:K.lookup f33=some ⟨O33,D33,.func (W.fnOf "__init__" "NoPlan.__init__" (Am Cg) (Ai Cg) (A5 Cg) .none V33 E33 P33 N33 Q33 U33),S33⟩) (c33:W.codeIn K Q33 "NoPlan.__init__" = true) (k33:W.keepIn K (.ref f33)=true)
  (lc:Q5 = .ref T4) (lh:W.codeHdIn K T4 P_row=true) (lg:mainGlobals≠P_row)
  (lc1:Q26 = .ref My) (lh1:W.codeHdIn K My P_jud=true) (lg1:mainGlobals≠P_jud)
  (z0:W.nsIn K mainGlobals "ValueError" = some none)
  (z1:W.nsIn K mainGlobals "dict" = some none)
  (z2:W.nsIn K mainGlobals "int" = some none)
  (z3:W.nsIn K mainGlobals "isinstance" = some none)
  (z4:W.nsIn K mainGlobals "len" = some none)
  (z5:W.nsIn K mainGlobals "list" = some none)
  (z6:W.nsIn K mainGlobals "max" = some none)
  (z7:W.nsIn K mainGlobals "min" = some none)
  (z8:W.nsIn K mainGlobals "range" = some none)
  (z9:W.nsIn K mainGlobals "sorted" = some none)
  (z10:W.nsIn K mainGlobals "str" = some none)
  (z11:W.nsIn K mainGlobals "sum" = some none)
  (z12:W.nsIn K mainGlobals "tuple" = some none)
  : ∃ fd:FuncData,(∀ p∈[P_row,P_jud],∃ c,W.codeHdIn K c p=true)/\(∀(s:Shared) (v:Value),BindsTo s fd ⟨[v],[]⟩ [("_law_script",v)])/\∀ base:Heap,K.In base->base.Ns mainGlobals mg->(∀ p∈[P_row,P_jud],base.BuiltinsAt mg p)->FnOk l.prog w K mg base CX0 132 fa fd ["_law_script"] (spLaw P_row P_jud K):=by
 have e:=hfa.symm.trans (A0A X G a32)
 cases e;have T:Gg mg:=⟨A1B X G z0,A1B X G z1,A1B X G z2,A1B X G z3,A1B X G z4,A1B X G z5,A1B X G z6,A1B X G z7,A1B X G z8,A1B X G z9,A1B X G z10,A1B X G z11,A1B X G z12⟩;have F0:=B8 (st:=Cj) l0 c0 k0;have b0:Binds K _ ["half"] []:=Ir F0 λ_ _ _ _ _ _ _=>rfl;have F1:=B8 (st:=Di) l1 c1 k1;have b1:Binds K _ ["reach","one","other"] []:=Iw F1 λ_ _ _ _ _ _ _ _ _=>rfl;have F2:=B8 (st:=Cm) l2 c2 k2;have b2:Binds K _ ["thing","size"] []:=Gc F2 λ_ _ _ _ _ _ _ _=>rfl;have F3:=B8 (st:=Bk) l3 c3 k3;have b3:Binds K _ ["reach","one","other"] []:=Iw F3 λ_ _ _ _ _ _ _ _ _=>rfl;have F4:=B8 (st:=Ed) l4 c4 k4;have b4:Binds K _ ["reach"] []:=Ir F4 λ_ _ _ _ _ _ _=>rfl;have F5:=B8 (st:=C8) l5 c5 k5;have b5:Binds K _ ["reach"] []:=Ir F5 λ_ _ _ _ _ _ _=>rfl;have F6:=B8 (st:=Do) l6 c6 k6;have b6:Binds K _ ["reach","one","other"] []:=Iw F6 λ_ _ _ _ _ _ _ _ _=>rfl;have F7:=B8 (st:=Eg) l7 c7 k7;have b7:Binds K _ ["thing"] []:=Ir F7 λ_ _ _ _ _ _ _=>rfl;have F8:=B8 (st:=Hy) l8 c8 k8;have b8:Binds K _ ["thing"] []:=Ir F8 λ_ _ _ _ _ _ _=>rfl;have F9:=B8 (st:=Fg) l9 c9 k9;have b9:Binds K _ ["reach","plan"] []:=Gc F9 λ_ _ _ _ _ _ _ _=>rfl;have F10:=B8 (st:=Ef) l10 c10 k10;have b10:Binds K _ ["reach","plan","path"] []:=Iw F10 λ_ _ _ _ _ _ _ _ _=>rfl;have F11:=B8 (st:=Ee) l11 c11 k11;have b11:Binds K _ ["half","plan"] []:=Gc F11 λ_ _ _ _ _ _ _ _=>rfl;have F12:=B8 (st:=Ep) l12 c12 k12;have b12:Binds K _ ["_law_script"] []:=Ir F12 λ_ _ _ _ _ _ _=>rfl;have F13:=B8 (st:=Ek) l13 c13 k13;have b13:Binds K _ ["_law_feed_here","_law_many"] []:=Gc F13 λ_ _ _ _ _ _ _ _=>rfl;have F14:=B8 (st:=Dl) l14 c14 k14;have b14:Binds K _ ["_law_feed_here","_law_many"] []:=Gc F14 λ_ _ _ _ _ _ _ _=>rfl;have F15:=B8 (st:=Bt) l15 c15 k15;have b15:Binds K _ ["_law_feed_here","_law_some"] []:=Gc F15 λ_ _ _ _ _ _ _ _=>rfl;have F16:=B8 (st:=Dn) l16 c16 k16;have b16:Binds K _ ["_law_feed_here","_law_line"] []:=Gc F16 λ_ _ _ _ _ _ _ _=>rfl;have F17:=B8 (st:=C5) l17 c17 k17;have b17:Binds K _ ["_law_feed_here","_law_line"] []:=Gc F17 λ_ _ _ _ _ _ _ _=>rfl;have F18:=B8 (st:=Ei) l18 c18 k18;have b18:Binds K _ ["_law_feed_here","_law_most"] []:=Gc F18 λ_ _ _ _ _ _ _ _=>rfl;have F19:=B8 (st:=Cn) l19 c19 k19;have b19:Binds K _ ["_law_half_here","_law_name"] []:=Gc F19 λ_ _ _ _ _ _ _ _=>rfl;have F20:=B8 (st:=Cq) l20 c20 k20;have b20:Binds K _ ["_law_half_here"] []:=Ir F20 λ_ _ _ _ _ _ _=>rfl;have F21:=B8 (st:=Ci) l21 c21 k21;have b21:Binds K _ ["_law_half_here"] []:=Ir F21 λ_ _ _ _ _ _ _=>rfl;have F22:=B8 (st:=Df) l22 c22 k22;have b22:Binds K _ ["_law_orders_here","_law_one","_law_other"] []:=Iw F22 λ_ _ _ _ _ _ _ _ _=>rfl;have F23:=B8 (st:=Bl) l23 c23 k23;have b23:Binds K _ ["_law_names_here","_law_orders_here"] []:=Gc F23 λ_ _ _ _ _ _ _ _=>rfl;have F24:=B8 (st:=Fh) l24 c24 k24;have b24:Binds K _ ["_law_feed_here"] []:=Ir F24 λ_ _ _ _ _ _ _=>rfl;have F25:=B8 (st:=Dd) l25 c25 k25;have b25:Binds K _ ["_law_feed_here","_law_names_here","_law_orders_here"] []:=Iw F25 λ_ _ _ _ _ _ _ _ _=>rfl;have F26:=B8 (st:=By) l26 c26 k26;have b26:Binds K _ ["_law_half_here","_law_thing","_law_path"] []:=Iw F26 λ_ _ _ _ _ _ _ _ _=>rfl;have F27:=B8 (st:=Bj) l27 c27 k27;have b27:Binds K _ ["_law_half_here","_law_thing"] []:=Gc F27 λ_ _ _ _ _ _ _ _=>rfl;have F28:=B8 (st:=Fj) l28 c28 k28;have b28:Binds K _ ["_law_feed_here","_law_order"] []:=Gc F28 λ_ _ _ _ _ _ _ _=>rfl;have F29:=B8 (st:=Br) l29 c29 k29;have b29:Binds K _ ["_law_feed_here","_law_plan_here","_law_names_here"] []:=Iw F29 λ_ _ _ _ _ _ _ _ _=>rfl;have F30:=B8 (st:=Db) l30 c30 k30;have b30:Binds K _ ["_law_feed_here","_law_names_here","_law_deep"] []:=Iw F30 λ_ _ _ _ _ _ _ _ _=>rfl;have F31:=B8 (st:=Dm) l31 c31 k31;have b31:Binds K _ ["_law_feed_here"] []:=Ir F31 λ_ _ _ _ _ _ _=>rfl;have F32:=B8 (st:=On) l32 c32 k32;have F33:=B8 (st:=Cg) l33 c33 k33;have b33:Binds K _ ["self","word","path"] []:=Iw F33 λ_ _ _ _ _ _ _ _ _=>rfl;have x_HalfError:Cr K mg C_HalfError C_HalfError:=⟨xF.xc ex_HalfError cg ct,A0A X G aX_HalfError,⟨xF.xc ex_HalfError cg ct,xF.no ex_HalfError,xF.kp ex_HalfError,A0A X G aX_HalfError⟩⟩;have x_NoHalf:Ni K mg C_NoHalf C_HalfError:=⟨xF.xc ex_NoHalf cg ct,A0A X G aX_NoHalf,xF.mr ex_NoHalf,xF.n ex_NoHalf nofun,xF.n ex_NoHalf nofun⟩;have x_NoText:Nm K mg C_NoText C_HalfError:=⟨xF.xc ex_NoText cg ct,A0A X G aX_NoText,xF.mr ex_NoText,xF.n ex_NoText nofun⟩;have x_NoName:G9 K mg C_NoName C_HalfError:=⟨xF.xc ex_NoName cg ct,A0A X G aX_NoName,xF.mr ex_NoName,xF.n ex_NoName nofun⟩;have x_TooMany:Lz K mg C_TooMany C_HalfError:=⟨xF.xc ex_TooMany cg ct,A0A X G aX_TooMany,xF.mr ex_TooMany,xF.n ex_TooMany nofun⟩;have x_NoCover:Lr K mg C_NoCover C_HalfError:=⟨xF.xc ex_NoCover cg ct,A0A X G aX_NoCover,xF.mr ex_NoCover,⟨xF.xc ex_NoCover cg ct,xF.no ex_NoCover,xF.kp ex_NoCover,A0A X G aX_NoCover⟩⟩;have x_NoPlace:Lq K mg C_NoPlace C_HalfError:=⟨xF.xc ex_NoPlace cg ct,A0A X G aX_NoPlace,xF.mr ex_NoPlace,xF.n ex_NoPlace nofun⟩;have x_NoOrder:M2 K mg C_NoOrder C_HalfError:=⟨xF.xc ex_NoOrder cg ct,A0A X G aX_NoOrder,xF.mr ex_NoOrder,⟨xF.xc ex_NoOrder cg ct,xF.no ex_NoOrder,xF.kp ex_NoOrder,A0A X G aX_NoOrder⟩⟩;have x_NoJoin:Nf K mg C_NoJoin C_HalfError:=⟨xF.xc ex_NoJoin cg ct,A0A X G aX_NoJoin,xF.mr ex_NoJoin,xF.n ex_NoJoin nofun⟩;have x_Clash:Rf K mg C_Clash C_HalfError:=⟨xF.xc ex_Clash cg ct,A0A X G aX_Clash,xF.mr ex_Clash,xF.n ex_Clash nofun⟩;have x_NoPaper:Li K mg C_NoPaper C_HalfError:=⟨xF.xc ex_NoPaper cg ct,A0A X G aX_NoPaper,xF.mr ex_NoPaper,xF.n ex_NoPaper nofun,xF.n ex_NoPaper nofun⟩;have x_NoPlan:Fe K mg C_NoPlan C_HalfError:=⟨xF.xc ex_NoPlan cg ct,A0A X G aX_NoPlan,xF.mr ex_NoPlan,xF.n ex_NoPlan nofun,xF.n ex_NoPlan nofun⟩;have x_NoBound:Ma K mg C_NoBound C_HalfError:=⟨xF.xc ex_NoBound cg ct,A0A X G aX_NoBound,xF.mr ex_NoBound,xF.n ex_NoBound nofun,xF.n ex_NoBound nofun⟩;have x_NoSaying:Ks K mg C_NoSaying C_HalfError:=⟨xF.xc ex_NoSaying cg ct,A0A X G aX_NoSaying,xF.mr ex_NoSaying,xF.n ex_NoSaying nofun⟩;have x_NoMore:Nu K mg C_NoMore C_HalfError:=⟨xF.xc ex_NoMore cg ct,A0A X G aX_NoMore,xF.mr ex_NoMore,⟨xF.xc ex_NoMore cg ct,xF.no ex_NoMore,xF.kp ex_NoMore,A0A X G aX_NoMore⟩⟩;refine⟨W.fnOf "law" "law" (Am On) (Ai On) (A5 On) .none V32 E32 P32 N32 Q32 U32,λp hp=>by {simp only[List.mem_cons,List.not_mem_nil,or_false] at hp;rcases hp with rfl|rfl;exact⟨T4,lh⟩;exact⟨My,lh1⟩},λs v=>.of_eq rfl,λbase KB _ hBi=>?_⟩
 have lb:as8 K mg base T4 P_row:=⟨W.codeHd_of_K KB lh,hBi P_row (by simp),lg⟩;have lb1:as8 K mg base My P_jud:=⟨W.codeHd_of_K KB lh1,hBi P_jud (by simp),lg1⟩;have Gn:Fnd l.prog w K mg base 1 "behind_each" ["half"] (G7 K):=⟨_,_,Ml F0 T,A0A X G a0,k0,b0⟩;have Hn:Fnd l.prog w K mg base 1 "are_untold" ["reach","one","other"] (Gk K):=⟨_,_,Pn F1 T,A0A X G a1,k1,b1⟩;have Co:Fnd l.prog w K mg base 1 "is_tuple_of" ["thing","size"] (Et K):=⟨_,_,Mv F2 T,A0A X G a2,k2,b2⟩;have J3:Fnd l.prog w K mg base 1 "is_row_of" ["reach"] (Hc K):=⟨_,_,Rb F4 T,A0A X G a4,k4,b4⟩;have G8:Fnd l.prog w K mg base 1 "order_of_row" ["reach"] (Fs P_row K):=⟨_,_,Ld F5 T lb lc,A0A X G a5,k5,b5⟩;have Dh:Fnd l.prog w K mg base 1 "reach_said" ["reach","one","other"] (Fc K):=⟨_,_,Ny F6 T,A0A X G a6,k6,b6⟩;have Iy:Fnd l.prog w K mg base 1 "_law_feed" ["_law_script"] (Hw K):=⟨_,_,Qs F12 T,A0A X G a12,k12,b12⟩;have A4:Fnd l.prog w K mg base 1 "_law_draw" ["_law_feed_here","_law_many"] (Aq K):=⟨_,_,Sd F13 T,A0A X G a13,k13,b13⟩;have Bo:Fnd l.prog w K mg base 1 "_law_behind" ["_law_half_here","_law_name"] (Cy K):=⟨_,_,Mp F19 T,A0A X G a19,k19,b19⟩;have Gx:Fnd l.prog w K mg base 1 "_law_orders" ["_law_half_here"] (G5 K):=⟨_,_,Mk F21 T,A0A X G a21,k21,b21⟩;have Bv:Fnd l.prog w K mg base 1 "_law_parts" ["_law_orders_here","_law_one","_law_other"] (Dw K):=⟨_,_,Po F22 T,A0A X G a22,k22,b22⟩;have Ds:Mkx l.prog w K mg base 1 C_NoPlan "NoPlan" ["self","word","path"] (spX C_NoPlan ["word","path"]):=⟨_,_,Mr F33 T x_HalfError x_NoPlan,x_NoPlan.xc,a33,i33,xF.kp ex_NoPlan,A0A X G aX_NoPlan,b33⟩;have Ey:Fnd l.prog w K mg base 2 "are_two_untold" ["reach","one","other"] (Em K):=⟨_,_,K5 F3 T Hn,A0A X G a3,k3,b3⟩;have J7:Fnd l.prog w K mg base 2 "is_asking" ["thing"] (Hj K):=⟨_,_,Sc F7 T Co,A0A X G a7,k7,b7⟩;have Nw:Fnd l.prog w K mg base 2 "is_end" ["thing"] (Lk K):=⟨_,_,Yk F8 T Co,A0A X G a8,k8,b8⟩;have Bn:Fnd l.prog w K mg base 2 "_law_names" ["_law_feed_here","_law_many"] (Dv K):=⟨_,_,Pr F14 T A4,A0A X G a14,k14,b14⟩;have Ak:Fnd l.prog w K mg base 2 "_law_shuffled" ["_law_feed_here","_law_some"] (B9 K):=⟨_,_,Ky F15 T A4,A0A X G a15,k15,b15⟩;have Hi:Fnd l.prog w K mg base 2 "_law_pairs" ["_law_feed_here","_law_line"] (Gi K):=⟨_,_,Pq F16 T A4,A0A X G a16,k16,b16⟩;have Eb:Fnd l.prog w K mg base 2 "_law_untold" ["_law_half_here"] (Es K):=⟨_,_,Mn F20 T Bo,A0A X G a20,k20,b20⟩;have C2:Fnd l.prog w K mg base 2 "_law_questions" ["_law_names_here","_law_orders_here"] (Ch K):=⟨_,_,K7 F23 T Bv,A0A X G a23,k23,b23⟩;have Ge:Fnd l.prog w K mg base 2 "_law_end" ["_law_feed_here","_law_order"] (Gj K):=⟨_,_,Su F28 T A4,A0A X G a28,k28,b28⟩;have Gd:Fnd l.prog w K mg base 3 "word_due" ["reach","plan"] (Gv P_row K):=⟨_,_,Sr F9 T Ey J3 G8 J7 Nw,A0A X G a9,k9,b9⟩;have G6:Fnd l.prog w K mg base 3 "_law_sayings" ["_law_feed_here","_law_line"] (Fk K):=⟨_,_,Lw F17 T A4 Hi,A0A X G a17,k17,b17⟩;have He:Fnd l.prog w K mg base 3 "_law_great" ["_law_feed_here"] (Gs K):=⟨_,_,Pb F31 T A4 Bn Ak,A0A X G a31,k31,b31⟩;have J5:Fnd l.prog w K mg base 4 "_law_half" ["_law_feed_here","_law_most"] (Hu K):=⟨_,_,Ro F18 T A4 Bn Ak G6,A0A X G a18,k18,b18⟩;have K2:Fnd l.prog w K mg base 5 "_law_few" ["_law_feed_here"] (Iz K):=⟨_,_,So F24 T A4 Bn Ak J5,A0A X G a24,k24,b24⟩;have Ec:Fnd l.prog w K mg base 14 "_law_stub" ["_law_feed_here","_law_names_here","_law_deep"] (Hv K):=⟨_,_,Rx F30 T A4 Ak (A0A X G a30) k30 b30,A0A X G a30,k30,b30⟩;have El:Fnd l.prog w K mg base 128 "_law_plan" ["_law_feed_here","_law_names_here","_law_orders_here"] (Hh K):=⟨_,_,Ra F25 T A4 Bv C2 (A0A X G a25) k25 b25,A0A X G a25,k25,b25⟩;have C7:Fnd l.prog w K mg base 128 "_law_changed" ["_law_feed_here","_law_plan_here","_law_names_here"] (Fn K):=⟨_,_,M7 F29 T A4 Ge (A0A X G a29) k29 b29,A0A X G a29,k29,b29⟩;have Ff:ak6 l.prog w K mg base 129 "depth_on" ["reach","plan","path"] (Hg P_row C_NoPlan K):=⟨_,_,Qw F10 T x_HalfError x_NoName x_NoPlan Dh Gd Ds (A0A X G a10) k10 b10,A0A X G a10,k10,b10⟩;have J6:ak6 l.prog w K mg base 130 "lets_plan" ["half","plan"] (Gm P_row C_NoPlan K):=⟨_,_,Pj F11 T x_HalfError x_NoName x_NoPlan Gn Ff,A0A X G a11,k11,b11⟩;have Bm:Fnd l.prog w K mg base 130 "_law_judged" ["_law_half_here","_law_thing","_law_path"] (Er P_jud K):=⟨_,_,Mt F26 T lb1 lc1 Bo Eb (A0A X G a26) k26 b26,A0A X G a26,k26,b26⟩;have C3:Fnd l.prog w K mg base 131 "_law_plan_told" ["_law_half_here","_law_thing"] (Cp P_row K):=⟨_,_,K9 F27 T x_HalfError x_NoHalf x_NoText x_NoName x_TooMany x_NoCover x_NoPlace x_NoOrder x_NoJoin x_Clash x_NoPaper x_NoPlan x_NoBound x_NoSaying x_NoMore ndX J6,A0A X G a27,k27,b27⟩;exact av0 F32 T Iy A4 Gx K2 El Bm C3 C7 Ec He
theorem walk {l:W.OpenLaw}{q:Program}{loose:List Str}{XP:(Str->Option Value)->Heap->Prop}{YP:World->Heap->Prop}{d:DefRec}{K:Params->W.Frag}{P_row P_jud:Addr}(hn:l.most=some 63)(hdf:d.params.defaults=[])(hPP:[P_row,P_jud].Nodup)
  (hY:∀(w:World) (h:Heap),YP w h->(K w.params).In h) (hYT:∀(w:World) (h:Heap),YP w h->∀ p∈[P_row,P_jud],h.get? p=some (W.tabObj #[])) (hKP:∀(w:World),∀ p∈[P_row,P_jud],(K w.params).lookup p=none)
  (F:∀(w:World) (mg:Str->Option Value) (fa:Addr) (h:Heap),(K w.params).In h->h.Ns mainGlobals mg->mg d.name=some (.ref fa) ->
   ∃ fd:FuncData,(∀ p∈[P_row,P_jud],∃ c,W.codeHdIn (K w.params) c p=true)/\(∀(s:Shared) (u:Value),BindsTo s fd ⟨[u],[]⟩ [("_law_script",u)])/\∀ base:Heap,(K w.params).In base->base.Ns mainGlobals mg->(∀ p∈[P_row,P_jud],base.BuiltinsAt mg p)->FnOk l.prog w (K w.params) mg base CX0 132 fa fd ["_law_script"] (spLaw P_row P_jud (K w.params))) :
  W.WalkO q loose XP YP l.row.toRowW d [] (λf vs=>PySem.call f vs):=
 L2.walk_ofTs (Ps:=[P_row,P_jud]) (n:=63) (k:=132) (x:="_law_script") (CX:=λ_=>CX0) (sp:=λw=>spLaw P_row P_jud (K w.params)) hn nofun hdf ⟨rfl,by decide,by decide,rfl⟩ hY hYT hKP F (λ_ _ a ns hl hO hS=>⟨a,ns,rfl,hS,hl,hPP,λp hp=>.inl (hO.1 p hp),λ_=>rfl⟩) λ_ _ _ _ _ z=>z
end K63
theorem PySem.W.Fast.tw17496592039542665686 : True := trivial
theorem PySem.W.Fast.tw14200217228022835178 : True := trivial
theorem PySem.W.Fast.tw1679285361122048036 : True := trivial
theorem PySem.W.Fast.tw14231723481270292698 : True := trivial
theorem PySem.W.Fast.tw564910935679806660 : True := trivial
theorem PySem.W.Fast.tw13807529281213788414 : True := trivial
theorem PySem.W.Fast.tw7636819136146591103 : True := trivial
theorem PySem.W.Fast.tw12778139772355391536 : True := trivial
theorem PySem.W.Fast.tw7396210651131662588 : True := trivial
theorem PySem.W.Fast.tw1778918845630243524 : True := trivial
theorem PySem.W.Fast.tw1595610755426506466 : True := trivial
theorem PySem.W.Fast.tw5290181698285786817 : True := trivial
theorem PySem.W.Fast.tw133412069245743589 : True := trivial
theorem PySem.W.Fast.tw9390739170851197068 : True := trivial
theorem PySem.W.Fast.tw14619424311951841411 : True := trivial
theorem PySem.W.Fast.tw17267375511577833731 : True := trivial
theorem PySem.W.Fast.tw9983164109755378003 : True := trivial
theorem PySem.W.Fast.tw8387407485542942048 : True := trivial
theorem PySem.W.Fast.tw10806631853746849634 : True := trivial
theorem PySem.W.Fast.tw3746709397417841661 : True := trivial
theorem PySem.W.Fast.tw3005348558945226789 : True := trivial
theorem PySem.W.Fast.tw11737268932600559320 : True := trivial
theorem PySem.W.Fast.tw2115106305037798820 : True := trivial
theorem PySem.W.Fast.tw11101331971448074937 : True := trivial
theorem PySem.W.Fast.tw3008475173593608113 : True := trivial
theorem PySem.W.Fast.tw11108000317145132091 : True := trivial
theorem PySem.W.Fast.tw2671843515586350622 : True := trivial
theorem PySem.W.Fast.tw5727342209198290045 : True := trivial
theorem PySem.W.Fast.tw17476476064885788280 : True := trivial
theorem PySem.W.Fast.tw3601907264309454825 : True := trivial
theorem PySem.W.Fast.tw5201118360141852633 : True := trivial
theorem PySem.W.Fast.tw8395557623279133330 : True := trivial
theorem PySem.W.Fast.tw9064245380974604921 : True := trivial
theorem PySem.W.Fast.tw16642378443751555291 : True := trivial
theorem PySem.W.Fast.tw1469158584926029151 : True := trivial
theorem PySem.W.Fast.tw15958303253870658609 : True := trivial
theorem PySem.W.Fast.tw6594002492948080727 : True := trivial
theorem PySem.W.Fast.tw4002727301665222996 : True := trivial
theorem PySem.W.Fast.tw14632056038811979354 : True := trivial
theorem PySem.W.Fast.tw7859598124186427746 : True := trivial
theorem PySem.W.Fast.tw12561153755244932663 : True := trivial
theorem PySem.W.Fast.tw12599022812349681549 : True := trivial
theorem PySem.W.Fast.tw14515300641492521588 : True := trivial
theorem PySem.W.Fast.tw4776655909573819068 : True := trivial
theorem PySem.W.Fast.tw1543655742225891971 : True := trivial
theorem PySem.W.Fast.tw15859666080781242511 : True := trivial
theorem PySem.W.Fast.tw16917765050109867898 : True := trivial
theorem PySem.W.Fast.tw14350640310305826314 : True := trivial
theorem PySem.W.Fast.tw13374323744048325783 : True := trivial
theorem PySem.W.Fast.tw7825375779614705265 : True := trivial
theorem PySem.W.Fast.tw5171867734379736628 : True := trivial
theorem PySem.W.Fast.tw15823736690280671623 : True := trivial
theorem PySem.W.Fast.tw6854260230357582055 : True := trivial
theorem PySem.W.Fast.tw7726024686479263758 : True := trivial
theorem PySem.W.Fast.tw491427262343339738 : True := trivial
theorem PySem.W.Fast.tw17100025182980515901 : True := trivial
theorem PySem.W.Fast.tw17736168948569828862 : True := trivial
theorem PySem.W.Fast.tw15388834508540021724 : True := trivial
theorem PySem.W.Fast.tw6852081679876017007 : True := trivial
theorem PySem.W.Fast.tw16608771158905533059 : True := trivial
theorem PySem.W.Fast.tw1601468536752095858 : True := trivial
theorem PySem.W.Fast.tw16972388360773431678 : True := trivial
theorem PySem.W.Fast.tw11130973055238468840 : True := trivial
theorem PySem.W.Fast.tw13919234085926968301 : True := trivial
theorem PySem.W.Fast.tw14683655576569107260 : True := trivial
theorem PySem.W.Fast.tw16782405815190608266 : True := trivial
theorem PySem.W.Fast.tw11494962247383736321 : True := trivial
theorem PySem.W.Fast.tw3472670802218446967 : True := trivial
theorem PySem.W.Fast.tw8857963847672786713 : True := trivial
theorem PySem.W.Fast.tw4774027944545143929 : True := trivial
theorem PySem.W.Fast.tw18419561883436593226 : True := trivial
theorem PySem.W.Fast.tw17808353392059351353 : True := trivial
theorem PySem.W.Fast.tw12655851321323115543 : True := trivial
theorem PySem.W.Fast.tw12467025452494921311 : True := trivial
theorem PySem.W.Fast.tw15512497397358455866 : True := trivial
theorem PySem.W.Fast.tw10622276512895437013 : True := trivial
theorem PySem.W.Fast.tw5830119465104740833 : True := trivial
theorem PySem.W.Fast.tw8713613951245996794 : True := trivial
theorem PySem.W.Fast.tw4254858589664497914 : True := trivial
theorem PySem.W.Fast.tw2998526999619244914 : True := trivial
theorem PySem.W.Fast.tw14328086144817354057 : True := trivial
theorem PySem.W.Fast.tw4797524430167441280 : True := trivial
theorem PySem.W.Fast.tw4810686423362506671 : True := trivial
theorem PySem.W.Fast.tw8890120520688657423 : True := trivial
theorem PySem.W.Fast.tw10789387557885156355 : True := trivial
theorem PySem.W.Fast.tw12170363671025644367 : True := trivial
theorem PySem.W.Fast.tw1499421991734707860 : True := trivial
open PySem PySem.W PyProof.Rows
set_option maxRecDepth 100000 in
set_option maxHeartbeats 0 in
theorem PySem.Challenge.cw_halforder_k63_plans_amiss_holds : PySem.Challenge.rw_halforder_k63_plans_amiss.Holds := by
 w_on;o_law;k_head;(case hw=>w_witness2)
 k_fill
 refine K63.walk (l:=PySem.Challenge.rw_halforder_k63_plans_amiss) rfl rfl ?hPP (λw h Y=>PySem.W.km_in_of Y) (λw h Y p hp=>by {simp only[List.mem_cons,List.not_mem_nil,or_false] at hp;rcases hp with rfl|rfl;exact PySem.W.km_tabs_of Y _ (List.mem_cons_self ..);exact PySem.W.km_tabs_of Y _ (List.mem_cons_of_mem _ (List.mem_cons_self ..))}) (λw p hp=>by {simp only[List.mem_cons,List.not_mem_nil,or_false] at hp;rcases hp with rfl|rfl;kernel_rfl;kernel_rfl}) ?F
 case F=>
  intro w mg fa h KX G hmg;refine' K63.all_mk KX G hmg ?q_cg ?q_ct ?q_aX_HalfError ?q_aX_NoHalf ?q_aX_NoText ?q_aX_NoName ?q_aX_TooMany ?q_aX_NoCover ?q_aX_NoPlace ?q_aX_NoOrder ?q_aX_NoJoin ?q_aX_Clash ?q_aX_NoPaper ?q_aX_NoPlan ?q_aX_NoBound ?q_aX_NoSaying ?q_aX_NoMore ?q_ex_HalfError ?q_ex_NoHalf ?q_ex_NoText ?q_ex_NoName ?q_ex_TooMany ?q_ex_NoCover ?q_ex_NoPlace ?q_ex_NoOrder ?q_ex_NoJoin ?q_ex_Clash ?q_ex_NoPaper ?q_ex_NoPlan ?q_ex_NoBound ?q_ex_NoSaying ?q_ex_NoMore ?q_ndX ?q_a0 ?q_l0 ?q_c0 ?q_k0 ?q_a1 ?q_l1 ?q_c1 ?q_k1 ?q_a2 ?q_l2 ?q_c2 ?q_k2 ?q_a3 ?q_l3 ?q_c3 ?q_k3 ?q_a4 ?q_l4 ?q_c4 ?q_k4 ?q_a5 ?q_l5 ?q_c5 ?q_k5 ?q_a6 ?q_l6 ?q_c6 ?q_k6 ?q_a7 ?q_l7 ?q_c7 ?q_k7 ?q_a8 ?q_l8 ?q_c8 ?q_k8 ?q_a9 ?q_l9 ?q_c9 ?q_k9 ?q_a10 ?q_l10 ?q_c10 ?q_k10 ?q_a11 ?q_l11 ?q_c11 ?q_k11 ?q_a12 ?q_l12 ?q_c12 ?q_k12 ?q_a13 ?q_l13 ?q_c13 ?q_k13 ?q_a14 ?q_l14 ?q_c14 ?q_k14 ?q_a15 ?q_l15 ?q_c15 ?q_k15 ?q_a16 ?q_l16 ?q_c16 ?q_k16 ?q_a17 ?q_l17 ?q_c17 ?q_k17 ?q_a18 ?q_l18 ?q_c18 ?q_k18 ?q_a19 ?q_l19 ?q_c19 ?q_k19 ?q_a20 ?q_l20 ?q_c20 ?q_k20 ?q_a21 ?q_l21 ?q_c21 ?q_k21 ?q_a22 ?q_l22 ?q_c22 ?q_k22 ?q_a23 ?q_l23 ?q_c23 ?q_k23 ?q_a24 ?q_l24 ?q_c24 ?q_k24 ?q_a25 ?q_l25 ?q_c25 ?q_k25 ?q_a26 ?q_l26 ?q_c26 ?q_k26 ?q_a27 ?q_l27 ?q_c27 ?q_k27 ?q_a28 ?q_l28 ?q_c28 ?q_k28 ?q_a29 ?q_l29 ?q_c29 ?q_k29 ?q_a30 ?q_l30 ?q_c30 ?q_k30 ?q_a31 ?q_l31 ?q_c31 ?q_k31 ?q_a32 ?q_l32 ?q_c32 ?q_k32 ?q_a33 ?q_i33 ?q_l33 ?q_c33 ?q_k33 ?q_lc ?q_lh ?q_lg ?q_lc1 ?q_lh1 ?q_lg1 ?q_z0 ?q_z1 ?q_z2 ?q_z3 ?q_z4 ?q_z5 ?q_z6 ?q_z7 ?q_z8 ?q_z9 ?q_z10 ?q_z11 ?q_z12
  (case q_cg=>k_is)
  (case q_ct=>k_is)
  (case q_aX_HalfError=>k_is)
  (case q_aX_NoHalf=>k_is)
  (case q_aX_NoText=>k_is)
  (case q_aX_NoName=>k_is)
  (case q_aX_TooMany=>k_is)
  (case q_aX_NoCover=>k_is)
  (case q_aX_NoPlace=>k_is)
  (case q_aX_NoOrder=>k_is)
  (case q_aX_NoJoin=>k_is)
  (case q_aX_Clash=>k_is)
  (case q_aX_NoPaper=>k_is)
  (case q_aX_NoPlan=>k_is)
  (case q_aX_NoBound=>k_is)
  (case q_aX_NoSaying=>k_is)
  (case q_aX_NoMore=>k_is)
  (case q_ex_HalfError=>kernel_rfl)
  (case q_ex_NoHalf=>kernel_rfl)
  (case q_ex_NoText=>kernel_rfl)
  (case q_ex_NoName=>kernel_rfl)
  (case q_ex_TooMany=>kernel_rfl)
  (case q_ex_NoCover=>kernel_rfl)
  (case q_ex_NoPlace=>kernel_rfl)
  (case q_ex_NoOrder=>kernel_rfl)
  (case q_ex_NoJoin=>kernel_rfl)
  (case q_ex_Clash=>kernel_rfl)
  (case q_ex_NoPaper=>kernel_rfl)
  (case q_ex_NoPlan=>kernel_rfl)
  (case q_ex_NoBound=>kernel_rfl)
  (case q_ex_NoSaying=>kernel_rfl)
  (case q_ex_NoMore=>kernel_rfl)
  (case q_ndX=>decide)
  (case q_a0=>k_is)
  (case q_l0=>k_is)
  (case q_c0=>k_is)
  (case q_k0=>k_is)
  (case q_a1=>k_is)
  (case q_l1=>k_is)
  (case q_c1=>k_is)
  (case q_k1=>k_is)
  (case q_a2=>k_is)
  (case q_l2=>k_is)
  (case q_c2=>k_is)
  (case q_k2=>k_is)
  (case q_a3=>k_is)
  (case q_l3=>k_is)
  (case q_c3=>k_is)
  (case q_k3=>k_is)
  (case q_a4=>k_is)
  (case q_l4=>k_is)
  (case q_c4=>k_is)
  (case q_k4=>k_is)
  (case q_a5=>k_is)
  (case q_l5=>k_is)
  (case q_c5=>k_is)
  (case q_k5=>k_is)
  (case q_a6=>k_is)
  (case q_l6=>k_is)
  (case q_c6=>k_is)
  (case q_k6=>k_is)
  (case q_a7=>k_is)
  (case q_l7=>k_is)
  (case q_c7=>k_is)
  (case q_k7=>k_is)
  (case q_a8=>k_is)
  (case q_l8=>k_is)
  (case q_c8=>k_is)
  (case q_k8=>k_is)
  (case q_a9=>k_is)
  (case q_l9=>k_is)
  (case q_c9=>k_is)
  (case q_k9=>k_is)
  (case q_a10=>k_is)
  (case q_l10=>k_is)
  (case q_c10=>k_is)
  (case q_k10=>k_is)
  (case q_a11=>k_is)
  (case q_l11=>k_is)
  (case q_c11=>k_is)
  (case q_k11=>k_is)
  (case q_a12=>k_is)
  (case q_l12=>k_is)
  (case q_c12=>k_is)
  (case q_k12=>k_is)
  (case q_a13=>k_is)
  (case q_l13=>k_is)
  (case q_c13=>k_is)
  (case q_k13=>k_is)
  (case q_a14=>k_is)
  (case q_l14=>k_is)
  (case q_c14=>k_is)
  (case q_k14=>k_is)
  (case q_a15=>k_is)
  (case q_l15=>k_is)
  (case q_c15=>k_is)
  (case q_k15=>k_is)
  (case q_a16=>k_is)
  (case q_l16=>k_is)
  (case q_c16=>k_is)
  (case q_k16=>k_is)
  (case q_a17=>k_is)
  (case q_l17=>k_is)
  (case q_c17=>k_is)
  (case q_k17=>k_is)
  (case q_a18=>k_is)
  (case q_l18=>k_is)
  (case q_c18=>k_is)
  (case q_k18=>k_is)
  (case q_a19=>k_is)
  (case q_l19=>k_is)
  (case q_c19=>k_is)
  (case q_k19=>k_is)
  (case q_a20=>k_is)
  (case q_l20=>k_is)
  (case q_c20=>k_is)
  (case q_k20=>k_is)
  (case q_a21=>k_is)
  (case q_l21=>k_is)
  (case q_c21=>k_is)
  (case q_k21=>k_is)
  (case q_a22=>k_is)
  (case q_l22=>k_is)
  (case q_c22=>k_is)
  (case q_k22=>k_is)
  (case q_a23=>k_is)
  (case q_l23=>k_is)
  (case q_c23=>k_is)
  (case q_k23=>k_is)
  (case q_a24=>k_is)
  (case q_l24=>k_is)
  (case q_c24=>k_is)
  (case q_k24=>k_is)
  (case q_a25=>k_is)
  (case q_l25=>k_is)
  (case q_c25=>k_is)
  (case q_k25=>k_is)
  (case q_a26=>k_is)
  (case q_l26=>k_is)
  (case q_c26=>k_is)
  (case q_k26=>k_is)
  (case q_a27=>k_is)
  (case q_l27=>k_is)
  (case q_c27=>k_is)
  (case q_k27=>k_is)
  (case q_a28=>k_is)
  (case q_l28=>k_is)
  (case q_c28=>k_is)
  (case q_k28=>k_is)
  (case q_a29=>k_is)
  (case q_l29=>k_is)
  (case q_c29=>k_is)
  (case q_k29=>k_is)
  (case q_a30=>k_is)
  (case q_l30=>k_is)
  (case q_c30=>k_is)
  (case q_k30=>k_is)
  (case q_a31=>k_is)
  (case q_l31=>k_is)
  (case q_c31=>k_is)
  (case q_k31=>k_is)
  (case q_a32=>k_is)
  (case q_l32=>k_is)
  (case q_c32=>k_is)
  (case q_k32=>k_is)
  (case q_a33=>k_is)
  (case q_i33=>k_is)
  (case q_l33=>k_is)
  (case q_c33=>k_is)
  (case q_k33=>k_is)
  (case q_lc=>rfl)
  (case q_lh=>kernel_rfl)
  (case q_lg=>decide)
  (case q_lc1=>rfl)
  (case q_lh1=>kernel_rfl)
  (case q_lg1=>decide)
  (case q_z0=>k_is)
  (case q_z1=>k_is)
  (case q_z2=>k_is)
  (case q_z3=>k_is)
  (case q_z4=>k_is)
  (case q_z5=>k_is)
  (case q_z6=>k_is)
  (case q_z7=>k_is)
  (case q_z8=>k_is)
  (case q_z9=>k_is)
  (case q_z10=>k_is)
  (case q_z11=>k_is)
  (case q_z12=>k_is)
 case hPP=>decide
