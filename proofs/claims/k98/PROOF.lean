import PyProof.Rows.All
import Wide.All
import OpenK.AllK
import Wide.FinOn
import PyProof.EqAt
import PyProof.EqKinds
import PyProof.TupleCall
import Lean
import PyProof.DictWalks
import PyProof.DictIter
import PyProof.P3In
import KE.KEqSeq
import PyProof.ReprLen
import PyProof.ReprRoads
import PyProof.StrOps2
import KE.KRevSl
import PyProof.IsRules
import PyProof.StrLawsIdx
import PyProof.Rows.RegRepr
import PyProof.Rows.RegFStrParts
import PyProof.DictUpdate
import PyProof.AttrMissHeap
import PyProof.Walks
import KE.KDictOf
import PyProof.EnumIter
import PyProof.EnumFor
import PyProof.LayNew
import PyProof.EnumMake
import PyProof.Draws
import PyProof.WalksT
import PyProof.TupleIter
import PyProof.WalksMore
import KE.KRevIter
import KE.KEqDict
import PyProof.Rows.SetFrom
import PyProof.StrLawsTight
import PyProof.StrLawsChain
import PyProof.SumWalk
import PyProof.Rows.SortStr
import PyProof.Rows.SortWalk
import PyProof.TupleOfSeq
import KE.KDictSum
import KE.KSortTup
import PyProof.ListRange
import PyProof.ZipIter
import PyProof.Rows.ZipGen
import KE.KItemsList
import PyProof.ExcArgsOwn
import PyProof.InstStoreFacts
import PyProof.ExcBaseAll.ValueError
import PyProof.StationsW
import PyProof.RulesAs
import PyProof.RulesDel
import PyProof.NeKinds
import PyProof.ListMulAny
import KE.KMinBuiltin
import PyProof.Rows.CallKwBuiltin
import KE.KLam
import KE.KMinKey
import PyProof.WalkInts
import KE.KNestM
import PyProof.SeqI3
import KE.KSortKey
import PyProof.MaxThree
import PySem.Challenge.RW_halforder_k98_whole_lists_of_neighbours
local macro_rules | `(tactic| eq_refl) => `(tactic| with_unfolding_all exact Or.inl rfl)
local macro_rules | `(tactic| ac_rfl) => `(tactic| with_unfolding_all exact fun _ _ => rfl)
local macro_rules | `(tactic| ac_nf) => `(tactic| with_unfolding_all rfl)
noncomputable section
local macro_rules | `(⋯) => `(by ac_nf)
local macro_rules | `(∅) => `(by omega)
local macro_rules | `(nofun) => `(by decide)
local macro_rules | `(tactic| symm) => `(tactic| walk_at "rd")
def A00:=@List.length_map
def A01:=@List.getElem?_eq_some_iff
def A02:=@List.mem_of_getElem?
def A03:=@List.getElem?_eq_getElem
def A04:=@List.length_append
def A05:=@Nat.le_refl
def A06:=@PySem.Heap.get?_push_of_some
def A07:=@List.getElem?_map
def A08:=@PySem.wpAny_bind
def A09:=@List.mem_cons_of_mem
def A0A:=@List.map_append
def A0B:=@Nat.le_trans
def A0C:=@List.mem_append
def A0D:=@List.length_eq_zero_iff
def A0E:=@List.mem_cons_self
def A0F:=@List.mem_map
def A0G:=@List.length_cons
def A0H:=@decide_eq_true
def A0I:=@List.take_add_one
def A0J:=@List.length_take
def A0K:=@PyProof.Rows.wpS_bind
def A0L:=@PySem.Heap.lt_size
def A0M:=@PySem.wpAny_pure
def A0N:=@List.mem_cons
def A0O:=@Bool.false_ne_true
def A0P:=@Array.getElem?_toList
def A0Q:=@PySem.W.mg_of
def A0R:=@List.take_length
def A0S:=@List.length_singleton
def A0T:=@List.getElem?_append_right
def A0U:=@List.map_cons
def A0V:=@List.size_toArray
def A0W:=@if_neg
def A0X:=@List.mem_singleton
def A0Y:=@PyProof.Rows.wpS_pure
def A0Z:=@PySem.F.plainAttrs_list
def A10:=@if_pos
def A11:=@decide_eq_false
def A12:=@Option.some.inj
def A13:=@List.nodup_cons
def A14:=@PySem.PassesOwn.never
def A15:=@PySem.Heap.get?_push_size
def A16:=@beq_iff_eq
def A17:=@List.append_assoc
def A18:=@List.getElem?_append_left
def A19:=@List.append_nil
def A1A:=@List.pairwise_append
def A1B:=@Array.length_toList
def A1C:=@Nat.ne_of_lt
def A1D:=@List.mem_append_right
def A1E:=@of_decide_eq_true
def A1F:=@List.length_range
def A1G:=@List.length_drop
def A1H:=@List.mem_filter
def A1I:=@Nat.lt_of_lt_of_le
def A1J:=@List.pairwise_cons
def A1K:=@List.map_congr_left
def A1L:=@List.mem_append_left
def A1M:=@List.length_filter_le
def A1N:=@PySem.sizeLine_eq
def A1O:=@Nat.le_of_lt
def A1P:=@List.mem_of_mem_take
def A1Q:=@PySem.W.mg_none_of
def A1R:=@List.mem_range
def A1S:=@Array.getElem?_eq_getElem
def A1T:=@List.all_eq_true
def A1U:=@PySem.F.slot_list_append
def A1V:=@PySem.F.type_list_append
def A1W:=@List.getD_eq_getElem?_getD
def A1X:=@beq_eq_false_iff_ne
def A1Y:=@Bool.and_eq_true
def A1Z:=@List.filter_cons
def A20:=@List.drop_left
def A21:=@List.take_of_length_le
def A22:=@List.filter_append
def A23:=@PySem.W.kia_one
def A24:=@Array.toList_append
def A25:=@List.lookup_cons
def A26:=@List.pairwise_singleton
def A27:=@PyProof.Rows.wpS_forRange
def A28:=@List.pairwise_iff_getElem
def A29:=@Nat.not_lt_zero
def A2A:=@List.getElem_inj
def A2B:=@List.any_eq_true
def A2C:=@Nat.zero_le
def A2D:=@List.getElem?_take_of_lt
def A2E:=@List.map_map
def A2F:=@List.nodup_append
def A2G:=@PySem.F.slot_tuple_index
def A2H:=@Nat.sub_self
def A2I:=@List.any_cons
def A2J:=@of_decide_eq_false
def A2K:=@List.getElem_mem
def A2L:=@List.Pairwise.nil
def A2M:=@List.foldl_cons
def A2N:=@List.length_nil
def A2O:=@List.take_append_drop
def A2P:=@PySem.F.type_tuple_index
def A2Q:=@Nat.lt_succ_self
def A2R:=@List.mem_of_mem_drop
def A2S:=@List.sum_cons
def A2T:=@List.take_left
def A2U:=@PySem.wpAny_truthy_bool
def A2V:=@List.nil_append
def A2W:=@List.getElem_of_mem
def A2X:=@True.intro
def A2Y:=@Nat.lt_irrefl
def A2Z:=@List.length_replicate
def A30:=@List.Perm.append_left
def A31:=@PyProof.Rows.wpS_mono
def A32:=@List.map_drop
def A33:=@List.drop_drop
def A34:=@PySem.wpAny_mono
def A35:=@PyProof.Rows.slot_tuple_getitem
def A36:=@Or.inr
def A37:=@PySem.F.slot_list_extend
def A38:=@PySem.F.type_list_extend
def A39:=@PySem.Paired.length
def A3A:=@PySem.wpAny_holding
def A3B:=@List.replicate_succ
def A3C:=@PySem.Heap.size_push
def A3D:=@Nat.mul_le_mul
def A3E:=@List.Perm.swap
def A3F:=@List.getElem_cons_drop
def A3G:=@PySem.wpAny_passesOwn
def A3H:=@PyProof.Rows.callWith_type1
def A3I:=@Bool.eq_iff_iff
def A3J:=@Nat.min_eq_left
def A3K:=@List.sum_append
def A3L:=@List.flatten_cons
def A3M:=@List.map_take
def A3N:=@List.getElem?_inj
def A3O:=@List.extract_eq_take_drop
def A3P:=@List.getLast?_eq_getElem?
def A3Q:=@PySem.mem_of_lookup
def A3R:=@List.length_reverse
def A3S:=@Int.toNat_of_nonneg
def A3T:=@List.length_pos_iff
def A3U:=@List.flatten_append
def A3V:=@Nat.lt_trans
def A3W:=@PySem.tupleKind_room_in1
def A3X:=@PySem.wpAny_getItem_str_slice
def A3Y:=@List.getElem?_drop
def A3Z:=@Nat.add_sub_cancel_left
def A40:=@Int.emod_lt_of_pos
def A41:=@List.map_singleton
def A42:=@Option.map_eq_some_iff
def A43:=@PySem.wpAny_newObj_type
def A44:=@PySem.call_meets
def A45:=@PySem.wpAny_pyIter_list
def A46:=@PySem.wpAny_rule
def A47:=@Nat.lt_succ_of_lt
def A48:=@List.filter_congr
def A49:=@decide_eq_true_eq
def A4A:=@List.Perm.refl
def A4B:=@Nat.zero_add
def A4C:=@Nat.min_le_right
def A4D:=@PySem.Around.under_plainId
def A4E:=@Nat.pow_le_pow_right
def A4F:=@List.idxOf_cons_self
def A4G:=@Array.toList_extract
def A4H:=@List.getElem?_of_mem
def A4I:=@List.flatMap_append
def A4J:=@Int.emod_nonneg
def A4K:=@List.range_succ
def A4L:=@PySem.wpAny_Call_Name_kw
def A4M:=@PySem.wpAny_typeOf
def A4N:=@Nat.add_comm
def A4O:=@Nat.lt_of_le_of_lt
def A4P:=@List.lookup_append
def A4Q:=@Nat.eq_zero_or_pos
def A4R:=@List.getElem?_take
def A4S:=@List.sum_singleton
def A4T:=@Int.toNat_natCast
def A4U:=@List.reverse_cons
def A4V:=@List.length_erase_of_mem
def A4W:=@List.Pairwise.imp_of_mem
def A4X:=@List.getElem?_replicate
def A4Y:=@PySem.wpAny_callSpecial?_slot
def A4Z:=@Nat.add_mul
def A50:=@PySem.wpAny_call_entry
def A51:=@List.mem_flatMap
def A52:=@Nat.max_eq_right
def A53:=@PySem.Calls.callWith_builtin
def A54:=@List.length_pos_of_mem
def A55:=@List.drop_eq_nil_of_le
def A56:=@List.flatten_singleton
def A57:=@PySem.wpAny_execs_nil
def A58:=@List.of_mem_zip
def A59:=@Nat.mul_comm
def A5A:=@Option.map_some
def A5B:=@PySem.post_val_or_str
def A5C:=@List.getElem?_eq_none
def A5D:=@PySem.codeAny_builtin
def A5E:=@PySem.wpAny_notOrdered_dict
def A5F:=@Nat.pow_succ
def A5G:=@PyProof.Rows.wpS_get
def A5H:=@List.singleton_append
def A5I:=@PySem.F.slot_list_pop
def A5J:=@PySem.F.type_list_pop
def A5K:=@List.mem_iff_getElem?
def A5L:=@PyProof.Rows.wpS_modify
def A5M:=@List.getElem?_set_ne
def A5N:=@List.mem_erase_of_ne
def A5O:=@Classical.not_forall
def A5P:=@List.drop_zero
def A5Q:=@PySem.W.plainGet_of
def A5R:=@List.filter_sublist
def A5S:=@List.filter_eq_self
def A5T:=@Nat.one_mul
def A5U:=@PySem.W.callWith_K
def A5V:=@List.all_cons
def A5W:=@PySem.plainId_quiet
def A5X:=@List.Nodup.sublist
def A5Y:=@List.filter_filter
def A60:=@Nat.add_sub_cancel
set_option linter.all false
set_option maxRecDepth 100000
set_option maxHeartbeats 4000000
set_option Elab.async false
set_option compiler.extract_closed false
namespace L2
open PySem PySem.Spec PyProof.Rows
abbrev Key:=Sum Int Str
def Vc:Key->Value->Bool
 |.inl k,v=>Value.isInt k v
 |.inr x,v=>Value.isStrOf x v
def keyH (w:World):Key->Int
 |.inl k=>hashInt k
 |.inr x=>hashStr w x
theorem Bx:∀ {k:Key} {v:Value},Vc k v=true->(∃ i t,k=Sum.inl i/\v=Value.int i t)\/(∃ x t,k=Sum.inr x/\v=Value.str x t)
 |.inl i,v,h=>by obtain⟨t,e⟩:=Value.isInt_shape (k:=i) (v:=v) h;exact .inl ⟨i,t,rfl,e⟩
 |.inr x,v,h=>by obtain⟨t,e⟩:=Value.isStrOf_shape (x:=x) (v:=v) h;exact .inr ⟨x,t,rfl,e⟩
theorem a77 (i:Int)(t:Tok):Vc (.inl i) (.int i t)=true:=by simp[Vc,Value.isInt]
theorem a40 (x:Str)(t:Tok):Vc (.inr x) (.str x t)=true:=by simp[Vc,Value.isStrOf]
theorem ay2 (a b:Int):decide ((Sum.inl a:Key)=Sum.inl b)=(a==b):=by
 by_cases e:a=b
 . subst e;simp
 have h:¬ (Sum.inl a:Key)=Sum.inl b:=λq=>e (Sum.inl.inj q);rw[A11 h];exact(A1X.mpr e).symm
theorem ay1 (a b:Str):decide ((Sum.inr a:Key)=Sum.inr b)=decide (a=b):=by
 by_cases e:a=b
 . subst e;simp
 have h:¬ (Sum.inr a:Key)=Sum.inr b:=λq=>e (Sum.inr.inj q);rw[A11 h,A11 e]
theorem aA6 (a:Int)(b:Str):decide ((Sum.inl a:Key)=Sum.inr b)=false:=A11 (λq=>nomatch q)
theorem aB5 (a:Str)(b:Int):decide ((Sum.inr a:Key)=Sum.inl b)=false:=A11 (λq=>nomatch q)
def B7 (prog:Program)(w:World):PySem.KeyKind prog w Key where
 is:=Vc
 hash:=keyH w
 inj:=λv a b ha hb=>by
  rcases Bx ha with ⟨i,t,rfl,rfl⟩|⟨x,t,rfl,rfl⟩
  . rcases Bx hb with ⟨j,u,rfl,e⟩|⟨y,u,rfl,e⟩
    . injection e with e1 _;rw[e1]
    exact nomatch e
  rcases Bx hb with ⟨j,u,rfl,e⟩|⟨y,u,rfl,e⟩
  . exact nomatch e
  injection e with e1 _;rw[e1]
 byValue:=λk v h=>by rcases Bx h with ⟨i,t,rfl,rfl⟩|⟨x,t,rfl,rfl⟩<;>rfl
 pyHash:=λhv h=>by
  rcases Bx hv with ⟨i,t,rfl,rfl⟩|⟨x,t,rfl,rfl⟩
  . exact wpAny_pyHash_int h
  exact wpAny_pyHash_str h
 eqBool:=λhu hv h=>by
  rcases Bx hu with ⟨i,t,rfl,rfl⟩|⟨x,t,rfl,rfl⟩
  . rcases Bx hv with ⟨j,u,rfl,rfl⟩|⟨y,u,rfl,rfl⟩
    . rw[ay2] at h;exact wpAny_eqBool_int h
    rw[aA6] at h;exact SeqAt.EqAt.int_str i t y u _ _ _ _ h
  rcases Bx hv with ⟨j,u,rfl,rfl⟩|⟨y,u,rfl,rfl⟩
  . rw[aB5] at h;exact SeqAt.EqAt.str_int x t j u _ _ _ _ h
  rw[ay1] at h;exact wpAny_eqBool_str h
 «strs»:=λk x t v h=>by
  rcases Bx h with ⟨i,u,rfl,e⟩|⟨y,u,rfl,e⟩
  . exact nomatch e
  injection e with e1 _;subst e1
  cases v<;>rfl
theorem Vi (prog:Program)(w:World)(i:Int)(t:Tok):(B7 prog w).is (.inl i) (.int i t)=true:=a77 i t
theorem Ur (prog:Program)(w:World)(x:Str)(t:Tok):(B7 prog w).is (.inr x) (.str x t)=true:=a40 x t
inductive V where
 |non | bl (b:Bool) | int (i:Int) | str (x:Str) | byt (b:Array UInt8) | flt (b:UInt64) | ref (a:Addr) | ty (n:String)
 deriving DecidableEq
def RelV:V->Value->Prop
 |.non,u=>u=Value.none
 |.bl b,u=>u=Value.bool b
 |.int i,u=>∃ t,u=Value.int i t
 |.str x,u=>∃ t,u=Value.str x t
 |.byt b,u=>∃ t,u=Value.bytes b t
 |.flt b,u=>∃ t,u=Value.float b t
 |.ref a,u=>u=Value.ref a
 |.ty n,u=>u=Value.type n
abbrev Vals:List V->List Value->Prop:=Paired RelV
theorem Vals.length {xs:List V} {us:List Value} (r:Vals xs us):xs.length=us.length:=A39 r
theorem Vals.get:∀ {xs:List V} {us:List Value} {i:Nat} {x:V},Vals xs us->xs[i]? = some x->∃ u,us[i]? = some u/\RelV x u
 |_,_,_,_,.nil,e=>by simp at e
 |_,_,0,_,.cons r _,e=>by simp at e;subst e;exact⟨_,rfl,r⟩
 |_,_,i+1,x,.cons _ t,e=>by obtain⟨u,h1,h2⟩:=Vals.get (i:=i) (x:=x) t (by simpa using e);exact⟨u,by simpa using h1,h2⟩
theorem Vals.append:∀ {xs ys:List V} {us ws:List Value},Vals xs us->Vals ys ws->Vals (xs++ys) (us++ws)
 |_,_,_,_,.nil,s=>s
 |_,_,_,_,.cons r t,s=>.cons r (Vals.append t s)
theorem Vals.take:∀ {xs:List V} {us:List Value} (n:Nat),Vals xs us->Vals (xs.take n) (us.take n)
 |_,_,0,_=>.nil
 |_,_,_+1,.nil=>.nil
 |_,_,n+1,.cons r t=>.cons r (Vals.take n t)
theorem Vals.drop:∀ {xs:List V} {us:List Value} (n:Nat),Vals xs us->Vals (xs.drop n) (us.drop n)
 |_,_,0,r=>r
 |_,_,_+1,.nil=>.nil
 |_,_,n+1,.cons _ t=>Vals.drop n t
def RelO:Option V->Option Value->Prop
 |some v,some u=>RelV v u
 |none,none=>True
 |_,_=>False
def KV {κ:Type}:List (κ×V)->List (κ×Value)->Prop:=Paired λ(p:κ×V) (q:κ×Value)=>p.1=q.1/\RelV p.2 q.2
def kV:Key->V
 |.inl i=>.int i
 |.inr x=>.str x
def IsTupN (h:Heap)(a:Addr)(items:Array Value):Prop:=∃ o,h.get? a=some o/\o.cls = .type "tuple" /\ (∃ n,o.data = .seq items n)/\o.dict=none
theorem IsTupN.tup {h:Heap}{a:Addr}{items:Array Value}(x:IsTupN h a items):IsTup h a items:=let ⟨o,h1,h2,⟨n,h3⟩,_⟩:=x;⟨o,h1,h2,n,h3⟩
theorem IsTupN.new (h:Heap)(its:Array Value):IsTupN (h.push {cls:=.type "tuple",data:=.seq its}) h.objs.size its:=⟨_,A15 _ rfl,rfl,⟨_,rfl⟩,rfl⟩
inductive HO where
 |lst (xs:List V)
 |tup (xs:List V)
 |dK (kvs:List (Key×V)) | dT (kvs:List (List Key×V))
 |set (S:Int->Bool) (n:Nat)
 |ins (C dx:Addr) (fs:List (Str×V))
 |own (x:Addr)
 |xd (fs:List (Str×V))
 |met (f x:Addr)
 |rng (lo hi:Int)
 |frz (o:Obj) (u:HO)
 |tbl (ps:Array Value)
 |ext (φ:Heap->Prop)
abbrev Hp:=Addr->Option HO
def upd (H:Hp)(a:Addr)(o:HO):Hp:=λb=>if b=a then some o else H b
theorem Ai {H:Hp}{a:Addr}{o:HO}:upd H a o a=some o:=by unfold upd;rw[if_pos rfl]
theorem By {H:Hp}{a b:Addr}{o:HO}(h:b≠a):upd H a o b=H b:=by unfold upd;rw[if_neg h]
theorem ne_of {H:Hp}{a b:Addr}{o u:HO}(h:H a=some o)(h':H b=some u)(d:o≠u):a≠b:=by intro e;subst e;rw[h] at h';exact d (A12 h')
theorem ne_of_none {H:Hp}{a b:Addr}{o:HO}(h:H a=some o)(h':H b=none):a≠b:=by intro e;subst e;rw[h] at h';cases h'
section
variable (P:Program)(w:World)
def ObjOk (H:Hp)(h:Heap)(a:Addr):HO->Prop
 |.lst xs=>xs.length<=sizeLine/\∃(its:List Value) (n:Nat),Vals xs its/\h.get? a=some {cls:=.type "list",data:=.seq its.toArray n}
 |.tup xs=>xs.length<=sizeLine/\∃ its:List Value,Vals xs its/\IsTupN h a its.toArray
 |.dK kvs=>kvs.length<=sizeLine/\(a==sysModules)=false/\∃ vs,KV kvs vs/\h.DictOf (B7 P w) a vs
 |.dT kvs=>kvs.length<=sizeLine/\(a==sysModules)=false/\∃ xs:List (List Key×Addr×Value),
   Paired (λ(p:List Key×V) (q:List Key×Addr×Value)=>p.1=q.1/\H q.2.1=some (.tup (p.1.map kV))/\RelV p.2 q.2.2) kvs xs /\
   ∃ o es ep,h.get? a=some o/\o.ExactDict/\o.data = .dict es ep/\es.toList=xs.map (entryOfKey (tupleKind (B7 P w)))/\(xs.map (·.1)).Nodup
 |.set S n=>h.SetOf (intKind P w) a S n
 |.ins C dx fs=>H dx=some (.own a)/\fs.length<=1000/\dx≠a/\h.get? a=some (W.instObj C dx) /\
   ∃ mA,h.Ns1 dx mA/\(∀ f,RelO (fs.lookup f) (mA f))/\PySem.Within mA (fs.map (·.1))
 |.own _=>∃ o,h.get? a=some o
 |.xd fs=>∃ mA,h.Ns1 a mA/\∀ f,RelO (fs.lookup f) (mA f)
 |.rng lo hi=>∃ t u v,h.get? a=some {cls:=.type "range",data:=.fields #[.int lo t,.int hi u,.int 1 v]}
 |.frz o u=>h.get? a=some o/\ObjOk H h a u
 |.tbl ps=>h.get? a=some {cls:=.none,data:=.fields ps}
 |.met f x=>h.get? a=some (W.methodObj (.ref f) (.ref x))
 |.ext φ=>φ h/\(∃ o,h.get? a=some o)/\∀ h1 h2:Heap,φ h1->(∀ o,h1.get? a=some o->h2.get? a=some o)->φ h2
def HOk (H:Hp)(h:Heap):Prop:=∀ a o,H a=some o->ObjOk P w H h a o
end
section
variable {P:Program}{w:World}{H H':Hp}{h h':Heap}{a:Addr}{o:HO}
theorem ObjOk.lt (x:ObjOk P w H h a o):a<h.objs.size:=by
 cases o with
 |lst xs=>obtain⟨_,_,_,_,e⟩:=x;exact A0L e
 |tup xs=>obtain⟨_,_,_,p⟩:=x;exact p.tup.lt
 |dK kvs=>obtain⟨_,_,_,_,o,_,_,e,_⟩:=x;exact A0L e
 |dT kvs=>obtain⟨_,_,_,_,o,_,_,e,_⟩:=x;exact A0L e
 |set S n=>obtain⟨o,_,_,_,e,_⟩:=x;exact A0L e
 |ins C dx fs=>obtain⟨_,_,_,e,_⟩:=x;exact A0L e
 |own y=>obtain⟨_,e⟩:=x;exact A0L e
 |xd fs=>obtain⟨_,⟨_,_,_,e,_⟩,_⟩:=x;exact A0L e
 |rng lo hi=>obtain⟨_,_,_,e⟩:=x;exact A0L e
 |frz ob u=>obtain⟨e,_⟩:=x;exact A0L e
 |tbl ps=>exact A0L (show h.get? a=some _ from x)
 |met f y=>exact A0L (show h.get? a=some _ from x)
 |ext φ=>obtain⟨_,⟨_,e⟩,_⟩:=x;exact A0L e
theorem Paired.mapP {α β:Type}{F G:α->β->Prop}:∀ {l₁:List α} {l₂:List β},Paired F l₁ l₂->(∀ a b,F a b->G a b)->Paired G l₁ l₂
 |_,_,.nil,_=>.nil
 |_,_,.cons r t,f=>.cons (f _ _ r) (Paired.mapP t f)
theorem ObjOk.stay (x:ObjOk P w H h a o)(k:∀ b u,(b=a\/H b=some (.own a))->h.get? b=some u->h'.get? b=some u)
  (ho:∀ b,H b=some (.own a)->H' b=some (.own a)) (ht:∀ b xs,H b=some (.tup xs)->H' b=some (.tup xs)):ObjOk P w H' h' a o:=by
 induction o with
 |lst xs=>obtain⟨z,its,n,r,e⟩:=x;exact⟨z,its,n,r,k _ _ (.inl rfl) e⟩
 |tup xs=>obtain⟨z,its,r,ob,e,c⟩:=x;exact⟨z,its,r,ob,k _ _ (.inl rfl) e,c⟩
 |dK kvs=>obtain⟨z,y,vs,r,ob,es,ep,e,c⟩:=x;exact⟨z,y,vs,r,ob,es,ep,k _ _ (.inl rfl) e,c⟩
 |dT kvs=>obtain⟨z,y,xs,r,ob,es,ep,e,c⟩:=x;exact⟨z,y,xs,Paired.mapP r λp q z=>⟨z.1,ht _ _ z.2.1,z.2.2⟩,ob,es,ep,k _ _ (.inl rfl) e,c⟩
 |set S n=>obtain⟨ob,es,ep,t,e,c⟩:=x;exact⟨ob,es,ep,t,k _ _ (.inl rfl) e,c⟩
 |ins C dx fs=>obtain⟨d,z,ne,e,mA,⟨od,es,ep,e2,c⟩,r⟩:=x;exact⟨ho _ d,z,ne,k _ _ (.inl rfl) e,mA,⟨od,es,ep,k _ _ (.inr d) e2,c⟩,r⟩
 |own y=>obtain⟨ob,e⟩:=x;exact⟨ob,k _ _ (.inl rfl) e⟩
 |xd fs=>obtain⟨mA,⟨od,es,ep,e,c⟩,r⟩:=x;exact⟨mA,⟨od,es,ep,k _ _ (.inl rfl) e,c⟩,r⟩
 |rng lo hi=>obtain⟨t,u,v,e⟩:=x;exact⟨t,u,v,k _ _ (.inl rfl) e⟩
 |frz ob u ih=>obtain⟨e,q⟩:=x;exact⟨k _ _ (.inl rfl) e,ih q⟩
 |tbl ps=>have e:h.get? a=some {cls:=.none,data:=.fields ps}:=x;show h'.get? a=some {cls:=.none,data:=.fields ps};exact k a _ (.inl rfl) e
 |met f y=>have e:h.get? a=some (W.methodObj (.ref f) (.ref y)):=x;show h'.get? a=some (W.methodObj (.ref f) (.ref y));exact k a _ (.inl rfl) e
 |ext φ=>obtain⟨p,⟨o,e⟩,st⟩:=x;exact⟨st _ _ p λo q=>k _ _ (.inl rfl) q,⟨o,k _ _ (.inl rfl) e⟩,st⟩
theorem HOk.lt (x:HOk P w H h)(e:H a=some o):a<h.objs.size:=(x a o e).lt
theorem HOk.fresh (x:HOk P w H h)(e:h.objs.size<=a):H a=none:=by
 cases q:H a with
 |none=>rfl
 |some u=>exact absurd (A1I (x.lt q) e) (A2Y _)
theorem HOk.kept (x:HOk P w H h)(k:∀ b u,h.get? b=some u->h'.get? b=some u):HOk P w H h':=λa o e=>
 (x a o e).stay (λb u _ q=>k b u q) (λ_ q=>q) λ_ _ q=>q
theorem HOk.laid (x:HOk P w H h)(k:∀ b u,h.get? b=some u->h'.get? b=some u)(hp:h.objs.size<=a)(new:ObjOk P w (upd H a o) h' a o):HOk P w (upd H a o) h':=λb u e=>by
 have hn:=x.fresh hp
 by_cases hb:b=a
 . subst hb;rw[Ai] at e;cases e;exact new
 rw[By hb] at e;exact(x b u e).stay (λc v _ q=>k c v q) (λc q=>by rw[By (ne_of_none q hn)];exact q) λc xs q=>by rw[By (ne_of_none q hn)];exact q
end
def Rd (H:Hp)(a:Addr)(u:HO):Prop:=H a=some u\/∃ o,H a=some (.frz o u)
theorem Rd.of {H:Hp}{a:Addr}{u:HO}(h:H a=some u):Rd H a u:=.inl h
theorem Rd.ok {P:Program}{w:World}{H:Hp}{h:Heap}{a:Addr}{u:HO}(r:Rd H a u)(x:HOk P w H h):ObjOk P w H h a u:=by
 rcases r with r|⟨o,r⟩
 . exact x a u r
 obtain⟨_,q⟩:=x a _ r;exact q
def Mut:Option HO->Prop
 |some (.lst _)=>True
 |some (.dK _)=>True
 |some (.dT _)=>True
 |some (.set _ _)=>True
 |some (.ins _ _ _)=>True
 |some (.ext _)=>True
 |_=>False
section
variable {P:Program}{w:World}{H:Hp}{h h':Heap}{x e:Addr}{o':HO}
theorem HOk.write (ok:HOk P w H h)(mu:Mut (H x))(he:e=x\/H e=some (.own x))(k:∀ b u,b≠e->h.get? b=some u->h'.get? b=some u)(heo:∃ u,h'.get? e=some u)
  (new:ObjOk P w (upd H x o') h' x o'):HOk P w (upd H x o') h':=λb u q=>by
 have nown:∀ c y,H c=some (.own y)->c≠x:=λc y r z=>by subst z;rw[r] at mu;exact mu
 have ntup:∀ c xs,H c=some (.tup xs)->c≠x:=λc xs r z=>by subst z;rw[r] at mu;exact mu
 by_cases hb:b=x
 . subst hb;rw[Ai] at q;cases q;exact new
 rw[By hb] at q
 by_cases hbe:b=e
 . have q':H b=some (.own x):=by
    rcases he with z|z
    . exact absurd (hbe.trans z) hb
    rw[hbe];exact z
   rw[q] at q';cases q';obtain⟨v,hv⟩:=heo;exact⟨v,by rw[hbe];exact hv⟩
 refine(ok b u q).stay (λc v hc r=>k c v ?_ r) (λc r=>by rw[By (nown c b r)];exact r) λc xs r=>by rw[By (ntup c xs r)];exact r
 rcases hc with rfl|hc
 . exact hbe
 rintro rfl;rcases he with z|z
 . exact nown c b hc z
 rw[hc] at z;cases z;exact hb rfl
end
structure Un (fs ex:List Addr)(H H':Hp)(h h':Heap):Prop where
 keep:∀ b o,h.get? b=some o->H b=none->b∉fs->b∉ex->h'.get? b=some o
 slot:∀ b o,h.get? b=some o->H b=none->b∈fs->b∉ex->∃ sl,h'.get? b=some {o with slots:=sl}
 free:∀ b o,h.get? b=some o->H b=none->b∉ex->H' b=none
 there:∀ b o,h.get? b=some o->b∉ex->∃ o',h'.get? b=some o'
 tups:∀ b xs,H b=some (.tup xs)->H' b=some (.tup xs)
 frzs:∀ b o u,H b=some (.frz o u)->H' b=some (.frz o u)
 tbls:∀ b ps,H b=some (.tbl ps)->∃ more,H' b=some (.tbl (ps++more))
section
variable {fs fs' ex ex':List Addr}{H H1 H2:Hp}{h h1 h2 h':Heap}{a x e:Addr}{o:HO}
theorem Un.any (u:Un fs ex H H1 h h1){b:Addr}{ob:Obj}(q:h.get? b=some ob)(n:H b=none)(hx:b∉ex):∃ sl,h1.get? b=some {ob with slots:=sl}:=by
 by_cases hb:b∈fs
 . exact u.slot b ob q n hb hx
 exact⟨ob.slots,u.keep b ob q n hb hx⟩
theorem Un.kept (k:∀ b u,h.get? b=some u->h'.get? b=some u):Un fs ex H H h h':=
 ⟨λb ob q _ _ _=>k b ob q,λb ob q _ _ _=>⟨ob.slots,k b ob q⟩,λ_ _ _ n _=>n,λb ob q _=>⟨ob,k b ob q⟩,λ_ _ q=>q,λ_ _ _ q=>q,λ_ ps q=>⟨#[],by rw[q];simp⟩⟩
theorem Un.refl:Un fs ex H H h h:=Un.kept λ_ _ q=>q
theorem Un.laid (k:∀ b u,h.get? b=some u->h'.get? b=some u)(hp:h.objs.size<=a)(hn:H a=none):Un fs ex H (upd H a o) h h' where
 keep:=λb u q _ _ _=>k b u q
 slot:=λb u q _ _ _=>⟨u.slots,k b u q⟩
 free:=λb u q n _=>by rw[By (A1C (A1I (A0L q) hp))];exact n
 there:=λb u q _=>⟨u,k b u q⟩
 tups:=λb xs q=>by rw[By (ne_of_none q hn)];exact q
 frzs:=λb u xs q=>by rw[By (ne_of_none q hn)];exact q
 tbls:=λb ps q=>⟨#[],by rw[By (ne_of_none q hn),q];simp⟩
theorem Un.write (mu:Mut (H x))(he:e=x\/H e=some (.own x))(k:∀ b u,b≠e->h.get? b=some u->h'.get? b=some u)(heo:∃ u,h'.get? e=some u):Un fs ex H (upd H x o) h h':=by
 have hx:∀ b,H b=none->b≠x:=λb n z=>by subst z;rw[n] at mu;exact mu
 have hb:∀ b,H b=none->b≠e:=λb n z=>by
  subst z;rcases he with r|r
  . exact hx b n r
  rw[n] at r;cases r
 have hm:∀ b u,H b=some u->¬ Mut (some u)->b≠x:=λb u q nm z=>by subst z;rw[q] at mu;exact nm mu
 refine⟨λb u q n _ _=>k b u (hb b n) q,λb u q n _ _=>⟨u.slots,k b u (hb b n) q⟩,λb u q n _=>by rw[By (hx b n)];exact n,λb u q _=>?_,
  λb xs q=>by rw[By (hm b _ q λz=>z)];exact q,λb u xs q=>by rw[By (hm b _ q λz=>z)];exact q,λb ps q=>⟨#[],by rw[By (hm b _ q λz=>z),q];simp⟩⟩
 by_cases hbe:b=e
 . subst hbe;exact heo
 exact⟨u,k b u hbe q⟩
end
def trk (h:Heap)(H:Hp):List Addr:=(List.range h.objs.size).filter λa=>(H a).isSome
def ab8 (h:Heap)(H:Hp):Heap:=W.hideAll h (trk h H)
theorem Zs (h:Heap)(H:Hp):(ab8 h H).objs.size=h.objs.size:=W.hideAll_size _ _
theorem aa0 {h:Heap}{H:Hp}{b:Addr}{o:Obj}(e:h.get? b=some o)(n:H b=none):(ab8 h H).get? b=some o:=
 W.hideAll_get _ e λhm=>by have q:(H b).isSome=true:=(A1H.mp hm).2;rw[n] at q;simp at q
theorem am6 {h:Heap}{H:Hp}{b:Addr}{o:Obj}(e:(ab8 h H).get? b=some o):h.get? b=some o/\H b=none:=by
 have e':h.get? b=some o:=W.of_hideAll (trk h H) e;refine⟨e',?_⟩
 cases q:H b with
 |none=>rfl
 |some x=>have hm:b∈trk h H:=List.mem_filter.mpr ⟨List.mem_range.mpr (Heap.lt_size e'),by simp[q]⟩;have z:(ab8 h H).get? b=none:=W.hideAll_none (trk h H) hm;rw[z] at e;cases e
def ap5 (g h:Heap)(L:Addr):List (Addr×Obj):=(List.range h.objs.size).filterMap λa=>if a=L\/(g.get? a).isSome=true then none else(h.get? a).map λo=>(a,o)
def rest (g h:Heap)(L d:Addr):List (Addr×Obj):=(ap5 g h L).filter λp=>decide (p.1≠d)
structure Mod (K:W.Frag)(mg:Str->Option Value)(base:Heap):Prop where
 kin:K.In base
 glob:base.Ns mainGlobals mg
 blt:∃ mb,base.Ns builtinsNs mb/\∀ x:Str,x ≠ "__name__" -> mb x=bootBuiltins x
 nolimit:base.NoLimit
/-- the context: a def's body (or a comprehension's block) running. base: fixed through the whole law;s₀,H₀: the entry;outer: the frames whose slots others may change (a def's callers);stack: all frames that run;
  ex: iterators that were made ahead of the entry and are walked here (a comprehension's);fn: the names whose cells were made at the entry (a def: all;a comprehension's block: its own);calm: not within an except suite;pn: pins that every state bears;xe: what is wanted of an exception that leaves the code -/
structure Cx where
 prog:Program
 w:World
 K:W.Frag
 mg:Str->Option Value
 base:Heap
 A:Around
 N:List Str
 s₀:Shared
 H₀:Hp
 env:Env
 outer:List Env
 stack:List Env
 ex:List Addr
 fn:Str->Bool
 calm:Bool
 pn:List (Addr×Obj)
 xe:Value->Shared->Prop
def frs (l:List Env):List Addr:=l.filterMap (·.frame)
abbrev Cx.fs (X:Cx):List Addr:=frs X.outer
def Vis (sc:Scope)(x:Str):Prop:=sc.names.lookup x=some .local\/sc.names.lookup x=some .cell\/sc.names.lookup x=some .free
def Loc (sc:Scope)(x:Str):Prop:=sc.names.lookup x=some .local\/sc.names.lookup x=some .cell
def Look (env:Env)(h:Heap)(m:Str->Option Value)(x:Str)(u:Value):Prop:=
 (env.kindOf x=some .local/\m x=some u)\/((env.kindOf x=some .cell\/env.kindOf x=some .free)/\∃ c,env.cells.lookup x=some c/\h.IsCell c (some u))
structure Cx.Ok (X:Cx):Prop where
 mod:Mod X.K X.mg X.base
 kind:X.env.scope.kind = .function
 glob:X.env.globals=mainGlobals
 blt:X.env.builtins=builtinsNs
 above:X.s₀.heap.objs.size<=X.env.locals
 inj:∀ x y c,X.env.cells.lookup x=some c->X.env.cells.lookup y=some c->x=y
 has:∀ x,(X.env.kindOf x=some .cell\/X.env.kindOf x=some .free)->∃ c,X.env.cells.lookup x=some c
 cab:∀ x c,X.fn x=true->X.env.cells.lookup x=some c->X.s₀.heap.objs.size<=c
 hd:X.calm=true->X.A.handled=none
 frames:X.A.frames=some X.stack
 stk:X.stack=X.outer\/(X.stack=X.env :: X.outer/\X.env.frame=some X.env.locals)
 exf:∀ b∈X.ex,b≠X.env.locals/\∀ x c,X.env.cells.lookup x=some c->c≠b
 bs:∀ b o,X.base.get? b=some o->X.s₀.heap.get? b=some o/\X.H₀ b=none
 bsz:X.base.objs.size<=X.s₀.heap.objs.size
 noex:∀ b o,X.base.get? b=some o->b∉X.ex
 exfs:∀ b∈X.ex,b∉X.fs
 funs:X.s₀.heap.FunFrames X.base X.outer
 frf:∀ b∈X.fs,X.H₀ b=none
structure Inv (X:Cx)(pins:List (Addr×Obj))(σ:List (Option V))(H:Hp)(s:Shared):Prop where
 ok:X.Ok
 os:s.os=X.s₀.os
 bare:AllBare s.gens
 base:Un X.fs X.ex X.H₀ H X.s₀.heap s.heap
 loc:∃ m,s.heap.Ns X.env.locals m/\∀(i:Nat) (x:Str) (v:V),X.N[i]? = some x->σ[i]? = some (some v)->Vis X.env.scope x->∃ u,RelV v u/\Look X.env s.heap m x u
 cell:∀ x c,X.env.cells.lookup x=some c->∃ v,s.heap.IsCell c v
 free:H X.env.locals=none
 freeC:∀ x c,X.env.cells.lookup x=some c->H c=none
 pin:∀ p∈X.pn++pins,s.heap.get? p.1=some p.2/\H p.1=none/\p.1≠X.env.locals/\p.1∉X.fs/\∀ v,p.2.data ≠ .cell v
 hok:HOk X.prog X.w H s.heap
 len:σ.length=X.N.length
section
variable {X:Cx}{pins:List (Addr×Obj)}{σ:List (Option V)}{H H':Hp}{s:Shared}{h':Heap}
theorem Cx.Ok.nofr (ok:X.Ok){b:Addr}{o:Obj}(e:X.base.get? b=some o):b∉X.fs:=λhb=>by have:=(ok.funs.mem hb).1;rw[e] at this;cases this
theorem Inv.bs (I:Inv X pins σ H s):∀ b o,X.base.get? b=some o->s.heap.get? b=some o/\H b=none:=λb o e=>
 ⟨I.base.keep b o (I.ok.bs b o e).1 (I.ok.bs b o e).2 (I.ok.nofr e) (I.ok.noex b o e),I.base.free b o (I.ok.bs b o e).1 (I.ok.bs b o e).2 (I.ok.noex b o e)⟩
theorem Inv.bk (I:Inv X pins σ H s):∀ b o,X.base.get? b=some o->s.heap.get? b=some o:=λb o e=>(I.bs b o e).1
theorem Inv.mod (I:Inv X pins σ H s):Mod X.K X.mg X.base:=I.ok.mod
theorem Inv.kIn (I:Inv X pins σ H s):X.K.In s.heap:=I.ok.mod.kin.keeps I.bk
theorem Inv.lt (I:Inv X pins σ H s):X.env.locals<s.heap.objs.size:=let ⟨_,hn,_⟩:=I.loc;hn.lt
theorem Inv.sz (I:Inv X pins σ H s):X.s₀.heap.objs.size<=s.heap.objs.size:=A0B I.ok.above (A1O I.lt)
theorem Inv.nofs (I:Inv X pins σ H s){a:Addr}(h:s.heap.objs.size<=a):a∉X.fs:=λhb=>by obtain⟨_,o,ho,_⟩:=I.ok.funs.mem hb;exact absurd (A1I (A0L ho) (A0B I.sz h)) (A2Y _)
theorem Inv.cne (I:Inv X pins σ H s):∀ x c,X.env.cells.lookup x=some c->c≠X.env.locals:=λx c e z=>by obtain⟨v,o,ho,hd⟩:=I.cell x c e;obtain⟨m,⟨o',es,ep,ho',hd',_⟩,_⟩:=I.loc;rw[z,ho'] at ho;cases ho;rw[hd'] at hd;cases hd
theorem Inv.funs (I:Inv X pins σ H s):s.heap.FunFrames X.base X.outer:=by
 have all:∀(l:List Env),(∀ b∈frs l,b∈X.fs)->X.s₀.heap.FunFrames X.base l->s.heap.FunFrames X.base l:=by
  intro l
  induction l with
  |nil=>intro _ _;trivial
  |cons env r ih=>intro hs hl;obtain⟨hk,⟨L,o,hf,hn,ho,hd⟩,hr⟩:=hl;have hL:L∈X.fs:=hs L (by unfold frs;rw[List.filterMap_cons,hf];exact List.mem_cons_self);obtain⟨sl,e⟩:=I.base.slot L o ho (I.ok.frf L hL) hL λz=>I.ok.exfs L z hL;exact⟨hk,⟨L,_,hf,hn,e,hd⟩,ih (λb hb=>hs b (by unfold frs;rw[List.filterMap_cons,hf];exact List.mem_cons_of_mem _ hb)) hr⟩
 exact all X.outer (λ_ hb=>hb) I.ok.funs
theorem Inv.stack (I:Inv X pins σ H s):s.heap.FunFrames X.base X.stack:=by
 rcases I.ok.stk with e|⟨e,hf⟩
 . rw[e];exact I.funs
 rw[e];obtain⟨m,hn,_⟩:=I.loc;refine .cons (by rw[I.ok.kind];decide) hf hn ?_ I.funs;exact Heap.get?_none_of_le (A0B I.ok.bsz I.ok.above)
theorem Inv.stkSub (I:Inv X pins σ H s):∀ b∈frs X.stack,b∈X.env.locals :: X.fs:=λb hb=>by
 rcases I.ok.stk with e|⟨e,hf⟩
 . rw[e] at hb;exact A09 _ hb
 rw[e] at hb;unfold frs at hb;rw[List.filterMap_cons,hf] at hb;exact hb
theorem Inv.stkFree (I:Inv X pins σ H s):∀ b∈frs X.stack,H b=none:=λb hb=>by
 rcases A0N.mp (I.stkSub b hb) with e|hb
 . rw[e];exact I.free
 obtain⟨_,o,ho,_⟩:=I.ok.funs.mem hb;exact I.base.free b o ho (I.ok.frf b hb) λz=>I.ok.exfs b z hb
theorem Inv.step {g':Array GenState}{t':Nat}{d':Drawn}{ch:List Addr}(I:Inv X pins σ H s)
  (hch:∀ b∈ch,(b∈X.ex\/X.s₀.heap.objs.size<=b)/\b≠X.env.locals/\(∀ x c,X.env.cells.lookup x=some c->c≠b)/\∀ p∈X.pn++pins,p.1≠b)
  (keep:∀ b o,b≠X.env.locals->b∉X.fs->b∉ch->s.heap.get? b=some o->H b=none->h'.get? b=some o)
  (slot:∀ b o,b≠X.env.locals->b∈X.fs->b∉ch->s.heap.get? b=some o->H b=none->∃ sl,h'.get? b=some {o with slots:=sl}) (free:∀ b o,b∉ch->s.heap.get? b=some o->H b=none->H' b=none)
  (there:∀ b o,b∉ch->s.heap.get? b=some o->∃ o',h'.get? b=some o')
  (tups:∀ b xs,H b=some (.tup xs)->H' b=some (.tup xs)) (frzs:∀ b o u,H b=some (.frz o u)->H' b=some (.frz o u)) (tbls:∀ b ps,H b=some (.tbl ps)->∃ more,H' b=some (.tbl (ps++more)))
  (ns:∀ m,s.heap.Ns X.env.locals m->h'.Ns X.env.locals m) (hok:HOk X.prog X.w H' h') (hg:AllBare g') :
  Inv X pins σ H' {s with heap:=h',gens:=g',drawn:=d',toks:=t'}:=by
 have neL:∀ b o,X.s₀.heap.get? b=some o->b≠X.env.locals:=λb o e=>A1C (A1I (A0L e) I.ok.above)
 have neC:∀ b o,X.s₀.heap.get? b=some o->b∉X.ex->b∉ch:=λb o e hx hb=>by
  rcases(hch b hb).1 with z|z
  . exact hx z
  exact absurd (A1I (A0L e) z) (A2Y _)
 have cellK:∀ x c,X.env.cells.lookup x=some c->∀ v,s.heap.IsCell c v->h'.IsCell c v:=λx c e v ⟨o,ho,hd⟩=>by
  have nch:c∉ch:=λz=>(hch c z).2.2.1 x c e rfl
  by_cases hc:c∈X.fs
  . obtain⟨sl,q⟩:=slot c o (I.cne x c e) hc nch ho (I.freeC x c e);exact⟨_,q,hd⟩
  exact⟨o,keep c o (I.cne x c e) hc nch ho (I.freeC x c e),hd⟩
 refine⟨I.ok,I.os,hg,⟨λb o e n hb hx=>?_,λb o e n hb hx=>?_,λb o e n hx=>?_,λb o e hx=>?_,λb xs e=>tups b xs (I.base.tups b xs e),λb o xs e=>frzs b o xs (I.base.frzs b o xs e),λb ps e=>?_⟩,?_,λx c e=>?_,?_,λx c e=>?_,λp hp=>?_,hok,I.len⟩
 . exact keep b o (neL b o e) hb (neC b o e hx) (I.base.keep b o e n hb hx) (I.base.free b o e n hx)
 . obtain⟨sl,e1⟩:=I.base.slot b o e n hb hx;obtain⟨sl',e2⟩:=slot b _ (neL b o e) hb (neC b o e hx) e1 (I.base.free b o e n hx);exact⟨sl',e2⟩
 . obtain⟨o',e1⟩:=I.base.there b o e hx;exact free b o' (neC b o e hx) e1 (I.base.free b o e n hx)
 . obtain⟨o',e1⟩:=I.base.there b o e hx;exact there b o' (neC b o e hx) e1
 . obtain⟨m1,e1⟩:=I.base.tbls b ps e;obtain⟨m2,e2⟩:=tbls b _ e1;exact⟨m1++m2,by rw[e2,Array.append_assoc]⟩
 . obtain⟨m,hn,hl⟩:=I.loc;refine⟨m,ns m hn,λi x v e1 e2 e3=>?_⟩;obtain⟨u,r,l⟩:=hl i x v e1 e2 e3;refine⟨u,r,?_⟩;rcases l with l|⟨k,c,e,z⟩
   . exact .inl l
   exact .inr ⟨k,c,e,cellK x c e _ z⟩
 . obtain⟨v,z⟩:=I.cell x c e;exact⟨v,cellK x c e v z⟩
 . obtain⟨m,⟨o,_,_,ho,_⟩,_⟩:=I.loc;exact free _ o (λz=>(hch _ z).2.1 rfl) ho I.free
 . obtain⟨v,o,ho,hd⟩:=I.cell x c e;exact free c o (λz=>(hch c z).2.2.1 x c e rfl) ho (I.freeC x c e)
 obtain⟨e,n,ne,nf,d⟩:=I.pin p hp;have nch:p.1∉ch:=λz=>(hch p.1 z).2.2.2 p hp rfl;exact⟨keep p.1 p.2 ne nf nch e n,free p.1 p.2 nch e n,ne,nf,d⟩
theorem Inv.un {t':Nat}(I:Inv X pins σ H s)(u:Un X.fs [] H H' s.heap h')(hok:HOk X.prog X.w H' h'):Inv X pins σ H' {s with heap:=h',toks:=t'}:=by
 obtain⟨m,⟨o,es,ep,ho,r⟩,_⟩:=id I.loc;obtain⟨sl,hL⟩:=u.any ho I.free (by simp)
 exact I.step (g':=s.gens) (d':=s.drawn) (ch:=[]) (λ_ z=>nomatch z) (λb o _ hb _ e n=>u.keep b o e n hb (by simp)) (λb o _ hb _ e n=>u.slot b o e n hb (by simp)) (λb o _ e n=>u.free b o e n (by simp)) (λb o _ e=>u.there b o e (by simp)) u.tups u.frzs u.tbls (λm' hm=>by obtain⟨o',es',ep',ho',r'⟩:=hm;rw[ho] at ho';cases ho';exact⟨_,es',ep',hL,r'⟩) hok I.bare
theorem Inv.call {g':Array GenState}{t':Nat}{d':Drawn}{ch:List Addr}(I:Inv X pins σ H s)(u:Un (frs X.stack) ch H H' s.heap h')(hok:HOk X.prog X.w H' h')(hg:AllBare g')
  (hch:∀ b∈ch,(b∈X.ex\/X.s₀.heap.objs.size<=b)/\b≠X.env.locals/\(∀ x c,X.env.cells.lookup x=some c->c≠b)/\∀ p∈X.pn++pins,p.1≠b) :
  Inv X pins σ H' {s with heap:=h',gens:=g',drawn:=d',toks:=t'}:=by
 obtain⟨m,⟨o,es,ep,ho,r⟩,_⟩:=id I.loc;obtain⟨sl,hL⟩:=u.any ho I.free λz=>(hch _ z).2.1 rfl
 exact I.step (ch:=ch) hch (λb o hL hb hc e n=>u.keep b o e n (λz=>(A0N.mp (I.stkSub b z)).elim hL hb) hc) (λb o _ _ hc e n=>u.any e n hc) (λb o hc e n=>u.free b o e n hc) (λb o hc e=>u.there b o e hc) u.tups u.frzs u.tbls (λm' hm=>by obtain⟨o',es',ep',ho',r'⟩:=hm;rw[ho] at ho';cases ho';exact⟨_,es',ep',hL,r'⟩) hok hg
theorem Inv.turned {t':Nat}{it:Addr}(I:Inv X pins σ H s)(k:∀ b o,b≠it->s.heap.get? b=some o->h'.get? b=some o)(hn:H it=none)(hL:it≠X.env.locals)
  (h1:it∈X.ex\/X.s₀.heap.objs.size<=it) (h2:∀ x c,X.env.cells.lookup x=some c->c≠it) (h3:∀ p∈X.pn++pins,p.1≠it):Inv X pins σ H {s with heap:=h',toks:=t'}:=by
 have nit:∀ b u,H b=some u->b≠it:=λb u e z=>by rw[z,hn] at e;cases e
 refine I.step (g':=s.gens) (d':=s.drawn) (ch:=[it]) (λb hb=>?_) (λb o _ _ hc e _=>k b o (λz=>hc (by simp[z])) e) (λb o _ _ hc e _=>⟨o.slots,k b o (λz=>hc (by simp[z])) e⟩) (λ_ _ _ _ n=>n)
  (λb o hc e=>⟨o,k b o (λz=>hc (by simp[z])) e⟩) (λ_ _ e=>e) (λ_ _ _ e=>e) (λb ps e=>⟨#[],by rw[e];simp⟩) (λm hm=>?_) (λb u e=>?_) I.bare
 . have e:b=it:=by simpa using hb
   subst e;exact⟨h1,hL,h2,h3⟩
 . obtain⟨o,es,ep,ho,r⟩:=hm;exact⟨o,es,ep,k _ o (Ne.symm hL) ho,r⟩
 refine(I.hok b u e).stay (λc v hc q=>k c v ?_ q) (λ_ q=>q) λ_ _ q=>q;rcases hc with z|z
 . rw[z];exact nit b u e
 exact nit c _ z
theorem Inv.tok (I:Inv X pins σ H s)(t:Nat):Inv X pins σ H {s with toks:=t}:=I.un (h':=s.heap) (t':=t) Un.refl I.hok
theorem Inv.kept {t':Nat}(I:Inv X pins σ H s)(k:∀ b u,s.heap.get? b=some u->h'.get? b=some u):Inv X pins σ H {s with heap:=h',toks:=t'}:=I.un (Un.kept k) (I.hok.kept k)
theorem Inv.laid {a:Addr}{o:HO}{t':Nat}(I:Inv X pins σ H s)(k:∀ b u,s.heap.get? b=some u->h'.get? b=some u)(hp:s.heap.objs.size<=a)(new:ObjOk X.prog X.w (upd H a o) h' a o) :
  Inv X pins σ (upd H a o) {s with heap:=h',toks:=t'}:=I.un (Un.laid k hp (I.hok.fresh hp)) (I.hok.laid k hp new)
theorem Inv.write {x e:Addr}{o:HO}{t':Nat}(I:Inv X pins σ H s)(mu:Mut (H x))(he:e=x\/H e=some (.own x))(k:∀ b u,b≠e->s.heap.get? b=some u->h'.get? b=some u)(heo:∃ u,h'.get? e=some u)
  (new:ObjOk X.prog X.w (upd H x o) h' x o):Inv X pins σ (upd H x o) {s with heap:=h',toks:=t'}:=I.un (Un.write mu he k heo) (I.hok.write mu he k heo new)
theorem Inv.weak {σ':List (Option V)}(I:Inv X pins σ H s)(hl:σ'.length=σ.length)(w:∀(i:Nat) v,σ'[i]? = some (some v)->σ[i]? = some (some v)):Inv X pins σ' H s:=
 ⟨I.ok,I.os,I.bare,I.base,let ⟨m,hn,hl'⟩:=I.loc;⟨m,hn,λi x v e1 e2 e3=>hl' i x v e1 (w i v e2) e3⟩,I.cell,I.free,I.freeC,I.pin,I.hok,hl.trans I.len⟩
theorem Inv.pins_of {pins':List (Addr×Obj)}(I:Inv X pins σ H s)(h:∀ p∈pins',s.heap.get? p.1=some p.2/\H p.1=none/\p.1≠X.env.locals/\p.1∉X.fs/\∀ v,p.2.data ≠ .cell v):Inv X pins' σ H s:=
 ⟨I.ok,I.os,I.bare,I.base,I.loc,I.cell,I.free,I.freeC,λp hp=>(A0C.mp hp).elim (λz=>I.pin p (A1L _ z)) (h p),I.hok,I.len⟩
theorem Wa {N:List Str}(hN:N.Nodup){i j:Nat}{x:Str}(a:N[i]? = some x)(b:N[j]? = some x):i=j:=by obtain⟨h1,e1⟩:=A01.mp a;obtain⟨h2,e2⟩:=A01.mp b;exact(A2A hN).mp (e1.trans e2.symm)
theorem Rt {M:Model}{A:Around}{E:Value->Shared->Prop}{i:Nat}{x:Str}{v:V}{u:Value}{Q:Unit->Shared->Prop}(I:Inv X pins σ H s)(hN:X.N.Nodup)(hi:X.N[i]? = some x)(hx:Loc X.env.scope x)(r:RelV v u)
  (h:∀ s',Inv X pins (σ.set i (some v)) H s'->(∃ a,Heap.SameBut a s.heap s'.heap/\(a=X.env.locals\/X.env.cells.lookup x=some a))->Q () s') (hf:X.fn x=true\/X.env.scope.names.lookup x=some .local:=by with_unfolding_all (first | exact .inl rfl | exact .inr rfl | assumption)):wpAny M A (storeName X.env x u) Q E s:=by
 obtain⟨m,hn,hl⟩:=id I.loc;have hcls:(X.env.scope.kind == .class||(X.env.scope.kind == .module&&X.env.locals != X.env.globals))=false:=by rw[I.ok.kind];rfl
 have hiσ:i<σ.length:=by rw[I.len];exact(A01.mp hi).1
 have cne:=I.cne
 have tracked:∀ {a:Addr} {h':Heap},(∃ o,s.heap.get? a=some o/\H a=none)->Heap.SameBut a s.heap h'->HOk X.prog X.w H h':=fun {a h'} ha hs b ob e=>by
  obtain⟨_,_,hfree⟩:=ha;refine(I.hok b ob e).stay (λc w' hc q=>(hs.2 c ?_).trans q) (λ_ q=>q) λ_ _ q=>q;rintro rfl;rcases hc with rfl|hc
  . rw[hfree] at e;cases e
  rw[hfree] at hc;cases hc
 rcases hx with hk|hk
 . refine wpAny_storeName_local hk hn (λh' hn' hs=>?_) hcls;obtain⟨oL,_,_,hoL,_⟩:=id hn;refine h _ ⟨I.ok,I.os,I.bare,⟨λb o e n hb hx=>?_,λb o e n hb hx=>?_,I.base.free,λb o e hx=>?_,I.base.tups,I.base.frzs,I.base.tbls⟩,⟨_,hn',λj y v' e1 e2 e3=>?_⟩,λy c e=>?_,I.free,I.freeC,λp hp=>?_,tracked ⟨oL,hoL,I.free⟩ hs,by simpa using I.len⟩ ⟨_,hs,.inl rfl⟩
   . exact(hs.2 b (A1C (A1I (A0L e) I.ok.above))).trans (I.base.keep b o e n hb hx)
   . obtain⟨sl,e1⟩:=I.base.slot b o e n hb hx;exact⟨sl,(hs.2 b (A1C (A1I (A0L e) I.ok.above))).trans e1⟩
   . obtain⟨o',e1⟩:=I.base.there b o e hx;exact⟨o',(hs.2 b (A1C (A1I (A0L e) I.ok.above))).trans e1⟩
   . by_cases hj:j=i
     . subst hj;rw[hi] at e1;cases e1;rw[List.getElem?_set_self hiσ] at e2
       cases e2;exact⟨u,r,.inl ⟨hk,by simp⟩⟩
     rw[A5M (Ne.symm hj)] at e2;obtain⟨u',r',q⟩:=hl j y v' e1 e2 e3;refine⟨u',r',?_⟩;rcases q with ⟨k,e⟩|⟨k,c,e,z⟩
     . refine .inl ⟨k,?_⟩;have:y≠x:=λe=>hj (Wa hN e1 (e ▸ hi));simp[this,e]
     exact .inr ⟨k,c,e,z.sameBut hs (cne y c e)⟩
   . obtain⟨w',z⟩:=I.cell y c e;exact⟨w',z.sameBut hs (cne y c e)⟩
   obtain⟨e,n,ne,nf,d⟩:=I.pin p hp;exact⟨(hs.2 p.1 ne).trans e,n,ne,nf,d⟩
 have hfn:X.fn x=true:=by
  rcases hf with z|z
  . exact z
  rw[z] at hk;cases hk
 obtain⟨c,hc⟩:=I.ok.has x (.inl hk);obtain⟨w',z⟩:=I.cell x c hc;refine wpAny_storeName_cell I.ok.kind hk hc z (λh' hc' hs=>?_);obtain⟨oc,hoc,hocd⟩:=id z;refine h {s with heap:=h'} ⟨I.ok,I.os,I.bare,⟨λb o e n hb hx=>?_,λb o e n hb hx=>?_,I.base.free,λb o e hx=>?_,I.base.tups,I.base.frzs,I.base.tbls⟩,⟨m,hn.sameBut hs (Ne.symm (cne x c hc)),λj y v' e1 e2 e3=>?_⟩,λy c' e=>?_,I.free,I.freeC,λp hp=>?_,tracked ⟨oc,hoc,I.freeC x c hc⟩ hs,by simpa using I.len⟩ ⟨c,hs,.inr hc⟩
 . exact(hs.2 b (A1C (A1I (A0L e) (I.ok.cab x c hfn hc)))).trans (I.base.keep b o e n hb hx)
 . obtain⟨sl,e1⟩:=I.base.slot b o e n hb hx;exact⟨sl,(hs.2 b (A1C (A1I (A0L e) (I.ok.cab x c hfn hc)))).trans e1⟩
 . obtain⟨o',e1⟩:=I.base.there b o e hx;exact⟨o',(hs.2 b (A1C (A1I (A0L e) (I.ok.cab x c hfn hc)))).trans e1⟩
 . by_cases hj:j=i
   . subst hj;rw[hi] at e1;cases e1;rw[List.getElem?_set_self hiσ] at e2
     cases e2;exact⟨u,r,.inr ⟨.inl hk,c,hc,hc'⟩⟩
   rw[A5M (Ne.symm hj)] at e2;obtain⟨u',r',q⟩:=hl j y v' e1 e2 e3;refine⟨u',r',?_⟩;rcases q with q|⟨k,c',e,z'⟩
   . exact .inl q
   refine .inr ⟨k,c',e,z'.sameBut hs ?_⟩;rintro rfl;exact hj (Wa hN e1 (I.ok.inj _ _ _ e hc ▸ hi))
 . by_cases hcc:c'=c
   . subst hcc;exact⟨_,hc'⟩
   obtain⟨w2,z2⟩:=I.cell y c' e;exact⟨w2,z2.sameBut hs hcc⟩
 obtain⟨e,n,ne,nf,d⟩:=I.pin p hp;refine⟨(hs.2 p.1 ?_).trans e,n,ne,nf,d⟩;intro q;rw[q,hoc] at e;have q':oc=p.2:=A12 e;exact d w' (by rw[<- q'];exact hocd)
theorem Wb {M:Model}{A:Around}{E:Value->Shared->Prop}{i:Nat}{x:Str}{v:V}{u:Value}{Q:Unit->Shared->Prop}(I:Inv X pins σ H s)(hN:X.N.Nodup)(hi:X.N[i]? = some x)(hx:Loc X.env.scope x)(r:RelV v u)
  (h:∀ s',Inv X pins (σ.set i (some v)) H s'->Q () s') (hf:X.fn x=true\/X.env.scope.names.lookup x=some .local:=by with_unfolding_all (first | exact .inl rfl | exact .inr rfl | assumption)):wpAny M A (storeName X.env x u) Q E s:=
 Rt I hN hi hx r (λs' I' _=>h s' I') hf
theorem Inv.call' {s':Shared}{ch:List Addr}(I:Inv X pins σ H s)(ho:s'.os=s.os)(u:Un (frs X.stack) ch H H' s.heap s'.heap)(hok:HOk X.prog X.w H' s'.heap)(hg:AllBare s'.gens)
  (hch:∀ b∈ch,(b∈X.ex\/X.s₀.heap.objs.size<=b)/\b≠X.env.locals/\(∀ x c,X.env.cells.lookup x=some c->c≠b)/\∀ p∈X.pn++pins,p.1≠b):Inv X pins σ H' s':=by
 obtain⟨h',g',d',t',o'⟩:=s';have e:o'=s.os:=ho;subst e;exact I.call (g':=g') (t':=t') (d':=d') u hok hg hch
end
abbrev XK:=Value->Option Addr->Hp->Prop
abbrev St:=List (Option V)
abbrev VK:=V->Hp->Prop
abbrev TE:=St->Hp->VK->Prop
abbrev TT:=St->Hp->(Bool->Hp->Prop)->Prop
abbrev TA:=St->Hp->(List V->Hp->Prop)->Prop
structure Pk where
 nx:St->Hp->Prop
 rt:VK
 bk:St->Hp->Prop:=λ_ _=>False
 ct:St->Hp->Prop:=λ_ _=>False
abbrev TS:=Pk->St->Hp->Prop
def EP (X:Cx)(pins:List (Addr×Obj))(σ:St)(Q:VK)(u:Value)(s':Shared):Prop:=∃ v H',Inv X pins σ H' s'/\RelV v u/\Q v H'
def TP (X:Cx)(pins:List (Addr×Obj))(σ:St)(Q:Bool->Hp->Prop)(b:Bool)(s':Shared):Prop:=∃ H',Inv X pins σ H' s'/\Q b H'
def AP (X:Cx)(pins:List (Addr×Obj))(σ:St)(Q:List V->Hp->Prop)(us:List Value)(s':Shared):Prop:=∃ vs H',Inv X pins σ H' s'/\Vals vs us/\Q vs H'
def SP (X:Cx)(pins:List (Addr×Obj))(D:Pk)(f:Flow)(s':Shared):Prop:=
 match f with
 |.next=>∃ σ' H',Inv X pins σ' H' s'/\D.nx σ' H'
 |.brk=>∃ σ' H',Inv X pins σ' H' s'/\D.bk σ' H'
 |.cont=>∃ σ' H',Inv X pins σ' H' s'/\D.ct σ' H'
 |.ret u=>∃ v σ' H',Inv X pins σ' H' s'/\RelV v u/\D.rt v H'
def PE (X:Cx)(e:Expr)(t:TE):Prop:=
 ∀(pins:List (Addr×Obj)) (s:Shared) (σ:St) (H:Hp) (Q:VK),Inv X pins σ H s->t σ H Q->wpAny (model X.prog X.w) X.A (eval e X.env) (EP X pins σ Q) X.xe s
def PT (X:Cx)(e:Expr)(t:TT):Prop:=
 ∀(pins:List (Addr×Obj)) (s:Shared) (σ:St) (H:Hp) (Q:Bool->Hp->Prop),Inv X pins σ H s->t σ H Q->wpAny (model X.prog X.w) X.A (isTrue e X.env (eval e X.env)) (TP X pins σ Q) X.xe s
def PW (X:Cx)(e:Expr)(t:TT):Prop:=
 ∀(whole:Sem Value) (pins:List (Addr×Obj)) (s:Shared) (σ:St) (H:Hp) (Q:Bool->Hp->Prop),Inv X pins σ H s->t σ H Q->wpAny (model X.prog X.w) X.A (isTrue e X.env whole) (TP X pins σ Q) X.xe s
theorem PW.pt {X:Cx}{e:Expr}{t:TT}(h:PW X e t):PT X e t:=h _
def PA (X:Cx)(es:List Expr)(t:TA):Prop:=
 ∀(pos:Pos) (pins:List (Addr×Obj)) (s:Shared) (σ:St) (H:Hp) (Q:List V->Hp->Prop),Inv X pins σ H s->t σ H Q->wpAny (model X.prog X.w) X.A (spliced (backTo pos (starEach es X.env))) (AP X pins σ Q) X.xe s
def PS (X:Cx)(st:Stmt)(t:TS):Prop:=
 ∀(pins:List (Addr×Obj)) (s:Shared) (σ:St) (H:Hp) (D:Pk),Inv X pins σ H s->t D σ H->wpAny (model X.prog X.w) X.A (exec st X.env) (SP X pins D) X.xe s
def PSs (X:Cx)(st:List Stmt)(t:TS):Prop:=
 ∀(pins:List (Addr×Obj)) (s:Shared) (σ:St) (H:Hp) (D:Pk),Inv X pins σ H s->t D σ H->wpAny (model X.prog X.w) X.A (execs st X.env) (SP X pins D) X.xe s
theorem thn {α:Type}{t:Sem α}{Q Q':α->Shared->Prop}{M:Model}{A:Around}{E:Value->Shared->Prop}{s:Shared}(h:wpAny M A t Q E s)(hQ:∀ a s,Q a s->Q' a s):wpAny M A t Q' E s:=A34 h hQ λ_ _ x=>x
section
variable {X:Cx}
def aH4 (i:Nat):TE:=fun σ H Q=>∃ v,σ[i]? = some (some v)/\Q v H
def tC (v:V):TE:=λ_ H Q=>Q v H
theorem av3 {i:Nat}{x:Str}{pos:Pos}(hN:X.N[i]? = some x)(hv:Vis X.env.scope x)(hd:(x==("__debug__":Str))=false:=by decide)(hcd:(x==("__classdict__":Str))=false:=by decide):PE X (.Name x pos) (aH4 i):=by
 intro pins s σ H Q I h;obtain⟨v,e,h⟩:=h;obtain⟨m,hn,hl⟩:=I.loc;obtain⟨u,r,l⟩:=hl i x v hN e hv;have fin:EP X pins σ Q u s:=⟨v,H,I,r,h⟩;rcases l with ⟨hk,hm⟩|⟨hk,c,hc,hcell⟩
 . exact wpAny_Name (wpAny_loadName_local I.ok.kind hk hn hm fin) hd
 rcases hk with hk|hk
 . exact wpAny_Name (wpAny_loadName_cell I.ok.kind hk hc hcell fin) hd
 exact wpAny_Name (wpAny_loadName_free I.ok.kind hk hc hcell fin hcd) hd
theorem A4 {i j pos}:PE X (.Constant (.int i) j pos) (tC (.int i)):=λ_ _ _ H _ I h=>wpAny_Constant_int ⟨.int i,H,I.tok _,⟨_,rfl⟩,h⟩
theorem Hl {b j pos}:PE X (.Constant (.bool b) j pos) (tC (.bl b)):=λ_ _ _ H _ I h=>Constant_bool ⟨.bl b,H,I,rfl,h⟩
theorem Tf {j pos}:PE X (.Constant .none j pos) (tC .non):=λ_ _ _ H _ I h=>Constant_none ⟨.non,H,I,rfl,h⟩
theorem B3 {x j pos}:PE X (.Constant (.str x) j pos) (tC (.str x)):=λ_ _ _ H _ I h=>Calls.Constant_str ⟨.str x,H,I.tok _,⟨_,rfl⟩,h⟩
def Gl (X:Cx)(x:Str):Prop:=X.env.kindOf x=some .globalImplicit
theorem Uk {E:Value->Shared->Prop}{pins:List (Addr×Obj)}{s:Shared}{σ:St}{H:Hp}{x:Str}{u:Value}{pos:Pos}{Q:Value->Shared->Prop}(I:Inv X pins σ H s)(hg:Gl X x)(hm:X.mg x=some u)(h:Q u s)
  (hd:(x==("__debug__":Str))=false:=by decide):wpAny (model X.prog X.w) X.A (eval (.Name x pos) X.env) Q E s:=
 Calls.Name_function_global I.ok.kind hg (Calls.loadGlobal_global (by rw[I.ok.glob];exact I.mod.glob.keeps I.bk) hm h) hd
theorem Pb {E:Value->Shared->Prop}{pins:List (Addr×Obj)}{s:Shared}{σ:St}{H:Hp}{x:Str}{u:Value}{pos:Pos}{Q:Value->Shared->Prop}(I:Inv X pins σ H s)(hg:Gl X x)(hm:X.mg x=none)(hv:bootBuiltins x=some u)(h:Q u s)
  (hn:x ≠ "__name__":=by decide) (hd:(x==("__debug__":Str))=false:=by decide):wpAny (model X.prog X.w) X.A (eval (.Name x pos) X.env) Q E s:=by
 obtain⟨mb,h1,h2⟩:=I.mod.blt;exact Calls.Name_function_global I.ok.kind hg (Calls.loadGlobal_builtin (by rw[I.ok.glob];exact I.mod.glob.keeps I.bk) hm (by rw[I.ok.blt];exact h1.keeps I.bk) ((h2 x hn).trans hv) h) hd
theorem an6 {x:Str}{v:V}{u:Value}{pos:Pos}(hg:Gl X x)(hm:X.mg x=some u)(r:RelV v u)(hd:(x==("__debug__":Str))=false:=by decide):PE X (.Name x pos) (tC v):=
 λ_ _ _ H _ I h=>Uk I hg hm ⟨v,H,I,r,h⟩ hd
theorem Uy {x:Str}{v:V}{u:Value}{pos:Pos}(hg:Gl X x)(hm:X.mg x=none)(hv:bootBuiltins x=some u)(r:RelV v u)(hn:x ≠ "__name__":=by decide)(hd:(x==("__debug__":Str))=false:=by decide):PE X (.Name x pos) (tC v):=
 λ_ _ _ H _ I h=>Pb I hg hm hv ⟨v,H,I,r,h⟩ hn hd
variable {a b:Expr}{ta tb:TE}{pos:Pos}
def tB (t:TE):TT:=fun σ H Q=>t σ H λx H1=>∃ c,x = .bl c/\Q c H1
theorem Kj {e:Expr}{t:TE}(h:PE X e t)(he:∀ whole,isTrue e X.env whole=(do let v <- whole;standAt e.pos;holding [v] (truthy v)):=by intro _;ac_nf):PT X e (tB t):=by
 intro pins s σ H Q I hw;refine isTrue_plain (thn (h pins s σ H _ I hw) λv s1 ⟨x,H1,I1,r1,q1⟩=>?_) (he _);obtain⟨d,rfl,q⟩:=q1
 cases r1;exact A2U ⟨H1,I1,q⟩
variable {tA tB':TT}{rest:List Expr}
def aJ0 (t u:TT):TT:=fun σ H Q=>t σ H λc H1=>if c=true then u σ H1 Q else Q false H1
def tOr (t u:TT):TT:=fun σ H Q=>t σ H λc H1=>if c=true then Q true H1 else u σ H1 Q
def aK7 (t:TT):TT:=fun σ H Q=>t σ H λc H1=>Q (!c) H1
theorem Ve (ha:PT X a tA):PW X (.BoolOp .And [a] pos) tA:=by
 intro wh pins s σ H Q I h;refine isTrue_and (thn (ha pins s σ H Q I h) λc s1 e=>?_)
 cases c with
 |true=>exact isTrue_and_nil e
 |false=>exact e
theorem Pc (ha:PT X a tA):PW X (.BoolOp .Or [a] pos) tA:=by
 intro wh pins s σ H Q I h;refine isTrue_or (thn (ha pins s σ H Q I h) λc s1 e=>?_)
 cases c with
 |false=>exact isTrue_or_nil e
 |true=>exact e
theorem Zz (ha:PT X a tA)(hb:PW X (.BoolOp .And (b :: rest) pos) tB'):PW X (.BoolOp .And (a :: b :: rest) pos) (aJ0 tA tB'):=by
 intro wh pins s σ H Q I h;refine isTrue_and (thn (ha pins s σ H _ I h) λc s1 ⟨H1,I1,q1⟩=>?_)
 cases c with
 |true=>exact hb wh pins s1 σ H1 Q I1 q1
 |false=>exact⟨H1,I1,q1⟩
theorem Qb (ha:PT X a tA)(hb:PW X (.BoolOp .Or (b :: rest) pos) tB'):PW X (.BoolOp .Or (a :: b :: rest) pos) (tOr tA tB'):=by
 intro wh pins s σ H Q I h;refine isTrue_or (thn (ha pins s σ H _ I h) λc s1 ⟨H1,I1,q1⟩=>?_)
 cases c with
 |true=>exact⟨H1,I1,q1⟩
 |false=>exact hb wh pins s1 σ H1 Q I1 q1
theorem Kh (ha:PT X a tA):PT X (.UnaryOp .Not a pos) (aK7 tA):=by intro pins s σ H Q I h;exact isTrue_not (ha pins s σ H (λc H1=>Q (!c) H1) I h)
def at8 (ta tb:TE):TE:=fun σ H Q=>ta σ H λx H1=>∃ c,x = .bl c/\if c=true then tb σ H1 Q else Q (.bl false) H1
def aK8 (ta tb:TE):TE:=fun σ H Q=>ta σ H λx H1=>∃ c,x = .bl c/\if c=true then Q (.bl true) H1 else tb σ H1 Q
def aw3 (ta:TE):TE:=fun σ H Q=>ta σ H λx H1=>∃ c,x = .bl c/\Q (.bl (!c)) H1
theorem a48 {op}{t:TE}(h:PE X a t):PE X (.BoolOp op [a] pos) t:=λpins s σ H Q I hw=>BoolOp_one (h pins s σ H Q I hw)
theorem ah0 (ha:PE X a ta)(hb:PE X (.BoolOp .And (b :: rest) pos) tb):PE X (.BoolOp .And (a :: b :: rest) pos) (at8 ta tb):=by
 intro pins s σ H Q I h;refine BoolOp_and (thn (ha pins s σ H _ I h) λv s1 ⟨x,H1,I1,r1,q1⟩=>?_);obtain⟨c,rfl,q1⟩:=q1
 cases r1;refine A2U ?_
 cases c with
 |true=>exact hb pins s1 σ H1 Q I1 q1
 |false=>exact⟨.bl false,H1,I1,rfl,q1⟩
theorem aF4 (ha:PE X a ta)(hb:PE X (.BoolOp .Or (b :: rest) pos) tb):PE X (.BoolOp .Or (a :: b :: rest) pos) (aK8 ta tb):=by
 intro pins s σ H Q I h;refine BoolOp_or (thn (ha pins s σ H _ I h) λv s1 ⟨x,H1,I1,r1,q1⟩=>?_);obtain⟨c,rfl,q1⟩:=q1
 cases r1;refine A2U ?_
 cases c with
 |false=>exact hb pins s1 σ H1 Q I1 q1
 |true=>exact⟨.bl true,H1,I1,rfl,q1⟩
theorem aw2 (ha:PE X a ta):PE X (.UnaryOp .Not a pos) (aw3 ta):=by
 intro pins s σ H Q I h;refine UnaryOp_ (thn (ha pins s σ H _ I h) λv s1 ⟨x,H1,I1,r1,q1⟩=>?_);obtain⟨c,rfl,q1⟩:=q1
 cases r1;exact not_of (A2U ⟨.bl (!c),H1,I1,rfl,q1⟩)
end
def SqL (K:W.Frag)(H:Hp)(a:Addr)(xs:List V):Prop:=
 Rd H a (.lst xs) \/
  ∃(o:Obj) (its:Array Value) (n:Nat),K.lookup a=some o/\o.cls = .type "list" /\ o.dict=none/\o.data = .seq its n/\its.size<=sizeLine/\Vals xs its.toList
def SqT (K:W.Frag)(H:Hp)(a:Addr)(xs:List V):Prop:=
 Rd H a (.tup xs) \/
  ∃(o:Obj) (its:Array Value) (n:Nat),K.lookup a=some o/\o.cls = .type "tuple" /\ o.data = .seq its n/\its.size<=sizeLine/\Vals xs its.toList/\o.dict=none
def absV:Value->Option V
 |.none=>some .non
 |.bool b=>some (.bl b)
 |.int i _=>some (.int i)
 |.str x _=>some (.str x)
 |.bytes b _=>some (.byt b)
 |.float b _=>some (.flt b)
 |.ref a=>some (.ref a)
 |.type n=>some (.ty n)
 |_=>none
theorem RelV.abs {x:V}{u:Value}(r:RelV x u):absV u=some x:=by
 cases x with
 |non=>cases r;rfl
 |bl _=>cases r;rfl
 |int _=>obtain⟨t,rfl⟩:=r;rfl
 |str _=>obtain⟨t,rfl⟩:=r;rfl
 |byt _=>obtain⟨t,rfl⟩:=r;rfl
 |flt _=>obtain⟨t,rfl⟩:=r;rfl
 |ref _=>cases r;rfl
 |ty _=>cases r;rfl
theorem RelV.inj {x y:V}{u:Value}(r:RelV x u)(q:RelV y u):x=y:=A12 (r.abs.symm.trans q.abs)
theorem Vals.inj:∀ {xs ys:List V} {us:List Value},Vals xs us->Vals ys us->xs=ys
 |_,_,_,.nil,.nil=>rfl
 |_,_,_,.cons r t,.cons r' t'=>by rw[r.inj r',Vals.inj t t']
section
variable {X:Cx}{pins:List (Addr×Obj)}{σ:St}{H:Hp}{s:Shared}{a:Addr}{xs ys:List V}
theorem SqL.of {K:W.Frag}(h:H a=some (.lst xs)):SqL K H a xs:=.inl (.inl h)
theorem SqT.of {K:W.Frag}(h:H a=some (.tup xs)):SqT K H a xs:=.inl (.inl h)
theorem Inv.list (I:Inv X pins σ H s)(h:SqL X.K H a xs):∃ its:List Value,Vals xs its/\PlainL s.heap a its.toArray/\xs.length<=sizeLine:=by
 rcases h with h|⟨o,its,n,hk,hc,hd,hs,hz,r⟩
 . obtain⟨z,its,n,r,e⟩:=h.ok I.hok;exact⟨its,r,⟨_,n,e,rfl,rfl,rfl⟩,z⟩
 refine⟨its.toList,r,⟨o,n,I.kIn a o hk,hc,hd,by simpa using hs⟩,?_⟩;have e:=r.length;simp only[Array.length_toList] at e;omega
theorem Inv.tuple (I:Inv X pins σ H s)(h:SqT X.K H a xs):∃ its:List Value,Vals xs its/\IsTup s.heap a its.toArray/\xs.length<=sizeLine:=by
 rcases h with h|⟨o,its,n,hk,hc,hs,hz,r,hn⟩
 . obtain⟨z,its,r,p⟩:=h.ok I.hok;exact⟨its,r,p.tup,z⟩
 refine⟨its.toList,r,⟨o,I.kIn a o hk,hc,n,by simpa using hs⟩,?_⟩;have e:=r.length;simp only[Array.length_toList] at e;omega
theorem Inv.tupleN (I:Inv X pins σ H s)(h:SqT X.K H a xs):∃ ob,s.heap.get? a=some ob/\ob.dict=none:=by
 rcases h with h|⟨o,its,n,hk,hc,hs,hz,r,hn⟩
 . obtain⟨z,its,r,o,h1,_,_,h2⟩:=h.ok I.hok;exact⟨o,h1,h2⟩
 exact⟨o,I.kIn a o hk,hn⟩
theorem Inv.list_inj (I:Inv X pins σ H s)(h:SqL X.K H a xs)(h':SqL X.K H a ys):xs=ys:=by
 obtain⟨its,r,⟨o,n,e,_,_,d⟩,_⟩:=I.list h;obtain⟨its',r',⟨o',n',e',_,_,d'⟩,_⟩:=I.list h';rw[e] at e';cases e';rw[d] at d';injection d' with d1 _;have:its=its':=by simpa using congrArg Array.toList d1
 subst this;exact r.inj r'
theorem Inv.tuple_inj (I:Inv X pins σ H s)(h:SqT X.K H a xs)(h':SqT X.K H a ys):xs=ys:=by
 obtain⟨its,r,⟨o,e,_,n,d⟩,_⟩:=I.tuple h;obtain⟨its',r',⟨o',e',_,n',d'⟩,_⟩:=I.tuple h';rw[e] at e';cases e';rw[d] at d';injection d' with d1 _;have:its=its':=by simpa using congrArg Array.toList d1
 subst this;exact r.inj r'
end
abbrev Cx.wish (X:Cx)(E:Value->Shared->Prop):Cx:={X with xe:=E}
abbrev Cx.nox (X:Cx):Cx:=X.wish λ_ _=>False
theorem Cx.Ok.wish {X:Cx}(ok:X.Ok)(E:Value->Shared->Prop):(X.wish E).Ok:=
 ⟨ok.mod,ok.kind,ok.glob,ok.blt,ok.above,ok.inj,ok.has,ok.cab,ok.hd,ok.frames,ok.stk,ok.exf,ok.bs,ok.bsz,ok.noex,ok.exfs,ok.funs,ok.frf⟩
theorem Cx.Ok.unwish {X:Cx}{E:Value->Shared->Prop}(ok:(X.wish E).Ok):X.Ok:=
 ⟨ok.mod,ok.kind,ok.glob,ok.blt,ok.above,ok.inj,ok.has,ok.cab,ok.hd,ok.frames,ok.stk,ok.exf,ok.bs,ok.bsz,ok.noex,ok.exfs,ok.funs,ok.frf⟩
section
variable {X:Cx}{pins:List (Addr×Obj)}{σ:St}{H:Hp}{s:Shared}{E:Value->Shared->Prop}
theorem Inv.wish (I:Inv X pins σ H s)(E:Value->Shared->Prop):Inv (X.wish E) pins σ H s:=⟨I.ok.wish E,I.os,I.bare,I.base,I.loc,I.cell,I.free,I.freeC,I.pin,I.hok,I.len⟩
theorem Inv.unwish (I:Inv (X.wish E) pins σ H s):Inv X pins σ H s:=⟨I.ok.unwish,I.os,I.bare,I.base,I.loc,I.cell,I.free,I.freeC,I.pin,I.hok,I.len⟩
theorem SP.unwish {D:Pk}{f:Flow}{s':Shared}(h:SP (X.wish E) pins D f s'):SP X pins D f s':=by
 cases f with
 |next=>obtain⟨σ',H',I,q⟩:=h;exact⟨σ',H',I.unwish,q⟩
 |brk=>obtain⟨σ',H',I,q⟩:=h;exact⟨σ',H',I.unwish,q⟩
 |cont=>obtain⟨σ',H',I,q⟩:=h;exact⟨σ',H',I.unwish,q⟩
 |ret u=>obtain⟨v,σ',H',I,r,q⟩:=h;exact⟨v,σ',H',I.unwish,r,q⟩
theorem PSs.nox {st:List Stmt}{t:TS}(h:PSs X.nox st t):PSs X st t:=λpins s σ H D I hw=>A34 (h pins s σ H D (I.wish _) hw) (λ_ _ q=>q.unwish) λ_ _ z=>False.elim z
end
section
variable {X:Cx}{st:Stmt}{rest:List Stmt}{t u:TS}{e:Expr}{te:TE}{pos:Pos}
def aB8:TS:=λD σ H=>D.nx σ H
def aE0 (t u:TS):TS:=λD σ H=>t {D with nx:=u D} σ H
theorem Ap:PSs X [] aB8:=λ_ _ σ H _ I h=>A57 ⟨σ,H,I,h⟩
theorem A2 (h1:PS X st t) (h2:PSs X rest u):PSs X (st :: rest) (aE0 t u):=by
 intro pins s σ H D I h;refine wpAny_execs_cons (thn (h1 pins s σ H {D with nx:=u D} I h) λf s1 q=>?_)
 cases f with
 |next=>obtain⟨σ',H',I',q⟩:=q;exact h2 pins s1 σ' H' D I' q
 |ret v=>exact q
 |brk=>exact q
 |cont=>exact q
theorem A5 (h1:PS X st t):PSs X [st] t:=by
 intro pins s σ H D I h;refine wpAny_execs_cons (thn (h1 pins s σ H D I h) λf s1 q=>?_)
 cases f with
 |next=>exact A57 q
 |ret v=>exact q
 |brk=>exact q
 |cont=>exact q
theorem Inv.quiet {pins:List (Addr×Obj)}{σ:St}{H:Hp}{s:Shared}(I:Inv X pins σ H s):interactive X.env=false:=by simp[interactive,I.ok.kind]
def aA1 (te:TE):TS:=λD σ H=>te σ H λ_ H1=>D.nx σ H1
theorem Bv (he:PE X e te)(hs:swapsWith e none pos.line X.env=pure false:=by ac_nf):PS X (.Expr e pos) (aA1 te):=by intro pins s σ H D I h;exact wpAny_Expr_any (thn (he pins s σ H _ I h) λv s1 ⟨x,H1,I1,r1,q1⟩=>⟨σ,H1,I1,q1⟩) I.quiet hs
def aJ1 (te:TE):TS:=λD σ H=>te σ H D.rt
theorem Am (he:PE X e te):PS X (.Return (some e) pos) (aJ1 te):=by intro pins s σ H D I h;exact wpAny_Return_some (thn (he pins s σ H _ I h) λv s1 ⟨x,H1,I1,r1,q1⟩=>⟨x,σ,H1,I1,r1,q1⟩)
def aJ8 (c:TT)(t u:TS):TS:=λD σ H=>c σ H λb H1=>if b=true then t D σ H1 else u D σ H1
theorem C0 {c:Expr}{a b:List Stmt}{tc:TT}(hc:PT X c tc)(ha:PSs X a t)(hb:PSs X b u):PS X (.If c a b pos) (aJ8 tc t u):=by
 intro pins s σ H D I h;refine wpAny_If (thn (hc pins s σ H _ I h) λd s1 ⟨H1,I1,q1⟩=>?_)
 cases d with
 |true=>exact ha pins s1 σ H1 D I1 q1
 |false=>exact hb pins s1 σ H1 D I1 q1
def aA9:TS:=λ_ _ _=>False
theorem X4:PS X st aA9:=λ_ _ _ _ _ _ h=>h.elim
end
abbrev TG:=V->St->Hp->(St->Hp->Prop)->Prop
abbrev TGs:=List V->St->Hp->(St->Hp->Prop)->Prop
def PG (X:Cx)(target:Expr)(t:TG):Prop:=
 ∀(pins:List (Addr×Obj)) (s:Shared) (σ:St) (H:Hp) (v:V) (u:Value) (Q:St->Hp->Prop),Inv X pins σ H s->RelV v u->t v σ H Q ->
  wpAny (model X.prog X.w) X.A (assign target X.env u) (λ_ s'=>∃ σ' H',Inv X pins σ' H' s'/\Q σ' H') X.xe s
def PGs (X:Cx)(ts:List Expr)(t:TGs):Prop:=
 ∀(pins:List (Addr×Obj)) (s:Shared) (σ:St) (H:Hp) (vs:List V) (us:List Value) (Q:St->Hp->Prop),Inv X pins σ H s->Vals vs us->t vs σ H Q ->
  wpAny (model X.prog X.w) X.A (assignInOrder ((assignEach ts X.env).map (·.2)) us) (λ_ s'=>∃ σ' H',Inv X pins σ' H' s'/\Q σ' H') X.xe s
section
variable {X:Cx}{pos:Pos}
def M3 (i:Nat):TG:=λv σ H Q=>Q (σ.set i (some v)) H
theorem A8 {i:Nat}{x:Str}(hN:X.N.Nodup)(hi:X.N[i]? = some x)(hx:Loc X.env.scope x)(hf:X.fn x=true\/X.env.scope.names.lookup x=some .local:=by with_unfolding_all (first | exact .inl rfl | exact .inr rfl | assumption)):PG X (.Name x pos) (M3 i):=by intro pins s σ H v u Q I r h;exact wpAny_assign_Name (Wb I hN hi hx r (λs' I'=>⟨_,H,I',h⟩) hf)
def aE7:TGs:=λvs σ H Q=>vs=[]/\Q σ H
def Ua (t:TG)(u:TGs):TGs:=λvs σ H Q=>∃ v r,vs=v :: r/\t v σ H fun σ' H'=>u r σ' H' Q
theorem Pr:PGs X [] aE7:=by
 intro pins s σ H vs us Q I r h;obtain⟨e,h⟩:=h;subst e
 cases r;exact assignInOrder_nil ⟨σ,H,I,h⟩
theorem Gp {e:Expr}{es:List Expr}{t:TG}{u:TGs}(h1:PG X e t)(h2:PGs X es u)
  (hs:(assignEach (e :: es) X.env).map (·.2)=assign e X.env :: (assignEach es X.env).map (·.2):=by ac_nf):PGs X (e :: es) (Ua t u):=by
 intro pins s σ H vs us Q I r h;obtain⟨v,vr,e1,h⟩:=h;subst e1
 cases r with
 |cons r rr=>rw[hs];refine assignInOrder_cons (thn (h1 pins s σ H _ _ _ I r h) λ_ s1 ⟨σ1,H1,I1,q1⟩=>?_);exact h2 pins s1 σ1 H1 _ _ Q I1 rr q1
def au6 (K:W.Frag)(n:Nat)(t:TGs):TG:=λv σ H Q=>∃ a xs,v = .ref a/\SqT K H a xs/\xs.length=n/\t xs σ H Q
theorem az7 {es:List Expr}{k:Nat}{t:TGs}{n:Nat}(hc:X.calm=true)(h:PGs X es t)
  (hn:(assignEach es X.env).length=n:=by ac_nf) (hst:(assignEach es X.env).findIdx? (·.1)=none:=by ac_nf):PG X (.Tuple es k pos) (au6 X.K n t):=by
 intro pins s σ H v u Q I r hw;obtain⟨a,xs,e1,hq,hl,hw⟩:=hw;subst e1
 cases r;obtain⟨its,rv,ht,hz⟩:=I.tuple hq;refine assign_Tuple_tuple (I.ok.hd hc) ht (by simp[hn,<- hl,rv.length]) hst λh' hx=>?_;have I1:Inv X pins σ H {s with heap:=h'}:=I.kept (t':=s.toks) λb o e=>hx b o (A1C (A0L e)) e
 exact h pins _ σ H xs _ Q I1 (by simpa using rv) hw
def ar7 (te:TE)(g:TG):TS:=λD σ H=>te σ H λx H1=>g x σ H1 D.nx
theorem az5 {tg e:Expr}{te:TE}{g:TG}(he:PE X e te)(hg:PG X tg g)(hs:swapsWithSole [tg] e pos.line X.env=pure false:=by ac_nf)(hw:swappedStores [tg] e X.env=pure none:=by ac_nf)
  (h1:(assignEach [tg] X.env).map (·.2)=[assign tg X.env]:=by ac_nf):PS X (.Assign [tg] e pos) (ar7 te g):=by
 intro pins s σ H D I h;refine wpAny_Assign_stores (thn (he pins s σ H _ I h) λv s1 ⟨x,H1,I1,r1,q1⟩=>?_) hs hw;rw[h1];exact thn (hg pins s1 σ H1 x v _ I1 r1 q1) λ_ s2 q=>q
theorem Ac {i:Nat}{x:Str}{e:Expr}{te:TE}{pos':Pos}(hN:X.N.Nodup)(hi:X.N[i]? = some x)(hx:Loc X.env.scope x)(he:PE X e te)(hs:swapsWith e (some (.Name x pos')) pos.line X.env=pure false:=by ac_nf)(hf:X.fn x=true\/X.env.scope.names.lookup x=some .local:=by with_unfolding_all (first | exact .inl rfl | exact .inr rfl | assumption)) :
  PS X (.Assign [.Name x pos'] e pos) (ar7 te (M3 i)):=by
 intro pins s σ H D I h;refine wpAny_Assign_Name (thn (he pins s σ H _ I h) λv s1 ⟨y,H1,I1,r1,q1⟩=>?_) hs;exact Wb I1 hN hi hx r1 (λs2 I2=>⟨_,H1,I2,q1⟩) hf
def ae5 (c:TT)(tb:TS):TS:=λD σ H=>∃ W:Nat->St->Hp->Prop,(∃ m,W m σ H)/\∀ m σ H,W m σ H ->
 c σ H λb H1=>if b=true then ∃ N:St->Hp->Prop,(∀ σ' H',N σ' H'->∃ m',m'<m/\W m' σ' H')/\tb {D with nx:=N,ct:=N,bk:=D.nx} σ H1 else D.nx σ H1
theorem M8 {c:Expr}{body:List Stmt}{tc:TT}{tb:TS}(hp:PassesOwn (model X.prog X.w) X.A X.env X.xe)(hc:PT X c tc)(hb:PSs X body tb):PS X (.While c body [] pos) (ae5 tc tb):=by
 intro pins s σ H D I h;obtain⟨W,⟨m0,w0⟩,turn⟩:=h;refine wpAny_While (codeAny_whileLoop (λn s'=>∃ σ' H',Inv X pins σ' H' s'/\W n σ' H') ?_ m0 ⟨σ,H,I,w0⟩);rintro n s1 ⟨σ1,H1,I1,w1⟩;refine A3G hp (thn (hc pins s1 σ1 H1 _ I1 (turn n σ1 H1 w1)) λb s2 ⟨H2,I2,q2⟩=>?_)
 cases b with
 |true=>
   obtain ⟨N,hN,q2⟩:=q2;rw[A10 rfl];refine A3G hp (thn (hb pins s2 σ1 H2 _ I2 q2) λf s3 q3=>?_)
   cases f with
   |next=>obtain⟨σ3,H3,I3,n3⟩:=q3;obtain⟨m',hm,w3⟩:=hN σ3 H3 n3;exact⟨m',hm,σ3,H3,I3,w3⟩
   |cont=>obtain⟨σ3,H3,I3,n3⟩:=q3;obtain⟨m',hm,w3⟩:=hN σ3 H3 n3;exact⟨m',hm,σ3,H3,I3,w3⟩
   |brk=>exact q3
   |ret v=>exact q3
 |false=>rw[A0W A0O];exact A57 ⟨σ1,H2,I2,q2⟩
end
structure It where
 go:Nat->Hp->Prop
 yld:Nat->Hp->V->Hp->Prop
 stop:Nat->Hp->Prop
def Vr (X:Cx)(pins:List (Addr×Obj))(H:Hp)(b:Addr):Prop:=
 H b=none/\b≠X.env.locals/\b∉X.fs/\(b∈X.ex\/X.s₀.heap.objs.size<=b)/\(∀ x c,X.env.cells.lookup x=some c->c≠b)/\∀ p∈X.pn++pins,p.1≠b
theorem Inv.fpOk {X:Cx}{pins:List (Addr×Obj)}{σ:St}{H H':Hp}{s:Shared}{b:Addr}(I:Inv X pins σ H s)(hb:s.heap.objs.size<=b)(hn:H' b=none):Vr X pins H' b:=by
 refine⟨hn,Nat.ne_of_gt (A1I I.lt hb),I.nofs hb,.inr (A0B I.sz hb),λx c e z=>?_,λp hp z=>?_⟩
 . obtain⟨v,q⟩:=I.cell x c e;exact absurd (A1I q.lt (by rw[z];exact hb)) (A2Y _)
 exact absurd (A1I (A0L (I.pin p hp).1) (by rw[z];exact hb)) (A2Y _)
structure a97 (P:Program)(w:World)(K:W.Frag)(tg:Expr)(J:It)(fp:List Addr)(it:Addr)(tn:Nat->Heap->Prop):Prop where
 mem:it∈fp
 obj:∀ i h,tn i h->∀ b∈fp,∃ o,h.get? b=some o/\∀ v,o.data ≠ .cell v
 keep:∀ i h h',tn i h->(∀ b∈fp,∀ o,h.get? b=some o->h'.get? b=some o)->tn i h'
 item:∀(X:Cx),X.prog=P->X.w=w->X.K=K->X.calm=true->∀(i:Nat) (pins:List (Addr×Obj)) (s:Shared) (σ:St) (H:Hp) (E:Value->Shared->Prop),Inv X pins σ H s->(∀ b∈fp,Vr X pins H b)->tn i s.heap->J.go i H ->
  wpAny (model P w) X.A (pyNext (.ref it)) (λr s1=>∃ u,r=some u /\
   wpAny (model P w) X.A (letOwnedTupleGo tg (.ref it) u) (λ_ s2=>∃ x H',Inv X pins σ H' s2/\RelV x u/\J.yld i H x H'/\tn (i+1) s2.heap/\∀ b∈fp,H' b=none) E s1) E s
 done:∀(X:Cx),X.prog=P->X.w=w->X.K=K->X.calm=true->∀(i:Nat) (pins:List (Addr×Obj)) (s:Shared) (σ:St) (H:Hp) (E:Value->Shared->Prop),Inv X pins σ H s->(∀ b∈fp,Vr X pins H b)->tn i s.heap->J.stop i H ->
  wpAny (model P w) X.A (pyNext (.ref it)) (λr s1=>r=none/\Inv X pins σ H s1) E s
 self:∀(A:Around) (i:Nat) (s:Shared) (Q:Value->Shared->Prop) (E:Value->Shared->Prop),tn i s.heap->Q (.ref it) s->wpAny (model P w) A (pyIter (.ref it)) Q E s
abbrev TI:=St->Hp->(It->Hp->Prop)->Prop
def PIE (X:Cx)(pins:List (Addr×Obj))(σ:St)(tg:Expr)(R:It->Hp->Prop)(itv:Value)(s2:Shared):Prop:=
 ∃(it:Addr) (fp:List Addr) (tn:Nat->Heap->Prop) (J:It) (H':Hp),itv = .ref it/\Inv X pins σ H' s2/\a97 X.prog X.w X.K tg J fp it tn/\tn 0 s2.heap/\(∀ b∈fp,Vr X pins H' b)/\R J H'
def PI (X:Cx)(tg iter:Expr)(wi:TI):Prop:=
 ∀(pins:List (Addr×Obj)) (s:Shared) (σ:St) (H:Hp) (R:It->Hp->Prop),Inv X pins σ H s->wi σ H R ->
  wpAny (model X.prog X.w) X.A (eval iter X.env) (λv s1=>wpAny (model X.prog X.w) X.A (pyIter v) (PIE X pins σ tg R) X.xe s1) X.xe s
theorem Zf {M:Model}{A:Around}{E:Value->Shared->Prop}{s:Shared}{tg:Expr}{it:Addr}{u:Value}{o:Obj}{n:String}{vs:Array Value}{Q:Unit->Shared->Prop}(ho:s.heap.get? it=some o)(hc:o.cls = .type n)(hd:o.data = .fields vs)
  (hn:["enumerate","zip","dict_itemiterator","dict_reverseitemiterator","odict_iterator","itertools.zip_longest","itertools.pairwise"].contains n=false) (hQ:Q () s):wpAny M A (letOwnedTupleGo tg (.ref it) u) Q E s:=by
 unfold letOwnedTupleGo
 cases tg<;>first
  |exact A0M hQ
  | (cases u<;>first
    |exact A0M hQ
    | (refine A08 (wpAny_load ho ?_)
       rw[hc,hd];show wpAny M A (if(["enumerate","zip","dict_itemiterator","dict_reverseitemiterator","odict_iterator","itertools.zip_longest","itertools.pairwise"].contains n&&vs[0]? == some (rawInt _))=true then _ else _) Q E s
       rw[A0W (by intro h;rw[hn,Bool.false_and] at h;cases h)];exact A0M hQ))
def Itl (K:W.Frag)(a:Addr):It:=
 ⟨λi H=>∃ xs x,SqL K H a xs/\xs[i]? = some x,λi H x H'=>H'=H/\∀ xs,SqL K H a xs->xs[i]? = some x,λi H=>∃ xs,SqL K H a xs/\xs.length<=i⟩
def Itt (K:W.Frag)(a:Addr):It:=
 ⟨λi H=>∃ xs x,SqT K H a xs/\xs[i]? = some x,λi H x H'=>H'=H/\∀ xs,SqT K H a xs->xs[i]? = some x,λi H=>∃ xs,SqT K H a xs/\xs.length<=i⟩
def Itr (lo:Int)(n:Nat):It:=⟨λi _=>i<n,λi H x H'=>H'=H/\x = .int (lo+i),λi _=>n<=i⟩
theorem Zu {P:Program}{w:World}{K:W.Frag}{tg:Expr}(a it:Addr):a97 P w K tg (Itl K a) [it] it (λi h=>h.IsListIter it a i) where
 mem:=by simp
 obj:=λi h st b hb=>by
  have e:b=it:=by simpa using hb
  subst e;obtain⟨o,e,c,d⟩:=st;exact⟨o,e,λv z=>by rw[d] at z;cases z⟩
 keep:=λi h h' st k=>st.at λo e=>k it (by simp) o e
 item:=by
  intro X hP hw hK hc i pins s σ H E I hf st hg;subst hP hw hK;obtain⟨xs,x,hq,hx⟩:=hg;obtain⟨its,rv,p,hz⟩:=I.list hq;obtain⟨u,hu,ru⟩:=rv.get hx;obtain⟨f0,f1,f2,f3,f4,f5⟩:=hf it (by simp);refine wpAny_pyNext_list_item st p.isList (x:=u) (by simpa using hu) λh' st' sb=>?_;have I1:Inv X pins σ H {s with heap:=h'}:=I.turned (t':=s.toks) (λb o hb e=>(sb.2 b hb).trans e) f0 f1 f3 f4 f5
  obtain⟨o,e,c,d⟩:=id st';exact⟨u,rfl,Zf (s:={s with heap:=h'}) e c d nofun ⟨x,H,I1,ru,⟨rfl,λys hy=>by rw[I.list_inj hy hq];exact hx⟩,st',λb hb=>(hf b hb).1⟩⟩
 done:=by intro X hP hw hK hc i pins s σ H E I hf st hg;subst hP hw hK;obtain⟨xs,hq,hx⟩:=hg;obtain⟨its,rv,p,hz⟩:=I.list hq;obtain⟨f0,f1,f2,f3,f4,f5⟩:=hf it (by simp);have hl:=rv.length;exact wpAny_pyNext_list_end (I.ok.hd hc) st p.isList (by simp;omega) λh' eb=>⟨rfl,I.turned (t':=s.toks) (λb o hb e=>eb b o hb e) f0 f1 f3 f4 f5⟩
 self:=λ_ _ _ _ _ st h=>wpAny_pyIter_listiter st h
theorem Xk {P:Program}{w:World}{K:W.Frag}{tg:Expr}(a it:Addr):a97 P w K tg (Itt K a) [it] it (λi h=>h.IsTupleIter it a i) where
 mem:=by simp
 obj:=λi h st b hb=>by
  have e:b=it:=by simpa using hb
  subst e;obtain⟨o,e,c,d⟩:=st;exact⟨o,e,λv z=>by rw[d] at z;cases z⟩
 keep:=λi h h' st k=>st.at λo e=>k it (by simp) o e
 item:=by
  intro X hP hw hK hc i pins s σ H E I hf st hg;subst hP hw hK;obtain⟨xs,x,hq,hx⟩:=hg;obtain⟨its,rv,p,hz⟩:=I.tuple hq;obtain⟨u,hu,ru⟩:=rv.get hx;obtain⟨f0,f1,f2,f3,f4,f5⟩:=hf it (by simp);refine wpAny_pyNext_tuple_item st (show s.heap.IsTuple a its.toArray from p) (x:=u) (by simpa using hu) λh' st' sb=>?_;have I1:Inv X pins σ H {s with heap:=h'}:=I.turned (t':=s.toks) (λb o hb e=>(sb.2 b hb).trans e) f0 f1 f3 f4 f5
  obtain⟨o,e,c,d⟩:=id st';exact⟨u,rfl,Zf (s:={s with heap:=h'}) e c d nofun ⟨x,H,I1,ru,⟨rfl,λys hy=>by rw[I.tuple_inj hy hq];exact hx⟩,st',λb hb=>(hf b hb).1⟩⟩
 done:=by intro X hP hw hK hc i pins s σ H E I hf st hg;subst hP hw hK;obtain⟨xs,hq,hx⟩:=hg;obtain⟨its,rv,p,hz⟩:=I.tuple hq;obtain⟨f0,f1,f2,f3,f4,f5⟩:=hf it (by simp);have hl:=rv.length;exact wpAny_pyNext_tuple_end (I.ok.hd hc) st (show s.heap.IsTuple a its.toArray from p) (by simp;omega) λh' eb=>⟨rfl,I.turned (t':=s.toks) (λb o hb e=>eb b o hb e) f0 f1 f3 f4 f5⟩
 self:=λ_ _ _ _ _ st h=>wpAny_pyIter_tupleiter st h
theorem Xd {P:Program}{w:World}{K:PySem.W.Frag}{tg:Expr}(it:Addr)(lo:Int)(n:Nat):a97 P w K tg (Itr lo n) [it] it (λi h=>IsRangeIter h it (lo+(i:Nat)*1) ((n:Int)-(i:Nat)) 1) where
 mem:=by simp
 obj:=λi h st b hb=>by
  have e:b=it:=by simpa using hb
  subst e
  exact⟨_,st,λv z=>by
   have z':Data.fields _=Data.cell v:=z
   cases z'⟩
 keep:=λi h h' st k=>k it (by simp) _ st
 item:=by
  intro X hP hw hK hc i pins s σ H E I hf st hg;subst hP hw hK;obtain⟨f0,f1,f2,f3,f4,f5⟩:=hf it (by simp);have W:=Walks.range (prog:=X.prog) (w:=X.w) (I.ok.hd hc) it lo 1 n;refine W.item i s _ _ hg st λv h' tk hv st' kk=>?_;obtain⟨t,rfl⟩:=hv;have I1:Inv X pins σ H {s with heap:=h',toks:=tk}:=I.turned (λb o hb e=>kk b o (by simpa using hb) e) f0 f1 f3 f4 f5
  refine⟨_,rfl,Zf (s:={s with heap:=h',toks:=tk}) (n:="range_iterator") st' rfl rfl nofun ⟨.int (lo+i),H,I1,⟨t,?_⟩,⟨rfl,rfl⟩,st',λb hb=>(hf b hb).1⟩⟩
  rw[Int.mul_one]
 done:=by intro X hP hw hK hc i pins s σ H E I hf st hg;subst hP hw hK;obtain⟨f0,f1,f2,f3,f4,f5⟩:=hf it (by simp);exact wpAny_pyNext_range_end (I.ok.hd hc) st (by have:n<=i:=hg;omega) λh' eb=>⟨rfl,I.turned (t':=s.toks) (λb o hb e=>eb b o hb e) f0 f1 f3 f4 f5⟩
 self:=λ_ _ _ _ _ st h=>wpAny_pyIter_rangeiter st h
section
variable {X:Cx}{tg:Expr}
theorem X1 {pins:List (Addr×Obj)}{σ:St}{H:Hp}{s:Shared}{R:It->Hp->Prop}{E:Value->Shared->Prop}{lo hi:Int}{t u v:Tok}{tk:Nat}(I:Inv X pins σ H s)(h1:-(2 ^ 62)<=lo)(h2:lo<2 ^ 62)(h3:-(2 ^ 62)<=hi)(h4:hi<2 ^ 62)
  (q:R (Itr lo (hi-lo).toNat) H):wpAny (model X.prog X.w) X.A (pyIter (.ref s.heap.objs.size)) (PIE X pins σ tg R) E {s with heap:=s.heap.push {cls:=.type "range",data:=.fields #[.int lo t,.int hi u,.int 1 v]},toks:=tk}:=by
 refine wpAny_pyIter_range (IsRange.new ..) (small_one h1 h2 h3 h4) ?_;have I1:Inv X pins σ H {s with heap:=s.heap.push {cls:=.type "range",data:=.fields #[.int lo t,.int hi u,.int 1 v]},toks:=tk}:=I.kept λb o e=>A06 _ e
 refine⟨(s.heap.push {cls:=.type "range",data:=.fields #[.int lo t,.int hi u,.int 1 v]}).objs.size,[(s.heap.push {cls:=.type "range",data:=.fields #[.int lo t,.int hi u,.int 1 v]}).objs.size],_,_,H,rfl,
  I1.kept (t':=tk) λb o e=>A06 _ e,Xd _ lo (hi-lo).toNat,?_,λb hb=>?_,q⟩
 . have e1:lo+((0:Nat):Int)*1=lo:=by simp
   have e2:(((hi-lo).toNat:Nat):Int)-((0:Nat):Int)=Builtin.Range.rangeSize lo hi 1:=by rw[rangeSize_one];split<;>omega
   show IsRangeIter _ _ (lo+((0:Nat):Int)*1) ((((hi-lo).toNat:Nat):Int)-((0:Nat):Int)) 1;rw[e1,e2];exact A15 _ rfl
 have e:b=(s.heap.push {cls:=.type "range",data:=.fields #[.int lo t,.int hi u,.int 1 v]}).objs.size:=by simpa using hb
 subst e;exact I1.fpOk (A05 _) (I1.hok.fresh (A05 _))
def aw9 (ta:TA):TI:=fun σ H R=>ta σ H λvs H1=>∃ j:Int,vs=[.int j] /\ -(2 ^ 62)<=j/\j<2 ^ 62/\R (Itr 0 j.toNat) H1
def az4 (ta:TA):TI:=fun σ H R=>ta σ H λvs H1=>∃ i j:Int,vs=[.int i,.int j]/\(-(2 ^ 62)<=i/\i<2 ^ 62 /\ -(2 ^ 62)<=j/\j<2 ^ 62)/\R (Itr i (j-i).toNat) H1
theorem Br {a:Expr}{ta:TA}{p pos:Pos}(hg:Gl X "range")(hm:X.mg "range" = none)(ha:PA X [a] ta)(hs:starEach [a] X.env=[(false,eval a X.env)]:=by ac_nf):PI X tg (.Call (.Name "range" p) [a] [] pos) (aw9 ta):=by
 intro pins s σ H R I h;refine Call_ (Pb I hg hm boot_range (A3H (thn (ha pos pins s σ H _ I h) λus s1 ⟨vs,H1,I1,r1,q1⟩=>?_) hs rfl));obtain⟨j,e,q1,q2,q⟩:=q1;subst e
 cases r1 with
 |cons r rr=>cases rr;obtain⟨t,rfl⟩:=r;exact call_range_1 (X1 I1 ∅ ∅ q1 q2 (by simpa using q))
theorem Kf {a b:Expr}{ta:TA}{p pos:Pos}(hg:Gl X "range")(hm:X.mg "range" = none)(ha:PA X [a,b] ta)(hs:starEach [a,b] X.env=[(false,eval a X.env),(false,eval b X.env)]:=by ac_nf)(hs2:starEach [b] X.env=[(false,eval b X.env)]:=by ac_nf) :
  PI X tg (.Call (.Name "range" p) [a,b] [] pos) (az4 ta):=by
 intro pins s σ H R I h;refine Call_ (Pb I hg hm boot_range (A3H (thn (ha pos pins s σ H _ I h) λus s1 ⟨vs,H1,I1,r1,q1⟩=>?_) (by rw[hs,hs2]) (by rw[hs2];rfl)));obtain⟨i,j,e,⟨q1,q2,q3,q4⟩,q⟩:=q1;subst e
 cases r1 with
 |cons r rr=>
   cases rr with
   |cons r' rr=>cases rr;obtain⟨t,rfl⟩:=r;obtain⟨t',rfl⟩:=r';exact call_range_2 (X1 I1 q1 q2 q3 q4 q)
def aI6 (wi:TI)(g:TG)(tb:TS):TS:=λD σ H=>wi σ H λJ H1=>∃ W:Nat->Nat->St->Hp->Prop,(∃ m,W 0 m σ H1)/\∀ i m σ H,W i m σ H ->
 (J.stop i H/\D.nx σ H)\/(J.go i H/\∃ N:St->Hp->Prop,(∀ σ' H',N σ' H'->∃ m',m'<m/\W (i+1) m' σ' H')/\∀ x H',J.yld i H x H'->g x σ H' fun σ2 H2=>tb {D with nx:=N,ct:=N,bk:=D.nx} σ2 H2)
def Rz (fp:List Addr)(h:Heap):List (Addr×Obj):=fp.filterMap λb=>(h.get? b).map λo=>(b,o)
theorem Jq {fp:List Addr}{h:Heap}{b:Addr}{o:Obj}(hb:b∈fp)(e:h.get? b=some o):(b,o)∈Rz fp h:=List.mem_filterMap.mpr ⟨b,hb,by rw[e];rfl⟩
theorem Z7 {fp:List Addr} {h:Heap} {p:Addr×Obj} (hp:p∈Rz fp h):p.1∈fp/\h.get? p.1=some p.2:=by
 obtain⟨b,hb,e⟩:=List.mem_filterMap.mp hp
 cases q:h.get? b with
 |none=>rw[q] at e;cases e
 |some o=>rw[q] at e;have e':(b,o)=p:=A12 e;subst e';exact⟨hb,q⟩
theorem Inv.pinned {pins:List (Addr×Obj)}{σ:St}{H:Hp}{s:Shared}{fp:List Addr}(I:Inv X pins σ H s)(hf:∀ b∈fp,Vr X pins H b)(ho:∀ b∈fp,∃ o,s.heap.get? b=some o/\∀ v,o.data ≠ .cell v):Inv X (pins++Rz fp s.heap) σ H s:=
 I.pins_of λp hp=>(A0C.mp hp).elim (λz=>I.pin p (A1D _ z)) λz=>by obtain⟨hb,e⟩:=Z7 z;obtain⟨f0,f1,f2,_⟩:=hf p.1 hb;obtain⟨o,e',d⟩:=ho p.1 hb;rw[e] at e';cases e';exact⟨e,f0,f1,f2,d⟩
theorem Inv.unpinned {pins pl:List (Addr×Obj)}{σ:St}{H:Hp}{s:Shared}(I:Inv X (pins++pl) σ H s):Inv X pins σ H s:=I.pins_of λp hp=>I.pin p (A1D _ (A1L _ hp))
theorem C9 {iter:Expr}{body:List Stmt}{wi:TI}{g:TG}{tb:TS}{pos:Pos}(hp:PassesOwn (model X.prog X.w) X.A X.env X.xe)(hc:X.calm=true)(hi:PI X tg iter wi)(hg:PG X tg g)(hb:PSs X body tb)
  (hs:∀ x,foldedSetIterable iter X.env x=pure x:=by intro _;ac_nf):PS X (.For tg iter body [] pos) (aI6 wi g tb):=by
 intro pins s σ H D I h;refine wpAny_For (thn (hi pins s σ H _ I h) λv s1 h1=>thn h1 λitv s2 h2=>?_) hs;obtain⟨it,fp,tn,J,H2,e,I2,T,st2,f2,W,⟨m0,w0⟩,turn⟩:=h2;subst e;have stat:∀ {H':Hp},(∀ b∈fp,H' b=none)->∀ b∈fp,Vr X pins H' b:=λhn b hb=>⟨hn b hb,(f2 b hb).2⟩;refine codeAny_forLoop_any (λn s'=>∃ i σ' H',Inv X pins σ' H' s'/\tn i s'.heap/\(∀ b∈fp,H' b=none)/\W i n σ' H') ?_ m0 ⟨0,σ,H2,I2,st2,λb hb=>(f2 b hb).1,w0⟩;rintro n s3 ⟨i,σ3,H3,I3,st3,fr3,w3⟩;rcases turn i n σ3 H3 w3 with ⟨stop,qn⟩|⟨go,N,hN,step⟩
 . refine A3G hp (thn (T.done X rfl rfl rfl hc i pins s3 σ3 H3 X.xe I3 (stat fr3) st3 stop) λr s4 ⟨hr,I4⟩=>?_);subst hr;exact A57 ⟨σ3,H3,I4,qn⟩
 refine A3G hp (thn (T.item X rfl rfl rfl hc i pins s3 σ3 H3 X.xe I3 (stat fr3) st3 go) λr s4 ⟨u,hr,h4⟩=>?_);subst hr;refine A3G hp (thn h4 λ_ s5 ⟨x,H5,I5,r5,y5,st5,fr5⟩=>?_);have I5':=I5.pinned (stat fr5) (T.obj _ _ st5);refine A3G hp (thn (hg _ s5 σ3 H5 x u _ I5' r5 (step x H5 y5)) λ_ s6 ⟨σ6,H6,I6,q6⟩=>?_);refine A3G hp (thn (hb _ s6 σ6 H6 _ I6 q6) λf s7 q7=>?_)
 have again:∀ {σ7:St} {H7:Hp},Inv X (pins++Rz fp s5.heap) σ7 H7 s7->N σ7 H7->∃ m,m<n/\∃ i σ' H',Inv X pins σ' H' s7/\tn i s7.heap/\(∀ b∈fp,H' b=none)/\W i m σ' H':=fun {σ7 H7} I7 n7=>by obtain⟨m',hm,w7⟩:=hN σ7 H7 n7;refine⟨m',hm,i+1,σ7,H7,I7.unpinned,T.keep _ _ _ st5 λb hb o e=>(I7.pin (b,o) (A1D _ (A1D _ (Jq hb e)))).1,λb hb=>?_,w7⟩;obtain⟨o,e,d⟩:=T.obj _ _ st5 b hb;exact(I7.pin (b,o) (A1D _ (A1D _ (Jq hb e)))).2.1
 cases f with
 |next=>obtain⟨σ7,H7,I7,n7⟩:=q7;exact again I7 n7
 |cont=>obtain⟨σ7,H7,I7,n7⟩:=q7;exact again I7 n7
 |brk=>obtain⟨σ7,H7,I7,q7⟩:=q7;exact⟨σ7,H7,I7.unpinned,q7⟩
 |ret v=>obtain⟨x7,σ7,H7,I7,r7,q7⟩:=q7;exact⟨x7,σ7,H7,I7.unpinned,r7,q7⟩
end
abbrev R2:=V->V->Hp->VK->Prop
def OpR (X:Cx)(f:Value->Value->Sem Value)(r:R2):Prop:=
 ∀(pins:List (Addr×Obj)) (s:Shared) (σ:St) (H:Hp) (x y:V) (v u:Value) (Q:VK),Inv X pins σ H s->RelV x v->RelV y u->r x y H Q ->
  wpAny (model X.prog X.w) X.A (f v u) (EP X pins σ Q) X.xe s
def UnR (X:Cx)(f:Value->Sem Value)(r:V->Hp->VK->Prop):Prop:=
 ∀(pins:List (Addr×Obj)) (s:Shared) (σ:St) (H:Hp) (x:V) (v:Value) (Q:VK),Inv X pins σ H s->RelV x v->r x H Q ->
  wpAny (model X.prog X.w) X.A (f v) (EP X pins σ Q) X.xe s
def CallR (X:Cx)(f:Value)(r:List V->Hp->VK->Prop):Prop:=
 ∀(pins:List (Addr×Obj)) (s:Shared) (σ:St) (H:Hp) (xs:List V) (us:List Value) (Q:VK),Inv X pins σ H s->Vals xs us->r xs H Q ->
  wpAny (model X.prog X.w) X.A (call f us) (EP X pins σ Q) X.xe s
def TruR (X:Cx)(r:V->Hp->(Bool->Hp->Prop)->Prop):Prop:=
 ∀(pins:List (Addr×Obj)) (s:Shared) (σ:St) (H:Hp) (x:V) (v:Value) (Q:Bool->Hp->Prop),Inv X pins σ H s->RelV x v->r x H Q ->
  wpAny (model X.prog X.w) X.A (truthy v) (TP X pins σ Q) X.xe s
def tOp (r:R2)(ta tb:TE):TE:=fun σ H Q=>ta σ H λx H1=>tb σ H1 λy H2=>r x y H2 Q
def tUn (r:V->Hp->VK->Prop)(ta:TE):TE:=fun σ H Q=>ta σ H λx H1=>r x H1 Q
def rI (C:Int->Int->Prop)(g:Int->Int->V):R2:=λx y H Q=>∃ i j,x = .int i/\y = .int j/\C i j/\Q (g i j) H
def rI0 (g:Int->Int->V):R2:=λx y H Q=>∃ i j,x = .int i/\y = .int j/\Q (g i j) H
def rU (g:Int->V):V->Hp->VK->Prop:=λx H Q=>∃ i,x = .int i/\Q (g i) H
section
variable {X:Cx}{a b c:Expr}{ta tb tc:TE}{pos:Pos}
theorem aI1 (ha:PE X a ta)(hb:PE X b tb){pins:List (Addr×Obj)}{s:Shared}{σ:St}{H:Hp}{R:V->V->Hp->Prop}(I:Inv X pins σ H s)
  (h:ta σ H λx H1=>tb σ H1 λy H2=>R x y H2) {Q:Value->Shared->Prop} {f:Value->Value->Sem Value}
  (hf:∀ v u s2 x y H2,Inv X pins σ H2 s2->RelV x v->RelV y u->R x y H2->wpAny (model X.prog X.w) X.A (f v u) Q X.xe s2) :
  wpAny (model X.prog X.w) X.A (eval a X.env) (λv s₁=>wpAny (model X.prog X.w) X.A (eval b X.env) (λu s₂=>wpAny (model X.prog X.w) X.A (f v u) Q X.xe s₂) X.xe s₁) X.xe s:=by
 refine thn (ha pins s σ H _ I h) λv s1 ⟨x,H1,I1,r1,q1⟩=>?_;refine thn (hb pins s1 σ H1 _ I1 q1) λu s2 ⟨y,H2,I2,r2,q2⟩=>?_;exact hf v u s2 x y H2 I2 r1 r2 q2
theorem Ak {op:Operator}{r:R2}(ho:OpR X (binaryOp op) r)(ha:PE X a ta)(hb:PE X b tb):PE X (.BinOp a op b pos) (tOp r ta tb):=by intro pins s σ H Q I h;exact wpAny_BinOp (aI1 ha hb I h λv u s2 x y H2 I2 rx ry q=>ho pins s2 σ H2 x y v u Q I2 rx ry q)
theorem Yb {op:UnaryOp}{r:V->Hp->VK->Prop}(ho:UnR X (unaryOp op) r)(ha:PE X a ta):PE X (.UnaryOp op a pos) (tUn r ta):=by intro pins s σ H Q I h;exact UnaryOp_ (thn (ha pins s σ H _ I h) λv s1 ⟨x,H1,I1,r1,q1⟩=>ho pins s1 σ H1 x v Q I1 r1 q1)
theorem opI {f:Value->Value->Sem Value}{C:Int->Int->Prop}{g:Int->Int->Int}
  (rule:∀(i j:Int) (t u:Tok) (s:Shared) (Q:Value->Shared->Prop) (E:Value->Shared->Prop),C i j->Q (.int (g i j) s.toks) {s with toks:=s.toks+1}->wpAny (model X.prog X.w) X.A (f (.int i t) (.int j u)) Q E s) :
  OpR X f (rI C λi j=>.int (g i j)):=by
 intro pins s σ H x y v u Q I rx ry h;obtain⟨i,j,rfl,rfl,hc,q⟩:=h;obtain⟨t,rfl⟩:=rx;obtain⟨t',rfl⟩:=ry;exact rule i j t t' s _ _ hc ⟨.int (g i j),H,I.tok _,⟨_,rfl⟩,q⟩
theorem aF7 {f:Value->Value->Sem Value}{g:Int->Int->Int}
  (rule:∀(i j:Int) (t u:Tok) (s:Shared) (Q:Value->Shared->Prop) (E:Value->Shared->Prop),Q (.int (g i j) s.toks) {s with toks:=s.toks+1}->wpAny (model X.prog X.w) X.A (f (.int i t) (.int j u)) Q E s) :
  OpR X f (rI0 λi j=>.int (g i j)):=by
 intro pins s σ H x y v u Q I rx ry h;obtain⟨i,j,rfl,rfl,q⟩:=h;obtain⟨t,rfl⟩:=rx;obtain⟨t',rfl⟩:=ry;exact rule i j t t' s _ _ ⟨.int (g i j),H,I.tok _,⟨_,rfl⟩,q⟩
theorem aG1 {f:Value->Value->Sem Value}{g:Int->Int->Bool}
  (rule:∀(i j:Int) (t u:Tok) (s:Shared) (Q:Value->Shared->Prop) (E:Value->Shared->Prop),Q (.bool (g i j)) s->wpAny (model X.prog X.w) X.A (f (.int i t) (.int j u)) Q E s) :
  OpR X f (rI0 λi j=>.bl (g i j)):=by
 intro pins s σ H x y v u Q I rx ry h;obtain⟨i,j,rfl,rfl,q⟩:=h;obtain⟨t,rfl⟩:=rx;obtain⟨t',rfl⟩:=ry;exact rule i j t t' s _ _ ⟨.bl (g i j),H,I,rfl,q⟩
def aI2 (i j:Int):Prop:=0<j/\j<1073741824
def aF3 (i j:Int):Prop:=0<=j/\j<=1000000/\i.natAbs<2 ^ 64
def CMul (i j:Int):Prop:=(-(2 ^ 64)<i/\i<2 ^ 64)\/(-(2 ^ 64)<j/\j<2 ^ 64)
theorem CMul.ok {i j:Int}(h:CMul i j):IntMulOk i j:=by
 rcases h with ⟨h1,h2⟩|⟨h1,h2⟩
 . exact .of_left (intBits_le_64 h1 h2)
 exact .of_right (intBits_le_64 h1 h2)
theorem op_add:OpR X (binaryOp .Add) (rI0 λi j=>.int (i+j)):=aF7 λ_ _ _ _ _ _ _ q=>add_int q
theorem G2:OpR X (binaryOp .Sub) (rI0 λi j=>.int (i-j)):=aF7 λ_ _ _ _ _ _ _ q=>sub_int q
theorem op_mul:OpR X (binaryOp .Mult) (rI CMul λi j=>.int (i*j)):=opI λ_ _ _ _ _ _ _ hc q=>mul_int q hc.ok
theorem aq6:OpR X (binaryOp .FloorDiv) (rI aI2 λi j=>.int (i / j)):=opI λi j _ _ _ _ _ hc q=>by have h1:(0:Int)<j:=hc.1;have h2:j<1073741824:=hc.2;exact floordiv_int ∅ (by rw[Int.fdiv_eq_ediv_of_nonneg i ∅];exact q) (.inl (PyProof.noPylong_small ∅))
theorem Ip:OpR X (binaryOp .Mod) (rI (λ_ j=>0<j) λi j=>.int (i % j)):=opI λi j _ _ _ _ _ hc q=>by have h1:(0:Int)<j:=hc;exact mod_int' ∅ (by rw[Int.fmod_eq_emod_of_nonneg i ∅];exact q)
theorem aD2:OpR X (binaryOp .Pow) (rI aF3 λi j=>.int (i ^ j.toNat)):=opI λ_ _ _ _ _ _ _ hc q=>pow_int_small hc.1 hc.2.1 hc.2.2 q
theorem af0:OpR X (binaryOp .BitAnd) (rI0 λi j=>.int (Builtin.bitAnd i j)):=aF7 λ_ _ _ _ _ _ _ q=>and_int q
theorem unI {f:Value->Sem Value}{g:Int->Int}
  (rule:∀(i:Int) (t:Tok) (s:Shared) (Q:Value->Shared->Prop) (E:Value->Shared->Prop),Q (.int (g i) s.toks) {s with toks:=s.toks+1}->wpAny (model X.prog X.w) X.A (f (.int i t)) Q E s) :
  UnR X f (rU λi=>.int (g i)):=by
 intro pins s σ H x v Q I rx h;obtain⟨i,rfl,q⟩:=h;obtain⟨t,rfl⟩:=rx;exact rule i t s _ _ ⟨.int (g i),H,I.tok _,⟨_,rfl⟩,q⟩
theorem Rl:UnR X (unaryOp .USub) (rU λi=>.int (-i)):=unI λ_ _ _ _ _ q=>neg_int q
end
def aE3:V->V->Bool
 |.non,.non=>true | .non,.int _=>true | .int _,.non=>true | .non,.bl _=>true | .bl _,.non=>true | .non,.str _=>true | .str _,.non=>true
 |.int _,.int _=>true | .bl _,.bl _=>true | .str _,.str _=>true | .byt _,.byt _=>true
 |.int _,.str _=>true | .str _,.int _=>true | .bl _,.str _=>true | .str _,.bl _=>true
 |_,_=>false
def rEq:R2:=λx y H Q=>aE3 x y=true/\Q (.bl (decide (x=y))) H
def rNe:R2:=λx y H Q=>aE3 x y=true/\Q (.bl (!decide (x=y))) H
theorem Zp {i j:Int}:decide (V.int i=V.int j)=(i==j):=by rw[A3I];simp
theorem aj4 {i j:Bool}:decide (V.bl i=V.bl j)=(i==j):=by rw[A3I];simp
theorem Zr {i j:Str}:decide (V.str i=V.str j)=(i==j):=by rw[A3I];simp
theorem a83 {i j:Array UInt8}:decide (V.byt i=V.byt j)=(i.toList==j.toList):=by
 rw[A3I]
 cases i
 cases j;simp
section
variable {X:Cx}{a b c:Expr}{ta tb tc:TE}{pos:Pos}
theorem Bf {pins:List (Addr×Obj)}{σ:St}{H:Hp}{s:Shared}{Q:VK}{k k':Bool}(I:Inv X pins σ H s)(q:Q (.bl k) H)(e:k=k'):EP X pins σ Q (.bool k') s:=by subst e;exact⟨.bl k,H,I,rfl,q⟩
theorem op_eq:OpR X (compareOp .Eq) rEq:=by
 intro pins s σ H x y v u Q I rx ry h;obtain⟨hs,q⟩:=h
 cases x with
 |non=>
   cases rx
   cases y with
   |non=>cases ry;exact PySem.EqNone.eq_none_none (Bf I q (by simp))
   |bl j=>cases ry;exact PySem.EqNone.eq_none_bool (Bf I q (by simp))
   |int j=>obtain⟨t',rfl⟩:=ry;exact PySem.EqNone.eq_none_int (Bf I q (by simp))
   |str j=>obtain⟨t',rfl⟩:=ry;exact PySem.EqNone.eq_none_str (Bf I q (by simp))
   |_=>exact absurd (show false=true from hs) A0O
 |bl i=>
   cases rx
   cases y with
   |non=>cases ry;exact PySem.EqNone.eq_bool_none (Bf I q (by simp))
   |bl j=>cases ry;exact eq_bool (Bf I q aj4)
   |str j=>obtain⟨t',rfl⟩:=ry;exact PySem.EqMixed.eq_bool_str (Bf I q (by simp))
   |_=>exact absurd (show false=true from hs) A0O
 |int i=>
   obtain⟨t,rfl⟩:=rx
   cases y with
   |non=>cases ry;exact PySem.EqNone.eq_int_none (Bf I q (by simp))
   |int j=>obtain⟨t',rfl⟩:=ry;exact eq_int (Bf I q Zp)
   |str j=>obtain⟨t',rfl⟩:=ry;exact PySem.EqMixed.eq_int_str (Bf I q (by simp))
   |_=>exact absurd (show false=true from hs) A0O
 |str i=>
   obtain⟨t,rfl⟩:=rx
   cases y with
   |non=>cases ry;exact PySem.EqNone.eq_str_none (Bf I q (by simp))
   |bl j=>cases ry;exact PySem.EqMixed.eq_str_bool (Bf I q (by simp))
   |int j=>obtain⟨t',rfl⟩:=ry;exact PySem.EqMixed.eq_str_int (Bf I q (by simp))
   |str j=>obtain⟨t',rfl⟩:=ry;exact eq_str (Bf I q Zr)
   |_=>exact absurd (show false=true from hs) A0O
 |byt i=>
   obtain⟨t,rfl⟩:=rx
   cases y with
   |byt j=>obtain⟨t',rfl⟩:=ry;exact W.eq_bytes (Bf I q a83)
   |_=>exact absurd (show false=true from hs) A0O
 |_=>cases y<;>exact absurd (show false=true from hs) A0O
theorem op_ne:OpR X (compareOp .NotEq) rNe:=by
 intro pins s σ H x y v u Q I rx ry h;obtain⟨hs,q⟩:=h
 cases x with
 |non=>
   cases rx
   cases y with
   |non=>cases ry;exact PySem.EqNone.ne_none_none (Bf I q (by simp))
   |bl j=>cases ry;exact PySem.EqNone.ne_none_bool (Bf I q (by simp))
   |int j=>obtain⟨t',rfl⟩:=ry;exact PySem.EqNone.ne_none_int (Bf I q (by simp))
   |str j=>obtain⟨t',rfl⟩:=ry;exact PySem.EqNone.ne_none_str (Bf I q (by simp))
   |_=>exact absurd (show false=true from hs) A0O
 |bl i=>
   cases rx
   cases y with
   |non=>cases ry;exact PySem.EqNone.ne_bool_none (Bf I q (by simp))
   |bl j=>cases ry;exact ne_bool (Bf I q (congrArg not aj4))
   |str j=>obtain⟨t',rfl⟩:=ry;exact PySem.EqMixed.ne_bool_str (Bf I q (by simp))
   |_=>exact absurd (show false=true from hs) A0O
 |int i=>
   obtain⟨t,rfl⟩:=rx
   cases y with
   |non=>cases ry;exact PySem.EqNone.ne_int_none (Bf I q (by simp))
   |int j=>obtain⟨t',rfl⟩:=ry;exact ne_int (Bf I q (congrArg not Zp))
   |str j=>obtain⟨t',rfl⟩:=ry;exact PySem.EqMixed.ne_int_str (Bf I q (by simp))
   |_=>exact absurd (show false=true from hs) A0O
 |str i=>
   obtain⟨t,rfl⟩:=rx
   cases y with
   |non=>cases ry;exact PySem.EqNone.ne_str_none (Bf I q (by simp))
   |bl j=>cases ry;exact PySem.EqMixed.ne_str_bool (Bf I q (by simp))
   |int j=>obtain⟨t',rfl⟩:=ry;exact PySem.EqMixed.ne_str_int (Bf I q (by simp))
   |str j=>obtain⟨t',rfl⟩:=ry;exact ne_str (Bf I q (congrArg not Zr))
   |_=>exact absurd (show false=true from hs) A0O
 |byt i=>
   obtain⟨t,rfl⟩:=rx
   cases y with
   |byt j=>obtain⟨t',rfl⟩:=ry;exact W.ne_bytes (Bf I q (congrArg not a83))
   |_=>exact absurd (show false=true from hs) A0O
 |_=>cases y<;>exact absurd (show false=true from hs) A0O
theorem Xm:OpR X (compareOp .Lt) (rI0 λi j=>.bl (decide (i<j))):=aG1 λ_ _ _ _ _ _ _ q=>lt_int q
theorem au5:OpR X (compareOp .LtE) (rI0 λi j=>.bl (decide (i<=j))):=aG1 λ_ _ _ _ _ _ _ q=>le_int q
theorem Sn:OpR X (compareOp .Gt) (rI0 λi j=>.bl (decide (j<i))):=aG1 λ_ _ _ _ _ _ _ q=>gt_int q
theorem op_in_str:OpR X (compareOp .In) (λx y H Q=>∃ i j,x = .str i/\y = .str j/\Q (.bl (!(Builtin.Str.occurrences j i 0 j.length 1).isEmpty)) H):=by intro pins s σ H x y v u Q I rx ry h;obtain⟨i,j,rfl,rfl,q⟩:=h;obtain⟨t,rfl⟩:=rx;obtain⟨t',rfl⟩:=ry;exact in_str (Bf I q rfl)
theorem aB7:OpR X (compareOp .Is) (λx y H Q=>y = .non/\Q (.bl (decide (x = .non))) H):=by
 intro pins s σ H x y v u Q I rx ry h;obtain⟨rfl,q⟩:=h
 cases ry;refine is_none_gen (Bf I q ?_)
 cases x<;>first
  | (cases rx;rfl)
  | (obtain⟨t,rfl⟩:=rx;rfl)
theorem ap1:OpR X (compareOp .IsNot) (λx y H Q=>y = .non/\Q (.bl (!decide (x = .non))) H):=by
 intro pins s σ H x y v u Q I rx ry h;obtain⟨rfl,q⟩:=h
 cases ry;refine isnot_none_gen (Bf I q ?_)
 cases x<;>first
  | (cases rx;rfl)
  | (obtain⟨t,rfl⟩:=rx;rfl)
theorem OpR.or {f:Value->Value->Sem Value}{r r':R2}(h:OpR X f r)(h':OpR X f r'):OpR X f (λx y H Q=>r x y H Q\/r' x y H Q):=by
 intro pins s σ H x y v u Q I rx ry q;rcases q with q|q
 . exact h pins s σ H x y v u Q I rx ry q
 exact h' pins s σ H x y v u Q I rx ry q
theorem Ao (b:Expr){op:CmpOp}(h:op ≠ .In:=by decide)(h2:op ≠ .NotIn:=by decide):behindInMarks op b=false:=by
 have e1:(op==CmpOp.In)=false:=by cases op<;>first | rfl | exact absurd rfl h
 have e2:(op==CmpOp.NotIn)=false:=by cases op<;>first | rfl | exact absurd rfl h2
 cases b<;>simp[behindInMarks,e1,e2]
theorem Ew {op:CmpOp}{r:R2}(ho:OpR X (compareOp op) r)(ha:PE X a ta)(hb:PE X b tb)(hm:behindInMarks op b=false):PE X (.Compare a [op] [b] pos) (tOp r ta tb):=by intro pins s σ H Q I h;exact wpAny_Compare1 (aI1 ha hb I h λv u s2 x y H2 I2 rx ry q=>ho pins s2 σ H2 x y v u Q I2 rx ry q) hm
def aC2 (t:TE):TT:=fun σ H Q=>t σ H λx H'=>∃ k,x = .bl k/\Q k H'
theorem Ab {op:CmpOp}{r:R2}(ho:OpR X (compareOp op) r)(ha:PE X a ta)(hb:PE X b tb)(hm:behindInMarks op b=false):PT X (.Compare a [op] [b] pos) (aC2 (tOp r ta tb)):=by
 intro pins s σ H Q I h
 refine wpAny_isTrue_Compare1 (thn (ha pins s σ H _ I h) λv s1 ⟨x,H1,I1,r1,q1⟩=>thn (hb pins s1 σ H1 _ I1 q1) λu s2 ⟨y,H2,I2,r2,q2⟩=>thn (ho pins s2 σ H2 x y v u _ I2 r1 r2 q2) λc s3 ⟨z,H3,I3,r3,k,e,q3⟩=>?_) hm
 subst e
 cases r3;exact A2U ⟨H3,I3,q3⟩
def ag7 (r r':R2)(ta tb tc:TE):TE:=fun σ H Q=>ta σ H λx H1=>tb σ H1 λy H2=>r x y H2 λz H3=>∃ k,z = .bl k /\
 (if k=true then tc σ H3 λw' H4=>r' y w' H4 Q else Q (.bl false) H3)
theorem ab2 {op op':CmpOp}{r r':R2}(ho:OpR X (compareOp op) r)(ho':OpR X (compareOp op') r')(ha:PE X a ta)(hb:PE X b tb)(hc:PE X c tc)
  (hm:lastMarks [op,op'] [b,c]=false:=by ac_nf):PE X (.Compare a [op,op'] [b,c] pos) (ag7 r r' ta tb tc):=by
 intro pins s σ H Q I h
 refine Compare_chain (thn (ha pins s σ H _ I h) λv s1 ⟨x,H1,I1,r1,q1⟩=>chain_link (thn (hb pins s1 σ H1 _ I1 q1) λu s2 ⟨y,H2,I2,r2,q2⟩=>thn (ho pins s2 σ H2 x y v u _ I2 r1 r2 q2) λd s3 ⟨z,H3,I3,r3,k,e,q3⟩=>?_)) hm
 subst e
 cases r3;refine A2U ?_
 cases k with
 |false=>exact ite_ff ⟨.bl false,H3,I3,rfl,q3⟩
 |true=>exact ite_tt (chain_last (thn (hc pins s3 σ H3 _ I3 q3) λw' s4 ⟨z',H4,I4,r4,q4⟩=>ho' pins s4 σ H4 y z' u w' Q I4 r2 r4 q4))
def TruV (K:W.Frag)(x:V)(H:Hp)(k:Bool):Prop:=
 match x with
 |.non=>k=false
 |.bl b=>k=b
 |.int i=>k=(i != 0)
 |.str y=>y.length<=sizeLine/\k=((y.length:Int) != 0)
 |.byt y=>y.size<=sizeLine/\k=((y.size:Int) != 0)
 |.ref p=>(∃ xs,SqL K H p xs/\k = !xs.isEmpty)\/(∃ xs,SqT K H p xs/\k = !xs.isEmpty)\/∃ kvs,H p=some (.dK kvs)/\k = !kvs.isEmpty
 |_=>False
theorem Xo {κ:Type}{kvs:List (κ×V)}{vs:List (κ×Value)}(r:KV kvs vs):(!vs.isEmpty) = !kvs.isEmpty:=by cases r<;>rfl
theorem Oq {xs:List V}{its:List Value}(r:Vals xs its):(!its.toArray.isEmpty) = !xs.isEmpty:=by cases r<;>simp
theorem Sf:(sizeLine:Nat)<2 ^ 63:=by rw[A1N];decide
theorem ax5:TruR X (λx H Q=>∃ k,TruV X.K x H k/\Q k H):=by
 intro pins s σ H x v Q I rx h;obtain ⟨k,e,q⟩:=h;have hl:=Sf;have hs:sizeLine=16777216:=A1N
 cases x with
 |non=>cases rx;have e':k=false:=e;subst e';exact truthy_none ⟨H,I,q⟩
 |bl b=>cases rx;have e':k=b:=e;subst e';exact A2U ⟨H,I,q⟩
 |int i=>obtain⟨t,rfl⟩:=rx;have e':k=(i != 0):=e;subst e';exact PySem.P.truthy_int ⟨H,I,q⟩
 |str y=>obtain⟨t,rfl⟩:=rx;obtain⟨hy,e'⟩:y.length<=sizeLine/\k=((y.length:Int) != 0):=e;subst e';exact PySem.P.truthy_str ∅ ⟨H,I.tok _,q⟩
 |byt y=>obtain⟨t,rfl⟩:=rx;obtain⟨hy,e'⟩:y.size<=sizeLine/\k=((y.size:Int) != 0):=e;subst e';exact W.truthy_bytes ∅ ⟨H,I.tok _,q⟩
 |ref p=>
   cases rx;have e':(∃ xs,SqL X.K H p xs/\k = !xs.isEmpty)\/(∃ xs,SqT X.K H p xs/\k = !xs.isEmpty)\/∃ kvs,H p=some (.dK kvs)/\k = !kvs.isEmpty:=e;rcases e' with ⟨xs,hx,e'⟩|⟨xs,hx,e'⟩|⟨kvs,hx,e'⟩
   . subst e';obtain⟨its,r,pl,hz⟩:=I.list hx;have hlen:=r.length;exact wpAny_truthy_list pl.isList (by simp only[List.size_toArray];omega) ⟨H,I.tok _,by rw[Oq r];exact q⟩
   . subst e';obtain⟨its,r,pl,hz⟩:=I.tuple hx;have hlen:=r.length;exact truthy_tuple pl (by simp only[List.size_toArray];omega) ⟨H,I.tok _,by rw[Oq r];exact q⟩
   subst e';obtain⟨hz,hS,vs,r,m⟩:kvs.length<=sizeLine/\(p==sysModules)=false/\∃ vs,KV kvs vs/\s.heap.DictOf (B7 X.prog X.w) p vs:=I.hok p _ hx;have hlen:kvs.length=vs.length:=A39 r;exact wpAny_truthy_dict hS m ∅ ⟨H,I.tok _,by rw[Xo r];exact q⟩
 |_=>exact(show False from e).elim
theorem op_add_str:OpR X (binaryOp .Add) (λx y H Q=>∃ i j,x = .str i/\y = .str j/\i.length+j.length<=sizeLine/\Q (.str (i++j)) H):=by intro pins s σ H x y v u Q I rx ry h;obtain⟨i,j,rfl,rfl,hz,q⟩:=h;obtain⟨t,rfl⟩:=rx;obtain⟨t',rfl⟩:=ry;exact add_str (λt' tk=>⟨.str (i++j),H,I.tok _,⟨_,rfl⟩,q⟩) hz
theorem K7 {x:V}{us:List Value}(r:Vals [x] us):∃ u,us=[u]/\RelV x u:=by
 cases r with
 |cons r1 r2=>cases r2;exact⟨_,rfl,r1⟩
theorem ap8 {x y:V}{us:List Value}(r:Vals [x,y] us):∃ u w',us=[u,w']/\RelV x u/\RelV y w':=by
 cases r with
 |cons r1 r2=>
   cases r2 with
   |cons r3 r4=>cases r4;exact⟨_,_,rfl,r1,r3⟩
theorem Pl:CallR X (.builtin "abs") (λxs H Q=>∃ i,xs=[.int i]/\Q (.int (if i<0 then -i else i)) H):=by intro pins s σ H xs us Q I r h;obtain⟨i,rfl,q⟩:=h;obtain⟨u,rfl,t,rfl⟩:=K7 r;exact call_abs_int λu tk=>⟨.int (if i<0 then -i else i),H,I.tok _,⟨_,rfl⟩,q⟩
theorem Zx:CallR X (.type "int") (λxs H Q=>(∃ i,xs=[.int i]/\Q (.int i) H)\/∃ k,xs=[.bl k]/\Q (.int (if k then 1 else 0)) H):=by
 intro pins s σ H xs us Q I r h;rcases h with ⟨i,rfl,q⟩|⟨k,rfl,q⟩
 . obtain⟨u,rfl,t,rfl⟩:=K7 r;exact call_int_int ⟨.int i,H,I,⟨_,rfl⟩,q⟩
 obtain⟨u,rfl,r1⟩:=K7 r
 cases r1;exact call_int_bool ⟨.int (if k then 1 else 0),H,I.tok _,⟨_,rfl⟩,q⟩
def aK2 (K:W.Frag)(x:V)(H:Hp)(n:Nat):Prop:=
 match x with
 |.str y=>y.length<=sizeLine/\n=y.length
 |.byt y=>y.size<=sizeLine/\n=y.size
 |.ref p=>(∃ xs,SqL K H p xs/\n=xs.length)\/∃ xs,SqT K H p xs/\n=xs.length
 |_=>False
theorem call_len:CallR X (.builtin "len") (λxs H Q=>∃ x n,xs=[x]/\aK2 X.K x H n/\Q (.int n) H):=by
 intro pins s σ H xs us Q I r h;obtain⟨x,n,rfl,e,q⟩:=h;obtain ⟨u,rfl,rx⟩:=K7 r;have hl:=Sf;have hs:sizeLine=16777216:=A1N
 cases x with
 |str y=>obtain⟨t,rfl⟩:=rx;obtain⟨hy,e'⟩:y.length<=sizeLine/\n=y.length:=e;subst e';exact len_str ∅ ⟨.int _,H,I.tok _,⟨_,rfl⟩,q⟩
 |byt y=>obtain⟨t,rfl⟩:=rx;obtain⟨hy,e'⟩:y.size<=sizeLine/\n=y.size:=e;subst e';exact W.len_bytes ∅ ⟨.int _,H,I.tok _,⟨_,rfl⟩,q⟩
 |ref p=>
   cases rx;have e':(∃ xs,SqL X.K H p xs/\n=xs.length)\/∃ xs,SqT X.K H p xs/\n=xs.length:=e;rcases e' with ⟨xs,hx,e'⟩|⟨xs,hx,e'⟩
   . subst e';obtain⟨its,r',pl,hz⟩:=I.list hx;have hlen:=r'.length;exact Calls.call_len_list pl.isList (by simp only[List.size_toArray];omega) ⟨.int xs.length,H,I.tok _,⟨_,by simp only[List.size_toArray];rw[hlen]⟩,q⟩
   subst e';obtain⟨its,r',pl,hz⟩:=I.tuple hx;have hlen:=r'.length;exact len_tuple pl (by simp only[List.size_toArray];omega) ⟨.int xs.length,H,I.tok _,⟨_,by simp only[List.size_toArray];rw[hlen]⟩,q⟩
 |_=>exact(show False from e).elim
end
structure ObjM (h:Heap)(x dx C:Addr)(mA:Str->Option Value):Prop where
 obj:h.get? x=some (W.instObj C dx)
 ns:h.Ns1 dx mA
 ne:dx≠x
theorem a73 {h:Heap}{dx:Addr}{mA:Str->Option Value}(n:h.Ns1 dx mA):∃ od,h.get? dx=some od/\∀ name,W.lookIn name od=some (mA name):=by
 obtain⟨o,es,ep,ho,hd,hk,_,hm⟩:=n;refine⟨o,ho,λname=>?_⟩;have e:=hm name;unfold nsFind findBy at e;rw[<- Array.find?_toList] at e;unfold W.lookIn;rw[hd];dsimp only
 split
 . rename_i y q;rw[q] at e;exact congrArg some e
 rename_i q;rw[q] at e
 have a:es.toList.any (·.refKey)=false:=by rw[List.any_eq_false];intro y hy;obtain⟨z,t,hkey⟩:=hk y (Array.mem_toList_iff.mp hy);simp[DictEntry.refKey,hkey]
 have a':¬ es.toList.any (·.refKey)=true:=by rw[a];exact A0O
 rw[A0W a'];exact congrArg some e
theorem ObjM.look {h:Heap}{x dx C:Addr}{mA:Str->Option Value}(I:ObjM h x dx C mA):∃ od,W.InstAt h x (W.instObj C dx) C (some od)/\∀ name,W.lookIn name od=some (mA name):=
 let ⟨od,ho,hl⟩:=a73 I.ns
 ⟨od,⟨I.obj,rfl,rfl,ho⟩,hl⟩
section
variable {prog:Program}{w:World}{A:Around}{E:Value->Shared->Prop}{s:Shared}{K:W.Frag}{x dx C f:Addr}{mA:Str->Option Value}{name:Str}{v:Value}
theorem ao5 {expr:Bool}{Q:Value->Shared->Prop}(X:K.In s.heap)(I:ObjM s.heap x dx C mA)(hg:W.plainGet K C name=true)(hh:W.hasDictIn K C=true)
  (ha:W.findIn K (.ref C) name=some none) (hv:mA name=some v) (hv':W.handedIn v=true) (h:Q v {s with toks:=s.toks+1}) :
  wpAny (model prog w) A (getAttr (.ref x) name expr) Q E s:=by
 obtain⟨od,J,hl⟩:=I.look;exact W.get_value X J (A5Q hg).1 (W.findObj_own hh ha rfl (by rw[hl,hv])) hv' h
theorem a94 {pl:Sem Bool}{Q:Value×List Value->Shared->Prop}(X:K.In s.heap)(I:ObjM s.heap x dx C mA)(hg:W.plainGet K C name=true)
  (hf:W.findIn K (.ref C) name=some (some (.ref f))) (ht:W.isFn K (.ref f)=true) (hv:mA name=none) (h:Q (.ref f,[.ref x]) s) :
  wpAny (model prog w) A (getMethod (.ref x) name pl) Q E s:=by
 obtain⟨od,J,hl⟩:=I.look;exact W.method_fn X J (A5Q hg).1 (A5Q hg).2 hf (A16.mp ht) (by show(W.lookIn name od).map (·.isSome)=some false;rw[hl,hv];rfl) h
theorem ao7 {ns:List Str}{Q:Unit->Shared->Prop}(X:K.In s.heap)(I:ObjM s.heap x dx C mA)
  (hs:W.findIn K (.ref C) "__setattr__" = some (some (.builtin "object.__setattr__"))) (hp:W.plainOver K C=true) (ht:W.takerIn K C name=some none) (hh:W.hasDictIn K C=true)
  (hw:PySem.Within mA ns) (hsz:ns.length<=sizeLine)
  (h:∀ h',ObjM h' x dx C (λy=>if y=name then some v else mA y)->Heap.SameBut dx s.heap h'->Q () {s with heap:=h',toks:=s.toks+2}) :
  wpAny (model prog w) A (setAttr (.ref x) name v) Q E s:=by
 obtain⟨od,J,hl⟩:=I.look;refine W.set_plain X J hs (W.osa_open (s:={s with toks:=s.toks+1}) (r:=none) X J hp ht λb=>?_)
 obtain⟨cd,hc,hd'⟩:=W.any_some hh;have hx:s.heap.get? x=some ⟨.ref C,some dx,.plain,#[]⟩:=I.obj;refine A08 (A0M (A08 (A08 (wpAny_loadPart hx (A08 (W.Looks.here (s:={s with toks:=s.toks+1}) (W.looks_clsIn X hc) ?_))))))
 rw[hd'];refine A0M (a:=some dx) (A08 (A0M (A08 ?_)));refine wpAny_nsSet1 (s:={s with toks:=s.toks+1}) I.ns λh' hn2 hs2=>?_
 obtain⟨oD,esD,epD,hoD,hdD,hcD⟩:=hn2.count (PySem.Within.cons name v hw);refine A08 (wpAny_lookBehind hoD (by rw[hdD];exact pastItsLine_dict (A0B hcD (by rw[A0G];omega))) ?_);exact A0M (h _ ⟨(hs2.2 _ (Ne.symm I.ne)).trans I.obj,hn2,I.ne⟩ hs2)
theorem aa9 {R:Result->Shared->Prop}{vs:List Value}{kw:List (Str×Value)}(X:K.In s.heap)(hm:W.makesIn K C=true)
  (hi:W.findIn K (.ref C) "__init__" = some (some (.ref f))) (hf:W.typeIn K (.ref f)=some (.type "function"))
  (h:codeAny (model prog w) (A.under (.builtin "type.__call__" ⟨.ref C :: vs,kw⟩)) (.call (.ref f) ⟨.ref (s.heap.objs.size+1) :: vs,kw⟩) (W.InitBack (s.heap.objs.size+1) R)
   {s with heap:=(s.heap.push W.emptyDict).push (W.instObj C s.heap.objs.size)}) :
  codeAny (model prog w) A (.call (.ref C) ⟨vs,kw⟩) R s:=by
 obtain⟨hh,g,d,t,os⟩:=s;exact W.make_core (W.makes_of X hm) (W.looks_findIn X hi) (λself=>W.bind_fn X self hf) (.inl rfl) h
end
def Na (f:Str) (v:V):List (Str×V)->List (Str×V)
 | []=>[(f,v)]
 | (g,x) :: r=>if g=f then(g,v) :: r else(g,x) :: Na f v r
theorem Nu (f g:Str)(v:V):∀ fs:List (Str×V),(Na f v fs).lookup g=if g=f then some v else fs.lookup g
 | []=>by
   show List.lookup g [(f,v)]=_
   by_cases h:g=f
   . have hb:(g==f)=true:=A16.mpr h;simp only[List.lookup,hb,if_pos h]
   have hb:(g==f)=false:=A1X.mpr h;simp only[List.lookup,hb,if_neg h]
 | (k,x) :: r=>by
   have ih:=Nu f g v r;rw[show Na f v ((k,x) :: r)=(if k=f then(k,v) :: r else(k,x) :: Na f v r) from rfl]
   by_cases hk:k=f
   . rw[A10 hk]
     by_cases h:g=k
     . have hb:(g==k)=true:=A16.mpr h;simp only[List.lookup,hb,if_pos (h.trans hk)]
     have hb:(g==k)=false:=A1X.mpr h;simp only[List.lookup,hb,if_neg (λe:g=f=>h (e.trans hk.symm))]
   rw[A0W hk]
   by_cases h:g=k
   . have hb:(g==k)=true:=A16.mpr h;simp only[List.lookup,hb,if_neg (λe:g=f=>hk (h.symm.trans e))]
   have hb:(g==k)=false:=A1X.mpr h;simp only[List.lookup,hb];exact ih
theorem Ng (f:Str)(v:V):∀ fs:List (Str×V),f∈(Na f v fs).map (·.1)/\∀ g,g∈fs.map (·.1)->g∈(Na f v fs).map (·.1)
 | []=>⟨by simp[Na],λg h=>by simp at h⟩
 | (k,x) :: r=>by
   obtain⟨i1,i2⟩:=Ng f v r;rw[show Na f v ((k,x) :: r)=(if k=f then(k,v) :: r else(k,x) :: Na f v r) from rfl]
   by_cases hk:k=f
   . rw[A10 hk];subst hk;exact⟨by simp,λg h=>by simpa using h⟩
   rw[A0W hk];refine⟨?_,λg h=>?_⟩
   . rw[A0U];exact A09 _ i1
   rw[A0U] at h ⊢;rcases A0N.mp h with e|e
   . exact A0N.mpr (.inl e)
   exact A09 _ (i2 g e)
theorem Np (f:Str)(v:V):∀ fs:List (Str×V),(Na f v fs).length<=fs.length+1
 | []=>by simp[Na]
 | (k,x) :: r=>by
   have ih:=Np f v r;rw[show Na f v ((k,x) :: r)=(if k=f then(k,v) :: r else(k,x) :: Na f v r) from rfl]
   by_cases hk:k=f
   . rw[A10 hk,A0G,A0G];omega
   rw[A0W hk,A0G,A0G];omega
theorem RelO.some_of {v:V}{o:Option Value}(r:RelO (some v) o):∃ u,o=some u/\RelV v u:=by
 cases o with
 |none=>exact(show False from r).elim
 |some u=>exact⟨u,rfl,r⟩
theorem RelO.none_of {o:Option Value}(r:RelO none o):o=none:=by
 cases o with
 |none=>rfl
 |some u=>exact(show False from r).elim
theorem Zb {v:V}{u:Value}(r:RelV v u):W.handedIn u=true:=by
 cases v with
 |non=>cases (show u=Value.none from r);rfl
 |bl b=>cases (show u=Value.bool b from r);rfl
 |int i=>obtain⟨t,e⟩:=(show ∃ t,u=Value.int i t from r);cases e;rfl
 |str x=>obtain⟨t,e⟩:=(show ∃ t,u=Value.str x t from r);cases e;rfl
 |byt b=>obtain⟨t,e⟩:=(show ∃ t,u=Value.bytes b t from r);cases e;rfl
 |flt b=>obtain⟨t,e⟩:=(show ∃ t,u=Value.float b t from r);cases e;rfl
 |ref a=>cases (show u=Value.ref a from r);rfl
 |ty n=>cases (show u=Value.type n from r);rfl
section
variable {P:Program}{w:World}{H H':Hp}{h h':Heap}{a C dx:Addr}{fs fs':List (Str×V)}
theorem Ra (hok:HOk P w H h)(e:H a=some (.ins C dx fs)):∃ mA,ObjM h a dx C mA/\(∀ f,RelO (fs.lookup f) (mA f))/\PySem.Within mA (fs.map (·.1))/\fs.length<=1000/\H dx=some (.own a):=by obtain⟨d,z,ne,ob,mA,n,r,q⟩:=(show ObjOk P w H h a (.ins C dx fs) from hok a _ e);exact⟨mA,⟨ob,n,ne⟩,r,q,z,d⟩
end
structure Cls (K:W.Frag)(C:Addr):Prop where
 pg:W.plainGet K C Str.empty=true
 hd:W.hasDictIn K C=true
 po:W.plainOver K C=true
 sa:W.findIn K (.ref C) "__setattr__" = some (some (.builtin "object.__setattr__"))
theorem Cls.get {K:W.Frag}{C:Addr}(c:Cls K C)(f:Str):W.plainGet K C f=true:=c.pg
def NoAttr (K:W.Frag)(C:Addr)(f:Str):Prop:=W.findIn K (.ref C) f=some none
theorem NoAttr.taker {K:W.Frag}{C:Addr}{f:Str}(n:NoAttr K C f):W.takerIn K C f=some none:=by unfold W.takerIn;rw[show W.findIn K (.ref C) f=some none from n];rfl
structure aD9 (K:W.Frag)(C:Addr)(m:Str)(f:Addr):Prop where
 at_:W.findIn K (.ref C) m=some (some (.ref f))
 fn:W.isFn K (.ref f)=true
 kp:W.keepIn K (.ref f)=true
section
variable {X:Cx}{pins:List (Addr×Obj)}{σ:St}{H:Hp}{s:Shared}{a C dx:Addr}{fs:List (Str×V)}{f:Str}{v:V}{A:Around}{E:Value->Shared->Prop}
theorem Xs {b:Bool}{Q:Value->Shared->Prop}(I:Inv X pins σ H s)(e:H a=some (.ins C dx fs))(c:Cls X.K C)(n:NoAttr X.K C f)(l:fs.lookup f=some v)
  (h:∀ u s',Inv X pins σ H s'->RelV v u->Q u s'):wpAny (model X.prog X.w) A (getAttr (.ref a) f b) Q E s:=by
 obtain⟨mA,O,r,_,_,_⟩:=Ra I.hok e;obtain⟨u,hu,ru⟩:=RelO.some_of (v:=v) (o:=mA f) (by rw[<- l];exact r f);exact ao5 I.kIn O (c.get f) c.hd n hu (Zb ru) (h u _ (I.tok _) ru)
theorem Y5 {m:Str}{g:Addr}{pl:Sem Bool}{Q:Value×List Value->Shared->Prop}(I:Inv X pins σ H s)(e:H a=some (.ins C dx fs))(c:Cls X.K C)(k:aD9 X.K C m g)(l:fs.lookup m=none)
  (h:Q (.ref g,[.ref a]) s):wpAny (model X.prog X.w) A (getMethod (.ref a) m pl) Q E s:=by
 obtain⟨mA,O,r,_,_,_⟩:=Ra I.hok e;have hn:mA m=none:=RelO.none_of (by rw[<- l];exact r m);exact a94 I.kIn O (c.get m) k.at_ k.fn hn h
theorem Xr {y:V}{u:Value}{Q:Unit->Shared->Prop}(I:Inv X pins σ H s)(e:H a=some (.ins C dx fs))(c:Cls X.K C)(n:NoAttr X.K C f)(hl:fs.length<1000)(ry:RelV y u)
  (h:∀ s',Inv X pins σ (upd H a (.ins C dx (Na f y fs))) s'->Q () s'):wpAny (model X.prog X.w) A (setAttr (.ref a) f u) Q E s:=by
 obtain⟨mA,O,r,wi,_,ho⟩:=Ra I.hok e;have hz:(fs.map (·.1)).length<=sizeLine:=by rw[A00,A1N];omega
 refine ao7 I.kIn O c.sa c.po n.taker c.hd wi hz λh' O' sb=>h _ ?_;have hd:∃ o,h'.get? dx=some o:=let ⟨o,_,_,e',_⟩:=O'.ns;⟨o,e'⟩;refine I.write (x:=a) (e:=dx) (by rw[e];exact A2X) (.inr ho) (λb q hb z=>(sb.2 b hb).trans z) hd ?_;refine⟨by rw[By O.ne];exact ho,?_,O.ne,O'.obj,_,O'.ns,λg=>?_,λg hg=>?_⟩
 . have:=Np f y fs;omega
 . show RelO ((Na f y fs).lookup g) (if g=f then some u else mA g)
   rw[Nu]
   by_cases q:g=f
   . rw[A10 q,A10 q];exact ry
   rw[A0W q,A0W q];exact r g
 by_cases q:g=f
 . rw[q];exact(Ng f y fs).1
 refine(Ng f y fs).2 g (wi g λz=>hg ?_);show(if g=f then some u else mA g)=none
 rw[A0W q];exact z
theorem Inv.made (I:Inv X pins σ H s):Inv X pins σ (upd (upd H s.heap.objs.size (.own (s.heap.objs.size+1))) (s.heap.objs.size+1) (.ins C s.heap.objs.size []))
  {s with heap:=(s.heap.push W.emptyDict).push (W.instObj C s.heap.objs.size)}:=by
 have e1:(s.heap.push W.emptyDict).get? s.heap.objs.size=some W.emptyDict:=A15 s.heap rfl
 have e2:((s.heap.push W.emptyDict).push (W.instObj C s.heap.objs.size)).get? (s.heap.objs.size+1)=some (W.instObj C s.heap.objs.size):=by have:=A15 (s.heap.push W.emptyDict) (o:=W.instObj C s.heap.objs.size) rfl;rwa[A3C] at this
 have e3:(s.heap.push W.emptyDict).Ns s.heap.objs.size (λ_=>none):=⟨W.emptyDict,#[],_,e1,rfl,(λe he=>absurd he (by simp)),λ_=>rfl⟩;have I1:=I.laid (a:=s.heap.objs.size) (o:=.own (s.heap.objs.size+1)) (h':=s.heap.push W.emptyDict) (t':=s.toks) (λb u q=>A06 _ q) (A05 _) ⟨_,e1⟩;refine I1.laid (a:=s.heap.objs.size+1) (o:=.ins C s.heap.objs.size []) (t':=s.toks) (λb u q=>A06 _ q) (Nat.le_of_eq (A3C _ _)) ?_;have ne:s.heap.objs.size≠s.heap.objs.size+1:=A1C (A2Q _);refine⟨by rw[By ne,Ai],A2C _,ne,e2,λ_=>none,(Heap.Ns1.of_empty e3).at λo q=>A06 _ q,λ_=>A2X,λy hy=>absurd rfl hy⟩
theorem an5 {prog:Program}{w:World}{env:Env}{e:Expr}{f:Str}{pos:Pos}{s:Shared}{Q:Value->Shared->Prop}(hb:attributeBase e f env (eval e env)=eval e env)
  (h:wpAny (model prog w) A (eval e env) (λo s₁=>wpAny (model prog w) A (getAttr o f true) Q E s₁) E s):wpAny (model prog w) A (eval (.Attribute e f pos) env) Q E s:=
 Attribute_any_ h (by rw[arm_eval_Attribute,hb])
end
section
variable {X:Cx}{o e value:Expr}{f:Str}{pos pos' tpos:Pos}{ta tv:TE}
end
section
variable {X:Cx}{pins:List (Addr×Obj)}{σ:St}{H:Hp}{s:Shared}{A:Around}{E:Value->Shared->Prop}{Q:Value->Shared->Prop}{c:Value}{b:Bool}
inductive Tn (K:W.Frag)(H:Hp):V->Value->Prop where
 |non:Tn K H .non (.type "NoneType")
 |bl (x:Bool):Tn K H (.bl x) (.type "bool")
 |int (i:Int):Tn K H (.int i) (.type "int")
 |str (x:Str):Tn K H (.str x) (.type "str")
 |flt (x:UInt64):Tn K H (.flt x) (.type "float")
 |lst {a:Addr} {xs:List V} (e:H a=some (.lst xs)):Tn K H (.ref a) (.type "list")
 |frz {a:Addr} {o:Obj} {xs:List V} (e:H a=some (.frz o (.lst xs))):Tn K H (.ref a) (.type "list")
 |tup {a:Addr} {xs:List V} (e:H a=some (.tup xs)):Tn K H (.ref a) (.type "tuple")
 |dK {a:Addr} {kvs:List (Key×V)} (e:H a=some (.dK kvs)):Tn K H (.ref a) (.type "dict")
 |dT {a:Addr} {kvs:List (List Key×V)} (e:H a=some (.dT kvs)):Tn K H (.ref a) (.type "dict")
 |ins {a C dx:Addr} {fs:List (Str×V)} (e:H a=some (.ins C dx fs)) (cl:Cls K C) (ha:W.findIn K (.ref C) "__class__" = some (some (.builtin "object.__class__")))
   (hn:W.specialIn K (.builtin "object.__class__") "__get__" = some (some (.builtin "getset_descriptor.__get__"))) (htk:W.takesIn K (.builtin "object.__class__")=some true)
   (hm:W.mroIn K C (.type "object")=some true):Tn K H (.ref a) (.ref C)
theorem Sm {x:V}{u t:Value}(I:Inv X pins σ H s)(rx:RelV x u)(ty:Tn X.K H x t)(e:W.kitOne X.K t c=some b)(h:∀ tk,Q (.bool b) {s with toks:=tk}) :
  wpAny (model X.prog X.w) A (call (.builtin "isinstance") [u,c]) Q E s:=by
 cases ty with
 |non=>cases (show u=Value.none from rx);exact A23 W.kitx_none I.kIn A2X e (λz=>nomatch z) h
 |bl y=>cases (show u=Value.bool y from rx);exact A23 W.kitx_bool I.kIn A2X e (λz=>nomatch z) h
 |int i=>obtain⟨t,q⟩:=(show ∃ t,u=Value.int i t from rx);cases q;exact A23 W.kitx_int I.kIn A2X e (λz=>nomatch z) h
 |str y=>obtain⟨t,q⟩:=(show ∃ t,u=Value.str y t from rx);cases q;exact A23 W.kitx_str I.kIn A2X e (λz=>nomatch z) h
 |flt y=>obtain⟨t,q⟩:=(show ∃ t,u=Value.float y t from rx);cases q;exact A23 W.kitx_float I.kIn A2X e (λz=>nomatch z) h
 |@lst a xs ea=>cases (show u=Value.ref a from rx);obtain⟨_,_,n,_,h1⟩:=(show ObjOk X.prog X.w H s.heap a (.lst xs) from I.hok a _ ea);exact A23 W.kitx_list I.kIn ⟨_,h1,rfl⟩ e (λz=>nomatch z) h
 |@frz a ob xs ea=>cases (show u=Value.ref a from rx);obtain⟨_,_,_,n,_,h1⟩:=(show ObjOk X.prog X.w H s.heap a (.frz ob (.lst xs)) from I.hok a _ ea);exact A23 W.kitx_list I.kIn ⟨_,h1,rfl⟩ e (λz=>nomatch z) h
 |@tup a xs ea=>cases (show u=Value.ref a from rx);obtain⟨_,_,_,p⟩:=(show ObjOk X.prog X.w H s.heap a (.tup xs) from I.hok a _ ea);obtain⟨o,h1,h2,_⟩:=p;exact A23 W.kitx_tuple I.kIn ⟨o,h1,h2⟩ e (λz=>nomatch z) h
 |@dK a kvs ea=>cases (show u=Value.ref a from rx);obtain⟨_,_,vs,_,p⟩:=(show ObjOk X.prog X.w H s.heap a (.dK kvs) from I.hok a _ ea);obtain⟨o,es,ep,h1,h2,_⟩:=p;exact A23 W.kitx_dict I.kIn ⟨o,h1,h2.1⟩ e (λz=>nomatch z) h
 |@dT a kvs ea=>cases (show u=Value.ref a from rx);obtain⟨_,_,xs,_,o,es,ep,h1,h2,_⟩:=(show ObjOk X.prog X.w H s.heap a (.dT kvs) from I.hok a _ ea);exact A23 W.kitx_dict I.kIn ⟨o,h1,h2.1⟩ e (λz=>nomatch z) h
 |@ins a C dx fs ea cl ha hn htk hm=>cases (show u=Value.ref a from rx);obtain⟨mA,O,_⟩:=Ra I.hok ea;obtain⟨od,J,_⟩:=O.look;exact A23 (W.kitx_own (cl.get _) cl.hd ha hn htk hm) I.kIn J e (λz=>nomatch z) h
end
structure Room (k:Nat)(A:Around):Prop where
 hd:A.handled=none
 dp:A.depth+3*k+5<recursionLimit
 un:A.units+16*k+200<cLine
 gd:A.guards=some []
theorem Room.mono {j k:Nat}{A:Around}(r:Room k A)(h:j<=k):Room j A:=⟨r.hd,by have:=r.dp;omega,by have:=r.un;omega,r.gd⟩
theorem Room.deeper {k:Nat}{A:Around}(r:Room (k+1) A)(env:Env):Room k (A.deeper env):=
 ⟨r.hd,by have:=r.dp;show A.depth+1+3*k+5<_;omega,by have:=r.un;show A.units+3+16*k+200<_;omega,r.gd⟩
theorem Xx {A:Around}{C:Addr}{us:List Value}{kw:List (Str×Value)}:(A.under (.builtin "type.__call__" ⟨.ref C :: us,kw⟩)).depth=A.depth+1:=by first | rfl | simp[Around.under,Code.weight,Code.isCreation,Code.isGuard,Code.isCaller,Code.frames,Code.isFrame,guardIds]
theorem Xb {A:Around}{C:Addr}{us:List Value}{kw:List (Str×Value)}:(A.under (.builtin "type.__call__" ⟨.ref C :: us,kw⟩)).units=A.units+1:=by first | rfl | simp[Around.under,Code.cUnits,Code.frames,Code.isFrame]
theorem Room.make {k:Nat}{A:Around}(r:Room (k+1) A)(C:Addr)(us:List Value)(kw:List (Str×Value)):Room k (A.under (.builtin "type.__call__" ⟨.ref C :: us,kw⟩)):=
 ⟨r.hd,by have:=r.dp;rw[Xx];omega,by have:=r.un;rw[Xb];omega,(by first | exact r.gd | (simpa[Around.under,Code.isGuard,guardIds,pushGuards] using r.gd))⟩
theorem Room.depth {k:Nat}{A:Around}(r:Room k A):A.depth<recursionLimit:=by have:=r.dp;omega
theorem Room.units {k:Nat}{A:Around}(r:Room k A):A.units+64<cLine:=by have:=r.un;omega
def aJ5:TA:=λ_ H Q=>Q [] H
def at4 (ta:TE)(tr:TA):TA:=fun σ H Q=>ta σ H λx H1=>tr σ H1 λxs H2=>Q (x :: xs) H2
section
variable {X:Cx}{e:Expr}{es:List Expr}{te:TE}{t:TA}{pos:Pos}
theorem A1:PA X [] aJ5:=λ_ _ _ _ H Q I h=>Calls.spliced_nil ⟨[],H,I,.nil,h⟩
theorem A0 (ha:PE X e te)(hr:PA X es t)(hs:starEach (e :: es) X.env=(false,eval e X.env) :: starEach es X.env:=by ac_nf):PA X (e :: es) (at4 te t):=by intro pos pins s σ H Q I h;rw[hs];show wpAny _ _ (spliced ((false,eval e X.env) :: backTo pos (starEach es X.env))) _ _ s;refine Calls.spliced_cons (thn (ha pins s σ H _ I h) λu s1 ⟨x,H1,I1,r1,q1⟩=>?_);exact thn (hr pos pins s1 σ H1 _ I1 q1) λus s2 ⟨xs,H2,I2,r2,q2⟩=>⟨x :: xs,H2,I2,.cons r1 r2,q2⟩
def aK4 (t:TA):TE:=fun σ H Q=>t σ H λxs H1=>xs.length<=sizeLine/\∀ p,H1 p=none->Q (.ref p) (upd H1 p (.tup xs))
def aJ3 (t:TA):TE:=fun σ H Q=>t σ H λxs H1=>xs.length<=sizeLine/\∀ p,H1 p=none->Q (.ref p) (upd H1 p (.lst xs))
theorem Bz {x1}(h:PA X es t):PE X (.Tuple es x1 pos) (aK4 t):=by intro pins s σ H Q I hq;refine wpAny_Tuple_spliced (thn (h pos pins s σ H _ I hq) λus s1 ⟨xs,H1,I1,r,z,q⟩=>⟨by rw[<- r.length];exact z,?_⟩);have hf:H1 s1.heap.objs.size=none:=I1.hok.fresh (A05 _);refine⟨.ref s1.heap.objs.size,upd H1 s1.heap.objs.size (.tup xs),I1.laid (t':=s1.toks) (λb u e=>A06 _ e) (A05 _) ?_,rfl,q _ hf⟩;exact⟨z,us,r,⟨_,A15 _ rfl,rfl,⟨_,rfl⟩,rfl⟩⟩
theorem Bh (h:PA X es t):PE X (.List es pos) (aJ3 t):=by intro pins s σ H Q I hq;refine wpAny_List_spliced (thn (h pos pins s σ H _ I hq) λus s1 ⟨xs,H1,I1,r,z,q⟩=>⟨by rw[<- r.length];exact z,?_⟩);have hf:H1 s1.heap.objs.size=none:=I1.hok.fresh (A05 _);refine⟨.ref s1.heap.objs.size,upd H1 s1.heap.objs.size (.lst xs),I1.laid (t':=s1.toks) (λb u e=>A06 _ e) (A05 _) ?_,rfl,q _ hf⟩;exact⟨z,us,0,r,A15 _ rfl⟩
end
abbrev Sp:=List V->Hp->VK->XK->Prop
abbrev CXT:=List Env->Hp->Shared->XK->Value->Shared->Prop
structure Env0 (P:Program)(w:World)(K:W.Frag)(mg:Str->Option Value)(base:Heap)(A:Around)(outer:List Env)(s:Shared)(H:Hp):Prop where
 frames:A.frames=some outer
 mod:Mod K mg base
 bs:∀ b o,base.get? b=some o->s.heap.get? b=some o/\H b=none
 bsz:base.objs.size<=s.heap.objs.size
 funs:s.heap.FunFrames base outer
 frf:∀ b∈frs outer,H b=none
 hok:HOk P w H s.heap
 bare:AllBare s.gens
def CE (outer:List Env)(P:Program)(w:World)(H:Hp)(s:Shared)(Q:VK)(u:Value)(s':Shared):Prop:=
 ∃ v H',s'.os=s.os/\AllBare s'.gens/\Un (frs outer) [] H H' s.heap s'.heap/\HOk P w H' s'.heap/\RelV v u/\Q v H'
def CR (CX:CXT)(outer:List Env)(P:Program)(w:World)(H:Hp)(s:Shared)(Q:VK)(E:XK)(r:Result)(s':Shared):Prop:=
 match r with
 |.ok (.ret u)=>CE outer P w H s Q u s'
 |.ok _=>False
 |.error e=>CX outer H s E e s'
structure FnOk (P:Program)(w:World)(K:W.Frag)(mg:Str->Option Value)(base:Heap)(CX:CXT)(k:Nat)(f:Addr)(fd:FuncData)(ps:List Str)(sp:Sp):Prop where
 len:∀ vs H Q E,sp vs H Q E->vs.length=ps.length
 run:∀(A:Around) (outer:List Env) (s:Shared) (H:Hp) (args:Args) (us:List Value) (vs:List V) (Q:VK) (E:XK),Room k A->Env0 P w K mg base A outer s H->BindsTo s fd args (ps.zip us)->Vals vs us->sp vs H Q E ->
  codeAny (model P w) A (.call (.ref f) args) (CR CX outer P w H s Q E) s
theorem Env0.make {P:Program}{w:World}{K:W.Frag}{mg:Str->Option Value}{base:Heap}{A:Around}{outer:List Env}{s:Shared}{H:Hp}(e:Env0 P w K mg base A outer s H)(C:Addr)(us:List Value)(kw:List (Str×Value)) :
  Env0 P w K mg base (A.under (.builtin "type.__call__" ⟨.ref C :: us,kw⟩)) outer s H:=⟨by first | exact e.frames | (simpa[Around.under,Code.envs,Code.isFrame,pushEnvs] using e.frames),e.mod,e.bs,e.bsz,e.funs,e.frf,e.hok,e.bare⟩
section
variable {X:Cx}{pins:List (Addr×Obj)}{σ:St}{H:Hp}{s s':Shared}
theorem Inv.env0 (I:Inv X pins σ H s):Env0 X.prog X.w X.K X.mg X.base X.A X.stack s H:=
 ⟨I.ok.frames,I.ok.mod,I.bs,A0B I.ok.bsz I.sz,I.stack,I.stkFree,I.hok,I.bare⟩
theorem Inv.after {Q:VK}{u:Value}(I:Inv X pins σ H s)(h:CE X.stack X.prog X.w H s Q u s'):EP X pins σ Q u s':=by obtain⟨v,H',os,bare,un,hok,r,q⟩:=h;obtain⟨hh,g,d,t,os'⟩:=s';obtain rfl:os'=s.os:=os;exact⟨v,H',I.call (h':=hh) (g':=g) (d':=d) (t':=t) (ch:=[]) un hok bare (λb z=>absurd z (by simp)),r,q⟩
end
def ap2 (sp:Sp)(dvs:List V)(E:XK)(t:TA):TE:=fun σ H Q=>t σ H λvs H1=>sp (vs++dvs) H1 Q E
def aG9 (C:Addr)(m:Str)(sp:Sp)(dvs:List V)(E:XK)(ta:TE)(t:TA):TE:=fun σ H Q=>ta σ H λx H1=>∃ a dx fs,x = .ref a/\H1 a=some (.ins C dx fs)/\fs.lookup m=none /\
 t σ H1 λvs H2=>sp (x :: (vs++dvs)) H2 Q E
def aF8 (C:Addr)(sp:Sp)(dvs:List V)(E:XK)(t:TA):TE:=fun σ H Q=>t σ H λvs H1=>∀ x dx,H1 x=none->H1 dx=none->dx≠x ->
 sp (.ref x :: (vs++dvs)) (upd (upd H1 dx (.own x)) x (.ins C dx [])) (λv H2=>v = .non/\Q (.ref x) H2) E
def Binds (K:W.Frag)(fd:FuncData)(ps:List Str)(ds:List Value):Prop:=
 ∀(s:Shared) (us:List Value),K.In s.heap->(us++ds).length=ps.length->BindsTo s fd ⟨us,[]⟩ (ps.zip (us++ds))
theorem Binds.all {K:W.Frag}{fd:FuncData}{ps:List Str}(h:∀ us:List Value,us.length=ps.length->bindArgs fd ⟨us,[]⟩=pure (ps.zip us)):Binds K fd ps []:=λs us _ hl=>by rw[A19] at hl ⊢;exact .of_eq (h us hl)
def Oy (CX:CXT)(X:Cx)(E:XK):Prop:=∀(pins:List (Addr×Obj)) (σ:St) (H:Hp) (s:Shared) (e:Value) (s':Shared),Inv X pins σ H s->CX X.stack H s E e s'->X.xe e s'
section
variable {X:Cx}{CX:CXT}{k:Nat}{f C:Addr}{fd:FuncData}{ps:List Str}{sp:Sp}{dvs:List V}{ds:List Value}{E:XK}{x m:Str}{p pos apos:Pos}{e o:Expr}{es:List Expr}{ta:TE}{t:TA}
theorem ai9 {pins:List (Addr×Obj)}{σ:St}{H:Hp}{s:Shared}{Q:VK}{us:List Value}{vs:List V}(F:FnOk X.prog X.w X.K X.mg X.base CX k f fd ps sp)(hr:Room k X.A)(hb:Binds X.K fd ps ds)(hd:Vals dvs ds)(hx:Oy CX X E)
  (I:Inv X pins σ H s) (r:Vals vs us) (h:sp (vs++dvs) H Q E):wpAny (model X.prog X.w) X.A (call (.ref f) us) (EP X pins σ Q) X.xe s:=by
 have r2:Vals (vs++dvs) (us++ds):=r.append hd;have hl:(us++ds).length=ps.length:=by rw[<- r2.length];exact F.len _ _ _ _ h
 refine wpAny_call (codeAny_mono (F.run X.A X.stack s H ⟨us,[]⟩ (us++ds) (vs++dvs) Q E hr I.env0 (hb s us I.kIn hl) r2 h) λr s' hq=>?_)
 cases r with
 |error e=>exact hx pins σ H s e s' I hq
 |ok fl=>
   cases fl with
   |ret u=>exact I.after hq
   |next=>exact False.elim hq
   |brk=>exact False.elim hq
   |cont=>exact False.elim hq
theorem an7 (F:FnOk X.prog X.w X.K X.mg X.base CX k f fd ps sp)(hr:Room k X.A)(hg:Gl X x)(hm:X.mg x=some (.ref f))(hk:W.keepIn X.K (.ref f)=true)(hb:Binds X.K fd ps ds)(hd:Vals dvs ds)(hx:Oy CX X E)
  (ha:PA X (e :: es) t) (hdb:(x==("__debug__":Str))=false:=by decide) (he:starEach (e :: es) X.env=(false,eval e X.env) :: starEach es X.env:=by ac_nf) (hpl:(backTo pos (starEach es X.env)).any (·.1)=false:=by ac_nf) :
  PE X (.Call (.Name x p) (e :: es) [] pos) (ap2 sp dvs E t):=by
 intro pins s σ H Q I h;refine A4L (Uk I hg hm ?_ hdb);refine A5U (h₀:=X.base) I.ok.mod.kin hk (thn (ha pos pins s σ H _ I h) λus s1 ⟨vs,H1,I1,r,q⟩=>⟨I1.kIn,?_⟩) he hpl;exact ai9 F hr hb hd hx I1 r q
theorem an8 {pl:Sem Bool}(he:PE X o ta)(c:Cls X.K C)(hm:aD9 X.K C m f)(F:FnOk X.prog X.w X.K X.mg X.base CX k f fd ps sp)(hr:Room k X.A)(hb:Binds X.K fd ps ds)(hd:Vals dvs ds)(hx:Oy CX X E)(ha:PA X (e :: es) t)
  (hst:starEach (e :: es) X.env=(false,eval e X.env) :: starEach es X.env:=by ac_nf) (hpl:(backTo pos (starEach es X.env)).any (·.1)=false:=by ac_nf)
  (ht:eval (.Call (.Attribute o m apos) (e :: es) [] pos) X.env=(do
   let ov <- eval o X.env
   standAt apos.atName
   let (f,first) <- holding [ov] (getMethod ov m pl)
   callWith pos f first (backTo pos (starEach (e :: es) X.env)) (backToKw pos (keywordEach [] X.env))):=by ac_nf) :
  PE X (.Call (.Attribute o m apos) (e :: es) [] pos) (aG9 C m sp dvs E ta t):=by
 intro pins s σ H Q I h;refine W.methodCall_KW (pl:=pl) (thn (he pins s σ H _ I h) λu s1 ⟨x,H1,I1,rx,a,dx,fs,ex,ea,l,q⟩=>?_) ht;subst ex;obtain rfl:u=Value.ref a:=rx;refine Y5 I1 ea c hm l ?_;refine A5U (first:=[.ref a]) (h₀:=X.base) I.ok.mod.kin hm.kp (thn (ha pos pins s1 σ H1 _ I1 q) λus s2 ⟨vs,H2,I2,r,q2⟩=>⟨I2.kIn,?_⟩) hst hpl
 exact ai9 (us:=.ref a :: us) (vs:=.ref a :: vs) F hr hb hd hx I2 (.cons rfl r) q2
structure Mk (K:W.Frag)(C f:Addr):Prop where
 makes:W.makesIn K C=true
 init:W.findIn K (.ref C) "__init__" = some (some (.ref f))
 fn:W.isFn K (.ref f)=true
 kp:W.keepIn K (.ref C)=true
theorem ac4 {pins:List (Addr×Obj)}{σ:St}{H:Hp}{s:Shared}{Q:VK}{us:List Value}{vs:List V}(M:Mk X.K C f)(F:FnOk X.prog X.w X.K X.mg X.base CX k f fd ps sp)(hr:Room (k+1) X.A)(hb:Binds X.K fd ps ds)(hd:Vals dvs ds)
  (hx:Oy CX X E) (I:Inv X pins σ H s) (r:Vals vs us)
  (h:∀ x dx,H x=none->H dx=none->dx≠x->sp (.ref x :: (vs++dvs)) (upd (upd H dx (.own x)) x (.ins C dx [])) (λv H2=>v = .non/\Q (.ref x) H2) E) :
  wpAny (model X.prog X.w) X.A (call (.ref C) us) (EP X pins σ Q) X.xe s:=by
 have hq:=h (s.heap.objs.size+1) s.heap.objs.size (I.hok.fresh (Nat.le_succ _)) (I.hok.fresh (A05 _)) (A1C (A2Q _));have I2:=Inv.made (C:=C) I;have r2:Vals (V.ref (s.heap.objs.size+1) :: (vs++dvs)) (Value.ref (s.heap.objs.size+1) :: (us++ds)):=.cons rfl (r.append hd)
 have hl:(Value.ref (s.heap.objs.size+1) :: us++ds).length=ps.length:=by have e:=r2.length;rw[F.len _ _ _ _ hq] at e;exact e.symm
 refine wpAny_call (aa9 (f:=f) I.kIn M.makes M.init (A16.mp M.fn) (codeAny_mono (F.run _ X.stack _ _ ⟨Value.ref (s.heap.objs.size+1) :: us,[]⟩ (Value.ref (s.heap.objs.size+1) :: (us++ds)) _ _ E (hr.make C us [])
  (I2.env0.make C us []) (hb _ (Value.ref (s.heap.objs.size+1) :: us) I2.kIn hl) r2 hq) λr s' hq'=>?_))
 cases r with
 |error e=>exact hx pins σ _ _ e s' I2 hq'
 |ok fl=>
   cases fl with
   |ret u=>obtain⟨v,H',I3,rv,ev,q3⟩:=I2.after hq';subst ev;exact⟨rv,⟨V.ref (s.heap.objs.size+1),H',I3,rfl,q3⟩⟩
   |next=>exact False.elim hq'
   |brk=>exact False.elim hq'
   |cont=>exact False.elim hq'
theorem aj9 (M:Mk X.K C f)(F:FnOk X.prog X.w X.K X.mg X.base CX k f fd ps sp)(hr:Room (k+1) X.A)(hg:Gl X x)(hm:X.mg x=some (.ref C))(hb:Binds X.K fd ps ds)(hd:Vals dvs ds)(hx:Oy CX X E)
  (ha:PA X (e :: es) t) (hdb:(x==("__debug__":Str))=false:=by decide) (he:starEach (e :: es) X.env=(false,eval e X.env) :: starEach es X.env:=by ac_nf) (hpl:(backTo pos (starEach es X.env)).any (·.1)=false:=by ac_nf) :
  PE X (.Call (.Name x p) (e :: es) [] pos) (aF8 C sp dvs E t):=by
 intro pins s σ H Q I h;refine A4L (Uk I hg hm ?_ hdb);refine A5U (h₀:=X.base) I.ok.mod.kin M.kp (thn (ha pos pins s σ H _ I h) λus s1 ⟨vs,H1,I1,r,q⟩=>⟨I1.kIn,?_⟩) he hpl;exact ac4 M F hr hb hd hx I1 r q
end
section
variable {X:Cx}{CX:CXT}{k:Nat}{f C:Addr}{fd:FuncData}{ps ks:List Str}{sp:Sp}{E:XK}{x m:Str}{p pos apos kpos:Pos}{e o:Expr}{es:List Expr}{kws:List Keyword}{te ta:TE}{t tk:TA}{nm:Option Str}
variable {g:List Value->List Value->List Value}{gV:List V->List V->List V}
end
structure An (N P:List Str)(sc:Scope):Prop where
 kind:sc.kind = .function
 co:sc.isCoroutine=false
 gen:sc.isGenerator=false
 nd:N.Nodup
 pre:N.take P.length=P
 par:∀ x∈P,sc.names.lookup x=some .local\/sc.names.lookup x=some .cell
 nofree:∀ y∈sc.names,y.2 ≠ .free
theorem Ri {kindOf:Str->Option NameKind}{x:Str}:∀ {binds:List (Str×Value)} {m:Str->Option Value},(∀ v,(x,v)∉binds)->bindL kindOf binds m x=m x
 | [],_,_=>rfl
 | (n,v) :: r,m,h=>by
   unfold bindL;rw[Ri λw hw=>h w (A09 _ hw)]
   split
   . have:x≠n:=by rintro rfl;exact h v A0E
     simp[this]
   rfl
theorem T4 {kindOf:Str->Option NameKind}{x:Str}:∀ {binds:List (Str×Value)} {m:Str->Option Value},(∀ v,(x,v)∉binds)->bindC kindOf binds m x=m x
 | [],_,_=>rfl
 | (n,v) :: r,m,h=>by
   unfold bindC;rw[T4 λw hw=>h w (A09 _ hw)]
   split
   . rfl
   have:x≠n:=by rintro rfl;exact h v A0E
   simp[this]
theorem Sb {kindOf:Str->Option NameKind} {x:Str} {v:Value}:∀ {P:List Str} {vs:List Value} {i:Nat} {m:Str->Option Value},P.Nodup->P[i]? = some x->vs[i]? = some v->kindOf x=some .local ->
  bindL kindOf (P.zip vs) m x=some v
 | [],_,_,_,_,h,_,_=>by simp at h
 |_ :: _,[],_,_,_,_,h,_=>by simp at h
 |p :: P,w :: vs,0,m,nd,h1,h2,hk=>by simp at h1 h2;subst h1;subst h2;show bindL kindOf ((p,w) :: P.zip vs) m p=_;unfold bindL;rw[Ri λv hv=>(A13.mp nd).1 (A58 hv).1,A10 hk];simp
 |p :: P,w :: vs,i+1,m,nd,h1,h2,hk=>by show bindL kindOf ((p,w) :: P.zip vs) m x=_;unfold bindL;exact Sb (i:=i) (List.nodup_cons.mp nd).2 (by simpa using h1) (by simpa using h2) hk
theorem T8 {kindOf:Str->Option NameKind} {x:Str} {v:Value}:∀ {P:List Str} {vs:List Value} {i:Nat} {m:Str->Option Value},P.Nodup->P[i]? = some x->vs[i]? = some v->kindOf x≠some .local ->
  bindC kindOf (P.zip vs) m x=some v
 | [],_,_,_,_,h,_,_=>by simp at h
 |_ :: _,[],_,_,_,_,h,_=>by simp at h
 |p :: P,w :: vs,0,m,nd,h1,h2,hk=>by simp at h1 h2;subst h1;subst h2;show bindC kindOf ((p,w) :: P.zip vs) m p=_;unfold bindC;rw[T4 λv hv=>(A13.mp nd).1 (A58 hv).1,A0W hk];simp
 |p :: P,w :: vs,i+1,m,nd,h1,h2,hk=>by show bindC kindOf ((p,w) :: P.zip vs) m x=_;unfold bindC;exact T8 (i:=i) (List.nodup_cons.mp nd).2 (by simpa using h1) (by simpa using h2) hk
def Rh (N:List Str)(vs:List V):St:=vs.map some++List.replicate (N.length-vs.length) none
def as0 (CX:CXT)(P:Program)(w:World)(K:W.Frag)(mg:Str->Option Value)(base:Heap)(N:List Str)(qual:Str)(scope:Scope)(f:Addr)(cd:Value)(A:Around)(outer:List Env)(s:Shared)(H:Hp)(E:XK):Cx where
 prog:=P
 w:=w
 K:=K
 mg:=mg
 base:=base
 A:=A.deeper (envOfC qual scope s.heap.objs.size f cd)
 N:=N
 s₀:=s
 H₀:=H
 env:=envOfC qual scope s.heap.objs.size f cd
 outer:=outer
 stack:=envOfC qual scope s.heap.objs.size f cd :: outer
 ex:=[]
 calm:=true
 fn:=λ_=>true
 pn:=[]
 xe:=λe s'=>wpAny (model P w) (A.deeper (envOfC qual scope s.heap.objs.size f cd)) (leaving (envOfC qual scope s.heap.objs.size f cd) e) (λ_ s''=>CX outer H s E e s'') (λe' s''=>CX outer H s E e' s'') s'
theorem W2 {sc:Scope}{n:Nat}{x:Str}(h:sc.names.lookup x=some .cell):∃ c,(cellsFrom n sc.names []).lookup x=some c:=by have q:=W.cellsFrom_some sc.names n [] (.inl h);exact Option.isSome_iff_exists.mp q
theorem Zh {CX:CXT}{P:Program}{w:World}{K:W.Frag}{mg:Str->Option Value}{base:Heap}{N ps:List Str}{qual:Str}{scope:Scope}{f:Addr}{cd:Value}{A:Around}{outer:List Env}{s s1:Shared}{H:Hp}{E:XK}{us:List Value}{vs:List V}
  (S:An N ps scope) (hd:A.handled=none) (e0:Env0 P w K mg base A outer s H) (hl:vs.length=ps.length) (r:Vals vs us)
  (x:InCallC s s.heap.objs.size (bindL (envOfC qual scope s.heap.objs.size f cd).kindOf (ps.zip us) λ_=>none) (cellsFrom (s.heap.objs.size+1) scope.names []) (bindC (envOfC qual scope s.heap.objs.size f cd).kindOf (ps.zip us) λ_=>none) s1) :
  Inv (as0 CX P w K mg base N qual scope f cd A outer s H E) [] (Rh N vs) H s1:=by
 have hpl:ps.length<=N.length:=by have:=congrArg List.length S.pre;rw[A0J] at this;omega
 obtain⟨h1,tk,rfl,hk⟩:=x.done;have noA:∀ b:Addr,b∉(as0 CX P w K mg base N qual scope f cd A outer s H E).ex:=λb z=>absurd (show b∈([]:List Addr) from z) (by simp)
 refine⟨⟨e0.mod,S.kind,rfl,rfl,A05 _,λy z c h1 h2=>?_,λy hy=>?_,λy c _ h=>?_,λ_=>hd,Around.frames_deeper e0.frames,.inr ⟨rfl,rfl⟩,λb z=>absurd z (noA b),e0.bs,e0.bsz,λb _ _=>noA b,λb z=>absurd z (noA b),e0.funs,e0.frf⟩,
  rfl,e0.bare,Un.kept hk,⟨_,x.toInCall.ns,λi y v h1 h2 h3=>?_⟩,λy c h=>⟨_,x.cell y c h⟩,e0.hok.fresh (Nat.le_refl _),λy c h=>?_,λp hp=>absurd (show p∈([]:List (Addr×Obj)) from hp) (by simp),e0.hok.kept hk,?_⟩
 . exact name_of_addr x.apart (A3Q h1) (A3Q h2)
 . have hy:scope.names.lookup y=some .cell\/scope.names.lookup y=some .free:=hy;rcases hy with hy|hy
   . exact W2 hy
   exact absurd rfl (S.nofree _ (A3Q hy))
 . exact A1O (x.above y c (A3Q h))
 . have hi:i<vs.length:=by
    unfold Rh at h2
    by_cases hi:i<vs.length
    . exact hi
    rw[List.getElem?_append_right (by simpa using hi)] at h2;rw[A4X] at h2
    split at h2<;>cases h2
   have ha:vs[i]? = some v:=by
    unfold Rh at h2;rw[List.getElem?_append_left (by simpa using hi),List.getElem?_map] at h2
    cases e:vs[i]? with
    |none=>rw[e] at h2;cases h2
    |some a=>rw[e] at h2;cases h2;rfl
   obtain⟨u,hu,rv⟩:=r.get ha
   have hp:ps[i]? = some y:=by rw[<- S.pre,A2D ∅];exact h1
   have ndP:ps.Nodup:=by rw[<- S.pre];exact S.nd.sublist (List.take_sublist _ _)
   refine⟨u,rv,?_⟩;rcases S.par y (A02 hp) with k|k
   . exact .inl ⟨k,Sb ndP hp hu k⟩
   obtain⟨c,e⟩:=W2 (n:=s.heap.objs.size+1) k;refine .inr ⟨.inl k,c,e,?_⟩;have q:=x.cell y c e;rw[T8 ndP hp hu (by show scope.names.lookup y≠_;rw[k];decide)] at q;exact q
 . exact e0.hok.fresh (A1O (x.above y c (A3Q h)))
 unfold Rh;show _=N.length;rw[A04,A00,A2Z];omega
theorem aH6 {CX:CXT}{P:Program}{w:World}{K:W.Frag}{mg:Str->Option Value}{base:Heap}{k:Nat}{f:Addr}{name qual:Str}{params:Arguments}{body:List Stmt}{scope:Scope}{dV kV doc pm cdv ct oc:Value}{an od:Option Addr}
  {osl:Array (Option Value)} {N ps:List Str} {sp:Sp} (lk:K.lookup f=some ⟨oc,od,.func (W.fnOf name qual params body scope dV kV doc pm an cdv ct),osl⟩) (hcd:W.codeIn K cdv qual=true) (S:An N ps scope)
  (len:∀ vs H Q E,sp vs H Q E->vs.length=ps.length)
  (hbody:∀(A:Around) (outer:List Env) (s:Shared) (H:Hp) (vs:List V) (Q:VK) (E:XK),Room k (A.deeper (envOfC qual scope s.heap.objs.size f cdv))->sp vs H Q E ->
   ∃ t,PSs (as0 CX P w K mg base N qual scope f cdv A outer s H E) body t/\t {nx:=λ_ H'=>Q .non H',rt:=Q} (Rh N vs) H) :
  FnOk P w K mg base CX (k+1) f (W.fnOf name qual params body scope dV kV doc pm an cdv ct) ps sp:=by
 refine⟨len,λA outer s H args us vs Q E hr e0 hb r hsp=>?_⟩;have hl:=len _ _ _ _ hsp;have KX:K.In s.heap:=e0.mod.kin.keeps λb o e=>(e0.bs b o e).1;have lim:s.heap.NoLimit:=e0.mod.nolimit.keeps λb o e=>(e0.bs b o e).1
 have hkind:∀ y∈ps.zip us,scope.names.lookup y.1=some .local\/(scope.names.lookup y.1=some .cell/\((cellsFrom (s.heap.objs.size+1) scope.names []).lookup y.1).isSome=true):=λ⟨n,v⟩ hy=>by
  rcases S.par n (A58 hy).1 with q|q
  . exact .inl q
  exact .inr ⟨q,W.cellsFrom_some _ _ _ (.inl q)⟩
 refine codeAny_call_function hr.depth (KX _ _ lk) rfl S.co S.gen rfl (W.codeRec_of KX hcd) (hb _ _ _ _ ?_);refine wpAny_newFunctionEnv_cells S.kind hkind λenv he s1 x=>?_;subst he;refine⟨lim.keeps x.toInCall.keep,codeAny_func ?_⟩;obtain⟨t,ht,hq⟩:=hbody A outer s H vs Q E (hr.deeper _) hsp;have I:Inv (as0 CX P w K mg base N qual scope f cdv A outer s H E) [] (Rh N vs) H s1:=Zh S hr.hd e0 hl r x;refine A34 (ht [] s1 (Rh N vs) H _ I hq) (λfl s' hs=>?_) λe s' hs=>hs
 have fin:∀ {σ':St} {H':Hp} {v:V} {u:Value},Inv (as0 CX P w K mg base N qual scope f cdv A outer s H E) [] σ' H' s'->RelV v u->Q v H'->CE outer P w H s Q u s':=
  fun {σ' H' v u} J rv q=>⟨v,H',J.os,J.bare,J.base,J.hok,rv,q⟩
 cases fl with
 |ret u=>obtain⟨v,σ',H',J,rv,q⟩:=hs;exact fin J rv q
 |next=>obtain⟨σ',H',J,q⟩:=hs;exact fin (v:=V.non) (u:=Value.none) J rfl q
 |brk=>obtain⟨_,_,_,q⟩:=hs;exact False.elim q
 |cont=>obtain⟨_,_,_,q⟩:=hs;exact False.elim q
section
variable {X:Cx}{x:Str}{p pos:Pos}{e:Expr}{es:List Expr}{t:TA}{id T:String}{r:List V->Hp->VK->Prop}
def tCB (r:List V->Hp->VK->Prop)(t:TA):TE:=fun σ H Q=>t σ H λvs H1=>r vs H1 Q
theorem A7 (hc:CallR X (.builtin id) r)(hg:Gl X x)(hm:X.mg x=none)(hv:bootBuiltins x=some (.builtin id))(ha:PA X (e :: es) t)(hn:x ≠ "__name__":=by decide)(hdb:(x==("__debug__":Str))=false:=by decide)
  (he:starEach (e :: es) X.env=(false,eval e X.env) :: starEach es X.env:=by ac_nf) (hpl:(backTo pos (starEach es X.env)).any (·.1)=false:=by ac_nf):PE X (.Call (.Name x p) (e :: es) [] pos) (tCB r t):=by
 intro pins s σ H Q I h;refine A4L (Pb I hg hm hv ?_ hn hdb);exact PyProof.Rows.callWith_builtin1 (thn (ha pos pins s σ H _ I h) λus s1 ⟨vs,H1,I1,r1,q1⟩=>hc pins s1 σ H1 vs us Q I1 r1 q1) he hpl
theorem Dv (hc:CallR X (.type T) r)(hg:Gl X x)(hm:X.mg x=none)(hv:bootBuiltins x=some (.type T))(ha:PA X (e :: es) t)(hn:x ≠ "__name__":=by decide)(hdb:(x==("__debug__":Str))=false:=by decide)
  (he:starEach (e :: es) X.env=(false,eval e X.env) :: starEach es X.env:=by ac_nf) (hpl:(backTo pos (starEach es X.env)).any (·.1)=false:=by ac_nf):PE X (.Call (.Name x p) (e :: es) [] pos) (tCB r t):=by
 intro pins s σ H Q I h;refine A4L (Pb I hg hm hv ?_ hn hdb);exact A3H (thn (ha pos pins s σ H _ I h) λus s1 ⟨vs,H1,I1,r1,q1⟩=>hc pins s1 σ H1 vs us Q I1 r1 q1) he hpl
end
end L2
namespace HT
open PySem PyProof.Rows
section
open PySem.SeqAt
open PySem.AutoSeq1 (wpAny_loadPart')
open PySem.MeetsSeq PySem.MeetsSeq2 PySem.MeetsSeq3
end
section
variable {prog:Program}{w:World}{A:Around}{E:Value->Shared->Prop}{s:Shared}
theorem cat_tup {t b:Addr}{vs ws:List Value}{Q:Value->Shared->Prop}(ht:IsTup s.heap t vs.toArray)(hb:IsTup s.heap b ws.toArray)(hv:vs≠[])
  (h1:ws=[]->Q (.ref t) s) (h2:ws≠[]->Q (.ref s.heap.objs.size) {s with heap:=s.heap.push {cls:=.type "tuple",data:=.seq (vs++ws).toArray}})
  (hsz:vs.length+ws.length<=sizeLine):wpAny (model prog w) A (binaryOp .Add (.ref t) (.ref b)) Q E s:=by
 obtain⟨⟨cls,dd,data,sl⟩,ho,hc,n,hd⟩:=id ht;obtain⟨⟨cls2,dd2,data2,sl2⟩,ho2,hc2,n2,hd2⟩:=id hb;simp only at hc hd hc2 hd2;subst hc hd hc2 hd2;have e:vs.toArray++ws.toArray=(vs++ws).toArray:=by simp
 by_cases hw:ws=[]
 . exact concat_meets ⟨_,ho,rfl⟩ ⟨_,ho2,rfl⟩ noFill_tuple_add seq_tuple_add PySem.F.slot_tuple_add PySem.F.entry_tuple_add (PySem.F.args_tuple_add_2 _ _)
    (tuple_addW1 t b vs.toArray ws.toArray n n2 dd dd2 sl sl2 (by simpa using hv) (by simp[hw])) ⟨ho,ho2,h1 hw⟩
 refine concat_meets ⟨_,ho,rfl⟩ ⟨_,ho2,rfl⟩ noFill_tuple_add seq_tuple_add PySem.F.slot_tuple_add PySem.F.entry_tuple_add (PySem.F.args_tuple_add_2 _ _)
  (tuple_addW2 t b vs.toArray ws.toArray n n2 dd dd2 sl sl2 (by simpa using hv) (by simpa using hw) (by rw[List.size_toArray,List.size_toArray];exact hsz)) ⟨ho,ho2,?_⟩
 rw[e];exact h2 hw
def sIx (n d:Nat):Option Int->Nat
 |none=>d
 |some v=>if v<0 then(v+(n:Int)).toNat else min v.toNat n
theorem sIx_none (n d:Nat):sIx n d none=d:=rfl
theorem sIx_nat (n d k:Nat):sIx n d (some (k:Int))=min k n:=by
 show(if(k:Int)<0 then((k:Int)+(n:Int)).toNat else min (k:Int).toNat n)=min k n
 rw [A0W ∅,A4T]
theorem aw8 (n d:Nat)(hd:d<=n)(o:Option Int):sIx n d o<=n:=by
 cases o with
 |none=>exact hd
 |some v=>
   show(if v<0 then(v+(n:Int)).toNat else min v.toNat n)<=n
   by_cases hv:v<0
   . rw[A10 hv];omega
   rw[A0W hv];exact A4C _ _
theorem a56 (v:Int)(n d:Nat):(if v<0 then max (v+(n:Int)) 0 else min v (n:Int))=((sIx n d (some v):Nat):Int):=by
 show(if v<0 then max (v+(n:Int)) 0 else min v (n:Int))=(((if v<0 then(v+(n:Int)).toNat else min v.toNat n):Nat):Int)
 by_cases hv:v<0
 . simp only[if_pos hv];omega
 simp only[if_neg hv];omega
theorem Y3 (lo hi:Option Int)(n:Nat):Builtin.Slice.sliceAdjust lo hi 1 (n:Int)=(((sIx n 0 lo:Nat):Int),((sIx n n hi:Nat):Int)):=by
 have h1:¬ ((1:Int)<0):=by omega
 unfold Builtin.Slice.sliceAdjust;simp only[h1,if_false];refine Prod.ext ?_ ?_
 . cases lo with
   |none=>rfl
   |some v=>exact a56 v n 0
 cases hi with
 |none=>rfl
 |some v=>exact a56 v n n
theorem X7 (i j:Nat):Builtin.Slice.slicePlaces (i:Int) (j:Int) 1=j-i:=by
 unfold Builtin.Slice.slicePlaces;have h1:(1:Int)>0:=by omega
 simp only[h1,if_true,Int.ediv_one]
 split<;>omega
theorem Ov {v:Value}{o:Option Int}{Q:Option Int->Shared->Prop}(p:IsPart v o)(h:Q o s):wpAny (model prog w) A (Builtin.Slice.slicePartIndex v) Q E s:=by
 cases p with
 |none=>exact slicePart_none h
 |int i t=>exact slicePart_int h
theorem sliceApplied_gen {sl:Addr}{vl vu:Value}{lo hi:Option Int}{n:Nat}{Q:Int×Int×Nat->Shared->Prop}(hs:s.heap.IsSliceOf sl vl vu .none)(pl:IsPart vl lo)(pu:IsPart vu hi)
  (h:Q (((sIx n 0 lo:Nat):Int),1,sIx n n hi-sIx n 0 lo) s):wpAny (model prog w) A (Builtin.Slice.sliceApplied (.ref sl) (pure (n:Int))) Q E s:=by
 obtain⟨os,hos,hcs,hds⟩:=id hs;unfold Builtin.Slice.sliceApplied Builtin.Slice.sliceFields;refine A08 (A08 (wpAny_field hos hds (x:=vl) rfl (A08 (wpAny_field hos hds (x:=vu) rfl (A08 (wpAny_field hos hds (x:=.none) rfl (A0M ?_)))))));refine A08 (slicePart_none ?_);show wpAny _ _ (if((1:Int)==0)=true then _ else _) _ _ s
 rw[A0W nofun];refine A08 (Ov pl (A08 (Ov pu (A08 (A0M ?_)))));show wpAny _ _ (match Builtin.Slice.sliceAdjust lo hi 1 (n:Int) with | (lo,hi)=>pure (lo,(1:Int),Builtin.Slice.slicePlaces lo hi 1)) _ _ s
 rw[Y3 lo hi n];show wpAny _ _ (pure (((sIx n 0 lo:Nat):Int),(1:Int),Builtin.Slice.slicePlaces ((sIx n 0 lo:Nat):Int) ((sIx n n hi:Nat):Int) 1)) _ _ s;rw[X7];exact A0M h
theorem ac6 (xs:Array Value)(i k:Nat):((List.range k).filterMap λ(m:Nat)=>xs[((i:Int)+(m:Int)*1).toNat]?).toArray=((xs.toList.drop i).take k).toArray:=by
 have e:(λ(m:Nat)=>xs[((i:Int)+(m:Int)*1).toNat]?)=λm=>xs[i+m]?:=by
  funext m;have:((i:Int)+(m:Int)*1).toNat=i+m:=by omega
  rw[this]
 rw[e];have:=pick_run xs i k;rw[List.filterMap_map] at this;have e2:((λx=>xs[x]?)∘λx=>i+x)=λm=>xs[i+m]?:=rfl;rw[e2] at this;rw[this]
theorem getItem_tuple_cut {t sl:Addr}{items:Array Value}{vl vu:Value}{lo hi:Option Int}{Q:Value->Shared->Prop}(ht:IsTup s.heap t items)(hs:s.heap.IsSliceOf sl vl vu .none)(pl:IsPart vl lo)(pu:IsPart vu hi)
  (hw:¬ (sIx items.size 0 lo=0/\sIx items.size items.size hi=items.size))
  (h:Q (.ref s.heap.objs.size) {s with heap:=s.heap.push {cls:=.type "tuple",data:=.seq ((items.toList.drop (sIx items.size 0 lo)).take (sIx items.size items.size hi-sIx items.size 0 lo)).toArray}})
  (hsz:items.size<=sizeLine):wpAny (model prog w) A (getItem (.ref t) (.ref sl)) Q E s:=by
 have htake:sizeOk (.seq ((items.toList.drop (sIx items.size 0 lo)).take (sIx items.size items.size hi-sIx items.size 0 lo)).toArray):=by show((items.toList.drop (sIx items.size 0 lo)).take (sIx items.size items.size hi-sIx items.size 0 lo)).toArray.size<=sizeLine;rw[A0V,A0J,A1G,A1B];omega
 have hj:sIx items.size items.size hi<=items.size:=aw8 _ _ (A05 _) hi;obtain⟨os,hos,hcs,hds⟩:=id hs;have hTs:s.TypeIs (.ref sl) "slice":=⟨os,hos,hcs⟩;unfold getItem
 try with_reducible refine A3A ?_
 first | refine A08 (A0M ?_) | skip
 refine A08 (wpAny_sequenceKey ht.typeIs nofun ?_)
 refine A08 (A4Y (name:=Str.ofString "__getitem__") ht.typeIs A35
  (A50 A35 ht.typeIs entry_tuple_getitem ?_ (args_tuple_getitem _ _)))
 show wpAny _ _ (Builtin.Tuple.tupleItemsOf (.ref t) >>= _) _ _ s;refine A08 (tupleItemsOf_ ht ?_);refine A08 (A4M hTs ?_);rw[A10 nofun];refine A08 (sliceApplied_gen hs pl pu ?_)
 have hno:¬ ((((sIx items.size 0 lo:Nat):Int)==0&&(1:Int)==1&&(sIx items.size items.size hi-sIx items.size 0 lo)==items.size)=true):=by intro q;rw[A1Y,A1Y] at q;have q1:((sIx items.size 0 lo:Nat):Int)=0:=eq_of_beq q.1.1;have q2:sIx items.size items.size hi-sIx items.size 0 lo=items.size:=eq_of_beq q.2;exact hw ⟨by omega,by omega⟩
 show wpAny _ _ (if(((sIx items.size 0 lo:Nat):Int)==0&&(1:Int)==1&&(sIx items.size items.size hi-sIx items.size 0 lo)==items.size)=true then _ else _) _ _ s
 rw[A0W hno,ac6]
 first
  |exact A08 (m:=Builtin.Tuple.tupleExact _) (A43 (A0M ⟨_,rfl,A0M h⟩) htake)
  |exact A08 (m:=Builtin.Tuple.tupleExact _) (A43 (A08 (A0M (A0M ⟨_,rfl,A0M h⟩))) htake)
  |exact A08 (A08 (m:=Builtin.Tuple.tupleExact _) (A43 (A0M (A0M ⟨_,rfl,A0M h⟩)) htake))
  |exact A08 (A08 (m:=Builtin.Tuple.tupleExact _) (A43 (A0M ⟨_,rfl,A0M h⟩) htake))
end
end HT
namespace L2
open PySem PySem.Spec PyProof.Rows
abbrev TO:=St->Hp->(Option Int->Hp->Prop)->Prop
def PO (X:Cx)(e:Option Expr)(t:TO):Prop:=
 ∀(pins:List (Addr×Obj)) (s:Shared) (σ:St) (H:Hp) (Q:Option Int->Hp->Prop),Inv X pins σ H s->t σ H Q ->
  wpAny (model X.prog X.w) X.A (evalPart e X.env) (λu s'=>∃ o H',Inv X pins σ H' s'/\IsPart u o/\Q o H') X.xe s
def Zj:TO:=λ_ H Q=>Q none H
def ay7 (t:TE):TO:=fun σ H Q=>t σ H λx H1=>∃ i,x = .int i/\Q (some i) H1
section
variable {X:Cx}{e:Expr}{te:TE}{lo hi:Option Expr}{tl th:TO}{pos p2:Pos}
theorem Cq:PO X none Zj:=by intro pins s σ H Q I h;rw[evalPart_none];exact A0M ⟨none,H,I,.none,h⟩
theorem Be (h:PE X e te):PO X (some e) (ay7 te):=by intro pins s σ H Q I hw;rw[evalPart_some];refine thn (h pins s σ H _ I hw) λu s1 ⟨x,H1,I1,r1,q1⟩=>?_;obtain⟨i,rfl,q⟩:=q1;obtain⟨t,rfl⟩:=r1;exact⟨some i,H1,I1,.int i t,q⟩
def SlR (X:Cx)(r:V->Option Int->Option Int->Hp->VK->Prop):Prop:=
 ∀(pins:List (Addr×Obj)) (s:Shared) (σ:St) (H:Hp) (x:V) (v vl vu:Value) (lo hi:Option Int) (sl:Addr) (Q:VK),Inv X pins σ H s->RelV x v->s.heap.IsSliceOf sl vl vu .none->IsPart vl lo->IsPart vu hi->r x lo hi H Q ->
  ∃ T id,typeLookup (.type T) "__getitem__" = pure (some (.builtin id))/\s.TypeIs v T/\wpAny (model X.prog X.w) X.A (getItem v (.ref sl)) (EP X pins σ Q) X.xe s
theorem SlR.or {r r':V->Option Int->Option Int->Hp->VK->Prop}(h:SlR X r)(h':SlR X r'):SlR X (λx lo hi H Q=>r x lo hi H Q\/r' x lo hi H Q):=by
 intro pins s σ H x v vl vu lo hi sl Q I rx hs pl pu q;rcases q with q|q
 . exact h pins s σ H x v vl vu lo hi sl Q I rx hs pl pu q
 exact h' pins s σ H x v vl vu lo hi sl Q I rx hs pl pu q
def tSl (r:V->Option Int->Option Int->Hp->VK->Prop)(te:TE)(tl th:TO):TE:=fun σ H Q=>te σ H λx H1=>tl σ H1 λl H2=>th σ H2 λu H3=>r x l u H3 Q
theorem B9 {r:V->Option Int->Option Int->Hp->VK->Prop}(hr:SlR X r)(he:PE X e te)(hl:PO X lo tl)(hu:PO X hi th):PE X (.Subscript e (.Slice lo hi none p2) pos) (tSl r te tl th):=by
 intro pins s σ H Q I h;refine Subscript_ (thn (he pins s σ H _ I h) λv s1 ⟨x,H1,I1,r1,q1⟩=>?_);refine wpAny_Slice (thn (hl pins s1 σ H1 _ I1 q1) λvl s2 ⟨l,H2,I2,pl,q2⟩=>thn (hu pins s2 σ H2 _ I2 q2) λvu s3 ⟨u,H3,I3,pu,q3⟩=>?_);rw[evalPart_none];refine A0M ?_;have I4:Inv X pins σ H3 {s3 with heap:=s3.heap.push {cls:=.type "slice",data:=.fields #[vl,vu,.none]}}:=I3.kept (t':=s3.toks) λb ob q=>A06 _ q
 obtain⟨T,id,hT,ht,hg⟩:=hr pins {s3 with heap:=s3.heap.push {cls:=.type "slice",data:=.fields #[vl,vu,.none]}} σ H3 x v vl vu l u s3.heap.objs.size Q I4 r1 (Heap.IsSliceOf.new ..) pl pu q3
 show wpAny (model X.prog X.w) X.A (subscriptTail e (.Slice lo hi none p2) v (.ref s3.heap.objs.size)) (EP X pins σ Q) X.xe {s3 with heap:=s3.heap.push {cls:=.type "slice",data:=.fields #[vl,vu,.none]}}
 exact tail_any (ops:=[.ref s3.heap.objs.size,v]) ht hT hg ⋯
def Lv (xs:List V)(lo hi:Option Int):List V:=(xs.drop (HT.sIx xs.length 0 lo)).take (HT.sIx xs.length xs.length hi-HT.sIx xs.length 0 lo)
theorem Nk (xs:List V)(lo hi:Option Int):(Lv xs lo hi).length<=xs.length:=by unfold Lv;rw[A0J,A1G];omega
def aK5 (K:W.Frag):V->Option Int->Option Int->Hp->VK->Prop:=λx lo hi H Q=>∃ a xs,x = .ref a/\SqT K H a xs /\
 ¬ (HT.sIx xs.length 0 lo=0/\HT.sIx xs.length xs.length hi=xs.length)/\∀ p,H p=none->Q (.ref p) (upd H p (.tup (Lv xs lo hi)))
theorem sl_tup:SlR X (aK5 X.K):=by
 intro pins s σ H x v vl vu lo hi sl Q I rx hs pl pu h;obtain⟨a,xs,rfl,hx,hw,q⟩:=h
 cases rx;obtain⟨its,r,ht,hz⟩:=I.tuple hx;have hlen:its.toArray.size=xs.length:=by rw[A0V];exact r.length.symm
 refine⟨"tuple",_,PyProof.Rows.slot_tuple_getitem.lookup,ht.typeIs,?_⟩;refine HT.getItem_tuple_cut ht hs pl pu (by rw[hlen];exact hw) ?_ (by rw[hlen];exact hz);rw[hlen];refine⟨.ref s.heap.objs.size,_,I.laid (t':=s.toks) (o:=.tup (Lv xs lo hi)) (λb ob q=>A06 _ q) (A05 _) ?_,rfl,q _ (I.hok.fresh (A05 _))⟩;exact⟨A0B (Nk xs lo hi) hz,_,(r.drop (HT.sIx xs.length 0 lo)).take (HT.sIx xs.length xs.length hi-HT.sIx xs.length 0 lo),IsTupN.new _ _⟩
def aC3 (K:W.Frag):R2:=λx y H Q=>∃ a b xs ys,x = .ref a/\y = .ref b/\SqT K H a xs/\SqT K H b ys/\xs≠[]/\xs.length+ys.length<=sizeLine /\
 (ys=[]->Q (.ref a) H)/\(ys≠[]->∀ p,H p=none->Q (.ref p) (upd H p (.tup (xs++ys))))
theorem Vals.nil_iff {xs:List V}{us:List Value}(r:Vals xs us):us=[]↔xs=[]:=by
 cases r with
 |nil=>simp
 |cons _ _=>simp
theorem op_catT:OpR X (binaryOp .Add) (aC3 X.K):=by
 intro pins s σ H x y v u Q I rx ry h;obtain⟨a,b,xs,ys,rfl,rfl,ha,hb,hx,hz,q1,q2⟩:=h
 cases rx
 cases ry;obtain⟨its,r1,p1,_⟩:=I.tuple ha;obtain⟨its2,r2,p2,_⟩:=I.tuple hb;refine HT.cat_tup p1 p2 (λz=>hx (r1.nil_iff.mp z)) (λz=>⟨.ref a,H,I,rfl,q1 (r2.nil_iff.mp z)⟩) (λz=>?_) (by rw[<- r1.length,<- r2.length];exact hz);refine⟨.ref s.heap.objs.size,_,I.laid (t':=s.toks) (o:=.tup (xs++ys)) (λb ob q=>A06 _ q) (A05 _) ?_,rfl,q2 (λw=>z (r2.nil_iff.mpr w)) _ (I.hok.fresh (A05 _))⟩;exact⟨by rw[A04];exact hz,_,r1.append r2,IsTupN.new _ _⟩
end
def ixN (n:Nat)(i:Int):Option Nat:=if 0<=i then(if i<n then some i.toNat else none) else if -(n:Int)<=i then some (i+n).toNat else none
def atI {α:Type}(xs:List α)(i:Int):Option α:=(ixN xs.length i).bind λj=>xs[j]?
theorem ar2 {n:Nat}{i:Int}{j:Nat}(h:ixN n i=some j):seqIndex? i n=some j/\j<n /\ -(n:Int)<=i/\i<n:=by
 unfold ixN at h
 by_cases h0:0<=i
 . rw[A10 h0] at h
   by_cases h1:i<n
   . rw[A10 h1] at h;have e:i.toNat=j:=A12 h;exact⟨by rw[seqIndex_of h0 h1,e],by omega,by omega,h1⟩
   rw[A0W h1] at h;cases h
 rw[A0W h0] at h
 by_cases h1:-(n:Int)<=i
 . rw[A10 h1] at h;have e:(i+n).toNat=j:=A12 h;exact⟨by rw[seqIndex_neg ∅ h1,e],by omega,h1,by omega⟩
 rw[A0W h1] at h;cases h
theorem R9 {α:Type} {xs:List α} {i:Int} {v:α} (h:atI xs i=some v):∃ j,seqIndex? i xs.length=some j/\xs[j]? = some v/\j<xs.length /\ -(xs.length:Int)<=i/\i<xs.length:=by
 unfold atI at h
 cases e:ixN xs.length i with
 |none=>rw[e] at h;cases h
 |some j=>rw[e] at h;obtain⟨h1,h2,h3,h4⟩:=ar2 e;exact⟨j,h1,h,h2,h3,h4⟩
theorem Av {α:Type}{xs:List α}{j:Nat}{v:α}(h:xs[j]? = some v):atI xs (j:Int)=some v:=by
 have hj:j<xs.length:=(A01.mp h).1
 have e:ixN xs.length (j:Int)=some j:=by unfold ixN;rw[if_pos ∅,if_pos ∅];simp
 unfold atI;rw[e];exact h
def al4 (b:Expr):Prop:=∀ o i,subscripted b false o i=operate [o,i] (getItem o i)
def IxR (X:Cx)(r:R2):Prop:=
 ∀(value slice:Expr) (pins:List (Addr×Obj)) (s:Shared) (σ:St) (H:Hp) (x y:V) (v u:Value) (Q:VK),Inv X pins σ H s->RelV x v->RelV y u->r x y H Q ->
  subscripted slice false v u=operate [v,u] (getItem v u)->wpAny (model X.prog X.w) X.A (subscriptTail value slice v u) (EP X pins σ Q) X.xe s
def MtR (X:Cx)(id:String)(r:V->List V->Hp->VK->Prop):Prop:=
 ∀(pins:List (Addr×Obj)) (s:Shared) (σ:St) (H:Hp) (x:V) (xs:List V) (v:Value) (us:List Value) (Q:VK),Inv X pins σ H s->RelV x v->Vals xs us->r x xs H Q ->
  wpAny (model X.prog X.w) X.A (call (.builtin id) (v :: us)) (EP X pins σ Q) X.xe s
section
variable {X:Cx}{a b:Expr}{ta tb:TE}{pos:Pos}
theorem IxR.or {r r':R2}(h:IxR X r)(h':IxR X r'):IxR X (λx y H Q=>r x y H Q\/r' x y H Q):=by
 intro value slice pins s σ H x y v u Q I rx ry q hs;rcases q with q|q
 . exact h value slice pins s σ H x y v u Q I rx ry q hs
 exact h' value slice pins s σ H x y v u Q I rx ry q hs
theorem Al {r:R2}(hr:IxR X r)(ha:PE X a ta)(hb:PE X b tb)(hs:al4 b):PE X (.Subscript a b pos) (tOp r ta tb):=by intro pins s σ H Q I h;exact Subscript_ (aI1 ha hb I h λv u s2 x y H2 I2 rx ry q=>hr a b pins s2 σ H2 x y v u Q I2 rx ry q (hs _ _))
def aI8 (K:W.Frag):R2:=λx y H Q=>∃ p xs i v,x = .ref p/\y = .int i/\SqL K H p xs/\atI xs i=some v/\Q v H
def aK1 (K:W.Frag):R2:=λx y H Q=>∃ p xs i v,x = .ref p/\y = .int i/\SqT K H p xs/\atI xs i=some v/\Q v H
def aJ9:R2:=λx y H Q=>∃ z i c,x = .str z/\y = .int i/\z.length<=sizeLine/\atI z.cps.toList i=some c/\Q (.str ⟨#[c]⟩) H
theorem ix_list:IxR X (aI8 X.K):=by
 intro value slice pins s σ H x y v u Q I rx ry h hs;obtain⟨p,xs,i,z,rfl,rfl,hq,he,q⟩:=h
 cases rx;obtain⟨t,rfl⟩:=ry;obtain⟨its,r,pl,hz⟩:=I.list hq;obtain⟨j,h1,h2,h3,h4,h5⟩:=R9 he;obtain⟨w,ew,rw'⟩:=r.get h2;have hl:=r.length;have hn:=Sf;have fin:EP X pins σ Q w s:=⟨z,H,I,rw',q⟩
 by_cases h0:0<=i
 . have hj:i.toNat=j:=by rw[seqIndex_of h0 h5] at h1;exact A12 h1
   exact item_listR pl.isList h0 ∅ (by rw[hj];simpa using ew) fin hs
 have hj:(i+(its.toArray.size:Int)).toNat=j:=by rw[seqIndex_neg ∅ h4] at h1;rw[A0V,<- hl];exact A12 h1
 exact subscriptTail_builtinR (x:=w) pl.isList.typeIs slot_list_getitem.lookup
  (wpAny_getItem_list_neg (Q:=λr s'=>r=w/\EP X pins σ Q r s') pl.isList ∅ (by rw[List.size_toArray]<;>omega) ∅ (by rw[hj];simpa using ew) ⟨rfl,fin⟩) hs
theorem ix_tup:IxR X (aK1 X.K):=by
 intro value slice pins s σ H x y v u Q I rx ry h hs;obtain⟨p,xs,i,z,rfl,rfl,hq,he,q⟩:=h
 cases rx;obtain⟨t,rfl⟩:=ry;obtain⟨its,r,pl,hz⟩:=I.tuple hq;obtain⟨j,h1,h2,h3,h4,h5⟩:=R9 he;obtain⟨w,ew,rw'⟩:=r.get h2;have hl:=r.length;have hn:=Sf;have fin:EP X pins σ Q w s:=⟨z,H,I,rw',q⟩
 exact subscriptTail_builtinR (x:=w) pl.typeIs slot_tuple_getitem.lookup
  (getItem_tuple (j:=j) (Q:=λr s'=>r=w/\EP X pins σ Q r s') pl ∅ ∅ (by rw[List.size_toArray,<- hl];exact h1) (by simpa using ew) ⟨rfl,fin⟩) hs
theorem aB2:IxR X aJ9:=by
 intro value slice pins s σ H x y v u Q I rx ry h hs;obtain⟨z,i,c,rfl,rfl,hz,he,q⟩:=h;obtain⟨t,rfl⟩:=rx;obtain⟨t',rfl⟩:=ry;obtain⟨j,h1,h2,h3,h4,h5⟩:=R9 he;have hl:z.cps.toList.length=z.length:=by simp[Str.length]
 rw[hl] at h1 h4 h5;have hn:=Sf
 exact tail_any (typeIs_str s z t) slot_str_getitem.lookup (getItem_str (c:=c) (by have e1:decide (i < -(2 ^ 63:Int))=false:=A11 ∅;have e2:decide (i>=2 ^ 63)=false:=A11 ∅;rw[e1,e2,Bool.or_false]) (by rw[h1];simpa using h2) ⟨.str ⟨#[c]⟩,H,I.tok _,⟨_,rfl⟩,q⟩) hs
def rIx (K:W.Frag):R2:=λx y H Q=>aI8 K x y H Q\/aK1 K x y H Q\/aJ9 x y H Q
theorem ix_seq:IxR X (rIx X.K):=ix_list.or (ix_tup.or aB2)
theorem Sy (lo hi:Option Int) (n:Nat):(sliceBounds lo hi none n).1=((HT.sIx n 0 lo:Nat):Int)/\(sliceBounds lo hi none n).2.1=((HT.sIx n n hi:Nat):Int)/\(sliceBounds lo hi none n).2.2=1:=by
 refine⟨?_,?_,rfl⟩
 . cases lo with
   |none=>simp[sliceBounds,HT.sIx]
   |some i=>
     simp only[sliceBounds,HT.sIx,Option.getD_none,show(1:Int)>0 by decide,if_true]
     by_cases h:i<0
     . simp only[h,if_true]<;>omega
     simp only[h,if_false]<;>omega
 cases hi with
 |none=>simp[sliceBounds,HT.sIx]
 |some i=>
   simp only[sliceBounds,HT.sIx,Option.getD_none,show(1:Int)>0 by decide,if_true]
   by_cases h:i<0
   . simp only[h,if_true]<;>omega
   simp only[h,if_false]<;>omega
theorem Kn (its:List Value)(lo hi:Option Int):slicePick its.toArray lo hi none=((its.drop (HT.sIx its.length 0 lo)).take (HT.sIx its.length its.length hi-HT.sIx its.length 0 lo)).toArray:=by obtain⟨h1,h2,h3⟩:=Sy lo hi its.toArray.size;unfold slicePick;rw[h1,h2,h3];simp only[sliceRange_one,pick_run,List.size_toArray]<;>rfl
def aJ2 (K:W.Frag):V->Option Int->Option Int->Hp->VK->Prop:=λx lo hi H Q=>∃ a xs,x = .ref a/\SqL K H a xs/\∀ p,H p=none->Q (.ref p) (upd H p (.lst (Lv xs lo hi)))
theorem sl_list:SlR X (aJ2 X.K):=by
 intro pins s σ H x v vl vu lo hi sl Q I rx hs pl pu h;obtain⟨a,xs,rfl,hx,q⟩:=h
 cases rx;obtain⟨its,r,ht,hz⟩:=I.list hx;have hlen:=r.length;refine⟨"list",_,slot_list_getitem.lookup,ht.isList.typeIs,?_⟩;refine wpAny_getItem_list_slice ht.isList hs pl pu .none (by simp) ?_ (by rw[List.size_toArray]<;>omega)
 rw[Kn,<- hlen];refine⟨.ref s.heap.objs.size,_,I.laid (t':=s.toks) (o:=.lst (Lv xs lo hi)) (λb ob q=>A06 _ q) (A05 _) ?_,rfl,q _ (I.hok.fresh (A05 _))⟩;exact⟨A0B (Nk xs lo hi) hz,_,0,(r.drop (HT.sIx xs.length 0 lo)).take (HT.sIx xs.length xs.length hi-HT.sIx xs.length 0 lo),A15 _ rfl⟩
def Rb:V->Bool
 |.non=>true
 |.bl _=>true
 |.int _=>true
 |.str _=>true
 |_=>false
def eqV:V->V->Bool
 |.non,.non=>true
 |.bl a,.bl b=>a==b
 |.bl a,.int b=>(if a then 1 else 0)==b
 |.int a,.bl b=>a==(if b then 1 else 0)
 |.int a,.int b=>a==b
 |.str a,.str b=>a==b
 |_,_=>false
theorem ax3 {A:Around}{s:Shared}{y x:V}{u v:Value}(ry:RelV y u)(rx:RelV x v)(fy:Rb y=true)(fx:Rb x=true):SeqAt.EqAt A s u v (eqV y x):=by
 cases y with
 |non=>
   cases ry
   cases x with
   |non=>cases rx;exact SeqAt.EqAt.same _
   |bl b=>cases rx;exact SeqAt.EqAt.none_bool b
   |int b=>obtain⟨t,rfl⟩:=rx;exact SeqAt.EqAt.none_int b t
   |str b=>obtain⟨t,rfl⟩:=rx;exact SeqAt.EqAt.none_str b t
   |_=>exact absurd (show false=true from fx) A0O
 |bl a=>
   cases ry
   cases x with
   |non=>cases rx;exact SeqAt.EqAt.bool_none a
   |bl b=>cases rx;exact SeqAt.EqAt.bool_bool a b
   |int b=>obtain⟨t,rfl⟩:=rx;exact SeqAt.EqAt.bool_int a b t
   |str b=>obtain⟨t,rfl⟩:=rx;exact SeqAt.EqAt.bool_str a b t
   |_=>exact absurd (show false=true from fx) A0O
 |int a=>
   obtain⟨t',rfl⟩:=ry
   cases x with
   |non=>cases rx;exact SeqAt.EqAt.int_none a t'
   |bl b=>cases rx;exact SeqAt.EqAt.int_bool a t' b
   |int b=>obtain⟨t,rfl⟩:=rx;exact SeqAt.EqAt.int_int a t' b t
   |str b=>obtain⟨t,rfl⟩:=rx;exact SeqAt.EqAt.int_str a t' b t
   |_=>exact absurd (show false=true from fx) A0O
 |str a=>
   obtain⟨t',rfl⟩:=ry
   cases x with
   |non=>cases rx;exact SeqAt.EqAt.str_none a t'
   |bl b=>cases rx;exact SeqAt.EqAt.str_bool a t' b
   |int b=>obtain⟨t,rfl⟩:=rx;exact SeqAt.EqAt.str_int a t' b t
   |str b=>obtain⟨t,rfl⟩:=rx;exact SeqAt.EqAt.str_str a t' b t
   |_=>exact absurd (show false=true from fx) A0O
 |_=>exact absurd (show false=true from fy) A0O
def eqU (x:V)(u:Value):Bool:=match u with
 |.none=>eqV .non x
 |.bool b=>eqV (.bl b) x
 |.int i _=>eqV (.int i) x
 |.str z _=>eqV (.str z) x
 |_=>false
theorem ag4 {x y:V}{u:Value}(r:RelV y u)(f:Rb y=true):eqU x u=eqV y x:=by
 cases y with
 |non=>cases r;rfl
 |bl b=>cases r;rfl
 |int i=>obtain⟨t,rfl⟩:=r;rfl
 |str z=>obtain⟨t,rfl⟩:=r;rfl
 |_=>exact absurd (show false=true from f) A0O
theorem Nt {x:V}:∀ {xs:List V} {us:List Value},Vals xs us->xs.all Rb=true->us.any (eqU x)=xs.any λy=>eqV y x
 |_,_,.nil,_=>rfl
 |y :: xs,u :: us,.cons r t,f=>by rw[A5V,A1Y] at f;rw[A2I,A2I,ag4 r f.1,Nt t f.2]
theorem Jj {A:Around}{s:Shared}{x:V}{v:Value}(rx:RelV x v)(fx:Rb x=true):∀ {xs:List V} {us:List Value},Vals xs us->xs.all Rb=true->∀ u∈us,SeqAt.EqAt A s u v (eqU x u)
 |_,_,.nil,_=>λu hu=>by cases hu
 |y :: xs,u :: us,.cons r t,f=>λu' hu=>by
   rw[A5V,A1Y] at f;rcases A0N.mp hu with rfl|hu
   . rw[ag4 r f.1];exact ax3 r rx f.1 fx
   exact Jj rx fx t f.2 u' hu
def inV (x:V)(xs:List V):Bool:=xs.any λy=>eqV y x
def rIn (K:W.Frag)(neg:Bool):R2:=λx y H Q=>∃ p xs,y = .ref p/\(SqL K H p xs\/SqT K H p xs)/\Rb x=true/\xs.all Rb=true/\Q (.bl (if neg then !inV x xs else inV x xs)) H
theorem op_in_seq:OpR X (compareOp .In) (rIn X.K false):=by
 intro pins s σ H x y v u Q I rx ry h;obtain⟨p,xs,rfl,hq,fx,fs,q⟩:=h
 cases ry;rcases hq with hq|hq
 . obtain⟨its,r,pl,hz⟩:=I.list hq;refine SeqAt.in_listAt (eqU x) pl.isList (λw hw=>Jj rx fx r fs w (by simpa using hw)) ⟨.bl _,H,I,rfl,?_⟩;rw[show its.toArray.any (eqU x)=its.any (eqU x) by simp,Nt r fs];exact q
 obtain⟨its,r,pl,hz⟩:=I.tuple hq;refine SeqAt.in_tupleAt (eqU x) pl (λw hw=>Jj rx fx r fs w (by simpa using hw)) ⟨.bl _,H,I,rfl,?_⟩;rw[show its.toArray.any (eqU x)=its.any (eqU x) by simp,Nt r fs];exact q
theorem op_notIn_seq:OpR X (compareOp .NotIn) (rIn X.K true):=by
 intro pins s σ H x y v u Q I rx ry h;obtain⟨p,xs,rfl,hq,fx,fs,q⟩:=h
 cases ry;rcases hq with hq|hq
 . obtain⟨its,r,pl,hz⟩:=I.list hq;refine SeqAt.notIn_listAt (eqU x) pl.isList (λw hw=>Jj rx fx r fs w (by simpa using hw)) ⟨.bl _,H,I,rfl,?_⟩;rw[show its.toArray.any (eqU x)=its.any (eqU x) by simp,Nt r fs];exact q
 obtain⟨its,r,pl,hz⟩:=I.tuple hq;refine SeqAt.notIn_tupleAt (eqU x) pl (λw hw=>Jj rx fx r fs w (by simpa using hw)) ⟨.bl _,H,I,rfl,?_⟩;rw[show its.toArray.any (eqU x)=its.any (eqU x) by simp,Nt r fs];exact q
theorem op_notIn_str:OpR X (compareOp .NotIn) (λx y H Q=>∃ i j,x = .str i/\y = .str j/\Q (.bl (!(!(Builtin.Str.occurrences j i 0 j.length 1).isEmpty))) H):=by intro pins s σ H x y v u Q I rx ry h;obtain⟨i,j,rfl,rfl,q⟩:=h;obtain⟨t,rfl⟩:=rx;obtain⟨t',rfl⟩:=ry;exact notIn_str ⟨.bl _,H,I,rfl,q⟩
theorem CallR.or {f:Value}{r r':List V->Hp->VK->Prop}(h:CallR X f r)(h':CallR X f r'):CallR X f (λxs H Q=>r xs H Q\/r' xs H Q):=by
 intro pins s σ H xs us Q I rs q;rcases q with q|q
 . exact h pins s σ H xs us Q I rs q
 exact h' pins s σ H xs us Q I rs q
theorem Ro:CallR X (.type "list") (λxs H Q=>∃ p ys,xs=[.ref p]/\(SqL X.K H p ys\/SqT X.K H p ys)/\∀ l,H l=none->Q (.ref l) (upd H l (.lst ys))):=by
 intro pins s σ H xs us Q I r h;obtain⟨p,ys,rfl,hq,q⟩:=h;obtain⟨u,rfl,rx⟩:=K7 r
 cases rx
 have fin:∀(its:List Value),Vals ys its->ys.length<=sizeLine->∀(h':Heap) (c':Nat),(∀ b o',s.heap.get? b=some o'->h'.get? b=some o') ->
   h'.get? s.heap.objs.size=some {cls:=.type "list",dict:=none,data:=.seq its.toArray c',slots:=#[]}->EP X pins σ Q (.ref s.heap.objs.size) {s with heap:=h'}:=λits r' hz h' c' kp e=>
  ⟨.ref s.heap.objs.size,_,I.laid (t':=s.toks) kp (A05 _) (show ObjOk X.prog X.w _ h' _ (.lst ys) from⟨hz,its,c',r',e⟩),rfl,q _ (I.hok.fresh (A05 _))⟩
 rcases hq with hq|hq
 . obtain⟨its,r',pl,hz⟩:=I.list hq;have hlen:=r'.length;obtain⟨o,ho,hc,n,hd⟩:=pl.isList;exact call_list_seq p (.inl rfl) ho hc hd (λh' c' kp e=>fin its r' hz h' c' kp e) (by simp only[List.size_toArray]<;>omega)
 obtain⟨its,r',pl,hz⟩:=I.tuple hq;have hlen:=r'.length;obtain⟨o,ho,hc,n,hd⟩:=pl;exact call_list_seq p (.inr rfl) ho hc hd (λh' c' kp e=>fin its r' hz h' c' kp e) (by simp only[List.size_toArray]<;>omega)
theorem Qj:CallR X (.type "tuple") (λxs H Q=>∃ p ys,xs=[.ref p]/\((SqL X.K H p ys/\∀ l,H l=none->Q (.ref l) (upd H l (.tup ys)))\/(SqT X.K H p ys/\Q (.ref p) H))):=by
 intro pins s σ H xs us Q I r h;obtain⟨p,ys,rfl,h⟩:=h;obtain⟨u,rfl,rx⟩:=K7 r
 cases rx;rcases h with ⟨hq,q⟩|⟨hq,q⟩
 . obtain⟨its,r',pl,hz⟩:=I.list hq;have hlen:=r'.length;refine call_tuple_list pl.isList (λh' kp=>?_) (by simp only[List.size_toArray]<;>omega)
   have I1:Inv X pins σ H {s with heap:=h'}:=I.kept (t':=s.toks) kp
   have I2:Inv X pins σ (upd H h'.objs.size (.tup ys)) {s with heap:=h'.push {cls:=.type "tuple",data:=.seq its.toArray}}:=
    I1.laid (t':=s.toks) (λb o e=>A06 _ e) (A05 _) (show ObjOk X.prog X.w _ _ _ (.tup ys) from⟨hz,its,r',IsTupN.new _ _⟩)
   exact⟨.ref h'.objs.size,_,I2,rfl,q _ (I1.hok.fresh (A05 _))⟩
 obtain⟨its,r',pl,hz⟩:=I.tuple hq;exact call_tuple_same pl ⟨.ref p,H,I,rfl,q⟩
def tyV (K:W.Frag)(T:String)(x:V)(H:Hp):Prop:=match x with
 |.str _=>T = "str"
 |.int _=>T = "int"
 |.ref p=>(T = "list" /\ ∃ xs,SqL K H p xs)\/(T = "tuple" /\ ∃ o,K.lookup p=some o/\o.cls = .type "tuple" /\ o.dict=none) \/
   (T = "dict" /\ ((∃ kvs,H p=some (.dK kvs))\/∃ kvs,H p=some (.dT kvs)))\/(T = "set" /\ ∃ S n,H p=some (.set S n))
 |_=>False
theorem aj2 {pins:List (Addr×Obj)}{σ:St}{H:Hp}{s:Shared}{T:String}{x:V}{v:Value}(I:Inv X pins σ H s)(r:RelV x v)(ty:tyV X.K T x H) :
  s.TypeIs v T/\∀ a,v = .ref a->∃ ob,s.heap.get? a=some ob/\ob.dict=none:=by
 cases x with
 |str z=>
   obtain⟨t,rfl⟩:=r
   cases (show T = "str" from ty);exact⟨typeIs_str s z t,λ_ e=>nomatch e⟩
 |int i=>
   obtain⟨t,rfl⟩:=r
   cases (show T = "int" from ty);exact⟨typeIs_int s i t,λ_ e=>nomatch e⟩
 |ref p=>
   cases r;rcases ty with ⟨rfl,xs,hq⟩|⟨rfl,o,hk,hc,hd⟩|⟨rfl,hk⟩|⟨rfl,S,n,hk⟩
   . obtain⟨its,_,pl,_⟩:=I.list hq;refine⟨pl.isList.typeIs,λa e=>?_⟩
     cases e;obtain⟨o,n,e,c,hd,_⟩:=pl;exact⟨o,e,hd⟩
   . refine⟨⟨o,I.kIn p o hk,hc⟩,λa e=>?_⟩
     cases e;exact⟨o,I.kIn _ o hk,hd⟩
   . have z:∃ o,s.heap.get? p=some o/\o.ExactDict:=by
      rcases hk with ⟨kvs,hk⟩|⟨kvs,hk⟩
      . obtain⟨_,_,_,_,o,_,_,e,ex,_⟩:=I.hok p _ hk;exact⟨o,e,ex⟩
      obtain⟨_,_,_,_,o,_,_,e,ex,_⟩:=I.hok p _ hk;exact⟨o,e,ex⟩
     obtain⟨o,e,ex⟩:=z;refine⟨⟨o,e,ex.1⟩,λa e2=>?_⟩
     cases e2;exact⟨o,e,ex.2.1⟩
   obtain⟨o,_,_,_,e,ex,_⟩:=I.hok p _ hk;refine⟨⟨o,e,ex.1⟩,λa e2=>?_⟩
   cases e2;exact⟨o,e,ex.2.1⟩
 |_=>exact False.elim ty
def aF6 (K:W.Frag)(T:String)(r:V->List V->Hp->VK->Prop)(to:TE):TE:=fun σ H Q=>to σ H λx H1=>tyV K T x H1/\r x [] H1 Q
def tBM (K:W.Frag)(T:String)(r:V->List V->Hp->VK->Prop)(to:TE)(t:TA):TE:=fun σ H Q=>to σ H λx H1=>tyV K T x H1/\t σ H1 λxs H2=>r x xs H2 Q
variable {o e:Expr}{es:List Expr}{to:TE}{t:TA}{name:Str}{apos cpos:Pos}{T id:String}{r:V->List V->Hp->VK->Prop}
theorem at6 (pa:PlainAttrs T)(slot:Slot T name id)(hty:typeOf (.builtin id)=pure (.type "method_descriptor"))(hm:MtR X id r)(ho:PE X o to)
  (hbase:attributeBase o name X.env (eval o X.env)=eval o X.env:=by ac_nf) (hline:(apos.endLine==cpos.line)=true:=by ac_nf):PE X (.Call (.Attribute o name apos) [] [] cpos) (aF6 X.K T r to):=by
 intro pins s σ H Q I h;refine wpAny_Call_method0_late hbase hline (thn (ho pins s σ H _ I h) λv s1 ⟨x,H1,I1,r1,ty,q1⟩=>?_);obtain⟨h1,h2⟩:=aj2 I1 r1 ty;exact⟨T,id,pa,slot,hty,h1,h2,A53 rfl (PySem.evalArgs_none (hm pins s1 σ H1 x [] v [] Q I1 r1 .nil q1))⟩
theorem aI3 (pa:PlainAttrs T)(slot:Slot T name id)(hty:typeOf (.builtin id)=pure (.type "method_descriptor"))(hm:MtR X id r)(ho:PE X o to)(ha:PA X (e :: es) t)
  (hbase:attributeBase o name X.env (eval o X.env)=eval o X.env:=by ac_nf)
  (hfew:((backTo cpos (starEach (e :: es) X.env)).all (λx=>!x.1)&&(backToKw cpos (keywordEach [] X.env)).all (λx=>x.1.isSome)
   && decide ((e :: es).length+([]:List Keyword).length+(if([]:List Keyword).isEmpty then 0 else 1)<30))=true:=by ac_nf)
  (hline:(apos.endLine==cpos.line)=true:=by ac_nf) (hs:starEach (e :: es) X.env=(false,eval e X.env) :: starEach es X.env:=by ac_nf) (hplain:(backTo cpos (starEach es X.env)).any (·.1)=false:=by ac_nf) :
  PE X (.Call (.Attribute o name apos) (e :: es) [] cpos) (tBM X.K T r to t):=by
 intro pins s σ H Q I h;refine wpAny_Call_method_late hbase hfew hline rfl (thn (ho pins s σ H _ I h) λv s1 ⟨x,H1,I1,r1,ty,q1⟩=>?_);obtain⟨h1,h2⟩:=aj2 I1 r1 ty;refine⟨T,id,pa,slot,hty,h1,h2,?_⟩;have hA:=ha cpos pins s1 σ H1 _ I1 q1;rw[hs] at hA ⊢;refine A53 (by show(false||(backTo cpos (starEach es X.env)).any (·.1))=false;rw[hplain]<;>rfl) (Calls.evalArgs_plain ?_)
 exact thn hA λus s2 ⟨vs,H2,I2,r2,q2⟩=>hm pins s2 σ H2 x vs v us Q I2 r1 r2 q2
/- xs.append(e),list.index on a module's tuple .. are MtR facts of 06m -/
end
def MtM (X:Cx)(id:String)(r:V->List V->Hp->VK->Prop):Prop:=
 ∀(pins:List (Addr×Obj)) (s:Shared) (σ:St) (H:Hp) (x:V) (xs:List V) (v:Value) (us:List Value) (Q:VK),Inv X pins σ H s->RelV x v->Vals xs us->r x xs H Q ->
  wpAny (model X.prog X.w) X.A (call (.builtin id) (v :: us)) (EP X pins σ Q) X.xe s
theorem Vals.one {x:V}{us:List Value}(h:Vals [x] us):∃ u,us=[u]/\RelV x u:=by
 cases h with
 |cons r q=>cases q;exact⟨_,rfl,r⟩
theorem Vals.two {x y:V}{us:List Value}(h:Vals [x,y] us):∃ u v,us=[u,v]/\RelV x u/\RelV y v:=by
 cases h with
 |cons r q=>obtain⟨u,rfl,q'⟩:=Vals.one q;exact⟨_,_,rfl,r,q'⟩
theorem Vals.zero:∀ {us:List Value},Vals [] us->us=[]
 |_,.nil=>rfl
theorem Vals.dropLast {xs:List V}{us:List Value}(h:Vals xs us):Vals xs.dropLast us.dropLast:=by
 induction h with
 |nil=>exact .nil
 |cons r t ih=>
   cases t with
   |nil=>exact .nil
   |cons q t'=>exact .cons r ih
theorem Vals.eraseIdx:∀ {xs:List V} {us:List Value} (i:Nat),Vals xs us->Vals (xs.eraseIdx i) (us.eraseIdx i)
 |_,_,_,.nil=>.nil
 |_,_,0,.cons _ t=>t
 |_,_,i+1,.cons r t=>.cons r (Vals.eraseIdx i t)
theorem Vals.reverse {xs:List V}{us:List Value}(h:Vals xs us):Vals xs.reverse us.reverse:=by
 induction h with
 |nil=>exact .nil
 |cons r t ih=>rw[A4U,A4U];exact Vals.append ih (.cons r .nil)
theorem Vals.rep {xs:List V}{us:List Value}(h:Vals xs us):∀ k:Nat,Vals (List.replicate k xs).flatten (List.replicate k us).flatten
 |0=>.nil
 |k+1=>by rw[A3B,A3B,A3L,A3L];exact Vals.append h (Vals.rep h k)
theorem X9 {α:Type}(l:List α):l.eraseIdx (l.length-1)=l.dropLast:=by
 induction l with
 |nil=>rfl
 |cons a r ih=>
   cases r with
   |nil=>rfl
   |cons b r=>
     have e:(a :: b :: r).length-1=((b :: r).length-1)+1:=by have h1:(a :: b :: r).length=r.length+2:=rfl;have h2:(b :: r).length=r.length+1:=rfl;omega
     rw[e,List.eraseIdx_cons_succ,ih]
     all_goals rfl
theorem Se {α:Type}:∀(l:List α) (i:Nat),(l.eraseIdx i).length<=l.length
 | [],_=>A05 _
 |_ :: _,0=>Nat.le_succ _
 |_ :: r,i+1=>Nat.succ_le_succ (Se r i)
theorem Ss (its:List Value):∀(k:Nat) (acc:List Value),
  List.foldl (λx1 x2=>x1++x2) acc.toArray (List.replicate k its.toArray)=(acc++(List.replicate k its).flatten).toArray
 |0,acc=>by simp
 |k+1,acc=>by
   have e:acc.toArray++its.toArray=(acc++its).toArray:=by simp
   have e2:(acc++its)++(List.replicate k its).flatten=acc++(List.replicate (k+1) its).flatten:=by rw[A3B,A3L,A17]
   rw[<- e2,<- Ss its k (acc++its),<- e,A3B,A2M]
section
variable {X:Cx}{pins:List (Addr×Obj)}{σ:St}{H:Hp}{s:Shared}{l b:Addr}{xs ys zs:List V}
theorem Inv.lset {its its':List Value}{n:Nat}{f:Array Value->Array Value}{t':Nat}(I:Inv X pins σ H s)(hH:H l=some (.lst xs))
  (e:s.heap.get? l=some {cls:=.type "list",data:=.seq its.toArray n}) (hf:f its.toArray=its'.toArray) (hv:Vals ys its') (hz:ys.length<=sizeLine) :
  Inv X pins σ (upd H l (.lst ys)) {s with heap:=s.heap.update l (Obj.mapSeq f),toks:=t'}:=by
 have q:=PySem.IsL.update e f;rw[hf] at q;refine I.write (x:=l) (e:=l) (by rw[hH];exact trivial) (.inl rfl) (λb' u hb hu=>(Heap.get?_update_other s.heap (Obj.mapSeq f) (Ne.symm hb)).trans hu) ⟨_,q⟩ ?_;exact⟨hz,its',_,hv,q⟩
theorem Inv.lnew {its:List Value}{t':Nat}(I:Inv X pins σ H s)(hv:Vals ys its)(hz:ys.length<=sizeLine) :
  Inv X pins σ (upd H s.heap.objs.size (.lst ys)) {s with heap:=s.heap.push {cls:=.type "list",data:=.seq its.toArray},toks:=t'}:=
 I.laid (λ_ _ q=>A06 _ q) (A05 _) ⟨hz,its,0,hv,A15 _ rfl⟩
theorem Inv.fresh (I:Inv X pins σ H s):H s.heap.objs.size=none:=I.hok.fresh (A05 _)
theorem Inv.lstM (I:Inv X pins σ H s)(hH:H l=some (.lst xs)):xs.length<=sizeLine/\∃(its:List Value) (n:Nat),Vals xs its/\xs.length=its.length/\s.heap.get? l=some {cls:=.type "list",data:=.seq its.toArray n}:=by obtain⟨z,its,n,r,e⟩:=I.hok l _ hH;exact⟨z,its,n,r,r.length,e⟩
theorem W8 {n:Nat}(h:n<=sizeLine):Builtin.List.listTooLong n=false:=by unfold Builtin.List.listTooLong;exact A11 ∅
end
section
variable {X:Cx}
def Za:V->List V->Hp->VK->Prop:=λx vs H Q=>∃ l xs y,x = .ref l/\vs=[y]/\H l=some (.lst xs)/\xs.length<sizeLine/\Q .non (upd H l (.lst (xs++[y])))
theorem Du:MtM X "list.append" Za:=by
 intro pins s σ H x vs v us Q I rx rv h;obtain⟨l,xs,y,rfl,rfl,hH,hz,q⟩:=h
 cases rx;obtain⟨u,rfl,ru⟩:=rv.one;obtain⟨z,its,n,r,hl,e⟩:=I.lstM hH;refine A44 F.slot_list_append ⟨_,e,rfl⟩ F.entry_list_append (F.args_list_append_2 _ _) (PySem.list_append l its.toArray n u (by rw[A0V];omega)) ⟨e,?_⟩;refine⟨.non,_,I.lset (its':=its++[u]) hH e (by simp) (r.append (.cons ru .nil)) ?_,rfl,q⟩;rw[A04,A0S];omega
def Yz:V->List V->Hp->VK->Prop:=λx vs H Q=>∃ l b xs zs,x = .ref l/\vs=[.ref b]/\H l=some (.lst xs)/\H b=some (.lst zs)/\xs.length+zs.length<=sizeLine/\Q .non (upd H l (.lst (xs++zs)))
theorem Jb:MtM X "list.extend" Yz:=by
 intro pins s σ H x vs v us Q I rx rv h;obtain⟨l,b,xs,zs,rfl,rfl,hH,hB,hz,q⟩:=h
 cases rx;obtain⟨u,rfl,ru⟩:=rv.one
 cases ru;obtain⟨z,its,n,r,hl,e⟩:=I.lstM hH;obtain⟨z2,its2,n2,r2,hl2,e2⟩:=I.lstM hB;have hsz:its.toArray.size+its2.toArray.size<=sizeLine:=by rw[A0V,A0V];omega
 have hlong:¬ (!its.toArray.isEmpty&&Builtin.List.listTooLong (its.toArray.size+its2.toArray.size))=true:=by rw[W8 hsz,Bool.and_false];exact A0O
 refine A44 F.slot_list_extend ⟨_,e,rfl⟩ F.entry_list_extend (F.args_list_extend_2 _ _)
  (AutoSeq1.list_extend_list_list_0 l its.toArray n b its2.toArray n2 hlong (by rw[A0V];omega) ∅) ⟨e,e2,?_⟩
 refine⟨.non,_,I.lset (its':=its++its2) hH e (by simp) (r.append r2) ?_,rfl,q⟩;rw[A04];omega
def aJ6:V->List V->Hp->VK->Prop:=λx vs H Q=>∃ l xs y,x = .ref l/\vs=[]/\H l=some (.lst xs)/\xs[xs.length-1]? = some y/\Q y (upd H l (.lst xs.dropLast))
theorem ai8:MtM X "list.pop" aJ6:=by
 intro pins s σ H x vs v us Q I rx rv h;obtain⟨l,xs,y,rfl,rfl,hH,hy,q⟩:=h
 cases rx;have hus:=rv.zero;subst hus;obtain⟨z,its,n,r,hl,e⟩:=I.lstM hH;obtain⟨u,hu,ru⟩:=r.get hy
 have hy':its.toArray[its.toArray.size-1]? = some u:=by show its.toArray[its.length-1]? = some u;rw[<- A0P,<- hl];exact hu
 refine A44 F.slot_list_pop ⟨_,e,rfl⟩ F.entry_list_pop (F.args_list_pop_1 _) (MeetsSeq.list_pop_last l its.toArray n u hy' (by rw[A0V];omega)) ⟨e,?_⟩;refine⟨y,_,I.lset (its':=its.dropLast) hH e ?_ r.dropLast ?_,ru,q⟩
 . show its.toArray.eraseIdxIfInBounds (its.toArray.size-1)=its.dropLast.toArray;rw[A0V,List.eraseIdxIfInBounds_toArray,X9]
 rw[List.length_dropLast];omega
def ae3:V->List V->Hp->VK->Prop:=λx vs H Q=>∃ l xs i k y,x = .ref l/\vs=[.int i]/\H l=some (.lst xs) /\ -(2 ^ 63)<=i/\i<2 ^ 63/\seqIndex? i xs.length=some k/\xs[k]? = some y/\Q y (upd H l (.lst (xs.eraseIdx k)))
theorem aa7:MtM X "list.pop" ae3:=by
 intro pins s σ H x vs v us Q I rx rv h;obtain⟨l,xs,i,k,y,rfl,rfl,hH,h1,h2,hk,hy,q⟩:=h
 cases rx;obtain⟨u,rfl,ru⟩:=rv.one;obtain⟨t,rfl⟩:=ru;obtain⟨z,its,n,r,hl,e⟩:=I.lstM hH;obtain⟨w,hw,rw'⟩:=r.get hy
 refine A44 F.slot_list_pop ⟨_,e,rfl⟩ F.entry_list_pop (F.args_list_pop_2 _ _)
  (MeetsSeq.list_pop_at l its.toArray n i t k w (fitsIndex_both h1 h2) (by rw[A0V,<- hl];exact hk) (by rw[<- A0P];exact hw) (by rw[A0V];omega)) ⟨e,?_⟩
 refine⟨y,_,I.lset (its':=its.eraseIdx k) hH e ?_ (r.eraseIdx k) ?_,rw',q⟩
 . show its.toArray.eraseIdxIfInBounds k=(its.eraseIdx k).toArray;rw[List.eraseIdxIfInBounds_toArray]
 have:=Se xs k;omega
def X2:V->List V->Hp->VK->Prop:=λx vs H Q=>∃ l xs,x = .ref l/\vs=[]/\H l=some (.lst xs)/\Q .non (upd H l (.lst xs.reverse))
theorem Xt:MtM X "list.reverse" X2:=by
 intro pins s σ H x vs v us Q I rx rv h;obtain⟨l,xs,rfl,rfl,hH,q⟩:=h
 cases rx;have hus:=rv.zero;subst hus;obtain⟨z,its,n,r,hl,e⟩:=I.lstM hH;refine A44 F.slot_list_reverse ⟨_,e,rfl⟩ F.entry_list_reverse (F.args_list_reverse_1 _) (AutoSeq1.list_reverse_list_0 l its.toArray n (by rw[A0V];omega)) ⟨e,?_⟩;refine⟨.non,_,I.lset (its':=its.reverse) hH e (by simp) r.reverse ?_,rfl,q⟩;rw[A3R];omega
def aK6:R2:=λx y H Q=>∃ l b xs zs,x = .ref l/\y = .ref b/\H l=some (.lst xs)/\H b=some (.lst zs)/\xs.length+zs.length<=sizeLine/\∀ p,H p=none->Q (.ref p) (upd H p (.lst (xs++zs)))
theorem op_cat:OpR X (binaryOp .Add) aK6:=by
 intro pins s σ H x y v u Q I rx ry h;obtain⟨l,b,xs,zs,rfl,rfl,hH,hB,hz,q⟩:=h
 cases rx
 cases ry;obtain⟨z,its,n,r,hl,e⟩:=I.lstM hH;obtain⟨z2,its2,n2,r2,hl2,e2⟩:=I.lstM hB;refine PySem.P.add_list e e2 ?_ (by rw[A0V,A0V];omega);have ea:its.toArray++its2.toArray=(its++its2).toArray:=by simp
 rw[ea];exact⟨.ref _,_,I.lnew (t':=s.toks) (r.append r2) (by rw[A04];omega),rfl,q _ I.fresh⟩
def aI7:R2:=λx y H Q=>∃ l k xs,x = .ref l/\y = .int k/\H l=some (.lst xs) /\ -(2 ^ 63)<=k/\k<2 ^ 63/\xs.length*k.toNat<=sizeLine /\
 ∀ p,H p=none->Q (.ref p) (upd H p (.lst (List.replicate k.toNat xs).flatten))
theorem ar1 {α:Type}(xs:List α)(k:Nat):(List.replicate k xs).flatten.length=k*xs.length:=by
 induction k with
 |zero=>simp
 |succ k ih=>rw[A3B,A3L,A04,ih,Nat.succ_mul,A4N]
theorem aw0:OpR X (binaryOp .Mult) aI7:=by
 intro pins s σ H x y v u Q I rx ry h;obtain⟨l,k,xs,rfl,rfl,hH,h1,h2,hz,q⟩:=h
 cases rx;obtain⟨t,rfl⟩:=ry;obtain⟨z,its,n,r,hl,e⟩:=I.lstM hH;have hlen:its.toArray.size*k.toNat<=sizeLine:=by rw[A0V,<- hl];exact hz
 have hcap:¬ its.toArray.size*k.toNat>(2 ^ 63-1) / 8:=by
  have:(sizeLine:Nat)<=(2 ^ 63-1) / 8:=by decide
  omega
 have hfit:¬ (!Builtin.List.listFitsIndex k)=true:=by rw[fitsIndex_both h1 h2];exact A0O
 have hlong:¬ Builtin.List.listTooLong (its.toArray.size*k.toNat)=true:=by rw[W8 hlen];exact A0O
 have hnew:List.foldl (λx1 x2=>x1++x2) #[] (List.replicate (if its.toArray.isEmpty=true then 0 else k.toNat) its.toArray)=(List.replicate k.toNat its).flatten.toArray:=by
  have f0:∀ m:Nat,List.foldl (λx1 x2=>x1++x2) #[] (List.replicate m its.toArray)=(List.replicate m its).flatten.toArray:=λm=>by have:=Ss its m [];rw[A2V] at this;exact this
  rw[f0]
  cases its with
  |nil=>simp
  |cons a r'=>rw[if_neg (by simp)]
 refine wpAny_binaryOp_repeat_ref (T:="list") (U:="int") nofun ⟨_,e,rfl⟩ (λs'=>typeIs_int s' k t) noFill_list_mul F.fills_int_mul F.slot_int_rmul repeat_list F.slot_int_index.lookup
  (A44 F.slot_int_rmul (typeIs_int s k t) F.entry_int_rmul (F.args_int_rmul_2 _ _) (int___rmul___int_list k t l its.toArray n)
   ⟨e,rfl,⟨_,e,rfl⟩,A44 F.slot_list_mul ⟨_,e,rfl⟩ F.entry_list_mul (F.args_list_mul_2 _ _) (AutoListH.list___mul___list_int_3 l its.toArray n k t hfit hcap hlong) ⟨e,?_⟩⟩)
 rw[hnew];exact⟨.ref _,_,I.lnew (t':=s.toks) (r.rep k.toNat) (by rw[ar1,A59];exact hz),rfl,q _ I.fresh⟩
end
section
variable {prog:Program}{w:World}{A:Around}{E:Value->Shared->Prop}{s:Shared}
set_option maxRecDepth 100000 in
end
section
variable {X:Cx}
end
section
variable {κ:Type}[DecidableEq κ]
def Ee (kvs:List (κ×V))(k:κ):Option V:=(kvs.find? λkv=>decide (kv.1=k)).map (·.2)
def Gx (kvs:List (κ×V))(k:κ)(v:V):List (κ×V):=
 if(kvs.any λkv=>decide (kv.1=k))=true then kvs.map (λkv=>if kv.1=k then(kv.1,v) else kv) else kvs++[(k,v)]
theorem ab9 {k:κ}:Ee ([]:List (κ×V)) k=none:=rfl
theorem C2 {p:κ×V} {r:List (κ×V)} {k:κ} (e:p.1=k):Ee (p :: r) k=some p.2:=by simp[Ee,List.find?_cons,e]
theorem C1 {p:κ×V}{r:List (κ×V)}{k:κ}(e:¬ p.1=k):Ee (p :: r) k=Ee r k:=by simp[Ee,List.find?_cons,e]
theorem Gs (k:κ):∀ kvs:List (κ×V),(kvs.any λkv=>decide (kv.1=k))=(Ee kvs k).isSome
 | []=>rfl
 |p :: r=>by
   rw[A2I]
   by_cases e:p.1=k
   . simp only[C2 e,decide_eq_true e,Bool.true_or,Option.isSome_some]
   rw[C1 e,A11 e,Bool.false_or];exact Gs k r
theorem W7 (k j:κ)(y:V):∀ kvs:List (κ×V),Ee (kvs.map λkv=>if kv.1=k then(kv.1,y) else kv) j=(Ee kvs j).map λx=>if j=k then y else x
 | []=>rfl
 |p :: r=>by
   have ih:=W7 k j y r;rw[A0U]
   by_cases h:p.1=k
   . rw[A10 h]
     by_cases e:p.1=j
     . rw[C2 (p:=(p.1,y)) e,C2 e,A5A,A10 (e.symm.trans h)]
     rw[C1 (p:=(p.1,y)) e,C1 e,ih]
   rw[A0W h]
   by_cases e:p.1=j
   . rw[C2 (p:=p) e,C2 e,A5A,A0W (λz=>h (e.trans z))]
   rw[C1 (p:=p) e,C1 e,ih]
theorem T0 (k j:κ)(y:V):∀ kvs:List (κ×V),Ee kvs k=none->Ee (kvs++[(k,y)]) j=if j=k then some y else Ee kvs j
 | [],_=>by
   by_cases e:k=j
   . rw[A10 e.symm];exact C2 (p:=(k,y)) e
   rw[A0W (λz=>e z.symm)];exact C1 (p:=(k,y)) e
 |p :: r,hn=>by
   rw[List.cons_append];have hk:¬ p.1=k:=λz=>by rw[C2 z] at hn;cases hn
   rw[C1 hk] at hn;have ih:=T0 k j y r hn
   by_cases e:p.1=j
   . rw[C2 e,C2 e,A0W (λz=>hk (e.trans z))]
   rw[C1 e,C1 e,ih]
theorem Mb (kvs:List (κ×V))(k j:κ)(y:V):Ee (Gx kvs k y) j=if j=k then some y else Ee kvs j:=by
 unfold Gx
 by_cases a:(kvs.any λkv=>decide (kv.1=k))=true
 . rw[A10 a,W7];rw[Gs] at a
   by_cases e:j=k
   . obtain⟨x,hx⟩:=Option.isSome_iff_exists.mp a;rw[A10 e,e,hx,A5A,A10 rfl]
   rw[A0W e]
   cases Ee kvs j with
   |none=>rfl
   |some x=>rw[A5A,A0W e]
 rw[A0W a];refine T0 k j y kvs ?_;rw[Gs] at a
 cases q:Ee kvs k with
 |none=>rfl
 |some x=>rw[q] at a;exact(a rfl).elim
theorem I0 (kvs:List (κ×V))(k:κ)(v:V):(Gx kvs k v).length<=kvs.length+1:=by
 unfold Gx
 split
 . rw[A00];omega
 rw[A04,A0G,A2N];omega
theorem Js {kvs:List (κ×V)}{k:κ}(v:V)(h:Ee kvs k=none):Gx kvs k v=kvs++[(k,v)]:=by unfold Gx;rw [Gs,h];exact A0W nofun
theorem RelO.isSome_eq {o:Option V}{u:Option Value}(r:RelO o u):o.isSome=u.isSome:=by
 cases o with
 |none=>cases u with
   |none=>rfl
   |some _=>exact(show False from r).elim
 |some _=>cases u with
   |none=>exact(show False from r).elim
   |some _=>rfl
theorem KV.val {kvs:List (κ×V)} {vs:List (κ×Value)} (r:KV kvs vs) (k:κ):RelO (Ee kvs k) (valueAt vs k):=by
 unfold KV at r
 induction r with
 |nil=>exact A2X
 |@cons p q ps qs h t ih=>
   obtain⟨h1,h2⟩:=h
   by_cases e:p.1=k
   . have e':q.1=k:=h1.symm.trans e;have b:valueAt (q :: qs) k=some q.2:=by simp[valueAt,List.find?_cons,e']
     rw[C2 e,b];exact h2
   have e':¬ q.1=k:=λz=>e (h1.trans z);have b:valueAt (q :: qs) k=valueAt qs k:=by simp[valueAt,List.find?_cons,e']
   rw[C1 e,b];exact ih
theorem KV.any {kvs:List (κ×V)}{vs:List (κ×Value)}(r:KV kvs vs)(k:κ):(kvs.any λkv=>decide (kv.1=k))=vs.any λkv=>decide (kv.1=k):=by
 unfold KV at r
 induction r with
 |nil=>rfl
 |cons h t ih=>rw[A2I,A2I,ih,h.1]
theorem KV.repl {kvs:List (κ×V)}{vs:List (κ×Value)}(r:KV kvs vs)(k:κ){y:V}{u:Value}(ry:RelV y u) :
  KV (kvs.map λkv=>if kv.1=k then(kv.1,y) else kv) (vs.map λkv=>if kv.1=k then(kv.1,u) else kv):=by
 unfold KV at r ⊢
 induction r with
 |nil=>exact .nil
 |@cons p q ps qs h t ih=>
   rw[A0U,A0U];refine .cons ?_ ih;obtain⟨h1,h2⟩:=h
   by_cases e:p.1=k
   . rw[A10 e,A10 (h1.symm.trans e)];exact⟨h1,ry⟩
   rw[A0W e,A0W (λz=>e (h1.trans z))];exact⟨h1,h2⟩
theorem KV.put {kvs:List (κ×V)}{vs:List (κ×Value)}(r:KV kvs vs)(k:κ){y:V}{u:Value}(ry:RelV y u):KV (Gx kvs k y) (stored vs k u):=by
 unfold Gx stored;rw[r.any k]
 by_cases e:(vs.any λkv=>decide (kv.1=k))=true
 . rw[A10 e,A10 e];exact r.repl k ry
 rw[A0W e,A0W e];exact Paired.snoc r ⟨rfl,ry⟩
theorem KV.length {kvs:List (κ×V)}{vs:List (κ×Value)}(r:KV kvs vs):kvs.length=vs.length:=A39 r
end
theorem Vm {P:Program}{w:World}{k:Key}{u:Value}(r:RelV (kV k) u):(B7 P w).is k u=true:=by
 cases k with
 |inl i=>obtain⟨t,e⟩:=(show ∃ t,u=Value.int i t from r);subst e;exact Vi P w i t
 |inr x=>obtain⟨t,e⟩:=(show ∃ t,u=Value.str x t from r);subst e;exact Ur P w x t
theorem Nf {P:Program}{w:World}:∀ {ks:List Key} {us:List Value},Vals (ks.map kV) us->ItemsAre (B7 P w) ks us
 | [],_,r=>by rw[List.map_nil] at r;cases r;exact .nil
 |k :: ks,_,r=>by
   rw[A0U] at r
   cases r with
   |cons h t=>exact .cons (Vm h) (Nf t)
abbrev KT (H:Hp):List (List Key×V)->List (List Key×Addr×Value)->Prop:=Paired λp q=>p.1=q.1/\H q.2.1=some (.tup (p.1.map kV))/\RelV p.2 q.2.2
theorem KT.val {H:Hp}{kvs:List (List Key×V)}{xs:List (List Key×Addr×Value)}(r:KT H kvs xs)(k:List Key):RelO (Ee kvs k) ((atKey xs k).map (·.2)):=by
 induction r with
 |nil=>exact A2X
 |@cons p q ps qs h t ih=>
   obtain⟨h1,_,h2⟩:=h
   by_cases e:p.1=k
   . have e':q.1=k:=h1.symm.trans e;have b:atKey (q :: qs) k=some q.2:=by simp[atKey,List.find?_cons,e']
     rw[C2 e,b];exact h2
   have e':¬ q.1=k:=λz=>e (h1.trans z);have b:atKey (q :: qs) k=atKey qs k:=by simp[atKey,List.find?_cons,e']
   rw[C1 e,b];exact ih
theorem KT.repl {H:Hp} {kvs:List (List Key×V)} {xs:List (List Key×Addr×Value)} (r:KT H kvs xs) (k:List Key) {y:V} {u:Value} (ry:RelV y u) :
  KT H (kvs.map λkv=>if kv.1=k then(kv.1,y) else kv) (xs.map (putAt k u)):=by
 induction r with
 |nil=>exact .nil
 |@cons p q ps qs h t ih=>
   rw[A0U,A0U];refine .cons ?_ ih;obtain⟨h1,h2,h3⟩:=h;unfold putAt
   by_cases e:p.1=k
   . rw[A10 e,A10 (h1.symm.trans e)];exact⟨h1,h2,ry⟩
   rw[A0W e,A0W (λz=>e (h1.trans z))];exact⟨h1,h2,h3⟩
theorem KT.put {H:Hp}{kvs:List (List Key×V)}{xs:List (List Key×Addr×Value)}(r:KT H kvs xs)(k:List Key){b:Addr}{y:V}{u:Value}(hb:H b=some (.tup (k.map kV)))(ry:RelV y u) :
  KT H (Gx kvs k y) (storedH xs k b u):=by
 have e:(kvs.any λkv=>decide (kv.1=k))=(atKey xs k).isSome:=by rw[Gs,(r.val k).isSome_eq,Option.isSome_map]
 unfold Gx storedH;rw[e]
 by_cases q:(atKey xs k).isSome=true
 . rw[A10 q,A10 q];exact r.repl k ry
 rw[A0W q,A0W q];exact Paired.snoc r ⟨rfl,hb,ry⟩
theorem KT.keeps {H H':Hp}{kvs:List (List Key×V)}{xs:List (List Key×Addr×Value)}(r:KT H kvs xs)(ht:∀ b ys,H b=some (.tup ys)->H' b=some (.tup ys)):KT H' kvs xs:=
 Paired.mapP r λ_ _ z=>⟨z.1,ht _ _ z.2.1,z.2.2⟩
section
variable {P:Program}{w:World}{H:Hp}{h:Heap}{a:Addr}
theorem av2 {u:HO}(ok:HOk P w H h)(e:Rd H a u):ObjOk P w H h a u:=e.ok ok
theorem Xj {kvs:List (Key×V)}(ok:HOk P w H h)(e:Rd H a (.dK kvs)):kvs.length<=sizeLine/\(a==sysModules)=false/\∃ vs,KV kvs vs/\h.DictOf (B7 P w) a vs:=
 show ObjOk P w H h a (.dK kvs) from av2 ok e
theorem Ui {kvs:List (Key×V)}(ok:HOk P w H h)(e:H a=some (.dK kvs)):kvs.length<=sizeLine/\(a==sysModules)=false/\∃ vs,KV kvs vs/\h.DictOf (B7 P w) a vs:=Xj ok (.inl e)
theorem Ph {ks:List Key}(ok:HOk P w H h)(e:H a=some (.tup (ks.map kV))):(tupleKind (B7 P w)).is h ks a:=by obtain⟨_,its,r,o,h1,h2,⟨n,h3⟩,_⟩:=(show ObjOk P w H h a (.tup (ks.map kV)) from ok a _ e);exact⟨o,its.toArray,n,h1,h2,h3,by simpa using Nf r⟩
theorem Tq {kvs:List (List Key×V)}(ok:HOk P w H h)(e:Rd H a (.dT kvs)):kvs.length<=sizeLine/\(a==sysModules)=false /\
  ∃ xs,KT H kvs xs/\h.DictOfH (tupleKind (B7 P w)) a xs:=by
 obtain⟨z,y,xs,r,o,es,ep,h1,h2,h3,h4,h5⟩:=(show ObjOk P w H h a (.dT kvs) from av2 ok e);refine⟨z,y,xs,r,o,es,ep,h1,h2,h3,h4,λx hx=>?_,h5⟩
 have all:∀ {l:List (List Key×V)} {m:List (List Key×Addr×Value)},KT H l m->∀ x∈m,(tupleKind (B7 P w)).is h x.1 x.2.1:=by
  intro l m q
  induction q with
  |nil=>intro x hx;exact nomatch hx
  |@cons p q ps qs hq t ih=>
    intro x hx;rcases A0N.mp hx with e|hx
    . subst e;exact Ph ok (by rw[<- hq.1];exact hq.2.1)
    exact ih x hx
 exact all r x hx
theorem aF5 {kvs:List (List Key×V)}(ok:HOk P w H h)(e:H a=some (.dT kvs)):kvs.length<=sizeLine/\(a==sysModules)=false /\
  ∃ xs,KT H kvs xs/\h.DictOfH (tupleKind (B7 P w)) a xs:=Tq ok (.inl e)
end
def DGet (H:Hp)(a:Addr)(y:V)(r:Option V):Prop:=
 (∃ kvs k,Rd H a (.dK kvs)/\y=kV k/\r=Ee kvs k)\/∃ kvs k b,Rd H a (.dT kvs)/\y = .ref b/\H b=some (.tup (k.map kV))/\r=Ee kvs k
def DPut (H:Hp)(a:Addr)(y v:V)(H':Hp):Prop:=
 (∃ kvs k,H a=some (.dK kvs)/\y=kV k/\kvs.length<sizeLine/\H'=upd H a (.dK (Gx kvs k v))) \/
 ∃ kvs k b,H a=some (.dT kvs)/\y = .ref b/\H b=some (.tup (k.map kV))/\kvs.length<sizeLine/\H'=upd H a (.dT (Gx kvs k v))
theorem DGet.k {H:Hp}{a:Addr}{kvs:List (Key×V)}{k:Key}(e:H a=some (.dK kvs)):DGet H a (kV k) (Ee kvs k):=.inl ⟨kvs,k,.inl e,rfl,rfl⟩
theorem DPut.k {H:Hp}{a:Addr}{kvs:List (Key×V)}{k:Key}{v:V}(e:H a=some (.dK kvs))(hl:kvs.length<sizeLine):DPut H a (kV k) v (upd H a (.dK (Gx kvs k v))):=.inl ⟨kvs,k,e,rfl,hl,rfl⟩
theorem DPut.t {H:Hp}{a b:Addr}{kvs:List (List Key×V)}{k:List Key}{v:V}(e:H a=some (.dT kvs))(eb:H b=some (.tup (k.map kV)))(hl:kvs.length<sizeLine) :
  DPut H a (.ref b) v (upd H a (.dT (Gx kvs k v))):=.inr ⟨kvs,k,b,e,rfl,eb,hl,rfl⟩
section
variable {X:Cx}{pins:List (Addr×Obj)}{σ:St}{H:Hp}{s:Shared}{a:Addr}{y v:V}{u r:Value}{o:Option V}{A:Around}{E:Value->Shared->Prop}
theorem Inv.big (I:Inv X pins σ H s):sysModules<s.heap.objs.size:=by have h:mainGlobals<s.heap.objs.size:=(I.mod.glob.keeps I.bk).lt;exact A3V nofun h
theorem Ys {Q:Value->Shared->Prop}(hu:A.units+1<cLine)(I:Inv X pins σ H s)(g:DGet H a y (some v))(ry:RelV y u)(h:∀ w' s',Inv X pins σ H s'->RelV v w'->Q w' s') :
  wpAny (model X.prog X.w) A (getItem (.ref a) u) Q E s:=by
 rcases g with ⟨kvs,k,e,ey,l⟩|⟨kvs,k,b,e,ey,eb,l⟩
 . subst ey;obtain⟨z,hd,vs,rel,dd⟩:=Xj I.hok e;obtain⟨w',hw,rw'⟩:=RelO.some_of (v:=v) (o:=valueAt vs k) (by rw[l];exact rel.val k);exact wpAny_getItem_of (Vm ry) dd.mapOf hw (h w' _ (I.tok _) rw')
 subst ey
 cases (show u=Value.ref b from ry);obtain⟨z,hd,xs,rel,dd⟩:=Tq I.hok e;obtain⟨w',hw,rw'⟩:=RelO.some_of (v:=v) (o:=(atKey xs k).map (·.2)) (by rw[l];exact rel.val k);obtain⟨p,hp,hp2⟩:=A42.mp hw;refine wpAny_getItem_heap (A3W hu) (Ph I.hok eb) dd hp ?_;rw[hp2];exact h w' _ (I.tok _) rw'
theorem d_in {Q:Value->Shared->Prop}(hu:A.units+1<cLine)(I:Inv X pins σ H s)(g:DGet H a y o)(ry:RelV y u)(h:∀ s',Inv X pins σ H s'->Q (.bool o.isSome) s') :
  wpAny (model X.prog X.w) A (compareOp .In u (.ref a)) Q E s:=by
 rcases g with ⟨kvs,k,e,ey,l⟩|⟨kvs,k,b,e,ey,eb,l⟩
 . subst ey;obtain⟨z,hd,vs,rel,dd⟩:=Xj I.hok e;refine wpAny_in_of (Vm ry) hd dd.mapOf ?_;rw[<- (rel.val k).isSome_eq,<- l];exact h _ (I.tok _)
 subst ey
 cases (show u=Value.ref b from ry);obtain⟨z,hd,xs,rel,dd⟩:=Tq I.hok e;refine wpAny_in_heap (A3W hu) (Ph I.hok eb) hd dd ?_;have q:=(rel.val k).isSome_eq;rw[Option.isSome_map] at q;rw[<- q,<- l];exact h _ (I.tok _)
theorem an3 {Q:Value->Shared->Prop}(hu:A.units+1<cLine)(I:Inv X pins σ H s)(g:DGet H a y o)(ry:RelV y u)(h:∀ s',Inv X pins σ H s'->Q (.bool (!o.isSome)) s') :
  wpAny (model X.prog X.w) A (compareOp .NotIn u (.ref a)) Q E s:=by
 rcases g with ⟨kvs,k,e,ey,l⟩|⟨kvs,k,b,e,ey,eb,l⟩
 . subst ey;obtain⟨z,hd,vs,rel,dd⟩:=Xj I.hok e;refine wpAny_notIn_of (Vm ry) hd dd.mapOf ?_;rw[<- (rel.val k).isSome_eq,<- l];exact h _ (I.tok _)
 subst ey
 cases (show u=Value.ref b from ry);obtain⟨z,hd,xs,rel,dd⟩:=Tq I.hok e;refine wpAny_notIn_heap (A3W hu) (Ph I.hok eb) hd dd ?_;have q:=(rel.val k).isSome_eq;rw[Option.isSome_map] at q;rw[<- q,<- l];exact h _ (I.tok _)
theorem Qu {h':Heap}{t':Nat}{ob:HO}(I:Inv X pins σ H s)(mu:Mut (H a))(hs:Heap.SameBut a s.heap h')(he:∃ q,h'.get? a=some q)(new:ObjOk X.prog X.w (upd H a ob) h' a ob) :
  Inv X pins σ (upd H a ob) {s with heap:=h',toks:=t'}:=
 I.write (x:=a) (e:=a) mu (.inl rfl) (λb q hb z=>(hs.2 b hb).trans z) he new
theorem Vs {P:Program}{w:World}{H':Hp}{h':Heap}{kvs:List (Key×V)}{vs:List (Key×Value)}(z:kvs.length<=sizeLine)(hd:(a==sysModules)=false)(rel:KV kvs vs)(dd:h'.DictOf (B7 P w) a vs) :
  ObjOk P w H' h' a (.dK kvs):=⟨z,hd,vs,rel,dd⟩
theorem a51 {H':Hp}{Q:Unit->Shared->Prop}(hu:A.units+1<cLine)(I:Inv X pins σ H s)(g:DPut H a y v H')(ry:RelV y u)(rv:RelV v r)(h:∀ s',Inv X pins σ H' s'->Q () s') :
  wpAny (model X.prog X.w) A (setItem (.ref a) u r) Q E s:=by
 rcases g with ⟨kvs,k,e,ey,l,eH⟩|⟨kvs,k,b,e,ey,eb,l,eH⟩
 . subst ey eH;obtain⟨z,hd,vs,rel,dd⟩:=Ui I.hok e;have hz:vs.length<=sizeLine:=by rw[<- rel.length];exact z
   have hl:(Gx kvs k v).length<=sizeLine:=by have:=I0 kvs k v;omega
   refine wpAny_setItem_pairs (hsz:=hz) (Vm ry) dd λh' dd' hs=>h _ ?_;have he:∃ q,h'.get? a=some q:=let ⟨q,_,_,hq,_⟩:=dd';⟨q,hq⟩;exact Qu I (by rw[e];exact A2X) hs he (Vs hl hd (rel.put k rv) dd')
 subst ey eH
 cases (show u=Value.ref b from ry);obtain⟨z,hd,xs,rel,dd⟩:=aF5 I.hok e;have hz:xs.length<=sizeLine:=by rw[<- A39 rel];exact z
 have hl:(Gx kvs k v).length<=sizeLine:=by have:=I0 kvs k v;omega
 refine wpAny_setItem_heap (hsz:=hz) (A3W hu) (Ph I.hok eb) dd λh' dd' hs=>h _ ?_;obtain⟨q,es,ep,hq,h2,h3,h4,_,h5⟩:=dd';refine Qu I (by rw[e];exact A2X) hs ⟨q,hq⟩ ⟨hl,hd,_,(rel.put k eb rv).keeps λc ys ec=>?_,q,es,ep,hq,h2,h3,h4,h5⟩;rw[By (ne_of ec e (λz=>nomatch z))];exact ec
end
section
variable {X:Cx}{pins:List (Addr×Obj)}{σ:St}{H:Hp}{s:Shared}{a:Addr}{kvs:List (Key×V)}{k:Key}{u:Value}{A:Around}{E:Value->Shared->Prop}
theorem aI4 {Q:Value->Shared->Prop}(I:Inv X pins σ H s)(e:Rd H a (.dK kvs))(h:∀ t s',Inv X pins σ H s'->Q (.int kvs.length t) s'):wpAny (model X.prog X.w) A (call (.builtin "len") [.ref a]) Q E s:=by obtain⟨z,hd,vs,rel,dd⟩:=Xj I.hok e;refine call_len_dict hd dd (by rw[<- rel.length];rw[A1N] at z;omega) ?_;rw[<- rel.length];exact h _ _ (I.tok _)
end
theorem Vd {X:Cx}{pins:List (Addr×Obj)}{σ:St}{H:Hp}{s:Shared}{a:Addr}{y:V}{o:Option V}(I:Inv X pins σ H s)(g:DGet H a y o):s.TypeIs (.ref a) "dict":=by
 rcases g with ⟨kvs,k,e,_,_⟩|⟨kvs,k,b,e,_,_,_⟩
 . obtain⟨_,_,vs,_,dd⟩:=Xj I.hok e;exact dd.typeIs
 obtain⟨_,_,xs,_,dd⟩:=Tq I.hok e;exact dd.typeIs
def ax6 (td ty tv:TE):TS:=λD σ H=>tv σ H λv H1=>td σ H1 λx H2=>ty σ H2 λy H3=>∃ a H4,x = .ref a/\DPut H3 a y v H4/\D.nx σ H4
section
variable {X:Cx}{o i e value:Expr}{pos pos' tpos:Pos}{td ty tv:TE}
theorem Im (hu:X.A.units+1<cLine)(ho:PE X o td)(hi:PE X i ty)(hv:PE X value tv)(hs:swapsWith value (some (.Subscript o i pos')) pos.line X.env=pure false) :
  PS X (.Assign [.Subscript o i pos'] value pos) (ax6 td ty tv):=by
 intro pins s σ H D I h;refine wpAny_Assign_Subscript (thn (hv pins s σ H _ I h) λr s1 ⟨v,H1,I1,rv,q1⟩=>thn (ho pins s1 σ H1 _ I1 q1) λu s2 ⟨x,H2,I2,rx,q2⟩=>thn (hi pins s2 σ H2 _ I2 q2) λiv s3 ⟨y,H3,I3,ry,a,H4,ex,g,q3⟩=>?_) hs;subst ex;obtain rfl:u=Value.ref a:=rx;exact a51 hu I3 g ry rv λs4 I4=>⟨σ,H4,I4,q3⟩
end
theorem X0 {P:Program}{w:World}{H:Hp}(h:Heap)(hb:sysModules<h.objs.size):ObjOk P w H (h.push {cls:=.type "dict",data:=.dict #[]}) h.objs.size (.dK []):=
 ⟨A2C _,A1X.mpr (Ne.symm (A1C hb)),[],.nil,Heap.DictOf.new h⟩
theorem a93 {P:Program}{w:World}{H:Hp}(h:Heap)(hb:sysModules<h.objs.size):ObjOk P w H (h.push {cls:=.type "dict",data:=.dict #[]}) h.objs.size (.dT []):=
 ⟨A2C _,A1X.mpr (Ne.symm (A1C hb)),[],.nil,_,#[],0,A15 _ rfl,⟨rfl,rfl,rfl⟩,rfl,rfl,List.nodup_nil⟩
def ah8:TE:=λ_ H Q=>∀ p,H p=none->Q (.ref p) (upd H p (.dK []))
def af9:TE:=λ_ H Q=>∀ p,H p=none->Q (.ref p) (upd H p (.dT []))
section
variable {X:Cx}{pos:Pos}
theorem Qn:PE X (.Dict [] [] pos) ah8:=λpins s σ H Q I h=>wpAny_Dict_empty ⟨.ref s.heap.objs.size,_,I.laid (a:=s.heap.objs.size) (o:=.dK []) (t':=s.toks) (λ_ _ q=>A06 _ q) (A05 _) (X0 s.heap I.big),rfl,h _ (I.hok.fresh (A05 _))⟩
theorem a92:PE X (.Dict [] [] pos) af9:=λpins s σ H Q I h=>wpAny_Dict_empty ⟨.ref s.heap.objs.size,_,I.laid (a:=s.heap.objs.size) (o:=.dT []) (t':=s.toks) (λ_ _ q=>A06 _ q) (A05 _) (a93 s.heap I.big),rfl,h _ (I.hok.fresh (A05 _))⟩
end
def Mi:List (TE×TE)->St->Hp->(List (V×V)->Hp->Prop)->Prop
 | [],_,H,Q=>Q [] H
 | (tk,tv) :: r,σ,H,Q=>tk σ H λx H1=>tv σ H1 λy H2=>Mi r σ H2 λps H3=>Q ((x,y) :: ps) H3
abbrev VV:List (V×V)->List (Value×Value)->Prop:=Paired λp q=>RelV p.1 q.1/\RelV p.2 q.2
def PPs (X:Cx)(pos:Pos)(keys:List (Option Expr))(values:List Expr)(trs:List (TE×TE)):Prop:=
 ∀(pins:List (Addr×Obj)) (s:Shared) (σ:St) (H:Hp) (Q:List (V×V)->Hp->Prop),Inv X pins σ H s->Mi trs σ H Q ->
  wpAny (model X.prog X.w) X.A (evalPairs (pairTrees keys values X.env pos)) (λvs s'=>∃ ps H',Inv X pins σ H' s'/\VV ps vs/\Q ps H') X.xe s
theorem Zy {X:Cx}{pos:Pos}:PPs X pos [] [] []:=λpins s σ H Q I h=>pairTrees_nil_walk ⟨[],H,I,.nil,h⟩
theorem Kq {X:Cx}{pos:Pos}{k v:Expr}{ks:List (Option Expr)}{vs:List Expr}{tk tv:TE}{trs:List (TE×TE)}(hk:PE X k tk)(hv:PE X v tv)(hr:PPs X pos ks vs trs) :
  PPs X pos (some k :: ks) (v :: vs) ((tk,tv) :: trs):=λpins s σ H Q I h=>
 pairTrees_cons_walk (thn (hk pins s σ H _ I h) λu s1 ⟨x,H1,I1,rx,q1⟩=>thn (hv pins s1 σ H1 _ I1 q1) λw2 s2 ⟨y,H2,I2,ry,q2⟩=>thn (hr pins s2 σ H2 _ I2 q2) λws s3 ⟨ps,H3,I3,rel,q3⟩=>⟨(x,y) :: ps,H3,I3,.cons ⟨rx,ry⟩ rel,q3⟩)
def Gg (kvs more:List (Key×V)):List (Key×V):=more.foldl (λacc kv=>Gx acc kv.1 kv.2) kvs
theorem KV.merge:∀ {more:List (Key×V)} {rs:List (Key×Value)} {kvs:List (Key×V)} {vs:List (Key×Value)},KV more rs->KV kvs vs->KV (Gg kvs more) (merged vs rs):=by
 intro more rs kvs vs r;unfold KV at r
 induction r generalizing kvs vs with
 |nil=>intro q;exact q
 |@cons p q ps qs h t ih=>
   intro r0
   have e:KV (Gx kvs p.1 p.2) (stored vs q.1 q.2):=by have:=r0.put p.1 h.2;rw[<- h.1];exact this
   exact ih e
theorem G7:∀(more kvs:List (Key×V)),(Gg kvs more).length<=kvs.length+more.length
 | [],kvs=>by show kvs.length<=kvs.length+0;omega
 |p :: r,kvs=>by have h1:=G7 r (Gx kvs p.1 p.2);have h2:=I0 kvs p.1 p.2;show(Gg (Gx kvs p.1 p.2) r).length<=_;rw[A0G];omega
theorem Pg {P:Program}{w:World}:∀ {kvs:List (Key×V)} {ws:List (Value×Value)},VV (kvs.map λkv=>(kV kv.1,kv.2)) ws->∃ rs,Carries (B7 P w) ws rs/\KV kvs rs
 | [], _,r=>by rw[List.map_nil] at r;cases r;exact⟨[],A2X,.nil⟩
 |p :: kvs,_,r=>by
   rw[A0U] at r
   cases r with
   |@cons a b as bs h t=>obtain⟨rs,c,q⟩:=Pg (P:=P) (w:=w) t;obtain⟨b1,b2⟩:=b;exact⟨(p.1,b2) :: rs,⟨Vm h.1,rfl,c⟩,.cons ⟨rfl,h.2⟩ q⟩
def aC7 (trs:List (TE×TE)):TE:=fun σ H Q=>∀ p,H p=none->Mi trs σ (upd H p (.dK [])) λps H2=>H2 p=some (.dK [])/\∃ kvs:List (Key×V),ps=kvs.map (λkv=>(kV kv.1,kv.2))/\kvs.length<=15/\Q (.ref p) (upd H2 p (.dK (Gg [] kvs)))
theorem Zn {X:Cx}{pos:Pos}{keys:List (Option Expr)}{values:List Expr}{trs:List (TE×TE)}(h:PPs X pos keys values trs)(hall:keys.all (·.isSome)=true)(hl:keys.length=values.length)(h0:keys≠[])
  (h15:keys.length<=15):PE X (.Dict keys values pos) (aC7 trs):=by
 intro pins s σ H Q I q;have hn:=I.hok.fresh (A05 s.heap.objs.size);have I1:=I.laid (a:=s.heap.objs.size) (o:=.dK []) (h':=s.heap.push {cls:=.type "dict",data:=.dict #[]}) (t':=s.toks) (λ_ _ q=>A06 _ q) (A05 _) (X0 s.heap I.big);refine wpAny_Dict_walk (knd:=B7 X.prog X.w) hall hl h0 h15 (thn (h pins _ σ _ _ I1 (q _ hn)) λws s2 ⟨ps,H2,I2,rel,e,kvs,ep,lk,q2⟩=>?_);subst ep;obtain⟨rs,c,rk⟩:=Pg (P:=X.prog) (w:=X.w) rel;obtain⟨z,hd,vs0,r0,dd⟩:=Ui I2.hok e
 cases r0;refine⟨rs,c,dd,λh' dd' hs=>⟨.ref s.heap.objs.size,_,?_,rfl,q2⟩⟩
 have hz:(Gg [] kvs).length<=sizeLine:=by have h1:=G7 kvs [];rw[A2N] at h1;rw[A1N];omega
 have he:∃ q,h'.get? s.heap.objs.size=some q:=let ⟨q,_,_,hq,_⟩:=dd';⟨q,hq⟩;exact Qu I2 (by rw[e];exact A2X) hs he (Vs hz hd (rk.merge .nil) dd')
section
variable {X:Cx}{pins:List (Addr×Obj)}{σ:St}{H:Hp}{s:Shared}{a:Addr}{y d:V}{u r:Value}{o:Option V}{A:Around}{E:Value->Shared->Prop}
end
section
variable {X:Cx}{o e f:Expr}{apos cpos:Pos}{td ty tx:TE}
end
section
variable {X:Cx}{pins:List (Addr×Obj)}{σ:St}{H:Hp}{s:Shared}{a:Addr}{kvs:List (Key×V)}{A:Around}{E:Value->Shared->Prop}
end
section
variable {X:Cx}{pins:List (Addr×Obj)}{σ:St}{H:Hp}{s:Shared}{a:Addr}{y:V}{u:Value}{A:Around}{E:Value->Shared->Prop}
end
end L2
namespace Att
open PySem PySem.W PySem.Calls PyProof.Rows
theorem Mj {P:Params}{h:Heap}:∀(ns:List Int) (vs:List Value),WellAll P h vs (ns.map WData.int)->IntsAre vs ns:=by
 intro ns
 induction ns with
 |nil=>
   intro vs w;rw[List.map_nil] at w
   cases w;exact .nil
 |cons n ns ih=>
   intro vs w;rw[A0U] at w
   cases w with
   |cons a b=>cases a;exact .cons _ _ (ih _ b)
theorem a43 {l:OpenLaw}{n:Nat}(hn:l.most=some n){P:Params}{h:Heap}{args:List WData}{vals:List Value}
  (hpre:l.row.toRowW.claim.pre args=true) (hwl:WellAll P h vals args) :
  ∃ a vs ns,vals=[Value.ref a]/\args=[WData.list (ns.map WData.int)]/\h.get? a=some {cls:=.type "list",data:=.seq vs.toArray}/\IntsAre vs ns/\ns.length<=n:=by
 have hsh:WShape.hasAll [] args [.list .int]=true:=(pre_splitW hpre).1;have hc:l.pre.holds [] {args:=args}=true:=(pre_splitW hpre).2;obtain⟨d,r,rfl,h1,h2⟩:=hasAllW_cons hsh;obtain rfl:=hasAllW_nil h2;obtain⟨xs,rfl,h3⟩:=hasW_list h1;obtain⟨ns,rfl⟩:=items_int h3
 have hlen:ns.length<=n:=by
  unfold OpenLaw.pre at hc
  have h4:(WTm.not (.lt (.lit (.int (n:Int))) (.len (.arg 0)))).holds [] {args:=[.list (ns.map .int)]}=true:=by have h4:=(holds_andW hc).1;rw[hn] at h4;exact h4
  have h5:=condW_of h4 (w_not (w_lt w_lit (w_len_list (w_arg rfl))));rw[A00] at h5;refine Nat.le_of_not_lt λq=>?_;have q':(n:Int)<((ns.length:Nat):Int):=by omega
  first
   | (rw[A0H q'] at h5;exact absurd h5 nofun)
   | (simp at h5;omega)
 cases hwl with
 |cons w1 w2=>
   cases w2
   cases w1 with
   |list ho hall=>exact⟨_,_,ns,rfl,rfl,ho,Mj ns _ hall,hlen⟩
theorem a07 (l:OpenLaw)(args:List WData):l.row.toRowW.claim.post args (.bool true) args=true:=
 postW_of (r:=l.row.toRowW) (X:=(true==true))
  (show WShape.has [] (.bool true) .bool=true by first | rfl | decide | simp[WShape.has,WShape.arms,WShape.armsAll])
  (show(WTm.eq .res (.lit (.bool true))).value [] {args:=args,res:=some (.bool true),after:=args}=some (.bool (true==true)) from w_eq_bool (w_res rfl) w_lit) rfl
theorem attach_call {l:OpenLaw}{n:Nat}{q:Program}{loose:List Str}{XP:(Str->Option Value)->Heap->Prop}{YP:World->Heap->Prop}{d:DefRec}
  (hn:l.most=some n) (hdf:d.params.defaults=[])
  (call:∀(w:World) (s₀ s₁:Shared) (mg mb:Str->Option Value) (fa:Addr) (o:Obj) (pm cd doc:Value) (a:Addr) (vs:List Value) (ns:List Int),
   Ground q loose [] XP w s₀ mg mb s₁.heap->YP w s₁.heap ->
   s₁.heap.get? fa=some o->o.data = .func (docDef d.name d.params d.body d.scope pm cd doc)->s₁.heap.CodeRec cd d.name->mg d.name=some (.ref fa) ->
   s₁.heap.get? a=some {cls:=.type "list",data:=.seq vs.toArray}->IntsAre vs ns->ns.length<=n->s₁.gens = #[] ->
   codeAny (model l.prog w) callerA (.call (.ref fa) ⟨[.ref a],[]⟩) (λr s'=>r = .ok (.ret (.bool true))/\OldK s₁.heap s'.heap/\s'.os=s₁.os/\AllBare s'.gens) s₁) :
  WalkO q loose XP YP l.row.toRowW d [] (λf vs=>PySem.call f vs):=by
 intro w s₀ s₁ mg mb G Y fa o pm cd doc dV kV ho hd hcd hD hmg hg args vals as hpre hlay hrd hwl hlo;obtain rfl:dV = .none:=Dflts.none hD hdf;obtain rfl:kV = .none:=Dflts.noKw hD;obtain⟨a,vs,ns,rfl,rfl,hobj,hints,hlen⟩:=a43 hn hpre hwl;refine enter_call (codeAny_mono (call w s₀ s₁ mg mb fa o pm cd doc a vs ns G Y ho (fd_plain hd) hcd hmg hobj hints hlen hg) λr s' hq=>?_);obtain⟨rfl,h2,h3,h4⟩:=hq;exact⟨.inl ⟨.bool true,.bool true,[],rfl,λ_=>rfl,.bool true,a07 l _,λ_=>⟨A2L,λ_ hm=>(nomatch hm)⟩⟩,h2,h3,h4⟩
section
variable {prog:Program}{w:World}{A:Around}{E:Value->Shared->Prop}{s:Shared}{K:Frag}
end
end Att
namespace L2
open PySem PySem.Spec PyProof.Rows
theorem Rw:∀ {vs:List Value} {ns:List Int},IntsAre vs ns->Vals (ns.map V.int) vs
 |_,_,.nil=>.nil
 |_,_,.cons n t h=>.cons ⟨t,rfl⟩ (Rw h)
def aG6 (H:Hp):Prop:=∀ b,H b=none\/∃ o xs,H b=some (.frz o (.lst xs))
theorem aa6 {P:Program}{w:World}{K:W.Frag}{mg mb:Str->Option Value}{CX:CXT}{k:Nat}{fa a:Addr}{fd:FuncData}{x:Str}{sp:Sp}{s₁:Shared}{vs:List Value}{ns:List Int}
  (KX:K.In s₁.heap) (hns:s₁.heap.Ns mainGlobals mg) (hb:s₁.heap.Ns builtinsNs mb) (hbb:∀ x:Str,x ≠ "__name__" -> mb x=bootBuiltins x) (hlim:s₁.heap.NoLimit) (hg:s₁.gens = #[])
  (ha:s₁.heap.get? a=some {cls:=.type "list",data:=.seq vs.toArray}) (hi:IntsAre vs ns) (hl:ns.length<=sizeLine) (hr:Room k callerA)
  (F:∀ base:Heap,K.In base->base.Ns mainGlobals mg->FnOk P w K mg base CX k fa fd [x] sp) (hbind:∀(s:Shared) (u:Value),BindsTo s fd ⟨[u],[]⟩ [(x,u)])
  (hsp:∀ H:Hp,aG6 H->SqL K H a (ns.map V.int)->sp [.ref a] H (λv _=>v = .bl true) λ_ _ _=>False)
  (hCX:∀ H e s',CX [] H s₁ (λ_ _ _=>False) e s'->False) :
  codeAny (model P w) callerA (.call (.ref fa) ⟨[.ref a],[]⟩) (λr s'=>r = .ok (.ret (.bool true))/\OldK s₁.heap s'.heap/\s'.os=s₁.os/\AllBare s'.gens) s₁:=by
 have rv:=Rw hi;have lenV:=hi.length
 have core:∀ H:Hp,aG6 H->SqL K H a (ns.map V.int)->HOk P w H s₁.heap->(∀ b,H b≠none->b=a)->(H a≠none->K.lookup a=none) ->
   codeAny (model P w) callerA (.call (.ref fa) ⟨[.ref a],[]⟩) (λr s'=>r = .ok (.ret (.bool true))/\OldK s₁.heap s'.heap/\s'.os=s₁.os/\AllBare s'.gens) s₁:=by
  intro H hO hS hok hA hK;have base_of:∀ {b:Addr} {o:Obj},s₁.heap.get? b=some o->H b=none->(ab8 s₁.heap H).get? b=some o:=λe n=>aa0 e n
  have noA:∀ {b:Addr} {o:Obj} {es:Array DictEntry} {ep:Nat},s₁.heap.get? b=some o->o.data = .dict es ep->H b=none:=fun {b o es ep} e d=>by
   cases q:H b with
   |none=>rfl
   |some u=>
     have e':b=a:=hA b (by rw[q];simp);subst e';rw[ha] at e;cases e;have d':Data.seq vs.toArray _=Data.dict es ep:=d
     cases d'
  have nsK:∀ {b:Addr} {m:Str->Option Value},s₁.heap.Ns b m->(ab8 s₁.heap H).Ns b m:=fun {b m} ⟨o,es,ep,e,d,r⟩=>⟨o,es,ep,base_of e (noA e d),d,r⟩
  have hKb:K.In (ab8 s₁.heap H):=λb o e=>base_of (KX b o e) (by
   cases q:H b with
   |none=>rfl
   |some u=>have e':b=a:=hA b (by rw[q];simp);subst e';rw[hK (by rw[q];simp)] at e;cases e)
  have hM:Mod K mg (ab8 s₁.heap H):=⟨hKb,nsK hns,⟨mb,nsK hb,hbb⟩,let ⟨mc,h1,h2⟩:=hlim;⟨mc,nsK h1,h2⟩⟩;have e0:Env0 P w K mg (ab8 s₁.heap H) callerA [] s₁ H:=⟨rfl,hM,λb o e=>am6 e,Nat.le_of_eq (Zs _ _),trivial,λb hb=>absurd (show b∈([]:List Addr) from hb) (by simp),hok,.of_eq hg⟩;refine codeAny_mono ((F _ hKb (nsK hns)).run callerA [] s₁ H ⟨[.ref a],[]⟩ [.ref a] [.ref a] _ _ hr e0 (hbind s₁ (.ref a)) (.cons rfl .nil) (hsp H hO hS)) λr s' h=>?_
  cases r with
  |error e=>exact(hCX H e s' h).elim
  |ok fl=>
    cases fl with
    |next=>exact False.elim h
    |brk=>exact False.elim h
    |cont=>exact False.elim h
    |ret u=>
      obtain⟨v,H',os,bare,un,hok',r',q⟩:=h;have q':v = .bl true:=q;subst q';obtain rfl:u=Value.bool true:=r';refine⟨rfl,OldK.of_keep λb o e=>?_,os,bare⟩
      cases q:H b with
      |none=>exact un.keep b o e q (by intro z;exact absurd (show b∈([]:List Addr) from z) (by simp)) (by simp)
      |some u=>
        rcases hO b with z|⟨ob,xs,z⟩
        . rw[q] at z;cases z
        have z2:=un.frzs b ob _ z;obtain⟨e1,_⟩:=hok b _ z;obtain⟨e2,_⟩:=hok' b _ z2;rw[e] at e1;cases e1;exact e2
 cases hk:K.lookup a with
 |some o=>
   have e:=KX a o hk;rw[ha] at e
   cases e;refine core (λ_=>none) (λ_=>.inl rfl) (.inr ⟨_,vs.toArray,_,hk,rfl,rfl,rfl,by rw[List.size_toArray,lenV];exact hl,by simpa using rv⟩) (λb u z=>by have z':(none:Option HO)=some u:=z;cases z') (λb z=>absurd rfl z) λz=>absurd rfl z
 |none=>
   refine core (λb=>if b=a then some (.frz {cls:=.type "list",data:=.seq vs.toArray} (.lst (ns.map V.int))) else none) (λb=>?_) (.inl (.inr ⟨{cls:=.type "list",data:=.seq vs.toArray},A10 rfl⟩)) (λb u z=>?_) (λb z=>?_) λ_=>hk
   . by_cases hb:b=a
     . exact .inr ⟨_,_,A10 hb⟩
     exact .inl (A0W hb)
   . by_cases hb:b=a
     . have z':=(A10 hb).symm.trans z
       cases z';subst hb;exact⟨ha,by rw[A00];exact hl,vs,_,rv,ha⟩
     have z':=(A0W hb).symm.trans z
     cases z'
   by_cases hb:b=a
   . exact hb
   exact absurd (A0W hb) z
theorem walk_of {l:W.OpenLaw}{n k:Nat}{q:Program}{loose:List Str}{XP:(Str->Option Value)->Heap->Prop}{YP:World->Heap->Prop}{d:DefRec}{K:Params->W.Frag}{CX:World->CXT}{sp:World->Sp}{x:Str}
  (hn:l.most=some n) (hn2:n<=sizeLine) (hdf:d.params.defaults=[]) (hr:Room k callerA)
  (hY:∀(w:World) (h:Heap),YP w h->(K w.params).In h)
  (F:∀(w:World) (mg:Str->Option Value) (fa:Addr) (h:Heap),(K w.params).In h->h.Ns mainGlobals mg->mg d.name=some (.ref fa) ->
   ∃ fd:FuncData,(∀(s:Shared) (u:Value),BindsTo s fd ⟨[u],[]⟩ [(x,u)]) /\
    ∀ base:Heap,(K w.params).In base->base.Ns mainGlobals mg->FnOk l.prog w (K w.params) mg base (CX w) k fa fd [x] (sp w))
  (hsp:∀(w:World) (H:Hp) (a:Addr) (ns:List Int),ns.length<=n->aG6 H->SqL (K w.params) H a (ns.map V.int)->sp w [.ref a] H (λv _=>v = .bl true) λ_ _ _=>False)
  (hCX:∀(w:World) (H:Hp) (s:Shared) (e:Value) (s':Shared),CX w [] H s (λ_ _ _=>False) e s'->False) :
  W.WalkO q loose XP YP l.row.toRowW d [] (λf vs=>PySem.call f vs):=by
 refine Att.attach_call hn hdf λw s₀ s₁ mg mb fa o pm cd doc a vs ns G Y ho hd hcd hmg hobj hints hlen hg=>?_;have KX:=hY w _ Y;obtain⟨fd,hb,hF⟩:=F w mg fa _ KX G.T.g hmg;exact aa6 KX G.T.g G.T.b G.T.builtins G.T.nolimit hg hobj hints (A0B hlen hn2) hr hF hb (λH hO hS=>hsp w H a ns hlen hO hS) λH e s'=>hCX w H s₁ e s'
def Uw (s:Stmt)(j:Nat):Stmt:=match s with
 |.ClassDef _ _ _ body _ _ _ _ _ _ _=>body.getD j (.Pass ⟨0,0,0,0⟩)
 |_=>.Pass ⟨0,0,0,0⟩
def Af (s:Stmt):Arguments:=match s with
 |.FunctionDef _ a _ _ _ _ _ _ _ _=>a
 |_=>{posonlyargs:=[],args:=[],vararg:=none,kwonlyargs:=[],kw_defaults:=[],kwarg:=none,defaults:=[]}
def Ae (s:Stmt):List Stmt:=match s with
 |.FunctionDef _ _ b _ _ _ _ _ _ _=>b
 |_=>[]
def A3 (s:Stmt):Scope:=match s with
 |.FunctionDef _ _ _ _ _ _ sc _ _ _=>sc
 |_=>{kind:=.function,names:=[],isGenerator:=false,isCoroutine:=false}
abbrev CX0:CXT:=λ_ _ _ _ _ _=>False
abbrev E0:XK:=λ_ _ _=>False
theorem ap6 {X:Cx}:Oy CX0 X E0:=λ_ _ _ _ _ _ _ h=>h.elim
structure Fun (K:W.Frag)(x qual:Str)(st:Stmt)(f:Addr)(fd:FuncData):Prop where
 ex:∃(oc:Value) (od:Option Addr) (kV doc pm:Value) (an:Option Addr) (cdv ct:Value) (osl:Array (Option Value)),
  fd=W.fnOf x qual (Af st) (Ae st) (A3 st) .none kV doc pm an cdv ct/\K.lookup f=some ⟨oc,od,.func fd,osl⟩/\W.codeIn K cdv qual=true
 kp:W.keepIn K (.ref f)=true
section
variable {P:Program}{w:World}{K:W.Frag}{mg:Str->Option Value}{base:Heap}
theorem Fun.ok {x qual:Str}{st:Stmt}{f:Addr}{fd:FuncData}{N ps:List Str}{k:Nat}{sp:Sp}(F:Fun K x qual st f fd)(S:An N ps (A3 st))(len:∀ vs H Q E,sp vs H Q E->vs.length=ps.length)
  (hbody:∀(cdv:Value) (A:Around) (outer:List Env) (s:Shared) (H:Hp) (vs:List V) (Q:VK) (E:XK),Room k (A.deeper (envOfC qual (A3 st) s.heap.objs.size f cdv))->sp vs H Q E ->
   ∃ t,PSs (as0 CX0 P w K mg base N qual (A3 st) f cdv A outer s H E).nox (Ae st) t/\t {nx:=λ_ H'=>Q .non H',rt:=Q} (Rh N vs) H):FnOk P w K mg base CX0 (k+1) f fd ps sp:=by
 obtain⟨oc,od,kV,doc,pm,an,cdv,ct,osl,rfl,lk,hcd⟩:=F.ex;refine aH6 lk hcd S len λA outer s H vs Q E hr hsp=>?_;obtain⟨t,h,q⟩:=hbody cdv A outer s H vs Q E hr hsp;exact⟨t,h.nox,q⟩
theorem Fun.binds {x qual:Str}{st:Stmt}{f:Addr}{fd:FuncData}{ps:List Str}(F:Fun K x qual st f fd)
  (h:∀(kV doc pm:Value) (an:Option Addr) (cdv ct:Value) (us:List Value),us.length=ps.length->bindArgs (W.fnOf x qual (Af st) (Ae st) (A3 st) .none kV doc pm an cdv ct) ⟨us,[]⟩=pure (ps.zip us)):Binds K fd ps []:=by
 obtain⟨oc,od,kV,doc,pm,an,cdv,ct,osl,rfl,lk,hcd⟩:=F.ex;exact .all (h kV doc pm an cdv ct)
theorem B0 {x qual:Str}{st:Stmt}{f:Addr}{oc:Value}{od an:Option Addr}{osl:Array (Option Value)}{kV doc pm cdv ct:Value}(l:K.lookup f=some ⟨oc,od,.func (W.fnOf x qual (Af st) (Ae st) (A3 st) .none kV doc pm an cdv ct),osl⟩)
  (c:W.codeIn K cdv qual=true) (k:W.keepIn K (.ref f)=true):Fun K x qual st f (W.fnOf x qual (Af st) (Ae st) (A3 st) .none kV doc pm an cdv ct):=⟨⟨oc,od,kV,doc,pm,an,cdv,ct,osl,rfl,l,c⟩,k⟩
end
theorem C8 {A:Around}{k:Nat}(hr:Room k A):A.units+1<cLine:=A4O (Nat.add_le_add_left (by decide:1<=64) _) hr.units
theorem a55 {n:Nat}(h:n<=1000):n<sizeLine:=A4O h nofun
section
variable {X:Cx}
theorem pv (i:Nat){x:Str}{pos:Pos}(hN:X.N[i]? = some x:=by ac_nf)(hv:Vis X.env.scope x:=by with_unfolding_all first | exact Or.inl rfl | exact A36 (Or.inl rfl) | exact A36 (A36 rfl))(hd:(x==("__debug__":Str))=false:=by decide)
  (hcd:(x==("__classdict__":Str))=false:=by decide):PE X (.Name x pos) (aH4 i):=av3 hN hv hd hcd
end
theorem iteF {A B:Prop}(h:B):if false=true then A else B:=by rw[A0W A0O];exact h
theorem iteT {A B:Prop}(h:A):if true=true then A else B:=by rw[A10 rfl];exact h
theorem aK0 {c A B:Prop}[Decidable c](h1:c->A)(h2:¬ c->B):if c then A else B:=by
 by_cases h:c
 . rw[A10 h];exact h1 h
 rw[A0W h];exact h2 h
def Same (H H':Hp):Prop:=∀ b o,H b=some o->H' b=some o
theorem Same.refl (H:Hp):Same H H:=λ_ _ h=>h
theorem Same.trans {H H1 H2:Hp} (a:Same H H1) (b:Same H1 H2):Same H H2:=λc o h=>b c o (a c o h)
theorem Same.free {H H':Hp}(e:Same H H'){l:Addr}(h:H' l=Option.none):H l=Option.none:=by
 cases q:H l with
 |none=>rfl
 |some o=>
   rw[e l o q] at h
   cases h
theorem Same.seq {K:W.Frag}{H H':Hp}{a:Addr}{xs:List V}(e:Same H H')(h:SqL K H a xs):SqL K H' a xs:=by
 rcases h with (h|⟨o,h⟩)|h
 . exact .inl (.inl (e _ _ h))
 . exact .inl (.inr ⟨o,e _ _ h⟩)
 exact .inr h
section
variable {X:Cx}
theorem a85:CallR X (.builtin "len") (λxs H Q=>∃ a kvs,xs=[V.ref a]/\H a=some (.dK kvs)/\Q (.int kvs.length) H):=by
 intro pins s σ H xs us Q I r h;obtain⟨a,kvs,rfl,ha,q⟩:=h;obtain⟨u,rfl,ru⟩:=K7 r
 cases ru;exact aI4 I (.inl ha) λt s' I'=>⟨.int kvs.length,H,I',⟨t,rfl⟩,q⟩
end
section
variable {κ:Type}[DecidableEq κ]
theorem W9 {kvs:List (κ×V)}{k:κ}(h:Ee kvs k=none):¬ k∈kvs.map (·.1):=by intro m;obtain⟨p,hp,e⟩:=A0F.mp m;have q:(kvs.any λkv=>decide (kv.1=k))=true:=A2B.mpr ⟨p,hp,A0H e⟩;rw[Gs,h] at q;exact absurd q (by simp)
theorem Zq {kvs:List (κ×V)}{k:κ}{v:V}(h:Ee kvs k=some v):k∈kvs.map (·.1):=by
 have q:(kvs.any λkv=>decide (kv.1=k))=true:=by
  rw[Gs,h]
  all_goals rfl
 obtain ⟨p,hp,e⟩:=A2B.mp q;exact A0F.mpr ⟨p,hp,A1E e⟩
theorem Yf:∀ {l:List κ} {k:κ},l.Nodup->¬ k∈l->(l++[k]).Nodup
 | [],k,_,_=>by simp
 |a :: r,k,h,hk=>by
   obtain⟨h1,h2⟩:=A13.mp h;show(a :: (r++[k])).Nodup;refine A13.mpr ⟨λm=>?_,Yf h2 λm=>hk (A0N.mpr (A36 m))⟩;rcases A0C.mp m with q|q
   . exact h1 q
   exact hk (A0N.mpr (Or.inl (A0X.mp q).symm))
theorem am7 {kvs:List (κ×V)}{k:κ}(v:V)(hn:(kvs.map (·.1)).Nodup)(h:Ee kvs k=none):((Gx kvs k v).map (·.1)).Nodup:=by rw[Js v h,A0A];exact Yf hn (W9 h)
end
def M4 (env:Env)(names:List (Str×NameKind))(acc:List (Str×Addr)):List (Str×Addr):=
 names.foldl (λacc y=>if y.2==NameKind.free then(y.1,(env.cells.lookup y.1).getD 0) :: acc else acc) acc
theorem Oo {env:Env}{scope:Scope}(h:∀ y∈scope.names,y.2=NameKind.free->∃ c,env.cells.lookup y.1=some c):closureFor scope env=pure (M4 env scope.names []):=by
 have all:∀(names:List (Str×NameKind)) (acc:List (Str×Addr)),(∀ y∈names,y.2=NameKind.free->∃ c,env.cells.lookup y.1=some c) ->
   (forIn names acc λ(y:Str×NameKind) (cs:List (Str×Addr))=>(match y with
    | (name,kind)=>if(kind==NameKind.free)=true then do let c <- cellOf env name;pure (ForInStep.yield ((name,c) :: cs)) else pure (ForInStep.yield cs):Sem (ForInStep (List (Str×Addr)))))=(pure (M4 env names acc):Sem (List (Str×Addr))):=by
  intro names
  induction names with
  |nil=>intro acc _;rfl
  |cons y r ih=>
    intro acc hy;obtain⟨n,k⟩:=y;rw[List.forIn_cons]
    by_cases hk:k=NameKind.free
    . subst hk;obtain⟨c,hc⟩:=hy (n,.free) A0E rfl;have e:cellOf env n=pure c:=by unfold cellOf;rw[show env.cells.lookup n=some c from hc]
      have e2:M4 env ((n,NameKind.free) :: r) acc=M4 env r ((n,c) :: acc):=by unfold M4;rw[A2M];simp only[beq_self_eq_true,if_true];rw[show env.cells.lookup n=some c from hc];rfl
      rw[e2,<- ih ((n,c) :: acc) λz hz=>hy z (A09 _ hz)];simp only[beq_self_eq_true,if_true,e];rfl
    have hb:(k==NameKind.free)=false:=by simpa using hk
    have e2:M4 env ((n,k) :: r) acc=M4 env r acc:=by unfold M4;rw[A2M];simp only[hb,Bool.false_eq_true,if_false]
    rw[e2,<- ih acc λz hz=>hy z (A09 _ hz)];simp only[hb,Bool.false_eq_true,if_false];rfl
 have q:=all scope.names [] h;unfold closureFor
 first
  |exact q
  | (simp only[bind_pure];exact q)
  | (refine Eq.trans ?_ q;rfl)
theorem We {env:Env}{x:Str}{c:Addr}:∀ {names:List (Str×NameKind)} {acc:List (Str×Addr)},(∀ y∈names,y.2=NameKind.free->∃ c,env.cells.lookup y.1=some c)->(acc.lookup x=some c->env.cells.lookup x=some c) ->
  (M4 env names acc).lookup x=some c->env.cells.lookup x=some c
 | [],acc,_,ha,h=>ha h
 | (n,k) :: r,acc,hn,ha,h=>by
   have e:M4 env ((n,k) :: r) acc=M4 env r (if k==NameKind.free then(n,(env.cells.lookup n).getD 0) :: acc else acc):=rfl
   rw[e] at h;refine We (λy hy=>hn y (A09 _ hy)) (λq=>?_) h
   by_cases hk:k=NameKind.free
   . subst hk;simp only[beq_self_eq_true,if_true,List.lookup_cons] at q;obtain⟨d,hd⟩:=hn (n,.free) A0E rfl;have hd':env.cells.lookup n=some d:=hd
     split at q
     . rename_i hx;have hx':x=n:=A16.mp hx;rw[hd'] at q;rw[hx',hd'];exact q
     exact ha q
   have hb:(k==NameKind.free)=false:=by simpa using hk
   simp only[hb,Bool.false_eq_true,if_false] at q;exact ha q
theorem Qx {env:Env}{x:Str}:∀ {names:List (Str×NameKind)} {acc:List (Str×Addr)},((∃ c,acc.lookup x=some c)\/(x,NameKind.free)∈names)->∃ c,(M4 env names acc).lookup x=some c
 | [],acc,h=>by
   rcases h with h|h
   . exact h
   cases h
 | (n,k) :: r,acc,h=>by
   have e:M4 env ((n,k) :: r) acc=M4 env r (if k==NameKind.free then(n,(env.cells.lookup n).getD 0) :: acc else acc):=rfl
   rw[e];refine Qx ?_
   by_cases hk:k=NameKind.free
   . subst hk;simp only[beq_self_eq_true,if_true,List.lookup_cons]
     by_cases hx:x=n
     . left;have hb:(x==n)=true:=A16.mpr hx;rw[hb];exact⟨_,rfl⟩
     have hb:(x==n)=false:=A1X.mpr hx;rw[hb];rcases h with h|h
     . exact .inl h
     rcases A0N.mp h with q|q
     . cases q;exact absurd rfl hx
     exact .inr q
   have hb:(k==NameKind.free)=false:=by simpa using hk
   simp only[hb,Bool.false_eq_true,if_false];rcases h with h|h
   . exact .inl h
   rcases A0N.mp h with q|q
   . cases q;exact absurd rfl hk
   exact .inr q
theorem Eu:∀(names:List (Str×NameKind)) (n:Nat) (acc:List (Str×Addr)),cellsFrom n names acc=cellsFrom n names []++acc
 | [],_,_=>rfl
 | (x,k) :: r,n,acc=>by
   unfold cellsFrom
   split
   . rw[Eu r (n+1) ((x,n) :: acc),Eu r (n+1) [(x,n)],A17];rfl
   exact Eu r n acc
theorem Ld {x:Str}{c:Addr}:∀ {names:List (Str×NameKind)} {n:Nat},(x,c)∈cellsFrom n names []->(x,NameKind.cell)∈names
 | [],_,h=>by cases h
 | (y,k) :: r,n,h=>by
   unfold cellsFrom at h
   split at h
   . rename_i hk;rw[Eu] at h;rcases A0C.mp h with h|h
     . exact A09 _ (Ld h)
     have e:=A0X.mp h
     cases e;rw[A16.mp hk];exact A0E
   exact A09 _ (Ld h)
theorem Mq {α:Type}{x:Str}{c:α}:∀ {l:List (Str×α)},(x,c)∈l->∃ d,l.lookup x=some d
 | [],h=>by cases h
 | (y, d) :: r,h=>by
   rw[A25]
   cases e:x==y with
   |true=>exact⟨d,rfl⟩
   |false=>
     rcases A0N.mp h with q|q
     . cases q;simp at e
     exact Mq q
theorem Kk {x:Str}:∀ {names:List (Str×NameKind)} {n:Nat},(x,NameKind.cell)∈names->∃ c,(x,c)∈cellsFrom n names []
 | [],_,h=>by cases h
 | (y,k) :: r,n,h=>by
   unfold cellsFrom
   split
   . rw[Eu];rcases A0N.mp h with q|q
     . cases q;exact⟨n,List.mem_append_right _ (by simp)⟩
     obtain⟨c,hc⟩:=Kk (n:=n+1) q;exact⟨c,A1L _ hc⟩
   rename_i hk;rcases A0N.mp h with q|q
   . cases q;exact absurd rfl hk
   exact Kk q
def W3 (outer scope:Scope)(xs fr:List Str):Bool:=
 (scope.kind == .function)&&(outer.kind == .function)&&decide (scope.names.map (·.1)).Nodup
 && (scope.names.all λy=>y.2 != .local||scope.names.lookup y.1==some .local)
 && (scope.names.all λy=>y.2 != .free||(outer.names.lookup y.1==some .cell||outer.names.lookup y.1==some .free))
 && (scope.names.all λy=>y.2 != .free||scope.names.lookup y.1==some .free)
 && (xs.all λx=>scope.names.lookup x==some .local||scope.names.lookup x==some .cell)&&(fr.all λx=>scope.names.lookup x==some .free)&&decide (xs++fr).Nodup
theorem Ef {α:Type}{x:Str}{v:α}:∀ {l:List (Str×α)},l.lookup x=some v->(x,v)∈l
 | [],h=>by cases h
 | (n,k) :: r,h=>by
   rw[A25] at h
   split at h
   . rename_i hx;have hx':x=n:=A16.mp hx
     cases h;rw[hx'];exact A0E
   exact A09 _ (Ef h)
theorem Jv {scope:Scope}{env:Env}{x:Str}{k:NameKind}(hk:env.scope.kind = .function):∀ {names:List (Str×NameKind)},names.lookup x=some k ->
  (names.map λ(n,k)=>if(k==NameKind.free&&env.scope.kind == .function&&env.kindOf n==some .cell) then(n,NameKind.cell) else(n,k)).lookup x=some (if(k==NameKind.free&&env.kindOf x==some .cell) then .cell else k)
 | [],h=>by cases h
 | (n,j) :: r,h=>by
   have ih:=@Jv scope env x k hk r;rw[A0U];rw[A25] at h;dsimp only
   split at h
   . rename_i hx;have hx':x=n:=A16.mp hx
     cases h;subst hx'
     by_cases hc:(k==NameKind.free&&env.scope.kind == .function&&env.kindOf x==some .cell)=true
     . have hc2:(k==NameKind.free&&env.kindOf x==some .cell)=true:=by rw[A1Y,A1Y] at hc;rw[A1Y];exact⟨hc.1.1,hc.2⟩
       rw[A10 hc,A10 hc2,A25,beq_self_eq_true]
     have hc2:¬ (k==NameKind.free&&env.kindOf x==some .cell)=true:=λq=>hc (by rw[A1Y] at q;rw[A1Y,A1Y,hk];exact⟨⟨q.1,rfl⟩,q.2⟩)
     rw[A0W hc,A0W hc2,A25,beq_self_eq_true]
   rename_i hx;have hx':(x==n)=false:=by simpa using hx
   by_cases hc:(j==NameKind.free&&env.scope.kind == .function&&env.kindOf n==some .cell)=true
   . rw[A10 hc,A25,hx'];exact ih h
   rw[A0W hc,A25,hx'];exact ih h
theorem Hr {env:Env} {x:Str} {k:NameKind}:∀ {names:List (Str×NameKind)},
  (names.map λ(n,k)=>if(k==NameKind.free&&env.scope.kind == .function&&env.kindOf n==some .cell) then(n,NameKind.cell) else(n,k)).lookup x=some k ->
  ∃ j,names.lookup x=some j/\(k=j\/(j = .free/\k = .cell))
 | [],h=>by cases h
 | (n,j) :: r,h=>by
   have ih:=@Hr env x k r;rw[A0U] at h;dsimp only at h
   by_cases hc:(j==NameKind.free&&env.scope.kind == .function&&env.kindOf n==some .cell)=true
   . rw[A10 hc,A25] at h
     have hj:j = .free:=by rw[A1Y,A1Y] at hc;exact A16.mp hc.1.1
     rw[A25]
     split at h
     . rename_i hx
       cases h;exact⟨j,rfl,.inr ⟨hj,rfl⟩⟩
     rename_i hx;have hx':(x==n)=false:=by simpa using hx
     exact ih h
   rw[A0W hc,A25] at h;rw[A25]
   split at h
   . rename_i hx
     cases h;exact⟨_,rfl,.inl rfl⟩
   rename_i hx;have hx':(x==n)=false:=by simpa using hx
   exact ih h
structure CompS (X:Cx)(scope:Scope)(xs fr:List Str):Prop where
 kind:scope.kind = .function
 okind:X.env.scope.kind = .function
 uniq:(scope.names.map (·.1)).Nodup
 names:∀ y∈scope.names,y.2 = .local->scope.names.lookup y.1=some .local
 free:∀ y∈scope.names,y.2 = .free->X.env.kindOf y.1=some .cell\/X.env.kindOf y.1=some .free
 own:∀ x∈xs,scope.names.lookup x=some .local\/scope.names.lookup x=some .cell
 fre:∀ x∈fr,scope.names.lookup x=some .free
 nd:(xs++fr).Nodup
theorem Vx {X:Cx}{scope:Scope}{xs fr:List Str}(h:W3 X.env.scope scope xs fr=true):CompS X scope xs fr:=by unfold W3 at h;simp only[Bool.and_eq_true,List.all_eq_true,bne_iff_ne,Bool.or_eq_true,beq_iff_eq,decide_eq_true_eq] at h;obtain⟨⟨⟨⟨⟨⟨⟨⟨h1,h2⟩,h3⟩,h4⟩,h5⟩,h6⟩,h7⟩,h8⟩,h9⟩:=h;exact⟨h1,h2,h3,λy hy e=>(h4 y hy).resolve_left (λq=>q e),λy hy e=>(h5 y hy).resolve_left (λq=>q e),h7,h8,h9⟩
def Re (σ:St)(js:List Nat):St:=js.map λj=>(σ[j]?).getD none
abbrev cxC (X:Cx)(scope:Scope)(xs fr:List Str)(C:Addr)(ex:List Addr)(s₀:Shared)(H₀:Hp):Cx:=
 {X with N:=xs++fr,env:=compEnvC scope (cellsFrom (C+1) scope.names (M4 X.env scope.names [])) C X.env,s₀:=s₀,H₀:=H₀,outer:=X.stack,ex:=ex,fn:=λx=>scope.names.lookup x==some .cell,pn:=[],xe:=λ_ _=>False}
section
variable {X:Cx}{scope:Scope}{xs fr:List Str}{pins:List (Addr×Obj)}{σ:St}{H:Hp}{s:Shared}{js:List Nat}{fp:List Addr}
theorem Rn {α:Type}{x:Str}{v:α}:∀ {l:List (Str×α)},(l.map (·.1)).Nodup->(x,v)∈l->l.lookup x=some v
 | [],_,h=>by cases h
 | (y,d) :: r,hn,h=>by
   obtain⟨h1,h2⟩:=A13.mp hn;rw[A25];rcases A0N.mp h with q|q
   . cases q;rw[beq_self_eq_true]
   have hne:(x==y)=false:=A1X.mpr λe=>h1 (e ▸ A0F.mpr ⟨(x,v),q,rfl⟩);rw[hne];exact Rn h2 q
theorem CompS.cells (S:CompS X scope xs fr)(ok:X.Ok):∀ y∈scope.names,y.2=NameKind.free->∃ c,X.env.cells.lookup y.1=some c:=λy hy e=>ok.has _ (S.free y hy e)
theorem ab3 (S:CompS X scope xs fr)(hjs:js.map (λj=>X.N[j]?)=fr.map some)(I:Inv X pins σ H s)(hfp:∀ b∈fp,Vr X pins H b)(hob:∀ b∈fp,∃ o,s.heap.get? b=some o){h':Heap}{t':Nat}
  (hn:h'.Ns s.heap.objs.size λ_=>none) (keep:∀ b o,s.heap.get? b=some o->h'.get? b=some o) (hcs:CellsOk h' (s.heap.objs.size+1) (cellsFrom (s.heap.objs.size+1) scope.names [])) :
  Inv (cxC X scope xs fr s.heap.objs.size fp s H) [] (List.replicate xs.length none++Re σ js) H {s with heap:=h',toks:=t'}:=by
 have hcl:=S.cells I.ok;have sub:∀ x c,(M4 X.env scope.names []).lookup x=some c->X.env.cells.lookup x=some c:=λx c h=>We hcl (λq=>by cases q) h;have hl:js.length=fr.length:=by have:=congrArg List.length hjs;rwa[A00,A00] at this
 have two:∀ x c,(cellsFrom (s.heap.objs.size+1) scope.names (M4 X.env scope.names [])).lookup x=some c->(x,c)∈cellsFrom (s.heap.objs.size+1) scope.names []\/(M4 X.env scope.names []).lookup x=some c:=λx c h=>by
  rw[Eu,A4P] at h
  cases e:(cellsFrom (s.heap.objs.size+1) scope.names []).lookup x with
  |some d=>
    rw[e] at h
    cases h;exact .inl (Ef e)
  |none=>rw[e] at h;exact .inr h
 have oldc:∀ x c,X.env.cells.lookup x=some c->c<s.heap.objs.size:=λx c h=>let ⟨_,_,ho,_⟩:=I.cell x c h;A0L ho;have newc:∀ x c,(x,c)∈cellsFrom (s.heap.objs.size+1) scope.names []->s.heap.objs.size<c:=λx c h=>(hcs.empty x c h).2
 refine⟨⟨I.ok.mod,S.kind,I.ok.glob,I.ok.blt,A05 _,λx y c h1 h2=>?_,λx hx=>?_,λx c hf h=>?_,I.ok.hd,I.ok.frames,.inl rfl,λb hb=>?_,λb o e=>I.bs b o e,A0B I.ok.bsz I.sz,λb o e hb=>?_,λb hb hb2=>?_,I.stack,I.stkFree⟩,
  rfl,I.bare,Un.kept keep,⟨_,hn,λi x v e1 e2 e3=>?_⟩,λx c h=>?_,I.hok.fresh (Nat.le_refl _),λx c h=>?_,λp hp=>absurd (show p∈([]:List (Addr×Obj)) from hp) (by simp),I.hok.kept keep,?_⟩
 . rcases two x c h1 with g1|g1
   . rcases two y c h2 with g2|g2
     . exact name_of_addr hcs.apart g1 g2
     exact absurd (oldc y c (sub y c g2)) (Nat.not_lt.mpr (A1O (newc x c g1)))
   rcases two y c h2 with g2|g2
   . exact absurd (oldc x c (sub x c g1)) (Nat.not_lt.mpr (A1O (newc y c g2)))
   exact I.ok.inj x y c (sub x c g1) (sub y c g2)
 . -- the names that are cells there have one
   have hx:(relabel scope X.env).names.lookup x=some .cell\/(relabel scope X.env).names.lookup x=some .free:=hx
   have app:∀ c,(M4 X.env scope.names []).lookup x=some c\/(x,c)∈cellsFrom (s.heap.objs.size+1) scope.names []->∃ c,(cellsFrom (s.heap.objs.size+1) scope.names (M4 X.env scope.names [])).lookup x=some c:=λc h=>by
    rw[Eu,A4P];rcases h with h|h
    . cases (cellsFrom (s.heap.objs.size+1) scope.names []).lookup x with
      |some d=>exact⟨d,rfl⟩
      |none=>exact⟨c,h⟩
    obtain⟨d,hd⟩:=Mq h;rw[hd];exact⟨d,rfl⟩
   have go:∀ k,(relabel scope X.env).names.lookup x=some k->(k = .cell\/k = .free)->∃ c,(cellsFrom (s.heap.objs.size+1) scope.names (M4 X.env scope.names [])).lookup x=some c:=λk e hk=>by
    obtain⟨j,hj,q⟩:=Hr (env:=X.env) (names:=scope.names) e;have hm:=Ef hj
    have hjf:j = .free\/j = .cell:=by
     rcases q with q|q
     . rcases hk with hk|hk
       . exact .inr (q ▸ hk)
       exact .inl (q ▸ hk)
     exact .inl q.1
    rcases hjf with hjf|hjf
    . subst hjf;obtain⟨c,hc⟩:=Qx (env:=X.env) (x:=x) (names:=scope.names) (acc:=[]) (.inr hm);exact app c (.inl hc)
    subst hjf;obtain⟨c,hc⟩:=Kk (n:=s.heap.objs.size+1) hm;exact app c (.inr hc)
   rcases hx with hx|hx
   . exact go _ hx (.inl rfl)
   exact go _ hx (.inr rfl)
 . rcases two x c h with g|g
   . exact A1O (newc x c g)
   have hf':scope.names.lookup x=some .cell:=by simpa using hf
   obtain⟨d,hd⟩:=Kk (n:=s.heap.objs.size+1) (Ef hf');have h':=h;obtain⟨e,he⟩:=Mq hd;have h':(cellsFrom (s.heap.objs.size+1) scope.names (M4 X.env scope.names [])).lookup x=some c:=h;rw[Eu,A4P,he] at h'
   cases h';exact A1O (newc x _ (Ef he))
 . obtain⟨f0,f1,f2,f3,f4,f5⟩:=hfp b hb;obtain⟨o,ho⟩:=hob b hb;refine⟨A1C (A0L ho),λx c h z=>?_⟩;rcases two x c h with g|g
   . have h1:=newc x c g;have h2:=A0L ho;rw[<- z] at h2;exact absurd h1 (Nat.not_lt.mpr (A1O h2))
   exact f4 x c (sub x c g) z
 . obtain⟨f0,f1,f2,f3,f4,f5⟩:=hfp b hb;rcases f3 with f3|f3
   . exact I.ok.noex b o e f3
   exact absurd (A1I (A0L (I.ok.bs b o e).1) f3) (A2Y _)
 . obtain⟨f0,f1,f2,f3,f4,f5⟩:=hfp b hb;rcases A0N.mp (I.stkSub b hb2) with z|z
   . exact f1 z
   exact f2 z
 . have e1:(xs++fr)[i]? = some x:=e1
   by_cases hi:i<xs.length
   . rw[A18 (by rw[A2Z];exact hi),A4X,A10 hi] at e2
     cases e2
   have hi':xs.length<=i:=Nat.le_of_not_lt hi;rw[A0T hi'] at e1;rw[A0T (by rw[A2Z];exact hi'),A2Z] at e2;unfold Re at e2;rw[A07] at e2
   cases ej:js[i-xs.length]? with
   |none=>rw[ej] at e2;cases e2
   |some j=>
     rw[ej] at e2;have e2':(σ[j]?).getD none=some v:=A12 e2
     have e4:σ[j]? = some (some v):=by
      cases q:σ[j]? with
      |none=>rw[q] at e2';cases e2'
      |some o=>rw[q] at e2';rw[show o=some v from e2']
     have e5:X.N[j]? = some x:=by have:=congrArg (λl=>l[i-xs.length]?) hjs;rw[A07,A07,ej,e1] at this;exact A12 this
     have hf:=S.fre x (A02 e1);have hk:=S.free _ (Ef hf) rfl;obtain⟨m,hm,hl'⟩:=I.loc;obtain⟨u,r,lk⟩:=hl' j x v e5 e4 (.inr hk);refine⟨u,r,.inr ⟨?_,?_⟩⟩
     . have q:=Jv (scope:=scope) (env:=X.env) S.okind hf;show(relabel scope X.env).names.lookup x=some .cell\/(relabel scope X.env).names.lookup x=some .free;have q':(relabel scope X.env).names.lookup x=some (if(NameKind.free==NameKind.free&&X.env.kindOf x==some .cell) then .cell else .free):=q
       by_cases hc:(NameKind.free==NameKind.free&&X.env.kindOf x==some .cell)=true
       . rw[A10 hc] at q';exact .inl q'
       rw[A0W hc] at q';exact .inr q'
     obtain⟨c',hc'⟩:=Qx (env:=X.env) (x:=x) (names:=scope.names) (acc:=[]) (.inr (Ef hf));rcases lk with ⟨z,_⟩|⟨_,c,hc,ob,ho,hd⟩
     . rcases hk with hk|hk
       . rw[z] at hk;cases hk
       rw[z] at hk;cases hk
     have e6:c=c':=by have:=sub x c' hc';rw[hc] at this;exact A12 this
     subst e6;refine⟨_,?_,ob,keep _ _ ho,hd⟩;show(cellsFrom (s.heap.objs.size+1) scope.names (M4 X.env scope.names [])).lookup x=some c;rw [Eu,A4P]
     have none':(cellsFrom (s.heap.objs.size+1) scope.names []).lookup x=none:=by
      cases e:(cellsFrom (s.heap.objs.size+1) scope.names []).lookup x with
      |none=>rfl
      |some d=>
        have:=Rn S.uniq (Ld (Ef e));rw[hf] at this
        cases this
     rw[none'];exact hc'
 . rcases two x c h with g|g
   . exact⟨_,(hcs.empty x c g).1⟩
   obtain⟨v,ob,ho,hd⟩:=I.cell x c (sub x c g);exact⟨v,ob,keep _ _ ho,hd⟩
 . rcases two x c h with g|g
   . exact I.hok.fresh (A1O (newc x c g))
   exact I.freeC x c (sub x c g)
 show _=(xs++fr).length;unfold Re;rw[A04,A04,A2Z,A00,hl]
theorem a01 {M:Model}{A:Around}{E:Value->Shared->Prop}{s:Shared}{scope:Scope}{globals:Addr}{cl:List (Str×Addr)}{qual:Str}{env:Env}{Q:Env->Shared->Prop}
  (hQ:∀ h',h'.Ns s.heap.objs.size (λ_=>none)->(∀ b o,s.heap.get? b=some o->h'.get? b=some o)->CellsOk h' (s.heap.objs.size+1) (cellsFrom (s.heap.objs.size+1) scope.names []) ->
   Q (newEnv scope s.heap.objs.size globals (cellsFrom (s.heap.objs.size+1) scope.names cl) qual none .none (some env) builtinsNs) {s with heap:=h'}) :
  wpAny M A (newFunctionEnv scope globals cl [] qual none .none (some env)) Q E s:=by
 simp only[newFunctionEnv,Option.isSome_some,if_true];refine A08 (wpAny_alloc ?_);refine wpAny_bind (wpAny_layCells _ (λname kind cells=>by cases hkc:kind==NameKind.cell<;>simp[hkc]) _ _ _ _ ?_)
 have okc:=cellsFrom_ok scope.names (s.heap.push {cls:=.type "dict",data:=.dict #[]}) (s.heap.objs.size+1) [] ⟨λ_ _ hm=>(nomatch hm),A2L⟩ (by rw[A3C];exact A05 _);rw[A3C] at okc;rw[show({s with heap:=s.heap.push {cls:=.type "dict",data:=.dict #[]}}:Shared).heap.objs.size=s.heap.objs.size+1 from A3C ..]
 rw[List.forIn_nil];exact A08 (A0M (A0M (hQ _ ((Heap.Ns.new s.heap (.type "dict")).keeps (pushCells_keeps _ _)) (λb o e=>pushCells_keeps _ _ b o (A06 _ e)) okc)))
theorem Zc {σ':St}{H':Hp}{s':Shared}{h'':Heap}(I:Inv X pins σ H s)(hfp:∀ b∈fp,Vr X pins H b)(J:Inv (cxC X scope xs fr s.heap.objs.size fp s H) [] σ' H' s')(hs:Heap.SameBut s.heap.objs.size s'.heap h'') :
  Inv X pins σ H' {s' with heap:=h''}:=by
 have old:∀ b o,s.heap.get? b=some o->b≠s.heap.objs.size:=λb o e=>A1C (A0L e);have ub:Un (frs X.stack) fp H H' s.heap s'.heap:=J.base;refine I.call' (s':={s' with heap:=h''}) (ch:=fp) J.os ⟨λb o e n hb hx=>(hs.2 b (old b o e)).trans (ub.keep b o e n hb hx),λb o e n hb hx=>?_,ub.free,λb o e hx=>?_,ub.tups,ub.frzs,ub.tbls⟩ (λb o e=>?_) J.bare λb hb=>?_
 . obtain⟨sl,e1⟩:=ub.slot b o e n hb hx;exact⟨sl,(hs.2 b (old b o e)).trans e1⟩
 . obtain⟨o',e1⟩:=ub.there b o e hx;exact⟨o',(hs.2 b (old b o e)).trans e1⟩
 . have hf:H' s.heap.objs.size=none:=J.free;refine(J.hok b o e).stay (λc v hc q=>(hs.2 c ?_).trans q) (λ_ q=>q) λ_ _ q=>q;intro z;rcases hc with hc|hc
   . rw[<- hc,z,hf] at e;cases e
   rw[z,hf] at hc;cases hc
 obtain⟨f0,f1,f2,f3,f4,f5⟩:=hfp b hb;exact⟨f3,f1,f4,f5⟩
def PIf (X:Cx)(ifs:List Expr)(t:TT):Prop:=
 ∀(pins:List (Addr×Obj)) (s:Shared) (σ:St) (H:Hp) (Q:Bool->Hp->Prop) (E:Value->Shared->Prop),(∀ e s',X.xe e s'->E e s')->Inv X pins σ H s->t σ H Q ->
  wpAny (model X.prog X.w) X.A (forIn ifs true λc r=>if r=true then do let ok <- isTrue c X.env (eval c X.env);pure (ForInStep.yield ok) else pure (ForInStep.yield r)) (TP X pins σ Q) E s
def ab7:TT:=λ_ H Q=>Q true H
theorem Bn:PIf X [] ab7:=λ_ _ _ H _ _ _ I h=>wpAny_tests_nil ⟨H,I,h⟩
theorem Fm {c:Expr}{t:TT}(hc:PT X c t):PIf X [c] t:=λpins s σ H Q _ hE I h=>wpAny_tests_one (A34 (hc pins s σ H Q I h) (λ_ _ z=>z) hE)
def ak6 (k:Nat)(js:List Nat)(wi:TI)(g:TG)(tt:TT)(te:TE):TE:=fun σ H Q=>wi σ H λJ H1=>∀ p,H1 p=none ->
 ∃ W:Nat->Nat->Hp->Prop,(∃ m,W 0 m (upd H1 p (.lst [])))/\∀ i m H,W i m H ->
  (J.stop i H/\Q (.ref p) H)\/(J.go i H/\∃ N:Hp->Prop,(∀ H',N H'->∃ m',m'<m/\W (i+1) m' H') /\
   ∀ x H',J.yld i H x H'->g x (List.replicate k none++Re σ js) H' fun σ2 H2=>tt σ2 H2 λb H3=>if b=true then te σ2 H3 λy H4=>∃ acc,H4 p=some (.lst acc)/\acc.length<sizeLine/\N (upd H4 p (.lst (acc++[y]))) else N H3)
theorem a68 {tg elt iter:Expr}{ifs:List Expr}{pos:Pos}{it acc:Value}{env:Env}{A:Around}{R:Result->Shared->Prop}{s:Shared}{P:Program}{w:World}(I:Nat->Shared->Prop)
  (turn:∀ n s,I n s->wpAny (model P w) A (pyNext it) (λr s₁=>match r with
   |none=>R (.ok .next) s₁
   |some v=>wpAny (model P w) A (letOwnedTupleGo tg it v) (λ_ s₁'=>wpAny (model P w) A (assign tg env v) (λ_ s₂=>
     wpAny (model P w) A (forIn ifs true λc r=>if r=true then do let ok <- isTrue c env (eval c env);pure (ForInStep.yield ok) else pure (ForInStep.yield r)) (λok s₃=>
      if ok=true then wpAny (model P w) A (eval elt env) (λx s₄=>wpAny (model P w) A (call (.builtin "list.append") [acc,x]) (λ_ s₅=>∃ m,m<n/\I m s₅) (λ_ _=>False) s₄) (λ_ _=>False) s₃
      else ∃ m,m<n/\I m s₃) (λ_ _=>False) s₂) (λ_ _=>False) s₁') (λ_ _=>False) s₁) (λ_ _=>False) s)
  (n:Nat) (h:I n s):codeAny (model P w) A (.compLoop (.ListComp elt [⟨tg,iter,ifs,0⟩] scope pos) 0 it acc env) R s:=by
 refine codeAny_loop rfl I (λn s hI=>?_) n h;show wpAny _ A ((compTurn (.ListComp elt [⟨tg,iter,ifs,0⟩] scope pos) 0 it acc env).onRaise (λx=>do noteFrame x env;theTreesLotGoes x)) _ _ s
 refine wpAny_noted ?_;rw [compTurn_list];refine A08 (wpAny_standAt (A08 (A34 (turn n s hI) (λr s₁ h₁=>?_) λ_ _ h'=>h'.elim)))
 cases r with
 |none=>exact A0M h₁
 |some v=>
   refine A08 (A34 h₁ (λ_ s₁' h₁'=>?_) λ_ _ h'=>h'.elim);refine A08 (A34 h₁' (λ_ s₂ h₂=>A08 (A34 h₂ (λok s₃ h₃=>?_) λ_ _ h'=>h'.elim)) λ_ _ h'=>h'.elim)
   cases ok with
   |false=>exact A0M ⟨rfl,h₃⟩
   |true=>exact A08 (A08 (A34 h₃ (λx s₄ h₄=>A08 (A34 h₄ (λ_ s₅ h₅=>A0M (A0M ⟨rfl,h₅⟩)) λ_ _ h'=>h'.elim)) λ_ _ h'=>h'.elim))
def ad6 (n:Nat)(g:TG):Prop:=∀ x σ H Q,g x σ H Q->g x σ H fun σ' H'=>(∀ k,n<=k->σ'[k]? = σ[k]?)/\Q σ' H'
theorem Au {n i:Nat}(h:i<n):ad6 n (M3 i):=λx σ H Q q=>⟨λk hk=>A5M ∅,q⟩
theorem Wn {tg elt iter:Expr}{ifs:List Expr}{pos:Pos}{g:TG}{tt:TT}{te:TE}(hc:X.calm=true)(S:CompS X scope xs fr)(hjs:js.map (λj=>X.N[j]?)=fr.map some)
  (hg:∀ C ex s₀ H₀,PG (cxC X scope xs fr C ex s₀ H₀) tg g) (hk:ad6 xs.length g) (hi:∀ C ex s₀ H₀,PIf (cxC X scope xs fr C ex s₀ H₀) ifs tt) (he:∀ C ex s₀ H₀,PE (cxC X scope xs fr C ex s₀ H₀) elt te)
  {s2:Shared} {H1:Hp} {R:Value->Addr->Result->Shared->Prop} {Q:VK} {it:Addr} {tn:Nat->Heap->Prop} {J:It} (I:Inv X pins σ H1 s2) (T:a97 X.prog X.w X.K tg J fp it tn) (st:tn 0 s2.heap) (hfp:∀ b∈fp,Vr X pins H1 b)
  (hq:∀ p,H1 p=none->∃ W:Nat->Nat->Hp->Prop,(∃ m,W 0 m (upd H1 p (.lst [])))/\∀ i m H,W i m H ->
   (J.stop i H/\Q (.ref p) H)\/(J.go i H/\∃ N:Hp->Prop,(∀ H',N H'->∃ m',m'<m/\W (i+1) m' H') /\
    ∀ x H',J.yld i H x H'->g x (List.replicate xs.length none++Re σ js) H' fun σ2 H2=>tt σ2 H2 λb H3=>if b=true then te σ2 H3 λy H4=>∃ acc,H4 p=some (.lst acc)/\acc.length<sizeLine/\N (upd H4 p (.lst (acc++[y]))) else N H3))
  (hR:∀(p C:Addr) (s':Shared) (H':Hp),(∃ m,s'.heap.Ns C m)->Vr X pins H' C->Inv X pins σ H' s'->Q (.ref p) H'->R (.ref p) C (.ok .next) s') :
  wpAny (model X.prog X.w) X.A (newList []) (λacc s₃=>wpAny (model X.prog X.w) X.A (newFunctionEnv scope X.env.globals (M4 X.env scope.names []) [] X.env.qual none .none (some X.env)) (λcenv s₄=>
   codeAny (model X.prog X.w) X.A (.compStart (.ListComp elt [⟨tg,iter,ifs,0⟩] scope pos) 0 (.ref it) acc {cenv with scope:=relabel scope X.env}) (R acc cenv.locals) s₄) X.xe s₃) X.xe s2:=by
 refine A43 ?_ (by show 0<=sizeLine;exact A2C _);have hn0:H1 s2.heap.objs.size=none:=I.hok.fresh (A05 _);have I3:Inv X pins σ (upd H1 s2.heap.objs.size (.lst [])) {s2 with heap:=s2.heap.push {cls:=.type "list",data:=.seq ([]:List Value).toArray}}:=I.laid (t':=s2.toks) (λb u e=>A06 _ e) (A05 _) ⟨A2C _,[],0,.nil,A15 _ rfl⟩
 obtain⟨W,⟨m0,w0⟩,turn⟩:=hq _ hn0;have hob:∀ b∈fp,∃ o,s2.heap.get? b=some o:=λb hb=>let ⟨o,e,_⟩:=T.obj _ _ st b hb;⟨o,e⟩
 have hfp3:∀ b∈fp,Vr X pins (upd H1 s2.heap.objs.size (.lst [])) b:=λb hb=>by obtain⟨f0,f⟩:=hfp b hb;obtain⟨o,e⟩:=hob b hb;exact⟨by rw[By (A1C (A0L e))];exact f0,f⟩
 have hob3:∀ b∈fp,∃ o,(s2.heap.push {cls:=.type "list",data:=.seq ([]:List Value).toArray}).get? b=some o:=λb hb=>let ⟨o,e⟩:=hob b hb;⟨o,A06 _ e⟩;have st3:tn 0 (s2.heap.push {cls:=.type "list",data:=.seq ([]:List Value).toArray}):=T.keep _ _ _ st λb _ o e=>A06 _ e;generalize hs3:({s2 with heap:=s2.heap.push {cls:=.type "list",data:=.seq ([]:List Value).toArray}}:Shared)=s3 at I3 ⊢;have st3':tn 0 s3.heap:=by rw[<- hs3];exact st3
 have hob3':∀ b∈fp,∃ o,s3.heap.get? b=some o:=by rw[<- hs3];exact hob3
 generalize hH3:upd H1 s2.heap.objs.size (.lst [])=H3 at I3 hfp3 w0;generalize hp0:s2.heap.objs.size=p0 at turn ⊢;refine a01 λh₁ hns₁ hkp₁ hco₁=>?_;have I4:=ab3 (t':=s3.toks) S hjs I3 hfp3 hob3' hns₁ hkp₁ hco₁;have st4:tn 0 h₁:=T.keep _ _ _ st3' λb hb o e=>hkp₁ b o e
 have loop:∀ s₄:Shared,Inv (cxC X scope xs fr s3.heap.objs.size fp s3 H3) [] (List.replicate xs.length none++Re σ js) H3 s₄->tn 0 s₄.heap ->
   codeAny (model X.prog X.w) X.A (.compLoop (.ListComp elt [⟨tg,iter,ifs,0⟩] scope pos) 0 (.ref it) (.ref p0) (compEnvC scope (cellsFrom (s3.heap.objs.size+1) scope.names (M4 X.env scope.names [])) s3.heap.objs.size X.env)) (R (.ref p0) s3.heap.objs.size) s₄:=by
  intro s₄ I4 st4
  have stat:∀ {H':Hp},(∀ b∈fp,H' b=none)->∀ b∈fp,Vr (cxC X scope xs fr s3.heap.objs.size fp s3 H3) [] H' b:=fun {H'} hn b hb=>by obtain⟨f0,f1,f2,f3,f4,f5⟩:=hfp3 b hb;obtain⟨o,e⟩:=hob3' b hb;refine⟨hn b hb,Nat.ne_of_lt (Heap.lt_size e),I4.ok.exfs b hb,.inl hb,λx c h=>(I4.ok.exf b hb).2 x c h,λp hp=>absurd (show p∈([]:List (Addr×Obj)) from hp) (by simp)⟩
  refine a68 (λn s'=>∃ i H',Inv (cxC X scope xs fr s3.heap.objs.size fp s3 H3) [] (List.replicate xs.length none++Re σ js) H' s'/\tn i s'.heap/\(∀ b∈fp,H' b=none)/\W i n H') ?_ m0 ⟨0,H3,I4,st4,λb hb=>(hfp3 b hb).1,w0⟩;rintro n s5 ⟨i,H5,I5,st5,fr5,w5⟩;rcases turn i n H5 w5 with ⟨stop,qn⟩|⟨go,N,hN,step⟩
  . refine thn (T.done (cxC X scope xs fr s3.heap.objs.size fp s3 H3) rfl rfl rfl hc i [] s5 _ H5 (λ_ _=>False) I5 (stat fr5) st5 stop) λr s6 ⟨hr,I6⟩=>?_;subst hr;obtain⟨m6,n6,_⟩:=id I6.loc;exact hR p0 s3.heap.objs.size s6 H5 ⟨m6,n6⟩ (I3.fpOk (A05 _) I6.free) (Zc I3 hfp3 I6 (Heap.SameBut.refl ..)) qn
  refine thn (T.item (cxC X scope xs fr s3.heap.objs.size fp s3 H3) rfl rfl rfl hc i [] s5 _ H5 (λ_ _=>False) I5 (stat fr5) st5 go) λr s6 ⟨u,hr,h6⟩=>?_;subst hr;refine thn h6 λ_ s7 ⟨x,H7,I7,r7,y7,st7,fr7⟩=>?_;have I7':=I7.pinned (stat fr7) (T.obj _ _ st7);refine thn (hg _ _ _ _ _ s7 _ H7 x u _ I7' r7 (hk _ _ _ _ (step x H7 y7))) λ_ s8 ⟨σ8,H8,I8,kp8,q8⟩=>?_
  have again:∀ {s9:Shared} {H9:Hp},Inv (cxC X scope xs fr s3.heap.objs.size fp s3 H3) ([]++Rz fp s7.heap) σ8 H9 s9->N H9 ->
    ∃ m,m<n/\∃ i H',Inv (cxC X scope xs fr s3.heap.objs.size fp s3 H3) [] (List.replicate xs.length none++Re σ js) H' s9/\tn i s9.heap/\(∀ b∈fp,H' b=none)/\W i m H':=fun {s9 H9} I9 n9=>by
   obtain⟨m',hm,w9⟩:=hN H9 n9;refine⟨m',hm,i+1,H9,I9.unpinned.weak ?_ ?_,T.keep _ _ _ st7 λb hb o e=>(I9.pin (b,o) (A1D _ (A1D _ (Jq hb e)))).1,λb hb=>?_,w9⟩
   . rw[I9.len,I5.len]
   . intro k v hkv
     by_cases hx:k<xs.length
     . rw[A18 (by rw[A2Z];exact hx),A4X,A10 hx] at hkv
       cases hkv
     rw[kp8 k (Nat.le_of_not_lt hx)];exact hkv
   obtain ⟨o,e,d⟩:=T.obj _ _ st7 b hb;exact(I9.pin (b,o) (A1D _ (A1D _ (Jq hb e)))).2.1
  refine A34 (hi _ _ _ _ _ s8 σ8 H8 _ (λ_ _=>False) (λ_ _ z=>z) I8 q8) (λok s9 ⟨H9,I9,q9⟩=>?_) λ_ _ z=>z
  cases ok with
  |false=>rw[A0W A0O];rw[A0W A0O] at q9;exact again I9 q9
  |true=>rw[A10 rfl];rw[A10 rfl] at q9;refine thn (he _ _ _ _ _ s9 σ8 H9 _ I9 q9) λuy s10 ⟨y,H10,I10,r10,acc,hacc,hz,n10⟩=>?_;refine thn (Du _ s10 σ8 H10 (.ref p0) [y] (.ref p0) [uy] (λ_ H11=>N H11) I10 rfl (.cons r10 .nil) ⟨p0,acc,y,rfl,rfl,hacc,hz,n10⟩) λ_ s11 ⟨_,H11,I11,_,n11⟩=>?_;exact again I11 n11
 exact codeAny_compStart_list (loop _ I4 st4) (T.self _ _ _ _ _ st4 (loop _ I4 st4))
theorem Inv.letgo {C:Addr}{h'':Heap}(I:Inv X pins σ H s)(f:Vr X pins H C)(hs:Heap.SameBut C s.heap h''):Inv X pins σ H {s with heap:=h''}:=by obtain⟨f0,f1,f2,f3,f4,f5⟩:=f;exact I.turned (t':=s.toks) (λb o hb e=>(hs.2 b hb).trans e) f0 f1 f3 f4 f5
theorem Ba {tg elt iter:Expr}{ifs:List Expr}{pos:Pos}{wi:TI}{g:TG}{tt:TT}{te:TE}(xs fr:List Str)(js:List Nat)(hc:X.calm=true)(hS:W3 X.env.scope scope xs fr=true)(hjs:js.map (λj=>X.N[j]?)=fr.map some)(hw:PI X tg iter wi)
  (hg:∀ C ex s₀ H₀,PG (cxC X scope xs fr C ex s₀ H₀) tg g) (hk:ad6 xs.length g) (hi:∀ C ex s₀ H₀,PIf (cxC X scope xs fr C ex s₀ H₀) ifs tt) (he:∀ C ex s₀ H₀,PE (cxC X scope xs fr C ex s₀ H₀) elt te)
  (hs:∀ x,foldedSetIterable iter X.env x=pure x:=by intro _;ac_nf) :
  PE X (.ListComp elt [⟨tg,iter,ifs,0⟩] scope pos) (ak6 xs.length js wi g tt te):=by
 intro pins s σ H Q I h;have S:=Vx hS;rw[eval_ListComp];refine wpAny_comprehension_free (use:=none) rfl hs (Oo (S.cells I.ok)) S.kind S.names ?_;refine thn (hw pins s σ H _ I h) λv s1 h1=>thn h1 λitv s2 h2=>?_;obtain⟨it,fp,tn,J,H2,e,I2,T,st2,f2,q2⟩:=h2;subst e;refine Wn (Q:=Q) (R:=λacc C=>compPost (model X.prog X.w) X.A X.xe none (EP X pins σ Q) acc C) hc S hjs hg hk hi he I2 T st2 f2 q2 ?_;intro p C s' H' ⟨m,hn⟩ fC hI q;exact⟨m,hn,λh'' hs''=>⟨.ref p,H',hI.letgo fC hs'',rfl,q⟩⟩
theorem De {tg elt iter:Expr}{ifs:List Expr}{pos spos py:Pos}{wi:TI}{g:TG}{tt:TT}{te:TE}{i:Nat}{y:Str}(xs fr:List Str)(js:List Nat)(hc:X.calm=true)(hS:W3 X.env.scope scope xs fr=true)(hjs:js.map (λj=>X.N[j]?)=fr.map some)
  (hN:X.N.Nodup) (hi':X.N[i]? = some y) (hy:X.env.scope.names.lookup y=some .local) (hw:PI X tg iter wi)
  (hg:∀ C ex s₀ H₀,PG (cxC X scope xs fr C ex s₀ H₀) tg g) (hk:ad6 xs.length g) (hi:∀ C ex s₀ H₀,PIf (cxC X scope xs fr C ex s₀ H₀) ifs tt) (he:∀ C ex s₀ H₀,PE (cxC X scope xs fr C ex s₀ H₀) elt te)
  (hsw:swapsWith (.ListComp elt [⟨tg,iter,ifs,0⟩] scope pos) (some (.Name y py)) spos.line X.env=pure true:=by ac_nf)
  (hs:∀ x,foldedSetIterable iter X.env x=pure x:=by intro _;ac_nf) :
  PS X (.Assign [.Name y py] (.ListComp elt [⟨tg,iter,ifs,0⟩] scope pos) spos) (ar7 (ak6 xs.length js wi g tt te) (M3 i)):=by
 intro pins s σ H D I h;have S:=Vx hS;rw[exec_Assign_Name_used _ _ _ _ hsw];refine A08 (wpAny_standAt (A08 ?_));show wpAny _ X.A (do let _ <- comprehension (.ListComp elt [⟨tg,iter,ifs,0⟩] scope pos) scope X.env _ (newList []) false (eval iter X.env) (some (assign (.Name y py) X.env))) _ _ s
 refine A08 (A34 (wpAny_comprehension_free (use:=some (assign (.Name y py) X.env)) (Q:=λ_ s'=>SP X pins D .next s') rfl hs (Oo (S.cells I.ok)) S.kind S.names ?_) (λ_ s' hq=>A0M (A0M hq)) λ_ _ e=>e);refine thn (hw pins s σ H _ I h) λv s1 h1=>thn h1 λitv s2 h2=>?_;obtain⟨it,fp,tn,J,H2,e,I2,T,st2,f2,q2⟩:=h2;subst e;refine Wn (Q:=λx H1=>M3 i x σ H1 D.nx) (R:=λacc C=>compPost (model X.prog X.w) X.A X.xe (some (assign (.Name y py) X.env)) (λ_ s'=>SP X pins D .next s') acc C) hc S hjs hg hk hi he I2 T st2 f2 q2 ?_;intro p C s' H' ⟨m,hn⟩ fC I' q;show wpAny _ X.A (assign (.Name y py) X.env (.ref p)) _ _ s';refine wpAny_assign_Name (Rt I' hN hi' (.inl hy) (show RelV (.ref p) (.ref p) from rfl) (λs'' I'' ⟨a,hs1,ha⟩=>?_) (.inr hy))
 have hne:C≠a:=by
  rcases ha with ha|ha
  . rw[ha];exact fC.2.1
  exact(fC.2.2.2.2.1 y a ha).symm
 exact⟨m,hn.sameBut hs1 hne,λh'' hs''=>⟨_,H',I''.letgo fC hs'',q⟩⟩
end
def Its (x:Str):It:=⟨λi _=>i<x.cps.size,λi H v H'=>H'=H/\∃ c,x.cps[i]? = some c/\v = .str ⟨#[c]⟩,λi _=>x.cps.size<=i⟩
section
variable {X:Cx}{tg:Expr}
theorem Ze {P:Program}{w:World}{K:PySem.W.Frag}{tg:Expr}{it:Addr}{n:Nat}{PV:Nat->Value->Prop}{val:Nat->V->Prop}{St:Nat->Heap->Prop}(W:∀ A:Around,A.handled=none->Walks P w A it [it] [it] n PV St)
  (hself:∀(A:Around) (i:Nat) (s:Shared) (Q:Value->Shared->Prop) (E:Value->Shared->Prop),St i s.heap->Q (.ref it) s->wpAny (model P w) A (pyIter (.ref it)) Q E s)
  (hv:∀ i u,PV i u->∃ v,RelV v u/\val i v) (hto:∀ i h,St i h->∃ o T vs,h.get? it=some o/\o.cls = .type T/\o.data = .fields vs/\["enumerate","zip","dict_itemiterator","dict_reverseitemiterator","odict_iterator","itertools.zip_longest","itertools.pairwise"].contains T=false) :
  a97 P w K tg ⟨λi _=>i<n,λi H v H'=>H'=H/\val i v,λi _=>n<=i⟩ [it] it (λi h=>St i h/\i<=n) where
 mem:=by simp
 obj:=λi h st b hb=>by
  have e:b=it:=by simpa using hb
  subst e;obtain⟨o,T,vs,e1,e2,e3,e4⟩:=hto i h st.1;exact⟨o,e1,λv z=>by rw[e3] at z;cases z⟩
 keep:=λi h h' st k=>⟨(W {handled:=none} rfl).frame i h h' st.1 k,st.2⟩
 item:=by
  intro X hP hw hK hc i pins s σ H E I hf st hg;subst hP hw hK;obtain⟨f0,f1,f2,f3,f4,f5⟩:=hf it (by simp);refine(W X.A (I.ok.hd hc)).item i s _ _ hg st.1 λu h' tk hp st' kk=>?_;obtain⟨v,rv,vv⟩:=hv i u hp;have I1:Inv X pins σ H {s with heap:=h',toks:=tk}:=I.turned (λb o hb e=>kk b o (by simpa using hb) e) f0 f1 f3 f4 f5
  obtain⟨o,T,vs,e1,e2,e3,e4⟩:=hto _ _ st';exact⟨u,rfl,Zf (s:={s with heap:=h',toks:=tk}) e1 e2 e3 e4 ⟨v,H,I1,rv,⟨rfl,vv⟩,⟨st',hg⟩,λb hb=>(hf b hb).1⟩⟩
 done:=by intro X hP hw hK hc i pins s σ H E I hf st hg;subst hP hw hK;obtain⟨f0,f1,f2,f3,f4,f5⟩:=hf it (by simp);have e:i=n:=Nat.le_antisymm st.2 hg;subst e;exact(W X.A (I.ok.hd hc)).done s _ _ st.1 λh' tk kk=>⟨rfl,I.turned (λb o hb e=>kk b o (by simpa using hb) e) f0 f1 f3 f4 f5⟩
 self:=λA i s Q E st h=>hself A i s Q E st.1 h
theorem az9 {pins:List (Addr×Obj)}{σ:St}{H1:Hp}{s1:Shared}{R:It->Hp->Prop}{E:Value->Shared->Prop}{z:Str}{v:Value}(I1:Inv X pins σ H1 s1)(r1:RelV (.str z) v)(q:R (Its z) H1):wpAny (model X.prog X.w) X.A (pyIter v) (PIE X pins σ tg R) E s1:=by
 obtain⟨t,rfl⟩:=r1;have sv:∀ i u,SignAt z i u->∃ v,RelV v u/\∃ c,z.cps[i]? = some c/\v = .str ⟨#[c]⟩:=λi u ⟨c,tu,hc,hu⟩=>⟨.str ⟨#[c]⟩,⟨tu,hu⟩,c,hc,rfl⟩
 have fin:∀(o:Obj) (St:Nat->Heap->Prop) (n:Nat),St 0 (s1.heap.push o)->a97 X.prog X.w X.K tg (Its z) [s1.heap.objs.size] s1.heap.objs.size (λi h=>St i h/\i<=z.cps.size)->PIE X pins σ tg R (.ref s1.heap.objs.size) {s1 with heap:=s1.heap.push o}:=λo St n h0 T=>by
  refine⟨s1.heap.objs.size,[s1.heap.objs.size],_,_,H1,rfl,I1.kept (t':=s1.toks) λb ob e=>A06 _ e,T,⟨h0,A2C _⟩,λb hb=>?_,q⟩;have e:b=s1.heap.objs.size:=by simpa using hb
  subst e;exact I1.fpOk (A05 _) (I1.hok.fresh (A05 _))
 cases ha:z.cps.all (· < 128)
 . exact wpAny_pyIter_wide ha (fin _ _ 0 ⟨_,A15 _ rfl,rfl,rfl⟩ (Ze (λA hA=>Walks.strWide hA _ z t) (λ_ _ _ _ _ st hq=>wpAny_pyIter_striter_wide st hq) sv λi h ⟨o,ho,hc,hd⟩=>⟨o,_,_,ho,hc,hd,by decide⟩))
 exact wpAny_pyIter_ascii ha (fin _ _ 0 ⟨_,A15 _ rfl,rfl,rfl⟩ (Ze (λA hA=>Walks.strAscii hA _ z t) (λ_ _ _ _ _ st hq=>wpAny_pyIter_striter_ascii st hq) sv λi h ⟨o,ho,hc,hd⟩=>⟨o,_,_,ho,hc,hd,by decide⟩))
end
section
variable {X:Cx}
def aI5:V->Option Int->Option Int->Hp->VK->Prop:=λx lo hi H Q=>∃ z,x = .str z/\z.length<=sizeLine/\Q (.str (Txt.slice z lo hi)) H
theorem sl_str:SlR X aI5:=by
 intro pins s σ H x v vl vu lo hi sl Q I rx hs pl pu h;obtain⟨z,rfl,hz,q⟩:=h;obtain⟨t,rfl⟩:=rx;have fin:∀ t' k,EP X pins σ Q (.str (Txt.slice z lo hi) t') {s with toks:=k}:=λt' k=>⟨.str _,H,I.tok _,⟨_,rfl⟩,q⟩
 have sz:=A0B (Txt.slice_le z lo hi) hz;refine⟨"str",_,F.slot_str_getitem.lookup,typeIs_str _ _ _,?_⟩
 cases pl with
 |none=>
   cases pu with
   |none=>exact A3X (l:=none) (u:=none) (st:=none) hs rfl (A5B ⟨sz,fin⟩)
   |int j uj=>exact A3X (l:=none) (u:=some (j,uj)) (st:=none) hs rfl (A5B ⟨sz,fin⟩)
 |int i ui=>
   cases pu with
   |none=>exact A3X (l:=some (i,ui)) (u:=none) (st:=none) hs rfl (A5B ⟨sz,fin⟩)
   |int j uj=>exact A3X (l:=some (i,ui)) (u:=some (j,uj)) (st:=none) hs rfl (A5B ⟨sz,fin⟩)
theorem Y1:CallR X (.builtin "repr") (λxs H Q=>(∃ b,xs=[.bl b]/\Q (.str (if b then "True" else "False")) H)\/(xs=[.non]/\Q (.str "None") H)):=by
 intro pins s σ H xs us Q I r h;rcases h with ⟨b,rfl,q⟩|⟨rfl,q⟩
 . obtain⟨u,rfl,ru⟩:=K7 r
   cases ru;exact PySem.P.repr_of_bool ⟨.str _,H,I.tok _,⟨_,rfl⟩,q⟩
 obtain⟨u,rfl,ru⟩:=K7 r
 cases ru;exact PySem.P.repr_of_none ⟨.str _,H,I.tok _,⟨_,rfl⟩,q⟩
theorem call_isinst:CallR X (.builtin "isinstance") (λxs H Q=>∃ x c t b,xs=[x,.ty c]/\Tn X.K H x t/\W.kitOne X.K t (.type c)=some b/\Q (.bl b) H):=by
 intro pins s σ H xs us Q I r h;obtain⟨x,c,t,b,rfl,ty,e,q⟩:=h;obtain⟨u,w',rfl,r1,r2⟩:=ap8 r
 cases r2;exact Sm I r1 ty e λtk=>⟨.bl _,H,I.tok _,rfl,q⟩
theorem call_isinstR:CallR X (.builtin "isinstance") (λxs H Q=>∃ x c t b,xs=[x,.ref c]/\Tn X.K H x t/\W.kitOne X.K t (.ref c)=some b/\Q (.bl b) H):=by
 intro pins s σ H xs us Q I r h;obtain⟨x,c,t,b,rfl,ty,e,q⟩:=h;obtain⟨u,w',rfl,r1,r2⟩:=ap8 r
 cases r2;exact Sm I r1 ty e λtk=>⟨.bl _,H,I.tok _,rfl,q⟩
theorem Rp:CallR X (.builtin "isinstance") (λxs H Q=>∃ a ys c b,xs=[V.ref a,.ty c]/\((SqT X.K H a ys/\W.kitOne X.K (.type "tuple") (.type c)=some b)\/(SqL X.K H a ys/\W.kitOne X.K (.type "list") (.type c)=some b))/\Q (.bl b) H):=by
 intro pins s σ H xs us Q I r h;obtain⟨a,ys,c,b,rfl,ty,q⟩:=h;obtain⟨u,w',rfl,r1,r2⟩:=ap8 r
 cases r2
 cases r1;rcases ty with ⟨ty,e⟩|⟨ty,e⟩
 . obtain⟨its,_,p,_⟩:=I.tuple ty;obtain⟨o,h1,h2,_⟩:=p;exact A23 W.kitx_tuple I.kIn ⟨o,h1,h2⟩ e (λz=>nomatch z) λtk=>⟨.bl _,H,I.tok _,rfl,q⟩
 obtain⟨its,_,p,_⟩:=I.list ty;obtain⟨o,h1,h2,_⟩:=p.isList;exact A23 W.kitx_list I.kIn ⟨o,h1,h2⟩ e (λz=>nomatch z) λtk=>⟨.bl _,H,I.tok _,rfl,q⟩
theorem a91 {bs:List Bool}{its:List Value}(r:Vals (bs.map V.bl) its)(i:Nat)(v:Value)(h:its[i]? = some v):∃ b,bs[i]? = some b/\v = .bool b:=by
 have hl:=r.length;have hi:i<its.length:=(A01.mp h).1;have hb:i<bs.length:=by rw[A00] at hl;omega
 obtain⟨u,hu,ru⟩:=r.get (i:=i) (x:=.bl bs[i]) (by rw[A07,A03 hb];rfl);rw[h] at hu
 cases hu;exact⟨bs[i],A03 hb,ru⟩
theorem a72 (bs:List Bool):(List.range bs.length).all (λi=>(bs[i]?).getD false)=bs.all id:=by
 rw[A3I,A1T,A1T];constructor
 . intro h b hb;obtain⟨i,hi,e⟩:=List.mem_iff_getElem.mp hb;have:=h i (A1R.mpr hi);rw[A03 hi] at this;rw[<- e];exact this
 intro h i hi;rw[A03 (A1R.mp hi)];exact h _ (A2K _)
theorem ad0 (hc:X.calm=true):CallR X (.builtin "all") (λxs H Q=>∃(a:Addr) (bs:List Bool),xs=[.ref a]/\SqL X.K H a (bs.map V.bl)/\Q (.bl (bs.all id)) H):=by
 intro pins s σ H xs us Q I r h;obtain⟨a,bs,rfl,hl,q⟩:=h;obtain⟨u,rfl,ru⟩:=K7 r
 cases ru;obtain⟨its,rv,pl,hz⟩:=I.list hl;have hlen:=rv.length;have hne:a≠s.heap.objs.size:=by obtain⟨o,n,ho,_⟩:=pl;exact A1C (A0L ho)
 refine call_all_walk (A45 pl.isList ?_);refine⟨_,_,_,_,_,_,λi=>(bs[i]?).getD false,rfl,Walks.list (A:=X.A.in1) (I.ok.hd hc) _ a hne its.toArray,⟨⟨_,A15 _ rfl,rfl,rfl⟩,pl.isList.at λo e=>A06 _ e⟩,λi v s' Q' E' hp hq=>?_,λh' tk hk=>?_⟩
 . obtain⟨b,hb,rfl⟩:=a91 rv i v (by simpa using hp);dsimp only at hq;rw[hb] at hq;exact A2U hq
 refine⟨.bl _,H,I.kept (t':=tk) λb ob e=>hk b ob (λhm=>absurd (Heap.lt_size e) (by rw[show b=s.heap.objs.size by simpa using hm];exact Nat.lt_irrefl _)) (Heap.get?_push_of_some _ e),?_,q⟩;have e1:its.toArray.size=bs.length:=by rw[A0V,<- hlen,A00]
 rw[e1,a72];rfl
end
section
variable {X:Cx}{x:Str}{pos:Pos}
theorem ay4 {v:V}(hg:Gl X x)(hm:∃ u,X.mg x=some u/\RelV v u)(hd:(x==("__debug__":Str))=false:=by decide):PE X (.Name x pos) (tC v):=by obtain⟨u,h1,h2⟩:=hm;exact an6 hg h1 h2 hd
end
section
variable {X:Cx}{K:W.Frag}
def ax7 (K:W.Frag):R2:=λx y H Q=>∃ a b ys,x = .ref a/\y = .ref b/\SqT K H a []/\SqT K H b ys/\Q (.ref b) H
theorem aq7:OpR X (binaryOp .Add) (ax7 X.K):=by
 intro pins s σ H x y v u Q I rx ry h;obtain⟨a,b,ys,rfl,rfl,ha,hb,q⟩:=h
 cases rx
 cases ry;obtain⟨its,r1,p1,_⟩:=I.tuple ha;obtain⟨its2,r2,p2,_⟩:=I.tuple hb
 cases r1;obtain⟨⟨cls,dd,data,sl⟩,ho,hc,n,hd⟩:=id p1;obtain⟨⟨cls2,dd2,data2,sl2⟩,ho2,hc2,n2,hd2⟩:=id p2;simp only at hc hd hc2 hd2;subst hc hd hc2 hd2;exact concat_meets ⟨_,ho,rfl⟩ ⟨_,ho2,rfl⟩ noFill_tuple_add seq_tuple_add PySem.F.slot_tuple_add PySem.F.entry_tuple_add (PySem.F.args_tuple_add_2 _ _) (tuple_addW0 a b _ _ n n2 dd dd2 sl sl2 (by simp)) ⟨ho,ho2,⟨.ref b,H,I,rfl,q⟩⟩
def aJ7 (K:W.Frag):V->Option Int->Option Int->Hp->VK->Prop:=λx lo hi H Q=>∃ a xs,x = .ref a/\SqT K H a xs/\(HT.sIx xs.length 0 lo=0/\HT.sIx xs.length xs.length hi=xs.length)/\Q (.ref a) H
theorem a96:SlR X (aJ7 X.K):=by
 intro pins s σ H x v vl vu lo hi sl Q I rx hs pl pu h;obtain⟨a,xs,rfl,hx,hw,q⟩:=h
 cases rx;obtain⟨its,r,ht,hz⟩:=I.tuple hx;have hlen:its.toArray.size=xs.length:=by rw[A0V];exact r.length.symm
 refine⟨"tuple",_,PyProof.Rows.slot_tuple_getitem.lookup,ht.typeIs,?_⟩;obtain⟨os,hos,hcs,hds⟩:=id hs;have hTs:s.TypeIs (.ref sl) "slice":=⟨os,hos,hcs⟩;unfold getItem
 try with_reducible refine A3A ?_
 first | refine A08 (A0M ?_) | skip
 refine A08 (wpAny_sequenceKey ht.typeIs nofun ?_);refine A08 (A4Y (name:=Str.ofString "__getitem__") ht.typeIs A35 (A50 A35 ht.typeIs entry_tuple_getitem ?_ (args_tuple_getitem _ _)));refine A08 (m:=Builtin.Tuple.tupleItemsOf (.ref a)) (tupleItemsOf_ ht ?_);refine A08 (A4M hTs ?_);rw[A10 nofun];refine A08 (HT.sliceApplied_gen hs pl pu ?_)
 have yes:(((HT.sIx its.toArray.size 0 lo:Nat):Int)==0&&(1:Int)==1&&(HT.sIx its.toArray.size its.toArray.size hi-HT.sIx its.toArray.size 0 lo)==its.toArray.size)=true:=by rw[hlen,hw.1,hw.2];simp
 show wpAny _ _ (if(((HT.sIx its.toArray.size 0 lo:Nat):Int)==0&&(1:Int)==1&&(HT.sIx its.toArray.size its.toArray.size hi-HT.sIx its.toArray.size 0 lo)==its.toArray.size)=true then _ else _) _ _ s
 rw[A10 yes];have fin:∀ s',s'=s->EP X pins σ Q (.ref a) s':=λs' e=>by subst e;exact⟨.ref a,H,I,rfl,q⟩
 unfold Builtin.Tuple.tupleIsExact;obtain⟨hp,g,d,tk,os⟩:=s;have hT:=ht.typeIs
 repeat (any_goals (first | assumption | wp_step))
 exact⟨_,rfl,A0M (fin _ rfl)⟩
end
theorem Inv.freeze {X:Cx}{pins:List (Addr×Obj)}{σ:St}{H:Hp}{s:Shared}{d:Addr}{kvs:List (Key×V)}{o:Obj}(I:Inv X pins σ H s)(hd:H d=some (.dK kvs))(ho:s.heap.get? d=some o):Inv X pins σ (upd H d (.frz o (.dK kvs))) s:=by
 have nn:∀ b,H b=none->upd H d (.frz o (.dK kvs)) b=none:=λb h=>by rw[By (Ne.symm (ne_of_none hd h))];exact h
 have other:∀ b u,H b=some u->u ≠ .dK kvs->upd H d (.frz o (.dK kvs)) b=some u:=λb u h q=>by rw[By (ne_of h hd q)];exact h
 refine⟨I.ok,I.os,I.bare,⟨I.base.keep,I.base.slot,λb ob q n hx=>nn b (I.base.free b ob q n hx),I.base.there,λb xs q=>other b _ (I.base.tups b xs q) (by intro z;cases z),λb ob u q=>other b _ (I.base.frzs b ob u q) (by intro z;cases z),λb ps q=>?_⟩,I.loc,I.cell,nn _ I.free,λx c q=>nn _ (I.freeC x c q),λp hp=>?_,λb u q=>?_,I.len⟩
 . obtain⟨more,h⟩:=I.base.tbls b ps q;exact⟨more,other b _ h (by intro z;cases z)⟩
 . obtain⟨a1,a2,a3⟩:=I.pin p hp;exact⟨a1,nn _ a2,a3⟩
 by_cases e:b=d
 . subst e;rw[Ai] at q
   cases q;exact⟨ho,(I.hok b _ hd).stay (λc v hc z=>z) (λc z=>other c _ z (by intro w;cases w)) λc xs z=>other c _ z (by intro w;cases w)⟩
 rw[By e] at q;exact(I.hok b u q).stay (λc v hc z=>z) (λc z=>other c _ z (by intro w;cases w)) λc xs z=>other c _ z (by intro w;cases w)
def Itd (a:Addr)(o:Obj)(kvs:List (Key×V)):It:=
 ⟨λi H=>H a=some (.frz o (.dK kvs))/\i<kvs.length,λi H x H'=>H'=H/\∃ kv,kvs[i]? = some kv/\x=kV kv.1,λi H=>H a=some (.frz o (.dK kvs))/\kvs.length<=i⟩
theorem ar0 {k:Key}{u:Value}(h:Vc k u=true):RelV (kV k) u:=by
 rcases Bx h with ⟨i,t,rfl,rfl⟩|⟨x,t,rfl,rfl⟩
 . exact⟨t,rfl⟩
 exact⟨t,rfl⟩
theorem a09 {X:Cx}{pins:List (Addr×Obj)}{σ:St}{H:Hp}{s:Shared}{a:Addr}{kvs:List (Key×V)}{o:Obj}{es:Array DictEntry}{ep:Nat}(I:Inv X pins σ H s)(h:H a=some (.frz o (.dK kvs)))(ho:o.data = .dict es ep):∃ vs,KV kvs vs/\s.heap.DictAt (B7 X.prog X.w) a vs ep:=by
 obtain⟨h1,_,_,vs,r,o',es',ep',h2,c,hd,rest⟩:=I.hok a _ h;rw[h1] at h2
 cases h2;rw[ho] at hd
 cases hd;exact⟨vs,r,o,es,h1,c,ho,rest⟩
theorem KV.get:∀ {kvs:List (Key×V)} {vs:List (Key×Value)} {i:Nat} {kv:Key×V},KV kvs vs->kvs[i]? = some kv->∃ u,vs[i]? = some (kv.1,u)/\RelV kv.2 u
 |_,_,_,_,.nil,e=>by simp at e
 |_,_,0,kv,.cons r _,e=>by simp at e;subst e;exact⟨_,congrArg some (Prod.ext r.1.symm rfl),r.2⟩
 |_,_,i+1,kv,.cons _ t,e=>by obtain⟨u,h1,h2⟩:=KV.get (i:=i) t (by simpa using e);exact⟨u,by simpa using h1,h2⟩
theorem Sr {P:Program}{w:World}{K:W.Frag}{tg:Expr}(a it:Addr)(o:Obj)(kvs:List (Key×V))(es:Array DictEntry)(ep:Nat)(hd:o.data = .dict es ep):a97 P w K tg (Itd a o kvs) [it] it (λi h=>h.IsKeyIter it a i kvs.length ep) where
 mem:=by simp
 obj:=λi h st b hb=>by
  have e:b=it:=by simpa using hb
  subst e;obtain⟨o,e,c,d⟩:=st;exact⟨o,e,λv z=>by rw[d] at z;cases z⟩
 keep:=λi h h' st k=>st.at λo e=>k it (by simp) o e
 item:=by
  intro X hP hw hK hc i pins s σ H E I hf st hg;subst hP hw hK;obtain⟨hH,hi⟩:=hg;obtain⟨vs,rv,hat⟩:=a09 I hH hd;have hl:kvs.length=vs.length:=A39 rv;obtain⟨kv,hkv⟩:∃ kv,kvs[i]? = some kv:=⟨kvs[i],A03 hi⟩;obtain⟨u,hu,_⟩:=KV.get rv hkv;obtain⟨f0,f1,f2,f3,f4,f5⟩:=hf it (by simp);rw[hl] at st;refine wpAny_pyNext_dict_item st hat hu λkey h' hkey hit' hs'=>?_;have I1:Inv X pins σ H {s with heap:=h'}:=I.turned (t':=s.toks) (λb o hb e=>(hs'.2 b hb).trans e) f0 f1 f3 f4 f5
  obtain⟨o',e,c,d⟩:=id hit';exact⟨key,rfl,Zf (s:={s with heap:=h'}) e c d nofun ⟨kV kv.1,H,I1,ar0 hkey,⟨rfl,kv,hkv,rfl⟩,by rw[hl];exact hit',λb hb=>(hf b hb).1⟩⟩
 done:=by intro X hP hw hK hc i pins s σ H E I hf st hg;subst hP hw hK;obtain⟨hH,hi⟩:=hg;obtain⟨vs,rv,hat⟩:=a09 I hH hd;have hl:kvs.length=vs.length:=A39 rv;obtain⟨f0,f1,f2,f3,f4,f5⟩:=hf it (by simp);rw[hl] at st;exact wpAny_pyNext_dict_end (I.ok.hd hc) st hat (A5C ∅) λh' eb=>⟨rfl,I.turned (t':=s.toks) (λb o hb e=>eb b o hb e) f0 f1 f3 f4 f5⟩
 self:=λA i s Q E st hQ=>wpAny_pyIter_keyiter st hQ
theorem ap0 {X:Cx}{tg:Expr}{pins:List (Addr×Obj)}{σ:St}{H:Hp}{s:Shared}{a:Addr}{kvs:List (Key×V)}{R:It->Hp->Prop}{E:Value->Shared->Prop}(I:Inv X pins σ H s)(h:H a=some (.dK kvs))(q:∀ o,R (Itd a o kvs) (upd H a (.frz o (.dK kvs)))) :
  wpAny (model X.prog X.w) X.A (pyIter (.ref a)) (PIE X pins σ tg R) E s:=by
 obtain⟨_,hs,vs,rv,o,es,ep,ho,c,hd,rest⟩:=I.hok a _ h;have I1:=I.freeze h ho;have hl:kvs.length=vs.length:=A39 rv;refine wpAny_pyIter_dict (knd:=B7 X.prog X.w) hs ⟨o,es,ho,c,hd,rest⟩ ?_;rw[<- hl];refine⟨s.heap.objs.size,[s.heap.objs.size],_,_,_,rfl,I1.kept (t':=s.toks) λb o e=>A06 _ e,Sr a _ o kvs es ep hd,⟨_,A15 _ rfl,rfl,rfl⟩,λb hb=>?_,q o⟩;have e:b=s.heap.objs.size:=by simpa using hb
 subst e;exact I1.fpOk (A05 _) (I1.hok.fresh (A05 _))
theorem a98 {X:Cx}{tg:Expr}{pins:List (Addr×Obj)}{σ:St}{H:Hp}{s:Shared}{a:Addr}{kvs:List (Key×V)}{o:Obj}{R:It->Hp->Prop}{E:Value->Shared->Prop}(I:Inv X pins σ H s)(h:H a=some (.frz o (.dK kvs)))(q:R (Itd a o kvs) H) :
  wpAny (model X.prog X.w) X.A (pyIter (.ref a)) (PIE X pins σ tg R) E s:=by
 obtain⟨ho',_,hs,vs,rv,o',es,ep,ho,c,hd,rest⟩:=I.hok a _ h;rw[ho'] at ho
 cases ho;have hl:kvs.length=vs.length:=A39 rv;refine wpAny_pyIter_dict (knd:=B7 X.prog X.w) hs ⟨o,es,ho',c,hd,rest⟩ ?_;rw[<- hl];refine⟨s.heap.objs.size,[s.heap.objs.size],_,_,_,rfl,I.kept (t':=s.toks) λb o e=>A06 _ e,Sr a _ o kvs es ep hd,⟨_,A15 _ rfl,rfl,rfl⟩,λb hb=>?_,q⟩;have e:b=s.heap.objs.size:=by simpa using hb
 subst e;exact I.fpOk (A05 _) (I.hok.fresh (A05 _))
theorem Same.seqT {K:W.Frag}{H H':Hp}{a:Addr}{xs:List V}(e:Same H H')(h:SqT K H a xs):SqT K H' a xs:=by
 rcases h with (h|⟨o,h⟩)|h
 . exact .inl (.inl (e _ _ h))
 . exact .inl (.inr ⟨o,e _ _ h⟩)
 exact .inr h
mutual
def Is (K:W.Frag)(H:Hp):PyData->V->Prop
 |.none,v=>v = .non
 |.bool b,v=>v = .bl b
 |.int i,v=>v = .int i
 |.str x,v=>v = .str x
 |.list ds,v=>∃ a xs,v = .ref a/\SqL K H a xs/\IsL K H ds xs
 |.tuple ds,v=>∃ a xs,v = .ref a/\SqT K H a xs/\IsL K H ds xs
 |.dict _,_=>False
def IsL (K:W.Frag)(H:Hp):List PyData->List V->Prop
 | [],vs=>vs=[]
 |d :: ds,vs=>∃ v r,vs=v :: r/\Is K H d v/\IsL K H ds r
end
mutual
theorem Is.mono {K:W.Frag}{H H':Hp}(e:Same H H'):∀(d:PyData) (v:V),Is K H d v->Is K H' d v
 |.none,_,h=>by simp only[Is] at h ⊢;exact h
 |.bool _,_,h=>by simp only[Is] at h ⊢;exact h
 |.int _,_,h=>by simp only[Is] at h ⊢;exact h
 |.str _,_,h=>by simp only[Is] at h ⊢;exact h
 |.list ds,v,h=>by simp only[Is] at h ⊢;obtain⟨a,xs,e1,e2,e3⟩:=h;exact⟨a,xs,e1,e.seq e2,IsL.mono e ds xs e3⟩
 |.tuple ds,v,h=>by simp only[Is] at h ⊢;obtain⟨a,xs,e1,e2,e3⟩:=h;exact⟨a,xs,e1,e.seqT e2,IsL.mono e ds xs e3⟩
 |.dict _,_,h=>by simp only[Is] at h
theorem IsL.mono {K:W.Frag}{H H':Hp}(e:Same H H'):∀(ds:List PyData) (vs:List V),IsL K H ds vs->IsL K H' ds vs
 | [],_,h=>by simp only[IsL] at h ⊢;exact h
 |d :: ds,vs,h=>by simp only[IsL] at h ⊢;obtain⟨v,r,e1,e2,e3⟩:=h;exact⟨v,r,e1,Is.mono e d v e2,IsL.mono e ds r e3⟩
end
section
variable {X:Cx}{pins:List (Addr×Obj)}{σ:St}{H:Hp}{s:Shared}
mutual
theorem Is.reads (I:Inv X pins σ H s):∀(d:PyData) (v:V) (u:Value),Is X.K H d v->RelV v u->∃ as,Reads s.heap u d as
 |.none,v,u,i,r=>by
   simp only[Is] at i;subst i
   cases r;exact⟨_,.none⟩
 |.bool b,v,u,i,r=>by
   simp only[Is] at i;subst i
   cases r;exact⟨_,.bool b⟩
 |.int n,v,u,i,r=>by simp only[Is] at i;subst i;obtain⟨t,rfl⟩:=r;exact⟨_,.int n t⟩
 |.str x,v,u,i,r=>by simp only[Is] at i;subst i;obtain⟨t,rfl⟩:=r;exact⟨_,.str x t⟩
 |.list ds,v,u,i,r=>by
   simp only[Is] at i;obtain⟨a,xs,rfl,e2,e3⟩:=i
   cases r;obtain⟨its,rv,⟨o,n,e,hc,hd,hs⟩,_⟩:=I.list e2;obtain⟨as,ra⟩:=IsL.reads I ds xs its e3 rv;exact⟨_,.list e hc hs (by simpa using ra)⟩
 |.tuple ds,v,u,i,r=>by
   simp only[Is] at i;obtain⟨a,xs,rfl,e2,e3⟩:=i
   cases r;obtain⟨its,rv,⟨o,e,hc,n,hd⟩,_⟩:=I.tuple e2;obtain⟨as,ra⟩:=IsL.reads I ds xs its e3 rv;exact⟨_,.tuple e hc hd (by simpa using ra)⟩
 |.dict _,_,_,i,_=>by simp only[Is] at i
theorem IsL.reads (I:Inv X pins σ H s):∀(ds:List PyData) (vs:List V) (us:List Value),IsL X.K H ds vs->Vals vs us->∃ as,ReadsAll s.heap us ds as
 | [],vs,us,i,r=>by
   simp only[IsL] at i;subst i
   cases r;exact⟨_,.nil⟩
 |d :: ds,vs,us,i,r=>by
   simp only[IsL] at i;obtain⟨v,rr,rfl,e2,e3⟩:=i
   cases r with
   |cons r1 r2=>obtain⟨a1,h1⟩:=Is.reads I d v _ e2 r1;obtain⟨a2,h2⟩:=IsL.reads I ds rr _ e3 r2;exact⟨_,.cons h1 h2⟩
end
end
theorem Z1 {K:W.Frag}{H:Hp}:∀ ns:List Int,IsL K H (ns.map PyData.int) (ns.map V.int)
 | []=>by simp only[List.map_nil,IsL]
 |n :: r=>by simp only[List.map_cons,IsL];exact⟨_,_,rfl,by simp only[Is],Z1 r⟩
theorem R8 {K:W.Frag}{H:Hp}:∀ ns:List Str,IsL K H (ns.map PyData.str) (ns.map V.str)
 | []=>by simp only[List.map_nil,IsL]
 |n :: r=>by simp only[List.map_cons,IsL];exact⟨_,_,rfl,by simp only[Is],R8 r⟩
theorem Vw {K:W.Frag}{H:Hp}{a:Addr}{ns:List Int}(h:SqL K H a (ns.map V.int)):Is K H (.list (ns.map PyData.int)) (.ref a):=by simp only[Is];exact⟨a,_,rfl,h,Z1 ns⟩
structure QA (A:Around):Prop where
 un:A.units+150<cLine
 gd:A.guards=some []
theorem C7 {A:Around}{k:Nat}(hr:Room k A):QA A:=⟨by have:=hr.un;omega,hr.gd⟩
section
variable {X:Cx}
def Tt (K:W.Frag):R2:=λx y H Q=>(∃ i j,x = .int i/\y = .int j/\Q (.int (i+j)) H)\/(∃ i j,x = .str i/\y = .str j/\i.length+j.length<=sizeLine/\Q (.str (i++j)) H)\/aK6 x y H Q\/aC3 K x y H Q\/ax7 K x y H Q
theorem am0:OpR X (binaryOp .Add) (Tt X.K):=op_add.or (op_add_str.or (op_cat.or (op_catT.or aq7)))
def ab5:R2:=λx y H Q=>(∃ i j,x = .int i/\y = .int j/\CMul i j/\Q (.int (i*j)) H)\/aI7 x y H Q
theorem op_mulA:OpR X (binaryOp .Mult) ab5:=op_mul.or aw0
theorem M9:OpR X (binaryOp .FloorDiv) (rI aI2 λi j=>.int (i / j)):=aq6
def aE4 (K:W.Frag)(neg:Bool):R2:=λx y H Q=>∃ dx dy,Is K H dx x/\Is K H dy y/\SeqAt.shaped dx=true/\SeqAt.shaped dy=true/\Q (.bl (if neg then !PyData.eqv dx dy else PyData.eqv dx dy)) H
theorem aD1 (hq:QA X.A):OpR X (compareOp .Eq) (aE4 X.K false):=by intro pins s σ H x y v u Q I rx ry h;obtain⟨dx,dy,ix,iy,sx,sy,q⟩:=h;obtain⟨as,ra⟩:=Is.reads I dx x v ix rx;obtain⟨bs,rb⟩:=Is.reads I dy y u iy ry;exact eq_dataH ra rb sx sy (by have:=hq.un;omega) ⟨.bl _,H,I,rfl,q⟩
theorem aB4 (hq:QA X.A):OpR X (compareOp .NotEq) (aE4 X.K true):=by intro pins s σ H x y v u Q I rx ry h;obtain⟨dx,dy,ix,iy,sx,sy,q⟩:=h;obtain⟨as,ra⟩:=Is.reads I dx x v ix rx;obtain⟨bs,rb⟩:=Is.reads I dy y u iy ry;exact ne_dataH ra rb sx sy (by have:=hq.un;omega) ⟨.bl _,H,I,rfl,q⟩
def aE8 (K:W.Frag):R2:=λx y H Q=>rEq x y H Q\/aE4 K false x y H Q
def aE1 (K:W.Frag):R2:=λx y H Q=>rNe x y H Q\/aE4 K true x y H Q
theorem az3 (hq:QA X.A):OpR X (compareOp .Eq) (aE8 X.K):=op_eq.or (aD1 hq)
theorem aC4 (hq:QA X.A):OpR X (compareOp .NotEq) (aE1 X.K):=op_ne.or (aB4 hq)
def rInT (neg:Bool):R2:=λx y H Q=>∃ i j,x = .str i/\y = .str j/\Q (.bl (if neg then !(!(Builtin.Str.occurrences j i 0 j.length 1).isEmpty) else !(Builtin.Str.occurrences j i 0 j.length 1).isEmpty)) H
def aH9 (neg:Bool):R2:=λx y H Q=>∃ a o,y = .ref a/\DGet H a x o/\Q (.bl (if neg then !o.isSome else o.isSome)) H
theorem av9 (hu:X.A.units+1<cLine):OpR X (compareOp .In) (aH9 false):=by
 intro pins s σ H x y v u Q I rx ry h;obtain⟨a,o,rfl,g,q⟩:=h
 cases ry;exact d_in hu I g rx λs' I'=>⟨.bl _,H,I',rfl,q⟩
theorem Yk (hu:X.A.units+1<cLine):OpR X (compareOp .NotIn) (aH9 true):=by
 intro pins s σ H x y v u Q I rx ry h;obtain⟨a,o,rfl,g,q⟩:=h
 cases ry;exact an3 hu I g rx λs' I'=>⟨.bl _,H,I',rfl,q⟩
def aH0 (K:W.Frag)(neg:Bool):R2:=λx y H Q=>∃ d ds,Is K H d x/\(Is K H (.list ds) y\/Is K H (.tuple ds) y)/\PyData.canLayAll0 ds=true/\d.canLay0=true/\d.depth<=100/\Q (.bl (if neg then !(ds.any λe=>PyData.eqv e d) else ds.any λe=>PyData.eqv e d)) H
theorem av7 (hq:QA X.A):OpR X (compareOp .In) (aH0 X.K false):=by
 intro pins s σ H x y v u Q I rx ry h;obtain⟨d,ds,ix,iy,h1,h2,h3,q⟩:=h;obtain⟨bs,rb⟩:=Is.reads I d x v ix rx;rcases iy with iy|iy
 . obtain⟨as,ra⟩:=Is.reads I _ y u iy ry;exact SeqAt.in_list_reads ra rb h1 h2 (by have:=hq.un;have:=A4C (PyData.depthAll ds) d.depth;omega) ⟨.bl _,H,I,rfl,q⟩
 obtain⟨as,ra⟩:=Is.reads I _ y u iy ry;exact SeqAt.in_tuple_reads ra rb h1 h2 (by have:=hq.un;have:=A4C (PyData.depthAll ds) d.depth;omega) ⟨.bl _,H,I,rfl,q⟩
theorem a86 (hq:QA X.A):OpR X (compareOp .NotIn) (aH0 X.K true):=by
 intro pins s σ H x y v u Q I rx ry h;obtain⟨d,ds,ix,iy,h1,h2,h3,q⟩:=h;obtain⟨bs,rb⟩:=Is.reads I d x v ix rx;rcases iy with iy|iy
 . obtain⟨as,ra⟩:=Is.reads I _ y u iy ry;exact SeqAt.notIn_list_reads ra rb h1 h2 (by have:=hq.un;have:=A4C (PyData.depthAll ds) d.depth;omega) ⟨.bl _,H,I,rfl,q⟩
 obtain⟨as,ra⟩:=Is.reads I _ y u iy ry;exact SeqAt.notIn_tuple_reads ra rb h1 h2 (by have:=hq.un;have:=A4C (PyData.depthAll ds) d.depth;omega) ⟨.bl _,H,I,rfl,q⟩
def Tr (K:W.Frag)(neg:Bool):R2:=λx y H Q=>rIn K neg x y H Q\/rInT neg x y H Q\/aH9 neg x y H Q\/aH0 K neg x y H Q
theorem QA.hu {A:Around}(h:QA A):A.units+1<cLine:=by have:=h.un;omega
theorem av4 (hq:QA X.A):OpR X (compareOp .In) (Tr X.K false):=op_in_seq.or (op_in_str.or ((av9 hq.hu).or (av7 hq)))
theorem a47 (hq:QA X.A):OpR X (compareOp .NotIn) (Tr X.K true):=op_notIn_seq.or (op_notIn_str.or ((Yk hq.hu).or (a86 hq)))
def az0 (K:W.Frag):V->Option Int->Option Int->Hp->VK->Prop:=λx lo hi H Q=>aJ2 K x lo hi H Q\/aK5 K x lo hi H Q\/aI5 x lo hi H Q\/aJ7 K x lo hi H Q
theorem sl_A:SlR X (az0 X.K):=sl_list.or (sl_tup.or (sl_str.or a96))
def aK3:R2:=λx y H Q=>∃ a v,x = .ref a/\DGet H a y (some v)/\Q v H
theorem ap9 (hu:X.A.units+1<cLine):IxR X aK3:=by
 intro value slice pins s σ H x y v u Q I rx ry h hs;obtain⟨a,z,rfl,g,q⟩:=h
 cases rx;exact tail_any (Vd I g) PySem.F.slot_dict_getitem.lookup (Ys hu I g ry λw' s' I' rw'=>⟨z,H,I',rw',q⟩) hs
def Y4 (K:W.Frag):R2:=λx y H Q=>rIx K x y H Q\/aK3 x y H Q
theorem au9 (hu:X.A.units+1<cLine):IxR X (Y4 X.K):=ix_seq.or (ap9 hu)
def Uq (K:W.Frag):List V->Hp->VK->Prop:=λxs H Q=>(∃ x n,xs=[x]/\aK2 K x H n/\Q (.int n) H)\/∃ a kvs,xs=[V.ref a]/\H a=some (.dK kvs)/\Q (.int kvs.length) H
theorem a59:CallR X (.builtin "len") (Uq X.K):=call_len.or a85
def R1 (K:W.Frag):List V->Hp->VK->Prop:=λxs H Q=>(∃ x c t b,xs=[x,.ty c]/\Tn K H x t/\W.kitOne K t (.type c)=some b/\Q (.bl b) H)\/(∃ x c t b,xs=[x,.ref c]/\Tn K H x t/\W.kitOne K t (.ref c)=some b/\Q (.bl b) H)\/∃ a ys c b,xs=[V.ref a,.ty c]/\((SqT K H a ys/\W.kitOne K (.type "tuple") (.type c)=some b)\/(SqL K H a ys/\W.kitOne K (.type "list") (.type c)=some b))/\Q (.bl b) H
theorem Tg:CallR X (.builtin "isinstance") (R1 X.K):=call_isinst.or (call_isinstR.or Rp)
def Ww (K:W.Frag):List V->Hp->VK->Prop:=λxs H Q=>∃ p ys,xs=[.ref p]/\(SqL K H p ys\/SqT K H p ys)/\∀ l,H l=none->Q (.ref l) (upd H l (.lst ys))
theorem Xz:CallR X (.type "list") (Ww X.K):=Ro
def Ps (K:W.Frag):List V->Hp->VK->Prop:=λxs H Q=>∃ p ys,xs=[.ref p]/\((SqL K H p ys/\∀ l,H l=none->Q (.ref l) (upd H l (.tup ys)))\/(SqT K H p ys/\Q (.ref p) H))
theorem Vh:CallR X (.type "tuple") (Ps X.K):=Qj
def ag1:List V->Hp->VK->Prop:=λxs H Q=>(∃ b,xs=[.bl b]/\Q (.str (if b then "True" else "False")) H)\/(xs=[.non]/\Q (.str "None") H)
theorem call_reprA:CallR X (.builtin "repr") ag1:=Y1
def aw4:List V->Hp->VK->Prop:=λxs H Q=>(∃ i,xs=[.int i]/\Q (.int i) H)\/∃ k,xs=[.bl k]/\Q (.int (if k then 1 else 0)) H
theorem Si:CallR X (.type "int") aw4:=Zx
def ak3 (K:W.Frag):List V->Hp->VK->Prop:=λxs H Q=>∃(a:Addr) (bs:List Bool),xs=[.ref a]/\SqL K H a (bs.map V.bl)/\Q (.bl (bs.all id)) H
theorem a63 (hc:X.calm=true):CallR X (.builtin "all") (ak3 X.K):=ad0 hc
variable {tg:Expr}
def Ki (K:W.Frag)(x:V)(H1:Hp)(R:It->Hp->Prop):Prop:=(∃ a,x = .ref a/\(∃ xs,SqL K H1 a xs)/\R (Itl K a) H1)\/(∃ a,x = .ref a/\(∃ xs,SqT K H1 a xs)/\R (Itt K a) H1)\/(∃ z,x = .str z/\R (Its z) H1)\/∃ a kvs,x = .ref a/\((H1 a=some (.dK kvs)/\∀ o,R (Itd a o kvs) (upd H1 a (.frz o (.dK kvs))))\/∃ o,H1 a=some (.frz o (.dK kvs))/\R (Itd a o kvs) H1)
def aG2 (K:W.Frag)(tl:TE):TI:=fun σ H R=>tl σ H λx H1=>Ki K x H1 R
theorem aC6 (hu:X.A.units+1<cLine){l:Expr}{tl:TE}(hl:PE X l tl):PI X tg l (aG2 X.K tl):=by
 intro pins s σ H R I h;refine thn (hl pins s σ H _ I h) λv s1 ⟨x,H1,I1,r1,q1⟩=>?_;rcases q1 with ⟨a,e,⟨xs,hq⟩,q⟩|⟨a,e,⟨xs,hq⟩,q⟩|⟨z,e,q⟩|⟨a,kvs,e,q⟩
 . subst e
   cases r1;obtain⟨its,rv,p,hz⟩:=I1.list hq;refine A45 p.isList ?_;refine⟨s1.heap.objs.size,[s1.heap.objs.size],_,_,H1,rfl,I1.kept (t':=s1.toks) λb o e=>A06 _ e,Zu a _,⟨_,A15 _ rfl,rfl,rfl⟩,λb hb=>?_,q⟩;have e:b=s1.heap.objs.size:=by simpa using hb
   subst e;exact I1.fpOk (A05 _) (I1.hok.fresh (A05 _))
 . subst e
   cases r1;obtain⟨its,rv,p,hz⟩:=I1.tuple hq;refine wpAny_pyIter_tuple (show s1.heap.IsTuple a its.toArray from p) ?_;refine⟨s1.heap.objs.size,[s1.heap.objs.size],_,_,H1,rfl,I1.kept (t':=s1.toks) λb o e=>A06 _ e,Xk a _,⟨_,A15 _ rfl,rfl,rfl⟩,λb hb=>?_,q⟩;have e:b=s1.heap.objs.size:=by simpa using hb
   subst e;exact I1.fpOk (A05 _) (I1.hok.fresh (A05 _))
 . subst e;exact az9 I1 r1 q
 subst e
 cases r1;rcases q with ⟨hd,q⟩|⟨o,hd,q⟩
 . exact ap0 I1 hd q
 exact a98 I1 hd q
end
def Fnd (P:Program)(w:World)(K:W.Frag)(mg:Str->Option Value)(base:Heap)(k:Nat)(x:Str)(ps:List Str)(sp:Sp):Prop:=
 ∃ f fd,FnOk P w K mg base CX0 k f fd ps sp/\mg x=some (.ref f)/\W.keepIn K (.ref f)=true/\Binds K fd ps []
section
variable {X:Cx}{k:Nat}{x:Str}{ps:List Str}{sp:Sp}{e:Expr}{es:List Expr}{t:TA}{p pos:Pos}
theorem As (F:Fnd X.prog X.w X.K X.mg X.base k x ps sp)(hr:Room k X.A)(hg:Gl X x)(ha:PA X (e :: es) t)(hdb:(x==("__debug__":Str))=false:=by decide)
  (he:starEach (e :: es) X.env=(false,eval e X.env) :: starEach es X.env:=by ac_nf) (hpl:(backTo pos (starEach es X.env)).any (·.1)=false:=by ac_nf):PE X (.Call (.Name x p) (e :: es) [] pos) (ap2 sp [] E0 t):=by
 obtain⟨f,fd,h1,h2,h3,h4⟩:=F;exact an7 h1 hr hg h2 h3 h4 .nil ap6 ha hdb he hpl
end
def ExtBut (d:Addr)(H H':Hp):Prop:=∀ b o,b≠d->H b=some o->H' b=some o
theorem Same.lk {H H':Hp}{a:Addr}{o:HO}(e:Same H H')(h:H a=some o):H' a=some o:=e a o h
theorem ExtBut.lk {d:Addr}{H H':Hp}{a:Addr}{o:HO}(e:ExtBut d H H')(h:H a=some o)(n:a≠d):H' a=some o:=e a o n h
theorem Same.upd {H:Hp}{p:Addr}{o:HO}(h:H p=none):Same H (upd H p o):=λb u e=>by rw[By (ne_of_none e h)];exact e
theorem ExtBut.upd {H:Hp}{p:Addr}{o:HO}:ExtBut p H (upd H p o):=λb u n e=>by rw[By n];exact e
theorem Same.but {d:Addr}{H H':Hp}(e:Same H H'):ExtBut d H H':=λb o _ h=>e b o h
theorem ExtBut.trans {d:Addr}{H H1 H2:Hp}(a:ExtBut d H H1)(b:ExtBut d H1 H2):ExtBut d H H2:=λc o n h=>b c o n (a c o n h)
theorem ExtBut.same {d:Addr}{H H1 H2:Hp}(a:ExtBut d H H1)(b:Same H1 H2):ExtBut d H H2:=λc o n h=>b c o (a c o n h)
theorem ExtBut.refl {d:Addr}{H:Hp}:ExtBut d H H:=λ_ _ _ h=>h
def ax0 (xs:List V)(H:Hp)(Q:VK):Prop:=xs.length<=sizeLine/\∀ p,H p=none->Q (.ref p) (upd H p (.tup xs))
def aA7 (xs:List V)(H:Hp)(Q:VK):Prop:=xs.length<=sizeLine/\∀ p,H p=none->Q (.ref p) (upd H p (.lst xs))
def av6 (vs:List V)(H:Hp)(R:It->Hp->Prop):Prop:=∃ j:Int,vs=[.int j] /\ -(2 ^ 62)<=j/\j<2 ^ 62/\R (Itr 0 j.toNat) H
def az1 (vs:List V)(H:Hp)(R:It->Hp->Prop):Prop:=∃ i j:Int,vs=[.int i,.int j]/\(-(2 ^ 62)<=i/\i<2 ^ 62 /\ -(2 ^ 62)<=j/\j<2 ^ 62)/\R (Itr i (j-i).toNat) H
def ar8 (g:TG)(tb:TS)(D:Pk)(σ:St)(J:It)(H1:Hp):Prop:=∃ W:Nat->Nat->St->Hp->Prop,(∃ m,W 0 m σ H1)/\∀ i m σ H,W i m σ H ->
 (J.stop i H/\D.nx σ H)\/(J.go i H/\∃ N:St->Hp->Prop,(∀ σ' H',N σ' H'->∃ m',m'<m/\W (i+1) m' σ' H')/\∀ x H',J.yld i H x H'->g x σ H' fun σ2 H2=>tb {D with nx:=N,ct:=N,bk:=D.nx} σ2 H2)
def Sk (k:Nat)(js:List Nat)(g:TG)(tt:TT)(te:TE)(σ:St)(J:It)(H1:Hp)(Q:VK):Prop:=∀ p,H1 p=none ->
 ∃ W:Nat->Nat->Hp->Prop,(∃ m,W 0 m (upd H1 p (.lst [])))/\∀ i m H,W i m H ->
  (J.stop i H/\Q (.ref p) H)\/(J.go i H/\∃ N:Hp->Prop,(∀ H',N H'->∃ m',m'<m/\W (i+1) m' H') /\
   ∀ x H',J.yld i H x H'->g x (List.replicate k none++Re σ js) H' fun σ2 H2=>tt σ2 H2 λb H3=>if b=true then te σ2 H3 λy H4=>∃ acc,H4 p=some (.lst acc)/\acc.length<sizeLine/\N (upd H4 p (.lst (acc++[y]))) else N H3)
def ag6 (p:Addr)(ps:List (V×V))(H:Hp)(Q:VK):Prop:=H p=some (.dK [])/\∃ kvs:List (Key×V),ps=kvs.map (λkv=>(kV kv.1,kv.2))/\kvs.length<=15/\Q (.ref p) (upd H p (.dK (Gg [] kvs)))
section
variable {K:W.Frag}{σ:St}{H:Hp}{Q:VK}{D:Pk}{ta tb te:TE}{c:TT}{t u:TS}{x y v:V}{i j:Int}
theorem i_var {n:Nat}(h:σ[n]? = some (some v))(k:Q v H):aH4 n σ H Q:=⟨v,h,k⟩
theorem i_c (k:Q v H):tC v σ H Q:=k
theorem i_next (k:D.nx σ H):aB8 D σ H:=k
theorem i_ret (k:te σ H D.rt):aJ1 te D σ H:=k
theorem i_drop (k:te σ H λ_ H1=>D.nx σ H1):aA1 te D σ H:=k
theorem i_asg {g:TG}(k:te σ H λx H1=>g x σ H1 D.nx):ar7 te g D σ H:=k
theorem i_gname {n:Nat}{R:St->Hp->Prop}(k:R (σ.set n (some v)) H):M3 n v σ H R:=k
theorem i_if (k:c σ H λb H1=>if b=true then t D σ H1 else u D σ H1):aJ8 c t u D σ H:=k
theorem i_op {r:R2}(k:ta σ H λx H1=>tb σ H1 λy H2=>r x y H2 Q):tOp r ta tb σ H Q:=k
theorem i_un {r:V->Hp->VK->Prop}(k:ta σ H λx H1=>r x H1 Q):tUn r ta σ H Q:=k
theorem i_rU {g:Int->V}(k:Q (g i) H):rU g (.int i) H Q:=⟨i,rfl,k⟩
theorem i_rI0 {g:Int->Int->V}(k:Q (g i j) H):rI0 g (.int i) (.int j) H Q:=⟨i,j,rfl,rfl,k⟩
theorem i_rI {C:Int->Int->Prop}{g:Int->Int->V}(h:C i j)(k:Q (g i j) H):rI C g (.int i) (.int j) H Q:=⟨i,j,rfl,rfl,h,k⟩
theorem i_addI (k:Q (.int (i+j)) H):Tt K (.int i) (.int j) H Q:=.inl ⟨i,j,rfl,rfl,k⟩
theorem i_addS {a b:Str}(h:a.length+b.length<=sizeLine)(k:Q (.str (a++b)) H):Tt K (.str a) (.str b) H Q:=.inr (.inl ⟨a,b,rfl,rfl,h,k⟩)
theorem Nc {a b:Addr}{xs ys:List V}(h1:H a=some (.lst xs))(h2:H b=some (.lst ys))(h:xs.length+ys.length<=sizeLine)(k:∀ p H',H p=none->Same H H'->H' p=some (.lst (xs++ys))->Q (.ref p) H'):Tt K (.ref a) (.ref b) H Q:=
 .inr (.inr (.inl ⟨a,b,xs,ys,rfl,rfl,h1,h2,h,λp hp=>k p _ hp (Same.upd hp) Ai⟩))
theorem aC0 (h:CMul i j)(k:Q (.int (i*j)) H):ab5 (.int i) (.int j) H Q:=.inl ⟨i,j,rfl,rfl,h,k⟩
theorem at2 {a:Addr}{xs:List V}(h1:H a=some (.lst xs))(h2:-(2 ^ 63)<=i/\i<2 ^ 63)(h3:xs.length*i.toNat<=sizeLine)(k:∀ p H',H p=none->Same H H'->H' p=some (.lst (List.replicate i.toNat xs).flatten)->Q (.ref p) H'):ab5 (.ref a) (.int i) H Q:=
 .inr ⟨a,i,xs,rfl,rfl,h1,h2.1,h2.2,h3,λp hp=>k p _ hp (Same.upd hp) Ai⟩
theorem i_eqS (h:aE3 x y=true)(k:Q (.bl (decide (x=y))) H):aE8 K x y H Q:=.inl ⟨h,k⟩
theorem i_neS (h:aE3 x y=true)(k:Q (.bl (!decide (x=y))) H):aE1 K x y H Q:=.inl ⟨h,k⟩
theorem aC1 {dx dy:PyData}(h1:Is K H dx x)(h2:Is K H dy y)(h3:SeqAt.shaped dx=true)(h4:SeqAt.shaped dy=true)(k:Q (.bl (PyData.eqv dx dy)) H):aE8 K x y H Q:=.inr ⟨dx,dy,h1,h2,h3,h4,k⟩
theorem ac9 {dx dy:PyData}(h1:Is K H dx x)(h2:Is K H dy y)(h3:SeqAt.shaped dx=true)(h4:SeqAt.shaped dy=true)(k:Q (.bl (!PyData.eqv dx dy)) H):aE1 K x y H Q:=.inr ⟨dx,dy,h1,h2,h3,h4,k⟩
theorem i_true {R:Bool->Hp->Prop}(k:R true H):ab7 σ H R:=k
theorem i_tTest {R:Bool->Hp->Prop}(k:te σ H λx H'=>∃ b,x = .bl b/\R b H'):aC2 te σ H R:=k
theorem i_tB {R:Bool->Hp->Prop}(k:te σ H λx H'=>∃ b,x = .bl b/\R b H'):tB te σ H R:=k
theorem i_bl {b:Bool}{R:Bool->Prop}(k:R b):∃ c,V.bl b = .bl c/\R c:=⟨b,rfl,k⟩
theorem i_not {R:Bool->Hp->Prop}(k:c σ H λb H1=>R (!b) H1):aK7 c σ H R:=k
theorem i_and {c':TT}{R:Bool->Hp->Prop}(k:c σ H λb H1=>if b=true then c' σ H1 R else R false H1):aJ0 c c' σ H R:=k
theorem i_or {c':TT}{R:Bool->Hp->Prop}(k:c σ H λb H1=>if b=true then R true H1 else c' σ H1 R):tOr c c' σ H R:=k
theorem Ej {a:Addr}{xs:List V}(h:H a=some (.lst xs))(e:atI xs i=some v)(k:Q v H):Y4 K (.ref a) (.int i) H Q:=.inl (.inl ⟨a,xs,i,v,rfl,rfl,SqL.of h,e,k⟩)
theorem al9 {z:Str}{s:Nat}(h:z.length<=sizeLine)(e:atI z.cps.toList i=some s)(k:Q (.str ⟨#[s]⟩) H):Y4 K (.str z) (.int i) H Q:=.inl (.inr (.inr ⟨z,i,s,rfl,rfl,h,e,k⟩))
theorem i_ixD {a:Addr}{kvs:List (Key×V)}{z:Str}(h:H a=some (.dK kvs))(e:Ee kvs (Sum.inr z:Key)=some v)(k:Q v H):Y4 K (.ref a) (.str z) H Q:=.inr ⟨a,v,rfl,by rw[<- e];exact DGet.k (k:=Sum.inr z) h,k⟩
theorem i_lenL {a:Addr}{xs:List V}(h:H a=some (.lst xs))(k:Q (.int xs.length) H):Uq K [.ref a] H Q:=.inl ⟨.ref a,_,rfl,.inl ⟨xs,SqL.of h,rfl⟩,k⟩
theorem i_lenT {a:Addr}{xs:List V}(h:H a=some (.tup xs))(k:Q (.int xs.length) H):Uq K [.ref a] H Q:=.inl ⟨.ref a,_,rfl,.inr ⟨xs,SqT.of h,rfl⟩,k⟩
theorem ai3 {c:String}{b:Bool}{a:Addr}{ys:List V}(h:SqT K H a ys)(e:W.kitOne K (.type "tuple") (.type c)=some b)(k:Q (.bl b) H):R1 K [.ref a,.ty c] H Q:=.inr (.inr ⟨a,ys,c,b,rfl,.inl ⟨h,e⟩,k⟩)
theorem at3 {c:String}{b:Bool}{a:Addr}{ys:List V}(h:SqL K H a ys)(e:W.kitOne K (.type "list") (.type c)=some b)(k:Q (.bl b) H):R1 K [.ref a,.ty c] H Q:=.inr (.inr ⟨a,ys,c,b,rfl,.inr ⟨h,e⟩,k⟩)
theorem ao3 {a:Addr}{xs:List V}(h:SqL K H a xs)(k:∀ p H',H p=none->Same H H'->H' p=some (.lst xs)->Q (.ref p) H'):Ww K [.ref a] H Q:=⟨a,xs,rfl,.inl h,λp hp=>k p _ hp (Same.upd hp) Ai⟩
theorem Pw {a:Addr}{xs:List V}(h:SqL K H a xs)(k:∀ p H',H p=none->Same H H'->H' p=some (.tup xs)->Q (.ref p) H'):Ps K [.ref a] H Q:=⟨a,xs,rfl,.inl ⟨h,λp hp=>k p _ hp (Same.upd hp) Ai⟩⟩
theorem i_intB {b:Bool}(k:Q (.int (if b then 1 else 0)) H):aw4 [.bl b] H Q:=.inr ⟨b,rfl,k⟩
theorem aA2 {a:Addr}{bs:List Bool}(h:SqL K H a (bs.map V.bl))(k:Q (.bl (bs.all id)) H):ak3 K [.ref a] H Q:=⟨a,bs,rfl,h,k⟩
theorem i_sl {r:V->Option Int->Option Int->Hp->VK->Prop}{tl th:TO}(k:te σ H λx H1=>tl σ H1 λl H2=>th σ H2 λu H3=>r x l u H3 Q):tSl r te tl th σ H Q:=k
theorem i_noPart {R:Option Int->Hp->Prop}(k:R none H):Zj σ H R:=k
theorem i_part {R:Option Int->Hp->Prop}(k:te σ H λx H1=>∃ i,x = .int i/\R (some i) H1):ay7 te σ H R:=k
theorem i_int {R:Int->Prop}(k:R i):∃ j,V.int i = .int j/\R j:=⟨i,rfl,k⟩
theorem i_slS {z:Str}{lo hi:Option Int}(h:z.length<=sizeLine)(k:Q (.str (Txt.slice z lo hi)) H):az0 K (.str z) lo hi H Q:=.inr (.inr (.inl ⟨z,rfl,h,k⟩))
theorem Ni {a:Addr}{xs:List V}{lo hi:Option Int}(h:SqL K H a xs)(k:∀ p H',H p=none->Same H H'->H' p=some (.lst (Lv xs lo hi))->Q (.ref p) H'):az0 K (.ref a) lo hi H Q:=.inl ⟨a,xs,rfl,h,λp hp=>k p _ hp (Same.upd hp) Ai⟩
theorem i_bm {T:String}{r:V->List V->Hp->VK->Prop}{ts:TA}(k:te σ H λx H1=>tyV K T x H1/\ts σ H1 λxs H2=>r x xs H2 Q):tBM K T r te ts σ H Q:=k
theorem i_bm0 {T:String}{r:V->List V->Hp->VK->Prop}(k:te σ H λx H1=>tyV K T x H1/\r x [] H1 Q):aF6 K T r te σ H Q:=k
theorem i_call {sp:Sp}{E:XK}{ts:TA}(k:ts σ H λvs H1=>sp (vs++[]) H1 Q E):ap2 sp [] E ts σ H Q:=k
theorem i_cb {r:List V->Hp->VK->Prop}{ts:TA}(k:ts σ H λvs H1=>r vs H1 Q):tCB r ts σ H Q:=k
theorem i_cons {tr:TA}{R:List V->Hp->Prop}(k:ta σ H λx H1=>tr σ H1 λxs H2=>R (x :: xs) H2):at4 ta tr σ H R:=k
theorem i_nil {R:List V->Hp->Prop}(k:R [] H):aJ5 σ H R:=k
theorem i_tup {ts:TA}(k:ts σ H λxs H1=>ax0 xs H1 Q):aK4 ts σ H Q:=k
theorem i_lst {ts:TA}(k:ts σ H λxs H1=>aA7 xs H1 Q):aJ3 ts σ H Q:=k
theorem Bq {xs:List V}(h:xs.length<=sizeLine)(k:∀ p H',H p=none->Same H H'->H' p=some (.tup xs)->Q (.ref p) H'):ax0 xs H Q:=⟨h,λp hp=>k p _ hp (Same.upd hp) Ai⟩
theorem Bg {xs:List V}(h:xs.length<=sizeLine)(k:∀ p H',H p=none->Same H H'->H' p=some (.lst xs)->Q (.ref p) H'):aA7 xs H Q:=⟨h,λp hp=>k p _ hp (Same.upd hp) Ai⟩
theorem a54 (k:∀ p H',H p=none->Same H H'->H' p=some (.dK [])->Q (.ref p) H'):ah8 σ H Q:=λp hp=>k p _ hp (Same.upd hp) Ai
theorem i_put {td ty tv:TE}(k:tv σ H λv H1=>td σ H1 λx H2=>ty σ H2 λy H3=>∃ a H4,x = .ref a/\DPut H3 a y v H4/\D.nx σ H4):ax6 td ty tv D σ H:=k
theorem Lq {a:Addr}{kvs:List (Key×V)}{z:Str}{R:Hp->Prop}(h:H a=some (.dK kvs))(hl:kvs.length<1000)(k:∀ H',ExtBut a H H'->H' a=some (.dK (Gx kvs (Sum.inr z) v))->R H'):∃ b H4,V.ref a = .ref b/\DPut H b (.str z) v H4/\R H4:=
 ⟨a,_,rfl,DPut.k (k:=Sum.inr z) h (a55 (A1O hl)),k _ ExtBut.upd Ai⟩
theorem i_for {wi:TI}{g:TG}{tb:TS}(k:wi σ H λJ H1=>ar8 g tb D σ J H1):aI6 wi g tb D σ H:=k
theorem i_comp {m:Nat}{js:List Nat}{wi:TI}{g:TG}{tt:TT}(k:wi σ H λJ H1=>Sk m js g tt te σ J H1 Q):ak6 m js wi g tt te σ H Q:=k
theorem Go {a:Addr}{xs:List V}{R:It->Hp->Prop}(h:SqL K H a xs)(k:R (Itl K a) H):Ki K (.ref a) H R:=.inl ⟨a,rfl,⟨xs,h⟩,k⟩
theorem Ry {a:Addr}{xs:List V}{R:It->Hp->Prop}(h:SqT K H a xs)(k:R (Itt K a) H):Ki K (.ref a) H R:=.inr (.inl ⟨a,rfl,⟨xs,h⟩,k⟩)
theorem i_rng1 {ts:TA}{R:It->Hp->Prop}(k:ts σ H λvs H1=>av6 vs H1 R):aw9 ts σ H R:=k
theorem Gq {R:It->Hp->Prop}(h:-(2 ^ 62)<=i/\i<2 ^ 62)(k:R (Itr 0 i.toNat) H):av6 [V.int i] H R:=⟨i,rfl,h.1,h.2,k⟩
theorem i_rng2 {ts:TA}{R:It->Hp->Prop}(k:ts σ H λvs H1=>az1 vs H1 R):az4 ts σ H R:=k
theorem Wu {R:It->Hp->Prop}(h:(-(2 ^ 62)<=i/\i<2 ^ 62) /\ -(2 ^ 62)<=j/\j<2 ^ 62)(k:R (Itr i (j-i).toNat) H):az1 [V.int i,V.int j] H R:=⟨i,j,rfl,⟨h.1.1,h.1.2,h.2.1,h.2.2⟩,k⟩
theorem i_iany {R:It->Hp->Prop}(k:te σ H λx H1=>Ki K x H1 R):aG2 K te σ H R:=k
theorem ai2 {trs:List (TE×TE)}(k:∀ p H1,H p=none->Same H H1->H1 p=some (.dK [])->Mi trs σ H1 λps H2=>ag6 p ps H2 Q):aC7 trs σ H Q:=λp hp=>k p _ hp (Same.upd hp) Ai
theorem i_pair {tk tv:TE}{r:List (TE×TE)}{R:List (V×V)->Hp->Prop}(k:tk σ H λx H1=>tv σ H1 λy H2=>Mi r σ H2 λps H3=>R ((x,y) :: ps) H3):Mi ((tk,tv) :: r) σ H R:=k
theorem Yq {p:Addr}{ps:List (V×V)}(kvs:List (Key×V))(h:H p=some (.dK []))(e:ps=kvs.map (λkv=>(kV kv.1,kv.2)))(hl:kvs.length<=15)(k:∀ H',ExtBut p H H'->H' p=some (.dK (Gg [] kvs))->Q (.ref p) H'):ag6 p ps H Q:=⟨h,kvs,e,hl,k _ ExtBut.upd Ai⟩
theorem i_pair0 {R:List (V×V)->Hp->Prop}(k:R [] H):Mi [] σ H R:=k
end
theorem Jt {c A B:Prop}[Decidable c](h1:c->A)(h2:¬ c->B):if decide c=true then A else B:=by
 by_cases h:c
 . rw[A10 (A0H h)];exact h1 h
 rw[A0W (by rw[A11 h];exact A0O)];exact h2 h
theorem Sl {c A B:Prop}[Decidable c](h1:¬ c->A)(h2:c->B):if(!decide c)=true then A else B:=by
 by_cases h:c
 . rw[A0H h,A0W nofun];exact h2 h
 rw[A11 h,A10 nofun];exact h1 h
theorem aE2 {b:Bool}{A B:Prop}(h1:b=true->A)(h2:b=false->B):if b=true then A else B:=by
 cases b
 . rw[A0W A0O];exact h2 rfl
 rw[A10 rfl];exact h1 rfl
theorem ac8 {b:Bool}{A B:Prop}(h1:b=false->A)(h2:b=true->B):if(!b)=true then A else B:=by
 cases b
 . exact h1 rfl
 exact h2 rfl
theorem iteNT {A B:Prop}(h:B):if(!true)=true then A else B:=h
theorem A9 {n:Nat}(h:n<=1000000):n<=sizeLine:=by rw[A1N];omega
def Jc (J:It)(xs:List V)(G:Hp->Prop):Prop:=
 ∀ i H,G H->(i<xs.length->J.go i H)/\(xs.length<=i->J.stop i H)/\∀ x H',i<xs.length->J.yld i H x H'->H'=H/\xs[i]? = some x
theorem Aw {K:W.Frag}{a:Addr}{xs:List V}:Jc (Itl K a) xs λH=>SqL K H a xs:=by intro i H g;refine⟨λh=>⟨xs,xs[i],g,A03 h⟩,λh=>⟨xs,g,h⟩,λx H' _ h=>⟨h.1,h.2 xs g⟩⟩
theorem Gw {K:W.Frag}{a:Addr}{xs:List V}:Jc (Itt K a) xs λH=>SqT K H a xs:=by intro i H g;refine⟨λh=>⟨xs,xs[i],g,A03 h⟩,λh=>⟨xs,g,h⟩,λx H' _ h=>⟨h.1,h.2 xs g⟩⟩
theorem Ax {lo:Int}{n:Nat}:Jc (Itr lo n) ((List.range n).map λ(i:Nat)=>V.int (lo+(i:Int))) λ_=>True:=by
 intro i H _;refine⟨λh=>?_,λh=>?_,λx H' hi h=>?_⟩
 . show i<n;simpa using h
 . show n<=i;simpa using h
 obtain⟨e,hx⟩:=h;refine⟨e,?_⟩;have hi':i<n:=by simpa using hi
 rw[A07,List.getElem?_range hi',hx];rfl
theorem ac5 {J:It}{xs:List V}{G:Hp->Prop}{g:TG}{tb:TS}{D:Pk}{σ:St}{H:Hp}(hw:Jc J xs G)(Pv:Nat->St->Hp->Prop)(h0:Pv 0 σ H)(hG:∀ i σ H,Pv i σ H->G H)
  (hs:∀ i x σ H,xs[i]? = some x->Pv i σ H->g x σ H fun σ2 H2=>tb {D with nx:=Pv (i+1),ct:=Pv (i+1),bk:=D.nx} σ2 H2) (hd:∀ σ H,Pv xs.length σ H->D.nx σ H) :
  ∃ W:Nat->Nat->St->Hp->Prop,(∃ m,W 0 m σ H)/\∀ i m σ H,W i m σ H ->
   (J.stop i H/\D.nx σ H)\/(J.go i H/\∃ N:St->Hp->Prop,(∀ σ' H',N σ' H'->∃ m',m'<m/\W (i+1) m' σ' H')/\∀ x H',J.yld i H x H'->g x σ H' fun σ2 H2=>tb {D with nx:=N,ct:=N,bk:=D.nx} σ2 H2):=by
 refine⟨λi m σ H=>m=xs.length-i/\i<=xs.length/\Pv i σ H,⟨xs.length,by simp,Nat.zero_le _,h0⟩,?_⟩;rintro i m σ H ⟨rfl,hi,p⟩;obtain⟨w1,w2,w3⟩:=hw i H (hG i σ H p)
 by_cases hlt:i<xs.length
 . refine .inr ⟨w1 hlt,Pv (i+1),fun σ' H' p'=>⟨xs.length-(i+1),by omega,rfl,hlt,p'⟩,λx H' y=>?_⟩;obtain⟨e,hx⟩:=w3 x H' hlt y;subst e;exact hs i x σ _ hx p
 have e:i=xs.length:=by omega
 subst e;exact .inl ⟨w2 (A05 _),hd σ H p⟩
def CN (p:Addr)(n:Nat)(Pv:Nat->List V->Hp->Prop)(i:Nat):Hp->Prop:=λH'=>i+1<=n/\∃ acc,H' p=some (.lst acc)/\acc.length<=i+1/\Pv (i+1) acc H'
theorem an0 {p:Addr}{n:Nat}{Pv:Nat->List V->Hp->Prop}{i:Nat}{H:Hp}{acc:List V}{y:V}(hn:n<=1000000)(hi:i<n)(hl:acc.length<=i)(e:H p=some (.lst acc))(k:∀ H',ExtBut p H H'->H' p=some (.lst (acc++[y]))->Pv (i+1) (acc++[y]) H') :
  ∃ acc,H p=some (.lst acc)/\acc.length<sizeLine/\CN p n Pv i (upd H p (.lst (acc++[y]))):=
 ⟨acc,e,by rw[A1N];omega,hi,acc++[y],Ai,by rw[A04,A0S];omega,k _ ExtBut.upd Ai⟩
theorem Iw {p:Addr}{n:Nat}{Pv:Nat->List V->Hp->Prop}{i:Nat}{H:Hp}{acc:List V}(hi:i<n)(hl:acc.length<=i)(e:H p=some (.lst acc))(k:Pv (i+1) acc H):CN p n Pv i H:=⟨hi,acc,e,by omega,k⟩
theorem Yv {J:It}{xs:List V}{G:Hp->Prop}{g:TG}{tt:TT}{te:TE}{σ:St}{H:Hp}{Q:VK}{p:Addr}{k:Nat}{js:List Nat}(hw:Jc J xs G)(hp:H p=none)(Pv:Nat->List V->Hp->Prop)
  (h0:∀ H',Same H H'->H' p=some (.lst [])->Pv 0 [] H') (hG:∀ i acc H,Pv i acc H->G H)
  (hs:∀ i x acc H,xs[i]? = some x->i<xs.length->acc.length<=i->H p=some (.lst acc)->Pv i acc H->g x (List.replicate k none++Re σ js) H fun σ2 H2=>tt σ2 H2 λb H3=>if b=true then te σ2 H3 λy H4=>∃ acc,H4 p=some (.lst acc)/\acc.length<sizeLine/\CN p xs.length Pv i (upd H4 p (.lst (acc++[y]))) else CN p xs.length Pv i H3)
  (hd:∀ acc H,H p=some (.lst acc)->acc.length<=xs.length->Pv xs.length acc H->Q (.ref p) H) :
  ∃ W:Nat->Nat->Hp->Prop,(∃ m,W 0 m (upd H p (.lst [])))/\∀ i m H,W i m H ->
   (J.stop i H/\Q (.ref p) H)\/(J.go i H/\∃ N:Hp->Prop,(∀ H',N H'->∃ m',m'<m/\W (i+1) m' H') /\
    ∀ x H',J.yld i H x H'->g x (List.replicate k none++Re σ js) H' fun σ2 H2=>tt σ2 H2 λb H3=>
     if b=true then te σ2 H3 λy H4=>∃ acc,H4 p=some (.lst acc)/\acc.length<sizeLine/\N (upd H4 p (.lst (acc++[y]))) else N H3):=by
 refine⟨λi m H=>m=xs.length-i/\i<=xs.length/\∃ acc,H p=some (.lst acc)/\acc.length<=i/\Pv i acc H,⟨xs.length,by simp,Nat.zero_le _,[],Ai,Nat.le_refl _,h0 _ (Same.upd hp) Ai⟩,?_⟩;rintro i m H ⟨rfl,hi,acc,hacc,hl,q⟩;obtain⟨w1,w2,w3⟩:=hw i H (hG i acc H q)
 by_cases hlt:i<xs.length
 . refine .inr ⟨w1 hlt,CN p xs.length Pv i,λH' ⟨h1,h2⟩=>⟨xs.length-(i+1),by omega,rfl,h1,h2⟩,λx H' y=>?_⟩;obtain⟨e,hx⟩:=w3 x H' hlt y;subst e;exact hs i x acc _ hx hlt hl hacc q
 have e:i=xs.length:=by omega
 subst e;exact .inl ⟨w2 (A05 _),hd acc H hacc hl q⟩
def az2 (p:Addr)(N:Hp->Prop):VK:=λy H4=>∃ acc,H4 p=some (.lst acc)/\acc.length<sizeLine/\N (upd H4 p (.lst (acc++[y])))
theorem Cu {J:It}{xs:List V}{G:Hp->Prop}{g:TG}{tt:TT}{te:TE}{σ:St}{H:Hp}{Q:VK}{k:Nat}{js:List Nat}(hw:Jc J xs G)(Pv:Addr->Nat->List V->Hp->Prop)
  (h0:∀ p H',H p=none->Same H H'->H' p=some (.lst [])->Pv p 0 [] H') (hG:∀ p i acc H,Pv p i acc H->G H)
  (hs:∀ p i x acc H1,H p=none->xs[i]? = some x->i<xs.length->acc.length<=i->H1 p=some (.lst acc)->Pv p i acc H1->g x (List.replicate k none++Re σ js) H1 fun σ2 H2=>tt σ2 H2 λb H3=>if b=true then te σ2 H3 (az2 p (CN p xs.length (Pv p) i)) else CN p xs.length (Pv p) i H3)
  (hd:∀ p acc H1,H p=none->H1 p=some (.lst acc)->acc.length<=xs.length->Pv p xs.length acc H1->Q (.ref p) H1):Sk k js g tt te σ J H Q:=λp hp=>
 Yv hw hp (Pv p) (λH' e h=>h0 p H' hp e h) (hG p) (λi x acc H1 h1 h2 h3 h4 h5=>hs p i x acc H1 hp h1 h2 h3 h4 h5) λacc H1 h1 h2 h3=>hd p acc H1 hp h1 h2 h3
theorem Fq {p:Addr}{n:Nat}{Pv:Nat->List V->Hp->Prop}{i:Nat}{H:Hp}{acc:List V}{y:V}(hn:n<=1000000)(hi:i<n)(hl:acc.length<=i)(e:H p=some (.lst acc))(k:∀ H',ExtBut p H H'->H' p=some (.lst (acc++[y]))->Pv (i+1) (acc++[y]) H') :
  az2 p (CN p n Pv i) y H:=an0 hn hi hl e k
theorem a06 {J:It}{xs:List V}{G:Hp->Prop}{g:TG}{tt:TT}{te:TE}{σ:St}{H:Hp}{Q:VK}{k:Nat}{js:List Nat}(hw:Jc J xs G)(t:V->Bool)(f:V->V)(hz:xs.length<=1000000)(hG:∀ H',Same H H'->G H')
  (hs:∀(i:Nat) x H1 (R:VK) (R':Hp->Prop),xs[i]? = some x->Same H H1->(t x=true->R (f x) H1)->(t x=false->R' H1)->g x (List.replicate k none++Re σ js) H1 fun σ2 H2=>tt σ2 H2 λb H3=>if b=true then te σ2 H3 R else R' H3)
  (hd:∀ p H',H p=none->Same H H'->H' p=some (.lst ((xs.filter t).map f))->Q (.ref p) H'):Sk k js g tt te σ J H Q:=by
 refine Cu hw (λp i acc H1=>Same H H1/\acc=((xs.take i).filter t).map f) (λp H' hp e h=>⟨e,by simp⟩) (λp i acc H1 h=>hG H1 h.1) (λp i x acc H1 hp hx hi hl ha ⟨e,hacc⟩=>?_) λp acc H1 hp ha hl ⟨e,hacc⟩=>?_
 . have ht:xs.take (i+1)=xs.take i++[x]:=by rw[A0I,hx];rfl
   refine hs i x H1 _ _ hx e (λh=>?_) λh=>?_
   . refine Fq hz hi hl ha λH' e' h'=>⟨λb o hb=>e' b o (ne_of_none hb hp) (e b o hb),?_⟩;rw[ht,A22,A0A,hacc];simp[h]
   refine Iw hi hl ha ⟨e,?_⟩;rw[ht,A22,A0A,hacc];simp[h]
 refine hd p H1 hp e ?_;rw[ha,hacc,A0R]
theorem Hv {α:Type}(xs:List α):xs.filter (λ_=>true)=xs:=by simp
theorem Qs {J:It}{xs:List V}{G:Hp->Prop}{g:TG}{te:TE}{σ:St}{H:Hp}{Q:VK}{k:Nat}{js:List Nat}(hw:Jc J xs G)(f:V->V)(hz:xs.length<=1000000)(hG:∀ H',Same H H'->G H')
  (hs:∀(i:Nat) x H1 (R:VK),xs[i]? = some x->Same H H1->R (f x) H1->g x (List.replicate k none++Re σ js) H1 fun σ2 H2=>te σ2 H2 R)
  (hd:∀ p H',H p=none->Same H H'->H' p=some (.lst (xs.map f))->Q (.ref p) H'):Sk k js g ab7 te σ J H Q:=
 a06 hw (λ_=>true) f hz hG (λi x H1 R R' hx e h _=>by
  have:=hs i x H1 R hx e (h rfl);show g x _ H1 fun σ2 H2=>if true=true then te σ2 H2 R else R' H2
  simpa using this) λp H' hp e h=>hd p H' hp e (by rw[h,Hv])
theorem Ez {J:It}{xs:List V}{G:Hp->Prop}{g:TG}{tb:TS}{D:Pk}{σ:St}{H:Hp}(hw:Jc J xs G)(Pv:Nat->St->Hp->Prop)(h0:Pv 0 σ H)(hG:∀ i σ H,Pv i σ H->G H)
  (hs:∀ i x σ H,xs[i]? = some x->i<xs.length->Pv i σ H->g x σ H fun σ2 H2=>tb {D with nx:=Pv (i+1),ct:=Pv (i+1),bk:=D.nx} σ2 H2) (hd:∀ σ H,Pv xs.length σ H->D.nx σ H):ar8 g tb D σ J H:=
 ac5 hw Pv h0 hG (λi x σ H hx=>hs i x σ H hx (A01.mp hx).1) hd
section
variable {X:Cx}{K:W.Frag}
theorem Ah (hK:X.K=K:=by ac_nf):OpR X (binaryOp .Add) (Tt K):=hK ▸ am0
theorem Cb (hq:QA X.A)(hK:X.K=K:=by ac_nf):OpR X (compareOp .Eq) (aE8 K):=hK ▸ az3 hq
theorem Iy (hq:QA X.A)(hK:X.K=K:=by ac_nf):OpR X (compareOp .NotEq) (aE1 K):=hK ▸ aC4 hq
theorem Km (hq:QA X.A)(hK:X.K=K:=by ac_nf):OpR X (compareOp .In) (Tr K false):=hK ▸ av4 hq
theorem Fw (hq:QA X.A)(hK:X.K=K:=by ac_nf):OpR X (compareOp .NotIn) (Tr K true):=hK ▸ a47 hq
theorem A6 (hu:X.A.units+1<cLine)(hK:X.K=K:=by ac_nf):IxR X (Y4 K):=hK ▸ au9 hu
theorem Oi (hK:X.K=K:=by ac_nf):SlR X (az0 K):=hK ▸ sl_A
theorem Aj (hK:X.K=K:=by ac_nf):CallR X (.builtin "len") (Uq K):=hK ▸ a59
theorem Iv (hK:X.K=K:=by ac_nf):CallR X (.builtin "isinstance") (R1 K):=hK ▸ Tg
theorem Pj (hK:X.K=K:=by ac_nf):CallR X (.type "list") (Ww K):=hK ▸ Xz
theorem K4 (hK:X.K=K:=by ac_nf):CallR X (.type "tuple") (Ps K):=hK ▸ Vh
theorem Td (hc:X.calm=true)(hK:X.K=K:=by ac_nf):CallR X (.builtin "all") (ak3 K):=hK ▸ a63 hc
theorem Aq {tg:Expr}(hu:X.A.units+1<cLine){l:Expr}{tl:TE}(hl:PE X l tl)(hK:X.K=K:=by ac_nf):PI X tg l (aG2 K tl):=hK ▸ aC6 hu hl
theorem Po {es:List Expr}{k:Nat}{t:TGs}{n:Nat}{pos:Pos}(hc:X.calm=true)(h:PGs X es t)(hK:X.K=K:=by ac_nf)
  (hn:(assignEach es X.env).length=n:=by ac_nf) (hst:(assignEach es X.env).findIdx? (·.1)=none:=by ac_nf):PG X (.Tuple es k pos) (au6 K n t):=hK ▸ az7 hc h hn hst
variable {o e:Expr}{es:List Expr}{to:TE}{t:TA}{name:Str}{apos cpos:Pos}{T id:String}{r:V->List V->Hp->VK->Prop}
theorem Qe (pa:PlainAttrs T)(slot:Slot T name id)(hty:typeOf (.builtin id)=pure (.type "method_descriptor"))(hm:MtR X id r)(ho:PE X o to)(hK:X.K=K:=by ac_nf)
  (hbase:attributeBase o name X.env (eval o X.env)=eval o X.env:=by ac_nf) (hline:(apos.endLine==cpos.line)=true:=by ac_nf):PE X (.Call (.Attribute o name apos) [] [] cpos) (aF6 K T r to):=hK ▸ at6 pa slot hty hm ho hbase hline
theorem Fs (pa:PlainAttrs T)(slot:Slot T name id)(hty:typeOf (.builtin id)=pure (.type "method_descriptor"))(hm:MtR X id r)(ho:PE X o to)(ha:PA X (e :: es) t)(hK:X.K=K:=by ac_nf)
  (hbase:attributeBase o name X.env (eval o X.env)=eval o X.env:=by ac_nf)
  (hfew:((backTo cpos (starEach (e :: es) X.env)).all (λx=>!x.1)&&(backToKw cpos (keywordEach [] X.env)).all (λx=>x.1.isSome)
   && decide ((e :: es).length+([]:List Keyword).length+(if([]:List Keyword).isEmpty then 0 else 1)<30))=true:=by ac_nf)
  (hline:(apos.endLine==cpos.line)=true:=by ac_nf) (hs:starEach (e :: es) X.env=(false,eval e X.env) :: starEach es X.env:=by ac_nf) (hplain:(backTo cpos (starEach es X.env)).any (·.1)=false:=by ac_nf) :
  PE X (.Call (.Attribute o name apos) (e :: es) [] cpos) (tBM K T r to t):=hK ▸ aI3 pa slot hty hm ho ha hbase hfew hline hs hplain
end
def Fz (H H':Hp):Prop:=∀ a xs,Rd H a (.tup xs)->Rd H' a (.tup xs)
theorem Fz.refl (H:Hp):Fz H H:=λ_ _ h=>h
theorem Fz.trans {H H1 H2:Hp}(a:Fz H H1)(b:Fz H1 H2):Fz H H2:=λc xs h=>b c xs (a c xs h)
theorem Same.fz {H H':Hp}(e:Same H H'):Fz H H':=λa xs h=>by
 rcases h with h|⟨o,h⟩
 . exact .inl (e _ _ h)
 exact .inr ⟨o,e _ _ h⟩
theorem W1 {p:Addr}{H H':Hp}(e:ExtBut p H H')(hp:∀ xs,¬ Rd H p (.tup xs)):Fz H H':=λa xs h=>by
 have n:a≠p:=λq=>hp xs (q ▸ h);rcases h with h|⟨o,h⟩
 . exact .inl (e _ _ n h)
 exact .inr ⟨o,e _ _ n h⟩
theorem ExtBut.fzL {p:Addr}{H H':Hp}{l:List V}(e:ExtBut p H H')(hp:H p=some (.lst l)):Fz H H':=W1 e λxs h=>by
 rcases h with h|⟨o,h⟩
 . rw[hp] at h;cases h
 rw[hp] at h;cases h
theorem ExtBut.fzD {p:Addr}{H H':Hp}{l:List (Key×V)}(e:ExtBut p H H')(hp:H p=some (.dK l)):Fz H H':=W1 e λxs h=>by
 rcases h with h|⟨o,h⟩
 . rw[hp] at h;cases h
 rw[hp] at h;cases h
theorem Fz.seq {K:W.Frag}{H H':Hp}(e:Fz H H'){a:Addr}{xs:List V}(h:SqT K H a xs):SqT K H' a xs:=by
 rcases h with h|h
 . exact .inl (e _ _ h)
 exact .inr h
mutual
def frz:PyData->Bool
 |.tuple ds=>Vo ds
 |.list _=>false
 |.dict _=>false
 |_=>true
def Vo:List PyData->Bool
 | []=>true
 |d :: ds=>frz d&&Vo ds
end
mutual
theorem Is.fz {K:W.Frag}{H H':Hp}(e:Fz H H'):∀(d:PyData) (v:V),frz d=true->Is K H d v->Is K H' d v
 |.none,_,_,h=>by simp only[Is] at h ⊢;exact h
 |.bool _,_,_,h=>by simp only[Is] at h ⊢;exact h
 |.int _,_,_,h=>by simp only[Is] at h ⊢;exact h
 |.str _,_,_,h=>by simp only[Is] at h ⊢;exact h
 |.list ds,v,hf,_=>by simp[frz] at hf
 |.tuple ds,v,hf,h=>by simp only[Is] at h ⊢;obtain⟨a,xs,e1,e2,e3⟩:=h;exact⟨a,xs,e1,e.seq e2,IsL.fz e ds xs (by simpa only[frz] using hf) e3⟩
 |.dict _,_,_,h=>by simp only[Is] at h
theorem IsL.fz {K:W.Frag}{H H':Hp}(e:Fz H H'):∀(ds:List PyData) (vs:List V),Vo ds=true->IsL K H ds vs->IsL K H' ds vs
 | [],_,_,h=>by simp only[IsL] at h ⊢;exact h
 |d :: ds,vs,hf,h=>by simp only[IsL] at h ⊢;simp only[Vo,Bool.and_eq_true] at hf;obtain⟨v,r,e1,e2,e3⟩:=h;exact⟨v,r,e1,Is.fz e d v hf.1 e2,IsL.fz e ds r hf.2 e3⟩
end
section
variable {K:W.Frag}{H H':Hp}
theorem IsL.length:∀ {ds:List PyData} {vs:List V},IsL K H ds vs->ds.length=vs.length
 | [],_,h=>by simp only[IsL] at h;subst h;rfl
 |d :: ds,vs,h=>by simp only[IsL] at h;obtain⟨v,r,rfl,_,e3⟩:=h;simp only[List.length_cons,IsL.length e3]
theorem IsL.get:∀ {ds:List PyData} {vs:List V} {i:Nat} {x:V},IsL K H ds vs->vs[i]? = some x->∃ d,ds[i]? = some d/\Is K H d x
 | [],_,_,_,h,e=>by simp only[IsL] at h;subst h;simp at e
 |d :: ds,vs,i,x,h,e=>by
   simp only[IsL] at h;obtain⟨v,r,rfl,e2,e3⟩:=h
   cases i with
   |zero=>simp at e;subst e;exact⟨d,rfl,e2⟩
   |succ i=>obtain⟨d',h1,h2⟩:=IsL.get (i:=i) e3 (by simpa using e);exact⟨d',by simpa using h1,h2⟩
theorem IsL.at:∀ {ds:List PyData} {vs:List V} {i:Nat} {d:PyData},IsL K H ds vs->ds[i]? = some d->∃ x,vs[i]? = some x/\Is K H d x
 | [],_,_,_,h,e=>by simp at e
 |d :: ds,vs,i,d',h,e=>by
   simp only[IsL] at h;obtain⟨v,r,rfl,e2,e3⟩:=h
   cases i with
   |zero=>simp at e;subst e;exact⟨v,rfl,e2⟩
   |succ i=>obtain⟨x,h1,h2⟩:=IsL.at (i:=i) e3 (by simpa using e);exact⟨x,by simpa using h1,h2⟩
theorem IsL.append:∀ {ds es:List PyData} {vs us:List V},IsL K H ds vs->IsL K H es us->IsL K H (ds++es) (vs++us)
 | [],_,_,_,h,g=>by simp only[IsL] at h;subst h;exact g
 |d :: ds,es,vs,us,h,g=>by simp only[IsL] at h;obtain⟨v,r,rfl,e2,e3⟩:=h;simp only[List.cons_append,IsL];exact⟨v,_,rfl,e2,IsL.append e3 g⟩
theorem IsL.one {d:PyData}{v:V}(h:Is K H d v):IsL K H [d] [v]:=by simp only[IsL];exact⟨v,[],rfl,h,rfl⟩
theorem IsL.nil:IsL K H [] []:=by simp only[IsL]
theorem IsL.cons {d:PyData} {v:V} {ds:List PyData} {vs:List V} (h:Is K H d v) (g:IsL K H ds vs):IsL K H (d :: ds) (v :: vs):=by simp only[IsL];exact⟨v,vs,rfl,h,g⟩
theorem IsL.take:∀ {ds:List PyData} {vs:List V} (n:Nat),IsL K H ds vs->IsL K H (ds.take n) (vs.take n)
 |ds,vs,0,h=>by simp only[List.take_zero];exact .nil
 | [],vs,n+1,h=>by simp only[IsL] at h;subst h;exact .nil
 |d :: ds,vs,n+1,h=>by simp only[IsL] at h;obtain⟨v,r,rfl,e2,e3⟩:=h;exact .cons e2 (IsL.take n e3)
theorem IsL.drop:∀ {ds:List PyData} {vs:List V} (n:Nat),IsL K H ds vs->IsL K H (ds.drop n) (vs.drop n)
 |ds,vs,0,h=>h
 | [],vs,n+1,h=>by simp only[IsL] at h;subst h;exact .nil
 |d :: ds,vs,n+1,h=>by simp only[IsL] at h;obtain⟨v,r,rfl,e2,e3⟩:=h;exact IsL.drop n e3
theorem IsL.str_eq:∀ {ns:List Str} {vs:List V},IsL K H (ns.map PyData.str) vs->vs=ns.map V.str
 | [],vs,h=>by simp only[List.map_nil,IsL] at h;exact h
 |n :: ns,vs,h=>by simp only[List.map_cons,IsL,Is] at h;obtain⟨v,r,rfl,rfl,e3⟩:=h;rw[IsL.str_eq e3];rfl
theorem Is.tup {ds:List PyData}{v:V}(h:Is K H (.tuple ds) v):∃ a xs,v = .ref a/\SqT K H a xs/\IsL K H ds xs:=by simpa only[Is] using h
theorem Is.of_tup {ds:List PyData}{a:Addr}{xs:List V}(h:SqT K H a xs)(g:IsL K H ds xs):Is K H (.tuple ds) (.ref a):=by simp only[Is];exact⟨a,xs,rfl,h,g⟩
theorem Is.of_lst {ds:List PyData}{a:Addr}{xs:List V}(h:SqL K H a xs)(g:IsL K H ds xs):Is K H (.list ds) (.ref a):=by simp only[Is];exact⟨a,xs,rfl,h,g⟩
theorem Is.str {z:Str}{v:V}(h:Is K H (.str z) v):v = .str z:=by simpa only[Is] using h
theorem Jy {z:Str}:Is K H (.str z) (.str z):=by simp only[Is]
theorem aI0 {z:Bool}:Is K H (.bool z) (.bl z):=by simp only[Is]
end
def nmD (ns:List Str):PyData:=.tuple (ns.map PyData.str)
def prD (p:Str×Str):PyData:=.tuple [.str p.1,.str p.2]
def psD (ps:List (Str×Str)):PyData:=.tuple (ps.map prD)
def hfD (ns:List Str)(ps:List (Str×Str)):PyData:=.tuple [nmD ns,psD ps]
theorem Mt:∀ ns:List Str,Vo (ns.map PyData.str)=true
 | []=>rfl
 |n :: ns=>by simp only[List.map_cons,Vo,frz,Mt ns,Bool.and_self]
theorem Rj (ns:List Str):frz (nmD ns)=true:=by simp only[nmD,frz,Mt]
theorem Mm (p:Str×Str):frz (prD p)=true:=by simp[prD,frz,Vo]
theorem Ev:∀ ps:List (Str×Str),Vo (ps.map prD)=true
 | []=>rfl
 |n :: ns=>by simp only[List.map_cons,Vo,Mm,Ev ns,Bool.and_self]
theorem aj1 (ps:List (Str×Str)):frz (psD ps)=true:=by simp only[psD,frz,Ev]
theorem aA4 (ns:List Str)(ps:List (Str×Str)):frz (hfD ns ps)=true:=by simp only[hfD,frz,Vo,Rj,aj1,Bool.and_self]
section
variable {K:W.Frag}{H H':Hp}
theorem Is.nm {ns:List Str}{v:V}(h:Is K H (nmD ns) v):∃ a,v = .ref a/\SqT K H a (ns.map V.str):=by obtain⟨a,xs,rfl,h1,h2⟩:=Is.tup h;exact⟨a,rfl,by rw[<- IsL.str_eq h2];exact h1⟩
theorem Hs {ns:List Str}{a:Addr}(h:SqT K H a (ns.map V.str)):Is K H (nmD ns) (.ref a):=Is.of_tup h (R8 ns)
theorem Is.pr {p:Str×Str}{v:V}(h:Is K H (prD p) v):∃ a,v = .ref a/\SqT K H a [.str p.1,.str p.2]:=by obtain⟨a,xs,rfl,h1,h2⟩:=Is.tup h;simp only[IsL,Is] at h2;obtain⟨_,_,rfl,rfl,_,_,rfl,rfl,rfl⟩:=h2;exact⟨a,rfl,h1⟩
theorem Yx {x y:Str}{a:Addr}(h:SqT K H a [.str x,.str y]):Is K H (prD (x,y)) (.ref a):=Is.of_tup h (.cons Jy (.one Jy))
theorem Is.hf {ns:List Str}{ps:List (Str×Str)}{v:V}(h:Is K H (hfD ns ps) v):∃ a x y,v = .ref a/\SqT K H a [x,y]/\Is K H (nmD ns) x/\Is K H (psD ps) y:=by obtain⟨a,xs,rfl,h1,h2⟩:=Is.tup h;simp only[IsL] at h2;obtain⟨x,_,rfl,hx,y,_,rfl,hy,rfl⟩:=h2;exact⟨a,x,y,rfl,h1,hx,hy⟩
theorem aE9 {ns:List Str}{ps:List (Str×Str)}{a:Addr}{x y:V}(h:SqT K H a [x,y])(hx:Is K H (nmD ns) x)(hy:Is K H (psD ps) y):Is K H (hfD ns ps) (.ref a):=Is.of_tup h (.cons hx (.one hy))
theorem Is.nm_fz {ns:List Str}{v:V}(h:Is K H (nmD ns) v)(e:Fz H H'):Is K H' (nmD ns) v:=Is.fz e _ _ (Rj ns) h
theorem Is.pr_fz {p:Str×Str}{v:V}(h:Is K H (prD p) v)(e:Fz H H'):Is K H' (prD p) v:=Is.fz e _ _ (Mm p) h
theorem Is.ps_fz {ps:List (Str×Str)}{v:V}(h:Is K H (psD ps) v)(e:Fz H H'):Is K H' (psD ps) v:=Is.fz e _ _ (aj1 ps) h
theorem Is.hf_fz {ns:List Str}{ps:List (Str×Str)}{v:V}(h:Is K H (hfD ns ps) v)(e:Fz H H'):Is K H' (hfD ns ps) v:=Is.fz e _ _ (aA4 ns ps) h
variable {σ:St}{Q:VK}{x v:V}{i:Int}
theorem Hn {a:Addr}{xs:List V}(h:SqT K H a xs)(e:atI xs i=some v)(k:Q v H):Y4 K (.ref a) (.int i) H Q:=.inl (.inr (.inl ⟨a,xs,i,v,rfl,rfl,h,e,k⟩))
theorem Hm {ns:List Str}{ps:List (Str×Str)}(h:Is K H (hfD ns ps) x)(k:∀ v,Is K H (nmD ns) v->Q v H):Y4 K x (.int 0) H Q:=by obtain⟨a,u,w,rfl,h1,h2,h3⟩:=h.hf;exact Hn h1 rfl (k u h2)
theorem Wj {ns:List Str}{ps:List (Str×Str)}(h:Is K H (hfD ns ps) x)(k:∀ v,Is K H (psD ps) v->Q v H):Y4 K x (.int 1) H Q:=by obtain⟨a,u,w,rfl,h1,h2,h3⟩:=h.hf;exact Hn h1 rfl (k w h3)
theorem ai5 {p:Str×Str}(h:Is K H (prD p) x)(k:Q (.str p.1) H):Y4 K x (.int 0) H Q:=by obtain⟨a,rfl,h1⟩:=h.pr;exact Hn h1 rfl k
theorem ai4 {p:Str×Str}(h:Is K H (prD p) x)(k:Q (.str p.2) H):Y4 K x (.int 1) H Q:=by obtain⟨a,rfl,h1⟩:=h.pr;exact Hn h1 rfl k
theorem af6 {ds:List PyData}(h:Is K H (.tuple ds) x)(k:Q (.int ds.length) H):Uq K [x] H Q:=by obtain⟨a,xs,rfl,h1,h2⟩:=h.tup;rw[IsL.length h2] at k;exact .inl ⟨.ref a,_,rfl,.inr ⟨xs,h1,rfl⟩,k⟩
theorem Sz {ns:List Str}(h:Is K H (nmD ns) x)(k:Q (.int ns.length) H):Uq K [x] H Q:=af6 h (by rw[A00];exact k)
theorem ax1 {ps:List (Str×Str)}(h:Is K H (psD ps) x)(k:Q (.int ps.length) H):Uq K [x] H Q:=af6 h (by rw[A00];exact k)
theorem Je (ns:List Str):(ns.map V.str).all Rb=true:=by rw[A1T];intro v h;obtain ⟨n,_,rfl⟩:=A0F.mp h;rfl
theorem Kc (z:Str):∀ ns:List Str,inV (.str z) (ns.map V.str)=decide (z∈ns)
 | []=>rfl
 |n :: ns=>by
   have ih:=Kc z ns;unfold inV at ih ⊢;rw[A0U,A2I,ih]
   have e:eqV (V.str n) (V.str z)=decide (n=z):=by
    show(n==z)=_
    by_cases h:n=z<;>simp[h]
   rw[e]
   by_cases h:n=z
   . subst h;simp
   have h':¬ z=n:=λq=>h q.symm
   by_cases g:z∈ns<;>simp[h,h',g]
theorem aH2 {ns:List Str}{z:Str}(h:Is K H (nmD ns) x)(k:Q (.bl (decide (z∈ns))) H):Tr K false (.str z) x H Q:=by obtain⟨a,rfl,h1⟩:=h.nm;exact .inl ⟨a,_,rfl,.inr h1,rfl,Je ns,by rw[Kc];exact k⟩
theorem aj6 {ns:List Str}{z:Str}{a:Addr}(h:SqL K H a (ns.map V.str))(k:Q (.bl (decide (z∈ns))) H):Tr K false (.str z) (.ref a) H Q:=
 .inl ⟨a,_,rfl,.inl h,rfl,Je ns,by rw[Kc];exact k⟩
theorem as9 {ns:List Str}{z:Str}(h:Is K H (nmD ns) x)(k:Q (.bl (!decide (z∈ns))) H):Tr K true (.str z) x H Q:=by obtain⟨a,rfl,h1⟩:=h.nm;exact .inl ⟨a,_,rfl,.inr h1,rfl,Je ns,by rw[Kc];exact k⟩
theorem aq5 {ns:List Str}{z:Str}{a:Addr}(h:SqL K H a (ns.map V.str))(k:Q (.bl (!decide (z∈ns))) H):Tr K true (.str z) (.ref a) H Q:=
 .inl ⟨a,_,rfl,.inl h,rfl,Je ns,by rw[Kc];exact k⟩
theorem ao8 {p:Str×Str}{n m:Nat}{R:St->Hp->Prop}(h:Is K H (prD p) x)(k:R ((σ.set n (some (.str p.1))).set m (some (.str p.2))) H):au6 K 2 (Ua (M3 n) (Ua (M3 m) aE7)) x σ H R:=by obtain⟨a,rfl,h1⟩:=h.pr;exact⟨a,_,rfl,h1,rfl,.str p.1,[.str p.2],rfl,.str p.2,[],rfl,rfl,k⟩
theorem au2 {a:Addr}{u w:V}{n m:Nat}{R:St->Hp->Prop}(h:SqT K H a [u,w])(k:R ((σ.set n (some u)).set m (some w)) H):au6 K 2 (Ua (M3 n) (Ua (M3 m) aE7)) (.ref a) σ H R:=
 ⟨a,_,rfl,h,rfl,u,[w],rfl,w,[],rfl,rfl,k⟩
theorem ae1 {ds:List PyData}{g:TG}{tb:TS}{D:Pk}(h:Is K H (.tuple ds) x)(hf:Vo ds=true)(Pv:Nat->St->Hp->Prop)(h0:Pv 0 σ H)(hG:∀ i σ' H',Pv i σ' H'->Fz H H')
  (hs:∀ i d v σ' H',ds[i]? = some d->Is K H' d v->Pv i σ' H'->g v σ' H' fun σ2 H2=>tb {D with nx:=Pv (i+1),ct:=Pv (i+1),bk:=D.nx} σ2 H2) (hd:∀ σ' H',Pv ds.length σ' H'->D.nx σ' H') :
  Ki K x H λJ H1=>ar8 g tb D σ J H1:=by
 obtain⟨a,xs,rfl,h1,h2⟩:=h.tup;refine Ry h1 (Ez Gw Pv h0 (λi σ' H' p=>(hG i σ' H' p).seq h1) (λi v σ' H' hx hi p=>?_) fun σ' H' p=>hd σ' H' (by rw[IsL.length h2];exact p));obtain⟨d,e1,e2⟩:=IsL.get (IsL.fz (hG i σ' H' p) ds xs hf h2) hx;exact hs i d v σ' H' e1 e2 p
theorem T9 {ns:List Str}{g:TG}{tb:TS}{D:Pk}(h:Is K H (nmD ns) x)(Pv:Nat->St->Hp->Prop)(h0:Pv 0 σ H)(hG:∀ i σ' H',Pv i σ' H'->Fz H H')
  (hs:∀ i z σ' H',ns[i]? = some z->Pv i σ' H'->g (.str z) σ' H' fun σ2 H2=>tb {D with nx:=Pv (i+1),ct:=Pv (i+1),bk:=D.nx} σ2 H2) (hd:∀ σ' H',Pv ns.length σ' H'->D.nx σ' H') :
  Ki K x H λJ H1=>ar8 g tb D σ J H1:=
 ae1 h (Mt ns) Pv h0 hG (λi d v σ' H' e h p=>by
  rw[A07] at e
  cases hn:ns[i]? with
  |none=>rw[hn] at e;cases e
  |some z=>
    rw[hn] at e
    cases e;rw[h.str];exact hs i z σ' H' hn p) fun σ' H' p=>hd σ' H' (by rw[A00] at p;exact p)
theorem aj0 {ps:List (Str×Str)}{g:TG}{tb:TS}{D:Pk}(h:Is K H (psD ps) x)(Pv:Nat->St->Hp->Prop)(h0:Pv 0 σ H)(hG:∀ i σ' H',Pv i σ' H'->Fz H H')
  (hs:∀ i p v σ' H',ps[i]? = some p->Is K H' (prD p) v->Pv i σ' H'->g v σ' H' fun σ2 H2=>tb {D with nx:=Pv (i+1),ct:=Pv (i+1),bk:=D.nx} σ2 H2) (hd:∀ σ' H',Pv ps.length σ' H'->D.nx σ' H') :
  Ki K x H λJ H1=>ar8 g tb D σ J H1:=
 ae1 h (Ev ps) Pv h0 hG (λi d v σ' H' e h p=>by
  rw[A07] at e
  cases hn:ps[i]? with
  |none=>rw[hn] at e;cases e
  |some z=>
    rw[hn] at e
    cases e;exact hs i z v σ' H' hn h p) fun σ' H' p=>hd σ' H' (by rw[A00] at p;exact p)
theorem Kx {α:Type}(f:α->PyData)(hf:∀ a,frz (f a)=true):∀ xs:List α,Vo (xs.map f)=true
 | []=>rfl
 |x :: xs=>by simp only[List.map_cons,Vo,hf,Kx f hf xs,Bool.and_self]
theorem Jl {α:Type}{J:It}{xs:List V}{G:Hp->Prop}{g:TG}{tt:TT}{te:TE}{Q:VK}{k:Nat}{js:List Nat}(hw:Jc J xs G)(as:List α)(hl:as.length=xs.length)(t:α->Bool)(f:α->PyData)(hf:∀ a,frz (f a)=true)(hz:xs.length<=1000000)(hG:∀ H',Same H H'->G H')
  (hs:∀(i:Nat) a v H1 (R:VK) (R':Hp->Prop),as[i]? = some a->xs[i]? = some v->Same H H1->(t a=true->∀ y H2,Same H1 H2->Is K H2 (f a) y->R y H2)->(t a=false->∀ H2,Same H1 H2->R' H2) ->
   g v (List.replicate k none++Re σ js) H1 fun σ2 H2=>tt σ2 H2 λb H3=>if b=true then te σ2 H3 R else R' H3)
  (hd:∀ p ys H',H p=none->Same H H'->H' p=some (.lst ys)->IsL K H' ((as.filter t).map f) ys->Q (.ref p) H'):Sk k js g tt te σ J H Q:=by
 refine Cu hw (λp i acc H1=>Same H H1/\IsL K H1 (((as.take i).filter t).map f) acc) (λp H' hp e h=>⟨e,by simp only[List.take_zero,List.filter_nil,List.map_nil];exact .nil⟩) (λp i acc H1 h=>hG H1 h.1) (λp i x acc H1 hp hx hi hl1 ha ⟨e,hacc⟩=>?_) λp acc H1 hp ha hl1 ⟨e,hacc⟩=>?_
 . have hi':i<as.length:=by omega
   obtain⟨a,hai⟩:∃ a,as[i]? = some a:=⟨as[i],A03 hi'⟩;have ht:as.take (i+1)=as.take i++[a]:=by rw[A0I,hai];rfl
   refine hs i a x H1 _ _ hai hx e (λh y H2 e2 hy=>?_) λh H2 e2=>?_
   . refine Fq hz hi hl1 (e2 _ _ ha) λH' e' h'=>⟨λb o hb=>e' b o (ne_of_none hb hp) (e2 _ _ (e b o hb)),?_⟩;rw[ht,A22,A0A];have fz:=e'.fzL (e2 _ _ ha);refine IsL.append (IsL.fz (e2.fz.trans fz) _ _ (Kx f hf _) hacc) ?_;simp only[List.filter_cons,h,if_true,List.filter_nil,List.map_cons,List.map_nil];exact .one (Is.fz fz _ _ (hf a) hy)
   refine Iw hi hl1 (e2 _ _ ha) ⟨e.trans e2,?_⟩;rw[ht,A22,A0A];simp only[List.filter_cons,h,Bool.false_eq_true,if_false,List.filter_nil,List.map_nil,List.append_nil];exact IsL.mono e2 _ _ hacc
 refine hd p acc H1 hp e ha ?_;rw[<- hl,A0R] at hacc;exact hacc
end
section
variable {X:Cx}{K:W.Frag}
def ah5:PyData->Bool
 |.list _=>true
 |.tuple _=>true
 |_=>false
mutual
theorem Is.noDict {H:Hp}:∀(d:PyData) (v:V),Is K H d v->d.hasDict=false
 |.none,_,h=>by simp only[PyData.hasDict]
 |.bool _,_,h=>by simp only[PyData.hasDict]
 |.int _,_,h=>by simp only[PyData.hasDict]
 |.str _,_,h=>by simp only[PyData.hasDict]
 |.list ds,v,h=>by simp only[Is] at h;obtain⟨a,xs,e1,e2,e3⟩:=h;simp only[PyData.hasDict];exact IsL.noDict ds xs e3
 |.tuple ds,v,h=>by simp only[Is] at h;obtain⟨a,xs,e1,e2,e3⟩:=h;simp only[PyData.hasDict];exact IsL.noDict ds xs e3
 |.dict _,_,h=>by simp only[Is] at h
theorem IsL.noDict {H:Hp}:∀(ds:List PyData) (vs:List V),IsL K H ds vs->PyData.hasDictAll ds=false
 | [],_,h=>by simp only[PyData.hasDictAll]
 |d :: ds,vs,h=>by simp only[IsL] at h;obtain⟨v,r,e1,e2,e3⟩:=h;simp only[PyData.hasDictAll,Is.noDict d v e2,IsL.noDict ds r e3,Bool.or_self]
end
structure Sh (d:PyData):Prop where
 dp:ah5 d=true
 sh:d.showable=true
 fits:d.shown.length<=sizeLine
 deep:d.depth<=100
def ah4 (K:W.Frag):List V->Hp->VK->Prop:=λxs H Q=>ag1 xs H Q\/∃ x d,xs=[x]/\Is K H d x/\Sh d/\Q (.str d.shown) H
theorem Xe (hq:QA X.A):CallR X (.builtin "repr") (λxs H Q=>∃ x d,xs=[x]/\Is X.K H d x/\Sh d/\Q (.str d.shown) H):=by
 intro pins s σ H xs us Q I rv h;obtain⟨x,d,rfl,i,S,q⟩:=h;obtain⟨u,rfl,ru⟩:=rv.one;obtain⟨as,ra⟩:=Is.reads I d x u i ru
 have href:∃ a,u = .ref a:=by
  have hd:=S.dp
  cases d with
  |list ds=>simp only[Is] at i;obtain⟨a,_,rfl,_⟩:=i;exact⟨a,ru⟩
  |tuple ds=>simp only[Is] at i;obtain⟨a,_,rfl,_⟩:=i;exact⟨a,ru⟩
  |_=>cases hd
 obtain⟨a,rfl⟩:=href;refine repr_of_reads' ra S.sh (λhx=>absurd hx (by rw[Is.noDict d x i];exact A0O)) hq.gd (by have:=hq.un;have:=S.deep;omega) (λ_ _ e=>e) (λh' t tk hk=>?_) S.fits;exact⟨.str d.shown,H,I.kept hk,⟨t,rfl⟩,q⟩
theorem Ea (hq:QA X.A)(hK:X.K=K:=by ac_nf):CallR X (.builtin "repr") (ah4 K):=hK ▸ call_reprA.or (Xe hq)
theorem Jz {d:PyData}{x:V}{H:Hp}{Q:VK}(h:Is K H d x)(S:Sh d)(k:Q (.str d.shown) H):ah4 K [x] H Q:=.inr ⟨x,d,rfl,h,S,k⟩
def Wk (z:Str)(n:Nat):Str:=⟨(List.replicate n z.cps).foldl (· ++ ·) #[]⟩
def aC9:R2:=λx y H Q=>∃ z n,x = .str z/\y = .int n/\2<=n/\n<=1000/\z.length<=1000/\0<z.length/\Q (.str (Wk z n.toNat)) H
theorem ao0:OpR X (binaryOp .Mult) aC9:=by
 intro pins s σ H x y v u Q I rx ry h;obtain⟨z,n,rfl,rfl,h1,h2,h3,h4,q⟩:=h;obtain⟨t,rfl⟩:=rx;obtain⟨t2,rfl⟩:=ry;have a1:¬ n<1:=by omega
 have a2:(n==1||z.length==0)=false:=by
  have e1:(n==1)=false:=by simp;omega
  have e2:(z.length==0)=false:=by simp;omega
  rw[e1,e2];rfl
 have hz:z.length*n.toNat<=1000000:=by have:z.length*n.toNat<=1000*1000:=A3D h3 ∅;omega
 have hlen:(Wk z n.toNat).length<=sizeLine:=by
  have e:∀(m:Nat) (a:Array Nat),((List.replicate m z.cps).foldl (· ++ ·) a).size=a.size+m*z.cps.size:=by
   intro m
   induction m with
   |zero=>intro a;simp
   |succ m ih=>intro a;rw[A3B,A2M,ih,Array.size_append,Nat.succ_mul];omega
  show((List.replicate n.toNat z.cps).foldl (· ++ ·) #[]).size<=sizeLine;rw[e];have e2:z.cps.size=z.length:=rfl;rw[e2,A1N,A59];simp;omega
 refine PySem.P.mul_str (by
   have b1:¬ n < -(2 ^ 63:Int):=by omega
   have b2:¬ n>=2 ^ 63:=by omega
   rw[A11 b1,A11 b2];rfl) (λ_ _=>?_) (λ_ _=>?_) ?_
 . have:(2 ^ 63-1:Int) / n>=1000:=by
    refine Int.le_ediv_of_mul_le ∅ ?_;have:1000*n<=1000*1000:=by omega
    omega
   omega
 . have hz2:z.length*n.toNat<=sizeLine:=A9 hz;rw[A1N] at hz2;unfold Builtin.Str.tooLong;simp[sizeLine_eq];omega
 rw[A0W a1,a2,A0W A0O];exact⟨hlen,.str _,H,I.kept λ_ _ e=>e,⟨_,rfl⟩,q⟩
def ac1:R2:=λx y H Q=>ab5 x y H Q\/aC9 x y H Q
theorem Hf:OpR X (binaryOp .Mult) ac1:=op_mulA.or ao0
theorem i_mulBI {i j:Int}{H:Hp}{Q:VK}(h:CMul i j)(k:Q (.int (i*j)) H):ac1 (.int i) (.int j) H Q:=.inl (aC0 h k)
theorem ap7 {z:Str}{n:Int}{H:Hp}{Q:VK}(h:2<=n/\n<=1000/\z.length<=1000/\0<z.length)(k:Q (.str (Wk z n.toNat)) H):ac1 (.str z) (.int n) H Q:=.inr ⟨z,n,rfl,rfl,h.1,h.2.1,h.2.2.1,h.2.2.2,k⟩
theorem al1 {i:Int}{H:Hp}{Q:VK}{a:Addr}{xs:List V}(h1:H a=some (.lst xs))(h2:-(2 ^ 63)<=i/\i<2 ^ 63)(h3:xs.length*i.toNat<=sizeLine)(k:∀ p H',H p=none->Same H H'->H' p=some (.lst (List.replicate i.toNat xs).flatten)->Q (.ref p) H'):ac1 (.ref a) (.int i) H Q:=.inl (at2 h1 h2 h3 k)
def rIs (neg:Bool):R2:=λx y H Q=>(y = .non/\Q (.bl (if neg then !decide (x = .non) else decide (x = .non))) H)\/∃ a b,x = .bl a/\y = .bl b/\Q (.bl (if neg then !(a==b) else a==b)) H
theorem aB1:OpR X (compareOp .Is) (rIs false):=by
 intro pins s σ H x y v u Q I rx ry h;rcases h with ⟨rfl,q⟩|⟨a,b,rfl,rfl,q⟩
 . exact aB7 pins s σ H x .non v u Q I rx ry ⟨rfl,q⟩
 cases rx
 cases ry;refine wpAny_is_plain rfl ?_;refine⟨.bl _,H,I,?_,q⟩;show Value.bool (Value.bool a==Value.bool b)=Value.bool (a==b)
 cases a<;>cases b<;>rfl
theorem Ti:OpR X (compareOp .IsNot) (rIs true):=by
 intro pins s σ H x y v u Q I rx ry h;rcases h with ⟨rfl,q⟩|⟨a,b,rfl,rfl,q⟩
 . exact ap1 pins s σ H x .non v u Q I rx ry ⟨rfl,q⟩
 cases rx
 cases ry;refine wpAny_isNot_plain rfl ?_;refine⟨.bl _,H,I,?_,q⟩;show Value.bool (!(Value.bool a==Value.bool b))=Value.bool (!(a==b))
 cases a<;>cases b<;>rfl
theorem i_isN {x:V}{H:Hp}{Q:VK}(k:Q (.bl (decide (x = .non))) H):rIs false x .non H Q:=.inl ⟨rfl,k⟩
theorem i_isNotN {x:V}{H:Hp}{Q:VK}(k:Q (.bl (!decide (x = .non))) H):rIs true x .non H Q:=.inl ⟨rfl,k⟩
def aG3 (xs:List V)(i:Nat)(y:V):List V:=xs.take i++y :: xs.drop i
def Zv:V->List V->Hp->VK->Prop:=λx vs H Q=>∃ l xs i y,x = .ref l/\vs=[.int i,y]/\H l=some (.lst xs)/\0<=i/\i<=xs.length/\xs.length<sizeLine/\Q .non (upd H l (.lst (aG3 xs i.toNat y)))
theorem Zk:MtM X "list.insert" Zv:=by
 intro pins s σ H x vs v us Q I rx rv h;obtain⟨l,xs,i,y,rfl,rfl,hH,h0,h1,hz,q⟩:=h
 cases rx;obtain⟨u,w,rfl,ru,rw'⟩:=Vals.two rv;obtain⟨t,rfl⟩:=ru;obtain⟨z,its,n,r,hl,e⟩:=I.lstM hH;have hlen:=r.length
 refine A44 F.slot_list_insert ⟨_,e,rfl⟩ F.entry_list_insert (F.args_list_insert_3 _ _ _)
  (AutoSeq1.list_insert_list_int_val_1 l its.toArray n i t w (by rw[fitsIndex_both ∅ (by rw[A1N] at hz;omega)];decide) (by rw[A0V];omega)) ⟨e,?_⟩
 refine⟨.non,_,I.lset (its':=its.take i.toNat++w :: its.drop i.toNat) hH e ?_ ((r.take i.toNat).append (.cons rw' (r.drop i.toNat))) ?_,rfl,q⟩
 . have hi:i.toNat<=its.length:=by omega
   show(have k:=if i<0 then(i+((its.toArray.size:Nat):Int)).toNat else min i.toNat its.toArray.size;(its.toArray.extract 0 k).push w++its.toArray.extract k)=_
   rw[A0W ∅,A0V,A3J hi];simp[List.extract_eq_drop_take];exact A21 (by rw[A1G];omega)
 rw[A04,A0G,A0J,A1G];omega
section
variable {D:Pk}{σ:St}{H:Hp}{t u:TS}{te td ty tv:TE}{g:TG}
theorem Sa (M:St->Hp->Prop)(h1:∀ N:St->Hp->Prop,(∀ σ' H',M σ' H'->N σ' H')->t {D with nx:=N} σ H)(h2:∀ σ' H',M σ' H'->u D σ' H'):aE0 t u D σ H:=h1 (u D) h2
end
theorem al7 {a:Addr}{xs:List V}{H:Hp}{Q:VK}(h:SqL K H a xs\/SqT K H a xs)(k:∀ p H',H p=none->Same H H'->H' p=some (.lst xs)->Q (.ref p) H'):Ww K [.ref a] H Q:=⟨a,xs,rfl,h,λp hp=>k p _ hp (Same.upd hp) Ai⟩
theorem mm {id:String}{r:V->List V->Hp->VK->Prop}(h:MtM X id r):MtR X id r:=h
theorem i_tyLm {a:Addr}{xs:List V}{H:Hp}{B:Prop}(h:H a=some (.lst xs))(k:B):tyV K "list" (.ref a) H/\B:=⟨.inl ⟨rfl,xs,SqL.of h⟩,k⟩
theorem aH3 {l:Addr}{xs:List V}{y:V}{i:Int}{H:Hp}{Q:VK}(h:H l=some (.lst xs))(h0:0<=i)(h1:i<=xs.length)(hz:xs.length<=1000000)(k:∀ H',ExtBut l H H'->H' l=some (.lst (aG3 xs i.toNat y))->Q .non H'):Zv (.ref l) [.int i,y] H Q:=
 ⟨l,xs,i,y,rfl,rfl,h,h0,h1,by rw[A1N];omega,k _ ExtBut.upd Ai⟩
theorem L3 {l:Addr}{xs:List V}{y:V}{H:Hp}{Q:VK}(h:H l=some (.lst xs))(hz:xs.length<=1000000)(k:∀ H',ExtBut l H H'->H' l=some (.lst (xs++[y]))->Q .non H'):Za (.ref l) [y] H Q:=
 ⟨l,xs,y,rfl,rfl,h,by rw[A1N];omega,k _ ExtBut.upd Ai⟩
theorem T2 {l b:Addr}{xs zs:List V}{H:Hp}{Q:VK}(h:H l=some (.lst xs))(hb:H b=some (.lst zs))(hz:xs.length+zs.length<=1000000)(k:∀ H',ExtBut l H H'->H' l=some (.lst (xs++zs))->Q .non H'):Yz (.ref l) [.ref b] H Q:=
 ⟨l,b,xs,zs,rfl,rfl,h,hb,A9 hz,k _ ExtBut.upd Ai⟩
theorem ae8 {l:Addr}{xs:List V}{y:V}{H:Hp}{Q:VK}(h:H l=some (.lst (xs++[y])))(k:∀ H',ExtBut l H H'->H' l=some (.lst xs)->Q y H'):aJ6 (.ref l) [] H Q:=
 ⟨l,xs++[y],y,rfl,rfl,h,by simp,by rw[List.dropLast_concat];exact k _ ExtBut.upd Ai⟩
theorem ac0 {l:Addr}{xs:List V}{y:V}{i:Int}{H:Hp}{Q:VK}(h:H l=some (.lst xs))(h0:0<=i)(h1:xs[i.toNat]? = some y)(k:∀ H',ExtBut l H H'->H' l=some (.lst (xs.eraseIdx i.toNat))->Q y H')(hz:xs.length<=1000000):ae3 (.ref l) [.int i] H Q:=by
 have h2:=(A01.mp h1).1;refine⟨l,xs,i,i.toNat,y,rfl,rfl,h,by omega,by omega,?_,h1,k _ ExtBut.upd Ai⟩;have e:=R9 (Av (α:=V) h1);obtain⟨j,e1,e2,e3,_⟩:=e;rw[A3S h0] at e1;rw[e1]
 have e4:seqIndex? i xs.length=some i.toNat:=by unfold seqIndex? at e1 ⊢;simp[show ¬ i<0 by omega] at e1 ⊢;omega
 rw[<- e1,e4]
def Xg (xs:List V)(k:Int):List V:=if k=1 then xs else xs.reverse
def a74 (K:W.Frag):V->V->Hp->VK->Prop:=λx y H Q=>∃ a xs k,x = .ref a/\y = .int k/\(k=1\/k = -1)/\SqL K H a xs/\∀ p,H p=none->Q (.ref p) (upd H p (.lst (Xg xs k)))
theorem a90 (items:Array Value):slicePick items none none (some 1)=items:=by have e:slicePick items none none (some 1)=slicePick items none none none:=rfl;rw[e,Kn];simp[HT.sIx];rw[show items.size=items.toList.length by simp,List.take_length]
theorem Rg {e st:Expr}{te ts:TE}{p2 pos:Pos}(he:PE X e te)(hst:PE X st ts)(hK:X.K=K:=by ac_nf):PE X (.Subscript e (.Slice none none (some st) p2) pos) (tOp (a74 K) te ts):=by
 subst hK;intro pins s σ H Q I h;refine Subscript_ (thn (he pins s σ H _ I h) λv s1 ⟨x,H1,I1,r1,q1⟩=>?_);refine wpAny_Slice ?_;rw[evalPart_none];refine A0M (A0M ?_);rw[evalPart_some];refine thn (hst pins s1 σ H1 _ I1 q1) λu s2 ⟨y,H2,I2,r2,q2⟩=>?_;obtain⟨a,xs,k,rfl,rfl,hk,hx,q⟩:=q2
 cases r1;obtain⟨t,rfl⟩:=r2;have I4:Inv X pins σ H2 {s2 with heap:=s2.heap.push {cls:=.type "slice",data:=.fields #[.none,.none,.int k t]}}:=I2.kept (t':=s2.toks) λb ob q=>A06 _ q
 obtain⟨its,r,ht,hz⟩:=I4.list hx;have hlen:=r.length;refine tail_any (ops:=[.ref a,.ref s2.heap.objs.size]) ht.isList.typeIs slot_list_getitem.lookup ?_ ⋯;refine wpAny_getItem_list_slice ht.isList (Heap.IsSliceOf.new ..) .none .none (.int k t) (by rcases hk with rfl|rfl<;>decide) ?_ (by rw[A0V];omega)
 rcases hk with rfl|rfl
 . rw[a90];refine⟨.ref _,_,I4.laid (t':=s2.toks) (o:=.lst (Xg xs 1)) (λb ob q=>A06 _ q) (A05 _) ?_,rfl,q _ (I4.hok.fresh (A05 _))⟩;exact⟨hz,_,0,r,A15 _ rfl⟩
 rw[W.krv_pick];refine⟨.ref _,_,I4.laid (t':=s2.toks) (o:=.lst (Xg xs (-1))) (λb ob q=>A06 _ q) (A05 _) ?_,rfl,q _ (I4.hok.fresh (A05 _))⟩;exact⟨by show xs.reverse.length<=_;rw[A3R];exact hz,_,0,by show Vals xs.reverse _;exact r.reverse,A15 _ rfl⟩
theorem at0 {a:Addr}{xs:List V}{k:Int}{H:Hp}{Q:VK}(h:SqL K H a xs)(hk:k=1\/k = -1)(c:∀ p H',H p=none->Same H H'->H' p=some (.lst (Xg xs k))->Q (.ref p) H'):a74 K (.ref a) (.int k) H Q:=
 ⟨a,xs,k,rfl,rfl,hk,h,λp hp=>c p _ hp (Same.upd hp) Ai⟩
end
def Mh (c:Nat):Bool:=decide (97<=c)&&decide (c<=122)
def Rf (x:Str):Bool:=decide (1<=x.length)&&decide (x.length<=8)&&x.cps.toList.all Mh
def Names (ns:List Str):Prop:=ns.Nodup/\∀ z∈ns,Rf z=true
def LL:Str:="abcdefghijklmnopqrstuvwxyzabcdefghijklmnopqrstuvwxyz"
theorem aD7:Wk "abcdefghijklmnopqrstuvwxyz" (2:Int).toNat=LL:=by decide +kernel
def LLn:List Nat:=LL.cps.toList
theorem ax2:LL.length=52:=by decide +kernel
theorem Lb:LLn.length=52:=by decide +kernel
theorem Wo:∀ c∈LLn,Mh c=true:=by decide +kernel
def txt (l:List Nat):Str:=⟨l.toArray⟩
theorem al2 {a b:List Nat}(h:txt a=txt b):a=b:=by have:a.toArray=b.toArray:=congrArg Str.cps h;simpa using this
theorem Yc (a b:List Nat):txt a++txt b=txt (a++b):=by show(⟨a.toArray++b.toArray⟩:Str)=⟨(a++b).toArray⟩;simp
theorem L1 {l:List Nat}(h0:1<=l.length)(h1:l.length<=8)(h2:∀ c∈l,Mh c=true):Rf (txt l)=true:=by
 unfold Rf;have e:(txt l).length=l.length:=by show l.toArray.size=_;simp
 rw[e,A0H h0,A0H h1];show(true&&true&&l.all Mh)=true;rw[A1T.mpr h2];rfl
def Nx (a b:Nat):List Nat:=(LLn.drop a).take (b-a)
theorem Me {a b:Nat}(h:a<=b)(h1:b<=52):(Nx a b).length=b-a:=by unfold Nx;rw[A0J,A1G,Lb];omega
theorem Jn {a b:Nat}:∀ c∈Nx a b,Mh c=true:=λc hc=>Wo c (A2R (A1P hc))
theorem W5 {i j:Int}(h0:0<=i)(h1:i<=j)(h2:j<=52):Txt.slice LL (some i) (some j)=txt (Nx i.toNat j.toNat):=by
 have e:=StrLaws.sliceText_plain (x:=LL) (i:=i) (j:=j) ⟨h0,h1,by rw[show LL.cps.toList.length=52 by decide +kernel];omega⟩;have e2:(j-i).toNat=j.toNat-i.toNat:=by omega
 rw[e2] at e;exact e
def Rc (i:Nat):List Nat:=(LLn.drop i).take 1
theorem ap3 {i:Int}(h0:0<=i)(h1:i<52):∃ c,atI LL.cps.toList i=some c/\(⟨#[c]⟩:Str)=txt (Rc i.toNat):=by
 have h2:i.toNat<LLn.length:=by rw[Lb];omega
 refine⟨LLn[i.toNat],?_,?_⟩
 . have:=Av (A03 h2);rwa[A3S h0] at this
 unfold Rc;rw[List.drop_eq_getElem_cons h2];rfl
theorem Qz {i:Nat}(h:i<52):(Rc i).length=1:=by unfold Rc;rw[A0J,A1G,Lb];omega
theorem Ln {i:Nat}:∀ c∈Rc i,Mh c=true:=λc hc=>Wo c (A2R (A1P hc))
def nm0 (s:Nat):List (List Nat):=(List.range 8).map (λk=>Nx s (s+1+k))++[Rc (s+9),Rc (s+10)]
def nm1 (s z a:Nat):List (List Nat):=(List.range 10).map λk=>Nx s (s+a)++Rc (s+5*k % 26)++Nx (s+a+1) (s+z)
def nm2 (s:Nat):List (List Nat):=(List.range 10).map λk=>Nx (s+k) (s+k+1+3*k % 8)
theorem nd0:∀ s<26,(nm0 s).Nodup:=by decide +kernel
theorem nd2:∀ s<26,(nm2 s).Nodup:=by decide +kernel
theorem nd1':∀ s<26,((List.range 10).map λk=>Rc (s+5*k % 26)).Nodup:=by decide +kernel
theorem Jd {α β:Type}{f:α->β}:∀ {l:List α},l.Nodup->(∀ a∈l,∀ b∈l,f a=f b->a=b)->(l.map f).Nodup
 | [],_,_=>by simp
 |a :: l,h,hf=>by rw[A0U,A13];rw[A13] at h;refine⟨λhm=>?_,Jd h.2 λx hx y hy=>hf x (A09 _ hx) y (A09 _ hy)⟩;obtain⟨b,hb,e⟩:=A0F.mp hm;have:=hf b (A09 _ hb) a A0E e;subst this;exact h.1 hb
theorem Iq {α β:Type}{f:α->β}:∀ {l:List α},(l.map f).Nodup->∀ a∈l,∀ b∈l,f a=f b->a=b
 | [],_,a,ha,_,_,_=>by cases ha
 |c :: l,h,a,ha,b,hb,e=>by
   rw[A0U,A13] at h;rcases A0N.mp ha with q|ha'
   . rcases A0N.mp hb with q'|hb'
     . rw[q,q']
     exact absurd (A0F.mpr ⟨b,hb',by rw[<- e,q]⟩) h.1
   rcases A0N.mp hb with q'|hb'
   . exact absurd (A0F.mpr ⟨a,ha',by rw[e,q']⟩) h.1
   exact Iq h.2 a ha' b hb' e
theorem Ms {l:List (List Nat)}(h:l.Nodup):(l.map txt).Nodup:=Jd h λa _ b _ e=>al2 e
theorem nd1 {s z a:Nat}(hs:s<26):(nm1 s z a).Nodup:=by refine Jd List.nodup_range λk hk j hj e=>?_;have e1:Rc (s+5*k % 26)=Rc (s+5*j % 26):=List.append_cancel_left (List.append_cancel_right e);exact Iq (f:=λk=>Rc (s+5*k % 26)) (nd1' s hs) k hk j hj e1
theorem az6 {s:Nat}(hs:s<26):Names ((nm0 s).map txt):=by
 refine⟨Ms (nd0 s hs),λz hz=>?_⟩;obtain⟨l,hl,rfl⟩:=A0F.mp hz;rcases A0C.mp hl with h|h
 . obtain⟨k,hk,rfl⟩:=A0F.mp h;have hk:=A1R.mp hk;have e:=Me (a:=s) (b:=s+1+k) ∅ ∅;exact L1 ∅ ∅ Jn
 simp only[List.mem_cons,List.not_mem_nil,or_false] at h;rcases h with rfl|rfl
 . have e:=Qz (i:=s+9) ∅;exact L1 ∅ ∅ Ln
 have e:=Qz (i:=s+10) ∅;exact L1 ∅ ∅ Ln
theorem aD6 {s z a:Nat}(hs:s<26)(ha:a<z)(hz:z<=8):Names ((nm1 s z a).map txt):=by
 refine⟨Ms (nd1 hs),λy hy=>?_⟩;obtain⟨l,hl,rfl⟩:=A0F.mp hy;obtain⟨k,hk,rfl⟩:=A0F.mp hl;have hm:5*k % 26<26:=Nat.mod_lt _ nofun;have e1:=Me (a:=s) (b:=s+a) ∅ ∅;have e2:=Qz (i:=s+5*k % 26) ∅;have e3:=Me (a:=s+a+1) (b:=s+z) ∅ ∅;refine L1 (by simp only[List.length_append];omega) (by simp only[List.length_append];omega) λc hc=>?_;rcases A0C.mp hc with hc|hc
 . rcases A0C.mp hc with hc|hc
   . exact Jn c hc
   exact Ln c hc
 exact Jn c hc
theorem ay6 {s:Nat}(hs:s<26):Names ((nm2 s).map txt):=by refine⟨Ms (nd2 s hs),λz hz=>?_⟩;obtain⟨l,hl,rfl⟩:=A0F.mp hz;obtain⟨k,hk,rfl⟩:=A0F.mp hl;have hk:=A1R.mp hk;have hm:3*k % 8<8:=Nat.mod_lt _ nofun;have e:=Me (a:=s+k) (b:=s+k+1+3*k % 8) ∅ ∅;exact L1 ∅ ∅ Jn
def nm3:List Str:=["names","ahead","name","a","ab","aheads","last","ask","row","end"]
theorem aA8:Names nm3:=⟨by decide +kernel,by decide +kernel⟩
theorem Names.perm {ns ms:List Str}(h:Names ns)(p:ms.Perm ns):Names ms:=⟨p.nodup_iff.mpr h.1,λz hz=>h.2 z (p.mem_iff.mp hz)⟩
theorem Names.sublist {ns ms:List Str}(h:Names ns)(p:ms.Sublist ns):Names ms:=⟨h.1.sublist p,λz hz=>h.2 z (p.subset hz)⟩
theorem Names.reverse {ns:List Str}(h:Names ns):Names ns.reverse:=h.perm (List.reverse_perm _)
theorem Names.turn {ns:List Str}(h:Names ns)(t n:Nat):Names ((ns.drop t++ns.take t).take n):=
 Names.sublist (ns:=ns.drop t++ns.take t) (h.perm (List.perm_append_comm.trans (by rw[A2O]))) (List.take_sublist _ _)
theorem Ji {xs:List V}{t:Int}(h0:0<=t)(h1:t<=xs.length):Lv xs (some t) none=xs.drop t.toNat:=by
 have e:HT.sIx xs.length 0 (some t)=t.toNat:=by unfold HT.sIx;simp[show ¬ t<0 by omega];omega
 unfold Lv;rw[e];have e2:HT.sIx xs.length xs.length none=xs.length:=rfl;rw[e2];exact A21 (by rw[A1G];omega)
theorem Ht {xs:List V}{t:Int}(h0:0<=t):Lv xs none (some t)=xs.take t.toNat:=by
 have e:HT.sIx xs.length xs.length (some t)=min t.toNat xs.length:=by unfold HT.sIx;simp[show ¬ t<0 by omega]
 unfold Lv;rw[e];have e2:HT.sIx xs.length 0 none=0:=rfl;rw[e2,A5P,Nat.sub_zero,Nat.min_comm];rw[<- List.take_take];exact A21 (by rw[A0J];omega)
theorem Cp {lo:Int} {n i:Nat} {x:V} (h:((List.range n).map λ(i:Nat)=>V.int (lo+(i:Int)))[i]? = some x):x = .int (lo+(i:Int))/\i<n:=by
 rw[A07] at h
 cases e:(List.range n)[i]? with
 |none=>rw[e] at h;cases h
 |some j=>
   rw[e] at h
   cases h;have e1:=A01.mp e;obtain⟨h1,h2⟩:=e1;rw[A1F] at h1;rw[List.getElem_range] at h2;subst h2;exact⟨rfl,h1⟩
def fI (F:Int->V):V->V
 |.int k=>F k
 |v=>v
theorem Ul {lo:Int}{n:Nat}{F:Int->V}{G:Nat->Str}(h:∀ k<n,F (lo+(k:Int)) = .str (G k)):((List.range n).map λ(i:Nat)=>V.int (lo+(i:Int))).map (fI F)=((List.range n).map G).map V.str:=by rw[A2E,A2E];refine A1K λk hk=>?_;exact h k (A1R.mp hk)
theorem Tz:LL.length<=sizeLine:=by rw[ax2,A1N];omega
theorem Y0 {ns:List Str}(h:Names ns){k:Int}:∃ ms,Xg (ns.map V.str) k=ms.map V.str/\Names ms/\ms.length=ns.length:=by
 unfold Xg
 split
 . exact⟨ns,rfl,h,rfl⟩
 exact⟨ns.reverse,by rw[List.map_reverse],h.reverse,A3R ..⟩
theorem ExtBut.off {d q:Addr}{H H1 H2:Hp}(e:ExtBut d H H1)(hq:H q=none)(e2:ExtBut q H1 H2):ExtBut d H H2:=λb o n h=>e2 b o (ne_of_none h hq) (e b o n h)
theorem Same.off {q:Addr}{H H1 H2:Hp}(e:Same H H1)(hq:H q=none)(e2:ExtBut q H1 H2):Same H H2:=λb o h=>e2 b o (ne_of_none h hq) (e b o h)
def Up (ls:List Str)(ps:List (Str×Str)):Prop:=∀ p∈ps,∃ i j:Nat,i<j/\ls[i]? = some p.1/\ls[j]? = some p.2
theorem Up.nil {ls:List Str}:Up ls []:=λ_ h=>by cases h
theorem Up.append {ls:List Str}{ps qs:List (Str×Str)}(h:Up ls ps)(g:Up ls qs):Up ls (ps++qs):=λp hp=>by
 rcases A0C.mp hp with hp|hp
 . exact h p hp
 exact g p hp
theorem Up.one {ls:List Str}{x y:Str}{i j:Nat}(h:i<j)(hx:ls[i]? = some x)(hy:ls[j]? = some y):Up ls [(x,y)]:=λp hp=>by
 have:p=(x,y):=by simpa using hp
 subst this;exact⟨i,j,h,hx,hy⟩
theorem Up.sub {ls:List Str}{ps qs:List (Str×Str)}(h:Up ls ps)(s:∀ p∈qs,p∈ps):Up ls qs:=λp hp=>h p (s p hp)
theorem str_at? {ls:List Str}{i:Int}(h0:0<=i)(h1:i<ls.length):∃ z,ls[i.toNat]? = some z/\atI (ls.map V.str) i=some (.str z)/\atI ls i=some z:=by
 have h2:i.toNat<ls.length:=by omega
 refine⟨ls[i.toNat],A03 h2,?_,?_⟩
 . have:=Av (xs:=ls.map V.str) (j:=i.toNat) (v:=.str ls[i.toNat]) (by rw[A07,A03 h2];rfl);rwa[A3S h0] at this
 have:=Av (A03 h2);rwa[A3S h0] at this
theorem Ot {α:Type}:∀(us:List α) (k:Nat) (y:α),us[k]? = some y->(y :: us.eraseIdx k).Perm us
 | [],k,y,h=>by simp at h
 |u :: us,0,y,h=>by
   have:u=y:=by simpa using h
   subst this;exact A4A _
 |u :: us,k+1,y,h=>by have ih:=Ot us k y (by simpa using h);exact(A3E u y _).trans (ih.cons u)
theorem aa1 {α:Type}{us:List α}{k:Nat}{y:α}(h:us[k]? = some y)(vs:List α):(vs++[y]++us.eraseIdx k).Perm (vs++us):=by rw[A17];exact A30 vs (Ot us k y h)
theorem Yd {α:Type}{l:List α}{i:Nat}{x y:α}(h:l[i]? = some x):l.getD i y=x:=by rw[A1W,h];rfl
theorem a58 {α:Type}(as:List α)(f:α->Str×Str):as.map (λa=>prD (f a))=(as.map f).map prD:=by rw[A2E];rfl
theorem Ih {α:Type}{l:List α}{i:Nat}{y:α}(h:i<l.length):l[i]? = some (l.getD i y):=by rw[A1W,A03 h];rfl
inductive Way (ps:List (Str×Str)):Str->Str->Prop
 |one {x y:Str}:(x,y)∈ps->Way ps x y
 |cons {x z y:Str}:(x,z)∈ps->Way ps z y->Way ps x y
theorem Way.trans {ps:List (Str×Str)}{x y z:Str}(h:Way ps x y)(g:Way ps y z):Way ps x z:=by
 induction h with
 |one e=>exact .cons e g
 |cons e _ ih=>exact .cons e (ih g)
theorem Way.snoc {ps:List (Str×Str)}{x y z:Str}(h:Way ps x y)(g:(y,z)∈ps):Way ps x z:=h.trans (.one g)
theorem Way.right {ps:List (Str×Str)}{x y:Str}(h:Way ps x y):y∈ps.map (·.2):=by
 induction h with
 |one e=>exact A0F.mpr ⟨_,e,rfl⟩
 |cons _ _ ih=>exact ih
theorem Way.shut {ps:List (Str×Str)}{S:Str->Prop}{x:Str}(h0:∀ y,(x,y)∈ps->S y)(h1:∀ z y,S z->(z,y)∈ps->S y){y:Str}(g:Way ps x y):S y:=by
 induction g with
 |one e=>exact h0 _ e
 |cons e _ ih=>exact ih λy hy=>h1 _ _ (h0 _ e) hy
theorem Up.lt {ls:List Str}(hn:ls.Nodup){ps:List (Str×Str)}(h:Up ls ps){x y:Str}(g:Way ps x y):∃ i j:Nat,i<j/\ls[i]? = some x/\ls[j]? = some y:=by
 induction g with
 |one e=>exact h _ e
 |cons e _ ih=>
   obtain⟨i,j,h1,h2,h3⟩:=h _ e;obtain⟨i',j',g1,g2,g3⟩:=ih
   have e:j=i':=by obtain⟨a,b⟩:=A01.mp h3;obtain⟨c,d⟩:=A01.mp g2;exact(A2A hn).mp (b.trans d.symm)
   exact⟨i,j',by omega,h2,g3⟩
theorem Up.irrefl {ls:List Str}(hn:ls.Nodup){ps:List (Str×Str)}(h:Up ls ps){x:Str}:¬ Way ps x x:=λg=>by obtain⟨i,j,h1,h2,h3⟩:=h.lt hn g;obtain⟨a,b⟩:=A01.mp h2;obtain⟨c,d⟩:=A01.mp h3;have:=(A2A hn).mp (b.trans d.symm);omega
theorem Up.mem {ls:List Str}{ps:List (Str×Str)}(h:Up ls ps){p:Str×Str}(hp:p∈ps):p.1∈ls/\p.2∈ls:=by obtain⟨i,j,_,h2,h3⟩:=h p hp;exact⟨A02 h2,A02 h3⟩
structure Half (ns:List Str)(ps:List (Str×Str)):Prop where
 names:Names ns
 few:ns.length<=10
 le:ps.length<=60
 line:∃ ls:List Str,ls.Perm ns/\Up ls ps
theorem Half.irrefl {ns:List Str}{ps:List (Str×Str)}(h:Half ns ps){x:Str}:¬ Way ps x x:=by obtain⟨ls,h1,h2⟩:=h.line;exact h2.irrefl (h1.nodup_iff.mpr h.names.1)
theorem Half.mem {ns:List Str}{ps:List (Str×Str)}(h:Half ns ps){p:Str×Str}(hp:p∈ps):p.1∈ns/\p.2∈ns:=by obtain⟨ls,h1,h2⟩:=h.line;have:=h2.mem hp;exact⟨h1.mem_iff.mp this.1,h1.mem_iff.mp this.2⟩
theorem Lr (ls:List Str):PyData.eqv (.list (ls.map PyData.str)) (.list [])=ls.isEmpty:=by cases ls<;>simp[PyData.eqv,PyData.eqvAll]
mutual
def Bu:PyData->Bool
 |.none=>true
 |.bool _=>true
 |.str x=>PyData.strOk x
 |.list ds=>Hj ds
 |.tuple ds=>Hj ds
 |_=>false
def Hj:List PyData->Bool
 | []=>true
 |d :: ds=>Bu d&&Hj ds
end
mutual
theorem En:∀ d:PyData,Bu d=true->d.canLay0=true
 |.none,_=>by simp only[PyData.canLay0]
 |.bool _,_=>by simp only[PyData.canLay0]
 |.str x,h=>by simpa only[PyData.canLay0,Bu] using h
 |.list ds,h=>by simp only[PyData.canLay0];exact Le ds (by simpa only[Bu] using h)
 |.tuple ds,h=>by simp only[PyData.canLay0];exact Le ds (by simpa only[Bu] using h)
 |.int _,h=>by simp[Bu] at h
 |.dict _,h=>by simp[Bu] at h
theorem Le:∀ ds:List PyData,Hj ds=true->PyData.canLayAll0 ds=true
 | [],_=>by simp only[PyData.canLayAll0]
 |d :: ds,h=>by simp only[Hj,Bool.and_eq_true] at h;simp only[PyData.canLayAll0,En d h.1,Le ds h.2,Bool.and_self]
end
mutual
theorem Wp:∀ d:PyData,Bu d=true->d.showable=true
 |.none,_=>by simp only[PyData.showable]
 |.bool _,_=>by simp only[PyData.showable]
 |.str x,h=>by simp only[PyData.showable]
 |.list ds,h=>by simp only[PyData.showable];exact Mw ds (by simpa only[Bu] using h)
 |.tuple ds,h=>by simp only[PyData.showable];exact Mw ds (by simpa only[Bu] using h)
 |.int _,h=>by simp[Bu] at h
 |.dict _,h=>by simp[Bu] at h
theorem Mw:∀ ds:List PyData,Hj ds=true->PyData.showableAll ds=true
 | [],_=>by simp only[PyData.showableAll]
 |d :: ds,h=>by simp only[Hj,Bool.and_eq_true] at h;simp only[PyData.showableAll,Wp d h.1,Mw ds h.2,Bool.and_self]
end
mutual
theorem Ox:∀ d:PyData,Bu d=true->d.intsShort 13=true
 |.none,_=>by simp only[PyData.intsShort]
 |.bool _,_=>by simp only[PyData.intsShort]
 |.str x,h=>by simp only[PyData.intsShort]
 |.list ds,h=>by simp only[PyData.intsShort];exact K5 ds (by simpa only[Bu] using h)
 |.tuple ds,h=>by simp only[PyData.intsShort];exact K5 ds (by simpa only[Bu] using h)
 |.int _,h=>by simp[Bu] at h
 |.dict _,h=>by simp[Bu] at h
theorem K5:∀ ds:List PyData,Hj ds=true->PyData.intsShortAll 13 ds=true
 | [],_=>by simp only[PyData.intsShortAll]
 |d :: ds,h=>by simp only[Hj,Bool.and_eq_true] at h;simp only[PyData.intsShortAll,Ox d h.1,K5 ds h.2,Bool.and_self]
end
structure Fine (d:PyData):Prop where
 plain:Bu d=true
 deep:d.depth<=60
 light:d.weight<=1000000
theorem Fine.sh {d:PyData}(h:Fine d)(hd:ah5 d=true):Sh d:=by refine⟨hd,Wp d h.plain,?_,A0B h.deep nofun⟩;have h2:=PyData.shown_le 13 nofun d (PyData.leavesShort_of_canLay0 13 d (En d h.plain) (Ox d h.plain));have:=h.light;rw[A1N];omega
theorem Fine.shaped {d:PyData}(h:Fine d):SeqAt.shaped d=true:=by unfold SeqAt.shaped;rw[En d h.plain,A0H (A0B h.deep nofun)];rfl
theorem Xa {z:Str}(h:Rf z=true):PyData.strOk z=true/\z.cps.size<=8:=by unfold Rf at h;simp only[Bool.and_eq_true,decide_eq_true_eq] at h;refine⟨?_,h.1.2⟩;unfold PyData.strOk;rw[<- Array.all_toList,A1T];intro c hc;have:=A1T.mp h.2 c hc;unfold Mh at this;simp only[Bool.and_eq_true,decide_eq_true_eq] at this;exact A0H ∅
theorem Fi {α:Type}(f:α->PyData):∀ xs:List α,(∀ a∈xs,Bu (f a)=true)->Hj (xs.map f)=true
 | [],_=>by simp only[List.map_nil,Hj]
 |x :: xs,h=>by simp only[List.map_cons,Hj,h x List.mem_cons_self,Fi f xs λa ha=>h a (List.mem_cons_of_mem _ ha),Bool.and_self]
theorem J8 {α:Type}(f:α->PyData)(n:Nat):∀ xs:List α,(∀ a∈xs,(f a).depth<=n)->PyData.depthAll (xs.map f)<=n
 | [],_=>by simp only[List.map_nil,PyData.depthAll];omega
 |x :: xs,h=>by have h1:=h x A0E;have h2:=J8 f n xs λa ha=>h a (A09 _ ha);simp only[List.map_cons,PyData.depthAll];omega
theorem Jm {α:Type}(f:α->PyData)(n:Nat):∀ xs:List α,(∀ a∈xs,(f a).weight<=n)->PyData.weightAll (xs.map f)<=xs.length*(n+1)
 | [],_=>by simp only[List.map_nil,PyData.weightAll];omega
 |x :: xs,h=>by have h1:=h x A0E;have h2:=Jm f n xs λa ha=>h a (A09 _ ha);simp only[List.map_cons,PyData.weightAll,List.length_cons,Nat.add_mul];omega
theorem Gu {ns:List Str}(h:∀ z∈ns,Rf z=true):Bu (nmD ns)=true/\(nmD ns).depth<=1/\(nmD ns).weight<=ns.length*9:=by
 refine⟨by simp only[nmD,Bu];exact Fi _ ns λz hz=>by simp only[Bu];exact(Xa (h z hz)).1,?_,?_⟩
 . simp only[nmD,PyData.depth];have:=J8 PyData.str 0 ns λz hz=>by simp only[PyData.depth];omega
   omega
 simp only[nmD,PyData.weight];exact Jm PyData.str 8 ns λz hz=>by simp only[PyData.weight];exact(Xa (h z hz)).2
def NmP (ps:List (Str×Str)):Prop:=∀ p∈ps,Rf p.1=true/\Rf p.2=true
theorem Qw {ns:List Str}(h:∀ z∈ns,Rf z=true)(hl:ns.length<=1000):Fine (nmD ns):=let ⟨a,b,c⟩:=Gu h;⟨a,by omega,by omega⟩
theorem Wi {ns:List Str}(h:∀ z∈ns,PyData.strOk z=true):SeqAt.shaped (.list (ns.map PyData.str))=true:=by
 unfold SeqAt.shaped;have e:(PyData.list (ns.map PyData.str)).canLay0=true:=En _ (by simp only[Bu];exact Fi _ ns λz hz=>by simp only[Bu];exact h z hz)
 have e2:(PyData.list (ns.map PyData.str)).depth<=64:=by
  simp only[PyData.depth];have:=J8 PyData.str 0 ns λz hz=>by simp only[PyData.depth];omega
  omega
 rw[e,A0H e2];rfl
theorem Half.nmP {ns:List Str}{ps:List (Str×Str)}(h:Half ns ps):NmP ps:=λp hp=>⟨h.names.2 _ (h.mem hp).1,h.names.2 _ (h.mem hp).2⟩
theorem G4 {α:Type}[DecidableEq α]:∀ {xs ys:List α},xs.Nodup->(∀ x∈xs,x∈ys)->xs.length<=ys.length
 | [],_,_,_=>A2C _
 |x :: xs,ys,h,hs=>by
   rw[A13] at h;have hx:x∈ys:=hs x A0E
   have ih:=G4 (xs:=xs) (ys:=ys.erase x) h.2 λz hz=>by refine(A5N ?_).mpr (hs z (A09 _ hz));intro e;subst e;exact h.1 hz
   rw[A4V hx] at ih;have:0<ys.length:=A54 hx;rw[A0G];omega
section
variable {c:TT}{tb:TS}{D:Pk}{σ:St}{H:Hp}
theorem Qa (W:Nat->St->Hp->Prop)(m:Nat)(h0:W m σ H)
  (hs:∀ m σ H,W m σ H->c σ H λb H1=>if b=true then ∃ N:St->Hp->Prop,(∀ σ' H',N σ' H'->∃ m',m'<m/\W m' σ' H')/\tb {D with nx:=N,ct:=N,bk:=D.nx} σ H1 else D.nx σ H1):ae5 c tb D σ H:=⟨W,⟨m,h0⟩,hs⟩
theorem Vt {W:Nat->St->Hp->Prop}{m:Nat}(h:tb {D with nx:=fun σ' H'=>∃ m',m'<m/\W m' σ' H',ct:=fun σ' H'=>∃ m',m'<m/\W m' σ' H',bk:=D.nx} σ H) :
  ∃ N:St->Hp->Prop,(∀ σ' H',N σ' H'->∃ m',m'<m/\W m' σ' H')/\tb {D with nx:=N,ct:=N,bk:=D.nx} σ H:=⟨_,λ_ _ h=>h,h⟩
end
section
variable {X:Cx}{K:W.Frag}
def Uj:V->List V->Hp->VK->Prop:=λx vs H Q=>∃ d o kvs more,x = .ref d/\vs=[.ref o]/\d≠o/\H d=some (.dK kvs)/\H o=some (.dK more)/\kvs.length+more.length<=1000000/\Q .non (upd H d (.dK (Gg kvs more)))
theorem Zo:MtM X "dict.update" Uj:=by
 intro pins s σ H x vs v us Q I rx rv h;obtain⟨d,o,kvs,more,rfl,rfl,hdo,hD,hO,hz,q⟩:=h
 cases rx;obtain⟨u,rfl,ru⟩:=rv.one
 cases ru;obtain⟨z1,hd1,vs1,rel1,dd1⟩:=Ui I.hok hD;obtain⟨z2,hd2,vs2,rel2,dd2⟩:=Ui I.hok hO;have l1:kvs.length=vs1.length:=rel1.length;have l2:more.length=vs2.length:=rel2.length;refine call_meetsIn F.slot_dict_update dd1.typeIs F.entry_dict_update (F.args_dict_update_2 _ _) (meets_dict_update (B7 X.prog X.w) d o hdo hd2) ⟨vs1,vs2,dd1,dd2,A9 ∅,λh' dd' _ hs=>?_⟩;have he:∃ q,h'.get? d=some q:=let ⟨q,_,_,hq,_⟩:=dd';⟨q,hq⟩;refine⟨.non,_,Qu I (by rw[hD];exact A2X) hs he (Vs ?_ hd1 (KV.merge rel2 rel1) dd'),rfl,q⟩;have:=G7 more kvs;exact A9 ∅
end
theorem Io:entryFor table "dict.update.loop" = some Builtin.«dict.update.loop»:=entryFor_of_tree (by kernel_rfl)
theorem Cr:plainId "dict.update.loop" = true:=by decide +kernel
theorem Su:typeLookup (.type "list") "keys" = pure none:=by rw[typeLookup_type,builtinLookup_eq_fast];kernel_rfl
section
variable {prog:Program}{w:World}{κ:Type}[DecidableEq κ]{knd:KeyKind prog w κ}{A:Around}{E:Value->Shared->Prop}{s:Shared}
theorem Sc {a:Addr}{xs:Array Value}{k:Nat}{Q:Option Value->Shared->Prop}(hx:s.heap.get? a=some {cls:=.type "list",data:=.seq xs k})(hA:A.handled=none)
  (h:∀ h' tk,(∀ b o,s.heap.get? b=some o->h'.get? b=some o)->Q none {s with heap:=h',toks:=tk}):wpAny (model prog w) A (getAttr? (.ref a) "keys") Q E s:=by
 obtain⟨hp,g,d,tk,os⟩:=s;have hT:∀ tk',(⟨hp,g,d,tk',os⟩:Shared).TypeIs (.ref a) "list":=λ_=>⟨_,hx,rfl⟩;have f1:=sub_AttributeError;have f3:=F.slot_list_getattribute.lookup;have f4:=F.slot_list_getattribute.bind (.ref a);have f5:=am_list_getattr_none;unfold getAttr? getAttrBy? getAttrBy
 repeat (any_goals (first | assumption | exact hT _ | ((with_reducible show wpAny _ _ (call (Value.builtin "list.__getattribute__") _ _) _ _ _);refine A44 F.slot_list_getattribute (hT _) am_entry_list_getattribute (F.args_list_getattribute_2 _ _) (meets_getattribute_miss_list a xs k #[] "keys" _ Su (by decide +kernel) (by rw[A1N];decide +kernel)) ⟨hx,hA,λh' tk' e hx'=>?_⟩) | wp_step))
 obtain⟨t',u',he⟩:=hx'.there;show wpAny _ _ (getattributeRaised _ _ _ _ _ _ _) _ _ _;unfold getattributeRaised
 repeat (any_goals (first | assumption | wp_step))
 exact h _ _ hx'.keeps
theorem On {t:Addr}{k v:Value}{Q:List Value->Shared->Prop}(ht:IsTup s.heap t #[k,v])(h:Q [k,v] s):wpAny (model prog w) A (Builtin.Dict.pairItems (.ref t)) Q E s:=by obtain⟨o,ho,hc,n,hd⟩:=ht;unfold Builtin.Dict.pairItems;refine A08 (A4M ⟨o,ho,hc⟩ ?_);rw[A10 nofun];refine A08 (wpAny_seqItems ho hd ?_);exact A0M h
theorem Z8 {I D l:Addr}{items:Array Value}(hh:A.in1.handled=none)(hne:l≠I)(hDI:D≠I)(hDl:D≠l)(pk:List (κ×Value×Addr×Value))(hlen:pk.length=items.size)(hz:items.size<=1000000) :
  ∀(j i:Nat) (s:Shared) (R:Result->Shared->Prop),items.size-i=j->i<=items.size->s.heap.IsListIter I l i->s.heap.IsList l items ->
   s.heap.DictOf knd D (merged [] ((pk.take i).map λp=>(p.1,p.2.1))) ->
   (∀(n:Nat) (p:κ×Value×Addr×Value),pk[n]? = some p->items[n]? = some (Value.ref p.2.2.1)/\p.2.2.1≠I/\p.2.2.1≠D/\IsTup s.heap p.2.2.1 #[p.2.2.2,p.2.1]/\knd.is p.1 p.2.2.2=true) ->
   (∀ h' tk,h'.DictOf knd D (merged [] (pk.map λp=>(p.1,p.2.1)))->(∀ b o,b≠D->b≠I->s.heap.get? b=some o->h'.get? b=some o)->R (.ok (.ret .none)) {s with heap:=h',toks:=tk}) ->
   codeAny (model prog w) A (.builtin "dict.update.loop" ⟨[.ref D,.ref I,.int i 0,.none],[]⟩) R s:=by
 have W:=Walks.list (prog:=prog) (w:=w) hh I l hne items;intro j
 induction j with
 |zero=>
   intro i s R hj hi hI hL hD hP hR;have hin:i=items.size:=by omega
   subst hin;refine A5D Io ?_;rw[A4D Cr _];show wpAny _ A.in1 (pyNext (.ref I) >>= _) _ _ s;refine A08 (W.done s _ _ ⟨hI,hL⟩ λh' tk hm=>?_);show wpAny _ A.in1 (Builtin.Dict.addKeywords D [] >>= _) _ _ _;refine wpAny_bind (wpAny_pure (wpAny_pure (hR h' tk ?_ λb o hb hb' e=>hm b o (by simpa using hb') e)));rw[<- hlen,A0R] at hD;obtain⟨o,es,ep,ho,r⟩:=hD;exact⟨o,es,ep,hm D o (by simpa using hDI) ho,r⟩
 |succ j ih=>
   intro i s R hj hi hI hL hD hP hR;have hlt:i<items.size:=by omega
   obtain⟨p,hp⟩:∃ p,pk[i]? = some p:=⟨pk[i]'∅,A03 _⟩;obtain⟨q1,q2,q3,q4,q5⟩:=hP i p hp;refine A5D Io ?_;rw[A4D Cr _];show wpAny _ A.in1 (pyNext (.ref I) >>= _) _ _ s;refine A08 (W.item i s _ _ hlt ⟨hI,hL⟩ λv h' tk hv hst hm=>?_)
   have hv':v = .ref p.2.2.1:=by have hv2:items[i]? = some v:=hv;rw[q1] at hv2;exact(A12 hv2).symm
   subst hv'
   have ht':IsTup h' p.2.2.1 #[p.2.2.2,p.2.1]:=by obtain⟨o,ho,r⟩:=q4;exact⟨o,hm _ o (by simpa using q2) ho,r⟩
   have hD':h'.DictOf knd D (merged [] ((pk.take i).map λp=>(p.1,p.2.1))):=by obtain⟨o,es,ep,ho,r⟩:=hD;exact⟨o,es,ep,hm D o (by simpa using hDI) ho,r⟩
   show wpAny _ A.in1 (holding [Value.ref p.2.2.1] _ >>= _) _ _ _;refine A08 (A3A ?_);refine A08 (wpAny_tryCatch (On ht' ?_));show wpAny _ A.in1 (holding [p.2.2.2,p.2.1] (dictSet D p.2.2.2 p.2.1)) _ _ _;refine A3A (wpAny_dictSet_pairs q5 hD' (λh'' hD'' hs=>?_) ?_)
   . refine A0M ⟨A5W Cr _,?_⟩;have hkeep:∀ b o,b≠D->b≠I->s.heap.get? b=some o->h''.get? b=some o:=λb o h1 h2 e=>(hs.2 b h1).trans (hm b o (by simpa using h2) e);refine ih (i+1) _ R ∅ hlt ?_ ?_ ?_ (λn p' hp'=>?_) λh3 tk3 hD3 hk3=>hR h3 tk3 hD3 λb o h1 h2 e=>hk3 b o h1 h2 (hkeep b o h1 h2 e)
     . exact hst.1.at λo e=>(hs.2 I (Ne.symm hDI)).trans e
     . exact hst.2.at λo e=>(hs.2 l (Ne.symm hDl)).trans e
     . have e:merged [] ((pk.take (i+1)).map λp=>(p.1,p.2.1))=stored (merged [] ((pk.take i).map λp=>(p.1,p.2.1))) p.1 p.2.1:=by rw[A0I,hp];unfold merged;rw[A0A,List.foldl_append];rfl
       rw[e];exact hD''
     obtain⟨a1,a2,a3,⟨o,ho,r⟩,a5⟩:=hP n p' hp';exact⟨a1,a2,a3,⟨o,hkeep _ o a3 a2 ho,r⟩,a5⟩
   refine A0B (merged_length_le _ _) (A9 ?_);rw[A00,A0J];simp;omega
theorem Nq {l:Addr}{items:Array Value}{n:Nat}{Q:Value->Shared->Prop}(hl:s.heap.get? l=some {cls:=.type "list",data:=.seq items n})(hA:A.handled=none)(pk:List (κ×Value×Addr×Value))(hlen:pk.length=items.size)(hz:items.size<=1000000)
  (hP:∀(n:Nat) (p:κ×Value×Addr×Value),pk[n]? = some p->items[n]? = some (Value.ref p.2.2.1)/\IsTup s.heap p.2.2.1 #[p.2.2.2,p.2.1]/\knd.is p.1 p.2.2.2=true)
  (h:∀ h' tk,h'.DictOf knd s.heap.objs.size (merged [] (pk.map λp=>(p.1,p.2.1)))->(∀ b o,s.heap.get? b=some o->h'.get? b=some o)->Q (.ref s.heap.objs.size) {s with heap:=h',toks:=tk}) :
  wpAny (model prog w) A (call (.type "dict") [.ref l]) Q E s:=by
 refine callType_codes (Q₁:=λobj s₁=>obj = .ref s.heap.objs.size/\s₁={s with heap:=s.heap.push {cls:=.type "dict",data:=.dict #[]}}) F.kt_called_dict (F.kt_typeCall_dict_1 _) F.entry_dict_init (kt_code_dict_new _ ⟨rfl,rfl⟩) ?_
 rintro obj s₁ ⟨rfl,rfl⟩;have hnew:(s.heap.push {cls:=.type "dict",data:=.dict #[]}).DictOf knd s.heap.objs.size []:=Heap.DictOf.new s.heap;have hl':(s.heap.push {cls:=.type "dict",data:=.dict #[]}).get? l=some {cls:=.type "list",data:=.seq items n}:=A06 _ hl;have hll:l<s.heap.objs.size:=A0L hl;refine⟨hnew.typeIs,F.args_dict_init_2 _ _,?_⟩;unfold Builtin.«dict.__init__»;refine A08 ?_;unfold Builtin.Dict.selfAndRest;refine A08 (A5E hnew.typeIs ?_);show wpAny _ _ (pure (s.heap.objs.size,[Value.ref l])) _ _ _;refine A0M ?_;show wpAny _ _ (Builtin.Dict.updateFrom "dict.__init__" s.heap.objs.size (.ref l) [] .none) _ _ _;unfold Builtin.Dict.updateFrom;refine A08 (A4M ⟨_,hl',rfl⟩ ?_);rw[A10 nofun];refine wpAny_bind (Sc hl' (by simpa using hA) λh1 tk1 hk1=>?_);have hl1:h1.get? l=some {cls:=.type "list",data:=.seq items n}:=hk1 _ _ hl';rw[A10 (show(none:Option Value).isNone=true from rfl)]
 have hD1:h1.DictOf knd s.heap.objs.size []:=by obtain⟨o,es,ep,ho,r⟩:=hnew;exact⟨o,es,ep,hk1 _ _ ho,r⟩
 have hsz:s.heap.objs.size<h1.objs.size:=by obtain⟨o,es,ep,ho,r⟩:=hD1;exact A0L ho
 refine A08 (A46 ?_);have hL1:h1.IsList l items:=⟨_,hl1,rfl,n,rfl⟩;refine A08 (A45 hL1 ?_);refine A0M ⟨A5W Cr _,?_⟩;have kp:∀ b o,s.heap.get? b=some o->(h1.push {cls:=.type "list_iterator",data:=.fields #[.ref l,.int 0 0]}).get? b=some o:=λb o e=>A06 _ (hk1 _ _ (A06 _ e));refine Z8 (knd:=knd) (A:=A.in1) (I:=h1.objs.size) (D:=s.heap.objs.size) (l:=l) (items:=items) (by simpa using hA) (Nat.ne_of_lt (Nat.lt_trans hll hsz)) (Nat.ne_of_lt hsz) (Nat.ne_of_gt hll) pk hlen hz items.size 0 _ _ (Nat.sub_zero _) (Nat.zero_le _) ⟨_,Heap.get?_push_size _ rfl,rfl,rfl⟩ (hL1.push _) ?_ (λm p hp=>?_) λh' tk hD hk=>?_
 . exact hD1.push _
 . obtain⟨a1,⟨o,ho,r⟩,a3⟩:=hP m p hp;have hlt:=A0L ho;exact⟨a1,A1C (A3V hlt hsz),A1C hlt,⟨o,kp _ _ ho,r⟩,a3⟩
 refine⟨rfl,h h' tk hD λb o e=>?_⟩;have hlt:=A0L e;exact hk b o (A1C hlt) (A1C (A3V hlt hsz)) (kp b o e)
end
def PrsK (K:W.Frag)(H:Hp):List (Key×V)->List V->Prop
 | [],ys=>ys=[]
 |kv :: r,ys=>∃ t ys',ys = .ref t :: ys'/\SqT K H t [kV kv.1,kv.2]/\PrsK K H r ys'
theorem PrsK.pk {X:Cx}{pins:List (Addr×Obj)}{σ:St}{H:Hp}{s:Shared}(I:Inv X pins σ H s):∀(kvs:List (Key×V)) (ys:List V) (its:List Value),PrsK X.K H kvs ys->Vals ys its ->
  ∃ pk:List (Key×Value×Addr×Value),pk.length=its.length/\KV kvs (pk.map λp=>(p.1,p.2.1))/\∀(n:Nat) (p:Key×Value×Addr×Value),pk[n]? = some p->its[n]? = some (Value.ref p.2.2.1)/\IsTup s.heap p.2.2.1 #[p.2.2.2,p.2.1]/\(B7 X.prog X.w).is p.1 p.2.2.2=true
 | [],ys,its,h,v=>by
   have h':ys=[]:=h;subst h'
   cases v;exact ⟨[],rfl,.nil,λn p hp=>by simp at hp⟩
 |kv :: r,ys,its,h,v=>by
   obtain⟨t,ys',rfl,h2,h3⟩:=h
   cases v with
   |cons v1 v2=>
     obtain⟨pk,l1,l2,l3⟩:=PrsK.pk I r ys' _ h3 v2
     cases v1;obtain ⟨its2,rv,ht,_⟩:=I.tuple h2;obtain⟨key,val,rfl,a1,a3⟩:=Vals.two rv;refine⟨(kv.1,val,t,key) :: pk,by simp[l1],.cons ⟨rfl,a3⟩ l2,λn p hp=>?_⟩
     cases n with
     |zero=>have:p=(kv.1,val,t,key):=(Option.some.inj (by simpa using hp)).symm;subst this;exact⟨rfl,ht,Vm a1⟩
     |succ n=>exact l3 n p (by simpa using hp)
section
variable {X:Cx}{K:W.Frag}
def a05 (K:W.Frag):List V->Hp->VK->Prop:=λxs H Q=>∃ l ys kvs,xs=[V.ref l]/\H l=some (.lst ys)/\PrsK K H kvs ys/\ys.length<=1000000/\kvs.length<=1000000/\∀ p,H p=none->Q (.ref p) (upd H p (.dK (Gg [] kvs)))
theorem X8 (hr:X.A.handled=none):CallR X (.type "dict") (a05 X.K):=by
 intro pins s σ H xs us Q I rv h;obtain⟨l,ys,kvs,rfl,hl,hp,hz,hz2,q⟩:=h;obtain⟨u,rfl,ru⟩:=rv.one
 cases ru;obtain⟨z,its,n,r,hlen,e⟩:=I.lstM hl;obtain⟨pk,l1,l2,l3⟩:=PrsK.pk I kvs ys its hp r;refine Nq (knd:=B7 X.prog X.w) e hr pk (by simpa using l1) (by simp;omega) (λn p hp=>?_) λh' tk hD hk=>?_
 . obtain⟨a1,a2,a3⟩:=l3 n p hp;exact⟨by simpa using a1,a2,a3⟩
 refine⟨.ref s.heap.objs.size,_,I.laid hk (A05 _) (Vs ?_ ?_ (KV.merge l2 .nil) hD),rfl,q _ (I.hok.fresh (A05 _))⟩
 . have:=G7 kvs [];exact A9 (by simpa using Nat.le_trans this (by simpa using hz2))
 exact A1X.mpr (Nat.ne_of_gt I.big)
theorem Op (hr:X.A.handled=none)(hK:X.K=K:=by ac_nf):CallR X (.type "dict") (a05 K):=hK ▸ X8 hr
end
def Ug (ns:List Str)(as:List Addr):List (Key×V):=(ns.zip as).map λp=>(Sum.inr p.1,V.ref p.2)
def Lm (ks:List Str):List (Key×V):=ks.map λy=>(Sum.inr y,V.bl true)
theorem Qi:∀ {ns:List Str} {as:List Addr} {i:Nat} {z:Str} {a:Addr},ns.Nodup->ns[i]? = some z->as[i]? = some a->Ee (Ug ns as) (Sum.inr z:Key)=some (.ref a)
 | [],_,i,_,_,_,h,_=>by simp at h
 |n :: ns,[],i,_,_,_,_,h=>by simp at h
 |n :: ns,b :: as,0,z,a,_,h,g=>by simp at h g;subst h g;exact C2 rfl
 |n :: ns,b :: as,i+1,z,a,hn,h,g=>by
   rw[A13] at hn;have h':ns[i]? = some z:=by simpa using h
   have ne:¬ (Sum.inr n:Key)=Sum.inr z:=by
    intro e;have e2:n=z:=by injection e
    subst e2;exact hn.1 (A02 h')
   show Ee ((Sum.inr n,V.ref b) :: Ug ns as) _=_;rw[C1 ne];exact Qi hn.2 h' (by simpa using g)
theorem Wv (y:Str):∀ ks:List Str,Ee (Lm ks) (Sum.inr y:Key)=if y∈ks then some (.bl true) else none
 | []=>by simp[Lm,ab9]
 |k :: ks=>by
   show Ee ((Sum.inr k,V.bl true) :: Lm ks) _=_
   by_cases e:k=y
   . subst e;rw[C2 rfl,A10 A0E]
   rw[C1 (by intro q;injection q with q;exact e q),Wv y ks]
   have:(y∈k :: ks)↔y∈ks:=by simp[Ne.symm e]
   simp only[this]
def ag0 (ks:List Str)(y:Str):List Str:=if y∈ks then ks else ks++[y]
theorem mem_addK {ks:List Str}{y z:Str}:z∈ag0 ks y↔z∈ks\/z=y:=by
 unfold ag0
 split
 . constructor
   . exact .inl
   rintro(h|rfl)
   . exact h
   assumption
 simp
theorem Oz {ks:List Str}{y:Str}(h:ks.Nodup):(ag0 ks y).Nodup:=by
 unfold ag0
 split
 . exact h
 rename_i hy;rw[A2F];refine⟨h,by simp,λa ha b hb e=>?_⟩;have:b=y:=by simpa using hb
 subst this;subst e;exact hy ha
theorem aq4 (y:Str)(ks:List Str):((Lm ks).any λkv=>decide (kv.1=(Sum.inr y:Key)))=decide (y∈ks):=by
 induction ks with
 |nil=>simp[Lm]
 |cons k ks ih=>
   show(decide ((Sum.inr k:Key)=Sum.inr y)||(Lm ks).any _)=_
   rw[ih]
   by_cases e:k=y
   . subst e;simp
   have e':¬ (Sum.inr k:Key)=Sum.inr y:=by intro q;injection q with q;exact e q
   simp[e',Ne.symm e]
theorem Y7 (ks:List Str)(y:Str):Gx (Lm ks) (Sum.inr y:Key) (.bl true)=Lm (ag0 ks y):=by
 unfold Gx ag0;rw[aq4]
 by_cases h:y∈ks
 . rw[A10 (A0H h),A10 h];unfold Lm;rw[A2E];refine A1K λk _=>?_;show(if(Sum.inr k:Key)=Sum.inr y then(Sum.inr k,V.bl true) else(Sum.inr k,V.bl true))=_
   split<;>rfl
 rw[if_neg (by simpa using h),if_neg h];unfold Lm;rw[A0A];rfl
def Mu (ks ms:List Str):List Str:=ms.foldl ag0 ks
theorem Tl:∀(ms ks:List Str),Gg (Lm ks) (Lm ms)=Lm (Mu ks ms)
 | [],ks=>rfl
 |m :: ms,ks=>by show Gg (Gx (Lm ks) (Sum.inr m) (.bl true)) (Lm ms)=_;rw[Y7,Tl ms];rfl
theorem mem_addAll:∀ {ms ks:List Str} {z:Str},z∈Mu ks ms↔z∈ks\/z∈ms
 | [],ks,z=>by simp[Mu]
 |m :: ms,ks,z=>by show z∈Mu (ag0 ks m) ms↔_;rw[mem_addAll,mem_addK,A0N,or_assoc]
theorem Ly:∀ {ms ks:List Str},ks.Nodup->(Mu ks ms).Nodup
 | [],ks,h=>h
 |m :: ms,ks,h=>Ly (ms:=ms) (Oz h)
theorem Vg (ks:List Str):(Lm ks).length=ks.length:=by simp[Lm]
theorem Nw:∀(kvs acc:List (Key×V)),(kvs.map (·.1)).Nodup->(∀ k∈kvs,∀ q∈acc,q.1≠k.1)->Gg acc kvs=acc++kvs
 | [],acc,_,_=>by simp[Gg]
 |k :: kvs,acc,hn,hd=>by
   show Gg (Gx acc k.1 k.2) kvs=_
   have e:Gx acc k.1 k.2=acc++[k]:=by
    unfold Gx
    have:¬ (acc.any λkv=>decide (kv.1=k.1))=true:=by rw[A2B];rintro⟨q,hq,e⟩;exact hd k A0E q hq (A1E e)
    rw[A0W this]
   rw[A0U,A13] at hn;rw[e,Nw kvs (acc++[k]) hn.2 λx hx q hq=>?_,A17]
   . rfl
   rcases A0C.mp hq with hq|hq
   . exact hd x (A09 _ hx) q hq
   have:q=k:=by simpa using hq
   subst this;intro e;exact hn.1 (A0F.mpr ⟨x,hx,e.symm⟩)
structure Tab (H:Hp)(r:Addr)(ns:List Str)(as:List Addr)(R:Str->Str->Prop):Prop where
 len:as.length=ns.length
 nd:as.Nodup
 nr:r∉as
 top:H r=some (.dK (Ug ns as))
 row:∀(i:Nat) (z:Str) (a:Addr),ns[i]? = some z->as[i]? = some a->∃ ks:List Str,H a=some (.dK (Lm ks))/\ks.Nodup/\(∀ y∈ks,y∈ns)/\∀ y,y∈ks↔R z y
theorem Tab.same {H H':Hp}{r:Addr}{ns:List Str}{as:List Addr}{R:Str->Str->Prop}(h:Tab H r ns as R)(e:Same H H'):Tab H' r ns as R:=
 ⟨h.len,h.nd,h.nr,e _ _ h.top,λi z a hz ha=>let ⟨ks,h1,h2⟩:=h.row i z a hz ha;⟨ks,e _ _ h1,h2⟩⟩
theorem Tab.congr {H:Hp}{r:Addr}{ns:List Str}{as:List Addr}{R R':Str->Str->Prop}(h:Tab H r ns as R)(e:∀ z∈ns,∀ y,R z y↔R' z y):Tab H r ns as R':=
 ⟨h.len,h.nd,h.nr,h.top,λi z a hz ha=>let ⟨ks,h1,h2,h3,h4⟩:=h.row i z a hz ha;⟨ks,h1,h2,h3,λy=>(h4 y).trans (e z (A02 hz) y)⟩⟩
theorem Tab.put {H H':Hp}{r b:Addr}{ns:List Str}{as:List Addr}{R R':Str->Str->Prop}(h:Tab H r ns as R)(e:ExtBut b H H'){j:Nat}{x:Str}(hn:ns.Nodup)(hj:ns[j]? = some x)(hb:as[j]? = some b){ks:List Str}
  (hk:H' b=some (.dK (Lm ks))) (k1:ks.Nodup) (k2:∀ y∈ks,y∈ns) (k3:∀ y,y∈ks↔R' x y) (k4:∀ z∈ns,z≠x->∀ y,R z y↔R' z y):Tab H' r ns as R':=by
 refine⟨h.len,h.nd,h.nr,e _ _ (λq=>h.nr (q ▸ A02 hb)) h.top,λi z a hz ha=>?_⟩
 by_cases hij:i=j
 . subst hij;rw[hz] at hj
   cases hj;rw[ha] at hb
   cases hb;exact⟨ks,hk,k1,k2,k3⟩
 obtain⟨ms,h1,h2,h3,h4⟩:=h.row i z a hz ha
 have hab:a≠b:=by intro q;subst q;obtain⟨p1,p2⟩:=A01.mp ha;obtain⟨q1,q2⟩:=A01.mp hb;exact hij ((A2A h.nd).mp (p2.trans q2.symm))
 have hzx:z≠x:=by intro q;subst q;obtain⟨p1,p2⟩:=A01.mp hz;obtain⟨q1,q2⟩:=A01.mp hj;exact hij ((A2A hn).mp (p2.trans q2.symm))
 exact⟨ms,e _ _ hab h1,h2,h3,λy=>(h4 y).trans (k4 z (A02 hz) hzx y)⟩
theorem Tab.at {H:Hp}{r:Addr}{ns:List Str}{as:List Addr}{R:Str->Str->Prop}(h:Tab H r ns as R){x:Str}(hx:x∈ns):∃(i:Nat) (a:Addr),ns[i]? = some x/\as[i]? = some a:=by
 obtain⟨i,hi,e⟩:=A2W hx;have hi':i<as.length:=by rw[h.len];exact hi
 exact⟨i,as[i],by rw[A03 hi,e],A03 hi'⟩
section
variable {K:W.Frag}{H:Hp}{Q:VK}{r:Addr}{ns:List Str}{as:List Addr}{R:Str->Str->Prop}
theorem Tw {x:Str}{i:Nat}{a:Addr}(h:Tab H r ns as R)(hn:ns.Nodup)(hx:ns[i]? = some x)(ha:as[i]? = some a)(k:Q (.ref a) H):Y4 K (.ref r) (.str x) H Q:=i_ixD h.top (Qi hn hx ha) k
theorem a81 {a:Addr}{ks:List Str}{y:Str}(h:H a=some (.dK (Lm ks)))(k:Q (.bl (decide (y∈ks))) H):Tr K false (.str y) (.ref a) H Q:=by
 refine .inr (.inr (.inl ⟨a,Ee (Lm ks) (Sum.inr y:Key),rfl,DGet.k (k:=Sum.inr y) h,?_⟩));rw[Wv]
 by_cases e:y∈ks
 . rw[if_pos e];simpa[e] using k
 rw[if_neg e];simpa[e] using k
theorem am5 {a:Addr}{kvs:List (Key×V)}{B:Prop}(h:H a=some (.dK kvs))(k:B):tyV K "dict" (.ref a) H/\B:=⟨.inr (.inr (.inl ⟨rfl,.inl ⟨kvs,h⟩⟩)),k⟩
theorem aF2 {d o:Addr}{ks ms:List Str}(hd:H d=some (.dK (Lm ks)))(ho:H o=some (.dK (Lm ms)))(hne:d≠o)(hz:ks.length+ms.length<=1000000)(k:∀ H',ExtBut d H H'->H' d=some (.dK (Lm (Mu ks ms)))->Q .non H'):Uj (.ref d) [.ref o] H Q:=
 ⟨d,o,_,_,rfl,rfl,hne,hd,ho,by rw[Vg,Vg];exact hz,k _ ExtBut.upd (by rw[Ai,Tl])⟩
end
structure HalfW (ns:List Str)(ps:List (Str×Str)):Prop where
 nd:ns.Nodup
 mem:∀ p∈ps,p.1∈ns/\p.2∈ns
 irr:∀ x,¬ Way ps x x
 few:ns.length<=100
 le:ps.length<=1000
theorem Half.w {ns:List Str}{ps:List (Str×Str)}(h:Half ns ps):HalfW ns ps:=⟨h.names.1,λp hp=>h.mem hp,λ_=>h.irrefl,A0B h.few nofun,A0B h.le nofun⟩
structure War (ns:List Str)(ps:List (Str×Str))(ms:List Str)(R:Str->Str->Prop):Prop where
 snd:∀ z y,R z y->Way ps z y
 edge:∀ z y,(z,y)∈ps->R z y
 shut:∀ m∈ms,∀ z y,R z m->R m y->R z y
def ag9 (R:Str->Str->Prop)(mid:Str)(ms:List Str)(z y:Str):Prop:=R z y\/(z∈ms/\R z mid/\R mid y)
theorem War.step {ns:List Str}{ps:List (Str×Str)}{ms:List Str}{R:Str->Str->Prop}(h:War ns ps ms R){mid:Str}:War ns ps (ms++[mid]) (λz y=>R z y\/(R z mid/\R mid y)):=by
 refine⟨λz y hz=>?_,λz y hz=>.inl (h.edge z y hz),λm hm z y h1 h2=>?_⟩
 . rcases hz with hz|⟨h1,h2⟩
   . exact h.snd z y hz
   exact(h.snd _ _ h1).trans (h.snd _ _ h2)
 rcases A0C.mp hm with hm|hm
 . rcases h1 with h1|⟨h1,h1'⟩
   . rcases h2 with h2|⟨h2,h2'⟩
     . exact .inl (h.shut m hm z y h1 h2)
     exact .inr ⟨h.shut m hm z mid h1 h2,h2'⟩
   rcases h2 with h2|⟨h2,h2'⟩
   . exact .inr ⟨h1,h.shut m hm mid y h1' h2⟩
   exact .inr ⟨h1,h2'⟩
 have e:m=mid:=by simpa using hm
 subst e;rcases h1 with h1|⟨h1,h1'⟩
 . rcases h2 with h2|⟨h2,h2'⟩
   . exact .inr ⟨h1,h2⟩
   exact .inr ⟨h1,h2'⟩
 rcases h2 with h2|⟨h2,h2'⟩
 . exact .inr ⟨h1,h2⟩
 exact .inr ⟨h1,h2'⟩
theorem War.done {ns:List Str}{ps:List (Str×Str)}{R:Str->Str->Prop}(h:War ns ps ns R)(hm:∀ p∈ps,p.1∈ns/\p.2∈ns)(z y:Str):R z y↔Way ps z y:=by
 refine⟨h.snd z y,λg=>?_⟩
 induction g with
 |one e=>exact h.edge _ _ e
 |cons e _ ih=>exact h.shut _ (hm _ e).2 _ _ (h.edge _ _ e) ih
theorem PrsK.fz {K:W.Frag} {H H':Hp} (e:Fz H H'):∀ {kvs:List (Key×V)} {ys:List V},PrsK K H kvs ys->PrsK K H' kvs ys
 | [],_,h=>h
 |kv :: r,ys,⟨t,ys',h1,h2,h3⟩=>⟨t,ys',h1,e.seq h2,PrsK.fz e h3⟩
theorem PrsK.snoc {K:W.Frag}{H:Hp}{kv:Key×V}{t:Addr}(h:SqT K H t [kV kv.1,kv.2]):∀ {kvs:List (Key×V)} {ys:List V},PrsK K H kvs ys->PrsK K H (kvs++[kv]) (ys++[.ref t])
 | [],ys,g=>by have g':ys=[]:=g;subst g';exact⟨t,[],rfl,h,rfl⟩
 |k :: r,ys,⟨u,ys',h1,h2,h3⟩=>by subst h1;exact⟨u,ys'++[.ref t],rfl,h2,PrsK.snoc h h3⟩
theorem PrsK.length {K:W.Frag}{H:Hp}:∀ {kvs:List (Key×V)} {ys:List V},PrsK K H kvs ys->ys.length=kvs.length
 | [],ys,g=>by have g':ys=[]:=g;subst g';rfl
 |k :: r,ys,⟨u,ys',h1,h2,h3⟩=>by subst h1;simp[PrsK.length h3]
theorem ae2 {K:W.Frag}{H:Hp}{Q:VK}{l:Addr}{ys:List V}{kvs:List (Key×V)}(h:H l=some (.lst ys))(g:PrsK K H kvs ys)(hz:kvs.length<=1000000)(k:∀ p H',H p=none->Same H H'->H' p=some (.dK (Gg [] kvs))->Q (.ref p) H'):a05 K [.ref l] H Q:=
 ⟨l, ys,kvs,rfl,h,g,by rw[g.length];exact hz,hz,λp hp=>k p _ hp (Same.upd hp) Ai⟩
theorem Qt:∀ {ns:List Str} {as:List Addr},ns.Nodup->((Ug ns as).map (·.1)).Nodup
 | [],as,_=>by simp[Ug]
 |n :: ns,[],_=>by simp[Ug]
 |n :: ns,a :: as,h=>by
   rw[A13] at h;show((Sum.inr n:Key) :: (Ug ns as).map (·.1)).Nodup;rw[A13];refine⟨λhm=>?_,Qt h.2⟩;obtain⟨kv,hkv,e⟩:=A0F.mp hm;obtain⟨p,hp,rfl⟩:=A0F.mp hkv;have e':p.1=n:=by injection e
   exact h.1 (e' ▸ (A58 hp).1)
theorem Wx {ns:List Str}{as:List Addr}{z:Str}{a:Addr}(h:ns.length=as.length):Ug (ns++[z]) (as++[a])=Ug ns as++[(Sum.inr z,V.ref a)]:=by unfold Ug;rw[List.zip_append h,A0A];rfl
end L2
namespace L2
open PySem PySem.Spec PyProof.Rows
open Classical in
def Ad (ps:List (Str×Str))(x y:Str):Bool:=decide (Way ps x y)
theorem wayB_iff {ps:List (Str×Str)} {x y:Str}:Ad ps x y=true↔Way ps x y:=by unfold Ad;simp
theorem am8 {ps:List (Str×Str)}{x y:Str}{b:Bool}(h:b=true↔Way ps x y):b=Ad ps x y:=by
 cases hb:Ad ps x y with
 |true=>exact h.mpr (wayB_iff.mp hb)
 |false=>
   cases b with
   |false=>rfl
   |true=>
     have:=wayB_iff.mpr (h.mp rfl);rw[hb] at this
     cases this
theorem Pt {ps:List (Str×Str)}{x y:Str}{p:Prop}[Decidable p](h:p↔Way ps x y):decide p=Ad ps x y:=am8 (by rw[decide_eq_true_iff];exact h)
theorem Xq {ps:List (Str×Str)}{x y:Str}(h:¬ Way ps x y):Ad ps x y=false:=by
 cases hb:Ad ps x y with
 |false=>rfl
 |true=>exact absurd (wayB_iff.mp hb) h
theorem iteR {α:Type}{a:α}{A B:Prop}[Decidable (a=a)](h:A):if decide (a=a)=true then A else B:=by rw[if_pos (by simp)];exact h
theorem iteNR {α:Type}{a:α}{A B:Prop}[Decidable (a=a)](h:B):if(!decide (a=a))=true then A else B:=by rw[if_neg (by simp)];exact h
section
variable {K:W.Frag}{H:Hp}{σ:St}{x:V}{Q:VK}
theorem La {ns:List Str}{g:TG}{tt:TT}{te:TE}{k:Nat}{js:List Nat}(h:Is K H (nmD ns) x)(t:Str->Bool)(f:Str->PyData)(hf:∀ a,frz (f a)=true)(hz:ns.length<=1000000)
  (hs:∀(i:Nat) a H1 (R:VK) (R':Hp->Prop),ns[i]? = some a->Same H H1->(t a=true->∀ y H2,Same H1 H2->Is K H2 (f a) y->R y H2)->(t a=false->∀ H2,Same H1 H2->R' H2) ->
   g (.str a) (List.replicate k none++Re σ js) H1 fun σ2 H2=>tt σ2 H2 λb H3=>if b=true then te σ2 H3 R else R' H3)
  (hd:∀ p ys H',H p=none->Same H H'->H' p=some (.lst ys)->IsL K H' ((ns.filter t).map f) ys->Q (.ref p) H'):Ki K x H λJ H1=>Sk k js g tt te σ J H1 Q:=by
 obtain⟨a,rfl,hS⟩:=h.nm;refine Ry hS (Jl (K:=K) (Gw (xs:=ns.map V.str)) ns (by simp) t f hf (by simpa using hz) (λH' e=>e.seqT hS) (λi z v H1 R R' hz hv e hR hR'=>?_) hd);rw[A07,hz] at hv
 cases hv;exact hs i z H1 R R' hz e hR hR'
theorem ac3 {ns:List Str}{a:Addr}{g:TG}{tt:TT}{te:TE}{k:Nat}{js:List Nat}(h:SqL K H a (ns.map V.str))(t:Str->Bool)(f:Str->PyData)(hf:∀ a,frz (f a)=true)(hz:ns.length<=1000000)
  (hs:∀(i:Nat) a H1 (R:VK) (R':Hp->Prop),ns[i]? = some a->Same H H1->(t a=true->∀ y H2,Same H1 H2->Is K H2 (f a) y->R y H2)->(t a=false->∀ H2,Same H1 H2->R' H2) ->
   g (.str a) (List.replicate k none++Re σ js) H1 fun σ2 H2=>tt σ2 H2 λb H3=>if b=true then te σ2 H3 R else R' H3)
  (hd:∀ p ys H',H p=none->Same H H'->H' p=some (.lst ys)->IsL K H' ((ns.filter t).map f) ys->Q (.ref p) H'):Ki K (.ref a) H λJ H1=>Sk k js g tt te σ J H1 Q:=by
 refine Go h (Jl (K:=K) (Aw (xs:=ns.map V.str)) ns (by simp) t f hf (by simpa using hz) (λH' e=>e.seq h) (λi z v H1 R R' hz hv e hR hR'=>?_) hd);rw[A07,hz] at hv
 cases hv;exact hs i z H1 R R' hz e hR hR'
end
end L2
namespace L2
open PySem PySem.Spec PyProof.Rows
open AutoSeq1 (wpAny_loadPart')
section
variable {prog:Program}{w:World}{A:Around}{E:Value->Shared->Prop}{s:Shared}
end
theorem Inv.turnedL {X:Cx}{pins:List (Addr×Obj)}{σ:St}{H:Hp}{s:Shared}{h':Heap}{t':Nat}{ch:List Addr}(I:Inv X pins σ H s)(k:∀ b o,b∉ch->s.heap.get? b=some o->h'.get? b=some o)(hf:∀ b∈ch,Vr X pins H b):Inv X pins σ H {s with heap:=h',toks:=t'}:=by
 have nit:∀ b u,H b=some u->b∉ch:=λb u e z=>by rw[(hf b z).1] at e;cases e
 refine I.step (g':=s.gens) (d':=s.drawn) (ch:=ch) (λb hb=>?_) (λb o _ _ hc e _=>k b o hc e) (λb o _ _ hc e _=>⟨o.slots,k b o hc e⟩) (λ_ _ _ _ n=>n)
  (λb o hc e=>⟨o,k b o hc e⟩) (λ_ _ e=>e) (λ_ _ _ e=>e) (λb ps e=>⟨#[],by rw[e];simp⟩) (λm hm=>?_) (λb u e=>?_) I.bare
 . obtain⟨_,h2,_,h4,h5,h6⟩:=hf b hb;exact⟨h4,h2,h5,h6⟩
 . obtain⟨o,es,ep,ho,r⟩:=hm;exact⟨o,es,ep,k _ o (λz=>(hf _ z).2.1 rfl) ho,r⟩
 refine(I.hok b u e).stay (λc v hc q=>k c v ?_ q) (λ_ q=>q) λ_ _ q=>q;rcases hc with z|z
 . rw[z];exact nit b u e
 exact nit c _ z
section
variable {X:Cx}{K:W.Frag}
theorem Oc:bootBuiltins "enumerate" = some (.type "enumerate"):=PyProof.Rows.Boot.«enumerate»
end
section
variable {K:W.Frag}{σ:St}{H:Hp}
end
end L2
namespace L2
open PySem PySem.Spec PyProof.Rows
section
variable {X:Cx}{K:W.Frag}
section
variable {H:Hp}{Q:VK}{lo hi:Option Int}
theorem Pa {a b:Addr}{xs ys:List V}(h1:SqT K H a xs)(h2:SqT K H b ys)(h:xs.length+ys.length<=sizeLine)(k:∀ p H',Same H H'->SqT K H' p (xs++ys)->Q (.ref p) H'):Tt K (.ref a) (.ref b) H Q:=by
 by_cases hx:xs=[]
 . subst hx;exact .inr (.inr (.inr (.inr ⟨a,b,ys,rfl,rfl,h1,h2,k b H (Same.refl _) h2⟩)))
 refine .inr (.inr (.inr (.inl ⟨a,b,xs,ys,rfl,rfl,h1,h2,hx,h,λe=>?_,λ_ p hp=>k p _ (Same.upd hp) (SqT.of Ai)⟩)));subst e;exact k a H (Same.refl _) (by rw[A19];exact h1)
theorem Xv {a:Addr}{xs:List V}(h:SqT K H a xs)(k:∀ p H',Same H H'->SqT K H' p (Lv xs lo hi)->Q (.ref p) H'):az0 K (.ref a) lo hi H Q:=by
 by_cases hw:HT.sIx xs.length 0 lo=0/\HT.sIx xs.length xs.length hi=xs.length
 . refine .inr (.inr (.inr ⟨a,xs,rfl,h,hw,k a H (Same.refl _) ?_⟩))
   have e:Lv xs lo hi=xs:=by unfold Lv;rw[hw.1,hw.2,A5P,Nat.sub_zero,A0R]
   rw[e];exact h
 exact .inr (.inl ⟨a,xs,rfl,h,hw,λp hp=>k p _ (Same.upd hp) (SqT.of Ai)⟩)
theorem aw6 {x y:V}{d:PyData}{ds:List PyData}(hx:Is K H d x)(hy:Is K H (.list ds) y\/Is K H (.tuple ds) y)(h1:PyData.canLayAll0 ds=true)(h2:d.canLay0=true)(h3:d.depth<=100)(k:Q (.bl (ds.any λe=>PyData.eqv e d)) H):Tr K false x y H Q:=.inr (.inr (.inr ⟨d,ds,hx,hy,h1,h2,h3,k⟩))
theorem av1 {x y:V}{d:PyData}{ds:List PyData}(hx:Is K H d x)(hy:Is K H (.list ds) y\/Is K H (.tuple ds) y)(h1:PyData.canLayAll0 ds=true)(h2:d.canLay0=true)(h3:d.depth<=100)(k:Q (.bl (!(ds.any λe=>PyData.eqv e d))) H):Tr K true x y H Q:=.inr (.inr (.inr ⟨d,ds,hx,hy,h1,h2,h3,k⟩))
end
end
section
variable {K:W.Frag}{σ:St}{H:Hp}{Q:VK}{td ty:TE}
theorem i_chain {r r':R2}{ta tb tc:TE}(k:ta σ H λx H1=>tb σ H1 λy H2=>r x y H2 λz H3=>∃ k,z = .bl k/\(if k=true then tc σ H3 λw' H4=>r' y w' H4 Q else Q (.bl false) H3)):ag7 r r' ta tb tc σ H Q:=k
theorem i_andV {ta tb:TE}(k:ta σ H λx H1=>∃ c,x = .bl c/\if c=true then tb σ H1 Q else Q (.bl false) H1):at8 ta tb σ H Q:=k
theorem i_orV {ta tb:TE}(k:ta σ H λx H1=>∃ c,x = .bl c/\if c=true then Q (.bl true) H1 else tb σ H1 Q):aK8 ta tb σ H Q:=k
theorem i_notV {ta:TE}(k:ta σ H λx H1=>∃ c,x = .bl c/\Q (.bl (!c)) H1):aw3 ta σ H Q:=k
theorem aD5 {a:Addr}{bs:List Bool}(h:SqL K H a (bs.map V.bl))(k:Q (.bl (!bs.any id)) H):Tr K true (.bl true) (.ref a) H Q:=.inl ⟨a,_,rfl,.inl h,rfl,by
  rw[A1T];intro v h;obtain⟨n,_,rfl⟩:=A0F.mp h;rfl,by
  have e:inV (.bl true) (bs.map V.bl)=bs.any id:=by
   clear h k;unfold inV
   induction bs with
   |nil=>rfl
   |cons b bs ih=>
     rw[A0U,A2I,A2I,ih]
     cases b<;>rfl
  rw[e];exact k⟩
theorem a53 {a:Addr}{bs:List Bool}(h:SqL K H a (bs.map V.bl))(k:Q (.bl (bs.all id)) H):Tr K true (.bl false) (.ref a) H Q:=.inl ⟨a,_,rfl,.inl h,rfl,by
  rw[A1T];intro v h;obtain⟨n,_,rfl⟩:=A0F.mp h;rfl,by
  have e:(!inV (.bl false) (bs.map V.bl))=bs.all id:=by
   clear h k;unfold inV
   induction bs with
   |nil=>rfl
   |cons b bs ih=>
     rw[A0U,A2I,A5V,Bool.not_or,ih]
     cases b<;>rfl
  show Q (.bl (!inV (.bl false) (bs.map V.bl))) H;rw[e];exact k⟩
theorem ae4 {a:Addr}{bs:List Bool}(h:SqL K H a (bs.map V.bl))(k:Q (.bl (!bs.all id)) H):Tr K false (.bl false) (.ref a) H Q:=.inl ⟨a,_,rfl,.inl h,rfl,by
  rw[A1T];intro v h;obtain⟨n,_,rfl⟩:=A0F.mp h;rfl,by
  have e:inV (.bl false) (bs.map V.bl) = !bs.all id:=by
   clear h k;unfold inV
   induction bs with
   |nil=>rfl
   |cons b bs ih=>
     rw[A0U,A2I,A5V,ih]
     cases b<;>simp[eqV]
  show Q (.bl (inV (.bl false) (bs.map V.bl))) H;rw[e];exact k⟩
end
structure TabL (K:W.Frag)(H:Hp)(r:Addr)(ns:List Str)(as:List Addr)(R:Str->Str->Prop):Prop where
 len:as.length=ns.length
 top:H r=some (.dK (Ug ns as))
 row:∀(i:Nat) (z:Str) (a:Addr),ns[i]? = some z->as[i]? = some a->∃ ks:List Str,H a=some (.lst (ks.map V.str))/\ks.Nodup/\∀ y,y∈ks↔R z y
theorem TabL.same {K:W.Frag}{H H':Hp}{r:Addr}{ns:List Str}{as:List Addr}{R:Str->Str->Prop}(h:TabL K H r ns as R)(e:Same H H'):TabL K H' r ns as R:=
 ⟨h.len,e _ _ h.top,λi z a hz ha=>let ⟨ks,h1,h2⟩:=h.row i z a hz ha;⟨ks,e _ _ h1,h2⟩⟩
theorem TabL.at {K:W.Frag}{H:Hp}{r:Addr}{ns:List Str}{as:List Addr}{R:Str->Str->Prop}(h:TabL K H r ns as R){x:Str}(hx:x∈ns):∃(i:Nat) (a:Addr),ns[i]? = some x/\as[i]? = some a:=by
 obtain⟨i,hi,e⟩:=A2W hx;have hi':i<as.length:=by rw[h.len];exact hi
 exact⟨i,as[i],by rw[A03 hi,e],A03 hi'⟩
section
variable {K:W.Frag}{σ:St}{H:Hp}{Q:VK}{r:Addr}{ns:List Str}{as:List Addr}{R:Str->Str->Prop}
theorem ag3 {x:Str}{i:Nat}{a:Addr}(h:TabL K H r ns as R)(hn:ns.Nodup)(hx:ns[i]? = some x)(ha:as[i]? = some a)(k:Q (.ref a) H):Y4 K (.ref r) (.str x) H Q:=i_ixD h.top (Qi hn hx ha) k
end
def clR (ns:List Str)(ps:List (Str×Str))(x:Str):List (Str×Str):=(ns.filter λy=>Ad ps x y).map λy=>(x,y)
def clP (ns:List Str)(ps:List (Str×Str)):List (Str×Str):=ns.flatMap (clR ns ps)
theorem mem_clR {ns:List Str}{ps:List (Str×Str)}{x:Str}{p:Str×Str}:p∈clR ns ps x↔p.1=x/\p.2∈ns/\Way ps x p.2:=by
 unfold clR;rw[A0F];constructor
 . rintro⟨y,hy,rfl⟩;rw[A1H,wayB_iff] at hy;exact⟨rfl,hy⟩
 rintro⟨h1,h2⟩;refine⟨p.2,?_,by rw[<- h1]⟩;rw[A1H,wayB_iff];exact h2
theorem mem_clP {ns:List Str}{ps:List (Str×Str)}{p:Str×Str}:p∈clP ns ps↔p.1∈ns/\p.2∈ns/\Way ps p.1 p.2:=by
 unfold clP;rw[A51];constructor
 . rintro⟨x,hx,hp⟩;obtain⟨rfl,h⟩:=mem_clR.mp hp;exact⟨hx,h⟩
 rintro⟨h1,h⟩;exact⟨p.1,h1,mem_clR.mpr ⟨rfl,h⟩⟩
section
variable {K:W.Frag}{H:Hp}{σ:St}
end
theorem IsL.perm {α:Type}{K:W.Frag}{H:Hp}{f:α->PyData}{xs ys:List V}(p:ys.Perm xs):∀ {as:List α},IsL K H (as.map f) xs->∃ bs:List α,bs.Perm as/\IsL K H (bs.map f) ys:=by
 induction p with
 |nil=>exact fun {as} h=>⟨as,.refl _,h⟩
 |@cons x l1 l2 _ ih=>
   intro as h
   cases as with
   |nil=>have:=IsL.length h;simp at this
   |cons a as=>
     rw[A0U] at h;simp only[IsL] at h;obtain⟨v,vs,e,h1,h2⟩:=h
     cases e;obtain⟨bs,hb,hL⟩:=ih h2;exact⟨a :: bs,hb.cons a,by rw[A0U];exact .cons h1 hL⟩
 |@swap x y l=>
   intro as h
   cases as with
   |nil=>have:=IsL.length h;simp at this
   |cons a as=>
     cases as with
     |nil=>have:=IsL.length h;simp at this
     |cons b as=>
       rw[A0U,A0U] at h;simp only[IsL] at h;obtain⟨v,vs,e,h1,v2,vs2,e2,h2,h3⟩:=h
       cases e
       cases e2;exact⟨b :: a :: as,.swap a b as,by rw[A0U,A0U];exact .cons h2 (.cons h1 h3)⟩
 |trans _ _ ih1 ih2=>intro as h;obtain⟨bs,hb,hL⟩:=ih2 h;obtain⟨cs,hc,hL2⟩:=ih1 hL;exact⟨cs,hc.trans hb,hL2⟩
section
variable {prog:Program}{w:World}{A:Around}{E:Value->Shared->Prop}{s:Shared}
end
section
variable {X:Cx}{K:W.Frag}
end
section
variable {K:W.Frag}{σ:St}{H:Hp}
end
def lsD (Ls:List (List Str)):PyData:=.tuple (Ls.map nmD)
theorem Cz (Ls:List (List Str)):Vo (Ls.map nmD)=true:=Kx _ Rj Ls
theorem aq3 {Ls:List (List Str)}(h:∀ L∈Ls,L.length<=100/\∀ x∈L,Rf x=true)(hl:Ls.length<=1000):Fine (lsD Ls):=by
 refine⟨?_,?_,?_⟩
 . unfold lsD;simp only[Bu];exact Fi _ _ λL hL=>(Gu (h L hL).2).1
 . unfold lsD;simp only[PyData.depth];have:=J8 nmD 1 Ls λL hL=>(Gu (h L hL).2).2.1;omega
 unfold lsD;simp only[PyData.weight]
 have:=Jm nmD 900 Ls λL hL=>by have h1:=(Gu (h L hL).2).2.2;have h2:=(h L hL).1;omega
 have:=A3D hl (A05 901);omega
section
variable {K:W.Frag}{H:Hp}{Q:VK}
theorem ao4 {Ls:List (List Str)}{a:Addr}{ys:List V}(h:H a=some (.lst ys))(g:IsL K H (Ls.map nmD) ys)(k:∀ v H',Same H H'->Is K H' (lsD Ls) v->Q v H'):Ps K [.ref a] H Q:=
 Pw (SqL.of h) λp H' hp e h'=>k _ H' e (Is.of_tup (SqT.of h') (IsL.mono e _ _ g))
end
theorem IsL.bl_eq {α:Type}{K:W.Frag}{H:Hp}{f:α->Bool}:∀ {as:List α} {vs:List V},IsL K H (as.map λa=>PyData.bool (f a)) vs->vs=(as.map f).map V.bl
 | [],vs,h=>by simp only[List.map_nil,IsL] at h;exact h
 |n :: ns,vs,h=>by simp only[List.map_cons,IsL,Is] at h;obtain⟨v,r,rfl,rfl,e3⟩:=h;rw[IsL.bl_eq e3];rfl
theorem Ic {α:Type}{K:W.Frag}{H:Hp}{σ:St}{J:It}{xs:List V}{G:Hp->Prop}{g:TG}{te:TE}{Q:VK}{k:Nat}{js:List Nat}(hw:Jc J xs G)(as:List α)(hl:as.length=xs.length)(f:α->Bool)(hz:xs.length<=1000000)(hG:∀ H',Same H H'->G H')
  (hs:∀(i:Nat) a v H1 (R:VK),as[i]? = some a->xs[i]? = some v->Same H H1->(∀ H2,Same H1 H2->R (.bl (f a)) H2)->g v (List.replicate k none++Re σ js) H1 fun σ2 H2=>te σ2 H2 R)
  (hd:∀ p H',H p=none->Same H H'->SqL K H' p ((as.map f).map V.bl)->Q (.ref p) H'):Sk k js g ab7 te σ J H Q:=by
 refine Jl (K:=K) hw as hl (λ_=>true) (λa=>PyData.bool (f a)) (λ_=>rfl) hz hG (λi a v H1 R R' ha hv e hR hR'=>?_) (λp ys H' hp e h hL=>?_)
 . exact hs i a v H1 R ha hv e λH2 e2=>hR rfl _ H2 e2 aI0
 rw[Hv] at hL;have:=IsL.bl_eq hL;subst this;exact hd p H' hp e (SqL.of h)
section
variable {P:Program}{w:World}{κ:Type}[DecidableEq κ]{knd:KeyKind P w κ}{A:Around}{E:Value->Shared->Prop}{s:Shared}
end
section
variable {X:Cx}{pins:List (Addr×Obj)}{σ:St}{H:Hp}{s:Shared}{A:Around}
end
section
variable {prog:Program}{w:World}{A:Around}{E:Value->Shared->Prop}{s:Shared}
end
section
variable {X:Cx}{K:W.Frag}
end
section
variable {P:Program}{w:World}{A:Around}{R:Result->Shared->Prop}{it:Addr}{fp wr:List Addr}{G:Array GenState->Array GenState->Prop}{n:Nat}{PV:Nat->Value->Prop}{St:Nat->Shared->Prop}
end
section
variable {prog:Program}{w:World}{A:Around}{E:Value->Shared->Prop}{s:Shared}
set_option maxHeartbeats 3200000 in
end
section
variable {X:Cx}{K:W.Frag}
end
section
variable {K:W.Frag} {H:Hp} {Q:VK}
end
theorem Gm (ns:List Int):∀ j ≤ ns.length,preSum (λi=>ns.getD i 0) j=(ns.take j).sum
 |0,_=>by simp[preSum]
 |j+1,h=>by rw[preSum,Gm ns j ∅,A0I,Ih (y:=0) (by omega:j<ns.length)];simp
theorem Nm:∀ {ns:List Int},(∀ n∈ns,0<=n/\n<=1000000000000)->0<=ns.sum/\ns.sum<=1000000000000*(ns.length:Int)
 | [],_=>by simp
 |n :: ns,h=>by have h1:=h n (by simp);have h2:=Nm λm hm=>h m (A09 _ hm);rw[A2S,A0G];omega
section
variable {X:Cx}{K:W.Frag}
def aH7 (K:W.Frag):List V->Hp->VK->Prop:=λxs H Q=>∃(a:Addr) (ns:List Int),xs=[.ref a]/\(SqL K H a (ns.map V.int)\/SqT K H a (ns.map V.int))/\(∀ n∈ns,0<=n/\n<=1000000000000)/\ns.length<=1000000/\Q (.int ns.sum) H
theorem ai1 {ns:List Int}{its:List Value}(r:Vals (ns.map V.int) its){i:Nat}{v:Value}(h:its.toArray[i]? = some v):∃ t,v = .int (ns.getD i 0) t:=by
 rw[List.getElem?_toArray] at h;have hl:=r.length;rw[A00] at hl
 have hi:i<ns.length:=by have:=(A01.mp h).1;omega
 obtain⟨u,hu,ru⟩:=r.get (i:=i) (x:=.int (ns.getD i 0)) (by rw[A07,Ih (y:=0) hi];rfl);rw[h] at hu
 cases hu;exact ru
theorem a52 (hc:X.calm=true):CallR X (.builtin "sum") (aH7 X.K):=by
 intro pins s σ H xs us Q I r h;obtain⟨a,ns,rfl,hl,hb,hz,q⟩:=h;obtain⟨u,rfl,ru⟩:=K7 r
 cases ru
 have fits:∀ j,j<ns.length->InLong (ns.getD j 0)/\InLong (preSum (λi=>ns.getD i 0) (j+1)):=λj hj=>by have h1:=hb _ (A02 (Ih (y:=0) hj));have h2:=Nm (ns:=ns.take (j+1)) λn hn=>hb n (A1P hn);rw[Gm ns (j+1) hj];rw[A0J] at h2;unfold InLong;omega
 have last:preSum (λi=>ns.getD i 0) ns.length=ns.sum:=by rw[Gm ns _ (A05 _),A0R]
 refine call_sum_walk ?_;rcases hl with hl|hl
 . obtain⟨its,rv,pl,_⟩:=I.list hl;have hlen:its.toArray.size=ns.length:=by rw[A0V,<- rv.length,A00]
   have hlt:a<s.heap.objs.size:=let ⟨_,e,_⟩:=pl.isList;A0L e;refine A45 pl.isList ?_;refine⟨_,_,_,_,_,_,λi=>ns.getD i 0,rfl,Walks.list (by simpa using I.ok.hd hc) _ a (Nat.ne_of_lt hlt) its.toArray,⟨⟨_,Heap.get?_push_size _ rfl,rfl,rfl⟩,pl.isList.push _⟩,λb hb'=>?_,λi v hv=>ai1 rv hv,by rw[hlen];exact fits,λh' tk t' hk=>?_⟩
   . rw[A3C];simp only[List.mem_cons,List.not_mem_nil,or_false] at hb';rcases hb' with rfl|rfl
     . exact A2Q _
     exact A47 hlt
   refine⟨.int ns.sum,H,I.kept (t':=tk) λb o e=>hk b o (λz=>?_) (A06 _ e),⟨t',by rw[hlen,last]⟩,q⟩;have:b=s.heap.objs.size:=by simpa using z
   subst this;exact absurd (A0L e) (A2Y _)
 obtain⟨its,rv,pl,_⟩:=I.tuple hl;have hlen:its.toArray.size=ns.length:=by rw[A0V,<- rv.length,A00]
 have hlt:a<s.heap.objs.size:=let ⟨_,e,_⟩:=pl;A0L e;refine wpAny_pyIter_tuple pl ?_;refine⟨_,_,_,_,_,_,λi=>ns.getD i 0,rfl,Walks.tuple (by simpa using I.ok.hd hc) _ a (Nat.ne_of_lt hlt) its.toArray,⟨⟨_,Heap.get?_push_size _ rfl,rfl,rfl⟩,Heap.IsTuple.push pl _⟩,λb hb'=>?_,λi v hv=>ai1 rv hv,by rw[hlen];exact fits,λh' tk t' hk=>?_⟩
 . rw[A3C];simp only[List.mem_cons,List.not_mem_nil,or_false] at hb';rcases hb' with rfl|rfl
   . exact A2Q _
   exact A47 hlt
 refine⟨.int ns.sum,H,I.kept (t':=tk) λb o e=>hk b o (λz=>?_) (A06 _ e),⟨t',by rw[hlen,last]⟩,q⟩;have:b=s.heap.objs.size:=by simpa using z
 subst this;exact absurd (A0L e) (A2Y _)
theorem Mv (hc:X.calm=true)(hK:X.K=K:=by ac_nf):CallR X (.builtin "sum") (aH7 K):=hK ▸ a52 hc
theorem al6 {a:Addr}{ns:List Int}{H:Hp}{Q:VK}(h:SqL K H a (ns.map V.int)\/SqT K H a (ns.map V.int))(hb:∀ n∈ns,0<=n/\n<=1000000000000)(hz:ns.length<=1000000)(k:Q (.int ns.sum) H):aH7 K [.ref a] H Q:=⟨a,ns,rfl,h,hb,hz,k⟩
end
section
variable {prog:Program}{w:World}{A:Around}{E:Value->Shared->Prop}{s:Shared}
theorem Yt {t:Addr}{items:Array Value}{x:Value}{e:Value->Bool}{j:Nat}{Q:Value->Shared->Prop}(ht:IsTup s.heap t items)(hj:j<items.size)(he:∀ y,y∈items->SeqAt.EqAt A.in1 s y x (e y))(hit:e items[j]=true)
  (hno:∀ m (hm:m<items.size),m<j->e items[m]=false) (h:Q (.int j s.toks) {s with toks:=s.toks+1}):wpAny (model prog w) A (call (.builtin "tuple.index") [.ref t,x]) Q E s:=by
 refine A50 A2G ht.typeIs PySem.F.entry_tuple_index ?_ (PySem.F.args_tuple_index_2 _ _);unfold Builtin.«tuple.index»;refine A08 (wpAny_of_eq (a:=(Value.ref t,[x])) (by first | rfl | kernel_rfl) ?_)
 refine A08 (m:=Builtin.Tuple.tupleItemsOf _) (tupleItemsOf_ ht ?_);refine A08 (m:=pure 0) (A0M ?_);refine A08 (m:=pure items.size) (A0M ?_);dsimp only;rw[Nat.min_self];refine A08 ?_;rw[Std.Legacy.Range.forIn_eq_forIn_range',show Std.Legacy.Range.size [:items.size]=items.size by simp[Std.Legacy.Range.size]];refine wpAny_forIn_list _ (λl q s'=>s'=s/\q=(none,())/\∃ i,i<=j/\l=List.range' i (items.size-i)) _ ?_ ?_ _ _ ⟨rfl,rfl,0,A2C _,rfl⟩
 . rintro m l q s' ⟨rfl,rfl,i,hi,el⟩;rw[show items.size-i=items.size-(i+1)+1 by omega,List.range'_succ] at el;injection el with e1 e2;subst e1;have hm:m<items.size:=by omega
   rw[A1S hm];refine A08 (he _ (Array.getElem_mem hm) prog w _ _ ?_)
   by_cases hmj:m=j
   . subst hmj;rw[hit,A10 rfl];refine A08 (m:=retInt _) ?_;refine A08 (wpAny_mkInt ?_);exact A0M (A0M (A0M ⟨_,rfl,h⟩))
   rw[hno m hm ∅,A0W nofun];exact A0M ⟨rfl,rfl,m+1,by omega,e2⟩
 rintro q s' ⟨rfl,rfl,i,hi,el⟩;exfalso;rw[show items.size-i=items.size-(i+1)+1 by omega,List.range'_succ] at el
 cases el
end
section
variable {X:Cx}{K:W.Frag}
def Ud (K:W.Frag):V->List V->Hp->VK->Prop:=λx vs H Q=>∃(a:Addr) (ns:List Str) (z:Str) (j:Nat),x = .ref a/\vs=[.str z]/\SqT K H a (ns.map V.str)/\ns[j]? = some z/\(∀ m<j,ns[m]? ≠ some z)/\Q (.int (j:Nat)) H
theorem a03:MtR X "tuple.index" (Ud X.K):=by
 intro pins s σ H x vs v us Q I rx rv h;obtain⟨a,ns,z,j,rfl,rfl,hS,hj,hno,q⟩:=h
 cases rx;obtain⟨u,rfl,ru⟩:=rv.one;obtain⟨its,r,p,hz⟩:=I.tuple hS;have hlen:=r.length;rw[A00] at hlen;have hjn:=(A01.mp hj).1
 have at':∀ m (hm:m<its.toArray.size),∃ y t,ns[m]? = some y/\its.toArray[m] = .str y t:=λm hm=>by
  have hm':m<ns.length:=by rw[A0V] at hm;omega
  obtain⟨w,hw,rw'⟩:=r.get (i:=m) (x:=.str ns[m]) (by rw[A07,A03 hm'];rfl);obtain⟨t,rfl⟩:=rw';refine⟨ns[m],t,A03 hm',?_⟩;have h2:=(A01.mp hw).2;simpa using h2
 have tell:∀ y t,eqU (.str z) (.str y t)=decide (y=z):=λy t=>by
  show(y==z)=_
  by_cases h:y=z<;>simp[h]
 refine Yt (j:=j) (e:=eqU (.str z)) p (by rw[List.size_toArray];omega) (λw hw=>Jj ru rfl r (Je ns) w (by simpa using hw)) ?_ (λm hm hmj=>?_) ⟨.int _,H,I.tok _,⟨_,rfl⟩,q⟩
 . obtain⟨y,t,h1,h2⟩:=at' j (by rw[A0V];omega);rw[h2,tell];rw[hj] at h1;exact A0H (A12 h1).symm
 obtain⟨y,t,h1,h2⟩:=at' m hm;rw[h2,tell];refine A11 λe=>hno m hmj ?_;rw[h1,e]
theorem Ga (hK:X.K=K:=by ac_nf):MtR X "tuple.index" (Ud K):=hK ▸ a03
theorem Jk {a:Addr}{ns:List Str}{z:Str}{j:Nat}{H:Hp}{Q:VK}(h:SqT K H a (ns.map V.str))(hj:ns[j]? = some z)(hno:∀ m<j,ns[m]? ≠ some z)(k:Q (.int (j:Nat)) H):Ud K (.ref a) [.str z] H Q:=⟨a,ns,z,j,rfl,rfl,h,hj,hno,k⟩
def aJ4 (K:W.Frag)(r:V->List V->Hp->VK->Prop)(to:TE)(t:TA):TE:=fun σ H Q=>to σ H λx H1=>(∃ a xs,x = .ref a/\SqT K H1 a xs)/\t σ H1 λvs H2=>r x vs H2 Q
theorem Pe {o e:Expr}{es:List Expr}{to:TE}{t:TA}{name:Str}{apos cpos:Pos}{id:String}{r:V->List V->Hp->VK->Prop}(slot:Slot "tuple" name id)(hty:typeOf (.builtin id)=pure (.type "method_descriptor"))(hm:MtR X id r)(ho:PE X o to)(ha:PA X (e :: es) t)(hK:X.K=K:=by ac_nf)
  (hbase:attributeBase o name X.env (eval o X.env)=eval o X.env:=by ac_nf)
  (hfew:((backTo cpos (starEach (e :: es) X.env)).all (λx=>!x.1)&&(backToKw cpos (keywordEach [] X.env)).all (λx=>x.1.isSome)&&decide ((e :: es).length+([]:List Keyword).length+(if([]:List Keyword).isEmpty then 0 else 1)<30))=true:=by ac_nf)
  (hline:(apos.endLine==cpos.line)=true:=by ac_nf) (hs:starEach (e :: es) X.env=(false,eval e X.env) :: starEach es X.env:=by ac_nf) (hplain:(backTo cpos (starEach es X.env)).any (·.1)=false:=by ac_nf) :
  PE X (.Call (.Attribute o name apos) (e :: es) [] cpos) (aJ4 K r to t):=by
 subst hK;intro pins s σ H Q I h;refine wpAny_Call_method_late hbase hfew hline rfl (thn (ho pins s σ H _ I h) λv s1 ⟨x,H1,I1,r1,ty,q1⟩=>?_);obtain⟨a,xs,rfl,hS⟩:=ty
 cases r1;obtain⟨its,_,p,_⟩:=I1.tuple hS;refine⟨"tuple",id,PySem.F.plainAttrs_tuple,slot,hty,p.typeIs,(λb e=>by cases e;exact I1.tupleN hS),?_⟩;have hA:=ha cpos pins s1 σ H1 _ I1 q1;rw[hs] at hA ⊢;refine A53 (by show(false||(backTo cpos (starEach es X.env)).any (·.1))=false;rw[hplain];rfl) (Calls.evalArgs_plain ?_)
 exact thn hA λus s2 ⟨vs,H2,I2,r2,q2⟩=>hm pins s2 σ H2 (.ref a) vs _ us Q I2 rfl r2 q2
theorem i_bmT {r:V->List V->Hp->VK->Prop}{te:TE}{ts:TA}{σ:St}{H:Hp}{Q:VK}(k:te σ H λx H1=>(∃ a xs,x = .ref a/\SqT K H1 a xs)/\ts σ H1 λxs H2=>r x xs H2 Q):aJ4 K r te ts σ H Q:=k
theorem Y6 {a:Addr}{xs:List V}{H:Hp}{B:Prop}(h:SqT K H a xs)(k:B):(∃ a' xs',V.ref a = .ref a'/\SqT K H a' xs')/\B:=⟨⟨a,xs,rfl,h⟩,k⟩
end
section
variable {prog:Program}{w:World}{A:Around}{E:Value->Shared->Prop}{s:Shared}
end
section
variable {X:Cx}{K:W.Frag}
end
section
variable {α:Type}[DecidableEq α]
def El:List α->(α->Bool)->Nat
 | [],_=>0
 |x :: xs,p=>(p x).toNat+2*El xs p
def G1:List α->α->Nat
 | [],_=>0
 |y :: ys,x=>if x=y then 1 else 2*G1 ys x
theorem Ow {p q:α->Bool}:∀ {ns:List α},(∀ x∈ns,p x=q x)->El ns p=El ns q
 | [],_=>rfl
 |x :: xs,h=>by unfold El;rw[h x (by simp),Ow (ns:=xs) λy hy=>h y (by simp[hy])]
theorem ad5 {a b:Bool} {m n:Nat} (h:a.toNat+2*m=b.toNat+2*n):a=b/\m=n:=by cases a<;>cases b<;>simp[Bool.toNat] at h ⊢ <;> omega
theorem Qm {p q:α->Bool}:∀ {ns:List α},El ns p=El ns q->∀ x∈ns,p x=q x
 | [],_,x,hx=>by cases hx
 |y :: ys,h,x,hx=>by
   unfold El at h;obtain⟨h1,h2⟩:=ad5 h;rcases A0N.mp hx with rfl|hx
   . exact h1
   exact Qm h2 x hx
theorem ab6 (a b:Bool)(m n:Nat):(a.toNat+2*m) &&& (b.toNat+2*n)=(a&&b).toNat+2*(m &&& n):=by
 apply Nat.eq_of_testBit_eq;intro i;rw [Nat.testBit_and]
 cases i with
 |zero=>cases a<;>cases b<;>simp[Nat.testBit_zero,Bool.toNat]<;>omega
 |succ i=>
   rw[Nat.testBit_succ,Nat.testBit_succ,Nat.testBit_succ];have e:∀(c:Bool) (k:Nat),(c.toNat+2*k) / 2=k:=λc k=>by cases c<;>simp[Bool.toNat]<;>omega
   rw[e,e,e,Nat.testBit_and]
theorem Wz (p q:α->Bool):∀ ns:List α,El ns p &&& El ns q=El ns (λx=>p x&&q x)
 | []=>by simp[El]
 |x :: xs=>by unfold El;rw[ab6,Wz p q xs]
theorem binM_zero {p:α->Bool}:∀ {ns:List α},El ns p=0↔∀ x∈ns,p x=false
 | []=>by simp[El]
 |x :: xs=>by
   unfold El;have:=binM_zero (p:=p) (ns:=xs);constructor
   . intro h y hy;have h1:(p x).toNat=0:=by omega
     have h2:El xs p=0:=by omega
     rcases A0N.mp hy with rfl|hy
     . cases e:p y with
       |false=>rfl
       |true=>rw[e] at h1;cases h1
     exact this.mp h2 y hy
   intro h;rw[h x (by simp),this.mpr λy hy=>h y (by simp[hy])];rfl
theorem a00 (p:α->Bool):∀ ns:List α,El ns p<2 ^ ns.length
 | []=>by simp[El]
 |x :: xs=>by
   have:=a00 p xs;unfold El;rw[A0G,A5F];have:(p x).toNat<=1:=by cases p x<;>simp[Bool.toNat]
   omega
theorem a75:∀ {ns:List α},ns.Nodup->∀ {x:α},x∈ns->G1 ns x=El ns (λy=>decide (y=x))
 | [],_,x,h=>by cases h
 |y :: ys,hn,x,h=>by
   obtain⟨h1,h2⟩:=A13.mp hn;unfold G1 El
   by_cases e:x=y
   . subst e;rw[A10 rfl,(binM_zero (p:=λy=>decide (y=x)) (ns:=ys)).mpr λz hz=>A11 λq=>h1 (by rw[<- q];exact hz)];simp[Bool.toNat]
   rw[A0W e,a75 h2 ((A0N.mp h).resolve_left e)];have:decide (y=x)=false:=A11 λq=>e q.symm;show _=(decide (y=x)).toNat+_;rw[this];simp[Bool.toNat]
theorem R0 (f:α->Nat):∀ l:List α,(l.map λx=>2*f x).sum=2*(l.map f).sum
 | []=>rfl
 |x :: xs=>by simp[R0 f xs,Nat.mul_add]
theorem M7 (p:α->Bool):∀ {ns:List α},ns.Nodup->((ns.filter p).map (G1 ns)).sum=El ns p
 | [],_=>rfl
 |y :: ys,hn=>by
   obtain⟨h1,h2⟩:=A13.mp hn
   have e:(ys.filter p).map (G1 (y :: ys))=(ys.filter p).map λx=>2*G1 ys x:=by
    apply A1K;intro x hx;have:x≠y:=λq=>h1 (q ▸ (A1H.mp hx).1);show(if x=y then 1 else 2*G1 ys x)=_
    rw [A0W this]
   unfold El;rw[A1Z]
   cases hp:p y with
   |true=>
     rw[A10 rfl,A0U,A2S,e,R0,M7 p h2];show(if y=y then 1 else _)+_=_
     rw[A10 rfl];rfl
   |false=>rw[A0W nofun,e,R0,M7 p h2];simp[Bool.toNat]
theorem Uf {p:α->Bool}:∀ {ns:List α},ns.Nodup->∀ {x:α},x∈ns->p x=true->El ns p=El ns (λy=>p y && !decide (y=x))+G1 ns x
 | [],_,x,h,_=>by cases h
 |y :: ys,hn,x,h,hp=>by
   obtain⟨h1,h2⟩:=A13.mp hn;unfold G1 El
   by_cases e:x=y
   . subst e;rw[A10 rfl,hp,Ow (ns:=ys) (p:=λy=>p y && !decide (y=x)) (q:=p) λz hz=>?_]
     . simp[Bool.toNat];omega
     have:decide (z=x)=false:=A11 λq=>h1 (q ▸ hz);simp[this]
   rw[A0W e,Uf h2 ((A0N.mp h).resolve_left e) hp];have:decide (y=x)=false:=A11 λq=>e q.symm;show _=((p y && !decide (y=x)).toNat+_)+_;rw[this];simp;omega
def frF (b:α->α->Bool)(L:List α):List α:=L.filter λx=>!(L.any λy=>b y x)
def Bd (L:List α)(x:α):List α:=L.filter λy=>!decide (y=x)
def ext (b:α->α->Bool):Nat->List α->List (List α)
 |0,_=>[[]]
 |n+1,L=>(frF b L).flatMap λx=>(ext b n (Bd L x)).map (x :: ·)
def cnt (b:α->α->Bool)(L:List α):Nat:=(ext b L.length L).length
theorem cnt_nil (b:α->α->Bool):cnt b []=1:=rfl
theorem mem_frF {b:α->α->Bool}{L:List α}{x:α}:x∈frF b L↔x∈L/\∀ y∈L,b y x=false:=by
 unfold frF;rw[A1H];constructor
 . rintro ⟨h1,h2⟩;refine⟨h1,λy hy=>?_⟩
   cases e:b y x with
   |false=>rfl
   |true=>
     have:(L.any λy=>b y x)=true:=A2B.mpr ⟨y,hy,e⟩;rw[this] at h2
     cases h2
 rintro⟨h1,h2⟩;refine⟨h1,?_⟩
 have:(L.any λy=>b y x)=false:=by
  rw[Bool.eq_false_iff];intro h;obtain⟨y,hy,e⟩:=A2B.mp h;rw[h2 y hy] at e
  cases e
 rw[this];rfl
theorem mem_lessF {L:List α}{x y:α}:y∈Bd L x↔y∈L/\y≠x:=by unfold Bd;rw[A1H];simp
theorem Cw {L:List α}(h:L.Nodup)(x:α):(Bd L x).Nodup:=A5X (A5R) h
theorem Wy:∀ {L:List α} {x:α},x∉L->Bd L x=L:=fun {L x} h=>by unfold Bd;rw[A5S];intro y hy;have:y≠x:=λq=>h (q ▸ hy);simp[this]
theorem Dr:∀ {L:List α} {x:α},L.Nodup->x∈L->(Bd L x).length+1=L.length
 | [],_,_,h=>by cases h
 |y :: ys,x,hn,h=>by
   obtain⟨h1,h2⟩:=A13.mp hn
   by_cases e:y=x
   . subst e;have:Bd (y :: ys) y=Bd ys y:=by unfold Bd;rw[List.filter_cons,if_neg (by simp)]
     rw[this,Wy h1];rfl
   have:Bd (y :: ys) x=y :: Bd ys x:=by unfold Bd;rw[List.filter_cons,if_pos (by simp[e])]
   rw[this,A0G,Dr h2 ((A0N.mp h).resolve_left λq=>e q.symm)];rfl
theorem Sj {b:α->α->Bool} {L:List α} (hn:L.Nodup) (hne:L≠[]):cnt b L=((frF b L).map λx=>cnt b (Bd L x)).sum:=by
 unfold cnt
 cases hl:L.length with
 |zero=>exact absurd (A0D.mp hl) hne
 |succ n=>
   show((frF b L).flatMap λx=>(ext b n (Bd L x)).map (x :: ·)).length=_;rw[List.length_flatMap];congr 1;apply A1K;intro x hx;have:=Dr hn (mem_frF.mp hx).1;have e:(Bd L x).length=n:=by omega
   rw[A00,e]
def Ey (ns row:List α):List α:=ns.filter λx=>!decide (x∈row)
def Gi (b:α->α->Bool)(ns:List α)(rows:List (List α)):List (List α):=rows.flatMap λrow=>(frF b (Ey ns row)).map λx=>row++[x]
def G8 (b:α->α->Bool)(ns:List α):Nat->List (List α)->List (List α)
 |0,r=>r
 |k+1,r=>G8 b ns k (Gi b ns r)
theorem Jg (b:α->α->Bool)(ns:List α):∀(k:Nat) (r:List (List α)),G8 b ns (k+1) r=Gi b ns (G8 b ns k r)
 |0,r=>rfl
 |k+1,r=>Jg b ns k (Gi b ns r)
theorem Lx (b:α->α->Bool)(ns:List α):∀(k:Nat) (r t:List (List α)),G8 b ns k (r++t)=G8 b ns k r++G8 b ns k t
 |0,r,t=>rfl
 |k+1,r,t=>by
   show G8 b ns k (Gi b ns (r++t))=_;have:Gi b ns (r++t)=Gi b ns r++Gi b ns t:=by unfold Gi;rw[List.flatMap_append]
   rw[this,Lx b ns k];rfl
theorem Rm (b:α->α->Bool)(ns:List α):∀ k:Nat,G8 b ns k []=[]
 |0=>rfl
 |k+1=>Rm b ns k
theorem T1 (b:α->α->Bool)(ns:List α)(k:Nat)(f:α->List α):∀ l:List α,G8 b ns k (l.map f)=l.flatMap λx=>G8 b ns k [f x]
 | []=>Rm b ns k
 |x :: xs=>by rw[A0U,List.flatMap_cons,<- T1 b ns k f xs,<- Lx];rfl
theorem X6 (ns row:List α)(x:α):Ey ns (row++[x])=Bd (Ey ns row) x:=by
 unfold Ey Bd;rw[A5Y];apply A48;intro y _
 by_cases h:y∈row<;>by_cases e:y=x<;>simp[h,e]
theorem Wt (b:α->α->Bool)(ns:List α):∀(k:Nat) (row:List α),G8 b ns k [row]=(ext b k (Ey ns row)).map (row ++ ·)
 |0,row=>by simp[G8,ext]
 |k+1,row=>by
   show G8 b ns k (Gi b ns [row])=_;have e:Gi b ns [row]=(frF b (Ey ns row)).map λx=>row++[x]:=by unfold Gi;simp
   rw[e,T1];show _=((frF b (Ey ns row)).flatMap λx=>(ext b k (Bd (Ey ns row) x)).map (x :: ·)).map (row ++ ·);rw[List.map_flatMap];congr 1;funext x;rw[Wt b ns k,X6,A2E];congr 1;funext r;simp
theorem a84 (ns:List α):Ey ns []=ns:=by unfold Ey;rw[A5S];simp
def fac:Nat->Nat
 |0=>1
 |n+1=>fac n*(n+1)
theorem a04 {f g:α->Nat}:∀ {l:List α},(∀ x∈l,f x<=g x)->(l.map f).sum<=(l.map g).sum
 | [],_=>A05 _
 |x :: xs,h=>by have h1:=h x (by simp);have h2:=a04 (l:=xs) (f:=f) (g:=g) λy hy=>h y (by simp[hy]);simp;omega
theorem K1 {p q:α->Bool}:∀ {l:List α},(∀ a∈l,p a=true->q a=true)->(∃ z∈l,q z=true/\p z=false)->(l.filter p).length<(l.filter q).length
 | [],_,h=>by obtain⟨z,hz,_⟩:=h;cases hz
 |y :: ys,h,hz=>by
   have le:∀ l:List α,(∀ a∈l,p a=true->q a=true)->(l.filter p).length<=(l.filter q).length:=by
    intro l
    induction l with
    |nil=>intro _;exact A05 _
    |cons a l ih=>
      intro h;have:=ih λa ha=>h a (by simp[ha]);rw[A1Z,A1Z]
      cases c:p a with
      |true=>rw[if_pos rfl,if_pos (h a (by simp) c)];simpa using this
      |false=>
        rw[if_neg (by simp)]
        split
        . simp;omega
        exact this
   rw[A1Z,A1Z];obtain⟨z,hz,hq,hp⟩:=hz;rcases A0N.mp hz with rfl|hz
   . rw[hp,if_neg (by simp),if_pos hq,List.length_cons];have:=le ys λa ha=>h a (by simp[ha]);omega
   have ih:=K1 (l:=ys) (λa ha=>h a (by simp[ha])) ⟨z,hz,hq,hp⟩
   cases c:p y with
   |true=>rw[if_pos rfl,if_pos (h y (by simp) c)];simpa using ih
   |false=>
     rw[if_neg (by simp)]
     split
     . simp;omega
     exact ih
theorem a87 {b:α->α->Bool}(irr:∀ x,b x x=false)(tr:∀ x y z,b x y=true->b y z=true->b x z=true){L:List α}:∀(m:Nat) (y:α),y∈L->(L.filter λz=>b z y).length<=m->∃ x∈frF b L,x=y\/b x y=true
 |m,y,hy,hm=>by
   by_cases c:∃ z∈L,b z y=true
   . obtain ⟨z,hz,hzy⟩:=c;have lt:(L.filter λa=>b a z).length<(L.filter λa=>b a y).length:=K1 (λa _ h=>tr a z y h hzy) ⟨z,hz,hzy,irr z⟩
     cases m with
     |zero=>omega
     |succ m=>
       obtain⟨x,hx,h⟩:=a87 irr tr m z hz ∅;refine⟨x,hx,.inr ?_⟩;rcases h with rfl|h
       . exact hzy
       exact tr x z y h hzy
   refine⟨y,mem_frF.mpr ⟨hy,λz hz=>?_⟩,.inl rfl⟩
   cases e:b z y with
   |false=>rfl
   |true=>exact absurd ⟨z,hz,e⟩ c
theorem Ym {b:α->α->Bool} {L:List α} (h:L.Nodup):(frF b L).Nodup:=A5X A5R h
theorem at1 {b:α->α->Bool}(irr:∀ x,b x x=false)(tr:∀ x y z,b x y=true->b y z=true->b x z=true){L:List α}(h:L≠[]):frF b L≠[]:=by
 cases L with
 |nil=>exact absurd rfl h
 |cons y ys=>
   obtain⟨x,hx,_⟩:=a87 irr tr (L:=y :: ys) _ y (by simp) (Nat.le_refl _);intro e;rw[e] at hx
   cases hx
end
def Mtd (P:Program)(w:World)(K:W.Frag)(mg:Str->Option Value)(base:Heap)(k:Nat)(C:Addr)(m:Str)(ps:List Str)(sp:Sp):Prop:=
 ∃ f fd,FnOk P w K mg base CX0 k f fd ps sp/\aD9 K C m f/\Binds K fd ps []
def Mkd (P:Program)(w:World)(K:W.Frag)(mg:Str->Option Value)(base:Heap)(k:Nat)(C:Addr)(x:Str)(ps:List Str)(sp:Sp):Prop:=
 ∃ f fd,FnOk P w K mg base CX0 k f fd ps sp/\Mk K C f/\mg x=some (.ref C)/\Binds K fd ps []
theorem FnOk.void {P:Program}{w:World}{K:W.Frag}{mg:Str->Option Value}{base:Heap}{CX:CXT}{k:Nat}{f:Addr}{fd:FuncData}{ps:List Str}{sp:Sp}(h:∀ vs H Q E,¬ sp vs H Q E):FnOk P w K mg base CX k f fd ps sp:=
 ⟨λvs H Q E q=>absurd q (h vs H Q E),λA outer s H args us vs Q E _ _ _ _ hs=>absurd hs (h vs H Q E)⟩
def rAt (f:Str)(C:Addr):V->Hp->VK->Prop:=λx H Q=>∃ a dx fs v,x = .ref a/\H a=some (.ins C dx fs)/\fs.lookup f=some v/\Q v H
def tAt (f:Str)(C:Addr)(ta:TE):TE:=fun σ H Q=>ta σ H λx H1=>rAt f C x H1 Q
def rSt (f:Str)(C:Addr)(y:V):V->Hp->(Hp->Prop)->Prop:=λx H R=>∃ a dx fs,x = .ref a/\H a=some (.ins C dx fs)/\fs.length<1000/\R (upd H a (.ins C dx (Na f y fs)))
def sSt (f:Str)(C:Addr)(ta tv:TE):TS:=λD σ H=>tv σ H λy H1=>ta σ H1 λx H2=>rSt f C y x H2 λH3=>D.nx σ H3
def rMe (m:Str)(C:Addr)(sp:Sp)(t:TA)(σ:St):V->Hp->VK->Prop:=λx H Q=>∃ a dx fs,x = .ref a/\H a=some (.ins C dx fs)/\fs.lookup m=none/\t σ H λvs H2=>sp (x :: (vs++[])) H2 Q E0
def tMe (m:Str)(C:Addr)(sp:Sp)(ta:TE)(t:TA):TE:=fun σ H Q=>ta σ H λx H1=>rMe m C sp t σ x H1 Q
def rMk (C:Addr)(sp:Sp):List V->Hp->VK->Prop:=λvs H1 Q=>∀ x dx,H1 x=none->H1 dx=none->dx≠x ->
 sp (.ref x :: (vs++[])) (upd (upd H1 dx (.own x)) x (.ins C dx [])) (λv H2=>v = .non/\Q (.ref x) H2) E0
def tMk (C:Addr)(sp:Sp)(t:TA):TE:=fun σ H Q=>t σ H λvs H1=>rMk C sp vs H1 Q
def aI9 (ta:TE):TT:=fun σ H Q=>ta σ H λx H1=>∃ i:Int,x = .int i/\Q (i != 0) H1
section
variable {X:Cx}{K:W.Frag}{k:Nat}{C:Addr}{f x m:Str}{ps:List Str}{sp:Sp}{e o value:Expr}{es:List Expr}{ta tv:TE}{t:TA}{p pos pos' apos:Pos}
theorem Lz (he:PE X e ta)(c:Cls X.K C)(n:NoAttr X.K C f)(hb:attributeBase e f X.env (eval e X.env)=eval e X.env):PE X (.Attribute e f pos) (tAt f C ta):=by
 intro pins s σ H Q I h;refine an5 hb (thn (he pins s σ H _ I h) ?_);rintro u s1 ⟨x,H1,I1,rx,a,dx,fs,v,rfl,ea,l,q⟩
 cases rx;exact Xs I1 ea c n l λu' s2 I2 ru=>⟨v,H1,I2,ru,q⟩
theorem Z9 (ha:PE X o ta)(hv:PE X value tv)(c:Cls X.K C)(n:NoAttr X.K C f)(hs:swapsWith value (some (.Attribute o f pos')) pos.line X.env=pure false):PS X (.Assign [.Attribute o f pos'] value pos) (sSt f C ta tv):=by
 intro pins s σ H D I h;refine plainObj_wpAny_Assign_Attribute (thn (hv pins s σ H _ I h) ?_) hs;rintro u s1 ⟨y,H1,I1,ry,q⟩;refine thn (ha pins s1 σ H1 _ I1 q) ?_;rintro ov s2 ⟨x,H2,I2,rx,a,dx,fs,rfl,ea,l,q2⟩
 cases rx;exact Xr I2 ea c n l ry λs3 I3=>⟨σ,_,I3,q2⟩
theorem ab0 {pl:Sem Bool}(he:PE X o ta)(c:Cls X.K C)(F:Mtd X.prog X.w X.K X.mg X.base k C m ps sp)(hr:Room k X.A)(ha:PA X (e :: es) t)
  (hst:starEach (e :: es) X.env=(false,eval e X.env) :: starEach es X.env:=by ac_nf) (hpl:(backTo pos (starEach es X.env)).any (·.1)=false:=by ac_nf)
  (ht:eval (.Call (.Attribute o m apos) (e :: es) [] pos) X.env=(do
   let ov <- eval o X.env
   standAt apos.atName
   let (f,first) <- holding [ov] (getMethod ov m pl)
   callWith pos f first (backTo pos (starEach (e :: es) X.env)) (backToKw pos (keywordEach [] X.env))):=by ac_nf) :
  PE X (.Call (.Attribute o m apos) (e :: es) [] pos) (tMe m C sp ta t):=by
 obtain⟨f,fd,h1,h2,h3⟩:=F;exact an8 (pl:=pl) he c h2 h1 hr h3 .nil ap6 ha hst hpl ht
theorem aH5 (F:Mkd X.prog X.w X.K X.mg X.base k C x ps sp)(hr:Room (k+1) X.A)(hg:Gl X x)(ha:PA X (e :: es) t)(hdb:(x==("__debug__":Str))=false:=by decide)
  (he:starEach (e :: es) X.env=(false,eval e X.env) :: starEach es X.env:=by ac_nf) (hpl:(backTo pos (starEach es X.env)).any (·.1)=false:=by ac_nf) :
  PE X (.Call (.Name x p) (e :: es) [] pos) (tMk C sp t):=by
 obtain⟨f,fd,h1,h2,h3,h4⟩:=F;exact aj9 h2 h1 hr hg h3 h4 .nil ap6 ha hdb he hpl
theorem af2 (ha:PE X e ta)(he:∀ whole,isTrue e X.env whole=(do let v <- whole;standAt e.pos;holding [v] (truthy v)):=by intro _;ac_nf):PT X e (aI9 ta):=by intro pins s σ H Q I h;refine isTrue_plain (thn (ha pins s σ H _ I h) ?_) (he _);rintro v s1 ⟨x,H1,I1,r1,i,rfl,q1⟩;exact ax5 pins s1 σ H1 _ v Q I1 r1 ⟨_,rfl,q1⟩
end
section
variable {K:W.Frag}{C:Addr}{f m:Str}{sp:Sp}{ta tv:TE}{t:TA}{σ:St}{H:Hp}{Q:VK}{D:Pk}
theorem i_tAt (k:ta σ H λx H1=>rAt f C x H1 Q):tAt f C ta σ H Q:=k
theorem Xi {a dx:Addr}{fs:List (Str×V)}{v:V}(h:H a=some (.ins C dx fs))(l:fs.lookup f=some v)(k:Q v H):rAt f C (.ref a) H Q:=⟨a,dx,fs,v,rfl,h,l,k⟩
theorem i_sSt (k:tv σ H λy H1=>ta σ H1 λx H2=>rSt f C y x H2 λH3=>D.nx σ H3):sSt f C ta tv D σ H:=k
theorem as1 {a dx:Addr}{fs:List (Str×V)}{y:V}{R:Hp->Prop}(h:H a=some (.ins C dx fs))(hl:fs.length<1000)(k:∀ H',ExtBut a H H'->H' a=some (.ins C dx (Na f y fs))->R H'):rSt f C y (.ref a) H R:=
 ⟨a,dx,fs,rfl,h,hl,k _ ExtBut.upd Ai⟩
theorem i_tMe (k:ta σ H λx H1=>rMe m C sp t σ x H1 Q):tMe m C sp ta t σ H Q:=k
theorem aE5 {a dx:Addr}{fs:List (Str×V)}(h:H a=some (.ins C dx fs))(l:fs.lookup m=none)(k:t σ H λvs H2=>sp (.ref a :: (vs++[])) H2 Q E0):rMe m C sp t σ (.ref a) H Q:=⟨a,dx,fs,rfl,h,l,k⟩
theorem i_tMk (k:t σ H λvs H1=>rMk C sp vs H1 Q):tMk C sp t σ H Q:=k
theorem i_mk {vs:List V}(k:∀ x dx H2,H x=none->Same H H2->H2 x=some (.ins C dx [])->sp (.ref x :: (vs++[])) H2 (λv H3=>v = .non/\Q (.ref x) H3) E0):rMk C sp vs H Q:=λx dx hx hd hne=>k x dx _ hx (λb o e=>by rw[By (ne_of_none e hx),By (ne_of_none e hd)];exact e) Ai
theorem i_tTru {R:Bool->Hp->Prop}(k:ta σ H λx H1=>∃ i:Int,x = .int i/\R (i != 0) H1):aI9 ta σ H R:=k
theorem ak7 {a:Addr}{kvs:List (Key×V)}{z:Int}{v:V}{R:Hp->Prop}(h:H a=some (.dK kvs))(hl:kvs.length<=1000000)(k:∀ H',ExtBut a H H'->H' a=some (.dK (Gx kvs (Sum.inl z) v))->R H'):∃ b H4,V.ref a = .ref b/\DPut H b (.int z) v H4/\R H4:=
 ⟨a,_,rfl,DPut.k (k:=Sum.inl z) h (by rw[A1N];omega),k _ ExtBut.upd Ai⟩
theorem ag8 {a:Addr}{kvs:List (Key×V)}{z:Int}{v:V}(h:H a=some (.dK kvs))(e:Ee kvs (Sum.inl z:Key)=some v)(k:Q v H):Y4 K (.ref a) (.int z) H Q:=.inr ⟨a,v,rfl,by rw[<- e];exact DGet.k (k:=Sum.inl z) h,k⟩
theorem ao6 {a:Addr}{kvs:List (Key×V)}{z:Int}(h:H a=some (.dK kvs))(k:Q (.bl (Ee kvs (Sum.inl z:Key)).isNone) H):Tr K true (.int z) (.ref a) H Q:=by
 refine .inr (.inr (.inl ⟨a,Ee kvs (Sum.inl z:Key),rfl,DGet.k (k:=Sum.inl z) h,?_⟩))
 cases e:Ee kvs (Sum.inl z:Key) with
 |none=>rw[e] at k;exact k
 |some v=>rw[e] at k;exact k
end
def ar4 (d v:Addr):HO:=.ext λh=>h.IsValuesView v d
def aD3:V->List V->Hp->VK->Prop:=λx vs H Q=>∃ d kvs,x = .ref d/\vs=[]/\H d=some (.dK kvs)/\∀ v,H v=none->Q (.ref v) (upd H v (ar4 d v))
def ay3:List V->Hp->VK->Prop:=λxs H Q=>∃(v d:Addr) (kvs:List (Key×V)) (ns:List Int),xs=[.ref v]/\H v=some (ar4 d v)/\H d=some (.dK kvs)/\kvs.map (·.2)=ns.map V.int/\(∀ n∈ns,0<=n/\n<=1000000000000)/\ns.length<=1000000/\Q (.int ns.sum) H
section
variable {X:Cx}{K:W.Frag}
theorem Z2:MtM X "dict.values" aD3:=by
 intro pins s σ H x vs v us Q I rx rv h;obtain⟨d,kvs,rfl,rfl,hD,q⟩:=h
 cases rx
 cases rv;obtain⟨z1,hd1,vs1,rel1,dd1⟩:=Ui I.hok hD;refine call_meetsIn F.slot_dict_values dd1.typeIs F.entry_dict_values (F.args_dict_values_1 _) (meets_dict_values (B7 X.prog X.w) d hd1) ⟨⟨vs1,dd1⟩,?_⟩;refine ⟨.ref s.heap.objs.size,upd H s.heap.objs.size (ar4 d s.heap.objs.size),I.laid (t':=s.toks) (λb u e=>A06 _ e) (A05 _) ⟨⟨_,A15 _ rfl,rfl,rfl⟩,⟨_,A15 _ rfl⟩,λh1 h2 ⟨o,e,r⟩ hk=>⟨o,hk o e,r⟩⟩,rfl,q _ (I.hok.fresh (A05 _))⟩
theorem Z6 {α β:Type}{F:α->β->Prop}{l₁:List α}{l₂:List β}(h:Paired F l₁ l₂):∀ {i:Nat} {a:α},l₁[i]? = some a->∃ b,l₂[i]? = some b/\F a b:=by
 induction h with
 |nil=>intro i a e;cases e
 |cons r _ ih=>
   intro i a e
   cases i with
   |zero=>cases e;exact⟨_,rfl,r⟩
   |succ i=>exact ih e
theorem aq1 {ns:List Int}{kvs:List (Key×V)}{vs:List (Key×Value)}(rel:KV kvs vs)(h:kvs.map (·.2)=ns.map V.int){i:Nat}{k:Key}{u:Value}(hx:vs[i]? = some (k,u)):∃ t,u = .int (ns.getD i 0) t:=by
 have hl:kvs.length=vs.length:=rel.length;have hn:kvs.length=ns.length:=by have:=congrArg List.length h;rwa[A00,A00] at this
 have hi:i<vs.length:=(A01.mp hx).1;have hk:kvs[i]? = some kvs[i]:=A03 ∅;obtain⟨q,hq,r⟩:=Z6 rel hk;rw[hx] at hq
 cases hq;have e:(kvs.map (·.2))[i]? = some kvs[i].2:=by rw[A07,hk];rfl
 rw[h,A07,Ih (y:=0) (by omega:i<ns.length)] at e;have e2:V.int (ns.getD i 0)=kvs[i].2:=A12 e;have r2:=r.2;rw[<- e2] at r2;exact r2
theorem Zt (hc:X.calm=true):CallR X (.builtin "sum") ay3:=by
 intro pins s σ H xs us Q I r h;obtain⟨v,d,kvs,ns,rfl,hv,hd,hns,hb,hz,q⟩:=h;obtain⟨u,rfl,ru⟩:=K7 r
 cases ru
 have fits:∀ j,j<ns.length->InLong (ns.getD j 0)/\InLong (preSum (λi=>ns.getD i 0) (j+1)):=λj hj=>by have h1:=hb _ (A02 (Ih (y:=0) hj));have h2:=Nm (ns:=ns.take (j+1)) λn hn=>hb n (A1P hn);rw[Gm ns (j+1) hj];rw[A0J] at h2;unfold InLong;omega
 have last:preSum (λi=>ns.getD i 0) ns.length=ns.sum:=by rw[Gm ns _ (A05 _),A0R]
 obtain⟨_,hs,vs,rel,dd⟩:=Ui I.hok hd;obtain⟨ep,hat⟩:=dd.dictAt;have vv:s.heap.IsValuesView v d:=(show ObjOk X.prog X.w H s.heap v (ar4 d v) from I.hok v _ hv).1;have hlt:d<s.heap.objs.size:=I.hok.lt hd
 have hn:vs.length=ns.length:=by have:=congrArg List.length hns;rw[A00,A00] at this;have:=rel.length;omega
 refine call_sum_walk ?_;obtain⟨oI,St,hit,W,st⟩:=(PySem.W.kdl_values (knd:=B7 X.prog X.w) (r:=v) (d:=d) (kvs:=vs) (ep:=ep)).iter X.A.in1 s (by simpa using I.ok.hd hc) ⟨vv,hat⟩;refine hit _ _ ?_;refine⟨s.heap.objs.size,_,_,_,_,_,λi=>ns.getD i 0,rfl,W,st,?_,?_,by rw[hn];exact fits,?_⟩
 . intro b hb';rw[A3C];simp only[List.mem_cons,List.not_mem_nil,or_false] at hb';rcases hb' with rfl|rfl
   . exact A2Q _
   exact A47 hlt
 . rintro i u ⟨k,hx⟩;exact aq1 rel hns hx
 intro h' tk t' hk;refine⟨.int ns.sum,H,I.kept (t':=tk) ?_,⟨t',by rw[hn,last]⟩,q⟩;intro b o e;refine hk b o (λz=>?_) (A06 _ e);have:b=s.heap.objs.size:=by simpa using z
 subst this;exact absurd (A0L e) (A2Y _)
theorem ay8 {d:Addr}{kvs:List (Key×V)}{H:Hp}{Q:VK}(h:H d=some (.dK kvs))(k:∀ v H',H v=none->Same H H'->H' v=some (ar4 d v)->Q (.ref v) H'):aD3 (.ref d) [] H Q:=⟨d,kvs,rfl,rfl,h,λv hv=>k v _ hv (Same.upd hv) Ai⟩
theorem aw7 {v d:Addr}{kvs:List (Key×V)}{ns:List Int}{H:Hp}{Q:VK}(hv:H v=some (ar4 d v))(hd:H d=some (.dK kvs))(hns:kvs.map (·.2)=ns.map V.int)(hb:∀ n∈ns,0<=n/\n<=1000000000000)(hz:ns.length<=1000000)(k:Q (.int ns.sum) H):ay3 [.ref v] H Q:=
 ⟨v,d,kvs,ns,rfl,hv,hd,hns,hb,hz,k⟩
end
section
variable {X:Cx}
end
section
variable {α:Type}[DecidableEq α]
theorem am4 (a b:Nat):Builtin.bitAnd (a:Int) (b:Int)=((a &&& b:Nat):Int):=by rw[bitAnd_pp (Int.natCast_nonneg _) (Int.natCast_nonneg _)];simp
theorem Yj (p q:α->Bool)(ns:List α):(Builtin.bitAnd (El ns p:Int) (El ns q:Int) != 0)=ns.any λx=>p x&&q x:=by
 rw[am4,Wz]
 cases e:ns.any λx=>p x&&q x with
 |true=>
   obtain⟨x,hx,h⟩:=A2B.mp e
   have:El ns (λx=>p x&&q x)≠0:=λz=>by
    have:=binM_zero.mp z x hx;rw[this] at h
    cases h
   simp only[bne_iff_ne,ne_eq];omega
 |false=>
   have:El ns (λx=>p x&&q x)=0:=binM_zero.mpr λx hx=>by
    cases c:(p x&&q x) with
    |false=>rfl
    |true=>rw[A2B.mpr ⟨x,hx,c⟩] at e;cases e
   rw[this];rfl
theorem an4 {ns:List α} (hn:ns.Nodup) {x:α} (hx:x∈ns) (q:α->Bool):(Builtin.bitAnd (G1 ns x:Int) (El ns q:Int) != 0)=q x:=by
 rw[a75 hn hx,Yj]
 cases c:q x with
 |true=>exact List.any_eq_true.mpr ⟨x,hx,by simp[c]⟩
 |false=>
   rw[Bool.eq_false_iff];intro h;obtain⟨y,_,hy⟩:=A2B.mp h;rw[A1Y,decide_eq_true_iff] at hy;rw[hy.1,c] at hy
   cases hy.2
theorem Xf (ns:List α)(p q:α->Bool):(ns.any λx=>p x&&q x)=(ns.filter q).any p:=by
 induction ns with
 |nil=>rfl
 |cons y ys ih=>
   rw[A2I,ih,A1Z]
   cases c:q y with
   |true=>rw[A10 rfl,A2I,Bool.and_true]
   |false=>rw[A0W nofun,Bool.and_false,Bool.false_or]
theorem a57 (b:α->α->Bool)(ns:List α)(q:α->Bool):(ns.filter λx=>q x && !(ns.any λy=>b y x&&q y))=frF b (ns.filter q):=by unfold frF;rw[A5Y];apply A48;intro x _;rw[Xf,Bool.and_comm]
theorem Gf (ns:List α)(q:α->Bool)(x:α):(ns.filter λy=>q y && !decide (y=x))=Bd (ns.filter q) x:=by unfold Bd;rw[A5Y];apply A48;intro y _;rw[Bool.and_comm]
theorem Wf {m n:Nat}(h:m<=n):fac m<=fac n:=by
 induction h with
 |refl=>exact A05 _
 |@step k _ ih=>exact A0B ih (Nat.le_mul_of_pos_right _ (Nat.succ_pos k))
theorem sum_const (c:Nat):∀ l:List α,(l.map λ_=>c).sum=l.length*c
 | []=>by simp
 |x :: xs=>by rw[A0U,A2S,sum_const c xs,A0G,A4Z,A5T,A4N]
theorem cnt_le (b:α->α->Bool):∀(n:Nat) (L:List α),L.length=n->L.Nodup->cnt b L<=fac n
 |0,L,hl,_=>by have:=A0D.mp hl;subst this;exact A05 _
 |n+1,L,hl,hn=>by
   have hne:L≠[]:=by intro e;rw[e] at hl;cases hl
   rw[Sj hn hne]
   have h1:((frF b L).map λx=>cnt b (Bd L x)).sum<=((frF b L).map λ_=>fac n).sum:=a04 λx hx=>by have:=Dr hn (mem_frF.mp hx).1;exact cnt_le b n (Bd L x) ∅ (Cw hn x)
   rw[sum_const] at h1;refine A0B h1 ?_;show _<=fac n*(n+1);rw[A59];refine Nat.mul_le_mul_left _ ?_;rw[<- hl];exact A1M _ _
theorem am2 {b:α->α->Bool}{L:List α}(hn:L.Nodup)(h:L.length<=10):cnt b L<=3628800:=A0B (cnt_le b _ L rfl hn) (A0B (Wf h) nofun)
end
def ar9 (ns:List Str):List (Key×V):=ns.map λx=>((Sum.inr x:Key),V.int ((G1 ns x:Nat):Int))
def ahK (ns:List Str)(ps:List (Str×Str)):List (Key×V):=ns.map λx=>((Sum.inr x:Key),V.int ((El ns (λy=>Ad ps y x):Nat):Int))
theorem Li {f:Str->V}:∀ {ns:List Str} {x:Str},x∈ns->Ee (ns.map λx=>((Sum.inr x:Key),f x)) (Sum.inr x:Key)=some (f x)
 | [],x,h=>by cases h
 |y :: ys,x,h=>by
   rw[A0U]
   by_cases e:y=x
   . subst e;exact C2 rfl
   rw[C1 λq=>e (Sum.inr.inj q)];exact Li ((A0N.mp h).resolve_left λq=>e q.symm)
theorem J1 {f:Str->V}:∀ {ns:List Str} {x:Str},x∉ns->Ee (ns.map λx=>((Sum.inr x:Key),f x)) (Sum.inr x:Key)=none
 | [],x,h=>rfl
 |y :: ys,x,h=>by rw[List.map_cons,C1 λq=>h (by rw[<- Sum.inr.inj q];simp)];exact J1 λq=>h (A09 _ q)
theorem Ml:∀ {ns:List Str} {i:Nat} {x:Str},ns.Nodup->ns[i]? = some x->G1 ns x=2 ^ i
 | [],i,x,_,h=>by cases h
 |y :: ys,0,x,_,h=>by cases h;unfold G1;rw[A10 rfl]
 |y :: ys,i+1,x,hn,h=>by obtain⟨h1,h2⟩:=A13.mp hn;have hx:ys[i]? = some x:=h;unfold G1;rw[A0W λq=>h1 (by rw[<- q];exact A02 hx),Ml h2 hx,A5F,A59]
theorem IsL.int_eq {K:W.Frag}{H:Hp}:∀ {ns:List Int} {vs:List V},IsL K H (ns.map PyData.int) vs->vs=ns.map V.int
 | [],vs,h=>by simp only[List.map_nil,IsL] at h;exact h
 |n :: ns,vs,h=>by simp only[List.map_cons,IsL,Is] at h;obtain⟨v,r,rfl,rfl,e3⟩:=h;rw[IsL.int_eq e3];rfl
theorem Kw {α:Type}(f:α->Nat):∀ l:List α,(l.map λx=>((f x:Nat):Int)).sum=(((l.map f).sum:Nat):Int)
 | []=>rfl
 |x :: xs=>by rw[A0U,A2S,Kw f xs,A0U,A2S];omega
theorem ExtBut.fzI {p:Addr}{H H':Hp}{C dx:Addr}{fs:List (Str×V)}(e:ExtBut p H H')(hp:H p=some (.ins C dx fs)):Fz H H':=W1 e λxs h=>by
 rcases h with h|⟨o,h⟩
 . rw[hp] at h;cases h
 rw[hp] at h;cases h
def Knw (ns:List Str) (ps:List (Str×Str)) (kvs:List (Key×V)):Prop:=(kvs.map (·.1)).Nodup /\
 (∀ kv∈kvs,∃ q:Str->Bool,kv.1=Sum.inl ((El ns q:Nat):Int)/\kv.2=V.int ((cnt (Ad ps) (ns.filter q):Nat):Int))/\Ee kvs (Sum.inl 0:Key)=some (.int 1)
theorem Ko {κ:Type}[DecidableEq κ]:∀ {kvs:List (κ×V)} {k:κ} {v:V},Ee kvs k=some v->(k,v)∈kvs
 | [],k,v,h=>by cases h
 |p :: r,k,v,h=>by
   by_cases e:p.1=k
   . rw[C2 e] at h
     cases h;rw[<- e];exact A0E
   rw[C1 e] at h;exact A09 _ (Ko h)
theorem Knw.get {ns:List Str}{ps:List (Str×Str)}{kvs:List (Key×V)}(h:Knw ns ps kvs){q:Str->Bool}{v:V}(e:Ee kvs (Sum.inl ((El ns q:Nat):Int):Key)=some v):v = .int ((cnt (Ad ps) (ns.filter q):Nat):Int):=by
 obtain⟨q',h1,h2⟩:=h.2.1 _ (Ko e)
 have h3:El ns q'=El ns q:=by have:=Sum.inl.inj h1;omega
 have h4:ns.filter q'=ns.filter q:=A48 λx hx=>Qm h3 x hx;rw[h4] at h2;exact h2
theorem Knw.len {ns:List Str}{ps:List (Str×Str)}{kvs:List (Key×V)}(h:Knw ns ps kvs)(hf:ns.length<=10):kvs.length<=1024:=by
 have:=G4 (ys:=(List.range 1024).map λi=>(Sum.inl ((i:Nat):Int):Key)) h.1 λk hk=>by obtain⟨kv,hkv,rfl⟩:=A0F.mp hk;obtain⟨q,h1,_⟩:=h.2.1 kv hkv;rw[h1];have h2:=a00 q ns;have h3:(2:Nat) ^ ns.length<=2 ^ 10:=A4E nofun hf;exact A0F.mpr ⟨El ns q,A1R.mpr ∅,rfl⟩
 rwa [A00,A00,A1F] at this
theorem Knw.put {ns:List Str}{ps:List (Str×Str)}{kvs:List (Key×V)}(h:Knw ns ps kvs)(q:Str->Bool) :
  Knw ns ps (Gx kvs (Sum.inl ((El ns q:Nat):Int)) (.int ((cnt (Ad ps) (ns.filter q):Nat):Int))):=by
 cases e:Ee kvs (Sum.inl ((El ns q:Nat):Int):Key) with
 |some v=>
   have hp:Gx kvs (Sum.inl ((El ns q:Nat):Int):Key) (.int ((cnt (Ad ps) (ns.filter q):Nat):Int))=kvs:=by
    unfold Gx;rw[Gs,e,A10 (show(some v).isSome=true from rfl)]
    conv=>rhs;rw[<- List.map_id kvs]
    apply A1K;intro kv hkv
    by_cases c:kv.1=Sum.inl ((El ns q:Nat):Int)
    . rw[A10 c];obtain⟨q',h1,h2⟩:=h.2.1 kv hkv;rw[h1] at c
      have h3:El ns q'=El ns q:=by have:=Sum.inl.inj c;omega
      have h4:ns.filter q'=ns.filter q:=A48 λx hx=>Qm h3 x hx;rw[<- h4,<- h2];rfl
    rw[A0W c];rfl
   rw[hp];exact h
 |none=>
   refine⟨am7 _ h.1 e,λkv hkv=>?_,?_⟩
   . rw[Js _ e] at hkv;rcases A0C.mp hkv with hkv|hkv
     . exact h.2.1 kv hkv
     have:kv=(Sum.inl ((El ns q:Nat):Int),V.int ((cnt (Ad ps) (ns.filter q):Nat):Int)):=by simpa using hkv
     subst this;exact⟨q,rfl,rfl⟩
   rw[Mb]
   by_cases c:(Sum.inl 0:Key)=Sum.inl ((El ns q:Nat):Int)
   . rw[<- c,h.2.2] at e
     cases e
   rw[A0W c];exact h.2.2
theorem Knw.new (ns:List Str)(ps:List (Str×Str)):Knw ns ps [(Sum.inl 0,V.int 1)]:=by
 refine⟨by simp,λkv hkv=>?_,C2 rfl⟩;have:kv=(Sum.inl 0,V.int 1):=by simpa using hkv
 subst this;refine⟨λ_=>false,?_,?_⟩
 . rw[binM_zero.mpr λ_ _=>rfl];rfl
 have:ns.filter (λ_=>false)=[]:=by simp
 rw[this,cnt_nil];rfl
structure WaysAt (K:W.Frag)(C:Addr)(H:Hp)(p dx:Addr)(nv:V)(bd ad kd:Addr)(ns:List Str)(ps:List (Str×Str))(kvs:List (Key×V)):Prop where
 ob:H p=some (.ins C dx [("names",nv),("bits",.ref bd),("ahead",.ref ad),("full",.int ((El ns (λ_=>true):Nat):Int)),("known",.ref kd)])
 nm:Is K H (nmD ns) nv
 bt:H bd=some (.dK (ar9 ns))
 ah:H ad=some (.dK (ahK ns ps))
 kn:H kd=some (.dK kvs)
 nb:bd≠kd
 na:ad≠kd
 ok:Knw ns ps kvs
section
variable {K:W.Frag}{C:Addr}{H H':Hp}{p dx:Addr}{nv:V}{bd ad kd:Addr}{ns:List Str}{ps:List (Str×Str)}{kvs kvs':List (Key×V)}
theorem WaysAt.same (h:WaysAt K C H p dx nv bd ad kd ns ps kvs)(e:Same H H'):WaysAt K C H' p dx nv bd ad kd ns ps kvs:=
 ⟨e _ _ h.ob,h.nm.nm_fz e.fz,e _ _ h.bt,e _ _ h.ah,e _ _ h.kn,h.nb,h.na,h.ok⟩
theorem WaysAt.pk (h:WaysAt K C H p dx nv bd ad kd ns ps kvs):p≠kd:=ne_of h.ob h.kn (by intro z;cases z)
theorem WaysAt.put (h:WaysAt K C H p dx nv bd ad kd ns ps kvs)(e:ExtBut kd H H')(hk:H' kd=some (.dK kvs'))(ok:Knw ns ps kvs'):WaysAt K C H' p dx nv bd ad kd ns ps kvs':=
 ⟨e _ _ h.pk h.ob,h.nm.nm_fz (e.fzD h.kn),e _ _ h.nb h.bt,e _ _ h.na h.ah,hk,h.nb,h.na,ok⟩
theorem WaysAt.list {l:Addr}{xs:List V}(h:WaysAt K C H p dx nv bd ad kd ns ps kvs)(e:ExtBut l H H')(hl:H l=some (.lst xs)):WaysAt K C H' p dx nv bd ad kd ns ps kvs:=
 ⟨e _ _ (ne_of h.ob hl (by intro z;cases z)) h.ob,h.nm.nm_fz (e.fzL hl),e _ _ (ne_of h.bt hl (by intro z;cases z)) h.bt,e _ _ (ne_of h.ah hl (by intro z;cases z)) h.ah,e _ _ (ne_of h.kn hl (by intro z;cases z)) h.kn,h.nb,h.na,h.ok⟩
end
theorem ad1 {ns:List Str}{ps:List (Str×Str)}(h:HalfW ns ps)(x:Str):Ad ps x x=false:=Xq (h.irr x)
theorem an9 {ps:List (Str×Str)}(x y z:Str)(h:Ad ps x y=true)(g:Ad ps y z=true):Ad ps x z=true:=wayB_iff.mpr ((wayB_iff.mp h).trans (wayB_iff.mp g))
section
variable {α:Type} [DecidableEq α]
theorem Tx (l:List α)(p:α->Bool):(l.filter p).isEmpty = !(l.any p):=by
 induction l with
 |nil=>rfl
 |cons x xs ih=>
   rw[A1Z,A2I]
   cases c:p x with
   |true=>rw[A10 rfl];rfl
   |false=>rw[A0W nofun,ih,Bool.false_or]
theorem Mz (b:α->α->Bool)(ns:List α):∀ rows:List (List α),(Gi b ns rows).length<=rows.length*ns.length
 | []=>by simp[Gi]
 |r :: rs=>by
   have ih:=Mz b ns rs;have e:Gi b ns (r :: rs)=((frF b (Ey ns r)).map λx=>r++[x])++Gi b ns rs:=by unfold Gi;rw[List.flatMap_cons]
   have h1:(frF b (Ey ns r)).length<=ns.length:=A0B (A1M _ _) (A1M _ _);rw[e,A04,A00,A0G,A4Z,A5T];omega
theorem Te (b:α->α->Bool)(ns:List α):∀ i:Nat,(G8 b ns i [[]]).length<=ns.length ^ i
 |0=>A05 _
 |i+1=>by rw[Jg,A5F];exact A0B (Mz b ns _) (Nat.mul_le_mul_right _ (Te b ns i))
theorem Xy (b:α->α->Bool)(ns:List α){rows:List (List α)}{j:Nat}{row:List α}(h:rows[j]? = some row):Gi b ns (rows.take (j+1))=Gi b ns (rows.take j)++(frF b (Ey ns row)).map λx=>row++[x]:=by rw[A0I,h];unfold Gi;rw[A4I];simp
theorem a95 (b:α->α->Bool)(L:List α):frF b L=(L.take L.length).filter λx=>!(L.any λy=>b y x):=by rw[A0R];rfl
theorem Ny (b:α->α->Bool)(ns:List α)(rows:List (List α))(j:Nat)(h:ns.length<=6)(hr:rows.length<=46656):(Gi b ns (rows.take j)).length<=279936:=by have h1:=Mz b ns (rows.take j);have h2:(rows.take j).length<=46656:=A0B (List.length_take_le' _ _) hr;have h3:=A3D h2 h;omega
theorem Rv (b:α->α->Bool)(ns:List α):∀(i:Nat) (row:List α),row∈G8 b ns i [[]]->row.length=i
 |0,row,h=>by
   have:row=[]:=by simpa[G8] using h
   subst this;rfl
 |i+1,row,h=>by rw[Jg] at h;unfold Gi at h;obtain⟨r,hr,hx⟩:=A51.mp h;obtain⟨x,_,rfl⟩:=A0F.mp hx;rw[A04,Rv b ns i r hr];rfl
theorem ao9 {i m:Nat}(hm:m<=6)(hi:i<=6):m ^ i<=46656:=by
 have h1:m ^ i<=6 ^ i:=Nat.pow_le_pow_left hm i;have h2:(6:Nat) ^ i<=6 ^ 6:=A4E nofun hi;have h3:(6:Nat) ^ 6=46656:=by decide
 omega
end
section
variable {α:Type}[DecidableEq α]
end
section
variable {K:W.Frag}{σ:St}{H:Hp}{Q:VK}{td ty tx:TE}
end
section
variable {K:W.Frag}{C:Addr}{H H':Hp}{p dx:Addr}{nv:V}{bd ad kd:Addr}{ns:List Str}{ps:List (Str×Str)}{kvs:List (Key×V)}
end
section
variable {K:W.Frag}{σ:St}{H:Hp}{Q:VK}
end
theorem Nz {prog:Program}{w:World}{κ:Type}[DecidableEq κ](knd:KeyKind prog w κ)(d:Addr) :
  MeetsIn prog w (Builtin.«dict.update» ⟨[.ref d,.ref d],[]⟩) (λ_ R s=>(∃ kvs,s.heap.DictOf knd d kvs)/\R (.ok (.ret .none)) s):=
 .of_wp λA R s hh=>by obtain⟨⟨kvs,hd⟩,h⟩:=hh;unfold Builtin.«dict.update» Builtin.Dict.selfAndRest;refine A08 (A08 (A5E hd.typeIs ?_));show wpAny _ _ (pure (d,[Value.ref d])) _ _ s;refine A0M ?_;show wpAny _ _ (Builtin.Dict.updateFrom "dict.update" d (.ref d) [] .none) _ _ s;unfold Builtin.Dict.updateFrom Builtin.Dict.merge Builtin.Dict.readDirectly;refine A08 (A4M hd.typeIs ?_);rw[A0W nofun];refine A08 (A08 (A08 (wpAny_isInstance hd.typeIs isSubtype_dict_dict ?_)));simp only[Bool.not_true,Bool.false_eq_true,if_false];refine A08 (wpAny_specialOf hd.typeIs F.slot_dict_iter.lookup (A0M ?_));simp only[beq_self_eq_true,if_true];refine A08 (A0M ?_);unfold Builtin.Dict.mergeDict;rw[if_pos (by simp)];refine A08 (A46 (A0M ?_));show wpAny _ _ (Builtin.Dict.addKeywords d [] >>= _) _ _ _;exact A08 (A0M (A0M ⟨.none,rfl,h⟩))
def Vv:V->List V->Hp->VK->Prop:=λx vs H Q=>∃ d kvs,x = .ref d/\vs=[.ref d]/\H d=some (.dK kvs)/\Q .non H
def Qq:V->List V->Hp->VK->Prop:=λx vs H Q=>Uj x vs H Q\/Vv x vs H Q
section
variable {X:Cx}{K:W.Frag}
theorem Xh:MtM X "dict.update" Vv:=by
 intro pins s σ H x vs v us Q I rx rv h;obtain⟨d,kvs,rfl,rfl,hD,q⟩:=h
 cases rx;obtain⟨u,rfl,ru⟩:=rv.one
 cases ru;obtain⟨z1,hd1,vs1,rel1,dd1⟩:=Ui I.hok hD;refine call_meetsIn F.slot_dict_update dd1.typeIs F.entry_dict_update (F.args_dict_update_2 _ _) (Nz (B7 X.prog X.w) d) ⟨⟨vs1,dd1⟩,?_⟩;exact⟨.non,H,I.tok s.toks,rfl,q⟩
theorem Y2:MtM X "dict.update" Qq:=by
 intro pins s σ H x vs v us Q I rx rv h;rcases h with h|h
 . exact Zo pins s σ H x vs v us Q I rx rv h
 exact Xh pins s σ H x vs v us Q I rx rv h
end
theorem av8 {d o:Addr}{ks ms:List Str}{H:Hp}{Q:VK}(hd:H d=some (.dK (Lm ks)))(ho:H o=some (.dK (Lm ms)))(hne:d≠o)(hz:ks.length+ms.length<=1000000)(k:∀ H',ExtBut d H H'->H' d=some (.dK (Lm (Mu ks ms)))->Q .non H'):Qq (.ref d) [.ref o] H Q:=.inl (aF2 hd ho hne hz k)
theorem aC8 {d:Addr}{kvs:List (Key×V)}{H:Hp}{Q:VK}(hd:H d=some (.dK kvs))(k:Q .non H):Qq (.ref d) [.ref d] H Q:=.inr ⟨d,kvs,rfl,rfl,hd,k⟩
structure Us (ns:List Str)(ps:List (Str×Str)):Prop where
 nd:ns.Nodup
 mem:∀ p∈ps,p.1∈ns/\p.2∈ns
 few:ns.length<=100
 le:ps.length<=1100
theorem HalfW.c {ns:List Str}{ps:List (Str×Str)}(h:HalfW ns ps):Us ns ps:=⟨h.nd,h.mem,h.few,A0B h.le nofun⟩
instance {ns:List Str} {ps:List (Str×Str)}:Coe (HalfW ns ps) (Us ns ps):=⟨HalfW.c⟩
section
variable {α:Type}[DecidableEq α]
def okR (b:α->α->Bool) (r:List α):Prop:=(∀ u∈r,b u u=false)/\r.Pairwise λu v=>b v u=false
theorem T5 {L:List α}(hn:L.Nodup){x:α}(hx:x∈L):(x :: Bd L x).Perm L:=by
 induction L with
 |nil=>cases hx
 |cons y ys ih=>
   obtain⟨h1,h2⟩:=A13.mp hn
   by_cases e:y=x
   . subst e
     have:Bd (y :: ys) y=ys:=by
      have e1:Bd (y :: ys) y=Bd ys y:=by unfold Bd;rw[List.filter_cons,if_neg (by simp)]
      rw[e1,Wy h1]
     rw[this]
   have e1:Bd (y :: ys) x=y :: Bd ys x:=by unfold Bd;rw[List.filter_cons,if_pos (by simp[e])]
   rw[e1];exact(A3E y x _).trans ((ih h2 ((A0N.mp hx).resolve_left λq=>e q.symm)).cons y)
theorem Cv (b:α->α->Bool):∀(n:Nat) (L r:List α),L.Nodup->L.length=n->(r∈ext b n L↔r.Perm L/\okR b r)
 |0,L,r,_,hl=>by
   have:=A0D.mp hl;subst this;constructor
   . intro h;have:r=[]:=by simpa[ext] using h
     subst this;exact⟨.refl _,(λ_ h=>by cases h),A2L⟩
   rintro⟨h,_⟩;have:r=[]:=List.perm_nil.mp h;subst this;simp[ext]
 |n+1,L,r,hn,hl=>by
   constructor
   . intro h;obtain⟨x,hx,h⟩:=A51.mp h;obtain⟨t,ht,rfl⟩:=A0F.mp h;have hxL:=mem_frF.mp hx;have hlen:=Dr hn hxL.1;obtain⟨h1,h2,h3⟩:=(Cv b n (Bd L x) t (Cw hn x) ∅).mp ht;refine⟨(h1.cons x).trans (T5 hn hxL.1),λu hu=>?_,A1J.mpr ⟨λv hv=>hxL.2 v (mem_lessF.mp (h1.mem_iff.mp hv)).1,h3⟩⟩;rcases A0N.mp hu with rfl|hu
     . exact hxL.2 u hxL.1
     exact h2 u hu
   rintro⟨hp,hd,hpw⟩
   cases r with
   |nil=>
     have:=hp.length_eq;rw[hl] at this
     cases this
   |cons x t=>
     have hxL:x∈L:=hp.mem_iff.mp (by simp);have hlen:=Dr hn hxL;have hpt:t.Perm (Bd L x):=List.Perm.cons_inv (hp.trans (T5 hn hxL).symm);obtain⟨q1,q2⟩:=A1J.mp hpw;refine List.mem_flatMap.mpr ⟨x,mem_frF.mpr ⟨hxL,λy hy=>?_⟩,List.mem_map.mpr ⟨t,(Cv b n (Bd L x) t (Cw hn x) ∅).mpr ⟨hpt,λu hu=>hd u (by simp[hu]),q2⟩,rfl⟩⟩
     by_cases e:y=x
     . rw[e];exact hd x (by simp)
     exact q1 y (hpt.mem_iff.mpr (mem_lessF.mpr ⟨hy,e⟩))
theorem L0 (b:α->α->Bool):∀(n:Nat) (L:List α),L.Nodup->(ext b n L).Nodup
 |0,L,_=>by simp[ext]
 |n+1,L,hn=>by
   show((frF b L).flatMap λx=>(ext b n (Bd L x)).map (x :: ·)).Nodup
   have key:∀ l:List α,l.Nodup->(l.flatMap λx=>(ext b n (Bd L x)).map (x :: ·)).Nodup:=by
    intro l
    induction l with
    |nil=>intro _;simp
    |cons y ys ih=>
      intro hl;obtain⟨h1,h2⟩:=A13.mp hl;rw[List.flatMap_cons,A2F];refine⟨?_,ih h2,?_⟩
      . have hi:=L0 b n (Bd L y) (Cw hn y);exact List.pairwise_map.mpr (hi.imp λhne e=>hne (List.cons.inj e).2)
      intro r hr t ht e;obtain⟨r',_,rfl⟩:=A0F.mp hr;obtain⟨z,hz,ht⟩:=A51.mp ht;obtain⟨t',_,rfl⟩:=A0F.mp ht;have:y=z:=(List.cons.inj e).1;exact h1 (this ▸ hz)
   exact key _ (Ym hn)
end
theorem idx_at:∀ {r:List Str} {x:Str},x∈r->r[r.idxOf x]? = some x/\(∀ m<r.idxOf x,r[m]? ≠ some x)/\r.idxOf x<r.length
 | [],_,h=>by cases h
 |y :: ys,x,h=>by
   rw[List.idxOf_cons]
   by_cases e:y=x
   . subst e;simp
   have hb:(y==x)=false:=by simpa using e
   obtain⟨h1,h2,h3⟩:=idx_at ((A0N.mp h).resolve_left λq=>e q.symm);rw[hb];refine⟨h1,λm hm=>?_,by simpa using h3⟩
   cases m with
   |zero=>simpa using e
   |succ m=>exact h2 m (by simpa using hm)
theorem aB6 {ns r:List Str}{ps:List (Str×Str)}(hn:ns.Nodup)(hm:∀ p∈ps,p.1∈ns/\p.2∈ns)(hp:r.Perm ns):okR (Ad ps) r↔∀ p∈ps,r.idxOf p.1<r.idxOf p.2:=by
 have hrn:r.Nodup:=hp.nodup_iff.mpr hn;constructor
 . rintro⟨h1,h2⟩ p hpp;obtain⟨m1,m2⟩:=hm p hpp;obtain⟨a1,_,a3⟩:=idx_at (hp.mem_iff.mpr m1);obtain⟨b1,_,b3⟩:=idx_at (hp.mem_iff.mpr m2);have hw:Ad ps p.1 p.2=true:=wayB_iff.mpr (.one hpp);have a4:=(A01.mp a1).2;have b4:=(A01.mp b1).2;rcases Nat.lt_trichotomy (r.idxOf p.1) (r.idxOf p.2) with h|h|h
   . exact h
   . have e:p.1=p.2:=by rw[h,b1] at a1;exact(A12 a1).symm
     rw[e] at hw;rw[h1 p.2 (hp.mem_iff.mpr m2)] at hw
     cases hw
   have:=A28.mp h2 _ _ b3 a3 h;rw[a4,b4] at this;rw[this] at hw
   cases hw
 intro h
 have hw:∀ u v,Way ps u v->r.idxOf u<r.idxOf v:=λu v g=>by
  induction g with
  |one e=>exact h _ e
  |cons e _ ih=>exact A3V (h _ e) ih
 refine⟨λu hu=>?_,A28.mpr λi j hi hj hij=>?_⟩
 . cases c:Ad ps u u with
   |false=>rfl
   |true=>exact absurd (hw u u (wayB_iff.mp c)) (A2Y _)
 cases c:Ad ps r[j] r[i] with
 |false=>rfl
 |true=>
   have g:=hw _ _ (wayB_iff.mp c)
   have ix:∀ k (hk:k<r.length),r.idxOf r[k]=k:=λk hk=>by obtain⟨f1,_,f3⟩:=idx_at (A2K hk);exact(A2A hrn).mp (A01.mp f1).2
   rw[ix j hj,ix i hi] at g;omega
section
variable {prog:Program}{w:World}{A:Around}{E:Value->Shared->Prop}{I:Addr}{fp wr:List Addr}{n:Nat}{P:Nat->Value->Prop}{St:Nat->Heap->Prop}
end
section
variable {α:Type}[DecidableEq α]
end
section
variable {prog:Program}{w:World}{A:Around}{E:Value->Shared->Prop}{s:Shared}
end
theorem ak1 {σ:St}{H:Hp}{Q:VK}(k:∀ p H',H p=none->Same H H'->H' p=some (.dT [])->Q (.ref p) H'):af9 σ H Q:=λp hp=>k p _ hp (Same.upd hp) Ai
theorem aj8 {a b:Addr}{kvs:List (List Key×V)}{key:List Key}{v:V}{H:Hp}{R:Hp->Prop}(h:H a=some (.dT kvs))(hb:H b=some (.tup (key.map kV)))(hl:kvs.length<=1000000)(k:∀ H',ExtBut a H H'->H' a=some (.dT (Gx kvs key v))->R H'):∃ c H4,V.ref a = .ref c/\DPut H c (.ref b) v H4/\R H4:=
 ⟨a,_,rfl,DPut.t h hb (by rw[A1N];omega),k _ ExtBut.upd Ai⟩
section
variable {κ:Type}[DecidableEq κ]
end
theorem a46 {α:Type}[DecidableEq α]{b:α->α->Bool}(irr:∀ x,b x x=false)(tr:∀ x y z,b x y=true->b y z=true->b x z=true):∀(n:Nat) (L:List α),L.length=n->L.Nodup->0<cnt b L
 |0,L,hl,_=>by have:=A0D.mp hl;subst this;exact Nat.zero_lt_one
 |n+1,L,hl,hn=>by
   have hne:L≠[]:=by intro e;rw[e] at hl;cases hl
   rw[Sj hn hne]
   cases hf:frF b L with
   |nil=>exact absurd hf (at1 irr tr hne)
   |cons x t=>
     have hx:x∈frF b L:=by rw[hf];simp
     have:=Dr hn (mem_frF.mp hx).1;have:=a46 irr tr n (Bd L x) ∅ (Cw hn x);rw[A0U,A2S];omega
theorem a08 {α:Type}[DecidableEq α](b:α->α->Bool)(ns:List α)(k:Nat):G8 b ns k [[]]=ext b k ns:=by rw[Wt,a84];simp
theorem Zd {Ls:List (List Str)}(h:∀ L∈Ls,L.length<=100/\∀ x∈L,Rf x=true)(hl:Ls.length<=1000):Fine (.list (Ls.map nmD)):=by
 have g:=aq3 h hl;refine⟨?_,?_,?_⟩
 . have:=g.plain;unfold lsD at this;simp only[Bu] at this ⊢;exact this
 . have:=g.deep;unfold lsD at this;simp only[PyData.depth] at this ⊢;exact this
 have:=g.light;unfold lsD at this;simp only[PyData.weight] at this ⊢;exact this
theorem Z5 {l:Addr}{xs:List V}{H:Hp}{Q:VK}(h:H l=some (.lst xs))(k:∀ H',ExtBut l H H'->H' l=some (.lst xs.reverse)->Q .non H'):X2 (.ref l) [] H Q:=⟨l,xs,rfl,rfl,h,k _ ExtBut.upd Ai⟩
section
variable {α:Type}[DecidableEq α]
theorem ah2 {f:α->Nat}:∀ {l:List α} {x:α},x∈l->f x<=(l.map f).sum
 | [],_,h=>by cases h
 |y :: ys,x,h=>by
   rw[A0U,A2S];rcases A0N.mp h with rfl|h
   . omega
   have:=ah2 (f:=f) h;omega
theorem Tu {b:α->α->Bool}{L:List α}(hn:L.Nodup){x:α}(hx:x∈frF b L):cnt b (Bd L x)<=cnt b L:=by
 have hne:L≠[]:=λe=>by rw[e] at hx;cases hx
 rw[Sj hn hne];exact ah2 (f:=λx=>cnt b (Bd L x)) hx
def Ye (b:α->α->Bool)(L:List α)(xs:List α):List (List α):=xs.flatMap λx=>(ext b (L.length-1) (Bd L x)).map (x :: ·)
theorem Vn (b:α->α->Bool){L:List α}(hne:L≠[]):Ye b L (frF b L)=ext b L.length L:=by
 cases L with
 |nil=>exact absurd rfl hne
 |cons y ys=>rfl
theorem Yh (b:α->α->Bool)(L xs:List α)(x:α):Ye b L (xs++[x])=Ye b L xs++(ext b (L.length-1) (Bd L x)).map (x :: ·):=by unfold Ye;rw[A4I];simp
theorem Rk (b:α->α->Bool){L:List α}(hne:L≠[])(m:Nat):(Ye b L ((frF b L).take m)).length<=cnt b L:=by
 unfold cnt;rw[<- Vn b hne]
 have:Ye b L (frF b L)=Ye b L ((frF b L).take m)++Ye b L ((frF b L).drop m):=by unfold Ye;rw[<- A4I,A2O]
 rw[this,A04];omega
end
section
variable {X:Cx}
end
def ItE (K:W.Frag)(a:Addr):It:=
 ⟨λi H=>∃ xs x,SqL K H a xs/\xs[i]? = some x,λi H v H'=>∃ t x,H t=none/\H'=upd H t (.tup [.int i,x])/\v = .ref t/\∀ xs,SqL K H a xs->xs[i]? = some x,λi H=>∃ xs,SqL K H a xs/\xs.length=i⟩
theorem Xu {P:Program}{w:World}{K:W.Frag}{elts:List Expr}{ek:Nat}{epos:Pos}(a it e:Addr)(hei:e≠it)(hai:a≠it)(hae:a≠e):a97 P w K (.Tuple elts ek epos) (ItE K a) [e,it] e (λi h=>(∃ old,IsEnum h e it i old)/\h.IsListIter it a i) where
 mem:=by simp
 obj:=λi h st b hb=>by
  obtain⟨⟨old,h1⟩,o,h2,h3,h4⟩:=st;rcases A0N.mp hb with rfl|hb
  . exact⟨_,h1,λv z=>by cases z⟩
  have q:b=it:=by simpa using hb
  subst q;exact⟨o,h2,λv z=>by rw[h4] at z;cases z⟩
 keep:=λi h h' st k=>by obtain⟨⟨old,h1⟩,h2⟩:=st;exact⟨⟨old,k e (by simp) _ h1⟩,h2.at λo q=>k it (by simp) o q⟩
 item:=by
  intro X hP hw hK hc i pins s σ H E I hf st hg;subst hP hw hK;obtain⟨xs,x,hq,hx⟩:=hg;obtain⟨its,rv,p,hz⟩:=I.list hq
  have hil:i<its.length:=by have:=(A01.mp hx).1;rw[<- rv.length];exact this
  have D:=Draws.list (prog:=X.prog) (w:=X.w) (A:=X.A.in1) (by simpa using I.ok.hd hc) it a hai its.toArray;obtain⟨⟨old,he⟩,hit⟩:=st;have hel:e<s.heap.objs.size:=A0L he;have hil':it<s.heap.objs.size:=let ⟨_,q,_⟩:=hit;A0L q;refine wpAny_pyNext_enum_itemD D he ⟨hit,(PlainL.isList p)⟩ (by simpa using hil) hei (by simp[hei,Ne.symm hae]) λv h1 tk hv ho hst hT hsz hk=>?_;obtain⟨u,hu,ru⟩:=rv.get hx
  have hvu:v=u:=by have hv':its.toArray[i]? = some v:=hv;rw[List.getElem?_toArray,hu] at hv';exact(A12 hv').symm
  subst hvu;refine⟨_,rfl,wpAny_letOwnedTupleGo_enum ho λh2 he2 hs2=>?_⟩;have hTn:H s.heap.objs.size=none:=I.hok.fresh (A05 _);have hT2:h2.get? s.heap.objs.size=some {cls:=.type "tuple",data:=.seq #[.int i tk,v]}:=(hs2.2 _ (Nat.ne_of_gt hel)).trans hT
  have I1:Inv X pins σ (upd H s.heap.objs.size (.tup [.int i,x])) {s with heap:=s.heap.push {cls:=.type "tuple",data:=.seq #[.int i tk,v]}}:=
   I.laid (t':=s.toks) (λb ob q=>Heap.get?_push_of_some _ q) (Nat.le_refl _) ⟨by simp[sizeLine_eq],[.int i tk,v],.cons ⟨tk,rfl⟩ (.cons ru .nil),_,Heap.get?_push_size _ rfl,rfl,⟨_,rfl⟩,rfl⟩
  have nT:∀ b∈[e,it],b≠s.heap.objs.size:=λb hb=>by
   rcases A0N.mp hb with rfl|hb
   . exact A1C hel
   have q:b=it:=by simpa using hb
   subst q;exact A1C hil'
  have I2:Inv X pins σ (upd H s.heap.objs.size (.tup [.int i,x])) {s with heap:=h2,toks:=tk+1}:=Inv.turnedL (s:={s with heap:=s.heap.push {cls:=.type "tuple",data:=.seq #[.int i tk,v]}}) (ch:=[e,it]) I1 (λb ob hb q=>?_) (λb hb=>?_)
  . refine⟨.ref s.heap.objs.size,_,I2,rfl,⟨_,x,hTn,rfl,rfl,λys hy=>by rw[I.list_inj hy hq];exact hx⟩,⟨⟨_,by simpa using he2⟩,hst.1.at λo q=>(hs2.2 it (Ne.symm hei)).trans q⟩,λb hb=>?_⟩;rw[By (nT b hb)];exact(hf b hb).1
  . have hbe:b≠e:=λz=>hb (by simp[z]);have hbi:b≠it:=λz=>hb (by simp[z]);rcases Heap.get?_push_cases q with ⟨rfl,rfl⟩|q
    . exact hT2
    exact(hs2.2 b hbe).trans (hk b ob hbe hbi q)
  obtain⟨f0,f1,f2,f3,f4,f5⟩:=hf b hb;exact⟨by rw[By (nT b hb)];exact f0,f1,f2,f3,f4,f5⟩
 done:=by
  intro X hP hw hK hc i pins s σ H E I hf st hg;subst hP hw hK;obtain⟨xs,hq,hx⟩:=hg;obtain⟨its,rv,p,hz⟩:=I.list hq;obtain⟨⟨old,he⟩,hit⟩:=st;have hlen:its.toArray.size=i:=by rw[A0V,<- rv.length];exact hx
  have D:=Draws.list (prog:=X.prog) (w:=X.w) (A:=X.A.in1) (by simpa using I.ok.hd hc) it a hai its.toArray;rw[hlen] at D;refine wpAny_pyNext_enum_endD D he ⟨hit,(PlainL.isList p)⟩ λh' hk=>⟨rfl,I.turnedL (t':=s.toks) (ch:=[e,it]) (λb o hb q=>hk b o (λz=>hb (by simp[z])) q) hf⟩
 self:=by intro A i s Q E st hQ;obtain⟨⟨old,he⟩,_⟩:=st;exact wpAny_pyIter_enum he hQ
section
variable {X:Cx}{K:W.Frag}
def a67 (K:W.Frag)(vs:List V)(H:Hp)(R:It->Hp->Prop):Prop:=∃ a xs,vs=[.ref a]/\SqL K H a xs/\R (ItE K a) H
def ah7 (K:W.Frag)(ta:TA):TI:=fun σ H R=>ta σ H λvs H1=>a67 K vs H1 R
theorem Vp {e:Expr}{ta:TA}{p pos:Pos}{elts:List Expr}{ek:Nat}{epos:Pos}(hg:Gl X "enumerate")(hm:X.mg "enumerate" = none)(ha:PA X [e] ta)(hK:X.K=K:=by ac_nf)(hs:starEach [e] X.env=[(false,eval e X.env)]:=by ac_nf) :
  PI X (.Tuple elts ek epos) (.Call (.Name "enumerate" p) [e] [] pos) (ah7 K ta):=by
 subst hK;intro pins s σ H R I h;refine Call_ (Pb I hg hm Oc (A3H (thn (ha pos pins s σ H _ I h) λus s1 ⟨vs,H1,I1,r1,q1⟩=>?_) hs rfl));obtain⟨a,xs,rfl,hq,q⟩:=q1;obtain⟨u,rfl,ru⟩:=Vals.one r1
 cases ru;obtain⟨its,rv,ht,hz⟩:=I1.list hq;have hal:a<s1.heap.objs.size:=let ⟨_,q,_⟩:=(PlainL.isList ht);A0L q;refine call_enumerate_list (PlainL.isList ht) λh' he hit _ hk=>?_;refine wpAny_pyIter_enum he ?_;refine⟨s1.heap.objs.size+1,[s1.heap.objs.size+1,s1.heap.objs.size],_,_,H1,rfl,I1.kept (t':=s1.toks) hk,Xu a s1.heap.objs.size (s1.heap.objs.size+1) (Nat.succ_ne_self _) (A1C hal) (A1C (A47 hal)),⟨⟨_,he⟩,hit⟩,λb hb=>?_,q⟩;rcases A0N.mp hb with rfl|hb
 . exact I1.fpOk (Nat.le_succ _) (I1.hok.fresh (Nat.le_succ _))
 have e:b=s1.heap.objs.size:=by simpa using hb
 subst e;exact I1.fpOk (A05 _) (I1.hok.fresh (A05 _))
end
section
variable {K:W.Frag}{σ:St}{H:Hp}
theorem i_ienumL {ts:TA}{R:It->Hp->Prop}(k:ts σ H λvs H1=>a67 K vs H1 R):ah7 K ts σ H R:=k
theorem Rq {xs:List V}{a:Addr}{n m:Nat}{tb:TS}{D:Pk}(h:SqL K H a xs)(Pv:Nat->St->Hp->Prop)(h0:Pv 0 σ H)(hG:∀ i σ' H',Pv i σ' H'->SqL K H' a xs)
  (hs:∀ i x σ' H' H2,xs[i]? = some x->Pv i σ' H'->Same H' H2->tb {D with nx:=Pv (i+1),ct:=Pv (i+1),bk:=D.nx} ((σ'.set n (some (.int i))).set m (some x)) H2) (hd:∀ σ' H',Pv xs.length σ' H'->D.nx σ' H') :
  a67 K [.ref a] H λJ H1=>ar8 (au6 K 2 (Ua (M3 n) (Ua (M3 m) aE7))) tb D σ J H1:=by
 refine⟨a,xs,rfl,h,λi k σ' H'=>k=xs.length-i/\i<=xs.length/\Pv i σ' H',⟨xs.length,by simp,Nat.zero_le _,h0⟩,?_⟩;rintro i k σ' H' ⟨rfl,hi,p⟩;have g:=hG i σ' H' p
 by_cases hlt:i<xs.length
 . refine .inr ⟨⟨xs,xs[i],g,A03 hlt⟩,Pv (i+1),fun σ2 H2 p2=>⟨xs.length-(i+1),by omega,rfl,hlt,p2⟩,λv H2 y=>?_⟩;obtain⟨t,x,ht,rfl,rfl,hx⟩:=y;exact⟨t,_,rfl,SqT.of Ai,rfl,.int i,[x],rfl,x,[],rfl,rfl,hs i x σ' H' _ (hx xs g) p (Same.upd ht)⟩
 have e:i=xs.length:=by omega
 subst e;exact .inl ⟨⟨xs,g,rfl⟩,hd σ' H' p⟩
end
end L2
namespace L2
open PySem PySem.Spec PyProof.Rows
open PySem PySem.W PyProof.Rows
section
variable {n:Nat}{r:Nat->Nat}
end
theorem aC5 {a b:Str}(h:a.cps.toList=b.cps.toList):a=b:=Str.ext' (Array.toList_inj.mp h)
section
variable {prog:Program}{w:World}{A:Around}{E:Value->Shared->Prop}{z:Shared}
theorem L8 {α β:Type}{F:α->β->Prop}:∀ {xs:List α} {ys:List β},Paired F xs ys->∀ {i:Nat} {dx:α} {dy:β},i<xs.length->F (xs.getD i dx) (ys.getD i dy)
 |_,_,.nil,_,_,_,h=>by cases h
 |_,_,.cons r t,0,_,_,_=>r
 |_,_,.cons r t,i+1,_,_,h=>L8 t (i:=i) (by simpa using h)
end
section
variable {X:Cx}{K:W.Frag}
end
end L2
namespace L2
open PySem PySem.Spec PyProof.Rows
theorem Yg (xs ys:List Str):PyData.eqvAll (xs.map PyData.str) (ys.map PyData.str)=decide (xs=ys):=by
 induction xs generalizing ys with
 |nil=>cases ys<;>simp[PyData.eqvAll]
 |cons x xs ih=>
   cases ys with
   |nil=>simp[PyData.eqvAll]
   |cons y ys=>
     simp only[List.map_cons,PyData.eqvAll,ih,PyData.eqv]
     by_cases c:x=y
     . subst c;simp
     simp[c]
section
variable {κ:Type}[DecidableEq κ]{P:Program}{w:World}{kd:KeyKind P w κ}{A:Around}{E:Value->Shared->Prop}{z:Shared}
end
section
variable {X:Cx}{K:W.Frag}
end
section
variable {P:Program}{w:World}{A:Around}{E:Value->Shared->Prop}{z:Shared}
end
section
variable {P:Program}{w:World}{A:Around}{E:Value->Shared->Prop}{z:Shared}{c TI TO i1 i2 D:Addr}{fp1 fp2:List Addr}{n:Nat}{P1 P2:Nat->Value->Prop}{S1 S2:Nat->Heap->Prop}
end
section
variable {P:Program}{w:World}{κ:Type}[DecidableEq κ]{kd:KeyKind P w κ}{A:Around}{E:Value->Shared->Prop}{c TI TO i1 i2 D:Addr}{fp1 fp2:List Addr}{n:Nat}{P1 P2:Nat->Value->Prop}{S1 S2:Nat->Heap->Prop}
end
section
variable {P:Program}{w:World}{A:Around}{E:Value->Shared->Prop}{z:Shared}
end
section
variable {X:Cx}{K:W.Frag}
end
section
variable {K:W.Frag}{H:Hp}{Q:VK}
theorem Ou (xs ys:List Str):PyData.eqv (nmD xs) (nmD ys)=decide (xs=ys):=by simp only[nmD,PyData.eqv,Yg]
end
section
variable {ns ns':List Str}{ps ps' bs:List (Str×Str)}
end
def sw (p:Str×Str):Str×Str:=(p.2,p.1)
section
variable {ns:List Str}{ps:List (Str×Str)}
end
section
variable {P:Program}{w:World}{A:Around}{E:Value->Shared->Prop}{z:Shared}
end
section
variable {X:Cx}{K:W.Frag}
end
section
variable {α:Type}[DecidableEq α]{b:α->α->Bool}{L:List α}
end
def af1:List V->Hp->VK->Prop:=λxs H Q=>∃ i:Int,xs=[.int i]/\i.natAbs.log2<1920/\Q (.str (toString i)) H
theorem Pd {X:Cx}:CallR X (.builtin "repr") af1:=by intro pins s σ H xs us Q I r h;obtain⟨i,rfl,hz,q⟩:=h;obtain⟨u,rfl,t,rfl⟩:=K7 r;exact PySem.P.repr_of_int hz ⟨.str _,H,I.tok _,⟨_,rfl⟩,q⟩
theorem Y8 {n:Nat}(h:n<=3628800):(((n:Nat):Int).natAbs).log2<1920:=by
 rw[Int.natAbs_natCast]
 by_cases h0:n=0
 . subst h0;decide
 exact A1I ((Nat.log2_lt h0).mpr (A4O h (show 3628800<2 ^ 22 by decide))) (show 22<=1920 by decide)
theorem a50 {n:Nat}{H:Hp}{Q:VK}(h:n<=3628800)(k:Q (.str (toString ((n:Nat):Int))) H):af1 [.int ((n:Nat):Int)] H Q:=⟨_,rfl,Y8 h,k⟩
section
variable {prog:Program}{w:World}{A:Around}{E:Value->Shared->Prop}{h:Heap}{g:Array GenState}{d:Drawn}{t:Nat}{os:OsState}{K:W.Frag}{C fI:Addr}{rest:List Value}
end
end L2
namespace L2
open PySem PySem.Spec PyProof.Rows
open PySem PySem.Spec PyProof.Rows Builtin Builtin.ObjectAttr
section
variable {prog:Program}{w:World}{A:Around}{E:Value->Shared->Prop}{s:Shared}{K:W.Frag}{C x:Addr}{name:Str}{v:Value}
end
end L2
namespace L2
open PySem PySem.Spec PyProof.Rows
section
variable {P:Program}{w:World}{H:Hp}{h:Heap}{a C dx:Addr}{od:Option Addr}{fs:List (Str×V)}
end
section
variable {K:W.Frag}{C B D:Addr}
end
section
variable {X:Cx}{pins:List (Addr×Obj)}{σ:St}{H:Hp}{s:Shared}{a C dx:Addr}{fs:List (Str×V)}{f:Str}{v:V}{A:Around}{E:Value->Shared->Prop}
end
section
variable {X:Cx}{o e value:Expr}{f:Str}{pos pos' tpos:Pos}{ta tv:TE}
end
section
variable {X:Cx}{k:Nat}{f C:Addr}{fd:FuncData}{ps:List Str}{sp:Sp}{x:Str}{p pos:Pos}{e:Expr}{es:List Expr}{t:TA}{pins:List (Addr×Obj)}{σ:St}{H:Hp}{s:Shared}{Q:VK}{us:List Value}{vs:List V}
end
section
variable {X:Cx}{K:W.Frag}{o e value:Expr}{f:Str}{pos pos':Pos}{ta tv:TE}
end
section
variable {K:W.Frag}{σ:St}{H:Hp}{Q:VK}{D:Pk}{f:Str}{ta tv:TE}{t:TA}{sp:Sp}{C a dx B G:Addr}{fs:List (Str×V)}{v y:V}{R:Hp->Prop}{vs:List V}
end
section
variable {M:Model}{A:Around}{E:Value->Shared->Prop}{s:Shared}{base:Heap}{env:Env}{outer:List Env}{L a:Addr}{oe:Obj}{vs:Array Value}{Q:Unit->Shared->Prop}
end
section
variable {P:Program}{w:World}{fs:List Addr}{a C:Addr}{od:Option Addr}{oe:Obj}{old:List Addr}{h h':Heap}{H:Hp}{n:Bool}
end
section
variable {P:Program}{w:World}{K:W.Frag}{mg:Str->Option Value}{base:Heap}{N:List Str}{qual:Str}{scope:Scope}{f:Addr}{cd:Value}{A:Around}{outer:List Env}{s₀:Shared}{H₀:Hp}{E:XK}
end
section
variable {X:Cx}{pins:List (Addr×Obj)}{σ:St}{H:Hp}{s:Shared}
end
section
variable {M:Model}{A:Around}{E:Value->Shared->Prop}{s:Shared}{K:W.Frag}{C B a:Addr}{oe:Obj}{Q:Bool->Shared->Prop}
end
section
variable {X:Cx}{pins:List (Addr×Obj)}
end
section
variable {X:Cx}{k:Nat}{x:Str}{ps:List Str}{sp:Sp}{e:Expr}{es:List Expr}{t:TA}{p pos:Pos}{E:XK}
end
section
variable {P:Program}{w:World}{K:W.Frag}{mg:Str->Option Value}{base:Heap}
end
section
variable {K:W.Frag}{σ:St}{H H0:Hp}{D:Pk}{t:TE}{C a:Addr}{fs:List (Str×V)}{E:XK}
end
section
open Lean
def mWay (s:String):MacroM (TSyntax `tactic):=
 if s == "as" then `(tactic| assumption) else if s == "ar" then `(tactic| with_reducible assumption) else `(tactic| walk_at $(quote s))
def a64 (ts:Array (TSyntax `tactic)):MacroM (TSyntax `tactic):=do
 let ts <- ts.mapM λt=>`(Lean.Parser.Tactic.tacticSeq| $t:tactic)
 `(tactic| first $[| $ts]*)
def mId (s:String):Ident:=mkIdent ((s.splitOn ".").foldl Name.mkStr Name.anonymous)
def mIs (s:String):MacroM Ident:=do return mkIdent (<- Macro.addMacroScope (.mkSimple s))
def Zw:List String->TSyntax `tactic->MacroM (TSyntax `tactic)
 | [],t=>pure t
 |s :: r,t=>do
   match s.splitOn "=" with
   | [x,y]=>let w <- mWay y;let i <- mIs x;Zw r (<- `(tactic| ($t:tactic;(case $i:ident=>$w:tactic))))
   |_=>Zw r t
def mRow (s:String):MacroM (TSyntax `tactic):=do
 match s.splitOn ": " with
 | [h,c]=>
   match h.splitOn " " with
   |f :: as=>
     let xs <- as.toArray.mapM λa=>do if a == "_" then `(?_) else `(?$(<- mIs a))
     let u:=Syntax.mkApp (mId f) xs
     let t <- if as.contains "_" then `(tactic| with_reducible refine' $u) else `(tactic| refine' $u)
     Zw (c.splitOn " ") t
   |_=>Macro.throwUnsupported
 |_=>do
   if s == "as" then `(tactic| assumption)
   else if s == "no" then `(tactic| fail "no")
   else `(tactic| exact $(mId s))
def mRows (s:String):MacroM (TSyntax `tactic):=do a64 (<- (s.splitOn " | ").toArray.mapM mRow)
def mAlts (s:String):MacroM (TSyntax `tactic):=do
 let a <- a64 (<- (s.splitOn " ").toArray.mapM λn=>`(tactic| refine $(mId n) ?_))
 `(tactic| with_reducible $a:tactic)
def mAltG (s:String):MacroM (TSyntax `tactic):=do
 let a <- a64 (<- (s.splitOn " ").toArray.mapM λn=>`(tactic| refine $(mId n) λN hN=>?_))
 `(tactic| with_reducible $a:tactic)
end
section
open PySem
theorem same_refl {H:Hp}:Same H H:=Same.refl _
theorem fz_refl {H:Hp}:Fz H H:=Fz.refl _
theorem ne_none2 {H:Hp}{a b:PySem.Addr}{o:HO}(h:H a=some o)(g:H b=none):b≠a:=Ne.symm (ne_of_none h g)
def Cut (N M:St->Hp->Prop):Prop:=∀ σ H,M σ H->N σ H
section
variable {t u:TS}{te td ty tv:TE}{g:TG}{D:Pk}{σ:St}{H:Hp}
theorem av0 (k:∀ N:St->Hp->Prop,Cut N (u D)->t {D with nx:=N} σ H):aE0 t u D σ H:=k (u D) λ_ _ h=>h
theorem i_seqAG (k:∀ N:St->Hp->Prop,Cut N (u D)->ar7 te g {D with nx:=N} σ H):aE0 (ar7 te g) u D σ H:=k (u D) λ_ _ h=>h
theorem i_cutN {N M:St->Hp->Prop}(h:Cut N M)(k:M σ H):N σ H:=h _ _ k
end
theorem ay9 {α:Type}{P:List α->Prop}{us:List α}(hl:us.length=0)(h:P []):P us:=by rw[A0D.mp hl];exact h
theorem af5 {α:Type}{P:List α->Prop}{us:List α}(hl:us.length=1)(h:∀ a0:α,P [a0]):P us:=by
 cases us with
 |nil=>cases hl
 |cons a r=>exact ay9 (P:=λr=>P (a :: r)) (Nat.succ.inj hl) (h a)
theorem ai7 {α:Type}{P:List α->Prop}{us:List α}(hl:us.length=2)(h:∀ a0 a1:α,P [a0,a1]):P us:=by
 cases us with
 |nil=>cases hl
 |cons a r=>exact af5 (P:=λr=>P (a :: r)) (Nat.succ.inj hl) (h a)
theorem ai0 {α:Type}{P:List α->Prop}{us:List α}(hl:us.length=3)(h:∀ a0 a1 a2:α,P [a0,a1,a2]):P us:=by
 cases us with
 |nil=>cases hl
 |cons a r=>exact ai7 (P:=λr=>P (a :: r)) (Nat.succ.inj hl) (h a)
theorem ax8 {α:Type}{P:List α->Prop}{us:List α}(hl:us.length=4)(h:∀ a0 a1 a2 a3:α,P [a0,a1,a2,a3]):P us:=by
 cases us with
 |nil=>cases hl
 |cons a r=>exact ai0 (P:=λr=>P (a :: r)) (Nat.succ.inj hl) (h a)
end
section
variable {K:W.Frag}{x qual:Str}{st:Stmt}{f:Addr}{fd:FuncData}
theorem Hi {p0:Str}(F:Fun K x qual st f fd)(h:∀(kV doc pm:Value) (an:Option Addr) (cdv ct:Value) (u0:Value),bindArgs (W.fnOf x qual (Af st) (Ae st) (A3 st) .none kV doc pm an cdv ct) ⟨[u0],[]⟩=pure (([p0]:List Str).zip [u0])):Binds K fd [p0] []:=
 F.binds λkV doc pm an cdv ct us hl=>af5 (P:=λus=>bindArgs (W.fnOf x qual (Af st) (Ae st) (A3 st) .none kV doc pm an cdv ct) ⟨us,[]⟩=pure (([p0]:List Str).zip us)) hl (h kV doc pm an cdv ct)
theorem Dt {p0 p1:Str}(F:Fun K x qual st f fd)(h:∀(kV doc pm:Value) (an:Option Addr) (cdv ct:Value) (u0 u1:Value),bindArgs (W.fnOf x qual (Af st) (Ae st) (A3 st) .none kV doc pm an cdv ct) ⟨[u0,u1],[]⟩=pure (([p0,p1]:List Str).zip [u0,u1])):Binds K fd [p0,p1] []:=
 F.binds λkV doc pm an cdv ct us hl=>ai7 (P:=λus=>bindArgs (W.fnOf x qual (Af st) (Ae st) (A3 st) .none kV doc pm an cdv ct) ⟨us,[]⟩=pure (([p0,p1]:List Str).zip us)) hl (h kV doc pm an cdv ct)
theorem X3 {p0 p1 p2:Str}(F:Fun K x qual st f fd)(h:∀(kV doc pm:Value) (an:Option Addr) (cdv ct:Value) (u0 u1 u2:Value),bindArgs (W.fnOf x qual (Af st) (Ae st) (A3 st) .none kV doc pm an cdv ct) ⟨[u0,u1,u2],[]⟩=pure (([p0,p1,p2]:List Str).zip [u0,u1,u2])):Binds K fd [p0,p1,p2] []:=
 F.binds λkV doc pm an cdv ct us hl=>ai0 (P:=λus=>bindArgs (W.fnOf x qual (Af st) (Ae st) (A3 st) .none kV doc pm an cdv ct) ⟨us,[]⟩=pure (([p0,p1,p2]:List Str).zip us)) hl (h kV doc pm an cdv ct)
theorem ax4 {p0 p1 p2 p3:Str}(F:Fun K x qual st f fd)(h:∀(kV doc pm:Value) (an:Option Addr) (cdv ct:Value) (u0 u1 u2 u3:Value),bindArgs (W.fnOf x qual (Af st) (Ae st) (A3 st) .none kV doc pm an cdv ct) ⟨[u0,u1,u2,u3],[]⟩=pure (([p0,p1,p2,p3]:List Str).zip [u0,u1,u2,u3])):Binds K fd [p0,p1,p2,p3] []:=
 F.binds λkV doc pm an cdv ct us hl=>ax8 (P:=λus=>bindArgs (W.fnOf x qual (Af st) (Ae st) (A3 st) .none kV doc pm an cdv ct) ⟨us,[]⟩=pure (([p0,p1,p2,p3]:List Str).zip us)) hl (h kV doc pm an cdv ct)
end
def aA5 (K:W.Frag):R2:=λx y H Q=>∃ a b xs,x = .ref a/\y = .ref b/\SqL K H a xs/\SqL K H b []/\Q (.bl (!xs.isEmpty)) H
theorem a41 {X:Cx}{K:W.Frag}(hq:QA X.A)(hK:X.K=K:=by ac_nf):OpR X (compareOp .NotEq) (aA5 K):=by
 subst hK;intro pins s σ H x y v u Q I rx ry h;obtain⟨a,b,xs,rfl,rfl,ha,hb,q⟩:=h
 cases rx
 cases ry;obtain⟨its,rv,la,_⟩:=I.list ha;obtain⟨its2,rv2,lb,_⟩:=I.list hb
 cases rv2;have hu:X.A.units<cLine:=by have:=hq.un;omega
 have la':s.heap.IsList a its.toArray:=let ⟨o,n,e1,e2,e3,e4⟩:=la;⟨o,e1,e2,_,e4⟩;have lb':s.heap.IsList b ([]:List Value).toArray:=let ⟨o,n,e1,e2,e3,e4⟩:=lb;⟨o,e1,e2,_,e4⟩
 cases xs with
 |nil=>cases rv;have r:=SeqAt.RcNeAt.lists (A:=X.A) (s:=s) (e:=λ_=>true) la' lb' rfl hu (λj h1=>absurd h1 (by simp));exact r _ _ _ _ ⟨.bl _,H,I,rfl,q⟩
 |cons x r=>
   cases rv with
   |cons r1 r2=>have r:=SeqAt.RcNeAt.lists_lengths (A:=X.A) (s:=s) la' lb' (by simp) hu;exact r _ _ _ _ ⟨.bl _,H,I,rfl,q⟩
theorem ae0 {K:W.Frag}{H:Hp}{Q:VK}{a b:Addr}{xs:List V}(h:SqL K H a xs)(h':SqL K H b [])(k:Q (.bl (!xs.isEmpty)) H):aA5 K (.ref a) (.ref b) H Q:=⟨a,b,xs,rfl,rfl,h,h',k⟩
section
open PySem.SeqAt PySem.MeetsSeq
variable {A:Around}{s:Shared}
end
section
variable {prog:Program}{w:World}{A:Around}{E:Value->Shared->Prop}{s:Shared}
set_option maxRecDepth 100000 in
end
section
variable {X:Cx}{pos p2:Pos}
end
section
variable {P:Program}{w:World}{A:Around}{E:Value->Shared->Prop}{z:Shared}
end
section
variable {X:Cx}{K:W.Frag}
end
section
variable {K:W.Frag}{H:Hp}{Q:VK}
end
section
variable {X:Cx}{pins:List (Addr×Obj)}{σ:St}{H:Hp}{s:Shared}
end
def at9 (K:W.Frag):R2:=λx y H Q=>∃ a b xs,x = .ref a/\y = .ref b/\SqL K H a xs/\SqL K H b []/\Q (.bl xs.isEmpty) H
theorem ao2 {X:Cx}{K:W.Frag}(hq:QA X.A)(hK:X.K=K:=by ac_nf):OpR X (compareOp .Eq) (at9 K):=by
 subst hK;intro pins s σ H x y v u Q I rx ry h;obtain⟨a,b,xs,rfl,rfl,ha,hb,q⟩:=h
 cases rx
 cases ry;obtain⟨its,rv,la,_⟩:=I.list ha;obtain⟨its2,rv2,lb,_⟩:=I.list hb
 cases rv2;have hu:X.A.units<cLine:=by have:=hq.un;omega
 have la':s.heap.IsList a its.toArray:=let ⟨o,n,e1,e2,e3,e4⟩:=la;⟨o,e1,e2,_,e4⟩;have lb':s.heap.IsList b ([]:List Value).toArray:=let ⟨o,n,e1,e2,e3,e4⟩:=lb;⟨o,e1,e2,_,e4⟩
 cases xs with
 |nil=>cases rv;exact SeqAt.eq_listAt (e:=λ_=>true) la' lb' rfl hu (λj h1=>absurd h1 (by simp)) ⟨.bl _,H,I,rfl,q⟩
 |cons x r=>
   cases rv with
   |cons r1 r2=>exact SeqAt.eq_list_lengthsAt la' lb' (by simp) hu ⟨.bl _,H,I,rfl,q⟩
theorem aB0 {K:W.Frag}{H:Hp}{Q:VK}{a b:Addr}{xs:List V}(h:SqL K H a xs)(h':SqL K H b [])(k:Q (.bl xs.isEmpty) H):at9 K (.ref a) (.ref b) H Q:=⟨a,b,xs,rfl,rfl,h,h',k⟩
mutual
def ay5:PyData->Bool
 |.str z=>z.cps.toList.all λc=>decide (c<128)
 |.list ds=>ar5 ds
 |.tuple ds=>ar5 ds
 |.dict _=>false
 |_=>true
def ar5:List PyData->Bool
 | []=>true
 |d :: ds=>ay5 d&&ar5 ds
end
mutual
def aA0:PyData->Nat
 |.list ds=>max ds.length (ar6 ds)
 |.tuple ds=>max ds.length (ar6 ds)
 |_=>0
def ar6:List PyData->Nat
 | []=>0
 |d :: ds=>max (aA0 d) (ar6 ds)
end
structure Dk (p w W:Nat)(D:PyData):Prop where
 asc:ay5 D=true
 lay:D.canLay0=true
 sh:D.showable=true
 lv:D.leavesShort 45=true
 dp:D.depth<=p
 wt:D.weight<=w
 wd:aA0 D<=W
structure Els (p w W:Nat)(ds:List PyData):Prop where
 all:∀ e∈ds,∃ u,Dk p u W e
 wt:PyData.weightAll ds<=w
 len:ds.length<=W
theorem Dk.le {p w W p' w' W':Nat}{D:PyData}(h:Dk p w W D)(h1:p<=p')(h2:w<=w')(h3:W<=W':=by omega):Dk p' w' W' D:=⟨h.asc,h.lay,h.sh,h.lv,A0B h.dp h1,A0B h.wt h2,A0B h.wd h3⟩
theorem Zm {p W:Nat}:∀ {ds:List PyData},(∀ e∈ds,∃ u,Dk p u W e)->ar5 ds=true/\PyData.canLayAll0 ds=true/\PyData.showableAll ds=true/\PyData.leavesShortAll 45 ds=true/\PyData.depthAll ds<=p/\ar6 ds<=W
 | [],_=>⟨by simp only[ar5],by simp only[PyData.canLayAll0],by simp only[PyData.showableAll],by simp only[PyData.leavesShortAll],by simp only[PyData.depthAll];omega,by simp only[ar6];omega⟩
 |d :: ds,h=>by obtain⟨u,a⟩:=h d (by simp);obtain⟨b0,b1,b2,b3,b4,b5⟩:=Zm (ds:=ds) λe he=>h e (by simp[he]);have:=a.dp;have:=a.wd;exact⟨by simp only[ar5,a.asc,b0,Bool.and_self],by simp only[PyData.canLayAll0,a.lay,b1,Bool.and_self],by simp only[PyData.showableAll,a.sh,b2,Bool.and_self],by simp only[PyData.leavesShortAll,a.lv,b3,Bool.and_self],by simp only[PyData.depthAll];omega,by simp only[ar6];omega⟩
theorem ae7 {p w W:Nat}{ds:List PyData}(h:Els p w W ds):Dk (p+1) w W (.tuple ds):=by obtain⟨a0,a1,a2,a3,a4,a5⟩:=Zm h.all;have:=h.len;exact⟨by simpa only[ay5] using a0,by simpa only[PyData.canLay0] using a1,by simpa only[PyData.showable] using a2,by simpa only[PyData.leavesShort] using a3,by simp only[PyData.depth];omega,by simpa only[PyData.weight] using h.wt,by simp only[aA0];omega⟩
def Asc (z:Str):Prop:=∀ c∈z.cps.toList,c<128
theorem Asc.ok {z:Str}(h:Asc z):PyData.strOk z=true:=by unfold PyData.strOk;rw[<- Array.all_toList,A1T];intro c hc;have:=h c hc;exact A0H ∅
theorem aw5 {p w W:Nat}{z:Str}(h:Asc z)(hl:z.length<=w):Dk p w W (.str z):=by
 refine⟨?_,by simpa only[PyData.canLay0] using h.ok,by simp only[PyData.showable],?_,by simp only[PyData.depth];omega,by simp only[PyData.weight];exact hl,by simp only[aA0];omega⟩
 . simp only[ay5];rw[A1T];exact λc hc=>A0H (h c hc)
 simp only[PyData.leavesShort];rw[A1T];intro c hc;have:=h c hc;exact A0H ∅
theorem a80 {xs:List V}{t:Int}(h0:0<=t):Lv xs (some t) none=xs.drop t.toNat:=by
 by_cases h:t<=xs.length
 . exact Ji h0 h
 have e:HT.sIx xs.length 0 (some t)=xs.length:=by unfold HT.sIx;simp[show ¬ t<0 by omega];omega
 unfold Lv;rw[e,List.drop_length,List.take_nil,A55 ∅]
section
variable {X:Cx}{K:W.Frag}
theorem Dk.told {p w W:Nat}{D:PyData}(h:Dk p w W D)(hp:p<=60)(hw:w<=100000):D.showable=true/\D.shown.length<=sizeLine/\D.depth<=100:=by have h2:=PyData.shown_le 45 nofun D h.lv;have h3:=h.wt;have h4:=h.dp;refine⟨h.sh,?_,by omega⟩;rw[A1N];omega
end
section
variable {prog:Program}{w:World}{A:Around}{E:Value->Shared->Prop}{s:Shared}
end
section
variable {P:Program}{w:World}{A:Around}{R:Result->Shared->Prop}{it:Addr}{fp wr:List Addr}{G:Array GenState->Array GenState->Prop}{n:Nat}{PV:Nat->Value->Prop}{St:Nat->Shared->Prop}
end
section
variable {prog:Program}{w:World}{A:Around}{E:Value->Shared->Prop}{s:Shared}
set_option maxHeartbeats 3200000 in
end
section
variable {X:Cx}{K:W.Frag}
end
end L2
namespace L2
open PySem PySem.Spec PyProof.Rows
open Builtin
section
variable {X:Cx}{K:W.Frag}
end
end L2
namespace L2
open PySem PySem.Spec PyProof.Rows
section
variable {P:Program} {w:World} {K:W.Frag} {mg:Str->Option Value} {base:Heap} {k:Nat} {f:Addr} {fd:FuncData} {ps:List Str} {sp sp':Sp}
end
theorem Nh:∀(k fuel n:Nat) (ds:List Char),1<=k->n<10 ^ k->(Nat.toDigitsCore 10 fuel n ds).length<=ds.length+k
 |_,0,n,ds,_,_=>by simp[Nat.toDigitsCore]
 |k,fuel+1,n,ds,hk,hn=>by
   unfold Nat.toDigitsCore;dsimp only
   split
   . simp;omega
   rename_i h0
   cases k with
   |zero=>omega
   |succ k=>
     have h1:n / 10<10 ^ k:=by rw[Nat.div_lt_iff_lt_mul ∅];rw[A5F] at hn;exact hn
     have hk1:1<=k:=by
      cases k with
      |zero=>simp at h1;omega
      |succ _=>omega
     have:=Nh k fuel (n / 10) (Nat.digitChar (n % 10) :: ds) hk1 h1;rw[A0G] at this;omega
theorem am1 (s:String):(s:Str).length=s.toList.length:=by show(Str.ofString s).cps.size=_;rw[Str.ofString_eq_byList];unfold Str.ofStringByList;simp
theorem Wl {n:Nat}(h:n<10 ^ 44):(Nat.repr n).toList.length<=44:=by unfold Nat.repr Nat.toDigits;have:=Nh 44 (n+1) n [] ∅ h;simpa using this
theorem a44 {m:Int} (h:m.natAbs<10 ^ 44):(PyData.int m).shown.length<=45:=by
 simp only[PyData.shown];rw[am1]
 cases m with
 |ofNat n=>have:(toString (Int.ofNat n):String)=Nat.repr n:=rfl;rw[this];exact A0B (Wl h) ∅
 |negSucc n=>
   have:(toString (Int.negSucc n):String) = "-" ++ Nat.repr (n+1):=rfl;rw[this];have h2:=Wl (n:=n+1) h;rw[String.toList_append,A04];have:("-":String).toList.length=1:=by decide
   omega
theorem al3 {m:Int}(h:m.natAbs<10 ^ 44):m.natAbs.log2<147:=by
 by_cases h0:m.natAbs=0
 . rw[h0];decide
 exact(Nat.log2_lt h0).mpr (A3V h nofun)
theorem Lo {p W:Nat}{m:Int}(h:m.natAbs<10 ^ 44):Dk p 150 W (.int m):=by
 have hl:=al3 h;refine⟨by simp only[ay5],by simp only[PyData.canLay0],?_,?_,by simp only[PyData.depth];omega,?_,by simp only[aA0];omega⟩
 . simp only[PyData.showable];exact A0H ∅
 . simp only[PyData.leavesShort];exact A0H (a44 h)
 simp only[PyData.weight]
 split<;>omega
section
variable {P:Program}{w:World}{A:Around}{E:Value->Shared->Prop}{z:Shared}
end
section
variable {X:Cx}{K:W.Frag}
end
section
variable {K:W.Frag}{σ:St}{H:Hp}{Q:VK}
end
section
variable {X:Cx}{K:W.Frag}{H:Hp}{Q:VK}
end
section
variable {X:Cx}{K:W.Frag}
end
section
variable {α:Type}[DecidableEq α]
end
section
variable {α:Type} [DecidableEq α]
theorem a02 {l m:List α}(hn:l.Nodup)(h:∀ x∈l,x∈m):l.length<=m.length:=by
 induction l generalizing m with
 |nil=>simp
 |cons a l ih=>
   obtain⟨h1,h2⟩:=A13.mp hn;have ha:=h a (.head _)
   have:=ih (m:=m.erase a) h2 λx hx=>by have hne:x≠a:=λe=>h1 (e ▸ hx);exact(A5N hne).mpr (h x (.tail _ hx))
   rw[A4V ha] at this;have hp:0<m.length:=A54 ha;rw[A0G];omega
end
section
variable {α:Type}[DecidableEq α]
end
section
variable {X:Cx}{pins:List (Addr×Obj)}{σ:List (Option V)}{H:Hp}{s:Shared}{h':Heap}
variable {K:W.Frag}
end
section
variable {α:Type}[DecidableEq α]
theorem Nd {a z:α}(r:List α)(h:¬ a=z):(a :: r).idxOf z=r.idxOf z+1:=by
 have e:(a==z)=false:=by simp[h]
 rw[List.idxOf_cons,e];rfl
theorem Lu {r:List α}(hn:r.Nodup){x y:α}(hx:x∈r)(hy:y∈r)(hxy:x≠y):r.idxOf x<r.idxOf y↔r.Pairwise λu v=>¬ (u=y/\v=x):=by
 induction r with
 |nil=>cases hx
 |cons a r ih=>
   obtain⟨h1,h2⟩:=A13.mp hn;rw[A1J]
   by_cases hax:a=x
   . subst hax;have hya:¬ a=y:=hxy;rw[A4F,Nd _ hya];refine⟨λ_=>⟨λv _ ⟨e,_⟩=>hxy e,List.pairwise_iff_forall_sublist.mpr fun {u v} hs ⟨_,e⟩=>h1 (e ▸ hs.subset (by simp))⟩,λ_=>Nat.succ_pos _⟩
   have hxr:x∈r:=(A0N.mp hx).resolve_left λe=>hax e.symm
   by_cases hay:a=y
   . subst hay;rw[A4F];exact⟨λh=>absurd h (A29 _),λh=>absurd ⟨rfl,rfl⟩ (h.1 x hxr)⟩
   have hyr:y∈r:=(A0N.mp hy).resolve_left λe=>hay e.symm;rw[Nd _ hax,Nd _ hay,Nat.add_lt_add_iff_right,ih h2 hxr hyr];exact⟨λh=>⟨λv _ ⟨e,_⟩=>hay e,h⟩,λh=>h.2⟩
variable {β:Type}[DecidableEq β]
end
section
variable {X:Cx}{k:Nat}{x:Str}{ps:List Str}{sp:Sp}{e:Expr}{es:List Expr}{t:TA}{p pos:Pos}{E:St->XK}
end
section
variable {X:Cx}{pins:List (Addr×Obj)}
end
section
variable {α:Type}[DecidableEq α]
end
section
variable {ns ns':List Str}{ps ps':List (Str×Str)}
variable {qs:List (Str×Str)}
end
section
variable {M:Model}{A:Around}{E:Value->Shared->Prop}{s:Shared}{base:Heap}{env:Env}{outer:List Env}{L a:Addr}{oe:Obj}{vs:Array Value}{Q:Unit->Shared->Prop}
end
section
variable {P:Program}{w:World}{fs:List Addr}{a C:Addr}{od:Option Addr}{oe:Obj}{old:List Addr}{h h':Heap}{H:Hp}{n:Bool}
end
section
variable {P:Program}{w:World}{K:W.Frag}{mg:Str->Option Value}{base:Heap}{N:List Str}{qual:Str}{scope:Scope}{f:Addr}{cd:Value}{A:Around}{outer:List Env}{s₀:Shared}{H₀:Hp}{E:XK}
end
section
variable {X:Cx}{scope:Scope}{xs fr:List Str}{pins:List (Addr×Obj)}{σ:St}{H:Hp}{s:Shared}{js:List Nat}{fp:List Addr}
end
section
variable {X:Cx}{k:Nat}{C:Addr}{m:Str}{ps:List Str}{sp:Sp}{e o:Expr}{es:List Expr}{ta:TE}{t:TA}{p pos apos:Pos}{E:XK}
end
section
variable {σ:St}{H:Hp}{Q:VK}{C:Addr}{m:Str}{sp:Sp}{ta:TE}{t:TA}{E:XK}
end
section
variable {P:Program}{w:World}{K:W.Frag}{mg:Str->Option Value}{base:Heap}
end
section
variable {X:Cx}{k:Nat}{x:Str}{ps:List Str}{sp:Sp}{e:Expr}{es:List Expr}{t:TA}{p pos:Pos}
end
section
variable {X:Cx}
end
section
variable {α:Type}[DecidableEq α]{b:α->α->Bool}
end
section
variable {X:Cx}{K:W.Frag}
end
section
variable {K:W.Frag}{σ:St}{H:Hp}
end
section
variable {K:W.Frag}{H H':Hp}{x:V}{ns:List Str}{σ:St}{Q:VK}
end
theorem a42 {K:W.Frag}{H:Hp}{d:PyData}{ds:List PyData}{vs:List V}(h:IsL K H (d :: ds) vs):∃ v r,vs=v :: r/\Is K H d v/\IsL K H ds r:=by simpa only[IsL] using h
section
variable {ns A B:List Str}{pA pB S:List (Str×Str)}
end
section
variable {prog:Program}{w:World}{A:Around}{E:Value->Shared->Prop}{s:Shared}{Q:Value->Shared->Prop}
end
section
variable {X:Cx}{pins:List (Addr×Obj)}{σ:List (Option V)}{H:Hp}{s:Shared}{h':Heap}
end
section
variable {X:Cx}{K:W.Frag}
end
section
variable {ns A B:List Str}{pA pB S:List (Str×Str)}
end
section
variable {prog:Program}{w:World}{A:Around}{E:Value->Shared->Prop}{s:Shared}{Q:Value->Shared->Prop}
end
section
variable {X:Cx}{pins:List (Addr×Obj)}{σ:List (Option V)}{H:Hp}{s:Shared}{h':Heap}
end
section
variable {X:Cx}{pins:List (Addr×Obj)}{σ:List (Option V)}{H:Hp}{s:Shared}
end
section
variable {ns row:List Str}{ps:List (Str×Str)}
end
section
variable {X:Cx}
end
section
variable {prog:Program}{w:World}{A:Around}{E:Value->Shared->Prop}{s:Shared}
end
section
variable {X:Cx}{K:W.Frag}
end
section
variable {ps ps':List (Str×Str)}
end
section
variable {X:Cx}{k:Nat}{C:Addr}{x:Str}{ps:List Str}{sp:Sp}{e:Expr}{es:List Expr}{t:TA}{p pos:Pos}{E:XK}
end
section
variable {C:Addr} {sp:Sp} {t:TA} {σ:St} {H:Hp} {Q:VK} {E:XK}
end
theorem T3 {b:Str->Str->Bool}(hb:∀ x y,b x y=false):∀(n:Nat) (L:List Str),L.length=n->L.Nodup->cnt b L=fac n
 |0,L,h,_=>by rw[A0D.mp h,L2.cnt_nil];rfl
 |n+1,L,h,hn=>by
   rw[Sj hn (by intro z;rw[z] at h;cases h)];have hf:frF b L=L:=List.filter_eq_self.mpr λx hx=>by simp[hb]
   rw[hf];have h1:(L.map λx=>cnt b (Bd L x))=L.map λ_=>fac n:=A1K λx hx=>T3 hb n (Bd L x) (by have:=Dr hn hx;omega) (Cw hn x);rw[h1,List.map_const',List.sum_replicate_nat,h]
   first | rfl | exact A59 _ _
section
variable {K:W.Frag}{C B:Addr}{hf i0:Bool}{fs:List Str}
end
section
variable {P:Program}{w:World}{K:W.Frag}{mg:Str->Option Value}{base:Heap}{A:Around}{outer:List Env}{s:Shared}{H:Hp}
end
section
variable {X:Cx}{pins:List (Addr×Obj)}{σ:List (Option V)}{H:Hp}{s s':Shared}
end
section
variable {X:Cx}{pins:List (Addr×Obj)}{σ:List (Option V)}{H:Hp}{s:Shared}
end
def drop (H:Hp)(a:Addr):Hp:=λb=>if b=a then none else H b
section
variable {X:Cx}{k:Nat}{x:Str}{ps:List Str}{sp:Sp}{e:Expr}{es:List Expr}{t:TA}{p pos:Pos}
end
section
variable {prog:Program}{w:World}{A:Around}{E:Value->Shared->Prop}{s:Shared}
abbrev TKd (prog:Program)(w:World):=tupleKind (B7 prog w)
def ad9 (pk:List (List Key×Addr×Value×Addr)):List (List Key×Addr×Value):=pk.foldl (λxs p=>storedH xs p.1 p.2.1 p.2.2.1) []
theorem an2 (pk:List (List Key×Addr×Value×Addr)):(ad9 pk).length<=pk.length:=by
 have go:∀(pk:List (List Key×Addr×Value×Addr)) (xs:List (List Key×Addr×Value)),(pk.foldl (λxs p=>storedH xs p.1 p.2.1 p.2.2.1) xs).length<=xs.length+pk.length:=λpk=>by
  induction pk with
  |nil=>intro xs;exact A05 _
  |cons p pk ih=>
    intro xs;have:=ih (storedH xs p.1 p.2.1 p.2.2.1)
    have h:(storedH xs p.1 p.2.1 p.2.2.1).length<=xs.length+1:=by
     unfold storedH
     split
     . rw[A00];omega
     rw[A04];exact A05 _
    rw[A2M,A0G];omega
 have:=go pk [];rw[A2N,A4B] at this;exact this
theorem Nb {h h':Heap}{ks:List Key}{a:Addr}(e:(TKd prog w).is h ks a)(k:∀ o,h.get? a=some o->h'.get? a=some o):(TKd prog w).is h' ks a:=by obtain⟨o,its,n,h1,r⟩:=e;exact⟨o,its,n,k o h1,r⟩
theorem Ru {h h':Heap}{I D:Addr}{xs:List (List Key×Addr×Value)}(hI:∃ o vs,h.get? I=some o/\o.data = .fields vs)(hDI:D≠I)(k:∀ b o,b≠I->h.get? b=some o->h'.get? b=some o)(d:h.DictOfH (TKd prog w) D xs):h'.DictOfH (TKd prog w) D xs:=by
 obtain⟨o,es,ep,ho,hc,hd,he,his,hn⟩:=d;refine⟨o,es,ep,k D o hDI ho,hc,hd,he,λx hx=>?_,hn⟩;obtain⟨ok,its,n,h1,r⟩:=his x hx;refine⟨ok,its,n,k _ ok (λe=>?_) h1,r⟩;obtain⟨oI,vs,hI,hv⟩:=hI;rw[e,hI] at h1
 cases h1;have:=r.2.1;rw[hv] at this
 cases this
theorem Xl {I D l:Addr}{items:Array Value}(hh:A.in1.handled=none)(hu:(TKd prog w).room A.in1)(hne:l≠I)(hDI:D≠I)(hDl:D≠l)(pk:List (List Key×Addr×Value×Addr))(hlen:pk.length=items.size)(hz:items.size<=1000000) :
  ∀(j i:Nat) (s:Shared) (R:Result->Shared->Prop),items.size-i=j->i<=items.size->s.heap.IsListIter I l i->s.heap.IsList l items ->
   s.heap.DictOfH (TKd prog w) D (ad9 (pk.take i)) ->
   (∀(n:Nat) (p:List Key×Addr×Value×Addr),pk[n]? = some p->items[n]? = some (Value.ref p.2.2.2)/\p.2.2.2≠I/\p.2.2.2≠D/\IsTup s.heap p.2.2.2 #[.ref p.2.1,p.2.2.1]/\p.2.1≠I/\p.2.1≠D/\(TKd prog w).is s.heap p.1 p.2.1) ->
   (∀ h' tk,h'.DictOfH (TKd prog w) D (ad9 pk)->(∀ b o,b≠D->b≠I->s.heap.get? b=some o->h'.get? b=some o)->R (.ok (.ret .none)) {s with heap:=h',toks:=tk}) ->
   codeAny (model prog w) A (.builtin "dict.update.loop" ⟨[.ref D,.ref I,.int i 0,.none],[]⟩) R s:=by
 have W:=Walks.list (prog:=prog) (w:=w) hh I l hne items;have itF:∀ {h:Heap} {i:Nat},h.IsListIter I l i->∃ o vs,h.get? I=some o/\o.data = .fields vs:=λ⟨o,ho,_,hd⟩=>⟨o,_,ho,hd⟩;intro j
 induction j with
 |zero=>
   intro i s R hj hi hI hL hD hP hR;have hin:i=items.size:=by omega
   subst hin;refine A5D Io ?_;rw[A4D Cr _];show wpAny _ A.in1 (pyNext (.ref I) >>= _) _ _ s;refine A08 (W.done s _ _ ⟨hI,hL⟩ λh' tk hm=>?_);show wpAny _ A.in1 (Builtin.Dict.addKeywords D [] >>= _) _ _ _;refine wpAny_bind (wpAny_pure (wpAny_pure (hR h' tk ?_ λb o hb hb' e=>hm b o (by simpa using hb') e)));rw[<- hlen,A0R] at hD;exact Ru (itF hI) hDI (λb o hb e=>hm b o (by simpa using hb) e) hD
 |succ j ih=>
   intro i s R hj hi hI hL hD hP hR;have hlt:i<items.size:=by omega
   obtain⟨p,hp⟩:∃ p,pk[i]? = some p:=⟨pk[i]'∅,A03 _⟩;obtain⟨q1,q2,q3,q4,q5,q6,q7⟩:=hP i p hp;refine A5D Io ?_;rw[A4D Cr _];show wpAny _ A.in1 (pyNext (.ref I) >>= _) _ _ s;refine A08 (W.item i s _ _ hlt ⟨hI,hL⟩ λv h' tk hv hst hm=>?_)
   have hv':v = .ref p.2.2.2:=by have hv2:items[i]? = some v:=hv;rw[q1] at hv2;exact(A12 hv2).symm
   subst hv';have hm':∀ b o,b≠I->s.heap.get? b=some o->h'.get? b=some o:=λb o hb e=>hm b o (by simpa using hb) e
   have ht':IsTup h' p.2.2.2 #[.ref p.2.1,p.2.2.1]:=by obtain⟨o,ho,r⟩:=q4;exact⟨o,hm' _ o q2 ho,r⟩
   have hD':=Ru (itF hI) hDI hm' hD;show wpAny _ A.in1 (holding [Value.ref p.2.2.2] _ >>= _) _ _ _;refine A08 (A3A ?_);refine A08 (wpAny_tryCatch (On ht' ?_));show wpAny _ A.in1 (holding [.ref p.2.1,p.2.2.1] (dictSet D (.ref p.2.1) p.2.2.1)) _ _ _;refine A3A (wpAny_dictSet_heap hu (Nb q7 λo e=>hm' _ o q5 e) hD' (λh'' hD'' hs=>?_) ?_)
   . refine A0M ⟨A5W Cr _,?_⟩;have hkeep:∀ b o,b≠D->b≠I->s.heap.get? b=some o->h''.get? b=some o:=λb o h1 h2 e=>(hs.2 b h1).trans (hm' b o h2 e);refine ih (i+1) _ R ∅ hlt ?_ ?_ ?_ (λn p' hp'=>?_) λh3 tk3 hD3 hk3=>hR h3 tk3 hD3 λb o h1 h2 e=>hk3 b o h1 h2 (hkeep b o h1 h2 e)
     . exact hst.1.at λo e=>(hs.2 I (Ne.symm hDI)).trans e
     . exact hst.2.at λo e=>(hs.2 l (Ne.symm hDl)).trans e
     . have e:ad9 (pk.take (i+1))=storedH (ad9 (pk.take i)) p.1 p.2.1 p.2.2.1:=by unfold ad9;rw[A0I,hp,List.foldl_append];rfl
       rw[e];exact hD''
     obtain⟨a1,a2,a3,⟨o,ho,r⟩,a5,a6,a7⟩:=hP n p' hp';exact⟨a1,a2,a3,⟨o,hkeep _ o a3 a2 ho,r⟩,a5,a6,Nb a7 λo e=>hkeep _ o a6 a5 e⟩
   refine A0B (an2 _) (A9 ?_);rw[A0J];omega
theorem M5 {l:Addr}{items:Array Value}{n:Nat}{Q:Value->Shared->Prop}(hl:s.heap.get? l=some {cls:=.type "list",data:=.seq items n})(hA:A.handled=none)(hu:A.units+64<cLine)(pk:List (List Key×Addr×Value×Addr))(hlen:pk.length=items.size)(hz:items.size<=1000000)
  (hP:∀(n:Nat) (p:List Key×Addr×Value×Addr),pk[n]? = some p->items[n]? = some (Value.ref p.2.2.2)/\IsTup s.heap p.2.2.2 #[.ref p.2.1,p.2.2.1]/\(TKd prog w).is s.heap p.1 p.2.1)
  (h:∀ h' tk,h'.DictOfH (TKd prog w) s.heap.objs.size (ad9 pk)->(∀ b o,s.heap.get? b=some o->h'.get? b=some o)->Q (.ref s.heap.objs.size) {s with heap:=h',toks:=tk}) :
  wpAny (model prog w) A (call (.type "dict") [.ref l]) Q E s:=by
 refine callType_codes (Q₁:=λobj s₁=>obj = .ref s.heap.objs.size/\s₁={s with heap:=s.heap.push {cls:=.type "dict",data:=.dict #[]}}) F.kt_called_dict (F.kt_typeCall_dict_1 _) F.entry_dict_init (kt_code_dict_new _ ⟨rfl,rfl⟩) ?_
 rintro obj s₁ ⟨rfl,rfl⟩;have hnew0:(s.heap.push {cls:=.type "dict",data:=.dict #[]}).DictOf (B7 prog w) s.heap.objs.size []:=Heap.DictOf.new s.heap
 have hnew:(s.heap.push {cls:=.type "dict",data:=.dict #[]}).DictOfH (TKd prog w) s.heap.objs.size []:=by
  obtain⟨o,es,ep,ho,hc,hd,hk,hp,hn⟩:=hnew0;have he:es.toList=[]:=A0D.mp (by first | exact hp.length | exact hp.length.symm)
  exact⟨o,es,ep,ho,hc,hd,he,λx hx=>(nomatch hx),List.nodup_nil⟩
 have hl':(s.heap.push {cls:=.type "dict",data:=.dict #[]}).get? l=some {cls:=.type "list",data:=.seq items n}:=A06 _ hl;have hll:l<s.heap.objs.size:=A0L hl;refine⟨hnew0.typeIs,F.args_dict_init_2 _ _,?_⟩;unfold Builtin.«dict.__init__»;refine A08 ?_;unfold Builtin.Dict.selfAndRest;refine A08 (A5E hnew0.typeIs ?_);show wpAny _ _ (pure (s.heap.objs.size,[Value.ref l])) _ _ _;refine A0M ?_;show wpAny _ _ (Builtin.Dict.updateFrom "dict.__init__" s.heap.objs.size (.ref l) [] .none) _ _ _;unfold Builtin.Dict.updateFrom;refine A08 (A4M ⟨_,hl',rfl⟩ ?_);rw[A10 nofun];refine wpAny_bind (Sc hl' (by simpa using hA) λh1 tk1 hk1=>?_);have hl1:h1.get? l=some {cls:=.type "list",data:=.seq items n}:=hk1 _ _ hl';rw[A10 (show(none:Option Value).isNone=true from rfl)]
 have hD1:h1.DictOfH (TKd prog w) s.heap.objs.size []:=by obtain⟨o,es,ep,ho,hc,hd,he,_,hn⟩:=hnew;exact⟨o,es,ep,hk1 _ _ ho,hc,hd,he,λx hx=>(nomatch hx),hn⟩
 have hsz:s.heap.objs.size<h1.objs.size:=by obtain⟨o,es,ep,ho,r⟩:=hD1;exact A0L ho
 refine A08 (A46 ?_);have hL1:h1.IsList l items:=⟨_,hl1,rfl,n,rfl⟩;refine A08 (A45 hL1 ?_);refine A0M ⟨A5W Cr _,?_⟩;have kp:∀ b o,s.heap.get? b=some o->(h1.push {cls:=.type "list_iterator",data:=.fields #[.ref l,.int 0 0]}).get? b=some o:=λb o e=>A06 _ (hk1 _ _ (A06 _ e));refine Xl (A:=A.in1) (I:=h1.objs.size) (D:=s.heap.objs.size) (l:=l) (items:=items) (by simpa using hA) (show A.units+2<cLine by omega) (Nat.ne_of_lt (Nat.lt_trans hll hsz)) (Nat.ne_of_lt hsz) (Nat.ne_of_gt hll) pk hlen hz items.size 0 _ _ (Nat.sub_zero _) (Nat.zero_le _) ⟨_,Heap.get?_push_size _ rfl,rfl,rfl⟩ (hL1.push _) ?_ (λm p hp=>?_) λh' tk hD hk=>?_
 . obtain⟨o,es,ep,ho,hc,hd,he,_,hn⟩:=hD1;exact⟨o,es,ep,A06 _ ho,hc,hd,he,λx hx=>(nomatch hx),hn⟩
 . obtain⟨a1,⟨o,ho,r⟩,a3⟩:=hP m p hp;have hlt:=A0L ho;have hlk:p.2.1<s.heap.objs.size:=by obtain⟨o,its,n,h1,_⟩:=a3;exact A0L h1
   exact⟨a1,A1C (A3V hlt hsz),A1C hlt,⟨o,kp _ _ ho,r⟩,A1C (A3V hlk hsz),A1C hlk,Nb a3 λo e=>kp _ o e⟩
 refine⟨rfl,h h' tk hD λb o e=>?_⟩;have hlt:=A0L e;exact hk b o (A1C hlt) (A1C (A3V hlt hsz)) (kp b o e)
end
def PrsT (K:W.Frag)(H:Hp):List (List Key×V)->List V->Prop
 | [],ys=>ys=[]
 |kv :: r,ys=>∃ t b ys',ys = .ref t :: ys'/\SqT K H t [.ref b,kv.2]/\H b=some (.tup (kv.1.map kV))/\PrsT K H r ys'
def aD0 (kvs:List (List Key×V)):List (List Key×V):=kvs.foldl (λm p=>Gx m p.1 p.2) []
theorem PrsT.pk {X:Cx}{pins:List (Addr×Obj)}{σ:St}{H:Hp}{s:Shared}(I:Inv X pins σ H s):∀(kvs:List (List Key×V)) (ys:List V) (its:List Value),PrsT X.K H kvs ys->Vals ys its ->
  ∃ pk:List (List Key×Addr×Value×Addr),pk.length=its.length/\Paired (λ(p:List Key×V) (q:List Key×Addr×Value×Addr)=>p.1=q.1/\H q.2.1=some (.tup (p.1.map kV))/\RelV p.2 q.2.2.1) kvs pk/\∀(n:Nat) (p:List Key×Addr×Value×Addr),pk[n]? = some p->its[n]? = some (Value.ref p.2.2.2)/\IsTup s.heap p.2.2.2 #[.ref p.2.1,p.2.2.1]/\(TKd X.prog X.w).is s.heap p.1 p.2.1
 | [],ys,its,h,v=>by
   have h':ys=[]:=h;subst h'
   cases v;exact ⟨[],rfl,.nil,λn p hp=>by simp at hp⟩
 |kv :: r,ys,its,h,v=>by
   obtain⟨t,b,ys',rfl,h2,hb,h3⟩:=h
   cases v with
   |cons v1 v2=>
     obtain⟨pk,l1,l2,l3⟩:=PrsT.pk I r ys' _ h3 v2
     cases v1;obtain⟨its2,rv,ht,_⟩:=I.tuple h2;obtain ⟨key,val,rfl,a1,a3⟩:=Vals.two rv
     cases a1;refine⟨(kv.1,b,val,t) :: pk,by simp[l1],.cons ⟨rfl,hb,a3⟩ l2,λn p hp=>?_⟩
     cases n with
     |zero=>have:p=(kv.1,b,val,t):=(Option.some.inj (by simpa using hp)).symm;subst this;exact⟨rfl,ht,Ph I.hok hb⟩
     |succ n=>exact l3 n p (by simpa using hp)
theorem aa4 {H:Hp}{kvs:List (List Key×V)}{pk:List (List Key×Addr×Value×Addr)}(h:Paired (λ(p:List Key×V) (q:List Key×Addr×Value×Addr)=>p.1=q.1/\H q.2.1=some (.tup (p.1.map kV))/\RelV p.2 q.2.2.1) kvs pk):∀ {m:List (List Key×V)} {xs:List (List Key×Addr×Value)},KT H m xs->KT H (kvs.foldl (λm p=>Gx m p.1 p.2) m) (pk.foldl (λxs p=>storedH xs p.1 p.2.1 p.2.2.1) xs):=by
 induction h with
 |nil=>intro m xs h;exact h
 |@cons p q ps qs hq t ih=>intro m xs h;rw[A2M,A2M];refine ih ?_;obtain⟨e,hb,hv⟩:=hq;rw[<- e];exact h.put p.1 hb hv
theorem ak8 (kvs:List (List Key×V)):(aD0 kvs).length<=kvs.length:=by
 have go:∀(kvs m:List (List Key×V)),(kvs.foldl (λm p=>Gx m p.1 p.2) m).length<=m.length+kvs.length:=λkvs=>by
  induction kvs with
  |nil=>intro m;exact A05 _
  |cons p r ih=>intro m;have:=ih (Gx m p.1 p.2);have:=I0 m p.1 p.2;rw[A2M,A0G];omega
 have:=go kvs [];rw[A2N,A4B] at this;exact this
section
variable {X:Cx}{K:W.Frag}
def a76 (K:W.Frag):List V->Hp->VK->Prop:=λxs H Q=>∃ l ys kvs,xs=[V.ref l]/\H l=some (.lst ys)/\PrsT K H kvs ys/\ys.length<=1000000/\kvs.length<=1000000/\∀ p,H p=none->Q (.ref p) (upd H p (.dT (aD0 kvs)))
theorem Ue (hr:X.A.handled=none)(hu:X.A.units+64<cLine):CallR X (.type "dict") (a76 X.K):=by
 intro pins s σ H xs us Q I rv h;obtain⟨l,ys,kvs,rfl,hl,hp,hz,hz2,q⟩:=h;obtain⟨u,rfl,ru⟩:=rv.one
 cases ru;obtain⟨z,its,n,r,hlen,e⟩:=I.lstM hl;obtain⟨pk,l1,l2,l3⟩:=PrsT.pk I kvs ys its hp r;refine M5 e hr hu pk (by simpa using l1) (by simp;omega) (λn p hp=>?_) λh' tk hD hk=>?_
 . obtain⟨a1,a2,a3⟩:=l3 n p hp;exact⟨by simpa using a1,a2,a3⟩
 have hfr:=I.hok.fresh (A05 s.heap.objs.size);obtain⟨o,es,ep,ho,hc,hd,he,_,hn⟩:=hD;refine⟨.ref s.heap.objs.size,_,I.laid (o:=.dT (aD0 kvs)) hk (A05 _) ⟨?_,?_,ad9 pk,(aa4 l2 .nil).keeps λc zs ec=>?_,o,es,ep,ho,hc,hd,he,hn⟩,rfl,q _ hfr⟩
 . exact A0B (ak8 kvs) (A9 hz2)
 . exact A1X.mpr (Nat.ne_of_gt I.big)
 rw[By (ne_of_none ec hfr)];exact ec
theorem Uv (hr:X.A.handled=none)(hu:X.A.units+64<cLine)(hK:X.K=K:=by ac_nf):CallR X (.type "dict") (a76 K):=hK ▸ Ue hr hu
theorem aq2 {l:Addr}{ys:List V}{kvs:List (List Key×V)}{H:Hp}{Q:VK}(h:H l=some (.lst ys))(hp:PrsT K H kvs ys)(hz:ys.length<=1000000)(hz2:kvs.length<=1000000)(k:∀ p H',H p=none->Same H H'->H' p=some (.dT (aD0 kvs))->Q (.ref p) H'):a76 K [.ref l] H Q:=⟨l,ys,kvs,rfl,h,hp,hz,hz2,λp hp=>k p _ hp (Same.upd hp) Ai⟩
theorem ao1 {pins:List (Addr×Obj)}{σ:St}{H:Hp}{s:Shared}(I:Inv X pins σ H s){b:Addr}{ks:List Key}(h:SqT X.K H b (ks.map kV)):(TKd X.prog X.w).is s.heap ks b:=by obtain⟨its,r,⟨o,ho,hc,n,hd⟩,_⟩:=I.tuple h;exact⟨o,its.toArray,n,ho,hc,hd,by simpa using Nf r⟩
def ak2 (K:W.Frag):R2:=λx y H Q=>∃ a b kvs ks v,x = .ref a/\y = .ref b/\Rd H a (.dT kvs)/\SqT K H b (ks.map kV)/\Ee kvs ks=some v/\Q v H
theorem au0 (hu:X.A.units+1<cLine):IxR X (ak2 X.K):=by
 intro value slice pins s σ H x y v u Q I rx ry h hs;obtain⟨a,b,kvs,ks,z,rfl,rfl,g,hb,e,q⟩:=h
 cases rx
 cases ry;obtain⟨_,hd,xs,rel,dd⟩:=Tq I.hok g;obtain⟨w',hw,rw'⟩:=RelO.some_of (v:=z) (o:=(atKey xs ks).map (·.2)) (by rw[<- e];exact rel.val ks);obtain⟨p,hp,hp2⟩:=A42.mp hw;refine tail_any dd.typeIs PySem.F.slot_dict_getitem.lookup (wpAny_getItem_heap (A3W hu) (ao1 I hb) dd hp ?_) hs;rw[hp2];exact⟨z,H,I.tok _,rw',q⟩
theorem Ux (hu:X.A.units+1<cLine)(hK:X.K=K:=by ac_nf):IxR X (ak2 K):=hK ▸ au0 hu
theorem Yl {a b:Addr}{kvs:List (List Key×V)}{ks:List Key}{v:V}{H:Hp}{Q:VK}(h:Rd H a (.dT kvs))(hb:SqT K H b (ks.map kV))(e:Ee kvs ks=some v)(k:Q v H):ak2 K (.ref a) (.ref b) H Q:=⟨a,b,kvs,ks,v,rfl,rfl,h,hb,e,k⟩
def aB9:List V->Hp->VK->Prop:=λxs H Q=>∃ a kvs,xs=[V.ref a]/\Rd H a (.dT kvs)/\Q (.int kvs.length) H
theorem Xw {prog:Program}{w:World}{d:Addr}(hd:(d==sysModules)=false) :
  MeetsIn prog w (Builtin.«dict.__len__» ⟨[.ref d],[]⟩) (λ_ R s=>∃ xs,s.heap.DictOfH (TKd prog w) d xs/\R (.ok (.ret (.int xs.length s.toks))) {s with toks:=s.toks+1}):=
 .of_wp λA R s ⟨xs,hm,h⟩=>by
  obtain⟨o,es,ep,ho,hc,hdat,he,_,hn⟩:=hm;show wpAny _ _ (dictSize d >>= _) _ _ s;unfold dictSize;refine A08 (A08 (wpAny_dictEntries ho hdat (A0M ?_)));show wpAny _ _ (Builtin.Dict.pendingCount d >>= _) _ _ s;refine A08 (wpAny_pendingCount_other hd ?_);refine wpAny_ret_mkInt ?_
  have:es.size=xs.length:=by have:=congrArg List.length he;simpa using this
  rw[this];exact h
theorem Yw:CallR X (.builtin "len") aB9:=by
 intro pins s σ H xs us Q I r h;obtain⟨d,kvs,rfl,ha,q⟩:=h;obtain⟨u,rfl,ru⟩:=K7 r
 cases ru;obtain⟨z,hd,ys,rel,hm⟩:=Tq I.hok ha;have hl:kvs.length=ys.length:=A39 rel;refine Calls.call_function_entry kind_len plain_len entry_len (args_len1 _) ?_;unfold Builtin.«len»;refine A08 (m:=oneArg "len" _) (A0M ?_)
 refine A08 (m:=callSpecial? (.ref d) (Str.ofString "__len__")) (A4Y (name:=Str.ofString "__len__") hm.typeIs F.slot_dict_len
  (call_meetsIn F.slot_dict_len hm.typeIs F.entry_dict_len (F.args_dict_len_1 _) (Xw hd) ⟨ys,hm,?_⟩))
 show wpAny _ _ _ _ _ {s with toks:=s.toks+1}
 refine A08 (A3A (A0M ?_));refine A08 (wpAny_letGo ?_);rw[A1N] at z;show wpAny _ _ (if((ys.length:Nat):Int)<0 then _ else _) _ _ _
 rw[A0W ∅];show wpAny _ _ (if((ys.length:Nat):Int)>=2 ^ 63 then _ else _) _ _ _
 rw[A0W ∅];rw[<- hl];exact A08 (wpAny_mkInt (A0M ⟨_,rfl,.int kvs.length,H,I.tok _,⟨_,rfl⟩,q⟩))
theorem aq9 {a:Addr}{kvs:List (List Key×V)}{H:Hp}{Q:VK}(h:Rd H a (.dT kvs))(k:Q (.int kvs.length) H):aB9 [.ref a] H Q:=⟨a,kvs,rfl,h,k⟩
theorem ak4 {a b:Addr}{xs ys:List V}{H:Hp}{Q:VK}(h1:H a=some (.tup xs))(hx:xs≠[])(h2:SqT K H b ys)(h:xs.length+ys.length<=sizeLine)(k:∀ p H',Same H H'->H' p=some (.tup (xs++ys))->Q (.ref p) H'):Tt K (.ref a) (.ref b) H Q:=by refine .inr (.inr (.inr (.inl ⟨a,b,xs,ys,rfl,rfl,SqT.of h1,h2,hx,h,λe=>?_,λ_ p hp=>k p _ (Same.upd hp) Ai⟩)));subst e;exact k a H (Same.refl _) (by rw[A19];exact h1)
end
structure Tps (H:Hp)(rows:List (List Str))(ys:List V):Prop where
 len:rows.length=ys.length
 get:∀(i:Nat) (r:List Str),rows[i]? = some r->∃ a:Addr,ys[i]? = some (V.ref a)/\H a=some (.tup (r.map V.str))
section
variable {K:W.Frag}{H H':Hp}{rows rs:List (List Str)}{ys zs:List V}{r:List Str}
theorem Tps.nil:Tps H [] []:=⟨rfl,λi r h=>by cases h⟩
theorem Tps.same (h:Tps H rows ys)(e:Same H H'):Tps H' rows ys:=⟨h.len,λi r hr=>let ⟨a,h1,h2⟩:=h.get i r hr;⟨a,h1,e _ _ h2⟩⟩
theorem Tps.but {l:Addr}{xs:List V}(h:Tps H rows ys)(hl:H l=some (.lst xs))(e:ExtBut l H H'):Tps H' rows ys:=⟨h.len,λi r hr=>let ⟨a,h1,h2⟩:=h.get i r hr;⟨a,h1,e _ _ (ne_of h2 hl (by intro z;cases z)) h2⟩⟩
theorem Tps.append (h:Tps H rows ys)(g:Tps H rs zs):Tps H (rows++rs) (ys++zs):=by
 refine⟨by rw[A04,A04,h.len,g.len],λi r hr=>?_⟩
 by_cases hi:i<rows.length
 . rw[A18 hi] at hr;obtain⟨a,h1,h2⟩:=h.get i r hr;exact⟨a,by rw[A18 (by rw[<- h.len];exact hi)];exact h1,h2⟩
 rw[A0T ∅] at hr;obtain⟨a,h1,h2⟩:=g.get _ r hr;exact⟨a,by rw[A0T (by rw[<- h.len];omega),<- h.len];exact h1,h2⟩
theorem Tps.one {a:Addr}(h:H a=some (.tup (r.map V.str))):Tps H [r] [.ref a]:=⟨rfl,λi r' hr=>by
 cases i with
 |zero=>cases hr;exact⟨a,rfl,h⟩
 |succ i=>cases hr⟩
theorem Tps.at (h:Tps H rows ys){i:Nat}{y:V}(hy:ys[i]? = some y):∃ a r,y = .ref a/\rows[i]? = some r/\H a=some (.tup (r.map V.str)):=by
 obtain⟨hi,_⟩:=A01.mp hy;have hr:=A03 (show i<rows.length by rw[h.len];exact hi);obtain⟨a,h1,h2⟩:=h.get i _ hr;rw[hy] at h1
 cases h1;exact ⟨a,_,rfl,hr,h2⟩
end
theorem PrsT.keep {K:W.Frag}{H H':Hp}(hq:∀ t xs,SqT K H t xs->SqT K H' t xs)(ht:∀ b xs,H b=some (.tup xs)->H' b=some (.tup xs)):∀ {kvs:List (List Key×V)} {ys:List V},PrsT K H kvs ys->PrsT K H' kvs ys
 | [],ys,h=>h
 |kv :: r,ys,h=>by obtain⟨t,b,ys',rfl,h1,h2,h3⟩:=h;exact⟨t,b,ys',rfl,hq _ _ h1,ht _ _ h2,PrsT.keep hq ht h3⟩
theorem PrsT.snoc {K:W.Frag}{H:Hp}{t b:Addr}{k:List Key}{v:V}(h1:SqT K H t [.ref b,v])(h2:H b=some (.tup (k.map kV))):∀ {kvs:List (List Key×V)} {ys:List V},PrsT K H kvs ys->PrsT K H (kvs++[(k,v)]) (ys++[.ref t])
 | [],ys,h=>by have h':ys=[]:=h;subst h';exact⟨t,b,[],rfl,h1,h2,rfl⟩
 |kv :: r,ys,h=>by obtain⟨t',b',ys',rfl,a1,a2,a3⟩:=h;exact⟨t',b',ys'++[.ref t],rfl,a1,a2,PrsT.snoc h1 h2 a3⟩
theorem aa2 {kvs:List (List Key×V)} (hn:(kvs.map (·.1)).Nodup):aD0 kvs=kvs:=by
 have go:∀(kvs m:List (List Key×V)),((m++kvs).map (·.1)).Nodup->kvs.foldl (λm p=>Gx m p.1 p.2) m=m++kvs:=λkvs=>by
  induction kvs with
  |nil=>intro m _;rw[A19];rfl
  |cons p r ih=>
    intro m h
    have hno:Ee m p.1=none:=by
     cases e:Ee m p.1 with
     |none=>rfl
     |some v=>rw[A0A,A2F] at h;exact absurd rfl (h.2.2 _ (Zq e) p.1 (by simp))
    rw[A2M,Js _ hno,ih _ (by rw[A17];exact h),A17];rfl
 have:=go kvs [] hn;rw[A2V] at this;exact this
def kyT (r:List Str):List Key:=r.map Sum.inr
theorem Ya (r:List Str):(kyT r).map kV=r.map V.str:=by unfold kyT;rw[A2E];rfl
theorem R6 {r r':List Str}(h:kyT r=kyT r'):r=r':=by unfold kyT at h;exact(List.map_inj_right (λa b e=>Sum.inr.inj e)).mp h
def aG7:Bool->Keyed->Array Keyed->Nat->Nat->Nat->StateT SortSt Sem (Option Nat):=sortPriv% PySem.Builtin.gallop
def aL0:Array Keyed->Array Keyed->StateT SortSt Sem (Array Keyed):=sortPriv% PySem.Builtin.mergeLo
def aK9:Array Keyed->Array Keyed->StateT SortSt Sem (Array Keyed):=sortPriv% PySem.Builtin.mergeHi
def bey (left:Bool)(key:Keyed)(arr:Array Keyed)(p:Nat):StateT SortSt Sem (Option Bool):=do
 let x <- elem' arr p
 if left=true then lt' x key else do
  let r <- lt' key x
  pure (r.map λb=>!b)
section
variable {M:Model}{A:Around}{E:Value->Shared->Prop}{s:Shared}
theorem a65 {α:Type}{n:Nat}{B:Nat->Bool}{st:SortSt}{Q:α->SortSt->Prop}{f:Nat->Option (Option Nat)×Nat×Nat->StateT SortSt Sem (ForInStep (Option (Option Nat)×Nat×Nat))}{g:Option (Option Nat)×Nat×Nat->StateT SortSt Sem α}
  (anti:∀ i j,i<=j->j<n->B j=true->B i=true) {lo hi:Nat} (g1:lo<=hi) (g2:hi<=n) (g3:∀ i,i<lo->B i=true) (g4:∀ i,hi<=i->i<n->B i=false)
  (hf0:∀ x lo hi,lo>=hi->f x (none,lo,hi)=pure (.done (none,lo,hi)))
  (hf1:∀ x lo hi,lo<hi->hi<=n->∀ Q:ForInStep (Option (Option Nat)×Nat×Nat)->SortSt->Prop,Q (.yield (if B (lo+(hi-lo) / 2) then(none,lo+(hi-lo) / 2+1,hi) else(none,lo,lo+(hi-lo) / 2))) st->wpS M A E s (f x (none,lo,hi)) Q st)
  (hg:∀ k,k<=n->(∀ i,i<k->B i=true)->(∀ i,k<=i->i<n->B i=false)->wpS M A E s (g (none,k,k)) Q st):wpS M A E s (forIn [:n] (none,lo,hi) f >>= g) Q st:=by
 refine A0K (A31 (A27 (I:=λi c st'=>st'=st/\∃ lo hi,c=(none,lo,hi)/\lo<=hi/\hi<=n/\hi-lo<=n-i/\(∀ i,i<lo->B i=true)/\(∀ i,hi<=i->i<n->B i=false))
  (Q:=λc st'=>st'=st/\∃ k,c=(none,k,k)/\k<=n/\(∀ i,i<k->B i=true)/\(∀ i,k<=i->i<n->B i=false))
  (λi c st' _ hi hI=>?_) (λc st' hI=>?_) ⟨rfl,lo,hi,rfl,g1,g2,by omega,g3,g4⟩) λc st' hI=>?_)
 . obtain⟨rfl,lo,hi',rfl,q1,q2,q3,q4,q5⟩:=hI
   by_cases hc:lo>=hi'
   . rw[hf0 _ _ _ hc];have:lo=hi':=by omega
     subst this;exact A0Y ⟨rfl,lo,rfl,q2,q4,q5⟩
   refine hf1 _ _ _ ∅ q2 _ ?_
   cases hm:B (lo+(hi'-lo) / 2) with
   |true=>exact⟨rfl,_,_,rfl,by omega,q2,by omega,λj hj=>anti j _ ∅ ∅ hm,q5⟩
   |false=>
     refine⟨rfl,_,_,rfl,by omega,by omega,by omega,q4,λj h1 h2=>?_⟩
     cases hj:B j with
     |false=>rfl
     |true=>rw[anti _ j h1 h2 hj] at hm;cases hm
 . obtain⟨rfl,lo,hi',rfl,q1,q2,q3,q4,q5⟩:=hI;have:lo=hi':=by omega
   subst this;exact⟨rfl,lo,rfl,q2,q4,q5⟩
 obtain⟨rfl,k,rfl,q1,q2,q3⟩:=hI;exact hg k q1 q2 q3
theorem au3 {left:Bool}{key:Keyed}{arr:Array Keyed}{base n hint:Nat}{B:Nat->Bool}{st:SortSt}{Q:Option Nat->SortSt->Prop}(hn:hint<n)
  (anti:∀ i j,i<=j->j<n->B j=true->B i=true) (hbe:∀ i,i<n->∀ Q:Option Bool->SortSt->Prop,Q (some (B i)) st->wpS M A E s (bey left key arr (base+i)) Q st)
  (h:∀ k,k<=n->(∀ i,i<k->B i=true)->(∀ i,k<=i->i<n->B i=false)->Q (some k) st):wpS M A E s (aG7 left key arr base n hint) Q st:=by
 unfold aG7
 have no:∀ {i j},i<=j->j<n->B i=false->B j=false:=fun {i j} h1 h2 h3=>by
  cases hj:B j with
  |false=>rfl
  |true=>rw[anti i j h1 h2 hj] at h3;cases h3
 refine A0K (hbe hint hn _ ?_)
 cases hB:B hint with
 |true=>
   dsimp only;rw[A10 rfl]
   refine A0K (A31 (A27 (I:=λi c st'=>st'=st/\∃ la o,c=(none,la,o)/\la<o/\i<o/\hint+la<n/\B (hint+la)=true)
    (Q:=λc st'=>st'=st/\∃ la o,c=(none,la,o)/\la<o/\hint+la<n/\B (hint+la)=true/\(hint+o<n->B (hint+o)=false))
    (λi c st' _ hi hI=>?_) (λc st' hI=>?_) ⟨rfl,0,1,rfl,by omega,by omega,hn,hB⟩) λc st' hI=>?_)
   . obtain⟨rfl,la,o,rfl,q1,q2,q3,q4⟩:=hI;dsimp only
     by_cases hc:o>=n-hint
     . rw[A10 hc];exact A0Y ⟨rfl,la,o,rfl,q1,q3,q4,λh=>by omega⟩
     rw[A0W hc];refine A0K (hbe (hint+o) ∅ _ ?_)
     cases hm:B (hint+o) with
     |true=>exact A0Y ⟨rfl,_,_,rfl,by omega,by omega,by omega,hm⟩
     |false=>exact A0Y ⟨rfl,la,o,rfl,q1,q3,q4,λ_=>hm⟩
   . obtain⟨rfl,la,o,rfl,q1,q2,q3,q4⟩:=hI;exact⟨rfl,la,o,rfl,q1,q3,q4,λh=>by omega⟩
   obtain⟨rfl,la,o,rfl,q1,q3,q4,q5⟩:=hI;dsimp only;obtain⟨lo,hlo⟩:∃ lo,lo=hint+la+1:=⟨_,rfl⟩;obtain⟨hi,hhi⟩:∃ hi,hi=hint+min o (n-hint):=⟨_,rfl⟩;rw[<- hlo,<- hhi];have g1:lo<=hi:=by omega
   have g2:hi<=n:=by omega
   have g3:∀ i,i<lo->B i=true:=λi hi=>anti i _ ∅ q3 q4;have g4:∀ i,hi<=i->i<n->B i=false:=λi h1 h2=>no (i:=hint+o) ∅ h2 (q5 ∅);refine a65 anti g1 g2 g3 g4 (λx lo hi hc=>A10 hc) (λx lo hi hc hn' Q k=>?_) λk q1 q2 q3=>A0Y (h k q1 q2 q3);dsimp only;rw[A0W ∅];refine A0K (hbe (lo+(hi-lo) / 2) ∅ _ ?_)
   cases hm:B (lo+(hi-lo) / 2)<;>(rw[hm] at k;exact A0Y k)
 |false=>
   dsimp only;rw[A0W nofun]
   refine A0K (A31 (A27 (I:=λi c st'=>st'=st/\∃ la o,c=(none,la,o)/\la<o/\i<o/\la<=hint/\B (hint-la)=false)
    (Q:=λc st'=>st'=st/\∃ la o,c=(none,la,o)/\la<o/\la<=hint/\B (hint-la)=false/\(o<=hint->B (hint-o)=true))
    (λi c st' _ hi hI=>?_) (λc st' hI=>?_) ⟨rfl,0,1,rfl,by omega,by omega,by omega,hB⟩) λc st' hI=>?_)
   . obtain⟨rfl,la,o,rfl,q1,q2,q3,q4⟩:=hI;dsimp only
     by_cases hc:o>=hint+1
     . rw[A10 hc];exact A0Y ⟨rfl,la,o,rfl,q1,q3,q4,λh=>by omega⟩
     rw[A0W hc];refine A0K (hbe (hint-o) ∅ _ ?_)
     cases hm:B (hint-o) with
     |true=>exact A0Y ⟨rfl,la,o,rfl,q1,q3,q4,λ_=>hm⟩
     |false=>exact A0Y ⟨rfl,_,_,rfl,by omega,by omega,by omega,hm⟩
   . obtain⟨rfl,la,o,rfl,q1,q2,q3,q4⟩:=hI;exact⟨rfl,la,o,rfl,q1,q3,q4,λh=>by omega⟩
   obtain⟨rfl,la,o,rfl,q1,q3,q4,q5⟩:=hI;dsimp only;obtain⟨lo,hlo⟩:∃ lo,lo=hint+1-min o (hint+1):=⟨_,rfl⟩;obtain⟨hi,hhi⟩:∃ hi,hi=hint-la:=⟨_,rfl⟩;rw[<- hlo,<- hhi];have g1:lo<=hi:=by omega
   have g2:hi<=n:=by omega
   have g3:∀ i,i<lo->B i=true:=λi hi=>anti i (hint-o) ∅ ∅ (q5 ∅);have g4:∀ i,hi<=i->i<n->B i=false:=λi h1 h2=>no h1 h2 (by rw[hhi];exact q4);refine a65 anti g1 g2 g3 g4 (λx lo hi hc=>A10 hc) (λx lo hi hc hn' Q k=>?_) λk q1 q2 q3=>A0Y (h k q1 q2 q3);dsimp only;rw[A0W ∅];refine A0K (hbe (lo+(hi-lo) / 2) ∅ _ ?_)
   cases hm:B (lo+(hi-lo) / 2)<;>(rw[hm] at k;exact A0Y k)
end
structure Rkd (M:Model)(A:Around)(s:Shared)(kd:SortKind)(rk:Value->Nat)(V:Value->Prop):Prop where
 lt:∀ x y,V x->V y->∀(Q:Bool->Shared->Prop) (E:Value->Shared->Prop),Q (decide (rk x<rk y)) s->wpAny M A (keyLt' kd x y) Q E s
def upL (rk:Value->Nat)(L:List Keyed):Prop:=L.Pairwise λx y=>rk x.1<=rk y.1
section
variable {M:Model}{A:Around}{E:Value->Shared->Prop}{s:Shared}{kd:SortKind}{rk:Value->Nat}{V:Value->Prop}
theorem Yu (O:Rkd M A s kd rk V){st:SortSt}(hk:kindOf st=kd){x y:Keyed}(hx:V x.1)(hy:V y.1){Q:Option Bool->SortSt->Prop}(h:Q (some (decide (rk x.1<rk y.1))) st):wpS M A E s (lt' x y) Q st:=by rw[lt'_eq];refine A0K (A5G ?_);rw[hk];refine A0K (wpS_lift (wpAny_attempt (O.lt _ _ hx hy _ _ ⟨rfl,?_⟩)));exact A0Y h
theorem Bl {arr:Array Keyed}{i:Nat}{x:Keyed}(hx:arr[i]? = some x){st:SortSt}{Q:Keyed->SortSt->Prop}(h:Q x st):wpS M A E s (elem' arr i) Q st:=by rw[elem'_eq,hx];exact A0Y h
def bB (rk:Value->Nat)(left:Bool)(key x:Keyed):Bool:=if left then decide (rk x.1<rk key.1) else decide (rk x.1<=rk key.1)
theorem aD8 (O:Rkd M A s kd rk V){st:SortSt}(hk:kindOf st=kd){left:Bool}{key x:Keyed}{arr:Array Keyed}{p:Nat}(hp:arr[p]? = some x)(hx:V x.1)(hy:V key.1){Q:Option Bool->SortSt->Prop}(h:Q (some (bB rk left key x)) st):wpS M A E s (bey left key arr p) Q st:=by
 unfold bey;refine A0K (Bl hp ?_)
 cases left with
 |true=>exact Yu O hk hx hy h
 |false=>
   refine A0K (Yu O hk hy hx (A0Y ?_))
   have e:(!decide (rk key.1<rk x.1))=decide (rk x.1<=rk key.1):=by
    by_cases c:rk key.1<rk x.1
    . rw[A0H c,A11 ∅];rfl
    rw[A11 c,A0H ∅];rfl
   show Q (some (!decide (rk key.1<rk x.1))) st;rw[e];exact h
theorem Jh (O:Rkd M A s kd rk V){st:SortSt}(hk:kindOf st=kd){left:Bool}{key:Keyed}{arr:Array Keyed}{base n hint:Nat}{L:List Keyed}(hL:L=(arr.toList.drop base).take n)(hl:L.length=n)(hs:upL rk L)(hn:hint<n)(hV:∀ x∈L,V x.1)(hy:V key.1){Q:Option Nat->SortSt->Prop}
  (h:∀ c d,L=c++d->(∀ x∈c,bB rk left key x=true)->(∀ x∈d,bB rk left key x=false)->Q (some c.length) st):wpS M A E s (aG7 left key arr base n hint) Q st:=by
 have at_:∀ i (hi:i<n),arr[base+i]? = some (L[i]'∅):=λi hi=>by have:L[i]? = some (L[i]'∅):=A03 _;rw[<- this,hL,A2D hi,A3Y,A0P]
 have mono:∀ i j (hi:i<=j) (hj:j<L.length),rk (L[i]'∅).1<=rk (L[j]).1:=λi j hij hj=>by
  rcases Nat.lt_or_eq_of_le hij with h|h
  . exact A28.mp hs i j ∅ hj h
  subst h;exact A05 _
 refine au3 (B:=λi=>if hi:i<L.length then bB rk left key L[i] else false) hn (λi j hij hj hb=>?_) (λi hi Q k=>?_) λk hk1 h1 h2=>?_
 . rw [dif_pos ∅] at hb ⊢;have:=mono i j hij ∅;unfold bB at hb ⊢
   cases left with
   |true=>simp only[if_true,decide_eq_true_eq] at hb ⊢;omega
   |false=>simp only[Bool.false_eq_true,if_false,decide_eq_true_eq] at hb ⊢;omega
 . rw[dif_pos ∅] at k;exact aD8 O hk (at_ i hi) (hV _ (A2K _)) hy k
 have:=h (L.take k) (L.drop k) (A2O k L).symm (λx hx=>?_) (λx hx=>?_)
 . rwa[A0J,A3J ∅] at this
 . obtain⟨i,hi,rfl⟩:=A2W hx;rw[A0J] at hi;have:=h1 i ∅;rw[dif_pos ∅] at this;rw[List.getElem_take];exact this
 obtain⟨i,hi,rfl⟩:=A2W hx;rw[A1G] at hi;have:=h2 (k+i) ∅ ∅;rw[dif_pos ∅] at this;rw[List.getElem_drop];exact this
structure Mg (rk:Value->Nat)(L O A B:List Keyed):Prop where
 pm:(O++(A++B)).Perm L
 up:upL rk O
 le:∀ x∈O,∀ y∈A++B,rk x.1<=rk y.1
theorem Mg.left {L O A B c:List Keyed}(h:Mg rk L O (c++A) B)(hc:upL rk c)(hl:∀ x∈c,∀ y∈A++B,rk x.1<=rk y.1):Mg rk L (O++c) A B:=by
 refine⟨?_,List.pairwise_append.mpr ⟨h.up,hc,λx hx y hy=>h.le x hx y (by simp[hy])⟩,λx hx y hy=>?_⟩
 . have:=h.pm;rwa[A17,<- A17 O] at this
 rcases A0C.mp hx with g|g
 . exact h.le x g y (by rcases List.mem_append.mp hy with q|q<;>simp[q])
 exact hl x g y hy
theorem Mg.flip {L O A B:List Keyed}(h:Mg rk L O A B):Mg rk L O B A:=
 ⟨(List.Perm.append_left O List.perm_append_comm).trans h.pm,h.up,λx hx y hy=>h.le x hx y (by rcases List.mem_append.mp hy with q|q<;>simp[q])⟩
theorem Mg.right {L O A B c:List Keyed}(h:Mg rk L O A (c++B))(hc:upL rk c)(hl:∀ x∈c,∀ y∈A++B,rk x.1<=rk y.1):Mg rk L (O++c) A B:=
 (h.flip.left hc λx hx y hy=>hl x hx y (by rcases List.mem_append.mp hy with q|q<;>simp[q])).flip
def Mgd (rk:Value->Nat)(L O:List Keyed):Prop:=O.Perm L/\upL rk O
theorem Mg.fin {L O A:List Keyed}(h:Mg rk L O A [])(ha:upL rk A):Mgd rk L (O++A):=by have:=h.pm;rw[A19] at this;exact⟨this,List.pairwise_append.mpr ⟨h.up,ha,λx hx y hy=>h.le x hx y (by simp[hy])⟩⟩
theorem Ag {α:Type}{c:Prop}[Decidable c]{t e:StateT SortSt Sem α}{Q:α->SortSt->Prop}{st:SortSt}(h1:c->wpS M A E s t Q st)(h2:¬ c->wpS M A E s e Q st):wpS M A E s (if c then t else e) Q st:=by
 by_cases h:c
 . rw[A10 h];exact h1 h
 rw[A0W h];exact h2 h
theorem Mc (a:Array Keyed)(i:Nat):(a.extract i).toList=a.toList.drop i:=by rw[A4G,A3O];exact A21 (by rw[A1G,A1B];omega)
theorem Qv (a:Array Keyed)(i k:Nat):(a.extract i (i+k)).toList=(a.toList.drop i).take k:=by rw[A4G,A3O,A3Z]
theorem L9 {a:Array Keyed}{i:Nat}{x:Keyed}(h:a[i]? = some x):a.toList.drop i=x :: a.toList.drop (i+1):=by
 have h':a.toList[i]? = some x:=by rw[A0P];exact h
 obtain⟨hi,e⟩:=A01.mp h';rw[<- e,A3F]
def Kp4 (st st':SortSt):Prop:=kindOf st'=kindOf st/\arrOf st'=arrOf st/\pendingOf st'=pendingOf st/\failedOf st'=failedOf st
theorem Kp4.refl (st:SortSt):Kp4 st st:=⟨rfl,rfl,rfl,rfl⟩
structure Two2 (rk:Value->Nat)(V:Value->Prop)(a b:Array Keyed):Prop where
 ua:upL rk a.toList
 ub:upL rk b.toList
 va:∀ x∈a.toList,V x.1
 vb:∀ x∈b.toList,V x.1
 na:0<a.size
 nb:0<b.size
 fst:∀ x∈a.toList,∀ y,b[0]? = some y->rk y.1<rk x.1
 lst:∀ y∈b.toList,∀ x,a[a.size-1]? = some x->rk y.1<rk x.1
def MS (rk:Value->Nat)(a b:Array Keyed)(n:Nat)(out:Array Keyed)(ia ib:Nat):Prop:=Mg rk (a.toList++b.toList) out.toList (a.toList.drop ia) (b.toList.drop ib)/\ia+1<a.size/\ib<b.size/\n<=ia+ib
section
variable {a b out:Array Keyed}{ia ib n:Nat}{x y:Keyed}
theorem upL.drop {L:List Keyed}(h:upL rk L)(i:Nat):upL rk (L.drop i):=List.Pairwise.sublist (List.drop_sublist _ _) h
theorem ap4 {L:List Keyed}{x:Keyed}(h:upL rk (x :: L)):∀ z∈x :: L,rk x.1<=rk z.1:=λz hz=>by
 rcases A0N.mp hz with rfl|hz
 . exact A05 _
 exact(A1J.mp h).1 z hz
theorem Two2.hdA (T:Two2 rk V a b)(h:a[ia]? = some x):∀ z∈a.toList.drop ia,rk x.1<=rk z.1:=by have:=T.ua.drop ia;rw[L9 h] at this ⊢;exact ap4 this
theorem Two2.hdB (T:Two2 rk V a b)(h:b[ib]? = some y):∀ z∈b.toList.drop ib,rk y.1<=rk z.1:=by have:=T.ub.drop ib;rw[L9 h] at this ⊢;exact ap4 this
theorem Kg {L:List Keyed}{i:Nat}:∀ z∈L.drop (i+1),z∈L.drop i:=λz hz=>by rw[<- A33] at hz;exact A2R hz
theorem Two2.tkB (T:Two2 rk V a b)(m:Mg rk (a.toList++b.toList) out.toList (a.toList.drop ia) (b.toList.drop ib))(hx:a[ia]? = some x)(hy:b[ib]? = some y)(h:rk y.1<=rk x.1):Mg rk (a.toList++b.toList) (out.push y).toList (a.toList.drop ia) (b.toList.drop (ib+1)):=by
 rw[Array.toList_push];refine Mg.right (by rw[A5H,<- L9 hy];exact m) (A26 _ _) λu hu z hz=>?_;rw[A0X.mp hu];rcases A0C.mp hz with q|q
 . exact A0B h (T.hdA hx z q)
 exact T.hdB hy z (Kg z q)
theorem Two2.tkA (T:Two2 rk V a b)(m:Mg rk (a.toList++b.toList) out.toList (a.toList.drop ia) (b.toList.drop ib))(hx:a[ia]? = some x)(hy:∀ z∈b.toList.drop ib,rk x.1<=rk z.1):Mg rk (a.toList++b.toList) (out.push x).toList (a.toList.drop (ia+1)) (b.toList.drop ib):=by
 rw[Array.toList_push];refine Mg.left (by rw[A5H,<- L9 hx];exact m) (A26 _ _) λu hu z hz=>?_;rw[A0X.mp hu];rcases A0C.mp hz with q|q
 . exact T.hdA hx z (Kg z q)
 exact hy z q
theorem Two2.dn (T:Two2 rk V a b)(m:Mg rk (a.toList++b.toList) out.toList (a.toList.drop ia) (b.toList.drop ib))(h:ib=b.size):Mgd rk (a.toList++b.toList) (out++a.extract ia++b.extract ib).toList:=by have e:b.toList.drop ib=[]:=A55 (by rw[A1B,h];exact A05 _);rw[e] at m;rw[A24,A24,Mc,Mc,e,A19];exact m.fin (T.ua.drop ia)
theorem Two2.la (T:Two2 rk V a b)(m:Mg rk (a.toList++b.toList) out.toList (a.toList.drop ia) (b.toList.drop ib))(h:ia+1=a.size):Mgd rk (a.toList++b.toList) (out++b.extract ib++a.extract ia).toList:=by
 have hx:a[ia]? = some a[ia]:=A1S ∅
 have e:a.toList.drop ia=[a[ia]]:=by rw[L9 hx,A55 (by rw[A1B];omega)]
 rw[A24,A24,Mc,Mc,e];rw[e] at m;refine(Mg.right (B:=[]) (c:=b.toList.drop ib) (by rw[A19];exact m) (T.ub.drop ib) λu hu z hz=>?_).fin (A26 _ _);rw[A19] at hz;rw[A0X.mp hz];exact A1O (T.lst u (A2R hu) _ (by rw[show a.size-1=ia by omega];exact hx))
end
def aH1:Nat->StateT SortSt Sem Unit:=sortPriv% PySem.Builtin.setMinGallop
theorem Qo {g:Nat}{st st':SortSt}(kp:Kp4 st st'){Q:Unit->SortSt->Prop}(h:∀ st2,Kp4 st st2->Q () st2):wpS M A E s (aH1 g) Q st':=A5L (h _ ⟨kp.1,kp.2.1,kp.2.2.1,kp.2.2.2⟩)
abbrev GSt:Type:=Option (Array Keyed)×Array Keyed×Nat×Nat×Nat×Nat×Nat
def StP (rk:Value->Nat)(P:Nat->Array Keyed->Nat->Nat->Prop)(L:List Keyed)(n1 n2:Nat)(st:SortSt):ForInStep GSt->SortSt->Prop
 |.done c,st'=>Kp4 st st'/\((∃ r,c.1=some r/\Mgd rk L r.toList)\/∃ out ia ib g p q,c=(none,out,ia,ib,g,p,q)/\P n1 out ia ib)
 |.yield c,st'=>Kp4 st st'/\∃ out ia ib g p q,c=(none,out,ia,ib,g,p,q)/\P n2 out ia ib
theorem as7 (O:Rkd M A s kd rk V){st:SortSt}(hk:kindOf st=kd){a b:Array Keyed}(T:Two2 rk V a b){Q:Array Keyed->SortSt->Prop}(k:∀ r st',Mgd rk (a.toList++b.toList) r.toList->Kp4 st st'->Q r st'):wpS M A E s (aL0 a b) Q st:=by
 have Va:∀ {i:Nat} {x:Keyed},a[i]? = some x->V x.1:=fun {i x} h=>T.va x (by rw[<- A0P] at h;exact A02 h);have Vb:∀ {i:Nat} {x:Keyed},b[i]? = some x->V x.1:=fun {i x} h=>T.vb x (by rw[<- A0P] at h;exact A02 h);have atA:∀ {i:Nat},i<a.size->∃ x,a[i]? = some x:=fun {i} h=>⟨_,A1S h⟩;have atB:∀ {i:Nat},i<b.size->∃ x,b[i]? = some x:=fun {i} h=>⟨_,A1S h⟩;obtain⟨y0,hy0⟩:=atB T.nb;obtain⟨x0,hx0⟩:=atA T.na;have m0:Mg rk (a.toList++b.toList) (#[]:Array Keyed).toList (a.toList.drop 0) (b.toList.drop 0):=⟨A4A _,A2L,λx hx=>(nomatch hx)⟩;have m1:=T.tkB m0 hx0 hy0 (A1O (T.fst x0 (by rw[<- A0P] at hx0;exact A02 hx0) y0 hy0));unfold aL0;refine A0K ?_;refine wpS_lift (A46 ⟨rfl,?_⟩)
 extract_lets -merge total done last
 refine A0K (Bl hy0 ?_);refine Ag (λhc=>?_) (λhc=>?_)
 . exact A0Y (k _ st (T.dn m1 (A16.mp hc)) (.refl _))
 refine Ag (λhc2=>?_) (λhc2=>?_)
 . exact A0Y (k _ st (T.la m1 (A16.mp hc2)) (.refl _))
 have hb1:1<b.size:=by have:=T.nb;have:¬ (1=b.size):=λe=>hc (A16.mpr e);omega
 have ha1:0+1<a.size:=by have:=T.na;have:¬ (0+1=a.size):=λe=>hc2 (A16.mpr e);omega
 refine A0K (A5G ?_)
 refine A0K (A31 (A27 (I:=λj c st'=>Kp4 st st'/\∃ out ia ib g,c=(none,out,ia,ib,g)/\MS rk a b j out ia ib)
  (Q:=λc st'=>Kp4 st st'/\∃ r,c.1=some r/\Mgd rk (a.toList++b.toList) r.toList)
  (λj c st1 _ hj hI=>?_) (λc st1 hI=>?_) ⟨.refl _,_,0,1,_,rfl,m1,ha1,hb1,by omega⟩) λc st1 hI=>?_)
 . obtain⟨kp1,out,ia,ib,g,rfl,ms⟩:=hI;have hk1:kindOf st1=kd:=kp1.1.trans hk
   refine A0K (A31 (A27 (I:=λi c st'=>st'=st1/\∃ out ia ib p q,c=(none,out,ia,ib,p,q)/\MS rk a b (j+i) out ia ib)
    (Q:=λc st'=>st'=st1/\((∃ r,c.1=some r/\Mgd rk (a.toList++b.toList) r.toList)\/∃ out ia ib p q,c=(none,out,ia,ib,p,q)/\MS rk a b (j+1) out ia ib))
    (λi c st' _ hi hI=>?_) (λc st' hI=>?_) ⟨rfl,out,ia,ib,0,0,rfl,ms⟩) λc st' hI=>?_)
   . obtain⟨rfl,out,ia,ib,p,q,rfl,mg,h1,h2,h3⟩:=hI;obtain⟨x,hx⟩:=atA (i:=ia) ∅;obtain⟨y,hy⟩:=atB h2;refine A0K (Bl hy (A0K (Bl hx (A0K (Yu O hk1 (Vb hy) (Va hx) ?_)))));refine Ag (λhc=>?_) (λhc=>?_)
     . have m2:=T.tkB mg hx hy (A1O (A1E hc));refine A0K (Bl hy ?_);refine Ag (λhb=>?_) (λhb=>?_)
       . exact A0Y ⟨rfl,.inl ⟨_,rfl,T.dn m2 (A16.mp hb)⟩⟩
       have hb':ib+1<b.size:=by have:¬ (ib+1=b.size):=λe=>hb (A16.mpr e);omega
       refine Ag (λ_=>?_) (λ_=>?_)
       . exact A0Y ⟨rfl,.inr ⟨_,_,_,_,_,rfl,m2,h1,hb',show j+1<=ia+(ib+1) by omega⟩⟩
       exact A0Y ⟨rfl,_,_,_,_,_,rfl,m2,h1,hb',show j+(i+1)<=ia+(ib+1) by omega⟩
     have hle:rk x.1<=rk y.1:=by have:¬ rk y.1<rk x.1:=λh=>hc (A0H h);omega
     have m2:=T.tkA mg hx λz hz=>A0B hle (T.hdB hy z hz);refine A0K (Bl hx ?_);refine Ag (λha=>?_) (λha=>?_)
     . exact A0Y ⟨rfl,.inl ⟨_,rfl,T.la m2 (A16.mp ha)⟩⟩
     have ha':ia+1+1<a.size:=by have:¬ (ia+1+1=a.size):=λe=>ha (A16.mpr e);omega
     refine Ag (λ_=>?_) (λ_=>?_)
     . exact A0Y ⟨rfl,.inr ⟨_,_,_,_,_,rfl,m2,ha',h2,show j+1<=ia+1+ib by omega⟩⟩
     exact A0Y ⟨rfl,_,_,_,_,_,rfl,m2,ha',h2,show j+(i+1)<=ia+1+ib by omega⟩
   . obtain⟨_,out,ia,ib,p,q,rfl,_,h1,h2,h3⟩:=hI;omega
   obtain⟨rfl,hI⟩:=hI;rcases hI with ⟨r,hr,hm⟩|⟨out,ia,ib,p,q,rfl,ms⟩
   . obtain⟨c1,c2⟩:=c;dsimp only at hr;subst hr;exact A0Y ⟨kp1,r,rfl,hm⟩
   refine A0K ?_;refine wpS_lift (A46 ⟨rfl,?_⟩)
   refine A0K (A31 (A27 (I:=λi c st'=>Kp4 st st'/\∃ out ia ib g p q,c=(none,out,ia,ib,g,p,q)/\MS rk a b (j+1+i) out ia ib)
    (Q:=λc st'=>Kp4 st st'/\((∃ r,c.1=some r/\Mgd rk (a.toList++b.toList) r.toList)\/∃ out ia ib g p q,c=(none,out,ia,ib,g,p,q)/\MS rk a b (j+1) out ia ib))
    (λi c st' _ hi hI=>?_) (λc st' hI=>?_) ⟨kp1,out,ia,ib,_,_,_,rfl,ms⟩) λc st' hI=>?_)
   . obtain⟨kp,out,ia,ib,g,p,q,rfl,mg,h1,h2,h3⟩:=hI;obtain⟨y,hy⟩:=atB h2;refine A31 (Q:=StP rk (MS rk a b) (a.toList++b.toList) (j+1) (j+1+(i+1)) st) ?_ λr st' h=>by cases r<;>exact h
     extract_lets -merge s1 o1 s2 ia1 s3 ib1 s4 mg1 s5 ac bc ib2 jp
     have jpm:∀ g',wpS M A E s (jp () g') (StP rk (MS rk a b) (a.toList++b.toList) (j+1) (j+1+(i+1)) st) st':=λg'=>by
      refine A0K (Qo kp λst2 kp2=>?_);have hk2:kindOf st2=kd:=kp2.1.trans hk;refine A0K (Bl hy ?_);have hlA:(a.toList.drop ia).length=a.size-ia:=by rw[A1G,A1B]
      refine A0K (Jh O hk2 (L:=a.toList.drop ia) (show _=(a.toList.drop ia).take (a.size-ia) from(A21 ∅).symm) hlA (T.ua.drop ia) ∅ (λx hx=>T.va x (A2R hx)) (Vb hy) λc d hcd hc hd=>?_);have hc':∀ x∈c,rk x.1<=rk y.1:=λx hx=>A1E (hc x hx)
      have hd':∀ x∈d,rk y.1<rk x.1:=λx hx=>by have:¬ rk x.1<=rk y.1:=A2J (hd x hx);omega
      have hcl:c.length+d.length=a.size-ia:=by rw[<- hlA,hcd,A04]
      have hex:(a.extract ia (ia+c.length)).toList=c:=by rw[Qv,hcd,A2T]
      have hdr:a.toList.drop (ia+c.length)=d:=by rw[<- A33,hcd,A20]
      have hua:upL rk (c++d):=hcd ▸ T.ua.drop ia
      have mA:Mg rk (a.toList++b.toList) (out++a.extract ia (ia+c.length)).toList (a.toList.drop (ia+c.length)) (b.toList.drop ib):=by
       rw[A24,hex,hdr];refine Mg.left (by rw[<- hcd];exact mg) (A1A.mp hua).1 λx hx z hz=>?_;rcases A0C.mp hz with u|u
       . exact(A1A.mp hua).2.2 x hx z u
       exact A0B (hc' x hx) (T.hdB hy z u)
      have hdn:0<d.length:=by
       rcases A4Q d.length with e|e
       . exfalso;obtain⟨z,hz⟩:=atA (i:=a.size-1) ∅
         have:z∈c:=by
          have h0:z∈a.toList.drop ia:=by rw[<- A0P] at hz;refine A02 (i:=a.size-1-ia) ?_;rw[A3Y,show ia+(a.size-1-ia)=a.size-1 by omega];exact hz
          rw[hcd,A0D.mp e,A19] at h0;exact h0
         have:=hc' z this;have:=T.lst y (by rw[<- A0P] at hy;exact A02 hy) z hz;omega
       exact e
      dsimp -zeta only
      extract_lets -merge ac2 jp2
      have jp2_ok:∀ o3 i3,Mg rk (a.toList++b.toList) o3.toList (a.toList.drop i3) (b.toList.drop ib)->i3+1<a.size->ia<=i3->(∀ z∈a.toList.drop i3,rk y.1<rk z.1)->wpS M A E s (jp2 () o3 i3) (StP rk (MS rk a b) (a.toList++b.toList) (j+1) (j+1+(i+1)) st) st2:=λo3 i3 m3 h4 h5 h6=>by
       obtain⟨x,hx⟩:=atA (i:=i3) ∅;have hxi:x∈a.toList.drop i3:=by rw[L9 hx];exact A0E
       have m4:=T.tkB m3 hx hy (A1O (h6 x hxi));refine A0K (Bl hy ?_);refine Ag (λhb=>?_) (λhb=>?_)
       . exact A0Y ⟨kp2,.inl ⟨_,rfl,T.dn m4 (A16.mp hb)⟩⟩
       have hb':ib+1<b.size:=by have:¬ (ib+1=b.size):=λe=>hb (A16.mpr e);omega
       refine A0K (Bl hx ?_);have hlB:(b.toList.drop (ib+1)).length=b.size-(ib+1):=by rw[A1G,A1B]
       refine A0K (Jh O hk2 (L:=b.toList.drop (ib+1)) (show _=(b.toList.drop (ib+1)).take (b.size-(ib+1)) from(A21 ∅).symm) hlB (T.ub.drop _) (show 0<b.size-(ib+1) by omega) (λx hx=>T.vb x (A2R hx)) (Va hx) λc2 d2 hcd2 hc2 hd2=>?_);have hc2':∀ z∈c2,rk z.1<rk x.1:=λz hz=>A1E (hc2 z hz)
       have hd2':∀ z∈d2,rk x.1<=rk z.1:=λz hz=>by have:¬ rk z.1<rk x.1:=A2J (hd2 z hz);omega
       have hcl2:c2.length+d2.length=b.size-(ib+1):=by rw[<- hlB,hcd2,A04]
       have hub:upL rk (c2++d2):=hcd2 ▸ T.ub.drop (ib+1);have hdr2:b.toList.drop (ib+1+c2.length)=d2:=by rw[<- A33,hcd2,A20]
       have mB:Mg rk (a.toList++b.toList) (o3.push y++b.extract (ib+1) (ib+1+c2.length)).toList (a.toList.drop i3) (b.toList.drop (ib+1+c2.length)):=by
        rw[A24,Qv,hcd2,A2T,hdr2];refine Mg.right (by rw[<- hcd2];exact m4) (A1A.mp hub).1 λz hz u hu=>?_;rcases A0C.mp hu with w|w
        . exact A0B (A1O (hc2' z hz)) (T.hdA hx u w)
        exact(A1A.mp hub).2.2 z hz u w
       dsimp -zeta only
       extract_lets -merge bc2 ia3 jp3
       have jp3_ok:∀ o4 i4,Mg rk (a.toList++b.toList) o4.toList (a.toList.drop i3) (b.toList.drop i4)->i4<b.size->ib+1<=i4->(∀ z∈b.toList.drop i4,rk x.1<=rk z.1)->wpS M A E s (jp3 () o4 i4) (StP rk (MS rk a b) (a.toList++b.toList) (j+1) (j+1+(i+1)) st) st2:=λo4 i4 m5 g1 g2 g3=>by
        have m6:=T.tkA m5 hx g3;refine A0K (Bl hx ?_);refine Ag (λhl=>?_) (λhl=>?_)
        . exact A0Y ⟨kp2,.inl ⟨_,rfl,T.la m6 (A16.mp hl)⟩⟩
        have hl':i3+1+1<a.size:=by have:¬ (i3+1+1=a.size):=λe=>hl (A16.mpr e);omega
        refine Ag (λ_=>?_) (λ_=>?_)
        . exact A0Y ⟨kp2,.inr ⟨_,_,_,_,_,_,rfl,m6,hl',g1,show j+1<=i3+1+i4 by omega⟩⟩
        exact A0Y ⟨kp2,_,_,_,_,_,_,rfl,m6,hl',g1,show j+1+(i+1)<=i3+1+i4 by omega⟩
       refine Ag (λhk0=>?_) (λhk0=>?_)
       . refine Ag (λhe=>?_) (λhe=>?_)
         . exact A0Y ⟨kp2,.inl ⟨_,rfl,T.dn mB (A16.mp he)⟩⟩
         have he':¬ (ib+1+c2.length=b.size):=λe=>he (A16.mpr e);exact jp3_ok _ _ mB (show ib+1+c2.length<b.size by omega) (show ib+1<=ib+1+c2.length by omega) (show ∀ z∈b.toList.drop (ib+1+c2.length),rk x.1<=rk z.1 by rw[hdr2];exact hd2')
       have h0:c2=[]:=A0D.mp ∅;refine jp3_ok _ _ m4 hb' (A05 _) ?_;show ∀ z∈b.toList.drop (ib+1),rk x.1<=rk z.1;rw[hcd2,h0];exact hd2'
      refine Ag (λhk0=>?_) (λhk0=>?_)
      . refine Ag (λhl=>?_) (λhl=>?_)
        . exact A0Y ⟨kp2,.inl ⟨_,rfl,T.la mA (A16.mp hl)⟩⟩
        have hl':¬ (ia+c.length+1=a.size):=λe=>hl (A16.mpr e);refine Ag (λhe=>?_) (λhe=>?_)
        . have he':ia+c.length=a.size:=A16.mp he;omega
        exact jp2_ok _ _ mA (show ia+c.length+1<a.size by omega) (show ia<=ia+c.length by omega) (show ∀ z∈a.toList.drop (ia+c.length),rk y.1<rk z.1 by rw[hdr];exact hd')
      have h0:c=[]:=A0D.mp ∅;refine jp2_ok _ _ mg h1 (A05 _) ?_;rw[hcd,h0];exact hd'
     exact Ag (λ_=>jpm _) (λ_=>jpm _)
   . obtain⟨_,out,ia,ib,g,p,q,rfl,_,h1,h2,h3⟩:=hI;omega
   obtain⟨kp,hI⟩:=hI;rcases hI with ⟨r,hr,hm⟩|⟨out,ia,ib,g,p,q,rfl,ms⟩
   . obtain⟨c1,c2⟩:=c;dsimp only at hr;subst hr;exact A0Y ⟨kp,r,rfl,hm⟩
   refine A0K (Qo kp λst2 kp2=>?_);exact A0Y ⟨kp2,out,ia,ib,_,rfl,ms⟩
 . obtain⟨_,out,ia,ib,g,rfl,_,h1,h2,h3⟩:=hI;omega
 obtain⟨kp1,r,hr,hm⟩:=hI;obtain⟨c1,c2⟩:=c;dsimp only at hr;subst hr;exact A0Y (k r st1 hm kp1)
end
structure MgH (rk:Value->Nat)(L A B O:List Keyed):Prop where
 pm:(A++B++O).Perm L
 up:upL rk O
 le:∀ x∈O,∀ y∈A++B,rk y.1<=rk x.1
section
variable {M:Model}{A:Around}{E:Value->Shared->Prop}{s:Shared}{kd:SortKind}{rk:Value->Nat}{V:Value->Prop}
theorem MgH.right {L A B O c:List Keyed}(h:MgH rk L A (B++c) O)(hc:upL rk c)(hl:∀ x∈c,∀ y∈A++B,rk y.1<=rk x.1):MgH rk L A B (c++O):=by
 refine⟨?_,List.pairwise_append.mpr ⟨hc,h.up,λx hx y hy=>h.le y hy x (by simp[hx])⟩,λx hx y hy=>?_⟩
 . have:=h.pm;rwa[<- A17 A,A17] at this
 rcases A0C.mp hx with g|g
 . exact hl x g y hy
 exact h.le x g y (by rcases List.mem_append.mp hy with q|q<;>simp[q])
theorem MgH.flip {L A B O:List Keyed}(h:MgH rk L A B O):MgH rk L B A O:=
 ⟨(List.Perm.append_right O List.perm_append_comm).trans h.pm,h.up,λx hx y hy=>h.le x hx y (by rcases List.mem_append.mp hy with q|q<;>simp[q])⟩
theorem MgH.left {L A B O c:List Keyed}(h:MgH rk L (A++c) B O)(hc:upL rk c)(hl:∀ x∈c,∀ y∈A++B,rk y.1<=rk x.1):MgH rk L A B (c++O):=
 (h.flip.right hc λx hx y hy=>hl x hx y (by rcases List.mem_append.mp hy with q|q<;>simp[q])).flip
theorem MgH.fin {L B O:List Keyed}(h:MgH rk L [] B O)(hb:upL rk B):Mgd rk L (B++O):=by have:=h.pm;rw[A2V] at this;exact⟨this,List.pairwise_append.mpr ⟨hb,h.up,λx hx y hy=>h.le y hy x (by simp[hx])⟩⟩
theorem Nv {a:Array Keyed}{i:Nat}{x:Keyed}(h:a[i]? = some x):a.toList.take (i+1)=a.toList.take i++[x]:=by
 have h':a.toList[i]? = some x:=by rw[A0P];exact h
 rw[A0I,h'];rfl
theorem Md (a:Array Keyed)(i:Nat):(a.extract 0 i).toList=a.toList.take i:=by rw[A4G,A3O,A5P,Nat.sub_zero]
theorem a79 (a:Array Keyed)(i j:Nat):(a.extract i j).toList=(a.toList.take j).drop i:=by rw[A4G,A3O,List.drop_take]
def rvL (out:Array Keyed):List Keyed:=out.toList.reverse
theorem a88 (out:Array Keyed)(x:Keyed):rvL (out.push x)=[x]++rvL out:=by unfold rvL;rw[Array.toList_push,List.reverse_append];rfl
theorem ah1 (out c:Array Keyed):rvL (out++c.reverse)=c.toList++rvL out:=by unfold rvL;rw[Array.toList_append,Array.toList_reverse,List.reverse_append,List.reverse_reverse]
section
variable {a b out:Array Keyed}{m n:Nat}{x y:Keyed}
theorem upL.take {L:List Keyed}(h:upL rk L)(i:Nat):upL rk (L.take i):=List.Pairwise.sublist (List.take_sublist _ _) h
theorem Two2.ltA (T:Two2 rk V a b)(h:a[m]? = some x):∀ z∈a.toList.take (m+1),rk z.1<=rk x.1:=λz hz=>by
 have:=T.ua.take (m+1);rw[Nv h] at this hz;rcases A0C.mp hz with q|q
 . exact(List.pairwise_append.mp this).2.2 z q x (by simp)
 rw[A0X.mp q];exact A05 _
theorem Two2.ltB (T:Two2 rk V a b)(h:b[n]? = some y):∀ z∈b.toList.take (n+1),rk z.1<=rk y.1:=λz hz=>by
 have:=T.ub.take (n+1);rw[Nv h] at this hz;rcases A0C.mp hz with q|q
 . exact(List.pairwise_append.mp this).2.2 z q y (by simp)
 rw[A0X.mp q];exact A05 _
theorem W0 {L:List Keyed}{i:Nat}:∀ z∈L.take i,z∈L.take (i+1):=λz hz=>by rw[A0I];exact A1L _ hz
theorem Two2.tkAh (T:Two2 rk V a b)(g:MgH rk (a.toList++b.toList) (a.toList.take (m+1)) (b.toList.take n) (rvL out))(hx:a[m]? = some x)(hy:∀ z∈b.toList.take n,rk z.1<=rk x.1):MgH rk (a.toList++b.toList) (a.toList.take m) (b.toList.take n) (rvL (out.push x)):=by
 rw[a88];refine MgH.left (by rw[<- Nv hx];exact g) (A26 _ _) λu hu z hz=>?_;rw[A0X.mp hu];rcases A0C.mp hz with q|q
 . exact T.ltA hx z (W0 z q)
 exact hy z q
theorem Two2.tkBh (T:Two2 rk V a b)(g:MgH rk (a.toList++b.toList) (a.toList.take m) (b.toList.take (n+1)) (rvL out))(hy:b[n]? = some y)(hx:∀ z∈a.toList.take m,rk z.1<=rk y.1):MgH rk (a.toList++b.toList) (a.toList.take m) (b.toList.take n) (rvL (out.push y)):=by
 rw[a88];refine MgH.right (by rw[<- Nv hy];exact g) (A26 _ _) λu hu z hz=>?_;rw[A0X.mp hu];rcases A0C.mp hz with q|q
 . exact hx z q
 exact T.ltB hy z (W0 z q)
theorem Two2.dnh (T:Two2 rk V a b)(g:MgH rk (a.toList++b.toList) (a.toList.take m) (b.toList.take n) (rvL out))(h:m=0):Mgd rk (a.toList++b.toList) (a.extract 0 m++b.extract 0 n++out.reverse).toList:=by subst h;rw[List.take_zero] at g;rw[A24,A24,Md,Md,Array.toList_reverse,List.take_zero,A2V];exact g.fin (T.ub.take n)
theorem Two2.fbh (T:Two2 rk V a b)(g:MgH rk (a.toList++b.toList) (a.toList.take m) (b.toList.take n) (rvL out))(h:n=1):Mgd rk (a.toList++b.toList) (b.extract 0 n++a.extract 0 m++out.reverse).toList:=by
 subst h;have hb:=T.nb;have hy:b[0]? = some b[0]:=A1S hb;have e:b.toList.take 1=[b[0]]:=by rw[Nv hy,List.take_zero];rfl
 rw[e] at g;rw[A24,A24,Md,Md,Array.toList_reverse,e,A17];refine MgH.fin (MgH.left (A:=[]) (by rw[A2V];exact g) (T.ua.take m) λx hx z hz=>?_) (A26 _ _);rw[A2V] at hz;rw[A0X.mp hz];exact A1O (T.fst x (A1P hx) _ hy)
end
def MSH (rk:Value->Nat)(a b:Array Keyed)(k:Nat)(out:Array Keyed)(na nb:Nat):Prop:=MgH rk (a.toList++b.toList) (a.toList.take na) (b.toList.take nb) (rvL out)/\1<=na/\2<=nb/\na<=a.size/\nb<=b.size/\k+na+nb<=a.size+b.size
abbrev GSh:Type:=Option (Array Keyed)×Nat×Nat×Array Keyed×Nat×Nat×Nat
def StH (rk:Value->Nat)(P:Nat->Array Keyed->Nat->Nat->Prop)(L:List Keyed)(n1 n2:Nat)(st:SortSt):ForInStep GSh->SortSt->Prop
 |.done c,st'=>Kp4 st st'/\((∃ r,c.1=some r/\Mgd rk L r.toList)\/∃ na nb out g p q,c=(none,na,nb,out,g,p,q)/\P n1 out na nb)
 |.yield c,st'=>Kp4 st st'/\∃ na nb out g p q,c=(none,na,nb,out,g,p,q)/\P n2 out na nb
theorem au1 (O:Rkd M A s kd rk V){st:SortSt}(hk:kindOf st=kd){a b:Array Keyed}(T:Two2 rk V a b){Q:Array Keyed->SortSt->Prop}(k:∀ r st',Mgd rk (a.toList++b.toList) r.toList->Kp4 st st'->Q r st'):wpS M A E s (aK9 a b) Q st:=by
 have Va:∀ {i:Nat} {x:Keyed},a[i]? = some x->V x.1:=fun {i x} h=>T.va x (by rw[<- A0P] at h;exact A02 h);have Vb:∀ {i:Nat} {x:Keyed},b[i]? = some x->V x.1:=fun {i x} h=>T.vb x (by rw[<- A0P] at h;exact A02 h);have atA:∀ {i:Nat},i<a.size->∃ x,a[i]? = some x:=fun {i} h=>⟨_,A1S h⟩;have atB:∀ {i:Nat},i<b.size->∃ x,b[i]? = some x:=fun {i} h=>⟨_,A1S h⟩;obtain⟨m,hm⟩:∃ m,a.size=m+1:=⟨a.size-1,by have:=T.na;omega⟩;obtain⟨x0,hx0⟩:=atA (i:=m) ∅;have hx0':a[a.size-1]? = some x0:=by rw[show a.size-1=m by omega];exact hx0
 have m0:MgH rk (a.toList++b.toList) (a.toList.take (m+1)) (b.toList.take b.size) (rvL #[]):=by rw[A21 (by rw[A1B];omega),A21 (by rw[A1B];omega)];exact⟨by show(a.toList++b.toList++[]).Perm _;rw[A19],A2L,λx hx=>(nomatch hx)⟩
 have m1:=T.tkAh m0 hx0 λz hz=>A1O (T.lst z (A1P hz) x0 hx0');unfold aK9;refine A0K ?_;refine wpS_lift (A46 ⟨rfl,?_⟩)
 extract_lets -merge total done first na nb
 refine A0K (Bl hx0' ?_);rw[show m=a.size-1 by omega] at m1;refine Ag (λhc=>?_) (λhc=>?_)
 . exact A0Y (k _ st (T.dnh m1 (A16.mp hc)) (.refl _))
 refine Ag (λhc2=>?_) (λhc2=>?_)
 . exact A0Y (k _ st (T.fbh m1 (A16.mp hc2)) (.refl _))
 have ha1:1<=a.size-1:=by have:¬ (a.size-1=0):=λe=>hc (A16.mpr e);omega
 have hb1:2<=b.size:=by have:=T.nb;have:¬ (b.size=1):=λe=>hc2 (A16.mpr e);omega
 refine A0K (A5G ?_)
 refine A0K (A31 (A27 (I:=λj c st'=>Kp4 st st'/\∃ na nb out g,c=(none,na,nb,out,g)/\MSH rk a b j out na nb)
  (Q:=λc st'=>Kp4 st st'/\∃ r,c.1=some r/\Mgd rk (a.toList++b.toList) r.toList)
  (λj c st1 _ hj hI=>?_) (λc st1 hI=>?_) ⟨.refl _,_,_,_,_,rfl,m1,ha1,hb1,by omega,A05 _,by omega⟩) λc st1 hI=>?_)
 . obtain⟨kp1,na,nb,out,g,rfl,ms⟩:=hI;have hk1:kindOf st1=kd:=kp1.1.trans hk
   refine A0K (A31 (A27 (I:=λi c st'=>st'=st1/\∃ na nb out p q,c=(none,na,nb,out,p,q)/\MSH rk a b (j+i) out na nb)
    (Q:=λc st'=>st'=st1/\((∃ r,c.1=some r/\Mgd rk (a.toList++b.toList) r.toList)\/∃ na nb out p q,c=(none,na,nb,out,p,q)/\MSH rk a b (j+1) out na nb))
    (λi c st' _ hi hI=>?_) (λc st' hI=>?_) ⟨rfl,na,nb,out,0,0,rfl,ms⟩) λc st' hI=>?_)
   . obtain⟨rfl,na,nb,out,p,q,rfl,mg,h1,h2,h3,h4,h5⟩:=hI;obtain⟨na,rfl⟩:∃ m,na=m+1:=⟨na-1,by omega⟩;obtain⟨nb,rfl⟩:∃ m,nb=m+1:=⟨nb-1,by omega⟩;obtain⟨x,hx⟩:=atA (i:=na) ∅;obtain⟨y,hy⟩:=atB (i:=nb) ∅;refine A0K (Bl hy (A0K (Bl hx (A0K (Yu O hk1 (Vb hy) (Va hx) ?_)))));refine Ag (λhc=>?_) (λhc=>?_)
     . have hlt:rk y.1<rk x.1:=A1E hc;have m2:=T.tkAh mg hx λz hz=>A0B (T.ltB hy z hz) (A1O hlt);refine A0K (Bl hx ?_);refine Ag (λhb=>?_) (λhb=>?_)
       . exact A0Y ⟨rfl,.inl ⟨_,rfl,T.dnh m2 (A16.mp hb)⟩⟩
       have hb':1<=na:=by have:¬ (na=0):=λe=>hb (A16.mpr e);omega
       refine Ag (λ_=>?_) (λ_=>?_)
       . exact A0Y ⟨rfl,.inr ⟨_,_,_,_,_,rfl,m2,hb',h2,show na<=a.size by omega,h4,show j+1+na+(nb+1)<=a.size+b.size by omega⟩⟩
       exact A0Y ⟨rfl,_,_,_,_,_,rfl,m2,hb',h2,show na<=a.size by omega,h4,show j+(i+1)+na+(nb+1)<=a.size+b.size by omega⟩
     have hle:rk x.1<=rk y.1:=by have:¬ rk y.1<rk x.1:=λh=>hc (A0H h);omega
     have m2:=T.tkBh mg hy λz hz=>A0B (T.ltA hx z hz) hle;refine A0K (Bl hy ?_);refine Ag (λhb=>?_) (λhb=>?_)
     . exact A0Y ⟨rfl,.inl ⟨_,rfl,T.fbh m2 (A16.mp hb)⟩⟩
     have hb':2<=nb:=by have:¬ (nb=1):=λe=>hb (A16.mpr e);omega
     refine Ag (λ_=>?_) (λ_=>?_)
     . exact A0Y ⟨rfl,.inr ⟨_,_,_,_,_,rfl,m2,h1,hb',h3,show nb<=b.size by omega,show j+1+(na+1)+nb<=a.size+b.size by omega⟩⟩
     exact A0Y ⟨rfl,_,_,_,_,_,rfl,m2,h1,hb',h3,show nb<=b.size by omega,show j+(i+1)+(na+1)+nb<=a.size+b.size by omega⟩
   . obtain⟨_,na,nb,out,p,q,rfl,_,h1,h2,h3,h4,h5⟩:=hI;omega
   obtain⟨rfl,hI⟩:=hI;rcases hI with ⟨r,hr,hm⟩|⟨na,nb,out,p,q,rfl,ms⟩
   . obtain⟨c1,c2⟩:=c;dsimp only at hr;subst hr;exact A0Y ⟨kp1,r,rfl,hm⟩
   refine A0K ?_;refine wpS_lift (A46 ⟨rfl,?_⟩)
   refine A0K (A31 (A27 (I:=λi c st'=>Kp4 st st'/\∃ na nb out g p q,c=(none,na,nb,out,g,p,q)/\MSH rk a b (j+1+i) out na nb)
    (Q:=λc st'=>Kp4 st st'/\((∃ r,c.1=some r/\Mgd rk (a.toList++b.toList) r.toList)\/∃ na nb out g p q,c=(none,na,nb,out,g,p,q)/\MSH rk a b (j+1) out na nb))
    (λi c st' _ hi hI=>?_) (λc st' hI=>?_) ⟨kp1,na,nb,out,_,_,_,rfl,ms⟩) λc st' hI=>?_)
   . obtain⟨kp,na,nb,out,g,p,q,rfl,mg,h1,h2,h3,h4,h5⟩:=hI;obtain⟨nb,rfl⟩:∃ m,nb=m+1:=⟨nb-1,by omega⟩;obtain⟨y,hy⟩:=atB (i:=nb) ∅;refine A31 (Q:=StH rk (MSH rk a b) (a.toList++b.toList) (j+1) (j+1+(i+1)) st) ?_ λr st' h=>by cases r<;>exact h
     extract_lets -merge s1 na1 s2 nb1 s3 o1 s4 mg1 s5 ac bc nb2 jp
     have jpm:∀ g',wpS M A E s (jp () g') (StH rk (MSH rk a b) (a.toList++b.toList) (j+1) (j+1+(i+1)) st) st':=λg'=>by
      refine A0K (Qo kp λst2 kp2=>?_);have hk2:kindOf st2=kd:=kp2.1.trans hk;refine A0K (Bl hy ?_);have hlA:(a.toList.take na).length=na:=by rw[A0J,A1B];omega
      refine A0K (Jh O hk2 (L:=a.toList.take na) rfl hlA (T.ua.take na) (show na-1<na by omega) (λx hx=>T.va x (A1P hx)) (Vb hy) λc d hcd hc hd=>?_);have hc':∀ x∈c,rk x.1<=rk y.1:=λx hx=>A1E (hc x hx)
      have hd':∀ x∈d,rk y.1<rk x.1:=λx hx=>by have:¬ rk x.1<=rk y.1:=A2J (hd x hx);omega
      have hcl:c.length+d.length=na:=by rw[<- hlA,hcd,A04]
      have hua:upL rk (c++d):=hcd ▸ T.ua.take na
      have htk:a.toList.take c.length=c:=by have:=congrArg (List.take c.length) hcd;rwa[List.take_take,A3J ∅,A2T] at this
      have mA:MgH rk (a.toList++b.toList) (a.toList.take c.length) (b.toList.take (nb+1)) (rvL (out++(a.extract c.length na).reverse)):=by
       rw[ah1,a79,hcd,A20,htk];refine MgH.left (by rw[<- hcd];exact mg) (A1A.mp hua).2.1 λx hx z hz=>?_;rcases A0C.mp hz with u|u
       . exact(A1A.mp hua).2.2 z u x hx
       exact A0B (T.ltB hy z u) (A1O (hd' x hx))
      dsimp -zeta only
      extract_lets -merge k1 ac2 jp2
      have jp2_ok:∀ n3 o3,MgH rk (a.toList++b.toList) (a.toList.take n3) (b.toList.take (nb+1)) (rvL o3)->1<=n3->n3<=na->(∀ z∈a.toList.take n3,rk z.1<=rk y.1)->wpS M A E s (jp2 () n3 o3) (StH rk (MSH rk a b) (a.toList++b.toList) (j+1) (j+1+(i+1)) st) st2:=λn3 o3 m3 g1 g2 g3=>by
       obtain⟨p,rfl⟩:∃ m,n3=m+1:=⟨n3-1,by omega⟩;obtain⟨x,hx⟩:=atA (i:=p) ∅;have m4:=T.tkBh m3 hy g3;refine A0K (Bl hy ?_);refine Ag (λhb=>?_) (λhb=>?_)
       . exact A0Y ⟨kp2,.inl ⟨_,rfl,T.fbh m4 (A16.mp hb)⟩⟩
       have hb':2<=nb:=by have:¬ (nb=1):=λe=>hb (A16.mpr e);omega
       refine A0K (Bl hx ?_);have hlB:(b.toList.take nb).length=nb:=by rw[A0J,A1B];omega
       refine A0K (Jh O hk2 (L:=b.toList.take nb) rfl hlB (T.ub.take nb) (show nb-1<nb by omega) (λx hx=>T.vb x (A1P hx)) (Va hx) λc2 d2 hcd2 hc2 hd2=>?_);have hc2':∀ z∈c2,rk z.1<rk x.1:=λz hz=>A1E (hc2 z hz)
       have hd2':∀ z∈d2,rk x.1<=rk z.1:=λz hz=>by have:¬ rk z.1<rk x.1:=A2J (hd2 z hz);omega
       have hcl2:c2.length+d2.length=nb:=by rw[<- hlB,hcd2,A04]
       have hub:upL rk (c2++d2):=hcd2 ▸ T.ub.take nb
       have htk2:b.toList.take c2.length=c2:=by have:=congrArg (List.take c2.length) hcd2;rwa[List.take_take,A3J ∅,A2T] at this
       have mB:MgH rk (a.toList++b.toList) (a.toList.take (p+1)) (b.toList.take c2.length) (rvL (o3.push y++(b.extract c2.length nb).reverse)):=by
        rw[ah1,a79,hcd2,A20,htk2];refine MgH.right (by rw[<- hcd2];exact m4) (A1A.mp hub).2.1 λz hz u hu=>?_;rcases A0C.mp hu with w|w
        . exact A0B (T.ltA hx u w) (hd2' z hz)
        exact(A1A.mp hub).2.2 u w z hz
       have hc0:c2≠[]:=λe=>by
        obtain⟨y0,hy0⟩:=atB T.nb
        have:y0∈d2:=by
         have h0:y0∈b.toList.take nb:=by rw[<- A0P] at hy0;exact A02 (i:=0) (by rw[A2D ∅];exact hy0)
         rw[hcd2,e] at h0;exact h0
        have q1:=hd2' y0 this;have q2:=T.fst x (by rw[<- A0P] at hx;exact A02 hx) y0 hy0;omega
       have hc1:=A3T.mpr hc0;dsimp -zeta only
       extract_lets -merge k2 bc2 na3 jp3
       have jp3_ok:∀ n4 o4,MgH rk (a.toList++b.toList) (a.toList.take (p+1)) (b.toList.take n4) (rvL o4)->2<=n4->n4<=nb->(∀ z∈b.toList.take n4,rk z.1<=rk x.1)->wpS M A E s (jp3 () n4 o4) (StH rk (MSH rk a b) (a.toList++b.toList) (j+1) (j+1+(i+1)) st) st2:=λn4 o4 m5 f1 f2 f3=>by
        have m6:=T.tkAh m5 hx f3;refine A0K (Bl hx ?_);refine Ag (λhl=>?_) (λhl=>?_)
        . exact A0Y ⟨kp2,.inl ⟨_,rfl,T.dnh m6 (A16.mp hl)⟩⟩
        have hl':1<=p:=by have:¬ (p=0):=λe=>hl (A16.mpr e);omega
        refine Ag (λ_=>?_) (λ_=>?_)
        . exact A0Y ⟨kp2,.inr ⟨_,_,_,_,_,_,rfl,m6,hl',f1,show p<=a.size by omega,show n4<=b.size by omega,show j+1+p+n4<=a.size+b.size by omega⟩⟩
        exact A0Y ⟨kp2,_,_,_,_,_,_,rfl,m6,hl',f1,show p<=a.size by omega,show n4<=b.size by omega,show j+1+(i+1)+p+n4<=a.size+b.size by omega⟩
       refine Ag (λhk0=>?_) (λhk0=>?_)
       . refine Ag (λhe=>?_) (λhe=>?_)
         . exact A0Y ⟨kp2,.inl ⟨_,rfl,T.fbh mB (A16.mp he)⟩⟩
         have he':¬ (c2.length=1):=λe=>he (A16.mpr e);refine Ag (λhz=>?_) (λhz=>?_)
         . have hz':c2.length=0:=A16.mp hz;omega
         exact jp3_ok _ _ mB (show 2<=c2.length by omega) (show c2.length<=nb by omega) (show ∀ z∈b.toList.take c2.length,rk z.1<=rk x.1 by rw[htk2];exact λz hz=>A1O (hc2' z hz))
       have hk0':¬ (nb-c2.length>0):=hk0;have h0:d2=[]:=A0D.mp ∅;refine jp3_ok _ _ m4 hb' (A05 _) ?_;show ∀ z∈b.toList.take nb,rk z.1<=rk x.1;rw[hcd2,h0,A19];exact λz hz=>A1O (hc2' z hz)
      refine Ag (λhk0=>?_) (λhk0=>?_)
      . refine Ag (λhz=>?_) (λhz=>?_)
        . exact A0Y ⟨kp2,.inl ⟨_,rfl,T.dnh mA (A16.mp hz)⟩⟩
        have hz':¬ (c.length=0):=λe=>hz (A16.mpr e);exact jp2_ok _ _ mA (show 1<=c.length by omega) (show c.length<=na by omega) (show ∀ z∈a.toList.take c.length,rk z.1<=rk y.1 by rw[htk];exact hc')
      have hk0':¬ (na-c.length>0):=hk0;have h0:d=[]:=A0D.mp ∅;refine jp2_ok _ _ mg h1 (A05 _) ?_;show ∀ z∈a.toList.take na,rk z.1<=rk y.1;rw[hcd,h0,A19];exact hc'
     exact Ag (λ_=>jpm _) (λ_=>jpm _)
   . obtain⟨_,na,nb,out,g,p,q,rfl,_,h1,h2,h3,h4,h5⟩:=hI;omega
   obtain⟨kp,hI⟩:=hI;rcases hI with ⟨r,hr,hm⟩|⟨na,nb,out,g,p,q,rfl,ms⟩
   . obtain⟨c1,c2⟩:=c;dsimp only at hr;subst hr;exact A0Y ⟨kp,r,rfl,hm⟩
   refine A0K (Qo kp λst2 kp2=>?_);exact A0Y ⟨kp2,na,nb,out,_,rfl,ms⟩
 . obtain⟨_,na,nb,out,g,rfl,_,h1,h2,h3,h4,h5⟩:=hI;omega
 obtain⟨kp1,r,hr,hm⟩:=hI;obtain⟨c1,c2⟩:=c;dsimp only at hr;subst hr;exact A0Y (k r st1 hm kp1)
end
section
variable {M:Model}{A:Around}{E:Value->Shared->Prop}{s:Shared}{kd:SortKind}{rk:Value->Nat}{V:Value->Prop}
theorem am3 {st st':SortSt} {Q:PUnit->SortSt->Prop} (h:Q ⟨⟩ st'):wpS M A E s (set st':StateT SortSt Sem PUnit) Q st:=by unfold wpS;rw[StateT.run_set];exact wpAny_pure ⟨rfl,h⟩
theorem W6 (sa:Nat):∀(m X P S:List Keyed) (n:Nat) (arr:Array Keyed),arr.toList=P++X++S->X.length=m.length->P.length=sa+n ->
  ((m.zipIdx n).foldl (λ(a:Array Keyed) (q:Keyed×Nat)=>a.setIfInBounds (sa+q.2) q.1) arr).toList=P++m++S
 | [],X,P,S,n,arr,h,hl,hp=>by rw[A0D.mp hl] at h;exact h
 |p :: m,X,P,S,n,arr,h,hl,hp=>by
   cases X with
   |nil=>cases hl
   |cons x X=>
     rw[List.zipIdx_cons,A2M]
     have:=W6 sa m X (P++[p]) S (n+1) (arr.setIfInBounds (sa+n) p) (by rw[Array.toList_setIfInBounds,h,<- hp,A17,List.set_append_right _ _ (A05 _),A2H];simp) (by simpa using hl) (by rw[List.length_append,List.length_singleton];omega)
     rw[this];simp
theorem aD4 (O:Rkd M A s kd rk V){st:SortSt}(hk:kindOf st=kd)(hf:failedOf st=none){P ra rb S:List Keyed}(hA:(arrOf st).toList=P++(ra++(rb++S)))(ua:upL rk ra)(ub:upL rk rb)(na0:ra≠[])(nb0:rb≠[])(va:∀ x∈ra,V x.1)(vb:∀ x∈rb,V x.1){i pw pw2:Nat}
  (p1:(pendingOf st)[i]? = some (P.length,ra.length,pw)) (p2:(pendingOf st)[i+1]? = some (P.length+ra.length,rb.length,pw2)) {Q:Bool->SortSt->Prop}
  (h:∀ rm st',rm.Perm (ra++rb)->upL rk rm->(arrOf st').toList=P++(rm++S)->kindOf st'=kd->failedOf st'=none->pendingOf st'=((pendingOf st).setIfInBounds i (P.length,ra.length+rb.length,pw)).eraseIdxIfInBounds (i+1)->Q true st'):wpS M A E s (mergeAt' i) Q st:=by
 unfold mergeAt';refine A0K (A5G ?_);rw[p1,p2];dsimp -zeta only;refine A0K (am3 ?_)
 obtain⟨y0,rb',rfl⟩:∃ y0 rb',rb=y0 :: rb':=by
  cases rb with
  |nil=>exact absurd rfl nb0
  |cons y0 rb'=>exact⟨y0,rb',rfl⟩
 have hy0:(arrOf st)[P.length+ra.length]? = some y0:=by rw[<- A0P,hA,A0T ∅,A3Z,A0T (A05 _),A2H];rfl
 have hLa:ra=((arrOf st).toList.drop P.length).take ra.length:=by rw[hA,A20,A2T]
 have hLb:y0 :: rb'=((arrOf st).toList.drop (P.length+ra.length)).take (y0 :: rb').length:=by rw[hA,<- A33,A20,A20,A2T]
 have hral:=A3T.mpr na0;have hb0:=ap4 ub;refine A0K (Bl hy0 ?_);refine A0K (Jh O (by exact hk) (L:=ra) hLa rfl ua hral va (vb _ A0E) λc d hcd hc hd=>?_);have hc':∀ x∈c,rk x.1<=rk y0.1:=λx hx=>A1E (hc x hx)
 have hd':∀ x∈d,rk y0.1<rk x.1:=λx hx=>by have:¬ rk x.1<=rk y0.1:=A2J (hd x hx);omega
 have hcl:c.length+d.length=ra.length:=by rw[hcd,A04]
 dsimp -zeta only;refine Ag (λhz=>?_) (λhz=>?_)
 . have hz':ra.length-c.length=0:=A16.mp hz;have h0:d=[]:=A0D.mp ∅;refine A0Y (h (ra++y0 :: rb') _ (A4A _) (A1A.mpr ⟨ua,ub,λx hx y hy=>?_⟩) (by rw[A17];exact hA) hk hf rfl);rw[hcd,h0,A19] at hx;exact A0B (hc' x hx) (hb0 y hy)
 have hz':¬ (ra.length-c.length=0):=λe=>hz (A16.mpr e)
 obtain⟨d1,x0,hd1⟩:∃ d1 x0,d=d1++[x0]:=by
  have:d≠[]:=λe=>by rw[e,A2N] at hcl;omega
  exact⟨d.dropLast,d.getLast this,(List.dropLast_concat_getLast this).symm⟩
 have hx0:(arrOf st)[P.length+c.length+(ra.length-c.length)-1]? = some x0:=by
  have hra:ra=(c++d1)++[x0]:=by rw[hcd,hd1,A17]
  have e:P.length+c.length+(ra.length-c.length)-1=P.length+(c++d1).length:=by rw[hra];simp only[List.length_append,List.length_singleton];omega
  rw[e,<- A0P,hA,A0T ∅,A3Z,hra,A17,A0T (A05 _),A2H];rfl
 have hx0m:x0∈ra:=by rw[hcd,hd1];simp
 have hlast:∀ x∈ra,rk x.1<=rk x0.1:=λx hx=>by
  rw[hcd,hd1,<- A17] at hx ua;rcases A0C.mp hx with q|q
  . exact(List.pairwise_append.mp ua).2.2 x q x0 (by simp)
  rw[A0X.mp q];exact A05 _
 refine A0K (Bl hx0 ?_);refine wpS_bind (Jh O (by exact hk) (L:=y0 :: rb') hLb rfl ub (show(y0 :: rb').length-1<(y0 :: rb').length by simp) vb (va _ hx0m) λc2 d2 hcd2 hc2 hd2=>?_);have hc2':∀ z∈c2,rk z.1<rk x0.1:=λz hz=>A1E (hc2 z hz)
 have hd2':∀ z∈d2,rk x0.1<=rk z.1:=λz hz=>by have:¬ rk z.1<rk x0.1:=A2J (hd2 z hz);omega
 dsimp -zeta only;refine Ag (λhz2=>?_) (λhz2=>?_)
 . have h0:c2=[]:=A0D.mp (A16.mp hz2);refine A0Y (h (ra++y0 :: rb') _ (A4A _) (A1A.mpr ⟨ua,ub,λx hx y hy=>?_⟩) (by rw[A17];exact hA) hk hf rfl);rw[hcd2,h0,A2V] at hy;exact A0B (hlast x hx) (hd2' y hy)
 have hz2':c2≠[]:=λe=>hz2 (by rw[e];rfl)
 extract_lets -merge x y jp
 have hxl:x.toList=d:=by show((arrOf st).extract (P.length+c.length) (P.length+ra.length)).toList=d;rw[show P.length+ra.length=P.length+c.length+d.length by omega,Qv,hA,<- A33,A20,hcd,A17,A20,A2T]
 have hyl:y.toList=c2:=by show((arrOf st).extract (P.length+ra.length) (P.length+ra.length+c2.length)).toList=c2;rw[Qv,hA,<- A33,A20,A20,hcd2,A17,A2T]
 have hua:upL rk (c++d):=hcd ▸ ua;have hub:upL rk (c2++d2):=hcd2 ▸ ub
 have hy1:y[0]? = some y0:=by
  rw[<- A0P,hyl]
  cases c2 with
  |nil=>exact absurd rfl hz2'
  |cons z c3=>rw[List.cons_append] at hcd2;rw[(List.cons.inj hcd2).1];rfl
 have hsx:x.size=d.length:=by rw[<- A1B,hxl]
 have hx1:x[x.size-1]? = some x0:=by rw[hsx,<- A0P,hxl,hd1,A04,A0S,A60,A0T (A05 _),A2H];rfl
 have T:Two2 rk V x y:=by
  refine⟨?_,?_,λz hz=>?_,λz hz=>?_,?_,?_,λz hz u hu=>?_,λz hz u hu=>?_⟩
  . rw[hxl];exact(A1A.mp hua).2.1
  . rw[hyl];exact(A1A.mp hub).1
  . rw[hxl] at hz;exact va z (by rw[hcd];exact A1D _ hz)
  . rw[hyl] at hz;exact vb z (by rw[hcd2];exact A1L _ hz)
  . rw[hsx,hd1,A04,A0S];omega
  . rw[<- A1B,hyl];exact A3T.mpr hz2'
  . rw[hy1] at hu;cases hu;rw[hxl] at hz;exact hd' z hz
  rw[hx1] at hu;cases hu;rw[hyl] at hz;exact hc2' z hz
 have jp_ok:∀ r st',Mgd rk (x.toList++y.toList) r.toList->kindOf st'=kd->arrOf st'=arrOf st->pendingOf st'=((pendingOf st).setIfInBounds i (P.length,ra.length+(y0 :: rb').length,pw)).eraseIdxIfInBounds (i+1)->failedOf st'=none->wpS M A E s (jp r) Q st':=λr st' hm g1 g2 g3 g4=>by
  rw[hxl,hyl] at hm
  have e:((r.toList.zipIdx 0).foldl (λ(a:Array Keyed) (q:Keyed×Nat)=>a.setIfInBounds (P.length+c.length+q.2) q.1) (arrOf st')).toList=(P++c)++r.toList++(d2++S):=
   W6 (P.length+c.length) r.toList (d++c2) (P++c) (d2++S) 0 (arrOf st') (by rw[g2,hA,hcd,hcd2];simp only[List.append_assoc]) (hm.1.length_eq.symm) (by rw[List.length_append];rfl)
  refine A0K (A5L ?_);refine A0K (A5G ?_)
  have fin:∀ st2:SortSt,kindOf st2=kd->(arrOf st2).toList=(P++c)++r.toList++(d2++S)->pendingOf st2=pendingOf st'->failedOf st2=none->wpS M A E s (pure (failedOf st2).isNone:StateT SortSt Sem Bool) Q st2:=λst2 f1 f2 f3 f4=>by
   rw[f4];refine wpS_pure (h (c++r.toList++d2) st2 ?_ ?_ (by rw[f2];simp only[List.append_assoc]) f1 f4 (f3.trans g3))
   . rw[hcd,hcd2];have:=(hm.1.append_left c).append_right d2;simpa only[List.append_assoc] using this
   have mem:∀ z∈r.toList,z∈d\/z∈c2:=λz hz=>A0C.mp (hm.1.mem_iff.mp hz);refine A1A.mpr ⟨A1A.mpr ⟨(A1A.mp hua).1,hm.2,λu hu z hz=>?_⟩,(A1A.mp hub).2.1,λu hu z hz=>?_⟩
   . rcases mem z hz with q|q
     . exact(A1A.mp hua).2.2 u hu z q
     exact A0B (hc' u hu) (hb0 z (by rw[hcd2];exact A1L _ q))
   rcases A0C.mp hu with q|q
   . exact A0B (hlast u (by rw[hcd];exact A1L _ q)) (hd2' z hz)
   rcases mem u q with q|q
   . exact A0B (hlast u (by rw[hcd];exact A1D _ q)) (hd2' z hz)
   exact(A1A.mp hub).2.2 u q z hz
  exact fin _ g1 e rfl g4
 refine Ag (λ_=>?_) (λ_=>?_)
 . exact A0K (as7 O (by exact hk) T λr st' hm kp=>jp_ok r st' hm (kp.1.trans hk) kp.2.1 kp.2.2.1 (kp.2.2.2.trans hf))
 exact A0K (au1 O (by exact hk) T λr st' hm kp=>jp_ok r st' hm (kp.1.trans hk) kp.2.1 kp.2.2.1 (kp.2.2.2.trans hf))
end
def RA (rk:Value->Nat)(xs:Array Keyed)(i:Nat):Nat:=match xs[i]? with
 |some p=>rk p.1
 |none=>0
structure Sg (lo:Nat)(st st':SortSt):Prop where
 kd:kindOf st'=kindOf st
 pd:pendingOf st'=pendingOf st
 fl:failedOf st'=failedOf st
 pm:(arrOf st').Perm (arrOf st)
 eq:∀ k,k<lo->(arrOf st')[k]? = (arrOf st)[k]?
section
variable {M:Model}{A:Around}{E:Value->Shared->Prop}{s:Shared}{kd:SortKind}{rk:Value->Nat}{V:Value->Prop}
theorem Sg.refl (lo:Nat)(st:SortSt):Sg lo st st:=⟨rfl,rfl,rfl,Array.Perm.refl _,λ_ _=>rfl⟩
theorem Sg.size {lo:Nat}{st st':SortSt}(h:Sg lo st st'):(arrOf st').size=(arrOf st).size:=h.pm.size_eq
theorem aq0 {xs:Array Keyed}{i:Nat}{p:Keyed}(h:xs[i]? = some p):RA rk xs i=rk p.1:=by unfold RA;rw[h]
theorem Kt {xs ys:Array Keyed}{i j:Nat}(h:xs[i]? = ys[j]?):RA rk xs i=RA rk ys j:=by unfold RA;rw[h]
theorem Zi {xs:Array Keyed}{i j:Nat}(hj:j<=xs.size)(k:Nat):RA rk (mirror xs i j ((j-i) / 2)) k=if i<=k/\k<j then RA rk xs (i+j-1-k) else RA rk xs k:=by
 have e:=getElem?_mirror_all (xs:=xs) (i:=i) hj k
 by_cases c:i<=k/\k<j
 . rw[A10 c] at e ⊢;exact Kt e
 rw[A0W c] at e ⊢;exact Kt e
theorem Sg.mir {lo i j:Nat}{st st':SortSt}(h:Sg lo st st')(hi:lo<=i)(hj:j<=(arrOf st').size):Sg lo st (setArr st' (mirror (arrOf st') i j ((j-i) / 2))):=
 ⟨h.kd,h.pd,h.fl,(mirror_perm _ _ _ _).trans h.pm,λk hk=>by have e:=getElem?_mirror_all (xs:=arrOf st') (i:=i) hj k;rw[A0W ∅] at e;exact e.trans (h.eq k hk)⟩
theorem Wg {i j:Nat}{st:SortSt}{Q:Unit->SortSt->Prop}(h:Q () (setArr st (mirror (arrOf st) i j ((j-i) / 2)))):wpS M A E s (reverseSlice' i j) Q st:=by rw[reverseSlice'_eq];exact A5L h
structure So (V:Value->Prop)(kd:SortKind)(st:SortSt):Prop where
 kd:kindOf st=kd
 fl:failedOf st=none
 all:∀ p∈(arrOf st).toList,V p.1
theorem Sg.so {lo:Nat}{st st':SortSt}(h:Sg lo st st')(g:So V kd st):So V kd st':=
 ⟨h.kd.trans g.kd,h.fl.trans g.fl,λp hp=>g.all p ((Array.perm_iff_toList_perm.mp h.pm).mem_iff.mp hp)⟩
theorem Wd (O:Rkd M A s kd rk V){st:SortSt}(g:So V kd st){i j:Nat}(hi:i<(arrOf st).size)(hj:j<(arrOf st).size){Q:Option Bool->SortSt->Prop}(h:Q (some (decide (RA rk (arrOf st) i<RA rk (arrOf st) j))) st):wpS M A E s (ltAt' i j) Q st:=by rw[ltAt'_eq];refine A0K (A5G ?_);have ei:(arrOf st)[i]? = some (arrOf st)[i]:=A1S hi;have ej:(arrOf st)[j]? = some (arrOf st)[j]:=A1S hj;rw[aq0 ei,aq0 ej] at h;exact wpS_bind (Bl ei (wpS_bind (Bl ej (Yu O g.kd (g.all _ (by simp)) (g.all _ (by simp)) h))))
def Z0 (rk:Value->Nat)(lo m:Nat)(xs:Array Keyed):Prop:=∀ i j,i<=j->j<m->RA rk xs (lo+i)<=RA rk xs (lo+j)
def Dsc (rk:Value->Nat)(lo m:Nat)(xs:Array Keyed):Prop:=∀ i j,i<=j->j<m->RA rk xs (lo+j)<=RA rk xs (lo+i)
theorem Mr {xs:Array Keyed}{i j:Nat}(hj:j<=xs.size)(he:∀ k,i<=k->k<j->RA rk xs k=RA rk xs (j-1))(k:Nat):RA rk (mirror xs i j ((j-i) / 2)) k=RA rk xs k:=by
 rw[Zi hj]
 split
 . rw[he _ ∅ ∅,he k ∅ ∅]
 rfl
theorem Ws {st:SortSt}{lo nrem a:Nat}{f:Nat->Option (Option Nat)×Nat->StateT SortSt Sem (ForInStep (Option (Option Nat)×Nat))}
  (hf:∀ x n,1<=n->n<nrem->∀ Q:ForInStep (Option (Option Nat)×Nat)->SortSt->Prop,Q (if RA rk (arrOf st) (lo+n)<RA rk (arrOf st) (lo+n-1) then .done (none,n) else .yield (none,n+1)) st->wpS M A E s (f x (none,n)) Q st)
  (ha:1<=a) (han:a<=nrem) (hA:Z0 rk lo a (arrOf st)) {Q:Option (Option Nat)×Nat->SortSt->Prop} (h:∀ n,a<=n->n<=nrem->Z0 rk lo n (arrOf st)->(n=nrem\/RA rk (arrOf st) (lo+n)<RA rk (arrOf st) (lo+n-1))->Q (none,n) st):wpS M A E s (forIn [a:nrem] (none,a) f) Q st:=by
 refine A27 (I:=λi c st'=>st'=st/\c=(none,i)/\Z0 rk lo i (arrOf st)) (λi c st' h1 h2 hI=>?_) (λc st' hI=>?_) ⟨rfl,rfl,hA⟩
 . obtain⟨rfl,rfl,hI⟩:=hI;refine hf i i ∅ h2 _ ?_
   by_cases hc:RA rk (arrOf st') (lo+i)<RA rk (arrOf st') (lo+i-1)
   . rw[A10 hc];exact h i h1 ∅ hI (.inr hc)
   rw[A0W hc];refine⟨rfl,rfl,λp q hpq hq=>?_⟩
   by_cases e:q=i
   . subst e
     by_cases e2:p=q
     . subst e2;exact A05 _
     have:=hI p (q-1) ∅ ∅;rw[show lo+(q-1)=lo+q-1 by omega] at this;omega
   exact hI p q hpq ∅
 obtain⟨rfl,rfl,hI⟩:=hI;rw[A52 han] at hI ⊢;exact h nrem han (A05 _) hI (.inl rfl)
def DI (rk:Value->Nat)(lo n q:Nat)(xs:Array Keyed):Prop:=Dsc rk lo n xs/\q+1<=n/\∀ i,n-(q+1)<=i->i<n->RA rk xs (lo+i)=RA rk xs (lo+n-1)
def CrP (rk:Value->Nat)(lo nrem i:Nat)(st:SortSt):ForInStep (Option (Option Nat)×Nat×Nat)->SortSt->Prop
 |.done c,st'=>Sg lo st st'/\∃ n q,c=(none,n,q)/\DI rk lo n q (arrOf st')/\n<=nrem
 |.yield c,st'=>Sg lo st st'/\∃ q,c=(none,i+1,q)/\DI rk lo (i+1) q (arrOf st')
theorem aG4 (O:Rkd M A s kd rk V){st:SortSt}(g:So V kd st){lo nrem:Nat}(h1:1<=nrem)(hn:lo+nrem=(arrOf st).size){Q:Option Nat->SortSt->Prop}(h:∀ n st',1<=n->n<=nrem->Sg lo st st'->Z0 rk lo n (arrOf st')->Q (some n) st'):wpS M A E s (countRun' lo nrem) Q st:=by
 have asc1:∀ {st':SortSt},So V kd st'->(arrOf st').size=(arrOf st).size->∀ n,1<=n->n<nrem->∀ {Q:Option Bool->SortSt->Prop},Q (some (decide (RA rk (arrOf st') (lo+n)<RA rk (arrOf st') (lo+n-1)))) st'->wpS M A E s (ltAt' (lo+n) (lo+n-1)) Q st':=fun {st'} g' hs n h1 h2 {Q} k=>Wd O g' ∅ ∅ k;unfold countRun';refine A0K (Ws (rk:=rk) (lo:=lo) (λx n h1 h2 Q k=>?_) (A05 1) h1 (λi j hij hj=>by rw[show i=j by omega];exact A05 _) λn hn1 hn2 hA hor=>?_)
 . refine A0K (asc1 g rfl n h1 h2 ?_);refine Ag (λhc=>?_) (λhc=>?_)
   . rw[A10 (A1E hc)] at k;exact A0Y k
   rw[A0W (λe=>hc (A0H e))] at k;exact A0Y k
 refine Ag (λhc=>?_) (λhc=>?_)
 . exact A0Y (h n st hn1 hn2 (.refl _ _) hA)
 have hnn:n<nrem:=by have:¬ (n=nrem):=λe=>hc (A16.mpr e);omega
 have hlt:=hor.resolve_left ∅
 extract_lets -merge n2 z2 z3 jp
 have jp_ok:∀ st',Sg lo st st'->(∀ k,RA rk (arrOf st') k=RA rk (arrOf st) k)->(∀ i,i<n->RA rk (arrOf st) (lo+i)=RA rk (arrOf st) (lo+n-1))->wpS M A E s (jp ()) Q st':=λst1 sg1 he heq=>by
  have d1:DI rk lo (n+1) 0 (arrOf st1):=by
   refine⟨λi j hij hj=>?_,by omega,λi h1 h2=>by rw[show i=n by omega];rfl⟩;rw[he,he]
   by_cases ej:j=n
   . subst ej
     by_cases ei:i=j
     . subst ei;exact A05 _
     rw[heq i ∅];exact A1O hlt
   rw[heq i ∅,heq j ∅];exact A05 _
  refine A0K (wpS_lift (A46 ⟨rfl,?_⟩))
  refine A0K (A31 (A27 (I:=λi c st'=>Sg lo st st'/\∃ q,c=(none,i,q)/\DI rk lo i q (arrOf st'))
   (Q:=λc st'=>Sg lo st st'/\∃ n q,c=(none,n,q)/\DI rk lo n q (arrOf st')/\n<=nrem)
   (λi c st2 h3 h4 hI=>?_) (λc st2 hI=>?_) ⟨sg1,0,rfl,d1⟩) λc st2 hI=>?_)
  . obtain⟨sg,q,rfl,di⟩:=hI;refine A31 (Q:=CrP rk lo nrem i st) ?_ λr st' h=>by cases r<;>exact h
    have h3':n+1<=i:=h3;have hsz:=sg.size;refine A0K (asc1 (sg.so g) hsz i ∅ h4 ?_);refine Ag (λhc=>?_) (λhc=>?_)
    . have hlt2:=A1E hc
      have d2:∀ xs,(∀ k,RA rk xs k=RA rk (arrOf st2) k)->DI rk lo (i+1) 0 xs:=λxs hxs=>by
       refine⟨λp r hpr hr=>?_,by omega,λp h1 h2=>by rw[show p=i by omega];rfl⟩;rw[hxs,hxs]
       by_cases er:r=i
       . subst er
         by_cases ep:p=r
         . subst ep;exact A05 _
         have:=di.1 p (r-1) ∅ ∅;rw[show lo+(r-1)=lo+r-1 by omega] at this;omega
       exact di.1 p r hpr ∅
      have hq1:=di.2.1;refine Ag (λhq=>?_) (λhq=>?_)
      . refine A0K (Wg ?_)
        have eq:∀ k,RA rk (mirror (arrOf st2) (lo+i-(q+1)) (lo+i) ((lo+i-(lo+i-(q+1))) / 2)) k=RA rk (arrOf st2) k:=Mr ∅ λk h1 h2=>by have:=di.2.2 (k-lo) ∅ ∅;rwa[show lo+(k-lo)=k by omega] at this
        exact A0Y ⟨Sg.mir (i:=lo+i-(q+1)) (j:=lo+i) sg ∅ ∅,0,rfl,d2 _ eq⟩
      exact A0Y ⟨sg,0,rfl,d2 _ λ_=>rfl⟩
    have hge:¬ RA rk (arrOf st2) (lo+i)<RA rk (arrOf st2) (lo+i-1):=λe=>hc (A0H e);refine A0K (Wd O (sg.so g) (i:=lo+i-1) (j:=lo+i) ∅ ∅ ?_);refine Ag (λhl=>?_) (λhl=>?_)
    . exact A0Y ⟨sg,i,q,rfl,di,by omega⟩
    have hle:¬ RA rk (arrOf st2) (lo+i-1)<RA rk (arrOf st2) (lo+i):=λe=>hl (A0H e);refine A0Y ⟨sg,q+1,rfl,λp r hpr hr=>?_,by have:=di.2.1;omega,λp h1 h2=>?_⟩
    . by_cases er:r=i
      . subst er
        by_cases ep:p=r
        . subst ep;exact A05 _
        have:=di.1 p (r-1) ∅ ∅;rw[show lo+(r-1)=lo+r-1 by omega] at this;omega
      exact di.1 p r hpr ∅
    by_cases ep:p=i
    . subst ep;rfl
    have:=di.2.2 p ∅ ∅;rw[this,show lo+(i+1)-1=lo+i by omega];omega
  . obtain⟨sg,q,rfl,di⟩:=hI;have e:max n2 nrem=nrem:=A52 (show n+1<=nrem by omega);rw[e] at di ⊢;exact⟨sg,nrem,q,rfl,di,A05 _⟩
  obtain⟨sg,m,q,rfl,di,hm⟩:=hI;have hq1:=di.2.1;have hsz:=sg.size
  extract_lets -merge r1 s1 m1 q1 jp3
  dsimp -zeta only[r1]
  have fin:∀ st3,Sg lo st st3->Dsc rk lo m (arrOf st3)->wpS M A E s (jp3 ()) Q st3:=λst3 sg3 ds=>by
   have hsz3:=sg3.size;refine A0K (Wg ?_);have sg4:=Sg.mir (i:=lo) (j:=lo+m) sg3 (A05 _) ∅
   have as4:Z0 rk lo m (arrOf (setArr st3 (mirror (arrOf st3) lo (lo+m) ((lo+m-lo) / 2)))):=λi j hij hj=>by show RA rk (mirror _ _ _ _) _<=RA rk (mirror _ _ _ _) _;rw[Zi ∅,Zi ∅,A10 ∅,A10 ∅];have:=ds (m-1-j) (m-1-i) ∅ ∅;rwa[show lo+(lo+m)-1-(lo+i)=lo+(m-1-i) by omega,show lo+(lo+m)-1-(lo+j)=lo+(m-1-j) by omega]
   refine A0K (Ws (rk:=rk) (lo:=lo) (λx n h1 h2 Q k=>?_) (show 1<=m by omega) hm as4 λn h5 h6 h7 _=>?_)
   . refine A0K (asc1 (sg4.so g) sg4.size n h1 h2 ?_);refine Ag (λhc=>?_) (λhc=>?_)
     . rw[A10 (A1E hc)] at k;exact A0Y k
     rw[A0W (λe=>hc (A0H e))] at k;exact A0Y k
   exact A0Y (h n _ ∅ h6 sg4 h7)
  refine Ag (λhq=>?_) (λhq=>?_)
  . refine A0K (Wg ?_);refine fin _ (Sg.mir (i:=lo+m-(q+1)) (j:=lo+m) sg ∅ ∅) λi j hij hj=>?_
    have eq:∀ k,RA rk (mirror (arrOf st2) (lo+m-(q+1)) (lo+m) ((lo+m-(lo+m-(q+1))) / 2)) k=RA rk (arrOf st2) k:=Mr ∅ λk h1 h2=>by have:=di.2.2 (k-lo) ∅ ∅;rwa[show lo+(k-lo)=k by omega] at this
    show RA rk (mirror _ _ _ _) _<=RA rk (mirror _ _ _ _) _;rw[eq,eq];exact di.1 i j hij hj
  exact fin st2 sg di.1
 refine Ag (λh5=>?_) (λh5=>?_)
 . refine A0K (Wd O g ∅ ∅ ?_);refine Ag (λhr=>?_) (λhr=>?_)
   . exact A0Y (h n st hn1 hn2 (.refl _ _) hA)
   have heq:∀ i,i<n->RA rk (arrOf st) (lo+i)=RA rk (arrOf st) (lo+n-1):=λi hi=>by have q1:¬ RA rk (arrOf st) lo<RA rk (arrOf st) (lo+n-1):=λe=>hr (A0H e);have q2:=hA 0 i ∅ hi;have q3:=hA i (n-1) ∅ ∅;rw[show lo+(n-1)=lo+n-1 by omega] at q3;rw[Nat.add_zero] at q2;omega
   refine A0K (Wg ?_);refine jp_ok _ (Sg.mir (i:=lo) (j:=lo+n) (.refl lo st) (A05 _) ∅) (λk=>Mr ∅ (λk h1 h2=>?_) k) heq;have:=heq (k-lo) ∅;rwa[show lo+(k-lo)=k by omega] at this
 exact jp_ok st (.refl _ _) (λ_=>rfl) λi hi=>by rw[show i=0 by omega,show n=1 by omega];rfl
theorem au4 {xs:Array Keyed}{a d:Nat}(hs:a<xs.size)(hd:d<=a)(k:Nat):RA rk (bubble xs a d) k=if k=a-d then RA rk xs a else if a-d<k/\k<=a then RA rk xs (k-1) else RA rk xs k:=by
 have e:=getElem?_bubble hs d hd k
 by_cases c:k=a-d
 . rw[A10 c] at e ⊢;exact Kt e
 rw[A0W c] at e ⊢
 by_cases c2:a-d<k/\k<=a
 . rw[A10 c2] at e ⊢;exact Kt e
 rw[A0W c2] at e ⊢;exact Kt e
theorem Sg.bub {lo a d:Nat}{st st':SortSt}(h:Sg lo st st')(hs:a<(arrOf st').size)(hd:lo+d<=a):Sg lo st (setArr st' (bubble (arrOf st') a d)):=
 ⟨h.kd,h.pd,h.fl,(bubble_perm _ _ _).trans h.pm,λk hk=>by have e:=getElem?_bubble hs d ∅ k;rw[A0W ∅,A0W ∅] at e;exact e.trans (h.eq k hk)⟩
theorem aF0 {a b:Nat}{st:SortSt}{Q:Unit->SortSt->Prop}(h:Q () (setArr st (bubble (arrOf st) a (a-b)))):wpS M A E s (moveDown' a b) Q st:=by rw[moveDown'_eq];exact A5L h
theorem aG0 (O:Rkd M A s kd rk V){st0 st:SortSt}(g:So V kd st0){lo n ok:Nat}(sg0:Sg lo st0 st)(hn:lo+n<=(arrOf st0).size)(hok:ok<=n)(hA:Z0 rk lo ok (arrOf st)){Q:Bool->SortSt->Prop}(h:∀ st',Sg lo st0 st'->Z0 rk lo n (arrOf st')->Q true st'):wpS M A E s (binarySort' lo n ok) Q st:=by
 unfold binarySort'
 refine A0K (A31 (A27 (I:=λk c st'=>c=(none,())/\Sg lo st0 st'/\Z0 rk lo (min k n) (arrOf st'))
  (Q:=λc st'=>c=(none,())/\Sg lo st0 st'/\Z0 rk lo n (arrOf st'))
  (λk c st' h1 h2 hI=>?_) (λc st' hI=>?_) ⟨rfl,sg0,λi j hij hj=>?_⟩) λc st' hI=>?_)
 . obtain⟨rfl,sg,as⟩:=hI;rw[A3J ∅] at as;have hsz:=sg.size
   refine A0K (A31 (A27 (I:=λx c st''=>st''=st'/\∃ l r,c=(none,l,r)/\l<=r/\r<=k/\r-l<=k-x/\(∀ i,i<l->RA rk (arrOf st') (lo+i)<=RA rk (arrOf st') (lo+k))/\(∀ i,r<=i->i<k->RA rk (arrOf st') (lo+k)<RA rk (arrOf st') (lo+i)))
    (Q:=λc st''=>st''=st'/\∃ l,c=(none,l,l)/\l<=k/\(∀ i,i<l->RA rk (arrOf st') (lo+i)<=RA rk (arrOf st') (lo+k))/\(∀ i,l<=i->i<k->RA rk (arrOf st') (lo+k)<RA rk (arrOf st') (lo+i)))
    (λx c st'' _ hx hI=>?_) (λc st'' hI=>?_) ⟨rfl,0,k,rfl,by omega,by omega,by omega,λi hi=>absurd hi ∅,λi h1 h2=>absurd h1 ∅⟩) λc st'' hI=>?_)
   . obtain⟨rfl,l,r,rfl,q1,q2,q3,q4,q5⟩:=hI;refine Ag (λhc=>?_) (λhc=>?_)
     . have hc':l>=r:=hc;have:l=r:=by omega
       subst this;exact A0Y ⟨rfl,l,rfl,q2,q4,q5⟩
     have hc':¬ l>=r:=hc;refine A0K (Wd O (sg.so g) (i:=lo+k) (j:=lo+(l+r) / 2) ∅ ∅ ?_);refine Ag (λhl=>?_) (λhl=>?_)
     . have hlt:=A1E hl;refine A0Y ⟨rfl,l,(l+r) / 2,rfl,by omega,by omega,by omega,q4,λi h3 h4=>?_⟩;have:=as ((l+r) / 2) i h3 h4;omega
     have hge:¬ RA rk (arrOf st'') (lo+k)<RA rk (arrOf st'') (lo+(l+r) / 2):=λe=>hl (A0H e);refine A0Y ⟨rfl,(l+r) / 2+1,r,rfl,by omega,q2,by omega,λi h3=>?_,q5⟩;have:=as i ((l+r) / 2) ∅ ∅;omega
   . obtain⟨rfl,l,r,rfl,q1,q2,q3,q4,q5⟩:=hI;have:l=r:=by omega
     subst this;exact⟨rfl,l,rfl,q2,q4,q5⟩
   obtain⟨rfl,l,rfl,q2,q4,q5⟩:=hI;refine A0K (aF0 ?_);have sg2:=Sg.bub (a:=lo+k) (d:=lo+k-(lo+l)) sg ∅ ∅;refine A0Y ⟨rfl,sg2,?_⟩;rw[A3J ∅]
   have rb:∀ p,p<=k->RA rk (bubble (arrOf st'') (lo+k) (lo+k-(lo+l))) (lo+p)=if p=l then RA rk (arrOf st'') (lo+k) else if l<p then RA rk (arrOf st'') (lo+(p-1)) else RA rk (arrOf st'') (lo+p):=λp hp=>by
    rw[au4 ∅ ∅]
    by_cases c1:p=l
    . rw[A10 c1,A10 ∅]
    rw[A0W c1,A0W ∅]
    by_cases c2:l<p
    . rw[A10 c2,A10 ∅,show lo+p-1=lo+(p-1) by omega]
    rw[A0W c2,A0W ∅]
   intro i j hij hj;show RA rk (bubble _ _ _) _<=RA rk (bubble _ _ _) _;rw[rb i ∅,rb j ∅]
   by_cases c1:j=l
   . rw[A10 c1]
     by_cases c2:i=l
     . rw[A10 c2];exact A05 _
     rw[A0W c2,A0W ∅];exact q4 i ∅
   rw[A0W c1]
   by_cases c3:l<j
   . rw[A10 c3]
     by_cases c2:i=l
     . rw[A10 c2];exact A1O (q5 (j-1) ∅ ∅)
     rw[A0W c2]
     by_cases c4:l<i
     . rw[A10 c4];exact as _ _ ∅ ∅
     rw[A0W c4];exact as _ _ ∅ ∅
   rw[A0W c3,A0W ∅,A0W ∅];exact as _ _ hij ∅
 . obtain⟨rfl,sg,as⟩:=hI;rw[show min (max (max ok 1) n) n=n by omega] at as;exact⟨rfl,sg,as⟩
 . by_cases h0:ok=0
   . rw[show i=j by omega];exact A05 _
   exact hA i j hij ∅
 obtain⟨rfl,sg,as⟩:=hI;exact A0Y (h st' sg as)
end
def pnd:Nat->List (List Keyed)->List (Nat×Nat)
 |_,[]=>[]
 |p,r :: rs=>(p,r.length) :: pnd (p+r.length) rs
theorem Nj:∀(X Y:List (List Keyed)) (p:Nat),pnd p (X++Y)=pnd p X++pnd (p+X.flatten.length) Y
 | [],Y,p=>by simp[pnd]
 |r :: X,Y,p=>by simp only[List.cons_append,pnd,Nj X Y,List.flatten_cons,List.length_append,Nat.add_assoc]
theorem Jf:∀(X:List (List Keyed)) (p:Nat),(pnd p X).length=X.length
 | [],_=>rfl
 |r :: X,p=>by rw[pnd,A0G,A0G,Jf X]
def Pnd (pend:Array (Nat×Nat×Nat))(rs:List (List Keyed)):Prop:=pend.toList.map (λt=>(t.1,t.2.1))=pnd 0 rs
theorem Pnd.size {pend:Array (Nat×Nat×Nat)}{rs:List (List Keyed)}(h:Pnd pend rs):pend.size=rs.length:=by have:=congrArg List.length h;rwa[A00,Jf,A1B] at this
theorem Pnd.at {pend:Array (Nat×Nat×Nat)}{X Y:List (List Keyed)}{r:List Keyed}(h:Pnd pend (X++r :: Y)):∃ pw,pend[X.length]? = some (X.flatten.length,r.length,pw):=by
 have h1:(pend.toList.map (λt=>(t.1,t.2.1)))[X.length]? = some (X.flatten.length,r.length):=by rw[h,Nj,A0T (by rw[Jf];exact A05 _),Jf,A2H,A4B];rfl
 rw[A07,A0P] at h1
 cases e:pend[X.length]? with
 |none=>rw[e] at h1;cases h1
 |some t=>
   rw[e] at h1;obtain⟨t1,t2,t3⟩:=t
   cases h1;exact⟨t3,rfl⟩
theorem Pnd.merge {pend:Array (Nat×Nat×Nat)}{X Y:List (List Keyed)}{ra rb rm:List Keyed}{pw:Nat}(h:Pnd pend (X++ra :: rb :: Y))(hm:rm.length=ra.length+rb.length) :
  Pnd ((pend.setIfInBounds X.length (X.flatten.length,ra.length+rb.length,pw)).eraseIdxIfInBounds (X.length+1)) (X++rm :: Y):=by
 have hs:=h.size;rw[A04,A0G,A0G] at hs;unfold Pnd at h ⊢;rw[Array.toList_eraseIdxIfInBounds,Array.toList_setIfInBounds,List.eraseIdx_eq_take_drop_succ,A0A,A3M,A32,List.map_set,h,<- List.eraseIdx_eq_take_drop_succ,Nj,Nj];rw[List.set_append_right _ _ (by rw[Jf];exact A05 _),Jf,A2H,List.eraseIdx_append_of_length_le (by rw[Jf];omega),Jf,A3Z];simp only[pnd,List.set_cons_zero,List.eraseIdx_cons_succ,List.eraseIdx_cons_zero,Nat.zero_add,hm,Nat.add_assoc]
theorem Pnd.push {pend:Array (Nat×Nat×Nat)}{rs:List (List Keyed)}{r:List Keyed}{lo n:Nat}(h:Pnd pend rs)(hl:lo=rs.flatten.length)(hn:n=r.length):Pnd (pend.push (lo,n,0)) (rs++[r]):=by unfold Pnd at h ⊢;rw[Array.toList_push,A0A,h,Nj,A4B,hl,hn];rfl
theorem Pnd.mod {pend:Array (Nat×Nat×Nat)}{rs:List (List Keyed)}(h:Pnd pend rs)(i pw:Nat):Pnd (pend.modify i λ(p:Nat×Nat×Nat)=>(p.1,p.2.1,pw)) rs:=by
 unfold Pnd at h ⊢;rw[<- h];refine List.ext_getElem? λk=>?_;rw[A07,A07,A0P,A0P,Array.getElem?_modify]
 split
 . cases pend[k]? <;> rfl
 rfl
structure Rs (rk:Value->Nat)(V:Value->Prop)(kd:SortKind)(L:List Keyed)(st:SortSt)(rs:List (List Keyed))(rest:List Keyed):Prop where
 so:So V kd st
 arr:(arrOf st).toList=rs.flatten++rest
 pm:(arrOf st).toList.Perm L
 up:∀ r∈rs,upL rk r/\r≠[]
 pd:Pnd (pendingOf st) rs
section
variable {M:Model}{A:Around}{E:Value->Shared->Prop}{s:Shared}{kd:SortKind}{rk:Value->Nat}{V:Value->Prop}{L:List Keyed}
theorem aj7 (O:Rkd M A s kd rk V){st:SortSt}{X Y:List (List Keyed)}{ra rb rest:List Keyed}(h:Rs rk V kd L st (X++ra :: rb :: Y) rest){i:Nat}(hi:i=X.length){Q:Bool->SortSt->Prop}(k:∀ rm st',Rs rk V kd L st' (X++rm :: Y) rest->Q true st'):wpS M A E s (mergeAt' i) Q st:=by
 subst hi;obtain⟨pw,hp1⟩:=h.pd.at;obtain⟨pw2,hp2⟩:=Pnd.at (X:=X++[ra]) (Y:=Y) (r:=rb) (by rw[A17];exact h.pd);rw[A04,A0S,A3U,A56,A04] at hp2;have ha:=h.up ra (by simp);have hb:=h.up rb (by simp);have hA:(arrOf st).toList=X.flatten++(ra++(rb++(Y.flatten++rest))):=by rw[h.arr];simp
 have mem:∀ x,x∈ra\/x∈rb->V x.1:=λx hx=>h.so.all x (by rw[hA];rcases hx with q|q<;>simp[q])
 refine aD4 O h.so.kd h.so.fl hA ha.1 hb.1 ha.2 hb.2 (λx hx=>mem x (.inl hx)) (λx hx=>mem x (.inr hx)) hp1 hp2 λrm st' hm hu hA' hk hf hpd=>?_
 have hpm:(arrOf st').toList.Perm (arrOf st).toList:=by rw[hA,hA'];have:=(hm.append_right (Y.flatten++rest)).append_left X.flatten;simpa only[List.append_assoc] using this
 refine k rm st' ⟨⟨hk,hf,λp hp=>h.so.all p (hpm.mem_iff.mp hp)⟩,by rw[hA'];simp,hpm.trans h.pm,λr hr=>?_,by rw[hpd];exact h.pd.merge (hm.length_eq.trans (List.length_append ..))⟩;rcases A0C.mp hr with q|q
 . exact h.up r (by simp[q])
 rcases A0N.mp q with q|q
 . rw[q];refine⟨hu,λe=>ha.2 ?_⟩;have:=hm.length_eq;rw[e,A2N,A04] at this;exact A0D.mp ∅
 exact h.up r (by simp[q])
theorem ah9 {α:Type}{rs:List α}{i:Nat}(h:i+1<rs.length):∃ X ra rb Y,rs=X++ra :: rb :: Y/\X.length=i:=by refine⟨rs.take i,rs[i],rs[i+1],rs.drop (i+2),?_,by rw[A0J];omega⟩;rw[A3F,A3F,A2O]
theorem au8 {lo n:Nat}{st st':SortSt}{F R:List Keyed}(sg:Sg lo st st')(as:Z0 rk lo n (arrOf st'))(hA:(arrOf st).toList=F++R)(hl:lo=F.length)(hn:lo+n<=(arrOf st).size):∃ r R',(arrOf st').toList=F++(r++R')/\r.length=n/\upL rk r:=by
 have hsz:(arrOf st').toList.length=(arrOf st).toList.length:=by rw[A1B,A1B];exact sg.size
 have hF:(arrOf st').toList.take lo=F:=by
  refine List.ext_getElem? λk=>?_
  by_cases hk:k<lo
  . rw[A2D hk,A0P,sg.eq k hk,<- A0P,hA,A18 ∅]
  rw[A5C (by rw[A0J];omega),A5C ∅]
 refine⟨((arrOf st').toList.drop lo).take n,((arrOf st').toList.drop lo).drop n,?_,?_,?_⟩
 . rw[A2O]
   conv=>lhs;rw[<- List.take_append_drop lo (arrOf st').toList,hF]
 . rw[A0J,A1G,hsz,A1B];omega
 refine A28.mpr λi j hi hj hij=>?_;rw[A0J] at hi hj
 have at_:∀ k (hk:k<(((arrOf st').toList.drop lo).take n).length),RA rk (arrOf st') (lo+k)=rk ((((arrOf st').toList.drop lo).take n)[k]).1:=λk hk=>aq0 (by have hk':=hk;rw[A0J] at hk';have e:=A03 hk;rw[A2D ∅,A3Y,A0P] at e;exact e)
 rw [<- at_,<- at_];exact as i j ∅ ∅
theorem af3:∀(f n r:Nat),1<=n->1<=minRun' f n r
 |0,n,r,h=>by show 1<=n+r;omega
 |f+1,n,r,h=>by
   rw[minRun'_succ]
   split
   . omega
   exact af3 f _ _ ∅
theorem a70:∀ {rs:List (List Keyed)},(∀ r∈rs,r≠[])->rs.length<=rs.flatten.length
 | [],_=>A05 _
 |r :: rs,h=>by have h1:=A3T.mpr (h r A0E);have h2:=a70 λr' hr'=>h r' (A09 _ hr');rw[A3L,A04,A0G];omega
def SrP (rk:Value->Nat)(V:Value->Prop)(kd:SortKind)(L:List Keyed)(x:Nat):ForInStep (Option Unit×Nat)->SortSt->Prop
 |.done c,st'=>c.1=none/\∃ rs,Rs rk V kd L st' rs []
 |.yield c,st'=>∃ rs rest,c=(none,rs.flatten.length)/\Rs rk V kd L st' rs rest/\(x+1<=rs.flatten.length\/rest=[])
theorem aH8 (O:Rkd M A s kd rk V){st:SortSt}(g:So V kd st)(hp:pendingOf st = #[]){Q:Unit->SortSt->Prop}(h:∀ st',(arrOf st').toList.Perm (arrOf st).toList->upL rk (arrOf st').toList->failedOf st'=none->Q () st'):wpS M A E s sortRuns' Q st:=by
 unfold sortRuns';refine A0K (A5G ?_)
 extract_lets -merge size mr lo0
 have hsize:size=(arrOf st).toList.length:=(A1B ..).symm;have r0:Rs rk V kd (arrOf st).toList st [] (arrOf st).toList:=⟨g,rfl,A4A _,λr hr=>(nomatch hr),by rw[hp];rfl⟩;have mrp:1<=size->1<=mr:=λh=>af3 size size 0 h
 refine A0K (A31 (A27 (I:=λx c st'=>∃ rs rest,c=(none,rs.flatten.length)/\Rs rk V kd (arrOf st).toList st' rs rest/\(x<=rs.flatten.length\/rest=[]))
  (Q:=λc st'=>c.1=none/\∃ rs,Rs rk V kd (arrOf st).toList st' rs [])
  (λx c st1 _ hx hI=>?_) (λc st1 hI=>?_) ⟨[],_,rfl,r0,.inl (A2C _)⟩) λc st1 hI=>?_)
 . obtain⟨rs,rest,rfl,r1,hor⟩:=hI;have hlen:=r1.pm.length_eq;rw[r1.arr,A04] at hlen;have hsz1:(arrOf st1).size=size:=by rw[hsize,<- r1.pm.length_eq,A1B]
   refine A31 (Q:=SrP rk V kd (arrOf st).toList x) ?_ λr st' h=>by cases r<;>exact h
   refine Ag (λhc=>?_) (λhc=>?_)
   . have hc':rs.flatten.length>=size:=hc;have h0:rest=[]:=A0D.mp ∅;exact A0Y ⟨rfl,rs,h0 ▸ r1⟩
   have hc':¬ rs.flatten.length>=size:=hc;refine A0K (aG4 O r1.so (lo:=rs.flatten.length) (nrem:=size-rs.flatten.length) ∅ ∅ λn st2 hn1 hn2 sg2 as2=>?_);dsimp -zeta only
   extract_lets -merge n0 jp
   have jp_ok:∀ n2 st3,1<=n2->n2<=size-rs.flatten.length->Sg rs.flatten.length st1 st3->Z0 rk rs.flatten.length n2 (arrOf st3)->wpS M A E s (jp () n2) (SrP rk V kd (arrOf st).toList x) st3:=λn2 st3 h1 h2 sg as=>by
    obtain⟨r,R',hA3,hrl,hur⟩:=au8 sg as r1.arr rfl ∅;have r3:Rs rk V kd (arrOf st).toList st3 rs (r++R'):=⟨sg.so r1.so,hA3,(Array.perm_iff_toList_perm.mp sg.pm).trans r1.pm,r1.up,by rw[sg.pd];exact r1.pd⟩;refine A0K (A5G ?_)
    extract_lets -merge lo2 jp2
    have jp2_ok:∀ st4 rs4,Rs rk V kd (arrOf st).toList st4 rs4 (r++R')->rs4.flatten.length=rs.flatten.length->wpS M A E s (jp2 ()) (SrP rk V kd (arrOf st).toList x) st4:=λst4 rs4 r4 hl=>by
     refine A0K (A5L ?_);have hfl:(rs4++[r]).flatten.length=rs.flatten.length+n2:=by rw[A3U,A56,A04,hl,hrl]
     refine A0Y ⟨rs4++[r],R',?_,⟨⟨r4.so.kd,r4.so.fl,r4.so.all⟩,?_,r4.pm,λr' hr'=>?_,r4.pd.push hl.symm hrl.symm⟩,.inl ?_⟩
     . rw[hfl]
     . rw[A3U,A56,A17];exact r4.arr
     . rcases A0C.mp hr' with q|q
       . exact r4.up r' q
       rw[A0X.mp q];exact⟨hur,λe=>by rw[e,A2N] at hrl;omega⟩
     rw[hfl];rcases hor with q|q
     . omega
     rw[q,A2N] at hlen;omega
    have flat:∀ {st4 st5 rs4 rs5},Rs rk V kd (arrOf st).toList st4 rs4 (r++R')->Rs rk V kd (arrOf st).toList st5 rs5 (r++R')->rs5.flatten.length=rs4.flatten.length:=fun {st4 st5 rs4 rs5} q4 q5=>by have e:=q4.pm.length_eq.trans q5.pm.length_eq.symm;rw [q4.arr,q5.arr] at e;simp only[List.length_append] at e;omega
    cases hb:(pendingOf st3).back? with
    |none=>exact jp2_ok st3 rs r3 rfl
    |some t=>
      obtain⟨s1,n1,z⟩:=t
      refine A0K (A31 (A27 (I:=λ_ c st'=>c=(none,())/\∃ rs4,Rs rk V kd (arrOf st).toList st' rs4 (r++R'))
       (Q:=λc st'=>c=(none,())/\∃ rs4,Rs rk V kd (arrOf st).toList st' rs4 (r++R')) (λ_ c st4 _ _ hI=>?_) (λc st4 hI=>hI) ⟨rfl,rs,r3⟩) λc st4 hI=>?_)
      . obtain⟨rfl,rs4,r4⟩:=hI;have hsz:=r4.pd.size;refine A0K (A5G ?_)
        extract_lets -merge p
        by_cases h1:p.size>1
        . have h1':(pendingOf st4).size>1:=h1;obtain⟨X,ra,rb,Y,rfl,hX⟩:=ah9 (rs:=rs4) (i:=rs4.length-2) ∅;obtain⟨pw',hat⟩:=r4.pd.at;have hpx:p.size-2=X.length:=by rw[hX,<- hsz]
          have e:(if p.size>1 then p[p.size-2]? else none)=some (X.flatten.length,ra.length,pw'):=by rw[A10 h1,hpx];exact hat
          rw[e];refine Ag (λ_=>A0Y ⟨rfl,_,r4⟩) (λ_=>?_);refine A0K (aj7 O r4 hpx λrm st5 r5=>?_);exact Ag (λhb=>absurd hb nofun) (λ_=>A0Y ⟨rfl,_,r5⟩)
        have e:(if p.size>1 then p[p.size-2]? else none)=none:=A0W h1
        rw[e];exact A0Y ⟨rfl,_,r4⟩
      obtain⟨rfl,rs4,r4⟩:=hI;refine A0K (A5L ?_);exact jp2_ok _ rs4 ⟨⟨r4.so.kd,r4.so.fl,r4.so.all⟩,r4.arr,r4.pm,r4.up,r4.pd.mod _ _⟩ (flat r3 r4)
   refine Ag (λhm=>?_) (λhm=>?_)
   . have hm':n<mr:=hm;have mr1:=mrp ∅;refine A0K (wpS_lift (A46 ⟨rfl,?_⟩));refine A0K (aG0 O r1.so (lo:=rs.flatten.length) (n:=min (size-rs.flatten.length) mr) sg2 ∅ (show n<=min (size-rs.flatten.length) mr by omega) as2 λst3 sg3 as3=>?_);refine Ag (λhb=>absurd hb nofun) (λ_=>?_);exact jp_ok _ st3 (show 1<=min (size-rs.flatten.length) mr by omega) (Nat.min_le_left _ _) sg3 as3
   exact jp_ok n st2 hn1 hn2 sg2 as2
 . obtain⟨rs,rest,rfl,r1,hor⟩:=hI;have hlen:=r1.pm.length_eq;rw[r1.arr,A04] at hlen;refine⟨rfl,rs,?_⟩
   have h0:rest=[]:=by
    rcases hor with q|q
    . rw[A52 (A2C _)] at q;exact A0D.mp ∅
    exact q
   exact h0 ▸ r1
 obtain⟨hc1,rs,r1⟩:=hI;obtain⟨c1,c2⟩:=c;dsimp only at hc1;subst hc1
 have hrl:rs.length<=size:=by have hlen:=r1.pm.length_eq;rw[r1.arr,A19] at hlen;rw[hsize,<- hlen];exact a70 λr hr=>(r1.up r hr).2
 refine A0K (A31 (A27 (I:=λx c st'=>c=(none,())/\∃ rs,Rs rk V kd (arrOf st).toList st' rs []/\(rs.length+x<=size\/rs.length<=1))
  (Q:=λc st'=>c=(none,())/\∃ rs,Rs rk V kd (arrOf st).toList st' rs []/\rs.length<=1) (λx c st4 _ _ hI=>?_) (λc st4 hI=>?_) ⟨rfl,rs,r1,.inl hrl⟩) λc st4 hI=>?_)
 . obtain⟨rfl,rs,r4,hor⟩:=hI;have hsz:=r4.pd.size;refine A0K (A5G ?_);refine Ag (λh1=>?_) (λh1=>?_)
   . have h1':(pendingOf st4).size<=1:=h1;exact A0Y ⟨rfl,rs,r4,by omega⟩
   have h1':¬ (pendingOf st4).size<=1:=h1
   extract_lets -merge i0 bf i1
   have hi:i1<=rs.length-2:=by
    have e0:i0=rs.length-2:=by show(pendingOf st4).size-2=_;rw[hsz]
    have key:∀(b:Bool) (n m:Nat),n<=m->(if b=true then n-1 else n)<=m:=λb n m h=>by split<;>omega
    exact key _ _ _ (Nat.le_of_eq e0)
   obtain⟨X,ra,rb,Y,rfl,hX⟩:=ah9 (rs:=rs) (i:=i1) ∅;refine A0K (aj7 O r4 hX.symm λrm st5 r5=>?_);refine Ag (λhb=>absurd hb nofun) (λ_=>A0Y ⟨rfl,_,r5,?_⟩);rw[A04,A0G,A0G] at hor;rw[A04,A0G];omega
 . obtain⟨rfl,rs,r4,hor⟩:=hI;rw[A52 (A2C _)] at hor;exact⟨rfl,rs,r4,by omega⟩
 obtain⟨rfl,rs,r4,hl⟩:=hI;refine A0Y (h st4 r4.pm ?_ r4.so.fl);rw[r4.arr,A19]
 match rs,hl,r4 with
 | [],_,_=>exact A2L
 | [r],_,r4=>rw[List.flatten_singleton];exact(r4.up r (by simp)).1
end
def rLt:List Str->List Str->Bool
 |x :: xs,y :: ys=>if x=y then rLt xs ys else decide (x.cps.toList<y.cps.toList)
 | [],_ :: _=>true
 |_,[]=>false
theorem Yo:∀ r:List Str,rLt r r=false
 | []=>rfl
 |x :: r=>by rw[rLt,A10 rfl];exact Yo r
theorem Y9:∀ {p q t:List Str},rLt p q=true->rLt q t=true->rLt p t=true
 | [],[],t,h,_=>by cases h
 | [],y :: q,[],_,h=>by cases h
 | [],y :: q,z :: t,_,_=>rfl
 |x :: p,[],t,h,_=>by cases h
 |x :: p,y :: q,[],_,h=>by cases h
 |x :: p,y :: q,z :: t,h1,h2=>by
   rw[rLt] at h1 h2 ⊢
   by_cases c1:x=y
   . rw[A10 c1] at h1
     by_cases c2:y=z
     . rw[A10 c2] at h2;rw[A10 (c1.trans c2)];exact Y9 h1 h2
     rw[A0W c2] at h2;rw[A0W (by rw[c1];exact c2),c1];exact h2
   rw[A0W c1] at h1
   by_cases c2:y=z
   . rw[A0W (by rw[<- c2];exact c1),<- c2];exact h1
   rw[A0W c2] at h2;have h3:=List.lt_trans (A1E h1) (A1E h2)
   have c3:¬ x=z:=λe=>by rw[e] at h3;exact List.lt_irrefl _ h3
   rw[A0W c3];exact A0H h3
theorem Uo:∀ {p q:List Str},rLt p q=false->rLt q p=false->p=q
 | [],[],_,_=>rfl
 | [],y :: q,h,_=>by cases h
 |x :: p,[],_,h=>by cases h
 |x :: p,y :: q,h1,h2=>by
   rw[rLt] at h1 h2
   by_cases c:x=y
   . rw[A10 c] at h1;rw[A10 c.symm] at h2;rw[c,Uo h1 h2]
   rw[A0W c] at h1;rw[A0W λe=>c e.symm] at h2;exact absurd (aC5 (List.le_antisymm (List.not_lt.mp (A2J h2)) (List.not_lt.mp (A2J h1)))) c
def rkR (rows:List (List Str)) (r:List Str):Nat:=(rows.filter λk=>rLt k r).length
theorem ae9 {rows:List (List Str)}{r r':List Str}(hr:r∈rows):decide (rkR rows r<rkR rows r')=rLt r r':=by
 cases c:rLt r r' with
 |true=>exact A0H (K1 (λk _ hk=>Y9 hk c) ⟨r,hr,c,Yo _⟩)
 |false=>
   refine A11 (Nat.not_lt.mpr ?_);unfold rkR;rw[<- List.countP_eq_length_filter,<- List.countP_eq_length_filter];apply List.countP_mono_left;intro k _ hk
   cases c2:rLt r' r with
   |true=>exact Y9 hk c2
   |false=>rw[Uo c c2];exact hk
def Qc (rows:List (List Str)):Prop:=rows.Pairwise λx y=>rLt y x=false
theorem Vf {a b:List (List Str)}(hp:a.Perm b)(ha:Qc a)(hb:Qc b):a=b:=
 List.Perm.eq_of_pairwise (λx y _ _ h1 h2=>Uo h2 h1) ha hb hp
section
variable {prog:Program}{w:World}{A:Around}{E:Value->Shared->Prop}{z:Shared}
def RwT (h:Heap)(v:Value)(r:List Str):Prop:=∃ a o n us,v = .ref a/\h.get? a=some o/\o.cls = .type "tuple" /\ o.data = .seq us n/\Paired (λ(x:Str) (u:Value)=>∃ t,u = .str x t) r us.toList
theorem RwT.keep {h h':Heap}{v:Value}{r:List Str}(x:RwT h v r)(k:∀ b o,h.get? b=some o->o.cls = .type "tuple" -> h'.get? b=some o):RwT h' v r:=by obtain⟨a,o,n,us,e,h1,h2,h3⟩:=x;exact⟨a,o,n,us,e,k a o h1 h2,h2,h3⟩
theorem RwT.one {h:Heap}{v:Value}{r r':List Str}(x:RwT h v r)(y:RwT h v r'):r=r':=by
 obtain⟨a,o,n,us,rfl,h1,_,h3,h4⟩:=x;obtain⟨a',o',n',us',e,g1,_,g3,g4⟩:=y
 cases e;rw[h1] at g1
 cases g1;rw[h3] at g3
 cases g3
 have go:∀ {r r':List Str} {us:List Value},Paired (λ(x:Str) (u:Value)=>∃ t,u = .str x t) r us->Paired (λ(x:Str) (u:Value)=>∃ t,u = .str x t) r' us->r=r':=fun {r r' us} p=>by
  induction p generalizing r' with
  |nil=>intro q;cases q;rfl
  |cons c t ih=>
    intro q
    cases q with
    |cons c' t'=>
      obtain⟨t1,rfl⟩:=c;obtain⟨t2,e⟩:=c'
      cases e;rw[ih t']
 exact go h4 g4
theorem ae6 {Q:Bool->Shared->Prop}:∀ {r r':List Str} {us us':List Value} (i:Nat),Paired (λ(x:Str) (u:Value)=>∃ t,u = .str x t) r us->Paired (λ(x:Str) (u:Value)=>∃ t,u = .str x t) r' us'->r.length=r'.length->Q (rLt r r') z->W.KatLex prog w A true false Q (us.zip us') i z
 | [],[],_,_,i,.nil,.nil,_,h=>W.kat_nil h
 | [],_ :: _,_,_,_,_,_,hl,_=>by cases hl
 |_ :: _,[],_,_,_,_,_,hl,_=>by cases hl
 |x :: r,y :: r',_,_,i,.cons c t,.cons c' t',hl,h=>by
   obtain⟨t1,rfl⟩:=c;obtain⟨t2,rfl⟩:=c';rw[List.zip_cons_cons];refine W.kat_cons (wpAny_eqBool_str (W.kat_go (λe=>W.kat_yes (ae6 (i+1) t t' (by simpa using hl) ?_)) λe=>W.kat_no ?_))
   . rw[rLt,A10 (A1E e)] at h;exact h
   rw[rLt,A0W (A2J e)] at h
   by_cases hi:i=0
   . subst hi;exact oneLt_str h
   rw[show(true&&i==0)=false by simp[hi]];exact W.kat_one _ _ (PySem.P.lt_str h)
theorem aF1 {v u:Value}{r r':List Str}{Q:Bool->Shared->Prop}(hv:RwT z.heap v r)(hu:RwT z.heap u r')(hl:r.length=r'.length)(h:Q (rLt r r') z):wpAny (model prog w) A (keyLt' (tuples' true) v u) Q E z:=by obtain⟨a,o,n,us,rfl,ho,hc,hd,hp⟩:=hv;obtain⟨a',o',n',us',rfl,ho',hc',hd',hp'⟩:=hu;refine W.kat_lt ho hd ho' hd' ?_;have e1:=hp.length;have e2:=hp'.length;have l1:us.toList.length=us.size:=A1B ..;have l2:us'.toList.length=us'.size:=A1B ..;rw[A11 (show ¬ us.size<us'.size by omega)];exact ae6 0 hp hp' hl h
def rkV (h:Heap)(rows:List (List Str))(v:Value):Nat:=@dite Nat (∃ r,r∈rows/\RwT h v r) (Classical.propDecidable _) (λe=>rkR rows e.choose) λ_=>0
theorem a78 {h:Heap}{rows:List (List Str)}{v:Value}{r:List Str}(hr:r∈rows)(hv:RwT h v r):rkV h rows v=rkR rows r:=by have e:∃ r,r∈rows/\RwT h v r:=⟨r,hr,hv⟩;unfold rkV;rw[dif_pos e,e.choose_spec.2.one hv]
theorem at7 {h:Heap}:∀ {ws:List Value} {rows:List (List Str)},Paired (RwT h) ws rows->(∀ r∈rows,r≠[])->∃ fs,W.KatTups h ws fs/\fs.length=ws.length/\∀ v∈fs,∃ x t,v = .str x t
 |_,_,.nil,_=>⟨[],.nil,rfl,λ_ h=>by cases h⟩
 |_, _,.cons r t,hne=>by
   obtain⟨fs,h1,h2,h3⟩:=at7 t λr' hr'=>hne r' (A09 _ hr');obtain⟨a,o,n,us,rfl,ho,hc,hd,hp⟩:=r
   cases hp':us.toList with
   |nil=>
     rw[hp'] at hp
     cases hp;exact absurd rfl (hne [] A0E)
   |cons u us'=>
     have hu:us[0]? = some u:=by rw[<- A0P,hp'];rfl
     rw[hp'] at hp
     cases hp with
     |cons c t'=>
       obtain⟨t1,rfl⟩:=c;refine⟨_ :: fs,.cons ho hc hd hu h1,by simp[h2],λv hv=>?_⟩;rcases A0N.mp hv with rfl|hv
       . exact⟨_,_,rfl⟩
       exact h3 v hv
def aE6 (h:Heap)(rows:List (List Str))(ws out:List Value):Prop:=out.Perm ws/\out.Pairwise λu v=>rkV h rows u<=rkV h rows v
theorem a71 {a:Addr}{ws:List Value}{rows:List (List Str)}{n m:Nat}{P:PySem.Fin->Shared->Prop}(hA:z.heap.get? a=some (seqObj "list" ws.toArray n))(hp:Paired (RwT z.heap) ws rows)(hm:∀ r∈rows,r.length=m)(hne:1<=m\/ws.length<2)(hmax:ws.length<=1000)
  (h:∀(h0:Heap) (out:List Value),(∀ b o,z.heap.get? b=some o->o.cls = .type "tuple" -> h0.get? b=some o)->aE6 h0 rows ws out->out.length=ws.length->P (.done (.ret .none)) {z with heap:=sortedHeap z.heap a ws out.toArray}):wpAny (model prog w) A (Builtin.«list.sort» ⟨[.ref a],[]⟩) P E z:=by
 rw[list_sort_plain];have haz:a<z.heap.objs.size:=A0L hA;refine A08 (listItems_at hA rfl ?_);refine A08 (listUpdate_at hA rfl ?_ (by rw[A0V,A1N];omega) (A2C _));obtain⟨e1,hA1⟩:∃ e1,(z.heap.update a (Obj.mapSeq λ_=>#[])).get? a=some (seqObj "list" #[] e1):=⟨_,get?_update_seq hA (λ_=>#[])⟩;refine A08 (seqEpoch_at hA1 rfl ?_);refine A08 (wpAny_newTuple ?_ (by show ws.length<=_;rw[A1N];omega));refine A08 (wpAny_newList ?_ (A2C _));refine A3A ?_;obtain⟨h6,eh6⟩:∃ h6,h6=((z.heap.update a (Obj.mapSeq λ_=>#[])).push (seqObj "tuple" ws.toArray 0)).push (seqObj "list" #[] 0):=⟨_,rfl⟩;have hA6:h6.get? a=some (seqObj "list" #[] e1):=by rw[eh6];exact A06 _ (A06 _ hA1)
 have kp:∀ b o,z.heap.get? b=some o->o.cls = .type "tuple" -> h6.get? b=some o:=λb o e c=>by
  have hba:b≠a:=λq=>by
   rw[q,hA] at e
   cases e;exact absurd c (by simp[seqObj])
  rw[eh6];exact A06 _ (A06 _ ((Heap.get?_update_ne _ _ _ _ hba).trans e))
 have fin:∀ out:List Value,aE6 h6 rows ws out->out.length=ws.length->P (.done (.ret .none)) {z with heap:=h6.update a (Obj.mapSeq λ_=>out.toArray)}:=λout ho hl=>by have:=h h6 out kp ho hl;rw[eh6];exact this
 show wpAny (model prog w) A _ P E {z with heap:=((z.heap.update a (Obj.mapSeq λ_=>#[])).push (seqObj "tuple" ws.toArray 0)).push (seqObj "list" #[] 0)}
 rw[<- eh6];dsimp only;have hp6:Paired (RwT h6) ws rows:=Paired.mapP hp λv p x=>x.keep kp
 have ez':(ws.toArray.zip ws.toArray).map (·.2)=ws.toArray:=by apply Array.toList_inj.mp;rw[Array.toList_map,Array.toList_zip];exact List.map_snd_zip (A05 _)
 by_cases h2:ws.toArray.size<2
 . rw[A10 h2,A10 h2];refine A08 (A0M ?_);rw[StateT.run_pure];refine A08 (A0M ?_);dsimp only;refine A08 (seqEpoch_at hA6 rfl ?_);refine A08 (listUpdate_at hA6 rfl ?_ (A2C _) (by rw[ez',A0V,A1N];omega));simp only[bne_self_eq_false,Bool.false_eq_true,if_false];refine A0M ?_;rw[ez'];have hl2:ws.length<2:=by simpa using h2
   refine fin ws ⟨A4A _,?_⟩ rfl
   match ws,hl2 with
   | [],_=>exact A2L
   | [v],_=>exact A26 _ _
 rw[A0W h2,A0W h2]
 have hl2:2<=ws.length:=by
  have:¬ ws.length<2:=by simpa using h2
  omega
 have hm1:1<=m:=hne.resolve_right ∅;have hne':∀ r∈rows,r≠[]:=λr hr e=>by have:=hm r hr;rw[e,A2N] at this;omega
 obtain⟨fs6,ft6,fl6,fstr6⟩:=at7 hp6 hne';refine A08 (W.kat_kind (T:=.type "str") ft6 ∅ (λv hv=>?_) nofun ?_)
 . obtain⟨x,t,rfl⟩:=fstr6 v hv;exact W.Looks.of_pure rfl
 rw[show(Value.type "str" != Value.type "tuple")=true by decide]
 have hrow:∀ v∈ws,∃ r∈rows,RwT h6 v r:=λv hv=>by obtain⟨i,hi⟩:=A4H hv;have hil:=(A01.mp hi).1;have hpl:=hp6.length;have:=L8 hp6 (i:=i) (dx:=Value.none) (dy:=[]) hil;rw[A1W,hi,A1W,A03 (show i<rows.length by omega)] at this;exact⟨_,A2K _,this⟩
 have O:Rkd (model prog w) A {z with heap:=h6} (tuples' true) (rkV h6 rows) (λv=>v∈ws):=⟨λx y hx hy Q E' k=>by obtain⟨r,hr,hxr⟩:=hrow x hx;obtain⟨r',hr',hyr⟩:=hrow y hy;refine aF1 hxr hyr ((hm r hr).trans (hm r' hr').symm) ?_;rw[a78 hr hxr,a78 hr' hyr,ae9 hr] at k;exact k⟩
 have hz1:∀ p∈(ws.toArray.zip ws.toArray).toList,p.1=p.2/\p.1∈ws:=λp hp=>by rw[Array.toList_zip] at hp;obtain⟨i,hi,rfl⟩:=A2W hp;rw[List.getElem_zip];exact⟨rfl,A2K _⟩
 have hz2:(ws.toArray.zip ws.toArray).toList.map (·.2)=ws:=by rw[<- Array.toList_map,ez']
 have run:=aH8 (E:=E) O (st:=SortSt.mk' (tuples' true) (ws.toArray.zip ws.toArray) #[] 7 none) ⟨rfl,rfl,λp hp=>(hz1 p hp).2⟩ rfl (Q:=λ_ st'=>(arrOf st').toList.Perm (ws.toArray.zip ws.toArray).toList/\upL (rkV h6 rows) (arrOf st').toList/\failedOf st'=none) λst' q1 q2 q3=>⟨q1,q2,q3⟩;refine A08 (A34 run ?_ λ_ _ e=>e);rintro⟨⟨⟩,st'⟩ s' ⟨rfl,b1,b2,b3⟩;dsimp only at b1 b2 b3 ⊢;have hout:((arrOf st').map (·.2))=((arrOf st').toList.map (·.2)).toArray:=by rw[<- Array.toList_map]
 have hper:((arrOf st').toList.map (·.2)).Perm ws:=by have:=b1.map (·.2);rwa[hz2] at this
 have hsz:=hper.length_eq;rw[hout];refine A08 (seqEpoch_at hA6 rfl ?_);refine A08 (listUpdate_at hA6 rfl ?_ (A2C _) (by rw[A0V,hsz,A1N];omega));rw[b3];simp only[bne_self_eq_false,Bool.false_eq_true,if_false];refine A0M (fin _ ⟨hper,?_⟩ hsz);refine List.Pairwise.map _ (λp q hpq=>hpq) (A4W (fun {p q} hp hq hpq=>?_) b2);rw[<- (hz1 p (b1.mem_iff.mp hp)).1,<- (hz1 q (b1.mem_iff.mp hq)).1];exact hpq
theorem Mp {t:Addr}{ws:List Value}{rows:List (List Str)}{T:String}{n m:Nat}{o:Obj}{Q:Value->Shared->Prop}(hT:T = "list" \/ T = "tuple")(ho:z.heap.get? t=some o)(hc:o.cls = .type T)(hd:o.data = .seq ws.toArray n)(hP:Paired (RwT z.heap) ws rows)(hm:∀ r∈rows,r.length=m)(hne:1<=m\/ws.length<2)(hmax:ws.length<=1000)
  (h:∀(h0 h1 h':Heap) (out:List Value) (e:Nat),(∀ b o,z.heap.get? b=some o->o.cls = .type "tuple" -> h0.get? b=some o)->(∀ b ob,z.heap.get? b=some ob->h1.get? b=some ob)->(∀ b ob,h1.get? b=some ob->h'.get? b=some ob)->h'.get? h1.objs.size=some (seqObj "list" out.toArray e)->aE6 h0 rows ws out->out.length=ws.length->Q (.ref h1.objs.size) {z with heap:=h'}) :
  wpAny (model prog w) A (call (.builtin "sorted") [.ref t]) Q E z:=by
 refine(Calls.call_function_entry kind_sorted plain_sorted entry_sorted (args_sorted1 _) ?_);unfold Builtin.«sorted»;refine(A08 (m:=checkCount "sorted" 1 1 _) (A0M ?_));refine A08 (wpAny_collect_seq t hT ho hc hd (λh1 k1=>?_) (by rw[A0V,A1N];omega));refine wpAny_bind (wpAny_newList ?_ (by simp only[List.size_toArray];rw[sizeLine_eq];omega));have hnew:(h1.push (seqObj "list" ws.toArray 0)).get? h1.objs.size=some (seqObj "list" ws.toArray 0):=A15 _ rfl;show wpAny _ _ _ _ _ {z with heap:=h1.push (seqObj "list" ws.toArray 0)}
 have hP':Paired (RwT (h1.push (seqObj "list" ws.toArray 0))) ws rows:=Paired.mapP hP λv p x=>x.keep λb ob e _=>A06 _ (k1 b ob e);refine A08 (A3A (A50 slot_list_sort ⟨_,hnew,rfl⟩ entry_list_sort (a71 (z:={z with heap:=h1.push (seqObj "list" ws.toArray 0)}) hnew hP' hm hne hmax λh0 out k0 ho1 ho2=>⟨_,rfl,?_⟩) (args_list_sort _)))
 obtain⟨e,he⟩:=sortedHeap_at (out:=out.toArray) hnew;refine A0M ⟨_,rfl,h h0 h1 _ out e (λb ob q c=>k0 b ob (A06 _ (k1 b ob q)) c) k1 (λb ob hb=>?_) he ho1 ho2⟩;have hlt:=A0L hb;rw[sortedHeap_old (A1C hlt) (by rw[size_push'];exact A47 hlt)];exact A06 _ hb
end
theorem To {α β:Type}{F:α->β->Prop}{ys ys':List β}(p:ys'.Perm ys):∀ {xs:List α},Paired F xs ys->∃ xs',xs'.Perm xs/\Paired F xs' ys':=by
 induction p with
 |nil=>intro xs h;exact⟨xs,.refl _,h⟩
 |cons y _ ih=>
   intro xs h
   cases h with
   |cons r t=>obtain⟨xs',h1,h2⟩:=ih t;exact⟨_ :: xs',h1.cons _,.cons r h2⟩
 |swap y y' l=>
   intro xs h
   cases h with
   |cons r t=>
     cases t with
     |cons r' t=>exact⟨_,A3E _ _ _,.cons r' (.cons r t)⟩
 |trans _ _ ih1 ih2=>intro xs h;obtain⟨x2,h1,h2⟩:=ih2 h;obtain⟨x3,h3,h4⟩:=ih1 h2;exact⟨x3,h3.trans h1,h4⟩
section
variable {X:Cx}{K:W.Frag}
theorem aw1 {pins:List (Addr×Obj)}{σ:St}{H:Hp}{s:Shared}(I:Inv X pins σ H s){r:List Str}{v:V}{u:Value}(h:Is X.K H (nmD r) v)(ru:RelV v u):RwT s.heap u r:=by
 obtain⟨a,rfl,hS⟩:=h.nm
 cases ru;obtain⟨us,rv,⟨o,g1,g2,n,g3⟩,_⟩:=I.tuple hS;refine⟨a,o,n,us.toArray,rfl,g1,g2,g3,?_⟩
 have go:∀ {r:List Str} {us:List Value},Vals (r.map V.str) us->Paired (λ(x:Str) (u:Value)=>∃ t,u = .str x t) r us:=fun {r}=>by
  induction r with
  |nil=>intro us h;cases h;exact .nil
  |cons x r ih=>intro us h;cases h with | cons c t=>exact .cons c (ih t)
 exact go rv
theorem Px {pins:List (Addr×Obj)}{σ:St}{H:Hp}{s:Shared}(I:Inv X pins σ H s):∀ {rows:List (List Str)} {vs:List V} {its:List Value},IsL X.K H (rows.map nmD) vs->Vals vs its->Paired (RwT s.heap) its rows
 | [],vs,its,h,r=>by
   cases vs with
   |nil=>cases r;exact .nil
   |cons v vs=>exact absurd (IsL.length h) (by simp)
 |p :: ps,vs,its,h,r=>by
   cases vs with
   |nil=>exact absurd (IsL.length h) (by simp)
   |cons v vs=>
     cases r with
     |cons r rr=>
       rw[A0U] at h;simp only[IsL] at h;obtain⟨_,_,e,h1,h2⟩:=h
       cases e;exact .cons (aw1 I h1 r) (Px I h2 rr)
def Ql (K:W.Frag):List V->Hp->VK->Prop:=λxs H Q=>∃(a:Addr) (vs:List V) (rows:List (List Str)) (m:Nat),xs=[.ref a]/\(SqL K H a vs\/SqT K H a vs)/\IsL K H (rows.map nmD) vs/\rows.length<=1000/\(∀ r∈rows,r.length=m)/\(1<=m\/rows.length<2)/\∀ p zs qs,H p=none->qs.Perm rows->Qc qs->IsL K H (qs.map nmD) zs->Q (.ref p) (upd H p (.lst zs))
theorem Qk:CallR X (.builtin "sorted") (Ql X.K):=by
 intro pins s σ H xs us Q I r h;obtain⟨a,vs,rows,m,rfl,hl,hL,hz,hm,hne,q⟩:=h;obtain⟨u,rfl,ru⟩:=K7 r
 cases ru;have hvl:vs.length=rows.length:=by rw[<- IsL.length hL,A00]
 have fin:∀(its:List Value),Vals vs its->∀(h0 h1 h':Heap) (out:List Value) (e:Nat),(∀ b o,s.heap.get? b=some o->o.cls = .type "tuple" -> h0.get? b=some o)->(∀ b ob,s.heap.get? b=some ob->h1.get? b=some ob)->(∀ b ob,h1.get? b=some ob->h'.get? b=some ob)->h'.get? h1.objs.size=some (seqObj "list" out.toArray e)->aE6 h0 rows its out->out.length=its.length->EP X pins σ Q (.ref h1.objs.size) {s with heap:=h'}:=λits rv h0 h1 h' out e k0 k1 k2 he ho hol=>by
  have I1:Inv X pins σ H {s with heap:=h1}:=I.kept (t':=s.toks) k1
  obtain⟨zs,hzp,hzv⟩:=To ho.1 rv;obtain⟨qs,hqp,hqL⟩:=IsL.perm hzp hL;have hzl:=hzp.length_eq;refine⟨.ref _,_,I1.laid (t':=s.toks) (o:=.lst zs) k2 (A05 _) ⟨by rw[A1N];omega,_,e,hzv,he⟩,rfl,q _ zs qs (I1.hok.fresh (A05 _)) hqp ?_ hqL⟩;have hrw:=Px I hqL hzv;have hlen:=hrw.length;refine A28.mpr λi j hi hj hij=>?_
  have at_:∀ k (hk:k<qs.length),rkV h0 rows (out[k]'∅)=rkR rows qs[k]:=λk hk=>by have:=L8 hrw (i:=k) (dx:=Value.none) (dy:=[]) ∅;rw[A1W,A03 (show k<out.length by omega),A1W,A03 hk] at this;exact a78 (hqp.mem_iff.mp (A2K _)) (RwT.keep this k0)
  have hle:=A28.mp ho.2 i j ∅ ∅ hij;rw[at_ i hi,at_ j hj] at hle;rw[<- ae9 (hqp.mem_iff.mp (A2K _))];exact A11 ∅
 rcases hl with hl|hl
 . obtain⟨its,rv,⟨o,n,h1,h2,_,h3⟩,_⟩:=I.list hl;have hlen:=rv.length;exact Mp (.inl rfl) h1 h2 h3 (Px I hL rv) hm ∅ ∅ (fin its rv)
 obtain⟨its,rv,⟨o,h1,h2,n,h3⟩,_⟩:=I.tuple hl;have hlen:=rv.length;exact Mp (.inr rfl) h1 h2 h3 (Px I hL rv) hm ∅ ∅ (fin its rv)
theorem Lp (hK:X.K=K:=by ac_nf):CallR X (.builtin "sorted") (Ql K):=hK ▸ Qk
theorem Tb {a:Addr}{vs:List V}{rows:List (List Str)}{m:Nat}{H:Hp}{Q:VK}(h:SqL K H a vs\/SqT K H a vs)(hL:IsL K H (rows.map nmD) vs)(hz:rows.length<=1000)(hm:∀ r∈rows,r.length=m)(hne:1<=m\/rows.length<2)(k:∀ p zs qs H',H p=none->Same H H'->H' p=some (.lst zs)->qs.Perm rows->Qc qs->IsL K H' (qs.map nmD) zs->Q (.ref p) H'):Ql K [.ref a] H Q:=
 ⟨a,vs,rows,m,rfl,h,hL,hz,hm,hne,λp zs qs hp h1 h2 h3=>k p zs qs _ hp (Same.upd hp) Ai h1 h2 (IsL.mono (Same.upd hp) _ _ h3)⟩
end
section
variable {X:Cx}{K:W.Frag}{e:Expr}{ta:TE}
end
end L2
namespace K98
open PySem L2 PySem.Spec PyProof.Rows
def top (i:Nat):Stmt:=PySem.Challenge.pw_halforder_k98_whole_lists_of_neighbours.main.body.getD i (.Pass ⟨0,0,0,0⟩)
abbrev Di:Stmt:=top 5
theorem Cf:An ["half","names","reach","saying","middle","name"] ["half"] (A3 Di):=⟨rfl,rfl,rfl,by decide +kernel,rfl,by decide +kernel,by decide +kernel⟩
abbrev Hq:Stmt:=top 7
theorem Hk:An ["names","bits","bit","name"] ["names"] (A3 Hq):=⟨rfl,rfl,rfl,by decide +kernel,rfl,by decide +kernel,by decide +kernel⟩
abbrev Eb:Stmt:=top 8
theorem G6:An ["half","bits","reach","found","name"] ["half","bits"] (A3 Eb):=⟨rfl,rfl,rfl,by decide +kernel,rfl,by decide +kernel,by decide +kernel⟩
abbrev Gb:Stmt:=top 12
theorem Uu:An ["half","thing"] ["half","thing"] (A3 Gb):=⟨rfl,rfl,rfl,by decide +kernel,rfl,by decide +kernel,by decide +kernel⟩
abbrev Bk:Stmt:=top 13
theorem Kl:An ["half","thing"] ["half","thing"] (A3 Bk):=⟨rfl,rfl,rfl,by decide +kernel,rfl,by decide +kernel,by decide +kernel⟩
abbrev Dy:Stmt:=top 14
theorem J5:An ["ways","left","found","name"] ["ways","left"] (A3 Dy):=⟨rfl,rfl,rfl,by decide +kernel,rfl,by decide +kernel,by decide +kernel⟩
abbrev Ed:Stmt:=top 15
theorem Kz:An ["half","ways"] ["half"] (A3 Ed):=⟨rfl,rfl,rfl,by decide +kernel,rfl,by decide +kernel,by decide +kernel⟩
abbrev Dg:Stmt:=top 18
theorem Ch:An ["one","other","row","found","place","seat"] ["one","other"] (A3 Dg):=⟨rfl,rfl,rfl,by decide +kernel,rfl,by decide +kernel,by decide +kernel⟩
abbrev L6:Stmt:=top 19
theorem ad2:An ["half","one","other"] ["half","one","other"] (A3 L6):=⟨rfl,rfl,rfl,by decide +kernel,rfl,by decide +kernel,by decide +kernel⟩
abbrev Ho:Stmt:=top 20
theorem Xn:An ["order","place"] ["order","place"] (A3 Ho):=⟨rfl,rfl,rfl,by decide +kernel,rfl,by decide +kernel,by decide +kernel⟩
abbrev Cg:Stmt:=top 21
theorem Gd:An ["order","goal","place"] ["order","goal"] (A3 Cg):=⟨rfl,rfl,rfl,by decide +kernel,rfl,by decide +kernel,by decide +kernel⟩
abbrev Dj:Stmt:=top 22
theorem Jx:An ["half","one","other","way"] ["half","one","other"] (A3 Dj):=⟨rfl,rfl,rfl,by decide +kernel,rfl,by decide +kernel,by decide +kernel⟩
abbrev Lh:Stmt:=top 23
theorem Qf:An ["half","orders","odd"] ["half"] (A3 Lh):=⟨rfl,rfl,rfl,by decide +kernel,rfl,by decide +kernel,by decide +kernel⟩
abbrev B4:Stmt:=top 24
theorem Ep:An ["tree","order","goes_ahead","found","grown"] ["tree","order","goes_ahead"] (A3 B4):=⟨rfl,rfl,rfl,by decide +kernel,rfl,by decide +kernel,by decide +kernel⟩
abbrev Fd:Stmt:=top 25
theorem Gr:An ["half","orders","tree","order"] ["half"] (A3 Fd):=⟨rfl,rfl,rfl,by decide +kernel,rfl,by decide +kernel,by decide +kernel⟩
abbrev Cs:Stmt:=top 26
theorem Er:An ["names","found","number","row","through"] ["names"] (A3 Cs):=⟨rfl,rfl,rfl,by decide +kernel,rfl,by decide +kernel,by decide +kernel⟩
abbrev B2:Stmt:=top 27
theorem Bp:An ["orders","near","order","swaps"] ["orders"] (A3 B2):=⟨rfl,rfl,rfl,by decide +kernel,rfl,by decide +kernel,by decide +kernel⟩
abbrev Bc:Stmt:=top 28
theorem Fa:An ["near","begun","order","found"] ["near","begun"] (A3 Bc):=⟨rfl,rfl,rfl,by decide +kernel,rfl,by decide +kernel,by decide +kernel⟩
abbrev Ay:Stmt:=top 29
theorem Bi:An ["orders","near","order","found"] ["orders"] (A3 Ay):=⟨rfl,rfl,rfl,by decide +kernel,rfl,by decide +kernel,by decide +kernel⟩
abbrev Dh:Stmt:=top 30
theorem Fn:An ["half","parts","orders","found"] ["half"] (A3 Dh):=⟨rfl,rfl,rfl,by decide +kernel,rfl,by decide +kernel,by decide +kernel⟩
abbrev Fk:Stmt:=top 32
theorem T6:An ["_law_script"] ["_law_script"] (A3 Fk):=⟨rfl,rfl,rfl,by decide +kernel,rfl,by decide +kernel,by decide +kernel⟩
abbrev Ff:Stmt:=top 33
theorem Fu:An ["_law_feed_here","_law_many","_law_cell","_law_mixed","_law_found"] ["_law_feed_here","_law_many"] (A3 Ff):=⟨rfl,rfl,rfl,by decide +kernel,rfl,by decide +kernel,by decide +kernel⟩
abbrev Eh:Stmt:=top 34
theorem At:An ["_law_feed_here","_law_many","_law_letters","_law_start","_law_way","_law_size","_law_at","_law_names_here","_law_head","_law_tail","_law_turn"] ["_law_feed_here","_law_many"] (A3 Eh):=⟨rfl,rfl,rfl,by decide +kernel,rfl,by decide +kernel,by decide +kernel⟩
abbrev C3:Stmt:=top 35
theorem Dw:An ["_law_feed_here","_law_some","_law_left","_law_found","_law_k"] ["_law_feed_here","_law_some"] (A3 C3):=⟨rfl,rfl,rfl,by decide +kernel,rfl,by decide +kernel,by decide +kernel⟩
abbrev Eg:Stmt:=top 36
theorem B1:An ["_law_feed_here","_law_line","_law_many","_law_way","_law_found","_law_k","_law_at","_law_cut","_law_one"] ["_law_feed_here","_law_line"] (A3 Eg):=⟨rfl,rfl,rfl,by decide +kernel,rfl,by decide +kernel,by decide +kernel⟩
abbrev Ck:Stmt:=top 37
theorem Es:An ["_law_feed_here","_law_line","_law_found","_law_pair","_law_turn"] ["_law_feed_here","_law_line"] (A3 Ck):=⟨rfl,rfl,rfl,by decide +kernel,rfl,by decide +kernel,by decide +kernel⟩
abbrev Fb:Stmt:=top 38
theorem Lw:An ["_law_feed_here","_law_most","_law_names_here"] ["_law_feed_here","_law_most"] (A3 Fb):=⟨rfl,rfl,rfl,by decide +kernel,rfl,by decide +kernel,by decide +kernel⟩
abbrev Dd:Stmt:=top 39
theorem Ci:An ["_law_half_here","_law_name","_law_found","_law_line","_law_here","_law_one","_law_other"] ["_law_half_here","_law_name"] (A3 Dd):=⟨rfl,rfl,rfl,by decide +kernel,rfl,by decide +kernel,by decide +kernel⟩
abbrev Ei:Stmt:=top 40
theorem Qp:An ["_law_half_here"] ["_law_half_here"] (A3 Ei):=⟨rfl,rfl,rfl,by decide +kernel,rfl,by decide +kernel,by decide +kernel⟩
abbrev Db:Stmt:=top 41
theorem Fp:An ["_law_half_here","_law_table_here","_law_found","_law_one"] ["_law_half_here"] (A3 Db):=⟨rfl,rfl,rfl,by decide +kernel,rfl,by decide +kernel,by decide +kernel⟩
abbrev Dc:Stmt:=top 42
theorem B8:An ["_law_half_here","_law_table_here","_law_rows","_law_turn","_law_longer","_law_row","_law_left","_law_name"] ["_law_half_here"] (A3 Dc):=⟨rfl,rfl,rfl,by decide +kernel,rfl,by decide +kernel,by decide +kernel⟩
abbrev G9:Stmt:=top 43
theorem Gk:An ["_law_one","_law_other","_law_spots","_law_found","_law_k"] ["_law_one","_law_other"] (A3 G9):=⟨rfl,rfl,rfl,by decide +kernel,rfl,by decide +kernel,by decide +kernel⟩
abbrev C6:Stmt:=top 44
theorem M0:An ["_law_rows","_law_told"] ["_law_rows","_law_told"] (A3 C6):=⟨rfl,rfl,rfl,by decide +kernel,rfl,by decide +kernel,by decide +kernel⟩
abbrev Fj:Stmt:=top 45
theorem Ft:An ["_law_rows","_law_first","_law_near","_law_line","_law_walk_here","_law_left"] ["_law_rows","_law_first"] (A3 Fj):=⟨rfl,rfl,rfl,by decide +kernel,rfl,by decide +kernel,by decide +kernel⟩
abbrev B5:Stmt:=top 46
theorem Dn:An ["_law_half_here","_law_rows","_law_told","_law_odd","_law_even"] ["_law_half_here","_law_rows","_law_told"] (A3 B5):=⟨rfl,rfl,rfl,by decide +kernel,rfl,by decide +kernel,by decide +kernel⟩
abbrev Bo:Stmt:=top 47
theorem Fh:An ["_law_half_here","_law_rows","_law_one","_law_other","_law_told","_law_far_here"] ["_law_half_here","_law_rows","_law_one","_law_other"] (A3 Bo):=⟨rfl,rfl,rfl,by decide +kernel,rfl,by decide +kernel,by decide +kernel⟩
abbrev Qg:Stmt:=top 48
theorem Jw:An ["_law_script","_law_feed_here","_law_most","_law_half_here","_law_rows","_law_told","_law_odd","_law_turn","_law_one","_law_other"] ["_law_script"] (A3 Qg):=⟨rfl,rfl,rfl,by decide +kernel,rfl,by decide +kernel,by decide +kernel⟩
abbrev Fg:Stmt:=Uw (top 9) 0
theorem Rx:An ["self","half"] ["self","half"] (A3 Fg):=⟨rfl,rfl,rfl,by decide +kernel,rfl,by decide +kernel,by decide +kernel⟩
abbrev Bj:Stmt:=Uw (top 9) 1
theorem Kp:An ["self","left"] ["self","left"] (A3 Bj):=⟨rfl,rfl,rfl,by decide +kernel,rfl,by decide +kernel,by decide +kernel⟩
abbrev Bw:Stmt:=Uw (top 9) 2
theorem Nl:An ["self","left"] ["self","left"] (A3 Bw):=⟨rfl,rfl,rfl,by decide +kernel,rfl,by decide +kernel,by decide +kernel⟩
structure Gn (mg:Str->Option Value):Prop where
 g_MOST_LISTED:∃ u,mg "MOST_LISTED" = some u/\RelV (.int 720) u
 g_MOST_SEARCHED:∃ u,mg "MOST_SEARCHED" = some u/\RelV (.int 12) u
 b_abs:mg "abs" = none
 b_all:mg "all" = none
 b_dict:mg "dict" = none
 b_enumerate:mg "enumerate" = none
 b_int:mg "int" = none
 b_isinstance:mg "isinstance" = none
 b_len:mg "len" = none
 b_list:mg "list" = none
 b_range:mg "range" = none
 b_repr:mg "repr" = none
 b_sorted:mg "sorted" = none
 b_sum:mg "sum" = none
 b_tuple:mg "tuple" = none
structure Gv (K:W.Frag)(C:Addr):Prop where
 cl:Cls K C
 n_names:NoAttr K C "names"
 n_bits:NoAttr K C "bits"
 n_ahead:NoAttr K C "ahead"
 n_full:NoAttr K C "full"
 n_known:NoAttr K C "known"
section
variable {P:Program}{w:World}{K:W.Frag}{mg:Str->Option Value}{base:Heap}
local macro_rules | `(tactic| walk_at "lk") => L2.mRows "as | Same.lk e h: e=as h=lk | ExtBut.lk e h n: e=as n=ne h=lk | no"
local macro_rules | `(tactic| walk_at "ne") => L2.mRows "as | Ne.symm q: q=as | ne_of_none h g: g=as h=lk | ne_none2 h g: g=as h=lk | ne_of h g z: h=as g=as z=nc | no"
local macro_rules | `(tactic| walk_at "nc") => `(tactic| (intro z; cases z))
local macro_rules | `(tactic| walk_at "fr") => L2.mRows "ExtBut.refl | ExtBut.trans a b: b=as a=fr | ExtBut.same a b: b=as a=fr | ExtBut.off a q b: b=as q=as a=fr | no"
local macro_rules | `(tactic| walk_at "sm") => L2.mRows "same_refl | Same.trans a b: b=as a=sm | Same.off a q b: b=as q=as a=sm | no"
local macro_rules | `(tactic| walk_at "fd") => L2.mRows "as | Feed.same h e: e=as h=fd | Feed.off h e q f: e=as q=as f=as h=fd | no"
local macro_rules | `(tactic| walk_at "fz1") => L2.mRows "Same.fz b: b=as | ExtBut.fzL b l: b=as l=lk | ExtBut.fzD b l: b=as l=lk | Feed.fz f b: b=as f=fd | no"
local macro_rules | `(tactic| walk_at "fz") => L2.mRows "fz_refl | Fz.trans a x: x=fz1 a=fz | no"
local macro_rules | `(tactic| walk_at "sd") => `(tactic| first | omega | (show (0 : Int) < _; omega) | (unfold aI2; omega) | (unfold CMul; omega) | (unfold aF3; omega) | (unfold aF3; decide) | (refine ⟨?_, ?_⟩ <;> omega) | decide)
local macro_rules | `(tactic| walk_at "sz") => `(tactic| first | decide | exact A9 (by omega) | (rw [sizeLine_eq]; omega))
local macro_rules | `(tactic| walk_at "kv") => `(tactic| rfl)
local macro_rules | `(tactic| walk_at "rq1") => do
 let a <- L2.mAlts "i_asg i_gname i_ret i_drop i_if i_op i_un i_call i_cb i_cons i_nil i_c i_put i_tTest i_tB i_not i_and i_or i_tup i_lst i_next i_sl i_noPart i_part i_int i_for i_rng1 i_rng2 i_comp i_itS i_iany i_ienum i_ienumL i_irev i_chain i_andV i_orV i_notV i_dget1 i_tAt i_sSt i_tMe i_tMk i_tTru i_dget2 i_iDT i_bmT i_rU i_rI0 i_addI i_bl i_bm i_bm0 i_reprKB i_isN i_isNotN i_isB i_isNotB i_true i_tyS i_find i_intB i_inS i_pair i_pair0 iteR iteNR iteNbb itebb iteT iteF iteNT iteNF"
 let b <- L2.mRows "i_var w _: w=kv | i_rI w _: w=sd | i_mulBI w _: w=sd | i_tyLm w _: w=lk | i_ixD w v _: w=lk v=kv | i_eqS w _: w=kv | i_neS w _: w=kv | i_slS w _: w=sz | i_addS w _: w=sz | i_lenS w _: w=sz | i_lenL w _: w=lk | i_lenT w _: w=lk | i_cutN w _: w=ar"
 let c <- L2.mAltG "i_seqAG i_seqDG i_seqPG"
 `(tactic| first | $c:tactic | $a:tactic | $b:tactic)
local macro_rules | `(tactic| walk_at "rd1") => `(tactic| first | with_reducible refine av0 fun N hN => ?_ | walk_at "rq1")
local macro_rules | `(tactic| walk_at "rq") => `(tactic| repeat (walk_at "rq1"))
local macro_rules | `(tactic| walk_at "rd") => `(tactic| repeat (walk_at "rd1"))
def Fy (l:Addr)(a t u:Int):List (Key×V):=[(Sum.inr "cells",.ref l),(Sum.inr "at",.int a),(Sum.inr "left",.int t),(Sum.inr "turn",.int u)]
def Feed (H:Hp)(d l:Addr):Prop:=∃(a t u:Int) (ns:List Int),H d=some (.dK (Fy l a t u))/\H l=some (.lst (ns.map V.int))/\0<ns.length/\ns.length<=64
def J9 (K:W.Frag):Sp:=λvs H Q _=>∃(a:Addr) (ns:List Int),vs=[.ref a]/\SqL K H a (ns.map V.int)/\ns.length<=63/\∀ d l H',H d=none->H l=none->Same H H'->Feed H' d l->Q (.ref d) H'
def Ca (K:W.Frag):Sp:=λvs H Q _=>∃ d l n,vs=[.ref d,.int n]/\Feed H d l/\0<n/\n<1073741824/\∀ r H',0<=r->r<n->ExtBut d H H'->Feed H' d l->Q (.int r) H'
theorem ab4 {l:Addr}{a t u:Int}:Ee (Fy l a t u) (Sum.inr "cells":Key)=some (.ref l):=by rfl
theorem aG5 {l:Addr}{a t u:Int}:Ee (Fy l a t u) (Sum.inr "at":Key)=some (.int a):=by rfl
theorem am9 {l:Addr}{a t u:Int}:Ee (Fy l a t u) (Sum.inr "left":Key)=some (.int t):=by rfl
theorem an1 {l:Addr}{a t u:Int}:Ee (Fy l a t u) (Sum.inr "turn":Key)=some (.int u):=by rfl
local macro_rules | `(tactic| walk_at "kv") => `(tactic| first | exact ab4 | exact aG5 | exact am9 | exact an1 | rfl)
theorem ad3 {l:Addr}{a t u x:Int}:Gx (Fy l a t u) (Sum.inr "turn":Key) (.int x)=Fy l a t x:=by rfl
theorem at5 {l:Addr}{a t u x:Int}:Gx (Fy l a t u) (Sum.inr "at":Key) (.int x)=Fy l x t u:=by rfl
theorem Pp {l:Addr}{a t u x:Int}:Gx (Fy l a t u) (Sum.inr "left":Key) (.int x)=Fy l a x u:=by rfl
theorem Feed.same {H H':Hp}{d l:Addr}(h:Feed H d l)(e:Same H H'):Feed H' d l:=let ⟨a,t,u,ns,h1,h2,h3,h4⟩:=h;⟨a,t,u,ns,e _ _ h1,e _ _ h2,h3,h4⟩
theorem Feed.put {H H':Hp}{d l p:Addr}(h:Feed H d l)(e:ExtBut p H H')(hd:d≠p)(hl:l≠p):Feed H' d l:=let ⟨a,t,u,ns,h1,h2,h3,h4⟩:=h;⟨a,t,u,ns,e _ _ hd h1,e _ _ hl h2,h3,h4⟩
theorem Feed.nd {H:Hp}{d l p:Addr}(h:Feed H d l)(hp:H p=none):d≠p:=let ⟨_,_,_,_,h1,_⟩:=h;ne_of_none h1 hp
theorem Feed.nl {H:Hp}{d l p:Addr}(h:Feed H d l)(hp:H p=none):l≠p:=let ⟨_,_,_,_,_,h2,_⟩:=h;ne_of_none h2 hp
theorem Feed.lst {H:Hp}{d l b:Addr}{xs:List V}(h:Feed H d l)(hb:H b=some (.lst xs)):b≠d:=let ⟨_,_,_,_,h1,_⟩:=h;ne_of hb h1 (by intro z;cases z)
theorem Feed.tup {H:Hp} {d l b:Addr} {xs:List V} (h:Feed H d l) (hb:H b=some (.tup xs)):b≠d:=let ⟨_,_,_,_,h1,_⟩:=h;ne_of hb h1 (by intro z;cases z)
theorem Feed.free {H H':Hp}{d l p:Addr}(h:Feed H' d l)(e:ExtBut d H H')(hp:H' p=none):H p=none:=by
 cases hq:H p with
 |none=>rfl
 |some o=>
   obtain⟨_,_,_,_,h1,_⟩:=h;have n:p≠d:=λq=>by subst q;rw[hp] at h1;cases h1
   rw[e p o n hq] at hp
   cases hp
theorem Feed.fz {H H':Hp}{d l:Addr}(h:Feed H d l)(e:ExtBut d H H'):Fz H H':=let ⟨_,_,_,_,h1,_⟩:=h;e.fzD h1
theorem Feed.off {H H1 H2:Hp}{d l q:Addr}(h:Feed H1 d l)(e:ExtBut q H1 H2)(hq:H q=none)(hF:Feed H d l):Feed H2 d l:=h.put e (hF.nd hq) (hF.nl hq)
theorem Sv {f:Addr}{fd:FuncData}(F:Fun K "_law_draw" "_law_draw" Ff f fd)(T:Gn mg):FnOk P w K mg base CX0 1 f fd ["_law_feed_here","_law_many"] (Ca K):=by
 refine F.ok Fu (λvs H Q E h=>?_) (λcdv A outer s H vs Q E hr h=>?_)
 . obtain⟨d,l,n,rfl,_⟩:=h;rfl
 obtain⟨d,l,n,rfl,⟨a,t,u,ns,hd,hl,h0,h64⟩,hn,hn2,k⟩:=h;have hu:=C8 hr;have hq:=C7 hr;have hld:l≠d:=ne_of hl hd (by intro z;cases z)
 with_reducible refine⟨_,(A2 (Im hu (pv 0) B3 (Ak (Ah (K:=K)) (Al (A6 (K:=K) hu) (pv 0) B3 (by ac_rfl)) A4) ⋯)
  (A2 (C0 (Ab (Cb (K:=K) hq) (Al (A6 (K:=K) hu) (pv 0) B3 (by ac_rfl)) A4 (Ao _)) (A2 (Ac (i:=2) Fu.nd ⋯ (by eq_refl) (Al (A6 (K:=K) hu) (Al (A6 (K:=K) hu) (pv 0) B3 (by ac_rfl)) (Ak Ip (Al (A6 (K:=K) hu) (pv 0) B3 (by ac_rfl)) (A7 (Aj (K:=K)) ⋯ T.b_len PyProof.Rows.Boot.«len» (A0 (Al (A6 (K:=K) hu) (pv 0) B3 (by ac_rfl)) A1))) (by ac_rfl)))
  (A2 (Im hu (pv 0) B3 (Ak (Ah (K:=K)) (Al (A6 (K:=K) hu) (pv 0) B3 (by ac_rfl)) A4) ⋯)
  (A2 (C0 (Ab Xm (pv 2) (Ak aD2 A4 A4) (Ao _)) (A2 (Ac (i:=3) Fu.nd ⋯ (by eq_refl) (Ak Ip (Ak Hf (Ak (Ah (K:=K)) (Ak Ip (pv 2) A4) (Ak Hf A4 (Al (A6 (K:=K) hu) (pv 0) B3 (by ac_rfl)))) A4) A4))
  (A2 (Ac (i:=3) Fu.nd ⋯ (by eq_refl) (Ak Ip (Ak Hf (Ak (Ah (K:=K)) (Ak M9 (pv 3) A4) (Ak Hf A4 (Al (A6 (K:=K) hu) (pv 0) B3 (by ac_rfl)))) A4) A4))
  (A5 (Am (Ak Ip (Ak M9 (pv 3) A4) (pv 1)))))) Ap)
  (A5 (Im hu (pv 0) B3 (pv 2) ⋯))))) Ap)
  (A2 (Ac (i:=4) Fu.nd ⋯ (by eq_refl) (Ak Ip (Al (A6 (K:=K) hu) (pv 0) B3 (by ac_rfl)) (pv 1)))
  (A2 (Im hu (pv 0) B3 (Ak M9 (Al (A6 (K:=K) hu) (pv 0) B3 (by ac_rfl)) (pv 1)) ⋯)
  (A5 (Am (pv 4))))))),?_⟩
 symm
 refine Lq hd (by show 4<1000;decide) λH1 e1 hd1=>?_;rw[ad3] at hd1;have hl1:H1 l=some (.lst (ns.map V.int)):=e1 _ _ hld hl
 symm
 refine aK0 (λht=>?_) (λht=>?_)
 . symm
   have hlen:(0:Int)<((ns.map V.int).length:Nat):=by rw[A00];omega
   refine i_rI hlen ?_;have hm0:0<=a % (((ns.map V.int).length:Nat):Int):=A4J _ ∅;have hm1:=A40 a hlen
   obtain⟨c,hc⟩:∃ c,(ns.map V.int)[(a % (((ns.map V.int).length:Nat):Int)).toNat]? = some (V.int c):=by refine⟨ns[(a % (((ns.map V.int).length:Nat):Int)).toNat]'(by rw[A00] at *;omega),?_⟩;rw[A07,A03];rfl
   refine Ej hl1 (by have:=Av hc;rwa[A3S hm0] at this) ?_
   symm
   refine Lq hd1 (by show 4<1000;decide) λH2 e2 hd2=>?_;rw[at5] at hd2;have hl2:H2 l=some (.lst (ns.map V.int)):=e2 _ _ hld hl1
   symm
   refine aK0 (λhc1=>?_) (λhc1=>?_)
   . symm
     exact k _ H2 (A4J _ ∅) (A40 _ hn) (e1.trans e2) ⟨_,_,_,ns,hd2,hl2,h0,h64⟩
   symm
   refine Lq hd2 (by show 4<1000;decide) λH3 e3 hd3=>?_;rw[Pp] at hd3;have hl3:H3 l=some (.lst (ns.map V.int)):=e3 _ _ hld hl2
   symm
   refine Lq hd3 (by show 4<1000;decide) λH4 e4 hd4=>?_;rw[Pp] at hd4;have hl4:H4 l=some (.lst (ns.map V.int)):=e4 _ _ hld hl3
   symm
   exact k _ H4 (A4J _ ∅) (A40 _ hn) (((e1.trans e2).trans e3).trans e4) ⟨_,_,_,ns,hd4,hl4,h0,h64⟩
 symm
 refine Lq hd1 (by show 4<1000;decide) λH2 e2 hd2=>?_;rw[Pp] at hd2;have hl2:H2 l=some (.lst (ns.map V.int)):=e2 _ _ hld hl1
 symm
 exact k _ H2 (A4J _ ∅) (A40 _ hn) (e1.trans e2) ⟨_,_,_,ns,hd2,hl2,h0,h64⟩
theorem a49 (ns:List Int)(h:ns.length<=63):∃ ms:List Int,Lv (ns.map V.int) none (some 63)++(List.replicate (if(PyData.list (ns.map PyData.int)).eqv (PyData.list (([]:List Int).map PyData.int))=true then(1:Int) else 0).toNat [V.int 0]).flatten=ms.map V.int/\0<ms.length/\ms.length<=64:=by
 have hc:Lv (ns.map V.int) none (some 63)=ns.map V.int:=by
  unfold Lv
  have e:HT.sIx (ns.map V.int).length (ns.map V.int).length (some 63)=(ns.map V.int).length:=by have:=HT.sIx_nat (ns.map V.int).length (ns.map V.int).length 63;rw[A00] at *;rw[show((63:Nat):Int)=(63:Int) from rfl] at this;rw[this];omega
  rw[HT.sIx_none,e,A5P,Nat.sub_zero,A0R]
 rw[hc]
 cases ns with
 |nil=>exact⟨[0],by simp[PyData.eqv,PyData.eqvAll],by decide,by decide⟩
 |cons n r=>exact⟨n :: r,by simp[PyData.eqv,PyData.eqvAll],by simp,by omega⟩
theorem Tj {f:Addr}{fd:FuncData}(F:Fun K "_law_feed" "_law_feed" Fk f fd)(T:Gn mg):FnOk P w K mg base CX0 1 f fd ["_law_script"] (J9 K):=by
 refine F.ok T6 (λvs H Q E h=>?_) (λcdv A outer s H vs Q E hr h=>?_)
 . obtain⟨a,ns,rfl,_⟩:=h;rfl
 obtain⟨a,ns,rfl,hS,h63,k⟩:=h;have hu:=C8 hr;have hq:=C7 hr
 with_reducible refine⟨_,(A5 (Am (Zn (Kq B3 (Ak (Ah (K:=K)) (Dv (Pj (K:=K)) ⋯ T.b_list PyProof.Rows.Boot.«list» (A0 (B9 (Oi (K:=K)) (pv 0) Cq (Be A4)) A1)) (Ak Hf (Bh (A0 A4 A1)) (Dv Si ⋯ T.b_int PyProof.Rows.Boot.«int» (A0 (Ew (Cb (K:=K) hq) (pv 0) (Bh A1) (Ao _)) A1)))) (Kq B3 A4 (Kq B3 A4 (Kq B3 A4 Zy)))) ⋯ ⋯ nofun nofun))),?_⟩
 symm
 refine ai2 λp H1 hp e1 hp1=>?_
 symm
 have hS1:=e1.seq hS;refine Ni hS1 λq H2 hq2 e2 hq2'=>?_
 symm
 refine ao3 (SqL.of hq2') λr H3 hr3 e3 hr3'=>?_
 symm
 refine Bg nofun λz H4 hz4 e4 hz4'=>?_
 symm
 refine Bg nofun λy H5 hy5 e5 hy5'=>?_;refine aC1 (Vw (e5.seq (e4.seq (e3.seq (e2.seq hS1))))) (Vw (ns:=[]) (SqL.of hy5')) (W.ke_shaped_ints ns) (W.ke_shaped_ints []) ?_
 symm
 refine al1 (xs:=[V.int 0]) (by walk_at "lk") ?_ ?_ λx H6 hx6 e6 hx6'=>?_
 . split<;>omega
 . split<;>decide
 refine Nc (xs:=Lv (ns.map V.int) none (some 63)) (by walk_at "lk") hx6' ?_ λv H7 hv7 e7 hv7'=>?_
 . obtain⟨ms,e,h1,h2⟩:=a49 ns h63;rw[<- A04,e,A00];exact A0B h2 nofun
 symm
 refine Yq [(Sum.inr "cells",.ref v),(Sum.inr "at",.int 0),(Sum.inr "left",.int 0),(Sum.inr "turn",.int 0)] (by walk_at "lk") (by rfl) (by show 4<=15;decide) λH8 e8 h8=>?_;have en:H8 p=some (.dK (Fy v 0 0 0)):=h8;refine k p v H8 hp ?_ ?_ ⟨0,0,0,?_⟩
 . exact e1.free (e2.free (e3.free (e4.free (e5.free (e6.free hv7)))))
 . exact λb o hb=>e8 b o (ne_of_none hb hp) (e7 _ _ (e6 _ _ (e5 _ _ (e4 _ _ (e3 _ _ (e2 _ _ (e1 _ _ hb)))))))
 obtain⟨ms,e,h1,h2⟩:=a49 ns h63;rw[e] at hv7';exact⟨ms,en,by walk_at "lk",h1,h2⟩
def Ik (K:W.Frag):Sp:=λvs H Q _=>∃ d l n,vs=[.ref d,.int n]/\Feed H d l/\0<=n/\n<=10/\∀ p ns H',H p=none->ExtBut d H H'->Feed H' d l->H' p=some (.lst (ns.map V.str))->Names ns->ns.length=n.toNat->Q (.ref p) H'
def MN (H:Hp)(d l:Addr)(n st way sz at':Int):L2.St->Hp->Prop:=fun σ' H'=>∃ p ns x8 x9,σ'=[some (V.ref d),some (.int n),some (.str LL),some (.int st),some (.int way),some (.int (1+sz)),some (.int at'),some (.ref p),x8,x9,none]/\H p=none/\ExtBut d H H'/\Feed H' d l/\H' p=some (.lst (ns.map V.str))/\Names ns/\ns.length=10
theorem Qd {f:Addr}{fd:FuncData}(F:Fun K "_law_names" "_law_names" Eh f fd)(T:Gn mg)(Aa:Fnd P w K mg base 1 "_law_draw" ["_law_feed_here","_law_many"] (Ca K)):FnOk P w K mg base CX0 2 f fd ["_law_feed_here","_law_many"] (Ik K):=by
 refine F.ok At (λvs H Q E h=>?_) (λcdv A outer s H vs Q E hr h=>?_)
 . obtain⟨d,l,n,rfl,_⟩:=h;rfl
 obtain⟨d,l,n,rfl,hF,hn0,hn1,k⟩:=h;have hu:=C8 hr;have hq:=C7 hr
 with_reducible refine⟨_,(A2 (Ac (i:=2) At.nd ⋯ (by with_unfolding_all exact A36 rfl) (Ak Hf B3 A4))
  (A2 (Ac (i:=3) At.nd ⋯ (by with_unfolding_all exact A36 rfl) (As Aa (hr.mono nofun) ⋯ (A0 (pv 0) (A0 A4 A1))))
  (A2 (Ac (i:=4) At.nd ⋯ (by eq_refl) (As Aa (hr.mono nofun) ⋯ (A0 (pv 0) (A0 A4 A1))))
  (A2 (Ac (i:=5) At.nd ⋯ (by eq_refl) (Ak (Ah (K:=K)) A4 (As Aa (hr.mono nofun) ⋯ (A0 (pv 0) (A0 A4 A1)))))
  (A2 (Ac (i:=6) At.nd ⋯ (by eq_refl) (As Aa (hr.mono nofun) ⋯ (A0 (pv 0) (A0 (pv 5) A1))))
  (A2 (Ac (i:=7) At.nd ⋯ (by eq_refl) (Bh (A0 B3 (A0 B3 (A0 B3 (A0 B3 (A0 B3 (A0 B3 (A0 B3 (A0 B3 (A0 B3 (A0 B3 A1))))))))))))
  (A2 (C0 (Ab (Cb (K:=K) hq) (pv 4) A4 (Ao _)) (A5 (Ac (i:=7) At.nd ⋯ (by eq_refl) (Ak (Ah (K:=K)) (Ba ["_law_k"] ["_law_letters","_law_start"] [2,3] ⋯ ⋯ ⋯ (Br ⋯ T.b_range (A0 A4 A1)) (λ_ _ _ _=>(A8 (i:=0) (by with_unfolding_all (show(["_law_k","_law_letters","_law_start"]:List Str).Nodup;decide +kernel)) ⋯ (by eq_refl))) (Au nofun) (λ_ _ _ _=>Bn) (λ_ _ _ _=>(B9 (Oi (K:=K)) (pv 1) (Be (pv 2)) (Be (Ak (Ah (K:=K)) (Ak (Ah (K:=K)) (pv 2) A4) (pv 0)))))) (Bh (A0 (Al (A6 (K:=K) hu) (pv 2) (Ak (Ah (K:=K)) (pv 3) A4) (by ac_rfl)) (A0 (Al (A6 (K:=K) hu) (pv 2) (Ak (Ah (K:=K)) (pv 3) A4) (by ac_rfl)) A1)))))) Ap)
  (A2 (C0 (Ab (Cb (K:=K) hq) (pv 4) A4 (Ao _)) (A2 (Ac (i:=8) At.nd ⋯ (by with_unfolding_all exact A36 rfl) (B9 (Oi (K:=K)) (pv 2) (Be (pv 3)) (Be (Ak (Ah (K:=K)) (pv 3) (pv 6)))))
  (A2 (Ac (i:=9) At.nd ⋯ (by with_unfolding_all exact A36 rfl) (B9 (Oi (K:=K)) (pv 2) (Be (Ak (Ah (K:=K)) (Ak (Ah (K:=K)) (pv 3) (pv 6)) A4)) (Be (Ak (Ah (K:=K)) (pv 3) (pv 5)))))
  (A5 (De (i:=7) ["_law_k"] ["_law_head","_law_letters","_law_start","_law_tail"] [8,2,3,9] ⋯ ⋯ ⋯ At.nd ⋯ ⋯ (Br ⋯ T.b_range (A0 A4 A1)) (λ_ _ _ _=>(A8 (i:=0) (by with_unfolding_all (show(["_law_k","_law_head","_law_letters","_law_start","_law_tail"]:List Str).Nodup;decide +kernel)) ⋯ (by eq_refl))) (Au nofun) (λ_ _ _ _=>Bn) (λ_ _ _ _=>(Ak (Ah (K:=K)) (Ak (Ah (K:=K)) (pv 1) (Al (A6 (K:=K) hu) (pv 2) (Ak (Ah (K:=K)) (pv 3) (Ak Ip (Ak Hf A4 (pv 0)) A4)) (by ac_rfl))) (pv 4))))))) Ap)
  (A2 (C0 (Ab (Cb (K:=K) hq) (pv 4) A4 (Ao _)) (A5 (De (i:=7) ["_law_k"] ["_law_letters","_law_start"] [2,3] ⋯ ⋯ ⋯ At.nd ⋯ ⋯ (Br ⋯ T.b_range (A0 A4 A1)) (λ_ _ _ _=>(A8 (i:=0) (by with_unfolding_all (show(["_law_k","_law_letters","_law_start"]:List Str).Nodup;decide +kernel)) ⋯ (by eq_refl))) (Au nofun) (λ_ _ _ _=>Bn) (λ_ _ _ _=>(B9 (Oi (K:=K)) (pv 1) (Be (Ak (Ah (K:=K)) (pv 2) (pv 0))) (Be (Ak (Ah (K:=K)) (Ak (Ah (K:=K)) (Ak (Ah (K:=K)) (pv 2) (pv 0)) A4) (Ak Ip (Ak Hf A4 (pv 0)) A4))))))) Ap)
  (A2 (Ac (i:=10) At.nd ⋯ (by eq_refl) (As Aa (hr.mono nofun) ⋯ (A0 (pv 0) (A0 A4 A1))))
  (A2 (Ac (i:=7) At.nd ⋯ (by eq_refl) (Ak (Ah (K:=K)) (B9 (Oi (K:=K)) (pv 7) (Be (pv 10)) Cq) (B9 (Oi (K:=K)) (pv 7) Cq (Be (pv 10)))))
  (A5 (Am (Rg (B9 (Oi (K:=K)) (pv 7) Cq (Be (pv 1))) (Al (A6 (K:=K) hu) (Bh (A0 A4 (A0 (Yb Rl A4) A1))) (As Aa (hr.mono nofun) ⋯ (A0 (pv 0) (A0 A4 A1))) (by ac_rfl)))))))))))))))),?_⟩
 symm
 refine ap7 nofun ?_;rw[aD7]
 symm
 refine⟨d,l,_,rfl,hF,by omega,by omega,λst H1 hs0 hs1 e1 hF1=>?_⟩
 symm
 refine⟨d,l,_,rfl,hF1,by omega,by omega,λway H2 hw0 hw1 e2 hF2=>?_⟩
 symm
 refine⟨d,l,_,rfl,hF2,by omega,by omega,λsz H3 hz0 hz1 e3 hF3=>?_⟩
 symm
 refine⟨d,l,_,rfl,hF3,by omega,by omega,λat' H4 ha0 ha1 e4 hF4=>?_⟩
 symm
 refine Bg nofun λp5 H5 hp5 e5 h5=>?_;walk_at "rq";have fr4:ExtBut d H H4:=by walk_at "fr"
 have hF5:Feed H5 d l:=by walk_at "fd"
 with_reducible refine Sa (MN H d l n st way sz at') (λN hN=>?_) (fun σ1 H6 hM=>?_)
 . walk_at "rq";refine Jt (λhw=>?_) (λhw=>?_)
   . walk_at "rq";refine Gq ∅ ?_;refine Qs Ax (fI λk=>.str (Txt.slice LL (some st) (some (st+1+k)))) (by simp) (λ_ _=>trivial) (λi x H6 R hx e6 hR=>?_) (λp6 H6 hp6 e6 h6=>?_)
     . obtain⟨rfl,hi⟩:=Cp hx;walk_at "rq";exact hR
     rw[Ul (G:=λk=>txt (Nx st.toNat (st.toNat+1+k))) (λk hk=>by
      have e:=W5 (i:=st) (j:=st+1+(0+(k:Int))) hs0 ∅ (by have:((8:Int)).toNat=8:=rfl;omega);have e2:(st+1+(0+(k:Int))).toNat=st.toNat+1+k:=by omega
      rw[e2] at e;rw[e])] at h6
     obtain⟨c9,hc9,e9⟩:=ap3 (i:=st+9) ∅ ∅;obtain⟨c10,hc10,e10⟩:=ap3 (i:=st+10) ∅ ∅;walk_at "rq";refine al9 Tz hc9 ?_;walk_at "rq";refine al9 Tz hc10 ?_;walk_at "rq";refine Bg (A9 (by simp)) λp7 H7 hp7 e7 h7=>?_;refine Nc (by walk_at "lk") h7 (by simp[sizeLine_eq]) λp8 H8 hp8 e8 h8=>?_;walk_at "rq";have f5:ExtBut d H H5:=by walk_at "fr"
     refine hN _ _ ⟨p8,(nm0 st.toNat).map txt,none,none,rfl,Feed.free (l:=l) (H':=H7) (by walk_at "fd") (by walk_at "fr") hp8,by walk_at "fr",by walk_at "fd",?_,az6 ∅,by simp[nm0]⟩;rw[h8,e9,e10];have q9:(st+9).toNat=st.toNat+9:=by omega
     have q10:(st+10).toNat=st.toNat+10:=by omega
     rw[q9,q10];simp[nm0,Function.comp_def]
   walk_at "rq";refine hN _ _ ⟨p5,nm3,none,none,rfl,hF4.free fr4 hp5,by walk_at "fr",hF5,h5,aA8,rfl⟩
 obtain⟨p,ns,x8,x9,rfl,hp,e6,hF6,h6,hN6,hl6⟩:=hM
 with_reducible refine Sa (MN H d l n st way sz at') (λN hN=>?_) (fun σ1 H7 hM=>?_)
 . walk_at "rq";refine Jt (λhw=>?_) (λhw=>?_)
   . walk_at "rq";refine Gq ∅ ?_;have c1:=W5 (i:=st) (j:=st+at') hs0 ∅ ∅;have c2:=W5 (i:=st+at'+1) (j:=st+(1+sz)) ∅ ∅ ∅;rw[c1,c2];refine Qs Ax (fI λk=>.str (txt (Nx st.toNat (st+at').toNat)++txt (Rc (st+5*k % 26).toNat)++txt (Nx (st+at'+1).toNat (st+(1+sz)).toNat))) (by simp) (λ_ _=>trivial) (λi x H8 R hx e8 hR=>?_) (λp8 H8 hp8 e8 h8=>?_)
     . obtain⟨rfl,hi⟩:=Cp hx;have hm0:=A4J (5*(0+(i:Int))) (show(26:Int)≠0 by decide);have hm1:=A40 (5*(0+(i:Int))) (show(0:Int)<26 by decide);obtain⟨c,hc,ec⟩:=ap3 (i:=st+5*(0+(i:Int)) % 26) ∅ ∅;walk_at "rq";refine al9 Tz hc ?_;rw[ec];have l1:(txt (Nx st.toNat (st+at').toNat)).length<=52:=by show(Nx _ _).toArray.size<=_;unfold Nx;simp[Lb];omega
       have l2:(txt (Nx (st+at'+1).toNat (st+(1+sz)).toNat)).length<=52:=by show(Nx _ _).toArray.size<=_;unfold Nx;simp[Lb];omega
       have l3:(txt (Rc (st+5*(0+(i:Int)) % 26).toNat)).length<=52:=by show(Rc _).toArray.size<=_;unfold Rc;simp[Lb];omega
       refine i_addS (A9 ∅) ?_;have l4:(txt (Nx st.toNat (st+at').toNat)++txt (Rc (st+5*(0+(i:Int)) % 26).toNat)).length<=104:=by rw[Str.length_append];omega
       walk_at "rq";exact hR
     rw[Ul (G:=λk=>txt (Nx st.toNat (st.toNat+at'.toNat)++Rc (st.toNat+5*k % 26)++Nx (st.toNat+at'.toNat+1) (st.toNat+(1+sz).toNat))) (λk hk=>by
      have q1:(st+at').toNat=st.toNat+at'.toNat:=by omega
      have q2:(st+5*(0+(k:Int)) % 26).toNat=st.toNat+5*k % 26:=by omega
      have q3:(st+at'+1).toNat=st.toNat+at'.toNat+1:=by omega
      have q4:(st+(1+sz)).toNat=st.toNat+(1+sz).toNat:=by omega
      rw[q1,q2,q3,q4,Yc,Yc])] at h8
     walk_at "rq";refine hN _ _ ⟨p8,(nm1 st.toNat (1+sz).toNat at'.toNat).map txt,_,_,rfl,hF6.free e6 hp8,by walk_at "fr",by walk_at "fd",?_,aD6 ∅ ∅ ∅,by simp[nm1]⟩;rw[h8];simp[nm1,Function.comp_def]
   walk_at "rq";exact hN _ _ ⟨p,ns,x8,x9,rfl,hp,e6,hF6,h6,hN6,hl6⟩
 obtain⟨p',ns',x8',x9',rfl,hp',e7,hF7,h7,hN7,hl7⟩:=hM
 with_reducible refine Sa (MN H d l n st way sz at') (λN hN=>?_) (fun σ1 H8 hM=>?_)
 . walk_at "rq";refine Jt (λhw=>?_) (λhw=>?_)
   . walk_at "rq";refine Gq ∅ ?_;refine Qs Ax (fI λk=>.str (Txt.slice LL (some (st+k)) (some (st+k+1+3*k % 8)))) (by simp) (λ_ _=>trivial) (λi x H8 R hx e8 hR=>?_) (λp8 H8 hp8 e8 h8=>?_)
     . obtain⟨rfl,hi⟩:=Cp hx;walk_at "rq";exact hR
     rw[Ul (G:=λk=>txt (Nx (st.toNat+k) (st.toNat+k+1+3*k % 8))) (λk hk=>by
      have h10:((10:Int)).toNat=10:=rfl;have e:=W5 (i:=st+(0+(k:Int))) (j:=st+(0+(k:Int))+1+3*(0+(k:Int)) % 8) ∅ ∅ ∅;have q1:(st+(0+(k:Int))).toNat=st.toNat+k:=by omega
      have q2:(st+(0+(k:Int))+1+3*(0+(k:Int)) % 8).toNat=st.toNat+k+1+3*k % 8:=by omega
      rw[q1,q2] at e;rw[e])] at h8
     walk_at "rq";refine hN _ _ ⟨p8,(nm2 st.toNat).map txt,_,_,rfl,hF7.free e7 hp8,by walk_at "fr",by walk_at "fd",?_,ay6 ∅,by simp[nm2]⟩;rw[h8];simp[nm2,Function.comp_def]
   walk_at "rq";exact hN _ _ ⟨p',ns',x8',x9',rfl,hp',e7,hF7,h7,hN7,hl7⟩
 obtain⟨p2,ms,y8,y9,rfl,hp2,e8,hF8,h8,hN8,hl8⟩:=hM
 symm
 refine⟨d,l,_,rfl,hF8,by omega,by omega,λtn H9 ht0 ht1 e9 hF9=>?_⟩;have nd2:p2≠d:=hF8.lst h8
 symm
 have h9:H9 p2=some (.lst (ms.map V.str)):=e9 _ _ nd2 h8;refine Ni (SqL.of h9) λq1 H10 hq1 e10 h10=>?_
 symm
 refine Ni (SqL.of (show H10 p2=some (.lst (ms.map V.str)) by walk_at "lk")) λq2 H11 hq2 e11 h11=>?_
 symm
 rw[Ji ht0 (by rw[A00];omega)] at h10;rw[Ht ht0] at h11;refine Nc (by walk_at "lk") h11 (A9 (by simp;omega)) λq3 H12 hq3 e12 h12=>?_
 symm
 rw[<- A32,<- A3M,<- A0A] at h12;refine Ni (SqL.of h12) λq4 H13 hq4 e13 h13=>?_
 symm
 rw[Ht hn0,<- A3M] at h13;refine Bg nofun λq5 H14 hq5 e14 h14=>?_
 symm
 refine⟨d,l,2,rfl,by walk_at "fd",by omega,by omega,λr H15 hr0 hr1 e15 hF15=>?_⟩;have hq5d:q5≠d:=Ne.symm (Feed.nd (H:=H13) (l:=l) (by walk_at "fd") hq5);have hq4d:q4≠d:=Ne.symm (Feed.nd (H:=H12) (l:=l) (by walk_at "fd") hq4);have h15:H15 q4=some (.lst (((ms.drop tn.toNat++ms.take tn.toNat).take n.toNat).map V.str)):=e15 _ _ hq4d (by walk_at "lk");have g15:H15 q5=some (.lst [V.int 1,V.int (-1)]):=e15 _ _ hq5d h14
 have hstep:∃ k,atI [V.int 1,V.int (-1)] r=some (V.int k)/\(k=1\/k = -1):=by
  rcases(by omega:r=0\/r=1) with rfl|rfl
  . exact⟨1,rfl,.inl rfl⟩
  exact⟨-1,rfl,.inr rfl⟩
 obtain⟨kk,hk1,hk2⟩:=hstep;refine Ej g15 hk1 ?_;refine at0 (SqL.of h15) hk2 λq6 H16 hq6 e16 h16=>?_;obtain⟨os,eo,ho1,ho2⟩:=Y0 (k:=kk) (hN8.turn tn.toNat n.toNat);rw[eo] at h16;have fr15:ExtBut d H H15:=by walk_at "fr"
 refine k q6 os H16 (hF15.free fr15 hq6) (by walk_at "fr") (by walk_at "fd") h16 ho1 ?_;rw[ho2,A0J,A04,A1G,A0J];omega
def G0 (K:W.Frag):Sp:=λvs H Q _=>∃ d l a xs,vs=[.ref d,.ref a]/\Feed H d l/\(SqL K H a xs\/SqT K H a xs)/\xs.length<=1000/\∀ p ys H',H p=none->ExtBut d H H'->Feed H' d l->H' p=some (.lst ys)->ys.Perm xs->Q (.ref p) H'
theorem M2 {f:Addr}{fd:FuncData}(F:Fun K "_law_shuffled" "_law_shuffled" C3 f fd)(T:Gn mg)(Aa:Fnd P w K mg base 1 "_law_draw" ["_law_feed_here","_law_many"] (Ca K)):FnOk P w K mg base CX0 2 f fd ["_law_feed_here","_law_some"] (G0 K):=by
 refine F.ok Dw (λvs H Q E h=>?_) (λcdv A outer s H vs Q E hr h=>?_)
 . obtain⟨d,l,a,xs,rfl,_⟩:=h;rfl
 obtain⟨d,l,a,xs,rfl,hF,hS,hx,k⟩:=h;have hu:=C8 hr;have hq:=C7 hr
 with_reducible refine⟨_,(A2 (Ac (i:=2) Dw.nd ⋯ (by eq_refl) (Dv (Pj (K:=K)) ⋯ T.b_list PyProof.Rows.Boot.«list» (A0 (pv 1) A1)))
  (A2 (Ac (i:=3) Dw.nd ⋯ (by eq_refl) (Bh A1))
  (A2 (C9 A14 ⋯ (Br ⋯ T.b_range (A0 (A7 (Aj (K:=K)) ⋯ T.b_len PyProof.Rows.Boot.«len» (A0 (pv 2) A1)) A1)) (A8 (i:=4) Dw.nd ⋯ (by eq_refl))
  (A5 (Bv (Fs (K:=K) A0Z A1U A1V (mm Du) (pv 3) (A0 (Fs (K:=K) A0Z A5I A5J (mm aa7) (pv 2) (A0 (As Aa (hr.mono nofun) ⋯ (A0 (pv 0) (A0 (A7 (Aj (K:=K)) ⋯ T.b_len PyProof.Rows.Boot.«len» (A0 (pv 2) A1)) A1))) A1)) A1)))))
  (A5 (Am (pv 3)))))),?_⟩
 symm
 refine al7 hS λq H1 hq1 e1 h1=>?_
 symm
 refine Bg nofun λp H2 hp2 e2 h2=>?_
 symm
 refine Gq ∅ ?_;have hp0:H p=none:=e1.free hp2;have hpq:p≠q:=λz=>by subst z;rw[h1] at hp2;cases hp2
 refine Ez Ax (λi σ H3=>∃ us vs x4,σ=[some (.ref d),some (.ref a),some (.ref q),some (.ref p),x4]/\ExtBut d H H3/\Feed H3 d l/\H3 q=some (.lst us)/\H3 p=some (.lst vs)/\(vs++us).Perm xs/\us.length+i=xs.length/\vs.length=i)
  ⟨xs,[],none,rfl,by walk_at "fr",by walk_at "fd",by walk_at "lk",h2,by simp,rfl,rfl⟩ (λ_ _ _ _=>trivial) (λi x σ H3 hx3 hi hP=>?_) (fun σ H3 hP=>?_)
 . obtain⟨us,vs,x4,rfl,e3,hF3,h3q,h3p,hperm,hlen,hvl⟩:=hP;obtain⟨rfl,hi2⟩:=Cp hx3;have hi3:i<xs.length:=by simpa using hi2
   symm
   refine⟨d,l,_,rfl,hF3,by omega,by omega,λr H4 hr0 hr1 e4 hF4=>?_⟩;have h4q:H4 q=some (.lst us):=e4 _ _ (hF3.lst h3q) h3q;have h4p:H4 p=some (.lst vs):=e4 _ _ (hF3.lst h3p) h3p;have hr2:r.toNat<us.length:=by omega
   symm
   refine ac0 h4q hr0 (A03 hr2) (λH5 e5 h5q=>?_) ∅;have h5p:H5 p=some (.lst vs):=e5 _ _ hpq h4p
   symm
   refine L3 h5p ∅ λH6 e6 h6p=>?_
   symm
   refine⟨us.eraseIdx r.toNat,vs++[us[r.toNat]],_,rfl,by walk_at "fr",(hF4.put e5 (hF.nd hq1) (hF.nl hq1)).put e6 (hF.nd hp0) (hF.nl hp0),e6 _ _ (Ne.symm hpq) h5q,h6p,?_,?_,by simp[hvl]⟩
   . exact(aa1 (A03 hr2) vs).trans hperm
   rw[List.length_eraseIdx,A10 hr2];omega
 obtain⟨us,vs,x4,rfl,e3,hF3,h3q,h3p,hperm,hlen,hvl⟩:=hP
 symm
 have hu0:us=[]:=by rw[A00,A1F] at hlen;exact A0D.mp ∅
 subst hu0;rw[A19] at hperm;exact k p vs H3 hp0 e3 hF3 h3p hperm
def Ia (K:W.Frag):Sp:=λvs H Q _=>∃ d l a ls,vs=[.ref d,.ref a]/\Feed H d l/\H a=some (.lst (ls.map V.str))/\ls.length<=10/\∀ p xs ps H',H p=none->ExtBut d H H'->Feed H' d l->H' p=some (.lst xs)->IsL K H' (ps.map prD) xs->Up ls ps->ps.length<=100->Q (.ref p) H'
def MP (K:W.Frag)(H:Hp)(d l a:Addr)(ls:List Str)(way:Int)(E:Prop):L2.St->Hp->Prop:=fun σ' H'=>∃ p xs ps x5 x6 x7 x8,σ'=[some (V.ref d),some (.ref a),some (.int (ls.length:Nat)),some (.int way),some (.ref p),x5,x6,x7,x8]/\H p=none/\ExtBut d H H'/\Feed H' d l/\H' p=some (.lst xs)/\IsL K H' (ps.map prD) xs/\Up ls ps/\ps.length<=100/\(E->ps=[])
theorem Qr {K:W.Frag}{H:Hp}{ps:List (Str×Str)}{xs:List V}(h:IsL K H (ps.map prD) xs):xs.length=ps.length:=by rw[<- IsL.length h,A00]
theorem Pn {f:Addr}{fd:FuncData}(F:Fun K "_law_pairs" "_law_pairs" Eg f fd)(T:Gn mg)(Aa:Fnd P w K mg base 1 "_law_draw" ["_law_feed_here","_law_many"] (Ca K)):FnOk P w K mg base CX0 2 f fd ["_law_feed_here","_law_line"] (Ia K):=by
 refine F.ok B1 (λvs H Q E h=>?_) (λcdv A outer s H vs Q E hr h=>?_)
 . obtain⟨d,l,a,xs,rfl,_⟩:=h;rfl
 obtain⟨d,l,a,ls,rfl,hF,hA,hl,k⟩:=h;have hu:=C8 hr;have hq:=C7 hr
 with_reducible refine⟨_,(A2 (Ac (i:=2) B1.nd ⋯ (by eq_refl) (A7 (Aj (K:=K)) ⋯ T.b_len PyProof.Rows.Boot.«len» (A0 (pv 1) A1)))
  (A2 (Ac (i:=3) B1.nd ⋯ (by eq_refl) (As Aa (hr.mono nofun) ⋯ (A0 (pv 0) (A0 A4 A1))))
  (A2 (Ac (i:=4) B1.nd ⋯ (by eq_refl) (Bh A1))
  (A2 (C0 (PW.pt (Zz (Ab Xm (pv 3) A4 (Ao _)) (Ve (Ab Sn (pv 2) A4 (Ao _))))) (A5 (C9 A14 ⋯ (Br ⋯ T.b_range (A0 (Al (A6 (K:=K) hu) (Bh (A0 (Ak M9 (pv 2) A4) (A0 (pv 2) (A0 (Ak Hf A4 (pv 2)) A1)))) (pv 3) (by ac_rfl)) A1)) (A8 (i:=5) B1.nd ⋯ (by eq_refl))
  (A2 (Ac (i:=6) B1.nd ⋯ (by eq_refl) (As Aa (hr.mono nofun) ⋯ (A0 (pv 0) (A0 (Ak G2 (pv 2) A4) A1))))
  (A5 (Bv (Fs (K:=K) A0Z A1U A1V (mm Du) (pv 4) (A0 (Bz (A0 (Al (A6 (K:=K) hu) (pv 1) (pv 6) (by ac_rfl)) (A0 (Al (A6 (K:=K) hu) (pv 1) (Ak (Ah (K:=K)) (Ak (Ah (K:=K)) (pv 6) A4) (As Aa (hr.mono nofun) ⋯ (A0 (pv 0) (A0 (Ak G2 (Ak G2 (pv 2) A4) (pv 6)) A1)))) (by ac_rfl)) A1))) A1))))))) Ap)
  (A2 (C0 (Ab (Cb (K:=K) hq) (pv 3) A4 (Ao _)) (A2 (Ac (i:=7) B1.nd ⋯ (by with_unfolding_all exact A36 rfl) (As Aa (hr.mono nofun) ⋯ (A0 (pv 0) (A0 (Ak (Ah (K:=K)) (pv 2) A4) A1))))
  (A5 (De (i:=4) ["_law_k"] ["_law_line","_law_cut"] [1,7] ⋯ ⋯ ⋯ B1.nd ⋯ ⋯ (Br ⋯ T.b_range (A0 (Ak G2 (pv 2) A4) A1)) (λ_ _ _ _=>(A8 (i:=0) (by with_unfolding_all (show(["_law_k","_law_line","_law_cut"]:List Str).Nodup;decide +kernel)) ⋯ (by eq_refl))) (Au nofun) (λ_ _ _ _=>(Fm (Ab (Iy (K:=K) hq) (Ak (Ah (K:=K)) (pv 0) A4) (pv 2) (Ao _)))) (λ_ _ _ _=>(Bz (A0 (Al (A6 (K:=K) hu) (pv 1) (pv 0) (by ac_rfl)) (A0 (Al (A6 (K:=K) hu) (pv 1) (Ak (Ah (K:=K)) (pv 0) A4) (by ac_rfl)) A1))))))) Ap)
  (A2 (C0 (Ab (Cb (K:=K) hq) (pv 3) A4 (Ao _)) (A5 (De (i:=4) ["_law_k"] ["_law_line","_law_feed_here"] [1,0] ⋯ ⋯ ⋯ B1.nd ⋯ ⋯ (Kf ⋯ T.b_range (A0 A4 (A0 (pv 2) A1))) (λ_ _ _ _=>(A8 (i:=0) (by with_unfolding_all (show(["_law_k","_law_line","_law_feed_here"]:List Str).Nodup;decide +kernel)) ⋯ (by eq_refl))) (Au nofun) (λ_ _ _ _=>(Fm (Ab Sn (As Aa (hr.mono nofun) ⋯ (A0 (pv 2) (A0 A4 A1))) A4 (Ao _)))) (λ_ _ _ _=>(Bz (A0 (Al (A6 (K:=K) hu) (pv 1) (As Aa (hr.mono nofun) ⋯ (A0 (pv 2) (A0 (pv 0) A1))) (by ac_rfl)) (A0 (Al (A6 (K:=K) hu) (pv 1) (pv 0) (by ac_rfl)) A1)))))) Ap)
  (A2 (C0 (Ab (Cb (K:=K) hq) (pv 3) A4 (Ao _)) (A2 (Ac (i:=7) B1.nd ⋯ (by with_unfolding_all exact A36 rfl) (As Aa (hr.mono nofun) ⋯ (A0 (pv 0) (A0 (Ak (Ah (K:=K)) (pv 2) A4) A1))))
  (A5 (C9 A14 ⋯ (Aq (K:=K) hu (B9 (Oi (K:=K)) (pv 1) Cq (Be (pv 7)))) (A8 (i:=8) B1.nd ⋯ (by with_unfolding_all exact A36 rfl))
  (A5 (Bv (Fs (K:=K) A0Z A37 A38 (mm Jb) (pv 4) (A0 (Ba ["_law_other"] ["_law_one"] [8] ⋯ ⋯ ⋯ (Aq (K:=K) hu (B9 (Oi (K:=K)) (pv 1) (Be (pv 7)) Cq)) (λ_ _ _ _=>(A8 (i:=0) (by with_unfolding_all (show(["_law_other","_law_one"]:List Str).Nodup;decide +kernel)) ⋯ (by eq_refl))) (Au nofun) (λ_ _ _ _=>Bn) (λ_ _ _ _=>(Bz (A0 (pv 1) (A0 (pv 0) A1))))) A1))))))) Ap)
  (A5 (Am (pv 4)))))))))),?_⟩
 symm
 rw[A00];refine⟨d,l,_,rfl,hF,by omega,by omega,λway H1 hw0 hw1 e1 hF1=>?_⟩;have had:a≠d:=hF.lst hA
 symm
 refine Bg nofun λp H2 hp2 e2 h2=>?_;walk_at "rq";have hp0:H p=none:=hF1.free e1 hp2;have hF2:Feed H2 d l:=by walk_at "fd"
 have hA2:H2 a=some (.lst (ls.map V.str)):=by walk_at "lk"
 with_reducible refine Sa (MP K H d l a ls way (way=5)) (λN hN=>?_) (fun σ1 H3 hM=>?_)
 . walk_at "rq";have done0:N [some (V.ref d),some (.ref a),some (.int (ls.length:Nat)),some (.int way),some (.ref p),none,none,none,none] H2:=hN _ _ ⟨p,[],[],none,none,none,none,rfl,hp0,by walk_at "fr",hF2,h2,.nil,.nil,by decide,λ_=>rfl⟩;refine Jt (λhw=>?_) (λhw=>?_)
   . walk_at "rq";refine Jt (λhm=>?_) (λhm=>?_)
     . walk_at "rq";refine Bg (A9 (by simp)) λq H3 hq3 e3 h3=>?_
       have hm3:∃ m,atI [V.int ((ls.length:Nat) / 2),V.int (ls.length:Nat),V.int (3*(ls.length:Nat))] way=some (V.int m)/\0<=m/\m<=30:=by
        rcases(by omega:way=0\/way=1\/way=2) with rfl|rfl|rfl
        . exact⟨_,rfl,by omega,by omega⟩
        . exact⟨_,rfl,by omega,by omega⟩
        exact⟨_,rfl,by omega,by omega⟩
       obtain⟨m,hm1,hm2,hm3⟩:=hm3;walk_at "rq";refine Ej h3 hm1 ?_;walk_at "rq";refine Gq ∅ ?_
       refine Ez Ax (λi σ H4=>∃ xs ps x5 x6,σ=[some (V.ref d),some (.ref a),some (.int (ls.length:Nat)),some (.int way),some (.ref p),x5,x6,none,none]/\ExtBut d H H4/\Feed H4 d l/\H4 p=some (.lst xs)/\IsL K H4 (ps.map prD) xs/\Up ls ps/\ps.length=i)
        ⟨[],[],none,none,rfl,by walk_at "fr",by walk_at "fd",by walk_at "lk",.nil,.nil,rfl⟩ (λ_ _ _ _=>trivial) (λi x σ H4 hx4 hi hP=>?_) (fun σ H4 hP=>?_)
       . obtain⟨xs,ps,x5,x6,rfl,e4,hF4,h4,hI4,hU,hpl⟩:=hP;obtain⟨rfl,hi2⟩:=Cp hx4;have hA4:H4 a=some (.lst (ls.map V.str)):=e4 _ _ had hA
         symm
         refine⟨d,l,_,rfl,hF4,by omega,by omega,λu H5 hu0 hu1 e5 hF5=>?_⟩;obtain⟨z1,hz1,hz1',_⟩:=str_at? (ls:=ls) (i:=u) hu0 ∅;have hA5:H5 a=some (.lst (ls.map V.str)):=e5 _ _ had hA4;have h5:H5 p=some (.lst xs):=e5 _ _ (hF4.lst h4) h4
         symm
         refine Ej hA5 hz1' ?_
         symm
         refine⟨d,l,_,rfl,hF5,by omega,by omega,λu2 H6 hv0 hv1 e6 hF6=>?_⟩;obtain⟨z2,hz2,hz2',_⟩:=str_at? (ls:=ls) (i:=u+1+u2) ∅ ∅;have hA6:H6 a=some (.lst (ls.map V.str)):=e6 _ _ had hA5;have h6:H6 p=some (.lst xs):=e6 _ _ (hF5.lst h5) h5
         symm
         refine Ej hA6 hz2' ?_
         symm
         refine Bq (A9 (by simp)) λt H7 ht7 e7 h7=>?_;have h7p:H7 p=some (.lst xs):=e7 _ _ h6;have hxl:=Qr hI4
         symm
         refine L3 h7p ∅ λH8 e8 h8=>?_
         symm
         have fz8:Fz H7 H8:=e8.fzL h7p;have fz7:Fz H4 H7:=((hF4.fz e5).trans (hF5.fz e6)).trans e7.fz;refine⟨xs++[.ref t],ps++[(z1,z2)],_,_,rfl,by walk_at "fr",by walk_at "fd",h8,?_,?_,by simp[hpl]⟩
         . rw[A0A];exact(IsL.fz (fz7.trans fz8) _ _ (Ev ps) hI4).append (.one ((Yx (SqT.of h7)).pr_fz fz8))
         exact hU.append (.one ∅ hz1 hz2)
       obtain⟨xs,ps,x5,x6,rfl,e4,hF4,h4,hI4,hU,hpl⟩:=hP;rw[A00,A1F] at hpl;exact hN _ _ ⟨p,xs,ps,_,_,_,_,rfl,hp0,e4,hF4,h4,hI4,hU,by omega,λq=>by omega⟩
     walk_at "rq";exact done0
   walk_at "rq";exact done0
 obtain⟨p3,xs3,ps3,x5,x6,x7,x8,rfl,hp3,e3,hF3,h3,hI3,hU3,hl3,hE3⟩:=hM;have hA3:H3 a=some (.lst (ls.map V.str)):=e3 _ _ had hA
 with_reducible refine Sa (MP K H d l a ls way (way=5)) (λN hN=>?_) (fun σ1 H4 hM=>?_)
 . walk_at "rq";refine Jt (λhw=>?_) (λhw=>?_)
   . symm
     refine⟨d,l,_,rfl,hF3,by omega,by omega,λcut H4 hc0 hc1 e4 hF4=>?_⟩;have hA4:H4 a=some (.lst (ls.map V.str)):=e4 _ _ had hA3
     symm
     refine Gq ∅ ?_;refine Jl (K:=K) Ax (List.range ((ls.length:Nat)-1:Int).toNat) (by simp) (λk=>!decide (V.int ((0:Int)+(k:Nat)+1)=V.int cut)) (λk=>prD (ls.getD k "",ls.getD (k+1) "")) (λ_=>Mm _) (by simp;omega) (λ_ _=>trivial) (λi k v H5 R R' hk hv e5 hR hR'=>?_) (λp5 ys H5 hp5 e5 h5 hI5=>?_)
     . obtain⟨rfl,hi2⟩:=Cp hv
       have hki:i=k:=by obtain⟨_,h2⟩:=A01.mp hk;rw[List.getElem_range] at h2;exact h2
       subst hki;have hA5:H5 a=some (.lst (ls.map V.str)):=e5 _ _ hA4
       symm
       refine Sl (λhc=>?_) (λhc=>?_)
       . obtain⟨z1,hz1,hz1',_⟩:=str_at? (ls:=ls) (i:=0+(i:Int)) ∅ ∅;obtain⟨z2,hz2,hz2',_⟩:=str_at? (ls:=ls) (i:=0+(i:Int)+1) ∅ ∅
         symm
         refine Ej hA5 hz1' ?_
         symm
         refine Ej hA5 hz2' ?_
         symm
         refine Bq (A9 (by simp)) λt H6 ht6 e6 h6=>?_;have q1:(0+(i:Int)).toNat=i:=by omega
         have q2:(0+(i:Int)+1).toNat=i+1:=by omega
         rw[q1] at hz1;rw[q2] at hz2;refine hR (by rw[A11 hc];rfl) _ _ e6 ?_;rw[Yd hz1,Yd hz2];exact Yx (SqT.of h6)
       exact hR' (by rw[A0H hc];rfl) _ (Same.refl _)
     symm
     rw[a58] at hI5;have hp0':H p5=none:=hF4.free (by walk_at "fr") hp5;refine hN _ _ ⟨p5,ys,_,_,_,_,_,rfl,hp0',by walk_at "fr",by walk_at "fd",h5,hI5,λpr hpr=>?_,?_,λq=>by cases hw;cases q⟩
     . obtain⟨j,hj,rfl⟩:=A0F.mp hpr;have hj:=A1R.mp (A1H.mp hj).1;exact⟨j,j+1,by omega,Ih ∅,Ih ∅⟩
     rw[A00];refine A0B (A1M _ _) ?_;rw[A1F];omega
   walk_at "rq";exact hN _ _ ⟨p3,xs3,ps3,x5,x6,x7,x8,rfl,hp3,e3,hF3,h3,hI3,hU3,hl3,hE3⟩
 obtain⟨p4,xs4,ps4,y5,y6,y7,y8,rfl,hp4,e4,hF4,h4,hI4,hU4,hl4,hE4⟩:=hM;have hA4:H4 a=some (.lst (ls.map V.str)):=e4 _ _ had hA
 with_reducible refine Sa (MP K H d l a ls way (way=5)) (λN hN=>?_) (fun σ1 H5 hM=>?_)
 . walk_at "rq";refine Jt (λhw=>?_) (λhw=>?_)
   . symm
     refine Wu ∅ ?_;refine Cu Ax (λp i acc H5=>∃ ps,ExtBut d H H5/\Feed H5 d l/\IsL K H5 (ps.map prD) acc/\Up ls ps/\ps.length<=i) (λp H5 hp e5 h5=>⟨[],by walk_at "fr",by walk_at "fd",.nil,.nil,A05 _⟩) (λ_ _ _ _ _=>trivial) (λp i x acc H5 hp hx hi hl5 ha hP=>?_) λp acc H5 hp ha hl5 hP=>?_
     . obtain⟨ps,e5,hF5,hI5,hU5,hpl5⟩:=hP;obtain⟨rfl,hi2⟩:=Cp hx;have hp0':H p=none:=hF4.free e4 hp;have hpd:p≠d:=Ne.symm (hF4.nd hp)
       symm
       refine⟨d,l,_,rfl,hF5,by omega,by omega,λu H6 hu0 hu1 e6 hF6=>?_⟩
       symm
       have h6:H6 p=some (.lst acc):=e6 _ _ hpd ha;have hA6:H6 a=some (.lst (ls.map V.str)):=e6 _ _ had (e5 _ _ had hA);refine Jt (λhc=>?_) (λhc=>?_)
       . symm
         refine⟨d,l,_,rfl,hF6,by omega,by omega,λu2 H7 hv0 hv1 e7 hF7=>?_⟩;have h7:H7 p=some (.lst acc):=e7 _ _ hpd h6;have hA7:H7 a=some (.lst (ls.map V.str)):=e7 _ _ had hA6;obtain⟨z1,hz1,hz1',_⟩:=str_at? (ls:=ls) (i:=u2) hv0 ∅;obtain⟨z2,hz2,hz2',_⟩:=str_at? (ls:=ls) (i:=1+(i:Int)) ∅ ∅
         symm
         refine Ej hA7 hz1' ?_
         symm
         refine Ej hA7 hz2' ?_
         symm
         refine Bq (A9 (by simp)) λt H8 ht8 e8 h8=>?_;have h8p:H8 p=some (.lst acc):=e8 _ _ h7;refine Fq (by simp;omega) hi hl5 h8p λH9 e9 h9=>?_;have fz9:Fz H8 H9:=e9.fzL h8p;have fz8:Fz H5 H8:=((hF5.fz e6).trans (hF6.fz e7)).trans e8.fz;refine⟨ps++[(z1,z2)],by walk_at "fr",by walk_at "fd",?_,hU5.append (.one ∅ hz1 hz2),by simp[hpl5]⟩;rw[A0A];exact(IsL.fz (fz8.trans fz9) _ _ (Ev ps) hI5).append (.one ((Yx (SqT.of h8)).pr_fz fz9))
       refine Iw hi hl5 h6 ⟨ps,by walk_at "fr",hF6,IsL.fz (hF5.fz e6) _ _ (Ev ps) hI5,hU5,by omega⟩
     obtain⟨ps,e5,hF5,hI5,hU5,hpl5⟩:=hP;rw[A00,A1F] at hpl5
     symm
     exact hN _ _ ⟨p,acc,ps,_,_,_,_,rfl,hF4.free e4 hp,e5,hF5,ha,hI5,hU5,by omega,λq=>by cases hw;cases q⟩
   walk_at "rq";exact hN _ _ ⟨p4,xs4,ps4,_,_,_,_,rfl,hp4,e4,hF4,h4,hI4,hU4,hl4,hE4⟩
 obtain⟨p5,xs5,ps5,z5,z6,z7,z8,rfl,hp5,e5,hF5,h5,hI5,hU5,hl5,hE5⟩:=hM;have hA5:H5 a=some (.lst (ls.map V.str)):=e5 _ _ had hA
 with_reducible refine Sa (MP K H d l a ls way False) (λN hN=>?_) (fun σ1 H6 hM=>?_)
 . walk_at "rq";refine Jt (λhw=>?_) (λhw=>?_)
   . symm
     refine⟨d,l,_,rfl,hF5,by omega,by omega,λcut H6 hc0 hc1 e6 hF6=>?_⟩;have hA6:H6 a=some (.lst (ls.map V.str)):=e6 _ _ had hA5;have h6:H6 p5=some (.lst xs5):=e6 _ _ (hF5.lst h5) h5
     symm
     refine Ni (SqL.of hA6) λq H7 hq7 e7 h7=>?_;rw[Ht hc0,<- A3M] at h7;have hq0:H q=none:=hF6.free (by walk_at "fr") hq7;have hp5n:p5≠q:=ne_of_none h6 hq7;refine Go (SqL.of h7) ?_
     have hway:way=5:=by cases hw;rfl
     have hps:ps5=[]:=hE5 hway;subst hps;have hxs:xs5=[]:=by simpa only[List.map_nil,L2.IsL] using hI5
     subst hxs;have hdrop:∀ H8,ExtBut d H H8->H8 a=some (.lst (ls.map V.str)):=λH8 e8=>e8 _ _ had hA
     refine Ez (Aw (xs:=(ls.take cut.toNat).map V.str)) (λi σ H8=>∃ xs ps x8,σ=[some (V.ref d),some (.ref a),some (.int (ls.length:Nat)),some (.int way),some (.ref p5),z5,z6,some (.int cut),x8]/\ExtBut d H H8/\Feed H8 d l/\H8 q=some (.lst ((ls.take cut.toNat).map V.str))/\H8 p5=some (.lst xs)/\IsL K H8 (ps.map prD) xs/\Up ls ps/\ps.length<=i*10)
      ⟨[],[],_,rfl,by walk_at "fr",by walk_at "fd",h7,by walk_at "lk",.nil,.nil,by decide⟩ (λi σ H8 hP=>?_) (λi x σ H8 hx8 hi hP=>?_) (fun σ H8 hP=>?_)
     . obtain⟨xs,ps,x8,rfl,e8,hF8,hq8,_⟩:=hP;exact SqL.of hq8
     . obtain ⟨xs,ps,x8,rfl,e8,hF8,hq8,h8,hI8,hU8,hl8⟩:=hP;rw[A07] at hx8
       cases hz:(ls.take cut.toNat)[i]? with
       |none=>rw[hz] at hx8;cases hx8
       |some one=>
         rw[hz] at hx8
         cases hx8
         have hi10:i<10:=by have:=A01.mp hz;obtain⟨h1,_⟩:=this;rw[A0J] at h1;omega
         have hone:ls[i]? = some one:=by
          rw[A4R] at hz
          split at hz
          . exact hz
          cases hz
         have hicut:i<cut.toNat:=by
          rw[A4R] at hz
          split at hz
          . assumption
          cases hz
         symm
         refine Ni (SqL.of (hdrop H8 e8)) λq9 H9 hq9 e9 h9=>?_;rw[Ji hc0 (by rw[A00];omega),<- A32] at h9;refine Go (SqL.of h9) ?_;refine Jl (K:=K) (Aw (xs:=(ls.drop cut.toNat).map V.str)) (ls.drop cut.toNat) (by simp) (λ_=>true) (λo=>prD (one,o)) (λ_=>Mm _) (by simp;omega) (λH' e'=>SqL.of (e' _ _ h9)) (λj o v H10 R R' ho hv e10 hR hR'=>?_) (λp10 ys H10 hp10 e10 h10 hI10=>?_)
         . rw[A07,ho] at hv
           cases hv
           symm
           refine Bq (A9 (by simp)) λt H11 ht11 e11 h11=>?_;exact hR rfl _ _ e11 (Yx (SqT.of h11))
         symm
         have h10p:H10 p5=some (.lst xs):=e10 _ _ (e9 _ _ h8)
         have hy:ys.length<=10:=by have:=IsL.length hI10;rw[A00,Hv,A1G] at this;omega
         have hxl:=Qr hI8;refine T2 h10p h10 ∅ λH11 e11 h11=>?_
         symm
         have hq10:H10 q=some (.lst ((ls.take cut.toNat).map V.str)):=e10 _ _ (e9 _ _ hq8);have fz11:Fz H10 H11:=e11.fzL h10p;rw[Hv,a58] at hI10;refine⟨xs++ys,ps++(ls.drop cut.toNat).map (λo=>(one,o)),_,rfl,by walk_at "fr",by walk_at "fd",e11 _ _ (Ne.symm hp5n) hq10,h11,?_,hU8.append λpr hpr=>?_,?_⟩
         . rw[A0A];exact(IsL.fz ((e9.fz.trans e10.fz).trans fz11) _ _ (Ev ps) hI8).append (IsL.fz fz11 _ _ (Ev _) hI10)
         . obtain⟨o,ho,rfl⟩:=A0F.mp hpr;obtain⟨j,hj,ej⟩:=A2W ho;refine⟨i,cut.toNat+j,by omega,hone,?_⟩;rw[<- A3Y,A03 hj,ej]
         rw[A04,A00,A1G,A4Z];omega
     obtain⟨xs,ps,x8,rfl,e8,hF8,hq8,h8,hI8,hU8,hl8⟩:=hP;rw[A00,A0J] at hl8;exact hN _ _ ⟨p5,xs,ps,_,_,_,_,rfl,hp5,e8,hF8,h8,hI8,hU8,by omega,False.elim⟩
   walk_at "rq";exact hN _ _ ⟨p5,xs5,ps5,_,_,_,_,rfl,hp5,e5,hF5,h5,hI5,hU5,hl5,False.elim⟩
 obtain⟨p6,xs6,ps6,w5,w6,w7,w8,rfl,hp6,e6,hF6,h6,hI6,hU6,hl6,hE6⟩:=hM
 symm
 exact k p6 xs6 ps6 H6 hp6 e6 hF6 h6 hI6 hU6 hl6
def Gh (K:W.Frag):Sp:=λvs H Q _=>∃ d l a ls,vs=[.ref d,.ref a]/\Feed H d l/\H a=some (.lst (ls.map V.str))/\ls.length<=10/\∀ v ps H',ExtBut d H H'->Feed H' d l->Is K H' (psD ps) v->Up ls ps->ps.length<=60->Q v H'
theorem al0 {K:W.Frag}{H:Hp}{ps:List (Str×Str)}{xs:List V}{p:Str×Str}{v:V}(n:Nat)(h:IsL K H (ps.map prD) xs)(hv:Is K H (prD p) v):IsL K H ((ps.take n++p :: ps.drop n).map prD) (aG3 xs n v):=by rw[A0A,A0U,A3M,A32];exact(IsL.take n h).append (.cons hv (IsL.drop n h))
theorem My {f:Addr}{fd:FuncData}(F:Fun K "_law_sayings" "_law_sayings" Ck f fd)(T:Gn mg)(Aa:Fnd P w K mg base 1 "_law_draw" ["_law_feed_here","_law_many"] (Ca K))(J3:Fnd P w K mg base 2 "_law_pairs" ["_law_feed_here","_law_line"] (Ia K)):FnOk P w K mg base CX0 3 f fd ["_law_feed_here","_law_line"] (Gh K):=by
 refine F.ok Es (λvs H Q E h=>?_) (λcdv A outer s H vs Q E hr h=>?_)
 . obtain⟨d,l,a,xs,rfl,_⟩:=h;rfl
 obtain⟨d,l,a,ls,rfl,hF,hA,hl,k⟩:=h;have hu:=C8 hr;have hq:=C7 hr
 with_reducible refine⟨_,(A2 (Ac (i:=2) Es.nd ⋯ (by eq_refl) (Bh A1))
  (A2 (C9 A14 ⋯ (Aq (K:=K) hu (As J3 (hr.mono nofun) ⋯ (A0 (pv 0) (A0 (pv 1) A1)))) (A8 (i:=3) Es.nd ⋯ (by eq_refl))
  (A5 (C9 A14 ⋯ (Br ⋯ T.b_range (A0 (Ak (Ah (K:=K)) A4 (Dv Si ⋯ T.b_int PyProof.Rows.Boot.«int» (A0 (Ew (Cb (K:=K) hq) (As Aa (hr.mono nofun) ⋯ (A0 (pv 0) (A0 A4 A1))) A4 (Ao _)) A1))) A1)) (A8 (i:=4) Es.nd ⋯ (by eq_refl))
  (A5 (Bv (Fs (K:=K) A0Z PySem.F.slot_list_insert PySem.F.type_list_insert (mm Zk) (pv 2) (A0 (As Aa (hr.mono nofun) ⋯ (A0 (pv 0) (A0 (Ak (Ah (K:=K)) (A7 (Aj (K:=K)) ⋯ T.b_len PyProof.Rows.Boot.«len» (A0 (pv 2) A1)) A4) A1))) (A0 (pv 3) A1))))))))
  (A5 (Am (Dv (K4 (K:=K)) ⋯ T.b_tuple PyProof.Rows.Boot.«tuple» (A0 (B9 (Oi (K:=K)) (pv 2) Cq (Be A4)) A1)))))),?_⟩
 symm
 refine Bg nofun λp H1 hp1 e1 h1=>?_;have hA1:H1 a=some (.lst (ls.map V.str)):=e1 _ _ hA;have hF1:Feed H1 d l:=hF.same e1
 symm
 refine⟨d,l,a,ls,rfl,hF1,hA1,hl,λq xs ps H2 hq2 e2 hF2 h2 hI2 hU2 hl2=>?_⟩;have hpd:p≠d:=Ne.symm (hF.nd hp1);have h2p:H2 p=some (.lst []):=e2 _ _ hpd h1;have hpq:p≠q:=ne_of_none h1 hq2;have hq0:H q=none:=e1.free hq2;have hxl:=Qr hI2;refine Go (SqL.of h2) ?_
 refine Ez (Aw (xs:=xs)) (λi σ H3=>∃ ys qs x3 x4,σ=[some (V.ref d),some (.ref a),some (.ref p),x3,x4]/\ExtBut d H H3/\Feed H3 d l/\H3 q=some (.lst xs)/\Fz H2 H3/\H3 p=some (.lst ys)/\IsL K H3 (qs.map prD) ys/\Up ls qs/\qs.length<=i*2)
  ⟨[],[],_,_,rfl,by walk_at "fr",hF2,h2,.refl _,h2p,.nil,.nil,by decide⟩ (λi σ H3 hP=>?_) (λi x σ H3 hx3 hi hP=>?_) (fun σ H3 hP=>?_)
 . obtain⟨ys,qs,x3,x4,rfl,e3,hF3,hq3,_⟩:=hP;exact SqL.of hq3
 . obtain⟨ys,qs,x3,x4,rfl,e3,hF3,hq3,fz3,h3p,hI3,hU3,hl3⟩:=hP;obtain ⟨dp,hdp,hip⟩:=IsL.get hI2 hx3;rw[A07] at hdp
   cases hpr:ps[i]? with
   |none=>rw[hpr] at hdp;cases hdp
   |some pr=>
     rw[hpr] at hdp
     cases hdp
     have hUp:Up ls [pr]:=hU2.sub λz hz=>by
      have:z=pr:=by simpa using hz
      subst this;exact A02 hpr
     have hi100:i<100:=by omega
     symm
     refine⟨d,l,_,rfl,hF3,by omega,by omega,λu H4 hu0 hu1 e4 hF4=>?_⟩;have h4p:H4 p=some (.lst ys):=e4 _ _ hpd h3p;have h4q:H4 q=some (.lst xs):=e4 _ _ (hF3.lst hq3) hq3;have fz4:Fz H2 H4:=fz3.trans (hF3.fz e4);have hI4:IsL K H4 (qs.map prD) ys:=IsL.fz (hF3.fz e4) _ _ (Ev qs) hI3
     symm
     refine Gq (by split<;>omega) ?_
     refine Ez Ax (λj σ H5=>∃ zs rs x4,σ=[some (V.ref d),some (.ref a),some (.ref p),some x,x4]/\ExtBut d H H5/\Feed H5 d l/\H5 q=some (.lst xs)/\Fz H2 H5/\H5 p=some (.lst zs)/\IsL K H5 (rs.map prD) zs/\Up ls rs/\rs.length=qs.length+j)
      ⟨ys,qs,_,rfl,by walk_at "fr",hF4,h4q,fz4,h4p,hI4,hU3,rfl⟩ (λ_ _ _ _=>trivial) (λj x' σ H5 hx5 hj hP=>?_) (fun σ H5 hP=>?_)
     . obtain⟨zs,rs,x4',rfl,e5,hF5,hq5,fz5,h5p,hI5,hU5,hl5⟩:=hP;obtain⟨rfl,hj2⟩:=Cp hx5;have hzl:=Qr hI5
       have hj3:j<2:=by
        have:(1+if decide (V.int u=V.int 0)=true then(1:Int) else 0).toNat<=2:=by split<;>omega
        omega
       symm
       refine⟨d,l,_,rfl,hF5,by omega,by omega,λu2 H6 hv0 hv1 e6 hF6=>?_⟩;have h6p:H6 p=some (.lst zs):=e6 _ _ hpd h5p;have h6q:H6 q=some (.lst xs):=e6 _ _ (hF5.lst hq5) hq5
       symm
       refine aH3 h6p hv0 ∅ ∅ λH7 e7 h7p=>?_;have fz6:Fz H5 H6:=hF5.fz e6;have fz7:Fz H6 H7:=e7.fzL h6p
       symm
       refine⟨_,_,_,rfl,by walk_at "fr",by walk_at "fd",e7 _ _ (Ne.symm hpq) h6q,(fz5.trans fz6).trans fz7,h7p,al0 u2.toNat (IsL.fz (fz6.trans fz7) _ _ (Ev rs) hI5) (Is.fz ((fz5.trans fz6).trans fz7) _ _ (Mm pr) hip),?_,?_⟩
       . intro z hz;rcases A0C.mp hz with hz|hz
         . exact hU5 z (A1P hz)
         rcases A0N.mp hz with rfl|hz
         . exact hUp _ (by simp)
         exact hU5 z (A2R hz)
       rw[A04,A0G,A0J,A1G];omega
     obtain⟨zs,rs,x4',rfl,e5,hF5,hq5,fz5,h5p,hI5,hU5,hl5⟩:=hP;rw[A00,A1F] at hl5;have hj3:(1+if decide (V.int u=V.int 0)=true then(1:Int) else 0).toNat<=2:=by split<;>omega
     exact⟨zs,rs,_,_,rfl,e5,hF5,hq5,fz5,h5p,hI5,hU5,by omega⟩
 obtain⟨ys,qs,x3,x4,rfl,e3,hF3,hq3,fz3,h3p,hI3,hU3,hl3⟩:=hP
 symm
 refine Ni (SqL.of h3p) λt H4 ht4 e4 h4=>?_
 symm
 rw[Ht nofun] at h4;refine Pw (SqL.of h4) λt2 H5 ht5 e5 h5=>?_;have hI5:IsL K H5 (qs.map prD) ys:=IsL.mono e5 _ _ (IsL.mono e4 _ _ hI3);refine k (.ref t2) (qs.take 60) H5 (by walk_at "fr") (by walk_at "fd") (Is.of_tup (SqT.of h5) ?_) (hU3.sub λz hz=>A1P hz) ?_
 . rw[A3M];exact IsL.take 60 hI5
 rw[A0J];omega
def Ix (K:W.Frag):Sp:=λvs H Q _=>∃ d l n,vs=[.ref d,.int n]/\Feed H d l/\0<=n/\n<=10/\∀ v ns ps H',ExtBut d H H'->Feed H' d l->Is K H' (hfD ns ps) v->Half ns ps->ns.length<=n.toNat->Q v H'
theorem ak0 {ns ls:List Str}{ps:List (Str×Str)}(h:Names ns)(hl:ns.length<=10)(p:ls.Perm ns)(u:Up ls ps)(hp:ps.length<=60):Half ns ps:=⟨h,hl,hp,ls,p,u⟩
theorem Yr {ns:List Str}{ys:List V}(h:ys.Perm (ns.map V.str)):∃ ls:List Str,ys=ls.map V.str/\ls.Perm ns:=by
 refine⟨ys.map λv=>match v with | .str z=>z | _=>"",?_,?_⟩
 . rw[A2E]
   have:∀ v∈ys,(V.str∘λv=>match v with | .str z=>z | _=>"") v=v:=λv hv=>by obtain⟨z,_,rfl⟩:=A0F.mp (h.mem_iff.mp hv);rfl
   rw[A1K this];simp
 have:=h.map λv=>match v with | .str z=>z | _=>("":Str)
 rw[A2E] at this
 have e:ns.map ((λv=>match v with | .str z=>z | _=>("":Str))∘V.str)=ns:=by rw[show((λv=>match v with | .str z=>z | _=>("":Str))∘V.str)=id from rfl,List.map_id]
 rw[e] at this;exact this
theorem Sx {f:Addr}{fd:FuncData}(F:Fun K "_law_half" "_law_half" Fb f fd)(T:Gn mg)(Aa:Fnd P w K mg base 1 "_law_draw" ["_law_feed_here","_law_many"] (Ca K))(Iz:Fnd P w K mg base 2 "_law_names" ["_law_feed_here","_law_many"] (Ik K))(Gc:Fnd P w K mg base 2 "_law_shuffled" ["_law_feed_here","_law_some"] (G0 K))(Hb:Fnd P w K mg base 3 "_law_sayings" ["_law_feed_here","_law_line"] (Gh K)):FnOk P w K mg base CX0 4 f fd ["_law_feed_here","_law_most"] (Ix K):=by
 refine F.ok Lw (λvs H Q E h=>?_) (λcdv A outer s H vs Q E hr h=>?_)
 . obtain⟨d,l,n,rfl,_⟩:=h;rfl
 obtain⟨d,l,n,rfl,hF,h0,h10,k⟩:=h;have hu:=C8 hr;have hq:=C7 hr
 with_reducible refine⟨_,(A2 (Ac (i:=2) Lw.nd ⋯ (by eq_refl) (As Iz (hr.mono nofun) ⋯ (A0 (pv 0) (A0 (As Aa (hr.mono nofun) ⋯ (A0 (pv 0) (A0 (Ak (Ah (K:=K)) (pv 1) A4) A1))) A1))))
  (A5 (Am (Bz (A0 (Dv (K4 (K:=K)) ⋯ T.b_tuple PyProof.Rows.Boot.«tuple» (A0 (pv 2) A1)) (A0 (As Hb (hr.mono nofun) ⋯ (A0 (pv 0) (A0 (As Gc (hr.mono nofun) ⋯ (A0 (pv 0) (A0 (pv 2) A1))) A1))) A1)))))),?_⟩
 symm
 refine⟨d,l,_,rfl,hF,by omega,by omega,λu H1 hu0 hu1 e1 hF1=>?_⟩
 symm
 refine⟨d,l,_,rfl,hF1,by omega,by omega,λp2 ns H2 hp2 e2 hF2 h2 hN hl=>?_⟩
 symm
 refine Pw (SqL.of h2) λt3 H3 ht3 e3 h3=>?_;have hF3:=hF2.same e3;have hI3:Is K H3 (nmD ns) (.ref t3):=Hs (SqT.of h3)
 symm
 refine⟨d,l,p2,_,rfl,hF3,.inl (SqL.of (e3 _ _ h2)),by rw[A00];omega,λp4 ys4 H4 hp4 e4 hF4 h4 hperm=>?_⟩;obtain⟨ls,rfl,hpm⟩:=Yr hperm;have fz4:=hF3.fz e4
 symm
 refine⟨d,l,p4,ls,rfl,hF4,h4,by rw[hpm.length_eq];omega,λv5 ps H5 e5 hF5 hI5 hU hl5=>?_⟩;have fz5:=hF4.fz e5
 symm
 refine Bq (A9 (by simp)) λt6 H6 ht6 e6 h6=>?_;exact k (.ref t6) ns ps H6 (by walk_at "fr") (by walk_at "fd") (aE9 (SqT.of h6) (hI3.nm_fz ((fz4.trans fz5).trans e6.fz)) (hI5.ps_fz e6.fz)) (ak0 hN ∅ hpm hU hl5) ∅
def OkP (ps:List (Str×Str)):Prop:=∀ p∈ps,PyData.strOk p.1=true/\PyData.strOk p.2=true
def Hd (K:W.Frag):Sp:=λvs H Q _=>∃ v x ns ps,vs=[v,.str x]/\Is K H (hfD ns ps) v/\ps.length<=1000/\OkP ps/\PyData.strOk x=true/\∀ p (fs:List Str) H',H p=none->Same H H'->H' p=some (.lst (fs.map V.str))->fs.Nodup->(∀ y,y∈fs↔Way ps x y)->Q (.ref p) H'
structure BhI (ps:List (Str×Str))(x:Str)(fs ls:List Str):Prop where
 nd:fs.Nodup
 way:∀ y∈fs,Way ps x y
 line:∀ z∈ls,z=x\/z∈fs
 shut:∀ z,z=x\/z∈fs->z∉ls->∀ y,(z,y)∈ps->y∈fs
 few:ls.length<=fs.length+1
theorem BhI.le {ps:List (Str×Str)}{x:Str}{fs ls:List Str}(h:BhI ps x fs ls):fs.length<=ps.length:=by have:=G4 (ys:=ps.map (·.2)) h.nd λy hy=>(h.way y hy).right;rwa[A00] at this
structure BhJ (ps:List (Str×Str))(x here:Str)(fs ls gs ms:List Str)(i:Nat):Prop where
 nd:gs.Nodup
 way:∀ y∈gs,Way ps x y
 line:∀ z∈ms,z=x\/z∈gs
 keep:∀ z∈fs,z∈gs
 keepL:∀ z∈ls,z∈ms
 new:∀ z∈gs,z∈fs\/z∈ms
 seen:∀ j<i,∀ y,ps[j]? = some (here,y)->y∈gs
 len:gs.length+ls.length=fs.length+ms.length
theorem BhJ.le {ps:List (Str×Str)}{x here:Str}{fs ls gs ms:List Str}{i:Nat}(h:BhJ ps x here fs ls gs ms i):gs.length<=ps.length:=by have:=G4 (ys:=ps.map (·.2)) h.nd λy hy=>(h.way y hy).right;rwa[A00] at this
theorem BhJ.step {ps:List (Str×Str)}{x here:Str}{fs ls gs ms:List Str}{i:Nat}{p:Str×Str}(h:BhJ ps x here fs ls gs ms i)(hw:here=x\/Way ps x here)(hp:ps[i]? = some p)(h1:p.1=here)(h2:p.2∉gs):BhJ ps x here fs ls (gs++[p.2]) (ms++[p.2]) (i+1):=by
 have hm:(here,p.2)∈ps:=by rw[<- h1];exact A02 hp
 refine⟨?_,λy hy=>?_,λz hz=>?_,λz hz=>A1L _ (h.keep z hz),λz hz=>A1L _ (h.keepL z hz),λz hz=>?_,λj hj y e=>?_,?_⟩
 . rw[A2F];refine⟨h.nd,by simp,λa ha b hb=>?_⟩;have:b=p.2:=by simpa using hb
   subst this;intro e;subst e;exact h2 ha
 . rcases A0C.mp hy with hy|hy
   . exact h.way y hy
   have:y=p.2:=by simpa using hy
   subst this;rcases hw with rfl|hw
   . exact .one hm
   exact hw.snoc hm
 . rcases A0C.mp hz with hz|hz
   . rcases h.line z hz with e|e
     . exact .inl e
     exact .inr (A1L _ e)
   exact .inr (A1D _ hz)
 . rcases A0C.mp hz with hz|hz
   . rcases h.new z hz with e|e
     . exact .inl e
     exact .inr (A1L _ e)
   exact .inr (A1D _ hz)
 . by_cases hji:j=i
   . subst hji;rw[hp] at e
     cases e;exact List.mem_append_right _ (by simp)
   exact A1L _ (h.seen j ∅ y e)
 rw[A04,A04,A0S];have:=h.len;omega
theorem BhJ.skip {ps:List (Str×Str)}{x here:Str}{fs ls gs ms:List Str}{i:Nat}{p:Str×Str}(h:BhJ ps x here fs ls gs ms i)(hp:ps[i]? = some p)(h1:p.1=here->p.2∈gs):BhJ ps x here fs ls gs ms (i+1):=by
 refine⟨h.nd,h.way,h.line,h.keep,h.keepL,h.new,λj hj y e=>?_,h.len⟩
 by_cases hji:j=i
 . subst hji;rw[hp] at e
   cases e;exact h1 rfl
 exact h.seen j ∅ y e
theorem BhJ.done {ps:List (Str×Str)}{x here:Str}{fs ls gs ms:List Str}(I:BhI ps x fs (ls++[here]))(h:BhJ ps x here fs ls gs ms ps.length):BhI ps x gs ms:=by
 refine⟨h.nd,h.way,h.line,λz hz hm y hy=>?_,?_⟩
 . by_cases e:z=here
   . subst e;obtain⟨j,hj,ej⟩:=A2W hy;exact h.seen j hj y (by rw[A03 hj,ej])
   have hz':z=x\/z∈fs:=by
    rcases hz with hz|hz
    . exact .inl hz
    rcases h.new z hz with q|q
    . exact .inr q
    exact absurd q hm
   refine h.keep y (I.shut z hz' (λq=>?_) y hy);rcases A0C.mp q with q|q
   . exact hm (h.keepL z q)
   exact e (by simpa using q)
 have:=h.len;have:=I.few;rw[A04,A0S] at this;omega
theorem Oe {f:Addr}{fd:FuncData}(F:Fun K "_law_behind" "_law_behind" Dd f fd)(T:Gn mg):FnOk P w K mg base CX0 1 f fd ["_law_half_here","_law_name"] (Hd K):=by
 refine F.ok Ci (λvs H Q E h=>?_) (λcdv A outer s H vs Q E hr h=>?_)
 . obtain⟨v,x,ns,ps,rfl,_⟩:=h;rfl
 obtain⟨v,x,ns,ps,rfl,hI,hl,hok,hx,k⟩:=h;have hu:=C8 hr;have hq:=C7 hr
 with_reducible refine⟨_,(A2 (Ac (i:=2) Ci.nd ⋯ (by eq_refl) (Bh A1))
  (A2 (Ac (i:=3) Ci.nd ⋯ (by eq_refl) (Bh (A0 (pv 1) A1)))
  (A2 (M8 A14 (Ab (Iy (K:=K) hq) (pv 3) (Bh A1) (Ao _))
  (A2 (Ac (i:=4) Ci.nd ⋯ (by eq_refl) (Qe (K:=K) A0Z A5I A5J (mm ai8) (pv 3)))
  (A5 (C9 A14 ⋯ (Aq (K:=K) hu (Al (A6 (K:=K) hu) (pv 0) A4 (by ac_rfl))) (Po (K:=K) (n:=2) ⋯ (Gp (A8 (i:=5) Ci.nd ⋯ (by eq_refl)) (Gp (A8 (i:=6) Ci.nd ⋯ (by eq_refl)) Pr)))
  (A5 (C0 (PW.pt (Zz (Ab (Cb (K:=K) hq) (pv 5) (pv 4) (Ao _)) (Ve (Ab (Fw (K:=K) hq) (pv 6) (pv 2) ⋯)))) (A2 (Bv (Fs (K:=K) A0Z A1U A1V (mm Du) (pv 2) (A0 (pv 6) A1)))
  (A5 (Bv (Fs (K:=K) A0Z A1U A1V (mm Du) (pv 3) (A0 (pv 6) A1))))) Ap))))))
  (A5 (Am (pv 2)))))),?_⟩
 symm
 refine Bg nofun λp H1 hp1 e1 h1=>?_
 symm
 refine Bg (A9 (by simp)) λq H2 hq2 e2 h2=>?_
 symm
 have hpq:p≠q:=ne_of_none h1 hq2;have hq0:H q=none:=e1.free hq2
 have okn:∀ y,y=x\/Way ps x y->PyData.strOk y=true:=λy hy=>by
  rcases hy with rfl|hy
  . exact hx
  obtain⟨pr,hpr,e⟩:=A0F.mp hy.right;exact e ▸ (hok pr hpr).2
 refine Qa (λm σ H3=>∃ fs ls x4 x5 x6,σ=[some v,some (.str x),some (.ref p),some (.ref q),x4,x5,x6]/\Same H H3/\H3 p=some (.lst (fs.map V.str))/\H3 q=some (.lst (ls.map V.str))/\BhI ps x fs ls/\m=2*(ps.length-fs.length)+ls.length)
  (2*(ps.length-([]:List Str).length)+[x].length) ⟨[],[x],_,_,_,rfl,by walk_at "sm",by walk_at "lk",h2,⟨by simp,λ_ h=>(by cases h),λz hz=>.inl (by simpa using hz),λz hz hn=>(by
   rcases hz with rfl|hz
   . exact absurd (by simp) hn
   cases hz),by simp⟩,rfl⟩ λm σ H3 hP=>?_
 obtain⟨fs,ls,x4,x5,x6,rfl,e3,h3p,h3q,hB,rfl⟩:=hP
 symm
 refine Bg nofun λt H4 ht4 e4 h4=>?_;refine ac9 (dx:=.list (ls.map PyData.str)) (dy:=.list []) (Is.of_lst (SqL.of (e4 _ _ h3q)) (R8 ls)) (Is.of_lst (SqL.of h4) .nil) (Wi λz hz=>?_) (by rfl) ?_
 . refine okn z ?_;rcases hB.line z hz with e|e
   . exact .inl e
   exact .inr (hB.way z e)
 rw[Lr]
 symm
 refine ac8 (λhE=>?_) (λhE=>?_)
 . have hne:ls≠[]:=by
    intro e;subst e
    cases hE
   obtain⟨ls',here,rfl⟩:∃ ls' here,ls=ls'++[here]:=⟨ls.dropLast,ls.getLast hne,(List.dropLast_concat_getLast hne).symm⟩;refine Vt ?_
   symm
   have h4p:H4 p=some (.lst (fs.map V.str)):=e4 _ _ h3p;have h4q:H4 q=some (.lst (ls'.map V.str++[V.str here])):=by rw[e4 _ _ h3q,A0A];rfl
   refine ae8 h4q λH5 e5 h5q=>?_
   symm
   have h5p:H5 p=some (.lst (fs.map V.str)):=e5 _ _ hpq h4p;have e05:Same H H5:=by walk_at "sm"
   refine Wj (hI.hf_fz e05.fz) λu hI5=>?_;have hle:=hB.le;have hfew:=hB.few;rw[A04,A0S] at hfew
   refine aj0 hI5 (λi σ H6=>∃ gs ms x5 x6,σ=[some v,some (.str x),some (.ref p),some (.ref q),some (.str here),x5,x6]/\Same H H6/\Fz H5 H6/\H6 p=some (.lst (gs.map V.str))/\H6 q=some (.lst (ms.map V.str))/\BhJ ps x here fs ls' gs ms i)
    ⟨fs,ls',_,_,rfl,e05,.refl _,h5p,h5q,⟨hB.nd,hB.way,λz hz=>hB.line z (A1L _ hz),λ_ h=>h,λ_ h=>h,λ_ h=>.inl h,λj hj=>absurd hj (A29 _),rfl⟩⟩ (λi σ' H' hP=>?_) (λi pr w σ' H6 hpr hIp hP=>?_) (fun σ' H6 hP=>?_)
   . obtain⟨_,_,_,_,_,_,fz,_⟩:=hP;exact fz
   . obtain⟨gs,ms,x5',x6',rfl,e6,fz6,h6p,h6q,hJ⟩:=hP;have hgl:=hJ.le;have hml:=hJ.len;refine ao8 hIp ?_
     symm
     refine Jt (λh1=>?_) (λh1=>?_)
     . have h1':pr.1=here:=by injection h1
       symm
       refine aq5 (SqL.of h6p) ?_
       symm
       refine Sl (λh2=>?_) (λh2=>?_)
       . symm
         refine L3 h6p (by rw[A00];omega) λH7 e7 h7p=>?_
         symm
         have h7q:H7 q=some (.lst (ms.map V.str)):=e7 _ _ (Ne.symm hpq) h6q;refine L3 h7q (by rw[A00];omega) λH8 e8 h8q=>?_
         symm
         refine⟨gs++[pr.2],ms++[pr.2],_,_,rfl,by walk_at "sm",(fz6.trans (e7.fzL h6p)).trans (e8.fzL h7q),?_,?_,hJ.step ?_ hpr h1' h2⟩
         . rw[e8 _ _ hpq h7p,A0A];rfl
         . rw[h8q,A0A];rfl
         rcases hB.line here (List.mem_append_right _ (by simp)) with e|e
         . exact .inl e
         exact .inr (hB.way _ e)
       exact⟨gs,ms,_,_,rfl,e6,fz6,h6p,h6q,hJ.skip hpr λ_=>h2⟩
     exact⟨gs,ms,_,_,rfl,e6,fz6,h6p,h6q,hJ.skip hpr λe=>absurd (by rw[e]) h1⟩
   obtain⟨gs,ms,x5',x6',rfl,e6,fz6,h6p,h6q,hJ⟩:=hP;have hgl:=hJ.le;have hml:=hJ.len;have hge:=G4 hB.nd hJ.keep;refine⟨_,?_,gs,ms,_,_,_,rfl,e6,h6p,h6q,BhJ.done hB hJ,rfl⟩;rw[A04,A0S];omega
 have hn:ls=[]:=by
  cases ls with
  |nil=>rfl
  |cons _ _=>cases hE
 subst hn
 symm
 refine k p fs H4 hp1 (by walk_at "sm") (e4 _ _ h3p) hB.nd λy=>⟨hB.way y,λg=>?_⟩;exact Way.shut (S:=λy=>y∈fs) (λy hy=>hB.shut x (.inl rfl) (by simp) y hy) (λz y hz hy=>hB.shut z (.inr hz) (by simp) y hy) g
def G5 (K:W.Frag):Sp:=λvs H Q _=>∃ v ns ps,vs=[v]/\Is K H (hfD ns ps) v/\Half ns ps/\∀ r as H',H r=none->Same H H'->TabL K H' r ns as (Way ps)->Q (.ref r) H'
theorem ax9 {ps:List (Str×Str)}(h:NmP ps):OkP ps:=λp hp=>⟨(Xa (h p hp).1).1,(Xa (h p hp).2).1⟩
theorem Pm {f:Addr}{fd:FuncData}(F:Fun K "_law_table" "_law_table" Ei f fd)(T:Gn mg)(Hz:Fnd P w K mg base 1 "_law_behind" ["_law_half_here","_law_name"] (Hd K)):FnOk P w K mg base CX0 2 f fd ["_law_half_here"] (G5 K):=by
 refine F.ok Qp (λvs H Q E h=>?_) (λcdv A outer s H vs Q E hr h=>?_)
 . obtain⟨v,ns,ps,rfl,_⟩:=h;rfl
 obtain⟨v,ns,ps,rfl,hI,hH,k⟩:=h;have hu:=C8 hr;have hq:=C7 hr;have hn:=hH.names.1;have hfew:=hH.few;have hle:=hH.le;have hok:OkP ps:=ax9 hH.nmP;have hok1:∀ z∈ns,PyData.strOk z=true:=λz hz=>(Xa (hH.names.2 z hz)).1
 with_reducible refine⟨_,(A5 (Am (Dv (Op (K:=K) hr.hd) ⋯ T.b_dict PyProof.Rows.Boot.«dict» (A0 (Ba ["_law_name"] ["_law_half_here"] [0] ⋯ ⋯ ⋯ (Aq (K:=K) hu (Al (A6 (K:=K) hu) (pv 0) A4 (by ac_rfl))) (λ_ _ _ _=>(A8 (i:=0) (by with_unfolding_all (show(["_law_name","_law_half_here"]:List Str).Nodup;decide +kernel)) ⋯ (by eq_refl))) (Au nofun) (λ_ _ _ _=>Bn) (λ_ _ _ _=>(Bz (A0 (pv 0) (A0 (As Hz (hr.mono nofun) ⋯ (A0 (pv 1) (A0 (pv 0) A1))) A1))))) A1)))),?_⟩
 symm
 refine Hm hI λnv hN=>?_;obtain⟨na,rfl,hS⟩:=hN.nm;refine Ry hS ?_;refine Cu (Gw (xs:=ns.map V.str)) (λp i acc H1=>Same H H1/\∃ as:List Addr,as.length=i/\(∀(j:Nat) (z:Str) (a:Addr),ns[j]? = some z->as[j]? = some a->∃ ks:List Str,H1 a=some (.lst (ks.map V.str))/\a≠p/\ks.Nodup/\∀ y,y∈ks↔Way ps z y)/\PrsK K H1 (Ug (ns.take i) as) acc) (λp H' hp e h=>⟨e,[],rfl,λj z a _ h=>(by simp at h),by rfl⟩) (λp i acc H1 hP=>hP.1.seqT hS) (λp i x acc H1 hp hx hi hl ha hP=>?_) λp acc H1 hp ha hl hP=>?_
 . obtain ⟨e1,as,hal,hrow,hpr⟩:=hP;rw[A07] at hx
   cases hz:ns[i]? with
   |none=>rw[hz] at hx;cases hx
   |some z=>
     rw[hz] at hx
     cases hx;have hin:i<ns.length:=(A01.mp hz).1
     symm
     refine⟨v,z,ns,ps,rfl,hI.hf_fz e1.fz,by omega,hok,hok1 z (A02 hz),λb fs H2 hb2 e2 h2 hnd hfs=>?_⟩
     symm
     refine Bq (A9 (by simp)) λt H3 ht3 e3 h3=>?_;have h3p:H3 p=some (.lst acc):=e3 _ _ (e2 _ _ ha);refine Fq (by rw[A00];omega) hi hl h3p λH4 e4 h4=>?_;have hbp:b≠p:=Ne.symm (ne_of_none ha hb2);refine⟨by walk_at "sm",as++[b],by simp[hal],λj y a hj haj=>?_,?_⟩
     . by_cases hji:j<as.length
       . rw[A18 hji] at haj;obtain⟨ks,q1,q2,q3⟩:=hrow j y a hj haj;exact⟨ks,e4 _ _ q2 (e3 _ _ (e2 _ _ q1)),q2,q3⟩
       have hj':j=as.length:=by have:=(A01.mp haj).1;rw[A04,A0S] at this;omega
       subst hj';have:a=b:=by simpa using haj.symm
       subst this;rw[hal,hz] at hj
       cases hj;exact⟨fs,e4 _ _ hbp (e3 _ _ h2),hbp,hnd,hfs⟩
     have ht:ns.take (i+1)=ns.take i++[z]:=by rw[A0I,hz];rfl
     have hlen:(ns.take i).length=as.length:=by rw[A0J,hal];omega
     rw[ht,Wx hlen];have fz4:=e4.fzL h3p;exact PrsK.snoc (kv:=(Sum.inr z,V.ref b)) (fz4.seq (SqT.of h3)) (PrsK.fz ((e2.fz.trans e3.fz).trans fz4) hpr)
 obtain⟨e1,as,hal,hrow,hpr⟩:=hP;rw[A00] at hal;rw[A00,A0R] at hpr
 symm
 refine ae2 ha hpr (by unfold Ug;rw[List.length_map,List.length_zip];omega) λr H2 hr2 e2 h2=>?_;rw[Nw _ _ (Qt hn) (λ_ _ _ h=>by cases h),A2V] at h2;have hr0:H r=none:=e1.free hr2;refine k r as H2 hr0 (e1.trans e2) ⟨hal,h2,λj z a hj haj=>?_⟩;obtain⟨ks,q1,q2,q3,q4⟩:=hrow j z a hj haj;exact⟨ks,e2 _ _ q1,q3,q4⟩
def Ha (K:W.Frag):Sp:=λvs H Q _=>∃ v ns ps,vs=[v]/\Is K H (hfD ns ps) v/\Us ns ps/\∀ r as H',H r=none->(∀ a∈as,H a=none)->Same H H'->Tab H' r ns as (Way ps)->Q (.ref r) H'
theorem Od {f:Addr}{fd:FuncData}(F:Fun K "behind_each" "behind_each" Di f fd)(T:Gn mg):FnOk P w K mg base CX0 1 f fd ["half"] (Ha K):=by
 refine F.ok Cf (λvs H Q E h=>?_) (λcdv A outer s H vs Q E hr h=>?_)
 . obtain⟨v,ns,ps,rfl,_⟩:=h;rfl
 obtain⟨v,ns,ps,rfl,hI,hW,k⟩:=h;have hu:=C8 hr;have hq:=C7 hr;have hn:=hW.nd;have hfew:=hW.few
 with_reducible refine⟨_,(A2 (Ac (i:=1) Cf.nd ⋯ (by eq_refl) (Al (A6 (K:=K) hu) (pv 0) A4 (by ac_rfl)))
  (A2 (Ac (i:=2) Cf.nd ⋯ (by eq_refl) (Dv (Op (K:=K) hr.hd) ⋯ T.b_dict PyProof.Rows.Boot.«dict» (A0 (Ba ["name"] [] [] ⋯ ⋯ ⋯ (Aq (K:=K) hu (pv 1)) (λ_ _ _ _=>(A8 (i:=0) (by with_unfolding_all (show(["name"]:List Str).Nodup;decide +kernel)) ⋯ (by eq_refl))) (Au nofun) (λ_ _ _ _=>Bn) (λ_ _ _ _=>(Bz (A0 (pv 0) (A0 Qn A1))))) A1)))
  (A2 (C9 A14 ⋯ (Aq (K:=K) hu (Al (A6 (K:=K) hu) (pv 0) A4 (by ac_rfl))) (A8 (i:=3) Cf.nd ⋯ (by eq_refl))
  (A5 (Im hu (Al (A6 (K:=K) hu) (pv 2) (Al (A6 (K:=K) hu) (pv 3) A4 (by ac_rfl)) (by ac_rfl)) (Al (A6 (K:=K) hu) (pv 3) A4 (by ac_rfl)) Hl ⋯)))
  (A2 (C9 A14 ⋯ (Aq (K:=K) hu (pv 1)) (A8 (i:=4) Cf.nd ⋯ (by eq_refl))
  (A5 (C9 A14 ⋯ (Aq (K:=K) hu (pv 1)) (A8 (i:=5) Cf.nd ⋯ (by eq_refl))
  (A5 (C0 (Ab (Km (K:=K) hq) (pv 4) (Al (A6 (K:=K) hu) (pv 2) (pv 5) (by ac_rfl)) ⋯) (A5 (Bv (Fs (K:=K) PySem.F.plainAttrs_dict PySem.F.slot_dict_update PySem.F.type_dict_update (mm Y2) (Al (A6 (K:=K) hu) (pv 2) (pv 5) (by ac_rfl)) (A0 (Al (A6 (K:=K) hu) (pv 2) (pv 4) (by ac_rfl)) A1)))) Ap)))))
  (A5 (Am (pv 2))))))),?_⟩
 symm
 refine Hm hI λnv hN=>?_
 symm
 obtain⟨na,rfl,hS⟩:=hN.nm;refine Ry hS ?_;refine Cu (Gw (xs:=ns.map V.str)) (λp i acc H1=>Same H H1/\∃ as:List Addr,as.length=i/\as.Nodup/\(∀ a∈as,H1 a=some (.dK [])/\H a=none)/\PrsK K H1 (Ug (ns.take i) as) acc) (λp H' hp e h=>⟨e,[],rfl,by simp,λ_ h=>(by cases h),by rfl⟩) (λp i acc H1 hP=>hP.1.seqT hS) (λp i x acc H1 hp hx hi hl ha hP=>?_) λp acc H1 hp ha hl hP=>?_
 . obtain ⟨e1,as,hal,had,haf,hpr⟩:=hP;rw[A07] at hx
   cases hz:ns[i]? with
   |none=>rw[hz] at hx;cases hx
   |some z=>
     rw[hz] at hx
     cases hx;have hin:i<ns.length:=(A01.mp hz).1
     symm
     refine a54 λb H2 hb2 e2 h2=>?_
     symm
     refine Bq (A9 (by simp)) λt H3 ht3 e3 h3=>?_;have h3p:H3 p=some (.lst acc):=e3 _ _ (e2 _ _ ha);refine Fq (by rw[A00];omega) hi hl h3p λH4 e4 h4=>?_;have hbp:b≠p:=Ne.symm (ne_of_none ha hb2);refine⟨by walk_at "sm",as++[b],by simp[hal],?_,λa ha'=>?_,?_⟩
     . rw[A2F];refine⟨had,by simp,λa ha1 c hc e=>?_⟩;have:c=b:=by simpa using hc
       subst this;subst e;have:=(haf _ ha1).1;rw[hb2] at this
       cases this
     . rcases A0C.mp ha' with ha'|ha'
       . obtain⟨q1,q2⟩:=haf a ha';exact⟨e4 _ _ (ne_of q1 ha (by intro z;cases z)) (e3 _ _ (e2 _ _ q1)),q2⟩
       have:a=b:=by simpa using ha'
       subst this;exact⟨e4 _ _ hbp (e3 _ _ h2),e1.free hb2⟩
     have ht:ns.take (i+1)=ns.take i++[z]:=by rw[A0I,hz];rfl
     have hlen:(ns.take i).length=as.length:=by rw[A0J,hal];omega
     rw[ht,Wx hlen];have fz4:=e4.fzL h3p;exact PrsK.snoc (kv:=(Sum.inr z,V.ref b)) (fz4.seq (SqT.of h3)) (PrsK.fz ((e2.fz.trans e3.fz).trans fz4) hpr)
 obtain⟨e1,as,hal,had,haf,hpr⟩:=hP;rw[A00] at hal;rw[A00,A0R] at hpr
 symm
 refine ae2 ha hpr (by unfold Ug;rw[List.length_map,List.length_zip];omega) λr H2 hr2 e2 h2=>?_;rw[Nw _ _ (Qt hn) (λ_ _ _ h=>by cases h),A2V] at h2;have hr0:H r=none:=e1.free hr2
 have hra:r∉as:=λhm=>by
  have:=(haf r hm).1;rw[hr2] at this
  cases this
 have hT0:Tab H2 r ns as (λz y=>(z,y)∈ps.take 0):=⟨hal,had,hra,h2,λi z a hz ha'=>⟨[],e2 _ _ (haf a (List.mem_of_getElem? ha')).1,by simp,λ_ h=>(by cases h),λy=>by simp⟩⟩
 symm
 refine Wj (hI.hf_fz (by walk_at "fz")) λpv hP2=>?_
 refine aj0 hP2 (λi σ H3=>∃ x3,σ=[some v,some (.ref na),some (.ref r),x3,none,none]/\Same H H3/\Fz H2 H3/\Tab H3 r ns as (λz y=>(z,y)∈ps.take i))
  ⟨none,rfl,by walk_at "sm",.refl _,hT0⟩ (λi σ' H' hP=>hP.choose_spec.2.2.1) (λi pr w σ' H3 hpr hIp hP=>?_) (fun σ' H3 hP=>?_)
 . obtain⟨x3,rfl,e3,fz3,hT⟩:=hP;have hpm:=hW.mem pr (A02 hpr);obtain⟨j,a,hj,haj⟩:=hT.at hpm.1;obtain⟨ks,hk1,hk2,hk3,hk4⟩:=hT.row j _ a hj haj;have hkl:ks.length<=ns.length:=G4 hk2 hk3
   symm
   refine ai5 hIp ?_;refine Tw hT hn hj haj ?_
   symm
   refine ai4 hIp ?_;refine Lq hk1 (by rw[Vg];omega) λH4 e4 h4=>?_;rw[Y7] at h4
   symm
   have ha0:H a=none:=(haf a (A02 haj)).2;refine⟨_,rfl,by walk_at "sm",fz3.trans (e4.fzD hk1),hT.put e4 hn hj haj h4 (Oz hk2) (λy hy=>?_) (λy=>?_) (λz hz hzx y=>?_)⟩
   . rcases mem_addK.mp hy with hy|rfl
     . exact hk3 y hy
     exact hpm.2
   . rw[mem_addK,hk4,A0I,hpr,A0C];constructor
     . rintro(h|rfl)
       . exact .inl h
       exact .inr (by simp)
     rintro(h|h)
     . exact .inl h
     right
     have:(pr.1,y)=pr:=by simpa using h
     rw[<- this]
   rw[A0I,hpr,A0C];constructor
   . exact .inl
   rintro(h|h)
   . exact h
   have:(z,y)=pr:=by simpa using h
   exact absurd (by rw[<- this]) hzx
 obtain⟨x3,rfl,e3,fz3,hT⟩:=hP;rw[A0R] at hT;have hW0:War ns ps [] (λz y=>(z,y)∈ps):=⟨λz y h=>.one h,λz y h=>h,λm hm=>by cases hm⟩
 symm
 have hN3:Is K H3 (nmD ns) (.ref na):=hN.nm_fz e3.fz
 refine T9 hN3 (λi σ H4=>∃ x4 x5 R,σ=[some v,some (.ref na),some (.ref r),x3,x4,x5]/\Same H H4/\Fz H3 H4/\Tab H4 r ns as R/\War ns ps (ns.take i) R)
  ⟨_,_,_,rfl,e3,.refl _,hT,hW0⟩ (λi σ' H' hP=>?_) (λi mid σ' H4 hmid hP=>?_) (fun σ' H4 hP=>?_)
 . obtain⟨_,_,_,_,_,fz,_⟩:=hP;exact fz
 . obtain⟨x4,x5,R,rfl,e4,fz4,hT4,hR⟩:=hP;obtain⟨jm,am,hjm,ham⟩:=hT4.at (A02 hmid);have hN4:Is K H4 (nmD ns) (.ref na):=hN3.nm_fz fz4
   symm
   refine T9 hN4 (λj σ H5=>∃ x5,σ=[some v,some (.ref na),some (.ref r),x3,some (.str mid),x5]/\Same H H5/\Fz H4 H5/\Tab H5 r ns as (ag9 R mid (ns.take j)))
    ⟨_,rfl,e4,.refl _,hT4.congr λz _ y=>⟨.inl,λh=>h.elim (λq=>q) λq=>absurd q.1 (by simp)⟩⟩ (λi σ' H' hP=>hP.choose_spec.2.2.1) (λj nm σ' H5 hnm hP=>?_) (fun σ' H5 hP=>?_)
   . obtain⟨x5',rfl,e5,fz5,hT5⟩:=hP;obtain⟨jn,an,hjn,han⟩:=hT5.at (A02 hnm);obtain⟨ks,hk1,hk2,hk3,hk4⟩:=hT5.row jn nm an hjn han;obtain⟨ms,hm1,hm2,hm3,hm4⟩:=hT5.row jm mid am hjm ham;have hkl:ks.length<=ns.length:=G4 hk2 hk3;have hml:ms.length<=ns.length:=G4 hm2 hm3;have htj:ns.take (j+1)=ns.take j++[nm]:=by rw[A0I,hnm];rfl
     have hin:mid∈ks↔R nm mid:=(hk4 mid).trans ⟨λh=>h.elim (λq=>q) λq=>q.2.1,.inl⟩;have hmid2:∀ y,y∈ms↔R mid y:=λy=>(hm4 y).trans ⟨λh=>h.elim (λq=>q) λq=>q.2.2,.inl⟩
     have hother:∀ z∈ns,z≠nm->∀ y,ag9 R mid (ns.take j) z y↔ag9 R mid (ns.take (j+1)) z y:=λz _ hz y=>by unfold ag9;rw[htj,A0C,A0X];simp[hz]
     symm
     refine Tw hT5 hn hjn han ?_;refine a81 hk1 ?_
     symm
     refine Jt (λhc=>?_) (λhc=>?_)
     . have hRn:=hin.mp hc
       by_cases hne:nm=mid
       . subst hne
         have hji:jn=jm:=by obtain⟨p1,p2⟩:=A01.mp hjn;obtain⟨q1,q2⟩:=A01.mp hjm;exact(A2A hn).mp (p2.trans q2.symm)
         subst hji;rw[han] at ham
         cases ham
         symm
         refine Tw hT5 hn hjn han ?_;refine am5 hk1 ?_
         symm
         refine Tw hT5 hn hjn han ?_
         symm
         refine aC8 hk1 ?_
         symm
         refine⟨_,rfl,e5,fz5,hT5.congr λz hz y=>?_⟩
         by_cases hzn:z=nm
         . subst hzn;unfold ag9;constructor
           . exact λh=>.inl (h.elim (λq=>q) λq=>q.2.2)
           exact λh=>.inl (h.elim (λq=>q) λq=>q.2.2)
         exact hother z hz hzn y
       have hane:an≠am:=λq=>by subst q;obtain⟨p1,p2⟩:=A01.mp han;obtain⟨q1,q2⟩:=A01.mp ham;have:=(A2A hT5.nd).mp (p2.trans q2.symm);subst this;rw[hjn] at hjm;exact hne (A12 hjm)
       symm
       refine Tw hT5 hn hjn han ?_;refine am5 hk1 ?_
       symm
       refine Tw hT5 hn hjm ham ?_
       symm
       refine av8 hk1 hm1 hane ∅ λH6 e6 h6=>?_
       symm
       have ha0:H an=none:=(haf an (A02 han)).2;refine⟨_,rfl,by walk_at "sm",fz5.trans (e6.fzD hk1),hT5.put e6 hn hjn han h6 (Ly hk2) (λy hy=>?_) (λy=>?_) hother⟩
       . rcases mem_addAll.mp hy with hy|hy
         . exact hk3 y hy
         exact hm3 y hy
       rw[mem_addAll,hk4,hmid2];unfold ag9;rw[htj,A0C,A0X];constructor
       . rintro((h|h)|h)
         . exact .inl h
         . exact .inr ⟨.inl h.1,h.2⟩
         exact .inr ⟨.inr rfl,hRn,h⟩
       rintro(h|h)
       . exact .inl (.inl h)
       exact .inr h.2.2
     have hRn:¬ R nm mid:=λq=>hc (hin.mpr q)
     symm
     refine⟨_,rfl,e5,fz5,hT5.congr λz hz y=>?_⟩
     by_cases hzn:z=nm
     . subst hzn;unfold ag9;constructor
       . exact λh=>.inl (h.elim (λq=>q) λq=>absurd q.2.1 hRn)
       exact λh=>.inl (h.elim (λq=>q) λq=>absurd q.2.1 hRn)
     exact hother z hz hzn y
   obtain⟨x5',rfl,e5,fz5,hT5⟩:=hP;rw[A0R] at hT5;refine⟨_,_,_,rfl,e5,fz4.trans fz5,hT5.congr (R':=λz y=>R z y\/(R z mid/\R mid y)) λz hz y=>?_,?_⟩
   . unfold ag9;simp[hz]
   have htj:ns.take (i+1)=ns.take i++[mid]:=by rw[A0I,hmid];rfl
   rw[htj];exact hR.step
 obtain⟨x4,x5,R,rfl,e4,fz4,hT4,hR⟩:=hP;rw[A0R] at hR
 symm
 exact k r as H4 hr0 (λa ha'=>(haf a ha').2) e4 (hT4.congr λz _ y=>hR.done hW.mem z y)
def Lc (K:W.Frag):Sp:=λvs H Q _=>∃ v ns,vs=[v]/\Is K H (nmD ns) v/\ns.Nodup/\ns.length<=10/\∀ d H',H d=none->Same H H'->H' d=some (.dK (ar9 ns))->Q (.ref d) H'
def Ij (K:W.Frag):Sp:=λvs H Q _=>∃ v bd ns ps,vs=[v,.ref bd]/\Is K H (hfD ns ps) v/\Us ns ps/\ns.length<=10/\H bd=some (.dK (ar9 ns))/\∀ d H',H d=none->Same H H'->H' d=some (.dK (ahK ns ps))->Q (.ref d) H'
def Iu (C:Addr)(K:W.Frag):Sp:=λvs H Q _=>∃ p v dx ns ps,vs=[.ref p,v]/\H p=some (.ins C dx [])/\Is K H (hfD ns ps) v/\Us ns ps/\ns.length<=10 /\
 ∀ nv bd ad kd kvs H',H kd=none->ExtBut p H H'->WaysAt K C H' p dx nv bd ad kd ns ps kvs->Q .non H'
def Bb (C:Addr)(K:W.Frag):Sp:=λvs H Q _=>∃ p dx nv bd ad kd ns ps kvs q,vs=[.ref p,.int ((El ns q:Nat):Int)]/\WaysAt K C H p dx nv bd ad kd ns ps kvs/\Us ns ps/\ns.length<=10 /\
 ∀ l H',H l=none->Same H H'->H' l=some (.lst ((frF (Ad ps) (ns.filter q)).map V.str))->Q (.ref l) H'
def Cd (C:Addr)(K:W.Frag)(n:Nat):Sp:=λvs H Q _=>∃ p dx nv bd ad kd ns ps kvs q,vs=[.ref p,.int ((El ns q:Nat):Int)]/\WaysAt K C H p dx nv bd ad kd ns ps kvs/\Us ns ps/\ns.length<=10/\(ns.filter q).length<n /\
 ∀ kvs' H',ExtBut kd H H'->WaysAt K C H' p dx nv bd ad kd ns ps kvs'->Q (.int ((cnt (Ad ps) (ns.filter q):Nat):Int)) H'
def Ge (C:Addr)(K:W.Frag):Sp:=Cd C K 11
theorem J6 {C:Addr}{K:W.Frag}:∀ vs H Q E,¬ Cd C K 0 vs H Q E:=by rintro vs H Q E ⟨_,_,_,_,_,_,_,_,_,_,_,_,_,_,h,_⟩;exact absurd h (A29 _)
theorem ag2 {ns:List Str}(hn:ns.Nodup)(h:ns.length<=10){x:Str}(hx:x∈ns):G1 ns x<=1024:=by obtain⟨j,hj⟩:=A5K.mp hx;rw[Ml hn hj];exact(A4E nofun (by have:=(A01.mp hj).1;omega):2 ^ j<=2 ^ 10)
theorem He {f g:Str}{v x:V}{r:List (Str×V)}(h:¬ g=f):Na f v ((g,x) :: r)=(g,x) :: Na f v r:=by
 show(if g=f then _ else _)=_
 rw[A0W h]
theorem fld2 (a b:V):Na "bits" b [("names",a)]=([("names",a),("bits",b)]:List (Str×V)):=by rw[He (by decide +kernel)];rfl
theorem fld3 (a b c:V):Na "ahead" c [("names",a),("bits",b)]=([("names",a),("bits",b),("ahead",c)]:List (Str×V)):=by rw[He (by decide +kernel),He (by decide +kernel)];rfl
theorem fld4 (a b c d:V):Na "full" d [("names",a),("bits",b),("ahead",c)]=([("names",a),("bits",b),("ahead",c),("full",d)]:List (Str×V)):=by rw[He (by decide +kernel),He (by decide +kernel),He (by decide +kernel)];rfl
theorem fld5 (a b c d e:V):Na "known" e [("names",a),("bits",b),("ahead",c),("full",d)]=([("names",a),("bits",b),("ahead",c),("full",d),("known",e)]:List (Str×V)):=by rw[He (by decide +kernel),He (by decide +kernel),He (by decide +kernel),He (by decide +kernel)];rfl
theorem Xp {f:Addr}{fd:FuncData}(F:Fun K "bits_of" "bits_of" Hq f fd)(T:Gn mg):FnOk P w K mg base CX0 1 f fd ["names"] (Lc K):=by
 refine F.ok Hk (λvs H Q E h=>?_) (λcdv A outer s H vs Q E hr h=>?_)
 . obtain⟨v,ns,rfl,_⟩:=h;rfl
 obtain⟨v,ns,rfl,hI,hn,h10,k⟩:=h;have hu:=C8 hr;have hq:=C7 hr
 with_reducible refine⟨_,(A2 (Ac (i:=1) Hk.nd ⋯ (by eq_refl) Qn)
  (A2 (Ac (i:=2) Hk.nd ⋯ (by eq_refl) A4)
  (A2 (C9 A14 ⋯ (Aq (K:=K) hu (pv 0)) (A8 (i:=3) Hk.nd ⋯ (by eq_refl))
  (A2 (Im hu (pv 1) (pv 3) (pv 2) ⋯)
  (A5 (Ac (i:=2) Hk.nd ⋯ (by eq_refl) (Ak Hf (pv 2) A4)))))
  (A5 (Am (pv 1)))))),?_⟩
 symm
 refine a54 λd H1 hd1 e1 h1=>?_
 symm
 refine T9 (hI.nm_fz e1.fz) (λi σ H2=>∃ x3,σ=[some v,some (.ref d),some (.int ((2 ^ i:Nat):Int)),x3]/\Same H H2/\Fz H1 H2/\H2 d=some (.dK ((ns.take i).map λx=>((Sum.inr x:Key),V.int ((G1 ns x:Nat):Int)))))
  ⟨_,rfl,e1,.refl _,h1⟩ (λi σ' H' hP=>hP.choose_spec.2.2.1) (λi z σ' H2 hz hP=>?_) (fun σ' H2 hP=>?_)
 . obtain⟨x3,rfl,e2,fz2,h2⟩:=hP;have hin:i<ns.length:=(A01.mp hz).1;have hlt:2 ^ i<=2 ^ 10:=A4E nofun ∅
   have hno:z∉ns.take i:=λhm=>by
    obtain⟨j,hj⟩:=A5K.mp hm;rw[A4R] at hj
    split at hj
    . rename_i hji;have a1:=A01.mp hj;have a2:=A01.mp hz;have:=(A2A hn).mp (a1.2.trans a2.2.symm);omega
    cases hj
   symm
   refine Lq h2 (by rw[A00,A0J];omega) λH3 e3 h3=>?_;rw[Js _ (J1 hno)] at h3
   symm
   refine⟨some (.str z),?_,e2.off hd1 e3,fz2.trans (e3.fzD h2),?_⟩
   . have:((2 ^ i:Nat):Int)*2=((2 ^ (i+1):Nat):Int):=by rw[A5F];omega
     rw[this];rfl
   rw[h3,A0I,hz];have:((2 ^ i:Nat):Int)=((G1 ns z:Nat):Int):=by rw[Ml hn hz]
   rw[this];simp
 obtain⟨x3,rfl,e2,fz2,h2⟩:=hP;rw[A0R] at h2
 symm
 exact k d H2 hd1 e2 h2
theorem R5 {f:Addr}{fd:FuncData}(F:Fun K "bits_ahead" "bits_ahead" Eb f fd)(T:Gn mg)(Il:Fnd P w K mg base 1 "behind_each" ["half"] (Ha K)):FnOk P w K mg base CX0 2 f fd ["half","bits"] (Ij K):=by
 refine F.ok G6 (λvs H Q E h=>?_) (λcdv A outer s H vs Q E hr h=>?_)
 . obtain⟨v,bd,ns,ps,rfl,_⟩:=h;rfl
 obtain⟨v,bd,ns,ps,rfl,hI,hW,h10,hB,k⟩:=h;have hu:=C8 hr;have hq:=C7 hr;have hn:=hW.nd
 with_reducible refine⟨_,(A2 (Ac (i:=2) G6.nd ⋯ (by with_unfolding_all exact A36 rfl) (As Il (hr.mono nofun) ⋯ (A0 (pv 0) A1)))
  (A2 (Ac (i:=3) G6.nd ⋯ (by eq_refl) Qn)
  (A2 (C9 A14 ⋯ (Aq (K:=K) hu (Al (A6 (K:=K) hu) (pv 0) A4 (by ac_rfl))) (A8 (i:=4) G6.nd ⋯ (by with_unfolding_all exact A36 rfl))
  (A5 (Im hu (pv 3) (pv 4) (A7 (Mv (K:=K) ⋯) ⋯ T.b_sum PyProof.Rows.Boot.«sum» (A0 (Ba ["one"] ["bits","name","reach"] [1,4,2] ⋯ ⋯ ⋯ (Aq (K:=K) hu (Al (A6 (K:=K) hu) (pv 0) A4 (by ac_rfl))) (λ_ _ _ _=>(A8 (i:=0) (by with_unfolding_all (show(["one","bits","name","reach"]:List Str).Nodup;decide +kernel)) ⋯ (by eq_refl))) (Au nofun) (λ_ _ _ _=>(Fm (Ab (Km (K:=K) hq) (pv 2) (Al (A6 (K:=K) hu) (pv 3) (pv 0) (by ac_rfl)) ⋯))) (λ_ _ _ _=>(Al (A6 (K:=K) hu) (pv 1) (pv 0) (by ac_rfl)))) A1)) ⋯)))
  (A5 (Am (pv 3)))))),?_⟩
 symm
 refine⟨v,ns,ps,rfl,hI,hW,λr as H1 hr1 ha1 e1 hT=>?_⟩
 symm
 refine a54 λd H2 hd2 e2 h2=>?_
 symm
 have e12:=e1.trans e2;refine Hm (hI.hf_fz e12.fz) λnv hN=>?_
 refine T9 hN (λi σ H3=>∃ x4,σ=[some v,some (.ref bd),some (.ref r),some (.ref d),x4]/\Same H1 H3/\Fz H2 H3/\H3 d=some (.dK ((ns.take i).map λx=>((Sum.inr x:Key),V.int ((El ns (λy=>Ad ps y x):Nat):Int)))))
  ⟨_,rfl,e2,.refl _,h2⟩ (λi σ' H' hP=>hP.choose_spec.2.2.1) (λi z σ' H3 hz hP=>?_) (fun σ' H3 hP=>?_)
 . obtain⟨x4,rfl,e3,fz3,h3⟩:=hP;have hin:i<ns.length:=(A01.mp hz).1
   have hno:z∉ns.take i:=λhm=>by
    obtain⟨j,hj⟩:=A5K.mp hm;rw[A4R] at hj
    split at hj
    . rename_i hji;have a1:=A01.mp hj;have a2:=A01.mp hz;have:=(A2A hn).mp (a1.2.trans a2.2.symm);omega
    cases hj
   symm
   refine Hm (hI.hf_fz (e12.fz.trans fz3)) λnv3 hN3=>?_;refine La hN3 (λy=>Ad ps y z) (λy=>PyData.int ((G1 ns y:Nat):Int)) (λ_=>rfl) ∅ (λj y H4 R R' hy e4 hR hR'=>?_) (λq ys H4 hq4 e4 h4 hL4=>?_)
   . have hT4:=hT.same (e3.trans e4);obtain⟨jy,ay,hjy,hay⟩:=hT4.at (A02 hy);obtain⟨ks,hk1,hk2,hk3,hk4⟩:=hT4.row jy y ay hjy hay
     symm
     refine Tw hT4 hn hjy hay ?_;refine a81 hk1 ?_;rw[Pt (hk4 z)]
     symm
     refine aE2 (λhb=>?_) (λhb=>?_)
     . symm
       refine i_ixD (e4 _ _ (e3 _ _ (e1 _ _ hB))) (Li (A02 hy)) ?_;exact hR hb _ _ (.refl _) rfl
     exact hR' hb _ (.refl _)
   have hm:(ns.filter λy=>Ad ps y z).map (λy=>PyData.int ((G1 ns y:Nat):Int))=((ns.filter λy=>Ad ps y z).map λy=>((G1 ns y:Nat):Int)).map PyData.int:=by rw[A2E];rfl
   rw[hm] at hL4;have hys:=IsL.int_eq hL4;subst hys
   symm
   refine al6 (.inl (SqL.of h4)) (λn hn'=>?_) (by rw[A00];exact A0B (A1M _ _) ∅) ?_
   . obtain⟨y,hy,rfl⟩:=A0F.mp hn';have hyn:=(A1H.mp hy).1;have:=ag2 hn h10 hyn;omega
   rw[Kw,M7 _ hn]
   symm
   have h4d:H4 d=some _:=e4 _ _ h3;refine Lq h4d (by rw[A00,A0J];omega) λH5 e5 h5=>?_;rw[Js _ (J1 hno)] at h5
   symm
   refine⟨_,rfl,(e3.trans e4).off hd2 e5,(fz3.trans e4.fz).trans (e5.fzD h4d),?_⟩;rw[h5,A0I,hz];simp
 obtain⟨x4,rfl,e3,fz3,h3⟩:=hP;rw[A0R] at h3
 symm
 exact k d H3 (e1.free hd2) (e1.trans e3) h3
theorem Rr {f:Addr}{fd:FuncData}(F:Fun K "__init__" "Ways.__init__" Fg f fd)(T:Gn mg){C_Ways:Addr}(k_Ways:Gv K C_Ways)(Mo:Fnd P w K mg base 1 "bits_of" ["names"] (Lc K))(J4:Fnd P w K mg base 2 "bits_ahead" ["half","bits"] (Ij K)):FnOk P w K mg base CX0 3 f fd ["self","half"] (Iu C_Ways K):=by
 refine F.ok Rx (λvs H Q E h=>?_) (λcdv A outer s H vs Q E hr h=>?_)
 . obtain⟨p,v,dx,ns,ps,rfl,_⟩:=h;rfl
 obtain⟨p,v,dx,ns,ps,rfl,hp,hI,hW,h10,k⟩:=h;have hu:=C8 hr;have hq:=C7 hr;have hn:=hW.nd
 with_reducible refine⟨_,(A2 (Z9 (C:=C_Ways) (pv 0) (Al (A6 (K:=K) hu) (pv 1) A4 (by ac_rfl)) k_Ways.cl k_Ways.n_names ⋯)
  (A2 (Z9 (C:=C_Ways) (pv 0) (As Mo (hr.mono nofun) ⋯ (A0 (Al (A6 (K:=K) hu) (pv 1) A4 (by ac_rfl)) A1)) k_Ways.cl k_Ways.n_bits ⋯)
  (A2 (Z9 (C:=C_Ways) (pv 0) (As J4 (hr.mono nofun) ⋯ (A0 (pv 1) (A0 (Lz (C:=C_Ways) (pv 0) k_Ways.cl k_Ways.n_bits ⋯) A1))) k_Ways.cl k_Ways.n_ahead ⋯)
  (A2 (Z9 (C:=C_Ways) (pv 0) (A7 (Zt ⋯) ⋯ T.b_sum PyProof.Rows.Boot.«sum» (A0 (Qe (K:=K) PySem.F.plainAttrs_dict PySem.F.slot_dict_values PySem.F.type_dict_values (mm Z2) (Lz (C:=C_Ways) (pv 0) k_Ways.cl k_Ways.n_bits ⋯)) A1)) k_Ways.cl k_Ways.n_full ⋯)
  (A5 (Z9 (C:=C_Ways) (pv 0) (Zn (Kq A4 A4 Zy) ⋯ ⋯ nofun nofun) k_Ways.cl k_Ways.n_known ⋯)))))),?_⟩
 symm
 refine Hm hI λnv hN=>?_
 symm
 refine as1 hp nofun λH1 e1 h1=>?_;replace h1:H1 p=some (.ins C_Ways dx [("names",nv)]):=h1;have fz1:=e1.fzI hp
 symm
 refine Hm (hI.hf_fz fz1) λnv1 hN1=>?_
 symm
 refine⟨nv1,ns,rfl,hN1,hn,h10,λbd H2 hb2 e2 h2=>?_⟩
 symm
 refine as1 (e2 _ _ h1) (by show 1<1000;decide) λH3 e3 h3=>?_;rw[fld2] at h3;have fz3:=e3.fzI (e2 _ _ h1);have hbp:bd≠p:=(ne_of_none h1 hb2).symm;have h3b:H3 bd=some (.dK (ar9 ns)):=e3 _ _ hbp h2
 symm
 refine Xi h3 (by rfl) ?_
 symm
 refine⟨v,bd,ns,ps,rfl,hI.hf_fz ((fz1.trans e2.fz).trans fz3),hW,h10,h3b,λad H4 ha4 e4 h4=>?_⟩
 symm
 refine as1 (e4 _ _ h3) (by show 2<1000;decide) λH5 e5 h5=>?_;rw[fld3] at h5;have fz5:=e5.fzI (e4 _ _ h3);have hap:ad≠p:=(ne_of_none h3 ha4).symm;have h5a:H5 ad=some (.dK (ahK ns ps)):=e5 _ _ hap h4;have h5b:H5 bd=some (.dK (ar9 ns)):=e5 _ _ hbp (e4 _ _ h3b)
 symm
 refine Xi h5 (by rfl) ?_
 symm
 refine am5 h5b ?_
 symm
 refine ay8 h5b λv6 H6 hv6 e6 h6=>?_
 symm
 have hbs:∀ n∈ns.map (λx=>((G1 ns x:Nat):Int)),0<=n/\n<=1000000000000:=λn hn'=>by obtain⟨y,hy,rfl⟩:=A0F.mp hn';have:=ag2 hn h10 hy;omega
 refine aw7 h6 (e6 _ _ h5b) (ns:=ns.map λx=>((G1 ns x:Nat):Int)) (by unfold ar9;rw[List.map_map,List.map_map];rfl) hbs (by rw[List.length_map];omega) ?_
 have hsum:(ns.map (G1 ns)).sum=El ns (λ_=>true):=by have:=M7 (λ_=>true) hn;rwa[show ns.filter (λ_=>true)=ns by simp] at this
 rw[Kw,hsum]
 symm
 have h6p:=e6 _ _ h5;refine as1 h6p (by show 3<1000;decide) λH7 e7 h7=>?_;rw[fld4] at h7;have fz7:=e7.fzI h6p
 symm
 refine ai2 λkd H8 hk8 e8 h8=>?_
 symm
 refine Yq [(Sum.inl 0,V.int 1)] h8 rfl nofun λH9 e9 h9=>?_
 symm
 have hkp:p≠kd:=ne_of_none h7 hk8;have h9p:=e9 _ _ hkp (e8 _ _ h7);refine as1 h9p (by show 4<1000;decide) λH10 e10 h10'=>?_;rw[fld5] at h10';have fz10:=e10.fzI h9p
 symm
 have hpb:bd≠p:=hbp;have h7b:=e7 _ _ hbp (e6 _ _ h5b);have h7a:=e7 _ _ hap (e6 _ _ h5a);have hbk:bd≠kd:=ne_of_none h7b hk8;have hak:ad≠kd:=ne_of_none h7a hk8;have hE:ExtBut p H H7:=((((e1.same e2).trans e3).same e4).trans e5 |>.same e6).trans e7
 have hkH:H kd=none:=by
  cases c:H kd with
  |none=>rfl
  |some o=>rw[hE _ _ hkp.symm c] at hk8;cases hk8
 refine k nv bd ad kd [(Sum.inl 0,V.int 1)] H10 hkH ?_ ⟨h10',?_,?_,?_,?_,hbk,hak,Knw.new ns ps⟩
 . exact((hE.same e8).off hkH e9).trans e10
 . exact hN.nm_fz (((((((fz1.trans e2.fz).trans fz3).trans e4.fz).trans fz5).trans e6.fz).trans fz7).trans ((e8.fz.trans (e9.fzD h8)).trans fz10))
 . exact e10 _ _ hbp (e9 _ _ hbk (e8 _ _ h7b))
 . exact e10 _ _ hap (e9 _ _ hak (e8 _ _ h7a))
 exact e10 _ _ hkp.symm h9
theorem Ku {f:Addr}{fd:FuncData}(F:Fun K "free_names" "Ways.free_names" Bj f fd)(T:Gn mg){C_Ways:Addr}(k_Ways:Gv K C_Ways):FnOk P w K mg base CX0 1 f fd ["self","left"] (Bb C_Ways K):=by
 refine F.ok Kp (λvs H Q E h=>?_) (λcdv A outer s H vs Q E hr h=>?_)
 . obtain⟨p,dx,nv,bd,ad,kd,ns,ps,kvs,q,rfl,_⟩:=h;rfl
 obtain⟨p,dx,nv,bd,ad,kd,ns,ps,kvs,q,rfl,hA,hW,h10,k⟩:=h;have hu:=C8 hr;have hq:=C7 hr;have hn:=hW.nd
 with_reducible refine⟨_,(A5 (Am (Ba ["name"] ["self","left"] [0,1] ⋯ ⋯ ⋯ (Aq (K:=K) hu (Lz (C:=C_Ways) (pv 0) k_Ways.cl k_Ways.n_names ⋯)) (λ_ _ _ _=>(A8 (i:=0) (by with_unfolding_all (show(["name","self","left"]:List Str).Nodup;decide +kernel)) ⋯ (by eq_refl))) (Au nofun) (λ_ _ _ _=>(Fm (PW.pt (Zz (af2 (Ak af0 (Al (A6 (K:=K) hu) (Lz (C:=C_Ways) (pv 1) k_Ways.cl k_Ways.n_bits ⋯) (pv 0) (by ac_rfl)) (pv 2))) (Ve (Kh (af2 (Ak af0 (Al (A6 (K:=K) hu) (Lz (C:=C_Ways) (pv 1) k_Ways.cl k_Ways.n_ahead ⋯) (pv 0) (by ac_rfl)) (pv 2))))))))) (λ_ _ _ _=>(pv 0))))),?_⟩
 symm
 refine Xi hA.ob (by rfl) ?_;refine La hA.nm (λx=>q x && !(ns.any λy=>Ad ps y x&&q y)) PyData.str (λ_=>rfl) ∅ (λj x H1 R R' hx e1 hR hR'=>?_) (λl ys H1 hl1 e1 h1 hL1=>?_)
 . have hA1:=hA.same e1;have hxn:=A02 hx
   symm
   refine Xi hA1.ob (by rfl) ?_
   symm
   refine i_ixD hA1.bt (Li hxn) ?_
   symm
   rw[an4 hn hxn];refine aE2 (λhb=>?_) (λhb=>?_)
   . symm
     refine Xi hA1.ob (by rfl) ?_
     symm
     refine i_ixD hA1.ah (Li hxn) ?_
     symm
     rw[Yj]
     symm
     refine ac8 (λhc=>?_) (λhc=>?_)
     . symm
       exact hR (by rw[hb,hc];rfl) _ _ (.refl _) Jy
     exact hR' (by rw[hb,hc];rfl) _ (.refl _)
   exact hR' (by rw[hb];rfl) _ (.refl _)
 rw[a57] at hL1;have:=IsL.str_eq hL1;subst this
 symm
 exact k l H1 hl1 e1 h1
theorem M1 {f:Addr}{fd:FuncData}(F:Fun K "ways_on" "Ways.ways_on" Bw f fd)(T:Gn mg){C_Ways:Addr}(k_Ways:Gv K C_Ways)(Ar:Mtd P w K mg base 1 C_Ways "free_names" ["self","left"] (Bb C_Ways K))(n:Nat)(Ds:Mtd P w K mg base (2+n) C_Ways "ways_on" ["self","left"] (Cd C_Ways K n)):FnOk P w K mg base CX0 (2+n+1) f fd ["self","left"] (Cd C_Ways K (n+1)):=by
 refine F.ok Nl (λvs H Q E h=>?_) (λcdv A outer s H vs Q E hr h=>?_)
 . obtain⟨p,dx,nv,bd,ad,kd,ns,ps,kvs,q,rfl,_⟩:=h;rfl
 obtain⟨p,dx,nv,bd,ad,kd,ns,ps,kvs,q,rfl,hA,hW,h10,hlt,k⟩:=h;have hu:=C8 hr;have hq:=C7 hr;have hn:=hW.nd;have hkl:=hA.ok.len h10;have hLn:(ns.filter q).Nodup:=A5X A5R hn;have hLl:(ns.filter q).length<=ns.length:=A1M _ _
 with_reducible refine⟨_,(A2 (C0 (Ab (Fw (K:=K) hq) (pv 1) (Lz (C:=C_Ways) (pv 0) k_Ways.cl k_Ways.n_known ⋯) ⋯) (A5 (Im hu (Lz (C:=C_Ways) (pv 0) k_Ways.cl k_Ways.n_known ⋯) (pv 1) (A7 (Mv (K:=K) ⋯) ⋯ T.b_sum PyProof.Rows.Boot.«sum» (A0 (Ba ["name"] ["self","left"] [0,1] ⋯ ⋯ ⋯ (Aq (K:=K) hu (ab0 (C:=C_Ways) (pv 0) k_Ways.cl Ar (hr.mono ∅) (A0 (pv 1) A1))) (λ_ _ _ _=>(A8 (i:=0) (by with_unfolding_all (show(["name","self","left"]:List Str).Nodup;decide +kernel)) ⋯ (by eq_refl))) (Au nofun) (λ_ _ _ _=>Bn) (λ_ _ _ _=>(ab0 (C:=C_Ways) (pv 1) k_Ways.cl Ds (hr.mono ∅) (A0 (Ak G2 (pv 2) (Al (A6 (K:=K) hu) (Lz (C:=C_Ways) (pv 1) k_Ways.cl k_Ways.n_bits ⋯) (pv 0) (by ac_rfl))) A1)))) A1)) ⋯)) Ap)
  (A5 (Am (Al (A6 (K:=K) hu) (Lz (C:=C_Ways) (pv 0) k_Ways.cl k_Ways.n_known ⋯) (pv 1) (by ac_rfl))))),?_⟩
 symm
 refine Xi hA.ob (by rfl) ?_;refine ao6 hA.kn ?_
 symm
 cases hv:Ee kvs (Sum.inl ((El ns q:Nat):Int):Key) with
 |some v=>
   have:=hA.ok.get hv;subst this;refine iteF ?_
   symm
   refine Xi hA.ob (by rfl) ?_
   symm
   refine ag8 hA.kn hv ?_;exact k kvs H .refl hA
 |none=>
   have hne:ns.filter q≠[]:=λe=>by
    have h0:El ns q=0:=binM_zero.mpr λx hx=>by
     cases c:q x with
     |false=>rfl
     |true=>
       have:x∈ns.filter q:=A1H.mpr ⟨hx,c⟩;rw[e] at this
       cases this
    rw[h0] at hv;rw[show((0:Nat):Int)=0 from rfl,hA.ok.2.2] at hv
    cases hv
   refine iteT ?_
   symm
   refine aE5 hA.ob (by rfl) ?_
   symm
   refine⟨p,dx,nv,bd,ad,kd,ns,ps,kvs,q,rfl,hA,hW,h10,λl H1 hl1 e1 h1=>?_⟩;have hA1:=hA.same e1;refine Go (SqL.of h1) ?_
   refine Cu (Aw (xs:=(frF (Ad ps) (ns.filter q)).map V.str)) (λpl i acc H2=>∃ kvs2,ExtBut kd H1 H2/\WaysAt K C_Ways H2 p dx nv bd ad kd ns ps kvs2/\acc=((frF (Ad ps) (ns.filter q)).take i).map λx=>V.int ((cnt (Ad ps) (Bd (ns.filter q) x):Nat):Int))
    (λpl H' hp' e' h'=>⟨kvs,e'.but,hA1.same e',rfl⟩) (λpl i acc H2 hP=>?_) (λpl i x acc H2 hpl hx hi hl hpa hP=>?_) (λpl acc H2 hpl hpa hal hP=>?_)
   . obtain⟨kvs2,e2,_,_⟩:=hP;exact SqL.of (e2 _ _ (ne_of h1 hA1.kn (by intro z;cases z)) h1)
   . obtain ⟨kvs2,e2,hA2,rfl⟩:=hP;rw[A07] at hx
     cases hz:(frF (Ad ps) (ns.filter q))[i]? with
     |none=>rw[hz] at hx;cases hx
     |some z=>
       rw[hz] at hx
       cases hx;have hzf:=A02 hz;have hzL:=(mem_frF.mp hzf).1;have hzn:=(A1H.mp hzL).1;have hqz:=(A1H.mp hzL).2;have hsub:=Uf hn hzn hqz;have hlen:=Dr hLn hzL
       symm
       refine aE5 hA2.ob (by rfl) ?_
       symm
       refine Xi hA2.ob (by rfl) ?_
       symm
       refine i_ixD hA2.bt (Li hzn) ?_
       symm
       have hval:((El ns q:Nat):Int)-((G1 ns z:Nat):Int)=((El ns (λy=>q y && !decide (y=z)):Nat):Int):=by omega
       rw[hval];refine⟨p,dx,nv,bd,ad,kd,ns,ps,kvs2,_,rfl,hA2,hW,h10,by rw[Gf];omega,λkvs3 H3 e3 hA3=>?_⟩;rw[Gf];have hplk:pl≠kd:=ne_of hpa hA2.kn (by intro z;cases z);have h3p:=e3 _ _ hplk hpa;refine Fq (by rw[A00];exact A0B (A1M _ _) ∅) hi hl h3p λH4 e4 h4=>?_;refine⟨kvs3,?_,hA3.list e4 h3p,?_⟩
       . exact(e2.trans e3).off hpl e4
       rw[A0I,hz];simp
   obtain⟨kvs2,e2,hA2,rfl⟩:=hP;rw[A00,A0R] at hpa;have hmm:(frF (Ad ps) (ns.filter q)).map (λx=>V.int ((cnt (Ad ps) (Bd (ns.filter q) x):Nat):Int))=((frF (Ad ps) (ns.filter q)).map λx=>((cnt (Ad ps) (Bd (ns.filter q) x):Nat):Int)).map V.int:=by rw[A2E];rfl
   rw[hmm] at hpa
   symm
   refine al6 (.inl (SqL.of hpa)) (λn' hn'=>?_) (by rw[A00];exact A0B (A1M _ _) ∅) ?_
   . obtain⟨y,hy,rfl⟩:=A0F.mp hn';have:=Dr hLn (mem_frF.mp hy).1;have:=am2 (b:=Ad ps) (Cw hLn y) ∅;omega
   rw[Kw,<- Sj hLn hne]
   symm
   refine Xi hA2.ob (by rfl) ?_
   symm
   have hkl2:=hA2.ok.len h10;refine ak7 hA2.kn ∅ λH3 e3 h3=>?_;have hA3:=hA2.put e3 h3 (hA2.ok.put q)
   symm
   refine Xi hA3.ob (by rfl) ?_
   symm
   refine ag8 hA3.kn (by rw[Mb,A10 rfl]) ?_;exact k _ H3 (((e1.but (d:=kd)).trans e2).trans e3) hA3
theorem Mx {f:Addr}{fd:FuncData}(F:Fun K "ways_on" "Ways.ways_on" Bw f fd)(T:Gn mg){C_Ways:Addr}(k_Ways:Gv K C_Ways)(Ar:Mtd P w K mg base 1 C_Ways "free_names" ["self","left"] (Bb C_Ways K))(hm:aD9 K C_Ways "ways_on" f)(hb:Binds K fd ["self","left"] []):FnOk P w K mg base CX0 13 f fd ["self","left"] (Ge C_Ways K):=by
 have h:∀ n:Nat,FnOk P w K mg base CX0 (2+n) f fd ["self","left"] (Cd C_Ways K n):=λn=>by
  induction n with
  |zero=>exact FnOk.void J6
  |succ n ih=>exact M1 F T k_Ways Ar n ⟨f,fd,ih,hm,hb⟩
 exact h 11
def Em (C:Addr)(K:W.Frag)(n:Nat):Sp:=λvs H Q _=>∃ p dx nv bd ad kd ns ps kvs q,vs=[.ref p,.int ((El ns q:Nat):Int)]/\WaysAt K C H p dx nv bd ad kd ns ps kvs/\HalfW ns ps/\ns.length<=10/\cnt (Ad ps) (ns.filter q)<=100000/\(ns.filter q).length<n /\
 ∀ l ys H',H l=none->Same H H'->H' l=some (.lst ys)->Tps H' (ext (Ad ps) (ns.filter q).length (ns.filter q)) ys->Q (.ref l) H'
def J2 (C:Addr)(K:W.Frag):Sp:=Em C K 11
theorem Ky {C:Addr}{K:W.Frag}:∀ vs H Q E,¬ Em C K 0 vs H Q E:=by rintro vs H Q E ⟨_,_,_,_,_,_,_,_,_,_,_,_,_,_,_,h,_⟩;exact absurd h (A29 _)
def Et (K:W.Frag):Sp:=λvs H Q _=>∃ v ns ps,vs=[v]/\Is K H (hfD ns ps) v/\HalfW ns ps/\ns.length<=10/\cnt (Ad ps) ns<=720 /\
 ∀ l ys H',H l=none->Same H H'->H' l=some (.lst ys)->Tps H' (ext (Ad ps) ns.length ns) ys->Q (.ref l) H'
theorem Pu {f:Addr}{fd:FuncData}(F:Fun K "orders_on" "orders_on" Dy f fd)(T:Gn mg){C_Ways:Addr}(k_Ways:Gv K C_Ways)(Ar:Mtd P w K mg base 1 C_Ways "free_names" ["self","left"] (Bb C_Ways K))(n:Nat)(Gj:Fnd P w K mg base (2+n) "orders_on" ["ways","left"] (Em C_Ways K n)):FnOk P w K mg base CX0 (2+n+1) f fd ["ways","left"] (Em C_Ways K (n+1)):=by
 refine F.ok J5 (λvs H Q E h=>?_) (λcdv A outer s H vs Q E hr h=>?_)
 . obtain⟨p,dx,nv,bd,ad,kd,ns,ps,kvs,q,rfl,_⟩:=h;rfl
 obtain⟨p,dx,nv,bd,ad,kd,ns,ps,kvs,q0,rfl,hA,hW,h10,hcn,hlt,k⟩:=h;have hu:=C8 hr;have hq:=C7 hr;have hn0:=hW.nd;have hLn:(ns.filter q0).Nodup:=hn0.filter _
 with_reducible refine⟨_,(A2 (C0 (Ab (Cb (K:=K) hq) (pv 1) A4 (Ao _)) (A5 (Am (Bh (A0 (Bz A1) A1)))) Ap)
  (A2 (Ac (i:=2) J5.nd ⋯ (by eq_refl) (Bh A1))
  (A2 (C9 A14 ⋯ (Aq (K:=K) hu (ab0 (C:=C_Ways) (pv 0) k_Ways.cl Ar (hr.mono ∅) (A0 (pv 1) A1))) (A8 (i:=3) J5.nd ⋯ (by with_unfolding_all exact A36 rfl))
  (A5 (Bv (Fs (K:=K) A0Z A37 A38 (mm Jb) (pv 2) (A0 (Ba ["rest"] ["name"] [3] ⋯ ⋯ ⋯ (Aq (K:=K) hu (As Gj (hr.mono ∅) ⋯ (A0 (pv 0) (A0 (Ak G2 (pv 1) (Al (A6 (K:=K) hu) (Lz (C:=C_Ways) (pv 0) k_Ways.cl k_Ways.n_bits ⋯) (pv 3) (by ac_rfl))) A1)))) (λ_ _ _ _=>(A8 (i:=0) (by with_unfolding_all (show(["rest","name"]:List Str).Nodup;decide +kernel)) ⋯ (by eq_refl))) (Au nofun) (λ_ _ _ _=>Bn) (λ_ _ _ _=>(Ak (Ah (K:=K)) (Bz (A0 (pv 1) A1)) (pv 0)))) A1)))))
  (A5 (Am (pv 2)))))),?_⟩
 symm
 refine Jt (λhz=>?_) (λhz=>?_)
 . have hb0:El ns q0=0:=by injection hz with hz;omega
   have hnil:ns.filter q0=[]:=List.filter_eq_nil_iff.mpr λx hx=>by rw[binM_zero.mp hb0 x hx];decide
   symm
   refine Bq nofun λt1 H1 ht1 e1 h1=>?_
   symm
   refine Bg (A9 (by simp)) λl2 H2 hl2 e2 h2=>?_;refine k l2 _ H2 (e1.free hl2) (e1.trans e2) h2 ?_;rw[hnil];exact .one (e2 _ _ h1)
 have hne:ns.filter q0≠[]:=λe=>hz (by
  have:El ns q0=0:=binM_zero.mpr λx hx=>by
   cases c:q0 x with
   |false=>rfl
   |true=>
     have:x∈ns.filter q0:=A1H.mpr ⟨hx,c⟩;rw[e] at this
     cases this
  rw[this];rfl)
 symm
 refine Bg nofun λf1 H1 hf1 e1 h1=>?_;have hA1:=hA.same e1
 symm
 refine aE5 hA1.ob (by rfl) ?_
 symm
 refine⟨p,dx,nv,bd,ad,kd,ns,ps,kvs,q0,rfl,hA1,hW,h10,λl2 H2 hl2 e2 h2=>?_⟩;refine Go (SqL.of h2) ?_;have hfl:f1≠l2:=ne_of_none h1 hl2
 refine Ez (Aw (xs:=(frF (Ad ps) (ns.filter q0)).map V.str)) (λm σ H3=>∃ x3 zs,σ=[some (.ref p),some (.int ((El ns q0:Nat):Int)),some (.ref f1),x3]/\Same H H3/\H3 l2=some (.lst ((frF (Ad ps) (ns.filter q0)).map V.str))/\H3 f1=some (.lst zs)/\Tps H3 (Ye (Ad ps) (ns.filter q0) ((frF (Ad ps) (ns.filter q0)).take m)) zs)
  ⟨_,[],rfl,e1.trans e2,h2,e2 _ _ h1,.nil⟩ (λm σ' H' hP=>?_) (λm x σ' H3 hx hm hP=>?_) (fun σ' H3 hP=>?_)
 . obtain⟨_,_,_,_,h,_⟩:=hP;exact SqL.of h
 . obtain ⟨x3,zs,rfl,e3,h3l,h3f,hL3⟩:=hP;rw[A07] at hx
   cases hz':(frF (Ad ps) (ns.filter q0))[m]? with
   |none=>rw[hz'] at hx;cases hx
   |some z=>
     rw[hz'] at hx
     cases hx;have hzf:=A02 hz';have hzL:=(mem_frF.mp hzf).1;have hzn:=(A1H.mp hzL).1;have hqz:=(A1H.mp hzL).2;have hsub:=Uf hn0 hzn hqz;have hlen:=Dr hLn hzL;have hcl:=Tu hLn hzf;have hA3:=hA.same e3;have hval:((El ns q0:Nat):Int)-((G1 ns z:Nat):Int)=((El ns (λy=>q0 y && !decide (y=z)):Nat):Int):=by omega
     symm
     refine Xi hA3.ob (by rfl) ?_
     symm
     refine i_ixD hA3.bt (Li hzn) ?_
     symm
     rw[hval];refine⟨p,dx,nv,bd,ad,kd,ns,ps,kvs,_,rfl,hA3,hW,h10,by rw[Gf];omega,by rw[Gf];omega,λl4 ys4 H4 hl4 e4 h4 hL4=>?_⟩;rw[Gf] at hL4;have hl1:(Bd (ns.filter q0) z).length=(ns.filter q0).length-1:=by omega
     rw[hl1] at hL4;have hyl4:ys4.length=(ext (Ad ps) ((ns.filter q0).length-1) (Bd (ns.filter q0) z)).length:=hL4.len.symm
     have hyle:ys4.length<=100000:=by rw[hyl4,<- hl1];exact A0B (Nat.le_of_eq (show _=cnt (Ad ps) (Bd (ns.filter q0) z) from rfl)) ∅
     refine Go (SqL.of h4) ?_
     refine Cu (Aw (xs:=ys4)) (λq m acc H5=>Same H4 H5/\Tps H5 (((ext (Ad ps) ((ns.filter q0).length-1) (Bd (ns.filter q0) z)).take m).map (z :: ·)) acc)
      (λq H' hq' e' h'=>⟨e',.nil⟩) (λq m acc H5 hP=>SqL.of (hP.1 _ _ h4)) (λp6 m' x acc H5 hq' hx' hm' hl' hqa hP=>?_) (λq6 acc H6 hq6 hqa hal hP=>?_)
     . obtain⟨e5,hT5⟩:=hP;obtain⟨ra,r,rfl,hr',hra⟩:=(hL4.same e5).at hx'
       have hrl:r.length<=10:=by obtain⟨hp,_⟩:=(Cv _ _ _ _ (Cw hLn z) hl1).mp (A02 hr');have:=hp.length_eq;have:=A1M q0 ns;omega
       symm
       refine Bq (A9 (by simp)) λt6 H6 ht6 e6 h6=>?_
       symm
       refine ak4 h6 (by simp) (SqT.of (e6 _ _ hra)) (A9 (by rw[List.length_map];simp;omega)) λp7 H7 e7 h7=>?_;have e67:=e6.trans e7;have hqa7:=e67 _ _ hqa;refine Fq ∅ hm' hl' hqa7 λH8 e8 h8=>?_;have e48:Same H4 H8:=(e5.trans e67).off hq' e8;refine⟨e48,?_⟩;rw[A0I,hr',A0A];exact((hT5.same e67).but hqa7 e8).append (.one (e8 _ _ (ne_of h7 hqa7 (by intro z;cases z)) h7))
     obtain⟨e6,hT6⟩:=hP;rw[hyl4,A0R] at hT6
     have hzl:zs.length<=100000:=by have:=hL3.len;have:=Rk (Ad ps) hne m;omega
     have e36:Same H3 H6:=e4.trans e6;have h6f:=e36 _ _ h3f
     symm
     refine T2 h6f hqa ∅ λH7 e7 h7=>?_
     symm
     refine⟨_,_,rfl,(e3.trans e36).off hf1 e7,e7 _ _ hfl.symm (e36 _ _ h3l),h7,?_⟩;rw[A0I,hz'];show Tps H7 (Ye (Ad ps) (ns.filter q0) ((frF (Ad ps) (ns.filter q0)).take m++[z])) _;rw[Yh];exact((hL3.same e36).but h6f e7).append (hT6.but h6f e7)
 obtain⟨x3,zs,rfl,e3,h3l,h3f,hL3⟩:=hP;rw[A00,A0R,Vn _ hne] at hL3
 symm
 exact k f1 zs H3 hf1 e3 h3f hL3
theorem T7 {f:Addr}{fd:FuncData}(F:Fun K "orders_on" "orders_on" Dy f fd)(T:Gn mg){C_Ways:Addr}(k_Ways:Gv K C_Ways)(Ar:Mtd P w K mg base 1 C_Ways "free_names" ["self","left"] (Bb C_Ways K))(hm:mg "orders_on" = some (.ref f))(hk:W.keepIn K (.ref f)=true)(hb:Binds K fd ["ways","left"] []):FnOk P w K mg base CX0 13 f fd ["ways","left"] (J2 C_Ways K):=by
 have h:∀ n:Nat,FnOk P w K mg base CX0 (2+n) f fd ["ways","left"] (Em C_Ways K n):=λn=>by
  induction n with
  |zero=>exact FnOk.void Ky
  |succ n ih=>exact Pu F T k_Ways Ar n ⟨f,fd,ih,hm,hk,hb⟩
 exact h 11
theorem R4 {f:Addr}{fd:FuncData}(F:Fun K "all_orders" "all_orders" Ed f fd)(T:Gn mg){C_Ways:Addr}(k_Ways:Gv K C_Ways)(Gj:Fnd P w K mg base 13 "orders_on" ["ways","left"] (J2 C_Ways K))(K2:Mkd P w K mg base 3 C_Ways "Ways" ["self","half"] (Iu C_Ways K))(Ds:Mtd P w K mg base 13 C_Ways "ways_on" ["self","left"] (Ge C_Ways K)):FnOk P w K mg base CX0 14 f fd ["half"] (Et K):=by
 refine F.ok Kz (λvs H Q E h=>?_) (λcdv A outer s H vs Q E hr h=>?_)
 . obtain⟨v,ns,ps,rfl,_⟩:=h;rfl
 obtain⟨v,ns,ps,rfl,hI,hW,h10,hcn,k⟩:=h;have hu:=C8 hr;have hq:=C7 hr
 with_reducible refine⟨_,(A2 (Ac (i:=1) Kz.nd ⋯ (by eq_refl) (aH5 K2 (hr.mono nofun) ⋯ (A0 (pv 0) A1)))
  (A2 (C0 (Ab Sn (ab0 (C:=C_Ways) (pv 1) k_Ways.cl Ds (hr.mono nofun) (A0 (Lz (C:=C_Ways) (pv 1) k_Ways.cl k_Ways.n_full ⋯) A1)) (ay4 ⋯ T.g_MOST_LISTED) (Ao _)) (A5 X4) Ap)
  (A5 (Am (As Gj (hr.mono nofun) ⋯ (A0 (pv 1) (A0 (Lz (C:=C_Ways) (pv 1) k_Ways.cl k_Ways.n_full ⋯) A1))))))),?_⟩
 symm
 refine i_mk λp dx H1 hp1 e1 h1=>?_;refine⟨p,v,dx,ns,ps,rfl,h1,hI.hf_fz e1.fz,hW,h10,λnv bd ad kd kvs H2 hk2 e2 hA=>⟨rfl,?_⟩⟩
 symm
 refine aE5 hA.ob (by rfl) ?_
 symm
 refine Xi hA.ob (by rfl) ?_
 symm
 have hfl:ns.filter (λ_=>true)=ns:=by simp
 refine⟨p,dx,nv,bd,ad,kd,ns,ps,kvs,λ_=>true,rfl,hA,hW,h10,by rw[hfl];omega,λkvs' H3 e3 hA3=>?_⟩;rw[hfl]
 symm
 refine Jt (λhbad=>absurd hbad ∅) (λ_=>?_)
 symm
 refine Xi hA3.ob (by rfl) ?_
 symm
 refine⟨p,dx,nv,bd,ad,kd,ns,ps,kvs',λ_=>true,rfl,hA3,hW,h10,by rw[hfl];omega,by rw[hfl];omega,λl ys H4 hl4 e4 h4 hL4=>?_⟩;rw[hfl] at hL4;have e13:Same H H3:=(e1.off hp1 e2).off (e1.free hk2) e3;exact k l ys H4 (e13.free hl4) (e13.trans e4) h4 hL4
def Ta (one other:List Str)(k:Nat):Nat:=((one.drop (k+1)).filter λx=>decide (other.idxOf x<other.idxOf (one.getD k ""))).length
def Ek (one other:List Str):Nat:=((List.range one.length).map (Ta one other)).sum
def Dq (K:W.Frag):Sp:=λvs H Q _=>∃ v u one other,vs=[v,u]/\Is K H (nmD one) v/\Is K H (nmD other) u/\(∀ x∈one,x∈other)/\one.length<=10/\other.length<=10/\∀ H',Same H H'->Q (.int ((Ek one other:Nat):Int)) H'
theorem Tc (one other:List Str)(i:Nat):((List.range (i+1)).map (Ta one other)).sum=((List.range i).map (Ta one other)).sum+Ta one other i:=by rw[A4K,A0A,A3K];simp
theorem Ol {f:Addr}{fd:FuncData}(F:Fun K "pairs_apart" "pairs_apart" Dg f fd)(T:Gn mg):FnOk P w K mg base CX0 1 f fd ["one","other"] (Dq K):=by
 refine F.ok Ch (λvs H Q E h=>?_) (λcdv A outer s H vs Q E hr h=>?_)
 . obtain⟨v,u,one,other,rfl,_⟩:=h;rfl
 obtain⟨v,u,one,other,rfl,hV,hU,hsub,h10,h10',k⟩:=h;have hu:=C8 hr;have hq:=C7 hr
 with_reducible refine⟨_,(A2 (De (i:=2) ["name"] ["other"] [1] ⋯ ⋯ ⋯ Ch.nd ⋯ ⋯ (Aq (K:=K) hu (pv 0)) (λ_ _ _ _=>(A8 (i:=0) (by with_unfolding_all (show(["name","other"]:List Str).Nodup;decide +kernel)) ⋯ (by eq_refl))) (Au nofun) (λ_ _ _ _=>Bn) (λ_ _ _ _=>(Pe (K:=K) A2G A2P (Ga (K:=K)) (pv 1) (A0 (pv 0) A1))))
  (A2 (Ac (i:=3) Ch.nd ⋯ (by eq_refl) A4)
  (A2 (C9 A14 ⋯ (Vp (K:=K) ⋯ T.b_enumerate (A0 (pv 2) A1)) (Po (K:=K) (n:=2) ⋯ (Gp (A8 (i:=4) Ch.nd ⋯ (by eq_refl)) (Gp (A8 (i:=5) Ch.nd ⋯ (by with_unfolding_all exact A36 rfl)) Pr)))
  (A5 (Ac (i:=3) Ch.nd ⋯ (by eq_refl) (Ak (Ah (K:=K)) (pv 3) (A7 (Aj (K:=K)) ⋯ T.b_len PyProof.Rows.Boot.«len» (A0 (Ba ["later"] ["seat"] [5] ⋯ ⋯ ⋯ (Aq (K:=K) hu (B9 (Oi (K:=K)) (pv 2) (Be (Ak (Ah (K:=K)) (pv 4) A4)) Cq)) (λ_ _ _ _=>(A8 (i:=0) (by with_unfolding_all (show(["later","seat"]:List Str).Nodup;decide +kernel)) ⋯ (by eq_refl))) (Au nofun) (λ_ _ _ _=>(Fm (Ab Xm (pv 0) (pv 1) (Ao _)))) (λ_ _ _ _=>(pv 0))) A1))))))
  (A5 (Am (pv 3)))))),?_⟩
 symm
 refine La hV (λ_=>true) (λx=>PyData.int ((other.idxOf x:Nat):Int)) (λ_=>rfl) ∅ (λi x H1 R R' hx e1 hR hR'=>?_) (λq ys H1 hq1 e1 h1 hL1=>?_)
 . have hU1:=hU.nm_fz e1.fz;obtain⟨ua,rfl,hSu⟩:=hU1.nm;obtain⟨f1,f2,f3⟩:=L2.idx_at (hsub x (A02 hx))
   symm
   refine Y6 hSu ?_
   symm
   refine Jk hSu f1 f2 ?_;exact hR rfl _ _ (.refl _) rfl
 have hft:one.filter (λ_=>true)=one:=by simp
 rw[hft,show one.map (λx=>PyData.int ((other.idxOf x:Nat):Int))=(one.map λx=>((other.idxOf x:Nat):Int)).map PyData.int by rw[A2E];rfl] at hL1;have hys:=IsL.int_eq hL1;subst hys
 symm
 refine Rq (SqL.of h1) (λi σ H2=>∃ x4 x5,σ=[some v,some u,some (.ref q),some (.int ((((List.range i).map (Ta one other)).sum:Nat):Int)),x4,x5]/\Same H1 H2)
  ⟨_,_,rfl,.refl _⟩ (λi σ' H' hP=>?_) (λi x σ' H2 H3 hx hP e3=>?_) (fun σ' H2 hP=>?_)
 . obtain⟨_,_,_,e⟩:=hP;exact SqL.of (e _ _ h1)
 . obtain ⟨x4,x5,rfl,e2⟩:=hP;rw[A07,A07] at hx
   cases hz:one[i]? with
   |none=>rw[hz] at hx;cases hx
   |some z=>
     rw[hz] at hx
     cases hx;have hin:i<one.length:=(A01.mp hz).1;have hgd:one.getD i "" = z:=by rw[A1W,hz];rfl
     have h3:=e3 _ _ (e2 _ _ h1)
     symm
     refine Ni (SqL.of h3) λq4 H4 hq4 e4 h4=>?_;rw[Ji ∅ (by rw[A00,A00];omega),show(((i:Nat):Int)+1).toNat=i+1 by omega,<- A32,<- A32] at h4;refine Go (SqL.of h4) ?_
     refine Cu (Aw (xs:=((one.drop (i+1)).map λx=>((other.idxOf x:Nat):Int)).map V.int)) (λp m acc H5=>Same H4 H5/\acc.length=(((one.drop (i+1)).take m).filter λx=>decide (other.idxOf x<other.idxOf z)).length)
      (λp H' hp' e' h'=>⟨e',rfl⟩) (λp m acc H5 hP=>SqL.of (hP.1 _ _ h4)) (λp m x5 acc H5 hp' hx5 hm hl hpa hP=>?_) (λp acc H5 hp' hpa hal hP=>?_)
     . obtain ⟨e5,hacc⟩:=hP;rw[A07,A07] at hx5
       cases hy:(one.drop (i+1))[m]? with
       |none=>rw[hy] at hx5;cases hx5
       |some y=>
         rw[hy] at hx5
         cases hx5;have htk:(one.drop (i+1)).take (m+1)=(one.drop (i+1)).take m++[y]:=by rw[A0I,hy];rfl
         symm
         refine Jt (λhc=>?_) (λhc=>?_)
         . symm
           refine Fq (by rw[A00,A00,A1G];omega) hm hl hpa λH6 e6 h6=>?_;refine⟨e5.off hp' e6,?_⟩;rw[htk,A22,A04,A04,hacc,A1Z,A10 (A0H (Int.ofNat_lt.mp hc))];rfl
         refine Iw hm hl hpa ⟨e5,?_⟩;rw[htk,A22,hacc,A1Z,A0W (by rw[A11 λh=>hc (Int.ofNat_lt.mpr h)];decide),List.filter_nil,A19]
     obtain⟨e5,hacc⟩:=hP;rw[A00,A00,A0R] at hacc;have hk:acc.length=Ta one other i:=by rw[hacc];unfold Ta;rw[hgd]
     symm
     rw[hk];have hval:((((List.range i).map (Ta one other)).sum:Nat):Int)+((Ta one other i:Nat):Int)=((((List.range (i+1)).map (Ta one other)).sum:Nat):Int):=by rw[Tc];omega
     rw[hval];exact⟨_,_,rfl,((e2.trans e3).trans e4).trans e5⟩
 obtain⟨x4,x5,rfl,e2⟩:=hP;rw[A00,A00]
 symm
 exact k H2 (e1.trans e2)
def L5 (b:Str->Str->Bool)(ns:List Str):Nat:=((ext b ns.length ns).map λr=>Ek ((ext b ns.length ns).headD []) r % 2).sum
theorem ag5 (b:Str->Str->Bool)(ns:List Str):L5 b ns<=cnt b ns:=by
 unfold L5;have:((ext b ns.length ns).map λr=>Ek ((ext b ns.length ns).headD []) r % 2).sum<=((ext b ns.length ns).map λ_=>1).sum:=a04 λr _=>by omega
 rw[L2.sum_const,Nat.mul_one] at this;exact this
def Mf (K:W.Frag):Sp:=λvs H Q _=>∃ v ns ps,vs=[v]/\Is K H (hfD ns ps) v/\HalfW ns ps/\ns.length<=10/\cnt (Ad ps) ns<=720 /\
 ∀ a H',Same H H'->SqT K H' a [.int (((cnt (Ad ps) ns:Nat):Int)-((L5 (Ad ps) ns:Nat):Int)),.int ((L5 (Ad ps) ns:Nat):Int)]->Q (.ref a) H'
theorem Wr {ns:List Str}{ps:List (Str×Str)}(hW:HalfW ns ps)(h10:ns.length<=10):∀ r∈ext (Ad ps) ns.length ns,r.length<=10/\∀ r'∈ext (Ad ps) ns.length ns,∀ x∈r,x∈r':=λr hr=>by obtain⟨hp,_⟩:=(Cv _ _ _ _ hW.nd rfl).mp hr;have:=hp.length_eq;refine⟨by omega,λr' hr' x hx=>?_⟩;obtain⟨hp',_⟩:=(Cv _ _ _ _ hW.nd rfl).mp hr';exact hp'.mem_iff.mpr (hp.mem_iff.mp hx)
theorem Nr {ns:List Str}{ps:List (Str×Str)}(hW:HalfW ns ps):∃ r0,(ext (Ad ps) ns.length ns)[0]? = some r0/\(ext (Ad ps) ns.length ns).headD []=r0:=by
 have hp:=a46 (ad1 hW) an9 _ ns rfl hW.nd
 cases h:ext (Ad ps) ns.length ns with
 |nil=>
   have:L2.cnt (Ad ps) ns=0:=by unfold L2.cnt;rw[h];rfl
   omega
 |cons r t=>exact⟨r,rfl,rfl⟩
theorem aa5 {f:Addr}{fd:FuncData}(F:Fun K "sides" "sides" Lh f fd)(T:Gn mg)(Bs:Fnd P w K mg base 14 "all_orders" ["half"] (Et K))(Cy:Fnd P w K mg base 1 "pairs_apart" ["one","other"] (Dq K)):FnOk P w K mg base CX0 15 f fd ["half"] (Mf K):=by
 refine F.ok Qf (λvs H Q E h=>?_) (λcdv A outer s H vs Q E hr h=>?_)
 . obtain⟨v,ns,ps,rfl,_⟩:=h;rfl
 obtain⟨v,ns,ps,rfl,hI,hW,h10,hcn,k⟩:=h;have hu:=C8 hr;have hq:=C7 hr;obtain⟨r0,hr0,hr1⟩:=Nr hW;have hall:=Wr hW h10
 with_reducible refine⟨_,(A2 (Ac (i:=1) Qf.nd ⋯ (by with_unfolding_all exact A36 rfl) (As Bs (hr.mono nofun) ⋯ (A0 (pv 0) A1)))
  (A2 (Ac (i:=2) Qf.nd ⋯ (by eq_refl) (A7 (Mv (K:=K) ⋯) ⋯ T.b_sum PyProof.Rows.Boot.«sum» (A0 (Ba ["order"] ["orders"] [1] ⋯ ⋯ ⋯ (Aq (K:=K) hu (pv 1)) (λ_ _ _ _=>(A8 (i:=0) (by with_unfolding_all (show(["order","orders"]:List Str).Nodup;decide +kernel)) ⋯ (by eq_refl))) (Au nofun) (λ_ _ _ _=>Bn) (λ_ _ _ _=>(Ak Ip (As Cy (hr.mono nofun) ⋯ (A0 (Al (A6 (K:=K) hu) (pv 1) A4 (by ac_rfl)) (A0 (pv 0) A1))) A4))) A1)))
  (A5 (Am (Bz (A0 (Ak G2 (A7 (Aj (K:=K)) ⋯ T.b_len PyProof.Rows.Boot.«len» (A0 (pv 1) A1)) (pv 2)) (A0 (pv 2) A1))))))),?_⟩
 symm
 refine⟨v,ns,ps,rfl,hI,hW,h10,hcn,λl1 ys1 H1 hl1 e1 h1 hL1=>?_⟩;have hyl:ys1.length=cnt (Ad ps) ns:=hL1.len.symm
 symm
 refine Go (SqL.of h1) ?_
 refine Cu (Aw (xs:=ys1)) (λq m acc H2=>Same H1 H2/\acc=((((ext (Ad ps) ns.length ns).take m).map λr=>((Ek r0 r % 2:Nat):Int))).map V.int)
  (λq H' hq' e' h'=>⟨e',rfl⟩) (λq m acc H2 hP=>SqL.of (hP.1 _ _ h1)) (λq m x acc H2 hq' hx hm hl hqa hP=>?_) (λq acc H2 hq' hqa hal hP=>?_)
 . obtain⟨e2,rfl⟩:=hP;have hL2:=hL1.same e2;obtain⟨xa,row,rfl,hro,hxa⟩:=hL2.at hx;have hIr:Is K H2 (nmD row) (.ref xa):=Hs (SqT.of hxa);obtain⟨y0,hy0,hy0a⟩:=hL2.get 0 r0 hr0;have hI0:Is K H2 (nmD r0) (.ref y0):=Hs (SqT.of hy0a);have m0:=A02 hr0;have m1:=A02 hro
   symm
   refine Ej (e2 _ _ h1) (show atI ys1 ((0:Nat):Int)=some (.ref y0) from Av hy0) ?_
   symm
   refine⟨.ref y0,.ref xa,r0,row,rfl,hI0,hIr,(hall r0 m0).2 row m1,(hall r0 m0).1,(hall row m1).1,λH3 e3=>?_⟩
   symm
   have hmod:((Ek r0 row:Nat):Int) % 2=((Ek r0 row % 2:Nat):Int):=by omega
   rw[hmod];refine Fq ∅ hm hl (e3 _ _ hqa) λH4 e4 h4=>?_;refine⟨(e2.trans e3).off hq' e4,?_⟩;rw[A0I,hro,A0A,A0A];rfl
 obtain⟨e2,rfl⟩:=hP;rw[hyl,show cnt (Ad ps) ns=(ext (Ad ps) ns.length ns).length from rfl,A0R] at hqa;have h2l:=e2 _ _ h1
 symm
 refine al6 (.inl (SqL.of hqa)) (λn' hn'=>?_) (by rw[A00];exact A0B (Nat.le_of_eq (show _=cnt (Ad ps) ns from rfl)) ∅) ?_
 . obtain⟨r,_,rfl⟩:=A0F.mp hn';omega
 rw[Kw (λr=>Ek r0 r % 2)];have hodd:((ext (Ad ps) ns.length ns).map λr=>Ek r0 r % 2).sum=L5 (Ad ps) ns:=by unfold L5;rw[hr1]
 rw[hodd]
 symm
 rw[hyl];refine Bq (A9 (by simp)) λt3 H3 ht3 e3 h3=>?_;exact k t3 H3 ((e1.trans e2).trans e3) (SqT.of h3)
def Tv (o:List Str):List Str->Nat
 | []=>0
 |x :: t=>(t.filter λy=>decide (o.idxOf y<o.idxOf x)).length+Tv o t
theorem Yy (x:Str)(t o:List Str):Ta (x :: t) o 0=(t.filter λy=>decide (o.idxOf y<o.idxOf x)).length:=rfl
theorem Dm (o:List Str):∀ r:List Str,Ek r o=Tv o r
 | []=>rfl
 |x :: t=>by have ih:=Dm o t;unfold Ek at ih ⊢;rw[A0G,List.range_succ_eq_map,A0U,A2E,A2S,Tv,<- ih,Yy];rfl
theorem Ig {o:List Str}{x y:Str}{bs:List Str}(h:o.idxOf y<o.idxOf x):∀ as:List Str,Tv o (as++x :: y :: bs)=Tv o (as++y :: x :: bs)+1
 | []=>by
   have h':¬ o.idxOf x<o.idxOf y:=by omega
   simp only[List.nil_append,Tv,List.filter_cons,h,h',decide_true,decide_false,if_true,Bool.false_eq_true,if_false,List.length_cons];omega
 |a :: as=>by have ih:=Ig (bs:=bs) h as;have hp:(as++x :: y :: bs).Perm (as++y :: x :: bs):=A30 as (A3E y x bs);have hl:=(hp.filter λz=>decide (o.idxOf z<o.idxOf a)).length_eq;simp only[List.cons_append,Tv];omega
theorem Kv {o:List Str}:∀ {r:List Str},r.Pairwise (λa b=>o.idxOf a<o.idxOf b)->Tv o r=0
 | [],_=>rfl
 |x :: t,h=>by
   obtain⟨h1,h2⟩:=A1J.mp h
   have e:(t.filter λy=>decide (o.idxOf y<o.idxOf x))=[]:=List.filter_eq_nil_iff.mpr λy hy=>by have:=h1 y hy;simp;omega
   rw[Tv,e,Kv h2];rfl
theorem Nd {x a:Str}{t:List Str}(h:x≠a):(x :: t).idxOf a=t.idxOf a+1:=by rw [List.idxOf_cons,A1X.mpr h];rfl
theorem Lu:∀ {o:List Str},o.Nodup->o.Pairwise λa b=>o.idxOf a<o.idxOf b
 | [],_=>.nil
 |x :: t,h=>by
   obtain⟨h1,h2⟩:=A13.mp h;refine A1J.mpr ⟨λb hb=>?_,(Lu h2).imp_of_mem fun {a b} ha hb hab=>?_⟩
   . have hne:x≠b:=λe=>h1 (by rw[e];exact hb);rw[A4F,Nd hne];omega
   have hne:x≠a:=λe=>h1 (by rw[e];exact ha);have hne':x≠b:=λe=>h1 (by rw[e];exact hb);rw[Nd hne,Nd hne'];omega
theorem Z4 {r o:List Str}(hp:r.Perm o)(hn:o.Nodup)(h:r.Pairwise λa b=>o.idxOf a<o.idxOf b):r=o:=
 List.Perm.eq_of_pairwise (λx y _ _ h1 h2=>by omega) h (Lu hn) hp
theorem a69 {f:Str->Nat}:∀ {r:List Str},(∀ i a b,r[i]? = some a->r[i+1]? = some b->f a<f b)->r.Pairwise λa b=>f a<f b
 | [],_=>.nil
 | [x],_=>A26 _ _
 |x :: y :: t,h=>by
   have ih:=a69 (f:=f) (r:=y :: t) λi a b ha hb=>h (i+1) a b ha hb;have h0:=h 0 x y rfl rfl;refine A1J.mpr ⟨λb hb=>?_,ih⟩;rcases A0N.mp hb with rfl|hb
   . exact h0
   have:=(A1J.mp ih).1 b hb;omega
theorem au7 {o:List Str}(hn:o.Nodup){x y:Str}(hx:x∈o)(h:o.idxOf y<o.idxOf x){b:Str->Str->Bool}(hb:o.Pairwise λu v=>b v u=false):b x y=false:=by
 have hxl:=List.idxOf_lt_length_iff.mpr hx;have hyl:o.idxOf y<o.length:=by omega
 have:=A28.mp hb (o.idxOf y) (o.idxOf x) hyl hxl h;rwa[List.getElem_idxOf hxl,List.getElem_idxOf hyl] at this
theorem a61 {R:Str->Str->Prop}{x y:Str}{bs:List Str}:∀ {as:List Str},(as++x :: y :: bs).Pairwise R->R y x->(as++y :: x :: bs).Pairwise R
 | [],h,g=>by
   obtain⟨h1,h2⟩:=A1J.mp h;obtain⟨h3,h4⟩:=A1J.mp h2;refine A1J.mpr ⟨λz hz=>?_,A1J.mpr ⟨λz hz=>h1 z (A09 _ hz),h4⟩⟩;rcases A0N.mp hz with rfl|hz
   . exact g
   exact h3 z hz
 |a :: as,h,g=>by
   obtain⟨h1,h2⟩:=A1J.mp h;refine A1J.mpr ⟨λz hz=>h1 z ?_,a61 h2 g⟩;have hz:z∈as++y :: x :: bs:=hz;show z∈as++x :: y :: bs;simp only[List.mem_append,List.mem_cons] at hz ⊢;rcases hz with h|h|h|h
   . exact .inl h
   . exact .inr (.inr (.inl h))
   . exact .inr (.inl h)
   exact .inr (.inr (.inr h))
theorem X5 {b:Str->Str->Bool}{ns o as bs:List Str}{x y:Str}(hn:ns.Nodup)(h:as++x :: y :: bs∈ext b ns.length ns)(ho:o∈ext b ns.length ns)(hxy:o.idxOf y<o.idxOf x):as++y :: x :: bs∈ext b ns.length ns:=by obtain⟨p1,q1,q2⟩:=(Cv _ _ _ _ hn rfl).mp h;obtain⟨p2,q3,q4⟩:=(Cv _ _ _ _ hn rfl).mp ho;have hp:(as++y :: x :: bs).Perm (as++x :: y :: bs):=A30 as (A3E x y bs);refine(Cv _ _ _ _ hn rfl).mpr ⟨hp.trans p1,λu hu=>q1 u (hp.mem_iff.mp hu),a61 q2 ?_⟩;exact au7 (p2.nodup_iff.mpr hn) (p2.mem_iff.mpr (p1.mem_iff.mp (by simp))) hxy q4
def Sw (a b:List Str):Prop:=∃ as x y bs,a=as++x :: y :: bs/\b=as++y :: x :: bs/\x≠y
structure WayL (ns:List Str)(b:Str->Str->Bool)(one cur:List Str)(rows:List (List Str)):Prop where
 fst:rows[0]? = some one
 lst:rows.getLast? = some cur
 all:∀ r∈rows,r∈ext b ns.length ns
 sw:∀ i r r',rows[i]? = some r->rows[i+1]? = some r'->Sw r r'
theorem WayL.snoc {ns:List Str}{b:Str->Str->Bool}{one cur nw:List Str}{rows:List (List Str)}(h:WayL ns b one cur rows)(hn:nw∈ext b ns.length ns)(hs:Sw cur nw):WayL ns b one nw (rows++[nw]):=by
 have h0:0<rows.length:=by
  cases e:rows with
  |nil=>have:=h.fst;rw[e] at this;cases this
  |cons _ _=>simp
 refine⟨by rw[List.getElem?_append_left h0];exact h.fst,by simp,λr hr=>?_,λi r r' h1 h2=>?_⟩
 . rcases A0C.mp hr with hr|hr
   . exact h.all r hr
   rw[A0X.mp hr];exact hn
 by_cases hi:i+1<rows.length
 . rw[A18 ∅] at h1;rw[A18 hi] at h2;exact h.sw i r r' h1 h2
 have hl:i+1<(rows++[nw]).length:=(A01.mp h2).1;have hi':i+1=rows.length:=by simp at hl;omega
 rw[A18 ∅] at h1;rw[hi',A0T (A05 _),A2H] at h2;have e2:nw=r':=A12 h2;have e1:rows.getLast? = rows[i]?:=by rw[A3P];congr 1;omega
 rw[h.lst,h1] at e1;rw[<- A12 e1,<- e2];exact hs
theorem Kr {xs:List V}{t:Int}(h0:0<=t):Lv xs (some t) none=xs.drop t.toNat:=a80 h0
def Jr (K:W.Frag):Sp:=λvs H Q _=>∃ u as x y bs,vs=[u,.int ((as.length:Nat):Int)]/\Is K H (nmD (as++x :: y :: bs)) u/\(as++x :: y :: bs).length<=10/\∀ w H',Same H H'->Is K H' (nmD (as++y :: x :: bs)) w->Q w H'
theorem Xc {f:Addr}{fd:FuncData}(F:Fun K "swapped" "swapped" Ho f fd)(T:Gn mg):FnOk P w K mg base CX0 1 f fd ["order","place"] (Jr K):=by
 refine F.ok Xn (λvs H Q E h=>?_) (λcdv A outer s H vs Q E hr h=>?_)
 . obtain⟨u,as,x,y,bs,rfl,_⟩:=h;rfl
 obtain⟨u,as,x,y,bs,rfl,hU,h10,k⟩:=h;have hu:=C8 hr;have hq:=C7 hr;obtain⟨a,rfl,hS⟩:=hU.nm;have hlen:((as++x :: y :: bs).map V.str).length=as.length+(bs.length+2):=by simp
 simp only[List.length_append,List.length_cons] at h10
 have c1:Lv ((as++x :: y :: bs).map V.str) none (some ((as.length:Nat):Int))=as.map V.str:=by rw[Ht ∅,<- A3M,A4T,A2T]
 have c2:Lv ((as++x :: y :: bs).map V.str) (some (((as.length:Nat):Int)+2)) none=bs.map V.str:=by rw[Kr ∅,<- A32,show(((as.length:Nat):Int)+2).toNat=as.length+2 by omega,<- A33,A20];rfl
 have i1:atI ((as++x :: y :: bs).map V.str) (((as.length:Nat):Int)+1)=some (.str y):=Av (j:=as.length+1) (by simp);have i0:atI ((as++x :: y :: bs).map V.str) (((as.length:Nat):Int))=some (.str x):=Av (by simp);generalize (as++x :: y :: bs).map V.str=xs at *
 with_reducible refine⟨_,(A5 (Am (Ak (Ah (K:=K)) (Ak (Ah (K:=K)) (B9 (Oi (K:=K)) (pv 0) Cq (Be (pv 1))) (Bz (A0 (Al (A6 (K:=K) hu) (pv 0) (Ak (Ah (K:=K)) (pv 1) A4) (by ac_rfl)) (A0 (Al (A6 (K:=K) hu) (pv 0) (pv 1) (by ac_rfl)) A1)))) (B9 (Oi (K:=K)) (pv 0) (Be (Ak (Ah (K:=K)) (pv 1) A4)) Cq)))),?_⟩
 symm
 refine Xv hS λp1 H1 e1 h1=>?_;rw[c1] at h1
 symm
 refine Hn (e1.seqT hS) i1 ?_
 symm
 refine Hn (e1.seqT hS) i0 ?_
 symm
 refine Bq (A9 (by simp)) λp2 H2 hp2 e2 h2=>?_;refine Pa (e2.seqT h1) (SqT.of h2) (A9 (by simp;omega)) λp3 H3 e3 h3=>?_
 symm
 have e123:=(e1.trans e2).trans e3;refine Xv (e123.seqT hS) λp4 H4 e4 h4=>?_;rw[c2] at h4;refine Pa (e4.seqT h3) h4 (A9 (by simp;omega)) λp5 H5 e5 h5=>?_
 symm
 refine k _ _ ((e123.trans e4).trans e5) (Hs ?_);rw[A0A,A0U,A0U];rw[A17] at h5;exact h5
def Ex (K:W.Frag):Sp:=λvs H Q _=>∃ u v r o,vs=[u,v]/\Is K H (nmD r) u/\Is K H (nmD o) v/\r.Perm o/\o.Nodup/\r≠o/\o.length<=10/\∀ as x y bs w H',r=as++x :: y :: bs->o.idxOf y<o.idxOf x->Same H H'->Is K H' (nmD (as++y :: x :: bs)) w->Q w H'
theorem L4 {r:List Str}{i:Nat}{a b:Str}(h1:r[i]? = some a)(h2:r[i+1]? = some b):∃ as bs,r=as++a :: b :: bs/\as.length=i:=by obtain⟨hl,hb⟩:=A01.mp h2;obtain⟨hl',ha⟩:=A01.mp h1;refine⟨r.take i,r.drop (i+2),?_,by rw[A0J];omega⟩;rw[<- ha,<- hb,A3F,A3F,A2O]
theorem Nn {f:Addr}{fd:FuncData}(F:Fun K "step_towards" "step_towards" Cg f fd)(T:Gn mg)(Hg:Fnd P w K mg base 1 "swapped" ["order","place"] (Jr K)):FnOk P w K mg base CX0 2 f fd ["order","goal"] (Ex K):=by
 refine F.ok Gd (λvs H Q E h=>?_) (λcdv A outer s H vs Q E hr h=>?_)
 . obtain⟨u,v,r,o,rfl,_⟩:=h;rfl
 obtain⟨u,v,r,o,rfl,hU,hV,hp,hn,hne,h10,k⟩:=h;have hu:=C8 hr;have hq:=C7 hr;obtain⟨ua,rfl,hSu⟩:=hU.nm;obtain⟨va,rfl,hSv⟩:=hV.nm;have hl:=hp.length_eq
 have hlast:∀ i,(∀ j a b,j<i->r[j]? = some a->r[j+1]? = some b->o.idxOf a<o.idxOf b)->i+1<r.length:=λi hi=>by
  by_cases hc:i+1<r.length
  . exact hc
  exact absurd (Z4 hp hn (a69 λj a b ha hb=>hi j a b (by have:=(A01.mp hb).1;omega) ha hb)) hne
 with_reducible refine⟨_,(A2 (Ac (i:=2) Gd.nd ⋯ (by eq_refl) A4)
  (A2 (M8 A14 (Ab Xm (Pe (K:=K) A2G A2P (Ga (K:=K)) (pv 1) (A0 (Al (A6 (K:=K) hu) (pv 0) (pv 2) (by ac_rfl)) A1)) (Pe (K:=K) A2G A2P (Ga (K:=K)) (pv 1) (A0 (Al (A6 (K:=K) hu) (pv 0) (Ak (Ah (K:=K)) (pv 2) A4) (by ac_rfl)) A1)) (Ao _))
  (A5 (Ac (i:=2) Gd.nd ⋯ (by eq_refl) (Ak (Ah (K:=K)) (pv 2) A4))))
  (A5 (Am (As Hg (hr.mono nofun) ⋯ (A0 (pv 0) (A0 (pv 2) A1))))))),?_⟩
 symm
 refine Qa (λm σ H1=>∃ i:Nat,σ=[some (.ref ua),some (.ref va),some (.int (i:Int))]/\H1=H/\i+m=r.length/\∀ j a b,j<i->r[j]? = some a->r[j+1]? = some b->o.idxOf a<o.idxOf b) r.length ⟨0,rfl,rfl,by omega,λj _ _ hj=>absurd hj ∅⟩ (λm σ H1 hP=>?_);obtain⟨i,rfl,rfl,him,hi⟩:=hP;have hi1:=hlast i hi;have g1:=A03 (show i<r.length by omega);have g2:=A03 hi1;generalize r[i]=a at g1;generalize r[i+1]=b at g2;obtain⟨f1,f2,_⟩:=L2.idx_at (hp.mem_iff.mp (A02 g1));obtain⟨f3,f4,_⟩:=L2.idx_at (hp.mem_iff.mp (A02 g2))
 symm
 refine Y6 hSv ?_
 symm
 refine Hn hSu (Av (v:=.str a) (by rw[A07,g1];rfl)) ?_
 symm
 refine Jk hSv f1 f2 ?_
 symm
 refine Y6 hSv ?_
 symm
 refine Hn hSu (show atI _ ((i:Int)+1)=some (.str b) from Av (j:=i+1) (by rw[A07,g2];rfl)) ?_
 symm
 refine Jk hSv f3 f4 ?_
 symm
 refine Jt (λhc=>?_) (λhc=>?_)
 . refine Vt ?_
   symm
   refine⟨m-1,by omega,i+1,rfl,rfl,by omega,λj x y hj hx hy=>?_⟩
   by_cases e:j=i
   . subst e;rw[g1] at hx;rw[g2] at hy
     cases hx
     cases hy;omega
   exact hi j x y ∅ hx hy
 have hab:a≠b:=λe=>by have hnr:=hp.nodup_iff.mpr hn;subst e;have:=(A3N ∅ hnr).mp (g1.trans g2.symm);omega
 obtain⟨as,bs,er,ea⟩:=L4 g1 g2
 have hlt:o.idxOf b<o.idxOf a:=by have:o.idxOf a≠o.idxOf b:=λe=>hab (by rw[<- e,f1] at f3;exact A12 f3);omega
 symm
 refine⟨.ref ua,as,a,b,bs,by rw[ea];rfl,by rw[<- er];exact hU,by rw[<- er];omega,λw H1 e1 hw=>?_⟩;exact k as a b bs w H1 er hlt e1 hw
def G3 (ps:List (List Str×List Str))(r:List Str):List (List Str):=(ps.filter λq=>decide (q.2=r)).map (·.1)
def szT (ps:List (List Str×List Str)):Nat->List Str->Nat
 |0,_=>0
 |n+1,r=>1+((G3 ps r).map (szT ps n)).sum
theorem mem_kids {ps:List (List Str×List Str)}{r c:List Str}:c∈G3 ps r↔(c,r)∈ps:=by
 unfold G3;simp only[List.mem_map,List.mem_filter,decide_eq_true_eq];constructor
 . rintro⟨q,⟨h,rfl⟩,rfl⟩;exact h
 intro h;exact⟨(c,r),⟨h,rfl⟩,rfl⟩
theorem Yn (ps:List (List Str×List Str))(c p r:List Str):G3 (ps++[(c,p)]) r=G3 ps r++if p=r then [c] else []:=by
 unfold G3;rw[A22,A0A];congr 1
 by_cases h:p=r
 . rw[if_pos h,List.filter_cons_of_pos (by simpa using h)];rfl
 rw [if_neg h,List.filter_cons_of_neg (by simpa using h)];rfl
theorem ai6 {ps:List (List Str×List Str)}{rk:List Str->Nat}(hd:∀ q∈ps,rk q.1<rk q.2):∀ {n m:Nat} {r:List Str},rk r<n->rk r<m->szT ps n r=szT ps m r
 |0,_,_,h,_=>absurd h (A29 _)
 |_+1,0,_,_,h=>absurd h (A29 _)
 |n+1,m+1,r,hn,hm=>by
   show 1+_=1+_
   have:(G3 ps r).map (szT ps n)=(G3 ps r).map (szT ps m):=A1K λc hc=>by have h:=hd _ (mem_kids.mp hc);exact ai6 hd (show rk c<n by dsimp only at h;omega) (by dsimp only at h;omega)
   rw[this]
theorem aj3 {ps:List (List Str×List Str)}{rk:List Str->Nat}(hd:∀ q∈ps,rk q.1<rk q.2)(r:List Str):szT ps (rk r+1) r=1+((G3 ps r).map λc=>szT ps (rk c+1) c).sum:=by show 1+_=1+_;rw[A1K λc hc=>ai6 hd (n:=rk r) (m:=rk c+1) (r:=c) (hd _ (mem_kids.mp hc)) (A2Q _)]
theorem Vk {α:Type}(g h:α->Nat):∀ L:List α,(L.map λx=>g x+h x).sum=(L.map g).sum+(L.map h).sum
 | []=>rfl
 |x :: L=>by simp only[List.map_cons,List.sum_cons,Vk g h L];omega
theorem aa3 {O:List (List Str)} {x:List Str} (a:Nat):O.Nodup->x∈O->(O.map λr=>if x=r then a else 0).sum=a:=by
 have none:∀ {O:List (List Str)},x∉O->(O.map λr=>if x=r then a else 0).sum=0:=fun {O}=>by
  induction O with
  |nil=>intro _;rfl
  |cons y O ih=>intro h;rw[A0U,A2S,ih (λe=>h (A09 _ e)),A0W (λe=>h (by rw[e];exact A0E))]
 induction O with
 |nil=>intro _ h;cases h
 |cons y O ih=>
   intro hn hx;obtain⟨h1,h2⟩:=A13.mp hn;rw[A0U,A2S]
   by_cases e:x=y
   . rw[A10 e,none (by rw[e];exact h1)];rfl
   rw[A0W e,ih h2 ((A0N.mp hx).resolve_left e),A4B]
theorem W4 {O:List (List Str)}(hn:O.Nodup)(f:List Str->Nat):∀ {ps:List (List Str×List Str)},(∀ q∈ps,q.2∈O)->(O.map λr=>((G3 ps r).map f).sum).sum=(ps.map λq=>f q.1).sum
 | [],_=>by have:(O.map λr=>((G3 [] r).map f).sum)=O.map λ_=>0:=A1K λr _=>rfl;rw[this];exact(L2.sum_const _ _).trans (Nat.mul_zero _)
 |q :: ps,h=>by
   have e:(O.map λr=>((G3 (q :: ps) r).map f).sum)=O.map λr=>(if q.2=r then f q.1 else 0)+((G3 ps r).map f).sum:=A1K λr _=>by
    unfold G3
    by_cases c:q.2=r
    . rw[List.filter_cons_of_pos (by simpa using c),if_pos c];rfl
    rw[List.filter_cons_of_neg (by simpa using c),if_neg c,Nat.zero_add]
   rw[e,Vk,aa3 _ hn (h q A0E),W4 hn f λq' hq'=>h q' (A09 _ hq')];rfl
theorem a89 {T:List (List Str)}{r0:List Str}{ps:List (List Str×List Str)}{rk:List Str->Nat}(hn:(r0 :: T).Nodup)(hc:ps.map (·.1)=T)(hp:∀ q∈ps,q.2∈r0 :: T/\rk q.1<rk q.2):szT ps (rk r0+1) r0=T.length+1:=by
 have hd:∀ q∈ps,rk q.1<rk q.2:=λq hq=>(hp q hq).2;have h1:=W4 hn (λc=>szT ps (rk c+1) c) (ps:=ps) λq hq=>(hp q hq).1
 have h2:((r0 :: T).map λr=>szT ps (rk r+1) r).sum=((r0 :: T).map λr=>1+((G3 ps r).map λc=>szT ps (rk c+1) c).sum).sum:=by rw[A1K λr _=>aj3 hd r]
 have e:(ps.map λq=>szT ps (rk q.1+1) q.1).sum=(T.map λc=>szT ps (rk c+1) c).sum:=by rw[<- hc,A2E];rfl
 rw[Vk,L2.sum_const,Nat.mul_one,h1,e,A0U,A2S,A0G] at h2;omega
structure TrH (H:Hp)(t:Addr)(kvs:List (List Key×V))(O:List (List Str))(ps:List (List Str×List Str)):Prop where
 top:H t=some (.dT kvs)
 at_:∀ r∈O,∃ a ys,Ee kvs (kyT r)=some (.ref a)/\H a=some (.lst ys)/\Tps H (G3 ps r) ys
theorem TrH.same {H H':Hp}{t:Addr}{kvs:List (List Key×V)}{O:List (List Str)}{ps:List (List Str×List Str)}(h:TrH H t kvs O ps)(e:Same H H'):TrH H' t kvs O ps:=
 ⟨e _ _ h.top,λr hr=>let ⟨a,ys,h1,h2,h3⟩:=h.at_ r hr;⟨a,ys,h1,e _ _ h2,h3.same e⟩⟩
def trn (ps:List (List Str×List Str)):Nat->Bool->List Str->List (List Str)
 |0,_,_=>[]
 |n+1,b,r=>if b then r :: ((G3 ps r).map (trn ps n false)).flatten else((G3 ps r).map (trn ps n true)).flatten++[r]
theorem Ma (L:List (List Str))(f:List Str->List (List Str))(g:List Str->Nat)(h:∀ c∈L,(f c).length=g c):((L.map f).flatten).length=(L.map g).sum:=by rw[List.length_flatten,A2E];congr 1;exact A1K h
theorem Lj (ps:List (List Str×List Str)):∀(n:Nat) (b:Bool) (r:List Str),(trn ps n b r).length=szT ps n r
 |0,_,_=>rfl
 |n+1,true,r=>by show(_ :: ((G3 ps r).map (trn ps n false)).flatten).length=_;rw[A0G,Ma _ _ _ λc _=>Lj ps n false c,A4N];rfl
 |n+1,false,r=>by show(((G3 ps r).map (trn ps n true)).flatten++[r]).length=_;rw[A04,Ma _ _ _ λc _=>Lj ps n true c,A4N];rfl
theorem ah6 {ps:List (List Str×List Str)}{rk:List Str->Nat}(hd:∀ q∈ps,rk q.1<rk q.2):∀ {n m:Nat} {b:Bool} {r:List Str},rk r<n->rk r<m->trn ps n b r=trn ps m b r
 |0,_,_,_,h,_=>absurd h (A29 _)
 |_+1,0,_,_,_,h=>absurd h (A29 _)
 |n+1,m+1,b,r,hn,hm=>by
   have e:∀ b',(G3 ps r).map (trn ps n b')=(G3 ps r).map (trn ps m b'):=λb'=>A1K λc hc=>by have h:=hd _ (mem_kids.mp hc);exact ah6 hd (show rk c<n by dsimp only at h;omega) (by dsimp only at h;omega)
   show(if b then _ else _)=if b then _ else _
   rw[e,e]
theorem as5 {ps:List (List Str×List Str)}{rk:List Str->Nat}(hd:∀ q∈ps,rk q.1<rk q.2)(b:Bool)(r:List Str):trn ps (rk r+1) b r=if b then r :: ((G3 ps r).map λc=>trn ps (rk c+1) false c).flatten else((G3 ps r).map λc=>trn ps (rk c+1) true c).flatten++[r]:=by
 have e:∀ b',(G3 ps r).map (trn ps (rk r) b')=(G3 ps r).map λc=>trn ps (rk c+1) b' c:=λb'=>A1K λc hc=>ah6 hd (hd _ (mem_kids.mp hc)) (A2Q _);show(if b then _ else _)=_
 rw[e,e]
theorem Qh {ps:List (List Str×List Str)}{n:Nat}{b:Bool}{r:List Str}:r∈trn ps (n+1) b r:=by
 cases b with
 |true=>exact A0E
 |false=>exact A1D _ (A0X.mpr rfl)
theorem trn_sub {ps:List (List Str×List Str)}{n:Nat}{b:Bool}{r:List Str}{x:List Str}:x∈trn ps (n+1) b r↔x=r\/∃ c∈G3 ps r,x∈trn ps n (!b) c:=by
 cases b with
 |true=>
   show x∈r :: ((G3 ps r).map (trn ps n false)).flatten↔_;simp only[List.mem_cons,List.mem_flatten,List.mem_map,Bool.not_true];constructor
   . rintro(h|⟨_,⟨c,hc,rfl⟩,hx⟩)
     . exact .inl h
     exact .inr ⟨c,hc,hx⟩
   rintro(h|⟨c,hc,hx⟩)
   . exact .inl h
   exact .inr ⟨_,⟨c,hc,rfl⟩,hx⟩
 |false=>
   show x∈((G3 ps r).map (trn ps n true)).flatten++[r]↔_;simp only[List.mem_append,List.mem_singleton,List.mem_flatten,List.mem_map,Bool.not_false];constructor
   . rintro(⟨_,⟨c,hc,rfl⟩,hx⟩|h)
     . exact .inr ⟨c,hc,hx⟩
     exact .inl h
   rintro(h|⟨c,hc,hx⟩)
   . exact .inr h
   exact .inl ⟨_,⟨c,hc,rfl⟩,hx⟩
theorem Vy {ps:List (List Str×List Str)}{rk:List Str->Nat}(hd:∀ q∈ps,rk q.1<rk q.2):∀ {n:Nat} {b:Bool} {r p c:List Str},rk r<n->p∈trn ps n b r->c∈G3 ps p->c∈trn ps n b r
 |0,_,_,_,_,h,_,_=>absurd h (A29 _)
 |n+1,b,r,p,c,hn,hp,hc=>by
   rcases trn_sub.mp hp with e|⟨c',hc',hx⟩
   . subst e;have h:=hd _ (mem_kids.mp hc);obtain⟨m,rfl⟩:∃ m,n=m+1:=⟨n-1,by dsimp only at h;omega⟩;exact trn_sub.mpr (.inr ⟨c,hc,Qh⟩)
   have h:=hd _ (mem_kids.mp hc');exact trn_sub.mpr (.inr ⟨c',hc',Vy hd (by dsimp only at h;omega) hx hc⟩)
theorem Pz:∀ {O N:List (List Str)},O.Nodup->(∀ x∈O,x∈N)->N.length<=O.length->N.Perm O
 | [],N,_,_,h=>by rw[A0D.mp (Nat.le_zero.mp h)]
 |x :: O,N,hn,hs,hl=>by
   have hx:=hs x A0E;have h1:=List.perm_cons_erase hx;obtain⟨a,b⟩:=A13.mp hn;have hle:=A4V hx;refine h1.trans (List.Perm.cons x (Pz b (λy hy=>?_) ?_))
   . exact(A5N (λ(e:y=x)=>a (e ▸ hy))).mpr (hs y (A09 _ hy))
   rw[A0G] at hl;omega
theorem al5 {T:List (List Str)}{r0:List Str}{ps:List (List Str×List Str)}{rk:List Str->Nat}(hn:(r0 :: T).Nodup)(hc:ps.map (·.1)=T)(hp:∀ q∈ps,q.2∈r0 :: T/\rk q.1<rk q.2)(b:Bool):(trn ps (rk r0+1) b r0).Perm (r0 :: T):=by
 have hd:∀ q∈ps,rk q.1<rk q.2:=λq hq=>(hp q hq).2;refine Pz hn ?_ (by rw[Lj,a89 hn hc hp,A0G];exact A05 _)
 have up:∀(n:Nat) x,x∈r0 :: T->(∃ M,(∀ y∈r0 :: T,rk y<=M)/\M-rk x<=n)->x∈trn ps (rk r0+1) b r0:=λn=>by
  induction n with
  |zero=>
    rintro x hx ⟨M,hM,hxn⟩;rcases A0N.mp hx with e|hx'
    . rw[e];exact Qh
    rw[<- hc] at hx';obtain⟨q,hq,rfl⟩:=A0F.mp hx';have h1:=hp q hq;have h2:=hM _ h1.1;omega
  |succ n ih=>
    rintro x hx ⟨M,hM,hxn⟩;rcases A0N.mp hx with e|hx'
    . rw[e];exact Qh
    rw[<- hc] at hx';obtain⟨q,hq,rfl⟩:=A0F.mp hx';have h1:=hp q hq;have h2:=hM _ h1.1;exact Vy hd (A2Q _) (ih q.2 h1.1 ⟨M,hM,by omega⟩) (mem_kids.mpr hq)
 have bd:∀ L:List (List Str),∃ M,∀ y∈L,rk y<=M:=λL=>by
  induction L with
  |nil=>exact⟨0,λy hy=>(by cases hy)⟩
  |cons y L ih=>
    obtain⟨M,hM⟩:=ih;refine⟨max M (rk y),λz hz=>?_⟩;rcases A0N.mp hz with rfl|hz
    . exact Nat.le_max_right _ _
    exact A0B (hM z hz) (Nat.le_max_left _ _)
 obtain⟨M,hM⟩:=bd (r0 :: T);exact λx hx=>up M x hx ⟨M,hM,by omega⟩
def Bm (K:W.Frag)(N:Nat):Sp:=λvs H Q _=>∃(t:Addr) (u:V) (b:Bool) (kvs:List (List Key×V)) (O:List (List Str)) (ps:List (List Str×List Str)) (rk:List Str->Nat) (r:List Str),vs=[.ref t,u,.bl b]/\TrH H t kvs O ps/\(∀ q∈ps,q.1∈O/\rk q.1<rk q.2)/\Is K H (nmD r) u/\r∈O/\rk r<N/\szT ps (rk r+1) r<=100000/\∀ l ys H',H l=none->Same H H'->H' l=some (.lst ys)->IsL K H' ((trn ps (rk r+1) b r).map nmD) ys->Q (.ref l) H'
def Eo (K:W.Frag):Sp:=Bm K 125
theorem Hh {K:W.Frag}:∀ vs H Q E,¬ Bm K 0 vs H Q E:=by rintro vs H Q E ⟨_,_,_,_,_,_,_,_,_,_,_,_,_,h,_⟩;exact absurd h (A29 _)
theorem K8 {f:Addr}{fd:FuncData}(F:Fun K "listed_by_turns" "listed_by_turns" B4 f fd)(T:Gn mg)(n:Nat)(C5:Fnd P w K mg base (1+n) "listed_by_turns" ["tree","order","goes_ahead"] (Bm K n)):FnOk P w K mg base CX0 (1+n+1) f fd ["tree","order","goes_ahead"] (Bm K (n+1)):=by
 refine F.ok Ep (λvs H Q E h=>?_) (λcdv A outer s H vs Q E hr h=>?_)
 . obtain⟨t,u,b,kvs,O,ps,rk,r,rfl,_⟩:=h;rfl
 obtain⟨t,u,b,kvs,O,ps,rk,r,rfl,hT,hd,hU,hr0,hN,hz,k⟩:=h;have hu:=C8 hr;have hq:=C7 hr;have hd':∀ q∈ps,rk q.1<rk q.2:=λq hq=>(hd q hq).2;obtain⟨a,ks,hv,ha,hk⟩:=hT.at_ r hr0;obtain⟨ua,rfl,hSu⟩:=hU.nm;rw[aj3 hd' r] at hz;rw[as5 hd' b r] at k
 with_reducible refine⟨_,(A2 (Ac (i:=3) Ep.nd ⋯ (by eq_refl) (Bh A1))
  (A2 (C9 A14 ⋯ (Aq (K:=K) hu (Al (Ux (K:=K) hu) (pv 0) (pv 1) (by ac_rfl))) (A8 (i:=4) Ep.nd ⋯ (by eq_refl))
  (A5 (Bv (Fs (K:=K) A0Z A37 A38 (mm Jb) (pv 3) (A0 (As C5 (hr.mono ∅) ⋯ (A0 (pv 0) (A0 (pv 4) (A0 (aw2 (pv 2)) A1)))) A1)))))
  (A2 (C0 (Kj (pv 2)) (A5 (Am (Ak (Ah (K:=K)) (Bh (A0 (pv 1) A1)) (pv 3)))) Ap)
  (A5 (Am (Ak (Ah (K:=K)) (pv 3) (Bh (A0 (pv 1) A1)))))))),?_⟩
 symm
 refine Bg nofun λf1 H1 hf1 e1 h1=>?_;have hT1:=hT.same e1
 symm
 refine Yl (Rd.of hT1.top) (show SqT K H1 ua ((kyT r).map kV) by rw[Ya];exact e1.seqT hSu) hv ?_;refine Go (SqL.of (e1 _ _ ha)) ?_;have hne:a≠f1:=ne_of_none ha hf1
 refine Ez (Aw (xs:=ks)) (λm σ H3=>∃ x4 zs,σ=[some (.ref t),some (.ref ua),some (.bl b),some (.ref f1),x4]/\Same H H3/\H3 f1=some (.lst zs)/\IsL K H3 ((((G3 ps r).take m).map λc=>trn ps (rk c+1) (!b) c).flatten.map nmD) zs)
  ⟨_,[],rfl,e1,h1,.nil⟩ (λm σ' H' hP=>?_) (λm x σ' H3 hx hm hP=>?_) (fun σ' H3 hP=>?_)
 . obtain⟨_,_,_,e,_⟩:=hP;exact SqL.of (e _ _ ha)
 . obtain⟨x4,zs,rfl,e3,h3f,hzs⟩:=hP;obtain⟨xa,c,rfl,hc,hxa⟩:=(hk.same e3).at hx;have hcm:=A02 hc;have hcq:=hd _ (mem_kids.mp hcm)
   have hle:(((G3 ps r).take (m+1)).map λc=>szT ps (rk c+1) c).sum<=((G3 ps r).map λc=>szT ps (rk c+1) c).sum:=by
    conv=>rhs;rw[<- List.take_append_drop (m+1) (G3 ps r),List.map_append,List.sum_append]
    exact Nat.le_add_right _ _
   rw[A0I,hc] at hle
   have hsum:(((G3 ps r).take m++(some c).toList).map λc=>szT ps (rk c+1) c).sum=(((G3 ps r).take m).map λc=>szT ps (rk c+1) c).sum+szT ps (rk c+1) c:=by rw[List.map_append,List.sum_append];simp
   rw[hsum] at hle;have hzl:zs.length=(((G3 ps r).take m).map λc=>szT ps (rk c+1) c).sum:=by rw[<- IsL.length hzs,A00,Ma _ _ _ λc _=>Lj ps (rk c+1) (!b) c]
   symm
   refine⟨t,.ref xa,!b,kvs,O,ps,rk,c,rfl,hT.same e3,hd,Hs (SqT.of hxa),hcq.1,by have:=hcq.2;dsimp only at this;omega,by omega,λl4 ys4 H4 hl4 e4 h4 hy4=>?_⟩;have h4f:=e4 _ _ h3f
   symm
   have hy4l:ys4.length=szT ps (rk c+1) c:=by rw[<- IsL.length hy4,A00,Lj]
   refine T2 h4f h4 ∅ λH5 e5 h5=>?_;have fz5:=e5.fzL h4f
   symm
   refine⟨_,_,rfl,(e3.trans e4).off hf1 e5,h5,?_⟩;rw[A0I,hc,A0A,A3U,A0A];refine IsL.append (IsL.fz (e4.fz.trans fz5) _ _ (Cz _) hzs) ?_;have e:((some c).toList.map λc=>trn ps (rk c+1) (!b) c).flatten=trn ps (rk c+1) (!b) c:=A19 _;rw[e];exact IsL.fz fz5 _ _ (Cz _) hy4
 obtain⟨x4,zs,rfl,e3,h3f,hzs⟩:=hP;rw [<- hk.len,A0R] at hzs;have hzl:zs.length=((G3 ps r).map λc=>szT ps (rk c+1) c).sum:=by rw[<- IsL.length hzs,A00,Ma _ _ _ λc _=>Lj ps (rk c+1) (!b) c]
 symm
 cases b with
 |true=>
   symm
   refine Bg (A9 (by simp)) λl4 H4 hl4 e4 h4=>?_
   symm
   refine Nc h4 (e4 _ _ h3f) (A9 (by simp;omega)) λl5 H5 hl5 e5 h5=>?_;exact k l5 _ H5 ((e3.trans e4).free hl5) ((e3.trans e4).trans e5) h5 (.cons (Hs ((e3.trans e4).trans e5 |>.seqT hSu)) (IsL.mono (e4.trans e5) _ _ hzs))
 |false=>
   symm
   refine Bg (A9 (by simp)) λl4 H4 hl4 e4 h4=>?_
   symm
   refine Nc (e4 _ _ h3f) h4 (A9 (by simp;omega)) λl5 H5 hl5 e5 h5=>?_
   exact k l5 _ H5 ((e3.trans e4).free hl5) ((e3.trans e4).trans e5) h5 (by show IsL K H5 ((_++[r]).map nmD) _;rw[A0A];exact IsL.append (IsL.mono (e4.trans e5) _ _ hzs) (.one (Hs ((e3.trans e4).trans e5 |>.seqT hSu))))
theorem Kd {f:Addr}{fd:FuncData}(F:Fun K "listed_by_turns" "listed_by_turns" B4 f fd)(T:Gn mg)(hm:mg "listed_by_turns" = some (.ref f))(hk:W.keepIn K (.ref f)=true)(hb:Binds K fd ["tree","order","goes_ahead"] []):FnOk P w K mg base CX0 126 f fd ["tree","order","goes_ahead"] (Eo K):=by
 have h:∀ n:Nat,FnOk P w K mg base CX0 (1+n) f fd ["tree","order","goes_ahead"] (Bm K n):=λn=>by
  induction n with
  |zero=>exact FnOk.void Hh
  |succ n ih=>exact K8 F T n ⟨f,fd,ih,hm,hk,hb⟩
 exact h 125
def Sq:Nat->List Str->List Str->Prop
 |0,a,b=>a=b
 |k+1,a,b=>a=b\/∃ c,Sw a c/\Sq k c b
theorem Sw.sym {a b:List Str}(h:Sw a b):Sw b a:=by obtain⟨as,x,y,bs,h1,h2,h3⟩:=h;exact⟨as,y,x,bs,h2,h1,Ne.symm h3⟩
theorem Tp (k:Nat)(a:List Str):Sq k a a:=by
 cases k with
 |zero=>rfl
 |succ k=>exact .inl rfl
theorem af4 {a b:List Str} (h:Sw a b):Sq 1 a b:=.inr ⟨b,h,rfl⟩
theorem ad4:∀ {k m:Nat} {a b:List Str},Sq k a b->k<=m->Sq m a b
 |0,m,a,b,h,_=>by cases h;exact Tp m a
 |k+1,0,a,b,_,h=>absurd h (Nat.not_succ_le_zero _)
 |k+1,m+1,a,b,h,hm=>by
   rcases h with rfl|⟨c,h1,h2⟩
   . exact .inl rfl
   exact .inr ⟨c,h1,ad4 h2 (Nat.le_of_succ_le_succ hm)⟩
theorem Vl:∀ {j k:Nat} {a b c:List Str},Sq j a b->Sq k b c->Sq (j+k) a c
 |0,k,a,b,c,h,g=>by cases h;rw[A4B];exact g
 |j+1,k,a,b,c,h,g=>by
   rw[Nat.add_right_comm];rcases h with rfl|⟨d,h1,h2⟩
   . exact ad4 g ∅
   exact .inr ⟨d,h1,Vl h2 g⟩
theorem Mn {a b:List Str}(h:Sq 1 a b):Sq 1 b a:=by
 rcases h with rfl|⟨c,h1,rfl⟩
 . exact .inl rfl
 exact af4 h1.sym
theorem aB3:∀ {k:Nat} {a b:List Str},Sq k a b->a.Perm b->b.Nodup->Ek a b<=k:=by
 have self:∀ {b:List Str},b.Nodup->Ek b b=0:=fun {b} hn=>by rw[Dm];exact Kv (Lu hn)
 intro k
 induction k with
 |zero=>intro a b h hp hn;cases h;rw[self hn];exact A05 _
 |succ k ih=>
   intro a b h hp hn;rcases h with rfl|⟨c,⟨as,x,y,bs,rfl,rfl,hxy⟩,h2⟩
   . rw[self hn];exact A2C _
   have hpc:(as++y :: x :: bs).Perm b:=(A30 as (A3E ..)).trans hp;have h3:=ih h2 hpc hn;rw[Dm] at h3 ⊢;have hx:x∈b:=hp.mem_iff.mp (by simp);have hy:y∈b:=hp.mem_iff.mp (by simp)
   have hne:b.idxOf x≠b.idxOf y:=λe=>hxy (by obtain⟨f1,_,_⟩:=L2.idx_at hx;obtain⟨f3,_,_⟩:=L2.idx_at hy;rw[e,f3] at f1;exact(A12 f1).symm)
   by_cases c:b.idxOf y<b.idxOf x
   . have:=Ig (bs:=bs) c as;omega
   have:=Ig (bs:=bs) (show b.idxOf x<b.idxOf y by omega) as;omega
def Cn (R:List Str->List Str->Prop):List (List Str)->Prop
 |a :: b :: l=>R a b/\Cn R (b :: l)
 |_=>True
theorem Pf {R:List Str->List Str->Prop}:∀ {l m:List (List Str)},Cn R l->Cn R m->(∀ a∈l.getLast?,∀ b∈m.head?,R a b)->Cn R (l++m)
 | [],m,_,h,_=>h
 | [a],m,_,h,hr=>by
   cases m with
   |nil=>trivial
   |cons b m=>exact⟨hr a rfl b rfl,h⟩
 |a :: b :: l,m,h1,h2,hr=>⟨h1.1,Pf (l:=b :: l) h1.2 h2 λx hx=>hr x (by rw[List.getLast?_cons_cons];exact hx)⟩
theorem a45 {R:List Str->List Str->Prop}:∀ {l:List (List Str)},Cn R l->∀(i:Nat) a b,l[i]? = some a->l[i+1]? = some b->R a b
 | [],_,i,a,b,h,_=>by cases h
 | [x],_,i,a,b,_,h=>by cases i<;>cases h
 |x :: y :: l,h,0,a,b,h1,h2=>by cases h1;cases h2;exact h.1
 |x :: y :: l,h,i+1,a,b,h1,h2=>a45 h.2 i a b h1 h2
theorem Py {l m:List (List Str)}(h:m≠[]):(l++m).getLast? = m.getLast?:=by
 rw[List.getLast?_append]
 cases e:m.getLast? with
 |none=>exact absurd (List.getLast?_eq_none_iff.mp e) h
 |some x=>rfl
theorem Ut {R:List Str->List Str->Prop}:∀ {L:List (List (List Str))},(∀ s∈L,s≠[]/\Cn R s)->(∀ s∈L,∀ s'∈L,∀ a∈s.getLast?,∀ b∈s'.head?,R a b)->Cn R L.flatten/\(∀ b∈L.flatten.head?,∃ s∈L,b∈s.head?)/\∀ a∈L.flatten.getLast?,∃ s∈L,a∈s.getLast?
 | [],_,_=>⟨trivial,λb h=>(by cases h),λa h=>(by cases h)⟩
 |s :: L,h1,h2=>by
   obtain⟨q1,q2,q3⟩:=Ut (L:=L) (λt ht=>h1 t (A09 _ ht)) λt ht t' ht'=>h2 t (A09 _ ht) t' (A09 _ ht');obtain⟨hs,hc⟩:=h1 s A0E;rw[A3L];refine⟨Pf hc q1 λa ha b hb=>?_,λb hb=>?_,λa ha=>?_⟩
   . obtain⟨t,ht,hbt⟩:=q2 b hb;exact h2 s A0E t (A09 _ ht) a ha b hbt
   . refine⟨s,A0E,?_⟩
     cases s with
     |nil=>exact absurd rfl hs
     |cons x s=>exact hb
   cases e:L.flatten with
   |nil=>rw[e,A19] at ha;exact⟨s,A0E,ha⟩
   |cons x l=>rw[Py (by rw[e];simp)] at ha;obtain⟨t,ht,hat⟩:=q3 a ha;exact⟨t,A09 _ ht,hat⟩
theorem Vu {ps:List (List Str×List Str)}{rk:List Str->Nat}(hd:∀ q∈ps,rk q.1<rk q.2)(hw:∀ q∈ps,Sw q.1 q.2):∀ {n:Nat} {b:Bool} {r:List Str},rk r<n->Cn (Sq 3) (trn ps n b r)/\trn ps n b r≠[]/\(∀ x∈(trn ps n b r).head?,if b then x=r else Sq 1 r x)/\∀ x∈(trn ps n b r).getLast?,if b then Sq 1 r x else x=r
 |0,_,_,h=>absurd h (A29 _)
 |n+1,b,r,hn=>by
   have kid:∀ {c},c∈G3 ps r->Sq 1 c r/\rk c<n:=fun {c} hc=>by have h:=hd _ (mem_kids.mp hc);exact⟨af4 (hw _ (mem_kids.mp hc)),by dsimp only at h;omega⟩
   have ih:∀ b' c,c∈G3 ps r->_:=λb' c hc=>Vu hd hw (b:=b') (kid hc).2
   cases b with
   |true=>
     have fl:=Ut (R:=Sq 3) (L:=(G3 ps r).map (trn ps n false)) (λs hs=>by
      obtain⟨c,hc,rfl⟩:=A0F.mp hs
      exact⟨(ih false c hc).2.1,(ih false c hc).1⟩) λs hs s' hs' a ha b hb=>by obtain⟨c,hc,rfl⟩:=A0F.mp hs;obtain⟨c',hc',rfl⟩:=A0F.mp hs';have e1:a=c:=(ih false c hc).2.2.2 a ha;have e2:Sq 1 c' b:=(ih false c' hc').2.2.1 b hb;rw[e1];exact Vl (Vl (kid hc).1 (Mn (kid hc').1)) e2
     refine⟨?_,by simp[trn],λx hx=>(Option.some.inj hx).symm,λx hx=>?_⟩
     . show Cn (Sq 3) ([r]++((G3 ps r).map (trn ps n false)).flatten);refine Pf trivial fl.1 λa ha b hb=>?_;obtain⟨s,hs,hbs⟩:=fl.2.1 b hb;obtain⟨c,hc,rfl⟩:=A0F.mp hs;have e2:Sq 1 c b:=(ih false c hc).2.2.1 b hbs;have ea:a=r:=(A12 ha).symm;rw[ea];exact ad4 (Vl (Mn (kid hc).1) e2) ∅
     have hx':x∈([r]++((G3 ps r).map (trn ps n false)).flatten).getLast?:=hx;show Sq 1 r x
     cases e:((G3 ps r).map (trn ps n false)).flatten with
     |nil=>rw[e] at hx';have:x=r:=(A12 hx').symm;exact this ▸ Tp 1 x
     |cons y l=>rw[Py (by rw[e];simp)] at hx';obtain⟨s,hs,hxs⟩:=fl.2.2 x hx';obtain⟨c,hc,rfl⟩:=A0F.mp hs;have e1:x=c:=(ih false c hc).2.2.2 x hxs;rw[e1];exact Mn (kid hc).1
   |false=>
     have fl:=Ut (R:=Sq 3) (L:=(G3 ps r).map (trn ps n true)) (λs hs=>by
      obtain⟨c,hc,rfl⟩:=A0F.mp hs
      exact⟨(ih true c hc).2.1,(ih true c hc).1⟩) λs hs s' hs' a ha b hb=>by obtain⟨c,hc,rfl⟩:=A0F.mp hs;obtain⟨c',hc',rfl⟩:=A0F.mp hs';have e1:Sq 1 c a:=(ih true c hc).2.2.2 a ha;have e2:b=c':=(ih true c' hc').2.2.1 b hb;rw[e2];exact Vl (Vl (Mn e1) (kid hc).1) (Mn (kid hc').1)
     have ee:trn ps (n+1) false r=((G3 ps r).map (trn ps n true)).flatten++[r]:=rfl;refine⟨?_,by rw[ee];simp,λx hx=>?_,λx hx=>?_⟩
     . rw[ee];refine Pf fl.1 trivial λa ha b hb=>?_;obtain⟨s,hs,has⟩:=fl.2.2 a ha;obtain⟨c,hc,rfl⟩:=A0F.mp hs;have e1:Sq 1 c a:=(ih true c hc).2.2.2 a has;have eb:b=r:=(A12 hb).symm;rw[eb];exact ad4 (Vl (Mn e1) (kid hc).1) ∅
     . show Sq 1 r x;rw[ee] at hx
       cases e:((G3 ps r).map (trn ps n true)).flatten with
       |nil=>rw[e] at hx;have:x=r:=(A12 hx).symm;exact this ▸ Tp 1 x
       |cons y l=>
         have hx':x∈((G3 ps r).map (trn ps n true)).flatten.head?:=by rw[e] at hx ⊢;exact hx
         obtain⟨s,hs,hxs⟩:=fl.2.1 x hx';obtain⟨c,hc,rfl⟩:=A0F.mp hs;have e1:x=c:=(ih true c hc).2.2.1 x hxs;rw[e1];exact Mn (kid hc).1
     rw[ee,Py (by simp)] at hx;exact(A12 hx).symm
theorem Wc {a b:List Str}(hp:a.Perm b)(hn:b.Nodup)(h:Ek a b=0):a=b:=by
 rw [Dm] at h
 have pw:∀ {r:List Str},Tv b r=0->r.Nodup->(∀ x∈r,x∈b)->r.Pairwise λu v=>b.idxOf u<b.idxOf v:=fun {r}=>by
  induction r with
  |nil=>intro _ _ _;exact A2L
  |cons x t ih=>
    intro h hn hm;obtain⟨n1,n2⟩:=A13.mp hn;unfold Tv at h;have h1:(t.filter λy=>decide (b.idxOf y<b.idxOf x)).length=0:=by omega
    have h2:Tv b t=0:=by omega
    refine A1J.mpr ⟨λy hy=>?_,ih h2 n2 λz hz=>hm z (A09 _ hz)⟩
    have hno:¬ b.idxOf y<b.idxOf x:=λe=>by
     have:y∈t.filter λy=>decide (b.idxOf y<b.idxOf x):=A1H.mpr ⟨hy,A0H e⟩;rw[A0D.mp h1] at this
     cases this
    have hne:b.idxOf x≠b.idxOf y:=λe=>n1 (by obtain⟨f1,_,_⟩:=L2.idx_at (hm x A0E);obtain⟨f3,_,_⟩:=L2.idx_at (hm y (A09 _ hy));rw[e,f3] at f1;rw[<- A12 f1];exact hy)
    omega
 exact Z4 hp hn (pw h (hp.nodup_iff.mpr hn) λx hx=>hp.mem_iff.mp hx)
def aG8 (rows:List (List Str)):Prop:=∀(i:Nat) a b,rows[i]? = some a->rows[i+1]? = some b->1<=Ek a b/\Ek a b<=3
def J0 (K:W.Frag):Sp:=λvs H Q _=>∃ v ns ps,vs=[v]/\Is K H (hfD ns ps) v/\HalfW ns ps/\ns.length<=10/\cnt (Ad ps) ns<=720 /\
 ∀ l ys rows H',H l=none->Same H H'->H' l=some (.lst ys)->IsL K H' (rows.map nmD) ys->rows.Perm (ext (Ad ps) ns.length ns)->aG8 rows->Q (.ref l) H'
theorem Qy (o:List Str):∀ r:List Str,Tv o r<=r.length*r.length
 | []=>by simp[Tv]
 |x :: t=>by have ih:=Qy o t;have:=A1M (λy=>decide (o.idxOf y<o.idxOf x)) t;simp only[Tv,List.length_cons,Nat.add_mul,Nat.mul_add];omega
theorem Sd {f:Addr}{fd:FuncData}(F:Fun K "near_list" "near_list" Fd f fd)(T:Gn mg)(Bs:Fnd P w K mg base 14 "all_orders" ["half"] (Et K))(Cj:Fnd P w K mg base 2 "step_towards" ["order","goal"] (Ex K))(C5:Fnd P w K mg base 126 "listed_by_turns" ["tree","order","goes_ahead"] (Eo K)):FnOk P w K mg base CX0 127 f fd ["half"] (J0 K):=by
 refine F.ok Gr (λvs H Q E h=>?_) (λcdv A outer s H vs Q E hr h=>?_)
 . obtain⟨v,ns,ps,rfl,_⟩:=h;rfl
 obtain⟨v,ns,ps,rfl,hI,hW,h10,hcn,k⟩:=h;have hu:=C8 hr;have hq:=C7 hr;obtain⟨r0,hr0,_⟩:=Nr hW;have hpm:∀ {r},r∈ext (Ad ps) ns.length ns->r.Perm ns:=fun {r} h=>((Cv _ _ _ _ hW.nd rfl).mp h).1;have hOn:=L0 (Ad ps) ns.length ns hW.nd;obtain⟨O,hO⟩:∃ O,O=ext (Ad ps) ns.length ns:=⟨_,rfl⟩;have hOl:O.length=cnt (Ad ps) ns:=by rw[hO];rfl
 with_reducible refine⟨_,(A2 (Ac (i:=1) Gr.nd ⋯ (by eq_refl) (As Bs (hr.mono nofun) ⋯ (A0 (pv 0) A1)))
  (A2 (Ac (i:=2) Gr.nd ⋯ (by eq_refl) (Dv (Uv (K:=K) hr.hd hr.units) ⋯ T.b_dict PyProof.Rows.Boot.«dict» (A0 (Ba ["order"] [] [] ⋯ ⋯ ⋯ (Aq (K:=K) hu (pv 1)) (λ_ _ _ _=>(A8 (i:=0) (by with_unfolding_all (show(["order"]:List Str).Nodup;decide +kernel)) ⋯ (by eq_refl))) (Au nofun) (λ_ _ _ _=>Bn) (λ_ _ _ _=>(Bz (A0 (pv 0) (A0 (Bh A1) A1))))) A1)))
  (A2 (C9 A14 ⋯ (Aq (K:=K) hu (B9 (Oi (K:=K)) (pv 1) (Be A4) Cq)) (A8 (i:=3) Gr.nd ⋯ (by eq_refl))
  (A5 (Bv (Fs (K:=K) A0Z A1U A1V (mm Du) (Al (Ux (K:=K) hu) (pv 2) (As Cj (hr.mono nofun) ⋯ (A0 (pv 3) (A0 (Al (A6 (K:=K) hu) (pv 1) A4 (by ac_rfl)) A1))) (by ac_rfl)) (A0 (pv 3) A1)))))
  (A5 (Am (As C5 (hr.mono nofun) ⋯ (A0 (pv 2) (A0 (Al (A6 (K:=K) hu) (pv 1) A4 (by ac_rfl)) (A0 Hl A1))))))))),?_⟩
 symm
 refine⟨v,ns,ps,rfl,hI,hW,h10,hcn,λl1 ys1 H1 hl1 e1 h1 hT1=>?_⟩;rw[<- hO] at hT1 hr0 hOn;have hyl:ys1.length=O.length:=hT1.len.symm
 obtain⟨T,rfl⟩:∃ T,O=r0 :: T:=by
  cases O with
  |nil=>cases hr0
  |cons x T=>cases hr0;exact⟨T,rfl⟩
 symm
 refine Go (SqL.of h1) ?_
 refine Cu (Aw (xs:=ys1)) (λp m acc H2=>Same H1 H2/\∃ kvs,PrsT K H2 kvs acc/\kvs.map (·.1)=((r0 :: T).take m).map kyT/\(∀ kv∈kvs,∃ a,kv.2 = .ref a/\H2 a=some (.lst [])/\H1 a=none/\a≠p)/\(kvs.map (·.2)).Nodup)
  (λp H' hp' e' h'=>⟨e',[],rfl,rfl,λkv h=>(by cases h),.nil⟩) (λp m acc H2 hP=>SqL.of (hP.1 _ _ h1)) (λp m x acc H2 hp' hx hm hl hpa hP=>?_) (λp acc H2 hp' hpa hal hP=>?_)
 . obtain⟨e2,kvs,hpr,hks,hvs,hvn⟩:=hP;obtain⟨xa,c,rfl,hc,hxa⟩:=(hT1.same e2).at hx
   symm
   refine Bg nofun λb H3 hb3 e3 h3=>?_
   symm
   refine Bq (A9 (by simp)) λt H4 ht4 e4 h4=>?_;have e34:=e3.trans e4;have h4p:=e34 _ _ hpa;refine Fq ∅ hm hl h4p λH5 e5 h5=>?_;have hbp:b≠p:=Ne.symm (ne_of_none hpa hb3);have fz5:=e5.fzL h4p;have tk:∀ c xs,H4 c=some (.tup xs)->H5 c=some (.tup xs):=λc xs q=>e5 _ _ (ne_of q h4p (by intro z;cases z)) q;refine⟨(e2.trans e34).off hp' e5,kvs++[(kyT c,.ref b)],?_,?_,λkv hkv=>?_,?_⟩
   . exact PrsT.snoc (SqT.of (tk _ _ h4)) (by rw[Ya];exact tk _ _ (e34 _ _ hxa)) (PrsT.keep (λ_ _ q=>fz5.seq (e34.seqT q)) (λ_ _ q=>tk _ _ (e34 _ _ q)) hpr)
   . rw[A0A,hks,A0I,hc,A0A];rfl
   . rcases A0C.mp hkv with g|g
     . obtain⟨a,q1,q2,q3,q4⟩:=hvs kv g;exact⟨a,q1,e5 _ _ q4 (e34 _ _ q2),q3,q4⟩
     rw[A0X.mp g];exact⟨b,rfl,e5 _ _ hbp (e4 _ _ h3),e2.free hb3,hbp⟩
   rw[A0A,A2F];refine⟨hvn,by simp,λx hx y hy e=>?_⟩;rw[A0X.mp hy] at e;obtain⟨kv,hkv,rfl⟩:=A0F.mp hx;obtain⟨a,q1,q2,_⟩:=hvs kv hkv;rw[q1] at e
   cases e;rw[hb3] at q2
   cases q2
 obtain⟨e2,kvs,hpr,hks,hvs,hvn⟩:=hP;rw[hyl,A0R] at hks
 have hkl:kvs.length=(r0 :: T).length:=by have:=congrArg List.length hks;simpa using this
 symm
 refine aq2 hpa hpr ∅ ∅ λt H3 ht3 e3 h3=>?_;rw [aa2 (by rw[hks];exact List.Pairwise.map _ (λx y h e=>h (R6 e)) hOn)] at h3
 have val:∀ r∈r0 :: T,∃ a,Ee kvs (kyT r)=some (.ref a)/\H2 a=some (.lst [])/\H1 a=none:=λr hr=>by
  cases e:Ee kvs (kyT r) with
  |none=>exact absurd (by rw[hks];exact A0F.mpr ⟨r,hr,rfl⟩) (W9 e)
  |some v=>obtain⟨a,q1,q2,q3,_⟩:=hvs _ (Ko e);exact⟨a,by rw[show v = .ref a from q1],q2,q3⟩
 have inj:∀ r r' v,Ee kvs (kyT r)=some v->Ee kvs (kyT r')=some v->r=r':=λr r' v h1 h2=>by have i1:=Ko h1;have i2:=Ko h2;obtain⟨i,hi⟩:=A4H i1;obtain⟨j,hj⟩:=A4H i2;have hil:=(A01.mp hi).1;have:i=j:=(A3N (by rw[A00];exact hil) hvn).mp (by rw[A07,A07,hi,hj];rfl);subst this;rw[hi] at hj;exact R6 (congrArg Prod.fst (A12 hj))
 have e13:=e2.trans e3
 symm
 refine Ni (SqL.of (e13 _ _ h1)) λsl H4 hsl e4 h4=>?_;rw[Kr ∅] at h4;have e14:=e13.trans e4;have tr0:TrH H4 t kvs (r0 :: T) []:=⟨e4 _ _ h3,λr hr=>let ⟨a,q1,q2,_⟩:=val r hr;⟨a,[],q1,(e3.trans e4) _ _ q2,.nil⟩⟩
 have off:∀ r∈r0 :: T,∀ a,Ee kvs (kyT r)=some (.ref a)->H1 a=none/\a≠sl:=λr hr a ha=>by
  obtain⟨a',q1,q2,q3⟩:=val r hr;rw[q1] at ha
  cases ha;exact⟨q3,ne_of_none (e3 _ _ q2) hsl⟩
 symm
 refine Go (SqL.of h4) ?_
 refine Ez (Aw (xs:=ys1.drop 1)) (λm σ H5=>∃ x3 qs,σ=[some v,some (.ref l1),some (.ref t),x3]/\Same H1 H5/\H5 sl=some (.lst (ys1.drop 1))/\TrH H5 t kvs (r0 :: T) qs/\qs.map (·.1)=T.take m/\∀ q∈qs,q.2∈r0 :: T/\Ek q.2 r0<Ek q.1 r0/\Sw q.1 q.2)
  ⟨_,[],rfl,e14,h4,tr0,rfl,λq h=>(by cases h)⟩ (λm σ' H' hP=>?_) (λm x σ' H5 hx hm hP=>?_) (fun σ' H5 hP=>?_)
 . obtain⟨_,_,_,_,h,_⟩:=hP;exact SqL.of h
 . obtain⟨x3,qs,rfl,e5,h5s,tr,hqs,hqi⟩:=hP;have hT5:=hT1.same e5;rw[A3Y] at hx;obtain⟨xa,c,rfl,hc,hxa⟩:=hT5.at hx;have hcT:T[m]? = some c:=by rw[A4N] at hc;exact hc
   have hcm:=A02 hcT;obtain⟨y0,hy0,hy0a⟩:=hT5.get 0 r0 rfl;have m0:r0∈ext (Ad ps) ns.length ns:=hO ▸ A0E;have m1:c∈ext (Ad ps) ns.length ns:=hO ▸ A09 _ hcm;have hne:c≠r0:=λe=>(A13.mp hOn).1 (e ▸ hcm)
   symm
   refine Ej (e5 _ _ h1) (show atI ys1 ((0:Nat):Int)=some (.ref y0) from Av hy0) ?_
   symm
   refine⟨.ref xa,.ref y0,c,r0,rfl,Hs (SqT.of hxa),Hs (SqT.of hy0a),(hpm m1).trans (hpm m0).symm,(hpm m0).nodup_iff.mpr hW.nd,hne,by rw[(hpm m0).length_eq];exact h10,λas y z bs w H6 ec hlt e6 hw=>?_⟩;have hpar:as++z :: y :: bs∈r0 :: T:=hO ▸ X5 hW.nd (ec ▸ m1) m0 hlt;have hin:=Ig (bs:=bs) hlt as;rw[<- ec,<- Dm,<- Dm] at hin;obtain⟨wa,rfl,hSw⟩:=hw.nm;have tr6:=tr.same e6;obtain⟨a,zs,hv,ha,hk⟩:=tr6.at_ _ hpar;obtain⟨oa,osl⟩:=off _ hpar a hv
   have hzl:zs.length<=1000:=by
    rw[<- hk.len];have:(G3 qs (as++z :: y :: bs)).length<=qs.length:=by unfold G3;rw[List.length_map];exact List.length_filter_le _ _
    have:=congrArg List.length hqs;rw[A00,A0J] at this;rw[A0G] at hOl;omega
   symm
   refine Yl (Rd.of tr6.top) (show SqT K H6 wa ((kyT _).map kV) by rw[Ya];exact hSw) hv ?_
   symm
   refine L3 ha ∅ λH7 e7 h7=>?_
   symm
   refine⟨_,qs++[(c,as++z :: y :: bs)],rfl,(e5.trans e6).off oa e7,e7 _ _ (Ne.symm osl) (e6 _ _ h5s),⟨e7 _ _ (ne_of tr6.top ha (by intro z;cases z)) tr6.top,λr hr=>?_⟩,?_,λq hq=>?_⟩
   . rw[Yn]
     by_cases er:as++z :: y :: bs=r
     . subst er;rw[A10 rfl];exact⟨a,_,hv,h7,(hk.but ha e7).append (.one (e7 _ _ (ne_of (e6 _ _ hxa) ha (by intro z;cases z)) (e6 _ _ hxa)))⟩
     rw[A0W er,A19];obtain⟨a',zs',q1,q2,q3⟩:=tr6.at_ r hr;exact⟨a',zs',q1,e7 _ _ (λe=>er (inj _ _ _ hv (e ▸ q1))) q2,q3.but ha e7⟩
   . rw[A0A,hqs,A0I,hcT];rfl
   rcases A0C.mp hq with g|g
   . exact hqi q g
   rw[A0X.mp g];exact⟨hpar,by dsimp only;omega,as,y,z,bs,ec,rfl,λe=>by rw[e] at hlt;exact absurd hlt (Nat.lt_irrefl _)⟩
 obtain⟨x3,qs,rfl,e5,h5s,tr,hqs,hqi⟩:=hP;have hT5:=hT1.same e5;rw[A1G,hyl,A0G,A60,A0R] at hqs;obtain⟨y0,hy0,hy0a⟩:=hT5.get 0 r0 rfl
 have hub:∀ c∈r0 :: T,Ek c r0<=100:=λc hc=>by have mc:c∈ext (Ad ps) ns.length ns:=hO ▸ hc;rw[Dm];refine A0B (Qy r0 c) ?_;rw[(hpm mc).length_eq];exact A3D h10 h10
 have hcO:∀ q∈qs,q.1∈r0 :: T:=λq hq=>A09 _ (hqs ▸ A0F.mpr ⟨q,hq,rfl⟩)
 have hrk:∀ q∈qs,(λc=>100-Ek c r0) q.1<(λc=>100-Ek c r0) q.2:=λq hq=>by have:=(hqi q hq).2.1;have:=hub _ (hcO q hq);dsimp only;omega
 have hsz:=a89 (rk:=λc=>100-Ek c r0) hOn hqs λq hq=>⟨(hqi q hq).1,hrk q hq⟩;rw[A0G] at hOl
 symm
 refine Ej (e5 _ _ h1) (show atI ys1 ((0:Nat):Int)=some (.ref y0) from Av hy0) ?_
 symm
 refine⟨t,.ref y0,true,kvs,r0 :: T,qs,λc=>100-Ek c r0,r0,rfl,tr,λq hq=>⟨hcO q hq,hrk q hq⟩,Hs (SqT.of hy0a),List.mem_cons_self,by dsimp only;omega,by rw[hsz];omega,λl ys H6 hl e6 h6 hL6=>?_⟩;have hper:=al5 (rk:=λc=>100-Ek c r0) hOn hqs (λq hq=>⟨(hqi q hq).1,hrk q hq⟩) true;have hnear:=(Vu (rk:=λc=>100-Ek c r0) hrk (λq hq=>(hqi q hq).2.2) (n:=100-Ek r0 r0+1) (b:=true) (r:=r0) (A2Q (100-Ek r0 r0))).1;refine k l ys _ H6 ((e1.trans e5).free hl) ((e1.trans e5).trans e6) h6 hL6 (hO ▸ hper) λi a b ha hb=>?_;have ma:a∈ext (Ad ps) ns.length ns:=hO ▸ hper.mem_iff.mp (A02 ha);have mb:b∈ext (Ad ps) ns.length ns:=hO ▸ hper.mem_iff.mp (A02 hb);have hab:a.Perm b:=(hpm ma).trans (hpm mb).symm;have hbn:b.Nodup:=(hpm mb).nodup_iff.mpr hW.nd;refine⟨?_,aB3 (a45 hnear i a b ha hb) hab hbn⟩;rcases A4Q (Ek a b) with e0|e0
 . exfalso;have:a=b:=Wc hab hbn e0;subst this;have hl:=(A01.mp ha).1;have:=(A3N hl (hper.nodup_iff.mpr hOn)).mp (ha.trans hb.symm);omega
 exact e0
theorem aq8 {R:List Str->List Str->Prop}:∀ {l:List (List Str)},(∀(i:Nat) a b,l[i]? = some a->l[i+1]? = some b->R a b)->Cn R l
 | [],_=>trivial
 | [x],_=>trivial
 |x :: y :: l,h=>⟨h 0 x y rfl rfl,aq8 λi a b h1 h2=>h (i+1) a b h1 h2⟩
theorem av5 {R:List Str->List Str->Prop}(hs:∀ {a b},R a b->R b a){l:List (List Str)}(h:Cn R l):Cn R l.reverse:=aq8 λi a b h1 h2=>by have hi:=(A01.mp h2).1;rw[A3R] at hi;rw[List.getElem?_reverse ∅] at h1 h2;rw[show l.length-1-i=l.length-1-(i+1)+1 by omega] at h1;exact hs (a45 h _ b a h2 h1)
def Og (x:Str)(r:List Str)(s:Nat):List Str:=r.take s++[x]++r.drop s
def tfB (x:Str)(r:List Str)(k:Nat):List (List Str):=if k % 2=1 then((List.range (r.length+1)).map (Og x r)).reverse else(List.range (r.length+1)).map (Og x r)
def tfL (x:Str)(k:Nat)(L:List (List Str)):List (List Str):=((L.zipIdx k).map λq=>tfB x q.1 q.2).flatten
def tf:List Str->List (List Str)
 | []=>[[]]
 |x :: T=>tfL x 0 (tf T)
theorem Jo (x:Str)(k:Nat)(r:List Str)(L:List (List Str)):tfL x k (r :: L)=tfB x r k++tfL x (k+1) L:=by unfold tfL;rw[List.zipIdx_cons,List.map_cons,List.flatten_cons]
theorem Uz (x:Str)(r:List Str)(k:Nat):(tfB x r k).length=r.length+1:=by
 unfold tfB
 split
 . rw[A3R,A00,A1F]
 rw[A00,A1F]
theorem tfB_mem {x:Str}{r e:List Str}{k:Nat}:e∈tfB x r k↔∃ s,s<=r.length/\Og x r s=e:=by
 have:e∈tfB x r k↔e∈(List.range (r.length+1)).map (Og x r):=by
  unfold tfB
  split
  . exact List.mem_reverse
  exact Iff.rfl
 rw[this,A0F];constructor
 . rintro⟨s,hs,h⟩;exact⟨s,by have:=A1R.mp hs;omega,h⟩
 rintro⟨s,hs,h⟩;exact⟨s,A1R.mpr ∅,h⟩
theorem a62 (x:Str)(r:List Str)(s:Nat):(Og x r s).Perm (x :: r):=by
 unfold Og
 have h:(r.take s++[x]++r.drop s).Perm ([x]++(r.take s++r.drop s)):=by rw[A17];have:=(List.perm_append_comm (l₁:=r.take s) (l₂:=[x])).append_right (r.drop s);simpa only[List.append_assoc] using this
 rwa[A2O] at h
theorem Wh {x:Str}{r:List Str}(hx:x∉r)(s:Nat):(Og x r s).filter (λy=>!decide (y=x))=r:=by
 have keep:∀ l:List Str,(∀ y∈l,y∈r)->l.filter (λy=>!decide (y=x))=l:=λl hl=>A5S.mpr λy hy=>by have:y≠x:=λe=>hx (e ▸ hl y hy);simp[this]
 unfold Og;rw[List.filter_append,List.filter_append,keep _ (λy hy=>List.mem_of_mem_take hy),keep _ (λy hy=>List.mem_of_mem_drop hy),List.filter_cons_of_neg (by simp),List.filter_nil,List.append_nil,List.take_append_drop]
theorem Vz {x:Str}{r:List Str}(hx:x∉r){s:Nat}(hs:s<=r.length):(Og x r s).idxOf x=s:=by unfold Og;rw[A17,List.idxOf_append,A0W (λh=>hx (A1P h)),A5H,A4F,A0J];omega
theorem a82 {x:Str}{r:List Str}(hx:x∉r)(k:Nat):(tfB x r k).Nodup:=by
 have h:((List.range (r.length+1)).map (Og x r)).Nodup:=by refine List.pairwise_map.mpr (A4W (fun {a b} ha hb hab e=>hab ?_) List.nodup_range);have h1:=Vz hx (s:=a) (by have:=A1R.mp ha;omega);have h2:=Vz hx (s:=b) (by have:=A1R.mp hb;omega);rw[e,h2] at h1;exact h1.symm
 unfold tfB
 split
 . exact(List.reverse_perm _).nodup_iff.mpr h
 exact h
theorem aj5 {x:Str}{r:List Str}(hx:x∉r)(k:Nat):Cn Sw (tfB x r k):=by
 have h:Cn Sw ((List.range (r.length+1)).map (Og x r)):=aq8 λi a b h1 h2=>by
  have hi:=(A01.mp h2).1;rw[A00,A1F] at hi;rw[A07,List.getElem?_range ∅] at h1 h2
  cases h1
  cases h2;have hil:i<r.length:=by omega
  refine⟨r.take i,x,r[i],r.drop (i+1),?_,?_,λe=>hx (by rw[e];exact A2K _)⟩
  . unfold Og;rw[List.append_assoc,List.singleton_append,List.getElem_cons_drop]
  unfold Og;rw[List.take_add_one,List.getElem?_eq_getElem hil,List.append_assoc,List.append_assoc];rfl
 unfold tfB
 split
 . exact av5 Sw.sym h
 exact h
theorem Wq (x:Str)(r:List Str)(k:Nat):(tfB x r k).head? = some (if k % 2=1 then r++[x] else x :: r)/\(tfB x r k).getLast? = some (if k % 2=1 then x :: r else r++[x]):=by
 have h0:((List.range (r.length+1)).map (Og x r)).head? = some (x :: r):=by rw[List.head?_map,List.range_succ_eq_map,List.head?_cons];unfold Og;rfl
 have h1:((List.range (r.length+1)).map (Og x r)).getLast? = some (r++[x]):=by rw[A4K,A0A,List.getLast?_append];unfold Og;simp
 unfold tfB
 by_cases c:k % 2=1
 . rw[A10 c,A10 c,A10 c,List.head?_reverse,List.getLast?_reverse];exact⟨h1,h0⟩
 rw[A0W c,A0W c,A0W c];exact⟨h0,h1⟩
theorem ad7 {x:Str}:∀ {L:List (List Str)} (k:Nat),Cn Sw L->(∀ r∈L,x∉r)->Cn Sw (tfL x k L)
 | [],_,_,_=>trivial
 | [r],k,_,hx=>by rw[Jo];show Cn Sw (tfB x r k++[]);rw[A19];exact aj5 (hx r A0E) k
 |r :: r' :: L,k,h,hx=>by
   rw[Jo];refine Pf (aj5 (hx r A0E) k) (ad7 (k+1) h.2 λq hq=>hx q (A09 _ hq)) λa ha b hb=>?_;rw[(Wq x r k).2] at ha
   have hb':b∈(tfB x r' (k+1)).head?:=by
    rw[Jo] at hb
    cases e:tfB x r' (k+1) with
    |nil=>have:=Uz x r' (k+1);rw[e] at this;cases this
    |cons y l=>rw[e] at hb;exact hb
   rw[(Wq x r' (k+1)).1] at hb';obtain⟨as,u,v,bs,h1,h2,h3⟩:=h.1
   by_cases c:k % 2=1
   . rw[A10 c] at ha;rw[A0W ∅] at hb'
     cases ha
     cases hb';exact⟨x :: as,u,v,bs,by rw[h1];rfl,by rw[h2];rfl,h3⟩
   rw[A0W c] at ha;rw[A10 ∅] at hb'
   cases ha
   cases hb';exact⟨as,u,v,bs++[x],by rw[h1];simp,by rw[h2];simp,h3⟩
theorem Uc {x:Str}{e:List Str}:∀ {L:List (List Str)} {k:Nat},e∈tfL x k L->∃ r∈L,∃ s,s<=r.length/\Og x r s=e
 | [],_,h=>by cases h
 |r :: L,k,h=>by
   rw[Jo] at h;rcases A0C.mp h with q|q
   . exact⟨r,A0E,tfB_mem.mp q⟩
   obtain⟨r',h1,h2⟩:=Uc q;exact⟨r',A09 _ h1,h2⟩
theorem Tk {x:Str}:∀ {L:List (List Str)} (k:Nat),L.Nodup->(∀ r∈L,x∉r)->(tfL x k L).Nodup
 | [],_,_,_=>A2L
 |r :: L,k,hn,hx=>by obtain⟨n1,n2⟩:=A13.mp hn;rw[Jo,A2F];refine⟨a82 (hx r A0E) k,Tk (k+1) n2 λq hq=>hx q (A09 _ hq),λa ha b hb e=>?_⟩;obtain⟨s,_,h1⟩:=tfB_mem.mp ha;obtain⟨r',hr',s',_,h2⟩:=Uc hb;have d1:=Wh (hx r A0E) s;have d2:=Wh (hx r' (A09 _ hr')) s';rw[h1,e,<- h2,d2] at d1;exact n1 (d1 ▸ hr')
theorem Uh {x:Str}{n:Nat}:∀ {L:List (List Str)} (k:Nat),(∀ r∈L,r.length=n)->(tfL x k L).length=L.length*(n+1)
 | [],_,_=>by rw[A2N,Nat.zero_mul];rfl
 |r :: L,k,h=>by rw[Jo,A04,Uz,Uh (k+1) λq hq=>h q (A09 _ hq),h r A0E,A0G,A4Z,A5T,A4N]
theorem Lg:∀ {ns r:List Str},r∈tf ns->r.Perm ns
 | [],r,h=>by rw[A0X.mp h]
 |x :: T,r,h=>by obtain⟨q,hq,s,_,rfl⟩:=Uc h;exact(a62 x q s).trans ((Lg hq).cons x)
theorem R3:∀ {ns:List Str},ns.Nodup->(tf ns).Nodup/\Cn Sw (tf ns)/\(tf ns).length=fac ns.length
 | [],_=>⟨by simp[tf],trivial,rfl⟩
 |x :: T,h=>by obtain⟨n1,n2⟩:=A13.mp h;obtain⟨h1,h2,h3⟩:=R3 n2;have hx:∀ r∈tf T,x∉r:=λr hr q=>n1 ((Lg hr).mem_iff.mp q);refine⟨Tk 0 h1 hx,ad7 0 h2 hx,?_⟩;show(tfL x 0 (tf T)).length=_;rw[Uh (n:=T.length) 0 λr hr=>(Lg hr).length_eq,h3];rfl
def Dp (K:W.Frag)(N:Nat):Sp:=λvs H Q _=>∃ v ns,vs=[v]/\Is K H (nmD ns) v/\ns.Nodup/\ns.length<N/\ns.length<=7/\∀ l ys H',H l=none->Same H H'->H' l=some (.lst ys)->IsL K H' ((tf ns).map nmD) ys->Q (.ref l) H'
def Hu (K:W.Frag):Sp:=Dp K 11
theorem K6 {K:W.Frag}:∀ vs H Q E,¬ Dp K 0 vs H Q E:=by rintro vs H Q E ⟨_,_,_,_,_,h,_⟩;exact absurd h (A29 _)
theorem Yp {K:W.Frag} {H:Hp}:∀ {ds:List PyData} {vs:List V},IsL K H ds vs->IsL K H ds.reverse vs.reverse
 | [],vs,h=>by have:vs=[]:=A0D.mp (IsL.length h).symm;rw[this];exact .nil
 |d :: ds,vs,h=>by obtain⟨v,r,rfl,h1,h2⟩:=a42 h;rw[A4U,A4U];exact IsL.append (Yp h2) (.one h1)
theorem a99 {x:Str}{L:List (List Str)}{i:Nat}{r:List Str}(h:L[i]? = some r):tfL x 0 (L.take (i+1))=tfL x 0 (L.take i)++tfB x r i:=by have hi:=(A01.mp h).1;unfold tfL;rw[A0I,h,List.zipIdx_append,A0A,A3U];congr 1;rw[A0J,A3J ∅,A4B];show [tfB x r i].flatten=_;exact A19 _
theorem Oa {f:Addr}{fd:FuncData}(F:Fun K "to_and_fro" "to_and_fro" Cs f fd)(T:Gn mg)(n:Nat)(Fv:Fnd P w K mg base (1+n) "to_and_fro" ["names"] (Dp K n)):FnOk P w K mg base CX0 (1+n+1) f fd ["names"] (Dp K (n+1)):=by
 refine F.ok Er (λvs H Q E h=>?_) (λcdv A outer s H vs Q E hr h=>?_)
 . obtain⟨v,ns,rfl,_⟩:=h;rfl
 obtain⟨v,ns,rfl,hI,hnd,hN,h7,k⟩:=h;have hu:=C8 hr;have hq:=C7 hr;obtain⟨na,rfl,hS⟩:=hI.nm
 with_reducible refine⟨_,(A2 (C0 (Ab (Cb (K:=K) hq) (A7 (Aj (K:=K)) ⋯ T.b_len PyProof.Rows.Boot.«len» (A0 (pv 0) A1)) A4 (Ao _)) (A5 (Am (Bh (A0 (Bz A1) A1)))) Ap)
  (A2 (Ac (i:=1) Er.nd ⋯ (by eq_refl) (Bh A1))
  (A2 (C9 A14 ⋯ (Vp (K:=K) ⋯ T.b_enumerate (A0 (As Fv (hr.mono ∅) ⋯ (A0 (B9 (Oi (K:=K)) (pv 0) (Be A4) Cq) A1)) A1)) (Po (K:=K) (n:=2) ⋯ (Gp (A8 (i:=2) Er.nd ⋯ (by eq_refl)) (Gp (A8 (i:=3) Er.nd ⋯ (by with_unfolding_all exact A36 rfl)) Pr)))
  (A2 (De (i:=4) ["seat"] ["row","names"] [3,0] ⋯ ⋯ ⋯ Er.nd ⋯ ⋯ (Br ⋯ T.b_range (A0 (A7 (Aj (K:=K)) ⋯ T.b_len PyProof.Rows.Boot.«len» (A0 (pv 0) A1)) A1)) (λ_ _ _ _=>(A8 (i:=0) (by with_unfolding_all (show(["seat","row","names"]:List Str).Nodup;decide +kernel)) ⋯ (by eq_refl))) (Au nofun) (λ_ _ _ _=>Bn) (λ_ _ _ _=>(Ak (Ah (K:=K)) (Ak (Ah (K:=K)) (B9 (Oi (K:=K)) (pv 1) Cq (Be (pv 0))) (B9 (Oi (K:=K)) (pv 2) Cq (Be A4))) (B9 (Oi (K:=K)) (pv 1) (Be (pv 0)) Cq))))
  (A2 (C0 (Ab (Cb (K:=K) hq) (Ak Ip (pv 2) A4) A4 (Ao _)) (A5 (Bv (Qe (K:=K) A0Z PySem.F.slot_list_reverse PySem.F.type_list_reverse (mm Xt) (pv 4)))) Ap)
  (A5 (Bv (Fs (K:=K) A0Z A37 A38 (mm Jb) (pv 1) (A0 (pv 4) A1)))))))
  (A5 (Am (pv 1)))))),?_⟩
 symm
 refine Sz hI ?_
 symm
 refine Jt (λhz=>?_) (λhz=>?_)
 . have h0:ns=[]:=by injection hz with hz;exact A0D.mp ∅
   subst h0
   symm
   refine Bq nofun λt1 H1 ht1 e1 h1=>?_
   symm
   refine Bg (A9 (by simp)) λl2 H2 hl2 e2 h2=>?_;exact k l2 _ H2 (e1.free hl2) (e1.trans e2) h2 (.one (Hs (SqT.of (e2 _ _ h1))))
 obtain⟨x,T,rfl⟩:∃ x T,ns=x :: T:=by
  cases ns with
  |nil=>exact absurd rfl hz
  |cons x T=>exact⟨x,T,rfl⟩
 rw[A0G] at hN h7;obtain⟨hxT,hnT⟩:=A13.mp hnd;have hfl:=(R3 hnT).2.2;have hfac:(tf T).length<=720:=by rw[hfl];exact A0B (Wf (show T.length<=6 by omega)) nofun
 symm
 refine Bg nofun λf1 H1 hf1 e1 h1=>?_
 symm
 refine Xv (e1.seqT hS) λp2 H2 e2 h2=>?_;rw[Kr ∅] at h2
 symm
 refine⟨.ref p2,T,rfl,Hs h2,hnT,by omega,by omega,λl3 ys3 H3 hl3 e3 h3 hL3=>?_⟩;have hy3:ys3.length=(tf T).length:=by rw[<- IsL.length hL3,A00]
 have e13:=(e1.trans e2).trans e3
 refine Rq (SqL.of h3) (λi σ H4=>∃ x3 x4 x5 zs,σ=[some (.ref na),some (.ref f1),x3,x4,x5]/\Same H H4/\H4 l3=some (.lst ys3)/\IsL K H4 ((tf T).map nmD) ys3/\H4 f1=some (.lst zs)/\IsL K H4 ((tfL x 0 ((tf T).take i)).map nmD) zs)
  ⟨_,_,_,[],rfl,e13,h3,hL3,e3 _ _ (e2 _ _ h1),.nil⟩ (λi σ' H' hP=>?_) (λi y σ' H4 H5 hy hP e5=>?_) (fun σ' H4 hP=>?_)
 . obtain⟨_,_,_,_,_,_,h,_⟩:=hP;exact SqL.of h
 . obtain⟨x3,x4,x5,zs,rfl,e4,h4l,hT4,h4f,hZ4⟩:=hP;have hil:i<ys3.length:=(A01.mp hy).1;obtain⟨dr,hdr,hIr⟩:=IsL.get (IsL.mono e5 _ _ hT4) hy;rw[A07] at hdr;obtain⟨r,hro,rfl⟩:=A42.mp hdr;have hrl:r.length=T.length:=(Lg (A02 hro)).length_eq
   have hzl:zs.length<=7200:=by rw[<- IsL.length hZ4,A00,Uh (n:=T.length) 0 λq hq=>(Lg (A1P hq)).length_eq,A0J];exact A0B (A3D (show _<=720 by omega) (show T.length+1<=10 by omega)) nofun
   obtain⟨ra,rfl,hSr⟩:=hIr.nm;have e45:=e4.trans e5;have hS5:=e45.seqT hS
   symm
   refine Sz (Hs hS5) ?_;rw[A0G]
   symm
   refine Gq ∅ ?_;refine Cu Ax (λp m acc H6=>Same H5 H6/\IsL K H6 (((List.range m).map (Og x r)).map nmD) acc) (λp H' hp' e' h'=>⟨e',.nil⟩) (λ_ _ _ _ _=>trivial) (λp m z acc H6 hp' hz' hm hl hpa hP=>?_) (λp acc H6 hp' hpa hal hP=>?_)
   . obtain⟨e6,hA6⟩:=hP;obtain⟨rfl,hmn⟩:=Cp hz'
     have c1:Lv (r.map V.str) none (some (0+((m:Nat):Int)))=(r.take m).map V.str:=by rw[Ht ∅,<- A3M,show(0+((m:Nat):Int)).toNat=m by omega]
     have c2:Lv ((x :: T).map V.str) none (some 1)=[V.str x]:=by rw[Ht ∅];rfl
     have c3:Lv (r.map V.str) (some (0+((m:Nat):Int))) none=(r.drop m).map V.str:=by rw[Kr ∅,<- A32,show(0+((m:Nat):Int)).toNat=m by omega]
     symm
     refine Xv (e6.seqT hSr) λp7 H7 e7 h7=>?_;rw[c1] at h7
     symm
     refine Xv ((e6.trans e7).seqT hS5) λp8 H8 e8 h8=>?_;rw[c2] at h8
     symm
     refine Pa (e8.seqT h7) h8 (A9 (by simp;omega)) λp9 H9 e9 h9=>?_
     symm
     refine Xv (((e6.trans e7).trans (e8.trans e9)).seqT hSr) λp10 H10 e10 h10=>?_;rw[c3] at h10
     symm
     refine Pa (e10.seqT h9) h10 (A9 (by simp;omega)) λp11 H11 e11 h11=>?_;have e611:=(e7.trans (e8.trans e9)).trans (e10.trans e11);have hpa11:=e611 _ _ hpa;refine Fq (by rw[A00,A1F];omega) hm hl hpa11 λH12 e12 h12=>?_;have fz12:=e12.fzL hpa11;refine⟨(e6.trans e611).off hp' e12,?_⟩;rw[A4K,A0A,A0A];refine IsL.append (IsL.fz (e611.fz.trans fz12) _ _ (Cz _) hA6) (.one ((Hs ?_).nm_fz fz12));unfold Og;rw[A0A,A0A];exact h11
   obtain⟨e6,hA6⟩:=hP;rw[A00,A1F,show(((T.length+1:Nat):Int)).toNat=r.length+1 by omega] at hA6;have hp5:H p=none:=e45.free hp';walk_at "rq"
   with_reducible refine Sa (fun σ' H'=>∃ ac,σ'=[some (.ref na),some (.ref f1),some (.int ((i:Nat):Int)),some (.ref ra),some (.ref p)]/\Same H5 H'/\H' p=some (.lst ac)/\IsL K H' ((tfB x r i).map nmD) ac) (λN hN=>?_) (fun σ1 H7 hM=>?_)
   . symm
     refine Jt (λhc=>?_) (λhc=>?_)
     . symm
       refine Z5 hpa λH7 e7 h7=>?_
       symm
       refine hN _ _ ⟨_,rfl,e6.off hp' e7,h7,?_⟩;have hodd:i % 2=1:=by injection hc with hc;omega
       unfold tfB;rw[A10 hodd,List.map_reverse];exact Yp (IsL.fz (e7.fzL hpa) _ _ (Cz _) hA6)
     symm
     refine hN _ _ ⟨_,rfl,e6,hpa,?_⟩;have hev:¬ i % 2=1:=λe=>hc (by rw[show((i:Nat):Int) % 2=1 by omega]);unfold tfB;rw[A0W hev];exact hA6
   obtain⟨ac,rfl,e7,h7,hA7⟩:=hM;have e57:=e5.trans e7;have h7f:=e57 _ _ h4f;have hacl:ac.length=T.length+1:=by rw[<- IsL.length hA7,A00,Uz,hrl]
   symm
   refine T2 h7f h7 ∅ λH8 e8 h8=>?_;have fz8:=e8.fzL h7f
   symm
   refine⟨_,_,_,_,rfl,(e4.trans e57).off hf1 e8,e8 _ _ (λz=>?_) (e57 _ _ h4l),IsL.fz (e57.fz.trans fz8) _ _ (Cz _) hT4,h8,?_⟩
   . exact absurd (e2.free hl3) (by rw[z,h1];exact λq=>(nomatch q))
   rw[a99 hro,A0A];exact IsL.append (IsL.fz (e57.fz.trans fz8) _ _ (Cz _) hZ4) (IsL.fz fz8 _ _ (Cz _) hA7)
 obtain⟨x3,x4,x5,zs,rfl,e4,h4l,hT4,h4f,hZ4⟩:=hP
 symm
 rw[hy3,A0R] at hZ4;exact k f1 zs H4 hf1 e4 h4f hZ4
theorem R7 {f:Addr}{fd:FuncData}(F:Fun K "to_and_fro" "to_and_fro" Cs f fd)(T:Gn mg)(hm:mg "to_and_fro" = some (.ref f))(hk:W.keepIn K (.ref f)=true)(hb:Binds K fd ["names"] []):FnOk P w K mg base CX0 12 f fd ["names"] (Hu K):=by
 have h:∀ n:Nat,FnOk P w K mg base CX0 (1+n) f fd ["names"] (Dp K n):=λn=>by
  induction n with
  |zero=>exact FnOk.void K6
  |succ n ih=>exact Oa F T n ⟨f,fd,ih,hm,hk,hb⟩
 exact h 11
def OrO (O:List (List Str)):Prop:=∀ r∈O,r.length<=10/\(∀ z∈r,Rf z=true)/\r.Nodup
def swA (c:List Str)(j:Nat):List Str:=c.take j++((c.drop (j+1)).take 1++((c.drop j).take 1++c.drop (j+2)))
theorem Zl (as bs:List Str)(x y:Str):swA (as++x :: y :: bs) as.length=as++y :: x :: bs:=by unfold swA;rw[A2T,A20,<- A33,A20,<- A33,A20];rfl
theorem ad8 {c:List Str}(hn:c.Nodup){j:Nat}(hj:j+1<c.length):Sw c (swA c j):=by
 obtain⟨as,bs,ec,ea⟩:=L4 (A03 (show j<c.length by omega)) (A03 hj)
 have ne:c[j]≠c[j+1]:=λe=>by have:=(A2A hn).mp e;omega
 generalize c[j]=x at ec ne;generalize c[j+1]=y at ec ne;exact⟨as,x,y,bs,ec,by rw[ec,<- ea];exact Zl as bs x y,ne⟩
theorem as6 {c r:List Str}(h:Sw c r):∃ j,j+1<c.length/\r=swA c j:=by obtain⟨as,x,y,bs,rfl,rfl,_⟩:=h;exact⟨as.length,by simp,(Zl as bs x y).symm⟩
def nbs (c:List Str):List (List Str):=(List.range (c.length-1)).map (swA c)
def nbO (O:List (List Str))(c:List Str):List (List Str):=(nbs c).filter λr=>decide (r∈O)
theorem af7 {O:List (List Str)}{c r:List Str}(hn:c.Nodup):r∈nbO O c↔r∈O/\Sw c r:=by
 unfold nbO nbs;rw[A1H,A0F,A49];constructor
 . rintro⟨⟨j,hj,rfl⟩,h⟩;exact⟨h,ad8 hn (by have:=A1R.mp hj;omega)⟩
 rintro⟨h,hs⟩;obtain⟨j,hj,e⟩:=as6 hs;exact⟨⟨j,A1R.mpr ∅,e.symm⟩,h⟩
theorem Sw.perm {a b:List Str}(h:Sw a b):b.Perm a:=by obtain⟨as,x,y,bs,rfl,rfl,_⟩:=h;exact A30 as (A3E ..)
structure NrH (K:W.Frag)(H:Hp)(n:Addr)(kvs:List (List Key×V))(O:List (List Str)):Prop where
 top:H n=some (.dT kvs)
 len:kvs.length=O.length
 at_:∀ r∈O,∃ a zs,Ee kvs (kyT r)=some (.ref a)/\H a=some (.lst zs)/\IsL K H ((nbO O r).map nmD) zs
theorem NrH.same {K:W.Frag}{H H':Hp}{n:Addr}{kvs:List (List Key×V)}{O:List (List Str)}(h:NrH K H n kvs O)(e:Same H H'):NrH K H' n kvs O:=
 ⟨e _ _ h.top,h.len,λr hr=>let ⟨a,zs,h1,h2,h3⟩:=h.at_ r hr;⟨a,zs,h1,e _ _ h2,IsL.mono e _ _ h3⟩⟩
theorem Vq {rows:List (List Str)}(h:∀ r∈rows,∀ z∈r,Rf z=true):PyData.canLayAll0 (rows.map nmD)=true:=by have e:(PyData.list (rows.map nmD)).canLay0=true:=En _ (by simp only[Bu];exact Fi _ rows λr hr=>(Gu (h r hr)).1);simpa only[PyData.canLay0] using e
theorem af8 (rows:List (List Str))(r:List Str):((rows.map nmD).any λe=>PyData.eqv e (nmD r))=decide (r∈rows):=by
 rw[List.any_map,A3I,A2B,A49];constructor
 . rintro⟨x,hx,h⟩;rw[Function.comp_apply,Ou,A49] at h;exact h ▸ hx
 intro h;exact⟨r,h,by rw[Function.comp_apply,Ou,A49]⟩
theorem Z3 {K:W.Frag} {H:Hp}:∀ {rows:List (List Str)} {ys:List V},Tps H rows ys->IsL K H (rows.map nmD) ys
 | [],ys,h=>by have:ys=[]:=A0D.mp h.len.symm;rw [this];exact .nil
 |r :: rows,ys,h=>by
   cases ys with
   |nil=>exact absurd h.len (by simp)
   |cons y ys=>
     obtain⟨a,h1,h2⟩:=h.get 0 r rfl
     cases h1;exact .cons (Hs (SqT.of h2)) (Z3 ⟨by have:=h.len;simpa using this,λi r' hr'=>h.get (i+1) r' hr'⟩)
theorem ac7 {K:W.Frag}{H4 H5:Hp}{n p':Addr}{O:List (List Str)}{kvs:List (List Key×V)}{m:Nat}{c:List Str}{acc:List V}(hOn:O.Nodup)(hks:kvs.map (·.1)=(O.take m).map kyT)(hc:O[m]? = some c)(h2:H4 n=some (.dT kvs))(e5:ExtBut n H4 H5)(hpa:H4 p'=some (.lst acc))(hB:IsL K H4 ((nbO O c).map nmD) acc)
  (hat:∀ r∈O.take m,∃ a zs,Ee kvs (kyT r)=some (.ref a)/\H4 a=some (.lst zs)/\IsL K H4 ((nbO O r).map nmD) zs):(Gx kvs (kyT c) (.ref p')).map (·.1)=(O.take (m+1)).map kyT/\∀ r∈O.take (m+1),∃ a zs,Ee (Gx kvs (kyT c) (.ref p')) (kyT r)=some (.ref a)/\H5 a=some (.lst zs)/\IsL K H5 ((nbO O r).map nmD) zs:=by
 have fz5:Fz H4 H5:=W1 e5 λxs q=>by rcases q with q|⟨o,q⟩<;>(rw[h2] at q;cases q)
 have nl:∀ {b:Addr} {zs:List V},H4 b=some (.lst zs)->H5 b=some (.lst zs):=λq=>e5 _ _ (ne_of q h2 (by intro z;cases z)) q
 have hno:Ee kvs (kyT c)=none:=by
  cases e:Ee kvs (kyT c) with
  |none=>rfl
  |some v=>exfalso;have:=Zq e;rw[hks] at this;obtain⟨r,hr,hk⟩:=A0F.mp this;rw[R6 hk] at hr;obtain⟨i,hi⟩:=A4H hr;have hil:=(A01.mp hi).1;rw[A0J] at hil;rw[A2D ∅] at hi;have:=(A3N ∅ hOn).mp (hi.trans hc.symm);omega
 refine⟨?_,λr hr=>?_⟩
 . rw[Js _ hno,A0A,hks,A0I,hc,A0A];rfl
 rw[A0I,hc] at hr
 by_cases er:r=c
 . subst er;exact⟨p',acc,by rw[Mb,A10 rfl],nl hpa,IsL.fz fz5 _ _ (Cz _) hB⟩
 have hr':r∈O.take m:=(List.mem_append.mp hr).resolve_right λg=>er (by simpa using g);obtain⟨a,zs,q1,q2,q3⟩:=hat r hr';exact⟨a,zs,by rw[Mb,A0W λe=>er (R6 e)];exact q1,nl q2,IsL.fz fz5 _ _ (Cz _) q3⟩
def Ct (K:W.Frag):Sp:=λvs H Q _=>∃ l ys O,vs=[.ref l]/\H l=some (.lst ys)/\Tps H O ys/\OrO O/\O.Nodup/\O.length<=1000/\∀ n kvs H',H n=none->Same H H'->NrH K H' n kvs O->Q (.ref n) H'
theorem Ja {f:Addr}{fd:FuncData}(F:Fun K "orders_by_one_swap" "orders_by_one_swap" B2 f fd)(T:Gn mg)(Hg:Fnd P w K mg base 1 "swapped" ["order","place"] (Jr K)):FnOk P w K mg base CX0 2 f fd ["orders"] (Ct K):=by
 refine F.ok Bp (λvs H Q E h=>?_) (λcdv A outer s H vs Q E hr h=>?_)
 . obtain⟨l,ys,O,rfl,_⟩:=h;rfl
 obtain⟨l,ys,O,rfl,hl,hT,hO,hOn,h1000,k⟩:=h;have hu:=C8 hr;have hq:=C7 hr;have hyl:=hT.len;have hlay:=Vq λr hr=>(hO r hr).2.1
 with_reducible refine⟨_,(A2 (Ac (i:=1) Bp.nd ⋯ (by eq_refl) a92)
  (A2 (C9 A14 ⋯ (Aq (K:=K) hu (pv 0)) (A8 (i:=2) Bp.nd ⋯ (by with_unfolding_all exact A36 rfl))
  (A2 (De (i:=3) ["place"] ["order"] [2] ⋯ ⋯ ⋯ Bp.nd ⋯ ⋯ (Br ⋯ T.b_range (A0 (Ak G2 (A7 (Aj (K:=K)) ⋯ T.b_len PyProof.Rows.Boot.«len» (A0 (pv 2) A1)) A4) A1)) (λ_ _ _ _=>(A8 (i:=0) (by with_unfolding_all (show(["place","order"]:List Str).Nodup;decide +kernel)) ⋯ (by eq_refl))) (Au nofun) (λ_ _ _ _=>Bn) (λ_ _ _ _=>(As Hg (hr.mono nofun) ⋯ (A0 (pv 1) (A0 (pv 0) A1)))))
  (A5 (Im hu (pv 1) (pv 2) (Ba ["other"] ["orders"] [0] ⋯ ⋯ ⋯ (Aq (K:=K) hu (pv 3)) (λ_ _ _ _=>(A8 (i:=0) (by with_unfolding_all (show(["other","orders"]:List Str).Nodup;decide +kernel)) ⋯ (by eq_refl))) (Au nofun) (λ_ _ _ _=>(Fm (Ab (Km (K:=K) hq) (pv 0) (pv 1) ⋯))) (λ_ _ _ _=>(pv 0))) ⋯))))
  (A5 (Am (pv 1))))),?_⟩
 symm
 refine ak1 λn H1 hn1 e1 h1=>?_
 symm
 refine Go (SqL.of (e1 _ _ hl)) ?_
 refine Ez (Aw (xs:=ys)) (λm σ H2=>∃ x2 x3 kvs,σ=[some (.ref l),some (.ref n),x2,x3]/\Same H H2/\H2 n=some (.dT kvs)/\kvs.map (·.1)=(O.take m).map kyT/\∀ r∈O.take m,∃ a zs,Ee kvs (kyT r)=some (.ref a)/\H2 a=some (.lst zs)/\IsL K H2 ((nbO O r).map nmD) zs)
  ⟨_,_,[],rfl,e1,h1,rfl,λr hr=>(by cases hr)⟩ (λm σ' H' hP=>?_) (λm x σ' H2 hx hm hP=>?_) (fun σ' H2 hP=>?_)
 . obtain⟨_,_,_,_,e,_⟩:=hP;exact SqL.of (e _ _ hl)
 . obtain⟨x2,x3,kvs,rfl,e2,h2,hks,hat⟩:=hP;have hT2:=hT.same e2;obtain⟨xa,c,rfl,hc,hxa⟩:=hT2.at hx;have hcO:=hO c (A02 hc);have hkl:kvs.length<=m:=by have:=congrArg List.length hks;rw[A00,A00,A0J] at this;omega
   symm
   rw[A00];refine Gq ∅ ?_;refine Cu Ax (λp i acc H3=>Same H2 H3/\IsL K H3 (((List.range i).map (swA c)).map nmD) acc) (λp H' hp' e' h'=>⟨e',.nil⟩) (λ_ _ _ _ _=>trivial) (λp i z acc H3 hp' hz' hi hl' hpa hP=>?_) (λp acc H3 hp' hpa hal hP=>?_)
   . obtain⟨e3,hA⟩:=hP;obtain⟨rfl,hin⟩:=Cp hz';obtain⟨as,bs,ec,eas⟩:=L4 (A03 (show i<c.length by omega)) (A03 (show i+1<c.length by omega));generalize c[i]=y1 at ec;generalize c[i+1]=y2 at ec
     symm
     refine⟨.ref xa,as,y1,y2,bs,by rw[eas];simp,by rw[<- ec];exact Hs (SqT.of (e3 _ _ hxa)),by rw[<- ec];exact hcO.1,λw H4 e4 hw=>?_⟩;have h4p:=e4 _ _ hpa;refine Fq (by rw[A00,A1F];omega) hi hl' h4p λH5 e5 h5=>?_;have fz5:=e5.fzL h4p;refine⟨(e3.trans e4).off hp' e5,?_⟩;rw[A4K,A0A,A0A];refine IsL.append (IsL.fz (e4.fz.trans fz5) _ _ (Cz _) hA) (.one ?_);have esw:swA c i=as++y2 :: y1 :: bs:=by rw[ec,<- eas];exact Zl as bs y1 y2
     rw[esw];exact hw.nm_fz fz5
   obtain⟨e3,hA⟩:=hP;rw[A00,A1F,show(((c.length:Nat):Int)-1).toNat=c.length-1 by omega] at hA;have hal':(nbs c).length=acc.length:=by have:=IsL.length hA;rw[A00] at this;exact this
   symm
   refine Go (SqL.of hpa) ?_;refine Jl (K:=K) (Aw (xs:=acc)) (nbs c) hal' (λr=>decide (r∈O)) nmD (λ_=>Rj _) (by unfold nbs at hal';rw[List.length_map,List.length_range] at hal';omega) (λH' e=>SqL.of (e _ _ hpa)) (λi r v H4 R R' hr' hv e4 hR hR'=>?_) (λp' acc' H4 hp4 e4 hpa' hB=>?_)
   . obtain⟨dr,hdr,hIr⟩:=IsL.get (IsL.mono e4 _ _ hA) hv;have hdr':((nbs c).map nmD)[i]? = some dr:=hdr;rw[A07,hr'] at hdr'
     cases hdr';have hrm:=A02 hr';unfold nbs at hrm;obtain⟨j,hj,rfl⟩:=A0F.mp hrm;have hsw:=(ad8 hcO.2.2 (j:=j) (by have:=A1R.mp hj;omega)).perm;have fr:=Qw (λz hz=>hcO.2.1 z (hsw.mem_iff.mp hz)) (by rw[hsw.length_eq];omega);have e24:=e3.trans e4
     symm
     refine aw6 hIr (.inl (Is.of_lst (SqL.of (e24 _ _ (e2 _ _ hl))) (Z3 (hT2.same e24)))) hlay (En _ fr.plain) (A0B fr.deep nofun) ?_;rw[af8]
     symm
     by_cases hc':swA c j∈O
     . rw[A0H hc',A10 rfl]
       symm
       exact hR (A0H hc') _ _ (.refl _) hIr
     rw[A11 hc',A0W nofun];exact hR' (A11 hc') _ (.refl _)
   have e24:=e3.trans e4
   symm
   refine aj8 (e24 _ _ h2) (show H4 xa=some (.tup ((kyT c).map kV)) by rw[Ya];exact e24 _ _ hxa) ∅ λH5 e5 h5=>?_
   symm
   obtain⟨n1,n2⟩:=ac7 hOn hks hc (e24 _ _ h2) e5 hpa' hB λr hr=>by obtain⟨a,zs,q1,q2,q3⟩:=hat r hr;exact⟨a,zs,q1,e24 _ _ q2,IsL.mono e24 _ _ q3⟩
   exact⟨_,_,_,rfl,(e2.trans e24).off hn1 e5,h5,n1,n2⟩
 obtain⟨x2,x3,kvs,rfl,e2,h2,hks,hat⟩:=hP;rw[<- hyl,A0R] at hat hks
 symm
 exact k n kvs H2 hn1 e2 ⟨h2,by have:=congrArg List.length hks;rwa[A00,A00] at this,hat⟩
def FP (O rs:List (List Str)):Prop:=rs.Nodup/\(∀ r∈rs,r∈O)/\Cn Sw rs/\rs.length=O.length
def HP (O rows:List (List Str)):Prop:=∃ t,FP O (rows++t)
theorem az8 {R:List Str->List Str->Prop}{l m:List (List Str)}{a b:List Str}(h:Cn R (l++b :: m))(ha:l[l.length-1]? = some a):R a b:=by have hi:=(A01.mp ha).1;refine a45 h (l.length-1) a b (by rw[A18 hi];exact ha) ?_;rw[show l.length-1+1=l.length by omega,A0T (A05 _),A2H];rfl
theorem Vj {R:List Str->List Str->Prop}{l:List (List Str)}{a b:List Str}(h:Cn R l)(ha:l[l.length-1]? = some a)(hr:R a b):Cn R (l++[b]):=Pf h trivial λx hx y hy=>by
 rw[A3P,ha] at hx
 cases hx
 cases hy;exact hr
theorem aF9 {O rows:List (List Str)} {a:List Str} (ha:rows[rows.length-1]? = some a) (hn:a.Nodup) (h:HP O rows) (hl:rows.length≠O.length):∃ r∈nbO O a,r∉rows/\HP O (rows++[r]):=by
 obtain⟨t,h1,h2,h3,h4⟩:=h
 cases t with
 |nil=>rw[A19] at h4;exact absurd h4 hl
 |cons r t=>
   refine⟨r,(af7 hn).mpr ⟨h2 r (by simp),az8 h3 ha⟩,λhr=>?_,t,?_⟩
   . exact(A2F.mp h1).2.2 r hr r A0E rfl
   rw[A17];exact⟨h1,h2,h3,h4⟩
def Bt (K:W.Frag)(N:Nat):Sp:=λvs H Q _=>∃(n b:Addr) (kvs:List (List Key×V)) (O rows:List (List Str)) (ys:List V),vs=[.ref n,.ref b]/\NrH K H n kvs O/\OrO O/\O.length<=100/\H b=some (.lst ys)/\IsL K H (rows.map nmD) ys/\rows.Nodup/\rows≠[]/\(∀ r∈rows,r∈O)/\Cn Sw rows/\O.length<N+rows.length /\
 (¬ HP O rows->∀ H',Same H H'->Q .non H')/\∀ l zs rs H',Same H H'->(l=b\/H l=none)->H' l=some (.lst zs)->IsL K H' (rs.map nmD) zs->FP O rs->Q (.ref l) H'
def Fl (K:W.Frag):Sp:=Bt K 125
theorem Ii {K:W.Frag}:∀ vs H Q E,¬ Bt K 0 vs H Q E:=by rintro vs H Q E ⟨_,_,_,O,rows,_,_,_,_,_,_,_,hn,_,hs,_,h,_⟩;have:=a02 hn hs;omega
theorem al8 {ys:List V}{v:V}(h:ys[ys.length-1]? = some v):atI ys (-1)=some v:=by
 have hi:=(A01.mp h).1;unfold atI
 have e:ixN ys.length (-1)=some (ys.length-1):=by unfold ixN;rw[A0W ∅,A10 ∅];congr 1;omega
 rw[e,Option.bind_some,h]
theorem Ke {f:Addr}{fd:FuncData}(F:Fun K "single_list_on" "single_list_on" Bc f fd)(T:Gn mg)(n:Nat)(Ce:Fnd P w K mg base (1+n) "single_list_on" ["near","begun"] (Bt K n)):FnOk P w K mg base CX0 (1+n+1) f fd ["near","begun"] (Bt K (n+1)):=by
 refine F.ok Fa (λvs H Q E h=>?_) (λcdv A outer s H vs Q E hr h=>?_)
 . obtain⟨n,b,kvs,O,rows,ys,rfl,_⟩:=h;rfl
 obtain⟨n,b,kvs,O,rows,ys,rfl,hNr,hO,h100,hb,hL,hn,hne,hs,hcn,hN,k0,k1⟩:=h;have hu:=C8 hr;have hq:=C7 hr;have hyl:rows.length=ys.length:=by rw[<- IsL.length hL,A00]
 have hrl:=a02 hn hs;have hpos:=A3T.mpr hne;obtain⟨r0,hr0⟩:∃ r0,rows[rows.length-1]? = some r0:=⟨rows[rows.length-1]'∅,A03 ∅⟩;obtain⟨y,hy,hIy⟩:=IsL.at hL (show(rows.map nmD)[rows.length-1]? = some (nmD r0) by rw[A07,hr0];rfl);have hr0O:=hs _ (A02 hr0);have hr0n:=(hO r0 hr0O).2.2;obtain⟨ya,rfl,hSy⟩:=hIy.nm;obtain⟨a,zs,hv,ha,hZ⟩:=hNr.at_ r0 hr0O;have hzl:(nbO O r0).length=zs.length:=by rw[<- IsL.length hZ,A00]
 have hlay:=Vq λr hr=>(hO r (hs r hr)).2.1
 with_reducible refine⟨_,(A2 (C0 (Ab (Cb (K:=K) hq) (A7 (Aj (K:=K)) ⋯ T.b_len PyProof.Rows.Boot.«len» (A0 (pv 1) A1)) (A7 Yw ⋯ T.b_len PyProof.Rows.Boot.«len» (A0 (pv 0) A1)) (Ao _)) (A5 (Am (pv 1))) Ap)
  (A2 (C9 A14 ⋯ (Aq (K:=K) hu (Al (Ux (K:=K) hu) (pv 0) (Al (A6 (K:=K) hu) (pv 1) (Yb Rl A4) (by ac_rfl)) (by ac_rfl))) (A8 (i:=2) Fa.nd ⋯ (by eq_refl))
  (A5 (C0 (Ab (Fw (K:=K) hq) (pv 2) (pv 1) ⋯) (A2 (Ac (i:=3) Fa.nd ⋯ (by eq_refl) (As Ce (hr.mono ∅) ⋯ (A0 (pv 0) (A0 (Ak (Ah (K:=K)) (pv 1) (Bh (A0 (pv 2) A1))) A1))))
  (A5 (C0 (Ab Ti (pv 3) Tf (Ao _)) (A5 (Am (pv 3))) Ap))) Ap)))
  (A5 (Am Tf)))),?_⟩
 symm
 refine aq9 (Rd.of hNr.top) ?_;rw[hNr.len]
 symm
 refine Jt (λhc=>?_) (λhc=>?_)
 . have hc':rows.length=O.length:=by injection hc with hc;omega
   symm
   exact k1 b ys rows H (.refl _) (.inl rfl) hb hL ⟨hn,hs,hcn,hc'⟩
 have hc':rows.length≠O.length:=λe=>hc (by rw[<- hyl,e])
 symm
 refine Ej hb (al8 (by rw[<- hyl];exact hy)) ?_
 symm
 refine Yl (Rd.of hNr.top) (show SqT K H ya ((kyT r0).map kV) by rw[Ya];exact hSy) hv ?_;refine Go (SqL.of ha) ?_
 refine Ez (Aw (xs:=zs)) (λm σ H2=>∃ x2 x3,σ=[some (.ref n),some (.ref b),x2,x3]/\Same H H2/\∀ r∈(nbO O r0).take m,r∉rows->¬ HP O (rows++[r]))
  ⟨_,_,rfl,.refl _,λr hr=>(by cases hr)⟩ (λm σ' H' hP=>?_) (λm x σ' H2 hx hm hP=>?_) (fun σ' H2 hP=>?_)
 . obtain⟨_,_,_,e,_⟩:=hP;exact SqL.of (e _ _ ha)
 . obtain⟨x2,x3,rfl,e2,hno⟩:=hP;obtain⟨dr,hdr,hIr⟩:=IsL.get (IsL.mono e2 _ _ hZ) hx;rw[A07] at hdr;obtain⟨r,hro,rfl⟩:=A42.mp hdr;obtain⟨hrO,hsw⟩:=(af7 hr0n).mp (A02 hro);have fr:=Qw (hO r hrO).2.1 (by have:=(hO r hrO).1;omega)
   have step:∀ {P:Prop},(P->r∉rows->¬ HP O (rows++[r]))->P->∀ r'∈(nbO O r0).take (m+1),r'∉rows->¬ HP O (rows++[r']):=fun {P} h hp r' hr'=>by
    rw[A0I,hro] at hr';rcases A0C.mp hr' with q|q
    . exact hno r' q
    rw[show r'=r by simpa using q];exact h hp
   symm
   refine av1 hIr (.inl (Is.of_lst (SqL.of (e2 _ _ hb)) (IsL.mono e2 _ _ hL))) hlay (En _ fr.plain) (A0B fr.deep nofun) ?_;rw[af8]
   symm
   refine Sl (λhc=>?_) (λhc=>?_)
   . symm
     refine Bg (A9 (by simp)) λl3 H3 hl3 e3 h3=>?_
     symm
     refine Nc (e3 _ _ (e2 _ _ hb)) h3 (A9 (by simp;omega)) λl4 H4 hl4 e4 h4=>?_;have e24:=e3.trans e4;have e04:=e2.trans e24
     symm
     refine⟨n,l4,kvs,O,rows++[r],ys++[x],rfl,hNr.same e04,hO,h100,h4,?_,?_,by simp,λr' hr'=>?_,Vj hcn hr0 hsw,by rw[List.length_append,List.length_singleton];omega,λhh H5 e5=>?_,λl zs' rs H5 e5 hlb h5 hL5 hf=>?_⟩
     . rw[A0A];exact IsL.append (IsL.mono e04 _ _ hL) (.one (Is.mono e24 _ _ hIr))
     . rw[A2F];exact⟨hn,by simp,λp hp q hq e=>hc (by rw[List.mem_singleton.mp hq] at e;exact e ▸ hp)⟩
     . rcases A0C.mp hr' with g|g
       . exact hs r' g
       rw[A0X.mp g];exact hrO
     . symm
       exact⟨_,_,rfl,e04.trans e5,step (λ_ _=>hh) trivial⟩
     have hlH:H l=none:=by
      rcases hlb with rfl|q
      . exact(e2.trans e3).free hl4
      exact e04.free q
     symm
     refine Sl (λ_=>?_) (λe=>(nomatch e))
     symm
     exact k1 l zs' rs H5 (e04.trans e5) (.inr hlH) h5 hL5 hf
   symm
   exact⟨_,_,rfl,e2,step (λhr hnr=>absurd hr hnr) hc⟩
 obtain⟨x2,x3,rfl,e2,hno⟩:=hP;rw[<- hzl,A0R] at hno
 symm
 refine k0 (λhh=>?_) H2 e2;obtain⟨r,h1,h2,h3⟩:=aF9 hr0 hr0n hh hc';exact hno r h1 h2 h3
theorem Lk {f:Addr}{fd:FuncData}(F:Fun K "single_list_on" "single_list_on" Bc f fd)(T:Gn mg)(hm:mg "single_list_on" = some (.ref f))(hk:W.keepIn K (.ref f)=true)(hb:Binds K fd ["near","begun"] []):FnOk P w K mg base CX0 126 f fd ["near","begun"] (Fl K):=by
 have h:∀ n:Nat,FnOk P w K mg base CX0 (1+n) f fd ["near","begun"] (Bt K n):=λn=>by
  induction n with
  |zero=>exact FnOk.void Ii
  |succ n ih=>exact Ke F T n ⟨f,fd,ih,hm,hk,hb⟩
 exact h 125
def Cc (K:W.Frag):Sp:=λvs H Q _=>∃ l ys O,vs=[.ref l]/\H l=some (.lst ys)/\Tps H O ys/\OrO O/\O.Nodup/\O.length<=100/\((∀ r∈O,¬ HP O [r])->∀ H',Same H H'->Q .non H')/\∀ l' zs rs H',Same H H'->H l'=none->H' l'=some (.lst zs)->IsL K H' (rs.map nmD) zs->FP O rs->Q (.ref l') H'
theorem Ie {f:Addr}{fd:FuncData}(F:Fun K "searched_single_list" "searched_single_list" Ay f fd)(T:Gn mg)(Do:Fnd P w K mg base 2 "orders_by_one_swap" ["orders"] (Ct K))(Ce:Fnd P w K mg base 126 "single_list_on" ["near","begun"] (Fl K)):FnOk P w K mg base CX0 127 f fd ["orders"] (Cc K):=by
 refine F.ok Bi (λvs H Q E h=>?_) (λcdv A outer s H vs Q E hr h=>?_)
 . obtain⟨l,ys,O,rfl,_⟩:=h;rfl
 obtain⟨l,ys,O,rfl,hl,hT,hO,hOn,h100,k0,k1⟩:=h;have hu:=C8 hr;have hq:=C7 hr
 with_reducible refine⟨_,(A2 (Ac (i:=1) Bi.nd ⋯ (by eq_refl) (As Do (hr.mono nofun) ⋯ (A0 (pv 0) A1)))
  (A2 (C9 A14 ⋯ (Aq (K:=K) hu (pv 0)) (A8 (i:=2) Bi.nd ⋯ (by eq_refl))
  (A2 (Ac (i:=3) Bi.nd ⋯ (by eq_refl) (As Ce (hr.mono nofun) ⋯ (A0 (pv 1) (A0 (Bh (A0 (pv 2) A1)) A1))))
  (A5 (C0 (Ab Ti (pv 3) Tf (Ao _)) (A5 (Am (pv 3))) Ap))))
  (A5 (Am Tf)))),?_⟩
 symm
 refine⟨l,ys,O,rfl,hl,hT,hO,hOn,by omega,λn kvs H1 hn1 e1 hNr=>?_⟩
 symm
 refine Go (SqL.of (e1 _ _ hl)) ?_
 refine Ez (Aw (xs:=ys)) (λm σ H2=>∃ x2 x3,σ=[some (.ref l),some (.ref n),x2,x3]/\Same H1 H2/\∀ r∈O.take m,¬ HP O [r])
  ⟨_,_,rfl,.refl _,λr hr=>(by cases hr)⟩ (λm σ' H' hP=>?_) (λm x σ' H2 hx hm hP=>?_) (fun σ' H2 hP=>?_)
 . obtain⟨_,_,_,e,_⟩:=hP;exact SqL.of ((e1.trans e) _ _ hl)
 . obtain⟨x2,x3,rfl,e2,hno⟩:=hP;have e02:=e1.trans e2;obtain⟨xa,c,rfl,hc,hxa⟩:=(hT.same e02).at hx
   symm
   refine Bg (A9 (by simp)) λl3 H3 hl3 e3 h3=>?_
   symm
   refine⟨n,l3,kvs,O,[c],_,rfl,hNr.same (e2.trans e3),hO,h100,h3,.one (Hs (SqT.of (e3 _ _ hxa))),by simp,by simp,λr hr=>by rw[List.mem_singleton.mp hr];exact List.mem_of_getElem? hc,trivial,by rw[List.length_singleton];omega,λhh H4 e4=>?_,λl' zs rs H4 e4 hlb h4 hL4 hf=>?_⟩
   . symm
     refine⟨_,_,rfl,(e2.trans e3).trans e4,λr hr=>?_⟩;rw[A0I,hc] at hr;rcases A0C.mp hr with q|q
     . exact hno r q
     rw[show r=c by simpa using q];exact hh
   have hlH:H l'=none:=by
    rcases hlb with rfl|q
    . exact e02.free hl3
    exact(e02.trans e3).free q
   symm
   refine Sl (λ_=>?_) (λe=>(nomatch e))
   symm
   exact k1 l' zs rs H4 ((e02.trans e3).trans e4) hlH h4 hL4 hf
 obtain⟨x2,x3,rfl,e2,hno⟩:=hP;rw[<- hT.len,A0R] at hno
 symm
 exact k0 hno H2 (e1.trans e2)
def Wm (b:Str->Str->Bool)(ns:List Str):Int:=((cnt b ns:Nat):Int)-((L5 b ns:Nat):Int)-((L5 b ns:Nat):Int)
def Fo (K:W.Frag):Sp:=λvs H Q _=>∃ v ns ps,vs=[v]/\Is K H (hfD ns ps) v/\HalfW ns ps/\ns.length<=10/\(∀ z∈ns,Rf z=true)/\cnt (Ad ps) ns<=720 /\
 (1<(Wm (Ad ps) ns).natAbs->∀ t H',Same H H'->SqT K H' t [.str "none",.int (((cnt (Ad ps) ns:Nat):Int)-((L5 (Ad ps) ns:Nat):Int)),.int ((L5 (Ad ps) ns:Nat):Int)]->Q (.ref t) H') /\
 (¬ 1<(Wm (Ad ps) ns).natAbs->ps≠[]->2<=cnt (Ad ps) ns->(cnt (Ad ps) ns<=12->∀ r∈ext (Ad ps) ns.length ns,¬ HP (ext (Ad ps) ns.length ns) [r])->∀ t H',Same H H'->SqT K H' t [.str "open"]->Q (.ref t) H') /\
 (¬ 1<(Wm (Ad ps) ns).natAbs->∀ t l zs rs H',Same H H'->H l=none->SqT K H' t [.str "list",.ref l]->H' l=some (.lst zs)->IsL K H' (rs.map nmD) zs->FP (ext (Ad ps) ns.length ns) rs->Q (.ref t) H')
theorem Om {f:Addr}{fd:FuncData}(F:Fun K "single_list" "single_list" Dh f fd)(T:Gn mg)(Bs:Fnd P w K mg base 14 "all_orders" ["half"] (Et K))(L7:Fnd P w K mg base 15 "sides" ["half"] (Mf K))(Fv:Fnd P w K mg base 12 "to_and_fro" ["names"] (Hu K))(Cm:Fnd P w K mg base 127 "searched_single_list" ["orders"] (Cc K)):FnOk P w K mg base CX0 128 f fd ["half"] (Fo K):=by
 refine F.ok Fn (λvs H Q E h=>?_) (λcdv A outer s H vs Q E hr h=>?_)
 . obtain⟨v,ns,ps,rfl,_⟩:=h;rfl
 obtain⟨v,ns,ps,rfl,hI,hW,h10,hNm,hcn,k1,k2,k3⟩:=h;have hu:=C8 hr;have hq:=C7 hr
 with_reducible refine⟨_,(A2 (Ac (i:=1) Fn.nd ⋯ (by eq_refl) (As L7 (hr.mono nofun) ⋯ (A0 (pv 0) A1)))
  (A2 (C0 (Ab Sn (A7 Pl ⋯ T.b_abs PyProof.Rows.Boot.«abs» (A0 (Ak G2 (Al (A6 (K:=K) hu) (pv 1) A4 (by ac_rfl)) (Al (A6 (K:=K) hu) (pv 1) A4 (by ac_rfl))) A1)) A4 (Ao _)) (A5 (Am (Ak (Ah (K:=K)) (Bz (A0 B3 A1)) (pv 1)))) Ap)
  (A2 (C0 (Ab (Cb (K:=K) hq) (A7 (Aj (K:=K)) ⋯ T.b_len PyProof.Rows.Boot.«len» (A0 (Al (A6 (K:=K) hu) (pv 0) A4 (by ac_rfl)) A1)) A4 (Ao _)) (A5 (Am (Bz (A0 B3 (A0 (As Fv (hr.mono nofun) ⋯ (A0 (Al (A6 (K:=K) hu) (pv 0) A4 (by ac_rfl)) A1)) A1))))) Ap)
  (A2 (Ac (i:=2) Fn.nd ⋯ (by eq_refl) (As Bs (hr.mono nofun) ⋯ (A0 (pv 0) A1)))
  (A2 (C0 (Ab Sn (A7 (Aj (K:=K)) ⋯ T.b_len PyProof.Rows.Boot.«len» (A0 (pv 2) A1)) (ay4 ⋯ T.g_MOST_SEARCHED) (Ao _)) (A5 (Am (Bz (A0 B3 A1)))) Ap)
  (A2 (Ac (i:=3) Fn.nd ⋯ (by eq_refl) (As Cm (hr.mono nofun) ⋯ (A0 (pv 2) A1)))
  (A2 (C0 (Ab aB1 (pv 3) Tf (Ao _)) (A5 (Am (Bz (A0 B3 A1)))) Ap)
  (A5 (Am (Bz (A0 B3 (A0 (pv 3) A1)))))))))))),?_⟩
 symm
 refine⟨v,ns,ps,rfl,hI,hW,h10,hcn,λp1 H1 e1 h1=>?_⟩;have hI1:=hI.hf_fz e1.fz
 symm
 refine Hn h1 (show atI _ ((0:Nat):Int)=_ from Av rfl) ?_
 symm
 refine Hn h1 (show atI _ ((1:Nat):Int)=_ from Av rfl) ?_
 symm
 refine⟨_,rfl,?_⟩
 symm
 refine Jt (λhc=>?_) (λhc=>?_)
 . have hc':1<(Wm (Ad ps) ns).natAbs:=by unfold Wm;omega
   symm
   refine Bq (A9 (by simp)) λt2 H2 ht2 e2 h2=>?_
   symm
   refine Pa (SqT.of h2) (e2.seqT h1) (A9 (by simp)) λp3 H3 e3 h3=>?_;exact k1 hc' p3 H3 ((e1.trans e2).trans e3) h3
 have hc':¬ 1<(Wm (Ad ps) ns).natAbs:=by unfold Wm;omega
 have hpm:∀ {r},r∈ext (Ad ps) ns.length ns->r.Perm ns:=fun {r} h=>((Cv _ _ _ _ hW.nd rfl).mp h).1
 symm
 refine Wj hI1 λpv hP=>?_
 symm
 refine ax1 hP ?_
 symm
 refine Jt (λhz=>?_) (λhz=>?_)
 . have h0:ps=[]:=by injection hz with hz;exact A0D.mp ∅
   subst h0
   have free:∀ x y,Ad [] x y=false:=λx y=>by
    cases e:Ad [] x y with
    |false=>rfl
    |true=>exact absurd (wayB_iff.mp e) (λw=>by cases w<;>simp_all)
   have hcf:=T3 (b:=Ad []) free ns.length ns rfl hW.nd
   have h7:ns.length<=7:=by
    by_cases h:ns.length<=7
    . exact h
    exact absurd (A0B (Wf (show 7<=ns.length by omega)) (hcf ▸ hcn)) nofun
   obtain⟨f1,f2,f3⟩:=R3 hW.nd
   have hfp:FP (ext (Ad []) ns.length ns) (tf ns):=by
    refine⟨f1,λr hr=>?_,f2,?_⟩
    . refine(Cv _ _ _ _ hW.nd rfl).mpr ⟨Lg hr,?_⟩;exact⟨λu _=>free u u,List.pairwise_of_forall λu v=>free v u⟩
    rw[f3,<- hcf];rfl
   symm
   refine Hm hI1 λnv hN=>?_
   symm
   refine⟨nv,ns,rfl,hN,hW.nd,by omega,h7,λl2 ys2 H2 hl2 e2 h2 hL2=>?_⟩
   symm
   refine Bq (A9 (by simp)) λt3 H3 ht3 e3 h3=>?_;exact k3 hc' t3 l2 ys2 _ H3 ((e1.trans e2).trans e3) (e1.free hl2) (SqT.of h3) (e3 _ _ h2) (IsL.mono e3 _ _ hL2) hfp
 have hps:ps≠[]:=λe=>hz (by rw[e];rfl)
 symm
 refine⟨v,ns,ps,rfl,hI1,hW,h10,hcn,λl2 ys2 H2 hl2 e2 h2 hT2=>?_⟩;have hyl:=hT2.len;have hOl:(ext (Ad ps) ns.length ns).length=cnt (Ad ps) ns:=rfl;have hOr:OrO (ext (Ad ps) ns.length ns):=λr hr=>⟨by rw[(hpm hr).length_eq];exact h10,λz hz=>hNm z ((hpm hr).mem_iff.mp hz),(hpm hr).nodup_iff.mpr hW.nd⟩
 symm
 refine Jt (λhm=>?_) (λhm=>?_)
 . symm
   refine Bq (A9 (by simp)) λt3 H3 ht3 e3 h3=>?_;exact k2 hc' hps ∅ (λh=>absurd h ∅) t3 H3 ((e1.trans e2).trans e3) (SqT.of h3)
 symm
 refine⟨l2,ys2,_,rfl,h2,hT2,hOr,L0 _ _ _ hW.nd,by omega,λhno H3 e3=>?_,λl3 zs rs H3 e3 hl3 h3 hL3 hf=>?_⟩
 . have h2':2<=cnt (Ad ps) ns:=by
    obtain⟨r0,hr0,_⟩:=Nr hW;rw[<- hOl]
    by_cases h:2<=(ext (Ad ps) ns.length ns).length
    . exact h
    exfalso;have m0:=A02 hr0;have hpos:=A54 m0;refine hno r0 m0 ⟨[],by simp,λr hr=>?_,trivial,?_⟩
    . rw[A19] at hr;rw[A0X.mp hr];exact m0
    rw[A19,A0S];omega
   symm
   refine Bq (A9 (by simp)) λt4 H4 ht4 e4 h4=>?_;exact k2 hc' hps h2' (λ_=>hno) t4 H4 (((e1.trans e2).trans e3).trans e4) (SqT.of h4)
 symm
 refine Jt (λe=>(nomatch e)) (λ_=>?_)
 symm
 refine Bq (A9 (by simp)) λt4 H4 ht4 e4 h4=>?_;exact k3 hc' t4 l3 zs rs H4 (((e1.trans e2).trans e3).trans e4) ((e1.trans e2).free hl3) (SqT.of h4) (e4 _ _ h3) (IsL.mono e4 _ _ hL3) hf
def K0 (K:W.Frag):Sp:=λvs H Q _=>∃ v w ns ps,∃ r:List Str,vs=[v,w]/\Is K H (hfD ns ps) v/\HalfW ns ps/\Is K H (nmD r) w/\ns.length<=10/\r∈ext (Ad ps) ns.length ns/\∀ H',Same H H'->Q (.bl true) H'
def Co (K:W.Frag):Sp:=λvs H Q _=>∃ v u ns ps r,vs=[v,u]/\Is K H (hfD ns ps) v/\HalfW ns ps/\ns.length<=10/\Is K H (nmD r) u/\r∈ext (Ad ps) ns.length ns/\∀ H',Same H H'->Q .non H'
def Pq (K:W.Frag):Sp:=λvs H Q _=>∃ v u w ns ps one other,vs=[v,u,w]/\Is K H (hfD ns ps) v/\HalfW ns ps/\ns.length<=10/\Is K H (nmD one) u/\one∈ext (Ad ps) ns.length ns/\Is K H (nmD other) w/\other∈ext (Ad ps) ns.length ns/\∀ H',Same H H'->Q (.int ((Ek one other:Nat):Int)) H'
def Hc (K:W.Frag):Sp:=λvs H Q _=>∃ v u w ns ps one other,vs=[v,u,w]/\Is K H (hfD ns ps) v/\Half ns ps/\Is K H (nmD one) u/\one∈ext (Ad ps) ns.length ns/\Is K H (nmD other) w/\other∈ext (Ad ps) ns.length ns /\
 ∀ rows z H',Same H H'->Is K H' (lsD rows) z->WayL ns (Ad ps) one other rows->rows.length=1+Ek one other->Q z H'
theorem Jp {α:Type}{f:α->Bool}{l:List α}(h:∀ a∈l,f a=true):((l.map f).all id)=true:=by rw[A1T];intro b hb;obtain⟨a,ha,rfl⟩:=A0F.mp hb;exact h a ha
theorem Ts {f:Addr}{fd:FuncData}(F:Fun K "is_order" "is_order" Gb f fd)(T:Gn mg):FnOk P w K mg base CX0 1 f fd ["half","thing"] (K0 K):=by
 refine F.ok Uu (λvs H Q E h=>?_) (λcdv A outer s H vs Q E hr h=>?_)
 . obtain⟨v,w,ns,ps,r,rfl,_⟩:=h;rfl
 obtain⟨v,w,ns,ps,r,rfl,hI,hW,hR,h10,hmem,k⟩:=h;have hu:=C8 hr;have hq:=C7 hr;have hle:=hW.le;obtain⟨hp,hok⟩:=(Cv _ _ _ _ hW.nd rfl).mp hmem;have hidx:=(aB6 hW.nd hW.mem hp).mp hok;obtain⟨wa,rfl,hSw⟩:=hR.nm
 with_reducible refine⟨_,(A2 (C0 (PW.pt (Qb (Kh (Kj (A7 (Iv (K:=K)) ⋯ T.b_isinstance PyProof.Rows.Boot.«isinstance» (A0 (pv 1) (A0 (Uy (v:=.ty "tuple") ⋯ T.b_tuple PyProof.Rows.Boot.«tuple» ⋯) A1))))) (Pc (Ab (Iy (K:=K) hq) (A7 (Aj (K:=K)) ⋯ T.b_len PyProof.Rows.Boot.«len» (A0 (pv 1) A1)) (A7 (Aj (K:=K)) ⋯ T.b_len PyProof.Rows.Boot.«len» (A0 (Al (A6 (K:=K) hu) (pv 0) A4 (by ac_rfl)) A1)) (Ao _))))) (A5 (Am Hl)) Ap)
  (A2 (C0 (Kh (Kj (A7 (Td (K:=K) ⋯) ⋯ T.b_all PyProof.Rows.Boot.«all» (A0 (Ba ["name"] ["thing"] [1] ⋯ ⋯ ⋯ (Aq (K:=K) hu (Al (A6 (K:=K) hu) (pv 0) A4 (by ac_rfl))) (λ_ _ _ _=>(A8 (i:=0) (by with_unfolding_all (show(["name","thing"]:List Str).Nodup;decide +kernel)) ⋯ (by eq_refl))) (Au nofun) (λ_ _ _ _=>Bn) (λ_ _ _ _=>(Ew (Km (K:=K) hq) (pv 0) (pv 1) ⋯))) A1)))) (A5 (Am Hl)) Ap)
  (A5 (Am (A7 (Td (K:=K) ⋯) ⋯ T.b_all PyProof.Rows.Boot.«all» (A0 (Ba ["saying"] ["thing"] [1] ⋯ ⋯ ⋯ (Aq (K:=K) hu (Al (A6 (K:=K) hu) (pv 0) A4 (by ac_rfl))) (λ_ _ _ _=>(A8 (i:=0) (by with_unfolding_all (show(["saying","thing"]:List Str).Nodup;decide +kernel)) ⋯ (by eq_refl))) (Au nofun) (λ_ _ _ _=>Bn) (λ_ _ _ _=>(Ew Xm (Pe (K:=K) A2G A2P (Ga (K:=K)) (pv 1) (A0 (Al (A6 (K:=K) hu) (pv 0) A4 (by ac_rfl)) A1)) (Pe (K:=K) A2G A2P (Ga (K:=K)) (pv 1) (A0 (Al (A6 (K:=K) hu) (pv 0) A4 (by ac_rfl)) A1)) (Ao _)))) A1)))))),?_⟩
 symm
 refine ai3 hSw (b:=true) (by first | rfl | kernel_rfl) ?_
 symm
 refine Sz hR ?_
 symm
 refine Hm hI λnv hN=>?_
 symm
 refine Sz hN ?_;rw[hp.length_eq]
 symm
 refine Hm hI λnv1 hN1=>?_;obtain⟨n1,rfl,hS1⟩:=hN1.nm;refine Ry hS1 ?_;refine Ic (K:=K) (Gw (xs:=ns.map V.str)) ns (by simp) (λz=>decide (z∈r)) (by rw[List.length_map];omega) (λH' e=>e.seqT hS1) (λm z xv H1 R hz' hxv e1 hR1=>?_) (λq H1 hq1 e1 h1=>?_)
 . rw[A07,hz'] at hxv
   cases hxv
   symm
   refine aH2 (hR.nm_fz e1.fz) ?_;exact hR1 H1 (.refl _)
 symm
 refine aA2 h1 ?_;rw[Jp λz hz=>A0H (hp.mem_iff.mpr hz)]
 symm
 refine Wj (hI.hf_fz e1.fz) λsv hP=>?_;obtain⟨sa,sx,rfl,hSs,hLs⟩:=Is.tup hP;have hsl:ps.length=sx.length:=by rw[<- IsL.length hLs,A00]
 refine Ry hSs ?_;refine Ic (K:=K) (Gw (xs:=sx)) ps hsl (λp=>decide (r.idxOf p.1<r.idxOf p.2)) ∅ (λH' e=>e.seqT hSs) (λm p xv H2 R hp' hxv e2 hR2=>?_) (λq2 H2 hq2 e2 h2=>?_)
 . obtain⟨dr,hdr,hIw⟩:=IsL.get (IsL.mono e2 _ _ hLs) hxv;rw[A07,hp'] at hdr
   cases hdr;have hpm:=hW.mem p (A02 hp');obtain⟨f1,f2,f3⟩:=idx_at (hp.mem_iff.mpr hpm.1);obtain⟨g1,g2,g3⟩:=idx_at (hp.mem_iff.mpr hpm.2);have hSw2:=(e1.trans e2).seqT hSw
   symm
   refine Y6 hSw2 ?_
   symm
   refine ai5 hIw ?_
   symm
   refine Jk hSw2 f1 f2 ?_
   symm
   refine Y6 hSw2 ?_
   symm
   refine ai4 hIw ?_
   symm
   refine Jk hSw2 g1 g2 ?_
   symm
   have e:decide (((r.idxOf p.1:Nat):Int)<((r.idxOf p.2:Nat):Int))=decide (r.idxOf p.1<r.idxOf p.2):=by rw[decide_eq_decide];omega
   rw[e];exact hR2 H2 (.refl _)
 symm
 refine aA2 h2 ?_;rw[Jp λp hp'=>A0H (hidx p hp')];exact k H2 (e1.trans e2)
theorem Ks {f:Addr}{fd:FuncData}(F:Fun K "refuse_no_order" "refuse_no_order" Bk f fd)(T:Gn mg)(Ll:Fnd P w K mg base 1 "is_order" ["half","thing"] (K0 K)):FnOk P w K mg base CX0 2 f fd ["half","thing"] (Co K):=by
 refine F.ok Kl (λvs H Q E h=>?_) (λcdv A outer s H vs Q E hr h=>?_)
 . obtain⟨v,u,ns,ps,r,rfl,_⟩:=h;rfl
 obtain⟨v,u,ns,ps,r,rfl,hI,hW,h10,hU,hm,k⟩:=h;have hu:=C8 hr;have hq:=C7 hr
 with_reducible refine⟨_,(A5 (C0 (Kh (Kj (As Ll (hr.mono nofun) ⋯ (A0 (pv 0) (A0 (pv 1) A1))))) (A5 X4) Ap)),?_⟩
 symm
 refine⟨v,u,ns,ps,r,rfl,hI,hW,hU,h10,hm,λH1 e1=>?_⟩
 symm
 exact k H1 e1
theorem ab1 {f:Addr}{fd:FuncData}(F:Fun K "apart" "apart" L6 f fd)(T:Gn mg)(Az:Fnd P w K mg base 2 "refuse_no_order" ["half","thing"] (Co K))(Cy:Fnd P w K mg base 1 "pairs_apart" ["one","other"] (Dq K)):FnOk P w K mg base CX0 3 f fd ["half","one","other"] (Pq K):=by
 refine F.ok ad2 (λvs H Q E h=>?_) (λcdv A outer s H vs Q E hr h=>?_)
 . obtain⟨v,u,w,ns,ps,one,other,rfl,_⟩:=h;rfl
 obtain⟨v,u,w,ns,ps,one,other,rfl,hI,hW,h10,hU,h1,hV,h2,k⟩:=h;have hu:=C8 hr;have hq:=C7 hr;have hpm:∀ {r},r∈ext (Ad ps) ns.length ns->r.Perm ns:=fun {r} h=>((Cv _ _ _ _ hW.nd rfl).mp h).1
 with_reducible refine⟨_,(A2 (Bv (As Az (hr.mono nofun) ⋯ (A0 (pv 0) (A0 (pv 1) A1))))
  (A2 (Bv (As Az (hr.mono nofun) ⋯ (A0 (pv 0) (A0 (pv 2) A1))))
  (A5 (Am (As Cy (hr.mono nofun) ⋯ (A0 (pv 1) (A0 (pv 2) A1))))))),?_⟩
 symm
 refine⟨v,u,ns,ps,one,rfl,hI,hW,h10,hU,h1,λH1 e1=>?_⟩
 symm
 refine⟨v,w,ns,ps,other,rfl,hI.hf_fz e1.fz,hW,h10,hV.nm_fz e1.fz,h2,λH2 e2=>?_⟩;have e12:=e1.trans e2
 symm
 refine⟨u,w,one,other,rfl,hU.nm_fz e12.fz,hV.nm_fz e12.fz,λx hx=>(hpm h2).mem_iff.mpr ((hpm h1).mem_iff.mp hx),by rw[(hpm h1).length_eq];exact h10,by rw[(hpm h2).length_eq];exact h10,λH3 e3=>?_⟩;exact k H3 (e12.trans e3)
theorem Oh {f:Addr}{fd:FuncData}(F:Fun K "way_between" "way_between" Dj f fd)(T:Gn mg)(Az:Fnd P w K mg base 2 "refuse_no_order" ["half","thing"] (Co K))(Cj:Fnd P w K mg base 2 "step_towards" ["order","goal"] (Ex K)):FnOk P w K mg base CX0 3 f fd ["half","one","other"] (Hc K):=by
 refine F.ok Jx (λvs H Q E h=>?_) (λcdv A outer s H vs Q E hr h=>?_)
 . obtain⟨v,u,w,ns,ps,one,other,rfl,_⟩:=h;rfl
 obtain⟨v,u,w,ns,ps,one,other,rfl,hI,hH,hU,h1,hV,h2,k⟩:=h;have hu:=C8 hr;have hq:=C7 hr;have hnd:=hH.names.1;have hpm:∀ {r},r∈ext (Ad ps) ns.length ns->r.Perm ns:=fun {r} h=>((Cv _ _ _ _ hnd rfl).mp h).1;have h10:=hH.few;have hsh:∀ {r},r∈ext (Ad ps) ns.length ns->SeqAt.shaped (nmD r)=true:=fun {r} h=>(Qw (λz hz=>hH.names.2 z ((hpm h).mem_iff.mp hz)) (by rw[(hpm h).length_eq];omega)).shaped
 have hm:Ek one other<=100:=by rw[Dm];refine A0B (Qy other one) ?_;rw[(hpm h1).length_eq];exact A3D h10 h10
 with_reducible refine⟨_,(A2 (Bv (As Az (hr.mono nofun) ⋯ (A0 (pv 0) (A0 (pv 1) A1))))
  (A2 (Bv (As Az (hr.mono nofun) ⋯ (A0 (pv 0) (A0 (pv 2) A1))))
  (A2 (Ac (i:=3) Jx.nd ⋯ (by eq_refl) (Bh (A0 (pv 1) A1)))
  (A2 (M8 A14 (Ab (Iy (K:=K) hq) (Al (A6 (K:=K) hu) (pv 3) (Yb Rl A4) (by ac_rfl)) (pv 2) (Ao _))
  (A5 (Bv (Fs (K:=K) A0Z A1U A1V (mm Du) (pv 3) (A0 (As Cj (hr.mono nofun) ⋯ (A0 (Al (A6 (K:=K) hu) (pv 3) (Yb Rl A4) (by ac_rfl)) (A0 (pv 2) A1))) A1)))))
  (A5 (Am (Dv (K4 (K:=K)) ⋯ T.b_tuple PyProof.Rows.Boot.«tuple» (A0 (pv 3) A1)))))))),?_⟩
 symm
 refine⟨v,u,ns,ps,one,rfl,hI,hH.w,h10,hU,h1,λH1 e1=>?_⟩
 symm
 refine⟨v,w,ns,ps,other,rfl,hI.hf_fz e1.fz,hH.w,h10,hV.nm_fz e1.fz,h2,λH2 e2=>?_⟩;have e12:=e1.trans e2
 symm
 refine Bg (A9 (by simp)) λp H3 hp3 e3 h3=>?_;have hp0:H p=none:=e12.free hp3
 symm
 refine Qa (λm σ H4=>∃ rows ys cur,σ=[some v,some u,some w,some (.ref p)]/\Same H H4/\H4 p=some (.lst ys)/\IsL K H4 (rows.map nmD) ys/\WayL ns (Ad ps) one cur rows/\m=Ek cur other/\rows.length+m=1+Ek one other) (Ek one other)
  ⟨[one],[u],one,rfl,e12.trans e3,h3,.one (hU.nm_fz (e12.trans e3).fz),⟨rfl,rfl,λr hr=>by rw[List.mem_singleton.mp hr];exact h1,λi r r' _ h=>by cases i<;>cases h⟩,rfl,by simp⟩ (λm σ H4 hP=>?_)
 obtain⟨rows,ys,cur,rfl,e4,h4,hL4,hW,rfl,hrl⟩:=hP;have hyl:ys.length=rows.length:=by rw[<- IsL.length hL4,A00]
 have hcur:cur∈ext (Ad ps) ns.length ns:=hW.all cur (List.mem_of_getLast? hW.lst)
 have hpos:0<rows.length:=by
  cases e:rows with
  |nil=>have:=hW.fst;rw[e] at this;cases this
  |cons _ _=>simp
 obtain⟨y,hy⟩:∃ y,ys[ys.length-1]? = some y:=⟨ys[ys.length-1]'∅,A03 ∅⟩
 have hyI:Is K H4 (nmD cur) y:=by
  obtain⟨dd,hdd,hIy⟩:=IsL.get hL4 hy;rw[A07,hyl,<- A3P,hW.lst] at hdd
  cases hdd;exact hIy
 have hat:atI ys (-1)=some y:=by
  unfold atI
  have e:ixN ys.length (-1)=some (ys.length-1):=by unfold ixN;rw[A0W ∅,A10 ∅];congr 1;omega
  rw[e,Option.bind_some,hy]
 symm
 refine Ej h4 hat ?_
 symm
 refine ac9 hyI (hV.nm_fz e4.fz) (hsh hcur) (hsh h2) ?_;rw[Ou]
 symm
 refine Sl (λhc=>?_) (λhc=>?_)
 . refine Vt ?_
   symm
   refine Ej h4 hat ?_
   symm
   refine⟨y,w,cur,other,rfl,hyI,hV.nm_fz e4.fz,(hpm hcur).trans (hpm h2).symm,(hpm h2).nodup_iff.mpr hnd,hc,by rw[(hpm h2).length_eq];exact h10,λas x z bs nw H5 er hlt e5 hnw=>?_⟩;have h5:=e5 _ _ h4
   symm
   refine L3 h5 ∅ λH6 e6 h6=>?_
   symm
   have hnx:as++z :: x :: bs∈ext (Ad ps) ns.length ns:=X5 hnd (er ▸ hcur) h2 hlt;have hxz:x≠z:=λe=>by subst e;omega
   have hin:=Ig (bs:=bs) hlt as;rw[<- er,<- Dm,<- Dm] at hin;refine⟨Ek (as++z :: x :: bs) other,by omega,rows++[as++z :: x :: bs],ys++[nw],as++z :: x :: bs,rfl,(e4.trans e5).off hp0 e6,h6,?_,hW.snoc hnx ⟨as,x,z,bs,er,rfl,hxz⟩,rfl,by rw[A04,A0S];omega⟩;rw[A0A];have hfz:=(e6.fzL h5);exact IsL.append (IsL.fz (e5.fz.trans hfz) _ _ (Kx _ (λ_=>Rj _) _) hL4) (.one (hnw.nm_fz hfz))
 have hc:cur=other:=hc;subst hc;have h0:Ek cur cur=0:=by rw[Dm];exact Kv (Lu ((hpm h2).nodup_iff.mpr hnd))
 symm
 refine ao4 h4 hL4 λz H5 e5 hz=>?_
 symm
 exact k rows z H5 (e4.trans e5) hz hW ∅
def Gy (K:W.Frag):Sp:=λvs H Q _=>∃ v ns ps,vs=[v]/\Is K H (hfD ns ps) v/\Half ns ps/\ns.length<=6/\∀ l ys H',H l=none->Same H H'->H' l=some (.lst ys)->IsL K H' ((G8 (Ad ps) ns ns.length [[]]).map nmD) ys->Q (.ref l) H'
theorem Ob {f:Addr}{fd:FuncData}(F:Fun K "_law_orders" "_law_orders" Dc f fd)(T:Gn mg)(Ec:Fnd P w K mg base 2 "_law_table" ["_law_half_here"] (G5 K)):FnOk P w K mg base CX0 3 f fd ["_law_half_here"] (Gy K):=by
 refine F.ok B8 (λvs H Q E h=>?_) (λcdv A outer s H vs Q E hr h=>?_)
 . obtain⟨v,ns,ps,rfl,_⟩:=h;rfl
 obtain⟨v,ns,ps,rfl,hI,hH,h6,k⟩:=h;have hu:=C8 hr;have hq:=C7 hr;have hW:=hH.w;have hn:=hW.nd;have hok1:∀ z∈ns,PyData.strOk z=true:=λz hz=>(Xa (hH.names.2 z hz)).1
 with_reducible refine⟨_,(A2 (Ac (i:=1) B8.nd ⋯ (by with_unfolding_all exact A36 rfl) (As Ec (hr.mono nofun) ⋯ (A0 (pv 0) A1)))
  (A2 (Ac (i:=2) B8.nd ⋯ (by eq_refl) (Bh (A0 (Bz A1) A1)))
  (A2 (C9 A14 ⋯ (Br ⋯ T.b_range (A0 (A7 (Aj (K:=K)) ⋯ T.b_len PyProof.Rows.Boot.«len» (A0 (Al (A6 (K:=K) hu) (pv 0) A4 (by ac_rfl)) A1)) A1)) (A8 (i:=3) B8.nd ⋯ (by eq_refl))
  (A2 (Ac (i:=4) B8.nd ⋯ (by eq_refl) (Bh A1))
  (A2 (C9 A14 ⋯ (Aq (K:=K) hu (pv 2)) (A8 (i:=5) B8.nd ⋯ (by with_unfolding_all exact A36 rfl))
  (A2 (De (i:=6) ["_law_name"] ["_law_row"] [5] ⋯ ⋯ ⋯ B8.nd ⋯ ⋯ (Aq (K:=K) hu (Al (A6 (K:=K) hu) (pv 0) A4 (by ac_rfl))) (λ_ _ _ _=>(A8 (i:=0) (by with_unfolding_all (show(["_law_name","_law_row"]:List Str).Nodup;decide +kernel)) ⋯ (by eq_refl))) (Au nofun) (λ_ _ _ _=>(Fm (Ab (Fw (K:=K) hq) (pv 0) (pv 1) ⋯))) (λ_ _ _ _=>(pv 0)))
  (A5 (C9 A14 ⋯ (Aq (K:=K) hu (pv 6)) (A8 (i:=7) B8.nd ⋯ (by with_unfolding_all exact A36 rfl))
  (A5 (C0 (Ab (Cb (K:=K) hq) (Ba ["_law_one"] ["_law_name","_law_table_here"] [7,1] ⋯ ⋯ ⋯ (Aq (K:=K) hu (pv 6)) (λ_ _ _ _=>(A8 (i:=0) (by with_unfolding_all (show(["_law_one","_law_name","_law_table_here"]:List Str).Nodup;decide +kernel)) ⋯ (by eq_refl))) (Au nofun) (λ_ _ _ _=>(Fm (Ab (Km (K:=K) hq) (pv 1) (Al (A6 (K:=K) hu) (pv 2) (pv 0) (by ac_rfl)) ⋯))) (λ_ _ _ _=>(pv 0))) (Bh A1) (Ao _)) (A5 (Bv (Fs (K:=K) A0Z A1U A1V (mm Du) (pv 4) (A0 (Ak (Ah (K:=K)) (pv 5) (Bz (A0 (pv 7) A1))) A1)))) Ap))))))
  (A5 (Ac (i:=2) B8.nd ⋯ (by eq_refl) (pv 4))))))
  (A5 (Am (pv 2)))))),?_⟩
 symm
 refine⟨v,ns,ps,rfl,hI,hH,λr as H1 hr1 e1 hT=>?_⟩
 symm
 refine Bq nofun λt2 H2 ht2 e2 h2=>?_
 symm
 refine Bg (A9 (by simp)) λl3 H3 hl3 e3 h3=>?_
 symm
 have e13:Same H1 H3:=e2.trans e3;refine Hm (hI.hf_fz (e1.trans e13).fz) λnv hN=>?_
 symm
 refine Sz hN ?_
 symm
 refine Gq ∅ ?_
 refine Ez Ax (λi σ H4=>∃ l x3 x4 x5 x6 x7 ys,σ=[some v,some (.ref r),some (.ref l),x3,x4,x5,x6,x7]/\Same H1 H4/\H1 l=none/\H4 l=some (.lst ys)/\IsL K H4 ((G8 (Ad ps) ns i [[]]).map nmD) ys)
  ⟨l3,_,_,_,_,_,[.ref t2],rfl,e13,e2.free hl3,h3,.one (Hs (SqT.of (e3 _ _ h2)))⟩ (λ_ _ _ _=>trivial) (λi x σ H4 hx hi hP=>?_) (fun σ H4 hP=>?_)
 . obtain⟨l,x3,x4,x5,x6,x7,ys,rfl,e4,hl1,h4,hL4⟩:=hP;obtain⟨rfl,hin⟩:=Cp hx;have hrows:(G8 (Ad ps) ns i [[]]).length<=46656:=A0B (Te _ _ _) (ao9 h6 ∅);have hyl:ys.length=(G8 (Ad ps) ns i [[]]).length:=by rw[<- IsL.length hL4,A00]
   symm
   refine Bg nofun λg H5 hg5 e5 h5=>?_
   symm
   have hlg:l≠g:=ne_of_none h4 hg5;refine Go (SqL.of (e5 _ _ h4)) ?_
   refine Ez (Aw (xs:=ys)) (λj σ H6=>∃ y3 y5 y6 y7 zs,σ=[some v,some (.ref r),some (.ref l),y3,some (.ref g),y5,y6,y7]/\Same H4 H6/\H6 g=some (.lst zs)/\IsL K H6 ((Gi (Ad ps) ns ((G8 (Ad ps) ns i [[]]).take j)).map nmD) zs)
    ⟨_,_,_,_,[],rfl,e5,h5,.nil⟩ (λj σ' H' hP=>?_) (λj x σ' H6 hx6 hj hP=>?_) (fun σ' H6 hP=>?_)
   . obtain⟨_,_,_,_,_,_,e,_⟩:=hP;exact SqL.of (e _ _ h4)
   . obtain⟨y3,y5,y6,y7,zs,rfl,e6,h6g,hL6⟩:=hP;obtain ⟨dr,hdr,hIr⟩:=IsL.get (IsL.mono e6 _ _ hL4) hx6;rw[A07] at hdr
     cases hro:(G8 (Ad ps) ns i [[]])[j]? with
     |none=>rw[hro] at hdr;cases hdr
     |some row=>
       rw[hro] at hdr
       cases hdr;have e16:Same H1 H6:=e4.trans e6
       symm
       refine Hm (hI.hf_fz (e1.trans e16).fz) λnv6 hN6=>?_;refine La hN6 (λz=>!decide (z∈row)) PyData.str (λ_=>rfl) ∅ (λjj z H7 R R' hz e7 hR hR'=>?_) (λlf ys7 H7 hlf7 e7 h7 hL7=>?_)
       . symm
         refine as9 (hIr.nm_fz e7.fz) ?_
         symm
         refine ac8 (λhb=>?_) (λhb=>?_)
         . symm
           exact hR (by rw[hb];rfl) _ _ (.refl _) Jy
         exact hR' (by rw[hb];rfl) _ (.refl _)
       have hLf:=IsL.str_eq hL7;subst hLf;have h7':H7 lf=some (.lst ((Ey ns row).map V.str)):=h7;have hlfl:(Ey ns row).length<=ns.length:=A1M _ _;have hlfn:∀ z∈Ey ns row,z∈ns:=λz hz=>(A1H.mp hz).1;have hglf:g≠lf:=ne_of_none h6g hlf7;have h7g:=e7 _ _ h6g
       symm
       refine Go (SqL.of h7') ?_;have hrl:=Rv _ _ _ _ (A02 hro)
       have hIr4:Is K H4 (nmD row) x:=by
        obtain⟨d4,hd4,h⟩:=IsL.get hL4 hx6;rw[A07,hro] at hd4
        cases hd4;exact h
       have hgl:=Ny (Ad ps) ns _ j h6 hrows
       refine Ez (Aw (xs:=(Ey ns row).map V.str)) (λm σ H8=>∃ w7 ws,σ=[some v,some (.ref r),some (.ref l),y3,some (.ref g),some x,some (.ref lf),w7]/\Same H4 H8/\H8 lf=some (.lst ((Ey ns row).map V.str))/\H8 g=some (.lst ws) /\
         IsL K H8 ((Gi (Ad ps) ns ((G8 (Ad ps) ns i [[]]).take j)++((((Ey ns row).take m).filter λx=>!((Ey ns row).any λy=>Ad ps y x)).map λx=>row++[x])).map nmD) ws)
        ⟨_,zs,rfl,e6.trans e7,h7',h7g,by simpa using IsL.mono e7 _ _ hL6⟩ (λm σ' H' hP=>?_) (λm x8 σ' H8 hx8 hm hP=>?_) (fun σ' H8 hP=>?_)
       . obtain⟨_,_,_,_,h,_⟩:=hP;exact SqL.of h
       . obtain ⟨w7,ws,rfl,e8,h8l,h8g,hL8⟩:=hP;rw[A07] at hx8
         cases hz:(Ey ns row)[m]? with
         |none=>rw[hz] at hx8;cases hx8
         |some z=>
           rw[hz] at hx8
           cases hx8;have hzn:=hlfn z (A02 hz)
           have hwl:ws.length<=500000:=by have:=IsL.length hL8;rw[A00,A04,A00] at this;have h1:(((Ey ns row).take m).filter λx=>!((Ey ns row).any λy=>Ad ps y x)).length<=6:=A0B (A1M _ _) (A0B (List.length_take_le' _ _) ∅);omega
           symm
           refine ac3 (SqL.of h8l) (λy=>Ad ps y z) PyData.str (λ_=>rfl) ∅ (λjj y H9 R R' hy e9 hR hR'=>?_) (λq9 zs9 H9 hq9 e9 h9 hL9=>?_)
           . have hT9:=hT.same ((e4.trans e8).trans e9);obtain⟨iy,ay,hiy,hay⟩:=hT9.at (hlfn y (A02 hy));obtain⟨ms,hm1,hm2,hm3⟩:=hT9.row iy y ay hiy hay
             symm
             refine ag3 hT9 hn hiy hay ?_;refine aj6 (SqL.of hm1) ?_;rw[Pt (hm3 z)]
             symm
             refine aE2 (λhb=>?_) (λhb=>?_)
             . symm
               exact hR hb _ _ (.refl _) Jy
             exact hR' hb _ (.refl _)
           have hz9:=IsL.str_eq hL9;subst hz9
           symm
           refine Bg nofun λt10 H10 ht10 e10 h10=>?_;refine aC1 (dx:=.list (((Ey ns row).filter λy=>Ad ps y z).map PyData.str)) (dy:=.list []) (Is.of_lst (SqL.of (e10 _ _ h9)) (R8 _)) (Is.of_lst (SqL.of h10) .nil) (Wi λy hy=>hok1 y (hlfn y (A1H.mp hy).1)) (by rfl) ?_;rw[Lr,Tx]
           symm
           have e810:Same H8 H10:=e9.trans e10;have htk:(Ey ns row).take (m+1)=(Ey ns row).take m++[z]:=by rw[A0I,hz];rfl
           refine ac8 (λhb=>?_) (λhb=>?_)
           . symm
             refine Bq (A9 (by simp)) λt11 H11 ht11 e11 h11=>?_;have hI11:=Is.mono ((e8.trans e810).trans e11) _ _ hIr4;obtain⟨ra,rfl,hSr⟩:=hI11.nm;refine Pa hSr (SqT.of h11) (A9 (by rw[List.length_map];simp;omega)) λp12 H12 e12 h12=>?_;have e812:Same H8 H12:=(e810.trans e11).trans e12;have h12g:=e812 _ _ h8g
             symm
             refine L3 h12g ∅ λH13 e13 h13=>?_
             symm
             have hIn:Is K H12 (nmD (row++[z])) (.ref p12):=Hs (by rw[A0A];exact h12);have fz13:=e13.fzL h12g;refine⟨_,_,rfl,(e8.trans e812).off hg5 e13,e13 _ _ (Ne.symm hglf) (e812 _ _ h8l),h13,?_⟩;simp only[htk,List.filter_append,List.map_append,<- List.append_assoc];rw[<- A0A];refine IsL.append (IsL.fz (e812.fz.trans fz13) _ _ (Cz _) hL8) ?_;have:([z].filter λx=>!((Ey ns row).any λy=>Ad ps y x))=[z]:=by rw[A1Z,A10 (by rw[hb];rfl)];rfl
             rw[this];exact .one (hIn.nm_fz fz13)
           symm
           refine⟨_,ws,rfl,e8.trans e810,e810 _ _ h8l,e810 _ _ h8g,?_⟩;have:([z].filter λx=>!((Ey ns row).any λy=>Ad ps y x))=[]:=by rw[A1Z,A0W (by rw[hb];decide)];rfl
           rw[htk,A22,this,A19];exact IsL.mono e810 _ _ hL8
       obtain⟨w7,ws,rfl,e8,h8l,h8g,hL8⟩:=hP;refine⟨_,_,_,_,ws,rfl,e8,h8g,?_⟩;rw[A00,<- a95] at hL8;rw[Xy _ _ hro];exact hL8
   obtain⟨y3,y5,y6,y7,zs,rfl,e6,h6g,hL6⟩:=hP;rw[hyl,A0R] at hL6
   symm
   refine⟨g,_,_,_,_,_,zs,rfl,e4.trans e6,e4.free hg5,h6g,?_⟩;rw[Jg];exact hL6
 obtain⟨l,x3,x4,x5,x6,x7,ys,rfl,e4,hl1,h4,hL4⟩:=hP
 symm
 refine k l ys H4 (e1.free hl1) (e1.trans e4) h4 ?_;have:((ns.length:Nat):Int).toNat=ns.length:=by omega
 simpa using hL4
def Gz (K:W.Frag):Sp:=λvs H Q _=>∃ v ns ps,vs=[v]/\Is K H (hfD ns ps) v/\Half ns ps/\∀ p ys H',H p=none->Same H H'->H' p=some (.lst ys)->IsL K H' ((clP ns ps).map prD) ys->Q (.ref p) H'
theorem Oj {f:Addr}{fd:FuncData}(F:Fun K "_law_closed" "_law_closed" Db f fd)(T:Gn mg)(Ec:Fnd P w K mg base 2 "_law_table" ["_law_half_here"] (G5 K)):FnOk P w K mg base CX0 3 f fd ["_law_half_here"] (Gz K):=by
 refine F.ok Fp (λvs H Q E h=>?_) (λcdv A outer s H vs Q E hr h=>?_)
 . obtain⟨v,ns,ps,rfl,_⟩:=h;rfl
 obtain⟨v,ns,ps,rfl,hI,hH,k⟩:=h;have hu:=C8 hr;have hq:=C7 hr;have hfew:=hH.few;have hn:=hH.names.1
 with_reducible refine⟨_,(A2 (Ac (i:=1) Fp.nd ⋯ (by with_unfolding_all exact A36 rfl) (As Ec (hr.mono nofun) ⋯ (A0 (pv 0) A1)))
  (A2 (Ac (i:=2) Fp.nd ⋯ (by eq_refl) (Bh A1))
  (A2 (C9 A14 ⋯ (Aq (K:=K) hu (Al (A6 (K:=K) hu) (pv 0) A4 (by ac_rfl))) (A8 (i:=3) Fp.nd ⋯ (by with_unfolding_all exact A36 rfl))
  (A5 (Bv (Fs (K:=K) A0Z A37 A38 (mm Jb) (pv 2) (A0 (Ba ["_law_other"] ["_law_one","_law_table_here"] [3,1] ⋯ ⋯ ⋯ (Aq (K:=K) hu (Al (A6 (K:=K) hu) (pv 0) A4 (by ac_rfl))) (λ_ _ _ _=>(A8 (i:=0) (by with_unfolding_all (show(["_law_other","_law_one","_law_table_here"]:List Str).Nodup;decide +kernel)) ⋯ (by eq_refl))) (Au nofun) (λ_ _ _ _=>(Fm (Ab (Km (K:=K) hq) (pv 0) (Al (A6 (K:=K) hu) (pv 2) (pv 1) (by ac_rfl)) ⋯))) (λ_ _ _ _=>(Bz (A0 (pv 1) (A0 (pv 0) A1))))) A1)))))
  (A5 (Am (pv 2)))))),?_⟩
 symm
 refine⟨v,ns,ps,rfl,hI,hH,λr as H1 hr1 e1 hT=>?_⟩
 symm
 refine Bg (A9 (by simp)) λp H2 hp2 e2 h2=>?_
 symm
 refine Hm (hI.hf_fz (by walk_at "fz")) λnv hN=>?_
 refine T9 hN (λi σ H3=>∃ x3,σ=[some v,some (.ref r),some (.ref p),x3]/\Same H1 H3/\Fz H2 H3/\∃ ys,H3 p=some (.lst ys)/\IsL K H3 (((ns.take i).flatMap (clR ns ps)).map prD) ys/\ys.length<=i*100)
  ⟨none,rfl,e2,.refl _,[],h2,by simp only[List.take_zero,List.flatMap_nil,List.map_nil];exact .nil,by simp⟩ (λi σ' H' hP=>?_) (λi z σ' H3 hz hP=>?_) (fun σ' H3 hP=>?_)
 . obtain⟨_,_,_,fz,_⟩:=hP;exact fz
 . obtain⟨x3,rfl,e3,fz3,ys,h3,hL,hly⟩:=hP;have hI3:Is K H3 (hfD ns ps) v:=hI.hf_fz (e1.fz.trans e3.fz);have hzm:=A02 hz;have hin:i<ns.length:=(A01.mp hz).1
   symm
   refine Hm hI3 λnv3 hN3=>?_;refine La hN3 (λy=>Ad ps z y) (λy=>prD (z,y)) (λ_=>Mm _) ∅ (λj y H4 R R' hy e4 hR hR'=>?_) (λq zs H4 hq4 e4 h4 hL4=>?_)
   . have hT4:=hT.same (e3.trans e4);obtain⟨a0,b0,ha0,hb0⟩:=hT4.at hzm;obtain⟨ks,hk1,hk2,hk3⟩:=hT4.row a0 z b0 ha0 hb0
     symm
     refine ag3 hT4 hn ha0 hb0 ?_;refine aj6 (SqL.of hk1) ?_;rw[Pt (hk3 y)]
     symm
     refine aE2 (λhc=>?_) (λhc=>?_)
     . symm
       refine Bq (A9 (by simp)) λt H5 ht5 e5 h5=>?_;exact hR hc _ _ e5 (Yx (SqT.of h5))
     exact hR' hc _ (Same.refl _)
   symm
   have h4p:=e4 _ _ h3
   have hlz:zs.length<=ns.length:=by rw[<- IsL.length hL4,A00];exact A1M _ _
   refine T2 h4p h4 ∅ λH5 e5 h5=>?_
   symm
   have fz5:Fz H4 H5:=e5.fzL h4p;refine⟨_,rfl,?_,(fz3.trans e4.fz).trans fz5,_,h5,?_,?_⟩
   . exact Same.off (q:=p) (H1:=H4) (e3.trans e4) hp2 e5
   . have ht:ns.take (i+1)=ns.take i++[z]:=by rw[A0I,hz];rfl
     rw[ht,A4I,A0A];refine IsL.append (IsL.fz (e4.fz.trans fz5) _ _ (Ev _) hL) ?_
     have e:([z].flatMap (clR ns ps)).map prD=(ns.filter λy=>Ad ps z y).map λy=>prD (z,y):=by simp[clR,Function.comp_def]
     rw[e];exact IsL.fz fz5 _ _ (Kx _ (λ_=>Mm _) _) hL4
   rw[A04];omega
 obtain⟨x3,rfl,e3,fz3,ys,h3,hL,hly⟩:=hP;rw[A0R] at hL
 symm
 exact k p ys H3 (e1.free hp2) (e1.trans e3) h3 hL
def Fc (K:W.Frag):Sp:=Dq K
theorem Ub {f:Addr}{fd:FuncData}(F:Fun K "_law_far" "_law_far" G9 f fd)(T:Gn mg):FnOk P w K mg base CX0 1 f fd ["_law_one","_law_other"] (Fc K):=by
 refine F.ok Gk (λvs H Q E h=>?_) (λcdv A outer s H vs Q E hr h=>?_)
 . obtain⟨v,u,one,other,rfl,_⟩:=h;rfl
 obtain⟨v,u,one,other,rfl,hV,hU,hsub,h10,h10',k⟩:=h;have hu:=C8 hr;have hq:=C7 hr
 with_reducible refine⟨_,(A2 (Ac (i:=2) Gk.nd ⋯ (by with_unfolding_all exact A36 rfl) (Ba ["_law_name"] ["_law_other"] [1] ⋯ ⋯ ⋯ (Aq (K:=K) hu (pv 0)) (λ_ _ _ _=>(A8 (i:=0) (by with_unfolding_all (show(["_law_name","_law_other"]:List Str).Nodup;decide +kernel)) ⋯ (by eq_refl))) (Au nofun) (λ_ _ _ _=>Bn) (λ_ _ _ _=>(Pe (K:=K) A2G A2P (Ga (K:=K)) (pv 1) (A0 (pv 0) A1)))))
  (A2 (Ac (i:=3) Gk.nd ⋯ (by eq_refl) A4)
  (A2 (C9 A14 ⋯ (Br ⋯ T.b_range (A0 (A7 (Aj (K:=K)) ⋯ T.b_len PyProof.Rows.Boot.«len» (A0 (pv 2) A1)) A1)) (A8 (i:=4) Gk.nd ⋯ (by with_unfolding_all exact A36 rfl))
  (A5 (Ac (i:=3) Gk.nd ⋯ (by eq_refl) (Ak (Ah (K:=K)) (pv 3) (A7 (Aj (K:=K)) ⋯ T.b_len PyProof.Rows.Boot.«len» (A0 (Ba ["_law_spot"] ["_law_spots","_law_k"] [2,4] ⋯ ⋯ ⋯ (Aq (K:=K) hu (B9 (Oi (K:=K)) (pv 2) (Be (Ak (Ah (K:=K)) (pv 4) A4)) Cq)) (λ_ _ _ _=>(A8 (i:=0) (by with_unfolding_all (show(["_law_spot","_law_spots","_law_k"]:List Str).Nodup;decide +kernel)) ⋯ (by eq_refl))) (Au nofun) (λ_ _ _ _=>(Fm (Ab Xm (pv 0) (Al (A6 (K:=K) hu) (pv 1) (pv 2) (by ac_rfl)) (Ao _)))) (λ_ _ _ _=>(pv 0))) A1))))))
  (A5 (Am (pv 3)))))),?_⟩
 symm
 refine La hV (λ_=>true) (λx=>PyData.int ((other.idxOf x:Nat):Int)) (λ_=>rfl) ∅ (λi x H1 R R' hx e1 hR hR'=>?_) (λq ys H1 hq1 e1 h1 hL1=>?_)
 . have hU1:=hU.nm_fz e1.fz;obtain⟨ua,rfl,hSu⟩:=hU1.nm;obtain⟨f1,f2,f3⟩:=L2.idx_at (hsub x (A02 hx))
   symm
   refine Y6 hSu ?_
   symm
   refine Jk hSu f1 f2 ?_;exact hR rfl _ _ (.refl _) rfl
 have hft:one.filter (λ_=>true)=one:=by simp
 rw[hft,show one.map (λx=>PyData.int ((other.idxOf x:Nat):Int))=(one.map λx=>((other.idxOf x:Nat):Int)).map PyData.int by rw[A2E];rfl] at hL1;have hys:=IsL.int_eq hL1;subst hys
 symm
 rw[A00,A00];refine Gq ∅ ?_
 refine Ez Ax (λi σ H2=>∃ x4,σ=[some v,some u,some (.ref q),some (.int ((((List.range i).map (Ta one other)).sum:Nat):Int)),x4]/\Same H1 H2)
  ⟨_,rfl,.refl _⟩ (λ_ _ _ _=>trivial) (λi x σ' H2 hx hi hP=>?_) (fun σ' H2 hP=>?_)
 . obtain ⟨x4,rfl,e2⟩:=hP;obtain⟨rfl,hi'⟩:=Cp hx
   cases hz:one[i]? with
   |none=>have:=List.getElem?_eq_none_iff.mp hz;omega
   |some z=>
     have hin:i<one.length:=(A01.mp hz).1;have hgd:one.getD i "" = z:=by rw[A1W,hz];rfl
     have h3:=e2 _ _ h1;rw[Int.zero_add]
     symm
     refine Ni (SqL.of h3) λq4 H4 hq4 e4 h4=>?_;rw[Ji ∅ (by rw[A00,A00];omega),show(((i:Nat):Int)+1).toNat=i+1 by omega,<- A32,<- A32] at h4;refine Go (SqL.of h4) ?_
     refine Cu (Aw (xs:=((one.drop (i+1)).map λx=>((other.idxOf x:Nat):Int)).map V.int)) (λp m acc H5=>Same H4 H5/\acc.length=(((one.drop (i+1)).take m).filter λx=>decide (other.idxOf x<other.idxOf z)).length)
      (λp H' hp' e' h'=>⟨e',rfl⟩) (λp m acc H5 hP=>SqL.of (hP.1 _ _ h4)) (λp m x5 acc H5 hp' hx5 hm hl hpa hP=>?_) (λp acc H5 hp' hpa hal hP=>?_)
     . obtain ⟨e5,hacc⟩:=hP;rw[A07,A07] at hx5
       cases hy:(one.drop (i+1))[m]? with
       |none=>rw[hy] at hx5;cases hx5
       |some y=>
         rw[hy] at hx5
         cases hx5;have htk:(one.drop (i+1)).take (m+1)=(one.drop (i+1)).take m++[y]:=by rw[A0I,hy];rfl
         symm
         refine Ej (((e4.trans e5)) _ _ h3) (Av (j:=i) (v:=.int ((other.idxOf z:Nat):Int)) (by rw[A07,A07,hz];rfl)) ?_
         symm
         refine Jt (λhc=>?_) (λhc=>?_)
         . symm
           refine Fq (by rw[A00,A00,A1G];omega) hm hl hpa λH6 e6 h6=>?_;refine⟨e5.off hp' e6,?_⟩;rw[htk,A22,A04,A04,hacc,A1Z,A10 (A0H (Int.ofNat_lt.mp hc))];rfl
         refine Iw hm hl hpa ⟨e5,?_⟩;rw[htk,A22,hacc,A1Z,A0W (by rw[A11 λh=>hc (Int.ofNat_lt.mpr h)];decide),List.filter_nil,A19]
     obtain⟨e5,hacc⟩:=hP;rw[A00,A00,A0R] at hacc;have hk:acc.length=Ta one other i:=by rw[hacc];unfold Ta;rw[hgd]
     symm
     rw[hk];have hval:((((List.range i).map (Ta one other)).sum:Nat):Int)+((Ta one other i:Nat):Int)=((((List.range (i+1)).map (Ta one other)).sum:Nat):Int):=by rw[Tc];omega
     rw[hval];exact⟨_,rfl,(e2.trans e4).trans e5⟩
 obtain⟨x4,rfl,e2⟩:=hP;rw[A00,A1F,A4T]
 symm
 exact k H2 (e1.trans e2)
def Dx (K:W.Frag):Sp:=λvs H Q _=>∃(lo l:Addr) (yo ys:List V) (O rows:List (List Str)) (n:Nat),vs=[.ref lo,.ref l]/\H lo=some (.lst yo)/\IsL K H (O.map nmD) yo/\H l=some (.lst ys)/\IsL K H (rows.map nmD) ys/\rows.Perm O/\O.length<=720/\(∀ r∈O,r.length=n/\∀ z∈r,Rf z=true)/\n<=10/\(1<=n\/O.length<2)/\∀ H',Same H H'->Q (.bl true) H'
theorem M6 {f:Addr}{fd:FuncData}(F:Fun K "_law_all_once" "_law_all_once" C6 f fd)(T:Gn mg):FnOk P w K mg base CX0 1 f fd ["_law_rows","_law_told"] (Dx K):=by
 refine F.ok M0 (λvs H Q E h=>?_) (λcdv A outer s H vs Q E hr h=>?_)
 . obtain⟨lo,l,yo,ys,O,rows,n,rfl,_⟩:=h;rfl
 obtain⟨lo,l,yo,ys,O,rows,n,rfl,hlo,hLo,hl,hL,hp,h720,hO,h10,hn,k⟩:=h;have hu:=C8 hr;have hq:=C7 hr;have hlen:=hp.length_eq;have hmO:∀ r∈O,r.length=n:=λr hr=>(hO r hr).1;have hmR:∀ r∈rows,r.length=n:=λr hr=>hmO r (hp.mem_iff.mp hr)
 with_reducible refine⟨_,(A5 (Am (ah0 (A7 (Iv (K:=K)) ⋯ T.b_isinstance PyProof.Rows.Boot.«isinstance» (A0 (pv 1) (A0 (Uy (v:=.ty "list") ⋯ T.b_list PyProof.Rows.Boot.«list» ⋯) A1))) (a48 (Ew (Cb (K:=K) hq) (A7 (Ea (K:=K) hq) ⋯ T.b_repr PyProof.Rows.Boot.«repr» (A0 (A7 (Lp (K:=K)) ⋯ T.b_sorted PyProof.Rows.Boot.«sorted» (A0 (pv 1) A1)) A1)) (A7 (Ea (K:=K) hq) ⋯ T.b_repr PyProof.Rows.Boot.«repr» (A0 (A7 (Lp (K:=K)) ⋯ T.b_sorted PyProof.Rows.Boot.«sorted» (A0 (pv 0) A1)) A1)) (Ao _)))))),?_⟩
 symm
 refine at3 (SqL.of hl) (by rfl) ?_
 symm
 refine Tb (.inl (SqL.of hl)) hL ∅ hmR ∅ λp2 z2 q2 H2 hp2 e2 h2 hq2 hs2 hL2=>?_;have hfr:=(Zd (Ls:=q2) (λr hr=>⟨by rw[hmR r (hq2.mem_iff.mp hr)];omega,(hO r (hp.mem_iff.mp (hq2.mem_iff.mp hr))).2⟩) (by rw[hq2.length_eq];omega)).sh rfl
 symm
 refine Jz (Is.of_lst (SqL.of h2) hL2) hfr ?_
 symm
 refine Tb (.inl (SqL.of (e2 _ _ hlo))) (IsL.mono e2 _ _ hLo) ∅ hmO hn λp3 z3 q3 H3 hp3 e3 h3 hq3 hs3 hL3=>?_;have hqq:q2=q3:=Vf ((hq2.trans hp).trans hq3.symm) hs2 hs3;subst hqq
 symm
 refine Jz (Is.of_lst (SqL.of h3) hL3) hfr ?_
 symm
 rw[A0H rfl];exact k H3 (e2.trans e3)
theorem a60 {a b:List Str}(hp:a.Perm b)(hn:b.Nodup)(h:Ek a b=1):Sw a b:=by
 by_cases hc:∀(i:Nat) x y,a[i]? = some x->a[i+1]? = some y->b.idxOf x<b.idxOf y
 . have e:=Z4 hp hn (a69 hc);subst e;rw[Dm,Kv (Lu hn)] at h
   cases h
 obtain⟨i,hc⟩:=A5O.mp hc;obtain⟨x,hc⟩:=A5O.mp hc;obtain⟨y,hc⟩:=A5O.mp hc;obtain⟨h1,hc⟩:=Classical.not_imp.mp hc;obtain⟨h2,hc⟩:=Classical.not_imp.mp hc;obtain⟨as,bs,ea,_⟩:=L4 h1 h2
 have hxy:x≠y:=λe=>by subst e;have hi:=(A01.mp h1).1;have:=(A3N hi (hp.nodup_iff.mpr hn)).mp (h1.trans h2.symm);omega
 have hne:b.idxOf x≠b.idxOf y:=λe=>hxy (by obtain⟨f1,_,_⟩:=L2.idx_at (hp.mem_iff.mp (A02 h1));obtain⟨f3,_,_⟩:=L2.idx_at (hp.mem_iff.mp (A02 h2));rw[e,f3] at f1;exact(A12 f1).symm)
 have hs:=Ig (bs:=bs) (show b.idxOf y<b.idxOf x by omega) as;rw[<- ea,<- Dm,<- Dm,h] at hs;have hpc:(as++y :: x :: bs).Perm b:=(A30 as (A3E ..)).trans (ea ▸ hp);exact⟨as,x,y,bs,ea,(Wc hpc hn ∅).symm,hxy⟩
def iV (n:Nat):V:=.int (n:Int)
def Ir (O:List (List Str))(i:Nat):List Str:=O.getD i []
def nxt (O:List (List Str))(i:Nat):List Nat:=(List.range O.length).filter λk=>decide (Ek (Ir O i) (Ir O k)=1)
theorem ar3 {O:List (List Str)}{i:Nat}{r:List Str}(h:O[i]? = some r):Ir O i=r:=by unfold Ir;rw[List.getD_eq_getElem?_getD,h];rfl
theorem Df {O:List (List Str)}{i:Nat}(h:i<O.length):Ir O i∈O/\O[i]? = some (Ir O i):=by have e:=A03 h;rw[ar3 e];exact⟨A2K _,e⟩
structure OkO (O:List (List Str)):Prop where
 nd:O.Nodup
 pm:∀ r∈O,∀ r'∈O,r.Perm r'
 rn:∀ r∈O,r.Nodup/\r.length<=10
structure WkI (O:List (List Str))(first:Nat)(q:List Nat×List Nat):Prop where
 nd:q.1.Nodup
 lt:∀ i∈q.1,i<O.length
 hd:∃ t,q.1=first :: t
 cn:Cn Sw (q.1.map (Ir O))
 on:∀ j∈q.2,j<O.length/\Cn Sw ((q.1++[j]).map (Ir O))
theorem WkI.full {O:List (List Str)}{first:Nat}{q:List Nat×List Nat}(h:WkI O first q)(hO:OkO O)(hl:q.1.length=O.length):HP O [Ir O first]:=by
 obtain⟨t,ht⟩:=h.hd;refine⟨t.map (Ir O),?_⟩;have e:[Ir O first]++t.map (Ir O)=q.1.map (Ir O):=by rw[ht];rfl
 rw[e];refine⟨?_,λr hr=>?_,h.cn,by rw[A00];exact hl⟩
 . refine List.pairwise_map.mpr (A4W (fun {a b} ha hb hab e=>hab ?_) h.nd);have h1:=(Df (h.lt a ha)).2;have h2:=(Df (h.lt b hb)).2;rw[e,<- h2] at h1;exact(A3N (h.lt a ha) hO.nd).mp h1
 obtain⟨i,hi,rfl⟩:=A0F.mp hr;exact(Df (h.lt i hi)).1
theorem WkI.next {O:List (List Str)}{first:Nat}{w l:List Nat}{x:Nat}(h:WkI O first (w,x :: l))(hO:OkO O)(hx:x∉w):WkI O first (w++[x],nxt O x):=by
 obtain⟨t,ht⟩:=h.hd;obtain⟨hxl,hxc⟩:=h.on x A0E;refine⟨?_,λi hi=>?_,⟨t++[x],by show w++[x]=_;rw[show w=first :: t from ht];rfl⟩,hxc,λj hj=>?_⟩
 . rw[A2F];exact⟨h.nd,by simp,λa ha b hb e=>hx (by rw[List.mem_singleton.mp hb] at e;exact e ▸ ha)⟩
 . rcases A0C.mp hi with g|g
   . exact h.lt i g
   rw[A0X.mp g];exact hxl
 unfold nxt at hj;obtain⟨hj1,hj2⟩:=A1H.mp hj;have hjl:=A1R.mp hj1;refine⟨hjl,?_⟩;have hsw:=a60 (hO.pm _ (Df hxl).1 _ (Df hjl).1) (hO.rn _ (Df hjl).1).1 (A1E hj2);have e:(w++[x]++[j]).map (Ir O)=(w++[x]).map (Ir O)++[Ir O j]:=by rw[A0A];rfl
 show Cn Sw ((w++[x]++[j]).map (Ir O));rw[e];refine Vj (a:=Ir O x) hxc ?_ hsw;rw[A0A,A04,A41,A0S,A60,A0T (A05 _),A2H];rfl
theorem WkI.less {O:List (List Str)}{first:Nat}{w l:List Nat}{x:Nat}(h:WkI O first (w,x :: l)):WkI O first (w,l):=⟨h.nd,h.lt,h.hd,h.cn,λj hj=>h.on j (A09 _ hj)⟩
def gW (m:Nat):Nat->Nat
 |0=>0
 |k+1=>1+m*(1+gW m k)
def eW (m:Nat)(q:List Nat×List Nat):Nat:=1+q.2.length*(1+gW m (m-q.1.length))
theorem ak9 {m x:Nat}{w l:List Nat}(n:List Nat)(hw:w.length<m)(hn:n.length<=m):eW m (w,l)+eW m (w++[x],n)<eW m (w,x :: l):=by
 unfold eW;obtain⟨k,hk⟩:∃ k,m-w.length=k+1:=⟨m-w.length-1,by omega⟩;have hk2:m-(w++[x]).length=k:=by rw[A04,A0S];omega
 rw[hk,hk2];have h1:n.length*(1+gW m k)<=m*(1+gW m k):=Nat.mul_le_mul_right _ hn;have h2:gW m (k+1)=1+m*(1+gW m k):=rfl;have h3:(x :: l).length*(1+gW m (k+1))=l.length*(1+gW m (k+1))+(1+gW m (k+1)):=by rw[A0G,A4Z,A5T]
 show 1+l.length*(1+gW m (k+1))+(1+n.length*(1+gW m k))<1+(x :: l).length*(1+gW m (k+1));omega
theorem ak5 {m x:Nat}{w l:List Nat}:eW m (w,l)<eW m (w,x :: l):=by unfold eW;show 1+l.length*(1+gW m (m-w.length))<1+(x :: l).length*(1+gW m (m-w.length));rw[A0G,A4Z,A5T];omega
def StE (H:Hp)(ln:Addr)(q:List Nat×List Nat)(y:V):Prop:=∃ t wa la:Addr,y = .ref t/\H t=some (.tup [.ref wa,.ref la])/\H wa=some (.lst (q.1.map iV))/\H la=some (.lst (q.2.map iV))/\wa≠ln/\la≠ln
structure StS (H:Hp)(ln:Addr)(st:List (List Nat×List Nat))(ys:List V):Prop where
 len:st.length=ys.length
 get:∀(i:Nat) q,st[i]? = some q->∃ y,ys[i]? = some y/\StE H ln q y
theorem StE.same {H H':Hp}{ln:Addr}{q:List Nat×List Nat}{y:V}(h:StE H ln q y)(e:Same H H'):StE H' ln q y:=by obtain⟨t,wa,la,rfl,h1,h2,h3,h4,h5⟩:=h;exact⟨t,wa,la,rfl,e _ _ h1,e _ _ h2,e _ _ h3,h4,h5⟩
theorem StE.but {H H':Hp}{ln:Addr}{xs:List V}{q:List Nat×List Nat}{y:V}(h:StE H ln q y)(hl:H ln=some (.lst xs))(e:ExtBut ln H H'):StE H' ln q y:=by obtain⟨t,wa,la,rfl,h1,h2,h3,h4,h5⟩:=h;exact⟨t,wa,la,rfl,e _ _ (ne_of h1 hl (by intro z;cases z)) h1,e _ _ h4 h2,e _ _ h5 h3,h4,h5⟩
theorem StS.same {H H':Hp}{ln:Addr}{st:List (List Nat×List Nat)}{ys:List V}(h:StS H ln st ys)(e:Same H H'):StS H' ln st ys:=⟨h.len,λi q hq=>let ⟨y,h1,h2⟩:=h.get i q hq;⟨y,h1,h2.same e⟩⟩
theorem StS.but {H H':Hp}{ln:Addr}{xs:List V}{st:List (List Nat×List Nat)}{ys:List V}(h:StS H ln st ys)(hl:H ln=some (.lst xs))(e:ExtBut ln H H'):StS H' ln st ys:=⟨h.len,λi q hq=>let ⟨y,h1,h2⟩:=h.get i q hq;⟨y,h1,h2.but hl e⟩⟩
theorem StS.snoc {H:Hp}{ln:Addr}{st:List (List Nat×List Nat)}{ys:List V}{q:List Nat×List Nat}{y:V}(h:StS H ln st ys)(g:StE H ln q y):StS H ln (st++[q]) (ys++[y]):=by
 refine⟨by rw[A04,A04,h.len];rfl,λi p hp=>?_⟩
 by_cases hi:i<st.length
 . rw[A18 hi] at hp;obtain⟨z,h1,h2⟩:=h.get i p hp;exact⟨z,by rw[A18 (by rw[<- h.len];exact hi)];exact h1,h2⟩
 have hil:=(A01.mp hp).1;rw[A04,A0S] at hil;have e:i=st.length:=by omega
 subst e;rw[A0T (A05 _),A2H] at hp
 cases hp;exact⟨y,by rw[h.len,A0T (A05 _),A2H];rfl,g⟩
theorem StS.pop {H:Hp}{ln:Addr}{st:List (List Nat×List Nat)}{ys:List V}{q:List Nat×List Nat}(h:StS H ln (st++[q]) ys):∃ ys' y,ys=ys'++[y]/\StS H ln st ys'/\StE H ln q y:=by
 have hl:=h.len;rw[A04,A0S] at hl;obtain⟨y,hy,hq⟩:=h.get st.length q (by rw[A0T (A05 _),A2H];rfl);have hyl:=(A01.mp hy).1;refine⟨ys.take st.length,y,?_,⟨by rw[A0J];omega,λi p hp=>?_⟩,hq⟩
 . have e:=A0I (l:=ys) (i:=st.length);rw[hy,A21 ∅] at e;exact e
 have hil:=(A01.mp hp).1;obtain⟨z,h1,h2⟩:=h.get i p (by rw[A18 hil];exact hp);exact⟨z,by rw[A2D hil];exact h1,h2⟩
theorem aA3 (x:Nat)(w:List Nat):inV (iV x) (w.map iV)=decide (x∈w):=by
 unfold inV iV;rw[List.any_map,A3I,A2B,A49];constructor
 . rintro⟨y,hy,h⟩;have h':eqV (V.int (y:Int)) (V.int (x:Int))=true:=h
   have:y=x:=by simp[eqV] at h';omega
   exact this ▸ hy
 intro h;refine⟨x,h,?_⟩;show eqV (V.int (x:Int)) (V.int (x:Int))=true;simp[eqV]
def J7 (K:W.Frag):Sp:=λvs H Q _=>∃(lo:Addr) (yo:List V) (O:List (List Str)) (first:Nat),vs=[.ref lo,.int ((first:Nat):Int)]/\H lo=some (.lst yo)/\IsL K H (O.map nmD) yo/\OkO O/\O.length<=100/\first<O.length/\¬ HP O [Ir O first]/\∀ H',Same H H'->Q (.bl false) H'
theorem Th {f:Addr}{fd:FuncData}(F:Fun K "_law_walk" "_law_walk" Fj f fd)(T:Gn mg)(B6:Fnd P w K mg base 1 "_law_far" ["_law_one","_law_other"] (Fc K)):FnOk P w K mg base CX0 2 f fd ["_law_rows","_law_first"] (J7 K):=by
 refine F.ok Ft (λvs H Q E h=>?_) (λcdv A outer s H vs Q E hr h=>?_)
 . obtain⟨lo,yo,O,first,rfl,_⟩:=h
   rfl
 obtain⟨lo,yo,O,first,rfl,hlo,hLo,hO,h100,hf,hno,k⟩:=h
 have hu:=C8 hr;have hq:=C7 hr;have hyl:yo.length=O.length:=by rw[<- IsL.length hLo,A00]
 have at_:∀ {H':Hp},Same H H'->∀ {i:Nat},i<O.length->∃ y,yo[i]? = some y/\Is K H' (nmD (Ir O i)) y:=fun {H'} e {i} hi=>by obtain⟨y,h1,h2⟩:=IsL.at (IsL.mono e _ _ hLo) (show(O.map nmD)[i]? = some (nmD (Ir O i)) by rw[A07,(Df hi).2];rfl);exact⟨y,h1,h2⟩
 with_reducible refine⟨_,(A2 (De (i:=2) ["_law_row"] ["_law_rows"] [0] ⋯ ⋯ ⋯ Ft.nd ⋯ ⋯ (Aq (K:=K) hu (pv 0)) (λ_ _ _ _=>(A8 (i:=0) (by with_unfolding_all (show(["_law_row","_law_rows"]:List Str).Nodup;decide +kernel)) ⋯ (by with_unfolding_all exact A36 rfl))) (Au nofun) (λ_ _ _ _=>Bn) (λ_ _ _ _=>(Ba ["_law_k"] ["_law_row","_law_rows"] [0,1] ⋯ ⋯ ⋯ (Br ⋯ T.b_range (A0 (A7 (Aj (K:=K)) ⋯ T.b_len PyProof.Rows.Boot.«len» (A0 (pv 1) A1)) A1)) (λ_ _ _ _=>(A8 (i:=0) (by with_unfolding_all (show(["_law_k","_law_row","_law_rows"]:List Str).Nodup;decide +kernel)) ⋯ (by eq_refl))) (Au nofun) (λ_ _ _ _=>(Fm (Ab (Cb (K:=K) hq) (As B6 (hr.mono nofun) ⋯ (A0 (pv 1) (A0 (Al (A6 (K:=K) hu) (pv 2) (pv 0) (by ac_rfl)) A1))) A4 (Ao _)))) (λ_ _ _ _=>(pv 0)))))
  (A2 (Ac (i:=3) Ft.nd ⋯ (by eq_refl) (Bh (A0 (Bz (A0 (Bh (A0 (pv 1) A1)) (A0 (Al (A6 (K:=K) hu) (pv 2) (pv 1) (by ac_rfl)) A1))) A1)))
  (A2 (M8 A14 (Ab (a41 (K:=K) hq) (pv 3) (Bh A1) (Ao _))
  (A2 (az5 (Qe (K:=K) A0Z A5I A5J (mm ai8) (pv 3)) (Po (K:=K) (n:=2) ⋯ (Gp (A8 (i:=4) Ft.nd ⋯ (by eq_refl)) (Gp (A8 (i:=5) Ft.nd ⋯ (by eq_refl)) Pr))))
  (A2 (C0 (Ab (Cb (K:=K) hq) (A7 (Aj (K:=K)) ⋯ T.b_len PyProof.Rows.Boot.«len» (A0 (pv 4) A1)) (A7 (Aj (K:=K)) ⋯ T.b_len PyProof.Rows.Boot.«len» (A0 (pv 0) A1)) (Ao _)) (A5 (Am Hl)) Ap)
  (A5 (C0 (Ab (a41 (K:=K) hq) (pv 5) (Bh A1) (Ao _)) (A2 (Bv (Fs (K:=K) A0Z A1U A1V (mm Du) (pv 3) (A0 (Bz (A0 (pv 4) (A0 (B9 (Oi (K:=K)) (pv 5) (Be A4) Cq) A1))) A1)))
  (A5 (C0 (Ab (Fw (K:=K) hq) (Al (A6 (K:=K) hu) (pv 5) A4 (by ac_rfl)) (pv 4) ⋯) (A5 (Bv (Fs (K:=K) A0Z A1U A1V (mm Du) (pv 3) (A0 (Bz (A0 (Ak (Ah (K:=K)) (pv 4) (Bh (A0 (Al (A6 (K:=K) hu) (pv 5) A4 (by ac_rfl)) A1))) (A0 (Al (A6 (K:=K) hu) (pv 2) (Al (A6 (K:=K) hu) (pv 5) A4 (by ac_rfl)) (by ac_rfl)) A1))) A1)))) Ap))) Ap)))))
  (A5 (Am Hl))))),?_⟩
 symm
 refine Go (SqL.of hlo) ?_;refine Cu (Aw (xs:=yo)) (λp i acc H2=>Same H H2/\acc.length=i/\∀ j,j<i->∃ a,acc[j]? = some (V.ref a)/\H2 a=some (.lst ((nxt O j).map iV))/\a≠p) (λp H' hp' e' h'=>⟨e',rfl,λj hj=>absurd hj ∅⟩) (λp i acc H2 hP=>SqL.of (hP.1 _ _ hlo)) (λp i x acc H2 hp' hx hi hl hpa hP=>?_) (λnl zs H2 hnl hz2 hal hP=>?_)
 . obtain⟨e2,hal,hac⟩:=hP;have hi':i<O.length:=by omega
   obtain⟨y,hy,hIy⟩:=at_ e2 hi';rw[hx] at hy
   cases hy
   symm
   rw[hyl];refine Gq ∅ ?_;refine Cu Ax (λp' m acc' H3=>Same H2 H3/\acc'=((List.range m).filter λk=>decide (Ek (Ir O i) (Ir O k)=1)).map iV) (λp H' hp' e' h'=>⟨e',rfl⟩) (λ_ _ _ _ _=>trivial) (λp' m z acc' H3 hp3 hz' hm hl' hpa' hP=>?_) (λp' acc' H3 hp3 hpa' hal' hP=>?_)
   . obtain⟨e3,rfl⟩:=hP;obtain⟨rfl,hmn⟩:=Cp hz';have hm':m<O.length:=by omega
     obtain⟨y2,hy2,hIy2⟩:=at_ (e2.trans e3) hm';have r1:=Df hi';have r2:=Df hm'
     symm
     refine Ej ((e2.trans e3) _ _ hlo) (show atI yo (0+((m:Nat):Int))=some y2 by rw[Int.zero_add];exact Av hy2) ?_
     symm
     refine⟨x,y2,Ir O i,Ir O m,rfl,Is.mono e3 _ _ hIy,hIy2,λz hz=>(hO.pm _ r1.1 _ r2.1).mem_iff.mp hz,(hO.rn _ r1.1).2,(hO.rn _ r2.1).2,λH4 e4=>?_⟩
     symm
     have hrs:∀ b:Bool,b=decide (Ek (Ir O i) (Ir O m)=1)->((List.range (m+1)).filter λk=>decide (Ek (Ir O i) (Ir O k)=1)).map iV=((List.range m).filter λk=>decide (Ek (Ir O i) (Ir O k)=1)).map iV++if b then [iV m] else []:=λb hb=>by
      rw[A4K,A22,A0A];congr 1
      cases b with
      |true=>simp[<- hb]
      |false=>simp[<- hb]
     refine Jt (λhc=>?_) (λhc=>?_)
     . have hc':Ek (Ir O i) (Ir O m)=1:=by injection hc with hc;omega
       symm
       refine Fq (by rw[A00,A1F];omega) hm hl' (e4 _ _ hpa') λH5 e5 h5=>?_;refine⟨(e3.trans e4).off hp3 e5,?_⟩;rw[hrs true (A0H hc').symm,Int.zero_add];rfl
     have hc':¬ Ek (Ir O i) (Ir O m)=1:=λe=>hc (by rw[e];rfl);refine Iw hm hl' (e4 _ _ hpa') ⟨e3.trans e4,?_⟩;rw[hrs false (A11 hc').symm];exact(A19 _).symm
   obtain⟨e3,rfl⟩:=hP;rw[A00,A1F,A4T] at hpa';have h3p:=e3 _ _ hpa;have hpp:p'≠p:=λz=>by rw[z,hpa] at hp3;cases hp3
   symm
   refine Fq ∅ hi' hl h3p λH4 e4 h4=>?_;refine⟨(e2.trans e3).off hp' e4,by rw[A04,A0S,hal],λj hj=>?_⟩
   by_cases ej:j=i
   . subst ej;exact⟨p',by rw[<- hal,A0T (A05 _),A2H];rfl,e4 _ _ hpp hpa',hpp⟩
   obtain⟨a,q1,q2,q3⟩:=hac j ∅;exact⟨a,by rw[A18 ∅];exact q1,e4 _ _ q3 (e3 _ _ q2),q3⟩
 obtain⟨e2,hzl,hac⟩:=hP;rw[hyl] at hac hzl
 have near:∀ {H':Hp},Same H2 H'->∀ {i:Nat},i<O.length->∃ a,atI zs ((i:Nat):Int)=some (V.ref a)/\H' a=some (.lst ((nxt O i).map iV))/\H2 a≠none:=fun {H'} e {i} hi=>by obtain⟨a,q1,q2,_⟩:=hac i hi;exact⟨a,Av q1,e _ _ q2,by rw[q2];exact λz=>(nomatch z)⟩
 symm
 obtain⟨na,hna,hna2,hna0⟩:=near (.refl _) hf;refine Bg (A9 (by simp)) λp3 H3 hp3 e3 h3=>?_
 symm
 refine Ej (e3 _ _ hz2) hna ?_
 symm
 refine Bq (A9 (by simp)) λp4 H4 hp4 e4 h4=>?_
 symm
 refine Bg (A9 (by simp)) λln H5 hp5 e5 h5=>?_;have e35:=e3.trans (e4.trans e5);have hln:H2 ln=none:=(e3.trans e4).free hp5;have hun:∀ {a:Addr} {o:HO},H4 a=some o->a≠ln:=λh z=>by rw[z,hp5] at h;cases h
 symm
 refine Qa (λm σ H6=>∃(st:List (List Nat×List Nat)) (ys:List V) (a b:Option V),σ=[some (.ref lo),some (.int ((first:Nat):Int)),some (.ref nl),some (.ref ln),a,b]/\Same H2 H6/\H6 ln=some (.lst ys)/\StS H6 ln st ys/\(∀ q∈st,WkI O first q)/\(∀(i:Nat) q,st[i]? = some q->q.1.length=i+1)/\m=(st.map (eW O.length)).sum) (([([first],nxt O first)].map (eW O.length)).sum)
  ⟨[([first],nxt O first)],[V.ref p4],none,none,rfl,e35,h5,?_,?_,λi q hq=>by cases i<;>cases hq;rfl,rfl⟩ (λm σ H6 hP=>?_)
 . refine⟨rfl,λi q hq=>?_⟩
   cases i with
   |zero=>cases hq;exact⟨_,rfl,p4,p3,na,rfl,e5 _ _ h4,e5 _ _ (e4 _ _ h3),e35 _ _ hna2,hun (e4 _ _ h3),hun (e4 _ _ (e3 _ _ hna2))⟩
   |succ i=>cases hq
 . intro q hq;rw[A0X.mp hq];refine⟨by simp,λi hi=>by rw[List.mem_singleton.mp hi];exact hf,⟨[],rfl⟩,trivial,λj hj=>?_⟩;unfold nxt at hj;obtain⟨hj1,hj2⟩:=A1H.mp hj;have hjl:=A1R.mp hj1;refine⟨hjl,?_⟩;have hsw:=a60 (hO.pm _ (Df hf).1 _ (Df hjl).1) (hO.rn _ (Df hjl).1).1 (A1E hj2);exact Vj (a:=Ir O first) (l:=[Ir O first]) trivial rfl hsw
 obtain⟨st,ys,a,b,rfl,e6,h6,hS,hW,hD,rfl⟩:=hP
 symm
 refine Bg (A9 (by simp)) λp7 H7 hp7 e7 h7=>?_
 symm
 refine ae0 (SqL.of (e7 _ _ h6)) (SqL.of h7) ?_
 symm
 rcases st.eq_nil_or_concat with rfl|⟨st,⟨w,l⟩,rfl⟩
 . have:ys=[]:=A0D.mp hS.len.symm;subst this;rw[A0W nofun]
   symm
   exact k H7 ((e2.trans e6).trans e7)
 rw[List.concat_eq_append] at *;obtain⟨ys,y,rfl,hS',hq'⟩:=(hS.same e7).pop;rw[A10 (by cases ys<;>rfl)]
 refine Vt ?_
 symm
 refine ae8 (e7 _ _ h6) λH8 e8 h8=>?_;obtain⟨t,wa,la,rfl,t1,t2,t3,t4,t5⟩:=hq'.but (e7 _ _ h6) e8;have hw:=hW (w,l) (A1D _ A0E);have e28:Same H2 H8:=(e6.trans e7).off hln e8;have hS8:=hS'.but (e7 _ _ h6) e8;have hW8:∀ q∈st,WkI O first q:=λq hq=>hW q (A1L _ hq)
 have hwl:w.length<O.length:=by have:=hw.full hO;have:=G4 (xs:=w) (ys:=List.range O.length) hw.nd λi hi=>A1R.mpr (hw.lt i hi);rw[A1F] at this;exact Nat.lt_of_le_of_ne this λz=>hno (hw.full hO z)
 have hwd:w.length=st.length+1:=hD st.length (w,l) (by rw[A0T (A05 _),A2H];rfl);have hD8:∀(i:Nat) q,st[i]? = some q->q.1.length=i+1:=λi q hq=>hD i q (by rw[A18 (A01.mp hq).1];exact hq);have hyl8:ys.length=st.length:=hS8.len.symm;have hme:((st++[(w,l)]).map (eW O.length)).sum=(st.map (eW O.length)).sum+eW O.length (w,l):=by rw[A0A,A3K,A41,A4S]
 rw[hme]
 symm
 refine au2 (SqT.of t1) ?_
 symm
 refine Jt (λhc=>?_) (λ_=>?_)
 . injection hc with hc;rw[A00] at hc;have hc:((w.length:Nat):Int)=((yo.length:Nat):Int):=hc;omega
 symm
 refine Bg (A9 (by simp)) λp9 H9 hp9 e9 h9=>?_
 symm
 refine ae0 (SqL.of (e9 _ _ t3)) (SqL.of h9) ?_
 symm
 cases l with
 |nil=>
   rw[A0W (by intro z;cases z)]
   symm
   refine⟨_,?_,st,ys,_,_,rfl,e28.trans e9,e9 _ _ h8,hS8.same e9,hW8,hD8,rfl⟩;rw[hme];show _<_+(1+_);omega
 |cons x l=>
   rw[A10 (by rfl)]
   symm
   refine Ni (SqL.of (e9 _ _ t3)) λp10 H10 hp10 e10 h10=>?_;have h10:H10 p10=some (.lst (l.map iV)):=by rw[h10,Ji nofun (by rw[A00,A0G];omega)];rfl
   symm
   refine Bq (A9 (by simp)) λp11 H11 hp11 e11 h11=>?_;have e911:=e9.trans (e10.trans e11)
   symm
   refine L3 (e911 _ _ h8) ∅ λH12 e12 h12=>?_;have hne:∀ {a:Addr},H8 a=none->a≠ln:=λh z=>by rw[z,h8] at h;cases h
   have g10:p10≠ln:=hne (e9.free hp10);have hE:StE H12 ln (w,l) (.ref p11):=⟨p11,wa,p10,rfl,e12 _ _ (hne ((e9.trans e10).free hp11)) h11,e12 _ _ t4 (e911 _ _ t2),e12 _ _ g10 (e11 _ _ h10),t4,g10⟩;have hS12:=((hS8.same e911).but (e911 _ _ h8) e12).snoc hE;have e212:Same H2 H12:=(e28.trans e911).off hln e12;have hwx:=hw.less
   have hW12:∀ q∈st++[(w,l)],WkI O first q:=λq hq=>by
    rcases A0C.mp hq with g|g
    . exact hW8 q g
    rw[A0X.mp g];exact hwx
   have snocD:∀ {st':List (List Nat×List Nat)} {q:List Nat×List Nat},(∀(i:Nat) q,st'[i]? = some q->q.1.length=i+1)->q.1.length=st'.length+1->∀(i:Nat) q',(st'++[q])[i]? = some q'->q'.1.length=i+1:=fun {st' q} hs hq i q' h=>by
    by_cases hi:i<st'.length
    . rw[A18 hi] at h;exact hs i q' h
    have hil:=(A01.mp h).1;rw[A04,A0S] at hil;have e:i=st'.length:=by omega
    subst e;rw[A0T (A05 _),A2H] at h
    cases h;exact hq
   have hD12:=snocD (q:=(w,l)) hD8 hwd;have t3':=e12 _ _ t5 (e911 _ _ t3);have t2':=e12 _ _ t4 (e911 _ _ t2);have hxl:=(hw.on x A0E).1;have h0:atI ((x :: l).map iV) 0=some (iV x):=Av (show((x :: l).map iV)[(0:Nat)]? = some (iV x) from rfl)
   symm
   refine Ej t3' h0 ?_
   symm
   refine .inl ⟨wa,w.map iV,rfl,.inl (SqL.of t2'),by rfl,by rw[A1T];intro v h;obtain⟨n,_,rfl⟩:=A0F.mp h;rfl,?_⟩;rw[aA3]
   symm
   rw[A10 rfl]
   by_cases hx:x∈w
   . rw[A0H hx,A0W nofun]
     symm
     refine⟨_,?_,st++[(w,l)],ys++[V.ref p11],_,_,rfl,e212,h12,hS12,hW12,hD12,rfl⟩;rw[hme,A0A,A3K,A41,A4S];have:=ak5 (m:=O.length) (x:=x) (w:=w) (l:=l);omega
   rw[A11 hx,A10 nofun];obtain⟨xa,hxa,hxa2,hxa0⟩:=near e212 hxl
   symm
   refine Ej t3' h0 ?_
   symm
   refine Bg (A9 (by simp)) λp13 H13 hp13 e13 h13=>?_
   symm
   refine Nc (e13 _ _ t2') h13 (A9 (by rw[A00,A0S];show w.length+1<=_;omega)) λp14 H14 hp14 e14 h14=>?_;have e1314:=e13.trans e14
   symm
   refine Ej (e1314 _ _ t3') h0 ?_
   symm
   refine Ej (e1314 _ _ (e212 _ _ hz2)) hxa ?_
   symm
   refine Bq (A9 (by simp)) λp15 H15 hp15 e15 h15=>?_;have e1315:=e1314.trans e15
   symm
   refine L3 (e1315 _ _ h12) (by rw[A04,A0S];omega) λH16 e16 h16=>?_;have hne2:∀ {a:Addr},H12 a=none->a≠ln:=λh z=>by rw[z,h12] at h;cases h
   have g14:p14≠ln:=hne2 (e13.free hp14);have gxa:xa≠ln:=λz=>hxa0 (z ▸ hln);have hE2:StE H16 ln (w++[x],nxt O x) (.ref p15):=⟨p15,p14,xa,rfl,e16 _ _ (hne2 (e1314.free hp15)) h15,by rw[e16 _ _ g14 (e15 _ _ h14),A0A];rfl,e16 _ _ gxa (e1315 _ _ hxa2),g14,gxa⟩;have hS16:=((hS12.same e1315).but (e1315 _ _ h12) e16).snoc hE2
   symm
   refine⟨_,?_,_,_,_,_,rfl,(e212.trans e1315).off hln e16,h16,hS16,λq hq=>?_,snocD hD12 (by show(w++[x]).length=_;rw[A04,A04,A0S,A0S,hwd]),rfl⟩
   . rw[hme,A0A,A3K,A41,A4S,A0A,A3K,A41,A4S];have:=ak9 (m:=O.length) (x:=x) (w:=w) (l:=l) (nxt O x) hwl (by unfold nxt;exact Nat.le_trans (List.length_filter_le _ _) (by rw[List.length_range];exact Nat.le_refl _));omega
   rcases A0C.mp hq with g|g
   . exact hW12 q g
   rw[A0X.mp g];exact hw.next hO hx
theorem ah3 {a b:List Str}(h:Sw a b)(hn:b.Nodup):Ek a b=1:=by
 obtain⟨as,x,y,bs,rfl,rfl,hxy⟩:=h
 have hlt:(as++y :: x :: bs).idxOf y<(as++y :: x :: bs).idxOf x:=by have hp:=A1A.mp (Lu hn);exact(A1J.mp hp.2.1).1 x A0E
 rw[Dm,Ig hlt as,Kv (Lu hn)]
theorem Zg {a b:Int}(ha:0<=a/\a<=1000)(hb:0<=b/\b<=1000):(PyData.tuple [.str "none",.int a,.int b]).showable=true/\(PyData.tuple [.str "none",.int a,.int b]).shown.length<=sizeLine/\(PyData.tuple [.str "none",.int a,.int b]).depth<=100:=by
 refine Dk.told (p:=3) (w:=1000) (W:=3) ((ae7 (p:=2) (w:=990) (W:=3) ⟨λe he=>?_,?_,by simp⟩).le ∅ ∅) ∅ ∅
 . simp only[List.mem_cons,List.not_mem_nil,or_false] at he;rcases he with rfl|rfl|rfl
   . exact⟨4,aw5 (by unfold Asc;decide +kernel) nofun⟩
   . exact⟨150,Lo ∅⟩
   exact⟨150,Lo ∅⟩
 have h1:=(Lo (p:=1) (W:=1) (m:=a) ∅).wt;have h2:=(Lo (p:=1) (W:=1) (m:=b) ∅).wt;have h3:(PyData.str "none").weight=4:=by decide +kernel
 simp only[PyData.weightAll];rw[h3];omega
def SgF (K:W.Frag)(H:Hp)(t:Addr)(ns:List Str)(ps:List (Str×Str)):Prop:=
 (1<(Wm (Ad ps) ns).natAbs/\SqT K H t [.str "none",.int (((cnt (Ad ps) ns:Nat):Int)-((L5 (Ad ps) ns:Nat):Int)),.int ((L5 (Ad ps) ns:Nat):Int)]) \/
 (¬ 1<(Wm (Ad ps) ns).natAbs/\ps≠[]/\2<=cnt (Ad ps) ns/\(cnt (Ad ps) ns<=12->∀ r∈ext (Ad ps) ns.length ns,¬ HP (ext (Ad ps) ns.length ns) [r])/\SqT K H t [.str "open"]) \/
 (¬ 1<(Wm (Ad ps) ns).natAbs/\∃ l zs rs,SqT K H t [.str "list",.ref l]/\H l=some (.lst zs)/\IsL K H (rs.map nmD) zs/\FP (ext (Ad ps) ns.length ns) rs)
theorem Yi (rs:List (List Str)):(PyData.tuple [.str "list",.list (rs.map nmD)]).shown≠(PyData.tuple [.str "open"]).shown:=by
 intro h;have h:=congrArg Str.length h;rw[show(PyData.tuple [.str "open"]).shown.length=9 by decide +kernel] at h;simp only[PyData.shown,PyData.shownAll,tupleText,listText,Str.join,Str.length_append] at h;have e1:(("(":String):Str).length=1:=rfl;have e2:((", ":String):Str).length=2:=rfl;have e3:(("]":String):Str).length=1:=rfl;have e4:=(textFrom_len (PyData.shownAll (rs.map nmD)) 0 "[").2.2;have e5:(("[":String):Str).length=1:=rfl;have e6:(PyData.str "list").shown.length=6:=by decide +kernel
 simp only[PyData.shown] at e6;rw[e6] at h;simp at h;omega
theorem a66 {rs:List (List Str)}(h:∀ L∈rs,L.length<=10/\∀ x∈L,Rf x=true)(hl:rs.length<=720):Fine (.tuple [.str "list",.list (rs.map nmD)]):=by
 refine⟨?_,?_,?_⟩
 . simp only[Bu,Hj,Bool.and_true,Bool.and_eq_true];exact⟨by decide +kernel,Fi _ rs λL hL=>(Gu (h L hL).2).1⟩
 . simp only[PyData.depth,PyData.depthAll];have:=J8 nmD 1 rs λL hL=>(Gu (h L hL).2).2.1;omega
 simp only[PyData.weight,PyData.weightAll]
 have:=Jm nmD 90 rs λL hL=>by have h1:=(Gu (h L hL).2).2.2;have h2:=(h L hL).1;omega
 have:=A3D hl (A05 91);have h3:("list":Str).cps.size=4:=by decide +kernel
 omega
def Dl (K:W.Frag):Sp:=λvs H Q _=>∃ t v lo yo ns ps,vs=[v,.ref lo,.ref t]/\SgF K H t ns ps/\Is K H (hfD ns ps) v/\Half ns ps/\cnt (Ad ps) ns<=120/\H lo=some (.lst yo)/\IsL K H ((ext (Ad ps) ns.length ns).map nmD) yo/\∀ H',Same H H'->Q (.bl true) H'
theorem Ju {f:Addr}{fd:FuncData}(F:Fun K "_law_single_right" "_law_single_right" B5 f fd)(T:Gn mg)(Hx:Fnd P w K mg base 3 "_law_closed" ["_law_half_here"] (Gz K))(B6:Fnd P w K mg base 1 "_law_far" ["_law_one","_law_other"] (Fc K))(C4:Fnd P w K mg base 1 "_law_all_once" ["_law_rows","_law_told"] (Dx K))(Kb:Fnd P w K mg base 2 "_law_walk" ["_law_rows","_law_first"] (J7 K)):FnOk P w K mg base CX0 4 f fd ["_law_half_here","_law_rows","_law_told"] (Dl K):=by
 refine F.ok Dn (λvs H Q E h=>?_) (λcdv A outer s H vs Q E hr h=>?_)
 . obtain⟨t,v,lo,yo,ns,ps,rfl,_⟩:=h;rfl
 obtain⟨t,v,lo,yo,ns,ps,rfl,hS,hI,hH,hcn,hlo,hLo,k⟩:=h;have hu:=C8 hr;have hq:=C7 hr;have hW:=hH.w;have h10:=hH.few;obtain⟨r0,hr0,hr1⟩:=Nr hW;have hall:=Wr hW h10;have hpm:∀ {r},r∈ext (Ad ps) ns.length ns->r.Perm ns:=fun {r} h=>((Cv _ _ _ _ hW.nd rfl).mp h).1;have hyl:yo.length=cnt (Ad ps) ns:=by rw[<- IsL.length hLo,A00];rfl
 have hole:=ag5 (Ad ps) ns
 have at_:∀ {H':Hp},Same H H'->∀ {i:Nat} {r:List Str},(ext (Ad ps) ns.length ns)[i]? = some r->∃ y,yo[i]? = some y/\Is K H' (nmD r) y:=fun {H'} e {i r} hr=>by obtain⟨y,h1,h2⟩:=IsL.at (IsL.mono e _ _ hLo) (show((ext (Ad ps) ns.length ns).map nmD)[i]? = some (nmD r) by rw[A07,hr];rfl);exact⟨y,h1,h2⟩
 with_reducible refine⟨_,(A2 (Ac (i:=3) Dn.nd ⋯ (by eq_refl) (A7 (Aj (K:=K)) ⋯ T.b_len PyProof.Rows.Boot.«len» (A0 (Ba ["_law_row"] ["_law_rows"] [1] ⋯ ⋯ ⋯ (Aq (K:=K) hu (pv 1)) (λ_ _ _ _=>(A8 (i:=0) (by with_unfolding_all (show(["_law_row","_law_rows"]:List Str).Nodup;decide +kernel)) ⋯ (by eq_refl))) (Au nofun) (λ_ _ _ _=>(Fm (Ab (Cb (K:=K) hq) (Ak Ip (As B6 (hr.mono nofun) ⋯ (A0 (Al (A6 (K:=K) hu) (pv 1) A4 (by ac_rfl)) (A0 (pv 0) A1))) A4) A4 (Ao _)))) (λ_ _ _ _=>(pv 0))) A1)))
  (A2 (Ac (i:=4) Dn.nd ⋯ (by eq_refl) (Ak G2 (A7 (Aj (K:=K)) ⋯ T.b_len PyProof.Rows.Boot.«len» (A0 (pv 1) A1)) (pv 3)))
  (A2 (C0 (PW.pt (Qb (Ab Sn (A7 Pl ⋯ T.b_abs PyProof.Rows.Boot.«abs» (A0 (Ak G2 (pv 4) (pv 3)) A1)) A4 (Ao _)) (Pc (Ab (Cb (K:=K) hq) (Al (A6 (K:=K) hu) (pv 2) A4 (by ac_rfl)) B3 (Ao _))))) (A5 (Am (ah0 (Ew Sn (A7 Pl ⋯ T.b_abs PyProof.Rows.Boot.«abs» (A0 (Ak G2 (pv 4) (pv 3)) A1)) A4 (Ao _)) (a48 (Ew (Cb (K:=K) hq) (A7 (Ea (K:=K) hq) ⋯ T.b_repr PyProof.Rows.Boot.«repr» (A0 (pv 2) A1)) (A7 (Ea (K:=K) hq) ⋯ T.b_repr PyProof.Rows.Boot.«repr» (A0 (Bz (A0 B3 (A0 (pv 4) (A0 (pv 3) A1)))) A1)) (Ao _)))))) Ap)
  (A2 (C0 (Ab (Cb (K:=K) hq) (A7 (Ea (K:=K) hq) ⋯ T.b_repr PyProof.Rows.Boot.«repr» (A0 (pv 2) A1)) (A7 (Ea (K:=K) hq) ⋯ T.b_repr PyProof.Rows.Boot.«repr» (A0 (Bz (A0 B3 A1)) A1)) (Ao _)) (A2 (C0 (Ab (ao2 (K:=K) hq) (As Hx (hr.mono nofun) ⋯ (A0 (pv 0) A1)) (Bh A1) (Ao _)) (A5 (Am Hl)) Ap)
  (A5 (Am (aF4 (Ew Sn (A7 (Aj (K:=K)) ⋯ T.b_len PyProof.Rows.Boot.«len» (A0 (pv 1) A1)) A4 (Ao _)) (a48 (Ew (Fw (K:=K) hq) Hl (Ba ["_law_first"] ["_law_rows"] [1] ⋯ ⋯ ⋯ (Br ⋯ T.b_range (A0 (A7 (Aj (K:=K)) ⋯ T.b_len PyProof.Rows.Boot.«len» (A0 (pv 1) A1)) A1)) (λ_ _ _ _=>(A8 (i:=0) (by with_unfolding_all (show(["_law_first","_law_rows"]:List Str).Nodup;decide +kernel)) ⋯ (by eq_refl))) (Au nofun) (λ_ _ _ _=>Bn) (λ_ _ _ _=>(As Kb (hr.mono nofun) ⋯ (A0 (pv 1) (A0 (pv 0) A1))))) ⋯)))))) Ap)
  (A2 (C0 (PW.pt (Qb (Ab (Iy (K:=K) hq) (A7 (Aj (K:=K)) ⋯ T.b_len PyProof.Rows.Boot.«len» (A0 (pv 2) A1)) A4 (Ao _)) (Qb (Ab (Iy (K:=K) hq) (Al (A6 (K:=K) hu) (pv 2) A4 (by ac_rfl)) B3 (Ao _)) (Pc (Kh (Kj (As C4 (hr.mono nofun) ⋯ (A0 (pv 1) (A0 (Al (A6 (K:=K) hu) (pv 2) A4 (by ac_rfl)) A1))))))))) (A5 (Am Hl)) Ap)
  (A5 (Am (Ew (Fw (K:=K) hq) Hl (Ba ["_law_k"] ["_law_told"] [2] ⋯ ⋯ ⋯ (Kf ⋯ T.b_range (A0 A4 (A0 (A7 (Aj (K:=K)) ⋯ T.b_len PyProof.Rows.Boot.«len» (A0 (pv 1) A1)) A1))) (λ_ _ _ _=>(A8 (i:=0) (by with_unfolding_all (show(["_law_k","_law_told"]:List Str).Nodup;decide +kernel)) ⋯ (by eq_refl))) (Au nofun) (λ_ _ _ _=>Bn) (λ_ _ _ _=>(Ew (Cb (K:=K) hq) (As B6 (hr.mono nofun) ⋯ (A0 (Al (A6 (K:=K) hu) (Al (A6 (K:=K) hu) (pv 1) A4 (by ac_rfl)) (Ak G2 (pv 0) A4) (by ac_rfl)) (A0 (Al (A6 (K:=K) hu) (Al (A6 (K:=K) hu) (pv 1) A4 (by ac_rfl)) (pv 0) (by ac_rfl)) A1))) A4 (Ao _)))) ⋯)))))))),?_⟩
 symm
 refine Go (SqL.of hlo) ?_
 refine Cu (Aw (xs:=yo)) (λq m acc H2=>Same H H2/\acc.length=(((ext (Ad ps) ns.length ns).take m).map λr=>Ek r0 r % 2).sum)
  (λq H' hq' e' h'=>⟨e',rfl⟩) (λq m acc H2 hP=>SqL.of (hP.1 _ _ hlo)) (λq m x acc H2 hq' hx hm hl hqa hP=>?_) (λq acc H2 hq' hqa hal hP=>?_)
 . obtain⟨e2,hac⟩:=hP;have hro:=A03 (show m<(ext (Ad ps) ns.length ns).length by have e:yo.length=(ext (Ad ps) ns.length ns).length:=hyl;omega);generalize (ext (Ad ps) ns.length ns)[m]=row at hro;obtain⟨y,hy,hIy⟩:=at_ e2 hro;rw[hx] at hy
   cases hy;obtain⟨y0,hy0,hI0⟩:=at_ e2 hr0;have m0:=A02 hr0;have m1:=A02 hro
   have hsum:(((ext (Ad ps) ns.length ns).take (m+1)).map λr=>Ek r0 r % 2).sum=(((ext (Ad ps) ns.length ns).take m).map λr=>Ek r0 r % 2).sum+Ek r0 row % 2:=by rw[A0I,hro,A0A,A3K];show _+(Ek r0 row % 2+0)=_;rfl
   symm
   refine Ej (e2 _ _ hlo) (show atI yo ((0:Nat):Int)=some y0 from Av hy0) ?_
   symm
   refine⟨y0,x,r0,row,rfl,hI0,hIy,(hall r0 m0).2 row m1,(hall r0 m0).1,(hall row m1).1,λH3 e3=>?_⟩
   symm
   refine Jt (λhc=>?_) (λhc=>?_)
   . have hc':Ek r0 row % 2=1:=by injection hc with hc;omega
     symm
     refine Fq ∅ hm hl (e3 _ _ hqa) λH4 e4 h4=>?_;refine⟨(e2.trans e3).off hq' e4,?_⟩;rw[hsum,A04,A0S];omega
   have hc':¬ Ek r0 row % 2=1:=λe=>hc (by congr 1;omega);refine Iw hm hl (e3 _ _ hqa) ⟨e2.trans e3,?_⟩;rw[hsum];omega
 obtain⟨e2,hac⟩:=hP;rw[hyl,show cnt (Ad ps) ns=(ext (Ad ps) ns.length ns).length from rfl,A0R] at hac;have hodd:acc.length=L5 (Ad ps) ns:=by unfold L5;rw[hr1];exact hac
 have h2l:=e2 _ _ hlo
 symm
 rw[hyl,hodd];refine⟨_,rfl,?_⟩
 symm
 have hpair:∀ {H':Hp} {a:Addr},SqT K H' a [.str "none",.int (((cnt (Ad ps) ns:Nat):Int)-((L5 (Ad ps) ns:Nat):Int)),.int ((L5 (Ad ps) ns:Nat):Int)]->Is K H' (.tuple [.str "none",.int (((cnt (Ad ps) ns:Nat):Int)-((L5 (Ad ps) ns:Nat):Int)),.int ((L5 (Ad ps) ns:Nat):Int)]) (.ref a):=λh=>Is.of_tup h (.cons Jy (.cons (by simp only[Is]) (.one (by simp only[Is]))));refine Jt (λhc=>?_) (λhc=>?_)
 . have hc':1<(Wm (Ad ps) ns).natAbs:=by unfold Wm;split at hc<;>omega
   have hS':=hS.resolve_right (by rintro(h|h)<;>exact h.1 hc')
   obtain⟨t1,t2,t3⟩:=Zg (a:=((cnt (Ad ps) ns:Nat):Int)-((L5 (Ad ps) ns:Nat):Int)) (b:=((L5 (Ad ps) ns:Nat):Int)) ∅ ∅
   symm
   refine⟨_,rfl,?_⟩
   symm
   refine Jt (λ_=>?_) (λh=>absurd hc h)
   symm
   refine Jz (hpair (e2.seqT hS'.2)) ⟨rfl,t1,t2,t3⟩ ?_
   symm
   refine Bq (A9 (by simp)) λt5 H5 ht5 e5 h5=>?_
   symm
   refine Jz (hpair (SqT.of h5)) ⟨rfl,t1,t2,t3⟩ ?_
   symm
   rw[A0H rfl];exact k H5 (e2.trans e5)
 have hc':¬ 1<(Wm (Ad ps) ns).natAbs:=by unfold Wm;split at hc<;>omega
 have so:Sh (.tuple [.str "open"]):=⟨rfl,by decide +kernel,by decide +kernel,by decide +kernel⟩;rcases hS with h|⟨_,hps,h2',h12,hS⟩|⟨_,l,zs,rs,hS,hl,hL,hf⟩
 . exact absurd h.1 hc'
 . symm
   refine Hn (e2.seqT hS) (show atI _ ((0:Nat):Int)=_ from Av rfl) ?_
   symm
   refine Jt (λh=>?_) (λ_=>?_)
   . injection h with h;exact absurd h nofun
   symm
   refine Jz (Is.of_tup (e2.seqT hS) (.one Jy)) so ?_
   symm
   refine Bq (A9 (by simp)) λt5 H5 ht5 e5 h5=>?_;have e25:=e2.trans e5
   symm
   refine Jz (Is.of_tup (SqT.of h5) (.one Jy)) so ?_
   symm
   refine⟨v,ns,ps,rfl,hI.hf_fz e25.fz,hH,λp6 ys6 H6 hp6 e6 h6 hL6=>?_⟩
   symm
   refine Bg (A9 (by simp)) λp7 H7 hp7 e7 h7=>?_;have e27:=e25.trans (e6.trans e7)
   have hne:ys6≠[]:=λz=>by
    obtain⟨p,hp⟩:=List.exists_mem_of_ne_nil _ hps;have hm:p∈clP ns ps:=mem_clP.mpr ⟨(hW.mem p hp).1,(hW.mem p hp).2,.one hp⟩;have hlen:=IsL.length hL6;rw[z,A00] at hlen;rw[A0D.mp hlen] at hm
    cases hm
   symm
   refine aB0 (SqL.of (e7 _ _ h6)) (SqL.of h7) ?_;rw[show ys6.isEmpty=false by cases ys6 with | nil=>exact absurd rfl hne | cons _ _=>rfl]
   symm
   refine Jt (λ_=>?_) (λhn=>?_)
   . symm
     exact k H7 e27
   symm
   refine Gq ∅ ?_;rw[hyl];refine Ic (K:=K) Ax (List.range (cnt (Ad ps) ns)) (by simp) (λ_=>false) (by rw[List.length_map,List.length_range];omega) (λ_ _=>trivial) (λm z xv H8 R hz hxv e8 hR=>?_) (λq8 H8 hq8 e8 h8=>?_)
   . obtain⟨rfl,hm⟩:=Cp hxv;have hn':cnt (Ad ps) ns<=12:=by omega
     have hm':m<(ext (Ad ps) ns.length ns).length:=by have e:cnt (Ad ps) ns=(ext (Ad ps) ns.length ns).length:=rfl;omega
     symm
     refine⟨lo,yo,_,m,by rw[Int.zero_add];rfl,(e27.trans e8) _ _ hlo,IsL.mono (e27.trans e8) _ _ hLo,⟨L0 _ _ _ hW.nd,λr hr r' hr'=>(hpm hr).trans (hpm hr').symm,λr hr=>⟨(hpm hr).nodup_iff.mpr hW.nd,(hall r hr).1⟩⟩,A0B hn' nofun,hm',h12 hn' _ (Df hm').1,λH9 e9=>hR H9 e9⟩
   symm
   refine aD5 h8 ?_;rw[show((List.range (cnt (Ad ps) ns)).map λ_=>false).any id=false by rw[List.any_eq_false];intro b hb;obtain⟨_,_,rfl⟩:=A0F.mp hb;decide];exact k H8 (e27.trans e8)
 have hrm:∀ r∈rs,r∈ext (Ad ps) ns.length ns:=hf.2.1;have hper:=(Pz hf.1 hrm (by rw[hf.2.2.2];exact A05 _)).symm;have hrl:rs.length=cnt (Ad ps) ns:=hper.length_eq;have hor:∀ r∈rs,r.length<=10/\∀ x∈r,Rf x=true:=λr hr=>⟨(hall r (hrm r hr)).1,λx hx=>hH.names.2 x ((hpm (hrm r hr)).mem_iff.mp hx)⟩
 symm
 refine Hn (e2.seqT hS) (show atI _ ((0:Nat):Int)=_ from Av rfl) ?_
 symm
 refine Jt (λh=>?_) (λ_=>?_)
 . injection h with h;exact absurd h nofun
 symm
 refine Jz (Is.of_tup (e2.seqT hS) (.cons Jy (.one (Is.of_lst (SqL.of (e2 _ _ hl)) (IsL.mono e2 _ _ hL))))) ((a66 hor ∅).sh rfl) ?_
 symm
 refine Bq (A9 (by simp)) λt5 H5 ht5 e5 h5=>?_;have e25:=e2.trans e5;have hS5:=e25.seqT hS
 symm
 refine Jz (Is.of_tup (SqT.of h5) (.one Jy)) so ?_
 symm
 refine Jt (λh=>?_) (λ_=>?_)
 . injection h with h;exact absurd h (Yi rs)
 symm
 refine .inl ⟨.ref t,_,rfl,.inr ⟨_,hS5,rfl⟩,?_⟩
 symm
 refine Sl (λh=>absurd rfl h) (λ_=>?_)
 symm
 refine Hn hS5 (show atI _ ((0:Nat):Int)=_ from Av rfl) ?_
 symm
 refine Hn hS5 (show atI _ ((1:Nat):Int)=_ from Av rfl) ?_
 symm
 refine⟨lo,l,yo,zs,_,rs,ns.length,rfl,e25 _ _ hlo,IsL.mono e25 _ _ hLo,e25 _ _ hl,IsL.mono e25 _ _ hL,hper,by show cnt (Ad ps) ns<=720;omega,λr hr=>⟨(hpm hr).length_eq,λz hz=>hH.names.2 z ((hpm hr).mem_iff.mp hz)⟩,h10,?_,λH6 e6=>?_⟩
 . rcases A4Q ns.length with e|e
   . right
     rw[A0D.mp e];exact(show [([]:List Str)].length<2 by decide)
   exact .inl e
 have e26:=e25.trans e6
 symm
 rw[hyl];refine Wu ∅ ?_;refine Ic (K:=K) Ax (List.range (((cnt (Ad ps) ns:Nat):Int)-1).toNat) (by simp) (λ_=>true) (by rw[List.length_map,List.length_range];omega) (λ_ _=>trivial) (λm z xv H8 R hz hxv e8 hR=>?_) (λq8 H8 hq8 e8 h8=>?_)
 . obtain⟨rfl,hm⟩:=Cp hxv;have e28:=e26.trans e8;have hS8:=e28.seqT hS;have hL8:=IsL.mono e28 _ _ hL;have g1:=A03 (show m<rs.length by omega);have g2:=A03 (show m+1<rs.length by omega);generalize rs[m]=a at g1;generalize rs[m+1]=b at g2;obtain⟨y1,hy1,hI1⟩:=IsL.at hL8 (show(rs.map nmD)[m]? = some (nmD a) by rw[A07,g1];rfl);obtain⟨y2,hy2,hI2⟩:=IsL.at hL8 (show(rs.map nmD)[m+1]? = some (nmD b) by rw[A07,g2];rfl);have ma:=hrm _ (A02 g1);have mb:=hrm _ (A02 g2);have hsw:=ah3 (a45 hf.2.2.1 m a b g1 g2) ((hpm mb).nodup_iff.mpr hW.nd)
   symm
   refine Hn hS8 (show atI _ ((1:Nat):Int)=_ from Av rfl) ?_
   symm
   refine Ej (e28 _ _ hl) (show atI zs (1+((m:Nat):Int)-1)=some y1 by rw[show(1+((m:Nat):Int)-1)=((m:Nat):Int) by omega];exact Av hy1) ?_
   symm
   refine Hn hS8 (show atI _ ((1:Nat):Int)=_ from Av rfl) ?_
   symm
   refine Ej (e28 _ _ hl) (show atI zs (1+((m:Nat):Int))=some y2 by rw[show(1+((m:Nat):Int))=((m+1:Nat):Int) by omega];exact Av hy2) ?_
   symm
   refine⟨y1,y2,a,b,rfl,hI1,hI2,(hall a ma).2 b mb,(hall a ma).1,(hall b mb).1,λH9 e9=>?_⟩
   symm
   rw[hsw,A0H (by rfl)];exact hR H9 e9
 symm
 refine a53 h8 ?_;rw[Jp λ_ _=>rfl];exact k H8 (e26.trans e8)
def Fe (K:W.Frag):Sp:=λvs H Q _=>∃ v u w lo yo ns ps one other,vs=[v,.ref lo,u,w]/\Is K H (hfD ns ps) v/\Half ns ps/\cnt (Ad ps) ns<=120/\H lo=some (.lst yo)/\IsL K H ((ext (Ad ps) ns.length ns).map nmD) yo/\Is K H (nmD one) u/\one∈ext (Ad ps) ns.length ns/\Is K H (nmD other) w/\other∈ext (Ad ps) ns.length ns/\∀ H',Same H H'->Q (.bl true) H'
theorem Lf {f:Addr}{fd:FuncData}(F:Fun K "_law_way_right" "_law_way_right" Bo f fd)(T:Gn mg)(Um:Fnd P w K mg base 3 "apart" ["half","one","other"] (Pq K))(Hy:Fnd P w K mg base 3 "way_between" ["half","one","other"] (Hc K))(B6:Fnd P w K mg base 1 "_law_far" ["_law_one","_law_other"] (Fc K)):FnOk P w K mg base CX0 4 f fd ["_law_half_here","_law_rows","_law_one","_law_other"] (Fe K):=by
 refine F.ok Fh (λvs H Q E h=>?_) (λcdv A outer s H vs Q E hr h=>?_)
 . obtain⟨v,u,w,lo,yo,ns,ps,one,other,rfl,_⟩:=h;rfl
 obtain⟨v,u,w,lo,yo,ns,ps,one,other,rfl,hI,hH,hcn,hlo,hLo,hU,h1,hV,h2,k⟩:=h;have hu:=C8 hr;have hq:=C7 hr;have hW:=hH.w;have h10:=hH.few;have hall:=Wr hW h10;have hpm:∀ {r},r∈ext (Ad ps) ns.length ns->r.Perm ns:=fun {r} h=>((Cv _ _ _ _ hW.nd rfl).mp h).1;have hsh:∀ {r},r∈ext (Ad ps) ns.length ns->Fine (nmD r):=fun {r} h=>Qw (λz hz=>hH.names.2 z ((hpm h).mem_iff.mp hz)) (by rw[(hpm h).length_eq];omega)
 have hm:Ek one other<=100:=by rw[Dm];refine A0B (Qy other one) ?_;rw[(hpm h1).length_eq];exact A3D h10 h10
 with_reducible refine⟨_,(A2 (Ac (i:=4) Fh.nd ⋯ (by with_unfolding_all exact A36 rfl) (As Hy (hr.mono nofun) ⋯ (A0 (pv 0) (A0 (pv 2) (A0 (pv 3) A1)))))
  (A2 (Ac (i:=5) Fh.nd ⋯ (by eq_refl) (As B6 (hr.mono nofun) ⋯ (A0 (pv 2) (A0 (pv 3) A1))))
  (A2 (C0 (PW.pt (Qb (Kh (Kj (A7 (Iv (K:=K)) ⋯ T.b_isinstance PyProof.Rows.Boot.«isinstance» (A0 (pv 4) (A0 (Uy (v:=.ty "tuple") ⋯ T.b_tuple PyProof.Rows.Boot.«tuple» ⋯) A1))))) (Qb (Ab (Iy (K:=K) hq) (A7 (Aj (K:=K)) ⋯ T.b_len PyProof.Rows.Boot.«len» (A0 (pv 4) A1)) (Ak (Ah (K:=K)) (pv 5) A4) (Ao _)) (Qb (Ab (Iy (K:=K) hq) (Al (A6 (K:=K) hu) (pv 4) A4 (by ac_rfl)) (pv 2) (Ao _)) (Pc (Ab (Iy (K:=K) hq) (Al (A6 (K:=K) hu) (pv 4) (Yb Rl A4) (by ac_rfl)) (pv 3) (Ao _))))))) (A5 (Am Hl)) Ap)
  (A2 (C0 (PW.pt (Qb (Ab (Iy (K:=K) hq) (A7 Pd ⋯ T.b_repr PyProof.Rows.Boot.«repr» (A0 (As Um (hr.mono nofun) ⋯ (A0 (pv 0) (A0 (pv 2) (A0 (pv 3) A1)))) A1)) (A7 Pd ⋯ T.b_repr PyProof.Rows.Boot.«repr» (A0 (pv 5) A1)) (Ao _)) (Pc (Ab (Km (K:=K) hq) Hl (Ba ["_law_row"] ["_law_rows"] [1] ⋯ ⋯ ⋯ (Aq (K:=K) hu (pv 4)) (λ_ _ _ _=>(A8 (i:=0) (by with_unfolding_all (show(["_law_row","_law_rows"]:List Str).Nodup;decide +kernel)) ⋯ (by eq_refl))) (Au nofun) (λ_ _ _ _=>Bn) (λ_ _ _ _=>(Ew (Km (K:=K) hq) (pv 0) (pv 1) ⋯))) ⋯)))) (A5 (Am Hl)) Ap)
  (A5 (Am (Ew (Fw (K:=K) hq) Hl (Ba ["_law_k"] ["_law_told"] [4] ⋯ ⋯ ⋯ (Kf ⋯ T.b_range (A0 A4 (A0 (A7 (Aj (K:=K)) ⋯ T.b_len PyProof.Rows.Boot.«len» (A0 (pv 4) A1)) A1))) (λ_ _ _ _=>(A8 (i:=0) (by with_unfolding_all (show(["_law_k","_law_told"]:List Str).Nodup;decide +kernel)) ⋯ (by eq_refl))) (Au nofun) (λ_ _ _ _=>Bn) (λ_ _ _ _=>(Ew (Cb (K:=K) hq) (As B6 (hr.mono nofun) ⋯ (A0 (Al (A6 (K:=K) hu) (pv 1) (Ak G2 (pv 0) A4) (by ac_rfl)) (A0 (Al (A6 (K:=K) hu) (pv 1) (pv 0) (by ac_rfl)) A1))) A4 (Ao _)))) ⋯))))))),?_⟩
 symm
 refine⟨v,u,w,ns,ps,one,other,rfl,hI,hH,hU,h1,hV,h2,λrows z H1 e1 hZ hWy hrl=>?_⟩
 symm
 refine⟨u,w,one,other,rfl,hU.nm_fz e1.fz,hV.nm_fz e1.fz,(hall one h1).2 other h2,(hall one h1).1,(hall other h2).1,λH2 e2=>?_⟩;have e12:=e1.trans e2;obtain⟨ta,zx,rfl,hSz,hLz⟩:=Is.tup hZ;have hzl:zx.length=rows.length:=by rw[<- IsL.length hLz,A00]
 have hS2:=e2.seqT hSz;have hL2:=IsL.mono e2 _ _ hLz
 have at_:∀ {H':Hp},Same H1 H'->∀ {i:Nat} {r:List Str},rows[i]? = some r->∃ y,zx[i]? = some y/\Is K H' (nmD r) y:=fun {H'} e {i r} hr=>by obtain⟨y,h1,h2⟩:=IsL.at (IsL.mono e _ _ hLz) (show(rows.map nmD)[i]? = some (nmD r) by rw[A07,hr];rfl);exact⟨y,h1,h2⟩
 symm
 refine ai3 hS2 (b:=true) (by first | rfl | kernel_rfl) ?_
 symm
 refine .inl ⟨.ref ta,_,rfl,.inr ⟨_,hS2,rfl⟩,?_⟩;obtain⟨y0,g0,hy0⟩:=at_ e2 hWy.fst;have hlst:rows[rows.length-1]? = some other:=by rw[<- A3P];exact hWy.lst
 obtain⟨y1,g1,hy1⟩:=at_ e2 hlst
 have hat:atI zx (-1)=some y1:=by
  unfold atI
  have e:ixN zx.length (-1)=some (zx.length-1):=by unfold ixN;rw[A0W ∅,A10 ∅];congr 1;omega
  rw[e,Option.bind_some,hzl];exact g1
 symm
 refine Sl (λhc=>absurd (by rw[hzl,hrl];congr 1;omega) hc) (λ_=>?_)
 symm
 refine Hn hS2 (show atI zx 0=some y0 from Av g0) ?_
 symm
 refine ac9 hy0 (hU.nm_fz e12.fz) (hsh h1).shaped (hsh h1).shaped ?_;rw[Ou,A0H rfl]
 symm
 refine Hn hS2 hat ?_
 symm
 refine ac9 hy1 (hV.nm_fz e12.fz) (hsh h2).shaped (hsh h2).shaped ?_;rw[Ou,A0H rfl]
 symm
 refine⟨v,u,w,ns,ps,one,other,rfl,hI.hf_fz e12.fz,hW,h10,hU.nm_fz e12.fz,h1,hV.nm_fz e12.fz,h2,λH3 e3=>?_⟩;have hS3:=e3.seqT hS2
 symm
 refine a50 ∅ ?_
 symm
 refine a50 ∅ ?_
 symm
 refine Ry hS3 ?_;refine Ic (K:=K) (Gw (xs:=zx)) rows hzl.symm (λ_=>true) ∅ (λH' e=>e.seqT hS3) (λm r xv H4 R hr hxv e4 hR=>?_) (λq4 H4 hq4 e4 h4=>?_)
 . obtain⟨y,hy,hIy⟩:=at_ (e2.trans (e3.trans e4)) hr;rw[hxv] at hy
   cases hy;have e04:=e12.trans (e3.trans e4);have hre:=hWy.all r (A02 hr)
   have hlay:PyData.canLayAll0 ((ext (Ad ps) ns.length ns).map nmD)=true:=by have:=En (.list ((ext (Ad ps) ns.length ns).map nmD)) (by simp only[Bu];exact Fi _ _ λL hL=>(hsh hL).plain);simpa only[PyData.canLay0] using this
   have hany:(((ext (Ad ps) ns.length ns).map nmD).any λe=>PyData.eqv e (nmD r))=true:=by rw[A2B];exact⟨nmD r,A0F.mpr ⟨r,hre,rfl⟩,by rw[Ou];exact A0H rfl⟩
   symm
   refine aw6 hIy (.inl (Is.of_lst (SqL.of (e04 _ _ hlo)) (IsL.mono e04 _ _ hLo))) hlay (En _ (hsh hre).plain) (A0B (hsh hre).deep nofun) ?_;rw[hany];exact hR H4 (.refl _)
 symm
 refine ae4 h4 ?_;rw[Jp λ_ _=>rfl];have hS4:=e4.seqT hS3
 symm
 refine .inl ⟨.ref ta,_,rfl,.inr ⟨_,hS4,rfl⟩,?_⟩
 symm
 refine Wu ∅ ?_;refine Ic (K:=K) Ax (List.range (((zx.length:Nat):Int)-1).toNat) (by simp) (λ_=>true) (by rw[List.length_map,List.length_range];omega) (λ_ _=>trivial) (λm z xv H8 R hz hxv e8 hR=>?_) (λq8 H8 hq8 e8 h8=>?_)
 . obtain⟨rfl,hm⟩:=Cp hxv;have hS8:=e8.seqT hS4;have e28:=e2.trans (e3.trans (e4.trans e8));have g1:=A03 (show m<rows.length by omega);have g2:=A03 (show m+1<rows.length by omega);generalize rows[m]=a at g1;generalize rows[m+1]=b at g2;obtain⟨x1,hx1,hI1⟩:=at_ e28 g1;obtain⟨x2,hx2,hI2⟩:=at_ e28 g2;have ma:=hWy.all _ (A02 g1);have mb:=hWy.all _ (A02 g2);have hsw:=ah3 (hWy.sw m a b g1 g2) ((hpm mb).nodup_iff.mpr hW.nd)
   symm
   refine Hn hS8 (show atI zx (1+((m:Nat):Int)-1)=some x1 by rw[show(1+((m:Nat):Int)-1)=((m:Nat):Int) by omega];exact Av hx1) ?_
   symm
   refine Hn hS8 (show atI zx (1+((m:Nat):Int))=some x2 by rw[show(1+((m:Nat):Int))=((m+1:Nat):Int) by omega];exact Av hx2) ?_
   symm
   refine⟨x1,x2,a,b,rfl,hI1,hI2,(hall a ma).2 b mb,(hall a ma).1,(hall b mb).1,λH9 e9=>?_⟩
   symm
   rw[hsw,A0H (by rfl)];exact hR H9 e9
 symm
 refine a53 h8 ?_;rw[Jp λ_ _=>rfl];exact k H8 (e12.trans (e3.trans (e4.trans e8)))
def spLaw (K:W.Frag):Sp:=λvs H Q _=>∃(a:Addr) (ns:List Int),vs=[.ref a]/\SqL K H a (ns.map V.int)/\ns.length<=63/\∀ H',Q (.bl true) H'
theorem ay0 {K:W.Frag}{H:Hp}{Q:VK}{E:XK}{v:V}{ns:List Str}{ps:List (Str×Str)}(hI:Is K H (hfD ns ps) v)(hW:HalfW ns ps)(h10:ns.length<=10)(hNm:∀ z∈ns,Rf z=true)(hcn:cnt (Ad ps) ns<=720)
  (k:∀ t H',Same H H'->SgF K H' t ns ps->Q (.ref t) H'):Fo K [v] H Q E:=
 ⟨v,ns,ps,rfl,hI,hW,h10,hNm,hcn,λhc t H' e hS=>k t H' e (.inl ⟨hc,hS⟩),λhc hps h2 h12 t H' e hS=>k t H' e (.inr (.inl ⟨hc,hps,h2,h12,hS⟩)),λhc t l zs rs H' e hl hS h hL hf=>k t H' e (.inr (.inr ⟨hc,l,zs,rs,hS,h,hL,hf⟩))⟩
theorem aa8 {a b:Int}(ha:0<=a/\a<=1000)(hb:0<=b/\b<=1000):Sh (PyData.tuple [.int a,.int b]):=by
 obtain⟨h1,h2,h3⟩:=Dk.told (D:=PyData.tuple [.int a,.int b]) (p:=3) (w:=1000) (W:=3) ((ae7 (p:=2) (w:=990) (W:=3) ⟨λe he=>by
  simp only[List.mem_cons,List.not_mem_nil,or_false] at he;rcases he with rfl|rfl
  . exact⟨150,Lo ∅⟩
  . exact⟨150,Lo ∅⟩,by
  have h1:=(Lo (p:=1) (W:=1) (m:=a) ∅).wt;have h2:=(Lo (p:=1) (W:=1) (m:=b) ∅).wt;simp only[PyData.weightAll];omega,by simp⟩).le ∅ ∅) ∅ ∅
 exact⟨rfl,h1,h2,h3⟩
theorem as8 {f:Addr}{fd:FuncData}(F:Fun K "law" "law" Qg f fd)(T:Gn mg)(L7:Fnd P w K mg base 15 "sides" ["half"] (Mf K))(K9:Fnd P w K mg base 127 "near_list" ["half"] (J0 K))(Ib:Fnd P w K mg base 128 "single_list" ["half"] (Fo K))(Ka:Fnd P w K mg base 1 "_law_feed" ["_law_script"] (J9 K))(Aa:Fnd P w K mg base 1 "_law_draw" ["_law_feed_here","_law_many"] (Ca K))(K3:Fnd P w K mg base 4 "_law_half" ["_law_feed_here","_law_most"] (Ix K))(Hw:Fnd P w K mg base 3 "_law_orders" ["_law_half_here"] (Gy K))(B6:Fnd P w K mg base 1 "_law_far" ["_law_one","_law_other"] (Fc K))(C4:Fnd P w K mg base 1 "_law_all_once" ["_law_rows","_law_told"] (Dx K))(Dz:Fnd P w K mg base 4 "_law_single_right" ["_law_half_here","_law_rows","_law_told"] (Dl K))(Fx:Fnd P w K mg base 4 "_law_way_right" ["_law_half_here","_law_rows","_law_one","_law_other"] (Fe K)):FnOk P w K mg base CX0 129 f fd ["_law_script"] (spLaw K):=by
 refine F.ok Jw (λvs H Q E h=>?_) (λcdv A outer s H vs Q E hr h=>?_)
 . obtain⟨a,ns,rfl,_⟩:=h;rfl
 obtain⟨a,cs,rfl,hS,h63,k⟩:=h;have hu:=C8 hr;have hq:=C7 hr
 with_reducible refine⟨_,(A2 (Ac (i:=1) Jw.nd ⋯ (by eq_refl) (As Ka (hr.mono nofun) ⋯ (A0 (pv 0) A1)))
  (A2 (C9 A14 ⋯ (Aq (K:=K) hu (Bz (A0 A4 (A0 A4 (A0 A4 A1))))) (A8 (i:=2) Jw.nd ⋯ (by eq_refl))
  (A2 (Ac (i:=3) Jw.nd ⋯ (by eq_refl) (As K3 (hr.mono nofun) ⋯ (A0 (pv 1) (A0 (pv 2) A1))))
  (A2 (Ac (i:=4) Jw.nd ⋯ (by with_unfolding_all exact A36 rfl) (As Hw (hr.mono nofun) ⋯ (A0 (pv 3) A1)))
  (A2 (Ac (i:=5) Jw.nd ⋯ (by with_unfolding_all exact A36 rfl) (As K9 (hr.mono nofun) ⋯ (A0 (pv 3) A1)))
  (A2 (C0 (Kh (Kj (As C4 (hr.mono nofun) ⋯ (A0 (pv 4) (A0 (pv 5) A1))))) (A5 (Am Hl)) Ap)
  (A2 (C0 (Ab (Km (K:=K) hq) Hl (Ba ["_law_k"] ["_law_told"] [5] ⋯ ⋯ ⋯ (Kf ⋯ T.b_range (A0 A4 (A0 (A7 (Aj (K:=K)) ⋯ T.b_len PyProof.Rows.Boot.«len» (A0 (pv 4) A1)) A1))) (λ_ _ _ _=>(A8 (i:=0) (by with_unfolding_all (show(["_law_k","_law_told"]:List Str).Nodup;decide +kernel)) ⋯ (by eq_refl))) (Au nofun) (λ_ _ _ _=>Bn) (λ_ _ _ _=>(ab2 au5 au5 A4 (As B6 (hr.mono nofun) ⋯ (A0 (Al (A6 (K:=K) hu) (pv 1) (Ak G2 (pv 0) A4) (by ac_rfl)) (A0 (Al (A6 (K:=K) hu) (pv 1) (pv 0) (by ac_rfl)) A1))) A4))) ⋯) (A5 (Am Hl)) Ap)
  (A2 (Ac (i:=6) Jw.nd ⋯ (by eq_refl) (A7 (Aj (K:=K)) ⋯ T.b_len PyProof.Rows.Boot.«len» (A0 (Ba ["_law_row"] ["_law_rows"] [4] ⋯ ⋯ ⋯ (Aq (K:=K) hu (pv 4)) (λ_ _ _ _=>(A8 (i:=0) (by with_unfolding_all (show(["_law_row","_law_rows"]:List Str).Nodup;decide +kernel)) ⋯ (by eq_refl))) (Au nofun) (λ_ _ _ _=>(Fm (Ab (Cb (K:=K) hq) (Ak Ip (As B6 (hr.mono nofun) ⋯ (A0 (Al (A6 (K:=K) hu) (pv 1) A4 (by ac_rfl)) (A0 (pv 0) A1))) A4) A4 (Ao _)))) (λ_ _ _ _=>(pv 0))) A1)))
  (A2 (C0 (PW.pt (Qb (Ab (Iy (K:=K) hq) (A7 (Ea (K:=K) hq) ⋯ T.b_repr PyProof.Rows.Boot.«repr» (A0 (As L7 (hr.mono nofun) ⋯ (A0 (pv 3) A1)) A1)) (A7 (Ea (K:=K) hq) ⋯ T.b_repr PyProof.Rows.Boot.«repr» (A0 (Bz (A0 (Ak G2 (A7 (Aj (K:=K)) ⋯ T.b_len PyProof.Rows.Boot.«len» (A0 (pv 4) A1)) (pv 6)) (A0 (pv 6) A1))) A1)) (Ao _)) (Pc (Kh (Kj (As Dz (hr.mono nofun) ⋯ (A0 (pv 3) (A0 (pv 4) (A0 (As Ib (hr.mono nofun) ⋯ (A0 (pv 3) A1)) A1))))))))) (A5 (Am Hl)) Ap)
  (A5 (C9 A14 ⋯ (Br ⋯ T.b_range (A0 A4 A1)) (A8 (i:=7) Jw.nd ⋯ (by eq_refl))
  (A2 (Ac (i:=8) Jw.nd ⋯ (by eq_refl) (Al (A6 (K:=K) hu) (pv 4) (As Aa (hr.mono nofun) ⋯ (A0 (pv 1) (A0 (A7 (Aj (K:=K)) ⋯ T.b_len PyProof.Rows.Boot.«len» (A0 (pv 4) A1)) A1))) (by ac_rfl)))
  (A2 (Ac (i:=9) Jw.nd ⋯ (by eq_refl) (Al (A6 (K:=K) hu) (pv 4) (As Aa (hr.mono nofun) ⋯ (A0 (pv 1) (A0 (A7 (Aj (K:=K)) ⋯ T.b_len PyProof.Rows.Boot.«len» (A0 (pv 4) A1)) A1))) (by ac_rfl)))
  (A5 (C0 (Kh (Kj (As Fx (hr.mono nofun) ⋯ (A0 (pv 3) (A0 (pv 4) (A0 (pv 8) (A0 (pv 9) A1))))))) (A5 (Am Hl)) Ap))))))))))))))
  (A5 (Am Hl)))),?_⟩
 symm
 refine⟨a,cs,rfl,hS,h63,λd l H1 hd hl e1 hF=>?_⟩
 symm
 refine Bq (A9 (by simp)) λq4 H4 hq4 e4 h4=>?_;have hF4:=hF.same e4
 symm
 refine Ry (SqT.of h4) ?_;refine Ez (Gw (xs:=[V.int 5,V.int 4,V.int 4])) (λi σ H5=>∃ x2 x3 x4 x5 x6 x7 x8 x9,σ=[some (.ref a),some (.ref d),x2,x3,x4,x5,x6,x7,x8,x9]/\Feed H5 d l/\H5 q4=some (.tup [V.int 5,V.int 4,V.int 4])) ⟨_,_,_,_,_,_,_,_,rfl,hF4,h4⟩ (λi σ' H' hP=>?_) (λi x σ H5 hx hi hP=>?_) (fun σ H5 hP=>?_)
 . obtain⟨_,_,_,_,_,_,_,_,_,_,h⟩:=hP;exact SqT.of h
 . obtain⟨x2,x3,x4,x5,x6,x7,x8,x9,rfl,hF5,h5⟩:=hP
   obtain⟨m,rfl,hm1,hm2⟩:∃ m:Int,x = .int m/\0<=m/\m<=5:=by
    have:=A02 hx;simp only[List.mem_cons,List.not_mem_nil,or_false] at this;rcases this with rfl|rfl|rfl
    . exact⟨5,rfl,by omega,by omega⟩
    . exact⟨4,rfl,by omega,by omega⟩
    exact⟨4,rfl,by omega,by omega⟩
   symm
   refine⟨d,l,m,rfl,hF5,hm1,by omega,λv6 n6 s6 H6 e6 hF6 hI6 hH hn6=>?_⟩;have hW:=hH.w;have h10:=hH.few;have hcn:cnt (Ad s6) n6<=120:=A0B (L2.cnt_le _ _ _ rfl hW.nd) (A0B (Wf (show n6.length<=5 by omega)) nofun);have hall:=Wr hW h10;have hpm:∀ {r},r∈ext (Ad s6) n6.length n6->r.Perm n6:=fun {r} h=>((Cv _ _ _ _ hW.nd rfl).mp h).1;obtain⟨r0,hr0,hr1⟩:=Nr hW;have hole:=ag5 (Ad s6) n6
   symm
   refine⟨v6,n6,s6,rfl,hI6,hH,by omega,λlo yo H7 hl7 e7 h7 hL7=>?_⟩;rw[a08] at hL7;have hyl:yo.length=cnt (Ad s6) n6:=by rw[<- IsL.length hL7,A00];rfl
   symm
   refine⟨v6,n6,s6,rfl,hI6.hf_fz e7.fz,hW,h10,by omega,λl8 ys8 rows H8 hl8 e8 h8 hL8 hp8 hN8=>?_⟩;have hrl:rows.length=cnt (Ad s6) n6:=hp8.length_eq;have hzl:ys8.length=rows.length:=by rw[<- IsL.length hL8,A00]
   symm
   refine⟨lo,l8,yo,ys8,_,rows,n6.length,rfl,e8 _ _ h7,IsL.mono e8 _ _ hL7,h8,hL8,hp8,by show cnt (Ad s6) n6<=720;omega,λr hr=>⟨(hpm hr).length_eq,λz hz=>hH.names.2 z ((hpm hr).mem_iff.mp hz)⟩,h10,?_,λH9 e9=>?_⟩
   . rcases A4Q n6.length with e|e
     . right
       rw[A0D.mp e];exact(show [([]:List Str)].length<2 by decide)
     exact .inl e
   have e79:=e8.trans e9
   symm
   rw[hyl];refine Wu ∅ ?_;refine Ic (K:=K) Ax (List.range (((cnt (Ad s6) n6:Nat):Int)-1).toNat) (by simp) (λ_=>true) (by rw[List.length_map,List.length_range];omega) (λ_ _=>trivial) (λi z xv H10 R hz hxv e10 hR=>?_) (λq10 H10 hq10 e10 h10'=>?_)
   . obtain⟨rfl,hi1⟩:=Cp hxv;have e810:=e9.trans e10;have hL10:=IsL.mono e810 _ _ hL8;have g1:=A03 (show i<rows.length by omega);have g2:=A03 (show i+1<rows.length by omega);generalize rows[i]=a at g1;generalize rows[i+1]=b at g2;obtain⟨y1,hy1,hI1⟩:=IsL.at hL10 (show(rows.map nmD)[i]? = some (nmD a) by rw[A07,g1];rfl);obtain⟨y2,hy2,hI2⟩:=IsL.at hL10 (show(rows.map nmD)[i+1]? = some (nmD b) by rw[A07,g2];rfl);have ma:=hp8.mem_iff.mp (A02 g1);have mb:=hp8.mem_iff.mp (A02 g2);obtain⟨d1,d3⟩:=hN8 i a b g1 g2
     symm
     refine Ej (e810 _ _ h8) (show atI ys8 (1+((i:Nat):Int)-1)=some y1 by rw[show(1+((i:Nat):Int)-1)=((i:Nat):Int) by omega];exact Av hy1) ?_
     symm
     refine Ej (e810 _ _ h8) (show atI ys8 (1+((i:Nat):Int))=some y2 by rw[show(1+((i:Nat):Int))=((i+1:Nat):Int) by omega];exact Av hy2) ?_
     symm
     refine⟨y1,y2,a,b,rfl,hI1,hI2,(hall a ma).2 b mb,(hall a ma).1,(hall b mb).1,λH11 e11=>?_⟩
     symm
     rw[A0H (show(1:Int)<=((Ek a b:Nat):Int) by omega)]
     symm
     rw[A0H (show((Ek a b:Nat):Int)<=(3:Int) by omega)];exact hR H11 e11
   have e710:=e79.trans e10
   symm
   refine ae4 h10' ?_;rw[Jp λ_ _=>rfl]
   symm
   have at_:∀ {H':Hp},Same H7 H'->∀ {i:Nat} {r:List Str},(ext (Ad s6) n6.length n6)[i]? = some r->∃ y,yo[i]? = some y/\Is K H' (nmD r) y:=fun {H'} e {i r} hr=>by obtain⟨y,h1,h2⟩:=IsL.at (IsL.mono e _ _ hL7) (show((ext (Ad s6) n6.length n6).map nmD)[i]? = some (nmD r) by rw[A07,hr];rfl);exact⟨y,h1,h2⟩
   refine Go (SqL.of (e710 _ _ h7)) ?_
   refine Cu (Aw (xs:=yo)) (λq m acc H2=>Same H10 H2/\acc.length=(((ext (Ad s6) n6.length n6).take m).map λr=>Ek r0 r % 2).sum)
    (λq H' hq' e' h'=>⟨e',rfl⟩) (λq m acc H2 hP=>SqL.of ((e710.trans hP.1) _ _ h7)) (λq m x acc H2 hq' hx hm hl hqa hP=>?_) (λq acc H11 hq' hqa hal hP=>?_)
   . obtain⟨e2,hac⟩:=hP;have hro:=A03 (show m<(ext (Ad s6) n6.length n6).length by have e:yo.length=(ext (Ad s6) n6.length n6).length:=hyl;omega);generalize (ext (Ad s6) n6.length n6)[m]=row at hro;have e72:=e710.trans e2;obtain⟨y,hy,hIy⟩:=at_ e72 hro;rw[hx] at hy
     cases hy;obtain⟨y0,hy0,hI0⟩:=at_ e72 hr0;have m0:=A02 hr0;have m1:=A02 hro
     have hsum:(((ext (Ad s6) n6.length n6).take (m+1)).map λr=>Ek r0 r % 2).sum=(((ext (Ad s6) n6.length n6).take m).map λr=>Ek r0 r % 2).sum+Ek r0 row % 2:=by rw[A0I,hro,A0A,A3K];show _+(Ek r0 row % 2+0)=_;rfl
     symm
     refine Ej (e72 _ _ h7) (show atI yo ((0:Nat):Int)=some y0 from Av hy0) ?_
     symm
     refine⟨y0,x,r0,row,rfl,hI0,hIy,(hall r0 m0).2 row m1,(hall r0 m0).1,(hall row m1).1,λH3 e3=>?_⟩
     symm
     refine Jt (λhc=>?_) (λhc=>?_)
     . have hc':Ek r0 row % 2=1:=by injection hc with hc;omega
       symm
       refine Fq ∅ hm hl (e3 _ _ hqa) λH4 e4 h4=>?_;refine⟨(e2.trans e3).off hq' e4,?_⟩;rw[hsum,A04,A0S];omega
     have hc':¬ Ek r0 row % 2=1:=λe=>hc (by congr 1;omega);refine Iw hm hl (e3 _ _ hqa) ⟨e2.trans e3,?_⟩;rw[hsum];omega
   obtain⟨e11,hac⟩:=hP;have e711:=e710.trans e11;rw[hyl,show cnt (Ad s6) n6=(ext (Ad s6) n6.length n6).length from rfl,A0R] at hac;have hodd:acc.length=L5 (Ad s6) n6:=by unfold L5;rw[hr1];exact hac
   have hI11:=hI6.hf_fz (e7.trans e711).fz
   symm
   rw[hodd];refine⟨v6,n6,s6,rfl,hI11,hW,h10,by omega,λt12 H12 e12 h12=>?_⟩;have st:=aa8 (a:=((cnt (Ad s6) n6:Nat):Int)-((L5 (Ad s6) n6:Nat):Int)) (b:=((L5 (Ad s6) n6:Nat):Int)) ∅ ∅;have hpair:∀ {H':Hp} {a:Addr},SqT K H' a [.int (((cnt (Ad s6) n6:Nat):Int)-((L5 (Ad s6) n6:Nat):Int)),.int ((L5 (Ad s6) n6:Nat):Int)]->Is K H' (.tuple [.int (((cnt (Ad s6) n6:Nat):Int)-((L5 (Ad s6) n6:Nat):Int)),.int ((L5 (Ad s6) n6:Nat):Int)]) (.ref a):=λh=>Is.of_tup h (.cons (by simp only[Is]) (.one (by simp only[Is])))
   symm
   refine Jz (hpair h12) st ?_
   symm
   rw[hyl];refine Bq (A9 (by simp)) λt13 H13 ht13 e13 h13=>?_
   symm
   refine Jz (hpair (SqT.of h13)) st ?_;have e713:=e711.trans (e12.trans e13);have hI13:=hI6.hf_fz (e7.trans e713).fz
   symm
   refine ay0 hI13 hW h10 hH.names.2 ∅ λt14 H14 e14 hSg=>?_;have e714:=e713.trans e14
   symm
   refine⟨t14,v6,lo,yo,n6,s6,rfl,hSg,hI13.hf_fz e14.fz,hH,hcn,e714 _ _ h7,IsL.mono e714 _ _ hL7,λH15 e15=>?_⟩;have e715:=e714.trans e15;have hF15:=(hF6.same e7).same e715;have hq6:=e6 _ _ (hF5.tup h5) h5
   symm
   refine Gq ∅ ?_;refine Ez Ax (λj σ H16=>∃ y2 y5 y6 y7 y8 y9,σ=[some (.ref a),some (.ref d),y2,some v6,some (.ref lo),y5,y6,y7,y8,y9]/\Feed H16 d l/\H16 q4=some (.tup [V.int 5,V.int 4,V.int 4])/\H16 lo=some (.lst yo)/\IsL K H16 ((ext (Ad s6) n6.length n6).map nmD) yo/\Is K H16 (hfD n6 s6) v6) ⟨_,_,_,_,_,_,rfl,hF15,e715 _ _ (e7 _ _ hq6),e715 _ _ h7,IsL.mono e715 _ _ hL7,hI6.hf_fz (e7.trans e715).fz⟩ (λ_ _ _ _=>trivial) (λj x σ H16 hx16 hj hP=>?_) (fun σ H16 hP=>?_)
   . obtain⟨y2,y5,y6,y7,y8,y9,rfl,hF16,hq16,hl16,hL16,hI16⟩:=hP
     have hcp:0<yo.length:=by have:=(A01.mp hr0).1;rw[hyl];exact A4O (A2C _) this
     have draw:∀ {r:Int} {H':Hp},IsL K H' ((ext (Ad s6) n6.length n6).map nmD) yo->0<=r->r<((yo.length:Nat):Int)->∃ y row,atI yo r=some y/\row∈ext (Ad s6) n6.length n6/\Is K H' (nmD row) y:=fun {r H'} hL hr0 hr1=>by
      have hlt:r.toNat<(ext (Ad s6) n6.length n6).length:=by have e:yo.length=(ext (Ad s6) n6.length n6).length:=hyl;omega
      obtain⟨y,h1,h2⟩:=IsL.at hL (show((ext (Ad s6) n6.length n6).map nmD)[r.toNat]? = some (nmD ((ext (Ad s6) n6.length n6)[r.toNat])) by rw[A07,A03 hlt];rfl);refine⟨y,_,?_,A2K hlt,h2⟩;rw[show r=((r.toNat:Nat):Int) by omega];exact Av h1
     symm
     refine⟨d,l,_,rfl,hF16,by omega,by omega,λr17 H17 hr17 hr17' e17 hF17=>?_⟩;have fz17:=hF16.fz e17;have hl17:=e17 _ _ (hF16.lst hl16) hl16;have hq17:=e17 _ _ (hF16.tup hq16) hq16;have hL17:=IsL.fz fz17 _ _ (Cz _) hL16;obtain⟨u,one,hu1,hu2,hu3⟩:=draw hL17 hr17 hr17'
     symm
     refine Ej hl17 hu1 ?_
     symm
     refine⟨d,l,_,rfl,hF17,by omega,by omega,λr18 H18 hr18 hr18' e18 hF18=>?_⟩;have fz18:=hF17.fz e18;have hl18:=e18 _ _ (hF17.lst hl17) hl17;have hq18:=e18 _ _ (hF17.tup hq17) hq17;have hL18:=IsL.fz fz18 _ _ (Cz _) hL17;have hI18:=hI16.hf_fz (fz17.trans fz18);obtain⟨w,other,hw1,hw2,hw3⟩:=draw hL18 hr18 hr18'
     symm
     refine Ej hl18 hw1 ?_
     symm
     refine⟨v6,u,w,lo,yo,n6,s6,one,other,rfl,hI18,hH,hcn,hl18,hL18,hu3.nm_fz fz18,hu2,hw3,hw2,λH19 e19=>?_⟩
     symm
     exact⟨_,_,_,_,_,_,rfl,hF18.same e19,e19 _ _ hq18,e19 _ _ hl18,IsL.mono e19 _ _ hL18,hI18.hf_fz e19.fz⟩
   obtain⟨y2,y5,y6,y7,y8,y9,rfl,hF16,hq16,hl16,hL16,hI16⟩:=hP;exact⟨_,_,_,_,_,_,_,_,rfl,hF16,hq16⟩
 obtain⟨x2,x3,x4,x5,x6,x7,x8,x9,rfl,hF5,h5⟩:=hP
 symm
 exact k H5
end
theorem all_mk {l:W.OpenLaw}{w:World}{K:W.Frag}{h:Heap}{mg:Str->Option Value}{fa f0 f1 f2 f3 f4 f5 f6 f7 f8 f9 f10 f11 f12 f13 f14 f15 f16 f17 f18 f19 f20 f21 f22 f23 f24 f25 f26 f27 f28 f29 f30 f31 f32 f33 f34 f35 f36 f37 f38 f39 C_Ways:Addr}(X:K.In h)(G:h.Ns mainGlobals mg)(hfa:mg "law" = some (.ref fa))
  {D0 N0 D1 N1 D2 N2 D3 N3 D4 N4 D5 N5 D6 N6 D7 N7 D8 N8 D9 N9 D10 N10 D11 N11 D12 N12 D13 N13 D14 N14 D15 N15 D16 N16 D17 N17 D18 N18 D19 N19 D20 N20 D21 N21 D22 N22 D23 N23 D24 N24 D25 N25 D26 N26 D27 N27 D28 N28 D29 N29 D30 N30 D31 N31 D32 N32 D33 N33 D34 N34 D35 N35 D36 N36 D37 N37 D38 N38 D39 N39:Option Addr} {S0 S1 S2 S3 S4 S5 S6 S7 S8 S9 S10 S11 S12 S13 S14 S15 S16 S17 S18 S19 S20 S21 S22 S23 S24 S25 S26 S27 S28 S29 S30 S31 S32 S33 S34 S35 S36 S37 S38 S39:Array (Option Value)} {O0 V0 E0 P0 Q0 U0 O1 V1 E1 P1 Q1 U1 O2 V2 E2 P2 Q2 U2 O3 V3 E3 P3 Q3 U3 O4 V4 E4 P4 Q4 U4 O5 V5 E5 P5 Q5 U5 O6 V6 E6 P6 Q6 U6 O7 V7 E7 P7 Q7 U7 O8 V8 E8 P8 Q8 U8 O9 V9 E9 P9 Q9 U9 O10 V10 E10 P10 Q10 U10 O11 V11 E11 P11 Q11 U11 O12 V12 E12 P12 Q12 U12 O13 V13 E13 P13 Q13 U13 O14 V14 E14 P14 Q14 U14 O15 V15 E15 P15 Q15 U15 O16 V16 E16 P16 Q16 U16 O17 V17 E17 P17 Q17 U17 O18 V18 E18 P18 Q18 U18 O19 V19 E19 P19 Q19 U19 O20 V20 E20 P20 Q20 U20 O21 V21 E21 P21 Q21 U21 O22 V22 E22 P22 Q22 U22 O23 V23 E23 P23 Q23 U23 O24 V24 E24 P24 Q24 U24 O25 V25 E25 P25 Q25 U25 O26 V26 E26 P26 Q26 U26 O27 V27 E27 P27 Q27 U27 O28 V28 E28 P28 Q28 U28 O29 V29 E29 P29 Q29 U29 O30 V30 E30 P30 Q30 U30 O31 V31 E31 P31 Q31 U31 O32 V32 E32 P32 Q32 U32 O33 V33 E33 P33 Q33 U33 O34 V34 E34 P34 Q34 U34 O35 V35 E35 P35 Q35 U35 O36 V36 E36 P36 Q36 U36 O37 V37 E37 P37 Q37 U37 O38 V38 E38 P38 Q38 U38 O39 V39 E39 P39 Q39 U39:Value}
  (aC_Ways:W.nsIn K mainGlobals "Ways" = some (some (.ref C_Ways))) (pg_Ways:W.plainGet K C_Ways Str.empty=true) (hd_Ways:W.hasDictIn K C_Ways=true) (po_Ways:W.plainOver K C_Ways=true) (sa_Ways:W.findIn K (.ref C_Ways) "__setattr__" = some (some (.builtin "object.__setattr__"))) (mk_Ways:W.makesIn K C_Ways=true) (kc_Ways:W.keepIn K (.ref C_Ways)=true)
  (n_Ways_names:W.findIn K (.ref C_Ways) "names" = some none)
  (n_Ways_bits:W.findIn K (.ref C_Ways) "bits" = some none)
  (n_Ways_ahead:W.findIn K (.ref C_Ways) "ahead" = some none)
  (n_Ways_full:W.findIn K (.ref C_Ways) "full" = some none)
  (n_Ways_known:W.findIn K (.ref C_Ways) "known" = some none)
  (a0:W.nsIn K mainGlobals "behind_each" = some (some (.ref f0))) (l0:K.lookup f0=some ⟨O0,D0,.func (W.fnOf "behind_each" "behind_each" (Af Di) (Ae Di) (A3 Di) .none V0 E0 P0 N0 Q0 U0),S0⟩) (c0:W.codeIn K Q0 "behind_each" = true) (k0:W.keepIn K (.ref f0)=true)
  (a1:W.nsIn K mainGlobals "bits_of" = some (some (.ref f1))) (l1:K.lookup f1=some ⟨O1,D1,.func (W.fnOf "bits_of" "bits_of" (Af Hq) (Ae Hq) (A3 Hq) .none V1 E1 P1 N1 Q1 U1),S1⟩) (c1:W.codeIn K Q1 "bits_of" = true) (k1:W.keepIn K (.ref f1)=true)
  (a2:W.nsIn K mainGlobals "bits_ahead" = some (some (.ref f2))) (l2:K.lookup f2=some ⟨O2,D2,.func (W.fnOf "bits_ahead" "bits_ahead" (Af Eb) (Ae Eb) (A3 Eb) .none V2 E2 P2 N2 Q2 U2),S2⟩) (c2:W.codeIn K Q2 "bits_ahead" = true) (k2:W.keepIn K (.ref f2)=true)
  (a3:W.nsIn K mainGlobals "is_order" = some (some (.ref f3))) (l3:K.lookup f3=some ⟨O3,D3,.func (W.fnOf "is_order" "is_order" (Af Gb) (Ae Gb) (A3 Gb) .none V3 E3 P3 N3 Q3 U3),S3⟩) (c3:W.codeIn K Q3 "is_order" = true) (k3:W.keepIn K (.ref f3)=true)
  (a4:W.nsIn K mainGlobals "refuse_no_order" = some (some (.ref f4))) (l4:K.lookup f4=some ⟨O4,D4,.func (W.fnOf "refuse_no_order" "refuse_no_order" (Af Bk) (Ae Bk) (A3 Bk) .none V4 E4 P4 N4 Q4 U4),S4⟩) (c4:W.codeIn K Q4 "refuse_no_order" = true) (k4:W.keepIn K (.ref f4)=true)
  (a5:W.nsIn K mainGlobals "orders_on" = some (some (.ref f5))) (l5:K.lookup f5=some ⟨O5,D5,.func (W.fnOf "orders_on" "orders_on" (Af Dy) (Ae Dy) (A3 Dy) .none V5 E5 P5 N5 Q5 U5),S5⟩) (c5:W.codeIn K Q5 "orders_on" = true) (k5:W.keepIn K (.ref f5)=true)
  (a6:W.nsIn K mainGlobals "all_orders" = some (some (.ref f6))) (l6:K.lookup f6=some ⟨O6,D6,.func (W.fnOf "all_orders" "all_orders" (Af Ed) (Ae Ed) (A3 Ed) .none V6 E6 P6 N6 Q6 U6),S6⟩) (c6:W.codeIn K Q6 "all_orders" = true) (k6:W.keepIn K (.ref f6)=true)
  (a7:W.nsIn K mainGlobals "pairs_apart" = some (some (.ref f7))) (l7:K.lookup f7=some ⟨O7,D7,.func (W.fnOf "pairs_apart" "pairs_apart" (Af Dg) (Ae Dg) (A3 Dg) .none V7 E7 P7 N7 Q7 U7),S7⟩) (c7:W.codeIn K Q7 "pairs_apart" = true) (k7:W.keepIn K (.ref f7)=true)
  (a8:W.nsIn K mainGlobals "apart" = some (some (.ref f8))) (l8:K.lookup f8=some ⟨O8,D8,.func (W.fnOf "apart" "apart" (Af L6) (Ae L6) (A3 L6) .none V8 E8 P8 N8 Q8 U8),S8⟩) (c8:W.codeIn K Q8 "apart" = true) (k8:W.keepIn K (.ref f8)=true)
  (a9:W.nsIn K mainGlobals "swapped" = some (some (.ref f9))) (l9:K.lookup f9=some ⟨O9,D9,.func (W.fnOf "swapped" "swapped" (Af Ho) (Ae Ho) (A3 Ho) .none V9 E9 P9 N9 Q9 U9),S9⟩) (c9:W.codeIn K Q9 "swapped" = true) (k9:W.keepIn K (.ref f9)=true)
  (a10:W.nsIn K mainGlobals "step_towards" = some (some (.ref f10))) (l10:K.lookup f10=some ⟨O10,D10,.func (W.fnOf "step_towards" "step_towards" (Af Cg) (Ae Cg) (A3 Cg) .none V10 E10 P10 N10 Q10 U10),S10⟩) (c10:W.codeIn K Q10 "step_towards" = true) (k10:W.keepIn K (.ref f10)=true)
  (a11:W.nsIn K mainGlobals "way_between" = some (some (.ref f11))) (l11:K.lookup f11=some ⟨O11,D11,.func (W.fnOf "way_between" "way_between" (Af Dj) (Ae Dj) (A3 Dj) .none V11 E11 P11 N11 Q11 U11),S11⟩) (c11:W.codeIn K Q11 "way_between" = true) (k11:W.keepIn K (.ref f11)=true)
  (a12:W.nsIn K mainGlobals "sides" = some (some (.ref f12))) (l12:K.lookup f12=some ⟨O12,D12,.func (W.fnOf "sides" "sides" (Af Lh) (Ae Lh) (A3 Lh) .none V12 E12 P12 N12 Q12 U12),S12⟩) (c12:W.codeIn K Q12 "sides" = true) (k12:W.keepIn K (.ref f12)=true)
  (a13:W.nsIn K mainGlobals "listed_by_turns" = some (some (.ref f13))) (l13:K.lookup f13=some ⟨O13,D13,.func (W.fnOf "listed_by_turns" "listed_by_turns" (Af B4) (Ae B4) (A3 B4) .none V13 E13 P13 N13 Q13 U13),S13⟩) (c13:W.codeIn K Q13 "listed_by_turns" = true) (k13:W.keepIn K (.ref f13)=true)
  (a14:W.nsIn K mainGlobals "near_list" = some (some (.ref f14))) (l14:K.lookup f14=some ⟨O14,D14,.func (W.fnOf "near_list" "near_list" (Af Fd) (Ae Fd) (A3 Fd) .none V14 E14 P14 N14 Q14 U14),S14⟩) (c14:W.codeIn K Q14 "near_list" = true) (k14:W.keepIn K (.ref f14)=true)
  (a15:W.nsIn K mainGlobals "to_and_fro" = some (some (.ref f15))) (l15:K.lookup f15=some ⟨O15,D15,.func (W.fnOf "to_and_fro" "to_and_fro" (Af Cs) (Ae Cs) (A3 Cs) .none V15 E15 P15 N15 Q15 U15),S15⟩) (c15:W.codeIn K Q15 "to_and_fro" = true) (k15:W.keepIn K (.ref f15)=true)
  (a16:W.nsIn K mainGlobals "orders_by_one_swap" = some (some (.ref f16))) (l16:K.lookup f16=some ⟨O16,D16,.func (W.fnOf "orders_by_one_swap" "orders_by_one_swap" (Af B2) (Ae B2) (A3 B2) .none V16 E16 P16 N16 Q16 U16),S16⟩) (c16:W.codeIn K Q16 "orders_by_one_swap" = true) (k16:W.keepIn K (.ref f16)=true)
  (a17:W.nsIn K mainGlobals "single_list_on" = some (some (.ref f17))) (l17:K.lookup f17=some ⟨O17,D17,.func (W.fnOf "single_list_on" "single_list_on" (Af Bc) (Ae Bc) (A3 Bc) .none V17 E17 P17 N17 Q17 U17),S17⟩) (c17:W.codeIn K Q17 "single_list_on" = true) (k17:W.keepIn K (.ref f17)=true)
  (a18:W.nsIn K mainGlobals "searched_single_list" = some (some (.ref f18))) (l18:K.lookup f18=some ⟨O18,D18,.func (W.fnOf "searched_single_list" "searched_single_list" (Af Ay) (Ae Ay) (A3 Ay) .none V18 E18 P18 N18 Q18 U18),S18⟩) (c18:W.codeIn K Q18 "searched_single_list" = true) (k18:W.keepIn K (.ref f18)=true)
  (a19:W.nsIn K mainGlobals "single_list" = some (some (.ref f19))) (l19:K.lookup f19=some ⟨O19,D19,.func (W.fnOf "single_list" "single_list" (Af Dh) (Ae Dh) (A3 Dh) .none V19 E19 P19 N19 Q19 U19),S19⟩) (c19:W.codeIn K Q19 "single_list" = true) (k19:W.keepIn K (.ref f19)=true)
  (a20:W.nsIn K mainGlobals "_law_feed" = some (some (.ref f20))) (l20:K.lookup f20=some ⟨O20,D20,.func (W.fnOf "_law_feed" "_law_feed" (Af Fk) (Ae Fk) (A3 Fk) .none V20 E20 P20 N20 Q20 U20),S20⟩) (c20:W.codeIn K Q20 "_law_feed" = true) (k20:W.keepIn K (.ref f20)=true)
  (a21:W.nsIn K mainGlobals "_law_draw" = some (some (.ref f21))) (l21:K.lookup f21=some ⟨O21,D21,.func (W.fnOf "_law_draw" "_law_draw" (Af Ff) (Ae Ff) (A3 Ff) .none V21 E21 P21 N21 Q21 U21),S21⟩) (c21:W.codeIn K Q21 "_law_draw" = true) (k21:W.keepIn K (.ref f21)=true)
  (a22:W.nsIn K mainGlobals "_law_names" = some (some (.ref f22))) (l22:K.lookup f22=some ⟨O22,D22,.func (W.fnOf "_law_names" "_law_names" (Af Eh) (Ae Eh) (A3 Eh) .none V22 E22 P22 N22 Q22 U22),S22⟩) (c22:W.codeIn K Q22 "_law_names" = true) (k22:W.keepIn K (.ref f22)=true)
  (a23:W.nsIn K mainGlobals "_law_shuffled" = some (some (.ref f23))) (l23:K.lookup f23=some ⟨O23,D23,.func (W.fnOf "_law_shuffled" "_law_shuffled" (Af C3) (Ae C3) (A3 C3) .none V23 E23 P23 N23 Q23 U23),S23⟩) (c23:W.codeIn K Q23 "_law_shuffled" = true) (k23:W.keepIn K (.ref f23)=true)
  (a24:W.nsIn K mainGlobals "_law_pairs" = some (some (.ref f24))) (l24:K.lookup f24=some ⟨O24,D24,.func (W.fnOf "_law_pairs" "_law_pairs" (Af Eg) (Ae Eg) (A3 Eg) .none V24 E24 P24 N24 Q24 U24),S24⟩) (c24:W.codeIn K Q24 "_law_pairs" = true) (k24:W.keepIn K (.ref f24)=true)
  (a25:W.nsIn K mainGlobals "_law_sayings" = some (some (.ref f25))) (l25:K.lookup f25=some ⟨O25,D25,.func (W.fnOf "_law_sayings" "_law_sayings" (Af Ck) (Ae Ck) (A3 Ck) .none V25 E25 P25 N25 Q25 U25),S25⟩) (c25:W.codeIn K Q25 "_law_sayings" = true) (k25:W.keepIn K (.ref f25)=true)
  (a26:W.nsIn K mainGlobals "_law_half" = some (some (.ref f26))) (l26:K.lookup f26=some ⟨O26,D26,.func (W.fnOf "_law_half" "_law_half" (Af Fb) (Ae Fb) (A3 Fb) .none V26 E26 P26 N26 Q26 U26),S26⟩) (c26:W.codeIn K Q26 "_law_half" = true) (k26:W.keepIn K (.ref f26)=true)
  (a27:W.nsIn K mainGlobals "_law_behind" = some (some (.ref f27))) (l27:K.lookup f27=some ⟨O27,D27,.func (W.fnOf "_law_behind" "_law_behind" (Af Dd) (Ae Dd) (A3 Dd) .none V27 E27 P27 N27 Q27 U27),S27⟩) (c27:W.codeIn K Q27 "_law_behind" = true) (k27:W.keepIn K (.ref f27)=true)
  (a28:W.nsIn K mainGlobals "_law_table" = some (some (.ref f28))) (l28:K.lookup f28=some ⟨O28,D28,.func (W.fnOf "_law_table" "_law_table" (Af Ei) (Ae Ei) (A3 Ei) .none V28 E28 P28 N28 Q28 U28),S28⟩) (c28:W.codeIn K Q28 "_law_table" = true) (k28:W.keepIn K (.ref f28)=true)
  (a29:W.nsIn K mainGlobals "_law_closed" = some (some (.ref f29))) (l29:K.lookup f29=some ⟨O29,D29,.func (W.fnOf "_law_closed" "_law_closed" (Af Db) (Ae Db) (A3 Db) .none V29 E29 P29 N29 Q29 U29),S29⟩) (c29:W.codeIn K Q29 "_law_closed" = true) (k29:W.keepIn K (.ref f29)=true)
  (a30:W.nsIn K mainGlobals "_law_orders" = some (some (.ref f30))) (l30:K.lookup f30=some ⟨O30,D30,.func (W.fnOf "_law_orders" "_law_orders" (Af Dc) (Ae Dc) (A3 Dc) .none V30 E30 P30 N30 Q30 U30),S30⟩) (c30:W.codeIn K Q30 "_law_orders" = true) (k30:W.keepIn K (.ref f30)=true)
  (a31:W.nsIn K mainGlobals "_law_far" = some (some (.ref f31))) (l31:K.lookup f31=some ⟨O31,D31,.func (W.fnOf "_law_far" "_law_far" (Af G9) (Ae G9) (A3 G9) .none V31 E31 P31 N31 Q31 U31),S31⟩) (c31:W.codeIn K Q31 "_law_far" = true) (k31:W.keepIn K (.ref f31)=true)
  (a32:W.nsIn K mainGlobals "_law_all_once" = some (some (.ref f32))) (l32:K.lookup f32=some ⟨O32,D32,.func (W.fnOf "_law_all_once" "_law_all_once" (Af C6) (Ae C6) (A3 C6) .none V32 E32 P32 N32 Q32 U32),S32⟩) (c32:W.codeIn K Q32 "_law_all_once" = true) (k32:W.keepIn K (.ref f32)=true)
  (a33:W.nsIn K mainGlobals "_law_walk" = some (some (.ref f33))) (l33:K.lookup f33=some ⟨O33,D33,.func (W.fnOf "_law_walk" "_law_walk" (Af Fj) (Ae Fj) (A3 Fj) .none V33 E33 P33 N33 Q33 U33),S33⟩) (c33:W.codeIn K Q33 "_law_walk" = true) (k33:W.keepIn K (.ref f33)=true)
  (a34:W.nsIn K mainGlobals "_law_single_right" = some (some (.ref f34))) (l34:K.lookup f34=some ⟨O34,D34,.func (W.fnOf "_law_single_right" "_law_single_right" (Af B5) (Ae B5) (A3 B5) .none V34 E34 P34 N34 Q34 U34),S34⟩) (c34:W.codeIn K Q34 "_law_single_right" = true) (k34:W.keepIn K (.ref f34)=true)
  (a35:W.nsIn K mainGlobals "_law_way_right" = some (some (.ref f35))) (l35:K.lookup f35=some ⟨O35,D35,.func (W.fnOf "_law_way_right" "_law_way_right" (Af Bo) (Ae Bo) (A3 Bo) .none V35 E35 P35 N35 Q35 U35),S35⟩) (c35:W.codeIn K Q35 "_law_way_right" = true) (k35:W.keepIn K (.ref f35)=true)
  (a36:W.nsIn K mainGlobals "law" = some (some (.ref f36))) (l36:K.lookup f36=some ⟨O36,D36,.func (W.fnOf "law" "law" (Af Qg) (Ae Qg) (A3 Qg) .none V36 E36 P36 N36 Q36 U36),S36⟩) (c36:W.codeIn K Q36 "law" = true) (k36:W.keepIn K (.ref f36)=true)
  (a37:W.findIn K (.ref C_Ways) "__init__" = some (some (.ref f37))) (i37:W.isFn K (.ref f37)=true) (l37:K.lookup f37=some ⟨O37,D37,.func (W.fnOf "__init__" "Ways.__init__" (Af Fg) (Ae Fg) (A3 Fg) .none V37 E37 P37 N37 Q37 U37),S37⟩) (c37:W.codeIn K Q37 "Ways.__init__" = true) (k37:W.keepIn K (.ref f37)=true)
  (a38:W.findIn K (.ref C_Ways) "free_names" = some (some (.ref f38))) (i38:W.isFn K (.ref f38)=true) (l38:K.lookup f38=some ⟨O38,D38,.func (W.fnOf "free_names" "Ways.free_names" (Af Bj) (Ae Bj) (A3 Bj) .none V38 E38 P38 N38 Q38 U38),S38⟩) (c38:W.codeIn K Q38 "Ways.free_names" = true) (k38:W.keepIn K (.ref f38)=true)
  (a39:W.findIn K (.ref C_Ways) "ways_on" = some (some (.ref f39))) (i39:W.isFn K (.ref f39)=true) (l39:K.lookup f39=some ⟨O39,D39,.func (W.fnOf "ways_on" "Ways.ways_on" (Af Bw) (Ae Bw) (A3 Bw) .none V39 E39 P39 N39 Q39 U39),S39⟩) (c39:W.codeIn K Q39 "Ways.ways_on" = true) (k39:W.keepIn K (.ref f39)=true)
  {t0:Tok} (g0:W.nsIn K mainGlobals "MOST_LISTED" = some (some (.int 720 t0)))
  {t1:Tok} (g1:W.nsIn K mainGlobals "MOST_SEARCHED" = some (some (.int 12 t1)))
  (z0:W.nsIn K mainGlobals "abs" = some none)
  (z1:W.nsIn K mainGlobals "all" = some none)
  (z2:W.nsIn K mainGlobals "dict" = some none)
  (z3:W.nsIn K mainGlobals "enumerate" = some none)
  (z4:W.nsIn K mainGlobals "int" = some none)
  (z5:W.nsIn K mainGlobals "isinstance" = some none)
  (z6:W.nsIn K mainGlobals "len" = some none)
  (z7:W.nsIn K mainGlobals "list" = some none)
  (z8:W.nsIn K mainGlobals "range" = some none)
  (z9:W.nsIn K mainGlobals "repr" = some none)
  (z10:W.nsIn K mainGlobals "sorted" = some none)
  (z11:W.nsIn K mainGlobals "sum" = some none)
  (z12:W.nsIn K mainGlobals "tuple" = some none)
  : ∃ fd:FuncData,(∀(s:Shared) (v:Value),BindsTo s fd ⟨[v],[]⟩ [("_law_script",v)])/\∀ base:Heap,K.In base->base.Ns mainGlobals mg->FnOk l.prog w K mg base CX0 129 fa fd ["_law_script"] (spLaw K):=by
 have e:=hfa.symm.trans (A0Q X G a36)
 cases e;have T:Gn mg:=⟨⟨_,A0Q X G g0,⟨_,rfl⟩⟩,⟨_,A0Q X G g1,⟨_,rfl⟩⟩,A1Q X G z0,A1Q X G z1,A1Q X G z2,A1Q X G z3,A1Q X G z4,A1Q X G z5,A1Q X G z6,A1Q X G z7,A1Q X G z8,A1Q X G z9,A1Q X G z10,A1Q X G z11,A1Q X G z12⟩;have F0:=B0 (st:=Di) l0 c0 k0;have b0:Binds K _ ["half"] []:=Hi F0 λ_ _ _ _ _ _ _=>rfl;have F1:=B0 (st:=Hq) l1 c1 k1;have b1:Binds K _ ["names"] []:=Hi F1 λ_ _ _ _ _ _ _=>rfl;have F2:=B0 (st:=Eb) l2 c2 k2;have b2:Binds K _ ["half","bits"] []:=Dt F2 λ_ _ _ _ _ _ _ _=>rfl;have F3:=B0 (st:=Gb) l3 c3 k3;have b3:Binds K _ ["half","thing"] []:=Dt F3 λ_ _ _ _ _ _ _ _=>rfl;have F4:=B0 (st:=Bk) l4 c4 k4;have b4:Binds K _ ["half","thing"] []:=Dt F4 λ_ _ _ _ _ _ _ _=>rfl;have F5:=B0 (st:=Dy) l5 c5 k5;have b5:Binds K _ ["ways","left"] []:=Dt F5 λ_ _ _ _ _ _ _ _=>rfl;have F6:=B0 (st:=Ed) l6 c6 k6;have b6:Binds K _ ["half"] []:=Hi F6 λ_ _ _ _ _ _ _=>rfl;have F7:=B0 (st:=Dg) l7 c7 k7;have b7:Binds K _ ["one","other"] []:=Dt F7 λ_ _ _ _ _ _ _ _=>rfl;have F8:=B0 (st:=L6) l8 c8 k8;have b8:Binds K _ ["half","one","other"] []:=X3 F8 λ_ _ _ _ _ _ _ _ _=>rfl;have F9:=B0 (st:=Ho) l9 c9 k9;have b9:Binds K _ ["order","place"] []:=Dt F9 λ_ _ _ _ _ _ _ _=>rfl;have F10:=B0 (st:=Cg) l10 c10 k10;have b10:Binds K _ ["order","goal"] []:=Dt F10 λ_ _ _ _ _ _ _ _=>rfl;have F11:=B0 (st:=Dj) l11 c11 k11;have b11:Binds K _ ["half","one","other"] []:=X3 F11 λ_ _ _ _ _ _ _ _ _=>rfl;have F12:=B0 (st:=Lh) l12 c12 k12;have b12:Binds K _ ["half"] []:=Hi F12 λ_ _ _ _ _ _ _=>rfl;have F13:=B0 (st:=B4) l13 c13 k13;have b13:Binds K _ ["tree","order","goes_ahead"] []:=X3 F13 λ_ _ _ _ _ _ _ _ _=>rfl;have F14:=B0 (st:=Fd) l14 c14 k14;have b14:Binds K _ ["half"] []:=Hi F14 λ_ _ _ _ _ _ _=>rfl;have F15:=B0 (st:=Cs) l15 c15 k15;have b15:Binds K _ ["names"] []:=Hi F15 λ_ _ _ _ _ _ _=>rfl;have F16:=B0 (st:=B2) l16 c16 k16;have b16:Binds K _ ["orders"] []:=Hi F16 λ_ _ _ _ _ _ _=>rfl;have F17:=B0 (st:=Bc) l17 c17 k17;have b17:Binds K _ ["near","begun"] []:=Dt F17 λ_ _ _ _ _ _ _ _=>rfl;have F18:=B0 (st:=Ay) l18 c18 k18;have b18:Binds K _ ["orders"] []:=Hi F18 λ_ _ _ _ _ _ _=>rfl;have F19:=B0 (st:=Dh) l19 c19 k19;have b19:Binds K _ ["half"] []:=Hi F19 λ_ _ _ _ _ _ _=>rfl;have F20:=B0 (st:=Fk) l20 c20 k20;have b20:Binds K _ ["_law_script"] []:=Hi F20 λ_ _ _ _ _ _ _=>rfl;have F21:=B0 (st:=Ff) l21 c21 k21;have b21:Binds K _ ["_law_feed_here","_law_many"] []:=Dt F21 λ_ _ _ _ _ _ _ _=>rfl;have F22:=B0 (st:=Eh) l22 c22 k22;have b22:Binds K _ ["_law_feed_here","_law_many"] []:=Dt F22 λ_ _ _ _ _ _ _ _=>rfl;have F23:=B0 (st:=C3) l23 c23 k23;have b23:Binds K _ ["_law_feed_here","_law_some"] []:=Dt F23 λ_ _ _ _ _ _ _ _=>rfl;have F24:=B0 (st:=Eg) l24 c24 k24;have b24:Binds K _ ["_law_feed_here","_law_line"] []:=Dt F24 λ_ _ _ _ _ _ _ _=>rfl;have F25:=B0 (st:=Ck) l25 c25 k25;have b25:Binds K _ ["_law_feed_here","_law_line"] []:=Dt F25 λ_ _ _ _ _ _ _ _=>rfl;have F26:=B0 (st:=Fb) l26 c26 k26;have b26:Binds K _ ["_law_feed_here","_law_most"] []:=Dt F26 λ_ _ _ _ _ _ _ _=>rfl;have F27:=B0 (st:=Dd) l27 c27 k27;have b27:Binds K _ ["_law_half_here","_law_name"] []:=Dt F27 λ_ _ _ _ _ _ _ _=>rfl;have F28:=B0 (st:=Ei) l28 c28 k28;have b28:Binds K _ ["_law_half_here"] []:=Hi F28 λ_ _ _ _ _ _ _=>rfl;have F29:=B0 (st:=Db) l29 c29 k29;have b29:Binds K _ ["_law_half_here"] []:=Hi F29 λ_ _ _ _ _ _ _=>rfl;have F30:=B0 (st:=Dc) l30 c30 k30;have b30:Binds K _ ["_law_half_here"] []:=Hi F30 λ_ _ _ _ _ _ _=>rfl;have F31:=B0 (st:=G9) l31 c31 k31;have b31:Binds K _ ["_law_one","_law_other"] []:=Dt F31 λ_ _ _ _ _ _ _ _=>rfl;have F32:=B0 (st:=C6) l32 c32 k32;have b32:Binds K _ ["_law_rows","_law_told"] []:=Dt F32 λ_ _ _ _ _ _ _ _=>rfl;have F33:=B0 (st:=Fj) l33 c33 k33;have b33:Binds K _ ["_law_rows","_law_first"] []:=Dt F33 λ_ _ _ _ _ _ _ _=>rfl;have F34:=B0 (st:=B5) l34 c34 k34;have b34:Binds K _ ["_law_half_here","_law_rows","_law_told"] []:=X3 F34 λ_ _ _ _ _ _ _ _ _=>rfl;have F35:=B0 (st:=Bo) l35 c35 k35;have b35:Binds K _ ["_law_half_here","_law_rows","_law_one","_law_other"] []:=ax4 F35 λ_ _ _ _ _ _ _ _ _ _=>rfl;have F36:=B0 (st:=Qg) l36 c36 k36;have F37:=B0 (st:=Fg) l37 c37 k37;have b37:Binds K _ ["self","half"] []:=Dt F37 λ_ _ _ _ _ _ _ _=>rfl;have F38:=B0 (st:=Bj) l38 c38 k38;have b38:Binds K _ ["self","left"] []:=Dt F38 λ_ _ _ _ _ _ _ _=>rfl;have F39:=B0 (st:=Bw) l39 c39 k39;have b39:Binds K _ ["self","left"] []:=Dt F39 λ_ _ _ _ _ _ _ _=>rfl;have k_Ways:Gv K C_Ways:=⟨⟨pg_Ways,hd_Ways,po_Ways,sa_Ways⟩,n_Ways_names,n_Ways_bits,n_Ways_ahead,n_Ways_full,n_Ways_known⟩;refine⟨W.fnOf "law" "law" (Af Qg) (Ae Qg) (A3 Qg) .none V36 E36 P36 N36 Q36 U36,λs v=>.of_eq rfl,λbase _ _=>?_⟩;have Il:Fnd l.prog w K mg base 1 "behind_each" ["half"] (Ha K):=⟨_,_,Od F0 T,A0Q X G a0,k0,b0⟩;have Mo:Fnd l.prog w K mg base 1 "bits_of" ["names"] (Lc K):=⟨_,_,Xp F1 T,A0Q X G a1,k1,b1⟩;have Ll:Fnd l.prog w K mg base 1 "is_order" ["half","thing"] (K0 K):=⟨_,_,Ts F3 T,A0Q X G a3,k3,b3⟩;have Cy:Fnd l.prog w K mg base 1 "pairs_apart" ["one","other"] (Dq K):=⟨_,_,Ol F7 T,A0Q X G a7,k7,b7⟩;have Hg:Fnd l.prog w K mg base 1 "swapped" ["order","place"] (Jr K):=⟨_,_,Xc F9 T,A0Q X G a9,k9,b9⟩;have Ka:Fnd l.prog w K mg base 1 "_law_feed" ["_law_script"] (J9 K):=⟨_,_,Tj F20 T,A0Q X G a20,k20,b20⟩;have Aa:Fnd l.prog w K mg base 1 "_law_draw" ["_law_feed_here","_law_many"] (Ca K):=⟨_,_,Sv F21 T,A0Q X G a21,k21,b21⟩;have Hz:Fnd l.prog w K mg base 1 "_law_behind" ["_law_half_here","_law_name"] (Hd K):=⟨_,_,Oe F27 T,A0Q X G a27,k27,b27⟩;have B6:Fnd l.prog w K mg base 1 "_law_far" ["_law_one","_law_other"] (Fc K):=⟨_,_,Ub F31 T,A0Q X G a31,k31,b31⟩;have C4:Fnd l.prog w K mg base 1 "_law_all_once" ["_law_rows","_law_told"] (Dx K):=⟨_,_,M6 F32 T,A0Q X G a32,k32,b32⟩;have Ar:Mtd l.prog w K mg base 1 C_Ways "free_names" ["self","left"] (Bb C_Ways K):=⟨_,_,Ku F38 T k_Ways,⟨a38,i38,k38⟩,b38⟩;have J4:Fnd l.prog w K mg base 2 "bits_ahead" ["half","bits"] (Ij K):=⟨_,_,R5 F2 T Il,A0Q X G a2,k2,b2⟩;have Az:Fnd l.prog w K mg base 2 "refuse_no_order" ["half","thing"] (Co K):=⟨_,_,Ks F4 T Ll,A0Q X G a4,k4,b4⟩;have Cj:Fnd l.prog w K mg base 2 "step_towards" ["order","goal"] (Ex K):=⟨_,_,Nn F10 T Hg,A0Q X G a10,k10,b10⟩;have Do:Fnd l.prog w K mg base 2 "orders_by_one_swap" ["orders"] (Ct K):=⟨_,_,Ja F16 T Hg,A0Q X G a16,k16,b16⟩;have Iz:Fnd l.prog w K mg base 2 "_law_names" ["_law_feed_here","_law_many"] (Ik K):=⟨_,_,Qd F22 T Aa,A0Q X G a22,k22,b22⟩;have Gc:Fnd l.prog w K mg base 2 "_law_shuffled" ["_law_feed_here","_law_some"] (G0 K):=⟨_,_,M2 F23 T Aa,A0Q X G a23,k23,b23⟩;have J3:Fnd l.prog w K mg base 2 "_law_pairs" ["_law_feed_here","_law_line"] (Ia K):=⟨_,_,Pn F24 T Aa,A0Q X G a24,k24,b24⟩;have Ec:Fnd l.prog w K mg base 2 "_law_table" ["_law_half_here"] (G5 K):=⟨_,_,Pm F28 T Hz,A0Q X G a28,k28,b28⟩;have Kb:Fnd l.prog w K mg base 2 "_law_walk" ["_law_rows","_law_first"] (J7 K):=⟨_,_,Th F33 T B6,A0Q X G a33,k33,b33⟩;have Um:Fnd l.prog w K mg base 3 "apart" ["half","one","other"] (Pq K):=⟨_,_,ab1 F8 T Az Cy,A0Q X G a8,k8,b8⟩;have Hy:Fnd l.prog w K mg base 3 "way_between" ["half","one","other"] (Hc K):=⟨_,_,Oh F11 T Az Cj,A0Q X G a11,k11,b11⟩;have Hb:Fnd l.prog w K mg base 3 "_law_sayings" ["_law_feed_here","_law_line"] (Gh K):=⟨_,_,My F25 T Aa J3,A0Q X G a25,k25,b25⟩;have Hx:Fnd l.prog w K mg base 3 "_law_closed" ["_law_half_here"] (Gz K):=⟨_,_,Oj F29 T Ec,A0Q X G a29,k29,b29⟩;have Hw:Fnd l.prog w K mg base 3 "_law_orders" ["_law_half_here"] (Gy K):=⟨_,_,Ob F30 T Ec,A0Q X G a30,k30,b30⟩;have K2:Mkd l.prog w K mg base 3 C_Ways "Ways" ["self","half"] (Iu C_Ways K):=⟨_,_,Rr F37 T k_Ways Mo J4,⟨mk_Ways,a37,i37,kc_Ways⟩,A0Q X G aC_Ways,b37⟩;have K3:Fnd l.prog w K mg base 4 "_law_half" ["_law_feed_here","_law_most"] (Ix K):=⟨_,_,Sx F26 T Aa Iz Gc Hb,A0Q X G a26,k26,b26⟩;have Dz:Fnd l.prog w K mg base 4 "_law_single_right" ["_law_half_here","_law_rows","_law_told"] (Dl K):=⟨_,_,Ju F34 T Hx B6 C4 Kb,A0Q X G a34,k34,b34⟩;have Fx:Fnd l.prog w K mg base 4 "_law_way_right" ["_law_half_here","_law_rows","_law_one","_law_other"] (Fe K):=⟨_,_,Lf F35 T Um Hy B6,A0Q X G a35,k35,b35⟩;have Fv:Fnd l.prog w K mg base 12 "to_and_fro" ["names"] (Hu K):=⟨_,_,R7 F15 T (A0Q X G a15) k15 b15,A0Q X G a15,k15,b15⟩;have Gj:Fnd l.prog w K mg base 13 "orders_on" ["ways","left"] (J2 C_Ways K):=⟨_,_,T7 F5 T k_Ways Ar (A0Q X G a5) k5 b5,A0Q X G a5,k5,b5⟩;have Ds:Mtd l.prog w K mg base 13 C_Ways "ways_on" ["self","left"] (Ge C_Ways K):=⟨_,_,Mx F39 T k_Ways Ar ⟨a39,i39,k39⟩ b39,⟨a39,i39,k39⟩,b39⟩;have Bs:Fnd l.prog w K mg base 14 "all_orders" ["half"] (Et K):=⟨_,_,R4 F6 T k_Ways Gj K2 Ds,A0Q X G a6,k6,b6⟩;have L7:Fnd l.prog w K mg base 15 "sides" ["half"] (Mf K):=⟨_,_,aa5 F12 T Bs Cy,A0Q X G a12,k12,b12⟩;have C5:Fnd l.prog w K mg base 126 "listed_by_turns" ["tree","order","goes_ahead"] (Eo K):=⟨_,_,Kd F13 T (A0Q X G a13) k13 b13,A0Q X G a13,k13,b13⟩;have Ce:Fnd l.prog w K mg base 126 "single_list_on" ["near","begun"] (Fl K):=⟨_,_,Lk F17 T (A0Q X G a17) k17 b17,A0Q X G a17,k17,b17⟩;have K9:Fnd l.prog w K mg base 127 "near_list" ["half"] (J0 K):=⟨_,_,Sd F14 T Bs Cj C5,A0Q X G a14,k14,b14⟩;have Cm:Fnd l.prog w K mg base 127 "searched_single_list" ["orders"] (Cc K):=⟨_,_,Ie F18 T Do Ce,A0Q X G a18,k18,b18⟩;have Ib:Fnd l.prog w K mg base 128 "single_list" ["half"] (Fo K):=⟨_,_,Om F19 T Bs L7 Fv Cm,A0Q X G a19,k19,b19⟩;exact as8 F36 T L7 K9 Ib Ka Aa K3 Hw B6 C4 Dz Fx
theorem walk {l:W.OpenLaw}{q:Program}{loose:List Str}{XP:(Str->Option Value)->Heap->Prop}{YP:World->Heap->Prop}{d:DefRec}{K:Params->W.Frag}(hn:l.most=some 63)(hdf:d.params.defaults=[])
  (hY:∀(w:World) (h:Heap),YP w h->(K w.params).In h)
  (F:∀(w:World) (mg:Str->Option Value) (fa:Addr) (h:Heap),(K w.params).In h->h.Ns mainGlobals mg->mg d.name=some (.ref fa) ->
   ∃ fd:FuncData,(∀(s:Shared) (u:Value),BindsTo s fd ⟨[u],[]⟩ [("_law_script",u)])/\∀ base:Heap,(K w.params).In base->base.Ns mainGlobals mg->FnOk l.prog w (K w.params) mg base CX0 129 fa fd ["_law_script"] (spLaw (K w.params))) :
  W.WalkO q loose XP YP l.row.toRowW d [] (λf vs=>PySem.call f vs):=
 L2.walk_of (n:=63) (k:=129) (x:="_law_script") (CX:=λ_=>CX0) (sp:=λw=>spLaw (K w.params)) hn nofun hdf ⟨rfl,by decide,by decide,rfl⟩ hY F (λ_ _ a ns hl _ hS=>⟨a,ns,rfl,hS,hl,λ_=>rfl⟩) λ_ _ _ _ _ z=>z
end K98
theorem PySem.W.Fast.tw15813973643915825707 : True := trivial
theorem PySem.W.Fast.tw17465612744079612778 : True := trivial
theorem PySem.W.Fast.tw3718306192599809850 : True := trivial
theorem PySem.W.Fast.tw3401068359776493039 : True := trivial
theorem PySem.W.Fast.tw12645802737313046610 : True := trivial
theorem PySem.W.Fast.tw5422553751856621904 : True := trivial
theorem PySem.W.Fast.tw11940414031437103553 : True := trivial
theorem PySem.W.Fast.tw17615624250475567791 : True := trivial
theorem PySem.W.Fast.tw12438418927779516552 : True := trivial
theorem PySem.W.Fast.tw5579206837666104842 : True := trivial
theorem PySem.W.Fast.tw529349397312225996 : True := trivial
theorem PySem.W.Fast.tw15100891772578812285 : True := trivial
theorem PySem.W.Fast.tw9580358943217087146 : True := trivial
theorem PySem.W.Fast.tw16918125826318969046 : True := trivial
theorem PySem.W.Fast.tw4262527184275114716 : True := trivial
theorem PySem.W.Fast.tw13162979438478342158 : True := trivial
theorem PySem.W.Fast.tw18014290185672940575 : True := trivial
theorem PySem.W.Fast.tw807066525946513973 : True := trivial
theorem PySem.W.Fast.tw4721787963938841309 : True := trivial
theorem PySem.W.Fast.tw4736170912798111051 : True := trivial
theorem PySem.W.Fast.tw6564551424743405454 : True := trivial
theorem PySem.W.Fast.tw7289829635294662797 : True := trivial
theorem PySem.W.Fast.tw5438835300046961156 : True := trivial
theorem PySem.W.Fast.tw10631037096820006334 : True := trivial
theorem PySem.W.Fast.tw8356206204349851118 : True := trivial
theorem PySem.W.Fast.tw4239166045466117287 : True := trivial
theorem PySem.W.Fast.tw12766537590260386579 : True := trivial
theorem PySem.W.Fast.tw1581102814563553349 : True := trivial
theorem PySem.W.Fast.tw2653691151923966457 : True := trivial
theorem PySem.W.Fast.tw8462004079990681446 : True := trivial
theorem PySem.W.Fast.tw12401846926053018532 : True := trivial
theorem PySem.W.Fast.tw9723729746011244446 : True := trivial
theorem PySem.W.Fast.tw5462356915824733550 : True := trivial
theorem PySem.W.Fast.tw11521644654407145850 : True := trivial
theorem PySem.W.Fast.tw4717867541336396030 : True := trivial
theorem PySem.W.Fast.tw4597088121312921332 : True := trivial
theorem PySem.W.Fast.tw13098215619366753234 : True := trivial
theorem PySem.W.Fast.tw10188353697889495077 : True := trivial
theorem PySem.W.Fast.tw7131538087112545224 : True := trivial
theorem PySem.W.Fast.tw7815820426991802620 : True := trivial
theorem PySem.W.Fast.tw16001667796921839347 : True := trivial
theorem PySem.W.Fast.tw16634208322895455256 : True := trivial
theorem PySem.W.Fast.tw6614935444206759155 : True := trivial
theorem PySem.W.Fast.tw16073871051908712006 : True := trivial
theorem PySem.W.Fast.tw2506702381663791845 : True := trivial
theorem PySem.W.Fast.tw10500897193308578579 : True := trivial
theorem PySem.W.Fast.tw16621872873885708235 : True := trivial
theorem PySem.W.Fast.tw15883883789763386388 : True := trivial
theorem PySem.W.Fast.tw5560213698174951253 : True := trivial
theorem PySem.W.Fast.tw30939626392117386 : True := trivial
theorem PySem.W.Fast.tw17878289601584644729 : True := trivial
theorem PySem.W.Fast.tw15291064701518598668 : True := trivial
theorem PySem.W.Fast.tw1624914018835413991 : True := trivial
theorem PySem.W.Fast.tw17266547522015003869 : True := trivial
theorem PySem.W.Fast.tw12457065716207799444 : True := trivial
theorem PySem.W.Fast.tw4104663081793406169 : True := trivial
theorem PySem.W.Fast.tw12684783889850253457 : True := trivial
theorem PySem.W.Fast.tw6603046721077919804 : True := trivial
theorem PySem.W.Fast.tw4792990539784896761 : True := trivial
theorem PySem.W.Fast.tw6074503812604558099 : True := trivial
theorem PySem.W.Fast.tw13544633720864249244 : True := trivial
theorem PySem.W.Fast.tw16594098239668463132 : True := trivial
theorem PySem.W.Fast.tw14835008856774126341 : True := trivial
theorem PySem.W.Fast.tw9194014574129753648 : True := trivial
theorem PySem.W.Fast.tw18191500982721971233 : True := trivial
theorem PySem.W.Fast.tw4197788440611162454 : True := trivial
theorem PySem.W.Fast.tw5627611023835151834 : True := trivial
theorem PySem.W.Fast.tw15404966738970728329 : True := trivial
theorem PySem.W.Fast.tw15867588094270893148 : True := trivial
theorem PySem.W.Fast.tw12640178781239649342 : True := trivial
theorem PySem.W.Fast.tw11838237811026637311 : True := trivial
theorem PySem.W.Fast.tw167656507094507088 : True := trivial
theorem PySem.W.Fast.tw2105402408467063896 : True := trivial
theorem PySem.W.Fast.tw11846155351250234207 : True := trivial
theorem PySem.W.Fast.tw7035973243603659662 : True := trivial
theorem PySem.W.Fast.tw12642248197564311651 : True := trivial
theorem PySem.W.Fast.tw16423918259678844596 : True := trivial
open PySem PySem.W PyProof.Rows
set_option maxRecDepth 100000 in
set_option maxHeartbeats 0 in
theorem PySem.Challenge.cw_halforder_k98_whole_lists_of_neighbours_holds : PySem.Challenge.rw_halforder_k98_whole_lists_of_neighbours.Holds := by
 w_on;o_law;k_head;(case hw=>w_witness2)
 k_fill
 refine K98.walk (l:=PySem.Challenge.rw_halforder_k98_whole_lists_of_neighbours) rfl rfl (λw h Y=>PySem.W.kIn_of Y) ?F
 case F=>
  intro w mg fa h KX G hmg;refine' K98.all_mk KX G hmg ?q_aC_Ways ?q_pg_Ways ?q_hd_Ways ?q_po_Ways ?q_sa_Ways ?q_mk_Ways ?q_kc_Ways ?q_n_Ways_names ?q_n_Ways_bits ?q_n_Ways_ahead ?q_n_Ways_full ?q_n_Ways_known ?q_a0 ?q_l0 ?q_c0 ?q_k0 ?q_a1 ?q_l1 ?q_c1 ?q_k1 ?q_a2 ?q_l2 ?q_c2 ?q_k2 ?q_a3 ?q_l3 ?q_c3 ?q_k3 ?q_a4 ?q_l4 ?q_c4 ?q_k4 ?q_a5 ?q_l5 ?q_c5 ?q_k5 ?q_a6 ?q_l6 ?q_c6 ?q_k6 ?q_a7 ?q_l7 ?q_c7 ?q_k7 ?q_a8 ?q_l8 ?q_c8 ?q_k8 ?q_a9 ?q_l9 ?q_c9 ?q_k9 ?q_a10 ?q_l10 ?q_c10 ?q_k10 ?q_a11 ?q_l11 ?q_c11 ?q_k11 ?q_a12 ?q_l12 ?q_c12 ?q_k12 ?q_a13 ?q_l13 ?q_c13 ?q_k13 ?q_a14 ?q_l14 ?q_c14 ?q_k14 ?q_a15 ?q_l15 ?q_c15 ?q_k15 ?q_a16 ?q_l16 ?q_c16 ?q_k16 ?q_a17 ?q_l17 ?q_c17 ?q_k17 ?q_a18 ?q_l18 ?q_c18 ?q_k18 ?q_a19 ?q_l19 ?q_c19 ?q_k19 ?q_a20 ?q_l20 ?q_c20 ?q_k20 ?q_a21 ?q_l21 ?q_c21 ?q_k21 ?q_a22 ?q_l22 ?q_c22 ?q_k22 ?q_a23 ?q_l23 ?q_c23 ?q_k23 ?q_a24 ?q_l24 ?q_c24 ?q_k24 ?q_a25 ?q_l25 ?q_c25 ?q_k25 ?q_a26 ?q_l26 ?q_c26 ?q_k26 ?q_a27 ?q_l27 ?q_c27 ?q_k27 ?q_a28 ?q_l28 ?q_c28 ?q_k28 ?q_a29 ?q_l29 ?q_c29 ?q_k29 ?q_a30 ?q_l30 ?q_c30 ?q_k30 ?q_a31 ?q_l31 ?q_c31 ?q_k31 ?q_a32 ?q_l32 ?q_c32 ?q_k32 ?q_a33 ?q_l33 ?q_c33 ?q_k33 ?q_a34 ?q_l34 ?q_c34 ?q_k34 ?q_a35 ?q_l35 ?q_c35 ?q_k35 ?q_a36 ?q_l36 ?q_c36 ?q_k36 ?q_a37 ?q_i37 ?q_l37 ?q_c37 ?q_k37 ?q_a38 ?q_i38 ?q_l38 ?q_c38 ?q_k38 ?q_a39 ?q_i39 ?q_l39 ?q_c39 ?q_k39 ?q_g0 ?q_g1 ?q_z0 ?q_z1 ?q_z2 ?q_z3 ?q_z4 ?q_z5 ?q_z6 ?q_z7 ?q_z8 ?q_z9 ?q_z10 ?q_z11 ?q_z12
  (case q_aC_Ways=>k_is)
  (case q_pg_Ways=>k_is)
  (case q_hd_Ways=>k_is)
  (case q_po_Ways=>k_is)
  (case q_sa_Ways=>k_is)
  (case q_mk_Ways=>k_is)
  (case q_kc_Ways=>k_is)
  (case q_n_Ways_names=>k_is)
  (case q_n_Ways_bits=>k_is)
  (case q_n_Ways_ahead=>k_is)
  (case q_n_Ways_full=>k_is)
  (case q_n_Ways_known=>k_is)
  (case q_a0=>k_is)
  (case q_l0=>k_is)
  (case q_c0=>k_is)
  (case q_k0=>k_is)
  (case q_a1=>k_is)
  (case q_l1=>k_is)
  (case q_c1=>k_is)
  (case q_k1=>k_is)
  (case q_a2=>k_is)
  (case q_l2=>k_is)
  (case q_c2=>k_is)
  (case q_k2=>k_is)
  (case q_a3=>k_is)
  (case q_l3=>k_is)
  (case q_c3=>k_is)
  (case q_k3=>k_is)
  (case q_a4=>k_is)
  (case q_l4=>k_is)
  (case q_c4=>k_is)
  (case q_k4=>k_is)
  (case q_a5=>k_is)
  (case q_l5=>k_is)
  (case q_c5=>k_is)
  (case q_k5=>k_is)
  (case q_a6=>k_is)
  (case q_l6=>k_is)
  (case q_c6=>k_is)
  (case q_k6=>k_is)
  (case q_a7=>k_is)
  (case q_l7=>k_is)
  (case q_c7=>k_is)
  (case q_k7=>k_is)
  (case q_a8=>k_is)
  (case q_l8=>k_is)
  (case q_c8=>k_is)
  (case q_k8=>k_is)
  (case q_a9=>k_is)
  (case q_l9=>k_is)
  (case q_c9=>k_is)
  (case q_k9=>k_is)
  (case q_a10=>k_is)
  (case q_l10=>k_is)
  (case q_c10=>k_is)
  (case q_k10=>k_is)
  (case q_a11=>k_is)
  (case q_l11=>k_is)
  (case q_c11=>k_is)
  (case q_k11=>k_is)
  (case q_a12=>k_is)
  (case q_l12=>k_is)
  (case q_c12=>k_is)
  (case q_k12=>k_is)
  (case q_a13=>k_is)
  (case q_l13=>k_is)
  (case q_c13=>k_is)
  (case q_k13=>k_is)
  (case q_a14=>k_is)
  (case q_l14=>k_is)
  (case q_c14=>k_is)
  (case q_k14=>k_is)
  (case q_a15=>k_is)
  (case q_l15=>k_is)
  (case q_c15=>k_is)
  (case q_k15=>k_is)
  (case q_a16=>k_is)
  (case q_l16=>k_is)
  (case q_c16=>k_is)
  (case q_k16=>k_is)
  (case q_a17=>k_is)
  (case q_l17=>k_is)
  (case q_c17=>k_is)
  (case q_k17=>k_is)
  (case q_a18=>k_is)
  (case q_l18=>k_is)
  (case q_c18=>k_is)
  (case q_k18=>k_is)
  (case q_a19=>k_is)
  (case q_l19=>k_is)
  (case q_c19=>k_is)
  (case q_k19=>k_is)
  (case q_a20=>k_is)
  (case q_l20=>k_is)
  (case q_c20=>k_is)
  (case q_k20=>k_is)
  (case q_a21=>k_is)
  (case q_l21=>k_is)
  (case q_c21=>k_is)
  (case q_k21=>k_is)
  (case q_a22=>k_is)
  (case q_l22=>k_is)
  (case q_c22=>k_is)
  (case q_k22=>k_is)
  (case q_a23=>k_is)
  (case q_l23=>k_is)
  (case q_c23=>k_is)
  (case q_k23=>k_is)
  (case q_a24=>k_is)
  (case q_l24=>k_is)
  (case q_c24=>k_is)
  (case q_k24=>k_is)
  (case q_a25=>k_is)
  (case q_l25=>k_is)
  (case q_c25=>k_is)
  (case q_k25=>k_is)
  (case q_a26=>k_is)
  (case q_l26=>k_is)
  (case q_c26=>k_is)
  (case q_k26=>k_is)
  (case q_a27=>k_is)
  (case q_l27=>k_is)
  (case q_c27=>k_is)
  (case q_k27=>k_is)
  (case q_a28=>k_is)
  (case q_l28=>k_is)
  (case q_c28=>k_is)
  (case q_k28=>k_is)
  (case q_a29=>k_is)
  (case q_l29=>k_is)
  (case q_c29=>k_is)
  (case q_k29=>k_is)
  (case q_a30=>k_is)
  (case q_l30=>k_is)
  (case q_c30=>k_is)
  (case q_k30=>k_is)
  (case q_a31=>k_is)
  (case q_l31=>k_is)
  (case q_c31=>k_is)
  (case q_k31=>k_is)
  (case q_a32=>k_is)
  (case q_l32=>k_is)
  (case q_c32=>k_is)
  (case q_k32=>k_is)
  (case q_a33=>k_is)
  (case q_l33=>k_is)
  (case q_c33=>k_is)
  (case q_k33=>k_is)
  (case q_a34=>k_is)
  (case q_l34=>k_is)
  (case q_c34=>k_is)
  (case q_k34=>k_is)
  (case q_a35=>k_is)
  (case q_l35=>k_is)
  (case q_c35=>k_is)
  (case q_k35=>k_is)
  (case q_a36=>k_is)
  (case q_l36=>k_is)
  (case q_c36=>k_is)
  (case q_k36=>k_is)
  (case q_a37=>k_is)
  (case q_i37=>k_is)
  (case q_l37=>k_is)
  (case q_c37=>k_is)
  (case q_k37=>k_is)
  (case q_a38=>k_is)
  (case q_i38=>k_is)
  (case q_l38=>k_is)
  (case q_c38=>k_is)
  (case q_k38=>k_is)
  (case q_a39=>k_is)
  (case q_i39=>k_is)
  (case q_l39=>k_is)
  (case q_c39=>k_is)
  (case q_k39=>k_is)
  (case q_g0=>k_is)
  (case q_g1=>k_is)
  (case q_z0=>k_is)
  (case q_z1=>k_is)
  (case q_z2=>k_is)
  (case q_z3=>k_is)
  (case q_z4=>k_is)
  (case q_z5=>k_is)
  (case q_z6=>k_is)
  (case q_z7=>k_is)
  (case q_z8=>k_is)
  (case q_z9=>k_is)
  (case q_z10=>k_is)
  (case q_z11=>k_is)
  (case q_z12=>k_is)
