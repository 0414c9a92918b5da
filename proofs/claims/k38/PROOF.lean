import PyProof.Rows.All
import Wide.All
import OpenK.AllK
import Wide.FinOn
import PyProof.EqAt
import PyProof.EqKinds
import PyProof.TupleCall
import Lean
import PyProof.DictWalks
import PyProof.DictIter
import PyProof.P3In
import KE.KEqSeq
import PyProof.ReprLen
import PyProof.ReprRoads
import PyProof.StrOps2
import KE.KRevSl
import PyProof.IsRules
import PyProof.StrLawsIdx
import PyProof.Rows.RegRepr
import PyProof.Rows.RegFStrParts
import PyProof.DictUpdate
import PyProof.AttrMissHeap
import PyProof.Walks
import KE.KDictOf
import PyProof.EnumIter
import PyProof.EnumFor
import PyProof.LayNew
import PyProof.EnumMake
import PyProof.Draws
import PyProof.WalksT
import PyProof.TupleIter
import PyProof.WalksMore
import KE.KRevIter
import KE.KEqDict
import PyProof.Rows.SetFrom
import PyProof.StrLawsTight
import PyProof.StrLawsChain
import PyProof.SumWalk
import PyProof.Rows.SortStr
import PyProof.Rows.SortWalk
import PyProof.TupleOfSeq
import KE.KDictSum
import KE.KSortTup
import PyProof.ListRange
import PyProof.ZipIter
import PyProof.Rows.ZipGen
import KE.KItemsList
import PyProof.ExcArgsOwn
import PyProof.InstStoreFacts
import PyProof.ExcBaseAll.ValueError
import PyProof.StationsW
import PyProof.RulesAs
import PyProof.RulesDel
import PyProof.NeKinds
import PyProof.ListMulAny
import KE.KMinBuiltin
import PyProof.Rows.CallKwBuiltin
import KE.KLam
import KE.KMinKey
import PyProof.WalkInts
import KE.KNestM
import PyProof.SeqI3
import KE.KSortKey
import PyProof.MaxThree
import PySem.Challenge.RW_halforder_k38_single_lists
local macro_rules | `(tactic| eq_refl) => `(tactic| with_unfolding_all exact Or.inl rfl)
local macro_rules | `(tactic| ac_rfl) => `(tactic| with_unfolding_all exact fun _ _ => rfl)
local macro_rules | `(tactic| ac_nf) => `(tactic| with_unfolding_all rfl)
noncomputable section
local macro_rules | `(⋯) => `(by ac_nf)
local macro_rules | `(∅) => `(by omega)
local macro_rules | `(nofun) => `(by decide)
local macro_rules | `(tactic| symm) => `(tactic| walk_at "rd")
def A00:=@List.length_map
def A01:=@List.getElem?_eq_some_iff
def A02:=@PySem.wpAny_bind
def A03:=@List.mem_of_getElem?
def A04:=@List.getElem?_eq_getElem
def A05:=@Nat.le_refl
def A06:=@PySem.Heap.get?_push_of_some
def A07:=@List.getElem?_map
def A08:=@List.length_append
def A09:=@PySem.wpAny_pure
def A0A:=@List.map_append
def A0B:=@List.mem_append
def A0C:=@Nat.le_trans
def A0D:=@List.length_eq_zero_iff
def A0E:=@List.mem_cons_of_mem
def A0F:=@List.mem_cons
def A0G:=@Bool.false_ne_true
def A0H:=@PyProof.Rows.wpS_bind
def A0I:=@List.map_cons
def A0J:=@List.length_take
def A0K:=@decide_eq_true
def A0L:=@List.take_add_one
def A0M:=@Array.getElem?_toList
def A0N:=@PySem.Heap.lt_size
def A0O:=@List.nodup_cons
def A0P:=@if_neg
def A0Q:=@List.take_length
def A0R:=@decide_eq_false
def A0S:=@List.mem_cons_self
def A0T:=@PyProof.Rows.wpS_pure
def A0U:=@PySem.W.mg_of
def A0V:=@List.mem_map
def A0W:=@List.length_cons
def A0X:=@List.size_toArray
def A0Y:=@if_pos
def A0Z:=@PySem.Heap.get?_push_size
def A10:=@beq_iff_eq
def A11:=@Array.length_toList
def A12:=@List.append_assoc
def A13:=@PySem.PassesOwn.never
def A14:=@List.pairwise_append
def A15:=@List.mem_filter
def A16:=@List.mem_singleton
def A17:=@List.append_nil
def A18:=@List.getElem?_append_right
def A19:=@Nat.ne_of_lt
def A1A:=@of_decide_eq_true
def A1B:=@PySem.sizeLine_eq
def A1C:=@Nat.lt_of_lt_of_le
def A1D:=@List.length_range
def A1E:=@List.mem_of_mem_take
def A1F:=@Nat.le_of_lt
def A1G:=@List.mem_append_right
def A1H:=@Array.getElem?_eq_getElem
def A1I:=@Option.some.inj
def A1J:=@List.map_congr_left
def A1K:=@List.length_drop
def A1L:=@Bool.and_eq_true
def A1M:=@List.drop_left
def A1N:=@PySem.W.mg_none_of
def A1O:=@List.length_singleton
def A1P:=@List.map_map
def A1Q:=@List.length_filter_le
def A1R:=@beq_eq_false_iff_ne
def A1S:=@PySem.W.kia_one
def A1T:=@Array.toList_append
def A1U:=@List.lookup_cons
def A1V:=@List.any_cons
def A1W:=@PySem.F.plainAttrs_list
def A1X:=@List.getD_eq_getElem?_getD
def A1Y:=@PyProof.Rows.wpS_forRange
def A1Z:=@List.take_of_length_le
def A20:=@List.getElem?_append_left
def A21:=@List.mem_range
def A22:=@List.getElem_inj
def A23:=@List.filter_cons
def A24:=@Nat.zero_le
def A25:=@List.pairwise_cons
def A26:=@List.pairwise_singleton
def A27:=@of_decide_eq_false
def A28:=@List.mem_of_mem_drop
def A29:=@List.nodup_append
def A2A:=@List.sum_cons
def A2B:=@List.take_left
def A2C:=@List.take_append_drop
def A2D:=@List.getElem?_take_of_lt
def A2E:=@List.filter_append
def A2F:=@List.any_eq_true
def A2G:=@List.mem_append_left
def A2H:=@PySem.wpAny_holding
def A2I:=@List.drop_drop
def A2J:=@True.intro
def A2K:=@List.Pairwise.nil
def A2L:=@List.filter_congr
def A2M:=@List.length_nil
def A2N:=@List.length_pos_iff
def A2O:=@Option.map_eq_some_iff
def A2P:=@PySem.wpAny_call_entry
def A2Q:=@List.all_eq_true
def A2R:=@PySem.Paired.length
def A2S:=@List.length_replicate
def A2T:=@PyProof.Rows.wpS_mono
def A2U:=@List.not_lt
def A2V:=@PySem.wpAny_mono
def A2W:=@PyProof.Rows.slot_tuple_getitem
def A2X:=@PySem.wpAny_newObj_type
def A2Y:=@List.nil_append
def A2Z:=@Nat.lt_irrefl
def A30:=@PySem.wpAny_callSpecial?_slot
def A31:=@List.replicate_succ
def A32:=@List.getElem_of_mem
def A33:=@List.map_take
def A34:=@PySem.wpAny_typeNameOfWhole_keyiter
def A35:=@PySem.Heap.size_push
def A36:=@List.getElem_cons_drop
def A37:=@PySem.tupleKind_room_in1
def A38:=@Int.emod_lt_of_pos
def A39:=@PySem.wpAny_passesOwn
def A3A:=@PyProof.Rows.callWith_type1
def A3B:=@Or.inr
def A3C:=@List.getElem?_eq_none
def A3D:=@Nat.min_eq_left
def A3E:=@PySem.wpAny_truthy_bool
def A3F:=@Nat.lt_succ_of_lt
def A3G:=@List.map_drop
def A3H:=@List.pairwise_iff_getElem
def A3I:=@List.extract_eq_take_drop
def A3J:=@List.getElem_mem
def A3K:=@PySem.mem_of_lookup
def A3L:=@Int.toNat_of_nonneg
def A3M:=@PySem.F.slot_tuple_index
def A3N:=@PySem.wpAny_typeNameOf_keyiter
def A3O:=@PySem.wpAny_getItem_str_slice
def A3P:=@Nat.add_sub_cancel_left
def A3Q:=@Int.emod_nonneg
def A3R:=@PySem.Calls.callWith_builtin
def A3S:=@List.flatten_cons
def A3T:=@PySem.call_meets
def A3U:=@List.Perm.refl
def A3V:=@Nat.sub_self
def A3W:=@Nat.lt_succ_self
def A3X:=@Nat.min_le_right
def A3Y:=@List.getElem?_set_ne
def A3Z:=@Nat.pow_le_pow_right
def A40:=@List.idxOf_cons_self
def A41:=@Array.toList_extract
def A42:=@PySem.wpAny_rule
def A43:=@Bool.eq_iff_iff
def A44:=@List.foldl_cons
def A45:=@List.filter_sublist
def A46:=@List.flatMap_append
def A47:=@List.flatten_append
def A48:=@List.range_succ
def A49:=@PySem.wpAny_Call_Name_kw
def A4A:=@PySem.call_meetsIn
def A4B:=@List.lookup_append
def A4C:=@List.Perm.swap
def A4D:=@PySem.Calls.call_function_entry
def A4E:=@List.reverse_cons
def A4F:=@List.length_erase_of_mem
def A4G:=@PySem.wpAny_dictEntries
def A4H:=@PySem.F.slot_list_extend
def A4I:=@PySem.F.type_list_extend
def A4J:=@PySem.F.type_tuple_index
def A4K:=@decide_eq_true_eq
def A4L:=@List.getElem?_replicate
def A4M:=@Bool.false_or
def A4N:=@PySem.F.plainAttrs_dict
def A4O:=@Nat.max_eq_right
def A4P:=@List.getElem?_set_self
def A4Q:=@List.length_pos_of_mem
def A4R:=@List.drop_eq_nil_of_le
def A4S:=@List.flatten_singleton
def A4T:=@PySem.wpAny_execs_nil
def A4U:=@Nat.le_of_eq
def A4V:=@List.of_mem_zip
def A4W:=@PySem.wpAny_typeOf
def A4X:=@Nat.mul_comm
def A4Y:=@Option.map_some
def A4Z:=@PySem.F.slot_dict_get
def A50:=@PySem.post_val_or_str
def A51:=@List.Perm.append_left
def A52:=@PySem.wpAny_notOrdered_dict
def A53:=@PySem.wpAny_isOneOf_keyiter
def A54:=@List.Pairwise.sublist
def A55:=@Nat.succ.inj
def A56:=@Nat.not_lt_zero
def A57:=@PyProof.Rows.wpS_get
def A58:=@List.singleton_append
def A59:=@List.mem_iff_getElem?
def A5A:=@PyProof.Rows.wpS_modify
def A5B:=@PySem.Calls.evalArgs_plain
def A5C:=@List.mem_erase_of_ne
def A5D:=@PySem.wpAny_fieldsOf
def A5E:=@PySem.W.plainGet_of
def A5F:=@List.length_reverse
def A5G:=@List.filter_eq_self
def A5H:=@PySem.Calls.spliced_cons
def A5I:=@PySem.W.callWith_K
def A5J:=@List.Nodup.sublist
def A5K:=@List.filter_filter
def A5M:=@List.getElem?_drop
set_option linter.all false
set_option maxRecDepth 100000
set_option maxHeartbeats 4000000
set_option Elab.async false
set_option compiler.extract_closed false
namespace L2
open PySem PySem.Spec PyProof.Rows
abbrev Key:=Sum Int Str
def Tp:Key->Value->Bool
 |.inl k,v=>Value.isInt k v
 |.inr x,v=>Value.isStrOf x v
def keyH (w:World):Key->Int
 |.inl k=>hashInt k
 |.inr x=>hashStr w x
theorem Bs:∀ {k:Key} {v:Value},Tp k v=true->(∃ i t,k=Sum.inl i/\v=Value.int i t)\/(∃ x t,k=Sum.inr x/\v=Value.str x t)
 |.inl i,v,h=>by obtain⟨t,e⟩:=Value.isInt_shape (k:=i) (v:=v) h;exact .inl ⟨i,t,rfl,e⟩
 |.inr x,v,h=>by obtain⟨t,e⟩:=Value.isStrOf_shape (x:=x) (v:=v) h;exact .inr ⟨x,t,rfl,e⟩
theorem Xq (i:Int)(t:Tok):Tp (.inl i) (.int i t)=true:=by simp[Tp,Value.isInt]
theorem Xu (x:Str)(t:Tok):Tp (.inr x) (.str x t)=true:=by simp[Tp,Value.isStrOf]
theorem ax9 (a b:Int):decide ((Sum.inl a:Key)=Sum.inl b)=(a==b):=by
 by_cases e:a=b
 . subst e;simp
 have h:¬ (Sum.inl a:Key)=Sum.inl b:=λq=>e (Sum.inl.inj q);rw[A0R h];exact(A1R.mpr e).symm
theorem ao2 (a b:Str):decide ((Sum.inr a:Key)=Sum.inr b)=decide (a=b):=by
 by_cases e:a=b
 . subst e;simp
 have h:¬ (Sum.inr a:Key)=Sum.inr b:=λq=>e (Sum.inr.inj q);rw[A0R h,A0R e]
theorem ax3 (a:Int)(b:Str):decide ((Sum.inl a:Key)=Sum.inr b)=false:=A0R (λq=>nomatch q)
theorem at8 (a:Str)(b:Int):decide ((Sum.inr a:Key)=Sum.inl b)=false:=A0R (λq=>nomatch q)
def Ax (prog:Program)(w:World):PySem.KeyKind prog w Key where
 is:=Tp
 hash:=keyH w
 inj:=λv a b ha hb=>by
  rcases Bs ha with ⟨i,t,rfl,rfl⟩|⟨x,t,rfl,rfl⟩
  . rcases Bs hb with ⟨j,u,rfl,e⟩|⟨y,u,rfl,e⟩
    . injection e with e1 _;rw[e1]
    exact nomatch e
  rcases Bs hb with ⟨j,u,rfl,e⟩|⟨y,u,rfl,e⟩
  . exact nomatch e
  injection e with e1 _;rw[e1]
 byValue:=λk v h=>by rcases Bs h with ⟨i,t,rfl,rfl⟩|⟨x,t,rfl,rfl⟩<;>rfl
 pyHash:=λhv h=>by
  rcases Bs hv with ⟨i,t,rfl,rfl⟩|⟨x,t,rfl,rfl⟩
  . exact wpAny_pyHash_int h
  exact wpAny_pyHash_str h
 eqBool:=λhu hv h=>by
  rcases Bs hu with ⟨i,t,rfl,rfl⟩|⟨x,t,rfl,rfl⟩
  . rcases Bs hv with ⟨j,u,rfl,rfl⟩|⟨y,u,rfl,rfl⟩
    . rw[ax9] at h;exact wpAny_eqBool_int h
    rw[ax3] at h;exact SeqAt.EqAt.int_str i t y u _ _ _ _ h
  rcases Bs hv with ⟨j,u,rfl,rfl⟩|⟨y,u,rfl,rfl⟩
  . rw[at8] at h;exact SeqAt.EqAt.str_int x t j u _ _ _ _ h
  rw[ao2] at h;exact wpAny_eqBool_str h
 «strs»:=λk x t v h=>by
  rcases Bs h with ⟨i,u,rfl,e⟩|⟨y,u,rfl,e⟩
  . exact nomatch e
  injection e with e1 _;subst e1
  cases v<;>rfl
theorem Sm (prog:Program)(w:World)(i:Int)(t:Tok):(Ax prog w).is (.inl i) (.int i t)=true:=Xq i t
theorem T6 (prog:Program)(w:World)(x:Str)(t:Tok):(Ax prog w).is (.inr x) (.str x t)=true:=Xu x t
inductive V where
 |non | bl (b:Bool) | int (i:Int) | str (x:Str) | byt (b:Array UInt8) | flt (b:UInt64) | ref (a:Addr) | ty (n:String)
 deriving DecidableEq
def RelV:V->Value->Prop
 |.non,u=>u=Value.none
 |.bl b,u=>u=Value.bool b
 |.int i,u=>∃ t,u=Value.int i t
 |.str x,u=>∃ t,u=Value.str x t
 |.byt b,u=>∃ t,u=Value.bytes b t
 |.flt b,u=>∃ t,u=Value.float b t
 |.ref a,u=>u=Value.ref a
 |.ty n,u=>u=Value.type n
abbrev Vals:List V->List Value->Prop:=Paired RelV
theorem Vals.length {xs:List V} {us:List Value} (r:Vals xs us):xs.length=us.length:=A2R r
theorem Vals.get:∀ {xs:List V} {us:List Value} {i:Nat} {x:V},Vals xs us->xs[i]? = some x->∃ u,us[i]? = some u/\RelV x u
 |_,_,_,_,.nil,e=>by simp at e
 |_,_,0,_,.cons r _,e=>by simp at e;subst e;exact⟨_,rfl,r⟩
 |_,_,i+1,x,.cons _ t,e=>by obtain⟨u,h1,h2⟩:=Vals.get (i:=i) (x:=x) t (by simpa using e);exact⟨u,by simpa using h1,h2⟩
theorem Vals.append:∀ {xs ys:List V} {us ws:List Value},Vals xs us->Vals ys ws->Vals (xs++ys) (us++ws)
 |_,_,_,_,.nil,s=>s
 |_,_,_,_,.cons r t,s=>.cons r (Vals.append t s)
theorem Vals.take:∀ {xs:List V} {us:List Value} (n:Nat),Vals xs us->Vals (xs.take n) (us.take n)
 |_,_,0,_=>.nil
 |_,_,_+1,.nil=>.nil
 |_,_,n+1,.cons r t=>.cons r (Vals.take n t)
theorem Vals.drop:∀ {xs:List V} {us:List Value} (n:Nat),Vals xs us->Vals (xs.drop n) (us.drop n)
 |_,_,0,r=>r
 |_,_,_+1,.nil=>.nil
 |_,_,n+1,.cons _ t=>Vals.drop n t
def RelO:Option V->Option Value->Prop
 |some v,some u=>RelV v u
 |none,none=>True
 |_,_=>False
def KV {κ:Type}:List (κ×V)->List (κ×Value)->Prop:=Paired λ(p:κ×V) (q:κ×Value)=>p.1=q.1/\RelV p.2 q.2
def kV:Key->V
 |.inl i=>.int i
 |.inr x=>.str x
def IsTupN (h:Heap)(a:Addr)(items:Array Value):Prop:=∃ o,h.get? a=some o/\o.cls = .type "tuple" /\ (∃ n,o.data = .seq items n)/\o.dict=none
theorem IsTupN.tup {h:Heap}{a:Addr}{items:Array Value}(x:IsTupN h a items):IsTup h a items:=let ⟨o,h1,h2,⟨n,h3⟩,_⟩:=x;⟨o,h1,h2,n,h3⟩
theorem IsTupN.new (h:Heap)(its:Array Value):IsTupN (h.push {cls:=.type "tuple",data:=.seq its}) h.objs.size its:=⟨_,A0Z _ rfl,rfl,⟨_,rfl⟩,rfl⟩
inductive HO where
 |lst (xs:List V)
 |tup (xs:List V)
 |dK (kvs:List (Key×V)) | dT (kvs:List (List Key×V))
 |set (S:Int->Bool) (n:Nat)
 |ins (C dx:Addr) (fs:List (Str×V))
 |own (x:Addr)
 |xd (fs:List (Str×V))
 |met (f x:Addr)
 |rng (lo hi:Int)
 |frz (o:Obj) (u:HO)
 |tbl (ps:Array Value)
 |ext (φ:Heap->Prop)
abbrev Hp:=Addr->Option HO
def upd (H:Hp)(a:Addr)(o:HO):Hp:=λb=>if b=a then some o else H b
theorem A8 {H:Hp}{a:Addr}{o:HO}:upd H a o a=some o:=by unfold upd;rw[if_pos rfl]
theorem B9 {H:Hp}{a b:Addr}{o:HO}(h:b≠a):upd H a o b=H b:=by unfold upd;rw[if_neg h]
theorem ne_of {H:Hp}{a b:Addr}{o u:HO}(h:H a=some o)(h':H b=some u)(d:o≠u):a≠b:=by intro e;subst e;rw[h] at h';exact d (A1I h')
theorem ne_of_none {H:Hp}{a b:Addr}{o:HO}(h:H a=some o)(h':H b=none):a≠b:=by intro e;subst e;rw[h] at h';cases h'
section
variable (P:Program)(w:World)
def ObjOk (H:Hp)(h:Heap)(a:Addr):HO->Prop
 |.lst xs=>xs.length<=sizeLine/\∃(its:List Value) (n:Nat),Vals xs its/\h.get? a=some {cls:=.type "list",data:=.seq its.toArray n}
 |.tup xs=>xs.length<=sizeLine/\∃ its:List Value,Vals xs its/\IsTupN h a its.toArray
 |.dK kvs=>kvs.length<=sizeLine/\(a==sysModules)=false/\∃ vs,KV kvs vs/\h.DictOf (Ax P w) a vs
 |.dT kvs=>kvs.length<=sizeLine/\(a==sysModules)=false/\∃ xs:List (List Key×Addr×Value),
   Paired (λ(p:List Key×V) (q:List Key×Addr×Value)=>p.1=q.1/\H q.2.1=some (.tup (p.1.map kV))/\RelV p.2 q.2.2) kvs xs /\
   ∃ o es ep,h.get? a=some o/\o.ExactDict/\o.data = .dict es ep/\es.toList=xs.map (entryOfKey (tupleKind (Ax P w)))/\(xs.map (·.1)).Nodup
 |.set S n=>h.SetOf (intKind P w) a S n
 |.ins C dx fs=>H dx=some (.own a)/\fs.length<=1000/\dx≠a/\h.get? a=some (W.instObj C dx) /\
   ∃ mA,h.Ns1 dx mA/\(∀ f,RelO (fs.lookup f) (mA f))/\PySem.Within mA (fs.map (·.1))
 |.own _=>∃ o,h.get? a=some o
 |.xd fs=>∃ mA,h.Ns1 a mA/\∀ f,RelO (fs.lookup f) (mA f)
 |.rng lo hi=>∃ t u v,h.get? a=some {cls:=.type "range",data:=.fields #[.int lo t,.int hi u,.int 1 v]}
 |.frz o u=>h.get? a=some o/\ObjOk H h a u
 |.tbl ps=>h.get? a=some {cls:=.none,data:=.fields ps}
 |.met f x=>h.get? a=some (W.methodObj (.ref f) (.ref x))
 |.ext φ=>φ h/\(∃ o,h.get? a=some o)/\∀ h1 h2:Heap,φ h1->(∀ o,h1.get? a=some o->h2.get? a=some o)->φ h2
def HOk (H:Hp)(h:Heap):Prop:=∀ a o,H a=some o->ObjOk P w H h a o
end
section
variable {P:Program}{w:World}{H H':Hp}{h h':Heap}{a:Addr}{o:HO}
theorem ObjOk.lt (x:ObjOk P w H h a o):a<h.objs.size:=by
 cases o with
 |lst xs=>obtain⟨_,_,_,_,e⟩:=x;exact A0N e
 |tup xs=>obtain⟨_,_,_,p⟩:=x;exact p.tup.lt
 |dK kvs=>obtain⟨_,_,_,_,o,_,_,e,_⟩:=x;exact A0N e
 |dT kvs=>obtain⟨_,_,_,_,o,_,_,e,_⟩:=x;exact A0N e
 |set S n=>obtain⟨o,_,_,_,e,_⟩:=x;exact A0N e
 |ins C dx fs=>obtain⟨_,_,_,e,_⟩:=x;exact A0N e
 |own y=>obtain⟨_,e⟩:=x;exact A0N e
 |xd fs=>obtain⟨_,⟨_,_,_,e,_⟩,_⟩:=x;exact A0N e
 |rng lo hi=>obtain⟨_,_,_,e⟩:=x;exact A0N e
 |frz ob u=>obtain⟨e,_⟩:=x;exact A0N e
 |tbl ps=>exact A0N (show h.get? a=some _ from x)
 |met f y=>exact A0N (show h.get? a=some _ from x)
 |ext φ=>obtain⟨_,⟨_,e⟩,_⟩:=x;exact A0N e
theorem Paired.mapP {α β:Type}{F G:α->β->Prop}:∀ {l₁:List α} {l₂:List β},Paired F l₁ l₂->(∀ a b,F a b->G a b)->Paired G l₁ l₂
 |_,_,.nil,_=>.nil
 |_,_,.cons r t,f=>.cons (f _ _ r) (Paired.mapP t f)
theorem ObjOk.stay (x:ObjOk P w H h a o)(k:∀ b u,(b=a\/H b=some (.own a))->h.get? b=some u->h'.get? b=some u)
  (ho:∀ b,H b=some (.own a)->H' b=some (.own a)) (ht:∀ b xs,H b=some (.tup xs)->H' b=some (.tup xs)):ObjOk P w H' h' a o:=by
 induction o with
 |lst xs=>obtain⟨z,its,n,r,e⟩:=x;exact⟨z,its,n,r,k _ _ (.inl rfl) e⟩
 |tup xs=>obtain⟨z,its,r,ob,e,c⟩:=x;exact⟨z,its,r,ob,k _ _ (.inl rfl) e,c⟩
 |dK kvs=>obtain⟨z,y,vs,r,ob,es,ep,e,c⟩:=x;exact⟨z,y,vs,r,ob,es,ep,k _ _ (.inl rfl) e,c⟩
 |dT kvs=>obtain⟨z,y,xs,r,ob,es,ep,e,c⟩:=x;exact⟨z,y,xs,Paired.mapP r λp q z=>⟨z.1,ht _ _ z.2.1,z.2.2⟩,ob,es,ep,k _ _ (.inl rfl) e,c⟩
 |set S n=>obtain⟨ob,es,ep,t,e,c⟩:=x;exact⟨ob,es,ep,t,k _ _ (.inl rfl) e,c⟩
 |ins C dx fs=>obtain⟨d,z,ne,e,mA,⟨od,es,ep,e2,c⟩,r⟩:=x;exact⟨ho _ d,z,ne,k _ _ (.inl rfl) e,mA,⟨od,es,ep,k _ _ (.inr d) e2,c⟩,r⟩
 |own y=>obtain⟨ob,e⟩:=x;exact⟨ob,k _ _ (.inl rfl) e⟩
 |xd fs=>obtain⟨mA,⟨od,es,ep,e,c⟩,r⟩:=x;exact⟨mA,⟨od,es,ep,k _ _ (.inl rfl) e,c⟩,r⟩
 |rng lo hi=>obtain⟨t,u,v,e⟩:=x;exact⟨t,u,v,k _ _ (.inl rfl) e⟩
 |frz ob u ih=>obtain⟨e,q⟩:=x;exact⟨k _ _ (.inl rfl) e,ih q⟩
 |tbl ps=>have e:h.get? a=some {cls:=.none,data:=.fields ps}:=x;show h'.get? a=some {cls:=.none,data:=.fields ps};exact k a _ (.inl rfl) e
 |met f y=>have e:h.get? a=some (W.methodObj (.ref f) (.ref y)):=x;show h'.get? a=some (W.methodObj (.ref f) (.ref y));exact k a _ (.inl rfl) e
 |ext φ=>obtain⟨p,⟨o,e⟩,st⟩:=x;exact⟨st _ _ p λo q=>k _ _ (.inl rfl) q,⟨o,k _ _ (.inl rfl) e⟩,st⟩
theorem HOk.lt (x:HOk P w H h)(e:H a=some o):a<h.objs.size:=(x a o e).lt
theorem HOk.fresh (x:HOk P w H h)(e:h.objs.size<=a):H a=none:=by
 cases q:H a with
 |none=>rfl
 |some u=>exact absurd (A1C (x.lt q) e) (A2Z _)
theorem HOk.kept (x:HOk P w H h)(k:∀ b u,h.get? b=some u->h'.get? b=some u):HOk P w H h':=λa o e=>
 (x a o e).stay (λb u _ q=>k b u q) (λ_ q=>q) λ_ _ q=>q
theorem HOk.laid (x:HOk P w H h)(k:∀ b u,h.get? b=some u->h'.get? b=some u)(hp:h.objs.size<=a)(new:ObjOk P w (upd H a o) h' a o):HOk P w (upd H a o) h':=λb u e=>by
 have hn:=x.fresh hp
 by_cases hb:b=a
 . subst hb;rw[A8] at e;cases e;exact new
 rw[B9 hb] at e;exact(x b u e).stay (λc v _ q=>k c v q) (λc q=>by rw[B9 (ne_of_none q hn)];exact q) λc xs q=>by rw[B9 (ne_of_none q hn)];exact q
end
def Rd (H:Hp)(a:Addr)(u:HO):Prop:=H a=some u\/∃ o,H a=some (.frz o u)
theorem Rd.of {H:Hp}{a:Addr}{u:HO}(h:H a=some u):Rd H a u:=.inl h
theorem Rd.ok {P:Program}{w:World}{H:Hp}{h:Heap}{a:Addr}{u:HO}(r:Rd H a u)(x:HOk P w H h):ObjOk P w H h a u:=by
 rcases r with r|⟨o,r⟩
 . exact x a u r
 obtain⟨_,q⟩:=x a _ r;exact q
def Mut:Option HO->Prop
 |some (.lst _)=>True
 |some (.dK _)=>True
 |some (.dT _)=>True
 |some (.set _ _)=>True
 |some (.ins _ _ _)=>True
 |some (.ext _)=>True
 |_=>False
section
variable {P:Program}{w:World}{H:Hp}{h h':Heap}{x e:Addr}{o':HO}
theorem HOk.write (ok:HOk P w H h)(mu:Mut (H x))(he:e=x\/H e=some (.own x))(k:∀ b u,b≠e->h.get? b=some u->h'.get? b=some u)(heo:∃ u,h'.get? e=some u)
  (new:ObjOk P w (upd H x o') h' x o'):HOk P w (upd H x o') h':=λb u q=>by
 have nown:∀ c y,H c=some (.own y)->c≠x:=λc y r z=>by subst z;rw[r] at mu;exact mu
 have ntup:∀ c xs,H c=some (.tup xs)->c≠x:=λc xs r z=>by subst z;rw[r] at mu;exact mu
 by_cases hb:b=x
 . subst hb;rw[A8] at q;cases q;exact new
 rw[B9 hb] at q
 by_cases hbe:b=e
 . have q':H b=some (.own x):=by
    rcases he with z|z
    . exact absurd (hbe.trans z) hb
    rw[hbe];exact z
   rw[q] at q';cases q';obtain⟨v,hv⟩:=heo;exact⟨v,by rw[hbe];exact hv⟩
 refine(ok b u q).stay (λc v hc r=>k c v ?_ r) (λc r=>by rw[B9 (nown c b r)];exact r) λc xs r=>by rw[B9 (ntup c xs r)];exact r
 rcases hc with rfl|hc
 . exact hbe
 rintro rfl;rcases he with z|z
 . exact nown c b hc z
 rw[hc] at z;cases z;exact hb rfl
end
structure Un (fs ex:List Addr)(H H':Hp)(h h':Heap):Prop where
 keep:∀ b o,h.get? b=some o->H b=none->b∉fs->b∉ex->h'.get? b=some o
 slot:∀ b o,h.get? b=some o->H b=none->b∈fs->b∉ex->∃ sl,h'.get? b=some {o with slots:=sl}
 free:∀ b o,h.get? b=some o->H b=none->b∉ex->H' b=none
 there:∀ b o,h.get? b=some o->b∉ex->∃ o',h'.get? b=some o'
 tups:∀ b xs,H b=some (.tup xs)->H' b=some (.tup xs)
 frzs:∀ b o u,H b=some (.frz o u)->H' b=some (.frz o u)
 tbls:∀ b ps,H b=some (.tbl ps)->∃ more,H' b=some (.tbl (ps++more))
section
variable {fs fs' ex ex':List Addr}{H H1 H2:Hp}{h h1 h2 h':Heap}{a x e:Addr}{o:HO}
theorem Un.any (u:Un fs ex H H1 h h1){b:Addr}{ob:Obj}(q:h.get? b=some ob)(n:H b=none)(hx:b∉ex):∃ sl,h1.get? b=some {ob with slots:=sl}:=by
 by_cases hb:b∈fs
 . exact u.slot b ob q n hb hx
 exact⟨ob.slots,u.keep b ob q n hb hx⟩
theorem Un.kept (k:∀ b u,h.get? b=some u->h'.get? b=some u):Un fs ex H H h h':=
 ⟨λb ob q _ _ _=>k b ob q,λb ob q _ _ _=>⟨ob.slots,k b ob q⟩,λ_ _ _ n _=>n,λb ob q _=>⟨ob,k b ob q⟩,λ_ _ q=>q,λ_ _ _ q=>q,λ_ ps q=>⟨#[],by rw[q];simp⟩⟩
theorem Un.refl:Un fs ex H H h h:=Un.kept λ_ _ q=>q
theorem Un.laid (k:∀ b u,h.get? b=some u->h'.get? b=some u)(hp:h.objs.size<=a)(hn:H a=none):Un fs ex H (upd H a o) h h' where
 keep:=λb u q _ _ _=>k b u q
 slot:=λb u q _ _ _=>⟨u.slots,k b u q⟩
 free:=λb u q n _=>by rw[B9 (A19 (A1C (A0N q) hp))];exact n
 there:=λb u q _=>⟨u,k b u q⟩
 tups:=λb xs q=>by rw[B9 (ne_of_none q hn)];exact q
 frzs:=λb u xs q=>by rw[B9 (ne_of_none q hn)];exact q
 tbls:=λb ps q=>⟨#[],by rw[B9 (ne_of_none q hn),q];simp⟩
theorem Un.write (mu:Mut (H x))(he:e=x\/H e=some (.own x))(k:∀ b u,b≠e->h.get? b=some u->h'.get? b=some u)(heo:∃ u,h'.get? e=some u):Un fs ex H (upd H x o) h h':=by
 have hx:∀ b,H b=none->b≠x:=λb n z=>by subst z;rw[n] at mu;exact mu
 have hb:∀ b,H b=none->b≠e:=λb n z=>by
  subst z;rcases he with r|r
  . exact hx b n r
  rw[n] at r;cases r
 have hm:∀ b u,H b=some u->¬ Mut (some u)->b≠x:=λb u q nm z=>by subst z;rw[q] at mu;exact nm mu
 refine⟨λb u q n _ _=>k b u (hb b n) q,λb u q n _ _=>⟨u.slots,k b u (hb b n) q⟩,λb u q n _=>by rw[B9 (hx b n)];exact n,λb u q _=>?_,
  λb xs q=>by rw[B9 (hm b _ q λz=>z)];exact q,λb u xs q=>by rw[B9 (hm b _ q λz=>z)];exact q,λb ps q=>⟨#[],by rw[B9 (hm b _ q λz=>z),q];simp⟩⟩
 by_cases hbe:b=e
 . subst hbe;exact heo
 exact⟨u,k b u hbe q⟩
end
def trk (h:Heap)(H:Hp):List Addr:=(List.range h.objs.size).filter λa=>(H a).isSome
def a62 (h:Heap)(H:Hp):Heap:=W.hideAll h (trk h H)
theorem Yt (h:Heap)(H:Hp):(a62 h H).objs.size=h.objs.size:=W.hideAll_size _ _
theorem a55 {h:Heap}{H:Hp}{b:Addr}{o:Obj}(e:h.get? b=some o)(n:H b=none):(a62 h H).get? b=some o:=
 W.hideAll_get _ e λhm=>by have q:(H b).isSome=true:=(A15.mp hm).2;rw[n] at q;simp at q
theorem al4 {h:Heap}{H:Hp}{b:Addr}{o:Obj}(e:(a62 h H).get? b=some o):h.get? b=some o/\H b=none:=by
 have e':h.get? b=some o:=W.of_hideAll (trk h H) e;refine⟨e',?_⟩
 cases q:H b with
 |none=>rfl
 |some x=>have hm:b∈trk h H:=List.mem_filter.mpr ⟨List.mem_range.mpr (Heap.lt_size e'),by simp[q]⟩;have z:(a62 h H).get? b=none:=W.hideAll_none (trk h H) hm;rw[z] at e;cases e
def ai2 (g h:Heap)(L:Addr):List (Addr×Obj):=(List.range h.objs.size).filterMap λa=>if a=L\/(g.get? a).isSome=true then none else(h.get? a).map λo=>(a,o)
def rest (g h:Heap)(L d:Addr):List (Addr×Obj):=(ai2 g h L).filter λp=>decide (p.1≠d)
structure Mod (K:W.Frag)(mg:Str->Option Value)(base:Heap):Prop where
 kin:K.In base
 glob:base.Ns mainGlobals mg
 blt:∃ mb,base.Ns builtinsNs mb/\∀ x:Str,x ≠ "__name__" -> mb x=bootBuiltins x
 nolimit:base.NoLimit
/-- the context: a def's body (or a comprehension's block) running. base: fixed through the whole law;s₀,H₀: the entry;outer: the frames whose slots others may change (a def's callers);stack: all frames that run;
  ex: iterators that were made ahead of the entry and are walked here (a comprehension's);fn: the names whose cells were made at the entry (a def: all;a comprehension's block: its own);calm: not within an except suite;pn: pins that every state bears;xe: what is wanted of an exception that leaves the code -/
structure Cx where
 prog:Program
 w:World
 K:W.Frag
 mg:Str->Option Value
 base:Heap
 A:Around
 N:List Str
 s₀:Shared
 H₀:Hp
 env:Env
 outer:List Env
 stack:List Env
 ex:List Addr
 fn:Str->Bool
 calm:Bool
 pn:List (Addr×Obj)
 xe:Value->Shared->Prop
def frs (l:List Env):List Addr:=l.filterMap (·.frame)
abbrev Cx.fs (X:Cx):List Addr:=frs X.outer
def Vis (sc:Scope)(x:Str):Prop:=sc.names.lookup x=some .local\/sc.names.lookup x=some .cell\/sc.names.lookup x=some .free
def Loc (sc:Scope)(x:Str):Prop:=sc.names.lookup x=some .local\/sc.names.lookup x=some .cell
def Look (env:Env)(h:Heap)(m:Str->Option Value)(x:Str)(u:Value):Prop:=
 (env.kindOf x=some .local/\m x=some u)\/((env.kindOf x=some .cell\/env.kindOf x=some .free)/\∃ c,env.cells.lookup x=some c/\h.IsCell c (some u))
structure Cx.Ok (X:Cx):Prop where
 mod:Mod X.K X.mg X.base
 kind:X.env.scope.kind = .function
 glob:X.env.globals=mainGlobals
 blt:X.env.builtins=builtinsNs
 above:X.s₀.heap.objs.size<=X.env.locals
 inj:∀ x y c,X.env.cells.lookup x=some c->X.env.cells.lookup y=some c->x=y
 has:∀ x,(X.env.kindOf x=some .cell\/X.env.kindOf x=some .free)->∃ c,X.env.cells.lookup x=some c
 cab:∀ x c,X.fn x=true->X.env.cells.lookup x=some c->X.s₀.heap.objs.size<=c
 hd:X.calm=true->X.A.handled=none
 frames:X.A.frames=some X.stack
 stk:X.stack=X.outer\/(X.stack=X.env :: X.outer/\X.env.frame=some X.env.locals)
 exf:∀ b∈X.ex,b≠X.env.locals/\∀ x c,X.env.cells.lookup x=some c->c≠b
 bs:∀ b o,X.base.get? b=some o->X.s₀.heap.get? b=some o/\X.H₀ b=none
 bsz:X.base.objs.size<=X.s₀.heap.objs.size
 noex:∀ b o,X.base.get? b=some o->b∉X.ex
 exfs:∀ b∈X.ex,b∉X.fs
 funs:X.s₀.heap.FunFrames X.base X.outer
 frf:∀ b∈X.fs,X.H₀ b=none
structure Inv (X:Cx)(pins:List (Addr×Obj))(σ:List (Option V))(H:Hp)(s:Shared):Prop where
 ok:X.Ok
 os:s.os=X.s₀.os
 bare:AllBare s.gens
 base:Un X.fs X.ex X.H₀ H X.s₀.heap s.heap
 loc:∃ m,s.heap.Ns X.env.locals m/\∀(i:Nat) (x:Str) (v:V),X.N[i]? = some x->σ[i]? = some (some v)->Vis X.env.scope x->∃ u,RelV v u/\Look X.env s.heap m x u
 cell:∀ x c,X.env.cells.lookup x=some c->∃ v,s.heap.IsCell c v
 free:H X.env.locals=none
 freeC:∀ x c,X.env.cells.lookup x=some c->H c=none
 pin:∀ p∈X.pn++pins,s.heap.get? p.1=some p.2/\H p.1=none/\p.1≠X.env.locals/\p.1∉X.fs/\∀ v,p.2.data ≠ .cell v
 hok:HOk X.prog X.w H s.heap
 len:σ.length=X.N.length
section
variable {X:Cx}{pins:List (Addr×Obj)}{σ:List (Option V)}{H H':Hp}{s:Shared}{h':Heap}
theorem Cx.Ok.nofr (ok:X.Ok){b:Addr}{o:Obj}(e:X.base.get? b=some o):b∉X.fs:=λhb=>by have:=(ok.funs.mem hb).1;rw[e] at this;cases this
theorem Inv.bs (I:Inv X pins σ H s):∀ b o,X.base.get? b=some o->s.heap.get? b=some o/\H b=none:=λb o e=>
 ⟨I.base.keep b o (I.ok.bs b o e).1 (I.ok.bs b o e).2 (I.ok.nofr e) (I.ok.noex b o e),I.base.free b o (I.ok.bs b o e).1 (I.ok.bs b o e).2 (I.ok.noex b o e)⟩
theorem Inv.bk (I:Inv X pins σ H s):∀ b o,X.base.get? b=some o->s.heap.get? b=some o:=λb o e=>(I.bs b o e).1
theorem Inv.mod (I:Inv X pins σ H s):Mod X.K X.mg X.base:=I.ok.mod
theorem Inv.kIn (I:Inv X pins σ H s):X.K.In s.heap:=I.ok.mod.kin.keeps I.bk
theorem Inv.lt (I:Inv X pins σ H s):X.env.locals<s.heap.objs.size:=let ⟨_,hn,_⟩:=I.loc;hn.lt
theorem Inv.sz (I:Inv X pins σ H s):X.s₀.heap.objs.size<=s.heap.objs.size:=A0C I.ok.above (A1F I.lt)
theorem Inv.nofs (I:Inv X pins σ H s){a:Addr}(h:s.heap.objs.size<=a):a∉X.fs:=λhb=>by obtain⟨_,o,ho,_⟩:=I.ok.funs.mem hb;exact absurd (A1C (A0N ho) (A0C I.sz h)) (A2Z _)
theorem Inv.cne (I:Inv X pins σ H s):∀ x c,X.env.cells.lookup x=some c->c≠X.env.locals:=λx c e z=>by obtain⟨v,o,ho,hd⟩:=I.cell x c e;obtain⟨m,⟨o',es,ep,ho',hd',_⟩,_⟩:=I.loc;rw[z,ho'] at ho;cases ho;rw[hd'] at hd;cases hd
theorem Inv.funs (I:Inv X pins σ H s):s.heap.FunFrames X.base X.outer:=by
 have all:∀(l:List Env),(∀ b∈frs l,b∈X.fs)->X.s₀.heap.FunFrames X.base l->s.heap.FunFrames X.base l:=by
  intro l
  induction l with
  |nil=>intro _ _;trivial
  |cons env r ih=>intro hs hl;obtain⟨hk,⟨L,o,hf,hn,ho,hd⟩,hr⟩:=hl;have hL:L∈X.fs:=hs L (by unfold frs;rw[List.filterMap_cons,hf];exact List.mem_cons_self);obtain⟨sl,e⟩:=I.base.slot L o ho (I.ok.frf L hL) hL λz=>I.ok.exfs L z hL;exact⟨hk,⟨L,_,hf,hn,e,hd⟩,ih (λb hb=>hs b (by unfold frs;rw[List.filterMap_cons,hf];exact List.mem_cons_of_mem _ hb)) hr⟩
 exact all X.outer (λ_ hb=>hb) I.ok.funs
theorem Inv.stack (I:Inv X pins σ H s):s.heap.FunFrames X.base X.stack:=by
 rcases I.ok.stk with e|⟨e,hf⟩
 . rw[e];exact I.funs
 rw[e];obtain⟨m,hn,_⟩:=I.loc;refine .cons (by rw[I.ok.kind];decide) hf hn ?_ I.funs;exact Heap.get?_none_of_le (A0C I.ok.bsz I.ok.above)
theorem Inv.stkSub (I:Inv X pins σ H s):∀ b∈frs X.stack,b∈X.env.locals :: X.fs:=λb hb=>by
 rcases I.ok.stk with e|⟨e,hf⟩
 . rw[e] at hb;exact A0E _ hb
 rw[e] at hb;unfold frs at hb;rw[List.filterMap_cons,hf] at hb;exact hb
theorem Inv.stkFree (I:Inv X pins σ H s):∀ b∈frs X.stack,H b=none:=λb hb=>by
 rcases A0F.mp (I.stkSub b hb) with e|hb
 . rw[e];exact I.free
 obtain⟨_,o,ho,_⟩:=I.ok.funs.mem hb;exact I.base.free b o ho (I.ok.frf b hb) λz=>I.ok.exfs b z hb
theorem Inv.step {g':Array GenState}{t':Nat}{d':Drawn}{ch:List Addr}(I:Inv X pins σ H s)
  (hch:∀ b∈ch,(b∈X.ex\/X.s₀.heap.objs.size<=b)/\b≠X.env.locals/\(∀ x c,X.env.cells.lookup x=some c->c≠b)/\∀ p∈X.pn++pins,p.1≠b)
  (keep:∀ b o,b≠X.env.locals->b∉X.fs->b∉ch->s.heap.get? b=some o->H b=none->h'.get? b=some o)
  (slot:∀ b o,b≠X.env.locals->b∈X.fs->b∉ch->s.heap.get? b=some o->H b=none->∃ sl,h'.get? b=some {o with slots:=sl}) (free:∀ b o,b∉ch->s.heap.get? b=some o->H b=none->H' b=none)
  (there:∀ b o,b∉ch->s.heap.get? b=some o->∃ o',h'.get? b=some o')
  (tups:∀ b xs,H b=some (.tup xs)->H' b=some (.tup xs)) (frzs:∀ b o u,H b=some (.frz o u)->H' b=some (.frz o u)) (tbls:∀ b ps,H b=some (.tbl ps)->∃ more,H' b=some (.tbl (ps++more)))
  (ns:∀ m,s.heap.Ns X.env.locals m->h'.Ns X.env.locals m) (hok:HOk X.prog X.w H' h') (hg:AllBare g') :
  Inv X pins σ H' {s with heap:=h',gens:=g',drawn:=d',toks:=t'}:=by
 have neL:∀ b o,X.s₀.heap.get? b=some o->b≠X.env.locals:=λb o e=>A19 (A1C (A0N e) I.ok.above)
 have neC:∀ b o,X.s₀.heap.get? b=some o->b∉X.ex->b∉ch:=λb o e hx hb=>by
  rcases(hch b hb).1 with z|z
  . exact hx z
  exact absurd (A1C (A0N e) z) (A2Z _)
 have cellK:∀ x c,X.env.cells.lookup x=some c->∀ v,s.heap.IsCell c v->h'.IsCell c v:=λx c e v ⟨o,ho,hd⟩=>by
  have nch:c∉ch:=λz=>(hch c z).2.2.1 x c e rfl
  by_cases hc:c∈X.fs
  . obtain⟨sl,q⟩:=slot c o (I.cne x c e) hc nch ho (I.freeC x c e);exact⟨_,q,hd⟩
  exact⟨o,keep c o (I.cne x c e) hc nch ho (I.freeC x c e),hd⟩
 refine⟨I.ok,I.os,hg,⟨λb o e n hb hx=>?_,λb o e n hb hx=>?_,λb o e n hx=>?_,λb o e hx=>?_,λb xs e=>tups b xs (I.base.tups b xs e),λb o xs e=>frzs b o xs (I.base.frzs b o xs e),λb ps e=>?_⟩,?_,λx c e=>?_,?_,λx c e=>?_,λp hp=>?_,hok,I.len⟩
 . exact keep b o (neL b o e) hb (neC b o e hx) (I.base.keep b o e n hb hx) (I.base.free b o e n hx)
 . obtain⟨sl,e1⟩:=I.base.slot b o e n hb hx;obtain⟨sl',e2⟩:=slot b _ (neL b o e) hb (neC b o e hx) e1 (I.base.free b o e n hx);exact⟨sl',e2⟩
 . obtain⟨o',e1⟩:=I.base.there b o e hx;exact free b o' (neC b o e hx) e1 (I.base.free b o e n hx)
 . obtain⟨o',e1⟩:=I.base.there b o e hx;exact there b o' (neC b o e hx) e1
 . obtain⟨m1,e1⟩:=I.base.tbls b ps e;obtain⟨m2,e2⟩:=tbls b _ e1;exact⟨m1++m2,by rw[e2,Array.append_assoc]⟩
 . obtain⟨m,hn,hl⟩:=I.loc;refine⟨m,ns m hn,λi x v e1 e2 e3=>?_⟩;obtain⟨u,r,l⟩:=hl i x v e1 e2 e3;refine⟨u,r,?_⟩;rcases l with l|⟨k,c,e,z⟩
   . exact .inl l
   exact .inr ⟨k,c,e,cellK x c e _ z⟩
 . obtain⟨v,z⟩:=I.cell x c e;exact⟨v,cellK x c e v z⟩
 . obtain⟨m,⟨o,_,_,ho,_⟩,_⟩:=I.loc;exact free _ o (λz=>(hch _ z).2.1 rfl) ho I.free
 . obtain⟨v,o,ho,hd⟩:=I.cell x c e;exact free c o (λz=>(hch c z).2.2.1 x c e rfl) ho (I.freeC x c e)
 obtain⟨e,n,ne,nf,d⟩:=I.pin p hp;have nch:p.1∉ch:=λz=>(hch p.1 z).2.2.2 p hp rfl;exact⟨keep p.1 p.2 ne nf nch e n,free p.1 p.2 nch e n,ne,nf,d⟩
theorem Inv.un {t':Nat}(I:Inv X pins σ H s)(u:Un X.fs [] H H' s.heap h')(hok:HOk X.prog X.w H' h'):Inv X pins σ H' {s with heap:=h',toks:=t'}:=by
 obtain⟨m,⟨o,es,ep,ho,r⟩,_⟩:=id I.loc;obtain⟨sl,hL⟩:=u.any ho I.free (by simp)
 exact I.step (g':=s.gens) (d':=s.drawn) (ch:=[]) (λ_ z=>nomatch z) (λb o _ hb _ e n=>u.keep b o e n hb (by simp)) (λb o _ hb _ e n=>u.slot b o e n hb (by simp)) (λb o _ e n=>u.free b o e n (by simp)) (λb o _ e=>u.there b o e (by simp)) u.tups u.frzs u.tbls (λm' hm=>by obtain⟨o',es',ep',ho',r'⟩:=hm;rw[ho] at ho';cases ho';exact⟨_,es',ep',hL,r'⟩) hok I.bare
theorem Inv.call {g':Array GenState}{t':Nat}{d':Drawn}{ch:List Addr}(I:Inv X pins σ H s)(u:Un (frs X.stack) ch H H' s.heap h')(hok:HOk X.prog X.w H' h')(hg:AllBare g')
  (hch:∀ b∈ch,(b∈X.ex\/X.s₀.heap.objs.size<=b)/\b≠X.env.locals/\(∀ x c,X.env.cells.lookup x=some c->c≠b)/\∀ p∈X.pn++pins,p.1≠b) :
  Inv X pins σ H' {s with heap:=h',gens:=g',drawn:=d',toks:=t'}:=by
 obtain⟨m,⟨o,es,ep,ho,r⟩,_⟩:=id I.loc;obtain⟨sl,hL⟩:=u.any ho I.free λz=>(hch _ z).2.1 rfl
 exact I.step (ch:=ch) hch (λb o hL hb hc e n=>u.keep b o e n (λz=>(A0F.mp (I.stkSub b z)).elim hL hb) hc) (λb o _ _ hc e n=>u.any e n hc) (λb o hc e n=>u.free b o e n hc) (λb o hc e=>u.there b o e hc) u.tups u.frzs u.tbls (λm' hm=>by obtain⟨o',es',ep',ho',r'⟩:=hm;rw[ho] at ho';cases ho';exact⟨_,es',ep',hL,r'⟩) hok hg
theorem Inv.turned {t':Nat}{it:Addr}(I:Inv X pins σ H s)(k:∀ b o,b≠it->s.heap.get? b=some o->h'.get? b=some o)(hn:H it=none)(hL:it≠X.env.locals)
  (h1:it∈X.ex\/X.s₀.heap.objs.size<=it) (h2:∀ x c,X.env.cells.lookup x=some c->c≠it) (h3:∀ p∈X.pn++pins,p.1≠it):Inv X pins σ H {s with heap:=h',toks:=t'}:=by
 have nit:∀ b u,H b=some u->b≠it:=λb u e z=>by rw[z,hn] at e;cases e
 refine I.step (g':=s.gens) (d':=s.drawn) (ch:=[it]) (λb hb=>?_) (λb o _ _ hc e _=>k b o (λz=>hc (by simp[z])) e) (λb o _ _ hc e _=>⟨o.slots,k b o (λz=>hc (by simp[z])) e⟩) (λ_ _ _ _ n=>n)
  (λb o hc e=>⟨o,k b o (λz=>hc (by simp[z])) e⟩) (λ_ _ e=>e) (λ_ _ _ e=>e) (λb ps e=>⟨#[],by rw[e];simp⟩) (λm hm=>?_) (λb u e=>?_) I.bare
 . have e:b=it:=by simpa using hb
   subst e;exact⟨h1,hL,h2,h3⟩
 . obtain⟨o,es,ep,ho,r⟩:=hm;exact⟨o,es,ep,k _ o (Ne.symm hL) ho,r⟩
 refine(I.hok b u e).stay (λc v hc q=>k c v ?_ q) (λ_ q=>q) λ_ _ q=>q;rcases hc with z|z
 . rw[z];exact nit b u e
 exact nit c _ z
theorem Inv.tok (I:Inv X pins σ H s)(t:Nat):Inv X pins σ H {s with toks:=t}:=I.un (h':=s.heap) (t':=t) Un.refl I.hok
theorem Inv.kept {t':Nat}(I:Inv X pins σ H s)(k:∀ b u,s.heap.get? b=some u->h'.get? b=some u):Inv X pins σ H {s with heap:=h',toks:=t'}:=I.un (Un.kept k) (I.hok.kept k)
theorem Inv.laid {a:Addr}{o:HO}{t':Nat}(I:Inv X pins σ H s)(k:∀ b u,s.heap.get? b=some u->h'.get? b=some u)(hp:s.heap.objs.size<=a)(new:ObjOk X.prog X.w (upd H a o) h' a o) :
  Inv X pins σ (upd H a o) {s with heap:=h',toks:=t'}:=I.un (Un.laid k hp (I.hok.fresh hp)) (I.hok.laid k hp new)
theorem Inv.write {x e:Addr}{o:HO}{t':Nat}(I:Inv X pins σ H s)(mu:Mut (H x))(he:e=x\/H e=some (.own x))(k:∀ b u,b≠e->s.heap.get? b=some u->h'.get? b=some u)(heo:∃ u,h'.get? e=some u)
  (new:ObjOk X.prog X.w (upd H x o) h' x o):Inv X pins σ (upd H x o) {s with heap:=h',toks:=t'}:=I.un (Un.write mu he k heo) (I.hok.write mu he k heo new)
theorem Inv.weak {σ':List (Option V)}(I:Inv X pins σ H s)(hl:σ'.length=σ.length)(w:∀(i:Nat) v,σ'[i]? = some (some v)->σ[i]? = some (some v)):Inv X pins σ' H s:=
 ⟨I.ok,I.os,I.bare,I.base,let ⟨m,hn,hl'⟩:=I.loc;⟨m,hn,λi x v e1 e2 e3=>hl' i x v e1 (w i v e2) e3⟩,I.cell,I.free,I.freeC,I.pin,I.hok,hl.trans I.len⟩
theorem Inv.pins_of {pins':List (Addr×Obj)}(I:Inv X pins σ H s)(h:∀ p∈pins',s.heap.get? p.1=some p.2/\H p.1=none/\p.1≠X.env.locals/\p.1∉X.fs/\∀ v,p.2.data ≠ .cell v):Inv X pins' σ H s:=
 ⟨I.ok,I.os,I.bare,I.base,I.loc,I.cell,I.free,I.freeC,λp hp=>(A0B.mp hp).elim (λz=>I.pin p (A2G _ z)) (h p),I.hok,I.len⟩
theorem W0 {N:List Str}(hN:N.Nodup){i j:Nat}{x:Str}(a:N[i]? = some x)(b:N[j]? = some x):i=j:=by obtain⟨h1,e1⟩:=A01.mp a;obtain⟨h2,e2⟩:=A01.mp b;exact(A22 hN).mp (e1.trans e2.symm)
theorem Qm {M:Model}{A:Around}{E:Value->Shared->Prop}{i:Nat}{x:Str}{v:V}{u:Value}{Q:Unit->Shared->Prop}(I:Inv X pins σ H s)(hN:X.N.Nodup)(hi:X.N[i]? = some x)(hx:Loc X.env.scope x)(r:RelV v u)
  (h:∀ s',Inv X pins (σ.set i (some v)) H s'->(∃ a,Heap.SameBut a s.heap s'.heap/\(a=X.env.locals\/X.env.cells.lookup x=some a))->Q () s') (hf:X.fn x=true\/X.env.scope.names.lookup x=some .local:=by with_unfolding_all (first | exact .inl rfl | exact .inr rfl | assumption)):wpAny M A (storeName X.env x u) Q E s:=by
 obtain⟨m,hn,hl⟩:=id I.loc;have hcls:(X.env.scope.kind == .class||(X.env.scope.kind == .module&&X.env.locals != X.env.globals))=false:=by rw[I.ok.kind];rfl
 have hiσ:i<σ.length:=by rw[I.len];exact(A01.mp hi).1
 have cne:=I.cne
 have tracked:∀ {a:Addr} {h':Heap},(∃ o,s.heap.get? a=some o/\H a=none)->Heap.SameBut a s.heap h'->HOk X.prog X.w H h':=fun {a h'} ha hs b ob e=>by
  obtain⟨_,_,hfree⟩:=ha;refine(I.hok b ob e).stay (λc w' hc q=>(hs.2 c ?_).trans q) (λ_ q=>q) λ_ _ q=>q;rintro rfl;rcases hc with rfl|hc
  . rw[hfree] at e;cases e
  rw[hfree] at hc;cases hc
 rcases hx with hk|hk
 . refine wpAny_storeName_local hk hn (λh' hn' hs=>?_) hcls;obtain⟨oL,_,_,hoL,_⟩:=id hn;refine h _ ⟨I.ok,I.os,I.bare,⟨λb o e n hb hx=>?_,λb o e n hb hx=>?_,I.base.free,λb o e hx=>?_,I.base.tups,I.base.frzs,I.base.tbls⟩,⟨_,hn',λj y v' e1 e2 e3=>?_⟩,λy c e=>?_,I.free,I.freeC,λp hp=>?_,tracked ⟨oL,hoL,I.free⟩ hs,by simpa using I.len⟩ ⟨_,hs,.inl rfl⟩
   . exact(hs.2 b (A19 (A1C (A0N e) I.ok.above))).trans (I.base.keep b o e n hb hx)
   . obtain⟨sl,e1⟩:=I.base.slot b o e n hb hx;exact⟨sl,(hs.2 b (A19 (A1C (A0N e) I.ok.above))).trans e1⟩
   . obtain⟨o',e1⟩:=I.base.there b o e hx;exact⟨o',(hs.2 b (A19 (A1C (A0N e) I.ok.above))).trans e1⟩
   . by_cases hj:j=i
     . subst hj;rw[hi] at e1;cases e1;rw[A4P hiσ] at e2
       cases e2;exact⟨u,r,.inl ⟨hk,by simp⟩⟩
     rw[A3Y (Ne.symm hj)] at e2;obtain⟨u',r',q⟩:=hl j y v' e1 e2 e3;refine⟨u',r',?_⟩;rcases q with ⟨k,e⟩|⟨k,c,e,z⟩
     . refine .inl ⟨k,?_⟩;have:y≠x:=λe=>hj (W0 hN e1 (e ▸ hi));simp[this,e]
     exact .inr ⟨k,c,e,z.sameBut hs (cne y c e)⟩
   . obtain⟨w',z⟩:=I.cell y c e;exact⟨w',z.sameBut hs (cne y c e)⟩
   obtain⟨e,n,ne,nf,d⟩:=I.pin p hp;exact⟨(hs.2 p.1 ne).trans e,n,ne,nf,d⟩
 have hfn:X.fn x=true:=by
  rcases hf with z|z
  . exact z
  rw[z] at hk;cases hk
 obtain⟨c,hc⟩:=I.ok.has x (.inl hk);obtain⟨w',z⟩:=I.cell x c hc;refine wpAny_storeName_cell I.ok.kind hk hc z (λh' hc' hs=>?_);obtain⟨oc,hoc,hocd⟩:=id z;refine h {s with heap:=h'} ⟨I.ok,I.os,I.bare,⟨λb o e n hb hx=>?_,λb o e n hb hx=>?_,I.base.free,λb o e hx=>?_,I.base.tups,I.base.frzs,I.base.tbls⟩,⟨m,hn.sameBut hs (Ne.symm (cne x c hc)),λj y v' e1 e2 e3=>?_⟩,λy c' e=>?_,I.free,I.freeC,λp hp=>?_,tracked ⟨oc,hoc,I.freeC x c hc⟩ hs,by simpa using I.len⟩ ⟨c,hs,.inr hc⟩
 . exact(hs.2 b (A19 (A1C (A0N e) (I.ok.cab x c hfn hc)))).trans (I.base.keep b o e n hb hx)
 . obtain⟨sl,e1⟩:=I.base.slot b o e n hb hx;exact⟨sl,(hs.2 b (A19 (A1C (A0N e) (I.ok.cab x c hfn hc)))).trans e1⟩
 . obtain⟨o',e1⟩:=I.base.there b o e hx;exact⟨o',(hs.2 b (A19 (A1C (A0N e) (I.ok.cab x c hfn hc)))).trans e1⟩
 . by_cases hj:j=i
   . subst hj;rw[hi] at e1;cases e1;rw[A4P hiσ] at e2
     cases e2;exact⟨u,r,.inr ⟨.inl hk,c,hc,hc'⟩⟩
   rw[A3Y (Ne.symm hj)] at e2;obtain⟨u',r',q⟩:=hl j y v' e1 e2 e3;refine⟨u',r',?_⟩;rcases q with q|⟨k,c',e,z'⟩
   . exact .inl q
   refine .inr ⟨k,c',e,z'.sameBut hs ?_⟩;rintro rfl;exact hj (W0 hN e1 (I.ok.inj _ _ _ e hc ▸ hi))
 . by_cases hcc:c'=c
   . subst hcc;exact⟨_,hc'⟩
   obtain⟨w2,z2⟩:=I.cell y c' e;exact⟨w2,z2.sameBut hs hcc⟩
 obtain⟨e,n,ne,nf,d⟩:=I.pin p hp;refine⟨(hs.2 p.1 ?_).trans e,n,ne,nf,d⟩;intro q;rw[q,hoc] at e;have q':oc=p.2:=A1I e;exact d w' (by rw[<- q'];exact hocd)
theorem Uy {M:Model}{A:Around}{E:Value->Shared->Prop}{i:Nat}{x:Str}{v:V}{u:Value}{Q:Unit->Shared->Prop}(I:Inv X pins σ H s)(hN:X.N.Nodup)(hi:X.N[i]? = some x)(hx:Loc X.env.scope x)(r:RelV v u)
  (h:∀ s',Inv X pins (σ.set i (some v)) H s'->Q () s') (hf:X.fn x=true\/X.env.scope.names.lookup x=some .local:=by with_unfolding_all (first | exact .inl rfl | exact .inr rfl | assumption)):wpAny M A (storeName X.env x u) Q E s:=
 Qm I hN hi hx r (λs' I' _=>h s' I') hf
theorem Inv.call' {s':Shared}{ch:List Addr}(I:Inv X pins σ H s)(ho:s'.os=s.os)(u:Un (frs X.stack) ch H H' s.heap s'.heap)(hok:HOk X.prog X.w H' s'.heap)(hg:AllBare s'.gens)
  (hch:∀ b∈ch,(b∈X.ex\/X.s₀.heap.objs.size<=b)/\b≠X.env.locals/\(∀ x c,X.env.cells.lookup x=some c->c≠b)/\∀ p∈X.pn++pins,p.1≠b):Inv X pins σ H' s':=by
 obtain⟨h',g',d',t',o'⟩:=s';have e:o'=s.os:=ho;subst e;exact I.call (g':=g') (t':=t') (d':=d') u hok hg hch
end
abbrev XK:=Value->Option Addr->Hp->Prop
abbrev St:=List (Option V)
abbrev VK:=V->Hp->Prop
abbrev TE:=St->Hp->VK->Prop
abbrev TT:=St->Hp->(Bool->Hp->Prop)->Prop
abbrev TA:=St->Hp->(List V->Hp->Prop)->Prop
structure Ov where
 nx:St->Hp->Prop
 rt:VK
 bk:St->Hp->Prop:=λ_ _=>False
 ct:St->Hp->Prop:=λ_ _=>False
abbrev TS:=Ov->St->Hp->Prop
def EP (X:Cx)(pins:List (Addr×Obj))(σ:St)(Q:VK)(u:Value)(s':Shared):Prop:=∃ v H',Inv X pins σ H' s'/\RelV v u/\Q v H'
def TP (X:Cx)(pins:List (Addr×Obj))(σ:St)(Q:Bool->Hp->Prop)(b:Bool)(s':Shared):Prop:=∃ H',Inv X pins σ H' s'/\Q b H'
def AP (X:Cx)(pins:List (Addr×Obj))(σ:St)(Q:List V->Hp->Prop)(us:List Value)(s':Shared):Prop:=∃ vs H',Inv X pins σ H' s'/\Vals vs us/\Q vs H'
def SP (X:Cx)(pins:List (Addr×Obj))(D:Ov)(f:Flow)(s':Shared):Prop:=
 match f with
 |.next=>∃ σ' H',Inv X pins σ' H' s'/\D.nx σ' H'
 |.brk=>∃ σ' H',Inv X pins σ' H' s'/\D.bk σ' H'
 |.cont=>∃ σ' H',Inv X pins σ' H' s'/\D.ct σ' H'
 |.ret u=>∃ v σ' H',Inv X pins σ' H' s'/\RelV v u/\D.rt v H'
def PE (X:Cx)(e:Expr)(t:TE):Prop:=
 ∀(pins:List (Addr×Obj)) (s:Shared) (σ:St) (H:Hp) (Q:VK),Inv X pins σ H s->t σ H Q->wpAny (model X.prog X.w) X.A (eval e X.env) (EP X pins σ Q) X.xe s
def PT (X:Cx)(e:Expr)(t:TT):Prop:=
 ∀(pins:List (Addr×Obj)) (s:Shared) (σ:St) (H:Hp) (Q:Bool->Hp->Prop),Inv X pins σ H s->t σ H Q->wpAny (model X.prog X.w) X.A (isTrue e X.env (eval e X.env)) (TP X pins σ Q) X.xe s
def PW (X:Cx)(e:Expr)(t:TT):Prop:=
 ∀(whole:Sem Value) (pins:List (Addr×Obj)) (s:Shared) (σ:St) (H:Hp) (Q:Bool->Hp->Prop),Inv X pins σ H s->t σ H Q->wpAny (model X.prog X.w) X.A (isTrue e X.env whole) (TP X pins σ Q) X.xe s
theorem PW.pt {X:Cx}{e:Expr}{t:TT}(h:PW X e t):PT X e t:=h _
def PA (X:Cx)(es:List Expr)(t:TA):Prop:=
 ∀(pos:Pos) (pins:List (Addr×Obj)) (s:Shared) (σ:St) (H:Hp) (Q:List V->Hp->Prop),Inv X pins σ H s->t σ H Q->wpAny (model X.prog X.w) X.A (spliced (backTo pos (starEach es X.env))) (AP X pins σ Q) X.xe s
def PS (X:Cx)(st:Stmt)(t:TS):Prop:=
 ∀(pins:List (Addr×Obj)) (s:Shared) (σ:St) (H:Hp) (D:Ov),Inv X pins σ H s->t D σ H->wpAny (model X.prog X.w) X.A (exec st X.env) (SP X pins D) X.xe s
def PSs (X:Cx)(st:List Stmt)(t:TS):Prop:=
 ∀(pins:List (Addr×Obj)) (s:Shared) (σ:St) (H:Hp) (D:Ov),Inv X pins σ H s->t D σ H->wpAny (model X.prog X.w) X.A (execs st X.env) (SP X pins D) X.xe s
theorem thn {α:Type}{t:Sem α}{Q Q':α->Shared->Prop}{M:Model}{A:Around}{E:Value->Shared->Prop}{s:Shared}(h:wpAny M A t Q E s)(hQ:∀ a s,Q a s->Q' a s):wpAny M A t Q' E s:=A2V h hQ λ_ _ x=>x
section
variable {X:Cx}
def aC8 (i:Nat):TE:=fun σ H Q=>∃ v,σ[i]? = some (some v)/\Q v H
def tC (v:V):TE:=λ_ H Q=>Q v H
theorem at4 {i:Nat}{x:Str}{pos:Pos}(hN:X.N[i]? = some x)(hv:Vis X.env.scope x)(hd:(x==("__debug__":Str))=false:=by decide)(hcd:(x==("__classdict__":Str))=false:=by decide):PE X (.Name x pos) (aC8 i):=by
 intro pins s σ H Q I h;obtain⟨v,e,h⟩:=h;obtain⟨m,hn,hl⟩:=I.loc;obtain⟨u,r,l⟩:=hl i x v hN e hv;have fin:EP X pins σ Q u s:=⟨v,H,I,r,h⟩;rcases l with ⟨hk,hm⟩|⟨hk,c,hc,hcell⟩
 . exact wpAny_Name (wpAny_loadName_local I.ok.kind hk hn hm fin) hd
 rcases hk with hk|hk
 . exact wpAny_Name (wpAny_loadName_cell I.ok.kind hk hc hcell fin) hd
 exact wpAny_Name (wpAny_loadName_free I.ok.kind hk hc hcell fin hcd) hd
theorem A4 {i j pos}:PE X (.Constant (.int i) j pos) (tC (.int i)):=λ_ _ _ H _ I h=>wpAny_Constant_int ⟨.int i,H,I.tok _,⟨_,rfl⟩,h⟩
theorem Ke {b j pos}:PE X (.Constant (.bool b) j pos) (tC (.bl b)):=λ_ _ _ H _ I h=>Constant_bool ⟨.bl b,H,I,rfl,h⟩
theorem Qh {j pos}:PE X (.Constant .none j pos) (tC .non):=λ_ _ _ H _ I h=>Constant_none ⟨.non,H,I,rfl,h⟩
theorem Av {x j pos}:PE X (.Constant (.str x) j pos) (tC (.str x)):=λ_ _ _ H _ I h=>Calls.Constant_str ⟨.str x,H,I.tok _,⟨_,rfl⟩,h⟩
def Gl (X:Cx)(x:Str):Prop:=X.env.kindOf x=some .globalImplicit
theorem T0 {E:Value->Shared->Prop}{pins:List (Addr×Obj)}{s:Shared}{σ:St}{H:Hp}{x:Str}{u:Value}{pos:Pos}{Q:Value->Shared->Prop}(I:Inv X pins σ H s)(hg:Gl X x)(hm:X.mg x=some u)(h:Q u s)
  (hd:(x==("__debug__":Str))=false:=by decide):wpAny (model X.prog X.w) X.A (eval (.Name x pos) X.env) Q E s:=
 Calls.Name_function_global I.ok.kind hg (Calls.loadGlobal_global (by rw[I.ok.glob];exact I.mod.glob.keeps I.bk) hm h) hd
theorem Mx {E:Value->Shared->Prop}{pins:List (Addr×Obj)}{s:Shared}{σ:St}{H:Hp}{x:Str}{u:Value}{pos:Pos}{Q:Value->Shared->Prop}(I:Inv X pins σ H s)(hg:Gl X x)(hm:X.mg x=none)(hv:bootBuiltins x=some u)(h:Q u s)
  (hn:x ≠ "__name__":=by decide) (hd:(x==("__debug__":Str))=false:=by decide):wpAny (model X.prog X.w) X.A (eval (.Name x pos) X.env) Q E s:=by
 obtain⟨mb,h1,h2⟩:=I.mod.blt;exact Calls.Name_function_global I.ok.kind hg (Calls.loadGlobal_builtin (by rw[I.ok.glob];exact I.mod.glob.keeps I.bk) hm (by rw[I.ok.blt];exact h1.keeps I.bk) ((h2 x hn).trans hv) h) hd
theorem ak3 {x:Str}{v:V}{u:Value}{pos:Pos}(hg:Gl X x)(hm:X.mg x=some u)(r:RelV v u)(hd:(x==("__debug__":Str))=false:=by decide):PE X (.Name x pos) (tC v):=
 λ_ _ _ H _ I h=>T0 I hg hm ⟨v,H,I,r,h⟩ hd
theorem Sz {x:Str}{v:V}{u:Value}{pos:Pos}(hg:Gl X x)(hm:X.mg x=none)(hv:bootBuiltins x=some u)(r:RelV v u)(hn:x ≠ "__name__":=by decide)(hd:(x==("__debug__":Str))=false:=by decide):PE X (.Name x pos) (tC v):=
 λ_ _ _ H _ I h=>Mx I hg hm hv ⟨v,H,I,r,h⟩ hn hd
variable {a b:Expr}{ta tb:TE}{pos:Pos}
def tB (t:TE):TT:=fun σ H Q=>t σ H λx H1=>∃ c,x = .bl c/\Q c H1
theorem Nj {e:Expr}{t:TE}(h:PE X e t)(he:∀ whole,isTrue e X.env whole=(do let v <- whole;standAt e.pos;holding [v] (truthy v)):=by intro _;ac_nf):PT X e (tB t):=by
 intro pins s σ H Q I hw;refine isTrue_plain (thn (h pins s σ H _ I hw) λv s1 ⟨x,H1,I1,r1,q1⟩=>?_) (he _);obtain⟨d,rfl,q⟩:=q1
 cases r1;exact A3E ⟨H1,I1,q⟩
variable {tA tB':TT}{rest:List Expr}
def aF0 (t u:TT):TT:=fun σ H Q=>t σ H λc H1=>if c=true then u σ H1 Q else Q false H1
def tOr (t u:TT):TT:=fun σ H Q=>t σ H λc H1=>if c=true then Q true H1 else u σ H1 Q
def aF7 (t:TT):TT:=fun σ H Q=>t σ H λc H1=>Q (!c) H1
theorem Tn (ha:PT X a tA):PW X (.BoolOp .And [a] pos) tA:=by
 intro wh pins s σ H Q I h;refine isTrue_and (thn (ha pins s σ H Q I h) λc s1 e=>?_)
 cases c with
 |true=>exact isTrue_and_nil e
 |false=>exact e
theorem a00 (ha:PT X a tA):PW X (.BoolOp .Or [a] pos) tA:=by
 intro wh pins s σ H Q I h;refine isTrue_or (thn (ha pins s σ H Q I h) λc s1 e=>?_)
 cases c with
 |false=>exact isTrue_or_nil e
 |true=>exact e
theorem Zq (ha:PT X a tA)(hb:PW X (.BoolOp .And (b :: rest) pos) tB'):PW X (.BoolOp .And (a :: b :: rest) pos) (aF0 tA tB'):=by
 intro wh pins s σ H Q I h;refine isTrue_and (thn (ha pins s σ H _ I h) λc s1 ⟨H1,I1,q1⟩=>?_)
 cases c with
 |true=>exact hb wh pins s1 σ H1 Q I1 q1
 |false=>exact⟨H1,I1,q1⟩
theorem aj8 (ha:PT X a tA)(hb:PW X (.BoolOp .Or (b :: rest) pos) tB'):PW X (.BoolOp .Or (a :: b :: rest) pos) (tOr tA tB'):=by
 intro wh pins s σ H Q I h;refine isTrue_or (thn (ha pins s σ H _ I h) λc s1 ⟨H1,I1,q1⟩=>?_)
 cases c with
 |true=>exact⟨H1,I1,q1⟩
 |false=>exact hb wh pins s1 σ H1 Q I1 q1
theorem Ui (ha:PT X a tA):PT X (.UnaryOp .Not a pos) (aF7 tA):=by intro pins s σ H Q I h;exact isTrue_not (ha pins s σ H (λc H1=>Q (!c) H1) I h)
def ap3 (ta tb:TE):TE:=fun σ H Q=>ta σ H λx H1=>∃ c,x = .bl c/\if c=true then tb σ H1 Q else Q (.bl false) H1
def aE8 (ta tb:TE):TE:=fun σ H Q=>ta σ H λx H1=>∃ c,x = .bl c/\if c=true then Q (.bl true) H1 else tb σ H1 Q
theorem Yh {op}{t:TE}(h:PE X a t):PE X (.BoolOp op [a] pos) t:=λpins s σ H Q I hw=>BoolOp_one (h pins s σ H Q I hw)
theorem Vf (ha:PE X a ta)(hb:PE X (.BoolOp .And (b :: rest) pos) tb):PE X (.BoolOp .And (a :: b :: rest) pos) (ap3 ta tb):=by
 intro pins s σ H Q I h;refine BoolOp_and (thn (ha pins s σ H _ I h) λv s1 ⟨x,H1,I1,r1,q1⟩=>?_);obtain⟨c,rfl,q1⟩:=q1
 cases r1;refine A3E ?_
 cases c with
 |true=>exact hb pins s1 σ H1 Q I1 q1
 |false=>exact⟨.bl false,H1,I1,rfl,q1⟩
theorem aC5 (ha:PE X a ta)(hb:PE X (.BoolOp .Or (b :: rest) pos) tb):PE X (.BoolOp .Or (a :: b :: rest) pos) (aE8 ta tb):=by
 intro pins s σ H Q I h;refine BoolOp_or (thn (ha pins s σ H _ I h) λv s1 ⟨x,H1,I1,r1,q1⟩=>?_);obtain⟨c,rfl,q1⟩:=q1
 cases r1;refine A3E ?_
 cases c with
 |false=>exact hb pins s1 σ H1 Q I1 q1
 |true=>exact⟨.bl true,H1,I1,rfl,q1⟩
end
def SqL (K:W.Frag)(H:Hp)(a:Addr)(xs:List V):Prop:=
 Rd H a (.lst xs) \/
  ∃(o:Obj) (its:Array Value) (n:Nat),K.lookup a=some o/\o.cls = .type "list" /\ o.dict=none/\o.data = .seq its n/\its.size<=sizeLine/\Vals xs its.toList
def SqT (K:W.Frag)(H:Hp)(a:Addr)(xs:List V):Prop:=
 Rd H a (.tup xs) \/
  ∃(o:Obj) (its:Array Value) (n:Nat),K.lookup a=some o/\o.cls = .type "tuple" /\ o.data = .seq its n/\its.size<=sizeLine/\Vals xs its.toList/\o.dict=none
def absV:Value->Option V
 |.none=>some .non
 |.bool b=>some (.bl b)
 |.int i _=>some (.int i)
 |.str x _=>some (.str x)
 |.bytes b _=>some (.byt b)
 |.float b _=>some (.flt b)
 |.ref a=>some (.ref a)
 |.type n=>some (.ty n)
 |_=>none
theorem RelV.abs {x:V}{u:Value}(r:RelV x u):absV u=some x:=by
 cases x with
 |non=>cases r;rfl
 |bl _=>cases r;rfl
 |int _=>obtain⟨t,rfl⟩:=r;rfl
 |str _=>obtain⟨t,rfl⟩:=r;rfl
 |byt _=>obtain⟨t,rfl⟩:=r;rfl
 |flt _=>obtain⟨t,rfl⟩:=r;rfl
 |ref _=>cases r;rfl
 |ty _=>cases r;rfl
theorem RelV.inj {x y:V}{u:Value}(r:RelV x u)(q:RelV y u):x=y:=A1I (r.abs.symm.trans q.abs)
theorem Vals.inj:∀ {xs ys:List V} {us:List Value},Vals xs us->Vals ys us->xs=ys
 |_,_,_,.nil,.nil=>rfl
 |_,_,_,.cons r t,.cons r' t'=>by rw[r.inj r',Vals.inj t t']
section
variable {X:Cx}{pins:List (Addr×Obj)}{σ:St}{H:Hp}{s:Shared}{a:Addr}{xs ys:List V}
theorem SqL.of {K:W.Frag}(h:H a=some (.lst xs)):SqL K H a xs:=.inl (.inl h)
theorem SqT.of {K:W.Frag}(h:H a=some (.tup xs)):SqT K H a xs:=.inl (.inl h)
theorem Inv.list (I:Inv X pins σ H s)(h:SqL X.K H a xs):∃ its:List Value,Vals xs its/\PlainL s.heap a its.toArray/\xs.length<=sizeLine:=by
 rcases h with h|⟨o,its,n,hk,hc,hd,hs,hz,r⟩
 . obtain⟨z,its,n,r,e⟩:=h.ok I.hok;exact⟨its,r,⟨_,n,e,rfl,rfl,rfl⟩,z⟩
 refine⟨its.toList,r,⟨o,n,I.kIn a o hk,hc,hd,by simpa using hs⟩,?_⟩;have e:=r.length;simp only[Array.length_toList] at e;omega
theorem Inv.tuple (I:Inv X pins σ H s)(h:SqT X.K H a xs):∃ its:List Value,Vals xs its/\IsTup s.heap a its.toArray/\xs.length<=sizeLine:=by
 rcases h with h|⟨o,its,n,hk,hc,hs,hz,r,hn⟩
 . obtain⟨z,its,r,p⟩:=h.ok I.hok;exact⟨its,r,p.tup,z⟩
 refine⟨its.toList,r,⟨o,I.kIn a o hk,hc,n,by simpa using hs⟩,?_⟩;have e:=r.length;simp only[Array.length_toList] at e;omega
theorem Inv.tupleN (I:Inv X pins σ H s)(h:SqT X.K H a xs):∃ ob,s.heap.get? a=some ob/\ob.dict=none:=by
 rcases h with h|⟨o,its,n,hk,hc,hs,hz,r,hn⟩
 . obtain⟨z,its,r,o,h1,_,_,h2⟩:=h.ok I.hok;exact⟨o,h1,h2⟩
 exact⟨o,I.kIn a o hk,hn⟩
theorem Inv.list_inj (I:Inv X pins σ H s)(h:SqL X.K H a xs)(h':SqL X.K H a ys):xs=ys:=by
 obtain⟨its,r,⟨o,n,e,_,_,d⟩,_⟩:=I.list h;obtain⟨its',r',⟨o',n',e',_,_,d'⟩,_⟩:=I.list h';rw[e] at e';cases e';rw[d] at d';injection d' with d1 _;have:its=its':=by simpa using congrArg Array.toList d1
 subst this;exact r.inj r'
theorem Inv.tuple_inj (I:Inv X pins σ H s)(h:SqT X.K H a xs)(h':SqT X.K H a ys):xs=ys:=by
 obtain⟨its,r,⟨o,e,_,n,d⟩,_⟩:=I.tuple h;obtain⟨its',r',⟨o',e',_,n',d'⟩,_⟩:=I.tuple h';rw[e] at e';cases e';rw[d] at d';injection d' with d1 _;have:its=its':=by simpa using congrArg Array.toList d1
 subst this;exact r.inj r'
end
abbrev Cx.wish (X:Cx)(E:Value->Shared->Prop):Cx:={X with xe:=E}
abbrev Cx.nox (X:Cx):Cx:=X.wish λ_ _=>False
theorem Cx.Ok.wish {X:Cx}(ok:X.Ok)(E:Value->Shared->Prop):(X.wish E).Ok:=
 ⟨ok.mod,ok.kind,ok.glob,ok.blt,ok.above,ok.inj,ok.has,ok.cab,ok.hd,ok.frames,ok.stk,ok.exf,ok.bs,ok.bsz,ok.noex,ok.exfs,ok.funs,ok.frf⟩
theorem Cx.Ok.unwish {X:Cx}{E:Value->Shared->Prop}(ok:(X.wish E).Ok):X.Ok:=
 ⟨ok.mod,ok.kind,ok.glob,ok.blt,ok.above,ok.inj,ok.has,ok.cab,ok.hd,ok.frames,ok.stk,ok.exf,ok.bs,ok.bsz,ok.noex,ok.exfs,ok.funs,ok.frf⟩
section
variable {X:Cx}{pins:List (Addr×Obj)}{σ:St}{H:Hp}{s:Shared}{E:Value->Shared->Prop}
theorem Inv.wish (I:Inv X pins σ H s)(E:Value->Shared->Prop):Inv (X.wish E) pins σ H s:=⟨I.ok.wish E,I.os,I.bare,I.base,I.loc,I.cell,I.free,I.freeC,I.pin,I.hok,I.len⟩
theorem Inv.unwish (I:Inv (X.wish E) pins σ H s):Inv X pins σ H s:=⟨I.ok.unwish,I.os,I.bare,I.base,I.loc,I.cell,I.free,I.freeC,I.pin,I.hok,I.len⟩
theorem SP.unwish {D:Ov}{f:Flow}{s':Shared}(h:SP (X.wish E) pins D f s'):SP X pins D f s':=by
 cases f with
 |next=>obtain⟨σ',H',I,q⟩:=h;exact⟨σ',H',I.unwish,q⟩
 |brk=>obtain⟨σ',H',I,q⟩:=h;exact⟨σ',H',I.unwish,q⟩
 |cont=>obtain⟨σ',H',I,q⟩:=h;exact⟨σ',H',I.unwish,q⟩
 |ret u=>obtain⟨v,σ',H',I,r,q⟩:=h;exact⟨v,σ',H',I.unwish,r,q⟩
theorem PSs.nox {st:List Stmt}{t:TS}(h:PSs X.nox st t):PSs X st t:=λpins s σ H D I hw=>A2V (h pins s σ H D (I.wish _) hw) (λ_ _ q=>q.unwish) λ_ _ z=>False.elim z
end
section
variable {X:Cx}{st:Stmt}{rest:List Stmt}{t u:TS}{e:Expr}{te:TE}{pos:Pos}
def ar2:TS:=λD σ H=>D.nx σ H
def az1 (t u:TS):TS:=λD σ H=>t {D with nx:=u D} σ H
theorem Ao:PSs X [] ar2:=λ_ _ σ H _ I h=>A4T ⟨σ,H,I,h⟩
theorem A1 (h1:PS X st t) (h2:PSs X rest u):PSs X (st :: rest) (az1 t u):=by
 intro pins s σ H D I h;refine wpAny_execs_cons (thn (h1 pins s σ H {D with nx:=u D} I h) λf s1 q=>?_)
 cases f with
 |next=>obtain⟨σ',H',I',q⟩:=q;exact h2 pins s1 σ' H' D I' q
 |ret v=>exact q
 |brk=>exact q
 |cont=>exact q
theorem A5 (h1:PS X st t):PSs X [st] t:=by
 intro pins s σ H D I h;refine wpAny_execs_cons (thn (h1 pins s σ H D I h) λf s1 q=>?_)
 cases f with
 |next=>exact A4T q
 |ret v=>exact q
 |brk=>exact q
 |cont=>exact q
theorem Inv.quiet {pins:List (Addr×Obj)}{σ:St}{H:Hp}{s:Shared}(I:Inv X pins σ H s):interactive X.env=false:=by simp[interactive,I.ok.kind]
def av1 (te:TE):TS:=λD σ H=>te σ H λ_ H1=>D.nx σ H1
theorem Ic (he:PE X e te)(hs:swapsWith e none pos.line X.env=pure false:=by ac_nf):PS X (.Expr e pos) (av1 te):=by intro pins s σ H D I h;exact wpAny_Expr_any (thn (he pins s σ H _ I h) λv s1 ⟨x,H1,I1,r1,q1⟩=>⟨σ,H1,I1,q1⟩) I.quiet hs
def aD9 (te:TE):TS:=λD σ H=>te σ H D.rt
theorem Aj (he:PE X e te):PS X (.Return (some e) pos) (aD9 te):=by intro pins s σ H D I h;exact wpAny_Return_some (thn (he pins s σ H _ I h) λv s1 ⟨x,H1,I1,r1,q1⟩=>⟨x,σ,H1,I1,r1,q1⟩)
def aF1 (c:TT)(t u:TS):TS:=λD σ H=>c σ H λb H1=>if b=true then t D σ H1 else u D σ H1
theorem C1 {c:Expr}{a b:List Stmt}{tc:TT}(hc:PT X c tc)(ha:PSs X a t)(hb:PSs X b u):PS X (.If c a b pos) (aF1 tc t u):=by
 intro pins s σ H D I h;refine wpAny_If (thn (hc pins s σ H _ I h) λd s1 ⟨H1,I1,q1⟩=>?_)
 cases d with
 |true=>exact ha pins s1 σ H1 D I1 q1
 |false=>exact hb pins s1 σ H1 D I1 q1
def av9:TS:=λ_ _ _=>False
theorem a68:PS X st av9:=λ_ _ _ _ _ _ h=>h.elim
end
abbrev TG:=V->St->Hp->(St->Hp->Prop)->Prop
abbrev TGs:=List V->St->Hp->(St->Hp->Prop)->Prop
def PG (X:Cx)(target:Expr)(t:TG):Prop:=
 ∀(pins:List (Addr×Obj)) (s:Shared) (σ:St) (H:Hp) (v:V) (u:Value) (Q:St->Hp->Prop),Inv X pins σ H s->RelV v u->t v σ H Q ->
  wpAny (model X.prog X.w) X.A (assign target X.env u) (λ_ s'=>∃ σ' H',Inv X pins σ' H' s'/\Q σ' H') X.xe s
def PGs (X:Cx)(ts:List Expr)(t:TGs):Prop:=
 ∀(pins:List (Addr×Obj)) (s:Shared) (σ:St) (H:Hp) (vs:List V) (us:List Value) (Q:St->Hp->Prop),Inv X pins σ H s->Vals vs us->t vs σ H Q ->
  wpAny (model X.prog X.w) X.A (assignInOrder ((assignEach ts X.env).map (·.2)) us) (λ_ s'=>∃ σ' H',Inv X pins σ' H' s'/\Q σ' H') X.xe s
section
variable {X:Cx}{pos:Pos}
def Mf (i:Nat):TG:=λv σ H Q=>Q (σ.set i (some v)) H
theorem A7 {i:Nat}{x:Str}(hN:X.N.Nodup)(hi:X.N[i]? = some x)(hx:Loc X.env.scope x)(hf:X.fn x=true\/X.env.scope.names.lookup x=some .local:=by with_unfolding_all (first | exact .inl rfl | exact .inr rfl | assumption)):PG X (.Name x pos) (Mf i):=by intro pins s σ H v u Q I r h;exact wpAny_assign_Name (Uy I hN hi hx r (λs' I'=>⟨_,H,I',h⟩) hf)
def aB4:TGs:=λvs σ H Q=>vs=[]/\Q σ H
def a42 (t:TG)(u:TGs):TGs:=λvs σ H Q=>∃ v r,vs=v :: r/\t v σ H fun σ' H'=>u r σ' H' Q
theorem Su:PGs X [] aB4:=by
 intro pins s σ H vs us Q I r h;obtain⟨e,h⟩:=h;subst e
 cases r;exact assignInOrder_nil ⟨σ,H,I,h⟩
theorem Iv {e:Expr}{es:List Expr}{t:TG}{u:TGs}(h1:PG X e t)(h2:PGs X es u)
  (hs:(assignEach (e :: es) X.env).map (·.2)=assign e X.env :: (assignEach es X.env).map (·.2):=by ac_nf):PGs X (e :: es) (a42 t u):=by
 intro pins s σ H vs us Q I r h;obtain⟨v,vr,e1,h⟩:=h;subst e1
 cases r with
 |cons r rr=>rw[hs];refine assignInOrder_cons (thn (h1 pins s σ H _ _ _ I r h) λ_ s1 ⟨σ1,H1,I1,q1⟩=>?_);exact h2 pins s1 σ1 H1 _ _ Q I1 rr q1
def az5 (K:W.Frag)(n:Nat)(t:TGs):TG:=λv σ H Q=>∃ a xs,v = .ref a/\SqT K H a xs/\xs.length=n/\t xs σ H Q
theorem aw1 {es:List Expr}{k:Nat}{t:TGs}{n:Nat}(hc:X.calm=true)(h:PGs X es t)
  (hn:(assignEach es X.env).length=n:=by ac_nf) (hst:(assignEach es X.env).findIdx? (·.1)=none:=by ac_nf):PG X (.Tuple es k pos) (az5 X.K n t):=by
 intro pins s σ H v u Q I r hw;obtain⟨a,xs,e1,hq,hl,hw⟩:=hw;subst e1
 cases r;obtain⟨its,rv,ht,hz⟩:=I.tuple hq;refine assign_Tuple_tuple (I.ok.hd hc) ht (by simp[hn,<- hl,rv.length]) hst λh' hx=>?_;have I1:Inv X pins σ H {s with heap:=h'}:=I.kept (t':=s.toks) λb o e=>hx b o (A19 (A0N e)) e
 exact h pins _ σ H xs _ Q I1 (by simpa using rv) hw
def ar1 (te:TE)(g:TG):TS:=λD σ H=>te σ H λx H1=>g x σ H1 D.nx
theorem Ad {i:Nat}{x:Str}{e:Expr}{te:TE}{pos':Pos}(hN:X.N.Nodup)(hi:X.N[i]? = some x)(hx:Loc X.env.scope x)(he:PE X e te)(hs:swapsWith e (some (.Name x pos')) pos.line X.env=pure false:=by ac_nf)(hf:X.fn x=true\/X.env.scope.names.lookup x=some .local:=by with_unfolding_all (first | exact .inl rfl | exact .inr rfl | assumption)) :
  PS X (.Assign [.Name x pos'] e pos) (ar1 te (Mf i)):=by
 intro pins s σ H D I h;refine wpAny_Assign_Name (thn (he pins s σ H _ I h) λv s1 ⟨y,H1,I1,r1,q1⟩=>?_) hs;exact Uy I1 hN hi hx r1 (λs2 I2=>⟨_,H1,I2,q1⟩) hf
def a94 (c:TT)(tb:TS):TS:=λD σ H=>∃ W:Nat->St->Hp->Prop,(∃ m,W m σ H)/\∀ m σ H,W m σ H ->
 c σ H λb H1=>if b=true then ∃ N:St->Hp->Prop,(∀ σ' H',N σ' H'->∃ m',m'<m/\W m' σ' H')/\tb {D with nx:=N,ct:=N,bk:=D.nx} σ H1 else D.nx σ H1
theorem Ve {c:Expr}{body:List Stmt}{tc:TT}{tb:TS}(hp:PassesOwn (model X.prog X.w) X.A X.env X.xe)(hc:PT X c tc)(hb:PSs X body tb):PS X (.While c body [] pos) (a94 tc tb):=by
 intro pins s σ H D I h;obtain⟨W,⟨m0,w0⟩,turn⟩:=h;refine wpAny_While (codeAny_whileLoop (λn s'=>∃ σ' H',Inv X pins σ' H' s'/\W n σ' H') ?_ m0 ⟨σ,H,I,w0⟩);rintro n s1 ⟨σ1,H1,I1,w1⟩;refine A39 hp (thn (hc pins s1 σ1 H1 _ I1 (turn n σ1 H1 w1)) λb s2 ⟨H2,I2,q2⟩=>?_)
 cases b with
 |true=>
   obtain ⟨N,hN,q2⟩:=q2;rw[A0Y rfl];refine A39 hp (thn (hb pins s2 σ1 H2 _ I2 q2) λf s3 q3=>?_)
   cases f with
   |next=>obtain⟨σ3,H3,I3,n3⟩:=q3;obtain⟨m',hm,w3⟩:=hN σ3 H3 n3;exact⟨m',hm,σ3,H3,I3,w3⟩
   |cont=>obtain⟨σ3,H3,I3,n3⟩:=q3;obtain⟨m',hm,w3⟩:=hN σ3 H3 n3;exact⟨m',hm,σ3,H3,I3,w3⟩
   |brk=>exact q3
   |ret v=>exact q3
 |false=>rw[A0P A0G];exact A4T ⟨σ1,H2,I2,q2⟩
end
structure It where
 go:Nat->Hp->Prop
 yld:Nat->Hp->V->Hp->Prop
 stop:Nat->Hp->Prop
def Uf (X:Cx)(pins:List (Addr×Obj))(H:Hp)(b:Addr):Prop:=
 H b=none/\b≠X.env.locals/\b∉X.fs/\(b∈X.ex\/X.s₀.heap.objs.size<=b)/\(∀ x c,X.env.cells.lookup x=some c->c≠b)/\∀ p∈X.pn++pins,p.1≠b
theorem Inv.fpOk {X:Cx}{pins:List (Addr×Obj)}{σ:St}{H H':Hp}{s:Shared}{b:Addr}(I:Inv X pins σ H s)(hb:s.heap.objs.size<=b)(hn:H' b=none):Uf X pins H' b:=by
 refine⟨hn,Nat.ne_of_gt (A1C I.lt hb),I.nofs hb,.inr (A0C I.sz hb),λx c e z=>?_,λp hp z=>?_⟩
 . obtain⟨v,q⟩:=I.cell x c e;exact absurd (A1C q.lt (by rw[z];exact hb)) (A2Z _)
 exact absurd (A1C (A0N (I.pin p hp).1) (by rw[z];exact hb)) (A2Z _)
structure a45 (P:Program)(w:World)(K:W.Frag)(tg:Expr)(J:It)(fp:List Addr)(it:Addr)(tn:Nat->Heap->Prop):Prop where
 mem:it∈fp
 obj:∀ i h,tn i h->∀ b∈fp,∃ o,h.get? b=some o/\∀ v,o.data ≠ .cell v
 keep:∀ i h h',tn i h->(∀ b∈fp,∀ o,h.get? b=some o->h'.get? b=some o)->tn i h'
 item:∀(X:Cx),X.prog=P->X.w=w->X.K=K->X.calm=true->∀(i:Nat) (pins:List (Addr×Obj)) (s:Shared) (σ:St) (H:Hp) (E:Value->Shared->Prop),Inv X pins σ H s->(∀ b∈fp,Uf X pins H b)->tn i s.heap->J.go i H ->
  wpAny (model P w) X.A (pyNext (.ref it)) (λr s1=>∃ u,r=some u /\
   wpAny (model P w) X.A (letOwnedTupleGo tg (.ref it) u) (λ_ s2=>∃ x H',Inv X pins σ H' s2/\RelV x u/\J.yld i H x H'/\tn (i+1) s2.heap/\∀ b∈fp,H' b=none) E s1) E s
 done:∀(X:Cx),X.prog=P->X.w=w->X.K=K->X.calm=true->∀(i:Nat) (pins:List (Addr×Obj)) (s:Shared) (σ:St) (H:Hp) (E:Value->Shared->Prop),Inv X pins σ H s->(∀ b∈fp,Uf X pins H b)->tn i s.heap->J.stop i H ->
  wpAny (model P w) X.A (pyNext (.ref it)) (λr s1=>r=none/\Inv X pins σ H s1) E s
 self:∀(A:Around) (i:Nat) (s:Shared) (Q:Value->Shared->Prop) (E:Value->Shared->Prop),tn i s.heap->Q (.ref it) s->wpAny (model P w) A (pyIter (.ref it)) Q E s
abbrev TI:=St->Hp->(It->Hp->Prop)->Prop
def PIE (X:Cx)(pins:List (Addr×Obj))(σ:St)(tg:Expr)(R:It->Hp->Prop)(itv:Value)(s2:Shared):Prop:=
 ∃(it:Addr) (fp:List Addr) (tn:Nat->Heap->Prop) (J:It) (H':Hp),itv = .ref it/\Inv X pins σ H' s2/\a45 X.prog X.w X.K tg J fp it tn/\tn 0 s2.heap/\(∀ b∈fp,Uf X pins H' b)/\R J H'
def PI (X:Cx)(tg iter:Expr)(wi:TI):Prop:=
 ∀(pins:List (Addr×Obj)) (s:Shared) (σ:St) (H:Hp) (R:It->Hp->Prop),Inv X pins σ H s->wi σ H R ->
  wpAny (model X.prog X.w) X.A (eval iter X.env) (λv s1=>wpAny (model X.prog X.w) X.A (pyIter v) (PIE X pins σ tg R) X.xe s1) X.xe s
theorem Wm {M:Model}{A:Around}{E:Value->Shared->Prop}{s:Shared}{tg:Expr}{it:Addr}{u:Value}{o:Obj}{n:String}{vs:Array Value}{Q:Unit->Shared->Prop}(ho:s.heap.get? it=some o)(hc:o.cls = .type n)(hd:o.data = .fields vs)
  (hn:["enumerate","zip","dict_itemiterator","dict_reverseitemiterator","odict_iterator","itertools.zip_longest","itertools.pairwise"].contains n=false) (hQ:Q () s):wpAny M A (letOwnedTupleGo tg (.ref it) u) Q E s:=by
 unfold letOwnedTupleGo
 cases tg<;>first
  |exact A09 hQ
  | (cases u<;>first
    |exact A09 hQ
    | (refine A02 (wpAny_load ho ?_)
       rw[hc,hd];show wpAny M A (if(["enumerate","zip","dict_itemiterator","dict_reverseitemiterator","odict_iterator","itertools.zip_longest","itertools.pairwise"].contains n&&vs[0]? == some (rawInt _))=true then _ else _) Q E s
       rw[A0P (by intro h;rw[hn,Bool.false_and] at h;cases h)];exact A09 hQ))
def Itl (K:W.Frag)(a:Addr):It:=
 ⟨λi H=>∃ xs x,SqL K H a xs/\xs[i]? = some x,λi H x H'=>H'=H/\∀ xs,SqL K H a xs->xs[i]? = some x,λi H=>∃ xs,SqL K H a xs/\xs.length<=i⟩
def Itt (K:W.Frag)(a:Addr):It:=
 ⟨λi H=>∃ xs x,SqT K H a xs/\xs[i]? = some x,λi H x H'=>H'=H/\∀ xs,SqT K H a xs->xs[i]? = some x,λi H=>∃ xs,SqT K H a xs/\xs.length<=i⟩
def Itr (lo:Int)(n:Nat):It:=⟨λi _=>i<n,λi H x H'=>H'=H/\x = .int (lo+i),λi _=>n<=i⟩
theorem Yp {P:Program}{w:World}{K:W.Frag}{tg:Expr}(a it:Addr):a45 P w K tg (Itl K a) [it] it (λi h=>h.IsListIter it a i) where
 mem:=by simp
 obj:=λi h st b hb=>by
  have e:b=it:=by simpa using hb
  subst e;obtain⟨o,e,c,d⟩:=st;exact⟨o,e,λv z=>by rw[d] at z;cases z⟩
 keep:=λi h h' st k=>st.at λo e=>k it (by simp) o e
 item:=by
  intro X hP hw hK hc i pins s σ H E I hf st hg;subst hP hw hK;obtain⟨xs,x,hq,hx⟩:=hg;obtain⟨its,rv,p,hz⟩:=I.list hq;obtain⟨u,hu,ru⟩:=rv.get hx;obtain⟨f0,f1,f2,f3,f4,f5⟩:=hf it (by simp);refine wpAny_pyNext_list_item st p.isList (x:=u) (by simpa using hu) λh' st' sb=>?_;have I1:Inv X pins σ H {s with heap:=h'}:=I.turned (t':=s.toks) (λb o hb e=>(sb.2 b hb).trans e) f0 f1 f3 f4 f5
  obtain⟨o,e,c,d⟩:=id st';exact⟨u,rfl,Wm (s:={s with heap:=h'}) e c d nofun ⟨x,H,I1,ru,⟨rfl,λys hy=>by rw[I.list_inj hy hq];exact hx⟩,st',λb hb=>(hf b hb).1⟩⟩
 done:=by intro X hP hw hK hc i pins s σ H E I hf st hg;subst hP hw hK;obtain⟨xs,hq,hx⟩:=hg;obtain⟨its,rv,p,hz⟩:=I.list hq;obtain⟨f0,f1,f2,f3,f4,f5⟩:=hf it (by simp);have hl:=rv.length;exact wpAny_pyNext_list_end (I.ok.hd hc) st p.isList (by simp;omega) λh' eb=>⟨rfl,I.turned (t':=s.toks) (λb o hb e=>eb b o hb e) f0 f1 f3 f4 f5⟩
 self:=λ_ _ _ _ _ st h=>wpAny_pyIter_listiter st h
theorem Wg {P:Program}{w:World}{K:W.Frag}{tg:Expr}(a it:Addr):a45 P w K tg (Itt K a) [it] it (λi h=>h.IsTupleIter it a i) where
 mem:=by simp
 obj:=λi h st b hb=>by
  have e:b=it:=by simpa using hb
  subst e;obtain⟨o,e,c,d⟩:=st;exact⟨o,e,λv z=>by rw[d] at z;cases z⟩
 keep:=λi h h' st k=>st.at λo e=>k it (by simp) o e
 item:=by
  intro X hP hw hK hc i pins s σ H E I hf st hg;subst hP hw hK;obtain⟨xs,x,hq,hx⟩:=hg;obtain⟨its,rv,p,hz⟩:=I.tuple hq;obtain⟨u,hu,ru⟩:=rv.get hx;obtain⟨f0,f1,f2,f3,f4,f5⟩:=hf it (by simp);refine wpAny_pyNext_tuple_item st (show s.heap.IsTuple a its.toArray from p) (x:=u) (by simpa using hu) λh' st' sb=>?_;have I1:Inv X pins σ H {s with heap:=h'}:=I.turned (t':=s.toks) (λb o hb e=>(sb.2 b hb).trans e) f0 f1 f3 f4 f5
  obtain⟨o,e,c,d⟩:=id st';exact⟨u,rfl,Wm (s:={s with heap:=h'}) e c d nofun ⟨x,H,I1,ru,⟨rfl,λys hy=>by rw[I.tuple_inj hy hq];exact hx⟩,st',λb hb=>(hf b hb).1⟩⟩
 done:=by intro X hP hw hK hc i pins s σ H E I hf st hg;subst hP hw hK;obtain⟨xs,hq,hx⟩:=hg;obtain⟨its,rv,p,hz⟩:=I.tuple hq;obtain⟨f0,f1,f2,f3,f4,f5⟩:=hf it (by simp);have hl:=rv.length;exact wpAny_pyNext_tuple_end (I.ok.hd hc) st (show s.heap.IsTuple a its.toArray from p) (by simp;omega) λh' eb=>⟨rfl,I.turned (t':=s.toks) (λb o hb e=>eb b o hb e) f0 f1 f3 f4 f5⟩
 self:=λ_ _ _ _ _ st h=>wpAny_pyIter_tupleiter st h
theorem Wc {P:Program}{w:World}{K:PySem.W.Frag}{tg:Expr}(it:Addr)(lo:Int)(n:Nat):a45 P w K tg (Itr lo n) [it] it (λi h=>IsRangeIter h it (lo+(i:Nat)*1) ((n:Int)-(i:Nat)) 1) where
 mem:=by simp
 obj:=λi h st b hb=>by
  have e:b=it:=by simpa using hb
  subst e
  exact⟨_,st,λv z=>by
   have z':Data.fields _=Data.cell v:=z
   cases z'⟩
 keep:=λi h h' st k=>k it (by simp) _ st
 item:=by
  intro X hP hw hK hc i pins s σ H E I hf st hg;subst hP hw hK;obtain⟨f0,f1,f2,f3,f4,f5⟩:=hf it (by simp);have W:=Walks.range (prog:=X.prog) (w:=X.w) (I.ok.hd hc) it lo 1 n;refine W.item i s _ _ hg st λv h' tk hv st' kk=>?_;obtain⟨t,rfl⟩:=hv;have I1:Inv X pins σ H {s with heap:=h',toks:=tk}:=I.turned (λb o hb e=>kk b o (by simpa using hb) e) f0 f1 f3 f4 f5
  refine⟨_,rfl,Wm (s:={s with heap:=h',toks:=tk}) (n:="range_iterator") st' rfl rfl nofun ⟨.int (lo+i),H,I1,⟨t,?_⟩,⟨rfl,rfl⟩,st',λb hb=>(hf b hb).1⟩⟩
  rw[Int.mul_one]
 done:=by intro X hP hw hK hc i pins s σ H E I hf st hg;subst hP hw hK;obtain⟨f0,f1,f2,f3,f4,f5⟩:=hf it (by simp);exact wpAny_pyNext_range_end (I.ok.hd hc) st (by have:n<=i:=hg;omega) λh' eb=>⟨rfl,I.turned (t':=s.toks) (λb o hb e=>eb b o hb e) f0 f1 f3 f4 f5⟩
 self:=λ_ _ _ _ _ st h=>wpAny_pyIter_rangeiter st h
section
variable {X:Cx}{tg:Expr}
theorem Uh {pins:List (Addr×Obj)}{σ:St}{H:Hp}{s:Shared}{R:It->Hp->Prop}{E:Value->Shared->Prop}{lo hi:Int}{t u v:Tok}{tk:Nat}(I:Inv X pins σ H s)(h1:-(2 ^ 62)<=lo)(h2:lo<2 ^ 62)(h3:-(2 ^ 62)<=hi)(h4:hi<2 ^ 62)
  (q:R (Itr lo (hi-lo).toNat) H):wpAny (model X.prog X.w) X.A (pyIter (.ref s.heap.objs.size)) (PIE X pins σ tg R) E {s with heap:=s.heap.push {cls:=.type "range",data:=.fields #[.int lo t,.int hi u,.int 1 v]},toks:=tk}:=by
 refine wpAny_pyIter_range (IsRange.new ..) (small_one h1 h2 h3 h4) ?_;have I1:Inv X pins σ H {s with heap:=s.heap.push {cls:=.type "range",data:=.fields #[.int lo t,.int hi u,.int 1 v]},toks:=tk}:=I.kept λb o e=>A06 _ e
 refine⟨(s.heap.push {cls:=.type "range",data:=.fields #[.int lo t,.int hi u,.int 1 v]}).objs.size,[(s.heap.push {cls:=.type "range",data:=.fields #[.int lo t,.int hi u,.int 1 v]}).objs.size],_,_,H,rfl,
  I1.kept (t':=tk) λb o e=>A06 _ e,Wc _ lo (hi-lo).toNat,?_,λb hb=>?_,q⟩
 . have e1:lo+((0:Nat):Int)*1=lo:=by simp
   have e2:(((hi-lo).toNat:Nat):Int)-((0:Nat):Int)=Builtin.Range.rangeSize lo hi 1:=by rw[rangeSize_one];split<;>omega
   show IsRangeIter _ _ (lo+((0:Nat):Int)*1) ((((hi-lo).toNat:Nat):Int)-((0:Nat):Int)) 1;rw[e1,e2];exact A0Z _ rfl
 have e:b=(s.heap.push {cls:=.type "range",data:=.fields #[.int lo t,.int hi u,.int 1 v]}).objs.size:=by simpa using hb
 subst e;exact I1.fpOk (A05 _) (I1.hok.fresh (A05 _))
def as6 (ta:TA):TI:=fun σ H R=>ta σ H λvs H1=>∃ j:Int,vs=[.int j] /\ -(2 ^ 62)<=j/\j<2 ^ 62/\R (Itr 0 j.toNat) H1
def av5 (ta:TA):TI:=fun σ H R=>ta σ H λvs H1=>∃ i j:Int,vs=[.int i,.int j]/\(-(2 ^ 62)<=i/\i<2 ^ 62 /\ -(2 ^ 62)<=j/\j<2 ^ 62)/\R (Itr i (j-i).toNat) H1
theorem Ce {a:Expr}{ta:TA}{p pos:Pos}(hg:Gl X "range")(hm:X.mg "range" = none)(ha:PA X [a] ta)(hs:starEach [a] X.env=[(false,eval a X.env)]:=by ac_nf):PI X tg (.Call (.Name "range" p) [a] [] pos) (as6 ta):=by
 intro pins s σ H R I h;refine Call_ (Mx I hg hm boot_range (A3A (thn (ha pos pins s σ H _ I h) λus s1 ⟨vs,H1,I1,r1,q1⟩=>?_) hs rfl));obtain⟨j,e,q1,q2,q⟩:=q1;subst e
 cases r1 with
 |cons r rr=>cases rr;obtain⟨t,rfl⟩:=r;exact call_range_1 (Uh I1 ∅ ∅ q1 q2 (by simpa using q))
theorem a43 {a b:Expr}{ta:TA}{p pos:Pos}(hg:Gl X "range")(hm:X.mg "range" = none)(ha:PA X [a,b] ta)(hs:starEach [a,b] X.env=[(false,eval a X.env),(false,eval b X.env)]:=by ac_nf)(hs2:starEach [b] X.env=[(false,eval b X.env)]:=by ac_nf) :
  PI X tg (.Call (.Name "range" p) [a,b] [] pos) (av5 ta):=by
 intro pins s σ H R I h;refine Call_ (Mx I hg hm boot_range (A3A (thn (ha pos pins s σ H _ I h) λus s1 ⟨vs,H1,I1,r1,q1⟩=>?_) (by rw[hs,hs2]) (by rw[hs2];rfl)));obtain⟨i,j,e,⟨q1,q2,q3,q4⟩,q⟩:=q1;subst e
 cases r1 with
 |cons r rr=>
   cases rr with
   |cons r' rr=>cases rr;obtain⟨t,rfl⟩:=r;obtain⟨t',rfl⟩:=r';exact call_range_2 (Uh I1 q1 q2 q3 q4 q)
def aD7 (wi:TI)(g:TG)(tb:TS):TS:=λD σ H=>wi σ H λJ H1=>∃ W:Nat->Nat->St->Hp->Prop,(∃ m,W 0 m σ H1)/\∀ i m σ H,W i m σ H ->
 (J.stop i H/\D.nx σ H)\/(J.go i H/\∃ N:St->Hp->Prop,(∀ σ' H',N σ' H'->∃ m',m'<m/\W (i+1) m' σ' H')/\∀ x H',J.yld i H x H'->g x σ H' fun σ2 H2=>tb {D with nx:=N,ct:=N,bk:=D.nx} σ2 H2)
def Qq (fp:List Addr)(h:Heap):List (Addr×Obj):=fp.filterMap λb=>(h.get? b).map λo=>(b,o)
theorem Im {fp:List Addr}{h:Heap}{b:Addr}{o:Obj}(hb:b∈fp)(e:h.get? b=some o):(b,o)∈Qq fp h:=List.mem_filterMap.mpr ⟨b,hb,by rw[e];rfl⟩
theorem Yn {fp:List Addr} {h:Heap} {p:Addr×Obj} (hp:p∈Qq fp h):p.1∈fp/\h.get? p.1=some p.2:=by
 obtain⟨b,hb,e⟩:=List.mem_filterMap.mp hp
 cases q:h.get? b with
 |none=>rw[q] at e;cases e
 |some o=>rw[q] at e;have e':(b,o)=p:=A1I e;subst e';exact⟨hb,q⟩
theorem Inv.pinned {pins:List (Addr×Obj)}{σ:St}{H:Hp}{s:Shared}{fp:List Addr}(I:Inv X pins σ H s)(hf:∀ b∈fp,Uf X pins H b)(ho:∀ b∈fp,∃ o,s.heap.get? b=some o/\∀ v,o.data ≠ .cell v):Inv X (pins++Qq fp s.heap) σ H s:=
 I.pins_of λp hp=>(A0B.mp hp).elim (λz=>I.pin p (A1G _ z)) λz=>by obtain⟨hb,e⟩:=Yn z;obtain⟨f0,f1,f2,_⟩:=hf p.1 hb;obtain⟨o,e',d⟩:=ho p.1 hb;rw[e] at e';cases e';exact⟨e,f0,f1,f2,d⟩
theorem Inv.unpinned {pins pl:List (Addr×Obj)}{σ:St}{H:Hp}{s:Shared}(I:Inv X (pins++pl) σ H s):Inv X pins σ H s:=I.pins_of λp hp=>I.pin p (A1G _ (A2G _ hp))
theorem Bx {iter:Expr}{body:List Stmt}{wi:TI}{g:TG}{tb:TS}{pos:Pos}(hp:PassesOwn (model X.prog X.w) X.A X.env X.xe)(hc:X.calm=true)(hi:PI X tg iter wi)(hg:PG X tg g)(hb:PSs X body tb)
  (hs:∀ x,foldedSetIterable iter X.env x=pure x:=by intro _;ac_nf):PS X (.For tg iter body [] pos) (aD7 wi g tb):=by
 intro pins s σ H D I h;refine wpAny_For (thn (hi pins s σ H _ I h) λv s1 h1=>thn h1 λitv s2 h2=>?_) hs;obtain⟨it,fp,tn,J,H2,e,I2,T,st2,f2,W,⟨m0,w0⟩,turn⟩:=h2;subst e;have stat:∀ {H':Hp},(∀ b∈fp,H' b=none)->∀ b∈fp,Uf X pins H' b:=λhn b hb=>⟨hn b hb,(f2 b hb).2⟩;refine codeAny_forLoop_any (λn s'=>∃ i σ' H',Inv X pins σ' H' s'/\tn i s'.heap/\(∀ b∈fp,H' b=none)/\W i n σ' H') ?_ m0 ⟨0,σ,H2,I2,st2,λb hb=>(f2 b hb).1,w0⟩;rintro n s3 ⟨i,σ3,H3,I3,st3,fr3,w3⟩;rcases turn i n σ3 H3 w3 with ⟨stop,qn⟩|⟨go,N,hN,step⟩
 . refine A39 hp (thn (T.done X rfl rfl rfl hc i pins s3 σ3 H3 X.xe I3 (stat fr3) st3 stop) λr s4 ⟨hr,I4⟩=>?_);subst hr;exact A4T ⟨σ3,H3,I4,qn⟩
 refine A39 hp (thn (T.item X rfl rfl rfl hc i pins s3 σ3 H3 X.xe I3 (stat fr3) st3 go) λr s4 ⟨u,hr,h4⟩=>?_);subst hr;refine A39 hp (thn h4 λ_ s5 ⟨x,H5,I5,r5,y5,st5,fr5⟩=>?_);have I5':=I5.pinned (stat fr5) (T.obj _ _ st5);refine A39 hp (thn (hg _ s5 σ3 H5 x u _ I5' r5 (step x H5 y5)) λ_ s6 ⟨σ6,H6,I6,q6⟩=>?_);refine A39 hp (thn (hb _ s6 σ6 H6 _ I6 q6) λf s7 q7=>?_)
 have again:∀ {σ7:St} {H7:Hp},Inv X (pins++Qq fp s5.heap) σ7 H7 s7->N σ7 H7->∃ m,m<n/\∃ i σ' H',Inv X pins σ' H' s7/\tn i s7.heap/\(∀ b∈fp,H' b=none)/\W i m σ' H':=fun {σ7 H7} I7 n7=>by obtain⟨m',hm,w7⟩:=hN σ7 H7 n7;refine⟨m',hm,i+1,σ7,H7,I7.unpinned,T.keep _ _ _ st5 λb hb o e=>(I7.pin (b,o) (A1G _ (A1G _ (Im hb e)))).1,λb hb=>?_,w7⟩;obtain⟨o,e,d⟩:=T.obj _ _ st5 b hb;exact(I7.pin (b,o) (A1G _ (A1G _ (Im hb e)))).2.1
 cases f with
 |next=>obtain⟨σ7,H7,I7,n7⟩:=q7;exact again I7 n7
 |cont=>obtain⟨σ7,H7,I7,n7⟩:=q7;exact again I7 n7
 |brk=>obtain⟨σ7,H7,I7,q7⟩:=q7;exact⟨σ7,H7,I7.unpinned,q7⟩
 |ret v=>obtain⟨x7,σ7,H7,I7,r7,q7⟩:=q7;exact⟨x7,σ7,H7,I7.unpinned,r7,q7⟩
end
abbrev R2:=V->V->Hp->VK->Prop
def OpR (X:Cx)(f:Value->Value->Sem Value)(r:R2):Prop:=
 ∀(pins:List (Addr×Obj)) (s:Shared) (σ:St) (H:Hp) (x y:V) (v u:Value) (Q:VK),Inv X pins σ H s->RelV x v->RelV y u->r x y H Q ->
  wpAny (model X.prog X.w) X.A (f v u) (EP X pins σ Q) X.xe s
def UnR (X:Cx)(f:Value->Sem Value)(r:V->Hp->VK->Prop):Prop:=
 ∀(pins:List (Addr×Obj)) (s:Shared) (σ:St) (H:Hp) (x:V) (v:Value) (Q:VK),Inv X pins σ H s->RelV x v->r x H Q ->
  wpAny (model X.prog X.w) X.A (f v) (EP X pins σ Q) X.xe s
def CallR (X:Cx)(f:Value)(r:List V->Hp->VK->Prop):Prop:=
 ∀(pins:List (Addr×Obj)) (s:Shared) (σ:St) (H:Hp) (xs:List V) (us:List Value) (Q:VK),Inv X pins σ H s->Vals xs us->r xs H Q ->
  wpAny (model X.prog X.w) X.A (call f us) (EP X pins σ Q) X.xe s
def TruR (X:Cx)(r:V->Hp->(Bool->Hp->Prop)->Prop):Prop:=
 ∀(pins:List (Addr×Obj)) (s:Shared) (σ:St) (H:Hp) (x:V) (v:Value) (Q:Bool->Hp->Prop),Inv X pins σ H s->RelV x v->r x H Q ->
  wpAny (model X.prog X.w) X.A (truthy v) (TP X pins σ Q) X.xe s
def tOp (r:R2)(ta tb:TE):TE:=fun σ H Q=>ta σ H λx H1=>tb σ H1 λy H2=>r x y H2 Q
def tUn (r:V->Hp->VK->Prop)(ta:TE):TE:=fun σ H Q=>ta σ H λx H1=>r x H1 Q
def rI (C:Int->Int->Prop)(g:Int->Int->V):R2:=λx y H Q=>∃ i j,x = .int i/\y = .int j/\C i j/\Q (g i j) H
def rI0 (g:Int->Int->V):R2:=λx y H Q=>∃ i j,x = .int i/\y = .int j/\Q (g i j) H
def rU (g:Int->V):V->Hp->VK->Prop:=λx H Q=>∃ i,x = .int i/\Q (g i) H
section
variable {X:Cx}{a b c:Expr}{ta tb tc:TE}{pos:Pos}
theorem aD2 (ha:PE X a ta)(hb:PE X b tb){pins:List (Addr×Obj)}{s:Shared}{σ:St}{H:Hp}{R:V->V->Hp->Prop}(I:Inv X pins σ H s)
  (h:ta σ H λx H1=>tb σ H1 λy H2=>R x y H2) {Q:Value->Shared->Prop} {f:Value->Value->Sem Value}
  (hf:∀ v u s2 x y H2,Inv X pins σ H2 s2->RelV x v->RelV y u->R x y H2->wpAny (model X.prog X.w) X.A (f v u) Q X.xe s2) :
  wpAny (model X.prog X.w) X.A (eval a X.env) (λv s₁=>wpAny (model X.prog X.w) X.A (eval b X.env) (λu s₂=>wpAny (model X.prog X.w) X.A (f v u) Q X.xe s₂) X.xe s₁) X.xe s:=by
 refine thn (ha pins s σ H _ I h) λv s1 ⟨x,H1,I1,r1,q1⟩=>?_;refine thn (hb pins s1 σ H1 _ I1 q1) λu s2 ⟨y,H2,I2,r2,q2⟩=>?_;exact hf v u s2 x y H2 I2 r1 r2 q2
theorem Ai {op:Operator}{r:R2}(ho:OpR X (binaryOp op) r)(ha:PE X a ta)(hb:PE X b tb):PE X (.BinOp a op b pos) (tOp r ta tb):=by intro pins s σ H Q I h;exact wpAny_BinOp (aD2 ha hb I h λv u s2 x y H2 I2 rx ry q=>ho pins s2 σ H2 x y v u Q I2 rx ry q)
theorem az7 {op:UnaryOp}{r:V->Hp->VK->Prop}(ho:UnR X (unaryOp op) r)(ha:PE X a ta):PE X (.UnaryOp op a pos) (tUn r ta):=by intro pins s σ H Q I h;exact UnaryOp_ (thn (ha pins s σ H _ I h) λv s1 ⟨x,H1,I1,r1,q1⟩=>ho pins s1 σ H1 x v Q I1 r1 q1)
theorem opI {f:Value->Value->Sem Value}{C:Int->Int->Prop}{g:Int->Int->Int}
  (rule:∀(i j:Int) (t u:Tok) (s:Shared) (Q:Value->Shared->Prop) (E:Value->Shared->Prop),C i j->Q (.int (g i j) s.toks) {s with toks:=s.toks+1}->wpAny (model X.prog X.w) X.A (f (.int i t) (.int j u)) Q E s) :
  OpR X f (rI C λi j=>.int (g i j)):=by
 intro pins s σ H x y v u Q I rx ry h;obtain⟨i,j,rfl,rfl,hc,q⟩:=h;obtain⟨t,rfl⟩:=rx;obtain⟨t',rfl⟩:=ry;exact rule i j t t' s _ _ hc ⟨.int (g i j),H,I.tok _,⟨_,rfl⟩,q⟩
theorem aA1 {f:Value->Value->Sem Value}{g:Int->Int->Int}
  (rule:∀(i j:Int) (t u:Tok) (s:Shared) (Q:Value->Shared->Prop) (E:Value->Shared->Prop),Q (.int (g i j) s.toks) {s with toks:=s.toks+1}->wpAny (model X.prog X.w) X.A (f (.int i t) (.int j u)) Q E s) :
  OpR X f (rI0 λi j=>.int (g i j)):=by
 intro pins s σ H x y v u Q I rx ry h;obtain⟨i,j,rfl,rfl,q⟩:=h;obtain⟨t,rfl⟩:=rx;obtain⟨t',rfl⟩:=ry;exact rule i j t t' s _ _ ⟨.int (g i j),H,I.tok _,⟨_,rfl⟩,q⟩
theorem az4 {f:Value->Value->Sem Value}{g:Int->Int->Bool}
  (rule:∀(i j:Int) (t u:Tok) (s:Shared) (Q:Value->Shared->Prop) (E:Value->Shared->Prop),Q (.bool (g i j)) s->wpAny (model X.prog X.w) X.A (f (.int i t) (.int j u)) Q E s) :
  OpR X f (rI0 λi j=>.bl (g i j)):=by
 intro pins s σ H x y v u Q I rx ry h;obtain⟨i,j,rfl,rfl,q⟩:=h;obtain⟨t,rfl⟩:=rx;obtain⟨t',rfl⟩:=ry;exact rule i j t t' s _ _ ⟨.bl (g i j),H,I,rfl,q⟩
def aC0 (i j:Int):Prop:=0<j/\j<1073741824
def aB5 (i j:Int):Prop:=0<=j/\j<=1000000/\i.natAbs<2 ^ 64
def CMul (i j:Int):Prop:=(-(2 ^ 64)<i/\i<2 ^ 64)\/(-(2 ^ 64)<j/\j<2 ^ 64)
theorem CMul.ok {i j:Int}(h:CMul i j):IntMulOk i j:=by
 rcases h with ⟨h1,h2⟩|⟨h1,h2⟩
 . exact .of_left (intBits_le_64 h1 h2)
 exact .of_right (intBits_le_64 h1 h2)
theorem op_add:OpR X (binaryOp .Add) (rI0 λi j=>.int (i+j)):=aA1 λ_ _ _ _ _ _ _ q=>add_int q
theorem Fl:OpR X (binaryOp .Sub) (rI0 λi j=>.int (i-j)):=aA1 λ_ _ _ _ _ _ _ q=>sub_int q
theorem op_mul:OpR X (binaryOp .Mult) (rI CMul λi j=>.int (i*j)):=opI λ_ _ _ _ _ _ _ hc q=>mul_int q hc.ok
theorem ae8:OpR X (binaryOp .FloorDiv) (rI aC0 λi j=>.int (i / j)):=opI λi j _ _ _ _ _ hc q=>by have h1:(0:Int)<j:=hc.1;have h2:j<1073741824:=hc.2;exact floordiv_int ∅ (by rw[Int.fdiv_eq_ediv_of_nonneg i ∅];exact q) (.inl (PyProof.noPylong_small ∅))
theorem Gb:OpR X (binaryOp .Mod) (rI (λ_ j=>0<j) λi j=>.int (i % j)):=opI λi j _ _ _ _ _ hc q=>by have h1:(0:Int)<j:=hc;exact mod_int' ∅ (by rw[Int.fmod_eq_emod_of_nonneg i ∅];exact q)
theorem aw3:OpR X (binaryOp .Pow) (rI aB5 λi j=>.int (i ^ j.toNat)):=opI λ_ _ _ _ _ _ _ hc q=>pow_int_small hc.1 hc.2.1 hc.2.2 q
theorem a90:OpR X (binaryOp .BitAnd) (rI0 λi j=>.int (Builtin.bitAnd i j)):=aA1 λ_ _ _ _ _ _ _ q=>and_int q
theorem unI {f:Value->Sem Value}{g:Int->Int}
  (rule:∀(i:Int) (t:Tok) (s:Shared) (Q:Value->Shared->Prop) (E:Value->Shared->Prop),Q (.int (g i) s.toks) {s with toks:=s.toks+1}->wpAny (model X.prog X.w) X.A (f (.int i t)) Q E s) :
  UnR X f (rU λi=>.int (g i)):=by
 intro pins s σ H x v Q I rx h;obtain⟨i,rfl,q⟩:=h;obtain⟨t,rfl⟩:=rx;exact rule i t s _ _ ⟨.int (g i),H,I.tok _,⟨_,rfl⟩,q⟩
theorem ay2:UnR X (unaryOp .USub) (rU λi=>.int (-i)):=unI λ_ _ _ _ _ q=>neg_int q
end
def ay9:V->V->Bool
 |.non,.non=>true | .non,.int _=>true | .int _,.non=>true | .non,.bl _=>true | .bl _,.non=>true | .non,.str _=>true | .str _,.non=>true
 |.int _,.int _=>true | .bl _,.bl _=>true | .str _,.str _=>true | .byt _,.byt _=>true
 |.int _,.str _=>true | .str _,.int _=>true | .bl _,.str _=>true | .str _,.bl _=>true
 |_,_=>false
def rEq:R2:=λx y H Q=>ay9 x y=true/\Q (.bl (decide (x=y))) H
def rNe:R2:=λx y H Q=>ay9 x y=true/\Q (.bl (!decide (x=y))) H
theorem Xp {i j:Int}:decide (V.int i=V.int j)=(i==j):=by rw[A43];simp
theorem ac8 {i j:Bool}:decide (V.bl i=V.bl j)=(i==j):=by rw[A43];simp
theorem Zc {i j:Str}:decide (V.str i=V.str j)=(i==j):=by rw[A43];simp
theorem Z2 {i j:Array UInt8}:decide (V.byt i=V.byt j)=(i.toList==j.toList):=by
 rw[A43]
 cases i
 cases j;simp
section
variable {X:Cx}{a b c:Expr}{ta tb tc:TE}{pos:Pos}
theorem B5 {pins:List (Addr×Obj)}{σ:St}{H:Hp}{s:Shared}{Q:VK}{k k':Bool}(I:Inv X pins σ H s)(q:Q (.bl k) H)(e:k=k'):EP X pins σ Q (.bool k') s:=by subst e;exact⟨.bl k,H,I,rfl,q⟩
theorem op_eq:OpR X (compareOp .Eq) rEq:=by
 intro pins s σ H x y v u Q I rx ry h;obtain⟨hs,q⟩:=h
 cases x with
 |non=>
   cases rx
   cases y with
   |non=>cases ry;exact PySem.EqNone.eq_none_none (B5 I q (by simp))
   |bl j=>cases ry;exact PySem.EqNone.eq_none_bool (B5 I q (by simp))
   |int j=>obtain⟨t',rfl⟩:=ry;exact PySem.EqNone.eq_none_int (B5 I q (by simp))
   |str j=>obtain⟨t',rfl⟩:=ry;exact PySem.EqNone.eq_none_str (B5 I q (by simp))
   |_=>exact absurd (show false=true from hs) A0G
 |bl i=>
   cases rx
   cases y with
   |non=>cases ry;exact PySem.EqNone.eq_bool_none (B5 I q (by simp))
   |bl j=>cases ry;exact eq_bool (B5 I q ac8)
   |str j=>obtain⟨t',rfl⟩:=ry;exact PySem.EqMixed.eq_bool_str (B5 I q (by simp))
   |_=>exact absurd (show false=true from hs) A0G
 |int i=>
   obtain⟨t,rfl⟩:=rx
   cases y with
   |non=>cases ry;exact PySem.EqNone.eq_int_none (B5 I q (by simp))
   |int j=>obtain⟨t',rfl⟩:=ry;exact eq_int (B5 I q Xp)
   |str j=>obtain⟨t',rfl⟩:=ry;exact PySem.EqMixed.eq_int_str (B5 I q (by simp))
   |_=>exact absurd (show false=true from hs) A0G
 |str i=>
   obtain⟨t,rfl⟩:=rx
   cases y with
   |non=>cases ry;exact PySem.EqNone.eq_str_none (B5 I q (by simp))
   |bl j=>cases ry;exact PySem.EqMixed.eq_str_bool (B5 I q (by simp))
   |int j=>obtain⟨t',rfl⟩:=ry;exact PySem.EqMixed.eq_str_int (B5 I q (by simp))
   |str j=>obtain⟨t',rfl⟩:=ry;exact eq_str (B5 I q Zc)
   |_=>exact absurd (show false=true from hs) A0G
 |byt i=>
   obtain⟨t,rfl⟩:=rx
   cases y with
   |byt j=>obtain⟨t',rfl⟩:=ry;exact W.eq_bytes (B5 I q Z2)
   |_=>exact absurd (show false=true from hs) A0G
 |_=>cases y<;>exact absurd (show false=true from hs) A0G
theorem op_ne:OpR X (compareOp .NotEq) rNe:=by
 intro pins s σ H x y v u Q I rx ry h;obtain⟨hs,q⟩:=h
 cases x with
 |non=>
   cases rx
   cases y with
   |non=>cases ry;exact PySem.EqNone.ne_none_none (B5 I q (by simp))
   |bl j=>cases ry;exact PySem.EqNone.ne_none_bool (B5 I q (by simp))
   |int j=>obtain⟨t',rfl⟩:=ry;exact PySem.EqNone.ne_none_int (B5 I q (by simp))
   |str j=>obtain⟨t',rfl⟩:=ry;exact PySem.EqNone.ne_none_str (B5 I q (by simp))
   |_=>exact absurd (show false=true from hs) A0G
 |bl i=>
   cases rx
   cases y with
   |non=>cases ry;exact PySem.EqNone.ne_bool_none (B5 I q (by simp))
   |bl j=>cases ry;exact ne_bool (B5 I q (congrArg not ac8))
   |str j=>obtain⟨t',rfl⟩:=ry;exact PySem.EqMixed.ne_bool_str (B5 I q (by simp))
   |_=>exact absurd (show false=true from hs) A0G
 |int i=>
   obtain⟨t,rfl⟩:=rx
   cases y with
   |non=>cases ry;exact PySem.EqNone.ne_int_none (B5 I q (by simp))
   |int j=>obtain⟨t',rfl⟩:=ry;exact ne_int (B5 I q (congrArg not Xp))
   |str j=>obtain⟨t',rfl⟩:=ry;exact PySem.EqMixed.ne_int_str (B5 I q (by simp))
   |_=>exact absurd (show false=true from hs) A0G
 |str i=>
   obtain⟨t,rfl⟩:=rx
   cases y with
   |non=>cases ry;exact PySem.EqNone.ne_str_none (B5 I q (by simp))
   |bl j=>cases ry;exact PySem.EqMixed.ne_str_bool (B5 I q (by simp))
   |int j=>obtain⟨t',rfl⟩:=ry;exact PySem.EqMixed.ne_str_int (B5 I q (by simp))
   |str j=>obtain⟨t',rfl⟩:=ry;exact ne_str (B5 I q (congrArg not Zc))
   |_=>exact absurd (show false=true from hs) A0G
 |byt i=>
   obtain⟨t,rfl⟩:=rx
   cases y with
   |byt j=>obtain⟨t',rfl⟩:=ry;exact W.ne_bytes (B5 I q (congrArg not Z2))
   |_=>exact absurd (show false=true from hs) A0G
 |_=>cases y<;>exact absurd (show false=true from hs) A0G
theorem a83:OpR X (compareOp .Lt) (rI0 λi j=>.bl (decide (i<j))):=az4 λ_ _ _ _ _ _ _ q=>lt_int q
theorem ae7:OpR X (compareOp .LtE) (rI0 λi j=>.bl (decide (i<=j))):=az4 λ_ _ _ _ _ _ _ q=>le_int q
theorem Nq:OpR X (compareOp .Gt) (rI0 λi j=>.bl (decide (j<i))):=az4 λ_ _ _ _ _ _ _ q=>gt_int q
theorem aC4:OpR X (compareOp .GtE) (rI0 λi j=>.bl (decide (j<=i))):=az4 λ_ _ _ _ _ _ _ q=>ge_int q
theorem op_in_str:OpR X (compareOp .In) (λx y H Q=>∃ i j,x = .str i/\y = .str j/\Q (.bl (!(Builtin.Str.occurrences j i 0 j.length 1).isEmpty)) H):=by intro pins s σ H x y v u Q I rx ry h;obtain⟨i,j,rfl,rfl,q⟩:=h;obtain⟨t,rfl⟩:=rx;obtain⟨t',rfl⟩:=ry;exact in_str (B5 I q rfl)
theorem ao3:OpR X (compareOp .Is) (λx y H Q=>y = .non/\Q (.bl (decide (x = .non))) H):=by
 intro pins s σ H x y v u Q I rx ry h;obtain⟨rfl,q⟩:=h
 cases ry;refine is_none_gen (B5 I q ?_)
 cases x<;>first
  | (cases rx;rfl)
  | (obtain⟨t,rfl⟩:=rx;rfl)
theorem aj1:OpR X (compareOp .IsNot) (λx y H Q=>y = .non/\Q (.bl (!decide (x = .non))) H):=by
 intro pins s σ H x y v u Q I rx ry h;obtain⟨rfl,q⟩:=h
 cases ry;refine isnot_none_gen (B5 I q ?_)
 cases x<;>first
  | (cases rx;rfl)
  | (obtain⟨t,rfl⟩:=rx;rfl)
theorem OpR.or {f:Value->Value->Sem Value}{r r':R2}(h:OpR X f r)(h':OpR X f r'):OpR X f (λx y H Q=>r x y H Q\/r' x y H Q):=by
 intro pins s σ H x y v u Q I rx ry q;rcases q with q|q
 . exact h pins s σ H x y v u Q I rx ry q
 exact h' pins s σ H x y v u Q I rx ry q
theorem Al (b:Expr){op:CmpOp}(h:op ≠ .In:=by decide)(h2:op ≠ .NotIn:=by decide):behindInMarks op b=false:=by
 have e1:(op==CmpOp.In)=false:=by cases op<;>first | rfl | exact absurd rfl h
 have e2:(op==CmpOp.NotIn)=false:=by cases op<;>first | rfl | exact absurd rfl h2
 cases b<;>simp[behindInMarks,e1,e2]
theorem Eg {op:CmpOp}{r:R2}(ho:OpR X (compareOp op) r)(ha:PE X a ta)(hb:PE X b tb)(hm:behindInMarks op b=false):PE X (.Compare a [op] [b] pos) (tOp r ta tb):=by intro pins s σ H Q I h;exact wpAny_Compare1 (aD2 ha hb I h λv u s2 x y H2 I2 rx ry q=>ho pins s2 σ H2 x y v u Q I2 rx ry q) hm
def ax6 (t:TE):TT:=fun σ H Q=>t σ H λx H'=>∃ k,x = .bl k/\Q k H'
theorem Ae {op:CmpOp}{r:R2}(ho:OpR X (compareOp op) r)(ha:PE X a ta)(hb:PE X b tb)(hm:behindInMarks op b=false):PT X (.Compare a [op] [b] pos) (ax6 (tOp r ta tb)):=by
 intro pins s σ H Q I h
 refine wpAny_isTrue_Compare1 (thn (ha pins s σ H _ I h) λv s1 ⟨x,H1,I1,r1,q1⟩=>thn (hb pins s1 σ H1 _ I1 q1) λu s2 ⟨y,H2,I2,r2,q2⟩=>thn (ho pins s2 σ H2 x y v u _ I2 r1 r2 q2) λc s3 ⟨z,H3,I3,r3,k,e,q3⟩=>?_) hm
 subst e
 cases r3;exact A3E ⟨H3,I3,q3⟩
def aa0 (r r':R2)(ta tb tc:TE):TE:=fun σ H Q=>ta σ H λx H1=>tb σ H1 λy H2=>r x y H2 λz H3=>∃ k,z = .bl k /\
 (if k=true then tc σ H3 λw' H4=>r' y w' H4 Q else Q (.bl false) H3)
theorem a52 {op op':CmpOp}{r r':R2}(ho:OpR X (compareOp op) r)(ho':OpR X (compareOp op') r')(ha:PE X a ta)(hb:PE X b tb)(hc:PE X c tc)
  (hm:lastMarks [op,op'] [b,c]=false:=by ac_nf):PE X (.Compare a [op,op'] [b,c] pos) (aa0 r r' ta tb tc):=by
 intro pins s σ H Q I h
 refine Compare_chain (thn (ha pins s σ H _ I h) λv s1 ⟨x,H1,I1,r1,q1⟩=>chain_link (thn (hb pins s1 σ H1 _ I1 q1) λu s2 ⟨y,H2,I2,r2,q2⟩=>thn (ho pins s2 σ H2 x y v u _ I2 r1 r2 q2) λd s3 ⟨z,H3,I3,r3,k,e,q3⟩=>?_)) hm
 subst e
 cases r3;refine A3E ?_
 cases k with
 |false=>exact ite_ff ⟨.bl false,H3,I3,rfl,q3⟩
 |true=>exact ite_tt (chain_last (thn (hc pins s3 σ H3 _ I3 q3) λw' s4 ⟨z',H4,I4,r4,q4⟩=>ho' pins s4 σ H4 y z' u w' Q I4 r2 r4 q4))
def TruV (K:W.Frag)(x:V)(H:Hp)(k:Bool):Prop:=
 match x with
 |.non=>k=false
 |.bl b=>k=b
 |.int i=>k=(i != 0)
 |.str y=>y.length<=sizeLine/\k=((y.length:Int) != 0)
 |.byt y=>y.size<=sizeLine/\k=((y.size:Int) != 0)
 |.ref p=>(∃ xs,SqL K H p xs/\k = !xs.isEmpty)\/(∃ xs,SqT K H p xs/\k = !xs.isEmpty)\/∃ kvs,H p=some (.dK kvs)/\k = !kvs.isEmpty
 |_=>False
theorem We {κ:Type}{kvs:List (κ×V)}{vs:List (κ×Value)}(r:KV kvs vs):(!vs.isEmpty) = !kvs.isEmpty:=by cases r<;>rfl
theorem Na {xs:List V}{its:List Value}(r:Vals xs its):(!its.toArray.isEmpty) = !xs.isEmpty:=by cases r<;>simp
theorem R4:(sizeLine:Nat)<2 ^ 63:=by rw[A1B];decide
theorem ap0:TruR X (λx H Q=>∃ k,TruV X.K x H k/\Q k H):=by
 intro pins s σ H x v Q I rx h;obtain ⟨k,e,q⟩:=h;have hl:=R4;have hs:sizeLine=16777216:=A1B
 cases x with
 |non=>cases rx;have e':k=false:=e;subst e';exact truthy_none ⟨H,I,q⟩
 |bl b=>cases rx;have e':k=b:=e;subst e';exact A3E ⟨H,I,q⟩
 |int i=>obtain⟨t,rfl⟩:=rx;have e':k=(i != 0):=e;subst e';exact PySem.P.truthy_int ⟨H,I,q⟩
 |str y=>obtain⟨t,rfl⟩:=rx;obtain⟨hy,e'⟩:y.length<=sizeLine/\k=((y.length:Int) != 0):=e;subst e';exact PySem.P.truthy_str ∅ ⟨H,I.tok _,q⟩
 |byt y=>obtain⟨t,rfl⟩:=rx;obtain⟨hy,e'⟩:y.size<=sizeLine/\k=((y.size:Int) != 0):=e;subst e';exact W.truthy_bytes ∅ ⟨H,I.tok _,q⟩
 |ref p=>
   cases rx;have e':(∃ xs,SqL X.K H p xs/\k = !xs.isEmpty)\/(∃ xs,SqT X.K H p xs/\k = !xs.isEmpty)\/∃ kvs,H p=some (.dK kvs)/\k = !kvs.isEmpty:=e;rcases e' with ⟨xs,hx,e'⟩|⟨xs,hx,e'⟩|⟨kvs,hx,e'⟩
   . subst e';obtain⟨its,r,pl,hz⟩:=I.list hx;have hlen:=r.length;exact wpAny_truthy_list pl.isList (by simp only[List.size_toArray];omega) ⟨H,I.tok _,by rw[Na r];exact q⟩
   . subst e';obtain⟨its,r,pl,hz⟩:=I.tuple hx;have hlen:=r.length;exact truthy_tuple pl (by simp only[List.size_toArray];omega) ⟨H,I.tok _,by rw[Na r];exact q⟩
   subst e';obtain⟨hz,hS,vs,r,m⟩:kvs.length<=sizeLine/\(p==sysModules)=false/\∃ vs,KV kvs vs/\s.heap.DictOf (Ax X.prog X.w) p vs:=I.hok p _ hx;have hlen:kvs.length=vs.length:=A2R r;exact wpAny_truthy_dict hS m ∅ ⟨H,I.tok _,by rw[We r];exact q⟩
 |_=>exact(show False from e).elim
theorem op_add_str:OpR X (binaryOp .Add) (λx y H Q=>∃ i j,x = .str i/\y = .str j/\i.length+j.length<=sizeLine/\Q (.str (i++j)) H):=by intro pins s σ H x y v u Q I rx ry h;obtain⟨i,j,rfl,rfl,hz,q⟩:=h;obtain⟨t,rfl⟩:=rx;obtain⟨t',rfl⟩:=ry;exact add_str (λt' tk=>⟨.str (i++j),H,I.tok _,⟨_,rfl⟩,q⟩) hz
theorem J9 {x:V}{us:List Value}(r:Vals [x] us):∃ u,us=[u]/\RelV x u:=by
 cases r with
 |cons r1 r2=>cases r2;exact⟨_,rfl,r1⟩
theorem ae0 {x y:V}{us:List Value}(r:Vals [x,y] us):∃ u w',us=[u,w']/\RelV x u/\RelV y w':=by
 cases r with
 |cons r1 r2=>
   cases r2 with
   |cons r3 r4=>cases r4;exact⟨_,_,rfl,r1,r3⟩
theorem W5:CallR X (.builtin "abs") (λxs H Q=>∃ i,xs=[.int i]/\Q (.int (if i<0 then -i else i)) H):=by intro pins s σ H xs us Q I r h;obtain⟨i,rfl,q⟩:=h;obtain⟨u,rfl,t,rfl⟩:=J9 r;exact call_abs_int λu tk=>⟨.int (if i<0 then -i else i),H,I.tok _,⟨_,rfl⟩,q⟩
theorem a34:CallR X (.type "int") (λxs H Q=>(∃ i,xs=[.int i]/\Q (.int i) H)\/∃ k,xs=[.bl k]/\Q (.int (if k then 1 else 0)) H):=by
 intro pins s σ H xs us Q I r h;rcases h with ⟨i,rfl,q⟩|⟨k,rfl,q⟩
 . obtain⟨u,rfl,t,rfl⟩:=J9 r;exact call_int_int ⟨.int i,H,I,⟨_,rfl⟩,q⟩
 obtain⟨u,rfl,r1⟩:=J9 r
 cases r1;exact call_int_bool ⟨.int (if k then 1 else 0),H,I.tok _,⟨_,rfl⟩,q⟩
def aF4 (K:W.Frag)(x:V)(H:Hp)(n:Nat):Prop:=
 match x with
 |.str y=>y.length<=sizeLine/\n=y.length
 |.byt y=>y.size<=sizeLine/\n=y.size
 |.ref p=>(∃ xs,SqL K H p xs/\n=xs.length)\/∃ xs,SqT K H p xs/\n=xs.length
 |_=>False
theorem call_len:CallR X (.builtin "len") (λxs H Q=>∃ x n,xs=[x]/\aF4 X.K x H n/\Q (.int n) H):=by
 intro pins s σ H xs us Q I r h;obtain⟨x,n,rfl,e,q⟩:=h;obtain ⟨u,rfl,rx⟩:=J9 r;have hl:=R4;have hs:sizeLine=16777216:=A1B
 cases x with
 |str y=>obtain⟨t,rfl⟩:=rx;obtain⟨hy,e'⟩:y.length<=sizeLine/\n=y.length:=e;subst e';exact len_str ∅ ⟨.int _,H,I.tok _,⟨_,rfl⟩,q⟩
 |byt y=>obtain⟨t,rfl⟩:=rx;obtain⟨hy,e'⟩:y.size<=sizeLine/\n=y.size:=e;subst e';exact W.len_bytes ∅ ⟨.int _,H,I.tok _,⟨_,rfl⟩,q⟩
 |ref p=>
   cases rx;have e':(∃ xs,SqL X.K H p xs/\n=xs.length)\/∃ xs,SqT X.K H p xs/\n=xs.length:=e;rcases e' with ⟨xs,hx,e'⟩|⟨xs,hx,e'⟩
   . subst e';obtain⟨its,r',pl,hz⟩:=I.list hx;have hlen:=r'.length;exact Calls.call_len_list pl.isList (by simp only[List.size_toArray];omega) ⟨.int xs.length,H,I.tok _,⟨_,by simp only[List.size_toArray];rw[hlen]⟩,q⟩
   subst e';obtain⟨its,r',pl,hz⟩:=I.tuple hx;have hlen:=r'.length;exact len_tuple pl (by simp only[List.size_toArray];omega) ⟨.int xs.length,H,I.tok _,⟨_,by simp only[List.size_toArray];rw[hlen]⟩,q⟩
 |_=>exact(show False from e).elim
end
structure ObjM (h:Heap)(x dx C:Addr)(mA:Str->Option Value):Prop where
 obj:h.get? x=some (W.instObj C dx)
 ns:h.Ns1 dx mA
 ne:dx≠x
theorem Yy {h:Heap}{dx:Addr}{mA:Str->Option Value}(n:h.Ns1 dx mA):∃ od,h.get? dx=some od/\∀ name,W.lookIn name od=some (mA name):=by
 obtain⟨o,es,ep,ho,hd,hk,_,hm⟩:=n;refine⟨o,ho,λname=>?_⟩;have e:=hm name;unfold nsFind findBy at e;rw[<- Array.find?_toList] at e;unfold W.lookIn;rw[hd];dsimp only
 split
 . rename_i y q;rw[q] at e;exact congrArg some e
 rename_i q;rw[q] at e
 have a:es.toList.any (·.refKey)=false:=by rw[List.any_eq_false];intro y hy;obtain⟨z,t,hkey⟩:=hk y (Array.mem_toList_iff.mp hy);simp[DictEntry.refKey,hkey]
 have a':¬ es.toList.any (·.refKey)=true:=by rw[a];exact A0G
 rw[A0P a'];exact congrArg some e
theorem ObjM.look {h:Heap}{x dx C:Addr}{mA:Str->Option Value}(I:ObjM h x dx C mA):∃ od,W.InstAt h x (W.instObj C dx) C (some od)/\∀ name,W.lookIn name od=some (mA name):=
 let ⟨od,ho,hl⟩:=Yy I.ns
 ⟨od,⟨I.obj,rfl,rfl,ho⟩,hl⟩
section
variable {prog:Program}{w:World}{A:Around}{E:Value->Shared->Prop}{s:Shared}{K:W.Frag}{x dx C f:Addr}{mA:Str->Option Value}{name:Str}{v:Value}
theorem al8 {expr:Bool}{Q:Value->Shared->Prop}(X:K.In s.heap)(I:ObjM s.heap x dx C mA)(hg:W.plainGet K C name=true)(hh:W.hasDictIn K C=true)
  (ha:W.findIn K (.ref C) name=some none) (hv:mA name=some v) (hv':W.handedIn v=true) (h:Q v {s with toks:=s.toks+1}) :
  wpAny (model prog w) A (getAttr (.ref x) name expr) Q E s:=by
 obtain⟨od,J,hl⟩:=I.look;exact W.get_value X J (A5E hg).1 (W.findObj_own hh ha rfl (by rw[hl,hv])) hv' h
theorem a87 {pl:Sem Bool}{Q:Value×List Value->Shared->Prop}(X:K.In s.heap)(I:ObjM s.heap x dx C mA)(hg:W.plainGet K C name=true)
  (hf:W.findIn K (.ref C) name=some (some (.ref f))) (ht:W.isFn K (.ref f)=true) (hv:mA name=none) (h:Q (.ref f,[.ref x]) s) :
  wpAny (model prog w) A (getMethod (.ref x) name pl) Q E s:=by
 obtain⟨od,J,hl⟩:=I.look;exact W.method_fn X J (A5E hg).1 (A5E hg).2 hf (A10.mp ht) (by show(W.lookIn name od).map (·.isSome)=some false;rw[hl,hv];rfl) h
theorem ag4 {ns:List Str}{Q:Unit->Shared->Prop}(X:K.In s.heap)(I:ObjM s.heap x dx C mA)
  (hs:W.findIn K (.ref C) "__setattr__" = some (some (.builtin "object.__setattr__"))) (hp:W.plainOver K C=true) (ht:W.takerIn K C name=some none) (hh:W.hasDictIn K C=true)
  (hw:PySem.Within mA ns) (hsz:ns.length<=sizeLine)
  (h:∀ h',ObjM h' x dx C (λy=>if y=name then some v else mA y)->Heap.SameBut dx s.heap h'->Q () {s with heap:=h',toks:=s.toks+2}) :
  wpAny (model prog w) A (setAttr (.ref x) name v) Q E s:=by
 obtain⟨od,J,hl⟩:=I.look;refine W.set_plain X J hs (W.osa_open (s:={s with toks:=s.toks+1}) (r:=none) X J hp ht λb=>?_)
 obtain⟨cd,hc,hd'⟩:=W.any_some hh;have hx:s.heap.get? x=some ⟨.ref C,some dx,.plain,#[]⟩:=I.obj;refine A02 (A09 (A02 (A02 (wpAny_loadPart hx (A02 (W.Looks.here (s:={s with toks:=s.toks+1}) (W.looks_clsIn X hc) ?_))))))
 rw[hd'];refine A09 (a:=some dx) (A02 (A09 (A02 ?_)));refine wpAny_nsSet1 (s:={s with toks:=s.toks+1}) I.ns λh' hn2 hs2=>?_
 obtain⟨oD,esD,epD,hoD,hdD,hcD⟩:=hn2.count (PySem.Within.cons name v hw);refine A02 (wpAny_lookBehind hoD (by rw[hdD];exact pastItsLine_dict (A0C hcD (by rw[A0W];omega))) ?_);exact A09 (h _ ⟨(hs2.2 _ (Ne.symm I.ne)).trans I.obj,hn2,I.ne⟩ hs2)
theorem a63 {R:Result->Shared->Prop}{vs:List Value}{kw:List (Str×Value)}(X:K.In s.heap)(hm:W.makesIn K C=true)
  (hi:W.findIn K (.ref C) "__init__" = some (some (.ref f))) (hf:W.typeIn K (.ref f)=some (.type "function"))
  (h:codeAny (model prog w) (A.under (.builtin "type.__call__" ⟨.ref C :: vs,kw⟩)) (.call (.ref f) ⟨.ref (s.heap.objs.size+1) :: vs,kw⟩) (W.InitBack (s.heap.objs.size+1) R)
   {s with heap:=(s.heap.push W.emptyDict).push (W.instObj C s.heap.objs.size)}) :
  codeAny (model prog w) A (.call (.ref C) ⟨vs,kw⟩) R s:=by
 obtain⟨hh,g,d,t,os⟩:=s;exact W.make_core (W.makes_of X hm) (W.looks_findIn X hi) (λself=>W.bind_fn X self hf) (.inl rfl) h
end
def M0 (f:Str) (v:V):List (Str×V)->List (Str×V)
 | []=>[(f,v)]
 | (g,x) :: r=>if g=f then(g,v) :: r else(g,x) :: M0 f v r
theorem Lc (f g:Str)(v:V):∀ fs:List (Str×V),(M0 f v fs).lookup g=if g=f then some v else fs.lookup g
 | []=>by
   show List.lookup g [(f,v)]=_
   by_cases h:g=f
   . have hb:(g==f)=true:=A10.mpr h;simp only[List.lookup,hb,if_pos h]
   have hb:(g==f)=false:=A1R.mpr h;simp only[List.lookup,hb,if_neg h]
 | (k,x) :: r=>by
   have ih:=Lc f g v r;rw[show M0 f v ((k,x) :: r)=(if k=f then(k,v) :: r else(k,x) :: M0 f v r) from rfl]
   by_cases hk:k=f
   . rw[A0Y hk]
     by_cases h:g=k
     . have hb:(g==k)=true:=A10.mpr h;simp only[List.lookup,hb,if_pos (h.trans hk)]
     have hb:(g==k)=false:=A1R.mpr h;simp only[List.lookup,hb,if_neg (λe:g=f=>h (e.trans hk.symm))]
   rw[A0P hk]
   by_cases h:g=k
   . have hb:(g==k)=true:=A10.mpr h;simp only[List.lookup,hb,if_neg (λe:g=f=>hk (h.symm.trans e))]
   have hb:(g==k)=false:=A1R.mpr h;simp only[List.lookup,hb];exact ih
theorem M8 (f:Str)(v:V):∀ fs:List (Str×V),f∈(M0 f v fs).map (·.1)/\∀ g,g∈fs.map (·.1)->g∈(M0 f v fs).map (·.1)
 | []=>⟨by simp[M0],λg h=>by simp at h⟩
 | (k,x) :: r=>by
   obtain⟨i1,i2⟩:=M8 f v r;rw[show M0 f v ((k,x) :: r)=(if k=f then(k,v) :: r else(k,x) :: M0 f v r) from rfl]
   by_cases hk:k=f
   . rw[A0Y hk];subst hk;exact⟨by simp,λg h=>by simpa using h⟩
   rw[A0P hk];refine⟨?_,λg h=>?_⟩
   . rw[A0I];exact A0E _ i1
   rw[A0I] at h ⊢;rcases A0F.mp h with e|e
   . exact A0F.mpr (.inl e)
   exact A0E _ (i2 g e)
theorem Ly (f:Str)(v:V):∀ fs:List (Str×V),(M0 f v fs).length<=fs.length+1
 | []=>by simp[M0]
 | (k,x) :: r=>by
   have ih:=Ly f v r;rw[show M0 f v ((k,x) :: r)=(if k=f then(k,v) :: r else(k,x) :: M0 f v r) from rfl]
   by_cases hk:k=f
   . rw[A0Y hk,A0W,A0W];omega
   rw[A0P hk,A0W,A0W];omega
theorem RelO.some_of {v:V}{o:Option Value}(r:RelO (some v) o):∃ u,o=some u/\RelV v u:=by
 cases o with
 |none=>exact(show False from r).elim
 |some u=>exact⟨u,rfl,r⟩
theorem RelO.none_of {o:Option Value}(r:RelO none o):o=none:=by
 cases o with
 |none=>rfl
 |some u=>exact(show False from r).elim
theorem Yd {v:V}{u:Value}(r:RelV v u):W.handedIn u=true:=by
 cases v with
 |non=>cases (show u=Value.none from r);rfl
 |bl b=>cases (show u=Value.bool b from r);rfl
 |int i=>obtain⟨t,e⟩:=(show ∃ t,u=Value.int i t from r);cases e;rfl
 |str x=>obtain⟨t,e⟩:=(show ∃ t,u=Value.str x t from r);cases e;rfl
 |byt b=>obtain⟨t,e⟩:=(show ∃ t,u=Value.bytes b t from r);cases e;rfl
 |flt b=>obtain⟨t,e⟩:=(show ∃ t,u=Value.float b t from r);cases e;rfl
 |ref a=>cases (show u=Value.ref a from r);rfl
 |ty n=>cases (show u=Value.type n from r);rfl
section
variable {P:Program}{w:World}{H H':Hp}{h h':Heap}{a C dx:Addr}{fs fs':List (Str×V)}
theorem Nw (hok:HOk P w H h)(e:H a=some (.ins C dx fs)):∃ mA,ObjM h a dx C mA/\(∀ f,RelO (fs.lookup f) (mA f))/\PySem.Within mA (fs.map (·.1))/\fs.length<=1000/\H dx=some (.own a):=by obtain⟨d,z,ne,ob,mA,n,r,q⟩:=(show ObjOk P w H h a (.ins C dx fs) from hok a _ e);exact⟨mA,⟨ob,n,ne⟩,r,q,z,d⟩
end
structure Cls (K:W.Frag)(C:Addr):Prop where
 pg:W.plainGet K C Str.empty=true
 hd:W.hasDictIn K C=true
 po:W.plainOver K C=true
 sa:W.findIn K (.ref C) "__setattr__" = some (some (.builtin "object.__setattr__"))
theorem Cls.get {K:W.Frag}{C:Addr}(c:Cls K C)(f:Str):W.plainGet K C f=true:=c.pg
def NoAttr (K:W.Frag)(C:Addr)(f:Str):Prop:=W.findIn K (.ref C) f=some none
theorem NoAttr.taker {K:W.Frag}{C:Addr}{f:Str}(n:NoAttr K C f):W.takerIn K C f=some none:=by unfold W.takerIn;rw[show W.findIn K (.ref C) f=some none from n];rfl
structure ay6 (K:W.Frag)(C:Addr)(m:Str)(f:Addr):Prop where
 at_:W.findIn K (.ref C) m=some (some (.ref f))
 fn:W.isFn K (.ref f)=true
 kp:W.keepIn K (.ref f)=true
section
variable {X:Cx}{pins:List (Addr×Obj)}{σ:St}{H:Hp}{s:Shared}{a C dx:Addr}{fs:List (Str×V)}{f:Str}{v:V}{A:Around}{E:Value->Shared->Prop}
theorem X0 {b:Bool}{Q:Value->Shared->Prop}(I:Inv X pins σ H s)(e:H a=some (.ins C dx fs))(c:Cls X.K C)(n:NoAttr X.K C f)(l:fs.lookup f=some v)
  (h:∀ u s',Inv X pins σ H s'->RelV v u->Q u s'):wpAny (model X.prog X.w) A (getAttr (.ref a) f b) Q E s:=by
 obtain⟨mA,O,r,_,_,_⟩:=Nw I.hok e;obtain⟨u,hu,ru⟩:=RelO.some_of (v:=v) (o:=mA f) (by rw[<- l];exact r f);exact al8 I.kIn O (c.get f) c.hd n hu (Yd ru) (h u _ (I.tok _) ru)
theorem X1 {m:Str}{g:Addr}{pl:Sem Bool}{Q:Value×List Value->Shared->Prop}(I:Inv X pins σ H s)(e:H a=some (.ins C dx fs))(c:Cls X.K C)(k:ay6 X.K C m g)(l:fs.lookup m=none)
  (h:Q (.ref g,[.ref a]) s):wpAny (model X.prog X.w) A (getMethod (.ref a) m pl) Q E s:=by
 obtain⟨mA,O,r,_,_,_⟩:=Nw I.hok e;have hn:mA m=none:=RelO.none_of (by rw[<- l];exact r m);exact a87 I.kIn O (c.get m) k.at_ k.fn hn h
theorem Wv {y:V}{u:Value}{Q:Unit->Shared->Prop}(I:Inv X pins σ H s)(e:H a=some (.ins C dx fs))(c:Cls X.K C)(n:NoAttr X.K C f)(hl:fs.length<1000)(ry:RelV y u)
  (h:∀ s',Inv X pins σ (upd H a (.ins C dx (M0 f y fs))) s'->Q () s'):wpAny (model X.prog X.w) A (setAttr (.ref a) f u) Q E s:=by
 obtain⟨mA,O,r,wi,_,ho⟩:=Nw I.hok e;have hz:(fs.map (·.1)).length<=sizeLine:=by rw[A00,A1B];omega
 refine ag4 I.kIn O c.sa c.po n.taker c.hd wi hz λh' O' sb=>h _ ?_;have hd:∃ o,h'.get? dx=some o:=let ⟨o,_,_,e',_⟩:=O'.ns;⟨o,e'⟩;refine I.write (x:=a) (e:=dx) (by rw[e];exact A2J) (.inr ho) (λb q hb z=>(sb.2 b hb).trans z) hd ?_;refine⟨by rw[B9 O.ne];exact ho,?_,O.ne,O'.obj,_,O'.ns,λg=>?_,λg hg=>?_⟩
 . have:=Ly f y fs;omega
 . show RelO ((M0 f y fs).lookup g) (if g=f then some u else mA g)
   rw[Lc]
   by_cases q:g=f
   . rw[A0Y q,A0Y q];exact ry
   rw[A0P q,A0P q];exact r g
 by_cases q:g=f
 . rw[q];exact(M8 f y fs).1
 refine(M8 f y fs).2 g (wi g λz=>hg ?_);show(if g=f then some u else mA g)=none
 rw[A0P q];exact z
theorem Inv.made (I:Inv X pins σ H s):Inv X pins σ (upd (upd H s.heap.objs.size (.own (s.heap.objs.size+1))) (s.heap.objs.size+1) (.ins C s.heap.objs.size []))
  {s with heap:=(s.heap.push W.emptyDict).push (W.instObj C s.heap.objs.size)}:=by
 have e1:(s.heap.push W.emptyDict).get? s.heap.objs.size=some W.emptyDict:=A0Z s.heap rfl
 have e2:((s.heap.push W.emptyDict).push (W.instObj C s.heap.objs.size)).get? (s.heap.objs.size+1)=some (W.instObj C s.heap.objs.size):=by have:=A0Z (s.heap.push W.emptyDict) (o:=W.instObj C s.heap.objs.size) rfl;rwa[A35] at this
 have e3:(s.heap.push W.emptyDict).Ns s.heap.objs.size (λ_=>none):=⟨W.emptyDict,#[],_,e1,rfl,(λe he=>absurd he (by simp)),λ_=>rfl⟩;have I1:=I.laid (a:=s.heap.objs.size) (o:=.own (s.heap.objs.size+1)) (h':=s.heap.push W.emptyDict) (t':=s.toks) (λb u q=>A06 _ q) (A05 _) ⟨_,e1⟩;refine I1.laid (a:=s.heap.objs.size+1) (o:=.ins C s.heap.objs.size []) (t':=s.toks) (λb u q=>A06 _ q) (A4U (A35 _ _)) ?_;have ne:s.heap.objs.size≠s.heap.objs.size+1:=A19 (A3W _);refine⟨by rw[B9 ne,A8],A24 _,ne,e2,λ_=>none,(Heap.Ns1.of_empty e3).at λo q=>A06 _ q,λ_=>A2J,λy hy=>absurd rfl hy⟩
theorem ag3 {prog:Program}{w:World}{env:Env}{e:Expr}{f:Str}{pos:Pos}{s:Shared}{Q:Value->Shared->Prop}(hb:attributeBase e f env (eval e env)=eval e env)
  (h:wpAny (model prog w) A (eval e env) (λo s₁=>wpAny (model prog w) A (getAttr o f true) Q E s₁) E s):wpAny (model prog w) A (eval (.Attribute e f pos) env) Q E s:=
 Attribute_any_ h (by rw[arm_eval_Attribute,hb])
end
section
variable {X:Cx}{o e value:Expr}{f:Str}{pos pos' tpos:Pos}{ta tv:TE}
end
section
variable {X:Cx}{pins:List (Addr×Obj)}{σ:St}{H:Hp}{s:Shared}{A:Around}{E:Value->Shared->Prop}{Q:Value->Shared->Prop}{c:Value}{b:Bool}
inductive Rz (K:W.Frag)(H:Hp):V->Value->Prop where
 |non:Rz K H .non (.type "NoneType")
 |bl (x:Bool):Rz K H (.bl x) (.type "bool")
 |int (i:Int):Rz K H (.int i) (.type "int")
 |str (x:Str):Rz K H (.str x) (.type "str")
 |flt (x:UInt64):Rz K H (.flt x) (.type "float")
 |lst {a:Addr} {xs:List V} (e:H a=some (.lst xs)):Rz K H (.ref a) (.type "list")
 |frz {a:Addr} {o:Obj} {xs:List V} (e:H a=some (.frz o (.lst xs))):Rz K H (.ref a) (.type "list")
 |tup {a:Addr} {xs:List V} (e:H a=some (.tup xs)):Rz K H (.ref a) (.type "tuple")
 |dK {a:Addr} {kvs:List (Key×V)} (e:H a=some (.dK kvs)):Rz K H (.ref a) (.type "dict")
 |dT {a:Addr} {kvs:List (List Key×V)} (e:H a=some (.dT kvs)):Rz K H (.ref a) (.type "dict")
 |ins {a C dx:Addr} {fs:List (Str×V)} (e:H a=some (.ins C dx fs)) (cl:Cls K C) (ha:W.findIn K (.ref C) "__class__" = some (some (.builtin "object.__class__")))
   (hn:W.specialIn K (.builtin "object.__class__") "__get__" = some (some (.builtin "getset_descriptor.__get__"))) (htk:W.takesIn K (.builtin "object.__class__")=some true)
   (hm:W.mroIn K C (.type "object")=some true):Rz K H (.ref a) (.ref C)
theorem R5 {x:V}{u t:Value}(I:Inv X pins σ H s)(rx:RelV x u)(ty:Rz X.K H x t)(e:W.kitOne X.K t c=some b)(h:∀ tk,Q (.bool b) {s with toks:=tk}) :
  wpAny (model X.prog X.w) A (call (.builtin "isinstance") [u,c]) Q E s:=by
 cases ty with
 |non=>cases (show u=Value.none from rx);exact A1S W.kitx_none I.kIn A2J e (λz=>nomatch z) h
 |bl y=>cases (show u=Value.bool y from rx);exact A1S W.kitx_bool I.kIn A2J e (λz=>nomatch z) h
 |int i=>obtain⟨t,q⟩:=(show ∃ t,u=Value.int i t from rx);cases q;exact A1S W.kitx_int I.kIn A2J e (λz=>nomatch z) h
 |str y=>obtain⟨t,q⟩:=(show ∃ t,u=Value.str y t from rx);cases q;exact A1S W.kitx_str I.kIn A2J e (λz=>nomatch z) h
 |flt y=>obtain⟨t,q⟩:=(show ∃ t,u=Value.float y t from rx);cases q;exact A1S W.kitx_float I.kIn A2J e (λz=>nomatch z) h
 |@lst a xs ea=>cases (show u=Value.ref a from rx);obtain⟨_,_,n,_,h1⟩:=(show ObjOk X.prog X.w H s.heap a (.lst xs) from I.hok a _ ea);exact A1S W.kitx_list I.kIn ⟨_,h1,rfl⟩ e (λz=>nomatch z) h
 |@frz a ob xs ea=>cases (show u=Value.ref a from rx);obtain⟨_,_,_,n,_,h1⟩:=(show ObjOk X.prog X.w H s.heap a (.frz ob (.lst xs)) from I.hok a _ ea);exact A1S W.kitx_list I.kIn ⟨_,h1,rfl⟩ e (λz=>nomatch z) h
 |@tup a xs ea=>cases (show u=Value.ref a from rx);obtain⟨_,_,_,p⟩:=(show ObjOk X.prog X.w H s.heap a (.tup xs) from I.hok a _ ea);obtain⟨o,h1,h2,_⟩:=p;exact A1S W.kitx_tuple I.kIn ⟨o,h1,h2⟩ e (λz=>nomatch z) h
 |@dK a kvs ea=>cases (show u=Value.ref a from rx);obtain⟨_,_,vs,_,p⟩:=(show ObjOk X.prog X.w H s.heap a (.dK kvs) from I.hok a _ ea);obtain⟨o,es,ep,h1,h2,_⟩:=p;exact A1S W.kitx_dict I.kIn ⟨o,h1,h2.1⟩ e (λz=>nomatch z) h
 |@dT a kvs ea=>cases (show u=Value.ref a from rx);obtain⟨_,_,xs,_,o,es,ep,h1,h2,_⟩:=(show ObjOk X.prog X.w H s.heap a (.dT kvs) from I.hok a _ ea);exact A1S W.kitx_dict I.kIn ⟨o,h1,h2.1⟩ e (λz=>nomatch z) h
 |@ins a C dx fs ea cl ha hn htk hm=>cases (show u=Value.ref a from rx);obtain⟨mA,O,_⟩:=Nw I.hok ea;obtain⟨od,J,_⟩:=O.look;exact A1S (W.kitx_own (cl.get _) cl.hd ha hn htk hm) I.kIn J e (λz=>nomatch z) h
end
structure Room (k:Nat)(A:Around):Prop where
 hd:A.handled=none
 dp:A.depth+3*k+5<recursionLimit
 un:A.units+16*k+200<cLine
 gd:A.guards=some []
theorem Room.mono {j k:Nat}{A:Around}(r:Room k A)(h:j<=k):Room j A:=⟨r.hd,by have:=r.dp;omega,by have:=r.un;omega,r.gd⟩
theorem Room.deeper {k:Nat}{A:Around}(r:Room (k+1) A)(env:Env):Room k (A.deeper env):=
 ⟨r.hd,by have:=r.dp;show A.depth+1+3*k+5<_;omega,by have:=r.un;show A.units+3+16*k+200<_;omega,r.gd⟩
theorem Wu {A:Around}{C:Addr}{us:List Value}{kw:List (Str×Value)}:(A.under (.builtin "type.__call__" ⟨.ref C :: us,kw⟩)).depth=A.depth+1:=by first | rfl | simp[Around.under,Code.weight,Code.isCreation,Code.isGuard,Code.isCaller,Code.frames,Code.isFrame,guardIds]
theorem Wy {A:Around}{C:Addr}{us:List Value}{kw:List (Str×Value)}:(A.under (.builtin "type.__call__" ⟨.ref C :: us,kw⟩)).units=A.units+1:=by first | rfl | simp[Around.under,Code.cUnits,Code.frames,Code.isFrame]
theorem Room.make {k:Nat}{A:Around}(r:Room (k+1) A)(C:Addr)(us:List Value)(kw:List (Str×Value)):Room k (A.under (.builtin "type.__call__" ⟨.ref C :: us,kw⟩)):=
 ⟨r.hd,by have:=r.dp;rw[Wu];omega,by have:=r.un;rw[Wy];omega,(by first | exact r.gd | (simpa[Around.under,Code.isGuard,guardIds,pushGuards] using r.gd))⟩
theorem Room.depth {k:Nat}{A:Around}(r:Room k A):A.depth<recursionLimit:=by have:=r.dp;omega
theorem Room.units {k:Nat}{A:Around}(r:Room k A):A.units+64<cLine:=by have:=r.un;omega
def aE9:TA:=λ_ H Q=>Q [] H
def aq7 (ta:TE)(tr:TA):TA:=fun σ H Q=>ta σ H λx H1=>tr σ H1 λxs H2=>Q (x :: xs) H2
section
variable {X:Cx}{e:Expr}{es:List Expr}{te:TE}{t:TA}{pos:Pos}
theorem A2:PA X [] aE9:=λ_ _ _ _ H Q I h=>Calls.spliced_nil ⟨[],H,I,.nil,h⟩
theorem A0 (ha:PE X e te)(hr:PA X es t)(hs:starEach (e :: es) X.env=(false,eval e X.env) :: starEach es X.env:=by ac_nf):PA X (e :: es) (aq7 te t):=by intro pos pins s σ H Q I h;rw[hs];show wpAny _ _ (spliced ((false,eval e X.env) :: backTo pos (starEach es X.env))) _ _ s;refine A5H (thn (ha pins s σ H _ I h) λu s1 ⟨x,H1,I1,r1,q1⟩=>?_);exact thn (hr pos pins s1 σ H1 _ I1 q1) λus s2 ⟨xs,H2,I2,r2,q2⟩=>⟨x :: xs,H2,I2,.cons r1 r2,q2⟩
def aD5 (t:TA):TE:=fun σ H Q=>t σ H λxs H1=>xs.length<=sizeLine/\∀ p,H1 p=none->Q (.ref p) (upd H1 p (.tup xs))
def aD4 (t:TA):TE:=fun σ H Q=>t σ H λxs H1=>xs.length<=sizeLine/\∀ p,H1 p=none->Q (.ref p) (upd H1 p (.lst xs))
theorem Cb {x1}(h:PA X es t):PE X (.Tuple es x1 pos) (aD5 t):=by intro pins s σ H Q I hq;refine wpAny_Tuple_spliced (thn (h pos pins s σ H _ I hq) λus s1 ⟨xs,H1,I1,r,z,q⟩=>⟨by rw[<- r.length];exact z,?_⟩);have hf:H1 s1.heap.objs.size=none:=I1.hok.fresh (A05 _);refine⟨.ref s1.heap.objs.size,upd H1 s1.heap.objs.size (.tup xs),I1.laid (t':=s1.toks) (λb u e=>A06 _ e) (A05 _) ?_,rfl,q _ hf⟩;exact⟨z,us,r,⟨_,A0Z _ rfl,rfl,⟨_,rfl⟩,rfl⟩⟩
theorem Co (h:PA X es t):PE X (.List es pos) (aD4 t):=by intro pins s σ H Q I hq;refine wpAny_List_spliced (thn (h pos pins s σ H _ I hq) λus s1 ⟨xs,H1,I1,r,z,q⟩=>⟨by rw[<- r.length];exact z,?_⟩);have hf:H1 s1.heap.objs.size=none:=I1.hok.fresh (A05 _);refine⟨.ref s1.heap.objs.size,upd H1 s1.heap.objs.size (.lst xs),I1.laid (t':=s1.toks) (λb u e=>A06 _ e) (A05 _) ?_,rfl,q _ hf⟩;exact⟨z,us,0,r,A0Z _ rfl⟩
end
abbrev Sp:=List V->Hp->VK->XK->Prop
abbrev CXT:=List Env->Hp->Shared->XK->Value->Shared->Prop
structure Env0 (P:Program)(w:World)(K:W.Frag)(mg:Str->Option Value)(base:Heap)(A:Around)(outer:List Env)(s:Shared)(H:Hp):Prop where
 frames:A.frames=some outer
 mod:Mod K mg base
 bs:∀ b o,base.get? b=some o->s.heap.get? b=some o/\H b=none
 bsz:base.objs.size<=s.heap.objs.size
 funs:s.heap.FunFrames base outer
 frf:∀ b∈frs outer,H b=none
 hok:HOk P w H s.heap
 bare:AllBare s.gens
def CE (outer:List Env)(P:Program)(w:World)(H:Hp)(s:Shared)(Q:VK)(u:Value)(s':Shared):Prop:=
 ∃ v H',s'.os=s.os/\AllBare s'.gens/\Un (frs outer) [] H H' s.heap s'.heap/\HOk P w H' s'.heap/\RelV v u/\Q v H'
def CR (CX:CXT)(outer:List Env)(P:Program)(w:World)(H:Hp)(s:Shared)(Q:VK)(E:XK)(r:Result)(s':Shared):Prop:=
 match r with
 |.ok (.ret u)=>CE outer P w H s Q u s'
 |.ok _=>False
 |.error e=>CX outer H s E e s'
structure FnOk (P:Program)(w:World)(K:W.Frag)(mg:Str->Option Value)(base:Heap)(CX:CXT)(k:Nat)(f:Addr)(fd:FuncData)(ps:List Str)(sp:Sp):Prop where
 len:∀ vs H Q E,sp vs H Q E->vs.length=ps.length
 run:∀(A:Around) (outer:List Env) (s:Shared) (H:Hp) (args:Args) (us:List Value) (vs:List V) (Q:VK) (E:XK),Room k A->Env0 P w K mg base A outer s H->BindsTo s fd args (ps.zip us)->Vals vs us->sp vs H Q E ->
  codeAny (model P w) A (.call (.ref f) args) (CR CX outer P w H s Q E) s
theorem Env0.make {P:Program}{w:World}{K:W.Frag}{mg:Str->Option Value}{base:Heap}{A:Around}{outer:List Env}{s:Shared}{H:Hp}(e:Env0 P w K mg base A outer s H)(C:Addr)(us:List Value)(kw:List (Str×Value)) :
  Env0 P w K mg base (A.under (.builtin "type.__call__" ⟨.ref C :: us,kw⟩)) outer s H:=⟨by first | exact e.frames | (simpa[Around.under,Code.envs,Code.isFrame,pushEnvs] using e.frames),e.mod,e.bs,e.bsz,e.funs,e.frf,e.hok,e.bare⟩
section
variable {X:Cx}{pins:List (Addr×Obj)}{σ:St}{H:Hp}{s s':Shared}
theorem Inv.env0 (I:Inv X pins σ H s):Env0 X.prog X.w X.K X.mg X.base X.A X.stack s H:=
 ⟨I.ok.frames,I.ok.mod,I.bs,A0C I.ok.bsz I.sz,I.stack,I.stkFree,I.hok,I.bare⟩
theorem Inv.after {Q:VK}{u:Value}(I:Inv X pins σ H s)(h:CE X.stack X.prog X.w H s Q u s'):EP X pins σ Q u s':=by obtain⟨v,H',os,bare,un,hok,r,q⟩:=h;obtain⟨hh,g,d,t,os'⟩:=s';obtain rfl:os'=s.os:=os;exact⟨v,H',I.call (h':=hh) (g':=g) (d':=d) (t':=t) (ch:=[]) un hok bare (λb z=>absurd z (by simp)),r,q⟩
end
def al3 (sp:Sp)(dvs:List V)(E:XK)(t:TA):TE:=fun σ H Q=>t σ H λvs H1=>sp (vs++dvs) H1 Q E
def az9 (C:Addr)(m:Str)(sp:Sp)(dvs:List V)(E:XK)(ta:TE)(t:TA):TE:=fun σ H Q=>ta σ H λx H1=>∃ a dx fs,x = .ref a/\H1 a=some (.ins C dx fs)/\fs.lookup m=none /\
 t σ H1 λvs H2=>sp (x :: (vs++dvs)) H2 Q E
def aC6 (C:Addr)(sp:Sp)(dvs:List V)(E:XK)(t:TA):TE:=fun σ H Q=>t σ H λvs H1=>∀ x dx,H1 x=none->H1 dx=none->dx≠x ->
 sp (.ref x :: (vs++dvs)) (upd (upd H1 dx (.own x)) x (.ins C dx [])) (λv H2=>v = .non/\Q (.ref x) H2) E
def Binds (K:W.Frag)(fd:FuncData)(ps:List Str)(ds:List Value):Prop:=
 ∀(s:Shared) (us:List Value),K.In s.heap->(us++ds).length=ps.length->BindsTo s fd ⟨us,[]⟩ (ps.zip (us++ds))
theorem Binds.all {K:W.Frag}{fd:FuncData}{ps:List Str}(h:∀ us:List Value,us.length=ps.length->bindArgs fd ⟨us,[]⟩=pure (ps.zip us)):Binds K fd ps []:=λs us _ hl=>by rw[A17] at hl ⊢;exact .of_eq (h us hl)
def Mz (CX:CXT)(X:Cx)(E:XK):Prop:=∀(pins:List (Addr×Obj)) (σ:St) (H:Hp) (s:Shared) (e:Value) (s':Shared),Inv X pins σ H s->CX X.stack H s E e s'->X.xe e s'
section
variable {X:Cx}{CX:CXT}{k:Nat}{f C:Addr}{fd:FuncData}{ps:List Str}{sp:Sp}{dvs:List V}{ds:List Value}{E:XK}{x m:Str}{p pos apos:Pos}{e o:Expr}{es:List Expr}{ta:TE}{t:TA}
theorem ab3 {pins:List (Addr×Obj)}{σ:St}{H:Hp}{s:Shared}{Q:VK}{us:List Value}{vs:List V}(F:FnOk X.prog X.w X.K X.mg X.base CX k f fd ps sp)(hr:Room k X.A)(hb:Binds X.K fd ps ds)(hd:Vals dvs ds)(hx:Mz CX X E)
  (I:Inv X pins σ H s) (r:Vals vs us) (h:sp (vs++dvs) H Q E):wpAny (model X.prog X.w) X.A (call (.ref f) us) (EP X pins σ Q) X.xe s:=by
 have r2:Vals (vs++dvs) (us++ds):=r.append hd;have hl:(us++ds).length=ps.length:=by rw[<- r2.length];exact F.len _ _ _ _ h
 refine wpAny_call (codeAny_mono (F.run X.A X.stack s H ⟨us,[]⟩ (us++ds) (vs++dvs) Q E hr I.env0 (hb s us I.kIn hl) r2 h) λr s' hq=>?_)
 cases r with
 |error e=>exact hx pins σ H s e s' I hq
 |ok fl=>
   cases fl with
   |ret u=>exact I.after hq
   |next=>exact False.elim hq
   |brk=>exact False.elim hq
   |cont=>exact False.elim hq
theorem ai5 (F:FnOk X.prog X.w X.K X.mg X.base CX k f fd ps sp)(hr:Room k X.A)(hg:Gl X x)(hm:X.mg x=some (.ref f))(hk:W.keepIn X.K (.ref f)=true)(hb:Binds X.K fd ps ds)(hd:Vals dvs ds)(hx:Mz CX X E)
  (ha:PA X (e :: es) t) (hdb:(x==("__debug__":Str))=false:=by decide) (he:starEach (e :: es) X.env=(false,eval e X.env) :: starEach es X.env:=by ac_nf) (hpl:(backTo pos (starEach es X.env)).any (·.1)=false:=by ac_nf) :
  PE X (.Call (.Name x p) (e :: es) [] pos) (al3 sp dvs E t):=by
 intro pins s σ H Q I h;refine A49 (T0 I hg hm ?_ hdb);refine A5I (h₀:=X.base) I.ok.mod.kin hk (thn (ha pos pins s σ H _ I h) λus s1 ⟨vs,H1,I1,r,q⟩=>⟨I1.kIn,?_⟩) he hpl;exact ab3 F hr hb hd hx I1 r q
theorem ah2 {pl:Sem Bool}(he:PE X o ta)(c:Cls X.K C)(hm:ay6 X.K C m f)(F:FnOk X.prog X.w X.K X.mg X.base CX k f fd ps sp)(hr:Room k X.A)(hb:Binds X.K fd ps ds)(hd:Vals dvs ds)(hx:Mz CX X E)(ha:PA X (e :: es) t)
  (hst:starEach (e :: es) X.env=(false,eval e X.env) :: starEach es X.env:=by ac_nf) (hpl:(backTo pos (starEach es X.env)).any (·.1)=false:=by ac_nf)
  (ht:eval (.Call (.Attribute o m apos) (e :: es) [] pos) X.env=(do
   let ov <- eval o X.env
   standAt apos.atName
   let (f,first) <- holding [ov] (getMethod ov m pl)
   callWith pos f first (backTo pos (starEach (e :: es) X.env)) (backToKw pos (keywordEach [] X.env))):=by ac_nf) :
  PE X (.Call (.Attribute o m apos) (e :: es) [] pos) (az9 C m sp dvs E ta t):=by
 intro pins s σ H Q I h;refine W.methodCall_KW (pl:=pl) (thn (he pins s σ H _ I h) λu s1 ⟨x,H1,I1,rx,a,dx,fs,ex,ea,l,q⟩=>?_) ht;subst ex;obtain rfl:u=Value.ref a:=rx;refine X1 I1 ea c hm l ?_;refine A5I (first:=[.ref a]) (h₀:=X.base) I.ok.mod.kin hm.kp (thn (ha pos pins s1 σ H1 _ I1 q) λus s2 ⟨vs,H2,I2,r,q2⟩=>⟨I2.kIn,?_⟩) hst hpl
 exact ab3 (us:=.ref a :: us) (vs:=.ref a :: vs) F hr hb hd hx I2 (.cons rfl r) q2
structure Mk (K:W.Frag)(C f:Addr):Prop where
 makes:W.makesIn K C=true
 init:W.findIn K (.ref C) "__init__" = some (some (.ref f))
 fn:W.isFn K (.ref f)=true
 kp:W.keepIn K (.ref C)=true
theorem a69 {pins:List (Addr×Obj)}{σ:St}{H:Hp}{s:Shared}{Q:VK}{us:List Value}{vs:List V}(M:Mk X.K C f)(F:FnOk X.prog X.w X.K X.mg X.base CX k f fd ps sp)(hr:Room (k+1) X.A)(hb:Binds X.K fd ps ds)(hd:Vals dvs ds)
  (hx:Mz CX X E) (I:Inv X pins σ H s) (r:Vals vs us)
  (h:∀ x dx,H x=none->H dx=none->dx≠x->sp (.ref x :: (vs++dvs)) (upd (upd H dx (.own x)) x (.ins C dx [])) (λv H2=>v = .non/\Q (.ref x) H2) E) :
  wpAny (model X.prog X.w) X.A (call (.ref C) us) (EP X pins σ Q) X.xe s:=by
 have hq:=h (s.heap.objs.size+1) s.heap.objs.size (I.hok.fresh (Nat.le_succ _)) (I.hok.fresh (A05 _)) (A19 (A3W _));have I2:=Inv.made (C:=C) I;have r2:Vals (V.ref (s.heap.objs.size+1) :: (vs++dvs)) (Value.ref (s.heap.objs.size+1) :: (us++ds)):=.cons rfl (r.append hd)
 have hl:(Value.ref (s.heap.objs.size+1) :: us++ds).length=ps.length:=by have e:=r2.length;rw[F.len _ _ _ _ hq] at e;exact e.symm
 refine wpAny_call (a63 (f:=f) I.kIn M.makes M.init (A10.mp M.fn) (codeAny_mono (F.run _ X.stack _ _ ⟨Value.ref (s.heap.objs.size+1) :: us,[]⟩ (Value.ref (s.heap.objs.size+1) :: (us++ds)) _ _ E (hr.make C us [])
  (I2.env0.make C us []) (hb _ (Value.ref (s.heap.objs.size+1) :: us) I2.kIn hl) r2 hq) λr s' hq'=>?_))
 cases r with
 |error e=>exact hx pins σ _ _ e s' I2 hq'
 |ok fl=>
   cases fl with
   |ret u=>obtain⟨v,H',I3,rv,ev,q3⟩:=I2.after hq';subst ev;exact⟨rv,⟨V.ref (s.heap.objs.size+1),H',I3,rfl,q3⟩⟩
   |next=>exact False.elim hq'
   |brk=>exact False.elim hq'
   |cont=>exact False.elim hq'
theorem ag0 (M:Mk X.K C f)(F:FnOk X.prog X.w X.K X.mg X.base CX k f fd ps sp)(hr:Room (k+1) X.A)(hg:Gl X x)(hm:X.mg x=some (.ref C))(hb:Binds X.K fd ps ds)(hd:Vals dvs ds)(hx:Mz CX X E)
  (ha:PA X (e :: es) t) (hdb:(x==("__debug__":Str))=false:=by decide) (he:starEach (e :: es) X.env=(false,eval e X.env) :: starEach es X.env:=by ac_nf) (hpl:(backTo pos (starEach es X.env)).any (·.1)=false:=by ac_nf) :
  PE X (.Call (.Name x p) (e :: es) [] pos) (aC6 C sp dvs E t):=by
 intro pins s σ H Q I h;refine A49 (T0 I hg hm ?_ hdb);refine A5I (h₀:=X.base) I.ok.mod.kin M.kp (thn (ha pos pins s σ H _ I h) λus s1 ⟨vs,H1,I1,r,q⟩=>⟨I1.kIn,?_⟩) he hpl;exact a69 M F hr hb hd hx I1 r q
end
section
variable {X:Cx}{CX:CXT}{k:Nat}{f C:Addr}{fd:FuncData}{ps ks:List Str}{sp:Sp}{E:XK}{x m:Str}{p pos apos kpos:Pos}{e o:Expr}{es:List Expr}{kws:List Keyword}{te ta:TE}{t tk:TA}{nm:Option Str}
variable {g:List Value->List Value->List Value}{gV:List V->List V->List V}
end
structure Aq (N P:List Str)(sc:Scope):Prop where
 kind:sc.kind = .function
 co:sc.isCoroutine=false
 gen:sc.isGenerator=false
 nd:N.Nodup
 pre:N.take P.length=P
 par:∀ x∈P,sc.names.lookup x=some .local\/sc.names.lookup x=some .cell
 nofree:∀ y∈sc.names,y.2 ≠ .free
theorem Qc {kindOf:Str->Option NameKind}{x:Str}:∀ {binds:List (Str×Value)} {m:Str->Option Value},(∀ v,(x,v)∉binds)->bindL kindOf binds m x=m x
 | [],_,_=>rfl
 | (n,v) :: r,m,h=>by
   unfold bindL;rw[Qc λw hw=>h w (A0E _ hw)]
   split
   . have:x≠n:=by rintro rfl;exact h v A0S
     simp[this]
   rfl
theorem Px {kindOf:Str->Option NameKind}{x:Str}:∀ {binds:List (Str×Value)} {m:Str->Option Value},(∀ v,(x,v)∉binds)->bindC kindOf binds m x=m x
 | [],_,_=>rfl
 | (n,v) :: r,m,h=>by
   unfold bindC;rw[Px λw hw=>h w (A0E _ hw)]
   split
   . rfl
   have:x≠n:=by rintro rfl;exact h v A0S
   simp[this]
theorem Qu {kindOf:Str->Option NameKind} {x:Str} {v:Value}:∀ {P:List Str} {vs:List Value} {i:Nat} {m:Str->Option Value},P.Nodup->P[i]? = some x->vs[i]? = some v->kindOf x=some .local ->
  bindL kindOf (P.zip vs) m x=some v
 | [],_,_,_,_,h,_,_=>by simp at h
 |_ :: _,[],_,_,_,_,h,_=>by simp at h
 |p :: P,w :: vs,0,m,nd,h1,h2,hk=>by simp at h1 h2;subst h1;subst h2;show bindL kindOf ((p,w) :: P.zip vs) m p=_;unfold bindL;rw[Qc λv hv=>(A0O.mp nd).1 (A4V hv).1,A0Y hk];simp
 |p :: P,w :: vs,i+1,m,nd,h1,h2,hk=>by show bindL kindOf ((p,w) :: P.zip vs) m x=_;unfold bindL;exact Qu (i:=i) (List.nodup_cons.mp nd).2 (by simpa using h1) (by simpa using h2) hk
theorem Re {kindOf:Str->Option NameKind} {x:Str} {v:Value}:∀ {P:List Str} {vs:List Value} {i:Nat} {m:Str->Option Value},P.Nodup->P[i]? = some x->vs[i]? = some v->kindOf x≠some .local ->
  bindC kindOf (P.zip vs) m x=some v
 | [],_,_,_,_,h,_,_=>by simp at h
 |_ :: _,[],_,_,_,_,h,_=>by simp at h
 |p :: P,w :: vs,0,m,nd,h1,h2,hk=>by simp at h1 h2;subst h1;subst h2;show bindC kindOf ((p,w) :: P.zip vs) m p=_;unfold bindC;rw[Px λv hv=>(A0O.mp nd).1 (A4V hv).1,A0P hk];simp
 |p :: P,w :: vs,i+1,m,nd,h1,h2,hk=>by show bindC kindOf ((p,w) :: P.zip vs) m x=_;unfold bindC;exact Re (i:=i) (List.nodup_cons.mp nd).2 (by simpa using h1) (by simpa using h2) hk
def Qk (N:List Str)(vs:List V):St:=vs.map some++List.replicate (N.length-vs.length) none
def am1 (CX:CXT)(P:Program)(w:World)(K:W.Frag)(mg:Str->Option Value)(base:Heap)(N:List Str)(qual:Str)(scope:Scope)(f:Addr)(cd:Value)(A:Around)(outer:List Env)(s:Shared)(H:Hp)(E:XK):Cx where
 prog:=P
 w:=w
 K:=K
 mg:=mg
 base:=base
 A:=A.deeper (envOfC qual scope s.heap.objs.size f cd)
 N:=N
 s₀:=s
 H₀:=H
 env:=envOfC qual scope s.heap.objs.size f cd
 outer:=outer
 stack:=envOfC qual scope s.heap.objs.size f cd :: outer
 ex:=[]
 calm:=true
 fn:=λ_=>true
 pn:=[]
 xe:=λe s'=>wpAny (model P w) (A.deeper (envOfC qual scope s.heap.objs.size f cd)) (leaving (envOfC qual scope s.heap.objs.size f cd) e) (λ_ s''=>CX outer H s E e s'') (λe' s''=>CX outer H s E e' s'') s'
theorem Tt {sc:Scope}{n:Nat}{x:Str}(h:sc.names.lookup x=some .cell):∃ c,(cellsFrom n sc.names []).lookup x=some c:=by have q:=W.cellsFrom_some sc.names n [] (.inl h);exact Option.isSome_iff_exists.mp q
theorem Ya {CX:CXT}{P:Program}{w:World}{K:W.Frag}{mg:Str->Option Value}{base:Heap}{N ps:List Str}{qual:Str}{scope:Scope}{f:Addr}{cd:Value}{A:Around}{outer:List Env}{s s1:Shared}{H:Hp}{E:XK}{us:List Value}{vs:List V}
  (S:Aq N ps scope) (hd:A.handled=none) (e0:Env0 P w K mg base A outer s H) (hl:vs.length=ps.length) (r:Vals vs us)
  (x:InCallC s s.heap.objs.size (bindL (envOfC qual scope s.heap.objs.size f cd).kindOf (ps.zip us) λ_=>none) (cellsFrom (s.heap.objs.size+1) scope.names []) (bindC (envOfC qual scope s.heap.objs.size f cd).kindOf (ps.zip us) λ_=>none) s1) :
  Inv (am1 CX P w K mg base N qual scope f cd A outer s H E) [] (Qk N vs) H s1:=by
 have hpl:ps.length<=N.length:=by have:=congrArg List.length S.pre;rw[A0J] at this;omega
 obtain⟨h1,tk,rfl,hk⟩:=x.done;have noA:∀ b:Addr,b∉(am1 CX P w K mg base N qual scope f cd A outer s H E).ex:=λb z=>absurd (show b∈([]:List Addr) from z) (by simp)
 refine⟨⟨e0.mod,S.kind,rfl,rfl,A05 _,λy z c h1 h2=>?_,λy hy=>?_,λy c _ h=>?_,λ_=>hd,Around.frames_deeper e0.frames,.inr ⟨rfl,rfl⟩,λb z=>absurd z (noA b),e0.bs,e0.bsz,λb _ _=>noA b,λb z=>absurd z (noA b),e0.funs,e0.frf⟩,
  rfl,e0.bare,Un.kept hk,⟨_,x.toInCall.ns,λi y v h1 h2 h3=>?_⟩,λy c h=>⟨_,x.cell y c h⟩,e0.hok.fresh (Nat.le_refl _),λy c h=>?_,λp hp=>absurd (show p∈([]:List (Addr×Obj)) from hp) (by simp),e0.hok.kept hk,?_⟩
 . exact name_of_addr x.apart (A3K h1) (A3K h2)
 . have hy:scope.names.lookup y=some .cell\/scope.names.lookup y=some .free:=hy;rcases hy with hy|hy
   . exact Tt hy
   exact absurd rfl (S.nofree _ (A3K hy))
 . exact A1F (x.above y c (A3K h))
 . have hi:i<vs.length:=by
    unfold Qk at h2
    by_cases hi:i<vs.length
    . exact hi
    rw[List.getElem?_append_right (by simpa using hi)] at h2;rw[A4L] at h2
    split at h2<;>cases h2
   have ha:vs[i]? = some v:=by
    unfold Qk at h2;rw[List.getElem?_append_left (by simpa using hi),List.getElem?_map] at h2
    cases e:vs[i]? with
    |none=>rw[e] at h2;cases h2
    |some a=>rw[e] at h2;cases h2;rfl
   obtain⟨u,hu,rv⟩:=r.get ha
   have hp:ps[i]? = some y:=by rw[<- S.pre,A2D ∅];exact h1
   have ndP:ps.Nodup:=by rw[<- S.pre];exact S.nd.sublist (List.take_sublist _ _)
   refine⟨u,rv,?_⟩;rcases S.par y (A03 hp) with k|k
   . exact .inl ⟨k,Qu ndP hp hu k⟩
   obtain⟨c,e⟩:=Tt (n:=s.heap.objs.size+1) k;refine .inr ⟨.inl k,c,e,?_⟩;have q:=x.cell y c e;rw[Re ndP hp hu (by show scope.names.lookup y≠_;rw[k];decide)] at q;exact q
 . exact e0.hok.fresh (A1F (x.above y c (A3K h)))
 unfold Qk;show _=N.length;rw[A08,A00,A2S];omega
theorem aD0 {CX:CXT}{P:Program}{w:World}{K:W.Frag}{mg:Str->Option Value}{base:Heap}{k:Nat}{f:Addr}{name qual:Str}{params:Arguments}{body:List Stmt}{scope:Scope}{dV kV doc pm cdv ct oc:Value}{an od:Option Addr}
  {osl:Array (Option Value)} {N ps:List Str} {sp:Sp} (lk:K.lookup f=some ⟨oc,od,.func (W.fnOf name qual params body scope dV kV doc pm an cdv ct),osl⟩) (hcd:W.codeIn K cdv qual=true) (S:Aq N ps scope)
  (len:∀ vs H Q E,sp vs H Q E->vs.length=ps.length)
  (hbody:∀(A:Around) (outer:List Env) (s:Shared) (H:Hp) (vs:List V) (Q:VK) (E:XK),Room k (A.deeper (envOfC qual scope s.heap.objs.size f cdv))->sp vs H Q E ->
   ∃ t,PSs (am1 CX P w K mg base N qual scope f cdv A outer s H E) body t/\t {nx:=λ_ H'=>Q .non H',rt:=Q} (Qk N vs) H) :
  FnOk P w K mg base CX (k+1) f (W.fnOf name qual params body scope dV kV doc pm an cdv ct) ps sp:=by
 refine⟨len,λA outer s H args us vs Q E hr e0 hb r hsp=>?_⟩;have hl:=len _ _ _ _ hsp;have KX:K.In s.heap:=e0.mod.kin.keeps λb o e=>(e0.bs b o e).1;have lim:s.heap.NoLimit:=e0.mod.nolimit.keeps λb o e=>(e0.bs b o e).1
 have hkind:∀ y∈ps.zip us,scope.names.lookup y.1=some .local\/(scope.names.lookup y.1=some .cell/\((cellsFrom (s.heap.objs.size+1) scope.names []).lookup y.1).isSome=true):=λ⟨n,v⟩ hy=>by
  rcases S.par n (A4V hy).1 with q|q
  . exact .inl q
  exact .inr ⟨q,W.cellsFrom_some _ _ _ (.inl q)⟩
 refine codeAny_call_function hr.depth (KX _ _ lk) rfl S.co S.gen rfl (W.codeRec_of KX hcd) (hb _ _ _ _ ?_);refine wpAny_newFunctionEnv_cells S.kind hkind λenv he s1 x=>?_;subst he;refine⟨lim.keeps x.toInCall.keep,codeAny_func ?_⟩;obtain⟨t,ht,hq⟩:=hbody A outer s H vs Q E (hr.deeper _) hsp;have I:Inv (am1 CX P w K mg base N qual scope f cdv A outer s H E) [] (Qk N vs) H s1:=Ya S hr.hd e0 hl r x;refine A2V (ht [] s1 (Qk N vs) H _ I hq) (λfl s' hs=>?_) λe s' hs=>hs
 have fin:∀ {σ':St} {H':Hp} {v:V} {u:Value},Inv (am1 CX P w K mg base N qual scope f cdv A outer s H E) [] σ' H' s'->RelV v u->Q v H'->CE outer P w H s Q u s':=
  fun {σ' H' v u} J rv q=>⟨v,H',J.os,J.bare,J.base,J.hok,rv,q⟩
 cases fl with
 |ret u=>obtain⟨v,σ',H',J,rv,q⟩:=hs;exact fin J rv q
 |next=>obtain⟨σ',H',J,q⟩:=hs;exact fin (v:=V.non) (u:=Value.none) J rfl q
 |brk=>obtain⟨_,_,_,q⟩:=hs;exact False.elim q
 |cont=>obtain⟨_,_,_,q⟩:=hs;exact False.elim q
section
variable {X:Cx}{x:Str}{p pos:Pos}{e:Expr}{es:List Expr}{t:TA}{id T:String}{r:List V->Hp->VK->Prop}
def tCB (r:List V->Hp->VK->Prop)(t:TA):TE:=fun σ H Q=>t σ H λvs H1=>r vs H1 Q
theorem Aa (hc:CallR X (.builtin id) r)(hg:Gl X x)(hm:X.mg x=none)(hv:bootBuiltins x=some (.builtin id))(ha:PA X (e :: es) t)(hn:x ≠ "__name__":=by decide)(hdb:(x==("__debug__":Str))=false:=by decide)
  (he:starEach (e :: es) X.env=(false,eval e X.env) :: starEach es X.env:=by ac_nf) (hpl:(backTo pos (starEach es X.env)).any (·.1)=false:=by ac_nf):PE X (.Call (.Name x p) (e :: es) [] pos) (tCB r t):=by
 intro pins s σ H Q I h;refine A49 (Mx I hg hm hv ?_ hn hdb);exact PyProof.Rows.callWith_builtin1 (thn (ha pos pins s σ H _ I h) λus s1 ⟨vs,H1,I1,r1,q1⟩=>hc pins s1 σ H1 vs us Q I1 r1 q1) he hpl
theorem Dx (hc:CallR X (.type T) r)(hg:Gl X x)(hm:X.mg x=none)(hv:bootBuiltins x=some (.type T))(ha:PA X (e :: es) t)(hn:x ≠ "__name__":=by decide)(hdb:(x==("__debug__":Str))=false:=by decide)
  (he:starEach (e :: es) X.env=(false,eval e X.env) :: starEach es X.env:=by ac_nf) (hpl:(backTo pos (starEach es X.env)).any (·.1)=false:=by ac_nf):PE X (.Call (.Name x p) (e :: es) [] pos) (tCB r t):=by
 intro pins s σ H Q I h;refine A49 (Mx I hg hm hv ?_ hn hdb);exact A3A (thn (ha pos pins s σ H _ I h) λus s1 ⟨vs,H1,I1,r1,q1⟩=>hc pins s1 σ H1 vs us Q I1 r1 q1) he hpl
end
end L2
namespace HT
open PySem PyProof.Rows
section
open PySem.SeqAt
open PySem.AutoSeq1 (wpAny_loadPart')
open PySem.MeetsSeq PySem.MeetsSeq2 PySem.MeetsSeq3
end
section
variable {prog:Program}{w:World}{A:Around}{E:Value->Shared->Prop}{s:Shared}
theorem cat_tup {t b:Addr}{vs ws:List Value}{Q:Value->Shared->Prop}(ht:IsTup s.heap t vs.toArray)(hb:IsTup s.heap b ws.toArray)(hv:vs≠[])
  (h1:ws=[]->Q (.ref t) s) (h2:ws≠[]->Q (.ref s.heap.objs.size) {s with heap:=s.heap.push {cls:=.type "tuple",data:=.seq (vs++ws).toArray}})
  (hsz:vs.length+ws.length<=sizeLine):wpAny (model prog w) A (binaryOp .Add (.ref t) (.ref b)) Q E s:=by
 obtain⟨⟨cls,dd,data,sl⟩,ho,hc,n,hd⟩:=id ht;obtain⟨⟨cls2,dd2,data2,sl2⟩,ho2,hc2,n2,hd2⟩:=id hb;simp only at hc hd hc2 hd2;subst hc hd hc2 hd2;have e:vs.toArray++ws.toArray=(vs++ws).toArray:=by simp
 by_cases hw:ws=[]
 . exact concat_meets ⟨_,ho,rfl⟩ ⟨_,ho2,rfl⟩ noFill_tuple_add seq_tuple_add PySem.F.slot_tuple_add PySem.F.entry_tuple_add (PySem.F.args_tuple_add_2 _ _)
    (tuple_addW1 t b vs.toArray ws.toArray n n2 dd dd2 sl sl2 (by simpa using hv) (by simp[hw])) ⟨ho,ho2,h1 hw⟩
 refine concat_meets ⟨_,ho,rfl⟩ ⟨_,ho2,rfl⟩ noFill_tuple_add seq_tuple_add PySem.F.slot_tuple_add PySem.F.entry_tuple_add (PySem.F.args_tuple_add_2 _ _)
  (tuple_addW2 t b vs.toArray ws.toArray n n2 dd dd2 sl sl2 (by simpa using hv) (by simpa using hw) (by rw[List.size_toArray,List.size_toArray];exact hsz)) ⟨ho,ho2,?_⟩
 rw[e];exact h2 hw
def sIx (n d:Nat):Option Int->Nat
 |none=>d
 |some v=>if v<0 then(v+(n:Int)).toNat else min v.toNat n
theorem an7 (n d:Nat)(hd:d<=n)(o:Option Int):sIx n d o<=n:=by
 cases o with
 |none=>exact hd
 |some v=>
   show(if v<0 then(v+(n:Int)).toNat else min v.toNat n)<=n
   by_cases hv:v<0
   . rw[A0Y hv];omega
   rw[A0P hv];exact A3X _ _
theorem Zk (v:Int)(n d:Nat):(if v<0 then max (v+(n:Int)) 0 else min v (n:Int))=((sIx n d (some v):Nat):Int):=by
 show(if v<0 then max (v+(n:Int)) 0 else min v (n:Int))=(((if v<0 then(v+(n:Int)).toNat else min v.toNat n):Nat):Int)
 by_cases hv:v<0
 . simp only[if_pos hv];omega
 simp only[if_neg hv];omega
theorem X4 (lo hi:Option Int)(n:Nat):Builtin.Slice.sliceAdjust lo hi 1 (n:Int)=(((sIx n 0 lo:Nat):Int),((sIx n n hi:Nat):Int)):=by
 have h1:¬ ((1:Int)<0):=by omega
 unfold Builtin.Slice.sliceAdjust;simp only[h1,if_false];refine Prod.ext ?_ ?_
 . cases lo with
   |none=>rfl
   |some v=>exact Zk v n 0
 cases hi with
 |none=>rfl
 |some v=>exact Zk v n n
theorem Wh (i j:Nat):Builtin.Slice.slicePlaces (i:Int) (j:Int) 1=j-i:=by
 unfold Builtin.Slice.slicePlaces;have h1:(1:Int)>0:=by omega
 simp only[h1,if_true,Int.ediv_one]
 split<;>omega
theorem Mt {v:Value}{o:Option Int}{Q:Option Int->Shared->Prop}(p:IsPart v o)(h:Q o s):wpAny (model prog w) A (Builtin.Slice.slicePartIndex v) Q E s:=by
 cases p with
 |none=>exact slicePart_none h
 |int i t=>exact slicePart_int h
theorem sliceApplied_gen {sl:Addr}{vl vu:Value}{lo hi:Option Int}{n:Nat}{Q:Int×Int×Nat->Shared->Prop}(hs:s.heap.IsSliceOf sl vl vu .none)(pl:IsPart vl lo)(pu:IsPart vu hi)
  (h:Q (((sIx n 0 lo:Nat):Int),1,sIx n n hi-sIx n 0 lo) s):wpAny (model prog w) A (Builtin.Slice.sliceApplied (.ref sl) (pure (n:Int))) Q E s:=by
 obtain⟨os,hos,hcs,hds⟩:=id hs;unfold Builtin.Slice.sliceApplied Builtin.Slice.sliceFields;refine A02 (A02 (wpAny_field hos hds (x:=vl) rfl (A02 (wpAny_field hos hds (x:=vu) rfl (A02 (wpAny_field hos hds (x:=.none) rfl (A09 ?_)))))));refine A02 (slicePart_none ?_);show wpAny _ _ (if((1:Int)==0)=true then _ else _) _ _ s
 rw[A0P nofun];refine A02 (Mt pl (A02 (Mt pu (A02 (A09 ?_)))));show wpAny _ _ (match Builtin.Slice.sliceAdjust lo hi 1 (n:Int) with | (lo,hi)=>pure (lo,(1:Int),Builtin.Slice.slicePlaces lo hi 1)) _ _ s
 rw[X4 lo hi n];show wpAny _ _ (pure (((sIx n 0 lo:Nat):Int),(1:Int),Builtin.Slice.slicePlaces ((sIx n 0 lo:Nat):Int) ((sIx n n hi:Nat):Int) 1)) _ _ s;rw[Wh];exact A09 h
theorem a50 (xs:Array Value)(i k:Nat):((List.range k).filterMap λ(m:Nat)=>xs[((i:Int)+(m:Int)*1).toNat]?).toArray=((xs.toList.drop i).take k).toArray:=by
 have e:(λ(m:Nat)=>xs[((i:Int)+(m:Int)*1).toNat]?)=λm=>xs[i+m]?:=by
  funext m;have:((i:Int)+(m:Int)*1).toNat=i+m:=by omega
  rw[this]
 rw[e];have:=pick_run xs i k;rw[List.filterMap_map] at this;have e2:((λx=>xs[x]?)∘λx=>i+x)=λm=>xs[i+m]?:=rfl;rw[e2] at this;rw[this]
theorem getItem_tuple_cut {t sl:Addr}{items:Array Value}{vl vu:Value}{lo hi:Option Int}{Q:Value->Shared->Prop}(ht:IsTup s.heap t items)(hs:s.heap.IsSliceOf sl vl vu .none)(pl:IsPart vl lo)(pu:IsPart vu hi)
  (hw:¬ (sIx items.size 0 lo=0/\sIx items.size items.size hi=items.size))
  (h:Q (.ref s.heap.objs.size) {s with heap:=s.heap.push {cls:=.type "tuple",data:=.seq ((items.toList.drop (sIx items.size 0 lo)).take (sIx items.size items.size hi-sIx items.size 0 lo)).toArray}})
  (hsz:items.size<=sizeLine):wpAny (model prog w) A (getItem (.ref t) (.ref sl)) Q E s:=by
 have htake:sizeOk (.seq ((items.toList.drop (sIx items.size 0 lo)).take (sIx items.size items.size hi-sIx items.size 0 lo)).toArray):=by show((items.toList.drop (sIx items.size 0 lo)).take (sIx items.size items.size hi-sIx items.size 0 lo)).toArray.size<=sizeLine;rw[A0X,A0J,A1K,A11];omega
 have hj:sIx items.size items.size hi<=items.size:=an7 _ _ (A05 _) hi;obtain⟨os,hos,hcs,hds⟩:=id hs;have hTs:s.TypeIs (.ref sl) "slice":=⟨os,hos,hcs⟩;unfold getItem
 try with_reducible refine A2H ?_
 first | refine A02 (A09 ?_) | skip
 refine A02 (wpAny_sequenceKey ht.typeIs nofun ?_)
 refine A02 (A30 (name:=Str.ofString "__getitem__") ht.typeIs A2W
  (A2P A2W ht.typeIs entry_tuple_getitem ?_ (args_tuple_getitem _ _)))
 show wpAny _ _ (Builtin.Tuple.tupleItemsOf (.ref t) >>= _) _ _ s;refine A02 (tupleItemsOf_ ht ?_);refine A02 (A4W hTs ?_);rw[A0Y nofun];refine A02 (sliceApplied_gen hs pl pu ?_)
 have hno:¬ ((((sIx items.size 0 lo:Nat):Int)==0&&(1:Int)==1&&(sIx items.size items.size hi-sIx items.size 0 lo)==items.size)=true):=by intro q;rw[A1L,A1L] at q;have q1:((sIx items.size 0 lo:Nat):Int)=0:=eq_of_beq q.1.1;have q2:sIx items.size items.size hi-sIx items.size 0 lo=items.size:=eq_of_beq q.2;exact hw ⟨by omega,by omega⟩
 show wpAny _ _ (if(((sIx items.size 0 lo:Nat):Int)==0&&(1:Int)==1&&(sIx items.size items.size hi-sIx items.size 0 lo)==items.size)=true then _ else _) _ _ s
 rw[A0P hno,a50]
 first
  |exact A02 (m:=Builtin.Tuple.tupleExact _) (A2X (A09 ⟨_,rfl,A09 h⟩) htake)
  |exact A02 (m:=Builtin.Tuple.tupleExact _) (A2X (A02 (A09 (A09 ⟨_,rfl,A09 h⟩))) htake)
  |exact A02 (A02 (m:=Builtin.Tuple.tupleExact _) (A2X (A09 (A09 ⟨_,rfl,A09 h⟩)) htake))
  |exact A02 (A02 (m:=Builtin.Tuple.tupleExact _) (A2X (A09 ⟨_,rfl,A09 h⟩) htake))
end
end HT
namespace L2
open PySem PySem.Spec PyProof.Rows
abbrev TO:=St->Hp->(Option Int->Hp->Prop)->Prop
def PO (X:Cx)(e:Option Expr)(t:TO):Prop:=
 ∀(pins:List (Addr×Obj)) (s:Shared) (σ:St) (H:Hp) (Q:Option Int->Hp->Prop),Inv X pins σ H s->t σ H Q ->
  wpAny (model X.prog X.w) X.A (evalPart e X.env) (λu s'=>∃ o H',Inv X pins σ H' s'/\IsPart u o/\Q o H') X.xe s
def Yo:TO:=λ_ H Q=>Q none H
def ax7 (t:TE):TO:=fun σ H Q=>t σ H λx H1=>∃ i,x = .int i/\Q (some i) H1
section
variable {X:Cx}{e:Expr}{te:TE}{lo hi:Option Expr}{tl th:TO}{pos p2:Pos}
theorem Ds:PO X none Yo:=by intro pins s σ H Q I h;rw[evalPart_none];exact A09 ⟨none,H,I,.none,h⟩
theorem Be (h:PE X e te):PO X (some e) (ax7 te):=by intro pins s σ H Q I hw;rw[evalPart_some];refine thn (h pins s σ H _ I hw) λu s1 ⟨x,H1,I1,r1,q1⟩=>?_;obtain⟨i,rfl,q⟩:=q1;obtain⟨t,rfl⟩:=r1;exact⟨some i,H1,I1,.int i t,q⟩
def SlR (X:Cx)(r:V->Option Int->Option Int->Hp->VK->Prop):Prop:=
 ∀(pins:List (Addr×Obj)) (s:Shared) (σ:St) (H:Hp) (x:V) (v vl vu:Value) (lo hi:Option Int) (sl:Addr) (Q:VK),Inv X pins σ H s->RelV x v->s.heap.IsSliceOf sl vl vu .none->IsPart vl lo->IsPart vu hi->r x lo hi H Q ->
  ∃ T id,typeLookup (.type T) "__getitem__" = pure (some (.builtin id))/\s.TypeIs v T/\wpAny (model X.prog X.w) X.A (getItem v (.ref sl)) (EP X pins σ Q) X.xe s
theorem SlR.or {r r':V->Option Int->Option Int->Hp->VK->Prop}(h:SlR X r)(h':SlR X r'):SlR X (λx lo hi H Q=>r x lo hi H Q\/r' x lo hi H Q):=by
 intro pins s σ H x v vl vu lo hi sl Q I rx hs pl pu q;rcases q with q|q
 . exact h pins s σ H x v vl vu lo hi sl Q I rx hs pl pu q
 exact h' pins s σ H x v vl vu lo hi sl Q I rx hs pl pu q
def tSl (r:V->Option Int->Option Int->Hp->VK->Prop)(te:TE)(tl th:TO):TE:=fun σ H Q=>te σ H λx H1=>tl σ H1 λl H2=>th σ H2 λu H3=>r x l u H3 Q
theorem Bc {r:V->Option Int->Option Int->Hp->VK->Prop}(hr:SlR X r)(he:PE X e te)(hl:PO X lo tl)(hu:PO X hi th):PE X (.Subscript e (.Slice lo hi none p2) pos) (tSl r te tl th):=by
 intro pins s σ H Q I h;refine Subscript_ (thn (he pins s σ H _ I h) λv s1 ⟨x,H1,I1,r1,q1⟩=>?_);refine wpAny_Slice (thn (hl pins s1 σ H1 _ I1 q1) λvl s2 ⟨l,H2,I2,pl,q2⟩=>thn (hu pins s2 σ H2 _ I2 q2) λvu s3 ⟨u,H3,I3,pu,q3⟩=>?_);rw[evalPart_none];refine A09 ?_;have I4:Inv X pins σ H3 {s3 with heap:=s3.heap.push {cls:=.type "slice",data:=.fields #[vl,vu,.none]}}:=I3.kept (t':=s3.toks) λb ob q=>A06 _ q
 obtain⟨T,id,hT,ht,hg⟩:=hr pins {s3 with heap:=s3.heap.push {cls:=.type "slice",data:=.fields #[vl,vu,.none]}} σ H3 x v vl vu l u s3.heap.objs.size Q I4 r1 (Heap.IsSliceOf.new ..) pl pu q3
 show wpAny (model X.prog X.w) X.A (subscriptTail e (.Slice lo hi none p2) v (.ref s3.heap.objs.size)) (EP X pins σ Q) X.xe {s3 with heap:=s3.heap.push {cls:=.type "slice",data:=.fields #[vl,vu,.none]}}
 exact tail_any (ops:=[.ref s3.heap.objs.size,v]) ht hT hg ⋯
def Kt (xs:List V)(lo hi:Option Int):List V:=(xs.drop (HT.sIx xs.length 0 lo)).take (HT.sIx xs.length xs.length hi-HT.sIx xs.length 0 lo)
theorem Lj (xs:List V)(lo hi:Option Int):(Kt xs lo hi).length<=xs.length:=by unfold Kt;rw[A0J,A1K];omega
def aE3 (K:W.Frag):V->Option Int->Option Int->Hp->VK->Prop:=λx lo hi H Q=>∃ a xs,x = .ref a/\SqT K H a xs /\
 ¬ (HT.sIx xs.length 0 lo=0/\HT.sIx xs.length xs.length hi=xs.length)/\∀ p,H p=none->Q (.ref p) (upd H p (.tup (Kt xs lo hi)))
theorem sl_tup:SlR X (aE3 X.K):=by
 intro pins s σ H x v vl vu lo hi sl Q I rx hs pl pu h;obtain⟨a,xs,rfl,hx,hw,q⟩:=h
 cases rx;obtain⟨its,r,ht,hz⟩:=I.tuple hx;have hlen:its.toArray.size=xs.length:=by rw[A0X];exact r.length.symm
 refine⟨"tuple",_,PyProof.Rows.slot_tuple_getitem.lookup,ht.typeIs,?_⟩;refine HT.getItem_tuple_cut ht hs pl pu (by rw[hlen];exact hw) ?_ (by rw[hlen];exact hz);rw[hlen];refine⟨.ref s.heap.objs.size,_,I.laid (t':=s.toks) (o:=.tup (Kt xs lo hi)) (λb ob q=>A06 _ q) (A05 _) ?_,rfl,q _ (I.hok.fresh (A05 _))⟩;exact⟨A0C (Lj xs lo hi) hz,_,(r.drop (HT.sIx xs.length 0 lo)).take (HT.sIx xs.length xs.length hi-HT.sIx xs.length 0 lo),IsTupN.new _ _⟩
def aq8 (K:W.Frag):R2:=λx y H Q=>∃ a b xs ys,x = .ref a/\y = .ref b/\SqT K H a xs/\SqT K H b ys/\xs≠[]/\xs.length+ys.length<=sizeLine /\
 (ys=[]->Q (.ref a) H)/\(ys≠[]->∀ p,H p=none->Q (.ref p) (upd H p (.tup (xs++ys))))
theorem Vals.nil_iff {xs:List V}{us:List Value}(r:Vals xs us):us=[]↔xs=[]:=by
 cases r with
 |nil=>simp
 |cons _ _=>simp
theorem op_catT:OpR X (binaryOp .Add) (aq8 X.K):=by
 intro pins s σ H x y v u Q I rx ry h;obtain⟨a,b,xs,ys,rfl,rfl,ha,hb,hx,hz,q1,q2⟩:=h
 cases rx
 cases ry;obtain⟨its,r1,p1,_⟩:=I.tuple ha;obtain⟨its2,r2,p2,_⟩:=I.tuple hb;refine HT.cat_tup p1 p2 (λz=>hx (r1.nil_iff.mp z)) (λz=>⟨.ref a,H,I,rfl,q1 (r2.nil_iff.mp z)⟩) (λz=>?_) (by rw[<- r1.length,<- r2.length];exact hz);refine⟨.ref s.heap.objs.size,_,I.laid (t':=s.toks) (o:=.tup (xs++ys)) (λb ob q=>A06 _ q) (A05 _) ?_,rfl,q2 (λw=>z (r2.nil_iff.mpr w)) _ (I.hok.fresh (A05 _))⟩;exact⟨by rw[A08];exact hz,_,r1.append r2,IsTupN.new _ _⟩
end
def ixN (n:Nat)(i:Int):Option Nat:=if 0<=i then(if i<n then some i.toNat else none) else if -(n:Int)<=i then some (i+n).toNat else none
def atI {α:Type}(xs:List α)(i:Int):Option α:=(ixN xs.length i).bind λj=>xs[j]?
theorem ak9 {n:Nat}{i:Int}{j:Nat}(h:ixN n i=some j):seqIndex? i n=some j/\j<n /\ -(n:Int)<=i/\i<n:=by
 unfold ixN at h
 by_cases h0:0<=i
 . rw[A0Y h0] at h
   by_cases h1:i<n
   . rw[A0Y h1] at h;have e:i.toNat=j:=A1I h;exact⟨by rw[seqIndex_of h0 h1,e],by omega,by omega,h1⟩
   rw[A0P h1] at h;cases h
 rw[A0P h0] at h
 by_cases h1:-(n:Int)<=i
 . rw[A0Y h1] at h;have e:(i+n).toNat=j:=A1I h;exact⟨by rw[seqIndex_neg ∅ h1,e],by omega,h1,by omega⟩
 rw[A0P h1] at h;cases h
theorem Nt {α:Type} {xs:List α} {i:Int} {v:α} (h:atI xs i=some v):∃ j,seqIndex? i xs.length=some j/\xs[j]? = some v/\j<xs.length /\ -(xs.length:Int)<=i/\i<xs.length:=by
 unfold atI at h
 cases e:ixN xs.length i with
 |none=>rw[e] at h;cases h
 |some j=>rw[e] at h;obtain⟨h1,h2,h3,h4⟩:=ak9 e;exact⟨j,h1,h,h2,h3,h4⟩
theorem Bq {α:Type}{xs:List α}{j:Nat}{v:α}(h:xs[j]? = some v):atI xs (j:Int)=some v:=by
 have hj:j<xs.length:=(A01.mp h).1
 have e:ixN xs.length (j:Int)=some j:=by unfold ixN;rw[if_pos ∅,if_pos ∅];simp
 unfold atI;rw[e];exact h
def ak1 (b:Expr):Prop:=∀ o i,subscripted b false o i=operate [o,i] (getItem o i)
def IxR (X:Cx)(r:R2):Prop:=
 ∀(value slice:Expr) (pins:List (Addr×Obj)) (s:Shared) (σ:St) (H:Hp) (x y:V) (v u:Value) (Q:VK),Inv X pins σ H s->RelV x v->RelV y u->r x y H Q ->
  subscripted slice false v u=operate [v,u] (getItem v u)->wpAny (model X.prog X.w) X.A (subscriptTail value slice v u) (EP X pins σ Q) X.xe s
def MtR (X:Cx)(id:String)(r:V->List V->Hp->VK->Prop):Prop:=
 ∀(pins:List (Addr×Obj)) (s:Shared) (σ:St) (H:Hp) (x:V) (xs:List V) (v:Value) (us:List Value) (Q:VK),Inv X pins σ H s->RelV x v->Vals xs us->r x xs H Q ->
  wpAny (model X.prog X.w) X.A (call (.builtin id) (v :: us)) (EP X pins σ Q) X.xe s
section
variable {X:Cx}{a b:Expr}{ta tb:TE}{pos:Pos}
theorem IxR.or {r r':R2}(h:IxR X r)(h':IxR X r'):IxR X (λx y H Q=>r x y H Q\/r' x y H Q):=by
 intro value slice pins s σ H x y v u Q I rx ry q hs;rcases q with q|q
 . exact h value slice pins s σ H x y v u Q I rx ry q hs
 exact h' value slice pins s σ H x y v u Q I rx ry q hs
theorem Ar {r:R2}(hr:IxR X r)(ha:PE X a ta)(hb:PE X b tb)(hs:ak1 b):PE X (.Subscript a b pos) (tOp r ta tb):=by intro pins s σ H Q I h;exact Subscript_ (aD2 ha hb I h λv u s2 x y H2 I2 rx ry q=>hr a b pins s2 σ H2 x y v u Q I2 rx ry q (hs _ _))
def aE7 (K:W.Frag):R2:=λx y H Q=>∃ p xs i v,x = .ref p/\y = .int i/\SqL K H p xs/\atI xs i=some v/\Q v H
def aF3 (K:W.Frag):R2:=λx y H Q=>∃ p xs i v,x = .ref p/\y = .int i/\SqT K H p xs/\atI xs i=some v/\Q v H
def aD8:R2:=λx y H Q=>∃ z i c,x = .str z/\y = .int i/\z.length<=sizeLine/\atI z.cps.toList i=some c/\Q (.str ⟨#[c]⟩) H
theorem ix_list:IxR X (aE7 X.K):=by
 intro value slice pins s σ H x y v u Q I rx ry h hs;obtain⟨p,xs,i,z,rfl,rfl,hq,he,q⟩:=h
 cases rx;obtain⟨t,rfl⟩:=ry;obtain⟨its,r,pl,hz⟩:=I.list hq;obtain⟨j,h1,h2,h3,h4,h5⟩:=Nt he;obtain⟨w,ew,rw'⟩:=r.get h2;have hl:=r.length;have hn:=R4;have fin:EP X pins σ Q w s:=⟨z,H,I,rw',q⟩
 by_cases h0:0<=i
 . have hj:i.toNat=j:=by rw[seqIndex_of h0 h5] at h1;exact A1I h1
   exact item_listR pl.isList h0 ∅ (by rw[hj];simpa using ew) fin hs
 have hj:(i+(its.toArray.size:Int)).toNat=j:=by rw[seqIndex_neg ∅ h4] at h1;rw[A0X,<- hl];exact A1I h1
 exact subscriptTail_builtinR (x:=w) pl.isList.typeIs slot_list_getitem.lookup
  (wpAny_getItem_list_neg (Q:=λr s'=>r=w/\EP X pins σ Q r s') pl.isList ∅ (by rw[List.size_toArray]<;>omega) ∅ (by rw[hj];simpa using ew) ⟨rfl,fin⟩) hs
theorem ix_tup:IxR X (aF3 X.K):=by
 intro value slice pins s σ H x y v u Q I rx ry h hs;obtain⟨p,xs,i,z,rfl,rfl,hq,he,q⟩:=h
 cases rx;obtain⟨t,rfl⟩:=ry;obtain⟨its,r,pl,hz⟩:=I.tuple hq;obtain⟨j,h1,h2,h3,h4,h5⟩:=Nt he;obtain⟨w,ew,rw'⟩:=r.get h2;have hl:=r.length;have hn:=R4;have fin:EP X pins σ Q w s:=⟨z,H,I,rw',q⟩
 exact subscriptTail_builtinR (x:=w) pl.typeIs slot_tuple_getitem.lookup
  (getItem_tuple (j:=j) (Q:=λr s'=>r=w/\EP X pins σ Q r s') pl ∅ ∅ (by rw[List.size_toArray,<- hl];exact h1) (by simpa using ew) ⟨rfl,fin⟩) hs
theorem ap2:IxR X aD8:=by
 intro value slice pins s σ H x y v u Q I rx ry h hs;obtain⟨z,i,c,rfl,rfl,hz,he,q⟩:=h;obtain⟨t,rfl⟩:=rx;obtain⟨t',rfl⟩:=ry;obtain⟨j,h1,h2,h3,h4,h5⟩:=Nt he;have hl:z.cps.toList.length=z.length:=by simp[Str.length]
 rw[hl] at h1 h4 h5;have hn:=R4
 exact tail_any (typeIs_str s z t) slot_str_getitem.lookup (getItem_str (c:=c) (by have e1:decide (i < -(2 ^ 63:Int))=false:=A0R ∅;have e2:decide (i>=2 ^ 63)=false:=A0R ∅;rw[e1,e2,Bool.or_false]) (by rw[h1];simpa using h2) ⟨.str ⟨#[c]⟩,H,I.tok _,⟨_,rfl⟩,q⟩) hs
def rIx (K:W.Frag):R2:=λx y H Q=>aE7 K x y H Q\/aF3 K x y H Q\/aD8 x y H Q
theorem ix_seq:IxR X (rIx X.K):=ix_list.or (ix_tup.or ap2)
theorem Rl (lo hi:Option Int) (n:Nat):(sliceBounds lo hi none n).1=((HT.sIx n 0 lo:Nat):Int)/\(sliceBounds lo hi none n).2.1=((HT.sIx n n hi:Nat):Int)/\(sliceBounds lo hi none n).2.2=1:=by
 refine⟨?_,?_,rfl⟩
 . cases lo with
   |none=>simp[sliceBounds,HT.sIx]
   |some i=>
     simp only[sliceBounds,HT.sIx,Option.getD_none,show(1:Int)>0 by decide,if_true]
     by_cases h:i<0
     . simp only[h,if_true]<;>omega
     simp only[h,if_false]<;>omega
 cases hi with
 |none=>simp[sliceBounds,HT.sIx]
 |some i=>
   simp only[sliceBounds,HT.sIx,Option.getD_none,show(1:Int)>0 by decide,if_true]
   by_cases h:i<0
   . simp only[h,if_true]<;>omega
   simp only[h,if_false]<;>omega
theorem Pn (its:List Value)(lo hi:Option Int):slicePick its.toArray lo hi none=((its.drop (HT.sIx its.length 0 lo)).take (HT.sIx its.length its.length hi-HT.sIx its.length 0 lo)).toArray:=by obtain⟨h1,h2,h3⟩:=Rl lo hi its.toArray.size;unfold slicePick;rw[h1,h2,h3];simp only[sliceRange_one,pick_run,List.size_toArray]<;>rfl
def aD3 (K:W.Frag):V->Option Int->Option Int->Hp->VK->Prop:=λx lo hi H Q=>∃ a xs,x = .ref a/\SqL K H a xs/\∀ p,H p=none->Q (.ref p) (upd H p (.lst (Kt xs lo hi)))
theorem sl_list:SlR X (aD3 X.K):=by
 intro pins s σ H x v vl vu lo hi sl Q I rx hs pl pu h;obtain⟨a,xs,rfl,hx,q⟩:=h
 cases rx;obtain⟨its,r,ht,hz⟩:=I.list hx;have hlen:=r.length;refine⟨"list",_,slot_list_getitem.lookup,ht.isList.typeIs,?_⟩;refine wpAny_getItem_list_slice ht.isList hs pl pu .none (by simp) ?_ (by rw[List.size_toArray]<;>omega)
 rw[Pn,<- hlen];refine⟨.ref s.heap.objs.size,_,I.laid (t':=s.toks) (o:=.lst (Kt xs lo hi)) (λb ob q=>A06 _ q) (A05 _) ?_,rfl,q _ (I.hok.fresh (A05 _))⟩;exact⟨A0C (Lj xs lo hi) hz,_,0,(r.drop (HT.sIx xs.length 0 lo)).take (HT.sIx xs.length xs.length hi-HT.sIx xs.length 0 lo),A0Z _ rfl⟩
def Nn:V->Bool
 |.non=>true
 |.bl _=>true
 |.int _=>true
 |.str _=>true
 |_=>false
def eqV:V->V->Bool
 |.non,.non=>true
 |.bl a,.bl b=>a==b
 |.bl a,.int b=>(if a then 1 else 0)==b
 |.int a,.bl b=>a==(if b then 1 else 0)
 |.int a,.int b=>a==b
 |.str a,.str b=>a==b
 |_,_=>false
theorem at9 {A:Around}{s:Shared}{y x:V}{u v:Value}(ry:RelV y u)(rx:RelV x v)(fy:Nn y=true)(fx:Nn x=true):SeqAt.EqAt A s u v (eqV y x):=by
 cases y with
 |non=>
   cases ry
   cases x with
   |non=>cases rx;exact SeqAt.EqAt.same _
   |bl b=>cases rx;exact SeqAt.EqAt.none_bool b
   |int b=>obtain⟨t,rfl⟩:=rx;exact SeqAt.EqAt.none_int b t
   |str b=>obtain⟨t,rfl⟩:=rx;exact SeqAt.EqAt.none_str b t
   |_=>exact absurd (show false=true from fx) A0G
 |bl a=>
   cases ry
   cases x with
   |non=>cases rx;exact SeqAt.EqAt.bool_none a
   |bl b=>cases rx;exact SeqAt.EqAt.bool_bool a b
   |int b=>obtain⟨t,rfl⟩:=rx;exact SeqAt.EqAt.bool_int a b t
   |str b=>obtain⟨t,rfl⟩:=rx;exact SeqAt.EqAt.bool_str a b t
   |_=>exact absurd (show false=true from fx) A0G
 |int a=>
   obtain⟨t',rfl⟩:=ry
   cases x with
   |non=>cases rx;exact SeqAt.EqAt.int_none a t'
   |bl b=>cases rx;exact SeqAt.EqAt.int_bool a t' b
   |int b=>obtain⟨t,rfl⟩:=rx;exact SeqAt.EqAt.int_int a t' b t
   |str b=>obtain⟨t,rfl⟩:=rx;exact SeqAt.EqAt.int_str a t' b t
   |_=>exact absurd (show false=true from fx) A0G
 |str a=>
   obtain⟨t',rfl⟩:=ry
   cases x with
   |non=>cases rx;exact SeqAt.EqAt.str_none a t'
   |bl b=>cases rx;exact SeqAt.EqAt.str_bool a t' b
   |int b=>obtain⟨t,rfl⟩:=rx;exact SeqAt.EqAt.str_int a t' b t
   |str b=>obtain⟨t,rfl⟩:=rx;exact SeqAt.EqAt.str_str a t' b t
   |_=>exact absurd (show false=true from fx) A0G
 |_=>exact absurd (show false=true from fy) A0G
def eqU (x:V)(u:Value):Bool:=match u with
 |.none=>eqV .non x
 |.bool b=>eqV (.bl b) x
 |.int i _=>eqV (.int i) x
 |.str z _=>eqV (.str z) x
 |_=>false
theorem ac5 {x y:V}{u:Value}(r:RelV y u)(f:Nn y=true):eqU x u=eqV y x:=by
 cases y with
 |non=>cases r;rfl
 |bl b=>cases r;rfl
 |int i=>obtain⟨t,rfl⟩:=r;rfl
 |str z=>obtain⟨t,rfl⟩:=r;rfl
 |_=>exact absurd (show false=true from f) A0G
theorem Li {x:V}:∀ {xs:List V} {us:List Value},Vals xs us->xs.all Nn=true->us.any (eqU x)=xs.any λy=>eqV y x
 |_,_,.nil,_=>rfl
 |y :: xs,u :: us,.cons r t,f=>by rw[List.all_cons,A1L] at f;rw[A1V,A1V,ac5 r f.1,Li t f.2]
theorem Iu {A:Around}{s:Shared}{x:V}{v:Value}(rx:RelV x v)(fx:Nn x=true):∀ {xs:List V} {us:List Value},Vals xs us->xs.all Nn=true->∀ u∈us,SeqAt.EqAt A s u v (eqU x u)
 |_,_,.nil,_=>λu hu=>by cases hu
 |y :: xs,u :: us,.cons r t,f=>λu' hu=>by
   rw[List.all_cons,A1L] at f;rcases A0F.mp hu with rfl|hu
   . rw[ac5 r f.1];exact at9 r rx f.1 fx
   exact Iu rx fx t f.2 u' hu
def inV (x:V)(xs:List V):Bool:=xs.any λy=>eqV y x
def rIn (K:W.Frag)(neg:Bool):R2:=λx y H Q=>∃ p xs,y = .ref p/\(SqL K H p xs\/SqT K H p xs)/\Nn x=true/\xs.all Nn=true/\Q (.bl (if neg then !inV x xs else inV x xs)) H
theorem op_in_seq:OpR X (compareOp .In) (rIn X.K false):=by
 intro pins s σ H x y v u Q I rx ry h;obtain⟨p,xs,rfl,hq,fx,fs,q⟩:=h
 cases ry;rcases hq with hq|hq
 . obtain⟨its,r,pl,hz⟩:=I.list hq;refine SeqAt.in_listAt (eqU x) pl.isList (λw hw=>Iu rx fx r fs w (by simpa using hw)) ⟨.bl _,H,I,rfl,?_⟩;rw[show its.toArray.any (eqU x)=its.any (eqU x) by simp,Li r fs];exact q
 obtain⟨its,r,pl,hz⟩:=I.tuple hq;refine SeqAt.in_tupleAt (eqU x) pl (λw hw=>Iu rx fx r fs w (by simpa using hw)) ⟨.bl _,H,I,rfl,?_⟩;rw[show its.toArray.any (eqU x)=its.any (eqU x) by simp,Li r fs];exact q
theorem op_notIn_seq:OpR X (compareOp .NotIn) (rIn X.K true):=by
 intro pins s σ H x y v u Q I rx ry h;obtain⟨p,xs,rfl,hq,fx,fs,q⟩:=h
 cases ry;rcases hq with hq|hq
 . obtain⟨its,r,pl,hz⟩:=I.list hq;refine SeqAt.notIn_listAt (eqU x) pl.isList (λw hw=>Iu rx fx r fs w (by simpa using hw)) ⟨.bl _,H,I,rfl,?_⟩;rw[show its.toArray.any (eqU x)=its.any (eqU x) by simp,Li r fs];exact q
 obtain⟨its,r,pl,hz⟩:=I.tuple hq;refine SeqAt.notIn_tupleAt (eqU x) pl (λw hw=>Iu rx fx r fs w (by simpa using hw)) ⟨.bl _,H,I,rfl,?_⟩;rw[show its.toArray.any (eqU x)=its.any (eqU x) by simp,Li r fs];exact q
theorem op_notIn_str:OpR X (compareOp .NotIn) (λx y H Q=>∃ i j,x = .str i/\y = .str j/\Q (.bl (!(!(Builtin.Str.occurrences j i 0 j.length 1).isEmpty))) H):=by intro pins s σ H x y v u Q I rx ry h;obtain⟨i,j,rfl,rfl,q⟩:=h;obtain⟨t,rfl⟩:=rx;obtain⟨t',rfl⟩:=ry;exact notIn_str ⟨.bl _,H,I,rfl,q⟩
theorem CallR.or {f:Value}{r r':List V->Hp->VK->Prop}(h:CallR X f r)(h':CallR X f r'):CallR X f (λxs H Q=>r xs H Q\/r' xs H Q):=by
 intro pins s σ H xs us Q I rs q;rcases q with q|q
 . exact h pins s σ H xs us Q I rs q
 exact h' pins s σ H xs us Q I rs q
theorem Py:CallR X (.type "list") (λxs H Q=>∃ p ys,xs=[.ref p]/\(SqL X.K H p ys\/SqT X.K H p ys)/\∀ l,H l=none->Q (.ref l) (upd H l (.lst ys))):=by
 intro pins s σ H xs us Q I r h;obtain⟨p,ys,rfl,hq,q⟩:=h;obtain⟨u,rfl,rx⟩:=J9 r
 cases rx
 have fin:∀(its:List Value),Vals ys its->ys.length<=sizeLine->∀(h':Heap) (c':Nat),(∀ b o',s.heap.get? b=some o'->h'.get? b=some o') ->
   h'.get? s.heap.objs.size=some {cls:=.type "list",dict:=none,data:=.seq its.toArray c',slots:=#[]}->EP X pins σ Q (.ref s.heap.objs.size) {s with heap:=h'}:=λits r' hz h' c' kp e=>
  ⟨.ref s.heap.objs.size,_,I.laid (t':=s.toks) kp (A05 _) (show ObjOk X.prog X.w _ h' _ (.lst ys) from⟨hz,its,c',r',e⟩),rfl,q _ (I.hok.fresh (A05 _))⟩
 rcases hq with hq|hq
 . obtain⟨its,r',pl,hz⟩:=I.list hq;have hlen:=r'.length;obtain⟨o,ho,hc,n,hd⟩:=pl.isList;exact call_list_seq p (.inl rfl) ho hc hd (λh' c' kp e=>fin its r' hz h' c' kp e) (by simp only[List.size_toArray]<;>omega)
 obtain⟨its,r',pl,hz⟩:=I.tuple hq;have hlen:=r'.length;obtain⟨o,ho,hc,n,hd⟩:=pl;exact call_list_seq p (.inr rfl) ho hc hd (λh' c' kp e=>fin its r' hz h' c' kp e) (by simp only[List.size_toArray]<;>omega)
theorem Ny:CallR X (.type "tuple") (λxs H Q=>∃ p ys,xs=[.ref p]/\((SqL X.K H p ys/\∀ l,H l=none->Q (.ref l) (upd H l (.tup ys)))\/(SqT X.K H p ys/\Q (.ref p) H))):=by
 intro pins s σ H xs us Q I r h;obtain⟨p,ys,rfl,h⟩:=h;obtain⟨u,rfl,rx⟩:=J9 r
 cases rx;rcases h with ⟨hq,q⟩|⟨hq,q⟩
 . obtain⟨its,r',pl,hz⟩:=I.list hq;have hlen:=r'.length;refine call_tuple_list pl.isList (λh' kp=>?_) (by simp only[List.size_toArray]<;>omega)
   have I1:Inv X pins σ H {s with heap:=h'}:=I.kept (t':=s.toks) kp
   have I2:Inv X pins σ (upd H h'.objs.size (.tup ys)) {s with heap:=h'.push {cls:=.type "tuple",data:=.seq its.toArray}}:=
    I1.laid (t':=s.toks) (λb o e=>A06 _ e) (A05 _) (show ObjOk X.prog X.w _ _ _ (.tup ys) from⟨hz,its,r',IsTupN.new _ _⟩)
   exact⟨.ref h'.objs.size,_,I2,rfl,q _ (I1.hok.fresh (A05 _))⟩
 obtain⟨its,r',pl,hz⟩:=I.tuple hq;exact call_tuple_same pl ⟨.ref p,H,I,rfl,q⟩
def tyV (K:W.Frag)(T:String)(x:V)(H:Hp):Prop:=match x with
 |.str _=>T = "str"
 |.int _=>T = "int"
 |.ref p=>(T = "list" /\ ∃ xs,SqL K H p xs)\/(T = "tuple" /\ ∃ o,K.lookup p=some o/\o.cls = .type "tuple" /\ o.dict=none) \/
   (T = "dict" /\ ((∃ kvs,H p=some (.dK kvs))\/∃ kvs,H p=some (.dT kvs)))\/(T = "set" /\ ∃ S n,H p=some (.set S n))
 |_=>False
theorem aa9 {pins:List (Addr×Obj)}{σ:St}{H:Hp}{s:Shared}{T:String}{x:V}{v:Value}(I:Inv X pins σ H s)(r:RelV x v)(ty:tyV X.K T x H) :
  s.TypeIs v T/\∀ a,v = .ref a->∃ ob,s.heap.get? a=some ob/\ob.dict=none:=by
 cases x with
 |str z=>
   obtain⟨t,rfl⟩:=r
   cases (show T = "str" from ty);exact⟨typeIs_str s z t,λ_ e=>nomatch e⟩
 |int i=>
   obtain⟨t,rfl⟩:=r
   cases (show T = "int" from ty);exact⟨typeIs_int s i t,λ_ e=>nomatch e⟩
 |ref p=>
   cases r;rcases ty with ⟨rfl,xs,hq⟩|⟨rfl,o,hk,hc,hd⟩|⟨rfl,hk⟩|⟨rfl,S,n,hk⟩
   . obtain⟨its,_,pl,_⟩:=I.list hq;refine⟨pl.isList.typeIs,λa e=>?_⟩
     cases e;obtain⟨o,n,e,c,hd,_⟩:=pl;exact⟨o,e,hd⟩
   . refine⟨⟨o,I.kIn p o hk,hc⟩,λa e=>?_⟩
     cases e;exact⟨o,I.kIn _ o hk,hd⟩
   . have z:∃ o,s.heap.get? p=some o/\o.ExactDict:=by
      rcases hk with ⟨kvs,hk⟩|⟨kvs,hk⟩
      . obtain⟨_,_,_,_,o,_,_,e,ex,_⟩:=I.hok p _ hk;exact⟨o,e,ex⟩
      obtain⟨_,_,_,_,o,_,_,e,ex,_⟩:=I.hok p _ hk;exact⟨o,e,ex⟩
     obtain⟨o,e,ex⟩:=z;refine⟨⟨o,e,ex.1⟩,λa e2=>?_⟩
     cases e2;exact⟨o,e,ex.2.1⟩
   obtain⟨o,_,_,_,e,ex,_⟩:=I.hok p _ hk;refine⟨⟨o,e,ex.1⟩,λa e2=>?_⟩
   cases e2;exact⟨o,e,ex.2.1⟩
 |_=>exact False.elim ty
def aC7 (K:W.Frag)(T:String)(r:V->List V->Hp->VK->Prop)(to:TE):TE:=fun σ H Q=>to σ H λx H1=>tyV K T x H1/\r x [] H1 Q
def tBM (K:W.Frag)(T:String)(r:V->List V->Hp->VK->Prop)(to:TE)(t:TA):TE:=fun σ H Q=>to σ H λx H1=>tyV K T x H1/\t σ H1 λxs H2=>r x xs H2 Q
variable {o e:Expr}{es:List Expr}{to:TE}{t:TA}{name:Str}{apos cpos:Pos}{T id:String}{r:V->List V->Hp->VK->Prop}
theorem at5 (pa:PlainAttrs T)(slot:Slot T name id)(hty:typeOf (.builtin id)=pure (.type "method_descriptor"))(hm:MtR X id r)(ho:PE X o to)
  (hbase:attributeBase o name X.env (eval o X.env)=eval o X.env:=by ac_nf) (hline:(apos.endLine==cpos.line)=true:=by ac_nf):PE X (.Call (.Attribute o name apos) [] [] cpos) (aC7 X.K T r to):=by
 intro pins s σ H Q I h;refine wpAny_Call_method0_late hbase hline (thn (ho pins s σ H _ I h) λv s1 ⟨x,H1,I1,r1,ty,q1⟩=>?_);obtain⟨h1,h2⟩:=aa9 I1 r1 ty;exact⟨T,id,pa,slot,hty,h1,h2,A3R rfl (PySem.evalArgs_none (hm pins s1 σ H1 x [] v [] Q I1 r1 .nil q1))⟩
theorem aA9 (pa:PlainAttrs T)(slot:Slot T name id)(hty:typeOf (.builtin id)=pure (.type "method_descriptor"))(hm:MtR X id r)(ho:PE X o to)(ha:PA X (e :: es) t)
  (hbase:attributeBase o name X.env (eval o X.env)=eval o X.env:=by ac_nf)
  (hfew:((backTo cpos (starEach (e :: es) X.env)).all (λx=>!x.1)&&(backToKw cpos (keywordEach [] X.env)).all (λx=>x.1.isSome)
   && decide ((e :: es).length+([]:List Keyword).length+(if([]:List Keyword).isEmpty then 0 else 1)<30))=true:=by ac_nf)
  (hline:(apos.endLine==cpos.line)=true:=by ac_nf) (hs:starEach (e :: es) X.env=(false,eval e X.env) :: starEach es X.env:=by ac_nf) (hplain:(backTo cpos (starEach es X.env)).any (·.1)=false:=by ac_nf) :
  PE X (.Call (.Attribute o name apos) (e :: es) [] cpos) (tBM X.K T r to t):=by
 intro pins s σ H Q I h;refine wpAny_Call_method_late hbase hfew hline rfl (thn (ho pins s σ H _ I h) λv s1 ⟨x,H1,I1,r1,ty,q1⟩=>?_);obtain⟨h1,h2⟩:=aa9 I1 r1 ty;refine⟨T,id,pa,slot,hty,h1,h2,?_⟩;have hA:=ha cpos pins s1 σ H1 _ I1 q1;rw[hs] at hA ⊢;refine A3R (by show(false||(backTo cpos (starEach es X.env)).any (·.1))=false;rw[hplain]<;>rfl) (A5B ?_)
 exact thn hA λus s2 ⟨vs,H2,I2,r2,q2⟩=>hm pins s2 σ H2 x vs v us Q I2 r1 r2 q2
/- xs.append(e),list.index on a module's tuple .. are MtR facts of 06m -/
end
def MtM (X:Cx)(id:String)(r:V->List V->Hp->VK->Prop):Prop:=
 ∀(pins:List (Addr×Obj)) (s:Shared) (σ:St) (H:Hp) (x:V) (xs:List V) (v:Value) (us:List Value) (Q:VK),Inv X pins σ H s->RelV x v->Vals xs us->r x xs H Q ->
  wpAny (model X.prog X.w) X.A (call (.builtin id) (v :: us)) (EP X pins σ Q) X.xe s
theorem Vals.one {x:V}{us:List Value}(h:Vals [x] us):∃ u,us=[u]/\RelV x u:=by
 cases h with
 |cons r q=>cases q;exact⟨_,rfl,r⟩
theorem Vals.two {x y:V}{us:List Value}(h:Vals [x,y] us):∃ u v,us=[u,v]/\RelV x u/\RelV y v:=by
 cases h with
 |cons r q=>obtain⟨u,rfl,q'⟩:=Vals.one q;exact⟨_,_,rfl,r,q'⟩
theorem Vals.zero:∀ {us:List Value},Vals [] us->us=[]
 |_,.nil=>rfl
theorem Vals.eraseIdx:∀ {xs:List V} {us:List Value} (i:Nat),Vals xs us->Vals (xs.eraseIdx i) (us.eraseIdx i)
 |_,_,_,.nil=>.nil
 |_,_,0,.cons _ t=>t
 |_,_,i+1,.cons r t=>.cons r (Vals.eraseIdx i t)
theorem Vals.reverse {xs:List V}{us:List Value}(h:Vals xs us):Vals xs.reverse us.reverse:=by
 induction h with
 |nil=>exact .nil
 |cons r t ih=>rw[A4E,A4E];exact Vals.append ih (.cons r .nil)
theorem Vals.rep {xs:List V}{us:List Value}(h:Vals xs us):∀ k:Nat,Vals (List.replicate k xs).flatten (List.replicate k us).flatten
 |0=>.nil
 |k+1=>by rw[A31,A31,A3S,A3S];exact Vals.append h (Vals.rep h k)
theorem R0 {α:Type}:∀(l:List α) (i:Nat),(l.eraseIdx i).length<=l.length
 | [],_=>A05 _
 |_ :: _,0=>Nat.le_succ _
 |_ :: r,i+1=>Nat.succ_le_succ (R0 r i)
theorem Qz (its:List Value):∀(k:Nat) (acc:List Value),
  List.foldl (λx1 x2=>x1++x2) acc.toArray (List.replicate k its.toArray)=(acc++(List.replicate k its).flatten).toArray
 |0,acc=>by simp
 |k+1,acc=>by
   have e:acc.toArray++its.toArray=(acc++its).toArray:=by simp
   have e2:(acc++its)++(List.replicate k its).flatten=acc++(List.replicate (k+1) its).flatten:=by rw[A31,A3S,A12]
   rw[<- e2,<- Qz its k (acc++its),<- e,A31,A44]
section
variable {X:Cx}{pins:List (Addr×Obj)}{σ:St}{H:Hp}{s:Shared}{l b:Addr}{xs ys zs:List V}
theorem Inv.lset {its its':List Value}{n:Nat}{f:Array Value->Array Value}{t':Nat}(I:Inv X pins σ H s)(hH:H l=some (.lst xs))
  (e:s.heap.get? l=some {cls:=.type "list",data:=.seq its.toArray n}) (hf:f its.toArray=its'.toArray) (hv:Vals ys its') (hz:ys.length<=sizeLine) :
  Inv X pins σ (upd H l (.lst ys)) {s with heap:=s.heap.update l (Obj.mapSeq f),toks:=t'}:=by
 have q:=PySem.IsL.update e f;rw[hf] at q;refine I.write (x:=l) (e:=l) (by rw[hH];exact trivial) (.inl rfl) (λb' u hb hu=>(Heap.get?_update_other s.heap (Obj.mapSeq f) (Ne.symm hb)).trans hu) ⟨_,q⟩ ?_;exact⟨hz,its',_,hv,q⟩
theorem Inv.lnew {its:List Value}{t':Nat}(I:Inv X pins σ H s)(hv:Vals ys its)(hz:ys.length<=sizeLine) :
  Inv X pins σ (upd H s.heap.objs.size (.lst ys)) {s with heap:=s.heap.push {cls:=.type "list",data:=.seq its.toArray},toks:=t'}:=
 I.laid (λ_ _ q=>A06 _ q) (A05 _) ⟨hz,its,0,hv,A0Z _ rfl⟩
theorem Inv.fresh (I:Inv X pins σ H s):H s.heap.objs.size=none:=I.hok.fresh (A05 _)
theorem Inv.lstM (I:Inv X pins σ H s)(hH:H l=some (.lst xs)):xs.length<=sizeLine/\∃(its:List Value) (n:Nat),Vals xs its/\xs.length=its.length/\s.heap.get? l=some {cls:=.type "list",data:=.seq its.toArray n}:=by obtain⟨z,its,n,r,e⟩:=I.hok l _ hH;exact⟨z,its,n,r,r.length,e⟩
theorem Uj {n:Nat}(h:n<=sizeLine):Builtin.List.listTooLong n=false:=by unfold Builtin.List.listTooLong;exact A0R ∅
end
section
variable {X:Cx}
def Xl:V->List V->Hp->VK->Prop:=λx vs H Q=>∃ l xs y,x = .ref l/\vs=[y]/\H l=some (.lst xs)/\xs.length<sizeLine/\Q .non (upd H l (.lst (xs++[y])))
theorem Pz:MtM X "list.append" Xl:=by
 intro pins s σ H x vs v us Q I rx rv h;obtain⟨l,xs,y,rfl,rfl,hH,hz,q⟩:=h
 cases rx;obtain⟨u,rfl,ru⟩:=rv.one;obtain⟨z,its,n,r,hl,e⟩:=I.lstM hH;refine A3T F.slot_list_append ⟨_,e,rfl⟩ F.entry_list_append (F.args_list_append_2 _ _) (PySem.list_append l its.toArray n u (by rw[A0X];omega)) ⟨e,?_⟩;refine⟨.non,_,I.lset (its':=its++[u]) hH e (by simp) (r.append (.cons ru .nil)) ?_,rfl,q⟩;rw[A08,A1O];omega
def Zs:V->List V->Hp->VK->Prop:=λx vs H Q=>∃ l b xs zs,x = .ref l/\vs=[.ref b]/\H l=some (.lst xs)/\H b=some (.lst zs)/\xs.length+zs.length<=sizeLine/\Q .non (upd H l (.lst (xs++zs)))
theorem Lp:MtM X "list.extend" Zs:=by
 intro pins s σ H x vs v us Q I rx rv h;obtain⟨l,b,xs,zs,rfl,rfl,hH,hB,hz,q⟩:=h
 cases rx;obtain⟨u,rfl,ru⟩:=rv.one
 cases ru;obtain⟨z,its,n,r,hl,e⟩:=I.lstM hH;obtain⟨z2,its2,n2,r2,hl2,e2⟩:=I.lstM hB;have hsz:its.toArray.size+its2.toArray.size<=sizeLine:=by rw[A0X,A0X];omega
 have hlong:¬ (!its.toArray.isEmpty&&Builtin.List.listTooLong (its.toArray.size+its2.toArray.size))=true:=by rw[Uj hsz,Bool.and_false];exact A0G
 refine A3T F.slot_list_extend ⟨_,e,rfl⟩ F.entry_list_extend (F.args_list_extend_2 _ _)
  (AutoSeq1.list_extend_list_list_0 l its.toArray n b its2.toArray n2 hlong (by rw[A0X];omega) ∅) ⟨e,e2,?_⟩
 refine⟨.non,_,I.lset (its':=its++its2) hH e (by simp) (r.append r2) ?_,rfl,q⟩;rw[A08];omega
def a96:V->List V->Hp->VK->Prop:=λx vs H Q=>∃ l xs i k y,x = .ref l/\vs=[.int i]/\H l=some (.lst xs) /\ -(2 ^ 63)<=i/\i<2 ^ 63/\seqIndex? i xs.length=some k/\xs[k]? = some y/\Q y (upd H l (.lst (xs.eraseIdx k)))
theorem a88:MtM X "list.pop" a96:=by
 intro pins s σ H x vs v us Q I rx rv h;obtain⟨l,xs,i,k,y,rfl,rfl,hH,h1,h2,hk,hy,q⟩:=h
 cases rx;obtain⟨u,rfl,ru⟩:=rv.one;obtain⟨t,rfl⟩:=ru;obtain⟨z,its,n,r,hl,e⟩:=I.lstM hH;obtain⟨w,hw,rw'⟩:=r.get hy
 refine A3T F.slot_list_pop ⟨_,e,rfl⟩ F.entry_list_pop (F.args_list_pop_2 _ _)
  (MeetsSeq.list_pop_at l its.toArray n i t k w (fitsIndex_both h1 h2) (by rw[A0X,<- hl];exact hk) (by rw[<- A0M];exact hw) (by rw[A0X];omega)) ⟨e,?_⟩
 refine⟨y,_,I.lset (its':=its.eraseIdx k) hH e ?_ (r.eraseIdx k) ?_,rw',q⟩
 . show its.toArray.eraseIdxIfInBounds k=(its.eraseIdx k).toArray;rw[List.eraseIdxIfInBounds_toArray]
 have:=R0 xs k;omega
def W3:V->List V->Hp->VK->Prop:=λx vs H Q=>∃ l xs,x = .ref l/\vs=[]/\H l=some (.lst xs)/\Q .non (upd H l (.lst xs.reverse))
theorem W9:MtM X "list.reverse" W3:=by
 intro pins s σ H x vs v us Q I rx rv h;obtain⟨l,xs,rfl,rfl,hH,q⟩:=h
 cases rx;have hus:=rv.zero;subst hus;obtain⟨z,its,n,r,hl,e⟩:=I.lstM hH;refine A3T F.slot_list_reverse ⟨_,e,rfl⟩ F.entry_list_reverse (F.args_list_reverse_1 _) (AutoSeq1.list_reverse_list_0 l its.toArray n (by rw[A0X];omega)) ⟨e,?_⟩;refine⟨.non,_,I.lset (its':=its.reverse) hH e (by simp) r.reverse ?_,rfl,q⟩;rw[A5F];omega
def ac1:V->List V->Hp->VK->Prop:=λx vs H Q=>∃ l xs,x = .ref l/\vs=[]/\H l=some (.lst xs)/\Q .non (upd H l (.lst []))
theorem a67:MtM X "list.clear" ac1:=by
 intro pins s σ H x vs v us Q I rx rv h;obtain⟨l,xs,rfl,rfl,hH,q⟩:=h
 cases rx;have hus:=rv.zero;subst hus;obtain⟨z,its,n,r,hl,e⟩:=I.lstM hH;refine A3T F.slot_list_clear ⟨_,e,rfl⟩ F.entry_list_clear (F.args_list_clear_1 _) (AutoSeq1.list_clear_list_0 l its.toArray n (by rw[A0X];omega)) ⟨e,?_⟩;exact⟨.non,_,I.lset (its':=[]) (ys:=[]) hH e rfl .nil (A24 _),rfl,q⟩
def aF5:R2:=λx y H Q=>∃ l b xs zs,x = .ref l/\y = .ref b/\H l=some (.lst xs)/\H b=some (.lst zs)/\xs.length+zs.length<=sizeLine/\∀ p,H p=none->Q (.ref p) (upd H p (.lst (xs++zs)))
theorem op_cat:OpR X (binaryOp .Add) aF5:=by
 intro pins s σ H x y v u Q I rx ry h;obtain⟨l,b,xs,zs,rfl,rfl,hH,hB,hz,q⟩:=h
 cases rx
 cases ry;obtain⟨z,its,n,r,hl,e⟩:=I.lstM hH;obtain⟨z2,its2,n2,r2,hl2,e2⟩:=I.lstM hB;refine PySem.P.add_list e e2 ?_ (by rw[A0X,A0X];omega);have ea:its.toArray++its2.toArray=(its++its2).toArray:=by simp
 rw[ea];exact⟨.ref _,_,I.lnew (t':=s.toks) (r.append r2) (by rw[A08];omega),rfl,q _ I.fresh⟩
def aF2:R2:=λx y H Q=>∃ l k xs,x = .ref l/\y = .int k/\H l=some (.lst xs) /\ -(2 ^ 63)<=k/\k<2 ^ 63/\xs.length*k.toNat<=sizeLine /\
 ∀ p,H p=none->Q (.ref p) (upd H p (.lst (List.replicate k.toNat xs).flatten))
theorem ae5 {α:Type}(xs:List α)(k:Nat):(List.replicate k xs).flatten.length=k*xs.length:=by
 induction k with
 |zero=>simp
 |succ k ih=>rw[A31,A3S,A08,ih,Nat.succ_mul,Nat.add_comm]
theorem ar3:OpR X (binaryOp .Mult) aF2:=by
 intro pins s σ H x y v u Q I rx ry h;obtain⟨l,k,xs,rfl,rfl,hH,h1,h2,hz,q⟩:=h
 cases rx;obtain⟨t,rfl⟩:=ry;obtain⟨z,its,n,r,hl,e⟩:=I.lstM hH;have hlen:its.toArray.size*k.toNat<=sizeLine:=by rw[A0X,<- hl];exact hz
 have hcap:¬ its.toArray.size*k.toNat>(2 ^ 63-1) / 8:=by
  have:(sizeLine:Nat)<=(2 ^ 63-1) / 8:=by decide
  omega
 have hfit:¬ (!Builtin.List.listFitsIndex k)=true:=by rw[fitsIndex_both h1 h2];exact A0G
 have hlong:¬ Builtin.List.listTooLong (its.toArray.size*k.toNat)=true:=by rw[Uj hlen];exact A0G
 have hnew:List.foldl (λx1 x2=>x1++x2) #[] (List.replicate (if its.toArray.isEmpty=true then 0 else k.toNat) its.toArray)=(List.replicate k.toNat its).flatten.toArray:=by
  have f0:∀ m:Nat,List.foldl (λx1 x2=>x1++x2) #[] (List.replicate m its.toArray)=(List.replicate m its).flatten.toArray:=λm=>by have:=Qz its m [];rw[A2Y] at this;exact this
  rw[f0]
  cases its with
  |nil=>simp
  |cons a r'=>rw[if_neg (by simp)]
 refine wpAny_binaryOp_repeat_ref (T:="list") (U:="int") nofun ⟨_,e,rfl⟩ (λs'=>typeIs_int s' k t) noFill_list_mul F.fills_int_mul F.slot_int_rmul repeat_list F.slot_int_index.lookup
  (A3T F.slot_int_rmul (typeIs_int s k t) F.entry_int_rmul (F.args_int_rmul_2 _ _) (int___rmul___int_list k t l its.toArray n)
   ⟨e,rfl,⟨_,e,rfl⟩,A3T F.slot_list_mul ⟨_,e,rfl⟩ F.entry_list_mul (F.args_list_mul_2 _ _) (AutoListH.list___mul___list_int_3 l its.toArray n k t hfit hcap hlong) ⟨e,?_⟩⟩)
 rw[hnew];exact⟨.ref _,_,I.lnew (t':=s.toks) (r.rep k.toNat) (by rw[ae5,A4X];exact hz),rfl,q _ I.fresh⟩
end
section
variable {prog:Program}{w:World}{A:Around}{E:Value->Shared->Prop}{s:Shared}
set_option maxRecDepth 100000 in
end
section
variable {X:Cx}
end
section
variable {κ:Type}[DecidableEq κ]
def Dg (kvs:List (κ×V))(k:κ):Option V:=(kvs.find? λkv=>decide (kv.1=k)).map (·.2)
def Eb (kvs:List (κ×V))(k:κ)(v:V):List (κ×V):=
 if(kvs.any λkv=>decide (kv.1=k))=true then kvs.map (λkv=>if kv.1=k then(kv.1,v) else kv) else kvs++[(k,v)]
theorem a65 {k:κ}:Dg ([]:List (κ×V)) k=none:=rfl
theorem Bb {p:κ×V} {r:List (κ×V)} {k:κ} (e:p.1=k):Dg (p :: r) k=some p.2:=by simp[Dg,List.find?_cons,e]
theorem Bd {p:κ×V}{r:List (κ×V)}{k:κ}(e:¬ p.1=k):Dg (p :: r) k=Dg r k:=by simp[Dg,List.find?_cons,e]
theorem Fy (k:κ):∀ kvs:List (κ×V),(kvs.any λkv=>decide (kv.1=k))=(Dg kvs k).isSome
 | []=>rfl
 |p :: r=>by
   rw[A1V]
   by_cases e:p.1=k
   . simp only[Bb e,decide_eq_true e,Bool.true_or,Option.isSome_some]
   rw[Bd e,A0R e,A4M];exact Fy k r
theorem Vm (k j:κ)(y:V):∀ kvs:List (κ×V),Dg (kvs.map λkv=>if kv.1=k then(kv.1,y) else kv) j=(Dg kvs j).map λx=>if j=k then y else x
 | []=>rfl
 |p :: r=>by
   have ih:=Vm k j y r;rw[A0I]
   by_cases h:p.1=k
   . rw[A0Y h]
     by_cases e:p.1=j
     . rw[Bb (p:=(p.1,y)) e,Bb e,A4Y,A0Y (e.symm.trans h)]
     rw[Bd (p:=(p.1,y)) e,Bd e,ih]
   rw[A0P h]
   by_cases e:p.1=j
   . rw[Bb (p:=p) e,Bb e,A4Y,A0P (λz=>h (e.trans z))]
   rw[Bd (p:=p) e,Bd e,ih]
theorem Qj (k j:κ)(y:V):∀ kvs:List (κ×V),Dg kvs k=none->Dg (kvs++[(k,y)]) j=if j=k then some y else Dg kvs j
 | [],_=>by
   by_cases e:k=j
   . rw[A0Y e.symm];exact Bb (p:=(k,y)) e
   rw[A0P (λz=>e z.symm)];exact Bd (p:=(k,y)) e
 |p :: r,hn=>by
   rw[List.cons_append];have hk:¬ p.1=k:=λz=>by rw[Bb z] at hn;cases hn
   rw[Bd hk] at hn;have ih:=Qj k j y r hn
   by_cases e:p.1=j
   . rw[Bb e,Bb e,A0P (λz=>hk (e.trans z))]
   rw[Bd e,Bd e,ih]
theorem Ky (kvs:List (κ×V))(k j:κ)(y:V):Dg (Eb kvs k y) j=if j=k then some y else Dg kvs j:=by
 unfold Eb
 by_cases a:(kvs.any λkv=>decide (kv.1=k))=true
 . rw[A0Y a,Vm];rw[Fy] at a
   by_cases e:j=k
   . obtain⟨x,hx⟩:=Option.isSome_iff_exists.mp a;rw[A0Y e,e,hx,A4Y,A0Y rfl]
   rw[A0P e]
   cases Dg kvs j with
   |none=>rfl
   |some x=>rw[A4Y,A0P e]
 rw[A0P a];refine Qj k j y kvs ?_;rw[Fy] at a
 cases q:Dg kvs k with
 |none=>rfl
 |some x=>rw[q] at a;exact(a rfl).elim
theorem J2 (kvs:List (κ×V))(k:κ)(v:V):(Eb kvs k v).length<=kvs.length+1:=by
 unfold Eb
 split
 . rw[A00];omega
 rw[A08,A0W,A2M];omega
theorem Jd {kvs:List (κ×V)}{k:κ}(v:V)(h:Dg kvs k=none):Eb kvs k v=kvs++[(k,v)]:=by unfold Eb;rw [Fy,h];exact A0P nofun
theorem RelO.isSome_eq {o:Option V}{u:Option Value}(r:RelO o u):o.isSome=u.isSome:=by
 cases o with
 |none=>cases u with
   |none=>rfl
   |some _=>exact(show False from r).elim
 |some _=>cases u with
   |none=>exact(show False from r).elim
   |some _=>rfl
theorem RelO.getD {o:Option V}{u:Option Value}{d:V}{d':Value}(r:RelO o u)(rd:RelV d d'):RelV (o.getD d) (u.getD d'):=by
 cases o with
 |none=>cases u with
   |none=>exact rd
   |some _=>exact(show False from r).elim
 |some _=>cases u with
   |none=>exact(show False from r).elim
   |some _=>exact r
theorem KV.val {kvs:List (κ×V)} {vs:List (κ×Value)} (r:KV kvs vs) (k:κ):RelO (Dg kvs k) (valueAt vs k):=by
 unfold KV at r
 induction r with
 |nil=>exact A2J
 |@cons p q ps qs h t ih=>
   obtain⟨h1,h2⟩:=h
   by_cases e:p.1=k
   . have e':q.1=k:=h1.symm.trans e;have b:valueAt (q :: qs) k=some q.2:=by simp[valueAt,List.find?_cons,e']
     rw[Bb e,b];exact h2
   have e':¬ q.1=k:=λz=>e (h1.trans z);have b:valueAt (q :: qs) k=valueAt qs k:=by simp[valueAt,List.find?_cons,e']
   rw[Bd e,b];exact ih
theorem KV.any {kvs:List (κ×V)}{vs:List (κ×Value)}(r:KV kvs vs)(k:κ):(kvs.any λkv=>decide (kv.1=k))=vs.any λkv=>decide (kv.1=k):=by
 unfold KV at r
 induction r with
 |nil=>rfl
 |cons h t ih=>rw[A1V,A1V,ih,h.1]
theorem KV.repl {kvs:List (κ×V)}{vs:List (κ×Value)}(r:KV kvs vs)(k:κ){y:V}{u:Value}(ry:RelV y u) :
  KV (kvs.map λkv=>if kv.1=k then(kv.1,y) else kv) (vs.map λkv=>if kv.1=k then(kv.1,u) else kv):=by
 unfold KV at r ⊢
 induction r with
 |nil=>exact .nil
 |@cons p q ps qs h t ih=>
   rw[A0I,A0I];refine .cons ?_ ih;obtain⟨h1,h2⟩:=h
   by_cases e:p.1=k
   . rw[A0Y e,A0Y (h1.symm.trans e)];exact⟨h1,ry⟩
   rw[A0P e,A0P (λz=>e (h1.trans z))];exact⟨h1,h2⟩
theorem KV.put {kvs:List (κ×V)}{vs:List (κ×Value)}(r:KV kvs vs)(k:κ){y:V}{u:Value}(ry:RelV y u):KV (Eb kvs k y) (stored vs k u):=by
 unfold Eb stored;rw[r.any k]
 by_cases e:(vs.any λkv=>decide (kv.1=k))=true
 . rw[A0Y e,A0Y e];exact r.repl k ry
 rw[A0P e,A0P e];exact Paired.snoc r ⟨rfl,ry⟩
theorem KV.length {kvs:List (κ×V)}{vs:List (κ×Value)}(r:KV kvs vs):kvs.length=vs.length:=A2R r
end
theorem Ru {P:Program}{w:World}{k:Key}{u:Value}(r:RelV (kV k) u):(Ax P w).is k u=true:=by
 cases k with
 |inl i=>obtain⟨t,e⟩:=(show ∃ t,u=Value.int i t from r);subst e;exact Sm P w i t
 |inr x=>obtain⟨t,e⟩:=(show ∃ t,u=Value.str x t from r);subst e;exact T6 P w x t
theorem L4 {P:Program}{w:World}:∀ {ks:List Key} {us:List Value},Vals (ks.map kV) us->ItemsAre (Ax P w) ks us
 | [],_,r=>by rw[List.map_nil] at r;cases r;exact .nil
 |k :: ks,_,r=>by
   rw[A0I] at r
   cases r with
   |cons h t=>exact .cons (Ru h) (L4 t)
abbrev KT (H:Hp):List (List Key×V)->List (List Key×Addr×Value)->Prop:=Paired λp q=>p.1=q.1/\H q.2.1=some (.tup (p.1.map kV))/\RelV p.2 q.2.2
theorem KT.val {H:Hp}{kvs:List (List Key×V)}{xs:List (List Key×Addr×Value)}(r:KT H kvs xs)(k:List Key):RelO (Dg kvs k) ((atKey xs k).map (·.2)):=by
 induction r with
 |nil=>exact A2J
 |@cons p q ps qs h t ih=>
   obtain⟨h1,_,h2⟩:=h
   by_cases e:p.1=k
   . have e':q.1=k:=h1.symm.trans e;have b:atKey (q :: qs) k=some q.2:=by simp[atKey,List.find?_cons,e']
     rw[Bb e,b];exact h2
   have e':¬ q.1=k:=λz=>e (h1.trans z);have b:atKey (q :: qs) k=atKey qs k:=by simp[atKey,List.find?_cons,e']
   rw[Bd e,b];exact ih
theorem KT.repl {H:Hp} {kvs:List (List Key×V)} {xs:List (List Key×Addr×Value)} (r:KT H kvs xs) (k:List Key) {y:V} {u:Value} (ry:RelV y u) :
  KT H (kvs.map λkv=>if kv.1=k then(kv.1,y) else kv) (xs.map (putAt k u)):=by
 induction r with
 |nil=>exact .nil
 |@cons p q ps qs h t ih=>
   rw[A0I,A0I];refine .cons ?_ ih;obtain⟨h1,h2,h3⟩:=h;unfold putAt
   by_cases e:p.1=k
   . rw[A0Y e,A0Y (h1.symm.trans e)];exact⟨h1,h2,ry⟩
   rw[A0P e,A0P (λz=>e (h1.trans z))];exact⟨h1,h2,h3⟩
theorem KT.put {H:Hp}{kvs:List (List Key×V)}{xs:List (List Key×Addr×Value)}(r:KT H kvs xs)(k:List Key){b:Addr}{y:V}{u:Value}(hb:H b=some (.tup (k.map kV)))(ry:RelV y u) :
  KT H (Eb kvs k y) (storedH xs k b u):=by
 have e:(kvs.any λkv=>decide (kv.1=k))=(atKey xs k).isSome:=by rw[Fy,(r.val k).isSome_eq,Option.isSome_map]
 unfold Eb storedH;rw[e]
 by_cases q:(atKey xs k).isSome=true
 . rw[A0Y q,A0Y q];exact r.repl k ry
 rw[A0P q,A0P q];exact Paired.snoc r ⟨rfl,hb,ry⟩
theorem KT.keeps {H H':Hp}{kvs:List (List Key×V)}{xs:List (List Key×Addr×Value)}(r:KT H kvs xs)(ht:∀ b ys,H b=some (.tup ys)->H' b=some (.tup ys)):KT H' kvs xs:=
 Paired.mapP r λ_ _ z=>⟨z.1,ht _ _ z.2.1,z.2.2⟩
section
variable {P:Program}{w:World}{H:Hp}{h:Heap}{a:Addr}
theorem av4 {u:HO}(ok:HOk P w H h)(e:Rd H a u):ObjOk P w H h a u:=e.ok ok
theorem Qx {kvs:List (Key×V)}(ok:HOk P w H h)(e:Rd H a (.dK kvs)):kvs.length<=sizeLine/\(a==sysModules)=false/\∃ vs,KV kvs vs/\h.DictOf (Ax P w) a vs:=
 show ObjOk P w H h a (.dK kvs) from av4 ok e
theorem T8 {kvs:List (Key×V)}(ok:HOk P w H h)(e:H a=some (.dK kvs)):kvs.length<=sizeLine/\(a==sysModules)=false/\∃ vs,KV kvs vs/\h.DictOf (Ax P w) a vs:=Qx ok (.inl e)
theorem Ma {ks:List Key}(ok:HOk P w H h)(e:H a=some (.tup (ks.map kV))):(tupleKind (Ax P w)).is h ks a:=by obtain⟨_,its,r,o,h1,h2,⟨n,h3⟩,_⟩:=(show ObjOk P w H h a (.tup (ks.map kV)) from ok a _ e);exact⟨o,its.toArray,n,h1,h2,h3,by simpa using L4 r⟩
theorem Ph {kvs:List (List Key×V)}(ok:HOk P w H h)(e:Rd H a (.dT kvs)):kvs.length<=sizeLine/\(a==sysModules)=false /\
  ∃ xs,KT H kvs xs/\h.DictOfH (tupleKind (Ax P w)) a xs:=by
 obtain⟨z,y,xs,r,o,es,ep,h1,h2,h3,h4,h5⟩:=(show ObjOk P w H h a (.dT kvs) from av4 ok e);refine⟨z,y,xs,r,o,es,ep,h1,h2,h3,h4,λx hx=>?_,h5⟩
 have all:∀ {l:List (List Key×V)} {m:List (List Key×Addr×Value)},KT H l m->∀ x∈m,(tupleKind (Ax P w)).is h x.1 x.2.1:=by
  intro l m q
  induction q with
  |nil=>intro x hx;exact nomatch hx
  |@cons p q ps qs hq t ih=>
    intro x hx;rcases A0F.mp hx with e|hx
    . subst e;exact Ma ok (by rw[<- hq.1];exact hq.2.1)
    exact ih x hx
 exact all r x hx
theorem ap7 {kvs:List (List Key×V)}(ok:HOk P w H h)(e:H a=some (.dT kvs)):kvs.length<=sizeLine/\(a==sysModules)=false /\
  ∃ xs,KT H kvs xs/\h.DictOfH (tupleKind (Ax P w)) a xs:=Ph ok (.inl e)
end
def DGet (H:Hp)(a:Addr)(y:V)(r:Option V):Prop:=
 (∃ kvs k,Rd H a (.dK kvs)/\y=kV k/\r=Dg kvs k)\/∃ kvs k b,Rd H a (.dT kvs)/\y = .ref b/\H b=some (.tup (k.map kV))/\r=Dg kvs k
def DPut (H:Hp)(a:Addr)(y v:V)(H':Hp):Prop:=
 (∃ kvs k,H a=some (.dK kvs)/\y=kV k/\kvs.length<sizeLine/\H'=upd H a (.dK (Eb kvs k v))) \/
 ∃ kvs k b,H a=some (.dT kvs)/\y = .ref b/\H b=some (.tup (k.map kV))/\kvs.length<sizeLine/\H'=upd H a (.dT (Eb kvs k v))
theorem DGet.k {H:Hp}{a:Addr}{kvs:List (Key×V)}{k:Key}(e:H a=some (.dK kvs)):DGet H a (kV k) (Dg kvs k):=.inl ⟨kvs,k,.inl e,rfl,rfl⟩
theorem DGet.t {H:Hp}{a b:Addr}{kvs:List (List Key×V)}{k:List Key}(e:H a=some (.dT kvs))(eb:H b=some (.tup (k.map kV))):DGet H a (.ref b) (Dg kvs k):=.inr ⟨kvs,k,b,.inl e,rfl,eb,rfl⟩
theorem DPut.k {H:Hp}{a:Addr}{kvs:List (Key×V)}{k:Key}{v:V}(e:H a=some (.dK kvs))(hl:kvs.length<sizeLine):DPut H a (kV k) v (upd H a (.dK (Eb kvs k v))):=.inl ⟨kvs,k,e,rfl,hl,rfl⟩
theorem DPut.t {H:Hp}{a b:Addr}{kvs:List (List Key×V)}{k:List Key}{v:V}(e:H a=some (.dT kvs))(eb:H b=some (.tup (k.map kV)))(hl:kvs.length<sizeLine) :
  DPut H a (.ref b) v (upd H a (.dT (Eb kvs k v))):=.inr ⟨kvs,k,b,e,rfl,eb,hl,rfl⟩
section
variable {X:Cx}{pins:List (Addr×Obj)}{σ:St}{H:Hp}{s:Shared}{a:Addr}{y v:V}{u r:Value}{o:Option V}{A:Around}{E:Value->Shared->Prop}
theorem Inv.big (I:Inv X pins σ H s):sysModules<s.heap.objs.size:=by have h:mainGlobals<s.heap.objs.size:=(I.mod.glob.keeps I.bk).lt;exact Nat.lt_trans nofun h
theorem a03 {Q:Value->Shared->Prop}(hu:A.units+1<cLine)(I:Inv X pins σ H s)(g:DGet H a y (some v))(ry:RelV y u)(h:∀ w' s',Inv X pins σ H s'->RelV v w'->Q w' s') :
  wpAny (model X.prog X.w) A (getItem (.ref a) u) Q E s:=by
 rcases g with ⟨kvs,k,e,ey,l⟩|⟨kvs,k,b,e,ey,eb,l⟩
 . subst ey;obtain⟨z,hd,vs,rel,dd⟩:=Qx I.hok e;obtain⟨w',hw,rw'⟩:=RelO.some_of (v:=v) (o:=valueAt vs k) (by rw[l];exact rel.val k);exact wpAny_getItem_of (Ru ry) dd.mapOf hw (h w' _ (I.tok _) rw')
 subst ey
 cases (show u=Value.ref b from ry);obtain⟨z,hd,xs,rel,dd⟩:=Ph I.hok e;obtain⟨w',hw,rw'⟩:=RelO.some_of (v:=v) (o:=(atKey xs k).map (·.2)) (by rw[l];exact rel.val k);obtain⟨p,hp,hp2⟩:=A2O.mp hw;refine wpAny_getItem_heap (A37 hu) (Ma I.hok eb) dd hp ?_;rw[hp2];exact h w' _ (I.tok _) rw'
theorem d_in {Q:Value->Shared->Prop}(hu:A.units+1<cLine)(I:Inv X pins σ H s)(g:DGet H a y o)(ry:RelV y u)(h:∀ s',Inv X pins σ H s'->Q (.bool o.isSome) s') :
  wpAny (model X.prog X.w) A (compareOp .In u (.ref a)) Q E s:=by
 rcases g with ⟨kvs,k,e,ey,l⟩|⟨kvs,k,b,e,ey,eb,l⟩
 . subst ey;obtain⟨z,hd,vs,rel,dd⟩:=Qx I.hok e;refine wpAny_in_of (Ru ry) hd dd.mapOf ?_;rw[<- (rel.val k).isSome_eq,<- l];exact h _ (I.tok _)
 subst ey
 cases (show u=Value.ref b from ry);obtain⟨z,hd,xs,rel,dd⟩:=Ph I.hok e;refine wpAny_in_heap (A37 hu) (Ma I.hok eb) hd dd ?_;have q:=(rel.val k).isSome_eq;rw[Option.isSome_map] at q;rw[<- q,<- l];exact h _ (I.tok _)
theorem ag5 {Q:Value->Shared->Prop}(hu:A.units+1<cLine)(I:Inv X pins σ H s)(g:DGet H a y o)(ry:RelV y u)(h:∀ s',Inv X pins σ H s'->Q (.bool (!o.isSome)) s') :
  wpAny (model X.prog X.w) A (compareOp .NotIn u (.ref a)) Q E s:=by
 rcases g with ⟨kvs,k,e,ey,l⟩|⟨kvs,k,b,e,ey,eb,l⟩
 . subst ey;obtain⟨z,hd,vs,rel,dd⟩:=Qx I.hok e;refine wpAny_notIn_of (Ru ry) hd dd.mapOf ?_;rw[<- (rel.val k).isSome_eq,<- l];exact h _ (I.tok _)
 subst ey
 cases (show u=Value.ref b from ry);obtain⟨z,hd,xs,rel,dd⟩:=Ph I.hok e;refine wpAny_notIn_heap (A37 hu) (Ma I.hok eb) hd dd ?_;have q:=(rel.val k).isSome_eq;rw[Option.isSome_map] at q;rw[<- q,<- l];exact h _ (I.tok _)
theorem Lb {h':Heap}{t':Nat}{ob:HO}(I:Inv X pins σ H s)(mu:Mut (H a))(hs:Heap.SameBut a s.heap h')(he:∃ q,h'.get? a=some q)(new:ObjOk X.prog X.w (upd H a ob) h' a ob) :
  Inv X pins σ (upd H a ob) {s with heap:=h',toks:=t'}:=
 I.write (x:=a) (e:=a) mu (.inl rfl) (λb q hb z=>(hs.2 b hb).trans z) he new
theorem Uz {P:Program}{w:World}{H':Hp}{h':Heap}{kvs:List (Key×V)}{vs:List (Key×Value)}(z:kvs.length<=sizeLine)(hd:(a==sysModules)=false)(rel:KV kvs vs)(dd:h'.DictOf (Ax P w) a vs) :
  ObjOk P w H' h' a (.dK kvs):=⟨z,hd,vs,rel,dd⟩
theorem Ze {H':Hp}{Q:Unit->Shared->Prop}(hu:A.units+1<cLine)(I:Inv X pins σ H s)(g:DPut H a y v H')(ry:RelV y u)(rv:RelV v r)(h:∀ s',Inv X pins σ H' s'->Q () s') :
  wpAny (model X.prog X.w) A (setItem (.ref a) u r) Q E s:=by
 rcases g with ⟨kvs,k,e,ey,l,eH⟩|⟨kvs,k,b,e,ey,eb,l,eH⟩
 . subst ey eH;obtain⟨z,hd,vs,rel,dd⟩:=T8 I.hok e;have hz:vs.length<=sizeLine:=by rw[<- rel.length];exact z
   have hl:(Eb kvs k v).length<=sizeLine:=by have:=J2 kvs k v;omega
   refine wpAny_setItem_pairs (hsz:=hz) (Ru ry) dd λh' dd' hs=>h _ ?_;have he:∃ q,h'.get? a=some q:=let ⟨q,_,_,hq,_⟩:=dd';⟨q,hq⟩;exact Lb I (by rw[e];exact A2J) hs he (Uz hl hd (rel.put k rv) dd')
 subst ey eH
 cases (show u=Value.ref b from ry);obtain⟨z,hd,xs,rel,dd⟩:=ap7 I.hok e;have hz:xs.length<=sizeLine:=by rw[<- A2R rel];exact z
 have hl:(Eb kvs k v).length<=sizeLine:=by have:=J2 kvs k v;omega
 refine wpAny_setItem_heap (hsz:=hz) (A37 hu) (Ma I.hok eb) dd λh' dd' hs=>h _ ?_;obtain⟨q,es,ep,hq,h2,h3,h4,_,h5⟩:=dd';refine Lb I (by rw[e];exact A2J) hs ⟨q,hq⟩ ⟨hl,hd,_,(rel.put k eb rv).keeps λc ys ec=>?_,q,es,ep,hq,h2,h3,h4,h5⟩;rw[B9 (ne_of ec e (λz=>nomatch z))];exact ec
end
section
variable {X:Cx}{pins:List (Addr×Obj)}{σ:St}{H:Hp}{s:Shared}{a:Addr}{kvs:List (Key×V)}{k:Key}{u:Value}{A:Around}{E:Value->Shared->Prop}
theorem aA8 {Q:Value->Shared->Prop}(I:Inv X pins σ H s)(e:Rd H a (.dK kvs))(h:∀ t s',Inv X pins σ H s'->Q (.int kvs.length t) s'):wpAny (model X.prog X.w) A (call (.builtin "len") [.ref a]) Q E s:=by obtain⟨z,hd,vs,rel,dd⟩:=Qx I.hok e;refine call_len_dict hd dd (by rw[<- rel.length];rw[A1B] at z;omega) ?_;rw[<- rel.length];exact h _ _ (I.tok _)
end
theorem Sy {X:Cx}{pins:List (Addr×Obj)}{σ:St}{H:Hp}{s:Shared}{a:Addr}{y:V}{o:Option V}(I:Inv X pins σ H s)(g:DGet H a y o):s.TypeIs (.ref a) "dict":=by
 rcases g with ⟨kvs,k,e,_,_⟩|⟨kvs,k,b,e,_,_,_⟩
 . obtain⟨_,_,vs,_,dd⟩:=Qx I.hok e;exact dd.typeIs
 obtain⟨_,_,xs,_,dd⟩:=Ph I.hok e;exact dd.typeIs
def au4 (td ty tv:TE):TS:=λD σ H=>tv σ H λv H1=>td σ H1 λx H2=>ty σ H2 λy H3=>∃ a H4,x = .ref a/\DPut H3 a y v H4/\D.nx σ H4
section
variable {X:Cx}{o i e value:Expr}{pos pos' tpos:Pos}{td ty tv:TE}
theorem Er (hu:X.A.units+1<cLine)(ho:PE X o td)(hi:PE X i ty)(hv:PE X value tv)(hs:swapsWith value (some (.Subscript o i pos')) pos.line X.env=pure false) :
  PS X (.Assign [.Subscript o i pos'] value pos) (au4 td ty tv):=by
 intro pins s σ H D I h;refine wpAny_Assign_Subscript (thn (hv pins s σ H _ I h) λr s1 ⟨v,H1,I1,rv,q1⟩=>thn (ho pins s1 σ H1 _ I1 q1) λu s2 ⟨x,H2,I2,rx,q2⟩=>thn (hi pins s2 σ H2 _ I2 q2) λiv s3 ⟨y,H3,I3,ry,a,H4,ex,g,q3⟩=>?_) hs;subst ex;obtain rfl:u=Value.ref a:=rx;exact Ze hu I3 g ry rv λs4 I4=>⟨σ,H4,I4,q3⟩
end
theorem Uk {P:Program}{w:World}{H:Hp}(h:Heap)(hb:sysModules<h.objs.size):ObjOk P w H (h.push {cls:=.type "dict",data:=.dict #[]}) h.objs.size (.dK []):=
 ⟨A24 _,A1R.mpr (Ne.symm (A19 hb)),[],.nil,Heap.DictOf.new h⟩
theorem Uo {P:Program}{w:World}{H:Hp}(h:Heap)(hb:sysModules<h.objs.size):ObjOk P w H (h.push {cls:=.type "dict",data:=.dict #[]}) h.objs.size (.dT []):=
 ⟨A24 _,A1R.mpr (Ne.symm (A19 hb)),[],.nil,_,#[],0,A0Z _ rfl,⟨rfl,rfl,rfl⟩,rfl,rfl,List.nodup_nil⟩
def ac9:TE:=λ_ H Q=>∀ p,H p=none->Q (.ref p) (upd H p (.dK []))
def ac7:TE:=λ_ H Q=>∀ p,H p=none->Q (.ref p) (upd H p (.dT []))
section
variable {X:Cx}{pos:Pos}
theorem Oc:PE X (.Dict [] [] pos) ac9:=λpins s σ H Q I h=>wpAny_Dict_empty ⟨.ref s.heap.objs.size,_,I.laid (a:=s.heap.objs.size) (o:=.dK []) (t':=s.toks) (λ_ _ q=>A06 _ q) (A05 _) (Uk s.heap I.big),rfl,h _ (I.hok.fresh (A05 _))⟩
theorem Pl:PE X (.Dict [] [] pos) ac7:=λpins s σ H Q I h=>wpAny_Dict_empty ⟨.ref s.heap.objs.size,_,I.laid (a:=s.heap.objs.size) (o:=.dT []) (t':=s.toks) (λ_ _ q=>A06 _ q) (A05 _) (Uo s.heap I.big),rfl,h _ (I.hok.fresh (A05 _))⟩
end
def Jt:List (TE×TE)->St->Hp->(List (V×V)->Hp->Prop)->Prop
 | [],_,H,Q=>Q [] H
 | (tk,tv) :: r,σ,H,Q=>tk σ H λx H1=>tv σ H1 λy H2=>Jt r σ H2 λps H3=>Q ((x,y) :: ps) H3
abbrev VV:List (V×V)->List (Value×Value)->Prop:=Paired λp q=>RelV p.1 q.1/\RelV p.2 q.2
def PPs (X:Cx)(pos:Pos)(keys:List (Option Expr))(values:List Expr)(trs:List (TE×TE)):Prop:=
 ∀(pins:List (Addr×Obj)) (s:Shared) (σ:St) (H:Hp) (Q:List (V×V)->Hp->Prop),Inv X pins σ H s->Jt trs σ H Q ->
  wpAny (model X.prog X.w) X.A (evalPairs (pairTrees keys values X.env pos)) (λvs s'=>∃ ps H',Inv X pins σ H' s'/\VV ps vs/\Q ps H') X.xe s
theorem Sd {X:Cx}{pos:Pos}:PPs X pos [] [] []:=λpins s σ H Q I h=>pairTrees_nil_walk ⟨[],H,I,.nil,h⟩
theorem Iw {X:Cx}{pos:Pos}{k v:Expr}{ks:List (Option Expr)}{vs:List Expr}{tk tv:TE}{trs:List (TE×TE)}(hk:PE X k tk)(hv:PE X v tv)(hr:PPs X pos ks vs trs) :
  PPs X pos (some k :: ks) (v :: vs) ((tk,tv) :: trs):=λpins s σ H Q I h=>
 pairTrees_cons_walk (thn (hk pins s σ H _ I h) λu s1 ⟨x,H1,I1,rx,q1⟩=>thn (hv pins s1 σ H1 _ I1 q1) λw2 s2 ⟨y,H2,I2,ry,q2⟩=>thn (hr pins s2 σ H2 _ I2 q2) λws s3 ⟨ps,H3,I3,rel,q3⟩=>⟨(x,y) :: ps,H3,I3,.cons ⟨rx,ry⟩ rel,q3⟩)
def Fj (kvs more:List (Key×V)):List (Key×V):=more.foldl (λacc kv=>Eb acc kv.1 kv.2) kvs
theorem KV.merge:∀ {more:List (Key×V)} {rs:List (Key×Value)} {kvs:List (Key×V)} {vs:List (Key×Value)},KV more rs->KV kvs vs->KV (Fj kvs more) (merged vs rs):=by
 intro more rs kvs vs r;unfold KV at r
 induction r generalizing kvs vs with
 |nil=>intro q;exact q
 |@cons p q ps qs h t ih=>
   intro r0
   have e:KV (Eb kvs p.1 p.2) (stored vs q.1 q.2):=by have:=r0.put p.1 h.2;rw[<- h.1];exact this
   exact ih e
theorem Ex:∀(more kvs:List (Key×V)),(Fj kvs more).length<=kvs.length+more.length
 | [],kvs=>by show kvs.length<=kvs.length+0;omega
 |p :: r,kvs=>by have h1:=Ex r (Eb kvs p.1 p.2);have h2:=J2 kvs p.1 p.2;show(Fj (Eb kvs p.1 p.2) r).length<=_;rw[A0W];omega
theorem Mo {P:Program}{w:World}:∀ {kvs:List (Key×V)} {ws:List (Value×Value)},VV (kvs.map λkv=>(kV kv.1,kv.2)) ws->∃ rs,Carries (Ax P w) ws rs/\KV kvs rs
 | [], _,r=>by rw[List.map_nil] at r;cases r;exact⟨[],A2J,.nil⟩
 |p :: kvs,_,r=>by
   rw[A0I] at r
   cases r with
   |@cons a b as bs h t=>obtain⟨rs,c,q⟩:=Mo (P:=P) (w:=w) t;obtain⟨b1,b2⟩:=b;exact⟨(p.1,b2) :: rs,⟨Ru h.1,rfl,c⟩,.cons ⟨rfl,h.2⟩ q⟩
def ao1 (trs:List (TE×TE)):TE:=fun σ H Q=>∀ p,H p=none->Jt trs σ (upd H p (.dK [])) λps H2=>H2 p=some (.dK [])/\∃ kvs:List (Key×V),ps=kvs.map (λkv=>(kV kv.1,kv.2))/\kvs.length<=15/\Q (.ref p) (upd H2 p (.dK (Fj [] kvs)))
theorem Y4 {X:Cx}{pos:Pos}{keys:List (Option Expr)}{values:List Expr}{trs:List (TE×TE)}(h:PPs X pos keys values trs)(hall:keys.all (·.isSome)=true)(hl:keys.length=values.length)(h0:keys≠[])
  (h15:keys.length<=15):PE X (.Dict keys values pos) (ao1 trs):=by
 intro pins s σ H Q I q;have hn:=I.hok.fresh (A05 s.heap.objs.size);have I1:=I.laid (a:=s.heap.objs.size) (o:=.dK []) (h':=s.heap.push {cls:=.type "dict",data:=.dict #[]}) (t':=s.toks) (λ_ _ q=>A06 _ q) (A05 _) (Uk s.heap I.big);refine wpAny_Dict_walk (knd:=Ax X.prog X.w) hall hl h0 h15 (thn (h pins _ σ _ _ I1 (q _ hn)) λws s2 ⟨ps,H2,I2,rel,e,kvs,ep,lk,q2⟩=>?_);subst ep;obtain⟨rs,c,rk⟩:=Mo (P:=X.prog) (w:=X.w) rel;obtain⟨z,hd,vs0,r0,dd⟩:=T8 I2.hok e
 cases r0;refine⟨rs,c,dd,λh' dd' hs=>⟨.ref s.heap.objs.size,_,?_,rfl,q2⟩⟩
 have hz:(Fj [] kvs).length<=sizeLine:=by have h1:=Ex kvs [];rw[A2M] at h1;rw[A1B];omega
 have he:∃ q,h'.get? s.heap.objs.size=some q:=let ⟨q,_,_,hq,_⟩:=dd';⟨q,hq⟩;exact Lb I2 (by rw[e];exact A2J) hs he (Uz hz hd (rk.merge .nil) dd')
structure M2 (X:Cx)(o:Expr)(m:Str)(apos:Pos)(e f:Expr)(cpos:Pos):Prop where
 base:attributeBase o m X.env (eval o X.env)=eval o X.env
 few:((backTo cpos (starEach [e,f] X.env)).all (λx=>!x.1)&&(backToKw cpos (keywordEach [] X.env)).all (λx=>x.1.isSome)
  && decide (([e,f]:List Expr).length+([]:List Keyword).length+(if([]:List Keyword).isEmpty then 0 else 1)<30))=true
 line:(apos.endLine==cpos.line)=true
 trees:backTo cpos (starEach [e,f] X.env)=[(false,eval e X.env),(false,eval f X.env)]
def IsD (H:Hp)(a:Addr):Prop:=(∃ kvs,Rd H a (.dK kvs))\/∃ kvs,Rd H a (.dT kvs)
theorem at7 {X:Cx}{pins:List (Addr×Obj)}{σ:St}{H:Hp}{s:Shared}{a:Addr}(I:Inv X pins σ H s)(d:IsD H a) :
  s.TypeIs (.ref a) "dict" /\ (∀ b,Value.ref a = .ref b->∃ ob,s.heap.get? b=some ob/\ob.dict=none)/\(a==sysModules)=false:=by
 rcases d with ⟨kvs,e⟩|⟨kvs,e⟩
 . obtain⟨_,hd,vs,_,dd⟩:=Qx I.hok e;refine⟨dd.typeIs,λb q=>?_,hd⟩
   cases q;obtain⟨ob,_,_,h1,h2,_⟩:=dd;exact⟨ob,h1,h2.2.1⟩
 obtain⟨_,hd,xs,_,dd⟩:=Ph I.hok e;refine⟨dd.typeIs,λb q=>?_,hd⟩
 cases q;obtain⟨ob,_,_,h1,h2,_⟩:=dd;exact⟨ob,h1,h2.2.1⟩
section
variable {X:Cx}{pins:List (Addr×Obj)}{σ:St}{H:Hp}{s:Shared}{a:Addr}{y d:V}{u r:Value}{o:Option V}{A:Around}{E:Value->Shared->Prop}
theorem ao5 {Q:Value->Shared->Prop}(hu:A.units+1<cLine)(I:Inv X pins σ H s)(g:DGet H a y o)(ry:RelV y u)(rd:RelV d r)(h:∀ w' s',Inv X pins σ H s'->RelV (o.getD d) w'->Q w' s') :
  wpAny (model X.prog X.w) A (call (.builtin "dict.get") [.ref a,u,r]) Q E s:=by
 rcases g with ⟨kvs,k,e,ey,l⟩|⟨kvs,k,b,e,ey,eb,l⟩
 . subst ey;obtain⟨z,hd,vs,rel,dd⟩:=Qx I.hok e;refine A4A A4Z dd.typeIs PySem.F.entry_dict_get (PySem.F.args_dict_get_3 _ _ _) (meets_dict_get_default (Ax X.prog X.w) a (Ru ry) hd r) ⟨_,dd.mapOf,h _ _ (I.tok _) ?_⟩;rw[l];exact(rel.val k).getD rd
 subst ey
 cases (show u=Value.ref b from ry);obtain⟨z,hd,xs,rel,dd⟩:=Ph I.hok e;refine A4A A4Z dd.typeIs PySem.F.entry_dict_get (PySem.F.args_dict_get_3 _ _ _) (meetsH_dict_get_default (tupleKind (Ax X.prog X.w)) a b hd r) ⟨A37 hu,k,xs,Ma I.hok eb,dd,h _ _ (I.tok _) ?_⟩;rw[l];exact(rel.val k).getD rd
end
def a99 (td ty tx:TE):TE:=fun σ H Q=>td σ H λx H1=>∃ a,x = .ref a/\IsD H1 a/\ty σ H1 λy H2=>tx σ H2 λz H3=>∃ o,DGet H3 a y o/\Q (o.getD z) H3
section
variable {X:Cx}{o e f:Expr}{apos cpos:Pos}{td ty tx:TE}
theorem a81 (hu:X.A.units+1<cLine)(ho:PE X o td)(he:PE X e ty)(hf:PE X f tx)(m:M2 X o "get" apos e f cpos):PE X (.Call (.Attribute o "get" apos) [e,f] [] cpos) (a99 td ty tx):=by
 intro pins s σ H Q I h;refine wpAny_Call_method m.base m.few m.line A4N A4Z PySem.F.type_dict_get (thn (ho pins s σ H _ I h) λu s1 ⟨x,H1,I1,rx,a,ex,d,q1⟩=>?_);subst ex;obtain rfl:u=Value.ref a:=rx;obtain⟨t1,t2,_⟩:=at7 I1 d;refine⟨t1,t2,?_⟩;rw[m.trees]
 refine A3R rfl (A5B (A5H (thn (he pins s1 σ H1 _ I1 q1) λiv s2 ⟨y,H2,I2,ry,q2⟩=>A5H (thn (hf pins s2 σ H2 _ I2 q2) λfv s3 ⟨z,H3,I3,rz,ov,g,q3⟩=>Calls.spliced_nil ?_))))
 exact ao5 hu I3 g ry rz λw' s4 I4 rw'=>⟨_,H3,I4,rw',q3⟩
end
section
variable {X:Cx}{pins:List (Addr×Obj)}{σ:St}{H:Hp}{s:Shared}{a:Addr}{kvs:List (Key×V)}{A:Around}{E:Value->Shared->Prop}
end
section
variable {X:Cx}{pins:List (Addr×Obj)}{σ:St}{H:Hp}{s:Shared}{a:Addr}{y:V}{u:Value}{A:Around}{E:Value->Shared->Prop}
end
end L2
namespace Att
open PySem PySem.W PySem.Calls PyProof.Rows
theorem Lr {P:Params}{h:Heap}:∀(ns:List Int) (vs:List Value),WellAll P h vs (ns.map WData.int)->IntsAre vs ns:=by
 intro ns
 induction ns with
 |nil=>
   intro vs w;rw[List.map_nil] at w
   cases w;exact .nil
 |cons n ns ih=>
   intro vs w;rw[A0I] at w
   cases w with
   |cons a b=>cases a;exact .cons _ _ (ih _ b)
theorem Xc {l:OpenLaw}{n:Nat}(hn:l.most=some n){P:Params}{h:Heap}{args:List WData}{vals:List Value}
  (hpre:l.row.toRowW.claim.pre args=true) (hwl:WellAll P h vals args) :
  ∃ a vs ns,vals=[Value.ref a]/\args=[WData.list (ns.map WData.int)]/\h.get? a=some {cls:=.type "list",data:=.seq vs.toArray}/\IntsAre vs ns/\ns.length<=n:=by
 have hsh:WShape.hasAll [] args [.list .int]=true:=(pre_splitW hpre).1;have hc:l.pre.holds [] {args:=args}=true:=(pre_splitW hpre).2;obtain⟨d,r,rfl,h1,h2⟩:=hasAllW_cons hsh;obtain rfl:=hasAllW_nil h2;obtain⟨xs,rfl,h3⟩:=hasW_list h1;obtain⟨ns,rfl⟩:=items_int h3
 have hlen:ns.length<=n:=by
  unfold OpenLaw.pre at hc
  have h4:(WTm.not (.lt (.lit (.int (n:Int))) (.len (.arg 0)))).holds [] {args:=[.list (ns.map .int)]}=true:=by have h4:=(holds_andW hc).1;rw[hn] at h4;exact h4
  have h5:=condW_of h4 (w_not (w_lt w_lit (w_len_list (w_arg rfl))));rw[A00] at h5;refine Nat.le_of_not_lt λq=>?_;have q':(n:Int)<((ns.length:Nat):Int):=by omega
  first
   | (rw[A0K q'] at h5;exact absurd h5 nofun)
   | (simp at h5;omega)
 cases hwl with
 |cons w1 w2=>
   cases w2
   cases w1 with
   |list ho hall=>exact⟨_,_,ns,rfl,rfl,ho,Lr ns _ hall,hlen⟩
theorem Z1 (l:OpenLaw)(args:List WData):l.row.toRowW.claim.post args (.bool true) args=true:=
 postW_of (r:=l.row.toRowW) (X:=(true==true))
  (show WShape.has [] (.bool true) .bool=true by first | rfl | decide | simp[WShape.has,WShape.arms,WShape.armsAll])
  (show(WTm.eq .res (.lit (.bool true))).value [] {args:=args,res:=some (.bool true),after:=args}=some (.bool (true==true)) from w_eq_bool (w_res rfl) w_lit) rfl
theorem attach_call {l:OpenLaw}{n:Nat}{q:Program}{loose:List Str}{XP:(Str->Option Value)->Heap->Prop}{YP:World->Heap->Prop}{d:DefRec}
  (hn:l.most=some n) (hdf:d.params.defaults=[])
  (call:∀(w:World) (s₀ s₁:Shared) (mg mb:Str->Option Value) (fa:Addr) (o:Obj) (pm cd doc:Value) (a:Addr) (vs:List Value) (ns:List Int),
   Ground q loose [] XP w s₀ mg mb s₁.heap->YP w s₁.heap ->
   s₁.heap.get? fa=some o->o.data = .func (docDef d.name d.params d.body d.scope pm cd doc)->s₁.heap.CodeRec cd d.name->mg d.name=some (.ref fa) ->
   s₁.heap.get? a=some {cls:=.type "list",data:=.seq vs.toArray}->IntsAre vs ns->ns.length<=n->s₁.gens = #[] ->
   codeAny (model l.prog w) callerA (.call (.ref fa) ⟨[.ref a],[]⟩) (λr s'=>r = .ok (.ret (.bool true))/\OldK s₁.heap s'.heap/\s'.os=s₁.os/\AllBare s'.gens) s₁) :
  WalkO q loose XP YP l.row.toRowW d [] (λf vs=>PySem.call f vs):=by
 intro w s₀ s₁ mg mb G Y fa o pm cd doc dV kV ho hd hcd hD hmg hg args vals as hpre hlay hrd hwl hlo;obtain rfl:dV = .none:=Dflts.none hD hdf;obtain rfl:kV = .none:=Dflts.noKw hD;obtain⟨a,vs,ns,rfl,rfl,hobj,hints,hlen⟩:=Xc hn hpre hwl;refine enter_call (codeAny_mono (call w s₀ s₁ mg mb fa o pm cd doc a vs ns G Y ho (fd_plain hd) hcd hmg hobj hints hlen hg) λr s' hq=>?_);obtain⟨rfl,h2,h3,h4⟩:=hq;exact⟨.inl ⟨.bool true,.bool true,[],rfl,λ_=>rfl,.bool true,Z1 l _,λ_=>⟨A2K,λ_ hm=>(nomatch hm)⟩⟩,h2,h3,h4⟩
section
variable {prog:Program}{w:World}{A:Around}{E:Value->Shared->Prop}{s:Shared}{K:Frag}
end
end Att
namespace L2
open PySem PySem.Spec PyProof.Rows
theorem Qp:∀ {vs:List Value} {ns:List Int},IntsAre vs ns->Vals (ns.map V.int) vs
 |_,_,.nil=>.nil
 |_,_,.cons n t h=>.cons ⟨t,rfl⟩ (Qp h)
def aC2 (H:Hp):Prop:=∀ b,H b=none\/∃ o xs,H b=some (.frz o (.lst xs))
theorem a78 {P:Program}{w:World}{K:W.Frag}{mg mb:Str->Option Value}{CX:CXT}{k:Nat}{fa a:Addr}{fd:FuncData}{x:Str}{sp:Sp}{s₁:Shared}{vs:List Value}{ns:List Int}
  (KX:K.In s₁.heap) (hns:s₁.heap.Ns mainGlobals mg) (hb:s₁.heap.Ns builtinsNs mb) (hbb:∀ x:Str,x ≠ "__name__" -> mb x=bootBuiltins x) (hlim:s₁.heap.NoLimit) (hg:s₁.gens = #[])
  (ha:s₁.heap.get? a=some {cls:=.type "list",data:=.seq vs.toArray}) (hi:IntsAre vs ns) (hl:ns.length<=sizeLine) (hr:Room k callerA)
  (F:∀ base:Heap,K.In base->base.Ns mainGlobals mg->FnOk P w K mg base CX k fa fd [x] sp) (hbind:∀(s:Shared) (u:Value),BindsTo s fd ⟨[u],[]⟩ [(x,u)])
  (hsp:∀ H:Hp,aC2 H->SqL K H a (ns.map V.int)->sp [.ref a] H (λv _=>v = .bl true) λ_ _ _=>False)
  (hCX:∀ H e s',CX [] H s₁ (λ_ _ _=>False) e s'->False) :
  codeAny (model P w) callerA (.call (.ref fa) ⟨[.ref a],[]⟩) (λr s'=>r = .ok (.ret (.bool true))/\OldK s₁.heap s'.heap/\s'.os=s₁.os/\AllBare s'.gens) s₁:=by
 have rv:=Qp hi;have lenV:=hi.length
 have core:∀ H:Hp,aC2 H->SqL K H a (ns.map V.int)->HOk P w H s₁.heap->(∀ b,H b≠none->b=a)->(H a≠none->K.lookup a=none) ->
   codeAny (model P w) callerA (.call (.ref fa) ⟨[.ref a],[]⟩) (λr s'=>r = .ok (.ret (.bool true))/\OldK s₁.heap s'.heap/\s'.os=s₁.os/\AllBare s'.gens) s₁:=by
  intro H hO hS hok hA hK;have base_of:∀ {b:Addr} {o:Obj},s₁.heap.get? b=some o->H b=none->(a62 s₁.heap H).get? b=some o:=λe n=>a55 e n
  have noA:∀ {b:Addr} {o:Obj} {es:Array DictEntry} {ep:Nat},s₁.heap.get? b=some o->o.data = .dict es ep->H b=none:=fun {b o es ep} e d=>by
   cases q:H b with
   |none=>rfl
   |some u=>
     have e':b=a:=hA b (by rw[q];simp);subst e';rw[ha] at e;cases e;have d':Data.seq vs.toArray _=Data.dict es ep:=d
     cases d'
  have nsK:∀ {b:Addr} {m:Str->Option Value},s₁.heap.Ns b m->(a62 s₁.heap H).Ns b m:=fun {b m} ⟨o,es,ep,e,d,r⟩=>⟨o,es,ep,base_of e (noA e d),d,r⟩
  have hKb:K.In (a62 s₁.heap H):=λb o e=>base_of (KX b o e) (by
   cases q:H b with
   |none=>rfl
   |some u=>have e':b=a:=hA b (by rw[q];simp);subst e';rw[hK (by rw[q];simp)] at e;cases e)
  have hM:Mod K mg (a62 s₁.heap H):=⟨hKb,nsK hns,⟨mb,nsK hb,hbb⟩,let ⟨mc,h1,h2⟩:=hlim;⟨mc,nsK h1,h2⟩⟩;have e0:Env0 P w K mg (a62 s₁.heap H) callerA [] s₁ H:=⟨rfl,hM,λb o e=>al4 e,Nat.le_of_eq (Yt _ _),trivial,λb hb=>absurd (show b∈([]:List Addr) from hb) (by simp),hok,.of_eq hg⟩;refine codeAny_mono ((F _ hKb (nsK hns)).run callerA [] s₁ H ⟨[.ref a],[]⟩ [.ref a] [.ref a] _ _ hr e0 (hbind s₁ (.ref a)) (.cons rfl .nil) (hsp H hO hS)) λr s' h=>?_
  cases r with
  |error e=>exact(hCX H e s' h).elim
  |ok fl=>
    cases fl with
    |next=>exact False.elim h
    |brk=>exact False.elim h
    |cont=>exact False.elim h
    |ret u=>
      obtain⟨v,H',os,bare,un,hok',r',q⟩:=h;have q':v = .bl true:=q;subst q';obtain rfl:u=Value.bool true:=r';refine⟨rfl,OldK.of_keep λb o e=>?_,os,bare⟩
      cases q:H b with
      |none=>exact un.keep b o e q (by intro z;exact absurd (show b∈([]:List Addr) from z) (by simp)) (by simp)
      |some u=>
        rcases hO b with z|⟨ob,xs,z⟩
        . rw[q] at z;cases z
        have z2:=un.frzs b ob _ z;obtain⟨e1,_⟩:=hok b _ z;obtain⟨e2,_⟩:=hok' b _ z2;rw[e] at e1;cases e1;exact e2
 cases hk:K.lookup a with
 |some o=>
   have e:=KX a o hk;rw[ha] at e
   cases e;refine core (λ_=>none) (λ_=>.inl rfl) (.inr ⟨_,vs.toArray,_,hk,rfl,rfl,rfl,by rw[List.size_toArray,lenV];exact hl,by simpa using rv⟩) (λb u z=>by have z':(none:Option HO)=some u:=z;cases z') (λb z=>absurd rfl z) λz=>absurd rfl z
 |none=>
   refine core (λb=>if b=a then some (.frz {cls:=.type "list",data:=.seq vs.toArray} (.lst (ns.map V.int))) else none) (λb=>?_) (.inl (.inr ⟨{cls:=.type "list",data:=.seq vs.toArray},A0Y rfl⟩)) (λb u z=>?_) (λb z=>?_) λ_=>hk
   . by_cases hb:b=a
     . exact .inr ⟨_,_,A0Y hb⟩
     exact .inl (A0P hb)
   . by_cases hb:b=a
     . have z':=(A0Y hb).symm.trans z
       cases z';subst hb;exact⟨ha,by rw[A00];exact hl,vs,_,rv,ha⟩
     have z':=(A0P hb).symm.trans z
     cases z'
   by_cases hb:b=a
   . exact hb
   exact absurd (A0P hb) z
theorem walk_of {l:W.OpenLaw}{n k:Nat}{q:Program}{loose:List Str}{XP:(Str->Option Value)->Heap->Prop}{YP:World->Heap->Prop}{d:DefRec}{K:Params->W.Frag}{CX:World->CXT}{sp:World->Sp}{x:Str}
  (hn:l.most=some n) (hn2:n<=sizeLine) (hdf:d.params.defaults=[]) (hr:Room k callerA)
  (hY:∀(w:World) (h:Heap),YP w h->(K w.params).In h)
  (F:∀(w:World) (mg:Str->Option Value) (fa:Addr) (h:Heap),(K w.params).In h->h.Ns mainGlobals mg->mg d.name=some (.ref fa) ->
   ∃ fd:FuncData,(∀(s:Shared) (u:Value),BindsTo s fd ⟨[u],[]⟩ [(x,u)]) /\
    ∀ base:Heap,(K w.params).In base->base.Ns mainGlobals mg->FnOk l.prog w (K w.params) mg base (CX w) k fa fd [x] (sp w))
  (hsp:∀(w:World) (H:Hp) (a:Addr) (ns:List Int),ns.length<=n->aC2 H->SqL (K w.params) H a (ns.map V.int)->sp w [.ref a] H (λv _=>v = .bl true) λ_ _ _=>False)
  (hCX:∀(w:World) (H:Hp) (s:Shared) (e:Value) (s':Shared),CX w [] H s (λ_ _ _=>False) e s'->False) :
  W.WalkO q loose XP YP l.row.toRowW d [] (λf vs=>PySem.call f vs):=by
 refine Att.attach_call hn hdf λw s₀ s₁ mg mb fa o pm cd doc a vs ns G Y ho hd hcd hmg hobj hints hlen hg=>?_;have KX:=hY w _ Y;obtain⟨fd,hb,hF⟩:=F w mg fa _ KX G.T.g hmg;exact a78 KX G.T.g G.T.b G.T.builtins G.T.nolimit hg hobj hints (A0C hlen hn2) hr hF hb (λH hO hS=>hsp w H a ns hlen hO hS) λH e s'=>hCX w H s₁ e s'
def Te (s:Stmt)(j:Nat):Stmt:=match s with
 |.ClassDef _ _ _ body _ _ _ _ _ _ _=>body.getD j (.Pass ⟨0,0,0,0⟩)
 |_=>.Pass ⟨0,0,0,0⟩
def Ag (s:Stmt):Arguments:=match s with
 |.FunctionDef _ a _ _ _ _ _ _ _ _=>a
 |_=>{posonlyargs:=[],args:=[],vararg:=none,kwonlyargs:=[],kw_defaults:=[],kwarg:=none,defaults:=[]}
def Af (s:Stmt):List Stmt:=match s with
 |.FunctionDef _ _ b _ _ _ _ _ _ _=>b
 |_=>[]
def A3 (s:Stmt):Scope:=match s with
 |.FunctionDef _ _ _ _ _ _ sc _ _ _=>sc
 |_=>{kind:=.function,names:=[],isGenerator:=false,isCoroutine:=false}
abbrev CX0:CXT:=λ_ _ _ _ _ _=>False
abbrev E0:XK:=λ_ _ _=>False
theorem af9 {X:Cx}:Mz CX0 X E0:=λ_ _ _ _ _ _ _ h=>h.elim
structure Fun (K:W.Frag)(x qual:Str)(st:Stmt)(f:Addr)(fd:FuncData):Prop where
 ex:∃(oc:Value) (od:Option Addr) (kV doc pm:Value) (an:Option Addr) (cdv ct:Value) (osl:Array (Option Value)),
  fd=W.fnOf x qual (Ag st) (Af st) (A3 st) .none kV doc pm an cdv ct/\K.lookup f=some ⟨oc,od,.func fd,osl⟩/\W.codeIn K cdv qual=true
 kp:W.keepIn K (.ref f)=true
section
variable {P:Program}{w:World}{K:W.Frag}{mg:Str->Option Value}{base:Heap}
theorem Fun.ok {x qual:Str}{st:Stmt}{f:Addr}{fd:FuncData}{N ps:List Str}{k:Nat}{sp:Sp}(F:Fun K x qual st f fd)(S:Aq N ps (A3 st))(len:∀ vs H Q E,sp vs H Q E->vs.length=ps.length)
  (hbody:∀(cdv:Value) (A:Around) (outer:List Env) (s:Shared) (H:Hp) (vs:List V) (Q:VK) (E:XK),Room k (A.deeper (envOfC qual (A3 st) s.heap.objs.size f cdv))->sp vs H Q E ->
   ∃ t,PSs (am1 CX0 P w K mg base N qual (A3 st) f cdv A outer s H E).nox (Af st) t/\t {nx:=λ_ H'=>Q .non H',rt:=Q} (Qk N vs) H):FnOk P w K mg base CX0 (k+1) f fd ps sp:=by
 obtain⟨oc,od,kV,doc,pm,an,cdv,ct,osl,rfl,lk,hcd⟩:=F.ex;refine aD0 lk hcd S len λA outer s H vs Q E hr hsp=>?_;obtain⟨t,h,q⟩:=hbody cdv A outer s H vs Q E hr hsp;exact⟨t,h.nox,q⟩
theorem Fun.binds {x qual:Str}{st:Stmt}{f:Addr}{fd:FuncData}{ps:List Str}(F:Fun K x qual st f fd)
  (h:∀(kV doc pm:Value) (an:Option Addr) (cdv ct:Value) (us:List Value),us.length=ps.length->bindArgs (W.fnOf x qual (Ag st) (Af st) (A3 st) .none kV doc pm an cdv ct) ⟨us,[]⟩=pure (ps.zip us)):Binds K fd ps []:=by
 obtain⟨oc,od,kV,doc,pm,an,cdv,ct,osl,rfl,lk,hcd⟩:=F.ex;exact .all (h kV doc pm an cdv ct)
theorem B3 {x qual:Str}{st:Stmt}{f:Addr}{oc:Value}{od an:Option Addr}{osl:Array (Option Value)}{kV doc pm cdv ct:Value}(l:K.lookup f=some ⟨oc,od,.func (W.fnOf x qual (Ag st) (Af st) (A3 st) .none kV doc pm an cdv ct),osl⟩)
  (c:W.codeIn K cdv qual=true) (k:W.keepIn K (.ref f)=true):Fun K x qual st f (W.fnOf x qual (Ag st) (Af st) (A3 st) .none kV doc pm an cdv ct):=⟨⟨oc,od,kV,doc,pm,an,cdv,ct,osl,rfl,l,c⟩,k⟩
end
theorem Cj {A:Around}{k:Nat}(hr:Room k A):A.units+1<cLine:=Nat.lt_of_le_of_lt (Nat.add_le_add_left (by decide:1<=64) _) hr.units
theorem Ye {n:Nat}(h:n<=1000):n<sizeLine:=Nat.lt_of_le_of_lt h nofun
section
variable {X:Cx}
theorem pv (i:Nat){x:Str}{pos:Pos}(hN:X.N[i]? = some x:=by ac_nf)(hv:Vis X.env.scope x:=by with_unfolding_all first | exact Or.inl rfl | exact A3B (Or.inl rfl) | exact A3B (A3B rfl))(hd:(x==("__debug__":Str))=false:=by decide)
  (hcd:(x==("__classdict__":Str))=false:=by decide):PE X (.Name x pos) (aC8 i):=at4 hN hv hd hcd
end
theorem iteF {A B:Prop}(h:B):if false=true then A else B:=by rw[A0P A0G];exact h
theorem iteT {A B:Prop}(h:A):if true=true then A else B:=by rw[A0Y rfl];exact h
def Same (H H':Hp):Prop:=∀ b o,H b=some o->H' b=some o
theorem Same.refl (H:Hp):Same H H:=λ_ _ h=>h
theorem Same.trans {H H1 H2:Hp} (a:Same H H1) (b:Same H1 H2):Same H H2:=λc o h=>b c o (a c o h)
theorem Same.free {H H':Hp}(e:Same H H'){l:Addr}(h:H' l=Option.none):H l=Option.none:=by
 cases q:H l with
 |none=>rfl
 |some o=>
   rw[e l o q] at h
   cases h
theorem Same.seq {K:W.Frag}{H H':Hp}{a:Addr}{xs:List V}(e:Same H H')(h:SqL K H a xs):SqL K H' a xs:=by
 rcases h with (h|⟨o,h⟩)|h
 . exact .inl (.inl (e _ _ h))
 . exact .inl (.inr ⟨o,e _ _ h⟩)
 exact .inr h
section
variable {X:Cx}
theorem a09:CallR X (.builtin "len") (λxs H Q=>∃ a kvs,xs=[V.ref a]/\H a=some (.dK kvs)/\Q (.int kvs.length) H):=by
 intro pins s σ H xs us Q I r h;obtain⟨a,kvs,rfl,ha,q⟩:=h;obtain⟨u,rfl,ru⟩:=J9 r
 cases ru;exact aA8 I (.inl ha) λt s' I'=>⟨.int kvs.length,H,I',⟨t,rfl⟩,q⟩
end
section
variable {κ:Type}[DecidableEq κ]
theorem a79 {kvs:List (κ×V)}{k:κ}(h:Dg kvs k=none):¬ k∈kvs.map (·.1):=by intro m;obtain⟨p,hp,e⟩:=A0V.mp m;have q:(kvs.any λkv=>decide (kv.1=k))=true:=A2F.mpr ⟨p,hp,A0K e⟩;rw[Fy,h] at q;exact absurd q (by simp)
theorem aj5 {kvs:List (κ×V)}{k:κ}{v:V}(h:Dg kvs k=some v):k∈kvs.map (·.1):=by
 have q:(kvs.any λkv=>decide (kv.1=k))=true:=by
  rw[Fy,h]
  all_goals rfl
 obtain ⟨p,hp,e⟩:=A2F.mp q;exact A0V.mpr ⟨p,hp,A1A e⟩
theorem a39:∀ {l:List κ} {k:κ},l.Nodup->¬ k∈l->(l++[k]).Nodup
 | [],k,_,_=>by simp
 |a :: r,k,h,hk=>by
   obtain⟨h1,h2⟩:=A0O.mp h;show(a :: (r++[k])).Nodup;refine A0O.mpr ⟨λm=>?_,a39 h2 λm=>hk (A0F.mpr (A3B m))⟩;rcases A0B.mp m with q|q
   . exact h1 q
   exact hk (A0F.mpr (Or.inl (A16.mp q).symm))
theorem al9 {kvs:List (κ×V)}{k:κ}(v:V)(hn:(kvs.map (·.1)).Nodup)(h:Dg kvs k=none):((Eb kvs k v).map (·.1)).Nodup:=by rw[Jd v h,A0A];exact a39 hn (a79 h)
end
def Ko (env:Env)(names:List (Str×NameKind))(acc:List (Str×Addr)):List (Str×Addr):=
 names.foldl (λacc y=>if y.2==NameKind.free then(y.1,(env.cells.lookup y.1).getD 0) :: acc else acc) acc
theorem Mw {env:Env}{scope:Scope}(h:∀ y∈scope.names,y.2=NameKind.free->∃ c,env.cells.lookup y.1=some c):closureFor scope env=pure (Ko env scope.names []):=by
 have all:∀(names:List (Str×NameKind)) (acc:List (Str×Addr)),(∀ y∈names,y.2=NameKind.free->∃ c,env.cells.lookup y.1=some c) ->
   (forIn names acc λ(y:Str×NameKind) (cs:List (Str×Addr))=>(match y with
    | (name,kind)=>if(kind==NameKind.free)=true then do let c <- cellOf env name;pure (ForInStep.yield ((name,c) :: cs)) else pure (ForInStep.yield cs):Sem (ForInStep (List (Str×Addr)))))=(pure (Ko env names acc):Sem (List (Str×Addr))):=by
  intro names
  induction names with
  |nil=>intro acc _;rfl
  |cons y r ih=>
    intro acc hy;obtain⟨n,k⟩:=y;rw[List.forIn_cons]
    by_cases hk:k=NameKind.free
    . subst hk;obtain⟨c,hc⟩:=hy (n,.free) A0S rfl;have e:cellOf env n=pure c:=by unfold cellOf;rw[show env.cells.lookup n=some c from hc]
      have e2:Ko env ((n,NameKind.free) :: r) acc=Ko env r ((n,c) :: acc):=by unfold Ko;rw[A44];simp only[beq_self_eq_true,if_true];rw[show env.cells.lookup n=some c from hc];rfl
      rw[e2,<- ih ((n,c) :: acc) λz hz=>hy z (A0E _ hz)];simp only[beq_self_eq_true,if_true,e];rfl
    have hb:(k==NameKind.free)=false:=by simpa using hk
    have e2:Ko env ((n,k) :: r) acc=Ko env r acc:=by unfold Ko;rw[A44];simp only[hb,Bool.false_eq_true,if_false]
    rw[e2,<- ih acc λz hz=>hy z (A0E _ hz)];simp only[hb,Bool.false_eq_true,if_false];rfl
 have q:=all scope.names [] h;unfold closureFor
 first
  |exact q
  | (simp only[bind_pure];exact q)
  | (refine Eq.trans ?_ q;rfl)
theorem Tz {env:Env}{x:Str}{c:Addr}:∀ {names:List (Str×NameKind)} {acc:List (Str×Addr)},(∀ y∈names,y.2=NameKind.free->∃ c,env.cells.lookup y.1=some c)->(acc.lookup x=some c->env.cells.lookup x=some c) ->
  (Ko env names acc).lookup x=some c->env.cells.lookup x=some c
 | [],acc,_,ha,h=>ha h
 | (n,k) :: r,acc,hn,ha,h=>by
   have e:Ko env ((n,k) :: r) acc=Ko env r (if k==NameKind.free then(n,(env.cells.lookup n).getD 0) :: acc else acc):=rfl
   rw[e] at h;refine Tz (λy hy=>hn y (A0E _ hy)) (λq=>?_) h
   by_cases hk:k=NameKind.free
   . subst hk;simp only[beq_self_eq_true,if_true,List.lookup_cons] at q;obtain⟨d,hd⟩:=hn (n,.free) A0S rfl;have hd':env.cells.lookup n=some d:=hd
     split at q
     . rename_i hx;have hx':x=n:=A10.mp hx;rw[hd'] at q;rw[hx',hd'];exact q
     exact ha q
   have hb:(k==NameKind.free)=false:=by simpa using hk
   simp only[hb,Bool.false_eq_true,if_false] at q;exact ha q
theorem Nr {env:Env}{x:Str}:∀ {names:List (Str×NameKind)} {acc:List (Str×Addr)},((∃ c,acc.lookup x=some c)\/(x,NameKind.free)∈names)->∃ c,(Ko env names acc).lookup x=some c
 | [],acc,h=>by
   rcases h with h|h
   . exact h
   cases h
 | (n,k) :: r,acc,h=>by
   have e:Ko env ((n,k) :: r) acc=Ko env r (if k==NameKind.free then(n,(env.cells.lookup n).getD 0) :: acc else acc):=rfl
   rw[e];refine Nr ?_
   by_cases hk:k=NameKind.free
   . subst hk;simp only[beq_self_eq_true,if_true,List.lookup_cons]
     by_cases hx:x=n
     . left;have hb:(x==n)=true:=A10.mpr hx;rw[hb];exact⟨_,rfl⟩
     have hb:(x==n)=false:=A1R.mpr hx;rw[hb];rcases h with h|h
     . exact .inl h
     rcases A0F.mp h with q|q
     . cases q;exact absurd rfl hx
     exact .inr q
   have hb:(k==NameKind.free)=false:=by simpa using hk
   simp only[hb,Bool.false_eq_true,if_false];rcases h with h|h
   . exact .inl h
   rcases A0F.mp h with q|q
   . cases q;exact absurd rfl hk
   exact .inr q
theorem Dw:∀(names:List (Str×NameKind)) (n:Nat) (acc:List (Str×Addr)),cellsFrom n names acc=cellsFrom n names []++acc
 | [],_,_=>rfl
 | (x,k) :: r,n,acc=>by
   unfold cellsFrom
   split
   . rw[Dw r (n+1) ((x,n) :: acc),Dw r (n+1) [(x,n)],A12];rfl
   exact Dw r n acc
theorem Jx {x:Str}{c:Addr}:∀ {names:List (Str×NameKind)} {n:Nat},(x,c)∈cellsFrom n names []->(x,NameKind.cell)∈names
 | [],_,h=>by cases h
 | (y,k) :: r,n,h=>by
   unfold cellsFrom at h
   split at h
   . rename_i hk;rw[Dw] at h;rcases A0B.mp h with h|h
     . exact A0E _ (Jx h)
     have e:=A16.mp h
     cases e;rw[A10.mp hk];exact A0S
   exact A0E _ (Jx h)
theorem M9 {α:Type}{x:Str}{c:α}:∀ {l:List (Str×α)},(x,c)∈l->∃ d,l.lookup x=some d
 | [],h=>by cases h
 | (y, d) :: r,h=>by
   rw[A1U]
   cases e:x==y with
   |true=>exact⟨d,rfl⟩
   |false=>
     rcases A0F.mp h with q|q
     . cases q;simp at e
     exact M9 q
theorem Jr {x:Str}:∀ {names:List (Str×NameKind)} {n:Nat},(x,NameKind.cell)∈names->∃ c,(x,c)∈cellsFrom n names []
 | [],_,h=>by cases h
 | (y,k) :: r,n,h=>by
   unfold cellsFrom
   split
   . rw[Dw];rcases A0F.mp h with q|q
     . cases q;exact⟨n,List.mem_append_right _ (by simp)⟩
     obtain⟨c,hc⟩:=Jr (n:=n+1) q;exact⟨c,A2G _ hc⟩
   rename_i hk;rcases A0F.mp h with q|q
   . cases q;exact absurd rfl hk
   exact Jr q
def Vl (outer scope:Scope)(xs fr:List Str):Bool:=
 (scope.kind == .function)&&(outer.kind == .function)&&decide (scope.names.map (·.1)).Nodup
 && (scope.names.all λy=>y.2 != .local||scope.names.lookup y.1==some .local)
 && (scope.names.all λy=>y.2 != .free||(outer.names.lookup y.1==some .cell||outer.names.lookup y.1==some .free))
 && (scope.names.all λy=>y.2 != .free||scope.names.lookup y.1==some .free)
 && (xs.all λx=>scope.names.lookup x==some .local||scope.names.lookup x==some .cell)&&(fr.all λx=>scope.names.lookup x==some .free)&&decide (xs++fr).Nodup
theorem Dl {α:Type}{x:Str}{v:α}:∀ {l:List (Str×α)},l.lookup x=some v->(x,v)∈l
 | [],h=>by cases h
 | (n,k) :: r,h=>by
   rw[A1U] at h
   split at h
   . rename_i hx;have hx':x=n:=A10.mp hx
     cases h;rw[hx'];exact A0S
   exact A0E _ (Dl h)
theorem J1 {scope:Scope}{env:Env}{x:Str}{k:NameKind}(hk:env.scope.kind = .function):∀ {names:List (Str×NameKind)},names.lookup x=some k ->
  (names.map λ(n,k)=>if(k==NameKind.free&&env.scope.kind == .function&&env.kindOf n==some .cell) then(n,NameKind.cell) else(n,k)).lookup x=some (if(k==NameKind.free&&env.kindOf x==some .cell) then .cell else k)
 | [],h=>by cases h
 | (n,j) :: r,h=>by
   have ih:=@J1 scope env x k hk r;rw[A0I];rw[A1U] at h;dsimp only
   split at h
   . rename_i hx;have hx':x=n:=A10.mp hx
     cases h;subst hx'
     by_cases hc:(k==NameKind.free&&env.scope.kind == .function&&env.kindOf x==some .cell)=true
     . have hc2:(k==NameKind.free&&env.kindOf x==some .cell)=true:=by rw[A1L,A1L] at hc;rw[A1L];exact⟨hc.1.1,hc.2⟩
       rw[A0Y hc,A0Y hc2,A1U,beq_self_eq_true]
     have hc2:¬ (k==NameKind.free&&env.kindOf x==some .cell)=true:=λq=>hc (by rw[A1L] at q;rw[A1L,A1L,hk];exact⟨⟨q.1,rfl⟩,q.2⟩)
     rw[A0P hc,A0P hc2,A1U,beq_self_eq_true]
   rename_i hx;have hx':(x==n)=false:=by simpa using hx
   by_cases hc:(j==NameKind.free&&env.scope.kind == .function&&env.kindOf n==some .cell)=true
   . rw[A0Y hc,A1U,hx'];exact ih h
   rw[A0P hc,A1U,hx'];exact ih h
theorem Ge {env:Env} {x:Str} {k:NameKind}:∀ {names:List (Str×NameKind)},
  (names.map λ(n,k)=>if(k==NameKind.free&&env.scope.kind == .function&&env.kindOf n==some .cell) then(n,NameKind.cell) else(n,k)).lookup x=some k ->
  ∃ j,names.lookup x=some j/\(k=j\/(j = .free/\k = .cell))
 | [],h=>by cases h
 | (n,j) :: r,h=>by
   have ih:=@Ge env x k r;rw[A0I] at h;dsimp only at h
   by_cases hc:(j==NameKind.free&&env.scope.kind == .function&&env.kindOf n==some .cell)=true
   . rw[A0Y hc,A1U] at h
     have hj:j = .free:=by rw[A1L,A1L] at hc;exact A10.mp hc.1.1
     rw[A1U]
     split at h
     . rename_i hx
       cases h;exact⟨j,rfl,.inr ⟨hj,rfl⟩⟩
     rename_i hx;have hx':(x==n)=false:=by simpa using hx
     exact ih h
   rw[A0P hc,A1U] at h;rw[A1U]
   split at h
   . rename_i hx
     cases h;exact⟨_,rfl,.inl rfl⟩
   rename_i hx;have hx':(x==n)=false:=by simpa using hx
   exact ih h
structure CompS (X:Cx)(scope:Scope)(xs fr:List Str):Prop where
 kind:scope.kind = .function
 okind:X.env.scope.kind = .function
 uniq:(scope.names.map (·.1)).Nodup
 names:∀ y∈scope.names,y.2 = .local->scope.names.lookup y.1=some .local
 free:∀ y∈scope.names,y.2 = .free->X.env.kindOf y.1=some .cell\/X.env.kindOf y.1=some .free
 own:∀ x∈xs,scope.names.lookup x=some .local\/scope.names.lookup x=some .cell
 fre:∀ x∈fr,scope.names.lookup x=some .free
 nd:(xs++fr).Nodup
theorem Vu {X:Cx}{scope:Scope}{xs fr:List Str}(h:Vl X.env.scope scope xs fr=true):CompS X scope xs fr:=by unfold Vl at h;simp only[Bool.and_eq_true,List.all_eq_true,bne_iff_ne,Bool.or_eq_true,beq_iff_eq,decide_eq_true_eq] at h;obtain⟨⟨⟨⟨⟨⟨⟨⟨h1,h2⟩,h3⟩,h4⟩,h5⟩,h6⟩,h7⟩,h8⟩,h9⟩:=h;exact⟨h1,h2,h3,λy hy e=>(h4 y hy).resolve_left (λq=>q e),λy hy e=>(h5 y hy).resolve_left (λq=>q e),h7,h8,h9⟩
def Qe (σ:St)(js:List Nat):St:=js.map λj=>(σ[j]?).getD none
abbrev cxC (X:Cx)(scope:Scope)(xs fr:List Str)(C:Addr)(ex:List Addr)(s₀:Shared)(H₀:Hp):Cx:=
 {X with N:=xs++fr,env:=compEnvC scope (cellsFrom (C+1) scope.names (Ko X.env scope.names [])) C X.env,s₀:=s₀,H₀:=H₀,outer:=X.stack,ex:=ex,fn:=λx=>scope.names.lookup x==some .cell,pn:=[],xe:=λ_ _=>False}
section
variable {X:Cx}{scope:Scope}{xs fr:List Str}{pins:List (Addr×Obj)}{σ:St}{H:Hp}{s:Shared}{js:List Nat}{fp:List Addr}
theorem Pw {α:Type}{x:Str}{v:α}:∀ {l:List (Str×α)},(l.map (·.1)).Nodup->(x,v)∈l->l.lookup x=some v
 | [],_,h=>by cases h
 | (y,d) :: r,hn,h=>by
   obtain⟨h1,h2⟩:=A0O.mp hn;rw[A1U];rcases A0F.mp h with q|q
   . cases q;rw[beq_self_eq_true]
   have hne:(x==y)=false:=A1R.mpr λe=>h1 (e ▸ A0V.mpr ⟨(x,v),q,rfl⟩);rw[hne];exact Pw h2 q
theorem CompS.cells (S:CompS X scope xs fr)(ok:X.Ok):∀ y∈scope.names,y.2=NameKind.free->∃ c,X.env.cells.lookup y.1=some c:=λy hy e=>ok.has _ (S.free y hy e)
theorem a47 (S:CompS X scope xs fr)(hjs:js.map (λj=>X.N[j]?)=fr.map some)(I:Inv X pins σ H s)(hfp:∀ b∈fp,Uf X pins H b)(hob:∀ b∈fp,∃ o,s.heap.get? b=some o){h':Heap}{t':Nat}
  (hn:h'.Ns s.heap.objs.size λ_=>none) (keep:∀ b o,s.heap.get? b=some o->h'.get? b=some o) (hcs:CellsOk h' (s.heap.objs.size+1) (cellsFrom (s.heap.objs.size+1) scope.names [])) :
  Inv (cxC X scope xs fr s.heap.objs.size fp s H) [] (List.replicate xs.length none++Qe σ js) H {s with heap:=h',toks:=t'}:=by
 have hcl:=S.cells I.ok;have sub:∀ x c,(Ko X.env scope.names []).lookup x=some c->X.env.cells.lookup x=some c:=λx c h=>Tz hcl (λq=>by cases q) h;have hl:js.length=fr.length:=by have:=congrArg List.length hjs;rwa[A00,A00] at this
 have two:∀ x c,(cellsFrom (s.heap.objs.size+1) scope.names (Ko X.env scope.names [])).lookup x=some c->(x,c)∈cellsFrom (s.heap.objs.size+1) scope.names []\/(Ko X.env scope.names []).lookup x=some c:=λx c h=>by
  rw[Dw,A4B] at h
  cases e:(cellsFrom (s.heap.objs.size+1) scope.names []).lookup x with
  |some d=>
    rw[e] at h
    cases h;exact .inl (Dl e)
  |none=>rw[e] at h;exact .inr h
 have oldc:∀ x c,X.env.cells.lookup x=some c->c<s.heap.objs.size:=λx c h=>let ⟨_,_,ho,_⟩:=I.cell x c h;A0N ho;have newc:∀ x c,(x,c)∈cellsFrom (s.heap.objs.size+1) scope.names []->s.heap.objs.size<c:=λx c h=>(hcs.empty x c h).2
 refine⟨⟨I.ok.mod,S.kind,I.ok.glob,I.ok.blt,A05 _,λx y c h1 h2=>?_,λx hx=>?_,λx c hf h=>?_,I.ok.hd,I.ok.frames,.inl rfl,λb hb=>?_,λb o e=>I.bs b o e,A0C I.ok.bsz I.sz,λb o e hb=>?_,λb hb hb2=>?_,I.stack,I.stkFree⟩,
  rfl,I.bare,Un.kept keep,⟨_,hn,λi x v e1 e2 e3=>?_⟩,λx c h=>?_,I.hok.fresh (Nat.le_refl _),λx c h=>?_,λp hp=>absurd (show p∈([]:List (Addr×Obj)) from hp) (by simp),I.hok.kept keep,?_⟩
 . rcases two x c h1 with g1|g1
   . rcases two y c h2 with g2|g2
     . exact name_of_addr hcs.apart g1 g2
     exact absurd (oldc y c (sub y c g2)) (Nat.not_lt.mpr (A1F (newc x c g1)))
   rcases two y c h2 with g2|g2
   . exact absurd (oldc x c (sub x c g1)) (Nat.not_lt.mpr (A1F (newc y c g2)))
   exact I.ok.inj x y c (sub x c g1) (sub y c g2)
 . -- the names that are cells there have one
   have hx:(relabel scope X.env).names.lookup x=some .cell\/(relabel scope X.env).names.lookup x=some .free:=hx
   have app:∀ c,(Ko X.env scope.names []).lookup x=some c\/(x,c)∈cellsFrom (s.heap.objs.size+1) scope.names []->∃ c,(cellsFrom (s.heap.objs.size+1) scope.names (Ko X.env scope.names [])).lookup x=some c:=λc h=>by
    rw[Dw,A4B];rcases h with h|h
    . cases (cellsFrom (s.heap.objs.size+1) scope.names []).lookup x with
      |some d=>exact⟨d,rfl⟩
      |none=>exact⟨c,h⟩
    obtain⟨d,hd⟩:=M9 h;rw[hd];exact⟨d,rfl⟩
   have go:∀ k,(relabel scope X.env).names.lookup x=some k->(k = .cell\/k = .free)->∃ c,(cellsFrom (s.heap.objs.size+1) scope.names (Ko X.env scope.names [])).lookup x=some c:=λk e hk=>by
    obtain⟨j,hj,q⟩:=Ge (env:=X.env) (names:=scope.names) e;have hm:=Dl hj
    have hjf:j = .free\/j = .cell:=by
     rcases q with q|q
     . rcases hk with hk|hk
       . exact .inr (q ▸ hk)
       exact .inl (q ▸ hk)
     exact .inl q.1
    rcases hjf with hjf|hjf
    . subst hjf;obtain⟨c,hc⟩:=Nr (env:=X.env) (x:=x) (names:=scope.names) (acc:=[]) (.inr hm);exact app c (.inl hc)
    subst hjf;obtain⟨c,hc⟩:=Jr (n:=s.heap.objs.size+1) hm;exact app c (.inr hc)
   rcases hx with hx|hx
   . exact go _ hx (.inl rfl)
   exact go _ hx (.inr rfl)
 . rcases two x c h with g|g
   . exact A1F (newc x c g)
   have hf':scope.names.lookup x=some .cell:=by simpa using hf
   obtain⟨d,hd⟩:=Jr (n:=s.heap.objs.size+1) (Dl hf');have h':=h;obtain⟨e,he⟩:=M9 hd;have h':(cellsFrom (s.heap.objs.size+1) scope.names (Ko X.env scope.names [])).lookup x=some c:=h;rw[Dw,A4B,he] at h'
   cases h';exact A1F (newc x _ (Dl he))
 . obtain⟨f0,f1,f2,f3,f4,f5⟩:=hfp b hb;obtain⟨o,ho⟩:=hob b hb;refine⟨A19 (A0N ho),λx c h z=>?_⟩;rcases two x c h with g|g
   . have h1:=newc x c g;have h2:=A0N ho;rw[<- z] at h2;exact absurd h1 (Nat.not_lt.mpr (A1F h2))
   exact f4 x c (sub x c g) z
 . obtain⟨f0,f1,f2,f3,f4,f5⟩:=hfp b hb;rcases f3 with f3|f3
   . exact I.ok.noex b o e f3
   exact absurd (A1C (A0N (I.ok.bs b o e).1) f3) (A2Z _)
 . obtain⟨f0,f1,f2,f3,f4,f5⟩:=hfp b hb;rcases A0F.mp (I.stkSub b hb2) with z|z
   . exact f1 z
   exact f2 z
 . have e1:(xs++fr)[i]? = some x:=e1
   by_cases hi:i<xs.length
   . rw[A20 (by rw[A2S];exact hi),A4L,A0Y hi] at e2
     cases e2
   have hi':xs.length<=i:=Nat.le_of_not_lt hi;rw[A18 hi'] at e1;rw[A18 (by rw[A2S];exact hi'),A2S] at e2;unfold Qe at e2;rw[A07] at e2
   cases ej:js[i-xs.length]? with
   |none=>rw[ej] at e2;cases e2
   |some j=>
     rw[ej] at e2;have e2':(σ[j]?).getD none=some v:=A1I e2
     have e4:σ[j]? = some (some v):=by
      cases q:σ[j]? with
      |none=>rw[q] at e2';cases e2'
      |some o=>rw[q] at e2';rw[show o=some v from e2']
     have e5:X.N[j]? = some x:=by have:=congrArg (λl=>l[i-xs.length]?) hjs;rw[A07,A07,ej,e1] at this;exact A1I this
     have hf:=S.fre x (A03 e1);have hk:=S.free _ (Dl hf) rfl;obtain⟨m,hm,hl'⟩:=I.loc;obtain⟨u,r,lk⟩:=hl' j x v e5 e4 (.inr hk);refine⟨u,r,.inr ⟨?_,?_⟩⟩
     . have q:=J1 (scope:=scope) (env:=X.env) S.okind hf;show(relabel scope X.env).names.lookup x=some .cell\/(relabel scope X.env).names.lookup x=some .free;have q':(relabel scope X.env).names.lookup x=some (if(NameKind.free==NameKind.free&&X.env.kindOf x==some .cell) then .cell else .free):=q
       by_cases hc:(NameKind.free==NameKind.free&&X.env.kindOf x==some .cell)=true
       . rw[A0Y hc] at q';exact .inl q'
       rw[A0P hc] at q';exact .inr q'
     obtain⟨c',hc'⟩:=Nr (env:=X.env) (x:=x) (names:=scope.names) (acc:=[]) (.inr (Dl hf));rcases lk with ⟨z,_⟩|⟨_,c,hc,ob,ho,hd⟩
     . rcases hk with hk|hk
       . rw[z] at hk;cases hk
       rw[z] at hk;cases hk
     have e6:c=c':=by have:=sub x c' hc';rw[hc] at this;exact A1I this
     subst e6;refine⟨_,?_,ob,keep _ _ ho,hd⟩;show(cellsFrom (s.heap.objs.size+1) scope.names (Ko X.env scope.names [])).lookup x=some c;rw [Dw,A4B]
     have none':(cellsFrom (s.heap.objs.size+1) scope.names []).lookup x=none:=by
      cases e:(cellsFrom (s.heap.objs.size+1) scope.names []).lookup x with
      |none=>rfl
      |some d=>
        have:=Pw S.uniq (Jx (Dl e));rw[hf] at this
        cases this
     rw[none'];exact hc'
 . rcases two x c h with g|g
   . exact⟨_,(hcs.empty x c g).1⟩
   obtain⟨v,ob,ho,hd⟩:=I.cell x c (sub x c g);exact⟨v,ob,keep _ _ ho,hd⟩
 . rcases two x c h with g|g
   . exact I.hok.fresh (A1F (newc x c g))
   exact I.freeC x c (sub x c g)
 show _=(xs++fr).length;unfold Qe;rw[A08,A08,A2S,A00,hl]
theorem Yr {M:Model}{A:Around}{E:Value->Shared->Prop}{s:Shared}{scope:Scope}{globals:Addr}{cl:List (Str×Addr)}{qual:Str}{env:Env}{Q:Env->Shared->Prop}
  (hQ:∀ h',h'.Ns s.heap.objs.size (λ_=>none)->(∀ b o,s.heap.get? b=some o->h'.get? b=some o)->CellsOk h' (s.heap.objs.size+1) (cellsFrom (s.heap.objs.size+1) scope.names []) ->
   Q (newEnv scope s.heap.objs.size globals (cellsFrom (s.heap.objs.size+1) scope.names cl) qual none .none (some env) builtinsNs) {s with heap:=h'}) :
  wpAny M A (newFunctionEnv scope globals cl [] qual none .none (some env)) Q E s:=by
 simp only[newFunctionEnv,Option.isSome_some,if_true];refine A02 (wpAny_alloc ?_);refine wpAny_bind (wpAny_layCells _ (λname kind cells=>by cases hkc:kind==NameKind.cell<;>simp[hkc]) _ _ _ _ ?_)
 have okc:=cellsFrom_ok scope.names (s.heap.push {cls:=.type "dict",data:=.dict #[]}) (s.heap.objs.size+1) [] ⟨λ_ _ hm=>(nomatch hm),A2K⟩ (by rw[A35];exact A05 _);rw[A35] at okc;rw[show({s with heap:=s.heap.push {cls:=.type "dict",data:=.dict #[]}}:Shared).heap.objs.size=s.heap.objs.size+1 from A35 ..]
 rw[List.forIn_nil];exact A02 (A09 (A09 (hQ _ ((Heap.Ns.new s.heap (.type "dict")).keeps (pushCells_keeps _ _)) (λb o e=>pushCells_keeps _ _ b o (A06 _ e)) okc)))
theorem a37 {σ':St}{H':Hp}{s':Shared}{h'':Heap}(I:Inv X pins σ H s)(hfp:∀ b∈fp,Uf X pins H b)(J:Inv (cxC X scope xs fr s.heap.objs.size fp s H) [] σ' H' s')(hs:Heap.SameBut s.heap.objs.size s'.heap h'') :
  Inv X pins σ H' {s' with heap:=h''}:=by
 have old:∀ b o,s.heap.get? b=some o->b≠s.heap.objs.size:=λb o e=>A19 (A0N e);have ub:Un (frs X.stack) fp H H' s.heap s'.heap:=J.base;refine I.call' (s':={s' with heap:=h''}) (ch:=fp) J.os ⟨λb o e n hb hx=>(hs.2 b (old b o e)).trans (ub.keep b o e n hb hx),λb o e n hb hx=>?_,ub.free,λb o e hx=>?_,ub.tups,ub.frzs,ub.tbls⟩ (λb o e=>?_) J.bare λb hb=>?_
 . obtain⟨sl,e1⟩:=ub.slot b o e n hb hx;exact⟨sl,(hs.2 b (old b o e)).trans e1⟩
 . obtain⟨o',e1⟩:=ub.there b o e hx;exact⟨o',(hs.2 b (old b o e)).trans e1⟩
 . have hf:H' s.heap.objs.size=none:=J.free;refine(J.hok b o e).stay (λc v hc q=>(hs.2 c ?_).trans q) (λ_ q=>q) λ_ _ q=>q;intro z;rcases hc with hc|hc
   . rw[<- hc,z,hf] at e;cases e
   rw[z,hf] at hc;cases hc
 obtain⟨f0,f1,f2,f3,f4,f5⟩:=hfp b hb;exact⟨f3,f1,f4,f5⟩
def PIf (X:Cx)(ifs:List Expr)(t:TT):Prop:=
 ∀(pins:List (Addr×Obj)) (s:Shared) (σ:St) (H:Hp) (Q:Bool->Hp->Prop) (E:Value->Shared->Prop),(∀ e s',X.xe e s'->E e s')->Inv X pins σ H s->t σ H Q ->
  wpAny (model X.prog X.w) X.A (forIn ifs true λc r=>if r=true then do let ok <- isTrue c X.env (eval c X.env);pure (ForInStep.yield ok) else pure (ForInStep.yield r)) (TP X pins σ Q) E s
def ae6:TT:=λ_ H Q=>Q true H
theorem Cr:PIf X [] ae6:=λ_ _ _ H _ _ _ I h=>wpAny_tests_nil ⟨H,I,h⟩
theorem Es {c:Expr}{t:TT}(hc:PT X c t):PIf X [c] t:=λpins s σ H Q _ hE I h=>wpAny_tests_one (A2V (hc pins s σ H Q I h) (λ_ _ z=>z) hE)
def al1 (k:Nat)(js:List Nat)(wi:TI)(g:TG)(tt:TT)(te:TE):TE:=fun σ H Q=>wi σ H λJ H1=>∀ p,H1 p=none ->
 ∃ W:Nat->Nat->Hp->Prop,(∃ m,W 0 m (upd H1 p (.lst [])))/\∀ i m H,W i m H ->
  (J.stop i H/\Q (.ref p) H)\/(J.go i H/\∃ N:Hp->Prop,(∀ H',N H'->∃ m',m'<m/\W (i+1) m' H') /\
   ∀ x H',J.yld i H x H'->g x (List.replicate k none++Qe σ js) H' fun σ2 H2=>tt σ2 H2 λb H3=>if b=true then te σ2 H3 λy H4=>∃ acc,H4 p=some (.lst acc)/\acc.length<sizeLine/\N (upd H4 p (.lst (acc++[y]))) else N H3)
theorem Zh {tg elt iter:Expr}{ifs:List Expr}{pos:Pos}{it acc:Value}{env:Env}{A:Around}{R:Result->Shared->Prop}{s:Shared}{P:Program}{w:World}(I:Nat->Shared->Prop)
  (turn:∀ n s,I n s->wpAny (model P w) A (pyNext it) (λr s₁=>match r with
   |none=>R (.ok .next) s₁
   |some v=>wpAny (model P w) A (letOwnedTupleGo tg it v) (λ_ s₁'=>wpAny (model P w) A (assign tg env v) (λ_ s₂=>
     wpAny (model P w) A (forIn ifs true λc r=>if r=true then do let ok <- isTrue c env (eval c env);pure (ForInStep.yield ok) else pure (ForInStep.yield r)) (λok s₃=>
      if ok=true then wpAny (model P w) A (eval elt env) (λx s₄=>wpAny (model P w) A (call (.builtin "list.append") [acc,x]) (λ_ s₅=>∃ m,m<n/\I m s₅) (λ_ _=>False) s₄) (λ_ _=>False) s₃
      else ∃ m,m<n/\I m s₃) (λ_ _=>False) s₂) (λ_ _=>False) s₁') (λ_ _=>False) s₁) (λ_ _=>False) s)
  (n:Nat) (h:I n s):codeAny (model P w) A (.compLoop (.ListComp elt [⟨tg,iter,ifs,0⟩] scope pos) 0 it acc env) R s:=by
 refine codeAny_loop rfl I (λn s hI=>?_) n h;show wpAny _ A ((compTurn (.ListComp elt [⟨tg,iter,ifs,0⟩] scope pos) 0 it acc env).onRaise (λx=>do noteFrame x env;theTreesLotGoes x)) _ _ s
 refine wpAny_noted ?_;rw [compTurn_list];refine A02 (wpAny_standAt (A02 (A2V (turn n s hI) (λr s₁ h₁=>?_) λ_ _ h'=>h'.elim)))
 cases r with
 |none=>exact A09 h₁
 |some v=>
   refine A02 (A2V h₁ (λ_ s₁' h₁'=>?_) λ_ _ h'=>h'.elim);refine A02 (A2V h₁' (λ_ s₂ h₂=>A02 (A2V h₂ (λok s₃ h₃=>?_) λ_ _ h'=>h'.elim)) λ_ _ h'=>h'.elim)
   cases ok with
   |false=>exact A09 ⟨rfl,h₃⟩
   |true=>exact A02 (A02 (A2V h₃ (λx s₄ h₄=>A02 (A2V h₄ (λ_ s₅ h₅=>A09 (A09 ⟨rfl,h₅⟩)) λ_ _ h'=>h'.elim)) λ_ _ h'=>h'.elim))
def a60 (n:Nat)(g:TG):Prop:=∀ x σ H Q,g x σ H Q->g x σ H fun σ' H'=>(∀ k,n<=k->σ'[k]? = σ[k]?)/\Q σ' H'
theorem Ay {n i:Nat}(h:i<n):a60 n (Mf i):=λx σ H Q q=>⟨λk hk=>A3Y ∅,q⟩
theorem W2 {tg elt iter:Expr}{ifs:List Expr}{pos:Pos}{g:TG}{tt:TT}{te:TE}(hc:X.calm=true)(S:CompS X scope xs fr)(hjs:js.map (λj=>X.N[j]?)=fr.map some)
  (hg:∀ C ex s₀ H₀,PG (cxC X scope xs fr C ex s₀ H₀) tg g) (hk:a60 xs.length g) (hi:∀ C ex s₀ H₀,PIf (cxC X scope xs fr C ex s₀ H₀) ifs tt) (he:∀ C ex s₀ H₀,PE (cxC X scope xs fr C ex s₀ H₀) elt te)
  {s2:Shared} {H1:Hp} {R:Value->Addr->Result->Shared->Prop} {Q:VK} {it:Addr} {tn:Nat->Heap->Prop} {J:It} (I:Inv X pins σ H1 s2) (T:a45 X.prog X.w X.K tg J fp it tn) (st:tn 0 s2.heap) (hfp:∀ b∈fp,Uf X pins H1 b)
  (hq:∀ p,H1 p=none->∃ W:Nat->Nat->Hp->Prop,(∃ m,W 0 m (upd H1 p (.lst [])))/\∀ i m H,W i m H ->
   (J.stop i H/\Q (.ref p) H)\/(J.go i H/\∃ N:Hp->Prop,(∀ H',N H'->∃ m',m'<m/\W (i+1) m' H') /\
    ∀ x H',J.yld i H x H'->g x (List.replicate xs.length none++Qe σ js) H' fun σ2 H2=>tt σ2 H2 λb H3=>if b=true then te σ2 H3 λy H4=>∃ acc,H4 p=some (.lst acc)/\acc.length<sizeLine/\N (upd H4 p (.lst (acc++[y]))) else N H3))
  (hR:∀(p C:Addr) (s':Shared) (H':Hp),(∃ m,s'.heap.Ns C m)->Uf X pins H' C->Inv X pins σ H' s'->Q (.ref p) H'->R (.ref p) C (.ok .next) s') :
  wpAny (model X.prog X.w) X.A (newList []) (λacc s₃=>wpAny (model X.prog X.w) X.A (newFunctionEnv scope X.env.globals (Ko X.env scope.names []) [] X.env.qual none .none (some X.env)) (λcenv s₄=>
   codeAny (model X.prog X.w) X.A (.compStart (.ListComp elt [⟨tg,iter,ifs,0⟩] scope pos) 0 (.ref it) acc {cenv with scope:=relabel scope X.env}) (R acc cenv.locals) s₄) X.xe s₃) X.xe s2:=by
 refine A2X ?_ (by show 0<=sizeLine;exact A24 _);have hn0:H1 s2.heap.objs.size=none:=I.hok.fresh (A05 _);have I3:Inv X pins σ (upd H1 s2.heap.objs.size (.lst [])) {s2 with heap:=s2.heap.push {cls:=.type "list",data:=.seq ([]:List Value).toArray}}:=I.laid (t':=s2.toks) (λb u e=>A06 _ e) (A05 _) ⟨A24 _,[],0,.nil,A0Z _ rfl⟩
 obtain⟨W,⟨m0,w0⟩,turn⟩:=hq _ hn0;have hob:∀ b∈fp,∃ o,s2.heap.get? b=some o:=λb hb=>let ⟨o,e,_⟩:=T.obj _ _ st b hb;⟨o,e⟩
 have hfp3:∀ b∈fp,Uf X pins (upd H1 s2.heap.objs.size (.lst [])) b:=λb hb=>by obtain⟨f0,f⟩:=hfp b hb;obtain⟨o,e⟩:=hob b hb;exact⟨by rw[B9 (A19 (A0N e))];exact f0,f⟩
 have hob3:∀ b∈fp,∃ o,(s2.heap.push {cls:=.type "list",data:=.seq ([]:List Value).toArray}).get? b=some o:=λb hb=>let ⟨o,e⟩:=hob b hb;⟨o,A06 _ e⟩;have st3:tn 0 (s2.heap.push {cls:=.type "list",data:=.seq ([]:List Value).toArray}):=T.keep _ _ _ st λb _ o e=>A06 _ e;generalize hs3:({s2 with heap:=s2.heap.push {cls:=.type "list",data:=.seq ([]:List Value).toArray}}:Shared)=s3 at I3 ⊢;have st3':tn 0 s3.heap:=by rw[<- hs3];exact st3
 have hob3':∀ b∈fp,∃ o,s3.heap.get? b=some o:=by rw[<- hs3];exact hob3
 generalize hH3:upd H1 s2.heap.objs.size (.lst [])=H3 at I3 hfp3 w0;generalize hp0:s2.heap.objs.size=p0 at turn ⊢;refine Yr λh₁ hns₁ hkp₁ hco₁=>?_;have I4:=a47 (t':=s3.toks) S hjs I3 hfp3 hob3' hns₁ hkp₁ hco₁;have st4:tn 0 h₁:=T.keep _ _ _ st3' λb hb o e=>hkp₁ b o e
 have loop:∀ s₄:Shared,Inv (cxC X scope xs fr s3.heap.objs.size fp s3 H3) [] (List.replicate xs.length none++Qe σ js) H3 s₄->tn 0 s₄.heap ->
   codeAny (model X.prog X.w) X.A (.compLoop (.ListComp elt [⟨tg,iter,ifs,0⟩] scope pos) 0 (.ref it) (.ref p0) (compEnvC scope (cellsFrom (s3.heap.objs.size+1) scope.names (Ko X.env scope.names [])) s3.heap.objs.size X.env)) (R (.ref p0) s3.heap.objs.size) s₄:=by
  intro s₄ I4 st4
  have stat:∀ {H':Hp},(∀ b∈fp,H' b=none)->∀ b∈fp,Uf (cxC X scope xs fr s3.heap.objs.size fp s3 H3) [] H' b:=fun {H'} hn b hb=>by obtain⟨f0,f1,f2,f3,f4,f5⟩:=hfp3 b hb;obtain⟨o,e⟩:=hob3' b hb;refine⟨hn b hb,Nat.ne_of_lt (Heap.lt_size e),I4.ok.exfs b hb,.inl hb,λx c h=>(I4.ok.exf b hb).2 x c h,λp hp=>absurd (show p∈([]:List (Addr×Obj)) from hp) (by simp)⟩
  refine Zh (λn s'=>∃ i H',Inv (cxC X scope xs fr s3.heap.objs.size fp s3 H3) [] (List.replicate xs.length none++Qe σ js) H' s'/\tn i s'.heap/\(∀ b∈fp,H' b=none)/\W i n H') ?_ m0 ⟨0,H3,I4,st4,λb hb=>(hfp3 b hb).1,w0⟩;rintro n s5 ⟨i,H5,I5,st5,fr5,w5⟩;rcases turn i n H5 w5 with ⟨stop,qn⟩|⟨go,N,hN,step⟩
  . refine thn (T.done (cxC X scope xs fr s3.heap.objs.size fp s3 H3) rfl rfl rfl hc i [] s5 _ H5 (λ_ _=>False) I5 (stat fr5) st5 stop) λr s6 ⟨hr,I6⟩=>?_;subst hr;obtain⟨m6,n6,_⟩:=id I6.loc;exact hR p0 s3.heap.objs.size s6 H5 ⟨m6,n6⟩ (I3.fpOk (A05 _) I6.free) (a37 I3 hfp3 I6 (Heap.SameBut.refl ..)) qn
  refine thn (T.item (cxC X scope xs fr s3.heap.objs.size fp s3 H3) rfl rfl rfl hc i [] s5 _ H5 (λ_ _=>False) I5 (stat fr5) st5 go) λr s6 ⟨u,hr,h6⟩=>?_;subst hr;refine thn h6 λ_ s7 ⟨x,H7,I7,r7,y7,st7,fr7⟩=>?_;have I7':=I7.pinned (stat fr7) (T.obj _ _ st7);refine thn (hg _ _ _ _ _ s7 _ H7 x u _ I7' r7 (hk _ _ _ _ (step x H7 y7))) λ_ s8 ⟨σ8,H8,I8,kp8,q8⟩=>?_
  have again:∀ {s9:Shared} {H9:Hp},Inv (cxC X scope xs fr s3.heap.objs.size fp s3 H3) ([]++Qq fp s7.heap) σ8 H9 s9->N H9 ->
    ∃ m,m<n/\∃ i H',Inv (cxC X scope xs fr s3.heap.objs.size fp s3 H3) [] (List.replicate xs.length none++Qe σ js) H' s9/\tn i s9.heap/\(∀ b∈fp,H' b=none)/\W i m H':=fun {s9 H9} I9 n9=>by
   obtain⟨m',hm,w9⟩:=hN H9 n9;refine⟨m',hm,i+1,H9,I9.unpinned.weak ?_ ?_,T.keep _ _ _ st7 λb hb o e=>(I9.pin (b,o) (A1G _ (A1G _ (Im hb e)))).1,λb hb=>?_,w9⟩
   . rw[I9.len,I5.len]
   . intro k v hkv
     by_cases hx:k<xs.length
     . rw[A20 (by rw[A2S];exact hx),A4L,A0Y hx] at hkv
       cases hkv
     rw[kp8 k (Nat.le_of_not_lt hx)];exact hkv
   obtain ⟨o,e,d⟩:=T.obj _ _ st7 b hb;exact(I9.pin (b,o) (A1G _ (A1G _ (Im hb e)))).2.1
  refine A2V (hi _ _ _ _ _ s8 σ8 H8 _ (λ_ _=>False) (λ_ _ z=>z) I8 q8) (λok s9 ⟨H9,I9,q9⟩=>?_) λ_ _ z=>z
  cases ok with
  |false=>rw[A0P A0G];rw[A0P A0G] at q9;exact again I9 q9
  |true=>rw[A0Y rfl];rw[A0Y rfl] at q9;refine thn (he _ _ _ _ _ s9 σ8 H9 _ I9 q9) λuy s10 ⟨y,H10,I10,r10,acc,hacc,hz,n10⟩=>?_;refine thn (Pz _ s10 σ8 H10 (.ref p0) [y] (.ref p0) [uy] (λ_ H11=>N H11) I10 rfl (.cons r10 .nil) ⟨p0,acc,y,rfl,rfl,hacc,hz,n10⟩) λ_ s11 ⟨_,H11,I11,_,n11⟩=>?_;exact again I11 n11
 exact codeAny_compStart_list (loop _ I4 st4) (T.self _ _ _ _ _ st4 (loop _ I4 st4))
theorem Inv.letgo {C:Addr}{h'':Heap}(I:Inv X pins σ H s)(f:Uf X pins H C)(hs:Heap.SameBut C s.heap h''):Inv X pins σ H {s with heap:=h''}:=by obtain⟨f0,f1,f2,f3,f4,f5⟩:=f;exact I.turned (t':=s.toks) (λb o hb e=>(hs.2 b hb).trans e) f0 f1 f3 f4 f5
theorem Bm {tg elt iter:Expr}{ifs:List Expr}{pos:Pos}{wi:TI}{g:TG}{tt:TT}{te:TE}(xs fr:List Str)(js:List Nat)(hc:X.calm=true)(hS:Vl X.env.scope scope xs fr=true)(hjs:js.map (λj=>X.N[j]?)=fr.map some)(hw:PI X tg iter wi)
  (hg:∀ C ex s₀ H₀,PG (cxC X scope xs fr C ex s₀ H₀) tg g) (hk:a60 xs.length g) (hi:∀ C ex s₀ H₀,PIf (cxC X scope xs fr C ex s₀ H₀) ifs tt) (he:∀ C ex s₀ H₀,PE (cxC X scope xs fr C ex s₀ H₀) elt te)
  (hs:∀ x,foldedSetIterable iter X.env x=pure x:=by intro _;ac_nf) :
  PE X (.ListComp elt [⟨tg,iter,ifs,0⟩] scope pos) (al1 xs.length js wi g tt te):=by
 intro pins s σ H Q I h;have S:=Vu hS;rw[eval_ListComp];refine wpAny_comprehension_free (use:=none) rfl hs (Mw (S.cells I.ok)) S.kind S.names ?_;refine thn (hw pins s σ H _ I h) λv s1 h1=>thn h1 λitv s2 h2=>?_;obtain⟨it,fp,tn,J,H2,e,I2,T,st2,f2,q2⟩:=h2;subst e;refine W2 (Q:=Q) (R:=λacc C=>compPost (model X.prog X.w) X.A X.xe none (EP X pins σ Q) acc C) hc S hjs hg hk hi he I2 T st2 f2 q2 ?_;intro p C s' H' ⟨m,hn⟩ fC hI q;exact⟨m,hn,λh'' hs''=>⟨.ref p,H',hI.letgo fC hs'',rfl,q⟩⟩
theorem Ec {tg elt iter:Expr}{ifs:List Expr}{pos spos py:Pos}{wi:TI}{g:TG}{tt:TT}{te:TE}{i:Nat}{y:Str}(xs fr:List Str)(js:List Nat)(hc:X.calm=true)(hS:Vl X.env.scope scope xs fr=true)(hjs:js.map (λj=>X.N[j]?)=fr.map some)
  (hN:X.N.Nodup) (hi':X.N[i]? = some y) (hy:X.env.scope.names.lookup y=some .local) (hw:PI X tg iter wi)
  (hg:∀ C ex s₀ H₀,PG (cxC X scope xs fr C ex s₀ H₀) tg g) (hk:a60 xs.length g) (hi:∀ C ex s₀ H₀,PIf (cxC X scope xs fr C ex s₀ H₀) ifs tt) (he:∀ C ex s₀ H₀,PE (cxC X scope xs fr C ex s₀ H₀) elt te)
  (hsw:swapsWith (.ListComp elt [⟨tg,iter,ifs,0⟩] scope pos) (some (.Name y py)) spos.line X.env=pure true:=by ac_nf)
  (hs:∀ x,foldedSetIterable iter X.env x=pure x:=by intro _;ac_nf) :
  PS X (.Assign [.Name y py] (.ListComp elt [⟨tg,iter,ifs,0⟩] scope pos) spos) (ar1 (al1 xs.length js wi g tt te) (Mf i)):=by
 intro pins s σ H D I h;have S:=Vu hS;rw[exec_Assign_Name_used _ _ _ _ hsw];refine A02 (wpAny_standAt (A02 ?_));show wpAny _ X.A (do let _ <- comprehension (.ListComp elt [⟨tg,iter,ifs,0⟩] scope pos) scope X.env _ (newList []) false (eval iter X.env) (some (assign (.Name y py) X.env))) _ _ s
 refine A02 (A2V (wpAny_comprehension_free (use:=some (assign (.Name y py) X.env)) (Q:=λ_ s'=>SP X pins D .next s') rfl hs (Mw (S.cells I.ok)) S.kind S.names ?_) (λ_ s' hq=>A09 (A09 hq)) λ_ _ e=>e);refine thn (hw pins s σ H _ I h) λv s1 h1=>thn h1 λitv s2 h2=>?_;obtain⟨it,fp,tn,J,H2,e,I2,T,st2,f2,q2⟩:=h2;subst e;refine W2 (Q:=λx H1=>Mf i x σ H1 D.nx) (R:=λacc C=>compPost (model X.prog X.w) X.A X.xe (some (assign (.Name y py) X.env)) (λ_ s'=>SP X pins D .next s') acc C) hc S hjs hg hk hi he I2 T st2 f2 q2 ?_;intro p C s' H' ⟨m,hn⟩ fC I' q;show wpAny _ X.A (assign (.Name y py) X.env (.ref p)) _ _ s';refine wpAny_assign_Name (Qm I' hN hi' (.inl hy) (show RelV (.ref p) (.ref p) from rfl) (λs'' I'' ⟨a,hs1,ha⟩=>?_) (.inr hy))
 have hne:C≠a:=by
  rcases ha with ha|ha
  . rw[ha];exact fC.2.1
  exact(fC.2.2.2.2.1 y a ha).symm
 exact⟨m,hn.sameBut hs1 hne,λh'' hs''=>⟨_,H',I''.letgo fC hs'',q⟩⟩
end
def Its (x:Str):It:=⟨λi _=>i<x.cps.size,λi H v H'=>H'=H/\∃ c,x.cps[i]? = some c/\v = .str ⟨#[c]⟩,λi _=>x.cps.size<=i⟩
section
variable {X:Cx}{tg:Expr}
theorem a35 {P:Program}{w:World}{K:PySem.W.Frag}{tg:Expr}{it:Addr}{n:Nat}{PV:Nat->Value->Prop}{val:Nat->V->Prop}{St:Nat->Heap->Prop}(W:∀ A:Around,A.handled=none->Walks P w A it [it] [it] n PV St)
  (hself:∀(A:Around) (i:Nat) (s:Shared) (Q:Value->Shared->Prop) (E:Value->Shared->Prop),St i s.heap->Q (.ref it) s->wpAny (model P w) A (pyIter (.ref it)) Q E s)
  (hv:∀ i u,PV i u->∃ v,RelV v u/\val i v) (hto:∀ i h,St i h->∃ o T vs,h.get? it=some o/\o.cls = .type T/\o.data = .fields vs/\["enumerate","zip","dict_itemiterator","dict_reverseitemiterator","odict_iterator","itertools.zip_longest","itertools.pairwise"].contains T=false) :
  a45 P w K tg ⟨λi _=>i<n,λi H v H'=>H'=H/\val i v,λi _=>n<=i⟩ [it] it (λi h=>St i h/\i<=n) where
 mem:=by simp
 obj:=λi h st b hb=>by
  have e:b=it:=by simpa using hb
  subst e;obtain⟨o,T,vs,e1,e2,e3,e4⟩:=hto i h st.1;exact⟨o,e1,λv z=>by rw[e3] at z;cases z⟩
 keep:=λi h h' st k=>⟨(W {handled:=none} rfl).frame i h h' st.1 k,st.2⟩
 item:=by
  intro X hP hw hK hc i pins s σ H E I hf st hg;subst hP hw hK;obtain⟨f0,f1,f2,f3,f4,f5⟩:=hf it (by simp);refine(W X.A (I.ok.hd hc)).item i s _ _ hg st.1 λu h' tk hp st' kk=>?_;obtain⟨v,rv,vv⟩:=hv i u hp;have I1:Inv X pins σ H {s with heap:=h',toks:=tk}:=I.turned (λb o hb e=>kk b o (by simpa using hb) e) f0 f1 f3 f4 f5
  obtain⟨o,T,vs,e1,e2,e3,e4⟩:=hto _ _ st';exact⟨u,rfl,Wm (s:={s with heap:=h',toks:=tk}) e1 e2 e3 e4 ⟨v,H,I1,rv,⟨rfl,vv⟩,⟨st',hg⟩,λb hb=>(hf b hb).1⟩⟩
 done:=by intro X hP hw hK hc i pins s σ H E I hf st hg;subst hP hw hK;obtain⟨f0,f1,f2,f3,f4,f5⟩:=hf it (by simp);have e:i=n:=Nat.le_antisymm st.2 hg;subst e;exact(W X.A (I.ok.hd hc)).done s _ _ st.1 λh' tk kk=>⟨rfl,I.turned (λb o hb e=>kk b o (by simpa using hb) e) f0 f1 f3 f4 f5⟩
 self:=λA i s Q E st h=>hself A i s Q E st.1 h
theorem ax0 {pins:List (Addr×Obj)}{σ:St}{H1:Hp}{s1:Shared}{R:It->Hp->Prop}{E:Value->Shared->Prop}{z:Str}{v:Value}(I1:Inv X pins σ H1 s1)(r1:RelV (.str z) v)(q:R (Its z) H1):wpAny (model X.prog X.w) X.A (pyIter v) (PIE X pins σ tg R) E s1:=by
 obtain⟨t,rfl⟩:=r1;have sv:∀ i u,SignAt z i u->∃ v,RelV v u/\∃ c,z.cps[i]? = some c/\v = .str ⟨#[c]⟩:=λi u ⟨c,tu,hc,hu⟩=>⟨.str ⟨#[c]⟩,⟨tu,hu⟩,c,hc,rfl⟩
 have fin:∀(o:Obj) (St:Nat->Heap->Prop) (n:Nat),St 0 (s1.heap.push o)->a45 X.prog X.w X.K tg (Its z) [s1.heap.objs.size] s1.heap.objs.size (λi h=>St i h/\i<=z.cps.size)->PIE X pins σ tg R (.ref s1.heap.objs.size) {s1 with heap:=s1.heap.push o}:=λo St n h0 T=>by
  refine⟨s1.heap.objs.size,[s1.heap.objs.size],_,_,H1,rfl,I1.kept (t':=s1.toks) λb ob e=>A06 _ e,T,⟨h0,A24 _⟩,λb hb=>?_,q⟩;have e:b=s1.heap.objs.size:=by simpa using hb
  subst e;exact I1.fpOk (A05 _) (I1.hok.fresh (A05 _))
 cases ha:z.cps.all (· < 128)
 . exact wpAny_pyIter_wide ha (fin _ _ 0 ⟨_,A0Z _ rfl,rfl,rfl⟩ (a35 (λA hA=>Walks.strWide hA _ z t) (λ_ _ _ _ _ st hq=>wpAny_pyIter_striter_wide st hq) sv λi h ⟨o,ho,hc,hd⟩=>⟨o,_,_,ho,hc,hd,by decide⟩))
 exact wpAny_pyIter_ascii ha (fin _ _ 0 ⟨_,A0Z _ rfl,rfl,rfl⟩ (a35 (λA hA=>Walks.strAscii hA _ z t) (λ_ _ _ _ _ st hq=>wpAny_pyIter_striter_ascii st hq) sv λi h ⟨o,ho,hc,hd⟩=>⟨o,_,_,ho,hc,hd,by decide⟩))
end
section
variable {X:Cx}
def aE6:V->Option Int->Option Int->Hp->VK->Prop:=λx lo hi H Q=>∃ z,x = .str z/\z.length<=sizeLine/\Q (.str (Txt.slice z lo hi)) H
theorem sl_str:SlR X aE6:=by
 intro pins s σ H x v vl vu lo hi sl Q I rx hs pl pu h;obtain⟨z,rfl,hz,q⟩:=h;obtain⟨t,rfl⟩:=rx;have fin:∀ t' k,EP X pins σ Q (.str (Txt.slice z lo hi) t') {s with toks:=k}:=λt' k=>⟨.str _,H,I.tok _,⟨_,rfl⟩,q⟩
 have sz:=A0C (Txt.slice_le z lo hi) hz;refine⟨"str",_,F.slot_str_getitem.lookup,typeIs_str _ _ _,?_⟩
 cases pl with
 |none=>
   cases pu with
   |none=>exact A3O (l:=none) (u:=none) (st:=none) hs rfl (A50 ⟨sz,fin⟩)
   |int j uj=>exact A3O (l:=none) (u:=some (j,uj)) (st:=none) hs rfl (A50 ⟨sz,fin⟩)
 |int i ui=>
   cases pu with
   |none=>exact A3O (l:=some (i,ui)) (u:=none) (st:=none) hs rfl (A50 ⟨sz,fin⟩)
   |int j uj=>exact A3O (l:=some (i,ui)) (u:=some (j,uj)) (st:=none) hs rfl (A50 ⟨sz,fin⟩)
theorem Sv:∀ {ys:List Str} {us:List Value},Vals (ys.map V.str) us->StrsAre us ys
 | [],_,.nil=>.nil
 |y :: ys,_,.cons r t=>by obtain⟨tk,rfl⟩:=r;exact .cons y tk (Sv t)
theorem X2:CallR X (.builtin "repr") (λxs H Q=>(∃ b,xs=[.bl b]/\Q (.str (if b then "True" else "False")) H)\/(xs=[.non]/\Q (.str "None") H)):=by
 intro pins s σ H xs us Q I r h;rcases h with ⟨b,rfl,q⟩|⟨rfl,q⟩
 . obtain⟨u,rfl,ru⟩:=J9 r
   cases ru;exact PySem.P.repr_of_bool ⟨.str _,H,I.tok _,⟨_,rfl⟩,q⟩
 obtain⟨u,rfl,ru⟩:=J9 r
 cases ru;exact PySem.P.repr_of_none ⟨.str _,H,I.tok _,⟨_,rfl⟩,q⟩
theorem call_isinst:CallR X (.builtin "isinstance") (λxs H Q=>∃ x c t b,xs=[x,.ty c]/\Rz X.K H x t/\W.kitOne X.K t (.type c)=some b/\Q (.bl b) H):=by
 intro pins s σ H xs us Q I r h;obtain⟨x,c,t,b,rfl,ty,e,q⟩:=h;obtain⟨u,w',rfl,r1,r2⟩:=ae0 r
 cases r2;exact R5 I r1 ty e λtk=>⟨.bl _,H,I.tok _,rfl,q⟩
theorem call_isinstR:CallR X (.builtin "isinstance") (λxs H Q=>∃ x c t b,xs=[x,.ref c]/\Rz X.K H x t/\W.kitOne X.K t (.ref c)=some b/\Q (.bl b) H):=by
 intro pins s σ H xs us Q I r h;obtain⟨x,c,t,b,rfl,ty,e,q⟩:=h;obtain⟨u,w',rfl,r1,r2⟩:=ae0 r
 cases r2;exact R5 I r1 ty e λtk=>⟨.bl _,H,I.tok _,rfl,q⟩
theorem Qn:CallR X (.builtin "isinstance") (λxs H Q=>∃ a ys c b,xs=[V.ref a,.ty c]/\((SqT X.K H a ys/\W.kitOne X.K (.type "tuple") (.type c)=some b)\/(SqL X.K H a ys/\W.kitOne X.K (.type "list") (.type c)=some b))/\Q (.bl b) H):=by
 intro pins s σ H xs us Q I r h;obtain⟨a,ys,c,b,rfl,ty,q⟩:=h;obtain⟨u,w',rfl,r1,r2⟩:=ae0 r
 cases r2
 cases r1;rcases ty with ⟨ty,e⟩|⟨ty,e⟩
 . obtain⟨its,_,p,_⟩:=I.tuple ty;obtain⟨o,h1,h2,_⟩:=p;exact A1S W.kitx_tuple I.kIn ⟨o,h1,h2⟩ e (λz=>nomatch z) λtk=>⟨.bl _,H,I.tok _,rfl,q⟩
 obtain⟨its,_,p,_⟩:=I.list ty;obtain⟨o,h1,h2,_⟩:=p.isList;exact A1S W.kitx_list I.kIn ⟨o,h1,h2⟩ e (λz=>nomatch z) λtk=>⟨.bl _,H,I.tok _,rfl,q⟩
end
section
variable {X:Cx}{x:Str}{pos:Pos}
theorem au9 {v:V}(hg:Gl X x)(hm:∃ u,X.mg x=some u/\RelV v u)(hd:(x==("__debug__":Str))=false:=by decide):PE X (.Name x pos) (tC v):=by obtain⟨u,h1,h2⟩:=hm;exact ak3 hg h1 h2 hd
end
section
variable {X:Cx}{K:W.Frag}
def au6 (K:W.Frag):R2:=λx y H Q=>∃ a b ys,x = .ref a/\y = .ref b/\SqT K H a []/\SqT K H b ys/\Q (.ref b) H
theorem ak5:OpR X (binaryOp .Add) (au6 X.K):=by
 intro pins s σ H x y v u Q I rx ry h;obtain⟨a,b,ys,rfl,rfl,ha,hb,q⟩:=h
 cases rx
 cases ry;obtain⟨its,r1,p1,_⟩:=I.tuple ha;obtain⟨its2,r2,p2,_⟩:=I.tuple hb
 cases r1;obtain⟨⟨cls,dd,data,sl⟩,ho,hc,n,hd⟩:=id p1;obtain⟨⟨cls2,dd2,data2,sl2⟩,ho2,hc2,n2,hd2⟩:=id p2;simp only at hc hd hc2 hd2;subst hc hd hc2 hd2;exact concat_meets ⟨_,ho,rfl⟩ ⟨_,ho2,rfl⟩ noFill_tuple_add seq_tuple_add PySem.F.slot_tuple_add PySem.F.entry_tuple_add (PySem.F.args_tuple_add_2 _ _) (tuple_addW0 a b _ _ n n2 dd dd2 sl sl2 (by simp)) ⟨ho,ho2,⟨.ref b,H,I,rfl,q⟩⟩
def aE0 (K:W.Frag):V->Option Int->Option Int->Hp->VK->Prop:=λx lo hi H Q=>∃ a xs,x = .ref a/\SqT K H a xs/\(HT.sIx xs.length 0 lo=0/\HT.sIx xs.length xs.length hi=xs.length)/\Q (.ref a) H
theorem a49:SlR X (aE0 X.K):=by
 intro pins s σ H x v vl vu lo hi sl Q I rx hs pl pu h;obtain⟨a,xs,rfl,hx,hw,q⟩:=h
 cases rx;obtain⟨its,r,ht,hz⟩:=I.tuple hx;have hlen:its.toArray.size=xs.length:=by rw[A0X];exact r.length.symm
 refine⟨"tuple",_,PyProof.Rows.slot_tuple_getitem.lookup,ht.typeIs,?_⟩;obtain⟨os,hos,hcs,hds⟩:=id hs;have hTs:s.TypeIs (.ref sl) "slice":=⟨os,hos,hcs⟩;unfold getItem
 try with_reducible refine A2H ?_
 first | refine A02 (A09 ?_) | skip
 refine A02 (wpAny_sequenceKey ht.typeIs nofun ?_);refine A02 (A30 (name:=Str.ofString "__getitem__") ht.typeIs A2W (A2P A2W ht.typeIs entry_tuple_getitem ?_ (args_tuple_getitem _ _)));refine A02 (m:=Builtin.Tuple.tupleItemsOf (.ref a)) (tupleItemsOf_ ht ?_);refine A02 (A4W hTs ?_);rw[A0Y nofun];refine A02 (HT.sliceApplied_gen hs pl pu ?_)
 have yes:(((HT.sIx its.toArray.size 0 lo:Nat):Int)==0&&(1:Int)==1&&(HT.sIx its.toArray.size its.toArray.size hi-HT.sIx its.toArray.size 0 lo)==its.toArray.size)=true:=by rw[hlen,hw.1,hw.2];simp
 show wpAny _ _ (if(((HT.sIx its.toArray.size 0 lo:Nat):Int)==0&&(1:Int)==1&&(HT.sIx its.toArray.size its.toArray.size hi-HT.sIx its.toArray.size 0 lo)==its.toArray.size)=true then _ else _) _ _ s
 rw[A0Y yes];have fin:∀ s',s'=s->EP X pins σ Q (.ref a) s':=λs' e=>by subst e;exact⟨.ref a,H,I,rfl,q⟩
 unfold Builtin.Tuple.tupleIsExact;obtain⟨hp,g,d,tk,os⟩:=s;have hT:=ht.typeIs
 repeat (any_goals (first | assumption | wp_step))
 exact⟨_,rfl,A09 (fin _ rfl)⟩
end
theorem Inv.freeze {X:Cx}{pins:List (Addr×Obj)}{σ:St}{H:Hp}{s:Shared}{d:Addr}{kvs:List (Key×V)}{o:Obj}(I:Inv X pins σ H s)(hd:H d=some (.dK kvs))(ho:s.heap.get? d=some o):Inv X pins σ (upd H d (.frz o (.dK kvs))) s:=by
 have nn:∀ b,H b=none->upd H d (.frz o (.dK kvs)) b=none:=λb h=>by rw[B9 (Ne.symm (ne_of_none hd h))];exact h
 have other:∀ b u,H b=some u->u ≠ .dK kvs->upd H d (.frz o (.dK kvs)) b=some u:=λb u h q=>by rw[B9 (ne_of h hd q)];exact h
 refine⟨I.ok,I.os,I.bare,⟨I.base.keep,I.base.slot,λb ob q n hx=>nn b (I.base.free b ob q n hx),I.base.there,λb xs q=>other b _ (I.base.tups b xs q) (by intro z;cases z),λb ob u q=>other b _ (I.base.frzs b ob u q) (by intro z;cases z),λb ps q=>?_⟩,I.loc,I.cell,nn _ I.free,λx c q=>nn _ (I.freeC x c q),λp hp=>?_,λb u q=>?_,I.len⟩
 . obtain⟨more,h⟩:=I.base.tbls b ps q;exact⟨more,other b _ h (by intro z;cases z)⟩
 . obtain⟨a1,a2,a3⟩:=I.pin p hp;exact⟨a1,nn _ a2,a3⟩
 by_cases e:b=d
 . subst e;rw[A8] at q
   cases q;exact⟨ho,(I.hok b _ hd).stay (λc v hc z=>z) (λc z=>other c _ z (by intro w;cases w)) λc xs z=>other c _ z (by intro w;cases w)⟩
 rw[B9 e] at q;exact(I.hok b u q).stay (λc v hc z=>z) (λc z=>other c _ z (by intro w;cases w)) λc xs z=>other c _ z (by intro w;cases w)
def Itd (a:Addr)(o:Obj)(kvs:List (Key×V)):It:=
 ⟨λi H=>H a=some (.frz o (.dK kvs))/\i<kvs.length,λi H x H'=>H'=H/\∃ kv,kvs[i]? = some kv/\x=kV kv.1,λi H=>H a=some (.frz o (.dK kvs))/\kvs.length<=i⟩
theorem af6 {k:Key}{u:Value}(h:Tp k u=true):RelV (kV k) u:=by
 rcases Bs h with ⟨i,t,rfl,rfl⟩|⟨x,t,rfl,rfl⟩
 . exact⟨t,rfl⟩
 exact⟨t,rfl⟩
theorem X7 {X:Cx}{pins:List (Addr×Obj)}{σ:St}{H:Hp}{s:Shared}{a:Addr}{kvs:List (Key×V)}{o:Obj}{es:Array DictEntry}{ep:Nat}(I:Inv X pins σ H s)(h:H a=some (.frz o (.dK kvs)))(ho:o.data = .dict es ep):∃ vs,KV kvs vs/\s.heap.DictAt (Ax X.prog X.w) a vs ep:=by
 obtain⟨h1,_,_,vs,r,o',es',ep',h2,c,hd,rest⟩:=I.hok a _ h;rw[h1] at h2
 cases h2;rw[ho] at hd
 cases hd;exact⟨vs,r,o,es,h1,c,ho,rest⟩
theorem KV.get:∀ {kvs:List (Key×V)} {vs:List (Key×Value)} {i:Nat} {kv:Key×V},KV kvs vs->kvs[i]? = some kv->∃ u,vs[i]? = some (kv.1,u)/\RelV kv.2 u
 |_,_,_,_,.nil,e=>by simp at e
 |_,_,0,kv,.cons r _,e=>by simp at e;subst e;exact⟨_,congrArg some (Prod.ext r.1.symm rfl),r.2⟩
 |_,_,i+1,kv,.cons _ t,e=>by obtain⟨u,h1,h2⟩:=KV.get (i:=i) t (by simpa using e);exact⟨u,by simpa using h1,h2⟩
theorem Qw {P:Program}{w:World}{K:W.Frag}{tg:Expr}(a it:Addr)(o:Obj)(kvs:List (Key×V))(es:Array DictEntry)(ep:Nat)(hd:o.data = .dict es ep):a45 P w K tg (Itd a o kvs) [it] it (λi h=>h.IsKeyIter it a i kvs.length ep) where
 mem:=by simp
 obj:=λi h st b hb=>by
  have e:b=it:=by simpa using hb
  subst e;obtain⟨o,e,c,d⟩:=st;exact⟨o,e,λv z=>by rw[d] at z;cases z⟩
 keep:=λi h h' st k=>st.at λo e=>k it (by simp) o e
 item:=by
  intro X hP hw hK hc i pins s σ H E I hf st hg;subst hP hw hK;obtain⟨hH,hi⟩:=hg;obtain⟨vs,rv,hat⟩:=X7 I hH hd;have hl:kvs.length=vs.length:=A2R rv;obtain⟨kv,hkv⟩:∃ kv,kvs[i]? = some kv:=⟨kvs[i],A04 hi⟩;obtain⟨u,hu,_⟩:=KV.get rv hkv;obtain⟨f0,f1,f2,f3,f4,f5⟩:=hf it (by simp);rw[hl] at st;refine wpAny_pyNext_dict_item st hat hu λkey h' hkey hit' hs'=>?_;have I1:Inv X pins σ H {s with heap:=h'}:=I.turned (t':=s.toks) (λb o hb e=>(hs'.2 b hb).trans e) f0 f1 f3 f4 f5
  obtain⟨o',e,c,d⟩:=id hit';exact⟨key,rfl,Wm (s:={s with heap:=h'}) e c d nofun ⟨kV kv.1,H,I1,af6 hkey,⟨rfl,kv,hkv,rfl⟩,by rw[hl];exact hit',λb hb=>(hf b hb).1⟩⟩
 done:=by intro X hP hw hK hc i pins s σ H E I hf st hg;subst hP hw hK;obtain⟨hH,hi⟩:=hg;obtain⟨vs,rv,hat⟩:=X7 I hH hd;have hl:kvs.length=vs.length:=A2R rv;obtain⟨f0,f1,f2,f3,f4,f5⟩:=hf it (by simp);rw[hl] at st;exact wpAny_pyNext_dict_end (I.ok.hd hc) st hat (A3C ∅) λh' eb=>⟨rfl,I.turned (t':=s.toks) (λb o hb e=>eb b o hb e) f0 f1 f3 f4 f5⟩
 self:=λA i s Q E st hQ=>wpAny_pyIter_keyiter st hQ
theorem ai8 {X:Cx}{tg:Expr}{pins:List (Addr×Obj)}{σ:St}{H:Hp}{s:Shared}{a:Addr}{kvs:List (Key×V)}{R:It->Hp->Prop}{E:Value->Shared->Prop}(I:Inv X pins σ H s)(h:H a=some (.dK kvs))(q:∀ o,R (Itd a o kvs) (upd H a (.frz o (.dK kvs)))) :
  wpAny (model X.prog X.w) X.A (pyIter (.ref a)) (PIE X pins σ tg R) E s:=by
 obtain⟨_,hs,vs,rv,o,es,ep,ho,c,hd,rest⟩:=I.hok a _ h;have I1:=I.freeze h ho;have hl:kvs.length=vs.length:=A2R rv;refine wpAny_pyIter_dict (knd:=Ax X.prog X.w) hs ⟨o,es,ho,c,hd,rest⟩ ?_;rw[<- hl];refine⟨s.heap.objs.size,[s.heap.objs.size],_,_,_,rfl,I1.kept (t':=s.toks) λb o e=>A06 _ e,Qw a _ o kvs es ep hd,⟨_,A0Z _ rfl,rfl,rfl⟩,λb hb=>?_,q o⟩;have e:b=s.heap.objs.size:=by simpa using hb
 subst e;exact I1.fpOk (A05 _) (I1.hok.fresh (A05 _))
theorem a48 {X:Cx}{tg:Expr}{pins:List (Addr×Obj)}{σ:St}{H:Hp}{s:Shared}{a:Addr}{kvs:List (Key×V)}{o:Obj}{R:It->Hp->Prop}{E:Value->Shared->Prop}(I:Inv X pins σ H s)(h:H a=some (.frz o (.dK kvs)))(q:R (Itd a o kvs) H) :
  wpAny (model X.prog X.w) X.A (pyIter (.ref a)) (PIE X pins σ tg R) E s:=by
 obtain⟨ho',_,hs,vs,rv,o',es,ep,ho,c,hd,rest⟩:=I.hok a _ h;rw[ho'] at ho
 cases ho;have hl:kvs.length=vs.length:=A2R rv;refine wpAny_pyIter_dict (knd:=Ax X.prog X.w) hs ⟨o,es,ho',c,hd,rest⟩ ?_;rw[<- hl];refine⟨s.heap.objs.size,[s.heap.objs.size],_,_,_,rfl,I.kept (t':=s.toks) λb o e=>A06 _ e,Qw a _ o kvs es ep hd,⟨_,A0Z _ rfl,rfl,rfl⟩,λb hb=>?_,q⟩;have e:b=s.heap.objs.size:=by simpa using hb
 subst e;exact I.fpOk (A05 _) (I.hok.fresh (A05 _))
theorem Same.seqT {K:W.Frag}{H H':Hp}{a:Addr}{xs:List V}(e:Same H H')(h:SqT K H a xs):SqT K H' a xs:=by
 rcases h with (h|⟨o,h⟩)|h
 . exact .inl (.inl (e _ _ h))
 . exact .inl (.inr ⟨o,e _ _ h⟩)
 exact .inr h
mutual
def Is (K:W.Frag)(H:Hp):PyData->V->Prop
 |.none,v=>v = .non
 |.bool b,v=>v = .bl b
 |.int i,v=>v = .int i
 |.str x,v=>v = .str x
 |.list ds,v=>∃ a xs,v = .ref a/\SqL K H a xs/\IsL K H ds xs
 |.tuple ds,v=>∃ a xs,v = .ref a/\SqT K H a xs/\IsL K H ds xs
 |.dict _,_=>False
def IsL (K:W.Frag)(H:Hp):List PyData->List V->Prop
 | [],vs=>vs=[]
 |d :: ds,vs=>∃ v r,vs=v :: r/\Is K H d v/\IsL K H ds r
end
mutual
theorem Is.mono {K:W.Frag}{H H':Hp}(e:Same H H'):∀(d:PyData) (v:V),Is K H d v->Is K H' d v
 |.none,_,h=>by simp only[Is] at h ⊢;exact h
 |.bool _,_,h=>by simp only[Is] at h ⊢;exact h
 |.int _,_,h=>by simp only[Is] at h ⊢;exact h
 |.str _,_,h=>by simp only[Is] at h ⊢;exact h
 |.list ds,v,h=>by simp only[Is] at h ⊢;obtain⟨a,xs,e1,e2,e3⟩:=h;exact⟨a,xs,e1,e.seq e2,IsL.mono e ds xs e3⟩
 |.tuple ds,v,h=>by simp only[Is] at h ⊢;obtain⟨a,xs,e1,e2,e3⟩:=h;exact⟨a,xs,e1,e.seqT e2,IsL.mono e ds xs e3⟩
 |.dict _,_,h=>by simp only[Is] at h
theorem IsL.mono {K:W.Frag}{H H':Hp}(e:Same H H'):∀(ds:List PyData) (vs:List V),IsL K H ds vs->IsL K H' ds vs
 | [],_,h=>by simp only[IsL] at h ⊢;exact h
 |d :: ds,vs,h=>by simp only[IsL] at h ⊢;obtain⟨v,r,e1,e2,e3⟩:=h;exact⟨v,r,e1,Is.mono e d v e2,IsL.mono e ds r e3⟩
end
section
variable {X:Cx}{pins:List (Addr×Obj)}{σ:St}{H:Hp}{s:Shared}
mutual
theorem Is.reads (I:Inv X pins σ H s):∀(d:PyData) (v:V) (u:Value),Is X.K H d v->RelV v u->∃ as,Reads s.heap u d as
 |.none,v,u,i,r=>by
   simp only[Is] at i;subst i
   cases r;exact⟨_,.none⟩
 |.bool b,v,u,i,r=>by
   simp only[Is] at i;subst i
   cases r;exact⟨_,.bool b⟩
 |.int n,v,u,i,r=>by simp only[Is] at i;subst i;obtain⟨t,rfl⟩:=r;exact⟨_,.int n t⟩
 |.str x,v,u,i,r=>by simp only[Is] at i;subst i;obtain⟨t,rfl⟩:=r;exact⟨_,.str x t⟩
 |.list ds,v,u,i,r=>by
   simp only[Is] at i;obtain⟨a,xs,rfl,e2,e3⟩:=i
   cases r;obtain⟨its,rv,⟨o,n,e,hc,hd,hs⟩,_⟩:=I.list e2;obtain⟨as,ra⟩:=IsL.reads I ds xs its e3 rv;exact⟨_,.list e hc hs (by simpa using ra)⟩
 |.tuple ds,v,u,i,r=>by
   simp only[Is] at i;obtain⟨a,xs,rfl,e2,e3⟩:=i
   cases r;obtain⟨its,rv,⟨o,e,hc,n,hd⟩,_⟩:=I.tuple e2;obtain⟨as,ra⟩:=IsL.reads I ds xs its e3 rv;exact⟨_,.tuple e hc hd (by simpa using ra)⟩
 |.dict _,_,_,i,_=>by simp only[Is] at i
theorem IsL.reads (I:Inv X pins σ H s):∀(ds:List PyData) (vs:List V) (us:List Value),IsL X.K H ds vs->Vals vs us->∃ as,ReadsAll s.heap us ds as
 | [],vs,us,i,r=>by
   simp only[IsL] at i;subst i
   cases r;exact⟨_,.nil⟩
 |d :: ds,vs,us,i,r=>by
   simp only[IsL] at i;obtain⟨v,rr,rfl,e2,e3⟩:=i
   cases r with
   |cons r1 r2=>obtain⟨a1,h1⟩:=Is.reads I d v _ e2 r1;obtain⟨a2,h2⟩:=IsL.reads I ds rr _ e3 r2;exact⟨_,.cons h1 h2⟩
end
end
theorem a41 {K:W.Frag}{H:Hp}:∀ ns:List Int,IsL K H (ns.map PyData.int) (ns.map V.int)
 | []=>by simp only[List.map_nil,IsL]
 |n :: r=>by simp only[List.map_cons,IsL];exact⟨_,_,rfl,by simp only[Is],a41 r⟩
theorem Oj {K:W.Frag}{H:Hp}:∀ ns:List Str,IsL K H (ns.map PyData.str) (ns.map V.str)
 | []=>by simp only[List.map_nil,IsL]
 |n :: r=>by simp only[List.map_cons,IsL];exact⟨_,_,rfl,by simp only[Is],Oj r⟩
theorem Us {K:W.Frag}{H:Hp}{a:Addr}{ns:List Int}(h:SqL K H a (ns.map V.int)):Is K H (.list (ns.map PyData.int)) (.ref a):=by simp only[Is];exact⟨a,_,rfl,h,a41 ns⟩
structure QA (A:Around):Prop where
 un:A.units+150<cLine
 gd:A.guards=some []
theorem Cf {A:Around}{k:Nat}(hr:Room k A):QA A:=⟨by have:=hr.un;omega,hr.gd⟩
section
variable {X:Cx}
def Rx (K:W.Frag):R2:=λx y H Q=>(∃ i j,x = .int i/\y = .int j/\Q (.int (i+j)) H)\/(∃ i j,x = .str i/\y = .str j/\i.length+j.length<=sizeLine/\Q (.str (i++j)) H)\/aF5 x y H Q\/aq8 K x y H Q\/au6 K x y H Q
theorem ah9:OpR X (binaryOp .Add) (Rx X.K):=op_add.or (op_add_str.or (op_cat.or (op_catT.or ak5)))
def af0:R2:=λx y H Q=>(∃ i j,x = .int i/\y = .int j/\CMul i j/\Q (.int (i*j)) H)\/aF2 x y H Q
theorem op_mulA:OpR X (binaryOp .Mult) af0:=op_mul.or ar3
theorem Jf:OpR X (binaryOp .FloorDiv) (rI aC0 λi j=>.int (i / j)):=ae8
def az2 (K:W.Frag)(neg:Bool):R2:=λx y H Q=>∃ dx dy,Is K H dx x/\Is K H dy y/\SeqAt.shaped dx=true/\SeqAt.shaped dy=true/\Q (.bl (if neg then !PyData.eqv dx dy else PyData.eqv dx dy)) H
theorem as0 (hq:QA X.A):OpR X (compareOp .Eq) (az2 X.K false):=by intro pins s σ H x y v u Q I rx ry h;obtain⟨dx,dy,ix,iy,sx,sy,q⟩:=h;obtain⟨as,ra⟩:=Is.reads I dx x v ix rx;obtain⟨bs,rb⟩:=Is.reads I dy y u iy ry;exact eq_dataH ra rb sx sy (by have:=hq.un;omega) ⟨.bl _,H,I,rfl,q⟩
theorem aq6 (hq:QA X.A):OpR X (compareOp .NotEq) (az2 X.K true):=by intro pins s σ H x y v u Q I rx ry h;obtain⟨dx,dy,ix,iy,sx,sy,q⟩:=h;obtain⟨as,ra⟩:=Is.reads I dx x v ix rx;obtain⟨bs,rb⟩:=Is.reads I dy y u iy ry;exact ne_dataH ra rb sx sy (by have:=hq.un;omega) ⟨.bl _,H,I,rfl,q⟩
def ay7 (K:W.Frag):R2:=λx y H Q=>rEq x y H Q\/az2 K false x y H Q
def az0 (K:W.Frag):R2:=λx y H Q=>rNe x y H Q\/az2 K true x y H Q
theorem ax5 (hq:QA X.A):OpR X (compareOp .Eq) (ay7 X.K):=op_eq.or (as0 hq)
theorem am7 (hq:QA X.A):OpR X (compareOp .NotEq) (az0 X.K):=op_ne.or (aq6 hq)
def rInT (neg:Bool):R2:=λx y H Q=>∃ i j,x = .str i/\y = .str j/\Q (.bl (if neg then !(!(Builtin.Str.occurrences j i 0 j.length 1).isEmpty) else !(Builtin.Str.occurrences j i 0 j.length 1).isEmpty)) H
def aA7 (neg:Bool):R2:=λx y H Q=>∃ a o,y = .ref a/\DGet H a x o/\Q (.bl (if neg then !o.isSome else o.isSome)) H
theorem aw8 (hu:X.A.units+1<cLine):OpR X (compareOp .In) (aA7 false):=by
 intro pins s σ H x y v u Q I rx ry h;obtain⟨a,o,rfl,g,q⟩:=h
 cases ry;exact d_in hu I g rx λs' I'=>⟨.bl _,H,I',rfl,q⟩
theorem Xm (hu:X.A.units+1<cLine):OpR X (compareOp .NotIn) (aA7 true):=by
 intro pins s σ H x y v u Q I rx ry h;obtain⟨a,o,rfl,g,q⟩:=h
 cases ry;exact ag5 hu I g rx λs' I'=>⟨.bl _,H,I',rfl,q⟩
def aB3 (K:W.Frag)(neg:Bool):R2:=λx y H Q=>∃ d ds,Is K H d x/\(Is K H (.list ds) y\/Is K H (.tuple ds) y)/\PyData.canLayAll0 ds=true/\d.canLay0=true/\d.depth<=100/\Q (.bl (if neg then !(ds.any λe=>PyData.eqv e d) else ds.any λe=>PyData.eqv e d)) H
theorem as9 (hq:QA X.A):OpR X (compareOp .In) (aB3 X.K false):=by
 intro pins s σ H x y v u Q I rx ry h;obtain⟨d,ds,ix,iy,h1,h2,h3,q⟩:=h;obtain⟨bs,rb⟩:=Is.reads I d x v ix rx;rcases iy with iy|iy
 . obtain⟨as,ra⟩:=Is.reads I _ y u iy ry;exact SeqAt.in_list_reads ra rb h1 h2 (by have:=hq.un;have:=A3X (PyData.depthAll ds) d.depth;omega) ⟨.bl _,H,I,rfl,q⟩
 obtain⟨as,ra⟩:=Is.reads I _ y u iy ry;exact SeqAt.in_tuple_reads ra rb h1 h2 (by have:=hq.un;have:=A3X (PyData.depthAll ds) d.depth;omega) ⟨.bl _,H,I,rfl,q⟩
theorem Zd (hq:QA X.A):OpR X (compareOp .NotIn) (aB3 X.K true):=by
 intro pins s σ H x y v u Q I rx ry h;obtain⟨d,ds,ix,iy,h1,h2,h3,q⟩:=h;obtain⟨bs,rb⟩:=Is.reads I d x v ix rx;rcases iy with iy|iy
 . obtain⟨as,ra⟩:=Is.reads I _ y u iy ry;exact SeqAt.notIn_list_reads ra rb h1 h2 (by have:=hq.un;have:=A3X (PyData.depthAll ds) d.depth;omega) ⟨.bl _,H,I,rfl,q⟩
 obtain⟨as,ra⟩:=Is.reads I _ y u iy ry;exact SeqAt.notIn_tuple_reads ra rb h1 h2 (by have:=hq.un;have:=A3X (PyData.depthAll ds) d.depth;omega) ⟨.bl _,H,I,rfl,q⟩
def X5 (K:W.Frag)(neg:Bool):R2:=λx y H Q=>rIn K neg x y H Q\/rInT neg x y H Q\/aA7 neg x y H Q\/aB3 K neg x y H Q
theorem QA.hu {A:Around}(h:QA A):A.units+1<cLine:=by have:=h.un;omega
theorem ap8 (hq:QA X.A):OpR X (compareOp .In) (X5 X.K false):=op_in_seq.or (op_in_str.or ((aw8 hq.hu).or (as9 hq)))
theorem Xt (hq:QA X.A):OpR X (compareOp .NotIn) (X5 X.K true):=op_notIn_seq.or (op_notIn_str.or ((Xm hq.hu).or (Zd hq)))
def at0 (K:W.Frag):V->Option Int->Option Int->Hp->VK->Prop:=λx lo hi H Q=>aD3 K x lo hi H Q\/aE3 K x lo hi H Q\/aE6 x lo hi H Q\/aE0 K x lo hi H Q
theorem sl_A:SlR X (at0 X.K):=sl_list.or (sl_tup.or (sl_str.or a49))
def aE2:R2:=λx y H Q=>∃ a v,x = .ref a/\DGet H a y (some v)/\Q v H
theorem ag2 (hu:X.A.units+1<cLine):IxR X aE2:=by
 intro value slice pins s σ H x y v u Q I rx ry h hs;obtain⟨a,z,rfl,g,q⟩:=h
 cases rx;exact tail_any (Sy I g) PySem.F.slot_dict_getitem.lookup (a03 hu I g ry λw' s' I' rw'=>⟨z,H,I',rw',q⟩) hs
def Ux (K:W.Frag):R2:=λx y H Q=>rIx K x y H Q\/aE2 x y H Q
theorem aq1 (hu:X.A.units+1<cLine):IxR X (Ux X.K):=ix_seq.or (ag2 hu)
def Sb (K:W.Frag):List V->Hp->VK->Prop:=λxs H Q=>(∃ x n,xs=[x]/\aF4 K x H n/\Q (.int n) H)\/∃ a kvs,xs=[V.ref a]/\H a=some (.dK kvs)/\Q (.int kvs.length) H
theorem Xz:CallR X (.builtin "len") (Sb X.K):=call_len.or a09
def On (K:W.Frag):List V->Hp->VK->Prop:=λxs H Q=>(∃ x c t b,xs=[x,.ty c]/\Rz K H x t/\W.kitOne K t (.type c)=some b/\Q (.bl b) H)\/(∃ x c t b,xs=[x,.ref c]/\Rz K H x t/\W.kitOne K t (.ref c)=some b/\Q (.bl b) H)\/∃ a ys c b,xs=[V.ref a,.ty c]/\((SqT K H a ys/\W.kitOne K (.type "tuple") (.type c)=some b)\/(SqL K H a ys/\W.kitOne K (.type "list") (.type c)=some b))/\Q (.bl b) H
theorem Rc:CallR X (.builtin "isinstance") (On X.K):=call_isinst.or (call_isinstR.or Qn)
def W1 (K:W.Frag):List V->Hp->VK->Prop:=λxs H Q=>∃ p ys,xs=[.ref p]/\(SqL K H p ys\/SqT K H p ys)/\∀ l,H l=none->Q (.ref l) (upd H l (.lst ys))
theorem Wl:CallR X (.type "list") (W1 X.K):=Py
def Se (K:W.Frag):List V->Hp->VK->Prop:=λxs H Q=>∃ p ys,xs=[.ref p]/\((SqL K H p ys/\∀ l,H l=none->Q (.ref l) (upd H l (.tup ys)))\/(SqT K H p ys/\Q (.ref p) H))
theorem Ta:CallR X (.type "tuple") (Se X.K):=Ny
def aq5:List V->Hp->VK->Prop:=λxs H Q=>(∃ b,xs=[.bl b]/\Q (.str (if b then "True" else "False")) H)\/(xs=[.non]/\Q (.str "None") H)
theorem Mq:CallR X (.builtin "repr") aq5:=X2
def an1:List V->Hp->VK->Prop:=λxs H Q=>(∃ i,xs=[.int i]/\Q (.int i) H)\/∃ k,xs=[.bl k]/\Q (.int (if k then 1 else 0)) H
theorem Rb:CallR X (.type "int") an1:=a34
variable {tg:Expr}
def Jq (K:W.Frag)(x:V)(H1:Hp)(R:It->Hp->Prop):Prop:=(∃ a,x = .ref a/\(∃ xs,SqL K H1 a xs)/\R (Itl K a) H1)\/(∃ a,x = .ref a/\(∃ xs,SqT K H1 a xs)/\R (Itt K a) H1)\/(∃ z,x = .str z/\R (Its z) H1)\/∃ a kvs,x = .ref a/\((H1 a=some (.dK kvs)/\∀ o,R (Itd a o kvs) (upd H1 a (.frz o (.dK kvs))))\/∃ o,H1 a=some (.frz o (.dK kvs))/\R (Itd a o kvs) H1)
def aB0 (K:W.Frag)(tl:TE):TI:=fun σ H R=>tl σ H λx H1=>Jq K x H1 R
theorem au8 (hu:X.A.units+1<cLine){l:Expr}{tl:TE}(hl:PE X l tl):PI X tg l (aB0 X.K tl):=by
 intro pins s σ H R I h;refine thn (hl pins s σ H _ I h) λv s1 ⟨x,H1,I1,r1,q1⟩=>?_;rcases q1 with ⟨a,e,⟨xs,hq⟩,q⟩|⟨a,e,⟨xs,hq⟩,q⟩|⟨z,e,q⟩|⟨a,kvs,e,q⟩
 . subst e
   cases r1;obtain⟨its,rv,p,hz⟩:=I1.list hq;refine wpAny_pyIter_list p.isList ?_;refine⟨s1.heap.objs.size,[s1.heap.objs.size],_,_,H1,rfl,I1.kept (t':=s1.toks) λb o e=>A06 _ e,Yp a _,⟨_,A0Z _ rfl,rfl,rfl⟩,λb hb=>?_,q⟩;have e:b=s1.heap.objs.size:=by simpa using hb
   subst e;exact I1.fpOk (A05 _) (I1.hok.fresh (A05 _))
 . subst e
   cases r1;obtain⟨its,rv,p,hz⟩:=I1.tuple hq;refine wpAny_pyIter_tuple (show s1.heap.IsTuple a its.toArray from p) ?_;refine⟨s1.heap.objs.size,[s1.heap.objs.size],_,_,H1,rfl,I1.kept (t':=s1.toks) λb o e=>A06 _ e,Wg a _,⟨_,A0Z _ rfl,rfl,rfl⟩,λb hb=>?_,q⟩;have e:b=s1.heap.objs.size:=by simpa using hb
   subst e;exact I1.fpOk (A05 _) (I1.hok.fresh (A05 _))
 . subst e;exact ax0 I1 r1 q
 subst e
 cases r1;rcases q with ⟨hd,q⟩|⟨o,hd,q⟩
 . exact ai8 I1 hd q
 exact a48 I1 hd q
end
def Fnd (P:Program)(w:World)(K:W.Frag)(mg:Str->Option Value)(base:Heap)(k:Nat)(x:Str)(ps:List Str)(sp:Sp):Prop:=
 ∃ f fd,FnOk P w K mg base CX0 k f fd ps sp/\mg x=some (.ref f)/\W.keepIn K (.ref f)=true/\Binds K fd ps []
section
variable {X:Cx}{k:Nat}{x:Str}{ps:List Str}{sp:Sp}{e:Expr}{es:List Expr}{t:TA}{p pos:Pos}
theorem Az (F:Fnd X.prog X.w X.K X.mg X.base k x ps sp)(hr:Room k X.A)(hg:Gl X x)(ha:PA X (e :: es) t)(hdb:(x==("__debug__":Str))=false:=by decide)
  (he:starEach (e :: es) X.env=(false,eval e X.env) :: starEach es X.env:=by ac_nf) (hpl:(backTo pos (starEach es X.env)).any (·.1)=false:=by ac_nf):PE X (.Call (.Name x p) (e :: es) [] pos) (al3 sp [] E0 t):=by
 obtain⟨f,fd,h1,h2,h3,h4⟩:=F;exact ai5 h1 hr hg h2 h3 h4 .nil af9 ha hdb he hpl
end
def ExtBut (d:Addr)(H H':Hp):Prop:=∀ b o,b≠d->H b=some o->H' b=some o
theorem Same.lk {H H':Hp}{a:Addr}{o:HO}(e:Same H H')(h:H a=some o):H' a=some o:=e a o h
theorem Same.upd {H:Hp}{p:Addr}{o:HO}(h:H p=none):Same H (upd H p o):=λb u e=>by rw[B9 (ne_of_none e h)];exact e
theorem ExtBut.upd {H:Hp}{p:Addr}{o:HO}:ExtBut p H (upd H p o):=λb u n e=>by rw[B9 n];exact e
theorem Same.but {d:Addr}{H H':Hp}(e:Same H H'):ExtBut d H H':=λb o _ h=>e b o h
theorem ExtBut.trans {d:Addr}{H H1 H2:Hp}(a:ExtBut d H H1)(b:ExtBut d H1 H2):ExtBut d H H2:=λc o n h=>b c o n (a c o n h)
theorem ExtBut.same {d:Addr}{H H1 H2:Hp}(a:ExtBut d H H1)(b:Same H1 H2):ExtBut d H H2:=λc o n h=>b c o (a c o n h)
theorem ExtBut.refl {d:Addr}{H:Hp}:ExtBut d H H:=λ_ _ _ h=>h
def av6 (xs:List V)(H:Hp)(Q:VK):Prop:=xs.length<=sizeLine/\∀ p,H p=none->Q (.ref p) (upd H p (.tup xs))
def ao6 (xs:List V)(H:Hp)(Q:VK):Prop:=xs.length<=sizeLine/\∀ p,H p=none->Q (.ref p) (upd H p (.lst xs))
def aw2 (vs:List V)(H:Hp)(R:It->Hp->Prop):Prop:=∃ j:Int,vs=[.int j] /\ -(2 ^ 62)<=j/\j<2 ^ 62/\R (Itr 0 j.toNat) H
def ao9 (vs:List V)(H:Hp)(R:It->Hp->Prop):Prop:=∃ i j:Int,vs=[.int i,.int j]/\(-(2 ^ 62)<=i/\i<2 ^ 62 /\ -(2 ^ 62)<=j/\j<2 ^ 62)/\R (Itr i (j-i).toNat) H
def am0 (g:TG)(tb:TS)(D:Ov)(σ:St)(J:It)(H1:Hp):Prop:=∃ W:Nat->Nat->St->Hp->Prop,(∃ m,W 0 m σ H1)/\∀ i m σ H,W i m σ H ->
 (J.stop i H/\D.nx σ H)\/(J.go i H/\∃ N:St->Hp->Prop,(∀ σ' H',N σ' H'->∃ m',m'<m/\W (i+1) m' σ' H')/\∀ x H',J.yld i H x H'->g x σ H' fun σ2 H2=>tb {D with nx:=N,ct:=N,bk:=D.nx} σ2 H2)
def Sk (k:Nat)(js:List Nat)(g:TG)(tt:TT)(te:TE)(σ:St)(J:It)(H1:Hp)(Q:VK):Prop:=∀ p,H1 p=none ->
 ∃ W:Nat->Nat->Hp->Prop,(∃ m,W 0 m (upd H1 p (.lst [])))/\∀ i m H,W i m H ->
  (J.stop i H/\Q (.ref p) H)\/(J.go i H/\∃ N:Hp->Prop,(∀ H',N H'->∃ m',m'<m/\W (i+1) m' H') /\
   ∀ x H',J.yld i H x H'->g x (List.replicate k none++Qe σ js) H' fun σ2 H2=>tt σ2 H2 λb H3=>if b=true then te σ2 H3 λy H4=>∃ acc,H4 p=some (.lst acc)/\acc.length<sizeLine/\N (upd H4 p (.lst (acc++[y]))) else N H3)
def ab6 (p:Addr)(ps:List (V×V))(H:Hp)(Q:VK):Prop:=H p=some (.dK [])/\∃ kvs:List (Key×V),ps=kvs.map (λkv=>(kV kv.1,kv.2))/\kvs.length<=15/\Q (.ref p) (upd H p (.dK (Fj [] kvs)))
section
variable {K:W.Frag}{σ:St}{H:Hp}{Q:VK}{D:Ov}{ta tb te:TE}{c:TT}{t u:TS}{x y v:V}{i j:Int}
theorem i_var {n:Nat}(h:σ[n]? = some (some v))(k:Q v H):aC8 n σ H Q:=⟨v,h,k⟩
theorem i_c (k:Q v H):tC v σ H Q:=k
theorem i_next (k:D.nx σ H):ar2 D σ H:=k
theorem i_ret (k:te σ H D.rt):aD9 te D σ H:=k
theorem i_drop (k:te σ H λ_ H1=>D.nx σ H1):av1 te D σ H:=k
theorem i_asg {g:TG}(k:te σ H λx H1=>g x σ H1 D.nx):ar1 te g D σ H:=k
theorem i_gname {n:Nat}{R:St->Hp->Prop}(k:R (σ.set n (some v)) H):Mf n v σ H R:=k
theorem i_if (k:c σ H λb H1=>if b=true then t D σ H1 else u D σ H1):aF1 c t u D σ H:=k
theorem i_op {r:R2}(k:ta σ H λx H1=>tb σ H1 λy H2=>r x y H2 Q):tOp r ta tb σ H Q:=k
theorem i_un {r:V->Hp->VK->Prop}(k:ta σ H λx H1=>r x H1 Q):tUn r ta σ H Q:=k
theorem i_rU {g:Int->V}(k:Q (g i) H):rU g (.int i) H Q:=⟨i,rfl,k⟩
theorem i_rI0 {g:Int->Int->V}(k:Q (g i j) H):rI0 g (.int i) (.int j) H Q:=⟨i,j,rfl,rfl,k⟩
theorem i_rI {C:Int->Int->Prop}{g:Int->Int->V}(h:C i j)(k:Q (g i j) H):rI C g (.int i) (.int j) H Q:=⟨i,j,rfl,rfl,h,k⟩
theorem i_addI (k:Q (.int (i+j)) H):Rx K (.int i) (.int j) H Q:=.inl ⟨i,j,rfl,rfl,k⟩
theorem i_addS {a b:Str}(h:a.length+b.length<=sizeLine)(k:Q (.str (a++b)) H):Rx K (.str a) (.str b) H Q:=.inr (.inl ⟨a,b,rfl,rfl,h,k⟩)
theorem Mu {a b:Addr}{xs ys:List V}(h1:H a=some (.lst xs))(h2:H b=some (.lst ys))(h:xs.length+ys.length<=sizeLine)(k:∀ p H',H p=none->Same H H'->H' p=some (.lst (xs++ys))->Q (.ref p) H'):Rx K (.ref a) (.ref b) H Q:=
 .inr (.inr (.inl ⟨a,b,xs,ys,rfl,rfl,h1,h2,h,λp hp=>k p _ hp (Same.upd hp) A8⟩))
theorem ap5 (h:CMul i j)(k:Q (.int (i*j)) H):af0 (.int i) (.int j) H Q:=.inl ⟨i,j,rfl,rfl,h,k⟩
theorem i_eqS (h:ay9 x y=true)(k:Q (.bl (decide (x=y))) H):ay7 K x y H Q:=.inl ⟨h,k⟩
theorem i_neS (h:ay9 x y=true)(k:Q (.bl (!decide (x=y))) H):az0 K x y H Q:=.inl ⟨h,k⟩
theorem Xi {dx dy:PyData}(h1:Is K H dx x)(h2:Is K H dy y)(h3:SeqAt.shaped dx=true)(h4:SeqAt.shaped dy=true)(k:Q (.bl (PyData.eqv dx dy)) H):ay7 K x y H Q:=.inr ⟨dx,dy,h1,h2,h3,h4,k⟩
theorem a58 {dx dy:PyData}(h1:Is K H dx x)(h2:Is K H dy y)(h3:SeqAt.shaped dx=true)(h4:SeqAt.shaped dy=true)(k:Q (.bl (!PyData.eqv dx dy)) H):az0 K x y H Q:=.inr ⟨dx,dy,h1,h2,h3,h4,k⟩
theorem i_true {R:Bool->Hp->Prop}(k:R true H):ae6 σ H R:=k
theorem i_tTest {R:Bool->Hp->Prop}(k:te σ H λx H'=>∃ b,x = .bl b/\R b H'):ax6 te σ H R:=k
theorem i_tB {R:Bool->Hp->Prop}(k:te σ H λx H'=>∃ b,x = .bl b/\R b H'):tB te σ H R:=k
theorem i_bl {b:Bool}{R:Bool->Prop}(k:R b):∃ c,V.bl b = .bl c/\R c:=⟨b,rfl,k⟩
theorem i_not {R:Bool->Hp->Prop}(k:c σ H λb H1=>R (!b) H1):aF7 c σ H R:=k
theorem i_and {c':TT}{R:Bool->Hp->Prop}(k:c σ H λb H1=>if b=true then c' σ H1 R else R false H1):aF0 c c' σ H R:=k
theorem i_or {c':TT}{R:Bool->Hp->Prop}(k:c σ H λb H1=>if b=true then R true H1 else c' σ H1 R):tOr c c' σ H R:=k
theorem Po {a:Addr}{xs:List V}(h:H a=some (.lst xs))(e:atI xs i=some v)(k:Q v H):Ux K (.ref a) (.int i) H Q:=.inl (.inl ⟨a,xs,i,v,rfl,rfl,SqL.of h,e,k⟩)
theorem aj3 {z:Str}{s:Nat}(h:z.length<=sizeLine)(e:atI z.cps.toList i=some s)(k:Q (.str ⟨#[s]⟩) H):Ux K (.str z) (.int i) H Q:=.inl (.inr (.inr ⟨z,i,s,rfl,rfl,h,e,k⟩))
theorem i_ixD {a:Addr}{kvs:List (Key×V)}{z:Str}(h:H a=some (.dK kvs))(e:Dg kvs (Sum.inr z:Key)=some v)(k:Q v H):Ux K (.ref a) (.str z) H Q:=.inr ⟨a,v,rfl,by rw[<- e];exact DGet.k (k:=Sum.inr z) h,k⟩
theorem i_lenL {a:Addr}{xs:List V}(h:H a=some (.lst xs))(k:Q (.int xs.length) H):Sb K [.ref a] H Q:=.inl ⟨.ref a,_,rfl,.inl ⟨xs,SqL.of h,rfl⟩,k⟩
theorem i_lenT {a:Addr}{xs:List V}(h:H a=some (.tup xs))(k:Q (.int xs.length) H):Sb K [.ref a] H Q:=.inl ⟨.ref a,_,rfl,.inr ⟨xs,SqT.of h,rfl⟩,k⟩
theorem ac3 {c:String}{b:Bool}{a:Addr}{ys:List V}(h:SqT K H a ys)(e:W.kitOne K (.type "tuple") (.type c)=some b)(k:Q (.bl b) H):On K [.ref a,.ty c] H Q:=.inr (.inr ⟨a,ys,c,b,rfl,.inl ⟨h,e⟩,k⟩)
theorem ap9 {c:String}{b:Bool}{a:Addr}{ys:List V}(h:SqL K H a ys)(e:W.kitOne K (.type "list") (.type c)=some b)(k:Q (.bl b) H):On K [.ref a,.ty c] H Q:=.inr (.inr ⟨a,ys,c,b,rfl,.inr ⟨h,e⟩,k⟩)
theorem ai6 {a:Addr}{xs:List V}(h:SqL K H a xs)(k:∀ p H',H p=none->Same H H'->H' p=some (.lst xs)->Q (.ref p) H'):W1 K [.ref a] H Q:=⟨a,xs,rfl,.inl h,λp hp=>k p _ hp (Same.upd hp) A8⟩
theorem Oz {a:Addr}{xs:List V}(h:SqL K H a xs)(k:∀ p H',H p=none->Same H H'->H' p=some (.tup xs)->Q (.ref p) H'):Se K [.ref a] H Q:=⟨a,xs,rfl,.inl ⟨h,λp hp=>k p _ hp (Same.upd hp) A8⟩⟩
theorem i_intB {b:Bool}(k:Q (.int (if b then 1 else 0)) H):an1 [.bl b] H Q:=.inr ⟨b,rfl,k⟩
theorem i_sl {r:V->Option Int->Option Int->Hp->VK->Prop}{tl th:TO}(k:te σ H λx H1=>tl σ H1 λl H2=>th σ H2 λu H3=>r x l u H3 Q):tSl r te tl th σ H Q:=k
theorem i_noPart {R:Option Int->Hp->Prop}(k:R none H):Yo σ H R:=k
theorem i_part {R:Option Int->Hp->Prop}(k:te σ H λx H1=>∃ i,x = .int i/\R (some i) H1):ax7 te σ H R:=k
theorem i_int {R:Int->Prop}(k:R i):∃ j,V.int i = .int j/\R j:=⟨i,rfl,k⟩
theorem i_slS {z:Str}{lo hi:Option Int}(h:z.length<=sizeLine)(k:Q (.str (Txt.slice z lo hi)) H):at0 K (.str z) lo hi H Q:=.inr (.inr (.inl ⟨z,rfl,h,k⟩))
theorem Yg {a:Addr}{xs:List V}{lo hi:Option Int}(h:SqL K H a xs)(k:∀ p H',H p=none->Same H H'->H' p=some (.lst (Kt xs lo hi))->Q (.ref p) H'):at0 K (.ref a) lo hi H Q:=.inl ⟨a,xs,rfl,h,λp hp=>k p _ hp (Same.upd hp) A8⟩
theorem i_bm {T:String}{r:V->List V->Hp->VK->Prop}{ts:TA}(k:te σ H λx H1=>tyV K T x H1/\ts σ H1 λxs H2=>r x xs H2 Q):tBM K T r te ts σ H Q:=k
theorem i_bm0 {T:String}{r:V->List V->Hp->VK->Prop}(k:te σ H λx H1=>tyV K T x H1/\r x [] H1 Q):aC7 K T r te σ H Q:=k
theorem i_call {sp:Sp}{E:XK}{ts:TA}(k:ts σ H λvs H1=>sp (vs++[]) H1 Q E):al3 sp [] E ts σ H Q:=k
theorem i_cb {r:List V->Hp->VK->Prop}{ts:TA}(k:ts σ H λvs H1=>r vs H1 Q):tCB r ts σ H Q:=k
theorem i_cons {tr:TA}{R:List V->Hp->Prop}(k:ta σ H λx H1=>tr σ H1 λxs H2=>R (x :: xs) H2):aq7 ta tr σ H R:=k
theorem i_nil {R:List V->Hp->Prop}(k:R [] H):aE9 σ H R:=k
theorem i_tup {ts:TA}(k:ts σ H λxs H1=>av6 xs H1 Q):aD5 ts σ H Q:=k
theorem i_lst {ts:TA}(k:ts σ H λxs H1=>ao6 xs H1 Q):aD4 ts σ H Q:=k
theorem C0 {xs:List V}(h:xs.length<=sizeLine)(k:∀ p H',H p=none->Same H H'->H' p=some (.tup xs)->Q (.ref p) H'):av6 xs H Q:=⟨h,λp hp=>k p _ hp (Same.upd hp) A8⟩
theorem Cp {xs:List V}(h:xs.length<=sizeLine)(k:∀ p H',H p=none->Same H H'->H' p=some (.lst xs)->Q (.ref p) H'):ao6 xs H Q:=⟨h,λp hp=>k p _ hp (Same.upd hp) A8⟩
theorem X9 (k:∀ p H',H p=none->Same H H'->H' p=some (.dK [])->Q (.ref p) H'):ac9 σ H Q:=λp hp=>k p _ hp (Same.upd hp) A8
theorem i_put {td ty tv:TE}(k:tv σ H λv H1=>td σ H1 λx H2=>ty σ H2 λy H3=>∃ a H4,x = .ref a/\DPut H3 a y v H4/\D.nx σ H4):au4 td ty tv D σ H:=k
theorem Jc {a:Addr}{kvs:List (Key×V)}{z:Str}{R:Hp->Prop}(h:H a=some (.dK kvs))(hl:kvs.length<1000)(k:∀ H',ExtBut a H H'->H' a=some (.dK (Eb kvs (Sum.inr z) v))->R H'):∃ b H4,V.ref a = .ref b/\DPut H b (.str z) v H4/\R H4:=
 ⟨a,_,rfl,DPut.k (k:=Sum.inr z) h (Ye (A1F hl)),k _ ExtBut.upd A8⟩
theorem i_for {wi:TI}{g:TG}{tb:TS}(k:wi σ H λJ H1=>am0 g tb D σ J H1):aD7 wi g tb D σ H:=k
theorem i_comp {m:Nat}{js:List Nat}{wi:TI}{g:TG}{tt:TT}(k:wi σ H λJ H1=>Sk m js g tt te σ J H1 Q):al1 m js wi g tt te σ H Q:=k
theorem G3 {a:Addr}{xs:List V}{R:It->Hp->Prop}(h:SqL K H a xs)(k:R (Itl K a) H):Jq K (.ref a) H R:=.inl ⟨a,rfl,⟨xs,h⟩,k⟩
theorem Zv {a:Addr}{xs:List V}{R:It->Hp->Prop}(h:SqT K H a xs)(k:R (Itt K a) H):Jq K (.ref a) H R:=.inr (.inl ⟨a,rfl,⟨xs,h⟩,k⟩)
theorem i_rng1 {ts:TA}{R:It->Hp->Prop}(k:ts σ H λvs H1=>aw2 vs H1 R):as6 ts σ H R:=k
theorem Ii {R:It->Hp->Prop}(h:-(2 ^ 62)<=i/\i<2 ^ 62)(k:R (Itr 0 i.toNat) H):aw2 [V.int i] H R:=⟨i,rfl,h.1,h.2,k⟩
theorem i_rng2 {ts:TA}{R:It->Hp->Prop}(k:ts σ H λvs H1=>ao9 vs H1 R):av5 ts σ H R:=k
theorem ay3 {R:It->Hp->Prop}(h:(-(2 ^ 62)<=i/\i<2 ^ 62) /\ -(2 ^ 62)<=j/\j<2 ^ 62)(k:R (Itr i (j-i).toNat) H):ao9 [V.int i,V.int j] H R:=⟨i,j,rfl,⟨h.1.1,h.1.2,h.2.1,h.2.2⟩,k⟩
theorem i_iany {R:It->Hp->Prop}(k:te σ H λx H1=>Jq K x H1 R):aB0 K te σ H R:=k
theorem aa1 {trs:List (TE×TE)}(k:∀ p H1,H p=none->Same H H1->H1 p=some (.dK [])->Jt trs σ H1 λps H2=>ab6 p ps H2 Q):ao1 trs σ H Q:=λp hp=>k p _ hp (Same.upd hp) A8
theorem i_pair {tk tv:TE}{r:List (TE×TE)}{R:List (V×V)->Hp->Prop}(k:tk σ H λx H1=>tv σ H1 λy H2=>Jt r σ H2 λps H3=>R ((x,y) :: ps) H3):Jt ((tk,tv) :: r) σ H R:=k
theorem Xr {p:Addr}{ps:List (V×V)}(kvs:List (Key×V))(h:H p=some (.dK []))(e:ps=kvs.map (λkv=>(kV kv.1,kv.2)))(hl:kvs.length<=15)(k:∀ H',ExtBut p H H'->H' p=some (.dK (Fj [] kvs))->Q (.ref p) H'):ab6 p ps H Q:=⟨h,kvs,e,hl,k _ ExtBut.upd A8⟩
theorem i_pair0 {R:List (V×V)->Hp->Prop}(k:R [] H):Jt [] σ H R:=k
end
theorem Hy {c A B:Prop}[Decidable c](h1:c->A)(h2:¬ c->B):if decide c=true then A else B:=by
 by_cases h:c
 . rw[A0Y (A0K h)];exact h1 h
 rw[A0P (by rw[A0R h];exact A0G)];exact h2 h
theorem Xg {c A B:Prop}[Decidable c](h1:¬ c->A)(h2:c->B):if(!decide c)=true then A else B:=by
 by_cases h:c
 . rw[A0K h,A0P nofun];exact h2 h
 rw[A0R h,A0Y nofun];exact h1 h
theorem am6 {b:Bool}{A B:Prop}(h1:b=true->A)(h2:b=false->B):if b=true then A else B:=by
 cases b
 . rw[A0P A0G];exact h2 rfl
 rw[A0Y rfl];exact h1 rfl
theorem Y2 {b:Bool}{A B:Prop}(h1:b=false->A)(h2:b=true->B):if(!b)=true then A else B:=by
 cases b
 . exact h1 rfl
 exact h2 rfl
theorem iteNT {A B:Prop}(h:B):if(!true)=true then A else B:=h
theorem Ab {n:Nat}(h:n<=1000000):n<=sizeLine:=by rw[A1B];omega
def Hj (J:It)(xs:List V)(G:Hp->Prop):Prop:=
 ∀ i H,G H->(i<xs.length->J.go i H)/\(xs.length<=i->J.stop i H)/\∀ x H',i<xs.length->J.yld i H x H'->H'=H/\xs[i]? = some x
theorem At {K:W.Frag}{a:Addr}{xs:List V}:Hj (Itl K a) xs λH=>SqL K H a xs:=by intro i H g;refine⟨λh=>⟨xs,xs[i],g,A04 h⟩,λh=>⟨xs,g,h⟩,λx H' _ h=>⟨h.1,h.2 xs g⟩⟩
theorem Js {K:W.Frag}{a:Addr}{xs:List V}:Hj (Itt K a) xs λH=>SqT K H a xs:=by intro i H g;refine⟨λh=>⟨xs,xs[i],g,A04 h⟩,λh=>⟨xs,g,h⟩,λx H' _ h=>⟨h.1,h.2 xs g⟩⟩
theorem Bf {lo:Int}{n:Nat}:Hj (Itr lo n) ((List.range n).map λ(i:Nat)=>V.int (lo+(i:Int))) λ_=>True:=by
 intro i H _;refine⟨λh=>?_,λh=>?_,λx H' hi h=>?_⟩
 . show i<n;simpa using h
 . show n<=i;simpa using h
 obtain⟨e,hx⟩:=h;refine⟨e,?_⟩;have hi':i<n:=by simpa using hi
 rw[A07,List.getElem?_range hi',hx];rfl
theorem a74 {J:It}{xs:List V}{G:Hp->Prop}{g:TG}{tb:TS}{D:Ov}{σ:St}{H:Hp}(hw:Hj J xs G)(Pv:Nat->St->Hp->Prop)(h0:Pv 0 σ H)(hG:∀ i σ H,Pv i σ H->G H)
  (hs:∀ i x σ H,xs[i]? = some x->Pv i σ H->g x σ H fun σ2 H2=>tb {D with nx:=Pv (i+1),ct:=Pv (i+1),bk:=D.nx} σ2 H2) (hd:∀ σ H,Pv xs.length σ H->D.nx σ H) :
  ∃ W:Nat->Nat->St->Hp->Prop,(∃ m,W 0 m σ H)/\∀ i m σ H,W i m σ H ->
   (J.stop i H/\D.nx σ H)\/(J.go i H/\∃ N:St->Hp->Prop,(∀ σ' H',N σ' H'->∃ m',m'<m/\W (i+1) m' σ' H')/\∀ x H',J.yld i H x H'->g x σ H' fun σ2 H2=>tb {D with nx:=N,ct:=N,bk:=D.nx} σ2 H2):=by
 refine⟨λi m σ H=>m=xs.length-i/\i<=xs.length/\Pv i σ H,⟨xs.length,by simp,Nat.zero_le _,h0⟩,?_⟩;rintro i m σ H ⟨rfl,hi,p⟩;obtain⟨w1,w2,w3⟩:=hw i H (hG i σ H p)
 by_cases hlt:i<xs.length
 . refine .inr ⟨w1 hlt,Pv (i+1),fun σ' H' p'=>⟨xs.length-(i+1),by omega,rfl,hlt,p'⟩,λx H' y=>?_⟩;obtain⟨e,hx⟩:=w3 x H' hlt y;subst e;exact hs i x σ _ hx p
 have e:i=xs.length:=by omega
 subst e;exact .inl ⟨w2 (A05 _),hd σ H p⟩
def CN (p:Addr)(n:Nat)(Pv:Nat->List V->Hp->Prop)(i:Nat):Hp->Prop:=λH'=>i+1<=n/\∃ acc,H' p=some (.lst acc)/\acc.length<=i+1/\Pv (i+1) acc H'
theorem ai3 {p:Addr}{n:Nat}{Pv:Nat->List V->Hp->Prop}{i:Nat}{H:Hp}{acc:List V}{y:V}(hn:n<=1000000)(hi:i<n)(hl:acc.length<=i)(e:H p=some (.lst acc))(k:∀ H',ExtBut p H H'->H' p=some (.lst (acc++[y]))->Pv (i+1) (acc++[y]) H') :
  ∃ acc,H p=some (.lst acc)/\acc.length<sizeLine/\CN p n Pv i (upd H p (.lst (acc++[y]))):=
 ⟨acc,e,by rw[A1B];omega,hi,acc++[y],A8,by rw[A08,A1O];omega,k _ ExtBut.upd A8⟩
theorem K5 {p:Addr}{n:Nat}{Pv:Nat->List V->Hp->Prop}{i:Nat}{H:Hp}{acc:List V}(hi:i<n)(hl:acc.length<=i)(e:H p=some (.lst acc))(k:Pv (i+1) acc H):CN p n Pv i H:=⟨hi,acc,e,by omega,k⟩
theorem Xb {J:It}{xs:List V}{G:Hp->Prop}{g:TG}{tt:TT}{te:TE}{σ:St}{H:Hp}{Q:VK}{p:Addr}{k:Nat}{js:List Nat}(hw:Hj J xs G)(hp:H p=none)(Pv:Nat->List V->Hp->Prop)
  (h0:∀ H',Same H H'->H' p=some (.lst [])->Pv 0 [] H') (hG:∀ i acc H,Pv i acc H->G H)
  (hs:∀ i x acc H,xs[i]? = some x->i<xs.length->acc.length<=i->H p=some (.lst acc)->Pv i acc H->g x (List.replicate k none++Qe σ js) H fun σ2 H2=>tt σ2 H2 λb H3=>if b=true then te σ2 H3 λy H4=>∃ acc,H4 p=some (.lst acc)/\acc.length<sizeLine/\CN p xs.length Pv i (upd H4 p (.lst (acc++[y]))) else CN p xs.length Pv i H3)
  (hd:∀ acc H,H p=some (.lst acc)->acc.length<=xs.length->Pv xs.length acc H->Q (.ref p) H) :
  ∃ W:Nat->Nat->Hp->Prop,(∃ m,W 0 m (upd H p (.lst [])))/\∀ i m H,W i m H ->
   (J.stop i H/\Q (.ref p) H)\/(J.go i H/\∃ N:Hp->Prop,(∀ H',N H'->∃ m',m'<m/\W (i+1) m' H') /\
    ∀ x H',J.yld i H x H'->g x (List.replicate k none++Qe σ js) H' fun σ2 H2=>tt σ2 H2 λb H3=>
     if b=true then te σ2 H3 λy H4=>∃ acc,H4 p=some (.lst acc)/\acc.length<sizeLine/\N (upd H4 p (.lst (acc++[y]))) else N H3):=by
 refine⟨λi m H=>m=xs.length-i/\i<=xs.length/\∃ acc,H p=some (.lst acc)/\acc.length<=i/\Pv i acc H,⟨xs.length,by simp,Nat.zero_le _,[],A8,Nat.le_refl _,h0 _ (Same.upd hp) A8⟩,?_⟩;rintro i m H ⟨rfl,hi,acc,hacc,hl,q⟩;obtain⟨w1,w2,w3⟩:=hw i H (hG i acc H q)
 by_cases hlt:i<xs.length
 . refine .inr ⟨w1 hlt,CN p xs.length Pv i,λH' ⟨h1,h2⟩=>⟨xs.length-(i+1),by omega,rfl,h1,h2⟩,λx H' y=>?_⟩;obtain⟨e,hx⟩:=w3 x H' hlt y;subst e;exact hs i x acc _ hx hlt hl hacc q
 have e:i=xs.length:=by omega
 subst e;exact .inl ⟨w2 (A05 _),hd acc H hacc hl q⟩
def aq4 (p:Addr)(N:Hp->Prop):VK:=λy H4=>∃ acc,H4 p=some (.lst acc)/\acc.length<sizeLine/\N (upd H4 p (.lst (acc++[y])))
theorem Ca {J:It}{xs:List V}{G:Hp->Prop}{g:TG}{tt:TT}{te:TE}{σ:St}{H:Hp}{Q:VK}{k:Nat}{js:List Nat}(hw:Hj J xs G)(Pv:Addr->Nat->List V->Hp->Prop)
  (h0:∀ p H',H p=none->Same H H'->H' p=some (.lst [])->Pv p 0 [] H') (hG:∀ p i acc H,Pv p i acc H->G H)
  (hs:∀ p i x acc H1,H p=none->xs[i]? = some x->i<xs.length->acc.length<=i->H1 p=some (.lst acc)->Pv p i acc H1->g x (List.replicate k none++Qe σ js) H1 fun σ2 H2=>tt σ2 H2 λb H3=>if b=true then te σ2 H3 (aq4 p (CN p xs.length (Pv p) i)) else CN p xs.length (Pv p) i H3)
  (hd:∀ p acc H1,H p=none->H1 p=some (.lst acc)->acc.length<=xs.length->Pv p xs.length acc H1->Q (.ref p) H1):Sk k js g tt te σ J H Q:=λp hp=>
 Xb hw hp (Pv p) (λH' e h=>h0 p H' hp e h) (hG p) (λi x acc H1 h1 h2 h3 h4 h5=>hs p i x acc H1 hp h1 h2 h3 h4 h5) λacc H1 h1 h2 h3=>hd p acc H1 hp h1 h2 h3
theorem Eu {p:Addr}{n:Nat}{Pv:Nat->List V->Hp->Prop}{i:Nat}{H:Hp}{acc:List V}{y:V}(hn:n<=1000000)(hi:i<n)(hl:acc.length<=i)(e:H p=some (.lst acc))(k:∀ H',ExtBut p H H'->H' p=some (.lst (acc++[y]))->Pv (i+1) (acc++[y]) H') :
  aq4 p (CN p n Pv i) y H:=ai3 hn hi hl e k
theorem Y0 {J:It}{xs:List V}{G:Hp->Prop}{g:TG}{tt:TT}{te:TE}{σ:St}{H:Hp}{Q:VK}{k:Nat}{js:List Nat}(hw:Hj J xs G)(t:V->Bool)(f:V->V)(hz:xs.length<=1000000)(hG:∀ H',Same H H'->G H')
  (hs:∀(i:Nat) x H1 (R:VK) (R':Hp->Prop),xs[i]? = some x->Same H H1->(t x=true->R (f x) H1)->(t x=false->R' H1)->g x (List.replicate k none++Qe σ js) H1 fun σ2 H2=>tt σ2 H2 λb H3=>if b=true then te σ2 H3 R else R' H3)
  (hd:∀ p H',H p=none->Same H H'->H' p=some (.lst ((xs.filter t).map f))->Q (.ref p) H'):Sk k js g tt te σ J H Q:=by
 refine Ca hw (λp i acc H1=>Same H H1/\acc=((xs.take i).filter t).map f) (λp H' hp e h=>⟨e,by simp⟩) (λp i acc H1 h=>hG H1 h.1) (λp i x acc H1 hp hx hi hl ha ⟨e,hacc⟩=>?_) λp acc H1 hp ha hl ⟨e,hacc⟩=>?_
 . have ht:xs.take (i+1)=xs.take i++[x]:=by rw[A0L,hx];rfl
   refine hs i x H1 _ _ hx e (λh=>?_) λh=>?_
   . refine Eu hz hi hl ha λH' e' h'=>⟨λb o hb=>e' b o (ne_of_none hb hp) (e b o hb),?_⟩;rw[ht,A2E,A0A,hacc];simp[h]
   refine K5 hi hl ha ⟨e,?_⟩;rw[ht,A2E,A0A,hacc];simp[h]
 refine hd p H1 hp e ?_;rw[ha,hacc,A0Q]
theorem T4 {α:Type}(xs:List α):xs.filter (λ_=>true)=xs:=by simp
theorem Ox {J:It}{xs:List V}{G:Hp->Prop}{g:TG}{te:TE}{σ:St}{H:Hp}{Q:VK}{k:Nat}{js:List Nat}(hw:Hj J xs G)(f:V->V)(hz:xs.length<=1000000)(hG:∀ H',Same H H'->G H')
  (hs:∀(i:Nat) x H1 (R:VK),xs[i]? = some x->Same H H1->R (f x) H1->g x (List.replicate k none++Qe σ js) H1 fun σ2 H2=>te σ2 H2 R)
  (hd:∀ p H',H p=none->Same H H'->H' p=some (.lst (xs.map f))->Q (.ref p) H'):Sk k js g ae6 te σ J H Q:=
 Y0 hw (λ_=>true) f hz hG (λi x H1 R R' hx e h _=>by
  have:=hs i x H1 R hx e (h rfl);show g x _ H1 fun σ2 H2=>if true=true then te σ2 H2 R else R' H2
  simpa using this) λp H' hp e h=>hd p H' hp e (by rw[h,T4])
theorem Ep {J:It}{xs:List V}{G:Hp->Prop}{g:TG}{tb:TS}{D:Ov}{σ:St}{H:Hp}(hw:Hj J xs G)(Pv:Nat->St->Hp->Prop)(h0:Pv 0 σ H)(hG:∀ i σ H,Pv i σ H->G H)
  (hs:∀ i x σ H,xs[i]? = some x->i<xs.length->Pv i σ H->g x σ H fun σ2 H2=>tb {D with nx:=Pv (i+1),ct:=Pv (i+1),bk:=D.nx} σ2 H2) (hd:∀ σ H,Pv xs.length σ H->D.nx σ H):am0 g tb D σ J H:=
 a74 hw Pv h0 hG (λi x σ H hx=>hs i x σ H hx (A01.mp hx).1) hd
section
variable {X:Cx}{K:W.Frag}
theorem Ah (hK:X.K=K:=by ac_nf):OpR X (binaryOp .Add) (Rx K):=hK ▸ ah9
theorem Bi (hq:QA X.A)(hK:X.K=K:=by ac_nf):OpR X (compareOp .Eq) (ay7 K):=hK ▸ ax5 hq
theorem Rw (hq:QA X.A)(hK:X.K=K:=by ac_nf):OpR X (compareOp .NotEq) (az0 K):=hK ▸ am7 hq
theorem Qg (hq:QA X.A)(hK:X.K=K:=by ac_nf):OpR X (compareOp .In) (X5 K false):=hK ▸ ap8 hq
theorem Gc (hq:QA X.A)(hK:X.K=K:=by ac_nf):OpR X (compareOp .NotIn) (X5 K true):=hK ▸ Xt hq
theorem A6 (hu:X.A.units+1<cLine)(hK:X.K=K:=by ac_nf):IxR X (Ux K):=hK ▸ aq1 hu
theorem Pt (hK:X.K=K:=by ac_nf):SlR X (at0 K):=hK ▸ sl_A
theorem Am (hK:X.K=K:=by ac_nf):CallR X (.builtin "len") (Sb K):=hK ▸ Xz
theorem Ho (hK:X.K=K:=by ac_nf):CallR X (.builtin "isinstance") (On K):=hK ▸ Rc
theorem Nd (hK:X.K=K:=by ac_nf):CallR X (.type "list") (W1 K):=hK ▸ Wl
theorem J6 (hK:X.K=K:=by ac_nf):CallR X (.type "tuple") (Se K):=hK ▸ Ta
theorem An {tg:Expr}(hu:X.A.units+1<cLine){l:Expr}{tl:TE}(hl:PE X l tl)(hK:X.K=K:=by ac_nf):PI X tg l (aB0 K tl):=hK ▸ au8 hu hl
theorem Sn {es:List Expr}{k:Nat}{t:TGs}{n:Nat}{pos:Pos}(hc:X.calm=true)(h:PGs X es t)(hK:X.K=K:=by ac_nf)
  (hn:(assignEach es X.env).length=n:=by ac_nf) (hst:(assignEach es X.env).findIdx? (·.1)=none:=by ac_nf):PG X (.Tuple es k pos) (az5 K n t):=hK ▸ aw1 hc h hn hst
variable {o e:Expr}{es:List Expr}{to:TE}{t:TA}{name:Str}{apos cpos:Pos}{T id:String}{r:V->List V->Hp->VK->Prop}
theorem Tb (pa:PlainAttrs T)(slot:Slot T name id)(hty:typeOf (.builtin id)=pure (.type "method_descriptor"))(hm:MtR X id r)(ho:PE X o to)(hK:X.K=K:=by ac_nf)
  (hbase:attributeBase o name X.env (eval o X.env)=eval o X.env:=by ac_nf) (hline:(apos.endLine==cpos.line)=true:=by ac_nf):PE X (.Call (.Attribute o name apos) [] [] cpos) (aC7 K T r to):=hK ▸ at5 pa slot hty hm ho hbase hline
theorem Lw (pa:PlainAttrs T)(slot:Slot T name id)(hty:typeOf (.builtin id)=pure (.type "method_descriptor"))(hm:MtR X id r)(ho:PE X o to)(ha:PA X (e :: es) t)(hK:X.K=K:=by ac_nf)
  (hbase:attributeBase o name X.env (eval o X.env)=eval o X.env:=by ac_nf)
  (hfew:((backTo cpos (starEach (e :: es) X.env)).all (λx=>!x.1)&&(backToKw cpos (keywordEach [] X.env)).all (λx=>x.1.isSome)
   && decide ((e :: es).length+([]:List Keyword).length+(if([]:List Keyword).isEmpty then 0 else 1)<30))=true:=by ac_nf)
  (hline:(apos.endLine==cpos.line)=true:=by ac_nf) (hs:starEach (e :: es) X.env=(false,eval e X.env) :: starEach es X.env:=by ac_nf) (hplain:(backTo cpos (starEach es X.env)).any (·.1)=false:=by ac_nf) :
  PE X (.Call (.Attribute o name apos) (e :: es) [] cpos) (tBM K T r to t):=hK ▸ aA9 pa slot hty hm ho ha hbase hfew hline hs hplain
end
def Fz (H H':Hp):Prop:=∀ a xs,Rd H a (.tup xs)->Rd H' a (.tup xs)
theorem Fz.refl (H:Hp):Fz H H:=λ_ _ h=>h
theorem Fz.trans {H H1 H2:Hp}(a:Fz H H1)(b:Fz H1 H2):Fz H H2:=λc xs h=>b c xs (a c xs h)
theorem Same.fz {H H':Hp}(e:Same H H'):Fz H H':=λa xs h=>by
 rcases h with h|⟨o,h⟩
 . exact .inl (e _ _ h)
 exact .inr ⟨o,e _ _ h⟩
theorem Mr {p:Addr}{H H':Hp}(e:ExtBut p H H')(hp:∀ xs,¬ Rd H p (.tup xs)):Fz H H':=λa xs h=>by
 have n:a≠p:=λq=>hp xs (q ▸ h);rcases h with h|⟨o,h⟩
 . exact .inl (e _ _ n h)
 exact .inr ⟨o,e _ _ n h⟩
theorem ExtBut.fzL {p:Addr}{H H':Hp}{l:List V}(e:ExtBut p H H')(hp:H p=some (.lst l)):Fz H H':=Mr e λxs h=>by
 rcases h with h|⟨o,h⟩
 . rw[hp] at h;cases h
 rw[hp] at h;cases h
theorem ExtBut.fzD {p:Addr}{H H':Hp}{l:List (Key×V)}(e:ExtBut p H H')(hp:H p=some (.dK l)):Fz H H':=Mr e λxs h=>by
 rcases h with h|⟨o,h⟩
 . rw[hp] at h;cases h
 rw[hp] at h;cases h
theorem Fz.seq {K:W.Frag}{H H':Hp}(e:Fz H H'){a:Addr}{xs:List V}(h:SqT K H a xs):SqT K H' a xs:=by
 rcases h with h|h
 . exact .inl (e _ _ h)
 exact .inr h
mutual
def frz:PyData->Bool
 |.tuple ds=>Tr ds
 |.list _=>false
 |.dict _=>false
 |_=>true
def Tr:List PyData->Bool
 | []=>true
 |d :: ds=>frz d&&Tr ds
end
mutual
theorem Is.fz {K:W.Frag}{H H':Hp}(e:Fz H H'):∀(d:PyData) (v:V),frz d=true->Is K H d v->Is K H' d v
 |.none,_,_,h=>by simp only[Is] at h ⊢;exact h
 |.bool _,_,_,h=>by simp only[Is] at h ⊢;exact h
 |.int _,_,_,h=>by simp only[Is] at h ⊢;exact h
 |.str _,_,_,h=>by simp only[Is] at h ⊢;exact h
 |.list ds,v,hf,_=>by simp[frz] at hf
 |.tuple ds,v,hf,h=>by simp only[Is] at h ⊢;obtain⟨a,xs,e1,e2,e3⟩:=h;exact⟨a,xs,e1,e.seq e2,IsL.fz e ds xs (by simpa only[frz] using hf) e3⟩
 |.dict _,_,_,h=>by simp only[Is] at h
theorem IsL.fz {K:W.Frag}{H H':Hp}(e:Fz H H'):∀(ds:List PyData) (vs:List V),Tr ds=true->IsL K H ds vs->IsL K H' ds vs
 | [],_,_,h=>by simp only[IsL] at h ⊢;exact h
 |d :: ds,vs,hf,h=>by simp only[IsL] at h ⊢;simp only[Tr,Bool.and_eq_true] at hf;obtain⟨v,r,e1,e2,e3⟩:=h;exact⟨v,r,e1,Is.fz e d v hf.1 e2,IsL.fz e ds r hf.2 e3⟩
end
section
variable {K:W.Frag}{H H':Hp}
theorem IsL.length:∀ {ds:List PyData} {vs:List V},IsL K H ds vs->ds.length=vs.length
 | [],_,h=>by simp only[IsL] at h;subst h;rfl
 |d :: ds,vs,h=>by simp only[IsL] at h;obtain⟨v,r,rfl,_,e3⟩:=h;simp only[List.length_cons,IsL.length e3]
theorem IsL.get:∀ {ds:List PyData} {vs:List V} {i:Nat} {x:V},IsL K H ds vs->vs[i]? = some x->∃ d,ds[i]? = some d/\Is K H d x
 | [],_,_,_,h,e=>by simp only[IsL] at h;subst h;simp at e
 |d :: ds,vs,i,x,h,e=>by
   simp only[IsL] at h;obtain⟨v,r,rfl,e2,e3⟩:=h
   cases i with
   |zero=>simp at e;subst e;exact⟨d,rfl,e2⟩
   |succ i=>obtain⟨d',h1,h2⟩:=IsL.get (i:=i) e3 (by simpa using e);exact⟨d',by simpa using h1,h2⟩
theorem IsL.at:∀ {ds:List PyData} {vs:List V} {i:Nat} {d:PyData},IsL K H ds vs->ds[i]? = some d->∃ x,vs[i]? = some x/\Is K H d x
 | [],_,_,_,h,e=>by simp at e
 |d :: ds,vs,i,d',h,e=>by
   simp only[IsL] at h;obtain⟨v,r,rfl,e2,e3⟩:=h
   cases i with
   |zero=>simp at e;subst e;exact⟨v,rfl,e2⟩
   |succ i=>obtain⟨x,h1,h2⟩:=IsL.at (i:=i) e3 (by simpa using e);exact⟨x,by simpa using h1,h2⟩
theorem IsL.append:∀ {ds es:List PyData} {vs us:List V},IsL K H ds vs->IsL K H es us->IsL K H (ds++es) (vs++us)
 | [],_,_,_,h,g=>by simp only[IsL] at h;subst h;exact g
 |d :: ds,es,vs,us,h,g=>by simp only[IsL] at h;obtain⟨v,r,rfl,e2,e3⟩:=h;simp only[List.cons_append,IsL];exact⟨v,_,rfl,e2,IsL.append e3 g⟩
theorem IsL.one {d:PyData}{v:V}(h:Is K H d v):IsL K H [d] [v]:=by simp only[IsL];exact⟨v,[],rfl,h,rfl⟩
theorem IsL.nil:IsL K H [] []:=by simp only[IsL]
theorem IsL.cons {d:PyData} {v:V} {ds:List PyData} {vs:List V} (h:Is K H d v) (g:IsL K H ds vs):IsL K H (d :: ds) (v :: vs):=by simp only[IsL];exact⟨v,vs,rfl,h,g⟩
theorem IsL.take:∀ {ds:List PyData} {vs:List V} (n:Nat),IsL K H ds vs->IsL K H (ds.take n) (vs.take n)
 |ds,vs,0,h=>by simp only[List.take_zero];exact .nil
 | [],vs,n+1,h=>by simp only[IsL] at h;subst h;exact .nil
 |d :: ds,vs,n+1,h=>by simp only[IsL] at h;obtain⟨v,r,rfl,e2,e3⟩:=h;exact .cons e2 (IsL.take n e3)
theorem IsL.drop:∀ {ds:List PyData} {vs:List V} (n:Nat),IsL K H ds vs->IsL K H (ds.drop n) (vs.drop n)
 |ds,vs,0,h=>h
 | [],vs,n+1,h=>by simp only[IsL] at h;subst h;exact .nil
 |d :: ds,vs,n+1,h=>by simp only[IsL] at h;obtain⟨v,r,rfl,e2,e3⟩:=h;exact IsL.drop n e3
theorem IsL.str_eq:∀ {ns:List Str} {vs:List V},IsL K H (ns.map PyData.str) vs->vs=ns.map V.str
 | [],vs,h=>by simp only[List.map_nil,IsL] at h;exact h
 |n :: ns,vs,h=>by simp only[List.map_cons,IsL,Is] at h;obtain⟨v,r,rfl,rfl,e3⟩:=h;rw[IsL.str_eq e3];rfl
theorem Is.tup {ds:List PyData}{v:V}(h:Is K H (.tuple ds) v):∃ a xs,v = .ref a/\SqT K H a xs/\IsL K H ds xs:=by simpa only[Is] using h
theorem Is.of_tup {ds:List PyData}{a:Addr}{xs:List V}(h:SqT K H a xs)(g:IsL K H ds xs):Is K H (.tuple ds) (.ref a):=by simp only[Is];exact⟨a,xs,rfl,h,g⟩
theorem Is.of_lst {ds:List PyData}{a:Addr}{xs:List V}(h:SqL K H a xs)(g:IsL K H ds xs):Is K H (.list ds) (.ref a):=by simp only[Is];exact⟨a,xs,rfl,h,g⟩
theorem Is.str {z:Str}{v:V}(h:Is K H (.str z) v):v = .str z:=by simpa only[Is] using h
theorem Hi {z:Str}:Is K H (.str z) (.str z):=by simp only[Is]
end
def nmD (ns:List Str):PyData:=.tuple (ns.map PyData.str)
def prD (p:Str×Str):PyData:=.tuple [.str p.1,.str p.2]
def psD (ps:List (Str×Str)):PyData:=.tuple (ps.map prD)
def hfD (ns:List Str)(ps:List (Str×Str)):PyData:=.tuple [nmD ns,psD ps]
theorem Ll:∀ ns:List Str,Tr (ns.map PyData.str)=true
 | []=>rfl
 |n :: ns=>by simp only[List.map_cons,Tr,frz,Ll ns,Bool.and_self]
theorem R7 (ns:List Str):frz (nmD ns)=true:=by simp only[nmD,frz,Ll]
theorem Ys (p:Str×Str):frz (prD p)=true:=by simp[prD,frz,Tr]
theorem Gk:∀ ps:List (Str×Str),Tr (ps.map prD)=true
 | []=>rfl
 |n :: ns=>by simp only[List.map_cons,Tr,Ys,Gk ns,Bool.and_self]
theorem a93 (ps:List (Str×Str)):frz (psD ps)=true:=by simp only[psD,frz,Gk]
theorem au2 (ns:List Str)(ps:List (Str×Str)):frz (hfD ns ps)=true:=by simp only[hfD,frz,Tr,R7,a93,Bool.and_self]
section
variable {K:W.Frag}{H H':Hp}
theorem Is.nm {ns:List Str}{v:V}(h:Is K H (nmD ns) v):∃ a,v = .ref a/\SqT K H a (ns.map V.str):=by obtain⟨a,xs,rfl,h1,h2⟩:=Is.tup h;exact⟨a,rfl,by rw[<- IsL.str_eq h2];exact h1⟩
theorem Ig {ns:List Str}{a:Addr}(h:SqT K H a (ns.map V.str)):Is K H (nmD ns) (.ref a):=Is.of_tup h (Oj ns)
theorem Is.pr {p:Str×Str}{v:V}(h:Is K H (prD p) v):∃ a,v = .ref a/\SqT K H a [.str p.1,.str p.2]:=by obtain⟨a,xs,rfl,h1,h2⟩:=Is.tup h;simp only[IsL,Is] at h2;obtain⟨_,_,rfl,rfl,_,_,rfl,rfl,rfl⟩:=h2;exact⟨a,rfl,h1⟩
theorem aB8 {x y:Str}{a:Addr}(h:SqT K H a [.str x,.str y]):Is K H (prD (x,y)) (.ref a):=Is.of_tup h (.cons Hi (.one Hi))
theorem Is.hf {ns:List Str}{ps:List (Str×Str)}{v:V}(h:Is K H (hfD ns ps) v):∃ a x y,v = .ref a/\SqT K H a [x,y]/\Is K H (nmD ns) x/\Is K H (psD ps) y:=by obtain⟨a,xs,rfl,h1,h2⟩:=Is.tup h;simp only[IsL] at h2;obtain⟨x,_,rfl,hx,y,_,rfl,hy,rfl⟩:=h2;exact⟨a,x,y,rfl,h1,hx,hy⟩
theorem aC3 {ns:List Str}{ps:List (Str×Str)}{a:Addr}{x y:V}(h:SqT K H a [x,y])(hx:Is K H (nmD ns) x)(hy:Is K H (psD ps) y):Is K H (hfD ns ps) (.ref a):=Is.of_tup h (.cons hx (.one hy))
theorem Is.nm_fz {ns:List Str}{v:V}(h:Is K H (nmD ns) v)(e:Fz H H'):Is K H' (nmD ns) v:=Is.fz e _ _ (R7 ns) h
theorem Is.pr_fz {p:Str×Str}{v:V}(h:Is K H (prD p) v)(e:Fz H H'):Is K H' (prD p) v:=Is.fz e _ _ (Ys p) h
theorem Is.ps_fz {ps:List (Str×Str)}{v:V}(h:Is K H (psD ps) v)(e:Fz H H'):Is K H' (psD ps) v:=Is.fz e _ _ (a93 ps) h
theorem Is.hf_fz {ns:List Str}{ps:List (Str×Str)}{v:V}(h:Is K H (hfD ns ps) v)(e:Fz H H'):Is K H' (hfD ns ps) v:=Is.fz e _ _ (au2 ns ps) h
variable {σ:St}{Q:VK}{x v:V}{i:Int}
theorem Iz {a:Addr}{xs:List V}(h:SqT K H a xs)(e:atI xs i=some v)(k:Q v H):Ux K (.ref a) (.int i) H Q:=.inl (.inr (.inl ⟨a,xs,i,v,rfl,rfl,h,e,k⟩))
theorem Ie {ns:List Str}{ps:List (Str×Str)}(h:Is K H (hfD ns ps) x)(k:∀ v,Is K H (nmD ns) v->Q v H):Ux K x (.int 0) H Q:=by obtain⟨a,u,w,rfl,h1,h2,h3⟩:=h.hf;exact Iz h1 rfl (k u h2)
theorem Vo {ns:List Str}{ps:List (Str×Str)}(h:Is K H (hfD ns ps) x)(k:∀ v,Is K H (psD ps) v->Q v H):Ux K x (.int 1) H Q:=by obtain⟨a,u,w,rfl,h1,h2,h3⟩:=h.hf;exact Iz h1 rfl (k w h3)
theorem an3 {p:Str×Str}(h:Is K H (prD p) x)(k:Q (.str p.1) H):Ux K x (.int 0) H Q:=by obtain⟨a,rfl,h1⟩:=h.pr;exact Iz h1 rfl k
theorem ax4 {p:Str×Str}(h:Is K H (prD p) x)(k:Q (.str p.2) H):Ux K x (.int 1) H Q:=by obtain⟨a,rfl,h1⟩:=h.pr;exact Iz h1 rfl k
theorem ab7 {ds:List PyData}(h:Is K H (.tuple ds) x)(k:Q (.int ds.length) H):Sb K [x] H Q:=by obtain⟨a,xs,rfl,h1,h2⟩:=h.tup;rw[IsL.length h2] at k;exact .inl ⟨.ref a,_,rfl,.inr ⟨xs,h1,rfl⟩,k⟩
theorem Vh {ns:List Str}(h:Is K H (nmD ns) x)(k:Q (.int ns.length) H):Sb K [x] H Q:=ab7 h (by rw[A00];exact k)
theorem aw4 {ps:List (Str×Str)}(h:Is K H (psD ps) x)(k:Q (.int ps.length) H):Sb K [x] H Q:=ab7 h (by rw[A00];exact k)
theorem Je (ns:List Str):(ns.map V.str).all Nn=true:=by rw[A2Q];intro v h;obtain ⟨n,_,rfl⟩:=A0V.mp h;rfl
theorem Kq (z:Str):∀ ns:List Str,inV (.str z) (ns.map V.str)=decide (z∈ns)
 | []=>rfl
 |n :: ns=>by
   have ih:=Kq z ns;unfold inV at ih ⊢;rw[A0I,A1V,ih]
   have e:eqV (V.str n) (V.str z)=decide (n=z):=by
    show(n==z)=_
    by_cases h:n=z<;>simp[h]
   rw[e]
   by_cases h:n=z
   . subst h;simp
   have h':¬ z=n:=λq=>h q.symm
   by_cases g:z∈ns<;>simp[h,h',g]
theorem au0 {ns:List Str}{z:Str}{a:Addr}(h:SqL K H a (ns.map V.str))(k:Q (.bl (decide (z∈ns))) H):X5 K false (.str z) (.ref a) H Q:=
 .inl ⟨a,_,rfl,.inl h,rfl,Je ns,by rw[Kq];exact k⟩
theorem ao8 {ns:List Str}{z:Str}(h:Is K H (nmD ns) x)(k:Q (.bl (!decide (z∈ns))) H):X5 K true (.str z) x H Q:=by obtain⟨a,rfl,h1⟩:=h.nm;exact .inl ⟨a,_,rfl,.inr h1,rfl,Je ns,by rw[Kq];exact k⟩
theorem ae2 {ns:List Str}{z:Str}{a:Addr}(h:SqL K H a (ns.map V.str))(k:Q (.bl (!decide (z∈ns))) H):X5 K true (.str z) (.ref a) H Q:=
 .inl ⟨a,_,rfl,.inl h,rfl,Je ns,by rw[Kq];exact k⟩
theorem ak6 {p:Str×Str}{n m:Nat}{R:St->Hp->Prop}(h:Is K H (prD p) x)(k:R ((σ.set n (some (.str p.1))).set m (some (.str p.2))) H):az5 K 2 (a42 (Mf n) (a42 (Mf m) aB4)) x σ H R:=by obtain⟨a,rfl,h1⟩:=h.pr;exact⟨a,_,rfl,h1,rfl,.str p.1,[.str p.2],rfl,.str p.2,[],rfl,rfl,k⟩
theorem ab2 {ds:List PyData}{g:TG}{tb:TS}{D:Ov}(h:Is K H (.tuple ds) x)(hf:Tr ds=true)(Pv:Nat->St->Hp->Prop)(h0:Pv 0 σ H)(hG:∀ i σ' H',Pv i σ' H'->Fz H H')
  (hs:∀ i d v σ' H',ds[i]? = some d->Is K H' d v->Pv i σ' H'->g v σ' H' fun σ2 H2=>tb {D with nx:=Pv (i+1),ct:=Pv (i+1),bk:=D.nx} σ2 H2) (hd:∀ σ' H',Pv ds.length σ' H'->D.nx σ' H') :
  Jq K x H λJ H1=>am0 g tb D σ J H1:=by
 obtain⟨a,xs,rfl,h1,h2⟩:=h.tup;refine Zv h1 (Ep Js Pv h0 (λi σ' H' p=>(hG i σ' H' p).seq h1) (λi v σ' H' hx hi p=>?_) fun σ' H' p=>hd σ' H' (by rw[IsL.length h2];exact p));obtain⟨d,e1,e2⟩:=IsL.get (IsL.fz (hG i σ' H' p) ds xs hf h2) hx;exact hs i d v σ' H' e1 e2 p
theorem My {ns:List Str}{g:TG}{tb:TS}{D:Ov}(h:Is K H (nmD ns) x)(Pv:Nat->St->Hp->Prop)(h0:Pv 0 σ H)(hG:∀ i σ' H',Pv i σ' H'->Fz H H')
  (hs:∀ i z σ' H',ns[i]? = some z->Pv i σ' H'->g (.str z) σ' H' fun σ2 H2=>tb {D with nx:=Pv (i+1),ct:=Pv (i+1),bk:=D.nx} σ2 H2) (hd:∀ σ' H',Pv ns.length σ' H'->D.nx σ' H') :
  Jq K x H λJ H1=>am0 g tb D σ J H1:=
 ab2 h (Ll ns) Pv h0 hG (λi d v σ' H' e h p=>by
  rw[A07] at e
  cases hn:ns[i]? with
  |none=>rw[hn] at e;cases e
  |some z=>
    rw[hn] at e
    cases e;rw[h.str];exact hs i z σ' H' hn p) fun σ' H' p=>hd σ' H' (by rw[A00] at p;exact p)
theorem ab5 {ps:List (Str×Str)}{g:TG}{tb:TS}{D:Ov}(h:Is K H (psD ps) x)(Pv:Nat->St->Hp->Prop)(h0:Pv 0 σ H)(hG:∀ i σ' H',Pv i σ' H'->Fz H H')
  (hs:∀ i p v σ' H',ps[i]? = some p->Is K H' (prD p) v->Pv i σ' H'->g v σ' H' fun σ2 H2=>tb {D with nx:=Pv (i+1),ct:=Pv (i+1),bk:=D.nx} σ2 H2) (hd:∀ σ' H',Pv ps.length σ' H'->D.nx σ' H') :
  Jq K x H λJ H1=>am0 g tb D σ J H1:=
 ab2 h (Gk ps) Pv h0 hG (λi d v σ' H' e h p=>by
  rw[A07] at e
  cases hn:ps[i]? with
  |none=>rw[hn] at e;cases e
  |some z=>
    rw[hn] at e
    cases e;exact hs i z v σ' H' hn h p) fun σ' H' p=>hd σ' H' (by rw[A00] at p;exact p)
theorem Pq {α:Type}(f:α->PyData)(hf:∀ a,frz (f a)=true):∀ xs:List α,Tr (xs.map f)=true
 | []=>rfl
 |x :: xs=>by simp only[List.map_cons,Tr,hf,Pq f hf xs,Bool.and_self]
theorem Kv {α:Type}{J:It}{xs:List V}{G:Hp->Prop}{g:TG}{tt:TT}{te:TE}{Q:VK}{k:Nat}{js:List Nat}(hw:Hj J xs G)(as:List α)(hl:as.length=xs.length)(t:α->Bool)(f:α->PyData)(hf:∀ a,frz (f a)=true)(hz:xs.length<=1000000)(hG:∀ H',Same H H'->G H')
  (hs:∀(i:Nat) a v H1 (R:VK) (R':Hp->Prop),as[i]? = some a->xs[i]? = some v->Same H H1->(t a=true->∀ y H2,Same H1 H2->Is K H2 (f a) y->R y H2)->(t a=false->∀ H2,Same H1 H2->R' H2) ->
   g v (List.replicate k none++Qe σ js) H1 fun σ2 H2=>tt σ2 H2 λb H3=>if b=true then te σ2 H3 R else R' H3)
  (hd:∀ p ys H',H p=none->Same H H'->H' p=some (.lst ys)->IsL K H' ((as.filter t).map f) ys->Q (.ref p) H'):Sk k js g tt te σ J H Q:=by
 refine Ca hw (λp i acc H1=>Same H H1/\IsL K H1 (((as.take i).filter t).map f) acc) (λp H' hp e h=>⟨e,by simp only[List.take_zero,List.filter_nil,List.map_nil];exact .nil⟩) (λp i acc H1 h=>hG H1 h.1) (λp i x acc H1 hp hx hi hl1 ha ⟨e,hacc⟩=>?_) λp acc H1 hp ha hl1 ⟨e,hacc⟩=>?_
 . have hi':i<as.length:=by omega
   obtain⟨a,hai⟩:∃ a,as[i]? = some a:=⟨as[i],A04 hi'⟩;have ht:as.take (i+1)=as.take i++[a]:=by rw[A0L,hai];rfl
   refine hs i a x H1 _ _ hai hx e (λh y H2 e2 hy=>?_) λh H2 e2=>?_
   . refine Eu hz hi hl1 (e2 _ _ ha) λH' e' h'=>⟨λb o hb=>e' b o (ne_of_none hb hp) (e2 _ _ (e b o hb)),?_⟩;rw[ht,A2E,A0A];have fz:=e'.fzL (e2 _ _ ha);refine IsL.append (IsL.fz (e2.fz.trans fz) _ _ (Pq f hf _) hacc) ?_;simp only[List.filter_cons,h,if_true,List.filter_nil,List.map_cons,List.map_nil];exact .one (Is.fz fz _ _ (hf a) hy)
   refine K5 hi hl1 (e2 _ _ ha) ⟨e.trans e2,?_⟩;rw[ht,A2E,A0A];simp only[List.filter_cons,h,Bool.false_eq_true,if_false,List.filter_nil,List.map_nil,List.append_nil];exact IsL.mono e2 _ _ hacc
 refine hd p acc H1 hp e ha ?_;rw[<- hl,A0Q] at hacc;exact hacc
end
section
variable {X:Cx}{K:W.Frag}
def aq9:PyData->Bool
 |.list _=>true
 |.tuple _=>true
 |_=>false
mutual
theorem Is.noDict {H:Hp}:∀(d:PyData) (v:V),Is K H d v->d.hasDict=false
 |.none,_,h=>by simp only[PyData.hasDict]
 |.bool _,_,h=>by simp only[PyData.hasDict]
 |.int _,_,h=>by simp only[PyData.hasDict]
 |.str _,_,h=>by simp only[PyData.hasDict]
 |.list ds,v,h=>by simp only[Is] at h;obtain⟨a,xs,e1,e2,e3⟩:=h;simp only[PyData.hasDict];exact IsL.noDict ds xs e3
 |.tuple ds,v,h=>by simp only[Is] at h;obtain⟨a,xs,e1,e2,e3⟩:=h;simp only[PyData.hasDict];exact IsL.noDict ds xs e3
 |.dict _,_,h=>by simp only[Is] at h
theorem IsL.noDict {H:Hp}:∀(ds:List PyData) (vs:List V),IsL K H ds vs->PyData.hasDictAll ds=false
 | [],_,h=>by simp only[PyData.hasDictAll]
 |d :: ds,vs,h=>by simp only[IsL] at h;obtain⟨v,r,e1,e2,e3⟩:=h;simp only[PyData.hasDictAll,Is.noDict d v e2,IsL.noDict ds r e3,Bool.or_self]
end
structure Sh (d:PyData):Prop where
 dp:aq9 d=true
 sh:d.showable=true
 fits:d.shown.length<=sizeLine
 deep:d.depth<=100
theorem Nc (hq:QA X.A):CallR X (.builtin "repr") (λxs H Q=>∃ x d,xs=[x]/\Is X.K H d x/\Sh d/\Q (.str d.shown) H):=by
 intro pins s σ H xs us Q I rv h;obtain⟨x,d,rfl,i,S,q⟩:=h;obtain⟨u,rfl,ru⟩:=rv.one;obtain⟨as,ra⟩:=Is.reads I d x u i ru
 have href:∃ a,u = .ref a:=by
  have hd:=S.dp
  cases d with
  |list ds=>simp only[Is] at i;obtain⟨a,_,rfl,_⟩:=i;exact⟨a,ru⟩
  |tuple ds=>simp only[Is] at i;obtain⟨a,_,rfl,_⟩:=i;exact⟨a,ru⟩
  |_=>cases hd
 obtain⟨a,rfl⟩:=href;refine repr_of_reads' ra S.sh (λhx=>absurd hx (by rw[Is.noDict d x i];exact A0G)) hq.gd (by have:=hq.un;have:=S.deep;omega) (λ_ _ e=>e) (λh' t tk hk=>?_) S.fits;exact⟨.str d.shown,H,I.kept hk,⟨t,rfl⟩,q⟩
def Vi (z:Str)(n:Nat):Str:=⟨(List.replicate n z.cps).foldl (· ++ ·) #[]⟩
def at1:R2:=λx y H Q=>∃ z n,x = .str z/\y = .int n/\2<=n/\n<=1000/\z.length<=1000/\0<z.length/\Q (.str (Vi z n.toNat)) H
theorem ah3:OpR X (binaryOp .Mult) at1:=by
 intro pins s σ H x y v u Q I rx ry h;obtain⟨z,n,rfl,rfl,h1,h2,h3,h4,q⟩:=h;obtain⟨t,rfl⟩:=rx;obtain⟨t2,rfl⟩:=ry;have a1:¬ n<1:=by omega
 have a2:(n==1||z.length==0)=false:=by
  have e1:(n==1)=false:=by simp;omega
  have e2:(z.length==0)=false:=by simp;omega
  rw[e1,e2];rfl
 have hz:z.length*n.toNat<=1000000:=by have:z.length*n.toNat<=1000*1000:=Nat.mul_le_mul h3 ∅;omega
 have hlen:(Vi z n.toNat).length<=sizeLine:=by
  have e:∀(m:Nat) (a:Array Nat),((List.replicate m z.cps).foldl (· ++ ·) a).size=a.size+m*z.cps.size:=by
   intro m
   induction m with
   |zero=>intro a;simp
   |succ m ih=>intro a;rw[A31,A44,ih,Array.size_append,Nat.succ_mul];omega
  show((List.replicate n.toNat z.cps).foldl (· ++ ·) #[]).size<=sizeLine;rw[e];have e2:z.cps.size=z.length:=rfl;rw[e2,A1B,A4X];simp;omega
 refine PySem.P.mul_str (by
   have b1:¬ n < -(2 ^ 63:Int):=by omega
   have b2:¬ n>=2 ^ 63:=by omega
   rw[A0R b1,A0R b2];rfl) (λ_ _=>?_) (λ_ _=>?_) ?_
 . have:(2 ^ 63-1:Int) / n>=1000:=by
    refine Int.le_ediv_of_mul_le ∅ ?_;have:1000*n<=1000*1000:=by omega
    omega
   omega
 . have hz2:z.length*n.toNat<=sizeLine:=Ab hz;rw[A1B] at hz2;unfold Builtin.Str.tooLong;simp[sizeLine_eq];omega
 rw[A0P a1,a2,A0P A0G];exact⟨hlen,.str _,H,I.kept λ_ _ e=>e,⟨_,rfl⟩,q⟩
def al2:R2:=λx y H Q=>af0 x y H Q\/at1 x y H Q
theorem Fp:OpR X (binaryOp .Mult) al2:=op_mulA.or ah3
theorem i_mulBI {i j:Int}{H:Hp}{Q:VK}(h:CMul i j)(k:Q (.int (i*j)) H):al2 (.int i) (.int j) H Q:=.inl (ap5 h k)
theorem ag7 {z:Str}{n:Int}{H:Hp}{Q:VK}(h:2<=n/\n<=1000/\z.length<=1000/\0<z.length)(k:Q (.str (Vi z n.toNat)) H):al2 (.str z) (.int n) H Q:=.inr ⟨z,n,rfl,rfl,h.1,h.2.1,h.2.2.1,h.2.2.2,k⟩
def rIs (neg:Bool):R2:=λx y H Q=>(y = .non/\Q (.bl (if neg then !decide (x = .non) else decide (x = .non))) H)\/∃ a b,x = .bl a/\y = .bl b/\Q (.bl (if neg then !(a==b) else a==b)) H
theorem am8:OpR X (compareOp .Is) (rIs false):=by
 intro pins s σ H x y v u Q I rx ry h;rcases h with ⟨rfl,q⟩|⟨a,b,rfl,rfl,q⟩
 . exact ao3 pins s σ H x .non v u Q I rx ry ⟨rfl,q⟩
 cases rx
 cases ry;refine wpAny_is_plain rfl ?_;refine⟨.bl _,H,I,?_,q⟩;show Value.bool (Value.bool a==Value.bool b)=Value.bool (a==b)
 cases a<;>cases b<;>rfl
theorem Qb:OpR X (compareOp .IsNot) (rIs true):=by
 intro pins s σ H x y v u Q I rx ry h;rcases h with ⟨rfl,q⟩|⟨a,b,rfl,rfl,q⟩
 . exact aj1 pins s σ H x .non v u Q I rx ry ⟨rfl,q⟩
 cases rx
 cases ry;refine wpAny_isNot_plain rfl ?_;refine⟨.bl _,H,I,?_,q⟩;show Value.bool (!(Value.bool a==Value.bool b))=Value.bool (!(a==b))
 cases a<;>cases b<;>rfl
theorem i_isN {x:V}{H:Hp}{Q:VK}(k:Q (.bl (decide (x = .non))) H):rIs false x .non H Q:=.inl ⟨rfl,k⟩
theorem i_isNotN {x:V}{H:Hp}{Q:VK}(k:Q (.bl (!decide (x = .non))) H):rIs true x .non H Q:=.inl ⟨rfl,k⟩
def aC9 (xs:List V)(i:Nat)(y:V):List V:=xs.take i++y :: xs.drop i
def Zr:V->List V->Hp->VK->Prop:=λx vs H Q=>∃ l xs i y,x = .ref l/\vs=[.int i,y]/\H l=some (.lst xs)/\0<=i/\i<=xs.length/\xs.length<sizeLine/\Q .non (upd H l (.lst (aC9 xs i.toNat y)))
theorem Xj:MtM X "list.insert" Zr:=by
 intro pins s σ H x vs v us Q I rx rv h;obtain⟨l,xs,i,y,rfl,rfl,hH,h0,h1,hz,q⟩:=h
 cases rx;obtain⟨u,w,rfl,ru,rw'⟩:=Vals.two rv;obtain⟨t,rfl⟩:=ru;obtain⟨z,its,n,r,hl,e⟩:=I.lstM hH;have hlen:=r.length
 refine A3T F.slot_list_insert ⟨_,e,rfl⟩ F.entry_list_insert (F.args_list_insert_3 _ _ _)
  (AutoSeq1.list_insert_list_int_val_1 l its.toArray n i t w (by rw[fitsIndex_both ∅ (by rw[A1B] at hz;omega)];decide) (by rw[A0X];omega)) ⟨e,?_⟩
 refine⟨.non,_,I.lset (its':=its.take i.toNat++w :: its.drop i.toNat) hH e ?_ ((r.take i.toNat).append (.cons rw' (r.drop i.toNat))) ?_,rfl,q⟩
 . have hi:i.toNat<=its.length:=by omega
   show(have k:=if i<0 then(i+((its.toArray.size:Nat):Int)).toNat else min i.toNat its.toArray.size;(its.toArray.extract 0 k).push w++its.toArray.extract k)=_
   rw[A0P ∅,A0X,A3D hi];simp[List.extract_eq_drop_take];exact A1Z (by rw[A1K];omega)
 rw[A08,A0W,A0J,A1K];omega
section
variable {D:Ov}{σ:St}{H:Hp}{t u:TS}{te td ty tv:TE}{g:TG}
theorem W7 (M:St->Hp->Prop)(h1:∀ N:St->Hp->Prop,(∀ σ' H',M σ' H'->N σ' H')->t {D with nx:=N} σ H)(h2:∀ σ' H',M σ' H'->u D σ' H'):az1 t u D σ H:=h1 (u D) h2
end
theorem aj9 {a:Addr}{xs:List V}{H:Hp}{Q:VK}(h:SqL K H a xs\/SqT K H a xs)(k:∀ p H',H p=none->Same H H'->H' p=some (.lst xs)->Q (.ref p) H'):W1 K [.ref a] H Q:=⟨a,xs,rfl,h,λp hp=>k p _ hp (Same.upd hp) A8⟩
theorem mm {id:String}{r:V->List V->Hp->VK->Prop}(h:MtM X id r):MtR X id r:=h
theorem i_tyLm {a:Addr}{xs:List V}{H:Hp}{B:Prop}(h:H a=some (.lst xs))(k:B):tyV K "list" (.ref a) H/\B:=⟨.inl ⟨rfl,xs,SqL.of h⟩,k⟩
theorem az8 {l:Addr}{xs:List V}{y:V}{i:Int}{H:Hp}{Q:VK}(h:H l=some (.lst xs))(h0:0<=i)(h1:i<=xs.length)(hz:xs.length<=1000000)(k:∀ H',ExtBut l H H'->H' l=some (.lst (aC9 xs i.toNat y))->Q .non H'):Zr (.ref l) [.int i,y] H Q:=
 ⟨l,xs,i,y,rfl,rfl,h,h0,h1,by rw[A1B];omega,k _ ExtBut.upd A8⟩
theorem ar0 {l:Addr}{xs:List V}{y:V}{H:Hp}{Q:VK}(h:H l=some (.lst xs))(hz:xs.length<=1000000)(k:∀ H',ExtBut l H H'->H' l=some (.lst (xs++[y]))->Q .non H'):Xl (.ref l) [y] H Q:=
 ⟨l,xs,y,rfl,rfl,h,by rw[A1B];omega,k _ ExtBut.upd A8⟩
theorem Xs {l b:Addr}{xs zs:List V}{H:Hp}{Q:VK}(h:H l=some (.lst xs))(hb:H b=some (.lst zs))(hz:xs.length+zs.length<=1000000)(k:∀ H',ExtBut l H H'->H' l=some (.lst (xs++zs))->Q .non H'):Zs (.ref l) [.ref b] H Q:=
 ⟨l,b,xs,zs,rfl,rfl,h,hb,Ab hz,k _ ExtBut.upd A8⟩
theorem a77 {l:Addr}{xs:List V}{y:V}{i:Int}{H:Hp}{Q:VK}(h:H l=some (.lst xs))(h0:0<=i)(h1:xs[i.toNat]? = some y)(k:∀ H',ExtBut l H H'->H' l=some (.lst (xs.eraseIdx i.toNat))->Q y H')(hz:xs.length<=1000000):a96 (.ref l) [.int i] H Q:=by
 have h2:=(A01.mp h1).1;refine⟨l,xs,i,i.toNat,y,rfl,rfl,h,by omega,by omega,?_,h1,k _ ExtBut.upd A8⟩;have e:=Nt (Bq (α:=V) h1);obtain⟨j,e1,e2,e3,_⟩:=e;rw[A3L h0] at e1;rw[e1]
 have e4:seqIndex? i xs.length=some i.toNat:=by unfold seqIndex? at e1 ⊢;simp[show ¬ i<0 by omega] at e1 ⊢;omega
 rw[<- e1,e4]
end
def L5 (c:Nat):Bool:=decide (97<=c)&&decide (c<=122)
def Ry (x:Str):Bool:=decide (1<=x.length)&&decide (x.length<=8)&&x.cps.toList.all L5
def Names (ns:List Str):Prop:=ns.Nodup/\∀ z∈ns,Ry z=true
def LL:Str:="abcdefghijklmnopqrstuvwxyzabcdefghijklmnopqrstuvwxyz"
theorem ar8:Vi "abcdefghijklmnopqrstuvwxyz" (2:Int).toNat=LL:=by decide +kernel
def LLn:List Nat:=LL.cps.toList
theorem ay1:LL.length=52:=by decide +kernel
theorem K0:LLn.length=52:=by decide +kernel
theorem Vw:∀ c∈LLn,L5 c=true:=by decide +kernel
def txt (l:List Nat):Str:=⟨l.toArray⟩
theorem ag8 {a b:List Nat}(h:txt a=txt b):a=b:=by have:a.toArray=b.toArray:=congrArg Str.cps h;simpa using this
theorem Z8 (a b:List Nat):txt a++txt b=txt (a++b):=by show(⟨a.toArray++b.toArray⟩:Str)=⟨(a++b).toArray⟩;simp
theorem Jk {l:List Nat}(h0:1<=l.length)(h1:l.length<=8)(h2:∀ c∈l,L5 c=true):Ry (txt l)=true:=by
 unfold Ry;have e:(txt l).length=l.length:=by show l.toArray.size=_;simp
 rw[e,A0K h0,A0K h1];show(true&&true&&l.all L5)=true;rw[A2Q.mpr h2];rfl
def Md (a b:Nat):List Nat:=(LLn.drop a).take (b-a)
theorem Kx {a b:Nat}(h:a<=b)(h1:b<=52):(Md a b).length=b-a:=by unfold Md;rw[A0J,A1K,K0];omega
theorem Iy {a b:Nat}:∀ c∈Md a b,L5 c=true:=λc hc=>Vw c (A28 (A1E hc))
theorem Ud {i j:Int}(h0:0<=i)(h1:i<=j)(h2:j<=52):Txt.slice LL (some i) (some j)=txt (Md i.toNat j.toNat):=by
 have e:=StrLaws.sliceText_plain (x:=LL) (i:=i) (j:=j) ⟨h0,h1,by rw[show LL.cps.toList.length=52 by decide +kernel];omega⟩;have e2:(j-i).toNat=j.toNat-i.toNat:=by omega
 rw[e2] at e;exact e
def Pu (i:Nat):List Nat:=(LLn.drop i).take 1
theorem aj7 {i:Int}(h0:0<=i)(h1:i<52):∃ c,atI LL.cps.toList i=some c/\(⟨#[c]⟩:Str)=txt (Pu i.toNat):=by
 have h2:i.toNat<LLn.length:=by rw[K0];omega
 refine⟨LLn[i.toNat],?_,?_⟩
 . have:=Bq (A04 h2);rwa[A3L h0] at this
 unfold Pu;rw[List.drop_eq_getElem_cons h2];rfl
theorem Ot {i:Nat}(h:i<52):(Pu i).length=1:=by unfold Pu;rw[A0J,A1K,K0];omega
theorem K6 {i:Nat}:∀ c∈Pu i,L5 c=true:=λc hc=>Vw c (A28 (A1E hc))
theorem Hk {α β:Type}{f:α->β}:∀ {l:List α},l.Nodup->(∀ a∈l,∀ b∈l,f a=f b->a=b)->(l.map f).Nodup
 | [],_,_=>by simp
 |a :: l,h,hf=>by rw[A0I,A0O];rw[A0O] at h;refine⟨λhm=>?_,Hk h.2 λx hx y hy=>hf x (A0E _ hx) y (A0E _ hy)⟩;obtain⟨b,hb,e⟩:=A0V.mp hm;have:=hf b (A0E _ hb) a A0S e;subst this;exact h.1 hb
theorem Hh {α β:Type}{f:α->β}:∀ {l:List α},(l.map f).Nodup->∀ a∈l,∀ b∈l,f a=f b->a=b
 | [],_,a,ha,_,_,_=>by cases ha
 |c :: l,h,a,ha,b,hb,e=>by
   rw[A0I,A0O] at h;rcases A0F.mp ha with q|ha'
   . rcases A0F.mp hb with q'|hb'
     . rw[q,q']
     exact absurd (A0V.mpr ⟨b,hb',by rw[<- e,q]⟩) h.1
   rcases A0F.mp hb with q'|hb'
   . exact absurd (A0V.mpr ⟨a,ha',by rw[e,q']⟩) h.1
   exact Hh h.2 a ha' b hb' e
theorem Le {l:List (List Nat)}(h:l.Nodup):(l.map txt).Nodup:=Hk h λa _ b _ e=>ag8 e
theorem Names.perm {ns ms:List Str}(h:Names ns)(p:ms.Perm ns):Names ms:=⟨p.nodup_iff.mpr h.1,λz hz=>h.2 z (p.mem_iff.mp hz)⟩
theorem Names.sublist {ns ms:List Str}(h:Names ns)(p:ms.Sublist ns):Names ms:=⟨h.1.sublist p,λz hz=>h.2 z (p.subset hz)⟩
theorem Nx {xs:List V}{t:Int}(h0:0<=t)(h1:t<=xs.length):Kt xs (some t) none=xs.drop t.toNat:=by
 have e:HT.sIx xs.length 0 (some t)=t.toNat:=by unfold HT.sIx;simp[show ¬ t<0 by omega];omega
 unfold Kt;rw[e];have e2:HT.sIx xs.length xs.length none=xs.length:=rfl;rw[e2];exact A1Z (by rw[A1K];omega)
theorem G1 {xs:List V}{t:Int}(h0:0<=t):Kt xs none (some t)=xs.take t.toNat:=by
 have e:HT.sIx xs.length xs.length (some t)=min t.toNat xs.length:=by unfold HT.sIx;simp[show ¬ t<0 by omega]
 unfold Kt;rw[e];have e2:HT.sIx xs.length 0 none=0:=rfl;rw[e2,List.drop_zero,Nat.sub_zero,Nat.min_comm];rw[<- List.take_take];exact A1Z (by rw[A0J];omega)
theorem Fn {lo:Int} {n i:Nat} {x:V} (h:((List.range n).map λ(i:Nat)=>V.int (lo+(i:Int)))[i]? = some x):x = .int (lo+(i:Int))/\i<n:=by
 rw[A07] at h
 cases e:(List.range n)[i]? with
 |none=>rw[e] at h;cases h
 |some j=>
   rw[e] at h
   cases h;have e1:=A01.mp e;obtain⟨h1,h2⟩:=e1;rw[A1D] at h1;rw[List.getElem_range] at h2;subst h2;exact⟨rfl,h1⟩
def fI (F:Int->V):V->V
 |.int k=>F k
 |v=>v
theorem Tg {lo:Int}{n:Nat}{F:Int->V}{G:Nat->Str}(h:∀ k<n,F (lo+(k:Int)) = .str (G k)):((List.range n).map λ(i:Nat)=>V.int (lo+(i:Int))).map (fI F)=((List.range n).map G).map V.str:=by rw[A1P,A1P];refine A1J λk hk=>?_;exact h k (A21.mp hk)
theorem T9:LL.length<=sizeLine:=by rw[ay1,A1B];omega
theorem ExtBut.off {d q:Addr}{H H1 H2:Hp}(e:ExtBut d H H1)(hq:H q=none)(e2:ExtBut q H1 H2):ExtBut d H H2:=λb o n h=>e2 b o (ne_of_none h hq) (e b o n h)
theorem Same.off {q:Addr}{H H1 H2:Hp}(e:Same H H1)(hq:H q=none)(e2:ExtBut q H1 H2):Same H H2:=λb o h=>e2 b o (ne_of_none h hq) (e b o h)
def Up (ls:List Str)(ps:List (Str×Str)):Prop:=∀ p∈ps,∃ i j:Nat,i<j/\ls[i]? = some p.1/\ls[j]? = some p.2
theorem Up.nil {ls:List Str}:Up ls []:=λ_ h=>by cases h
theorem Up.sub {ls:List Str}{ps qs:List (Str×Str)}(h:Up ls ps)(s:∀ p∈qs,p∈ps):Up ls qs:=λp hp=>h p (s p hp)
theorem str_at? {ls:List Str}{i:Int}(h0:0<=i)(h1:i<ls.length):∃ z,ls[i.toNat]? = some z/\atI (ls.map V.str) i=some (.str z)/\atI ls i=some z:=by
 have h2:i.toNat<ls.length:=by omega
 refine⟨ls[i.toNat],A04 h2,?_,?_⟩
 . have:=Bq (xs:=ls.map V.str) (j:=i.toNat) (v:=.str ls[i.toNat]) (by rw[A07,A04 h2];rfl);rwa[A3L h0] at this
 have:=Bq (A04 h2);rwa[A3L h0] at this
theorem Mn {α:Type}:∀(us:List α) (k:Nat) (y:α),us[k]? = some y->(y :: us.eraseIdx k).Perm us
 | [],k,y,h=>by simp at h
 |u :: us,0,y,h=>by
   have:u=y:=by simpa using h
   subst this;exact A3U _
 |u :: us,k+1,y,h=>by have ih:=Mn us k y (by simpa using h);exact(A4C u y _).trans (ih.cons u)
theorem a84 {α:Type}{us:List α}{k:Nat}{y:α}(h:us[k]? = some y)(vs:List α):(vs++[y]++us.eraseIdx k).Perm (vs++us):=by rw[A12];exact A51 vs (Mn us k y h)
theorem Jn {α:Type}{l:List α}{i:Nat}{y:α}(h:i<l.length):l[i]? = some (l.getD i y):=by rw[A1X,A04 h];rfl
inductive Way (ps:List (Str×Str)):Str->Str->Prop
 |one {x y:Str}:(x,y)∈ps->Way ps x y
 |cons {x z y:Str}:(x,z)∈ps->Way ps z y->Way ps x y
theorem Way.trans {ps:List (Str×Str)}{x y z:Str}(h:Way ps x y)(g:Way ps y z):Way ps x z:=by
 induction h with
 |one e=>exact .cons e g
 |cons e _ ih=>exact .cons e (ih g)
theorem Way.right {ps:List (Str×Str)}{x y:Str}(h:Way ps x y):y∈ps.map (·.2):=by
 induction h with
 |one e=>exact A0V.mpr ⟨_,e,rfl⟩
 |cons _ _ ih=>exact ih
theorem Up.lt {ls:List Str}(hn:ls.Nodup){ps:List (Str×Str)}(h:Up ls ps){x y:Str}(g:Way ps x y):∃ i j:Nat,i<j/\ls[i]? = some x/\ls[j]? = some y:=by
 induction g with
 |one e=>exact h _ e
 |cons e _ ih=>
   obtain⟨i,j,h1,h2,h3⟩:=h _ e;obtain⟨i',j',g1,g2,g3⟩:=ih
   have e:j=i':=by obtain⟨a,b⟩:=A01.mp h3;obtain⟨c,d⟩:=A01.mp g2;exact(A22 hn).mp (b.trans d.symm)
   exact⟨i,j',by omega,h2,g3⟩
theorem Up.irrefl {ls:List Str}(hn:ls.Nodup){ps:List (Str×Str)}(h:Up ls ps){x:Str}:¬ Way ps x x:=λg=>by obtain⟨i,j,h1,h2,h3⟩:=h.lt hn g;obtain⟨a,b⟩:=A01.mp h2;obtain⟨c,d⟩:=A01.mp h3;have:=(A22 hn).mp (b.trans d.symm);omega
theorem Up.mem {ls:List Str}{ps:List (Str×Str)}(h:Up ls ps){p:Str×Str}(hp:p∈ps):p.1∈ls/\p.2∈ls:=by obtain⟨i,j,_,h2,h3⟩:=h p hp;exact⟨A03 h2,A03 h3⟩
structure Half (ns:List Str)(ps:List (Str×Str)):Prop where
 names:Names ns
 few:ns.length<=10
 le:ps.length<=60
 line:∃ ls:List Str,ls.Perm ns/\Up ls ps
theorem Half.irrefl {ns:List Str}{ps:List (Str×Str)}(h:Half ns ps){x:Str}:¬ Way ps x x:=by obtain⟨ls,h1,h2⟩:=h.line;exact h2.irrefl (h1.nodup_iff.mpr h.names.1)
theorem Half.mem {ns:List Str}{ps:List (Str×Str)}(h:Half ns ps){p:Str×Str}(hp:p∈ps):p.1∈ns/\p.2∈ns:=by obtain⟨ls,h1,h2⟩:=h.line;have:=h2.mem hp;exact⟨h1.mem_iff.mp this.1,h1.mem_iff.mp this.2⟩
theorem Kg (ls:List Str):PyData.eqv (.list (ls.map PyData.str)) (.list [])=ls.isEmpty:=by cases ls<;>simp[PyData.eqv,PyData.eqvAll]
mutual
def Ct:PyData->Bool
 |.none=>true
 |.bool _=>true
 |.str x=>PyData.strOk x
 |.list ds=>J0 ds
 |.tuple ds=>J0 ds
 |_=>false
def J0:List PyData->Bool
 | []=>true
 |d :: ds=>Ct d&&J0 ds
end
mutual
theorem Cs:∀ d:PyData,Ct d=true->d.canLay0=true
 |.none,_=>by simp only[PyData.canLay0]
 |.bool _,_=>by simp only[PyData.canLay0]
 |.str x,h=>by simpa only[PyData.canLay0,Ct] using h
 |.list ds,h=>by simp only[PyData.canLay0];exact Jz ds (by simpa only[Ct] using h)
 |.tuple ds,h=>by simp only[PyData.canLay0];exact Jz ds (by simpa only[Ct] using h)
 |.int _,h=>by simp[Ct] at h
 |.dict _,h=>by simp[Ct] at h
theorem Jz:∀ ds:List PyData,J0 ds=true->PyData.canLayAll0 ds=true
 | [],_=>by simp only[PyData.canLayAll0]
 |d :: ds,h=>by simp only[J0,Bool.and_eq_true] at h;simp only[PyData.canLayAll0,Cs d h.1,Jz ds h.2,Bool.and_self]
end
structure Fine (d:PyData):Prop where
 plain:Ct d=true
 deep:d.depth<=60
 light:d.weight<=1000000
theorem Fine.shaped {d:PyData}(h:Fine d):SeqAt.shaped d=true:=by unfold SeqAt.shaped;rw[Cs d h.plain,A0K (A0C h.deep nofun)];rfl
theorem Y7 {z:Str}(h:Ry z=true):PyData.strOk z=true/\z.cps.size<=8:=by unfold Ry at h;simp only[Bool.and_eq_true,decide_eq_true_eq] at h;refine⟨?_,h.1.2⟩;unfold PyData.strOk;rw[<- Array.all_toList,A2Q];intro c hc;have:=A2Q.mp h.2 c hc;unfold L5 at this;simp only[Bool.and_eq_true,decide_eq_true_eq] at this;exact A0K ∅
theorem Ei {α:Type}(f:α->PyData):∀ xs:List α,(∀ a∈xs,Ct (f a)=true)->J0 (xs.map f)=true
 | [],_=>by simp only[List.map_nil,J0]
 |x :: xs,h=>by simp only[List.map_cons,J0,h x List.mem_cons_self,Ei f xs λa ha=>h a (List.mem_cons_of_mem _ ha),Bool.and_self]
theorem Gd {α:Type}(f:α->PyData)(n:Nat):∀ xs:List α,(∀ a∈xs,(f a).depth<=n)->PyData.depthAll (xs.map f)<=n
 | [],_=>by simp only[List.map_nil,PyData.depthAll];omega
 |x :: xs,h=>by have h1:=h x A0S;have h2:=Gd f n xs λa ha=>h a (A0E _ ha);simp only[List.map_cons,PyData.depthAll];omega
theorem K4 {α:Type}(f:α->PyData)(n:Nat):∀ xs:List α,(∀ a∈xs,(f a).weight<=n)->PyData.weightAll (xs.map f)<=xs.length*(n+1)
 | [],_=>by simp only[List.map_nil,PyData.weightAll];omega
 |x :: xs,h=>by have h1:=h x A0S;have h2:=K4 f n xs λa ha=>h a (A0E _ ha);simp only[List.map_cons,PyData.weightAll,List.length_cons,Nat.add_mul];omega
theorem Od {p:Str×Str}(h1:Ry p.1=true)(h2:Ry p.2=true):Ct (prD p)=true/\(prD p).depth<=1/\(prD p).weight<=18:=by have a:=Y7 h1;have b:=Y7 h2;refine⟨by simp only[prD,Ct,J0,a.1,b.1,Bool.and_self],by simp only[prD,PyData.depth,PyData.depthAll];omega,?_⟩;simp only[prD,PyData.weight,PyData.weightAll];omega
theorem Ir {ns:List Str}(h:∀ z∈ns,Ry z=true):Ct (nmD ns)=true/\(nmD ns).depth<=1/\(nmD ns).weight<=ns.length*9:=by
 refine⟨by simp only[nmD,Ct];exact Ei _ ns λz hz=>by simp only[Ct];exact(Y7 (h z hz)).1,?_,?_⟩
 . simp only[nmD,PyData.depth];have:=Gd PyData.str 0 ns λz hz=>by simp only[PyData.depth];omega
   omega
 simp only[nmD,PyData.weight];exact K4 PyData.str 8 ns λz hz=>by simp only[PyData.weight];exact(Y7 (h z hz)).2
def NmP (ps:List (Str×Str)):Prop:=∀ p∈ps,Ry p.1=true/\Ry p.2=true
theorem a57 {ps:List (Str×Str)}(h:NmP ps):Ct (psD ps)=true/\(psD ps).depth<=2/\(psD ps).weight<=ps.length*19:=by
 refine⟨by simp only[psD,Ct];exact Ei _ ps λz hz=>(Od (h z hz).1 (h z hz).2).1,?_,?_⟩
 . simp only[psD,PyData.depth];have:=Gd prD 1 ps λz hz=>(Od (h z hz).1 (h z hz).2).2.1;omega
 simp only[psD,PyData.weight];exact K4 prD 18 ps λz hz=>(Od (h z hz).1 (h z hz).2).2.2
theorem Nm {ns:List Str}(h:∀ z∈ns,Ry z=true)(hl:ns.length<=1000):Fine (nmD ns):=let ⟨a,b,c⟩:=Ir h;⟨a,by omega,by omega⟩
theorem ag6 {ps:List (Str×Str)}(h:NmP ps)(hl:ps.length<=1000):Fine (psD ps):=let ⟨a,b,c⟩:=a57 h;⟨a,by omega,by omega⟩
theorem Vt {ns:List Str}(h:∀ z∈ns,PyData.strOk z=true):SeqAt.shaped (.list (ns.map PyData.str))=true:=by
 unfold SeqAt.shaped;have e:(PyData.list (ns.map PyData.str)).canLay0=true:=Cs _ (by simp only[Ct];exact Ei _ ns λz hz=>by simp only[Ct];exact h z hz)
 have e2:(PyData.list (ns.map PyData.str)).depth<=64:=by
  simp only[PyData.depth];have:=Gd PyData.str 0 ns λz hz=>by simp only[PyData.depth];omega
  omega
 rw [e,A0K e2];rfl
theorem Ey {α:Type}[DecidableEq α]:∀ {xs ys:List α},xs.Nodup->(∀ x∈xs,x∈ys)->xs.length<=ys.length
 | [],_,_,_=>A24 _
 |x :: xs,ys,h,hs=>by
   rw[A0O] at h;have hx:x∈ys:=hs x A0S
   have ih:=Ey (xs:=xs) (ys:=ys.erase x) h.2 λz hz=>by refine(A5C ?_).mpr (hs z (A0E _ hz));intro e;subst e;exact h.1 hz
   rw[A4F hx] at ih;have:0<ys.length:=A4Q hx;rw[A0W];omega
section
variable {c:TT}{tb:TS}{D:Ov}{σ:St}{H:Hp}
theorem a08 (W:Nat->St->Hp->Prop)(m:Nat)(h0:W m σ H)
  (hs:∀ m σ H,W m σ H->c σ H λb H1=>if b=true then ∃ N:St->Hp->Prop,(∀ σ' H',N σ' H'->∃ m',m'<m/\W m' σ' H')/\tb {D with nx:=N,ct:=N,bk:=D.nx} σ H1 else D.nx σ H1):a94 c tb D σ H:=⟨W,⟨m,h0⟩,hs⟩
theorem aa7 {W:Nat->St->Hp->Prop}{m:Nat}(h:tb {D with nx:=fun σ' H'=>∃ m',m'<m/\W m' σ' H',ct:=fun σ' H'=>∃ m',m'<m/\W m' σ' H',bk:=D.nx} σ H) :
  ∃ N:St->Hp->Prop,(∀ σ' H',N σ' H'->∃ m',m'<m/\W m' σ' H')/\tb {D with nx:=N,ct:=N,bk:=D.nx} σ H:=⟨_,λ_ _ h=>h,h⟩
end
section
variable {X:Cx}{K:W.Frag}
def Sl:V->List V->Hp->VK->Prop:=λx vs H Q=>∃ d o kvs more,x = .ref d/\vs=[.ref o]/\d≠o/\H d=some (.dK kvs)/\H o=some (.dK more)/\kvs.length+more.length<=1000000/\Q .non (upd H d (.dK (Fj kvs more)))
theorem Xe:MtM X "dict.update" Sl:=by
 intro pins s σ H x vs v us Q I rx rv h;obtain⟨d,o,kvs,more,rfl,rfl,hdo,hD,hO,hz,q⟩:=h
 cases rx;obtain⟨u,rfl,ru⟩:=rv.one
 cases ru;obtain⟨z1,hd1,vs1,rel1,dd1⟩:=T8 I.hok hD;obtain⟨z2,hd2,vs2,rel2,dd2⟩:=T8 I.hok hO;have l1:kvs.length=vs1.length:=rel1.length;have l2:more.length=vs2.length:=rel2.length;refine A4A F.slot_dict_update dd1.typeIs F.entry_dict_update (F.args_dict_update_2 _ _) (meets_dict_update (Ax X.prog X.w) d o hdo hd2) ⟨vs1,vs2,dd1,dd2,Ab ∅,λh' dd' _ hs=>?_⟩;have he:∃ q,h'.get? d=some q:=let ⟨q,_,_,hq,_⟩:=dd';⟨q,hq⟩;refine⟨.non,_,Lb I (by rw[hD];exact A2J) hs he (Uz ?_ hd1 (KV.merge rel2 rel1) dd'),rfl,q⟩;have:=Ex more kvs;exact Ab ∅
end
theorem Lz:entryFor table "dict.update.loop" = some Builtin.«dict.update.loop»:=entryFor_of_tree (by kernel_rfl)
theorem Gu:plainId "dict.update.loop" = true:=by decide +kernel
theorem Qa:typeLookup (.type "list") "keys" = pure none:=by rw[typeLookup_type,builtinLookup_eq_fast];kernel_rfl
section
variable {prog:Program}{w:World}{κ:Type}[DecidableEq κ]{knd:KeyKind prog w κ}{A:Around}{E:Value->Shared->Prop}{s:Shared}
theorem a44 {a:Addr}{xs:Array Value}{k:Nat}{Q:Option Value->Shared->Prop}(hx:s.heap.get? a=some {cls:=.type "list",data:=.seq xs k})(hA:A.handled=none)
  (h:∀ h' tk,(∀ b o,s.heap.get? b=some o->h'.get? b=some o)->Q none {s with heap:=h',toks:=tk}):wpAny (model prog w) A (getAttr? (.ref a) "keys") Q E s:=by
 obtain⟨hp,g,d,tk,os⟩:=s;have hT:∀ tk',(⟨hp,g,d,tk',os⟩:Shared).TypeIs (.ref a) "list":=λ_=>⟨_,hx,rfl⟩;have f1:=sub_AttributeError;have f3:=F.slot_list_getattribute.lookup;have f4:=F.slot_list_getattribute.bind (.ref a);have f5:=am_list_getattr_none;unfold getAttr? getAttrBy? getAttrBy
 repeat (any_goals (first | assumption | exact hT _ | ((with_reducible show wpAny _ _ (call (Value.builtin "list.__getattribute__") _ _) _ _ _);refine A3T F.slot_list_getattribute (hT _) am_entry_list_getattribute (F.args_list_getattribute_2 _ _) (meets_getattribute_miss_list a xs k #[] "keys" _ Qa (by decide +kernel) (by rw[A1B];decide +kernel)) ⟨hx,hA,λh' tk' e hx'=>?_⟩) | wp_step))
 obtain⟨t',u',he⟩:=hx'.there;show wpAny _ _ (getattributeRaised _ _ _ _ _ _ _) _ _ _;unfold getattributeRaised
 repeat (any_goals (first | assumption | wp_step))
 exact h _ _ hx'.keeps
theorem W8 {t:Addr}{k v:Value}{Q:List Value->Shared->Prop}(ht:IsTup s.heap t #[k,v])(h:Q [k,v] s):wpAny (model prog w) A (Builtin.Dict.pairItems (.ref t)) Q E s:=by obtain⟨o,ho,hc,n,hd⟩:=ht;unfold Builtin.Dict.pairItems;refine A02 (A4W ⟨o,ho,hc⟩ ?_);rw[A0Y nofun];refine A02 (wpAny_seqItems ho hd ?_);exact A09 h
theorem Y3 {I D l:Addr}{items:Array Value}(hh:A.in1.handled=none)(hne:l≠I)(hDI:D≠I)(hDl:D≠l)(pk:List (κ×Value×Addr×Value))(hlen:pk.length=items.size)(hz:items.size<=1000000) :
  ∀(j i:Nat) (s:Shared) (R:Result->Shared->Prop),items.size-i=j->i<=items.size->s.heap.IsListIter I l i->s.heap.IsList l items ->
   s.heap.DictOf knd D (merged [] ((pk.take i).map λp=>(p.1,p.2.1))) ->
   (∀(n:Nat) (p:κ×Value×Addr×Value),pk[n]? = some p->items[n]? = some (Value.ref p.2.2.1)/\p.2.2.1≠I/\p.2.2.1≠D/\IsTup s.heap p.2.2.1 #[p.2.2.2,p.2.1]/\knd.is p.1 p.2.2.2=true) ->
   (∀ h' tk,h'.DictOf knd D (merged [] (pk.map λp=>(p.1,p.2.1)))->(∀ b o,b≠D->b≠I->s.heap.get? b=some o->h'.get? b=some o)->R (.ok (.ret .none)) {s with heap:=h',toks:=tk}) ->
   codeAny (model prog w) A (.builtin "dict.update.loop" ⟨[.ref D,.ref I,.int i 0,.none],[]⟩) R s:=by
 have W:=Walks.list (prog:=prog) (w:=w) hh I l hne items;intro j
 induction j with
 |zero=>
   intro i s R hj hi hI hL hD hP hR;have hin:i=items.size:=by omega
   subst hin;refine codeAny_builtin Lz ?_;rw[Around.under_plainId Gu _];show wpAny _ A.in1 (pyNext (.ref I) >>= _) _ _ s;refine A02 (W.done s _ _ ⟨hI,hL⟩ λh' tk hm=>?_);show wpAny _ A.in1 (Builtin.Dict.addKeywords D [] >>= _) _ _ _;refine wpAny_bind (wpAny_pure (wpAny_pure (hR h' tk ?_ λb o hb hb' e=>hm b o (by simpa using hb') e)));rw[<- hlen,A0Q] at hD;obtain⟨o,es,ep,ho,r⟩:=hD;exact⟨o,es,ep,hm D o (by simpa using hDI) ho,r⟩
 |succ j ih=>
   intro i s R hj hi hI hL hD hP hR;have hlt:i<items.size:=by omega
   obtain⟨p,hp⟩:∃ p,pk[i]? = some p:=⟨pk[i]'∅,A04 _⟩;obtain⟨q1,q2,q3,q4,q5⟩:=hP i p hp;refine codeAny_builtin Lz ?_;rw[Around.under_plainId Gu _];show wpAny _ A.in1 (pyNext (.ref I) >>= _) _ _ s;refine A02 (W.item i s _ _ hlt ⟨hI,hL⟩ λv h' tk hv hst hm=>?_)
   have hv':v = .ref p.2.2.1:=by have hv2:items[i]? = some v:=hv;rw[q1] at hv2;exact(A1I hv2).symm
   subst hv'
   have ht':IsTup h' p.2.2.1 #[p.2.2.2,p.2.1]:=by obtain⟨o,ho,r⟩:=q4;exact⟨o,hm _ o (by simpa using q2) ho,r⟩
   have hD':h'.DictOf knd D (merged [] ((pk.take i).map λp=>(p.1,p.2.1))):=by obtain⟨o,es,ep,ho,r⟩:=hD;exact⟨o,es,ep,hm D o (by simpa using hDI) ho,r⟩
   show wpAny _ A.in1 (holding [Value.ref p.2.2.1] _ >>= _) _ _ _;refine A02 (A2H ?_);refine A02 (wpAny_tryCatch (W8 ht' ?_));show wpAny _ A.in1 (holding [p.2.2.2,p.2.1] (dictSet D p.2.2.2 p.2.1)) _ _ _;refine A2H (wpAny_dictSet_pairs q5 hD' (λh'' hD'' hs=>?_) ?_)
   . refine A09 ⟨plainId_quiet Gu _,?_⟩;have hkeep:∀ b o,b≠D->b≠I->s.heap.get? b=some o->h''.get? b=some o:=λb o h1 h2 e=>(hs.2 b h1).trans (hm b o (by simpa using h2) e);refine ih (i+1) _ R ∅ hlt ?_ ?_ ?_ (λn p' hp'=>?_) λh3 tk3 hD3 hk3=>hR h3 tk3 hD3 λb o h1 h2 e=>hk3 b o h1 h2 (hkeep b o h1 h2 e)
     . exact hst.1.at λo e=>(hs.2 I (Ne.symm hDI)).trans e
     . exact hst.2.at λo e=>(hs.2 l (Ne.symm hDl)).trans e
     . have e:merged [] ((pk.take (i+1)).map λp=>(p.1,p.2.1))=stored (merged [] ((pk.take i).map λp=>(p.1,p.2.1))) p.1 p.2.1:=by rw[A0L,hp];unfold merged;rw[A0A,List.foldl_append];rfl
       rw[e];exact hD''
     obtain⟨a1,a2,a3,⟨o,ho,r⟩,a5⟩:=hP n p' hp';exact⟨a1,a2,a3,⟨o,hkeep _ o a3 a2 ho,r⟩,a5⟩
   refine A0C (merged_length_le _ _) (Ab ?_);rw[A00,A0J];simp;omega
theorem Lo {l:Addr}{items:Array Value}{n:Nat}{Q:Value->Shared->Prop}(hl:s.heap.get? l=some {cls:=.type "list",data:=.seq items n})(hA:A.handled=none)(pk:List (κ×Value×Addr×Value))(hlen:pk.length=items.size)(hz:items.size<=1000000)
  (hP:∀(n:Nat) (p:κ×Value×Addr×Value),pk[n]? = some p->items[n]? = some (Value.ref p.2.2.1)/\IsTup s.heap p.2.2.1 #[p.2.2.2,p.2.1]/\knd.is p.1 p.2.2.2=true)
  (h:∀ h' tk,h'.DictOf knd s.heap.objs.size (merged [] (pk.map λp=>(p.1,p.2.1)))->(∀ b o,s.heap.get? b=some o->h'.get? b=some o)->Q (.ref s.heap.objs.size) {s with heap:=h',toks:=tk}) :
  wpAny (model prog w) A (call (.type "dict") [.ref l]) Q E s:=by
 refine callType_codes (Q₁:=λobj s₁=>obj = .ref s.heap.objs.size/\s₁={s with heap:=s.heap.push {cls:=.type "dict",data:=.dict #[]}}) F.kt_called_dict (F.kt_typeCall_dict_1 _) F.entry_dict_init (kt_code_dict_new _ ⟨rfl,rfl⟩) ?_
 rintro obj s₁ ⟨rfl,rfl⟩;have hnew:(s.heap.push {cls:=.type "dict",data:=.dict #[]}).DictOf knd s.heap.objs.size []:=Heap.DictOf.new s.heap;have hl':(s.heap.push {cls:=.type "dict",data:=.dict #[]}).get? l=some {cls:=.type "list",data:=.seq items n}:=A06 _ hl;have hll:l<s.heap.objs.size:=A0N hl;refine⟨hnew.typeIs,F.args_dict_init_2 _ _,?_⟩;unfold Builtin.«dict.__init__»;refine A02 ?_;unfold Builtin.Dict.selfAndRest;refine A02 (A52 hnew.typeIs ?_);show wpAny _ _ (pure (s.heap.objs.size,[Value.ref l])) _ _ _;refine A09 ?_;show wpAny _ _ (Builtin.Dict.updateFrom "dict.__init__" s.heap.objs.size (.ref l) [] .none) _ _ _;unfold Builtin.Dict.updateFrom;refine A02 (A4W ⟨_,hl',rfl⟩ ?_);rw[A0Y nofun];refine wpAny_bind (a44 hl' (by simpa using hA) λh1 tk1 hk1=>?_);have hl1:h1.get? l=some {cls:=.type "list",data:=.seq items n}:=hk1 _ _ hl';rw[A0Y (show(none:Option Value).isNone=true from rfl)]
 have hD1:h1.DictOf knd s.heap.objs.size []:=by obtain⟨o,es,ep,ho,r⟩:=hnew;exact⟨o,es,ep,hk1 _ _ ho,r⟩
 have hsz:s.heap.objs.size<h1.objs.size:=by obtain⟨o,es,ep,ho,r⟩:=hD1;exact A0N ho
 refine A02 (A42 ?_);have hL1:h1.IsList l items:=⟨_,hl1,rfl,n,rfl⟩;refine A02 (wpAny_pyIter_list hL1 ?_);refine A09 ⟨plainId_quiet Gu _,?_⟩;have kp:∀ b o,s.heap.get? b=some o->(h1.push {cls:=.type "list_iterator",data:=.fields #[.ref l,.int 0 0]}).get? b=some o:=λb o e=>A06 _ (hk1 _ _ (A06 _ e));refine Y3 (knd:=knd) (A:=A.in1) (I:=h1.objs.size) (D:=s.heap.objs.size) (l:=l) (items:=items) (by simpa using hA) (Nat.ne_of_lt (Nat.lt_trans hll hsz)) (Nat.ne_of_lt hsz) (Nat.ne_of_gt hll) pk hlen hz items.size 0 _ _ (Nat.sub_zero _) (Nat.zero_le _) ⟨_,Heap.get?_push_size _ rfl,rfl,rfl⟩ (hL1.push _) ?_ (λm p hp=>?_) λh' tk hD hk=>?_
 . exact hD1.push _
 . obtain⟨a1,⟨o,ho,r⟩,a3⟩:=hP m p hp;have hlt:=A0N ho;exact⟨a1,A19 (Nat.lt_trans hlt hsz),A19 hlt,⟨o,kp _ _ ho,r⟩,a3⟩
 refine⟨rfl,h h' tk hD λb o e=>?_⟩;have hlt:=A0N e;exact hk b o (A19 hlt) (A19 (Nat.lt_trans hlt hsz)) (kp b o e)
end
def PrsK (K:W.Frag)(H:Hp):List (Key×V)->List V->Prop
 | [],ys=>ys=[]
 |kv :: r,ys=>∃ t ys',ys = .ref t :: ys'/\SqT K H t [kV kv.1,kv.2]/\PrsK K H r ys'
theorem PrsK.pk {X:Cx}{pins:List (Addr×Obj)}{σ:St}{H:Hp}{s:Shared}(I:Inv X pins σ H s):∀(kvs:List (Key×V)) (ys:List V) (its:List Value),PrsK X.K H kvs ys->Vals ys its ->
  ∃ pk:List (Key×Value×Addr×Value),pk.length=its.length/\KV kvs (pk.map λp=>(p.1,p.2.1))/\∀(n:Nat) (p:Key×Value×Addr×Value),pk[n]? = some p->its[n]? = some (Value.ref p.2.2.1)/\IsTup s.heap p.2.2.1 #[p.2.2.2,p.2.1]/\(Ax X.prog X.w).is p.1 p.2.2.2=true
 | [],ys,its,h,v=>by
   have h':ys=[]:=h;subst h'
   cases v;exact ⟨[],rfl,.nil,λn p hp=>by simp at hp⟩
 |kv :: r,ys,its,h,v=>by
   obtain⟨t,ys',rfl,h2,h3⟩:=h
   cases v with
   |cons v1 v2=>
     obtain⟨pk,l1,l2,l3⟩:=PrsK.pk I r ys' _ h3 v2
     cases v1;obtain ⟨its2,rv,ht,_⟩:=I.tuple h2;obtain⟨key,val,rfl,a1,a3⟩:=Vals.two rv;refine⟨(kv.1,val,t,key) :: pk,by simp[l1],.cons ⟨rfl,a3⟩ l2,λn p hp=>?_⟩
     cases n with
     |zero=>have:p=(kv.1,val,t,key):=(Option.some.inj (by simpa using hp)).symm;subst this;exact⟨rfl,ht,Ru a1⟩
     |succ n=>exact l3 n p (by simpa using hp)
section
variable {X:Cx}{K:W.Frag}
def Zi (K:W.Frag):List V->Hp->VK->Prop:=λxs H Q=>∃ l ys kvs,xs=[V.ref l]/\H l=some (.lst ys)/\PrsK K H kvs ys/\ys.length<=1000000/\kvs.length<=1000000/\∀ p,H p=none->Q (.ref p) (upd H p (.dK (Fj [] kvs)))
theorem X3 (hr:X.A.handled=none):CallR X (.type "dict") (Zi X.K):=by
 intro pins s σ H xs us Q I rv h;obtain⟨l,ys,kvs,rfl,hl,hp,hz,hz2,q⟩:=h;obtain⟨u,rfl,ru⟩:=rv.one
 cases ru;obtain⟨z,its,n,r,hlen,e⟩:=I.lstM hl;obtain⟨pk,l1,l2,l3⟩:=PrsK.pk I kvs ys its hp r;refine Lo (knd:=Ax X.prog X.w) e hr pk (by simpa using l1) (by simp;omega) (λn p hp=>?_) λh' tk hD hk=>?_
 . obtain⟨a1,a2,a3⟩:=l3 n p hp;exact⟨by simpa using a1,a2,a3⟩
 refine⟨.ref s.heap.objs.size,_,I.laid hk (A05 _) (Uz ?_ ?_ (KV.merge l2 .nil) hD),rfl,q _ (I.hok.fresh (A05 _))⟩
 . have:=Ex kvs [];exact Ab (by simpa using Nat.le_trans this (by simpa using hz2))
 exact A1R.mpr (Nat.ne_of_gt I.big)
theorem Nh (hr:X.A.handled=none)(hK:X.K=K:=by ac_nf):CallR X (.type "dict") (Zi K):=hK ▸ X3 hr
end
def Kp (ns:List Str)(as:List Addr):List (Key×V):=(ns.zip as).map λp=>(Sum.inr p.1,V.ref p.2)
def K3 (ks:List Str):List (Key×V):=ks.map λy=>(Sum.inr y,V.bl true)
theorem Gm:∀ {ns:List Str} {as:List Addr} {i:Nat} {z:Str} {a:Addr},ns.Nodup->ns[i]? = some z->as[i]? = some a->Dg (Kp ns as) (Sum.inr z:Key)=some (.ref a)
 | [],_,i,_,_,_,h,_=>by simp at h
 |n :: ns,[],i,_,_,_,_,h=>by simp at h
 |n :: ns,b :: as,0,z,a,_,h,g=>by simp at h g;subst h g;exact Bb rfl
 |n :: ns,b :: as,i+1,z,a,hn,h,g=>by
   rw[A0O] at hn;have h':ns[i]? = some z:=by simpa using h
   have ne:¬ (Sum.inr n:Key)=Sum.inr z:=by
    intro e;have e2:n=z:=by injection e
    subst e2;exact hn.1 (A03 h')
   show Dg ((Sum.inr n,V.ref b) :: Kp ns as) _=_;rw[Bd ne];exact Gm hn.2 h' (by simpa using g)
theorem Ug (y:Str):∀ ks:List Str,Dg (K3 ks) (Sum.inr y:Key)=if y∈ks then some (.bl true) else none
 | []=>by simp[K3,a65]
 |k :: ks=>by
   show Dg ((Sum.inr k,V.bl true) :: K3 ks) _=_
   by_cases e:k=y
   . subst e;rw[Bb rfl,A0Y A0S]
   rw[Bd (by intro q;injection q with q;exact e q),Ug y ks]
   have:(y∈k :: ks)↔y∈ks:=by simp[Ne.symm e]
   simp only[this]
def ad6 (ks:List Str)(y:Str):List Str:=if y∈ks then ks else ks++[y]
theorem mem_addK {ks:List Str}{y z:Str}:z∈ad6 ks y↔z∈ks\/z=y:=by
 unfold ad6
 split
 . constructor
   . exact .inl
   rintro(h|rfl)
   . exact h
   assumption
 simp
theorem Nf {ks:List Str}{y:Str}(h:ks.Nodup):(ad6 ks y).Nodup:=by
 unfold ad6
 split
 . exact h
 rename_i hy;rw[A29];refine⟨h,by simp,λa ha b hb e=>?_⟩;have:b=y:=by simpa using hb
 subst this;subst e;exact hy ha
theorem ai9 (y:Str)(ks:List Str):((K3 ks).any λkv=>decide (kv.1=(Sum.inr y:Key)))=decide (y∈ks):=by
 induction ks with
 |nil=>simp[K3]
 |cons k ks ih=>
   show(decide ((Sum.inr k:Key)=Sum.inr y)||(K3 ks).any _)=_
   rw[ih]
   by_cases e:k=y
   . subst e;simp
   have e':¬ (Sum.inr k:Key)=Sum.inr y:=by intro q;injection q with q;exact e q
   simp[e',Ne.symm e]
theorem Z0 (ks:List Str)(y:Str):Eb (K3 ks) (Sum.inr y:Key) (.bl true)=K3 (ad6 ks y):=by
 unfold Eb ad6;rw[ai9]
 by_cases h:y∈ks
 . rw[A0Y (A0K h),A0Y h];unfold K3;rw[A1P];refine A1J λk _=>?_;show(if(Sum.inr k:Key)=Sum.inr y then(Sum.inr k,V.bl true) else(Sum.inr k,V.bl true))=_
   split<;>rfl
 rw[if_neg (by simpa using h),if_neg h];unfold K3;rw[A0A];rfl
def M7 (ks ms:List Str):List Str:=ms.foldl ad6 ks
theorem R8:∀(ms ks:List Str),Fj (K3 ks) (K3 ms)=K3 (M7 ks ms)
 | [],ks=>rfl
 |m :: ms,ks=>by show Fj (Eb (K3 ks) (Sum.inr m) (.bl true)) (K3 ms)=_;rw[Z0,R8 ms];rfl
theorem mem_addAll:∀ {ms ks:List Str} {z:Str},z∈M7 ks ms↔z∈ks\/z∈ms
 | [],ks,z=>by simp[M7]
 |m :: ms,ks,z=>by show z∈M7 (ad6 ks m) ms↔_;rw[mem_addAll,mem_addK,A0F,or_assoc]
theorem Kh:∀ {ms ks:List Str},ks.Nodup->(M7 ks ms).Nodup
 | [],ks,h=>h
 |m :: ms,ks,h=>Kh (ms:=ms) (Nf h)
theorem Sc (ks:List Str):(K3 ks).length=ks.length:=by simp[K3]
theorem Ld:∀(kvs acc:List (Key×V)),(kvs.map (·.1)).Nodup->(∀ k∈kvs,∀ q∈acc,q.1≠k.1)->Fj acc kvs=acc++kvs
 | [],acc,_,_=>by simp[Fj]
 |k :: kvs,acc,hn,hd=>by
   show Fj (Eb acc k.1 k.2) kvs=_
   have e:Eb acc k.1 k.2=acc++[k]:=by
    unfold Eb
    have:¬ (acc.any λkv=>decide (kv.1=k.1))=true:=by rw[A2F];rintro⟨q,hq,e⟩;exact hd k A0S q hq (A1A e)
    rw[A0P this]
   rw[A0I,A0O] at hn;rw[e,Ld kvs (acc++[k]) hn.2 λx hx q hq=>?_,A12]
   . rfl
   rcases A0B.mp hq with hq|hq
   . exact hd x (A0E _ hx) q hq
   have:q=k:=by simpa using hq
   subst this;intro e;exact hn.1 (A0V.mpr ⟨x,hx,e.symm⟩)
structure Tab (H:Hp)(r:Addr)(ns:List Str)(as:List Addr)(R:Str->Str->Prop):Prop where
 len:as.length=ns.length
 nd:as.Nodup
 nr:r∉as
 top:H r=some (.dK (Kp ns as))
 row:∀(i:Nat) (z:Str) (a:Addr),ns[i]? = some z->as[i]? = some a->∃ ks:List Str,H a=some (.dK (K3 ks))/\ks.Nodup/\(∀ y∈ks,y∈ns)/\∀ y,y∈ks↔R z y
theorem Tab.same {H H':Hp}{r:Addr}{ns:List Str}{as:List Addr}{R:Str->Str->Prop}(h:Tab H r ns as R)(e:Same H H'):Tab H' r ns as R:=
 ⟨h.len,h.nd,h.nr,e _ _ h.top,λi z a hz ha=>let ⟨ks,h1,h2⟩:=h.row i z a hz ha;⟨ks,e _ _ h1,h2⟩⟩
theorem Tab.congr {H:Hp}{r:Addr}{ns:List Str}{as:List Addr}{R R':Str->Str->Prop}(h:Tab H r ns as R)(e:∀ z∈ns,∀ y,R z y↔R' z y):Tab H r ns as R':=
 ⟨h.len,h.nd,h.nr,h.top,λi z a hz ha=>let ⟨ks,h1,h2,h3,h4⟩:=h.row i z a hz ha;⟨ks,h1,h2,h3,λy=>(h4 y).trans (e z (A03 hz) y)⟩⟩
theorem Tab.put {H H':Hp}{r b:Addr}{ns:List Str}{as:List Addr}{R R':Str->Str->Prop}(h:Tab H r ns as R)(e:ExtBut b H H'){j:Nat}{x:Str}(hn:ns.Nodup)(hj:ns[j]? = some x)(hb:as[j]? = some b){ks:List Str}
  (hk:H' b=some (.dK (K3 ks))) (k1:ks.Nodup) (k2:∀ y∈ks,y∈ns) (k3:∀ y,y∈ks↔R' x y) (k4:∀ z∈ns,z≠x->∀ y,R z y↔R' z y):Tab H' r ns as R':=by
 refine⟨h.len,h.nd,h.nr,e _ _ (λq=>h.nr (q ▸ A03 hb)) h.top,λi z a hz ha=>?_⟩
 by_cases hij:i=j
 . subst hij;rw[hz] at hj
   cases hj;rw[ha] at hb
   cases hb;exact⟨ks,hk,k1,k2,k3⟩
 obtain⟨ms,h1,h2,h3,h4⟩:=h.row i z a hz ha
 have hab:a≠b:=by intro q;subst q;obtain⟨p1,p2⟩:=A01.mp ha;obtain⟨q1,q2⟩:=A01.mp hb;exact hij ((A22 h.nd).mp (p2.trans q2.symm))
 have hzx:z≠x:=by intro q;subst q;obtain⟨p1,p2⟩:=A01.mp hz;obtain⟨q1,q2⟩:=A01.mp hj;exact hij ((A22 hn).mp (p2.trans q2.symm))
 exact⟨ms,e _ _ hab h1,h2,h3,λy=>(h4 y).trans (k4 z (A03 hz) hzx y)⟩
theorem Tab.at {H:Hp}{r:Addr}{ns:List Str}{as:List Addr}{R:Str->Str->Prop}(h:Tab H r ns as R){x:Str}(hx:x∈ns):∃(i:Nat) (a:Addr),ns[i]? = some x/\as[i]? = some a:=by
 obtain⟨i,hi,e⟩:=A32 hx;have hi':i<as.length:=by rw[h.len];exact hi
 exact⟨i,as[i],by rw[A04 hi,e],A04 hi'⟩
section
variable {K:W.Frag}{H:Hp}{Q:VK}{r:Addr}{ns:List Str}{as:List Addr}{R:Str->Str->Prop}
theorem T5 {x:Str}{i:Nat}{a:Addr}(h:Tab H r ns as R)(hn:ns.Nodup)(hx:ns[i]? = some x)(ha:as[i]? = some a)(k:Q (.ref a) H):Ux K (.ref r) (.str x) H Q:=i_ixD h.top (Gm hn hx ha) k
theorem Z3 {a:Addr}{ks:List Str}{y:Str}(h:H a=some (.dK (K3 ks)))(k:Q (.bl (decide (y∈ks))) H):X5 K false (.str y) (.ref a) H Q:=by
 refine .inr (.inr (.inl ⟨a,Dg (K3 ks) (Sum.inr y:Key),rfl,DGet.k (k:=Sum.inr y) h,?_⟩));rw[Ug]
 by_cases e:y∈ks
 . rw[if_pos e];simpa[e] using k
 rw[if_neg e];simpa[e] using k
theorem ah7 {a:Addr}{kvs:List (Key×V)}{B:Prop}(h:H a=some (.dK kvs))(k:B):tyV K "dict" (.ref a) H/\B:=⟨.inr (.inr (.inl ⟨rfl,.inl ⟨kvs,h⟩⟩)),k⟩
theorem aD1 {d o:Addr}{ks ms:List Str}(hd:H d=some (.dK (K3 ks)))(ho:H o=some (.dK (K3 ms)))(hne:d≠o)(hz:ks.length+ms.length<=1000000)(k:∀ H',ExtBut d H H'->H' d=some (.dK (K3 (M7 ks ms)))->Q .non H'):Sl (.ref d) [.ref o] H Q:=
 ⟨d,o,_,_,rfl,rfl,hne,hd,ho,by rw[Sc,Sc];exact hz,k _ ExtBut.upd (by rw[A8,R8])⟩
end
structure HalfW (ns:List Str)(ps:List (Str×Str)):Prop where
 nd:ns.Nodup
 mem:∀ p∈ps,p.1∈ns/\p.2∈ns
 irr:∀ x,¬ Way ps x x
 few:ns.length<=100
 le:ps.length<=1000
theorem Half.w {ns:List Str}{ps:List (Str×Str)}(h:Half ns ps):HalfW ns ps:=⟨h.names.1,λp hp=>h.mem hp,λ_=>h.irrefl,A0C h.few nofun,A0C h.le nofun⟩
structure War (ns:List Str)(ps:List (Str×Str))(ms:List Str)(R:Str->Str->Prop):Prop where
 snd:∀ z y,R z y->Way ps z y
 edge:∀ z y,(z,y)∈ps->R z y
 shut:∀ m∈ms,∀ z y,R z m->R m y->R z y
def a92 (R:Str->Str->Prop)(mid:Str)(ms:List Str)(z y:Str):Prop:=R z y\/(z∈ms/\R z mid/\R mid y)
theorem War.step {ns:List Str}{ps:List (Str×Str)}{ms:List Str}{R:Str->Str->Prop}(h:War ns ps ms R){mid:Str}:War ns ps (ms++[mid]) (λz y=>R z y\/(R z mid/\R mid y)):=by
 refine⟨λz y hz=>?_,λz y hz=>.inl (h.edge z y hz),λm hm z y h1 h2=>?_⟩
 . rcases hz with hz|⟨h1,h2⟩
   . exact h.snd z y hz
   exact(h.snd _ _ h1).trans (h.snd _ _ h2)
 rcases A0B.mp hm with hm|hm
 . rcases h1 with h1|⟨h1,h1'⟩
   . rcases h2 with h2|⟨h2,h2'⟩
     . exact .inl (h.shut m hm z y h1 h2)
     exact .inr ⟨h.shut m hm z mid h1 h2,h2'⟩
   rcases h2 with h2|⟨h2,h2'⟩
   . exact .inr ⟨h1,h.shut m hm mid y h1' h2⟩
   exact .inr ⟨h1,h2'⟩
 have e:m=mid:=by simpa using hm
 subst e;rcases h1 with h1|⟨h1,h1'⟩
 . rcases h2 with h2|⟨h2,h2'⟩
   . exact .inr ⟨h1,h2⟩
   exact .inr ⟨h1,h2'⟩
 rcases h2 with h2|⟨h2,h2'⟩
 . exact .inr ⟨h1,h2⟩
 exact .inr ⟨h1,h2'⟩
theorem War.done {ns:List Str}{ps:List (Str×Str)}{R:Str->Str->Prop}(h:War ns ps ns R)(hm:∀ p∈ps,p.1∈ns/\p.2∈ns)(z y:Str):R z y↔Way ps z y:=by
 refine⟨h.snd z y,λg=>?_⟩
 induction g with
 |one e=>exact h.edge _ _ e
 |cons e _ ih=>exact h.shut _ (hm _ e).2 _ _ (h.edge _ _ e) ih
theorem PrsK.fz {K:W.Frag} {H H':Hp} (e:Fz H H'):∀ {kvs:List (Key×V)} {ys:List V},PrsK K H kvs ys->PrsK K H' kvs ys
 | [],_,h=>h
 |kv :: r,ys,⟨t,ys',h1,h2,h3⟩=>⟨t,ys',h1,e.seq h2,PrsK.fz e h3⟩
theorem PrsK.snoc {K:W.Frag}{H:Hp}{kv:Key×V}{t:Addr}(h:SqT K H t [kV kv.1,kv.2]):∀ {kvs:List (Key×V)} {ys:List V},PrsK K H kvs ys->PrsK K H (kvs++[kv]) (ys++[.ref t])
 | [],ys,g=>by have g':ys=[]:=g;subst g';exact⟨t,[],rfl,h,rfl⟩
 |k :: r,ys,⟨u,ys',h1,h2,h3⟩=>by subst h1;exact⟨u,ys'++[.ref t],rfl,h2,PrsK.snoc h h3⟩
theorem PrsK.length {K:W.Frag}{H:Hp}:∀ {kvs:List (Key×V)} {ys:List V},PrsK K H kvs ys->ys.length=kvs.length
 | [],ys,g=>by have g':ys=[]:=g;subst g';rfl
 |k :: r,ys,⟨u,ys',h1,h2,h3⟩=>by subst h1;simp[PrsK.length h3]
theorem ab1 {K:W.Frag}{H:Hp}{Q:VK}{l:Addr}{ys:List V}{kvs:List (Key×V)}(h:H l=some (.lst ys))(g:PrsK K H kvs ys)(hz:kvs.length<=1000000)(k:∀ p H',H p=none->Same H H'->H' p=some (.dK (Fj [] kvs))->Q (.ref p) H'):Zi K [.ref l] H Q:=
 ⟨l, ys,kvs,rfl,h,g,by rw[g.length];exact hz,hz,λp hp=>k p _ hp (Same.upd hp) A8⟩
theorem Ku:∀ {ns:List Str} {as:List Addr},ns.Nodup->((Kp ns as).map (·.1)).Nodup
 | [],as,_=>by simp[Kp]
 |n :: ns,[],_=>by simp[Kp]
 |n :: ns,a :: as,h=>by
   rw[A0O] at h;show((Sum.inr n:Key) :: (Kp ns as).map (·.1)).Nodup;rw[A0O];refine⟨λhm=>?_,Ku h.2⟩;obtain⟨kv,hkv,e⟩:=A0V.mp hm;obtain⟨p,hp,rfl⟩:=A0V.mp hkv;have e':p.1=n:=by injection e
   exact h.1 (e' ▸ (A4V hp).1)
theorem Vx {ns:List Str}{as:List Addr}{z:Str}{a:Addr}(h:ns.length=as.length):Kp (ns++[z]) (as++[a])=Kp ns as++[(Sum.inr z,V.ref a)]:=by unfold Kp;rw[List.zip_append h,A0A];rfl
end L2
namespace L2
open PySem PySem.Spec PyProof.Rows
open Classical in
def Ak (ps:List (Str×Str))(x y:Str):Bool:=decide (Way ps x y)
theorem wayB_iff {ps:List (Str×Str)} {x y:Str}:Ak ps x y=true↔Way ps x y:=by unfold Ak;simp
theorem aj2 {ps:List (Str×Str)}{x y:Str}{b:Bool}(h:b=true↔Way ps x y):b=Ak ps x y:=by
 cases hb:Ak ps x y with
 |true=>exact h.mpr (wayB_iff.mp hb)
 |false=>
   cases b with
   |false=>rfl
   |true=>
     have:=wayB_iff.mpr (h.mp rfl);rw[hb] at this
     cases this
theorem Ut {ps:List (Str×Str)}{x y:Str}{p:Prop}[Decidable p](h:p↔Way ps x y):decide p=Ak ps x y:=aj2 (by rw[decide_eq_true_iff];exact h)
theorem Wk {ps:List (Str×Str)}{x y:Str}(h:¬ Way ps x y):Ak ps x y=false:=by
 cases hb:Ak ps x y with
 |false=>rfl
 |true=>exact absurd (wayB_iff.mp hb) h
theorem iteR {α:Type}{a:α}{A B:Prop}[Decidable (a=a)](h:A):if decide (a=a)=true then A else B:=by rw[if_pos (by simp)];exact h
theorem iteNR {α:Type}{a:α}{A B:Prop}[Decidable (a=a)](h:B):if(!decide (a=a))=true then A else B:=by rw[if_neg (by simp)];exact h
section
variable {K:W.Frag}{H:Hp}{σ:St}{x:V}{Q:VK}
theorem Oe {ns:List Str}{g:TG}{tt:TT}{te:TE}{k:Nat}{js:List Nat}(h:Is K H (nmD ns) x)(t:Str->Bool)(f:Str->PyData)(hf:∀ a,frz (f a)=true)(hz:ns.length<=1000000)
  (hs:∀(i:Nat) a H1 (R:VK) (R':Hp->Prop),ns[i]? = some a->Same H H1->(t a=true->∀ y H2,Same H1 H2->Is K H2 (f a) y->R y H2)->(t a=false->∀ H2,Same H1 H2->R' H2) ->
   g (.str a) (List.replicate k none++Qe σ js) H1 fun σ2 H2=>tt σ2 H2 λb H3=>if b=true then te σ2 H3 R else R' H3)
  (hd:∀ p ys H',H p=none->Same H H'->H' p=some (.lst ys)->IsL K H' ((ns.filter t).map f) ys->Q (.ref p) H'):Jq K x H λJ H1=>Sk k js g tt te σ J H1 Q:=by
 obtain⟨a,rfl,hS⟩:=h.nm;refine Zv hS (Kv (K:=K) (Js (xs:=ns.map V.str)) ns (by simp) t f hf (by simpa using hz) (λH' e=>e.seqT hS) (λi z v H1 R R' hz hv e hR hR'=>?_) hd);rw[A07,hz] at hv
 cases hv;exact hs i z H1 R R' hz e hR hR'
theorem Ol {ns:List Str}{a:Addr}{g:TG}{tt:TT}{te:TE}{k:Nat}{js:List Nat}(h:SqL K H a (ns.map V.str))(t:Str->Bool)(f:Str->PyData)(hf:∀ a,frz (f a)=true)(hz:ns.length<=1000000)
  (hs:∀(i:Nat) a H1 (R:VK) (R':Hp->Prop),ns[i]? = some a->Same H H1->(t a=true->∀ y H2,Same H1 H2->Is K H2 (f a) y->R y H2)->(t a=false->∀ H2,Same H1 H2->R' H2) ->
   g (.str a) (List.replicate k none++Qe σ js) H1 fun σ2 H2=>tt σ2 H2 λb H3=>if b=true then te σ2 H3 R else R' H3)
  (hd:∀ p ys H',H p=none->Same H H'->H' p=some (.lst ys)->IsL K H' ((ns.filter t).map f) ys->Q (.ref p) H'):Jq K (.ref a) H λJ H1=>Sk k js g tt te σ J H1 Q:=by
 refine G3 h (Kv (K:=K) (At (xs:=ns.map V.str)) ns (by simp) t f hf (by simpa using hz) (λH' e=>e.seq h) (λi z v H1 R R' hz hv e hR hR'=>?_) hd);rw[A07,hz] at hv
 cases hv;exact hs i z H1 R R' hz e hR hR'
end
end L2
namespace L2
open PySem PySem.Spec PyProof.Rows
open AutoSeq1 (wpAny_loadPart')
section
variable {prog:Program}{w:World}{A:Around}{E:Value->Shared->Prop}{s:Shared}
end
theorem Inv.turnedL {X:Cx}{pins:List (Addr×Obj)}{σ:St}{H:Hp}{s:Shared}{h':Heap}{t':Nat}{ch:List Addr}(I:Inv X pins σ H s)(k:∀ b o,b∉ch->s.heap.get? b=some o->h'.get? b=some o)(hf:∀ b∈ch,Uf X pins H b):Inv X pins σ H {s with heap:=h',toks:=t'}:=by
 have nit:∀ b u,H b=some u->b∉ch:=λb u e z=>by rw[(hf b z).1] at e;cases e
 refine I.step (g':=s.gens) (d':=s.drawn) (ch:=ch) (λb hb=>?_) (λb o _ _ hc e _=>k b o hc e) (λb o _ _ hc e _=>⟨o.slots,k b o hc e⟩) (λ_ _ _ _ n=>n)
  (λb o hc e=>⟨o,k b o hc e⟩) (λ_ _ e=>e) (λ_ _ _ e=>e) (λb ps e=>⟨#[],by rw[e];simp⟩) (λm hm=>?_) (λb u e=>?_) I.bare
 . obtain⟨_,h2,_,h4,h5,h6⟩:=hf b hb;exact⟨h4,h2,h5,h6⟩
 . obtain⟨o,es,ep,ho,r⟩:=hm;exact⟨o,es,ep,k _ o (λz=>(hf _ z).2.1 rfl) ho,r⟩
 refine(I.hok b u e).stay (λc v hc q=>k c v ?_ q) (λ_ q=>q) λ_ _ q=>q;rcases hc with z|z
 . rw[z];exact nit b u e
 exact nit c _ z
section
variable {X:Cx}{K:W.Frag}
theorem Me:bootBuiltins "enumerate" = some (.type "enumerate"):=PyProof.Rows.Boot.«enumerate»
end
section
variable {K:W.Frag}{σ:St}{H:Hp}
end
end L2
namespace L2
open PySem PySem.Spec PyProof.Rows
section
variable {X:Cx}{K:W.Frag}
section
variable {H:Hp}{Q:VK}{lo hi:Option Int}
theorem Jo {a b:Addr}{xs ys:List V}(h1:SqT K H a xs)(h2:SqT K H b ys)(h:xs.length+ys.length<=sizeLine)(k:∀ p H',Same H H'->SqT K H' p (xs++ys)->Q (.ref p) H'):Rx K (.ref a) (.ref b) H Q:=by
 by_cases hx:xs=[]
 . subst hx;exact .inr (.inr (.inr (.inr ⟨a,b,ys,rfl,rfl,h1,h2,k b H (Same.refl _) h2⟩)))
 refine .inr (.inr (.inr (.inl ⟨a,b,xs,ys,rfl,rfl,h1,h2,hx,h,λe=>?_,λ_ p hp=>k p _ (Same.upd hp) (SqT.of A8)⟩)));subst e;exact k a H (Same.refl _) (by rw[A17];exact h1)
theorem Pk {a:Addr}{xs:List V}(h:SqT K H a xs)(k:∀ p H',Same H H'->SqT K H' p (Kt xs lo hi)->Q (.ref p) H'):at0 K (.ref a) lo hi H Q:=by
 by_cases hw:HT.sIx xs.length 0 lo=0/\HT.sIx xs.length xs.length hi=xs.length
 . refine .inr (.inr (.inr ⟨a,xs,rfl,h,hw,k a H (Same.refl _) ?_⟩))
   have e:Kt xs lo hi=xs:=by unfold Kt;rw[hw.1,hw.2,List.drop_zero,Nat.sub_zero,A0Q]
   rw[e];exact h
 exact .inr (.inl ⟨a,xs,rfl,h,hw,λp hp=>k p _ (Same.upd hp) (SqT.of A8)⟩)
theorem av3 {x y:V}{d:PyData}{ds:List PyData}(hx:Is K H d x)(hy:Is K H (.list ds) y\/Is K H (.tuple ds) y)(h1:PyData.canLayAll0 ds=true)(h2:d.canLay0=true)(h3:d.depth<=100)(k:Q (.bl (ds.any λe=>PyData.eqv e d)) H):X5 K false x y H Q:=.inr (.inr (.inr ⟨d,ds,hx,hy,h1,h2,h3,k⟩))
theorem ad5 {x y:V}{d:PyData}{ds:List PyData}(hx:Is K H d x)(hy:Is K H (.list ds) y\/Is K H (.tuple ds) y)(h1:PyData.canLayAll0 ds=true)(h2:d.canLay0=true)(h3:d.depth<=100)(k:Q (.bl (!(ds.any λe=>PyData.eqv e d))) H):X5 K true x y H Q:=.inr (.inr (.inr ⟨d,ds,hx,hy,h1,h2,h3,k⟩))
end
end
section
variable {K:W.Frag}{σ:St}{H:Hp}{Q:VK}{td ty:TE}
theorem i_chain {r r':R2}{ta tb tc:TE}(k:ta σ H λx H1=>tb σ H1 λy H2=>r x y H2 λz H3=>∃ k,z = .bl k/\(if k=true then tc σ H3 λw' H4=>r' y w' H4 Q else Q (.bl false) H3)):aa0 r r' ta tb tc σ H Q:=k
theorem i_andV {ta tb:TE}(k:ta σ H λx H1=>∃ c,x = .bl c/\if c=true then tb σ H1 Q else Q (.bl false) H1):ap3 ta tb σ H Q:=k
theorem i_orV {ta tb:TE}(k:ta σ H λx H1=>∃ c,x = .bl c/\if c=true then Q (.bl true) H1 else tb σ H1 Q):aE8 ta tb σ H Q:=k
theorem av8 {a:Addr}{bs:List Bool}(h:SqL K H a (bs.map V.bl))(k:Q (.bl (!bs.any id)) H):X5 K true (.bl true) (.ref a) H Q:=.inl ⟨a,_,rfl,.inl h,rfl,by
  rw[A2Q];intro v h;obtain⟨n,_,rfl⟩:=A0V.mp h;rfl,by
  have e:inV (.bl true) (bs.map V.bl)=bs.any id:=by
   clear h k;unfold inV
   induction bs with
   |nil=>rfl
   |cons b bs ih=>
     rw[A0I,A1V,A1V,ih]
     cases b<;>rfl
  rw[e];exact k⟩
end
structure TabL (K:W.Frag)(H:Hp)(r:Addr)(ns:List Str)(as:List Addr)(R:Str->Str->Prop):Prop where
 len:as.length=ns.length
 top:H r=some (.dK (Kp ns as))
 row:∀(i:Nat) (z:Str) (a:Addr),ns[i]? = some z->as[i]? = some a->∃ ks:List Str,H a=some (.lst (ks.map V.str))/\ks.Nodup/\∀ y,y∈ks↔R z y
theorem TabL.same {K:W.Frag}{H H':Hp}{r:Addr}{ns:List Str}{as:List Addr}{R:Str->Str->Prop}(h:TabL K H r ns as R)(e:Same H H'):TabL K H' r ns as R:=
 ⟨h.len,e _ _ h.top,λi z a hz ha=>let ⟨ks,h1,h2⟩:=h.row i z a hz ha;⟨ks,e _ _ h1,h2⟩⟩
theorem TabL.at {K:W.Frag}{H:Hp}{r:Addr}{ns:List Str}{as:List Addr}{R:Str->Str->Prop}(h:TabL K H r ns as R){x:Str}(hx:x∈ns):∃(i:Nat) (a:Addr),ns[i]? = some x/\as[i]? = some a:=by
 obtain⟨i,hi,e⟩:=A32 hx;have hi':i<as.length:=by rw[h.len];exact hi
 exact⟨i,as[i],by rw[A04 hi,e],A04 hi'⟩
section
variable {K:W.Frag}{σ:St}{H:Hp}{Q:VK}{r:Addr}{ns:List Str}{as:List Addr}{R:Str->Str->Prop}
theorem an9 {x:Str}{i:Nat}{a:Addr}(h:TabL K H r ns as R)(hn:ns.Nodup)(hx:ns[i]? = some x)(ha:as[i]? = some a)(k:Q (.ref a) H):Ux K (.ref r) (.str x) H Q:=i_ixD h.top (Gm hn hx ha) k
end
section
variable {K:W.Frag}{H:Hp}{σ:St}
end
theorem IsL.perm {α:Type}{K:W.Frag}{H:Hp}{f:α->PyData}{xs ys:List V}(p:ys.Perm xs):∀ {as:List α},IsL K H (as.map f) xs->∃ bs:List α,bs.Perm as/\IsL K H (bs.map f) ys:=by
 induction p with
 |nil=>exact fun {as} h=>⟨as,.refl _,h⟩
 |@cons x l1 l2 _ ih=>
   intro as h
   cases as with
   |nil=>have:=IsL.length h;simp at this
   |cons a as=>
     rw[A0I] at h;simp only[IsL] at h;obtain⟨v,vs,e,h1,h2⟩:=h
     cases e;obtain⟨bs,hb,hL⟩:=ih h2;exact⟨a :: bs,hb.cons a,by rw[A0I];exact .cons h1 hL⟩
 |@swap x y l=>
   intro as h
   cases as with
   |nil=>have:=IsL.length h;simp at this
   |cons a as=>
     cases as with
     |nil=>have:=IsL.length h;simp at this
     |cons b as=>
       rw[A0I,A0I] at h;simp only[IsL] at h;obtain⟨v,vs,e,h1,v2,vs2,e2,h2,h3⟩:=h
       cases e
       cases e2;exact⟨b :: a :: as,.swap a b as,by rw[A0I,A0I];exact .cons h2 (.cons h1 h3)⟩
 |trans _ _ ih1 ih2=>intro as h;obtain⟨bs,hb,hL⟩:=ih2 h;obtain⟨cs,hc,hL2⟩:=ih1 hL;exact⟨cs,hc.trans hb,hL2⟩
section
variable {prog:Program}{w:World}{A:Around}{E:Value->Shared->Prop}{s:Shared}
end
section
variable {X:Cx}{K:W.Frag}
end
section
variable {K:W.Frag}{σ:St}{H:Hp}
end
theorem Fb (Ls:List (List Str)):Tr (Ls.map nmD)=true:=Pq _ R7 Ls
section
variable {K:W.Frag}{H:Hp}{Q:VK}
end
section
variable {P:Program}{w:World}{κ:Type}[DecidableEq κ]{knd:KeyKind P w κ}{A:Around}{E:Value->Shared->Prop}{s:Shared}
end
section
variable {X:Cx}{pins:List (Addr×Obj)}{σ:St}{H:Hp}{s:Shared}{A:Around}
end
section
variable {prog:Program}{w:World}{A:Around}{E:Value->Shared->Prop}{s:Shared}
end
section
variable {X:Cx}{K:W.Frag}
end
section
variable {P:Program}{w:World}{A:Around}{R:Result->Shared->Prop}{it:Addr}{fp wr:List Addr}{G:Array GenState->Array GenState->Prop}{n:Nat}{PV:Nat->Value->Prop}{St:Nat->Shared->Prop}
end
section
variable {prog:Program}{w:World}{A:Around}{E:Value->Shared->Prop}{s:Shared}
set_option maxHeartbeats 3200000 in
end
section
variable {X:Cx}{K:W.Frag}
end
section
variable {K:W.Frag} {H:Hp} {Q:VK}
end
theorem Fg (ns:List Int):∀ j ≤ ns.length,preSum (λi=>ns.getD i 0) j=(ns.take j).sum
 |0,_=>by simp[preSum]
 |j+1,h=>by rw[preSum,Fg ns j ∅,A0L,Jn (y:=0) (by omega:j<ns.length)];simp
theorem L7:∀ {ns:List Int},(∀ n∈ns,0<=n/\n<=1000000000000)->0<=ns.sum/\ns.sum<=1000000000000*(ns.length:Int)
 | [],_=>by simp
 |n :: ns,h=>by have h1:=h n (by simp);have h2:=L7 λm hm=>h m (A0E _ hm);rw[A2A,A0W];omega
section
variable {X:Cx}{K:W.Frag}
def aB9 (K:W.Frag):List V->Hp->VK->Prop:=λxs H Q=>∃(a:Addr) (ns:List Int),xs=[.ref a]/\(SqL K H a (ns.map V.int)\/SqT K H a (ns.map V.int))/\(∀ n∈ns,0<=n/\n<=1000000000000)/\ns.length<=1000000/\Q (.int ns.sum) H
theorem ab4 {ns:List Int}{its:List Value}(r:Vals (ns.map V.int) its){i:Nat}{v:Value}(h:its.toArray[i]? = some v):∃ t,v = .int (ns.getD i 0) t:=by
 rw[List.getElem?_toArray] at h;have hl:=r.length;rw[A00] at hl
 have hi:i<ns.length:=by have:=(A01.mp h).1;omega
 obtain⟨u,hu,ru⟩:=r.get (i:=i) (x:=.int (ns.getD i 0)) (by rw[A07,Jn (y:=0) hi];rfl);rw[h] at hu
 cases hu;exact ru
theorem Y6 (hc:X.calm=true):CallR X (.builtin "sum") (aB9 X.K):=by
 intro pins s σ H xs us Q I r h;obtain⟨a,ns,rfl,hl,hb,hz,q⟩:=h;obtain⟨u,rfl,ru⟩:=J9 r
 cases ru
 have fits:∀ j,j<ns.length->InLong (ns.getD j 0)/\InLong (preSum (λi=>ns.getD i 0) (j+1)):=λj hj=>by have h1:=hb _ (A03 (Jn (y:=0) hj));have h2:=L7 (ns:=ns.take (j+1)) λn hn=>hb n (A1E hn);rw[Fg ns (j+1) hj];rw[A0J] at h2;unfold InLong;omega
 have last:preSum (λi=>ns.getD i 0) ns.length=ns.sum:=by rw[Fg ns _ (A05 _),A0Q]
 refine call_sum_walk ?_;rcases hl with hl|hl
 . obtain⟨its,rv,pl,_⟩:=I.list hl;have hlen:its.toArray.size=ns.length:=by rw[A0X,<- rv.length,A00]
   have hlt:a<s.heap.objs.size:=let ⟨_,e,_⟩:=pl.isList;A0N e;refine wpAny_pyIter_list pl.isList ?_;refine⟨_,_,_,_,_,_,λi=>ns.getD i 0,rfl,Walks.list (by simpa using I.ok.hd hc) _ a (Nat.ne_of_lt hlt) its.toArray,⟨⟨_,Heap.get?_push_size _ rfl,rfl,rfl⟩,pl.isList.push _⟩,λb hb'=>?_,λi v hv=>ab4 rv hv,by rw[hlen];exact fits,λh' tk t' hk=>?_⟩
   . rw[A35];simp only[List.mem_cons,List.not_mem_nil,or_false] at hb';rcases hb' with rfl|rfl
     . exact A3W _
     exact A3F hlt
   refine⟨.int ns.sum,H,I.kept (t':=tk) λb o e=>hk b o (λz=>?_) (A06 _ e),⟨t',by rw[hlen,last]⟩,q⟩;have:b=s.heap.objs.size:=by simpa using z
   subst this;exact absurd (A0N e) (A2Z _)
 obtain⟨its,rv,pl,_⟩:=I.tuple hl;have hlen:its.toArray.size=ns.length:=by rw[A0X,<- rv.length,A00]
 have hlt:a<s.heap.objs.size:=let ⟨_,e,_⟩:=pl;A0N e;refine wpAny_pyIter_tuple pl ?_;refine⟨_,_,_,_,_,_,λi=>ns.getD i 0,rfl,Walks.tuple (by simpa using I.ok.hd hc) _ a (Nat.ne_of_lt hlt) its.toArray,⟨⟨_,Heap.get?_push_size _ rfl,rfl,rfl⟩,Heap.IsTuple.push pl _⟩,λb hb'=>?_,λi v hv=>ab4 rv hv,by rw[hlen];exact fits,λh' tk t' hk=>?_⟩
 . rw[A35];simp only[List.mem_cons,List.not_mem_nil,or_false] at hb';rcases hb' with rfl|rfl
   . exact A3W _
   exact A3F hlt
 refine⟨.int ns.sum,H,I.kept (t':=tk) λb o e=>hk b o (λz=>?_) (A06 _ e),⟨t',by rw[hlen,last]⟩,q⟩;have:b=s.heap.objs.size:=by simpa using z
 subst this;exact absurd (A0N e) (A2Z _)
theorem Ih (hc:X.calm=true)(hK:X.K=K:=by ac_nf):CallR X (.builtin "sum") (aB9 K):=hK ▸ Y6 hc
theorem Z5 {a:Addr}{ns:List Int}{H:Hp}{Q:VK}(h:SqL K H a (ns.map V.int)\/SqT K H a (ns.map V.int))(hb:∀ n∈ns,0<=n/\n<=1000000000000)(hz:ns.length<=1000000)(k:Q (.int ns.sum) H):aB9 K [.ref a] H Q:=⟨a,ns,rfl,h,hb,hz,k⟩
end
section
variable {prog:Program}{w:World}{A:Around}{E:Value->Shared->Prop}{s:Shared}
theorem Zw {t:Addr}{items:Array Value}{x:Value}{e:Value->Bool}{j:Nat}{Q:Value->Shared->Prop}(ht:IsTup s.heap t items)(hj:j<items.size)(he:∀ y,y∈items->SeqAt.EqAt A.in1 s y x (e y))(hit:e items[j]=true)
  (hno:∀ m (hm:m<items.size),m<j->e items[m]=false) (h:Q (.int j s.toks) {s with toks:=s.toks+1}):wpAny (model prog w) A (call (.builtin "tuple.index") [.ref t,x]) Q E s:=by
 refine A2P A3M ht.typeIs PySem.F.entry_tuple_index ?_ (PySem.F.args_tuple_index_2 _ _);unfold Builtin.«tuple.index»;refine A02 (wpAny_of_eq (a:=(Value.ref t,[x])) (by first | rfl | kernel_rfl) ?_)
 refine A02 (m:=Builtin.Tuple.tupleItemsOf _) (tupleItemsOf_ ht ?_);refine A02 (m:=pure 0) (A09 ?_);refine A02 (m:=pure items.size) (A09 ?_);dsimp only;rw[Nat.min_self];refine A02 ?_;rw[Std.Legacy.Range.forIn_eq_forIn_range',show Std.Legacy.Range.size [:items.size]=items.size by simp[Std.Legacy.Range.size]];refine wpAny_forIn_list _ (λl q s'=>s'=s/\q=(none,())/\∃ i,i<=j/\l=List.range' i (items.size-i)) _ ?_ ?_ _ _ ⟨rfl,rfl,0,A24 _,rfl⟩
 . rintro m l q s' ⟨rfl,rfl,i,hi,el⟩;rw[show items.size-i=items.size-(i+1)+1 by omega,List.range'_succ] at el;injection el with e1 e2;subst e1;have hm:m<items.size:=by omega
   rw[A1H hm];refine A02 (he _ (Array.getElem_mem hm) prog w _ _ ?_)
   by_cases hmj:m=j
   . subst hmj;rw[hit,A0Y rfl];refine A02 (m:=retInt _) ?_;refine A02 (wpAny_mkInt ?_);exact A09 (A09 (A09 ⟨_,rfl,h⟩))
   rw[hno m hm ∅,A0P nofun];exact A09 ⟨rfl,rfl,m+1,by omega,e2⟩
 rintro q s' ⟨rfl,rfl,i,hi,el⟩;exfalso;rw[show items.size-i=items.size-(i+1)+1 by omega,List.range'_succ] at el
 cases el
end
section
variable {X:Cx}{K:W.Frag}
def T2 (K:W.Frag):V->List V->Hp->VK->Prop:=λx vs H Q=>∃(a:Addr) (ns:List Str) (z:Str) (j:Nat),x = .ref a/\vs=[.str z]/\SqT K H a (ns.map V.str)/\ns[j]? = some z/\(∀ m<j,ns[m]? ≠ some z)/\Q (.int (j:Nat)) H
theorem Yb:MtR X "tuple.index" (T2 X.K):=by
 intro pins s σ H x vs v us Q I rx rv h;obtain⟨a,ns,z,j,rfl,rfl,hS,hj,hno,q⟩:=h
 cases rx;obtain⟨u,rfl,ru⟩:=rv.one;obtain⟨its,r,p,hz⟩:=I.tuple hS;have hlen:=r.length;rw[A00] at hlen;have hjn:=(A01.mp hj).1
 have at':∀ m (hm:m<its.toArray.size),∃ y t,ns[m]? = some y/\its.toArray[m] = .str y t:=λm hm=>by
  have hm':m<ns.length:=by rw[A0X] at hm;omega
  obtain⟨w,hw,rw'⟩:=r.get (i:=m) (x:=.str ns[m]) (by rw[A07,A04 hm'];rfl);obtain⟨t,rfl⟩:=rw';refine⟨ns[m],t,A04 hm',?_⟩;have h2:=(A01.mp hw).2;simpa using h2
 have tell:∀ y t,eqU (.str z) (.str y t)=decide (y=z):=λy t=>by
  show(y==z)=_
  by_cases h:y=z<;>simp[h]
 refine Zw (j:=j) (e:=eqU (.str z)) p (by rw[List.size_toArray];omega) (λw hw=>Iu ru rfl r (Je ns) w (by simpa using hw)) ?_ (λm hm hmj=>?_) ⟨.int _,H,I.tok _,⟨_,rfl⟩,q⟩
 . obtain⟨y,t,h1,h2⟩:=at' j (by rw[A0X];omega);rw[h2,tell];rw[hj] at h1;exact A0K (A1I h1).symm
 obtain⟨y,t,h1,h2⟩:=at' m hm;rw[h2,tell];refine A0R λe=>hno m hmj ?_;rw[h1,e]
theorem Jy (hK:X.K=K:=by ac_nf):MtR X "tuple.index" (T2 K):=hK ▸ Yb
theorem Pf {a:Addr}{ns:List Str}{z:Str}{j:Nat}{H:Hp}{Q:VK}(h:SqT K H a (ns.map V.str))(hj:ns[j]? = some z)(hno:∀ m<j,ns[m]? ≠ some z)(k:Q (.int (j:Nat)) H):T2 K (.ref a) [.str z] H Q:=⟨a,ns,z,j,rfl,rfl,h,hj,hno,k⟩
def aD6 (K:W.Frag)(r:V->List V->Hp->VK->Prop)(to:TE)(t:TA):TE:=fun σ H Q=>to σ H λx H1=>(∃ a xs,x = .ref a/\SqT K H1 a xs)/\t σ H1 λvs H2=>r x vs H2 Q
theorem Xd {o e:Expr}{es:List Expr}{to:TE}{t:TA}{name:Str}{apos cpos:Pos}{id:String}{r:V->List V->Hp->VK->Prop}(slot:Slot "tuple" name id)(hty:typeOf (.builtin id)=pure (.type "method_descriptor"))(hm:MtR X id r)(ho:PE X o to)(ha:PA X (e :: es) t)(hK:X.K=K:=by ac_nf)
  (hbase:attributeBase o name X.env (eval o X.env)=eval o X.env:=by ac_nf)
  (hfew:((backTo cpos (starEach (e :: es) X.env)).all (λx=>!x.1)&&(backToKw cpos (keywordEach [] X.env)).all (λx=>x.1.isSome)&&decide ((e :: es).length+([]:List Keyword).length+(if([]:List Keyword).isEmpty then 0 else 1)<30))=true:=by ac_nf)
  (hline:(apos.endLine==cpos.line)=true:=by ac_nf) (hs:starEach (e :: es) X.env=(false,eval e X.env) :: starEach es X.env:=by ac_nf) (hplain:(backTo cpos (starEach es X.env)).any (·.1)=false:=by ac_nf) :
  PE X (.Call (.Attribute o name apos) (e :: es) [] cpos) (aD6 K r to t):=by
 subst hK;intro pins s σ H Q I h;refine wpAny_Call_method_late hbase hfew hline rfl (thn (ho pins s σ H _ I h) λv s1 ⟨x,H1,I1,r1,ty,q1⟩=>?_);obtain⟨a,xs,rfl,hS⟩:=ty
 cases r1;obtain⟨its,_,p,_⟩:=I1.tuple hS;refine⟨"tuple",id,PySem.F.plainAttrs_tuple,slot,hty,p.typeIs,(λb e=>by cases e;exact I1.tupleN hS),?_⟩;have hA:=ha cpos pins s1 σ H1 _ I1 q1;rw[hs] at hA ⊢;refine A3R (by show(false||(backTo cpos (starEach es X.env)).any (·.1))=false;rw[hplain];rfl) (A5B ?_)
 exact thn hA λus s2 ⟨vs,H2,I2,r2,q2⟩=>hm pins s2 σ H2 (.ref a) vs _ us Q I2 rfl r2 q2
theorem i_bmT {r:V->List V->Hp->VK->Prop}{te:TE}{ts:TA}{σ:St}{H:Hp}{Q:VK}(k:te σ H λx H1=>(∃ a xs,x = .ref a/\SqT K H1 a xs)/\ts σ H1 λxs H2=>r x xs H2 Q):aD6 K r te ts σ H Q:=k
theorem ae9 {a:Addr}{xs:List V}{H:Hp}{B:Prop}(h:SqT K H a xs)(k:B):(∃ a' xs',V.ref a = .ref a'/\SqT K H a' xs')/\B:=⟨⟨a,xs,rfl,h⟩,k⟩
end
section
variable {prog:Program}{w:World}{A:Around}{E:Value->Shared->Prop}{s:Shared}
theorem Rt {t:Addr}{vs:List Value}{ss:List Str}{T:String}{n:Nat}{o:Obj}{Q:Value->Shared->Prop}(hT:T = "list" \/ T = "tuple")(ho:s.heap.get? t=some o)(hc:o.cls = .type T)(hd:o.data = .seq vs.toArray n)(hS:StrsAre vs ss)(h64:vs.length<64)
  (h:∀(h1 h':Heap) (out:List Value) (e:Nat) (ss':List Str),(∀ b ob,s.heap.get? b=some ob->h1.get? b=some ob)->(∀ b ob,h1.get? b=some ob->h'.get? b=some ob)->h'.get? h1.objs.size=some (seqObj "list" out.toArray e)->StrsAre out ss'->ss'.Perm ss->sortedS ss'=true->Q (.ref h1.objs.size) {s with heap:=h'}) :
  wpAny (model prog w) A (call (.builtin "sorted") [.ref t]) Q E s:=by
 refine A4D kind_sorted plain_sorted entry_sorted (args_sorted1 _) ?_;unfold Builtin.«sorted»;refine A02 (m:=checkCount "sorted" 1 1 _) (A09 ?_);refine A02 (wpAny_collect_seq t hT ho hc hd (λh1 k1=>?_) (by rw[A0X,A1B];omega));refine wpAny_bind (wpAny_newList ?_ (by simp only[List.size_toArray];rw[sizeLine_eq];omega));have hnew:(h1.push (seqObj "list" vs.toArray 0)).get? h1.objs.size=some (seqObj "list" vs.toArray 0):=A0Z _ rfl;show wpAny _ _ _ _ _ {s with heap:=h1.push (seqObj "list" vs.toArray 0)}
 refine A02 (A2H (A2P slot_list_sort ⟨_,hnew,rfl⟩ entry_list_sort (list_sort_treeK strKind_oneLt hnew hS.keysOf (λv₁ v₂ r e=>keyKind_strs (by rw[<- e];exact hS)) h64 λst' hp hs=>⟨_,rfl,?_⟩) (args_list_sort _)));obtain⟨ss',q1,q2,q3⟩:=sorted_out_str hS hp hs;obtain⟨e,he⟩:=sortedHeap_at (out:=(arrOf st').map (·.2)) hnew;refine A09 ⟨_,rfl,h h1 _ ((arrOf st').map (·.2)).toList e ss' k1 (λb ob hb=>?_) (by rw[Array.toArray_toList];exact he) q1 q2 q3⟩;have hlt:=A0N hb;rw[sortedHeap_old (A19 hlt) (by rw[size_push'];exact A3F hlt)];exact A06 _ hb
end
theorem Rn:∀ {us:List Value} {ys:List Str},StrsAre us ys->Vals (ys.map V.str) us
 |_,_,.nil=>.nil
 |_,_,.cons y t h=>.cons ⟨t,rfl⟩ (Rn h)
section
variable {X:Cx}{K:W.Frag}
def Tl (K:W.Frag):List V->Hp->VK->Prop:=λxs H Q=>∃(a:Addr) (ns:List Str),xs=[.ref a]/\(SqL K H a (ns.map V.str)\/SqT K H a (ns.map V.str))/\ns.length<64/\∀ p (ms:List Str),H p=none->ms.Perm ns->sortedS ms=true->Q (.ref p) (upd H p (.lst (ms.map V.str)))
theorem Rp:CallR X (.builtin "sorted") (Tl X.K):=by
 intro pins s σ H xs us Q I r h;obtain⟨a,ns,rfl,hl,hz,q⟩:=h;obtain⟨u,rfl,ru⟩:=J9 r
 cases ru
 have fin:∀(vs:List Value),Vals (ns.map V.str) vs->∀(h1 h':Heap) (out:List Value) (e:Nat) (ss':List Str),(∀ b ob,s.heap.get? b=some ob->h1.get? b=some ob)->(∀ b ob,h1.get? b=some ob->h'.get? b=some ob)->h'.get? h1.objs.size=some (seqObj "list" out.toArray e)->StrsAre out ss'->ss'.Perm ns->sortedS ss'=true->EP X pins σ Q (.ref h1.objs.size) {s with heap:=h'}:=λvs rv h1 h' out e ss' k1 k2 he q1 q2 q3=>by
  have I1:Inv X pins σ H {s with heap:=h1}:=I.kept (t':=s.toks) k1
  exact⟨.ref _,_,I1.laid (t':=s.toks) (o:=.lst (ss'.map V.str)) k2 (A05 _) ⟨by rw[A00,q2.length_eq,A1B];omega,out,e,Rn q1,he⟩,rfl,q _ ss' (I1.hok.fresh (A05 _)) q2 q3⟩
 rcases hl with hl|hl
 . obtain⟨its,rv,⟨o,n,h1,h2,_,h3⟩,_⟩:=I.list hl;have hlen:=rv.length;rw[A00] at hlen;exact Rt (.inl rfl) h1 h2 h3 (Sv rv) ∅ (fin its rv)
 obtain⟨its,rv,⟨o,h1,h2,n,h3⟩,_⟩:=I.tuple hl;have hlen:=rv.length;rw[A00] at hlen;exact Rt (.inr rfl) h1 h2 h3 (Sv rv) ∅ (fin its rv)
theorem Rk (hK:X.K=K:=by ac_nf):CallR X (.builtin "sorted") (Tl K):=hK ▸ Rp
theorem a80 {a:Addr}{ns:List Str}{H:Hp}{Q:VK}(h:SqL K H a (ns.map V.str)\/SqT K H a (ns.map V.str))(hz:ns.length<64)(k:∀ p (ms:List Str) H',H p=none->Same H H'->H' p=some (.lst (ms.map V.str))->ms.Perm ns->sortedS ms=true->Q (.ref p) H'):Tl K [.ref a] H Q:=
 ⟨a, ns,rfl,h,hz,λp ms hp h1 h2=>k p ms _ hp (Same.upd hp) A8 h1 h2⟩
end
theorem Jl:∀(p:Str) (l:List Str),risingS p l=true->∀ y∈l,¬ y.cps.toList<p.cps.toList
 |p,[],_,y,h=>nomatch h
 |p,x :: r,h,y,hy=>by
   have h':(!ltCps x.cps.toList p.cps.toList&&risingS x r)=true:=h;rw[A1L,Bool.not_eq_true',ltCps_eq,decide_eq_false_iff_not] at h';rcases A0F.mp hy with rfl|hy
   . exact h'.1
   have ih:=Jl x r h'.2 y hy;exact A2U.mpr (List.le_trans (A2U.mp h'.1) (A2U.mp ih))
theorem J8 {x:Str}{r:List Str}(h:sortedS (x :: r)=true):sortedS r=true:=by
 cases r with
 |nil=>rfl
 |cons y r=>have h':(!ltCps y.cps.toList x.cps.toList&&risingS y r)=true:=h;rw[A1L] at h';exact h'.2
theorem Nb:∀ {a b:List Str},a.Perm b->sortedS a=true->sortedS b=true->a=b
 | [],b,p,_,_=>(List.nil_perm.mp p).symm
 |x :: a,[],p,_,_=>absurd p.length_eq (by simp)
 |x :: a,y :: b,p,ha,hb=>by
   have hxy:x=y:=by
    have h1:x=y\/x∈b:=by simpa using p.mem_iff.mp List.mem_cons_self
    have h2:y=x\/y∈a:=by simpa using p.symm.mem_iff.mp List.mem_cons_self
    rcases h1 with e|h1
    . exact e
    rcases h2 with e|h2
    . exact e.symm
    have q1:=Jl x a ha y h2;have q2:=Jl y b hb x h1;exact Str.ext' (Array.toList_inj.mp (List.le_antisymm (A2U.mp q1) (A2U.mp q2)))
   subst hxy;rw[Nb (List.Perm.cons_inv p) (J8 ha) (J8 hb)]
section
variable {α:Type}[DecidableEq α]
def Dr:List α->(α->Bool)->Nat
 | [],_=>0
 |x :: xs,p=>(p x).toNat+2*Dr xs p
def Et:List α->α->Nat
 | [],_=>0
 |y :: ys,x=>if x=y then 1 else 2*Et ys x
theorem Mp {p q:α->Bool}:∀ {ns:List α},(∀ x∈ns,p x=q x)->Dr ns p=Dr ns q
 | [],_=>rfl
 |x :: xs,h=>by unfold Dr;rw[h x (by simp),Mp (ns:=xs) λy hy=>h y (by simp[hy])]
theorem a46 {a b:Bool} {m n:Nat} (h:a.toNat+2*m=b.toNat+2*n):a=b/\m=n:=by cases a<;>cases b<;>simp[Bool.toNat] at h ⊢ <;> omega
theorem Ks {p q:α->Bool}:∀ {ns:List α},Dr ns p=Dr ns q->∀ x∈ns,p x=q x
 | [],_,x,hx=>by cases hx
 |y :: ys,h,x,hx=>by
   unfold Dr at h;obtain⟨h1,h2⟩:=a46 h;rcases A0F.mp hx with rfl|hx
   . exact h1
   exact Ks h2 x hx
theorem a66 (a b:Bool)(m n:Nat):(a.toNat+2*m) &&& (b.toNat+2*n)=(a&&b).toNat+2*(m &&& n):=by
 apply Nat.eq_of_testBit_eq;intro i;rw [Nat.testBit_and]
 cases i with
 |zero=>cases a<;>cases b<;>simp[Nat.testBit_zero,Bool.toNat]<;>omega
 |succ i=>
   rw[Nat.testBit_succ,Nat.testBit_succ,Nat.testBit_succ];have e:∀(c:Bool) (k:Nat),(c.toNat+2*k) / 2=k:=λc k=>by cases c<;>simp[Bool.toNat]<;>omega
   rw[e,e,e,Nat.testBit_and]
theorem Vd (p q:α->Bool):∀ ns:List α,Dr ns p &&& Dr ns q=Dr ns (λx=>p x&&q x)
 | []=>by simp[Dr]
 |x :: xs=>by unfold Dr;rw[a66,Vd p q xs]
theorem binM_zero {p:α->Bool}:∀ {ns:List α},Dr ns p=0↔∀ x∈ns,p x=false
 | []=>by simp[Dr]
 |x :: xs=>by
   unfold Dr;have:=binM_zero (p:=p) (ns:=xs);constructor
   . intro h y hy;have h1:(p x).toNat=0:=by omega
     have h2:Dr xs p=0:=by omega
     rcases A0F.mp hy with rfl|hy
     . cases e:p y with
       |false=>rfl
       |true=>rw[e] at h1;cases h1
     exact this.mp h2 y hy
   intro h;rw[h x (by simp),this.mpr λy hy=>h y (by simp[hy])];rfl
theorem Tj (p:α->Bool):∀ ns:List α,Dr ns p<2 ^ ns.length
 | []=>by simp[Dr]
 |x :: xs=>by
   have:=Tj p xs;unfold Dr;rw[A0W,Nat.pow_succ];have:(p x).toNat<=1:=by cases p x<;>simp[Bool.toNat]
   omega
theorem Zn:∀ {ns:List α},ns.Nodup->∀ {x:α},x∈ns->Et ns x=Dr ns (λy=>decide (y=x))
 | [],_,x,h=>by cases h
 |y :: ys,hn,x,h=>by
   obtain⟨h1,h2⟩:=A0O.mp hn;unfold Et Dr
   by_cases e:x=y
   . subst e;rw[A0Y rfl,(binM_zero (p:=λy=>decide (y=x)) (ns:=ys)).mpr λz hz=>A0R λq=>h1 (by rw[<- q];exact hz)];simp[Bool.toNat]
   rw[A0P e,Zn h2 ((A0F.mp h).resolve_left e)];have:decide (y=x)=false:=A0R λq=>e q.symm;show _=(decide (y=x)).toNat+_;rw[this];simp[Bool.toNat]
theorem Om (f:α->Nat):∀ l:List α,(l.map λx=>2*f x).sum=2*(l.map f).sum
 | []=>rfl
 |x :: xs=>by simp[Om f xs,Nat.mul_add]
theorem Kw (p:α->Bool):∀ {ns:List α},ns.Nodup->((ns.filter p).map (Et ns)).sum=Dr ns p
 | [],_=>rfl
 |y :: ys,hn=>by
   obtain⟨h1,h2⟩:=A0O.mp hn
   have e:(ys.filter p).map (Et (y :: ys))=(ys.filter p).map λx=>2*Et ys x:=by
    apply A1J;intro x hx;have:x≠y:=λq=>h1 (q ▸ (A15.mp hx).1);show(if x=y then 1 else 2*Et ys x)=_
    rw [A0P this]
   unfold Dr;rw[A23]
   cases hp:p y with
   |true=>
     rw[A0Y rfl,A0I,A2A,e,Om,Kw p h2];show(if y=y then 1 else _)+_=_
     rw[A0Y rfl];rfl
   |false=>rw[A0P nofun,e,Om,Kw p h2];simp[Bool.toNat]
theorem Tk {p:α->Bool}:∀ {ns:List α},ns.Nodup->∀ {x:α},x∈ns->p x=true->Dr ns p=Dr ns (λy=>p y && !decide (y=x))+Et ns x
 | [],_,x,h,_=>by cases h
 |y :: ys,hn,x,h,hp=>by
   obtain⟨h1,h2⟩:=A0O.mp hn;unfold Et Dr
   by_cases e:x=y
   . subst e;rw[A0Y rfl,hp,Mp (ns:=ys) (p:=λy=>p y && !decide (y=x)) (q:=p) λz hz=>?_]
     . simp[Bool.toNat];omega
     have:decide (z=x)=false:=A0R λq=>h1 (q ▸ hz);simp[this]
   rw[A0P e,Tk h2 ((A0F.mp h).resolve_left e) hp];have:decide (y=x)=false:=A0R λq=>e q.symm;show _=((p y && !decide (y=x)).toNat+_)+_;rw[this];simp;omega
def frF (b:α->α->Bool)(L:List α):List α:=L.filter λx=>!(L.any λy=>b y x)
def B0 (L:List α)(x:α):List α:=L.filter λy=>!decide (y=x)
def ext (b:α->α->Bool):Nat->List α->List (List α)
 |0,_=>[[]]
 |n+1,L=>(frF b L).flatMap λx=>(ext b n (B0 L x)).map (x :: ·)
def cnt (b:α->α->Bool)(L:List α):Nat:=(ext b L.length L).length
theorem cnt_nil (b:α->α->Bool):cnt b []=1:=rfl
theorem mem_frF {b:α->α->Bool}{L:List α}{x:α}:x∈frF b L↔x∈L/\∀ y∈L,b y x=false:=by
 unfold frF;rw[A15];constructor
 . rintro ⟨h1,h2⟩;refine⟨h1,λy hy=>?_⟩
   cases e:b y x with
   |false=>rfl
   |true=>
     have:(L.any λy=>b y x)=true:=A2F.mpr ⟨y,hy,e⟩;rw[this] at h2
     cases h2
 rintro⟨h1,h2⟩;refine⟨h1,?_⟩
 have:(L.any λy=>b y x)=false:=by
  rw[Bool.eq_false_iff];intro h;obtain⟨y,hy,e⟩:=A2F.mp h;rw[h2 y hy] at e
  cases e
 rw[this];rfl
theorem mem_lessF {L:List α}{x y:α}:y∈B0 L x↔y∈L/\y≠x:=by unfold B0;rw[A15];simp
theorem Br {L:List α}(h:L.Nodup)(x:α):(B0 L x).Nodup:=A5J (A45) h
theorem Tu:∀ {L:List α} {x:α},x∉L->B0 L x=L:=fun {L x} h=>by unfold B0;rw[A5G];intro y hy;have:y≠x:=λq=>h (q ▸ hy);simp[this]
theorem Bz:∀ {L:List α} {x:α},L.Nodup->x∈L->(B0 L x).length+1=L.length
 | [],_,_,h=>by cases h
 |y :: ys,x,hn,h=>by
   obtain⟨h1,h2⟩:=A0O.mp hn
   by_cases e:y=x
   . subst e;have:B0 (y :: ys) y=B0 ys y:=by unfold B0;rw[List.filter_cons,if_neg (by simp)]
     rw[this,Tu h1];rfl
   have:B0 (y :: ys) x=y :: B0 ys x:=by unfold B0;rw[List.filter_cons,if_pos (by simp[e])]
   rw[this,A0W,Bz h2 ((A0F.mp h).resolve_left λq=>e q.symm)];rfl
theorem Ln {b:α->α->Bool} {L:List α} (hn:L.Nodup) (hne:L≠[]):cnt b L=((frF b L).map λx=>cnt b (B0 L x)).sum:=by
 unfold cnt
 cases hl:L.length with
 |zero=>exact absurd (A0D.mp hl) hne
 |succ n=>
   show((frF b L).flatMap λx=>(ext b n (B0 L x)).map (x :: ·)).length=_;rw[List.length_flatMap];congr 1;apply A1J;intro x hx;have:=Bz hn (mem_frF.mp hx).1;have e:(B0 L x).length=n:=by omega
   rw[A00,e]
def Ft (ns row:List α):List α:=ns.filter λx=>!decide (x∈row)
def Fu (b:α->α->Bool)(ns:List α)(rows:List (List α)):List (List α):=rows.flatMap λrow=>(frF b (Ft ns row)).map λx=>row++[x]
def Fs (b:α->α->Bool)(ns:List α):Nat->List (List α)->List (List α)
 |0,r=>r
 |k+1,r=>Fs b ns k (Fu b ns r)
theorem Ix (b:α->α->Bool)(ns:List α):∀(k:Nat) (r:List (List α)),Fs b ns (k+1) r=Fu b ns (Fs b ns k r)
 |0,r=>rfl
 |k+1,r=>Ix b ns k (Fu b ns r)
theorem Kj (b:α->α->Bool)(ns:List α):∀(k:Nat) (r t:List (List α)),Fs b ns k (r++t)=Fs b ns k r++Fs b ns k t
 |0,r,t=>rfl
 |k+1,r,t=>by
   show Fs b ns k (Fu b ns (r++t))=_;have:Fu b ns (r++t)=Fu b ns r++Fu b ns t:=by unfold Fu;rw[List.flatMap_append]
   rw[this,Kj b ns k];rfl
theorem Rr (b:α->α->Bool)(ns:List α):∀ k:Nat,Fs b ns k []=[]
 |0=>rfl
 |k+1=>Rr b ns k
theorem Rh (b:α->α->Bool)(ns:List α)(k:Nat)(f:α->List α):∀ l:List α,Fs b ns k (l.map f)=l.flatMap λx=>Fs b ns k [f x]
 | []=>Rr b ns k
 |x :: xs=>by rw[A0I,List.flatMap_cons,<- Rh b ns k f xs,<- Kj];rfl
theorem Wp (ns row:List α)(x:α):Ft ns (row++[x])=B0 (Ft ns row) x:=by
 unfold Ft B0;rw[A5K];apply A2L;intro y _
 by_cases h:y∈row<;>by_cases e:y=x<;>simp[h,e]
theorem Tq (b:α->α->Bool)(ns:List α):∀(k:Nat) (row:List α),Fs b ns k [row]=(ext b k (Ft ns row)).map (row ++ ·)
 |0,row=>by simp[Fs,ext]
 |k+1,row=>by
   show Fs b ns k (Fu b ns [row])=_;have e:Fu b ns [row]=(frF b (Ft ns row)).map λx=>row++[x]:=by unfold Fu;simp
   rw[e,Rh];show _=((frF b (Ft ns row)).flatMap λx=>(ext b k (B0 (Ft ns row) x)).map (x :: ·)).map (row ++ ·);rw[List.map_flatMap];congr 1;funext x;rw[Tq b ns k,Wp,A1P];congr 1;funext r;simp
theorem Zz (ns:List α):Ft ns []=ns:=by unfold Ft;rw[A5G];simp
def fac:Nat->Nat
 |0=>1
 |n+1=>fac n*(n+1)
theorem R3 {f g:α->Nat}:∀ {l:List α},(∀ x∈l,f x<=g x)->(l.map f).sum<=(l.map g).sum
 | [],_=>A05 _
 |x :: xs,h=>by have h1:=h x (by simp);have h2:=R3 (l:=xs) (f:=f) (g:=g) λy hy=>h y (by simp[hy]);simp;omega
theorem J3 {p q:α->Bool}:∀ {l:List α},(∀ a∈l,p a=true->q a=true)->(∃ z∈l,q z=true/\p z=false)->(l.filter p).length<(l.filter q).length
 | [],_,h=>by obtain⟨z,hz,_⟩:=h;cases hz
 |y :: ys,h,hz=>by
   have le:∀ l:List α,(∀ a∈l,p a=true->q a=true)->(l.filter p).length<=(l.filter q).length:=by
    intro l
    induction l with
    |nil=>intro _;exact A05 _
    |cons a l ih=>
      intro h;have:=ih λa ha=>h a (by simp[ha]);rw[A23,A23]
      cases c:p a with
      |true=>rw[if_pos rfl,if_pos (h a (by simp) c)];simpa using this
      |false=>
        rw[if_neg (by simp)]
        split
        . simp;omega
        exact this
   rw[A23,A23];obtain⟨z,hz,hq,hp⟩:=hz;rcases A0F.mp hz with rfl|hz
   . rw[hp,if_neg (by simp),if_pos hq,List.length_cons];have:=le ys λa ha=>h a (by simp[ha]);omega
   have ih:=J3 (l:=ys) (λa ha=>h a (by simp[ha])) ⟨z,hz,hq,hp⟩
   cases c:p y with
   |true=>rw[if_pos rfl,if_pos (h y (by simp) c)];simpa using ih
   |false=>
     rw[if_neg (by simp)]
     split
     . simp;omega
     exact ih
theorem Zy {b:α->α->Bool}(irr:∀ x,b x x=false)(tr:∀ x y z,b x y=true->b y z=true->b x z=true){L:List α}:∀(m:Nat) (y:α),y∈L->(L.filter λz=>b z y).length<=m->∃ x∈frF b L,x=y\/b x y=true
 |m,y,hy,hm=>by
   by_cases c:∃ z∈L,b z y=true
   . obtain ⟨z,hz,hzy⟩:=c;have lt:(L.filter λa=>b a z).length<(L.filter λa=>b a y).length:=J3 (λa _ h=>tr a z y h hzy) ⟨z,hz,hzy,irr z⟩
     cases m with
     |zero=>omega
     |succ m=>
       obtain⟨x,hx,h⟩:=Zy irr tr m z hz ∅;refine⟨x,hx,.inr ?_⟩;rcases h with rfl|h
       . exact hzy
       exact tr x z y h hzy
   refine⟨y,mem_frF.mpr ⟨hy,λz hz=>?_⟩,.inl rfl⟩
   cases e:b z y with
   |false=>rfl
   |true=>exact absurd ⟨z,hz,e⟩ c
theorem Y5 {b:α->α->Bool} {L:List α} (h:L.Nodup):(frF b L).Nodup:=A5J A45 h
theorem ax2 {b:α->α->Bool}(irr:∀ x,b x x=false)(tr:∀ x y z,b x y=true->b y z=true->b x z=true){L:List α}(h:L≠[]):frF b L≠[]:=by
 cases L with
 |nil=>exact absurd rfl h
 |cons y ys=>
   obtain⟨x,hx,_⟩:=Zy irr tr (L:=y :: ys) _ y (by simp) (Nat.le_refl _);intro e;rw[e] at hx
   cases hx
theorem X6 {f g:α->Nat}{l:List α}(h:∀ x∈l,f x=g x):(l.map f).sum=(l.map g).sum:=by rw[A1J h]
end
def Mtd (P:Program)(w:World)(K:W.Frag)(mg:Str->Option Value)(base:Heap)(k:Nat)(C:Addr)(m:Str)(ps:List Str)(sp:Sp):Prop:=
 ∃ f fd,FnOk P w K mg base CX0 k f fd ps sp/\ay6 K C m f/\Binds K fd ps []
def Mkd (P:Program)(w:World)(K:W.Frag)(mg:Str->Option Value)(base:Heap)(k:Nat)(C:Addr)(x:Str)(ps:List Str)(sp:Sp):Prop:=
 ∃ f fd,FnOk P w K mg base CX0 k f fd ps sp/\Mk K C f/\mg x=some (.ref C)/\Binds K fd ps []
theorem FnOk.void {P:Program}{w:World}{K:W.Frag}{mg:Str->Option Value}{base:Heap}{CX:CXT}{k:Nat}{f:Addr}{fd:FuncData}{ps:List Str}{sp:Sp}(h:∀ vs H Q E,¬ sp vs H Q E):FnOk P w K mg base CX k f fd ps sp:=
 ⟨λvs H Q E q=>absurd q (h vs H Q E),λA outer s H args us vs Q E _ _ _ _ hs=>absurd hs (h vs H Q E)⟩
def rAt (f:Str)(C:Addr):V->Hp->VK->Prop:=λx H Q=>∃ a dx fs v,x = .ref a/\H a=some (.ins C dx fs)/\fs.lookup f=some v/\Q v H
def tAt (f:Str)(C:Addr)(ta:TE):TE:=fun σ H Q=>ta σ H λx H1=>rAt f C x H1 Q
def rSt (f:Str)(C:Addr)(y:V):V->Hp->(Hp->Prop)->Prop:=λx H R=>∃ a dx fs,x = .ref a/\H a=some (.ins C dx fs)/\fs.length<1000/\R (upd H a (.ins C dx (M0 f y fs)))
def sSt (f:Str)(C:Addr)(ta tv:TE):TS:=λD σ H=>tv σ H λy H1=>ta σ H1 λx H2=>rSt f C y x H2 λH3=>D.nx σ H3
def rMe (m:Str)(C:Addr)(sp:Sp)(t:TA)(σ:St):V->Hp->VK->Prop:=λx H Q=>∃ a dx fs,x = .ref a/\H a=some (.ins C dx fs)/\fs.lookup m=none/\t σ H λvs H2=>sp (x :: (vs++[])) H2 Q E0
def tMe (m:Str)(C:Addr)(sp:Sp)(ta:TE)(t:TA):TE:=fun σ H Q=>ta σ H λx H1=>rMe m C sp t σ x H1 Q
def rMk (C:Addr)(sp:Sp):List V->Hp->VK->Prop:=λvs H1 Q=>∀ x dx,H1 x=none->H1 dx=none->dx≠x ->
 sp (.ref x :: (vs++[])) (upd (upd H1 dx (.own x)) x (.ins C dx [])) (λv H2=>v = .non/\Q (.ref x) H2) E0
def tMk (C:Addr)(sp:Sp)(t:TA):TE:=fun σ H Q=>t σ H λvs H1=>rMk C sp vs H1 Q
def aE1 (ta:TE):TT:=fun σ H Q=>ta σ H λx H1=>∃ i:Int,x = .int i/\Q (i != 0) H1
section
variable {X:Cx}{K:W.Frag}{k:Nat}{C:Addr}{f x m:Str}{ps:List Str}{sp:Sp}{e o value:Expr}{es:List Expr}{ta tv:TE}{t:TA}{p pos pos' apos:Pos}
theorem Kl (he:PE X e ta)(c:Cls X.K C)(n:NoAttr X.K C f)(hb:attributeBase e f X.env (eval e X.env)=eval e X.env):PE X (.Attribute e f pos) (tAt f C ta):=by
 intro pins s σ H Q I h;refine ag3 hb (thn (he pins s σ H _ I h) ?_);rintro u s1 ⟨x,H1,I1,rx,a,dx,fs,v,rfl,ea,l,q⟩
 cases rx;exact X0 I1 ea c n l λu' s2 I2 ru=>⟨v,H1,I2,ru,q⟩
theorem Xh (ha:PE X o ta)(hv:PE X value tv)(c:Cls X.K C)(n:NoAttr X.K C f)(hs:swapsWith value (some (.Attribute o f pos')) pos.line X.env=pure false):PS X (.Assign [.Attribute o f pos'] value pos) (sSt f C ta tv):=by
 intro pins s σ H D I h;refine plainObj_wpAny_Assign_Attribute (thn (hv pins s σ H _ I h) ?_) hs;rintro u s1 ⟨y,H1,I1,ry,q⟩;refine thn (ha pins s1 σ H1 _ I1 q) ?_;rintro ov s2 ⟨x,H2,I2,rx,a,dx,fs,rfl,ea,l,q2⟩
 cases rx;exact Wv I2 ea c n l ry λs3 I3=>⟨σ,_,I3,q2⟩
theorem a75 {pl:Sem Bool}(he:PE X o ta)(c:Cls X.K C)(F:Mtd X.prog X.w X.K X.mg X.base k C m ps sp)(hr:Room k X.A)(ha:PA X (e :: es) t)
  (hst:starEach (e :: es) X.env=(false,eval e X.env) :: starEach es X.env:=by ac_nf) (hpl:(backTo pos (starEach es X.env)).any (·.1)=false:=by ac_nf)
  (ht:eval (.Call (.Attribute o m apos) (e :: es) [] pos) X.env=(do
   let ov <- eval o X.env
   standAt apos.atName
   let (f,first) <- holding [ov] (getMethod ov m pl)
   callWith pos f first (backTo pos (starEach (e :: es) X.env)) (backToKw pos (keywordEach [] X.env))):=by ac_nf) :
  PE X (.Call (.Attribute o m apos) (e :: es) [] pos) (tMe m C sp ta t):=by
 obtain⟨f,fd,h1,h2,h3⟩:=F;exact ah2 (pl:=pl) he c h2 h1 hr h3 .nil af9 ha hst hpl ht
theorem aB1 (F:Mkd X.prog X.w X.K X.mg X.base k C x ps sp)(hr:Room (k+1) X.A)(hg:Gl X x)(ha:PA X (e :: es) t)(hdb:(x==("__debug__":Str))=false:=by decide)
  (he:starEach (e :: es) X.env=(false,eval e X.env) :: starEach es X.env:=by ac_nf) (hpl:(backTo pos (starEach es X.env)).any (·.1)=false:=by ac_nf) :
  PE X (.Call (.Name x p) (e :: es) [] pos) (tMk C sp t):=by
 obtain⟨f,fd,h1,h2,h3,h4⟩:=F;exact ag0 h2 h1 hr hg h3 h4 .nil af9 ha hdb he hpl
theorem aa8 (ha:PE X e ta)(he:∀ whole,isTrue e X.env whole=(do let v <- whole;standAt e.pos;holding [v] (truthy v)):=by intro _;ac_nf):PT X e (aE1 ta):=by intro pins s σ H Q I h;refine isTrue_plain (thn (ha pins s σ H _ I h) ?_) (he _);rintro v s1 ⟨x,H1,I1,r1,i,rfl,q1⟩;exact ap0 pins s1 σ H1 _ v Q I1 r1 ⟨_,rfl,q1⟩
end
section
variable {K:W.Frag}{C:Addr}{f m:Str}{sp:Sp}{ta tv:TE}{t:TA}{σ:St}{H:Hp}{Q:VK}{D:Ov}
theorem i_tAt (k:ta σ H λx H1=>rAt f C x H1 Q):tAt f C ta σ H Q:=k
theorem Wq {a dx:Addr}{fs:List (Str×V)}{v:V}(h:H a=some (.ins C dx fs))(l:fs.lookup f=some v)(k:Q v H):rAt f C (.ref a) H Q:=⟨a,dx,fs,v,rfl,h,l,k⟩
theorem i_sSt (k:tv σ H λy H1=>ta σ H1 λx H2=>rSt f C y x H2 λH3=>D.nx σ H3):sSt f C ta tv D σ H:=k
theorem ax1 {a dx:Addr}{fs:List (Str×V)}{y:V}{R:Hp->Prop}(h:H a=some (.ins C dx fs))(hl:fs.length<1000)(k:∀ H',ExtBut a H H'->H' a=some (.ins C dx (M0 f y fs))->R H'):rSt f C y (.ref a) H R:=
 ⟨a,dx,fs,rfl,h,hl,k _ ExtBut.upd A8⟩
theorem i_tMe (k:ta σ H λx H1=>rMe m C sp t σ x H1 Q):tMe m C sp ta t σ H Q:=k
theorem ay8 {a dx:Addr}{fs:List (Str×V)}(h:H a=some (.ins C dx fs))(l:fs.lookup m=none)(k:t σ H λvs H2=>sp (.ref a :: (vs++[])) H2 Q E0):rMe m C sp t σ (.ref a) H Q:=⟨a,dx,fs,rfl,h,l,k⟩
theorem i_tMk (k:t σ H λvs H1=>rMk C sp vs H1 Q):tMk C sp t σ H Q:=k
theorem i_mk {vs:List V}(k:∀ x dx H2,H x=none->Same H H2->H2 x=some (.ins C dx [])->sp (.ref x :: (vs++[])) H2 (λv H3=>v = .non/\Q (.ref x) H3) E0):rMk C sp vs H Q:=λx dx hx hd hne=>k x dx _ hx (λb o e=>by rw[B9 (ne_of_none e hx),B9 (ne_of_none e hd)];exact e) A8
theorem i_tTru {R:Bool->Hp->Prop}(k:ta σ H λx H1=>∃ i:Int,x = .int i/\R (i != 0) H1):aE1 ta σ H R:=k
theorem ai1 {a:Addr}{kvs:List (Key×V)}{z:Int}{v:V}{R:Hp->Prop}(h:H a=some (.dK kvs))(hl:kvs.length<=1000000)(k:∀ H',ExtBut a H H'->H' a=some (.dK (Eb kvs (Sum.inl z) v))->R H'):∃ b H4,V.ref a = .ref b/\DPut H b (.int z) v H4/\R H4:=
 ⟨a,_,rfl,DPut.k (k:=Sum.inl z) h (by rw[A1B];omega),k _ ExtBut.upd A8⟩
theorem ad1 {a:Addr}{kvs:List (Key×V)}{z:Int}{v:V}(h:H a=some (.dK kvs))(e:Dg kvs (Sum.inl z:Key)=some v)(k:Q v H):Ux K (.ref a) (.int z) H Q:=.inr ⟨a,v,rfl,by rw[<- e];exact DGet.k (k:=Sum.inl z) h,k⟩
theorem ae1 {a:Addr}{kvs:List (Key×V)}{z:Int}(h:H a=some (.dK kvs))(k:Q (.bl (Dg kvs (Sum.inl z:Key)).isNone) H):X5 K true (.int z) (.ref a) H Q:=by
 refine .inr (.inr (.inl ⟨a,Dg kvs (Sum.inl z:Key),rfl,DGet.k (k:=Sum.inl z) h,?_⟩))
 cases e:Dg kvs (Sum.inl z:Key) with
 |none=>rw[e] at k;exact k
 |some v=>rw[e] at k;exact k
end
def am3 (d v:Addr):HO:=.ext λh=>h.IsValuesView v d
def an4:V->List V->Hp->VK->Prop:=λx vs H Q=>∃ d kvs,x = .ref d/\vs=[]/\H d=some (.dK kvs)/\∀ v,H v=none->Q (.ref v) (upd H v (am3 d v))
def ao7:List V->Hp->VK->Prop:=λxs H Q=>∃(v d:Addr) (kvs:List (Key×V)) (ns:List Int),xs=[.ref v]/\H v=some (am3 d v)/\H d=some (.dK kvs)/\kvs.map (·.2)=ns.map V.int/\(∀ n∈ns,0<=n/\n<=1000000000000)/\ns.length<=1000000/\Q (.int ns.sum) H
section
variable {X:Cx}{K:W.Frag}
theorem Xw:MtM X "dict.values" an4:=by
 intro pins s σ H x vs v us Q I rx rv h;obtain⟨d,kvs,rfl,rfl,hD,q⟩:=h
 cases rx
 cases rv;obtain⟨z1,hd1,vs1,rel1,dd1⟩:=T8 I.hok hD;refine A4A F.slot_dict_values dd1.typeIs F.entry_dict_values (F.args_dict_values_1 _) (meets_dict_values (Ax X.prog X.w) d hd1) ⟨⟨vs1,dd1⟩,?_⟩;refine ⟨.ref s.heap.objs.size,upd H s.heap.objs.size (am3 d s.heap.objs.size),I.laid (t':=s.toks) (λb u e=>A06 _ e) (A05 _) ⟨⟨_,A0Z _ rfl,rfl,rfl⟩,⟨_,A0Z _ rfl⟩,λh1 h2 ⟨o,e,r⟩ hk=>⟨o,hk o e,r⟩⟩,rfl,q _ (I.hok.fresh (A05 _))⟩
theorem Rj {α β:Type}{F:α->β->Prop}{l₁:List α}{l₂:List β}(h:Paired F l₁ l₂):∀ {i:Nat} {a:α},l₁[i]? = some a->∃ b,l₂[i]? = some b/\F a b:=by
 induction h with
 |nil=>intro i a e;cases e
 |cons r _ ih=>
   intro i a e
   cases i with
   |zero=>cases e;exact⟨_,rfl,r⟩
   |succ i=>exact ih e
theorem ah0 {ns:List Int}{kvs:List (Key×V)}{vs:List (Key×Value)}(rel:KV kvs vs)(h:kvs.map (·.2)=ns.map V.int){i:Nat}{k:Key}{u:Value}(hx:vs[i]? = some (k,u)):∃ t,u = .int (ns.getD i 0) t:=by
 have hl:kvs.length=vs.length:=rel.length;have hn:kvs.length=ns.length:=by have:=congrArg List.length h;rwa[A00,A00] at this
 have hi:i<vs.length:=(A01.mp hx).1;have hk:kvs[i]? = some kvs[i]:=A04 ∅;obtain⟨q,hq,r⟩:=Rj rel hk;rw[hx] at hq
 cases hq;have e:(kvs.map (·.2))[i]? = some kvs[i].2:=by rw[A07,hk];rfl
 rw[h,A07,Jn (y:=0) (by omega:i<ns.length)] at e;have e2:V.int (ns.getD i 0)=kvs[i].2:=A1I e;have r2:=r.2;rw[<- e2] at r2;exact r2
theorem Zj (hc:X.calm=true):CallR X (.builtin "sum") ao7:=by
 intro pins s σ H xs us Q I r h;obtain⟨v,d,kvs,ns,rfl,hv,hd,hns,hb,hz,q⟩:=h;obtain⟨u,rfl,ru⟩:=J9 r
 cases ru
 have fits:∀ j,j<ns.length->InLong (ns.getD j 0)/\InLong (preSum (λi=>ns.getD i 0) (j+1)):=λj hj=>by have h1:=hb _ (A03 (Jn (y:=0) hj));have h2:=L7 (ns:=ns.take (j+1)) λn hn=>hb n (A1E hn);rw[Fg ns (j+1) hj];rw[A0J] at h2;unfold InLong;omega
 have last:preSum (λi=>ns.getD i 0) ns.length=ns.sum:=by rw[Fg ns _ (A05 _),A0Q]
 obtain⟨_,hs,vs,rel,dd⟩:=T8 I.hok hd;obtain⟨ep,hat⟩:=dd.dictAt;have vv:s.heap.IsValuesView v d:=(show ObjOk X.prog X.w H s.heap v (am3 d v) from I.hok v _ hv).1;have hlt:d<s.heap.objs.size:=I.hok.lt hd
 have hn:vs.length=ns.length:=by have:=congrArg List.length hns;rw[A00,A00] at this;have:=rel.length;omega
 refine call_sum_walk ?_;obtain⟨oI,St,hit,W,st⟩:=(PySem.W.kdl_values (knd:=Ax X.prog X.w) (r:=v) (d:=d) (kvs:=vs) (ep:=ep)).iter X.A.in1 s (by simpa using I.ok.hd hc) ⟨vv,hat⟩;refine hit _ _ ?_;refine⟨s.heap.objs.size,_,_,_,_,_,λi=>ns.getD i 0,rfl,W,st,?_,?_,by rw[hn];exact fits,?_⟩
 . intro b hb';rw[A35];simp only[List.mem_cons,List.not_mem_nil,or_false] at hb';rcases hb' with rfl|rfl
   . exact A3W _
   exact A3F hlt
 . rintro i u ⟨k,hx⟩;exact ah0 rel hns hx
 intro h' tk t' hk;refine⟨.int ns.sum,H,I.kept (t':=tk) ?_,⟨t',by rw[hn,last]⟩,q⟩;intro b o e;refine hk b o (λz=>?_) (A06 _ e);have:b=s.heap.objs.size:=by simpa using z
 subst this;exact absurd (A0N e) (A2Z _)
theorem at3 {d:Addr}{kvs:List (Key×V)}{H:Hp}{Q:VK}(h:H d=some (.dK kvs))(k:∀ v H',H v=none->Same H H'->H' v=some (am3 d v)->Q (.ref v) H'):an4 (.ref d) [] H Q:=⟨d,kvs,rfl,rfl,h,λv hv=>k v _ hv (Same.upd hv) A8⟩
theorem as1 {v d:Addr}{kvs:List (Key×V)}{ns:List Int}{H:Hp}{Q:VK}(hv:H v=some (am3 d v))(hd:H d=some (.dK kvs))(hns:kvs.map (·.2)=ns.map V.int)(hb:∀ n∈ns,0<=n/\n<=1000000000000)(hz:ns.length<=1000000)(k:Q (.int ns.sum) H):ao7 [.ref v] H Q:=
 ⟨v,d,kvs,ns,rfl,hv,hd,hns,hb,hz,k⟩
end
section
variable {X:Cx}
end
section
variable {α:Type}[DecidableEq α]
theorem ae3 (a b:Nat):Builtin.bitAnd (a:Int) (b:Int)=((a &&& b:Nat):Int):=by rw[bitAnd_pp (Int.natCast_nonneg _) (Int.natCast_nonneg _)];simp
theorem Xk (p q:α->Bool)(ns:List α):(Builtin.bitAnd (Dr ns p:Int) (Dr ns q:Int) != 0)=ns.any λx=>p x&&q x:=by
 rw[ae3,Vd]
 cases e:ns.any λx=>p x&&q x with
 |true=>
   obtain⟨x,hx,h⟩:=A2F.mp e
   have:Dr ns (λx=>p x&&q x)≠0:=λz=>by
    have:=binM_zero.mp z x hx;rw[this] at h
    cases h
   simp only[bne_iff_ne,ne_eq];omega
 |false=>
   have:Dr ns (λx=>p x&&q x)=0:=binM_zero.mpr λx hx=>by
    cases c:(p x&&q x) with
    |false=>rfl
    |true=>rw[A2F.mpr ⟨x,hx,c⟩] at e;cases e
   rw[this];rfl
theorem af3 {ns:List α} (hn:ns.Nodup) {x:α} (hx:x∈ns) (q:α->Bool):(Builtin.bitAnd (Et ns x:Int) (Dr ns q:Int) != 0)=q x:=by
 rw[Zn hn hx,Xk]
 cases c:q x with
 |true=>exact List.any_eq_true.mpr ⟨x,hx,by simp[c]⟩
 |false=>
   rw[Bool.eq_false_iff];intro h;obtain⟨y,_,hy⟩:=A2F.mp h;rw[A1L,decide_eq_true_iff] at hy;rw[hy.1,c] at hy
   cases hy.2
theorem Wa (ns:List α)(p q:α->Bool):(ns.any λx=>p x&&q x)=(ns.filter q).any p:=by
 induction ns with
 |nil=>rfl
 |cons y ys ih=>
   rw[A1V,ih,A23]
   cases c:q y with
   |true=>rw[A0Y rfl,A1V,Bool.and_true]
   |false=>rw[A0P nofun,Bool.and_false,A4M]
theorem Z7 (b:α->α->Bool)(ns:List α)(q:α->Bool):(ns.filter λx=>q x && !(ns.any λy=>b y x&&q y))=frF b (ns.filter q):=by unfold frF;rw[A5K];apply A2L;intro x _;rw[Wa,Bool.and_comm]
theorem Db (ns:List α)(q:α->Bool)(x:α):(ns.filter λy=>q y && !decide (y=x))=B0 (ns.filter q) x:=by unfold B0;rw[A5K];apply A2L;intro y _;rw[Bool.and_comm]
theorem Y1 {m n:Nat}(h:m<=n):fac m<=fac n:=by
 induction h with
 |refl=>exact A05 _
 |@step k _ ih=>exact A0C ih (Nat.le_mul_of_pos_right _ (Nat.succ_pos k))
theorem sum_const (c:Nat):∀ l:List α,(l.map λ_=>c).sum=l.length*c
 | []=>by simp
 |x :: xs=>by rw[A0I,A2A,sum_const c xs,A0W,Nat.add_mul,Nat.one_mul,Nat.add_comm]
theorem ac6 (b:α->α->Bool):∀(n:Nat) (L:List α),L.length=n->L.Nodup->cnt b L<=fac n
 |0,L,hl,_=>by have:=A0D.mp hl;subst this;exact A05 _
 |n+1,L,hl,hn=>by
   have hne:L≠[]:=by intro e;rw[e] at hl;cases hl
   rw[Ln hn hne]
   have h1:((frF b L).map λx=>cnt b (B0 L x)).sum<=((frF b L).map λ_=>fac n).sum:=R3 λx hx=>by have:=Bz hn (mem_frF.mp hx).1;exact ac6 b n (B0 L x) ∅ (Br hn x)
   rw[sum_const] at h1;refine A0C h1 ?_;show _<=fac n*(n+1);rw[A4X];refine Nat.mul_le_mul_left _ ?_;rw[<- hl];exact A1Q _ _
theorem Z9 {b:α->α->Bool}{L:List α}(hn:L.Nodup)(h:L.length<=10):cnt b L<=3628800:=A0C (ac6 b _ L rfl hn) (A0C (Y1 h) nofun)
end
def am2 (ns:List Str):List (Key×V):=ns.map λx=>((Sum.inr x:Key),V.int ((Et ns x:Nat):Int))
def ahK (ns:List Str)(ps:List (Str×Str)):List (Key×V):=ns.map λx=>((Sum.inr x:Key),V.int ((Dr ns (λy=>Ak ps y x):Nat):Int))
theorem K9 {f:Str->V}:∀ {ns:List Str} {x:Str},x∈ns->Dg (ns.map λx=>((Sum.inr x:Key),f x)) (Sum.inr x:Key)=some (f x)
 | [],x,h=>by cases h
 |y :: ys,x,h=>by
   rw[A0I]
   by_cases e:y=x
   . subst e;exact Bb rfl
   rw[Bd λq=>e (Sum.inr.inj q)];exact K9 ((A0F.mp h).resolve_left λq=>e q.symm)
theorem Hm {f:Str->V}:∀ {ns:List Str} {x:Str},x∉ns->Dg (ns.map λx=>((Sum.inr x:Key),f x)) (Sum.inr x:Key)=none
 | [],x,h=>rfl
 |y :: ys,x,h=>by rw[List.map_cons,Bd λq=>h (by rw[<- Sum.inr.inj q];simp)];exact Hm λq=>h (A0E _ q)
theorem Lx:∀ {ns:List Str} {i:Nat} {x:Str},ns.Nodup->ns[i]? = some x->Et ns x=2 ^ i
 | [],i,x,_,h=>by cases h
 |y :: ys,0,x,_,h=>by cases h;unfold Et;rw[A0Y rfl]
 |y :: ys,i+1,x,hn,h=>by obtain⟨h1,h2⟩:=A0O.mp hn;have hx:ys[i]? = some x:=h;unfold Et;rw[A0P λq=>h1 (by rw[<- q];exact A03 hx),Lx h2 hx,Nat.pow_succ,A4X]
theorem IsL.int_eq {K:W.Frag}{H:Hp}:∀ {ns:List Int} {vs:List V},IsL K H (ns.map PyData.int) vs->vs=ns.map V.int
 | [],vs,h=>by simp only[List.map_nil,IsL] at h;exact h
 |n :: ns,vs,h=>by simp only[List.map_cons,IsL,Is] at h;obtain⟨v,r,rfl,rfl,e3⟩:=h;rw[IsL.int_eq e3];rfl
theorem Ip {α:Type}(f:α->Nat):∀ l:List α,(l.map λx=>((f x:Nat):Int)).sum=(((l.map f).sum:Nat):Int)
 | []=>rfl
 |x :: xs=>by rw[A0I,A2A,Ip f xs,A0I,A2A];omega
theorem ExtBut.fzI {p:Addr}{H H':Hp}{C dx:Addr}{fs:List (Str×V)}(e:ExtBut p H H')(hp:H p=some (.ins C dx fs)):Fz H H':=Mr e λxs h=>by
 rcases h with h|⟨o,h⟩
 . rw[hp] at h;cases h
 rw[hp] at h;cases h
def Knw (ns:List Str) (ps:List (Str×Str)) (kvs:List (Key×V)):Prop:=(kvs.map (·.1)).Nodup /\
 (∀ kv∈kvs,∃ q:Str->Bool,kv.1=Sum.inl ((Dr ns q:Nat):Int)/\kv.2=V.int ((cnt (Ak ps) (ns.filter q):Nat):Int))/\Dg kvs (Sum.inl 0:Key)=some (.int 1)
theorem Vn {κ:Type}[DecidableEq κ]:∀ {kvs:List (κ×V)} {k:κ} {v:V},Dg kvs k=some v->(k,v)∈kvs
 | [],k,v,h=>by cases h
 |p :: r,k,v,h=>by
   by_cases e:p.1=k
   . rw[Bb e] at h
     cases h;rw[<- e];exact A0S
   rw[Bd e] at h;exact A0E _ (Vn h)
theorem Knw.get {ns:List Str}{ps:List (Str×Str)}{kvs:List (Key×V)}(h:Knw ns ps kvs){q:Str->Bool}{v:V}(e:Dg kvs (Sum.inl ((Dr ns q:Nat):Int):Key)=some v):v = .int ((cnt (Ak ps) (ns.filter q):Nat):Int):=by
 obtain⟨q',h1,h2⟩:=h.2.1 _ (Vn e)
 have h3:Dr ns q'=Dr ns q:=by have:=Sum.inl.inj h1;omega
 have h4:ns.filter q'=ns.filter q:=A2L λx hx=>Ks h3 x hx;rw[h4] at h2;exact h2
theorem Knw.len {ns:List Str}{ps:List (Str×Str)}{kvs:List (Key×V)}(h:Knw ns ps kvs)(hf:ns.length<=10):kvs.length<=1024:=by
 have:=Ey (ys:=(List.range 1024).map λi=>(Sum.inl ((i:Nat):Int):Key)) h.1 λk hk=>by obtain⟨kv,hkv,rfl⟩:=A0V.mp hk;obtain⟨q,h1,_⟩:=h.2.1 kv hkv;rw[h1];have h2:=Tj q ns;have h3:(2:Nat) ^ ns.length<=2 ^ 10:=A3Z nofun hf;exact A0V.mpr ⟨Dr ns q,A21.mpr ∅,rfl⟩
 rwa [A00,A00,A1D] at this
theorem Knw.put {ns:List Str}{ps:List (Str×Str)}{kvs:List (Key×V)}(h:Knw ns ps kvs)(q:Str->Bool) :
  Knw ns ps (Eb kvs (Sum.inl ((Dr ns q:Nat):Int)) (.int ((cnt (Ak ps) (ns.filter q):Nat):Int))):=by
 cases e:Dg kvs (Sum.inl ((Dr ns q:Nat):Int):Key) with
 |some v=>
   have hp:Eb kvs (Sum.inl ((Dr ns q:Nat):Int):Key) (.int ((cnt (Ak ps) (ns.filter q):Nat):Int))=kvs:=by
    unfold Eb;rw[Fy,e,A0Y (show(some v).isSome=true from rfl)]
    conv=>rhs;rw[<- List.map_id kvs]
    apply A1J;intro kv hkv
    by_cases c:kv.1=Sum.inl ((Dr ns q:Nat):Int)
    . rw[A0Y c];obtain⟨q',h1,h2⟩:=h.2.1 kv hkv;rw[h1] at c
      have h3:Dr ns q'=Dr ns q:=by have:=Sum.inl.inj c;omega
      have h4:ns.filter q'=ns.filter q:=A2L λx hx=>Ks h3 x hx;rw[<- h4,<- h2];rfl
    rw[A0P c];rfl
   rw[hp];exact h
 |none=>
   refine⟨al9 _ h.1 e,λkv hkv=>?_,?_⟩
   . rw[Jd _ e] at hkv;rcases A0B.mp hkv with hkv|hkv
     . exact h.2.1 kv hkv
     have:kv=(Sum.inl ((Dr ns q:Nat):Int),V.int ((cnt (Ak ps) (ns.filter q):Nat):Int)):=by simpa using hkv
     subst this;exact⟨q,rfl,rfl⟩
   rw[Ky]
   by_cases c:(Sum.inl 0:Key)=Sum.inl ((Dr ns q:Nat):Int)
   . rw[<- c,h.2.2] at e
     cases e
   rw[A0P c];exact h.2.2
theorem Knw.new (ns:List Str)(ps:List (Str×Str)):Knw ns ps [(Sum.inl 0,V.int 1)]:=by
 refine⟨by simp,λkv hkv=>?_,Bb rfl⟩;have:kv=(Sum.inl 0,V.int 1):=by simpa using hkv
 subst this;refine⟨λ_=>false,?_,?_⟩
 . rw[binM_zero.mpr λ_ _=>rfl];rfl
 have:ns.filter (λ_=>false)=[]:=by simp
 rw[this,cnt_nil];rfl
structure WaysAt (K:W.Frag)(C:Addr)(H:Hp)(p dx:Addr)(nv:V)(bd ad kd:Addr)(ns:List Str)(ps:List (Str×Str))(kvs:List (Key×V)):Prop where
 ob:H p=some (.ins C dx [("names",nv),("bits",.ref bd),("ahead",.ref ad),("full",.int ((Dr ns (λ_=>true):Nat):Int)),("known",.ref kd)])
 nm:Is K H (nmD ns) nv
 bt:H bd=some (.dK (am2 ns))
 ah:H ad=some (.dK (ahK ns ps))
 kn:H kd=some (.dK kvs)
 nb:bd≠kd
 na:ad≠kd
 ok:Knw ns ps kvs
section
variable {K:W.Frag}{C:Addr}{H H':Hp}{p dx:Addr}{nv:V}{bd ad kd:Addr}{ns:List Str}{ps:List (Str×Str)}{kvs kvs':List (Key×V)}
theorem WaysAt.same (h:WaysAt K C H p dx nv bd ad kd ns ps kvs)(e:Same H H'):WaysAt K C H' p dx nv bd ad kd ns ps kvs:=
 ⟨e _ _ h.ob,h.nm.nm_fz e.fz,e _ _ h.bt,e _ _ h.ah,e _ _ h.kn,h.nb,h.na,h.ok⟩
theorem WaysAt.pk (h:WaysAt K C H p dx nv bd ad kd ns ps kvs):p≠kd:=ne_of h.ob h.kn (by intro z;cases z)
theorem WaysAt.put (h:WaysAt K C H p dx nv bd ad kd ns ps kvs)(e:ExtBut kd H H')(hk:H' kd=some (.dK kvs'))(ok:Knw ns ps kvs'):WaysAt K C H' p dx nv bd ad kd ns ps kvs':=
 ⟨e _ _ h.pk h.ob,h.nm.nm_fz (e.fzD h.kn),e _ _ h.nb h.bt,e _ _ h.na h.ah,hk,h.nb,h.na,ok⟩
theorem WaysAt.list {l:Addr}{xs:List V}(h:WaysAt K C H p dx nv bd ad kd ns ps kvs)(e:ExtBut l H H')(hl:H l=some (.lst xs)):WaysAt K C H' p dx nv bd ad kd ns ps kvs:=
 ⟨e _ _ (ne_of h.ob hl (by intro z;cases z)) h.ob,h.nm.nm_fz (e.fzL hl),e _ _ (ne_of h.bt hl (by intro z;cases z)) h.bt,e _ _ (ne_of h.ah hl (by intro z;cases z)) h.ah,e _ _ (ne_of h.kn hl (by intro z;cases z)) h.kn,h.nb,h.na,h.ok⟩
end
theorem Uw {ns:List Str}{ps:List (Str×Str)}(h:HalfW ns ps)(x:Str):Ak ps x x=false:=Wk (h.irr x)
theorem Y8 {ps:List (Str×Str)}(x y z:Str)(h:Ak ps x y=true)(g:Ak ps y z=true):Ak ps x z=true:=wayB_iff.mpr ((wayB_iff.mp h).trans (wayB_iff.mp g))
section
variable {α:Type} [DecidableEq α]
theorem Sf (l:List α)(p:α->Bool):(l.filter p).isEmpty = !(l.any p):=by
 induction l with
 |nil=>rfl
 |cons x xs ih=>
   rw[A23,A1V]
   cases c:p x with
   |true=>rw[A0Y rfl];rfl
   |false=>rw[A0P nofun,ih,A4M]
theorem Wd (b:α->α->Bool)(ns:List α){rows:List (List α)}{j:Nat}{row:List α}(h:rows[j]? = some row):Fu b ns (rows.take (j+1))=Fu b ns (rows.take j)++(frF b (Ft ns row)).map λx=>row++[x]:=by rw[A0L,h];unfold Fu;rw[A46];simp
theorem Ql (b:α->α->Bool)(ns:List α):∀(i:Nat) (row:List α),row∈Fs b ns i [[]]->row.length=i
 |0,row,h=>by
   have:row=[]:=by simpa[Fs] using h
   subst this;rfl
 |i+1,row,h=>by rw[Ix] at h;unfold Fu at h;obtain⟨r,hr,hx⟩:=List.mem_flatMap.mp h;obtain⟨x,_,rfl⟩:=A0V.mp hx;rw[A08,Ql b ns i r hr];rfl
end
section
variable {α:Type}[DecidableEq α]
end
def Qr (ns:List Str)(F:List Str->Nat)(ct:List ((Str->Bool)×Nat)):Nat:=(ct.map λe=>e.2*F (ns.filter e.1)).sum
theorem Hu (ns:List Str)(F:List Str->Nat)(e:(Str->Bool)×Nat)(r:List ((Str->Bool)×Nat)):Qr ns F (e :: r)=e.2*F (ns.filter e.1)+Qr ns F r:=by unfold Qr;rw[List.map_cons,List.sum_cons]
theorem ai7 {p:Key×V}{r:List (Key×V)}{k:Key}{v:V}(h:¬ p.1=k):Eb (p :: r) k v=p :: Eb r k v:=by
 unfold Eb;rw[A1V,A0R h,A4M]
 by_cases c:(r.any λkv=>decide (kv.1=k))=true
 . rw[A0Y c,A0Y c,A0I,A0P h]
 rw[A0P c,A0P c];rfl
theorem af1 {p:Key×V}{r:List (Key×V)}{v:V}(h:p.1∉r.map (·.1)):Eb (p :: r) p.1 v=(p.1,v) :: r:=by
 unfold Eb;rw[A1V,A0K rfl,Bool.true_or,A0Y rfl,A0I,A0Y rfl];congr 1
 conv=>rhs;rw[<- List.map_id r]
 apply A1J;intro kv hkv;rw[A0P λq=>h (A0V.mpr ⟨kv,hkv,q⟩)];rfl
theorem Yu {ns:List Str}{F:List Str->Nat}{ct:List ((Str->Bool)×Nat)}{i:Nat}{e:(Str->Bool)×Nat}(he:ct[i]? = some e):Qr ns F (ct.take (i+1))=Qr ns F (ct.take i)+e.2*F (ns.filter e.1):=by unfold Qr;rw[A0L,he,A0A,List.sum_append];simp
theorem Yl {ns:List Str}{F:List Str->Nat}{ct:List ((Str->Bool)×Nat)}{e:(Str->Bool)×Nat}(he:e∈ct):e.2*F (ns.filter e.1)<=Qr ns F ct:=by
 induction ct with
 |nil=>cases he
 |cons p r ih=>
   rw[Hu];rcases A0F.mp he with rfl|he
   . omega
   have:=ih he;omega
section
variable {K:W.Frag}{σ:St}{H:Hp}{Q:VK}{td ty tx:TE}
def av2 (ty tx:TE)(σ:St):V->Hp->VK->Prop:=λx H1 Q=>∃ a,x = .ref a/\IsD H1 a/\ty σ H1 λy H2=>tx σ H2 λz H3=>∃ o,DGet H3 a y o/\Q (o.getD z) H3
theorem i_dget2 (k:td σ H λx H1=>av2 ty tx σ x H1 Q):a99 td ty tx σ H Q:=k
end
section
variable {K:W.Frag}{C:Addr}{H H':Hp}{p dx:Addr}{nv:V}{bd ad kd:Addr}{ns:List Str}{ps:List (Str×Str)}{kvs:List (Key×V)}
end
section
variable {K:W.Frag}{σ:St}{H:Hp}{Q:VK}
end
theorem Mc {prog:Program}{w:World}{κ:Type}[DecidableEq κ](knd:KeyKind prog w κ)(d:Addr) :
  MeetsIn prog w (Builtin.«dict.update» ⟨[.ref d,.ref d],[]⟩) (λ_ R s=>(∃ kvs,s.heap.DictOf knd d kvs)/\R (.ok (.ret .none)) s):=
 .of_wp λA R s hh=>by obtain⟨⟨kvs,hd⟩,h⟩:=hh;unfold Builtin.«dict.update» Builtin.Dict.selfAndRest;refine A02 (A02 (A52 hd.typeIs ?_));show wpAny _ _ (pure (d,[Value.ref d])) _ _ s;refine A09 ?_;show wpAny _ _ (Builtin.Dict.updateFrom "dict.update" d (.ref d) [] .none) _ _ s;unfold Builtin.Dict.updateFrom Builtin.Dict.merge Builtin.Dict.readDirectly;refine A02 (A4W hd.typeIs ?_);rw[A0P nofun];refine A02 (A02 (A02 (wpAny_isInstance hd.typeIs isSubtype_dict_dict ?_)));simp only[Bool.not_true,Bool.false_eq_true,if_false];refine A02 (wpAny_specialOf hd.typeIs F.slot_dict_iter.lookup (A09 ?_));simp only[beq_self_eq_true,if_true];refine A02 (A09 ?_);unfold Builtin.Dict.mergeDict;rw[if_pos (by simp)];refine A02 (A42 (A09 ?_));show wpAny _ _ (Builtin.Dict.addKeywords d [] >>= _) _ _ _;exact A02 (A09 (A09 ⟨.none,rfl,h⟩))
def W6:V->List V->Hp->VK->Prop:=λx vs H Q=>∃ d kvs,x = .ref d/\vs=[.ref d]/\H d=some (.dK kvs)/\Q .non H
def Oq:V->List V->Hp->VK->Prop:=λx vs H Q=>Sl x vs H Q\/W6 x vs H Q
section
variable {X:Cx}{K:W.Frag}
theorem Wi:MtM X "dict.update" W6:=by
 intro pins s σ H x vs v us Q I rx rv h;obtain⟨d,kvs,rfl,rfl,hD,q⟩:=h
 cases rx;obtain⟨u,rfl,ru⟩:=rv.one
 cases ru;obtain⟨z1,hd1,vs1,rel1,dd1⟩:=T8 I.hok hD;refine A4A F.slot_dict_update dd1.typeIs F.entry_dict_update (F.args_dict_update_2 _ _) (Mc (Ax X.prog X.w) d) ⟨⟨vs1,dd1⟩,?_⟩;exact⟨.non,H,I.tok s.toks,rfl,q⟩
theorem Wx:MtM X "dict.update" Oq:=by
 intro pins s σ H x vs v us Q I rx rv h;rcases h with h|h
 . exact Xe pins s σ H x vs v us Q I rx rv h
 exact Wi pins s σ H x vs v us Q I rx rv h
end
theorem ay0 {d o:Addr}{ks ms:List Str}{H:Hp}{Q:VK}(hd:H d=some (.dK (K3 ks)))(ho:H o=some (.dK (K3 ms)))(hne:d≠o)(hz:ks.length+ms.length<=1000000)(k:∀ H',ExtBut d H H'->H' d=some (.dK (K3 (M7 ks ms)))->Q .non H'):Oq (.ref d) [.ref o] H Q:=.inl (aD1 hd ho hne hz k)
theorem aw5 {d:Addr}{kvs:List (Key×V)}{H:Hp}{Q:VK}(hd:H d=some (.dK kvs))(k:Q .non H):Oq (.ref d) [.ref d] H Q:=.inr ⟨d,kvs,rfl,rfl,hd,k⟩
structure T7 (ns:List Str)(ps:List (Str×Str)):Prop where
 nd:ns.Nodup
 mem:∀ p∈ps,p.1∈ns/\p.2∈ns
 few:ns.length<=100
 le:ps.length<=1100
theorem HalfW.c {ns:List Str}{ps:List (Str×Str)}(h:HalfW ns ps):T7 ns ps:=⟨h.nd,h.mem,h.few,A0C h.le nofun⟩
instance {ns:List Str} {ps:List (Str×Str)}:Coe (HalfW ns ps) (T7 ns ps):=⟨HalfW.c⟩
section
variable {α:Type}[DecidableEq α]
def okR (b:α->α->Bool) (r:List α):Prop:=(∀ u∈r,b u u=false)/\r.Pairwise λu v=>b v u=false
theorem Rf {L:List α}(hn:L.Nodup){x:α}(hx:x∈L):(x :: B0 L x).Perm L:=by
 induction L with
 |nil=>cases hx
 |cons y ys ih=>
   obtain⟨h1,h2⟩:=A0O.mp hn
   by_cases e:y=x
   . subst e
     have:B0 (y :: ys) y=ys:=by
      have e1:B0 (y :: ys) y=B0 ys y:=by unfold B0;rw[List.filter_cons,if_neg (by simp)]
      rw[e1,Tu h1]
     rw[this]
   have e1:B0 (y :: ys) x=y :: B0 ys x:=by unfold B0;rw[List.filter_cons,if_pos (by simp[e])]
   rw[e1];exact(A4C y x _).trans ((ih h2 ((A0F.mp hx).resolve_left λq=>e q.symm)).cons y)
theorem G5 (b:α->α->Bool):∀(n:Nat) (L r:List α),L.Nodup->L.length=n->(r∈ext b n L↔r.Perm L/\okR b r)
 |0,L,r,_,hl=>by
   have:=A0D.mp hl;subst this;constructor
   . intro h;have:r=[]:=by simpa[ext] using h
     subst this;exact⟨.refl _,(λ_ h=>by cases h),A2K⟩
   rintro⟨h,_⟩;have:r=[]:=List.perm_nil.mp h;subst this;simp[ext]
 |n+1,L,r,hn,hl=>by
   constructor
   . intro h;obtain⟨x,hx,h⟩:=List.mem_flatMap.mp h;obtain⟨t,ht,rfl⟩:=A0V.mp h;have hxL:=mem_frF.mp hx;have hlen:=Bz hn hxL.1;obtain⟨h1,h2,h3⟩:=(G5 b n (B0 L x) t (Br hn x) ∅).mp ht;refine⟨(h1.cons x).trans (Rf hn hxL.1),λu hu=>?_,A25.mpr ⟨λv hv=>hxL.2 v (mem_lessF.mp (h1.mem_iff.mp hv)).1,h3⟩⟩;rcases A0F.mp hu with rfl|hu
     . exact hxL.2 u hxL.1
     exact h2 u hu
   rintro⟨hp,hd,hpw⟩
   cases r with
   |nil=>
     have:=hp.length_eq;rw[hl] at this
     cases this
   |cons x t=>
     have hxL:x∈L:=hp.mem_iff.mp (by simp);have hlen:=Bz hn hxL;have hpt:t.Perm (B0 L x):=List.Perm.cons_inv (hp.trans (Rf hn hxL).symm);obtain⟨q1,q2⟩:=A25.mp hpw;refine List.mem_flatMap.mpr ⟨x,mem_frF.mpr ⟨hxL,λy hy=>?_⟩,List.mem_map.mpr ⟨t,(G5 b n (B0 L x) t (Br hn x) ∅).mpr ⟨hpt,λu hu=>hd u (by simp[hu]),q2⟩,rfl⟩⟩
     by_cases e:y=x
     . rw[e];exact hd x (by simp)
     exact q1 y (hpt.mem_iff.mpr (mem_lessF.mpr ⟨hy,e⟩))
theorem Hv (b:α->α->Bool):∀(n:Nat) (L:List α),L.Nodup->(ext b n L).Nodup
 |0,L,_=>by simp[ext]
 |n+1,L,hn=>by
   show((frF b L).flatMap λx=>(ext b n (B0 L x)).map (x :: ·)).Nodup
   have key:∀ l:List α,l.Nodup->(l.flatMap λx=>(ext b n (B0 L x)).map (x :: ·)).Nodup:=by
    intro l
    induction l with
    |nil=>intro _;simp
    |cons y ys ih=>
      intro hl;obtain⟨h1,h2⟩:=A0O.mp hl;rw[List.flatMap_cons,A29];refine⟨?_,ih h2,?_⟩
      . have hi:=Hv b n (B0 L y) (Br hn y);exact List.pairwise_map.mpr (hi.imp λhne e=>hne (List.cons.inj e).2)
      intro r hr t ht e;obtain⟨r',_,rfl⟩:=A0V.mp hr;obtain⟨z,hz,ht⟩:=List.mem_flatMap.mp ht;obtain⟨t',_,rfl⟩:=A0V.mp ht;have:y=z:=(List.cons.inj e).1;exact h1 (this ▸ hz)
   exact key _ (Y5 hn)
theorem Wb {β:Type}[DecidableEq β]{xs ys:List β}(h1:xs.Nodup)(h2:ys.Nodup)(h:∀ z,z∈xs↔z∈ys):xs.length=ys.length:=
 Nat.le_antisymm (Ey h1 λz hz=>(h z).mp hz) (Ey h2 λz hz=>(h z).mpr hz)
end
theorem idx_at:∀ {r:List Str} {x:Str},x∈r->r[r.idxOf x]? = some x/\(∀ m<r.idxOf x,r[m]? ≠ some x)/\r.idxOf x<r.length
 | [],_,h=>by cases h
 |y :: ys,x,h=>by
   rw[List.idxOf_cons]
   by_cases e:y=x
   . subst e;simp
   have hb:(y==x)=false:=by simpa using e
   obtain⟨h1,h2,h3⟩:=idx_at ((A0F.mp h).resolve_left λq=>e q.symm);rw[hb];refine⟨h1,λm hm=>?_,by simpa using h3⟩
   cases m with
   |zero=>simpa using e
   |succ m=>exact h2 m (by simpa using hm)
section
variable {prog:Program}{w:World}{A:Around}{E:Value->Shared->Prop}{I:Addr}{fp wr:List Addr}{n:Nat}{P:Nat->Value->Prop}{St:Nat->Heap->Prop}
end
section
variable {α:Type}[DecidableEq α]
theorem Oo {b:α->α->Bool}{L M:List α}(hn:L.Nodup)(hp:M.Perm L):cnt b M=cnt b L:=by
 have hm:M.Nodup:=hp.nodup_iff.mpr hn;unfold cnt;refine Wb (Hv _ _ _ hm) (Hv _ _ _ hn) λr=>?_;rw[G5 _ _ _ _ hm rfl,G5 _ _ _ _ hn rfl];constructor
 . rintro⟨h1,h2⟩;exact⟨h1.trans hp,h2⟩
 rintro⟨h1,h2⟩;exact⟨h1.trans hp.symm,h2⟩
end
theorem Vc {β:Type}{f:β->Nat}{c:Nat}:∀ {l:List β},(∀ x∈l,f x=c)->(l.map f).sum=l.length*c
 | [],_=>by simp
 |x :: xs,h=>by rw[List.map_cons,List.sum_cons,h x (by simp),Vc (l:=xs) λy hy=>h y (by simp[hy]),List.length_cons,Nat.add_mul,Nat.one_mul,Nat.add_comm]
section
variable {prog:Program}{w:World}{A:Around}{E:Value->Shared->Prop}{s:Shared}
structure RawAt (h:Heap)(d:Addr)(es:Array DictEntry)(ep:Nat):Prop where
 at_:∃ o,h.get? d=some o/\o.cls = .type "dict" /\ o.data = .dict es ep
theorem RawAt.ty (x:RawAt s.heap d es ep):s.TypeIs (.ref d) "dict":=let ⟨o,h,c,_⟩:=x.at_;⟨o,h,c⟩
theorem a85 {d:Addr}{es:Array DictEntry}{ep:Nat}{Q:Value->Shared->Prop}(hs:(d==sysModules)=false)(x:RawAt s.heap d es ep)
  (q:Q (.ref s.heap.objs.size) {s with heap:=s.heap.push {cls:=.type "dict_keyiterator",data:=.fields #[.ref d,.int 0 0,.int es.size 0,.int ep 0]}}):wpAny (model prog w) A (pyIter (.ref d)) Q E s:=by
 obtain⟨o,h1,_,h3⟩:=x.at_;refine wpAny_pyIter_slot x.ty F.slot_dict_iter (A2P F.slot_dict_iter x.ty F.entry_dict_iter ?_ (F.args_dict_iter_1 _));unfold Builtin.«dict.__iter__» Builtin.Dict.dictSlotNone;refine A02 (A02 (A52 x.ty ?_));show wpAny _ _ (pure (Value.ref d)) _ _ s;refine A09 ?_;show wpAny _ _ (Builtin.Dict.showsAll d >>= _) _ _ s;unfold Builtin.Dict.showsAll;rw[A0P (by rw[hs];decide)];refine A02 (A09 (A02 (A4G h1 h3 (A02 (wpAny_dictEpoch h1 h3 ?_)))));refine A02 (A2X (A09 ⟨_,rfl,"dict_keyiterator",_,⟨_,A0Z _ rfl,rfl⟩,F.slot_dict_keyiterator_next.lookup,?_⟩));simpa[rawInt] using q
theorem a64 {it d:Addr}{i ep:Nat}{es:Array DictEntry}{Q:Option Value->Shared->Prop}(hit:s.heap.IsKeyIter it d i es.size ep)(x:RawAt s.heap d es ep)(hi:i<es.size)
  (q:∀ h',h'.IsKeyIter it d (i+1) es.size ep->Heap.SameBut it s.heap h'->Q (some es[i].key) {s with heap:=h'}):wpAny (model prog w) A (pyNext (.ref it)) Q E s:=by
 obtain⟨o,h1,_,h3⟩:=x.at_;obtain⟨oi,g1,g2,g3⟩:=id hit;have hown:Builtin.Dict_items.ownsTuple "dict_keyiterator" = false:=by rfl
 unfold pyNext;refine A02 (wpAny_attempt (A30 (name:=Str.ofString "__next__") hit.typeIs F.slot_dict_keyiterator_next (A2P F.slot_dict_keyiterator_next hit.typeIs F.entry_dict_keyiterator_next ?_ (F.args_dict_keyiterator_next_1 _))));refine A02 (A09 (A02 (A02 ?_)))
 first | refine A02 (A34 hit.typeIs (A09 (A02 (A5D g1 g3 ?_)))) | refine A02 (A3N hit.typeIs (A09 (A02 (A5D g1 g3 ?_))))
 simp only[hown,Bool.false_eq_true,if_false];show wpAny _ _ (if(Value.ref d==Value.none)=true then _ else _) _ _ s
 rw[A0P (show ¬ ((Value.ref d==Value.none)=true) by exact A0G)];refine A02 (A09 (A02 (A4G h1 h3 ?_)));rw[if_neg (by simp only[bne_self_eq_false,Bool.false_eq_true,not_false_eq_true])];refine A02 (A09 (A02 (wpAny_dictEpoch h1 h3 ?_)));rw[if_neg (by simp only[bne_self_eq_false,Bool.false_eq_true,not_false_eq_true])];refine A09 ?_;have hneg:¬ ((i:Int)<0):=by omega
 simp only[hneg,if_false,Int.toNat_natCast,Array.getElem?_eq_getElem hi]
 first | refine A02 (A02 (A34 hit.typeIs (A09 (A02 (A53 hit.typeIs ?_))))) | refine A02 (A02 (A3N hit.typeIs (A09 (A02 (A53 hit.typeIs ?_)))))
 show wpAny _ _ (setField (.ref it) 1 (rawInt ((i:Int)+1)) >>= λ_=>_) _ _ s;refine wpAny_bind (wpAny_setField g1 g3 (by simp) ?_)
 have hit2:(s.heap.update it (Obj.mapFields (·.setIfInBounds 1 (rawInt ((i:Int)+1))))).IsKeyIter it d (i+1) es.size ep:=by refine⟨_,Heap.get?_update_self _ g1 (Obj.isFreed_of_fields (Obj.data_mapFields g3 _)),(Obj.cls_mapFields ..).trans g2,?_⟩;rw[Obj.data_mapFields g3];simp[rawInt]
 refine A02 (A2H (A02 ?_));refine A53 (s:={s with heap:=s.heap.update it (Obj.mapFields (·.setIfInBounds 1 (rawInt ((i:Int)+1))))}) hit2.typeIs ?_
 show wpAny _ _ (pure es[i].key) _ _ _;exact A09 (A09 ⟨_,rfl,A09 (q _ hit2 (Heap.SameBut.update ..))⟩)
theorem ai0 {it d:Addr}{i ep:Nat}{es:Array DictEntry}{Q:Option Value->Shared->Prop}(hh:A.handled=none)(hit:s.heap.IsKeyIter it d i es.size ep)(x:RawAt s.heap d es ep)(hi:es.size<=i)
  (q:∀ h',Heap.ExtBut it s.heap h'->Q none {s with heap:=h'}):wpAny (model prog w) A (pyNext (.ref it)) Q E s:=by
 obtain⟨o,h1,_,h3⟩:=x.at_;obtain⟨oi,g1,g2,g3⟩:=id hit;have hown:Builtin.Dict_items.ownsTuple "dict_keyiterator" = false:=by rfl
 unfold pyNext;refine A02 (wpAny_attempt (A30 (name:=Str.ofString "__next__") hit.typeIs F.slot_dict_keyiterator_next (A2P F.slot_dict_keyiterator_next hit.typeIs F.entry_dict_keyiterator_next ?_ (F.args_dict_keyiterator_next_1 _))));refine A02 (A09 (A02 (A02 ?_)))
 first | refine A02 (A34 hit.typeIs (A09 (A02 (A5D g1 g3 ?_)))) | refine A02 (A3N hit.typeIs (A09 (A02 (A5D g1 g3 ?_))))
 simp only[hown,Bool.false_eq_true,if_false];show wpAny _ _ (if(Value.ref d==Value.none)=true then _ else _) _ _ s
 rw[A0P (show ¬ ((Value.ref d==Value.none)=true) by exact A0G)];refine A02 (A09 (A02 (A4G h1 h3 ?_)));rw[if_neg (by simp only[bne_self_eq_false,Bool.false_eq_true,not_false_eq_true])];refine A02 (A09 (A02 (wpAny_dictEpoch h1 h3 ?_)));rw[if_neg (by simp only[bne_self_eq_false,Bool.false_eq_true,not_false_eq_true])];refine A09 ?_;have hneg:¬ ((i:Int)<0):=by omega
 simp only[hneg,if_false,Int.toNat_natCast,Array.getElem?_eq_none hi]
 first | refine A02 (A02 (A34 hit.typeIs (A09 ?_))) | refine A02 (A02 (A3N hit.typeIs (A09 ?_)))
 show wpAny _ _ (setField (.ref it) 0 .none >>= λ_=>_) _ _ s;refine wpAny_bind (wpAny_setField g1 g3 (by simp) ?_);show wpAny _ _ (newExc (.type "StopIteration") [] >>= λ_=>_) _ _ _;simp only[newExc,newTuple];refine A02 (A02 (A2X ?_ (by size_fits)));refine wpAny_bind (m:=firstArgMember _ _) (wpAny_of_eq (a:=Value.none) (by first | rfl | (simp only[firstArgMember];rfl)) (wpAny_newObj_type ?_ (by size_fits)))
 simp only[raiseNew];refine A02 (wpAny_handled ?_);rw[show(A.in1).handled=none by exact hh];refine wpAny_throw ?_;refine A02 (wpAny_isInstance (b:=true) (T:="StopIteration") ⟨_,A0Z _ rfl,rfl⟩ isSubtype_stop ?_);exact A09 (q _ (((Heap.SameBut.update ..).extBut.push _).push _))
end
theorem Inv.freezeT {X:Cx}{pins:List (Addr×Obj)}{σ:St}{H:Hp}{s:Shared}{d:Addr}{kvs:List (List Key×V)}{o:Obj}(I:Inv X pins σ H s)(hd:H d=some (.dT kvs))(ho:s.heap.get? d=some o):Inv X pins σ (upd H d (.frz o (.dT kvs))) s:=by
 have nn:∀ b,H b=none->upd H d (.frz o (.dT kvs)) b=none:=λb h=>by rw[B9 (Ne.symm (ne_of_none hd h))];exact h
 have other:∀ b u,H b=some u->u ≠ .dT kvs->upd H d (.frz o (.dT kvs)) b=some u:=λb u h q=>by rw[B9 (ne_of h hd q)];exact h
 refine⟨I.ok,I.os,I.bare,⟨I.base.keep,I.base.slot,λb ob q n hx=>nn b (I.base.free b ob q n hx),I.base.there,λb xs q=>other b _ (I.base.tups b xs q) (by intro z;cases z),λb ob u q=>other b _ (I.base.frzs b ob u q) (by intro z;cases z),λb ps q=>?_⟩,I.loc,I.cell,nn _ I.free,λx c q=>nn _ (I.freeC x c q),λp hp=>?_,λb u q=>?_,I.len⟩
 . obtain⟨more,h⟩:=I.base.tbls b ps q;exact⟨more,other b _ h (by intro z;cases z)⟩
 . obtain⟨a1,a2,a3⟩:=I.pin p hp;exact⟨a1,nn _ a2,a3⟩
 by_cases e:b=d
 . subst e;rw[A8] at q
   cases q;exact⟨ho,(I.hok b _ hd).stay (λc v hc z=>z) (λc z=>other c _ z (by intro w;cases w)) λc xs z=>other c _ z (by intro w;cases w)⟩
 rw[B9 e] at q;exact(I.hok b u q).stay (λc v hc z=>z) (λc z=>other c _ z (by intro w;cases w)) λc xs z=>other c _ z (by intro w;cases w)
def ItT (a:Addr)(o:Obj)(kvs:List (List Key×V))(bs:List Addr):It:=
 ⟨λi H=>H a=some (.frz o (.dT kvs))/\i<bs.length,λi H x H'=>H'=H/\∃ b,bs[i]? = some b/\x = .ref b,λi H=>H a=some (.frz o (.dT kvs))/\bs.length<=i⟩
theorem ak7 {es:Array DictEntry}{bs:List Addr}(hk:es.toList.map (·.key)=bs.map Value.ref){i:Nat}(hi:i<es.size):∃ b,bs[i]? = some b/\es[i].key = .ref b:=by
 have h1:(es.toList.map (·.key))[i]? = some es[i].key:=by rw[A07,A0M,A1H hi];rfl
 rw[hk,A07] at h1
 cases e:bs[i]? with
 |none=>rw[e] at h1;cases h1
 |some b=>rw[e] at h1;exact⟨b,rfl,(A1I h1).symm⟩
theorem Wf {P:Program}{w:World}{K:W.Frag}{tg:Expr}(a it:Addr)(o:Obj)(kvs:List (List Key×V))(bs:List Addr)(es:Array DictEntry)(ep:Nat)(hc:o.cls = .type "dict")(hd:o.data = .dict es ep)(hk:es.toList.map (·.key)=bs.map Value.ref) :
  a45 P w K tg (ItT a o kvs bs) [it] it (λi h=>h.IsKeyIter it a i es.size ep) where
 mem:=by simp
 obj:=λi h st b hb=>by
  have e:b=it:=by simpa using hb
  subst e;obtain⟨o,e,c,d⟩:=st;exact⟨o,e,λv z=>by rw[d] at z;cases z⟩
 keep:=λi h h' st k=>st.at λo e=>k it (by simp) o e
 item:=by
  intro X hP hw hK hc' i pins s σ H E I hf st hg;subst hP hw hK;obtain⟨hH,hi⟩:=hg;have hsz:es.size=bs.length:=by have:=congrArg List.length hk;rwa[A00,A00,A11] at this
  have hget:s.heap.get? a=some o:=(show ObjOk X.prog X.w H s.heap a (.frz o (.dT kvs)) from I.hok a _ hH).1;obtain⟨b,hb,hkey⟩:=ak7 hk (i:=i) ∅;obtain⟨f0,f1,f2,f3,f4,f5⟩:=hf it (by simp);refine a64 st ⟨o,hget,hc,hd⟩ ∅ λh' hit' hs'=>?_;have I1:Inv X pins σ H {s with heap:=h'}:=I.turned (t':=s.toks) (λb o hb e=>(hs'.2 b hb).trans e) f0 f1 f3 f4 f5
  obtain⟨o',e,c,d⟩:=id hit';rw[hkey];exact⟨.ref b,rfl,Wm (s:={s with heap:=h'}) e c d nofun ⟨.ref b,H,I1,rfl,⟨rfl,b,hb,rfl⟩,hit',λb hb=>(hf b hb).1⟩⟩
 done:=by
  intro X hP hw hK hc' i pins s σ H E I hf st hg;subst hP hw hK;obtain⟨hH,hi⟩:=hg;have hsz:es.size=bs.length:=by have:=congrArg List.length hk;rwa[A00,A00,A11] at this
  have hget:s.heap.get? a=some o:=(show ObjOk X.prog X.w H s.heap a (.frz o (.dT kvs)) from I.hok a _ hH).1;obtain⟨f0,f1,f2,f3,f4,f5⟩:=hf it (by simp);exact ai0 (I.ok.hd hc') st ⟨o,hget,hc,hd⟩ ∅ λh' eb=>⟨rfl,I.turned (t':=s.toks) (λb o hb e=>eb b o hb e) f0 f1 f3 f4 f5⟩
 self:=λA i s Q E st hQ=>wpAny_pyIter_keyiter st hQ
def Vz (H:Hp)(kvs:List (List Key×V))(bs:List Addr):Prop:=bs.length=kvs.length/\∀(i:Nat) kv,kvs[i]? = some kv->∃ b,bs[i]? = some b/\H b=some (.tup (kv.1.map kV))
theorem a89 {X:Cx}{tg:Expr}{pins:List (Addr×Obj)}{σ:St}{H:Hp}{s:Shared}{a:Addr}{kvs:List (List Key×V)}{R:It->Hp->Prop}{E:Value->Shared->Prop}(I:Inv X pins σ H s)(h:H a=some (.dT kvs))
  (q:∀ o bs,Vz H kvs bs->R (ItT a o kvs bs) (upd H a (.frz o (.dT kvs)))):wpAny (model X.prog X.w) X.A (pyIter (.ref a)) (PIE X pins σ tg R) E s:=by
 obtain⟨_,hs,xs,rv,o,es,ep,ho,c,hd,hes,_⟩:=(show ObjOk X.prog X.w H s.heap a (.dT kvs) from I.hok a _ h);have I1:=I.freezeT h ho
 have hk:es.toList.map (·.key)=(xs.map λx=>x.2.1).map Value.ref:=by rw[hes,A1P,A1P];rfl
 have hK:Vz H kvs (xs.map λx=>x.2.1):=by refine⟨by rw[A00];exact(A2R rv).symm,λi kv hkv=>?_⟩;obtain⟨x,hx,_,r2,_⟩:=Rj rv hkv;exact⟨x.2.1,by rw[A07,hx];rfl,r2⟩
 refine a85 hs ⟨o,ho,c.1,hd⟩ ?_;refine⟨s.heap.objs.size,[s.heap.objs.size],_,_,_,rfl,I1.kept (t':=s.toks) λb o e=>A06 _ e,Wf a _ o kvs _ es ep c.1 hd hk,⟨_,A0Z _ rfl,rfl,rfl⟩,λb hb=>?_,q o _ hK⟩;have e:b=s.heap.objs.size:=by simpa using hb
 subst e;exact I1.fpOk (A05 _) (I1.hok.fresh (A05 _))
def aA4 (x:V)(H:Hp)(R:It->Hp->Prop):Prop:=∃ a kvs,x = .ref a/\H a=some (.dT kvs)/\∀ o bs,Vz H kvs bs->R (ItT a o kvs bs) (upd H a (.frz o (.dT kvs)))
def iDT (tl:TE):TI:=fun σ H R=>tl σ H λx H1=>aA4 x H1 R
theorem ao0 {X:Cx}{tg l:Expr}{tl:TE}(hl:PE X l tl):PI X tg l (iDT tl):=by
 intro pins s σ H R I h;refine thn (hl pins s σ H _ I h) ?_;rintro v s1 ⟨x,H1,I1,r1,a,kvs,rfl,hH,q⟩
 cases r1;exact a89 I1 hH q
theorem i_iDT {tl:TE}{σ:St}{H:Hp}{R:It->Hp->Prop}(k:tl σ H λx H1=>aA4 x H1 R):iDT tl σ H R:=k
theorem ab0 {a:Addr}{kvs:List (List Key×V)}{H:Hp}{R:It->Hp->Prop}(h:H a=some (.dT kvs))(k:∀ o bs H',Vz H kvs bs->ExtBut a H H'->H' a=some (.frz o (.dT kvs))->R (ItT a o kvs bs) H'):aA4 (.ref a) H R:=
 ⟨a,kvs,rfl,h,λo bs hb=>k o bs _ hb ExtBut.upd A8⟩
theorem Ng {a:Addr}{o:Obj}{kvs:List (List Key×V)}{bs:List Addr}:Hj (ItT a o kvs bs) (bs.map V.ref) λH=>H a=some (.frz o (.dT kvs)):=by intro i H g;rw[A00];refine⟨λh=>⟨g,h⟩,λh=>⟨g,h⟩,λx H' _ h=>?_⟩;obtain⟨e,b,h1,h2⟩:=h;exact⟨e,by rw[A07,h1,h2];rfl⟩
def Za (p:Addr)(ps:List (V×V))(H:Hp)(Q:VK):Prop:=H p=some (.dT [])/\∃ b key y,ps=[(V.ref b,y)]/\H b=some (.tup (key.map kV))/\Q (.ref p) (upd H p (.dT [(key,y)]))
def aa3 (trs:List (TE×TE)):TE:=fun σ H Q=>∀ p,H p=none->Jt trs σ (upd H p (.dT [])) λps H2=>Za p ps H2 Q
theorem a73 {X:Cx}{pos:Pos}{keys:List (Option Expr)}{values:List Expr}{trs:List (TE×TE)}(hu:X.A.units+1<cLine)(h:PPs X pos keys values trs)(hall:keys.all (·.isSome)=true)(hl:keys.length=values.length)(h0:keys≠[])
  (h15:keys.length<=15):PE X (.Dict keys values pos) (aa3 trs):=by
 intro pins s σ H Q I q;have hfr:=I.hok.fresh (A05 s.heap.objs.size);have I1:=I.laid (a:=s.heap.objs.size) (o:=.dT []) (h':=s.heap.push {cls:=.type "dict",data:=.dict #[]}) (t':=s.toks) (λ_ _ q=>A06 _ q) (A05 _) (Uo s.heap I.big);have hpl:=pairTrees_length keys values X.env pos hall hl;have hp0:pairTrees keys values X.env pos≠[]:=λe=>h0 (A0D.mp (by rw[<- hpl,e];rfl));rw[arm_eval_Dict,zip_pairTrees keys values X.env pos hall hl,dictDisplay_pairs _ hp0 ∅];refine A02 (wpAny_standAt (A02 ?_));unfold subDict;refine A02 (wpAny_alloc (A02 (A2H ?_)));rw [A0Y ∅];refine A02 (thn (h pins _ σ _ _ I1 (q _ hfr)) ?_);rintro ws s2 ⟨ps,H2,I2,rel,e,b,key,y,rfl,hb,q2⟩
 cases rel with
 |@cons a1 b1 l1 l2 r rr=>
   cases rr;obtain⟨u1,u2⟩:=b1;obtain⟨r1,r2⟩:=r
   cases r1;obtain⟨z,hd,xs,rl,dd⟩:=ap7 I2.hok e
   cases rl;refine A2H (A02 ?_);rw[List.forIn_cons];refine A02 (A02 (wpAny_dictSet_heap (hsz:=by rw[A2M];omega) (by show X.A.units<cLine;omega) (Ma I2.hok hb) dd λh' dd' hs=>A09 ?_));show wpAny _ _ (forIn [] PUnit.unit _) _ _ _;rw[List.forIn_nil];refine A09 (A09 (A09 (A09 ?_)));obtain⟨qo,es,ep,hq,h2,h3,h4,_,h5⟩:=dd';refine⟨.ref s.heap.objs.size,_,Lb I2 (ob:=.dT [(key,y)]) (by rw[e];exact A2J) hs ⟨qo,hq⟩ ⟨by rw[A1O,A1B];omega,hd,[(key,b,u2)],.cons ⟨rfl,?_,r2⟩ .nil,qo,es,ep,hq,h2,h3,h4,h5⟩,rfl,q2⟩;rw[B9 (ne_of hb e (λz=>nomatch z))];exact hb
theorem al6 {trs:List (TE×TE)}{σ:St}{H:Hp}{Q:VK}(k:∀ p H1,H p=none->Same H H1->H1 p=some (.dT [])->Jt trs σ H1 λps H2=>Za p ps H2 Q):aa3 trs σ H Q:=λp hp=>k p _ hp (Same.upd hp) A8
theorem ae4 {p b:Addr}{key:List Key}{y:V}{H:Hp}{Q:VK}(h:H p=some (.dT []))(hb:H b=some (.tup (key.map kV)))(k:∀ H',ExtBut p H H'->H' p=some (.dT [(key,y)])->Q (.ref p) H'):Za p [(V.ref b,y)] H Q:=⟨h,b,key,y,rfl,hb,k _ ExtBut.upd A8⟩
theorem Tc {σ:St}{H:Hp}{Q:VK}(k:∀ p H',H p=none->Same H H'->H' p=some (.dT [])->Q (.ref p) H'):ac7 σ H Q:=λp hp=>k p _ hp (Same.upd hp) A8
theorem Sq {a b:Addr}{kvs:List (List Key×V)}{key:List Key}{v:V}{H:Hp}{R:Hp->Prop}(h:H a=some (.dT kvs))(hb:H b=some (.tup (key.map kV)))(hl:kvs.length<=1000000)(k:∀ H',ExtBut a H H'->H' a=some (.dT (Eb kvs key v))->R H'):∃ c H4,V.ref a = .ref c/\DPut H c (.ref b) v H4/\R H4:=
 ⟨a,_,rfl,DPut.t h hb (by rw[A1B];omega),k _ ExtBut.upd A8⟩
theorem ad7 {K:W.Frag}{a b:Addr}{kvs:List (List Key×V)}{key:List Key}{v:V}{H:Hp}{Q:VK}(h:Rd H a (.dT kvs))(hb:H b=some (.tup (key.map kV)))(e:Dg kvs key=some v)(k:Q v H):Ux K (.ref a) (.ref b) H Q:=.inr ⟨a,v,rfl,.inr ⟨kvs,key,b,h,rfl,hb,e.symm⟩,k⟩
def Gh (ns:List Str)(q:Str->Bool):List Key:=(ns.filter λx=>!q x).map Sum.inr
def Hg (ns:List Str)(ct:List ((Str->Bool)×Nat)):List (List Key×V):=ct.map λe=>(Gh ns e.1,V.int ((e.2:Nat):Int))
def Zg (ns:List Str)(ct:List ((Str->Bool)×Nat)):Prop:=((Hg ns ct).map (·.1)).Nodup
theorem a72 {ns:List Str}{p q:Str->Bool}(h:Gh ns p=Gh ns q):ns.filter p=ns.filter q:=by
 unfold Gh at h
 have h1:(ns.filter λx=>!p x)=ns.filter λx=>!q x:=by
  have:=congrArg (List.map λk:Key=>match k with | .inr z=>z | .inl _=>"") h
  rw[A1P,A1P] at this;have e:((λk:Key=>match k with | .inr z=>z | .inl _=>("":Str))∘Sum.inr)=id:=rfl
  rwa[e,List.map_id,List.map_id] at this
 apply A2L;intro x hx;have h2:(x∈ns.filter λx=>!p x)↔x∈ns.filter λx=>!q x:=by rw[h1]
 rw[A15,A15] at h2
 cases c:p x<;>cases d:q x<;>simp[c,d,hx] at h2 ⊢
theorem Oi (ns:List Str)(q:Str->Bool):(Gh ns q).map kV=(ns.filter λx=>!q x).map V.str:=by unfold Gh;rw[A1P];rfl
section
variable {κ:Type}[DecidableEq κ]
theorem aj6 {p:κ×V}{r:List (κ×V)}{k:κ}{v:V}(h:¬ p.1=k):Eb (p :: r) k v=p :: Eb r k v:=by
 unfold Eb;rw[A1V,A0R h,A4M]
 by_cases c:(r.any λkv=>decide (kv.1=k))=true
 . rw[A0Y c,A0Y c,A0I,A0P h]
 rw[A0P c,A0P c];rfl
theorem ak4 {p:κ×V}{r:List (κ×V)}{v:V}(h:p.1∉r.map (·.1)):Eb (p :: r) p.1 v=(p.1,v) :: r:=by
 unfold Eb;rw[A1V,A0K rfl,Bool.true_or,A0Y rfl,A0I,A0Y rfl];congr 1
 conv=>rhs;rw[<- List.map_id r]
 apply A1J;intro kv hkv;rw[A0P λq=>h (A0V.mpr ⟨kv,hkv,q⟩)];rfl
end
theorem Vr (ns:List Str) (q:Str->Bool) (c:Nat):∀ {ct:List ((Str->Bool)×Nat)},Zg ns ct->∃(k0:Nat) (ct':List ((Str->Bool)×Nat)),
  (Dg (Hg ns ct) (Gh ns q)).getD (.int 0) = .int ((k0:Nat):Int)/\Hg ns ct'=Eb (Hg ns ct) (Gh ns q) (.int (((k0+c:Nat)):Int)) /\
  (∀ k,k∈(Hg ns ct').map (·.1)↔k∈(Hg ns ct).map (·.1)\/k=Gh ns q)/\Zg ns ct'/\(∀ F,Qr ns F ct'=Qr ns F ct+c*F (ns.filter q))/\∀ e'∈ct',(∃ e∈ct,e'.1=e.1)\/e'.1=q
 | [],_=>⟨0,[(q,c)],rfl,by rw[Nat.zero_add];rfl,λk=>by simp[Hg],by unfold Zg Hg;simp,λF=>by unfold Qr;simp,λe' he=>.inr (by rw[List.mem_singleton.mp he])⟩
 |e :: r,h=>by
   have h:(Gh ns e.1 :: (Hg ns r).map (·.1)).Nodup:=h;obtain⟨h1,h2⟩:=A0O.mp h
   by_cases c1:Gh ns e.1=Gh ns q
   . have hf:=a72 c1;refine⟨e.2,(e.1,e.2+c) :: r,?_,?_,λk=>?_,h,λF=>?_,λe' he=>?_⟩
     . show(Dg ((Gh ns e.1,V.int ((e.2:Nat):Int)) :: Hg ns r) _).getD _=_;rw[Bb c1];rfl
     . show(Gh ns e.1,V.int ((e.2+c:Nat):Int)) :: Hg ns r=Eb ((Gh ns e.1,V.int ((e.2:Nat):Int)) :: Hg ns r) _ _;rw[<- c1,ak4 (p:=(Gh ns e.1,V.int ((e.2:Nat):Int))) h1]
     . show k∈Gh ns e.1 :: (Hg ns r).map (·.1)↔k∈Gh ns e.1 :: (Hg ns r).map (·.1)\/_;constructor
       . exact .inl
       rintro(h|h)
       . exact h
       rw[h,c1];simp
     . rw[Hu,Hu];show(e.2+c)*F (ns.filter e.1)+_=_;rw[hf,Nat.add_mul];omega
     rcases A0F.mp he with he|he
     . exact .inl ⟨e,by simp,by rw[he]⟩
     exact .inl ⟨e',by simp[he],rfl⟩
   obtain⟨k0,ct',g1,g2,g3,g4,g5,g6⟩:=Vr ns q c h2;refine⟨k0,e :: ct',?_,?_,λk=>?_,?_,λF=>?_,λe' he=>?_⟩
   . show(Dg ((Gh ns e.1,V.int ((e.2:Nat):Int)) :: Hg ns r) _).getD _=_;rw[Bd c1];exact g1
   . show(Gh ns e.1,V.int ((e.2:Nat):Int)) :: Hg ns ct'=Eb ((Gh ns e.1,V.int ((e.2:Nat):Int)) :: Hg ns r) _ _;rw[aj6 c1,g2]
   . show k∈Gh ns e.1 :: (Hg ns ct').map (·.1)↔k∈Gh ns e.1 :: (Hg ns r).map (·.1)\/_;rw[A0F,A0F,g3];constructor
     . rintro(h|h|h)
       . exact .inl (.inl h)
       . exact .inl (.inr h)
       exact .inr h
     rintro((h|h)|h)
     . exact .inl h
     . exact .inr (.inl h)
     exact .inr (.inr h)
   . show(Gh ns e.1 :: (Hg ns ct').map (·.1)).Nodup;refine A0O.mpr ⟨λhm=>?_,g4⟩;rcases(g3 _).mp hm with hm|hm
     . exact h1 hm
     exact c1 hm
   . rw[Hu,Hu,g5];omega
   rcases A0F.mp he with he|he
   . exact .inl ⟨e,by simp,by rw[he]⟩
   rcases g6 e' he with ⟨e2,h3,h4⟩|h3
   . exact .inl ⟨e2,by simp[h3],h4⟩
   exact .inr h3
theorem Ub {ns:List Str}{ct:List ((Str->Bool)×Nat)}(h:Zg ns ct){i:Nat}{e:(Str->Bool)×Nat}(he:ct[i]? = some e):Dg (Hg ns ct) (Gh ns e.1)=some (.int ((e.2:Nat):Int)):=by
 induction ct generalizing i with
 |nil=>cases he
 |cons p r ih=>
   have h:(Gh ns p.1 :: (Hg ns r).map (·.1)).Nodup:=h;obtain⟨h1,h2⟩:=A0O.mp h
   cases i with
   |zero=>cases he;exact Bb rfl
   |succ i=>
     have he:r[i]? = some e:=he
     have hm:Gh ns e.1∈(Hg ns r).map (·.1):=by unfold Hg;rw[A1P];exact A0V.mpr ⟨e,A03 he,rfl⟩
     show Dg ((Gh ns p.1,V.int ((p.2:Nat):Int)) :: Hg ns r) _=_;rw[Bd λz=>h1 (by rw[show Gh ns p.1=Gh ns e.1 from z];exact hm)];exact ih h2 he
theorem Op {ns:List Str}{ct:List ((Str->Bool)×Nat)}(h:Zg ns ct)(hf:ns.length<=10):ct.length<=1024:=by
 have hc:((ct.map λe=>Dr ns e.1)).Nodup:=by
  unfold Zg Hg at h;rw[A1P] at h;refine List.Pairwise.map _ ?_ (List.pairwise_map.mp h);intro a b hne e
  exact hne (show Gh ns a.1=Gh ns b.1 by unfold Gh;congr 1;apply A2L;intro x hx;rw[Ks e x hx])
 have:=Ey (ys:=List.range 1024) hc λk hk=>by obtain⟨e,_,rfl⟩:=A0V.mp hk;have h2:=Tj e.1 ns;have h3:(2:Nat) ^ ns.length<=2 ^ 10:=A3Z nofun hf;exact A21.mpr ∅
 rwa[A00,A1D] at this
def av7 (s z a:Nat):List (List Nat):=(List.range 10).map λk=>Md s (s+a)++Pu (7*k % 26)++Md s (s+z-a-1)
def ay4 (s:Nat):List (List Nat):=(List.range 8).map (λk=>Md s (s+1+k))++[Pu (s+9),Pu (s+11)]
def ap4 (s:Nat):List (List Nat):=(List.range 10).map λk=>Md (s+2*k) (s+2*k+1+5*k % 8)
def aE5:List Str:=["ahead","names","a","ab","name","row","ask","last","first","aheadahe"]
theorem nd41:∀ s<26,(ay4 s).Nodup:=by decide +kernel
theorem nd42:∀ s<26,(ap4 s).Nodup:=by decide +kernel
theorem aC1:((List.range 10).map λk=>Pu (7*k % 26)).Nodup:=by decide +kernel
theorem ag1:Names aE5:=⟨by decide +kernel,by decide +kernel⟩
theorem nd40 (s z a:Nat):(av7 s z a).Nodup:=by refine Hk List.nodup_range λk hk j hj e=>?_;have e1:Pu (7*k % 26)=Pu (7*j % 26):=List.append_cancel_left (List.append_cancel_right e);exact Hh (f:=λk=>Pu (7*k % 26)) aC1 k hk j hj e1
theorem ak8 {s z a:Nat}(hs:s<26)(ha:a<z)(hz:z<=8):Names ((av7 s z a).map txt):=by
 refine⟨Le (nd40 s z a),λy hy=>?_⟩;obtain⟨l,hl,rfl⟩:=A0V.mp hy;obtain⟨k,hk,rfl⟩:=A0V.mp hl;have hm:7*k % 26<26:=Nat.mod_lt _ nofun;have e1:=Kx (a:=s) (b:=s+a) ∅ ∅;have e2:=Ot (i:=7*k % 26) ∅;have e3:=Kx (a:=s) (b:=s+z-a-1) ∅ ∅;refine Jk (by simp only[List.length_append];omega) (by simp only[List.length_append];omega) λc hc=>?_;rcases A0B.mp hc with hc|hc
 . rcases A0B.mp hc with hc|hc
   . exact Iy c hc
   exact K6 c hc
 exact Iy c hc
theorem aj0 {s:Nat}(hs:s<26):Names ((ay4 s).map txt):=by
 refine⟨Le (nd41 s hs),λz hz=>?_⟩;obtain⟨l,hl,rfl⟩:=A0V.mp hz;rcases A0B.mp hl with h|h
 . obtain⟨k,hk,rfl⟩:=A0V.mp h;have hk:=A21.mp hk;have e:=Kx (a:=s) (b:=s+1+k) ∅ ∅;exact Jk ∅ ∅ Iy
 simp only[List.mem_cons,List.not_mem_nil,or_false] at h;rcases h with rfl|rfl
 . have e:=Ot (i:=s+9) ∅;exact Jk ∅ ∅ K6
 have e:=Ot (i:=s+11) ∅;exact Jk ∅ ∅ K6
theorem af7 {s:Nat}(hs:s<26):Names ((ap4 s).map txt):=by refine⟨Le (nd42 s hs),λz hz=>?_⟩;obtain⟨l,hl,rfl⟩:=A0V.mp hz;obtain⟨k,hk,rfl⟩:=A0V.mp hl;have hk:=A21.mp hk;have hm:5*k % 8<8:=Nat.mod_lt _ nofun;have e:=Kx (a:=s+2*k) (b:=s+2*k+1+5*k % 8) ∅ ∅;exact Jk ∅ ∅ Iy
theorem a86 {ns ls:List Str}{ps:List (Str×Str)}(h:Names ns)(hl:ns.length<=10)(p:ls.Perm ns)(u:Up ls ps)(hp:ps.length<=60):Half ns ps:=⟨h,hl,hp,ls,p,u⟩
theorem Mv {ns:List Str}{ys:List V}(h:ys.Perm (ns.map V.str)):∃ ls:List Str,ys=ls.map V.str/\ls.Perm ns:=by
 refine⟨ys.map λv=>match v with | .str z=>z | _=>"",?_,?_⟩
 . rw[A1P]
   have:∀ v∈ys,(V.str∘λv=>match v with | .str z=>z | _=>"") v=v:=λv hv=>by obtain⟨z,_,rfl⟩:=A0V.mp (h.mem_iff.mp hv);rfl
   rw[A1J this];simp
 have:=h.map λv=>match v with | .str z=>z | _=>("":Str)
 rw[A1P] at this
 have e:ns.map ((λv=>match v with | .str z=>z | _=>("":Str))∘V.str)=ns:=by rw[show((λv=>match v with | .str z=>z | _=>("":Str))∘V.str)=id from rfl,List.map_id]
 rw[e] at this;exact this
theorem Vj:∀ {ns:List Str} {as:List Addr} {i:Nat} {z:Str} {q:Addr},ns.Nodup->as.length=ns.length->ns[i]? = some z->Eb (Kp ns as) (Sum.inr z:Key) (.ref q)=Kp ns (as.set i q)
 | [],_,i,_,_,_,_,h=>by simp at h
 |n :: ns,[],i,_,_,_,hl,_=>by simp at hl
 |n :: ns,b :: as,0,z,q,hn,hl,h=>by
   have hz:n=z:=by simpa using h
   subst hz
   have:(Sum.inr n:Key)∉(Kp ns as).map (·.1):=by have:=Ku (as:=b :: as) hn;exact(A0O.mp this).1
   exact af1 (p:=(Sum.inr n,V.ref b)) this
 |n :: ns,b :: as,i+1,z,q,hn,hl,h=>by
   have hz:ns[i]? = some z:=by simpa using h
   have hne:¬ n=z:=λe=>(A0O.mp hn).1 (e ▸ A03 hz);have h1:¬ ((Sum.inr n:Key)=Sum.inr z):=λe=>hne (Sum.inr.inj e);show Eb ((Sum.inr n,V.ref b) :: Kp ns as) _ _=(Sum.inr n,V.ref b) :: Kp ns (as.set i q);rw[ai7 (p:=((Sum.inr n:Key),V.ref b)) h1,Vj (List.nodup_cons.mp hn).2 (by simpa using hl) hz]
structure Ovr (H:Hp)(r:Addr)(ns:List Str)(as:List Addr)(ov:Str->List Str):Prop where
 len:as.length=ns.length
 top:H r=some (.dK (Kp ns as))
 row:∀(i:Nat) (z:Str) (a:Addr),ns[i]? = some z->as[i]? = some a->H a=some (.lst ((ov z).map V.str))
theorem Ovr.same {H H':Hp}{r:Addr}{ns:List Str}{as:List Addr}{ov:Str->List Str}(h:Ovr H r ns as ov)(e:Same H H'):Ovr H' r ns as ov:=⟨h.len,e _ _ h.top,λi z a hz ha=>e _ _ (h.row i z a hz ha)⟩
theorem Ovr.at {H:Hp}{r:Addr}{ns:List Str}{as:List Addr}{ov:Str->List Str}(h:Ovr H r ns as ov){x:Str}(hx:x∈ns):∃(i:Nat) (a:Addr),ns[i]? = some x/\as[i]? = some a:=by
 obtain⟨i,hi,e⟩:=A32 hx;have hi':i<as.length:=by rw[h.len];exact hi
 exact⟨i,as[i],by rw[A04 hi,e],A04 hi'⟩
def ovP (ov:Str->List Str)(x:Str)(fr:List Str):Str->List Str:=λz=>if z=x then ov z++fr else ov z
theorem Ovr.put {H H':Hp}{r q:Addr}{ns:List Str}{as:List Addr}{ov:Str->List Str}(hn:ns.Nodup)(h:Ovr H r ns as ov){x:Str}{i:Nat}(hx:ns[i]? = some x){fr:List Str}(e:ExtBut r H H')(hq:H q=some (.lst ((ov x++fr).map V.str)))(ht:H' r=some (.dK (Eb (Kp ns as) (Sum.inr x:Key) (.ref q)))):Ovr H' r ns (as.set i q) (ovP ov x fr):=by
 have hi:i<ns.length:=(A01.mp hx).1;refine⟨by rw[List.length_set,h.len],by rw[ht,Vj hn h.len hx],λj z a hz ha=>?_⟩
 by_cases c:i=j
 . subst c;rw[hx] at hz
   cases hz;rw[A4P (by rw[h.len];exact hi)] at ha
   cases ha;have:q≠r:=ne_of hq h.top (by intro z;cases z);rw[e _ _ this hq];unfold ovP;rw[A0Y rfl]
 rw[A3Y c] at ha
 have hzx:z≠x:=λe=>by subst e;obtain⟨a1,a2⟩:=A01.mp hx;obtain⟨b1,b2⟩:=A01.mp hz;exact c ((A22 hn).mp (a2.trans b2.symm))
 have h0:=h.row j z a hz ha;have:a≠r:=ne_of h0 h.top (by intro z;cases z);rw[e _ _ this h0];unfold ovP;rw[A0P hzx]
structure OvOk (ns:List Str)(ps:List (Str×Str))(ov:Str->List Str):Prop where
 nd:∀ z∈ns,(ov z).Nodup
 way:∀ z∈ns,∀ y∈ov z,Way ps z y
def Ms (ns:List Str)(ov:Str->List Str):Nat:=(ns.map λz=>(ov z).length).sum
theorem al5 {ns:List Str} {ov:Str->List Str} {x:Str} (hn:ns.Nodup) (hx:x∈ns) (fr:List Str):Ms ns (ovP ov x fr)=Ms ns ov+fr.length:=by
 unfold Ms
 induction ns with
 |nil=>cases hx
 |cons n ns ih=>
   obtain⟨h1,h2⟩:=A0O.mp hn;rw[A0I,A0I,A2A,A2A]
   by_cases c:n=x
   . subst c;have e1:(ovP ov n fr n).length=(ov n).length+fr.length:=by unfold ovP;rw[if_pos rfl,List.length_append]
     have e2:(ns.map λz=>(ovP ov n fr z).length)=ns.map λz=>(ov z).length:=by apply A1J;intro z hz;unfold ovP;rw[A0P λ(e:z=n)=>h1 (e ▸ hz)]
     rw[e1,e2];omega
   have e1:(ovP ov x fr n).length=(ov n).length:=by unfold ovP;rw[if_neg c]
   rw[e1,ih h2 ((A0F.mp hx).resolve_left λe=>c e.symm)];omega
theorem OvOk.len {ns:List Str}{ps:List (Str×Str)}{ov:Str->List Str}(h:OvOk ns ps ov)(hm:∀ p∈ps,p.1∈ns/\p.2∈ns){z:Str}(hz:z∈ns):(ov z).length<=ns.length:=
 Ey (h.nd z hz) λy hy=>by obtain⟨p,hp,e⟩:=A0V.mp (h.way z hz y hy).right;exact e ▸ (hm p hp).2
theorem OvOk.tot {ns:List Str}{ps:List (Str×Str)}{ov:Str->List Str}(h:OvOk ns ps ov)(hm:∀ p∈ps,p.1∈ns/\p.2∈ns):Ms ns ov<=ns.length*ns.length:=by have:Ms ns ov<=(ns.map λ_=>ns.length).sum:=R3 λz hz=>h.len hm hz;have e:(ns.map λ_=>ns.length).sum=ns.length*ns.length:=Vc λ_ _=>rfl;omega
def Wt (ov:Str->List Str)(p:Str×Str):List Str:=(p.2 :: ov p.2).filter λz=>!decide (z∈ov p.1)
theorem OvOk.put {ns:List Str}{ps:List (Str×Str)}{ov:Str->List Str}(h:OvOk ns ps ov)(irr:∀ x,¬ Way ps x x){p:Str×Str}(hp:p∈ps)(hm:p.1∈ns/\p.2∈ns):OvOk ns ps (ovP ov p.1 (Wt ov p)):=by
 have hnd:(p.2 :: ov p.2).Nodup:=A0O.mpr ⟨λhi=>irr _ (h.way _ hm.2 _ hi),h.nd _ hm.2⟩;refine⟨λz hz=>?_,λz hz y hy=>?_⟩
 . unfold ovP
   by_cases c:z=p.1
   . rw[A0Y c,A29];refine⟨h.nd z hz,hnd.filter _,λa ha b hb e=>?_⟩;subst e;have:=(A15.mp hb).2;rw[c] at ha;rw[A0K ha] at this
     cases this
   rw[A0P c];exact h.nd z hz
 unfold ovP at hy
 by_cases c:z=p.1
 . rw[A0Y c] at hy;subst c;rcases A0B.mp hy with hy|hy
   . exact h.way _ hz y hy
   rcases A0F.mp (A15.mp hy).1 with e|e
   . exact e ▸ .one hp
   exact .cons hp (h.way _ hm.2 _ e)
 rw[A0P c] at hy;exact h.way z hz y hy
theorem as8 {ps:List (Str×Str)}{ov:Str->List Str}(h:∀ p∈ps,p.2∈ov p.1/\∀ y∈ov p.2,y∈ov p.1){x y:Str}(g:Way ps x y):y∈ov x:=by
 induction g with
 |one e=>exact(h _ e).1
 |cons e _ ih=>exact(h _ e).2 _ ih
theorem a51 {ov:Str->List Str}{p:Str×Str}(h:Wt ov p=[]):p.2∈ov p.1/\∀ y∈ov p.2,y∈ov p.1:=by
 have key:∀ y∈p.2 :: ov p.2,y∈ov p.1:=λy hy=>by
  by_cases c:y∈ov p.1
  . exact c
  have:y∈Wt ov p:=A15.mpr ⟨hy,by rw[A0R c];rfl⟩;rw[h] at this
  cases this
 exact⟨key _ (by simp),λy hy=>key y (by simp[hy])⟩
theorem al0 (ov:Str->List Str)(x:Str):ovP ov x []=ov:=by
 funext z;unfold ovP
 split
 . rw[A17]
 rfl
theorem Ovr.tab {K:W.Frag}{H:Hp}{r:Addr}{ns:List Str}{as:List Addr}{ps:List (Str×Str)}{ov:Str->List Str}(h:Ovr H r ns as ov)(o:OvOk ns ps ov)(c:∀ p∈ps,p.2∈ov p.1/\∀ y∈ov p.2,y∈ov p.1):TabL K H r ns as (Way ps):=
 ⟨h.len,h.top,λi z a hz ha=>⟨ov z,h.row i z a hz ha,o.nd z (A03 hz),λy=>⟨o.way z (A03 hz) y,as8 c⟩⟩⟩
theorem Sx {α:Type}[DecidableEq α]{b:α->α->Bool}(irr:∀ x,b x x=false)(tr:∀ x y z,b x y=true->b y z=true->b x z=true):∀(n:Nat) (L:List α),L.length=n->L.Nodup->0<cnt b L
 |0,L,hl,_=>by have:=A0D.mp hl;subst this;exact Nat.zero_lt_one
 |n+1,L,hl,hn=>by
   have hne:L≠[]:=by intro e;rw[e] at hl;cases hl
   rw[Ln hn hne]
   cases hf:frF b L with
   |nil=>exact absurd hf (ax2 irr tr hne)
   |cons x t=>
     have hx:x∈frF b L:=by rw[hf];simp
     have:=Bz hn (mem_frF.mp hx).1;have:=Sx irr tr n (B0 L x) ∅ (Br hn x);rw[A0I,A2A];omega
theorem ad9 {α:Type}[DecidableEq α]{b:α->α->Bool}(irr:∀ x,b x x=false)(tr:∀ x y z,b x y=true->b y z=true->b x z=true):∀(i:Nat) (L:List α),L.Nodup->i<=L.length->(ext b i L).length<=cnt b L
 |0,L,hn,_=>Sx irr tr _ L rfl hn
 |i+1,L,hn,hi=>by
   have hne:L≠[]:=by intro e;rw[e] at hi;simp at hi
   rw[Ln hn hne]
   have e:(ext b (i+1) L).length=((frF b L).map λx=>(ext b i (B0 L x)).length).sum:=by show((frF b L).flatMap λx=>(ext b i (B0 L x)).map (x :: ·)).length=_;rw[List.length_flatMap];congr 1;apply A1J;intro x _;rw[A00]
   rw[e];apply R3;intro x hx;have:=Bz hn (mem_frF.mp hx).1;exact ad9 irr tr i (B0 L x) (Br hn x) ∅
theorem Qo {α:Type}[DecidableEq α](b:α->α->Bool)(ns:List α)(k:Nat):Fs b ns k [[]]=ext b k ns:=by rw[Tq,Zz];simp
theorem ah5 {α:Type}[DecidableEq α]{b:α->α->Bool}(irr:∀ x,b x x=false)(tr:∀ x y z,b x y=true->b y z=true->b x z=true){ns:List α}(hn:ns.Nodup){i:Nat}(hi:i<=ns.length):(Fs b ns i [[]]).length<=cnt b ns:=by rw[Qo];exact ad9 irr tr i ns hn hi
theorem Nu {α:Type}[DecidableEq α](b:α->α->Bool)(ns:List α)(rows:List (List α))(j:Nat):(Fu b ns (rows.take j)).length<=(Fu b ns rows).length:=by
 have:Fu b ns rows=Fu b ns (rows.take j)++Fu b ns (rows.drop j):=by unfold Fu;rw[<- A46,A2C]
 rw[this,A08];omega
theorem Ka:∀ {l:List Str},l.Pairwise (λa b=>ltCps b.cps.toList a.cps.toList=false)->sortedS l=true
 | [],_=>rfl
 | [x],_=>rfl
 |x :: y :: r,h=>by obtain⟨h1,h2⟩:=A25.mp h;have ih:=Ka h2;show(!ltCps y.cps.toList x.cps.toList&&risingS y r)=true;rw[h1 y (by simp)];exact ih
theorem Nk:∀ {l:List Str},sortedS l=true->l.Pairwise (λa b=>ltCps b.cps.toList a.cps.toList=false)
 | [],_=>.nil
 |x :: r,h=>by refine A25.mpr ⟨λy hy=>?_,Nk (J8 h)⟩;rw[ltCps_eq,decide_eq_false_iff_not];exact Jl x r h y hy
theorem a40 (ns:List Str):∃ ms:List Str,ms.Perm ns/\sortedS ms=true:=by
 refine⟨ns.mergeSort λa b=>!ltCps b.cps.toList a.cps.toList,List.mergeSort_perm _ _,Ka ?_⟩;have:=List.pairwise_mergeSort (le:=λa b:Str=>!ltCps b.cps.toList a.cps.toList) (λa b c h1 h2=>?_) (λa b=>?_) ns
 . exact this.imp λh=>by simpa using h
 . simp only[ltCps_eq,Bool.not_eq_true',decide_eq_false_iff_not] at h1 h2 ⊢;exact A2U.mpr (List.le_trans (A2U.mp h1) (A2U.mp h2))
 simp only[ltCps_eq,Bool.or_eq_true,Bool.not_eq_true',decide_eq_false_iff_not];rcases List.le_total a.cps.toList b.cps.toList with h|h
 . exact .inl (A2U.mpr h)
 exact .inr (A2U.mpr h)
theorem Pa {ms:List Str}(h:sortedS ms=true)(p:Str->Bool):sortedS (ms.filter p)=true:=Ka (A54 A45 (Nk h))
theorem Sa {ns ms:List Str}(hp:ms.Perm ns){q:Str->Bool}:Ft ns (ms.filter λx=>!q x)=ns.filter q:=by
 unfold Ft;apply A2L;intro x hx
 cases c:q x with
 |true=>
   have:x∉ms.filter λx=>!q x:=λh=>by
    have:=(A15.mp h).2;rw[c] at this
    cases this
   rw[A0R this];rfl
 |false=>have:x∈ms.filter λx=>!q x:=A15.mpr ⟨hp.mem_iff.mpr hx,by rw[c];rfl⟩;rw[A0K this];rfl
theorem Sj {ms out:List Str}(hs:sortedS ms=true)(hn:ms.Nodup){q:Str->Bool}{z:Str}(hz:z∈ms.filter q)(hp:out.Perm ((ms.filter λx=>!q x)++[z]))(ho:sortedS out=true):out=ms.filter λx=>!(q x && !decide (x=z)):=by
 refine Nb (hp.trans ?_) ho (Pa hs _);obtain⟨hz1,hz2⟩:=A15.mp hz
 have hA:((ms.filter λx=>!q x)++[z]).Nodup:=by
  rw[A29];refine⟨hn.filter _,by simp,λa ha b hb e=>?_⟩;have:b=z:=by simpa using hb
  subst this;subst e;have:=(A15.mp ha).2;rw[hz2] at this
  cases this
 refine(List.perm_ext_iff_of_nodup hA (hn.filter _)).mpr λx=>?_;rw[A0B,A15,A15,A16];constructor
 . rintro(⟨h1,h2⟩|rfl)
   . exact⟨h1,by cases c:q x<;>simp[c] at h2 ⊢⟩
   exact⟨hz1,by simp⟩
 rintro⟨h1,h2⟩
 by_cases e:x=z
 . exact .inr e
 exact .inl ⟨h1,by cases c:q x<;>simp[c,e] at h2 ⊢⟩
theorem Xn {l:Addr}{xs:List V}{H:Hp}{Q:VK}(h:H l=some (.lst xs))(k:∀ H',ExtBut l H H'->H' l=some (.lst xs.reverse)->Q .non H'):W3 (.ref l) [] H Q:=⟨l,xs,rfl,rfl,h,k _ ExtBut.upd A8⟩
theorem ag9 {l:Addr}{xs:List V}{H:Hp}{Q:VK}(h:H l=some (.lst xs))(k:∀ H',ExtBut l H H'->H' l=some (.lst [])->Q .non H'):ac1 (.ref l) [] H Q:=⟨l,xs,rfl,rfl,h,k _ ExtBut.upd A8⟩
theorem Half.ok4 {ns:List Str}{ps:List (Str×Str)}(h:Half ns ps):∀ z∈ns,PyData.strOk z=true:=λz hz=>(Y7 (h.names.2 z hz)).1
section
variable {α:Type}[DecidableEq α]
theorem a98 {f:α->Nat}:∀ {l:List α} {x:α},x∈l->f x<=(l.map f).sum
 | [],_,h=>by cases h
 |y :: ys,x,h=>by
   rw[A0I,A2A];rcases A0F.mp h with rfl|h
   . omega
   have:=a98 (f:=f) h;omega
theorem Ti {b:α->α->Bool}{L:List α}(hn:L.Nodup){x:α}(hx:x∈frF b L):cnt b (B0 L x)<=cnt b L:=by
 have hne:L≠[]:=λe=>by rw[e] at hx;cases hx
 rw[Ln hn hne];exact a98 (f:=λx=>cnt b (B0 L x)) hx
def Yi (b:α->α->Bool)(L:List α)(xs:List α):List (List α):=xs.flatMap λx=>(ext b (L.length-1) (B0 L x)).map (x :: ·)
theorem Vp (b:α->α->Bool){L:List α}(hne:L≠[]):Yi b L (frF b L)=ext b L.length L:=by
 cases L with
 |nil=>exact absurd rfl hne
 |cons y ys=>rfl
theorem a38 (b:α->α->Bool)(L xs:List α)(x:α):Yi b L (xs++[x])=Yi b L xs++(ext b (L.length-1) (B0 L x)).map (x :: ·):=by unfold Yi;rw[A46];simp
theorem Rg (b:α->α->Bool){L:List α}(hne:L≠[])(m:Nat):(Yi b L ((frF b L).take m)).length<=cnt b L:=by
 unfold cnt;rw[<- Vp b hne]
 have:Yi b L (frF b L)=Yi b L ((frF b L).take m)++Yi b L ((frF b L).drop m):=by unfold Yi;rw[<- A46,A2C]
 rw[this,A08];omega
end
section
variable {X:Cx}
end
def ItE (K:W.Frag)(a:Addr):It:=
 ⟨λi H=>∃ xs x,SqL K H a xs/\xs[i]? = some x,λi H v H'=>∃ t x,H t=none/\H'=upd H t (.tup [.int i,x])/\v = .ref t/\∀ xs,SqL K H a xs->xs[i]? = some x,λi H=>∃ xs,SqL K H a xs/\xs.length=i⟩
theorem Wj {P:Program}{w:World}{K:W.Frag}{elts:List Expr}{ek:Nat}{epos:Pos}(a it e:Addr)(hei:e≠it)(hai:a≠it)(hae:a≠e):a45 P w K (.Tuple elts ek epos) (ItE K a) [e,it] e (λi h=>(∃ old,IsEnum h e it i old)/\h.IsListIter it a i) where
 mem:=by simp
 obj:=λi h st b hb=>by
  obtain⟨⟨old,h1⟩,o,h2,h3,h4⟩:=st;rcases A0F.mp hb with rfl|hb
  . exact⟨_,h1,λv z=>by cases z⟩
  have q:b=it:=by simpa using hb
  subst q;exact⟨o,h2,λv z=>by rw[h4] at z;cases z⟩
 keep:=λi h h' st k=>by obtain⟨⟨old,h1⟩,h2⟩:=st;exact⟨⟨old,k e (by simp) _ h1⟩,h2.at λo q=>k it (by simp) o q⟩
 item:=by
  intro X hP hw hK hc i pins s σ H E I hf st hg;subst hP hw hK;obtain⟨xs,x,hq,hx⟩:=hg;obtain⟨its,rv,p,hz⟩:=I.list hq
  have hil:i<its.length:=by have:=(A01.mp hx).1;rw[<- rv.length];exact this
  have D:=Draws.list (prog:=X.prog) (w:=X.w) (A:=X.A.in1) (by simpa using I.ok.hd hc) it a hai its.toArray;obtain⟨⟨old,he⟩,hit⟩:=st;have hel:e<s.heap.objs.size:=A0N he;have hil':it<s.heap.objs.size:=let ⟨_,q,_⟩:=hit;A0N q;refine wpAny_pyNext_enum_itemD D he ⟨hit,(PlainL.isList p)⟩ (by simpa using hil) hei (by simp[hei,Ne.symm hae]) λv h1 tk hv ho hst hT hsz hk=>?_;obtain⟨u,hu,ru⟩:=rv.get hx
  have hvu:v=u:=by have hv':its.toArray[i]? = some v:=hv;rw[List.getElem?_toArray,hu] at hv';exact(A1I hv').symm
  subst hvu;refine⟨_,rfl,wpAny_letOwnedTupleGo_enum ho λh2 he2 hs2=>?_⟩;have hTn:H s.heap.objs.size=none:=I.hok.fresh (A05 _);have hT2:h2.get? s.heap.objs.size=some {cls:=.type "tuple",data:=.seq #[.int i tk,v]}:=(hs2.2 _ (Nat.ne_of_gt hel)).trans hT
  have I1:Inv X pins σ (upd H s.heap.objs.size (.tup [.int i,x])) {s with heap:=s.heap.push {cls:=.type "tuple",data:=.seq #[.int i tk,v]}}:=
   I.laid (t':=s.toks) (λb ob q=>Heap.get?_push_of_some _ q) (Nat.le_refl _) ⟨by simp[sizeLine_eq],[.int i tk,v],.cons ⟨tk,rfl⟩ (.cons ru .nil),_,Heap.get?_push_size _ rfl,rfl,⟨_,rfl⟩,rfl⟩
  have nT:∀ b∈[e,it],b≠s.heap.objs.size:=λb hb=>by
   rcases A0F.mp hb with rfl|hb
   . exact A19 hel
   have q:b=it:=by simpa using hb
   subst q;exact A19 hil'
  have I2:Inv X pins σ (upd H s.heap.objs.size (.tup [.int i,x])) {s with heap:=h2,toks:=tk+1}:=Inv.turnedL (s:={s with heap:=s.heap.push {cls:=.type "tuple",data:=.seq #[.int i tk,v]}}) (ch:=[e,it]) I1 (λb ob hb q=>?_) (λb hb=>?_)
  . refine⟨.ref s.heap.objs.size,_,I2,rfl,⟨_,x,hTn,rfl,rfl,λys hy=>by rw[I.list_inj hy hq];exact hx⟩,⟨⟨_,by simpa using he2⟩,hst.1.at λo q=>(hs2.2 it (Ne.symm hei)).trans q⟩,λb hb=>?_⟩;rw[B9 (nT b hb)];exact(hf b hb).1
  . have hbe:b≠e:=λz=>hb (by simp[z]);have hbi:b≠it:=λz=>hb (by simp[z]);rcases Heap.get?_push_cases q with ⟨rfl,rfl⟩|q
    . exact hT2
    exact(hs2.2 b hbe).trans (hk b ob hbe hbi q)
  obtain⟨f0,f1,f2,f3,f4,f5⟩:=hf b hb;exact⟨by rw[B9 (nT b hb)];exact f0,f1,f2,f3,f4,f5⟩
 done:=by
  intro X hP hw hK hc i pins s σ H E I hf st hg;subst hP hw hK;obtain⟨xs,hq,hx⟩:=hg;obtain⟨its,rv,p,hz⟩:=I.list hq;obtain⟨⟨old,he⟩,hit⟩:=st;have hlen:its.toArray.size=i:=by rw[A0X,<- rv.length];exact hx
  have D:=Draws.list (prog:=X.prog) (w:=X.w) (A:=X.A.in1) (by simpa using I.ok.hd hc) it a hai its.toArray;rw[hlen] at D;refine wpAny_pyNext_enum_endD D he ⟨hit,(PlainL.isList p)⟩ λh' hk=>⟨rfl,I.turnedL (t':=s.toks) (ch:=[e,it]) (λb o hb q=>hk b o (λz=>hb (by simp[z])) q) hf⟩
 self:=by intro A i s Q E st hQ;obtain⟨⟨old,he⟩,_⟩:=st;exact wpAny_pyIter_enum he hQ
section
variable {X:Cx}{K:W.Frag}
def Yf (K:W.Frag)(vs:List V)(H:Hp)(R:It->Hp->Prop):Prop:=∃ a xs,vs=[.ref a]/\SqL K H a xs/\R (ItE K a) H
def a95 (K:W.Frag)(ta:TA):TI:=fun σ H R=>ta σ H λvs H1=>Yf K vs H1 R
theorem Ue {e:Expr}{ta:TA}{p pos:Pos}{elts:List Expr}{ek:Nat}{epos:Pos}(hg:Gl X "enumerate")(hm:X.mg "enumerate" = none)(ha:PA X [e] ta)(hK:X.K=K:=by ac_nf)(hs:starEach [e] X.env=[(false,eval e X.env)]:=by ac_nf) :
  PI X (.Tuple elts ek epos) (.Call (.Name "enumerate" p) [e] [] pos) (a95 K ta):=by
 subst hK;intro pins s σ H R I h;refine Call_ (Mx I hg hm Me (A3A (thn (ha pos pins s σ H _ I h) λus s1 ⟨vs,H1,I1,r1,q1⟩=>?_) hs rfl));obtain⟨a,xs,rfl,hq,q⟩:=q1;obtain⟨u,rfl,ru⟩:=Vals.one r1
 cases ru;obtain⟨its,rv,ht,hz⟩:=I1.list hq;have hal:a<s1.heap.objs.size:=let ⟨_,q,_⟩:=(PlainL.isList ht);A0N q;refine call_enumerate_list (PlainL.isList ht) λh' he hit _ hk=>?_;refine wpAny_pyIter_enum he ?_;refine⟨s1.heap.objs.size+1,[s1.heap.objs.size+1,s1.heap.objs.size],_,_,H1,rfl,I1.kept (t':=s1.toks) hk,Wj a s1.heap.objs.size (s1.heap.objs.size+1) (Nat.succ_ne_self _) (A19 hal) (A19 (A3F hal)),⟨⟨_,he⟩,hit⟩,λb hb=>?_,q⟩;rcases A0F.mp hb with rfl|hb
 . exact I1.fpOk (Nat.le_succ _) (I1.hok.fresh (Nat.le_succ _))
 have e:b=s1.heap.objs.size:=by simpa using hb
 subst e;exact I1.fpOk (A05 _) (I1.hok.fresh (A05 _))
end
section
variable {K:W.Frag}{σ:St}{H:Hp}
theorem i_ienumL {ts:TA}{R:It->Hp->Prop}(k:ts σ H λvs H1=>Yf K vs H1 R):a95 K ts σ H R:=k
theorem Rq {xs:List V}{a:Addr}{n m:Nat}{tb:TS}{D:Ov}(h:SqL K H a xs)(Pv:Nat->St->Hp->Prop)(h0:Pv 0 σ H)(hG:∀ i σ' H',Pv i σ' H'->SqL K H' a xs)
  (hs:∀ i x σ' H' H2,xs[i]? = some x->Pv i σ' H'->Same H' H2->tb {D with nx:=Pv (i+1),ct:=Pv (i+1),bk:=D.nx} ((σ'.set n (some (.int i))).set m (some x)) H2) (hd:∀ σ' H',Pv xs.length σ' H'->D.nx σ' H') :
  Yf K [.ref a] H λJ H1=>am0 (az5 K 2 (a42 (Mf n) (a42 (Mf m) aB4))) tb D σ J H1:=by
 refine⟨a,xs,rfl,h,λi k σ' H'=>k=xs.length-i/\i<=xs.length/\Pv i σ' H',⟨xs.length,by simp,Nat.zero_le _,h0⟩,?_⟩;rintro i k σ' H' ⟨rfl,hi,p⟩;have g:=hG i σ' H' p
 by_cases hlt:i<xs.length
 . refine .inr ⟨⟨xs,xs[i],g,A04 hlt⟩,Pv (i+1),fun σ2 H2 p2=>⟨xs.length-(i+1),by omega,rfl,hlt,p2⟩,λv H2 y=>?_⟩;obtain⟨t,x,ht,rfl,rfl,hx⟩:=y;exact⟨t,_,rfl,SqT.of A8,rfl,.int i,[x],rfl,x,[],rfl,rfl,hs i x σ' H' _ (hx xs g) p (Same.upd ht)⟩
 have e:i=xs.length:=by omega
 subst e;exact .inl ⟨⟨xs,g,rfl⟩,hd σ' H' p⟩
end
end L2
namespace L2
open PySem PySem.Spec PyProof.Rows
open PySem PySem.W PyProof.Rows
section
variable {n:Nat}{r:Nat->Nat}
end
theorem aw0 {a b:Str}(h:a.cps.toList=b.cps.toList):a=b:=Str.ext' (Array.toList_inj.mp h)
section
variable {prog:Program}{w:World}{A:Around}{E:Value->Shared->Prop}{z:Shared}
theorem K8 {α β:Type}{F:α->β->Prop}:∀ {xs:List α} {ys:List β},Paired F xs ys->∀ {i:Nat} {dx:α} {dy:β},i<xs.length->F (xs.getD i dx) (ys.getD i dy)
 |_,_,.nil,_,_,_,h=>by cases h
 |_,_,.cons r t,0,_,_,_=>r
 |_,_,.cons r t,i+1,_,_,h=>K8 t (i:=i) (by simpa using h)
end
section
variable {X:Cx}{K:W.Frag}
end
end L2
namespace L2
open PySem PySem.Spec PyProof.Rows
theorem Y9 (xs ys:List Str):PyData.eqvAll (xs.map PyData.str) (ys.map PyData.str)=decide (xs=ys):=by
 induction xs generalizing ys with
 |nil=>cases ys<;>simp[PyData.eqvAll]
 |cons x xs ih=>
   cases ys with
   |nil=>simp[PyData.eqvAll]
   |cons y ys=>
     simp only[List.map_cons,PyData.eqvAll,ih,PyData.eqv]
     by_cases c:x=y
     . subst c;simp
     simp[c]
section
variable {κ:Type}[DecidableEq κ]{P:Program}{w:World}{kd:KeyKind P w κ}{A:Around}{E:Value->Shared->Prop}{z:Shared}
end
section
variable {X:Cx}{K:W.Frag}
end
section
variable {P:Program}{w:World}{A:Around}{E:Value->Shared->Prop}{z:Shared}
end
section
variable {P:Program}{w:World}{A:Around}{E:Value->Shared->Prop}{z:Shared}{c TI TO i1 i2 D:Addr}{fp1 fp2:List Addr}{n:Nat}{P1 P2:Nat->Value->Prop}{S1 S2:Nat->Heap->Prop}
end
section
variable {P:Program}{w:World}{κ:Type}[DecidableEq κ]{kd:KeyKind P w κ}{A:Around}{E:Value->Shared->Prop}{c TI TO i1 i2 D:Addr}{fp1 fp2:List Addr}{n:Nat}{P1 P2:Nat->Value->Prop}{S1 S2:Nat->Heap->Prop}
end
section
variable {P:Program}{w:World}{A:Around}{E:Value->Shared->Prop}{z:Shared}
end
section
variable {X:Cx}{K:W.Frag}
end
section
variable {K:W.Frag}{H:Hp}{Q:VK}
theorem Z4 (xs ys:List Str):PyData.eqv (nmD xs) (nmD ys)=decide (xs=ys):=by simp only[nmD,PyData.eqv,Y9]
end
section
variable {ns ns':List Str}{ps ps' bs:List (Str×Str)}
end
section
variable {ns:List Str}{ps:List (Str×Str)}
end
section
variable {P:Program}{w:World}{A:Around}{E:Value->Shared->Prop}{z:Shared}
end
section
variable {X:Cx}{K:W.Frag}
end
section
variable {α:Type}[DecidableEq α]{b:α->α->Bool}{L:List α}
end
def an8:List V->Hp->VK->Prop:=λxs H Q=>∃ i:Int,xs=[.int i]/\i.natAbs.log2<1920/\Q (.str (toString i)) H
theorem Wr {X:Cx}:CallR X (.builtin "repr") an8:=by intro pins s σ H xs us Q I r h;obtain⟨i,rfl,hz,q⟩:=h;obtain⟨u,rfl,t,rfl⟩:=J9 r;exact PySem.P.repr_of_int hz ⟨.str _,H,I.tok _,⟨_,rfl⟩,q⟩
section
variable {prog:Program}{w:World}{A:Around}{E:Value->Shared->Prop}{h:Heap}{g:Array GenState}{d:Drawn}{t:Nat}{os:OsState}{K:W.Frag}{C fI:Addr}{rest:List Value}
end
end L2
namespace L2
open PySem PySem.Spec PyProof.Rows
open PySem PySem.Spec PyProof.Rows Builtin Builtin.ObjectAttr
section
variable {prog:Program}{w:World}{A:Around}{E:Value->Shared->Prop}{s:Shared}{K:W.Frag}{C x:Addr}{name:Str}{v:Value}
end
end L2
namespace L2
open PySem PySem.Spec PyProof.Rows
section
variable {P:Program}{w:World}{H:Hp}{h:Heap}{a C dx:Addr}{od:Option Addr}{fs:List (Str×V)}
end
section
variable {K:W.Frag}{C B D:Addr}
end
section
variable {X:Cx}{pins:List (Addr×Obj)}{σ:St}{H:Hp}{s:Shared}{a C dx:Addr}{fs:List (Str×V)}{f:Str}{v:V}{A:Around}{E:Value->Shared->Prop}
end
section
variable {X:Cx}{o e value:Expr}{f:Str}{pos pos' tpos:Pos}{ta tv:TE}
end
section
variable {X:Cx}{k:Nat}{f C:Addr}{fd:FuncData}{ps:List Str}{sp:Sp}{x:Str}{p pos:Pos}{e:Expr}{es:List Expr}{t:TA}{pins:List (Addr×Obj)}{σ:St}{H:Hp}{s:Shared}{Q:VK}{us:List Value}{vs:List V}
end
section
variable {X:Cx}{K:W.Frag}{o e value:Expr}{f:Str}{pos pos':Pos}{ta tv:TE}
end
section
variable {K:W.Frag}{σ:St}{H:Hp}{Q:VK}{D:Ov}{f:Str}{ta tv:TE}{t:TA}{sp:Sp}{C a dx B G:Addr}{fs:List (Str×V)}{v y:V}{R:Hp->Prop}{vs:List V}
end
section
variable {M:Model}{A:Around}{E:Value->Shared->Prop}{s:Shared}{base:Heap}{env:Env}{outer:List Env}{L a:Addr}{oe:Obj}{vs:Array Value}{Q:Unit->Shared->Prop}
end
section
variable {P:Program}{w:World}{fs:List Addr}{a C:Addr}{od:Option Addr}{oe:Obj}{old:List Addr}{h h':Heap}{H:Hp}{n:Bool}
end
section
variable {P:Program}{w:World}{K:W.Frag}{mg:Str->Option Value}{base:Heap}{N:List Str}{qual:Str}{scope:Scope}{f:Addr}{cd:Value}{A:Around}{outer:List Env}{s₀:Shared}{H₀:Hp}{E:XK}
end
section
variable {X:Cx}{pins:List (Addr×Obj)}{σ:St}{H:Hp}{s:Shared}
end
section
variable {M:Model}{A:Around}{E:Value->Shared->Prop}{s:Shared}{K:W.Frag}{C B a:Addr}{oe:Obj}{Q:Bool->Shared->Prop}
end
section
variable {X:Cx}{pins:List (Addr×Obj)}
end
section
variable {X:Cx}{k:Nat}{x:Str}{ps:List Str}{sp:Sp}{e:Expr}{es:List Expr}{t:TA}{p pos:Pos}{E:XK}
end
section
variable {P:Program}{w:World}{K:W.Frag}{mg:Str->Option Value}{base:Heap}
end
section
variable {K:W.Frag}{σ:St}{H H0:Hp}{D:Ov}{t:TE}{C a:Addr}{fs:List (Str×V)}{E:XK}
end
section
open Lean
def mWay (s:String):MacroM (TSyntax `tactic):=
 if s == "as" then `(tactic| assumption) else if s == "ar" then `(tactic| with_reducible assumption) else `(tactic| walk_at $(quote s))
def Zu (ts:Array (TSyntax `tactic)):MacroM (TSyntax `tactic):=do
 let ts <- ts.mapM λt=>`(Lean.Parser.Tactic.tacticSeq| $t:tactic)
 `(tactic| first $[| $ts]*)
def mId (s:String):Ident:=mkIdent ((s.splitOn ".").foldl Name.mkStr Name.anonymous)
def mIs (s:String):MacroM Ident:=do return mkIdent (<- Macro.addMacroScope (.mkSimple s))
def Xv:List String->TSyntax `tactic->MacroM (TSyntax `tactic)
 | [],t=>pure t
 |s :: r,t=>do
   match s.splitOn "=" with
   | [x,y]=>let w <- mWay y;let i <- mIs x;Xv r (<- `(tactic| ($t:tactic;(case $i:ident=>$w:tactic))))
   |_=>Xv r t
def mRow (s:String):MacroM (TSyntax `tactic):=do
 match s.splitOn ": " with
 | [h,c]=>
   match h.splitOn " " with
   |f :: as=>
     let xs <- as.toArray.mapM λa=>do if a == "_" then `(?_) else `(?$(<- mIs a))
     let u:=Syntax.mkApp (mId f) xs
     let t <- if as.contains "_" then `(tactic| with_reducible refine' $u) else `(tactic| refine' $u)
     Xv (c.splitOn " ") t
   |_=>Macro.throwUnsupported
 |_=>do
   if s == "as" then `(tactic| assumption)
   else if s == "no" then `(tactic| fail "no")
   else `(tactic| exact $(mId s))
def mRows (s:String):MacroM (TSyntax `tactic):=do Zu (<- (s.splitOn " | ").toArray.mapM mRow)
def mAlts (s:String):MacroM (TSyntax `tactic):=do
 let a <- Zu (<- (s.splitOn " ").toArray.mapM λn=>`(tactic| refine $(mId n) ?_))
 `(tactic| with_reducible $a:tactic)
def mAltG (s:String):MacroM (TSyntax `tactic):=do
 let a <- Zu (<- (s.splitOn " ").toArray.mapM λn=>`(tactic| refine $(mId n) λN hN=>?_))
 `(tactic| with_reducible $a:tactic)
end
section
open PySem
theorem same_refl {H:Hp}:Same H H:=Same.refl _
theorem fz_refl {H:Hp}:Fz H H:=Fz.refl _
def Cut (N M:St->Hp->Prop):Prop:=∀ σ H,M σ H->N σ H
section
variable {t u:TS}{te td ty tv:TE}{g:TG}{D:Ov}{σ:St}{H:Hp}
theorem at6 (k:∀ N:St->Hp->Prop,Cut N (u D)->t {D with nx:=N} σ H):az1 t u D σ H:=k (u D) λ_ _ h=>h
theorem i_seqAG (k:∀ N:St->Hp->Prop,Cut N (u D)->ar1 te g {D with nx:=N} σ H):az1 (ar1 te g) u D σ H:=k (u D) λ_ _ h=>h
theorem i_cutN {N M:St->Hp->Prop}(h:Cut N M)(k:M σ H):N σ H:=h _ _ k
end
theorem ap1 {α:Type}{P:List α->Prop}{us:List α}(hl:us.length=0)(h:P []):P us:=by rw[A0D.mp hl];exact h
theorem a91 {α:Type}{P:List α->Prop}{us:List α}(hl:us.length=1)(h:∀ a0:α,P [a0]):P us:=by
 cases us with
 |nil=>cases hl
 |cons a r=>exact ap1 (P:=λr=>P (a :: r)) (A55 hl) (h a)
theorem ab8 {α:Type}{P:List α->Prop}{us:List α}(hl:us.length=2)(h:∀ a0 a1:α,P [a0,a1]):P us:=by
 cases us with
 |nil=>cases hl
 |cons a r=>exact a91 (P:=λr=>P (a :: r)) (A55 hl) (h a)
theorem ad3 {α:Type}{P:List α->Prop}{us:List α}(hl:us.length=3)(h:∀ a0 a1 a2:α,P [a0,a1,a2]):P us:=by
 cases us with
 |nil=>cases hl
 |cons a r=>exact ab8 (P:=λr=>P (a :: r)) (A55 hl) (h a)
theorem am9 {α:Type}{P:List α->Prop}{us:List α}(hl:us.length=4)(h:∀ a0 a1 a2 a3:α,P [a0,a1,a2,a3]):P us:=by
 cases us with
 |nil=>cases hl
 |cons a r=>exact ad3 (P:=λr=>P (a :: r)) (A55 hl) (h a)
theorem at2 {α:Type}{P:List α->Prop}{us:List α}(hl:us.length=5)(h:∀ a0 a1 a2 a3 a4:α,P [a0,a1,a2,a3,a4]):P us:=by
 cases us with
 |nil=>cases hl
 |cons a r=>exact am9 (P:=λr=>P (a :: r)) (A55 hl) (h a)
end
section
variable {K:W.Frag}{x qual:Str}{st:Stmt}{f:Addr}{fd:FuncData}
theorem Fv {p0:Str}(F:Fun K x qual st f fd)(h:∀(kV doc pm:Value) (an:Option Addr) (cdv ct:Value) (u0:Value),bindArgs (W.fnOf x qual (Ag st) (Af st) (A3 st) .none kV doc pm an cdv ct) ⟨[u0],[]⟩=pure (([p0]:List Str).zip [u0])):Binds K fd [p0] []:=
 F.binds λkV doc pm an cdv ct us hl=>a91 (P:=λus=>bindArgs (W.fnOf x qual (Ag st) (Af st) (A3 st) .none kV doc pm an cdv ct) ⟨us,[]⟩=pure (([p0]:List Str).zip us)) hl (h kV doc pm an cdv ct)
theorem Ev {p0 p1:Str}(F:Fun K x qual st f fd)(h:∀(kV doc pm:Value) (an:Option Addr) (cdv ct:Value) (u0 u1:Value),bindArgs (W.fnOf x qual (Ag st) (Af st) (A3 st) .none kV doc pm an cdv ct) ⟨[u0,u1],[]⟩=pure (([p0,p1]:List Str).zip [u0,u1])):Binds K fd [p0,p1] []:=
 F.binds λkV doc pm an cdv ct us hl=>ab8 (P:=λus=>bindArgs (W.fnOf x qual (Ag st) (Af st) (A3 st) .none kV doc pm an cdv ct) ⟨us,[]⟩=pure (([p0,p1]:List Str).zip us)) hl (h kV doc pm an cdv ct)
theorem ad8 {p0 p1 p2:Str}(F:Fun K x qual st f fd)(h:∀(kV doc pm:Value) (an:Option Addr) (cdv ct:Value) (u0 u1 u2:Value),bindArgs (W.fnOf x qual (Ag st) (Af st) (A3 st) .none kV doc pm an cdv ct) ⟨[u0,u1,u2],[]⟩=pure (([p0,p1,p2]:List Str).zip [u0,u1,u2])):Binds K fd [p0,p1,p2] []:=
 F.binds λkV doc pm an cdv ct us hl=>ad3 (P:=λus=>bindArgs (W.fnOf x qual (Ag st) (Af st) (A3 st) .none kV doc pm an cdv ct) ⟨us,[]⟩=pure (([p0,p1,p2]:List Str).zip us)) hl (h kV doc pm an cdv ct)
theorem ay5 {p0 p1 p2 p3 p4:Str}(F:Fun K x qual st f fd)(h:∀(kV doc pm:Value) (an:Option Addr) (cdv ct:Value) (u0 u1 u2 u3 u4:Value),bindArgs (W.fnOf x qual (Ag st) (Af st) (A3 st) .none kV doc pm an cdv ct) ⟨[u0,u1,u2,u3,u4],[]⟩=pure (([p0,p1,p2,p3,p4]:List Str).zip [u0,u1,u2,u3,u4])):Binds K fd [p0,p1,p2,p3,p4] []:=
 F.binds λkV doc pm an cdv ct us hl=>at2 (P:=λus=>bindArgs (W.fnOf x qual (Ag st) (Af st) (A3 st) .none kV doc pm an cdv ct) ⟨us,[]⟩=pure (([p0,p1,p2,p3,p4]:List Str).zip us)) hl (h kV doc pm an cdv ct)
end
section
open PySem.SeqAt PySem.MeetsSeq
variable {A:Around}{s:Shared}
end
section
variable {prog:Program}{w:World}{A:Around}{E:Value->Shared->Prop}{s:Shared}
set_option maxRecDepth 100000 in
end
section
variable {X:Cx}{pos p2:Pos}
end
section
variable {P:Program}{w:World}{A:Around}{E:Value->Shared->Prop}{z:Shared}
end
section
variable {X:Cx}{K:W.Frag}
end
section
variable {K:W.Frag}{H:Hp}{Q:VK}
end
section
variable {X:Cx}{pins:List (Addr×Obj)}{σ:St}{H:Hp}{s:Shared}
end
mutual
def an0:PyData->Bool
 |.str z=>z.cps.toList.all λc=>decide (c<128)
 |.list ds=>am4 ds
 |.tuple ds=>am4 ds
 |.dict _=>false
 |_=>true
def am4:List PyData->Bool
 | []=>true
 |d :: ds=>an0 d&&am4 ds
end
mutual
def an2:PyData->Nat
 |.list ds=>max ds.length (am5 ds)
 |.tuple ds=>max ds.length (am5 ds)
 |_=>0
def am5:List PyData->Nat
 | []=>0
 |d :: ds=>max (an2 d) (am5 ds)
end
structure Dk (p w W:Nat)(D:PyData):Prop where
 asc:an0 D=true
 lay:D.canLay0=true
 sh:D.showable=true
 lv:D.leavesShort 45=true
 dp:D.depth<=p
 wt:D.weight<=w
 wd:an2 D<=W
structure Els (p w W:Nat)(ds:List PyData):Prop where
 all:∀ e∈ds,∃ u,Dk p u W e
 wt:PyData.weightAll ds<=w
 len:ds.length<=W
theorem Dk.le {p w W p' w' W':Nat}{D:PyData}(h:Dk p w W D)(h1:p<=p')(h2:w<=w')(h3:W<=W':=by omega):Dk p' w' W' D:=⟨h.asc,h.lay,h.sh,h.lv,A0C h.dp h1,A0C h.wt h2,A0C h.wd h3⟩
theorem a02 {p W:Nat}:∀ {ds:List PyData},(∀ e∈ds,∃ u,Dk p u W e)->am4 ds=true/\PyData.canLayAll0 ds=true/\PyData.showableAll ds=true/\PyData.leavesShortAll 45 ds=true/\PyData.depthAll ds<=p/\am5 ds<=W
 | [],_=>⟨by simp only[am4],by simp only[PyData.canLayAll0],by simp only[PyData.showableAll],by simp only[PyData.leavesShortAll],by simp only[PyData.depthAll];omega,by simp only[am5];omega⟩
 |d :: ds,h=>by obtain⟨u,a⟩:=h d (by simp);obtain⟨b0,b1,b2,b3,b4,b5⟩:=a02 (ds:=ds) λe he=>h e (by simp[he]);have:=a.dp;have:=a.wd;exact⟨by simp only[am4,a.asc,b0,Bool.and_self],by simp only[PyData.canLayAll0,a.lay,b1,Bool.and_self],by simp only[PyData.showableAll,a.sh,b2,Bool.and_self],by simp only[PyData.leavesShortAll,a.lv,b3,Bool.and_self],by simp only[PyData.depthAll];omega,by simp only[am5];omega⟩
theorem an5 {p w W:Nat}{ds:List PyData}(h:Els p w W ds):Dk (p+1) w W (.tuple ds):=by obtain⟨a0,a1,a2,a3,a4,a5⟩:=a02 h.all;have:=h.len;exact⟨by simpa only[an0] using a0,by simpa only[PyData.canLay0] using a1,by simpa only[PyData.showable] using a2,by simpa only[PyData.leavesShort] using a3,by simp only[PyData.depth];omega,by simpa only[PyData.weight] using h.wt,by simp only[an2];omega⟩
def Asc (z:Str):Prop:=∀ c∈z.cps.toList,c<128
theorem Asc.ok {z:Str}(h:Asc z):PyData.strOk z=true:=by unfold PyData.strOk;rw[<- Array.all_toList,A2Q];intro c hc;have:=h c hc;exact A0K ∅
theorem an6 {p w W:Nat}{z:Str}(h:Asc z)(hl:z.length<=w):Dk p w W (.str z):=by
 refine⟨?_,by simpa only[PyData.canLay0] using h.ok,by simp only[PyData.showable],?_,by simp only[PyData.depth];omega,by simp only[PyData.weight];exact hl,by simp only[an2];omega⟩
 . simp only[an0];rw[A2Q];exact λc hc=>A0K (h c hc)
 simp only[PyData.leavesShort];rw[A2Q];intro c hc;have:=h c hc;exact A0K ∅
theorem Yv {xs:List V}{t:Int}(h0:0<=t):Kt xs (some t) none=xs.drop t.toNat:=by
 by_cases h:t<=xs.length
 . exact Nx h0 h
 have e:HT.sIx xs.length 0 (some t)=xs.length:=by unfold HT.sIx;simp[show ¬ t<0 by omega];omega
 unfold Kt;rw[e,List.drop_length,List.take_nil,A4R ∅]
section
variable {X:Cx}{K:W.Frag}
def a36 (K:W.Frag):List V->Hp->VK->Prop:=λxs H Q=>∃ x d,xs=[x]/\Is K H d x/\d.showable=true/\d.shown.length<=sizeLine/\d.depth<=100/\Q (.str d.shown) H
theorem Wz (hq:QA X.A):CallR X (.builtin "repr") (a36 X.K):=by
 intro pins s σ H xs us Q I rv h;obtain⟨x,d,rfl,i,hs,hf,hd,q⟩:=h
 cases d with
 |none=>simp only[Is] at i;subst i;exact Mq pins s σ H _ us Q I rv (.inr ⟨rfl,q⟩)
 |bool b=>
   simp only[Is] at i;subst i;refine Mq pins s σ H _ us Q I rv (.inl ⟨b,rfl,?_⟩)
   cases b<;>exact q
 |int n=>simp only[Is] at i;subst i;exact Wr pins s σ H _ us Q I rv ⟨n,rfl,of_decide_eq_true (by simpa only[PyData.showable] using hs),q⟩
 |str z=>simp only[Is] at i;subst i;obtain⟨u,rfl,ru⟩:=rv.one;obtain⟨t,rfl⟩:=ru;exact PySem.P.repr_of_str ⟨.str _,H,I.tok _,⟨_,rfl⟩,q⟩ hf
 |list ds=>exact Nc hq pins s σ H _ us Q I rv ⟨x,_,rfl,i,⟨rfl,hs,hf,hd⟩,q⟩
 |tuple ds=>exact Nc hq pins s σ H _ us Q I rv ⟨x,_,rfl,i,⟨rfl,hs,hf,hd⟩,q⟩
 |dict kvs=>simp only[Is] at i
theorem M1 (hq:QA X.A)(hK:X.K=K:=by ac_nf):CallR X (.builtin "repr") (a36 K):=hK ▸ Wz hq
theorem Yj {H:Hp}{Q:VK}{d:PyData}{x:V}(h:Is K H d x)(h1:d.showable=true)(h2:d.shown.length<=sizeLine)(h3:d.depth<=100)(k:Q (.str d.shown) H):a36 K [x] H Q:=⟨x,d,rfl,h,h1,h2,h3,k⟩
theorem Dk.told {p w W:Nat}{D:PyData}(h:Dk p w W D)(hp:p<=60)(hw:w<=100000):D.showable=true/\D.shown.length<=sizeLine/\D.depth<=100:=by have h2:=PyData.shown_le 45 nofun D h.lv;have h3:=h.wt;have h4:=h.dp;refine⟨h.sh,?_,by omega⟩;rw[A1B];omega
end
section
variable {prog:Program}{w:World}{A:Around}{E:Value->Shared->Prop}{s:Shared}
end
section
variable {P:Program}{w:World}{A:Around}{R:Result->Shared->Prop}{it:Addr}{fp wr:List Addr}{G:Array GenState->Array GenState->Prop}{n:Nat}{PV:Nat->Value->Prop}{St:Nat->Shared->Prop}
end
section
variable {prog:Program}{w:World}{A:Around}{E:Value->Shared->Prop}{s:Shared}
set_option maxHeartbeats 3200000 in
end
section
variable {X:Cx}{K:W.Frag}
end
end L2
namespace L2
open PySem PySem.Spec PyProof.Rows
open Builtin
section
variable {X:Cx}{K:W.Frag}
end
end L2
namespace L2
open PySem PySem.Spec PyProof.Rows
section
variable {P:Program} {w:World} {K:W.Frag} {mg:Str->Option Value} {base:Heap} {k:Nat} {f:Addr} {fd:FuncData} {ps:List Str} {sp sp':Sp}
end
theorem Lu:∀(k fuel n:Nat) (ds:List Char),1<=k->n<10 ^ k->(Nat.toDigitsCore 10 fuel n ds).length<=ds.length+k
 |_,0,n,ds,_,_=>by simp[Nat.toDigitsCore]
 |k,fuel+1,n,ds,hk,hn=>by
   unfold Nat.toDigitsCore;dsimp only
   split
   . simp;omega
   rename_i h0
   cases k with
   |zero=>omega
   |succ k=>
     have h1:n / 10<10 ^ k:=by rw[Nat.div_lt_iff_lt_mul ∅];rw[Nat.pow_succ] at hn;exact hn
     have hk1:1<=k:=by
      cases k with
      |zero=>simp at h1;omega
      |succ _=>omega
     have:=Lu k fuel (n / 10) (Nat.digitChar (n % 10) :: ds) hk1 h1;rw[A0W] at this;omega
theorem af5 (s:String):(s:Str).length=s.toList.length:=by show(Str.ofString s).cps.size=_;rw[Str.ofString_eq_byList];unfold Str.ofStringByList;simp
theorem Vg {n:Nat}(h:n<10 ^ 44):(Nat.repr n).toList.length<=44:=by unfold Nat.repr Nat.toDigits;have:=Lu 44 (n+1) n [] ∅ h;simpa using this
theorem Zt {m:Int} (h:m.natAbs<10 ^ 44):(PyData.int m).shown.length<=45:=by
 simp only[PyData.shown];rw[af5]
 cases m with
 |ofNat n=>have:(toString (Int.ofNat n):String)=Nat.repr n:=rfl;rw[this];exact A0C (Vg h) ∅
 |negSucc n=>
   have:(toString (Int.negSucc n):String) = "-" ++ Nat.repr (n+1):=rfl;rw[this];have h2:=Vg (n:=n+1) h;rw[String.toList_append,A08];have:("-":String).toList.length=1:=by decide
   omega
theorem ah4 {m:Int}(h:m.natAbs<10 ^ 44):m.natAbs.log2<147:=by
 by_cases h0:m.natAbs=0
 . rw[h0];decide
 exact(Nat.log2_lt h0).mpr (Nat.lt_trans h nofun)
theorem Uq {p W:Nat}{m:Int}(h:m.natAbs<10 ^ 44):Dk p 150 W (.int m):=by
 have hl:=ah4 h;refine⟨by simp only[an0],by simp only[PyData.canLay0],?_,?_,by simp only[PyData.depth];omega,?_,by simp only[an2];omega⟩
 . simp only[PyData.showable];exact A0K ∅
 . simp only[PyData.leavesShort];exact A0K (Zt h)
 simp only[PyData.weight]
 split<;>omega
section
variable {P:Program}{w:World}{A:Around}{E:Value->Shared->Prop}{z:Shared}
end
section
variable {X:Cx}{K:W.Frag}
end
section
variable {K:W.Frag}{σ:St}{H:Hp}{Q:VK}
end
section
variable {X:Cx}{K:W.Frag}{H:Hp}{Q:VK}
end
section
variable {X:Cx}{K:W.Frag}
end
section
variable {α:Type}[DecidableEq α]
end
section
variable {α:Type} [DecidableEq α]
theorem Og {l m:List α}(hn:l.Nodup)(h:∀ x∈l,x∈m):l.length<=m.length:=by
 induction l generalizing m with
 |nil=>simp
 |cons a l ih=>
   obtain⟨h1,h2⟩:=A0O.mp hn;have ha:=h a (.head _)
   have:=ih (m:=m.erase a) h2 λx hx=>by have hne:x≠a:=λe=>h1 (e ▸ hx);exact(A5C hne).mpr (h x (.tail _ hx))
   rw[A4F ha] at this;have hp:0<m.length:=A4Q ha;rw[A0W];omega
end
section
variable {α:Type}[DecidableEq α]
end
section
variable {X:Cx}{pins:List (Addr×Obj)}{σ:List (Option V)}{H:Hp}{s:Shared}{h':Heap}
variable {K:W.Frag}
end
section
variable {α:Type}[DecidableEq α]
theorem Lg {a z:α}(r:List α)(h:¬ a=z):(a :: r).idxOf z=r.idxOf z+1:=by
 have e:(a==z)=false:=by simp[h]
 rw[List.idxOf_cons,e];rfl
theorem Ur {r:List α}(hn:r.Nodup){x y:α}(hx:x∈r)(hy:y∈r)(hxy:x≠y):r.idxOf x<r.idxOf y↔r.Pairwise λu v=>¬ (u=y/\v=x):=by
 induction r with
 |nil=>cases hx
 |cons a r ih=>
   obtain⟨h1,h2⟩:=A0O.mp hn;rw[A25]
   by_cases hax:a=x
   . subst hax;have hya:¬ a=y:=hxy;rw[A40,Lg _ hya];refine⟨λ_=>⟨λv _ ⟨e,_⟩=>hxy e,List.pairwise_iff_forall_sublist.mpr fun {u v} hs ⟨_,e⟩=>h1 (e ▸ hs.subset (by simp))⟩,λ_=>Nat.succ_pos _⟩
   have hxr:x∈r:=(A0F.mp hx).resolve_left λe=>hax e.symm
   by_cases hay:a=y
   . subst hay;rw[A40];exact⟨λh=>absurd h (A56 _),λh=>absurd ⟨rfl,rfl⟩ (h.1 x hxr)⟩
   have hyr:y∈r:=(A0F.mp hy).resolve_left λe=>hay e.symm;rw[Lg _ hax,Lg _ hay,Nat.add_lt_add_iff_right,ih h2 hxr hyr];exact⟨λh=>⟨λv _ ⟨e,_⟩=>hay e,h⟩,λh=>h.2⟩
variable {β:Type}[DecidableEq β]
end
section
variable {X:Cx}{k:Nat}{x:Str}{ps:List Str}{sp:Sp}{e:Expr}{es:List Expr}{t:TA}{p pos:Pos}{E:St->XK}
end
section
variable {X:Cx}{pins:List (Addr×Obj)}
end
section
variable {α:Type}[DecidableEq α]
end
section
variable {ns ns':List Str}{ps ps':List (Str×Str)}
variable {qs:List (Str×Str)}
end
section
variable {M:Model}{A:Around}{E:Value->Shared->Prop}{s:Shared}{base:Heap}{env:Env}{outer:List Env}{L a:Addr}{oe:Obj}{vs:Array Value}{Q:Unit->Shared->Prop}
end
section
variable {P:Program}{w:World}{fs:List Addr}{a C:Addr}{od:Option Addr}{oe:Obj}{old:List Addr}{h h':Heap}{H:Hp}{n:Bool}
end
section
variable {P:Program}{w:World}{K:W.Frag}{mg:Str->Option Value}{base:Heap}{N:List Str}{qual:Str}{scope:Scope}{f:Addr}{cd:Value}{A:Around}{outer:List Env}{s₀:Shared}{H₀:Hp}{E:XK}
end
section
variable {X:Cx}{scope:Scope}{xs fr:List Str}{pins:List (Addr×Obj)}{σ:St}{H:Hp}{s:Shared}{js:List Nat}{fp:List Addr}
end
section
variable {X:Cx}{k:Nat}{C:Addr}{m:Str}{ps:List Str}{sp:Sp}{e o:Expr}{es:List Expr}{ta:TE}{t:TA}{p pos apos:Pos}{E:XK}
end
section
variable {σ:St}{H:Hp}{Q:VK}{C:Addr}{m:Str}{sp:Sp}{ta:TE}{t:TA}{E:XK}
end
section
variable {P:Program}{w:World}{K:W.Frag}{mg:Str->Option Value}{base:Heap}
end
section
variable {X:Cx}{k:Nat}{x:Str}{ps:List Str}{sp:Sp}{e:Expr}{es:List Expr}{t:TA}{p pos:Pos}
end
section
variable {X:Cx}
end
section
variable {α:Type}[DecidableEq α]{b:α->α->Bool}
end
section
variable {X:Cx}{K:W.Frag}
end
section
variable {K:W.Frag}{σ:St}{H:Hp}
end
section
variable {K:W.Frag}{H H':Hp}{x:V}{ns:List Str}{σ:St}{Q:VK}
end
theorem Xa {K:W.Frag}{H:Hp}{d:PyData}{ds:List PyData}{vs:List V}(h:IsL K H (d :: ds) vs):∃ v r,vs=v :: r/\Is K H d v/\IsL K H ds r:=by simpa only[IsL] using h
section
variable {ns A B:List Str}{pA pB S:List (Str×Str)}
end
section
variable {prog:Program}{w:World}{A:Around}{E:Value->Shared->Prop}{s:Shared}{Q:Value->Shared->Prop}
end
section
variable {X:Cx}{pins:List (Addr×Obj)}{σ:List (Option V)}{H:Hp}{s:Shared}{h':Heap}
end
section
variable {X:Cx}{K:W.Frag}
end
section
variable {ns A B:List Str}{pA pB S:List (Str×Str)}
end
section
variable {prog:Program}{w:World}{A:Around}{E:Value->Shared->Prop}{s:Shared}{Q:Value->Shared->Prop}
end
section
variable {X:Cx}{pins:List (Addr×Obj)}{σ:List (Option V)}{H:Hp}{s:Shared}{h':Heap}
end
section
variable {X:Cx}{pins:List (Addr×Obj)}{σ:List (Option V)}{H:Hp}{s:Shared}
end
section
variable {ns row:List Str}{ps:List (Str×Str)}
end
section
variable {X:Cx}
end
section
variable {prog:Program}{w:World}{A:Around}{E:Value->Shared->Prop}{s:Shared}
end
section
variable {X:Cx}{K:W.Frag}
end
section
variable {ps ps':List (Str×Str)}
end
section
variable {X:Cx}{k:Nat}{C:Addr}{x:Str}{ps:List Str}{sp:Sp}{e:Expr}{es:List Expr}{t:TA}{p pos:Pos}{E:XK}
end
section
variable {C:Addr} {sp:Sp} {t:TA} {σ:St} {H:Hp} {Q:VK} {E:XK}
end
theorem R1 {b:Str->Str->Bool}(hb:∀ x y,b x y=false):∀(n:Nat) (L:List Str),L.length=n->L.Nodup->cnt b L=fac n
 |0,L,h,_=>by rw[A0D.mp h,L2.cnt_nil];rfl
 |n+1,L,h,hn=>by
   rw[Ln hn (by intro z;rw[z] at h;cases h)];have hf:frF b L=L:=List.filter_eq_self.mpr λx hx=>by simp[hb]
   rw[hf];have h1:(L.map λx=>cnt b (B0 L x))=L.map λ_=>fac n:=A1J λx hx=>R1 hb n (B0 L x) (by have:=Bz hn hx;omega) (Br hn x);rw[h1,List.map_const',List.sum_replicate_nat,h]
   first | rfl | exact A4X _ _
section
variable {K:W.Frag}{C B:Addr}{hf i0:Bool}{fs:List Str}
end
section
variable {P:Program}{w:World}{K:W.Frag}{mg:Str->Option Value}{base:Heap}{A:Around}{outer:List Env}{s:Shared}{H:Hp}
end
section
variable {X:Cx}{pins:List (Addr×Obj)}{σ:List (Option V)}{H:Hp}{s s':Shared}
end
section
variable {X:Cx}{pins:List (Addr×Obj)}{σ:List (Option V)}{H:Hp}{s:Shared}
end
def drop (H:Hp)(a:Addr):Hp:=λb=>if b=a then none else H b
section
variable {X:Cx}{k:Nat}{x:Str}{ps:List Str}{sp:Sp}{e:Expr}{es:List Expr}{t:TA}{p pos:Pos}
end
section
variable {prog:Program}{w:World}{A:Around}{E:Value->Shared->Prop}{s:Shared}
abbrev TKd (prog:Program)(w:World):=tupleKind (Ax prog w)
end
section
variable {X:Cx}{K:W.Frag}
theorem ak0 {pins:List (Addr×Obj)}{σ:St}{H:Hp}{s:Shared}(I:Inv X pins σ H s){b:Addr}{ks:List Key}(h:SqT X.K H b (ks.map kV)):(TKd X.prog X.w).is s.heap ks b:=by obtain⟨its,r,⟨o,ho,hc,n,hd⟩,_⟩:=I.tuple h;exact⟨o,its.toArray,n,ho,hc,hd,by simpa using L4 r⟩
def ah1 (K:W.Frag):R2:=λx y H Q=>∃ a b kvs ks v,x = .ref a/\y = .ref b/\Rd H a (.dT kvs)/\SqT K H b (ks.map kV)/\Dg kvs ks=some v/\Q v H
theorem as7 (hu:X.A.units+1<cLine):IxR X (ah1 X.K):=by
 intro value slice pins s σ H x y v u Q I rx ry h hs;obtain⟨a,b,kvs,ks,z,rfl,rfl,g,hb,e,q⟩:=h
 cases rx
 cases ry;obtain⟨_,hd,xs,rel,dd⟩:=Ph I.hok g;obtain⟨w',hw,rw'⟩:=RelO.some_of (v:=z) (o:=(atKey xs ks).map (·.2)) (by rw[<- e];exact rel.val ks);obtain⟨p,hp,hp2⟩:=A2O.mp hw;refine tail_any dd.typeIs PySem.F.slot_dict_getitem.lookup (wpAny_getItem_heap (A37 hu) (ak0 I hb) dd hp ?_) hs;rw[hp2];exact⟨z,H,I.tok _,rw',q⟩
theorem Zm (hu:X.A.units+1<cLine)(hK:X.K=K:=by ac_nf):IxR X (ah1 K):=hK ▸ as7 hu
theorem aa6 {a b:Addr}{kvs:List (List Key×V)}{ks:List Key}{v:V}{H:Hp}{Q:VK}(h:Rd H a (.dT kvs))(hb:SqT K H b (ks.map kV))(e:Dg kvs ks=some v)(k:Q v H):ah1 K (.ref a) (.ref b) H Q:=⟨a,b,kvs,ks,v,rfl,rfl,h,hb,e,k⟩
def ao4:List V->Hp->VK->Prop:=λxs H Q=>∃ a kvs,xs=[V.ref a]/\Rd H a (.dT kvs)/\Q (.int kvs.length) H
theorem Ww {prog:Program}{w:World}{d:Addr}(hd:(d==sysModules)=false) :
  MeetsIn prog w (Builtin.«dict.__len__» ⟨[.ref d],[]⟩) (λ_ R s=>∃ xs,s.heap.DictOfH (TKd prog w) d xs/\R (.ok (.ret (.int xs.length s.toks))) {s with toks:=s.toks+1}):=
 .of_wp λA R s ⟨xs,hm,h⟩=>by
  obtain⟨o,es,ep,ho,hc,hdat,he,_,hn⟩:=hm;show wpAny _ _ (dictSize d >>= _) _ _ s;unfold dictSize;refine A02 (A02 (A4G ho hdat (A09 ?_)));show wpAny _ _ (Builtin.Dict.pendingCount d >>= _) _ _ s;refine A02 (wpAny_pendingCount_other hd ?_);refine wpAny_ret_mkInt ?_
  have:es.size=xs.length:=by have:=congrArg List.length he;simpa using this
  rw[this];exact h
theorem Rm:CallR X (.builtin "len") ao4:=by
 intro pins s σ H xs us Q I r h;obtain⟨d,kvs,rfl,ha,q⟩:=h;obtain⟨u,rfl,ru⟩:=J9 r
 cases ru;obtain⟨z,hd,ys,rel,hm⟩:=Ph I.hok ha;have hl:kvs.length=ys.length:=A2R rel;refine A4D kind_len plain_len entry_len (args_len1 _) ?_;unfold Builtin.«len»;refine A02 (m:=oneArg "len" _) (A09 ?_)
 refine A02 (m:=callSpecial? (.ref d) (Str.ofString "__len__")) (A30 (name:=Str.ofString "__len__") hm.typeIs F.slot_dict_len
  (A4A F.slot_dict_len hm.typeIs F.entry_dict_len (F.args_dict_len_1 _) (Ww hd) ⟨ys,hm,?_⟩))
 show wpAny _ _ _ _ _ {s with toks:=s.toks+1}
 refine A02 (A2H (A09 ?_));refine A02 (wpAny_letGo ?_);rw[A1B] at z;show wpAny _ _ (if((ys.length:Nat):Int)<0 then _ else _) _ _ _
 rw[A0P ∅];show wpAny _ _ (if((ys.length:Nat):Int)>=2 ^ 63 then _ else _) _ _ _
 rw[A0P ∅];rw[<- hl];exact A02 (wpAny_mkInt (A09 ⟨_,rfl,.int kvs.length,H,I.tok _,⟨_,rfl⟩,q⟩))
theorem Z6 {a:Addr}{kvs:List (List Key×V)}{H:Hp}{Q:VK}(h:Rd H a (.dT kvs))(k:Q (.int kvs.length) H):ao4 [.ref a] H Q:=⟨a,kvs,rfl,h,k⟩
theorem af4 {a b:Addr}{xs ys:List V}{H:Hp}{Q:VK}(h1:H a=some (.tup xs))(hx:xs≠[])(h2:SqT K H b ys)(h:xs.length+ys.length<=sizeLine)(k:∀ p H',Same H H'->H' p=some (.tup (xs++ys))->Q (.ref p) H'):Rx K (.ref a) (.ref b) H Q:=by refine .inr (.inr (.inr (.inl ⟨a,b,xs,ys,rfl,rfl,SqT.of h1,h2,hx,h,λe=>?_,λ_ p hp=>k p _ (Same.upd hp) A8⟩)));subst e;exact k a H (Same.refl _) (by rw[A17];exact h1)
end
structure Tps (H:Hp)(rows:List (List Str))(ys:List V):Prop where
 len:rows.length=ys.length
 get:∀(i:Nat) (r:List Str),rows[i]? = some r->∃ a:Addr,ys[i]? = some (V.ref a)/\H a=some (.tup (r.map V.str))
section
variable {K:W.Frag}{H H':Hp}{rows rs:List (List Str)}{ys zs:List V}{r:List Str}
theorem Tps.nil:Tps H [] []:=⟨rfl,λi r h=>by cases h⟩
theorem Tps.same (h:Tps H rows ys)(e:Same H H'):Tps H' rows ys:=⟨h.len,λi r hr=>let ⟨a,h1,h2⟩:=h.get i r hr;⟨a,h1,e _ _ h2⟩⟩
theorem Tps.but {l:Addr}{xs:List V}(h:Tps H rows ys)(hl:H l=some (.lst xs))(e:ExtBut l H H'):Tps H' rows ys:=⟨h.len,λi r hr=>let ⟨a,h1,h2⟩:=h.get i r hr;⟨a,h1,e _ _ (ne_of h2 hl (by intro z;cases z)) h2⟩⟩
theorem Tps.append (h:Tps H rows ys)(g:Tps H rs zs):Tps H (rows++rs) (ys++zs):=by
 refine⟨by rw[A08,A08,h.len,g.len],λi r hr=>?_⟩
 by_cases hi:i<rows.length
 . rw[A20 hi] at hr;obtain⟨a,h1,h2⟩:=h.get i r hr;exact⟨a,by rw[A20 (by rw[<- h.len];exact hi)];exact h1,h2⟩
 rw[A18 ∅] at hr;obtain⟨a,h1,h2⟩:=g.get _ r hr;exact⟨a,by rw[A18 (by rw[<- h.len];omega),<- h.len];exact h1,h2⟩
theorem Tps.one {a:Addr}(h:H a=some (.tup (r.map V.str))):Tps H [r] [.ref a]:=⟨rfl,λi r' hr=>by
 cases i with
 |zero=>cases hr;exact⟨a,rfl,h⟩
 |succ i=>cases hr⟩
theorem Tps.at (h:Tps H rows ys){i:Nat}{y:V}(hy:ys[i]? = some y):∃ a r,y = .ref a/\rows[i]? = some r/\H a=some (.tup (r.map V.str)):=by
 obtain⟨hi,_⟩:=A01.mp hy;have hr:=A04 (show i<rows.length by rw[h.len];exact hi);obtain⟨a,h1,h2⟩:=h.get i _ hr;rw[hy] at h1
 cases h1;exact⟨a,_,rfl,hr,h2⟩
end
def kyT (r:List Str):List Key:=r.map Sum.inr
theorem a76 (r:List Str):(kyT r).map kV=r.map V.str:=by unfold kyT;rw[A1P];rfl
theorem Yx {r r':List Str}(h:kyT r=kyT r'):r=r':=by unfold kyT at h;exact(List.map_inj_right (λa b e=>Sum.inr.inj e)).mp h
def aB2:Bool->Keyed->Array Keyed->Nat->Nat->Nat->StateT SortSt Sem (Option Nat):=sortPriv% PySem.Builtin.gallop
def aE4:Array Keyed->Array Keyed->StateT SortSt Sem (Array Keyed):=sortPriv% PySem.Builtin.mergeLo
def aF6:Array Keyed->Array Keyed->StateT SortSt Sem (Array Keyed):=sortPriv% PySem.Builtin.mergeHi
def bey (left:Bool)(key:Keyed)(arr:Array Keyed)(p:Nat):StateT SortSt Sem (Option Bool):=do
 let x <- elem' arr p
 if left=true then lt' x key else do
  let r <- lt' key x
  pure (r.map λb=>!b)
section
variable {M:Model}{A:Around}{E:Value->Shared->Prop}{s:Shared}
theorem Yq {α:Type}{n:Nat}{B:Nat->Bool}{st:SortSt}{Q:α->SortSt->Prop}{f:Nat->Option (Option Nat)×Nat×Nat->StateT SortSt Sem (ForInStep (Option (Option Nat)×Nat×Nat))}{g:Option (Option Nat)×Nat×Nat->StateT SortSt Sem α}
  (anti:∀ i j,i<=j->j<n->B j=true->B i=true) {lo hi:Nat} (g1:lo<=hi) (g2:hi<=n) (g3:∀ i,i<lo->B i=true) (g4:∀ i,hi<=i->i<n->B i=false)
  (hf0:∀ x lo hi,lo>=hi->f x (none,lo,hi)=pure (.done (none,lo,hi)))
  (hf1:∀ x lo hi,lo<hi->hi<=n->∀ Q:ForInStep (Option (Option Nat)×Nat×Nat)->SortSt->Prop,Q (.yield (if B (lo+(hi-lo) / 2) then(none,lo+(hi-lo) / 2+1,hi) else(none,lo,lo+(hi-lo) / 2))) st->wpS M A E s (f x (none,lo,hi)) Q st)
  (hg:∀ k,k<=n->(∀ i,i<k->B i=true)->(∀ i,k<=i->i<n->B i=false)->wpS M A E s (g (none,k,k)) Q st):wpS M A E s (forIn [:n] (none,lo,hi) f >>= g) Q st:=by
 refine A0H (A2T (A1Y (I:=λi c st'=>st'=st/\∃ lo hi,c=(none,lo,hi)/\lo<=hi/\hi<=n/\hi-lo<=n-i/\(∀ i,i<lo->B i=true)/\(∀ i,hi<=i->i<n->B i=false))
  (Q:=λc st'=>st'=st/\∃ k,c=(none,k,k)/\k<=n/\(∀ i,i<k->B i=true)/\(∀ i,k<=i->i<n->B i=false))
  (λi c st' _ hi hI=>?_) (λc st' hI=>?_) ⟨rfl,lo,hi,rfl,g1,g2,by omega,g3,g4⟩) λc st' hI=>?_)
 . obtain⟨rfl,lo,hi',rfl,q1,q2,q3,q4,q5⟩:=hI
   by_cases hc:lo>=hi'
   . rw[hf0 _ _ _ hc];have:lo=hi':=by omega
     subst this;exact A0T ⟨rfl,lo,rfl,q2,q4,q5⟩
   refine hf1 _ _ _ ∅ q2 _ ?_
   cases hm:B (lo+(hi'-lo) / 2) with
   |true=>exact⟨rfl,_,_,rfl,by omega,q2,by omega,λj hj=>anti j _ ∅ ∅ hm,q5⟩
   |false=>
     refine⟨rfl,_,_,rfl,by omega,by omega,by omega,q4,λj h1 h2=>?_⟩
     cases hj:B j with
     |false=>rfl
     |true=>rw[anti _ j h1 h2 hj] at hm;cases hm
 . obtain⟨rfl,lo,hi',rfl,q1,q2,q3,q4,q5⟩:=hI;have:lo=hi':=by omega
   subst this;exact⟨rfl,lo,rfl,q2,q4,q5⟩
 obtain⟨rfl,k,rfl,q1,q2,q3⟩:=hI;exact hg k q1 q2 q3
theorem au3 {left:Bool}{key:Keyed}{arr:Array Keyed}{base n hint:Nat}{B:Nat->Bool}{st:SortSt}{Q:Option Nat->SortSt->Prop}(hn:hint<n)
  (anti:∀ i j,i<=j->j<n->B j=true->B i=true) (hbe:∀ i,i<n->∀ Q:Option Bool->SortSt->Prop,Q (some (B i)) st->wpS M A E s (bey left key arr (base+i)) Q st)
  (h:∀ k,k<=n->(∀ i,i<k->B i=true)->(∀ i,k<=i->i<n->B i=false)->Q (some k) st):wpS M A E s (aB2 left key arr base n hint) Q st:=by
 unfold aB2
 have no:∀ {i j},i<=j->j<n->B i=false->B j=false:=fun {i j} h1 h2 h3=>by
  cases hj:B j with
  |false=>rfl
  |true=>rw[anti i j h1 h2 hj] at h3;cases h3
 refine A0H (hbe hint hn _ ?_)
 cases hB:B hint with
 |true=>
   dsimp only;rw[A0Y rfl]
   refine A0H (A2T (A1Y (I:=λi c st'=>st'=st/\∃ la o,c=(none,la,o)/\la<o/\i<o/\hint+la<n/\B (hint+la)=true)
    (Q:=λc st'=>st'=st/\∃ la o,c=(none,la,o)/\la<o/\hint+la<n/\B (hint+la)=true/\(hint+o<n->B (hint+o)=false))
    (λi c st' _ hi hI=>?_) (λc st' hI=>?_) ⟨rfl,0,1,rfl,by omega,by omega,hn,hB⟩) λc st' hI=>?_)
   . obtain⟨rfl,la,o,rfl,q1,q2,q3,q4⟩:=hI;dsimp only
     by_cases hc:o>=n-hint
     . rw[A0Y hc];exact A0T ⟨rfl,la,o,rfl,q1,q3,q4,λh=>by omega⟩
     rw[A0P hc];refine A0H (hbe (hint+o) ∅ _ ?_)
     cases hm:B (hint+o) with
     |true=>exact A0T ⟨rfl,_,_,rfl,by omega,by omega,by omega,hm⟩
     |false=>exact A0T ⟨rfl,la,o,rfl,q1,q3,q4,λ_=>hm⟩
   . obtain⟨rfl,la,o,rfl,q1,q2,q3,q4⟩:=hI;exact⟨rfl,la,o,rfl,q1,q3,q4,λh=>by omega⟩
   obtain⟨rfl,la,o,rfl,q1,q3,q4,q5⟩:=hI;dsimp only;obtain⟨lo,hlo⟩:∃ lo,lo=hint+la+1:=⟨_,rfl⟩;obtain⟨hi,hhi⟩:∃ hi,hi=hint+min o (n-hint):=⟨_,rfl⟩;rw[<- hlo,<- hhi];have g1:lo<=hi:=by omega
   have g2:hi<=n:=by omega
   have g3:∀ i,i<lo->B i=true:=λi hi=>anti i _ ∅ q3 q4;have g4:∀ i,hi<=i->i<n->B i=false:=λi h1 h2=>no (i:=hint+o) ∅ h2 (q5 ∅);refine Yq anti g1 g2 g3 g4 (λx lo hi hc=>A0Y hc) (λx lo hi hc hn' Q k=>?_) λk q1 q2 q3=>A0T (h k q1 q2 q3);dsimp only;rw[A0P ∅];refine A0H (hbe (lo+(hi-lo) / 2) ∅ _ ?_)
   cases hm:B (lo+(hi-lo) / 2)<;>(rw[hm] at k;exact A0T k)
 |false=>
   dsimp only;rw[A0P nofun]
   refine A0H (A2T (A1Y (I:=λi c st'=>st'=st/\∃ la o,c=(none,la,o)/\la<o/\i<o/\la<=hint/\B (hint-la)=false)
    (Q:=λc st'=>st'=st/\∃ la o,c=(none,la,o)/\la<o/\la<=hint/\B (hint-la)=false/\(o<=hint->B (hint-o)=true))
    (λi c st' _ hi hI=>?_) (λc st' hI=>?_) ⟨rfl,0,1,rfl,by omega,by omega,by omega,hB⟩) λc st' hI=>?_)
   . obtain⟨rfl,la,o,rfl,q1,q2,q3,q4⟩:=hI;dsimp only
     by_cases hc:o>=hint+1
     . rw[A0Y hc];exact A0T ⟨rfl,la,o,rfl,q1,q3,q4,λh=>by omega⟩
     rw[A0P hc];refine A0H (hbe (hint-o) ∅ _ ?_)
     cases hm:B (hint-o) with
     |true=>exact A0T ⟨rfl,la,o,rfl,q1,q3,q4,λ_=>hm⟩
     |false=>exact A0T ⟨rfl,_,_,rfl,by omega,by omega,by omega,hm⟩
   . obtain⟨rfl,la,o,rfl,q1,q2,q3,q4⟩:=hI;exact⟨rfl,la,o,rfl,q1,q3,q4,λh=>by omega⟩
   obtain⟨rfl,la,o,rfl,q1,q3,q4,q5⟩:=hI;dsimp only;obtain⟨lo,hlo⟩:∃ lo,lo=hint+1-min o (hint+1):=⟨_,rfl⟩;obtain⟨hi,hhi⟩:∃ hi,hi=hint-la:=⟨_,rfl⟩;rw[<- hlo,<- hhi];have g1:lo<=hi:=by omega
   have g2:hi<=n:=by omega
   have g3:∀ i,i<lo->B i=true:=λi hi=>anti i (hint-o) ∅ ∅ (q5 ∅);have g4:∀ i,hi<=i->i<n->B i=false:=λi h1 h2=>no h1 h2 (by rw[hhi];exact q4);refine Yq anti g1 g2 g3 g4 (λx lo hi hc=>A0Y hc) (λx lo hi hc hn' Q k=>?_) λk q1 q2 q3=>A0T (h k q1 q2 q3);dsimp only;rw[A0P ∅];refine A0H (hbe (lo+(hi-lo) / 2) ∅ _ ?_)
   cases hm:B (lo+(hi-lo) / 2)<;>(rw[hm] at k;exact A0T k)
end
structure Rkd (M:Model)(A:Around)(s:Shared)(kd:SortKind)(rk:Value->Nat)(V:Value->Prop):Prop where
 lt:∀ x y,V x->V y->∀(Q:Bool->Shared->Prop) (E:Value->Shared->Prop),Q (decide (rk x<rk y)) s->wpAny M A (keyLt' kd x y) Q E s
def upL (rk:Value->Nat)(L:List Keyed):Prop:=L.Pairwise λx y=>rk x.1<=rk y.1
section
variable {M:Model}{A:Around}{E:Value->Shared->Prop}{s:Shared}{kd:SortKind}{rk:Value->Nat}{V:Value->Prop}
theorem a05 (O:Rkd M A s kd rk V){st:SortSt}(hk:kindOf st=kd){x y:Keyed}(hx:V x.1)(hy:V y.1){Q:Option Bool->SortSt->Prop}(h:Q (some (decide (rk x.1<rk y.1))) st):wpS M A E s (lt' x y) Q st:=by rw[lt'_eq];refine A0H (A57 ?_);rw[hk];refine A0H (wpS_lift (wpAny_attempt (O.lt _ _ hx hy _ _ ⟨rfl,?_⟩)));exact A0T h
theorem Ba {arr:Array Keyed}{i:Nat}{x:Keyed}(hx:arr[i]? = some x){st:SortSt}{Q:Keyed->SortSt->Prop}(h:Q x st):wpS M A E s (elem' arr i) Q st:=by rw[elem'_eq,hx];exact A0T h
def bB (rk:Value->Nat)(left:Bool)(key x:Keyed):Bool:=if left then decide (rk x.1<rk key.1) else decide (rk x.1<=rk key.1)
theorem aw7 (O:Rkd M A s kd rk V){st:SortSt}(hk:kindOf st=kd){left:Bool}{key x:Keyed}{arr:Array Keyed}{p:Nat}(hp:arr[p]? = some x)(hx:V x.1)(hy:V key.1){Q:Option Bool->SortSt->Prop}(h:Q (some (bB rk left key x)) st):wpS M A E s (bey left key arr p) Q st:=by
 unfold bey;refine A0H (Ba hp ?_)
 cases left with
 |true=>exact a05 O hk hx hy h
 |false=>
   refine A0H (a05 O hk hy hx (A0T ?_))
   have e:(!decide (rk key.1<rk x.1))=decide (rk x.1<=rk key.1):=by
    by_cases c:rk key.1<rk x.1
    . rw[A0K c,A0R ∅];rfl
    rw[A0R c,A0K ∅];rfl
   show Q (some (!decide (rk key.1<rk x.1))) st;rw[e];exact h
theorem Iq (O:Rkd M A s kd rk V){st:SortSt}(hk:kindOf st=kd){left:Bool}{key:Keyed}{arr:Array Keyed}{base n hint:Nat}{L:List Keyed}(hL:L=(arr.toList.drop base).take n)(hl:L.length=n)(hs:upL rk L)(hn:hint<n)(hV:∀ x∈L,V x.1)(hy:V key.1){Q:Option Nat->SortSt->Prop}
  (h:∀ c d,L=c++d->(∀ x∈c,bB rk left key x=true)->(∀ x∈d,bB rk left key x=false)->Q (some c.length) st):wpS M A E s (aB2 left key arr base n hint) Q st:=by
 have at_:∀ i (hi:i<n),arr[base+i]? = some (L[i]'∅):=λi hi=>by have:L[i]? = some (L[i]'∅):=A04 _;rw[<- this,hL,A2D hi,A5M,A0M]
 have mono:∀ i j (hi:i<=j) (hj:j<L.length),rk (L[i]'∅).1<=rk (L[j]).1:=λi j hij hj=>by
  rcases Nat.lt_or_eq_of_le hij with h|h
  . exact A3H.mp hs i j ∅ hj h
  subst h;exact A05 _
 refine au3 (B:=λi=>if hi:i<L.length then bB rk left key L[i] else false) hn (λi j hij hj hb=>?_) (λi hi Q k=>?_) λk hk1 h1 h2=>?_
 . rw [dif_pos ∅] at hb ⊢;have:=mono i j hij ∅;unfold bB at hb ⊢
   cases left with
   |true=>simp only[if_true,decide_eq_true_eq] at hb ⊢;omega
   |false=>simp only[Bool.false_eq_true,if_false,decide_eq_true_eq] at hb ⊢;omega
 . rw[dif_pos ∅] at k;exact aw7 O hk (at_ i hi) (hV _ (A3J _)) hy k
 have:=h (L.take k) (L.drop k) (A2C k L).symm (λx hx=>?_) (λx hx=>?_)
 . rwa[A0J,A3D ∅] at this
 . obtain⟨i,hi,rfl⟩:=A32 hx;rw[A0J] at hi;have:=h1 i ∅;rw[dif_pos ∅] at this;rw[List.getElem_take];exact this
 obtain⟨i,hi,rfl⟩:=A32 hx;rw[A1K] at hi;have:=h2 (k+i) ∅ ∅;rw[dif_pos ∅] at this;rw[List.getElem_drop];exact this
structure Mg (rk:Value->Nat)(L O A B:List Keyed):Prop where
 pm:(O++(A++B)).Perm L
 up:upL rk O
 le:∀ x∈O,∀ y∈A++B,rk x.1<=rk y.1
theorem Mg.left {L O A B c:List Keyed}(h:Mg rk L O (c++A) B)(hc:upL rk c)(hl:∀ x∈c,∀ y∈A++B,rk x.1<=rk y.1):Mg rk L (O++c) A B:=by
 refine⟨?_,List.pairwise_append.mpr ⟨h.up,hc,λx hx y hy=>h.le x hx y (by simp[hy])⟩,λx hx y hy=>?_⟩
 . have:=h.pm;rwa[A12,<- A12 O] at this
 rcases A0B.mp hx with g|g
 . exact h.le x g y (by rcases List.mem_append.mp hy with q|q<;>simp[q])
 exact hl x g y hy
theorem Mg.flip {L O A B:List Keyed}(h:Mg rk L O A B):Mg rk L O B A:=
 ⟨(List.Perm.append_left O List.perm_append_comm).trans h.pm,h.up,λx hx y hy=>h.le x hx y (by rcases List.mem_append.mp hy with q|q<;>simp[q])⟩
theorem Mg.right {L O A B c:List Keyed}(h:Mg rk L O A (c++B))(hc:upL rk c)(hl:∀ x∈c,∀ y∈A++B,rk x.1<=rk y.1):Mg rk L (O++c) A B:=
 (h.flip.left hc λx hx y hy=>hl x hx y (by rcases List.mem_append.mp hy with q|q<;>simp[q])).flip
def Mgd (rk:Value->Nat)(L O:List Keyed):Prop:=O.Perm L/\upL rk O
theorem Mg.fin {L O A:List Keyed}(h:Mg rk L O A [])(ha:upL rk A):Mgd rk L (O++A):=by have:=h.pm;rw[A17] at this;exact⟨this,List.pairwise_append.mpr ⟨h.up,ha,λx hx y hy=>h.le x hx y (by simp[hy])⟩⟩
theorem Ac {α:Type}{c:Prop}[Decidable c]{t e:StateT SortSt Sem α}{Q:α->SortSt->Prop}{st:SortSt}(h1:c->wpS M A E s t Q st)(h2:¬ c->wpS M A E s e Q st):wpS M A E s (if c then t else e) Q st:=by
 by_cases h:c
 . rw[A0Y h];exact h1 h
 rw[A0P h];exact h2 h
theorem Kz (a:Array Keyed)(i:Nat):(a.extract i).toList=a.toList.drop i:=by rw[A41,A3I];exact A1Z (by rw[A1K,A11];omega)
theorem Oh (a:Array Keyed)(i k:Nat):(a.extract i (i+k)).toList=(a.toList.drop i).take k:=by rw[A41,A3I,A3P]
theorem Kb {a:Array Keyed}{i:Nat}{x:Keyed}(h:a[i]? = some x):a.toList.drop i=x :: a.toList.drop (i+1):=by
 have h':a.toList[i]? = some x:=by rw[A0M];exact h
 obtain⟨hi,e⟩:=A01.mp h';rw[<- e,A36]
def Kp4 (st st':SortSt):Prop:=kindOf st'=kindOf st/\arrOf st'=arrOf st/\pendingOf st'=pendingOf st/\failedOf st'=failedOf st
theorem Kp4.refl (st:SortSt):Kp4 st st:=⟨rfl,rfl,rfl,rfl⟩
structure Two2 (rk:Value->Nat)(V:Value->Prop)(a b:Array Keyed):Prop where
 ua:upL rk a.toList
 ub:upL rk b.toList
 va:∀ x∈a.toList,V x.1
 vb:∀ x∈b.toList,V x.1
 na:0<a.size
 nb:0<b.size
 fst:∀ x∈a.toList,∀ y,b[0]? = some y->rk y.1<rk x.1
 lst:∀ y∈b.toList,∀ x,a[a.size-1]? = some x->rk y.1<rk x.1
def MS (rk:Value->Nat)(a b:Array Keyed)(n:Nat)(out:Array Keyed)(ia ib:Nat):Prop:=Mg rk (a.toList++b.toList) out.toList (a.toList.drop ia) (b.toList.drop ib)/\ia+1<a.size/\ib<b.size/\n<=ia+ib
section
variable {a b out:Array Keyed}{ia ib n:Nat}{x y:Keyed}
theorem upL.drop {L:List Keyed}(h:upL rk L)(i:Nat):upL rk (L.drop i):=A54 (List.drop_sublist _ _) h
theorem ah6 {L:List Keyed}{x:Keyed}(h:upL rk (x :: L)):∀ z∈x :: L,rk x.1<=rk z.1:=λz hz=>by
 rcases A0F.mp hz with rfl|hz
 . exact A05 _
 exact(A25.mp h).1 z hz
theorem Two2.hdA (T:Two2 rk V a b)(h:a[ia]? = some x):∀ z∈a.toList.drop ia,rk x.1<=rk z.1:=by have:=T.ua.drop ia;rw[Kb h] at this ⊢;exact ah6 this
theorem Two2.hdB (T:Two2 rk V a b)(h:b[ib]? = some y):∀ z∈b.toList.drop ib,rk y.1<=rk z.1:=by have:=T.ub.drop ib;rw[Kb h] at this ⊢;exact ah6 this
theorem Jp {L:List Keyed}{i:Nat}:∀ z∈L.drop (i+1),z∈L.drop i:=λz hz=>by rw[<- A2I] at hz;exact A28 hz
theorem Two2.tkB (T:Two2 rk V a b)(m:Mg rk (a.toList++b.toList) out.toList (a.toList.drop ia) (b.toList.drop ib))(hx:a[ia]? = some x)(hy:b[ib]? = some y)(h:rk y.1<=rk x.1):Mg rk (a.toList++b.toList) (out.push y).toList (a.toList.drop ia) (b.toList.drop (ib+1)):=by
 rw[Array.toList_push];refine Mg.right (by rw[A58,<- Kb hy];exact m) (A26 _ _) λu hu z hz=>?_;rw[A16.mp hu];rcases A0B.mp hz with q|q
 . exact A0C h (T.hdA hx z q)
 exact T.hdB hy z (Jp z q)
theorem Two2.tkA (T:Two2 rk V a b)(m:Mg rk (a.toList++b.toList) out.toList (a.toList.drop ia) (b.toList.drop ib))(hx:a[ia]? = some x)(hy:∀ z∈b.toList.drop ib,rk x.1<=rk z.1):Mg rk (a.toList++b.toList) (out.push x).toList (a.toList.drop (ia+1)) (b.toList.drop ib):=by
 rw[Array.toList_push];refine Mg.left (by rw[A58,<- Kb hx];exact m) (A26 _ _) λu hu z hz=>?_;rw[A16.mp hu];rcases A0B.mp hz with q|q
 . exact T.hdA hx z (Jp z q)
 exact hy z q
theorem Two2.dn (T:Two2 rk V a b)(m:Mg rk (a.toList++b.toList) out.toList (a.toList.drop ia) (b.toList.drop ib))(h:ib=b.size):Mgd rk (a.toList++b.toList) (out++a.extract ia++b.extract ib).toList:=by have e:b.toList.drop ib=[]:=A4R (by rw[A11,h];exact A05 _);rw[e] at m;rw[A1T,A1T,Kz,Kz,e,A17];exact m.fin (T.ua.drop ia)
theorem Two2.la (T:Two2 rk V a b)(m:Mg rk (a.toList++b.toList) out.toList (a.toList.drop ia) (b.toList.drop ib))(h:ia+1=a.size):Mgd rk (a.toList++b.toList) (out++b.extract ib++a.extract ia).toList:=by
 have hx:a[ia]? = some a[ia]:=A1H ∅
 have e:a.toList.drop ia=[a[ia]]:=by rw[Kb hx,A4R (by rw[A11];omega)]
 rw[A1T,A1T,Kz,Kz,e];rw[e] at m;refine(Mg.right (B:=[]) (c:=b.toList.drop ib) (by rw[A17];exact m) (T.ub.drop ib) λu hu z hz=>?_).fin (A26 _ _);rw[A17] at hz;rw[A16.mp hz];exact A1F (T.lst u (A28 hu) _ (by rw[show a.size-1=ia by omega];exact hx))
end
def aA3:Nat->StateT SortSt Sem Unit:=sortPriv% PySem.Builtin.setMinGallop
theorem Oy {g:Nat}{st st':SortSt}(kp:Kp4 st st'){Q:Unit->SortSt->Prop}(h:∀ st2,Kp4 st st2->Q () st2):wpS M A E s (aA3 g) Q st':=A5A (h _ ⟨kp.1,kp.2.1,kp.2.2.1,kp.2.2.2⟩)
abbrev GSt:Type:=Option (Array Keyed)×Array Keyed×Nat×Nat×Nat×Nat×Nat
def StP (rk:Value->Nat)(P:Nat->Array Keyed->Nat->Nat->Prop)(L:List Keyed)(n1 n2:Nat)(st:SortSt):ForInStep GSt->SortSt->Prop
 |.done c,st'=>Kp4 st st'/\((∃ r,c.1=some r/\Mgd rk L r.toList)\/∃ out ia ib g p q,c=(none,out,ia,ib,g,p,q)/\P n1 out ia ib)
 |.yield c,st'=>Kp4 st st'/\∃ out ia ib g p q,c=(none,out,ia,ib,g,p,q)/\P n2 out ia ib
theorem ar5 (O:Rkd M A s kd rk V){st:SortSt}(hk:kindOf st=kd){a b:Array Keyed}(T:Two2 rk V a b){Q:Array Keyed->SortSt->Prop}(k:∀ r st',Mgd rk (a.toList++b.toList) r.toList->Kp4 st st'->Q r st'):wpS M A E s (aE4 a b) Q st:=by
 have Va:∀ {i:Nat} {x:Keyed},a[i]? = some x->V x.1:=fun {i x} h=>T.va x (by rw[<- A0M] at h;exact A03 h);have Vb:∀ {i:Nat} {x:Keyed},b[i]? = some x->V x.1:=fun {i x} h=>T.vb x (by rw[<- A0M] at h;exact A03 h);have atA:∀ {i:Nat},i<a.size->∃ x,a[i]? = some x:=fun {i} h=>⟨_,A1H h⟩;have atB:∀ {i:Nat},i<b.size->∃ x,b[i]? = some x:=fun {i} h=>⟨_,A1H h⟩;obtain⟨y0,hy0⟩:=atB T.nb;obtain⟨x0,hx0⟩:=atA T.na;have m0:Mg rk (a.toList++b.toList) (#[]:Array Keyed).toList (a.toList.drop 0) (b.toList.drop 0):=⟨A3U _,A2K,λx hx=>(nomatch hx)⟩;have m1:=T.tkB m0 hx0 hy0 (A1F (T.fst x0 (by rw[<- A0M] at hx0;exact A03 hx0) y0 hy0));unfold aE4;refine A0H ?_;refine wpS_lift (A42 ⟨rfl,?_⟩)
 extract_lets -merge total done last
 refine A0H (Ba hy0 ?_);refine Ac (λhc=>?_) (λhc=>?_)
 . exact A0T (k _ st (T.dn m1 (A10.mp hc)) (.refl _))
 refine Ac (λhc2=>?_) (λhc2=>?_)
 . exact A0T (k _ st (T.la m1 (A10.mp hc2)) (.refl _))
 have hb1:1<b.size:=by have:=T.nb;have:¬ (1=b.size):=λe=>hc (A10.mpr e);omega
 have ha1:0+1<a.size:=by have:=T.na;have:¬ (0+1=a.size):=λe=>hc2 (A10.mpr e);omega
 refine A0H (A57 ?_)
 refine A0H (A2T (A1Y (I:=λj c st'=>Kp4 st st'/\∃ out ia ib g,c=(none,out,ia,ib,g)/\MS rk a b j out ia ib)
  (Q:=λc st'=>Kp4 st st'/\∃ r,c.1=some r/\Mgd rk (a.toList++b.toList) r.toList)
  (λj c st1 _ hj hI=>?_) (λc st1 hI=>?_) ⟨.refl _,_,0,1,_,rfl,m1,ha1,hb1,by omega⟩) λc st1 hI=>?_)
 . obtain⟨kp1,out,ia,ib,g,rfl,ms⟩:=hI;have hk1:kindOf st1=kd:=kp1.1.trans hk
   refine A0H (A2T (A1Y (I:=λi c st'=>st'=st1/\∃ out ia ib p q,c=(none,out,ia,ib,p,q)/\MS rk a b (j+i) out ia ib)
    (Q:=λc st'=>st'=st1/\((∃ r,c.1=some r/\Mgd rk (a.toList++b.toList) r.toList)\/∃ out ia ib p q,c=(none,out,ia,ib,p,q)/\MS rk a b (j+1) out ia ib))
    (λi c st' _ hi hI=>?_) (λc st' hI=>?_) ⟨rfl,out,ia,ib,0,0,rfl,ms⟩) λc st' hI=>?_)
   . obtain⟨rfl,out,ia,ib,p,q,rfl,mg,h1,h2,h3⟩:=hI;obtain⟨x,hx⟩:=atA (i:=ia) ∅;obtain⟨y,hy⟩:=atB h2;refine A0H (Ba hy (A0H (Ba hx (A0H (a05 O hk1 (Vb hy) (Va hx) ?_)))));refine Ac (λhc=>?_) (λhc=>?_)
     . have m2:=T.tkB mg hx hy (A1F (A1A hc));refine A0H (Ba hy ?_);refine Ac (λhb=>?_) (λhb=>?_)
       . exact A0T ⟨rfl,.inl ⟨_,rfl,T.dn m2 (A10.mp hb)⟩⟩
       have hb':ib+1<b.size:=by have:¬ (ib+1=b.size):=λe=>hb (A10.mpr e);omega
       refine Ac (λ_=>?_) (λ_=>?_)
       . exact A0T ⟨rfl,.inr ⟨_,_,_,_,_,rfl,m2,h1,hb',show j+1<=ia+(ib+1) by omega⟩⟩
       exact A0T ⟨rfl,_,_,_,_,_,rfl,m2,h1,hb',show j+(i+1)<=ia+(ib+1) by omega⟩
     have hle:rk x.1<=rk y.1:=by have:¬ rk y.1<rk x.1:=λh=>hc (A0K h);omega
     have m2:=T.tkA mg hx λz hz=>A0C hle (T.hdB hy z hz);refine A0H (Ba hx ?_);refine Ac (λha=>?_) (λha=>?_)
     . exact A0T ⟨rfl,.inl ⟨_,rfl,T.la m2 (A10.mp ha)⟩⟩
     have ha':ia+1+1<a.size:=by have:¬ (ia+1+1=a.size):=λe=>ha (A10.mpr e);omega
     refine Ac (λ_=>?_) (λ_=>?_)
     . exact A0T ⟨rfl,.inr ⟨_,_,_,_,_,rfl,m2,ha',h2,show j+1<=ia+1+ib by omega⟩⟩
     exact A0T ⟨rfl,_,_,_,_,_,rfl,m2,ha',h2,show j+(i+1)<=ia+1+ib by omega⟩
   . obtain⟨_,out,ia,ib,p,q,rfl,_,h1,h2,h3⟩:=hI;omega
   obtain⟨rfl,hI⟩:=hI;rcases hI with ⟨r,hr,hm⟩|⟨out,ia,ib,p,q,rfl,ms⟩
   . obtain⟨c1,c2⟩:=c;dsimp only at hr;subst hr;exact A0T ⟨kp1,r,rfl,hm⟩
   refine A0H ?_;refine wpS_lift (A42 ⟨rfl,?_⟩)
   refine A0H (A2T (A1Y (I:=λi c st'=>Kp4 st st'/\∃ out ia ib g p q,c=(none,out,ia,ib,g,p,q)/\MS rk a b (j+1+i) out ia ib)
    (Q:=λc st'=>Kp4 st st'/\((∃ r,c.1=some r/\Mgd rk (a.toList++b.toList) r.toList)\/∃ out ia ib g p q,c=(none,out,ia,ib,g,p,q)/\MS rk a b (j+1) out ia ib))
    (λi c st' _ hi hI=>?_) (λc st' hI=>?_) ⟨kp1,out,ia,ib,_,_,_,rfl,ms⟩) λc st' hI=>?_)
   . obtain⟨kp,out,ia,ib,g,p,q,rfl,mg,h1,h2,h3⟩:=hI;obtain⟨y,hy⟩:=atB h2;refine A2T (Q:=StP rk (MS rk a b) (a.toList++b.toList) (j+1) (j+1+(i+1)) st) ?_ λr st' h=>by cases r<;>exact h
     extract_lets -merge s1 o1 s2 ia1 s3 ib1 s4 mg1 s5 ac bc ib2 jp
     have jpm:∀ g',wpS M A E s (jp () g') (StP rk (MS rk a b) (a.toList++b.toList) (j+1) (j+1+(i+1)) st) st':=λg'=>by
      refine A0H (Oy kp λst2 kp2=>?_);have hk2:kindOf st2=kd:=kp2.1.trans hk;refine A0H (Ba hy ?_);have hlA:(a.toList.drop ia).length=a.size-ia:=by rw[A1K,A11]
      refine A0H (Iq O hk2 (L:=a.toList.drop ia) (show _=(a.toList.drop ia).take (a.size-ia) from(A1Z ∅).symm) hlA (T.ua.drop ia) ∅ (λx hx=>T.va x (A28 hx)) (Vb hy) λc d hcd hc hd=>?_);have hc':∀ x∈c,rk x.1<=rk y.1:=λx hx=>A1A (hc x hx)
      have hd':∀ x∈d,rk y.1<rk x.1:=λx hx=>by have:¬ rk x.1<=rk y.1:=A27 (hd x hx);omega
      have hcl:c.length+d.length=a.size-ia:=by rw[<- hlA,hcd,A08]
      have hex:(a.extract ia (ia+c.length)).toList=c:=by rw[Oh,hcd,A2B]
      have hdr:a.toList.drop (ia+c.length)=d:=by rw[<- A2I,hcd,A1M]
      have hua:upL rk (c++d):=hcd ▸ T.ua.drop ia
      have mA:Mg rk (a.toList++b.toList) (out++a.extract ia (ia+c.length)).toList (a.toList.drop (ia+c.length)) (b.toList.drop ib):=by
       rw[A1T,hex,hdr];refine Mg.left (by rw[<- hcd];exact mg) (A14.mp hua).1 λx hx z hz=>?_;rcases A0B.mp hz with u|u
       . exact(A14.mp hua).2.2 x hx z u
       exact A0C (hc' x hx) (T.hdB hy z u)
      have hdn:0<d.length:=by
       rcases Nat.eq_zero_or_pos d.length with e|e
       . exfalso;obtain⟨z,hz⟩:=atA (i:=a.size-1) ∅
         have:z∈c:=by
          have h0:z∈a.toList.drop ia:=by rw[<- A0M] at hz;refine A03 (i:=a.size-1-ia) ?_;rw[A5M,show ia+(a.size-1-ia)=a.size-1 by omega];exact hz
          rw[hcd,A0D.mp e,A17] at h0;exact h0
         have:=hc' z this;have:=T.lst y (by rw[<- A0M] at hy;exact A03 hy) z hz;omega
       exact e
      dsimp -zeta only
      extract_lets -merge ac2 jp2
      have jp2_ok:∀ o3 i3,Mg rk (a.toList++b.toList) o3.toList (a.toList.drop i3) (b.toList.drop ib)->i3+1<a.size->ia<=i3->(∀ z∈a.toList.drop i3,rk y.1<rk z.1)->wpS M A E s (jp2 () o3 i3) (StP rk (MS rk a b) (a.toList++b.toList) (j+1) (j+1+(i+1)) st) st2:=λo3 i3 m3 h4 h5 h6=>by
       obtain⟨x,hx⟩:=atA (i:=i3) ∅;have hxi:x∈a.toList.drop i3:=by rw[Kb hx];exact A0S
       have m4:=T.tkB m3 hx hy (A1F (h6 x hxi));refine A0H (Ba hy ?_);refine Ac (λhb=>?_) (λhb=>?_)
       . exact A0T ⟨kp2,.inl ⟨_,rfl,T.dn m4 (A10.mp hb)⟩⟩
       have hb':ib+1<b.size:=by have:¬ (ib+1=b.size):=λe=>hb (A10.mpr e);omega
       refine A0H (Ba hx ?_);have hlB:(b.toList.drop (ib+1)).length=b.size-(ib+1):=by rw[A1K,A11]
       refine A0H (Iq O hk2 (L:=b.toList.drop (ib+1)) (show _=(b.toList.drop (ib+1)).take (b.size-(ib+1)) from(A1Z ∅).symm) hlB (T.ub.drop _) (show 0<b.size-(ib+1) by omega) (λx hx=>T.vb x (A28 hx)) (Va hx) λc2 d2 hcd2 hc2 hd2=>?_);have hc2':∀ z∈c2,rk z.1<rk x.1:=λz hz=>A1A (hc2 z hz)
       have hd2':∀ z∈d2,rk x.1<=rk z.1:=λz hz=>by have:¬ rk z.1<rk x.1:=A27 (hd2 z hz);omega
       have hcl2:c2.length+d2.length=b.size-(ib+1):=by rw[<- hlB,hcd2,A08]
       have hub:upL rk (c2++d2):=hcd2 ▸ T.ub.drop (ib+1);have hdr2:b.toList.drop (ib+1+c2.length)=d2:=by rw[<- A2I,hcd2,A1M]
       have mB:Mg rk (a.toList++b.toList) (o3.push y++b.extract (ib+1) (ib+1+c2.length)).toList (a.toList.drop i3) (b.toList.drop (ib+1+c2.length)):=by
        rw[A1T,Oh,hcd2,A2B,hdr2];refine Mg.right (by rw[<- hcd2];exact m4) (A14.mp hub).1 λz hz u hu=>?_;rcases A0B.mp hu with w|w
        . exact A0C (A1F (hc2' z hz)) (T.hdA hx u w)
        exact(A14.mp hub).2.2 z hz u w
       dsimp -zeta only
       extract_lets -merge bc2 ia3 jp3
       have jp3_ok:∀ o4 i4,Mg rk (a.toList++b.toList) o4.toList (a.toList.drop i3) (b.toList.drop i4)->i4<b.size->ib+1<=i4->(∀ z∈b.toList.drop i4,rk x.1<=rk z.1)->wpS M A E s (jp3 () o4 i4) (StP rk (MS rk a b) (a.toList++b.toList) (j+1) (j+1+(i+1)) st) st2:=λo4 i4 m5 g1 g2 g3=>by
        have m6:=T.tkA m5 hx g3;refine A0H (Ba hx ?_);refine Ac (λhl=>?_) (λhl=>?_)
        . exact A0T ⟨kp2,.inl ⟨_,rfl,T.la m6 (A10.mp hl)⟩⟩
        have hl':i3+1+1<a.size:=by have:¬ (i3+1+1=a.size):=λe=>hl (A10.mpr e);omega
        refine Ac (λ_=>?_) (λ_=>?_)
        . exact A0T ⟨kp2,.inr ⟨_,_,_,_,_,_,rfl,m6,hl',g1,show j+1<=i3+1+i4 by omega⟩⟩
        exact A0T ⟨kp2,_,_,_,_,_,_,rfl,m6,hl',g1,show j+1+(i+1)<=i3+1+i4 by omega⟩
       refine Ac (λhk0=>?_) (λhk0=>?_)
       . refine Ac (λhe=>?_) (λhe=>?_)
         . exact A0T ⟨kp2,.inl ⟨_,rfl,T.dn mB (A10.mp he)⟩⟩
         have he':¬ (ib+1+c2.length=b.size):=λe=>he (A10.mpr e);exact jp3_ok _ _ mB (show ib+1+c2.length<b.size by omega) (show ib+1<=ib+1+c2.length by omega) (show ∀ z∈b.toList.drop (ib+1+c2.length),rk x.1<=rk z.1 by rw[hdr2];exact hd2')
       have h0:c2=[]:=A0D.mp ∅;refine jp3_ok _ _ m4 hb' (A05 _) ?_;show ∀ z∈b.toList.drop (ib+1),rk x.1<=rk z.1;rw[hcd2,h0];exact hd2'
      refine Ac (λhk0=>?_) (λhk0=>?_)
      . refine Ac (λhl=>?_) (λhl=>?_)
        . exact A0T ⟨kp2,.inl ⟨_,rfl,T.la mA (A10.mp hl)⟩⟩
        have hl':¬ (ia+c.length+1=a.size):=λe=>hl (A10.mpr e);refine Ac (λhe=>?_) (λhe=>?_)
        . have he':ia+c.length=a.size:=A10.mp he;omega
        exact jp2_ok _ _ mA (show ia+c.length+1<a.size by omega) (show ia<=ia+c.length by omega) (show ∀ z∈a.toList.drop (ia+c.length),rk y.1<rk z.1 by rw[hdr];exact hd')
      have h0:c=[]:=A0D.mp ∅;refine jp2_ok _ _ mg h1 (A05 _) ?_;rw[hcd,h0];exact hd'
     exact Ac (λ_=>jpm _) (λ_=>jpm _)
   . obtain⟨_,out,ia,ib,g,p,q,rfl,_,h1,h2,h3⟩:=hI;omega
   obtain⟨kp,hI⟩:=hI;rcases hI with ⟨r,hr,hm⟩|⟨out,ia,ib,g,p,q,rfl,ms⟩
   . obtain⟨c1,c2⟩:=c;dsimp only at hr;subst hr;exact A0T ⟨kp,r,rfl,hm⟩
   refine A0H (Oy kp λst2 kp2=>?_);exact A0T ⟨kp2,out,ia,ib,_,rfl,ms⟩
 . obtain⟨_,out,ia,ib,g,rfl,_,h1,h2,h3⟩:=hI;omega
 obtain⟨kp1,r,hr,hm⟩:=hI;obtain⟨c1,c2⟩:=c;dsimp only at hr;subst hr;exact A0T (k r st1 hm kp1)
end
structure MgH (rk:Value->Nat)(L A B O:List Keyed):Prop where
 pm:(A++B++O).Perm L
 up:upL rk O
 le:∀ x∈O,∀ y∈A++B,rk y.1<=rk x.1
section
variable {M:Model}{A:Around}{E:Value->Shared->Prop}{s:Shared}{kd:SortKind}{rk:Value->Nat}{V:Value->Prop}
theorem MgH.right {L A B O c:List Keyed}(h:MgH rk L A (B++c) O)(hc:upL rk c)(hl:∀ x∈c,∀ y∈A++B,rk y.1<=rk x.1):MgH rk L A B (c++O):=by
 refine⟨?_,List.pairwise_append.mpr ⟨hc,h.up,λx hx y hy=>h.le y hy x (by simp[hx])⟩,λx hx y hy=>?_⟩
 . have:=h.pm;rwa[<- A12 A,A12] at this
 rcases A0B.mp hx with g|g
 . exact hl x g y hy
 exact h.le x g y (by rcases List.mem_append.mp hy with q|q<;>simp[q])
theorem MgH.flip {L A B O:List Keyed}(h:MgH rk L A B O):MgH rk L B A O:=
 ⟨(List.Perm.append_right O List.perm_append_comm).trans h.pm,h.up,λx hx y hy=>h.le x hx y (by rcases List.mem_append.mp hy with q|q<;>simp[q])⟩
theorem MgH.left {L A B O c:List Keyed}(h:MgH rk L (A++c) B O)(hc:upL rk c)(hl:∀ x∈c,∀ y∈A++B,rk y.1<=rk x.1):MgH rk L A B (c++O):=
 (h.flip.right hc λx hx y hy=>hl x hx y (by rcases List.mem_append.mp hy with q|q<;>simp[q])).flip
theorem MgH.fin {L B O:List Keyed}(h:MgH rk L [] B O)(hb:upL rk B):Mgd rk L (B++O):=by have:=h.pm;rw[A2Y] at this;exact⟨this,List.pairwise_append.mpr ⟨hb,h.up,λx hx y hy=>h.le y hy x (by simp[hx])⟩⟩
theorem L3 {a:Array Keyed}{i:Nat}{x:Keyed}(h:a[i]? = some x):a.toList.take (i+1)=a.toList.take i++[x]:=by
 have h':a.toList[i]? = some x:=by rw[A0M];exact h
 rw[A0L,h'];rfl
theorem Kr (a:Array Keyed)(i:Nat):(a.extract 0 i).toList=a.toList.take i:=by rw[A41,A3I,List.drop_zero,Nat.sub_zero]
theorem a04 (a:Array Keyed)(i j:Nat):(a.extract i j).toList=(a.toList.take j).drop i:=by rw[A41,A3I,List.drop_take]
def rvL (out:Array Keyed):List Keyed:=out.toList.reverse
theorem Yc (out:Array Keyed)(x:Keyed):rvL (out.push x)=[x]++rvL out:=by unfold rvL;rw[Array.toList_push,List.reverse_append];rfl
theorem ab9 (out c:Array Keyed):rvL (out++c.reverse)=c.toList++rvL out:=by unfold rvL;rw[Array.toList_append,Array.toList_reverse,List.reverse_append,List.reverse_reverse]
section
variable {a b out:Array Keyed}{m n:Nat}{x y:Keyed}
theorem upL.take {L:List Keyed}(h:upL rk L)(i:Nat):upL rk (L.take i):=A54 (List.take_sublist _ _) h
theorem Two2.ltA (T:Two2 rk V a b)(h:a[m]? = some x):∀ z∈a.toList.take (m+1),rk z.1<=rk x.1:=λz hz=>by
 have:=T.ua.take (m+1);rw[L3 h] at this hz;rcases A0B.mp hz with q|q
 . exact(List.pairwise_append.mp this).2.2 z q x (by simp)
 rw[A16.mp q];exact A05 _
theorem Two2.ltB (T:Two2 rk V a b)(h:b[n]? = some y):∀ z∈b.toList.take (n+1),rk z.1<=rk y.1:=λz hz=>by
 have:=T.ub.take (n+1);rw[L3 h] at this hz;rcases A0B.mp hz with q|q
 . exact(List.pairwise_append.mp this).2.2 z q y (by simp)
 rw[A16.mp q];exact A05 _
theorem Uu {L:List Keyed}{i:Nat}:∀ z∈L.take i,z∈L.take (i+1):=λz hz=>by rw[A0L];exact A2G _ hz
theorem Two2.tkAh (T:Two2 rk V a b)(g:MgH rk (a.toList++b.toList) (a.toList.take (m+1)) (b.toList.take n) (rvL out))(hx:a[m]? = some x)(hy:∀ z∈b.toList.take n,rk z.1<=rk x.1):MgH rk (a.toList++b.toList) (a.toList.take m) (b.toList.take n) (rvL (out.push x)):=by
 rw[Yc];refine MgH.left (by rw[<- L3 hx];exact g) (A26 _ _) λu hu z hz=>?_;rw[A16.mp hu];rcases A0B.mp hz with q|q
 . exact T.ltA hx z (Uu z q)
 exact hy z q
theorem Two2.tkBh (T:Two2 rk V a b)(g:MgH rk (a.toList++b.toList) (a.toList.take m) (b.toList.take (n+1)) (rvL out))(hy:b[n]? = some y)(hx:∀ z∈a.toList.take m,rk z.1<=rk y.1):MgH rk (a.toList++b.toList) (a.toList.take m) (b.toList.take n) (rvL (out.push y)):=by
 rw[Yc];refine MgH.right (by rw[<- L3 hy];exact g) (A26 _ _) λu hu z hz=>?_;rw[A16.mp hu];rcases A0B.mp hz with q|q
 . exact hx z q
 exact T.ltB hy z (Uu z q)
theorem Two2.dnh (T:Two2 rk V a b)(g:MgH rk (a.toList++b.toList) (a.toList.take m) (b.toList.take n) (rvL out))(h:m=0):Mgd rk (a.toList++b.toList) (a.extract 0 m++b.extract 0 n++out.reverse).toList:=by subst h;rw[List.take_zero] at g;rw[A1T,A1T,Kr,Kr,Array.toList_reverse,List.take_zero,A2Y];exact g.fin (T.ub.take n)
theorem Two2.fbh (T:Two2 rk V a b)(g:MgH rk (a.toList++b.toList) (a.toList.take m) (b.toList.take n) (rvL out))(h:n=1):Mgd rk (a.toList++b.toList) (b.extract 0 n++a.extract 0 m++out.reverse).toList:=by
 subst h;have hb:=T.nb;have hy:b[0]? = some b[0]:=A1H hb;have e:b.toList.take 1=[b[0]]:=by rw[L3 hy,List.take_zero];rfl
 rw[e] at g;rw[A1T,A1T,Kr,Kr,Array.toList_reverse,e,A12];refine MgH.fin (MgH.left (A:=[]) (by rw[A2Y];exact g) (T.ua.take m) λx hx z hz=>?_) (A26 _ _);rw[A2Y] at hz;rw[A16.mp hz];exact A1F (T.fst x (A1E hx) _ hy)
end
def MSH (rk:Value->Nat)(a b:Array Keyed)(k:Nat)(out:Array Keyed)(na nb:Nat):Prop:=MgH rk (a.toList++b.toList) (a.toList.take na) (b.toList.take nb) (rvL out)/\1<=na/\2<=nb/\na<=a.size/\nb<=b.size/\k+na+nb<=a.size+b.size
abbrev GSh:Type:=Option (Array Keyed)×Nat×Nat×Array Keyed×Nat×Nat×Nat
def StH (rk:Value->Nat)(P:Nat->Array Keyed->Nat->Nat->Prop)(L:List Keyed)(n1 n2:Nat)(st:SortSt):ForInStep GSh->SortSt->Prop
 |.done c,st'=>Kp4 st st'/\((∃ r,c.1=some r/\Mgd rk L r.toList)\/∃ na nb out g p q,c=(none,na,nb,out,g,p,q)/\P n1 out na nb)
 |.yield c,st'=>Kp4 st st'/\∃ na nb out g p q,c=(none,na,nb,out,g,p,q)/\P n2 out na nb
theorem ar4 (O:Rkd M A s kd rk V){st:SortSt}(hk:kindOf st=kd){a b:Array Keyed}(T:Two2 rk V a b){Q:Array Keyed->SortSt->Prop}(k:∀ r st',Mgd rk (a.toList++b.toList) r.toList->Kp4 st st'->Q r st'):wpS M A E s (aF6 a b) Q st:=by
 have Va:∀ {i:Nat} {x:Keyed},a[i]? = some x->V x.1:=fun {i x} h=>T.va x (by rw[<- A0M] at h;exact A03 h);have Vb:∀ {i:Nat} {x:Keyed},b[i]? = some x->V x.1:=fun {i x} h=>T.vb x (by rw[<- A0M] at h;exact A03 h);have atA:∀ {i:Nat},i<a.size->∃ x,a[i]? = some x:=fun {i} h=>⟨_,A1H h⟩;have atB:∀ {i:Nat},i<b.size->∃ x,b[i]? = some x:=fun {i} h=>⟨_,A1H h⟩;obtain⟨m,hm⟩:∃ m,a.size=m+1:=⟨a.size-1,by have:=T.na;omega⟩;obtain⟨x0,hx0⟩:=atA (i:=m) ∅;have hx0':a[a.size-1]? = some x0:=by rw[show a.size-1=m by omega];exact hx0
 have m0:MgH rk (a.toList++b.toList) (a.toList.take (m+1)) (b.toList.take b.size) (rvL #[]):=by rw[A1Z (by rw[A11];omega),A1Z (by rw[A11];omega)];exact⟨by show(a.toList++b.toList++[]).Perm _;rw[A17],A2K,λx hx=>(nomatch hx)⟩
 have m1:=T.tkAh m0 hx0 λz hz=>A1F (T.lst z (A1E hz) x0 hx0');unfold aF6;refine A0H ?_;refine wpS_lift (A42 ⟨rfl,?_⟩)
 extract_lets -merge total done first na nb
 refine A0H (Ba hx0' ?_);rw[show m=a.size-1 by omega] at m1;refine Ac (λhc=>?_) (λhc=>?_)
 . exact A0T (k _ st (T.dnh m1 (A10.mp hc)) (.refl _))
 refine Ac (λhc2=>?_) (λhc2=>?_)
 . exact A0T (k _ st (T.fbh m1 (A10.mp hc2)) (.refl _))
 have ha1:1<=a.size-1:=by have:¬ (a.size-1=0):=λe=>hc (A10.mpr e);omega
 have hb1:2<=b.size:=by have:=T.nb;have:¬ (b.size=1):=λe=>hc2 (A10.mpr e);omega
 refine A0H (A57 ?_)
 refine A0H (A2T (A1Y (I:=λj c st'=>Kp4 st st'/\∃ na nb out g,c=(none,na,nb,out,g)/\MSH rk a b j out na nb)
  (Q:=λc st'=>Kp4 st st'/\∃ r,c.1=some r/\Mgd rk (a.toList++b.toList) r.toList)
  (λj c st1 _ hj hI=>?_) (λc st1 hI=>?_) ⟨.refl _,_,_,_,_,rfl,m1,ha1,hb1,by omega,A05 _,by omega⟩) λc st1 hI=>?_)
 . obtain⟨kp1,na,nb,out,g,rfl,ms⟩:=hI;have hk1:kindOf st1=kd:=kp1.1.trans hk
   refine A0H (A2T (A1Y (I:=λi c st'=>st'=st1/\∃ na nb out p q,c=(none,na,nb,out,p,q)/\MSH rk a b (j+i) out na nb)
    (Q:=λc st'=>st'=st1/\((∃ r,c.1=some r/\Mgd rk (a.toList++b.toList) r.toList)\/∃ na nb out p q,c=(none,na,nb,out,p,q)/\MSH rk a b (j+1) out na nb))
    (λi c st' _ hi hI=>?_) (λc st' hI=>?_) ⟨rfl,na,nb,out,0,0,rfl,ms⟩) λc st' hI=>?_)
   . obtain⟨rfl,na,nb,out,p,q,rfl,mg,h1,h2,h3,h4,h5⟩:=hI;obtain⟨na,rfl⟩:∃ m,na=m+1:=⟨na-1,by omega⟩;obtain⟨nb,rfl⟩:∃ m,nb=m+1:=⟨nb-1,by omega⟩;obtain⟨x,hx⟩:=atA (i:=na) ∅;obtain⟨y,hy⟩:=atB (i:=nb) ∅;refine A0H (Ba hy (A0H (Ba hx (A0H (a05 O hk1 (Vb hy) (Va hx) ?_)))));refine Ac (λhc=>?_) (λhc=>?_)
     . have hlt:rk y.1<rk x.1:=A1A hc;have m2:=T.tkAh mg hx λz hz=>A0C (T.ltB hy z hz) (A1F hlt);refine A0H (Ba hx ?_);refine Ac (λhb=>?_) (λhb=>?_)
       . exact A0T ⟨rfl,.inl ⟨_,rfl,T.dnh m2 (A10.mp hb)⟩⟩
       have hb':1<=na:=by have:¬ (na=0):=λe=>hb (A10.mpr e);omega
       refine Ac (λ_=>?_) (λ_=>?_)
       . exact A0T ⟨rfl,.inr ⟨_,_,_,_,_,rfl,m2,hb',h2,show na<=a.size by omega,h4,show j+1+na+(nb+1)<=a.size+b.size by omega⟩⟩
       exact A0T ⟨rfl,_,_,_,_,_,rfl,m2,hb',h2,show na<=a.size by omega,h4,show j+(i+1)+na+(nb+1)<=a.size+b.size by omega⟩
     have hle:rk x.1<=rk y.1:=by have:¬ rk y.1<rk x.1:=λh=>hc (A0K h);omega
     have m2:=T.tkBh mg hy λz hz=>A0C (T.ltA hx z hz) hle;refine A0H (Ba hy ?_);refine Ac (λhb=>?_) (λhb=>?_)
     . exact A0T ⟨rfl,.inl ⟨_,rfl,T.fbh m2 (A10.mp hb)⟩⟩
     have hb':2<=nb:=by have:¬ (nb=1):=λe=>hb (A10.mpr e);omega
     refine Ac (λ_=>?_) (λ_=>?_)
     . exact A0T ⟨rfl,.inr ⟨_,_,_,_,_,rfl,m2,h1,hb',h3,show nb<=b.size by omega,show j+1+(na+1)+nb<=a.size+b.size by omega⟩⟩
     exact A0T ⟨rfl,_,_,_,_,_,rfl,m2,h1,hb',h3,show nb<=b.size by omega,show j+(i+1)+(na+1)+nb<=a.size+b.size by omega⟩
   . obtain⟨_,na,nb,out,p,q,rfl,_,h1,h2,h3,h4,h5⟩:=hI;omega
   obtain⟨rfl,hI⟩:=hI;rcases hI with ⟨r,hr,hm⟩|⟨na,nb,out,p,q,rfl,ms⟩
   . obtain⟨c1,c2⟩:=c;dsimp only at hr;subst hr;exact A0T ⟨kp1,r,rfl,hm⟩
   refine A0H ?_;refine wpS_lift (A42 ⟨rfl,?_⟩)
   refine A0H (A2T (A1Y (I:=λi c st'=>Kp4 st st'/\∃ na nb out g p q,c=(none,na,nb,out,g,p,q)/\MSH rk a b (j+1+i) out na nb)
    (Q:=λc st'=>Kp4 st st'/\((∃ r,c.1=some r/\Mgd rk (a.toList++b.toList) r.toList)\/∃ na nb out g p q,c=(none,na,nb,out,g,p,q)/\MSH rk a b (j+1) out na nb))
    (λi c st' _ hi hI=>?_) (λc st' hI=>?_) ⟨kp1,na,nb,out,_,_,_,rfl,ms⟩) λc st' hI=>?_)
   . obtain⟨kp,na,nb,out,g,p,q,rfl,mg,h1,h2,h3,h4,h5⟩:=hI;obtain⟨nb,rfl⟩:∃ m,nb=m+1:=⟨nb-1,by omega⟩;obtain⟨y,hy⟩:=atB (i:=nb) ∅;refine A2T (Q:=StH rk (MSH rk a b) (a.toList++b.toList) (j+1) (j+1+(i+1)) st) ?_ λr st' h=>by cases r<;>exact h
     extract_lets -merge s1 na1 s2 nb1 s3 o1 s4 mg1 s5 ac bc nb2 jp
     have jpm:∀ g',wpS M A E s (jp () g') (StH rk (MSH rk a b) (a.toList++b.toList) (j+1) (j+1+(i+1)) st) st':=λg'=>by
      refine A0H (Oy kp λst2 kp2=>?_);have hk2:kindOf st2=kd:=kp2.1.trans hk;refine A0H (Ba hy ?_);have hlA:(a.toList.take na).length=na:=by rw[A0J,A11];omega
      refine A0H (Iq O hk2 (L:=a.toList.take na) rfl hlA (T.ua.take na) (show na-1<na by omega) (λx hx=>T.va x (A1E hx)) (Vb hy) λc d hcd hc hd=>?_);have hc':∀ x∈c,rk x.1<=rk y.1:=λx hx=>A1A (hc x hx)
      have hd':∀ x∈d,rk y.1<rk x.1:=λx hx=>by have:¬ rk x.1<=rk y.1:=A27 (hd x hx);omega
      have hcl:c.length+d.length=na:=by rw[<- hlA,hcd,A08]
      have hua:upL rk (c++d):=hcd ▸ T.ua.take na
      have htk:a.toList.take c.length=c:=by have:=congrArg (List.take c.length) hcd;rwa[List.take_take,A3D ∅,A2B] at this
      have mA:MgH rk (a.toList++b.toList) (a.toList.take c.length) (b.toList.take (nb+1)) (rvL (out++(a.extract c.length na).reverse)):=by
       rw[ab9,a04,hcd,A1M,htk];refine MgH.left (by rw[<- hcd];exact mg) (A14.mp hua).2.1 λx hx z hz=>?_;rcases A0B.mp hz with u|u
       . exact(A14.mp hua).2.2 z u x hx
       exact A0C (T.ltB hy z u) (A1F (hd' x hx))
      dsimp -zeta only
      extract_lets -merge k1 ac2 jp2
      have jp2_ok:∀ n3 o3,MgH rk (a.toList++b.toList) (a.toList.take n3) (b.toList.take (nb+1)) (rvL o3)->1<=n3->n3<=na->(∀ z∈a.toList.take n3,rk z.1<=rk y.1)->wpS M A E s (jp2 () n3 o3) (StH rk (MSH rk a b) (a.toList++b.toList) (j+1) (j+1+(i+1)) st) st2:=λn3 o3 m3 g1 g2 g3=>by
       obtain⟨p,rfl⟩:∃ m,n3=m+1:=⟨n3-1,by omega⟩;obtain⟨x,hx⟩:=atA (i:=p) ∅;have m4:=T.tkBh m3 hy g3;refine A0H (Ba hy ?_);refine Ac (λhb=>?_) (λhb=>?_)
       . exact A0T ⟨kp2,.inl ⟨_,rfl,T.fbh m4 (A10.mp hb)⟩⟩
       have hb':2<=nb:=by have:¬ (nb=1):=λe=>hb (A10.mpr e);omega
       refine A0H (Ba hx ?_);have hlB:(b.toList.take nb).length=nb:=by rw[A0J,A11];omega
       refine A0H (Iq O hk2 (L:=b.toList.take nb) rfl hlB (T.ub.take nb) (show nb-1<nb by omega) (λx hx=>T.vb x (A1E hx)) (Va hx) λc2 d2 hcd2 hc2 hd2=>?_);have hc2':∀ z∈c2,rk z.1<rk x.1:=λz hz=>A1A (hc2 z hz)
       have hd2':∀ z∈d2,rk x.1<=rk z.1:=λz hz=>by have:¬ rk z.1<rk x.1:=A27 (hd2 z hz);omega
       have hcl2:c2.length+d2.length=nb:=by rw[<- hlB,hcd2,A08]
       have hub:upL rk (c2++d2):=hcd2 ▸ T.ub.take nb
       have htk2:b.toList.take c2.length=c2:=by have:=congrArg (List.take c2.length) hcd2;rwa[List.take_take,A3D ∅,A2B] at this
       have mB:MgH rk (a.toList++b.toList) (a.toList.take (p+1)) (b.toList.take c2.length) (rvL (o3.push y++(b.extract c2.length nb).reverse)):=by
        rw[ab9,a04,hcd2,A1M,htk2];refine MgH.right (by rw[<- hcd2];exact m4) (A14.mp hub).2.1 λz hz u hu=>?_;rcases A0B.mp hu with w|w
        . exact A0C (T.ltA hx u w) (hd2' z hz)
        exact(A14.mp hub).2.2 u w z hz
       have hc0:c2≠[]:=λe=>by
        obtain⟨y0,hy0⟩:=atB T.nb
        have:y0∈d2:=by
         have h0:y0∈b.toList.take nb:=by rw[<- A0M] at hy0;exact A03 (i:=0) (by rw[A2D ∅];exact hy0)
         rw[hcd2,e] at h0;exact h0
        have q1:=hd2' y0 this;have q2:=T.fst x (by rw[<- A0M] at hx;exact A03 hx) y0 hy0;omega
       have hc1:=A2N.mpr hc0;dsimp -zeta only
       extract_lets -merge k2 bc2 na3 jp3
       have jp3_ok:∀ n4 o4,MgH rk (a.toList++b.toList) (a.toList.take (p+1)) (b.toList.take n4) (rvL o4)->2<=n4->n4<=nb->(∀ z∈b.toList.take n4,rk z.1<=rk x.1)->wpS M A E s (jp3 () n4 o4) (StH rk (MSH rk a b) (a.toList++b.toList) (j+1) (j+1+(i+1)) st) st2:=λn4 o4 m5 f1 f2 f3=>by
        have m6:=T.tkAh m5 hx f3;refine A0H (Ba hx ?_);refine Ac (λhl=>?_) (λhl=>?_)
        . exact A0T ⟨kp2,.inl ⟨_,rfl,T.dnh m6 (A10.mp hl)⟩⟩
        have hl':1<=p:=by have:¬ (p=0):=λe=>hl (A10.mpr e);omega
        refine Ac (λ_=>?_) (λ_=>?_)
        . exact A0T ⟨kp2,.inr ⟨_,_,_,_,_,_,rfl,m6,hl',f1,show p<=a.size by omega,show n4<=b.size by omega,show j+1+p+n4<=a.size+b.size by omega⟩⟩
        exact A0T ⟨kp2,_,_,_,_,_,_,rfl,m6,hl',f1,show p<=a.size by omega,show n4<=b.size by omega,show j+1+(i+1)+p+n4<=a.size+b.size by omega⟩
       refine Ac (λhk0=>?_) (λhk0=>?_)
       . refine Ac (λhe=>?_) (λhe=>?_)
         . exact A0T ⟨kp2,.inl ⟨_,rfl,T.fbh mB (A10.mp he)⟩⟩
         have he':¬ (c2.length=1):=λe=>he (A10.mpr e);refine Ac (λhz=>?_) (λhz=>?_)
         . have hz':c2.length=0:=A10.mp hz;omega
         exact jp3_ok _ _ mB (show 2<=c2.length by omega) (show c2.length<=nb by omega) (show ∀ z∈b.toList.take c2.length,rk z.1<=rk x.1 by rw[htk2];exact λz hz=>A1F (hc2' z hz))
       have hk0':¬ (nb-c2.length>0):=hk0;have h0:d2=[]:=A0D.mp ∅;refine jp3_ok _ _ m4 hb' (A05 _) ?_;show ∀ z∈b.toList.take nb,rk z.1<=rk x.1;rw[hcd2,h0,A17];exact λz hz=>A1F (hc2' z hz)
      refine Ac (λhk0=>?_) (λhk0=>?_)
      . refine Ac (λhz=>?_) (λhz=>?_)
        . exact A0T ⟨kp2,.inl ⟨_,rfl,T.dnh mA (A10.mp hz)⟩⟩
        have hz':¬ (c.length=0):=λe=>hz (A10.mpr e);exact jp2_ok _ _ mA (show 1<=c.length by omega) (show c.length<=na by omega) (show ∀ z∈a.toList.take c.length,rk z.1<=rk y.1 by rw[htk];exact hc')
      have hk0':¬ (na-c.length>0):=hk0;have h0:d=[]:=A0D.mp ∅;refine jp2_ok _ _ mg h1 (A05 _) ?_;show ∀ z∈a.toList.take na,rk z.1<=rk y.1;rw[hcd,h0,A17];exact hc'
     exact Ac (λ_=>jpm _) (λ_=>jpm _)
   . obtain⟨_,na,nb,out,g,p,q,rfl,_,h1,h2,h3,h4,h5⟩:=hI;omega
   obtain⟨kp,hI⟩:=hI;rcases hI with ⟨r,hr,hm⟩|⟨na,nb,out,g,p,q,rfl,ms⟩
   . obtain⟨c1,c2⟩:=c;dsimp only at hr;subst hr;exact A0T ⟨kp,r,rfl,hm⟩
   refine A0H (Oy kp λst2 kp2=>?_);exact A0T ⟨kp2,na,nb,out,_,rfl,ms⟩
 . obtain⟨_,na,nb,out,g,rfl,_,h1,h2,h3,h4,h5⟩:=hI;omega
 obtain⟨kp1,r,hr,hm⟩:=hI;obtain⟨c1,c2⟩:=c;dsimp only at hr;subst hr;exact A0T (k r st1 hm kp1)
end
section
variable {M:Model}{A:Around}{E:Value->Shared->Prop}{s:Shared}{kd:SortKind}{rk:Value->Nat}{V:Value->Prop}
theorem aj4 {st st':SortSt} {Q:PUnit->SortSt->Prop} (h:Q ⟨⟩ st'):wpS M A E s (set st':StateT SortSt Sem PUnit) Q st:=by unfold wpS;rw[StateT.run_set];exact wpAny_pure ⟨rfl,h⟩
theorem Ua (sa:Nat):∀(m X P S:List Keyed) (n:Nat) (arr:Array Keyed),arr.toList=P++X++S->X.length=m.length->P.length=sa+n ->
  ((m.zipIdx n).foldl (λ(a:Array Keyed) (q:Keyed×Nat)=>a.setIfInBounds (sa+q.2) q.1) arr).toList=P++m++S
 | [],X,P,S,n,arr,h,hl,hp=>by rw[A0D.mp hl] at h;exact h
 |p :: m,X,P,S,n,arr,h,hl,hp=>by
   cases X with
   |nil=>cases hl
   |cons x X=>
     rw[List.zipIdx_cons,A44]
     have:=Ua sa m X (P++[p]) S (n+1) (arr.setIfInBounds (sa+n) p) (by rw[Array.toList_setIfInBounds,h,<- hp,A12,List.set_append_right _ _ (A05 _),A3V];simp) (by simpa using hl) (by rw[List.length_append,List.length_singleton];omega)
     rw[this];simp
theorem au7 (O:Rkd M A s kd rk V){st:SortSt}(hk:kindOf st=kd)(hf:failedOf st=none){P ra rb S:List Keyed}(hA:(arrOf st).toList=P++(ra++(rb++S)))(ua:upL rk ra)(ub:upL rk rb)(na0:ra≠[])(nb0:rb≠[])(va:∀ x∈ra,V x.1)(vb:∀ x∈rb,V x.1){i pw pw2:Nat}
  (p1:(pendingOf st)[i]? = some (P.length,ra.length,pw)) (p2:(pendingOf st)[i+1]? = some (P.length+ra.length,rb.length,pw2)) {Q:Bool->SortSt->Prop}
  (h:∀ rm st',rm.Perm (ra++rb)->upL rk rm->(arrOf st').toList=P++(rm++S)->kindOf st'=kd->failedOf st'=none->pendingOf st'=((pendingOf st).setIfInBounds i (P.length,ra.length+rb.length,pw)).eraseIdxIfInBounds (i+1)->Q true st'):wpS M A E s (mergeAt' i) Q st:=by
 unfold mergeAt';refine A0H (A57 ?_);rw[p1,p2];dsimp -zeta only;refine A0H (aj4 ?_)
 obtain⟨y0,rb',rfl⟩:∃ y0 rb',rb=y0 :: rb':=by
  cases rb with
  |nil=>exact absurd rfl nb0
  |cons y0 rb'=>exact⟨y0,rb',rfl⟩
 have hy0:(arrOf st)[P.length+ra.length]? = some y0:=by rw[<- A0M,hA,A18 ∅,A3P,A18 (A05 _),A3V];rfl
 have hLa:ra=((arrOf st).toList.drop P.length).take ra.length:=by rw[hA,A1M,A2B]
 have hLb:y0 :: rb'=((arrOf st).toList.drop (P.length+ra.length)).take (y0 :: rb').length:=by rw[hA,<- A2I,A1M,A1M,A2B]
 have hral:=A2N.mpr na0;have hb0:=ah6 ub;refine A0H (Ba hy0 ?_);refine A0H (Iq O (by exact hk) (L:=ra) hLa rfl ua hral va (vb _ A0S) λc d hcd hc hd=>?_);have hc':∀ x∈c,rk x.1<=rk y0.1:=λx hx=>A1A (hc x hx)
 have hd':∀ x∈d,rk y0.1<rk x.1:=λx hx=>by have:¬ rk x.1<=rk y0.1:=A27 (hd x hx);omega
 have hcl:c.length+d.length=ra.length:=by rw[hcd,A08]
 dsimp -zeta only;refine Ac (λhz=>?_) (λhz=>?_)
 . have hz':ra.length-c.length=0:=A10.mp hz;have h0:d=[]:=A0D.mp ∅;refine A0T (h (ra++y0 :: rb') _ (A3U _) (A14.mpr ⟨ua,ub,λx hx y hy=>?_⟩) (by rw[A12];exact hA) hk hf rfl);rw[hcd,h0,A17] at hx;exact A0C (hc' x hx) (hb0 y hy)
 have hz':¬ (ra.length-c.length=0):=λe=>hz (A10.mpr e)
 obtain⟨d1,x0,hd1⟩:∃ d1 x0,d=d1++[x0]:=by
  have:d≠[]:=λe=>by rw[e,A2M] at hcl;omega
  exact⟨d.dropLast,d.getLast this,(List.dropLast_concat_getLast this).symm⟩
 have hx0:(arrOf st)[P.length+c.length+(ra.length-c.length)-1]? = some x0:=by
  have hra:ra=(c++d1)++[x0]:=by rw[hcd,hd1,A12]
  have e:P.length+c.length+(ra.length-c.length)-1=P.length+(c++d1).length:=by rw[hra];simp only[List.length_append,List.length_singleton];omega
  rw[e,<- A0M,hA,A18 ∅,A3P,hra,A12,A18 (A05 _),A3V];rfl
 have hx0m:x0∈ra:=by rw[hcd,hd1];simp
 have hlast:∀ x∈ra,rk x.1<=rk x0.1:=λx hx=>by
  rw[hcd,hd1,<- A12] at hx ua;rcases A0B.mp hx with q|q
  . exact(List.pairwise_append.mp ua).2.2 x q x0 (by simp)
  rw[A16.mp q];exact A05 _
 refine A0H (Ba hx0 ?_);refine wpS_bind (Iq O (by exact hk) (L:=y0 :: rb') hLb rfl ub (show(y0 :: rb').length-1<(y0 :: rb').length by simp) vb (va _ hx0m) λc2 d2 hcd2 hc2 hd2=>?_);have hc2':∀ z∈c2,rk z.1<rk x0.1:=λz hz=>A1A (hc2 z hz)
 have hd2':∀ z∈d2,rk x0.1<=rk z.1:=λz hz=>by have:¬ rk z.1<rk x0.1:=A27 (hd2 z hz);omega
 dsimp -zeta only;refine Ac (λhz2=>?_) (λhz2=>?_)
 . have h0:c2=[]:=A0D.mp (A10.mp hz2);refine A0T (h (ra++y0 :: rb') _ (A3U _) (A14.mpr ⟨ua,ub,λx hx y hy=>?_⟩) (by rw[A12];exact hA) hk hf rfl);rw[hcd2,h0,A2Y] at hy;exact A0C (hlast x hx) (hd2' y hy)
 have hz2':c2≠[]:=λe=>hz2 (by rw[e];rfl)
 extract_lets -merge x y jp
 have hxl:x.toList=d:=by show((arrOf st).extract (P.length+c.length) (P.length+ra.length)).toList=d;rw[show P.length+ra.length=P.length+c.length+d.length by omega,Oh,hA,<- A2I,A1M,hcd,A12,A1M,A2B]
 have hyl:y.toList=c2:=by show((arrOf st).extract (P.length+ra.length) (P.length+ra.length+c2.length)).toList=c2;rw[Oh,hA,<- A2I,A1M,A1M,hcd2,A12,A2B]
 have hua:upL rk (c++d):=hcd ▸ ua;have hub:upL rk (c2++d2):=hcd2 ▸ ub
 have hy1:y[0]? = some y0:=by
  rw[<- A0M,hyl]
  cases c2 with
  |nil=>exact absurd rfl hz2'
  |cons z c3=>rw[List.cons_append] at hcd2;rw[(List.cons.inj hcd2).1];rfl
 have hsx:x.size=d.length:=by rw[<- A11,hxl]
 have hx1:x[x.size-1]? = some x0:=by rw[hsx,<- A0M,hxl,hd1,A08,A1O,Nat.add_sub_cancel,A18 (A05 _),A3V];rfl
 have T:Two2 rk V x y:=by
  refine⟨?_,?_,λz hz=>?_,λz hz=>?_,?_,?_,λz hz u hu=>?_,λz hz u hu=>?_⟩
  . rw[hxl];exact(A14.mp hua).2.1
  . rw[hyl];exact(A14.mp hub).1
  . rw[hxl] at hz;exact va z (by rw[hcd];exact A1G _ hz)
  . rw[hyl] at hz;exact vb z (by rw[hcd2];exact A2G _ hz)
  . rw[hsx,hd1,A08,A1O];omega
  . rw[<- A11,hyl];exact A2N.mpr hz2'
  . rw[hy1] at hu;cases hu;rw[hxl] at hz;exact hd' z hz
  rw[hx1] at hu;cases hu;rw[hyl] at hz;exact hc2' z hz
 have jp_ok:∀ r st',Mgd rk (x.toList++y.toList) r.toList->kindOf st'=kd->arrOf st'=arrOf st->pendingOf st'=((pendingOf st).setIfInBounds i (P.length,ra.length+(y0 :: rb').length,pw)).eraseIdxIfInBounds (i+1)->failedOf st'=none->wpS M A E s (jp r) Q st':=λr st' hm g1 g2 g3 g4=>by
  rw[hxl,hyl] at hm
  have e:((r.toList.zipIdx 0).foldl (λ(a:Array Keyed) (q:Keyed×Nat)=>a.setIfInBounds (P.length+c.length+q.2) q.1) (arrOf st')).toList=(P++c)++r.toList++(d2++S):=
   Ua (P.length+c.length) r.toList (d++c2) (P++c) (d2++S) 0 (arrOf st') (by rw[g2,hA,hcd,hcd2];simp only[List.append_assoc]) (hm.1.length_eq.symm) (by rw[List.length_append];rfl)
  refine A0H (A5A ?_);refine A0H (A57 ?_)
  have fin:∀ st2:SortSt,kindOf st2=kd->(arrOf st2).toList=(P++c)++r.toList++(d2++S)->pendingOf st2=pendingOf st'->failedOf st2=none->wpS M A E s (pure (failedOf st2).isNone:StateT SortSt Sem Bool) Q st2:=λst2 f1 f2 f3 f4=>by
   rw[f4];refine wpS_pure (h (c++r.toList++d2) st2 ?_ ?_ (by rw[f2];simp only[List.append_assoc]) f1 f4 (f3.trans g3))
   . rw[hcd,hcd2];have:=(hm.1.append_left c).append_right d2;simpa only[List.append_assoc] using this
   have mem:∀ z∈r.toList,z∈d\/z∈c2:=λz hz=>A0B.mp (hm.1.mem_iff.mp hz);refine A14.mpr ⟨A14.mpr ⟨(A14.mp hua).1,hm.2,λu hu z hz=>?_⟩,(A14.mp hub).2.1,λu hu z hz=>?_⟩
   . rcases mem z hz with q|q
     . exact(A14.mp hua).2.2 u hu z q
     exact A0C (hc' u hu) (hb0 z (by rw[hcd2];exact A2G _ q))
   rcases A0B.mp hu with q|q
   . exact A0C (hlast u (by rw[hcd];exact A2G _ q)) (hd2' z hz)
   rcases mem u q with q|q
   . exact A0C (hlast u (by rw[hcd];exact A1G _ q)) (hd2' z hz)
   exact(A14.mp hub).2.2 u q z hz
  exact fin _ g1 e rfl g4
 refine Ac (λ_=>?_) (λ_=>?_)
 . exact A0H (ar5 O (by exact hk) T λr st' hm kp=>jp_ok r st' hm (kp.1.trans hk) kp.2.1 kp.2.2.1 (kp.2.2.2.trans hf))
 exact A0H (ar4 O (by exact hk) T λr st' hm kp=>jp_ok r st' hm (kp.1.trans hk) kp.2.1 kp.2.2.1 (kp.2.2.2.trans hf))
end
def RA (rk:Value->Nat)(xs:Array Keyed)(i:Nat):Nat:=match xs[i]? with
 |some p=>rk p.1
 |none=>0
structure Sg (lo:Nat)(st st':SortSt):Prop where
 kd:kindOf st'=kindOf st
 pd:pendingOf st'=pendingOf st
 fl:failedOf st'=failedOf st
 pm:(arrOf st').Perm (arrOf st)
 eq:∀ k,k<lo->(arrOf st')[k]? = (arrOf st)[k]?
section
variable {M:Model}{A:Around}{E:Value->Shared->Prop}{s:Shared}{kd:SortKind}{rk:Value->Nat}{V:Value->Prop}
theorem Sg.refl (lo:Nat)(st:SortSt):Sg lo st st:=⟨rfl,rfl,rfl,Array.Perm.refl _,λ_ _=>rfl⟩
theorem Sg.size {lo:Nat}{st st':SortSt}(h:Sg lo st st'):(arrOf st').size=(arrOf st).size:=h.pm.size_eq
theorem ah8 {xs:Array Keyed}{i:Nat}{p:Keyed}(h:xs[i]? = some p):RA rk xs i=rk p.1:=by unfold RA;rw[h]
theorem Ju {xs ys:Array Keyed}{i j:Nat}(h:xs[i]? = ys[j]?):RA rk xs i=RA rk ys j:=by unfold RA;rw[h]
theorem X8 {xs:Array Keyed}{i j:Nat}(hj:j<=xs.size)(k:Nat):RA rk (mirror xs i j ((j-i) / 2)) k=if i<=k/\k<j then RA rk xs (i+j-1-k) else RA rk xs k:=by
 have e:=getElem?_mirror_all (xs:=xs) (i:=i) hj k
 by_cases c:i<=k/\k<j
 . rw[A0Y c] at e ⊢;exact Ju e
 rw[A0P c] at e ⊢;exact Ju e
theorem Sg.mir {lo i j:Nat}{st st':SortSt}(h:Sg lo st st')(hi:lo<=i)(hj:j<=(arrOf st').size):Sg lo st (setArr st' (mirror (arrOf st') i j ((j-i) / 2))):=
 ⟨h.kd,h.pd,h.fl,(mirror_perm _ _ _ _).trans h.pm,λk hk=>by have e:=getElem?_mirror_all (xs:=arrOf st') (i:=i) hj k;rw[A0P ∅] at e;exact e.trans (h.eq k hk)⟩
theorem Ts {i j:Nat}{st:SortSt}{Q:Unit->SortSt->Prop}(h:Q () (setArr st (mirror (arrOf st) i j ((j-i) / 2)))):wpS M A E s (reverseSlice' i j) Q st:=by rw[reverseSlice'_eq];exact A5A h
structure So (V:Value->Prop)(kd:SortKind)(st:SortSt):Prop where
 kd:kindOf st=kd
 fl:failedOf st=none
 all:∀ p∈(arrOf st).toList,V p.1
theorem Sg.so {lo:Nat}{st st':SortSt}(h:Sg lo st st')(g:So V kd st):So V kd st':=
 ⟨h.kd.trans g.kd,h.fl.trans g.fl,λp hp=>g.all p ((Array.perm_iff_toList_perm.mp h.pm).mem_iff.mp hp)⟩
theorem Tw (O:Rkd M A s kd rk V){st:SortSt}(g:So V kd st){i j:Nat}(hi:i<(arrOf st).size)(hj:j<(arrOf st).size){Q:Option Bool->SortSt->Prop}(h:Q (some (decide (RA rk (arrOf st) i<RA rk (arrOf st) j))) st):wpS M A E s (ltAt' i j) Q st:=by rw[ltAt'_eq];refine A0H (A57 ?_);have ei:(arrOf st)[i]? = some (arrOf st)[i]:=A1H hi;have ej:(arrOf st)[j]? = some (arrOf st)[j]:=A1H hj;rw[ah8 ei,ah8 ej] at h;exact wpS_bind (Ba ei (wpS_bind (Ba ej (a05 O g.kd (g.all _ (by simp)) (g.all _ (by simp)) h))))
def a01 (rk:Value->Nat)(lo m:Nat)(xs:Array Keyed):Prop:=∀ i j,i<=j->j<m->RA rk xs (lo+i)<=RA rk xs (lo+j)
def Dsc (rk:Value->Nat)(lo m:Nat)(xs:Array Keyed):Prop:=∀ i j,i<=j->j<m->RA rk xs (lo+j)<=RA rk xs (lo+i)
theorem Lh {xs:Array Keyed}{i j:Nat}(hj:j<=xs.size)(he:∀ k,i<=k->k<j->RA rk xs k=RA rk xs (j-1))(k:Nat):RA rk (mirror xs i j ((j-i) / 2)) k=RA rk xs k:=by
 rw[X8 hj]
 split
 . rw[he _ ∅ ∅,he k ∅ ∅]
 rfl
theorem Uc {st:SortSt}{lo nrem a:Nat}{f:Nat->Option (Option Nat)×Nat->StateT SortSt Sem (ForInStep (Option (Option Nat)×Nat))}
  (hf:∀ x n,1<=n->n<nrem->∀ Q:ForInStep (Option (Option Nat)×Nat)->SortSt->Prop,Q (if RA rk (arrOf st) (lo+n)<RA rk (arrOf st) (lo+n-1) then .done (none,n) else .yield (none,n+1)) st->wpS M A E s (f x (none,n)) Q st)
  (ha:1<=a) (han:a<=nrem) (hA:a01 rk lo a (arrOf st)) {Q:Option (Option Nat)×Nat->SortSt->Prop} (h:∀ n,a<=n->n<=nrem->a01 rk lo n (arrOf st)->(n=nrem\/RA rk (arrOf st) (lo+n)<RA rk (arrOf st) (lo+n-1))->Q (none,n) st):wpS M A E s (forIn [a:nrem] (none,a) f) Q st:=by
 refine A1Y (I:=λi c st'=>st'=st/\c=(none,i)/\a01 rk lo i (arrOf st)) (λi c st' h1 h2 hI=>?_) (λc st' hI=>?_) ⟨rfl,rfl,hA⟩
 . obtain⟨rfl,rfl,hI⟩:=hI;refine hf i i ∅ h2 _ ?_
   by_cases hc:RA rk (arrOf st') (lo+i)<RA rk (arrOf st') (lo+i-1)
   . rw[A0Y hc];exact h i h1 ∅ hI (.inr hc)
   rw[A0P hc];refine⟨rfl,rfl,λp q hpq hq=>?_⟩
   by_cases e:q=i
   . subst e
     by_cases e2:p=q
     . subst e2;exact A05 _
     have:=hI p (q-1) ∅ ∅;rw[show lo+(q-1)=lo+q-1 by omega] at this;omega
   exact hI p q hpq ∅
 obtain⟨rfl,rfl,hI⟩:=hI;rw[A4O han] at hI ⊢;exact h nrem han (A05 _) hI (.inl rfl)
def DI (rk:Value->Nat)(lo n q:Nat)(xs:Array Keyed):Prop:=Dsc rk lo n xs/\q+1<=n/\∀ i,n-(q+1)<=i->i<n->RA rk xs (lo+i)=RA rk xs (lo+n-1)
def CrP (rk:Value->Nat)(lo nrem i:Nat)(st:SortSt):ForInStep (Option (Option Nat)×Nat×Nat)->SortSt->Prop
 |.done c,st'=>Sg lo st st'/\∃ n q,c=(none,n,q)/\DI rk lo n q (arrOf st')/\n<=nrem
 |.yield c,st'=>Sg lo st st'/\∃ q,c=(none,i+1,q)/\DI rk lo (i+1) q (arrOf st')
theorem aA0 (O:Rkd M A s kd rk V){st:SortSt}(g:So V kd st){lo nrem:Nat}(h1:1<=nrem)(hn:lo+nrem=(arrOf st).size){Q:Option Nat->SortSt->Prop}(h:∀ n st',1<=n->n<=nrem->Sg lo st st'->a01 rk lo n (arrOf st')->Q (some n) st'):wpS M A E s (countRun' lo nrem) Q st:=by
 have asc1:∀ {st':SortSt},So V kd st'->(arrOf st').size=(arrOf st).size->∀ n,1<=n->n<nrem->∀ {Q:Option Bool->SortSt->Prop},Q (some (decide (RA rk (arrOf st') (lo+n)<RA rk (arrOf st') (lo+n-1)))) st'->wpS M A E s (ltAt' (lo+n) (lo+n-1)) Q st':=fun {st'} g' hs n h1 h2 {Q} k=>Tw O g' ∅ ∅ k;unfold countRun';refine A0H (Uc (rk:=rk) (lo:=lo) (λx n h1 h2 Q k=>?_) (A05 1) h1 (λi j hij hj=>by rw[show i=j by omega];exact A05 _) λn hn1 hn2 hA hor=>?_)
 . refine A0H (asc1 g rfl n h1 h2 ?_);refine Ac (λhc=>?_) (λhc=>?_)
   . rw[A0Y (A1A hc)] at k;exact A0T k
   rw[A0P (λe=>hc (A0K e))] at k;exact A0T k
 refine Ac (λhc=>?_) (λhc=>?_)
 . exact A0T (h n st hn1 hn2 (.refl _ _) hA)
 have hnn:n<nrem:=by have:¬ (n=nrem):=λe=>hc (A10.mpr e);omega
 have hlt:=hor.resolve_left ∅
 extract_lets -merge n2 z2 z3 jp
 have jp_ok:∀ st',Sg lo st st'->(∀ k,RA rk (arrOf st') k=RA rk (arrOf st) k)->(∀ i,i<n->RA rk (arrOf st) (lo+i)=RA rk (arrOf st) (lo+n-1))->wpS M A E s (jp ()) Q st':=λst1 sg1 he heq=>by
  have d1:DI rk lo (n+1) 0 (arrOf st1):=by
   refine⟨λi j hij hj=>?_,by omega,λi h1 h2=>by rw[show i=n by omega];rfl⟩;rw[he,he]
   by_cases ej:j=n
   . subst ej
     by_cases ei:i=j
     . subst ei;exact A05 _
     rw[heq i ∅];exact A1F hlt
   rw[heq i ∅,heq j ∅];exact A05 _
  refine A0H (wpS_lift (A42 ⟨rfl,?_⟩))
  refine A0H (A2T (A1Y (I:=λi c st'=>Sg lo st st'/\∃ q,c=(none,i,q)/\DI rk lo i q (arrOf st'))
   (Q:=λc st'=>Sg lo st st'/\∃ n q,c=(none,n,q)/\DI rk lo n q (arrOf st')/\n<=nrem)
   (λi c st2 h3 h4 hI=>?_) (λc st2 hI=>?_) ⟨sg1,0,rfl,d1⟩) λc st2 hI=>?_)
  . obtain⟨sg,q,rfl,di⟩:=hI;refine A2T (Q:=CrP rk lo nrem i st) ?_ λr st' h=>by cases r<;>exact h
    have h3':n+1<=i:=h3;have hsz:=sg.size;refine A0H (asc1 (sg.so g) hsz i ∅ h4 ?_);refine Ac (λhc=>?_) (λhc=>?_)
    . have hlt2:=A1A hc
      have d2:∀ xs,(∀ k,RA rk xs k=RA rk (arrOf st2) k)->DI rk lo (i+1) 0 xs:=λxs hxs=>by
       refine⟨λp r hpr hr=>?_,by omega,λp h1 h2=>by rw[show p=i by omega];rfl⟩;rw[hxs,hxs]
       by_cases er:r=i
       . subst er
         by_cases ep:p=r
         . subst ep;exact A05 _
         have:=di.1 p (r-1) ∅ ∅;rw[show lo+(r-1)=lo+r-1 by omega] at this;omega
       exact di.1 p r hpr ∅
      have hq1:=di.2.1;refine Ac (λhq=>?_) (λhq=>?_)
      . refine A0H (Ts ?_)
        have eq:∀ k,RA rk (mirror (arrOf st2) (lo+i-(q+1)) (lo+i) ((lo+i-(lo+i-(q+1))) / 2)) k=RA rk (arrOf st2) k:=Lh ∅ λk h1 h2=>by have:=di.2.2 (k-lo) ∅ ∅;rwa[show lo+(k-lo)=k by omega] at this
        exact A0T ⟨Sg.mir (i:=lo+i-(q+1)) (j:=lo+i) sg ∅ ∅,0,rfl,d2 _ eq⟩
      exact A0T ⟨sg,0,rfl,d2 _ λ_=>rfl⟩
    have hge:¬ RA rk (arrOf st2) (lo+i)<RA rk (arrOf st2) (lo+i-1):=λe=>hc (A0K e);refine A0H (Tw O (sg.so g) (i:=lo+i-1) (j:=lo+i) ∅ ∅ ?_);refine Ac (λhl=>?_) (λhl=>?_)
    . exact A0T ⟨sg,i,q,rfl,di,by omega⟩
    have hle:¬ RA rk (arrOf st2) (lo+i-1)<RA rk (arrOf st2) (lo+i):=λe=>hl (A0K e);refine A0T ⟨sg,q+1,rfl,λp r hpr hr=>?_,by have:=di.2.1;omega,λp h1 h2=>?_⟩
    . by_cases er:r=i
      . subst er
        by_cases ep:p=r
        . subst ep;exact A05 _
        have:=di.1 p (r-1) ∅ ∅;rw[show lo+(r-1)=lo+r-1 by omega] at this;omega
      exact di.1 p r hpr ∅
    by_cases ep:p=i
    . subst ep;rfl
    have:=di.2.2 p ∅ ∅;rw[this,show lo+(i+1)-1=lo+i by omega];omega
  . obtain⟨sg,q,rfl,di⟩:=hI;have e:max n2 nrem=nrem:=A4O (show n+1<=nrem by omega);rw[e] at di ⊢;exact⟨sg,nrem,q,rfl,di,A05 _⟩
  obtain⟨sg,m,q,rfl,di,hm⟩:=hI;have hq1:=di.2.1;have hsz:=sg.size
  extract_lets -merge r1 s1 m1 q1 jp3
  dsimp -zeta only[r1]
  have fin:∀ st3,Sg lo st st3->Dsc rk lo m (arrOf st3)->wpS M A E s (jp3 ()) Q st3:=λst3 sg3 ds=>by
   have hsz3:=sg3.size;refine A0H (Ts ?_);have sg4:=Sg.mir (i:=lo) (j:=lo+m) sg3 (A05 _) ∅
   have as4:a01 rk lo m (arrOf (setArr st3 (mirror (arrOf st3) lo (lo+m) ((lo+m-lo) / 2)))):=λi j hij hj=>by show RA rk (mirror _ _ _ _) _<=RA rk (mirror _ _ _ _) _;rw[X8 ∅,X8 ∅,A0Y ∅,A0Y ∅];have:=ds (m-1-j) (m-1-i) ∅ ∅;rwa[show lo+(lo+m)-1-(lo+i)=lo+(m-1-i) by omega,show lo+(lo+m)-1-(lo+j)=lo+(m-1-j) by omega]
   refine A0H (Uc (rk:=rk) (lo:=lo) (λx n h1 h2 Q k=>?_) (show 1<=m by omega) hm as4 λn h5 h6 h7 _=>?_)
   . refine A0H (asc1 (sg4.so g) sg4.size n h1 h2 ?_);refine Ac (λhc=>?_) (λhc=>?_)
     . rw[A0Y (A1A hc)] at k;exact A0T k
     rw[A0P (λe=>hc (A0K e))] at k;exact A0T k
   exact A0T (h n _ ∅ h6 sg4 h7)
  refine Ac (λhq=>?_) (λhq=>?_)
  . refine A0H (Ts ?_);refine fin _ (Sg.mir (i:=lo+m-(q+1)) (j:=lo+m) sg ∅ ∅) λi j hij hj=>?_
    have eq:∀ k,RA rk (mirror (arrOf st2) (lo+m-(q+1)) (lo+m) ((lo+m-(lo+m-(q+1))) / 2)) k=RA rk (arrOf st2) k:=Lh ∅ λk h1 h2=>by have:=di.2.2 (k-lo) ∅ ∅;rwa[show lo+(k-lo)=k by omega] at this
    show RA rk (mirror _ _ _ _) _<=RA rk (mirror _ _ _ _) _;rw[eq,eq];exact di.1 i j hij hj
  exact fin st2 sg di.1
 refine Ac (λh5=>?_) (λh5=>?_)
 . refine A0H (Tw O g ∅ ∅ ?_);refine Ac (λhr=>?_) (λhr=>?_)
   . exact A0T (h n st hn1 hn2 (.refl _ _) hA)
   have heq:∀ i,i<n->RA rk (arrOf st) (lo+i)=RA rk (arrOf st) (lo+n-1):=λi hi=>by have q1:¬ RA rk (arrOf st) lo<RA rk (arrOf st) (lo+n-1):=λe=>hr (A0K e);have q2:=hA 0 i ∅ hi;have q3:=hA i (n-1) ∅ ∅;rw[show lo+(n-1)=lo+n-1 by omega] at q3;rw[Nat.add_zero] at q2;omega
   refine A0H (Ts ?_);refine jp_ok _ (Sg.mir (i:=lo) (j:=lo+n) (.refl lo st) (A05 _) ∅) (λk=>Lh ∅ (λk h1 h2=>?_) k) heq;have:=heq (k-lo) ∅;rwa[show lo+(k-lo)=k by omega] at this
 exact jp_ok st (.refl _ _) (λ_=>rfl) λi hi=>by rw[show i=0 by omega,show n=1 by omega];rfl
theorem ap6 {xs:Array Keyed}{a d:Nat}(hs:a<xs.size)(hd:d<=a)(k:Nat):RA rk (bubble xs a d) k=if k=a-d then RA rk xs a else if a-d<k/\k<=a then RA rk xs (k-1) else RA rk xs k:=by
 have e:=getElem?_bubble hs d hd k
 by_cases c:k=a-d
 . rw[A0Y c] at e ⊢;exact Ju e
 rw[A0P c] at e ⊢
 by_cases c2:a-d<k/\k<=a
 . rw[A0Y c2] at e ⊢;exact Ju e
 rw[A0P c2] at e ⊢;exact Ju e
theorem Sg.bub {lo a d:Nat}{st st':SortSt}(h:Sg lo st st')(hs:a<(arrOf st').size)(hd:lo+d<=a):Sg lo st (setArr st' (bubble (arrOf st') a d)):=
 ⟨h.kd,h.pd,h.fl,(bubble_perm _ _ _).trans h.pm,λk hk=>by have e:=getElem?_bubble hs d ∅ k;rw[A0P ∅,A0P ∅] at e;exact e.trans (h.eq k hk)⟩
theorem aB7 {a b:Nat}{st:SortSt}{Q:Unit->SortSt->Prop}(h:Q () (setArr st (bubble (arrOf st) a (a-b)))):wpS M A E s (moveDown' a b) Q st:=by rw[moveDown'_eq];exact A5A h
theorem aA6 (O:Rkd M A s kd rk V){st0 st:SortSt}(g:So V kd st0){lo n ok:Nat}(sg0:Sg lo st0 st)(hn:lo+n<=(arrOf st0).size)(hok:ok<=n)(hA:a01 rk lo ok (arrOf st)){Q:Bool->SortSt->Prop}(h:∀ st',Sg lo st0 st'->a01 rk lo n (arrOf st')->Q true st'):wpS M A E s (binarySort' lo n ok) Q st:=by
 unfold binarySort'
 refine A0H (A2T (A1Y (I:=λk c st'=>c=(none,())/\Sg lo st0 st'/\a01 rk lo (min k n) (arrOf st'))
  (Q:=λc st'=>c=(none,())/\Sg lo st0 st'/\a01 rk lo n (arrOf st'))
  (λk c st' h1 h2 hI=>?_) (λc st' hI=>?_) ⟨rfl,sg0,λi j hij hj=>?_⟩) λc st' hI=>?_)
 . obtain⟨rfl,sg,as⟩:=hI;rw[A3D ∅] at as;have hsz:=sg.size
   refine A0H (A2T (A1Y (I:=λx c st''=>st''=st'/\∃ l r,c=(none,l,r)/\l<=r/\r<=k/\r-l<=k-x/\(∀ i,i<l->RA rk (arrOf st') (lo+i)<=RA rk (arrOf st') (lo+k))/\(∀ i,r<=i->i<k->RA rk (arrOf st') (lo+k)<RA rk (arrOf st') (lo+i)))
    (Q:=λc st''=>st''=st'/\∃ l,c=(none,l,l)/\l<=k/\(∀ i,i<l->RA rk (arrOf st') (lo+i)<=RA rk (arrOf st') (lo+k))/\(∀ i,l<=i->i<k->RA rk (arrOf st') (lo+k)<RA rk (arrOf st') (lo+i)))
    (λx c st'' _ hx hI=>?_) (λc st'' hI=>?_) ⟨rfl,0,k,rfl,by omega,by omega,by omega,λi hi=>absurd hi ∅,λi h1 h2=>absurd h1 ∅⟩) λc st'' hI=>?_)
   . obtain⟨rfl,l,r,rfl,q1,q2,q3,q4,q5⟩:=hI;refine Ac (λhc=>?_) (λhc=>?_)
     . have hc':l>=r:=hc;have:l=r:=by omega
       subst this;exact A0T ⟨rfl,l,rfl,q2,q4,q5⟩
     have hc':¬ l>=r:=hc;refine A0H (Tw O (sg.so g) (i:=lo+k) (j:=lo+(l+r) / 2) ∅ ∅ ?_);refine Ac (λhl=>?_) (λhl=>?_)
     . have hlt:=A1A hl;refine A0T ⟨rfl,l,(l+r) / 2,rfl,by omega,by omega,by omega,q4,λi h3 h4=>?_⟩;have:=as ((l+r) / 2) i h3 h4;omega
     have hge:¬ RA rk (arrOf st'') (lo+k)<RA rk (arrOf st'') (lo+(l+r) / 2):=λe=>hl (A0K e);refine A0T ⟨rfl,(l+r) / 2+1,r,rfl,by omega,q2,by omega,λi h3=>?_,q5⟩;have:=as i ((l+r) / 2) ∅ ∅;omega
   . obtain⟨rfl,l,r,rfl,q1,q2,q3,q4,q5⟩:=hI;have:l=r:=by omega
     subst this;exact⟨rfl,l,rfl,q2,q4,q5⟩
   obtain⟨rfl,l,rfl,q2,q4,q5⟩:=hI;refine A0H (aB7 ?_);have sg2:=Sg.bub (a:=lo+k) (d:=lo+k-(lo+l)) sg ∅ ∅;refine A0T ⟨rfl,sg2,?_⟩;rw[A3D ∅]
   have rb:∀ p,p<=k->RA rk (bubble (arrOf st'') (lo+k) (lo+k-(lo+l))) (lo+p)=if p=l then RA rk (arrOf st'') (lo+k) else if l<p then RA rk (arrOf st'') (lo+(p-1)) else RA rk (arrOf st'') (lo+p):=λp hp=>by
    rw[ap6 ∅ ∅]
    by_cases c1:p=l
    . rw[A0Y c1,A0Y ∅]
    rw[A0P c1,A0P ∅]
    by_cases c2:l<p
    . rw[A0Y c2,A0Y ∅,show lo+p-1=lo+(p-1) by omega]
    rw[A0P c2,A0P ∅]
   intro i j hij hj;show RA rk (bubble _ _ _) _<=RA rk (bubble _ _ _) _;rw[rb i ∅,rb j ∅]
   by_cases c1:j=l
   . rw[A0Y c1]
     by_cases c2:i=l
     . rw[A0Y c2];exact A05 _
     rw[A0P c2,A0P ∅];exact q4 i ∅
   rw[A0P c1]
   by_cases c3:l<j
   . rw[A0Y c3]
     by_cases c2:i=l
     . rw[A0Y c2];exact A1F (q5 (j-1) ∅ ∅)
     rw[A0P c2]
     by_cases c4:l<i
     . rw[A0Y c4];exact as _ _ ∅ ∅
     rw[A0P c4];exact as _ _ ∅ ∅
   rw[A0P c3,A0P ∅,A0P ∅];exact as _ _ hij ∅
 . obtain⟨rfl,sg,as⟩:=hI;rw[show min (max (max ok 1) n) n=n by omega] at as;exact⟨rfl,sg,as⟩
 . by_cases h0:ok=0
   . rw[show i=j by omega];exact A05 _
   exact hA i j hij ∅
 obtain⟨rfl,sg,as⟩:=hI;exact A0T (h st' sg as)
end
def pnd:Nat->List (List Keyed)->List (Nat×Nat)
 |_,[]=>[]
 |p,r :: rs=>(p,r.length) :: pnd (p+r.length) rs
theorem M3:∀(X Y:List (List Keyed)) (p:Nat),pnd p (X++Y)=pnd p X++pnd (p+X.flatten.length) Y
 | [],Y,p=>by simp[pnd]
 |r :: X,Y,p=>by simp only[List.cons_append,pnd,M3 X Y,List.flatten_cons,List.length_append,Nat.add_assoc]
theorem Ik:∀(X:List (List Keyed)) (p:Nat),(pnd p X).length=X.length
 | [],_=>rfl
 |r :: X,p=>by rw[pnd,A0W,A0W,Ik X]
def Pnd (pend:Array (Nat×Nat×Nat))(rs:List (List Keyed)):Prop:=pend.toList.map (λt=>(t.1,t.2.1))=pnd 0 rs
theorem Pnd.size {pend:Array (Nat×Nat×Nat)}{rs:List (List Keyed)}(h:Pnd pend rs):pend.size=rs.length:=by have:=congrArg List.length h;rwa[A00,Ik,A11] at this
theorem Pnd.at {pend:Array (Nat×Nat×Nat)}{X Y:List (List Keyed)}{r:List Keyed}(h:Pnd pend (X++r :: Y)):∃ pw,pend[X.length]? = some (X.flatten.length,r.length,pw):=by
 have h1:(pend.toList.map (λt=>(t.1,t.2.1)))[X.length]? = some (X.flatten.length,r.length):=by rw[h,M3,A18 (by rw[Ik];exact A05 _),Ik,A3V,Nat.zero_add];rfl
 rw[A07,A0M] at h1
 cases e:pend[X.length]? with
 |none=>rw[e] at h1;cases h1
 |some t=>
   rw[e] at h1;obtain⟨t1,t2,t3⟩:=t
   cases h1;exact⟨t3,rfl⟩
theorem Pnd.merge {pend:Array (Nat×Nat×Nat)}{X Y:List (List Keyed)}{ra rb rm:List Keyed}{pw:Nat}(h:Pnd pend (X++ra :: rb :: Y))(hm:rm.length=ra.length+rb.length) :
  Pnd ((pend.setIfInBounds X.length (X.flatten.length,ra.length+rb.length,pw)).eraseIdxIfInBounds (X.length+1)) (X++rm :: Y):=by
 have hs:=h.size;rw[A08,A0W,A0W] at hs;unfold Pnd at h ⊢;rw[Array.toList_eraseIdxIfInBounds,Array.toList_setIfInBounds,List.eraseIdx_eq_take_drop_succ,A0A,A33,A3G,List.map_set,h,<- List.eraseIdx_eq_take_drop_succ,M3,M3];rw[List.set_append_right _ _ (by rw[Ik];exact A05 _),Ik,A3V,List.eraseIdx_append_of_length_le (by rw[Ik];omega),Ik,A3P];simp only[pnd,List.set_cons_zero,List.eraseIdx_cons_succ,List.eraseIdx_cons_zero,Nat.zero_add,hm,Nat.add_assoc]
theorem Pnd.push {pend:Array (Nat×Nat×Nat)}{rs:List (List Keyed)}{r:List Keyed}{lo n:Nat}(h:Pnd pend rs)(hl:lo=rs.flatten.length)(hn:n=r.length):Pnd (pend.push (lo,n,0)) (rs++[r]):=by unfold Pnd at h ⊢;rw[Array.toList_push,A0A,h,M3,Nat.zero_add,hl,hn];rfl
theorem Pnd.mod {pend:Array (Nat×Nat×Nat)}{rs:List (List Keyed)}(h:Pnd pend rs)(i pw:Nat):Pnd (pend.modify i λ(p:Nat×Nat×Nat)=>(p.1,p.2.1,pw)) rs:=by
 unfold Pnd at h ⊢;rw[<- h];refine List.ext_getElem? λk=>?_;rw[A07,A07,A0M,A0M,Array.getElem?_modify]
 split
 . cases pend[k]? <;> rfl
 rfl
structure Rs (rk:Value->Nat)(V:Value->Prop)(kd:SortKind)(L:List Keyed)(st:SortSt)(rs:List (List Keyed))(rest:List Keyed):Prop where
 so:So V kd st
 arr:(arrOf st).toList=rs.flatten++rest
 pm:(arrOf st).toList.Perm L
 up:∀ r∈rs,upL rk r/\r≠[]
 pd:Pnd (pendingOf st) rs
section
variable {M:Model}{A:Around}{E:Value->Shared->Prop}{s:Shared}{kd:SortKind}{rk:Value->Nat}{V:Value->Prop}{L:List Keyed}
theorem ad2 (O:Rkd M A s kd rk V){st:SortSt}{X Y:List (List Keyed)}{ra rb rest:List Keyed}(h:Rs rk V kd L st (X++ra :: rb :: Y) rest){i:Nat}(hi:i=X.length){Q:Bool->SortSt->Prop}(k:∀ rm st',Rs rk V kd L st' (X++rm :: Y) rest->Q true st'):wpS M A E s (mergeAt' i) Q st:=by
 subst hi;obtain⟨pw,hp1⟩:=h.pd.at;obtain⟨pw2,hp2⟩:=Pnd.at (X:=X++[ra]) (Y:=Y) (r:=rb) (by rw[A12];exact h.pd);rw[A08,A1O,A47,A4S,A08] at hp2;have ha:=h.up ra (by simp);have hb:=h.up rb (by simp);have hA:(arrOf st).toList=X.flatten++(ra++(rb++(Y.flatten++rest))):=by rw[h.arr];simp
 have mem:∀ x,x∈ra\/x∈rb->V x.1:=λx hx=>h.so.all x (by rw[hA];rcases hx with q|q<;>simp[q])
 refine au7 O h.so.kd h.so.fl hA ha.1 hb.1 ha.2 hb.2 (λx hx=>mem x (.inl hx)) (λx hx=>mem x (.inr hx)) hp1 hp2 λrm st' hm hu hA' hk hf hpd=>?_
 have hpm:(arrOf st').toList.Perm (arrOf st).toList:=by rw[hA,hA'];have:=(hm.append_right (Y.flatten++rest)).append_left X.flatten;simpa only[List.append_assoc] using this
 refine k rm st' ⟨⟨hk,hf,λp hp=>h.so.all p (hpm.mem_iff.mp hp)⟩,by rw[hA'];simp,hpm.trans h.pm,λr hr=>?_,by rw[hpd];exact h.pd.merge (hm.length_eq.trans (List.length_append ..))⟩;rcases A0B.mp hr with q|q
 . exact h.up r (by simp[q])
 rcases A0F.mp q with q|q
 . rw[q];refine⟨hu,λe=>ha.2 ?_⟩;have:=hm.length_eq;rw[e,A2M,A08] at this;exact A0D.mp ∅
 exact h.up r (by simp[q])
theorem ac4 {α:Type}{rs:List α}{i:Nat}(h:i+1<rs.length):∃ X ra rb Y,rs=X++ra :: rb :: Y/\X.length=i:=by refine⟨rs.take i,rs[i],rs[i+1],rs.drop (i+2),?_,by rw[A0J];omega⟩;rw[A36,A36,A2C]
theorem aw6 {lo n:Nat}{st st':SortSt}{F R:List Keyed}(sg:Sg lo st st')(as:a01 rk lo n (arrOf st'))(hA:(arrOf st).toList=F++R)(hl:lo=F.length)(hn:lo+n<=(arrOf st).size):∃ r R',(arrOf st').toList=F++(r++R')/\r.length=n/\upL rk r:=by
 have hsz:(arrOf st').toList.length=(arrOf st).toList.length:=by rw[A11,A11];exact sg.size
 have hF:(arrOf st').toList.take lo=F:=by
  refine List.ext_getElem? λk=>?_
  by_cases hk:k<lo
  . rw[A2D hk,A0M,sg.eq k hk,<- A0M,hA,A20 ∅]
  rw[A3C (by rw[A0J];omega),A3C ∅]
 refine⟨((arrOf st').toList.drop lo).take n,((arrOf st').toList.drop lo).drop n,?_,?_,?_⟩
 . rw[A2C]
   conv=>lhs;rw[<- List.take_append_drop lo (arrOf st').toList,hF]
 . rw[A0J,A1K,hsz,A11];omega
 refine A3H.mpr λi j hi hj hij=>?_;rw[A0J] at hi hj
 have at_:∀ k (hk:k<(((arrOf st').toList.drop lo).take n).length),RA rk (arrOf st') (lo+k)=rk ((((arrOf st').toList.drop lo).take n)[k]).1:=λk hk=>ah8 (by have hk':=hk;rw[A0J] at hk';have e:=A04 hk;rw[A2D ∅,A5M,A0M] at e;exact e)
 rw [<- at_,<- at_];exact as i j ∅ ∅
theorem ad4:∀(f n r:Nat),1<=n->1<=minRun' f n r
 |0,n,r,h=>by show 1<=n+r;omega
 |f+1,n,r,h=>by
   rw[minRun'_succ]
   split
   . omega
   exact ad4 f _ _ ∅
theorem Yk:∀ {rs:List (List Keyed)},(∀ r∈rs,r≠[])->rs.length<=rs.flatten.length
 | [],_=>A05 _
 |r :: rs,h=>by have h1:=A2N.mpr (h r A0S);have h2:=Yk λr' hr'=>h r' (A0E _ hr');rw[A3S,A08,A0W];omega
def SrP (rk:Value->Nat)(V:Value->Prop)(kd:SortKind)(L:List Keyed)(x:Nat):ForInStep (Option Unit×Nat)->SortSt->Prop
 |.done c,st'=>c.1=none/\∃ rs,Rs rk V kd L st' rs []
 |.yield c,st'=>∃ rs rest,c=(none,rs.flatten.length)/\Rs rk V kd L st' rs rest/\(x+1<=rs.flatten.length\/rest=[])
theorem aA2 (O:Rkd M A s kd rk V){st:SortSt}(g:So V kd st)(hp:pendingOf st = #[]){Q:Unit->SortSt->Prop}(h:∀ st',(arrOf st').toList.Perm (arrOf st).toList->upL rk (arrOf st').toList->failedOf st'=none->Q () st'):wpS M A E s sortRuns' Q st:=by
 unfold sortRuns';refine A0H (A57 ?_)
 extract_lets -merge size mr lo0
 have hsize:size=(arrOf st).toList.length:=(A11 ..).symm;have r0:Rs rk V kd (arrOf st).toList st [] (arrOf st).toList:=⟨g,rfl,A3U _,λr hr=>(nomatch hr),by rw[hp];rfl⟩;have mrp:1<=size->1<=mr:=λh=>ad4 size size 0 h
 refine A0H (A2T (A1Y (I:=λx c st'=>∃ rs rest,c=(none,rs.flatten.length)/\Rs rk V kd (arrOf st).toList st' rs rest/\(x<=rs.flatten.length\/rest=[]))
  (Q:=λc st'=>c.1=none/\∃ rs,Rs rk V kd (arrOf st).toList st' rs [])
  (λx c st1 _ hx hI=>?_) (λc st1 hI=>?_) ⟨[],_,rfl,r0,.inl (A24 _)⟩) λc st1 hI=>?_)
 . obtain⟨rs,rest,rfl,r1,hor⟩:=hI;have hlen:=r1.pm.length_eq;rw[r1.arr,A08] at hlen;have hsz1:(arrOf st1).size=size:=by rw[hsize,<- r1.pm.length_eq,A11]
   refine A2T (Q:=SrP rk V kd (arrOf st).toList x) ?_ λr st' h=>by cases r<;>exact h
   refine Ac (λhc=>?_) (λhc=>?_)
   . have hc':rs.flatten.length>=size:=hc;have h0:rest=[]:=A0D.mp ∅;exact A0T ⟨rfl,rs,h0 ▸ r1⟩
   have hc':¬ rs.flatten.length>=size:=hc;refine A0H (aA0 O r1.so (lo:=rs.flatten.length) (nrem:=size-rs.flatten.length) ∅ ∅ λn st2 hn1 hn2 sg2 as2=>?_);dsimp -zeta only
   extract_lets -merge n0 jp
   have jp_ok:∀ n2 st3,1<=n2->n2<=size-rs.flatten.length->Sg rs.flatten.length st1 st3->a01 rk rs.flatten.length n2 (arrOf st3)->wpS M A E s (jp () n2) (SrP rk V kd (arrOf st).toList x) st3:=λn2 st3 h1 h2 sg as=>by
    obtain⟨r,R',hA3,hrl,hur⟩:=aw6 sg as r1.arr rfl ∅;have r3:Rs rk V kd (arrOf st).toList st3 rs (r++R'):=⟨sg.so r1.so,hA3,(Array.perm_iff_toList_perm.mp sg.pm).trans r1.pm,r1.up,by rw[sg.pd];exact r1.pd⟩;refine A0H (A57 ?_)
    extract_lets -merge lo2 jp2
    have jp2_ok:∀ st4 rs4,Rs rk V kd (arrOf st).toList st4 rs4 (r++R')->rs4.flatten.length=rs.flatten.length->wpS M A E s (jp2 ()) (SrP rk V kd (arrOf st).toList x) st4:=λst4 rs4 r4 hl=>by
     refine A0H (A5A ?_);have hfl:(rs4++[r]).flatten.length=rs.flatten.length+n2:=by rw[A47,A4S,A08,hl,hrl]
     refine A0T ⟨rs4++[r],R',?_,⟨⟨r4.so.kd,r4.so.fl,r4.so.all⟩,?_,r4.pm,λr' hr'=>?_,r4.pd.push hl.symm hrl.symm⟩,.inl ?_⟩
     . rw[hfl]
     . rw[A47,A4S,A12];exact r4.arr
     . rcases A0B.mp hr' with q|q
       . exact r4.up r' q
       rw[A16.mp q];exact⟨hur,λe=>by rw[e,A2M] at hrl;omega⟩
     rw[hfl];rcases hor with q|q
     . omega
     rw[q,A2M] at hlen;omega
    have flat:∀ {st4 st5 rs4 rs5},Rs rk V kd (arrOf st).toList st4 rs4 (r++R')->Rs rk V kd (arrOf st).toList st5 rs5 (r++R')->rs5.flatten.length=rs4.flatten.length:=fun {st4 st5 rs4 rs5} q4 q5=>by have e:=q4.pm.length_eq.trans q5.pm.length_eq.symm;rw [q4.arr,q5.arr] at e;simp only[List.length_append] at e;omega
    cases hb:(pendingOf st3).back? with
    |none=>exact jp2_ok st3 rs r3 rfl
    |some t=>
      obtain⟨s1,n1,z⟩:=t
      refine A0H (A2T (A1Y (I:=λ_ c st'=>c=(none,())/\∃ rs4,Rs rk V kd (arrOf st).toList st' rs4 (r++R'))
       (Q:=λc st'=>c=(none,())/\∃ rs4,Rs rk V kd (arrOf st).toList st' rs4 (r++R')) (λ_ c st4 _ _ hI=>?_) (λc st4 hI=>hI) ⟨rfl,rs,r3⟩) λc st4 hI=>?_)
      . obtain⟨rfl,rs4,r4⟩:=hI;have hsz:=r4.pd.size;refine A0H (A57 ?_)
        extract_lets -merge p
        by_cases h1:p.size>1
        . have h1':(pendingOf st4).size>1:=h1;obtain⟨X,ra,rb,Y,rfl,hX⟩:=ac4 (rs:=rs4) (i:=rs4.length-2) ∅;obtain⟨pw',hat⟩:=r4.pd.at;have hpx:p.size-2=X.length:=by rw[hX,<- hsz]
          have e:(if p.size>1 then p[p.size-2]? else none)=some (X.flatten.length,ra.length,pw'):=by rw[A0Y h1,hpx];exact hat
          rw[e];refine Ac (λ_=>A0T ⟨rfl,_,r4⟩) (λ_=>?_);refine A0H (ad2 O r4 hpx λrm st5 r5=>?_);exact Ac (λhb=>absurd hb nofun) (λ_=>A0T ⟨rfl,_,r5⟩)
        have e:(if p.size>1 then p[p.size-2]? else none)=none:=A0P h1
        rw[e];exact A0T ⟨rfl,_,r4⟩
      obtain⟨rfl,rs4,r4⟩:=hI;refine A0H (A5A ?_);exact jp2_ok _ rs4 ⟨⟨r4.so.kd,r4.so.fl,r4.so.all⟩,r4.arr,r4.pm,r4.up,r4.pd.mod _ _⟩ (flat r3 r4)
   refine Ac (λhm=>?_) (λhm=>?_)
   . have hm':n<mr:=hm;have mr1:=mrp ∅;refine A0H (wpS_lift (A42 ⟨rfl,?_⟩));refine A0H (aA6 O r1.so (lo:=rs.flatten.length) (n:=min (size-rs.flatten.length) mr) sg2 ∅ (show n<=min (size-rs.flatten.length) mr by omega) as2 λst3 sg3 as3=>?_);refine Ac (λhb=>absurd hb nofun) (λ_=>?_);exact jp_ok _ st3 (show 1<=min (size-rs.flatten.length) mr by omega) (Nat.min_le_left _ _) sg3 as3
   exact jp_ok n st2 hn1 hn2 sg2 as2
 . obtain⟨rs,rest,rfl,r1,hor⟩:=hI;have hlen:=r1.pm.length_eq;rw[r1.arr,A08] at hlen;refine⟨rfl,rs,?_⟩
   have h0:rest=[]:=by
    rcases hor with q|q
    . rw[A4O (A24 _)] at q;exact A0D.mp ∅
    exact q
   exact h0 ▸ r1
 obtain⟨hc1,rs,r1⟩:=hI;obtain⟨c1,c2⟩:=c;dsimp only at hc1;subst hc1
 have hrl:rs.length<=size:=by have hlen:=r1.pm.length_eq;rw[r1.arr,A17] at hlen;rw[hsize,<- hlen];exact Yk λr hr=>(r1.up r hr).2
 refine A0H (A2T (A1Y (I:=λx c st'=>c=(none,())/\∃ rs,Rs rk V kd (arrOf st).toList st' rs []/\(rs.length+x<=size\/rs.length<=1))
  (Q:=λc st'=>c=(none,())/\∃ rs,Rs rk V kd (arrOf st).toList st' rs []/\rs.length<=1) (λx c st4 _ _ hI=>?_) (λc st4 hI=>?_) ⟨rfl,rs,r1,.inl hrl⟩) λc st4 hI=>?_)
 . obtain⟨rfl,rs,r4,hor⟩:=hI;have hsz:=r4.pd.size;refine A0H (A57 ?_);refine Ac (λh1=>?_) (λh1=>?_)
   . have h1':(pendingOf st4).size<=1:=h1;exact A0T ⟨rfl,rs,r4,by omega⟩
   have h1':¬ (pendingOf st4).size<=1:=h1
   extract_lets -merge i0 bf i1
   have hi:i1<=rs.length-2:=by
    have e0:i0=rs.length-2:=by show(pendingOf st4).size-2=_;rw[hsz]
    have key:∀(b:Bool) (n m:Nat),n<=m->(if b=true then n-1 else n)<=m:=λb n m h=>by split<;>omega
    exact key _ _ _ (A4U e0)
   obtain⟨X,ra,rb,Y,rfl,hX⟩:=ac4 (rs:=rs) (i:=i1) ∅;refine A0H (ad2 O r4 hX.symm λrm st5 r5=>?_);refine Ac (λhb=>absurd hb nofun) (λ_=>A0T ⟨rfl,_,r5,?_⟩);rw[A08,A0W,A0W] at hor;rw[A08,A0W];omega
 . obtain⟨rfl,rs,r4,hor⟩:=hI;rw[A4O (A24 _)] at hor;exact⟨rfl,rs,r4,by omega⟩
 obtain⟨rfl,rs,r4,hl⟩:=hI;refine A0T (h st4 r4.pm ?_ r4.so.fl);rw[r4.arr,A17]
 match rs,hl,r4 with
 | [],_,_=>exact A2K
 | [r],_,r4=>rw[List.flatten_singleton];exact(r4.up r (by simp)).1
end
def rLt:List Str->List Str->Bool
 |x :: xs,y :: ys=>if x=y then rLt xs ys else decide (x.cps.toList<y.cps.toList)
 | [],_ :: _=>true
 |_,[]=>false
theorem Xo:∀ r:List Str,rLt r r=false
 | []=>rfl
 |x :: r=>by rw[rLt,A0Y rfl];exact Xo r
theorem Zl:∀ {p q t:List Str},rLt p q=true->rLt q t=true->rLt p t=true
 | [],[],t,h,_=>by cases h
 | [],y :: q,[],_,h=>by cases h
 | [],y :: q,z :: t,_,_=>rfl
 |x :: p,[],t,h,_=>by cases h
 |x :: p,y :: q,[],_,h=>by cases h
 |x :: p,y :: q,z :: t,h1,h2=>by
   rw[rLt] at h1 h2 ⊢
   by_cases c1:x=y
   . rw[A0Y c1] at h1
     by_cases c2:y=z
     . rw[A0Y c2] at h2;rw[A0Y (c1.trans c2)];exact Zl h1 h2
     rw[A0P c2] at h2;rw[A0P (by rw[c1];exact c2),c1];exact h2
   rw[A0P c1] at h1
   by_cases c2:y=z
   . rw[A0P (by rw[<- c2];exact c1),<- c2];exact h1
   rw[A0P c2] at h2;have h3:=List.lt_trans (A1A h1) (A1A h2)
   have c3:¬ x=z:=λe=>by rw[e] at h3;exact List.lt_irrefl _ h3
   rw[A0P c3];exact A0K h3
theorem Tf:∀ {p q:List Str},rLt p q=false->rLt q p=false->p=q
 | [],[],_,_=>rfl
 | [],y :: q,h,_=>by cases h
 |x :: p,[],_,h=>by cases h
 |x :: p,y :: q,h1,h2=>by
   rw[rLt] at h1 h2
   by_cases c:x=y
   . rw[A0Y c] at h1;rw[A0Y c.symm] at h2;rw[c,Tf h1 h2]
   rw[A0P c] at h1;rw[A0P λe=>c e.symm] at h2;exact absurd (aw0 (List.le_antisymm (A2U.mp (A27 h2)) (A2U.mp (A27 h1)))) c
def rkR (rows:List (List Str)) (r:List Str):Nat:=(rows.filter λk=>rLt k r).length
theorem aa2 {rows:List (List Str)}{r r':List Str}(hr:r∈rows):decide (rkR rows r<rkR rows r')=rLt r r':=by
 cases c:rLt r r' with
 |true=>exact A0K (J3 (λk _ hk=>Zl hk c) ⟨r,hr,c,Xo _⟩)
 |false=>
   refine A0R (Nat.not_lt.mpr ?_);unfold rkR;rw[<- List.countP_eq_length_filter,<- List.countP_eq_length_filter];apply List.countP_mono_left;intro k _ hk
   cases c2:rLt r' r with
   |true=>exact Zl hk c2
   |false=>rw[Tf c c2];exact hk
def Oa (rows:List (List Str)):Prop:=rows.Pairwise λx y=>rLt y x=false
theorem T3 {a b:List (List Str)}(hp:a.Perm b)(ha:Oa a)(hb:Oa b):a=b:=
 List.Perm.eq_of_pairwise (λx y _ _ h1 h2=>Tf h2 h1) ha hb hp
section
variable {prog:Program}{w:World}{A:Around}{E:Value->Shared->Prop}{z:Shared}
def RwT (h:Heap)(v:Value)(r:List Str):Prop:=∃ a o n us,v = .ref a/\h.get? a=some o/\o.cls = .type "tuple" /\ o.data = .seq us n/\Paired (λ(x:Str) (u:Value)=>∃ t,u = .str x t) r us.toList
theorem RwT.keep {h h':Heap}{v:Value}{r:List Str}(x:RwT h v r)(k:∀ b o,h.get? b=some o->o.cls = .type "tuple" -> h'.get? b=some o):RwT h' v r:=by obtain⟨a,o,n,us,e,h1,h2,h3⟩:=x;exact⟨a,o,n,us,e,k a o h1 h2,h2,h3⟩
theorem RwT.one {h:Heap}{v:Value}{r r':List Str}(x:RwT h v r)(y:RwT h v r'):r=r':=by
 obtain⟨a,o,n,us,rfl,h1,_,h3,h4⟩:=x;obtain⟨a',o',n',us',e,g1,_,g3,g4⟩:=y
 cases e;rw[h1] at g1
 cases g1;rw[h3] at g3
 cases g3
 have go:∀ {r r':List Str} {us:List Value},Paired (λ(x:Str) (u:Value)=>∃ t,u = .str x t) r us->Paired (λ(x:Str) (u:Value)=>∃ t,u = .str x t) r' us->r=r':=fun {r r' us} p=>by
  induction p generalizing r' with
  |nil=>intro q;cases q;rfl
  |cons c t ih=>
    intro q
    cases q with
    |cons c' t'=>
      obtain⟨t1,rfl⟩:=c;obtain⟨t2,e⟩:=c'
      cases e;rw[ih t']
 exact go h4 g4
theorem a97 {Q:Bool->Shared->Prop}:∀ {r r':List Str} {us us':List Value} (i:Nat),Paired (λ(x:Str) (u:Value)=>∃ t,u = .str x t) r us->Paired (λ(x:Str) (u:Value)=>∃ t,u = .str x t) r' us'->r.length=r'.length->Q (rLt r r') z->W.KatLex prog w A true false Q (us.zip us') i z
 | [],[],_,_,i,.nil,.nil,_,h=>W.kat_nil h
 | [],_ :: _,_,_,_,_,_,hl,_=>by cases hl
 |_ :: _,[],_,_,_,_,_,hl,_=>by cases hl
 |x :: r,y :: r',_,_,i,.cons c t,.cons c' t',hl,h=>by
   obtain⟨t1,rfl⟩:=c;obtain⟨t2,rfl⟩:=c';rw[List.zip_cons_cons];refine W.kat_cons (wpAny_eqBool_str (W.kat_go (λe=>W.kat_yes (a97 (i+1) t t' (by simpa using hl) ?_)) λe=>W.kat_no ?_))
   . rw[rLt,A0Y (A1A e)] at h;exact h
   rw[rLt,A0P (A27 e)] at h
   by_cases hi:i=0
   . subst hi;exact oneLt_str h
   rw[show(true&&i==0)=false by simp[hi]];exact W.kat_one _ _ (PySem.P.lt_str h)
theorem aB6 {v u:Value}{r r':List Str}{Q:Bool->Shared->Prop}(hv:RwT z.heap v r)(hu:RwT z.heap u r')(hl:r.length=r'.length)(h:Q (rLt r r') z):wpAny (model prog w) A (keyLt' (tuples' true) v u) Q E z:=by obtain⟨a,o,n,us,rfl,ho,hc,hd,hp⟩:=hv;obtain⟨a',o',n',us',rfl,ho',hc',hd',hp'⟩:=hu;refine W.kat_lt ho hd ho' hd' ?_;have e1:=hp.length;have e2:=hp'.length;have l1:us.toList.length=us.size:=A11 ..;have l2:us'.toList.length=us'.size:=A11 ..;rw[A0R (show ¬ us.size<us'.size by omega)];exact a97 0 hp hp' hl h
def rkV (h:Heap)(rows:List (List Str))(v:Value):Nat:=@dite Nat (∃ r,r∈rows/\RwT h v r) (Classical.propDecidable _) (λe=>rkR rows e.choose) λ_=>0
theorem Xf {h:Heap}{rows:List (List Str)}{v:Value}{r:List Str}(hr:r∈rows)(hv:RwT h v r):rkV h rows v=rkR rows r:=by have e:∃ r,r∈rows/\RwT h v r:=⟨r,hr,hv⟩;unfold rkV;rw[dif_pos e,e.choose_spec.2.one hv]
theorem aw9 {h:Heap}:∀ {ws:List Value} {rows:List (List Str)},Paired (RwT h) ws rows->(∀ r∈rows,r≠[])->∃ fs,W.KatTups h ws fs/\fs.length=ws.length/\∀ v∈fs,∃ x t,v = .str x t
 |_,_,.nil,_=>⟨[],.nil,rfl,λ_ h=>by cases h⟩
 |_, _,.cons r t,hne=>by
   obtain⟨fs,h1,h2,h3⟩:=aw9 t λr' hr'=>hne r' (A0E _ hr');obtain⟨a,o,n,us,rfl,ho,hc,hd,hp⟩:=r
   cases hp':us.toList with
   |nil=>
     rw[hp'] at hp
     cases hp;exact absurd rfl (hne [] A0S)
   |cons u us'=>
     have hu:us[0]? = some u:=by rw[<- A0M,hp'];rfl
     rw[hp'] at hp
     cases hp with
     |cons c t'=>
       obtain⟨t1,rfl⟩:=c;refine⟨_ :: fs,.cons ho hc hd hu h1,by simp[h2],λv hv=>?_⟩;rcases A0F.mp hv with rfl|hv
       . exact⟨_,_,rfl⟩
       exact h3 v hv
def az3 (h:Heap)(rows:List (List Str))(ws out:List Value):Prop:=out.Perm ws/\out.Pairwise λu v=>rkV h rows u<=rkV h rows v
theorem Yz {a:Addr}{ws:List Value}{rows:List (List Str)}{n m:Nat}{P:PySem.Fin->Shared->Prop}(hA:z.heap.get? a=some (seqObj "list" ws.toArray n))(hp:Paired (RwT z.heap) ws rows)(hm:∀ r∈rows,r.length=m)(hne:1<=m\/ws.length<2)(hmax:ws.length<=1000)
  (h:∀(h0:Heap) (out:List Value),(∀ b o,z.heap.get? b=some o->o.cls = .type "tuple" -> h0.get? b=some o)->az3 h0 rows ws out->out.length=ws.length->P (.done (.ret .none)) {z with heap:=sortedHeap z.heap a ws out.toArray}):wpAny (model prog w) A (Builtin.«list.sort» ⟨[.ref a],[]⟩) P E z:=by
 rw[list_sort_plain];have haz:a<z.heap.objs.size:=A0N hA;refine A02 (listItems_at hA rfl ?_);refine A02 (listUpdate_at hA rfl ?_ (by rw[A0X,A1B];omega) (A24 _));obtain⟨e1,hA1⟩:∃ e1,(z.heap.update a (Obj.mapSeq λ_=>#[])).get? a=some (seqObj "list" #[] e1):=⟨_,get?_update_seq hA (λ_=>#[])⟩;refine A02 (seqEpoch_at hA1 rfl ?_);refine A02 (wpAny_newTuple ?_ (by show ws.length<=_;rw[A1B];omega));refine A02 (wpAny_newList ?_ (A24 _));refine A2H ?_;obtain⟨h6,eh6⟩:∃ h6,h6=((z.heap.update a (Obj.mapSeq λ_=>#[])).push (seqObj "tuple" ws.toArray 0)).push (seqObj "list" #[] 0):=⟨_,rfl⟩;have hA6:h6.get? a=some (seqObj "list" #[] e1):=by rw[eh6];exact A06 _ (A06 _ hA1)
 have kp:∀ b o,z.heap.get? b=some o->o.cls = .type "tuple" -> h6.get? b=some o:=λb o e c=>by
  have hba:b≠a:=λq=>by
   rw[q,hA] at e
   cases e;exact absurd c (by simp[seqObj])
  rw[eh6];exact A06 _ (A06 _ ((Heap.get?_update_ne _ _ _ _ hba).trans e))
 have fin:∀ out:List Value,az3 h6 rows ws out->out.length=ws.length->P (.done (.ret .none)) {z with heap:=h6.update a (Obj.mapSeq λ_=>out.toArray)}:=λout ho hl=>by have:=h h6 out kp ho hl;rw[eh6];exact this
 show wpAny (model prog w) A _ P E {z with heap:=((z.heap.update a (Obj.mapSeq λ_=>#[])).push (seqObj "tuple" ws.toArray 0)).push (seqObj "list" #[] 0)}
 rw[<- eh6];dsimp only;have hp6:Paired (RwT h6) ws rows:=Paired.mapP hp λv p x=>x.keep kp
 have ez':(ws.toArray.zip ws.toArray).map (·.2)=ws.toArray:=by apply Array.toList_inj.mp;rw[Array.toList_map,Array.toList_zip];exact List.map_snd_zip (A05 _)
 by_cases h2:ws.toArray.size<2
 . rw[A0Y h2,A0Y h2];refine A02 (A09 ?_);rw[StateT.run_pure];refine A02 (A09 ?_);dsimp only;refine A02 (seqEpoch_at hA6 rfl ?_);refine A02 (listUpdate_at hA6 rfl ?_ (A24 _) (by rw[ez',A0X,A1B];omega));simp only[bne_self_eq_false,Bool.false_eq_true,if_false];refine A09 ?_;rw[ez'];have hl2:ws.length<2:=by simpa using h2
   refine fin ws ⟨A3U _,?_⟩ rfl
   match ws,hl2 with
   | [],_=>exact A2K
   | [v],_=>exact A26 _ _
 rw[A0P h2,A0P h2]
 have hl2:2<=ws.length:=by
  have:¬ ws.length<2:=by simpa using h2
  omega
 have hm1:1<=m:=hne.resolve_right ∅;have hne':∀ r∈rows,r≠[]:=λr hr e=>by have:=hm r hr;rw[e,A2M] at this;omega
 obtain⟨fs6,ft6,fl6,fstr6⟩:=aw9 hp6 hne';refine A02 (W.kat_kind (T:=.type "str") ft6 ∅ (λv hv=>?_) nofun ?_)
 . obtain⟨x,t,rfl⟩:=fstr6 v hv;exact W.Looks.of_pure rfl
 rw[show(Value.type "str" != Value.type "tuple")=true by decide]
 have hrow:∀ v∈ws,∃ r∈rows,RwT h6 v r:=λv hv=>by obtain⟨i,hi⟩:=List.getElem?_of_mem hv;have hil:=(A01.mp hi).1;have hpl:=hp6.length;have:=K8 hp6 (i:=i) (dx:=Value.none) (dy:=[]) hil;rw[A1X,hi,A1X,A04 (show i<rows.length by omega)] at this;exact⟨_,A3J _,this⟩
 have O:Rkd (model prog w) A {z with heap:=h6} (tuples' true) (rkV h6 rows) (λv=>v∈ws):=⟨λx y hx hy Q E' k=>by obtain⟨r,hr,hxr⟩:=hrow x hx;obtain⟨r',hr',hyr⟩:=hrow y hy;refine aB6 hxr hyr ((hm r hr).trans (hm r' hr').symm) ?_;rw[Xf hr hxr,Xf hr' hyr,aa2 hr] at k;exact k⟩
 have hz1:∀ p∈(ws.toArray.zip ws.toArray).toList,p.1=p.2/\p.1∈ws:=λp hp=>by rw[Array.toList_zip] at hp;obtain⟨i,hi,rfl⟩:=A32 hp;rw[List.getElem_zip];exact⟨rfl,A3J _⟩
 have hz2:(ws.toArray.zip ws.toArray).toList.map (·.2)=ws:=by rw[<- Array.toList_map,ez']
 have run:=aA2 (E:=E) O (st:=SortSt.mk' (tuples' true) (ws.toArray.zip ws.toArray) #[] 7 none) ⟨rfl,rfl,λp hp=>(hz1 p hp).2⟩ rfl (Q:=λ_ st'=>(arrOf st').toList.Perm (ws.toArray.zip ws.toArray).toList/\upL (rkV h6 rows) (arrOf st').toList/\failedOf st'=none) λst' q1 q2 q3=>⟨q1,q2,q3⟩;refine A02 (A2V run ?_ λ_ _ e=>e);rintro⟨⟨⟩,st'⟩ s' ⟨rfl,b1,b2,b3⟩;dsimp only at b1 b2 b3 ⊢;have hout:((arrOf st').map (·.2))=((arrOf st').toList.map (·.2)).toArray:=by rw[<- Array.toList_map]
 have hper:((arrOf st').toList.map (·.2)).Perm ws:=by have:=b1.map (·.2);rwa[hz2] at this
 have hsz:=hper.length_eq;rw[hout];refine A02 (seqEpoch_at hA6 rfl ?_);refine A02 (listUpdate_at hA6 rfl ?_ (A24 _) (by rw[A0X,hsz,A1B];omega));rw[b3];simp only[bne_self_eq_false,Bool.false_eq_true,if_false];refine A09 (fin _ ⟨hper,?_⟩ hsz);refine List.Pairwise.map _ (λp q hpq=>hpq) (List.Pairwise.imp_of_mem (fun {p q} hp hq hpq=>?_) b2);rw[<- (hz1 p (b1.mem_iff.mp hp)).1,<- (hz1 q (b1.mem_iff.mp hq)).1];exact hpq
theorem Lv {t:Addr}{ws:List Value}{rows:List (List Str)}{T:String}{n m:Nat}{o:Obj}{Q:Value->Shared->Prop}(hT:T = "list" \/ T = "tuple")(ho:z.heap.get? t=some o)(hc:o.cls = .type T)(hd:o.data = .seq ws.toArray n)(hP:Paired (RwT z.heap) ws rows)(hm:∀ r∈rows,r.length=m)(hne:1<=m\/ws.length<2)(hmax:ws.length<=1000)
  (h:∀(h0 h1 h':Heap) (out:List Value) (e:Nat),(∀ b o,z.heap.get? b=some o->o.cls = .type "tuple" -> h0.get? b=some o)->(∀ b ob,z.heap.get? b=some ob->h1.get? b=some ob)->(∀ b ob,h1.get? b=some ob->h'.get? b=some ob)->h'.get? h1.objs.size=some (seqObj "list" out.toArray e)->az3 h0 rows ws out->out.length=ws.length->Q (.ref h1.objs.size) {z with heap:=h'}) :
  wpAny (model prog w) A (call (.builtin "sorted") [.ref t]) Q E z:=by
 refine(A4D kind_sorted plain_sorted entry_sorted (args_sorted1 _) ?_);unfold Builtin.«sorted»;refine(A02 (m:=checkCount "sorted" 1 1 _) (A09 ?_));refine A02 (wpAny_collect_seq t hT ho hc hd (λh1 k1=>?_) (by rw[A0X,A1B];omega));refine wpAny_bind (wpAny_newList ?_ (by simp only[List.size_toArray];rw[sizeLine_eq];omega));have hnew:(h1.push (seqObj "list" ws.toArray 0)).get? h1.objs.size=some (seqObj "list" ws.toArray 0):=A0Z _ rfl;show wpAny _ _ _ _ _ {z with heap:=h1.push (seqObj "list" ws.toArray 0)}
 have hP':Paired (RwT (h1.push (seqObj "list" ws.toArray 0))) ws rows:=Paired.mapP hP λv p x=>x.keep λb ob e _=>A06 _ (k1 b ob e);refine A02 (A2H (A2P slot_list_sort ⟨_,hnew,rfl⟩ entry_list_sort (Yz (z:={z with heap:=h1.push (seqObj "list" ws.toArray 0)}) hnew hP' hm hne hmax λh0 out k0 ho1 ho2=>⟨_,rfl,?_⟩) (args_list_sort _)))
 obtain⟨e,he⟩:=sortedHeap_at (out:=out.toArray) hnew;refine A09 ⟨_,rfl,h h0 h1 _ out e (λb ob q c=>k0 b ob (A06 _ (k1 b ob q)) c) k1 (λb ob hb=>?_) he ho1 ho2⟩;have hlt:=A0N hb;rw[sortedHeap_old (A19 hlt) (by rw[size_push'];exact A3F hlt)];exact A06 _ hb
end
theorem Ss {α β:Type}{F:α->β->Prop}{ys ys':List β}(p:ys'.Perm ys):∀ {xs:List α},Paired F xs ys->∃ xs',xs'.Perm xs/\Paired F xs' ys':=by
 induction p with
 |nil=>intro xs h;exact⟨xs,.refl _,h⟩
 |cons y _ ih=>
   intro xs h
   cases h with
   |cons r t=>obtain⟨xs',h1,h2⟩:=ih t;exact⟨_ :: xs',h1.cons _,.cons r h2⟩
 |swap y y' l=>
   intro xs h
   cases h with
   |cons r t=>
     cases t with
     |cons r' t=>exact⟨_,A4C _ _ _,.cons r' (.cons r t)⟩
 |trans _ _ ih1 ih2=>intro xs h;obtain⟨x2,h1,h2⟩:=ih2 h;obtain⟨x3,h3,h4⟩:=ih1 h2;exact⟨x3,h3.trans h1,h4⟩
section
variable {X:Cx}{K:W.Frag}
theorem au5 {pins:List (Addr×Obj)}{σ:St}{H:Hp}{s:Shared}(I:Inv X pins σ H s){r:List Str}{v:V}{u:Value}(h:Is X.K H (nmD r) v)(ru:RelV v u):RwT s.heap u r:=by
 obtain⟨a,rfl,hS⟩:=h.nm
 cases ru;obtain⟨us,rv,⟨o,g1,g2,n,g3⟩,_⟩:=I.tuple hS;refine⟨a,o,n,us.toArray,rfl,g1,g2,g3,?_⟩
 have go:∀ {r:List Str} {us:List Value},Vals (r.map V.str) us->Paired (λ(x:Str) (u:Value)=>∃ t,u = .str x t) r us:=fun {r}=>by
  induction r with
  |nil=>intro us h;cases h;exact .nil
  |cons x r ih=>intro us h;cases h with | cons c t=>exact .cons c (ih t)
 exact go rv
theorem Pp {pins:List (Addr×Obj)}{σ:St}{H:Hp}{s:Shared}(I:Inv X pins σ H s):∀ {rows:List (List Str)} {vs:List V} {its:List Value},IsL X.K H (rows.map nmD) vs->Vals vs its->Paired (RwT s.heap) its rows
 | [],vs,its,h,r=>by
   cases vs with
   |nil=>cases r;exact .nil
   |cons v vs=>exact absurd (IsL.length h) (by simp)
 |p :: ps,vs,its,h,r=>by
   cases vs with
   |nil=>exact absurd (IsL.length h) (by simp)
   |cons v vs=>
     cases r with
     |cons r rr=>
       rw[A0I] at h;simp only[IsL] at h;obtain⟨_,_,e,h1,h2⟩:=h
       cases e;exact .cons (au5 I h1 r) (Pp I h2 rr)
def Np (K:W.Frag):List V->Hp->VK->Prop:=λxs H Q=>∃(a:Addr) (vs:List V) (rows:List (List Str)) (m:Nat),xs=[.ref a]/\(SqL K H a vs\/SqT K H a vs)/\IsL K H (rows.map nmD) vs/\rows.length<=1000/\(∀ r∈rows,r.length=m)/\(1<=m\/rows.length<2)/\∀ p zs qs,H p=none->qs.Perm rows->Oa qs->IsL K H (qs.map nmD) zs->Q (.ref p) (upd H p (.lst zs))
theorem Pb:CallR X (.builtin "sorted") (Np X.K):=by
 intro pins s σ H xs us Q I r h;obtain⟨a,vs,rows,m,rfl,hl,hL,hz,hm,hne,q⟩:=h;obtain⟨u,rfl,ru⟩:=J9 r
 cases ru;have hvl:vs.length=rows.length:=by rw[<- IsL.length hL,A00]
 have fin:∀(its:List Value),Vals vs its->∀(h0 h1 h':Heap) (out:List Value) (e:Nat),(∀ b o,s.heap.get? b=some o->o.cls = .type "tuple" -> h0.get? b=some o)->(∀ b ob,s.heap.get? b=some ob->h1.get? b=some ob)->(∀ b ob,h1.get? b=some ob->h'.get? b=some ob)->h'.get? h1.objs.size=some (seqObj "list" out.toArray e)->az3 h0 rows its out->out.length=its.length->EP X pins σ Q (.ref h1.objs.size) {s with heap:=h'}:=λits rv h0 h1 h' out e k0 k1 k2 he ho hol=>by
  have I1:Inv X pins σ H {s with heap:=h1}:=I.kept (t':=s.toks) k1
  obtain⟨zs,hzp,hzv⟩:=Ss ho.1 rv;obtain⟨qs,hqp,hqL⟩:=IsL.perm hzp hL;have hzl:=hzp.length_eq;refine⟨.ref _,_,I1.laid (t':=s.toks) (o:=.lst zs) k2 (A05 _) ⟨by rw[A1B];omega,_,e,hzv,he⟩,rfl,q _ zs qs (I1.hok.fresh (A05 _)) hqp ?_ hqL⟩;have hrw:=Pp I hqL hzv;have hlen:=hrw.length;refine A3H.mpr λi j hi hj hij=>?_
  have at_:∀ k (hk:k<qs.length),rkV h0 rows (out[k]'∅)=rkR rows qs[k]:=λk hk=>by have:=K8 hrw (i:=k) (dx:=Value.none) (dy:=[]) ∅;rw[A1X,A04 (show k<out.length by omega),A1X,A04 hk] at this;exact Xf (hqp.mem_iff.mp (A3J _)) (RwT.keep this k0)
  have hle:=A3H.mp ho.2 i j ∅ ∅ hij;rw[at_ i hi,at_ j hj] at hle;rw[<- aa2 (hqp.mem_iff.mp (A3J _))];exact A0R ∅
 rcases hl with hl|hl
 . obtain⟨its,rv,⟨o,n,h1,h2,_,h3⟩,_⟩:=I.list hl;have hlen:=rv.length;exact Lv (.inl rfl) h1 h2 h3 (Pp I hL rv) hm ∅ ∅ (fin its rv)
 obtain⟨its,rv,⟨o,h1,h2,n,h3⟩,_⟩:=I.tuple hl;have hlen:=rv.length;exact Lv (.inr rfl) h1 h2 h3 (Pp I hL rv) hm ∅ ∅ (fin its rv)
theorem Ki (hK:X.K=K:=by ac_nf):CallR X (.builtin "sorted") (Np K):=hK ▸ Pb
theorem Qv {a:Addr}{vs:List V}{rows:List (List Str)}{m:Nat}{H:Hp}{Q:VK}(h:SqL K H a vs\/SqT K H a vs)(hL:IsL K H (rows.map nmD) vs)(hz:rows.length<=1000)(hm:∀ r∈rows,r.length=m)(hne:1<=m\/rows.length<2)(k:∀ p zs qs H',H p=none->Same H H'->H' p=some (.lst zs)->qs.Perm rows->Oa qs->IsL K H' (qs.map nmD) zs->Q (.ref p) H'):Np K [.ref a] H Q:=
 ⟨a,vs,rows,m,rfl,h,hL,hz,hm,hne,λp zs qs hp h1 h2 h3=>k p zs qs _ hp (Same.upd hp) A8 h1 h2 (IsL.mono (Same.upd hp) _ _ h3)⟩
end
section
variable {X:Cx}{K:W.Frag}{e:Expr}{ta:TE}
theorem al7 {a b:Addr}{xs ys:List V}{H:Hp}{Q:VK}(h1:SqT K H a xs)(h2:H b=some (.tup ys))(hy:ys≠[])(h:xs.length+ys.length<=sizeLine)(k:∀ p H',Same H H'->H' p=some (.tup (xs++ys))->Q (.ref p) H'):Rx K (.ref a) (.ref b) H Q:=by
 by_cases hx:xs=[]
 . subst hx;exact .inr (.inr (.inr (.inr ⟨a,b,ys,rfl,rfl,h1,SqT.of h2,k b H (Same.refl _) h2⟩)))
 exact .inr (.inr (.inr (.inl ⟨a,b,xs,ys,rfl,rfl,h1,SqT.of h2,hx,h,λe=>absurd e hy,λ_ p hp=>k p _ (Same.upd hp) A8⟩)))
end
end L2
namespace K38
open PySem L2 PySem.Spec PyProof.Rows
def top (i:Nat):Stmt:=PySem.Challenge.pw_halforder_k38_single_lists.main.body.getD i (.Pass ⟨0,0,0,0⟩)
abbrev Ch:Stmt:=top 4
theorem C6:Aq ["half","names","reach","saying","middle","name"] ["half"] (A3 Ch):=⟨rfl,rfl,rfl,by decide +kernel,rfl,by decide +kernel,by decide +kernel⟩
abbrev Gf:Stmt:=top 6
theorem Ga:Aq ["names","bits","bit","name"] ["names"] (A3 Gf):=⟨rfl,rfl,rfl,by decide +kernel,rfl,by decide +kernel,by decide +kernel⟩
abbrev Di:Stmt:=top 7
theorem Ew:Aq ["half","bits","reach","found","name"] ["half","bits"] (A3 Di):=⟨rfl,rfl,rfl,by decide +kernel,rfl,by decide +kernel,by decide +kernel⟩
abbrev Dc:Stmt:=top 11
theorem Hl:Aq ["ways","left","found","name"] ["ways","left"] (A3 Dc):=⟨rfl,rfl,rfl,by decide +kernel,rfl,by decide +kernel,by decide +kernel⟩
abbrev Do:Stmt:=top 12
theorem Jv:Aq ["half","ways"] ["half"] (A3 Do):=⟨rfl,rfl,rfl,by decide +kernel,rfl,by decide +kernel,by decide +kernel⟩
abbrev Cg:Stmt:=top 15
theorem C5:Aq ["one","other","row","found","place","seat"] ["one","other"] (A3 Cg):=⟨rfl,rfl,rfl,by decide +kernel,rfl,by decide +kernel,by decide +kernel⟩
abbrev Gg:Stmt:=top 16
theorem Wn:Aq ["order","place"] ["order","place"] (A3 Gg):=⟨rfl,rfl,rfl,by decide +kernel,rfl,by decide +kernel,by decide +kernel⟩
abbrev Jw:Stmt:=top 17
theorem Pd:Aq ["half","orders","odd"] ["half"] (A3 Jw):=⟨rfl,rfl,rfl,by decide +kernel,rfl,by decide +kernel,by decide +kernel⟩
abbrev Cd:Stmt:=top 18
theorem Dt:Aq ["names","found","number","row","through"] ["names"] (A3 Cd):=⟨rfl,rfl,rfl,by decide +kernel,rfl,by decide +kernel,by decide +kernel⟩
abbrev Aw:Stmt:=top 19
theorem Bl:Aq ["orders","near","order","swaps"] ["orders"] (A3 Aw):=⟨rfl,rfl,rfl,by decide +kernel,rfl,by decide +kernel,by decide +kernel⟩
abbrev B4:Stmt:=top 20
theorem Dy:Aq ["near","begun","order","found"] ["near","begun"] (A3 B4):=⟨rfl,rfl,rfl,by decide +kernel,rfl,by decide +kernel,by decide +kernel⟩
abbrev As:Stmt:=top 21
theorem B7:Aq ["orders","near","order","found"] ["orders"] (A3 As):=⟨rfl,rfl,rfl,by decide +kernel,rfl,by decide +kernel,by decide +kernel⟩
abbrev Ck:Stmt:=top 22
theorem En:Aq ["half","parts","orders","found"] ["half"] (A3 Ck):=⟨rfl,rfl,rfl,by decide +kernel,rfl,by decide +kernel,by decide +kernel⟩
abbrev Dz:Stmt:=top 24
theorem Ri:Aq ["_law_script"] ["_law_script"] (A3 Dz):=⟨rfl,rfl,rfl,by decide +kernel,rfl,by decide +kernel,by decide +kernel⟩
abbrev Ee:Stmt:=top 25
theorem Dj:Aq ["_law_feed_here","_law_many","_law_found","_law_cell","_law_mixed"] ["_law_feed_here","_law_many"] (A3 Ee):=⟨rfl,rfl,rfl,by decide +kernel,rfl,by decide +kernel,by decide +kernel⟩
abbrev Bt:Stmt:=top 26
theorem Cy:Aq ["_law_feed_here","_law_some","_law_left","_law_found","_law_k"] ["_law_feed_here","_law_some"] (A3 Bt):=⟨rfl,rfl,rfl,by decide +kernel,rfl,by decide +kernel,by decide +kernel⟩
abbrev Dm:Stmt:=top 27
theorem Au:Aq ["_law_feed_here","_law_letters","_law_way","_law_start","_law_size","_law_at","_law_some","_law_head","_law_tail"] ["_law_feed_here"] (A3 Dm):=⟨rfl,rfl,rfl,by decide +kernel,rfl,by decide +kernel,by decide +kernel⟩
abbrev C7:Stmt:=top 28
theorem Lq:Aq ["_law_feed_here","_law_way","_law_j","_law_k","_law_many"] ["_law_feed_here","_law_way","_law_j","_law_k","_law_many"] (A3 C7):=⟨rfl,rfl,rfl,by decide +kernel,rfl,by decide +kernel,by decide +kernel⟩
abbrev Ej:Stmt:=top 29
theorem Bj:Aq ["_law_feed_here","_law_many","_law_names_here","_law_line","_law_way","_law_sayings","_law_k","_law_j","_law_pair"] ["_law_feed_here","_law_many"] (A3 Ej):=⟨rfl,rfl,rfl,by decide +kernel,rfl,by decide +kernel,by decide +kernel⟩
abbrev Ek:Stmt:=top 30
theorem Bv:Aq ["_law_half_here","_law_found","_law_more","_law_one","_law_other","_law_fresh"] ["_law_half_here"] (A3 Ek):=⟨rfl,rfl,rfl,by decide +kernel,rfl,by decide +kernel,by decide +kernel⟩
abbrev Bg:Stmt:=top 31
theorem G9:Aq ["_law_half_here","_law_over_here","_law_begun","_law_left"] ["_law_half_here","_law_over_here","_law_begun"] (A3 Bg):=⟨rfl,rfl,rfl,by decide +kernel,rfl,by decide +kernel,by decide +kernel⟩
abbrev Ci:Stmt:=top 32
theorem Bn:Aq ["_law_half_here","_law_over_here","_law_found","_law_turn","_law_longer","_law_begun"] ["_law_half_here"] (A3 Ci):=⟨rfl,rfl,rfl,by decide +kernel,rfl,by decide +kernel,by decide +kernel⟩
abbrev Dq:Stmt:=top 33
theorem B6:Aq ["_law_half_here","_law_over_here","_law_found","_law_turn","_law_further","_law_begun","_law_name","_law_more"] ["_law_half_here"] (A3 Dq):=⟨rfl,rfl,rfl,by decide +kernel,rfl,by decide +kernel,by decide +kernel⟩
abbrev Fe:Stmt:=top 34
theorem Gx:Aq ["_law_feed_here","_law_most","_law_half_here","_law_great"] ["_law_feed_here","_law_most"] (A3 Fe):=⟨rfl,rfl,rfl,by decide +kernel,rfl,by decide +kernel,by decide +kernel⟩
abbrev Dh:Stmt:=top 35
theorem Fc:Aq ["_law_one","_law_other","_law_many","_law_k"] ["_law_one","_law_other"] (A3 Dh):=⟨rfl,rfl,rfl,by decide +kernel,rfl,by decide +kernel,by decide +kernel⟩
abbrev Dp:Stmt:=top 36
theorem Fd:Aq ["_law_orders_here","_law_near","_law_order","_law_some"] ["_law_orders_here"] (A3 Dp):=⟨rfl,rfl,rfl,by decide +kernel,rfl,by decide +kernel,by decide +kernel⟩
abbrev Bo:Stmt:=top 37
theorem Hn:Aq ["_law_near","_law_walk","_law_other"] ["_law_near","_law_walk"] (A3 Bo):=⟨rfl,rfl,rfl,by decide +kernel,rfl,by decide +kernel,by decide +kernel⟩
abbrev B1:Stmt:=top 38
theorem Fq:Aq ["_law_half_here","_law_orders_here","_law_near"] ["_law_half_here","_law_orders_here"] (A3 B1):=⟨rfl,rfl,rfl,by decide +kernel,rfl,by decide +kernel,by decide +kernel⟩
abbrev C8:Stmt:=top 39
theorem La:Aq ["_law_found","_law_orders_here"] ["_law_found","_law_orders_here"] (A3 C8):=⟨rfl,rfl,rfl,by decide +kernel,rfl,by decide +kernel,by decide +kernel⟩
abbrev Df:Stmt:=top 40
theorem Gz:Aq ["_law_found","_law_half_here","_law_orders_here","_law_odd","_law_even"] ["_law_found","_law_half_here","_law_orders_here"] (A3 Df):=⟨rfl,rfl,rfl,by decide +kernel,rfl,by decide +kernel,by decide +kernel⟩
abbrev Pc:Stmt:=top 41
theorem L9:Aq ["_law_script","_law_feed_here","_law_most","_law_half_here","_law_orders_here","_law_again","_law_found"] ["_law_script"] (A3 Pc):=⟨rfl,rfl,rfl,by decide +kernel,rfl,by decide +kernel,by decide +kernel⟩
abbrev Ef:Stmt:=Te (top 8) 0
theorem Qi:Aq ["self","half"] ["self","half"] (A3 Ef):=⟨rfl,rfl,rfl,by decide +kernel,rfl,by decide +kernel,by decide +kernel⟩
abbrev B8:Stmt:=Te (top 8) 1
theorem Jh:Aq ["self","left"] ["self","left"] (A3 B8):=⟨rfl,rfl,rfl,by decide +kernel,rfl,by decide +kernel,by decide +kernel⟩
abbrev Bp:Stmt:=Te (top 8) 2
theorem L6:Aq ["self","left"] ["self","left"] (A3 Bp):=⟨rfl,rfl,rfl,by decide +kernel,rfl,by decide +kernel,by decide +kernel⟩
structure Gi (mg:Str->Option Value):Prop where
 g_MOST_LISTED:∃ u,mg "MOST_LISTED" = some u/\RelV (.int 720) u
 g_MOST_SEARCHED:∃ u,mg "MOST_SEARCHED" = some u/\RelV (.int 12) u
 b_abs:mg "abs" = none
 b_dict:mg "dict" = none
 b_enumerate:mg "enumerate" = none
 b_int:mg "int" = none
 b_isinstance:mg "isinstance" = none
 b_len:mg "len" = none
 b_list:mg "list" = none
 b_range:mg "range" = none
 b_repr:mg "repr" = none
 b_sorted:mg "sorted" = none
 b_sum:mg "sum" = none
 b_tuple:mg "tuple" = none
structure Fx (K:W.Frag)(C:Addr):Prop where
 cl:Cls K C
 n_names:NoAttr K C "names"
 n_bits:NoAttr K C "bits"
 n_ahead:NoAttr K C "ahead"
 n_full:NoAttr K C "full"
 n_known:NoAttr K C "known"
section
variable {P:Program}{w:World}{K:W.Frag}{mg:Str->Option Value}{base:Heap}
local macro_rules | `(tactic| walk_at "lk") => L2.mRows "as | Same.lk e h: e=as h=lk | ExtBut.lk e h n: e=as n=ne h=lk | no"
local macro_rules | `(tactic| walk_at "ne") => L2.mRows "as | Ne.symm q: q=as | ne_of_none h g: g=as h=lk | ne_none2 h g: g=as h=lk | ne_of h g z: h=as g=as z=nc | no"
local macro_rules | `(tactic| walk_at "nc") => `(tactic| (intro z; cases z))
local macro_rules | `(tactic| walk_at "fr") => L2.mRows "ExtBut.refl | ExtBut.trans a b: b=as a=fr | ExtBut.same a b: b=as a=fr | ExtBut.off a q b: b=as q=as a=fr | no"
local macro_rules | `(tactic| walk_at "sm") => L2.mRows "same_refl | Same.trans a b: b=as a=sm | Same.off a q b: b=as q=as a=sm | no"
local macro_rules | `(tactic| walk_at "fd") => L2.mRows "as | Feed.same h e: e=as h=fd | Feed.off h e q f: e=as q=as f=as h=fd | no"
local macro_rules | `(tactic| walk_at "fz1") => L2.mRows "Same.fz b: b=as | ExtBut.fzL b l: b=as l=lk | ExtBut.fzD b l: b=as l=lk | Feed.fz f b: b=as f=fd | no"
local macro_rules | `(tactic| walk_at "fz") => L2.mRows "fz_refl | Fz.trans a x: x=fz1 a=fz | no"
local macro_rules | `(tactic| walk_at "sd") => `(tactic| first | omega | (show (0 : Int) < _; omega) | (unfold aC0; omega) | (unfold CMul; omega) | (unfold aB5; omega) | (unfold aB5; decide) | (refine ⟨?_, ?_⟩ <;> omega) | decide)
local macro_rules | `(tactic| walk_at "sz") => `(tactic| first | decide | exact Ab (by omega) | (rw [sizeLine_eq]; omega))
local macro_rules | `(tactic| walk_at "kv") => `(tactic| rfl)
local macro_rules | `(tactic| walk_at "rq1") => do
 let a <- L2.mAlts "i_asg i_gname i_ret i_drop i_if i_op i_un i_call i_cb i_cons i_nil i_c i_put i_tTest i_tB i_not i_and i_or i_tup i_lst i_next i_sl i_noPart i_part i_int i_for i_rng1 i_rng2 i_comp i_itS i_iany i_ienum i_ienumL i_irev i_chain i_andV i_orV i_notV i_dget1 i_tAt i_sSt i_tMe i_tMk i_tTru i_dget2 i_iDT i_bmT i_rU i_rI0 i_addI i_bl i_bm i_bm0 i_reprKB i_isN i_isNotN i_isB i_isNotB i_true i_tyS i_find i_intB i_inS i_pair i_pair0 iteR iteNR iteNbb itebb iteT iteF iteNT iteNF"
 let b <- L2.mRows "i_var w _: w=kv | i_rI w _: w=sd | i_mulBI w _: w=sd | i_tyLm w _: w=lk | i_ixD w v _: w=lk v=kv | i_eqS w _: w=kv | i_neS w _: w=kv | i_slS w _: w=sz | i_addS w _: w=sz | i_lenS w _: w=sz | i_lenL w _: w=lk | i_lenT w _: w=lk | i_cutN w _: w=ar"
 let c <- L2.mAltG "i_seqAG i_seqDG i_seqPG"
 `(tactic| first | $c:tactic | $a:tactic | $b:tactic)
local macro_rules | `(tactic| walk_at "rd1") => `(tactic| first | with_reducible refine at6 fun N hN => ?_ | walk_at "rq1")
local macro_rules | `(tactic| walk_at "rq") => `(tactic| repeat (walk_at "rq1"))
local macro_rules | `(tactic| walk_at "rd") => `(tactic| repeat (walk_at "rd1"))
def Ed (l:Addr)(a t u:Int):List (Key×V):=[(Sum.inr "script",.ref l),(Sum.inr "at",.int a),(Sum.inr "left",.int t),(Sum.inr "turn",.int u)]
def Feed (H:Hp)(d l:Addr):Prop:=∃(a t u:Int) (ns:List Int),H d=some (.dK (Ed l a t u))/\H l=some (.lst (ns.map V.int))/\0<=ns.length/\ns.length<=64
def Ht (K:W.Frag):Sp:=λvs H Q _=>∃(a:Addr) (ns:List Int),vs=[.ref a]/\SqL K H a (ns.map V.int)/\ns.length<=63/\∀ d l H',H d=none->H l=none->Same H H'->Feed H' d l->Q (.ref d) H'
def Bw (K:W.Frag):Sp:=λvs H Q _=>∃ d l n,vs=[.ref d,.int n]/\Feed H d l/\0<n/\n<1073741824/\∀ r H',0<=r->r<n->ExtBut d H H'->Feed H' d l->Q (.int r) H'
theorem Xx {l:Addr}{a t u:Int}:Dg (Ed l a t u) (Sum.inr "script":Key)=some (.ref l):=by rfl
theorem aA5 {l:Addr}{a t u:Int}:Dg (Ed l a t u) (Sum.inr "at":Key)=some (.int a):=by rfl
theorem ak2 {l:Addr}{a t u:Int}:Dg (Ed l a t u) (Sum.inr "left":Key)=some (.int t):=by rfl
theorem ai4 {l:Addr}{a t u:Int}:Dg (Ed l a t u) (Sum.inr "turn":Key)=some (.int u):=by rfl
local macro_rules | `(tactic| walk_at "kv") => `(tactic| first | exact Xx | exact aA5 | exact ak2 | exact ai4 | rfl)
theorem a71 {l:Addr}{a t u x:Int}:Eb (Ed l a t u) (Sum.inr "turn":Key) (.int x)=Ed l a t x:=by rfl
theorem aq3 {l:Addr}{a t u x:Int}:Eb (Ed l a t u) (Sum.inr "at":Key) (.int x)=Ed l x t u:=by rfl
theorem W4 {l:Addr}{a t u x:Int}:Eb (Ed l a t u) (Sum.inr "left":Key) (.int x)=Ed l a x u:=by rfl
theorem Feed.same {H H':Hp}{d l:Addr}(h:Feed H d l)(e:Same H H'):Feed H' d l:=let ⟨a,t,u,ns,h1,h2,h3,h4⟩:=h;⟨a,t,u,ns,e _ _ h1,e _ _ h2,h3,h4⟩
theorem Feed.put {H H':Hp}{d l p:Addr}(h:Feed H d l)(e:ExtBut p H H')(hd:d≠p)(hl:l≠p):Feed H' d l:=let ⟨a,t,u,ns,h1,h2,h3,h4⟩:=h;⟨a,t,u,ns,e _ _ hd h1,e _ _ hl h2,h3,h4⟩
theorem Feed.nd {H:Hp}{d l p:Addr}(h:Feed H d l)(hp:H p=none):d≠p:=let ⟨_,_,_,_,h1,_⟩:=h;ne_of_none h1 hp
theorem Feed.nl {H:Hp}{d l p:Addr}(h:Feed H d l)(hp:H p=none):l≠p:=let ⟨_,_,_,_,_,h2,_⟩:=h;ne_of_none h2 hp
theorem Feed.lst {H:Hp} {d l b:Addr} {xs:List V} (h:Feed H d l) (hb:H b=some (.lst xs)):b≠d:=let ⟨_,_,_,_,h1,_⟩:=h;ne_of hb h1 (by intro z;cases z)
theorem Feed.free {H H':Hp}{d l p:Addr}(h:Feed H' d l)(e:ExtBut d H H')(hp:H' p=none):H p=none:=by
 cases hq:H p with
 |none=>rfl
 |some o=>
   obtain⟨_,_,_,_,h1,_⟩:=h;have n:p≠d:=λq=>by subst q;rw[hp] at h1;cases h1
   rw[e p o n hq] at hp
   cases hp
theorem Feed.fz {H H':Hp}{d l:Addr}(h:Feed H d l)(e:ExtBut d H H'):Fz H H':=let ⟨_,_,_,_,h1,_⟩:=h;e.fzD h1
theorem Feed.off {H H1 H2:Hp}{d l q:Addr}(h:Feed H1 d l)(e:ExtBut q H1 H2)(hq:H q=none)(hF:Feed H d l):Feed H2 d l:=h.put e (hF.nd hq) (hF.nl hq)
theorem Qf {f:Addr}{fd:FuncData}(F:Fun K "_law_draw" "_law_draw" Ee f fd)(T:Gi mg):FnOk P w K mg base CX0 1 f fd ["_law_feed_here","_law_many"] (Bw K):=by
 refine F.ok Dj (λvs H Q E h=>?_) (λcdv A outer s H vs Q E hr h=>?_)
 . obtain⟨d,l,n,rfl,_⟩:=h;rfl
 obtain⟨d,l,n,rfl,⟨a,t,u,ns,hd,hl,h0,h64⟩,hn,hn2,k⟩:=h;have hu:=Cj hr;have hq:=Cf hr;have hld:l≠d:=ne_of hl hd (by intro z;cases z)
 with_reducible refine⟨_,(A1 (Er hu (pv 0) Av (Ai (Ah (K:=K)) (Ar (A6 (K:=K) hu) (pv 0) Av (by ac_rfl)) A4) ⋯)
  (A1 (C1 (Ae Nq (Ar (A6 (K:=K) hu) (pv 0) Av (by ac_rfl)) A4 (Al _)) (A1 (Ad (i:=2) Dj.nd ⋯ (by eq_refl) (Ai Gb (Ar (A6 (K:=K) hu) (pv 0) Av (by ac_rfl)) (pv 1)))
  (A1 (Er hu (pv 0) Av (Ai Jf (Ar (A6 (K:=K) hu) (pv 0) Av (by ac_rfl)) (pv 1)) ⋯)
  (A5 (Aj (pv 2))))) Ao)
  (A1 (Ad (i:=3) Dj.nd ⋯ (by eq_refl) A4)
  (A1 (C1 (Ae (Rw (K:=K) hq) (Ar (A6 (K:=K) hu) (pv 0) Av (by ac_rfl)) (Co A2) (Al _)) (A5 (Ad (i:=3) Dj.nd ⋯ (by eq_refl) (Ar (A6 (K:=K) hu) (Ar (A6 (K:=K) hu) (pv 0) Av (by ac_rfl)) (Ai Gb (Ar (A6 (K:=K) hu) (pv 0) Av (by ac_rfl)) (Aa (Am (K:=K)) ⋯ T.b_len PyProof.Rows.Boot.«len» (A0 (Ar (A6 (K:=K) hu) (pv 0) Av (by ac_rfl)) A2))) (by ac_rfl)))) Ao)
  (A1 (Er hu (pv 0) Av (Ai (Ah (K:=K)) (Ar (A6 (K:=K) hu) (pv 0) Av (by ac_rfl)) A4) ⋯)
  (A1 (C1 (PW.pt (Zq (Ae aC4 (pv 3) (Ai aw3 A4 A4) (Al _)) (Tn (Ae ae7 (Ar (A6 (K:=K) hu) (pv 0) Av (by ac_rfl)) (Aa (Am (K:=K)) ⋯ T.b_len PyProof.Rows.Boot.«len» (A0 (Ar (A6 (K:=K) hu) (pv 0) Av (by ac_rfl)) A2)) (Al _))))) (A1 (Er hu (pv 0) Av (Ai Jf (pv 3) (pv 1)) ⋯)
  (A5 (Aj (Ai Gb (pv 3) (pv 1))))) Ao)
  (A1 (Ad (i:=4) Dj.nd ⋯ (by eq_refl) (Ai Gb (Ai Fp (Ai (Ah (K:=K)) (Ai Gb (pv 3) A4) (Ai Fp A4 (Ar (A6 (K:=K) hu) (pv 0) Av (by ac_rfl)))) A4) A4))
  (A1 (Ad (i:=4) Dj.nd ⋯ (by eq_refl) (Ai Gb (Ai Fp (Ai (Ah (K:=K)) (Ai Jf (pv 4) A4) (Ai Fp A4 (Ar (A6 (K:=K) hu) (pv 0) Av (by ac_rfl)))) A4) A4))
  (A5 (Aj (Ai Gb (Ai Jf (pv 4) A4) (pv 1)))))))))))),?_⟩
 symm
 refine Jc hd (by show 4<1000;decide) λH1 e1 hd1=>?_;rw[a71] at hd1;have hl1:H1 l=some (.lst (ns.map V.int)):=e1 _ _ hld hl
 symm
 refine Hy (λht=>?_) (λht=>?_)
 . symm
   refine Jc hd1 (by show 4<1000;decide) λH2 e2 hd2=>?_;rw[W4] at hd2;have hl2:H2 l=some (.lst (ns.map V.int)):=e2 _ _ hld hl1
   symm
   exact k _ H2 (A3Q _ ∅) (A38 _ hn) (e1.trans e2) ⟨_,_,_,ns,hd2,hl2,h0,h64⟩
 walk_at "rq"
 with_reducible refine W7 (fun σ' H'=>∃ c:Int,σ'=[some (.ref d),some (.int n),none,some (.int c),none]/\Same H1 H') (λN hN=>?_) (fun σ1 H2 hM=>?_)
 . walk_at "rq";refine Cp nofun λy H2 hy2 e2 h2=>?_;refine a58 (Us (e2.seq (SqL.of hl1))) (Us (ns:=[]) (SqL.of h2)) (W.ke_shaped_ints ns) (W.ke_shaped_ints []) ?_;walk_at "rq";refine Y2 (λhc=>?_) (λhc=>?_)
   . have hpos:0<ns.length:=by
      cases ns with
      |nil=>simp[PyData.eqv,PyData.eqvAll] at hc
      |cons=>simp
     have hl2:=e2 _ _ hl1;have hd2:=e2 _ _ hd1;walk_at "rq";have hlen:(0:Int)<((ns.map V.int).length:Nat):=by rw[A00];omega
     refine i_rI hlen ?_;have hm0:0<=a % (((ns.map V.int).length:Nat):Int):=A3Q _ ∅;have hm1:=A38 a hlen
     obtain⟨c,hc⟩:∃ c,(ns.map V.int)[(a % (((ns.map V.int).length:Nat):Int)).toNat]? = some (V.int c):=by refine⟨ns[(a % (((ns.map V.int).length:Nat):Int)).toNat]'(by rw[A00] at *;omega),?_⟩;rw[A07,A04];rfl
     refine Po hl2 (by have:=Bq hc;rwa[A3L hm0] at this) ?_
     walk_at "rq";exact hN _ _ ⟨c,rfl,e2⟩
   walk_at "rq";exact hN _ _ ⟨0,rfl,e2⟩
 obtain⟨c,rfl,e2⟩:=hM;have hd2:=e2 _ _ hd1;have hl2:=e2 _ _ hl1;have e12:ExtBut d H H2:=e1.same e2
 symm
 refine Jc hd2 (by show 4<1000;decide) λH3 e3 hd3=>?_;rw[aq3] at hd3;have hl3:H3 l=some (.lst (ns.map V.int)):=e3 _ _ hld hl2;have fin:∀ r:Int,0<=r->r<n->Q (.int r) H3:=λr h1 h2=>k r H3 h1 h2 (e12.trans e3) ⟨_,_,_,ns,hd3,hl3,h0,h64⟩;have take:∀ r x:Int,0<=r->r<n->∀ H4,ExtBut d H3 H4->H4 d=some (.dK (Ed l (a+1) x (u+1)))->Q (.int r) H4:=λr x h1 h2 H4 e4 h4=>k r H4 h1 h2 ((e12.trans e3).trans e4) ⟨_,_,_,ns,h4,e4 _ _ hld hl3,h0,h64⟩
 symm
 refine Hy (λhc=>?_) (λhc=>?_)
 . symm
   refine Hy (λhc2=>?_) (λhc2=>?_)
   . symm
     refine Jc hd3 (by show 4<1000;decide) λH4 e4 hd4=>?_;rw[W4] at hd4
     symm
     exact take _ _ (A3Q _ ∅) (A38 _ hn) H4 e4 hd4
   symm
   exact fin _ (A3Q _ ∅) (A38 _ hn)
 symm
 exact fin _ (A3Q _ ∅) (A38 _ hn)
theorem Rv {f:Addr}{fd:FuncData}(F:Fun K "_law_feed" "_law_feed" Dz f fd)(T:Gi mg):FnOk P w K mg base CX0 1 f fd ["_law_script"] (Ht K):=by
 refine F.ok Ri (λvs H Q E h=>?_) (λcdv A outer s H vs Q E hr h=>?_)
 . obtain⟨a,ns,rfl,_⟩:=h;rfl
 obtain⟨a,ns,rfl,hS,h63,k⟩:=h;have hu:=Cj hr;have hq:=Cf hr
 with_reducible refine⟨_,(A5 (Aj (Y4 (Iw Av (Dx (Nd (K:=K)) ⋯ T.b_list PyProof.Rows.Boot.«list» (A0 (Bc (Pt (K:=K)) (pv 0) Ds (Be A4)) A2)) (Iw Av A4 (Iw Av A4 (Iw Av A4 Sd)))) ⋯ ⋯ nofun nofun))),?_⟩
 symm
 refine aa1 λp H1 hp e1 hp1=>?_
 symm
 have hS1:=e1.seq hS;refine Yg hS1 λq H2 hq2 e2 hq2'=>?_;rw[G1 nofun,<- A33] at hq2'
 symm
 refine ai6 (SqL.of hq2') λv H3 hv3 e3 hv3'=>?_
 symm
 refine Xr [(Sum.inr "script",.ref v),(Sum.inr "at",.int 0),(Sum.inr "left",.int 0),(Sum.inr "turn",.int 0)] (by walk_at "lk") (by rfl) (by show 4<=15;decide) λH4 e4 h4=>?_;have en:H4 p=some (.dK (Ed v 0 0 0)):=h4;refine k p v H4 hp (e1.free (e2.free hv3)) (λb o hb=>e4 b o (ne_of_none hb hp) (e3 _ _ (e2 _ _ (e1 _ _ hb)))) ⟨0,0,0,_,en,e4 _ _ (Ne.symm (ne_of_none (e2 _ _ hp1) hv3)) hv3',A24 _,?_⟩;rw[A0J];omega
def Cz (K:W.Frag):Sp:=λvs H Q _=>∃ d l a xs,vs=[.ref d,.ref a]/\Feed H d l/\(SqL K H a xs\/SqT K H a xs)/\xs.length<=1000/\∀ p ys H',H p=none->ExtBut d H H'->Feed H' d l->H' p=some (.lst ys)->ys.Perm xs->Q (.ref p) H'
theorem Kk {f:Addr}{fd:FuncData}(F:Fun K "_law_shuffled" "_law_shuffled" Bt f fd)(T:Gi mg)(A9:Fnd P w K mg base 1 "_law_draw" ["_law_feed_here","_law_many"] (Bw K)):FnOk P w K mg base CX0 2 f fd ["_law_feed_here","_law_some"] (Cz K):=by
 refine F.ok Cy (λvs H Q E h=>?_) (λcdv A outer s H vs Q E hr h=>?_)
 . obtain⟨d,l,a,xs,rfl,_⟩:=h;rfl
 obtain⟨d,l,a,xs,rfl,hF,hS,hx,k⟩:=h;have hu:=Cj hr;have hq:=Cf hr
 with_reducible refine⟨_,(A1 (Ad (i:=2) Cy.nd ⋯ (by eq_refl) (Dx (Nd (K:=K)) ⋯ T.b_list PyProof.Rows.Boot.«list» (A0 (pv 1) A2)))
  (A1 (Ad (i:=3) Cy.nd ⋯ (by eq_refl) (Co A2))
  (A1 (Bx A13 ⋯ (Ce ⋯ T.b_range (A0 (Aa (Am (K:=K)) ⋯ T.b_len PyProof.Rows.Boot.«len» (A0 (pv 2) A2)) A2)) (A7 (i:=4) Cy.nd ⋯ (by eq_refl))
  (A5 (Ic (Lw (K:=K) A1W PySem.F.slot_list_append PySem.F.type_list_append (mm Pz) (pv 3) (A0 (Lw (K:=K) A1W PySem.F.slot_list_pop PySem.F.type_list_pop (mm a88) (pv 2) (A0 (Az A9 (hr.mono nofun) ⋯ (A0 (pv 0) (A0 (Aa (Am (K:=K)) ⋯ T.b_len PyProof.Rows.Boot.«len» (A0 (pv 2) A2)) A2))) A2)) A2)))))
  (A5 (Aj (pv 3)))))),?_⟩
 symm
 refine aj9 hS λq H1 hq1 e1 h1=>?_
 symm
 refine Cp nofun λp H2 hp2 e2 h2=>?_
 symm
 refine Ii ∅ ?_;have hp0:H p=none:=e1.free hp2;have hpq:p≠q:=λz=>by subst z;rw[h1] at hp2;cases hp2
 refine Ep Bf (λi σ H3=>∃ us vs x4,σ=[some (.ref d),some (.ref a),some (.ref q),some (.ref p),x4]/\ExtBut d H H3/\Feed H3 d l/\H3 q=some (.lst us)/\H3 p=some (.lst vs)/\(vs++us).Perm xs/\us.length+i=xs.length/\vs.length=i)
  ⟨xs,[],none,rfl,by walk_at "fr",by walk_at "fd",by walk_at "lk",h2,by simp,rfl,rfl⟩ (λ_ _ _ _=>trivial) (λi x σ H3 hx3 hi hP=>?_) (fun σ H3 hP=>?_)
 . obtain⟨us,vs,x4,rfl,e3,hF3,h3q,h3p,hperm,hlen,hvl⟩:=hP;obtain⟨rfl,hi2⟩:=Fn hx3;have hi3:i<xs.length:=by simpa using hi2
   symm
   refine⟨d,l,_,rfl,hF3,by omega,by omega,λr H4 hr0 hr1 e4 hF4=>?_⟩;have h4q:H4 q=some (.lst us):=e4 _ _ (hF3.lst h3q) h3q;have h4p:H4 p=some (.lst vs):=e4 _ _ (hF3.lst h3p) h3p;have hr2:r.toNat<us.length:=by omega
   symm
   refine a77 h4q hr0 (A04 hr2) (λH5 e5 h5q=>?_) ∅;have h5p:H5 p=some (.lst vs):=e5 _ _ hpq h4p
   symm
   refine ar0 h5p ∅ λH6 e6 h6p=>?_
   symm
   refine⟨us.eraseIdx r.toNat,vs++[us[r.toNat]],_,rfl,by walk_at "fr",(hF4.put e5 (hF.nd hq1) (hF.nl hq1)).put e6 (hF.nd hp0) (hF.nl hp0),e6 _ _ (Ne.symm hpq) h5q,h6p,?_,?_,by simp[hvl]⟩
   . exact(a84 (A04 hr2) vs).trans hperm
   rw[List.length_eraseIdx,A0Y hr2];omega
 obtain⟨us,vs,x4,rfl,e3,hF3,h3q,h3p,hperm,hlen,hvl⟩:=hP
 symm
 have hu0:us=[]:=by rw[A00,A1D] at hlen;exact A0D.mp ∅
 subst hu0;rw[A17] at hperm;exact k p vs H3 hp0 e3 hF3 h3p hperm
def Hf (K:W.Frag):Sp:=λvs H Q _=>∃ d l,vs=[.ref d]/\Feed H d l/\∀ p ns H',H p=none->ExtBut d H H'->Feed H' d l->H' p=some (.lst (ns.map V.str))->Names ns->ns.length=10->Q (.ref p) H'
def MN (H:Hp)(d l:Addr)(way st sz at':Int):L2.St->Hp->Prop:=fun σ' H'=>∃ p ns x7 x8,σ'=[some (V.ref d),some (.str LL),some (.int way),some (.int st),some (.int (1+sz)),some (.int at'),some (.ref p),x7,x8]/\ExtBut d H H'/\Feed H' d l/\H' p=some (.lst (ns.map V.str))/\Names ns/\ns.length=10
theorem Ob {f:Addr}{fd:FuncData}(F:Fun K "_law_names" "_law_names" Dm f fd)(T:Gi mg)(A9:Fnd P w K mg base 1 "_law_draw" ["_law_feed_here","_law_many"] (Bw K))(Bu:Fnd P w K mg base 2 "_law_shuffled" ["_law_feed_here","_law_some"] (Cz K)):FnOk P w K mg base CX0 3 f fd ["_law_feed_here"] (Hf K):=by
 refine F.ok Au (λvs H Q E h=>?_) (λcdv A outer s H vs Q E hr h=>?_)
 . obtain⟨d,l,rfl,_⟩:=h;rfl
 obtain⟨d,l,rfl,hF,k⟩:=h;have hu:=Cj hr;have hq:=Cf hr
 with_reducible refine⟨_,(A1 (Ad (i:=1) Au.nd ⋯ (by with_unfolding_all exact A3B rfl) (Ai Fp Av A4))
  (A1 (Ad (i:=2) Au.nd ⋯ (by eq_refl) (Az A9 (hr.mono nofun) ⋯ (A0 (pv 0) (A0 A4 A2))))
  (A1 (Ad (i:=3) Au.nd ⋯ (by with_unfolding_all exact A3B rfl) (Az A9 (hr.mono nofun) ⋯ (A0 (pv 0) (A0 A4 A2))))
  (A1 (Ad (i:=4) Au.nd ⋯ (by eq_refl) (Ai (Ah (K:=K)) A4 (Az A9 (hr.mono nofun) ⋯ (A0 (pv 0) (A0 A4 A2)))))
  (A1 (Ad (i:=5) Au.nd ⋯ (by eq_refl) (Az A9 (hr.mono nofun) ⋯ (A0 (pv 0) (A0 (pv 4) A2))))
  (A1 (Ad (i:=6) Au.nd ⋯ (by eq_refl) (Co (A0 Av (A0 Av (A0 Av (A0 Av (A0 Av (A0 Av (A0 Av (A0 Av (A0 Av (A0 Av A2))))))))))))
  (A1 (C1 (Ae (Bi (K:=K) hq) (pv 2) A4 (Al _)) (A1 (Ad (i:=7) Au.nd ⋯ (by with_unfolding_all exact A3B rfl) (Bc (Pt (K:=K)) (pv 1) (Be (pv 3)) (Be (Ai (Ah (K:=K)) (pv 3) (pv 5)))))
  (A1 (Ad (i:=8) Au.nd ⋯ (by with_unfolding_all exact A3B rfl) (Bc (Pt (K:=K)) (pv 1) (Be (pv 3)) (Be (Ai Fl (Ai Fl (Ai (Ah (K:=K)) (pv 3) (pv 4)) (pv 5)) A4))))
  (A5 (Ec (i:=6) ["_law_k"] ["_law_head","_law_letters","_law_tail"] [7,1,8] ⋯ ⋯ ⋯ Au.nd ⋯ ⋯ (Ce ⋯ T.b_range (A0 A4 A2)) (λ_ _ _ _=>(A7 (i:=0) (by with_unfolding_all (show(["_law_k","_law_head","_law_letters","_law_tail"]:List Str).Nodup;decide +kernel)) ⋯ (by eq_refl))) (Ay nofun) (λ_ _ _ _=>Cr) (λ_ _ _ _=>(Ai (Ah (K:=K)) (Ai (Ah (K:=K)) (pv 1) (Ar (A6 (K:=K) hu) (pv 2) (Ai Gb (Ai Fp A4 (pv 0)) A4) (by ac_rfl))) (pv 3))))))) Ao)
  (A1 (C1 (Ae (Bi (K:=K) hq) (pv 2) A4 (Al _)) (A5 (Ad (i:=6) Au.nd ⋯ (by eq_refl) (Ai (Ah (K:=K)) (Bm ["_law_k"] ["_law_letters","_law_start"] [1,3] ⋯ ⋯ ⋯ (Ce ⋯ T.b_range (A0 A4 A2)) (λ_ _ _ _=>(A7 (i:=0) (by with_unfolding_all (show(["_law_k","_law_letters","_law_start"]:List Str).Nodup;decide +kernel)) ⋯ (by eq_refl))) (Ay nofun) (λ_ _ _ _=>Cr) (λ_ _ _ _=>(Bc (Pt (K:=K)) (pv 1) (Be (pv 2)) (Be (Ai (Ah (K:=K)) (Ai (Ah (K:=K)) (pv 2) A4) (pv 0)))))) (Co (A0 (Ar (A6 (K:=K) hu) (pv 1) (Ai (Ah (K:=K)) (pv 3) A4) (by ac_rfl)) (A0 (Ar (A6 (K:=K) hu) (pv 1) (Ai (Ah (K:=K)) (pv 3) A4) (by ac_rfl)) A2)))))) Ao)
  (A1 (C1 (Ae (Bi (K:=K) hq) (pv 2) A4 (Al _)) (A5 (Ec (i:=6) ["_law_k"] ["_law_letters","_law_start"] [1,3] ⋯ ⋯ ⋯ Au.nd ⋯ ⋯ (Ce ⋯ T.b_range (A0 A4 A2)) (λ_ _ _ _=>(A7 (i:=0) (by with_unfolding_all (show(["_law_k","_law_letters","_law_start"]:List Str).Nodup;decide +kernel)) ⋯ (by eq_refl))) (Ay nofun) (λ_ _ _ _=>Cr) (λ_ _ _ _=>(Bc (Pt (K:=K)) (pv 1) (Be (Ai (Ah (K:=K)) (pv 2) (Ai Fp A4 (pv 0)))) (Be (Ai (Ah (K:=K)) (Ai (Ah (K:=K)) (Ai (Ah (K:=K)) (pv 2) (Ai Fp A4 (pv 0))) A4) (Ai Gb (Ai Fp A4 (pv 0)) A4))))))) Ao)
  (A5 (Aj (Az Bu (hr.mono nofun) ⋯ (A0 (pv 0) (A0 (pv 6) A2)))))))))))))),?_⟩
 symm
 refine ag7 nofun ?_;rw[ar8]
 symm
 refine⟨d,l,_,rfl,hF,by omega,by omega,λway H1 hw0 hw1 e1 hF1=>?_⟩
 symm
 refine⟨d,l,_,rfl,hF1,by omega,by omega,λst H2 hs0 hs1 e2 hF2=>?_⟩
 symm
 refine⟨d,l,_,rfl,hF2,by omega,by omega,λsz H3 hz0 hz1 e3 hF3=>?_⟩
 symm
 refine⟨d,l,_,rfl,hF3,by omega,by omega,λat' H4 ha0 ha1 e4 hF4=>?_⟩
 symm
 refine Cp nofun λp5 H5 hp5 e5 h5=>?_;walk_at "rq";have fr4:ExtBut d H H4:=by walk_at "fr"
 have hF5:Feed H5 d l:=by walk_at "fd"
 with_reducible refine W7 (MN H d l way st sz at') (λN hN=>?_) (fun σ1 H6 hM=>?_)
 . walk_at "rq";refine Hy (λhw=>?_) (λhw=>?_)
   . walk_at "rq";refine Ii ∅ ?_;have c1:=Ud (i:=st) (j:=st+at') hs0 ∅ ∅;have c2:=Ud (i:=st) (j:=st+(1+sz)-at'-1) ∅ ∅ ∅;rw[c1,c2];refine Ox Bf (fI λk=>.str (txt (Md st.toNat (st+at').toNat)++txt (Pu (7*k % 26).toNat)++txt (Md st.toNat (st+(1+sz)-at'-1).toNat))) (by simp) (λ_ _=>trivial) (λi x H8 R hx e8 hR=>?_) (λp8 H8 hp8 e8 h8=>?_)
     . obtain⟨rfl,hi⟩:=Fn hx;have hm0:=A3Q (7*(0+(i:Int))) (show(26:Int)≠0 by decide);have hm1:=A38 (7*(0+(i:Int))) (show(0:Int)<26 by decide);obtain⟨c,hc,ec⟩:=aj7 (i:=7*(0+(i:Int)) % 26) ∅ ∅;walk_at "rq";refine aj3 T9 hc ?_;rw[ec];have l1:(txt (Md st.toNat (st+at').toNat)).length<=52:=by show(Md _ _).toArray.size<=_;unfold Md;simp[K0];omega
       have l2:(txt (Md st.toNat (st+(1+sz)-at'-1).toNat)).length<=52:=by show(Md _ _).toArray.size<=_;unfold Md;simp[K0];omega
       have l3:(txt (Pu (7*(0+(i:Int)) % 26).toNat)).length<=52:=by show(Pu _).toArray.size<=_;unfold Pu;simp[K0];omega
       refine i_addS (Ab ∅) ?_;have l4:(txt (Md st.toNat (st+at').toNat)++txt (Pu (7*(0+(i:Int)) % 26).toNat)).length<=104:=by rw[Str.length_append];omega
       walk_at "rq";exact hR
     rw[Tg (G:=λk=>txt (Md st.toNat (st.toNat+at'.toNat)++Pu (7*k % 26)++Md st.toNat (st.toNat+(1+sz).toNat-at'.toNat-1))) (λk hk=>by
      have q1:(st+at').toNat=st.toNat+at'.toNat:=by omega
      have q2:(7*(0+(k:Int)) % 26).toNat=7*k % 26:=by omega
      have q4:(st+(1+sz)-at'-1).toNat=st.toNat+(1+sz).toNat-at'.toNat-1:=by omega
      rw[q1,q2,q4,Z8,Z8])] at h8
     walk_at "rq";refine hN _ _ ⟨p8,(av7 st.toNat (1+sz).toNat at'.toNat).map txt,_,_,rfl,by walk_at "fr",by walk_at "fd",?_,ak8 ∅ ∅ ∅,by simp[av7]⟩;rw[h8];simp[av7,Function.comp_def]
   walk_at "rq";refine hN _ _ ⟨p5,aE5,none,none,rfl,by walk_at "fr",hF5,h5,ag1,rfl⟩
 obtain⟨p,ns,x7,x8,rfl,e6,hF6,h6,hN6,hl6⟩:=hM
 with_reducible refine W7 (MN H d l way st sz at') (λN hN=>?_) (fun σ1 H7 hM=>?_)
 . walk_at "rq";refine Hy (λhw=>?_) (λhw=>?_)
   . walk_at "rq";refine Ii ∅ ?_;refine Ox Bf (fI λk=>.str (Txt.slice LL (some st) (some (st+1+k)))) (by simp) (λ_ _=>trivial) (λi x H6 R hx e6 hR=>?_) (λp6 H7 hp6 e7 h7=>?_)
     . obtain⟨rfl,hi⟩:=Fn hx;walk_at "rq";exact hR
     rw[Tg (G:=λk=>txt (Md st.toNat (st.toNat+1+k))) (λk hk=>by
      have e:=Ud (i:=st) (j:=st+1+(0+(k:Int))) hs0 ∅ (by have:((8:Int)).toNat=8:=rfl;omega);have e2:(st+1+(0+(k:Int))).toNat=st.toNat+1+k:=by omega
      rw[e2] at e;rw[e])] at h7
     obtain⟨c9,hc9,e9⟩:=aj7 (i:=st+9) ∅ ∅;obtain⟨c11,hc11,e11⟩:=aj7 (i:=st+11) ∅ ∅;walk_at "rq";refine aj3 T9 hc9 ?_;walk_at "rq";refine aj3 T9 hc11 ?_;walk_at "rq";refine Cp (Ab (by simp)) λp8 H8 hp8 e8 h8=>?_;refine Mu (by walk_at "lk") h8 (by simp[sizeLine_eq]) λp9 H9 hp9 e9' h9=>?_;walk_at "rq";refine hN _ _ ⟨p9,(ay4 st.toNat).map txt,_,_,rfl,by walk_at "fr",by walk_at "fd",?_,aj0 ∅,by simp[ay4]⟩;rw[h9,e9,e11];have q9:(st+9).toNat=st.toNat+9:=by omega
     have q10:(st+11).toNat=st.toNat+11:=by omega
     rw[q9,q10];simp[ay4,Function.comp_def]
   walk_at "rq";exact hN _ _ ⟨p,ns,x7,x8,rfl,e6,hF6,h6,hN6,hl6⟩
 obtain⟨p',ns',x7',x8',rfl,e7,hF7,h7,hN7,hl7⟩:=hM
 with_reducible refine W7 (MN H d l way st sz at') (λN hN=>?_) (fun σ1 H8 hM=>?_)
 . walk_at "rq";refine Hy (λhw=>?_) (λhw=>?_)
   . walk_at "rq";refine Ii ∅ ?_;refine Ox Bf (fI λk=>.str (Txt.slice LL (some (st+2*k)) (some (st+2*k+1+5*k % 8)))) (by simp) (λ_ _=>trivial) (λi x H8 R hx e8 hR=>?_) (λp8 H8 hp8 e8 h8=>?_)
     . obtain⟨rfl,hi⟩:=Fn hx;walk_at "rq";exact hR
     rw[Tg (G:=λk=>txt (Md (st.toNat+2*k) (st.toNat+2*k+1+5*k % 8))) (λk hk=>by
      have h10:((10:Int)).toNat=10:=rfl;have e:=Ud (i:=st+2*(0+(k:Int))) (j:=st+2*(0+(k:Int))+1+5*(0+(k:Int)) % 8) ∅ ∅ ∅;have q1:(st+2*(0+(k:Int))).toNat=st.toNat+2*k:=by omega
      have q2:(st+2*(0+(k:Int))+1+5*(0+(k:Int)) % 8).toNat=st.toNat+2*k+1+5*k % 8:=by omega
      rw[q1,q2] at e;rw[e])] at h8
     walk_at "rq";refine hN _ _ ⟨p8,(ap4 st.toNat).map txt,_,_,rfl,by walk_at "fr",by walk_at "fd",?_,af7 ∅,by simp[ap4]⟩;rw[h8];simp[ap4,Function.comp_def]
   walk_at "rq";exact hN _ _ ⟨p',ns',x7',x8',rfl,e7,hF7,h7,hN7,hl7⟩
 obtain⟨p2,ms,y7,y8,rfl,e8,hF8,h8,hN8,hl8⟩:=hM
 symm
 refine⟨d,l,p2,_,rfl,hF8,.inl (SqL.of h8),by rw[A00];omega,λp9 ys9 H9 hp9 e9 hF9 h9 hperm=>?_⟩;obtain⟨ls,rfl,hpm⟩:=Mv hperm;exact k p9 ls H9 (hF8.free e8 hp9) (e8.trans e9) hF9 h9 (hN8.perm hpm) (by rw[hpm.length_eq,hl8])
def Fh (K:W.Frag):Sp:=λvs H Q _=>∃ d l way j k m,vs=[.ref d,.int way,.int j,.int k,.int m]/\Feed H d l/\0<=way/\way<7/\0<k/\k<=100/\∀ b H',ExtBut d H H'->Feed H' d l->Q (.bl b) H'
def Hw (K:W.Frag):Sp:=λvs H Q _=>∃ d l n,vs=[.ref d,.int n]/\Feed H d l/\0<=n/\n<=10/\∀ v ns ps H',ExtBut d H H'->Feed H' d l->Is K H' (hfD ns ps) v->Half ns ps->ns.length=n.toNat->Q v H'
theorem a70 {K:W.Frag}{H:Hp}{ps:List (Str×Str)}{xs:List V}{p:Str×Str}{v:V}(n:Nat)(h:IsL K H (ps.map prD) xs)(hv:Is K H (prD p) v):IsL K H ((ps.take n++p :: ps.drop n).map prD) (aC9 xs n v):=by rw[A0A,A0I,A33,A3G];exact(IsL.take n h).append (.cons hv (IsL.drop n h))
theorem L1 {K:W.Frag}{H:Hp}{ps:List (Str×Str)}{xs:List V}(h:IsL K H (ps.map prD) xs):xs.length=ps.length:=by rw[<- IsL.length h,A00]
theorem ar9 {ls:List Str}{ps:List (Str×Str)}{p:Str×Str}(n:Nat)(h:Up ls ps)(hp:Up ls [p]):Up ls (ps.take n++p :: ps.drop n):=by
 intro z hz;rcases A0B.mp hz with hz|hz
 . exact h z (A1E hz)
 rcases A0F.mp hz with rfl|hz
 . exact hp _ (by simp)
 exact h z (A28 hz)
theorem L8 {f:Addr}{fd:FuncData}(F:Fun K "_law_is_laid" "_law_is_laid" C7 f fd)(T:Gi mg)(A9:Fnd P w K mg base 1 "_law_draw" ["_law_feed_here","_law_many"] (Bw K)):FnOk P w K mg base CX0 2 f fd ["_law_feed_here","_law_way","_law_j","_law_k","_law_many"] (Fh K):=by
 refine F.ok Lq (λvs H Q E h=>?_) (λcdv A outer s H vs Q E hr h=>?_)
 . obtain⟨d,l,way,j,kk,m,rfl,_⟩:=h;rfl
 obtain⟨d,l,way,j,kk,m,rfl,hF,hw0,hw1,hk0,hk1,k⟩:=h;have hu:=Cj hr;have hq:=Cf hr
 with_reducible refine⟨_,(A1 (C1 (PW.pt (aj8 (Ae (Bi (K:=K) hq) (pv 1) A4 (Al _)) (a00 (Ae (Bi (K:=K) hq) (pv 1) A4 (Al _))))) (A5 (Aj (Eg (Bi (K:=K) hq) (Az A9 (hr.mono nofun) ⋯ (A0 (pv 0) (A0 (Ai Fp A4 (pv 1)) A2))) A4 (Al _)))) Ao)
  (A1 (C1 (Ae (Bi (K:=K) hq) (pv 1) A4 (Al _)) (A5 (Aj (Eg Nq (Az A9 (hr.mono nofun) ⋯ (A0 (pv 0) (A0 A4 A2))) A4 (Al _)))) Ao)
  (A1 (C1 (Ae (Bi (K:=K) hq) (pv 1) A4 (Al _)) (A5 (Aj (Eg (Bi (K:=K) hq) (Ai Fl (pv 3) (pv 2)) (Ai (Ah (K:=K)) A4 (Ai Gb (pv 4) A4)) (Al _)))) Ao)
  (A1 (C1 (Ae (Bi (K:=K) hq) (pv 1) A4 (Al _)) (A5 (Aj (a52 a83 ae7 (pv 2) (Ai Jf (pv 4) A4) (pv 3)))) Ao)
  (A5 (Aj (Vf (Eg (Bi (K:=K) hq) (pv 1) A4 (Al _)) (Yh (Eg (Bi (K:=K) hq) (pv 2) (Az A9 (hr.mono nofun) ⋯ (A0 (pv 0) (A0 (pv 3) A2))) (Al _)))))))))),?_⟩
 symm
 refine Hy (λhw=>?_) (λhw=>?_)
 . have hw':way=1:=by cases hw;rfl
   symm
   refine⟨d,l,_,rfl,hF,by omega,by omega,λu H1 hu0 hu1 e1 hF1=>?_⟩
   symm
   exact k _ H1 e1 hF1
 symm
 refine Hy (λhw2=>?_) (λhw2=>?_)
 . have hw':way=2:=by cases hw2;rfl
   symm
   refine⟨d,l,_,rfl,hF,by omega,by omega,λu H1 hu0 hu1 e1 hF1=>?_⟩
   symm
   exact k _ H1 e1 hF1
 symm
 refine Hy (λhw3=>?_) (λhw3=>?_)
 . symm
   refine⟨d,l,_,rfl,hF,by omega,by omega,λu H1 hu0 hu1 e1 hF1=>?_⟩
   symm
   exact k _ H1 e1 hF1
 symm
 refine Hy (λhw4=>?_) (λhw4=>?_)
 . symm
   exact k _ H .refl hF
 symm
 refine Hy (λhw5=>?_) (λhw5=>?_)
 . symm
   refine Hy (λh1=>?_) (λh1=>?_)
   . symm
     exact k _ H .refl hF
   exact k _ H .refl hF
 symm
 refine Hy (λh1=>?_) (λh1=>?_)
 . symm
   refine⟨d,l,_,rfl,hF,by omega,by omega,λu H1 hu0 hu1 e1 hF1=>?_⟩
   symm
   exact k _ H1 e1 hF1
 exact k _ H .refl hF
theorem Qt {f:Addr}{fd:FuncData}(F:Fun K "_law_half" "_law_half" Ej f fd)(T:Gi mg)(A9:Fnd P w K mg base 1 "_law_draw" ["_law_feed_here","_law_many"] (Bw K))(Bu:Fnd P w K mg base 2 "_law_shuffled" ["_law_feed_here","_law_some"] (Cz K))(Hs:Fnd P w K mg base 3 "_law_names" ["_law_feed_here"] (Hf K))(G4:Fnd P w K mg base 2 "_law_is_laid" ["_law_feed_here","_law_way","_law_j","_law_k","_law_many"] (Fh K)):FnOk P w K mg base CX0 4 f fd ["_law_feed_here","_law_many"] (Hw K):=by
 refine F.ok Bj (λvs H Q E h=>?_) (λcdv A outer s H vs Q E hr h=>?_)
 . obtain⟨d,l,n,rfl,_⟩:=h;rfl
 obtain⟨d,l,n,rfl,hF,h0,h10,k⟩:=h;have hu:=Cj hr;have hq:=Cf hr
 with_reducible refine⟨_,(A1 (Ad (i:=2) Bj.nd ⋯ (by eq_refl) (Bc (Pt (K:=K)) (Az Hs (hr.mono nofun) ⋯ (A0 (pv 0) A2)) Ds (Be (pv 1))))
  (A1 (Ad (i:=3) Bj.nd ⋯ (by eq_refl) (Az Bu (hr.mono nofun) ⋯ (A0 (pv 0) (A0 (pv 2) A2))))
  (A1 (Ad (i:=4) Bj.nd ⋯ (by eq_refl) (Az A9 (hr.mono nofun) ⋯ (A0 (pv 0) (A0 A4 A2))))
  (A1 (Ad (i:=5) Bj.nd ⋯ (by eq_refl) (Co A2))
  (A1 (Bx A13 ⋯ (a43 ⋯ T.b_range (A0 A4 (A0 (pv 1) A2))) (A7 (i:=6) Bj.nd ⋯ (by eq_refl))
  (A5 (Bx A13 ⋯ (Ce ⋯ T.b_range (A0 (pv 6) A2)) (A7 (i:=7) Bj.nd ⋯ (by eq_refl))
  (A5 (C1 (Nj (Az G4 (hr.mono nofun) ⋯ (A0 (pv 0) (A0 (pv 4) (A0 (pv 7) (A0 (pv 6) (A0 (pv 1) A2))))))) (A5 (Ic (Lw (K:=K) A1W PySem.F.slot_list_insert PySem.F.type_list_insert (mm Xj) (pv 5) (A0 (Az A9 (hr.mono nofun) ⋯ (A0 (pv 0) (A0 (Ai (Ah (K:=K)) (Aa (Am (K:=K)) ⋯ T.b_len PyProof.Rows.Boot.«len» (A0 (pv 5) A2)) A4) A2))) (A0 (Cb (A0 (Ar (A6 (K:=K) hu) (pv 3) (pv 7) (by ac_rfl)) (A0 (Ar (A6 (K:=K) hu) (pv 3) (pv 6) (by ac_rfl)) A2))) A2))))) Ao)))))
  (A1 (Bx A13 ⋯ (An (K:=K) hu (Bc (Pt (K:=K)) (pv 5) Ds (Be A4))) (A7 (i:=8) Bj.nd ⋯ (by eq_refl))
  (A5 (C1 (Ae (Bi (K:=K) hq) (Az A9 (hr.mono nofun) ⋯ (A0 (pv 0) (A0 A4 A2))) A4 (Al _)) (A5 (Ad (i:=5) Bj.nd ⋯ (by eq_refl) (Ai (Ah (K:=K)) (pv 5) (Co (A0 (pv 8) A2))))) Ao)))
  (A5 (Aj (Cb (A0 (Dx (J6 (K:=K)) ⋯ T.b_tuple PyProof.Rows.Boot.«tuple» (A0 (pv 2) A2)) (A0 (Dx (J6 (K:=K)) ⋯ T.b_tuple PyProof.Rows.Boot.«tuple» (A0 (Bc (Pt (K:=K)) (pv 5) Ds (Be A4)) A2)) A2))))))))))),?_⟩
 symm
 refine⟨d,l,rfl,hF,λp1 n1 H1 hp1 e1 hF1 h1 hN1 hl1=>?_⟩
 symm
 refine Yg (SqL.of h1) λp2 H2 hp2 e2 h2=>?_;rw[G1 h0,<- A33] at h2;have hN2:Names (n1.take n.toNat):=hN1.sublist (List.take_sublist _ _);have hl2:(n1.take n.toNat).length=n.toNat:=by rw[A0J];omega
 generalize n1.take n.toNat=ns at h2 hN2 hl2;have hF2:=hF1.same e2
 symm
 refine⟨d,l,p2,_,rfl,hF2,.inl (SqL.of h2),by rw[A00];omega,λp3 ys3 H3 hp3 e3 hF3 h3 hperm=>?_⟩;obtain⟨ls,rfl,hpm⟩:=Mv hperm;have hll:=hpm.length_eq;have h3n:H3 p2=some (.lst (ns.map V.str)):=e3 _ _ (hF2.lst h2) h2
 symm
 refine⟨d,l,_,rfl,hF3,by omega,by omega,λway H4 hw0 hw1 e4 hF4=>?_⟩;have h4n:=e4 _ _ (hF3.lst h3n) h3n;have h4l:=e4 _ _ (hF3.lst h3) h3
 symm
 refine Cp nofun λp5 H5 hp5 e5 h5=>?_;have fr4:ExtBut d H H4:=by walk_at "fr"
 have hp50:H p5=none:=hF4.free fr4 hp5;have hF5:=hF4.same e5;have h5n:=e5 _ _ h4n;have h5l:=e5 _ _ h4l;have n5:p2≠p5:=ne_of_none h4n hp5;have l5:p3≠p5:=ne_of_none h4l hp5;have hp5d:p5≠d:=hF5.lst h5;have hp2d:p2≠d:=hF5.lst h5n;have hp3d:p3≠d:=hF5.lst h5l
 symm
 refine ay3 ∅ ?_
 refine Ep Bf (λi σ H6=>∃ xs qs x6 x7 x8,σ=[some (.ref d),some (.int n),some (.ref p2),some (.ref p3),some (.int way),some (.ref p5),x6,x7,x8]/\ExtBut d H H6/\Feed H6 d l/\H6 p2=some (.lst (ns.map V.str))/\H6 p3=some (.lst (ls.map V.str))/\H6 p5=some (.lst xs)/\IsL K H6 (qs.map prD) xs/\Up ls qs/\qs.length<=i*10)
  ⟨[],[],_,_,_,rfl,by walk_at "fr",hF5,h5n,h5l,h5,.nil,.nil,by decide⟩ (λ_ _ _ _=>trivial) (λi x σ H6 hx hi hP=>?_) (fun σ H6 hP=>?_)
 . obtain⟨xs,qs,x6,x7,x8,rfl,e6,hF6,h6n,h6l,h6,hI6,hU6,hq6⟩:=hP;obtain⟨rfl,hi2⟩:=Fn hx
   symm
   refine Ii ∅ ?_
   refine Ep Bf (λj σ H7=>∃ ys rs x7 x8,σ=[some (.ref d),some (.int n),some (.ref p2),some (.ref p3),some (.int way),some (.ref p5),some (.int (1+(i:Int))),x7,x8]/\ExtBut d H H7/\Feed H7 d l/\H7 p2=some (.lst (ns.map V.str))/\H7 p3=some (.lst (ls.map V.str))/\H7 p5=some (.lst ys)/\IsL K H7 (rs.map prD) ys/\Up ls rs/\rs.length<=i*10+j)
    ⟨xs,qs,_,_,rfl,e6,hF6,h6n,h6l,h6,hI6,hU6,by omega⟩ (λ_ _ _ _=>trivial) (λj x σ H7 hx7 hj hP=>?_) (fun σ H7 hP=>?_)
   . obtain⟨ys,rs,x7,x8,rfl,e7,hF7,h7n,h7l,h7,hI7,hU7,hq7⟩:=hP;obtain⟨rfl,hj2⟩:=Fn hx7;have hyl:=L1 hI7
     symm
     refine⟨d,l,way,_,_,n,rfl,hF7,hw0,hw1,by omega,by omega,λb H8 e8 hF8=>?_⟩;have h8n:=e8 _ _ hp2d h7n;have h8l:=e8 _ _ hp3d h7l;have h8:=e8 _ _ hp5d h7;have hI8:=IsL.fz (hF7.fz e8) _ _ (Gk rs) hI7
     symm
     refine am6 (λhb=>?_) (λhb=>?_)
     . symm
       refine⟨d,l,_,rfl,hF8,by omega,by omega,λu H9 hu0 hu1 e9 hF9=>?_⟩;have h9n:=e9 _ _ hp2d h8n;have h9l:=e9 _ _ hp3d h8l;have h9:=e9 _ _ hp5d h8;obtain⟨z1,hz1,hz1',_⟩:=str_at? (ls:=ls) (i:=0+(j:Int)) ∅ ∅;obtain⟨z2,hz2,hz2',_⟩:=str_at? (ls:=ls) (i:=1+(i:Int)) ∅ ∅
       symm
       refine Po h9l hz1' ?_
       symm
       refine Po h9l hz2' ?_
       symm
       refine C0 (Ab (by simp)) λt10 H10 ht10 e10 h10=>?_
       symm
       refine az8 (e10 _ _ h9) hu0 ∅ ∅ λH11 e11 h11=>?_;have fz9:=hF8.fz e9;have fz11:Fz H10 H11:=e11.fzL (e10 _ _ h9)
       have hUp:Up ls [(z1,z2)]:=λp hp=>by
        have:p=(z1,z2):=by simpa using hp
        rw[this];exact⟨(0+(j:Int)).toNat,(1+(i:Int)).toNat,by omega,hz1,hz2⟩
       symm
       refine⟨_,_,_,_,rfl,by walk_at "fr",by walk_at "fd",e11 _ _ n5 (e10 _ _ h9n),e11 _ _ l5 (e10 _ _ h9l),h11,a70 u.toNat (IsL.fz ((fz9.trans e10.fz).trans fz11) _ _ (Gk rs) hI8) ((aB8 (SqT.of h10)).pr_fz fz11),ar9 _ hU7 hUp,?_⟩;rw[A08,A0W,A0J,A1K];omega
     symm
     exact⟨ys,rs,_,_,rfl,e7.trans e8,hF8,h8n,h8l,h8,hI8,hU7,by omega⟩
   obtain⟨ys,rs,x7,x8,rfl,e7,hF7,h7n,h7l,h7,hI7,hU7,hq7⟩:=hP;rw[A00,A1D] at hq7;exact⟨ys,rs,_,_,_,rfl,e7,hF7,h7n,h7l,h7,hI7,hU7,by omega⟩
 obtain⟨xs,qs,x6,x7,x8,rfl,e6,hF6,h6n,h6l,h6,hI6,hU6,hq6⟩:=hP;rw[A00,A1D] at hq6;have hxl:=L1 hI6
 symm
 refine Yg (SqL.of h6) λp7 H7 hp7 e7 h7=>?_;rw[G1 nofun] at h7;have hI7:IsL K H7 ((qs.take 5).map prD) (xs.take 5):=by rw[A33];exact IsL.take 5 (IsL.mono e7 _ _ hI6)
 have hp7d:p7≠d:=(hF6.same e7).lst h7;refine G3 (SqL.of h7) ?_
 refine Ep (At (xs:=xs.take 5)) (λi σ H8=>∃ p8 ys rs x6 x7 x8,σ=[some (.ref d),some (.int n),some (.ref p2),some (.ref p3),some (.int way),some (.ref p8),x6,x7,x8]/\ExtBut d H H8/\Feed H8 d l/\Fz H7 H8/\H8 p2=some (.lst (ns.map V.str))/\H8 p7=some (.lst (xs.take 5))/\H8 p8=some (.lst ys)/\IsL K H8 (rs.map prD) ys/\Up ls rs/\rs.length<=100+i)
  ⟨p5,xs,qs,_,_,_,rfl,by walk_at "fr",hF6.same e7,.refl _,e7 _ _ h6n,h7,e7 _ _ h6,IsL.mono e7 _ _ hI6,hU6,by omega⟩ (λi σ' H' hP=>?_) (λi x σ H8 hx8 hi hP=>?_) (fun σ H8 hP=>?_)
 . obtain⟨_,_,_,_,_,_,_,_,_,_,_,h,_⟩:=hP;exact SqL.of h
 . obtain⟨p8,ys,rs,x6,x7,x8,rfl,e8,hF8,fz8,h8n,h87,h8,hI8,hU8,hq8⟩:=hP;obtain⟨dp,hdp,hip⟩:=IsL.get hI7 hx8;rw[A07] at hdp;have hyl:=L1 hI8;have hi5:i<5:=by rw[A0J] at hi;omega
   cases hpr:(qs.take 5)[i]? with
   |none=>rw[hpr] at hdp;cases hdp
   |some pr=>
     rw[hpr] at hdp
     cases hdp
     have hUp:Up ls [pr]:=hU6.sub λz hz=>by
      have:z=pr:=by simpa using hz
      subst this;exact A1E (A03 hpr)
     symm
     refine⟨d,l,_,rfl,hF8,by omega,by omega,λu H9 hu0 hu1 e9 hF9=>?_⟩;have h9n:=e9 _ _ hp2d h8n;have h97:=e9 _ _ hp7d h87;have h9:=e9 _ _ (hF8.lst h8) h8;have fz9:=hF8.fz e9
     symm
     refine Hy (λhu'=>?_) (λhu'=>?_)
     . symm
       refine Cp (Ab (by simp)) λq10 H10 hq10 e10 h10=>?_;refine Mu (e10 _ _ h9) h10 (Ab (by simp;omega)) λq11 H11 hq11 e11 h11=>?_
       symm
       have e911:Same H9 H11:=e10.trans e11;refine⟨q11,_,rs++[pr],_,_,_,rfl,by walk_at "fr",hF9.same e911,(fz8.trans fz9).trans e911.fz,e911 _ _ h9n,e911 _ _ h97,h11,?_,?_,by rw[A08,A1O];omega⟩
       . rw[A0A];exact IsL.append (IsL.fz (fz9.trans e911.fz) _ _ (Gk rs) hI8) (.one (Is.fz ((fz8.trans fz9).trans e911.fz) _ _ (Ys pr) hip))
       intro z hz;rcases A0B.mp hz with hz|hz
       . exact hU8 z hz
       exact hUp z hz
     symm
     exact⟨p8,ys,rs,_,_,_,rfl,e8.trans e9,hF9,fz8.trans fz9,h9n,h97,h9,IsL.fz fz9 _ _ (Gk rs) hI8,hU8,by omega⟩
 obtain⟨p8,ys,rs,x6,x7,x8,rfl,e8,hF8,fz8,h8n,h87,h8,hI8,hU8,hq8⟩:=hP;have hyl:=L1 hI8
 symm
 refine Oz (SqL.of h8n) λt9 H9 ht9 e9 h9=>?_
 symm
 refine Yg (SqL.of (e9 _ _ h8)) λq10 H10 hq10 e10 h10=>?_;rw[G1 nofun] at h10
 symm
 refine Oz (SqL.of h10) λt11 H11 ht11 e11 h11=>?_
 symm
 refine C0 (Ab (by simp)) λt12 H12 ht12 e12 h12=>?_;have e912:Same H9 H12:=(e10.trans e11).trans e12;have hI12:IsL K H12 ((rs.take 60).map prD) (ys.take 60):=by rw[A33];exact IsL.take 60 (IsL.mono (e9.trans e912) _ _ hI8)
 refine k (.ref t12) ns (rs.take 60) H12 (by walk_at "fr") (by walk_at "fd") (aC3 (SqT.of h12) ((Ig (SqT.of h9)).nm_fz e912.fz) (Is.of_tup (SqT.of (e12 _ _ h11)) hI12)) (a86 hN2 ∅ hpm (hU8.sub λz hz=>A1E hz) (by rw[A0J];omega)) hl2
def Fw (K:W.Frag):Sp:=λvs H Q _=>∃ v ns ps,vs=[v]/\Is K H (hfD ns ps) v/\HalfW ns ps/\ns.length<=10/\(∀ z∈ns,PyData.strOk z=true)/\∀ r as H',H r=none->Same H H'->TabL K H' r ns as (Way ps)->Q (.ref r) H'
theorem Ra {f:Addr}{fd:FuncData}(F:Fun K "_law_over" "_law_over" Ek f fd)(T:Gi mg):FnOk P w K mg base CX0 1 f fd ["_law_half_here"] (Fw K):=by
 refine F.ok Bv (λvs H Q E h=>?_) (λcdv A outer s H vs Q E hr h=>?_)
 . obtain⟨v,ns,ps,rfl,_⟩:=h;rfl
 obtain⟨v,ns,ps,rfl,hI,hW,h10,hok1,k⟩:=h;have hu:=Cj hr;have hq:=Cf hr;have hn:=hW.nd;have hm:=hW.mem
 with_reducible refine⟨_,(A1 (Ad (i:=1) Bv.nd ⋯ (by with_unfolding_all exact A3B rfl) (Dx (Nh (K:=K) hr.hd) ⋯ T.b_dict PyProof.Rows.Boot.«dict» (A0 (Bm ["_law_name"] [] [] ⋯ ⋯ ⋯ (An (K:=K) hu (Ar (A6 (K:=K) hu) (pv 0) A4 (by ac_rfl))) (λ_ _ _ _=>(A7 (i:=0) (by with_unfolding_all (show(["_law_name"]:List Str).Nodup;decide +kernel)) ⋯ (by eq_refl))) (Ay nofun) (λ_ _ _ _=>Cr) (λ_ _ _ _=>(Cb (A0 (pv 0) (A0 (Co A2) A2))))) A2)))
  (A1 (Ad (i:=2) Bv.nd ⋯ (by eq_refl) Ke)
  (A1 (Ve A13 (Nj (pv 2))
  (A1 (Ad (i:=2) Bv.nd ⋯ (by eq_refl) Ke)
  (A5 (Bx A13 ⋯ (An (K:=K) hu (Ar (A6 (K:=K) hu) (pv 0) A4 (by ac_rfl))) (Sn (K:=K) (n:=2) ⋯ (Iv (A7 (i:=3) Bv.nd ⋯ (by with_unfolding_all exact A3B rfl)) (Iv (A7 (i:=4) Bv.nd ⋯ (by eq_refl)) Su)))
  (A1 (Ec (i:=5) ["_law_name"] ["_law_found","_law_one"] [1,3] ⋯ ⋯ ⋯ Bv.nd ⋯ ⋯ (An (K:=K) hu (Ai (Ah (K:=K)) (Co (A0 (pv 4) A2)) (Ar (A6 (K:=K) hu) (pv 1) (pv 4) (by ac_rfl)))) (λ_ _ _ _=>(A7 (i:=0) (by with_unfolding_all (show(["_law_name","_law_found","_law_one"]:List Str).Nodup;decide +kernel)) ⋯ (by eq_refl))) (Ay nofun) (λ_ _ _ _=>(Es (Ae (Gc (K:=K) hq) (pv 0) (Ar (A6 (K:=K) hu) (pv 1) (pv 2) (by ac_rfl)) ⋯))) (λ_ _ _ _=>(pv 0)))
  (A1 (Ad (i:=2) Bv.nd ⋯ (by eq_refl) (aC5 (pv 2) (Yh (Eg (Rw (K:=K) hq) (pv 5) (Co A2) (Al _)))))
  (A5 (Er hu (pv 1) (pv 3) (Ai (Ah (K:=K)) (Ar (A6 (K:=K) hu) (pv 1) (pv 3) (by ac_rfl)) (pv 5)) ⋯))))))))
  (A5 (Aj (pv 1)))))),?_⟩
 symm
 refine Ie hI λnv hN=>?_;obtain⟨na,rfl,hS⟩:=hN.nm;refine Zv hS ?_;refine Ca (Js (xs:=ns.map V.str)) (λp i acc H1=>Same H H1/\∃ as:List Addr,as.length=i/\(∀(j:Nat) (z:Str) (a:Addr),ns[j]? = some z->as[j]? = some a->H1 a=some (.lst [])/\a≠p)/\PrsK K H1 (Kp (ns.take i) as) acc) (λp H' hp e h=>⟨e,[],rfl,λj z a _ h=>(by simp at h),by rfl⟩) (λp i acc H1 hP=>hP.1.seqT hS) (λp i x acc H1 hp hx hi hl ha hP=>?_) λp acc H1 hp ha hl hP=>?_
 . obtain ⟨e1,as,hal,hrow,hpr⟩:=hP;rw[A07] at hx
   cases hz:ns[i]? with
   |none=>rw[hz] at hx;cases hx
   |some z=>
     rw[hz] at hx
     cases hx;have hin:i<ns.length:=(A01.mp hz).1
     symm
     refine Cp nofun λb H2 hb2 e2 h2=>?_
     symm
     refine C0 (Ab (by simp)) λt H3 ht3 e3 h3=>?_;have h3p:H3 p=some (.lst acc):=e3 _ _ (e2 _ _ ha);refine Eu (by rw[A00];omega) hi hl h3p λH4 e4 h4=>?_;have hbp:b≠p:=Ne.symm (ne_of_none ha hb2);refine⟨by walk_at "sm",as++[b],by simp[hal],λj y a hj haj=>?_,?_⟩
     . by_cases hji:j<as.length
       . rw[A20 hji] at haj;obtain⟨q1,q2⟩:=hrow j y a hj haj;exact⟨e4 _ _ q2 (e3 _ _ (e2 _ _ q1)),q2⟩
       have hj':j=as.length:=by have:=(A01.mp haj).1;rw[A08,A1O] at this;omega
       subst hj';have:a=b:=by simpa using haj.symm
       subst this;exact⟨e4 _ _ hbp (e3 _ _ h2),hbp⟩
     have ht:ns.take (i+1)=ns.take i++[z]:=by rw[A0L,hz];rfl
     have hlen:(ns.take i).length=as.length:=by rw[A0J,hal];omega
     rw[ht,Vx hlen];have fz4:=e4.fzL h3p;exact PrsK.snoc (kv:=(Sum.inr z,V.ref b)) (fz4.seq (SqT.of h3)) (PrsK.fz ((e2.fz.trans e3.fz).trans fz4) hpr)
 obtain⟨e1,as,hal,hrow,hpr⟩:=hP;rw[A00] at hal;rw[A00,A0Q] at hpr
 symm
 refine ab1 ha hpr (by unfold Kp;rw[List.length_map,List.length_zip];omega) λr H2 hr2 e2 h2=>?_;rw[Ld _ _ (Ku hn) (λ_ _ _ h=>by cases h),A2Y] at h2;have hr0:H r=none:=e1.free hr2;have hO2:Ovr H2 r ns as (λ_=>[]):=⟨hal,h2,λj z a hj haj=>e2 _ _ (hrow j z a hj haj).1⟩;have hK0:OvOk ns ps (λ_=>[]):=⟨λ_ _=>List.nodup_nil,λ_ _ y hy=>by cases hy⟩;have hE2:Same H H2:=e1.trans e2;have hfull:∀ ov,OvOk ns ps ov->Ms ns ov<=100:=λov h=>A0C (h.tot hm) (A0C (Nat.mul_le_mul h10 h10) nofun)
 symm
 refine a08 (λm σ H3=>∃ b ov as x3 x4 x5,σ=[some v,some (.ref r),some (.bl b),x3,x4,x5]/\Same H H3/\Ovr H3 r ns as ov/\OvOk ns ps ov/\m=2*(100-Ms ns ov)+b.toNat/\(b=false->∀ p∈ps,p.2∈ov p.1/\∀ y∈ov p.2,y∈ov p.1))
  (2*(100-Ms ns λ_=>[])+1) ⟨true,_,as,_,_,_,rfl,hE2,hO2,hK0,rfl,λh=>by cases h⟩ λm σ H3 hP=>?_
 obtain⟨b,ov,as3,x3,x4,x5,rfl,e3,hO3,hK3,hm3,hc3⟩:=hP;have hf3:=hfull ov hK3
 symm
 refine am6 (λhb=>?_) (λhb=>?_)
 . subst hb;refine aa7 ?_
   symm
   refine Vo (hI.hf_fz e3.fz) λpv hP3=>?_
   refine ab5 hP3 (λi σ H4=>∃ b ov4 as4 x3 x4 x5,σ=[some v,some (.ref r),some (.bl b),x3,x4,x5]/\Same H H4/\Fz H3 H4/\Ovr H4 r ns as4 ov4/\OvOk ns ps ov4/\Ms ns ov<=Ms ns ov4/\(b=true->Ms ns ov<Ms ns ov4)/\(b=false->ov4=ov/\∀ p∈ps.take i,p.2∈ov p.1/\∀ y∈ov p.2,y∈ov p.1))
    ⟨false,ov,as3,_,_,_,rfl,e3,.refl _,hO3,hK3,Nat.le_refl _,(λh=>by cases h),λ_=>⟨rfl,λp hp=>by simp at hp⟩⟩ (λi σ' H' hP=>?_) (λi p pv4 σ' H4 hp hpI hP=>?_) (fun σ' H4 hP=>?_)
   . obtain⟨_,_,_,_,_,_,_,_,fz,_⟩:=hP;exact fz
   . obtain⟨b4,ov4,as4,y3,y4,y5,rfl,e4,fz4,hO4,hK4,ht1,ht2,ht3⟩:=hP;have hpm:=hm p (A03 hp);obtain⟨i1,a1,hi1,ha1⟩:=hO4.at hpm.1;obtain⟨i2,a2,hi2,ha2⟩:=hO4.at hpm.2;have hr1:=hO4.row _ _ _ hi1 ha1;have hr2':=hO4.row _ _ _ hi2 ha2;have hl1:=hK4.len hm hpm.1;have hl2:=hK4.len hm hpm.2;refine ak6 hpI ?_
     symm
     refine Cp (Ab (by simp)) λq5 H5 hq5 e5 h5=>?_
     symm
     refine i_ixD (e5 _ _ hO4.top) (Gm hn hi2 ha2) ?_;refine Mu h5 (e5 _ _ hr2') (Ab (by rw[List.length_map];simp;omega)) λq6 H6 hq6 e6 h6=>?_;have h6':H6 q6=some (.lst ((p.2 :: ov4 p.2).map V.str)):=h6;have hO6:=(hO4.same e5).same e6;refine Ol (SqL.of h6') (λz=>!decide (z∈ov4 p.1)) PyData.str (λ_=>rfl) (by simp;omega) (λjj z H7 R R' hz e7 hR hR'=>?_) (λq7 ys7 H7 hq7 e7 h7 hL7=>?_)
     . have hO7:=hO6.same e7
       symm
       refine i_ixD hO7.top (Gm hn hi1 ha1) ?_;refine ae2 (SqL.of (hO7.row _ _ _ hi1 ha1)) ?_
       symm
       refine Y2 (λhb=>?_) (λhb=>?_)
       . symm
         exact hR (by rw[hb];rfl) _ _ (.refl _) Hi
       exact hR' (by rw[hb];rfl) _ (.refl _)
     have hy7:=IsL.str_eq hL7;subst hy7;have h7':H7 q7=some (.lst ((Wt ov4 p).map V.str)):=h7;have hfl:(Wt ov4 p).length<=11:=Nat.le_trans (List.length_filter_le _ _) (by simp;omega)
     have hfok:SeqAt.shaped (.list ((Wt ov4 p).map PyData.str))=true:=Vt λz hz=>by
      rcases A0F.mp (A15.mp hz).1 with e|e
      . exact e ▸ hok1 _ hpm.2
      obtain⟨p',hp',e'⟩:=A0V.mp (hK4.way _ hpm.2 z e).right;exact hok1 _ (e' ▸ (hm p' hp').2)
     have hO7:=hO6.same e7;have e47:Same H4 H7:=(e5.trans e6).trans e7
     symm
     have put:∀ H8,Same H7 H8->∀ b8,(b8=true->b4=true\/Wt ov4 p≠[])->(b8=false->b4=false/\Wt ov4 p=[]) ->
       ∀ H9,ExtBut r H8 H9->∀ q9,H8 q9=some (.lst ((ov4 p.1++Wt ov4 p).map V.str))->H9 r=some (.dK (Eb (Kp ns as4) (Sum.inr p.1:Key) (.ref q9))) ->
       ∃ b ov5 as5 x3 x4 x5,([some v,some (.ref r),some (.bl b8),some (.str p.1),some (.str p.2),some (.ref q7)]:L2.St)=[some v,some (.ref r),some (.bl b),x3,x4,x5]/\Same H H9/\Fz H3 H9/\Ovr H9 r ns as5 ov5/\OvOk ns ps ov5/\Ms ns ov<=Ms ns ov5/\(b=true->Ms ns ov<Ms ns ov5)/\(b=false->ov5=ov/\∀ p∈ps.take (i+1),p.2∈ov p.1/\∀ y∈ov p.2,y∈ov p.1):=by
      intro H8 e8 b8 hb1 hb2 H9 e9 q9 h9 ht9;have hO8:=hO7.same e8;have htot:=al5 (ov:=ov4) hn hpm.1 (Wt ov4 p);refine⟨b8,_,_,_,_,_,rfl,(e4.trans (e47.trans e8)).off hr0 e9,(fz4.trans (e47.trans e8).fz).trans (e9.fzD hO8.top),hO8.put hn hi1 e9 h9 ht9,hK4.put hW.irr (A03 hp) hpm,by omega,λh=>?_,λh=>?_⟩
      . rcases hb1 h with h|h
        . have:=ht2 h;omega
        have:0<(Wt ov4 p).length:=A2N.mpr h;omega
      obtain⟨h1,h2⟩:=hb2 h;obtain⟨g1,g2⟩:=ht3 h1;rw[h2,al0];refine⟨g1,λp' hp'=>?_⟩;rw[A0L,hp] at hp';rcases A0B.mp hp' with hp'|hp'
      . exact g2 p' hp'
      have:p'=p:=by simpa using hp'
      rw[this,<- g1];exact a51 h2
     refine am6 (λhb4=>?_) (λhb4=>?_)
     . symm
       refine i_ixD hO7.top (Gm hn hi1 ha1) ?_
       symm
       refine Mu (hO7.row _ _ _ hi1 ha1) h7' (Ab (by rw[A00,A00];omega)) λq8 H8 hq8 e8 h8=>?_;rw[<- A0A] at h8
       symm
       refine Jc (hO7.same e8).top (by unfold Kp;rw[List.length_map,List.length_zip];omega) λH9 e9 h9=>?_
       symm
       exact put H8 e8 true (λ_=>.inl hb4) (λh=>by cases h) H9 e9 q8 h8 h9
     symm
     refine Cp nofun λq8 H8 hq8 e8 h8=>?_;refine a58 (dx:=.list ((Wt ov4 p).map PyData.str)) (dy:=.list []) (Is.of_lst (SqL.of (e8 _ _ h7')) (Oj _)) (Is.of_lst (SqL.of h8) .nil) hfok (by rfl) ?_;rw[Kg];have hO8:=hO7.same e8
     symm
     refine i_ixD hO8.top (Gm hn hi1 ha1) ?_
     symm
     refine Mu (hO8.row _ _ _ hi1 ha1) (e8 _ _ h7') (Ab (by rw[A00,A00];omega)) λq9 H9 hq9 e9 h9=>?_;rw[<- A0A] at h9
     symm
     refine Jc (hO8.same e9).top (by unfold Kp;rw[List.length_map,List.length_zip];omega) λH10 e10 h10'=>?_
     symm
     refine put H9 (e8.trans e9) _ (λh=>.inr λe=>?_) (λh=>⟨hb4,?_⟩) H10 e10 q9 h9 h10'
     . rw[e] at h
       cases h
     cases hfe:Wt ov4 p with
     |nil=>rfl
     |cons z t=>rw[hfe] at h;cases h
   obtain⟨b4,ov4,as4,y3,y4,y5,rfl,e4,fz4,hO4,hK4,ht1,ht2,ht3⟩:=hP;have hf4:=hfull ov4 hK4;have hm1:m=2*(100-Ms ns ov)+1:=hm3;refine⟨2*(100-Ms ns ov4)+b4.toNat,?_,b4,ov4,as4,_,_,_,rfl,e4,hO4,hK4,rfl,λh=>?_⟩
   . cases b4 with
     |true=>have:=ht2 rfl;show 2*(100-Ms ns ov4)+1<m;omega
     |false=>show 2*(100-Ms ns ov4)+0<m;omega
   obtain⟨g1,g2⟩:=ht3 h;rw[A0Q] at g2;rw[g1];exact g2
 subst hb
 symm
 exact k r as3 H3 hr0 e3 (hO3.tab hK3 (hc3 rfl))
def Cm (K:W.Frag):Sp:=λvs H Q _=>∃ v u r as ns ps row,vs=[v,.ref r,u]/\Is K H (hfD ns ps) v/\TabL K H r ns as (Way ps)/\Is K H (nmD row) u/\ns.Nodup/\ns.length<=10/\(∀ z∈ns,PyData.strOk z=true)/\∀ l H',H l=none->Same H H'->H' l=some (.lst ((frF (Ak ps) (Ft ns row)).map V.str))->Q (.ref l) H'
theorem Kc {f:Addr}{fd:FuncData}(F:Fun K "_law_next_ones" "_law_next_ones" Bg f fd)(T:Gi mg):FnOk P w K mg base CX0 1 f fd ["_law_half_here","_law_over_here","_law_begun"] (Cm K):=by
 refine F.ok G9 (λvs H Q E h=>?_) (λcdv A outer s H vs Q E hr h=>?_)
 . obtain⟨v,u,r,as,ns,ps,row,rfl,_⟩:=h;rfl
 obtain⟨v,u,r,as,ns,ps,row,rfl,hI,hT,hU,hn,h10,hok1,k⟩:=h;have hu:=Cj hr;have hq:=Cf hr
 with_reducible refine⟨_,(A1 (Ad (i:=3) G9.nd ⋯ (by with_unfolding_all exact A3B rfl) (Bm ["_law_name"] ["_law_begun"] [2] ⋯ ⋯ ⋯ (An (K:=K) hu (Ar (A6 (K:=K) hu) (pv 0) A4 (by ac_rfl))) (λ_ _ _ _=>(A7 (i:=0) (by with_unfolding_all (show(["_law_name","_law_begun"]:List Str).Nodup;decide +kernel)) ⋯ (by eq_refl))) (Ay nofun) (λ_ _ _ _=>(Es (Ae (Gc (K:=K) hq) (pv 0) (pv 1) ⋯))) (λ_ _ _ _=>(pv 0))))
  (A5 (Aj (Bm ["_law_name"] ["_law_left","_law_over_here"] [3,1] ⋯ ⋯ ⋯ (An (K:=K) hu (pv 3)) (λ_ _ _ _=>(A7 (i:=0) (by with_unfolding_all (show(["_law_name","_law_left","_law_over_here"]:List Str).Nodup;decide +kernel)) ⋯ (by with_unfolding_all exact A3B rfl))) (Ay nofun) (λ_ _ _ _=>(Es (Ae (Bi (K:=K) hq) (Bm ["_law_one"] ["_law_name","_law_over_here"] [0,2] ⋯ ⋯ ⋯ (An (K:=K) hu (pv 1)) (λ_ _ _ _=>(A7 (i:=0) (by with_unfolding_all (show(["_law_one","_law_name","_law_over_here"]:List Str).Nodup;decide +kernel)) ⋯ (by eq_refl))) (Ay nofun) (λ_ _ _ _=>(Es (Ae (Qg (K:=K) hq) (pv 1) (Ar (A6 (K:=K) hu) (pv 2) (pv 0) (by ac_rfl)) ⋯))) (λ_ _ _ _=>(pv 0))) (Co A2) (Al _)))) (λ_ _ _ _=>(pv 0)))))),?_⟩
 symm
 refine Ie hI λnv hN=>?_;refine Oe hN (λz=>!decide (z∈row)) PyData.str (λ_=>rfl) ∅ (λjj z H1 R R' hz e1 hR hR'=>?_) (λlf ys1 H1 hlf e1 h1 hL1=>?_)
 . symm
   refine ao8 (hU.nm_fz e1.fz) ?_
   symm
   refine Y2 (λhb=>?_) (λhb=>?_)
   . symm
     exact hR (by rw[hb];rfl) _ _ (.refl _) Hi
   exact hR' (by rw[hb];rfl) _ (.refl _)
 have hy1:=IsL.str_eq hL1;subst hy1;have h1':H1 lf=some (.lst ((Ft ns row).map V.str)):=h1;have hlfl:(Ft ns row).length<=ns.length:=A1Q _ _;have hlfn:∀ z∈Ft ns row,z∈ns:=λz hz=>(A15.mp hz).1
 symm
 refine Ol (SqL.of h1') (λz=>!((Ft ns row).any λy=>Ak ps y z)) PyData.str (λ_=>rfl) ∅ (λjj z H2 R R' hz e2 hR hR'=>?_) (λq2 ys2 H2 hq2 e2 h2 hL2=>?_)
 . symm
   refine Ol (SqL.of (e2 _ _ h1')) (λy=>Ak ps y z) PyData.str (λ_=>rfl) ∅ (λkk y H3 R2 R2' hy e3 hR2 hR2'=>?_) (λq3 ys3 H3 hq3 e3 h3 hL3=>?_)
   . have hT3:=hT.same ((e1.trans e2).trans e3);obtain⟨iy,ay,hiy,hay⟩:=hT3.at (hlfn y (A03 hy));obtain⟨ms,hm1,hm2,hm3⟩:=hT3.row iy y ay hiy hay
     symm
     refine an9 hT3 hn hiy hay ?_;refine au0 (SqL.of hm1) ?_;rw[Ut (hm3 z)]
     symm
     refine am6 (λhb=>?_) (λhb=>?_)
     . symm
       exact hR2 hb _ _ (.refl _) Hi
     exact hR2' hb _ (.refl _)
   have hy3:=IsL.str_eq hL3;subst hy3
   symm
   refine Cp nofun λt4 H4 ht4 e4 h4=>?_;refine Xi (dx:=.list (((Ft ns row).filter λy=>Ak ps y z).map PyData.str)) (dy:=.list []) (Is.of_lst (SqL.of (e4 _ _ h3)) (Oj _)) (Is.of_lst (SqL.of h4) .nil) (Vt λy hy=>hok1 y (hlfn y (A15.mp hy).1)) (by rfl) ?_;rw[Kg,Sf]
   symm
   have e34:Same H2 H4:=e3.trans e4;refine Y2 (λhb=>?_) (λhb=>?_)
   . symm
     exact hR (by rw[hb];rfl) _ _ e34 Hi
   exact hR' (by rw[hb];rfl) _ e34
 have hy2:=IsL.str_eq hL2;subst hy2;exact k q2 H2 (e1.free hq2) (e1.trans e2) h2
def G2 (K:W.Frag):Sp:=λvs H Q _=>∃ v ns ps,vs=[v]/\Is K H (hfD ns ps) v/\HalfW ns ps/\ns.length<=10/\(∀ z∈ns,PyData.strOk z=true)/\cnt (Ak ps) ns<=100000/\∀ l ys H',H l=none->Same H H'->H' l=some (.lst ys)->Tps H' (ext (Ak ps) ns.length ns) ys->Q (.ref l) H'
theorem Mm {f:Addr}{fd:FuncData}(F:Fun K "_law_orders" "_law_orders" Ci f fd)(T:Gi mg)(Eh:Fnd P w K mg base 1 "_law_over" ["_law_half_here"] (Fw K))(Bh:Fnd P w K mg base 1 "_law_next_ones" ["_law_half_here","_law_over_here","_law_begun"] (Cm K)):FnOk P w K mg base CX0 2 f fd ["_law_half_here"] (G2 K):=by
 refine F.ok Bn (λvs H Q E h=>?_) (λcdv A outer s H vs Q E hr h=>?_)
 . obtain⟨v,ns,ps,rfl,_⟩:=h;rfl
 obtain⟨v,ns,ps,rfl,hI,hW,h10,hok1,hcn,k⟩:=h;have hu:=Cj hr;have hq:=Cf hr;have hn:=hW.nd;have hgl:∀ i,i<=ns.length->(Fs (Ak ps) ns i [[]]).length<=100000:=λi hi=>A0C (ah5 (Uw hW) Y8 hn hi) hcn
 with_reducible refine⟨_,(A1 (Ad (i:=1) Bn.nd ⋯ (by eq_refl) (Az Eh (hr.mono nofun) ⋯ (A0 (pv 0) A2)))
  (A1 (Ad (i:=2) Bn.nd ⋯ (by eq_refl) (Co (A0 (Cb A2) A2)))
  (A1 (Bx A13 ⋯ (An (K:=K) hu (Ar (A6 (K:=K) hu) (pv 0) A4 (by ac_rfl))) (A7 (i:=3) Bn.nd ⋯ (by eq_refl))
  (A1 (Ad (i:=4) Bn.nd ⋯ (by eq_refl) (Co A2))
  (A1 (Bx A13 ⋯ (An (K:=K) hu (pv 2)) (A7 (i:=5) Bn.nd ⋯ (by with_unfolding_all exact A3B rfl))
  (A5 (Ic (Lw (K:=K) A1W A4H A4I (mm Lp) (pv 4) (A0 (Bm ["_law_name"] ["_law_begun"] [5] ⋯ ⋯ ⋯ (An (K:=K) hu (Az Bh (hr.mono nofun) ⋯ (A0 (pv 0) (A0 (pv 1) (A0 (pv 5) A2))))) (λ_ _ _ _=>(A7 (i:=0) (by with_unfolding_all (show(["_law_name","_law_begun"]:List Str).Nodup;decide +kernel)) ⋯ (by eq_refl))) (Ay nofun) (λ_ _ _ _=>Cr) (λ_ _ _ _=>(Ai (Ah (K:=K)) (pv 1) (Cb (A0 (pv 0) A2))))) A2)))))
  (A5 (Ad (i:=2) Bn.nd ⋯ (by eq_refl) (pv 4))))))
  (A5 (Aj (pv 2)))))),?_⟩
 symm
 refine⟨v,ns,ps,rfl,hI,hW,h10,hok1,λr as H1 hr1 e1 hT=>?_⟩
 symm
 refine C0 nofun λt2 H2 ht2 e2 h2=>?_
 symm
 refine Cp (Ab (by simp)) λl3 H3 hl3 e3 h3=>?_
 symm
 have e13:Same H1 H3:=e2.trans e3;refine Ie (hI.hf_fz (e1.trans e13).fz) λnv hN=>?_
 refine My hN (λi σ H4=>∃ l x3 x4 x5 ys,σ=[some v,some (.ref r),some (.ref l),x3,x4,x5]/\Same H1 H4/\Fz H3 H4/\H1 l=none/\H4 l=some (.lst ys)/\Tps H4 (Fs (Ak ps) ns i [[]]) ys)
  ⟨l3,_,_,_,[.ref t2],rfl,e13,.refl _,e2.free hl3,h3,.one (e3 _ _ h2)⟩ (λi σ' H' hP=>?_) (λi z0 σ H4 hz0 hP=>?_) (fun σ H4 hP=>?_)
 . obtain⟨_,_,_,_,_,_,_,fz,_⟩:=hP;exact fz
 . obtain⟨l,x3,x4,x5,ys,rfl,e4,fz4,hl1,h4,hL4⟩:=hP;have hin:i<ns.length:=(A01.mp hz0).1;have hrows:=hgl i ∅;have hrows1:=hgl (i+1) ∅;rw[Ix] at hrows1;have hyl:ys.length=(Fs (Ak ps) ns i [[]]).length:=hL4.len.symm
   symm
   refine Cp nofun λg H5 hg5 e5 h5=>?_
   symm
   refine G3 (SqL.of (e5 _ _ h4)) ?_
   refine Ep (At (xs:=ys)) (λj σ H6=>∃ x5 zs,σ=[some v,some (.ref r),some (.ref l),some (.str z0),some (.ref g),x5]/\Same H4 H6/\H6 g=some (.lst zs)/\Tps H6 (Fu (Ak ps) ns ((Fs (Ak ps) ns i [[]]).take j)) zs)
    ⟨_,[],rfl,e5,h5,.nil⟩ (λj σ' H' hP=>?_) (λj x σ' H6 hx6 hj hP=>?_) (fun σ' H6 hP=>?_)
   . obtain⟨_,_,_,e,_⟩:=hP;exact SqL.of (e _ _ h4)
   . obtain⟨y5,zs,rfl,e6,h6g,hL6⟩:=hP;obtain⟨xa,row,rfl,hro,hxa⟩:=(hL4.same e6).at hx6;have hrl:=Ql _ _ _ _ (A03 hro);have e16:Same H1 H6:=e4.trans e6
     symm
     refine⟨v,.ref xa,r,as,ns,ps,row,rfl,hI.hf_fz (e1.trans e16).fz,hT.same e16,Ig (SqT.of hxa),hn,h10,hok1,λq7 H7 hq7 e7 h7=>?_⟩;have hfl:(frF (Ak ps) (Ft ns row)).length<=10:=A0C (A1Q _ _) (A0C (A1Q _ _) h10);refine G3 (SqL.of h7) ?_;refine Ca (At (xs:=(frF (Ak ps) (Ft ns row)).map V.str)) (λp m acc H8=>Same H7 H8/\Tps H8 (((frF (Ak ps) (Ft ns row)).take m).map λz=>row++[z]) acc) (λp H' hp' e' h'=>⟨e',.nil⟩) (λp m acc H8 hP=>SqL.of (hP.1 _ _ h7)) (λp m x acc H8 hp' hx8 hm hl' hpa hP=>?_) (λp acc H8 hp' hpa hal hP=>?_)
     . obtain⟨e8,hA8⟩:=hP;rw[A07] at hx8;obtain⟨z,hz,rfl⟩:=A2O.mp hx8
       symm
       refine C0 (Ab (by simp)) λt9 H9 ht9 e9 h9=>?_;refine al7 (SqT.of (((e7.trans e8).trans e9) _ _ hxa)) h9 (by simp) (Ab (by rw[List.length_map];simp;omega)) λp10 H10 e10 h10'=>?_;have e910:=e9.trans e10;have hpa10:=e910 _ _ hpa;refine Eu (by rw[A00];omega) hm hl' hpa10 λH11 e11 h11=>?_;refine⟨(e8.trans e910).off hp' e11,?_⟩;rw[A0L,hz,A0A];exact((hA8.same e910).but hpa10 e11).append (.one (e11 _ _ (ne_of h10' hpa10 (by intro z;cases z)) (by rw[A0A];exact h10')))
     obtain⟨e8,hA8⟩:=hP;rw[A00,A0Q] at hA8
     have hzl:zs.length<=100000:=by have:=hL6.len;have:=Nu (Ak ps) ns (Fs (Ak ps) ns i [[]]) j;omega
     rw[A00] at hal;have e68:Same H6 H8:=e7.trans e8
     symm
     have h8g:=e68 _ _ h6g;refine Xs h8g hpa ∅ λH9 e9 h9=>?_
     symm
     refine⟨_,_,rfl,(e6.trans e68).off hg5 e9,h9,?_⟩;rw[Wd _ _ hro];exact((hL6.same e68).but h8g e9).append (hA8.but h8g e9)
   obtain⟨y5,zs,rfl,e6,h6g,hL6⟩:=hP;rw[hyl,A0Q] at hL6
   symm
   refine⟨g,_,_,_,zs,rfl,e4.trans e6,fz4.trans e6.fz,e4.free hg5,h6g,?_⟩;rw[Ix];exact hL6
 obtain⟨l,x3,x4,x5,ys,rfl,e4,fz4,hl1,h4,hL4⟩:=hP
 symm
 rw[Qo] at hL4;exact k l ys H4 (e1.free hl1) (e1.trans e4) h4 hL4
def Gq (K:W.Frag):Sp:=λvs H Q _=>∃ v ns ps,vs=[v]/\Is K H (hfD ns ps) v/\HalfW ns ps/\ns.length<=10/\(∀ z∈ns,PyData.strOk z=true)/\∀ H',Same H H'->Q (.int ((cnt (Ak ps) ns:Nat):Int)) H'
theorem Ow {f:Addr}{fd:FuncData}(F:Fun K "_law_count" "_law_count" Dq f fd)(T:Gi mg)(Eh:Fnd P w K mg base 1 "_law_over" ["_law_half_here"] (Fw K))(Bh:Fnd P w K mg base 1 "_law_next_ones" ["_law_half_here","_law_over_here","_law_begun"] (Cm K)):FnOk P w K mg base CX0 2 f fd ["_law_half_here"] (Gq K):=by
 refine F.ok B6 (λvs H Q E h=>?_) (λcdv A outer s H vs Q E hr h=>?_)
 . obtain⟨v,ns,ps,rfl,_⟩:=h;rfl
 obtain⟨v,ns,ps,rfl,hI,hW,h10n,hok1,k⟩:=h;have hu:=Cj hr;have hq:=Cf hr;have hn:=hW.nd;obtain⟨ms,hpm,hsm⟩:=a40 ns;have hmn:ms.Nodup:=hpm.nodup_iff.mpr hn;have hml:ms.length=ns.length:=hpm.length_eq;have h10:ms.length<=10:=by omega
 have hcm:cnt (Ak ps) ms=cnt (Ak ps) ns:=Oo hn hpm;have hMM:cnt (Ak ps) ns<=3628800:=Z9 hn h10n
 with_reducible refine⟨_,(A1 (Ad (i:=1) B6.nd ⋯ (by eq_refl) (Az Eh (hr.mono nofun) ⋯ (A0 (pv 0) A2)))
  (A1 (Ad (i:=2) B6.nd ⋯ (by with_unfolding_all exact A3B rfl) (a73 hu (Iw (Cb A2) A4 Sd) ⋯ ⋯ nofun nofun))
  (A1 (Bx A13 ⋯ (An (K:=K) hu (Ar (A6 (K:=K) hu) (pv 0) A4 (by ac_rfl))) (A7 (i:=3) B6.nd ⋯ (by eq_refl))
  (A1 (Ad (i:=4) B6.nd ⋯ (by eq_refl) Pl)
  (A1 (Bx A13 ⋯ (ao0 (pv 2)) (A7 (i:=5) B6.nd ⋯ (by eq_refl))
  (A5 (Bx A13 ⋯ (An (K:=K) hu (Az Bh (hr.mono nofun) ⋯ (A0 (pv 0) (A0 (pv 1) (A0 (pv 5) A2))))) (A7 (i:=6) B6.nd ⋯ (by eq_refl))
  (A1 (Ad (i:=7) B6.nd ⋯ (by eq_refl) (Dx (J6 (K:=K)) ⋯ T.b_tuple PyProof.Rows.Boot.«tuple» (A0 (Aa (Rk (K:=K)) ⋯ T.b_sorted PyProof.Rows.Boot.«sorted» (A0 (Ai (Ah (K:=K)) (pv 5) (Cb (A0 (pv 6) A2))) A2)) A2)))
  (A5 (Er hu (pv 4) (pv 7) (Ai (Ah (K:=K)) (a81 hu (pv 4) (pv 7) A4 (by with_unfolding_all exact⟨rfl,rfl,rfl,rfl⟩)) (Ar (A6 (K:=K) hu) (pv 2) (pv 5) (by ac_rfl))) ⋯))))))
  (A5 (Ad (i:=2) B6.nd ⋯ (by with_unfolding_all exact A3B rfl) (pv 4))))))
  (A5 (Aj (Aa (Ih (K:=K) ⋯) ⋯ T.b_sum PyProof.Rows.Boot.«sum» (A0 (Bm ["_law_begun"] ["_law_found"] [2] ⋯ ⋯ ⋯ (ao0 (pv 2)) (λ_ _ _ _=>(A7 (i:=0) (by with_unfolding_all (show(["_law_begun","_law_found"]:List Str).Nodup;decide +kernel)) ⋯ (by eq_refl))) (Ay nofun) (λ_ _ _ _=>Cr) (λ_ _ _ _=>(Ar (A6 (K:=K) hu) (pv 1) (pv 0) (by ac_rfl)))) A2))))))),?_⟩
 symm
 refine⟨v,ns,ps,rfl,hI,hW,h10n,hok1,λr as H1 hr1 e1 hT=>?_⟩
 symm
 refine al6 λf2 H2 hf2 e2 h2=>?_
 symm
 refine C0 nofun λt3 H3 ht3 e3 h3=>?_
 symm
 refine ae4 (key:=[]) (e3 _ _ h2) h3 λH4 e4 h4=>?_;have e14:Same H1 H4:=((e2.trans e3).off hf2 e4)
 symm
 refine Ie (hI.hf_fz (e1.trans e14).fz) λnv hN=>?_;have hk0:Gh ms (λ_=>true)=[]:=by unfold Gh;simp
 have hft:ms.filter (λ_=>true)=ms:=by simp
 refine My hN (λi σ H5=>∃ f x3 x4 x5 x6 x7 ct,σ=[some v,some (.ref r),some (.ref f),x3,x4,x5,x6,x7]/\Same H1 H5/\Fz H4 H5/\H1 f=none/\H5 f=some (.dT (Hg ms ct))/\Zg ms ct/\(∀ e∈ct,(ms.filter e.1).length+i=ms.length)/\Qr ms (cnt (Ak ps)) ct=cnt (Ak ps) ns)
  ⟨f2,_,_,_,_,_,[(λ_=>true,1)],rfl,e14,.refl _,hf2,?_,by unfold Zg Hg;simp,?_,?_⟩ (λi σ' H' hP=>?_) (λi z0 σ H5 hz0 hP=>?_) (fun σ H5 hP=>?_)
 . rw[h4];show some (HO.dT [([],V.int 1)])=some (HO.dT [(Gh ms (λ_=>true),V.int 1)]);rw[hk0]
 . intro e he;rw[A16.mp he];show(ms.filter λ_=>true).length+0=_;rw[hft];rfl
 . unfold Qr;simp;rw[hft,hcm]
 . obtain⟨_,_,_,_,_,_,_,_,_,fz,_⟩:=hP;exact fz
 . obtain⟨f,x3,x4,x5,x6,x7,ct,rfl,e5,fz5,hf,h5,hO5,hsz,hws⟩:=hP;have hin':i<ns.length:=(A01.mp hz0).1;have hctl:=Op hO5 h10
   symm
   refine Tc λg H6 hg6 e6 h6=>?_;have hfg:f≠g:=ne_of_none h5 hg6
   symm
   refine ab0 (e6 _ _ h5) λo bs H7 hK7 e7 h7=>?_;have h7g:=e7 _ _ hfg.symm h6
   have hkeys:∀ {j:Nat} {e:(Str->Bool)×Nat},ct[j]? = some e->∃ b,bs[j]? = some b/\H7 b=some (.tup ((ms.filter λx=>!e.1 x).map V.str)):=fun {j e} he=>by obtain⟨b,hb1,hb2⟩:=hK7.2 j (Gh ms e.1,V.int ((e.2:Nat):Int)) (by unfold Hg;rw[List.getElem?_map,he];rfl);refine⟨b,hb1,?_⟩;rw[Oi] at hb2;exact e7 _ _ (ne_of hb2 (e6 _ _ h5) (by intro z;cases z)) hb2
   have hbl:bs.length=ct.length:=by rw[hK7.1];unfold Hg;rw[List.length_map]
   have e17:Same H1 H7:=(e5.trans e6).off hf e7;have fz7:Fz H4 H7:=(fz5.trans e6.fz).trans (Mr e7 λxs h=>by rcases h with h|⟨o',h⟩<;>(rw[e6 _ _ h5] at h;cases h))
   refine Ep Ng (λj σ H8=>∃ y5 y6 y7 ct1,σ=[some v,some (.ref r),some (.ref f),some (.str z0),some (.ref g),y5,y6,y7]/\Same H1 H8/\Fz H7 H8/\(∀ b xs,H7 b=some (.tup xs)->H8 b=some (.tup xs))/\H8 f=some (.frz o (.dT (Hg ms ct)))/\H8 g=some (.dT (Hg ms ct1))/\Zg ms ct1/\(∀ e∈ct1,(ms.filter e.1).length+(i+1)=ms.length)/\Qr ms (cnt (Ak ps)) ct1=Qr ms (cnt (Ak ps)) (ct.take j))
    ⟨_,_,_,[],rfl,e17,.refl _,λ_ _ h=>h,h7,h7g,by unfold Zg Hg;simp,(λ_ h=>by cases h),rfl⟩ (λj σ' H' hP=>?_) (λj x σ' H8 hx8 hj hP=>?_) (fun σ' H8 hP=>?_)
   . obtain⟨_,_,_,_,_,_,_,_,h,_⟩:=hP;exact h
   . obtain⟨y5,y6,y7,ct1,rfl,e8,fz8,k8,h8f,h8g,hO8,hs8,hw8⟩:=hP;rw[A07] at hx8
     cases he:ct[j]? with
     |none=>
       rw[A3C (by rw[hbl];exact List.getElem?_eq_none_iff.mp he)] at hx8
       cases hx8
     |some e=>
       obtain⟨b,hb1,hb2⟩:=hkeys he;rw[hb1] at hx8
       cases hx8;have h8b:=k8 _ _ hb2;have hL:(ms.filter e.1).length+i=ms.length:=hsz e (A03 he);have hLn:(ms.filter e.1).Nodup:=hmn.filter _;have hLne:ms.filter e.1≠[]:=λz=>by rw[z] at hL;simp at hL;omega
       have hLp:(ns.filter e.1).Perm (ms.filter e.1):=(hpm.filter _).symm;have hLl:=A1Q (λx=>!e.1 x) ms
       symm
       refine⟨v,.ref b,r,as,ns,ps,_,rfl,hI.hf_fz (e1.trans e8).fz,hT.same e8,Ig (SqT.of h8b),hn,h10n,hok1,λlf H9 hlf9 e9 h9=>?_⟩;rw[Sa hpm] at h9;have h9g:=e9 _ _ h8g;have h9f:=e9 _ _ h8f;have hglf:g≠lf:=ne_of_none h8g hlf9;refine G3 (SqL.of h9) ?_
       refine Ep (At (xs:=(frF (Ak ps) (ns.filter e.1)).map V.str)) (λm σ H10=>∃ w6 w7 ct2,σ=[some v,some (.ref r),some (.ref f),some (.str z0),some (.ref g),some (.ref b),w6,w7]/\Same H1 H10/\Fz H9 H10/\(∀ b xs,H8 b=some (.tup xs)->H10 b=some (.tup xs))/\H10 f=some (.frz o (.dT (Hg ms ct)))/\H10 lf=some (.lst ((frF (Ak ps) (ns.filter e.1)).map V.str))/\H10 g=some (.dT (Hg ms ct2))/\Zg ms ct2/\(∀ e∈ct2,(ms.filter e.1).length+(i+1)=ms.length) /\
         Qr ms (cnt (Ak ps)) ct2=Qr ms (cnt (Ak ps)) ct1+e.2*(((frF (Ak ps) (ns.filter e.1)).take m).map λx=>cnt (Ak ps) (B0 (ms.filter e.1) x)).sum)
        ⟨_,_,ct1,rfl,e8.trans e9,.refl _,(λ_ _ h=>e9 _ _ h),h9f,h9,h9g,hO8,hs8,by simp⟩ (λm σ' H' hP=>?_) (λm x10 σ' H10 hx10 hm hP=>?_) (fun σ' H10 hP=>?_)
       . obtain⟨_,_,_,_,_,_,_,_,h,_⟩:=hP;exact SqL.of h
       . obtain ⟨w6,w7,ct2,rfl,e10,fz10,k10,h10f,h10l,h10g,hO10,hs10,hw10⟩:=hP;rw[A07] at hx10
         cases hz:(frF (Ak ps) (ns.filter e.1))[m]? with
         |none=>rw[hz] at hx10;cases hx10
         |some z=>
           rw[hz] at hx10
           cases hx10;have hzf:=(mem_frF.mp (A03 hz)).1;have hzL:z∈ms.filter e.1:=hLp.mem_iff.mp hzf;have h10b:=k10 _ _ h8b
           symm
           refine C0 (Ab (by simp)) λt11 H11 ht11 e11 h11=>?_;refine Jo (SqT.of (e11 _ _ h10b)) (SqT.of h11) (Ab (by rw[List.length_map];simp;omega)) λp12 H12 e12 h12=>?_;have h12':SqT K H12 p12 (((ms.filter λx=>!e.1 x)++[z]).map V.str):=by rw[A0A];exact h12
           symm
           refine a80 (.inr h12') (by rw[A08,A1O];omega) λq13 out H13 hq13 e13 h13 hp13 hs13=>?_;have hout:=Sj hsm hmn hzL hp13 hs13;subst hout
           symm
           refine Oz (SqL.of h13) λt14 H14 ht14 e14' h14=>?_;obtain⟨k0,ct3,g1,g2,_,g4,g5,g6⟩:=Vr ms (λy=>e.1 y && !decide (y=z)) e.2 hO10;have e1014:Same H10 H14:=((e11.trans e12).trans e13).trans e14';have h14g:=e1014 _ _ h10g;have h14f:=e1014 _ _ h10f;have h14b:=e1014 _ _ h10b;have hl2:=Op hO10 h10;have h14k:H14 t14=some (.tup ((Gh ms (λy=>e.1 y && !decide (y=z))).map kV)):=by rw[Oi];exact h14
           have h14b':H14 b=some (.tup ((Gh ms e.1).map kV)):=by rw[Oi];exact h14b
           symm
           refine⟨g,rfl,.inr ⟨_,.inl h14g⟩,?_⟩
           symm
           refine⟨_,DGet.t h14g h14k,?_⟩;rw[g1]
           symm
           refine ad7 (.inr ⟨o,h14f⟩) h14b' (Ub hO5 he) ?_
           symm
           refine Sq h14g h14k (by unfold Hg;rw[List.length_map];omega) λH15 e15 h15=>?_;have hH1g:H1 g=none:=e5.free hg6;have e115:Same H1 H15:=(e10.trans e1014).off hH1g e15;have k15:∀(a:Addr) (O:HO),a≠g->H10 a=some O->H15 a=some O:=λa O hn' h'=>e15 _ _ hn' (e1014 _ _ h')
           symm
           refine⟨_,_,ct3,rfl,e115,(fz10.trans e1014.fz).trans (Mr e15 λxs h=>by rcases h with h|⟨o',h⟩<;>(rw[h14g] at h;cases h)),(λb xs h=>k15 _ _ (λz=>by rw[z] at h;rw[h] at h8g;cases h8g) (k10 b xs h)),k15 _ _ hfg h10f,k15 _ _ hglf.symm h10l,?_,g4,?_,?_⟩
           . rw[h15,g2];rfl
           . intro e' he';rcases g6 e' he' with ⟨e0,h0,hh⟩|hh
             . rw[hh];exact hs10 e0 h0
             rw[hh,Db];have:=Bz hLn hzL;omega
           rw[g5,hw10,A0L,hz,A0A,List.sum_append,Nat.mul_add,Db];simp;omega
       obtain⟨w6,w7,ct2,rfl,e10,fz10,k10,h10f,h10l,h10g,hO10,hs10,hw10⟩:=hP;refine⟨_,_,_,ct2,rfl,e10,(fz8.trans e9.fz).trans fz10,(λb xs h=>k10 _ _ (k8 b xs h)),h10f,h10g,hO10,hs10,?_⟩;rw[A00,A0Q] at hw10;have hNn:(ns.filter e.1).Nodup:=hn.filter _;have hNne:ns.filter e.1≠[]:=λz=>hLne (by rw[z] at hLp;exact List.nil_perm.mp hLp);rw[hw10,Yu he,hw8,<- Oo hLn hLp,Ln hNn hNne];congr 2;apply X6;intro x hx;exact(Oo (Br hLn x) (hLp.filter _)).symm
   obtain⟨y5,y6,y7,ct1,rfl,e8,fz8,k8,h8f,h8g,hO8,hs8,hw8⟩:=hP;rw[A00,hbl,A0Q] at hw8
   symm
   exact⟨g,_,_,_,_,_,ct1,rfl,e8,fz7.trans fz8,(e5.free hg6),h8g,hO8,hs8,hw8.trans hws⟩
 obtain⟨f,x3,x4,x5,x6,x7,ct,rfl,e5,fz5,hf,h5,hO5,hsz,hws⟩:=hP;have hctl:=Op hO5 h10;have hnil:∀ e∈ct,ms.filter e.1=[]:=λe he=>List.eq_nil_of_length_eq_zero (by have:=hsz e he;omega);have hone:∀ e∈ct,e.2*cnt (Ak ps) (ms.filter e.1)=e.2:=λe he=>by rw[hnil e he];exact Nat.mul_one _
 have hsum:((ct.map λe=>((e.2:Nat):Int))).sum=((cnt (Ak ps) ns:Nat):Int):=by
  rw[<- hws];unfold Qr;rw [A1J hone];clear hws hone hnil hsz hO5 h5 hctl
  induction ct with
  |nil=>rfl
  |cons p r ih=>rw[A0I,A2A,A0I,A2A,ih];omega
 symm
 refine ab0 h5 λo bs H7 hK7 e7 h7=>?_;have hbl:bs.length=ct.length:=by rw[hK7.1];unfold Hg;rw[List.length_map]
 refine Ca Ng (λq i acc H8=>Same H7 H8/\acc=(ct.take i).map λe=>V.int ((e.2:Nat):Int))
  (λq H' hq' e' h'=>⟨e',rfl⟩) (λq i acc H8 hP=>hP.1 _ _ h7) (λq i x acc H8 hq' hx hi hl ha hP=>?_) (λq acc H8 hq' ha hal hP=>?_)
 . obtain⟨e8,rfl⟩:=hP;rw[A07] at hx
   cases he:ct[i]? with
   |none=>
     rw[A3C (by rw[hbl];exact List.getElem?_eq_none_iff.mp he)] at hx
     cases hx
   |some e=>
     obtain⟨b,hb1,hb2⟩:=hK7.2 i (Gh ms e.1,V.int ((e.2:Nat):Int)) (by unfold Hg;rw[List.getElem?_map,he];rfl);rw[hb1] at hx
     cases hx;have h8b:=e8 _ _ (e7 _ _ (ne_of hb2 h5 (by intro z;cases z)) hb2);have h8f:=e8 _ _ h7
     symm
     refine ad7 (.inr ⟨o,h8f⟩) h8b (Ub hO5 he) ?_;refine Eu (by rw[A00];omega) hi hl ha λH9 e9 h9=>⟨e8.off hq' e9,?_⟩;rw[A0L,he,A0A];rfl
 obtain⟨e8,rfl⟩:=hP;rw[A00,hbl,A0Q] at ha
 symm
 refine Z5 (ns:=ct.map λe=>((e.2:Nat):Int)) (.inl (SqL.of (by rw[ha,A1P];rfl))) (λn hn'=>?_) (by rw[A00];omega) ?_
 . obtain⟨e,he,rfl⟩:=A0V.mp hn';have:=Yl (ns:=ms) (F:=cnt (Ak ps)) he;rw[hone e he,hws] at this;omega
 rw[hsum]
 symm
 exact k _ ((e1.trans (e5.off hf e7)).trans e8)
def Ja (K:W.Frag):Sp:=λvs H Q _=>∃ d l m,vs=[.ref d,.int m]/\Feed H d l/\1<=m/\∀ v ns ps H',ExtBut d H H'->Feed H' d l->Is K H' (hfD ns ps) v->Half ns ps->((cnt (Ak ps) ns:Nat):Int)<=m->Q v H'
theorem T1 {f:Addr}{fd:FuncData}(F:Fun K "_law_few" "_law_few" Fe f fd)(T:Gi mg)(A9:Fnd P w K mg base 1 "_law_draw" ["_law_feed_here","_law_many"] (Bw K))(Fi:Fnd P w K mg base 4 "_law_half" ["_law_feed_here","_law_many"] (Hw K))(G0:Fnd P w K mg base 2 "_law_count" ["_law_half_here"] (Gq K)):FnOk P w K mg base CX0 5 f fd ["_law_feed_here","_law_most"] (Ja K):=by
 refine F.ok Gx (λvs H Q E h=>?_) (λcdv A outer s H vs Q E hr h=>?_)
 . obtain⟨d,l,m,rfl,_⟩:=h;rfl
 obtain⟨d,l,m,rfl,hF,hm,k⟩:=h;have hu:=Cj hr;have hq:=Cf hr
 with_reducible refine⟨_,(A1 (Ad (i:=2) Gx.nd ⋯ (by eq_refl) (Az Fi (hr.mono nofun) ⋯ (A0 (pv 0) (A0 (Az A9 (hr.mono nofun) ⋯ (A0 (pv 0) (A0 A4 A2))) A2))))
  (A1 (C1 (Ae (Bi (K:=K) hq) (Az A9 (hr.mono nofun) ⋯ (A0 (pv 0) (A0 A4 A2))) A4 (Al _)) (A1 (Ad (i:=3) Gx.nd ⋯ (by eq_refl) (Az Fi (hr.mono nofun) ⋯ (A0 (pv 0) (A0 (Ai (Ah (K:=K)) A4 (Az A9 (hr.mono nofun) ⋯ (A0 (pv 0) (A0 A4 A2)))) A2))))
  (A5 (C1 (Ae ae7 (Az G0 (hr.mono nofun) ⋯ (A0 (pv 3) A2)) (pv 1) (Al _)) (A5 (Aj (pv 3))) Ao))) Ao)
  (A1 (Ve A13 (Ae Nq (Az G0 (hr.mono nofun) ⋯ (A0 (pv 2) A2)) (pv 1) (Al _))
  (A5 (Ad (i:=2) Gx.nd ⋯ (by eq_refl) (Az Fi (hr.mono nofun) ⋯ (A0 (pv 0) (A0 (Ai Fl (Aa (Am (K:=K)) ⋯ T.b_len PyProof.Rows.Boot.«len» (A0 (Ar (A6 (K:=K) hu) (pv 2) A4 (by ac_rfl)) A2)) A4) A2))))))
  (A5 (Aj (pv 2)))))),?_⟩
 symm
 refine⟨d,l,_,rfl,hF,by omega,by omega,λu H1 hu0 hu1 e1 hF1=>?_⟩
 symm
 refine⟨d,l,_,rfl,hF1,by omega,by omega,λv2 n2 s2 H2 e2 hF2 hI2 hH2 hl2=>?_⟩;walk_at "rq";have e02:ExtBut d H H2:=e1.trans e2
 with_reducible refine W7 (fun σ' H'=>∃ x3,σ'=[some (.ref d),some (.int m),some v2,x3]/\ExtBut d H2 H'/\Feed H' d l) (λN hN=>?_) (fun σ1 H3 hM=>?_)
 . walk_at "rq";refine⟨d,l,_,rfl,hF2,by omega,by omega,λu3 H3 hu30 hu31 e3 hF3=>?_⟩;walk_at "rq";refine Hy (λhc=>?_) (λhc=>?_)
   . walk_at "rq";refine⟨d,l,_,rfl,hF3,by omega,by omega,λu4 H4 hu40 hu41 e4 hF4=>?_⟩;walk_at "rq";refine⟨d,l,_,rfl,hF4,by omega,by omega,λv5 n5 s5 H5 e5 hF5 hI5 hH5 hl5=>?_⟩
     symm
     refine⟨v5,n5,s5,rfl,hI5,hH5.w,hH5.few,hH5.ok4,λH6 e6=>?_⟩
     symm
     have hF6:=hF5.same e6;have e26:ExtBut d H2 H6:=((e3.trans e4).trans e5).same e6;refine Hy (λhc2=>?_) (λhc2=>?_)
     . symm
       exact k v5 n5 s5 H6 (e02.trans e26) hF6 (hI5.hf_fz e6.fz) hH5 hc2
     symm
     exact hN _ _ ⟨_,rfl,e26,hF6⟩
   walk_at "rq";exact hN _ _ ⟨_,rfl,e3,hF3⟩
 obtain⟨x3,rfl,e3,hF3⟩:=hM
 symm
 refine a08 (λt σ H4=>∃ v4 n4 s4 x3,σ=[some (.ref d),some (.int m),some v4,x3]/\ExtBut d H H4/\Feed H4 d l/\Is K H4 (hfD n4 s4) v4/\Half n4 s4/\t=n4.length)
  n2.length ⟨v2,n2,s2,_,rfl,e02.trans e3,hF3,hI2.hf_fz (hF2.fz e3),hH2,rfl⟩ λt σ H4 hP=>?_
 obtain⟨v4,n4,s4,y3,rfl,e4,hF4,hI4,hH4,rfl⟩:=hP
 symm
 refine⟨v4,n4,s4,rfl,hI4,hH4.w,hH4.few,hH4.ok4,λH5 e5=>?_⟩;have hI5:=hI4.hf_fz e5.fz;have hF5:=hF4.same e5
 symm
 refine Hy (λhc=>?_) (λhc=>?_)
 . have hpos:0<n4.length:=by
    cases n4 with
    |nil=>rw[L2.cnt_nil] at hc;omega
    |cons=>simp
   have hfew:=hH4.few;refine aa7 ?_
   symm
   refine Ie hI5 λnv hN5=>?_
   symm
   refine Vh hN5 ?_
   symm
   refine⟨d,l,_,rfl,hF5,by omega,by omega,λv6 n6 s6 H6 e6 hF6 hI6 hH6 hl6=>?_⟩
   symm
   exact⟨n6.length,by omega,v6,n6,s6,_,rfl,(e4.same e5).trans e6,hF6,hI6,hH6,rfl⟩
 symm
 exact k v4 n4 s4 H5 (e4.same e5) hF5 hI5 hH4 ∅
def G7 (K:W.Frag):Sp:=λvs H Q _=>∃ v ns ps,vs=[v]/\Is K H (hfD ns ps) v/\T7 ns ps/\∀ r as H',H r=none->(∀ a∈as,H a=none)->Same H H'->Tab H' r ns as (Way ps)->Q (.ref r) H'
theorem Ml {f:Addr}{fd:FuncData}(F:Fun K "behind_each" "behind_each" Ch f fd)(T:Gi mg):FnOk P w K mg base CX0 1 f fd ["half"] (G7 K):=by
 refine F.ok C6 (λvs H Q E h=>?_) (λcdv A outer s H vs Q E hr h=>?_)
 . obtain⟨v,ns,ps,rfl,_⟩:=h;rfl
 obtain⟨v,ns,ps,rfl,hI,hW,k⟩:=h;have hu:=Cj hr;have hq:=Cf hr;have hn:=hW.nd;have hfew:=hW.few
 with_reducible refine⟨_,(A1 (Ad (i:=1) C6.nd ⋯ (by eq_refl) (Ar (A6 (K:=K) hu) (pv 0) A4 (by ac_rfl)))
  (A1 (Ad (i:=2) C6.nd ⋯ (by eq_refl) (Dx (Nh (K:=K) hr.hd) ⋯ T.b_dict PyProof.Rows.Boot.«dict» (A0 (Bm ["name"] [] [] ⋯ ⋯ ⋯ (An (K:=K) hu (pv 1)) (λ_ _ _ _=>(A7 (i:=0) (by with_unfolding_all (show(["name"]:List Str).Nodup;decide +kernel)) ⋯ (by eq_refl))) (Ay nofun) (λ_ _ _ _=>Cr) (λ_ _ _ _=>(Cb (A0 (pv 0) (A0 Oc A2))))) A2)))
  (A1 (Bx A13 ⋯ (An (K:=K) hu (Ar (A6 (K:=K) hu) (pv 0) A4 (by ac_rfl))) (A7 (i:=3) C6.nd ⋯ (by eq_refl))
  (A5 (Er hu (Ar (A6 (K:=K) hu) (pv 2) (Ar (A6 (K:=K) hu) (pv 3) A4 (by ac_rfl)) (by ac_rfl)) (Ar (A6 (K:=K) hu) (pv 3) A4 (by ac_rfl)) Ke ⋯)))
  (A1 (Bx A13 ⋯ (An (K:=K) hu (pv 1)) (A7 (i:=4) C6.nd ⋯ (by eq_refl))
  (A5 (Bx A13 ⋯ (An (K:=K) hu (pv 1)) (A7 (i:=5) C6.nd ⋯ (by eq_refl))
  (A5 (C1 (Ae (Qg (K:=K) hq) (pv 4) (Ar (A6 (K:=K) hu) (pv 2) (pv 5) (by ac_rfl)) ⋯) (A5 (Ic (Lw (K:=K) A4N PySem.F.slot_dict_update PySem.F.type_dict_update (mm Wx) (Ar (A6 (K:=K) hu) (pv 2) (pv 5) (by ac_rfl)) (A0 (Ar (A6 (K:=K) hu) (pv 2) (pv 4) (by ac_rfl)) A2)))) Ao)))))
  (A5 (Aj (pv 2))))))),?_⟩
 symm
 refine Ie hI λnv hN=>?_
 symm
 obtain⟨na,rfl,hS⟩:=hN.nm;refine Zv hS ?_;refine Ca (Js (xs:=ns.map V.str)) (λp i acc H1=>Same H H1/\∃ as:List Addr,as.length=i/\as.Nodup/\(∀ a∈as,H1 a=some (.dK [])/\H a=none)/\PrsK K H1 (Kp (ns.take i) as) acc) (λp H' hp e h=>⟨e,[],rfl,by simp,λ_ h=>(by cases h),by rfl⟩) (λp i acc H1 hP=>hP.1.seqT hS) (λp i x acc H1 hp hx hi hl ha hP=>?_) λp acc H1 hp ha hl hP=>?_
 . obtain ⟨e1,as,hal,had,haf,hpr⟩:=hP;rw[A07] at hx
   cases hz:ns[i]? with
   |none=>rw[hz] at hx;cases hx
   |some z=>
     rw[hz] at hx
     cases hx;have hin:i<ns.length:=(A01.mp hz).1
     symm
     refine X9 λb H2 hb2 e2 h2=>?_
     symm
     refine C0 (Ab (by simp)) λt H3 ht3 e3 h3=>?_;have h3p:H3 p=some (.lst acc):=e3 _ _ (e2 _ _ ha);refine Eu (by rw[A00];omega) hi hl h3p λH4 e4 h4=>?_;have hbp:b≠p:=Ne.symm (ne_of_none ha hb2);refine⟨by walk_at "sm",as++[b],by simp[hal],?_,λa ha'=>?_,?_⟩
     . rw[A29];refine⟨had,by simp,λa ha1 c hc e=>?_⟩;have:c=b:=by simpa using hc
       subst this;subst e;have:=(haf _ ha1).1;rw[hb2] at this
       cases this
     . rcases A0B.mp ha' with ha'|ha'
       . obtain⟨q1,q2⟩:=haf a ha';exact⟨e4 _ _ (ne_of q1 ha (by intro z;cases z)) (e3 _ _ (e2 _ _ q1)),q2⟩
       have:a=b:=by simpa using ha'
       subst this;exact⟨e4 _ _ hbp (e3 _ _ h2),e1.free hb2⟩
     have ht:ns.take (i+1)=ns.take i++[z]:=by rw[A0L,hz];rfl
     have hlen:(ns.take i).length=as.length:=by rw[A0J,hal];omega
     rw[ht,Vx hlen];have fz4:=e4.fzL h3p;exact PrsK.snoc (kv:=(Sum.inr z,V.ref b)) (fz4.seq (SqT.of h3)) (PrsK.fz ((e2.fz.trans e3.fz).trans fz4) hpr)
 obtain⟨e1,as,hal,had,haf,hpr⟩:=hP;rw[A00] at hal;rw[A00,A0Q] at hpr
 symm
 refine ab1 ha hpr (by unfold Kp;rw[List.length_map,List.length_zip];omega) λr H2 hr2 e2 h2=>?_;rw[Ld _ _ (Ku hn) (λ_ _ _ h=>by cases h),A2Y] at h2;have hr0:H r=none:=e1.free hr2
 have hra:r∉as:=λhm=>by
  have:=(haf r hm).1;rw[hr2] at this
  cases this
 have hT0:Tab H2 r ns as (λz y=>(z,y)∈ps.take 0):=⟨hal,had,hra,h2,λi z a hz ha'=>⟨[],e2 _ _ (haf a (List.mem_of_getElem? ha')).1,by simp,λ_ h=>(by cases h),λy=>by simp⟩⟩
 symm
 refine Vo (hI.hf_fz (by walk_at "fz")) λpv hP2=>?_
 refine ab5 hP2 (λi σ H3=>∃ x3,σ=[some v,some (.ref na),some (.ref r),x3,none,none]/\Same H H3/\Fz H2 H3/\Tab H3 r ns as (λz y=>(z,y)∈ps.take i))
  ⟨none,rfl,by walk_at "sm",.refl _,hT0⟩ (λi σ' H' hP=>hP.choose_spec.2.2.1) (λi pr w σ' H3 hpr hIp hP=>?_) (fun σ' H3 hP=>?_)
 . obtain⟨x3,rfl,e3,fz3,hT⟩:=hP;have hpm:=hW.mem pr (A03 hpr);obtain⟨j,a,hj,haj⟩:=hT.at hpm.1;obtain⟨ks,hk1,hk2,hk3,hk4⟩:=hT.row j _ a hj haj;have hkl:ks.length<=ns.length:=Ey hk2 hk3
   symm
   refine an3 hIp ?_;refine T5 hT hn hj haj ?_
   symm
   refine ax4 hIp ?_;refine Jc hk1 (by rw[Sc];omega) λH4 e4 h4=>?_;rw[Z0] at h4
   symm
   have ha0:H a=none:=(haf a (A03 haj)).2;refine⟨_,rfl,by walk_at "sm",fz3.trans (e4.fzD hk1),hT.put e4 hn hj haj h4 (Nf hk2) (λy hy=>?_) (λy=>?_) (λz hz hzx y=>?_)⟩
   . rcases mem_addK.mp hy with hy|rfl
     . exact hk3 y hy
     exact hpm.2
   . rw[mem_addK,hk4,A0L,hpr,A0B];constructor
     . rintro(h|rfl)
       . exact .inl h
       exact .inr (by simp)
     rintro(h|h)
     . exact .inl h
     right
     have:(pr.1,y)=pr:=by simpa using h
     rw[<- this]
   rw[A0L,hpr,A0B];constructor
   . exact .inl
   rintro(h|h)
   . exact h
   have:(z,y)=pr:=by simpa using h
   exact absurd (by rw[<- this]) hzx
 obtain⟨x3,rfl,e3,fz3,hT⟩:=hP;rw[A0Q] at hT;have hW0:War ns ps [] (λz y=>(z,y)∈ps):=⟨λz y h=>.one h,λz y h=>h,λm hm=>by cases hm⟩
 symm
 have hN3:Is K H3 (nmD ns) (.ref na):=hN.nm_fz e3.fz
 refine My hN3 (λi σ H4=>∃ x4 x5 R,σ=[some v,some (.ref na),some (.ref r),x3,x4,x5]/\Same H H4/\Fz H3 H4/\Tab H4 r ns as R/\War ns ps (ns.take i) R)
  ⟨_,_,_,rfl,e3,.refl _,hT,hW0⟩ (λi σ' H' hP=>?_) (λi mid σ' H4 hmid hP=>?_) (fun σ' H4 hP=>?_)
 . obtain⟨_,_,_,_,_,fz,_⟩:=hP;exact fz
 . obtain⟨x4,x5,R,rfl,e4,fz4,hT4,hR⟩:=hP;obtain⟨jm,am,hjm,ham⟩:=hT4.at (A03 hmid);have hN4:Is K H4 (nmD ns) (.ref na):=hN3.nm_fz fz4
   symm
   refine My hN4 (λj σ H5=>∃ x5,σ=[some v,some (.ref na),some (.ref r),x3,some (.str mid),x5]/\Same H H5/\Fz H4 H5/\Tab H5 r ns as (a92 R mid (ns.take j)))
    ⟨_,rfl,e4,.refl _,hT4.congr λz _ y=>⟨.inl,λh=>h.elim (λq=>q) λq=>absurd q.1 (by simp)⟩⟩ (λi σ' H' hP=>hP.choose_spec.2.2.1) (λj nm σ' H5 hnm hP=>?_) (fun σ' H5 hP=>?_)
   . obtain⟨x5',rfl,e5,fz5,hT5⟩:=hP;obtain⟨jn,an,hjn,han⟩:=hT5.at (A03 hnm);obtain⟨ks,hk1,hk2,hk3,hk4⟩:=hT5.row jn nm an hjn han;obtain⟨ms,hm1,hm2,hm3,hm4⟩:=hT5.row jm mid am hjm ham;have hkl:ks.length<=ns.length:=Ey hk2 hk3;have hml:ms.length<=ns.length:=Ey hm2 hm3;have htj:ns.take (j+1)=ns.take j++[nm]:=by rw[A0L,hnm];rfl
     have hin:mid∈ks↔R nm mid:=(hk4 mid).trans ⟨λh=>h.elim (λq=>q) λq=>q.2.1,.inl⟩;have hmid2:∀ y,y∈ms↔R mid y:=λy=>(hm4 y).trans ⟨λh=>h.elim (λq=>q) λq=>q.2.2,.inl⟩
     have hother:∀ z∈ns,z≠nm->∀ y,a92 R mid (ns.take j) z y↔a92 R mid (ns.take (j+1)) z y:=λz _ hz y=>by unfold a92;rw[htj,A0B,A16];simp[hz]
     symm
     refine T5 hT5 hn hjn han ?_;refine Z3 hk1 ?_
     symm
     refine Hy (λhc=>?_) (λhc=>?_)
     . have hRn:=hin.mp hc
       by_cases hne:nm=mid
       . subst hne
         have hji:jn=jm:=by obtain⟨p1,p2⟩:=A01.mp hjn;obtain⟨q1,q2⟩:=A01.mp hjm;exact(A22 hn).mp (p2.trans q2.symm)
         subst hji;rw[han] at ham
         cases ham
         symm
         refine T5 hT5 hn hjn han ?_;refine ah7 hk1 ?_
         symm
         refine T5 hT5 hn hjn han ?_
         symm
         refine aw5 hk1 ?_
         symm
         refine⟨_,rfl,e5,fz5,hT5.congr λz hz y=>?_⟩
         by_cases hzn:z=nm
         . subst hzn;unfold a92;constructor
           . exact λh=>.inl (h.elim (λq=>q) λq=>q.2.2)
           exact λh=>.inl (h.elim (λq=>q) λq=>q.2.2)
         exact hother z hz hzn y
       have hane:an≠am:=λq=>by subst q;obtain⟨p1,p2⟩:=A01.mp han;obtain⟨q1,q2⟩:=A01.mp ham;have:=(A22 hT5.nd).mp (p2.trans q2.symm);subst this;rw[hjn] at hjm;exact hne (A1I hjm)
       symm
       refine T5 hT5 hn hjn han ?_;refine ah7 hk1 ?_
       symm
       refine T5 hT5 hn hjm ham ?_
       symm
       refine ay0 hk1 hm1 hane ∅ λH6 e6 h6=>?_
       symm
       have ha0:H an=none:=(haf an (A03 han)).2;refine⟨_,rfl,by walk_at "sm",fz5.trans (e6.fzD hk1),hT5.put e6 hn hjn han h6 (Kh hk2) (λy hy=>?_) (λy=>?_) hother⟩
       . rcases mem_addAll.mp hy with hy|hy
         . exact hk3 y hy
         exact hm3 y hy
       rw[mem_addAll,hk4,hmid2];unfold a92;rw[htj,A0B,A16];constructor
       . rintro((h|h)|h)
         . exact .inl h
         . exact .inr ⟨.inl h.1,h.2⟩
         exact .inr ⟨.inr rfl,hRn,h⟩
       rintro(h|h)
       . exact .inl (.inl h)
       exact .inr h.2.2
     have hRn:¬ R nm mid:=λq=>hc (hin.mpr q)
     symm
     refine⟨_,rfl,e5,fz5,hT5.congr λz hz y=>?_⟩
     by_cases hzn:z=nm
     . subst hzn;unfold a92;constructor
       . exact λh=>.inl (h.elim (λq=>q) λq=>absurd q.2.1 hRn)
       exact λh=>.inl (h.elim (λq=>q) λq=>absurd q.2.1 hRn)
     exact hother z hz hzn y
   obtain⟨x5',rfl,e5,fz5,hT5⟩:=hP;rw[A0Q] at hT5;refine⟨_,_,_,rfl,e5,fz4.trans fz5,hT5.congr (R':=λz y=>R z y\/(R z mid/\R mid y)) λz hz y=>?_,?_⟩
   . unfold a92;simp[hz]
   have htj:ns.take (i+1)=ns.take i++[mid]:=by rw[A0L,hmid];rfl
   rw[htj];exact hR.step
 obtain⟨x4,x5,R,rfl,e4,fz4,hT4,hR⟩:=hP;rw[A0Q] at hR
 symm
 exact k r as H4 hr0 (λa ha'=>(haf a ha').2) e4 (hT4.congr λz _ y=>hR.done hW.mem z y)
def Kf (K:W.Frag):Sp:=λvs H Q _=>∃ v ns,vs=[v]/\Is K H (nmD ns) v/\ns.Nodup/\ns.length<=10/\∀ d H',H d=none->Same H H'->H' d=some (.dK (am2 ns))->Q (.ref d) H'
def Gs (K:W.Frag):Sp:=λvs H Q _=>∃ v bd ns ps,vs=[v,.ref bd]/\Is K H (hfD ns ps) v/\T7 ns ps/\ns.length<=10/\H bd=some (.dK (am2 ns))/\∀ d H',H d=none->Same H H'->H' d=some (.dK (ahK ns ps))->Q (.ref d) H'
def Ib (C:Addr)(K:W.Frag):Sp:=λvs H Q _=>∃ p v dx ns ps,vs=[.ref p,v]/\H p=some (.ins C dx [])/\Is K H (hfD ns ps) v/\T7 ns ps/\ns.length<=10 /\
 ∀ nv bd ad kd kvs H',H kd=none->ExtBut p H H'->WaysAt K C H' p dx nv bd ad kd ns ps kvs->Q .non H'
def B2 (C:Addr)(K:W.Frag):Sp:=λvs H Q _=>∃ p dx nv bd ad kd ns ps kvs q,vs=[.ref p,.int ((Dr ns q:Nat):Int)]/\WaysAt K C H p dx nv bd ad kd ns ps kvs/\T7 ns ps/\ns.length<=10 /\
 ∀ l H',H l=none->Same H H'->H' l=some (.lst ((frF (Ak ps) (ns.filter q)).map V.str))->Q (.ref l) H'
def C4 (C:Addr)(K:W.Frag)(n:Nat):Sp:=λvs H Q _=>∃ p dx nv bd ad kd ns ps kvs q,vs=[.ref p,.int ((Dr ns q:Nat):Int)]/\WaysAt K C H p dx nv bd ad kd ns ps kvs/\T7 ns ps/\ns.length<=10/\(ns.filter q).length<n /\
 ∀ kvs' H',ExtBut kd H H'->WaysAt K C H' p dx nv bd ad kd ns ps kvs'->Q (.int ((cnt (Ak ps) (ns.filter q):Nat):Int)) H'
def Fm (C:Addr)(K:W.Frag):Sp:=C4 C K 11
theorem Hq {C:Addr}{K:W.Frag}:∀ vs H Q E,¬ C4 C K 0 vs H Q E:=by rintro vs H Q E ⟨_,_,_,_,_,_,_,_,_,_,_,_,_,_,h,_⟩;exact absurd h (A56 _)
theorem aa4 {ns:List Str}(hn:ns.Nodup)(h:ns.length<=10){x:Str}(hx:x∈ns):Et ns x<=1024:=by obtain⟨j,hj⟩:=A59.mp hx;rw[Lx hn hj];exact(A3Z nofun (by have:=(A01.mp hj).1;omega):2 ^ j<=2 ^ 10)
theorem G8 {f g:Str}{v x:V}{r:List (Str×V)}(h:¬ g=f):M0 f v ((g,x) :: r)=(g,x) :: M0 f v r:=by
 show(if g=f then _ else _)=_
 rw[A0P h]
theorem fld2 (a b:V):M0 "bits" b [("names",a)]=([("names",a),("bits",b)]:List (Str×V)):=by rw[G8 (by decide +kernel)];rfl
theorem fld3 (a b c:V):M0 "ahead" c [("names",a),("bits",b)]=([("names",a),("bits",b),("ahead",c)]:List (Str×V)):=by rw[G8 (by decide +kernel),G8 (by decide +kernel)];rfl
theorem fld4 (a b c d:V):M0 "full" d [("names",a),("bits",b),("ahead",c)]=([("names",a),("bits",b),("ahead",c),("full",d)]:List (Str×V)):=by rw[G8 (by decide +kernel),G8 (by decide +kernel),G8 (by decide +kernel)];rfl
theorem fld5 (a b c d e:V):M0 "known" e [("names",a),("bits",b),("ahead",c),("full",d)]=([("names",a),("bits",b),("ahead",c),("full",d),("known",e)]:List (Str×V)):=by rw[G8 (by decide +kernel),G8 (by decide +kernel),G8 (by decide +kernel),G8 (by decide +kernel)];rfl
theorem Ws {f:Addr}{fd:FuncData}(F:Fun K "bits_of" "bits_of" Gf f fd)(T:Gi mg):FnOk P w K mg base CX0 1 f fd ["names"] (Kf K):=by
 refine F.ok Ga (λvs H Q E h=>?_) (λcdv A outer s H vs Q E hr h=>?_)
 . obtain⟨v,ns,rfl,_⟩:=h;rfl
 obtain⟨v,ns,rfl,hI,hn,h10,k⟩:=h;have hu:=Cj hr;have hq:=Cf hr
 with_reducible refine⟨_,(A1 (Ad (i:=1) Ga.nd ⋯ (by eq_refl) Oc)
  (A1 (Ad (i:=2) Ga.nd ⋯ (by eq_refl) A4)
  (A1 (Bx A13 ⋯ (An (K:=K) hu (pv 0)) (A7 (i:=3) Ga.nd ⋯ (by eq_refl))
  (A1 (Er hu (pv 1) (pv 3) (pv 2) ⋯)
  (A5 (Ad (i:=2) Ga.nd ⋯ (by eq_refl) (Ai Fp (pv 2) A4)))))
  (A5 (Aj (pv 1)))))),?_⟩
 symm
 refine X9 λd H1 hd1 e1 h1=>?_
 symm
 refine My (hI.nm_fz e1.fz) (λi σ H2=>∃ x3,σ=[some v,some (.ref d),some (.int ((2 ^ i:Nat):Int)),x3]/\Same H H2/\Fz H1 H2/\H2 d=some (.dK ((ns.take i).map λx=>((Sum.inr x:Key),V.int ((Et ns x:Nat):Int)))))
  ⟨_,rfl,e1,.refl _,h1⟩ (λi σ' H' hP=>hP.choose_spec.2.2.1) (λi z σ' H2 hz hP=>?_) (fun σ' H2 hP=>?_)
 . obtain⟨x3,rfl,e2,fz2,h2⟩:=hP;have hin:i<ns.length:=(A01.mp hz).1;have hlt:2 ^ i<=2 ^ 10:=A3Z nofun ∅
   have hno:z∉ns.take i:=λhm=>by
    obtain⟨j,hj⟩:=A59.mp hm;rw[List.getElem?_take] at hj
    split at hj
    . rename_i hji;have a1:=A01.mp hj;have a2:=A01.mp hz;have:=(A22 hn).mp (a1.2.trans a2.2.symm);omega
    cases hj
   symm
   refine Jc h2 (by rw[A00,A0J];omega) λH3 e3 h3=>?_;rw[Jd _ (Hm hno)] at h3
   symm
   refine⟨some (.str z),?_,e2.off hd1 e3,fz2.trans (e3.fzD h2),?_⟩
   . have:((2 ^ i:Nat):Int)*2=((2 ^ (i+1):Nat):Int):=by rw[Nat.pow_succ];omega
     rw[this];rfl
   rw[h3,A0L,hz];have:((2 ^ i:Nat):Int)=((Et ns z:Nat):Int):=by rw[Lx hn hz]
   rw[this];simp
 obtain⟨x3,rfl,e2,fz2,h2⟩:=hP;rw[A0Q] at h2
 symm
 exact k d H2 hd1 e2 h2
theorem Pe {f:Addr}{fd:FuncData}(F:Fun K "bits_ahead" "bits_ahead" Di f fd)(T:Gi mg)(He:Fnd P w K mg base 1 "behind_each" ["half"] (G7 K)):FnOk P w K mg base CX0 2 f fd ["half","bits"] (Gs K):=by
 refine F.ok Ew (λvs H Q E h=>?_) (λcdv A outer s H vs Q E hr h=>?_)
 . obtain⟨v,bd,ns,ps,rfl,_⟩:=h;rfl
 obtain⟨v,bd,ns,ps,rfl,hI,hW,h10,hB,k⟩:=h;have hu:=Cj hr;have hq:=Cf hr;have hn:=hW.nd
 with_reducible refine⟨_,(A1 (Ad (i:=2) Ew.nd ⋯ (by with_unfolding_all exact A3B rfl) (Az He (hr.mono nofun) ⋯ (A0 (pv 0) A2)))
  (A1 (Ad (i:=3) Ew.nd ⋯ (by eq_refl) Oc)
  (A1 (Bx A13 ⋯ (An (K:=K) hu (Ar (A6 (K:=K) hu) (pv 0) A4 (by ac_rfl))) (A7 (i:=4) Ew.nd ⋯ (by with_unfolding_all exact A3B rfl))
  (A5 (Er hu (pv 3) (pv 4) (Aa (Ih (K:=K) ⋯) ⋯ T.b_sum PyProof.Rows.Boot.«sum» (A0 (Bm ["one"] ["bits","name","reach"] [1,4,2] ⋯ ⋯ ⋯ (An (K:=K) hu (Ar (A6 (K:=K) hu) (pv 0) A4 (by ac_rfl))) (λ_ _ _ _=>(A7 (i:=0) (by with_unfolding_all (show(["one","bits","name","reach"]:List Str).Nodup;decide +kernel)) ⋯ (by eq_refl))) (Ay nofun) (λ_ _ _ _=>(Es (Ae (Qg (K:=K) hq) (pv 2) (Ar (A6 (K:=K) hu) (pv 3) (pv 0) (by ac_rfl)) ⋯))) (λ_ _ _ _=>(Ar (A6 (K:=K) hu) (pv 1) (pv 0) (by ac_rfl)))) A2)) ⋯)))
  (A5 (Aj (pv 3)))))),?_⟩
 symm
 refine⟨v,ns,ps,rfl,hI,hW,λr as H1 hr1 ha1 e1 hT=>?_⟩
 symm
 refine X9 λd H2 hd2 e2 h2=>?_
 symm
 have e12:=e1.trans e2;refine Ie (hI.hf_fz e12.fz) λnv hN=>?_
 refine My hN (λi σ H3=>∃ x4,σ=[some v,some (.ref bd),some (.ref r),some (.ref d),x4]/\Same H1 H3/\Fz H2 H3/\H3 d=some (.dK ((ns.take i).map λx=>((Sum.inr x:Key),V.int ((Dr ns (λy=>Ak ps y x):Nat):Int)))))
  ⟨_,rfl,e2,.refl _,h2⟩ (λi σ' H' hP=>hP.choose_spec.2.2.1) (λi z σ' H3 hz hP=>?_) (fun σ' H3 hP=>?_)
 . obtain⟨x4,rfl,e3,fz3,h3⟩:=hP;have hin:i<ns.length:=(A01.mp hz).1
   have hno:z∉ns.take i:=λhm=>by
    obtain⟨j,hj⟩:=A59.mp hm;rw[List.getElem?_take] at hj
    split at hj
    . rename_i hji;have a1:=A01.mp hj;have a2:=A01.mp hz;have:=(A22 hn).mp (a1.2.trans a2.2.symm);omega
    cases hj
   symm
   refine Ie (hI.hf_fz (e12.fz.trans fz3)) λnv3 hN3=>?_;refine Oe hN3 (λy=>Ak ps y z) (λy=>PyData.int ((Et ns y:Nat):Int)) (λ_=>rfl) ∅ (λj y H4 R R' hy e4 hR hR'=>?_) (λq ys H4 hq4 e4 h4 hL4=>?_)
   . have hT4:=hT.same (e3.trans e4);obtain⟨jy,ay,hjy,hay⟩:=hT4.at (A03 hy);obtain⟨ks,hk1,hk2,hk3,hk4⟩:=hT4.row jy y ay hjy hay
     symm
     refine T5 hT4 hn hjy hay ?_;refine Z3 hk1 ?_;rw[Ut (hk4 z)]
     symm
     refine am6 (λhb=>?_) (λhb=>?_)
     . symm
       refine i_ixD (e4 _ _ (e3 _ _ (e1 _ _ hB))) (K9 (A03 hy)) ?_;exact hR hb _ _ (.refl _) rfl
     exact hR' hb _ (.refl _)
   have hm:(ns.filter λy=>Ak ps y z).map (λy=>PyData.int ((Et ns y:Nat):Int))=((ns.filter λy=>Ak ps y z).map λy=>((Et ns y:Nat):Int)).map PyData.int:=by rw[A1P];rfl
   rw[hm] at hL4;have hys:=IsL.int_eq hL4;subst hys
   symm
   refine Z5 (.inl (SqL.of h4)) (λn hn'=>?_) (by rw[A00];exact A0C (A1Q _ _) ∅) ?_
   . obtain⟨y,hy,rfl⟩:=A0V.mp hn';have hyn:=(A15.mp hy).1;have:=aa4 hn h10 hyn;omega
   rw[Ip,Kw _ hn]
   symm
   have h4d:H4 d=some _:=e4 _ _ h3;refine Jc h4d (by rw[A00,A0J];omega) λH5 e5 h5=>?_;rw[Jd _ (Hm hno)] at h5
   symm
   refine⟨_,rfl,(e3.trans e4).off hd2 e5,(fz3.trans e4.fz).trans (e5.fzD h4d),?_⟩;rw[h5,A0L,hz];simp
 obtain⟨x4,rfl,e3,fz3,h3⟩:=hP;rw[A0Q] at h3
 symm
 exact k d H3 (e1.free hd2) (e1.trans e3) h3
theorem R6 {f:Addr}{fd:FuncData}(F:Fun K "__init__" "Ways.__init__" Ef f fd)(T:Gi mg){C_Ways:Addr}(k_Ways:Fx K C_Ways)(M4:Fnd P w K mg base 1 "bits_of" ["names"] (Kf K))(I0:Fnd P w K mg base 2 "bits_ahead" ["half","bits"] (Gs K)):FnOk P w K mg base CX0 3 f fd ["self","half"] (Ib C_Ways K):=by
 refine F.ok Qi (λvs H Q E h=>?_) (λcdv A outer s H vs Q E hr h=>?_)
 . obtain⟨p,v,dx,ns,ps,rfl,_⟩:=h;rfl
 obtain⟨p,v,dx,ns,ps,rfl,hp,hI,hW,h10,k⟩:=h;have hu:=Cj hr;have hq:=Cf hr;have hn:=hW.nd
 with_reducible refine⟨_,(A1 (Xh (C:=C_Ways) (pv 0) (Ar (A6 (K:=K) hu) (pv 1) A4 (by ac_rfl)) k_Ways.cl k_Ways.n_names ⋯)
  (A1 (Xh (C:=C_Ways) (pv 0) (Az M4 (hr.mono nofun) ⋯ (A0 (Ar (A6 (K:=K) hu) (pv 1) A4 (by ac_rfl)) A2)) k_Ways.cl k_Ways.n_bits ⋯)
  (A1 (Xh (C:=C_Ways) (pv 0) (Az I0 (hr.mono nofun) ⋯ (A0 (pv 1) (A0 (Kl (C:=C_Ways) (pv 0) k_Ways.cl k_Ways.n_bits ⋯) A2))) k_Ways.cl k_Ways.n_ahead ⋯)
  (A1 (Xh (C:=C_Ways) (pv 0) (Aa (Zj ⋯) ⋯ T.b_sum PyProof.Rows.Boot.«sum» (A0 (Tb (K:=K) A4N PySem.F.slot_dict_values PySem.F.type_dict_values (mm Xw) (Kl (C:=C_Ways) (pv 0) k_Ways.cl k_Ways.n_bits ⋯)) A2)) k_Ways.cl k_Ways.n_full ⋯)
  (A5 (Xh (C:=C_Ways) (pv 0) (Y4 (Iw A4 A4 Sd) ⋯ ⋯ nofun nofun) k_Ways.cl k_Ways.n_known ⋯)))))),?_⟩
 symm
 refine Ie hI λnv hN=>?_
 symm
 refine ax1 hp nofun λH1 e1 h1=>?_;replace h1:H1 p=some (.ins C_Ways dx [("names",nv)]):=h1;have fz1:=e1.fzI hp
 symm
 refine Ie (hI.hf_fz fz1) λnv1 hN1=>?_
 symm
 refine⟨nv1,ns,rfl,hN1,hn,h10,λbd H2 hb2 e2 h2=>?_⟩
 symm
 refine ax1 (e2 _ _ h1) (by show 1<1000;decide) λH3 e3 h3=>?_;rw[fld2] at h3;have fz3:=e3.fzI (e2 _ _ h1);have hbp:bd≠p:=(ne_of_none h1 hb2).symm;have h3b:H3 bd=some (.dK (am2 ns)):=e3 _ _ hbp h2
 symm
 refine Wq h3 (by rfl) ?_
 symm
 refine⟨v,bd,ns,ps,rfl,hI.hf_fz ((fz1.trans e2.fz).trans fz3),hW,h10,h3b,λad H4 ha4 e4 h4=>?_⟩
 symm
 refine ax1 (e4 _ _ h3) (by show 2<1000;decide) λH5 e5 h5=>?_;rw[fld3] at h5;have fz5:=e5.fzI (e4 _ _ h3);have hap:ad≠p:=(ne_of_none h3 ha4).symm;have h5a:H5 ad=some (.dK (ahK ns ps)):=e5 _ _ hap h4;have h5b:H5 bd=some (.dK (am2 ns)):=e5 _ _ hbp (e4 _ _ h3b)
 symm
 refine Wq h5 (by rfl) ?_
 symm
 refine ah7 h5b ?_
 symm
 refine at3 h5b λv6 H6 hv6 e6 h6=>?_
 symm
 have hbs:∀ n∈ns.map (λx=>((Et ns x:Nat):Int)),0<=n/\n<=1000000000000:=λn hn'=>by obtain⟨y,hy,rfl⟩:=A0V.mp hn';have:=aa4 hn h10 hy;omega
 refine as1 h6 (e6 _ _ h5b) (ns:=ns.map λx=>((Et ns x:Nat):Int)) (by unfold am2;rw[List.map_map,List.map_map];rfl) hbs (by rw[List.length_map];omega) ?_
 have hsum:(ns.map (Et ns)).sum=Dr ns (λ_=>true):=by have:=Kw (λ_=>true) hn;rwa[show ns.filter (λ_=>true)=ns by simp] at this
 rw[Ip,hsum]
 symm
 have h6p:=e6 _ _ h5;refine ax1 h6p (by show 3<1000;decide) λH7 e7 h7=>?_;rw[fld4] at h7;have fz7:=e7.fzI h6p
 symm
 refine aa1 λkd H8 hk8 e8 h8=>?_
 symm
 refine Xr [(Sum.inl 0,V.int 1)] h8 rfl nofun λH9 e9 h9=>?_
 symm
 have hkp:p≠kd:=ne_of_none h7 hk8;have h9p:=e9 _ _ hkp (e8 _ _ h7);refine ax1 h9p (by show 4<1000;decide) λH10 e10 h10'=>?_;rw[fld5] at h10';have fz10:=e10.fzI h9p
 symm
 have hpb:bd≠p:=hbp;have h7b:=e7 _ _ hbp (e6 _ _ h5b);have h7a:=e7 _ _ hap (e6 _ _ h5a);have hbk:bd≠kd:=ne_of_none h7b hk8;have hak:ad≠kd:=ne_of_none h7a hk8;have hE:ExtBut p H H7:=((((e1.same e2).trans e3).same e4).trans e5 |>.same e6).trans e7
 have hkH:H kd=none:=by
  cases c:H kd with
  |none=>rfl
  |some o=>rw[hE _ _ hkp.symm c] at hk8;cases hk8
 refine k nv bd ad kd [(Sum.inl 0,V.int 1)] H10 hkH ?_ ⟨h10',?_,?_,?_,?_,hbk,hak,Knw.new ns ps⟩
 . exact((hE.same e8).off hkH e9).trans e10
 . exact hN.nm_fz (((((((fz1.trans e2.fz).trans fz3).trans e4.fz).trans fz5).trans e6.fz).trans fz7).trans ((e8.fz.trans (e9.fzD h8)).trans fz10))
 . exact e10 _ _ hbp (e9 _ _ hbk (e8 _ _ h7b))
 . exact e10 _ _ hap (e9 _ _ hak (e8 _ _ h7a))
 exact e10 _ _ hkp.symm h9
theorem Jj {f:Addr}{fd:FuncData}(F:Fun K "free_names" "Ways.free_names" B8 f fd)(T:Gi mg){C_Ways:Addr}(k_Ways:Fx K C_Ways):FnOk P w K mg base CX0 1 f fd ["self","left"] (B2 C_Ways K):=by
 refine F.ok Jh (λvs H Q E h=>?_) (λcdv A outer s H vs Q E hr h=>?_)
 . obtain⟨p,dx,nv,bd,ad,kd,ns,ps,kvs,q,rfl,_⟩:=h;rfl
 obtain⟨p,dx,nv,bd,ad,kd,ns,ps,kvs,q,rfl,hA,hW,h10,k⟩:=h;have hu:=Cj hr;have hq:=Cf hr;have hn:=hW.nd
 with_reducible refine⟨_,(A5 (Aj (Bm ["name"] ["self","left"] [0,1] ⋯ ⋯ ⋯ (An (K:=K) hu (Kl (C:=C_Ways) (pv 0) k_Ways.cl k_Ways.n_names ⋯)) (λ_ _ _ _=>(A7 (i:=0) (by with_unfolding_all (show(["name","self","left"]:List Str).Nodup;decide +kernel)) ⋯ (by eq_refl))) (Ay nofun) (λ_ _ _ _=>(Es (PW.pt (Zq (aa8 (Ai a90 (Ar (A6 (K:=K) hu) (Kl (C:=C_Ways) (pv 1) k_Ways.cl k_Ways.n_bits ⋯) (pv 0) (by ac_rfl)) (pv 2))) (Tn (Ui (aa8 (Ai a90 (Ar (A6 (K:=K) hu) (Kl (C:=C_Ways) (pv 1) k_Ways.cl k_Ways.n_ahead ⋯) (pv 0) (by ac_rfl)) (pv 2))))))))) (λ_ _ _ _=>(pv 0))))),?_⟩
 symm
 refine Wq hA.ob (by rfl) ?_;refine Oe hA.nm (λx=>q x && !(ns.any λy=>Ak ps y x&&q y)) PyData.str (λ_=>rfl) ∅ (λj x H1 R R' hx e1 hR hR'=>?_) (λl ys H1 hl1 e1 h1 hL1=>?_)
 . have hA1:=hA.same e1;have hxn:=A03 hx
   symm
   refine Wq hA1.ob (by rfl) ?_
   symm
   refine i_ixD hA1.bt (K9 hxn) ?_
   symm
   rw[af3 hn hxn];refine am6 (λhb=>?_) (λhb=>?_)
   . symm
     refine Wq hA1.ob (by rfl) ?_
     symm
     refine i_ixD hA1.ah (K9 hxn) ?_
     symm
     rw[Xk]
     symm
     refine Y2 (λhc=>?_) (λhc=>?_)
     . symm
       exact hR (by rw[hb,hc];rfl) _ _ (.refl _) Hi
     exact hR' (by rw[hb,hc];rfl) _ (.refl _)
   exact hR' (by rw[hb];rfl) _ (.refl _)
 rw[Z7] at hL1;have:=IsL.str_eq hL1;subst this
 symm
 exact k l H1 hl1 e1 h1
theorem Kn {f:Addr}{fd:FuncData}(F:Fun K "ways_on" "Ways.ways_on" Bp f fd)(T:Gi mg){C_Ways:Addr}(k_Ways:Fx K C_Ways)(Ap:Mtd P w K mg base 1 C_Ways "free_names" ["self","left"] (B2 C_Ways K))(n:Nat)(Cu:Mtd P w K mg base (2+n) C_Ways "ways_on" ["self","left"] (C4 C_Ways K n)):FnOk P w K mg base CX0 (2+n+1) f fd ["self","left"] (C4 C_Ways K (n+1)):=by
 refine F.ok L6 (λvs H Q E h=>?_) (λcdv A outer s H vs Q E hr h=>?_)
 . obtain⟨p,dx,nv,bd,ad,kd,ns,ps,kvs,q,rfl,_⟩:=h;rfl
 obtain⟨p,dx,nv,bd,ad,kd,ns,ps,kvs,q,rfl,hA,hW,h10,hlt,k⟩:=h;have hu:=Cj hr;have hq:=Cf hr;have hn:=hW.nd;have hkl:=hA.ok.len h10;have hLn:(ns.filter q).Nodup:=A5J A45 hn;have hLl:(ns.filter q).length<=ns.length:=A1Q _ _
 with_reducible refine⟨_,(A1 (C1 (Ae (Gc (K:=K) hq) (pv 1) (Kl (C:=C_Ways) (pv 0) k_Ways.cl k_Ways.n_known ⋯) ⋯) (A5 (Er hu (Kl (C:=C_Ways) (pv 0) k_Ways.cl k_Ways.n_known ⋯) (pv 1) (Aa (Ih (K:=K) ⋯) ⋯ T.b_sum PyProof.Rows.Boot.«sum» (A0 (Bm ["name"] ["self","left"] [0,1] ⋯ ⋯ ⋯ (An (K:=K) hu (a75 (C:=C_Ways) (pv 0) k_Ways.cl Ap (hr.mono ∅) (A0 (pv 1) A2))) (λ_ _ _ _=>(A7 (i:=0) (by with_unfolding_all (show(["name","self","left"]:List Str).Nodup;decide +kernel)) ⋯ (by eq_refl))) (Ay nofun) (λ_ _ _ _=>Cr) (λ_ _ _ _=>(a75 (C:=C_Ways) (pv 1) k_Ways.cl Cu (hr.mono ∅) (A0 (Ai Fl (pv 2) (Ar (A6 (K:=K) hu) (Kl (C:=C_Ways) (pv 1) k_Ways.cl k_Ways.n_bits ⋯) (pv 0) (by ac_rfl))) A2)))) A2)) ⋯)) Ao)
  (A5 (Aj (Ar (A6 (K:=K) hu) (Kl (C:=C_Ways) (pv 0) k_Ways.cl k_Ways.n_known ⋯) (pv 1) (by ac_rfl))))),?_⟩
 symm
 refine Wq hA.ob (by rfl) ?_;refine ae1 hA.kn ?_
 symm
 cases hv:Dg kvs (Sum.inl ((Dr ns q:Nat):Int):Key) with
 |some v=>
   have:=hA.ok.get hv;subst this;refine iteF ?_
   symm
   refine Wq hA.ob (by rfl) ?_
   symm
   refine ad1 hA.kn hv ?_;exact k kvs H .refl hA
 |none=>
   have hne:ns.filter q≠[]:=λe=>by
    have h0:Dr ns q=0:=binM_zero.mpr λx hx=>by
     cases c:q x with
     |false=>rfl
     |true=>
       have:x∈ns.filter q:=A15.mpr ⟨hx,c⟩;rw[e] at this
       cases this
    rw[h0] at hv;rw[show((0:Nat):Int)=0 from rfl,hA.ok.2.2] at hv
    cases hv
   refine iteT ?_
   symm
   refine ay8 hA.ob (by rfl) ?_
   symm
   refine⟨p,dx,nv,bd,ad,kd,ns,ps,kvs,q,rfl,hA,hW,h10,λl H1 hl1 e1 h1=>?_⟩;have hA1:=hA.same e1;refine G3 (SqL.of h1) ?_
   refine Ca (At (xs:=(frF (Ak ps) (ns.filter q)).map V.str)) (λpl i acc H2=>∃ kvs2,ExtBut kd H1 H2/\WaysAt K C_Ways H2 p dx nv bd ad kd ns ps kvs2/\acc=((frF (Ak ps) (ns.filter q)).take i).map λx=>V.int ((cnt (Ak ps) (B0 (ns.filter q) x):Nat):Int))
    (λpl H' hp' e' h'=>⟨kvs,e'.but,hA1.same e',rfl⟩) (λpl i acc H2 hP=>?_) (λpl i x acc H2 hpl hx hi hl hpa hP=>?_) (λpl acc H2 hpl hpa hal hP=>?_)
   . obtain⟨kvs2,e2,_,_⟩:=hP;exact SqL.of (e2 _ _ (ne_of h1 hA1.kn (by intro z;cases z)) h1)
   . obtain ⟨kvs2,e2,hA2,rfl⟩:=hP;rw[A07] at hx
     cases hz:(frF (Ak ps) (ns.filter q))[i]? with
     |none=>rw[hz] at hx;cases hx
     |some z=>
       rw[hz] at hx
       cases hx;have hzf:=A03 hz;have hzL:=(mem_frF.mp hzf).1;have hzn:=(A15.mp hzL).1;have hqz:=(A15.mp hzL).2;have hsub:=Tk hn hzn hqz;have hlen:=Bz hLn hzL
       symm
       refine ay8 hA2.ob (by rfl) ?_
       symm
       refine Wq hA2.ob (by rfl) ?_
       symm
       refine i_ixD hA2.bt (K9 hzn) ?_
       symm
       have hval:((Dr ns q:Nat):Int)-((Et ns z:Nat):Int)=((Dr ns (λy=>q y && !decide (y=z)):Nat):Int):=by omega
       rw[hval];refine⟨p,dx,nv,bd,ad,kd,ns,ps,kvs2,_,rfl,hA2,hW,h10,by rw[Db];omega,λkvs3 H3 e3 hA3=>?_⟩;rw[Db];have hplk:pl≠kd:=ne_of hpa hA2.kn (by intro z;cases z);have h3p:=e3 _ _ hplk hpa;refine Eu (by rw[A00];exact A0C (A1Q _ _) ∅) hi hl h3p λH4 e4 h4=>?_;refine⟨kvs3,?_,hA3.list e4 h3p,?_⟩
       . exact(e2.trans e3).off hpl e4
       rw[A0L,hz];simp
   obtain⟨kvs2,e2,hA2,rfl⟩:=hP;rw[A00,A0Q] at hpa;have hmm:(frF (Ak ps) (ns.filter q)).map (λx=>V.int ((cnt (Ak ps) (B0 (ns.filter q) x):Nat):Int))=((frF (Ak ps) (ns.filter q)).map λx=>((cnt (Ak ps) (B0 (ns.filter q) x):Nat):Int)).map V.int:=by rw[A1P];rfl
   rw[hmm] at hpa
   symm
   refine Z5 (.inl (SqL.of hpa)) (λn' hn'=>?_) (by rw[A00];exact A0C (A1Q _ _) ∅) ?_
   . obtain⟨y,hy,rfl⟩:=A0V.mp hn';have:=Bz hLn (mem_frF.mp hy).1;have:=Z9 (b:=Ak ps) (Br hLn y) ∅;omega
   rw[Ip,<- Ln hLn hne]
   symm
   refine Wq hA2.ob (by rfl) ?_
   symm
   have hkl2:=hA2.ok.len h10;refine ai1 hA2.kn ∅ λH3 e3 h3=>?_;have hA3:=hA2.put e3 h3 (hA2.ok.put q)
   symm
   refine Wq hA3.ob (by rfl) ?_
   symm
   refine ad1 hA3.kn (by rw[Ky,A0Y rfl]) ?_;exact k _ H3 (((e1.but (d:=kd)).trans e2).trans e3) hA3
theorem Lf {f:Addr}{fd:FuncData}(F:Fun K "ways_on" "Ways.ways_on" Bp f fd)(T:Gi mg){C_Ways:Addr}(k_Ways:Fx K C_Ways)(Ap:Mtd P w K mg base 1 C_Ways "free_names" ["self","left"] (B2 C_Ways K))(hm:ay6 K C_Ways "ways_on" f)(hb:Binds K fd ["self","left"] []):FnOk P w K mg base CX0 13 f fd ["self","left"] (Fm C_Ways K):=by
 have h:∀ n:Nat,FnOk P w K mg base CX0 (2+n) f fd ["self","left"] (C4 C_Ways K n):=λn=>by
  induction n with
  |zero=>exact FnOk.void Hq
  |succ n ih=>exact Kn F T k_Ways Ap n ⟨f,fd,ih,hm,hb⟩
 exact h 11
def Du (C:Addr)(K:W.Frag)(n:Nat):Sp:=λvs H Q _=>∃ p dx nv bd ad kd ns ps kvs q,vs=[.ref p,.int ((Dr ns q:Nat):Int)]/\WaysAt K C H p dx nv bd ad kd ns ps kvs/\HalfW ns ps/\ns.length<=10/\cnt (Ak ps) (ns.filter q)<=100000/\(ns.filter q).length<n /\
 ∀ l ys H',H l=none->Same H H'->H' l=some (.lst ys)->Tps H' (ext (Ak ps) (ns.filter q).length (ns.filter q)) ys->Q (.ref l) H'
def Hr (C:Addr)(K:W.Frag):Sp:=Du C K 11
theorem Jg {C:Addr}{K:W.Frag}:∀ vs H Q E,¬ Du C K 0 vs H Q E:=by rintro vs H Q E ⟨_,_,_,_,_,_,_,_,_,_,_,_,_,_,_,h,_⟩;exact absurd h (A56 _)
def Fa (K:W.Frag):Sp:=λvs H Q _=>∃ v ns ps,vs=[v]/\Is K H (hfD ns ps) v/\HalfW ns ps/\ns.length<=10/\cnt (Ak ps) ns<=720 /\
 ∀ l ys H',H l=none->Same H H'->H' l=some (.lst ys)->Tps H' (ext (Ak ps) ns.length ns) ys->Q (.ref l) H'
theorem Nz {f:Addr}{fd:FuncData}(F:Fun K "orders_on" "orders_on" Dc f fd)(T:Gi mg){C_Ways:Addr}(k_Ways:Fx K C_Ways)(Ap:Mtd P w K mg base 1 C_Ways "free_names" ["self","left"] (B2 C_Ways K))(n:Nat)(Fk:Fnd P w K mg base (2+n) "orders_on" ["ways","left"] (Du C_Ways K n)):FnOk P w K mg base CX0 (2+n+1) f fd ["ways","left"] (Du C_Ways K (n+1)):=by
 refine F.ok Hl (λvs H Q E h=>?_) (λcdv A outer s H vs Q E hr h=>?_)
 . obtain⟨p,dx,nv,bd,ad,kd,ns,ps,kvs,q,rfl,_⟩:=h;rfl
 obtain⟨p,dx,nv,bd,ad,kd,ns,ps,kvs,q0,rfl,hA,hW,h10,hcn,hlt,k⟩:=h;have hu:=Cj hr;have hq:=Cf hr;have hn0:=hW.nd;have hLn:(ns.filter q0).Nodup:=hn0.filter _
 with_reducible refine⟨_,(A1 (C1 (Ae (Bi (K:=K) hq) (pv 1) A4 (Al _)) (A5 (Aj (Co (A0 (Cb A2) A2)))) Ao)
  (A1 (Ad (i:=2) Hl.nd ⋯ (by eq_refl) (Co A2))
  (A1 (Bx A13 ⋯ (An (K:=K) hu (a75 (C:=C_Ways) (pv 0) k_Ways.cl Ap (hr.mono ∅) (A0 (pv 1) A2))) (A7 (i:=3) Hl.nd ⋯ (by with_unfolding_all exact A3B rfl))
  (A5 (Ic (Lw (K:=K) A1W A4H A4I (mm Lp) (pv 2) (A0 (Bm ["rest"] ["name"] [3] ⋯ ⋯ ⋯ (An (K:=K) hu (Az Fk (hr.mono ∅) ⋯ (A0 (pv 0) (A0 (Ai Fl (pv 1) (Ar (A6 (K:=K) hu) (Kl (C:=C_Ways) (pv 0) k_Ways.cl k_Ways.n_bits ⋯) (pv 3) (by ac_rfl))) A2)))) (λ_ _ _ _=>(A7 (i:=0) (by with_unfolding_all (show(["rest","name"]:List Str).Nodup;decide +kernel)) ⋯ (by eq_refl))) (Ay nofun) (λ_ _ _ _=>Cr) (λ_ _ _ _=>(Ai (Ah (K:=K)) (Cb (A0 (pv 1) A2)) (pv 0)))) A2)))))
  (A5 (Aj (pv 2)))))),?_⟩
 symm
 refine Hy (λhz=>?_) (λhz=>?_)
 . have hb0:Dr ns q0=0:=by injection hz with hz;omega
   have hnil:ns.filter q0=[]:=List.filter_eq_nil_iff.mpr λx hx=>by rw[binM_zero.mp hb0 x hx];decide
   symm
   refine C0 nofun λt1 H1 ht1 e1 h1=>?_
   symm
   refine Cp (Ab (by simp)) λl2 H2 hl2 e2 h2=>?_;refine k l2 _ H2 (e1.free hl2) (e1.trans e2) h2 ?_;rw[hnil];exact .one (e2 _ _ h1)
 have hne:ns.filter q0≠[]:=λe=>hz (by
  have:Dr ns q0=0:=binM_zero.mpr λx hx=>by
   cases c:q0 x with
   |false=>rfl
   |true=>
     have:x∈ns.filter q0:=A15.mpr ⟨hx,c⟩;rw[e] at this
     cases this
  rw[this];rfl)
 symm
 refine Cp nofun λf1 H1 hf1 e1 h1=>?_;have hA1:=hA.same e1
 symm
 refine ay8 hA1.ob (by rfl) ?_
 symm
 refine⟨p,dx,nv,bd,ad,kd,ns,ps,kvs,q0,rfl,hA1,hW,h10,λl2 H2 hl2 e2 h2=>?_⟩;refine G3 (SqL.of h2) ?_;have hfl:f1≠l2:=ne_of_none h1 hl2
 refine Ep (At (xs:=(frF (Ak ps) (ns.filter q0)).map V.str)) (λm σ H3=>∃ x3 zs,σ=[some (.ref p),some (.int ((Dr ns q0:Nat):Int)),some (.ref f1),x3]/\Same H H3/\H3 l2=some (.lst ((frF (Ak ps) (ns.filter q0)).map V.str))/\H3 f1=some (.lst zs)/\Tps H3 (Yi (Ak ps) (ns.filter q0) ((frF (Ak ps) (ns.filter q0)).take m)) zs)
  ⟨_,[],rfl,e1.trans e2,h2,e2 _ _ h1,.nil⟩ (λm σ' H' hP=>?_) (λm x σ' H3 hx hm hP=>?_) (fun σ' H3 hP=>?_)
 . obtain⟨_,_,_,_,h,_⟩:=hP;exact SqL.of h
 . obtain ⟨x3,zs,rfl,e3,h3l,h3f,hL3⟩:=hP;rw[A07] at hx
   cases hz':(frF (Ak ps) (ns.filter q0))[m]? with
   |none=>rw[hz'] at hx;cases hx
   |some z=>
     rw[hz'] at hx
     cases hx;have hzf:=A03 hz';have hzL:=(mem_frF.mp hzf).1;have hzn:=(A15.mp hzL).1;have hqz:=(A15.mp hzL).2;have hsub:=Tk hn0 hzn hqz;have hlen:=Bz hLn hzL;have hcl:=Ti hLn hzf;have hA3:=hA.same e3;have hval:((Dr ns q0:Nat):Int)-((Et ns z:Nat):Int)=((Dr ns (λy=>q0 y && !decide (y=z)):Nat):Int):=by omega
     symm
     refine Wq hA3.ob (by rfl) ?_
     symm
     refine i_ixD hA3.bt (K9 hzn) ?_
     symm
     rw[hval];refine⟨p,dx,nv,bd,ad,kd,ns,ps,kvs,_,rfl,hA3,hW,h10,by rw[Db];omega,by rw[Db];omega,λl4 ys4 H4 hl4 e4 h4 hL4=>?_⟩;rw[Db] at hL4;have hl1:(B0 (ns.filter q0) z).length=(ns.filter q0).length-1:=by omega
     rw[hl1] at hL4;have hyl4:ys4.length=(ext (Ak ps) ((ns.filter q0).length-1) (B0 (ns.filter q0) z)).length:=hL4.len.symm
     have hyle:ys4.length<=100000:=by rw[hyl4,<- hl1];exact A0C (A4U (show _=cnt (Ak ps) (B0 (ns.filter q0) z) from rfl)) ∅
     refine G3 (SqL.of h4) ?_
     refine Ca (At (xs:=ys4)) (λq m acc H5=>Same H4 H5/\Tps H5 (((ext (Ak ps) ((ns.filter q0).length-1) (B0 (ns.filter q0) z)).take m).map (z :: ·)) acc)
      (λq H' hq' e' h'=>⟨e',.nil⟩) (λq m acc H5 hP=>SqL.of (hP.1 _ _ h4)) (λp6 m' x acc H5 hq' hx' hm' hl' hqa hP=>?_) (λq6 acc H6 hq6 hqa hal hP=>?_)
     . obtain⟨e5,hT5⟩:=hP;obtain⟨ra,r,rfl,hr',hra⟩:=(hL4.same e5).at hx'
       have hrl:r.length<=10:=by obtain⟨hp,_⟩:=(G5 _ _ _ _ (Br hLn z) hl1).mp (A03 hr');have:=hp.length_eq;have:=A1Q q0 ns;omega
       symm
       refine C0 (Ab (by simp)) λt6 H6 ht6 e6 h6=>?_
       symm
       refine af4 h6 (by simp) (SqT.of (e6 _ _ hra)) (Ab (by rw[List.length_map];simp;omega)) λp7 H7 e7 h7=>?_;have e67:=e6.trans e7;have hqa7:=e67 _ _ hqa;refine Eu ∅ hm' hl' hqa7 λH8 e8 h8=>?_;have e48:Same H4 H8:=(e5.trans e67).off hq' e8;refine⟨e48,?_⟩;rw[A0L,hr',A0A];exact((hT5.same e67).but hqa7 e8).append (.one (e8 _ _ (ne_of h7 hqa7 (by intro z;cases z)) h7))
     obtain⟨e6,hT6⟩:=hP;rw[hyl4,A0Q] at hT6
     have hzl:zs.length<=100000:=by have:=hL3.len;have:=Rg (Ak ps) hne m;omega
     have e36:Same H3 H6:=e4.trans e6;have h6f:=e36 _ _ h3f
     symm
     refine Xs h6f hqa ∅ λH7 e7 h7=>?_
     symm
     refine⟨_,_,rfl,(e3.trans e36).off hf1 e7,e7 _ _ hfl.symm (e36 _ _ h3l),h7,?_⟩;rw[A0L,hz'];show Tps H7 (Yi (Ak ps) (ns.filter q0) ((frF (Ak ps) (ns.filter q0)).take m++[z])) _;rw[a38];exact((hL3.same e36).but h6f e7).append (hT6.but h6f e7)
 obtain⟨x3,zs,rfl,e3,h3l,h3f,hL3⟩:=hP;rw[A00,A0Q,Vp _ hne] at hL3
 symm
 exact k f1 zs H3 hf1 e3 h3f hL3
theorem R9 {f:Addr}{fd:FuncData}(F:Fun K "orders_on" "orders_on" Dc f fd)(T:Gi mg){C_Ways:Addr}(k_Ways:Fx K C_Ways)(Ap:Mtd P w K mg base 1 C_Ways "free_names" ["self","left"] (B2 C_Ways K))(hm:mg "orders_on" = some (.ref f))(hk:W.keepIn K (.ref f)=true)(hb:Binds K fd ["ways","left"] []):FnOk P w K mg base CX0 13 f fd ["ways","left"] (Hr C_Ways K):=by
 have h:∀ n:Nat,FnOk P w K mg base CX0 (2+n) f fd ["ways","left"] (Du C_Ways K n):=λn=>by
  induction n with
  |zero=>exact FnOk.void Jg
  |succ n ih=>exact Nz F T k_Ways Ap n ⟨f,fd,ih,hm,hk,hb⟩
 exact h 11
theorem Pr {f:Addr}{fd:FuncData}(F:Fun K "all_orders" "all_orders" Do f fd)(T:Gi mg){C_Ways:Addr}(k_Ways:Fx K C_Ways)(Fk:Fnd P w K mg base 13 "orders_on" ["ways","left"] (Hr C_Ways K))(J5:Mkd P w K mg base 3 C_Ways "Ways" ["self","half"] (Ib C_Ways K))(Cu:Mtd P w K mg base 13 C_Ways "ways_on" ["self","left"] (Fm C_Ways K)):FnOk P w K mg base CX0 14 f fd ["half"] (Fa K):=by
 refine F.ok Jv (λvs H Q E h=>?_) (λcdv A outer s H vs Q E hr h=>?_)
 . obtain⟨v,ns,ps,rfl,_⟩:=h;rfl
 obtain⟨v,ns,ps,rfl,hI,hW,h10,hcn,k⟩:=h;have hu:=Cj hr;have hq:=Cf hr
 with_reducible refine⟨_,(A1 (Ad (i:=1) Jv.nd ⋯ (by eq_refl) (aB1 J5 (hr.mono nofun) ⋯ (A0 (pv 0) A2)))
  (A1 (C1 (Ae Nq (a75 (C:=C_Ways) (pv 1) k_Ways.cl Cu (hr.mono nofun) (A0 (Kl (C:=C_Ways) (pv 1) k_Ways.cl k_Ways.n_full ⋯) A2)) (au9 ⋯ T.g_MOST_LISTED) (Al _)) (A5 a68) Ao)
  (A5 (Aj (Az Fk (hr.mono nofun) ⋯ (A0 (pv 1) (A0 (Kl (C:=C_Ways) (pv 1) k_Ways.cl k_Ways.n_full ⋯) A2))))))),?_⟩
 symm
 refine i_mk λp dx H1 hp1 e1 h1=>?_;refine⟨p,v,dx,ns,ps,rfl,h1,hI.hf_fz e1.fz,hW,h10,λnv bd ad kd kvs H2 hk2 e2 hA=>⟨rfl,?_⟩⟩
 symm
 refine ay8 hA.ob (by rfl) ?_
 symm
 refine Wq hA.ob (by rfl) ?_
 symm
 have hfl:ns.filter (λ_=>true)=ns:=by simp
 refine⟨p,dx,nv,bd,ad,kd,ns,ps,kvs,λ_=>true,rfl,hA,hW,h10,by rw[hfl];omega,λkvs' H3 e3 hA3=>?_⟩;rw[hfl]
 symm
 refine Hy (λhbad=>absurd hbad ∅) (λ_=>?_)
 symm
 refine Wq hA3.ob (by rfl) ?_
 symm
 refine⟨p,dx,nv,bd,ad,kd,ns,ps,kvs',λ_=>true,rfl,hA3,hW,h10,by rw[hfl];omega,by rw[hfl];omega,λl ys H4 hl4 e4 h4 hL4=>?_⟩;rw[hfl] at hL4;have e13:Same H H3:=(e1.off hp1 e2).off (e1.free hk2) e3;exact k l ys H4 (e13.free hl4) (e13.trans e4) h4 hL4
def Ro (one other:List Str)(k:Nat):Nat:=((one.drop (k+1)).filter λx=>decide (other.idxOf x<other.idxOf (one.getD k ""))).length
def Qy (one other:List Str):Nat:=((List.range one.length).map (Ro one other)).sum
def El (K:W.Frag):Sp:=λvs H Q _=>∃ v u one other,vs=[v,u]/\Is K H (nmD one) v/\Is K H (nmD other) u/\(∀ x∈one,x∈other)/\one.length<=10/\other.length<=10/\∀ H',Same H H'->Q (.int ((Qy one other:Nat):Int)) H'
def Ez (K:W.Frag):Sp:=El K
theorem Qd (one other:List Str)(i:Nat):((List.range (i+1)).map (Ro one other)).sum=((List.range i).map (Ro one other)).sum+Ro one other i:=by rw[A48,A0A,List.sum_append];simp
theorem Mh {f:Addr}{fd:FuncData}(F:Fun K "pairs_apart" "pairs_apart" Cg f fd)(T:Gi mg):FnOk P w K mg base CX0 1 f fd ["one","other"] (El K):=by
 refine F.ok C5 (λvs H Q E h=>?_) (λcdv A outer s H vs Q E hr h=>?_)
 . obtain⟨v,u,one,other,rfl,_⟩:=h;rfl
 obtain⟨v,u,one,other,rfl,hV,hU,hsub,h10,h10',k⟩:=h;have hu:=Cj hr;have hq:=Cf hr
 with_reducible refine⟨_,(A1 (Ec (i:=2) ["name"] ["other"] [1] ⋯ ⋯ ⋯ C5.nd ⋯ ⋯ (An (K:=K) hu (pv 0)) (λ_ _ _ _=>(A7 (i:=0) (by with_unfolding_all (show(["name","other"]:List Str).Nodup;decide +kernel)) ⋯ (by eq_refl))) (Ay nofun) (λ_ _ _ _=>Cr) (λ_ _ _ _=>(Xd (K:=K) A3M A4J (Jy (K:=K)) (pv 1) (A0 (pv 0) A2))))
  (A1 (Ad (i:=3) C5.nd ⋯ (by eq_refl) A4)
  (A1 (Bx A13 ⋯ (Ue (K:=K) ⋯ T.b_enumerate (A0 (pv 2) A2)) (Sn (K:=K) (n:=2) ⋯ (Iv (A7 (i:=4) C5.nd ⋯ (by eq_refl)) (Iv (A7 (i:=5) C5.nd ⋯ (by with_unfolding_all exact A3B rfl)) Su)))
  (A5 (Ad (i:=3) C5.nd ⋯ (by eq_refl) (Ai (Ah (K:=K)) (pv 3) (Aa (Am (K:=K)) ⋯ T.b_len PyProof.Rows.Boot.«len» (A0 (Bm ["later"] ["seat"] [5] ⋯ ⋯ ⋯ (An (K:=K) hu (Bc (Pt (K:=K)) (pv 2) (Be (Ai (Ah (K:=K)) (pv 4) A4)) Ds)) (λ_ _ _ _=>(A7 (i:=0) (by with_unfolding_all (show(["later","seat"]:List Str).Nodup;decide +kernel)) ⋯ (by eq_refl))) (Ay nofun) (λ_ _ _ _=>(Es (Ae a83 (pv 0) (pv 1) (Al _)))) (λ_ _ _ _=>(pv 0))) A2))))))
  (A5 (Aj (pv 3)))))),?_⟩
 symm
 refine Oe hV (λ_=>true) (λx=>PyData.int ((other.idxOf x:Nat):Int)) (λ_=>rfl) ∅ (λi x H1 R R' hx e1 hR hR'=>?_) (λq ys H1 hq1 e1 h1 hL1=>?_)
 . have hU1:=hU.nm_fz e1.fz;obtain⟨ua,rfl,hSu⟩:=hU1.nm;obtain⟨f1,f2,f3⟩:=L2.idx_at (hsub x (A03 hx))
   symm
   refine ae9 hSu ?_
   symm
   refine Pf hSu f1 f2 ?_;exact hR rfl _ _ (.refl _) rfl
 have hft:one.filter (λ_=>true)=one:=by simp
 rw[hft,show one.map (λx=>PyData.int ((other.idxOf x:Nat):Int))=(one.map λx=>((other.idxOf x:Nat):Int)).map PyData.int by rw[A1P];rfl] at hL1;have hys:=IsL.int_eq hL1;subst hys
 symm
 refine Rq (SqL.of h1) (λi σ H2=>∃ x4 x5,σ=[some v,some u,some (.ref q),some (.int ((((List.range i).map (Ro one other)).sum:Nat):Int)),x4,x5]/\Same H1 H2)
  ⟨_,_,rfl,.refl _⟩ (λi σ' H' hP=>?_) (λi x σ' H2 H3 hx hP e3=>?_) (fun σ' H2 hP=>?_)
 . obtain⟨_,_,_,e⟩:=hP;exact SqL.of (e _ _ h1)
 . obtain ⟨x4,x5,rfl,e2⟩:=hP;rw[A07,A07] at hx
   cases hz:one[i]? with
   |none=>rw[hz] at hx;cases hx
   |some z=>
     rw[hz] at hx
     cases hx;have hin:i<one.length:=(A01.mp hz).1;have hgd:one.getD i "" = z:=by rw[A1X,hz];rfl
     have h3:=e3 _ _ (e2 _ _ h1)
     symm
     refine Yg (SqL.of h3) λq4 H4 hq4 e4 h4=>?_;rw[Nx ∅ (by rw[A00,A00];omega),show(((i:Nat):Int)+1).toNat=i+1 by omega,<- A3G,<- A3G] at h4;refine G3 (SqL.of h4) ?_
     refine Ca (At (xs:=((one.drop (i+1)).map λx=>((other.idxOf x:Nat):Int)).map V.int)) (λp m acc H5=>Same H4 H5/\acc.length=(((one.drop (i+1)).take m).filter λx=>decide (other.idxOf x<other.idxOf z)).length)
      (λp H' hp' e' h'=>⟨e',rfl⟩) (λp m acc H5 hP=>SqL.of (hP.1 _ _ h4)) (λp m x5 acc H5 hp' hx5 hm hl hpa hP=>?_) (λp acc H5 hp' hpa hal hP=>?_)
     . obtain ⟨e5,hacc⟩:=hP;rw[A07,A07] at hx5
       cases hy:(one.drop (i+1))[m]? with
       |none=>rw[hy] at hx5;cases hx5
       |some y=>
         rw[hy] at hx5
         cases hx5;have htk:(one.drop (i+1)).take (m+1)=(one.drop (i+1)).take m++[y]:=by rw[A0L,hy];rfl
         symm
         refine Hy (λhc=>?_) (λhc=>?_)
         . symm
           refine Eu (by rw[A00,A00,A1K];omega) hm hl hpa λH6 e6 h6=>?_;refine⟨e5.off hp' e6,?_⟩;rw[htk,A2E,A08,A08,hacc,A23,A0Y (A0K (Int.ofNat_lt.mp hc))];rfl
         refine K5 hm hl hpa ⟨e5,?_⟩;rw[htk,A2E,hacc,A23,A0P (by rw[A0R λh=>hc (Int.ofNat_lt.mpr h)];decide),List.filter_nil,A17]
     obtain⟨e5,hacc⟩:=hP;rw[A00,A00,A0Q] at hacc;have hk:acc.length=Ro one other i:=by rw[hacc];unfold Ro;rw[hgd]
     symm
     rw[hk];have hval:((((List.range i).map (Ro one other)).sum:Nat):Int)+((Ro one other i:Nat):Int)=((((List.range (i+1)).map (Ro one other)).sum:Nat):Int):=by rw[Qd];omega
     rw[hval];exact⟨_,_,rfl,((e2.trans e3).trans e4).trans e5⟩
 obtain⟨x4,x5,rfl,e2⟩:=hP;rw[A00,A00]
 symm
 exact k H2 (e1.trans e2)
theorem Nl {f:Addr}{fd:FuncData}(F:Fun K "_law_apart" "_law_apart" Dh f fd)(T:Gi mg):FnOk P w K mg base CX0 1 f fd ["_law_one","_law_other"] (Ez K):=by
 refine F.ok Fc (λvs H Q E h=>?_) (λcdv A outer s H vs Q E hr h=>?_)
 . obtain⟨v,u,one,other,rfl,_⟩:=h;rfl
 obtain⟨v,u,one,other,rfl,hV,hU,hsub,h10,h10',k⟩:=h;have hu:=Cj hr;have hq:=Cf hr
 with_reducible refine⟨_,(A1 (Ad (i:=2) Fc.nd ⋯ (by eq_refl) A4)
  (A1 (Bx A13 ⋯ (Ce ⋯ T.b_range (A0 (Aa (Am (K:=K)) ⋯ T.b_len PyProof.Rows.Boot.«len» (A0 (pv 0) A2)) A2)) (A7 (i:=3) Fc.nd ⋯ (by with_unfolding_all exact A3B rfl))
  (A5 (Ad (i:=2) Fc.nd ⋯ (by eq_refl) (Ai (Ah (K:=K)) (pv 2) (Aa (Am (K:=K)) ⋯ T.b_len PyProof.Rows.Boot.«len» (A0 (Bm ["_law_name"] ["_law_other","_law_one","_law_k"] [1,0,3] ⋯ ⋯ ⋯ (An (K:=K) hu (Bc (Pt (K:=K)) (pv 0) (Be (Ai (Ah (K:=K)) (pv 3) A4)) Ds)) (λ_ _ _ _=>(A7 (i:=0) (by with_unfolding_all (show(["_law_name","_law_other","_law_one","_law_k"]:List Str).Nodup;decide +kernel)) ⋯ (by eq_refl))) (Ay nofun) (λ_ _ _ _=>(Es (Ae a83 (Xd (K:=K) A3M A4J (Jy (K:=K)) (pv 1) (A0 (pv 0) A2)) (Xd (K:=K) A3M A4J (Jy (K:=K)) (pv 1) (A0 (Ar (A6 (K:=K) hu) (pv 2) (pv 3) (by ac_rfl)) A2)) (Al _)))) (λ_ _ _ _=>(pv 0))) A2))))))
  (A5 (Aj (pv 2))))),?_⟩
 symm
 refine Vh hV ?_
 symm
 refine Ii ∅ ?_
 refine Ep Bf (λi σ H2=>∃ x3,σ=[some v,some u,some (.int ((((List.range i).map (Ro one other)).sum:Nat):Int)),x3]/\Same H H2)
  ⟨_,rfl,.refl _⟩ (λ_ _ _ _=>trivial) (λi x σ' H2 hx hi hP=>?_) (fun σ' H2 hP=>?_)
 . obtain⟨x3,rfl,e2⟩:=hP;obtain⟨rfl,hi2⟩:=Fn hx;have hin:i<one.length:=by omega
   obtain⟨z,hz⟩:∃ z,one[i]? = some z:=⟨one[i],A04 hin⟩;have hgd:one.getD i "" = z:=by rw[A1X,hz];rfl
   have hki:(0+(i:Int))=((i:Nat):Int):=by omega
   have hzo:z∈other:=hsub z (A03 hz);obtain⟨g1,g2,g3⟩:=L2.idx_at hzo;have hV2:=hV.nm_fz e2.fz;obtain⟨va,hva,hSv⟩:=hV2.nm;subst hva;rw[hki]
   symm
   refine Pk hSv λq4 H4 e4 h4=>?_;rw[Nx ∅ (by rw[A00];omega),show(((i:Nat):Int)+1).toNat=i+1 by omega,<- A3G] at h4;refine Zv h4 ?_
   refine Ca (Js (xs:=(one.drop (i+1)).map V.str)) (λp m acc H5=>Same H4 H5/\acc.length=(((one.drop (i+1)).take m).filter λx=>decide (other.idxOf x<other.idxOf z)).length)
    (λp H' hp' e' h'=>⟨e',rfl⟩) (λp m acc H5 hP=>hP.1.seqT h4) (λp m x5 acc H5 hp' hx5 hm hl hpa hP=>?_) (λp acc H5 hp' hpa hal hP=>?_)
   . obtain ⟨e5,hacc⟩:=hP;rw[A07] at hx5
     cases hy:(one.drop (i+1))[m]? with
     |none=>rw[hy] at hx5;cases hx5
     |some y=>
       rw[hy] at hx5
       cases hx5;have htk:(one.drop (i+1)).take (m+1)=(one.drop (i+1)).take m++[y]:=by rw[A0L,hy];rfl
       obtain⟨f1,f2,f3⟩:=L2.idx_at (hsub y (A28 (A03 hy)));have hU5:=hU.nm_fz ((e2.trans e4).trans e5).fz;obtain⟨ua,hua,hSu⟩:=hU5.nm;subst hua;have hSv5:=(e4.trans e5).seqT hSv
       symm
       refine ae9 hSu ?_
       symm
       refine Pf hSu f1 f2 ?_
       symm
       refine ae9 hSu ?_
       symm
       refine Iz hSv5 (Bq (by rw[A07,hz];rfl)) ?_
       symm
       refine Pf hSu g1 g2 ?_
       symm
       refine Hy (λhc=>?_) (λhc=>?_)
       . symm
         refine Eu (by rw[A00,A1K];omega) hm hl hpa λH6 e6 h6=>?_;refine⟨e5.off hp' e6,?_⟩;rw[htk,A2E,A08,A08,hacc,A23,A0Y (A0K ∅)];rfl
       refine K5 hm hl hpa ⟨e5,?_⟩;rw[htk,A2E,hacc,A23,A0P (by rw[A0R ∅];decide),List.filter_nil,A17]
   obtain⟨e5,hacc⟩:=hP;rw[A00,A0Q] at hacc;have hk:acc.length=Ro one other i:=by rw[hacc];unfold Ro;rw[hgd]
   symm
   rw[hk];have hval:((((List.range i).map (Ro one other)).sum:Nat):Int)+((Ro one other i:Nat):Int)=((((List.range (i+1)).map (Ro one other)).sum:Nat):Int):=by rw[Qd];omega
   rw[hval];exact⟨_,rfl,(e2.trans e4).trans e5⟩
 obtain⟨x3,rfl,e2⟩:=hP;rw[A00,A1D,show((one.length:Nat):Int).toNat=one.length by omega]
 symm
 exact k H2 e2
def Ni (b:Str->Str->Bool)(ns:List Str):Nat:=((ext b ns.length ns).map λr=>Qy ((ext b ns.length ns).headD []) r % 2).sum
theorem ar6 (b:Str->Str->Bool)(ns:List Str):Ni b ns<=cnt b ns:=by
 unfold Ni;have:((ext b ns.length ns).map λr=>Qy ((ext b ns.length ns).headD []) r % 2).sum<=((ext b ns.length ns).map λ_=>1).sum:=R3 λr _=>by omega
 rw[L2.sum_const,Nat.mul_one] at this;exact this
def Ou (K:W.Frag):Sp:=λvs H Q _=>∃ v ns ps,vs=[v]/\Is K H (hfD ns ps) v/\HalfW ns ps/\ns.length<=10/\cnt (Ak ps) ns<=720 /\
 ∀ a H',Same H H'->SqT K H' a [.int (((cnt (Ak ps) ns:Nat):Int)-((Ni (Ak ps) ns:Nat):Int)),.int ((Ni (Ak ps) ns:Nat):Int)]->Q (.ref a) H'
theorem aa5 {ns:List Str}{ps:List (Str×Str)}(hW:HalfW ns ps)(h10:ns.length<=10):∀ r∈ext (Ak ps) ns.length ns,r.length<=10/\∀ r'∈ext (Ak ps) ns.length ns,∀ x∈r,x∈r':=λr hr=>by obtain⟨hp,_⟩:=(G5 _ _ _ _ hW.nd rfl).mp hr;have:=hp.length_eq;refine⟨by omega,λr' hr' x hx=>?_⟩;obtain⟨hp',_⟩:=(G5 _ _ _ _ hW.nd rfl).mp hr';exact hp'.mem_iff.mpr (hp.mem_iff.mp hx)
theorem Th {ns:List Str}{ps:List (Str×Str)}(hW:HalfW ns ps):∃ r0,(ext (Ak ps) ns.length ns)[0]? = some r0/\(ext (Ak ps) ns.length ns).headD []=r0:=by
 have hp:=Sx (Uw hW) Y8 _ ns rfl hW.nd
 cases h:ext (Ak ps) ns.length ns with
 |nil=>
   have:L2.cnt (Ak ps) ns=0:=by unfold L2.cnt;rw[h];rfl
   omega
 |cons r t=>exact⟨r,rfl,rfl⟩
theorem a61 {f:Addr}{fd:FuncData}(F:Fun K "sides" "sides" Jw f fd)(T:Gi mg)(De:Fnd P w K mg base 14 "all_orders" ["half"] (Fa K))(Go:Fnd P w K mg base 1 "pairs_apart" ["one","other"] (El K)):FnOk P w K mg base CX0 15 f fd ["half"] (Ou K):=by
 refine F.ok Pd (λvs H Q E h=>?_) (λcdv A outer s H vs Q E hr h=>?_)
 . obtain⟨v,ns,ps,rfl,_⟩:=h;rfl
 obtain⟨v,ns,ps,rfl,hI,hW,h10,hcn,k⟩:=h;have hu:=Cj hr;have hq:=Cf hr;obtain⟨r0,hr0,hr1⟩:=Th hW;have hall:=aa5 hW h10
 with_reducible refine⟨_,(A1 (Ad (i:=1) Pd.nd ⋯ (by with_unfolding_all exact A3B rfl) (Az De (hr.mono nofun) ⋯ (A0 (pv 0) A2)))
  (A1 (Ad (i:=2) Pd.nd ⋯ (by eq_refl) (Aa (Ih (K:=K) ⋯) ⋯ T.b_sum PyProof.Rows.Boot.«sum» (A0 (Bm ["order"] ["orders"] [1] ⋯ ⋯ ⋯ (An (K:=K) hu (pv 1)) (λ_ _ _ _=>(A7 (i:=0) (by with_unfolding_all (show(["order","orders"]:List Str).Nodup;decide +kernel)) ⋯ (by eq_refl))) (Ay nofun) (λ_ _ _ _=>Cr) (λ_ _ _ _=>(Ai Gb (Az Go (hr.mono nofun) ⋯ (A0 (Ar (A6 (K:=K) hu) (pv 1) A4 (by ac_rfl)) (A0 (pv 0) A2))) A4))) A2)))
  (A5 (Aj (Cb (A0 (Ai Fl (Aa (Am (K:=K)) ⋯ T.b_len PyProof.Rows.Boot.«len» (A0 (pv 1) A2)) (pv 2)) (A0 (pv 2) A2))))))),?_⟩
 symm
 refine⟨v,ns,ps,rfl,hI,hW,h10,hcn,λl1 ys1 H1 hl1 e1 h1 hL1=>?_⟩;have hyl:ys1.length=cnt (Ak ps) ns:=hL1.len.symm
 symm
 refine G3 (SqL.of h1) ?_
 refine Ca (At (xs:=ys1)) (λq m acc H2=>Same H1 H2/\acc=((((ext (Ak ps) ns.length ns).take m).map λr=>((Qy r0 r % 2:Nat):Int))).map V.int)
  (λq H' hq' e' h'=>⟨e',rfl⟩) (λq m acc H2 hP=>SqL.of (hP.1 _ _ h1)) (λq m x acc H2 hq' hx hm hl hqa hP=>?_) (λq acc H2 hq' hqa hal hP=>?_)
 . obtain⟨e2,rfl⟩:=hP;have hL2:=hL1.same e2;obtain⟨xa,row,rfl,hro,hxa⟩:=hL2.at hx;have hIr:Is K H2 (nmD row) (.ref xa):=Ig (SqT.of hxa);obtain⟨y0,hy0,hy0a⟩:=hL2.get 0 r0 hr0;have hI0:Is K H2 (nmD r0) (.ref y0):=Ig (SqT.of hy0a);have m0:=A03 hr0;have m1:=A03 hro
   symm
   refine Po (e2 _ _ h1) (show atI ys1 ((0:Nat):Int)=some (.ref y0) from Bq hy0) ?_
   symm
   refine⟨.ref y0,.ref xa,r0,row,rfl,hI0,hIr,(hall r0 m0).2 row m1,(hall r0 m0).1,(hall row m1).1,λH3 e3=>?_⟩
   symm
   have hmod:((Qy r0 row:Nat):Int) % 2=((Qy r0 row % 2:Nat):Int):=by omega
   rw[hmod];refine Eu ∅ hm hl (e3 _ _ hqa) λH4 e4 h4=>?_;refine⟨(e2.trans e3).off hq' e4,?_⟩;rw[A0L,hro,A0A,A0A];rfl
 obtain⟨e2,rfl⟩:=hP;rw[hyl,show cnt (Ak ps) ns=(ext (Ak ps) ns.length ns).length from rfl,A0Q] at hqa;have h2l:=e2 _ _ h1
 symm
 refine Z5 (.inl (SqL.of hqa)) (λn' hn'=>?_) (by rw[A00];exact A0C (A4U (show _=cnt (Ak ps) ns from rfl)) ∅) ?_
 . obtain⟨r,_,rfl⟩:=A0V.mp hn';omega
 rw[Ip (λr=>Qy r0 r % 2)];have hodd:((ext (Ak ps) ns.length ns).map λr=>Qy r0 r % 2).sum=Ni (Ak ps) ns:=by unfold Ni;rw[hr1]
 rw[hodd]
 symm
 rw[hyl];refine C0 (Ab (by simp)) λt3 H3 ht3 e3 h3=>?_;exact k t3 H3 ((e1.trans e2).trans e3) (SqT.of h3)
def a82 (o:List Str):List Str->Nat
 | []=>0
 |x :: t=>(t.filter λy=>decide (o.idxOf y<o.idxOf x)).length+a82 o t
theorem a06 (x:Str)(t o:List Str):Ro (x :: t) o 0=(t.filter λy=>decide (o.idxOf y<o.idxOf x)).length:=rfl
theorem Zp (o:List Str):∀ r:List Str,Qy r o=a82 o r
 | []=>rfl
 |x :: t=>by have ih:=Zp o t;unfold Qy at ih ⊢;rw[A0W,List.range_succ_eq_map,A0I,A1P,A2A,a82,<- ih,a06];rfl
theorem Tx {o:List Str}{x y:Str}{bs:List Str}(h:o.idxOf y<o.idxOf x):∀ as:List Str,a82 o (as++x :: y :: bs)=a82 o (as++y :: x :: bs)+1
 | []=>by
   have h':¬ o.idxOf x<o.idxOf y:=by omega
   simp only[List.nil_append,a82,List.filter_cons,h,h',decide_true,decide_false,if_true,Bool.false_eq_true,if_false,List.length_cons];omega
 |a :: as=>by have ih:=Tx (bs:=bs) h as;have hp:(as++x :: y :: bs).Perm (as++y :: x :: bs):=A51 as (A4C y x bs);have hl:=(hp.filter λz=>decide (o.idxOf z<o.idxOf a)).length_eq;simp only[List.cons_append,a82];omega
theorem Ul {o:List Str}:∀ {r:List Str},r.Pairwise (λa b=>o.idxOf a<o.idxOf b)->a82 o r=0
 | [],_=>rfl
 |x :: t,h=>by
   obtain⟨h1,h2⟩:=A25.mp h
   have e:(t.filter λy=>decide (o.idxOf y<o.idxOf x))=[]:=List.filter_eq_nil_iff.mpr λy hy=>by have:=h1 y hy;simp;omega
   rw[a82,e,Ul h2];rfl
theorem Lg {x a:Str}{t:List Str}(h:x≠a):(x :: t).idxOf a=t.idxOf a+1:=by rw [List.idxOf_cons,A1R.mpr h];rfl
theorem Ur:∀ {o:List Str},o.Nodup->o.Pairwise λa b=>o.idxOf a<o.idxOf b
 | [],_=>.nil
 |x :: t,h=>by
   obtain⟨h1,h2⟩:=A0O.mp h;refine A25.mpr ⟨λb hb=>?_,(Ur h2).imp_of_mem fun {a b} ha hb hab=>?_⟩
   . have hne:x≠b:=λe=>h1 (by rw[e];exact hb);rw[A40,Lg hne];omega
   have hne:x≠a:=λe=>h1 (by rw[e];exact ha);have hne':x≠b:=λe=>h1 (by rw[e];exact hb);rw[Lg hne,Lg hne'];omega
def Sw (a b:List Str):Prop:=∃ as x y bs,a=as++x :: y :: bs/\b=as++y :: x :: bs/\x≠y
theorem Jm {xs:List V}{t:Int}(h0:0<=t):Kt xs (some t) none=xs.drop t.toNat:=Yv h0
def K7 (K:W.Frag):Sp:=λvs H Q _=>∃ u as x y bs,vs=[u,.int ((as.length:Nat):Int)]/\Is K H (nmD (as++x :: y :: bs)) u/\(as++x :: y :: bs).length<=10/\∀ w H',Same H H'->Is K H' (nmD (as++y :: x :: bs)) w->Q w H'
theorem Wo {f:Addr}{fd:FuncData}(F:Fun K "swapped" "swapped" Gg f fd)(T:Gi mg):FnOk P w K mg base CX0 1 f fd ["order","place"] (K7 K):=by
 refine F.ok Wn (λvs H Q E h=>?_) (λcdv A outer s H vs Q E hr h=>?_)
 . obtain⟨u,as,x,y,bs,rfl,_⟩:=h;rfl
 obtain⟨u,as,x,y,bs,rfl,hU,h10,k⟩:=h;have hu:=Cj hr;have hq:=Cf hr;obtain⟨a,rfl,hS⟩:=hU.nm;have hlen:((as++x :: y :: bs).map V.str).length=as.length+(bs.length+2):=by simp
 simp only[List.length_append,List.length_cons] at h10
 have c1:Kt ((as++x :: y :: bs).map V.str) none (some ((as.length:Nat):Int))=as.map V.str:=by rw[G1 ∅,<- A33,Int.toNat_natCast,A2B]
 have c2:Kt ((as++x :: y :: bs).map V.str) (some (((as.length:Nat):Int)+2)) none=bs.map V.str:=by rw[Jm ∅,<- A3G,show(((as.length:Nat):Int)+2).toNat=as.length+2 by omega,<- A2I,A1M];rfl
 have i1:atI ((as++x :: y :: bs).map V.str) (((as.length:Nat):Int)+1)=some (.str y):=Bq (j:=as.length+1) (by simp);have i0:atI ((as++x :: y :: bs).map V.str) (((as.length:Nat):Int))=some (.str x):=Bq (by simp);generalize (as++x :: y :: bs).map V.str=xs at *
 with_reducible refine⟨_,(A5 (Aj (Ai (Ah (K:=K)) (Ai (Ah (K:=K)) (Bc (Pt (K:=K)) (pv 0) Ds (Be (pv 1))) (Cb (A0 (Ar (A6 (K:=K) hu) (pv 0) (Ai (Ah (K:=K)) (pv 1) A4) (by ac_rfl)) (A0 (Ar (A6 (K:=K) hu) (pv 0) (pv 1) (by ac_rfl)) A2)))) (Bc (Pt (K:=K)) (pv 0) (Be (Ai (Ah (K:=K)) (pv 1) A4)) Ds)))),?_⟩
 symm
 refine Pk hS λp1 H1 e1 h1=>?_;rw[c1] at h1
 symm
 refine Iz (e1.seqT hS) i1 ?_
 symm
 refine Iz (e1.seqT hS) i0 ?_
 symm
 refine C0 (Ab (by simp)) λp2 H2 hp2 e2 h2=>?_;refine Jo (e2.seqT h1) (SqT.of h2) (Ab (by simp;omega)) λp3 H3 e3 h3=>?_
 symm
 have e123:=(e1.trans e2).trans e3;refine Pk (e123.seqT hS) λp4 H4 e4 h4=>?_;rw[c2] at h4;refine Jo (e4.seqT h3) h4 (Ab (by simp;omega)) λp5 H5 e5 h5=>?_
 symm
 refine k _ _ ((e123.trans e4).trans e5) (Ig ?_);rw[A0A,A0I,A0I];rw[A12] at h5;exact h5
theorem M6 {r:List Str}{i:Nat}{a b:Str}(h1:r[i]? = some a)(h2:r[i+1]? = some b):∃ as bs,r=as++a :: b :: bs/\as.length=i:=by obtain⟨hl,hb⟩:=A01.mp h2;obtain⟨hl',ha⟩:=A01.mp h1;refine⟨r.take i,r.drop (i+2),?_,by rw[A0J];omega⟩;rw[<- ha,<- hb,A36,A36,A2C]
theorem Sw.sym {a b:List Str}(h:Sw a b):Sw b a:=by obtain⟨as,x,y,bs,h1,h2,h3⟩:=h;exact⟨as,y,x,bs,h2,h1,Ne.symm h3⟩
def Cn (R:List Str->List Str->Prop):List (List Str)->Prop
 |a :: b :: l=>R a b/\Cn R (b :: l)
 |_=>True
theorem Zo {R:List Str->List Str->Prop}:∀ {l m:List (List Str)},Cn R l->Cn R m->(∀ a∈l.getLast?,∀ b∈m.head?,R a b)->Cn R (l++m)
 | [],m,_,h,_=>h
 | [a],m,_,h,hr=>by
   cases m with
   |nil=>trivial
   |cons b m=>exact⟨hr a rfl b rfl,h⟩
 |a :: b :: l,m,h1,h2,hr=>⟨h1.1,Zo (l:=b :: l) h1.2 h2 λx hx=>hr x (by rw[List.getLast?_cons_cons];exact hx)⟩
theorem a54 {R:List Str->List Str->Prop}:∀ {l:List (List Str)},Cn R l->∀(i:Nat) a b,l[i]? = some a->l[i+1]? = some b->R a b
 | [],_,i,a,b,h,_=>by cases h
 | [x],_,i,a,b,_,h=>by cases i<;>cases h
 |x :: y :: l,h,0,a,b,h1,h2=>by cases h1;cases h2;exact h.1
 |x :: y :: l,h,i+1,a,b,h1,h2=>a54 h.2 i a b h1 h2
theorem Tv:∀ {O N:List (List Str)},O.Nodup->(∀ x∈O,x∈N)->N.length<=O.length->N.Perm O
 | [],N,_,_,h=>by rw[A0D.mp (Nat.le_zero.mp h)]
 |x :: O,N,hn,hs,hl=>by
   have hx:=hs x A0S;have h1:=List.perm_cons_erase hx;obtain⟨a,b⟩:=A0O.mp hn;have hle:=A4F hx;refine h1.trans (List.Perm.cons x (Tv b (λy hy=>?_) ?_))
   . exact(A5C (λ(e:y=x)=>a (e ▸ hy))).mpr (hs y (A0E _ hy))
   rw[A0W] at hl;omega
theorem af8 {R:List Str->List Str->Prop}:∀ {l:List (List Str)},(∀(i:Nat) a b,l[i]? = some a->l[i+1]? = some b->R a b)->Cn R l
 | [],_=>trivial
 | [x],_=>trivial
 |x :: y :: l,h=>⟨h 0 x y rfl rfl,af8 λi a b h1 h2=>h (i+1) a b h1 h2⟩
theorem ar7 {R:List Str->List Str->Prop}(hs:∀ {a b},R a b->R b a){l:List (List Str)}(h:Cn R l):Cn R l.reverse:=af8 λi a b h1 h2=>by have hi:=(A01.mp h2).1;rw[A5F] at hi;rw[List.getElem?_reverse ∅] at h1 h2;rw[show l.length-1-i=l.length-1-(i+1)+1 by omega] at h1;exact hs (a54 h _ b a h2 h1)
def Mj (x:Str)(r:List Str)(s:Nat):List Str:=r.take s++[x]++r.drop s
def tfB (x:Str)(r:List Str)(k:Nat):List (List Str):=if k % 2=1 then((List.range (r.length+1)).map (Mj x r)).reverse else(List.range (r.length+1)).map (Mj x r)
def tfL (x:Str)(k:Nat)(L:List (List Str)):List (List Str):=((L.zipIdx k).map λq=>tfB x q.1 q.2).flatten
def tf:List Str->List (List Str)
 | []=>[[]]
 |x :: T=>tfL x 0 (tf T)
theorem Io (x:Str)(k:Nat)(r:List Str)(L:List (List Str)):tfL x k (r :: L)=tfB x r k++tfL x (k+1) L:=by unfold tfL;rw[List.zipIdx_cons,List.map_cons,List.flatten_cons]
theorem Sr (x:Str)(r:List Str)(k:Nat):(tfB x r k).length=r.length+1:=by
 unfold tfB
 split
 . rw[A5F,A00,A1D]
 rw[A00,A1D]
theorem tfB_mem {x:Str}{r e:List Str}{k:Nat}:e∈tfB x r k↔∃ s,s<=r.length/\Mj x r s=e:=by
 have:e∈tfB x r k↔e∈(List.range (r.length+1)).map (Mj x r):=by
  unfold tfB
  split
  . exact List.mem_reverse
  exact Iff.rfl
 rw[this,A0V];constructor
 . rintro⟨s,hs,h⟩;exact⟨s,by have:=A21.mp hs;omega,h⟩
 rintro⟨s,hs,h⟩;exact⟨s,A21.mpr ∅,h⟩
theorem Zx (x:Str)(r:List Str)(s:Nat):(Mj x r s).Perm (x :: r):=by
 unfold Mj
 have h:(r.take s++[x]++r.drop s).Perm ([x]++(r.take s++r.drop s)):=by rw[A12];have:=(List.perm_append_comm (l₁:=r.take s) (l₂:=[x])).append_right (r.drop s);simpa only[List.append_assoc] using this
 rwa[A2C] at h
theorem Vs {x:Str}{r:List Str}(hx:x∉r)(s:Nat):(Mj x r s).filter (λy=>!decide (y=x))=r:=by
 have keep:∀ l:List Str,(∀ y∈l,y∈r)->l.filter (λy=>!decide (y=x))=l:=λl hl=>A5G.mpr λy hy=>by have:y≠x:=λe=>hx (e ▸ hl y hy);simp[this]
 unfold Mj;rw[List.filter_append,List.filter_append,keep _ (λy hy=>List.mem_of_mem_take hy),keep _ (λy hy=>List.mem_of_mem_drop hy),List.filter_cons_of_neg (by simp),List.filter_nil,List.append_nil,List.take_append_drop]
theorem Vk {x:Str}{r:List Str}(hx:x∉r){s:Nat}(hs:s<=r.length):(Mj x r s).idxOf x=s:=by unfold Mj;rw[A12,List.idxOf_append,A0P (λh=>hx (A1E h)),A58,A40,A0J];omega
theorem Zf {x:Str}{r:List Str}(hx:x∉r)(k:Nat):(tfB x r k).Nodup:=by
 have h:((List.range (r.length+1)).map (Mj x r)).Nodup:=by refine List.pairwise_map.mpr (List.Pairwise.imp_of_mem (fun {a b} ha hb hab e=>hab ?_) List.nodup_range);have h1:=Vk hx (s:=a) (by have:=A21.mp ha;omega);have h2:=Vk hx (s:=b) (by have:=A21.mp hb;omega);rw[e,h2] at h1;exact h1.symm
 unfold tfB
 split
 . exact(List.reverse_perm _).nodup_iff.mpr h
 exact h
theorem ac0 {x:Str}{r:List Str}(hx:x∉r)(k:Nat):Cn Sw (tfB x r k):=by
 have h:Cn Sw ((List.range (r.length+1)).map (Mj x r)):=af8 λi a b h1 h2=>by
  have hi:=(A01.mp h2).1;rw[A00,A1D] at hi;rw[A07,List.getElem?_range ∅] at h1 h2
  cases h1
  cases h2;have hil:i<r.length:=by omega
  refine⟨r.take i,x,r[i],r.drop (i+1),?_,?_,λe=>hx (by rw[e];exact A3J _)⟩
  . unfold Mj;rw[List.append_assoc,List.singleton_append,List.getElem_cons_drop]
  unfold Mj;rw[List.take_add_one,List.getElem?_eq_getElem hil,List.append_assoc,List.append_assoc];rfl
 unfold tfB
 split
 . exact ar7 Sw.sym h
 exact h
theorem Vv (x:Str)(r:List Str)(k:Nat):(tfB x r k).head? = some (if k % 2=1 then r++[x] else x :: r)/\(tfB x r k).getLast? = some (if k % 2=1 then x :: r else r++[x]):=by
 have h0:((List.range (r.length+1)).map (Mj x r)).head? = some (x :: r):=by rw[List.head?_map,List.range_succ_eq_map,List.head?_cons];unfold Mj;rfl
 have h1:((List.range (r.length+1)).map (Mj x r)).getLast? = some (r++[x]):=by rw[A48,A0A,List.getLast?_append];unfold Mj;simp
 unfold tfB
 by_cases c:k % 2=1
 . rw[A0Y c,A0Y c,A0Y c,List.head?_reverse,List.getLast?_reverse];exact⟨h1,h0⟩
 rw[A0P c,A0P c,A0P c];exact⟨h0,h1⟩
theorem ad0 {x:Str}:∀ {L:List (List Str)} (k:Nat),Cn Sw L->(∀ r∈L,x∉r)->Cn Sw (tfL x k L)
 | [],_,_,_=>trivial
 | [r],k,_,hx=>by rw[Io];show Cn Sw (tfB x r k++[]);rw[A17];exact ac0 (hx r A0S) k
 |r :: r' :: L,k,h,hx=>by
   rw[Io];refine Zo (ac0 (hx r A0S) k) (ad0 (k+1) h.2 λq hq=>hx q (A0E _ hq)) λa ha b hb=>?_;rw[(Vv x r k).2] at ha
   have hb':b∈(tfB x r' (k+1)).head?:=by
    rw[Io] at hb
    cases e:tfB x r' (k+1) with
    |nil=>have:=Sr x r' (k+1);rw[e] at this;cases this
    |cons y l=>rw[e] at hb;exact hb
   rw[(Vv x r' (k+1)).1] at hb';obtain⟨as,u,v,bs,h1,h2,h3⟩:=h.1
   by_cases c:k % 2=1
   . rw[A0Y c] at ha;rw[A0P ∅] at hb'
     cases ha
     cases hb';exact⟨x :: as,u,v,bs,by rw[h1];rfl,by rw[h2];rfl,h3⟩
   rw[A0P c] at ha;rw[A0Y ∅] at hb'
   cases ha
   cases hb';exact⟨as,u,v,bs++[x],by rw[h1];simp,by rw[h2];simp,h3⟩
theorem Si {x:Str}{e:List Str}:∀ {L:List (List Str)} {k:Nat},e∈tfL x k L->∃ r∈L,∃ s,s<=r.length/\Mj x r s=e
 | [],_,h=>by cases h
 |r :: L,k,h=>by
   rw[Io] at h;rcases A0B.mp h with q|q
   . exact⟨r,A0S,tfB_mem.mp q⟩
   obtain⟨r',h1,h2⟩:=Si q;exact⟨r',A0E _ h1,h2⟩
theorem Qs {x:Str}:∀ {L:List (List Str)} (k:Nat),L.Nodup->(∀ r∈L,x∉r)->(tfL x k L).Nodup
 | [],_,_,_=>A2K
 |r :: L,k,hn,hx=>by obtain⟨n1,n2⟩:=A0O.mp hn;rw[Io,A29];refine⟨Zf (hx r A0S) k,Qs (k+1) n2 λq hq=>hx q (A0E _ hq),λa ha b hb e=>?_⟩;obtain⟨s,_,h1⟩:=tfB_mem.mp ha;obtain⟨r',hr',s',_,h2⟩:=Si hb;have d1:=Vs (hx r A0S) s;have d2:=Vs (hx r' (A0E _ hr')) s';rw[h1,e,<- h2,d2] at d1;exact n1 (d1 ▸ hr')
theorem Td {x:Str}{n:Nat}:∀ {L:List (List Str)} (k:Nat),(∀ r∈L,r.length=n)->(tfL x k L).length=L.length*(n+1)
 | [],_,_=>by rw[A2M,Nat.zero_mul];rfl
 |r :: L,k,h=>by rw[Io,A08,Sr,Td (k+1) λq hq=>h q (A0E _ hq),h r A0S,A0W,Nat.add_mul,Nat.one_mul,Nat.add_comm]
theorem K2:∀ {ns r:List Str},r∈tf ns->r.Perm ns
 | [],r,h=>by rw[A16.mp h]
 |x :: T,r,h=>by obtain⟨q,hq,s,_,rfl⟩:=Si h;exact(Zx x q s).trans ((K2 hq).cons x)
theorem Pm:∀ {ns:List Str},ns.Nodup->(tf ns).Nodup/\Cn Sw (tf ns)/\(tf ns).length=fac ns.length
 | [],_=>⟨by simp[tf],trivial,rfl⟩
 |x :: T,h=>by obtain⟨n1,n2⟩:=A0O.mp h;obtain⟨h1,h2,h3⟩:=Pm n2;have hx:∀ r∈tf T,x∉r:=λr hr q=>n1 ((K2 hr).mem_iff.mp q);refine⟨Qs 0 h1 hx,ad0 0 h2 hx,?_⟩;show(tfL x 0 (tf T)).length=_;rw[Td (n:=T.length) 0 λr hr=>(K2 hr).length_eq,h3];rfl
def Cw (K:W.Frag)(N:Nat):Sp:=λvs H Q _=>∃ v ns,vs=[v]/\Is K H (nmD ns) v/\ns.Nodup/\ns.length<N/\ns.length<=7/\∀ l ys H',H l=none->Same H H'->H' l=some (.lst ys)->IsL K H' ((tf ns).map nmD) ys->Q (.ref l) H'
def Gr (K:W.Frag):Sp:=Cw K 11
theorem J4 {K:W.Frag}:∀ vs H Q E,¬ Cw K 0 vs H Q E:=by rintro vs H Q E ⟨_,_,_,_,_,h,_⟩;exact absurd h (A56 _)
theorem Yw {K:W.Frag} {H:Hp}:∀ {ds:List PyData} {vs:List V},IsL K H ds vs->IsL K H ds.reverse vs.reverse
 | [],vs,h=>by have:vs=[]:=A0D.mp (IsL.length h).symm;rw[this];exact .nil
 |d :: ds,vs,h=>by obtain⟨v,r,rfl,h1,h2⟩:=Xa h;rw[A4E,A4E];exact IsL.append (Yw h2) (.one h1)
theorem a59 {x:Str}{L:List (List Str)}{i:Nat}{r:List Str}(h:L[i]? = some r):tfL x 0 (L.take (i+1))=tfL x 0 (L.take i)++tfB x r i:=by have hi:=(A01.mp h).1;unfold tfL;rw[A0L,h,List.zipIdx_append,A0A,A47];congr 1;rw[A0J,A3D ∅,Nat.zero_add];show [tfB x r i].flatten=_;exact A17 _
theorem Mi {f:Addr}{fd:FuncData}(F:Fun K "to_and_fro" "to_and_fro" Cd f fd)(T:Gi mg)(n:Nat)(Eo:Fnd P w K mg base (1+n) "to_and_fro" ["names"] (Cw K n)):FnOk P w K mg base CX0 (1+n+1) f fd ["names"] (Cw K (n+1)):=by
 refine F.ok Dt (λvs H Q E h=>?_) (λcdv A outer s H vs Q E hr h=>?_)
 . obtain⟨v,ns,rfl,_⟩:=h;rfl
 obtain⟨v,ns,rfl,hI,hnd,hN,h7,k⟩:=h;have hu:=Cj hr;have hq:=Cf hr;obtain⟨na,rfl,hS⟩:=hI.nm
 with_reducible refine⟨_,(A1 (C1 (Ae (Bi (K:=K) hq) (Aa (Am (K:=K)) ⋯ T.b_len PyProof.Rows.Boot.«len» (A0 (pv 0) A2)) A4 (Al _)) (A5 (Aj (Co (A0 (Cb A2) A2)))) Ao)
  (A1 (Ad (i:=1) Dt.nd ⋯ (by eq_refl) (Co A2))
  (A1 (Bx A13 ⋯ (Ue (K:=K) ⋯ T.b_enumerate (A0 (Az Eo (hr.mono ∅) ⋯ (A0 (Bc (Pt (K:=K)) (pv 0) (Be A4) Ds) A2)) A2)) (Sn (K:=K) (n:=2) ⋯ (Iv (A7 (i:=2) Dt.nd ⋯ (by eq_refl)) (Iv (A7 (i:=3) Dt.nd ⋯ (by with_unfolding_all exact A3B rfl)) Su)))
  (A1 (Ec (i:=4) ["seat"] ["row","names"] [3,0] ⋯ ⋯ ⋯ Dt.nd ⋯ ⋯ (Ce ⋯ T.b_range (A0 (Aa (Am (K:=K)) ⋯ T.b_len PyProof.Rows.Boot.«len» (A0 (pv 0) A2)) A2)) (λ_ _ _ _=>(A7 (i:=0) (by with_unfolding_all (show(["seat","row","names"]:List Str).Nodup;decide +kernel)) ⋯ (by eq_refl))) (Ay nofun) (λ_ _ _ _=>Cr) (λ_ _ _ _=>(Ai (Ah (K:=K)) (Ai (Ah (K:=K)) (Bc (Pt (K:=K)) (pv 1) Ds (Be (pv 0))) (Bc (Pt (K:=K)) (pv 2) Ds (Be A4))) (Bc (Pt (K:=K)) (pv 1) (Be (pv 0)) Ds))))
  (A1 (C1 (Ae (Bi (K:=K) hq) (Ai Gb (pv 2) A4) A4 (Al _)) (A5 (Ic (Tb (K:=K) A1W PySem.F.slot_list_reverse PySem.F.type_list_reverse (mm W9) (pv 4)))) Ao)
  (A5 (Ic (Lw (K:=K) A1W A4H A4I (mm Lp) (pv 1) (A0 (pv 4) A2)))))))
  (A5 (Aj (pv 1)))))),?_⟩
 symm
 refine Vh hI ?_
 symm
 refine Hy (λhz=>?_) (λhz=>?_)
 . have h0:ns=[]:=by injection hz with hz;exact A0D.mp ∅
   subst h0
   symm
   refine C0 nofun λt1 H1 ht1 e1 h1=>?_
   symm
   refine Cp (Ab (by simp)) λl2 H2 hl2 e2 h2=>?_;exact k l2 _ H2 (e1.free hl2) (e1.trans e2) h2 (.one (Ig (SqT.of (e2 _ _ h1))))
 obtain⟨x,T,rfl⟩:∃ x T,ns=x :: T:=by
  cases ns with
  |nil=>exact absurd rfl hz
  |cons x T=>exact⟨x,T,rfl⟩
 rw[A0W] at hN h7;obtain⟨hxT,hnT⟩:=A0O.mp hnd;have hfl:=(Pm hnT).2.2;have hfac:(tf T).length<=720:=by rw[hfl];exact A0C (Y1 (show T.length<=6 by omega)) nofun
 symm
 refine Cp nofun λf1 H1 hf1 e1 h1=>?_
 symm
 refine Pk (e1.seqT hS) λp2 H2 e2 h2=>?_;rw[Jm ∅] at h2
 symm
 refine⟨.ref p2,T,rfl,Ig h2,hnT,by omega,by omega,λl3 ys3 H3 hl3 e3 h3 hL3=>?_⟩;have hy3:ys3.length=(tf T).length:=by rw[<- IsL.length hL3,A00]
 have e13:=(e1.trans e2).trans e3
 refine Rq (SqL.of h3) (λi σ H4=>∃ x3 x4 x5 zs,σ=[some (.ref na),some (.ref f1),x3,x4,x5]/\Same H H4/\H4 l3=some (.lst ys3)/\IsL K H4 ((tf T).map nmD) ys3/\H4 f1=some (.lst zs)/\IsL K H4 ((tfL x 0 ((tf T).take i)).map nmD) zs)
  ⟨_,_,_,[],rfl,e13,h3,hL3,e3 _ _ (e2 _ _ h1),.nil⟩ (λi σ' H' hP=>?_) (λi y σ' H4 H5 hy hP e5=>?_) (fun σ' H4 hP=>?_)
 . obtain⟨_,_,_,_,_,_,h,_⟩:=hP;exact SqL.of h
 . obtain⟨x3,x4,x5,zs,rfl,e4,h4l,hT4,h4f,hZ4⟩:=hP;have hil:i<ys3.length:=(A01.mp hy).1;obtain⟨dr,hdr,hIr⟩:=IsL.get (IsL.mono e5 _ _ hT4) hy;rw[A07] at hdr;obtain⟨r,hro,rfl⟩:=A2O.mp hdr;have hrl:r.length=T.length:=(K2 (A03 hro)).length_eq
   have hzl:zs.length<=7200:=by rw[<- IsL.length hZ4,A00,Td (n:=T.length) 0 λq hq=>(K2 (A1E hq)).length_eq,A0J];exact A0C (Nat.mul_le_mul (show _<=720 by omega) (show T.length+1<=10 by omega)) nofun
   obtain⟨ra,rfl,hSr⟩:=hIr.nm;have e45:=e4.trans e5;have hS5:=e45.seqT hS
   symm
   refine Vh (Ig hS5) ?_;rw[A0W]
   symm
   refine Ii ∅ ?_;refine Ca Bf (λp m acc H6=>Same H5 H6/\IsL K H6 (((List.range m).map (Mj x r)).map nmD) acc) (λp H' hp' e' h'=>⟨e',.nil⟩) (λ_ _ _ _ _=>trivial) (λp m z acc H6 hp' hz' hm hl hpa hP=>?_) (λp acc H6 hp' hpa hal hP=>?_)
   . obtain⟨e6,hA6⟩:=hP;obtain⟨rfl,hmn⟩:=Fn hz'
     have c1:Kt (r.map V.str) none (some (0+((m:Nat):Int)))=(r.take m).map V.str:=by rw[G1 ∅,<- A33,show(0+((m:Nat):Int)).toNat=m by omega]
     have c2:Kt ((x :: T).map V.str) none (some 1)=[V.str x]:=by rw[G1 ∅];rfl
     have c3:Kt (r.map V.str) (some (0+((m:Nat):Int))) none=(r.drop m).map V.str:=by rw[Jm ∅,<- A3G,show(0+((m:Nat):Int)).toNat=m by omega]
     symm
     refine Pk (e6.seqT hSr) λp7 H7 e7 h7=>?_;rw[c1] at h7
     symm
     refine Pk ((e6.trans e7).seqT hS5) λp8 H8 e8 h8=>?_;rw[c2] at h8
     symm
     refine Jo (e8.seqT h7) h8 (Ab (by simp;omega)) λp9 H9 e9 h9=>?_
     symm
     refine Pk (((e6.trans e7).trans (e8.trans e9)).seqT hSr) λp10 H10 e10 h10=>?_;rw[c3] at h10
     symm
     refine Jo (e10.seqT h9) h10 (Ab (by simp;omega)) λp11 H11 e11 h11=>?_;have e611:=(e7.trans (e8.trans e9)).trans (e10.trans e11);have hpa11:=e611 _ _ hpa;refine Eu (by rw[A00,A1D];omega) hm hl hpa11 λH12 e12 h12=>?_;have fz12:=e12.fzL hpa11;refine⟨(e6.trans e611).off hp' e12,?_⟩;rw[A48,A0A,A0A];refine IsL.append (IsL.fz (e611.fz.trans fz12) _ _ (Fb _) hA6) (.one ((Ig ?_).nm_fz fz12));unfold Mj;rw[A0A,A0A];exact h11
   obtain⟨e6,hA6⟩:=hP;rw[A00,A1D,show(((T.length+1:Nat):Int)).toNat=r.length+1 by omega] at hA6;have hp5:H p=none:=e45.free hp';walk_at "rq"
   with_reducible refine W7 (fun σ' H'=>∃ ac,σ'=[some (.ref na),some (.ref f1),some (.int ((i:Nat):Int)),some (.ref ra),some (.ref p)]/\Same H5 H'/\H' p=some (.lst ac)/\IsL K H' ((tfB x r i).map nmD) ac) (λN hN=>?_) (fun σ1 H7 hM=>?_)
   . symm
     refine Hy (λhc=>?_) (λhc=>?_)
     . symm
       refine Xn hpa λH7 e7 h7=>?_
       symm
       refine hN _ _ ⟨_,rfl,e6.off hp' e7,h7,?_⟩;have hodd:i % 2=1:=by injection hc with hc;omega
       unfold tfB;rw[A0Y hodd,List.map_reverse];exact Yw (IsL.fz (e7.fzL hpa) _ _ (Fb _) hA6)
     symm
     refine hN _ _ ⟨_,rfl,e6,hpa,?_⟩;have hev:¬ i % 2=1:=λe=>hc (by rw[show((i:Nat):Int) % 2=1 by omega]);unfold tfB;rw[A0P hev];exact hA6
   obtain⟨ac,rfl,e7,h7,hA7⟩:=hM;have e57:=e5.trans e7;have h7f:=e57 _ _ h4f;have hacl:ac.length=T.length+1:=by rw[<- IsL.length hA7,A00,Sr,hrl]
   symm
   refine Xs h7f h7 ∅ λH8 e8 h8=>?_;have fz8:=e8.fzL h7f
   symm
   refine⟨_,_,_,_,rfl,(e4.trans e57).off hf1 e8,e8 _ _ (λz=>?_) (e57 _ _ h4l),IsL.fz (e57.fz.trans fz8) _ _ (Fb _) hT4,h8,?_⟩
   . exact absurd (e2.free hl3) (by rw[z,h1];exact λq=>(nomatch q))
   rw[a59 hro,A0A];exact IsL.append (IsL.fz (e57.fz.trans fz8) _ _ (Fb _) hZ4) (IsL.fz fz8 _ _ (Fb _) hA7)
 obtain⟨x3,x4,x5,zs,rfl,e4,h4l,hT4,h4f,hZ4⟩:=hP
 symm
 rw[hy3,A0Q] at hZ4;exact k f1 zs H4 hf1 e4 h4f hZ4
theorem Pj {f:Addr}{fd:FuncData}(F:Fun K "to_and_fro" "to_and_fro" Cd f fd)(T:Gi mg)(hm:mg "to_and_fro" = some (.ref f))(hk:W.keepIn K (.ref f)=true)(hb:Binds K fd ["names"] []):FnOk P w K mg base CX0 12 f fd ["names"] (Gr K):=by
 have h:∀ n:Nat,FnOk P w K mg base CX0 (1+n) f fd ["names"] (Cw K n):=λn=>by
  induction n with
  |zero=>exact FnOk.void J4
  |succ n ih=>exact Mi F T n ⟨f,fd,ih,hm,hk,hb⟩
 exact h 11
def OrO (O:List (List Str)):Prop:=∀ r∈O,r.length<=10/\(∀ z∈r,Ry z=true)/\r.Nodup
def swA (c:List Str)(j:Nat):List Str:=c.take j++((c.drop (j+1)).take 1++((c.drop j).take 1++c.drop (j+2)))
theorem Um (as bs:List Str)(x y:Str):swA (as++x :: y :: bs) as.length=as++y :: x :: bs:=by unfold swA;rw[A2B,A1M,<- A2I,A1M,<- A2I,A1M];rfl
theorem Zb {c:List Str}(hn:c.Nodup){j:Nat}(hj:j+1<c.length):Sw c (swA c j):=by
 obtain⟨as,bs,ec,ea⟩:=M6 (A04 (show j<c.length by omega)) (A04 hj)
 have ne:c[j]≠c[j+1]:=λe=>by have:=(A22 hn).mp e;omega
 generalize c[j]=x at ec ne;generalize c[j+1]=y at ec ne;exact⟨as,x,y,bs,ec,by rw[ec,<- ea];exact Um as bs x y,ne⟩
theorem au1 {c r:List Str}(h:Sw c r):∃ j,j+1<c.length/\r=swA c j:=by obtain⟨as,x,y,bs,rfl,rfl,_⟩:=h;exact⟨as.length,by simp,(Um as bs x y).symm⟩
def nbs (c:List Str):List (List Str):=(List.range (c.length-1)).map (swA c)
def nbO (O:List (List Str))(c:List Str):List (List Str):=(nbs c).filter λr=>decide (r∈O)
theorem Ym {O:List (List Str)}{c r:List Str}(hn:c.Nodup):r∈nbO O c↔r∈O/\Sw c r:=by
 unfold nbO nbs;rw[A15,A0V,A4K];constructor
 . rintro⟨⟨j,hj,rfl⟩,h⟩;exact⟨h,Zb hn (by have:=A21.mp hj;omega)⟩
 rintro⟨h,hs⟩;obtain⟨j,hj,e⟩:=au1 hs;exact⟨⟨j,A21.mpr ∅,e.symm⟩,h⟩
theorem Sw.perm {a b:List Str}(h:Sw a b):b.Perm a:=by obtain⟨as,x,y,bs,rfl,rfl,_⟩:=h;exact A51 as (A4C ..)
structure NrH (K:W.Frag)(H:Hp)(n:Addr)(kvs:List (List Key×V))(O:List (List Str)):Prop where
 top:H n=some (.dT kvs)
 len:kvs.length=O.length
 at_:∀ r∈O,∃ a zs,Dg kvs (kyT r)=some (.ref a)/\H a=some (.lst zs)/\IsL K H ((nbO O r).map nmD) zs
theorem NrH.same {K:W.Frag}{H H':Hp}{n:Addr}{kvs:List (List Key×V)}{O:List (List Str)}(h:NrH K H n kvs O)(e:Same H H'):NrH K H' n kvs O:=
 ⟨e _ _ h.top,h.len,λr hr=>let ⟨a,zs,h1,h2,h3⟩:=h.at_ r hr;⟨a,zs,h1,e _ _ h2,IsL.mono e _ _ h3⟩⟩
theorem L0 {rows:List (List Str)}(h:∀ r∈rows,∀ z∈r,Ry z=true):PyData.canLayAll0 (rows.map nmD)=true:=by have e:(PyData.list (rows.map nmD)).canLay0=true:=Cs _ (by simp only[Ct];exact Ei _ rows λr hr=>(Ir (h r hr)).1);simpa only[PyData.canLay0] using e
theorem Vq (rows:List (List Str))(r:List Str):((rows.map nmD).any λe=>PyData.eqv e (nmD r))=decide (r∈rows):=by
 rw[List.any_map,A43,A2F,A4K];constructor
 . rintro⟨x,hx,h⟩;rw[Function.comp_apply,Z4,A4K] at h;exact h ▸ hx
 intro h;exact⟨r,h,by rw[Function.comp_apply,Z4,A4K]⟩
theorem Nv {K:W.Frag} {H:Hp}:∀ {rows:List (List Str)} {ys:List V},Tps H rows ys->IsL K H (rows.map nmD) ys
 | [],ys,h=>by have:ys=[]:=A0D.mp h.len.symm;rw [this];exact .nil
 |r :: rows,ys,h=>by
   cases ys with
   |nil=>exact absurd h.len (by simp)
   |cons y ys=>
     obtain⟨a,h1,h2⟩:=h.get 0 r rfl
     cases h1;exact .cons (Ig (SqT.of h2)) (Nv ⟨by have:=h.len;simpa using this,λi r' hr'=>h.get (i+1) r' hr'⟩)
theorem Vy {K:W.Frag}{H4 H5:Hp}{n p':Addr}{O:List (List Str)}{kvs:List (List Key×V)}{m:Nat}{c:List Str}{acc:List V}(hOn:O.Nodup)(hks:kvs.map (·.1)=(O.take m).map kyT)(hc:O[m]? = some c)(h2:H4 n=some (.dT kvs))(e5:ExtBut n H4 H5)(hpa:H4 p'=some (.lst acc))(hB:IsL K H4 ((nbO O c).map nmD) acc)
  (hat:∀ r∈O.take m,∃ a zs,Dg kvs (kyT r)=some (.ref a)/\H4 a=some (.lst zs)/\IsL K H4 ((nbO O r).map nmD) zs):(Eb kvs (kyT c) (.ref p')).map (·.1)=(O.take (m+1)).map kyT/\∀ r∈O.take (m+1),∃ a zs,Dg (Eb kvs (kyT c) (.ref p')) (kyT r)=some (.ref a)/\H5 a=some (.lst zs)/\IsL K H5 ((nbO O r).map nmD) zs:=by
 have fz5:Fz H4 H5:=Mr e5 λxs q=>by rcases q with q|⟨o,q⟩<;>(rw[h2] at q;cases q)
 have nl:∀ {b:Addr} {zs:List V},H4 b=some (.lst zs)->H5 b=some (.lst zs):=λq=>e5 _ _ (ne_of q h2 (by intro z;cases z)) q
 have hno:Dg kvs (kyT c)=none:=by
  cases e:Dg kvs (kyT c) with
  |none=>rfl
  |some v=>exfalso;have:=aj5 e;rw[hks] at this;obtain⟨r,hr,hk⟩:=A0V.mp this;rw[Yx hk] at hr;obtain⟨i,hi⟩:=List.getElem?_of_mem hr;have hil:=(A01.mp hi).1;rw[A0J] at hil;rw[A2D ∅] at hi;have:=(List.getElem?_inj ∅ hOn).mp (hi.trans hc.symm);omega
 refine⟨?_,λr hr=>?_⟩
 . rw[Jd _ hno,A0A,hks,A0L,hc,A0A];rfl
 rw[A0L,hc] at hr
 by_cases er:r=c
 . subst er;exact⟨p',acc,by rw[Ky,A0Y rfl],nl hpa,IsL.fz fz5 _ _ (Fb _) hB⟩
 have hr':r∈O.take m:=(List.mem_append.mp hr).resolve_right λg=>er (by simpa using g);obtain⟨a,zs,q1,q2,q3⟩:=hat r hr';exact⟨a,zs,by rw[Ky,A0P λe=>er (Yx e)];exact q1,nl q2,IsL.fz fz5 _ _ (Fb _) q3⟩
def Cc (K:W.Frag):Sp:=λvs H Q _=>∃ l ys O,vs=[.ref l]/\H l=some (.lst ys)/\Tps H O ys/\OrO O/\O.Nodup/\O.length<=1000/\∀ n kvs H',H n=none->Same H H'->NrH K H' n kvs O->Q (.ref n) H'
theorem Il {f:Addr}{fd:FuncData}(F:Fun K "orders_by_one_swap" "orders_by_one_swap" Aw f fd)(T:Gi mg)(Lk:Fnd P w K mg base 1 "swapped" ["order","place"] (K7 K)):FnOk P w K mg base CX0 2 f fd ["orders"] (Cc K):=by
 refine F.ok Bl (λvs H Q E h=>?_) (λcdv A outer s H vs Q E hr h=>?_)
 . obtain⟨l,ys,O,rfl,_⟩:=h;rfl
 obtain⟨l,ys,O,rfl,hl,hT,hO,hOn,h1000,k⟩:=h;have hu:=Cj hr;have hq:=Cf hr;have hyl:=hT.len;have hlay:=L0 λr hr=>(hO r hr).2.1
 with_reducible refine⟨_,(A1 (Ad (i:=1) Bl.nd ⋯ (by eq_refl) Pl)
  (A1 (Bx A13 ⋯ (An (K:=K) hu (pv 0)) (A7 (i:=2) Bl.nd ⋯ (by with_unfolding_all exact A3B rfl))
  (A1 (Ec (i:=3) ["place"] ["order"] [2] ⋯ ⋯ ⋯ Bl.nd ⋯ ⋯ (Ce ⋯ T.b_range (A0 (Ai Fl (Aa (Am (K:=K)) ⋯ T.b_len PyProof.Rows.Boot.«len» (A0 (pv 2) A2)) A4) A2)) (λ_ _ _ _=>(A7 (i:=0) (by with_unfolding_all (show(["place","order"]:List Str).Nodup;decide +kernel)) ⋯ (by eq_refl))) (Ay nofun) (λ_ _ _ _=>Cr) (λ_ _ _ _=>(Az Lk (hr.mono nofun) ⋯ (A0 (pv 1) (A0 (pv 0) A2)))))
  (A5 (Er hu (pv 1) (pv 2) (Bm ["other"] ["orders"] [0] ⋯ ⋯ ⋯ (An (K:=K) hu (pv 3)) (λ_ _ _ _=>(A7 (i:=0) (by with_unfolding_all (show(["other","orders"]:List Str).Nodup;decide +kernel)) ⋯ (by eq_refl))) (Ay nofun) (λ_ _ _ _=>(Es (Ae (Qg (K:=K) hq) (pv 0) (pv 1) ⋯))) (λ_ _ _ _=>(pv 0))) ⋯))))
  (A5 (Aj (pv 1))))),?_⟩
 symm
 refine Tc λn H1 hn1 e1 h1=>?_
 symm
 refine G3 (SqL.of (e1 _ _ hl)) ?_
 refine Ep (At (xs:=ys)) (λm σ H2=>∃ x2 x3 kvs,σ=[some (.ref l),some (.ref n),x2,x3]/\Same H H2/\H2 n=some (.dT kvs)/\kvs.map (·.1)=(O.take m).map kyT/\∀ r∈O.take m,∃ a zs,Dg kvs (kyT r)=some (.ref a)/\H2 a=some (.lst zs)/\IsL K H2 ((nbO O r).map nmD) zs)
  ⟨_,_,[],rfl,e1,h1,rfl,λr hr=>(by cases hr)⟩ (λm σ' H' hP=>?_) (λm x σ' H2 hx hm hP=>?_) (fun σ' H2 hP=>?_)
 . obtain⟨_,_,_,_,e,_⟩:=hP;exact SqL.of (e _ _ hl)
 . obtain⟨x2,x3,kvs,rfl,e2,h2,hks,hat⟩:=hP;have hT2:=hT.same e2;obtain⟨xa,c,rfl,hc,hxa⟩:=hT2.at hx;have hcO:=hO c (A03 hc);have hkl:kvs.length<=m:=by have:=congrArg List.length hks;rw[A00,A00,A0J] at this;omega
   symm
   rw[A00];refine Ii ∅ ?_;refine Ca Bf (λp i acc H3=>Same H2 H3/\IsL K H3 (((List.range i).map (swA c)).map nmD) acc) (λp H' hp' e' h'=>⟨e',.nil⟩) (λ_ _ _ _ _=>trivial) (λp i z acc H3 hp' hz' hi hl' hpa hP=>?_) (λp acc H3 hp' hpa hal hP=>?_)
   . obtain⟨e3,hA⟩:=hP;obtain⟨rfl,hin⟩:=Fn hz';obtain⟨as,bs,ec,eas⟩:=M6 (A04 (show i<c.length by omega)) (A04 (show i+1<c.length by omega));generalize c[i]=y1 at ec;generalize c[i+1]=y2 at ec
     symm
     refine⟨.ref xa,as,y1,y2,bs,by rw[eas];simp,by rw[<- ec];exact Ig (SqT.of (e3 _ _ hxa)),by rw[<- ec];exact hcO.1,λw H4 e4 hw=>?_⟩;have h4p:=e4 _ _ hpa;refine Eu (by rw[A00,A1D];omega) hi hl' h4p λH5 e5 h5=>?_;have fz5:=e5.fzL h4p;refine⟨(e3.trans e4).off hp' e5,?_⟩;rw[A48,A0A,A0A];refine IsL.append (IsL.fz (e4.fz.trans fz5) _ _ (Fb _) hA) (.one ?_);have esw:swA c i=as++y2 :: y1 :: bs:=by rw[ec,<- eas];exact Um as bs y1 y2
     rw[esw];exact hw.nm_fz fz5
   obtain⟨e3,hA⟩:=hP;rw[A00,A1D,show(((c.length:Nat):Int)-1).toNat=c.length-1 by omega] at hA;have hal':(nbs c).length=acc.length:=by have:=IsL.length hA;rw[A00] at this;exact this
   symm
   refine G3 (SqL.of hpa) ?_;refine Kv (K:=K) (At (xs:=acc)) (nbs c) hal' (λr=>decide (r∈O)) nmD (λ_=>R7 _) (by unfold nbs at hal';rw[List.length_map,List.length_range] at hal';omega) (λH' e=>SqL.of (e _ _ hpa)) (λi r v H4 R R' hr' hv e4 hR hR'=>?_) (λp' acc' H4 hp4 e4 hpa' hB=>?_)
   . obtain⟨dr,hdr,hIr⟩:=IsL.get (IsL.mono e4 _ _ hA) hv;have hdr':((nbs c).map nmD)[i]? = some dr:=hdr;rw[A07,hr'] at hdr'
     cases hdr';have hrm:=A03 hr';unfold nbs at hrm;obtain⟨j,hj,rfl⟩:=A0V.mp hrm;have hsw:=(Zb hcO.2.2 (j:=j) (by have:=A21.mp hj;omega)).perm;have fr:=Nm (λz hz=>hcO.2.1 z (hsw.mem_iff.mp hz)) (by rw[hsw.length_eq];omega);have e24:=e3.trans e4
     symm
     refine av3 hIr (.inl (Is.of_lst (SqL.of (e24 _ _ (e2 _ _ hl))) (Nv (hT2.same e24)))) hlay (Cs _ fr.plain) (A0C fr.deep nofun) ?_;rw[Vq]
     symm
     by_cases hc':swA c j∈O
     . rw[A0K hc',A0Y rfl]
       symm
       exact hR (A0K hc') _ _ (.refl _) hIr
     rw[A0R hc',A0P nofun];exact hR' (A0R hc') _ (.refl _)
   have e24:=e3.trans e4
   symm
   refine Sq (e24 _ _ h2) (show H4 xa=some (.tup ((kyT c).map kV)) by rw[a76];exact e24 _ _ hxa) ∅ λH5 e5 h5=>?_
   symm
   obtain⟨n1,n2⟩:=Vy hOn hks hc (e24 _ _ h2) e5 hpa' hB λr hr=>by obtain⟨a,zs,q1,q2,q3⟩:=hat r hr;exact⟨a,zs,q1,e24 _ _ q2,IsL.mono e24 _ _ q3⟩
   exact⟨_,_,_,rfl,(e2.trans e24).off hn1 e5,h5,n1,n2⟩
 obtain⟨x2,x3,kvs,rfl,e2,h2,hks,hat⟩:=hP;rw[<- hyl,A0Q] at hat hks
 symm
 exact k n kvs H2 hn1 e2 ⟨h2,by have:=congrArg List.length hks;rwa[A00,A00] at this,hat⟩
def FP (O rs:List (List Str)):Prop:=rs.Nodup/\(∀ r∈rs,r∈O)/\Cn Sw rs/\rs.length=O.length
def HP (O rows:List (List Str)):Prop:=∃ t,FP O (rows++t)
theorem aq2 {R:List Str->List Str->Prop}{l m:List (List Str)}{a b:List Str}(h:Cn R (l++b :: m))(ha:l[l.length-1]? = some a):R a b:=by have hi:=(A01.mp ha).1;refine a54 h (l.length-1) a b (by rw[A20 hi];exact ha) ?_;rw[show l.length-1+1=l.length by omega,A18 (A05 _),A3V];rfl
theorem a07 {R:List Str->List Str->Prop}{l:List (List Str)}{a b:List Str}(h:Cn R l)(ha:l[l.length-1]? = some a)(hr:R a b):Cn R (l++[b]):=Zo h trivial λx hx y hy=>by
 rw[List.getLast?_eq_getElem?,ha] at hx
 cases hx
 cases hy;exact hr
theorem az6 {O rows:List (List Str)} {a:List Str} (ha:rows[rows.length-1]? = some a) (hn:a.Nodup) (h:HP O rows) (hl:rows.length≠O.length):∃ r∈nbO O a,r∉rows/\HP O (rows++[r]):=by
 obtain⟨t,h1,h2,h3,h4⟩:=h
 cases t with
 |nil=>rw[A17] at h4;exact absurd h4 hl
 |cons r t=>
   refine⟨r,(Ym hn).mpr ⟨h2 r (by simp),aq2 h3 ha⟩,λhr=>?_,t,?_⟩
   . exact(A29.mp h1).2.2 r hr r A0S rfl
   rw[A12];exact⟨h1,h2,h3,h4⟩
def Bk (K:W.Frag)(N:Nat):Sp:=λvs H Q _=>∃(n b:Addr) (kvs:List (List Key×V)) (O rows:List (List Str)) (ys:List V),vs=[.ref n,.ref b]/\NrH K H n kvs O/\OrO O/\O.length<=100/\H b=some (.lst ys)/\IsL K H (rows.map nmD) ys/\rows.Nodup/\rows≠[]/\(∀ r∈rows,r∈O)/\Cn Sw rows/\O.length<N+rows.length /\
 (¬ HP O rows->∀ H',Same H H'->Q .non H')/\∀ l zs rs H',Same H H'->(l=b\/H l=none)->H' l=some (.lst zs)->IsL K H' (rs.map nmD) zs->FP O rs->Q (.ref l) H'
def Ea (K:W.Frag):Sp:=Bk K 125
theorem Gj {K:W.Frag}:∀ vs H Q E,¬ Bk K 0 vs H Q E:=by rintro vs H Q E ⟨_,_,_,O,rows,_,_,_,_,_,_,_,hn,_,hs,_,h,_⟩;have:=Og hn hs;omega
theorem af2 {ys:List V}{v:V}(h:ys[ys.length-1]? = some v):atI ys (-1)=some v:=by
 have hi:=(A01.mp h).1;unfold atI
 have e:ixN ys.length (-1)=some (ys.length-1):=by unfold ixN;rw[A0P ∅,A0Y ∅];congr 1;omega
 rw[e,Option.bind_some,h]
theorem Ji {f:Addr}{fd:FuncData}(F:Fun K "single_list_on" "single_list_on" B4 f fd)(T:Gi mg)(n:Nat)(C2:Fnd P w K mg base (1+n) "single_list_on" ["near","begun"] (Bk K n)):FnOk P w K mg base CX0 (1+n+1) f fd ["near","begun"] (Bk K (n+1)):=by
 refine F.ok Dy (λvs H Q E h=>?_) (λcdv A outer s H vs Q E hr h=>?_)
 . obtain⟨n,b,kvs,O,rows,ys,rfl,_⟩:=h;rfl
 obtain⟨n,b,kvs,O,rows,ys,rfl,hNr,hO,h100,hb,hL,hn,hne,hs,hcn,hN,k0,k1⟩:=h;have hu:=Cj hr;have hq:=Cf hr;have hyl:rows.length=ys.length:=by rw[<- IsL.length hL,A00]
 have hrl:=Og hn hs;have hpos:=A2N.mpr hne;obtain⟨r0,hr0⟩:∃ r0,rows[rows.length-1]? = some r0:=⟨rows[rows.length-1]'∅,A04 ∅⟩;obtain⟨y,hy,hIy⟩:=IsL.at hL (show(rows.map nmD)[rows.length-1]? = some (nmD r0) by rw[A07,hr0];rfl);have hr0O:=hs _ (A03 hr0);have hr0n:=(hO r0 hr0O).2.2;obtain⟨ya,rfl,hSy⟩:=hIy.nm;obtain⟨a,zs,hv,ha,hZ⟩:=hNr.at_ r0 hr0O;have hzl:(nbO O r0).length=zs.length:=by rw[<- IsL.length hZ,A00]
 have hlay:=L0 λr hr=>(hO r (hs r hr)).2.1
 with_reducible refine⟨_,(A1 (C1 (Ae (Bi (K:=K) hq) (Aa (Am (K:=K)) ⋯ T.b_len PyProof.Rows.Boot.«len» (A0 (pv 1) A2)) (Aa Rm ⋯ T.b_len PyProof.Rows.Boot.«len» (A0 (pv 0) A2)) (Al _)) (A5 (Aj (pv 1))) Ao)
  (A1 (Bx A13 ⋯ (An (K:=K) hu (Ar (Zm (K:=K) hu) (pv 0) (Ar (A6 (K:=K) hu) (pv 1) (az7 ay2 A4) (by ac_rfl)) (by ac_rfl))) (A7 (i:=2) Dy.nd ⋯ (by eq_refl))
  (A5 (C1 (Ae (Gc (K:=K) hq) (pv 2) (pv 1) ⋯) (A1 (Ad (i:=3) Dy.nd ⋯ (by eq_refl) (Az C2 (hr.mono ∅) ⋯ (A0 (pv 0) (A0 (Ai (Ah (K:=K)) (pv 1) (Co (A0 (pv 2) A2))) A2))))
  (A5 (C1 (Ae Qb (pv 3) Qh (Al _)) (A5 (Aj (pv 3))) Ao))) Ao)))
  (A5 (Aj Qh)))),?_⟩
 symm
 refine Z6 (Rd.of hNr.top) ?_;rw[hNr.len]
 symm
 refine Hy (λhc=>?_) (λhc=>?_)
 . have hc':rows.length=O.length:=by injection hc with hc;omega
   symm
   exact k1 b ys rows H (.refl _) (.inl rfl) hb hL ⟨hn,hs,hcn,hc'⟩
 have hc':rows.length≠O.length:=λe=>hc (by rw[<- hyl,e])
 symm
 refine Po hb (af2 (by rw[<- hyl];exact hy)) ?_
 symm
 refine aa6 (Rd.of hNr.top) (show SqT K H ya ((kyT r0).map kV) by rw[a76];exact hSy) hv ?_;refine G3 (SqL.of ha) ?_
 refine Ep (At (xs:=zs)) (λm σ H2=>∃ x2 x3,σ=[some (.ref n),some (.ref b),x2,x3]/\Same H H2/\∀ r∈(nbO O r0).take m,r∉rows->¬ HP O (rows++[r]))
  ⟨_,_,rfl,.refl _,λr hr=>(by cases hr)⟩ (λm σ' H' hP=>?_) (λm x σ' H2 hx hm hP=>?_) (fun σ' H2 hP=>?_)
 . obtain⟨_,_,_,e,_⟩:=hP;exact SqL.of (e _ _ ha)
 . obtain⟨x2,x3,rfl,e2,hno⟩:=hP;obtain⟨dr,hdr,hIr⟩:=IsL.get (IsL.mono e2 _ _ hZ) hx;rw[A07] at hdr;obtain⟨r,hro,rfl⟩:=A2O.mp hdr;obtain⟨hrO,hsw⟩:=(Ym hr0n).mp (A03 hro);have fr:=Nm (hO r hrO).2.1 (by have:=(hO r hrO).1;omega)
   have step:∀ {P:Prop},(P->r∉rows->¬ HP O (rows++[r]))->P->∀ r'∈(nbO O r0).take (m+1),r'∉rows->¬ HP O (rows++[r']):=fun {P} h hp r' hr'=>by
    rw[A0L,hro] at hr';rcases A0B.mp hr' with q|q
    . exact hno r' q
    rw[show r'=r by simpa using q];exact h hp
   symm
   refine ad5 hIr (.inl (Is.of_lst (SqL.of (e2 _ _ hb)) (IsL.mono e2 _ _ hL))) hlay (Cs _ fr.plain) (A0C fr.deep nofun) ?_;rw[Vq]
   symm
   refine Xg (λhc=>?_) (λhc=>?_)
   . symm
     refine Cp (Ab (by simp)) λl3 H3 hl3 e3 h3=>?_
     symm
     refine Mu (e3 _ _ (e2 _ _ hb)) h3 (Ab (by simp;omega)) λl4 H4 hl4 e4 h4=>?_;have e24:=e3.trans e4;have e04:=e2.trans e24
     symm
     refine⟨n,l4,kvs,O,rows++[r],ys++[x],rfl,hNr.same e04,hO,h100,h4,?_,?_,by simp,λr' hr'=>?_,a07 hcn hr0 hsw,by rw[List.length_append,List.length_singleton];omega,λhh H5 e5=>?_,λl zs' rs H5 e5 hlb h5 hL5 hf=>?_⟩
     . rw[A0A];exact IsL.append (IsL.mono e04 _ _ hL) (.one (Is.mono e24 _ _ hIr))
     . rw[A29];exact⟨hn,by simp,λp hp q hq e=>hc (by rw[List.mem_singleton.mp hq] at e;exact e ▸ hp)⟩
     . rcases A0B.mp hr' with g|g
       . exact hs r' g
       rw[A16.mp g];exact hrO
     . symm
       exact⟨_,_,rfl,e04.trans e5,step (λ_ _=>hh) trivial⟩
     have hlH:H l=none:=by
      rcases hlb with rfl|q
      . exact(e2.trans e3).free hl4
      exact e04.free q
     symm
     refine Xg (λ_=>?_) (λe=>(nomatch e))
     symm
     exact k1 l zs' rs H5 (e04.trans e5) (.inr hlH) h5 hL5 hf
   symm
   exact⟨_,_,rfl,e2,step (λhr hnr=>absurd hr hnr) hc⟩
 obtain⟨x2,x3,rfl,e2,hno⟩:=hP;rw[<- hzl,A0Q] at hno
 symm
 refine k0 (λhh=>?_) H2 e2;obtain⟨r,h1,h2,h3⟩:=az6 hr0 hr0n hh hc';exact hno r h1 h2 h3
theorem Kd {f:Addr}{fd:FuncData}(F:Fun K "single_list_on" "single_list_on" B4 f fd)(T:Gi mg)(hm:mg "single_list_on" = some (.ref f))(hk:W.keepIn K (.ref f)=true)(hb:Binds K fd ["near","begun"] []):FnOk P w K mg base CX0 126 f fd ["near","begun"] (Ea K):=by
 have h:∀ n:Nat,FnOk P w K mg base CX0 (1+n) f fd ["near","begun"] (Bk K n):=λn=>by
  induction n with
  |zero=>exact FnOk.void Gj
  |succ n ih=>exact Ji F T n ⟨f,fd,ih,hm,hk,hb⟩
 exact h 125
def By (K:W.Frag):Sp:=λvs H Q _=>∃ l ys O,vs=[.ref l]/\H l=some (.lst ys)/\Tps H O ys/\OrO O/\O.Nodup/\O.length<=100/\((∀ r∈O,¬ HP O [r])->∀ H',Same H H'->Q .non H')/\∀ l' zs rs H',Same H H'->H l'=none->H' l'=some (.lst zs)->IsL K H' (rs.map nmD) zs->FP O rs->Q (.ref l') H'
theorem Gy {f:Addr}{fd:FuncData}(F:Fun K "searched_single_list" "searched_single_list" As f fd)(T:Gi mg)(Cq:Fnd P w K mg base 2 "orders_by_one_swap" ["orders"] (Cc K))(C2:Fnd P w K mg base 126 "single_list_on" ["near","begun"] (Ea K)):FnOk P w K mg base CX0 127 f fd ["orders"] (By K):=by
 refine F.ok B7 (λvs H Q E h=>?_) (λcdv A outer s H vs Q E hr h=>?_)
 . obtain⟨l,ys,O,rfl,_⟩:=h;rfl
 obtain⟨l,ys,O,rfl,hl,hT,hO,hOn,h100,k0,k1⟩:=h;have hu:=Cj hr;have hq:=Cf hr
 with_reducible refine⟨_,(A1 (Ad (i:=1) B7.nd ⋯ (by eq_refl) (Az Cq (hr.mono nofun) ⋯ (A0 (pv 0) A2)))
  (A1 (Bx A13 ⋯ (An (K:=K) hu (pv 0)) (A7 (i:=2) B7.nd ⋯ (by eq_refl))
  (A1 (Ad (i:=3) B7.nd ⋯ (by eq_refl) (Az C2 (hr.mono nofun) ⋯ (A0 (pv 1) (A0 (Co (A0 (pv 2) A2)) A2))))
  (A5 (C1 (Ae Qb (pv 3) Qh (Al _)) (A5 (Aj (pv 3))) Ao))))
  (A5 (Aj Qh)))),?_⟩
 symm
 refine⟨l,ys,O,rfl,hl,hT,hO,hOn,by omega,λn kvs H1 hn1 e1 hNr=>?_⟩
 symm
 refine G3 (SqL.of (e1 _ _ hl)) ?_
 refine Ep (At (xs:=ys)) (λm σ H2=>∃ x2 x3,σ=[some (.ref l),some (.ref n),x2,x3]/\Same H1 H2/\∀ r∈O.take m,¬ HP O [r])
  ⟨_,_,rfl,.refl _,λr hr=>(by cases hr)⟩ (λm σ' H' hP=>?_) (λm x σ' H2 hx hm hP=>?_) (fun σ' H2 hP=>?_)
 . obtain⟨_,_,_,e,_⟩:=hP;exact SqL.of ((e1.trans e) _ _ hl)
 . obtain⟨x2,x3,rfl,e2,hno⟩:=hP;have e02:=e1.trans e2;obtain⟨xa,c,rfl,hc,hxa⟩:=(hT.same e02).at hx
   symm
   refine Cp (Ab (by simp)) λl3 H3 hl3 e3 h3=>?_
   symm
   refine⟨n,l3,kvs,O,[c],_,rfl,hNr.same (e2.trans e3),hO,h100,h3,.one (Ig (SqT.of (e3 _ _ hxa))),by simp,by simp,λr hr=>by rw[List.mem_singleton.mp hr];exact List.mem_of_getElem? hc,trivial,by rw[List.length_singleton];omega,λhh H4 e4=>?_,λl' zs rs H4 e4 hlb h4 hL4 hf=>?_⟩
   . symm
     refine⟨_,_,rfl,(e2.trans e3).trans e4,λr hr=>?_⟩;rw[A0L,hc] at hr;rcases A0B.mp hr with q|q
     . exact hno r q
     rw[show r=c by simpa using q];exact hh
   have hlH:H l'=none:=by
    rcases hlb with rfl|q
    . exact e02.free hl3
    exact(e02.trans e3).free q
   symm
   refine Xg (λ_=>?_) (λe=>(nomatch e))
   symm
   exact k1 l' zs rs H4 ((e02.trans e3).trans e4) hlH h4 hL4 hf
 obtain⟨x2,x3,rfl,e2,hno⟩:=hP;rw[<- hT.len,A0Q] at hno
 symm
 exact k0 hno H2 (e1.trans e2)
def Uv (b:Str->Str->Bool)(ns:List Str):Int:=((cnt b ns:Nat):Int)-((Ni b ns:Nat):Int)-((Ni b ns:Nat):Int)
def Em (K:W.Frag):Sp:=λvs H Q _=>∃ v ns ps,vs=[v]/\Is K H (hfD ns ps) v/\HalfW ns ps/\ns.length<=10/\(∀ z∈ns,Ry z=true)/\cnt (Ak ps) ns<=720 /\
 (1<(Uv (Ak ps) ns).natAbs->∀ t H',Same H H'->SqT K H' t [.str "none",.int (((cnt (Ak ps) ns:Nat):Int)-((Ni (Ak ps) ns:Nat):Int)),.int ((Ni (Ak ps) ns:Nat):Int)]->Q (.ref t) H') /\
 (¬ 1<(Uv (Ak ps) ns).natAbs->ps≠[]->2<=cnt (Ak ps) ns->(cnt (Ak ps) ns<=12->∀ r∈ext (Ak ps) ns.length ns,¬ HP (ext (Ak ps) ns.length ns) [r])->∀ t H',Same H H'->SqT K H' t [.str "open"]->Q (.ref t) H') /\
 (¬ 1<(Uv (Ak ps) ns).natAbs->∀ t l zs rs H',Same H H'->H l=none->SqT K H' t [.str "list",.ref l]->H' l=some (.lst zs)->IsL K H' (rs.map nmD) zs->FP (ext (Ak ps) ns.length ns) rs->Q (.ref t) H')
theorem Mb {f:Addr}{fd:FuncData}(F:Fun K "single_list" "single_list" Ck f fd)(T:Gi mg)(De:Fnd P w K mg base 14 "all_orders" ["half"] (Fa K))(To:Fnd P w K mg base 15 "sides" ["half"] (Ou K))(Eo:Fnd P w K mg base 12 "to_and_fro" ["names"] (Gr K))(C9:Fnd P w K mg base 127 "searched_single_list" ["orders"] (By K)):FnOk P w K mg base CX0 128 f fd ["half"] (Em K):=by
 refine F.ok En (λvs H Q E h=>?_) (λcdv A outer s H vs Q E hr h=>?_)
 . obtain⟨v,ns,ps,rfl,_⟩:=h;rfl
 obtain⟨v,ns,ps,rfl,hI,hW,h10,hNm,hcn,k1,k2,k3⟩:=h;have hu:=Cj hr;have hq:=Cf hr
 with_reducible refine⟨_,(A1 (Ad (i:=1) En.nd ⋯ (by eq_refl) (Az To (hr.mono nofun) ⋯ (A0 (pv 0) A2)))
  (A1 (C1 (Ae Nq (Aa W5 ⋯ T.b_abs PyProof.Rows.Boot.«abs» (A0 (Ai Fl (Ar (A6 (K:=K) hu) (pv 1) A4 (by ac_rfl)) (Ar (A6 (K:=K) hu) (pv 1) A4 (by ac_rfl))) A2)) A4 (Al _)) (A5 (Aj (Ai (Ah (K:=K)) (Cb (A0 Av A2)) (pv 1)))) Ao)
  (A1 (C1 (Ae (Bi (K:=K) hq) (Aa (Am (K:=K)) ⋯ T.b_len PyProof.Rows.Boot.«len» (A0 (Ar (A6 (K:=K) hu) (pv 0) A4 (by ac_rfl)) A2)) A4 (Al _)) (A5 (Aj (Cb (A0 Av (A0 (Az Eo (hr.mono nofun) ⋯ (A0 (Ar (A6 (K:=K) hu) (pv 0) A4 (by ac_rfl)) A2)) A2))))) Ao)
  (A1 (Ad (i:=2) En.nd ⋯ (by eq_refl) (Az De (hr.mono nofun) ⋯ (A0 (pv 0) A2)))
  (A1 (C1 (Ae Nq (Aa (Am (K:=K)) ⋯ T.b_len PyProof.Rows.Boot.«len» (A0 (pv 2) A2)) (au9 ⋯ T.g_MOST_SEARCHED) (Al _)) (A5 (Aj (Cb (A0 Av A2)))) Ao)
  (A1 (Ad (i:=3) En.nd ⋯ (by eq_refl) (Az C9 (hr.mono nofun) ⋯ (A0 (pv 2) A2)))
  (A1 (C1 (Ae am8 (pv 3) Qh (Al _)) (A5 (Aj (Cb (A0 Av A2)))) Ao)
  (A5 (Aj (Cb (A0 Av (A0 (pv 3) A2)))))))))))),?_⟩
 symm
 refine⟨v,ns,ps,rfl,hI,hW,h10,hcn,λp1 H1 e1 h1=>?_⟩;have hI1:=hI.hf_fz e1.fz
 symm
 refine Iz h1 (show atI _ ((0:Nat):Int)=_ from Bq rfl) ?_
 symm
 refine Iz h1 (show atI _ ((1:Nat):Int)=_ from Bq rfl) ?_
 symm
 refine⟨_,rfl,?_⟩
 symm
 refine Hy (λhc=>?_) (λhc=>?_)
 . have hc':1<(Uv (Ak ps) ns).natAbs:=by unfold Uv;omega
   symm
   refine C0 (Ab (by simp)) λt2 H2 ht2 e2 h2=>?_
   symm
   refine Jo (SqT.of h2) (e2.seqT h1) (Ab (by simp)) λp3 H3 e3 h3=>?_;exact k1 hc' p3 H3 ((e1.trans e2).trans e3) h3
 have hc':¬ 1<(Uv (Ak ps) ns).natAbs:=by unfold Uv;omega
 have hpm:∀ {r},r∈ext (Ak ps) ns.length ns->r.Perm ns:=fun {r} h=>((G5 _ _ _ _ hW.nd rfl).mp h).1
 symm
 refine Vo hI1 λpv hP=>?_
 symm
 refine aw4 hP ?_
 symm
 refine Hy (λhz=>?_) (λhz=>?_)
 . have h0:ps=[]:=by injection hz with hz;exact A0D.mp ∅
   subst h0
   have free:∀ x y,Ak [] x y=false:=λx y=>by
    cases e:Ak [] x y with
    |false=>rfl
    |true=>exact absurd (wayB_iff.mp e) (λw=>by cases w<;>simp_all)
   have hcf:=R1 (b:=Ak []) free ns.length ns rfl hW.nd
   have h7:ns.length<=7:=by
    by_cases h:ns.length<=7
    . exact h
    exact absurd (A0C (Y1 (show 7<=ns.length by omega)) (hcf ▸ hcn)) nofun
   obtain⟨f1,f2,f3⟩:=Pm hW.nd
   have hfp:FP (ext (Ak []) ns.length ns) (tf ns):=by
    refine⟨f1,λr hr=>?_,f2,?_⟩
    . refine(G5 _ _ _ _ hW.nd rfl).mpr ⟨K2 hr,?_⟩;exact⟨λu _=>free u u,List.pairwise_of_forall λu v=>free v u⟩
    rw[f3,<- hcf];rfl
   symm
   refine Ie hI1 λnv hN=>?_
   symm
   refine⟨nv,ns,rfl,hN,hW.nd,by omega,h7,λl2 ys2 H2 hl2 e2 h2 hL2=>?_⟩
   symm
   refine C0 (Ab (by simp)) λt3 H3 ht3 e3 h3=>?_;exact k3 hc' t3 l2 ys2 _ H3 ((e1.trans e2).trans e3) (e1.free hl2) (SqT.of h3) (e3 _ _ h2) (IsL.mono e3 _ _ hL2) hfp
 have hps:ps≠[]:=λe=>hz (by rw[e];rfl)
 symm
 refine⟨v,ns,ps,rfl,hI1,hW,h10,hcn,λl2 ys2 H2 hl2 e2 h2 hT2=>?_⟩;have hyl:=hT2.len;have hOl:(ext (Ak ps) ns.length ns).length=cnt (Ak ps) ns:=rfl;have hOr:OrO (ext (Ak ps) ns.length ns):=λr hr=>⟨by rw[(hpm hr).length_eq];exact h10,λz hz=>hNm z ((hpm hr).mem_iff.mp hz),(hpm hr).nodup_iff.mpr hW.nd⟩
 symm
 refine Hy (λhm=>?_) (λhm=>?_)
 . symm
   refine C0 (Ab (by simp)) λt3 H3 ht3 e3 h3=>?_;exact k2 hc' hps ∅ (λh=>absurd h ∅) t3 H3 ((e1.trans e2).trans e3) (SqT.of h3)
 symm
 refine⟨l2,ys2,_,rfl,h2,hT2,hOr,Hv _ _ _ hW.nd,by omega,λhno H3 e3=>?_,λl3 zs rs H3 e3 hl3 h3 hL3 hf=>?_⟩
 . have h2':2<=cnt (Ak ps) ns:=by
    obtain⟨r0,hr0,_⟩:=Th hW;rw[<- hOl]
    by_cases h:2<=(ext (Ak ps) ns.length ns).length
    . exact h
    exfalso;have m0:=A03 hr0;have hpos:=A4Q m0;refine hno r0 m0 ⟨[],by simp,λr hr=>?_,trivial,?_⟩
    . rw[A17] at hr;rw[A16.mp hr];exact m0
    rw[A17,A1O];omega
   symm
   refine C0 (Ab (by simp)) λt4 H4 ht4 e4 h4=>?_;exact k2 hc' hps h2' (λ_=>hno) t4 H4 (((e1.trans e2).trans e3).trans e4) (SqT.of h4)
 symm
 refine Hy (λe=>(nomatch e)) (λ_=>?_)
 symm
 refine C0 (Ab (by simp)) λt4 H4 ht4 e4 h4=>?_;exact k3 hc' t4 l3 zs rs H4 (((e1.trans e2).trans e3).trans e4) ((e1.trans e2).free hl3) (SqT.of h4) (e4 _ _ h3) (IsL.mono e4 _ _ hL3) hf
def Gv (K:W.Frag):Sp:=λvs H Q _=>∃ l ys O,vs=[.ref l]/\H l=some (.lst ys)/\Tps H O ys/\OrO O/\O.Nodup/\O.length<=1000/\∀ n kvs H',H n=none->Same H H'->NrH K H' n kvs O->Q (.ref n) H'
theorem Ps {f:Addr}{fd:FuncData}(F:Fun K "_law_swaps" "_law_swaps" Dp f fd)(T:Gi mg):FnOk P w K mg base CX0 1 f fd ["_law_orders_here"] (Gv K):=by
 refine F.ok Fd (λvs H Q E h=>?_) (λcdv A outer s H vs Q E hr h=>?_)
 . obtain⟨l,ys,O,rfl,_⟩:=h;rfl
 obtain⟨l,ys,O,rfl,hl,hT,hO,hOn,h1000,k⟩:=h;have hu:=Cj hr;have hq:=Cf hr;have hyl:=hT.len;have hlay:=L0 λr hr=>(hO r hr).2.1
 with_reducible refine⟨_,(A1 (Ad (i:=1) Fd.nd ⋯ (by eq_refl) Pl)
  (A1 (Bx A13 ⋯ (An (K:=K) hu (pv 0)) (A7 (i:=2) Fd.nd ⋯ (by with_unfolding_all exact A3B rfl))
  (A1 (Ec (i:=3) ["_law_k"] ["_law_order"] [2] ⋯ ⋯ ⋯ Fd.nd ⋯ ⋯ (Ce ⋯ T.b_range (A0 (Ai Fl (Aa (Am (K:=K)) ⋯ T.b_len PyProof.Rows.Boot.«len» (A0 (pv 2) A2)) A4) A2)) (λ_ _ _ _=>(A7 (i:=0) (by with_unfolding_all (show(["_law_k","_law_order"]:List Str).Nodup;decide +kernel)) ⋯ (by eq_refl))) (Ay nofun) (λ_ _ _ _=>Cr) (λ_ _ _ _=>(Ai (Ah (K:=K)) (Ai (Ah (K:=K)) (Bc (Pt (K:=K)) (pv 1) Ds (Be (pv 0))) (Cb (A0 (Ar (A6 (K:=K) hu) (pv 1) (Ai (Ah (K:=K)) (pv 0) A4) (by ac_rfl)) (A0 (Ar (A6 (K:=K) hu) (pv 1) (pv 0) (by ac_rfl)) A2)))) (Bc (Pt (K:=K)) (pv 1) (Be (Ai (Ah (K:=K)) (pv 0) A4)) Ds))))
  (A5 (Er hu (pv 1) (pv 2) (Bm ["_law_one"] ["_law_orders_here"] [0] ⋯ ⋯ ⋯ (An (K:=K) hu (pv 3)) (λ_ _ _ _=>(A7 (i:=0) (by with_unfolding_all (show(["_law_one","_law_orders_here"]:List Str).Nodup;decide +kernel)) ⋯ (by eq_refl))) (Ay nofun) (λ_ _ _ _=>(Es (Ae (Qg (K:=K) hq) (pv 0) (pv 1) ⋯))) (λ_ _ _ _=>(pv 0))) ⋯))))
  (A5 (Aj (pv 1))))),?_⟩
 symm
 refine Tc λn H1 hn1 e1 h1=>?_
 symm
 refine G3 (SqL.of (e1 _ _ hl)) ?_
 refine Ep (At (xs:=ys)) (λm σ H2=>∃ x2 x3 kvs,σ=[some (.ref l),some (.ref n),x2,x3]/\Same H H2/\H2 n=some (.dT kvs)/\kvs.map (·.1)=(O.take m).map kyT/\∀ r∈O.take m,∃ a zs,Dg kvs (kyT r)=some (.ref a)/\H2 a=some (.lst zs)/\IsL K H2 ((nbO O r).map nmD) zs)
  ⟨_,_,[],rfl,e1,h1,rfl,λr hr=>(by cases hr)⟩ (λm σ' H' hP=>?_) (λm x σ' H2 hx hm hP=>?_) (fun σ' H2 hP=>?_)
 . obtain⟨_,_,_,_,e,_⟩:=hP;exact SqL.of (e _ _ hl)
 . obtain⟨x2,x3,kvs,rfl,e2,h2,hks,hat⟩:=hP;have hT2:=hT.same e2;obtain⟨xa,c,rfl,hc,hxa⟩:=hT2.at hx;have hcO:=hO c (A03 hc);have hkl:kvs.length<=m:=by have:=congrArg List.length hks;rw[A00,A00,A0J] at this;omega
   symm
   rw[A00];refine Ii ∅ ?_;refine Ca Bf (λp i acc H3=>Same H2 H3/\IsL K H3 (((List.range i).map (swA c)).map nmD) acc) (λp H' hp' e' h'=>⟨e',.nil⟩) (λ_ _ _ _ _=>trivial) (λp i z acc H3 hp' hz' hi hl' hpa hP=>?_) (λp acc H3 hp' hpa hal hP=>?_)
   . obtain⟨e3,hA⟩:=hP;obtain⟨rfl,hin⟩:=Fn hz';obtain⟨as,bs,ec,eas⟩:=M6 (A04 (show i<c.length by omega)) (A04 (show i+1<c.length by omega));generalize c[i]=y1 at ec;generalize c[i+1]=y2 at ec;have hS3:SqT K H3 xa (c.map V.str):=SqT.of (e3 _ _ hxa)
     have c1:Kt (c.map V.str) none (some (0+((i:Nat):Int)))=as.map V.str:=by rw[G1 ∅,<- A33,show(0+((i:Nat):Int)).toNat=as.length by omega,ec,A2B]
     have c2:Kt (c.map V.str) (some (0+((i:Nat):Int)+2)) none=bs.map V.str:=by rw[Jm ∅,<- A3G,show(0+((i:Nat):Int)+2).toNat=as.length+2 by omega,ec,<- A2I,A1M];rfl
     have i1:atI (c.map V.str) (0+((i:Nat):Int)+1)=some (.str y2):=by rw[show 0+((i:Nat):Int)+1=((as.length+1:Nat):Int) by omega];exact Bq (by rw[ec];simp)
     have i0:atI (c.map V.str) (0+((i:Nat):Int))=some (.str y1):=by rw[show 0+((i:Nat):Int)=((as.length:Nat):Int) by omega];exact Bq (by rw[ec];simp)
     have hclen:as.length+(bs.length+2)=c.length:=by rw[ec];simp
     have c10:=hcO.1
     symm
     refine Pk hS3 λp1 Ha ea ha=>?_;rw[c1] at ha
     symm
     refine Iz (ea.seqT hS3) i1 ?_
     symm
     refine Iz (ea.seqT hS3) i0 ?_
     symm
     refine C0 (Ab (by simp)) λp2 Hb hb eb hb2=>?_
     symm
     refine Jo (eb.seqT ha) (SqT.of hb2) (Ab (by simp;omega)) λp3 Hc ecc hc3=>?_
     symm
     have eabc:=(ea.trans eb).trans ecc;refine Pk (eabc.seqT hS3) λp4 Hd ed hd4=>?_;rw[c2] at hd4
     symm
     refine Jo (ed.seqT hc3) hd4 (Ab (by simp;omega)) λp5 H4 ee he5=>?_;have e4:=(eabc.trans ed).trans ee
     have hw:Is K H4 (nmD (as++y2 :: y1 :: bs)) (.ref p5):=Ig (by rw[A0A,A0I,A0I];rw[A12] at he5;exact he5)
     have h4p:=e4 _ _ hpa;refine Eu (by rw[A00,A1D];omega) hi hl' h4p λH5 e5 h5=>?_;have fz5:=e5.fzL h4p;refine⟨(e3.trans e4).off hp' e5,?_⟩;rw[A48,A0A,A0A];refine IsL.append (IsL.fz (e4.fz.trans fz5) _ _ (Fb _) hA) (.one ?_);have esw:swA c i=as++y2 :: y1 :: bs:=by rw[ec,<- eas];exact Um as bs y1 y2
     rw[esw];exact hw.nm_fz fz5
   obtain⟨e3,hA⟩:=hP;rw[A00,A1D,show(((c.length:Nat):Int)-1).toNat=c.length-1 by omega] at hA;have hal':(nbs c).length=acc.length:=by have:=IsL.length hA;rw[A00] at this;exact this
   symm
   refine G3 (SqL.of hpa) ?_;refine Kv (K:=K) (At (xs:=acc)) (nbs c) hal' (λr=>decide (r∈O)) nmD (λ_=>R7 _) (by unfold nbs at hal';rw[List.length_map,List.length_range] at hal';omega) (λH' e=>SqL.of (e _ _ hpa)) (λi r v H4 R R' hr' hv e4 hR hR'=>?_) (λp' acc' H4 hp4 e4 hpa' hB=>?_)
   . obtain⟨dr,hdr,hIr⟩:=IsL.get (IsL.mono e4 _ _ hA) hv;have hdr':((nbs c).map nmD)[i]? = some dr:=hdr;rw[A07,hr'] at hdr'
     cases hdr';have hrm:=A03 hr';unfold nbs at hrm;obtain⟨j,hj,rfl⟩:=A0V.mp hrm;have hsw:=(Zb hcO.2.2 (j:=j) (by have:=A21.mp hj;omega)).perm;have fr:=Nm (λz hz=>hcO.2.1 z (hsw.mem_iff.mp hz)) (by rw[hsw.length_eq];omega);have e24:=e3.trans e4
     symm
     refine av3 hIr (.inl (Is.of_lst (SqL.of (e24 _ _ (e2 _ _ hl))) (Nv (hT2.same e24)))) hlay (Cs _ fr.plain) (A0C fr.deep nofun) ?_;rw[Vq]
     symm
     by_cases hc':swA c j∈O
     . rw[A0K hc',A0Y rfl]
       symm
       exact hR (A0K hc') _ _ (.refl _) hIr
     rw[A0R hc',A0P nofun];exact hR' (A0R hc') _ (.refl _)
   have e24:=e3.trans e4
   symm
   refine Sq (e24 _ _ h2) (show H4 xa=some (.tup ((kyT c).map kV)) by rw[a76];exact e24 _ _ hxa) ∅ λH5 e5 h5=>?_
   symm
   obtain⟨n1,n2⟩:=Vy hOn hks hc (e24 _ _ h2) e5 hpa' hB λr hr=>by obtain⟨a,zs,q1,q2,q3⟩:=hat r hr;exact⟨a,zs,q1,e24 _ _ q2,IsL.mono e24 _ _ q3⟩
   exact⟨_,_,_,rfl,(e2.trans e24).off hn1 e5,h5,n1,n2⟩
 obtain⟨x2,x3,kvs,rfl,e2,h2,hks,hat⟩:=hP;rw[<- hyl,A0Q] at hat hks
 symm
 exact k n kvs H2 hn1 e2 ⟨h2,by have:=congrArg List.length hks;rwa[A00,A00] at this,hat⟩
def C3 (K:W.Frag)(N:Nat):Sp:=λvs H Q _=>∃(n t:Addr) (kvs:List (List Key×V)) (O rows:List (List Str)) (ys:List V),vs=[.ref n,.ref t]/\NrH K H n kvs O/\OrO O/\O.length<=100/\SqT K H t ys/\IsL K H (rows.map nmD) ys/\rows.Nodup/\rows≠[]/\(∀ r∈rows,r∈O)/\Cn Sw rows/\O.length<N+rows.length /\
 ∀ b H',Same H H'->(b=true->HP O rows)->Q (.bl b) H'
def Fo (K:W.Frag):Sp:=C3 K 125
theorem Hx {K:W.Frag}:∀ vs H Q E,¬ C3 K 0 vs H Q E:=by rintro vs H Q E ⟨_,_,_,O,rows,_,_,_,_,_,_,_,hn,_,hs,_,h,_⟩;have:=Og hn hs;omega
theorem Km {f:Addr}{fd:FuncData}(F:Fun K "_law_goes_on" "_law_goes_on" Bo f fd)(T:Gi mg)(n:Nat)(Cv:Fnd P w K mg base (1+n) "_law_goes_on" ["_law_near","_law_walk"] (C3 K n)):FnOk P w K mg base CX0 (1+n+1) f fd ["_law_near","_law_walk"] (C3 K (n+1)):=by
 refine F.ok Hn (λvs H Q E h=>?_) (λcdv A outer s H vs Q E hr h=>?_)
 . obtain⟨n,b,kvs,O,rows,ys,rfl,_⟩:=h;rfl
 obtain⟨n,b,kvs,O,rows,ys,rfl,hNr,hO,h100,hb,hL,hn,hne,hs,hcn,hN,k⟩:=h;have hu:=Cj hr;have hq:=Cf hr;have hyl:rows.length=ys.length:=by rw[<- IsL.length hL,A00]
 have hrl:=Og hn hs;have hpos:=A2N.mpr hne;obtain⟨r0,hr0⟩:∃ r0,rows[rows.length-1]? = some r0:=⟨rows[rows.length-1]'∅,A04 ∅⟩;obtain⟨y,hy,hIy⟩:=IsL.at hL (show(rows.map nmD)[rows.length-1]? = some (nmD r0) by rw[A07,hr0];rfl);have hr0O:=hs _ (A03 hr0);have hr0n:=(hO r0 hr0O).2.2;obtain⟨ya,rfl,hSy⟩:=hIy.nm;obtain⟨a,zs,hv,ha,hZ⟩:=hNr.at_ r0 hr0O;have hlay:=L0 λr hr=>(hO r (hs r hr)).2.1
 with_reducible refine⟨_,(A1 (C1 (Ae (Bi (K:=K) hq) (Aa (Am (K:=K)) ⋯ T.b_len PyProof.Rows.Boot.«len» (A0 (pv 1) A2)) (Aa Rm ⋯ T.b_len PyProof.Rows.Boot.«len» (A0 (pv 0) A2)) (Al _)) (A5 (Aj Ke)) Ao)
  (A1 (Bx A13 ⋯ (An (K:=K) hu (Ar (Zm (K:=K) hu) (pv 0) (Ar (A6 (K:=K) hu) (pv 1) (Ai Fl (Aa (Am (K:=K)) ⋯ T.b_len PyProof.Rows.Boot.«len» (A0 (pv 1) A2)) A4) (by ac_rfl)) (by ac_rfl))) (A7 (i:=2) Hn.nd ⋯ (by eq_refl))
  (A5 (C1 (PW.pt (Zq (Ae (Gc (K:=K) hq) (pv 2) (pv 1) ⋯) (Tn (Nj (Az Cv (hr.mono ∅) ⋯ (A0 (pv 0) (A0 (Ai (Ah (K:=K)) (pv 1) (Cb (A0 (pv 2) A2))) A2))))))) (A5 (Aj Ke)) Ao)))
  (A5 (Aj Ke)))),?_⟩
 symm
 refine .inl ⟨.ref b,_,rfl,.inr ⟨_,hb,rfl⟩,?_⟩
 symm
 refine Z6 (Rd.of hNr.top) ?_;rw[hNr.len]
 symm
 refine Hy (λhc=>?_) (λhc=>?_)
 . have hc':rows.length=O.length:=by injection hc with hc;omega
   symm
   exact k true H (.refl _) λ_=>⟨[],by rw[A17];exact⟨hn,hs,hcn,hc'⟩⟩
 symm
 refine .inl ⟨.ref b,_,rfl,.inr ⟨_,hb,rfl⟩,?_⟩
 symm
 refine Iz hb (show atI ys (((ys.length:Nat):Int)-1)=some (.ref ya) by rw[show((ys.length:Nat):Int)-1=((ys.length-1:Nat):Int) by omega,<- hyl];exact Bq hy) ?_
 symm
 refine aa6 (Rd.of hNr.top) (show SqT K H ya ((kyT r0).map kV) by rw[a76];exact hSy) hv ?_;refine G3 (SqL.of ha) ?_
 refine Ep (At (xs:=zs)) (λm σ H2=>∃ x2,σ=[some (.ref n),some (.ref b),x2]/\Same H H2)
  ⟨_,rfl,.refl _⟩ (λm σ' H' hP=>?_) (λm x σ' H2 hx hm hP=>?_) (fun σ' H2 hP=>?_)
 . obtain⟨_,_,e⟩:=hP;exact SqL.of (e _ _ ha)
 . obtain⟨x2,rfl,e2⟩:=hP;obtain⟨dr,hdr,hIr⟩:=IsL.get (IsL.mono e2 _ _ hZ) hx;rw[A07] at hdr;obtain⟨r,hro,rfl⟩:=A2O.mp hdr;obtain⟨hrO,hsw⟩:=(Ym hr0n).mp (A03 hro);have fr:=Nm (hO r hrO).2.1 (by have:=(hO r hrO).1;omega)
   symm
   refine ad5 hIr (.inr (Is.of_tup (e2.seqT hb) (IsL.mono e2 _ _ hL))) hlay (Cs _ fr.plain) (A0C fr.deep nofun) ?_;rw[Vq]
   symm
   refine Xg (λhc=>?_) (λhc=>?_)
   . symm
     refine C0 (Ab (by simp)) λt3 H3 ht3 e3 h3=>?_
     symm
     refine Jo ((e2.trans e3).seqT hb) (SqT.of h3) (Ab (by simp;omega)) λt4 H4 e4 h4=>?_;have e24:=e3.trans e4;have e04:=e2.trans e24
     symm
     refine⟨n,t4,kvs,O,rows++[r],ys++[x],rfl,hNr.same e04,hO,h100,h4,?_,?_,by simp,λr' hr'=>?_,a07 hcn hr0 hsw,by rw[List.length_append,List.length_singleton];omega,λb' H5 e5 hb'=>?_⟩
     . rw[A0A];exact IsL.append (IsL.mono e04 _ _ hL) (.one (Is.mono e24 _ _ hIr))
     . rw[A29];exact⟨hn,by simp,λp hp q hq e=>hc (by rw[List.mem_singleton.mp hq] at e;exact e ▸ hp)⟩
     . rcases A0B.mp hr' with g|g
       . exact hs r' g
       rw[A16.mp g];exact hrO
     symm
     cases b' with
     |true=>
       symm
       obtain⟨t,ht⟩:=hb' rfl;exact k true H5 (e04.trans e5) λ_=>⟨[r]++t,by rw[<- A12];exact ht⟩
     |false=>
       symm
       exact⟨_,rfl,e04.trans e5⟩
   symm
   exact⟨_,rfl,e2⟩
 obtain⟨x2,rfl,e2⟩:=hP
 symm
 exact k false H2 e2 λe=>(nomatch e)
theorem M5 {f:Addr}{fd:FuncData}(F:Fun K "_law_goes_on" "_law_goes_on" Bo f fd)(T:Gi mg)(hm:mg "_law_goes_on" = some (.ref f))(hk:W.keepIn K (.ref f)=true)(hb:Binds K fd ["_law_near","_law_walk"] []):FnOk P w K mg base CX0 126 f fd ["_law_near","_law_walk"] (Fo K):=by
 have h:∀ n:Nat,FnOk P w K mg base CX0 (1+n) f fd ["_law_near","_law_walk"] (C3 K n):=λn=>by
  induction n with
  |zero=>exact FnOk.void Hx
  |succ n ih=>exact Km F T n ⟨f,fd,ih,hm,hk,hb⟩
 exact h 125
def Dd (K:W.Frag):Sp:=λvs H Q _=>∃ v l ys ns ps,vs=[v,.ref l]/\Is K H (hfD ns ps) v/\HalfW ns ps/\ps≠[]/\NmP ps/\H l=some (.lst ys)/\Tps H (ext (Ak ps) ns.length ns) ys/\OrO (ext (Ak ps) ns.length ns)/\2<=cnt (Ak ps) ns/\(cnt (Ak ps) ns<=12->∀ r∈ext (Ak ps) ns.length ns,¬ HP (ext (Ak ps) ns.length ns) [r])/\∀ H',Same H H'->Q (.bl true) H'
theorem Jb {f:Addr}{fd:FuncData}(F:Fun K "_law_may_be_open" "_law_may_be_open" B1 f fd)(T:Gi mg)(Ij:Fnd P w K mg base 1 "_law_swaps" ["_law_orders_here"] (Gv K))(Cv:Fnd P w K mg base 126 "_law_goes_on" ["_law_near","_law_walk"] (Fo K)):FnOk P w K mg base CX0 127 f fd ["_law_half_here","_law_orders_here"] (Dd K):=by
 refine F.ok Fq (λvs H Q E h=>?_) (λcdv A outer s H vs Q E hr h=>?_)
 . obtain⟨v,l,ys,ns,ps,rfl,_⟩:=h;rfl
 obtain⟨v,l,ys,ns,ps,rfl,hI,hW,hps,hNp,hl,hT,hOr,h2,h12,k⟩:=h;have hu:=Cj hr;have hq:=Cf hr;have hyl:=hT.len;have hOl:(ext (Ak ps) ns.length ns).length=cnt (Ak ps) ns:=rfl;obtain⟨O,hO⟩:∃ O,O=ext (Ak ps) ns.length ns:=⟨_,rfl⟩;have hOn:O.Nodup:=hO ▸ Hv _ _ _ hW.nd;rw[<- hO] at hyl hT hOr h12 hOl
 with_reducible refine⟨_,(A1 (C1 (PW.pt (aj8 (Ae (Bi (K:=K) hq) (Ar (A6 (K:=K) hu) (pv 0) A4 (by ac_rfl)) (Cb A2) (Al _)) (a00 (Ae a83 (Aa (Am (K:=K)) ⋯ T.b_len PyProof.Rows.Boot.«len» (A0 (pv 1) A2)) A4 (Al _))))) (A5 (Aj Ke)) Ao)
  (A1 (C1 (Ae Nq (Aa (Am (K:=K)) ⋯ T.b_len PyProof.Rows.Boot.«len» (A0 (pv 1) A2)) A4 (Al _)) (A5 (Aj Ke)) Ao)
  (A1 (Ad (i:=2) Fq.nd ⋯ (by with_unfolding_all exact A3B rfl) (Az Ij (hr.mono nofun) ⋯ (A0 (pv 1) A2)))
  (A5 (Aj (Eg (Gc (K:=K) hq) Ke (Bm ["_law_order"] ["_law_near"] [2] ⋯ ⋯ ⋯ (An (K:=K) hu (pv 1)) (λ_ _ _ _=>(A7 (i:=0) (by with_unfolding_all (show(["_law_order","_law_near"]:List Str).Nodup;decide +kernel)) ⋯ (by eq_refl))) (Ay nofun) (λ_ _ _ _=>Cr) (λ_ _ _ _=>(Az Cv (hr.mono nofun) ⋯ (A0 (pv 1) (A0 (Cb (A0 (pv 0) A2)) A2))))) ⋯)))))),?_⟩
 symm
 refine Vo hI λpv hP=>?_
 symm
 refine C0 nofun λt1 H1 ht1 e1 h1=>?_;have fp:=ag6 hNp hW.le
 symm
 refine Xi (hP.ps_fz e1.fz) (Is.of_tup (SqT.of h1) .nil) fp.shaped (by decide +kernel) ⟨_,rfl,?_⟩;rw[show PyData.eqv (psD ps) (.tuple [])=false by cases ps with | nil=>exact absurd rfl hps | cons p ps=>simp[psD,PyData.eqv,PyData.eqvAll]]
 symm
 refine Hy (λhc=>absurd hc ∅) (λ_=>?_)
 symm
 refine Hy (λhc=>?_) (λhc=>?_)
 . symm
   exact k H1 e1
 symm
 refine⟨l,ys,O,rfl,e1 _ _ hl,hT.same e1,hOr,hOn,by omega,λn kvs H2 hn2 e2 hNr=>?_⟩;have e12:=e1.trans e2
 symm
 refine G3 (SqL.of (e12 _ _ hl)) ?_;refine Ca (At (xs:=ys)) (λp i acc H3=>Same H2 H3/\acc=(List.replicate i false).map V.bl) (λp H' hp' e' h'=>⟨e',rfl⟩) (λp i acc H3 hP=>SqL.of ((e12.trans hP.1) _ _ hl)) (λp i x acc H3 hp' hx hi hl' hpa hP=>?_) (λp acc H3 hp' hpa hal hP=>?_)
 . obtain⟨e3,rfl⟩:=hP;obtain⟨xa,c,rfl,hc',hxa⟩:=(hT.same (e12.trans e3)).at hx;have hcm:=A03 hc'
   symm
   refine C0 (Ab (by simp)) λt4 H4 ht4 e4 h4=>?_
   symm
   refine⟨n,t4,kvs,O,[c],_,rfl,hNr.same (e3.trans e4),hOr,by omega,SqT.of h4,.one (Ig (SqT.of (e4 _ _ hxa))),by simp,by simp,λr hr=>by rw[List.mem_singleton.mp hr];exact hcm,trivial,by rw[List.length_singleton];omega,λb H5 e5 hb=>?_⟩
   have hbf:b=false:=by
    cases b with
    |false=>rfl
    |true=>exact absurd (hb rfl) (h12 ∅ c hcm)
   subst hbf
   symm
   have e45:=e4.trans e5;refine Eu ∅ hi hl' (e45 _ _ hpa) λH6 e6 h6=>?_;refine⟨(e3.trans e45).off hp' e6,?_⟩;rw[List.replicate_succ',A0A];rfl
 obtain⟨e3,rfl⟩:=hP
 symm
 refine av8 (SqL.of hpa) ?_;rw [show(!(List.replicate ys.length false).any id)=true by simp];exact k H3 (e12.trans e3)
def Ff (K:W.Frag):Sp:=λvs H Q _=>∃(l:Addr) (ys:List V) (rows:List (List Str)) (lo:Addr) (yo:List V) (O:List (List Str)) (n:Nat),vs=[.ref l,.ref lo]/\H l=some (.lst ys)/\IsL K H (rows.map nmD) ys/\H lo=some (.lst yo)/\IsL K H (O.map nmD) yo/\rows.Perm O/\O.length<=720/\(∀ r∈O,r.length=n/\(∀ z∈r,Ry z=true)/\∀ r'∈O,∀ x∈r,x∈r')/\n<=10/\(1<=n\/O.length<2)/\(∀(i:Nat) a b,rows[i]? = some a->rows[i+1]? = some b->Qy a b=1)/\∀ H',Same H H'->Q (.bl true) H'
theorem a53:∀ rows:List (List Str),PyData.eqv (.list (rows.map nmD)) (.list (rows.map nmD))=true
 |rows=>by
   have go:∀ rows:List (List Str),PyData.eqvAll (rows.map nmD) (rows.map nmD)=true:=λrows=>by
    induction rows with
    |nil=>rfl
    |cons r rows ih=>simp only[List.map_cons,PyData.eqvAll,Z4,decide_true,Bool.true_and];exact ih
   simp only[PyData.eqv];exact go rows
theorem a56 {rows:List (List Str)}(h:∀ r∈rows,r.length<=10/\∀ z∈r,Ry z=true)(hl:rows.length<=720):SeqAt.shaped (PyData.list (rows.map nmD))=true:=by
 unfold SeqAt.shaped;have e:(PyData.list (rows.map nmD)).canLay0=true:=Cs _ (by simp only[Ct];exact Ei _ rows λr hr=>(Ir (h r hr).2).1)
 have e2:(PyData.list (rows.map nmD)).depth<=64:=by simp only[PyData.depth];have:=Gd nmD 1 rows λr hr=>(Ir (h r hr).2).2.1;omega
 rw[e,A0K e2];rfl
theorem Lm {f:Addr}{fd:FuncData}(F:Fun K "_law_is_list" "_law_is_list" C8 f fd)(T:Gi mg)(Dn:Fnd P w K mg base 1 "_law_apart" ["_law_one","_law_other"] (Ez K)):FnOk P w K mg base CX0 2 f fd ["_law_found","_law_orders_here"] (Ff K):=by
 refine F.ok La (λvs H Q E h=>?_) (λcdv A outer s H vs Q E hr h=>?_)
 . obtain⟨l,ys,rows,lo,yo,O,n,rfl,_⟩:=h;rfl
 obtain⟨l,ys,rows,lo,yo,O,n,rfl,hl,hL,hlo,hLo,hp,h720,hO,h10,hn,hN,k⟩:=h;have hu:=Cj hr;have hq:=Cf hr;have hyl:ys.length=rows.length:=by rw[<- IsL.length hL,A00]
 have hyo:yo.length=O.length:=by rw[<- IsL.length hLo,A00]
 have hlen:=hp.length_eq
 with_reducible refine⟨_,(A1 (C1 (PW.pt (aj8 (Ui (Nj (Aa (Ho (K:=K)) ⋯ T.b_isinstance PyProof.Rows.Boot.«isinstance» (A0 (pv 0) (A0 (Sz (v:=.ty "list") ⋯ T.b_list PyProof.Rows.Boot.«list» ⋯) A2))))) (a00 (Ae (Rw (K:=K) hq) (Bm ["_law_one"] [] [] ⋯ ⋯ ⋯ (An (K:=K) hu (pv 0)) (λ_ _ _ _=>(A7 (i:=0) (by with_unfolding_all (show(["_law_one"]:List Str).Nodup;decide +kernel)) ⋯ (by eq_refl))) (Ay nofun) (λ_ _ _ _=>(Es (Ui (Nj (Aa (Ho (K:=K)) ⋯ T.b_isinstance PyProof.Rows.Boot.«isinstance» (A0 (pv 0) (A0 (Sz (v:=.ty "tuple") ⋯ T.b_tuple PyProof.Rows.Boot.«tuple» ⋯) A2))))))) (λ_ _ _ _=>(pv 0))) (Co A2) (Al _))))) (A5 (Aj Ke)) Ao)
  (A1 (C1 (Ae (Rw (K:=K) hq) (Aa (Ki (K:=K)) ⋯ T.b_sorted PyProof.Rows.Boot.«sorted» (A0 (pv 0) A2)) (Aa (Ki (K:=K)) ⋯ T.b_sorted PyProof.Rows.Boot.«sorted» (A0 (pv 1) A2)) (Al _)) (A5 (Aj Ke)) Ao)
  (A5 (Aj (Eg (Bi (K:=K) hq) (Bm ["_law_k"] ["_law_found"] [0] ⋯ ⋯ ⋯ (Ce ⋯ T.b_range (A0 (Ai Fl (Aa (Am (K:=K)) ⋯ T.b_len PyProof.Rows.Boot.«len» (A0 (pv 0) A2)) A4) A2)) (λ_ _ _ _=>(A7 (i:=0) (by with_unfolding_all (show(["_law_k","_law_found"]:List Str).Nodup;decide +kernel)) ⋯ (by eq_refl))) (Ay nofun) (λ_ _ _ _=>(Es (Ae (Rw (K:=K) hq) (Az Dn (hr.mono nofun) ⋯ (A0 (Ar (A6 (K:=K) hu) (pv 1) (pv 0) (by ac_rfl)) (A0 (Ar (A6 (K:=K) hu) (pv 1) (Ai (Ah (K:=K)) (pv 0) A4) (by ac_rfl)) A2))) A4 (Al _)))) (λ_ _ _ _=>(pv 0))) (Co A2) (Al _)))))),?_⟩
 symm
 refine ap9 (SqL.of hl) (by rfl) ?_
 symm
 refine G3 (SqL.of hl) ?_;refine Ca (At (xs:=ys)) (λp i acc H1=>Same H H1/\acc=[]) (λp H' hp' e' h'=>⟨e',rfl⟩) (λp i acc H1 hP=>SqL.of (hP.1 _ _ hl)) (λp i x acc H1 hp' hx hi hl' hpa hP=>?_) (λp acc H1 hp' hpa hal hP=>?_)
 . obtain⟨e1,rfl⟩:=hP;obtain ⟨dr,hdr,hIr⟩:=IsL.get (IsL.mono e1 _ _ hL) hx;rw[A07] at hdr
   cases hro:rows[i]? with
   |none=>rw[hro] at hdr;cases hdr
   |some row=>
     rw[hro] at hdr
     cases hdr;obtain⟨ra,rfl,hSr⟩:=hIr.nm
     symm
     refine ac3 hSr (b:=true) (by first | rfl | kernel_rfl) ?_
     symm
     exact K5 hi hl' hpa ⟨e1,rfl⟩
 obtain⟨e1,rfl⟩:=hP
 symm
 refine Cp nofun λlz Hz hlz ez hz=>?_
 symm
 refine a58 (Is.of_lst (SqL.of (ez _ _ hpa)) .nil) (Is.of_lst (SqL.of hz) .nil) (by decide +kernel) (by decide +kernel) ⟨_,rfl,?_⟩;rw[show PyData.eqv (.list []) (.list [])=true by decide +kernel];replace e1:=e1.trans ez
 symm
 have hmO:∀ r∈O,r.length=n:=λr hr=>(hO r hr).1;have hmR:∀ r∈rows,r.length=n:=λr hr=>hmO r (hp.mem_iff.mp hr);refine Qv (.inl (SqL.of (e1 _ _ hl))) (IsL.mono e1 _ _ hL) ∅ hmR ∅ λp2 z2 q2 H2 hp2 e2 h2 hq2 hs2 hL2=>?_;have e02:=e1.trans e2
 symm
 refine Qv (.inl (SqL.of (e02 _ _ hlo))) (IsL.mono e02 _ _ hLo) ∅ hmO hn λp3 z3 q3 H3 hp3 e3 h3 hq3 hs3 hL3=>?_;have hqq:q2=q3:=T3 ((hq2.trans hp).trans hq3.symm) hs2 hs3;subst hqq;have hsh:SeqAt.shaped (PyData.list (q2.map nmD))=true:=a56 (λr hr=>⟨by rw[hmO r (hq3.mem_iff.mp hr)];exact h10,(hO r (hq3.mem_iff.mp hr)).2.1⟩) (by rw[hq3.length_eq];exact h720)
 symm
 refine a58 (Is.of_lst (SqL.of (e3 _ _ h2)) (IsL.mono e3 _ _ hL2)) (Is.of_lst (SqL.of h3) hL3) hsh hsh ⟨_,rfl,?_⟩;rw[a53]
 symm
 have e03:=e02.trans e3;rw[hyl];refine Ii ∅ ?_;refine Ca Bf (λp i acc H4=>Same H3 H4/\acc=[]) (λp H' hp' e' h'=>⟨e',rfl⟩) (λ_ _ _ _ _=>trivial) (λp i x acc H4 hp' hx hi hl' hpa hP=>?_) (λp acc H4 hp' hpa hal hP=>?_)
 . obtain⟨e4,rfl⟩:=hP;obtain⟨rfl,hin⟩:=Fn hx;have e04:=e03.trans e4;have hL4:=IsL.mono e04 _ _ hL;have g1:=A04 (show i<rows.length by omega);have g2:=A04 (show i+1<rows.length by omega);generalize rows[i]=a at g1;generalize rows[i+1]=b at g2;obtain⟨y1,hy1,hI1⟩:=IsL.at hL4 (show(rows.map nmD)[i]? = some (nmD a) by rw[A07,g1];rfl);obtain⟨y2,hy2,hI2⟩:=IsL.at hL4 (show(rows.map nmD)[i+1]? = some (nmD b) by rw[A07,g2];rfl);have ma:=hp.mem_iff.mp (A03 g1);have mb:=hp.mem_iff.mp (A03 g2);have d1:=hN i a b g1 g2
   symm
   refine Po (e04 _ _ hl) (show atI ys (0+((i:Nat):Int))=some y1 by rw[Int.zero_add];exact Bq hy1) ?_
   symm
   refine Po (e04 _ _ hl) (show atI ys (0+((i:Nat):Int)+1)=some y2 by rw[Int.zero_add];exact Bq (j:=i+1) hy2) ?_
   symm
   refine⟨y1,y2,a,b,rfl,hI1,hI2,(hO a ma).2.2 b mb,by rw[hmO a ma];exact h10,by rw[hmO b mb];exact h10,λH5 e5=>?_⟩;rw[d1]
   symm
   exact Xg (λh=>absurd rfl h) (λ_=>K5 hi hl' (e5 _ _ hpa) ⟨e4.trans e5,rfl⟩)
 obtain⟨e4,rfl⟩:=hP
 symm
 refine Cp nofun λl5 H5 hl5 e5 h5=>?_
 symm
 refine Xi (Is.of_lst (SqL.of (e5 _ _ hpa)) .nil) (Is.of_lst (SqL.of h5) .nil) (by decide +kernel) (by decide +kernel) ?_;rw[show PyData.eqv (.list []) (.list [])=true by decide +kernel];exact k H5 ((e03.trans e4).trans e5)
theorem av0 {a b:List Str}(h:Sw a b)(hn:b.Nodup):Qy a b=1:=by
 obtain⟨as,x,y,bs,rfl,rfl,hxy⟩:=h
 have hlt:(as++y :: x :: bs).idxOf y<(as++y :: x :: bs).idxOf x:=by have hp:=A14.mp (Ur hn);exact(A25.mp hp.2.1).1 x A0S
 rw[Zp,Tx hlt as,Ul (Ur hn)]
theorem Xy {a b:Int}(ha:0<=a/\a<=1000)(hb:0<=b/\b<=1000):(PyData.tuple [.str "none",.int a,.int b]).showable=true/\(PyData.tuple [.str "none",.int a,.int b]).shown.length<=sizeLine/\(PyData.tuple [.str "none",.int a,.int b]).depth<=100:=by
 refine Dk.told (p:=3) (w:=1000) (W:=3) ((an5 (p:=2) (w:=990) (W:=3) ⟨λe he=>?_,?_,by simp⟩).le ∅ ∅) ∅ ∅
 . simp only[List.mem_cons,List.not_mem_nil,or_false] at he;rcases he with rfl|rfl|rfl
   . exact⟨4,an6 (by unfold Asc;decide +kernel) nofun⟩
   . exact⟨150,Uq ∅⟩
   exact⟨150,Uq ∅⟩
 have h1:=(Uq (p:=1) (W:=1) (m:=a) ∅).wt;have h2:=(Uq (p:=1) (W:=1) (m:=b) ∅).wt;have h3:(PyData.str "none").weight=4:=by decide +kernel
 simp only[PyData.weightAll];rw[h3];omega
def SgF (K:W.Frag)(H:Hp)(t:Addr)(ns:List Str)(ps:List (Str×Str)):Prop:=
 (1<(Uv (Ak ps) ns).natAbs/\SqT K H t [.str "none",.int (((cnt (Ak ps) ns:Nat):Int)-((Ni (Ak ps) ns:Nat):Int)),.int ((Ni (Ak ps) ns:Nat):Int)]) \/
 (¬ 1<(Uv (Ak ps) ns).natAbs/\ps≠[]/\2<=cnt (Ak ps) ns/\(cnt (Ak ps) ns<=12->∀ r∈ext (Ak ps) ns.length ns,¬ HP (ext (Ak ps) ns.length ns) [r])/\SqT K H t [.str "open"]) \/
 (¬ 1<(Uv (Ak ps) ns).natAbs/\∃ l zs rs,SqT K H t [.str "list",.ref l]/\H l=some (.lst zs)/\IsL K H (rs.map nmD) zs/\FP (ext (Ak ps) ns.length ns) rs)
def Gn (K:W.Frag):Sp:=λvs H Q _=>∃ t v lo yo ns ps,vs=[.ref t,v,.ref lo]/\SgF K H t ns ps/\Is K H (hfD ns ps) v/\Half ns ps/\cnt (Ak ps) ns<=720/\H lo=some (.lst yo)/\Tps H (ext (Ak ps) ns.length ns) yo/\∀ H',Same H H'->Q (.bl true) H'
theorem Pg {f:Addr}{fd:FuncData}(F:Fun K "_law_right" "_law_right" Df f fd)(T:Gi mg)(Dn:Fnd P w K mg base 1 "_law_apart" ["_law_one","_law_other"] (Ez K))(Dv:Fnd P w K mg base 127 "_law_may_be_open" ["_law_half_here","_law_orders_here"] (Dd K))(G6:Fnd P w K mg base 2 "_law_is_list" ["_law_found","_law_orders_here"] (Ff K)):FnOk P w K mg base CX0 128 f fd ["_law_found","_law_half_here","_law_orders_here"] (Gn K):=by
 refine F.ok Gz (λvs H Q E h=>?_) (λcdv A outer s H vs Q E hr h=>?_)
 . obtain⟨t,v,lo,yo,ns,ps,rfl,_⟩:=h;rfl
 obtain⟨t,v,lo,yo,ns,ps,rfl,hS,hI,hH,hcn,hlo,hT,k⟩:=h;have hu:=Cj hr;have hq:=Cf hr;have hW:=hH.w;have h10:=hH.few;obtain⟨r0,hr0,hr1⟩:=Th hW;have hall:=aa5 hW h10;have hpm:∀ {r},r∈ext (Ak ps) ns.length ns->r.Perm ns:=fun {r} h=>((G5 _ _ _ _ hW.nd rfl).mp h).1;have hyl:yo.length=cnt (Ak ps) ns:=hT.len.symm;have hOr:OrO (ext (Ak ps) ns.length ns):=λr hr=>⟨by rw[(hpm hr).length_eq];exact h10,λz hz=>hH.names.2 z ((hpm hr).mem_iff.mp hz),(hpm hr).nodup_iff.mpr hW.nd⟩;have hole:=ar6 (Ak ps) ns
 with_reducible refine⟨_,(A1 (Ad (i:=3) Gz.nd ⋯ (by eq_refl) (Aa (Ih (K:=K) ⋯) ⋯ T.b_sum PyProof.Rows.Boot.«sum» (A0 (Bm ["_law_order"] ["_law_orders_here"] [2] ⋯ ⋯ ⋯ (An (K:=K) hu (pv 2)) (λ_ _ _ _=>(A7 (i:=0) (by with_unfolding_all (show(["_law_order","_law_orders_here"]:List Str).Nodup;decide +kernel)) ⋯ (by eq_refl))) (Ay nofun) (λ_ _ _ _=>Cr) (λ_ _ _ _=>(Ai Gb (Az Dn (hr.mono nofun) ⋯ (A0 (Ar (A6 (K:=K) hu) (pv 1) A4 (by ac_rfl)) (A0 (pv 0) A2))) A4))) A2)))
  (A1 (Ad (i:=4) Gz.nd ⋯ (by eq_refl) (Ai Fl (Aa (Am (K:=K)) ⋯ T.b_len PyProof.Rows.Boot.«len» (A0 (pv 2) A2)) (pv 3)))
  (A1 (C1 (Ae Nq (Aa W5 ⋯ T.b_abs PyProof.Rows.Boot.«abs» (A0 (Ai Fl (pv 4) (pv 3)) A2)) A4 (Al _)) (A5 (Aj (Eg (Bi (K:=K) hq) (Aa (M1 (K:=K) hq) ⋯ T.b_repr PyProof.Rows.Boot.«repr» (A0 (pv 0) A2)) (Aa (M1 (K:=K) hq) ⋯ T.b_repr PyProof.Rows.Boot.«repr» (A0 (Cb (A0 Av (A0 (pv 4) (A0 (pv 3) A2)))) A2)) (Al _)))) Ao)
  (A1 (C1 (Ae (Bi (K:=K) hq) (pv 0) (Cb (A0 Av A2)) (Al _)) (A5 (Aj (Az Dv (hr.mono nofun) ⋯ (A0 (pv 1) (A0 (pv 2) A2))))) Ao)
  (A5 (Aj (Vf (Aa (Ho (K:=K)) ⋯ T.b_isinstance PyProof.Rows.Boot.«isinstance» (A0 (pv 0) (A0 (Sz (v:=.ty "tuple") ⋯ T.b_tuple PyProof.Rows.Boot.«tuple» ⋯) A2))) (Vf (Eg (Bi (K:=K) hq) (Aa (Am (K:=K)) ⋯ T.b_len PyProof.Rows.Boot.«len» (A0 (pv 0) A2)) A4 (Al _)) (Vf (Eg (Bi (K:=K) hq) (Ar (A6 (K:=K) hu) (pv 0) A4 (by ac_rfl)) Av (Al _)) (Yh (Az G6 (hr.mono nofun) ⋯ (A0 (Ar (A6 (K:=K) hu) (pv 0) A4 (by ac_rfl)) (A0 (pv 2) A2))))))))))))),?_⟩
 symm
 refine G3 (SqL.of hlo) ?_
 refine Ca (At (xs:=yo)) (λq m acc H2=>Same H H2/\acc=((((ext (Ak ps) ns.length ns).take m).map λr=>((Qy r0 r % 2:Nat):Int))).map V.int)
  (λq H' hq' e' h'=>⟨e',rfl⟩) (λq m acc H2 hP=>SqL.of (hP.1 _ _ hlo)) (λq m x acc H2 hq' hx hm hl hqa hP=>?_) (λq acc H2 hq' hqa hal hP=>?_)
 . obtain⟨e2,rfl⟩:=hP;have hL2:=hT.same e2;obtain⟨xa,row,rfl,hro,hxa⟩:=hL2.at hx;obtain⟨y0,hy0,hy0a⟩:=hL2.get 0 r0 hr0;have m0:=A03 hr0;have m1:=A03 hro
   symm
   refine Po (e2 _ _ hlo) (show atI yo ((0:Nat):Int)=some (.ref y0) from Bq hy0) ?_
   symm
   refine⟨.ref y0,.ref xa,r0,row,rfl,Ig (SqT.of hy0a),Ig (SqT.of hxa),(hall r0 m0).2 row m1,(hall r0 m0).1,(hall row m1).1,λH3 e3=>?_⟩
   symm
   have hmod:((Qy r0 row:Nat):Int) % 2=((Qy r0 row % 2:Nat):Int):=by omega
   rw[hmod];refine Eu ∅ hm hl (e3 _ _ hqa) λH4 e4 h4=>?_;refine⟨(e2.trans e3).off hq' e4,?_⟩;rw[A0L,hro,A0A,A0A];rfl
 obtain⟨e2,rfl⟩:=hP;rw[hyl,show cnt (Ak ps) ns=(ext (Ak ps) ns.length ns).length from rfl,A0Q] at hqa;have h2l:=e2 _ _ hlo
 symm
 refine Z5 (.inl (SqL.of hqa)) (λn' hn'=>?_) (by rw[A00];exact A0C (A4U (show _=cnt (Ak ps) ns from rfl)) ∅) ?_
 . obtain⟨r,_,rfl⟩:=A0V.mp hn';omega
 rw[Ip (λr=>Qy r0 r % 2)];have hodd:((ext (Ak ps) ns.length ns).map λr=>Qy r0 r % 2).sum=Ni (Ak ps) ns:=by unfold Ni;rw[hr1]
 rw[hodd]
 symm
 rw[hyl];refine⟨_,rfl,?_⟩
 symm
 refine Hy (λhc=>?_) (λhc=>?_)
 . have hc':1<(Uv (Ak ps) ns).natAbs:=by unfold Uv;omega
   have hS':=hS.resolve_right (by rintro(h|h)<;>exact h.1 hc')
   obtain⟨t1,t2,t3⟩:=Xy (a:=((cnt (Ak ps) ns:Nat):Int)-((Ni (Ak ps) ns:Nat):Int)) (b:=((Ni (Ak ps) ns:Nat):Int)) ∅ ∅;have trip:∀ {H':Hp} {a:Addr},SqT K H' a [.str "none",.int (((cnt (Ak ps) ns:Nat):Int)-((Ni (Ak ps) ns:Nat):Int)),.int ((Ni (Ak ps) ns:Nat):Int)]->Is K H' (.tuple [.str "none",.int (((cnt (Ak ps) ns:Nat):Int)-((Ni (Ak ps) ns:Nat):Int)),.int ((Ni (Ak ps) ns:Nat):Int)]) (.ref a):=λh=>Is.of_tup h (.cons Hi (.cons (by simp only[Is]) (.one (by simp only[Is]))))
   symm
   refine Yj (trip (e2.seqT hS'.2)) t1 t2 t3 ?_
   symm
   refine C0 (Ab (by simp)) λt5 H5 ht5 e5 h5=>?_
   symm
   refine Yj (trip (SqT.of h5)) t1 t2 t3 ?_
   symm
   rw[A0K rfl];exact k H5 (e2.trans e5)
 have hc':¬ 1<(Uv (Ak ps) ns).natAbs:=by unfold Uv;omega
 rcases hS with h|⟨_,hps,h2',h12,hS⟩|⟨_,l,zs,rs,hS,hl,hL,hf⟩
 . exact absurd h.1 hc'
 . symm
   refine C0 (Ab (by simp)) λt5 H5 ht5 e5 h5=>?_;have e25:=e2.trans e5
   symm
   refine Xi (Is.of_tup (e25.seqT hS) (.one Hi)) (Is.of_tup (SqT.of h5) (.one Hi)) (by decide +kernel) (by decide +kernel) ⟨_,rfl,?_⟩;rw[show PyData.eqv (.tuple [.str "open"]) (.tuple [.str "open"])=true by decide +kernel]
   symm
   refine⟨v,lo,yo,ns,ps,rfl,hI.hf_fz e25.fz,hW,hps,λp hp=>⟨hH.names.2 _ (hH.mem hp).1,hH.names.2 _ (hH.mem hp).2⟩,e25 _ _ hlo,hT.same e25,hOr,h2',h12,λH6 e6=>?_⟩;exact k H6 (e25.trans e6)
 have hrm:∀ r∈rs,r∈ext (Ak ps) ns.length ns:=hf.2.1
 have hsh:SeqAt.shaped (PyData.tuple [.str "list",.list (rs.map nmD)])=true:=by
  unfold SeqAt.shaped
  have e:(PyData.tuple [.str "list",.list (rs.map nmD)]).canLay0=true:=Cs _ (by simp only[Ct,J0,Bool.and_true,Bool.and_eq_true];exact⟨by decide +kernel,Ei _ rs λr hr=>(Ir (hOr r (hrm r hr)).2.1).1⟩)
  have e2:(PyData.tuple [.str "list",.list (rs.map nmD)]).depth<=64:=by simp only[PyData.depth,PyData.depthAll];have:=Gd nmD 1 rs λr hr=>(Ir (hOr r (hrm r hr)).2.1).2.1;omega
  rw[e,A0K e2];rfl
 symm
 refine C0 (Ab (by simp)) λt5 H5 ht5 e5 h5=>?_;have e25:=e2.trans e5
 symm
 refine Xi (Is.of_tup (e25.seqT hS) (.cons Hi (.one (Is.of_lst (SqL.of (e25 _ _ hl)) (IsL.mono e25 _ _ hL))))) (Is.of_tup (SqT.of h5) (.one Hi)) hsh (by decide +kernel) ⟨_,rfl,?_⟩;rw[show PyData.eqv (.tuple [.str "list",.list (rs.map nmD)]) (.tuple [.str "open"])=false by simp only[PyData.eqv,PyData.eqvAll,Bool.and_false]]
 symm
 refine ac3 (e25.seqT hS) (b:=true) (by first | rfl | kernel_rfl) ?_
 symm
 have hS5:=e25.seqT hS;refine .inl ⟨.ref t,_,rfl,.inr ⟨_,hS5,rfl⟩,?_⟩
 symm
 refine Hy (λ_=>?_) (λh=>absurd rfl h)
 symm
 refine Iz hS5 (show atI _ ((0:Nat):Int)=_ from Bq rfl) ?_
 symm
 refine Iz hS5 (show atI _ ((1:Nat):Int)=_ from Bq rfl) ?_
 symm
 have hper:=(Tv hf.1 hrm (by rw[hf.2.2.2];exact A05 _)).symm;refine⟨l,zs,rs,lo,yo,_,ns.length,rfl,e25 _ _ hl,IsL.mono e25 _ _ hL,e25 _ _ hlo,Nv (hT.same e25),hper,hcn,λr hr=>⟨(hpm hr).length_eq,(hOr r hr).2.1,λr' hr' x hx=>(hall r hr).2 r' hr' x hx⟩,h10,?_,λi a b ha hb=>av0 (a54 hf.2.2.1 i a b ha hb) (hOr b (hrm b (A03 hb))).2.2,λH6 e6=>?_⟩
 . rcases Nat.eq_zero_or_pos ns.length with e|e
   . right
     rw[A0D.mp e];exact(show [([]:List Str)].length<2 by decide)
   exact .inl e
 exact k H6 (e25.trans e6)
def spLaw (K:W.Frag):Sp:=λvs H Q _=>∃(a:Addr) (ns:List Int),vs=[.ref a]/\SqL K H a (ns.map V.int)/\ns.length<=63/\∀ H',Q (.bl true) H'
theorem aq0 {K:W.Frag}{H:Hp}{Q:VK}{E:XK}{v:V}{ns:List Str}{ps:List (Str×Str)}(hI:Is K H (hfD ns ps) v)(hW:HalfW ns ps)(h10:ns.length<=10)(hNm:∀ z∈ns,Ry z=true)(hcn:cnt (Ak ps) ns<=720)
  (k:∀ t x xs H',Same H H'->SgF K H' t ns ps->SqT K H' t (.str x :: xs)->(x = "list" -> ∃ l zs,xs=[V.ref l]/\H l=none/\H' l=some (.lst zs))->Q (.ref t) H'):Em K [v] H Q E:=
 ⟨v,ns,ps,rfl,hI,hW,h10,hNm,hcn,λhc t H' e hS=>k t "none" _ H' e (.inl ⟨hc,hS⟩) hS λe=>absurd e nofun,λhc hps h2 h12 t H' e hS=>k t "open" _ H' e (.inr (.inl ⟨hc,hps,h2,h12,hS⟩)) hS λe=>absurd e nofun,λhc t l zs rs H' e hl hS h hL hf=>k t "list" _ H' e (.inr (.inr ⟨hc,l,zs,rs,hS,h,hL,hf⟩)) hS λ_=>⟨l,zs,rfl,hl,h⟩⟩
theorem ax8 {f:Addr}{fd:FuncData}(F:Fun K "law" "law" Pc f fd)(T:Gi mg)(Gw:Fnd P w K mg base 128 "single_list" ["half"] (Em K))(J7:Fnd P w K mg base 1 "_law_feed" ["_law_script"] (Ht K))(A9:Fnd P w K mg base 1 "_law_draw" ["_law_feed_here","_law_many"] (Bw K))(Gp:Fnd P w K mg base 2 "_law_orders" ["_law_half_here"] (G2 K))(K1:Fnd P w K mg base 5 "_law_few" ["_law_feed_here","_law_most"] (Ja K))(Ia:Fnd P w K mg base 128 "_law_right" ["_law_found","_law_half_here","_law_orders_here"] (Gn K)):FnOk P w K mg base CX0 129 f fd ["_law_script"] (spLaw K):=by
 refine F.ok L9 (λvs H Q E h=>?_) (λcdv A outer s H vs Q E hr h=>?_)
 . obtain⟨a,ns,rfl,_⟩:=h;rfl
 obtain⟨a,cs,rfl,hS,h63,k⟩:=h;have hu:=Cj hr;have hq:=Cf hr
 with_reducible refine⟨_,(A1 (Ad (i:=1) L9.nd ⋯ (by eq_refl) (Az J7 (hr.mono nofun) ⋯ (A0 (pv 0) A2)))
  (A1 (Bx A13 ⋯ (An (K:=K) hu (Co (A0 (Ar (A6 (K:=K) hu) (Co (A0 A4 (A0 A4 A2))) (Dx Rb ⋯ T.b_int PyProof.Rows.Boot.«int» (A0 (Eg (Bi (K:=K) hq) (Az A9 (hr.mono nofun) ⋯ (A0 (pv 1) (A0 A4 A2))) A4 (Al _)) A2)) (by ac_rfl)) (A0 A4 (A0 A4 A2))))) (A7 (i:=2) L9.nd ⋯ (by eq_refl))
  (A1 (Ad (i:=3) L9.nd ⋯ (by eq_refl) (Az K1 (hr.mono nofun) ⋯ (A0 (pv 1) (A0 (pv 2) A2))))
  (A1 (Ad (i:=4) L9.nd ⋯ (by eq_refl) (Az Gp (hr.mono nofun) ⋯ (A0 (pv 3) A2)))
  (A5 (Bx A13 ⋯ (Ce ⋯ T.b_range (A0 (Ai Fl A4 (Dx Rb ⋯ T.b_int PyProof.Rows.Boot.«int» (A0 (Eg Nq (Aa (Am (K:=K)) ⋯ T.b_len PyProof.Rows.Boot.«len» (A0 (pv 4) A2)) A4 (Al _)) A2))) A2)) (A7 (i:=5) L9.nd ⋯ (by eq_refl))
  (A1 (Ad (i:=6) L9.nd ⋯ (by eq_refl) (Az Gw (hr.mono nofun) ⋯ (A0 (pv 3) A2)))
  (A1 (C1 (Ui (Nj (Az Ia (hr.mono nofun) ⋯ (A0 (pv 6) (A0 (pv 3) (A0 (pv 4) A2)))))) (A5 (Aj Ke)) Ao)
  (A5 (C1 (Ae (Bi (K:=K) hq) (Ar (A6 (K:=K) hu) (pv 6) A4 (by ac_rfl)) Av (Al _)) (A5 (Ic (Tb (K:=K) A1W PySem.F.slot_list_clear PySem.F.type_list_clear (mm a67) (Ar (A6 (K:=K) hu) (pv 6) A4 (by ac_rfl))))) Ao)))))))))
  (A5 (Aj Ke)))),?_⟩
 symm
 refine⟨a,cs,rfl,hS,h63,λd l H1 hd hl e1 hF=>?_⟩
 symm
 refine Cp nofun λq2 H2 hq2 e2 h2=>?_;have hF2:=hF.same e2
 symm
 refine⟨d,l,_,rfl,hF2,by omega,by omega,λc H3 hc0 hc1 e3 hF3=>?_⟩;have h3:=e3 _ _ (hF2.lst h2) h2
 obtain⟨w,hw1,hw2,hw3⟩:∃ w:Int,atI [V.int 120,V.int 720] (if decide (V.int c=V.int 0)=true then 1 else 0)=some (.int w)/\1<=w/\w<=720:=by
  split
  . exact⟨720,rfl,by omega,by omega⟩
  exact⟨120,rfl,by omega,by omega⟩
 symm
 refine Po h3 hw1 ?_
 symm
 refine Cp (Ab (by simp)) λq4 H4 hq4 e4 h4=>?_;have hF4:=hF3.same e4
 have hql:q4≠l:=λz=>by obtain⟨_,_,_,_,_,g2,_⟩:=hF3;rw[z,g2] at hq4;cases hq4
 refine G3 (SqL.of h4) ?_;refine Ep (At (xs:=[V.int w,V.int 12,V.int 12])) (λi σ H5=>∃ x2 x3 x4 x5 x6,σ=[some (.ref a),some (.ref d),x2,x3,x4,x5,x6]/\Feed H5 d l/\H5 q4=some (.lst [V.int w,V.int 12,V.int 12])) ⟨_,_,_,_,_,rfl,hF4,h4⟩ (λi σ' H' hP=>?_) (λi x σ H5 hx hi hP=>?_) (fun σ H5 hP=>?_)
 . obtain⟨_,_,_,_,_,_,_,h⟩:=hP;exact SqL.of h
 . obtain⟨x2,x3,x4,x5,x6,rfl,hF5,h5⟩:=hP
   obtain⟨m,rfl,hm1,hm2⟩:∃ m:Int,x = .int m/\1<=m/\m<=720:=by
    have:=A03 hx;simp only[List.mem_cons,List.not_mem_nil,or_false] at this;rcases this with rfl|rfl|rfl
    . exact⟨w,rfl,hw2,hw3⟩
    . exact⟨12,rfl,by omega,by omega⟩
    exact⟨12,rfl,by omega,by omega⟩
   symm
   refine⟨d,l,m,rfl,hF5,hm1,λv6 n6 s6 H6 e6 hF6 hI6 hH hc6=>?_⟩;have h6:=e6 _ _ (hF5.lst h5) h5;have hW:=hH.w;have h10:=hH.few;have hcn:cnt (Ak s6) n6<=720:=by omega
   symm
   refine⟨v6,n6,s6,rfl,hI6,hW,h10,hH.ok4,by omega,λl7 ys7 H7 hl7 e7 h7 hT7=>?_⟩
   symm
   refine Ii (by split<;>omega) ?_
   refine Ep Bf (λj σ H8=>∃ x5 x6,σ=[some (.ref a),some (.ref d),some (.int m),some v6,some (.ref l7),x5,x6]/\Same H7 H8) ⟨_,_,rfl,.refl _⟩ (λ_ _ _ _=>trivial) (λj x σ H8 hx8 hj hP=>?_) (fun σ H8 hP=>?_)
   . obtain⟨y5,y6,rfl,e8⟩:=hP;have hI8:=hI6.hf_fz (e7.trans e8).fz
     symm
     refine aq0 hI8 hW h10 hH.names.2 hcn λt z zs H9 e9 hSg hSt hlist=>?_;have e79:=e8.trans e9
     symm
     refine⟨t,v6,l7,ys7,n6,s6,rfl,hSg,hI8.hf_fz e9.fz,hH,hcn,e79 _ _ h7,hT7.same e79,λH10 e10=>?_⟩;have hS10:=e10.seqT hSt
     symm
     refine Iz hS10 (show atI _ ((0:Nat):Int)=_ from Bq rfl) ?_
     symm
     refine Hy (λhz=>?_) (λhz=>?_)
     . obtain⟨l',zs',rfl,hl',hz'⟩:=hlist (by injection hz)
       symm
       refine Iz hS10 (show atI _ ((1:Nat):Int)=_ from Bq rfl) ?_
       symm
       refine ag9 (e10 _ _ hz') λH11 e11 h11=>?_
       symm
       exact⟨_,_,rfl,(e79.trans e10).off (e8.free hl') e11⟩
     symm
     exact⟨_,_,rfl,e79.trans e10⟩
   obtain⟨y5,y6,rfl,e8⟩:=hP;exact⟨_,_,_,_,_,rfl,(hF6.same e7).same e8,(e7.trans e8) _ _ h6⟩
 obtain⟨x2,x3,x4,x5,x6,rfl,hF5,h5⟩:=hP
 symm
 exact k H5
end
theorem all_mk {l:W.OpenLaw}{w:World}{K:W.Frag}{h:Heap}{mg:Str->Option Value}{fa f0 f1 f2 f3 f4 f5 f6 f7 f8 f9 f10 f11 f12 f13 f14 f15 f16 f17 f18 f19 f20 f21 f22 f23 f24 f25 f26 f27 f28 f29 f30 f31 f32 f33 C_Ways:Addr}(X:K.In h)(G:h.Ns mainGlobals mg)(hfa:mg "law" = some (.ref fa))
  {D0 N0 D1 N1 D2 N2 D3 N3 D4 N4 D5 N5 D6 N6 D7 N7 D8 N8 D9 N9 D10 N10 D11 N11 D12 N12 D13 N13 D14 N14 D15 N15 D16 N16 D17 N17 D18 N18 D19 N19 D20 N20 D21 N21 D22 N22 D23 N23 D24 N24 D25 N25 D26 N26 D27 N27 D28 N28 D29 N29 D30 N30 D31 N31 D32 N32 D33 N33:Option Addr} {S0 S1 S2 S3 S4 S5 S6 S7 S8 S9 S10 S11 S12 S13 S14 S15 S16 S17 S18 S19 S20 S21 S22 S23 S24 S25 S26 S27 S28 S29 S30 S31 S32 S33:Array (Option Value)} {O0 V0 E0 P0 Q0 U0 O1 V1 E1 P1 Q1 U1 O2 V2 E2 P2 Q2 U2 O3 V3 E3 P3 Q3 U3 O4 V4 E4 P4 Q4 U4 O5 V5 E5 P5 Q5 U5 O6 V6 E6 P6 Q6 U6 O7 V7 E7 P7 Q7 U7 O8 V8 E8 P8 Q8 U8 O9 V9 E9 P9 Q9 U9 O10 V10 E10 P10 Q10 U10 O11 V11 E11 P11 Q11 U11 O12 V12 E12 P12 Q12 U12 O13 V13 E13 P13 Q13 U13 O14 V14 E14 P14 Q14 U14 O15 V15 E15 P15 Q15 U15 O16 V16 E16 P16 Q16 U16 O17 V17 E17 P17 Q17 U17 O18 V18 E18 P18 Q18 U18 O19 V19 E19 P19 Q19 U19 O20 V20 E20 P20 Q20 U20 O21 V21 E21 P21 Q21 U21 O22 V22 E22 P22 Q22 U22 O23 V23 E23 P23 Q23 U23 O24 V24 E24 P24 Q24 U24 O25 V25 E25 P25 Q25 U25 O26 V26 E26 P26 Q26 U26 O27 V27 E27 P27 Q27 U27 O28 V28 E28 P28 Q28 U28 O29 V29 E29 P29 Q29 U29 O30 V30 E30 P30 Q30 U30 O31 V31 E31 P31 Q31 U31 O32 V32 E32 P32 Q32 U32 O33 V33 E33 P33 Q33 U33:Value}
  (aC_Ways:W.nsIn K mainGlobals "Ways" = some (some (.ref C_Ways))) (pg_Ways:W.plainGet K C_Ways Str.empty=true) (hd_Ways:W.hasDictIn K C_Ways=true) (po_Ways:W.plainOver K C_Ways=true) (sa_Ways:W.findIn K (.ref C_Ways) "__setattr__" = some (some (.builtin "object.__setattr__"))) (mk_Ways:W.makesIn K C_Ways=true) (kc_Ways:W.keepIn K (.ref C_Ways)=true)
  (n_Ways_names:W.findIn K (.ref C_Ways) "names" = some none)
  (n_Ways_bits:W.findIn K (.ref C_Ways) "bits" = some none)
  (n_Ways_ahead:W.findIn K (.ref C_Ways) "ahead" = some none)
  (n_Ways_full:W.findIn K (.ref C_Ways) "full" = some none)
  (n_Ways_known:W.findIn K (.ref C_Ways) "known" = some none)
  (a0:W.nsIn K mainGlobals "behind_each" = some (some (.ref f0))) (l0:K.lookup f0=some ⟨O0,D0,.func (W.fnOf "behind_each" "behind_each" (Ag Ch) (Af Ch) (A3 Ch) .none V0 E0 P0 N0 Q0 U0),S0⟩) (c0:W.codeIn K Q0 "behind_each" = true) (k0:W.keepIn K (.ref f0)=true)
  (a1:W.nsIn K mainGlobals "bits_of" = some (some (.ref f1))) (l1:K.lookup f1=some ⟨O1,D1,.func (W.fnOf "bits_of" "bits_of" (Ag Gf) (Af Gf) (A3 Gf) .none V1 E1 P1 N1 Q1 U1),S1⟩) (c1:W.codeIn K Q1 "bits_of" = true) (k1:W.keepIn K (.ref f1)=true)
  (a2:W.nsIn K mainGlobals "bits_ahead" = some (some (.ref f2))) (l2:K.lookup f2=some ⟨O2,D2,.func (W.fnOf "bits_ahead" "bits_ahead" (Ag Di) (Af Di) (A3 Di) .none V2 E2 P2 N2 Q2 U2),S2⟩) (c2:W.codeIn K Q2 "bits_ahead" = true) (k2:W.keepIn K (.ref f2)=true)
  (a3:W.nsIn K mainGlobals "orders_on" = some (some (.ref f3))) (l3:K.lookup f3=some ⟨O3,D3,.func (W.fnOf "orders_on" "orders_on" (Ag Dc) (Af Dc) (A3 Dc) .none V3 E3 P3 N3 Q3 U3),S3⟩) (c3:W.codeIn K Q3 "orders_on" = true) (k3:W.keepIn K (.ref f3)=true)
  (a4:W.nsIn K mainGlobals "all_orders" = some (some (.ref f4))) (l4:K.lookup f4=some ⟨O4,D4,.func (W.fnOf "all_orders" "all_orders" (Ag Do) (Af Do) (A3 Do) .none V4 E4 P4 N4 Q4 U4),S4⟩) (c4:W.codeIn K Q4 "all_orders" = true) (k4:W.keepIn K (.ref f4)=true)
  (a5:W.nsIn K mainGlobals "pairs_apart" = some (some (.ref f5))) (l5:K.lookup f5=some ⟨O5,D5,.func (W.fnOf "pairs_apart" "pairs_apart" (Ag Cg) (Af Cg) (A3 Cg) .none V5 E5 P5 N5 Q5 U5),S5⟩) (c5:W.codeIn K Q5 "pairs_apart" = true) (k5:W.keepIn K (.ref f5)=true)
  (a6:W.nsIn K mainGlobals "swapped" = some (some (.ref f6))) (l6:K.lookup f6=some ⟨O6,D6,.func (W.fnOf "swapped" "swapped" (Ag Gg) (Af Gg) (A3 Gg) .none V6 E6 P6 N6 Q6 U6),S6⟩) (c6:W.codeIn K Q6 "swapped" = true) (k6:W.keepIn K (.ref f6)=true)
  (a7:W.nsIn K mainGlobals "sides" = some (some (.ref f7))) (l7:K.lookup f7=some ⟨O7,D7,.func (W.fnOf "sides" "sides" (Ag Jw) (Af Jw) (A3 Jw) .none V7 E7 P7 N7 Q7 U7),S7⟩) (c7:W.codeIn K Q7 "sides" = true) (k7:W.keepIn K (.ref f7)=true)
  (a8:W.nsIn K mainGlobals "to_and_fro" = some (some (.ref f8))) (l8:K.lookup f8=some ⟨O8,D8,.func (W.fnOf "to_and_fro" "to_and_fro" (Ag Cd) (Af Cd) (A3 Cd) .none V8 E8 P8 N8 Q8 U8),S8⟩) (c8:W.codeIn K Q8 "to_and_fro" = true) (k8:W.keepIn K (.ref f8)=true)
  (a9:W.nsIn K mainGlobals "orders_by_one_swap" = some (some (.ref f9))) (l9:K.lookup f9=some ⟨O9,D9,.func (W.fnOf "orders_by_one_swap" "orders_by_one_swap" (Ag Aw) (Af Aw) (A3 Aw) .none V9 E9 P9 N9 Q9 U9),S9⟩) (c9:W.codeIn K Q9 "orders_by_one_swap" = true) (k9:W.keepIn K (.ref f9)=true)
  (a10:W.nsIn K mainGlobals "single_list_on" = some (some (.ref f10))) (l10:K.lookup f10=some ⟨O10,D10,.func (W.fnOf "single_list_on" "single_list_on" (Ag B4) (Af B4) (A3 B4) .none V10 E10 P10 N10 Q10 U10),S10⟩) (c10:W.codeIn K Q10 "single_list_on" = true) (k10:W.keepIn K (.ref f10)=true)
  (a11:W.nsIn K mainGlobals "searched_single_list" = some (some (.ref f11))) (l11:K.lookup f11=some ⟨O11,D11,.func (W.fnOf "searched_single_list" "searched_single_list" (Ag As) (Af As) (A3 As) .none V11 E11 P11 N11 Q11 U11),S11⟩) (c11:W.codeIn K Q11 "searched_single_list" = true) (k11:W.keepIn K (.ref f11)=true)
  (a12:W.nsIn K mainGlobals "single_list" = some (some (.ref f12))) (l12:K.lookup f12=some ⟨O12,D12,.func (W.fnOf "single_list" "single_list" (Ag Ck) (Af Ck) (A3 Ck) .none V12 E12 P12 N12 Q12 U12),S12⟩) (c12:W.codeIn K Q12 "single_list" = true) (k12:W.keepIn K (.ref f12)=true)
  (a13:W.nsIn K mainGlobals "_law_feed" = some (some (.ref f13))) (l13:K.lookup f13=some ⟨O13,D13,.func (W.fnOf "_law_feed" "_law_feed" (Ag Dz) (Af Dz) (A3 Dz) .none V13 E13 P13 N13 Q13 U13),S13⟩) (c13:W.codeIn K Q13 "_law_feed" = true) (k13:W.keepIn K (.ref f13)=true)
  (a14:W.nsIn K mainGlobals "_law_draw" = some (some (.ref f14))) (l14:K.lookup f14=some ⟨O14,D14,.func (W.fnOf "_law_draw" "_law_draw" (Ag Ee) (Af Ee) (A3 Ee) .none V14 E14 P14 N14 Q14 U14),S14⟩) (c14:W.codeIn K Q14 "_law_draw" = true) (k14:W.keepIn K (.ref f14)=true)
  (a15:W.nsIn K mainGlobals "_law_shuffled" = some (some (.ref f15))) (l15:K.lookup f15=some ⟨O15,D15,.func (W.fnOf "_law_shuffled" "_law_shuffled" (Ag Bt) (Af Bt) (A3 Bt) .none V15 E15 P15 N15 Q15 U15),S15⟩) (c15:W.codeIn K Q15 "_law_shuffled" = true) (k15:W.keepIn K (.ref f15)=true)
  (a16:W.nsIn K mainGlobals "_law_names" = some (some (.ref f16))) (l16:K.lookup f16=some ⟨O16,D16,.func (W.fnOf "_law_names" "_law_names" (Ag Dm) (Af Dm) (A3 Dm) .none V16 E16 P16 N16 Q16 U16),S16⟩) (c16:W.codeIn K Q16 "_law_names" = true) (k16:W.keepIn K (.ref f16)=true)
  (a17:W.nsIn K mainGlobals "_law_is_laid" = some (some (.ref f17))) (l17:K.lookup f17=some ⟨O17,D17,.func (W.fnOf "_law_is_laid" "_law_is_laid" (Ag C7) (Af C7) (A3 C7) .none V17 E17 P17 N17 Q17 U17),S17⟩) (c17:W.codeIn K Q17 "_law_is_laid" = true) (k17:W.keepIn K (.ref f17)=true)
  (a18:W.nsIn K mainGlobals "_law_half" = some (some (.ref f18))) (l18:K.lookup f18=some ⟨O18,D18,.func (W.fnOf "_law_half" "_law_half" (Ag Ej) (Af Ej) (A3 Ej) .none V18 E18 P18 N18 Q18 U18),S18⟩) (c18:W.codeIn K Q18 "_law_half" = true) (k18:W.keepIn K (.ref f18)=true)
  (a19:W.nsIn K mainGlobals "_law_over" = some (some (.ref f19))) (l19:K.lookup f19=some ⟨O19,D19,.func (W.fnOf "_law_over" "_law_over" (Ag Ek) (Af Ek) (A3 Ek) .none V19 E19 P19 N19 Q19 U19),S19⟩) (c19:W.codeIn K Q19 "_law_over" = true) (k19:W.keepIn K (.ref f19)=true)
  (a20:W.nsIn K mainGlobals "_law_next_ones" = some (some (.ref f20))) (l20:K.lookup f20=some ⟨O20,D20,.func (W.fnOf "_law_next_ones" "_law_next_ones" (Ag Bg) (Af Bg) (A3 Bg) .none V20 E20 P20 N20 Q20 U20),S20⟩) (c20:W.codeIn K Q20 "_law_next_ones" = true) (k20:W.keepIn K (.ref f20)=true)
  (a21:W.nsIn K mainGlobals "_law_orders" = some (some (.ref f21))) (l21:K.lookup f21=some ⟨O21,D21,.func (W.fnOf "_law_orders" "_law_orders" (Ag Ci) (Af Ci) (A3 Ci) .none V21 E21 P21 N21 Q21 U21),S21⟩) (c21:W.codeIn K Q21 "_law_orders" = true) (k21:W.keepIn K (.ref f21)=true)
  (a22:W.nsIn K mainGlobals "_law_count" = some (some (.ref f22))) (l22:K.lookup f22=some ⟨O22,D22,.func (W.fnOf "_law_count" "_law_count" (Ag Dq) (Af Dq) (A3 Dq) .none V22 E22 P22 N22 Q22 U22),S22⟩) (c22:W.codeIn K Q22 "_law_count" = true) (k22:W.keepIn K (.ref f22)=true)
  (a23:W.nsIn K mainGlobals "_law_few" = some (some (.ref f23))) (l23:K.lookup f23=some ⟨O23,D23,.func (W.fnOf "_law_few" "_law_few" (Ag Fe) (Af Fe) (A3 Fe) .none V23 E23 P23 N23 Q23 U23),S23⟩) (c23:W.codeIn K Q23 "_law_few" = true) (k23:W.keepIn K (.ref f23)=true)
  (a24:W.nsIn K mainGlobals "_law_apart" = some (some (.ref f24))) (l24:K.lookup f24=some ⟨O24,D24,.func (W.fnOf "_law_apart" "_law_apart" (Ag Dh) (Af Dh) (A3 Dh) .none V24 E24 P24 N24 Q24 U24),S24⟩) (c24:W.codeIn K Q24 "_law_apart" = true) (k24:W.keepIn K (.ref f24)=true)
  (a25:W.nsIn K mainGlobals "_law_swaps" = some (some (.ref f25))) (l25:K.lookup f25=some ⟨O25,D25,.func (W.fnOf "_law_swaps" "_law_swaps" (Ag Dp) (Af Dp) (A3 Dp) .none V25 E25 P25 N25 Q25 U25),S25⟩) (c25:W.codeIn K Q25 "_law_swaps" = true) (k25:W.keepIn K (.ref f25)=true)
  (a26:W.nsIn K mainGlobals "_law_goes_on" = some (some (.ref f26))) (l26:K.lookup f26=some ⟨O26,D26,.func (W.fnOf "_law_goes_on" "_law_goes_on" (Ag Bo) (Af Bo) (A3 Bo) .none V26 E26 P26 N26 Q26 U26),S26⟩) (c26:W.codeIn K Q26 "_law_goes_on" = true) (k26:W.keepIn K (.ref f26)=true)
  (a27:W.nsIn K mainGlobals "_law_may_be_open" = some (some (.ref f27))) (l27:K.lookup f27=some ⟨O27,D27,.func (W.fnOf "_law_may_be_open" "_law_may_be_open" (Ag B1) (Af B1) (A3 B1) .none V27 E27 P27 N27 Q27 U27),S27⟩) (c27:W.codeIn K Q27 "_law_may_be_open" = true) (k27:W.keepIn K (.ref f27)=true)
  (a28:W.nsIn K mainGlobals "_law_is_list" = some (some (.ref f28))) (l28:K.lookup f28=some ⟨O28,D28,.func (W.fnOf "_law_is_list" "_law_is_list" (Ag C8) (Af C8) (A3 C8) .none V28 E28 P28 N28 Q28 U28),S28⟩) (c28:W.codeIn K Q28 "_law_is_list" = true) (k28:W.keepIn K (.ref f28)=true)
  (a29:W.nsIn K mainGlobals "_law_right" = some (some (.ref f29))) (l29:K.lookup f29=some ⟨O29,D29,.func (W.fnOf "_law_right" "_law_right" (Ag Df) (Af Df) (A3 Df) .none V29 E29 P29 N29 Q29 U29),S29⟩) (c29:W.codeIn K Q29 "_law_right" = true) (k29:W.keepIn K (.ref f29)=true)
  (a30:W.nsIn K mainGlobals "law" = some (some (.ref f30))) (l30:K.lookup f30=some ⟨O30,D30,.func (W.fnOf "law" "law" (Ag Pc) (Af Pc) (A3 Pc) .none V30 E30 P30 N30 Q30 U30),S30⟩) (c30:W.codeIn K Q30 "law" = true) (k30:W.keepIn K (.ref f30)=true)
  (a31:W.findIn K (.ref C_Ways) "__init__" = some (some (.ref f31))) (i31:W.isFn K (.ref f31)=true) (l31:K.lookup f31=some ⟨O31,D31,.func (W.fnOf "__init__" "Ways.__init__" (Ag Ef) (Af Ef) (A3 Ef) .none V31 E31 P31 N31 Q31 U31),S31⟩) (c31:W.codeIn K Q31 "Ways.__init__" = true) (k31:W.keepIn K (.ref f31)=true)
  (a32:W.findIn K (.ref C_Ways) "free_names" = some (some (.ref f32))) (i32:W.isFn K (.ref f32)=true) (l32:K.lookup f32=some ⟨O32,D32,.func (W.fnOf "free_names" "Ways.free_names" (Ag B8) (Af B8) (A3 B8) .none V32 E32 P32 N32 Q32 U32),S32⟩) (c32:W.codeIn K Q32 "Ways.free_names" = true) (k32:W.keepIn K (.ref f32)=true)
  (a33:W.findIn K (.ref C_Ways) "ways_on" = some (some (.ref f33))) (i33:W.isFn K (.ref f33)=true) (l33:K.lookup f33=some ⟨O33,D33,.func (W.fnOf "ways_on" "Ways.ways_on" (Ag Bp) (Af Bp) (A3 Bp) .none V33 E33 P33 N33 Q33 U33),S33⟩) (c33:W.codeIn K Q33 "Ways.ways_on" = true) (k33:W.keepIn K (.ref f33)=true)
  {t0:Tok} (g0:W.nsIn K mainGlobals "MOST_LISTED" = some (some (.int 720 t0)))
  {t1:Tok} (g1:W.nsIn K mainGlobals "MOST_SEARCHED" = some (some (.int 12 t1)))
  (z0:W.nsIn K mainGlobals "abs" = some none)
  (z1:W.nsIn K mainGlobals "dict" = some none)
  (z2:W.nsIn K mainGlobals "enumerate" = some none)
  (z3:W.nsIn K mainGlobals "int" = some none)
  (z4:W.nsIn K mainGlobals "isinstance" = some none)
  (z5:W.nsIn K mainGlobals "len" = some none)
  (z6:W.nsIn K mainGlobals "list" = some none)
  (z7:W.nsIn K mainGlobals "range" = some none)
  (z8:W.nsIn K mainGlobals "repr" = some none)
  (z9:W.nsIn K mainGlobals "sorted" = some none)
  (z10:W.nsIn K mainGlobals "sum" = some none)
  (z11:W.nsIn K mainGlobals "tuple" = some none)
  : ∃ fd:FuncData,(∀(s:Shared) (v:Value),BindsTo s fd ⟨[v],[]⟩ [("_law_script",v)])/\∀ base:Heap,K.In base->base.Ns mainGlobals mg->FnOk l.prog w K mg base CX0 129 fa fd ["_law_script"] (spLaw K):=by
 have e:=hfa.symm.trans (A0U X G a30)
 cases e;have T:Gi mg:=⟨⟨_,A0U X G g0,⟨_,rfl⟩⟩,⟨_,A0U X G g1,⟨_,rfl⟩⟩,A1N X G z0,A1N X G z1,A1N X G z2,A1N X G z3,A1N X G z4,A1N X G z5,A1N X G z6,A1N X G z7,A1N X G z8,A1N X G z9,A1N X G z10,A1N X G z11⟩;have F0:=B3 (st:=Ch) l0 c0 k0;have b0:Binds K _ ["half"] []:=Fv F0 λ_ _ _ _ _ _ _=>rfl;have F1:=B3 (st:=Gf) l1 c1 k1;have b1:Binds K _ ["names"] []:=Fv F1 λ_ _ _ _ _ _ _=>rfl;have F2:=B3 (st:=Di) l2 c2 k2;have b2:Binds K _ ["half","bits"] []:=Ev F2 λ_ _ _ _ _ _ _ _=>rfl;have F3:=B3 (st:=Dc) l3 c3 k3;have b3:Binds K _ ["ways","left"] []:=Ev F3 λ_ _ _ _ _ _ _ _=>rfl;have F4:=B3 (st:=Do) l4 c4 k4;have b4:Binds K _ ["half"] []:=Fv F4 λ_ _ _ _ _ _ _=>rfl;have F5:=B3 (st:=Cg) l5 c5 k5;have b5:Binds K _ ["one","other"] []:=Ev F5 λ_ _ _ _ _ _ _ _=>rfl;have F6:=B3 (st:=Gg) l6 c6 k6;have b6:Binds K _ ["order","place"] []:=Ev F6 λ_ _ _ _ _ _ _ _=>rfl;have F7:=B3 (st:=Jw) l7 c7 k7;have b7:Binds K _ ["half"] []:=Fv F7 λ_ _ _ _ _ _ _=>rfl;have F8:=B3 (st:=Cd) l8 c8 k8;have b8:Binds K _ ["names"] []:=Fv F8 λ_ _ _ _ _ _ _=>rfl;have F9:=B3 (st:=Aw) l9 c9 k9;have b9:Binds K _ ["orders"] []:=Fv F9 λ_ _ _ _ _ _ _=>rfl;have F10:=B3 (st:=B4) l10 c10 k10;have b10:Binds K _ ["near","begun"] []:=Ev F10 λ_ _ _ _ _ _ _ _=>rfl;have F11:=B3 (st:=As) l11 c11 k11;have b11:Binds K _ ["orders"] []:=Fv F11 λ_ _ _ _ _ _ _=>rfl;have F12:=B3 (st:=Ck) l12 c12 k12;have b12:Binds K _ ["half"] []:=Fv F12 λ_ _ _ _ _ _ _=>rfl;have F13:=B3 (st:=Dz) l13 c13 k13;have b13:Binds K _ ["_law_script"] []:=Fv F13 λ_ _ _ _ _ _ _=>rfl;have F14:=B3 (st:=Ee) l14 c14 k14;have b14:Binds K _ ["_law_feed_here","_law_many"] []:=Ev F14 λ_ _ _ _ _ _ _ _=>rfl;have F15:=B3 (st:=Bt) l15 c15 k15;have b15:Binds K _ ["_law_feed_here","_law_some"] []:=Ev F15 λ_ _ _ _ _ _ _ _=>rfl;have F16:=B3 (st:=Dm) l16 c16 k16;have b16:Binds K _ ["_law_feed_here"] []:=Fv F16 λ_ _ _ _ _ _ _=>rfl;have F17:=B3 (st:=C7) l17 c17 k17;have b17:Binds K _ ["_law_feed_here","_law_way","_law_j","_law_k","_law_many"] []:=ay5 F17 λ_ _ _ _ _ _ _ _ _ _ _=>rfl;have F18:=B3 (st:=Ej) l18 c18 k18;have b18:Binds K _ ["_law_feed_here","_law_many"] []:=Ev F18 λ_ _ _ _ _ _ _ _=>rfl;have F19:=B3 (st:=Ek) l19 c19 k19;have b19:Binds K _ ["_law_half_here"] []:=Fv F19 λ_ _ _ _ _ _ _=>rfl;have F20:=B3 (st:=Bg) l20 c20 k20;have b20:Binds K _ ["_law_half_here","_law_over_here","_law_begun"] []:=ad8 F20 λ_ _ _ _ _ _ _ _ _=>rfl;have F21:=B3 (st:=Ci) l21 c21 k21;have b21:Binds K _ ["_law_half_here"] []:=Fv F21 λ_ _ _ _ _ _ _=>rfl;have F22:=B3 (st:=Dq) l22 c22 k22;have b22:Binds K _ ["_law_half_here"] []:=Fv F22 λ_ _ _ _ _ _ _=>rfl;have F23:=B3 (st:=Fe) l23 c23 k23;have b23:Binds K _ ["_law_feed_here","_law_most"] []:=Ev F23 λ_ _ _ _ _ _ _ _=>rfl;have F24:=B3 (st:=Dh) l24 c24 k24;have b24:Binds K _ ["_law_one","_law_other"] []:=Ev F24 λ_ _ _ _ _ _ _ _=>rfl;have F25:=B3 (st:=Dp) l25 c25 k25;have b25:Binds K _ ["_law_orders_here"] []:=Fv F25 λ_ _ _ _ _ _ _=>rfl;have F26:=B3 (st:=Bo) l26 c26 k26;have b26:Binds K _ ["_law_near","_law_walk"] []:=Ev F26 λ_ _ _ _ _ _ _ _=>rfl;have F27:=B3 (st:=B1) l27 c27 k27;have b27:Binds K _ ["_law_half_here","_law_orders_here"] []:=Ev F27 λ_ _ _ _ _ _ _ _=>rfl;have F28:=B3 (st:=C8) l28 c28 k28;have b28:Binds K _ ["_law_found","_law_orders_here"] []:=Ev F28 λ_ _ _ _ _ _ _ _=>rfl;have F29:=B3 (st:=Df) l29 c29 k29;have b29:Binds K _ ["_law_found","_law_half_here","_law_orders_here"] []:=ad8 F29 λ_ _ _ _ _ _ _ _ _=>rfl;have F30:=B3 (st:=Pc) l30 c30 k30;have F31:=B3 (st:=Ef) l31 c31 k31;have b31:Binds K _ ["self","half"] []:=Ev F31 λ_ _ _ _ _ _ _ _=>rfl;have F32:=B3 (st:=B8) l32 c32 k32;have b32:Binds K _ ["self","left"] []:=Ev F32 λ_ _ _ _ _ _ _ _=>rfl;have F33:=B3 (st:=Bp) l33 c33 k33;have b33:Binds K _ ["self","left"] []:=Ev F33 λ_ _ _ _ _ _ _ _=>rfl;have k_Ways:Fx K C_Ways:=⟨⟨pg_Ways,hd_Ways,po_Ways,sa_Ways⟩,n_Ways_names,n_Ways_bits,n_Ways_ahead,n_Ways_full,n_Ways_known⟩;refine⟨W.fnOf "law" "law" (Ag Pc) (Af Pc) (A3 Pc) .none V30 E30 P30 N30 Q30 U30,λs v=>.of_eq rfl,λbase _ _=>?_⟩;have He:Fnd l.prog w K mg base 1 "behind_each" ["half"] (G7 K):=⟨_,_,Ml F0 T,A0U X G a0,k0,b0⟩;have M4:Fnd l.prog w K mg base 1 "bits_of" ["names"] (Kf K):=⟨_,_,Ws F1 T,A0U X G a1,k1,b1⟩;have Go:Fnd l.prog w K mg base 1 "pairs_apart" ["one","other"] (El K):=⟨_,_,Mh F5 T,A0U X G a5,k5,b5⟩;have Lk:Fnd l.prog w K mg base 1 "swapped" ["order","place"] (K7 K):=⟨_,_,Wo F6 T,A0U X G a6,k6,b6⟩;have J7:Fnd l.prog w K mg base 1 "_law_feed" ["_law_script"] (Ht K):=⟨_,_,Rv F13 T,A0U X G a13,k13,b13⟩;have A9:Fnd l.prog w K mg base 1 "_law_draw" ["_law_feed_here","_law_many"] (Bw K):=⟨_,_,Qf F14 T,A0U X G a14,k14,b14⟩;have Eh:Fnd l.prog w K mg base 1 "_law_over" ["_law_half_here"] (Fw K):=⟨_,_,Ra F19 T,A0U X G a19,k19,b19⟩;have Bh:Fnd l.prog w K mg base 1 "_law_next_ones" ["_law_half_here","_law_over_here","_law_begun"] (Cm K):=⟨_,_,Kc F20 T,A0U X G a20,k20,b20⟩;have Dn:Fnd l.prog w K mg base 1 "_law_apart" ["_law_one","_law_other"] (Ez K):=⟨_,_,Nl F24 T,A0U X G a24,k24,b24⟩;have Ij:Fnd l.prog w K mg base 1 "_law_swaps" ["_law_orders_here"] (Gv K):=⟨_,_,Ps F25 T,A0U X G a25,k25,b25⟩;have Ap:Mtd l.prog w K mg base 1 C_Ways "free_names" ["self","left"] (B2 C_Ways K):=⟨_,_,Jj F32 T k_Ways,⟨a32,i32,k32⟩,b32⟩;have I0:Fnd l.prog w K mg base 2 "bits_ahead" ["half","bits"] (Gs K):=⟨_,_,Pe F2 T He,A0U X G a2,k2,b2⟩;have Cq:Fnd l.prog w K mg base 2 "orders_by_one_swap" ["orders"] (Cc K):=⟨_,_,Il F9 T Lk,A0U X G a9,k9,b9⟩;have Bu:Fnd l.prog w K mg base 2 "_law_shuffled" ["_law_feed_here","_law_some"] (Cz K):=⟨_,_,Kk F15 T A9,A0U X G a15,k15,b15⟩;have G4:Fnd l.prog w K mg base 2 "_law_is_laid" ["_law_feed_here","_law_way","_law_j","_law_k","_law_many"] (Fh K):=⟨_,_,L8 F17 T A9,A0U X G a17,k17,b17⟩;have Gp:Fnd l.prog w K mg base 2 "_law_orders" ["_law_half_here"] (G2 K):=⟨_,_,Mm F21 T Eh Bh,A0U X G a21,k21,b21⟩;have G0:Fnd l.prog w K mg base 2 "_law_count" ["_law_half_here"] (Gq K):=⟨_,_,Ow F22 T Eh Bh,A0U X G a22,k22,b22⟩;have G6:Fnd l.prog w K mg base 2 "_law_is_list" ["_law_found","_law_orders_here"] (Ff K):=⟨_,_,Lm F28 T Dn,A0U X G a28,k28,b28⟩;have Hs:Fnd l.prog w K mg base 3 "_law_names" ["_law_feed_here"] (Hf K):=⟨_,_,Ob F16 T A9 Bu,A0U X G a16,k16,b16⟩;have J5:Mkd l.prog w K mg base 3 C_Ways "Ways" ["self","half"] (Ib C_Ways K):=⟨_,_,R6 F31 T k_Ways M4 I0,⟨mk_Ways,a31,i31,kc_Ways⟩,A0U X G aC_Ways,b31⟩;have Fi:Fnd l.prog w K mg base 4 "_law_half" ["_law_feed_here","_law_many"] (Hw K):=⟨_,_,Qt F18 T A9 Bu Hs G4,A0U X G a18,k18,b18⟩;have K1:Fnd l.prog w K mg base 5 "_law_few" ["_law_feed_here","_law_most"] (Ja K):=⟨_,_,T1 F23 T A9 Fi G0,A0U X G a23,k23,b23⟩;have Eo:Fnd l.prog w K mg base 12 "to_and_fro" ["names"] (Gr K):=⟨_,_,Pj F8 T (A0U X G a8) k8 b8,A0U X G a8,k8,b8⟩;have Fk:Fnd l.prog w K mg base 13 "orders_on" ["ways","left"] (Hr C_Ways K):=⟨_,_,R9 F3 T k_Ways Ap (A0U X G a3) k3 b3,A0U X G a3,k3,b3⟩;have Cu:Mtd l.prog w K mg base 13 C_Ways "ways_on" ["self","left"] (Fm C_Ways K):=⟨_,_,Lf F33 T k_Ways Ap ⟨a33,i33,k33⟩ b33,⟨a33,i33,k33⟩,b33⟩;have De:Fnd l.prog w K mg base 14 "all_orders" ["half"] (Fa K):=⟨_,_,Pr F4 T k_Ways Fk J5 Cu,A0U X G a4,k4,b4⟩;have To:Fnd l.prog w K mg base 15 "sides" ["half"] (Ou K):=⟨_,_,a61 F7 T De Go,A0U X G a7,k7,b7⟩;have C2:Fnd l.prog w K mg base 126 "single_list_on" ["near","begun"] (Ea K):=⟨_,_,Kd F10 T (A0U X G a10) k10 b10,A0U X G a10,k10,b10⟩;have Cv:Fnd l.prog w K mg base 126 "_law_goes_on" ["_law_near","_law_walk"] (Fo K):=⟨_,_,M5 F26 T (A0U X G a26) k26 b26,A0U X G a26,k26,b26⟩;have C9:Fnd l.prog w K mg base 127 "searched_single_list" ["orders"] (By K):=⟨_,_,Gy F11 T Cq C2,A0U X G a11,k11,b11⟩;have Dv:Fnd l.prog w K mg base 127 "_law_may_be_open" ["_law_half_here","_law_orders_here"] (Dd K):=⟨_,_,Jb F27 T Ij Cv,A0U X G a27,k27,b27⟩;have Gw:Fnd l.prog w K mg base 128 "single_list" ["half"] (Em K):=⟨_,_,Mb F12 T De To Eo C9,A0U X G a12,k12,b12⟩;have Ia:Fnd l.prog w K mg base 128 "_law_right" ["_law_found","_law_half_here","_law_orders_here"] (Gn K):=⟨_,_,Pg F29 T Dn Dv G6,A0U X G a29,k29,b29⟩;exact ax8 F30 T Gw J7 A9 Gp K1 Ia
theorem walk {l:W.OpenLaw}{q:Program}{loose:List Str}{XP:(Str->Option Value)->Heap->Prop}{YP:World->Heap->Prop}{d:DefRec}{K:Params->W.Frag}(hn:l.most=some 63)(hdf:d.params.defaults=[])
  (hY:∀(w:World) (h:Heap),YP w h->(K w.params).In h)
  (F:∀(w:World) (mg:Str->Option Value) (fa:Addr) (h:Heap),(K w.params).In h->h.Ns mainGlobals mg->mg d.name=some (.ref fa) ->
   ∃ fd:FuncData,(∀(s:Shared) (u:Value),BindsTo s fd ⟨[u],[]⟩ [("_law_script",u)])/\∀ base:Heap,(K w.params).In base->base.Ns mainGlobals mg->FnOk l.prog w (K w.params) mg base CX0 129 fa fd ["_law_script"] (spLaw (K w.params))) :
  W.WalkO q loose XP YP l.row.toRowW d [] (λf vs=>PySem.call f vs):=
 L2.walk_of (n:=63) (k:=129) (x:="_law_script") (CX:=λ_=>CX0) (sp:=λw=>spLaw (K w.params)) hn nofun hdf ⟨rfl,by decide,by decide,rfl⟩ hY F (λ_ _ a ns hl _ hS=>⟨a,ns,rfl,hS,hl,λ_=>rfl⟩) λ_ _ _ _ _ z=>z
end K38
theorem PySem.W.Fast.tw961737693639970144 : True := trivial
theorem PySem.W.Fast.tw16860206083592517237 : True := trivial
theorem PySem.W.Fast.tw7813434537320187874 : True := trivial
theorem PySem.W.Fast.tw1887146849921706661 : True := trivial
theorem PySem.W.Fast.tw2797906718576598732 : True := trivial
theorem PySem.W.Fast.tw12652284992046323203 : True := trivial
theorem PySem.W.Fast.tw17086663904518280962 : True := trivial
theorem PySem.W.Fast.tw14276237210882551948 : True := trivial
theorem PySem.W.Fast.tw7322811242432122493 : True := trivial
theorem PySem.W.Fast.tw16542603550495659709 : True := trivial
theorem PySem.W.Fast.tw14941908367582116350 : True := trivial
theorem PySem.W.Fast.tw14336797433950850010 : True := trivial
theorem PySem.W.Fast.tw6459155780840778170 : True := trivial
theorem PySem.W.Fast.tw4647683890655294519 : True := trivial
theorem PySem.W.Fast.tw7935808518308546781 : True := trivial
theorem PySem.W.Fast.tw3458922980230796112 : True := trivial
theorem PySem.W.Fast.tw16476290455509705803 : True := trivial
theorem PySem.W.Fast.tw1709853871687960341 : True := trivial
theorem PySem.W.Fast.tw2583384984694007114 : True := trivial
theorem PySem.W.Fast.tw10658448428102174873 : True := trivial
theorem PySem.W.Fast.tw11834381845412115310 : True := trivial
theorem PySem.W.Fast.tw10497786312930629641 : True := trivial
theorem PySem.W.Fast.tw8553442594346922450 : True := trivial
theorem PySem.W.Fast.tw3729339142462749609 : True := trivial
theorem PySem.W.Fast.tw1761169706764364275 : True := trivial
theorem PySem.W.Fast.tw3545051568098373268 : True := trivial
theorem PySem.W.Fast.tw4862174486504091521 : True := trivial
theorem PySem.W.Fast.tw10961169998204489064 : True := trivial
theorem PySem.W.Fast.tw16629077866305829468 : True := trivial
theorem PySem.W.Fast.tw15010215067103852224 : True := trivial
theorem PySem.W.Fast.tw1300051311637373912 : True := trivial
theorem PySem.W.Fast.tw13038333769391185003 : True := trivial
theorem PySem.W.Fast.tw1132498797267174204 : True := trivial
theorem PySem.W.Fast.tw17694297013991403672 : True := trivial
theorem PySem.W.Fast.tw18425881230757038212 : True := trivial
theorem PySem.W.Fast.tw9727587543282222999 : True := trivial
theorem PySem.W.Fast.tw8875735660686586191 : True := trivial
theorem PySem.W.Fast.tw16401822387376920540 : True := trivial
theorem PySem.W.Fast.tw13174390981067576663 : True := trivial
theorem PySem.W.Fast.tw8580229284410192149 : True := trivial
theorem PySem.W.Fast.tw3447605215323997640 : True := trivial
theorem PySem.W.Fast.tw10372604390980637910 : True := trivial
theorem PySem.W.Fast.tw991155316886131088 : True := trivial
theorem PySem.W.Fast.tw1431377002550397529 : True := trivial
theorem PySem.W.Fast.tw3357065248169281600 : True := trivial
theorem PySem.W.Fast.tw9220771005653603815 : True := trivial
theorem PySem.W.Fast.tw10154742077640989783 : True := trivial
theorem PySem.W.Fast.tw2840477889009568850 : True := trivial
theorem PySem.W.Fast.tw14849846879901552445 : True := trivial
theorem PySem.W.Fast.tw16231118783046306506 : True := trivial
theorem PySem.W.Fast.tw10354766977878928613 : True := trivial
theorem PySem.W.Fast.tw12110259566412604079 : True := trivial
theorem PySem.W.Fast.tw12809119653785465442 : True := trivial
theorem PySem.W.Fast.tw15881223288436741356 : True := trivial
theorem PySem.W.Fast.tw17323415315430458037 : True := trivial
theorem PySem.W.Fast.tw16050610726777100265 : True := trivial
theorem PySem.W.Fast.tw916125250155944067 : True := trivial
theorem PySem.W.Fast.tw719091482449015479 : True := trivial
theorem PySem.W.Fast.tw10119320559289119046 : True := trivial
theorem PySem.W.Fast.tw11291418609072936421 : True := trivial
theorem PySem.W.Fast.tw8567719675085031290 : True := trivial
theorem PySem.W.Fast.tw7518395396997518791 : True := trivial
theorem PySem.W.Fast.tw18224251546590760884 : True := trivial
theorem PySem.W.Fast.tw12515819884706330266 : True := trivial
theorem PySem.W.Fast.tw1760244057960615171 : True := trivial
theorem PySem.W.Fast.tw2909880763394681890 : True := trivial
theorem PySem.W.Fast.tw16879029377962308657 : True := trivial
theorem PySem.W.Fast.tw7239260180991069587 : True := trivial
theorem PySem.W.Fast.tw1669096479082803671 : True := trivial
theorem PySem.W.Fast.tw14232112149604244536 : True := trivial
theorem PySem.W.Fast.tw16791241541813075449 : True := trivial
theorem PySem.W.Fast.tw4587961687947467349 : True := trivial
open PySem PySem.W PyProof.Rows
set_option maxRecDepth 100000 in
set_option maxHeartbeats 0 in
theorem PySem.Challenge.cw_halforder_k38_single_lists_holds : PySem.Challenge.rw_halforder_k38_single_lists.Holds := by
 w_on;o_law;k_head;(case hw=>w_witness2)
 k_fill
 refine K38.walk (l:=PySem.Challenge.rw_halforder_k38_single_lists) rfl rfl (λw h Y=>PySem.W.kIn_of Y) ?F
 case F=>
  intro w mg fa h KX G hmg;refine' K38.all_mk KX G hmg ?q_aC_Ways ?q_pg_Ways ?q_hd_Ways ?q_po_Ways ?q_sa_Ways ?q_mk_Ways ?q_kc_Ways ?q_n_Ways_names ?q_n_Ways_bits ?q_n_Ways_ahead ?q_n_Ways_full ?q_n_Ways_known ?q_a0 ?q_l0 ?q_c0 ?q_k0 ?q_a1 ?q_l1 ?q_c1 ?q_k1 ?q_a2 ?q_l2 ?q_c2 ?q_k2 ?q_a3 ?q_l3 ?q_c3 ?q_k3 ?q_a4 ?q_l4 ?q_c4 ?q_k4 ?q_a5 ?q_l5 ?q_c5 ?q_k5 ?q_a6 ?q_l6 ?q_c6 ?q_k6 ?q_a7 ?q_l7 ?q_c7 ?q_k7 ?q_a8 ?q_l8 ?q_c8 ?q_k8 ?q_a9 ?q_l9 ?q_c9 ?q_k9 ?q_a10 ?q_l10 ?q_c10 ?q_k10 ?q_a11 ?q_l11 ?q_c11 ?q_k11 ?q_a12 ?q_l12 ?q_c12 ?q_k12 ?q_a13 ?q_l13 ?q_c13 ?q_k13 ?q_a14 ?q_l14 ?q_c14 ?q_k14 ?q_a15 ?q_l15 ?q_c15 ?q_k15 ?q_a16 ?q_l16 ?q_c16 ?q_k16 ?q_a17 ?q_l17 ?q_c17 ?q_k17 ?q_a18 ?q_l18 ?q_c18 ?q_k18 ?q_a19 ?q_l19 ?q_c19 ?q_k19 ?q_a20 ?q_l20 ?q_c20 ?q_k20 ?q_a21 ?q_l21 ?q_c21 ?q_k21 ?q_a22 ?q_l22 ?q_c22 ?q_k22 ?q_a23 ?q_l23 ?q_c23 ?q_k23 ?q_a24 ?q_l24 ?q_c24 ?q_k24 ?q_a25 ?q_l25 ?q_c25 ?q_k25 ?q_a26 ?q_l26 ?q_c26 ?q_k26 ?q_a27 ?q_l27 ?q_c27 ?q_k27 ?q_a28 ?q_l28 ?q_c28 ?q_k28 ?q_a29 ?q_l29 ?q_c29 ?q_k29 ?q_a30 ?q_l30 ?q_c30 ?q_k30 ?q_a31 ?q_i31 ?q_l31 ?q_c31 ?q_k31 ?q_a32 ?q_i32 ?q_l32 ?q_c32 ?q_k32 ?q_a33 ?q_i33 ?q_l33 ?q_c33 ?q_k33 ?q_g0 ?q_g1 ?q_z0 ?q_z1 ?q_z2 ?q_z3 ?q_z4 ?q_z5 ?q_z6 ?q_z7 ?q_z8 ?q_z9 ?q_z10 ?q_z11
  (case q_aC_Ways=>k_is)
  (case q_pg_Ways=>k_is)
  (case q_hd_Ways=>k_is)
  (case q_po_Ways=>k_is)
  (case q_sa_Ways=>k_is)
  (case q_mk_Ways=>k_is)
  (case q_kc_Ways=>k_is)
  (case q_n_Ways_names=>k_is)
  (case q_n_Ways_bits=>k_is)
  (case q_n_Ways_ahead=>k_is)
  (case q_n_Ways_full=>k_is)
  (case q_n_Ways_known=>k_is)
  (case q_a0=>k_is)
  (case q_l0=>k_is)
  (case q_c0=>k_is)
  (case q_k0=>k_is)
  (case q_a1=>k_is)
  (case q_l1=>k_is)
  (case q_c1=>k_is)
  (case q_k1=>k_is)
  (case q_a2=>k_is)
  (case q_l2=>k_is)
  (case q_c2=>k_is)
  (case q_k2=>k_is)
  (case q_a3=>k_is)
  (case q_l3=>k_is)
  (case q_c3=>k_is)
  (case q_k3=>k_is)
  (case q_a4=>k_is)
  (case q_l4=>k_is)
  (case q_c4=>k_is)
  (case q_k4=>k_is)
  (case q_a5=>k_is)
  (case q_l5=>k_is)
  (case q_c5=>k_is)
  (case q_k5=>k_is)
  (case q_a6=>k_is)
  (case q_l6=>k_is)
  (case q_c6=>k_is)
  (case q_k6=>k_is)
  (case q_a7=>k_is)
  (case q_l7=>k_is)
  (case q_c7=>k_is)
  (case q_k7=>k_is)
  (case q_a8=>k_is)
  (case q_l8=>k_is)
  (case q_c8=>k_is)
  (case q_k8=>k_is)
  (case q_a9=>k_is)
  (case q_l9=>k_is)
  (case q_c9=>k_is)
  (case q_k9=>k_is)
  (case q_a10=>k_is)
  (case q_l10=>k_is)
  (case q_c10=>k_is)
  (case q_k10=>k_is)
  (case q_a11=>k_is)
  (case q_l11=>k_is)
  (case q_c11=>k_is)
  (case q_k11=>k_is)
  (case q_a12=>k_is)
  (case q_l12=>k_is)
  (case q_c12=>k_is)
  (case q_k12=>k_is)
  (case q_a13=>k_is)
  (case q_l13=>k_is)
  (case q_c13=>k_is)
  (case q_k13=>k_is)
  (case q_a14=>k_is)
  (case q_l14=>k_is)
  (case q_c14=>k_is)
  (case q_k14=>k_is)
  (case q_a15=>k_is)
  (case q_l15=>k_is)
  (case q_c15=>k_is)
  (case q_k15=>k_is)
  (case q_a16=>k_is)
  (case q_l16=>k_is)
  (case q_c16=>k_is)
  (case q_k16=>k_is)
  (case q_a17=>k_is)
  (case q_l17=>k_is)
  (case q_c17=>k_is)
  (case q_k17=>k_is)
  (case q_a18=>k_is)
  (case q_l18=>k_is)
  (case q_c18=>k_is)
  (case q_k18=>k_is)
  (case q_a19=>k_is)
  (case q_l19=>k_is)
  (case q_c19=>k_is)
  (case q_k19=>k_is)
  (case q_a20=>k_is)
  (case q_l20=>k_is)
  (case q_c20=>k_is)
  (case q_k20=>k_is)
  (case q_a21=>k_is)
  (case q_l21=>k_is)
  (case q_c21=>k_is)
  (case q_k21=>k_is)
  (case q_a22=>k_is)
  (case q_l22=>k_is)
  (case q_c22=>k_is)
  (case q_k22=>k_is)
  (case q_a23=>k_is)
  (case q_l23=>k_is)
  (case q_c23=>k_is)
  (case q_k23=>k_is)
  (case q_a24=>k_is)
  (case q_l24=>k_is)
  (case q_c24=>k_is)
  (case q_k24=>k_is)
  (case q_a25=>k_is)
  (case q_l25=>k_is)
  (case q_c25=>k_is)
  (case q_k25=>k_is)
  (case q_a26=>k_is)
  (case q_l26=>k_is)
  (case q_c26=>k_is)
  (case q_k26=>k_is)
  (case q_a27=>k_is)
  (case q_l27=>k_is)
  (case q_c27=>k_is)
  (case q_k27=>k_is)
  (case q_a28=>k_is)
  (case q_l28=>k_is)
  (case q_c28=>k_is)
  (case q_k28=>k_is)
  (case q_a29=>k_is)
  (case q_l29=>k_is)
  (case q_c29=>k_is)
  (case q_k29=>k_is)
  (case q_a30=>k_is)
  (case q_l30=>k_is)
  (case q_c30=>k_is)
  (case q_k30=>k_is)
  (case q_a31=>k_is)
  (case q_i31=>k_is)
  (case q_l31=>k_is)
  (case q_c31=>k_is)
  (case q_k31=>k_is)
  (case q_a32=>k_is)
  (case q_i32=>k_is)
  (case q_l32=>k_is)
  (case q_c32=>k_is)
  (case q_k32=>k_is)
  (case q_a33=>k_is)
  (case q_i33=>k_is)
  (case q_l33=>k_is)
  (case q_c33=>k_is)
  (case q_k33=>k_is)
  (case q_g0=>k_is)
  (case q_g1=>k_is)
  (case q_z0=>k_is)
  (case q_z1=>k_is)
  (case q_z2=>k_is)
  (case q_z3=>k_is)
  (case q_z4=>k_is)
  (case q_z5=>k_is)
  (case q_z6=>k_is)
  (case q_z7=>k_is)
  (case q_z8=>k_is)
  (case q_z9=>k_is)
  (case q_z10=>k_is)
  (case q_z11=>k_is)
