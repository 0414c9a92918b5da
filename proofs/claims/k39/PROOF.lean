import PyProof.Rows.All
import Wide.All
import OpenK.AllK
import Wide.FinOn
import PyProof.EqAt
import PyProof.EqKinds
import PyProof.TupleCall
import Lean
import PyProof.DictWalks
import PyProof.DictIter
import PyProof.P3In
import KE.KEqSeq
import PyProof.ReprLen
import PyProof.ReprRoads
import PyProof.StrOps2
import KE.KRevSl
import PyProof.IsRules
import PyProof.StrLawsIdx
import PyProof.Rows.RegRepr
import PyProof.Rows.RegFStrParts
import PyProof.DictUpdate
import PyProof.AttrMissHeap
import PyProof.Walks
import KE.KDictOf
import PyProof.EnumIter
import PyProof.EnumFor
import PyProof.LayNew
import PyProof.EnumMake
import PyProof.Draws
import PyProof.WalksT
import PyProof.TupleIter
import PyProof.WalksMore
import KE.KRevIter
import KE.KEqDict
import PyProof.Rows.SetFrom
import PyProof.StrLawsTight
import PyProof.StrLawsChain
import PyProof.SumWalk
import PyProof.Rows.SortStr
import PyProof.Rows.SortWalk
import PyProof.TupleOfSeq
import KE.KDictSum
import KE.KSortTup
import PyProof.ListRange
import PyProof.ZipIter
import PyProof.Rows.ZipGen
import KE.KItemsList
import PyProof.ExcArgsOwn
import PyProof.InstStoreFacts
import PyProof.ExcBaseAll.ValueError
import PyProof.StationsW
import PyProof.RulesAs
import PyProof.RulesDel
import PyProof.NeKinds
import PyProof.ListMulAny
import KE.KMinBuiltin
import PyProof.Rows.CallKwBuiltin
import KE.KLam
import KE.KMinKey
import PyProof.WalkInts
import KE.KNestM
import PyProof.SeqI3
import KE.KSortKey
import PyProof.MaxThree
import PySem.Challenge.RW_halforder_k39_too_many_orders
local macro_rules | `(tactic| eq_refl) => `(tactic| with_unfolding_all exact Or.inl rfl)
local macro_rules | `(tactic| ac_rfl) => `(tactic| with_unfolding_all exact fun _ _ => rfl)
local macro_rules | `(tactic| ac_nf) => `(tactic| with_unfolding_all rfl)
noncomputable section
local macro_rules | `(⋯) => `(by ac_nf)
local macro_rules | `(∅) => `(by omega)
local macro_rules | `(nofun) => `(by decide)
local macro_rules | `(tactic| symm) => `(tactic| walk_at "rd")
def A00:=@PySem.wpAny_bind
def A01:=@List.length_map
def A02:=@List.getElem?_eq_some_iff
def A03:=@PySem.Heap.get?_push_of_some
def A04:=@PySem.wpAny_pure
def A05:=@List.mem_of_getElem?
def A06:=@List.getElem?_eq_getElem
def A07:=@Nat.le_refl
def A08:=@List.getElem?_map
def A09:=@List.length_append
def A0A:=@PySem.Heap.lt_size
def A0B:=@List.mem_cons
def A0C:=@Bool.false_ne_true
def A0D:=@List.mem_cons_of_mem
def A0E:=@List.map_append
def A0F:=@PySem.W.mg_of
def A0G:=@List.map_cons
def A0H:=@List.nodup_cons
def A0I:=@beq_eq_false_iff_ne
def A0J:=@List.take_add_one
def A0K:=@PySem.Heap.get?_push_size
def A0L:=@List.length_cons
def A0M:=@List.take_length
def A0N:=@List.mem_map
def A0O:=@List.length_take
def A0P:=@Nat.ne_of_lt
def A0Q:=@Nat.le_trans
def A0R:=@List.mem_append
def A0S:=@if_neg
def A0T:=@List.size_toArray
def A0U:=@List.mem_filter
def A0V:=@PySem.PassesOwn.never
def A0W:=@if_pos
def A0X:=@decide_eq_false
def A0Y:=@List.map_congr_left
def A0Z:=@Nat.lt_of_lt_of_le
def A10:=@Option.some.inj
def A11:=@List.mem_cons_self
def A12:=@List.length_eq_zero_iff
def A13:=@List.length_singleton
def A14:=@PySem.sizeLine_eq
def A15:=@PySem.F.plainAttrs_list
def A16:=@List.getElem?_append_left
def A17:=@List.mem_singleton
def A18:=@List.pairwise_cons
def A19:=@decide_eq_true
def A1A:=@Bool.and_eq_true
def A1B:=@List.length_range
def A1C:=@PySem.W.mg_none_of
def A1D:=@List.map_map
def A1E:=@List.mem_append_right
def A1F:=@List.getElem?_append_right
def A1G:=@List.length_drop
def A1H:=@PySem.wpAny_holding
def A1I:=@List.length_filter_le
def A1J:=@List.lookup_cons
def A1K:=@PyProof.Rows.slot_tuple_getitem
def A1L:=@PySem.wpAny_newObj_type
def A1M:=@List.sum_cons
def A1N:=@List.append_nil
def A1O:=@List.any_cons
def A1P:=@List.getElem_inj
def A1Q:=@PySem.Heap.get?_update_other
def A1R:=@List.getElem?_take_of_lt
def A1S:=@List.any_eq_true
def A1T:=@List.filter_cons
def A1U:=@List.mem_of_mem_take
def A1V:=@PySem.wpAny_callSpecial?_slot
def A1W:=@List.map_take
def A1X:=@PySem.wpAny_mono
def A1Y:=@List.append_assoc
def A1Z:=@List.nodup_append
def A20:=@List.foldl_cons
def A21:=@Array.getElem?_eq_some_iff
def A22:=@beq_iff_eq
def A23:=@True.intro
def A24:=@PySem.wpAny_call_entry
def A25:=@PySem.Paired.length
def A26:=@List.length_replicate
def A27:=@List.filter_append
def A28:=@List.getElem?_set_ne
def A29:=@PySem.wpAny_truthy_bool
def A2A:=@List.filter_congr
def A2B:=@PySem.wpAny_loadPart_at
def A2C:=@PySem.F.slot_list_extend
def A2D:=@PySem.F.type_list_extend
def A2E:=@Nat.le_of_lt
def A2F:=@Nat.lt_irrefl
def A2G:=@PySem.mem_of_lookup
def A2H:=@List.replicate_succ
def A2I:=@PySem.wpAny_typeNameOfWhole_keyiter
def A2J:=@PySem.Heap.size_push
def A2K:=@List.getElem?_set_self
def A2L:=@PySem.tupleKind_room_in1
def A2M:=@Or.inr
def A2N:=@Int.emod_lt_of_pos
def A2O:=@PySem.wpAny_passesOwn
def A2P:=@PyProof.Rows.callWith_type1
def A2Q:=@Nat.zero_le
def A2R:=@PySem.wpAny_field
def A2S:=@List.not_lt
def A2T:=@PySem.Heap.get?_update_self
def A2U:=@PySem.Obj.isFreed_of_fields
def A2V:=@Nat.not_lt_zero
def A2W:=@List.map_drop
def A2X:=@PySem.W.looks_findIn
def A2Y:=@Nat.pow_le_pow_right
def A2Z:=@Nat.lt_succ_self
def A30:=@Int.toNat_of_nonneg
def A31:=@PySem.F.slot_tuple_index
def A32:=@PySem.wpAny_typeNameOf_keyiter
def A33:=@PySem.wpAny_Call_Name_kw
def A34:=@Bool.false_or
def A35:=@List.length_nil
def A36:=@PySem.wpAny_getItem_str_slice
def A37:=@PySem.Obj.data_mapFields
def A38:=@PySem.W.tail_of_in
def A39:=@List.contains_cons
def A3A:=@Int.emod_nonneg
def A3B:=@Nat.add_sub_cancel_left
def A3C:=@PySem.Calls.callWith_builtin
def A3D:=@Nat.lt_succ_of_lt
def A3E:=@Nat.ne_of_gt
def A3F:=@PySem.wpAny_typeOf
def A3G:=@Nat.lt_trans
def A3H:=@List.Perm.append_left
def A3I:=@PySem.wpAny_notOrdered_dict
def A3J:=@List.take_append_drop
def A3K:=@Nat.min_le_right
def A3L:=@List.mem_append_left
def A3M:=@PySem.Around.under_plainId
def A3N:=@PySem.call_meets
def A3O:=@Bool.eq_iff_iff
def A3P:=@PySem.W.looks_clsIn
def A3Q:=@List.filter_sublist
def A3R:=@PySem.W.callWith_K
def A3S:=@PySem.call_meetsIn
def A3T:=@List.lookup_append
def A3U:=@Nat.mul_le_mul
def A3V:=@List.mem_range
def A3W:=@List.Perm.swap
def A3X:=@List.take_sublist
def A3Y:=@List.flatten_cons
def A3Z:=@PySem.wpAny_pyIter_list
def A40:=@PySem.wpAny_dictEntries
def A41:=@PySem.F.slot_list_append
def A42:=@PySem.F.type_list_append
def A43:=@PySem.F.type_tuple_index
def A44:=@Nat.le_succ
def A45:=@List.getElem?_replicate
def A46:=@PySem.F.plainAttrs_dict
def A47:=@PySem.wpAny_standAt
def A48:=@PySem.W.any_some
def A49:=@beq_self_eq_true
def A4A:=@List.all_eq_true
def A4B:=@List.take_of_length_le
def A4C:=@PySem.wpAny_execs_nil
def A4D:=@PySem.codeAny_mono
def A4E:=@List.of_mem_zip
def A4F:=@List.nil_append
def A4G:=@Nat.mul_comm
def A4H:=@Option.map_some
def A4I:=@PySem.F.slot_dict_get
def A4J:=@PySem.post_val_or_str
def A4K:=@List.getElem?_eq_none
def A4L:=@PySem.codeAny_builtin
def A4M:=@Nat.pow_succ
def A4N:=@List.sum_append
def A4O:=@PySem.wpAny_isOneOf_keyiter
def A4P:=@Nat.succ.inj
def A4Q:=@List.mem_iff_getElem?
def A4R:=@PySem.wpAny_call
def A4S:=@PySem.Calls.evalArgs_plain
def A4T:=@List.mem_of_mem_drop
def A4U:=@List.idxOf_cons_self
def A4V:=@PySem.wpAny_loadPart
def A4W:=@PySem.wpAny_fieldsOf
def A4X:=@PySem.W.plainGet_of
def A4Y:=@Array.length_toList
def A50:=@List.getElem_of_mem
def A51:=@PySem.wpAny_isSubtype_exc
def A52:=@PySem.W.looks_mroIn
def A53:=@PySem.W.Looks.here
def A54:=@PySem.Calls.spliced_cons
def A57:=@PySem.plainId_quiet
def A58:=@List.Nodup.sublist
def A59:=@PySem.wpAny_attempt
def A5A:=@PySem.Value.ref.inj
set_option linter.all false
set_option maxRecDepth 100000
set_option maxHeartbeats 4000000
set_option Elab.async false
set_option compiler.extract_closed false
namespace L2
open PySem PySem.Spec PyProof.Rows
abbrev Key:=Sum Int Str
def R4:Key->Value->Bool
 |.inl k,v=>Value.isInt k v
 |.inr x,v=>Value.isStrOf x v
def keyH (w:World):Key->Int
 |.inl k=>hashInt k
 |.inr x=>hashStr w x
theorem Bu:∀ {k:Key} {v:Value},R4 k v=true->(∃ i t,k=Sum.inl i/\v=Value.int i t)\/(∃ x t,k=Sum.inr x/\v=Value.str x t)
 |.inl i,v,h=>by obtain⟨t,e⟩:=Value.isInt_shape (k:=i) (v:=v) h;exact .inl ⟨i,t,rfl,e⟩
 |.inr x,v,h=>by obtain⟨t,e⟩:=Value.isStrOf_shape (x:=x) (v:=v) h;exact .inr ⟨x,t,rfl,e⟩
theorem Y1 (i:Int)(t:Tok):R4 (.inl i) (.int i t)=true:=by simp[R4,Value.isInt]
theorem Xz (x:Str)(t:Tok):R4 (.inr x) (.str x t)=true:=by simp[R4,Value.isStrOf]
theorem at3 (a b:Int):decide ((Sum.inl a:Key)=Sum.inl b)=(a==b):=by
 by_cases e:a=b
 . subst e;simp
 have h:¬ (Sum.inl a:Key)=Sum.inl b:=λq=>e (Sum.inl.inj q);rw[A0X h];exact(A0I.mpr e).symm
theorem am5 (a b:Str):decide ((Sum.inr a:Key)=Sum.inr b)=decide (a=b):=by
 by_cases e:a=b
 . subst e;simp
 have h:¬ (Sum.inr a:Key)=Sum.inr b:=λq=>e (Sum.inr.inj q);rw[A0X h,A0X e]
theorem ak9 (a:Int)(b:Str):decide ((Sum.inl a:Key)=Sum.inr b)=false:=A0X (λq=>nomatch q)
theorem ap1 (a:Str)(b:Int):decide ((Sum.inr a:Key)=Sum.inl b)=false:=A0X (λq=>nomatch q)
def Ax (prog:Program)(w:World):PySem.KeyKind prog w Key where
 is:=R4
 hash:=keyH w
 inj:=λv a b ha hb=>by
  rcases Bu ha with ⟨i,t,rfl,rfl⟩|⟨x,t,rfl,rfl⟩
  . rcases Bu hb with ⟨j,u,rfl,e⟩|⟨y,u,rfl,e⟩
    . injection e with e1 _;rw[e1]
    exact nomatch e
  rcases Bu hb with ⟨j,u,rfl,e⟩|⟨y,u,rfl,e⟩
  . exact nomatch e
  injection e with e1 _;rw[e1]
 byValue:=λk v h=>by rcases Bu h with ⟨i,t,rfl,rfl⟩|⟨x,t,rfl,rfl⟩<;>rfl
 pyHash:=λhv h=>by
  rcases Bu hv with ⟨i,t,rfl,rfl⟩|⟨x,t,rfl,rfl⟩
  . exact wpAny_pyHash_int h
  exact wpAny_pyHash_str h
 eqBool:=λhu hv h=>by
  rcases Bu hu with ⟨i,t,rfl,rfl⟩|⟨x,t,rfl,rfl⟩
  . rcases Bu hv with ⟨j,u,rfl,rfl⟩|⟨y,u,rfl,rfl⟩
    . rw[at3] at h;exact wpAny_eqBool_int h
    rw[ak9] at h;exact SeqAt.EqAt.int_str i t y u _ _ _ _ h
  rcases Bu hv with ⟨j,u,rfl,rfl⟩|⟨y,u,rfl,rfl⟩
  . rw[ap1] at h;exact SeqAt.EqAt.str_int x t j u _ _ _ _ h
  rw[am5] at h;exact wpAny_eqBool_str h
 «strs»:=λk x t v h=>by
  rcases Bu h with ⟨i,u,rfl,e⟩|⟨y,u,rfl,e⟩
  . exact nomatch e
  injection e with e1 _;subst e1
  cases v<;>rfl
theorem Ro (prog:Program)(w:World)(i:Int)(t:Tok):(Ax prog w).is (.inl i) (.int i t)=true:=Y1 i t
theorem Rh (prog:Program)(w:World)(x:Str)(t:Tok):(Ax prog w).is (.inr x) (.str x t)=true:=Xz x t
inductive V where
 |non | bl (b:Bool) | int (i:Int) | str (x:Str) | byt (b:Array UInt8) | flt (b:UInt64) | ref (a:Addr) | ty (n:String)
 deriving DecidableEq
def RelV:V->Value->Prop
 |.non,u=>u=Value.none
 |.bl b,u=>u=Value.bool b
 |.int i,u=>∃ t,u=Value.int i t
 |.str x,u=>∃ t,u=Value.str x t
 |.byt b,u=>∃ t,u=Value.bytes b t
 |.flt b,u=>∃ t,u=Value.float b t
 |.ref a,u=>u=Value.ref a
 |.ty n,u=>u=Value.type n
abbrev Vals:List V->List Value->Prop:=Paired RelV
theorem Vals.length {xs:List V} {us:List Value} (r:Vals xs us):xs.length=us.length:=A25 r
theorem Vals.get:∀ {xs:List V} {us:List Value} {i:Nat} {x:V},Vals xs us->xs[i]? = some x->∃ u,us[i]? = some u/\RelV x u
 |_,_,_,_,.nil,e=>by simp at e
 |_,_,0,_,.cons r _,e=>by simp at e;subst e;exact⟨_,rfl,r⟩
 |_,_,i+1,x,.cons _ t,e=>by obtain⟨u,h1,h2⟩:=Vals.get (i:=i) (x:=x) t (by simpa using e);exact⟨u,by simpa using h1,h2⟩
theorem Vals.append:∀ {xs ys:List V} {us ws:List Value},Vals xs us->Vals ys ws->Vals (xs++ys) (us++ws)
 |_,_,_,_,.nil,s=>s
 |_,_,_,_,.cons r t,s=>.cons r (Vals.append t s)
theorem Vals.take:∀ {xs:List V} {us:List Value} (n:Nat),Vals xs us->Vals (xs.take n) (us.take n)
 |_,_,0,_=>.nil
 |_,_,_+1,.nil=>.nil
 |_,_,n+1,.cons r t=>.cons r (Vals.take n t)
theorem Vals.drop:∀ {xs:List V} {us:List Value} (n:Nat),Vals xs us->Vals (xs.drop n) (us.drop n)
 |_,_,0,r=>r
 |_,_,_+1,.nil=>.nil
 |_,_,n+1,.cons _ t=>Vals.drop n t
def RelO:Option V->Option Value->Prop
 |some v,some u=>RelV v u
 |none,none=>True
 |_,_=>False
def KV {κ:Type}:List (κ×V)->List (κ×Value)->Prop:=Paired λ(p:κ×V) (q:κ×Value)=>p.1=q.1/\RelV p.2 q.2
def kV:Key->V
 |.inl i=>.int i
 |.inr x=>.str x
def IsTupN (h:Heap)(a:Addr)(items:Array Value):Prop:=∃ o,h.get? a=some o/\o.cls = .type "tuple" /\ (∃ n,o.data = .seq items n)/\o.dict=none
theorem IsTupN.tup {h:Heap}{a:Addr}{items:Array Value}(x:IsTupN h a items):IsTup h a items:=let ⟨o,h1,h2,⟨n,h3⟩,_⟩:=x;⟨o,h1,h2,n,h3⟩
theorem IsTupN.new (h:Heap)(its:Array Value):IsTupN (h.push {cls:=.type "tuple",data:=.seq its}) h.objs.size its:=⟨_,A0K _ rfl,rfl,⟨_,rfl⟩,rfl⟩
inductive HO where
 |lst (xs:List V)
 |tup (xs:List V)
 |dK (kvs:List (Key×V)) | dT (kvs:List (List Key×V))
 |set (S:Int->Bool) (n:Nat)
 |ins (C dx:Addr) (fs:List (Str×V))
 |own (x:Addr)
 |xd (fs:List (Str×V))
 |met (f x:Addr)
 |rng (lo hi:Int)
 |frz (o:Obj) (u:HO)
 |tbl (ps:Array Value)
 |ext (φ:Heap->Prop)
abbrev Hp:=Addr->Option HO
def upd (H:Hp)(a:Addr)(o:HO):Hp:=λb=>if b=a then some o else H b
theorem A8 {H:Hp}{a:Addr}{o:HO}:upd H a o a=some o:=by unfold upd;rw[if_pos rfl]
theorem Al {H:Hp}{a b:Addr}{o:HO}(h:b≠a):upd H a o b=H b:=by unfold upd;rw[if_neg h]
theorem ne_of {H:Hp}{a b:Addr}{o u:HO}(h:H a=some o)(h':H b=some u)(d:o≠u):a≠b:=by intro e;subst e;rw[h] at h';exact d (A10 h')
theorem ne_of_none {H:Hp}{a b:Addr}{o:HO}(h:H a=some o)(h':H b=none):a≠b:=by intro e;subst e;rw[h] at h';cases h'
section
variable (P:Program)(w:World)
def ObjOk (H:Hp)(h:Heap)(a:Addr):HO->Prop
 |.lst xs=>xs.length<=sizeLine/\∃(its:List Value) (n:Nat),Vals xs its/\h.get? a=some {cls:=.type "list",data:=.seq its.toArray n}
 |.tup xs=>xs.length<=sizeLine/\∃ its:List Value,Vals xs its/\IsTupN h a its.toArray
 |.dK kvs=>kvs.length<=sizeLine/\(a==sysModules)=false/\∃ vs,KV kvs vs/\h.DictOf (Ax P w) a vs
 |.dT kvs=>kvs.length<=sizeLine/\(a==sysModules)=false/\∃ xs:List (List Key×Addr×Value),
   Paired (λ(p:List Key×V) (q:List Key×Addr×Value)=>p.1=q.1/\H q.2.1=some (.tup (p.1.map kV))/\RelV p.2 q.2.2) kvs xs /\
   ∃ o es ep,h.get? a=some o/\o.ExactDict/\o.data = .dict es ep/\es.toList=xs.map (entryOfKey (tupleKind (Ax P w)))/\(xs.map (·.1)).Nodup
 |.set S n=>h.SetOf (intKind P w) a S n
 |.ins C dx fs=>H dx=some (.own a)/\fs.length<=1000/\dx≠a/\h.get? a=some (W.instObj C dx) /\
   ∃ mA,h.Ns1 dx mA/\(∀ f,RelO (fs.lookup f) (mA f))/\PySem.Within mA (fs.map (·.1))
 |.own _=>∃ o,h.get? a=some o
 |.xd fs=>∃ mA,h.Ns1 a mA/\∀ f,RelO (fs.lookup f) (mA f)
 |.rng lo hi=>∃ t u v,h.get? a=some {cls:=.type "range",data:=.fields #[.int lo t,.int hi u,.int 1 v]}
 |.frz o u=>h.get? a=some o/\ObjOk H h a u
 |.tbl ps=>h.get? a=some {cls:=.none,data:=.fields ps}
 |.met f x=>h.get? a=some (W.methodObj (.ref f) (.ref x))
 |.ext φ=>φ h/\(∃ o,h.get? a=some o)/\∀ h1 h2:Heap,φ h1->(∀ o,h1.get? a=some o->h2.get? a=some o)->φ h2
def HOk (H:Hp)(h:Heap):Prop:=∀ a o,H a=some o->ObjOk P w H h a o
end
section
variable {P:Program}{w:World}{H H':Hp}{h h':Heap}{a:Addr}{o:HO}
theorem ObjOk.lt (x:ObjOk P w H h a o):a<h.objs.size:=by
 cases o with
 |lst xs=>obtain⟨_,_,_,_,e⟩:=x;exact A0A e
 |tup xs=>obtain⟨_,_,_,p⟩:=x;exact p.tup.lt
 |dK kvs=>obtain⟨_,_,_,_,o,_,_,e,_⟩:=x;exact A0A e
 |dT kvs=>obtain⟨_,_,_,_,o,_,_,e,_⟩:=x;exact A0A e
 |set S n=>obtain⟨o,_,_,_,e,_⟩:=x;exact A0A e
 |ins C dx fs=>obtain⟨_,_,_,e,_⟩:=x;exact A0A e
 |own y=>obtain⟨_,e⟩:=x;exact A0A e
 |xd fs=>obtain⟨_,⟨_,_,_,e,_⟩,_⟩:=x;exact A0A e
 |rng lo hi=>obtain⟨_,_,_,e⟩:=x;exact A0A e
 |frz ob u=>obtain⟨e,_⟩:=x;exact A0A e
 |tbl ps=>exact A0A (show h.get? a=some _ from x)
 |met f y=>exact A0A (show h.get? a=some _ from x)
 |ext φ=>obtain⟨_,⟨_,e⟩,_⟩:=x;exact A0A e
theorem Paired.mapP {α β:Type}{F G:α->β->Prop}:∀ {l₁:List α} {l₂:List β},Paired F l₁ l₂->(∀ a b,F a b->G a b)->Paired G l₁ l₂
 |_,_,.nil,_=>.nil
 |_,_,.cons r t,f=>.cons (f _ _ r) (Paired.mapP t f)
theorem ObjOk.stay (x:ObjOk P w H h a o)(k:∀ b u,(b=a\/H b=some (.own a))->h.get? b=some u->h'.get? b=some u)
  (ho:∀ b,H b=some (.own a)->H' b=some (.own a)) (ht:∀ b xs,H b=some (.tup xs)->H' b=some (.tup xs)):ObjOk P w H' h' a o:=by
 induction o with
 |lst xs=>obtain⟨z,its,n,r,e⟩:=x;exact⟨z,its,n,r,k _ _ (.inl rfl) e⟩
 |tup xs=>obtain⟨z,its,r,ob,e,c⟩:=x;exact⟨z,its,r,ob,k _ _ (.inl rfl) e,c⟩
 |dK kvs=>obtain⟨z,y,vs,r,ob,es,ep,e,c⟩:=x;exact⟨z,y,vs,r,ob,es,ep,k _ _ (.inl rfl) e,c⟩
 |dT kvs=>obtain⟨z,y,xs,r,ob,es,ep,e,c⟩:=x;exact⟨z,y,xs,Paired.mapP r λp q z=>⟨z.1,ht _ _ z.2.1,z.2.2⟩,ob,es,ep,k _ _ (.inl rfl) e,c⟩
 |set S n=>obtain⟨ob,es,ep,t,e,c⟩:=x;exact⟨ob,es,ep,t,k _ _ (.inl rfl) e,c⟩
 |ins C dx fs=>obtain⟨d,z,ne,e,mA,⟨od,es,ep,e2,c⟩,r⟩:=x;exact⟨ho _ d,z,ne,k _ _ (.inl rfl) e,mA,⟨od,es,ep,k _ _ (.inr d) e2,c⟩,r⟩
 |own y=>obtain⟨ob,e⟩:=x;exact⟨ob,k _ _ (.inl rfl) e⟩
 |xd fs=>obtain⟨mA,⟨od,es,ep,e,c⟩,r⟩:=x;exact⟨mA,⟨od,es,ep,k _ _ (.inl rfl) e,c⟩,r⟩
 |rng lo hi=>obtain⟨t,u,v,e⟩:=x;exact⟨t,u,v,k _ _ (.inl rfl) e⟩
 |frz ob u ih=>obtain⟨e,q⟩:=x;exact⟨k _ _ (.inl rfl) e,ih q⟩
 |tbl ps=>have e:h.get? a=some {cls:=.none,data:=.fields ps}:=x;show h'.get? a=some {cls:=.none,data:=.fields ps};exact k a _ (.inl rfl) e
 |met f y=>have e:h.get? a=some (W.methodObj (.ref f) (.ref y)):=x;show h'.get? a=some (W.methodObj (.ref f) (.ref y));exact k a _ (.inl rfl) e
 |ext φ=>obtain⟨p,⟨o,e⟩,st⟩:=x;exact⟨st _ _ p λo q=>k _ _ (.inl rfl) q,⟨o,k _ _ (.inl rfl) e⟩,st⟩
theorem HOk.lt (x:HOk P w H h)(e:H a=some o):a<h.objs.size:=(x a o e).lt
theorem HOk.fresh (x:HOk P w H h)(e:h.objs.size<=a):H a=none:=by
 cases q:H a with
 |none=>rfl
 |some u=>exact absurd (A0Z (x.lt q) e) (A2F _)
theorem HOk.kept (x:HOk P w H h)(k:∀ b u,h.get? b=some u->h'.get? b=some u):HOk P w H h':=λa o e=>
 (x a o e).stay (λb u _ q=>k b u q) (λ_ q=>q) λ_ _ q=>q
theorem HOk.laid (x:HOk P w H h)(k:∀ b u,h.get? b=some u->h'.get? b=some u)(hp:h.objs.size<=a)(new:ObjOk P w (upd H a o) h' a o):HOk P w (upd H a o) h':=λb u e=>by
 have hn:=x.fresh hp
 by_cases hb:b=a
 . subst hb;rw[A8] at e;cases e;exact new
 rw[Al hb] at e;exact(x b u e).stay (λc v _ q=>k c v q) (λc q=>by rw[Al (ne_of_none q hn)];exact q) λc xs q=>by rw[Al (ne_of_none q hn)];exact q
end
def Rd (H:Hp)(a:Addr)(u:HO):Prop:=H a=some u\/∃ o,H a=some (.frz o u)
theorem Rd.of {H:Hp}{a:Addr}{u:HO}(h:H a=some u):Rd H a u:=.inl h
theorem Rd.ok {P:Program}{w:World}{H:Hp}{h:Heap}{a:Addr}{u:HO}(r:Rd H a u)(x:HOk P w H h):ObjOk P w H h a u:=by
 rcases r with r|⟨o,r⟩
 . exact x a u r
 obtain⟨_,q⟩:=x a _ r;exact q
def Mut:Option HO->Prop
 |some (.lst _)=>True
 |some (.dK _)=>True
 |some (.dT _)=>True
 |some (.set _ _)=>True
 |some (.ins _ _ _)=>True
 |some (.ext _)=>True
 |_=>False
section
variable {P:Program}{w:World}{H:Hp}{h h':Heap}{x e:Addr}{o':HO}
theorem HOk.write (ok:HOk P w H h)(mu:Mut (H x))(he:e=x\/H e=some (.own x))(k:∀ b u,b≠e->h.get? b=some u->h'.get? b=some u)(heo:∃ u,h'.get? e=some u)
  (new:ObjOk P w (upd H x o') h' x o'):HOk P w (upd H x o') h':=λb u q=>by
 have nown:∀ c y,H c=some (.own y)->c≠x:=λc y r z=>by subst z;rw[r] at mu;exact mu
 have ntup:∀ c xs,H c=some (.tup xs)->c≠x:=λc xs r z=>by subst z;rw[r] at mu;exact mu
 by_cases hb:b=x
 . subst hb;rw[A8] at q;cases q;exact new
 rw[Al hb] at q
 by_cases hbe:b=e
 . have q':H b=some (.own x):=by
    rcases he with z|z
    . exact absurd (hbe.trans z) hb
    rw[hbe];exact z
   rw[q] at q';cases q';obtain⟨v,hv⟩:=heo;exact⟨v,by rw[hbe];exact hv⟩
 refine(ok b u q).stay (λc v hc r=>k c v ?_ r) (λc r=>by rw[Al (nown c b r)];exact r) λc xs r=>by rw[Al (ntup c xs r)];exact r
 rcases hc with rfl|hc
 . exact hbe
 rintro rfl;rcases he with z|z
 . exact nown c b hc z
 rw[hc] at z;cases z;exact hb rfl
end
structure Un (fs ex:List Addr)(H H':Hp)(h h':Heap):Prop where
 keep:∀ b o,h.get? b=some o->H b=none->b∉fs->b∉ex->h'.get? b=some o
 slot:∀ b o,h.get? b=some o->H b=none->b∈fs->b∉ex->∃ sl,h'.get? b=some {o with slots:=sl}
 free:∀ b o,h.get? b=some o->H b=none->b∉ex->H' b=none
 there:∀ b o,h.get? b=some o->b∉ex->∃ o',h'.get? b=some o'
 tups:∀ b xs,H b=some (.tup xs)->H' b=some (.tup xs)
 frzs:∀ b o u,H b=some (.frz o u)->H' b=some (.frz o u)
 tbls:∀ b ps,H b=some (.tbl ps)->∃ more,H' b=some (.tbl (ps++more))
section
variable {fs fs' ex ex':List Addr}{H H1 H2:Hp}{h h1 h2 h':Heap}{a x e:Addr}{o:HO}
theorem Un.any (u:Un fs ex H H1 h h1){b:Addr}{ob:Obj}(q:h.get? b=some ob)(n:H b=none)(hx:b∉ex):∃ sl,h1.get? b=some {ob with slots:=sl}:=by
 by_cases hb:b∈fs
 . exact u.slot b ob q n hb hx
 exact⟨ob.slots,u.keep b ob q n hb hx⟩
theorem Un.kept (k:∀ b u,h.get? b=some u->h'.get? b=some u):Un fs ex H H h h':=
 ⟨λb ob q _ _ _=>k b ob q,λb ob q _ _ _=>⟨ob.slots,k b ob q⟩,λ_ _ _ n _=>n,λb ob q _=>⟨ob,k b ob q⟩,λ_ _ q=>q,λ_ _ _ q=>q,λ_ ps q=>⟨#[],by rw[q];simp⟩⟩
theorem Un.refl:Un fs ex H H h h:=Un.kept λ_ _ q=>q
theorem Un.laid (k:∀ b u,h.get? b=some u->h'.get? b=some u)(hp:h.objs.size<=a)(hn:H a=none):Un fs ex H (upd H a o) h h' where
 keep:=λb u q _ _ _=>k b u q
 slot:=λb u q _ _ _=>⟨u.slots,k b u q⟩
 free:=λb u q n _=>by rw[Al (A0P (A0Z (A0A q) hp))];exact n
 there:=λb u q _=>⟨u,k b u q⟩
 tups:=λb xs q=>by rw[Al (ne_of_none q hn)];exact q
 frzs:=λb u xs q=>by rw[Al (ne_of_none q hn)];exact q
 tbls:=λb ps q=>⟨#[],by rw[Al (ne_of_none q hn),q];simp⟩
theorem Un.write (mu:Mut (H x))(he:e=x\/H e=some (.own x))(k:∀ b u,b≠e->h.get? b=some u->h'.get? b=some u)(heo:∃ u,h'.get? e=some u):Un fs ex H (upd H x o) h h':=by
 have hx:∀ b,H b=none->b≠x:=λb n z=>by subst z;rw[n] at mu;exact mu
 have hb:∀ b,H b=none->b≠e:=λb n z=>by
  subst z;rcases he with r|r
  . exact hx b n r
  rw[n] at r;cases r
 have hm:∀ b u,H b=some u->¬ Mut (some u)->b≠x:=λb u q nm z=>by subst z;rw[q] at mu;exact nm mu
 refine⟨λb u q n _ _=>k b u (hb b n) q,λb u q n _ _=>⟨u.slots,k b u (hb b n) q⟩,λb u q n _=>by rw[Al (hx b n)];exact n,λb u q _=>?_,
  λb xs q=>by rw[Al (hm b _ q λz=>z)];exact q,λb u xs q=>by rw[Al (hm b _ q λz=>z)];exact q,λb ps q=>⟨#[],by rw[Al (hm b _ q λz=>z),q];simp⟩⟩
 by_cases hbe:b=e
 . subst hbe;exact heo
 exact⟨u,k b u hbe q⟩
end
def trk (h:Heap)(H:Hp):List Addr:=(List.range h.objs.size).filter λa=>(H a).isSome
def Z1 (h:Heap)(H:Hp):Heap:=W.hideAll h (trk h H)
theorem Xv (h:Heap)(H:Hp):(Z1 h H).objs.size=h.objs.size:=W.hideAll_size _ _
theorem Zz {h:Heap}{H:Hp}{b:Addr}{o:Obj}(e:h.get? b=some o)(n:H b=none):(Z1 h H).get? b=some o:=
 W.hideAll_get _ e λhm=>by have q:(H b).isSome=true:=(A0U.mp hm).2;rw[n] at q;simp at q
theorem ae1 {h:Heap}{H:Hp}{b:Addr}{o:Obj}(e:(Z1 h H).get? b=some o):h.get? b=some o/\H b=none:=by
 have e':h.get? b=some o:=W.of_hideAll (trk h H) e;refine⟨e',?_⟩
 cases q:H b with
 |none=>rfl
 |some x=>have hm:b∈trk h H:=List.mem_filter.mpr ⟨List.mem_range.mpr (Heap.lt_size e'),by simp[q]⟩;have z:(Z1 h H).get? b=none:=W.hideAll_none (trk h H) hm;rw[z] at e;cases e
def a93 (g h:Heap)(L:Addr):List (Addr×Obj):=(List.range h.objs.size).filterMap λa=>if a=L\/(g.get? a).isSome=true then none else(h.get? a).map λo=>(a,o)
def rest (g h:Heap)(L d:Addr):List (Addr×Obj):=(a93 g h L).filter λp=>decide (p.1≠d)
structure Mod (K:W.Frag)(mg:Str->Option Value)(base:Heap):Prop where
 kin:K.In base
 glob:base.Ns mainGlobals mg
 blt:∃ mb,base.Ns builtinsNs mb/\∀ x:Str,x ≠ "__name__" -> mb x=bootBuiltins x
 nolimit:base.NoLimit
/-- the context: a def's body (or a comprehension's block) running. base: fixed through the whole law;s₀,H₀: the entry;outer: the frames whose slots others may change (a def's callers);stack: all frames that run;
  ex: iterators that were made ahead of the entry and are walked here (a comprehension's);fn: the names whose cells were made at the entry (a def: all;a comprehension's block: its own);calm: not within an except suite;pn: pins that every state bears;xe: what is wanted of an exception that leaves the code -/
structure Cx where
 prog:Program
 w:World
 K:W.Frag
 mg:Str->Option Value
 base:Heap
 A:Around
 N:List Str
 s₀:Shared
 H₀:Hp
 env:Env
 outer:List Env
 stack:List Env
 ex:List Addr
 fn:Str->Bool
 calm:Bool
 pn:List (Addr×Obj)
 xe:Value->Shared->Prop
def frs (l:List Env):List Addr:=l.filterMap (·.frame)
abbrev Cx.fs (X:Cx):List Addr:=frs X.outer
def Vis (sc:Scope)(x:Str):Prop:=sc.names.lookup x=some .local\/sc.names.lookup x=some .cell\/sc.names.lookup x=some .free
def Loc (sc:Scope)(x:Str):Prop:=sc.names.lookup x=some .local\/sc.names.lookup x=some .cell
def Look (env:Env)(h:Heap)(m:Str->Option Value)(x:Str)(u:Value):Prop:=
 (env.kindOf x=some .local/\m x=some u)\/((env.kindOf x=some .cell\/env.kindOf x=some .free)/\∃ c,env.cells.lookup x=some c/\h.IsCell c (some u))
structure Cx.Ok (X:Cx):Prop where
 mod:Mod X.K X.mg X.base
 kind:X.env.scope.kind = .function
 glob:X.env.globals=mainGlobals
 blt:X.env.builtins=builtinsNs
 above:X.s₀.heap.objs.size<=X.env.locals
 inj:∀ x y c,X.env.cells.lookup x=some c->X.env.cells.lookup y=some c->x=y
 has:∀ x,(X.env.kindOf x=some .cell\/X.env.kindOf x=some .free)->∃ c,X.env.cells.lookup x=some c
 cab:∀ x c,X.fn x=true->X.env.cells.lookup x=some c->X.s₀.heap.objs.size<=c
 hd:X.calm=true->X.A.handled=none
 frames:X.A.frames=some X.stack
 stk:X.stack=X.outer\/(X.stack=X.env :: X.outer/\X.env.frame=some X.env.locals)
 exf:∀ b∈X.ex,b≠X.env.locals/\∀ x c,X.env.cells.lookup x=some c->c≠b
 bs:∀ b o,X.base.get? b=some o->X.s₀.heap.get? b=some o/\X.H₀ b=none
 bsz:X.base.objs.size<=X.s₀.heap.objs.size
 noex:∀ b o,X.base.get? b=some o->b∉X.ex
 exfs:∀ b∈X.ex,b∉X.fs
 funs:X.s₀.heap.FunFrames X.base X.outer
 frf:∀ b∈X.fs,X.H₀ b=none
structure Inv (X:Cx)(pins:List (Addr×Obj))(σ:List (Option V))(H:Hp)(s:Shared):Prop where
 ok:X.Ok
 os:s.os=X.s₀.os
 bare:AllBare s.gens
 base:Un X.fs X.ex X.H₀ H X.s₀.heap s.heap
 loc:∃ m,s.heap.Ns X.env.locals m/\∀(i:Nat) (x:Str) (v:V),X.N[i]? = some x->σ[i]? = some (some v)->Vis X.env.scope x->∃ u,RelV v u/\Look X.env s.heap m x u
 cell:∀ x c,X.env.cells.lookup x=some c->∃ v,s.heap.IsCell c v
 free:H X.env.locals=none
 freeC:∀ x c,X.env.cells.lookup x=some c->H c=none
 pin:∀ p∈X.pn++pins,s.heap.get? p.1=some p.2/\H p.1=none/\p.1≠X.env.locals/\p.1∉X.fs/\∀ v,p.2.data ≠ .cell v
 hok:HOk X.prog X.w H s.heap
 len:σ.length=X.N.length
section
variable {X:Cx}{pins:List (Addr×Obj)}{σ:List (Option V)}{H H':Hp}{s:Shared}{h':Heap}
theorem Cx.Ok.nofr (ok:X.Ok){b:Addr}{o:Obj}(e:X.base.get? b=some o):b∉X.fs:=λhb=>by have:=(ok.funs.mem hb).1;rw[e] at this;cases this
theorem Inv.bs (I:Inv X pins σ H s):∀ b o,X.base.get? b=some o->s.heap.get? b=some o/\H b=none:=λb o e=>
 ⟨I.base.keep b o (I.ok.bs b o e).1 (I.ok.bs b o e).2 (I.ok.nofr e) (I.ok.noex b o e),I.base.free b o (I.ok.bs b o e).1 (I.ok.bs b o e).2 (I.ok.noex b o e)⟩
theorem Inv.bk (I:Inv X pins σ H s):∀ b o,X.base.get? b=some o->s.heap.get? b=some o:=λb o e=>(I.bs b o e).1
theorem Inv.mod (I:Inv X pins σ H s):Mod X.K X.mg X.base:=I.ok.mod
theorem Inv.kIn (I:Inv X pins σ H s):X.K.In s.heap:=I.ok.mod.kin.keeps I.bk
theorem Inv.lt (I:Inv X pins σ H s):X.env.locals<s.heap.objs.size:=let ⟨_,hn,_⟩:=I.loc;hn.lt
theorem Inv.sz (I:Inv X pins σ H s):X.s₀.heap.objs.size<=s.heap.objs.size:=A0Q I.ok.above (A2E I.lt)
theorem Inv.nofs (I:Inv X pins σ H s){a:Addr}(h:s.heap.objs.size<=a):a∉X.fs:=λhb=>by obtain⟨_,o,ho,_⟩:=I.ok.funs.mem hb;exact absurd (A0Z (A0A ho) (A0Q I.sz h)) (A2F _)
theorem Inv.cne (I:Inv X pins σ H s):∀ x c,X.env.cells.lookup x=some c->c≠X.env.locals:=λx c e z=>by obtain⟨v,o,ho,hd⟩:=I.cell x c e;obtain⟨m,⟨o',es,ep,ho',hd',_⟩,_⟩:=I.loc;rw[z,ho'] at ho;cases ho;rw[hd'] at hd;cases hd
theorem Inv.funs (I:Inv X pins σ H s):s.heap.FunFrames X.base X.outer:=by
 have all:∀(l:List Env),(∀ b∈frs l,b∈X.fs)->X.s₀.heap.FunFrames X.base l->s.heap.FunFrames X.base l:=by
  intro l
  induction l with
  |nil=>intro _ _;trivial
  |cons env r ih=>intro hs hl;obtain⟨hk,⟨L,o,hf,hn,ho,hd⟩,hr⟩:=hl;have hL:L∈X.fs:=hs L (by unfold frs;rw[List.filterMap_cons,hf];exact List.mem_cons_self);obtain⟨sl,e⟩:=I.base.slot L o ho (I.ok.frf L hL) hL λz=>I.ok.exfs L z hL;exact⟨hk,⟨L,_,hf,hn,e,hd⟩,ih (λb hb=>hs b (by unfold frs;rw[List.filterMap_cons,hf];exact List.mem_cons_of_mem _ hb)) hr⟩
 exact all X.outer (λ_ hb=>hb) I.ok.funs
theorem Inv.stack (I:Inv X pins σ H s):s.heap.FunFrames X.base X.stack:=by
 rcases I.ok.stk with e|⟨e,hf⟩
 . rw[e];exact I.funs
 rw[e];obtain⟨m,hn,_⟩:=I.loc;refine .cons (by rw[I.ok.kind];decide) hf hn ?_ I.funs;exact Heap.get?_none_of_le (A0Q I.ok.bsz I.ok.above)
theorem Inv.stkSub (I:Inv X pins σ H s):∀ b∈frs X.stack,b∈X.env.locals :: X.fs:=λb hb=>by
 rcases I.ok.stk with e|⟨e,hf⟩
 . rw[e] at hb;exact A0D _ hb
 rw[e] at hb;unfold frs at hb;rw[List.filterMap_cons,hf] at hb;exact hb
theorem Inv.stkFree (I:Inv X pins σ H s):∀ b∈frs X.stack,H b=none:=λb hb=>by
 rcases A0B.mp (I.stkSub b hb) with e|hb
 . rw[e];exact I.free
 obtain⟨_,o,ho,_⟩:=I.ok.funs.mem hb;exact I.base.free b o ho (I.ok.frf b hb) λz=>I.ok.exfs b z hb
theorem Inv.step {g':Array GenState}{t':Nat}{d':Drawn}{ch:List Addr}(I:Inv X pins σ H s)
  (hch:∀ b∈ch,(b∈X.ex\/X.s₀.heap.objs.size<=b)/\b≠X.env.locals/\(∀ x c,X.env.cells.lookup x=some c->c≠b)/\∀ p∈X.pn++pins,p.1≠b)
  (keep:∀ b o,b≠X.env.locals->b∉X.fs->b∉ch->s.heap.get? b=some o->H b=none->h'.get? b=some o)
  (slot:∀ b o,b≠X.env.locals->b∈X.fs->b∉ch->s.heap.get? b=some o->H b=none->∃ sl,h'.get? b=some {o with slots:=sl}) (free:∀ b o,b∉ch->s.heap.get? b=some o->H b=none->H' b=none)
  (there:∀ b o,b∉ch->s.heap.get? b=some o->∃ o',h'.get? b=some o')
  (tups:∀ b xs,H b=some (.tup xs)->H' b=some (.tup xs)) (frzs:∀ b o u,H b=some (.frz o u)->H' b=some (.frz o u)) (tbls:∀ b ps,H b=some (.tbl ps)->∃ more,H' b=some (.tbl (ps++more)))
  (ns:∀ m,s.heap.Ns X.env.locals m->h'.Ns X.env.locals m) (hok:HOk X.prog X.w H' h') (hg:AllBare g') :
  Inv X pins σ H' {s with heap:=h',gens:=g',drawn:=d',toks:=t'}:=by
 have neL:∀ b o,X.s₀.heap.get? b=some o->b≠X.env.locals:=λb o e=>A0P (A0Z (A0A e) I.ok.above)
 have neC:∀ b o,X.s₀.heap.get? b=some o->b∉X.ex->b∉ch:=λb o e hx hb=>by
  rcases(hch b hb).1 with z|z
  . exact hx z
  exact absurd (A0Z (A0A e) z) (A2F _)
 have cellK:∀ x c,X.env.cells.lookup x=some c->∀ v,s.heap.IsCell c v->h'.IsCell c v:=λx c e v ⟨o,ho,hd⟩=>by
  have nch:c∉ch:=λz=>(hch c z).2.2.1 x c e rfl
  by_cases hc:c∈X.fs
  . obtain⟨sl,q⟩:=slot c o (I.cne x c e) hc nch ho (I.freeC x c e);exact⟨_,q,hd⟩
  exact⟨o,keep c o (I.cne x c e) hc nch ho (I.freeC x c e),hd⟩
 refine⟨I.ok,I.os,hg,⟨λb o e n hb hx=>?_,λb o e n hb hx=>?_,λb o e n hx=>?_,λb o e hx=>?_,λb xs e=>tups b xs (I.base.tups b xs e),λb o xs e=>frzs b o xs (I.base.frzs b o xs e),λb ps e=>?_⟩,?_,λx c e=>?_,?_,λx c e=>?_,λp hp=>?_,hok,I.len⟩
 . exact keep b o (neL b o e) hb (neC b o e hx) (I.base.keep b o e n hb hx) (I.base.free b o e n hx)
 . obtain⟨sl,e1⟩:=I.base.slot b o e n hb hx;obtain⟨sl',e2⟩:=slot b _ (neL b o e) hb (neC b o e hx) e1 (I.base.free b o e n hx);exact⟨sl',e2⟩
 . obtain⟨o',e1⟩:=I.base.there b o e hx;exact free b o' (neC b o e hx) e1 (I.base.free b o e n hx)
 . obtain⟨o',e1⟩:=I.base.there b o e hx;exact there b o' (neC b o e hx) e1
 . obtain⟨m1,e1⟩:=I.base.tbls b ps e;obtain⟨m2,e2⟩:=tbls b _ e1;exact⟨m1++m2,by rw[e2,Array.append_assoc]⟩
 . obtain⟨m,hn,hl⟩:=I.loc;refine⟨m,ns m hn,λi x v e1 e2 e3=>?_⟩;obtain⟨u,r,l⟩:=hl i x v e1 e2 e3;refine⟨u,r,?_⟩;rcases l with l|⟨k,c,e,z⟩
   . exact .inl l
   exact .inr ⟨k,c,e,cellK x c e _ z⟩
 . obtain⟨v,z⟩:=I.cell x c e;exact⟨v,cellK x c e v z⟩
 . obtain⟨m,⟨o,_,_,ho,_⟩,_⟩:=I.loc;exact free _ o (λz=>(hch _ z).2.1 rfl) ho I.free
 . obtain⟨v,o,ho,hd⟩:=I.cell x c e;exact free c o (λz=>(hch c z).2.2.1 x c e rfl) ho (I.freeC x c e)
 obtain⟨e,n,ne,nf,d⟩:=I.pin p hp;have nch:p.1∉ch:=λz=>(hch p.1 z).2.2.2 p hp rfl;exact⟨keep p.1 p.2 ne nf nch e n,free p.1 p.2 nch e n,ne,nf,d⟩
theorem Inv.un {t':Nat}(I:Inv X pins σ H s)(u:Un X.fs [] H H' s.heap h')(hok:HOk X.prog X.w H' h'):Inv X pins σ H' {s with heap:=h',toks:=t'}:=by
 obtain⟨m,⟨o,es,ep,ho,r⟩,_⟩:=id I.loc;obtain⟨sl,hL⟩:=u.any ho I.free (by simp)
 exact I.step (g':=s.gens) (d':=s.drawn) (ch:=[]) (λ_ z=>nomatch z) (λb o _ hb _ e n=>u.keep b o e n hb (by simp)) (λb o _ hb _ e n=>u.slot b o e n hb (by simp)) (λb o _ e n=>u.free b o e n (by simp)) (λb o _ e=>u.there b o e (by simp)) u.tups u.frzs u.tbls (λm' hm=>by obtain⟨o',es',ep',ho',r'⟩:=hm;rw[ho] at ho';cases ho';exact⟨_,es',ep',hL,r'⟩) hok I.bare
theorem Inv.call {g':Array GenState}{t':Nat}{d':Drawn}{ch:List Addr}(I:Inv X pins σ H s)(u:Un (frs X.stack) ch H H' s.heap h')(hok:HOk X.prog X.w H' h')(hg:AllBare g')
  (hch:∀ b∈ch,(b∈X.ex\/X.s₀.heap.objs.size<=b)/\b≠X.env.locals/\(∀ x c,X.env.cells.lookup x=some c->c≠b)/\∀ p∈X.pn++pins,p.1≠b) :
  Inv X pins σ H' {s with heap:=h',gens:=g',drawn:=d',toks:=t'}:=by
 obtain⟨m,⟨o,es,ep,ho,r⟩,_⟩:=id I.loc;obtain⟨sl,hL⟩:=u.any ho I.free λz=>(hch _ z).2.1 rfl
 exact I.step (ch:=ch) hch (λb o hL hb hc e n=>u.keep b o e n (λz=>(A0B.mp (I.stkSub b z)).elim hL hb) hc) (λb o _ _ hc e n=>u.any e n hc) (λb o hc e n=>u.free b o e n hc) (λb o hc e=>u.there b o e hc) u.tups u.frzs u.tbls (λm' hm=>by obtain⟨o',es',ep',ho',r'⟩:=hm;rw[ho] at ho';cases ho';exact⟨_,es',ep',hL,r'⟩) hok hg
theorem Inv.turned {t':Nat}{it:Addr}(I:Inv X pins σ H s)(k:∀ b o,b≠it->s.heap.get? b=some o->h'.get? b=some o)(hn:H it=none)(hL:it≠X.env.locals)
  (h1:it∈X.ex\/X.s₀.heap.objs.size<=it) (h2:∀ x c,X.env.cells.lookup x=some c->c≠it) (h3:∀ p∈X.pn++pins,p.1≠it):Inv X pins σ H {s with heap:=h',toks:=t'}:=by
 have nit:∀ b u,H b=some u->b≠it:=λb u e z=>by rw[z,hn] at e;cases e
 refine I.step (g':=s.gens) (d':=s.drawn) (ch:=[it]) (λb hb=>?_) (λb o _ _ hc e _=>k b o (λz=>hc (by simp[z])) e) (λb o _ _ hc e _=>⟨o.slots,k b o (λz=>hc (by simp[z])) e⟩) (λ_ _ _ _ n=>n)
  (λb o hc e=>⟨o,k b o (λz=>hc (by simp[z])) e⟩) (λ_ _ e=>e) (λ_ _ _ e=>e) (λb ps e=>⟨#[],by rw[e];simp⟩) (λm hm=>?_) (λb u e=>?_) I.bare
 . have e:b=it:=by simpa using hb
   subst e;exact⟨h1,hL,h2,h3⟩
 . obtain⟨o,es,ep,ho,r⟩:=hm;exact⟨o,es,ep,k _ o (Ne.symm hL) ho,r⟩
 refine(I.hok b u e).stay (λc v hc q=>k c v ?_ q) (λ_ q=>q) λ_ _ q=>q;rcases hc with z|z
 . rw[z];exact nit b u e
 exact nit c _ z
theorem Inv.tok (I:Inv X pins σ H s)(t:Nat):Inv X pins σ H {s with toks:=t}:=I.un (h':=s.heap) (t':=t) Un.refl I.hok
theorem Inv.kept {t':Nat}(I:Inv X pins σ H s)(k:∀ b u,s.heap.get? b=some u->h'.get? b=some u):Inv X pins σ H {s with heap:=h',toks:=t'}:=I.un (Un.kept k) (I.hok.kept k)
theorem Inv.laid {a:Addr}{o:HO}{t':Nat}(I:Inv X pins σ H s)(k:∀ b u,s.heap.get? b=some u->h'.get? b=some u)(hp:s.heap.objs.size<=a)(new:ObjOk X.prog X.w (upd H a o) h' a o) :
  Inv X pins σ (upd H a o) {s with heap:=h',toks:=t'}:=I.un (Un.laid k hp (I.hok.fresh hp)) (I.hok.laid k hp new)
theorem Inv.write {x e:Addr}{o:HO}{t':Nat}(I:Inv X pins σ H s)(mu:Mut (H x))(he:e=x\/H e=some (.own x))(k:∀ b u,b≠e->s.heap.get? b=some u->h'.get? b=some u)(heo:∃ u,h'.get? e=some u)
  (new:ObjOk X.prog X.w (upd H x o) h' x o):Inv X pins σ (upd H x o) {s with heap:=h',toks:=t'}:=I.un (Un.write mu he k heo) (I.hok.write mu he k heo new)
theorem Inv.weak {σ':List (Option V)}(I:Inv X pins σ H s)(hl:σ'.length=σ.length)(w:∀(i:Nat) v,σ'[i]? = some (some v)->σ[i]? = some (some v)):Inv X pins σ' H s:=
 ⟨I.ok,I.os,I.bare,I.base,let ⟨m,hn,hl'⟩:=I.loc;⟨m,hn,λi x v e1 e2 e3=>hl' i x v e1 (w i v e2) e3⟩,I.cell,I.free,I.freeC,I.pin,I.hok,hl.trans I.len⟩
theorem Inv.pins_of {pins':List (Addr×Obj)}(I:Inv X pins σ H s)(h:∀ p∈pins',s.heap.get? p.1=some p.2/\H p.1=none/\p.1≠X.env.locals/\p.1∉X.fs/\∀ v,p.2.data ≠ .cell v):Inv X pins' σ H s:=
 ⟨I.ok,I.os,I.bare,I.base,I.loc,I.cell,I.free,I.freeC,λp hp=>(A0R.mp hp).elim (λz=>I.pin p (A3L _ z)) (h p),I.hok,I.len⟩
theorem Ms {N:List Str}(hN:N.Nodup){i j:Nat}{x:Str}(a:N[i]? = some x)(b:N[j]? = some x):i=j:=by obtain⟨h1,e1⟩:=A02.mp a;obtain⟨h2,e2⟩:=A02.mp b;exact(A1P hN).mp (e1.trans e2.symm)
theorem Pm {M:Model}{A:Around}{E:Value->Shared->Prop}{i:Nat}{x:Str}{v:V}{u:Value}{Q:Unit->Shared->Prop}(I:Inv X pins σ H s)(hN:X.N.Nodup)(hi:X.N[i]? = some x)(hx:Loc X.env.scope x)(r:RelV v u)
  (h:∀ s',Inv X pins (σ.set i (some v)) H s'->(∃ a,Heap.SameBut a s.heap s'.heap/\(a=X.env.locals\/X.env.cells.lookup x=some a))->Q () s') (hf:X.fn x=true\/X.env.scope.names.lookup x=some .local:=by with_unfolding_all (first | exact .inl rfl | exact .inr rfl | assumption)):wpAny M A (storeName X.env x u) Q E s:=by
 obtain⟨m,hn,hl⟩:=id I.loc;have hcls:(X.env.scope.kind == .class||(X.env.scope.kind == .module&&X.env.locals != X.env.globals))=false:=by rw[I.ok.kind];rfl
 have hiσ:i<σ.length:=by rw[I.len];exact(A02.mp hi).1
 have cne:=I.cne
 have tracked:∀ {a:Addr} {h':Heap},(∃ o,s.heap.get? a=some o/\H a=none)->Heap.SameBut a s.heap h'->HOk X.prog X.w H h':=fun {a h'} ha hs b ob e=>by
  obtain⟨_,_,hfree⟩:=ha;refine(I.hok b ob e).stay (λc w' hc q=>(hs.2 c ?_).trans q) (λ_ q=>q) λ_ _ q=>q;rintro rfl;rcases hc with rfl|hc
  . rw[hfree] at e;cases e
  rw[hfree] at hc;cases hc
 rcases hx with hk|hk
 . refine wpAny_storeName_local hk hn (λh' hn' hs=>?_) hcls;obtain⟨oL,_,_,hoL,_⟩:=id hn;refine h _ ⟨I.ok,I.os,I.bare,⟨λb o e n hb hx=>?_,λb o e n hb hx=>?_,I.base.free,λb o e hx=>?_,I.base.tups,I.base.frzs,I.base.tbls⟩,⟨_,hn',λj y v' e1 e2 e3=>?_⟩,λy c e=>?_,I.free,I.freeC,λp hp=>?_,tracked ⟨oL,hoL,I.free⟩ hs,by simpa using I.len⟩ ⟨_,hs,.inl rfl⟩
   . exact(hs.2 b (A0P (A0Z (A0A e) I.ok.above))).trans (I.base.keep b o e n hb hx)
   . obtain⟨sl,e1⟩:=I.base.slot b o e n hb hx;exact⟨sl,(hs.2 b (A0P (A0Z (A0A e) I.ok.above))).trans e1⟩
   . obtain⟨o',e1⟩:=I.base.there b o e hx;exact⟨o',(hs.2 b (A0P (A0Z (A0A e) I.ok.above))).trans e1⟩
   . by_cases hj:j=i
     . subst hj;rw[hi] at e1;cases e1;rw[A2K hiσ] at e2
       cases e2;exact⟨u,r,.inl ⟨hk,by simp⟩⟩
     rw[A28 (Ne.symm hj)] at e2;obtain⟨u',r',q⟩:=hl j y v' e1 e2 e3;refine⟨u',r',?_⟩;rcases q with ⟨k,e⟩|⟨k,c,e,z⟩
     . refine .inl ⟨k,?_⟩;have:y≠x:=λe=>hj (Ms hN e1 (e ▸ hi));simp[this,e]
     exact .inr ⟨k,c,e,z.sameBut hs (cne y c e)⟩
   . obtain⟨w',z⟩:=I.cell y c e;exact⟨w',z.sameBut hs (cne y c e)⟩
   obtain⟨e,n,ne,nf,d⟩:=I.pin p hp;exact⟨(hs.2 p.1 ne).trans e,n,ne,nf,d⟩
 have hfn:X.fn x=true:=by
  rcases hf with z|z
  . exact z
  rw[z] at hk;cases hk
 obtain⟨c,hc⟩:=I.ok.has x (.inl hk);obtain⟨w',z⟩:=I.cell x c hc;refine wpAny_storeName_cell I.ok.kind hk hc z (λh' hc' hs=>?_);obtain⟨oc,hoc,hocd⟩:=id z;refine h {s with heap:=h'} ⟨I.ok,I.os,I.bare,⟨λb o e n hb hx=>?_,λb o e n hb hx=>?_,I.base.free,λb o e hx=>?_,I.base.tups,I.base.frzs,I.base.tbls⟩,⟨m,hn.sameBut hs (Ne.symm (cne x c hc)),λj y v' e1 e2 e3=>?_⟩,λy c' e=>?_,I.free,I.freeC,λp hp=>?_,tracked ⟨oc,hoc,I.freeC x c hc⟩ hs,by simpa using I.len⟩ ⟨c,hs,.inr hc⟩
 . exact(hs.2 b (A0P (A0Z (A0A e) (I.ok.cab x c hfn hc)))).trans (I.base.keep b o e n hb hx)
 . obtain⟨sl,e1⟩:=I.base.slot b o e n hb hx;exact⟨sl,(hs.2 b (A0P (A0Z (A0A e) (I.ok.cab x c hfn hc)))).trans e1⟩
 . obtain⟨o',e1⟩:=I.base.there b o e hx;exact⟨o',(hs.2 b (A0P (A0Z (A0A e) (I.ok.cab x c hfn hc)))).trans e1⟩
 . by_cases hj:j=i
   . subst hj;rw[hi] at e1;cases e1;rw[A2K hiσ] at e2
     cases e2;exact⟨u,r,.inr ⟨.inl hk,c,hc,hc'⟩⟩
   rw[A28 (Ne.symm hj)] at e2;obtain⟨u',r',q⟩:=hl j y v' e1 e2 e3;refine⟨u',r',?_⟩;rcases q with q|⟨k,c',e,z'⟩
   . exact .inl q
   refine .inr ⟨k,c',e,z'.sameBut hs ?_⟩;rintro rfl;exact hj (Ms hN e1 (I.ok.inj _ _ _ e hc ▸ hi))
 . by_cases hcc:c'=c
   . subst hcc;exact⟨_,hc'⟩
   obtain⟨w2,z2⟩:=I.cell y c' e;exact⟨w2,z2.sameBut hs hcc⟩
 obtain⟨e,n,ne,nf,d⟩:=I.pin p hp;refine⟨(hs.2 p.1 ?_).trans e,n,ne,nf,d⟩;intro q;rw[q,hoc] at e;have q':oc=p.2:=A10 e;exact d w' (by rw[<- q'];exact hocd)
theorem Ko {M:Model}{A:Around}{E:Value->Shared->Prop}{i:Nat}{x:Str}{v:V}{u:Value}{Q:Unit->Shared->Prop}(I:Inv X pins σ H s)(hN:X.N.Nodup)(hi:X.N[i]? = some x)(hx:Loc X.env.scope x)(r:RelV v u)
  (h:∀ s',Inv X pins (σ.set i (some v)) H s'->Q () s') (hf:X.fn x=true\/X.env.scope.names.lookup x=some .local:=by with_unfolding_all (first | exact .inl rfl | exact .inr rfl | assumption)):wpAny M A (storeName X.env x u) Q E s:=
 Pm I hN hi hx r (λs' I' _=>h s' I') hf
theorem Inv.call' {s':Shared}{ch:List Addr}(I:Inv X pins σ H s)(ho:s'.os=s.os)(u:Un (frs X.stack) ch H H' s.heap s'.heap)(hok:HOk X.prog X.w H' s'.heap)(hg:AllBare s'.gens)
  (hch:∀ b∈ch,(b∈X.ex\/X.s₀.heap.objs.size<=b)/\b≠X.env.locals/\(∀ x c,X.env.cells.lookup x=some c->c≠b)/\∀ p∈X.pn++pins,p.1≠b):Inv X pins σ H' s':=by
 obtain⟨h',g',d',t',o'⟩:=s';have e:o'=s.os:=ho;subst e;exact I.call (g':=g') (t':=t') (d':=d') u hok hg hch
end
abbrev XK:=Value->Option Addr->Hp->Prop
abbrev St:=List (Option V)
abbrev VK:=V->Hp->Prop
abbrev TE:=St->Hp->VK->Prop
abbrev TT:=St->Hp->(Bool->Hp->Prop)->Prop
abbrev TA:=St->Hp->(List V->Hp->Prop)->Prop
structure Ends where
 nx:St->Hp->Prop
 rt:VK
 bk:St->Hp->Prop:=λ_ _=>False
 ct:St->Hp->Prop:=λ_ _=>False
abbrev TS:=Ends->St->Hp->Prop
def EP (X:Cx)(pins:List (Addr×Obj))(σ:St)(Q:VK)(u:Value)(s':Shared):Prop:=∃ v H',Inv X pins σ H' s'/\RelV v u/\Q v H'
def TP (X:Cx)(pins:List (Addr×Obj))(σ:St)(Q:Bool->Hp->Prop)(b:Bool)(s':Shared):Prop:=∃ H',Inv X pins σ H' s'/\Q b H'
def AP (X:Cx)(pins:List (Addr×Obj))(σ:St)(Q:List V->Hp->Prop)(us:List Value)(s':Shared):Prop:=∃ vs H',Inv X pins σ H' s'/\Vals vs us/\Q vs H'
def SP (X:Cx)(pins:List (Addr×Obj))(D:Ends)(f:Flow)(s':Shared):Prop:=
 match f with
 |.next=>∃ σ' H',Inv X pins σ' H' s'/\D.nx σ' H'
 |.brk=>∃ σ' H',Inv X pins σ' H' s'/\D.bk σ' H'
 |.cont=>∃ σ' H',Inv X pins σ' H' s'/\D.ct σ' H'
 |.ret u=>∃ v σ' H',Inv X pins σ' H' s'/\RelV v u/\D.rt v H'
def PE (X:Cx)(e:Expr)(t:TE):Prop:=
 ∀(pins:List (Addr×Obj)) (s:Shared) (σ:St) (H:Hp) (Q:VK),Inv X pins σ H s->t σ H Q->wpAny (model X.prog X.w) X.A (eval e X.env) (EP X pins σ Q) X.xe s
def PT (X:Cx)(e:Expr)(t:TT):Prop:=
 ∀(pins:List (Addr×Obj)) (s:Shared) (σ:St) (H:Hp) (Q:Bool->Hp->Prop),Inv X pins σ H s->t σ H Q->wpAny (model X.prog X.w) X.A (isTrue e X.env (eval e X.env)) (TP X pins σ Q) X.xe s
def PW (X:Cx)(e:Expr)(t:TT):Prop:=
 ∀(whole:Sem Value) (pins:List (Addr×Obj)) (s:Shared) (σ:St) (H:Hp) (Q:Bool->Hp->Prop),Inv X pins σ H s->t σ H Q->wpAny (model X.prog X.w) X.A (isTrue e X.env whole) (TP X pins σ Q) X.xe s
theorem PW.pt {X:Cx}{e:Expr}{t:TT}(h:PW X e t):PT X e t:=h _
def PA (X:Cx)(es:List Expr)(t:TA):Prop:=
 ∀(pos:Pos) (pins:List (Addr×Obj)) (s:Shared) (σ:St) (H:Hp) (Q:List V->Hp->Prop),Inv X pins σ H s->t σ H Q->wpAny (model X.prog X.w) X.A (spliced (backTo pos (starEach es X.env))) (AP X pins σ Q) X.xe s
def PS (X:Cx)(st:Stmt)(t:TS):Prop:=
 ∀(pins:List (Addr×Obj)) (s:Shared) (σ:St) (H:Hp) (D:Ends),Inv X pins σ H s->t D σ H->wpAny (model X.prog X.w) X.A (exec st X.env) (SP X pins D) X.xe s
def PSs (X:Cx)(st:List Stmt)(t:TS):Prop:=
 ∀(pins:List (Addr×Obj)) (s:Shared) (σ:St) (H:Hp) (D:Ends),Inv X pins σ H s->t D σ H->wpAny (model X.prog X.w) X.A (execs st X.env) (SP X pins D) X.xe s
theorem thn {α:Type}{t:Sem α}{Q Q':α->Shared->Prop}{M:Model}{A:Around}{E:Value->Shared->Prop}{s:Shared}(h:wpAny M A t Q E s)(hQ:∀ a s,Q a s->Q' a s):wpAny M A t Q' E s:=A1X h hQ λ_ _ x=>x
section
variable {X:Cx}
def ax5 (i:Nat):TE:=fun σ H Q=>∃ v,σ[i]? = some (some v)/\Q v H
def tC (v:V):TE:=λ_ H Q=>Q v H
theorem an6 {i:Nat}{x:Str}{pos:Pos}(hN:X.N[i]? = some x)(hv:Vis X.env.scope x)(hd:(x==("__debug__":Str))=false:=by decide)(hcd:(x==("__classdict__":Str))=false:=by decide):PE X (.Name x pos) (ax5 i):=by
 intro pins s σ H Q I h;obtain⟨v,e,h⟩:=h;obtain⟨m,hn,hl⟩:=I.loc;obtain⟨u,r,l⟩:=hl i x v hN e hv;have fin:EP X pins σ Q u s:=⟨v,H,I,r,h⟩;rcases l with ⟨hk,hm⟩|⟨hk,c,hc,hcell⟩
 . exact wpAny_Name (wpAny_loadName_local I.ok.kind hk hn hm fin) hd
 rcases hk with hk|hk
 . exact wpAny_Name (wpAny_loadName_cell I.ok.kind hk hc hcell fin) hd
 exact wpAny_Name (wpAny_loadName_free I.ok.kind hk hc hcell fin hcd) hd
theorem A3 {i j pos}:PE X (.Constant (.int i) j pos) (tC (.int i)):=λ_ _ _ H _ I h=>wpAny_Constant_int ⟨.int i,H,I.tok _,⟨_,rfl⟩,h⟩
theorem Lx {b j pos}:PE X (.Constant (.bool b) j pos) (tC (.bl b)):=λ_ _ _ H _ I h=>Constant_bool ⟨.bl b,H,I,rfl,h⟩
theorem M5 {j pos}:PE X (.Constant .none j pos) (tC .non):=λ_ _ _ H _ I h=>Constant_none ⟨.non,H,I,rfl,h⟩
theorem An {x j pos}:PE X (.Constant (.str x) j pos) (tC (.str x)):=λ_ _ _ H _ I h=>Calls.Constant_str ⟨.str x,H,I.tok _,⟨_,rfl⟩,h⟩
def Gl (X:Cx)(x:Str):Prop:=X.env.kindOf x=some .globalImplicit
theorem Kw {E:Value->Shared->Prop}{pins:List (Addr×Obj)}{s:Shared}{σ:St}{H:Hp}{x:Str}{u:Value}{pos:Pos}{Q:Value->Shared->Prop}(I:Inv X pins σ H s)(hg:Gl X x)(hm:X.mg x=some u)(h:Q u s)
  (hd:(x==("__debug__":Str))=false:=by decide):wpAny (model X.prog X.w) X.A (eval (.Name x pos) X.env) Q E s:=
 Calls.Name_function_global I.ok.kind hg (Calls.loadGlobal_global (by rw[I.ok.glob];exact I.mod.glob.keeps I.bk) hm h) hd
theorem Mp {E:Value->Shared->Prop}{pins:List (Addr×Obj)}{s:Shared}{σ:St}{H:Hp}{x:Str}{u:Value}{pos:Pos}{Q:Value->Shared->Prop}(I:Inv X pins σ H s)(hg:Gl X x)(hm:X.mg x=none)(hv:bootBuiltins x=some u)(h:Q u s)
  (hn:x ≠ "__name__":=by decide) (hd:(x==("__debug__":Str))=false:=by decide):wpAny (model X.prog X.w) X.A (eval (.Name x pos) X.env) Q E s:=by
 obtain⟨mb,h1,h2⟩:=I.mod.blt;exact Calls.Name_function_global I.ok.kind hg (Calls.loadGlobal_builtin (by rw[I.ok.glob];exact I.mod.glob.keeps I.bk) hm (by rw[I.ok.blt];exact h1.keeps I.bk) ((h2 x hn).trans hv) h) hd
theorem a77 {x:Str}{v:V}{u:Value}{pos:Pos}(hg:Gl X x)(hm:X.mg x=some u)(r:RelV v u)(hd:(x==("__debug__":Str))=false:=by decide):PE X (.Name x pos) (tC v):=
 λ_ _ _ H _ I h=>Kw I hg hm ⟨v,H,I,r,h⟩ hd
theorem ac5 {x:Str}{v:V}{u:Value}{pos:Pos}(hg:Gl X x)(hm:X.mg x=none)(hv:bootBuiltins x=some u)(r:RelV v u)(hn:x ≠ "__name__":=by decide)(hd:(x==("__debug__":Str))=false:=by decide):PE X (.Name x pos) (tC v):=
 λ_ _ _ H _ I h=>Mp I hg hm hv ⟨v,H,I,r,h⟩ hn hd
variable {a b:Expr}{ta tb:TE}{pos:Pos}
def tB (t:TE):TT:=fun σ H Q=>t σ H λx H1=>∃ c,x = .bl c/\Q c H1
theorem Sl {e:Expr}{t:TE}(h:PE X e t)(he:∀ whole,isTrue e X.env whole=(do let v <- whole;standAt e.pos;holding [v] (truthy v)):=by intro _;ac_nf):PT X e (tB t):=by
 intro pins s σ H Q I hw;refine isTrue_plain (thn (h pins s σ H _ I hw) λv s1 ⟨x,H1,I1,r1,q1⟩=>?_) (he _);obtain⟨d,rfl,q⟩:=q1
 cases r1;exact A29 ⟨H1,I1,q⟩
variable {tA tB':TT}{rest:List Expr}
def aA6 (t u:TT):TT:=fun σ H Q=>t σ H λc H1=>if c=true then u σ H1 Q else Q false H1
def tOr (t u:TT):TT:=fun σ H Q=>t σ H λc H1=>if c=true then Q true H1 else u σ H1 Q
def az5 (t:TT):TT:=fun σ H Q=>t σ H λc H1=>Q (!c) H1
theorem Vg (ha:PT X a tA):PW X (.BoolOp .And [a] pos) tA:=by
 intro wh pins s σ H Q I h;refine isTrue_and (thn (ha pins s σ H Q I h) λc s1 e=>?_)
 cases c with
 |true=>exact isTrue_and_nil e
 |false=>exact e
theorem ai0 (ha:PT X a tA):PW X (.BoolOp .Or [a] pos) tA:=by
 intro wh pins s σ H Q I h;refine isTrue_or (thn (ha pins s σ H Q I h) λc s1 e=>?_)
 cases c with
 |false=>exact isTrue_or_nil e
 |true=>exact e
theorem a41 (ha:PT X a tA)(hb:PW X (.BoolOp .And (b :: rest) pos) tB'):PW X (.BoolOp .And (a :: b :: rest) pos) (aA6 tA tB'):=by
 intro wh pins s σ H Q I h;refine isTrue_and (thn (ha pins s σ H _ I h) λc s1 ⟨H1,I1,q1⟩=>?_)
 cases c with
 |true=>exact hb wh pins s1 σ H1 Q I1 q1
 |false=>exact⟨H1,I1,q1⟩
theorem av7 (ha:PT X a tA)(hb:PW X (.BoolOp .Or (b :: rest) pos) tB'):PW X (.BoolOp .Or (a :: b :: rest) pos) (tOr tA tB'):=by
 intro wh pins s σ H Q I h;refine isTrue_or (thn (ha pins s σ H _ I h) λc s1 ⟨H1,I1,q1⟩=>?_)
 cases c with
 |true=>exact⟨H1,I1,q1⟩
 |false=>exact hb wh pins s1 σ H1 Q I1 q1
theorem aq0 (ha:PT X a tA):PT X (.UnaryOp .Not a pos) (az5 tA):=by intro pins s σ H Q I h;exact isTrue_not (ha pins s σ H (λc H1=>Q (!c) H1) I h)
def am0 (ta tb:TE):TE:=fun σ H Q=>ta σ H λx H1=>∃ c,x = .bl c/\if c=true then tb σ H1 Q else Q (.bl false) H1
def ay8 (ta tb:TE):TE:=fun σ H Q=>ta σ H λx H1=>∃ c,x = .bl c/\if c=true then Q (.bl true) H1 else tb σ H1 Q
def aj5 (ta:TE):TE:=fun σ H Q=>ta σ H λx H1=>∃ c,x = .bl c/\Q (.bl (!c)) H1
theorem a07 {op}{t:TE}(h:PE X a t):PE X (.BoolOp op [a] pos) t:=λpins s σ H Q I hw=>BoolOp_one (h pins s σ H Q I hw)
theorem al5 (ha:PE X a ta)(hb:PE X (.BoolOp .And (b :: rest) pos) tb):PE X (.BoolOp .And (a :: b :: rest) pos) (am0 ta tb):=by
 intro pins s σ H Q I h;refine BoolOp_and (thn (ha pins s σ H _ I h) λv s1 ⟨x,H1,I1,r1,q1⟩=>?_);obtain⟨c,rfl,q1⟩:=q1
 cases r1;refine A29 ?_
 cases c with
 |true=>exact hb pins s1 σ H1 Q I1 q1
 |false=>exact⟨.bl false,H1,I1,rfl,q1⟩
theorem aw4 (ha:PE X a ta)(hb:PE X (.BoolOp .Or (b :: rest) pos) tb):PE X (.BoolOp .Or (a :: b :: rest) pos) (ay8 ta tb):=by
 intro pins s σ H Q I h;refine BoolOp_or (thn (ha pins s σ H _ I h) λv s1 ⟨x,H1,I1,r1,q1⟩=>?_);obtain⟨c,rfl,q1⟩:=q1
 cases r1;refine A29 ?_
 cases c with
 |false=>exact hb pins s1 σ H1 Q I1 q1
 |true=>exact⟨.bl true,H1,I1,rfl,q1⟩
theorem am2 (ha:PE X a ta):PE X (.UnaryOp .Not a pos) (aj5 ta):=by
 intro pins s σ H Q I h;refine UnaryOp_ (thn (ha pins s σ H _ I h) λv s1 ⟨x,H1,I1,r1,q1⟩=>?_);obtain⟨c,rfl,q1⟩:=q1
 cases r1;exact not_of (A29 ⟨.bl (!c),H1,I1,rfl,q1⟩)
def tIf (t:TT)(ta tb:TE):TE:=fun σ H Q=>t σ H λc H1=>if c=true then ta σ H1 Q else tb σ H1 Q
theorem Zx {c:Expr}(hc:PT X c tA)(ha:PE X a ta)(hb:PE X b tb):PE X (.IfExp c a b pos) (tIf tA ta tb):=by
 intro pins s σ H Q I h;refine wpAny_IfExp (thn (hc pins s σ H _ I h) λd s1 ⟨H1,I1,q1⟩=>?_)
 cases d with
 |true=>exact ha pins s1 σ H1 Q I1 q1
 |false=>exact hb pins s1 σ H1 Q I1 q1
end
def SqL (K:W.Frag)(H:Hp)(a:Addr)(xs:List V):Prop:=
 Rd H a (.lst xs) \/
  ∃(o:Obj) (its:Array Value) (n:Nat),K.lookup a=some o/\o.cls = .type "list" /\ o.dict=none/\o.data = .seq its n/\its.size<=sizeLine/\Vals xs its.toList
def SqT (K:W.Frag)(H:Hp)(a:Addr)(xs:List V):Prop:=
 Rd H a (.tup xs) \/
  ∃(o:Obj) (its:Array Value) (n:Nat),K.lookup a=some o/\o.cls = .type "tuple" /\ o.data = .seq its n/\its.size<=sizeLine/\Vals xs its.toList/\o.dict=none
def absV:Value->Option V
 |.none=>some .non
 |.bool b=>some (.bl b)
 |.int i _=>some (.int i)
 |.str x _=>some (.str x)
 |.bytes b _=>some (.byt b)
 |.float b _=>some (.flt b)
 |.ref a=>some (.ref a)
 |.type n=>some (.ty n)
 |_=>none
theorem RelV.abs {x:V}{u:Value}(r:RelV x u):absV u=some x:=by
 cases x with
 |non=>cases r;rfl
 |bl _=>cases r;rfl
 |int _=>obtain⟨t,rfl⟩:=r;rfl
 |str _=>obtain⟨t,rfl⟩:=r;rfl
 |byt _=>obtain⟨t,rfl⟩:=r;rfl
 |flt _=>obtain⟨t,rfl⟩:=r;rfl
 |ref _=>cases r;rfl
 |ty _=>cases r;rfl
theorem RelV.inj {x y:V}{u:Value}(r:RelV x u)(q:RelV y u):x=y:=A10 (r.abs.symm.trans q.abs)
theorem Vals.inj:∀ {xs ys:List V} {us:List Value},Vals xs us->Vals ys us->xs=ys
 |_,_,_,.nil,.nil=>rfl
 |_,_,_,.cons r t,.cons r' t'=>by rw[r.inj r',Vals.inj t t']
section
variable {X:Cx}{pins:List (Addr×Obj)}{σ:St}{H:Hp}{s:Shared}{a:Addr}{xs ys:List V}
theorem SqL.of {K:W.Frag}(h:H a=some (.lst xs)):SqL K H a xs:=.inl (.inl h)
theorem SqT.of {K:W.Frag}(h:H a=some (.tup xs)):SqT K H a xs:=.inl (.inl h)
theorem Inv.list (I:Inv X pins σ H s)(h:SqL X.K H a xs):∃ its:List Value,Vals xs its/\PlainL s.heap a its.toArray/\xs.length<=sizeLine:=by
 rcases h with h|⟨o,its,n,hk,hc,hd,hs,hz,r⟩
 . obtain⟨z,its,n,r,e⟩:=h.ok I.hok;exact⟨its,r,⟨_,n,e,rfl,rfl,rfl⟩,z⟩
 refine⟨its.toList,r,⟨o,n,I.kIn a o hk,hc,hd,by simpa using hs⟩,?_⟩;have e:=r.length;simp only[Array.length_toList] at e;omega
theorem Inv.tuple (I:Inv X pins σ H s)(h:SqT X.K H a xs):∃ its:List Value,Vals xs its/\IsTup s.heap a its.toArray/\xs.length<=sizeLine:=by
 rcases h with h|⟨o,its,n,hk,hc,hs,hz,r,hn⟩
 . obtain⟨z,its,r,p⟩:=h.ok I.hok;exact⟨its,r,p.tup,z⟩
 refine⟨its.toList,r,⟨o,I.kIn a o hk,hc,n,by simpa using hs⟩,?_⟩;have e:=r.length;simp only[Array.length_toList] at e;omega
theorem Inv.tupleN (I:Inv X pins σ H s)(h:SqT X.K H a xs):∃ ob,s.heap.get? a=some ob/\ob.dict=none:=by
 rcases h with h|⟨o,its,n,hk,hc,hs,hz,r,hn⟩
 . obtain⟨z,its,r,o,h1,_,_,h2⟩:=h.ok I.hok;exact⟨o,h1,h2⟩
 exact⟨o,I.kIn a o hk,hn⟩
theorem Inv.list_inj (I:Inv X pins σ H s)(h:SqL X.K H a xs)(h':SqL X.K H a ys):xs=ys:=by
 obtain⟨its,r,⟨o,n,e,_,_,d⟩,_⟩:=I.list h;obtain⟨its',r',⟨o',n',e',_,_,d'⟩,_⟩:=I.list h';rw[e] at e';cases e';rw[d] at d';injection d' with d1 _;have:its=its':=by simpa using congrArg Array.toList d1
 subst this;exact r.inj r'
theorem Inv.tuple_inj (I:Inv X pins σ H s)(h:SqT X.K H a xs)(h':SqT X.K H a ys):xs=ys:=by
 obtain⟨its,r,⟨o,e,_,n,d⟩,_⟩:=I.tuple h;obtain⟨its',r',⟨o',e',_,n',d'⟩,_⟩:=I.tuple h';rw[e] at e';cases e';rw[d] at d';injection d' with d1 _;have:its=its':=by simpa using congrArg Array.toList d1
 subst this;exact r.inj r'
end
abbrev Cx.wish (X:Cx)(E:Value->Shared->Prop):Cx:={X with xe:=E}
abbrev Cx.nox (X:Cx):Cx:=X.wish λ_ _=>False
theorem Cx.Ok.wish {X:Cx}(ok:X.Ok)(E:Value->Shared->Prop):(X.wish E).Ok:=
 ⟨ok.mod,ok.kind,ok.glob,ok.blt,ok.above,ok.inj,ok.has,ok.cab,ok.hd,ok.frames,ok.stk,ok.exf,ok.bs,ok.bsz,ok.noex,ok.exfs,ok.funs,ok.frf⟩
theorem Cx.Ok.unwish {X:Cx}{E:Value->Shared->Prop}(ok:(X.wish E).Ok):X.Ok:=
 ⟨ok.mod,ok.kind,ok.glob,ok.blt,ok.above,ok.inj,ok.has,ok.cab,ok.hd,ok.frames,ok.stk,ok.exf,ok.bs,ok.bsz,ok.noex,ok.exfs,ok.funs,ok.frf⟩
section
variable {X:Cx}{pins:List (Addr×Obj)}{σ:St}{H:Hp}{s:Shared}{E:Value->Shared->Prop}
theorem Inv.wish (I:Inv X pins σ H s)(E:Value->Shared->Prop):Inv (X.wish E) pins σ H s:=⟨I.ok.wish E,I.os,I.bare,I.base,I.loc,I.cell,I.free,I.freeC,I.pin,I.hok,I.len⟩
theorem Inv.unwish (I:Inv (X.wish E) pins σ H s):Inv X pins σ H s:=⟨I.ok.unwish,I.os,I.bare,I.base,I.loc,I.cell,I.free,I.freeC,I.pin,I.hok,I.len⟩
theorem SP.unwish {D:Ends}{f:Flow}{s':Shared}(h:SP (X.wish E) pins D f s'):SP X pins D f s':=by
 cases f with
 |next=>obtain⟨σ',H',I,q⟩:=h;exact⟨σ',H',I.unwish,q⟩
 |brk=>obtain⟨σ',H',I,q⟩:=h;exact⟨σ',H',I.unwish,q⟩
 |cont=>obtain⟨σ',H',I,q⟩:=h;exact⟨σ',H',I.unwish,q⟩
 |ret u=>obtain⟨v,σ',H',I,r,q⟩:=h;exact⟨v,σ',H',I.unwish,r,q⟩
theorem PSs.nox {st:List Stmt}{t:TS}(h:PSs X.nox st t):PSs X st t:=λpins s σ H D I hw=>A1X (h pins s σ H D (I.wish _) hw) (λ_ _ q=>q.unwish) λ_ _ z=>False.elim z
end
section
variable {X:Cx}{st:Stmt}{rest:List Stmt}{t u:TS}{e:Expr}{te:TE}{pos:Pos}
def ah7:TS:=λD σ H=>D.nx σ H
def at8 (t u:TS):TS:=λD σ H=>t {D with nx:=u D} σ H
theorem At:PSs X [] ah7:=λ_ _ σ H _ I h=>A4C ⟨σ,H,I,h⟩
theorem A1 (h1:PS X st t) (h2:PSs X rest u):PSs X (st :: rest) (at8 t u):=by
 intro pins s σ H D I h;refine wpAny_execs_cons (thn (h1 pins s σ H {D with nx:=u D} I h) λf s1 q=>?_)
 cases f with
 |next=>obtain⟨σ',H',I',q⟩:=q;exact h2 pins s1 σ' H' D I' q
 |ret v=>exact q
 |brk=>exact q
 |cont=>exact q
theorem A5 (h1:PS X st t):PSs X [st] t:=by
 intro pins s σ H D I h;refine wpAny_execs_cons (thn (h1 pins s σ H D I h) λf s1 q=>?_)
 cases f with
 |next=>exact A4C q
 |ret v=>exact q
 |brk=>exact q
 |cont=>exact q
theorem Inv.quiet {pins:List (Addr×Obj)}{σ:St}{H:Hp}{s:Shared}(I:Inv X pins σ H s):interactive X.env=false:=by simp[interactive,I.ok.kind]
def al7 (te:TE):TS:=λD σ H=>te σ H λ_ H1=>D.nx σ H1
theorem Fg (he:PE X e te)(hs:swapsWith e none pos.line X.env=pure false:=by ac_nf):PS X (.Expr e pos) (al7 te):=by intro pins s σ H D I h;exact wpAny_Expr_any (thn (he pins s σ H _ I h) λv s1 ⟨x,H1,I1,r1,q1⟩=>⟨σ,H1,I1,q1⟩) I.quiet hs
def aA3 (te:TE):TS:=λD σ H=>te σ H D.rt
theorem Am (he:PE X e te):PS X (.Return (some e) pos) (aA3 te):=by intro pins s σ H D I h;exact wpAny_Return_some (thn (he pins s σ H _ I h) λv s1 ⟨x,H1,I1,r1,q1⟩=>⟨x,σ,H1,I1,r1,q1⟩)
def az0 (c:TT)(t u:TS):TS:=λD σ H=>c σ H λb H1=>if b=true then t D σ H1 else u D σ H1
theorem Cq {c:Expr}{a b:List Stmt}{tc:TT}(hc:PT X c tc)(ha:PSs X a t)(hb:PSs X b u):PS X (.If c a b pos) (az0 tc t u):=by
 intro pins s σ H D I h;refine wpAny_If (thn (hc pins s σ H _ I h) λd s1 ⟨H1,I1,q1⟩=>?_)
 cases d with
 |true=>exact ha pins s1 σ H1 D I1 q1
 |false=>exact hb pins s1 σ H1 D I1 q1
end
abbrev TG:=V->St->Hp->(St->Hp->Prop)->Prop
abbrev TGs:=List V->St->Hp->(St->Hp->Prop)->Prop
def PG (X:Cx)(target:Expr)(t:TG):Prop:=
 ∀(pins:List (Addr×Obj)) (s:Shared) (σ:St) (H:Hp) (v:V) (u:Value) (Q:St->Hp->Prop),Inv X pins σ H s->RelV v u->t v σ H Q ->
  wpAny (model X.prog X.w) X.A (assign target X.env u) (λ_ s'=>∃ σ' H',Inv X pins σ' H' s'/\Q σ' H') X.xe s
def PGs (X:Cx)(ts:List Expr)(t:TGs):Prop:=
 ∀(pins:List (Addr×Obj)) (s:Shared) (σ:St) (H:Hp) (vs:List V) (us:List Value) (Q:St->Hp->Prop),Inv X pins σ H s->Vals vs us->t vs σ H Q ->
  wpAny (model X.prog X.w) X.A (assignInOrder ((assignEach ts X.env).map (·.2)) us) (λ_ s'=>∃ σ' H',Inv X pins σ' H' s'/\Q σ' H') X.xe s
section
variable {X:Cx}{pos:Pos}
def M3 (i:Nat):TG:=λv σ H Q=>Q (σ.set i (some v)) H
theorem Ab {i:Nat}{x:Str}(hN:X.N.Nodup)(hi:X.N[i]? = some x)(hx:Loc X.env.scope x)(hf:X.fn x=true\/X.env.scope.names.lookup x=some .local:=by with_unfolding_all (first | exact .inl rfl | exact .inr rfl | assumption)):PG X (.Name x pos) (M3 i):=by intro pins s σ H v u Q I r h;exact wpAny_assign_Name (Ko I hN hi hx r (λs' I'=>⟨_,H,I',h⟩) hf)
def aw6:TGs:=λvs σ H Q=>vs=[]/\Q σ H
def W4 (t:TG)(u:TGs):TGs:=λvs σ H Q=>∃ v r,vs=v :: r/\t v σ H fun σ' H'=>u r σ' H' Q
theorem R8:PGs X [] aw6:=by
 intro pins s σ H vs us Q I r h;obtain⟨e,h⟩:=h;subst e
 cases r;exact assignInOrder_nil ⟨σ,H,I,h⟩
theorem Hw {e:Expr}{es:List Expr}{t:TG}{u:TGs}(h1:PG X e t)(h2:PGs X es u)
  (hs:(assignEach (e :: es) X.env).map (·.2)=assign e X.env :: (assignEach es X.env).map (·.2):=by ac_nf):PGs X (e :: es) (W4 t u):=by
 intro pins s σ H vs us Q I r h;obtain⟨v,vr,e1,h⟩:=h;subst e1
 cases r with
 |cons r rr=>rw[hs];refine assignInOrder_cons (thn (h1 pins s σ H _ _ _ I r h) λ_ s1 ⟨σ1,H1,I1,q1⟩=>?_);exact h2 pins s1 σ1 H1 _ _ Q I1 rr q1
def at7 (K:W.Frag)(n:Nat)(t:TGs):TG:=λv σ H Q=>∃ a xs,v = .ref a/\SqT K H a xs/\xs.length=n/\t xs σ H Q
theorem ai4 {es:List Expr}{k:Nat}{t:TGs}{n:Nat}(hc:X.calm=true)(h:PGs X es t)
  (hn:(assignEach es X.env).length=n:=by ac_nf) (hst:(assignEach es X.env).findIdx? (·.1)=none:=by ac_nf):PG X (.Tuple es k pos) (at7 X.K n t):=by
 intro pins s σ H v u Q I r hw;obtain⟨a,xs,e1,hq,hl,hw⟩:=hw;subst e1
 cases r;obtain⟨its,rv,ht,hz⟩:=I.tuple hq;refine assign_Tuple_tuple (I.ok.hd hc) ht (by simp[hn,<- hl,rv.length]) hst λh' hx=>?_;have I1:Inv X pins σ H {s with heap:=h'}:=I.kept (t':=s.toks) λb o e=>hx b o (A0P (A0A e)) e
 exact h pins _ σ H xs _ Q I1 (by simpa using rv) hw
def aj7 (te:TE)(g:TG):TS:=λD σ H=>te σ H λx H1=>g x σ H1 D.nx
theorem Aa {i:Nat}{x:Str}{e:Expr}{te:TE}{pos':Pos}(hN:X.N.Nodup)(hi:X.N[i]? = some x)(hx:Loc X.env.scope x)(he:PE X e te)(hs:swapsWith e (some (.Name x pos')) pos.line X.env=pure false:=by ac_nf)(hf:X.fn x=true\/X.env.scope.names.lookup x=some .local:=by with_unfolding_all (first | exact .inl rfl | exact .inr rfl | assumption)) :
  PS X (.Assign [.Name x pos'] e pos) (aj7 te (M3 i)):=by
 intro pins s σ H D I h;refine wpAny_Assign_Name (thn (he pins s σ H _ I h) λv s1 ⟨y,H1,I1,r1,q1⟩=>?_) hs;exact Ko I1 hN hi hx r1 (λs2 I2=>⟨_,H1,I2,q1⟩) hf
def a04 (c:TT)(tb:TS):TS:=λD σ H=>∃ W:Nat->St->Hp->Prop,(∃ m,W m σ H)/\∀ m σ H,W m σ H ->
 c σ H λb H1=>if b=true then ∃ N:St->Hp->Prop,(∀ σ' H',N σ' H'->∃ m',m'<m/\W m' σ' H')/\tb {D with nx:=N,ct:=N,bk:=D.nx} σ H1 else D.nx σ H1
theorem Rt {c:Expr}{body:List Stmt}{tc:TT}{tb:TS}(hp:PassesOwn (model X.prog X.w) X.A X.env X.xe)(hc:PT X c tc)(hb:PSs X body tb):PS X (.While c body [] pos) (a04 tc tb):=by
 intro pins s σ H D I h;obtain⟨W,⟨m0,w0⟩,turn⟩:=h;refine wpAny_While (codeAny_whileLoop (λn s'=>∃ σ' H',Inv X pins σ' H' s'/\W n σ' H') ?_ m0 ⟨σ,H,I,w0⟩);rintro n s1 ⟨σ1,H1,I1,w1⟩;refine A2O hp (thn (hc pins s1 σ1 H1 _ I1 (turn n σ1 H1 w1)) λb s2 ⟨H2,I2,q2⟩=>?_)
 cases b with
 |true=>
   obtain ⟨N,hN,q2⟩:=q2;rw[A0W rfl];refine A2O hp (thn (hb pins s2 σ1 H2 _ I2 q2) λf s3 q3=>?_)
   cases f with
   |next=>obtain⟨σ3,H3,I3,n3⟩:=q3;obtain⟨m',hm,w3⟩:=hN σ3 H3 n3;exact⟨m',hm,σ3,H3,I3,w3⟩
   |cont=>obtain⟨σ3,H3,I3,n3⟩:=q3;obtain⟨m',hm,w3⟩:=hN σ3 H3 n3;exact⟨m',hm,σ3,H3,I3,w3⟩
   |brk=>exact q3
   |ret v=>exact q3
 |false=>rw[A0S A0C];exact A4C ⟨σ1,H2,I2,q2⟩
end
structure It where
 go:Nat->Hp->Prop
 yld:Nat->Hp->V->Hp->Prop
 stop:Nat->Hp->Prop
def Sk (X:Cx)(pins:List (Addr×Obj))(H:Hp)(b:Addr):Prop:=
 H b=none/\b≠X.env.locals/\b∉X.fs/\(b∈X.ex\/X.s₀.heap.objs.size<=b)/\(∀ x c,X.env.cells.lookup x=some c->c≠b)/\∀ p∈X.pn++pins,p.1≠b
theorem Inv.fpOk {X:Cx}{pins:List (Addr×Obj)}{σ:St}{H H':Hp}{s:Shared}{b:Addr}(I:Inv X pins σ H s)(hb:s.heap.objs.size<=b)(hn:H' b=none):Sk X pins H' b:=by
 refine⟨hn,A3E (A0Z I.lt hb),I.nofs hb,.inr (A0Q I.sz hb),λx c e z=>?_,λp hp z=>?_⟩
 . obtain⟨v,q⟩:=I.cell x c e;exact absurd (A0Z q.lt (by rw[z];exact hb)) (A2F _)
 exact absurd (A0Z (A0A (I.pin p hp).1) (by rw[z];exact hb)) (A2F _)
structure Yh (P:Program)(w:World)(K:W.Frag)(tg:Expr)(J:It)(fp:List Addr)(it:Addr)(tn:Nat->Heap->Prop):Prop where
 mem:it∈fp
 obj:∀ i h,tn i h->∀ b∈fp,∃ o,h.get? b=some o/\∀ v,o.data ≠ .cell v
 keep:∀ i h h',tn i h->(∀ b∈fp,∀ o,h.get? b=some o->h'.get? b=some o)->tn i h'
 item:∀(X:Cx),X.prog=P->X.w=w->X.K=K->X.calm=true->∀(i:Nat) (pins:List (Addr×Obj)) (s:Shared) (σ:St) (H:Hp) (E:Value->Shared->Prop),Inv X pins σ H s->(∀ b∈fp,Sk X pins H b)->tn i s.heap->J.go i H ->
  wpAny (model P w) X.A (pyNext (.ref it)) (λr s1=>∃ u,r=some u /\
   wpAny (model P w) X.A (letOwnedTupleGo tg (.ref it) u) (λ_ s2=>∃ x H',Inv X pins σ H' s2/\RelV x u/\J.yld i H x H'/\tn (i+1) s2.heap/\∀ b∈fp,H' b=none) E s1) E s
 done:∀(X:Cx),X.prog=P->X.w=w->X.K=K->X.calm=true->∀(i:Nat) (pins:List (Addr×Obj)) (s:Shared) (σ:St) (H:Hp) (E:Value->Shared->Prop),Inv X pins σ H s->(∀ b∈fp,Sk X pins H b)->tn i s.heap->J.stop i H ->
  wpAny (model P w) X.A (pyNext (.ref it)) (λr s1=>r=none/\Inv X pins σ H s1) E s
 self:∀(A:Around) (i:Nat) (s:Shared) (Q:Value->Shared->Prop) (E:Value->Shared->Prop),tn i s.heap->Q (.ref it) s->wpAny (model P w) A (pyIter (.ref it)) Q E s
abbrev TI:=St->Hp->(It->Hp->Prop)->Prop
def PIE (X:Cx)(pins:List (Addr×Obj))(σ:St)(tg:Expr)(R:It->Hp->Prop)(itv:Value)(s2:Shared):Prop:=
 ∃(it:Addr) (fp:List Addr) (tn:Nat->Heap->Prop) (J:It) (H':Hp),itv = .ref it/\Inv X pins σ H' s2/\Yh X.prog X.w X.K tg J fp it tn/\tn 0 s2.heap/\(∀ b∈fp,Sk X pins H' b)/\R J H'
def PI (X:Cx)(tg iter:Expr)(wi:TI):Prop:=
 ∀(pins:List (Addr×Obj)) (s:Shared) (σ:St) (H:Hp) (R:It->Hp->Prop),Inv X pins σ H s->wi σ H R ->
  wpAny (model X.prog X.w) X.A (eval iter X.env) (λv s1=>wpAny (model X.prog X.w) X.A (pyIter v) (PIE X pins σ tg R) X.xe s1) X.xe s
theorem Ts {M:Model}{A:Around}{E:Value->Shared->Prop}{s:Shared}{tg:Expr}{it:Addr}{u:Value}{o:Obj}{n:String}{vs:Array Value}{Q:Unit->Shared->Prop}(ho:s.heap.get? it=some o)(hc:o.cls = .type n)(hd:o.data = .fields vs)
  (hn:["enumerate","zip","dict_itemiterator","dict_reverseitemiterator","odict_iterator","itertools.zip_longest","itertools.pairwise"].contains n=false) (hQ:Q () s):wpAny M A (letOwnedTupleGo tg (.ref it) u) Q E s:=by
 unfold letOwnedTupleGo
 cases tg<;>first
  |exact A04 hQ
  | (cases u<;>first
    |exact A04 hQ
    | (refine A00 (wpAny_load ho ?_)
       rw[hc,hd];show wpAny M A (if(["enumerate","zip","dict_itemiterator","dict_reverseitemiterator","odict_iterator","itertools.zip_longest","itertools.pairwise"].contains n&&vs[0]? == some (rawInt _))=true then _ else _) Q E s
       rw[A0S (by intro h;rw[hn,Bool.false_and] at h;cases h)];exact A04 hQ))
def Itl (K:W.Frag)(a:Addr):It:=
 ⟨λi H=>∃ xs x,SqL K H a xs/\xs[i]? = some x,λi H x H'=>H'=H/\∀ xs,SqL K H a xs->xs[i]? = some x,λi H=>∃ xs,SqL K H a xs/\xs.length<=i⟩
def Itt (K:W.Frag)(a:Addr):It:=
 ⟨λi H=>∃ xs x,SqT K H a xs/\xs[i]? = some x,λi H x H'=>H'=H/\∀ xs,SqT K H a xs->xs[i]? = some x,λi H=>∃ xs,SqT K H a xs/\xs.length<=i⟩
def Itr (lo:Int)(n:Nat):It:=⟨λi _=>i<n,λi H x H'=>H'=H/\x = .int (lo+i),λi _=>n<=i⟩
theorem Wi {P:Program}{w:World}{K:W.Frag}{tg:Expr}(a it:Addr):Yh P w K tg (Itl K a) [it] it (λi h=>h.IsListIter it a i) where
 mem:=by simp
 obj:=λi h st b hb=>by
  have e:b=it:=by simpa using hb
  subst e;obtain⟨o,e,c,d⟩:=st;exact⟨o,e,λv z=>by rw[d] at z;cases z⟩
 keep:=λi h h' st k=>st.at λo e=>k it (by simp) o e
 item:=by
  intro X hP hw hK hc i pins s σ H E I hf st hg;subst hP hw hK;obtain⟨xs,x,hq,hx⟩:=hg;obtain⟨its,rv,p,hz⟩:=I.list hq;obtain⟨u,hu,ru⟩:=rv.get hx;obtain⟨f0,f1,f2,f3,f4,f5⟩:=hf it (by simp);refine wpAny_pyNext_list_item st p.isList (x:=u) (by simpa using hu) λh' st' sb=>?_;have I1:Inv X pins σ H {s with heap:=h'}:=I.turned (t':=s.toks) (λb o hb e=>(sb.2 b hb).trans e) f0 f1 f3 f4 f5
  obtain⟨o,e,c,d⟩:=id st';exact⟨u,rfl,Ts (s:={s with heap:=h'}) e c d nofun ⟨x,H,I1,ru,⟨rfl,λys hy=>by rw[I.list_inj hy hq];exact hx⟩,st',λb hb=>(hf b hb).1⟩⟩
 done:=by intro X hP hw hK hc i pins s σ H E I hf st hg;subst hP hw hK;obtain⟨xs,hq,hx⟩:=hg;obtain⟨its,rv,p,hz⟩:=I.list hq;obtain⟨f0,f1,f2,f3,f4,f5⟩:=hf it (by simp);have hl:=rv.length;exact wpAny_pyNext_list_end (I.ok.hd hc) st p.isList (by simp;omega) λh' eb=>⟨rfl,I.turned (t':=s.toks) (λb o hb e=>eb b o hb e) f0 f1 f3 f4 f5⟩
 self:=λ_ _ _ _ _ st h=>wpAny_pyIter_listiter st h
theorem Tw {P:Program}{w:World}{K:W.Frag}{tg:Expr}(a it:Addr):Yh P w K tg (Itt K a) [it] it (λi h=>h.IsTupleIter it a i) where
 mem:=by simp
 obj:=λi h st b hb=>by
  have e:b=it:=by simpa using hb
  subst e;obtain⟨o,e,c,d⟩:=st;exact⟨o,e,λv z=>by rw[d] at z;cases z⟩
 keep:=λi h h' st k=>st.at λo e=>k it (by simp) o e
 item:=by
  intro X hP hw hK hc i pins s σ H E I hf st hg;subst hP hw hK;obtain⟨xs,x,hq,hx⟩:=hg;obtain⟨its,rv,p,hz⟩:=I.tuple hq;obtain⟨u,hu,ru⟩:=rv.get hx;obtain⟨f0,f1,f2,f3,f4,f5⟩:=hf it (by simp);refine wpAny_pyNext_tuple_item st (show s.heap.IsTuple a its.toArray from p) (x:=u) (by simpa using hu) λh' st' sb=>?_;have I1:Inv X pins σ H {s with heap:=h'}:=I.turned (t':=s.toks) (λb o hb e=>(sb.2 b hb).trans e) f0 f1 f3 f4 f5
  obtain⟨o,e,c,d⟩:=id st';exact⟨u,rfl,Ts (s:={s with heap:=h'}) e c d nofun ⟨x,H,I1,ru,⟨rfl,λys hy=>by rw[I.tuple_inj hy hq];exact hx⟩,st',λb hb=>(hf b hb).1⟩⟩
 done:=by intro X hP hw hK hc i pins s σ H E I hf st hg;subst hP hw hK;obtain⟨xs,hq,hx⟩:=hg;obtain⟨its,rv,p,hz⟩:=I.tuple hq;obtain⟨f0,f1,f2,f3,f4,f5⟩:=hf it (by simp);have hl:=rv.length;exact wpAny_pyNext_tuple_end (I.ok.hd hc) st (show s.heap.IsTuple a its.toArray from p) (by simp;omega) λh' eb=>⟨rfl,I.turned (t':=s.toks) (λb o hb e=>eb b o hb e) f0 f1 f3 f4 f5⟩
 self:=λ_ _ _ _ _ st h=>wpAny_pyIter_tupleiter st h
theorem Tk {P:Program}{w:World}{K:PySem.W.Frag}{tg:Expr}(it:Addr)(lo:Int)(n:Nat):Yh P w K tg (Itr lo n) [it] it (λi h=>IsRangeIter h it (lo+(i:Nat)*1) ((n:Int)-(i:Nat)) 1) where
 mem:=by simp
 obj:=λi h st b hb=>by
  have e:b=it:=by simpa using hb
  subst e
  exact⟨_,st,λv z=>by
   have z':Data.fields _=Data.cell v:=z
   cases z'⟩
 keep:=λi h h' st k=>k it (by simp) _ st
 item:=by
  intro X hP hw hK hc i pins s σ H E I hf st hg;subst hP hw hK;obtain⟨f0,f1,f2,f3,f4,f5⟩:=hf it (by simp);have W:=Walks.range (prog:=X.prog) (w:=X.w) (I.ok.hd hc) it lo 1 n;refine W.item i s _ _ hg st λv h' tk hv st' kk=>?_;obtain⟨t,rfl⟩:=hv;have I1:Inv X pins σ H {s with heap:=h',toks:=tk}:=I.turned (λb o hb e=>kk b o (by simpa using hb) e) f0 f1 f3 f4 f5
  refine⟨_,rfl,Ts (s:={s with heap:=h',toks:=tk}) (n:="range_iterator") st' rfl rfl nofun ⟨.int (lo+i),H,I1,⟨t,?_⟩,⟨rfl,rfl⟩,st',λb hb=>(hf b hb).1⟩⟩
  rw[Int.mul_one]
 done:=by intro X hP hw hK hc i pins s σ H E I hf st hg;subst hP hw hK;obtain⟨f0,f1,f2,f3,f4,f5⟩:=hf it (by simp);exact wpAny_pyNext_range_end (I.ok.hd hc) st (by have:n<=i:=hg;omega) λh' eb=>⟨rfl,I.turned (t':=s.toks) (λb o hb e=>eb b o hb e) f0 f1 f3 f4 f5⟩
 self:=λ_ _ _ _ _ st h=>wpAny_pyIter_rangeiter st h
section
variable {X:Cx}{tg:Expr}
theorem Sg {pins:List (Addr×Obj)}{σ:St}{H:Hp}{s:Shared}{R:It->Hp->Prop}{E:Value->Shared->Prop}{lo hi:Int}{t u v:Tok}{tk:Nat}(I:Inv X pins σ H s)(h1:-(2 ^ 62)<=lo)(h2:lo<2 ^ 62)(h3:-(2 ^ 62)<=hi)(h4:hi<2 ^ 62)
  (q:R (Itr lo (hi-lo).toNat) H):wpAny (model X.prog X.w) X.A (pyIter (.ref s.heap.objs.size)) (PIE X pins σ tg R) E {s with heap:=s.heap.push {cls:=.type "range",data:=.fields #[.int lo t,.int hi u,.int 1 v]},toks:=tk}:=by
 refine wpAny_pyIter_range (IsRange.new ..) (small_one h1 h2 h3 h4) ?_;have I1:Inv X pins σ H {s with heap:=s.heap.push {cls:=.type "range",data:=.fields #[.int lo t,.int hi u,.int 1 v]},toks:=tk}:=I.kept λb o e=>A03 _ e
 refine⟨(s.heap.push {cls:=.type "range",data:=.fields #[.int lo t,.int hi u,.int 1 v]}).objs.size,[(s.heap.push {cls:=.type "range",data:=.fields #[.int lo t,.int hi u,.int 1 v]}).objs.size],_,_,H,rfl,
  I1.kept (t':=tk) λb o e=>A03 _ e,Tk _ lo (hi-lo).toNat,?_,λb hb=>?_,q⟩
 . have e1:lo+((0:Nat):Int)*1=lo:=by simp
   have e2:(((hi-lo).toNat:Nat):Int)-((0:Nat):Int)=Builtin.Range.rangeSize lo hi 1:=by rw[rangeSize_one];split<;>omega
   show IsRangeIter _ _ (lo+((0:Nat):Int)*1) ((((hi-lo).toNat:Nat):Int)-((0:Nat):Int)) 1;rw[e1,e2];exact A0K _ rfl
 have e:b=(s.heap.push {cls:=.type "range",data:=.fields #[.int lo t,.int hi u,.int 1 v]}).objs.size:=by simpa using hb
 subst e;exact I1.fpOk (A07 _) (I1.hok.fresh (A07 _))
def ar7 (ta:TA):TI:=fun σ H R=>ta σ H λvs H1=>∃ j:Int,vs=[.int j] /\ -(2 ^ 62)<=j/\j<2 ^ 62/\R (Itr 0 j.toNat) H1
def ai8 (ta:TA):TI:=fun σ H R=>ta σ H λvs H1=>∃ i j:Int,vs=[.int i,.int j]/\(-(2 ^ 62)<=i/\i<2 ^ 62 /\ -(2 ^ 62)<=j/\j<2 ^ 62)/\R (Itr i (j-i).toNat) H1
theorem Dv {a:Expr}{ta:TA}{p pos:Pos}(hg:Gl X "range")(hm:X.mg "range" = none)(ha:PA X [a] ta)(hs:starEach [a] X.env=[(false,eval a X.env)]:=by ac_nf):PI X tg (.Call (.Name "range" p) [a] [] pos) (ar7 ta):=by
 intro pins s σ H R I h;refine Call_ (Mp I hg hm boot_range (A2P (thn (ha pos pins s σ H _ I h) λus s1 ⟨vs,H1,I1,r1,q1⟩=>?_) hs rfl));obtain⟨j,e,q1,q2,q⟩:=q1;subst e
 cases r1 with
 |cons r rr=>cases rr;obtain⟨t,rfl⟩:=r;exact call_range_1 (Sg I1 ∅ ∅ q1 q2 (by simpa using q))
theorem Xk {a b:Expr}{ta:TA}{p pos:Pos}(hg:Gl X "range")(hm:X.mg "range" = none)(ha:PA X [a,b] ta)(hs:starEach [a,b] X.env=[(false,eval a X.env),(false,eval b X.env)]:=by ac_nf)(hs2:starEach [b] X.env=[(false,eval b X.env)]:=by ac_nf) :
  PI X tg (.Call (.Name "range" p) [a,b] [] pos) (ai8 ta):=by
 intro pins s σ H R I h;refine Call_ (Mp I hg hm boot_range (A2P (thn (ha pos pins s σ H _ I h) λus s1 ⟨vs,H1,I1,r1,q1⟩=>?_) (by rw[hs,hs2]) (by rw[hs2];rfl)));obtain⟨i,j,e,⟨q1,q2,q3,q4⟩,q⟩:=q1;subst e
 cases r1 with
 |cons r rr=>
   cases rr with
   |cons r' rr=>cases rr;obtain⟨t,rfl⟩:=r;obtain⟨t',rfl⟩:=r';exact call_range_2 (Sg I1 q1 q2 q3 q4 q)
def az9 (wi:TI)(g:TG)(tb:TS):TS:=λD σ H=>wi σ H λJ H1=>∃ W:Nat->Nat->St->Hp->Prop,(∃ m,W 0 m σ H1)/\∀ i m σ H,W i m σ H ->
 (J.stop i H/\D.nx σ H)\/(J.go i H/\∃ N:St->Hp->Prop,(∀ σ' H',N σ' H'->∃ m',m'<m/\W (i+1) m' σ' H')/\∀ x H',J.yld i H x H'->g x σ H' fun σ2 H2=>tb {D with nx:=N,ct:=N,bk:=D.nx} σ2 H2)
def Oh (fp:List Addr)(h:Heap):List (Addr×Obj):=fp.filterMap λb=>(h.get? b).map λo=>(b,o)
theorem Hz {fp:List Addr}{h:Heap}{b:Addr}{o:Obj}(hb:b∈fp)(e:h.get? b=some o):(b,o)∈Oh fp h:=List.mem_filterMap.mpr ⟨b,hb,by rw[e];rfl⟩
theorem Xt {fp:List Addr} {h:Heap} {p:Addr×Obj} (hp:p∈Oh fp h):p.1∈fp/\h.get? p.1=some p.2:=by
 obtain⟨b,hb,e⟩:=List.mem_filterMap.mp hp
 cases q:h.get? b with
 |none=>rw[q] at e;cases e
 |some o=>rw[q] at e;have e':(b,o)=p:=A10 e;subst e';exact⟨hb,q⟩
theorem Inv.pinned {pins:List (Addr×Obj)}{σ:St}{H:Hp}{s:Shared}{fp:List Addr}(I:Inv X pins σ H s)(hf:∀ b∈fp,Sk X pins H b)(ho:∀ b∈fp,∃ o,s.heap.get? b=some o/\∀ v,o.data ≠ .cell v):Inv X (pins++Oh fp s.heap) σ H s:=
 I.pins_of λp hp=>(A0R.mp hp).elim (λz=>I.pin p (A1E _ z)) λz=>by obtain⟨hb,e⟩:=Xt z;obtain⟨f0,f1,f2,_⟩:=hf p.1 hb;obtain⟨o,e',d⟩:=ho p.1 hb;rw[e] at e';cases e';exact⟨e,f0,f1,f2,d⟩
theorem Inv.unpinned {pins pl:List (Addr×Obj)}{σ:St}{H:Hp}{s:Shared}(I:Inv X (pins++pl) σ H s):Inv X pins σ H s:=I.pins_of λp hp=>I.pin p (A1E _ (A3L _ hp))
theorem Cf {iter:Expr}{body:List Stmt}{wi:TI}{g:TG}{tb:TS}{pos:Pos}(hp:PassesOwn (model X.prog X.w) X.A X.env X.xe)(hc:X.calm=true)(hi:PI X tg iter wi)(hg:PG X tg g)(hb:PSs X body tb)
  (hs:∀ x,foldedSetIterable iter X.env x=pure x:=by intro _;ac_nf):PS X (.For tg iter body [] pos) (az9 wi g tb):=by
 intro pins s σ H D I h;refine wpAny_For (thn (hi pins s σ H _ I h) λv s1 h1=>thn h1 λitv s2 h2=>?_) hs;obtain⟨it,fp,tn,J,H2,e,I2,T,st2,f2,W,⟨m0,w0⟩,turn⟩:=h2;subst e;have stat:∀ {H':Hp},(∀ b∈fp,H' b=none)->∀ b∈fp,Sk X pins H' b:=λhn b hb=>⟨hn b hb,(f2 b hb).2⟩;refine codeAny_forLoop_any (λn s'=>∃ i σ' H',Inv X pins σ' H' s'/\tn i s'.heap/\(∀ b∈fp,H' b=none)/\W i n σ' H') ?_ m0 ⟨0,σ,H2,I2,st2,λb hb=>(f2 b hb).1,w0⟩;rintro n s3 ⟨i,σ3,H3,I3,st3,fr3,w3⟩;rcases turn i n σ3 H3 w3 with ⟨stop,qn⟩|⟨go,N,hN,step⟩
 . refine A2O hp (thn (T.done X rfl rfl rfl hc i pins s3 σ3 H3 X.xe I3 (stat fr3) st3 stop) λr s4 ⟨hr,I4⟩=>?_);subst hr;exact A4C ⟨σ3,H3,I4,qn⟩
 refine A2O hp (thn (T.item X rfl rfl rfl hc i pins s3 σ3 H3 X.xe I3 (stat fr3) st3 go) λr s4 ⟨u,hr,h4⟩=>?_);subst hr;refine A2O hp (thn h4 λ_ s5 ⟨x,H5,I5,r5,y5,st5,fr5⟩=>?_);have I5':=I5.pinned (stat fr5) (T.obj _ _ st5);refine A2O hp (thn (hg _ s5 σ3 H5 x u _ I5' r5 (step x H5 y5)) λ_ s6 ⟨σ6,H6,I6,q6⟩=>?_);refine A2O hp (thn (hb _ s6 σ6 H6 _ I6 q6) λf s7 q7=>?_)
 have again:∀ {σ7:St} {H7:Hp},Inv X (pins++Oh fp s5.heap) σ7 H7 s7->N σ7 H7->∃ m,m<n/\∃ i σ' H',Inv X pins σ' H' s7/\tn i s7.heap/\(∀ b∈fp,H' b=none)/\W i m σ' H':=fun {σ7 H7} I7 n7=>by obtain⟨m',hm,w7⟩:=hN σ7 H7 n7;refine⟨m',hm,i+1,σ7,H7,I7.unpinned,T.keep _ _ _ st5 λb hb o e=>(I7.pin (b,o) (A1E _ (A1E _ (Hz hb e)))).1,λb hb=>?_,w7⟩;obtain⟨o,e,d⟩:=T.obj _ _ st5 b hb;exact(I7.pin (b,o) (A1E _ (A1E _ (Hz hb e)))).2.1
 cases f with
 |next=>obtain⟨σ7,H7,I7,n7⟩:=q7;exact again I7 n7
 |cont=>obtain⟨σ7,H7,I7,n7⟩:=q7;exact again I7 n7
 |brk=>obtain⟨σ7,H7,I7,q7⟩:=q7;exact⟨σ7,H7,I7.unpinned,q7⟩
 |ret v=>obtain⟨x7,σ7,H7,I7,r7,q7⟩:=q7;exact⟨x7,σ7,H7,I7.unpinned,r7,q7⟩
end
abbrev R2:=V->V->Hp->VK->Prop
def OpR (X:Cx)(f:Value->Value->Sem Value)(r:R2):Prop:=
 ∀(pins:List (Addr×Obj)) (s:Shared) (σ:St) (H:Hp) (x y:V) (v u:Value) (Q:VK),Inv X pins σ H s->RelV x v->RelV y u->r x y H Q ->
  wpAny (model X.prog X.w) X.A (f v u) (EP X pins σ Q) X.xe s
def UnR (X:Cx)(f:Value->Sem Value)(r:V->Hp->VK->Prop):Prop:=
 ∀(pins:List (Addr×Obj)) (s:Shared) (σ:St) (H:Hp) (x:V) (v:Value) (Q:VK),Inv X pins σ H s->RelV x v->r x H Q ->
  wpAny (model X.prog X.w) X.A (f v) (EP X pins σ Q) X.xe s
def CallR (X:Cx)(f:Value)(r:List V->Hp->VK->Prop):Prop:=
 ∀(pins:List (Addr×Obj)) (s:Shared) (σ:St) (H:Hp) (xs:List V) (us:List Value) (Q:VK),Inv X pins σ H s->Vals xs us->r xs H Q ->
  wpAny (model X.prog X.w) X.A (call f us) (EP X pins σ Q) X.xe s
def TruR (X:Cx)(r:V->Hp->(Bool->Hp->Prop)->Prop):Prop:=
 ∀(pins:List (Addr×Obj)) (s:Shared) (σ:St) (H:Hp) (x:V) (v:Value) (Q:Bool->Hp->Prop),Inv X pins σ H s->RelV x v->r x H Q ->
  wpAny (model X.prog X.w) X.A (truthy v) (TP X pins σ Q) X.xe s
def tOp (r:R2)(ta tb:TE):TE:=fun σ H Q=>ta σ H λx H1=>tb σ H1 λy H2=>r x y H2 Q
def tUn (r:V->Hp->VK->Prop)(ta:TE):TE:=fun σ H Q=>ta σ H λx H1=>r x H1 Q
def rI (C:Int->Int->Prop)(g:Int->Int->V):R2:=λx y H Q=>∃ i j,x = .int i/\y = .int j/\C i j/\Q (g i j) H
def rI0 (g:Int->Int->V):R2:=λx y H Q=>∃ i j,x = .int i/\y = .int j/\Q (g i j) H
def rU (g:Int->V):V->Hp->VK->Prop:=λx H Q=>∃ i,x = .int i/\Q (g i) H
section
variable {X:Cx}{a b c:Expr}{ta tb tc:TE}{pos:Pos}
theorem av5 (ha:PE X a ta)(hb:PE X b tb){pins:List (Addr×Obj)}{s:Shared}{σ:St}{H:Hp}{R:V->V->Hp->Prop}(I:Inv X pins σ H s)
  (h:ta σ H λx H1=>tb σ H1 λy H2=>R x y H2) {Q:Value->Shared->Prop} {f:Value->Value->Sem Value}
  (hf:∀ v u s2 x y H2,Inv X pins σ H2 s2->RelV x v->RelV y u->R x y H2->wpAny (model X.prog X.w) X.A (f v u) Q X.xe s2) :
  wpAny (model X.prog X.w) X.A (eval a X.env) (λv s₁=>wpAny (model X.prog X.w) X.A (eval b X.env) (λu s₂=>wpAny (model X.prog X.w) X.A (f v u) Q X.xe s₂) X.xe s₁) X.xe s:=by
 refine thn (ha pins s σ H _ I h) λv s1 ⟨x,H1,I1,r1,q1⟩=>?_;refine thn (hb pins s1 σ H1 _ I1 q1) λu s2 ⟨y,H2,I2,r2,q2⟩=>?_;exact hf v u s2 x y H2 I2 r1 r2 q2
theorem Af {op:Operator}{r:R2}(ho:OpR X (binaryOp op) r)(ha:PE X a ta)(hb:PE X b tb):PE X (.BinOp a op b pos) (tOp r ta tb):=by intro pins s σ H Q I h;exact wpAny_BinOp (av5 ha hb I h λv u s2 x y H2 I2 rx ry q=>ho pins s2 σ H2 x y v u Q I2 rx ry q)
theorem am9 {op:UnaryOp}{r:V->Hp->VK->Prop}(ho:UnR X (unaryOp op) r)(ha:PE X a ta):PE X (.UnaryOp op a pos) (tUn r ta):=by intro pins s σ H Q I h;exact UnaryOp_ (thn (ha pins s σ H _ I h) λv s1 ⟨x,H1,I1,r1,q1⟩=>ho pins s1 σ H1 x v Q I1 r1 q1)
theorem opI {f:Value->Value->Sem Value}{C:Int->Int->Prop}{g:Int->Int->Int}
  (rule:∀(i j:Int) (t u:Tok) (s:Shared) (Q:Value->Shared->Prop) (E:Value->Shared->Prop),C i j->Q (.int (g i j) s.toks) {s with toks:=s.toks+1}->wpAny (model X.prog X.w) X.A (f (.int i t) (.int j u)) Q E s) :
  OpR X f (rI C λi j=>.int (g i j)):=by
 intro pins s σ H x y v u Q I rx ry h;obtain⟨i,j,rfl,rfl,hc,q⟩:=h;obtain⟨t,rfl⟩:=rx;obtain⟨t',rfl⟩:=ry;exact rule i j t t' s _ _ hc ⟨.int (g i j),H,I.tok _,⟨_,rfl⟩,q⟩
theorem av2 {f:Value->Value->Sem Value}{g:Int->Int->Int}
  (rule:∀(i j:Int) (t u:Tok) (s:Shared) (Q:Value->Shared->Prop) (E:Value->Shared->Prop),Q (.int (g i j) s.toks) {s with toks:=s.toks+1}->wpAny (model X.prog X.w) X.A (f (.int i t) (.int j u)) Q E s) :
  OpR X f (rI0 λi j=>.int (g i j)):=by
 intro pins s σ H x y v u Q I rx ry h;obtain⟨i,j,rfl,rfl,q⟩:=h;obtain⟨t,rfl⟩:=rx;obtain⟨t',rfl⟩:=ry;exact rule i j t t' s _ _ ⟨.int (g i j),H,I.tok _,⟨_,rfl⟩,q⟩
theorem au4 {f:Value->Value->Sem Value}{g:Int->Int->Bool}
  (rule:∀(i j:Int) (t u:Tok) (s:Shared) (Q:Value->Shared->Prop) (E:Value->Shared->Prop),Q (.bool (g i j)) s->wpAny (model X.prog X.w) X.A (f (.int i t) (.int j u)) Q E s) :
  OpR X f (rI0 λi j=>.bl (g i j)):=by
 intro pins s σ H x y v u Q I rx ry h;obtain⟨i,j,rfl,rfl,q⟩:=h;obtain⟨t,rfl⟩:=rx;obtain⟨t',rfl⟩:=ry;exact rule i j t t' s _ _ ⟨.bl (g i j),H,I,rfl,q⟩
def ax2 (i j:Int):Prop:=0<j/\j<1073741824
def ax0 (i j:Int):Prop:=0<=j/\j<=1000000/\i.natAbs<2 ^ 64
def CMul (i j:Int):Prop:=(-(2 ^ 64)<i/\i<2 ^ 64)\/(-(2 ^ 64)<j/\j<2 ^ 64)
theorem CMul.ok {i j:Int}(h:CMul i j):IntMulOk i j:=by
 rcases h with ⟨h1,h2⟩|⟨h1,h2⟩
 . exact .of_left (intBits_le_64 h1 h2)
 exact .of_right (intBits_le_64 h1 h2)
theorem op_add:OpR X (binaryOp .Add) (rI0 λi j=>.int (i+j)):=av2 λ_ _ _ _ _ _ _ q=>add_int q
theorem Ha:OpR X (binaryOp .Sub) (rI0 λi j=>.int (i-j)):=av2 λ_ _ _ _ _ _ _ q=>sub_int q
theorem op_mul:OpR X (binaryOp .Mult) (rI CMul λi j=>.int (i*j)):=opI λ_ _ _ _ _ _ _ hc q=>mul_int q hc.ok
theorem a89:OpR X (binaryOp .FloorDiv) (rI ax2 λi j=>.int (i / j)):=opI λi j _ _ _ _ _ hc q=>by have h1:(0:Int)<j:=hc.1;have h2:j<1073741824:=hc.2;exact floordiv_int ∅ (by rw[Int.fdiv_eq_ediv_of_nonneg i ∅];exact q) (.inl (PyProof.noPylong_small ∅))
theorem Gw:OpR X (binaryOp .Mod) (rI (λ_ j=>0<j) λi j=>.int (i % j)):=opI λi j _ _ _ _ _ hc q=>by have h1:(0:Int)<j:=hc;exact mod_int' ∅ (by rw[Int.fmod_eq_emod_of_nonneg i ∅];exact q)
theorem ak4:OpR X (binaryOp .Pow) (rI ax0 λi j=>.int (i ^ j.toNat)):=opI λ_ _ _ _ _ _ _ hc q=>pow_int_small hc.1 hc.2.1 hc.2.2 q
theorem a51:OpR X (binaryOp .BitAnd) (rI0 λi j=>.int (Builtin.bitAnd i j)):=av2 λ_ _ _ _ _ _ _ q=>and_int q
theorem unI {f:Value->Sem Value}{g:Int->Int}
  (rule:∀(i:Int) (t:Tok) (s:Shared) (Q:Value->Shared->Prop) (E:Value->Shared->Prop),Q (.int (g i) s.toks) {s with toks:=s.toks+1}->wpAny (model X.prog X.w) X.A (f (.int i t)) Q E s) :
  UnR X f (rU λi=>.int (g i)):=by
 intro pins s σ H x v Q I rx h;obtain⟨i,rfl,q⟩:=h;obtain⟨t,rfl⟩:=rx;exact rule i t s _ _ ⟨.int (g i),H,I.tok _,⟨_,rfl⟩,q⟩
theorem a44:UnR X (unaryOp .USub) (rU λi=>.int (-i)):=unI λ_ _ _ _ _ q=>neg_int q
end
def au1:V->V->Bool
 |.non,.non=>true | .non,.int _=>true | .int _,.non=>true | .non,.bl _=>true | .bl _,.non=>true | .non,.str _=>true | .str _,.non=>true
 |.int _,.int _=>true | .bl _,.bl _=>true | .str _,.str _=>true | .byt _,.byt _=>true
 |.int _,.str _=>true | .str _,.int _=>true | .bl _,.str _=>true | .str _,.bl _=>true
 |_,_=>false
def rEq:R2:=λx y H Q=>au1 x y=true/\Q (.bl (decide (x=y))) H
def rNe:R2:=λx y H Q=>au1 x y=true/\Q (.bl (!decide (x=y))) H
theorem Yb {i j:Int}:decide (V.int i=V.int j)=(i==j):=by rw[A3O];simp
theorem a43 {i j:Bool}:decide (V.bl i=V.bl j)=(i==j):=by rw[A3O];simp
theorem X6 {i j:Str}:decide (V.str i=V.str j)=(i==j):=by rw[A3O];simp
theorem Xr {i j:Array UInt8}:decide (V.byt i=V.byt j)=(i.toList==j.toList):=by
 rw[A3O]
 cases i
 cases j;simp
section
variable {X:Cx}{a b c:Expr}{ta tb tc:TE}{pos:Pos}
theorem Bb {pins:List (Addr×Obj)}{σ:St}{H:Hp}{s:Shared}{Q:VK}{k k':Bool}(I:Inv X pins σ H s)(q:Q (.bl k) H)(e:k=k'):EP X pins σ Q (.bool k') s:=by subst e;exact⟨.bl k,H,I,rfl,q⟩
theorem op_eq:OpR X (compareOp .Eq) rEq:=by
 intro pins s σ H x y v u Q I rx ry h;obtain⟨hs,q⟩:=h
 cases x with
 |non=>
   cases rx
   cases y with
   |non=>cases ry;exact PySem.EqNone.eq_none_none (Bb I q (by simp))
   |bl j=>cases ry;exact PySem.EqNone.eq_none_bool (Bb I q (by simp))
   |int j=>obtain⟨t',rfl⟩:=ry;exact PySem.EqNone.eq_none_int (Bb I q (by simp))
   |str j=>obtain⟨t',rfl⟩:=ry;exact PySem.EqNone.eq_none_str (Bb I q (by simp))
   |_=>exact absurd (show false=true from hs) A0C
 |bl i=>
   cases rx
   cases y with
   |non=>cases ry;exact PySem.EqNone.eq_bool_none (Bb I q (by simp))
   |bl j=>cases ry;exact eq_bool (Bb I q a43)
   |str j=>obtain⟨t',rfl⟩:=ry;exact PySem.EqMixed.eq_bool_str (Bb I q (by simp))
   |_=>exact absurd (show false=true from hs) A0C
 |int i=>
   obtain⟨t,rfl⟩:=rx
   cases y with
   |non=>cases ry;exact PySem.EqNone.eq_int_none (Bb I q (by simp))
   |int j=>obtain⟨t',rfl⟩:=ry;exact eq_int (Bb I q Yb)
   |str j=>obtain⟨t',rfl⟩:=ry;exact PySem.EqMixed.eq_int_str (Bb I q (by simp))
   |_=>exact absurd (show false=true from hs) A0C
 |str i=>
   obtain⟨t,rfl⟩:=rx
   cases y with
   |non=>cases ry;exact PySem.EqNone.eq_str_none (Bb I q (by simp))
   |bl j=>cases ry;exact PySem.EqMixed.eq_str_bool (Bb I q (by simp))
   |int j=>obtain⟨t',rfl⟩:=ry;exact PySem.EqMixed.eq_str_int (Bb I q (by simp))
   |str j=>obtain⟨t',rfl⟩:=ry;exact eq_str (Bb I q X6)
   |_=>exact absurd (show false=true from hs) A0C
 |byt i=>
   obtain⟨t,rfl⟩:=rx
   cases y with
   |byt j=>obtain⟨t',rfl⟩:=ry;exact W.eq_bytes (Bb I q Xr)
   |_=>exact absurd (show false=true from hs) A0C
 |_=>cases y<;>exact absurd (show false=true from hs) A0C
theorem op_ne:OpR X (compareOp .NotEq) rNe:=by
 intro pins s σ H x y v u Q I rx ry h;obtain⟨hs,q⟩:=h
 cases x with
 |non=>
   cases rx
   cases y with
   |non=>cases ry;exact PySem.EqNone.ne_none_none (Bb I q (by simp))
   |bl j=>cases ry;exact PySem.EqNone.ne_none_bool (Bb I q (by simp))
   |int j=>obtain⟨t',rfl⟩:=ry;exact PySem.EqNone.ne_none_int (Bb I q (by simp))
   |str j=>obtain⟨t',rfl⟩:=ry;exact PySem.EqNone.ne_none_str (Bb I q (by simp))
   |_=>exact absurd (show false=true from hs) A0C
 |bl i=>
   cases rx
   cases y with
   |non=>cases ry;exact PySem.EqNone.ne_bool_none (Bb I q (by simp))
   |bl j=>cases ry;exact ne_bool (Bb I q (congrArg not a43))
   |str j=>obtain⟨t',rfl⟩:=ry;exact PySem.EqMixed.ne_bool_str (Bb I q (by simp))
   |_=>exact absurd (show false=true from hs) A0C
 |int i=>
   obtain⟨t,rfl⟩:=rx
   cases y with
   |non=>cases ry;exact PySem.EqNone.ne_int_none (Bb I q (by simp))
   |int j=>obtain⟨t',rfl⟩:=ry;exact ne_int (Bb I q (congrArg not Yb))
   |str j=>obtain⟨t',rfl⟩:=ry;exact PySem.EqMixed.ne_int_str (Bb I q (by simp))
   |_=>exact absurd (show false=true from hs) A0C
 |str i=>
   obtain⟨t,rfl⟩:=rx
   cases y with
   |non=>cases ry;exact PySem.EqNone.ne_str_none (Bb I q (by simp))
   |bl j=>cases ry;exact PySem.EqMixed.ne_str_bool (Bb I q (by simp))
   |int j=>obtain⟨t',rfl⟩:=ry;exact PySem.EqMixed.ne_str_int (Bb I q (by simp))
   |str j=>obtain⟨t',rfl⟩:=ry;exact ne_str (Bb I q (congrArg not X6))
   |_=>exact absurd (show false=true from hs) A0C
 |byt i=>
   obtain⟨t,rfl⟩:=rx
   cases y with
   |byt j=>obtain⟨t',rfl⟩:=ry;exact W.ne_bytes (Bb I q (congrArg not Xr))
   |_=>exact absurd (show false=true from hs) A0C
 |_=>cases y<;>exact absurd (show false=true from hs) A0C
theorem Zh:OpR X (compareOp .Lt) (rI0 λi j=>.bl (decide (i<j))):=au4 λ_ _ _ _ _ _ _ q=>lt_int q
theorem ar1:OpR X (compareOp .LtE) (rI0 λi j=>.bl (decide (i<=j))):=au4 λ_ _ _ _ _ _ _ q=>le_int q
theorem W0:OpR X (compareOp .Gt) (rI0 λi j=>.bl (decide (j<i))):=au4 λ_ _ _ _ _ _ _ q=>gt_int q
theorem aw5:OpR X (compareOp .GtE) (rI0 λi j=>.bl (decide (j<=i))):=au4 λ_ _ _ _ _ _ _ q=>ge_int q
theorem op_in_str:OpR X (compareOp .In) (λx y H Q=>∃ i j,x = .str i/\y = .str j/\Q (.bl (!(Builtin.Str.occurrences j i 0 j.length 1).isEmpty)) H):=by intro pins s σ H x y v u Q I rx ry h;obtain⟨i,j,rfl,rfl,q⟩:=h;obtain⟨t,rfl⟩:=rx;obtain⟨t',rfl⟩:=ry;exact in_str (Bb I q rfl)
theorem an7:OpR X (compareOp .Is) (λx y H Q=>y = .non/\Q (.bl (decide (x = .non))) H):=by
 intro pins s σ H x y v u Q I rx ry h;obtain⟨rfl,q⟩:=h
 cases ry;refine is_none_gen (Bb I q ?_)
 cases x<;>first
  | (cases rx;rfl)
  | (obtain⟨t,rfl⟩:=rx;rfl)
theorem ab1:OpR X (compareOp .IsNot) (λx y H Q=>y = .non/\Q (.bl (!decide (x = .non))) H):=by
 intro pins s σ H x y v u Q I rx ry h;obtain⟨rfl,q⟩:=h
 cases ry;refine isnot_none_gen (Bb I q ?_)
 cases x<;>first
  | (cases rx;rfl)
  | (obtain⟨t,rfl⟩:=rx;rfl)
theorem OpR.or {f:Value->Value->Sem Value}{r r':R2}(h:OpR X f r)(h':OpR X f r'):OpR X f (λx y H Q=>r x y H Q\/r' x y H Q):=by
 intro pins s σ H x y v u Q I rx ry q;rcases q with q|q
 . exact h pins s σ H x y v u Q I rx ry q
 exact h' pins s σ H x y v u Q I rx ry q
theorem Au (b:Expr){op:CmpOp}(h:op ≠ .In:=by decide)(h2:op ≠ .NotIn:=by decide):behindInMarks op b=false:=by
 have e1:(op==CmpOp.In)=false:=by cases op<;>first | rfl | exact absurd rfl h
 have e2:(op==CmpOp.NotIn)=false:=by cases op<;>first | rfl | exact absurd rfl h2
 cases b<;>simp[behindInMarks,e1,e2]
theorem Io {op:CmpOp}{r:R2}(ho:OpR X (compareOp op) r)(ha:PE X a ta)(hb:PE X b tb)(hm:behindInMarks op b=false):PE X (.Compare a [op] [b] pos) (tOp r ta tb):=by intro pins s σ H Q I h;exact wpAny_Compare1 (av5 ha hb I h λv u s2 x y H2 I2 rx ry q=>ho pins s2 σ H2 x y v u Q I2 rx ry q) hm
def ai9 (t:TE):TT:=fun σ H Q=>t σ H λx H'=>∃ k,x = .bl k/\Q k H'
theorem Ah {op:CmpOp}{r:R2}(ho:OpR X (compareOp op) r)(ha:PE X a ta)(hb:PE X b tb)(hm:behindInMarks op b=false):PT X (.Compare a [op] [b] pos) (ai9 (tOp r ta tb)):=by
 intro pins s σ H Q I h
 refine wpAny_isTrue_Compare1 (thn (ha pins s σ H _ I h) λv s1 ⟨x,H1,I1,r1,q1⟩=>thn (hb pins s1 σ H1 _ I1 q1) λu s2 ⟨y,H2,I2,r2,q2⟩=>thn (ho pins s2 σ H2 x y v u _ I2 r1 r2 q2) λc s3 ⟨z,H3,I3,r3,k,e,q3⟩=>?_) hm
 subst e
 cases r3;exact A29 ⟨H3,I3,q3⟩
def a61 (r r':R2)(ta tb tc:TE):TE:=fun σ H Q=>ta σ H λx H1=>tb σ H1 λy H2=>r x y H2 λz H3=>∃ k,z = .bl k /\
 (if k=true then tc σ H3 λw' H4=>r' y w' H4 Q else Q (.bl false) H3)
theorem Zf {op op':CmpOp}{r r':R2}(ho:OpR X (compareOp op) r)(ho':OpR X (compareOp op') r')(ha:PE X a ta)(hb:PE X b tb)(hc:PE X c tc)
  (hm:lastMarks [op,op'] [b,c]=false:=by ac_nf):PE X (.Compare a [op,op'] [b,c] pos) (a61 r r' ta tb tc):=by
 intro pins s σ H Q I h
 refine Compare_chain (thn (ha pins s σ H _ I h) λv s1 ⟨x,H1,I1,r1,q1⟩=>chain_link (thn (hb pins s1 σ H1 _ I1 q1) λu s2 ⟨y,H2,I2,r2,q2⟩=>thn (ho pins s2 σ H2 x y v u _ I2 r1 r2 q2) λd s3 ⟨z,H3,I3,r3,k,e,q3⟩=>?_)) hm
 subst e
 cases r3;refine A29 ?_
 cases k with
 |false=>exact ite_ff ⟨.bl false,H3,I3,rfl,q3⟩
 |true=>exact ite_tt (chain_last (thn (hc pins s3 σ H3 _ I3 q3) λw' s4 ⟨z',H4,I4,r4,q4⟩=>ho' pins s4 σ H4 y z' u w' Q I4 r2 r4 q4))
def TruV (K:W.Frag)(x:V)(H:Hp)(k:Bool):Prop:=
 match x with
 |.non=>k=false
 |.bl b=>k=b
 |.int i=>k=(i != 0)
 |.str y=>y.length<=sizeLine/\k=((y.length:Int) != 0)
 |.byt y=>y.size<=sizeLine/\k=((y.size:Int) != 0)
 |.ref p=>(∃ xs,SqL K H p xs/\k = !xs.isEmpty)\/(∃ xs,SqT K H p xs/\k = !xs.isEmpty)\/∃ kvs,H p=some (.dK kvs)/\k = !kvs.isEmpty
 |_=>False
theorem Tt {κ:Type}{kvs:List (κ×V)}{vs:List (κ×Value)}(r:KV kvs vs):(!vs.isEmpty) = !kvs.isEmpty:=by cases r<;>rfl
theorem M7 {xs:List V}{its:List Value}(r:Vals xs its):(!its.toArray.isEmpty) = !xs.isEmpty:=by cases r<;>simp
theorem Pa:(sizeLine:Nat)<2 ^ 63:=by rw[A14];decide
theorem aq3:TruR X (λx H Q=>∃ k,TruV X.K x H k/\Q k H):=by
 intro pins s σ H x v Q I rx h;obtain ⟨k,e,q⟩:=h;have hl:=Pa;have hs:sizeLine=16777216:=A14
 cases x with
 |non=>cases rx;have e':k=false:=e;subst e';exact truthy_none ⟨H,I,q⟩
 |bl b=>cases rx;have e':k=b:=e;subst e';exact A29 ⟨H,I,q⟩
 |int i=>obtain⟨t,rfl⟩:=rx;have e':k=(i != 0):=e;subst e';exact PySem.P.truthy_int ⟨H,I,q⟩
 |str y=>obtain⟨t,rfl⟩:=rx;obtain⟨hy,e'⟩:y.length<=sizeLine/\k=((y.length:Int) != 0):=e;subst e';exact PySem.P.truthy_str ∅ ⟨H,I.tok _,q⟩
 |byt y=>obtain⟨t,rfl⟩:=rx;obtain⟨hy,e'⟩:y.size<=sizeLine/\k=((y.size:Int) != 0):=e;subst e';exact W.truthy_bytes ∅ ⟨H,I.tok _,q⟩
 |ref p=>
   cases rx;have e':(∃ xs,SqL X.K H p xs/\k = !xs.isEmpty)\/(∃ xs,SqT X.K H p xs/\k = !xs.isEmpty)\/∃ kvs,H p=some (.dK kvs)/\k = !kvs.isEmpty:=e;rcases e' with ⟨xs,hx,e'⟩|⟨xs,hx,e'⟩|⟨kvs,hx,e'⟩
   . subst e';obtain⟨its,r,pl,hz⟩:=I.list hx;have hlen:=r.length;exact wpAny_truthy_list pl.isList (by simp only[List.size_toArray];omega) ⟨H,I.tok _,by rw[M7 r];exact q⟩
   . subst e';obtain⟨its,r,pl,hz⟩:=I.tuple hx;have hlen:=r.length;exact truthy_tuple pl (by simp only[List.size_toArray];omega) ⟨H,I.tok _,by rw[M7 r];exact q⟩
   subst e';obtain⟨hz,hS,vs,r,m⟩:kvs.length<=sizeLine/\(p==sysModules)=false/\∃ vs,KV kvs vs/\s.heap.DictOf (Ax X.prog X.w) p vs:=I.hok p _ hx;have hlen:kvs.length=vs.length:=A25 r;exact wpAny_truthy_dict hS m ∅ ⟨H,I.tok _,by rw[Tt r];exact q⟩
 |_=>exact(show False from e).elim
theorem op_add_str:OpR X (binaryOp .Add) (λx y H Q=>∃ i j,x = .str i/\y = .str j/\i.length+j.length<=sizeLine/\Q (.str (i++j)) H):=by intro pins s σ H x y v u Q I rx ry h;obtain⟨i,j,rfl,rfl,hz,q⟩:=h;obtain⟨t,rfl⟩:=rx;obtain⟨t',rfl⟩:=ry;exact add_str (λt' tk=>⟨.str (i++j),H,I.tok _,⟨_,rfl⟩,q⟩) hz
theorem J7 {x:V}{us:List Value}(r:Vals [x] us):∃ u,us=[u]/\RelV x u:=by
 cases r with
 |cons r1 r2=>cases r2;exact⟨_,rfl,r1⟩
theorem ad2 {x y:V}{us:List Value}(r:Vals [x,y] us):∃ u w',us=[u,w']/\RelV x u/\RelV y w':=by
 cases r with
 |cons r1 r2=>
   cases r2 with
   |cons r3 r4=>cases r4;exact⟨_,_,rfl,r1,r3⟩
theorem Zd:CallR X (.builtin "abs") (λxs H Q=>∃ i,xs=[.int i]/\Q (.int (if i<0 then -i else i)) H):=by intro pins s σ H xs us Q I r h;obtain⟨i,rfl,q⟩:=h;obtain⟨u,rfl,t,rfl⟩:=J7 r;exact call_abs_int λu tk=>⟨.int (if i<0 then -i else i),H,I.tok _,⟨_,rfl⟩,q⟩
theorem Wy:CallR X (.type "int") (λxs H Q=>(∃ i,xs=[.int i]/\Q (.int i) H)\/∃ k,xs=[.bl k]/\Q (.int (if k then 1 else 0)) H):=by
 intro pins s σ H xs us Q I r h;rcases h with ⟨i,rfl,q⟩|⟨k,rfl,q⟩
 . obtain⟨u,rfl,t,rfl⟩:=J7 r;exact call_int_int ⟨.int i,H,I,⟨_,rfl⟩,q⟩
 obtain⟨u,rfl,r1⟩:=J7 r
 cases r1;exact call_int_bool ⟨.int (if k then 1 else 0),H,I.tok _,⟨_,rfl⟩,q⟩
def az8 (K:W.Frag)(x:V)(H:Hp)(n:Nat):Prop:=
 match x with
 |.str y=>y.length<=sizeLine/\n=y.length
 |.byt y=>y.size<=sizeLine/\n=y.size
 |.ref p=>(∃ xs,SqL K H p xs/\n=xs.length)\/∃ xs,SqT K H p xs/\n=xs.length
 |_=>False
theorem call_len:CallR X (.builtin "len") (λxs H Q=>∃ x n,xs=[x]/\az8 X.K x H n/\Q (.int n) H):=by
 intro pins s σ H xs us Q I r h;obtain⟨x,n,rfl,e,q⟩:=h;obtain ⟨u,rfl,rx⟩:=J7 r;have hl:=Pa;have hs:sizeLine=16777216:=A14
 cases x with
 |str y=>obtain⟨t,rfl⟩:=rx;obtain⟨hy,e'⟩:y.length<=sizeLine/\n=y.length:=e;subst e';exact len_str ∅ ⟨.int _,H,I.tok _,⟨_,rfl⟩,q⟩
 |byt y=>obtain⟨t,rfl⟩:=rx;obtain⟨hy,e'⟩:y.size<=sizeLine/\n=y.size:=e;subst e';exact W.len_bytes ∅ ⟨.int _,H,I.tok _,⟨_,rfl⟩,q⟩
 |ref p=>
   cases rx;have e':(∃ xs,SqL X.K H p xs/\n=xs.length)\/∃ xs,SqT X.K H p xs/\n=xs.length:=e;rcases e' with ⟨xs,hx,e'⟩|⟨xs,hx,e'⟩
   . subst e';obtain⟨its,r',pl,hz⟩:=I.list hx;have hlen:=r'.length;exact Calls.call_len_list pl.isList (by simp only[List.size_toArray];omega) ⟨.int xs.length,H,I.tok _,⟨_,by simp only[List.size_toArray];rw[hlen]⟩,q⟩
   subst e';obtain⟨its,r',pl,hz⟩:=I.tuple hx;have hlen:=r'.length;exact len_tuple pl (by simp only[List.size_toArray];omega) ⟨.int xs.length,H,I.tok _,⟨_,by simp only[List.size_toArray];rw[hlen]⟩,q⟩
 |_=>exact(show False from e).elim
end
structure ObjM (h:Heap)(x dx C:Addr)(mA:Str->Option Value):Prop where
 obj:h.get? x=some (W.instObj C dx)
 ns:h.Ns1 dx mA
 ne:dx≠x
theorem Qg {h:Heap}{dx:Addr}{mA:Str->Option Value}(n:h.Ns1 dx mA):∃ od,h.get? dx=some od/\∀ name,W.lookIn name od=some (mA name):=by
 obtain⟨o,es,ep,ho,hd,hk,_,hm⟩:=n;refine⟨o,ho,λname=>?_⟩;have e:=hm name;unfold nsFind findBy at e;rw[<- Array.find?_toList] at e;unfold W.lookIn;rw[hd];dsimp only
 split
 . rename_i y q;rw[q] at e;exact congrArg some e
 rename_i q;rw[q] at e
 have a:es.toList.any (·.refKey)=false:=by rw[List.any_eq_false];intro y hy;obtain⟨z,t,hkey⟩:=hk y (Array.mem_toList_iff.mp hy);simp[DictEntry.refKey,hkey]
 have a':¬ es.toList.any (·.refKey)=true:=by rw[a];exact A0C
 rw[A0S a'];exact congrArg some e
theorem ObjM.look {h:Heap}{x dx C:Addr}{mA:Str->Option Value}(I:ObjM h x dx C mA):∃ od,W.InstAt h x (W.instObj C dx) C (some od)/\∀ name,W.lookIn name od=some (mA name):=
 let ⟨od,ho,hl⟩:=Qg I.ns
 ⟨od,⟨I.obj,rfl,rfl,ho⟩,hl⟩
section
variable {prog:Program}{w:World}{A:Around}{E:Value->Shared->Prop}{s:Shared}{K:W.Frag}{x dx C f:Addr}{mA:Str->Option Value}{name:Str}{v:Value}
theorem aa6 {expr:Bool}{Q:Value->Shared->Prop}(X:K.In s.heap)(I:ObjM s.heap x dx C mA)(hg:W.plainGet K C name=true)(hh:W.hasDictIn K C=true)
  (ha:W.findIn K (.ref C) name=some none) (hv:mA name=some v) (hv':W.handedIn v=true) (h:Q v {s with toks:=s.toks+1}) :
  wpAny (model prog w) A (getAttr (.ref x) name expr) Q E s:=by
 obtain⟨od,J,hl⟩:=I.look;exact W.get_value X J (A4X hg).1 (W.findObj_own hh ha rfl (by rw[hl,hv])) hv' h
theorem Z2 {pl:Sem Bool}{Q:Value×List Value->Shared->Prop}(X:K.In s.heap)(I:ObjM s.heap x dx C mA)(hg:W.plainGet K C name=true)
  (hf:W.findIn K (.ref C) name=some (some (.ref f))) (ht:W.isFn K (.ref f)=true) (hv:mA name=none) (h:Q (.ref f,[.ref x]) s) :
  wpAny (model prog w) A (getMethod (.ref x) name pl) Q E s:=by
 obtain⟨od,J,hl⟩:=I.look;exact W.method_fn X J (A4X hg).1 (A4X hg).2 hf (A22.mp ht) (by show(W.lookIn name od).map (·.isSome)=some false;rw[hl,hv];rfl) h
theorem af7 {ns:List Str}{Q:Unit->Shared->Prop}(X:K.In s.heap)(I:ObjM s.heap x dx C mA)
  (hs:W.findIn K (.ref C) "__setattr__" = some (some (.builtin "object.__setattr__"))) (hp:W.plainOver K C=true) (ht:W.takerIn K C name=some none) (hh:W.hasDictIn K C=true)
  (hw:PySem.Within mA ns) (hsz:ns.length<=sizeLine)
  (h:∀ h',ObjM h' x dx C (λy=>if y=name then some v else mA y)->Heap.SameBut dx s.heap h'->Q () {s with heap:=h',toks:=s.toks+2}) :
  wpAny (model prog w) A (setAttr (.ref x) name v) Q E s:=by
 obtain⟨od,J,hl⟩:=I.look;refine W.set_plain X J hs (W.osa_open (s:={s with toks:=s.toks+1}) (r:=none) X J hp ht λb=>?_)
 obtain⟨cd,hc,hd'⟩:=A48 hh;have hx:s.heap.get? x=some ⟨.ref C,some dx,.plain,#[]⟩:=I.obj;refine A00 (A04 (A00 (A00 (A4V hx (A00 (A53 (s:={s with toks:=s.toks+1}) (A3P X hc) ?_))))))
 rw[hd'];refine A04 (a:=some dx) (A00 (A04 (A00 ?_)));refine wpAny_nsSet1 (s:={s with toks:=s.toks+1}) I.ns λh' hn2 hs2=>?_
 obtain⟨oD,esD,epD,hoD,hdD,hcD⟩:=hn2.count (PySem.Within.cons name v hw);refine A00 (wpAny_lookBehind hoD (by rw[hdD];exact pastItsLine_dict (A0Q hcD (by rw[A0L];omega))) ?_);exact A04 (h _ ⟨(hs2.2 _ (Ne.symm I.ne)).trans I.obj,hn2,I.ne⟩ hs2)
theorem Yz {R:Result->Shared->Prop}{vs:List Value}{kw:List (Str×Value)}(X:K.In s.heap)(hm:W.makesIn K C=true)
  (hi:W.findIn K (.ref C) "__init__" = some (some (.ref f))) (hf:W.typeIn K (.ref f)=some (.type "function"))
  (h:codeAny (model prog w) (A.under (.builtin "type.__call__" ⟨.ref C :: vs,kw⟩)) (.call (.ref f) ⟨.ref (s.heap.objs.size+1) :: vs,kw⟩) (W.InitBack (s.heap.objs.size+1) R)
   {s with heap:=(s.heap.push W.emptyDict).push (W.instObj C s.heap.objs.size)}) :
  codeAny (model prog w) A (.call (.ref C) ⟨vs,kw⟩) R s:=by
 obtain⟨hh,g,d,t,os⟩:=s;exact W.make_core (W.makes_of X hm) (A2X X hi) (λself=>W.bind_fn X self hf) (.inl rfl) h
end
def Kg (f:Str) (v:V):List (Str×V)->List (Str×V)
 | []=>[(f,v)]
 | (g,x) :: r=>if g=f then(g,v) :: r else(g,x) :: Kg f v r
theorem Iw (f g:Str)(v:V):∀ fs:List (Str×V),(Kg f v fs).lookup g=if g=f then some v else fs.lookup g
 | []=>by
   show List.lookup g [(f,v)]=_
   by_cases h:g=f
   . have hb:(g==f)=true:=A22.mpr h;simp only[List.lookup,hb,if_pos h]
   have hb:(g==f)=false:=A0I.mpr h;simp only[List.lookup,hb,if_neg h]
 | (k,x) :: r=>by
   have ih:=Iw f g v r;rw[show Kg f v ((k,x) :: r)=(if k=f then(k,v) :: r else(k,x) :: Kg f v r) from rfl]
   by_cases hk:k=f
   . rw[A0W hk]
     by_cases h:g=k
     . have hb:(g==k)=true:=A22.mpr h;simp only[List.lookup,hb,if_pos (h.trans hk)]
     have hb:(g==k)=false:=A0I.mpr h;simp only[List.lookup,hb,if_neg (λe:g=f=>h (e.trans hk.symm))]
   rw[A0S hk]
   by_cases h:g=k
   . have hb:(g==k)=true:=A22.mpr h;simp only[List.lookup,hb,if_neg (λe:g=f=>hk (h.symm.trans e))]
   have hb:(g==k)=false:=A0I.mpr h;simp only[List.lookup,hb];exact ih
theorem L0 (f:Str)(v:V):∀ fs:List (Str×V),f∈(Kg f v fs).map (·.1)/\∀ g,g∈fs.map (·.1)->g∈(Kg f v fs).map (·.1)
 | []=>⟨by simp[Kg],λg h=>by simp at h⟩
 | (k,x) :: r=>by
   obtain⟨i1,i2⟩:=L0 f v r;rw[show Kg f v ((k,x) :: r)=(if k=f then(k,v) :: r else(k,x) :: Kg f v r) from rfl]
   by_cases hk:k=f
   . rw[A0W hk];subst hk;exact⟨by simp,λg h=>by simpa using h⟩
   rw[A0S hk];refine⟨?_,λg h=>?_⟩
   . rw[A0G];exact A0D _ i1
   rw[A0G] at h ⊢;rcases A0B.mp h with e|e
   . exact A0B.mpr (.inl e)
   exact A0D _ (i2 g e)
theorem Lk (f:Str)(v:V):∀ fs:List (Str×V),(Kg f v fs).length<=fs.length+1
 | []=>by simp[Kg]
 | (k,x) :: r=>by
   have ih:=Lk f v r;rw[show Kg f v ((k,x) :: r)=(if k=f then(k,v) :: r else(k,x) :: Kg f v r) from rfl]
   by_cases hk:k=f
   . rw[A0W hk,A0L,A0L];omega
   rw[A0S hk,A0L,A0L];omega
theorem RelO.some_of {v:V}{o:Option Value}(r:RelO (some v) o):∃ u,o=some u/\RelV v u:=by
 cases o with
 |none=>exact(show False from r).elim
 |some u=>exact⟨u,rfl,r⟩
theorem RelO.none_of {o:Option Value}(r:RelO none o):o=none:=by
 cases o with
 |none=>rfl
 |some u=>exact(show False from r).elim
theorem Ph {v:V}{u:Value}(r:RelV v u):W.handedIn u=true:=by
 cases v with
 |non=>cases (show u=Value.none from r);rfl
 |bl b=>cases (show u=Value.bool b from r);rfl
 |int i=>obtain⟨t,e⟩:=(show ∃ t,u=Value.int i t from r);cases e;rfl
 |str x=>obtain⟨t,e⟩:=(show ∃ t,u=Value.str x t from r);cases e;rfl
 |byt b=>obtain⟨t,e⟩:=(show ∃ t,u=Value.bytes b t from r);cases e;rfl
 |flt b=>obtain⟨t,e⟩:=(show ∃ t,u=Value.float b t from r);cases e;rfl
 |ref a=>cases (show u=Value.ref a from r);rfl
 |ty n=>cases (show u=Value.type n from r);rfl
section
variable {P:Program}{w:World}{H H':Hp}{h h':Heap}{a C dx:Addr}{fs fs':List (Str×V)}
theorem Rm (hok:HOk P w H h)(e:H a=some (.ins C dx fs)):∃ mA,ObjM h a dx C mA/\(∀ f,RelO (fs.lookup f) (mA f))/\PySem.Within mA (fs.map (·.1))/\fs.length<=1000/\H dx=some (.own a):=by obtain⟨d,z,ne,ob,mA,n,r,q⟩:=(show ObjOk P w H h a (.ins C dx fs) from hok a _ e);exact⟨mA,⟨ob,n,ne⟩,r,q,z,d⟩
end
structure Cls (K:W.Frag)(C:Addr):Prop where
 pg:W.plainGet K C Str.empty=true
 hd:W.hasDictIn K C=true
 po:W.plainOver K C=true
 sa:W.findIn K (.ref C) "__setattr__" = some (some (.builtin "object.__setattr__"))
theorem Cls.get {K:W.Frag}{C:Addr}(c:Cls K C)(f:Str):W.plainGet K C f=true:=c.pg
def NoAttr (K:W.Frag)(C:Addr)(f:Str):Prop:=W.findIn K (.ref C) f=some none
theorem NoAttr.taker {K:W.Frag}{C:Addr}{f:Str}(n:NoAttr K C f):W.takerIn K C f=some none:=by unfold W.takerIn;rw[show W.findIn K (.ref C) f=some none from n];rfl
structure au0 (K:W.Frag)(C:Addr)(m:Str)(f:Addr):Prop where
 at_:W.findIn K (.ref C) m=some (some (.ref f))
 fn:W.isFn K (.ref f)=true
 kp:W.keepIn K (.ref f)=true
section
variable {X:Cx}{pins:List (Addr×Obj)}{σ:St}{H:Hp}{s:Shared}{a C dx:Addr}{fs:List (Str×V)}{f:Str}{v:V}{A:Around}{E:Value->Shared->Prop}
theorem Uo {b:Bool}{Q:Value->Shared->Prop}(I:Inv X pins σ H s)(e:H a=some (.ins C dx fs))(c:Cls X.K C)(n:NoAttr X.K C f)(l:fs.lookup f=some v)
  (h:∀ u s',Inv X pins σ H s'->RelV v u->Q u s'):wpAny (model X.prog X.w) A (getAttr (.ref a) f b) Q E s:=by
 obtain⟨mA,O,r,_,_,_⟩:=Rm I.hok e;obtain⟨u,hu,ru⟩:=RelO.some_of (v:=v) (o:=mA f) (by rw[<- l];exact r f);exact aa6 I.kIn O (c.get f) c.hd n hu (Ph ru) (h u _ (I.tok _) ru)
theorem Us {m:Str}{g:Addr}{pl:Sem Bool}{Q:Value×List Value->Shared->Prop}(I:Inv X pins σ H s)(e:H a=some (.ins C dx fs))(c:Cls X.K C)(k:au0 X.K C m g)(l:fs.lookup m=none)
  (h:Q (.ref g,[.ref a]) s):wpAny (model X.prog X.w) A (getMethod (.ref a) m pl) Q E s:=by
 obtain⟨mA,O,r,_,_,_⟩:=Rm I.hok e;have hn:mA m=none:=RelO.none_of (by rw[<- l];exact r m);exact Z2 I.kIn O (c.get m) k.at_ k.fn hn h
theorem Tq {y:V}{u:Value}{Q:Unit->Shared->Prop}(I:Inv X pins σ H s)(e:H a=some (.ins C dx fs))(c:Cls X.K C)(n:NoAttr X.K C f)(hl:fs.length<1000)(ry:RelV y u)
  (h:∀ s',Inv X pins σ (upd H a (.ins C dx (Kg f y fs))) s'->Q () s'):wpAny (model X.prog X.w) A (setAttr (.ref a) f u) Q E s:=by
 obtain⟨mA,O,r,wi,_,ho⟩:=Rm I.hok e;have hz:(fs.map (·.1)).length<=sizeLine:=by rw[A01,A14];omega
 refine af7 I.kIn O c.sa c.po n.taker c.hd wi hz λh' O' sb=>h _ ?_;have hd:∃ o,h'.get? dx=some o:=let ⟨o,_,_,e',_⟩:=O'.ns;⟨o,e'⟩;refine I.write (x:=a) (e:=dx) (by rw[e];exact A23) (.inr ho) (λb q hb z=>(sb.2 b hb).trans z) hd ?_;refine⟨by rw[Al O.ne];exact ho,?_,O.ne,O'.obj,_,O'.ns,λg=>?_,λg hg=>?_⟩
 . have:=Lk f y fs;omega
 . show RelO ((Kg f y fs).lookup g) (if g=f then some u else mA g)
   rw[Iw]
   by_cases q:g=f
   . rw[A0W q,A0W q];exact ry
   rw[A0S q,A0S q];exact r g
 by_cases q:g=f
 . rw[q];exact(L0 f y fs).1
 refine(L0 f y fs).2 g (wi g λz=>hg ?_);show(if g=f then some u else mA g)=none
 rw[A0S q];exact z
theorem Inv.made (I:Inv X pins σ H s):Inv X pins σ (upd (upd H s.heap.objs.size (.own (s.heap.objs.size+1))) (s.heap.objs.size+1) (.ins C s.heap.objs.size []))
  {s with heap:=(s.heap.push W.emptyDict).push (W.instObj C s.heap.objs.size)}:=by
 have e1:(s.heap.push W.emptyDict).get? s.heap.objs.size=some W.emptyDict:=A0K s.heap rfl
 have e2:((s.heap.push W.emptyDict).push (W.instObj C s.heap.objs.size)).get? (s.heap.objs.size+1)=some (W.instObj C s.heap.objs.size):=by have:=A0K (s.heap.push W.emptyDict) (o:=W.instObj C s.heap.objs.size) rfl;rwa[A2J] at this
 have e3:(s.heap.push W.emptyDict).Ns s.heap.objs.size (λ_=>none):=⟨W.emptyDict,#[],_,e1,rfl,(λe he=>absurd he (by simp)),λ_=>rfl⟩;have I1:=I.laid (a:=s.heap.objs.size) (o:=.own (s.heap.objs.size+1)) (h':=s.heap.push W.emptyDict) (t':=s.toks) (λb u q=>A03 _ q) (A07 _) ⟨_,e1⟩;refine I1.laid (a:=s.heap.objs.size+1) (o:=.ins C s.heap.objs.size []) (t':=s.toks) (λb u q=>A03 _ q) (Nat.le_of_eq (A2J _ _)) ?_;have ne:s.heap.objs.size≠s.heap.objs.size+1:=A0P (A2Z _);refine⟨by rw[Al ne,A8],A2Q _,ne,e2,λ_=>none,(Heap.Ns1.of_empty e3).at λo q=>A03 _ q,λ_=>A23,λy hy=>absurd rfl hy⟩
theorem Wp {prog:Program}{w:World}{env:Env}{e:Expr}{f:Str}{pos:Pos}{s:Shared}{Q:Value->Shared->Prop}(hb:attributeBase e f env (eval e env)=eval e env)
  (h:wpAny (model prog w) A (eval e env) (λo s₁=>wpAny (model prog w) A (getAttr o f true) Q E s₁) E s):wpAny (model prog w) A (eval (.Attribute e f pos) env) Q E s:=
 Attribute_any_ h (by rw[arm_eval_Attribute,hb])
end
section
variable {X:Cx}{o e value:Expr}{f:Str}{pos pos' tpos:Pos}{ta tv:TE}
end
section
variable {X:Cx}{pins:List (Addr×Obj)}{σ:St}{H:Hp}{s:Shared}{A:Around}{E:Value->Shared->Prop}{Q:Value->Shared->Prop}{c:Value}{b:Bool}
end
structure Room (k:Nat)(A:Around):Prop where
 hd:A.handled=none
 dp:A.depth+3*k+5<recursionLimit
 un:A.units+16*k+200<cLine
 gd:A.guards=some []
theorem Room.mono {j k:Nat}{A:Around}(r:Room k A)(h:j<=k):Room j A:=⟨r.hd,by have:=r.dp;omega,by have:=r.un;omega,r.gd⟩
theorem Room.deeper {k:Nat}{A:Around}(r:Room (k+1) A)(env:Env):Room k (A.deeper env):=
 ⟨r.hd,by have:=r.dp;show A.depth+1+3*k+5<_;omega,by have:=r.un;show A.units+3+16*k+200<_;omega,r.gd⟩
theorem Um {A:Around}{C:Addr}{us:List Value}{kw:List (Str×Value)}:(A.under (.builtin "type.__call__" ⟨.ref C :: us,kw⟩)).depth=A.depth+1:=by first | rfl | simp[Around.under,Code.weight,Code.isCreation,Code.isGuard,Code.isCaller,Code.frames,Code.isFrame,guardIds]
theorem Tn {A:Around}{C:Addr}{us:List Value}{kw:List (Str×Value)}:(A.under (.builtin "type.__call__" ⟨.ref C :: us,kw⟩)).units=A.units+1:=by first | rfl | simp[Around.under,Code.cUnits,Code.frames,Code.isFrame]
theorem Room.make {k:Nat}{A:Around}(r:Room (k+1) A)(C:Addr)(us:List Value)(kw:List (Str×Value)):Room k (A.under (.builtin "type.__call__" ⟨.ref C :: us,kw⟩)):=
 ⟨r.hd,by have:=r.dp;rw[Um];omega,by have:=r.un;rw[Tn];omega,(by first | exact r.gd | (simpa[Around.under,Code.isGuard,guardIds,pushGuards] using r.gd))⟩
theorem Room.depth {k:Nat}{A:Around}(r:Room k A):A.depth<recursionLimit:=by have:=r.dp;omega
theorem Room.units {k:Nat}{A:Around}(r:Room k A):A.units+64<cLine:=by have:=r.un;omega
def ay6:TA:=λ_ H Q=>Q [] H
def an9 (ta:TE)(tr:TA):TA:=fun σ H Q=>ta σ H λx H1=>tr σ H1 λxs H2=>Q (x :: xs) H2
section
variable {X:Cx}{e:Expr}{es:List Expr}{te:TE}{t:TA}{pos:Pos}
theorem A2:PA X [] ay6:=λ_ _ _ _ H Q I h=>Calls.spliced_nil ⟨[],H,I,.nil,h⟩
theorem A0 (ha:PE X e te)(hr:PA X es t)(hs:starEach (e :: es) X.env=(false,eval e X.env) :: starEach es X.env:=by ac_nf):PA X (e :: es) (an9 te t):=by intro pos pins s σ H Q I h;rw[hs];show wpAny _ _ (spliced ((false,eval e X.env) :: backTo pos (starEach es X.env))) _ _ s;refine A54 (thn (ha pins s σ H _ I h) λu s1 ⟨x,H1,I1,r1,q1⟩=>?_);exact thn (hr pos pins s1 σ H1 _ I1 q1) λus s2 ⟨xs,H2,I2,r2,q2⟩=>⟨x :: xs,H2,I2,.cons r1 r2,q2⟩
def az6 (t:TA):TE:=fun σ H Q=>t σ H λxs H1=>xs.length<=sizeLine/\∀ p,H1 p=none->Q (.ref p) (upd H1 p (.tup xs))
def aA2 (t:TA):TE:=fun σ H Q=>t σ H λxs H1=>xs.length<=sizeLine/\∀ p,H1 p=none->Q (.ref p) (upd H1 p (.lst xs))
theorem Cr {x1}(h:PA X es t):PE X (.Tuple es x1 pos) (az6 t):=by intro pins s σ H Q I hq;refine wpAny_Tuple_spliced (thn (h pos pins s σ H _ I hq) λus s1 ⟨xs,H1,I1,r,z,q⟩=>⟨by rw[<- r.length];exact z,?_⟩);have hf:H1 s1.heap.objs.size=none:=I1.hok.fresh (A07 _);refine⟨.ref s1.heap.objs.size,upd H1 s1.heap.objs.size (.tup xs),I1.laid (t':=s1.toks) (λb u e=>A03 _ e) (A07 _) ?_,rfl,q _ hf⟩;exact⟨z,us,r,⟨_,A0K _ rfl,rfl,⟨_,rfl⟩,rfl⟩⟩
theorem B4 (h:PA X es t):PE X (.List es pos) (aA2 t):=by intro pins s σ H Q I hq;refine wpAny_List_spliced (thn (h pos pins s σ H _ I hq) λus s1 ⟨xs,H1,I1,r,z,q⟩=>⟨by rw[<- r.length];exact z,?_⟩);have hf:H1 s1.heap.objs.size=none:=I1.hok.fresh (A07 _);refine⟨.ref s1.heap.objs.size,upd H1 s1.heap.objs.size (.lst xs),I1.laid (t':=s1.toks) (λb u e=>A03 _ e) (A07 _) ?_,rfl,q _ hf⟩;exact⟨z,us,0,r,A0K _ rfl⟩
end
abbrev Sp:=List V->Hp->VK->XK->Prop
abbrev CXT:=List Env->Hp->Shared->XK->Value->Shared->Prop
structure Env0 (P:Program)(w:World)(K:W.Frag)(mg:Str->Option Value)(base:Heap)(A:Around)(outer:List Env)(s:Shared)(H:Hp):Prop where
 frames:A.frames=some outer
 mod:Mod K mg base
 bs:∀ b o,base.get? b=some o->s.heap.get? b=some o/\H b=none
 bsz:base.objs.size<=s.heap.objs.size
 funs:s.heap.FunFrames base outer
 frf:∀ b∈frs outer,H b=none
 hok:HOk P w H s.heap
 bare:AllBare s.gens
def CE (outer:List Env)(P:Program)(w:World)(H:Hp)(s:Shared)(Q:VK)(u:Value)(s':Shared):Prop:=
 ∃ v H',s'.os=s.os/\AllBare s'.gens/\Un (frs outer) [] H H' s.heap s'.heap/\HOk P w H' s'.heap/\RelV v u/\Q v H'
def CR (CX:CXT)(outer:List Env)(P:Program)(w:World)(H:Hp)(s:Shared)(Q:VK)(E:XK)(r:Result)(s':Shared):Prop:=
 match r with
 |.ok (.ret u)=>CE outer P w H s Q u s'
 |.ok _=>False
 |.error e=>CX outer H s E e s'
structure FnOk (P:Program)(w:World)(K:W.Frag)(mg:Str->Option Value)(base:Heap)(CX:CXT)(k:Nat)(f:Addr)(fd:FuncData)(ps:List Str)(sp:Sp):Prop where
 len:∀ vs H Q E,sp vs H Q E->vs.length=ps.length
 run:∀(A:Around) (outer:List Env) (s:Shared) (H:Hp) (args:Args) (us:List Value) (vs:List V) (Q:VK) (E:XK),Room k A->Env0 P w K mg base A outer s H->BindsTo s fd args (ps.zip us)->Vals vs us->sp vs H Q E ->
  codeAny (model P w) A (.call (.ref f) args) (CR CX outer P w H s Q E) s
theorem Env0.make {P:Program}{w:World}{K:W.Frag}{mg:Str->Option Value}{base:Heap}{A:Around}{outer:List Env}{s:Shared}{H:Hp}(e:Env0 P w K mg base A outer s H)(C:Addr)(us:List Value)(kw:List (Str×Value)) :
  Env0 P w K mg base (A.under (.builtin "type.__call__" ⟨.ref C :: us,kw⟩)) outer s H:=⟨by first | exact e.frames | (simpa[Around.under,Code.envs,Code.isFrame,pushEnvs] using e.frames),e.mod,e.bs,e.bsz,e.funs,e.frf,e.hok,e.bare⟩
section
variable {X:Cx}{pins:List (Addr×Obj)}{σ:St}{H:Hp}{s s':Shared}
theorem Inv.env0 (I:Inv X pins σ H s):Env0 X.prog X.w X.K X.mg X.base X.A X.stack s H:=
 ⟨I.ok.frames,I.ok.mod,I.bs,A0Q I.ok.bsz I.sz,I.stack,I.stkFree,I.hok,I.bare⟩
theorem Inv.after {Q:VK}{u:Value}(I:Inv X pins σ H s)(h:CE X.stack X.prog X.w H s Q u s'):EP X pins σ Q u s':=by obtain⟨v,H',os,bare,un,hok,r,q⟩:=h;obtain⟨hh,g,d,t,os'⟩:=s';obtain rfl:os'=s.os:=os;exact⟨v,H',I.call (h':=hh) (g':=g) (d':=d) (t':=t) (ch:=[]) un hok bare (λb z=>absurd z (by simp)),r,q⟩
end
def Zg (sp:Sp)(dvs:List V)(E:XK)(t:TA):TE:=fun σ H Q=>t σ H λvs H1=>sp (vs++dvs) H1 Q E
def aw9 (C:Addr)(m:Str)(sp:Sp)(dvs:List V)(E:XK)(ta:TE)(t:TA):TE:=fun σ H Q=>ta σ H λx H1=>∃ a dx fs,x = .ref a/\H1 a=some (.ins C dx fs)/\fs.lookup m=none /\
 t σ H1 λvs H2=>sp (x :: (vs++dvs)) H2 Q E
def ay3 (C:Addr)(sp:Sp)(dvs:List V)(E:XK)(t:TA):TE:=fun σ H Q=>t σ H λvs H1=>∀ x dx,H1 x=none->H1 dx=none->dx≠x ->
 sp (.ref x :: (vs++dvs)) (upd (upd H1 dx (.own x)) x (.ins C dx [])) (λv H2=>v = .non/\Q (.ref x) H2) E
def Binds (K:W.Frag)(fd:FuncData)(ps:List Str)(ds:List Value):Prop:=
 ∀(s:Shared) (us:List Value),K.In s.heap->(us++ds).length=ps.length->BindsTo s fd ⟨us,[]⟩ (ps.zip (us++ds))
theorem Binds.all {K:W.Frag}{fd:FuncData}{ps:List Str}(h:∀ us:List Value,us.length=ps.length->bindArgs fd ⟨us,[]⟩=pure (ps.zip us)):Binds K fd ps []:=λs us _ hl=>by rw[A1N] at hl ⊢;exact .of_eq (h us hl)
def Ig (CX:CXT)(X:Cx)(E:XK):Prop:=∀(pins:List (Addr×Obj)) (σ:St) (H:Hp) (s:Shared) (e:Value) (s':Shared),Inv X pins σ H s->CX X.stack H s E e s'->X.xe e s'
section
variable {X:Cx}{CX:CXT}{k:Nat}{f C:Addr}{fd:FuncData}{ps:List Str}{sp:Sp}{dvs:List V}{ds:List Value}{E:XK}{x m:Str}{p pos apos:Pos}{e o:Expr}{es:List Expr}{ta:TE}{t:TA}
theorem a35 {pins:List (Addr×Obj)}{σ:St}{H:Hp}{s:Shared}{Q:VK}{us:List Value}{vs:List V}(F:FnOk X.prog X.w X.K X.mg X.base CX k f fd ps sp)(hr:Room k X.A)(hb:Binds X.K fd ps ds)(hd:Vals dvs ds)(hx:Ig CX X E)
  (I:Inv X pins σ H s) (r:Vals vs us) (h:sp (vs++dvs) H Q E):wpAny (model X.prog X.w) X.A (call (.ref f) us) (EP X pins σ Q) X.xe s:=by
 have r2:Vals (vs++dvs) (us++ds):=r.append hd;have hl:(us++ds).length=ps.length:=by rw[<- r2.length];exact F.len _ _ _ _ h
 refine A4R (A4D (F.run X.A X.stack s H ⟨us,[]⟩ (us++ds) (vs++dvs) Q E hr I.env0 (hb s us I.kIn hl) r2 h) λr s' hq=>?_)
 cases r with
 |error e=>exact hx pins σ H s e s' I hq
 |ok fl=>
   cases fl with
   |ret u=>exact I.after hq
   |next=>exact False.elim hq
   |brk=>exact False.elim hq
   |cont=>exact False.elim hq
theorem Vc (F:FnOk X.prog X.w X.K X.mg X.base CX k f fd ps sp)(hr:Room k X.A)(hg:Gl X x)(hm:X.mg x=some (.ref f))(hk:W.keepIn X.K (.ref f)=true)(hb:Binds X.K fd ps ds)(hd:Vals dvs ds)(hx:Ig CX X E)
  (ha:PA X (e :: es) t) (hdb:(x==("__debug__":Str))=false:=by decide) (he:starEach (e :: es) X.env=(false,eval e X.env) :: starEach es X.env:=by ac_nf) (hpl:(backTo pos (starEach es X.env)).any (·.1)=false:=by ac_nf) :
  PE X (.Call (.Name x p) (e :: es) [] pos) (Zg sp dvs E t):=by
 intro pins s σ H Q I h;refine A33 (Kw I hg hm ?_ hdb);refine A3R (h₀:=X.base) I.ok.mod.kin hk (thn (ha pos pins s σ H _ I h) λus s1 ⟨vs,H1,I1,r,q⟩=>⟨I1.kIn,?_⟩) he hpl;exact a35 F hr hb hd hx I1 r q
theorem ae3 {pl:Sem Bool}(he:PE X o ta)(c:Cls X.K C)(hm:au0 X.K C m f)(F:FnOk X.prog X.w X.K X.mg X.base CX k f fd ps sp)(hr:Room k X.A)(hb:Binds X.K fd ps ds)(hd:Vals dvs ds)(hx:Ig CX X E)(ha:PA X (e :: es) t)
  (hst:starEach (e :: es) X.env=(false,eval e X.env) :: starEach es X.env:=by ac_nf) (hpl:(backTo pos (starEach es X.env)).any (·.1)=false:=by ac_nf)
  (ht:eval (.Call (.Attribute o m apos) (e :: es) [] pos) X.env=(do
   let ov <- eval o X.env
   standAt apos.atName
   let (f,first) <- holding [ov] (getMethod ov m pl)
   callWith pos f first (backTo pos (starEach (e :: es) X.env)) (backToKw pos (keywordEach [] X.env))):=by ac_nf) :
  PE X (.Call (.Attribute o m apos) (e :: es) [] pos) (aw9 C m sp dvs E ta t):=by
 intro pins s σ H Q I h;refine W.methodCall_KW (pl:=pl) (thn (he pins s σ H _ I h) λu s1 ⟨x,H1,I1,rx,a,dx,fs,ex,ea,l,q⟩=>?_) ht;subst ex;obtain rfl:u=Value.ref a:=rx;refine Us I1 ea c hm l ?_;refine A3R (first:=[.ref a]) (h₀:=X.base) I.ok.mod.kin hm.kp (thn (ha pos pins s1 σ H1 _ I1 q) λus s2 ⟨vs,H2,I2,r,q2⟩=>⟨I2.kIn,?_⟩) hst hpl
 exact a35 (us:=.ref a :: us) (vs:=.ref a :: vs) F hr hb hd hx I2 (.cons rfl r) q2
structure Mk (K:W.Frag)(C f:Addr):Prop where
 makes:W.makesIn K C=true
 init:W.findIn K (.ref C) "__init__" = some (some (.ref f))
 fn:W.isFn K (.ref f)=true
 kp:W.keepIn K (.ref C)=true
theorem Yu {pins:List (Addr×Obj)}{σ:St}{H:Hp}{s:Shared}{Q:VK}{us:List Value}{vs:List V}(M:Mk X.K C f)(F:FnOk X.prog X.w X.K X.mg X.base CX k f fd ps sp)(hr:Room (k+1) X.A)(hb:Binds X.K fd ps ds)(hd:Vals dvs ds)
  (hx:Ig CX X E) (I:Inv X pins σ H s) (r:Vals vs us)
  (h:∀ x dx,H x=none->H dx=none->dx≠x->sp (.ref x :: (vs++dvs)) (upd (upd H dx (.own x)) x (.ins C dx [])) (λv H2=>v = .non/\Q (.ref x) H2) E) :
  wpAny (model X.prog X.w) X.A (call (.ref C) us) (EP X pins σ Q) X.xe s:=by
 have hq:=h (s.heap.objs.size+1) s.heap.objs.size (I.hok.fresh (A44 _)) (I.hok.fresh (A07 _)) (A0P (A2Z _));have I2:=Inv.made (C:=C) I;have r2:Vals (V.ref (s.heap.objs.size+1) :: (vs++dvs)) (Value.ref (s.heap.objs.size+1) :: (us++ds)):=.cons rfl (r.append hd)
 have hl:(Value.ref (s.heap.objs.size+1) :: us++ds).length=ps.length:=by have e:=r2.length;rw[F.len _ _ _ _ hq] at e;exact e.symm
 refine A4R (Yz (f:=f) I.kIn M.makes M.init (A22.mp M.fn) (A4D (F.run _ X.stack _ _ ⟨Value.ref (s.heap.objs.size+1) :: us,[]⟩ (Value.ref (s.heap.objs.size+1) :: (us++ds)) _ _ E (hr.make C us [])
  (I2.env0.make C us []) (hb _ (Value.ref (s.heap.objs.size+1) :: us) I2.kIn hl) r2 hq) λr s' hq'=>?_))
 cases r with
 |error e=>exact hx pins σ _ _ e s' I2 hq'
 |ok fl=>
   cases fl with
   |ret u=>obtain⟨v,H',I3,rv,ev,q3⟩:=I2.after hq';subst ev;exact⟨rv,⟨V.ref (s.heap.objs.size+1),H',I3,rfl,q3⟩⟩
   |next=>exact False.elim hq'
   |brk=>exact False.elim hq'
   |cont=>exact False.elim hq'
theorem ag3 (M:Mk X.K C f)(F:FnOk X.prog X.w X.K X.mg X.base CX k f fd ps sp)(hr:Room (k+1) X.A)(hg:Gl X x)(hm:X.mg x=some (.ref C))(hb:Binds X.K fd ps ds)(hd:Vals dvs ds)(hx:Ig CX X E)
  (ha:PA X (e :: es) t) (hdb:(x==("__debug__":Str))=false:=by decide) (he:starEach (e :: es) X.env=(false,eval e X.env) :: starEach es X.env:=by ac_nf) (hpl:(backTo pos (starEach es X.env)).any (·.1)=false:=by ac_nf) :
  PE X (.Call (.Name x p) (e :: es) [] pos) (ay3 C sp dvs E t):=by
 intro pins s σ H Q I h;refine A33 (Kw I hg hm ?_ hdb);refine A3R (h₀:=X.base) I.ok.mod.kin M.kp (thn (ha pos pins s σ H _ I h) λus s1 ⟨vs,H1,I1,r,q⟩=>⟨I1.kIn,?_⟩) he hpl;exact Yu M F hr hb hd hx I1 r q
end
section
variable {X:Cx}{CX:CXT}{k:Nat}{f C:Addr}{fd:FuncData}{ps ks:List Str}{sp:Sp}{E:XK}{x m:Str}{p pos apos kpos:Pos}{e o:Expr}{es:List Expr}{kws:List Keyword}{te ta:TE}{t tk:TA}{nm:Option Str}
variable {g:List Value->List Value->List Value}{gV:List V->List V->List V}
end
structure Ak (N P:List Str)(sc:Scope):Prop where
 kind:sc.kind = .function
 co:sc.isCoroutine=false
 gen:sc.isGenerator=false
 nd:N.Nodup
 pre:N.take P.length=P
 par:∀ x∈P,sc.names.lookup x=some .local\/sc.names.lookup x=some .cell
 nofree:∀ y∈sc.names,y.2 ≠ .free
theorem Pr {kindOf:Str->Option NameKind}{x:Str}:∀ {binds:List (Str×Value)} {m:Str->Option Value},(∀ v,(x,v)∉binds)->bindL kindOf binds m x=m x
 | [],_,_=>rfl
 | (n,v) :: r,m,h=>by
   unfold bindL;rw[Pr λw hw=>h w (A0D _ hw)]
   split
   . have:x≠n:=by rintro rfl;exact h v A11
     simp[this]
   rfl
theorem Py {kindOf:Str->Option NameKind}{x:Str}:∀ {binds:List (Str×Value)} {m:Str->Option Value},(∀ v,(x,v)∉binds)->bindC kindOf binds m x=m x
 | [],_,_=>rfl
 | (n,v) :: r,m,h=>by
   unfold bindC;rw[Py λw hw=>h w (A0D _ hw)]
   split
   . rfl
   have:x≠n:=by rintro rfl;exact h v A11
   simp[this]
theorem Oi {kindOf:Str->Option NameKind} {x:Str} {v:Value}:∀ {P:List Str} {vs:List Value} {i:Nat} {m:Str->Option Value},P.Nodup->P[i]? = some x->vs[i]? = some v->kindOf x=some .local ->
  bindL kindOf (P.zip vs) m x=some v
 | [],_,_,_,_,h,_,_=>by simp at h
 |_ :: _,[],_,_,_,_,h,_=>by simp at h
 |p :: P,w :: vs,0,m,nd,h1,h2,hk=>by simp at h1 h2;subst h1;subst h2;show bindL kindOf ((p,w) :: P.zip vs) m p=_;unfold bindL;rw[Pr λv hv=>(A0H.mp nd).1 (A4E hv).1,A0W hk];simp
 |p :: P,w :: vs,i+1,m,nd,h1,h2,hk=>by show bindL kindOf ((p,w) :: P.zip vs) m x=_;unfold bindL;exact Oi (i:=i) (List.nodup_cons.mp nd).2 (by simpa using h1) (by simpa using h2) hk
theorem Om {kindOf:Str->Option NameKind} {x:Str} {v:Value}:∀ {P:List Str} {vs:List Value} {i:Nat} {m:Str->Option Value},P.Nodup->P[i]? = some x->vs[i]? = some v->kindOf x≠some .local ->
  bindC kindOf (P.zip vs) m x=some v
 | [],_,_,_,_,h,_,_=>by simp at h
 |_ :: _,[],_,_,_,_,h,_=>by simp at h
 |p :: P,w :: vs,0,m,nd,h1,h2,hk=>by simp at h1 h2;subst h1;subst h2;show bindC kindOf ((p,w) :: P.zip vs) m p=_;unfold bindC;rw[Py λv hv=>(A0H.mp nd).1 (A4E hv).1,A0S hk];simp
 |p :: P,w :: vs,i+1,m,nd,h1,h2,hk=>by show bindC kindOf ((p,w) :: P.zip vs) m x=_;unfold bindC;exact Om (i:=i) (List.nodup_cons.mp nd).2 (by simpa using h1) (by simpa using h2) hk
def Np (N:List Str)(vs:List V):St:=vs.map some++List.replicate (N.length-vs.length) none
def Uz (CX:CXT)(P:Program)(w:World)(K:W.Frag)(mg:Str->Option Value)(base:Heap)(N:List Str)(qual:Str)(scope:Scope)(f:Addr)(cd:Value)(A:Around)(outer:List Env)(s:Shared)(H:Hp)(E:XK):Cx where
 prog:=P
 w:=w
 K:=K
 mg:=mg
 base:=base
 A:=A.deeper (envOfC qual scope s.heap.objs.size f cd)
 N:=N
 s₀:=s
 H₀:=H
 env:=envOfC qual scope s.heap.objs.size f cd
 outer:=outer
 stack:=envOfC qual scope s.heap.objs.size f cd :: outer
 ex:=[]
 calm:=true
 fn:=λ_=>true
 pn:=[]
 xe:=λe s'=>wpAny (model P w) (A.deeper (envOfC qual scope s.heap.objs.size f cd)) (leaving (envOfC qual scope s.heap.objs.size f cd) e) (λ_ s''=>CX outer H s E e s'') (λe' s''=>CX outer H s E e' s'') s'
theorem T4 {sc:Scope}{n:Nat}{x:Str}(h:sc.names.lookup x=some .cell):∃ c,(cellsFrom n sc.names []).lookup x=some c:=by have q:=W.cellsFrom_some sc.names n [] (.inl h);exact Option.isSome_iff_exists.mp q
theorem Xe {CX:CXT}{P:Program}{w:World}{K:W.Frag}{mg:Str->Option Value}{base:Heap}{N ps:List Str}{qual:Str}{scope:Scope}{f:Addr}{cd:Value}{A:Around}{outer:List Env}{s s1:Shared}{H:Hp}{E:XK}{us:List Value}{vs:List V}
  (S:Ak N ps scope) (hd:A.handled=none) (e0:Env0 P w K mg base A outer s H) (hl:vs.length=ps.length) (r:Vals vs us)
  (x:InCallC s s.heap.objs.size (bindL (envOfC qual scope s.heap.objs.size f cd).kindOf (ps.zip us) λ_=>none) (cellsFrom (s.heap.objs.size+1) scope.names []) (bindC (envOfC qual scope s.heap.objs.size f cd).kindOf (ps.zip us) λ_=>none) s1) :
  Inv (Uz CX P w K mg base N qual scope f cd A outer s H E) [] (Np N vs) H s1:=by
 have hpl:ps.length<=N.length:=by have:=congrArg List.length S.pre;rw[A0O] at this;omega
 obtain⟨h1,tk,rfl,hk⟩:=x.done;have noA:∀ b:Addr,b∉(Uz CX P w K mg base N qual scope f cd A outer s H E).ex:=λb z=>absurd (show b∈([]:List Addr) from z) (by simp)
 refine⟨⟨e0.mod,S.kind,rfl,rfl,A07 _,λy z c h1 h2=>?_,λy hy=>?_,λy c _ h=>?_,λ_=>hd,Around.frames_deeper e0.frames,.inr ⟨rfl,rfl⟩,λb z=>absurd z (noA b),e0.bs,e0.bsz,λb _ _=>noA b,λb z=>absurd z (noA b),e0.funs,e0.frf⟩,
  rfl,e0.bare,Un.kept hk,⟨_,x.toInCall.ns,λi y v h1 h2 h3=>?_⟩,λy c h=>⟨_,x.cell y c h⟩,e0.hok.fresh (Nat.le_refl _),λy c h=>?_,λp hp=>absurd (show p∈([]:List (Addr×Obj)) from hp) (by simp),e0.hok.kept hk,?_⟩
 . exact name_of_addr x.apart (A2G h1) (A2G h2)
 . have hy:scope.names.lookup y=some .cell\/scope.names.lookup y=some .free:=hy;rcases hy with hy|hy
   . exact T4 hy
   exact absurd rfl (S.nofree _ (A2G hy))
 . exact A2E (x.above y c (A2G h))
 . have hi:i<vs.length:=by
    unfold Np at h2
    by_cases hi:i<vs.length
    . exact hi
    rw[List.getElem?_append_right (by simpa using hi)] at h2;rw[A45] at h2
    split at h2<;>cases h2
   have ha:vs[i]? = some v:=by
    unfold Np at h2;rw[List.getElem?_append_left (by simpa using hi),List.getElem?_map] at h2
    cases e:vs[i]? with
    |none=>rw[e] at h2;cases h2
    |some a=>rw[e] at h2;cases h2;rfl
   obtain⟨u,hu,rv⟩:=r.get ha
   have hp:ps[i]? = some y:=by rw[<- S.pre,A1R ∅];exact h1
   have ndP:ps.Nodup:=by rw[<- S.pre];exact S.nd.sublist (A3X _ _)
   refine⟨u,rv,?_⟩;rcases S.par y (A05 hp) with k|k
   . exact .inl ⟨k,Oi ndP hp hu k⟩
   obtain⟨c,e⟩:=T4 (n:=s.heap.objs.size+1) k;refine .inr ⟨.inl k,c,e,?_⟩;have q:=x.cell y c e;rw[Om ndP hp hu (by show scope.names.lookup y≠_;rw[k];decide)] at q;exact q
 . exact e0.hok.fresh (A2E (x.above y c (A2G h)))
 unfold Np;show _=N.length;rw[A09,A01,A26];omega
theorem ap7 {CX:CXT}{P:Program}{w:World}{K:W.Frag}{mg:Str->Option Value}{base:Heap}{k:Nat}{f:Addr}{name qual:Str}{params:Arguments}{body:List Stmt}{scope:Scope}{dV kV doc pm cdv ct oc:Value}{an od:Option Addr}
  {osl:Array (Option Value)} {N ps:List Str} {sp:Sp} (lk:K.lookup f=some ⟨oc,od,.func (W.fnOf name qual params body scope dV kV doc pm an cdv ct),osl⟩) (hcd:W.codeIn K cdv qual=true) (S:Ak N ps scope)
  (len:∀ vs H Q E,sp vs H Q E->vs.length=ps.length)
  (hbody:∀(A:Around) (outer:List Env) (s:Shared) (H:Hp) (vs:List V) (Q:VK) (E:XK),Room k (A.deeper (envOfC qual scope s.heap.objs.size f cdv))->sp vs H Q E ->
   ∃ t,PSs (Uz CX P w K mg base N qual scope f cdv A outer s H E) body t/\t {nx:=λ_ H'=>Q .non H',rt:=Q} (Np N vs) H) :
  FnOk P w K mg base CX (k+1) f (W.fnOf name qual params body scope dV kV doc pm an cdv ct) ps sp:=by
 refine⟨len,λA outer s H args us vs Q E hr e0 hb r hsp=>?_⟩;have hl:=len _ _ _ _ hsp;have KX:K.In s.heap:=e0.mod.kin.keeps λb o e=>(e0.bs b o e).1;have lim:s.heap.NoLimit:=e0.mod.nolimit.keeps λb o e=>(e0.bs b o e).1
 have hkind:∀ y∈ps.zip us,scope.names.lookup y.1=some .local\/(scope.names.lookup y.1=some .cell/\((cellsFrom (s.heap.objs.size+1) scope.names []).lookup y.1).isSome=true):=λ⟨n,v⟩ hy=>by
  rcases S.par n (A4E hy).1 with q|q
  . exact .inl q
  exact .inr ⟨q,W.cellsFrom_some _ _ _ (.inl q)⟩
 refine codeAny_call_function hr.depth (KX _ _ lk) rfl S.co S.gen rfl (W.codeRec_of KX hcd) (hb _ _ _ _ ?_);refine wpAny_newFunctionEnv_cells S.kind hkind λenv he s1 x=>?_;subst he;refine⟨lim.keeps x.toInCall.keep,codeAny_func ?_⟩;obtain⟨t,ht,hq⟩:=hbody A outer s H vs Q E (hr.deeper _) hsp;have I:Inv (Uz CX P w K mg base N qual scope f cdv A outer s H E) [] (Np N vs) H s1:=Xe S hr.hd e0 hl r x;refine A1X (ht [] s1 (Np N vs) H _ I hq) (λfl s' hs=>?_) λe s' hs=>hs
 have fin:∀ {σ':St} {H':Hp} {v:V} {u:Value},Inv (Uz CX P w K mg base N qual scope f cdv A outer s H E) [] σ' H' s'->RelV v u->Q v H'->CE outer P w H s Q u s':=
  fun {σ' H' v u} J rv q=>⟨v,H',J.os,J.bare,J.base,J.hok,rv,q⟩
 cases fl with
 |ret u=>obtain⟨v,σ',H',J,rv,q⟩:=hs;exact fin J rv q
 |next=>obtain⟨σ',H',J,q⟩:=hs;exact fin (v:=V.non) (u:=Value.none) J rfl q
 |brk=>obtain⟨_,_,_,q⟩:=hs;exact False.elim q
 |cont=>obtain⟨_,_,_,q⟩:=hs;exact False.elim q
section
variable {X:Cx}{x:Str}{p pos:Pos}{e:Expr}{es:List Expr}{t:TA}{id T:String}{r:List V->Hp->VK->Prop}
def tCB (r:List V->Hp->VK->Prop)(t:TA):TE:=fun σ H Q=>t σ H λvs H1=>r vs H1 Q
theorem Ag (hc:CallR X (.builtin id) r)(hg:Gl X x)(hm:X.mg x=none)(hv:bootBuiltins x=some (.builtin id))(ha:PA X (e :: es) t)(hn:x ≠ "__name__":=by decide)(hdb:(x==("__debug__":Str))=false:=by decide)
  (he:starEach (e :: es) X.env=(false,eval e X.env) :: starEach es X.env:=by ac_nf) (hpl:(backTo pos (starEach es X.env)).any (·.1)=false:=by ac_nf):PE X (.Call (.Name x p) (e :: es) [] pos) (tCB r t):=by
 intro pins s σ H Q I h;refine A33 (Mp I hg hm hv ?_ hn hdb);exact PyProof.Rows.callWith_builtin1 (thn (ha pos pins s σ H _ I h) λus s1 ⟨vs,H1,I1,r1,q1⟩=>hc pins s1 σ H1 vs us Q I1 r1 q1) he hpl
theorem Bx (hc:CallR X (.type T) r)(hg:Gl X x)(hm:X.mg x=none)(hv:bootBuiltins x=some (.type T))(ha:PA X (e :: es) t)(hn:x ≠ "__name__":=by decide)(hdb:(x==("__debug__":Str))=false:=by decide)
  (he:starEach (e :: es) X.env=(false,eval e X.env) :: starEach es X.env:=by ac_nf) (hpl:(backTo pos (starEach es X.env)).any (·.1)=false:=by ac_nf):PE X (.Call (.Name x p) (e :: es) [] pos) (tCB r t):=by
 intro pins s σ H Q I h;refine A33 (Mp I hg hm hv ?_ hn hdb);exact A2P (thn (ha pos pins s σ H _ I h) λus s1 ⟨vs,H1,I1,r1,q1⟩=>hc pins s1 σ H1 vs us Q I1 r1 q1) he hpl
end
end L2
namespace HT
open PySem PyProof.Rows
section
open PySem.SeqAt
open PySem.AutoSeq1 (wpAny_loadPart')
open PySem.MeetsSeq PySem.MeetsSeq2 PySem.MeetsSeq3
end
section
variable {prog:Program}{w:World}{A:Around}{E:Value->Shared->Prop}{s:Shared}
theorem cat_tup {t b:Addr}{vs ws:List Value}{Q:Value->Shared->Prop}(ht:IsTup s.heap t vs.toArray)(hb:IsTup s.heap b ws.toArray)(hv:vs≠[])
  (h1:ws=[]->Q (.ref t) s) (h2:ws≠[]->Q (.ref s.heap.objs.size) {s with heap:=s.heap.push {cls:=.type "tuple",data:=.seq (vs++ws).toArray}})
  (hsz:vs.length+ws.length<=sizeLine):wpAny (model prog w) A (binaryOp .Add (.ref t) (.ref b)) Q E s:=by
 obtain⟨⟨cls,dd,data,sl⟩,ho,hc,n,hd⟩:=id ht;obtain⟨⟨cls2,dd2,data2,sl2⟩,ho2,hc2,n2,hd2⟩:=id hb;simp only at hc hd hc2 hd2;subst hc hd hc2 hd2;have e:vs.toArray++ws.toArray=(vs++ws).toArray:=by simp
 by_cases hw:ws=[]
 . exact concat_meets ⟨_,ho,rfl⟩ ⟨_,ho2,rfl⟩ noFill_tuple_add seq_tuple_add PySem.F.slot_tuple_add PySem.F.entry_tuple_add (PySem.F.args_tuple_add_2 _ _)
    (tuple_addW1 t b vs.toArray ws.toArray n n2 dd dd2 sl sl2 (by simpa using hv) (by simp[hw])) ⟨ho,ho2,h1 hw⟩
 refine concat_meets ⟨_,ho,rfl⟩ ⟨_,ho2,rfl⟩ noFill_tuple_add seq_tuple_add PySem.F.slot_tuple_add PySem.F.entry_tuple_add (PySem.F.args_tuple_add_2 _ _)
  (tuple_addW2 t b vs.toArray ws.toArray n n2 dd dd2 sl sl2 (by simpa using hv) (by simpa using hw) (by rw[List.size_toArray,List.size_toArray];exact hsz)) ⟨ho,ho2,?_⟩
 rw[e];exact h2 hw
def sIx (n d:Nat):Option Int->Nat
 |none=>d
 |some v=>if v<0 then(v+(n:Int)).toNat else min v.toNat n
theorem ak0 (n d:Nat)(hd:d<=n)(o:Option Int):sIx n d o<=n:=by
 cases o with
 |none=>exact hd
 |some v=>
   show(if v<0 then(v+(n:Int)).toNat else min v.toNat n)<=n
   by_cases hv:v<0
   . rw[A0W hv];omega
   rw[A0S hv];exact A3K _ _
theorem W9 (v:Int)(n d:Nat):(if v<0 then max (v+(n:Int)) 0 else min v (n:Int))=((sIx n d (some v):Nat):Int):=by
 show(if v<0 then max (v+(n:Int)) 0 else min v (n:Int))=(((if v<0 then(v+(n:Int)).toNat else min v.toNat n):Nat):Int)
 by_cases hv:v<0
 . simp only[if_pos hv];omega
 simp only[if_neg hv];omega
theorem Uj (lo hi:Option Int)(n:Nat):Builtin.Slice.sliceAdjust lo hi 1 (n:Int)=(((sIx n 0 lo:Nat):Int),((sIx n n hi:Nat):Int)):=by
 have h1:¬ ((1:Int)<0):=by omega
 unfold Builtin.Slice.sliceAdjust;simp only[h1,if_false];refine Prod.ext ?_ ?_
 . cases lo with
   |none=>rfl
   |some v=>exact W9 v n 0
 cases hi with
 |none=>rfl
 |some v=>exact W9 v n n
theorem Uf (i j:Nat):Builtin.Slice.slicePlaces (i:Int) (j:Int) 1=j-i:=by
 unfold Builtin.Slice.slicePlaces;have h1:(1:Int)>0:=by omega
 simp only[h1,if_true,Int.ediv_one]
 split<;>omega
theorem slicePart_ {v:Value}{o:Option Int}{Q:Option Int->Shared->Prop}(p:IsPart v o)(h:Q o s):wpAny (model prog w) A (Builtin.Slice.slicePartIndex v) Q E s:=by
 cases p with
 |none=>exact slicePart_none h
 |int i t=>exact slicePart_int h
theorem sliceApplied_gen {sl:Addr}{vl vu:Value}{lo hi:Option Int}{n:Nat}{Q:Int×Int×Nat->Shared->Prop}(hs:s.heap.IsSliceOf sl vl vu .none)(pl:IsPart vl lo)(pu:IsPart vu hi)
  (h:Q (((sIx n 0 lo:Nat):Int),1,sIx n n hi-sIx n 0 lo) s):wpAny (model prog w) A (Builtin.Slice.sliceApplied (.ref sl) (pure (n:Int))) Q E s:=by
 obtain⟨os,hos,hcs,hds⟩:=id hs;unfold Builtin.Slice.sliceApplied Builtin.Slice.sliceFields;refine A00 (A00 (A2R hos hds (x:=vl) rfl (A00 (A2R hos hds (x:=vu) rfl (A00 (A2R hos hds (x:=.none) rfl (A04 ?_)))))));refine A00 (slicePart_none ?_);show wpAny _ _ (if((1:Int)==0)=true then _ else _) _ _ s
 rw[A0S nofun];refine A00 (slicePart_ pl (A00 (slicePart_ pu (A00 (A04 ?_)))));show wpAny _ _ (match Builtin.Slice.sliceAdjust lo hi 1 (n:Int) with | (lo,hi)=>pure (lo,(1:Int),Builtin.Slice.slicePlaces lo hi 1)) _ _ s
 rw[Uj lo hi n];show wpAny _ _ (pure (((sIx n 0 lo:Nat):Int),(1:Int),Builtin.Slice.slicePlaces ((sIx n 0 lo:Nat):Int) ((sIx n n hi:Nat):Int) 1)) _ _ s;rw[Uf];exact A04 h
theorem Zr (xs:Array Value)(i k:Nat):((List.range k).filterMap λ(m:Nat)=>xs[((i:Int)+(m:Int)*1).toNat]?).toArray=((xs.toList.drop i).take k).toArray:=by
 have e:(λ(m:Nat)=>xs[((i:Int)+(m:Int)*1).toNat]?)=λm=>xs[i+m]?:=by
  funext m;have:((i:Int)+(m:Int)*1).toNat=i+m:=by omega
  rw[this]
 rw[e];have:=pick_run xs i k;rw[List.filterMap_map] at this;have e2:((λx=>xs[x]?)∘λx=>i+x)=λm=>xs[i+m]?:=rfl;rw[e2] at this;rw[this]
theorem getItem_tuple_cut {t sl:Addr}{items:Array Value}{vl vu:Value}{lo hi:Option Int}{Q:Value->Shared->Prop}(ht:IsTup s.heap t items)(hs:s.heap.IsSliceOf sl vl vu .none)(pl:IsPart vl lo)(pu:IsPart vu hi)
  (hw:¬ (sIx items.size 0 lo=0/\sIx items.size items.size hi=items.size))
  (h:Q (.ref s.heap.objs.size) {s with heap:=s.heap.push {cls:=.type "tuple",data:=.seq ((items.toList.drop (sIx items.size 0 lo)).take (sIx items.size items.size hi-sIx items.size 0 lo)).toArray}})
  (hsz:items.size<=sizeLine):wpAny (model prog w) A (getItem (.ref t) (.ref sl)) Q E s:=by
 have htake:sizeOk (.seq ((items.toList.drop (sIx items.size 0 lo)).take (sIx items.size items.size hi-sIx items.size 0 lo)).toArray):=by show((items.toList.drop (sIx items.size 0 lo)).take (sIx items.size items.size hi-sIx items.size 0 lo)).toArray.size<=sizeLine;rw[A0T,A0O,A1G,A4Y];omega
 have hj:sIx items.size items.size hi<=items.size:=ak0 _ _ (A07 _) hi;obtain⟨os,hos,hcs,hds⟩:=id hs;have hTs:s.TypeIs (.ref sl) "slice":=⟨os,hos,hcs⟩;unfold getItem
 try with_reducible refine A1H ?_
 first | refine A00 (A04 ?_) | skip
 refine A00 (wpAny_sequenceKey ht.typeIs nofun ?_)
 refine A00 (A1V (name:=Str.ofString "__getitem__") ht.typeIs A1K
  (A24 A1K ht.typeIs entry_tuple_getitem ?_ (args_tuple_getitem _ _)))
 show wpAny _ _ (Builtin.Tuple.tupleItemsOf (.ref t) >>= _) _ _ s;refine A00 (tupleItemsOf_ ht ?_);refine A00 (A3F hTs ?_);rw[A0W nofun];refine A00 (sliceApplied_gen hs pl pu ?_)
 have hno:¬ ((((sIx items.size 0 lo:Nat):Int)==0&&(1:Int)==1&&(sIx items.size items.size hi-sIx items.size 0 lo)==items.size)=true):=by intro q;rw[A1A,A1A] at q;have q1:((sIx items.size 0 lo:Nat):Int)=0:=eq_of_beq q.1.1;have q2:sIx items.size items.size hi-sIx items.size 0 lo=items.size:=eq_of_beq q.2;exact hw ⟨by omega,by omega⟩
 show wpAny _ _ (if(((sIx items.size 0 lo:Nat):Int)==0&&(1:Int)==1&&(sIx items.size items.size hi-sIx items.size 0 lo)==items.size)=true then _ else _) _ _ s
 rw[A0S hno,Zr]
 first
  |exact A00 (m:=Builtin.Tuple.tupleExact _) (A1L (A04 ⟨_,rfl,A04 h⟩) htake)
  |exact A00 (m:=Builtin.Tuple.tupleExact _) (A1L (A00 (A04 (A04 ⟨_,rfl,A04 h⟩))) htake)
  |exact A00 (A00 (m:=Builtin.Tuple.tupleExact _) (A1L (A04 (A04 ⟨_,rfl,A04 h⟩)) htake))
  |exact A00 (A00 (m:=Builtin.Tuple.tupleExact _) (A1L (A04 ⟨_,rfl,A04 h⟩) htake))
end
end HT
namespace L2
open PySem PySem.Spec PyProof.Rows
abbrev TO:=St->Hp->(Option Int->Hp->Prop)->Prop
def PO (X:Cx)(e:Option Expr)(t:TO):Prop:=
 ∀(pins:List (Addr×Obj)) (s:Shared) (σ:St) (H:Hp) (Q:Option Int->Hp->Prop),Inv X pins σ H s->t σ H Q ->
  wpAny (model X.prog X.w) X.A (evalPart e X.env) (λu s'=>∃ o H',Inv X pins σ H' s'/\IsPart u o/\Q o H') X.xe s
def Vj:TO:=λ_ H Q=>Q none H
def aq9 (t:TE):TO:=fun σ H Q=>t σ H λx H1=>∃ i,x = .int i/\Q (some i) H1
section
variable {X:Cx}{e:Expr}{te:TE}{lo hi:Option Expr}{tl th:TO}{pos p2:Pos}
theorem Ck:PO X none Vj:=by intro pins s σ H Q I h;rw[evalPart_none];exact A04 ⟨none,H,I,.none,h⟩
theorem Az (h:PE X e te):PO X (some e) (aq9 te):=by intro pins s σ H Q I hw;rw[evalPart_some];refine thn (h pins s σ H _ I hw) λu s1 ⟨x,H1,I1,r1,q1⟩=>?_;obtain⟨i,rfl,q⟩:=q1;obtain⟨t,rfl⟩:=r1;exact⟨some i,H1,I1,.int i t,q⟩
def SlR (X:Cx)(r:V->Option Int->Option Int->Hp->VK->Prop):Prop:=
 ∀(pins:List (Addr×Obj)) (s:Shared) (σ:St) (H:Hp) (x:V) (v vl vu:Value) (lo hi:Option Int) (sl:Addr) (Q:VK),Inv X pins σ H s->RelV x v->s.heap.IsSliceOf sl vl vu .none->IsPart vl lo->IsPart vu hi->r x lo hi H Q ->
  ∃ T id,typeLookup (.type T) "__getitem__" = pure (some (.builtin id))/\s.TypeIs v T/\wpAny (model X.prog X.w) X.A (getItem v (.ref sl)) (EP X pins σ Q) X.xe s
theorem SlR.or {r r':V->Option Int->Option Int->Hp->VK->Prop}(h:SlR X r)(h':SlR X r'):SlR X (λx lo hi H Q=>r x lo hi H Q\/r' x lo hi H Q):=by
 intro pins s σ H x v vl vu lo hi sl Q I rx hs pl pu q;rcases q with q|q
 . exact h pins s σ H x v vl vu lo hi sl Q I rx hs pl pu q
 exact h' pins s σ H x v vl vu lo hi sl Q I rx hs pl pu q
def tSl (r:V->Option Int->Option Int->Hp->VK->Prop)(te:TE)(tl th:TO):TE:=fun σ H Q=>te σ H λx H1=>tl σ H1 λl H2=>th σ H2 λu H3=>r x l u H3 Q
theorem Ay {r:V->Option Int->Option Int->Hp->VK->Prop}(hr:SlR X r)(he:PE X e te)(hl:PO X lo tl)(hu:PO X hi th):PE X (.Subscript e (.Slice lo hi none p2) pos) (tSl r te tl th):=by
 intro pins s σ H Q I h;refine Subscript_ (thn (he pins s σ H _ I h) λv s1 ⟨x,H1,I1,r1,q1⟩=>?_);refine wpAny_Slice (thn (hl pins s1 σ H1 _ I1 q1) λvl s2 ⟨l,H2,I2,pl,q2⟩=>thn (hu pins s2 σ H2 _ I2 q2) λvu s3 ⟨u,H3,I3,pu,q3⟩=>?_);rw[evalPart_none];refine A04 ?_;have I4:Inv X pins σ H3 {s3 with heap:=s3.heap.push {cls:=.type "slice",data:=.fields #[vl,vu,.none]}}:=I3.kept (t':=s3.toks) λb ob q=>A03 _ q
 obtain⟨T,id,hT,ht,hg⟩:=hr pins {s3 with heap:=s3.heap.push {cls:=.type "slice",data:=.fields #[vl,vu,.none]}} σ H3 x v vl vu l u s3.heap.objs.size Q I4 r1 (Heap.IsSliceOf.new ..) pl pu q3
 show wpAny (model X.prog X.w) X.A (subscriptTail e (.Slice lo hi none p2) v (.ref s3.heap.objs.size)) (EP X pins σ Q) X.xe {s3 with heap:=s3.heap.push {cls:=.type "slice",data:=.fields #[vl,vu,.none]}}
 exact tail_any (ops:=[.ref s3.heap.objs.size,v]) ht hT hg ⋯
def Kl (xs:List V)(lo hi:Option Int):List V:=(xs.drop (HT.sIx xs.length 0 lo)).take (HT.sIx xs.length xs.length hi-HT.sIx xs.length 0 lo)
theorem Lq (xs:List V)(lo hi:Option Int):(Kl xs lo hi).length<=xs.length:=by unfold Kl;rw[A0O,A1G];omega
def ay4 (K:W.Frag):V->Option Int->Option Int->Hp->VK->Prop:=λx lo hi H Q=>∃ a xs,x = .ref a/\SqT K H a xs /\
 ¬ (HT.sIx xs.length 0 lo=0/\HT.sIx xs.length xs.length hi=xs.length)/\∀ p,H p=none->Q (.ref p) (upd H p (.tup (Kl xs lo hi)))
theorem sl_tup:SlR X (ay4 X.K):=by
 intro pins s σ H x v vl vu lo hi sl Q I rx hs pl pu h;obtain⟨a,xs,rfl,hx,hw,q⟩:=h
 cases rx;obtain⟨its,r,ht,hz⟩:=I.tuple hx;have hlen:its.toArray.size=xs.length:=by rw[A0T];exact r.length.symm
 refine⟨"tuple",_,PyProof.Rows.slot_tuple_getitem.lookup,ht.typeIs,?_⟩;refine HT.getItem_tuple_cut ht hs pl pu (by rw[hlen];exact hw) ?_ (by rw[hlen];exact hz);rw[hlen];refine⟨.ref s.heap.objs.size,_,I.laid (t':=s.toks) (o:=.tup (Kl xs lo hi)) (λb ob q=>A03 _ q) (A07 _) ?_,rfl,q _ (I.hok.fresh (A07 _))⟩;exact⟨A0Q (Lq xs lo hi) hz,_,(r.drop (HT.sIx xs.length 0 lo)).take (HT.sIx xs.length xs.length hi-HT.sIx xs.length 0 lo),IsTupN.new _ _⟩
def ao1 (K:W.Frag):R2:=λx y H Q=>∃ a b xs ys,x = .ref a/\y = .ref b/\SqT K H a xs/\SqT K H b ys/\xs≠[]/\xs.length+ys.length<=sizeLine /\
 (ys=[]->Q (.ref a) H)/\(ys≠[]->∀ p,H p=none->Q (.ref p) (upd H p (.tup (xs++ys))))
theorem Vals.nil_iff {xs:List V}{us:List Value}(r:Vals xs us):us=[]↔xs=[]:=by
 cases r with
 |nil=>simp
 |cons _ _=>simp
theorem op_catT:OpR X (binaryOp .Add) (ao1 X.K):=by
 intro pins s σ H x y v u Q I rx ry h;obtain⟨a,b,xs,ys,rfl,rfl,ha,hb,hx,hz,q1,q2⟩:=h
 cases rx
 cases ry;obtain⟨its,r1,p1,_⟩:=I.tuple ha;obtain⟨its2,r2,p2,_⟩:=I.tuple hb;refine HT.cat_tup p1 p2 (λz=>hx (r1.nil_iff.mp z)) (λz=>⟨.ref a,H,I,rfl,q1 (r2.nil_iff.mp z)⟩) (λz=>?_) (by rw[<- r1.length,<- r2.length];exact hz);refine⟨.ref s.heap.objs.size,_,I.laid (t':=s.toks) (o:=.tup (xs++ys)) (λb ob q=>A03 _ q) (A07 _) ?_,rfl,q2 (λw=>z (r2.nil_iff.mpr w)) _ (I.hok.fresh (A07 _))⟩;exact⟨by rw[A09];exact hz,_,r1.append r2,IsTupN.new _ _⟩
end
def ixN (n:Nat)(i:Int):Option Nat:=if 0<=i then(if i<n then some i.toNat else none) else if -(n:Int)<=i then some (i+n).toNat else none
def atI {α:Type}(xs:List α)(i:Int):Option α:=(ixN xs.length i).bind λj=>xs[j]?
theorem ab6 {n:Nat}{i:Int}{j:Nat}(h:ixN n i=some j):seqIndex? i n=some j/\j<n /\ -(n:Int)<=i/\i<n:=by
 unfold ixN at h
 by_cases h0:0<=i
 . rw[A0W h0] at h
   by_cases h1:i<n
   . rw[A0W h1] at h;have e:i.toNat=j:=A10 h;exact⟨by rw[seqIndex_of h0 h1,e],by omega,by omega,h1⟩
   rw[A0S h1] at h;cases h
 rw[A0S h0] at h
 by_cases h1:-(n:Int)<=i
 . rw[A0W h1] at h;have e:(i+n).toNat=j:=A10 h;exact⟨by rw[seqIndex_neg ∅ h1,e],by omega,h1,by omega⟩
 rw[A0S h1] at h;cases h
theorem Mw {α:Type} {xs:List α} {i:Int} {v:α} (h:atI xs i=some v):∃ j,seqIndex? i xs.length=some j/\xs[j]? = some v/\j<xs.length /\ -(xs.length:Int)<=i/\i<xs.length:=by
 unfold atI at h
 cases e:ixN xs.length i with
 |none=>rw[e] at h;cases h
 |some j=>rw[e] at h;obtain⟨h1,h2,h3,h4⟩:=ab6 e;exact⟨j,h1,h,h2,h3,h4⟩
theorem Dh {α:Type}{xs:List α}{j:Nat}{v:α}(h:xs[j]? = some v):atI xs (j:Int)=some v:=by
 have hj:j<xs.length:=(A02.mp h).1
 have e:ixN xs.length (j:Int)=some j:=by unfold ixN;rw[if_pos ∅,if_pos ∅];simp
 unfold atI;rw[e];exact h
def ag9 (b:Expr):Prop:=∀ o i,subscripted b false o i=operate [o,i] (getItem o i)
def IxR (X:Cx)(r:R2):Prop:=
 ∀(value slice:Expr) (pins:List (Addr×Obj)) (s:Shared) (σ:St) (H:Hp) (x y:V) (v u:Value) (Q:VK),Inv X pins σ H s->RelV x v->RelV y u->r x y H Q ->
  subscripted slice false v u=operate [v,u] (getItem v u)->wpAny (model X.prog X.w) X.A (subscriptTail value slice v u) (EP X pins σ Q) X.xe s
def MtR (X:Cx)(id:String)(r:V->List V->Hp->VK->Prop):Prop:=
 ∀(pins:List (Addr×Obj)) (s:Shared) (σ:St) (H:Hp) (x:V) (xs:List V) (v:Value) (us:List Value) (Q:VK),Inv X pins σ H s->RelV x v->Vals xs us->r x xs H Q ->
  wpAny (model X.prog X.w) X.A (call (.builtin id) (v :: us)) (EP X pins σ Q) X.xe s
section
variable {X:Cx}{a b:Expr}{ta tb:TE}{pos:Pos}
theorem IxR.or {r r':R2}(h:IxR X r)(h':IxR X r'):IxR X (λx y H Q=>r x y H Q\/r' x y H Q):=by
 intro value slice pins s σ H x y v u Q I rx ry q hs;rcases q with q|q
 . exact h value slice pins s σ H x y v u Q I rx ry q hs
 exact h' value slice pins s σ H x y v u Q I rx ry q hs
theorem Ao {r:R2}(hr:IxR X r)(ha:PE X a ta)(hb:PE X b tb)(hs:ag9 b):PE X (.Subscript a b pos) (tOp r ta tb):=by intro pins s σ H Q I h;exact Subscript_ (av5 ha hb I h λv u s2 x y H2 I2 rx ry q=>hr a b pins s2 σ H2 x y v u Q I2 rx ry q (hs _ _))
def az1 (K:W.Frag):R2:=λx y H Q=>∃ p xs i v,x = .ref p/\y = .int i/\SqL K H p xs/\atI xs i=some v/\Q v H
def ay9 (K:W.Frag):R2:=λx y H Q=>∃ p xs i v,x = .ref p/\y = .int i/\SqT K H p xs/\atI xs i=some v/\Q v H
def aA5:R2:=λx y H Q=>∃ z i c,x = .str z/\y = .int i/\z.length<=sizeLine/\atI z.cps.toList i=some c/\Q (.str ⟨#[c]⟩) H
theorem ix_list:IxR X (az1 X.K):=by
 intro value slice pins s σ H x y v u Q I rx ry h hs;obtain⟨p,xs,i,z,rfl,rfl,hq,he,q⟩:=h
 cases rx;obtain⟨t,rfl⟩:=ry;obtain⟨its,r,pl,hz⟩:=I.list hq;obtain⟨j,h1,h2,h3,h4,h5⟩:=Mw he;obtain⟨w,ew,rw'⟩:=r.get h2;have hl:=r.length;have hn:=Pa;have fin:EP X pins σ Q w s:=⟨z,H,I,rw',q⟩
 by_cases h0:0<=i
 . have hj:i.toNat=j:=by rw[seqIndex_of h0 h5] at h1;exact A10 h1
   exact item_listR pl.isList h0 ∅ (by rw[hj];simpa using ew) fin hs
 have hj:(i+(its.toArray.size:Int)).toNat=j:=by rw[seqIndex_neg ∅ h4] at h1;rw[A0T,<- hl];exact A10 h1
 exact subscriptTail_builtinR (x:=w) pl.isList.typeIs slot_list_getitem.lookup
  (wpAny_getItem_list_neg (Q:=λr s'=>r=w/\EP X pins σ Q r s') pl.isList ∅ (by rw[List.size_toArray]<;>omega) ∅ (by rw[hj];simpa using ew) ⟨rfl,fin⟩) hs
theorem ix_tup:IxR X (ay9 X.K):=by
 intro value slice pins s σ H x y v u Q I rx ry h hs;obtain⟨p,xs,i,z,rfl,rfl,hq,he,q⟩:=h
 cases rx;obtain⟨t,rfl⟩:=ry;obtain⟨its,r,pl,hz⟩:=I.tuple hq;obtain⟨j,h1,h2,h3,h4,h5⟩:=Mw he;obtain⟨w,ew,rw'⟩:=r.get h2;have hl:=r.length;have hn:=Pa;have fin:EP X pins σ Q w s:=⟨z,H,I,rw',q⟩
 exact subscriptTail_builtinR (x:=w) pl.typeIs slot_tuple_getitem.lookup
  (getItem_tuple (j:=j) (Q:=λr s'=>r=w/\EP X pins σ Q r s') pl ∅ ∅ (by rw[List.size_toArray,<- hl];exact h1) (by simpa using ew) ⟨rfl,fin⟩) hs
theorem aq8:IxR X aA5:=by
 intro value slice pins s σ H x y v u Q I rx ry h hs;obtain⟨z,i,c,rfl,rfl,hz,he,q⟩:=h;obtain⟨t,rfl⟩:=rx;obtain⟨t',rfl⟩:=ry;obtain⟨j,h1,h2,h3,h4,h5⟩:=Mw he;have hl:z.cps.toList.length=z.length:=by simp[Str.length]
 rw[hl] at h1 h4 h5;have hn:=Pa
 exact tail_any (typeIs_str s z t) slot_str_getitem.lookup (getItem_str (c:=c) (by have e1:decide (i < -(2 ^ 63:Int))=false:=A0X ∅;have e2:decide (i>=2 ^ 63)=false:=A0X ∅;rw[e1,e2,Bool.or_false]) (by rw[h1];simpa using h2) ⟨.str ⟨#[c]⟩,H,I.tok _,⟨_,rfl⟩,q⟩) hs
def rIx (K:W.Frag):R2:=λx y H Q=>az1 K x y H Q\/ay9 K x y H Q\/aA5 x y H Q
theorem ix_seq:IxR X (rIx X.K):=ix_list.or (ix_tup.or aq8)
theorem Pw (lo hi:Option Int) (n:Nat):(sliceBounds lo hi none n).1=((HT.sIx n 0 lo:Nat):Int)/\(sliceBounds lo hi none n).2.1=((HT.sIx n n hi:Nat):Int)/\(sliceBounds lo hi none n).2.2=1:=by
 refine⟨?_,?_,rfl⟩
 . cases lo with
   |none=>simp[sliceBounds,HT.sIx]
   |some i=>
     simp only[sliceBounds,HT.sIx,Option.getD_none,show(1:Int)>0 by decide,if_true]
     by_cases h:i<0
     . simp only[h,if_true]<;>omega
     simp only[h,if_false]<;>omega
 cases hi with
 |none=>simp[sliceBounds,HT.sIx]
 |some i=>
   simp only[sliceBounds,HT.sIx,Option.getD_none,show(1:Int)>0 by decide,if_true]
   by_cases h:i<0
   . simp only[h,if_true]<;>omega
   simp only[h,if_false]<;>omega
theorem Nx (its:List Value)(lo hi:Option Int):slicePick its.toArray lo hi none=((its.drop (HT.sIx its.length 0 lo)).take (HT.sIx its.length its.length hi-HT.sIx its.length 0 lo)).toArray:=by obtain⟨h1,h2,h3⟩:=Pw lo hi its.toArray.size;unfold slicePick;rw[h1,h2,h3];simp only[sliceRange_one,pick_run,List.size_toArray]<;>rfl
def aA8 (K:W.Frag):V->Option Int->Option Int->Hp->VK->Prop:=λx lo hi H Q=>∃ a xs,x = .ref a/\SqL K H a xs/\∀ p,H p=none->Q (.ref p) (upd H p (.lst (Kl xs lo hi)))
theorem sl_list:SlR X (aA8 X.K):=by
 intro pins s σ H x v vl vu lo hi sl Q I rx hs pl pu h;obtain⟨a,xs,rfl,hx,q⟩:=h
 cases rx;obtain⟨its,r,ht,hz⟩:=I.list hx;have hlen:=r.length;refine⟨"list",_,slot_list_getitem.lookup,ht.isList.typeIs,?_⟩;refine wpAny_getItem_list_slice ht.isList hs pl pu .none (by simp) ?_ (by rw[List.size_toArray]<;>omega)
 rw[Nx,<- hlen];refine⟨.ref s.heap.objs.size,_,I.laid (t':=s.toks) (o:=.lst (Kl xs lo hi)) (λb ob q=>A03 _ q) (A07 _) ?_,rfl,q _ (I.hok.fresh (A07 _))⟩;exact⟨A0Q (Lq xs lo hi) hz,_,0,(r.drop (HT.sIx xs.length 0 lo)).take (HT.sIx xs.length xs.length hi-HT.sIx xs.length 0 lo),A0K _ rfl⟩
def Od:V->Bool
 |.non=>true
 |.bl _=>true
 |.int _=>true
 |.str _=>true
 |_=>false
def eqV:V->V->Bool
 |.non,.non=>true
 |.bl a,.bl b=>a==b
 |.bl a,.int b=>(if a then 1 else 0)==b
 |.int a,.bl b=>a==(if b then 1 else 0)
 |.int a,.int b=>a==b
 |.str a,.str b=>a==b
 |_,_=>false
theorem ak5 {A:Around}{s:Shared}{y x:V}{u v:Value}(ry:RelV y u)(rx:RelV x v)(fy:Od y=true)(fx:Od x=true):SeqAt.EqAt A s u v (eqV y x):=by
 cases y with
 |non=>
   cases ry
   cases x with
   |non=>cases rx;exact SeqAt.EqAt.same _
   |bl b=>cases rx;exact SeqAt.EqAt.none_bool b
   |int b=>obtain⟨t,rfl⟩:=rx;exact SeqAt.EqAt.none_int b t
   |str b=>obtain⟨t,rfl⟩:=rx;exact SeqAt.EqAt.none_str b t
   |_=>exact absurd (show false=true from fx) A0C
 |bl a=>
   cases ry
   cases x with
   |non=>cases rx;exact SeqAt.EqAt.bool_none a
   |bl b=>cases rx;exact SeqAt.EqAt.bool_bool a b
   |int b=>obtain⟨t,rfl⟩:=rx;exact SeqAt.EqAt.bool_int a b t
   |str b=>obtain⟨t,rfl⟩:=rx;exact SeqAt.EqAt.bool_str a b t
   |_=>exact absurd (show false=true from fx) A0C
 |int a=>
   obtain⟨t',rfl⟩:=ry
   cases x with
   |non=>cases rx;exact SeqAt.EqAt.int_none a t'
   |bl b=>cases rx;exact SeqAt.EqAt.int_bool a t' b
   |int b=>obtain⟨t,rfl⟩:=rx;exact SeqAt.EqAt.int_int a t' b t
   |str b=>obtain⟨t,rfl⟩:=rx;exact SeqAt.EqAt.int_str a t' b t
   |_=>exact absurd (show false=true from fx) A0C
 |str a=>
   obtain⟨t',rfl⟩:=ry
   cases x with
   |non=>cases rx;exact SeqAt.EqAt.str_none a t'
   |bl b=>cases rx;exact SeqAt.EqAt.str_bool a t' b
   |int b=>obtain⟨t,rfl⟩:=rx;exact SeqAt.EqAt.str_int a t' b t
   |str b=>obtain⟨t,rfl⟩:=rx;exact SeqAt.EqAt.str_str a t' b t
   |_=>exact absurd (show false=true from fx) A0C
 |_=>exact absurd (show false=true from fy) A0C
def eqU (x:V)(u:Value):Bool:=match u with
 |.none=>eqV .non x
 |.bool b=>eqV (.bl b) x
 |.int i _=>eqV (.int i) x
 |.str z _=>eqV (.str z) x
 |_=>false
theorem a09 {x y:V}{u:Value}(r:RelV y u)(f:Od y=true):eqU x u=eqV y x:=by
 cases y with
 |non=>cases r;rfl
 |bl b=>cases r;rfl
 |int i=>obtain⟨t,rfl⟩:=r;rfl
 |str z=>obtain⟨t,rfl⟩:=r;rfl
 |_=>exact absurd (show false=true from f) A0C
theorem L6 {x:V}:∀ {xs:List V} {us:List Value},Vals xs us->xs.all Od=true->us.any (eqU x)=xs.any λy=>eqV y x
 |_,_,.nil,_=>rfl
 |y :: xs,u :: us,.cons r t,f=>by rw[List.all_cons,A1A] at f;rw[A1O,A1O,a09 r f.1,L6 t f.2]
theorem Hy {A:Around}{s:Shared}{x:V}{v:Value}(rx:RelV x v)(fx:Od x=true):∀ {xs:List V} {us:List Value},Vals xs us->xs.all Od=true->∀ u∈us,SeqAt.EqAt A s u v (eqU x u)
 |_,_,.nil,_=>λu hu=>by cases hu
 |y :: xs,u :: us,.cons r t,f=>λu' hu=>by
   rw[List.all_cons,A1A] at f;rcases A0B.mp hu with rfl|hu
   . rw[a09 r f.1];exact ak5 r rx f.1 fx
   exact Hy rx fx t f.2 u' hu
def inV (x:V)(xs:List V):Bool:=xs.any λy=>eqV y x
def rIn (K:W.Frag)(neg:Bool):R2:=λx y H Q=>∃ p xs,y = .ref p/\(SqL K H p xs\/SqT K H p xs)/\Od x=true/\xs.all Od=true/\Q (.bl (if neg then !inV x xs else inV x xs)) H
theorem op_in_seq:OpR X (compareOp .In) (rIn X.K false):=by
 intro pins s σ H x y v u Q I rx ry h;obtain⟨p,xs,rfl,hq,fx,fs,q⟩:=h
 cases ry;rcases hq with hq|hq
 . obtain⟨its,r,pl,hz⟩:=I.list hq;refine SeqAt.in_listAt (eqU x) pl.isList (λw hw=>Hy rx fx r fs w (by simpa using hw)) ⟨.bl _,H,I,rfl,?_⟩;rw[show its.toArray.any (eqU x)=its.any (eqU x) by simp,L6 r fs];exact q
 obtain⟨its,r,pl,hz⟩:=I.tuple hq;refine SeqAt.in_tupleAt (eqU x) pl (λw hw=>Hy rx fx r fs w (by simpa using hw)) ⟨.bl _,H,I,rfl,?_⟩;rw[show its.toArray.any (eqU x)=its.any (eqU x) by simp,L6 r fs];exact q
theorem op_notIn_seq:OpR X (compareOp .NotIn) (rIn X.K true):=by
 intro pins s σ H x y v u Q I rx ry h;obtain⟨p,xs,rfl,hq,fx,fs,q⟩:=h
 cases ry;rcases hq with hq|hq
 . obtain⟨its,r,pl,hz⟩:=I.list hq;refine SeqAt.notIn_listAt (eqU x) pl.isList (λw hw=>Hy rx fx r fs w (by simpa using hw)) ⟨.bl _,H,I,rfl,?_⟩;rw[show its.toArray.any (eqU x)=its.any (eqU x) by simp,L6 r fs];exact q
 obtain⟨its,r,pl,hz⟩:=I.tuple hq;refine SeqAt.notIn_tupleAt (eqU x) pl (λw hw=>Hy rx fx r fs w (by simpa using hw)) ⟨.bl _,H,I,rfl,?_⟩;rw[show its.toArray.any (eqU x)=its.any (eqU x) by simp,L6 r fs];exact q
theorem op_notIn_str:OpR X (compareOp .NotIn) (λx y H Q=>∃ i j,x = .str i/\y = .str j/\Q (.bl (!(!(Builtin.Str.occurrences j i 0 j.length 1).isEmpty))) H):=by intro pins s σ H x y v u Q I rx ry h;obtain⟨i,j,rfl,rfl,q⟩:=h;obtain⟨t,rfl⟩:=rx;obtain⟨t',rfl⟩:=ry;exact notIn_str ⟨.bl _,H,I,rfl,q⟩
theorem CallR.or {f:Value}{r r':List V->Hp->VK->Prop}(h:CallR X f r)(h':CallR X f r'):CallR X f (λxs H Q=>r xs H Q\/r' xs H Q):=by
 intro pins s σ H xs us Q I rs q;rcases q with q|q
 . exact h pins s σ H xs us Q I rs q
 exact h' pins s σ H xs us Q I rs q
theorem Ot:CallR X (.type "list") (λxs H Q=>∃ p ys,xs=[.ref p]/\(SqL X.K H p ys\/SqT X.K H p ys)/\∀ l,H l=none->Q (.ref l) (upd H l (.lst ys))):=by
 intro pins s σ H xs us Q I r h;obtain⟨p,ys,rfl,hq,q⟩:=h;obtain⟨u,rfl,rx⟩:=J7 r
 cases rx
 have fin:∀(its:List Value),Vals ys its->ys.length<=sizeLine->∀(h':Heap) (c':Nat),(∀ b o',s.heap.get? b=some o'->h'.get? b=some o') ->
   h'.get? s.heap.objs.size=some {cls:=.type "list",dict:=none,data:=.seq its.toArray c',slots:=#[]}->EP X pins σ Q (.ref s.heap.objs.size) {s with heap:=h'}:=λits r' hz h' c' kp e=>
  ⟨.ref s.heap.objs.size,_,I.laid (t':=s.toks) kp (A07 _) (show ObjOk X.prog X.w _ h' _ (.lst ys) from⟨hz,its,c',r',e⟩),rfl,q _ (I.hok.fresh (A07 _))⟩
 rcases hq with hq|hq
 . obtain⟨its,r',pl,hz⟩:=I.list hq;have hlen:=r'.length;obtain⟨o,ho,hc,n,hd⟩:=pl.isList;exact call_list_seq p (.inl rfl) ho hc hd (λh' c' kp e=>fin its r' hz h' c' kp e) (by simp only[List.size_toArray]<;>omega)
 obtain⟨its,r',pl,hz⟩:=I.tuple hq;have hlen:=r'.length;obtain⟨o,ho,hc,n,hd⟩:=pl;exact call_list_seq p (.inr rfl) ho hc hd (λh' c' kp e=>fin its r' hz h' c' kp e) (by simp only[List.size_toArray]<;>omega)
theorem Mt:CallR X (.type "tuple") (λxs H Q=>∃ p ys,xs=[.ref p]/\((SqL X.K H p ys/\∀ l,H l=none->Q (.ref l) (upd H l (.tup ys)))\/(SqT X.K H p ys/\Q (.ref p) H))):=by
 intro pins s σ H xs us Q I r h;obtain⟨p,ys,rfl,h⟩:=h;obtain⟨u,rfl,rx⟩:=J7 r
 cases rx;rcases h with ⟨hq,q⟩|⟨hq,q⟩
 . obtain⟨its,r',pl,hz⟩:=I.list hq;have hlen:=r'.length;refine call_tuple_list pl.isList (λh' kp=>?_) (by simp only[List.size_toArray]<;>omega)
   have I1:Inv X pins σ H {s with heap:=h'}:=I.kept (t':=s.toks) kp
   have I2:Inv X pins σ (upd H h'.objs.size (.tup ys)) {s with heap:=h'.push {cls:=.type "tuple",data:=.seq its.toArray}}:=
    I1.laid (t':=s.toks) (λb o e=>A03 _ e) (A07 _) (show ObjOk X.prog X.w _ _ _ (.tup ys) from⟨hz,its,r',IsTupN.new _ _⟩)
   exact⟨.ref h'.objs.size,_,I2,rfl,q _ (I1.hok.fresh (A07 _))⟩
 obtain⟨its,r',pl,hz⟩:=I.tuple hq;exact call_tuple_same pl ⟨.ref p,H,I,rfl,q⟩
def tyV (K:W.Frag)(T:String)(x:V)(H:Hp):Prop:=match x with
 |.str _=>T = "str"
 |.int _=>T = "int"
 |.ref p=>(T = "list" /\ ∃ xs,SqL K H p xs)\/(T = "tuple" /\ ∃ o,K.lookup p=some o/\o.cls = .type "tuple" /\ o.dict=none) \/
   (T = "dict" /\ ((∃ kvs,H p=some (.dK kvs))\/∃ kvs,H p=some (.dT kvs)))\/(T = "set" /\ ∃ S n,H p=some (.set S n))
 |_=>False
theorem a02 {pins:List (Addr×Obj)}{σ:St}{H:Hp}{s:Shared}{T:String}{x:V}{v:Value}(I:Inv X pins σ H s)(r:RelV x v)(ty:tyV X.K T x H) :
  s.TypeIs v T/\∀ a,v = .ref a->∃ ob,s.heap.get? a=some ob/\ob.dict=none:=by
 cases x with
 |str z=>
   obtain⟨t,rfl⟩:=r
   cases (show T = "str" from ty);exact⟨typeIs_str s z t,λ_ e=>nomatch e⟩
 |int i=>
   obtain⟨t,rfl⟩:=r
   cases (show T = "int" from ty);exact⟨typeIs_int s i t,λ_ e=>nomatch e⟩
 |ref p=>
   cases r;rcases ty with ⟨rfl,xs,hq⟩|⟨rfl,o,hk,hc,hd⟩|⟨rfl,hk⟩|⟨rfl,S,n,hk⟩
   . obtain⟨its,_,pl,_⟩:=I.list hq;refine⟨pl.isList.typeIs,λa e=>?_⟩
     cases e;obtain⟨o,n,e,c,hd,_⟩:=pl;exact⟨o,e,hd⟩
   . refine⟨⟨o,I.kIn p o hk,hc⟩,λa e=>?_⟩
     cases e;exact⟨o,I.kIn _ o hk,hd⟩
   . have z:∃ o,s.heap.get? p=some o/\o.ExactDict:=by
      rcases hk with ⟨kvs,hk⟩|⟨kvs,hk⟩
      . obtain⟨_,_,_,_,o,_,_,e,ex,_⟩:=I.hok p _ hk;exact⟨o,e,ex⟩
      obtain⟨_,_,_,_,o,_,_,e,ex,_⟩:=I.hok p _ hk;exact⟨o,e,ex⟩
     obtain⟨o,e,ex⟩:=z;refine⟨⟨o,e,ex.1⟩,λa e2=>?_⟩
     cases e2;exact⟨o,e,ex.2.1⟩
   obtain⟨o,_,_,_,e,ex,_⟩:=I.hok p _ hk;refine⟨⟨o,e,ex.1⟩,λa e2=>?_⟩
   cases e2;exact⟨o,e,ex.2.1⟩
 |_=>exact False.elim ty
def ax1 (K:W.Frag)(T:String)(r:V->List V->Hp->VK->Prop)(to:TE):TE:=fun σ H Q=>to σ H λx H1=>tyV K T x H1/\r x [] H1 Q
def tBM (K:W.Frag)(T:String)(r:V->List V->Hp->VK->Prop)(to:TE)(t:TA):TE:=fun σ H Q=>to σ H λx H1=>tyV K T x H1/\t σ H1 λxs H2=>r x xs H2 Q
variable {o e:Expr}{es:List Expr}{to:TE}{t:TA}{name:Str}{apos cpos:Pos}{T id:String}{r:V->List V->Hp->VK->Prop}
theorem ao7 (pa:PlainAttrs T)(slot:Slot T name id)(hty:typeOf (.builtin id)=pure (.type "method_descriptor"))(hm:MtR X id r)(ho:PE X o to)
  (hbase:attributeBase o name X.env (eval o X.env)=eval o X.env:=by ac_nf) (hline:(apos.endLine==cpos.line)=true:=by ac_nf):PE X (.Call (.Attribute o name apos) [] [] cpos) (ax1 X.K T r to):=by
 intro pins s σ H Q I h;refine wpAny_Call_method0_late hbase hline (thn (ho pins s σ H _ I h) λv s1 ⟨x,H1,I1,r1,ty,q1⟩=>?_);obtain⟨h1,h2⟩:=a02 I1 r1 ty;exact⟨T,id,pa,slot,hty,h1,h2,A3C rfl (PySem.evalArgs_none (hm pins s1 σ H1 x [] v [] Q I1 r1 .nil q1))⟩
theorem av0 (pa:PlainAttrs T)(slot:Slot T name id)(hty:typeOf (.builtin id)=pure (.type "method_descriptor"))(hm:MtR X id r)(ho:PE X o to)(ha:PA X (e :: es) t)
  (hbase:attributeBase o name X.env (eval o X.env)=eval o X.env:=by ac_nf)
  (hfew:((backTo cpos (starEach (e :: es) X.env)).all (λx=>!x.1)&&(backToKw cpos (keywordEach [] X.env)).all (λx=>x.1.isSome)
   && decide ((e :: es).length+([]:List Keyword).length+(if([]:List Keyword).isEmpty then 0 else 1)<30))=true:=by ac_nf)
  (hline:(apos.endLine==cpos.line)=true:=by ac_nf) (hs:starEach (e :: es) X.env=(false,eval e X.env) :: starEach es X.env:=by ac_nf) (hplain:(backTo cpos (starEach es X.env)).any (·.1)=false:=by ac_nf) :
  PE X (.Call (.Attribute o name apos) (e :: es) [] cpos) (tBM X.K T r to t):=by
 intro pins s σ H Q I h;refine wpAny_Call_method_late hbase hfew hline rfl (thn (ho pins s σ H _ I h) λv s1 ⟨x,H1,I1,r1,ty,q1⟩=>?_);obtain⟨h1,h2⟩:=a02 I1 r1 ty;refine⟨T,id,pa,slot,hty,h1,h2,?_⟩;have hA:=ha cpos pins s1 σ H1 _ I1 q1;rw[hs] at hA ⊢;refine A3C (by show(false||(backTo cpos (starEach es X.env)).any (·.1))=false;rw[hplain]<;>rfl) (A4S ?_)
 exact thn hA λus s2 ⟨vs,H2,I2,r2,q2⟩=>hm pins s2 σ H2 x vs v us Q I2 r1 r2 q2
/- xs.append(e),list.index on a module's tuple .. are MtR facts of 06m -/
end
def MtM (X:Cx)(id:String)(r:V->List V->Hp->VK->Prop):Prop:=
 ∀(pins:List (Addr×Obj)) (s:Shared) (σ:St) (H:Hp) (x:V) (xs:List V) (v:Value) (us:List Value) (Q:VK),Inv X pins σ H s->RelV x v->Vals xs us->r x xs H Q ->
  wpAny (model X.prog X.w) X.A (call (.builtin id) (v :: us)) (EP X pins σ Q) X.xe s
theorem Vals.one {x:V}{us:List Value}(h:Vals [x] us):∃ u,us=[u]/\RelV x u:=by
 cases h with
 |cons r q=>cases q;exact⟨_,rfl,r⟩
theorem Vals.two {x y:V}{us:List Value}(h:Vals [x,y] us):∃ u v,us=[u,v]/\RelV x u/\RelV y v:=by
 cases h with
 |cons r q=>obtain⟨u,rfl,q'⟩:=Vals.one q;exact⟨_,_,rfl,r,q'⟩
theorem Vals.zero:∀ {us:List Value},Vals [] us->us=[]
 |_,.nil=>rfl
theorem Vals.eraseIdx:∀ {xs:List V} {us:List Value} (i:Nat),Vals xs us->Vals (xs.eraseIdx i) (us.eraseIdx i)
 |_,_,_,.nil=>.nil
 |_,_,0,.cons _ t=>t
 |_,_,i+1,.cons r t=>.cons r (Vals.eraseIdx i t)
theorem Vals.reverse {xs:List V}{us:List Value}(h:Vals xs us):Vals xs.reverse us.reverse:=by
 induction h with
 |nil=>exact .nil
 |cons r t ih=>rw[List.reverse_cons,List.reverse_cons];exact Vals.append ih (.cons r .nil)
theorem Vals.rep {xs:List V}{us:List Value}(h:Vals xs us):∀ k:Nat,Vals (List.replicate k xs).flatten (List.replicate k us).flatten
 |0=>.nil
 |k+1=>by rw[A2H,A2H,A3Y,A3Y];exact Vals.append h (Vals.rep h k)
theorem Qc {α:Type}:∀(l:List α) (i:Nat),(l.eraseIdx i).length<=l.length
 | [],_=>A07 _
 |_ :: _,0=>A44 _
 |_ :: r,i+1=>Nat.succ_le_succ (Qc r i)
theorem Po (its:List Value):∀(k:Nat) (acc:List Value),
  List.foldl (λx1 x2=>x1++x2) acc.toArray (List.replicate k its.toArray)=(acc++(List.replicate k its).flatten).toArray
 |0,acc=>by simp
 |k+1,acc=>by
   have e:acc.toArray++its.toArray=(acc++its).toArray:=by simp
   have e2:(acc++its)++(List.replicate k its).flatten=acc++(List.replicate (k+1) its).flatten:=by rw[A2H,A3Y,A1Y]
   rw[<- e2,<- Po its k (acc++its),<- e,A2H,A20]
section
variable {X:Cx}{pins:List (Addr×Obj)}{σ:St}{H:Hp}{s:Shared}{l b:Addr}{xs ys zs:List V}
theorem Inv.lset {its its':List Value}{n:Nat}{f:Array Value->Array Value}{t':Nat}(I:Inv X pins σ H s)(hH:H l=some (.lst xs))
  (e:s.heap.get? l=some {cls:=.type "list",data:=.seq its.toArray n}) (hf:f its.toArray=its'.toArray) (hv:Vals ys its') (hz:ys.length<=sizeLine) :
  Inv X pins σ (upd H l (.lst ys)) {s with heap:=s.heap.update l (Obj.mapSeq f),toks:=t'}:=by
 have q:=PySem.IsL.update e f;rw[hf] at q;refine I.write (x:=l) (e:=l) (by rw[hH];exact trivial) (.inl rfl) (λb' u hb hu=>(A1Q s.heap (Obj.mapSeq f) (Ne.symm hb)).trans hu) ⟨_,q⟩ ?_;exact⟨hz,its',_,hv,q⟩
theorem Inv.lnew {its:List Value}{t':Nat}(I:Inv X pins σ H s)(hv:Vals ys its)(hz:ys.length<=sizeLine) :
  Inv X pins σ (upd H s.heap.objs.size (.lst ys)) {s with heap:=s.heap.push {cls:=.type "list",data:=.seq its.toArray},toks:=t'}:=
 I.laid (λ_ _ q=>A03 _ q) (A07 _) ⟨hz,its,0,hv,A0K _ rfl⟩
theorem Inv.fresh (I:Inv X pins σ H s):H s.heap.objs.size=none:=I.hok.fresh (A07 _)
theorem Inv.lstM (I:Inv X pins σ H s)(hH:H l=some (.lst xs)):xs.length<=sizeLine/\∃(its:List Value) (n:Nat),Vals xs its/\xs.length=its.length/\s.heap.get? l=some {cls:=.type "list",data:=.seq its.toArray n}:=by obtain⟨z,its,n,r,e⟩:=I.hok l _ hH;exact⟨z,its,n,r,r.length,e⟩
theorem Ta {n:Nat}(h:n<=sizeLine):Builtin.List.listTooLong n=false:=by unfold Builtin.List.listTooLong;exact A0X ∅
end
section
variable {X:Cx}
def Wu:V->List V->Hp->VK->Prop:=λx vs H Q=>∃ l xs y,x = .ref l/\vs=[y]/\H l=some (.lst xs)/\xs.length<sizeLine/\Q .non (upd H l (.lst (xs++[y])))
theorem Jg:MtM X "list.append" Wu:=by
 intro pins s σ H x vs v us Q I rx rv h;obtain⟨l,xs,y,rfl,rfl,hH,hz,q⟩:=h
 cases rx;obtain⟨u,rfl,ru⟩:=rv.one;obtain⟨z,its,n,r,hl,e⟩:=I.lstM hH;refine A3N F.slot_list_append ⟨_,e,rfl⟩ F.entry_list_append (F.args_list_append_2 _ _) (PySem.list_append l its.toArray n u (by rw[A0T];omega)) ⟨e,?_⟩;refine⟨.non,_,I.lset (its':=its++[u]) hH e (by simp) (r.append (.cons ru .nil)) ?_,rfl,q⟩;rw[A09,A13];omega
def Wr:V->List V->Hp->VK->Prop:=λx vs H Q=>∃ l b xs zs,x = .ref l/\vs=[.ref b]/\H l=some (.lst xs)/\H b=some (.lst zs)/\xs.length+zs.length<=sizeLine/\Q .non (upd H l (.lst (xs++zs)))
theorem Hl:MtM X "list.extend" Wr:=by
 intro pins s σ H x vs v us Q I rx rv h;obtain⟨l,b,xs,zs,rfl,rfl,hH,hB,hz,q⟩:=h
 cases rx;obtain⟨u,rfl,ru⟩:=rv.one
 cases ru;obtain⟨z,its,n,r,hl,e⟩:=I.lstM hH;obtain⟨z2,its2,n2,r2,hl2,e2⟩:=I.lstM hB;have hsz:its.toArray.size+its2.toArray.size<=sizeLine:=by rw[A0T,A0T];omega
 have hlong:¬ (!its.toArray.isEmpty&&Builtin.List.listTooLong (its.toArray.size+its2.toArray.size))=true:=by rw[Ta hsz,Bool.and_false];exact A0C
 refine A3N F.slot_list_extend ⟨_,e,rfl⟩ F.entry_list_extend (F.args_list_extend_2 _ _)
  (AutoSeq1.list_extend_list_list_0 l its.toArray n b its2.toArray n2 hlong (by rw[A0T];omega) ∅) ⟨e,e2,?_⟩
 refine⟨.non,_,I.lset (its':=its++its2) hH e (by simp) (r.append r2) ?_,rfl,q⟩;rw[A09];omega
def a08:V->List V->Hp->VK->Prop:=λx vs H Q=>∃ l xs i k y,x = .ref l/\vs=[.int i]/\H l=some (.lst xs) /\ -(2 ^ 63)<=i/\i<2 ^ 63/\seqIndex? i xs.length=some k/\xs[k]? = some y/\Q y (upd H l (.lst (xs.eraseIdx k)))
theorem Z4:MtM X "list.pop" a08:=by
 intro pins s σ H x vs v us Q I rx rv h;obtain⟨l,xs,i,k,y,rfl,rfl,hH,h1,h2,hk,hy,q⟩:=h
 cases rx;obtain⟨u,rfl,ru⟩:=rv.one;obtain⟨t,rfl⟩:=ru;obtain⟨z,its,n,r,hl,e⟩:=I.lstM hH;obtain⟨w,hw,rw'⟩:=r.get hy
 refine A3N F.slot_list_pop ⟨_,e,rfl⟩ F.entry_list_pop (F.args_list_pop_2 _ _)
  (MeetsSeq.list_pop_at l its.toArray n i t k w (fitsIndex_both h1 h2) (by rw[A0T,<- hl];exact hk) (by rw[<- Array.getElem?_toList];exact hw) (by rw[A0T];omega)) ⟨e,?_⟩
 refine⟨y,_,I.lset (its':=its.eraseIdx k) hH e ?_ (r.eraseIdx k) ?_,rw',q⟩
 . show its.toArray.eraseIdxIfInBounds k=(its.eraseIdx k).toArray;rw[List.eraseIdxIfInBounds_toArray]
 have:=Qc xs k;omega
def Tc:V->List V->Hp->VK->Prop:=λx vs H Q=>∃ l xs,x = .ref l/\vs=[]/\H l=some (.lst xs)/\Q .non (upd H l (.lst xs.reverse))
theorem Tv:MtM X "list.reverse" Tc:=by
 intro pins s σ H x vs v us Q I rx rv h;obtain⟨l,xs,rfl,rfl,hH,q⟩:=h
 cases rx;have hus:=rv.zero;subst hus;obtain⟨z,its,n,r,hl,e⟩:=I.lstM hH;refine A3N F.slot_list_reverse ⟨_,e,rfl⟩ F.entry_list_reverse (F.args_list_reverse_1 _) (AutoSeq1.list_reverse_list_0 l its.toArray n (by rw[A0T];omega)) ⟨e,?_⟩;refine⟨.non,_,I.lset (its':=its.reverse) hH e (by simp) r.reverse ?_,rfl,q⟩;rw[List.length_reverse];omega
def az4:R2:=λx y H Q=>∃ l b xs zs,x = .ref l/\y = .ref b/\H l=some (.lst xs)/\H b=some (.lst zs)/\xs.length+zs.length<=sizeLine/\∀ p,H p=none->Q (.ref p) (upd H p (.lst (xs++zs)))
theorem op_cat:OpR X (binaryOp .Add) az4:=by
 intro pins s σ H x y v u Q I rx ry h;obtain⟨l,b,xs,zs,rfl,rfl,hH,hB,hz,q⟩:=h
 cases rx
 cases ry;obtain⟨z,its,n,r,hl,e⟩:=I.lstM hH;obtain⟨z2,its2,n2,r2,hl2,e2⟩:=I.lstM hB;refine PySem.P.add_list e e2 ?_ (by rw[A0T,A0T];omega);have ea:its.toArray++its2.toArray=(its++its2).toArray:=by simp
 rw[ea];exact⟨.ref _,_,I.lnew (t':=s.toks) (r.append r2) (by rw[A09];omega),rfl,q _ I.fresh⟩
def aA0:R2:=λx y H Q=>∃ l k xs,x = .ref l/\y = .int k/\H l=some (.lst xs) /\ -(2 ^ 63)<=k/\k<2 ^ 63/\xs.length*k.toNat<=sizeLine /\
 ∀ p,H p=none->Q (.ref p) (upd H p (.lst (List.replicate k.toNat xs).flatten))
theorem a76 {α:Type}(xs:List α)(k:Nat):(List.replicate k xs).flatten.length=k*xs.length:=by
 induction k with
 |zero=>simp
 |succ k ih=>rw[A2H,A3Y,A09,ih,Nat.succ_mul,Nat.add_comm]
theorem am7:OpR X (binaryOp .Mult) aA0:=by
 intro pins s σ H x y v u Q I rx ry h;obtain⟨l,k,xs,rfl,rfl,hH,h1,h2,hz,q⟩:=h
 cases rx;obtain⟨t,rfl⟩:=ry;obtain⟨z,its,n,r,hl,e⟩:=I.lstM hH;have hlen:its.toArray.size*k.toNat<=sizeLine:=by rw[A0T,<- hl];exact hz
 have hcap:¬ its.toArray.size*k.toNat>(2 ^ 63-1) / 8:=by
  have:(sizeLine:Nat)<=(2 ^ 63-1) / 8:=by decide
  omega
 have hfit:¬ (!Builtin.List.listFitsIndex k)=true:=by rw[fitsIndex_both h1 h2];exact A0C
 have hlong:¬ Builtin.List.listTooLong (its.toArray.size*k.toNat)=true:=by rw[Ta hlen];exact A0C
 have hnew:List.foldl (λx1 x2=>x1++x2) #[] (List.replicate (if its.toArray.isEmpty=true then 0 else k.toNat) its.toArray)=(List.replicate k.toNat its).flatten.toArray:=by
  have f0:∀ m:Nat,List.foldl (λx1 x2=>x1++x2) #[] (List.replicate m its.toArray)=(List.replicate m its).flatten.toArray:=λm=>by have:=Po its m [];rw[A4F] at this;exact this
  rw[f0]
  cases its with
  |nil=>simp
  |cons a r'=>rw[if_neg (by simp)]
 refine wpAny_binaryOp_repeat_ref (T:="list") (U:="int") nofun ⟨_,e,rfl⟩ (λs'=>typeIs_int s' k t) noFill_list_mul F.fills_int_mul F.slot_int_rmul repeat_list F.slot_int_index.lookup
  (A3N F.slot_int_rmul (typeIs_int s k t) F.entry_int_rmul (F.args_int_rmul_2 _ _) (int___rmul___int_list k t l its.toArray n)
   ⟨e,rfl,⟨_,e,rfl⟩,A3N F.slot_list_mul ⟨_,e,rfl⟩ F.entry_list_mul (F.args_list_mul_2 _ _) (AutoListH.list___mul___list_int_3 l its.toArray n k t hfit hcap hlong) ⟨e,?_⟩⟩)
 rw[hnew];exact⟨.ref _,_,I.lnew (t':=s.toks) (r.rep k.toNat) (by rw[a76,A4G];exact hz),rfl,q _ I.fresh⟩
end
section
variable {prog:Program}{w:World}{A:Around}{E:Value->Shared->Prop}{s:Shared}
set_option maxRecDepth 100000 in
end
section
variable {X:Cx}
end
section
variable {κ:Type}[DecidableEq κ]
def Cy (kvs:List (κ×V))(k:κ):Option V:=(kvs.find? λkv=>decide (kv.1=k)).map (·.2)
def Ea (kvs:List (κ×V))(k:κ)(v:V):List (κ×V):=
 if(kvs.any λkv=>decide (kv.1=k))=true then kvs.map (λkv=>if kv.1=k then(kv.1,v) else kv) else kvs++[(k,v)]
theorem Yv {k:κ}:Cy ([]:List (κ×V)) k=none:=rfl
theorem Bj {p:κ×V} {r:List (κ×V)} {k:κ} (e:p.1=k):Cy (p :: r) k=some p.2:=by simp[Cy,List.find?_cons,e]
theorem Bk {p:κ×V}{r:List (κ×V)}{k:κ}(e:¬ p.1=k):Cy (p :: r) k=Cy r k:=by simp[Cy,List.find?_cons,e]
theorem Fs (k:κ):∀ kvs:List (κ×V),(kvs.any λkv=>decide (kv.1=k))=(Cy kvs k).isSome
 | []=>rfl
 |p :: r=>by
   rw[A1O]
   by_cases e:p.1=k
   . simp only[Bj e,decide_eq_true e,Bool.true_or,Option.isSome_some]
   rw[Bk e,A0X e,A34];exact Fs k r
theorem So (k j:κ)(y:V):∀ kvs:List (κ×V),Cy (kvs.map λkv=>if kv.1=k then(kv.1,y) else kv) j=(Cy kvs j).map λx=>if j=k then y else x
 | []=>rfl
 |p :: r=>by
   have ih:=So k j y r;rw[A0G]
   by_cases h:p.1=k
   . rw[A0W h]
     by_cases e:p.1=j
     . rw[Bj (p:=(p.1,y)) e,Bj e,A4H,A0W (e.symm.trans h)]
     rw[Bk (p:=(p.1,y)) e,Bk e,ih]
   rw[A0S h]
   by_cases e:p.1=j
   . rw[Bj (p:=p) e,Bj e,A4H,A0S (λz=>h (e.trans z))]
   rw[Bk (p:=p) e,Bk e,ih]
theorem Pt (k j:κ)(y:V):∀ kvs:List (κ×V),Cy kvs k=none->Cy (kvs++[(k,y)]) j=if j=k then some y else Cy kvs j
 | [],_=>by
   by_cases e:k=j
   . rw[A0W e.symm];exact Bj (p:=(k,y)) e
   rw[A0S (λz=>e z.symm)];exact Bk (p:=(k,y)) e
 |p :: r,hn=>by
   rw[List.cons_append];have hk:¬ p.1=k:=λz=>by rw[Bj z] at hn;cases hn
   rw[Bk hk] at hn;have ih:=Pt k j y r hn
   by_cases e:p.1=j
   . rw[Bj e,Bj e,A0S (λz=>hk (e.trans z))]
   rw[Bk e,Bk e,ih]
theorem Kj (kvs:List (κ×V))(k j:κ)(y:V):Cy (Ea kvs k y) j=if j=k then some y else Cy kvs j:=by
 unfold Ea
 by_cases a:(kvs.any λkv=>decide (kv.1=k))=true
 . rw[A0W a,So];rw[Fs] at a
   by_cases e:j=k
   . obtain⟨x,hx⟩:=Option.isSome_iff_exists.mp a;rw[A0W e,e,hx,A4H,A0W rfl]
   rw[A0S e]
   cases Cy kvs j with
   |none=>rfl
   |some x=>rw[A4H,A0S e]
 rw[A0S a];refine Pt k j y kvs ?_;rw[Fs] at a
 cases q:Cy kvs k with
 |none=>rfl
 |some x=>rw[q] at a;exact(a rfl).elim
theorem Fk (kvs:List (κ×V))(k:κ)(v:V):(Ea kvs k v).length<=kvs.length+1:=by
 unfold Ea
 split
 . rw[A01];omega
 rw[A09,A0L,A35];omega
theorem J3 {kvs:List (κ×V)}{k:κ}(v:V)(h:Cy kvs k=none):Ea kvs k v=kvs++[(k,v)]:=by unfold Ea;rw [Fs,h];exact A0S nofun
theorem RelO.isSome_eq {o:Option V}{u:Option Value}(r:RelO o u):o.isSome=u.isSome:=by
 cases o with
 |none=>cases u with
   |none=>rfl
   |some _=>exact(show False from r).elim
 |some _=>cases u with
   |none=>exact(show False from r).elim
   |some _=>rfl
theorem RelO.getD {o:Option V}{u:Option Value}{d:V}{d':Value}(r:RelO o u)(rd:RelV d d'):RelV (o.getD d) (u.getD d'):=by
 cases o with
 |none=>cases u with
   |none=>exact rd
   |some _=>exact(show False from r).elim
 |some _=>cases u with
   |none=>exact(show False from r).elim
   |some _=>exact r
theorem KV.val {kvs:List (κ×V)} {vs:List (κ×Value)} (r:KV kvs vs) (k:κ):RelO (Cy kvs k) (valueAt vs k):=by
 unfold KV at r
 induction r with
 |nil=>exact A23
 |@cons p q ps qs h t ih=>
   obtain⟨h1,h2⟩:=h
   by_cases e:p.1=k
   . have e':q.1=k:=h1.symm.trans e;have b:valueAt (q :: qs) k=some q.2:=by simp[valueAt,List.find?_cons,e']
     rw[Bj e,b];exact h2
   have e':¬ q.1=k:=λz=>e (h1.trans z);have b:valueAt (q :: qs) k=valueAt qs k:=by simp[valueAt,List.find?_cons,e']
   rw[Bk e,b];exact ih
theorem KV.any {kvs:List (κ×V)}{vs:List (κ×Value)}(r:KV kvs vs)(k:κ):(kvs.any λkv=>decide (kv.1=k))=vs.any λkv=>decide (kv.1=k):=by
 unfold KV at r
 induction r with
 |nil=>rfl
 |cons h t ih=>rw[A1O,A1O,ih,h.1]
theorem KV.repl {kvs:List (κ×V)}{vs:List (κ×Value)}(r:KV kvs vs)(k:κ){y:V}{u:Value}(ry:RelV y u) :
  KV (kvs.map λkv=>if kv.1=k then(kv.1,y) else kv) (vs.map λkv=>if kv.1=k then(kv.1,u) else kv):=by
 unfold KV at r ⊢
 induction r with
 |nil=>exact .nil
 |@cons p q ps qs h t ih=>
   rw[A0G,A0G];refine .cons ?_ ih;obtain⟨h1,h2⟩:=h
   by_cases e:p.1=k
   . rw[A0W e,A0W (h1.symm.trans e)];exact⟨h1,ry⟩
   rw[A0S e,A0S (λz=>e (h1.trans z))];exact⟨h1,h2⟩
theorem KV.put {kvs:List (κ×V)}{vs:List (κ×Value)}(r:KV kvs vs)(k:κ){y:V}{u:Value}(ry:RelV y u):KV (Ea kvs k y) (stored vs k u):=by
 unfold Ea stored;rw[r.any k]
 by_cases e:(vs.any λkv=>decide (kv.1=k))=true
 . rw[A0W e,A0W e];exact r.repl k ry
 rw[A0S e,A0S e];exact Paired.snoc r ⟨rfl,ry⟩
theorem KV.length {kvs:List (κ×V)}{vs:List (κ×Value)}(r:KV kvs vs):kvs.length=vs.length:=A25 r
end
theorem Pc {P:Program}{w:World}{k:Key}{u:Value}(r:RelV (kV k) u):(Ax P w).is k u=true:=by
 cases k with
 |inl i=>obtain⟨t,e⟩:=(show ∃ t,u=Value.int i t from r);subst e;exact Ro P w i t
 |inr x=>obtain⟨t,e⟩:=(show ∃ t,u=Value.str x t from r);subst e;exact Rh P w x t
theorem La {P:Program}{w:World}:∀ {ks:List Key} {us:List Value},Vals (ks.map kV) us->ItemsAre (Ax P w) ks us
 | [],_,r=>by rw[List.map_nil] at r;cases r;exact .nil
 |k :: ks,_,r=>by
   rw[A0G] at r
   cases r with
   |cons h t=>exact .cons (Pc h) (La t)
abbrev KT (H:Hp):List (List Key×V)->List (List Key×Addr×Value)->Prop:=Paired λp q=>p.1=q.1/\H q.2.1=some (.tup (p.1.map kV))/\RelV p.2 q.2.2
theorem KT.val {H:Hp}{kvs:List (List Key×V)}{xs:List (List Key×Addr×Value)}(r:KT H kvs xs)(k:List Key):RelO (Cy kvs k) ((atKey xs k).map (·.2)):=by
 induction r with
 |nil=>exact A23
 |@cons p q ps qs h t ih=>
   obtain⟨h1,_,h2⟩:=h
   by_cases e:p.1=k
   . have e':q.1=k:=h1.symm.trans e;have b:atKey (q :: qs) k=some q.2:=by simp[atKey,List.find?_cons,e']
     rw[Bj e,b];exact h2
   have e':¬ q.1=k:=λz=>e (h1.trans z);have b:atKey (q :: qs) k=atKey qs k:=by simp[atKey,List.find?_cons,e']
   rw[Bk e,b];exact ih
theorem KT.repl {H:Hp} {kvs:List (List Key×V)} {xs:List (List Key×Addr×Value)} (r:KT H kvs xs) (k:List Key) {y:V} {u:Value} (ry:RelV y u) :
  KT H (kvs.map λkv=>if kv.1=k then(kv.1,y) else kv) (xs.map (putAt k u)):=by
 induction r with
 |nil=>exact .nil
 |@cons p q ps qs h t ih=>
   rw[A0G,A0G];refine .cons ?_ ih;obtain⟨h1,h2,h3⟩:=h;unfold putAt
   by_cases e:p.1=k
   . rw[A0W e,A0W (h1.symm.trans e)];exact⟨h1,h2,ry⟩
   rw[A0S e,A0S (λz=>e (h1.trans z))];exact⟨h1,h2,h3⟩
theorem KT.put {H:Hp}{kvs:List (List Key×V)}{xs:List (List Key×Addr×Value)}(r:KT H kvs xs)(k:List Key){b:Addr}{y:V}{u:Value}(hb:H b=some (.tup (k.map kV)))(ry:RelV y u) :
  KT H (Ea kvs k y) (storedH xs k b u):=by
 have e:(kvs.any λkv=>decide (kv.1=k))=(atKey xs k).isSome:=by rw[Fs,(r.val k).isSome_eq,Option.isSome_map]
 unfold Ea storedH;rw[e]
 by_cases q:(atKey xs k).isSome=true
 . rw[A0W q,A0W q];exact r.repl k ry
 rw[A0S q,A0S q];exact Paired.snoc r ⟨rfl,hb,ry⟩
theorem KT.keeps {H H':Hp}{kvs:List (List Key×V)}{xs:List (List Key×Addr×Value)}(r:KT H kvs xs)(ht:∀ b ys,H b=some (.tup ys)->H' b=some (.tup ys)):KT H' kvs xs:=
 Paired.mapP r λ_ _ z=>⟨z.1,ht _ _ z.2.1,z.2.2⟩
section
variable {P:Program}{w:World}{H:Hp}{h:Heap}{a:Addr}
theorem al0 {u:HO}(ok:HOk P w H h)(e:Rd H a u):ObjOk P w H h a u:=e.ok ok
theorem Ov {kvs:List (Key×V)}(ok:HOk P w H h)(e:Rd H a (.dK kvs)):kvs.length<=sizeLine/\(a==sysModules)=false/\∃ vs,KV kvs vs/\h.DictOf (Ax P w) a vs:=
 show ObjOk P w H h a (.dK kvs) from al0 ok e
theorem Qs {kvs:List (Key×V)}(ok:HOk P w H h)(e:H a=some (.dK kvs)):kvs.length<=sizeLine/\(a==sysModules)=false/\∃ vs,KV kvs vs/\h.DictOf (Ax P w) a vs:=Ov ok (.inl e)
theorem K6 {ks:List Key}(ok:HOk P w H h)(e:H a=some (.tup (ks.map kV))):(tupleKind (Ax P w)).is h ks a:=by obtain⟨_,its,r,o,h1,h2,⟨n,h3⟩,_⟩:=(show ObjOk P w H h a (.tup (ks.map kV)) from ok a _ e);exact⟨o,its.toArray,n,h1,h2,h3,by simpa using La r⟩
theorem Mr {kvs:List (List Key×V)}(ok:HOk P w H h)(e:Rd H a (.dT kvs)):kvs.length<=sizeLine/\(a==sysModules)=false /\
  ∃ xs,KT H kvs xs/\h.DictOfH (tupleKind (Ax P w)) a xs:=by
 obtain⟨z,y,xs,r,o,es,ep,h1,h2,h3,h4,h5⟩:=(show ObjOk P w H h a (.dT kvs) from al0 ok e);refine⟨z,y,xs,r,o,es,ep,h1,h2,h3,h4,λx hx=>?_,h5⟩
 have all:∀ {l:List (List Key×V)} {m:List (List Key×Addr×Value)},KT H l m->∀ x∈m,(tupleKind (Ax P w)).is h x.1 x.2.1:=by
  intro l m q
  induction q with
  |nil=>intro x hx;exact nomatch hx
  |@cons p q ps qs hq t ih=>
    intro x hx;rcases A0B.mp hx with e|hx
    . subst e;exact K6 ok (by rw[<- hq.1];exact hq.2.1)
    exact ih x hx
 exact all r x hx
theorem ak6 {kvs:List (List Key×V)}(ok:HOk P w H h)(e:H a=some (.dT kvs)):kvs.length<=sizeLine/\(a==sysModules)=false /\
  ∃ xs,KT H kvs xs/\h.DictOfH (tupleKind (Ax P w)) a xs:=Mr ok (.inl e)
end
def DGet (H:Hp)(a:Addr)(y:V)(r:Option V):Prop:=
 (∃ kvs k,Rd H a (.dK kvs)/\y=kV k/\r=Cy kvs k)\/∃ kvs k b,Rd H a (.dT kvs)/\y = .ref b/\H b=some (.tup (k.map kV))/\r=Cy kvs k
def DPut (H:Hp)(a:Addr)(y v:V)(H':Hp):Prop:=
 (∃ kvs k,H a=some (.dK kvs)/\y=kV k/\kvs.length<sizeLine/\H'=upd H a (.dK (Ea kvs k v))) \/
 ∃ kvs k b,H a=some (.dT kvs)/\y = .ref b/\H b=some (.tup (k.map kV))/\kvs.length<sizeLine/\H'=upd H a (.dT (Ea kvs k v))
theorem DGet.k {H:Hp}{a:Addr}{kvs:List (Key×V)}{k:Key}(e:H a=some (.dK kvs)):DGet H a (kV k) (Cy kvs k):=.inl ⟨kvs,k,.inl e,rfl,rfl⟩
theorem DGet.t {H:Hp}{a b:Addr}{kvs:List (List Key×V)}{k:List Key}(e:H a=some (.dT kvs))(eb:H b=some (.tup (k.map kV))):DGet H a (.ref b) (Cy kvs k):=.inr ⟨kvs,k,b,.inl e,rfl,eb,rfl⟩
theorem DPut.k {H:Hp}{a:Addr}{kvs:List (Key×V)}{k:Key}{v:V}(e:H a=some (.dK kvs))(hl:kvs.length<sizeLine):DPut H a (kV k) v (upd H a (.dK (Ea kvs k v))):=.inl ⟨kvs,k,e,rfl,hl,rfl⟩
theorem DPut.t {H:Hp}{a b:Addr}{kvs:List (List Key×V)}{k:List Key}{v:V}(e:H a=some (.dT kvs))(eb:H b=some (.tup (k.map kV)))(hl:kvs.length<sizeLine) :
  DPut H a (.ref b) v (upd H a (.dT (Ea kvs k v))):=.inr ⟨kvs,k,b,e,rfl,eb,hl,rfl⟩
section
variable {X:Cx}{pins:List (Addr×Obj)}{σ:St}{H:Hp}{s:Shared}{a:Addr}{y v:V}{u r:Value}{o:Option V}{A:Around}{E:Value->Shared->Prop}
theorem Inv.big (I:Inv X pins σ H s):sysModules<s.heap.objs.size:=by have h:mainGlobals<s.heap.objs.size:=(I.mod.glob.keeps I.bk).lt;exact A3G nofun h
theorem Y3 {Q:Value->Shared->Prop}(hu:A.units+1<cLine)(I:Inv X pins σ H s)(g:DGet H a y (some v))(ry:RelV y u)(h:∀ w' s',Inv X pins σ H s'->RelV v w'->Q w' s') :
  wpAny (model X.prog X.w) A (getItem (.ref a) u) Q E s:=by
 rcases g with ⟨kvs,k,e,ey,l⟩|⟨kvs,k,b,e,ey,eb,l⟩
 . subst ey;obtain⟨z,hd,vs,rel,dd⟩:=Ov I.hok e;obtain⟨w',hw,rw'⟩:=RelO.some_of (v:=v) (o:=valueAt vs k) (by rw[l];exact rel.val k);exact wpAny_getItem_of (Pc ry) dd.mapOf hw (h w' _ (I.tok _) rw')
 subst ey
 cases (show u=Value.ref b from ry);obtain⟨z,hd,xs,rel,dd⟩:=Mr I.hok e;obtain⟨w',hw,rw'⟩:=RelO.some_of (v:=v) (o:=(atKey xs k).map (·.2)) (by rw[l];exact rel.val k);obtain⟨p,hp,hp2⟩:=Option.map_eq_some_iff.mp hw;refine wpAny_getItem_heap (A2L hu) (K6 I.hok eb) dd hp ?_;rw[hp2];exact h w' _ (I.tok _) rw'
theorem d_in {Q:Value->Shared->Prop}(hu:A.units+1<cLine)(I:Inv X pins σ H s)(g:DGet H a y o)(ry:RelV y u)(h:∀ s',Inv X pins σ H s'->Q (.bool o.isSome) s') :
  wpAny (model X.prog X.w) A (compareOp .In u (.ref a)) Q E s:=by
 rcases g with ⟨kvs,k,e,ey,l⟩|⟨kvs,k,b,e,ey,eb,l⟩
 . subst ey;obtain⟨z,hd,vs,rel,dd⟩:=Ov I.hok e;refine wpAny_in_of (Pc ry) hd dd.mapOf ?_;rw[<- (rel.val k).isSome_eq,<- l];exact h _ (I.tok _)
 subst ey
 cases (show u=Value.ref b from ry);obtain⟨z,hd,xs,rel,dd⟩:=Mr I.hok e;refine wpAny_in_heap (A2L hu) (K6 I.hok eb) hd dd ?_;have q:=(rel.val k).isSome_eq;rw[Option.isSome_map] at q;rw[<- q,<- l];exact h _ (I.tok _)
theorem af6 {Q:Value->Shared->Prop}(hu:A.units+1<cLine)(I:Inv X pins σ H s)(g:DGet H a y o)(ry:RelV y u)(h:∀ s',Inv X pins σ H s'->Q (.bool (!o.isSome)) s') :
  wpAny (model X.prog X.w) A (compareOp .NotIn u (.ref a)) Q E s:=by
 rcases g with ⟨kvs,k,e,ey,l⟩|⟨kvs,k,b,e,ey,eb,l⟩
 . subst ey;obtain⟨z,hd,vs,rel,dd⟩:=Ov I.hok e;refine wpAny_notIn_of (Pc ry) hd dd.mapOf ?_;rw[<- (rel.val k).isSome_eq,<- l];exact h _ (I.tok _)
 subst ey
 cases (show u=Value.ref b from ry);obtain⟨z,hd,xs,rel,dd⟩:=Mr I.hok e;refine wpAny_notIn_heap (A2L hu) (K6 I.hok eb) hd dd ?_;have q:=(rel.val k).isSome_eq;rw[Option.isSome_map] at q;rw[<- q,<- l];exact h _ (I.tok _)
theorem Le {h':Heap}{t':Nat}{ob:HO}(I:Inv X pins σ H s)(mu:Mut (H a))(hs:Heap.SameBut a s.heap h')(he:∃ q,h'.get? a=some q)(new:ObjOk X.prog X.w (upd H a ob) h' a ob) :
  Inv X pins σ (upd H a ob) {s with heap:=h',toks:=t'}:=
 I.write (x:=a) (e:=a) mu (.inl rfl) (λb q hb z=>(hs.2 b hb).trans z) he new
theorem Tj {P:Program}{w:World}{H':Hp}{h':Heap}{kvs:List (Key×V)}{vs:List (Key×Value)}(z:kvs.length<=sizeLine)(hd:(a==sysModules)=false)(rel:KV kvs vs)(dd:h'.DictOf (Ax P w) a vs) :
  ObjOk P w H' h' a (.dK kvs):=⟨z,hd,vs,rel,dd⟩
theorem Wk {H':Hp}{Q:Unit->Shared->Prop}(hu:A.units+1<cLine)(I:Inv X pins σ H s)(g:DPut H a y v H')(ry:RelV y u)(rv:RelV v r)(h:∀ s',Inv X pins σ H' s'->Q () s') :
  wpAny (model X.prog X.w) A (setItem (.ref a) u r) Q E s:=by
 rcases g with ⟨kvs,k,e,ey,l,eH⟩|⟨kvs,k,b,e,ey,eb,l,eH⟩
 . subst ey eH;obtain⟨z,hd,vs,rel,dd⟩:=Qs I.hok e;have hz:vs.length<=sizeLine:=by rw[<- rel.length];exact z
   have hl:(Ea kvs k v).length<=sizeLine:=by have:=Fk kvs k v;omega
   refine wpAny_setItem_pairs (hsz:=hz) (Pc ry) dd λh' dd' hs=>h _ ?_;have he:∃ q,h'.get? a=some q:=let ⟨q,_,_,hq,_⟩:=dd';⟨q,hq⟩;exact Le I (by rw[e];exact A23) hs he (Tj hl hd (rel.put k rv) dd')
 subst ey eH
 cases (show u=Value.ref b from ry);obtain⟨z,hd,xs,rel,dd⟩:=ak6 I.hok e;have hz:xs.length<=sizeLine:=by rw[<- A25 rel];exact z
 have hl:(Ea kvs k v).length<=sizeLine:=by have:=Fk kvs k v;omega
 refine wpAny_setItem_heap (hsz:=hz) (A2L hu) (K6 I.hok eb) dd λh' dd' hs=>h _ ?_;obtain⟨q,es,ep,hq,h2,h3,h4,_,h5⟩:=dd';refine Le I (by rw[e];exact A23) hs ⟨q,hq⟩ ⟨hl,hd,_,(rel.put k eb rv).keeps λc ys ec=>?_,q,es,ep,hq,h2,h3,h4,h5⟩;rw[Al (ne_of ec e (λz=>nomatch z))];exact ec
end
section
variable {X:Cx}{pins:List (Addr×Obj)}{σ:St}{H:Hp}{s:Shared}{a:Addr}{kvs:List (Key×V)}{k:Key}{u:Value}{A:Around}{E:Value->Shared->Prop}
theorem ax4 {Q:Value->Shared->Prop}(I:Inv X pins σ H s)(e:Rd H a (.dK kvs))(h:∀ t s',Inv X pins σ H s'->Q (.int kvs.length t) s'):wpAny (model X.prog X.w) A (call (.builtin "len") [.ref a]) Q E s:=by obtain⟨z,hd,vs,rel,dd⟩:=Ov I.hok e;refine call_len_dict hd dd (by rw[<- rel.length];rw[A14] at z;omega) ?_;rw[<- rel.length];exact h _ _ (I.tok _)
end
theorem Qp {X:Cx}{pins:List (Addr×Obj)}{σ:St}{H:Hp}{s:Shared}{a:Addr}{y:V}{o:Option V}(I:Inv X pins σ H s)(g:DGet H a y o):s.TypeIs (.ref a) "dict":=by
 rcases g with ⟨kvs,k,e,_,_⟩|⟨kvs,k,b,e,_,_,_⟩
 . obtain⟨_,_,vs,_,dd⟩:=Ov I.hok e;exact dd.typeIs
 obtain⟨_,_,xs,_,dd⟩:=Mr I.hok e;exact dd.typeIs
def an0 (td ty tv:TE):TS:=λD σ H=>tv σ H λv H1=>td σ H1 λx H2=>ty σ H2 λy H3=>∃ a H4,x = .ref a/\DPut H3 a y v H4/\D.nx σ H4
section
variable {X:Cx}{o i e value:Expr}{pos pos' tpos:Pos}{td ty tv:TE}
theorem Fe (hu:X.A.units+1<cLine)(ho:PE X o td)(hi:PE X i ty)(hv:PE X value tv)(hs:swapsWith value (some (.Subscript o i pos')) pos.line X.env=pure false) :
  PS X (.Assign [.Subscript o i pos'] value pos) (an0 td ty tv):=by
 intro pins s σ H D I h;refine wpAny_Assign_Subscript (thn (hv pins s σ H _ I h) λr s1 ⟨v,H1,I1,rv,q1⟩=>thn (ho pins s1 σ H1 _ I1 q1) λu s2 ⟨x,H2,I2,rx,q2⟩=>thn (hi pins s2 σ H2 _ I2 q2) λiv s3 ⟨y,H3,I3,ry,a,H4,ex,g,q3⟩=>?_) hs;subst ex;obtain rfl:u=Value.ref a:=rx;exact Wk hu I3 g ry rv λs4 I4=>⟨σ,H4,I4,q3⟩
end
theorem Sf {P:Program}{w:World}{H:Hp}(h:Heap)(hb:sysModules<h.objs.size):ObjOk P w H (h.push {cls:=.type "dict",data:=.dict #[]}) h.objs.size (.dK []):=
 ⟨A2Q _,A0I.mpr (Ne.symm (A0P hb)),[],.nil,Heap.DictOf.new h⟩
theorem Sr {P:Program}{w:World}{H:Hp}(h:Heap)(hb:sysModules<h.objs.size):ObjOk P w H (h.push {cls:=.type "dict",data:=.dict #[]}) h.objs.size (.dT []):=
 ⟨A2Q _,A0I.mpr (Ne.symm (A0P hb)),[],.nil,_,#[],0,A0K _ rfl,⟨rfl,rfl,rfl⟩,rfl,rfl,List.nodup_nil⟩
def a52:TE:=λ_ H Q=>∀ p,H p=none->Q (.ref p) (upd H p (.dK []))
def a64:TE:=λ_ H Q=>∀ p,H p=none->Q (.ref p) (upd H p (.dT []))
section
variable {X:Cx}{pos:Pos}
theorem Nh:PE X (.Dict [] [] pos) a52:=λpins s σ H Q I h=>wpAny_Dict_empty ⟨.ref s.heap.objs.size,_,I.laid (a:=s.heap.objs.size) (o:=.dK []) (t':=s.toks) (λ_ _ q=>A03 _ q) (A07 _) (Sf s.heap I.big),rfl,h _ (I.hok.fresh (A07 _))⟩
theorem T2:PE X (.Dict [] [] pos) a64:=λpins s σ H Q I h=>wpAny_Dict_empty ⟨.ref s.heap.objs.size,_,I.laid (a:=s.heap.objs.size) (o:=.dT []) (t':=s.toks) (λ_ _ q=>A03 _ q) (A07 _) (Sr s.heap I.big),rfl,h _ (I.hok.fresh (A07 _))⟩
end
def J0:List (TE×TE)->St->Hp->(List (V×V)->Hp->Prop)->Prop
 | [],_,H,Q=>Q [] H
 | (tk,tv) :: r,σ,H,Q=>tk σ H λx H1=>tv σ H1 λy H2=>J0 r σ H2 λps H3=>Q ((x,y) :: ps) H3
abbrev VV:List (V×V)->List (Value×Value)->Prop:=Paired λp q=>RelV p.1 q.1/\RelV p.2 q.2
def PPs (X:Cx)(pos:Pos)(keys:List (Option Expr))(values:List Expr)(trs:List (TE×TE)):Prop:=
 ∀(pins:List (Addr×Obj)) (s:Shared) (σ:St) (H:Hp) (Q:List (V×V)->Hp->Prop),Inv X pins σ H s->J0 trs σ H Q ->
  wpAny (model X.prog X.w) X.A (evalPairs (pairTrees keys values X.env pos)) (λvs s'=>∃ ps H',Inv X pins σ H' s'/\VV ps vs/\Q ps H') X.xe s
theorem Re {X:Cx}{pos:Pos}:PPs X pos [] [] []:=λpins s σ H Q I h=>pairTrees_nil_walk ⟨[],H,I,.nil,h⟩
theorem Ia {X:Cx}{pos:Pos}{k v:Expr}{ks:List (Option Expr)}{vs:List Expr}{tk tv:TE}{trs:List (TE×TE)}(hk:PE X k tk)(hv:PE X v tv)(hr:PPs X pos ks vs trs) :
  PPs X pos (some k :: ks) (v :: vs) ((tk,tv) :: trs):=λpins s σ H Q I h=>
 pairTrees_cons_walk (thn (hk pins s σ H _ I h) λu s1 ⟨x,H1,I1,rx,q1⟩=>thn (hv pins s1 σ H1 _ I1 q1) λw2 s2 ⟨y,H2,I2,ry,q2⟩=>thn (hr pins s2 σ H2 _ I2 q2) λws s3 ⟨ps,H3,I3,rel,q3⟩=>⟨(x,y) :: ps,H3,I3,.cons ⟨rx,ry⟩ rel,q3⟩)
def Fm (kvs more:List (Key×V)):List (Key×V):=more.foldl (λacc kv=>Ea acc kv.1 kv.2) kvs
theorem KV.merge:∀ {more:List (Key×V)} {rs:List (Key×Value)} {kvs:List (Key×V)} {vs:List (Key×Value)},KV more rs->KV kvs vs->KV (Fm kvs more) (merged vs rs):=by
 intro more rs kvs vs r;unfold KV at r
 induction r generalizing kvs vs with
 |nil=>intro q;exact q
 |@cons p q ps qs h t ih=>
   intro r0
   have e:KV (Ea kvs p.1 p.2) (stored vs q.1 q.2):=by have:=r0.put p.1 h.2;rw[<- h.1];exact this
   exact ih e
theorem Ey:∀(more kvs:List (Key×V)),(Fm kvs more).length<=kvs.length+more.length
 | [],kvs=>by show kvs.length<=kvs.length+0;omega
 |p :: r,kvs=>by have h1:=Ey r (Ea kvs p.1 p.2);have h2:=Fk kvs p.1 p.2;show(Fm (Ea kvs p.1 p.2) r).length<=_;rw[A0L];omega
theorem Mh {P:Program}{w:World}:∀ {kvs:List (Key×V)} {ws:List (Value×Value)},VV (kvs.map λkv=>(kV kv.1,kv.2)) ws->∃ rs,Carries (Ax P w) ws rs/\KV kvs rs
 | [], _,r=>by rw[List.map_nil] at r;cases r;exact⟨[],A23,.nil⟩
 |p :: kvs,_,r=>by
   rw[A0G] at r
   cases r with
   |@cons a b as bs h t=>obtain⟨rs,c,q⟩:=Mh (P:=P) (w:=w) t;obtain⟨b1,b2⟩:=b;exact⟨(p.1,b2) :: rs,⟨Pc h.1,rfl,c⟩,.cons ⟨rfl,h.2⟩ q⟩
def aj0 (trs:List (TE×TE)):TE:=fun σ H Q=>∀ p,H p=none->J0 trs σ (upd H p (.dK [])) λps H2=>H2 p=some (.dK [])/\∃ kvs:List (Key×V),ps=kvs.map (λkv=>(kV kv.1,kv.2))/\kvs.length<=15/\Q (.ref p) (upd H2 p (.dK (Fm [] kvs)))
theorem Xc {X:Cx}{pos:Pos}{keys:List (Option Expr)}{values:List Expr}{trs:List (TE×TE)}(h:PPs X pos keys values trs)(hall:keys.all (·.isSome)=true)(hl:keys.length=values.length)(h0:keys≠[])
  (h15:keys.length<=15):PE X (.Dict keys values pos) (aj0 trs):=by
 intro pins s σ H Q I q;have hn:=I.hok.fresh (A07 s.heap.objs.size);have I1:=I.laid (a:=s.heap.objs.size) (o:=.dK []) (h':=s.heap.push {cls:=.type "dict",data:=.dict #[]}) (t':=s.toks) (λ_ _ q=>A03 _ q) (A07 _) (Sf s.heap I.big);refine wpAny_Dict_walk (knd:=Ax X.prog X.w) hall hl h0 h15 (thn (h pins _ σ _ _ I1 (q _ hn)) λws s2 ⟨ps,H2,I2,rel,e,kvs,ep,lk,q2⟩=>?_);subst ep;obtain⟨rs,c,rk⟩:=Mh (P:=X.prog) (w:=X.w) rel;obtain⟨z,hd,vs0,r0,dd⟩:=Qs I2.hok e
 cases r0;refine⟨rs,c,dd,λh' dd' hs=>⟨.ref s.heap.objs.size,_,?_,rfl,q2⟩⟩
 have hz:(Fm [] kvs).length<=sizeLine:=by have h1:=Ey kvs [];rw[A35] at h1;rw[A14];omega
 have he:∃ q,h'.get? s.heap.objs.size=some q:=let ⟨q,_,_,hq,_⟩:=dd';⟨q,hq⟩;exact Le I2 (by rw[e];exact A23) hs he (Tj hz hd (rk.merge .nil) dd')
structure M2 (X:Cx)(o:Expr)(m:Str)(apos:Pos)(e f:Expr)(cpos:Pos):Prop where
 base:attributeBase o m X.env (eval o X.env)=eval o X.env
 few:((backTo cpos (starEach [e,f] X.env)).all (λx=>!x.1)&&(backToKw cpos (keywordEach [] X.env)).all (λx=>x.1.isSome)
  && decide (([e,f]:List Expr).length+([]:List Keyword).length+(if([]:List Keyword).isEmpty then 0 else 1)<30))=true
 line:(apos.endLine==cpos.line)=true
 trees:backTo cpos (starEach [e,f] X.env)=[(false,eval e X.env),(false,eval f X.env)]
def IsD (H:Hp)(a:Addr):Prop:=(∃ kvs,Rd H a (.dK kvs))\/∃ kvs,Rd H a (.dT kvs)
theorem ak7 {X:Cx}{pins:List (Addr×Obj)}{σ:St}{H:Hp}{s:Shared}{a:Addr}(I:Inv X pins σ H s)(d:IsD H a) :
  s.TypeIs (.ref a) "dict" /\ (∀ b,Value.ref a = .ref b->∃ ob,s.heap.get? b=some ob/\ob.dict=none)/\(a==sysModules)=false:=by
 rcases d with ⟨kvs,e⟩|⟨kvs,e⟩
 . obtain⟨_,hd,vs,_,dd⟩:=Ov I.hok e;refine⟨dd.typeIs,λb q=>?_,hd⟩
   cases q;obtain⟨ob,_,_,h1,h2,_⟩:=dd;exact⟨ob,h1,h2.2.1⟩
 obtain⟨_,hd,xs,_,dd⟩:=Mr I.hok e;refine⟨dd.typeIs,λb q=>?_,hd⟩
 cases q;obtain⟨ob,_,_,h1,h2,_⟩:=dd;exact⟨ob,h1,h2.2.1⟩
section
variable {X:Cx}{pins:List (Addr×Obj)}{σ:St}{H:Hp}{s:Shared}{a:Addr}{y d:V}{u r:Value}{o:Option V}{A:Around}{E:Value->Shared->Prop}
theorem an2 {Q:Value->Shared->Prop}(hu:A.units+1<cLine)(I:Inv X pins σ H s)(g:DGet H a y o)(ry:RelV y u)(rd:RelV d r)(h:∀ w' s',Inv X pins σ H s'->RelV (o.getD d) w'->Q w' s') :
  wpAny (model X.prog X.w) A (call (.builtin "dict.get") [.ref a,u,r]) Q E s:=by
 rcases g with ⟨kvs,k,e,ey,l⟩|⟨kvs,k,b,e,ey,eb,l⟩
 . subst ey;obtain⟨z,hd,vs,rel,dd⟩:=Ov I.hok e;refine A3S A4I dd.typeIs PySem.F.entry_dict_get (PySem.F.args_dict_get_3 _ _ _) (meets_dict_get_default (Ax X.prog X.w) a (Pc ry) hd r) ⟨_,dd.mapOf,h _ _ (I.tok _) ?_⟩;rw[l];exact(rel.val k).getD rd
 subst ey
 cases (show u=Value.ref b from ry);obtain⟨z,hd,xs,rel,dd⟩:=Mr I.hok e;refine A3S A4I dd.typeIs PySem.F.entry_dict_get (PySem.F.args_dict_get_3 _ _ _) (meetsH_dict_get_default (tupleKind (Ax X.prog X.w)) a b hd r) ⟨A2L hu,k,xs,K6 I.hok eb,dd,h _ _ (I.tok _) ?_⟩;rw[l];exact(rel.val k).getD rd
end
def a58 (td ty tx:TE):TE:=fun σ H Q=>td σ H λx H1=>∃ a,x = .ref a/\IsD H1 a/\ty σ H1 λy H2=>tx σ H2 λz H3=>∃ o,DGet H3 a y o/\Q (o.getD z) H3
section
variable {X:Cx}{o e f:Expr}{apos cpos:Pos}{td ty tx:TE}
theorem Zb (hu:X.A.units+1<cLine)(ho:PE X o td)(he:PE X e ty)(hf:PE X f tx)(m:M2 X o "get" apos e f cpos):PE X (.Call (.Attribute o "get" apos) [e,f] [] cpos) (a58 td ty tx):=by
 intro pins s σ H Q I h;refine wpAny_Call_method m.base m.few m.line A46 A4I PySem.F.type_dict_get (thn (ho pins s σ H _ I h) λu s1 ⟨x,H1,I1,rx,a,ex,d,q1⟩=>?_);subst ex;obtain rfl:u=Value.ref a:=rx;obtain⟨t1,t2,_⟩:=ak7 I1 d;refine⟨t1,t2,?_⟩;rw[m.trees]
 refine A3C rfl (A4S (A54 (thn (he pins s1 σ H1 _ I1 q1) λiv s2 ⟨y,H2,I2,ry,q2⟩=>A54 (thn (hf pins s2 σ H2 _ I2 q2) λfv s3 ⟨z,H3,I3,rz,ov,g,q3⟩=>Calls.spliced_nil ?_))))
 exact an2 hu I3 g ry rz λw' s4 I4 rw'=>⟨_,H3,I4,rw',q3⟩
end
section
variable {X:Cx}{pins:List (Addr×Obj)}{σ:St}{H:Hp}{s:Shared}{a:Addr}{kvs:List (Key×V)}{A:Around}{E:Value->Shared->Prop}
end
section
variable {X:Cx}{pins:List (Addr×Obj)}{σ:St}{H:Hp}{s:Shared}{a:Addr}{y:V}{u:Value}{A:Around}{E:Value->Shared->Prop}
end
end L2
namespace Att
open PySem PySem.W PySem.Calls PyProof.Rows
theorem Lb {P:Params}{h:Heap}:∀(ns:List Int) (vs:List Value),WellAll P h vs (ns.map WData.int)->IntsAre vs ns:=by
 intro ns
 induction ns with
 |nil=>
   intro vs w;rw[List.map_nil] at w
   cases w;exact .nil
 |cons n ns ih=>
   intro vs w;rw[A0G] at w
   cases w with
   |cons a b=>cases a;exact .cons _ _ (ih _ b)
theorem Y0 {l:OpenLaw}{n:Nat}(hn:l.most=some n){P:Params}{h:Heap}{args:List WData}{vals:List Value}
  (hpre:l.row.toRowW.claim.pre args=true) (hwl:WellAll P h vals args) :
  ∃ a vs ns,vals=[Value.ref a]/\args=[WData.list (ns.map WData.int)]/\h.get? a=some {cls:=.type "list",data:=.seq vs.toArray}/\IntsAre vs ns/\ns.length<=n:=by
 have hsh:WShape.hasAll [] args [.list .int]=true:=(pre_splitW hpre).1;have hc:l.pre.holds [] {args:=args}=true:=(pre_splitW hpre).2;obtain⟨d,r,rfl,h1,h2⟩:=hasAllW_cons hsh;obtain rfl:=hasAllW_nil h2;obtain⟨xs,rfl,h3⟩:=hasW_list h1;obtain⟨ns,rfl⟩:=items_int h3
 have hlen:ns.length<=n:=by
  unfold OpenLaw.pre at hc
  have h4:(WTm.not (.lt (.lit (.int (n:Int))) (.len (.arg 0)))).holds [] {args:=[.list (ns.map .int)]}=true:=by have h4:=(holds_andW hc).1;rw[hn] at h4;exact h4
  have h5:=condW_of h4 (w_not (w_lt w_lit (w_len_list (w_arg rfl))));rw[A01] at h5;refine Nat.le_of_not_lt λq=>?_;have q':(n:Int)<((ns.length:Nat):Int):=by omega
  first
   | (rw[A19 q'] at h5;exact absurd h5 nofun)
   | (simp at h5;omega)
 cases hwl with
 |cons w1 w2=>
   cases w2
   cases w1 with
   |list ho hall=>exact⟨_,_,ns,rfl,rfl,ho,Lb ns _ hall,hlen⟩
theorem X0 (l:OpenLaw)(args:List WData):l.row.toRowW.claim.post args (.bool true) args=true:=
 postW_of (r:=l.row.toRowW) (X:=(true==true))
  (show WShape.has [] (.bool true) .bool=true by first | rfl | decide | simp[WShape.has,WShape.arms,WShape.armsAll])
  (show(WTm.eq .res (.lit (.bool true))).value [] {args:=args,res:=some (.bool true),after:=args}=some (.bool (true==true)) from w_eq_bool (w_res rfl) w_lit) rfl
theorem attach_call {l:OpenLaw}{n:Nat}{q:Program}{loose:List Str}{XP:(Str->Option Value)->Heap->Prop}{YP:World->Heap->Prop}{d:DefRec}
  (hn:l.most=some n) (hdf:d.params.defaults=[])
  (call:∀(w:World) (s₀ s₁:Shared) (mg mb:Str->Option Value) (fa:Addr) (o:Obj) (pm cd doc:Value) (a:Addr) (vs:List Value) (ns:List Int),
   Ground q loose [] XP w s₀ mg mb s₁.heap->YP w s₁.heap ->
   s₁.heap.get? fa=some o->o.data = .func (docDef d.name d.params d.body d.scope pm cd doc)->s₁.heap.CodeRec cd d.name->mg d.name=some (.ref fa) ->
   s₁.heap.get? a=some {cls:=.type "list",data:=.seq vs.toArray}->IntsAre vs ns->ns.length<=n->s₁.gens = #[] ->
   codeAny (model l.prog w) callerA (.call (.ref fa) ⟨[.ref a],[]⟩) (λr s'=>r = .ok (.ret (.bool true))/\OldK s₁.heap s'.heap/\s'.os=s₁.os/\AllBare s'.gens) s₁) :
  WalkO q loose XP YP l.row.toRowW d [] (λf vs=>PySem.call f vs):=by
 intro w s₀ s₁ mg mb G Y fa o pm cd doc dV kV ho hd hcd hD hmg hg args vals as hpre hlay hrd hwl hlo;obtain rfl:dV = .none:=Dflts.none hD hdf;obtain rfl:kV = .none:=Dflts.noKw hD;obtain⟨a,vs,ns,rfl,rfl,hobj,hints,hlen⟩:=Y0 hn hpre hwl;refine enter_call (A4D (call w s₀ s₁ mg mb fa o pm cd doc a vs ns G Y ho (fd_plain hd) hcd hmg hobj hints hlen hg) λr s' hq=>?_);obtain⟨rfl,h2,h3,h4⟩:=hq;exact⟨.inl ⟨.bool true,.bool true,[],rfl,λ_=>rfl,.bool true,X0 l _,λ_=>⟨List.Pairwise.nil,λ_ hm=>(nomatch hm)⟩⟩,h2,h3,h4⟩
section
variable {prog:Program}{w:World}{A:Around}{E:Value->Shared->Prop}{s:Shared}{K:Frag}
end
end Att
namespace L2
open PySem PySem.Spec PyProof.Rows
theorem Pj:∀ {vs:List Value} {ns:List Int},IntsAre vs ns->Vals (ns.map V.int) vs
 |_,_,.nil=>.nil
 |_,_,.cons n t h=>.cons ⟨t,rfl⟩ (Pj h)
def aw3 (H:Hp):Prop:=∀ b,H b=none\/∃ o xs,H b=some (.frz o (.lst xs))
theorem Ys {P:Program}{w:World}{K:W.Frag}{mg mb:Str->Option Value}{CX:CXT}{k:Nat}{fa a:Addr}{fd:FuncData}{x:Str}{sp:Sp}{s₁:Shared}{vs:List Value}{ns:List Int}
  (KX:K.In s₁.heap) (hns:s₁.heap.Ns mainGlobals mg) (hb:s₁.heap.Ns builtinsNs mb) (hbb:∀ x:Str,x ≠ "__name__" -> mb x=bootBuiltins x) (hlim:s₁.heap.NoLimit) (hg:s₁.gens = #[])
  (ha:s₁.heap.get? a=some {cls:=.type "list",data:=.seq vs.toArray}) (hi:IntsAre vs ns) (hl:ns.length<=sizeLine) (hr:Room k callerA)
  (F:∀ base:Heap,K.In base->base.Ns mainGlobals mg->FnOk P w K mg base CX k fa fd [x] sp) (hbind:∀(s:Shared) (u:Value),BindsTo s fd ⟨[u],[]⟩ [(x,u)])
  (hsp:∀ H:Hp,aw3 H->SqL K H a (ns.map V.int)->sp [.ref a] H (λv _=>v = .bl true) λ_ _ _=>False)
  (hCX:∀ H e s',CX [] H s₁ (λ_ _ _=>False) e s'->False) :
  codeAny (model P w) callerA (.call (.ref fa) ⟨[.ref a],[]⟩) (λr s'=>r = .ok (.ret (.bool true))/\OldK s₁.heap s'.heap/\s'.os=s₁.os/\AllBare s'.gens) s₁:=by
 have rv:=Pj hi;have lenV:=hi.length
 have core:∀ H:Hp,aw3 H->SqL K H a (ns.map V.int)->HOk P w H s₁.heap->(∀ b,H b≠none->b=a)->(H a≠none->K.lookup a=none) ->
   codeAny (model P w) callerA (.call (.ref fa) ⟨[.ref a],[]⟩) (λr s'=>r = .ok (.ret (.bool true))/\OldK s₁.heap s'.heap/\s'.os=s₁.os/\AllBare s'.gens) s₁:=by
  intro H hO hS hok hA hK;have base_of:∀ {b:Addr} {o:Obj},s₁.heap.get? b=some o->H b=none->(Z1 s₁.heap H).get? b=some o:=λe n=>Zz e n
  have noA:∀ {b:Addr} {o:Obj} {es:Array DictEntry} {ep:Nat},s₁.heap.get? b=some o->o.data = .dict es ep->H b=none:=fun {b o es ep} e d=>by
   cases q:H b with
   |none=>rfl
   |some u=>
     have e':b=a:=hA b (by rw[q];simp);subst e';rw[ha] at e;cases e;have d':Data.seq vs.toArray _=Data.dict es ep:=d
     cases d'
  have nsK:∀ {b:Addr} {m:Str->Option Value},s₁.heap.Ns b m->(Z1 s₁.heap H).Ns b m:=fun {b m} ⟨o,es,ep,e,d,r⟩=>⟨o,es,ep,base_of e (noA e d),d,r⟩
  have hKb:K.In (Z1 s₁.heap H):=λb o e=>base_of (KX b o e) (by
   cases q:H b with
   |none=>rfl
   |some u=>have e':b=a:=hA b (by rw[q];simp);subst e';rw[hK (by rw[q];simp)] at e;cases e)
  have hM:Mod K mg (Z1 s₁.heap H):=⟨hKb,nsK hns,⟨mb,nsK hb,hbb⟩,let ⟨mc,h1,h2⟩:=hlim;⟨mc,nsK h1,h2⟩⟩;have e0:Env0 P w K mg (Z1 s₁.heap H) callerA [] s₁ H:=⟨rfl,hM,λb o e=>ae1 e,Nat.le_of_eq (Xv _ _),trivial,λb hb=>absurd (show b∈([]:List Addr) from hb) (by simp),hok,.of_eq hg⟩;refine A4D ((F _ hKb (nsK hns)).run callerA [] s₁ H ⟨[.ref a],[]⟩ [.ref a] [.ref a] _ _ hr e0 (hbind s₁ (.ref a)) (.cons rfl .nil) (hsp H hO hS)) λr s' h=>?_
  cases r with
  |error e=>exact(hCX H e s' h).elim
  |ok fl=>
    cases fl with
    |next=>exact False.elim h
    |brk=>exact False.elim h
    |cont=>exact False.elim h
    |ret u=>
      obtain⟨v,H',os,bare,un,hok',r',q⟩:=h;have q':v = .bl true:=q;subst q';obtain rfl:u=Value.bool true:=r';refine⟨rfl,OldK.of_keep λb o e=>?_,os,bare⟩
      cases q:H b with
      |none=>exact un.keep b o e q (by intro z;exact absurd (show b∈([]:List Addr) from z) (by simp)) (by simp)
      |some u=>
        rcases hO b with z|⟨ob,xs,z⟩
        . rw[q] at z;cases z
        have z2:=un.frzs b ob _ z;obtain⟨e1,_⟩:=hok b _ z;obtain⟨e2,_⟩:=hok' b _ z2;rw[e] at e1;cases e1;exact e2
 cases hk:K.lookup a with
 |some o=>
   have e:=KX a o hk;rw[ha] at e
   cases e;refine core (λ_=>none) (λ_=>.inl rfl) (.inr ⟨_,vs.toArray,_,hk,rfl,rfl,rfl,by rw[List.size_toArray,lenV];exact hl,by simpa using rv⟩) (λb u z=>by have z':(none:Option HO)=some u:=z;cases z') (λb z=>absurd rfl z) λz=>absurd rfl z
 |none=>
   refine core (λb=>if b=a then some (.frz {cls:=.type "list",data:=.seq vs.toArray} (.lst (ns.map V.int))) else none) (λb=>?_) (.inl (.inr ⟨{cls:=.type "list",data:=.seq vs.toArray},A0W rfl⟩)) (λb u z=>?_) (λb z=>?_) λ_=>hk
   . by_cases hb:b=a
     . exact .inr ⟨_,_,A0W hb⟩
     exact .inl (A0S hb)
   . by_cases hb:b=a
     . have z':=(A0W hb).symm.trans z
       cases z';subst hb;exact⟨ha,by rw[A01];exact hl,vs,_,rv,ha⟩
     have z':=(A0S hb).symm.trans z
     cases z'
   by_cases hb:b=a
   . exact hb
   exact absurd (A0S hb) z
theorem walk_of {l:W.OpenLaw}{n k:Nat}{q:Program}{loose:List Str}{XP:(Str->Option Value)->Heap->Prop}{YP:World->Heap->Prop}{d:DefRec}{K:Params->W.Frag}{CX:World->CXT}{sp:World->Sp}{x:Str}
  (hn:l.most=some n) (hn2:n<=sizeLine) (hdf:d.params.defaults=[]) (hr:Room k callerA)
  (hY:∀(w:World) (h:Heap),YP w h->(K w.params).In h)
  (F:∀(w:World) (mg:Str->Option Value) (fa:Addr) (h:Heap),(K w.params).In h->h.Ns mainGlobals mg->mg d.name=some (.ref fa) ->
   ∃ fd:FuncData,(∀(s:Shared) (u:Value),BindsTo s fd ⟨[u],[]⟩ [(x,u)]) /\
    ∀ base:Heap,(K w.params).In base->base.Ns mainGlobals mg->FnOk l.prog w (K w.params) mg base (CX w) k fa fd [x] (sp w))
  (hsp:∀(w:World) (H:Hp) (a:Addr) (ns:List Int),ns.length<=n->aw3 H->SqL (K w.params) H a (ns.map V.int)->sp w [.ref a] H (λv _=>v = .bl true) λ_ _ _=>False)
  (hCX:∀(w:World) (H:Hp) (s:Shared) (e:Value) (s':Shared),CX w [] H s (λ_ _ _=>False) e s'->False) :
  W.WalkO q loose XP YP l.row.toRowW d [] (λf vs=>PySem.call f vs):=by
 refine Att.attach_call hn hdf λw s₀ s₁ mg mb fa o pm cd doc a vs ns G Y ho hd hcd hmg hobj hints hlen hg=>?_;have KX:=hY w _ Y;obtain⟨fd,hb,hF⟩:=F w mg fa _ KX G.T.g hmg;exact Ys KX G.T.g G.T.b G.T.builtins G.T.nolimit hg hobj hints (A0Q hlen hn2) hr hF hb (λH hO hS=>hsp w H a ns hlen hO hS) λH e s'=>hCX w H s₁ e s'
def Oc (s:Stmt)(j:Nat):Stmt:=match s with
 |.ClassDef _ _ _ body _ _ _ _ _ _ _=>body.getD j (.Pass ⟨0,0,0,0⟩)
 |_=>.Pass ⟨0,0,0,0⟩
def Ad (s:Stmt):Arguments:=match s with
 |.FunctionDef _ a _ _ _ _ _ _ _ _=>a
 |_=>{posonlyargs:=[],args:=[],vararg:=none,kwonlyargs:=[],kw_defaults:=[],kwarg:=none,defaults:=[]}
def Ac (s:Stmt):List Stmt:=match s with
 |.FunctionDef _ _ b _ _ _ _ _ _ _=>b
 |_=>[]
def A4 (s:Stmt):Scope:=match s with
 |.FunctionDef _ _ _ _ _ _ sc _ _ _=>sc
 |_=>{kind:=.function,names:=[],isGenerator:=false,isCoroutine:=false}
abbrev CX0:CXT:=λ_ _ _ _ _ _=>False
abbrev E0:XK:=λ_ _ _=>False
theorem af8 {X:Cx}:Ig CX0 X E0:=λ_ _ _ _ _ _ _ h=>h.elim
structure Fun (K:W.Frag)(x qual:Str)(st:Stmt)(f:Addr)(fd:FuncData):Prop where
 ex:∃(oc:Value) (od:Option Addr) (kV doc pm:Value) (an:Option Addr) (cdv ct:Value) (osl:Array (Option Value)),
  fd=W.fnOf x qual (Ad st) (Ac st) (A4 st) .none kV doc pm an cdv ct/\K.lookup f=some ⟨oc,od,.func fd,osl⟩/\W.codeIn K cdv qual=true
 kp:W.keepIn K (.ref f)=true
section
variable {P:Program}{w:World}{K:W.Frag}{mg:Str->Option Value}{base:Heap}
theorem Fun.ok {x qual:Str}{st:Stmt}{f:Addr}{fd:FuncData}{N ps:List Str}{k:Nat}{sp:Sp}(F:Fun K x qual st f fd)(S:Ak N ps (A4 st))(len:∀ vs H Q E,sp vs H Q E->vs.length=ps.length)
  (hbody:∀(cdv:Value) (A:Around) (outer:List Env) (s:Shared) (H:Hp) (vs:List V) (Q:VK) (E:XK),Room k (A.deeper (envOfC qual (A4 st) s.heap.objs.size f cdv))->sp vs H Q E ->
   ∃ t,PSs (Uz CX0 P w K mg base N qual (A4 st) f cdv A outer s H E).nox (Ac st) t/\t {nx:=λ_ H'=>Q .non H',rt:=Q} (Np N vs) H):FnOk P w K mg base CX0 (k+1) f fd ps sp:=by
 obtain⟨oc,od,kV,doc,pm,an,cdv,ct,osl,rfl,lk,hcd⟩:=F.ex;refine ap7 lk hcd S len λA outer s H vs Q E hr hsp=>?_;obtain⟨t,h,q⟩:=hbody cdv A outer s H vs Q E hr hsp;exact⟨t,h.nox,q⟩
theorem Fun.binds {x qual:Str}{st:Stmt}{f:Addr}{fd:FuncData}{ps:List Str}(F:Fun K x qual st f fd)
  (h:∀(kV doc pm:Value) (an:Option Addr) (cdv ct:Value) (us:List Value),us.length=ps.length->bindArgs (W.fnOf x qual (Ad st) (Ac st) (A4 st) .none kV doc pm an cdv ct) ⟨us,[]⟩=pure (ps.zip us)):Binds K fd ps []:=by
 obtain⟨oc,od,kV,doc,pm,an,cdv,ct,osl,rfl,lk,hcd⟩:=F.ex;exact .all (h kV doc pm an cdv ct)
theorem Ba {x qual:Str}{st:Stmt}{f:Addr}{oc:Value}{od an:Option Addr}{osl:Array (Option Value)}{kV doc pm cdv ct:Value}(l:K.lookup f=some ⟨oc,od,.func (W.fnOf x qual (Ad st) (Ac st) (A4 st) .none kV doc pm an cdv ct),osl⟩)
  (c:W.codeIn K cdv qual=true) (k:W.keepIn K (.ref f)=true):Fun K x qual st f (W.fnOf x qual (Ad st) (Ac st) (A4 st) .none kV doc pm an cdv ct):=⟨⟨oc,od,kV,doc,pm,an,cdv,ct,osl,rfl,l,c⟩,k⟩
end
theorem Db {A:Around}{k:Nat}(hr:Room k A):A.units+1<cLine:=Nat.lt_of_le_of_lt (Nat.add_le_add_left (by decide:1<=64) _) hr.units
theorem X5 {n:Nat}(h:n<=1000):n<sizeLine:=Nat.lt_of_le_of_lt h nofun
section
variable {X:Cx}
theorem pv (i:Nat){x:Str}{pos:Pos}(hN:X.N[i]? = some x:=by ac_nf)(hv:Vis X.env.scope x:=by with_unfolding_all first | exact Or.inl rfl | exact A2M (Or.inl rfl) | exact A2M (A2M rfl))(hd:(x==("__debug__":Str))=false:=by decide)
  (hcd:(x==("__classdict__":Str))=false:=by decide):PE X (.Name x pos) (ax5 i):=an6 hN hv hd hcd
end
theorem iteF {A B:Prop}(h:B):if false=true then A else B:=by rw[A0S A0C];exact h
theorem iteT {A B:Prop}(h:A):if true=true then A else B:=by rw[A0W rfl];exact h
def Same (H H':Hp):Prop:=∀ b o,H b=some o->H' b=some o
theorem Same.refl (H:Hp):Same H H:=λ_ _ h=>h
theorem Same.trans {H H1 H2:Hp} (a:Same H H1) (b:Same H1 H2):Same H H2:=λc o h=>b c o (a c o h)
theorem Same.free {H H':Hp}(e:Same H H'){l:Addr}(h:H' l=Option.none):H l=Option.none:=by
 cases q:H l with
 |none=>rfl
 |some o=>
   rw[e l o q] at h
   cases h
theorem Same.seq {K:W.Frag}{H H':Hp}{a:Addr}{xs:List V}(e:Same H H')(h:SqL K H a xs):SqL K H' a xs:=by
 rcases h with (h|⟨o,h⟩)|h
 . exact .inl (.inl (e _ _ h))
 . exact .inl (.inr ⟨o,e _ _ h⟩)
 exact .inr h
section
variable {X:Cx}
theorem Y6:CallR X (.builtin "len") (λxs H Q=>∃ a kvs,xs=[V.ref a]/\H a=some (.dK kvs)/\Q (.int kvs.length) H):=by
 intro pins s σ H xs us Q I r h;obtain⟨a,kvs,rfl,ha,q⟩:=h;obtain⟨u,rfl,ru⟩:=J7 r
 cases ru;exact ax4 I (.inl ha) λt s' I'=>⟨.int kvs.length,H,I',⟨t,rfl⟩,q⟩
end
section
variable {κ:Type}[DecidableEq κ]
theorem T8 {kvs:List (κ×V)}{k:κ}(h:Cy kvs k=none):¬ k∈kvs.map (·.1):=by intro m;obtain⟨p,hp,e⟩:=A0N.mp m;have q:(kvs.any λkv=>decide (kv.1=k))=true:=A1S.mpr ⟨p,hp,A19 e⟩;rw[Fs,h] at q;exact absurd q (by simp)
theorem ac6 {kvs:List (κ×V)}{k:κ}{v:V}(h:Cy kvs k=some v):k∈kvs.map (·.1):=by
 have q:(kvs.any λkv=>decide (kv.1=k))=true:=by
  rw[Fs,h]
  all_goals rfl
 obtain ⟨p,hp,e⟩:=A1S.mp q;exact A0N.mpr ⟨p,hp,of_decide_eq_true e⟩
theorem Vf:∀ {l:List κ} {k:κ},l.Nodup->¬ k∈l->(l++[k]).Nodup
 | [],k,_,_=>by simp
 |a :: r,k,h,hk=>by
   obtain⟨h1,h2⟩:=A0H.mp h;show(a :: (r++[k])).Nodup;refine A0H.mpr ⟨λm=>?_,Vf h2 λm=>hk (A0B.mpr (A2M m))⟩;rcases A0R.mp m with q|q
   . exact h1 q
   exact hk (A0B.mpr (Or.inl (A17.mp q).symm))
theorem ac2 {kvs:List (κ×V)}{k:κ}(v:V)(hn:(kvs.map (·.1)).Nodup)(h:Cy kvs k=none):((Ea kvs k v).map (·.1)).Nodup:=by rw[J3 v h,A0E];exact Vf hn (T8 h)
end
def Ke (env:Env)(names:List (Str×NameKind))(acc:List (Str×Addr)):List (Str×Addr):=
 names.foldl (λacc y=>if y.2==NameKind.free then(y.1,(env.cells.lookup y.1).getD 0) :: acc else acc) acc
theorem Mc {env:Env}{scope:Scope}(h:∀ y∈scope.names,y.2=NameKind.free->∃ c,env.cells.lookup y.1=some c):closureFor scope env=pure (Ke env scope.names []):=by
 have all:∀(names:List (Str×NameKind)) (acc:List (Str×Addr)),(∀ y∈names,y.2=NameKind.free->∃ c,env.cells.lookup y.1=some c) ->
   (forIn names acc λ(y:Str×NameKind) (cs:List (Str×Addr))=>(match y with
    | (name,kind)=>if(kind==NameKind.free)=true then do let c <- cellOf env name;pure (ForInStep.yield ((name,c) :: cs)) else pure (ForInStep.yield cs):Sem (ForInStep (List (Str×Addr)))))=(pure (Ke env names acc):Sem (List (Str×Addr))):=by
  intro names
  induction names with
  |nil=>intro acc _;rfl
  |cons y r ih=>
    intro acc hy;obtain⟨n,k⟩:=y;rw[List.forIn_cons]
    by_cases hk:k=NameKind.free
    . subst hk;obtain⟨c,hc⟩:=hy (n,.free) A11 rfl;have e:cellOf env n=pure c:=by unfold cellOf;rw[show env.cells.lookup n=some c from hc]
      have e2:Ke env ((n,NameKind.free) :: r) acc=Ke env r ((n,c) :: acc):=by unfold Ke;rw[A20];simp only[beq_self_eq_true,if_true];rw[show env.cells.lookup n=some c from hc];rfl
      rw[e2,<- ih ((n,c) :: acc) λz hz=>hy z (A0D _ hz)];simp only[beq_self_eq_true,if_true,e];rfl
    have hb:(k==NameKind.free)=false:=by simpa using hk
    have e2:Ke env ((n,k) :: r) acc=Ke env r acc:=by unfold Ke;rw[A20];simp only[hb,Bool.false_eq_true,if_false]
    rw[e2,<- ih acc λz hz=>hy z (A0D _ hz)];simp only[hb,Bool.false_eq_true,if_false];rfl
 have q:=all scope.names [] h;unfold closureFor
 first
  |exact q
  | (simp only[bind_pure];exact q)
  | (refine Eq.trans ?_ q;rfl)
theorem Ru {env:Env}{x:Str}{c:Addr}:∀ {names:List (Str×NameKind)} {acc:List (Str×Addr)},(∀ y∈names,y.2=NameKind.free->∃ c,env.cells.lookup y.1=some c)->(acc.lookup x=some c->env.cells.lookup x=some c) ->
  (Ke env names acc).lookup x=some c->env.cells.lookup x=some c
 | [],acc,_,ha,h=>ha h
 | (n,k) :: r,acc,hn,ha,h=>by
   have e:Ke env ((n,k) :: r) acc=Ke env r (if k==NameKind.free then(n,(env.cells.lookup n).getD 0) :: acc else acc):=rfl
   rw[e] at h;refine Ru (λy hy=>hn y (A0D _ hy)) (λq=>?_) h
   by_cases hk:k=NameKind.free
   . subst hk;simp only[beq_self_eq_true,if_true,List.lookup_cons] at q;obtain⟨d,hd⟩:=hn (n,.free) A11 rfl;have hd':env.cells.lookup n=some d:=hd
     split at q
     . rename_i hx;have hx':x=n:=A22.mp hx;rw[hd'] at q;rw[hx',hd'];exact q
     exact ha q
   have hb:(k==NameKind.free)=false:=by simpa using hk
   simp only[hb,Bool.false_eq_true,if_false] at q;exact ha q
theorem Ob {env:Env}{x:Str}:∀ {names:List (Str×NameKind)} {acc:List (Str×Addr)},((∃ c,acc.lookup x=some c)\/(x,NameKind.free)∈names)->∃ c,(Ke env names acc).lookup x=some c
 | [],acc,h=>by
   rcases h with h|h
   . exact h
   cases h
 | (n,k) :: r,acc,h=>by
   have e:Ke env ((n,k) :: r) acc=Ke env r (if k==NameKind.free then(n,(env.cells.lookup n).getD 0) :: acc else acc):=rfl
   rw[e];refine Ob ?_
   by_cases hk:k=NameKind.free
   . subst hk;simp only[beq_self_eq_true,if_true,List.lookup_cons]
     by_cases hx:x=n
     . left;have hb:(x==n)=true:=A22.mpr hx;rw[hb];exact⟨_,rfl⟩
     have hb:(x==n)=false:=A0I.mpr hx;rw[hb];rcases h with h|h
     . exact .inl h
     rcases A0B.mp h with q|q
     . cases q;exact absurd rfl hx
     exact .inr q
   have hb:(k==NameKind.free)=false:=by simpa using hk
   simp only[hb,Bool.false_eq_true,if_false];rcases h with h|h
   . exact .inl h
   rcases A0B.mp h with q|q
   . cases q;exact absurd rfl hk
   exact .inr q
theorem Dw:∀(names:List (Str×NameKind)) (n:Nat) (acc:List (Str×Addr)),cellsFrom n names acc=cellsFrom n names []++acc
 | [],_,_=>rfl
 | (x,k) :: r,n,acc=>by
   unfold cellsFrom
   split
   . rw[Dw r (n+1) ((x,n) :: acc),Dw r (n+1) [(x,n)],A1Y];rfl
   exact Dw r n acc
theorem Jy {x:Str}{c:Addr}:∀ {names:List (Str×NameKind)} {n:Nat},(x,c)∈cellsFrom n names []->(x,NameKind.cell)∈names
 | [],_,h=>by cases h
 | (y,k) :: r,n,h=>by
   unfold cellsFrom at h
   split at h
   . rename_i hk;rw[Dw] at h;rcases A0R.mp h with h|h
     . exact A0D _ (Jy h)
     have e:=A17.mp h
     cases e;rw[A22.mp hk];exact A11
   exact A0D _ (Jy h)
theorem Lf {α:Type}{x:Str}{c:α}:∀ {l:List (Str×α)},(x,c)∈l->∃ d,l.lookup x=some d
 | [],h=>by cases h
 | (y, d) :: r,h=>by
   rw[A1J]
   cases e:x==y with
   |true=>exact⟨d,rfl⟩
   |false=>
     rcases A0B.mp h with q|q
     . cases q;simp at e
     exact Lf q
theorem Iy {x:Str}:∀ {names:List (Str×NameKind)} {n:Nat},(x,NameKind.cell)∈names->∃ c,(x,c)∈cellsFrom n names []
 | [],_,h=>by cases h
 | (y,k) :: r,n,h=>by
   unfold cellsFrom
   split
   . rw[Dw];rcases A0B.mp h with q|q
     . cases q;exact⟨n,List.mem_append_right _ (by simp)⟩
     obtain⟨c,hc⟩:=Iy (n:=n+1) q;exact⟨c,A3L _ hc⟩
   rename_i hk;rcases A0B.mp h with q|q
   . cases q;exact absurd rfl hk
   exact Iy q
def Rw (outer scope:Scope)(xs fr:List Str):Bool:=
 (scope.kind == .function)&&(outer.kind == .function)&&decide (scope.names.map (·.1)).Nodup
 && (scope.names.all λy=>y.2 != .local||scope.names.lookup y.1==some .local)
 && (scope.names.all λy=>y.2 != .free||(outer.names.lookup y.1==some .cell||outer.names.lookup y.1==some .free))
 && (scope.names.all λy=>y.2 != .free||scope.names.lookup y.1==some .free)
 && (xs.all λx=>scope.names.lookup x==some .local||scope.names.lookup x==some .cell)&&(fr.all λx=>scope.names.lookup x==some .free)&&decide (xs++fr).Nodup
theorem Do {α:Type}{x:Str}{v:α}:∀ {l:List (Str×α)},l.lookup x=some v->(x,v)∈l
 | [],h=>by cases h
 | (n,k) :: r,h=>by
   rw[A1J] at h
   split at h
   . rename_i hx;have hx':x=n:=A22.mp hx
     cases h;rw[hx'];exact A11
   exact A0D _ (Do h)
theorem Ie {scope:Scope}{env:Env}{x:Str}{k:NameKind}(hk:env.scope.kind = .function):∀ {names:List (Str×NameKind)},names.lookup x=some k ->
  (names.map λ(n,k)=>if(k==NameKind.free&&env.scope.kind == .function&&env.kindOf n==some .cell) then(n,NameKind.cell) else(n,k)).lookup x=some (if(k==NameKind.free&&env.kindOf x==some .cell) then .cell else k)
 | [],h=>by cases h
 | (n,j) :: r,h=>by
   have ih:=@Ie scope env x k hk r;rw[A0G];rw[A1J] at h;dsimp only
   split at h
   . rename_i hx;have hx':x=n:=A22.mp hx
     cases h;subst hx'
     by_cases hc:(k==NameKind.free&&env.scope.kind == .function&&env.kindOf x==some .cell)=true
     . have hc2:(k==NameKind.free&&env.kindOf x==some .cell)=true:=by rw[A1A,A1A] at hc;rw[A1A];exact⟨hc.1.1,hc.2⟩
       rw[A0W hc,A0W hc2,A1J,A49]
     have hc2:¬ (k==NameKind.free&&env.kindOf x==some .cell)=true:=λq=>hc (by rw[A1A] at q;rw[A1A,A1A,hk];exact⟨⟨q.1,rfl⟩,q.2⟩)
     rw[A0S hc,A0S hc2,A1J,A49]
   rename_i hx;have hx':(x==n)=false:=by simpa using hx
   by_cases hc:(j==NameKind.free&&env.scope.kind == .function&&env.kindOf n==some .cell)=true
   . rw[A0W hc,A1J,hx'];exact ih h
   rw[A0S hc,A1J,hx'];exact ih h
theorem Gb {env:Env} {x:Str} {k:NameKind}:∀ {names:List (Str×NameKind)},
  (names.map λ(n,k)=>if(k==NameKind.free&&env.scope.kind == .function&&env.kindOf n==some .cell) then(n,NameKind.cell) else(n,k)).lookup x=some k ->
  ∃ j,names.lookup x=some j/\(k=j\/(j = .free/\k = .cell))
 | [],h=>by cases h
 | (n,j) :: r,h=>by
   have ih:=@Gb env x k r;rw[A0G] at h;dsimp only at h
   by_cases hc:(j==NameKind.free&&env.scope.kind == .function&&env.kindOf n==some .cell)=true
   . rw[A0W hc,A1J] at h
     have hj:j = .free:=by rw[A1A,A1A] at hc;exact A22.mp hc.1.1
     rw[A1J]
     split at h
     . rename_i hx
       cases h;exact⟨j,rfl,.inr ⟨hj,rfl⟩⟩
     rename_i hx;have hx':(x==n)=false:=by simpa using hx
     exact ih h
   rw[A0S hc,A1J] at h;rw[A1J]
   split at h
   . rename_i hx
     cases h;exact⟨_,rfl,.inl rfl⟩
   rename_i hx;have hx':(x==n)=false:=by simpa using hx
   exact ih h
structure CompS (X:Cx)(scope:Scope)(xs fr:List Str):Prop where
 kind:scope.kind = .function
 okind:X.env.scope.kind = .function
 uniq:(scope.names.map (·.1)).Nodup
 names:∀ y∈scope.names,y.2 = .local->scope.names.lookup y.1=some .local
 free:∀ y∈scope.names,y.2 = .free->X.env.kindOf y.1=some .cell\/X.env.kindOf y.1=some .free
 own:∀ x∈xs,scope.names.lookup x=some .local\/scope.names.lookup x=some .cell
 fre:∀ x∈fr,scope.names.lookup x=some .free
 nd:(xs++fr).Nodup
theorem Rs {X:Cx}{scope:Scope}{xs fr:List Str}(h:Rw X.env.scope scope xs fr=true):CompS X scope xs fr:=by unfold Rw at h;simp only[Bool.and_eq_true,List.all_eq_true,bne_iff_ne,Bool.or_eq_true,beq_iff_eq,decide_eq_true_eq] at h;obtain⟨⟨⟨⟨⟨⟨⟨⟨h1,h2⟩,h3⟩,h4⟩,h5⟩,h6⟩,h7⟩,h8⟩,h9⟩:=h;exact⟨h1,h2,h3,λy hy e=>(h4 y hy).resolve_left (λq=>q e),λy hy e=>(h5 y hy).resolve_left (λq=>q e),h7,h8,h9⟩
def Pd (σ:St)(js:List Nat):St:=js.map λj=>(σ[j]?).getD none
abbrev cxC (X:Cx)(scope:Scope)(xs fr:List Str)(C:Addr)(ex:List Addr)(s₀:Shared)(H₀:Hp):Cx:=
 {X with N:=xs++fr,env:=compEnvC scope (cellsFrom (C+1) scope.names (Ke X.env scope.names [])) C X.env,s₀:=s₀,H₀:=H₀,outer:=X.stack,ex:=ex,fn:=λx=>scope.names.lookup x==some .cell,pn:=[],xe:=λ_ _=>False}
section
variable {X:Cx}{scope:Scope}{xs fr:List Str}{pins:List (Addr×Obj)}{σ:St}{H:Hp}{s:Shared}{js:List Nat}{fp:List Addr}
theorem Pp {α:Type}{x:Str}{v:α}:∀ {l:List (Str×α)},(l.map (·.1)).Nodup->(x,v)∈l->l.lookup x=some v
 | [],_,h=>by cases h
 | (y,d) :: r,hn,h=>by
   obtain⟨h1,h2⟩:=A0H.mp hn;rw[A1J];rcases A0B.mp h with q|q
   . cases q;rw[A49]
   have hne:(x==y)=false:=A0I.mpr λe=>h1 (e ▸ A0N.mpr ⟨(x,v),q,rfl⟩);rw[hne];exact Pp h2 q
theorem CompS.cells (S:CompS X scope xs fr)(ok:X.Ok):∀ y∈scope.names,y.2=NameKind.free->∃ c,X.env.cells.lookup y.1=some c:=λy hy e=>ok.has _ (S.free y hy e)
theorem Z0 (S:CompS X scope xs fr)(hjs:js.map (λj=>X.N[j]?)=fr.map some)(I:Inv X pins σ H s)(hfp:∀ b∈fp,Sk X pins H b)(hob:∀ b∈fp,∃ o,s.heap.get? b=some o){h':Heap}{t':Nat}
  (hn:h'.Ns s.heap.objs.size λ_=>none) (keep:∀ b o,s.heap.get? b=some o->h'.get? b=some o) (hcs:CellsOk h' (s.heap.objs.size+1) (cellsFrom (s.heap.objs.size+1) scope.names [])) :
  Inv (cxC X scope xs fr s.heap.objs.size fp s H) [] (List.replicate xs.length none++Pd σ js) H {s with heap:=h',toks:=t'}:=by
 have hcl:=S.cells I.ok;have sub:∀ x c,(Ke X.env scope.names []).lookup x=some c->X.env.cells.lookup x=some c:=λx c h=>Ru hcl (λq=>by cases q) h;have hl:js.length=fr.length:=by have:=congrArg List.length hjs;rwa[A01,A01] at this
 have two:∀ x c,(cellsFrom (s.heap.objs.size+1) scope.names (Ke X.env scope.names [])).lookup x=some c->(x,c)∈cellsFrom (s.heap.objs.size+1) scope.names []\/(Ke X.env scope.names []).lookup x=some c:=λx c h=>by
  rw[Dw,A3T] at h
  cases e:(cellsFrom (s.heap.objs.size+1) scope.names []).lookup x with
  |some d=>
    rw[e] at h
    cases h;exact .inl (Do e)
  |none=>rw[e] at h;exact .inr h
 have oldc:∀ x c,X.env.cells.lookup x=some c->c<s.heap.objs.size:=λx c h=>let ⟨_,_,ho,_⟩:=I.cell x c h;A0A ho;have newc:∀ x c,(x,c)∈cellsFrom (s.heap.objs.size+1) scope.names []->s.heap.objs.size<c:=λx c h=>(hcs.empty x c h).2
 refine⟨⟨I.ok.mod,S.kind,I.ok.glob,I.ok.blt,A07 _,λx y c h1 h2=>?_,λx hx=>?_,λx c hf h=>?_,I.ok.hd,I.ok.frames,.inl rfl,λb hb=>?_,λb o e=>I.bs b o e,A0Q I.ok.bsz I.sz,λb o e hb=>?_,λb hb hb2=>?_,I.stack,I.stkFree⟩,
  rfl,I.bare,Un.kept keep,⟨_,hn,λi x v e1 e2 e3=>?_⟩,λx c h=>?_,I.hok.fresh (Nat.le_refl _),λx c h=>?_,λp hp=>absurd (show p∈([]:List (Addr×Obj)) from hp) (by simp),I.hok.kept keep,?_⟩
 . rcases two x c h1 with g1|g1
   . rcases two y c h2 with g2|g2
     . exact name_of_addr hcs.apart g1 g2
     exact absurd (oldc y c (sub y c g2)) (Nat.not_lt.mpr (A2E (newc x c g1)))
   rcases two y c h2 with g2|g2
   . exact absurd (oldc x c (sub x c g1)) (Nat.not_lt.mpr (A2E (newc y c g2)))
   exact I.ok.inj x y c (sub x c g1) (sub y c g2)
 . -- the names that are cells there have one
   have hx:(relabel scope X.env).names.lookup x=some .cell\/(relabel scope X.env).names.lookup x=some .free:=hx
   have app:∀ c,(Ke X.env scope.names []).lookup x=some c\/(x,c)∈cellsFrom (s.heap.objs.size+1) scope.names []->∃ c,(cellsFrom (s.heap.objs.size+1) scope.names (Ke X.env scope.names [])).lookup x=some c:=λc h=>by
    rw[Dw,A3T];rcases h with h|h
    . cases (cellsFrom (s.heap.objs.size+1) scope.names []).lookup x with
      |some d=>exact⟨d,rfl⟩
      |none=>exact⟨c,h⟩
    obtain⟨d,hd⟩:=Lf h;rw[hd];exact⟨d,rfl⟩
   have go:∀ k,(relabel scope X.env).names.lookup x=some k->(k = .cell\/k = .free)->∃ c,(cellsFrom (s.heap.objs.size+1) scope.names (Ke X.env scope.names [])).lookup x=some c:=λk e hk=>by
    obtain⟨j,hj,q⟩:=Gb (env:=X.env) (names:=scope.names) e;have hm:=Do hj
    have hjf:j = .free\/j = .cell:=by
     rcases q with q|q
     . rcases hk with hk|hk
       . exact .inr (q ▸ hk)
       exact .inl (q ▸ hk)
     exact .inl q.1
    rcases hjf with hjf|hjf
    . subst hjf;obtain⟨c,hc⟩:=Ob (env:=X.env) (x:=x) (names:=scope.names) (acc:=[]) (.inr hm);exact app c (.inl hc)
    subst hjf;obtain⟨c,hc⟩:=Iy (n:=s.heap.objs.size+1) hm;exact app c (.inr hc)
   rcases hx with hx|hx
   . exact go _ hx (.inl rfl)
   exact go _ hx (.inr rfl)
 . rcases two x c h with g|g
   . exact A2E (newc x c g)
   have hf':scope.names.lookup x=some .cell:=by simpa using hf
   obtain⟨d,hd⟩:=Iy (n:=s.heap.objs.size+1) (Do hf');have h':=h;obtain⟨e,he⟩:=Lf hd;have h':(cellsFrom (s.heap.objs.size+1) scope.names (Ke X.env scope.names [])).lookup x=some c:=h;rw[Dw,A3T,he] at h'
   cases h';exact A2E (newc x _ (Do he))
 . obtain⟨f0,f1,f2,f3,f4,f5⟩:=hfp b hb;obtain⟨o,ho⟩:=hob b hb;refine⟨A0P (A0A ho),λx c h z=>?_⟩;rcases two x c h with g|g
   . have h1:=newc x c g;have h2:=A0A ho;rw[<- z] at h2;exact absurd h1 (Nat.not_lt.mpr (A2E h2))
   exact f4 x c (sub x c g) z
 . obtain⟨f0,f1,f2,f3,f4,f5⟩:=hfp b hb;rcases f3 with f3|f3
   . exact I.ok.noex b o e f3
   exact absurd (A0Z (A0A (I.ok.bs b o e).1) f3) (A2F _)
 . obtain⟨f0,f1,f2,f3,f4,f5⟩:=hfp b hb;rcases A0B.mp (I.stkSub b hb2) with z|z
   . exact f1 z
   exact f2 z
 . have e1:(xs++fr)[i]? = some x:=e1
   by_cases hi:i<xs.length
   . rw[A16 (by rw[A26];exact hi),A45,A0W hi] at e2
     cases e2
   have hi':xs.length<=i:=Nat.le_of_not_lt hi;rw[A1F hi'] at e1;rw[A1F (by rw[A26];exact hi'),A26] at e2;unfold Pd at e2;rw[A08] at e2
   cases ej:js[i-xs.length]? with
   |none=>rw[ej] at e2;cases e2
   |some j=>
     rw[ej] at e2;have e2':(σ[j]?).getD none=some v:=A10 e2
     have e4:σ[j]? = some (some v):=by
      cases q:σ[j]? with
      |none=>rw[q] at e2';cases e2'
      |some o=>rw[q] at e2';rw[show o=some v from e2']
     have e5:X.N[j]? = some x:=by have:=congrArg (λl=>l[i-xs.length]?) hjs;rw[A08,A08,ej,e1] at this;exact A10 this
     have hf:=S.fre x (A05 e1);have hk:=S.free _ (Do hf) rfl;obtain⟨m,hm,hl'⟩:=I.loc;obtain⟨u,r,lk⟩:=hl' j x v e5 e4 (.inr hk);refine⟨u,r,.inr ⟨?_,?_⟩⟩
     . have q:=Ie (scope:=scope) (env:=X.env) S.okind hf;show(relabel scope X.env).names.lookup x=some .cell\/(relabel scope X.env).names.lookup x=some .free;have q':(relabel scope X.env).names.lookup x=some (if(NameKind.free==NameKind.free&&X.env.kindOf x==some .cell) then .cell else .free):=q
       by_cases hc:(NameKind.free==NameKind.free&&X.env.kindOf x==some .cell)=true
       . rw[A0W hc] at q';exact .inl q'
       rw[A0S hc] at q';exact .inr q'
     obtain⟨c',hc'⟩:=Ob (env:=X.env) (x:=x) (names:=scope.names) (acc:=[]) (.inr (Do hf));rcases lk with ⟨z,_⟩|⟨_,c,hc,ob,ho,hd⟩
     . rcases hk with hk|hk
       . rw[z] at hk;cases hk
       rw[z] at hk;cases hk
     have e6:c=c':=by have:=sub x c' hc';rw[hc] at this;exact A10 this
     subst e6;refine⟨_,?_,ob,keep _ _ ho,hd⟩;show(cellsFrom (s.heap.objs.size+1) scope.names (Ke X.env scope.names [])).lookup x=some c;rw [Dw,A3T]
     have none':(cellsFrom (s.heap.objs.size+1) scope.names []).lookup x=none:=by
      cases e:(cellsFrom (s.heap.objs.size+1) scope.names []).lookup x with
      |none=>rfl
      |some d=>
        have:=Pp S.uniq (Jy (Do e));rw[hf] at this
        cases this
     rw[none'];exact hc'
 . rcases two x c h with g|g
   . exact⟨_,(hcs.empty x c g).1⟩
   obtain⟨v,ob,ho,hd⟩:=I.cell x c (sub x c g);exact⟨v,ob,keep _ _ ho,hd⟩
 . rcases two x c h with g|g
   . exact I.hok.fresh (A2E (newc x c g))
   exact I.freeC x c (sub x c g)
 show _=(xs++fr).length;unfold Pd;rw[A09,A09,A26,A01,hl]
theorem Wo {M:Model}{A:Around}{E:Value->Shared->Prop}{s:Shared}{scope:Scope}{globals:Addr}{cl:List (Str×Addr)}{qual:Str}{env:Env}{Q:Env->Shared->Prop}
  (hQ:∀ h',h'.Ns s.heap.objs.size (λ_=>none)->(∀ b o,s.heap.get? b=some o->h'.get? b=some o)->CellsOk h' (s.heap.objs.size+1) (cellsFrom (s.heap.objs.size+1) scope.names []) ->
   Q (newEnv scope s.heap.objs.size globals (cellsFrom (s.heap.objs.size+1) scope.names cl) qual none .none (some env) builtinsNs) {s with heap:=h'}) :
  wpAny M A (newFunctionEnv scope globals cl [] qual none .none (some env)) Q E s:=by
 simp only[newFunctionEnv,Option.isSome_some,if_true];refine A00 (wpAny_alloc ?_);refine wpAny_bind (wpAny_layCells _ (λname kind cells=>by cases hkc:kind==NameKind.cell<;>simp[hkc]) _ _ _ _ ?_)
 have okc:=cellsFrom_ok scope.names (s.heap.push {cls:=.type "dict",data:=.dict #[]}) (s.heap.objs.size+1) [] ⟨λ_ _ hm=>(nomatch hm),List.Pairwise.nil⟩ (by rw[A2J];exact A07 _);rw[A2J] at okc;rw[show({s with heap:=s.heap.push {cls:=.type "dict",data:=.dict #[]}}:Shared).heap.objs.size=s.heap.objs.size+1 from A2J ..]
 rw[List.forIn_nil];exact A00 (A04 (A04 (hQ _ ((Heap.Ns.new s.heap (.type "dict")).keeps (pushCells_keeps _ _)) (λb o e=>pushCells_keeps _ _ b o (A03 _ e)) okc)))
theorem Xd {σ':St}{H':Hp}{s':Shared}{h'':Heap}(I:Inv X pins σ H s)(hfp:∀ b∈fp,Sk X pins H b)(J:Inv (cxC X scope xs fr s.heap.objs.size fp s H) [] σ' H' s')(hs:Heap.SameBut s.heap.objs.size s'.heap h'') :
  Inv X pins σ H' {s' with heap:=h''}:=by
 have old:∀ b o,s.heap.get? b=some o->b≠s.heap.objs.size:=λb o e=>A0P (A0A e);have ub:Un (frs X.stack) fp H H' s.heap s'.heap:=J.base;refine I.call' (s':={s' with heap:=h''}) (ch:=fp) J.os ⟨λb o e n hb hx=>(hs.2 b (old b o e)).trans (ub.keep b o e n hb hx),λb o e n hb hx=>?_,ub.free,λb o e hx=>?_,ub.tups,ub.frzs,ub.tbls⟩ (λb o e=>?_) J.bare λb hb=>?_
 . obtain⟨sl,e1⟩:=ub.slot b o e n hb hx;exact⟨sl,(hs.2 b (old b o e)).trans e1⟩
 . obtain⟨o',e1⟩:=ub.there b o e hx;exact⟨o',(hs.2 b (old b o e)).trans e1⟩
 . have hf:H' s.heap.objs.size=none:=J.free;refine(J.hok b o e).stay (λc v hc q=>(hs.2 c ?_).trans q) (λ_ q=>q) λ_ _ q=>q;intro z;rcases hc with hc|hc
   . rw[<- hc,z,hf] at e;cases e
   rw[z,hf] at hc;cases hc
 obtain⟨f0,f1,f2,f3,f4,f5⟩:=hfp b hb;exact⟨f3,f1,f4,f5⟩
def PIf (X:Cx)(ifs:List Expr)(t:TT):Prop:=
 ∀(pins:List (Addr×Obj)) (s:Shared) (σ:St) (H:Hp) (Q:Bool->Hp->Prop) (E:Value->Shared->Prop),(∀ e s',X.xe e s'->E e s')->Inv X pins σ H s->t σ H Q ->
  wpAny (model X.prog X.w) X.A (forIn ifs true λc r=>if r=true then do let ok <- isTrue c X.env (eval c X.env);pure (ForInStep.yield ok) else pure (ForInStep.yield r)) (TP X pins σ Q) E s
def ab5:TT:=λ_ H Q=>Q true H
theorem Ct:PIf X [] ab5:=λ_ _ _ H _ _ _ I h=>wpAny_tests_nil ⟨H,I,h⟩
theorem He {c:Expr}{t:TT}(hc:PT X c t):PIf X [c] t:=λpins s σ H Q _ hE I h=>wpAny_tests_one (A1X (hc pins s σ H Q I h) (λ_ _ z=>z) hE)
def ac4 (k:Nat)(js:List Nat)(wi:TI)(g:TG)(tt:TT)(te:TE):TE:=fun σ H Q=>wi σ H λJ H1=>∀ p,H1 p=none ->
 ∃ W:Nat->Nat->Hp->Prop,(∃ m,W 0 m (upd H1 p (.lst [])))/\∀ i m H,W i m H ->
  (J.stop i H/\Q (.ref p) H)\/(J.go i H/\∃ N:Hp->Prop,(∀ H',N H'->∃ m',m'<m/\W (i+1) m' H') /\
   ∀ x H',J.yld i H x H'->g x (List.replicate k none++Pd σ js) H' fun σ2 H2=>tt σ2 H2 λb H3=>if b=true then te σ2 H3 λy H4=>∃ acc,H4 p=some (.lst acc)/\acc.length<sizeLine/\N (upd H4 p (.lst (acc++[y]))) else N H3)
theorem Vz {tg elt iter:Expr}{ifs:List Expr}{pos:Pos}{it acc:Value}{env:Env}{A:Around}{R:Result->Shared->Prop}{s:Shared}{P:Program}{w:World}(I:Nat->Shared->Prop)
  (turn:∀ n s,I n s->wpAny (model P w) A (pyNext it) (λr s₁=>match r with
   |none=>R (.ok .next) s₁
   |some v=>wpAny (model P w) A (letOwnedTupleGo tg it v) (λ_ s₁'=>wpAny (model P w) A (assign tg env v) (λ_ s₂=>
     wpAny (model P w) A (forIn ifs true λc r=>if r=true then do let ok <- isTrue c env (eval c env);pure (ForInStep.yield ok) else pure (ForInStep.yield r)) (λok s₃=>
      if ok=true then wpAny (model P w) A (eval elt env) (λx s₄=>wpAny (model P w) A (call (.builtin "list.append") [acc,x]) (λ_ s₅=>∃ m,m<n/\I m s₅) (λ_ _=>False) s₄) (λ_ _=>False) s₃
      else ∃ m,m<n/\I m s₃) (λ_ _=>False) s₂) (λ_ _=>False) s₁') (λ_ _=>False) s₁) (λ_ _=>False) s)
  (n:Nat) (h:I n s):codeAny (model P w) A (.compLoop (.ListComp elt [⟨tg,iter,ifs,0⟩] scope pos) 0 it acc env) R s:=by
 refine codeAny_loop rfl I (λn s hI=>?_) n h;show wpAny _ A ((compTurn (.ListComp elt [⟨tg,iter,ifs,0⟩] scope pos) 0 it acc env).onRaise (λx=>do noteFrame x env;theTreesLotGoes x)) _ _ s
 refine wpAny_noted ?_;rw [compTurn_list];refine A00 (A47 (A00 (A1X (turn n s hI) (λr s₁ h₁=>?_) λ_ _ h'=>h'.elim)))
 cases r with
 |none=>exact A04 h₁
 |some v=>
   refine A00 (A1X h₁ (λ_ s₁' h₁'=>?_) λ_ _ h'=>h'.elim);refine A00 (A1X h₁' (λ_ s₂ h₂=>A00 (A1X h₂ (λok s₃ h₃=>?_) λ_ _ h'=>h'.elim)) λ_ _ h'=>h'.elim)
   cases ok with
   |false=>exact A04 ⟨rfl,h₃⟩
   |true=>exact A00 (A00 (A1X h₃ (λx s₄ h₄=>A00 (A1X h₄ (λ_ s₅ h₅=>A04 (A04 ⟨rfl,h₅⟩)) λ_ _ h'=>h'.elim)) λ_ _ h'=>h'.elim))
def Z9 (n:Nat)(g:TG):Prop:=∀ x σ H Q,g x σ H Q->g x σ H fun σ' H'=>(∀ k,n<=k->σ'[k]? = σ[k]?)/\Q σ' H'
theorem Bf {n i:Nat}(h:i<n):Z9 n (M3 i):=λx σ H Q q=>⟨λk hk=>A28 ∅,q⟩
theorem Rr {tg elt iter:Expr}{ifs:List Expr}{pos:Pos}{g:TG}{tt:TT}{te:TE}(hc:X.calm=true)(S:CompS X scope xs fr)(hjs:js.map (λj=>X.N[j]?)=fr.map some)
  (hg:∀ C ex s₀ H₀,PG (cxC X scope xs fr C ex s₀ H₀) tg g) (hk:Z9 xs.length g) (hi:∀ C ex s₀ H₀,PIf (cxC X scope xs fr C ex s₀ H₀) ifs tt) (he:∀ C ex s₀ H₀,PE (cxC X scope xs fr C ex s₀ H₀) elt te)
  {s2:Shared} {H1:Hp} {R:Value->Addr->Result->Shared->Prop} {Q:VK} {it:Addr} {tn:Nat->Heap->Prop} {J:It} (I:Inv X pins σ H1 s2) (T:Yh X.prog X.w X.K tg J fp it tn) (st:tn 0 s2.heap) (hfp:∀ b∈fp,Sk X pins H1 b)
  (hq:∀ p,H1 p=none->∃ W:Nat->Nat->Hp->Prop,(∃ m,W 0 m (upd H1 p (.lst [])))/\∀ i m H,W i m H ->
   (J.stop i H/\Q (.ref p) H)\/(J.go i H/\∃ N:Hp->Prop,(∀ H',N H'->∃ m',m'<m/\W (i+1) m' H') /\
    ∀ x H',J.yld i H x H'->g x (List.replicate xs.length none++Pd σ js) H' fun σ2 H2=>tt σ2 H2 λb H3=>if b=true then te σ2 H3 λy H4=>∃ acc,H4 p=some (.lst acc)/\acc.length<sizeLine/\N (upd H4 p (.lst (acc++[y]))) else N H3))
  (hR:∀(p C:Addr) (s':Shared) (H':Hp),(∃ m,s'.heap.Ns C m)->Sk X pins H' C->Inv X pins σ H' s'->Q (.ref p) H'->R (.ref p) C (.ok .next) s') :
  wpAny (model X.prog X.w) X.A (newList []) (λacc s₃=>wpAny (model X.prog X.w) X.A (newFunctionEnv scope X.env.globals (Ke X.env scope.names []) [] X.env.qual none .none (some X.env)) (λcenv s₄=>
   codeAny (model X.prog X.w) X.A (.compStart (.ListComp elt [⟨tg,iter,ifs,0⟩] scope pos) 0 (.ref it) acc {cenv with scope:=relabel scope X.env}) (R acc cenv.locals) s₄) X.xe s₃) X.xe s2:=by
 refine A1L ?_ (by show 0<=sizeLine;exact A2Q _);have hn0:H1 s2.heap.objs.size=none:=I.hok.fresh (A07 _);have I3:Inv X pins σ (upd H1 s2.heap.objs.size (.lst [])) {s2 with heap:=s2.heap.push {cls:=.type "list",data:=.seq ([]:List Value).toArray}}:=I.laid (t':=s2.toks) (λb u e=>A03 _ e) (A07 _) ⟨A2Q _,[],0,.nil,A0K _ rfl⟩
 obtain⟨W,⟨m0,w0⟩,turn⟩:=hq _ hn0;have hob:∀ b∈fp,∃ o,s2.heap.get? b=some o:=λb hb=>let ⟨o,e,_⟩:=T.obj _ _ st b hb;⟨o,e⟩
 have hfp3:∀ b∈fp,Sk X pins (upd H1 s2.heap.objs.size (.lst [])) b:=λb hb=>by obtain⟨f0,f⟩:=hfp b hb;obtain⟨o,e⟩:=hob b hb;exact⟨by rw[Al (A0P (A0A e))];exact f0,f⟩
 have hob3:∀ b∈fp,∃ o,(s2.heap.push {cls:=.type "list",data:=.seq ([]:List Value).toArray}).get? b=some o:=λb hb=>let ⟨o,e⟩:=hob b hb;⟨o,A03 _ e⟩;have st3:tn 0 (s2.heap.push {cls:=.type "list",data:=.seq ([]:List Value).toArray}):=T.keep _ _ _ st λb _ o e=>A03 _ e;generalize hs3:({s2 with heap:=s2.heap.push {cls:=.type "list",data:=.seq ([]:List Value).toArray}}:Shared)=s3 at I3 ⊢;have st3':tn 0 s3.heap:=by rw[<- hs3];exact st3
 have hob3':∀ b∈fp,∃ o,s3.heap.get? b=some o:=by rw[<- hs3];exact hob3
 generalize hH3:upd H1 s2.heap.objs.size (.lst [])=H3 at I3 hfp3 w0;generalize hp0:s2.heap.objs.size=p0 at turn ⊢;refine Wo λh₁ hns₁ hkp₁ hco₁=>?_;have I4:=Z0 (t':=s3.toks) S hjs I3 hfp3 hob3' hns₁ hkp₁ hco₁;have st4:tn 0 h₁:=T.keep _ _ _ st3' λb hb o e=>hkp₁ b o e
 have loop:∀ s₄:Shared,Inv (cxC X scope xs fr s3.heap.objs.size fp s3 H3) [] (List.replicate xs.length none++Pd σ js) H3 s₄->tn 0 s₄.heap ->
   codeAny (model X.prog X.w) X.A (.compLoop (.ListComp elt [⟨tg,iter,ifs,0⟩] scope pos) 0 (.ref it) (.ref p0) (compEnvC scope (cellsFrom (s3.heap.objs.size+1) scope.names (Ke X.env scope.names [])) s3.heap.objs.size X.env)) (R (.ref p0) s3.heap.objs.size) s₄:=by
  intro s₄ I4 st4
  have stat:∀ {H':Hp},(∀ b∈fp,H' b=none)->∀ b∈fp,Sk (cxC X scope xs fr s3.heap.objs.size fp s3 H3) [] H' b:=fun {H'} hn b hb=>by obtain⟨f0,f1,f2,f3,f4,f5⟩:=hfp3 b hb;obtain⟨o,e⟩:=hob3' b hb;refine⟨hn b hb,Nat.ne_of_lt (Heap.lt_size e),I4.ok.exfs b hb,.inl hb,λx c h=>(I4.ok.exf b hb).2 x c h,λp hp=>absurd (show p∈([]:List (Addr×Obj)) from hp) (by simp)⟩
  refine Vz (λn s'=>∃ i H',Inv (cxC X scope xs fr s3.heap.objs.size fp s3 H3) [] (List.replicate xs.length none++Pd σ js) H' s'/\tn i s'.heap/\(∀ b∈fp,H' b=none)/\W i n H') ?_ m0 ⟨0,H3,I4,st4,λb hb=>(hfp3 b hb).1,w0⟩;rintro n s5 ⟨i,H5,I5,st5,fr5,w5⟩;rcases turn i n H5 w5 with ⟨stop,qn⟩|⟨go,N,hN,step⟩
  . refine thn (T.done (cxC X scope xs fr s3.heap.objs.size fp s3 H3) rfl rfl rfl hc i [] s5 _ H5 (λ_ _=>False) I5 (stat fr5) st5 stop) λr s6 ⟨hr,I6⟩=>?_;subst hr;obtain⟨m6,n6,_⟩:=id I6.loc;exact hR p0 s3.heap.objs.size s6 H5 ⟨m6,n6⟩ (I3.fpOk (A07 _) I6.free) (Xd I3 hfp3 I6 (Heap.SameBut.refl ..)) qn
  refine thn (T.item (cxC X scope xs fr s3.heap.objs.size fp s3 H3) rfl rfl rfl hc i [] s5 _ H5 (λ_ _=>False) I5 (stat fr5) st5 go) λr s6 ⟨u,hr,h6⟩=>?_;subst hr;refine thn h6 λ_ s7 ⟨x,H7,I7,r7,y7,st7,fr7⟩=>?_;have I7':=I7.pinned (stat fr7) (T.obj _ _ st7);refine thn (hg _ _ _ _ _ s7 _ H7 x u _ I7' r7 (hk _ _ _ _ (step x H7 y7))) λ_ s8 ⟨σ8,H8,I8,kp8,q8⟩=>?_
  have again:∀ {s9:Shared} {H9:Hp},Inv (cxC X scope xs fr s3.heap.objs.size fp s3 H3) ([]++Oh fp s7.heap) σ8 H9 s9->N H9 ->
    ∃ m,m<n/\∃ i H',Inv (cxC X scope xs fr s3.heap.objs.size fp s3 H3) [] (List.replicate xs.length none++Pd σ js) H' s9/\tn i s9.heap/\(∀ b∈fp,H' b=none)/\W i m H':=fun {s9 H9} I9 n9=>by
   obtain⟨m',hm,w9⟩:=hN H9 n9;refine⟨m',hm,i+1,H9,I9.unpinned.weak ?_ ?_,T.keep _ _ _ st7 λb hb o e=>(I9.pin (b,o) (A1E _ (A1E _ (Hz hb e)))).1,λb hb=>?_,w9⟩
   . rw[I9.len,I5.len]
   . intro k v hkv
     by_cases hx:k<xs.length
     . rw[A16 (by rw[A26];exact hx),A45,A0W hx] at hkv
       cases hkv
     rw[kp8 k (Nat.le_of_not_lt hx)];exact hkv
   obtain ⟨o,e,d⟩:=T.obj _ _ st7 b hb;exact(I9.pin (b,o) (A1E _ (A1E _ (Hz hb e)))).2.1
  refine A1X (hi _ _ _ _ _ s8 σ8 H8 _ (λ_ _=>False) (λ_ _ z=>z) I8 q8) (λok s9 ⟨H9,I9,q9⟩=>?_) λ_ _ z=>z
  cases ok with
  |false=>rw[A0S A0C];rw[A0S A0C] at q9;exact again I9 q9
  |true=>rw[A0W rfl];rw[A0W rfl] at q9;refine thn (he _ _ _ _ _ s9 σ8 H9 _ I9 q9) λuy s10 ⟨y,H10,I10,r10,acc,hacc,hz,n10⟩=>?_;refine thn (Jg _ s10 σ8 H10 (.ref p0) [y] (.ref p0) [uy] (λ_ H11=>N H11) I10 rfl (.cons r10 .nil) ⟨p0,acc,y,rfl,rfl,hacc,hz,n10⟩) λ_ s11 ⟨_,H11,I11,_,n11⟩=>?_;exact again I11 n11
 exact codeAny_compStart_list (loop _ I4 st4) (T.self _ _ _ _ _ st4 (loop _ I4 st4))
theorem Inv.letgo {C:Addr}{h'':Heap}(I:Inv X pins σ H s)(f:Sk X pins H C)(hs:Heap.SameBut C s.heap h''):Inv X pins σ H {s with heap:=h''}:=by obtain⟨f0,f1,f2,f3,f4,f5⟩:=f;exact I.turned (t':=s.toks) (λb o hb e=>(hs.2 b hb).trans e) f0 f1 f3 f4 f5
theorem Cm {tg elt iter:Expr}{ifs:List Expr}{pos:Pos}{wi:TI}{g:TG}{tt:TT}{te:TE}(xs fr:List Str)(js:List Nat)(hc:X.calm=true)(hS:Rw X.env.scope scope xs fr=true)(hjs:js.map (λj=>X.N[j]?)=fr.map some)(hw:PI X tg iter wi)
  (hg:∀ C ex s₀ H₀,PG (cxC X scope xs fr C ex s₀ H₀) tg g) (hk:Z9 xs.length g) (hi:∀ C ex s₀ H₀,PIf (cxC X scope xs fr C ex s₀ H₀) ifs tt) (he:∀ C ex s₀ H₀,PE (cxC X scope xs fr C ex s₀ H₀) elt te)
  (hs:∀ x,foldedSetIterable iter X.env x=pure x:=by intro _;ac_nf) :
  PE X (.ListComp elt [⟨tg,iter,ifs,0⟩] scope pos) (ac4 xs.length js wi g tt te):=by
 intro pins s σ H Q I h;have S:=Rs hS;rw[eval_ListComp];refine wpAny_comprehension_free (use:=none) rfl hs (Mc (S.cells I.ok)) S.kind S.names ?_;refine thn (hw pins s σ H _ I h) λv s1 h1=>thn h1 λitv s2 h2=>?_;obtain⟨it,fp,tn,J,H2,e,I2,T,st2,f2,q2⟩:=h2;subst e;refine Rr (Q:=Q) (R:=λacc C=>compPost (model X.prog X.w) X.A X.xe none (EP X pins σ Q) acc C) hc S hjs hg hk hi he I2 T st2 f2 q2 ?_;intro p C s' H' ⟨m,hn⟩ fC hI q;exact⟨m,hn,λh'' hs''=>⟨.ref p,H',hI.letgo fC hs'',rfl,q⟩⟩
theorem Ec {tg elt iter:Expr}{ifs:List Expr}{pos spos py:Pos}{wi:TI}{g:TG}{tt:TT}{te:TE}{i:Nat}{y:Str}(xs fr:List Str)(js:List Nat)(hc:X.calm=true)(hS:Rw X.env.scope scope xs fr=true)(hjs:js.map (λj=>X.N[j]?)=fr.map some)
  (hN:X.N.Nodup) (hi':X.N[i]? = some y) (hy:X.env.scope.names.lookup y=some .local) (hw:PI X tg iter wi)
  (hg:∀ C ex s₀ H₀,PG (cxC X scope xs fr C ex s₀ H₀) tg g) (hk:Z9 xs.length g) (hi:∀ C ex s₀ H₀,PIf (cxC X scope xs fr C ex s₀ H₀) ifs tt) (he:∀ C ex s₀ H₀,PE (cxC X scope xs fr C ex s₀ H₀) elt te)
  (hsw:swapsWith (.ListComp elt [⟨tg,iter,ifs,0⟩] scope pos) (some (.Name y py)) spos.line X.env=pure true:=by ac_nf)
  (hs:∀ x,foldedSetIterable iter X.env x=pure x:=by intro _;ac_nf) :
  PS X (.Assign [.Name y py] (.ListComp elt [⟨tg,iter,ifs,0⟩] scope pos) spos) (aj7 (ac4 xs.length js wi g tt te) (M3 i)):=by
 intro pins s σ H D I h;have S:=Rs hS;rw[exec_Assign_Name_used _ _ _ _ hsw];refine A00 (A47 (A00 ?_));show wpAny _ X.A (do let _ <- comprehension (.ListComp elt [⟨tg,iter,ifs,0⟩] scope pos) scope X.env _ (newList []) false (eval iter X.env) (some (assign (.Name y py) X.env))) _ _ s
 refine A00 (A1X (wpAny_comprehension_free (use:=some (assign (.Name y py) X.env)) (Q:=λ_ s'=>SP X pins D .next s') rfl hs (Mc (S.cells I.ok)) S.kind S.names ?_) (λ_ s' hq=>A04 (A04 hq)) λ_ _ e=>e);refine thn (hw pins s σ H _ I h) λv s1 h1=>thn h1 λitv s2 h2=>?_;obtain⟨it,fp,tn,J,H2,e,I2,T,st2,f2,q2⟩:=h2;subst e;refine Rr (Q:=λx H1=>M3 i x σ H1 D.nx) (R:=λacc C=>compPost (model X.prog X.w) X.A X.xe (some (assign (.Name y py) X.env)) (λ_ s'=>SP X pins D .next s') acc C) hc S hjs hg hk hi he I2 T st2 f2 q2 ?_;intro p C s' H' ⟨m,hn⟩ fC I' q;show wpAny _ X.A (assign (.Name y py) X.env (.ref p)) _ _ s';refine wpAny_assign_Name (Pm I' hN hi' (.inl hy) (show RelV (.ref p) (.ref p) from rfl) (λs'' I'' ⟨a,hs1,ha⟩=>?_) (.inr hy))
 have hne:C≠a:=by
  rcases ha with ha|ha
  . rw[ha];exact fC.2.1
  exact(fC.2.2.2.2.1 y a ha).symm
 exact⟨m,hn.sameBut hs1 hne,λh'' hs''=>⟨_,H',I''.letgo fC hs'',q⟩⟩
end
def Its (x:Str):It:=⟨λi _=>i<x.cps.size,λi H v H'=>H'=H/\∃ c,x.cps[i]? = some c/\v = .str ⟨#[c]⟩,λi _=>x.cps.size<=i⟩
section
variable {X:Cx}{tg:Expr}
theorem Y5 {P:Program}{w:World}{K:PySem.W.Frag}{tg:Expr}{it:Addr}{n:Nat}{PV:Nat->Value->Prop}{val:Nat->V->Prop}{St:Nat->Heap->Prop}(W:∀ A:Around,A.handled=none->Walks P w A it [it] [it] n PV St)
  (hself:∀(A:Around) (i:Nat) (s:Shared) (Q:Value->Shared->Prop) (E:Value->Shared->Prop),St i s.heap->Q (.ref it) s->wpAny (model P w) A (pyIter (.ref it)) Q E s)
  (hv:∀ i u,PV i u->∃ v,RelV v u/\val i v) (hto:∀ i h,St i h->∃ o T vs,h.get? it=some o/\o.cls = .type T/\o.data = .fields vs/\["enumerate","zip","dict_itemiterator","dict_reverseitemiterator","odict_iterator","itertools.zip_longest","itertools.pairwise"].contains T=false) :
  Yh P w K tg ⟨λi _=>i<n,λi H v H'=>H'=H/\val i v,λi _=>n<=i⟩ [it] it (λi h=>St i h/\i<=n) where
 mem:=by simp
 obj:=λi h st b hb=>by
  have e:b=it:=by simpa using hb
  subst e;obtain⟨o,T,vs,e1,e2,e3,e4⟩:=hto i h st.1;exact⟨o,e1,λv z=>by rw[e3] at z;cases z⟩
 keep:=λi h h' st k=>⟨(W {handled:=none} rfl).frame i h h' st.1 k,st.2⟩
 item:=by
  intro X hP hw hK hc i pins s σ H E I hf st hg;subst hP hw hK;obtain⟨f0,f1,f2,f3,f4,f5⟩:=hf it (by simp);refine(W X.A (I.ok.hd hc)).item i s _ _ hg st.1 λu h' tk hp st' kk=>?_;obtain⟨v,rv,vv⟩:=hv i u hp;have I1:Inv X pins σ H {s with heap:=h',toks:=tk}:=I.turned (λb o hb e=>kk b o (by simpa using hb) e) f0 f1 f3 f4 f5
  obtain⟨o,T,vs,e1,e2,e3,e4⟩:=hto _ _ st';exact⟨u,rfl,Ts (s:={s with heap:=h',toks:=tk}) e1 e2 e3 e4 ⟨v,H,I1,rv,⟨rfl,vv⟩,⟨st',hg⟩,λb hb=>(hf b hb).1⟩⟩
 done:=by intro X hP hw hK hc i pins s σ H E I hf st hg;subst hP hw hK;obtain⟨f0,f1,f2,f3,f4,f5⟩:=hf it (by simp);have e:i=n:=Nat.le_antisymm st.2 hg;subst e;exact(W X.A (I.ok.hd hc)).done s _ _ st.1 λh' tk kk=>⟨rfl,I.turned (λb o hb e=>kk b o (by simpa using hb) e) f0 f1 f3 f4 f5⟩
 self:=λA i s Q E st h=>hself A i s Q E st.1 h
theorem at4 {pins:List (Addr×Obj)}{σ:St}{H1:Hp}{s1:Shared}{R:It->Hp->Prop}{E:Value->Shared->Prop}{z:Str}{v:Value}(I1:Inv X pins σ H1 s1)(r1:RelV (.str z) v)(q:R (Its z) H1):wpAny (model X.prog X.w) X.A (pyIter v) (PIE X pins σ tg R) E s1:=by
 obtain⟨t,rfl⟩:=r1;have sv:∀ i u,SignAt z i u->∃ v,RelV v u/\∃ c,z.cps[i]? = some c/\v = .str ⟨#[c]⟩:=λi u ⟨c,tu,hc,hu⟩=>⟨.str ⟨#[c]⟩,⟨tu,hu⟩,c,hc,rfl⟩
 have fin:∀(o:Obj) (St:Nat->Heap->Prop) (n:Nat),St 0 (s1.heap.push o)->Yh X.prog X.w X.K tg (Its z) [s1.heap.objs.size] s1.heap.objs.size (λi h=>St i h/\i<=z.cps.size)->PIE X pins σ tg R (.ref s1.heap.objs.size) {s1 with heap:=s1.heap.push o}:=λo St n h0 T=>by
  refine⟨s1.heap.objs.size,[s1.heap.objs.size],_,_,H1,rfl,I1.kept (t':=s1.toks) λb ob e=>A03 _ e,T,⟨h0,A2Q _⟩,λb hb=>?_,q⟩;have e:b=s1.heap.objs.size:=by simpa using hb
  subst e;exact I1.fpOk (A07 _) (I1.hok.fresh (A07 _))
 cases ha:z.cps.all (· < 128)
 . exact wpAny_pyIter_wide ha (fin _ _ 0 ⟨_,A0K _ rfl,rfl,rfl⟩ (Y5 (λA hA=>Walks.strWide hA _ z t) (λ_ _ _ _ _ st hq=>wpAny_pyIter_striter_wide st hq) sv λi h ⟨o,ho,hc,hd⟩=>⟨o,_,_,ho,hc,hd,by decide⟩))
 exact wpAny_pyIter_ascii ha (fin _ _ 0 ⟨_,A0K _ rfl,rfl,rfl⟩ (Y5 (λA hA=>Walks.strAscii hA _ z t) (λ_ _ _ _ _ st hq=>wpAny_pyIter_striter_ascii st hq) sv λi h ⟨o,ho,hc,hd⟩=>⟨o,_,_,ho,hc,hd,by decide⟩))
end
section
variable {X:Cx}
def az7:V->Option Int->Option Int->Hp->VK->Prop:=λx lo hi H Q=>∃ z,x = .str z/\z.length<=sizeLine/\Q (.str (Txt.slice z lo hi)) H
theorem sl_str:SlR X az7:=by
 intro pins s σ H x v vl vu lo hi sl Q I rx hs pl pu h;obtain⟨z,rfl,hz,q⟩:=h;obtain⟨t,rfl⟩:=rx;have fin:∀ t' k,EP X pins σ Q (.str (Txt.slice z lo hi) t') {s with toks:=k}:=λt' k=>⟨.str _,H,I.tok _,⟨_,rfl⟩,q⟩
 have sz:=A0Q (Txt.slice_le z lo hi) hz;refine⟨"str",_,F.slot_str_getitem.lookup,typeIs_str _ _ _,?_⟩
 cases pl with
 |none=>
   cases pu with
   |none=>exact A36 (l:=none) (u:=none) (st:=none) hs rfl (A4J ⟨sz,fin⟩)
   |int j uj=>exact A36 (l:=none) (u:=some (j,uj)) (st:=none) hs rfl (A4J ⟨sz,fin⟩)
 |int i ui=>
   cases pu with
   |none=>exact A36 (l:=some (i,ui)) (u:=none) (st:=none) hs rfl (A4J ⟨sz,fin⟩)
   |int j uj=>exact A36 (l:=some (i,ui)) (u:=some (j,uj)) (st:=none) hs rfl (A4J ⟨sz,fin⟩)
theorem Ra:∀ {ys:List Str} {us:List Value},Vals (ys.map V.str) us->StrsAre us ys
 | [],_,.nil=>.nil
 |y :: ys,_,.cons r t=>by obtain⟨tk,rfl⟩:=r;exact .cons y tk (Ra t)
theorem Ua:CallR X (.builtin "repr") (λxs H Q=>(∃ b,xs=[.bl b]/\Q (.str (if b then "True" else "False")) H)\/(xs=[.non]/\Q (.str "None") H)):=by
 intro pins s σ H xs us Q I r h;rcases h with ⟨b,rfl,q⟩|⟨rfl,q⟩
 . obtain⟨u,rfl,ru⟩:=J7 r
   cases ru;exact PySem.P.repr_of_bool ⟨.str _,H,I.tok _,⟨_,rfl⟩,q⟩
 obtain⟨u,rfl,ru⟩:=J7 r
 cases ru;exact PySem.P.repr_of_none ⟨.str _,H,I.tok _,⟨_,rfl⟩,q⟩
end
section
variable {X:Cx}{x:Str}{pos:Pos}
theorem Tu {v:V}(hg:Gl X x)(hm:∃ u,X.mg x=some u/\RelV v u)(hd:(x==("__debug__":Str))=false:=by decide):PE X (.Name x pos) (tC v):=by obtain⟨u,h1,h2⟩:=hm;exact a77 hg h1 h2 hd
end
section
variable {X:Cx}{K:W.Frag}
def aj1 (K:W.Frag):R2:=λx y H Q=>∃ a b ys,x = .ref a/\y = .ref b/\SqT K H a []/\SqT K H b ys/\Q (.ref b) H
theorem ae5:OpR X (binaryOp .Add) (aj1 X.K):=by
 intro pins s σ H x y v u Q I rx ry h;obtain⟨a,b,ys,rfl,rfl,ha,hb,q⟩:=h
 cases rx
 cases ry;obtain⟨its,r1,p1,_⟩:=I.tuple ha;obtain⟨its2,r2,p2,_⟩:=I.tuple hb
 cases r1;obtain⟨⟨cls,dd,data,sl⟩,ho,hc,n,hd⟩:=id p1;obtain⟨⟨cls2,dd2,data2,sl2⟩,ho2,hc2,n2,hd2⟩:=id p2;simp only at hc hd hc2 hd2;subst hc hd hc2 hd2;exact concat_meets ⟨_,ho,rfl⟩ ⟨_,ho2,rfl⟩ noFill_tuple_add seq_tuple_add PySem.F.slot_tuple_add PySem.F.entry_tuple_add (PySem.F.args_tuple_add_2 _ _) (tuple_addW0 a b _ _ n n2 dd dd2 sl sl2 (by simp)) ⟨ho,ho2,⟨.ref b,H,I,rfl,q⟩⟩
def ay5 (K:W.Frag):V->Option Int->Option Int->Hp->VK->Prop:=λx lo hi H Q=>∃ a xs,x = .ref a/\SqT K H a xs/\(HT.sIx xs.length 0 lo=0/\HT.sIx xs.length xs.length hi=xs.length)/\Q (.ref a) H
theorem Zp:SlR X (ay5 X.K):=by
 intro pins s σ H x v vl vu lo hi sl Q I rx hs pl pu h;obtain⟨a,xs,rfl,hx,hw,q⟩:=h
 cases rx;obtain⟨its,r,ht,hz⟩:=I.tuple hx;have hlen:its.toArray.size=xs.length:=by rw[A0T];exact r.length.symm
 refine⟨"tuple",_,PyProof.Rows.slot_tuple_getitem.lookup,ht.typeIs,?_⟩;obtain⟨os,hos,hcs,hds⟩:=id hs;have hTs:s.TypeIs (.ref sl) "slice":=⟨os,hos,hcs⟩;unfold getItem
 try with_reducible refine A1H ?_
 first | refine A00 (A04 ?_) | skip
 refine A00 (wpAny_sequenceKey ht.typeIs nofun ?_);refine A00 (A1V (name:=Str.ofString "__getitem__") ht.typeIs A1K (A24 A1K ht.typeIs entry_tuple_getitem ?_ (args_tuple_getitem _ _)));refine A00 (m:=Builtin.Tuple.tupleItemsOf (.ref a)) (tupleItemsOf_ ht ?_);refine A00 (A3F hTs ?_);rw[A0W nofun];refine A00 (HT.sliceApplied_gen hs pl pu ?_)
 have yes:(((HT.sIx its.toArray.size 0 lo:Nat):Int)==0&&(1:Int)==1&&(HT.sIx its.toArray.size its.toArray.size hi-HT.sIx its.toArray.size 0 lo)==its.toArray.size)=true:=by rw[hlen,hw.1,hw.2];simp
 show wpAny _ _ (if(((HT.sIx its.toArray.size 0 lo:Nat):Int)==0&&(1:Int)==1&&(HT.sIx its.toArray.size its.toArray.size hi-HT.sIx its.toArray.size 0 lo)==its.toArray.size)=true then _ else _) _ _ s
 rw[A0W yes];have fin:∀ s',s'=s->EP X pins σ Q (.ref a) s':=λs' e=>by subst e;exact⟨.ref a,H,I,rfl,q⟩
 unfold Builtin.Tuple.tupleIsExact;obtain⟨hp,g,d,tk,os⟩:=s;have hT:=ht.typeIs
 repeat (any_goals (first | assumption | wp_step))
 exact⟨_,rfl,A04 (fin _ rfl)⟩
end
theorem Inv.freeze {X:Cx}{pins:List (Addr×Obj)}{σ:St}{H:Hp}{s:Shared}{d:Addr}{kvs:List (Key×V)}{o:Obj}(I:Inv X pins σ H s)(hd:H d=some (.dK kvs))(ho:s.heap.get? d=some o):Inv X pins σ (upd H d (.frz o (.dK kvs))) s:=by
 have nn:∀ b,H b=none->upd H d (.frz o (.dK kvs)) b=none:=λb h=>by rw[Al (Ne.symm (ne_of_none hd h))];exact h
 have other:∀ b u,H b=some u->u ≠ .dK kvs->upd H d (.frz o (.dK kvs)) b=some u:=λb u h q=>by rw[Al (ne_of h hd q)];exact h
 refine⟨I.ok,I.os,I.bare,⟨I.base.keep,I.base.slot,λb ob q n hx=>nn b (I.base.free b ob q n hx),I.base.there,λb xs q=>other b _ (I.base.tups b xs q) (by intro z;cases z),λb ob u q=>other b _ (I.base.frzs b ob u q) (by intro z;cases z),λb ps q=>?_⟩,I.loc,I.cell,nn _ I.free,λx c q=>nn _ (I.freeC x c q),λp hp=>?_,λb u q=>?_,I.len⟩
 . obtain⟨more,h⟩:=I.base.tbls b ps q;exact⟨more,other b _ h (by intro z;cases z)⟩
 . obtain⟨a1,a2,a3⟩:=I.pin p hp;exact⟨a1,nn _ a2,a3⟩
 by_cases e:b=d
 . subst e;rw[A8] at q
   cases q;exact⟨ho,(I.hok b _ hd).stay (λc v hc z=>z) (λc z=>other c _ z (by intro w;cases w)) λc xs z=>other c _ z (by intro w;cases w)⟩
 rw[Al e] at q;exact(I.hok b u q).stay (λc v hc z=>z) (λc z=>other c _ z (by intro w;cases w)) λc xs z=>other c _ z (by intro w;cases w)
def Itd (a:Addr)(o:Obj)(kvs:List (Key×V)):It:=
 ⟨λi H=>H a=some (.frz o (.dK kvs))/\i<kvs.length,λi H x H'=>H'=H/\∃ kv,kvs[i]? = some kv/\x=kV kv.1,λi H=>H a=some (.frz o (.dK kvs))/\kvs.length<=i⟩
theorem ae4 {k:Key}{u:Value}(h:R4 k u=true):RelV (kV k) u:=by
 rcases Bu h with ⟨i,t,rfl,rfl⟩|⟨x,t,rfl,rfl⟩
 . exact⟨t,rfl⟩
 exact⟨t,rfl⟩
theorem Xs {X:Cx}{pins:List (Addr×Obj)}{σ:St}{H:Hp}{s:Shared}{a:Addr}{kvs:List (Key×V)}{o:Obj}{es:Array DictEntry}{ep:Nat}(I:Inv X pins σ H s)(h:H a=some (.frz o (.dK kvs)))(ho:o.data = .dict es ep):∃ vs,KV kvs vs/\s.heap.DictAt (Ax X.prog X.w) a vs ep:=by
 obtain⟨h1,_,_,vs,r,o',es',ep',h2,c,hd,rest⟩:=I.hok a _ h;rw[h1] at h2
 cases h2;rw[ho] at hd
 cases hd;exact⟨vs,r,o,es,h1,c,ho,rest⟩
theorem KV.get:∀ {kvs:List (Key×V)} {vs:List (Key×Value)} {i:Nat} {kv:Key×V},KV kvs vs->kvs[i]? = some kv->∃ u,vs[i]? = some (kv.1,u)/\RelV kv.2 u
 |_,_,_,_,.nil,e=>by simp at e
 |_,_,0,kv,.cons r _,e=>by simp at e;subst e;exact⟨_,congrArg some (Prod.ext r.1.symm rfl),r.2⟩
 |_,_,i+1,kv,.cons _ t,e=>by obtain⟨u,h1,h2⟩:=KV.get (i:=i) t (by simpa using e);exact⟨u,by simpa using h1,h2⟩
theorem Oo {P:Program}{w:World}{K:W.Frag}{tg:Expr}(a it:Addr)(o:Obj)(kvs:List (Key×V))(es:Array DictEntry)(ep:Nat)(hd:o.data = .dict es ep):Yh P w K tg (Itd a o kvs) [it] it (λi h=>h.IsKeyIter it a i kvs.length ep) where
 mem:=by simp
 obj:=λi h st b hb=>by
  have e:b=it:=by simpa using hb
  subst e;obtain⟨o,e,c,d⟩:=st;exact⟨o,e,λv z=>by rw[d] at z;cases z⟩
 keep:=λi h h' st k=>st.at λo e=>k it (by simp) o e
 item:=by
  intro X hP hw hK hc i pins s σ H E I hf st hg;subst hP hw hK;obtain⟨hH,hi⟩:=hg;obtain⟨vs,rv,hat⟩:=Xs I hH hd;have hl:kvs.length=vs.length:=A25 rv;obtain⟨kv,hkv⟩:∃ kv,kvs[i]? = some kv:=⟨kvs[i],A06 hi⟩;obtain⟨u,hu,_⟩:=KV.get rv hkv;obtain⟨f0,f1,f2,f3,f4,f5⟩:=hf it (by simp);rw[hl] at st;refine wpAny_pyNext_dict_item st hat hu λkey h' hkey hit' hs'=>?_;have I1:Inv X pins σ H {s with heap:=h'}:=I.turned (t':=s.toks) (λb o hb e=>(hs'.2 b hb).trans e) f0 f1 f3 f4 f5
  obtain⟨o',e,c,d⟩:=id hit';exact⟨key,rfl,Ts (s:={s with heap:=h'}) e c d nofun ⟨kV kv.1,H,I1,ae4 hkey,⟨rfl,kv,hkv,rfl⟩,by rw[hl];exact hit',λb hb=>(hf b hb).1⟩⟩
 done:=by intro X hP hw hK hc i pins s σ H E I hf st hg;subst hP hw hK;obtain⟨hH,hi⟩:=hg;obtain⟨vs,rv,hat⟩:=Xs I hH hd;have hl:kvs.length=vs.length:=A25 rv;obtain⟨f0,f1,f2,f3,f4,f5⟩:=hf it (by simp);rw[hl] at st;exact wpAny_pyNext_dict_end (I.ok.hd hc) st hat (A4K ∅) λh' eb=>⟨rfl,I.turned (t':=s.toks) (λb o hb e=>eb b o hb e) f0 f1 f3 f4 f5⟩
 self:=λA i s Q E st hQ=>wpAny_pyIter_keyiter st hQ
theorem a91 {X:Cx}{tg:Expr}{pins:List (Addr×Obj)}{σ:St}{H:Hp}{s:Shared}{a:Addr}{kvs:List (Key×V)}{R:It->Hp->Prop}{E:Value->Shared->Prop}(I:Inv X pins σ H s)(h:H a=some (.dK kvs))(q:∀ o,R (Itd a o kvs) (upd H a (.frz o (.dK kvs)))) :
  wpAny (model X.prog X.w) X.A (pyIter (.ref a)) (PIE X pins σ tg R) E s:=by
 obtain⟨_,hs,vs,rv,o,es,ep,ho,c,hd,rest⟩:=I.hok a _ h;have I1:=I.freeze h ho;have hl:kvs.length=vs.length:=A25 rv;refine wpAny_pyIter_dict (knd:=Ax X.prog X.w) hs ⟨o,es,ho,c,hd,rest⟩ ?_;rw[<- hl];refine⟨s.heap.objs.size,[s.heap.objs.size],_,_,_,rfl,I1.kept (t':=s.toks) λb o e=>A03 _ e,Oo a _ o kvs es ep hd,⟨_,A0K _ rfl,rfl,rfl⟩,λb hb=>?_,q o⟩;have e:b=s.heap.objs.size:=by simpa using hb
 subst e;exact I1.fpOk (A07 _) (I1.hok.fresh (A07 _))
theorem Yr {X:Cx}{tg:Expr}{pins:List (Addr×Obj)}{σ:St}{H:Hp}{s:Shared}{a:Addr}{kvs:List (Key×V)}{o:Obj}{R:It->Hp->Prop}{E:Value->Shared->Prop}(I:Inv X pins σ H s)(h:H a=some (.frz o (.dK kvs)))(q:R (Itd a o kvs) H) :
  wpAny (model X.prog X.w) X.A (pyIter (.ref a)) (PIE X pins σ tg R) E s:=by
 obtain⟨ho',_,hs,vs,rv,o',es,ep,ho,c,hd,rest⟩:=I.hok a _ h;rw[ho'] at ho
 cases ho;have hl:kvs.length=vs.length:=A25 rv;refine wpAny_pyIter_dict (knd:=Ax X.prog X.w) hs ⟨o,es,ho',c,hd,rest⟩ ?_;rw[<- hl];refine⟨s.heap.objs.size,[s.heap.objs.size],_,_,_,rfl,I.kept (t':=s.toks) λb o e=>A03 _ e,Oo a _ o kvs es ep hd,⟨_,A0K _ rfl,rfl,rfl⟩,λb hb=>?_,q⟩;have e:b=s.heap.objs.size:=by simpa using hb
 subst e;exact I.fpOk (A07 _) (I.hok.fresh (A07 _))
theorem Same.seqT {K:W.Frag}{H H':Hp}{a:Addr}{xs:List V}(e:Same H H')(h:SqT K H a xs):SqT K H' a xs:=by
 rcases h with (h|⟨o,h⟩)|h
 . exact .inl (.inl (e _ _ h))
 . exact .inl (.inr ⟨o,e _ _ h⟩)
 exact .inr h
mutual
def Is (K:W.Frag)(H:Hp):PyData->V->Prop
 |.none,v=>v = .non
 |.bool b,v=>v = .bl b
 |.int i,v=>v = .int i
 |.str x,v=>v = .str x
 |.list ds,v=>∃ a xs,v = .ref a/\SqL K H a xs/\IsL K H ds xs
 |.tuple ds,v=>∃ a xs,v = .ref a/\SqT K H a xs/\IsL K H ds xs
 |.dict _,_=>False
def IsL (K:W.Frag)(H:Hp):List PyData->List V->Prop
 | [],vs=>vs=[]
 |d :: ds,vs=>∃ v r,vs=v :: r/\Is K H d v/\IsL K H ds r
end
mutual
theorem Is.mono {K:W.Frag}{H H':Hp}(e:Same H H'):∀(d:PyData) (v:V),Is K H d v->Is K H' d v
 |.none,_,h=>by simp only[Is] at h ⊢;exact h
 |.bool _,_,h=>by simp only[Is] at h ⊢;exact h
 |.int _,_,h=>by simp only[Is] at h ⊢;exact h
 |.str _,_,h=>by simp only[Is] at h ⊢;exact h
 |.list ds,v,h=>by simp only[Is] at h ⊢;obtain⟨a,xs,e1,e2,e3⟩:=h;exact⟨a,xs,e1,e.seq e2,IsL.mono e ds xs e3⟩
 |.tuple ds,v,h=>by simp only[Is] at h ⊢;obtain⟨a,xs,e1,e2,e3⟩:=h;exact⟨a,xs,e1,e.seqT e2,IsL.mono e ds xs e3⟩
 |.dict _,_,h=>by simp only[Is] at h
theorem IsL.mono {K:W.Frag}{H H':Hp}(e:Same H H'):∀(ds:List PyData) (vs:List V),IsL K H ds vs->IsL K H' ds vs
 | [],_,h=>by simp only[IsL] at h ⊢;exact h
 |d :: ds,vs,h=>by simp only[IsL] at h ⊢;obtain⟨v,r,e1,e2,e3⟩:=h;exact⟨v,r,e1,Is.mono e d v e2,IsL.mono e ds r e3⟩
end
section
variable {X:Cx}{pins:List (Addr×Obj)}{σ:St}{H:Hp}{s:Shared}
mutual
theorem Is.reads (I:Inv X pins σ H s):∀(d:PyData) (v:V) (u:Value),Is X.K H d v->RelV v u->∃ as,Reads s.heap u d as
 |.none,v,u,i,r=>by
   simp only[Is] at i;subst i
   cases r;exact⟨_,.none⟩
 |.bool b,v,u,i,r=>by
   simp only[Is] at i;subst i
   cases r;exact⟨_,.bool b⟩
 |.int n,v,u,i,r=>by simp only[Is] at i;subst i;obtain⟨t,rfl⟩:=r;exact⟨_,.int n t⟩
 |.str x,v,u,i,r=>by simp only[Is] at i;subst i;obtain⟨t,rfl⟩:=r;exact⟨_,.str x t⟩
 |.list ds,v,u,i,r=>by
   simp only[Is] at i;obtain⟨a,xs,rfl,e2,e3⟩:=i
   cases r;obtain⟨its,rv,⟨o,n,e,hc,hd,hs⟩,_⟩:=I.list e2;obtain⟨as,ra⟩:=IsL.reads I ds xs its e3 rv;exact⟨_,.list e hc hs (by simpa using ra)⟩
 |.tuple ds,v,u,i,r=>by
   simp only[Is] at i;obtain⟨a,xs,rfl,e2,e3⟩:=i
   cases r;obtain⟨its,rv,⟨o,e,hc,n,hd⟩,_⟩:=I.tuple e2;obtain⟨as,ra⟩:=IsL.reads I ds xs its e3 rv;exact⟨_,.tuple e hc hd (by simpa using ra)⟩
 |.dict _,_,_,i,_=>by simp only[Is] at i
theorem IsL.reads (I:Inv X pins σ H s):∀(ds:List PyData) (vs:List V) (us:List Value),IsL X.K H ds vs->Vals vs us->∃ as,ReadsAll s.heap us ds as
 | [],vs,us,i,r=>by
   simp only[IsL] at i;subst i
   cases r;exact⟨_,.nil⟩
 |d :: ds,vs,us,i,r=>by
   simp only[IsL] at i;obtain⟨v,rr,rfl,e2,e3⟩:=i
   cases r with
   |cons r1 r2=>obtain⟨a1,h1⟩:=Is.reads I d v _ e2 r1;obtain⟨a2,h2⟩:=IsL.reads I ds rr _ e3 r2;exact⟨_,.cons h1 h2⟩
end
end
theorem Vs {K:W.Frag}{H:Hp}:∀ ns:List Int,IsL K H (ns.map PyData.int) (ns.map V.int)
 | []=>by simp only[List.map_nil,IsL]
 |n :: r=>by simp only[List.map_cons,IsL];exact⟨_,_,rfl,by simp only[Is],Vs r⟩
theorem My {K:W.Frag}{H:Hp}:∀ ns:List Str,IsL K H (ns.map PyData.str) (ns.map V.str)
 | []=>by simp only[List.map_nil,IsL]
 |n :: r=>by simp only[List.map_cons,IsL];exact⟨_,_,rfl,by simp only[Is],My r⟩
theorem T3 {K:W.Frag}{H:Hp}{a:Addr}{ns:List Int}(h:SqL K H a (ns.map V.int)):Is K H (.list (ns.map PyData.int)) (.ref a):=by simp only[Is];exact⟨a,_,rfl,h,Vs ns⟩
structure QA (A:Around):Prop where
 un:A.units+150<cLine
 gd:A.guards=some []
theorem Dc {A:Around}{k:Nat}(hr:Room k A):QA A:=⟨by have:=hr.un;omega,hr.gd⟩
section
variable {X:Cx}
def Qn (K:W.Frag):R2:=λx y H Q=>(∃ i j,x = .int i/\y = .int j/\Q (.int (i+j)) H)\/(∃ i j,x = .str i/\y = .str j/\i.length+j.length<=sizeLine/\Q (.str (i++j)) H)\/az4 x y H Q\/ao1 K x y H Q\/aj1 K x y H Q
theorem a98:OpR X (binaryOp .Add) (Qn X.K):=op_add.or (op_add_str.or (op_cat.or (op_catT.or ae5)))
def a79:R2:=λx y H Q=>(∃ i j,x = .int i/\y = .int j/\CMul i j/\Q (.int (i*j)) H)\/aA0 x y H Q
theorem op_mulA:OpR X (binaryOp .Mult) a79:=op_mul.or am7
theorem J4:OpR X (binaryOp .FloorDiv) (rI ax2 λi j=>.int (i / j)):=a89
def at6 (K:W.Frag)(neg:Bool):R2:=λx y H Q=>∃ dx dy,Is K H dx x/\Is K H dy y/\SeqAt.shaped dx=true/\SeqAt.shaped dy=true/\Q (.bl (if neg then !PyData.eqv dx dy else PyData.eqv dx dy)) H
theorem ap3 (hq:QA X.A):OpR X (compareOp .Eq) (at6 X.K false):=by intro pins s σ H x y v u Q I rx ry h;obtain⟨dx,dy,ix,iy,sx,sy,q⟩:=h;obtain⟨as,ra⟩:=Is.reads I dx x v ix rx;obtain⟨bs,rb⟩:=Is.reads I dy y u iy ry;exact eq_dataH ra rb sx sy (by have:=hq.un;omega) ⟨.bl _,H,I,rfl,q⟩
theorem ao9 (hq:QA X.A):OpR X (compareOp .NotEq) (at6 X.K true):=by intro pins s σ H x y v u Q I rx ry h;obtain⟨dx,dy,ix,iy,sx,sy,q⟩:=h;obtain⟨as,ra⟩:=Is.reads I dx x v ix rx;obtain⟨bs,rb⟩:=Is.reads I dy y u iy ry;exact ne_dataH ra rb sx sy (by have:=hq.un;omega) ⟨.bl _,H,I,rfl,q⟩
def au2 (K:W.Frag):R2:=λx y H Q=>rEq x y H Q\/at6 K false x y H Q
def au3 (K:W.Frag):R2:=λx y H Q=>rNe x y H Q\/at6 K true x y H Q
theorem am4 (hq:QA X.A):OpR X (compareOp .Eq) (au2 X.K):=op_eq.or (ap3 hq)
theorem ak1 (hq:QA X.A):OpR X (compareOp .NotEq) (au3 X.K):=op_ne.or (ao9 hq)
def rInT (neg:Bool):R2:=λx y H Q=>∃ i j,x = .str i/\y = .str j/\Q (.bl (if neg then !(!(Builtin.Str.occurrences j i 0 j.length 1).isEmpty) else !(Builtin.Str.occurrences j i 0 j.length 1).isEmpty)) H
def ay0 (neg:Bool):R2:=λx y H Q=>∃ a o,y = .ref a/\DGet H a x o/\Q (.bl (if neg then !o.isSome else o.isSome)) H
theorem ao8 (hu:X.A.units+1<cLine):OpR X (compareOp .In) (ay0 false):=by
 intro pins s σ H x y v u Q I rx ry h;obtain⟨a,o,rfl,g,q⟩:=h
 cases ry;exact d_in hu I g rx λs' I'=>⟨.bl _,H,I',rfl,q⟩
theorem Vp (hu:X.A.units+1<cLine):OpR X (compareOp .NotIn) (ay0 true):=by
 intro pins s σ H x y v u Q I rx ry h;obtain⟨a,o,rfl,g,q⟩:=h
 cases ry;exact af6 hu I g rx λs' I'=>⟨.bl _,H,I',rfl,q⟩
def ax6 (K:W.Frag)(neg:Bool):R2:=λx y H Q=>∃ d ds,Is K H d x/\(Is K H (.list ds) y\/Is K H (.tuple ds) y)/\PyData.canLayAll0 ds=true/\d.canLay0=true/\d.depth<=100/\Q (.bl (if neg then !(ds.any λe=>PyData.eqv e d) else ds.any λe=>PyData.eqv e d)) H
theorem ai1 (hq:QA X.A):OpR X (compareOp .In) (ax6 X.K false):=by
 intro pins s σ H x y v u Q I rx ry h;obtain⟨d,ds,ix,iy,h1,h2,h3,q⟩:=h;obtain⟨bs,rb⟩:=Is.reads I d x v ix rx;rcases iy with iy|iy
 . obtain⟨as,ra⟩:=Is.reads I _ y u iy ry;exact SeqAt.in_list_reads ra rb h1 h2 (by have:=hq.un;have:=A3K (PyData.depthAll ds) d.depth;omega) ⟨.bl _,H,I,rfl,q⟩
 obtain⟨as,ra⟩:=Is.reads I _ y u iy ry;exact SeqAt.in_tuple_reads ra rb h1 h2 (by have:=hq.un;have:=A3K (PyData.depthAll ds) d.depth;omega) ⟨.bl _,H,I,rfl,q⟩
theorem Wb (hq:QA X.A):OpR X (compareOp .NotIn) (ax6 X.K true):=by
 intro pins s σ H x y v u Q I rx ry h;obtain⟨d,ds,ix,iy,h1,h2,h3,q⟩:=h;obtain⟨bs,rb⟩:=Is.reads I d x v ix rx;rcases iy with iy|iy
 . obtain⟨as,ra⟩:=Is.reads I _ y u iy ry;exact SeqAt.notIn_list_reads ra rb h1 h2 (by have:=hq.un;have:=A3K (PyData.depthAll ds) d.depth;omega) ⟨.bl _,H,I,rfl,q⟩
 obtain⟨as,ra⟩:=Is.reads I _ y u iy ry;exact SeqAt.notIn_tuple_reads ra rb h1 h2 (by have:=hq.un;have:=A3K (PyData.depthAll ds) d.depth;omega) ⟨.bl _,H,I,rfl,q⟩
def Wq (K:W.Frag)(neg:Bool):R2:=λx y H Q=>rIn K neg x y H Q\/rInT neg x y H Q\/ay0 neg x y H Q\/ax6 K neg x y H Q
theorem QA.hu {A:Around}(h:QA A):A.units+1<cLine:=by have:=h.un;omega
theorem ai7 (hq:QA X.A):OpR X (compareOp .In) (Wq X.K false):=op_in_seq.or (op_in_str.or ((ao8 hq.hu).or (ai1 hq)))
theorem Xj (hq:QA X.A):OpR X (compareOp .NotIn) (Wq X.K true):=op_notIn_seq.or (op_notIn_str.or ((Vp hq.hu).or (Wb hq)))
def as7 (K:W.Frag):V->Option Int->Option Int->Hp->VK->Prop:=λx lo hi H Q=>aA8 K x lo hi H Q\/ay4 K x lo hi H Q\/az7 x lo hi H Q\/ay5 K x lo hi H Q
theorem sl_A:SlR X (as7 X.K):=sl_list.or (sl_tup.or (sl_str.or Zp))
def az3:R2:=λx y H Q=>∃ a v,x = .ref a/\DGet H a y (some v)/\Q v H
theorem ad3 (hu:X.A.units+1<cLine):IxR X az3:=by
 intro value slice pins s σ H x y v u Q I rx ry h hs;obtain⟨a,z,rfl,g,q⟩:=h
 cases rx;exact tail_any (Qp I g) PySem.F.slot_dict_getitem.lookup (Y3 hu I g ry λw' s' I' rw'=>⟨z,H,I',rw',q⟩) hs
def Th (K:W.Frag):R2:=λx y H Q=>rIx K x y H Q\/az3 x y H Q
theorem aq1 (hu:X.A.units+1<cLine):IxR X (Th X.K):=ix_seq.or (ad3 hu)
def Qu (K:W.Frag):List V->Hp->VK->Prop:=λxs H Q=>(∃ x n,xs=[x]/\az8 K x H n/\Q (.int n) H)\/∃ a kvs,xs=[V.ref a]/\H a=some (.dK kvs)/\Q (.int kvs.length) H
theorem Xh:CallR X (.builtin "len") (Qu X.K):=call_len.or Y6
def Sv (K:W.Frag):List V->Hp->VK->Prop:=λxs H Q=>∃ p ys,xs=[.ref p]/\(SqL K H p ys\/SqT K H p ys)/\∀ l,H l=none->Q (.ref l) (upd H l (.lst ys))
theorem Tz:CallR X (.type "list") (Sv X.K):=Ot
def Rn (K:W.Frag):List V->Hp->VK->Prop:=λxs H Q=>∃ p ys,xs=[.ref p]/\((SqL K H p ys/\∀ l,H l=none->Q (.ref l) (upd H l (.tup ys)))\/(SqT K H p ys/\Q (.ref p) H))
theorem R1:CallR X (.type "tuple") (Rn X.K):=Mt
def ah8:List V->Hp->VK->Prop:=λxs H Q=>(∃ b,xs=[.bl b]/\Q (.str (if b then "True" else "False")) H)\/(xs=[.non]/\Q (.str "None") H)
theorem Mg:CallR X (.builtin "repr") ah8:=Ua
def ao5:List V->Hp->VK->Prop:=λxs H Q=>(∃ i,xs=[.int i]/\Q (.int i) H)\/∃ k,xs=[.bl k]/\Q (.int (if k then 1 else 0)) H
theorem Xf:CallR X (.type "int") ao5:=Wy
variable {tg:Expr}
def Jn (K:W.Frag)(x:V)(H1:Hp)(R:It->Hp->Prop):Prop:=(∃ a,x = .ref a/\(∃ xs,SqL K H1 a xs)/\R (Itl K a) H1)\/(∃ a,x = .ref a/\(∃ xs,SqT K H1 a xs)/\R (Itt K a) H1)\/(∃ z,x = .str z/\R (Its z) H1)\/∃ a kvs,x = .ref a/\((H1 a=some (.dK kvs)/\∀ o,R (Itd a o kvs) (upd H1 a (.frz o (.dK kvs))))\/∃ o,H1 a=some (.frz o (.dK kvs))/\R (Itd a o kvs) H1)
def av6 (K:W.Frag)(tl:TE):TI:=fun σ H R=>tl σ H λx H1=>Jn K x H1 R
theorem ai2 (hu:X.A.units+1<cLine){l:Expr}{tl:TE}(hl:PE X l tl):PI X tg l (av6 X.K tl):=by
 intro pins s σ H R I h;refine thn (hl pins s σ H _ I h) λv s1 ⟨x,H1,I1,r1,q1⟩=>?_;rcases q1 with ⟨a,e,⟨xs,hq⟩,q⟩|⟨a,e,⟨xs,hq⟩,q⟩|⟨z,e,q⟩|⟨a,kvs,e,q⟩
 . subst e
   cases r1;obtain⟨its,rv,p,hz⟩:=I1.list hq;refine A3Z p.isList ?_;refine⟨s1.heap.objs.size,[s1.heap.objs.size],_,_,H1,rfl,I1.kept (t':=s1.toks) λb o e=>A03 _ e,Wi a _,⟨_,A0K _ rfl,rfl,rfl⟩,λb hb=>?_,q⟩;have e:b=s1.heap.objs.size:=by simpa using hb
   subst e;exact I1.fpOk (A07 _) (I1.hok.fresh (A07 _))
 . subst e
   cases r1;obtain⟨its,rv,p,hz⟩:=I1.tuple hq;refine wpAny_pyIter_tuple (show s1.heap.IsTuple a its.toArray from p) ?_;refine⟨s1.heap.objs.size,[s1.heap.objs.size],_,_,H1,rfl,I1.kept (t':=s1.toks) λb o e=>A03 _ e,Tw a _,⟨_,A0K _ rfl,rfl,rfl⟩,λb hb=>?_,q⟩;have e:b=s1.heap.objs.size:=by simpa using hb
   subst e;exact I1.fpOk (A07 _) (I1.hok.fresh (A07 _))
 . subst e;exact at4 I1 r1 q
 subst e
 cases r1;rcases q with ⟨hd,q⟩|⟨o,hd,q⟩
 . exact a91 I1 hd q
 exact Yr I1 hd q
end
def Fnd (P:Program)(w:World)(K:W.Frag)(mg:Str->Option Value)(base:Heap)(k:Nat)(x:Str)(ps:List Str)(sp:Sp):Prop:=
 ∃ f fd,FnOk P w K mg base CX0 k f fd ps sp/\mg x=some (.ref f)/\W.keepIn K (.ref f)=true/\Binds K fd ps []
section
variable {X:Cx}{k:Nat}{x:Str}{ps:List Str}{sp:Sp}{e:Expr}{es:List Expr}{t:TA}{p pos:Pos}
theorem Bc (F:Fnd X.prog X.w X.K X.mg X.base k x ps sp)(hr:Room k X.A)(hg:Gl X x)(ha:PA X (e :: es) t)(hdb:(x==("__debug__":Str))=false:=by decide)
  (he:starEach (e :: es) X.env=(false,eval e X.env) :: starEach es X.env:=by ac_nf) (hpl:(backTo pos (starEach es X.env)).any (·.1)=false:=by ac_nf):PE X (.Call (.Name x p) (e :: es) [] pos) (Zg sp [] E0 t):=by
 obtain⟨f,fd,h1,h2,h3,h4⟩:=F;exact Vc h1 hr hg h2 h3 h4 .nil af8 ha hdb he hpl
end
def ExtBut (d:Addr)(H H':Hp):Prop:=∀ b o,b≠d->H b=some o->H' b=some o
theorem Same.lk {H H':Hp}{a:Addr}{o:HO}(e:Same H H')(h:H a=some o):H' a=some o:=e a o h
theorem Same.upd {H:Hp}{p:Addr}{o:HO}(h:H p=none):Same H (upd H p o):=λb u e=>by rw[Al (ne_of_none e h)];exact e
theorem ExtBut.upd {H:Hp}{p:Addr}{o:HO}:ExtBut p H (upd H p o):=λb u n e=>by rw[Al n];exact e
theorem Same.but {d:Addr}{H H':Hp}(e:Same H H'):ExtBut d H H':=λb o _ h=>e b o h
theorem ExtBut.trans {d:Addr}{H H1 H2:Hp}(a:ExtBut d H H1)(b:ExtBut d H1 H2):ExtBut d H H2:=λc o n h=>b c o n (a c o n h)
theorem ExtBut.same {d:Addr}{H H1 H2:Hp}(a:ExtBut d H H1)(b:Same H1 H2):ExtBut d H H2:=λc o n h=>b c o (a c o n h)
theorem ExtBut.refl {d:Addr}{H:Hp}:ExtBut d H H:=λ_ _ _ h=>h
def aq4 (xs:List V)(H:Hp)(Q:VK):Prop:=xs.length<=sizeLine/\∀ p,H p=none->Q (.ref p) (upd H p (.tup xs))
def ai5 (xs:List V)(H:Hp)(Q:VK):Prop:=xs.length<=sizeLine/\∀ p,H p=none->Q (.ref p) (upd H p (.lst xs))
def an3 (vs:List V)(H:Hp)(R:It->Hp->Prop):Prop:=∃ j:Int,vs=[.int j] /\ -(2 ^ 62)<=j/\j<2 ^ 62/\R (Itr 0 j.toNat) H
def al8 (vs:List V)(H:Hp)(R:It->Hp->Prop):Prop:=∃ i j:Int,vs=[.int i,.int j]/\(-(2 ^ 62)<=i/\i<2 ^ 62 /\ -(2 ^ 62)<=j/\j<2 ^ 62)/\R (Itr i (j-i).toNat) H
def ah4 (g:TG)(tb:TS)(D:Ends)(σ:St)(J:It)(H1:Hp):Prop:=∃ W:Nat->Nat->St->Hp->Prop,(∃ m,W 0 m σ H1)/\∀ i m σ H,W i m σ H ->
 (J.stop i H/\D.nx σ H)\/(J.go i H/\∃ N:St->Hp->Prop,(∀ σ' H',N σ' H'->∃ m',m'<m/\W (i+1) m' σ' H')/\∀ x H',J.yld i H x H'->g x σ H' fun σ2 H2=>tb {D with nx:=N,ct:=N,bk:=D.nx} σ2 H2)
def Qm (k:Nat)(js:List Nat)(g:TG)(tt:TT)(te:TE)(σ:St)(J:It)(H1:Hp)(Q:VK):Prop:=∀ p,H1 p=none ->
 ∃ W:Nat->Nat->Hp->Prop,(∃ m,W 0 m (upd H1 p (.lst [])))/\∀ i m H,W i m H ->
  (J.stop i H/\Q (.ref p) H)\/(J.go i H/\∃ N:Hp->Prop,(∀ H',N H'->∃ m',m'<m/\W (i+1) m' H') /\
   ∀ x H',J.yld i H x H'->g x (List.replicate k none++Pd σ js) H' fun σ2 H2=>tt σ2 H2 λb H3=>if b=true then te σ2 H3 λy H4=>∃ acc,H4 p=some (.lst acc)/\acc.length<sizeLine/\N (upd H4 p (.lst (acc++[y]))) else N H3)
def a65 (p:Addr)(ps:List (V×V))(H:Hp)(Q:VK):Prop:=H p=some (.dK [])/\∃ kvs:List (Key×V),ps=kvs.map (λkv=>(kV kv.1,kv.2))/\kvs.length<=15/\Q (.ref p) (upd H p (.dK (Fm [] kvs)))
section
variable {K:W.Frag}{σ:St}{H:Hp}{Q:VK}{D:Ends}{ta tb te:TE}{c:TT}{t u:TS}{x y v:V}{i j:Int}
theorem i_var {n:Nat}(h:σ[n]? = some (some v))(k:Q v H):ax5 n σ H Q:=⟨v,h,k⟩
theorem i_c (k:Q v H):tC v σ H Q:=k
theorem i_next (k:D.nx σ H):ah7 D σ H:=k
theorem i_ret (k:te σ H D.rt):aA3 te D σ H:=k
theorem i_drop (k:te σ H λ_ H1=>D.nx σ H1):al7 te D σ H:=k
theorem i_asg {g:TG}(k:te σ H λx H1=>g x σ H1 D.nx):aj7 te g D σ H:=k
theorem i_gname {n:Nat}{R:St->Hp->Prop}(k:R (σ.set n (some v)) H):M3 n v σ H R:=k
theorem i_if (k:c σ H λb H1=>if b=true then t D σ H1 else u D σ H1):az0 c t u D σ H:=k
theorem i_op {r:R2}(k:ta σ H λx H1=>tb σ H1 λy H2=>r x y H2 Q):tOp r ta tb σ H Q:=k
theorem i_un {r:V->Hp->VK->Prop}(k:ta σ H λx H1=>r x H1 Q):tUn r ta σ H Q:=k
theorem i_rU {g:Int->V}(k:Q (g i) H):rU g (.int i) H Q:=⟨i,rfl,k⟩
theorem i_rI0 {g:Int->Int->V}(k:Q (g i j) H):rI0 g (.int i) (.int j) H Q:=⟨i,j,rfl,rfl,k⟩
theorem i_rI {C:Int->Int->Prop}{g:Int->Int->V}(h:C i j)(k:Q (g i j) H):rI C g (.int i) (.int j) H Q:=⟨i,j,rfl,rfl,h,k⟩
theorem i_addI (k:Q (.int (i+j)) H):Qn K (.int i) (.int j) H Q:=.inl ⟨i,j,rfl,rfl,k⟩
theorem i_addS {a b:Str}(h:a.length+b.length<=sizeLine)(k:Q (.str (a++b)) H):Qn K (.str a) (.str b) H Q:=.inr (.inl ⟨a,b,rfl,rfl,h,k⟩)
theorem Ih {a b:Addr}{xs ys:List V}(h1:H a=some (.lst xs))(h2:H b=some (.lst ys))(h:xs.length+ys.length<=sizeLine)(k:∀ p H',H p=none->Same H H'->H' p=some (.lst (xs++ys))->Q (.ref p) H'):Qn K (.ref a) (.ref b) H Q:=
 .inr (.inr (.inl ⟨a,b,xs,ys,rfl,rfl,h1,h2,h,λp hp=>k p _ hp (Same.upd hp) A8⟩))
theorem ai6 (h:CMul i j)(k:Q (.int (i*j)) H):a79 (.int i) (.int j) H Q:=.inl ⟨i,j,rfl,rfl,h,k⟩
theorem i_eqS (h:au1 x y=true)(k:Q (.bl (decide (x=y))) H):au2 K x y H Q:=.inl ⟨h,k⟩
theorem i_neS (h:au1 x y=true)(k:Q (.bl (!decide (x=y))) H):au3 K x y H Q:=.inl ⟨h,k⟩
theorem au9 {dx dy:PyData}(h1:Is K H dx x)(h2:Is K H dy y)(h3:SeqAt.shaped dx=true)(h4:SeqAt.shaped dy=true)(k:Q (.bl (PyData.eqv dx dy)) H):au2 K x y H Q:=.inr ⟨dx,dy,h1,h2,h3,h4,k⟩
theorem ar8 {dx dy:PyData}(h1:Is K H dx x)(h2:Is K H dy y)(h3:SeqAt.shaped dx=true)(h4:SeqAt.shaped dy=true)(k:Q (.bl (!PyData.eqv dx dy)) H):au3 K x y H Q:=.inr ⟨dx,dy,h1,h2,h3,h4,k⟩
theorem i_true {R:Bool->Hp->Prop}(k:R true H):ab5 σ H R:=k
theorem i_tTest {R:Bool->Hp->Prop}(k:te σ H λx H'=>∃ b,x = .bl b/\R b H'):ai9 te σ H R:=k
theorem i_tB {R:Bool->Hp->Prop}(k:te σ H λx H'=>∃ b,x = .bl b/\R b H'):tB te σ H R:=k
theorem i_bl {b:Bool}{R:Bool->Prop}(k:R b):∃ c,V.bl b = .bl c/\R c:=⟨b,rfl,k⟩
theorem i_not {R:Bool->Hp->Prop}(k:c σ H λb H1=>R (!b) H1):az5 c σ H R:=k
theorem i_and {c':TT}{R:Bool->Hp->Prop}(k:c σ H λb H1=>if b=true then c' σ H1 R else R false H1):aA6 c c' σ H R:=k
theorem i_or {c':TT}{R:Bool->Hp->Prop}(k:c σ H λb H1=>if b=true then R true H1 else c' σ H1 R):tOr c c' σ H R:=k
theorem Ir {a:Addr}{xs:List V}(h:H a=some (.lst xs))(e:atI xs i=some v)(k:Q v H):Th K (.ref a) (.int i) H Q:=.inl (.inl ⟨a,xs,i,v,rfl,rfl,SqL.of h,e,k⟩)
theorem a82 {z:Str}{s:Nat}(h:z.length<=sizeLine)(e:atI z.cps.toList i=some s)(k:Q (.str ⟨#[s]⟩) H):Th K (.str z) (.int i) H Q:=.inl (.inr (.inr ⟨z,i,s,rfl,rfl,h,e,k⟩))
theorem i_ixD {a:Addr}{kvs:List (Key×V)}{z:Str}(h:H a=some (.dK kvs))(e:Cy kvs (Sum.inr z:Key)=some v)(k:Q v H):Th K (.ref a) (.str z) H Q:=.inr ⟨a,v,rfl,by rw[<- e];exact DGet.k (k:=Sum.inr z) h,k⟩
theorem i_lenL {a:Addr}{xs:List V}(h:H a=some (.lst xs))(k:Q (.int xs.length) H):Qu K [.ref a] H Q:=.inl ⟨.ref a,_,rfl,.inl ⟨xs,SqL.of h,rfl⟩,k⟩
theorem i_lenT {a:Addr}{xs:List V}(h:H a=some (.tup xs))(k:Q (.int xs.length) H):Qu K [.ref a] H Q:=.inl ⟨.ref a,_,rfl,.inr ⟨xs,SqT.of h,rfl⟩,k⟩
theorem ag1 {a:Addr}{xs:List V}(h:SqL K H a xs)(k:∀ p H',H p=none->Same H H'->H' p=some (.lst xs)->Q (.ref p) H'):Sv K [.ref a] H Q:=⟨a,xs,rfl,.inl h,λp hp=>k p _ hp (Same.upd hp) A8⟩
theorem Gg {a:Addr}{xs:List V}(h:SqL K H a xs)(k:∀ p H',H p=none->Same H H'->H' p=some (.tup xs)->Q (.ref p) H'):Rn K [.ref a] H Q:=⟨a,xs,rfl,.inl ⟨h,λp hp=>k p _ hp (Same.upd hp) A8⟩⟩
theorem i_intB {b:Bool}(k:Q (.int (if b then 1 else 0)) H):ao5 [.bl b] H Q:=.inr ⟨b,rfl,k⟩
theorem i_sl {r:V->Option Int->Option Int->Hp->VK->Prop}{tl th:TO}(k:te σ H λx H1=>tl σ H1 λl H2=>th σ H2 λu H3=>r x l u H3 Q):tSl r te tl th σ H Q:=k
theorem i_noPart {R:Option Int->Hp->Prop}(k:R none H):Vj σ H R:=k
theorem i_part {R:Option Int->Hp->Prop}(k:te σ H λx H1=>∃ i,x = .int i/\R (some i) H1):aq9 te σ H R:=k
theorem i_int {R:Int->Prop}(k:R i):∃ j,V.int i = .int j/\R j:=⟨i,rfl,k⟩
theorem i_slS {z:Str}{lo hi:Option Int}(h:z.length<=sizeLine)(k:Q (.str (Txt.slice z lo hi)) H):as7 K (.str z) lo hi H Q:=.inr (.inr (.inl ⟨z,rfl,h,k⟩))
theorem K9 {a:Addr}{xs:List V}{lo hi:Option Int}(h:SqL K H a xs)(k:∀ p H',H p=none->Same H H'->H' p=some (.lst (Kl xs lo hi))->Q (.ref p) H'):as7 K (.ref a) lo hi H Q:=.inl ⟨a,xs,rfl,h,λp hp=>k p _ hp (Same.upd hp) A8⟩
theorem i_bm {T:String}{r:V->List V->Hp->VK->Prop}{ts:TA}(k:te σ H λx H1=>tyV K T x H1/\ts σ H1 λxs H2=>r x xs H2 Q):tBM K T r te ts σ H Q:=k
theorem i_bm0 {T:String}{r:V->List V->Hp->VK->Prop}(k:te σ H λx H1=>tyV K T x H1/\r x [] H1 Q):ax1 K T r te σ H Q:=k
theorem i_call {sp:Sp}{E:XK}{ts:TA}(k:ts σ H λvs H1=>sp (vs++[]) H1 Q E):Zg sp [] E ts σ H Q:=k
theorem i_cb {r:List V->Hp->VK->Prop}{ts:TA}(k:ts σ H λvs H1=>r vs H1 Q):tCB r ts σ H Q:=k
theorem i_cons {tr:TA}{R:List V->Hp->Prop}(k:ta σ H λx H1=>tr σ H1 λxs H2=>R (x :: xs) H2):an9 ta tr σ H R:=k
theorem i_nil {R:List V->Hp->Prop}(k:R [] H):ay6 σ H R:=k
theorem i_tup {ts:TA}(k:ts σ H λxs H1=>aq4 xs H1 Q):az6 ts σ H Q:=k
theorem i_lst {ts:TA}(k:ts σ H λxs H1=>ai5 xs H1 Q):aA2 ts σ H Q:=k
theorem Cs {xs:List V}(h:xs.length<=sizeLine)(k:∀ p H',H p=none->Same H H'->H' p=some (.tup xs)->Q (.ref p) H'):aq4 xs H Q:=⟨h,λp hp=>k p _ hp (Same.upd hp) A8⟩
theorem B5 {xs:List V}(h:xs.length<=sizeLine)(k:∀ p H',H p=none->Same H H'->H' p=some (.lst xs)->Q (.ref p) H'):ai5 xs H Q:=⟨h,λp hp=>k p _ hp (Same.upd hp) A8⟩
theorem Xl (k:∀ p H',H p=none->Same H H'->H' p=some (.dK [])->Q (.ref p) H'):a52 σ H Q:=λp hp=>k p _ hp (Same.upd hp) A8
theorem i_put {td ty tv:TE}(k:tv σ H λv H1=>td σ H1 λx H2=>ty σ H2 λy H3=>∃ a H4,x = .ref a/\DPut H3 a y v H4/\D.nx σ H4):an0 td ty tv D σ H:=k
theorem Jm {a:Addr}{kvs:List (Key×V)}{z:Str}{R:Hp->Prop}(h:H a=some (.dK kvs))(hl:kvs.length<1000)(k:∀ H',ExtBut a H H'->H' a=some (.dK (Ea kvs (Sum.inr z) v))->R H'):∃ b H4,V.ref a = .ref b/\DPut H b (.str z) v H4/\R H4:=
 ⟨a,_,rfl,DPut.k (k:=Sum.inr z) h (X5 (A2E hl)),k _ ExtBut.upd A8⟩
theorem i_for {wi:TI}{g:TG}{tb:TS}(k:wi σ H λJ H1=>ah4 g tb D σ J H1):az9 wi g tb D σ H:=k
theorem i_comp {m:Nat}{js:List Nat}{wi:TI}{g:TG}{tt:TT}(k:wi σ H λJ H1=>Qm m js g tt te σ J H1 Q):ac4 m js wi g tt te σ H Q:=k
theorem Gi {a:Addr}{xs:List V}{R:It->Hp->Prop}(h:SqL K H a xs)(k:R (Itl K a) H):Jn K (.ref a) H R:=.inl ⟨a,rfl,⟨xs,h⟩,k⟩
theorem Zt {a:Addr}{xs:List V}{R:It->Hp->Prop}(h:SqT K H a xs)(k:R (Itt K a) H):Jn K (.ref a) H R:=.inr (.inl ⟨a,rfl,⟨xs,h⟩,k⟩)
theorem i_rng1 {ts:TA}{R:It->Hp->Prop}(k:ts σ H λvs H1=>an3 vs H1 R):ar7 ts σ H R:=k
theorem Jc {R:It->Hp->Prop}(h:-(2 ^ 62)<=i/\i<2 ^ 62)(k:R (Itr 0 i.toNat) H):an3 [V.int i] H R:=⟨i,rfl,h.1,h.2,k⟩
theorem i_rng2 {ts:TA}{R:It->Hp->Prop}(k:ts σ H λvs H1=>al8 vs H1 R):ai8 ts σ H R:=k
theorem as2 {R:It->Hp->Prop}(h:(-(2 ^ 62)<=i/\i<2 ^ 62) /\ -(2 ^ 62)<=j/\j<2 ^ 62)(k:R (Itr i (j-i).toNat) H):al8 [V.int i,V.int j] H R:=⟨i,j,rfl,⟨h.1.1,h.1.2,h.2.1,h.2.2⟩,k⟩
theorem i_iany {R:It->Hp->Prop}(k:te σ H λx H1=>Jn K x H1 R):av6 K te σ H R:=k
theorem a56 {trs:List (TE×TE)}(k:∀ p H1,H p=none->Same H H1->H1 p=some (.dK [])->J0 trs σ H1 λps H2=>a65 p ps H2 Q):aj0 trs σ H Q:=λp hp=>k p _ hp (Same.upd hp) A8
theorem i_pair {tk tv:TE}{r:List (TE×TE)}{R:List (V×V)->Hp->Prop}(k:tk σ H λx H1=>tv σ H1 λy H2=>J0 r σ H2 λps H3=>R ((x,y) :: ps) H3):J0 ((tk,tv) :: r) σ H R:=k
theorem Vx {p:Addr}{ps:List (V×V)}(kvs:List (Key×V))(h:H p=some (.dK []))(e:ps=kvs.map (λkv=>(kV kv.1,kv.2)))(hl:kvs.length<=15)(k:∀ H',ExtBut p H H'->H' p=some (.dK (Fm [] kvs))->Q (.ref p) H'):a65 p ps H Q:=⟨h,kvs,e,hl,k _ ExtBut.upd A8⟩
theorem i_pair0 {R:List (V×V)->Hp->Prop}(k:R [] H):J0 [] σ H R:=k
end
theorem Hx {c A B:Prop}[Decidable c](h1:c->A)(h2:¬ c->B):if decide c=true then A else B:=by
 by_cases h:c
 . rw[A0W (A19 h)];exact h1 h
 rw[A0S (by rw[A0X h];exact A0C)];exact h2 h
theorem a81 {c A B:Prop}[Decidable c](h1:¬ c->A)(h2:c->B):if(!decide c)=true then A else B:=by
 by_cases h:c
 . rw[A19 h,A0S nofun];exact h2 h
 rw[A0X h,A0W nofun];exact h1 h
theorem ah1 {b:Bool}{A B:Prop}(h1:b=true->A)(h2:b=false->B):if b=true then A else B:=by
 cases b
 . rw[A0S A0C];exact h2 rfl
 rw[A0W rfl];exact h1 rfl
theorem Vh {b:Bool}{A B:Prop}(h1:b=false->A)(h2:b=true->B):if(!b)=true then A else B:=by
 cases b
 . exact h1 rfl
 exact h2 rfl
theorem A6 {n:Nat}(h:n<=1000000):n<=sizeLine:=by rw[A14];omega
def Hf (J:It)(xs:List V)(G:Hp->Prop):Prop:=
 ∀ i H,G H->(i<xs.length->J.go i H)/\(xs.length<=i->J.stop i H)/\∀ x H',i<xs.length->J.yld i H x H'->H'=H/\xs[i]? = some x
theorem Aw {K:W.Frag}{a:Addr}{xs:List V}:Hf (Itl K a) xs λH=>SqL K H a xs:=by intro i H g;refine⟨λh=>⟨xs,xs[i],g,A06 h⟩,λh=>⟨xs,g,h⟩,λx H' _ h=>⟨h.1,h.2 xs g⟩⟩
theorem Kk {K:W.Frag}{a:Addr}{xs:List V}:Hf (Itt K a) xs λH=>SqT K H a xs:=by intro i H g;refine⟨λh=>⟨xs,xs[i],g,A06 h⟩,λh=>⟨xs,g,h⟩,λx H' _ h=>⟨h.1,h.2 xs g⟩⟩
theorem Cb {lo:Int}{n:Nat}:Hf (Itr lo n) ((List.range n).map λ(i:Nat)=>V.int (lo+(i:Int))) λ_=>True:=by
 intro i H _;refine⟨λh=>?_,λh=>?_,λx H' hi h=>?_⟩
 . show i<n;simpa using h
 . show n<=i;simpa using h
 obtain⟨e,hx⟩:=h;refine⟨e,?_⟩;have hi':i<n:=by simpa using hi
 rw[A08,List.getElem?_range hi',hx];rfl
theorem Ym {J:It}{xs:List V}{G:Hp->Prop}{g:TG}{tb:TS}{D:Ends}{σ:St}{H:Hp}(hw:Hf J xs G)(Pv:Nat->St->Hp->Prop)(h0:Pv 0 σ H)(hG:∀ i σ H,Pv i σ H->G H)
  (hs:∀ i x σ H,xs[i]? = some x->Pv i σ H->g x σ H fun σ2 H2=>tb {D with nx:=Pv (i+1),ct:=Pv (i+1),bk:=D.nx} σ2 H2) (hd:∀ σ H,Pv xs.length σ H->D.nx σ H) :
  ∃ W:Nat->Nat->St->Hp->Prop,(∃ m,W 0 m σ H)/\∀ i m σ H,W i m σ H ->
   (J.stop i H/\D.nx σ H)\/(J.go i H/\∃ N:St->Hp->Prop,(∀ σ' H',N σ' H'->∃ m',m'<m/\W (i+1) m' σ' H')/\∀ x H',J.yld i H x H'->g x σ H' fun σ2 H2=>tb {D with nx:=N,ct:=N,bk:=D.nx} σ2 H2):=by
 refine⟨λi m σ H=>m=xs.length-i/\i<=xs.length/\Pv i σ H,⟨xs.length,by simp,Nat.zero_le _,h0⟩,?_⟩;rintro i m σ H ⟨rfl,hi,p⟩;obtain⟨w1,w2,w3⟩:=hw i H (hG i σ H p)
 by_cases hlt:i<xs.length
 . refine .inr ⟨w1 hlt,Pv (i+1),fun σ' H' p'=>⟨xs.length-(i+1),by omega,rfl,hlt,p'⟩,λx H' y=>?_⟩;obtain⟨e,hx⟩:=w3 x H' hlt y;subst e;exact hs i x σ _ hx p
 have e:i=xs.length:=by omega
 subst e;exact .inl ⟨w2 (A07 _),hd σ H p⟩
def CN (p:Addr)(n:Nat)(Pv:Nat->List V->Hp->Prop)(i:Nat):Hp->Prop:=λH'=>i+1<=n/\∃ acc,H' p=some (.lst acc)/\acc.length<=i+1/\Pv (i+1) acc H'
theorem a80 {p:Addr}{n:Nat}{Pv:Nat->List V->Hp->Prop}{i:Nat}{H:Hp}{acc:List V}{y:V}(hn:n<=1000000)(hi:i<n)(hl:acc.length<=i)(e:H p=some (.lst acc))(k:∀ H',ExtBut p H H'->H' p=some (.lst (acc++[y]))->Pv (i+1) (acc++[y]) H') :
  ∃ acc,H p=some (.lst acc)/\acc.length<sizeLine/\CN p n Pv i (upd H p (.lst (acc++[y]))):=
 ⟨acc,e,by rw[A14];omega,hi,acc++[y],A8,by rw[A09,A13];omega,k _ ExtBut.upd A8⟩
theorem Mz {p:Addr}{n:Nat}{Pv:Nat->List V->Hp->Prop}{i:Nat}{H:Hp}{acc:List V}(hi:i<n)(hl:acc.length<=i)(e:H p=some (.lst acc))(k:Pv (i+1) acc H):CN p n Pv i H:=⟨hi,acc,e,by omega,k⟩
theorem Y4 {J:It}{xs:List V}{G:Hp->Prop}{g:TG}{tt:TT}{te:TE}{σ:St}{H:Hp}{Q:VK}{p:Addr}{k:Nat}{js:List Nat}(hw:Hf J xs G)(hp:H p=none)(Pv:Nat->List V->Hp->Prop)
  (h0:∀ H',Same H H'->H' p=some (.lst [])->Pv 0 [] H') (hG:∀ i acc H,Pv i acc H->G H)
  (hs:∀ i x acc H,xs[i]? = some x->i<xs.length->acc.length<=i->H p=some (.lst acc)->Pv i acc H->g x (List.replicate k none++Pd σ js) H fun σ2 H2=>tt σ2 H2 λb H3=>if b=true then te σ2 H3 λy H4=>∃ acc,H4 p=some (.lst acc)/\acc.length<sizeLine/\CN p xs.length Pv i (upd H4 p (.lst (acc++[y]))) else CN p xs.length Pv i H3)
  (hd:∀ acc H,H p=some (.lst acc)->acc.length<=xs.length->Pv xs.length acc H->Q (.ref p) H) :
  ∃ W:Nat->Nat->Hp->Prop,(∃ m,W 0 m (upd H p (.lst [])))/\∀ i m H,W i m H ->
   (J.stop i H/\Q (.ref p) H)\/(J.go i H/\∃ N:Hp->Prop,(∀ H',N H'->∃ m',m'<m/\W (i+1) m' H') /\
    ∀ x H',J.yld i H x H'->g x (List.replicate k none++Pd σ js) H' fun σ2 H2=>tt σ2 H2 λb H3=>
     if b=true then te σ2 H3 λy H4=>∃ acc,H4 p=some (.lst acc)/\acc.length<sizeLine/\N (upd H4 p (.lst (acc++[y]))) else N H3):=by
 refine⟨λi m H=>m=xs.length-i/\i<=xs.length/\∃ acc,H p=some (.lst acc)/\acc.length<=i/\Pv i acc H,⟨xs.length,by simp,Nat.zero_le _,[],A8,Nat.le_refl _,h0 _ (Same.upd hp) A8⟩,?_⟩;rintro i m H ⟨rfl,hi,acc,hacc,hl,q⟩;obtain⟨w1,w2,w3⟩:=hw i H (hG i acc H q)
 by_cases hlt:i<xs.length
 . refine .inr ⟨w1 hlt,CN p xs.length Pv i,λH' ⟨h1,h2⟩=>⟨xs.length-(i+1),by omega,rfl,h1,h2⟩,λx H' y=>?_⟩;obtain⟨e,hx⟩:=w3 x H' hlt y;subst e;exact hs i x acc _ hx hlt hl hacc q
 have e:i=xs.length:=by omega
 subst e;exact .inl ⟨w2 (A07 _),hd acc H hacc hl q⟩
def ao6 (p:Addr)(N:Hp->Prop):VK:=λy H4=>∃ acc,H4 p=some (.lst acc)/\acc.length<sizeLine/\N (upd H4 p (.lst (acc++[y])))
theorem Cu {J:It}{xs:List V}{G:Hp->Prop}{g:TG}{tt:TT}{te:TE}{σ:St}{H:Hp}{Q:VK}{k:Nat}{js:List Nat}(hw:Hf J xs G)(Pv:Addr->Nat->List V->Hp->Prop)
  (h0:∀ p H',H p=none->Same H H'->H' p=some (.lst [])->Pv p 0 [] H') (hG:∀ p i acc H,Pv p i acc H->G H)
  (hs:∀ p i x acc H1,H p=none->xs[i]? = some x->i<xs.length->acc.length<=i->H1 p=some (.lst acc)->Pv p i acc H1->g x (List.replicate k none++Pd σ js) H1 fun σ2 H2=>tt σ2 H2 λb H3=>if b=true then te σ2 H3 (ao6 p (CN p xs.length (Pv p) i)) else CN p xs.length (Pv p) i H3)
  (hd:∀ p acc H1,H p=none->H1 p=some (.lst acc)->acc.length<=xs.length->Pv p xs.length acc H1->Q (.ref p) H1):Qm k js g tt te σ J H Q:=λp hp=>
 Y4 hw hp (Pv p) (λH' e h=>h0 p H' hp e h) (hG p) (λi x acc H1 h1 h2 h3 h4 h5=>hs p i x acc H1 hp h1 h2 h3 h4 h5) λacc H1 h1 h2 h3=>hd p acc H1 hp h1 h2 h3
theorem Ex {p:Addr}{n:Nat}{Pv:Nat->List V->Hp->Prop}{i:Nat}{H:Hp}{acc:List V}{y:V}(hn:n<=1000000)(hi:i<n)(hl:acc.length<=i)(e:H p=some (.lst acc))(k:∀ H',ExtBut p H H'->H' p=some (.lst (acc++[y]))->Pv (i+1) (acc++[y]) H') :
  ao6 p (CN p n Pv i) y H:=a80 hn hi hl e k
theorem Vm {J:It}{xs:List V}{G:Hp->Prop}{g:TG}{tt:TT}{te:TE}{σ:St}{H:Hp}{Q:VK}{k:Nat}{js:List Nat}(hw:Hf J xs G)(t:V->Bool)(f:V->V)(hz:xs.length<=1000000)(hG:∀ H',Same H H'->G H')
  (hs:∀(i:Nat) x H1 (R:VK) (R':Hp->Prop),xs[i]? = some x->Same H H1->(t x=true->R (f x) H1)->(t x=false->R' H1)->g x (List.replicate k none++Pd σ js) H1 fun σ2 H2=>tt σ2 H2 λb H3=>if b=true then te σ2 H3 R else R' H3)
  (hd:∀ p H',H p=none->Same H H'->H' p=some (.lst ((xs.filter t).map f))->Q (.ref p) H'):Qm k js g tt te σ J H Q:=by
 refine Cu hw (λp i acc H1=>Same H H1/\acc=((xs.take i).filter t).map f) (λp H' hp e h=>⟨e,by simp⟩) (λp i acc H1 h=>hG H1 h.1) (λp i x acc H1 hp hx hi hl ha ⟨e,hacc⟩=>?_) λp acc H1 hp ha hl ⟨e,hacc⟩=>?_
 . have ht:xs.take (i+1)=xs.take i++[x]:=by rw[A0J,hx];rfl
   refine hs i x H1 _ _ hx e (λh=>?_) λh=>?_
   . refine Ex hz hi hl ha λH' e' h'=>⟨λb o hb=>e' b o (ne_of_none hb hp) (e b o hb),?_⟩;rw[ht,A27,A0E,hacc];simp[h]
   refine Mz hi hl ha ⟨e,?_⟩;rw[ht,A27,A0E,hacc];simp[h]
 refine hd p H1 hp e ?_;rw[ha,hacc,A0M]
theorem Qk {α:Type}(xs:List α):xs.filter (λ_=>true)=xs:=by simp
theorem Nf {J:It}{xs:List V}{G:Hp->Prop}{g:TG}{te:TE}{σ:St}{H:Hp}{Q:VK}{k:Nat}{js:List Nat}(hw:Hf J xs G)(f:V->V)(hz:xs.length<=1000000)(hG:∀ H',Same H H'->G H')
  (hs:∀(i:Nat) x H1 (R:VK),xs[i]? = some x->Same H H1->R (f x) H1->g x (List.replicate k none++Pd σ js) H1 fun σ2 H2=>te σ2 H2 R)
  (hd:∀ p H',H p=none->Same H H'->H' p=some (.lst (xs.map f))->Q (.ref p) H'):Qm k js g ab5 te σ J H Q:=
 Vm hw (λ_=>true) f hz hG (λi x H1 R R' hx e h _=>by
  have:=hs i x H1 R hx e (h rfl);show g x _ H1 fun σ2 H2=>if true=true then te σ2 H2 R else R' H2
  simpa using this) λp H' hp e h=>hd p H' hp e (by rw[h,Qk])
theorem Ew {J:It}{xs:List V}{G:Hp->Prop}{g:TG}{tb:TS}{D:Ends}{σ:St}{H:Hp}(hw:Hf J xs G)(Pv:Nat->St->Hp->Prop)(h0:Pv 0 σ H)(hG:∀ i σ H,Pv i σ H->G H)
  (hs:∀ i x σ H,xs[i]? = some x->i<xs.length->Pv i σ H->g x σ H fun σ2 H2=>tb {D with nx:=Pv (i+1),ct:=Pv (i+1),bk:=D.nx} σ2 H2) (hd:∀ σ H,Pv xs.length σ H->D.nx σ H):ah4 g tb D σ J H:=
 Ym hw Pv h0 hG (λi x σ H hx=>hs i x σ H hx (A02.mp hx).1) hd
section
variable {X:Cx}{K:W.Frag}
theorem Ae (hK:X.K=K:=by ac_nf):OpR X (binaryOp .Add) (Qn K):=hK ▸ a98
theorem C6 (hq:QA X.A)(hK:X.K=K:=by ac_nf):OpR X (compareOp .Eq) (au2 K):=hK ▸ am4 hq
theorem Vw (hq:QA X.A)(hK:X.K=K:=by ac_nf):OpR X (compareOp .NotEq) (au3 K):=hK ▸ ak1 hq
theorem Tg (hq:QA X.A)(hK:X.K=K:=by ac_nf):OpR X (compareOp .In) (Wq K false):=hK ▸ ai7 hq
theorem J5 (hq:QA X.A)(hK:X.K=K:=by ac_nf):OpR X (compareOp .NotIn) (Wq K true):=hK ▸ Xj hq
theorem A7 (hu:X.A.units+1<cLine)(hK:X.K=K:=by ac_nf):IxR X (Th K):=hK ▸ aq1 hu
theorem Lc (hK:X.K=K:=by ac_nf):SlR X (as7 K):=hK ▸ sl_A
theorem B6 (hK:X.K=K:=by ac_nf):CallR X (.builtin "len") (Qu K):=hK ▸ Xh
theorem M4 (hK:X.K=K:=by ac_nf):CallR X (.type "list") (Sv K):=hK ▸ Tz
theorem Di (hK:X.K=K:=by ac_nf):CallR X (.type "tuple") (Rn K):=hK ▸ R1
theorem Ap {tg:Expr}(hu:X.A.units+1<cLine){l:Expr}{tl:TE}(hl:PE X l tl)(hK:X.K=K:=by ac_nf):PI X tg l (av6 K tl):=hK ▸ ai2 hu hl
theorem R0 {es:List Expr}{k:Nat}{t:TGs}{n:Nat}{pos:Pos}(hc:X.calm=true)(h:PGs X es t)(hK:X.K=K:=by ac_nf)
  (hn:(assignEach es X.env).length=n:=by ac_nf) (hst:(assignEach es X.env).findIdx? (·.1)=none:=by ac_nf):PG X (.Tuple es k pos) (at7 K n t):=hK ▸ ai4 hc h hn hst
variable {o e:Expr}{es:List Expr}{to:TE}{t:TA}{name:Str}{apos cpos:Pos}{T id:String}{r:V->List V->Hp->VK->Prop}
theorem Y2 (pa:PlainAttrs T)(slot:Slot T name id)(hty:typeOf (.builtin id)=pure (.type "method_descriptor"))(hm:MtR X id r)(ho:PE X o to)(hK:X.K=K:=by ac_nf)
  (hbase:attributeBase o name X.env (eval o X.env)=eval o X.env:=by ac_nf) (hline:(apos.endLine==cpos.line)=true:=by ac_nf):PE X (.Call (.Attribute o name apos) [] [] cpos) (ax1 K T r to):=hK ▸ ao7 pa slot hty hm ho hbase hline
theorem Gz (pa:PlainAttrs T)(slot:Slot T name id)(hty:typeOf (.builtin id)=pure (.type "method_descriptor"))(hm:MtR X id r)(ho:PE X o to)(ha:PA X (e :: es) t)(hK:X.K=K:=by ac_nf)
  (hbase:attributeBase o name X.env (eval o X.env)=eval o X.env:=by ac_nf)
  (hfew:((backTo cpos (starEach (e :: es) X.env)).all (λx=>!x.1)&&(backToKw cpos (keywordEach [] X.env)).all (λx=>x.1.isSome)
   && decide ((e :: es).length+([]:List Keyword).length+(if([]:List Keyword).isEmpty then 0 else 1)<30))=true:=by ac_nf)
  (hline:(apos.endLine==cpos.line)=true:=by ac_nf) (hs:starEach (e :: es) X.env=(false,eval e X.env) :: starEach es X.env:=by ac_nf) (hplain:(backTo cpos (starEach es X.env)).any (·.1)=false:=by ac_nf) :
  PE X (.Call (.Attribute o name apos) (e :: es) [] cpos) (tBM K T r to t):=hK ▸ av0 pa slot hty hm ho ha hbase hfew hline hs hplain
end
def Fz (H H':Hp):Prop:=∀ a xs,Rd H a (.tup xs)->Rd H' a (.tup xs)
theorem Fz.refl (H:Hp):Fz H H:=λ_ _ h=>h
theorem Fz.trans {H H1 H2:Hp}(a:Fz H H1)(b:Fz H1 H2):Fz H H2:=λc xs h=>b c xs (a c xs h)
theorem Same.fz {H H':Hp}(e:Same H H'):Fz H H':=λa xs h=>by
 rcases h with h|⟨o,h⟩
 . exact .inl (e _ _ h)
 exact .inr ⟨o,e _ _ h⟩
theorem M8 {p:Addr}{H H':Hp}(e:ExtBut p H H')(hp:∀ xs,¬ Rd H p (.tup xs)):Fz H H':=λa xs h=>by
 have n:a≠p:=λq=>hp xs (q ▸ h);rcases h with h|⟨o,h⟩
 . exact .inl (e _ _ n h)
 exact .inr ⟨o,e _ _ n h⟩
theorem ExtBut.fzL {p:Addr}{H H':Hp}{l:List V}(e:ExtBut p H H')(hp:H p=some (.lst l)):Fz H H':=M8 e λxs h=>by
 rcases h with h|⟨o,h⟩
 . rw[hp] at h;cases h
 rw[hp] at h;cases h
theorem ExtBut.fzD {p:Addr}{H H':Hp}{l:List (Key×V)}(e:ExtBut p H H')(hp:H p=some (.dK l)):Fz H H':=M8 e λxs h=>by
 rcases h with h|⟨o,h⟩
 . rw[hp] at h;cases h
 rw[hp] at h;cases h
theorem Fz.seq {K:W.Frag}{H H':Hp}(e:Fz H H'){a:Addr}{xs:List V}(h:SqT K H a xs):SqT K H' a xs:=by
 rcases h with h|h
 . exact .inl (e _ _ h)
 exact .inr h
mutual
def frz:PyData->Bool
 |.tuple ds=>Ue ds
 |.list _=>false
 |.dict _=>false
 |_=>true
def Ue:List PyData->Bool
 | []=>true
 |d :: ds=>frz d&&Ue ds
end
mutual
theorem Is.fz {K:W.Frag}{H H':Hp}(e:Fz H H'):∀(d:PyData) (v:V),frz d=true->Is K H d v->Is K H' d v
 |.none,_,_,h=>by simp only[Is] at h ⊢;exact h
 |.bool _,_,_,h=>by simp only[Is] at h ⊢;exact h
 |.int _,_,_,h=>by simp only[Is] at h ⊢;exact h
 |.str _,_,_,h=>by simp only[Is] at h ⊢;exact h
 |.list ds,v,hf,_=>by simp[frz] at hf
 |.tuple ds,v,hf,h=>by simp only[Is] at h ⊢;obtain⟨a,xs,e1,e2,e3⟩:=h;exact⟨a,xs,e1,e.seq e2,IsL.fz e ds xs (by simpa only[frz] using hf) e3⟩
 |.dict _,_,_,h=>by simp only[Is] at h
theorem IsL.fz {K:W.Frag}{H H':Hp}(e:Fz H H'):∀(ds:List PyData) (vs:List V),Ue ds=true->IsL K H ds vs->IsL K H' ds vs
 | [],_,_,h=>by simp only[IsL] at h ⊢;exact h
 |d :: ds,vs,hf,h=>by simp only[IsL] at h ⊢;simp only[Ue,Bool.and_eq_true] at hf;obtain⟨v,r,e1,e2,e3⟩:=h;exact⟨v,r,e1,Is.fz e d v hf.1 e2,IsL.fz e ds r hf.2 e3⟩
end
section
variable {K:W.Frag}{H H':Hp}
theorem IsL.length:∀ {ds:List PyData} {vs:List V},IsL K H ds vs->ds.length=vs.length
 | [],_,h=>by simp only[IsL] at h;subst h;rfl
 |d :: ds,vs,h=>by simp only[IsL] at h;obtain⟨v,r,rfl,_,e3⟩:=h;simp only[List.length_cons,IsL.length e3]
theorem IsL.get:∀ {ds:List PyData} {vs:List V} {i:Nat} {x:V},IsL K H ds vs->vs[i]? = some x->∃ d,ds[i]? = some d/\Is K H d x
 | [],_,_,_,h,e=>by simp only[IsL] at h;subst h;simp at e
 |d :: ds,vs,i,x,h,e=>by
   simp only[IsL] at h;obtain⟨v,r,rfl,e2,e3⟩:=h
   cases i with
   |zero=>simp at e;subst e;exact⟨d,rfl,e2⟩
   |succ i=>obtain⟨d',h1,h2⟩:=IsL.get (i:=i) e3 (by simpa using e);exact⟨d',by simpa using h1,h2⟩
theorem IsL.at:∀ {ds:List PyData} {vs:List V} {i:Nat} {d:PyData},IsL K H ds vs->ds[i]? = some d->∃ x,vs[i]? = some x/\Is K H d x
 | [],_,_,_,h,e=>by simp at e
 |d :: ds,vs,i,d',h,e=>by
   simp only[IsL] at h;obtain⟨v,r,rfl,e2,e3⟩:=h
   cases i with
   |zero=>simp at e;subst e;exact⟨v,rfl,e2⟩
   |succ i=>obtain⟨x,h1,h2⟩:=IsL.at (i:=i) e3 (by simpa using e);exact⟨x,by simpa using h1,h2⟩
theorem IsL.append:∀ {ds es:List PyData} {vs us:List V},IsL K H ds vs->IsL K H es us->IsL K H (ds++es) (vs++us)
 | [],_,_,_,h,g=>by simp only[IsL] at h;subst h;exact g
 |d :: ds,es,vs,us,h,g=>by simp only[IsL] at h;obtain⟨v,r,rfl,e2,e3⟩:=h;simp only[List.cons_append,IsL];exact⟨v,_,rfl,e2,IsL.append e3 g⟩
theorem IsL.one {d:PyData}{v:V}(h:Is K H d v):IsL K H [d] [v]:=by simp only[IsL];exact⟨v,[],rfl,h,rfl⟩
theorem IsL.nil:IsL K H [] []:=by simp only[IsL]
theorem IsL.cons {d:PyData} {v:V} {ds:List PyData} {vs:List V} (h:Is K H d v) (g:IsL K H ds vs):IsL K H (d :: ds) (v :: vs):=by simp only[IsL];exact⟨v,vs,rfl,h,g⟩
theorem IsL.take:∀ {ds:List PyData} {vs:List V} (n:Nat),IsL K H ds vs->IsL K H (ds.take n) (vs.take n)
 |ds,vs,0,h=>by simp only[List.take_zero];exact .nil
 | [],vs,n+1,h=>by simp only[IsL] at h;subst h;exact .nil
 |d :: ds,vs,n+1,h=>by simp only[IsL] at h;obtain⟨v,r,rfl,e2,e3⟩:=h;exact .cons e2 (IsL.take n e3)
theorem IsL.drop:∀ {ds:List PyData} {vs:List V} (n:Nat),IsL K H ds vs->IsL K H (ds.drop n) (vs.drop n)
 |ds,vs,0,h=>h
 | [],vs,n+1,h=>by simp only[IsL] at h;subst h;exact .nil
 |d :: ds,vs,n+1,h=>by simp only[IsL] at h;obtain⟨v,r,rfl,e2,e3⟩:=h;exact IsL.drop n e3
theorem IsL.str_eq:∀ {ns:List Str} {vs:List V},IsL K H (ns.map PyData.str) vs->vs=ns.map V.str
 | [],vs,h=>by simp only[List.map_nil,IsL] at h;exact h
 |n :: ns,vs,h=>by simp only[List.map_cons,IsL,Is] at h;obtain⟨v,r,rfl,rfl,e3⟩:=h;rw[IsL.str_eq e3];rfl
theorem Is.tup {ds:List PyData}{v:V}(h:Is K H (.tuple ds) v):∃ a xs,v = .ref a/\SqT K H a xs/\IsL K H ds xs:=by simpa only[Is] using h
theorem Is.of_tup {ds:List PyData}{a:Addr}{xs:List V}(h:SqT K H a xs)(g:IsL K H ds xs):Is K H (.tuple ds) (.ref a):=by simp only[Is];exact⟨a,xs,rfl,h,g⟩
theorem Is.of_lst {ds:List PyData}{a:Addr}{xs:List V}(h:SqL K H a xs)(g:IsL K H ds xs):Is K H (.list ds) (.ref a):=by simp only[Is];exact⟨a,xs,rfl,h,g⟩
theorem Is.str {z:Str}{v:V}(h:Is K H (.str z) v):v = .str z:=by simpa only[Is] using h
theorem Je {z:Str}:Is K H (.str z) (.str z):=by simp only[Is]
theorem Qj {z:Bool}:Is K H (.bool z) (.bl z):=by simp only[Is]
end
def nmD (ns:List Str):PyData:=.tuple (ns.map PyData.str)
def prD (p:Str×Str):PyData:=.tuple [.str p.1,.str p.2]
def psD (ps:List (Str×Str)):PyData:=.tuple (ps.map prD)
def hfD (ns:List Str)(ps:List (Str×Str)):PyData:=.tuple [nmD ns,psD ps]
theorem Lm:∀ ns:List Str,Ue (ns.map PyData.str)=true
 | []=>rfl
 |n :: ns=>by simp only[List.map_cons,Ue,frz,Lm ns,Bool.and_self]
theorem a48 (ns:List Str):frz (nmD ns)=true:=by simp only[nmD,frz,Lm]
theorem Vu (p:Str×Str):frz (prD p)=true:=by simp[prD,frz,Ue]
theorem Bo:∀ ps:List (Str×Str),Ue (ps.map prD)=true
 | []=>rfl
 |n :: ns=>by simp only[List.map_cons,Ue,Vu,Bo ns,Bool.and_self]
theorem an1 (ps:List (Str×Str)):frz (psD ps)=true:=by simp only[psD,frz,Bo]
theorem an8 (ns:List Str)(ps:List (Str×Str)):frz (hfD ns ps)=true:=by simp only[hfD,frz,Ue,a48,an1,Bool.and_self]
section
variable {K:W.Frag}{H H':Hp}
theorem Is.nm {ns:List Str}{v:V}(h:Is K H (nmD ns) v):∃ a,v = .ref a/\SqT K H a (ns.map V.str):=by obtain⟨a,xs,rfl,h1,h2⟩:=Is.tup h;exact⟨a,rfl,by rw[<- IsL.str_eq h2];exact h1⟩
theorem Gx {ns:List Str}{a:Addr}(h:SqT K H a (ns.map V.str)):Is K H (nmD ns) (.ref a):=Is.of_tup h (My ns)
theorem Is.pr {p:Str×Str}{v:V}(h:Is K H (prD p) v):∃ a,v = .ref a/\SqT K H a [.str p.1,.str p.2]:=by obtain⟨a,xs,rfl,h1,h2⟩:=Is.tup h;simp only[IsL,Is] at h2;obtain⟨_,_,rfl,rfl,_,_,rfl,rfl,rfl⟩:=h2;exact⟨a,rfl,h1⟩
theorem Yl {x y:Str}{a:Addr}(h:SqT K H a [.str x,.str y]):Is K H (prD (x,y)) (.ref a):=Is.of_tup h (.cons Je (.one Je))
theorem Is.hf {ns:List Str}{ps:List (Str×Str)}{v:V}(h:Is K H (hfD ns ps) v):∃ a x y,v = .ref a/\SqT K H a [x,y]/\Is K H (nmD ns) x/\Is K H (psD ps) y:=by obtain⟨a,xs,rfl,h1,h2⟩:=Is.tup h;simp only[IsL] at h2;obtain⟨x,_,rfl,hx,y,_,rfl,hy,rfl⟩:=h2;exact⟨a,x,y,rfl,h1,hx,hy⟩
theorem af0 {ns:List Str}{ps:List (Str×Str)}{a:Addr}{x y:V}(h:SqT K H a [x,y])(hx:Is K H (nmD ns) x)(hy:Is K H (psD ps) y):Is K H (hfD ns ps) (.ref a):=Is.of_tup h (.cons hx (.one hy))
theorem Is.nm_fz {ns:List Str}{v:V}(h:Is K H (nmD ns) v)(e:Fz H H'):Is K H' (nmD ns) v:=Is.fz e _ _ (a48 ns) h
theorem Is.pr_fz {p:Str×Str}{v:V}(h:Is K H (prD p) v)(e:Fz H H'):Is K H' (prD p) v:=Is.fz e _ _ (Vu p) h
theorem Is.hf_fz {ns:List Str}{ps:List (Str×Str)}{v:V}(h:Is K H (hfD ns ps) v)(e:Fz H H'):Is K H' (hfD ns ps) v:=Is.fz e _ _ (an8 ns ps) h
variable {σ:St}{Q:VK}{x v:V}{i:Int}
theorem M0 {a:Addr}{xs:List V}(h:SqT K H a xs)(e:atI xs i=some v)(k:Q v H):Th K (.ref a) (.int i) H Q:=.inl (.inr (.inl ⟨a,xs,i,v,rfl,rfl,h,e,k⟩))
theorem Jd {ns:List Str}{ps:List (Str×Str)}(h:Is K H (hfD ns ps) x)(k:∀ v,Is K H (nmD ns) v->Q v H):Th K x (.int 0) H Q:=by obtain⟨a,u,w,rfl,h1,h2,h3⟩:=h.hf;exact M0 h1 rfl (k u h2)
theorem Yf {ns:List Str}{ps:List (Str×Str)}(h:Is K H (hfD ns ps) x)(k:∀ v,Is K H (psD ps) v->Q v H):Th K x (.int 1) H Q:=by obtain⟨a,u,w,rfl,h1,h2,h3⟩:=h.hf;exact M0 h1 rfl (k w h3)
theorem aj6 {p:Str×Str}(h:Is K H (prD p) x)(k:Q (.str p.1) H):Th K x (.int 0) H Q:=by obtain⟨a,rfl,h1⟩:=h.pr;exact M0 h1 rfl k
theorem al4 {p:Str×Str}(h:Is K H (prD p) x)(k:Q (.str p.2) H):Th K x (.int 1) H Q:=by obtain⟨a,rfl,h1⟩:=h.pr;exact M0 h1 rfl k
theorem a69 {ds:List PyData}(h:Is K H (.tuple ds) x)(k:Q (.int ds.length) H):Qu K [x] H Q:=by obtain⟨a,xs,rfl,h1,h2⟩:=h.tup;rw[IsL.length h2] at k;exact .inl ⟨.ref a,_,rfl,.inr ⟨xs,h1,rfl⟩,k⟩
theorem a38 {ns:List Str}(h:Is K H (nmD ns) x)(k:Q (.int ns.length) H):Qu K [x] H Q:=a69 h (by rw[A01];exact k)
theorem ao2 {ps:List (Str×Str)}(h:Is K H (psD ps) x)(k:Q (.int ps.length) H):Qu K [x] H Q:=a69 h (by rw[A01];exact k)
theorem Jb (ns:List Str):(ns.map V.str).all Od=true:=by rw[A4A];intro v h;obtain ⟨n,_,rfl⟩:=A0N.mp h;rfl
theorem Kr (z:Str):∀ ns:List Str,inV (.str z) (ns.map V.str)=decide (z∈ns)
 | []=>rfl
 |n :: ns=>by
   have ih:=Kr z ns;unfold inV at ih ⊢;rw[A0G,A1O,ih]
   have e:eqV (V.str n) (V.str z)=decide (n=z):=by
    show(n==z)=_
    by_cases h:n=z<;>simp[h]
   rw[e]
   by_cases h:n=z
   . subst h;simp
   have h':¬ z=n:=λq=>h q.symm
   by_cases g:z∈ns<;>simp[h,h',g]
theorem ap6 {ns:List Str}{z:Str}{a:Addr}(h:SqL K H a (ns.map V.str))(k:Q (.bl (decide (z∈ns))) H):Wq K false (.str z) (.ref a) H Q:=
 .inl ⟨a,_,rfl,.inl h,rfl,Jb ns,by rw[Kr];exact k⟩
theorem ao3 {ns:List Str}{z:Str}(h:Is K H (nmD ns) x)(k:Q (.bl (!decide (z∈ns))) H):Wq K true (.str z) x H Q:=by obtain⟨a,rfl,h1⟩:=h.nm;exact .inl ⟨a,_,rfl,.inr h1,rfl,Jb ns,by rw[Kr];exact k⟩
theorem a86 {ns:List Str}{z:Str}{a:Addr}(h:SqL K H a (ns.map V.str))(k:Q (.bl (!decide (z∈ns))) H):Wq K true (.str z) (.ref a) H Q:=
 .inl ⟨a,_,rfl,.inl h,rfl,Jb ns,by rw[Kr];exact k⟩
theorem a83 {p:Str×Str}{n m:Nat}{R:St->Hp->Prop}(h:Is K H (prD p) x)(k:R ((σ.set n (some (.str p.1))).set m (some (.str p.2))) H):at7 K 2 (W4 (M3 n) (W4 (M3 m) aw6)) x σ H R:=by obtain⟨a,rfl,h1⟩:=h.pr;exact⟨a,_,rfl,h1,rfl,.str p.1,[.str p.2],rfl,.str p.2,[],rfl,rfl,k⟩
theorem a57 {ds:List PyData}{g:TG}{tb:TS}{D:Ends}(h:Is K H (.tuple ds) x)(hf:Ue ds=true)(Pv:Nat->St->Hp->Prop)(h0:Pv 0 σ H)(hG:∀ i σ' H',Pv i σ' H'->Fz H H')
  (hs:∀ i d v σ' H',ds[i]? = some d->Is K H' d v->Pv i σ' H'->g v σ' H' fun σ2 H2=>tb {D with nx:=Pv (i+1),ct:=Pv (i+1),bk:=D.nx} σ2 H2) (hd:∀ σ' H',Pv ds.length σ' H'->D.nx σ' H') :
  Jn K x H λJ H1=>ah4 g tb D σ J H1:=by
 obtain⟨a,xs,rfl,h1,h2⟩:=h.tup;refine Zt h1 (Ew Kk Pv h0 (λi σ' H' p=>(hG i σ' H' p).seq h1) (λi v σ' H' hx hi p=>?_) fun σ' H' p=>hd σ' H' (by rw[IsL.length h2];exact p));obtain⟨d,e1,e2⟩:=IsL.get (IsL.fz (hG i σ' H' p) ds xs hf h2) hx;exact hs i d v σ' H' e1 e2 p
theorem Ps {ns:List Str}{g:TG}{tb:TS}{D:Ends}(h:Is K H (nmD ns) x)(Pv:Nat->St->Hp->Prop)(h0:Pv 0 σ H)(hG:∀ i σ' H',Pv i σ' H'->Fz H H')
  (hs:∀ i z σ' H',ns[i]? = some z->Pv i σ' H'->g (.str z) σ' H' fun σ2 H2=>tb {D with nx:=Pv (i+1),ct:=Pv (i+1),bk:=D.nx} σ2 H2) (hd:∀ σ' H',Pv ns.length σ' H'->D.nx σ' H') :
  Jn K x H λJ H1=>ah4 g tb D σ J H1:=
 a57 h (Lm ns) Pv h0 hG (λi d v σ' H' e h p=>by
  rw[A08] at e
  cases hn:ns[i]? with
  |none=>rw[hn] at e;cases e
  |some z=>
    rw[hn] at e
    cases e;rw[h.str];exact hs i z σ' H' hn p) fun σ' H' p=>hd σ' H' (by rw[A01] at p;exact p)
theorem a62 {ps:List (Str×Str)}{g:TG}{tb:TS}{D:Ends}(h:Is K H (psD ps) x)(Pv:Nat->St->Hp->Prop)(h0:Pv 0 σ H)(hG:∀ i σ' H',Pv i σ' H'->Fz H H')
  (hs:∀ i p v σ' H',ps[i]? = some p->Is K H' (prD p) v->Pv i σ' H'->g v σ' H' fun σ2 H2=>tb {D with nx:=Pv (i+1),ct:=Pv (i+1),bk:=D.nx} σ2 H2) (hd:∀ σ' H',Pv ps.length σ' H'->D.nx σ' H') :
  Jn K x H λJ H1=>ah4 g tb D σ J H1:=
 a57 h (Bo ps) Pv h0 hG (λi d v σ' H' e h p=>by
  rw[A08] at e
  cases hn:ps[i]? with
  |none=>rw[hn] at e;cases e
  |some z=>
    rw[hn] at e
    cases e;exact hs i z v σ' H' hn h p) fun σ' H' p=>hd σ' H' (by rw[A01] at p;exact p)
theorem Rq {α:Type}(f:α->PyData)(hf:∀ a,frz (f a)=true):∀ xs:List α,Ue (xs.map f)=true
 | []=>rfl
 |x :: xs=>by simp only[List.map_cons,Ue,hf,Rq f hf xs,Bool.and_self]
theorem T7 {α:Type}{J:It}{xs:List V}{G:Hp->Prop}{g:TG}{tt:TT}{te:TE}{Q:VK}{k:Nat}{js:List Nat}(hw:Hf J xs G)(as:List α)(hl:as.length=xs.length)(t:α->Bool)(f:α->PyData)(hf:∀ a,frz (f a)=true)(hz:xs.length<=1000000)(hG:∀ H',Same H H'->G H')
  (hs:∀(i:Nat) a v H1 (R:VK) (R':Hp->Prop),as[i]? = some a->xs[i]? = some v->Same H H1->(t a=true->∀ y H2,Same H1 H2->Is K H2 (f a) y->R y H2)->(t a=false->∀ H2,Same H1 H2->R' H2) ->
   g v (List.replicate k none++Pd σ js) H1 fun σ2 H2=>tt σ2 H2 λb H3=>if b=true then te σ2 H3 R else R' H3)
  (hd:∀ p ys H',H p=none->Same H H'->H' p=some (.lst ys)->IsL K H' ((as.filter t).map f) ys->Q (.ref p) H'):Qm k js g tt te σ J H Q:=by
 refine Cu hw (λp i acc H1=>Same H H1/\IsL K H1 (((as.take i).filter t).map f) acc) (λp H' hp e h=>⟨e,by simp only[List.take_zero,List.filter_nil,List.map_nil];exact .nil⟩) (λp i acc H1 h=>hG H1 h.1) (λp i x acc H1 hp hx hi hl1 ha ⟨e,hacc⟩=>?_) λp acc H1 hp ha hl1 ⟨e,hacc⟩=>?_
 . have hi':i<as.length:=by omega
   obtain⟨a,hai⟩:∃ a,as[i]? = some a:=⟨as[i],A06 hi'⟩;have ht:as.take (i+1)=as.take i++[a]:=by rw[A0J,hai];rfl
   refine hs i a x H1 _ _ hai hx e (λh y H2 e2 hy=>?_) λh H2 e2=>?_
   . refine Ex hz hi hl1 (e2 _ _ ha) λH' e' h'=>⟨λb o hb=>e' b o (ne_of_none hb hp) (e2 _ _ (e b o hb)),?_⟩;rw[ht,A27,A0E];have fz:=e'.fzL (e2 _ _ ha);refine IsL.append (IsL.fz (e2.fz.trans fz) _ _ (Rq f hf _) hacc) ?_;simp only[List.filter_cons,h,if_true,List.filter_nil,List.map_cons,List.map_nil];exact .one (Is.fz fz _ _ (hf a) hy)
   refine Mz hi hl1 (e2 _ _ ha) ⟨e.trans e2,?_⟩;rw[ht,A27,A0E];simp only[List.filter_cons,h,Bool.false_eq_true,if_false,List.filter_nil,List.map_nil,List.append_nil];exact IsL.mono e2 _ _ hacc
 refine hd p acc H1 hp e ha ?_;rw[<- hl,A0M] at hacc;exact hacc
end
section
variable {X:Cx}{K:W.Frag}
def as8:PyData->Bool
 |.list _=>true
 |.tuple _=>true
 |_=>false
mutual
theorem Is.noDict {H:Hp}:∀(d:PyData) (v:V),Is K H d v->d.hasDict=false
 |.none,_,h=>by simp only[PyData.hasDict]
 |.bool _,_,h=>by simp only[PyData.hasDict]
 |.int _,_,h=>by simp only[PyData.hasDict]
 |.str _,_,h=>by simp only[PyData.hasDict]
 |.list ds,v,h=>by simp only[Is] at h;obtain⟨a,xs,e1,e2,e3⟩:=h;simp only[PyData.hasDict];exact IsL.noDict ds xs e3
 |.tuple ds,v,h=>by simp only[Is] at h;obtain⟨a,xs,e1,e2,e3⟩:=h;simp only[PyData.hasDict];exact IsL.noDict ds xs e3
 |.dict _,_,h=>by simp only[Is] at h
theorem IsL.noDict {H:Hp}:∀(ds:List PyData) (vs:List V),IsL K H ds vs->PyData.hasDictAll ds=false
 | [],_,h=>by simp only[PyData.hasDictAll]
 |d :: ds,vs,h=>by simp only[IsL] at h;obtain⟨v,r,e1,e2,e3⟩:=h;simp only[PyData.hasDictAll,Is.noDict d v e2,IsL.noDict ds r e3,Bool.or_self]
end
structure Sh (d:PyData):Prop where
 dp:as8 d=true
 sh:d.showable=true
 fits:d.shown.length<=sizeLine
 deep:d.depth<=100
theorem Mi (hq:QA X.A):CallR X (.builtin "repr") (λxs H Q=>∃ x d,xs=[x]/\Is X.K H d x/\Sh d/\Q (.str d.shown) H):=by
 intro pins s σ H xs us Q I rv h;obtain⟨x,d,rfl,i,S,q⟩:=h;obtain⟨u,rfl,ru⟩:=rv.one;obtain⟨as,ra⟩:=Is.reads I d x u i ru
 have href:∃ a,u = .ref a:=by
  have hd:=S.dp
  cases d with
  |list ds=>simp only[Is] at i;obtain⟨a,_,rfl,_⟩:=i;exact⟨a,ru⟩
  |tuple ds=>simp only[Is] at i;obtain⟨a,_,rfl,_⟩:=i;exact⟨a,ru⟩
  |_=>cases hd
 obtain⟨a,rfl⟩:=href;refine repr_of_reads' ra S.sh (λhx=>absurd hx (by rw[Is.noDict d x i];exact A0C)) hq.gd (by have:=hq.un;have:=S.deep;omega) (λ_ _ e=>e) (λh' t tk hk=>?_) S.fits;exact⟨.str d.shown,H,I.kept hk,⟨t,rfl⟩,q⟩
def Sc (z:Str)(n:Nat):Str:=⟨(List.replicate n z.cps).foldl (· ++ ·) #[]⟩
def ar2:R2:=λx y H Q=>∃ z n,x = .str z/\y = .int n/\2<=n/\n<=1000/\z.length<=1000/\0<z.length/\Q (.str (Sc z n.toNat)) H
theorem af3:OpR X (binaryOp .Mult) ar2:=by
 intro pins s σ H x y v u Q I rx ry h;obtain⟨z,n,rfl,rfl,h1,h2,h3,h4,q⟩:=h;obtain⟨t,rfl⟩:=rx;obtain⟨t2,rfl⟩:=ry;have a1:¬ n<1:=by omega
 have a2:(n==1||z.length==0)=false:=by
  have e1:(n==1)=false:=by simp;omega
  have e2:(z.length==0)=false:=by simp;omega
  rw[e1,e2];rfl
 have hz:z.length*n.toNat<=1000000:=by have:z.length*n.toNat<=1000*1000:=A3U h3 ∅;omega
 have hlen:(Sc z n.toNat).length<=sizeLine:=by
  have e:∀(m:Nat) (a:Array Nat),((List.replicate m z.cps).foldl (· ++ ·) a).size=a.size+m*z.cps.size:=by
   intro m
   induction m with
   |zero=>intro a;simp
   |succ m ih=>intro a;rw[A2H,A20,ih,Array.size_append,Nat.succ_mul];omega
  show((List.replicate n.toNat z.cps).foldl (· ++ ·) #[]).size<=sizeLine;rw[e];have e2:z.cps.size=z.length:=rfl;rw[e2,A14,A4G];simp;omega
 refine PySem.P.mul_str (by
   have b1:¬ n < -(2 ^ 63:Int):=by omega
   have b2:¬ n>=2 ^ 63:=by omega
   rw[A0X b1,A0X b2];rfl) (λ_ _=>?_) (λ_ _=>?_) ?_
 . have:(2 ^ 63-1:Int) / n>=1000:=by
    refine Int.le_ediv_of_mul_le ∅ ?_;have:1000*n<=1000*1000:=by omega
    omega
   omega
 . have hz2:z.length*n.toNat<=sizeLine:=A6 hz;rw[A14] at hz2;unfold Builtin.Str.tooLong;simp[sizeLine_eq];omega
 rw[A0S a1,a2,A0S A0C];exact⟨hlen,.str _,H,I.kept λ_ _ e=>e,⟨_,rfl⟩,q⟩
def ac7:R2:=λx y H Q=>a79 x y H Q\/ar2 x y H Q
theorem Fd:OpR X (binaryOp .Mult) ac7:=op_mulA.or af3
theorem i_mulBI {i j:Int}{H:Hp}{Q:VK}(h:CMul i j)(k:Q (.int (i*j)) H):ac7 (.int i) (.int j) H Q:=.inl (ai6 h k)
theorem a73 {z:Str}{n:Int}{H:Hp}{Q:VK}(h:2<=n/\n<=1000/\z.length<=1000/\0<z.length)(k:Q (.str (Sc z n.toNat)) H):ac7 (.str z) (.int n) H Q:=.inr ⟨z,n,rfl,rfl,h.1,h.2.1,h.2.2.1,h.2.2.2,k⟩
def rIs (neg:Bool):R2:=λx y H Q=>(y = .non/\Q (.bl (if neg then !decide (x = .non) else decide (x = .non))) H)\/∃ a b,x = .bl a/\y = .bl b/\Q (.bl (if neg then !(a==b) else a==b)) H
theorem al2:OpR X (compareOp .Is) (rIs false):=by
 intro pins s σ H x y v u Q I rx ry h;rcases h with ⟨rfl,q⟩|⟨a,b,rfl,rfl,q⟩
 . exact an7 pins s σ H x .non v u Q I rx ry ⟨rfl,q⟩
 cases rx
 cases ry;refine wpAny_is_plain rfl ?_;refine⟨.bl _,H,I,?_,q⟩;show Value.bool (Value.bool a==Value.bool b)=Value.bool (a==b)
 cases a<;>cases b<;>rfl
theorem Pl:OpR X (compareOp .IsNot) (rIs true):=by
 intro pins s σ H x y v u Q I rx ry h;rcases h with ⟨rfl,q⟩|⟨a,b,rfl,rfl,q⟩
 . exact ab1 pins s σ H x .non v u Q I rx ry ⟨rfl,q⟩
 cases rx
 cases ry;refine wpAny_isNot_plain rfl ?_;refine⟨.bl _,H,I,?_,q⟩;show Value.bool (!(Value.bool a==Value.bool b))=Value.bool (!(a==b))
 cases a<;>cases b<;>rfl
theorem i_isN {x:V}{H:Hp}{Q:VK}(k:Q (.bl (decide (x = .non))) H):rIs false x .non H Q:=.inl ⟨rfl,k⟩
theorem i_isNotN {x:V}{H:Hp}{Q:VK}(k:Q (.bl (!decide (x = .non))) H):rIs true x .non H Q:=.inl ⟨rfl,k⟩
def au7 (xs:List V)(i:Nat)(y:V):List V:=xs.take i++y :: xs.drop i
def Xq:V->List V->Hp->VK->Prop:=λx vs H Q=>∃ l xs i y,x = .ref l/\vs=[.int i,y]/\H l=some (.lst xs)/\0<=i/\i<=xs.length/\xs.length<sizeLine/\Q .non (upd H l (.lst (au7 xs i.toNat y)))
theorem Xy:MtM X "list.insert" Xq:=by
 intro pins s σ H x vs v us Q I rx rv h;obtain⟨l,xs,i,y,rfl,rfl,hH,h0,h1,hz,q⟩:=h
 cases rx;obtain⟨u,w,rfl,ru,rw'⟩:=Vals.two rv;obtain⟨t,rfl⟩:=ru;obtain⟨z,its,n,r,hl,e⟩:=I.lstM hH;have hlen:=r.length
 refine A3N F.slot_list_insert ⟨_,e,rfl⟩ F.entry_list_insert (F.args_list_insert_3 _ _ _)
  (AutoSeq1.list_insert_list_int_val_1 l its.toArray n i t w (by rw[fitsIndex_both ∅ (by rw[A14] at hz;omega)];decide) (by rw[A0T];omega)) ⟨e,?_⟩
 refine⟨.non,_,I.lset (its':=its.take i.toNat++w :: its.drop i.toNat) hH e ?_ ((r.take i.toNat).append (.cons rw' (r.drop i.toNat))) ?_,rfl,q⟩
 . have hi:i.toNat<=its.length:=by omega
   show(have k:=if i<0 then(i+((its.toArray.size:Nat):Int)).toNat else min i.toNat its.toArray.size;(its.toArray.extract 0 k).push w++its.toArray.extract k)=_
   rw[A0S ∅,A0T,Nat.min_eq_left hi];simp[List.extract_eq_drop_take];exact A4B (by rw[A1G];omega)
 rw[A09,A0L,A0O,A1G];omega
section
variable {D:Ends}{σ:St}{H:Hp}{t u:TS}{te td ty tv:TE}{g:TG}
theorem Ud (M:St->Hp->Prop)(h1:∀ N:St->Hp->Prop,(∀ σ' H',M σ' H'->N σ' H')->t {D with nx:=N} σ H)(h2:∀ σ' H',M σ' H'->u D σ' H'):at8 t u D σ H:=h1 (u D) h2
end
theorem ag7 {a:Addr}{xs:List V}{H:Hp}{Q:VK}(h:SqL K H a xs\/SqT K H a xs)(k:∀ p H',H p=none->Same H H'->H' p=some (.lst xs)->Q (.ref p) H'):Sv K [.ref a] H Q:=⟨a,xs,rfl,h,λp hp=>k p _ hp (Same.upd hp) A8⟩
theorem mm {id:String}{r:V->List V->Hp->VK->Prop}(h:MtM X id r):MtR X id r:=h
theorem i_tyLm {a:Addr}{xs:List V}{H:Hp}{B:Prop}(h:H a=some (.lst xs))(k:B):tyV K "list" (.ref a) H/\B:=⟨.inl ⟨rfl,xs,SqL.of h⟩,k⟩
theorem ay2 {l:Addr}{xs:List V}{y:V}{i:Int}{H:Hp}{Q:VK}(h:H l=some (.lst xs))(h0:0<=i)(h1:i<=xs.length)(hz:xs.length<=1000000)(k:∀ H',ExtBut l H H'->H' l=some (.lst (au7 xs i.toNat y))->Q .non H'):Xq (.ref l) [.int i,y] H Q:=
 ⟨l,xs,i,y,rfl,rfl,h,h0,h1,by rw[A14];omega,k _ ExtBut.upd A8⟩
theorem Vq {l:Addr}{xs:List V}{y:V}{H:Hp}{Q:VK}(h:H l=some (.lst xs))(hz:xs.length<=1000000)(k:∀ H',ExtBut l H H'->H' l=some (.lst (xs++[y]))->Q .non H'):Wu (.ref l) [y] H Q:=
 ⟨l,xs,y,rfl,rfl,h,by rw[A14];omega,k _ ExtBut.upd A8⟩
theorem Oz {l b:Addr}{xs zs:List V}{H:Hp}{Q:VK}(h:H l=some (.lst xs))(hb:H b=some (.lst zs))(hz:xs.length+zs.length<=1000000)(k:∀ H',ExtBut l H H'->H' l=some (.lst (xs++zs))->Q .non H'):Wr (.ref l) [.ref b] H Q:=
 ⟨l,b,xs,zs,rfl,rfl,h,hb,A6 hz,k _ ExtBut.upd A8⟩
theorem Yq {l:Addr}{xs:List V}{y:V}{i:Int}{H:Hp}{Q:VK}(h:H l=some (.lst xs))(h0:0<=i)(h1:xs[i.toNat]? = some y)(k:∀ H',ExtBut l H H'->H' l=some (.lst (xs.eraseIdx i.toNat))->Q y H')(hz:xs.length<=1000000):a08 (.ref l) [.int i] H Q:=by
 have h2:=(A02.mp h1).1;refine⟨l,xs,i,i.toNat,y,rfl,rfl,h,by omega,by omega,?_,h1,k _ ExtBut.upd A8⟩;have e:=Mw (Dh (α:=V) h1);obtain⟨j,e1,e2,e3,_⟩:=e;rw[A30 h0] at e1;rw[e1]
 have e4:seqIndex? i xs.length=some i.toNat:=by unfold seqIndex? at e1 ⊢;simp[show ¬ i<0 by omega] at e1 ⊢;omega
 rw[<- e1,e4]
end
def Ln (c:Nat):Bool:=decide (97<=c)&&decide (c<=122)
def Uy (x:Str):Bool:=decide (1<=x.length)&&decide (x.length<=8)&&x.cps.toList.all Ln
def Names (ns:List Str):Prop:=ns.Nodup/\∀ z∈ns,Uy z=true
def LL:Str:="abcdefghijklmnopqrstuvwxyzabcdefghijklmnopqrstuvwxyz"
theorem ar0:Sc "abcdefghijklmnopqrstuvwxyz" (2:Int).toNat=LL:=by decide +kernel
def LLn:List Nat:=LL.cps.toList
theorem ak2:LL.length=52:=by decide +kernel
theorem K2:LLn.length=52:=by decide +kernel
theorem Su:∀ c∈LLn,Ln c=true:=by decide +kernel
def txt (l:List Nat):Str:=⟨l.toArray⟩
theorem a97 {a b:List Nat}(h:txt a=txt b):a=b:=by have:a.toArray=b.toArray:=congrArg Str.cps h;simpa using this
theorem Xn (a b:List Nat):txt a++txt b=txt (a++b):=by show(⟨a.toArray++b.toArray⟩:Str)=⟨(a++b).toArray⟩;simp
theorem Ji {l:List Nat}(h0:1<=l.length)(h1:l.length<=8)(h2:∀ c∈l,Ln c=true):Uy (txt l)=true:=by
 unfold Uy;have e:(txt l).length=l.length:=by show l.toArray.size=_;simp
 rw[e,A19 h0,A19 h1];show(true&&true&&l.all Ln)=true;rw[A4A.mpr h2];rfl
def Lz (a b:Nat):List Nat:=(LLn.drop a).take (b-a)
theorem Kq {a b:Nat}(h:a<=b)(h1:b<=52):(Lz a b).length=b-a:=by unfold Lz;rw[A0O,A1G,K2];omega
theorem Hv {a b:Nat}:∀ c∈Lz a b,Ln c=true:=λc hc=>Su c (A4T (A1U hc))
theorem Sx {i j:Int}(h0:0<=i)(h1:i<=j)(h2:j<=52):Txt.slice LL (some i) (some j)=txt (Lz i.toNat j.toNat):=by
 have e:=StrLaws.sliceText_plain (x:=LL) (i:=i) (j:=j) ⟨h0,h1,by rw[show LL.cps.toList.length=52 by decide +kernel];omega⟩;have e2:(j-i).toNat=j.toNat-i.toNat:=by omega
 rw[e2] at e;exact e
def Oe (i:Nat):List Nat:=(LLn.drop i).take 1
theorem ag5 {i:Int}(h0:0<=i)(h1:i<52):∃ c,atI LL.cps.toList i=some c/\(⟨#[c]⟩:Str)=txt (Oe i.toNat):=by
 have h2:i.toNat<LLn.length:=by rw[K2];omega
 refine⟨LLn[i.toNat],?_,?_⟩
 . have:=Dh (A06 h2);rwa[A30 h0] at this
 unfold Oe;rw[List.drop_eq_getElem_cons h2];rfl
theorem Nu {i:Nat}(h:i<52):(Oe i).length=1:=by unfold Oe;rw[A0O,A1G,K2];omega
theorem Jz {i:Nat}:∀ c∈Oe i,Ln c=true:=λc hc=>Su c (A4T (A1U hc))
theorem Hd {α β:Type}{f:α->β}:∀ {l:List α},l.Nodup->(∀ a∈l,∀ b∈l,f a=f b->a=b)->(l.map f).Nodup
 | [],_,_=>by simp
 |a :: l,h,hf=>by rw[A0G,A0H];rw[A0H] at h;refine⟨λhm=>?_,Hd h.2 λx hx y hy=>hf x (A0D _ hx) y (A0D _ hy)⟩;obtain⟨b,hb,e⟩:=A0N.mp hm;have:=hf b (A0D _ hb) a A11 e;subst this;exact h.1 hb
theorem Gu {α β:Type}{f:α->β}:∀ {l:List α},(l.map f).Nodup->∀ a∈l,∀ b∈l,f a=f b->a=b
 | [],_,a,ha,_,_,_=>by cases ha
 |c :: l,h,a,ha,b,hb,e=>by
   rw[A0G,A0H] at h;rcases A0B.mp ha with q|ha'
   . rcases A0B.mp hb with q'|hb'
     . rw[q,q']
     exact absurd (A0N.mpr ⟨b,hb',by rw[<- e,q]⟩) h.1
   rcases A0B.mp hb with q'|hb'
   . exact absurd (A0N.mpr ⟨a,ha',by rw[e,q']⟩) h.1
   exact Gu h.2 a ha' b hb' e
theorem Lr {l:List (List Nat)}(h:l.Nodup):(l.map txt).Nodup:=Hd h λa _ b _ e=>a97 e
theorem Names.perm {ns ms:List Str}(h:Names ns)(p:ms.Perm ns):Names ms:=⟨p.nodup_iff.mpr h.1,λz hz=>h.2 z (p.mem_iff.mp hz)⟩
theorem Names.sublist {ns ms:List Str}(h:Names ns)(p:ms.Sublist ns):Names ms:=⟨h.1.sublist p,λz hz=>h.2 z (p.subset hz)⟩
theorem Se {xs:List V}{t:Int}(h0:0<=t)(h1:t<=xs.length):Kl xs (some t) none=xs.drop t.toNat:=by
 have e:HT.sIx xs.length 0 (some t)=t.toNat:=by unfold HT.sIx;simp[show ¬ t<0 by omega];omega
 unfold Kl;rw[e];have e2:HT.sIx xs.length xs.length none=xs.length:=rfl;rw[e2];exact A4B (by rw[A1G];omega)
theorem Ep {xs:List V}{t:Int}(h0:0<=t):Kl xs none (some t)=xs.take t.toNat:=by
 have e:HT.sIx xs.length xs.length (some t)=min t.toNat xs.length:=by unfold HT.sIx;simp[show ¬ t<0 by omega]
 unfold Kl;rw[e];have e2:HT.sIx xs.length 0 none=0:=rfl;rw[e2,List.drop_zero,Nat.sub_zero,Nat.min_comm];rw[<- List.take_take];exact A4B (by rw[A0O];omega)
theorem G1 {lo:Int} {n i:Nat} {x:V} (h:((List.range n).map λ(i:Nat)=>V.int (lo+(i:Int)))[i]? = some x):x = .int (lo+(i:Int))/\i<n:=by
 rw[A08] at h
 cases e:(List.range n)[i]? with
 |none=>rw[e] at h;cases h
 |some j=>
   rw[e] at h
   cases h;have e1:=A02.mp e;obtain⟨h1,h2⟩:=e1;rw[A1B] at h1;rw[List.getElem_range] at h2;subst h2;exact⟨rfl,h1⟩
def fI (F:Int->V):V->V
 |.int k=>F k
 |v=>v
theorem R3 {lo:Int}{n:Nat}{F:Int->V}{G:Nat->Str}(h:∀ k<n,F (lo+(k:Int)) = .str (G k)):((List.range n).map λ(i:Nat)=>V.int (lo+(i:Int))).map (fI F)=((List.range n).map G).map V.str:=by rw[A1D,A1D];refine A0Y λk hk=>?_;exact h k (A3V.mp hk)
theorem Qw:LL.length<=sizeLine:=by rw[ak2,A14];omega
theorem ExtBut.off {d q:Addr}{H H1 H2:Hp}(e:ExtBut d H H1)(hq:H q=none)(e2:ExtBut q H1 H2):ExtBut d H H2:=λb o n h=>e2 b o (ne_of_none h hq) (e b o n h)
theorem Same.off {q:Addr}{H H1 H2:Hp}(e:Same H H1)(hq:H q=none)(e2:ExtBut q H1 H2):Same H H2:=λb o h=>e2 b o (ne_of_none h hq) (e b o h)
def Up (ls:List Str)(ps:List (Str×Str)):Prop:=∀ p∈ps,∃ i j:Nat,i<j/\ls[i]? = some p.1/\ls[j]? = some p.2
theorem Up.nil {ls:List Str}:Up ls []:=λ_ h=>by cases h
theorem Up.append {ls:List Str}{ps qs:List (Str×Str)}(h:Up ls ps)(g:Up ls qs):Up ls (ps++qs):=λp hp=>by
 rcases A0R.mp hp with hp|hp
 . exact h p hp
 exact g p hp
theorem Up.one {ls:List Str}{x y:Str}{i j:Nat}(h:i<j)(hx:ls[i]? = some x)(hy:ls[j]? = some y):Up ls [(x,y)]:=λp hp=>by
 have:p=(x,y):=by simpa using hp
 subst this;exact⟨i,j,h,hx,hy⟩
theorem Up.sub {ls:List Str}{ps qs:List (Str×Str)}(h:Up ls ps)(s:∀ p∈qs,p∈ps):Up ls qs:=λp hp=>h p (s p hp)
theorem str_at? {ls:List Str}{i:Int}(h0:0<=i)(h1:i<ls.length):∃ z,ls[i.toNat]? = some z/\atI (ls.map V.str) i=some (.str z)/\atI ls i=some z:=by
 have h2:i.toNat<ls.length:=by omega
 refine⟨ls[i.toNat],A06 h2,?_,?_⟩
 . have:=Dh (xs:=ls.map V.str) (j:=i.toNat) (v:=.str ls[i.toNat]) (by rw[A08,A06 h2];rfl);rwa[A30 h0] at this
 have:=Dh (A06 h2);rwa[A30 h0] at this
theorem Ml {α:Type}:∀(us:List α) (k:Nat) (y:α),us[k]? = some y->(y :: us.eraseIdx k).Perm us
 | [],k,y,h=>by simp at h
 |u :: us,0,y,h=>by
   have:u=y:=by simpa using h
   subst this;exact List.Perm.refl _
 |u :: us,k+1,y,h=>by have ih:=Ml us k y (by simpa using h);exact(A3W u y _).trans (ih.cons u)
theorem Yp {α:Type}{us:List α}{k:Nat}{y:α}(h:us[k]? = some y)(vs:List α):(vs++[y]++us.eraseIdx k).Perm (vs++us):=by rw[A1Y];exact A3H vs (Ml us k y h)
theorem Jk {α:Type}{l:List α}{i:Nat}{y:α}(h:i<l.length):l[i]? = some (l.getD i y):=by rw[List.getD_eq_getElem?_getD,A06 h];rfl
inductive Way (ps:List (Str×Str)):Str->Str->Prop
 |one {x y:Str}:(x,y)∈ps->Way ps x y
 |cons {x z y:Str}:(x,z)∈ps->Way ps z y->Way ps x y
theorem Way.trans {ps:List (Str×Str)}{x y z:Str}(h:Way ps x y)(g:Way ps y z):Way ps x z:=by
 induction h with
 |one e=>exact .cons e g
 |cons e _ ih=>exact .cons e (ih g)
theorem Way.right {ps:List (Str×Str)}{x y:Str}(h:Way ps x y):y∈ps.map (·.2):=by
 induction h with
 |one e=>exact A0N.mpr ⟨_,e,rfl⟩
 |cons _ _ ih=>exact ih
theorem Up.lt {ls:List Str}(hn:ls.Nodup){ps:List (Str×Str)}(h:Up ls ps){x y:Str}(g:Way ps x y):∃ i j:Nat,i<j/\ls[i]? = some x/\ls[j]? = some y:=by
 induction g with
 |one e=>exact h _ e
 |cons e _ ih=>
   obtain⟨i,j,h1,h2,h3⟩:=h _ e;obtain⟨i',j',g1,g2,g3⟩:=ih
   have e:j=i':=by obtain⟨a,b⟩:=A02.mp h3;obtain⟨c,d⟩:=A02.mp g2;exact(A1P hn).mp (b.trans d.symm)
   exact⟨i,j',by omega,h2,g3⟩
theorem Up.irrefl {ls:List Str}(hn:ls.Nodup){ps:List (Str×Str)}(h:Up ls ps){x:Str}:¬ Way ps x x:=λg=>by obtain⟨i,j,h1,h2,h3⟩:=h.lt hn g;obtain⟨a,b⟩:=A02.mp h2;obtain⟨c,d⟩:=A02.mp h3;have:=(A1P hn).mp (b.trans d.symm);omega
theorem Up.mem {ls:List Str}{ps:List (Str×Str)}(h:Up ls ps){p:Str×Str}(hp:p∈ps):p.1∈ls/\p.2∈ls:=by obtain⟨i,j,_,h2,h3⟩:=h p hp;exact⟨A05 h2,A05 h3⟩
structure Half (ns:List Str)(ps:List (Str×Str)):Prop where
 names:Names ns
 few:ns.length<=10
 le:ps.length<=60
 line:∃ ls:List Str,ls.Perm ns/\Up ls ps
theorem Half.irrefl {ns:List Str}{ps:List (Str×Str)}(h:Half ns ps){x:Str}:¬ Way ps x x:=by obtain⟨ls,h1,h2⟩:=h.line;exact h2.irrefl (h1.nodup_iff.mpr h.names.1)
theorem Half.mem {ns:List Str}{ps:List (Str×Str)}(h:Half ns ps){p:Str×Str}(hp:p∈ps):p.1∈ns/\p.2∈ns:=by obtain⟨ls,h1,h2⟩:=h.line;have:=h2.mem hp;exact⟨h1.mem_iff.mp this.1,h1.mem_iff.mp this.2⟩
theorem K8 (ls:List Str):PyData.eqv (.list (ls.map PyData.str)) (.list [])=ls.isEmpty:=by cases ls<;>simp[PyData.eqv,PyData.eqvAll]
mutual
def Ff:PyData->Bool
 |.none=>true
 |.bool _=>true
 |.str x=>PyData.strOk x
 |.list ds=>K4 ds
 |.tuple ds=>K4 ds
 |_=>false
def K4:List PyData->Bool
 | []=>true
 |d :: ds=>Ff d&&K4 ds
end
mutual
theorem Hc:∀ d:PyData,Ff d=true->d.canLay0=true
 |.none,_=>by simp only[PyData.canLay0]
 |.bool _,_=>by simp only[PyData.canLay0]
 |.str x,h=>by simpa only[PyData.canLay0,Ff] using h
 |.list ds,h=>by simp only[PyData.canLay0];exact Jx ds (by simpa only[Ff] using h)
 |.tuple ds,h=>by simp only[PyData.canLay0];exact Jx ds (by simpa only[Ff] using h)
 |.int _,h=>by simp[Ff] at h
 |.dict _,h=>by simp[Ff] at h
theorem Jx:∀ ds:List PyData,K4 ds=true->PyData.canLayAll0 ds=true
 | [],_=>by simp only[PyData.canLayAll0]
 |d :: ds,h=>by simp only[K4,Bool.and_eq_true] at h;simp only[PyData.canLayAll0,Hc d h.1,Jx ds h.2,Bool.and_self]
end
structure Fine (d:PyData):Prop where
 plain:Ff d=true
 deep:d.depth<=60
 light:d.weight<=1000000
theorem ae9 {z:Str}(h:Uy z=true):PyData.strOk z=true/\z.cps.size<=8:=by unfold Uy at h;simp only[Bool.and_eq_true,decide_eq_true_eq] at h;refine⟨?_,h.1.2⟩;unfold PyData.strOk;rw[<- Array.all_toList,A4A];intro c hc;have:=A4A.mp h.2 c hc;unfold Ln at this;simp only[Bool.and_eq_true,decide_eq_true_eq] at this;exact A19 ∅
theorem Ib {α:Type}(f:α->PyData):∀ xs:List α,(∀ a∈xs,Ff (f a)=true)->K4 (xs.map f)=true
 | [],_=>by simp only[List.map_nil,K4]
 |x :: xs,h=>by simp only[List.map_cons,K4,h x List.mem_cons_self,Ib f xs λa ha=>h a (List.mem_cons_of_mem _ ha),Bool.and_self]
theorem Ld {α:Type}(f:α->PyData)(n:Nat):∀ xs:List α,(∀ a∈xs,(f a).depth<=n)->PyData.depthAll (xs.map f)<=n
 | [],_=>by simp only[List.map_nil,PyData.depthAll];omega
 |x :: xs,h=>by have h1:=h x A11;have h2:=Ld f n xs λa ha=>h a (A0D _ ha);simp only[List.map_cons,PyData.depthAll];omega
theorem M9 {α:Type}(f:α->PyData)(n:Nat):∀ xs:List α,(∀ a∈xs,(f a).weight<=n)->PyData.weightAll (xs.map f)<=xs.length*(n+1)
 | [],_=>by simp only[List.map_nil,PyData.weightAll];omega
 |x :: xs,h=>by have h1:=h x A11;have h2:=M9 f n xs λa ha=>h a (A0D _ ha);simp only[List.map_cons,PyData.weightAll,List.length_cons,Nat.add_mul];omega
theorem Ry {ns:List Str}(h:∀ z∈ns,Uy z=true):Ff (nmD ns)=true/\(nmD ns).depth<=1/\(nmD ns).weight<=ns.length*9:=by
 refine⟨by simp only[nmD,Ff];exact Ib _ ns λz hz=>by simp only[Ff];exact(ae9 (h z hz)).1,?_,?_⟩
 . simp only[nmD,PyData.depth];have:=Ld PyData.str 0 ns λz hz=>by simp only[PyData.depth];omega
   omega
 simp only[nmD,PyData.weight];exact M9 PyData.str 8 ns λz hz=>by simp only[PyData.weight];exact(ae9 (h z hz)).2
theorem R7 {ns:List Str}(h:∀ z∈ns,Uy z=true)(hl:ns.length<=1000):Fine (nmD ns):=let ⟨a,b,c⟩:=Ry h;⟨a,by omega,by omega⟩
theorem Si {ns:List Str}(h:∀ z∈ns,PyData.strOk z=true):SeqAt.shaped (.list (ns.map PyData.str))=true:=by
 unfold SeqAt.shaped;have e:(PyData.list (ns.map PyData.str)).canLay0=true:=Hc _ (by simp only[Ff];exact Ib _ ns λz hz=>by simp only[Ff];exact h z hz)
 have e2:(PyData.list (ns.map PyData.str)).depth<=64:=by
  simp only[PyData.depth];have:=Ld PyData.str 0 ns λz hz=>by simp only[PyData.depth];omega
  omega
 rw [e,A19 e2];rfl
theorem Fa {α:Type}[DecidableEq α]:∀ {xs ys:List α},xs.Nodup->(∀ x∈xs,x∈ys)->xs.length<=ys.length
 | [],_,_,_=>A2Q _
 |x :: xs,ys,h,hs=>by
   rw[A0H] at h;have hx:x∈ys:=hs x A11
   have ih:=Fa (xs:=xs) (ys:=ys.erase x) h.2 λz hz=>by refine(List.mem_erase_of_ne ?_).mpr (hs z (A0D _ hz));intro e;subst e;exact h.1 hz
   rw[List.length_erase_of_mem hx] at ih;have:0<ys.length:=List.length_pos_of_mem hx;rw[A0L];omega
section
variable {c:TT}{tb:TS}{D:Ends}{σ:St}{H:Hp}
theorem X3 (W:Nat->St->Hp->Prop)(m:Nat)(h0:W m σ H)
  (hs:∀ m σ H,W m σ H->c σ H λb H1=>if b=true then ∃ N:St->Hp->Prop,(∀ σ' H',N σ' H'->∃ m',m'<m/\W m' σ' H')/\tb {D with nx:=N,ct:=N,bk:=D.nx} σ H1 else D.nx σ H1):a04 c tb D σ H:=⟨W,⟨m,h0⟩,hs⟩
theorem a05 {W:Nat->St->Hp->Prop}{m:Nat}(h:tb {D with nx:=fun σ' H'=>∃ m',m'<m/\W m' σ' H',ct:=fun σ' H'=>∃ m',m'<m/\W m' σ' H',bk:=D.nx} σ H) :
  ∃ N:St->Hp->Prop,(∀ σ' H',N σ' H'->∃ m',m'<m/\W m' σ' H')/\tb {D with nx:=N,ct:=N,bk:=D.nx} σ H:=⟨_,λ_ _ h=>h,h⟩
end
section
variable {X:Cx}{K:W.Frag}
def Rj:V->List V->Hp->VK->Prop:=λx vs H Q=>∃ d o kvs more,x = .ref d/\vs=[.ref o]/\d≠o/\H d=some (.dK kvs)/\H o=some (.dK more)/\kvs.length+more.length<=1000000/\Q .non (upd H d (.dK (Fm kvs more)))
theorem Wa:MtM X "dict.update" Rj:=by
 intro pins s σ H x vs v us Q I rx rv h;obtain⟨d,o,kvs,more,rfl,rfl,hdo,hD,hO,hz,q⟩:=h
 cases rx;obtain⟨u,rfl,ru⟩:=rv.one
 cases ru;obtain⟨z1,hd1,vs1,rel1,dd1⟩:=Qs I.hok hD;obtain⟨z2,hd2,vs2,rel2,dd2⟩:=Qs I.hok hO;have l1:kvs.length=vs1.length:=rel1.length;have l2:more.length=vs2.length:=rel2.length;refine A3S F.slot_dict_update dd1.typeIs F.entry_dict_update (F.args_dict_update_2 _ _) (meets_dict_update (Ax X.prog X.w) d o hdo hd2) ⟨vs1,vs2,dd1,dd2,A6 ∅,λh' dd' _ hs=>?_⟩;have he:∃ q,h'.get? d=some q:=let ⟨q,_,_,hq,_⟩:=dd';⟨q,hq⟩;refine⟨.non,_,Le I (by rw[hD];exact A23) hs he (Tj ?_ hd1 (KV.merge rel2 rel1) dd'),rfl,q⟩;have:=Ey more kvs;exact A6 ∅
end
theorem Gm:entryFor table "dict.update.loop" = some Builtin.«dict.update.loop»:=entryFor_of_tree (by kernel_rfl)
theorem Cj:plainId "dict.update.loop" = true:=by decide +kernel
theorem Pq:typeLookup (.type "list") "keys" = pure none:=by rw[typeLookup_type,builtinLookup_eq_fast];kernel_rfl
section
variable {prog:Program}{w:World}{κ:Type}[DecidableEq κ]{knd:KeyKind prog w κ}{A:Around}{E:Value->Shared->Prop}{s:Shared}
theorem Qe {a:Addr}{xs:Array Value}{k:Nat}{Q:Option Value->Shared->Prop}(hx:s.heap.get? a=some {cls:=.type "list",data:=.seq xs k})(hA:A.handled=none)
  (h:∀ h' tk,(∀ b o,s.heap.get? b=some o->h'.get? b=some o)->Q none {s with heap:=h',toks:=tk}):wpAny (model prog w) A (getAttr? (.ref a) "keys") Q E s:=by
 obtain⟨hp,g,d,tk,os⟩:=s;have hT:∀ tk',(⟨hp,g,d,tk',os⟩:Shared).TypeIs (.ref a) "list":=λ_=>⟨_,hx,rfl⟩;have f1:=sub_AttributeError;have f3:=F.slot_list_getattribute.lookup;have f4:=F.slot_list_getattribute.bind (.ref a);have f5:=am_list_getattr_none;unfold getAttr? getAttrBy? getAttrBy
 repeat (any_goals (first | assumption | exact hT _ | ((with_reducible show wpAny _ _ (call (Value.builtin "list.__getattribute__") _ _) _ _ _);refine A3N F.slot_list_getattribute (hT _) am_entry_list_getattribute (F.args_list_getattribute_2 _ _) (meets_getattribute_miss_list a xs k #[] "keys" _ Pq (by decide +kernel) (by rw[A14];decide +kernel)) ⟨hx,hA,λh' tk' e hx'=>?_⟩) | wp_step))
 obtain⟨t',u',he⟩:=hx'.there;show wpAny _ _ (getattributeRaised _ _ _ _ _ _ _) _ _ _;unfold getattributeRaised
 repeat (any_goals (first | assumption | wp_step))
 exact h _ _ hx'.keeps
theorem Mb {t:Addr}{k v:Value}{Q:List Value->Shared->Prop}(ht:IsTup s.heap t #[k,v])(h:Q [k,v] s):wpAny (model prog w) A (Builtin.Dict.pairItems (.ref t)) Q E s:=by obtain⟨o,ho,hc,n,hd⟩:=ht;unfold Builtin.Dict.pairItems;refine A00 (A3F ⟨o,ho,hc⟩ ?_);rw[A0W nofun];refine A00 (wpAny_seqItems ho hd ?_);exact A04 h
theorem Xa {I D l:Addr}{items:Array Value}(hh:A.in1.handled=none)(hne:l≠I)(hDI:D≠I)(hDl:D≠l)(pk:List (κ×Value×Addr×Value))(hlen:pk.length=items.size)(hz:items.size<=1000000) :
  ∀(j i:Nat) (s:Shared) (R:Result->Shared->Prop),items.size-i=j->i<=items.size->s.heap.IsListIter I l i->s.heap.IsList l items ->
   s.heap.DictOf knd D (merged [] ((pk.take i).map λp=>(p.1,p.2.1))) ->
   (∀(n:Nat) (p:κ×Value×Addr×Value),pk[n]? = some p->items[n]? = some (Value.ref p.2.2.1)/\p.2.2.1≠I/\p.2.2.1≠D/\IsTup s.heap p.2.2.1 #[p.2.2.2,p.2.1]/\knd.is p.1 p.2.2.2=true) ->
   (∀ h' tk,h'.DictOf knd D (merged [] (pk.map λp=>(p.1,p.2.1)))->(∀ b o,b≠D->b≠I->s.heap.get? b=some o->h'.get? b=some o)->R (.ok (.ret .none)) {s with heap:=h',toks:=tk}) ->
   codeAny (model prog w) A (.builtin "dict.update.loop" ⟨[.ref D,.ref I,.int i 0,.none],[]⟩) R s:=by
 have W:=Walks.list (prog:=prog) (w:=w) hh I l hne items;intro j
 induction j with
 |zero=>
   intro i s R hj hi hI hL hD hP hR;have hin:i=items.size:=by omega
   subst hin;refine A4L Gm ?_;rw[A3M Cj _];show wpAny _ A.in1 (pyNext (.ref I) >>= _) _ _ s;refine A00 (W.done s _ _ ⟨hI,hL⟩ λh' tk hm=>?_);show wpAny _ A.in1 (Builtin.Dict.addKeywords D [] >>= _) _ _ _;refine wpAny_bind (wpAny_pure (wpAny_pure (hR h' tk ?_ λb o hb hb' e=>hm b o (by simpa using hb') e)));rw[<- hlen,A0M] at hD;obtain⟨o,es,ep,ho,r⟩:=hD;exact⟨o,es,ep,hm D o (by simpa using hDI) ho,r⟩
 |succ j ih=>
   intro i s R hj hi hI hL hD hP hR;have hlt:i<items.size:=by omega
   obtain⟨p,hp⟩:∃ p,pk[i]? = some p:=⟨pk[i]'∅,A06 _⟩;obtain⟨q1,q2,q3,q4,q5⟩:=hP i p hp;refine A4L Gm ?_;rw[A3M Cj _];show wpAny _ A.in1 (pyNext (.ref I) >>= _) _ _ s;refine A00 (W.item i s _ _ hlt ⟨hI,hL⟩ λv h' tk hv hst hm=>?_)
   have hv':v = .ref p.2.2.1:=by have hv2:items[i]? = some v:=hv;rw[q1] at hv2;exact(A10 hv2).symm
   subst hv'
   have ht':IsTup h' p.2.2.1 #[p.2.2.2,p.2.1]:=by obtain⟨o,ho,r⟩:=q4;exact⟨o,hm _ o (by simpa using q2) ho,r⟩
   have hD':h'.DictOf knd D (merged [] ((pk.take i).map λp=>(p.1,p.2.1))):=by obtain⟨o,es,ep,ho,r⟩:=hD;exact⟨o,es,ep,hm D o (by simpa using hDI) ho,r⟩
   show wpAny _ A.in1 (holding [Value.ref p.2.2.1] _ >>= _) _ _ _;refine A00 (A1H ?_);refine A00 (wpAny_tryCatch (Mb ht' ?_));show wpAny _ A.in1 (holding [p.2.2.2,p.2.1] (dictSet D p.2.2.2 p.2.1)) _ _ _;refine A1H (wpAny_dictSet_pairs q5 hD' (λh'' hD'' hs=>?_) ?_)
   . refine A04 ⟨A57 Cj _,?_⟩;have hkeep:∀ b o,b≠D->b≠I->s.heap.get? b=some o->h''.get? b=some o:=λb o h1 h2 e=>(hs.2 b h1).trans (hm b o (by simpa using h2) e);refine ih (i+1) _ R ∅ hlt ?_ ?_ ?_ (λn p' hp'=>?_) λh3 tk3 hD3 hk3=>hR h3 tk3 hD3 λb o h1 h2 e=>hk3 b o h1 h2 (hkeep b o h1 h2 e)
     . exact hst.1.at λo e=>(hs.2 I (Ne.symm hDI)).trans e
     . exact hst.2.at λo e=>(hs.2 l (Ne.symm hDl)).trans e
     . have e:merged [] ((pk.take (i+1)).map λp=>(p.1,p.2.1))=stored (merged [] ((pk.take i).map λp=>(p.1,p.2.1))) p.1 p.2.1:=by rw[A0J,hp];unfold merged;rw[A0E,List.foldl_append];rfl
       rw[e];exact hD''
     obtain⟨a1,a2,a3,⟨o,ho,r⟩,a5⟩:=hP n p' hp';exact⟨a1,a2,a3,⟨o,hkeep _ o a3 a2 ho,r⟩,a5⟩
   refine A0Q (merged_length_le _ _) (A6 ?_);rw[A01,A0O];simp;omega
theorem Kv {l:Addr}{items:Array Value}{n:Nat}{Q:Value->Shared->Prop}(hl:s.heap.get? l=some {cls:=.type "list",data:=.seq items n})(hA:A.handled=none)(pk:List (κ×Value×Addr×Value))(hlen:pk.length=items.size)(hz:items.size<=1000000)
  (hP:∀(n:Nat) (p:κ×Value×Addr×Value),pk[n]? = some p->items[n]? = some (Value.ref p.2.2.1)/\IsTup s.heap p.2.2.1 #[p.2.2.2,p.2.1]/\knd.is p.1 p.2.2.2=true)
  (h:∀ h' tk,h'.DictOf knd s.heap.objs.size (merged [] (pk.map λp=>(p.1,p.2.1)))->(∀ b o,s.heap.get? b=some o->h'.get? b=some o)->Q (.ref s.heap.objs.size) {s with heap:=h',toks:=tk}) :
  wpAny (model prog w) A (call (.type "dict") [.ref l]) Q E s:=by
 refine callType_codes (Q₁:=λobj s₁=>obj = .ref s.heap.objs.size/\s₁={s with heap:=s.heap.push {cls:=.type "dict",data:=.dict #[]}}) F.kt_called_dict (F.kt_typeCall_dict_1 _) F.entry_dict_init (kt_code_dict_new _ ⟨rfl,rfl⟩) ?_
 rintro obj s₁ ⟨rfl,rfl⟩;have hnew:(s.heap.push {cls:=.type "dict",data:=.dict #[]}).DictOf knd s.heap.objs.size []:=Heap.DictOf.new s.heap;have hl':(s.heap.push {cls:=.type "dict",data:=.dict #[]}).get? l=some {cls:=.type "list",data:=.seq items n}:=A03 _ hl;have hll:l<s.heap.objs.size:=A0A hl;refine⟨hnew.typeIs,F.args_dict_init_2 _ _,?_⟩;unfold Builtin.«dict.__init__»;refine A00 ?_;unfold Builtin.Dict.selfAndRest;refine A00 (A3I hnew.typeIs ?_);show wpAny _ _ (pure (s.heap.objs.size,[Value.ref l])) _ _ _;refine A04 ?_;show wpAny _ _ (Builtin.Dict.updateFrom "dict.__init__" s.heap.objs.size (.ref l) [] .none) _ _ _;unfold Builtin.Dict.updateFrom;refine A00 (A3F ⟨_,hl',rfl⟩ ?_);rw[A0W nofun];refine wpAny_bind (Qe hl' (by simpa using hA) λh1 tk1 hk1=>?_);have hl1:h1.get? l=some {cls:=.type "list",data:=.seq items n}:=hk1 _ _ hl';rw[A0W (show(none:Option Value).isNone=true from rfl)]
 have hD1:h1.DictOf knd s.heap.objs.size []:=by obtain⟨o,es,ep,ho,r⟩:=hnew;exact⟨o,es,ep,hk1 _ _ ho,r⟩
 have hsz:s.heap.objs.size<h1.objs.size:=by obtain⟨o,es,ep,ho,r⟩:=hD1;exact A0A ho
 refine A00 (wpAny_rule ?_);have hL1:h1.IsList l items:=⟨_,hl1,rfl,n,rfl⟩;refine A00 (A3Z hL1 ?_);refine A04 ⟨A57 Cj _,?_⟩;have kp:∀ b o,s.heap.get? b=some o->(h1.push {cls:=.type "list_iterator",data:=.fields #[.ref l,.int 0 0]}).get? b=some o:=λb o e=>A03 _ (hk1 _ _ (A03 _ e));refine Xa (knd:=knd) (A:=A.in1) (I:=h1.objs.size) (D:=s.heap.objs.size) (l:=l) (items:=items) (by simpa using hA) (Nat.ne_of_lt (Nat.lt_trans hll hsz)) (Nat.ne_of_lt hsz) (Nat.ne_of_gt hll) pk hlen hz items.size 0 _ _ (Nat.sub_zero _) (Nat.zero_le _) ⟨_,Heap.get?_push_size _ rfl,rfl,rfl⟩ (hL1.push _) ?_ (λm p hp=>?_) λh' tk hD hk=>?_
 . exact hD1.push _
 . obtain⟨a1,⟨o,ho,r⟩,a3⟩:=hP m p hp;have hlt:=A0A ho;exact⟨a1,A0P (A3G hlt hsz),A0P hlt,⟨o,kp _ _ ho,r⟩,a3⟩
 refine⟨rfl,h h' tk hD λb o e=>?_⟩;have hlt:=A0A e;exact hk b o (A0P hlt) (A0P (A3G hlt hsz)) (kp b o e)
end
def PrsK (K:W.Frag)(H:Hp):List (Key×V)->List V->Prop
 | [],ys=>ys=[]
 |kv :: r,ys=>∃ t ys',ys = .ref t :: ys'/\SqT K H t [kV kv.1,kv.2]/\PrsK K H r ys'
theorem PrsK.pk {X:Cx}{pins:List (Addr×Obj)}{σ:St}{H:Hp}{s:Shared}(I:Inv X pins σ H s):∀(kvs:List (Key×V)) (ys:List V) (its:List Value),PrsK X.K H kvs ys->Vals ys its ->
  ∃ pk:List (Key×Value×Addr×Value),pk.length=its.length/\KV kvs (pk.map λp=>(p.1,p.2.1))/\∀(n:Nat) (p:Key×Value×Addr×Value),pk[n]? = some p->its[n]? = some (Value.ref p.2.2.1)/\IsTup s.heap p.2.2.1 #[p.2.2.2,p.2.1]/\(Ax X.prog X.w).is p.1 p.2.2.2=true
 | [],ys,its,h,v=>by
   have h':ys=[]:=h;subst h'
   cases v;exact ⟨[],rfl,.nil,λn p hp=>by simp at hp⟩
 |kv :: r,ys,its,h,v=>by
   obtain⟨t,ys',rfl,h2,h3⟩:=h
   cases v with
   |cons v1 v2=>
     obtain⟨pk,l1,l2,l3⟩:=PrsK.pk I r ys' _ h3 v2
     cases v1;obtain ⟨its2,rv,ht,_⟩:=I.tuple h2;obtain⟨key,val,rfl,a1,a3⟩:=Vals.two rv;refine⟨(kv.1,val,t,key) :: pk,by simp[l1],.cons ⟨rfl,a3⟩ l2,λn p hp=>?_⟩
     cases n with
     |zero=>have:p=(kv.1,val,t,key):=(Option.some.inj (by simpa using hp)).symm;subst this;exact⟨rfl,ht,Pc a1⟩
     |succ n=>exact l3 n p (by simpa using hp)
section
variable {X:Cx}{K:W.Frag}
def Vn (K:W.Frag):List V->Hp->VK->Prop:=λxs H Q=>∃ l ys kvs,xs=[V.ref l]/\H l=some (.lst ys)/\PrsK K H kvs ys/\ys.length<=1000000/\kvs.length<=1000000/\∀ p,H p=none->Q (.ref p) (upd H p (.dK (Fm [] kvs)))
theorem Tr (hr:X.A.handled=none):CallR X (.type "dict") (Vn X.K):=by
 intro pins s σ H xs us Q I rv h;obtain⟨l,ys,kvs,rfl,hl,hp,hz,hz2,q⟩:=h;obtain⟨u,rfl,ru⟩:=rv.one
 cases ru;obtain⟨z,its,n,r,hlen,e⟩:=I.lstM hl;obtain⟨pk,l1,l2,l3⟩:=PrsK.pk I kvs ys its hp r;refine Kv (knd:=Ax X.prog X.w) e hr pk (by simpa using l1) (by simp;omega) (λn p hp=>?_) λh' tk hD hk=>?_
 . obtain⟨a1,a2,a3⟩:=l3 n p hp;exact⟨by simpa using a1,a2,a3⟩
 refine⟨.ref s.heap.objs.size,_,I.laid hk (A07 _) (Tj ?_ ?_ (KV.merge l2 .nil) hD),rfl,q _ (I.hok.fresh (A07 _))⟩
 . have:=Ey kvs [];exact A6 (by simpa using Nat.le_trans this (by simpa using hz2))
 exact A0I.mpr (A3E I.big)
theorem Mm (hr:X.A.handled=none)(hK:X.K=K:=by ac_nf):CallR X (.type "dict") (Vn K):=hK ▸ Tr hr
end
def Kc (ns:List Str)(as:List Addr):List (Key×V):=(ns.zip as).map λp=>(Sum.inr p.1,V.ref p.2)
def Jq (ks:List Str):List (Key×V):=ks.map λy=>(Sum.inr y,V.bl true)
theorem Gq:∀ {ns:List Str} {as:List Addr} {i:Nat} {z:Str} {a:Addr},ns.Nodup->ns[i]? = some z->as[i]? = some a->Cy (Kc ns as) (Sum.inr z:Key)=some (.ref a)
 | [],_,i,_,_,_,h,_=>by simp at h
 |n :: ns,[],i,_,_,_,_,h=>by simp at h
 |n :: ns,b :: as,0,z,a,_,h,g=>by simp at h g;subst h g;exact Bj rfl
 |n :: ns,b :: as,i+1,z,a,hn,h,g=>by
   rw[A0H] at hn;have h':ns[i]? = some z:=by simpa using h
   have ne:¬ (Sum.inr n:Key)=Sum.inr z:=by
    intro e;have e2:n=z:=by injection e
    subst e2;exact hn.1 (A05 h')
   show Cy ((Sum.inr n,V.ref b) :: Kc ns as) _=_;rw[Bk ne];exact Gq hn.2 h' (by simpa using g)
theorem Ti (y:Str):∀ ks:List Str,Cy (Jq ks) (Sum.inr y:Key)=if y∈ks then some (.bl true) else none
 | []=>by simp[Jq,Yv]
 |k :: ks=>by
   show Cy ((Sum.inr k,V.bl true) :: Jq ks) _=_
   by_cases e:k=y
   . subst e;rw[Bj rfl,A0W A11]
   rw[Bk (by intro q;injection q with q;exact e q),Ti y ks]
   have:(y∈k :: ks)↔y∈ks:=by simp[Ne.symm e]
   simp only[this]
def a34 (ks:List Str)(y:Str):List Str:=if y∈ks then ks else ks++[y]
theorem mem_addK {ks:List Str}{y z:Str}:z∈a34 ks y↔z∈ks\/z=y:=by
 unfold a34
 split
 . constructor
   . exact .inl
   rintro(h|rfl)
   . exact h
   assumption
 simp
theorem Mo {ks:List Str}{y:Str}(h:ks.Nodup):(a34 ks y).Nodup:=by
 unfold a34
 split
 . exact h
 rename_i hy;rw[A1Z];refine⟨h,by simp,λa ha b hb e=>?_⟩;have:b=y:=by simpa using hb
 subst this;subst e;exact hy ha
theorem aa8 (y:Str)(ks:List Str):((Jq ks).any λkv=>decide (kv.1=(Sum.inr y:Key)))=decide (y∈ks):=by
 induction ks with
 |nil=>simp[Jq]
 |cons k ks ih=>
   show(decide ((Sum.inr k:Key)=Sum.inr y)||(Jq ks).any _)=_
   rw[ih]
   by_cases e:k=y
   . subst e;simp
   have e':¬ (Sum.inr k:Key)=Sum.inr y:=by intro q;injection q with q;exact e q
   simp[e',Ne.symm e]
theorem Wj (ks:List Str)(y:Str):Ea (Jq ks) (Sum.inr y:Key) (.bl true)=Jq (a34 ks y):=by
 unfold Ea a34;rw[aa8]
 by_cases h:y∈ks
 . rw[A0W (A19 h),A0W h];unfold Jq;rw[A1D];refine A0Y λk _=>?_;show(if(Sum.inr k:Key)=Sum.inr y then(Sum.inr k,V.bl true) else(Sum.inr k,V.bl true))=_
   split<;>rfl
 rw[if_neg (by simpa using h),if_neg h];unfold Jq;rw[A0E];rfl
def L8 (ks ms:List Str):List Str:=ms.foldl a34 ks
theorem Qi:∀(ms ks:List Str),Fm (Jq ks) (Jq ms)=Jq (L8 ks ms)
 | [],ks=>rfl
 |m :: ms,ks=>by show Fm (Ea (Jq ks) (Sum.inr m) (.bl true)) (Jq ms)=_;rw[Wj,Qi ms];rfl
theorem mem_addAll:∀ {ms ks:List Str} {z:Str},z∈L8 ks ms↔z∈ks\/z∈ms
 | [],ks,z=>by simp[L8]
 |m :: ms,ks,z=>by show z∈L8 (a34 ks m) ms↔_;rw[mem_addAll,mem_addK,A0B,or_assoc]
theorem K7:∀ {ms ks:List Str},ks.Nodup->(L8 ks ms).Nodup
 | [],ks,h=>h
 |m :: ms,ks,h=>K7 (ms:=ms) (Mo h)
theorem R5 (ks:List Str):(Jq ks).length=ks.length:=by simp[Jq]
theorem Lg:∀(kvs acc:List (Key×V)),(kvs.map (·.1)).Nodup->(∀ k∈kvs,∀ q∈acc,q.1≠k.1)->Fm acc kvs=acc++kvs
 | [],acc,_,_=>by simp[Fm]
 |k :: kvs,acc,hn,hd=>by
   show Fm (Ea acc k.1 k.2) kvs=_
   have e:Ea acc k.1 k.2=acc++[k]:=by
    unfold Ea
    have:¬ (acc.any λkv=>decide (kv.1=k.1))=true:=by rw[A1S];rintro⟨q,hq,e⟩;exact hd k A11 q hq (of_decide_eq_true e)
    rw[A0S this]
   rw[A0G,A0H] at hn;rw[e,Lg kvs (acc++[k]) hn.2 λx hx q hq=>?_,A1Y]
   . rfl
   rcases A0R.mp hq with hq|hq
   . exact hd x (A0D _ hx) q hq
   have:q=k:=by simpa using hq
   subst this;intro e;exact hn.1 (A0N.mpr ⟨x,hx,e.symm⟩)
structure Tab (H:Hp)(r:Addr)(ns:List Str)(as:List Addr)(R:Str->Str->Prop):Prop where
 len:as.length=ns.length
 nd:as.Nodup
 nr:r∉as
 top:H r=some (.dK (Kc ns as))
 row:∀(i:Nat) (z:Str) (a:Addr),ns[i]? = some z->as[i]? = some a->∃ ks:List Str,H a=some (.dK (Jq ks))/\ks.Nodup/\(∀ y∈ks,y∈ns)/\∀ y,y∈ks↔R z y
theorem Tab.same {H H':Hp}{r:Addr}{ns:List Str}{as:List Addr}{R:Str->Str->Prop}(h:Tab H r ns as R)(e:Same H H'):Tab H' r ns as R:=
 ⟨h.len,h.nd,h.nr,e _ _ h.top,λi z a hz ha=>let ⟨ks,h1,h2⟩:=h.row i z a hz ha;⟨ks,e _ _ h1,h2⟩⟩
theorem Tab.congr {H:Hp}{r:Addr}{ns:List Str}{as:List Addr}{R R':Str->Str->Prop}(h:Tab H r ns as R)(e:∀ z∈ns,∀ y,R z y↔R' z y):Tab H r ns as R':=
 ⟨h.len,h.nd,h.nr,h.top,λi z a hz ha=>let ⟨ks,h1,h2,h3,h4⟩:=h.row i z a hz ha;⟨ks,h1,h2,h3,λy=>(h4 y).trans (e z (A05 hz) y)⟩⟩
theorem Tab.put {H H':Hp}{r b:Addr}{ns:List Str}{as:List Addr}{R R':Str->Str->Prop}(h:Tab H r ns as R)(e:ExtBut b H H'){j:Nat}{x:Str}(hn:ns.Nodup)(hj:ns[j]? = some x)(hb:as[j]? = some b){ks:List Str}
  (hk:H' b=some (.dK (Jq ks))) (k1:ks.Nodup) (k2:∀ y∈ks,y∈ns) (k3:∀ y,y∈ks↔R' x y) (k4:∀ z∈ns,z≠x->∀ y,R z y↔R' z y):Tab H' r ns as R':=by
 refine⟨h.len,h.nd,h.nr,e _ _ (λq=>h.nr (q ▸ A05 hb)) h.top,λi z a hz ha=>?_⟩
 by_cases hij:i=j
 . subst hij;rw[hz] at hj
   cases hj;rw[ha] at hb
   cases hb;exact⟨ks,hk,k1,k2,k3⟩
 obtain⟨ms,h1,h2,h3,h4⟩:=h.row i z a hz ha
 have hab:a≠b:=by intro q;subst q;obtain⟨p1,p2⟩:=A02.mp ha;obtain⟨q1,q2⟩:=A02.mp hb;exact hij ((A1P h.nd).mp (p2.trans q2.symm))
 have hzx:z≠x:=by intro q;subst q;obtain⟨p1,p2⟩:=A02.mp hz;obtain⟨q1,q2⟩:=A02.mp hj;exact hij ((A1P hn).mp (p2.trans q2.symm))
 exact⟨ms,e _ _ hab h1,h2,h3,λy=>(h4 y).trans (k4 z (A05 hz) hzx y)⟩
theorem Tab.at {H:Hp}{r:Addr}{ns:List Str}{as:List Addr}{R:Str->Str->Prop}(h:Tab H r ns as R){x:Str}(hx:x∈ns):∃(i:Nat) (a:Addr),ns[i]? = some x/\as[i]? = some a:=by
 obtain⟨i,hi,e⟩:=A50 hx;have hi':i<as.length:=by rw[h.len];exact hi
 exact⟨i,as[i],by rw[A06 hi,e],A06 hi'⟩
section
variable {K:W.Frag}{H:Hp}{Q:VK}{r:Addr}{ns:List Str}{as:List Addr}{R:Str->Str->Prop}
theorem Qx {x:Str}{i:Nat}{a:Addr}(h:Tab H r ns as R)(hn:ns.Nodup)(hx:ns[i]? = some x)(ha:as[i]? = some a)(k:Q (.ref a) H):Th K (.ref r) (.str x) H Q:=i_ixD h.top (Gq hn hx ha) k
theorem Wf {a:Addr}{ks:List Str}{y:Str}(h:H a=some (.dK (Jq ks)))(k:Q (.bl (decide (y∈ks))) H):Wq K false (.str y) (.ref a) H Q:=by
 refine .inr (.inr (.inl ⟨a,Cy (Jq ks) (Sum.inr y:Key),rfl,DGet.k (k:=Sum.inr y) h,?_⟩));rw[Ti]
 by_cases e:y∈ks
 . rw[if_pos e];simpa[e] using k
 rw[if_neg e];simpa[e] using k
theorem af2 {a:Addr}{kvs:List (Key×V)}{B:Prop}(h:H a=some (.dK kvs))(k:B):tyV K "dict" (.ref a) H/\B:=⟨.inr (.inr (.inl ⟨rfl,.inl ⟨kvs,h⟩⟩)),k⟩
theorem au8 {d o:Addr}{ks ms:List Str}(hd:H d=some (.dK (Jq ks)))(ho:H o=some (.dK (Jq ms)))(hne:d≠o)(hz:ks.length+ms.length<=1000000)(k:∀ H',ExtBut d H H'->H' d=some (.dK (Jq (L8 ks ms)))->Q .non H'):Rj (.ref d) [.ref o] H Q:=
 ⟨d,o,_,_,rfl,rfl,hne,hd,ho,by rw[R5,R5];exact hz,k _ ExtBut.upd (by rw[A8,Qi])⟩
end
structure HalfW (ns:List Str)(ps:List (Str×Str)):Prop where
 nd:ns.Nodup
 mem:∀ p∈ps,p.1∈ns/\p.2∈ns
 irr:∀ x,¬ Way ps x x
 few:ns.length<=100
 le:ps.length<=1000
theorem Half.w {ns:List Str}{ps:List (Str×Str)}(h:Half ns ps):HalfW ns ps:=⟨h.names.1,λp hp=>h.mem hp,λ_=>h.irrefl,A0Q h.few nofun,A0Q h.le nofun⟩
structure War (ns:List Str)(ps:List (Str×Str))(ms:List Str)(R:Str->Str->Prop):Prop where
 snd:∀ z y,R z y->Way ps z y
 edge:∀ z y,(z,y)∈ps->R z y
 shut:∀ m∈ms,∀ z y,R z m->R m y->R z y
def a46 (R:Str->Str->Prop)(mid:Str)(ms:List Str)(z y:Str):Prop:=R z y\/(z∈ms/\R z mid/\R mid y)
theorem War.step {ns:List Str}{ps:List (Str×Str)}{ms:List Str}{R:Str->Str->Prop}(h:War ns ps ms R){mid:Str}:War ns ps (ms++[mid]) (λz y=>R z y\/(R z mid/\R mid y)):=by
 refine⟨λz y hz=>?_,λz y hz=>.inl (h.edge z y hz),λm hm z y h1 h2=>?_⟩
 . rcases hz with hz|⟨h1,h2⟩
   . exact h.snd z y hz
   exact(h.snd _ _ h1).trans (h.snd _ _ h2)
 rcases A0R.mp hm with hm|hm
 . rcases h1 with h1|⟨h1,h1'⟩
   . rcases h2 with h2|⟨h2,h2'⟩
     . exact .inl (h.shut m hm z y h1 h2)
     exact .inr ⟨h.shut m hm z mid h1 h2,h2'⟩
   rcases h2 with h2|⟨h2,h2'⟩
   . exact .inr ⟨h1,h.shut m hm mid y h1' h2⟩
   exact .inr ⟨h1,h2'⟩
 have e:m=mid:=by simpa using hm
 subst e;rcases h1 with h1|⟨h1,h1'⟩
 . rcases h2 with h2|⟨h2,h2'⟩
   . exact .inr ⟨h1,h2⟩
   exact .inr ⟨h1,h2'⟩
 rcases h2 with h2|⟨h2,h2'⟩
 . exact .inr ⟨h1,h2⟩
 exact .inr ⟨h1,h2'⟩
theorem War.done {ns:List Str}{ps:List (Str×Str)}{R:Str->Str->Prop}(h:War ns ps ns R)(hm:∀ p∈ps,p.1∈ns/\p.2∈ns)(z y:Str):R z y↔Way ps z y:=by
 refine⟨h.snd z y,λg=>?_⟩
 induction g with
 |one e=>exact h.edge _ _ e
 |cons e _ ih=>exact h.shut _ (hm _ e).2 _ _ (h.edge _ _ e) ih
theorem PrsK.fz {K:W.Frag} {H H':Hp} (e:Fz H H'):∀ {kvs:List (Key×V)} {ys:List V},PrsK K H kvs ys->PrsK K H' kvs ys
 | [],_,h=>h
 |kv :: r,ys,⟨t,ys',h1,h2,h3⟩=>⟨t,ys',h1,e.seq h2,PrsK.fz e h3⟩
theorem PrsK.snoc {K:W.Frag}{H:Hp}{kv:Key×V}{t:Addr}(h:SqT K H t [kV kv.1,kv.2]):∀ {kvs:List (Key×V)} {ys:List V},PrsK K H kvs ys->PrsK K H (kvs++[kv]) (ys++[.ref t])
 | [],ys,g=>by have g':ys=[]:=g;subst g';exact⟨t,[],rfl,h,rfl⟩
 |k :: r,ys,⟨u,ys',h1,h2,h3⟩=>by subst h1;exact⟨u,ys'++[.ref t],rfl,h2,PrsK.snoc h h3⟩
theorem PrsK.length {K:W.Frag}{H:Hp}:∀ {kvs:List (Key×V)} {ys:List V},PrsK K H kvs ys->ys.length=kvs.length
 | [],ys,g=>by have g':ys=[]:=g;subst g';rfl
 |k :: r,ys,⟨u,ys',h1,h2,h3⟩=>by subst h1;simp[PrsK.length h3]
theorem a67 {K:W.Frag}{H:Hp}{Q:VK}{l:Addr}{ys:List V}{kvs:List (Key×V)}(h:H l=some (.lst ys))(g:PrsK K H kvs ys)(hz:kvs.length<=1000000)(k:∀ p H',H p=none->Same H H'->H' p=some (.dK (Fm [] kvs))->Q (.ref p) H'):Vn K [.ref l] H Q:=
 ⟨l, ys,kvs,rfl,h,g,by rw[g.length];exact hz,hz,λp hp=>k p _ hp (Same.upd hp) A8⟩
theorem Km:∀ {ns:List Str} {as:List Addr},ns.Nodup->((Kc ns as).map (·.1)).Nodup
 | [],as,_=>by simp[Kc]
 |n :: ns,[],_=>by simp[Kc]
 |n :: ns,a :: as,h=>by
   rw[A0H] at h;show((Sum.inr n:Key) :: (Kc ns as).map (·.1)).Nodup;rw[A0H];refine⟨λhm=>?_,Km h.2⟩;obtain⟨kv,hkv,e⟩:=A0N.mp hm;obtain⟨p,hp,rfl⟩:=A0N.mp hkv;have e':p.1=n:=by injection e
   exact h.1 (e' ▸ (A4E hp).1)
theorem Sw {ns:List Str}{as:List Addr}{z:Str}{a:Addr}(h:ns.length=as.length):Kc (ns++[z]) (as++[a])=Kc ns as++[(Sum.inr z,V.ref a)]:=by unfold Kc;rw[List.zip_append h,A0E];rfl
end L2
namespace L2
open PySem PySem.Spec PyProof.Rows
open Classical in
def Av (ps:List (Str×Str))(x y:Str):Bool:=decide (Way ps x y)
theorem wayB_iff {ps:List (Str×Str)} {x y:Str}:Av ps x y=true↔Way ps x y:=by unfold Av;simp
theorem ab0 {ps:List (Str×Str)}{x y:Str}{b:Bool}(h:b=true↔Way ps x y):b=Av ps x y:=by
 cases hb:Av ps x y with
 |true=>exact h.mpr (wayB_iff.mp hb)
 |false=>
   cases b with
   |false=>rfl
   |true=>
     have:=wayB_iff.mpr (h.mp rfl);rw[hb] at this
     cases this
theorem T0 {ps:List (Str×Str)}{x y:Str}{p:Prop}[Decidable p](h:p↔Way ps x y):decide p=Av ps x y:=ab0 (by rw[decide_eq_true_iff];exact h)
theorem Ui {ps:List (Str×Str)}{x y:Str}(h:¬ Way ps x y):Av ps x y=false:=by
 cases hb:Av ps x y with
 |false=>rfl
 |true=>exact absurd (wayB_iff.mp hb) h
theorem iteNR {α:Type}{a:α}{A B:Prop}[Decidable (a=a)](h:B):if(!decide (a=a))=true then A else B:=by rw[if_neg (by simp)];exact h
section
variable {K:W.Frag}{H:Hp}{σ:St}{x:V}{Q:VK}
theorem Mv {ns:List Str}{g:TG}{tt:TT}{te:TE}{k:Nat}{js:List Nat}(h:Is K H (nmD ns) x)(t:Str->Bool)(f:Str->PyData)(hf:∀ a,frz (f a)=true)(hz:ns.length<=1000000)
  (hs:∀(i:Nat) a H1 (R:VK) (R':Hp->Prop),ns[i]? = some a->Same H H1->(t a=true->∀ y H2,Same H1 H2->Is K H2 (f a) y->R y H2)->(t a=false->∀ H2,Same H1 H2->R' H2) ->
   g (.str a) (List.replicate k none++Pd σ js) H1 fun σ2 H2=>tt σ2 H2 λb H3=>if b=true then te σ2 H3 R else R' H3)
  (hd:∀ p ys H',H p=none->Same H H'->H' p=some (.lst ys)->IsL K H' ((ns.filter t).map f) ys->Q (.ref p) H'):Jn K x H λJ H1=>Qm k js g tt te σ J H1 Q:=by
 obtain⟨a,rfl,hS⟩:=h.nm;refine Zt hS (T7 (K:=K) (Kk (xs:=ns.map V.str)) ns (by simp) t f hf (by simpa using hz) (λH' e=>e.seqT hS) (λi z v H1 R R' hz hv e hR hR'=>?_) hd);rw[A08,hz] at hv
 cases hv;exact hs i z H1 R R' hz e hR hR'
theorem Oa {ns:List Str}{a:Addr}{g:TG}{tt:TT}{te:TE}{k:Nat}{js:List Nat}(h:SqL K H a (ns.map V.str))(t:Str->Bool)(f:Str->PyData)(hf:∀ a,frz (f a)=true)(hz:ns.length<=1000000)
  (hs:∀(i:Nat) a H1 (R:VK) (R':Hp->Prop),ns[i]? = some a->Same H H1->(t a=true->∀ y H2,Same H1 H2->Is K H2 (f a) y->R y H2)->(t a=false->∀ H2,Same H1 H2->R' H2) ->
   g (.str a) (List.replicate k none++Pd σ js) H1 fun σ2 H2=>tt σ2 H2 λb H3=>if b=true then te σ2 H3 R else R' H3)
  (hd:∀ p ys H',H p=none->Same H H'->H' p=some (.lst ys)->IsL K H' ((ns.filter t).map f) ys->Q (.ref p) H'):Jn K (.ref a) H λJ H1=>Qm k js g tt te σ J H1 Q:=by
 refine Gi h (T7 (K:=K) (Aw (xs:=ns.map V.str)) ns (by simp) t f hf (by simpa using hz) (λH' e=>e.seq h) (λi z v H1 R R' hz hv e hR hR'=>?_) hd);rw[A08,hz] at hv
 cases hv;exact hs i z H1 R R' hz e hR hR'
end
end L2
namespace L2
open PySem PySem.Spec PyProof.Rows
open AutoSeq1 (wpAny_loadPart')
section
variable {prog:Program}{w:World}{A:Around}{E:Value->Shared->Prop}{s:Shared}
end
theorem Inv.turnedL {X:Cx}{pins:List (Addr×Obj)}{σ:St}{H:Hp}{s:Shared}{h':Heap}{t':Nat}{ch:List Addr}(I:Inv X pins σ H s)(k:∀ b o,b∉ch->s.heap.get? b=some o->h'.get? b=some o)(hf:∀ b∈ch,Sk X pins H b):Inv X pins σ H {s with heap:=h',toks:=t'}:=by
 have nit:∀ b u,H b=some u->b∉ch:=λb u e z=>by rw[(hf b z).1] at e;cases e
 refine I.step (g':=s.gens) (d':=s.drawn) (ch:=ch) (λb hb=>?_) (λb o _ _ hc e _=>k b o hc e) (λb o _ _ hc e _=>⟨o.slots,k b o hc e⟩) (λ_ _ _ _ n=>n)
  (λb o hc e=>⟨o,k b o hc e⟩) (λ_ _ e=>e) (λ_ _ _ e=>e) (λb ps e=>⟨#[],by rw[e];simp⟩) (λm hm=>?_) (λb u e=>?_) I.bare
 . obtain⟨_,h2,_,h4,h5,h6⟩:=hf b hb;exact⟨h4,h2,h5,h6⟩
 . obtain⟨o,es,ep,ho,r⟩:=hm;exact⟨o,es,ep,k _ o (λz=>(hf _ z).2.1 rfl) ho,r⟩
 refine(I.hok b u e).stay (λc v hc q=>k c v ?_ q) (λ_ q=>q) λ_ _ q=>q;rcases hc with z|z
 . rw[z];exact nit b u e
 exact nit c _ z
section
variable {X:Cx}{K:W.Frag}
theorem Lv:bootBuiltins "enumerate" = some (.type "enumerate"):=PyProof.Rows.Boot.«enumerate»
end
section
variable {K:W.Frag}{σ:St}{H:Hp}
end
end L2
namespace L2
open PySem PySem.Spec PyProof.Rows
section
variable {X:Cx}{K:W.Frag}
section
variable {H:Hp}{Q:VK}{lo hi:Option Int}
theorem Me {a b:Addr}{xs ys:List V}(h1:SqT K H a xs)(h2:SqT K H b ys)(h:xs.length+ys.length<=sizeLine)(k:∀ p H',Same H H'->SqT K H' p (xs++ys)->Q (.ref p) H'):Qn K (.ref a) (.ref b) H Q:=by
 by_cases hx:xs=[]
 . subst hx;exact .inr (.inr (.inr (.inr ⟨a,b,ys,rfl,rfl,h1,h2,k b H (Same.refl _) h2⟩)))
 refine .inr (.inr (.inr (.inl ⟨a,b,xs,ys,rfl,rfl,h1,h2,hx,h,λe=>?_,λ_ p hp=>k p _ (Same.upd hp) (SqT.of A8)⟩)));subst e;exact k a H (Same.refl _) (by rw[A1N];exact h1)
theorem R9 {a:Addr}{xs:List V}(h:SqT K H a xs)(k:∀ p H',Same H H'->SqT K H' p (Kl xs lo hi)->Q (.ref p) H'):as7 K (.ref a) lo hi H Q:=by
 by_cases hw:HT.sIx xs.length 0 lo=0/\HT.sIx xs.length xs.length hi=xs.length
 . refine .inr (.inr (.inr ⟨a,xs,rfl,h,hw,k a H (Same.refl _) ?_⟩))
   have e:Kl xs lo hi=xs:=by unfold Kl;rw[hw.1,hw.2,List.drop_zero,Nat.sub_zero,A0M]
   rw[e];exact h
 exact .inr (.inl ⟨a,xs,rfl,h,hw,λp hp=>k p _ (Same.upd hp) (SqT.of A8)⟩)
theorem av8 {x y:V}{d:PyData}{ds:List PyData}(hx:Is K H d x)(hy:Is K H (.list ds) y\/Is K H (.tuple ds) y)(h1:PyData.canLayAll0 ds=true)(h2:d.canLay0=true)(h3:d.depth<=100)(k:Q (.bl (ds.any λe=>PyData.eqv e d)) H):Wq K false x y H Q:=.inr (.inr (.inr ⟨d,ds,hx,hy,h1,h2,h3,k⟩))
theorem an5 {x y:V}{d:PyData}{ds:List PyData}(hx:Is K H d x)(hy:Is K H (.list ds) y\/Is K H (.tuple ds) y)(h1:PyData.canLayAll0 ds=true)(h2:d.canLay0=true)(h3:d.depth<=100)(k:Q (.bl (!(ds.any λe=>PyData.eqv e d))) H):Wq K true x y H Q:=.inr (.inr (.inr ⟨d,ds,hx,hy,h1,h2,h3,k⟩))
end
end
section
variable {K:W.Frag}{σ:St}{H:Hp}{Q:VK}{td ty:TE}
theorem i_chain {r r':R2}{ta tb tc:TE}(k:ta σ H λx H1=>tb σ H1 λy H2=>r x y H2 λz H3=>∃ k,z = .bl k/\(if k=true then tc σ H3 λw' H4=>r' y w' H4 Q else Q (.bl false) H3)):a61 r r' ta tb tc σ H Q:=k
theorem i_andV {ta tb:TE}(k:ta σ H λx H1=>∃ c,x = .bl c/\if c=true then tb σ H1 Q else Q (.bl false) H1):am0 ta tb σ H Q:=k
theorem i_orV {ta tb:TE}(k:ta σ H λx H1=>∃ c,x = .bl c/\if c=true then Q (.bl true) H1 else tb σ H1 Q):ay8 ta tb σ H Q:=k
theorem i_notV {ta:TE}(k:ta σ H λx H1=>∃ c,x = .bl c/\Q (.bl (!c)) H1):aj5 ta σ H Q:=k
end
structure TabL (K:W.Frag)(H:Hp)(r:Addr)(ns:List Str)(as:List Addr)(R:Str->Str->Prop):Prop where
 len:as.length=ns.length
 top:H r=some (.dK (Kc ns as))
 row:∀(i:Nat) (z:Str) (a:Addr),ns[i]? = some z->as[i]? = some a->∃ ks:List Str,H a=some (.lst (ks.map V.str))/\ks.Nodup/\∀ y,y∈ks↔R z y
theorem TabL.same {K:W.Frag}{H H':Hp}{r:Addr}{ns:List Str}{as:List Addr}{R:Str->Str->Prop}(h:TabL K H r ns as R)(e:Same H H'):TabL K H' r ns as R:=
 ⟨h.len,e _ _ h.top,λi z a hz ha=>let ⟨ks,h1,h2⟩:=h.row i z a hz ha;⟨ks,e _ _ h1,h2⟩⟩
theorem TabL.at {K:W.Frag}{H:Hp}{r:Addr}{ns:List Str}{as:List Addr}{R:Str->Str->Prop}(h:TabL K H r ns as R){x:Str}(hx:x∈ns):∃(i:Nat) (a:Addr),ns[i]? = some x/\as[i]? = some a:=by
 obtain⟨i,hi,e⟩:=A50 hx;have hi':i<as.length:=by rw[h.len];exact hi
 exact⟨i,as[i],by rw[A06 hi,e],A06 hi'⟩
section
variable {K:W.Frag}{σ:St}{H:Hp}{Q:VK}{r:Addr}{ns:List Str}{as:List Addr}{R:Str->Str->Prop}
theorem ar4 {x:Str}{i:Nat}{a:Addr}(h:TabL K H r ns as R)(hn:ns.Nodup)(hx:ns[i]? = some x)(ha:as[i]? = some a)(k:Q (.ref a) H):Th K (.ref r) (.str x) H Q:=i_ixD h.top (Gq hn hx ha) k
end
section
variable {K:W.Frag}{H:Hp}{σ:St}
end
section
variable {prog:Program}{w:World}{A:Around}{E:Value->Shared->Prop}{s:Shared}
end
section
variable {X:Cx}{K:W.Frag}
end
section
variable {K:W.Frag}{σ:St}{H:Hp}
end
section
variable {K:W.Frag}{H:Hp}{Q:VK}
end
section
variable {P:Program}{w:World}{κ:Type}[DecidableEq κ]{knd:KeyKind P w κ}{A:Around}{E:Value->Shared->Prop}{s:Shared}
end
section
variable {X:Cx}{pins:List (Addr×Obj)}{σ:St}{H:Hp}{s:Shared}{A:Around}
end
section
variable {prog:Program}{w:World}{A:Around}{E:Value->Shared->Prop}{s:Shared}
end
section
variable {X:Cx}{K:W.Frag}
end
section
variable {P:Program}{w:World}{A:Around}{R:Result->Shared->Prop}{it:Addr}{fp wr:List Addr}{G:Array GenState->Array GenState->Prop}{n:Nat}{PV:Nat->Value->Prop}{St:Nat->Shared->Prop}
end
section
variable {prog:Program}{w:World}{A:Around}{E:Value->Shared->Prop}{s:Shared}
set_option maxHeartbeats 3200000 in
end
section
variable {X:Cx}{K:W.Frag}
end
section
variable {K:W.Frag} {H:Hp} {Q:VK}
end
theorem Fo (ns:List Int):∀ j ≤ ns.length,preSum (λi=>ns.getD i 0) j=(ns.take j).sum
 |0,_=>by simp[preSum]
 |j+1,h=>by rw[preSum,Fo ns j ∅,A0J,Jk (y:=0) (by omega:j<ns.length)];simp
theorem Kz:∀ {ns:List Int},(∀ n∈ns,0<=n/\n<=1000000000000)->0<=ns.sum/\ns.sum<=1000000000000*(ns.length:Int)
 | [],_=>by simp
 |n :: ns,h=>by have h1:=h n (by simp);have h2:=Kz λm hm=>h m (A0D _ hm);rw[A1M,A0L];omega
section
variable {X:Cx}{K:W.Frag}
def aw2 (K:W.Frag):List V->Hp->VK->Prop:=λxs H Q=>∃(a:Addr) (ns:List Int),xs=[.ref a]/\(SqL K H a (ns.map V.int)\/SqT K H a (ns.map V.int))/\(∀ n∈ns,0<=n/\n<=1000000000000)/\ns.length<=1000000/\Q (.int ns.sum) H
theorem a01 {ns:List Int}{its:List Value}(r:Vals (ns.map V.int) its){i:Nat}{v:Value}(h:its.toArray[i]? = some v):∃ t,v = .int (ns.getD i 0) t:=by
 rw[List.getElem?_toArray] at h;have hl:=r.length;rw[A01] at hl
 have hi:i<ns.length:=by have:=(A02.mp h).1;omega
 obtain⟨u,hu,ru⟩:=r.get (i:=i) (x:=.int (ns.getD i 0)) (by rw[A08,Jk (y:=0) hi];rfl);rw[h] at hu
 cases hu;exact ru
theorem Xp (hc:X.calm=true):CallR X (.builtin "sum") (aw2 X.K):=by
 intro pins s σ H xs us Q I r h;obtain⟨a,ns,rfl,hl,hb,hz,q⟩:=h;obtain⟨u,rfl,ru⟩:=J7 r
 cases ru
 have fits:∀ j,j<ns.length->InLong (ns.getD j 0)/\InLong (preSum (λi=>ns.getD i 0) (j+1)):=λj hj=>by have h1:=hb _ (A05 (Jk (y:=0) hj));have h2:=Kz (ns:=ns.take (j+1)) λn hn=>hb n (A1U hn);rw[Fo ns (j+1) hj];rw[A0O] at h2;unfold InLong;omega
 have last:preSum (λi=>ns.getD i 0) ns.length=ns.sum:=by rw[Fo ns _ (A07 _),A0M]
 refine call_sum_walk ?_;rcases hl with hl|hl
 . obtain⟨its,rv,pl,_⟩:=I.list hl;have hlen:its.toArray.size=ns.length:=by rw[A0T,<- rv.length,A01]
   have hlt:a<s.heap.objs.size:=let ⟨_,e,_⟩:=pl.isList;A0A e;refine A3Z pl.isList ?_;refine⟨_,_,_,_,_,_,λi=>ns.getD i 0,rfl,Walks.list (by simpa using I.ok.hd hc) _ a (Nat.ne_of_lt hlt) its.toArray,⟨⟨_,Heap.get?_push_size _ rfl,rfl,rfl⟩,pl.isList.push _⟩,λb hb'=>?_,λi v hv=>a01 rv hv,by rw[hlen];exact fits,λh' tk t' hk=>?_⟩
   . rw[A2J];simp only[List.mem_cons,List.not_mem_nil,or_false] at hb';rcases hb' with rfl|rfl
     . exact A2Z _
     exact A3D hlt
   refine⟨.int ns.sum,H,I.kept (t':=tk) λb o e=>hk b o (λz=>?_) (A03 _ e),⟨t',by rw[hlen,last]⟩,q⟩;have:b=s.heap.objs.size:=by simpa using z
   subst this;exact absurd (A0A e) (A2F _)
 obtain⟨its,rv,pl,_⟩:=I.tuple hl;have hlen:its.toArray.size=ns.length:=by rw[A0T,<- rv.length,A01]
 have hlt:a<s.heap.objs.size:=let ⟨_,e,_⟩:=pl;A0A e;refine wpAny_pyIter_tuple pl ?_;refine⟨_,_,_,_,_,_,λi=>ns.getD i 0,rfl,Walks.tuple (by simpa using I.ok.hd hc) _ a (Nat.ne_of_lt hlt) its.toArray,⟨⟨_,Heap.get?_push_size _ rfl,rfl,rfl⟩,Heap.IsTuple.push pl _⟩,λb hb'=>?_,λi v hv=>a01 rv hv,by rw[hlen];exact fits,λh' tk t' hk=>?_⟩
 . rw[A2J];simp only[List.mem_cons,List.not_mem_nil,or_false] at hb';rcases hb' with rfl|rfl
   . exact A2Z _
   exact A3D hlt
 refine⟨.int ns.sum,H,I.kept (t':=tk) λb o e=>hk b o (λz=>?_) (A03 _ e),⟨t',by rw[hlen,last]⟩,q⟩;have:b=s.heap.objs.size:=by simpa using z
 subst this;exact absurd (A0A e) (A2F _)
theorem Gc (hc:X.calm=true)(hK:X.K=K:=by ac_nf):CallR X (.builtin "sum") (aw2 K):=hK ▸ Xp hc
theorem Uc {a:Addr}{ns:List Int}{H:Hp}{Q:VK}(h:SqL K H a (ns.map V.int)\/SqT K H a (ns.map V.int))(hb:∀ n∈ns,0<=n/\n<=1000000000000)(hz:ns.length<=1000000)(k:Q (.int ns.sum) H):aw2 K [.ref a] H Q:=⟨a,ns,rfl,h,hb,hz,k⟩
end
section
variable {prog:Program}{w:World}{A:Around}{E:Value->Shared->Prop}{s:Shared}
theorem Ws {t:Addr}{items:Array Value}{x:Value}{e:Value->Bool}{j:Nat}{Q:Value->Shared->Prop}(ht:IsTup s.heap t items)(hj:j<items.size)(he:∀ y,y∈items->SeqAt.EqAt A.in1 s y x (e y))(hit:e items[j]=true)
  (hno:∀ m (hm:m<items.size),m<j->e items[m]=false) (h:Q (.int j s.toks) {s with toks:=s.toks+1}):wpAny (model prog w) A (call (.builtin "tuple.index") [.ref t,x]) Q E s:=by
 refine A24 A31 ht.typeIs PySem.F.entry_tuple_index ?_ (PySem.F.args_tuple_index_2 _ _);unfold Builtin.«tuple.index»;refine A00 (wpAny_of_eq (a:=(Value.ref t,[x])) (by first | rfl | kernel_rfl) ?_)
 refine A00 (m:=Builtin.Tuple.tupleItemsOf _) (tupleItemsOf_ ht ?_);refine A00 (m:=pure 0) (A04 ?_);refine A00 (m:=pure items.size) (A04 ?_);dsimp only;rw[Nat.min_self];refine A00 ?_;rw[Std.Legacy.Range.forIn_eq_forIn_range',show Std.Legacy.Range.size [:items.size]=items.size by simp[Std.Legacy.Range.size]];refine wpAny_forIn_list _ (λl q s'=>s'=s/\q=(none,())/\∃ i,i<=j/\l=List.range' i (items.size-i)) _ ?_ ?_ _ _ ⟨rfl,rfl,0,A2Q _,rfl⟩
 . rintro m l q s' ⟨rfl,rfl,i,hi,el⟩;rw[show items.size-i=items.size-(i+1)+1 by omega,List.range'_succ] at el;injection el with e1 e2;subst e1;have hm:m<items.size:=by omega
   rw[Array.getElem?_eq_getElem hm];refine A00 (he _ (Array.getElem_mem hm) prog w _ _ ?_)
   by_cases hmj:m=j
   . subst hmj;rw[hit,A0W rfl];refine A00 (m:=retInt _) ?_;refine A00 (wpAny_mkInt ?_);exact A04 (A04 (A04 ⟨_,rfl,h⟩))
   rw[hno m hm ∅,A0S nofun];exact A04 ⟨rfl,rfl,m+1,by omega,e2⟩
 rintro q s' ⟨rfl,rfl,i,hi,el⟩;exfalso;rw[show items.size-i=items.size-(i+1)+1 by omega,List.range'_succ] at el
 cases el
end
section
variable {X:Cx}{K:W.Frag}
def Rp (K:W.Frag):V->List V->Hp->VK->Prop:=λx vs H Q=>∃(a:Addr) (ns:List Str) (z:Str) (j:Nat),x = .ref a/\vs=[.str z]/\SqT K H a (ns.map V.str)/\ns[j]? = some z/\(∀ m<j,ns[m]? ≠ some z)/\Q (.int (j:Nat)) H
theorem Wc:MtR X "tuple.index" (Rp X.K):=by
 intro pins s σ H x vs v us Q I rx rv h;obtain⟨a,ns,z,j,rfl,rfl,hS,hj,hno,q⟩:=h
 cases rx;obtain⟨u,rfl,ru⟩:=rv.one;obtain⟨its,r,p,hz⟩:=I.tuple hS;have hlen:=r.length;rw[A01] at hlen;have hjn:=(A02.mp hj).1
 have at':∀ m (hm:m<its.toArray.size),∃ y t,ns[m]? = some y/\its.toArray[m] = .str y t:=λm hm=>by
  have hm':m<ns.length:=by rw[A0T] at hm;omega
  obtain⟨w,hw,rw'⟩:=r.get (i:=m) (x:=.str ns[m]) (by rw[A08,A06 hm'];rfl);obtain⟨t,rfl⟩:=rw';refine⟨ns[m],t,A06 hm',?_⟩;have h2:=(A02.mp hw).2;simpa using h2
 have tell:∀ y t,eqU (.str z) (.str y t)=decide (y=z):=λy t=>by
  show(y==z)=_
  by_cases h:y=z<;>simp[h]
 refine Ws (j:=j) (e:=eqU (.str z)) p (by rw[List.size_toArray];omega) (λw hw=>Hy ru rfl r (Jb ns) w (by simpa using hw)) ?_ (λm hm hmj=>?_) ⟨.int _,H,I.tok _,⟨_,rfl⟩,q⟩
 . obtain⟨y,t,h1,h2⟩:=at' j (by rw[A0T];omega);rw[h2,tell];rw[hj] at h1;exact A19 (A10 h1).symm
 obtain⟨y,t,h1,h2⟩:=at' m hm;rw[h2,tell];refine A0X λe=>hno m hmj ?_;rw[h1,e]
theorem Jv (hK:X.K=K:=by ac_nf):MtR X "tuple.index" (Rp K):=hK ▸ Wc
theorem Mu {a:Addr}{ns:List Str}{z:Str}{j:Nat}{H:Hp}{Q:VK}(h:SqT K H a (ns.map V.str))(hj:ns[j]? = some z)(hno:∀ m<j,ns[m]? ≠ some z)(k:Q (.int (j:Nat)) H):Rp K (.ref a) [.str z] H Q:=⟨a,ns,z,j,rfl,rfl,h,hj,hno,k⟩
def az2 (K:W.Frag)(r:V->List V->Hp->VK->Prop)(to:TE)(t:TA):TE:=fun σ H Q=>to σ H λx H1=>(∃ a xs,x = .ref a/\SqT K H1 a xs)/\t σ H1 λvs H2=>r x vs H2 Q
theorem Vk {o e:Expr}{es:List Expr}{to:TE}{t:TA}{name:Str}{apos cpos:Pos}{id:String}{r:V->List V->Hp->VK->Prop}(slot:Slot "tuple" name id)(hty:typeOf (.builtin id)=pure (.type "method_descriptor"))(hm:MtR X id r)(ho:PE X o to)(ha:PA X (e :: es) t)(hK:X.K=K:=by ac_nf)
  (hbase:attributeBase o name X.env (eval o X.env)=eval o X.env:=by ac_nf)
  (hfew:((backTo cpos (starEach (e :: es) X.env)).all (λx=>!x.1)&&(backToKw cpos (keywordEach [] X.env)).all (λx=>x.1.isSome)&&decide ((e :: es).length+([]:List Keyword).length+(if([]:List Keyword).isEmpty then 0 else 1)<30))=true:=by ac_nf)
  (hline:(apos.endLine==cpos.line)=true:=by ac_nf) (hs:starEach (e :: es) X.env=(false,eval e X.env) :: starEach es X.env:=by ac_nf) (hplain:(backTo cpos (starEach es X.env)).any (·.1)=false:=by ac_nf) :
  PE X (.Call (.Attribute o name apos) (e :: es) [] cpos) (az2 K r to t):=by
 subst hK;intro pins s σ H Q I h;refine wpAny_Call_method_late hbase hfew hline rfl (thn (ho pins s σ H _ I h) λv s1 ⟨x,H1,I1,r1,ty,q1⟩=>?_);obtain⟨a,xs,rfl,hS⟩:=ty
 cases r1;obtain⟨its,_,p,_⟩:=I1.tuple hS;refine⟨"tuple",id,PySem.F.plainAttrs_tuple,slot,hty,p.typeIs,(λb e=>by cases e;exact I1.tupleN hS),?_⟩;have hA:=ha cpos pins s1 σ H1 _ I1 q1;rw[hs] at hA ⊢;refine A3C (by show(false||(backTo cpos (starEach es X.env)).any (·.1))=false;rw[hplain];rfl) (A4S ?_)
 exact thn hA λus s2 ⟨vs,H2,I2,r2,q2⟩=>hm pins s2 σ H2 (.ref a) vs _ us Q I2 rfl r2 q2
theorem i_bmT {r:V->List V->Hp->VK->Prop}{te:TE}{ts:TA}{σ:St}{H:Hp}{Q:VK}(k:te σ H λx H1=>(∃ a xs,x = .ref a/\SqT K H1 a xs)/\ts σ H1 λxs H2=>r x xs H2 Q):az2 K r te ts σ H Q:=k
theorem a90 {a:Addr}{xs:List V}{H:Hp}{B:Prop}(h:SqT K H a xs)(k:B):(∃ a' xs',V.ref a = .ref a'/\SqT K H a' xs')/\B:=⟨⟨a,xs,rfl,h⟩,k⟩
end
section
variable {prog:Program}{w:World}{A:Around}{E:Value->Shared->Prop}{s:Shared}
theorem On {t:Addr}{vs:List Value}{ss:List Str}{T:String}{n:Nat}{o:Obj}{Q:Value->Shared->Prop}(hT:T = "list" \/ T = "tuple")(ho:s.heap.get? t=some o)(hc:o.cls = .type T)(hd:o.data = .seq vs.toArray n)(hS:StrsAre vs ss)(h64:vs.length<64)
  (h:∀(h1 h':Heap) (out:List Value) (e:Nat) (ss':List Str),(∀ b ob,s.heap.get? b=some ob->h1.get? b=some ob)->(∀ b ob,h1.get? b=some ob->h'.get? b=some ob)->h'.get? h1.objs.size=some (seqObj "list" out.toArray e)->StrsAre out ss'->ss'.Perm ss->sortedS ss'=true->Q (.ref h1.objs.size) {s with heap:=h'}) :
  wpAny (model prog w) A (call (.builtin "sorted") [.ref t]) Q E s:=by
 refine Calls.call_function_entry kind_sorted plain_sorted entry_sorted (args_sorted1 _) ?_;unfold Builtin.«sorted»;refine A00 (m:=checkCount "sorted" 1 1 _) (A04 ?_);refine A00 (wpAny_collect_seq t hT ho hc hd (λh1 k1=>?_) (by rw[A0T,A14];omega));refine wpAny_bind (wpAny_newList ?_ (by simp only[List.size_toArray];rw[sizeLine_eq];omega));have hnew:(h1.push (seqObj "list" vs.toArray 0)).get? h1.objs.size=some (seqObj "list" vs.toArray 0):=A0K _ rfl;show wpAny _ _ _ _ _ {s with heap:=h1.push (seqObj "list" vs.toArray 0)}
 refine A00 (A1H (A24 slot_list_sort ⟨_,hnew,rfl⟩ entry_list_sort (list_sort_treeK strKind_oneLt hnew hS.keysOf (λv₁ v₂ r e=>keyKind_strs (by rw[<- e];exact hS)) h64 λst' hp hs=>⟨_,rfl,?_⟩) (args_list_sort _)));obtain⟨ss',q1,q2,q3⟩:=sorted_out_str hS hp hs;obtain⟨e,he⟩:=sortedHeap_at (out:=(arrOf st').map (·.2)) hnew;refine A04 ⟨_,rfl,h h1 _ ((arrOf st').map (·.2)).toList e ss' k1 (λb ob hb=>?_) (by rw[Array.toArray_toList];exact he) q1 q2 q3⟩;have hlt:=A0A hb;rw[sortedHeap_old (A0P hlt) (by rw[size_push'];exact A3D hlt)];exact A03 _ hb
end
theorem Px:∀ {us:List Value} {ys:List Str},StrsAre us ys->Vals (ys.map V.str) us
 |_,_,.nil=>.nil
 |_,_,.cons y t h=>.cons ⟨t,rfl⟩ (Px h)
section
variable {X:Cx}{K:W.Frag}
def Qo (K:W.Frag):List V->Hp->VK->Prop:=λxs H Q=>∃(a:Addr) (ns:List Str),xs=[.ref a]/\(SqL K H a (ns.map V.str)\/SqT K H a (ns.map V.str))/\ns.length<64/\∀ p (ms:List Str),H p=none->ms.Perm ns->sortedS ms=true->Q (.ref p) (upd H p (.lst (ms.map V.str)))
theorem Og:CallR X (.builtin "sorted") (Qo X.K):=by
 intro pins s σ H xs us Q I r h;obtain⟨a,ns,rfl,hl,hz,q⟩:=h;obtain⟨u,rfl,ru⟩:=J7 r
 cases ru
 have fin:∀(vs:List Value),Vals (ns.map V.str) vs->∀(h1 h':Heap) (out:List Value) (e:Nat) (ss':List Str),(∀ b ob,s.heap.get? b=some ob->h1.get? b=some ob)->(∀ b ob,h1.get? b=some ob->h'.get? b=some ob)->h'.get? h1.objs.size=some (seqObj "list" out.toArray e)->StrsAre out ss'->ss'.Perm ns->sortedS ss'=true->EP X pins σ Q (.ref h1.objs.size) {s with heap:=h'}:=λvs rv h1 h' out e ss' k1 k2 he q1 q2 q3=>by
  have I1:Inv X pins σ H {s with heap:=h1}:=I.kept (t':=s.toks) k1
  exact⟨.ref _,_,I1.laid (t':=s.toks) (o:=.lst (ss'.map V.str)) k2 (A07 _) ⟨by rw[A01,q2.length_eq,A14];omega,out,e,Px q1,he⟩,rfl,q _ ss' (I1.hok.fresh (A07 _)) q2 q3⟩
 rcases hl with hl|hl
 . obtain⟨its,rv,⟨o,n,h1,h2,_,h3⟩,_⟩:=I.list hl;have hlen:=rv.length;rw[A01] at hlen;exact On (.inl rfl) h1 h2 h3 (Ra rv) ∅ (fin its rv)
 obtain⟨its,rv,⟨o,h1,h2,n,h3⟩,_⟩:=I.tuple hl;have hlen:=rv.length;rw[A01] at hlen;exact On (.inr rfl) h1 h2 h3 (Ra rv) ∅ (fin its rv)
theorem Pb (hK:X.K=K:=by ac_nf):CallR X (.builtin "sorted") (Qo K):=hK ▸ Og
theorem Zi {a:Addr}{ns:List Str}{H:Hp}{Q:VK}(h:SqL K H a (ns.map V.str)\/SqT K H a (ns.map V.str))(hz:ns.length<64)(k:∀ p (ms:List Str) H',H p=none->Same H H'->H' p=some (.lst (ms.map V.str))->ms.Perm ns->sortedS ms=true->Q (.ref p) H'):Qo K [.ref a] H Q:=
 ⟨a, ns,rfl,h,hz,λp ms hp h1 h2=>k p ms _ hp (Same.upd hp) A8 h1 h2⟩
end
theorem Jl:∀(p:Str) (l:List Str),risingS p l=true->∀ y∈l,¬ y.cps.toList<p.cps.toList
 |p,[],_,y,h=>nomatch h
 |p,x :: r,h,y,hy=>by
   have h':(!ltCps x.cps.toList p.cps.toList&&risingS x r)=true:=h;rw[A1A,Bool.not_eq_true',ltCps_eq,decide_eq_false_iff_not] at h';rcases A0B.mp hy with rfl|hy
   . exact h'.1
   have ih:=Jl x r h'.2 y hy;exact A2S.mpr (List.le_trans (A2S.mp h'.1) (A2S.mp ih))
theorem Iv {x:Str}{r:List Str}(h:sortedS (x :: r)=true):sortedS r=true:=by
 cases r with
 |nil=>rfl
 |cons y r=>have h':(!ltCps y.cps.toList x.cps.toList&&risingS y r)=true:=h;rw[A1A] at h';exact h'.2
theorem Mf:∀ {a b:List Str},a.Perm b->sortedS a=true->sortedS b=true->a=b
 | [],b,p,_,_=>(List.nil_perm.mp p).symm
 |x :: a,[],p,_,_=>absurd p.length_eq (by simp)
 |x :: a,y :: b,p,ha,hb=>by
   have hxy:x=y:=by
    have h1:x=y\/x∈b:=by simpa using p.mem_iff.mp List.mem_cons_self
    have h2:y=x\/y∈a:=by simpa using p.symm.mem_iff.mp List.mem_cons_self
    rcases h1 with e|h1
    . exact e
    rcases h2 with e|h2
    . exact e.symm
    have q1:=Jl x a ha y h2;have q2:=Jl y b hb x h1;exact Str.ext' (Array.toList_inj.mp (List.le_antisymm (A2S.mp q1) (A2S.mp q2)))
   subst hxy;rw[Mf (List.Perm.cons_inv p) (Iv ha) (Iv hb)]
section
variable {α:Type}[DecidableEq α]
def Dr:List α->(α->Bool)->Nat
 | [],_=>0
 |x :: xs,p=>(p x).toNat+2*Dr xs p
def Et:List α->α->Nat
 | [],_=>0
 |y :: ys,x=>if x=y then 1 else 2*Et ys x
theorem Md {p q:α->Bool}:∀ {ns:List α},(∀ x∈ns,p x=q x)->Dr ns p=Dr ns q
 | [],_=>rfl
 |x :: xs,h=>by unfold Dr;rw[h x (by simp),Md (ns:=xs) λy hy=>h y (by simp[hy])]
theorem Za {a b:Bool} {m n:Nat} (h:a.toNat+2*m=b.toNat+2*n):a=b/\m=n:=by cases a<;>cases b<;>simp[Bool.toNat] at h ⊢ <;> omega
theorem Ki {p q:α->Bool}:∀ {ns:List α},Dr ns p=Dr ns q->∀ x∈ns,p x=q x
 | [],_,x,hx=>by cases hx
 |y :: ys,h,x,hx=>by
   unfold Dr at h;obtain⟨h1,h2⟩:=Za h;rcases A0B.mp hx with rfl|hx
   . exact h1
   exact Ki h2 x hx
theorem Zc (a b:Bool)(m n:Nat):(a.toNat+2*m) &&& (b.toNat+2*n)=(a&&b).toNat+2*(m &&& n):=by
 apply Nat.eq_of_testBit_eq;intro i;rw [Nat.testBit_and]
 cases i with
 |zero=>cases a<;>cases b<;>simp[Nat.testBit_zero,Bool.toNat]<;>omega
 |succ i=>
   rw[Nat.testBit_succ,Nat.testBit_succ,Nat.testBit_succ];have e:∀(c:Bool) (k:Nat),(c.toNat+2*k) / 2=k:=λc k=>by cases c<;>simp[Bool.toNat]<;>omega
   rw[e,e,e,Nat.testBit_and]
theorem Sq (p q:α->Bool):∀ ns:List α,Dr ns p &&& Dr ns q=Dr ns (λx=>p x&&q x)
 | []=>by simp[Dr]
 |x :: xs=>by unfold Dr;rw[Zc,Sq p q xs]
theorem binM_zero {p:α->Bool}:∀ {ns:List α},Dr ns p=0↔∀ x∈ns,p x=false
 | []=>by simp[Dr]
 |x :: xs=>by
   unfold Dr;have:=binM_zero (p:=p) (ns:=xs);constructor
   . intro h y hy;have h1:(p x).toNat=0:=by omega
     have h2:Dr xs p=0:=by omega
     rcases A0B.mp hy with rfl|hy
     . cases e:p y with
       |false=>rfl
       |true=>rw[e] at h1;cases h1
     exact this.mp h2 y hy
   intro h;rw[h x (by simp),this.mpr λy hy=>h y (by simp[hy])];rfl
theorem Rc (p:α->Bool):∀ ns:List α,Dr ns p<2 ^ ns.length
 | []=>by simp[Dr]
 |x :: xs=>by
   have:=Rc p xs;unfold Dr;rw[A0L,A4M];have:(p x).toNat<=1:=by cases p x<;>simp[Bool.toNat]
   omega
theorem Y9:∀ {ns:List α},ns.Nodup->∀ {x:α},x∈ns->Et ns x=Dr ns (λy=>decide (y=x))
 | [],_,x,h=>by cases h
 |y :: ys,hn,x,h=>by
   obtain⟨h1,h2⟩:=A0H.mp hn;unfold Et Dr
   by_cases e:x=y
   . subst e;rw[A0W rfl,(binM_zero (p:=λy=>decide (y=x)) (ns:=ys)).mpr λz hz=>A0X λq=>h1 (by rw[<- q];exact hz)];simp[Bool.toNat]
   rw[A0S e,Y9 h2 ((A0B.mp h).resolve_left e)];have:decide (y=x)=false:=A0X λq=>e q.symm;show _=(decide (y=x)).toNat+_;rw[this];simp[Bool.toNat]
theorem Nl (f:α->Nat):∀ l:List α,(l.map λx=>2*f x).sum=2*(l.map f).sum
 | []=>rfl
 |x :: xs=>by simp[Nl f xs,Nat.mul_add]
theorem Kp (p:α->Bool):∀ {ns:List α},ns.Nodup->((ns.filter p).map (Et ns)).sum=Dr ns p
 | [],_=>rfl
 |y :: ys,hn=>by
   obtain⟨h1,h2⟩:=A0H.mp hn
   have e:(ys.filter p).map (Et (y :: ys))=(ys.filter p).map λx=>2*Et ys x:=by
    apply A0Y;intro x hx;have:x≠y:=λq=>h1 (q ▸ (A0U.mp hx).1);show(if x=y then 1 else 2*Et ys x)=_
    rw [A0S this]
   unfold Dr;rw[A1T]
   cases hp:p y with
   |true=>
     rw[A0W rfl,A0G,A1M,e,Nl,Kp p h2];show(if y=y then 1 else _)+_=_
     rw[A0W rfl];rfl
   |false=>rw[A0S nofun,e,Nl,Kp p h2];simp[Bool.toNat]
theorem Rk {p:α->Bool}:∀ {ns:List α},ns.Nodup->∀ {x:α},x∈ns->p x=true->Dr ns p=Dr ns (λy=>p y && !decide (y=x))+Et ns x
 | [],_,x,h,_=>by cases h
 |y :: ys,hn,x,h,hp=>by
   obtain⟨h1,h2⟩:=A0H.mp hn;unfold Et Dr
   by_cases e:x=y
   . subst e;rw[A0W rfl,hp,Md (ns:=ys) (p:=λy=>p y && !decide (y=x)) (q:=p) λz hz=>?_]
     . simp[Bool.toNat];omega
     have:decide (z=x)=false:=A0X λq=>h1 (q ▸ hz);simp[this]
   rw[A0S e,Rk h2 ((A0B.mp h).resolve_left e) hp];have:decide (y=x)=false:=A0X λq=>e q.symm;show _=((p y && !decide (y=x)).toNat+_)+_;rw[this];simp;omega
def frF (b:α->α->Bool)(L:List α):List α:=L.filter λx=>!(L.any λy=>b y x)
def Bg (L:List α)(x:α):List α:=L.filter λy=>!decide (y=x)
def ext (b:α->α->Bool):Nat->List α->List (List α)
 |0,_=>[[]]
 |n+1,L=>(frF b L).flatMap λx=>(ext b n (Bg L x)).map (x :: ·)
def cnt (b:α->α->Bool)(L:List α):Nat:=(ext b L.length L).length
theorem cnt_nil (b:α->α->Bool):cnt b []=1:=rfl
theorem mem_frF {b:α->α->Bool}{L:List α}{x:α}:x∈frF b L↔x∈L/\∀ y∈L,b y x=false:=by
 unfold frF;rw[A0U];constructor
 . rintro ⟨h1,h2⟩;refine⟨h1,λy hy=>?_⟩
   cases e:b y x with
   |false=>rfl
   |true=>
     have:(L.any λy=>b y x)=true:=A1S.mpr ⟨y,hy,e⟩;rw[this] at h2
     cases h2
 rintro⟨h1,h2⟩;refine⟨h1,?_⟩
 have:(L.any λy=>b y x)=false:=by
  rw[Bool.eq_false_iff];intro h;obtain⟨y,hy,e⟩:=A1S.mp h;rw[h2 y hy] at e
  cases e
 rw[this];rfl
theorem mem_lessF {L:List α}{x y:α}:y∈Bg L x↔y∈L/\y≠x:=by unfold Bg;rw[A0U];simp
theorem C2 {L:List α}(h:L.Nodup)(x:α):(Bg L x).Nodup:=A58 (A3Q) h
theorem Tf:∀ {L:List α} {x:α},x∉L->Bg L x=L:=fun {L x} h=>by unfold Bg;rw[List.filter_eq_self];intro y hy;have:y≠x:=λq=>h (q ▸ hy);simp[this]
theorem Cg:∀ {L:List α} {x:α},L.Nodup->x∈L->(Bg L x).length+1=L.length
 | [],_,_,h=>by cases h
 |y :: ys,x,hn,h=>by
   obtain⟨h1,h2⟩:=A0H.mp hn
   by_cases e:y=x
   . subst e;have:Bg (y :: ys) y=Bg ys y:=by unfold Bg;rw[List.filter_cons,if_neg (by simp)]
     rw[this,Tf h1];rfl
   have:Bg (y :: ys) x=y :: Bg ys x:=by unfold Bg;rw[List.filter_cons,if_pos (by simp[e])]
   rw[this,A0L,Cg h2 ((A0B.mp h).resolve_left λq=>e q.symm)];rfl
theorem Ma {b:α->α->Bool} {L:List α} (hn:L.Nodup) (hne:L≠[]):cnt b L=((frF b L).map λx=>cnt b (Bg L x)).sum:=by
 unfold cnt
 cases hl:L.length with
 |zero=>exact absurd (A12.mp hl) hne
 |succ n=>
   show((frF b L).flatMap λx=>(ext b n (Bg L x)).map (x :: ·)).length=_;rw[List.length_flatMap];congr 1;apply A0Y;intro x hx;have:=Cg hn (mem_frF.mp hx).1;have e:(Bg L x).length=n:=by omega
   rw[A01,e]
def Qh (ns row:List α):List α:=ns.filter λx=>!decide (x∈row)
def fac:Nat->Nat
 |0=>1
 |n+1=>fac n*(n+1)
theorem T9 {f g:α->Nat}:∀ {l:List α},(∀ x∈l,f x<=g x)->(l.map f).sum<=(l.map g).sum
 | [],_=>A07 _
 |x :: xs,h=>by have h1:=h x (by simp);have h2:=T9 (l:=xs) (f:=f) (g:=g) λy hy=>h y (by simp[hy]);simp;omega
theorem Ll {p q:α->Bool}:∀ {l:List α},(∀ a∈l,p a=true->q a=true)->(∃ z∈l,q z=true/\p z=false)->(l.filter p).length<(l.filter q).length
 | [],_,h=>by obtain⟨z,hz,_⟩:=h;cases hz
 |y :: ys,h,hz=>by
   have le:∀ l:List α,(∀ a∈l,p a=true->q a=true)->(l.filter p).length<=(l.filter q).length:=by
    intro l
    induction l with
    |nil=>intro _;exact A07 _
    |cons a l ih=>
      intro h;have:=ih λa ha=>h a (by simp[ha]);rw[A1T,A1T]
      cases c:p a with
      |true=>rw[if_pos rfl,if_pos (h a (by simp) c)];simpa using this
      |false=>
        rw[if_neg (by simp)]
        split
        . simp;omega
        exact this
   rw[A1T,A1T];obtain⟨z,hz,hq,hp⟩:=hz;rcases A0B.mp hz with rfl|hz
   . rw[hp,if_neg (by simp),if_pos hq,List.length_cons];have:=le ys λa ha=>h a (by simp[ha]);omega
   have ih:=Ll (l:=ys) (λa ha=>h a (by simp[ha])) ⟨z,hz,hq,hp⟩
   cases c:p y with
   |true=>rw[if_pos rfl,if_pos (h y (by simp) c)];simpa using ih
   |false=>
     rw[if_neg (by simp)]
     split
     . simp;omega
     exact ih
theorem Vl {b:α->α->Bool}(irr:∀ x,b x x=false)(tr:∀ x y z,b x y=true->b y z=true->b x z=true){L:List α}:∀(m:Nat) (y:α),y∈L->(L.filter λz=>b z y).length<=m->∃ x∈frF b L,x=y\/b x y=true
 |m,y,hy,hm=>by
   by_cases c:∃ z∈L,b z y=true
   . obtain ⟨z,hz,hzy⟩:=c;have lt:(L.filter λa=>b a z).length<(L.filter λa=>b a y).length:=Ll (λa _ h=>tr a z y h hzy) ⟨z,hz,hzy,irr z⟩
     cases m with
     |zero=>omega
     |succ m=>
       obtain⟨x,hx,h⟩:=Vl irr tr m z hz ∅;refine⟨x,hx,.inr ?_⟩;rcases h with rfl|h
       . exact hzy
       exact tr x z y h hzy
   refine⟨y,mem_frF.mpr ⟨hy,λz hz=>?_⟩,.inl rfl⟩
   cases e:b z y with
   |false=>rfl
   |true=>exact absurd ⟨z,hz,e⟩ c
theorem Va {b:α->α->Bool} {L:List α} (h:L.Nodup):(frF b L).Nodup:=A58 A3Q h
theorem ar3 {b:α->α->Bool}(irr:∀ x,b x x=false)(tr:∀ x y z,b x y=true->b y z=true->b x z=true){L:List α}(h:L≠[]):frF b L≠[]:=by
 cases L with
 |nil=>exact absurd rfl h
 |cons y ys=>
   obtain⟨x,hx,_⟩:=Vl irr tr (L:=y :: ys) _ y (by simp) (Nat.le_refl _);intro e;rw[e] at hx
   cases hx
theorem X9 {f g:α->Nat}{l:List α}(h:∀ x∈l,f x=g x):(l.map f).sum=(l.map g).sum:=by rw[A0Y h]
end
def Mtd (P:Program)(w:World)(K:W.Frag)(mg:Str->Option Value)(base:Heap)(k:Nat)(C:Addr)(m:Str)(ps:List Str)(sp:Sp):Prop:=
 ∃ f fd,FnOk P w K mg base CX0 k f fd ps sp/\au0 K C m f/\Binds K fd ps []
def Mkd (P:Program)(w:World)(K:W.Frag)(mg:Str->Option Value)(base:Heap)(k:Nat)(C:Addr)(x:Str)(ps:List Str)(sp:Sp):Prop:=
 ∃ f fd,FnOk P w K mg base CX0 k f fd ps sp/\Mk K C f/\mg x=some (.ref C)/\Binds K fd ps []
theorem FnOk.void {P:Program}{w:World}{K:W.Frag}{mg:Str->Option Value}{base:Heap}{CX:CXT}{k:Nat}{f:Addr}{fd:FuncData}{ps:List Str}{sp:Sp}(h:∀ vs H Q E,¬ sp vs H Q E):FnOk P w K mg base CX k f fd ps sp:=
 ⟨λvs H Q E q=>absurd q (h vs H Q E),λA outer s H args us vs Q E _ _ _ _ hs=>absurd hs (h vs H Q E)⟩
def rAt (f:Str)(C:Addr):V->Hp->VK->Prop:=λx H Q=>∃ a dx fs v,x = .ref a/\H a=some (.ins C dx fs)/\fs.lookup f=some v/\Q v H
def tAt (f:Str)(C:Addr)(ta:TE):TE:=fun σ H Q=>ta σ H λx H1=>rAt f C x H1 Q
def rSt (f:Str)(C:Addr)(y:V):V->Hp->(Hp->Prop)->Prop:=λx H R=>∃ a dx fs,x = .ref a/\H a=some (.ins C dx fs)/\fs.length<1000/\R (upd H a (.ins C dx (Kg f y fs)))
def sSt (f:Str)(C:Addr)(ta tv:TE):TS:=λD σ H=>tv σ H λy H1=>ta σ H1 λx H2=>rSt f C y x H2 λH3=>D.nx σ H3
def rMe (m:Str)(C:Addr)(sp:Sp)(t:TA)(σ:St):V->Hp->VK->Prop:=λx H Q=>∃ a dx fs,x = .ref a/\H a=some (.ins C dx fs)/\fs.lookup m=none/\t σ H λvs H2=>sp (x :: (vs++[])) H2 Q E0
def tMe (m:Str)(C:Addr)(sp:Sp)(ta:TE)(t:TA):TE:=fun σ H Q=>ta σ H λx H1=>rMe m C sp t σ x H1 Q
def rMk (C:Addr)(sp:Sp):List V->Hp->VK->Prop:=λvs H1 Q=>∀ x dx,H1 x=none->H1 dx=none->dx≠x ->
 sp (.ref x :: (vs++[])) (upd (upd H1 dx (.own x)) x (.ins C dx [])) (λv H2=>v = .non/\Q (.ref x) H2) E0
def tMk (C:Addr)(sp:Sp)(t:TA):TE:=fun σ H Q=>t σ H λvs H1=>rMk C sp vs H1 Q
def aA9 (ta:TE):TT:=fun σ H Q=>ta σ H λx H1=>∃ i:Int,x = .int i/\Q (i != 0) H1
section
variable {X:Cx}{K:W.Frag}{k:Nat}{C:Addr}{f x m:Str}{ps:List Str}{sp:Sp}{e o value:Expr}{es:List Expr}{ta tv:TE}{t:TA}{p pos pos' apos:Pos}
theorem Kb (he:PE X e ta)(c:Cls X.K C)(n:NoAttr X.K C f)(hb:attributeBase e f X.env (eval e X.env)=eval e X.env):PE X (.Attribute e f pos) (tAt f C ta):=by
 intro pins s σ H Q I h;refine Wp hb (thn (he pins s σ H _ I h) ?_);rintro u s1 ⟨x,H1,I1,rx,a,dx,fs,v,rfl,ea,l,q⟩
 cases rx;exact Uo I1 ea c n l λu' s2 I2 ru=>⟨v,H1,I2,ru,q⟩
theorem X2 (ha:PE X o ta)(hv:PE X value tv)(c:Cls X.K C)(n:NoAttr X.K C f)(hs:swapsWith value (some (.Attribute o f pos')) pos.line X.env=pure false):PS X (.Assign [.Attribute o f pos'] value pos) (sSt f C ta tv):=by
 intro pins s σ H D I h;refine plainObj_wpAny_Assign_Attribute (thn (hv pins s σ H _ I h) ?_) hs;rintro u s1 ⟨y,H1,I1,ry,q⟩;refine thn (ha pins s1 σ H1 _ I1 q) ?_;rintro ov s2 ⟨x,H2,I2,rx,a,dx,fs,rfl,ea,l,q2⟩
 cases rx;exact Tq I2 ea c n l ry λs3 I3=>⟨σ,_,I3,q2⟩
theorem Zs {pl:Sem Bool}(he:PE X o ta)(c:Cls X.K C)(F:Mtd X.prog X.w X.K X.mg X.base k C m ps sp)(hr:Room k X.A)(ha:PA X (e :: es) t)
  (hst:starEach (e :: es) X.env=(false,eval e X.env) :: starEach es X.env:=by ac_nf) (hpl:(backTo pos (starEach es X.env)).any (·.1)=false:=by ac_nf)
  (ht:eval (.Call (.Attribute o m apos) (e :: es) [] pos) X.env=(do
   let ov <- eval o X.env
   standAt apos.atName
   let (f,first) <- holding [ov] (getMethod ov m pl)
   callWith pos f first (backTo pos (starEach (e :: es) X.env)) (backToKw pos (keywordEach [] X.env))):=by ac_nf) :
  PE X (.Call (.Attribute o m apos) (e :: es) [] pos) (tMe m C sp ta t):=by
 obtain⟨f,fd,h1,h2,h3⟩:=F;exact ae3 (pl:=pl) he c h2 h1 hr h3 .nil af8 ha hst hpl ht
theorem ay1 (F:Mkd X.prog X.w X.K X.mg X.base k C x ps sp)(hr:Room (k+1) X.A)(hg:Gl X x)(ha:PA X (e :: es) t)(hdb:(x==("__debug__":Str))=false:=by decide)
  (he:starEach (e :: es) X.env=(false,eval e X.env) :: starEach es X.env:=by ac_nf) (hpl:(backTo pos (starEach es X.env)).any (·.1)=false:=by ac_nf) :
  PE X (.Call (.Name x p) (e :: es) [] pos) (tMk C sp t):=by
 obtain⟨f,fd,h1,h2,h3,h4⟩:=F;exact ag3 h2 h1 hr hg h3 h4 .nil af8 ha hdb he hpl
theorem a45 (ha:PE X e ta)(he:∀ whole,isTrue e X.env whole=(do let v <- whole;standAt e.pos;holding [v] (truthy v)):=by intro _;ac_nf):PT X e (aA9 ta):=by intro pins s σ H Q I h;refine isTrue_plain (thn (ha pins s σ H _ I h) ?_) (he _);rintro v s1 ⟨x,H1,I1,r1,i,rfl,q1⟩;exact aq3 pins s1 σ H1 _ v Q I1 r1 ⟨_,rfl,q1⟩
end
section
variable {K:W.Frag}{C:Addr}{f m:Str}{sp:Sp}{ta tv:TE}{t:TA}{σ:St}{H:Hp}{Q:VK}{D:Ends}
theorem i_tAt (k:ta σ H λx H1=>rAt f C x H1 Q):tAt f C ta σ H Q:=k
theorem Ul {a dx:Addr}{fs:List (Str×V)}{v:V}(h:H a=some (.ins C dx fs))(l:fs.lookup f=some v)(k:Q v H):rAt f C (.ref a) H Q:=⟨a,dx,fs,v,rfl,h,l,k⟩
theorem i_sSt (k:tv σ H λy H1=>ta σ H1 λx H2=>rSt f C y x H2 λH3=>D.nx σ H3):sSt f C ta tv D σ H:=k
theorem ao4 {a dx:Addr}{fs:List (Str×V)}{y:V}{R:Hp->Prop}(h:H a=some (.ins C dx fs))(hl:fs.length<1000)(k:∀ H',ExtBut a H H'->H' a=some (.ins C dx (Kg f y fs))->R H'):rSt f C y (.ref a) H R:=
 ⟨a,dx,fs,rfl,h,hl,k _ ExtBut.upd A8⟩
theorem i_tMe (k:ta σ H λx H1=>rMe m C sp t σ x H1 Q):tMe m C sp ta t σ H Q:=k
theorem at9 {a dx:Addr}{fs:List (Str×V)}(h:H a=some (.ins C dx fs))(l:fs.lookup m=none)(k:t σ H λvs H2=>sp (.ref a :: (vs++[])) H2 Q E0):rMe m C sp t σ (.ref a) H Q:=⟨a,dx,fs,rfl,h,l,k⟩
theorem i_tMk (k:t σ H λvs H1=>rMk C sp vs H1 Q):tMk C sp t σ H Q:=k
theorem i_mk {vs:List V}(k:∀ x dx H2,H x=none->Same H H2->H2 x=some (.ins C dx [])->sp (.ref x :: (vs++[])) H2 (λv H3=>v = .non/\Q (.ref x) H3) E0):rMk C sp vs H Q:=λx dx hx hd hne=>k x dx _ hx (λb o e=>by rw[Al (ne_of_none e hx),Al (ne_of_none e hd)];exact e) A8
theorem i_tTru {R:Bool->Hp->Prop}(k:ta σ H λx H1=>∃ i:Int,x = .int i/\R (i != 0) H1):aA9 ta σ H R:=k
theorem aa2 {a:Addr}{kvs:List (Key×V)}{z:Int}{v:V}{R:Hp->Prop}(h:H a=some (.dK kvs))(hl:kvs.length<=1000000)(k:∀ H',ExtBut a H H'->H' a=some (.dK (Ea kvs (Sum.inl z) v))->R H'):∃ b H4,V.ref a = .ref b/\DPut H b (.int z) v H4/\R H4:=
 ⟨a,_,rfl,DPut.k (k:=Sum.inl z) h (by rw[A14];omega),k _ ExtBut.upd A8⟩
theorem a40 {a:Addr}{kvs:List (Key×V)}{z:Int}{v:V}(h:H a=some (.dK kvs))(e:Cy kvs (Sum.inl z:Key)=some v)(k:Q v H):Th K (.ref a) (.int z) H Q:=.inr ⟨a,v,rfl,by rw[<- e];exact DGet.k (k:=Sum.inl z) h,k⟩
theorem ag0 {a:Addr}{kvs:List (Key×V)}{z:Int}(h:H a=some (.dK kvs))(k:Q (.bl (Cy kvs (Sum.inl z:Key)).isNone) H):Wq K true (.int z) (.ref a) H Q:=by
 refine .inr (.inr (.inl ⟨a,Cy kvs (Sum.inl z:Key),rfl,DGet.k (k:=Sum.inl z) h,?_⟩))
 cases e:Cy kvs (Sum.inl z:Key) with
 |none=>rw[e] at k;exact k
 |some v=>rw[e] at k;exact k
end
def ah5 (d v:Addr):HO:=.ext λh=>h.IsValuesView v d
def aj8:V->List V->Hp->VK->Prop:=λx vs H Q=>∃ d kvs,x = .ref d/\vs=[]/\H d=some (.dK kvs)/\∀ v,H v=none->Q (.ref v) (upd H v (ah5 d v))
def ah6:List V->Hp->VK->Prop:=λxs H Q=>∃(v d:Addr) (kvs:List (Key×V)) (ns:List Int),xs=[.ref v]/\H v=some (ah5 d v)/\H d=some (.dK kvs)/\kvs.map (·.2)=ns.map V.int/\(∀ n∈ns,0<=n/\n<=1000000000000)/\ns.length<=1000000/\Q (.int ns.sum) H
section
variable {X:Cx}{K:W.Frag}
theorem Xx:MtM X "dict.values" aj8:=by
 intro pins s σ H x vs v us Q I rx rv h;obtain⟨d,kvs,rfl,rfl,hD,q⟩:=h
 cases rx
 cases rv;obtain⟨z1,hd1,vs1,rel1,dd1⟩:=Qs I.hok hD;refine A3S F.slot_dict_values dd1.typeIs F.entry_dict_values (F.args_dict_values_1 _) (meets_dict_values (Ax X.prog X.w) d hd1) ⟨⟨vs1,dd1⟩,?_⟩;refine ⟨.ref s.heap.objs.size,upd H s.heap.objs.size (ah5 d s.heap.objs.size),I.laid (t':=s.toks) (λb u e=>A03 _ e) (A07 _) ⟨⟨_,A0K _ rfl,rfl,rfl⟩,⟨_,A0K _ rfl⟩,λh1 h2 ⟨o,e,r⟩ hk=>⟨o,hk o e,r⟩⟩,rfl,q _ (I.hok.fresh (A07 _))⟩
theorem Oy {α β:Type}{F:α->β->Prop}{l₁:List α}{l₂:List β}(h:Paired F l₁ l₂):∀ {i:Nat} {a:α},l₁[i]? = some a->∃ b,l₂[i]? = some b/\F a b:=by
 induction h with
 |nil=>intro i a e;cases e
 |cons r _ ih=>
   intro i a e
   cases i with
   |zero=>cases e;exact⟨_,rfl,r⟩
   |succ i=>exact ih e
theorem a96 {ns:List Int}{kvs:List (Key×V)}{vs:List (Key×Value)}(rel:KV kvs vs)(h:kvs.map (·.2)=ns.map V.int){i:Nat}{k:Key}{u:Value}(hx:vs[i]? = some (k,u)):∃ t,u = .int (ns.getD i 0) t:=by
 have hl:kvs.length=vs.length:=rel.length;have hn:kvs.length=ns.length:=by have:=congrArg List.length h;rwa[A01,A01] at this
 have hi:i<vs.length:=(A02.mp hx).1;have hk:kvs[i]? = some kvs[i]:=A06 ∅;obtain⟨q,hq,r⟩:=Oy rel hk;rw[hx] at hq
 cases hq;have e:(kvs.map (·.2))[i]? = some kvs[i].2:=by rw[A08,hk];rfl
 rw[h,A08,Jk (y:=0) (by omega:i<ns.length)] at e;have e2:V.int (ns.getD i 0)=kvs[i].2:=A10 e;have r2:=r.2;rw[<- e2] at r2;exact r2
theorem Wg (hc:X.calm=true):CallR X (.builtin "sum") ah6:=by
 intro pins s σ H xs us Q I r h;obtain⟨v,d,kvs,ns,rfl,hv,hd,hns,hb,hz,q⟩:=h;obtain⟨u,rfl,ru⟩:=J7 r
 cases ru
 have fits:∀ j,j<ns.length->InLong (ns.getD j 0)/\InLong (preSum (λi=>ns.getD i 0) (j+1)):=λj hj=>by have h1:=hb _ (A05 (Jk (y:=0) hj));have h2:=Kz (ns:=ns.take (j+1)) λn hn=>hb n (A1U hn);rw[Fo ns (j+1) hj];rw[A0O] at h2;unfold InLong;omega
 have last:preSum (λi=>ns.getD i 0) ns.length=ns.sum:=by rw[Fo ns _ (A07 _),A0M]
 obtain⟨_,hs,vs,rel,dd⟩:=Qs I.hok hd;obtain⟨ep,hat⟩:=dd.dictAt;have vv:s.heap.IsValuesView v d:=(show ObjOk X.prog X.w H s.heap v (ah5 d v) from I.hok v _ hv).1;have hlt:d<s.heap.objs.size:=I.hok.lt hd
 have hn:vs.length=ns.length:=by have:=congrArg List.length hns;rw[A01,A01] at this;have:=rel.length;omega
 refine call_sum_walk ?_;obtain⟨oI,St,hit,W,st⟩:=(PySem.W.kdl_values (knd:=Ax X.prog X.w) (r:=v) (d:=d) (kvs:=vs) (ep:=ep)).iter X.A.in1 s (by simpa using I.ok.hd hc) ⟨vv,hat⟩;refine hit _ _ ?_;refine⟨s.heap.objs.size,_,_,_,_,_,λi=>ns.getD i 0,rfl,W,st,?_,?_,by rw[hn];exact fits,?_⟩
 . intro b hb';rw[A2J];simp only[List.mem_cons,List.not_mem_nil,or_false] at hb';rcases hb' with rfl|rfl
   . exact A2Z _
   exact A3D hlt
 . rintro i u ⟨k,hx⟩;exact a96 rel hns hx
 intro h' tk t' hk;refine⟨.int ns.sum,H,I.kept (t':=tk) ?_,⟨t',by rw[hn,last]⟩,q⟩;intro b o e;refine hk b o (λz=>?_) (A03 _ e);have:b=s.heap.objs.size:=by simpa using z
 subst this;exact absurd (A0A e) (A2F _)
theorem aq5 {d:Addr}{kvs:List (Key×V)}{H:Hp}{Q:VK}(h:H d=some (.dK kvs))(k:∀ v H',H v=none->Same H H'->H' v=some (ah5 d v)->Q (.ref v) H'):aj8 (.ref d) [] H Q:=⟨d,kvs,rfl,rfl,h,λv hv=>k v _ hv (Same.upd hv) A8⟩
theorem ar5 {v d:Addr}{kvs:List (Key×V)}{ns:List Int}{H:Hp}{Q:VK}(hv:H v=some (ah5 d v))(hd:H d=some (.dK kvs))(hns:kvs.map (·.2)=ns.map V.int)(hb:∀ n∈ns,0<=n/\n<=1000000000000)(hz:ns.length<=1000000)(k:Q (.int ns.sum) H):ah6 [.ref v] H Q:=
 ⟨v,d,kvs,ns,rfl,hv,hd,hns,hb,hz,k⟩
end
section
variable {X:Cx}
end
section
variable {α:Type}[DecidableEq α]
theorem a74 (a b:Nat):Builtin.bitAnd (a:Int) (b:Int)=((a &&& b:Nat):Int):=by rw[bitAnd_pp (Int.natCast_nonneg _) (Int.natCast_nonneg _)];simp
theorem W2 (p q:α->Bool)(ns:List α):(Builtin.bitAnd (Dr ns p:Int) (Dr ns q:Int) != 0)=ns.any λx=>p x&&q x:=by
 rw[a74,Sq]
 cases e:ns.any λx=>p x&&q x with
 |true=>
   obtain⟨x,hx,h⟩:=A1S.mp e
   have:Dr ns (λx=>p x&&q x)≠0:=λz=>by
    have:=binM_zero.mp z x hx;rw[this] at h
    cases h
   simp only[bne_iff_ne,ne_eq];omega
 |false=>
   have:Dr ns (λx=>p x&&q x)=0:=binM_zero.mpr λx hx=>by
    cases c:(p x&&q x) with
    |false=>rfl
    |true=>rw[A1S.mpr ⟨x,hx,c⟩] at e;cases e
   rw[this];rfl
theorem ad4 {ns:List α} (hn:ns.Nodup) {x:α} (hx:x∈ns) (q:α->Bool):(Builtin.bitAnd (Et ns x:Int) (Dr ns q:Int) != 0)=q x:=by
 rw[Y9 hn hx,W2]
 cases c:q x with
 |true=>exact List.any_eq_true.mpr ⟨x,hx,by simp[c]⟩
 |false=>
   rw[Bool.eq_false_iff];intro h;obtain⟨y,_,hy⟩:=A1S.mp h;rw[A1A,decide_eq_true_iff] at hy;rw[hy.1,c] at hy
   cases hy.2
theorem Ug (ns:List α)(p q:α->Bool):(ns.any λx=>p x&&q x)=(ns.filter q).any p:=by
 induction ns with
 |nil=>rfl
 |cons y ys ih=>
   rw[A1O,ih,A1T]
   cases c:q y with
   |true=>rw[A0W rfl,A1O,Bool.and_true]
   |false=>rw[A0S nofun,Bool.and_false,A34]
theorem Ya (b:α->α->Bool)(ns:List α)(q:α->Bool):(ns.filter λx=>q x && !(ns.any λy=>b y x&&q y))=frF b (ns.filter q):=by unfold frF;rw[List.filter_filter];apply A2A;intro x _;rw[Ug,Bool.and_comm]
theorem Df (ns:List α)(q:α->Bool)(x:α):(ns.filter λy=>q y && !decide (y=x))=Bg (ns.filter q) x:=by unfold Bg;rw[List.filter_filter];apply A2A;intro y _;rw[Bool.and_comm]
theorem a68 {m n:Nat}(h:m<=n):fac m<=fac n:=by
 induction h with
 |refl=>exact A07 _
 |@step k _ ih=>exact A0Q ih (Nat.le_mul_of_pos_right _ (Nat.succ_pos k))
theorem sum_const (c:Nat):∀ l:List α,(l.map λ_=>c).sum=l.length*c
 | []=>by simp
 |x :: xs=>by rw[A0G,A1M,sum_const c xs,A0L,Nat.add_mul,Nat.one_mul,Nat.add_comm]
theorem a55 (b:α->α->Bool):∀(n:Nat) (L:List α),L.length=n->L.Nodup->cnt b L<=fac n
 |0,L,hl,_=>by have:=A12.mp hl;subst this;exact A07 _
 |n+1,L,hl,hn=>by
   have hne:L≠[]:=by intro e;rw[e] at hl;cases hl
   rw[Ma hn hne]
   have h1:((frF b L).map λx=>cnt b (Bg L x)).sum<=((frF b L).map λ_=>fac n).sum:=T9 λx hx=>by have:=Cg hn (mem_frF.mp hx).1;exact a55 b n (Bg L x) ∅ (C2 hn x)
   rw[sum_const] at h1;refine A0Q h1 ?_;show _<=fac n*(n+1);rw[A4G];refine Nat.mul_le_mul_left _ ?_;rw[<- hl];exact A1I _ _
theorem Qz {b:α->α->Bool}{L:List α}(hn:L.Nodup)(h:L.length<=10):cnt b L<=3628800:=A0Q (a55 b _ L rfl hn) (A0Q (a68 h) nofun)
end
def ah0 (ns:List Str):List (Key×V):=ns.map λx=>((Sum.inr x:Key),V.int ((Et ns x:Nat):Int))
def ahK (ns:List Str)(ps:List (Str×Str)):List (Key×V):=ns.map λx=>((Sum.inr x:Key),V.int ((Dr ns (λy=>Av ps y x):Nat):Int))
theorem Js {f:Str->V}:∀ {ns:List Str} {x:Str},x∈ns->Cy (ns.map λx=>((Sum.inr x:Key),f x)) (Sum.inr x:Key)=some (f x)
 | [],x,h=>by cases h
 |y :: ys,x,h=>by
   rw[A0G]
   by_cases e:y=x
   . subst e;exact Bj rfl
   rw[Bk λq=>e (Sum.inr.inj q)];exact Js ((A0B.mp h).resolve_left λq=>e q.symm)
theorem Hh {f:Str->V}:∀ {ns:List Str} {x:Str},x∉ns->Cy (ns.map λx=>((Sum.inr x:Key),f x)) (Sum.inr x:Key)=none
 | [],x,h=>rfl
 |y :: ys,x,h=>by rw[List.map_cons,Bk λq=>h (by rw[<- Sum.inr.inj q];simp)];exact Hh λq=>h (A0D _ q)
theorem Li:∀ {ns:List Str} {i:Nat} {x:Str},ns.Nodup->ns[i]? = some x->Et ns x=2 ^ i
 | [],i,x,_,h=>by cases h
 |y :: ys,0,x,_,h=>by cases h;unfold Et;rw[A0W rfl]
 |y :: ys,i+1,x,hn,h=>by obtain⟨h1,h2⟩:=A0H.mp hn;have hx:ys[i]? = some x:=h;unfold Et;rw[A0S λq=>h1 (by rw[<- q];exact A05 hx),Li h2 hx,A4M,A4G]
theorem IsL.int_eq {K:W.Frag}{H:Hp}:∀ {ns:List Int} {vs:List V},IsL K H (ns.map PyData.int) vs->vs=ns.map V.int
 | [],vs,h=>by simp only[List.map_nil,IsL] at h;exact h
 |n :: ns,vs,h=>by simp only[List.map_cons,IsL,Is] at h;obtain⟨v,r,rfl,rfl,e3⟩:=h;rw[IsL.int_eq e3];rfl
theorem Hu {α:Type}(f:α->Nat):∀ l:List α,(l.map λx=>((f x:Nat):Int)).sum=(((l.map f).sum:Nat):Int)
 | []=>rfl
 |x :: xs=>by rw[A0G,A1M,Hu f xs,A0G,A1M];omega
theorem ExtBut.fzI {p:Addr}{H H':Hp}{C dx:Addr}{fs:List (Str×V)}(e:ExtBut p H H')(hp:H p=some (.ins C dx fs)):Fz H H':=M8 e λxs h=>by
 rcases h with h|⟨o,h⟩
 . rw[hp] at h;cases h
 rw[hp] at h;cases h
def Knw (ns:List Str) (ps:List (Str×Str)) (kvs:List (Key×V)):Prop:=(kvs.map (·.1)).Nodup /\
 (∀ kv∈kvs,∃ q:Str->Bool,kv.1=Sum.inl ((Dr ns q:Nat):Int)/\kv.2=V.int ((cnt (Av ps) (ns.filter q):Nat):Int))/\Cy kvs (Sum.inl 0:Key)=some (.int 1)
theorem Jf {κ:Type}[DecidableEq κ]:∀ {kvs:List (κ×V)} {k:κ} {v:V},Cy kvs k=some v->(k,v)∈kvs
 | [],k,v,h=>by cases h
 |p :: r,k,v,h=>by
   by_cases e:p.1=k
   . rw[Bj e] at h
     cases h;rw[<- e];exact A11
   rw[Bk e] at h;exact A0D _ (Jf h)
theorem Knw.get {ns:List Str}{ps:List (Str×Str)}{kvs:List (Key×V)}(h:Knw ns ps kvs){q:Str->Bool}{v:V}(e:Cy kvs (Sum.inl ((Dr ns q:Nat):Int):Key)=some v):v = .int ((cnt (Av ps) (ns.filter q):Nat):Int):=by
 obtain⟨q',h1,h2⟩:=h.2.1 _ (Jf e)
 have h3:Dr ns q'=Dr ns q:=by have:=Sum.inl.inj h1;omega
 have h4:ns.filter q'=ns.filter q:=A2A λx hx=>Ki h3 x hx;rw[h4] at h2;exact h2
theorem Knw.len {ns:List Str}{ps:List (Str×Str)}{kvs:List (Key×V)}(h:Knw ns ps kvs)(hf:ns.length<=10):kvs.length<=1024:=by
 have:=Fa (ys:=(List.range 1024).map λi=>(Sum.inl ((i:Nat):Int):Key)) h.1 λk hk=>by obtain⟨kv,hkv,rfl⟩:=A0N.mp hk;obtain⟨q,h1,_⟩:=h.2.1 kv hkv;rw[h1];have h2:=Rc q ns;have h3:(2:Nat) ^ ns.length<=2 ^ 10:=A2Y nofun hf;exact A0N.mpr ⟨Dr ns q,A3V.mpr ∅,rfl⟩
 rwa [A01,A01,A1B] at this
theorem Knw.put {ns:List Str}{ps:List (Str×Str)}{kvs:List (Key×V)}(h:Knw ns ps kvs)(q:Str->Bool) :
  Knw ns ps (Ea kvs (Sum.inl ((Dr ns q:Nat):Int)) (.int ((cnt (Av ps) (ns.filter q):Nat):Int))):=by
 cases e:Cy kvs (Sum.inl ((Dr ns q:Nat):Int):Key) with
 |some v=>
   have hp:Ea kvs (Sum.inl ((Dr ns q:Nat):Int):Key) (.int ((cnt (Av ps) (ns.filter q):Nat):Int))=kvs:=by
    unfold Ea;rw[Fs,e,A0W (show(some v).isSome=true from rfl)]
    conv=>rhs;rw[<- List.map_id kvs]
    apply A0Y;intro kv hkv
    by_cases c:kv.1=Sum.inl ((Dr ns q:Nat):Int)
    . rw[A0W c];obtain⟨q',h1,h2⟩:=h.2.1 kv hkv;rw[h1] at c
      have h3:Dr ns q'=Dr ns q:=by have:=Sum.inl.inj c;omega
      have h4:ns.filter q'=ns.filter q:=A2A λx hx=>Ki h3 x hx;rw[<- h4,<- h2];rfl
    rw[A0S c];rfl
   rw[hp];exact h
 |none=>
   refine⟨ac2 _ h.1 e,λkv hkv=>?_,?_⟩
   . rw[J3 _ e] at hkv;rcases A0R.mp hkv with hkv|hkv
     . exact h.2.1 kv hkv
     have:kv=(Sum.inl ((Dr ns q:Nat):Int),V.int ((cnt (Av ps) (ns.filter q):Nat):Int)):=by simpa using hkv
     subst this;exact⟨q,rfl,rfl⟩
   rw[Kj]
   by_cases c:(Sum.inl 0:Key)=Sum.inl ((Dr ns q:Nat):Int)
   . rw[<- c,h.2.2] at e
     cases e
   rw[A0S c];exact h.2.2
theorem Knw.new (ns:List Str)(ps:List (Str×Str)):Knw ns ps [(Sum.inl 0,V.int 1)]:=by
 refine⟨by simp,λkv hkv=>?_,Bj rfl⟩;have:kv=(Sum.inl 0,V.int 1):=by simpa using hkv
 subst this;refine⟨λ_=>false,?_,?_⟩
 . rw[binM_zero.mpr λ_ _=>rfl];rfl
 have:ns.filter (λ_=>false)=[]:=by simp
 rw[this,cnt_nil];rfl
structure WaysAt (K:W.Frag)(C:Addr)(H:Hp)(p dx:Addr)(nv:V)(bd ad kd:Addr)(ns:List Str)(ps:List (Str×Str))(kvs:List (Key×V)):Prop where
 ob:H p=some (.ins C dx [("names",nv),("bits",.ref bd),("ahead",.ref ad),("full",.int ((Dr ns (λ_=>true):Nat):Int)),("known",.ref kd)])
 nm:Is K H (nmD ns) nv
 bt:H bd=some (.dK (ah0 ns))
 ah:H ad=some (.dK (ahK ns ps))
 kn:H kd=some (.dK kvs)
 nb:bd≠kd
 na:ad≠kd
 ok:Knw ns ps kvs
section
variable {K:W.Frag}{C:Addr}{H H':Hp}{p dx:Addr}{nv:V}{bd ad kd:Addr}{ns:List Str}{ps:List (Str×Str)}{kvs kvs':List (Key×V)}
theorem WaysAt.same (h:WaysAt K C H p dx nv bd ad kd ns ps kvs)(e:Same H H'):WaysAt K C H' p dx nv bd ad kd ns ps kvs:=
 ⟨e _ _ h.ob,h.nm.nm_fz e.fz,e _ _ h.bt,e _ _ h.ah,e _ _ h.kn,h.nb,h.na,h.ok⟩
theorem WaysAt.pk (h:WaysAt K C H p dx nv bd ad kd ns ps kvs):p≠kd:=ne_of h.ob h.kn (by intro z;cases z)
theorem WaysAt.put (h:WaysAt K C H p dx nv bd ad kd ns ps kvs)(e:ExtBut kd H H')(hk:H' kd=some (.dK kvs'))(ok:Knw ns ps kvs'):WaysAt K C H' p dx nv bd ad kd ns ps kvs':=
 ⟨e _ _ h.pk h.ob,h.nm.nm_fz (e.fzD h.kn),e _ _ h.nb h.bt,e _ _ h.na h.ah,hk,h.nb,h.na,ok⟩
theorem WaysAt.list {l:Addr}{xs:List V}(h:WaysAt K C H p dx nv bd ad kd ns ps kvs)(e:ExtBut l H H')(hl:H l=some (.lst xs)):WaysAt K C H' p dx nv bd ad kd ns ps kvs:=
 ⟨e _ _ (ne_of h.ob hl (by intro z;cases z)) h.ob,h.nm.nm_fz (e.fzL hl),e _ _ (ne_of h.bt hl (by intro z;cases z)) h.bt,e _ _ (ne_of h.ah hl (by intro z;cases z)) h.ah,e _ _ (ne_of h.kn hl (by intro z;cases z)) h.kn,h.nb,h.na,h.ok⟩
end
theorem Zm {ns:List Str}{ps:List (Str×Str)}(h:HalfW ns ps)(x:Str):Av ps x x=false:=Ui (h.irr x)
theorem aa5 {ps:List (Str×Str)}(x y z:Str)(h:Av ps x y=true)(g:Av ps y z=true):Av ps x z=true:=wayB_iff.mpr ((wayB_iff.mp h).trans (wayB_iff.mp g))
section
variable {α:Type} [DecidableEq α]
theorem Rg (l:List α)(p:α->Bool):(l.filter p).isEmpty = !(l.any p):=by
 induction l with
 |nil=>rfl
 |cons x xs ih=>
   rw[A1T,A1O]
   cases c:p x with
   |true=>rw[A0W rfl];rfl
   |false=>rw[A0S nofun,ih,A34]
end
section
variable {α:Type}[DecidableEq α]
end
def Ou (ns:List Str)(F:List Str->Nat)(ct:List ((Str->Bool)×Nat)):Nat:=(ct.map λe=>e.2*F (ns.filter e.1)).sum
theorem Hi (ns:List Str)(F:List Str->Nat)(e:(Str->Bool)×Nat)(r:List ((Str->Bool)×Nat)):Ou ns F (e :: r)=e.2*F (ns.filter e.1)+Ou ns F r:=by unfold Ou;rw[List.map_cons,List.sum_cons]
theorem a99 {p:Key×V}{r:List (Key×V)}{k:Key}{v:V}(h:¬ p.1=k):Ea (p :: r) k v=p :: Ea r k v:=by
 unfold Ea;rw[A1O,A0X h,A34]
 by_cases c:(r.any λkv=>decide (kv.1=k))=true
 . rw[A0W c,A0W c,A0G,A0S h]
 rw[A0S c,A0S c];rfl
theorem ae6 {p:Key×V}{r:List (Key×V)}{v:V}(h:p.1∉r.map (·.1)):Ea (p :: r) p.1 v=(p.1,v) :: r:=by
 unfold Ea;rw[A1O,A19 rfl,Bool.true_or,A0W rfl,A0G,A0W rfl];congr 1
 conv=>rhs;rw[<- List.map_id r]
 apply A0Y;intro kv hkv;rw[A0S λq=>h (A0N.mpr ⟨kv,hkv,q⟩)];rfl
theorem Vt {ns:List Str}{F:List Str->Nat}{ct:List ((Str->Bool)×Nat)}{i:Nat}{e:(Str->Bool)×Nat}(he:ct[i]? = some e):Ou ns F (ct.take (i+1))=Ou ns F (ct.take i)+e.2*F (ns.filter e.1):=by unfold Ou;rw[A0J,he,A0E,A4N];simp
theorem Y8 {ns:List Str}{F:List Str->Nat}{ct:List ((Str->Bool)×Nat)}{e:(Str->Bool)×Nat}(he:e∈ct):e.2*F (ns.filter e.1)<=Ou ns F ct:=by
 induction ct with
 |nil=>cases he
 |cons p r ih=>
   rw[Hi];rcases A0B.mp he with rfl|he
   . omega
   have:=ih he;omega
section
variable {K:W.Frag}{σ:St}{H:Hp}{Q:VK}{td ty tx:TE}
def as9 (ty tx:TE)(σ:St):V->Hp->VK->Prop:=λx H1 Q=>∃ a,x = .ref a/\IsD H1 a/\ty σ H1 λy H2=>tx σ H2 λz H3=>∃ o,DGet H3 a y o/\Q (o.getD z) H3
theorem i_dget2 (k:td σ H λx H1=>as9 ty tx σ x H1 Q):a58 td ty tx σ H Q:=k
end
section
variable {K:W.Frag}{C:Addr}{H H':Hp}{p dx:Addr}{nv:V}{bd ad kd:Addr}{ns:List Str}{ps:List (Str×Str)}{kvs:List (Key×V)}
end
section
variable {K:W.Frag}{σ:St}{H:Hp}{Q:VK}
end
theorem Ls {prog:Program}{w:World}{κ:Type}[DecidableEq κ](knd:KeyKind prog w κ)(d:Addr) :
  MeetsIn prog w (Builtin.«dict.update» ⟨[.ref d,.ref d],[]⟩) (λ_ R s=>(∃ kvs,s.heap.DictOf knd d kvs)/\R (.ok (.ret .none)) s):=
 .of_wp λA R s hh=>by obtain⟨⟨kvs,hd⟩,h⟩:=hh;unfold Builtin.«dict.update» Builtin.Dict.selfAndRest;refine A00 (A00 (A3I hd.typeIs ?_));show wpAny _ _ (pure (d,[Value.ref d])) _ _ s;refine A04 ?_;show wpAny _ _ (Builtin.Dict.updateFrom "dict.update" d (.ref d) [] .none) _ _ s;unfold Builtin.Dict.updateFrom Builtin.Dict.merge Builtin.Dict.readDirectly;refine A00 (A3F hd.typeIs ?_);rw[A0S nofun];refine A00 (A00 (A00 (wpAny_isInstance hd.typeIs isSubtype_dict_dict ?_)));simp only[Bool.not_true,Bool.false_eq_true,if_false];refine A00 (wpAny_specialOf hd.typeIs F.slot_dict_iter.lookup (A04 ?_));simp only[beq_self_eq_true,if_true];refine A00 (A04 ?_);unfold Builtin.Dict.mergeDict;rw[if_pos (by simp)];refine A00 (wpAny_rule (A04 ?_));show wpAny _ _ (Builtin.Dict.addKeywords d [] >>= _) _ _ _;exact A00 (A04 (A04 ⟨.none,rfl,h⟩))
def Rz:V->List V->Hp->VK->Prop:=λx vs H Q=>∃ d kvs,x = .ref d/\vs=[.ref d]/\H d=some (.dK kvs)/\Q .non H
def Ng:V->List V->Hp->VK->Prop:=λx vs H Q=>Rj x vs H Q\/Rz x vs H Q
section
variable {X:Cx}{K:W.Frag}
theorem Uq:MtM X "dict.update" Rz:=by
 intro pins s σ H x vs v us Q I rx rv h;obtain⟨d,kvs,rfl,rfl,hD,q⟩:=h
 cases rx;obtain⟨u,rfl,ru⟩:=rv.one
 cases ru;obtain⟨z1,hd1,vs1,rel1,dd1⟩:=Qs I.hok hD;refine A3S F.slot_dict_update dd1.typeIs F.entry_dict_update (F.args_dict_update_2 _ _) (Ls (Ax X.prog X.w) d) ⟨⟨vs1,dd1⟩,?_⟩;exact⟨.non,H,I.tok s.toks,rfl,q⟩
theorem Tx:MtM X "dict.update" Ng:=by
 intro pins s σ H x vs v us Q I rx rv h;rcases h with h|h
 . exact Wa pins s σ H x vs v us Q I rx rv h
 exact Uq pins s σ H x vs v us Q I rx rv h
end
theorem aj2 {d o:Addr}{ks ms:List Str}{H:Hp}{Q:VK}(hd:H d=some (.dK (Jq ks)))(ho:H o=some (.dK (Jq ms)))(hne:d≠o)(hz:ks.length+ms.length<=1000000)(k:∀ H',ExtBut d H H'->H' d=some (.dK (Jq (L8 ks ms)))->Q .non H'):Ng (.ref d) [.ref o] H Q:=.inl (au8 hd ho hne hz k)
theorem am3 {d:Addr}{kvs:List (Key×V)}{H:Hp}{Q:VK}(hd:H d=some (.dK kvs))(k:Q .non H):Ng (.ref d) [.ref d] H Q:=.inr ⟨d,kvs,rfl,rfl,hd,k⟩
structure Qr (ns:List Str)(ps:List (Str×Str)):Prop where
 nd:ns.Nodup
 mem:∀ p∈ps,p.1∈ns/\p.2∈ns
 few:ns.length<=100
 le:ps.length<=1100
theorem HalfW.c {ns:List Str}{ps:List (Str×Str)}(h:HalfW ns ps):Qr ns ps:=⟨h.nd,h.mem,h.few,A0Q h.le nofun⟩
instance {ns:List Str} {ps:List (Str×Str)}:Coe (HalfW ns ps) (Qr ns ps):=⟨HalfW.c⟩
section
variable {α:Type}[DecidableEq α]
def okR (b:α->α->Bool) (r:List α):Prop:=(∀ u∈r,b u u=false)/\r.Pairwise λu v=>b v u=false
theorem Ow {L:List α}(hn:L.Nodup){x:α}(hx:x∈L):(x :: Bg L x).Perm L:=by
 induction L with
 |nil=>cases hx
 |cons y ys ih=>
   obtain⟨h1,h2⟩:=A0H.mp hn
   by_cases e:y=x
   . subst e
     have:Bg (y :: ys) y=ys:=by
      have e1:Bg (y :: ys) y=Bg ys y:=by unfold Bg;rw[List.filter_cons,if_neg (by simp)]
      rw[e1,Tf h1]
     rw[this]
   have e1:Bg (y :: ys) x=y :: Bg ys x:=by unfold Bg;rw[List.filter_cons,if_pos (by simp[e])]
   rw[e1];exact(A3W y x _).trans ((ih h2 ((A0B.mp hx).resolve_left λq=>e q.symm)).cons y)
theorem Es (b:α->α->Bool):∀(n:Nat) (L r:List α),L.Nodup->L.length=n->(r∈ext b n L↔r.Perm L/\okR b r)
 |0,L,r,_,hl=>by
   have:=A12.mp hl;subst this;constructor
   . intro h;have:r=[]:=by simpa[ext] using h
     subst this;exact⟨.refl _,(λ_ h=>by cases h),List.Pairwise.nil⟩
   rintro⟨h,_⟩;have:r=[]:=List.perm_nil.mp h;subst this;simp[ext]
 |n+1,L,r,hn,hl=>by
   constructor
   . intro h;obtain⟨x,hx,h⟩:=List.mem_flatMap.mp h;obtain⟨t,ht,rfl⟩:=A0N.mp h;have hxL:=mem_frF.mp hx;have hlen:=Cg hn hxL.1;obtain⟨h1,h2,h3⟩:=(Es b n (Bg L x) t (C2 hn x) ∅).mp ht;refine⟨(h1.cons x).trans (Ow hn hxL.1),λu hu=>?_,A18.mpr ⟨λv hv=>hxL.2 v (mem_lessF.mp (h1.mem_iff.mp hv)).1,h3⟩⟩;rcases A0B.mp hu with rfl|hu
     . exact hxL.2 u hxL.1
     exact h2 u hu
   rintro⟨hp,hd,hpw⟩
   cases r with
   |nil=>
     have:=hp.length_eq;rw[hl] at this
     cases this
   |cons x t=>
     have hxL:x∈L:=hp.mem_iff.mp (by simp);have hlen:=Cg hn hxL;have hpt:t.Perm (Bg L x):=List.Perm.cons_inv (hp.trans (Ow hn hxL).symm);obtain⟨q1,q2⟩:=A18.mp hpw;refine List.mem_flatMap.mpr ⟨x,mem_frF.mpr ⟨hxL,λy hy=>?_⟩,List.mem_map.mpr ⟨t,(Es b n (Bg L x) t (C2 hn x) ∅).mpr ⟨hpt,λu hu=>hd u (by simp[hu]),q2⟩,rfl⟩⟩
     by_cases e:y=x
     . rw[e];exact hd x (by simp)
     exact q1 y (hpt.mem_iff.mpr (mem_lessF.mpr ⟨hy,e⟩))
theorem J9 (b:α->α->Bool):∀(n:Nat) (L:List α),L.Nodup->(ext b n L).Nodup
 |0,L,_=>by simp[ext]
 |n+1,L,hn=>by
   show((frF b L).flatMap λx=>(ext b n (Bg L x)).map (x :: ·)).Nodup
   have key:∀ l:List α,l.Nodup->(l.flatMap λx=>(ext b n (Bg L x)).map (x :: ·)).Nodup:=by
    intro l
    induction l with
    |nil=>intro _;simp
    |cons y ys ih=>
      intro hl;obtain⟨h1,h2⟩:=A0H.mp hl;rw[List.flatMap_cons,A1Z];refine⟨?_,ih h2,?_⟩
      . have hi:=J9 b n (Bg L y) (C2 hn y);exact List.pairwise_map.mpr (hi.imp λhne e=>hne (List.cons.inj e).2)
      intro r hr t ht e;obtain⟨r',_,rfl⟩:=A0N.mp hr;obtain⟨z,hz,ht⟩:=List.mem_flatMap.mp ht;obtain⟨t',_,rfl⟩:=A0N.mp ht;have:y=z:=(List.cons.inj e).1;exact h1 (this ▸ hz)
   exact key _ (Va hn)
theorem Uv {β:Type}[DecidableEq β]{xs ys:List β}(h1:xs.Nodup)(h2:ys.Nodup)(h:∀ z,z∈xs↔z∈ys):xs.length=ys.length:=
 Nat.le_antisymm (Fa h1 λz hz=>(h z).mp hz) (Fa h2 λz hz=>(h z).mpr hz)
end
theorem idx_at:∀ {r:List Str} {x:Str},x∈r->r[r.idxOf x]? = some x/\(∀ m<r.idxOf x,r[m]? ≠ some x)/\r.idxOf x<r.length
 | [],_,h=>by cases h
 |y :: ys,x,h=>by
   rw[List.idxOf_cons]
   by_cases e:y=x
   . subst e;simp
   have hb:(y==x)=false:=by simpa using e
   obtain⟨h1,h2,h3⟩:=idx_at ((A0B.mp h).resolve_left λq=>e q.symm);rw[hb];refine⟨h1,λm hm=>?_,by simpa using h3⟩
   cases m with
   |zero=>simpa using e
   |succ m=>exact h2 m (by simpa using hm)
section
variable {prog:Program}{w:World}{A:Around}{E:Value->Shared->Prop}{I:Addr}{fp wr:List Addr}{n:Nat}{P:Nat->Value->Prop}{St:Nat->Heap->Prop}
end
section
variable {α:Type}[DecidableEq α]
theorem Nt {b:α->α->Bool}{L M:List α}(hn:L.Nodup)(hp:M.Perm L):cnt b M=cnt b L:=by
 have hm:M.Nodup:=hp.nodup_iff.mpr hn;unfold cnt;refine Uv (J9 _ _ _ hm) (J9 _ _ _ hn) λr=>?_;rw[Es _ _ _ _ hm rfl,Es _ _ _ _ hn rfl];constructor
 . rintro⟨h1,h2⟩;exact⟨h1.trans hp,h2⟩
 rintro⟨h1,h2⟩;exact⟨h1.trans hp.symm,h2⟩
end
theorem Sy {β:Type}{f:β->Nat}{c:Nat}:∀ {l:List β},(∀ x∈l,f x=c)->(l.map f).sum=l.length*c
 | [],_=>by simp
 |x :: xs,h=>by rw[List.map_cons,List.sum_cons,h x (by simp),Sy (l:=xs) λy hy=>h y (by simp[hy]),List.length_cons,Nat.add_mul,Nat.one_mul,Nat.add_comm]
section
variable {prog:Program}{w:World}{A:Around}{E:Value->Shared->Prop}{s:Shared}
structure RawAt (h:Heap)(d:Addr)(es:Array DictEntry)(ep:Nat):Prop where
 at_:∃ o,h.get? d=some o/\o.cls = .type "dict" /\ o.data = .dict es ep
theorem RawAt.ty (x:RawAt s.heap d es ep):s.TypeIs (.ref d) "dict":=let ⟨o,h,c,_⟩:=x.at_;⟨o,h,c⟩
theorem Zw {d:Addr}{es:Array DictEntry}{ep:Nat}{Q:Value->Shared->Prop}(hs:(d==sysModules)=false)(x:RawAt s.heap d es ep)
  (q:Q (.ref s.heap.objs.size) {s with heap:=s.heap.push {cls:=.type "dict_keyiterator",data:=.fields #[.ref d,.int 0 0,.int es.size 0,.int ep 0]}}):wpAny (model prog w) A (pyIter (.ref d)) Q E s:=by
 obtain⟨o,h1,_,h3⟩:=x.at_;refine wpAny_pyIter_slot x.ty F.slot_dict_iter (A24 F.slot_dict_iter x.ty F.entry_dict_iter ?_ (F.args_dict_iter_1 _));unfold Builtin.«dict.__iter__» Builtin.Dict.dictSlotNone;refine A00 (A00 (A3I x.ty ?_));show wpAny _ _ (pure (Value.ref d)) _ _ s;refine A04 ?_;show wpAny _ _ (Builtin.Dict.showsAll d >>= _) _ _ s;unfold Builtin.Dict.showsAll;rw[A0S (by rw[hs];decide)];refine A00 (A04 (A00 (A40 h1 h3 (A00 (wpAny_dictEpoch h1 h3 ?_)))));refine A00 (A1L (A04 ⟨_,rfl,"dict_keyiterator",_,⟨_,A0K _ rfl,rfl⟩,F.slot_dict_keyiterator_next.lookup,?_⟩));simpa[rawInt] using q
theorem Zk {it d:Addr}{i ep:Nat}{es:Array DictEntry}{Q:Option Value->Shared->Prop}(hit:s.heap.IsKeyIter it d i es.size ep)(x:RawAt s.heap d es ep)(hi:i<es.size)
  (q:∀ h',h'.IsKeyIter it d (i+1) es.size ep->Heap.SameBut it s.heap h'->Q (some es[i].key) {s with heap:=h'}):wpAny (model prog w) A (pyNext (.ref it)) Q E s:=by
 obtain⟨o,h1,_,h3⟩:=x.at_;obtain⟨oi,g1,g2,g3⟩:=id hit;have hown:Builtin.Dict_items.ownsTuple "dict_keyiterator" = false:=by rfl
 unfold pyNext;refine A00 (A59 (A1V (name:=Str.ofString "__next__") hit.typeIs F.slot_dict_keyiterator_next (A24 F.slot_dict_keyiterator_next hit.typeIs F.entry_dict_keyiterator_next ?_ (F.args_dict_keyiterator_next_1 _))));refine A00 (A04 (A00 (A00 ?_)))
 first | refine A00 (A2I hit.typeIs (A04 (A00 (A4W g1 g3 ?_)))) | refine A00 (A32 hit.typeIs (A04 (A00 (A4W g1 g3 ?_))))
 simp only[hown,Bool.false_eq_true,if_false];show wpAny _ _ (if(Value.ref d==Value.none)=true then _ else _) _ _ s
 rw[A0S (show ¬ ((Value.ref d==Value.none)=true) by exact A0C)];refine A00 (A04 (A00 (A40 h1 h3 ?_)));rw[if_neg (by simp only[bne_self_eq_false,Bool.false_eq_true,not_false_eq_true])];refine A00 (A04 (A00 (wpAny_dictEpoch h1 h3 ?_)));rw[if_neg (by simp only[bne_self_eq_false,Bool.false_eq_true,not_false_eq_true])];refine A04 ?_;have hneg:¬ ((i:Int)<0):=by omega
 simp only[hneg,if_false,Int.toNat_natCast,Array.getElem?_eq_getElem hi]
 first | refine A00 (A00 (A2I hit.typeIs (A04 (A00 (A4O hit.typeIs ?_))))) | refine A00 (A00 (A32 hit.typeIs (A04 (A00 (A4O hit.typeIs ?_)))))
 show wpAny _ _ (setField (.ref it) 1 (rawInt ((i:Int)+1)) >>= λ_=>_) _ _ s;refine wpAny_bind (wpAny_setField g1 g3 (by simp) ?_)
 have hit2:(s.heap.update it (Obj.mapFields (·.setIfInBounds 1 (rawInt ((i:Int)+1))))).IsKeyIter it d (i+1) es.size ep:=by refine⟨_,A2T _ g1 (A2U (A37 g3 _)),(Obj.cls_mapFields ..).trans g2,?_⟩;rw[A37 g3];simp[rawInt]
 refine A00 (A1H (A00 ?_));refine A4O (s:={s with heap:=s.heap.update it (Obj.mapFields (·.setIfInBounds 1 (rawInt ((i:Int)+1))))}) hit2.typeIs ?_
 show wpAny _ _ (pure es[i].key) _ _ _;exact A04 (A04 ⟨_,rfl,A04 (q _ hit2 (Heap.SameBut.update ..))⟩)
theorem ag6 {it d:Addr}{i ep:Nat}{es:Array DictEntry}{Q:Option Value->Shared->Prop}(hh:A.handled=none)(hit:s.heap.IsKeyIter it d i es.size ep)(x:RawAt s.heap d es ep)(hi:es.size<=i)
  (q:∀ h',Heap.ExtBut it s.heap h'->Q none {s with heap:=h'}):wpAny (model prog w) A (pyNext (.ref it)) Q E s:=by
 obtain⟨o,h1,_,h3⟩:=x.at_;obtain⟨oi,g1,g2,g3⟩:=id hit;have hown:Builtin.Dict_items.ownsTuple "dict_keyiterator" = false:=by rfl
 unfold pyNext;refine A00 (A59 (A1V (name:=Str.ofString "__next__") hit.typeIs F.slot_dict_keyiterator_next (A24 F.slot_dict_keyiterator_next hit.typeIs F.entry_dict_keyiterator_next ?_ (F.args_dict_keyiterator_next_1 _))));refine A00 (A04 (A00 (A00 ?_)))
 first | refine A00 (A2I hit.typeIs (A04 (A00 (A4W g1 g3 ?_)))) | refine A00 (A32 hit.typeIs (A04 (A00 (A4W g1 g3 ?_))))
 simp only[hown,Bool.false_eq_true,if_false];show wpAny _ _ (if(Value.ref d==Value.none)=true then _ else _) _ _ s
 rw[A0S (show ¬ ((Value.ref d==Value.none)=true) by exact A0C)];refine A00 (A04 (A00 (A40 h1 h3 ?_)));rw[if_neg (by simp only[bne_self_eq_false,Bool.false_eq_true,not_false_eq_true])];refine A00 (A04 (A00 (wpAny_dictEpoch h1 h3 ?_)));rw[if_neg (by simp only[bne_self_eq_false,Bool.false_eq_true,not_false_eq_true])];refine A04 ?_;have hneg:¬ ((i:Int)<0):=by omega
 simp only[hneg,if_false,Int.toNat_natCast,Array.getElem?_eq_none hi]
 first | refine A00 (A00 (A2I hit.typeIs (A04 ?_))) | refine A00 (A00 (A32 hit.typeIs (A04 ?_)))
 show wpAny _ _ (setField (.ref it) 0 .none >>= λ_=>_) _ _ s;refine wpAny_bind (wpAny_setField g1 g3 (by simp) ?_);show wpAny _ _ (newExc (.type "StopIteration") [] >>= λ_=>_) _ _ _;simp only[newExc,newTuple];refine A00 (A00 (A1L ?_ (by size_fits)));refine wpAny_bind (m:=firstArgMember _ _) (wpAny_of_eq (a:=Value.none) (by first | rfl | (simp only[firstArgMember];rfl)) (wpAny_newObj_type ?_ (by size_fits)))
 simp only[raiseNew];refine A00 (wpAny_handled ?_);rw[show(A.in1).handled=none by exact hh];refine wpAny_throw ?_;refine A00 (wpAny_isInstance (b:=true) (T:="StopIteration") ⟨_,A0K _ rfl,rfl⟩ isSubtype_stop ?_);exact A04 (q _ (((Heap.SameBut.update ..).extBut.push _).push _))
end
theorem Inv.freezeT {X:Cx}{pins:List (Addr×Obj)}{σ:St}{H:Hp}{s:Shared}{d:Addr}{kvs:List (List Key×V)}{o:Obj}(I:Inv X pins σ H s)(hd:H d=some (.dT kvs))(ho:s.heap.get? d=some o):Inv X pins σ (upd H d (.frz o (.dT kvs))) s:=by
 have nn:∀ b,H b=none->upd H d (.frz o (.dT kvs)) b=none:=λb h=>by rw[Al (Ne.symm (ne_of_none hd h))];exact h
 have other:∀ b u,H b=some u->u ≠ .dT kvs->upd H d (.frz o (.dT kvs)) b=some u:=λb u h q=>by rw[Al (ne_of h hd q)];exact h
 refine⟨I.ok,I.os,I.bare,⟨I.base.keep,I.base.slot,λb ob q n hx=>nn b (I.base.free b ob q n hx),I.base.there,λb xs q=>other b _ (I.base.tups b xs q) (by intro z;cases z),λb ob u q=>other b _ (I.base.frzs b ob u q) (by intro z;cases z),λb ps q=>?_⟩,I.loc,I.cell,nn _ I.free,λx c q=>nn _ (I.freeC x c q),λp hp=>?_,λb u q=>?_,I.len⟩
 . obtain⟨more,h⟩:=I.base.tbls b ps q;exact⟨more,other b _ h (by intro z;cases z)⟩
 . obtain⟨a1,a2,a3⟩:=I.pin p hp;exact⟨a1,nn _ a2,a3⟩
 by_cases e:b=d
 . subst e;rw[A8] at q
   cases q;exact⟨ho,(I.hok b _ hd).stay (λc v hc z=>z) (λc z=>other c _ z (by intro w;cases w)) λc xs z=>other c _ z (by intro w;cases w)⟩
 rw[Al e] at q;exact(I.hok b u q).stay (λc v hc z=>z) (λc z=>other c _ z (by intro w;cases w)) λc xs z=>other c _ z (by intro w;cases w)
def ItT (a:Addr)(o:Obj)(kvs:List (List Key×V))(bs:List Addr):It:=
 ⟨λi H=>H a=some (.frz o (.dT kvs))/\i<bs.length,λi H x H'=>H'=H/\∃ b,bs[i]? = some b/\x = .ref b,λi H=>H a=some (.frz o (.dT kvs))/\bs.length<=i⟩
theorem ad6 {es:Array DictEntry}{bs:List Addr}(hk:es.toList.map (·.key)=bs.map Value.ref){i:Nat}(hi:i<es.size):∃ b,bs[i]? = some b/\es[i].key = .ref b:=by
 have h1:(es.toList.map (·.key))[i]? = some es[i].key:=by rw[A08,Array.getElem?_toList,Array.getElem?_eq_getElem hi];rfl
 rw[hk,A08] at h1
 cases e:bs[i]? with
 |none=>rw[e] at h1;cases h1
 |some b=>rw[e] at h1;exact⟨b,rfl,(A10 h1).symm⟩
theorem Ur {P:Program}{w:World}{K:W.Frag}{tg:Expr}(a it:Addr)(o:Obj)(kvs:List (List Key×V))(bs:List Addr)(es:Array DictEntry)(ep:Nat)(hc:o.cls = .type "dict")(hd:o.data = .dict es ep)(hk:es.toList.map (·.key)=bs.map Value.ref) :
  Yh P w K tg (ItT a o kvs bs) [it] it (λi h=>h.IsKeyIter it a i es.size ep) where
 mem:=by simp
 obj:=λi h st b hb=>by
  have e:b=it:=by simpa using hb
  subst e;obtain⟨o,e,c,d⟩:=st;exact⟨o,e,λv z=>by rw[d] at z;cases z⟩
 keep:=λi h h' st k=>st.at λo e=>k it (by simp) o e
 item:=by
  intro X hP hw hK hc' i pins s σ H E I hf st hg;subst hP hw hK;obtain⟨hH,hi⟩:=hg;have hsz:es.size=bs.length:=by have:=congrArg List.length hk;rwa[A01,A01,A4Y] at this
  have hget:s.heap.get? a=some o:=(show ObjOk X.prog X.w H s.heap a (.frz o (.dT kvs)) from I.hok a _ hH).1;obtain⟨b,hb,hkey⟩:=ad6 hk (i:=i) ∅;obtain⟨f0,f1,f2,f3,f4,f5⟩:=hf it (by simp);refine Zk st ⟨o,hget,hc,hd⟩ ∅ λh' hit' hs'=>?_;have I1:Inv X pins σ H {s with heap:=h'}:=I.turned (t':=s.toks) (λb o hb e=>(hs'.2 b hb).trans e) f0 f1 f3 f4 f5
  obtain⟨o',e,c,d⟩:=id hit';rw[hkey];exact⟨.ref b,rfl,Ts (s:={s with heap:=h'}) e c d nofun ⟨.ref b,H,I1,rfl,⟨rfl,b,hb,rfl⟩,hit',λb hb=>(hf b hb).1⟩⟩
 done:=by
  intro X hP hw hK hc' i pins s σ H E I hf st hg;subst hP hw hK;obtain⟨hH,hi⟩:=hg;have hsz:es.size=bs.length:=by have:=congrArg List.length hk;rwa[A01,A01,A4Y] at this
  have hget:s.heap.get? a=some o:=(show ObjOk X.prog X.w H s.heap a (.frz o (.dT kvs)) from I.hok a _ hH).1;obtain⟨f0,f1,f2,f3,f4,f5⟩:=hf it (by simp);exact ag6 (I.ok.hd hc') st ⟨o,hget,hc,hd⟩ ∅ λh' eb=>⟨rfl,I.turned (t':=s.toks) (λb o hb e=>eb b o hb e) f0 f1 f3 f4 f5⟩
 self:=λA i s Q E st hQ=>wpAny_pyIter_keyiter st hQ
def T5 (H:Hp)(kvs:List (List Key×V))(bs:List Addr):Prop:=bs.length=kvs.length/\∀(i:Nat) kv,kvs[i]? = some kv->∃ b,bs[i]? = some b/\H b=some (.tup (kv.1.map kV))
theorem Zn {X:Cx}{tg:Expr}{pins:List (Addr×Obj)}{σ:St}{H:Hp}{s:Shared}{a:Addr}{kvs:List (List Key×V)}{R:It->Hp->Prop}{E:Value->Shared->Prop}(I:Inv X pins σ H s)(h:H a=some (.dT kvs))
  (q:∀ o bs,T5 H kvs bs->R (ItT a o kvs bs) (upd H a (.frz o (.dT kvs)))):wpAny (model X.prog X.w) X.A (pyIter (.ref a)) (PIE X pins σ tg R) E s:=by
 obtain⟨_,hs,xs,rv,o,es,ep,ho,c,hd,hes,_⟩:=(show ObjOk X.prog X.w H s.heap a (.dT kvs) from I.hok a _ h);have I1:=I.freezeT h ho
 have hk:es.toList.map (·.key)=(xs.map λx=>x.2.1).map Value.ref:=by rw[hes,A1D,A1D];rfl
 have hK:T5 H kvs (xs.map λx=>x.2.1):=by refine⟨by rw[A01];exact(A25 rv).symm,λi kv hkv=>?_⟩;obtain⟨x,hx,_,r2,_⟩:=Oy rv hkv;exact⟨x.2.1,by rw[A08,hx];rfl,r2⟩
 refine Zw hs ⟨o,ho,c.1,hd⟩ ?_;refine⟨s.heap.objs.size,[s.heap.objs.size],_,_,_,rfl,I1.kept (t':=s.toks) λb o e=>A03 _ e,Ur a _ o kvs _ es ep c.1 hd hk,⟨_,A0K _ rfl,rfl,rfl⟩,λb hb=>?_,q o _ hK⟩;have e:b=s.heap.objs.size:=by simpa using hb
 subst e;exact I1.fpOk (A07 _) (I1.hok.fresh (A07 _))
def ax3 (x:V)(H:Hp)(R:It->Hp->Prop):Prop:=∃ a kvs,x = .ref a/\H a=some (.dT kvs)/\∀ o bs,T5 H kvs bs->R (ItT a o kvs bs) (upd H a (.frz o (.dT kvs)))
def iDT (tl:TE):TI:=fun σ H R=>tl σ H λx H1=>ax3 x H1 R
theorem aq7 {X:Cx}{tg l:Expr}{tl:TE}(hl:PE X l tl):PI X tg l (iDT tl):=by
 intro pins s σ H R I h;refine thn (hl pins s σ H _ I h) ?_;rintro v s1 ⟨x,H1,I1,r1,a,kvs,rfl,hH,q⟩
 cases r1;exact Zn I1 hH q
theorem i_iDT {tl:TE}{σ:St}{H:Hp}{R:It->Hp->Prop}(k:tl σ H λx H1=>ax3 x H1 R):iDT tl σ H R:=k
theorem a54 {a:Addr}{kvs:List (List Key×V)}{H:Hp}{R:It->Hp->Prop}(h:H a=some (.dT kvs))(k:∀ o bs H',T5 H kvs bs->ExtBut a H H'->H' a=some (.frz o (.dT kvs))->R (ItT a o kvs bs) H'):ax3 (.ref a) H R:=
 ⟨a,kvs,rfl,h,λo bs hb=>k o bs _ hb ExtBut.upd A8⟩
theorem Mj {a:Addr}{o:Obj}{kvs:List (List Key×V)}{bs:List Addr}:Hf (ItT a o kvs bs) (bs.map V.ref) λH=>H a=some (.frz o (.dT kvs)):=by intro i H g;rw[A01];refine⟨λh=>⟨g,h⟩,λh=>⟨g,h⟩,λx H' _ h=>?_⟩;obtain⟨e,b,h1,h2⟩:=h;exact⟨e,by rw[A08,h1,h2];rfl⟩
def Xu (p:Addr)(ps:List (V×V))(H:Hp)(Q:VK):Prop:=H p=some (.dT [])/\∃ b key y,ps=[(V.ref b,y)]/\H b=some (.tup (key.map kV))/\Q (.ref p) (upd H p (.dT [(key,y)]))
def a06 (trs:List (TE×TE)):TE:=fun σ H Q=>∀ p,H p=none->J0 trs σ (upd H p (.dT [])) λps H2=>Xu p ps H2 Q
theorem Ze {X:Cx}{pos:Pos}{keys:List (Option Expr)}{values:List Expr}{trs:List (TE×TE)}(hu:X.A.units+1<cLine)(h:PPs X pos keys values trs)(hall:keys.all (·.isSome)=true)(hl:keys.length=values.length)(h0:keys≠[])
  (h15:keys.length<=15):PE X (.Dict keys values pos) (a06 trs):=by
 intro pins s σ H Q I q;have hfr:=I.hok.fresh (A07 s.heap.objs.size);have I1:=I.laid (a:=s.heap.objs.size) (o:=.dT []) (h':=s.heap.push {cls:=.type "dict",data:=.dict #[]}) (t':=s.toks) (λ_ _ q=>A03 _ q) (A07 _) (Sr s.heap I.big);have hpl:=pairTrees_length keys values X.env pos hall hl;have hp0:pairTrees keys values X.env pos≠[]:=λe=>h0 (A12.mp (by rw[<- hpl,e];rfl));rw[arm_eval_Dict,zip_pairTrees keys values X.env pos hall hl,dictDisplay_pairs _ hp0 ∅];refine A00 (A47 (A00 ?_));unfold subDict;refine A00 (wpAny_alloc (A00 (A1H ?_)));rw [A0W ∅];refine A00 (thn (h pins _ σ _ _ I1 (q _ hfr)) ?_);rintro ws s2 ⟨ps,H2,I2,rel,e,b,key,y,rfl,hb,q2⟩
 cases rel with
 |@cons a1 b1 l1 l2 r rr=>
   cases rr;obtain⟨u1,u2⟩:=b1;obtain⟨r1,r2⟩:=r
   cases r1;obtain⟨z,hd,xs,rl,dd⟩:=ak6 I2.hok e
   cases rl;refine A1H (A00 ?_);rw[List.forIn_cons];refine A00 (A00 (wpAny_dictSet_heap (hsz:=by rw[A35];omega) (by show X.A.units<cLine;omega) (K6 I2.hok hb) dd λh' dd' hs=>A04 ?_));show wpAny _ _ (forIn [] PUnit.unit _) _ _ _;rw[List.forIn_nil];refine A04 (A04 (A04 (A04 ?_)));obtain⟨qo,es,ep,hq,h2,h3,h4,_,h5⟩:=dd';refine⟨.ref s.heap.objs.size,_,Le I2 (ob:=.dT [(key,y)]) (by rw[e];exact A23) hs ⟨qo,hq⟩ ⟨by rw[A13,A14];omega,hd,[(key,b,u2)],.cons ⟨rfl,?_,r2⟩ .nil,qo,es,ep,hq,h2,h3,h4,h5⟩,rfl,q2⟩;rw[Al (ne_of hb e (λz=>nomatch z))];exact hb
theorem aa7 {trs:List (TE×TE)}{σ:St}{H:Hp}{Q:VK}(k:∀ p H1,H p=none->Same H H1->H1 p=some (.dT [])->J0 trs σ H1 λps H2=>Xu p ps H2 Q):a06 trs σ H Q:=λp hp=>k p _ hp (Same.upd hp) A8
theorem ab2 {p b:Addr}{key:List Key}{y:V}{H:Hp}{Q:VK}(h:H p=some (.dT []))(hb:H b=some (.tup (key.map kV)))(k:∀ H',ExtBut p H H'->H' p=some (.dT [(key,y)])->Q (.ref p) H'):Xu p [(V.ref b,y)] H Q:=⟨h,b,key,y,rfl,hb,k _ ExtBut.upd A8⟩
theorem Vr {σ:St}{H:Hp}{Q:VK}(k:∀ p H',H p=none->Same H H'->H' p=some (.dT [])->Q (.ref p) H'):a64 σ H Q:=λp hp=>k p _ hp (Same.upd hp) A8
theorem Wx {a b:Addr}{kvs:List (List Key×V)}{key:List Key}{v:V}{H:Hp}{R:Hp->Prop}(h:H a=some (.dT kvs))(hb:H b=some (.tup (key.map kV)))(hl:kvs.length<=1000000)(k:∀ H',ExtBut a H H'->H' a=some (.dT (Ea kvs key v))->R H'):∃ c H4,V.ref a = .ref c/\DPut H c (.ref b) v H4/\R H4:=
 ⟨a,_,rfl,DPut.t h hb (by rw[A14];omega),k _ ExtBut.upd A8⟩
theorem a37 {K:W.Frag}{a b:Addr}{kvs:List (List Key×V)}{key:List Key}{v:V}{H:Hp}{Q:VK}(h:Rd H a (.dT kvs))(hb:H b=some (.tup (key.map kV)))(e:Cy kvs key=some v)(k:Q v H):Th K (.ref a) (.ref b) H Q:=.inr ⟨a,v,rfl,.inr ⟨kvs,key,b,h,rfl,hb,e.symm⟩,k⟩
def Gd (ns:List Str)(q:Str->Bool):List Key:=(ns.filter λx=>!q x).map Sum.inr
def Gv (ns:List Str)(ct:List ((Str->Bool)×Nat)):List (List Key×V):=ct.map λe=>(Gd ns e.1,V.int ((e.2:Nat):Int))
def Xi (ns:List Str)(ct:List ((Str->Bool)×Nat)):Prop:=((Gv ns ct).map (·.1)).Nodup
theorem Zu {ns:List Str}{p q:Str->Bool}(h:Gd ns p=Gd ns q):ns.filter p=ns.filter q:=by
 unfold Gd at h
 have h1:(ns.filter λx=>!p x)=ns.filter λx=>!q x:=by
  have:=congrArg (List.map λk:Key=>match k with | .inr z=>z | .inl _=>"") h
  rw[A1D,A1D] at this;have e:((λk:Key=>match k with | .inr z=>z | .inl _=>("":Str))∘Sum.inr)=id:=rfl
  rwa[e,List.map_id,List.map_id] at this
 apply A2A;intro x hx;have h2:(x∈ns.filter λx=>!p x)↔x∈ns.filter λx=>!q x:=by rw[h1]
 rw[A0U,A0U] at h2
 cases c:p x<;>cases d:q x<;>simp[c,d,hx] at h2 ⊢
theorem Ni (ns:List Str)(q:Str->Bool):(Gd ns q).map kV=(ns.filter λx=>!q x).map V.str:=by unfold Gd;rw[A1D];rfl
section
variable {κ:Type}[DecidableEq κ]
theorem ad1 {p:κ×V}{r:List (κ×V)}{k:κ}{v:V}(h:¬ p.1=k):Ea (p :: r) k v=p :: Ea r k v:=by
 unfold Ea;rw[A1O,A0X h,A34]
 by_cases c:(r.any λkv=>decide (kv.1=k))=true
 . rw[A0W c,A0W c,A0G,A0S h]
 rw[A0S c,A0S c];rfl
theorem af5 {p:κ×V}{r:List (κ×V)}{v:V}(h:p.1∉r.map (·.1)):Ea (p :: r) p.1 v=(p.1,v) :: r:=by
 unfold Ea;rw[A1O,A19 rfl,Bool.true_or,A0W rfl,A0G,A0W rfl];congr 1
 conv=>rhs;rw[<- List.map_id r]
 apply A0Y;intro kv hkv;rw[A0S λq=>h (A0N.mpr ⟨kv,hkv,q⟩)];rfl
end
theorem T1 (ns:List Str) (q:Str->Bool) (c:Nat):∀ {ct:List ((Str->Bool)×Nat)},Xi ns ct->∃(k0:Nat) (ct':List ((Str->Bool)×Nat)),
  (Cy (Gv ns ct) (Gd ns q)).getD (.int 0) = .int ((k0:Nat):Int)/\Gv ns ct'=Ea (Gv ns ct) (Gd ns q) (.int (((k0+c:Nat)):Int)) /\
  (∀ k,k∈(Gv ns ct').map (·.1)↔k∈(Gv ns ct).map (·.1)\/k=Gd ns q)/\Xi ns ct'/\(∀ F,Ou ns F ct'=Ou ns F ct+c*F (ns.filter q))/\∀ e'∈ct',(∃ e∈ct,e'.1=e.1)\/e'.1=q
 | [],_=>⟨0,[(q,c)],rfl,by rw[Nat.zero_add];rfl,λk=>by simp[Gv],by unfold Xi Gv;simp,λF=>by unfold Ou;simp,λe' he=>.inr (by rw[List.mem_singleton.mp he])⟩
 |e :: r,h=>by
   have h:(Gd ns e.1 :: (Gv ns r).map (·.1)).Nodup:=h;obtain⟨h1,h2⟩:=A0H.mp h
   by_cases c1:Gd ns e.1=Gd ns q
   . have hf:=Zu c1;refine⟨e.2,(e.1,e.2+c) :: r,?_,?_,λk=>?_,h,λF=>?_,λe' he=>?_⟩
     . show(Cy ((Gd ns e.1,V.int ((e.2:Nat):Int)) :: Gv ns r) _).getD _=_;rw[Bj c1];rfl
     . show(Gd ns e.1,V.int ((e.2+c:Nat):Int)) :: Gv ns r=Ea ((Gd ns e.1,V.int ((e.2:Nat):Int)) :: Gv ns r) _ _;rw[<- c1,af5 (p:=(Gd ns e.1,V.int ((e.2:Nat):Int))) h1]
     . show k∈Gd ns e.1 :: (Gv ns r).map (·.1)↔k∈Gd ns e.1 :: (Gv ns r).map (·.1)\/_;constructor
       . exact .inl
       rintro(h|h)
       . exact h
       rw[h,c1];simp
     . rw[Hi,Hi];show(e.2+c)*F (ns.filter e.1)+_=_;rw[hf,Nat.add_mul];omega
     rcases A0B.mp he with he|he
     . exact .inl ⟨e,by simp,by rw[he]⟩
     exact .inl ⟨e',by simp[he],rfl⟩
   obtain⟨k0,ct',g1,g2,g3,g4,g5,g6⟩:=T1 ns q c h2;refine⟨k0,e :: ct',?_,?_,λk=>?_,?_,λF=>?_,λe' he=>?_⟩
   . show(Cy ((Gd ns e.1,V.int ((e.2:Nat):Int)) :: Gv ns r) _).getD _=_;rw[Bk c1];exact g1
   . show(Gd ns e.1,V.int ((e.2:Nat):Int)) :: Gv ns ct'=Ea ((Gd ns e.1,V.int ((e.2:Nat):Int)) :: Gv ns r) _ _;rw[ad1 c1,g2]
   . show k∈Gd ns e.1 :: (Gv ns ct').map (·.1)↔k∈Gd ns e.1 :: (Gv ns r).map (·.1)\/_;rw[A0B,A0B,g3];constructor
     . rintro(h|h|h)
       . exact .inl (.inl h)
       . exact .inl (.inr h)
       exact .inr h
     rintro((h|h)|h)
     . exact .inl h
     . exact .inr (.inl h)
     exact .inr (.inr h)
   . show(Gd ns e.1 :: (Gv ns ct').map (·.1)).Nodup;refine A0H.mpr ⟨λhm=>?_,g4⟩;rcases(g3 _).mp hm with hm|hm
     . exact h1 hm
     exact c1 hm
   . rw[Hi,Hi,g5];omega
   rcases A0B.mp he with he|he
   . exact .inl ⟨e,by simp,by rw[he]⟩
   rcases g6 e' he with ⟨e2,h3,h4⟩|h3
   . exact .inl ⟨e2,by simp[h3],h4⟩
   exact .inr h3
theorem Rx {ns:List Str}{ct:List ((Str->Bool)×Nat)}(h:Xi ns ct){i:Nat}{e:(Str->Bool)×Nat}(he:ct[i]? = some e):Cy (Gv ns ct) (Gd ns e.1)=some (.int ((e.2:Nat):Int)):=by
 induction ct generalizing i with
 |nil=>cases he
 |cons p r ih=>
   have h:(Gd ns p.1 :: (Gv ns r).map (·.1)).Nodup:=h;obtain⟨h1,h2⟩:=A0H.mp h
   cases i with
   |zero=>cases he;exact Bj rfl
   |succ i=>
     have he:r[i]? = some e:=he
     have hm:Gd ns e.1∈(Gv ns r).map (·.1):=by unfold Gv;rw[A1D];exact A0N.mpr ⟨e,A05 he,rfl⟩
     show Cy ((Gd ns p.1,V.int ((p.2:Nat):Int)) :: Gv ns r) _=_;rw[Bk λz=>h1 (by rw[show Gd ns p.1=Gd ns e.1 from z];exact hm)];exact ih h2 he
theorem Nw {ns:List Str}{ct:List ((Str->Bool)×Nat)}(h:Xi ns ct)(hf:ns.length<=10):ct.length<=1024:=by
 have hc:((ct.map λe=>Dr ns e.1)).Nodup:=by
  unfold Xi Gv at h;rw[A1D] at h;refine List.Pairwise.map _ ?_ (List.pairwise_map.mp h);intro a b hne e
  exact hne (show Gd ns a.1=Gd ns b.1 by unfold Gd;congr 1;apply A2A;intro x hx;rw[Ki e x hx])
 have:=Fa (ys:=List.range 1024) hc λk hk=>by obtain⟨e,_,rfl⟩:=A0N.mp hk;have h2:=Rc e.1 ns;have h3:(2:Nat) ^ ns.length<=2 ^ 10:=A2Y nofun hf;exact A3V.mpr ∅
 rwa[A01,A1B] at this
def ah9 (s z a:Nat):List (List Nat):=(List.range 10).map λk=>Lz s (s+a)++Oe (7*k % 26)++Lz s (s+z-a-1)
def aj9 (s:Nat):List (List Nat):=(List.range 8).map (λk=>Lz s (s+1+k))++[Oe (s+9),Oe (s+11)]
def at2 (s:Nat):List (List Nat):=(List.range 10).map λk=>Lz (s+2*k) (s+2*k+1+5*k % 8)
def aA1:List Str:=["ahead","names","a","ab","name","row","ask","last","first","aheadahe"]
theorem nd41:∀ s<26,(aj9 s).Nodup:=by decide +kernel
theorem nd42:∀ s<26,(at2 s).Nodup:=by decide +kernel
theorem av4:((List.range 10).map λk=>Oe (7*k % 26)).Nodup:=by decide +kernel
theorem ae2:Names aA1:=⟨by decide +kernel,by decide +kernel⟩
theorem nd40 (s z a:Nat):(ah9 s z a).Nodup:=by refine Hd List.nodup_range λk hk j hj e=>?_;have e1:Oe (7*k % 26)=Oe (7*j % 26):=List.append_cancel_left (List.append_cancel_right e);exact Gu (f:=λk=>Oe (7*k % 26)) av4 k hk j hj e1
theorem ad8 {s z a:Nat}(hs:s<26)(ha:a<z)(hz:z<=8):Names ((ah9 s z a).map txt):=by
 refine⟨Lr (nd40 s z a),λy hy=>?_⟩;obtain⟨l,hl,rfl⟩:=A0N.mp hy;obtain⟨k,hk,rfl⟩:=A0N.mp hl;have hm:7*k % 26<26:=Nat.mod_lt _ nofun;have e1:=Kq (a:=s) (b:=s+a) ∅ ∅;have e2:=Nu (i:=7*k % 26) ∅;have e3:=Kq (a:=s) (b:=s+z-a-1) ∅ ∅;refine Ji (by simp only[List.length_append];omega) (by simp only[List.length_append];omega) λc hc=>?_;rcases A0R.mp hc with hc|hc
 . rcases A0R.mp hc with hc|hc
   . exact Hv c hc
   exact Jz c hc
 exact Hv c hc
theorem ae7 {s:Nat}(hs:s<26):Names ((aj9 s).map txt):=by
 refine⟨Lr (nd41 s hs),λz hz=>?_⟩;obtain⟨l,hl,rfl⟩:=A0N.mp hz;rcases A0R.mp hl with h|h
 . obtain⟨k,hk,rfl⟩:=A0N.mp h;have hk:=A3V.mp hk;have e:=Kq (a:=s) (b:=s+1+k) ∅ ∅;exact Ji ∅ ∅ Hv
 simp only[List.mem_cons,List.not_mem_nil,or_false] at h;rcases h with rfl|rfl
 . have e:=Nu (i:=s+9) ∅;exact Ji ∅ ∅ Jz
 have e:=Nu (i:=s+11) ∅;exact Ji ∅ ∅ Jz
theorem a88 {s:Nat}(hs:s<26):Names ((at2 s).map txt):=by refine⟨Lr (nd42 s hs),λz hz=>?_⟩;obtain⟨l,hl,rfl⟩:=A0N.mp hz;obtain⟨k,hk,rfl⟩:=A0N.mp hl;have hk:=A3V.mp hk;have hm:5*k % 8<8:=Nat.mod_lt _ nofun;have e:=Kq (a:=s+2*k) (b:=s+2*k+1+5*k % 8) ∅ ∅;exact Ji ∅ ∅ Hv
theorem Mx {ns ls:List Str}{ps:List (Str×Str)}(h:Names ns)(hl:ns.length<=10)(p:ls.Perm ns)(u:Up ls ps)(hp:ps.length<=60):Half ns ps:=⟨h,hl,hp,ls,p,u⟩
theorem Ic {ns:List Str}{ys:List V}(h:ys.Perm (ns.map V.str)):∃ ls:List Str,ys=ls.map V.str/\ls.Perm ns:=by
 refine⟨ys.map λv=>match v with | .str z=>z | _=>"",?_,?_⟩
 . rw[A1D]
   have:∀ v∈ys,(V.str∘λv=>match v with | .str z=>z | _=>"") v=v:=λv hv=>by obtain⟨z,_,rfl⟩:=A0N.mp (h.mem_iff.mp hv);rfl
   rw[A0Y this];simp
 have:=h.map λv=>match v with | .str z=>z | _=>("":Str)
 rw[A1D] at this
 have e:ns.map ((λv=>match v with | .str z=>z | _=>("":Str))∘V.str)=ns:=by rw[show((λv=>match v with | .str z=>z | _=>("":Str))∘V.str)=id from rfl,List.map_id]
 rw[e] at this;exact this
theorem Sj:∀ {ns:List Str} {as:List Addr} {i:Nat} {z:Str} {q:Addr},ns.Nodup->as.length=ns.length->ns[i]? = some z->Ea (Kc ns as) (Sum.inr z:Key) (.ref q)=Kc ns (as.set i q)
 | [],_,i,_,_,_,_,h=>by simp at h
 |n :: ns,[],i,_,_,_,hl,_=>by simp at hl
 |n :: ns,b :: as,0,z,q,hn,hl,h=>by
   have hz:n=z:=by simpa using h
   subst hz
   have:(Sum.inr n:Key)∉(Kc ns as).map (·.1):=by have:=Km (as:=b :: as) hn;exact(A0H.mp this).1
   exact ae6 (p:=(Sum.inr n,V.ref b)) this
 |n :: ns,b :: as,i+1,z,q,hn,hl,h=>by
   have hz:ns[i]? = some z:=by simpa using h
   have hne:¬ n=z:=λe=>(A0H.mp hn).1 (e ▸ A05 hz);have h1:¬ ((Sum.inr n:Key)=Sum.inr z):=λe=>hne (Sum.inr.inj e);show Ea ((Sum.inr n,V.ref b) :: Kc ns as) _ _=(Sum.inr n,V.ref b) :: Kc ns (as.set i q);rw[a99 (p:=((Sum.inr n:Key),V.ref b)) h1,Sj (List.nodup_cons.mp hn).2 (by simpa using hl) hz]
structure Ovr (H:Hp)(r:Addr)(ns:List Str)(as:List Addr)(ov:Str->List Str):Prop where
 len:as.length=ns.length
 top:H r=some (.dK (Kc ns as))
 row:∀(i:Nat) (z:Str) (a:Addr),ns[i]? = some z->as[i]? = some a->H a=some (.lst ((ov z).map V.str))
theorem Ovr.same {H H':Hp}{r:Addr}{ns:List Str}{as:List Addr}{ov:Str->List Str}(h:Ovr H r ns as ov)(e:Same H H'):Ovr H' r ns as ov:=⟨h.len,e _ _ h.top,λi z a hz ha=>e _ _ (h.row i z a hz ha)⟩
theorem Ovr.at {H:Hp}{r:Addr}{ns:List Str}{as:List Addr}{ov:Str->List Str}(h:Ovr H r ns as ov){x:Str}(hx:x∈ns):∃(i:Nat) (a:Addr),ns[i]? = some x/\as[i]? = some a:=by
 obtain⟨i,hi,e⟩:=A50 hx;have hi':i<as.length:=by rw[h.len];exact hi
 exact⟨i,as[i],by rw[A06 hi,e],A06 hi'⟩
def ovP (ov:Str->List Str)(x:Str)(fr:List Str):Str->List Str:=λz=>if z=x then ov z++fr else ov z
theorem Ovr.put {H H':Hp}{r q:Addr}{ns:List Str}{as:List Addr}{ov:Str->List Str}(hn:ns.Nodup)(h:Ovr H r ns as ov){x:Str}{i:Nat}(hx:ns[i]? = some x){fr:List Str}(e:ExtBut r H H')(hq:H q=some (.lst ((ov x++fr).map V.str)))(ht:H' r=some (.dK (Ea (Kc ns as) (Sum.inr x:Key) (.ref q)))):Ovr H' r ns (as.set i q) (ovP ov x fr):=by
 have hi:i<ns.length:=(A02.mp hx).1;refine⟨by rw[List.length_set,h.len],by rw[ht,Sj hn h.len hx],λj z a hz ha=>?_⟩
 by_cases c:i=j
 . subst c;rw[hx] at hz
   cases hz;rw[A2K (by rw[h.len];exact hi)] at ha
   cases ha;have:q≠r:=ne_of hq h.top (by intro z;cases z);rw[e _ _ this hq];unfold ovP;rw[A0W rfl]
 rw[A28 c] at ha
 have hzx:z≠x:=λe=>by subst e;obtain⟨a1,a2⟩:=A02.mp hx;obtain⟨b1,b2⟩:=A02.mp hz;exact c ((A1P hn).mp (a2.trans b2.symm))
 have h0:=h.row j z a hz ha;have:a≠r:=ne_of h0 h.top (by intro z;cases z);rw[e _ _ this h0];unfold ovP;rw[A0S hzx]
structure OvOk (ns:List Str)(ps:List (Str×Str))(ov:Str->List Str):Prop where
 nd:∀ z∈ns,(ov z).Nodup
 way:∀ z∈ns,∀ y∈ov z,Way ps z y
def Mn (ns:List Str)(ov:Str->List Str):Nat:=(ns.map λz=>(ov z).length).sum
theorem a85 {ns:List Str} {ov:Str->List Str} {x:Str} (hn:ns.Nodup) (hx:x∈ns) (fr:List Str):Mn ns (ovP ov x fr)=Mn ns ov+fr.length:=by
 unfold Mn
 induction ns with
 |nil=>cases hx
 |cons n ns ih=>
   obtain⟨h1,h2⟩:=A0H.mp hn;rw[A0G,A0G,A1M,A1M]
   by_cases c:n=x
   . subst c;have e1:(ovP ov n fr n).length=(ov n).length+fr.length:=by unfold ovP;rw[if_pos rfl,List.length_append]
     have e2:(ns.map λz=>(ovP ov n fr z).length)=ns.map λz=>(ov z).length:=by apply A0Y;intro z hz;unfold ovP;rw[A0S λ(e:z=n)=>h1 (e ▸ hz)]
     rw[e1,e2];omega
   have e1:(ovP ov x fr n).length=(ov n).length:=by unfold ovP;rw[if_neg c]
   rw[e1,ih h2 ((A0B.mp hx).resolve_left λe=>c e.symm)];omega
theorem OvOk.len {ns:List Str}{ps:List (Str×Str)}{ov:Str->List Str}(h:OvOk ns ps ov)(hm:∀ p∈ps,p.1∈ns/\p.2∈ns){z:Str}(hz:z∈ns):(ov z).length<=ns.length:=
 Fa (h.nd z hz) λy hy=>by obtain⟨p,hp,e⟩:=A0N.mp (h.way z hz y hy).right;exact e ▸ (hm p hp).2
theorem OvOk.tot {ns:List Str}{ps:List (Str×Str)}{ov:Str->List Str}(h:OvOk ns ps ov)(hm:∀ p∈ps,p.1∈ns/\p.2∈ns):Mn ns ov<=ns.length*ns.length:=by have:Mn ns ov<=(ns.map λ_=>ns.length).sum:=T9 λz hz=>h.len hm hz;have e:(ns.map λ_=>ns.length).sum=ns.length*ns.length:=Sy λ_ _=>rfl;omega
def To (ov:Str->List Str)(p:Str×Str):List Str:=(p.2 :: ov p.2).filter λz=>!decide (z∈ov p.1)
theorem OvOk.put {ns:List Str}{ps:List (Str×Str)}{ov:Str->List Str}(h:OvOk ns ps ov)(irr:∀ x,¬ Way ps x x){p:Str×Str}(hp:p∈ps)(hm:p.1∈ns/\p.2∈ns):OvOk ns ps (ovP ov p.1 (To ov p)):=by
 have hnd:(p.2 :: ov p.2).Nodup:=A0H.mpr ⟨λhi=>irr _ (h.way _ hm.2 _ hi),h.nd _ hm.2⟩;refine⟨λz hz=>?_,λz hz y hy=>?_⟩
 . unfold ovP
   by_cases c:z=p.1
   . rw[A0W c,A1Z];refine⟨h.nd z hz,hnd.filter _,λa ha b hb e=>?_⟩;subst e;have:=(A0U.mp hb).2;rw[c] at ha;rw[A19 ha] at this
     cases this
   rw[A0S c];exact h.nd z hz
 unfold ovP at hy
 by_cases c:z=p.1
 . rw[A0W c] at hy;subst c;rcases A0R.mp hy with hy|hy
   . exact h.way _ hz y hy
   rcases A0B.mp (A0U.mp hy).1 with e|e
   . exact e ▸ .one hp
   exact .cons hp (h.way _ hm.2 _ e)
 rw[A0S c] at hy;exact h.way z hz y hy
theorem ap2 {ps:List (Str×Str)}{ov:Str->List Str}(h:∀ p∈ps,p.2∈ov p.1/\∀ y∈ov p.2,y∈ov p.1){x y:Str}(g:Way ps x y):y∈ov x:=by
 induction g with
 |one e=>exact(h _ e).1
 |cons e _ ih=>exact(h _ e).2 _ ih
theorem Z3 {ov:Str->List Str}{p:Str×Str}(h:To ov p=[]):p.2∈ov p.1/\∀ y∈ov p.2,y∈ov p.1:=by
 have key:∀ y∈p.2 :: ov p.2,y∈ov p.1:=λy hy=>by
  by_cases c:y∈ov p.1
  . exact c
  have:y∈To ov p:=A0U.mpr ⟨hy,by rw[A0X c];rfl⟩;rw[h] at this
  cases this
 exact⟨key _ (by simp),λy hy=>key y (by simp[hy])⟩
theorem ac9 (ov:Str->List Str)(x:Str):ovP ov x []=ov:=by
 funext z;unfold ovP
 split
 . rw[A1N]
 rfl
theorem Ovr.tab {K:W.Frag}{H:Hp}{r:Addr}{ns:List Str}{as:List Addr}{ps:List (Str×Str)}{ov:Str->List Str}(h:Ovr H r ns as ov)(o:OvOk ns ps ov)(c:∀ p∈ps,p.2∈ov p.1/\∀ y∈ov p.2,y∈ov p.1):TabL K H r ns as (Way ps):=
 ⟨h.len,h.top,λi z a hz ha=>⟨ov z,h.row i z a hz ha,o.nd z (A05 hz),λy=>⟨o.way z (A05 hz) y,ap2 c⟩⟩⟩
theorem W7 {α:Type}[DecidableEq α]{b:α->α->Bool}(irr:∀ x,b x x=false)(tr:∀ x y z,b x y=true->b y z=true->b x z=true):∀(n:Nat) (L:List α),L.length=n->L.Nodup->0<cnt b L
 |0,L,hl,_=>by have:=A12.mp hl;subst this;exact Nat.zero_lt_one
 |n+1,L,hl,hn=>by
   have hne:L≠[]:=by intro e;rw[e] at hl;cases hl
   rw[Ma hn hne]
   cases hf:frF b L with
   |nil=>exact absurd hf (ar3 irr tr hne)
   |cons x t=>
     have hx:x∈frF b L:=by rw[hf];simp
     have:=Cg hn (mem_frF.mp hx).1;have:=W7 irr tr n (Bg L x) ∅ (C2 hn x);rw[A0G,A1M];omega
theorem Jp:∀ {l:List Str},l.Pairwise (λa b=>ltCps b.cps.toList a.cps.toList=false)->sortedS l=true
 | [],_=>rfl
 | [x],_=>rfl
 |x :: y :: r,h=>by obtain⟨h1,h2⟩:=A18.mp h;have ih:=Jp h2;show(!ltCps y.cps.toList x.cps.toList&&risingS y r)=true;rw[h1 y (by simp)];exact ih
theorem M6:∀ {l:List Str},sortedS l=true->l.Pairwise (λa b=>ltCps b.cps.toList a.cps.toList=false)
 | [],_=>.nil
 |x :: r,h=>by refine A18.mpr ⟨λy hy=>?_,M6 (Iv h)⟩;rw[ltCps_eq,decide_eq_false_iff_not];exact Jl x r h y hy
theorem Ve (ns:List Str):∃ ms:List Str,ms.Perm ns/\sortedS ms=true:=by
 refine⟨ns.mergeSort λa b=>!ltCps b.cps.toList a.cps.toList,List.mergeSort_perm _ _,Jp ?_⟩;have:=List.pairwise_mergeSort (le:=λa b:Str=>!ltCps b.cps.toList a.cps.toList) (λa b c h1 h2=>?_) (λa b=>?_) ns
 . exact this.imp λh=>by simpa using h
 . simp only[ltCps_eq,Bool.not_eq_true',decide_eq_false_iff_not] at h1 h2 ⊢;exact A2S.mpr (List.le_trans (A2S.mp h1) (A2S.mp h2))
 simp only[ltCps_eq,Bool.or_eq_true,Bool.not_eq_true',decide_eq_false_iff_not];rcases List.le_total a.cps.toList b.cps.toList with h|h
 . exact .inl (A2S.mpr h)
 exact .inr (A2S.mpr h)
theorem Nb {ms:List Str}(h:sortedS ms=true)(p:Str->Bool):sortedS (ms.filter p)=true:=Jp (List.Pairwise.sublist A3Q (M6 h))
theorem Ql {ns ms:List Str}(hp:ms.Perm ns){q:Str->Bool}:Qh ns (ms.filter λx=>!q x)=ns.filter q:=by
 unfold Qh;apply A2A;intro x hx
 cases c:q x with
 |true=>
   have:x∉ms.filter λx=>!q x:=λh=>by
    have:=(A0U.mp h).2;rw[c] at this
    cases this
   rw[A0X this];rfl
 |false=>have:x∈ms.filter λx=>!q x:=A0U.mpr ⟨hp.mem_iff.mpr hx,by rw[c];rfl⟩;rw[A19 this];rfl
theorem Qt {ms out:List Str}(hs:sortedS ms=true)(hn:ms.Nodup){q:Str->Bool}{z:Str}(hz:z∈ms.filter q)(hp:out.Perm ((ms.filter λx=>!q x)++[z]))(ho:sortedS out=true):out=ms.filter λx=>!(q x && !decide (x=z)):=by
 refine Mf (hp.trans ?_) ho (Nb hs _);obtain⟨hz1,hz2⟩:=A0U.mp hz
 have hA:((ms.filter λx=>!q x)++[z]).Nodup:=by
  rw[A1Z];refine⟨hn.filter _,by simp,λa ha b hb e=>?_⟩;have:b=z:=by simpa using hb
  subst this;subst e;have:=(A0U.mp ha).2;rw[hz2] at this
  cases this
 refine(List.perm_ext_iff_of_nodup hA (hn.filter _)).mpr λx=>?_;rw[A0R,A0U,A0U,A17];constructor
 . rintro(⟨h1,h2⟩|rfl)
   . exact⟨h1,by cases c:q x<;>simp[c] at h2 ⊢⟩
   exact⟨hz1,by simp⟩
 rintro⟨h1,h2⟩
 by_cases e:x=z
 . exact .inr e
 exact .inl ⟨h1,by cases c:q x<;>simp[c,e] at h2 ⊢⟩
theorem Wv {l:Addr}{xs:List V}{H:Hp}{Q:VK}(h:H l=some (.lst xs))(k:∀ H',ExtBut l H H'->H' l=some (.lst xs.reverse)->Q .non H'):Tc (.ref l) [] H Q:=⟨l,xs,rfl,rfl,h,k _ ExtBut.upd A8⟩
theorem Half.ok4 {ns:List Str}{ps:List (Str×Str)}(h:Half ns ps):∀ z∈ns,PyData.strOk z=true:=λz hz=>(ae9 (h.names.2 z hz)).1
section
variable {α:Type}[DecidableEq α]
theorem a72 {f:α->Nat}:∀ {l:List α} {x:α},x∈l->f x<=(l.map f).sum
 | [],_,h=>by cases h
 |y :: ys,x,h=>by
   rw[A0G,A1M];rcases A0B.mp h with rfl|h
   . omega
   have:=a72 (f:=f) h;omega
theorem Qq {b:α->α->Bool}{L:List α}(hn:L.Nodup){x:α}(hx:x∈frF b L):cnt b (Bg L x)<=cnt b L:=by
 have hne:L≠[]:=λe=>by rw[e] at hx;cases hx
 rw[Ma hn hne];exact a72 (f:=λx=>cnt b (Bg L x)) hx
def Wn (b:α->α->Bool)(L:List α)(xs:List α):List (List α):=xs.flatMap λx=>(ext b (L.length-1) (Bg L x)).map (x :: ·)
theorem Sb (b:α->α->Bool){L:List α}(hne:L≠[]):Wn b L (frF b L)=ext b L.length L:=by
 cases L with
 |nil=>exact absurd rfl hne
 |cons y ys=>rfl
theorem X7 (b:α->α->Bool)(L xs:List α)(x:α):Wn b L (xs++[x])=Wn b L xs++(ext b (L.length-1) (Bg L x)).map (x :: ·):=by unfold Wn;rw[List.flatMap_append];simp
theorem Qa (b:α->α->Bool){L:List α}(hne:L≠[])(m:Nat):(Wn b L ((frF b L).take m)).length<=cnt b L:=by
 unfold cnt;rw[<- Sb b hne]
 have:Wn b L (frF b L)=Wn b L ((frF b L).take m)++Wn b L ((frF b L).drop m):=by unfold Wn;rw[<- List.flatMap_append,A3J]
 rw[this,A09];omega
end
section
variable {X:Cx}
end
def ItE (K:W.Frag)(a:Addr):It:=
 ⟨λi H=>∃ xs x,SqL K H a xs/\xs[i]? = some x,λi H v H'=>∃ t x,H t=none/\H'=upd H t (.tup [.int i,x])/\v = .ref t/\∀ xs,SqL K H a xs->xs[i]? = some x,λi H=>∃ xs,SqL K H a xs/\xs.length=i⟩
theorem Uk {P:Program}{w:World}{K:W.Frag}{elts:List Expr}{ek:Nat}{epos:Pos}(a it e:Addr)(hei:e≠it)(hai:a≠it)(hae:a≠e):Yh P w K (.Tuple elts ek epos) (ItE K a) [e,it] e (λi h=>(∃ old,IsEnum h e it i old)/\h.IsListIter it a i) where
 mem:=by simp
 obj:=λi h st b hb=>by
  obtain⟨⟨old,h1⟩,o,h2,h3,h4⟩:=st;rcases A0B.mp hb with rfl|hb
  . exact⟨_,h1,λv z=>by cases z⟩
  have q:b=it:=by simpa using hb
  subst q;exact⟨o,h2,λv z=>by rw[h4] at z;cases z⟩
 keep:=λi h h' st k=>by obtain⟨⟨old,h1⟩,h2⟩:=st;exact⟨⟨old,k e (by simp) _ h1⟩,h2.at λo q=>k it (by simp) o q⟩
 item:=by
  intro X hP hw hK hc i pins s σ H E I hf st hg;subst hP hw hK;obtain⟨xs,x,hq,hx⟩:=hg;obtain⟨its,rv,p,hz⟩:=I.list hq
  have hil:i<its.length:=by have:=(A02.mp hx).1;rw[<- rv.length];exact this
  have D:=Draws.list (prog:=X.prog) (w:=X.w) (A:=X.A.in1) (by simpa using I.ok.hd hc) it a hai its.toArray;obtain⟨⟨old,he⟩,hit⟩:=st;have hel:e<s.heap.objs.size:=A0A he;have hil':it<s.heap.objs.size:=let ⟨_,q,_⟩:=hit;A0A q;refine wpAny_pyNext_enum_itemD D he ⟨hit,(PlainL.isList p)⟩ (by simpa using hil) hei (by simp[hei,Ne.symm hae]) λv h1 tk hv ho hst hT hsz hk=>?_;obtain⟨u,hu,ru⟩:=rv.get hx
  have hvu:v=u:=by have hv':its.toArray[i]? = some v:=hv;rw[List.getElem?_toArray,hu] at hv';exact(A10 hv').symm
  subst hvu;refine⟨_,rfl,wpAny_letOwnedTupleGo_enum ho λh2 he2 hs2=>?_⟩;have hTn:H s.heap.objs.size=none:=I.hok.fresh (A07 _);have hT2:h2.get? s.heap.objs.size=some {cls:=.type "tuple",data:=.seq #[.int i tk,v]}:=(hs2.2 _ (A3E hel)).trans hT
  have I1:Inv X pins σ (upd H s.heap.objs.size (.tup [.int i,x])) {s with heap:=s.heap.push {cls:=.type "tuple",data:=.seq #[.int i tk,v]}}:=
   I.laid (t':=s.toks) (λb ob q=>Heap.get?_push_of_some _ q) (Nat.le_refl _) ⟨by simp[sizeLine_eq],[.int i tk,v],.cons ⟨tk,rfl⟩ (.cons ru .nil),_,Heap.get?_push_size _ rfl,rfl,⟨_,rfl⟩,rfl⟩
  have nT:∀ b∈[e,it],b≠s.heap.objs.size:=λb hb=>by
   rcases A0B.mp hb with rfl|hb
   . exact A0P hel
   have q:b=it:=by simpa using hb
   subst q;exact A0P hil'
  have I2:Inv X pins σ (upd H s.heap.objs.size (.tup [.int i,x])) {s with heap:=h2,toks:=tk+1}:=Inv.turnedL (s:={s with heap:=s.heap.push {cls:=.type "tuple",data:=.seq #[.int i tk,v]}}) (ch:=[e,it]) I1 (λb ob hb q=>?_) (λb hb=>?_)
  . refine⟨.ref s.heap.objs.size,_,I2,rfl,⟨_,x,hTn,rfl,rfl,λys hy=>by rw[I.list_inj hy hq];exact hx⟩,⟨⟨_,by simpa using he2⟩,hst.1.at λo q=>(hs2.2 it (Ne.symm hei)).trans q⟩,λb hb=>?_⟩;rw[Al (nT b hb)];exact(hf b hb).1
  . have hbe:b≠e:=λz=>hb (by simp[z]);have hbi:b≠it:=λz=>hb (by simp[z]);rcases Heap.get?_push_cases q with ⟨rfl,rfl⟩|q
    . exact hT2
    exact(hs2.2 b hbe).trans (hk b ob hbe hbi q)
  obtain⟨f0,f1,f2,f3,f4,f5⟩:=hf b hb;exact⟨by rw[Al (nT b hb)];exact f0,f1,f2,f3,f4,f5⟩
 done:=by
  intro X hP hw hK hc i pins s σ H E I hf st hg;subst hP hw hK;obtain⟨xs,hq,hx⟩:=hg;obtain⟨its,rv,p,hz⟩:=I.list hq;obtain⟨⟨old,he⟩,hit⟩:=st;have hlen:its.toArray.size=i:=by rw[A0T,<- rv.length];exact hx
  have D:=Draws.list (prog:=X.prog) (w:=X.w) (A:=X.A.in1) (by simpa using I.ok.hd hc) it a hai its.toArray;rw[hlen] at D;refine wpAny_pyNext_enum_endD D he ⟨hit,(PlainL.isList p)⟩ λh' hk=>⟨rfl,I.turnedL (t':=s.toks) (ch:=[e,it]) (λb o hb q=>hk b o (λz=>hb (by simp[z])) q) hf⟩
 self:=by intro A i s Q E st hQ;obtain⟨⟨old,he⟩,_⟩:=st;exact wpAny_pyIter_enum he hQ
section
variable {X:Cx}{K:W.Frag}
def Wm (K:W.Frag)(vs:List V)(H:Hp)(R:It->Hp->Prop):Prop:=∃ a xs,vs=[.ref a]/\SqL K H a xs/\R (ItE K a) H
def a03 (K:W.Frag)(ta:TA):TI:=fun σ H R=>ta σ H λvs H1=>Wm K vs H1 R
theorem T6 {e:Expr}{ta:TA}{p pos:Pos}{elts:List Expr}{ek:Nat}{epos:Pos}(hg:Gl X "enumerate")(hm:X.mg "enumerate" = none)(ha:PA X [e] ta)(hK:X.K=K:=by ac_nf)(hs:starEach [e] X.env=[(false,eval e X.env)]:=by ac_nf) :
  PI X (.Tuple elts ek epos) (.Call (.Name "enumerate" p) [e] [] pos) (a03 K ta):=by
 subst hK;intro pins s σ H R I h;refine Call_ (Mp I hg hm Lv (A2P (thn (ha pos pins s σ H _ I h) λus s1 ⟨vs,H1,I1,r1,q1⟩=>?_) hs rfl));obtain⟨a,xs,rfl,hq,q⟩:=q1;obtain⟨u,rfl,ru⟩:=Vals.one r1
 cases ru;obtain⟨its,rv,ht,hz⟩:=I1.list hq;have hal:a<s1.heap.objs.size:=let ⟨_,q,_⟩:=(PlainL.isList ht);A0A q;refine call_enumerate_list (PlainL.isList ht) λh' he hit _ hk=>?_;refine wpAny_pyIter_enum he ?_;refine⟨s1.heap.objs.size+1,[s1.heap.objs.size+1,s1.heap.objs.size],_,_,H1,rfl,I1.kept (t':=s1.toks) hk,Uk a s1.heap.objs.size (s1.heap.objs.size+1) (Nat.succ_ne_self _) (A0P hal) (A0P (A3D hal)),⟨⟨_,he⟩,hit⟩,λb hb=>?_,q⟩;rcases A0B.mp hb with rfl|hb
 . exact I1.fpOk (A44 _) (I1.hok.fresh (A44 _))
 have e:b=s1.heap.objs.size:=by simpa using hb
 subst e;exact I1.fpOk (A07 _) (I1.hok.fresh (A07 _))
end
section
variable {K:W.Frag}{σ:St}{H:Hp}
theorem i_ienumL {ts:TA}{R:It->Hp->Prop}(k:ts σ H λvs H1=>Wm K vs H1 R):a03 K ts σ H R:=k
theorem Pf {xs:List V}{a:Addr}{n m:Nat}{tb:TS}{D:Ends}(h:SqL K H a xs)(Pv:Nat->St->Hp->Prop)(h0:Pv 0 σ H)(hG:∀ i σ' H',Pv i σ' H'->SqL K H' a xs)
  (hs:∀ i x σ' H' H2,xs[i]? = some x->Pv i σ' H'->Same H' H2->tb {D with nx:=Pv (i+1),ct:=Pv (i+1),bk:=D.nx} ((σ'.set n (some (.int i))).set m (some x)) H2) (hd:∀ σ' H',Pv xs.length σ' H'->D.nx σ' H') :
  Wm K [.ref a] H λJ H1=>ah4 (at7 K 2 (W4 (M3 n) (W4 (M3 m) aw6))) tb D σ J H1:=by
 refine⟨a,xs,rfl,h,λi k σ' H'=>k=xs.length-i/\i<=xs.length/\Pv i σ' H',⟨xs.length,by simp,Nat.zero_le _,h0⟩,?_⟩;rintro i k σ' H' ⟨rfl,hi,p⟩;have g:=hG i σ' H' p
 by_cases hlt:i<xs.length
 . refine .inr ⟨⟨xs,xs[i],g,A06 hlt⟩,Pv (i+1),fun σ2 H2 p2=>⟨xs.length-(i+1),by omega,rfl,hlt,p2⟩,λv H2 y=>?_⟩;obtain⟨t,x,ht,rfl,rfl,hx⟩:=y;exact⟨t,_,rfl,SqT.of A8,rfl,.int i,[x],rfl,x,[],rfl,rfl,hs i x σ' H' _ (hx xs g) p (Same.upd ht)⟩
 have e:i=xs.length:=by omega
 subst e;exact .inl ⟨⟨xs,g,rfl⟩,hd σ' H' p⟩
end
end L2
namespace L2
open PySem PySem.Spec PyProof.Rows
open PySem PySem.W PyProof.Rows
section
variable {n:Nat}{r:Nat->Nat}
end
section
variable {prog:Program}{w:World}{A:Around}{E:Value->Shared->Prop}{z:Shared}
end
section
variable {X:Cx}{K:W.Frag}
end
end L2
namespace L2
open PySem PySem.Spec PyProof.Rows
theorem W8 (xs ys:List Str):PyData.eqvAll (xs.map PyData.str) (ys.map PyData.str)=decide (xs=ys):=by
 induction xs generalizing ys with
 |nil=>cases ys<;>simp[PyData.eqvAll]
 |cons x xs ih=>
   cases ys with
   |nil=>simp[PyData.eqvAll]
   |cons y ys=>
     simp only[List.map_cons,PyData.eqvAll,ih,PyData.eqv]
     by_cases c:x=y
     . subst c;simp
     simp[c]
section
variable {κ:Type}[DecidableEq κ]{P:Program}{w:World}{kd:KeyKind P w κ}{A:Around}{E:Value->Shared->Prop}{z:Shared}
end
section
variable {X:Cx}{K:W.Frag}
end
section
variable {P:Program}{w:World}{A:Around}{E:Value->Shared->Prop}{z:Shared}
end
section
variable {P:Program}{w:World}{A:Around}{E:Value->Shared->Prop}{z:Shared}{c TI TO i1 i2 D:Addr}{fp1 fp2:List Addr}{n:Nat}{P1 P2:Nat->Value->Prop}{S1 S2:Nat->Heap->Prop}
end
section
variable {P:Program}{w:World}{κ:Type}[DecidableEq κ]{kd:KeyKind P w κ}{A:Around}{E:Value->Shared->Prop}{c TI TO i1 i2 D:Addr}{fp1 fp2:List Addr}{n:Nat}{P1 P2:Nat->Value->Prop}{S1 S2:Nat->Heap->Prop}
end
section
variable {P:Program}{w:World}{A:Around}{E:Value->Shared->Prop}{z:Shared}
end
section
variable {X:Cx}{K:W.Frag}
end
section
variable {K:W.Frag}{H:Hp}{Q:VK}
theorem a39 (xs ys:List Str):PyData.eqv (nmD xs) (nmD ys)=decide (xs=ys):=by simp only[nmD,PyData.eqv,W8]
end
section
variable {ns ns':List Str}{ps ps' bs:List (Str×Str)}
end
theorem Vb {xs:List V}{i j:Int}(h0:0<=i)(h1:i<=j)(h2:j<=xs.length):Kl xs (some i) (some j)=(xs.drop i.toNat).take (j.toNat-i.toNat):=by
 have e:HT.sIx xs.length 0 (some i)=i.toNat:=by unfold HT.sIx;simp[show ¬ i<0 by omega];omega
 have e2:HT.sIx xs.length xs.length (some j)=j.toNat:=by unfold HT.sIx;simp[show ¬ j<0 by omega];omega
 unfold Kl;rw[e,e2]
section
variable {ns:List Str}{ps:List (Str×Str)}
end
section
variable {P:Program}{w:World}{A:Around}{E:Value->Shared->Prop}{z:Shared}
end
section
variable {X:Cx}{K:W.Frag}
end
section
variable {α:Type}[DecidableEq α]{b:α->α->Bool}{L:List α}
end
def as0:List V->Hp->VK->Prop:=λxs H Q=>∃ i:Int,xs=[.int i]/\i.natAbs.log2<1920/\Q (.str (toString i)) H
theorem Ux {X:Cx}:CallR X (.builtin "repr") as0:=by intro pins s σ H xs us Q I r h;obtain⟨i,rfl,hz,q⟩:=h;obtain ⟨u,rfl,t,rfl⟩:=J7 r;exact PySem.P.repr_of_int hz ⟨.str _,H,I.tok _,⟨_,rfl⟩,q⟩
def xB:List Value:=[.type "ValueError",.type "Exception",.type "BaseException",.type "object"]
def Yi (K:W.Frag)(C:Addr):Bool:=match K.lookup C with
 |some ⟨.type "type",_,.cls cd,sl⟩=>(match cd.mro,sl.toList with
   |.ref D :: bm,[_,_,_,_,some (.builtin n),_]=>D==C&&n == "ValueError.__new__" && !cd.hasDel&&cd.hasDict&&W.tailIn K xB bm
   |_,_=>false)
 |_=>false
theorem K3 {K:W.Frag}{C:Addr}(q:Yi K C=true):∃(nm qn:Str) (N:Addr) (bs bm:List Value) (sn:List Str) (sub:List Value) (ab:Bool) (col:Option Bool) (dd:Option Addr) (k0 k1 k2 k3 k5:Option Value),
  K.lookup C=some (excClassObj nm qn C N bs bm true sn sub ab col dd k0 k1 k2 k3 k5 "ValueError.__new__")/\W.tailIn K xB bm=true:=by
 unfold Yi at q
 split at q
 . rename_i dd cd sl ho
   split at q
   . rename_i D bm k0 k1 k2 k3 n k5 hm hs;simp only[Bool.and_eq_true,beq_iff_eq,Bool.not_eq_true'] at q;obtain⟨⟨⟨⟨e1,e2⟩,hdel⟩,hdc⟩,ht⟩:=q;subst e1 e2;obtain⟨nm,bs,mro,ns,qn,hd,sn,sub,ab,col,del⟩:=cd;dsimp only at hm hdel hdc;subst hm hdel hdc
     have e3:sl = #[k0,k1,k2,k3,some (.builtin "ValueError.__new__"),k5]:=by obtain⟨l⟩:=sl;simp only at hs;rw[hs]
     subst e3;exact⟨nm,qn,ns,bs,bm,sn,sub,ab,col,dd,k0,k1,k2,k3,k5,ho,ht⟩
   cases q
 cases q
theorem Xm (self:Value){h:Heap}{l:List Value}(T:OwnTail h xB l):refuseLoop self "__setattr__" l=pure ():=by
 induction T with
 |base=>exact PySem.F.store_ValueError.passes self
 |own _ _ _ _ ih=>rw[refuseLoop_ref];exact ih
theorem a36 {h:Heap}{l:List Value}(T:OwnTail h xB l):l.contains (.type "BaseException")=true:=T.hasType (by decide +kernel)
abbrev ah3 (rest:List Value):Obj:={cls:=.type "tuple",data:=.seq rest.toArray}
abbrev a00 (C t:Addr):Obj:={cls:=.ref C,data:=.fields #[.ref t,.none,.none,.none,.bool false,.none]}
section
variable {prog:Program}{w:World}{A:Around}{E:Value->Shared->Prop}{h:Heap}{g:Array GenState}{d:Drawn}{t:Nat}{os:OsState}{K:W.Frag}{C fI:Addr}{rest:List Value}
theorem Yy {Q:Fin->Shared->Prop}(X:K.In h)(q:Yi K C=true)(hi:W.findIn K (.ref C) "__init__" = some (some (.ref fI)))(ht:W.typeIn K (.ref fI)=some (.type "function"))(hr:rest.length<=sizeLine)
  (hq:wpAny (model prog w) A (call (.ref fI) (.ref (h.objs.size+1) :: rest)) (λr s'=>r = .none/\Q (.done (.ret (.ref (h.objs.size+1)))) s') E ⟨(h.push (ah3 rest)).push (a00 C h.objs.size),g,d,t,os⟩) :
  wpAny (model prog w) A (Builtin.«type.__call__» ⟨.ref C :: rest,[]⟩) Q E ⟨h,g,d,t,os⟩:=by
 obtain⟨nm,qn,N,bs,bm,sn,sub,ab,col,dd,k0,k1,k2,k3,k5,hl,htl⟩:=K3 q;have F:=PySem.F.excBase_ValueError;have T:OwnTail h xB bm:=A38 X htl;have hC:=X _ _ hl
 repeat (first | (with_reducible refine A2B hC ?_) | (with_reducible refine wpAny_madeBy_exc hC ?_) | wp_step)
 refine codeAny_call_builtin_code (Code.quiet_builtin _ F.quiet) (wpAny_check_new_subT F T hC (codeAny_exc_new_subT F T hC ?_ hr));show wpAny _ _ _ _ _ _;have X1:K.In ((h.push (ah3 rest)).push (a00 C h.objs.size)):=X.keeps λb o e=>A03 _ (A03 _ e);have hC1:=X1 _ _ hl;have hg1:((h.push (ah3 rest)).push (a00 C h.objs.size)).get? (h.objs.size+1)=some (a00 C h.objs.size):=by heap_get
 have hcC:(Value.ref C :: bm).contains (.ref C)=true:=by simp
 unfold isInstance
 repeat (first | (with_reducible refine A2B hg1 ?_) | (with_reducible refine A51 hC1 ?_;rw[hcC]) | wp_step)
 show wpAny _ _ (typeLookup (.ref C) _) _ _ _;refine(A2X (M:=model prog w) X1 hi).at ?_;refine A1H (A00 ((W.bind_fn X1 _ ht).at ?_));refine A00 (A1X hq (λr s' hr'=>?_) λ_ _ x=>x);obtain⟨rfl,hQ⟩:=hr'
 wp_walk
 exact hQ
theorem ad5 {Q:Value->Shared->Prop}(X:K.In h)(q:Yi K C=true)(hi:W.findIn K (.ref C) "__init__" = some (some (.ref fI)))(ht:W.typeIn K (.ref fI)=some (.type "function"))(hr:rest.length<=sizeLine)
  (hq:wpAny (model prog w) (A.under (.builtin "type.__call__" ⟨.ref C :: rest,[]⟩)) (call (.ref fI) (.ref (h.objs.size+1) :: rest)) (λr s'=>r = .none/\Q (.ref (h.objs.size+1)) s') E ⟨(h.push (ah3 rest)).push (a00 C h.objs.size),g,d,t,os⟩) :
  wpAny (model prog w) A (call (.ref C) rest) Q E ⟨h,g,d,t,os⟩:=by
 obtain⟨nm,qn,N,bs,bm,sn,sub,ab,col,dd,k0,k1,k2,k3,k5,hl,htl⟩:=K3 q;have hC:=X _ _ hl;have f1:=tc_lookup;have f2:=tc_bind (.ref C);have tt:(⟨h,g,d,t,os⟩:Shared).TypeIs (.ref C) "type":=⟨_,hC,rfl⟩;refine A4R (codeAny_of_tree ?_);show wpAny _ _ (callAny (.ref C) _) _ _ _
 repeat (any_goals (first | assumption | (with_reducible refine A2B hC ?_) | wp_step))
 refine⟨rfl,codeAny_call_builtin_at (Code.quiet_builtin _ (by decide +kernel)) entry_typeCall (wpAny_check_type_call_sub hC (Yy X q hi ht hr ?_))⟩;exact hq
end
end L2
namespace L2
open PySem PySem.Spec PyProof.Rows
open PySem PySem.Spec PyProof.Rows Builtin Builtin.ObjectAttr
structure XC (K:W.Frag)(C:Addr):Prop where
 ex:Yi K C=true
 sa:W.findIn K (.ref C) "__setattr__" = some (some (.builtin "object.__setattr__"))
 ga:W.findIn K (.ref C) "__getattribute__" = some (some (.builtin "BaseException.__getattribute__"))
 gt:W.findIn K (.ref C) "__getattr__" = some none
 cl:W.findIn K (.ref C) "__class__" = some (some (.builtin "object.__class__"))
 cg:W.specialIn K (.builtin "object.__class__") "__get__" = some (some (.builtin "getset_descriptor.__get__"))
 ct:W.takesIn K (.builtin "object.__class__")=some true
section
variable {prog:Program}{w:World}{A:Around}{E:Value->Shared->Prop}{s:Shared}{K:W.Frag}{C x:Addr}{name:Str}{v:Value}
theorem XC.cls (c:XC K C):∃ cd,W.clsIn K C=some cd/\cd.hasDict=true/\∃ bm,cd.mro = .ref C :: bm/\W.tailIn K xB bm=true:=by obtain⟨nm,qn,N,bs,bm,sn,sub,ab,col,dd,k0,k1,k2,k3,k5,hl,htl⟩:=K3 c.ex;exact⟨_,by unfold W.clsIn;rw[hl],rfl,bm,rfl,htl⟩
theorem XC.mro (c:XC K C){h:Heap}(X:K.In h){T:String}(hT:xB.contains (.type T)=true):W.mroIn K C (.type T)=some true:=by obtain⟨cd,hc,_,bm,hm,ht⟩:=c.cls;unfold W.mroIn;rw[hc,Option.bind_some,hm,if_neg (by simp)];rw[A39,(A38 X ht).hasType hT,Bool.or_true]
theorem a50 {R:Result->Shared->Prop}{ox:Obj}{od:Option Obj}{tk:Tok}(c:XC K C)(X:K.In s.heap)(I:W.InstAt s.heap x ox C od)(ht:W.findIn K (.ref C) name=some none)
  (h:∀ b,wpAny (model prog w) A.in1 (storeInOwnDict (.ref x) (.ref C) (.str name tk) name v b)
   (λfin s'=>match fin with | .done f=>R (.ok f) s' | .again c'=>c'.quiet=true/\codeAny (model prog w) A c' R s') (λe s'=>R (.error e) s') s) :
  codeAny (model prog w) A (.call (.builtin "object.__setattr__") ⟨[.ref x,.str name tk,v],[]⟩) R s:=by
 have SF:=PySem.F.store_object;obtain⟨cd,hc,hd,bm,hmr,htl⟩:=c.cls;have T:=A38 X htl;have sub:W.Looks (model prog w) s.heap (isInstance (.ref x) (.type "object")) true:=I.type.andThen (A52 X (c.mro X (by decide +kernel)));refine codeAny_call_builtin SF.slot.plain SF.entry (@PySem.W.check_slot (model prog w) _ _ s "object.__setattr__" "object" "__setattr__" (.ref x) [.str name tk,v] [] _ SF.kind SF.split sub (SF.args (.ref x) (.str name tk) v) ?_);have hm:W.Looks (model prog w) s.heap (mroOf (.ref C)) cd.mro:=(A3P X hc).andThen .now;have l3:W.Looks (model prog w) s.heap (storeTaker? none) none:=.now;rw[W.osa_eq,refuse_eq];refine A00 (A00 (I.type.here (A00 (hm.here ?_))));rw[hmr,refuseLoop_ref,Xm _ T];refine A04 (A00 (I.type.here (A00 ((A2X X ht).here (A00 (l3.here ?_))))));exact h _
theorem ae8 {Q:Unit->Shared->Prop}{vs:Array Value}{sl:Array (Option Value)}(c:XC K C)(X:K.In s.heap)(hx:s.heap.get? x=some ⟨.ref C,none,.fields vs,sl⟩)(ht:W.findIn K (.ref C) name=some none)
  (hq:∀ h',h'.Ns1 s.heap.objs.size (λy=>if y=name then some v else none)->h'.get? x=some ⟨.ref C,some s.heap.objs.size,.fields vs,sl⟩->(∀ b o,b≠x->s.heap.get? b=some o->h'.get? b=some o)->Q () {s with heap:=h',toks:=s.toks+2}) :
  wpAny (model prog w) A (setAttr (.ref x) name v) Q E s:=by
 have J:W.InstAt s.heap x ⟨.ref C,none,.fields vs,sl⟩ C none:=⟨hx,rfl,rfl,A23⟩;obtain⟨cd,hc,hd,bm,hmr,htl⟩:=c.cls;refine W.set_plain X J c.sa (a50 (s:={s with toks:=s.toks+1}) c X J ht λb=>?_)
 refine A00 (A04 (A00 (A00 (A4V hx (A00 (A53 (s:={s with toks:=s.toks+1}) (A3P X hc) ?_))))))
 rw[hd];have hx1:(s.heap.push {cls:=.type "dict",data:=.dict #[]}).get? x=some ⟨.ref C,none,.fields vs,sl⟩:=A03 _ hx;have hxs:x≠s.heap.objs.size:=A0P (A0A hx);refine A00 (wpAny_alloc' ?_);refine A00 (wpAny_update' hx1 ?_);refine A04 ?_
 have hgd:((s.heap.push {cls:=.type "dict",data:=.dict #[]}).update x λo=>{o with dict:=some s.heap.objs.size}).get? s.heap.objs.size=some {cls:=.type "dict",data:=.dict #[]}:=
  (Heap.get?_update_ne _ _ _ _ hxs.symm).trans (Heap.get?_push_at rfl rfl)
 have hnd:((s.heap.push {cls:=.type "dict",data:=.dict #[]}).update x λo=>{o with dict:=some s.heap.objs.size}).Ns s.heap.objs.size (λ_=>none):=
  ⟨_,#[],_,hgd,rfl,λe he=>absurd he (by simp),λ_=>rfl⟩
 show wpAny _ _ (storeInDict s.heap.objs.size (.str name _) name v) _ _ _;unfold storeInDict newKeyGuard;refine A00 (A04 (A00 (wpAny_nsSet1 (Heap.Ns1.of_empty hnd) λh' hn' hs=>?_)));obtain⟨oD,esD,epD,hoD,hdD,hcD⟩:=hn'.count (Within.cons name v Within.nil);refine A00 (wpAny_lookBehind hoD (by rw[hdD];exact pastItsLine_dict (A0Q hcD (by rw[A0L,A35,A14];omega))) ?_);refine A04 (hq h' hn' ((hs.2 x hxs).trans (A2T _ hx1 rfl)) λb o hb hbo=>?_);exact(hs.2 b (A0P (A0A hbo))).trans ((Heap.get?_update_ne _ _ _ _ hb).trans (A03 _ hbo))
theorem ac0 {Q:Unit->Shared->Prop}{dx:Addr}{mA:Str->Option Value}{ns:List Str}{vs:Array Value}{sl:Array (Option Value)}(c:XC K C)(X:K.In s.heap)(hx:s.heap.get? x=some ⟨.ref C,some dx,.fields vs,sl⟩)(hn:s.heap.Ns1 dx mA)
  (hw:Within mA ns) (hz:ns.length<=sizeLine) (ht:W.findIn K (.ref C) name=some none)
  (hq:∀ h',h'.Ns1 dx (λy=>if y=name then some v else mA y)->Heap.SameBut dx s.heap h'->Q () {s with heap:=h',toks:=s.toks+2}) :
  wpAny (model prog w) A (setAttr (.ref x) name v) Q E s:=by
 obtain⟨od,_,_,hod,_⟩:=id hn;have J:W.InstAt s.heap x ⟨.ref C,some dx,.fields vs,sl⟩ C (some od):=⟨hx,rfl,rfl,hod⟩;obtain⟨cd,hc,hd,bm,hmr,htl⟩:=c.cls;refine W.set_plain X J c.sa (a50 (s:={s with toks:=s.toks+1}) c X J ht λb=>?_)
 refine A00 (A04 (A00 (A00 (A4V hx (A00 (A53 (s:={s with toks:=s.toks+1}) (A3P X hc) ?_))))))
 rw[hd];refine A04 (a:=some dx) (A00 (A04 (A00 ?_)));refine wpAny_nsSet1 (s:={s with toks:=s.toks+1}) hn λh' hn2 hs2=>?_
 obtain⟨oD,esD,epD,hoD,hdD,hcD⟩:=hn2.count (Within.cons name v hw);refine A00 (wpAny_lookBehind hoD (by rw[hdD];exact pastItsLine_dict (A0Q hcD (by rw[A0L];omega))) ?_);exact A04 (hq _ hn2 hs2)
theorem Z7 {M:Model}{ox:Obj}{od:Option Obj}{nameV:Value}{Q:Unit->Shared->Prop}(c:XC K C)(X:K.In s.heap)(I:W.InstAt s.heap x ox C od)(hq:Q () s) :
  wpAny M A (checkBuiltinCall "BaseException.__getattribute__" ⟨[.ref x,nameV],[]⟩) Q E s:=by
 have sub:W.Looks M s.heap (isInstance (.ref x) (.type "BaseException")) true:=I.type.andThen (A52 X (c.mro X (by decide +kernel)));exact @PySem.W.check_slot M _ _ s "BaseException.__getattribute__" "BaseException" "__getattribute__" (.ref x) [nameV] [] _ (by decide +kernel) (by decide +kernel) sub (PySem.F.args_bexc_ga (.ref x) nameV) hq
theorem ak3 {fill expr:Bool}{tk:Tok}{Q:Value->Shared->Prop}{ox:Obj}{od:Option Obj}(c:XC K C)(X:K.In s.heap)(I:W.InstAt s.heap x ox C od)
  (h:wpAny (model prog w) A.in1 (Builtin.«object.__getattribute__» ⟨[.ref x,.str name tk],[]⟩)
   (λfin s'=>match fin with | .done (.ret v)=>wpAny (model prog w) A (handedOut v) Q E s' | _=>False) (λ_ _=>False) s):wpAny (model prog w) A (getAttrBy (.ref x) (.str name tk) fill expr) Q E s:=by
 obtain⟨hh,g,d,t,os⟩:=s;have l0:=I.type (M:=model prog w);have l1:=A2X (M:=model prog w) X c.ga;have l2:=A2X (M:=model prog w) X c.gt;have f3:=PySem.F.excAttr_ValueError.ga.bind (.ref x);have e2:(Value.builtin "BaseException.__getattribute__" == Value.builtin "object.__getattribute__")=false:=by decide +kernel
 unfold getAttrBy;refine A1H (A00 (l0.at (A00 (l1.at ?_))));show wpAny _ _ (if(onTheHeap (Value.ref C)&&Value.builtin "BaseException.__getattribute__" == Value.builtin "object.__getattribute__")=true then _ else _) _ _ _
 rw[e2,Bool.and_false,A0S nofun];unfold getAttrByItsOwn hookBefore;rw[A0W (show onTheHeap (Value.ref C)=true from rfl)];refine A00 (l2.at (A00 (A59 (A1H ?_))));unfold callGetattribute;rw[A0S (by cases expr<;>decide)]
 unfold boundAndCalled;rw[f3];refine A00 (A04 (A4R (codeAny_call_builtin PySem.F.excAttr_ValueError.ga.plain PySem.F.entry_bexc_ga (Z7 (s:=⟨hh,g,d,t,os⟩) c X I ?_))));refine A1X h (λfin s' z=>?_) λ_ _ z=>z.elim;rcases fin with (_ | _ | _ | _) | _<;>first | exact z | exact z.elim
theorem ap4 {expr:Bool}{Q:Value->Shared->Prop}{ox od:Obj}(c:XC K C)(X:K.In s.heap)(I:W.InstAt s.heap x ox C (some od))(ht:W.findIn K (.ref C) name=some none)(hl:W.lookIn name od=some (some v))
  (hv:W.handedIn v=true) (h:Q v {s with toks:=s.toks+1}):wpAny (model prog w) A (getAttr (.ref x) name expr) Q E s:=by
 obtain⟨hh,g,d,t,os⟩:=s;obtain⟨cd,hc,hd,bm,hmr,htl⟩:=c.cls;have l0:=I.type (M:=model prog w)
 have hf:W.findObj K C (some od) name=some (.value v):=by unfold W.findObj W.ownOf;simp only[hc,ht,hd,hl,Option.bind_some,if_true]
 have l3:=W.looks_find (M:=model prog w) X I hf;unfold getAttr;refine A00 (wpAny_mkText (ak3 (s:=⟨hh,g,d,t+1,os⟩) c X I ?_));refine A00 (A04 (A00 (A04 (A00 (l0.at (A00 (l3.at ?_)))))));refine A04 ?_;show wpAny _ _ (handedOut v) _ _ _;rw[W.handedOut_of hv];exact A04 h
theorem Z5 {Q:Option Value->Shared->Prop}{ox:Obj}{od:Option Obj}(c:XC K C)(X:K.In s.heap)(I:W.InstAt s.heap x ox C od)(h:Q (some (.ref C)) {s with toks:=s.toks+1}) :
  wpAny (model prog w) A (getAttr? (.ref x) "__class__") Q E s:=by
 obtain⟨hh,g,d,t,os⟩:=s;obtain⟨cd,hc,hd,bm,hmr,htl⟩:=c.cls;have l0:=I.type (M:=model prog w)
 have hf:W.findObj K C od "__class__" = some (.bind (.builtin "getset_descriptor.__get__") (.builtin "object.__class__")):=by unfold W.findObj;simp only[hc,c.cl,c.cg,c.ct,Option.bind_some]
 have l3:=W.looks_find (M:=model prog w) X I hf;unfold getAttr? getAttrBy?;refine A00 (wpAny_mkText (A00 (A59 ?_)));refine ak3 (s:=⟨hh,g,d,t+1,os⟩) c X I ?_;refine A00 (A04 (A00 (A04 (A00 (l0.at (A00 (l3.at ?_)))))));show wpAny _ _ (holding [Value.builtin "object.__class__"] (call (.builtin "getset_descriptor.__get__") [.builtin "object.__class__",.ref x,.ref C]) >>= ret) _ _ _;refine A00 (A1H (A4R (W.class_get (s:=⟨hh,g,d,t+1,os⟩) (ox:=ox) (od:=od) X I (c.mro X (by decide +kernel)) ?_)));refine A04 ?_;show wpAny _ _ (handedOut (.ref C)) _ _ _;rw[W.handedOut_of rfl];exact A04 (A04 h)
theorem Ye {od:Option Obj}{ox:Obj}(c:XC K C):W.KitX K (.ref x) (.ref C) (λh=>W.InstAt h x ox C od) where
 ty:=λ_ _ _ I=>I.type
 it:=λ_ _ X _=>by obtain⟨nm,qn,N,bs,bm,sn,sub,ab,col,dd,k0,k1,k2,k3,k5,hl,htl⟩:=K3 c.ex;intro A' Q' E' s' k q;unfold isType loadHead;exact A00 (A4V (k _ _ (X _ _ hl)) (A04 q))
 ne:=λh tp dd its n sl X htp=>by obtain⟨nm,qn,N,bs,bm,sn,sub,ab,col,dd,k0,k1,k2,k3,k5,hl,htl⟩:=K3 c.ex;refine Bool.eq_false_iff.mpr λq=>?_;have e:C=tp:=A5A (A22.mp q);subst e;have z:=congrArg Obj.cls (A10 ((X _ _ hl).symm.trans htp));exact absurd (Value.type.inj z) nofun
 ca:=λX I k=>Z5 c X I k
end
end L2
namespace L2
open PySem PySem.Spec PyProof.Rows
def exG (n:Bool)(a C:Addr)(od:Option Addr):HO:=.ext λh=>∃ vs sl,h.get? a=some ⟨.ref C,od,.fields vs,sl⟩/\(n=true->vs[1]? = some .none)
abbrev exO (a C:Addr)(od:Option Addr):HO:=exG true a C od
def xdO (dx:Addr)(fs:List (Str×V)):HO:=.ext λh=>∃ mA,h.Ns1 dx mA/\∀ f,RelO (fs.lookup f) (mA f)
section
variable {P:Program}{w:World}{H:Hp}{h:Heap}{a C dx:Addr}{od:Option Addr}{fs:List (Str×V)}
theorem exG_ok {n:Bool}:ObjOk P w H h a (exG n a C od)↔∃ vs sl,h.get? a=some ⟨.ref C,od,.fields vs,sl⟩/\(n=true->vs[1]? = some .none):=
 ⟨λx=>x.1,λ⟨vs,sl,e,z⟩=>⟨⟨vs,sl,e,z⟩,⟨_,e⟩,λh1 h2 ⟨vs,sl,e,z⟩ k=>⟨vs,sl,k _ e,z⟩⟩⟩
theorem exO_ok:ObjOk P w H h a (exO a C od)↔∃ vs sl,h.get? a=some ⟨.ref C,od,.fields vs,sl⟩/\(true=true->vs[1]? = some .none):=exG_ok
theorem xdO_ok:ObjOk P w H h dx (xdO dx fs)↔∃ mA,h.Ns1 dx mA/\∀ f,RelO (fs.lookup f) (mA f):=
 ⟨λx=>x.1,λ⟨mA,n,r⟩=>⟨⟨mA,n,r⟩,(let ⟨o,_,_,e,_⟩:=n;⟨o,e⟩),λh1 h2 ⟨mA,n,r⟩ k=>⟨mA,(let ⟨o,es,ep,e,z⟩:=n;⟨o,es,ep,k _ e,z⟩),r⟩⟩⟩
end
def Kf (K:W.Frag)(C B:Addr):Bool:=(W.clsIn K C).any λcd=>cd.mro == .ref C :: .ref B :: xB
section
variable {K:W.Frag}{C B D:Addr}
theorem XC.ty (c:XC K C):W.typeIn K (.ref C)=some (.type "type"):=by obtain⟨nm,qn,N,bs,bm,sn,sub,ab,col,dd,k0,k1,k2,k3,k5,hl,htl⟩:=K3 c.ex;show Option.map (λx=>x.cls) (List.lookup C K)=_;rw[hl];rfl
theorem Nd (c:XC K C)(hm:Kf K C B=true)(d:XC K D):W.kitOne K (.ref C) (.ref D)=some (C==D||D==B):=by
 unfold W.kitOne
 by_cases e:C=D
 . subst e;simp
 have e1:(Value.ref C==Value.ref D)=false:=A0I.mpr λq=>e (A5A q);have e2:(C==D)=false:=A0I.mpr e;rw[A0S (by rw[e1];decide),e2,A34];unfold W.kitCls;obtain⟨cd,hc,_⟩:=d.cls;dsimp only;rw[A0W (by rw[hc,d.ty];rfl)];show W.mroIn K C (.ref D)=_;obtain⟨cd,hc,hx⟩:=A48 hm;unfold W.mroIn;rw[hc,Option.bind_some,beq_iff_eq.mp hx,if_neg (by simp)];rw[A39,A39,show xB.contains (Value.ref D)=false from rfl,Bool.or_false];congr 1;rw[show(Value.ref D==Value.ref C)=false from A0I.mpr λq=>e (A5A q).symm,A34]
 by_cases eb:D=B
 . subst eb;simp
 rw[show(D==B)=false from A0I.mpr eb,A0I.mpr λq=>eb (A5A q)]
end
section
variable {X:Cx}{pins:List (Addr×Obj)}{σ:St}{H:Hp}{s:Shared}{a C dx:Addr}{fs:List (Str×V)}{f:Str}{v:V}{A:Around}{E:Value->Shared->Prop}
theorem a95 {n' b:Bool}{Q:Value->Shared->Prop}(I:Inv X pins σ H s)(e:H a=some (exG n' a C (some dx)))(ed:H dx=some (xdO dx fs))(c:XC X.K C)(n:NoAttr X.K C f)(l:fs.lookup f=some v)
  (h:∀ u s',Inv X pins σ H s'->RelV v u->Q u s'):wpAny (model X.prog X.w) A (getAttr (.ref a) f b) Q E s:=by
 obtain⟨vs,sl,e1,_⟩:=exG_ok.mp (I.hok a _ e);obtain⟨mA,hn,r⟩:=xdO_ok.mp (I.hok dx _ ed);obtain⟨u,hu,ru⟩:=RelO.some_of (v:=v) (o:=mA f) (by rw[<- l];exact r f);obtain⟨od,hod,hl⟩:=Qg hn;exact ap4 c I.kIn ⟨e1,rfl,rfl,hod⟩ n (by rw[hl,hu]) (Ph ru) (h u _ (I.tok _) ru)
theorem Xg {mA:Str->Option Value}(r:∀ f,RelO (fs.lookup f) (mA f)):PySem.Within mA (fs.map (·.1)):=λg hg=>by
 cases q:fs.lookup g with
 |none=>exact absurd (RelO.none_of (by rw[<- q];exact r g)) hg
 |some v=>exact A0N.mpr ⟨(g,v),A2G q,rfl⟩
theorem Yj {y:V}{u:Value}{Q:Unit->Shared->Prop}(I:Inv X pins σ H s)(e:H a=some (exO a C none))(c:XC X.K C)(n:NoAttr X.K C f)(ry:RelV y u)
  (h:∀ dx s',H dx=none->dx≠a->Inv X pins σ (upd (upd H dx (xdO dx [(f,y)])) a (exO a C (some dx))) s'->Q () s'):wpAny (model X.prog X.w) A (setAttr (.ref a) f u) Q E s:=by
 obtain⟨vs,sl,e1,e1n⟩:=exO_ok.mp (I.hok a _ e);refine ae8 c I.kIn e1 n λh' hn he hk=>?_;have hf:H s.heap.objs.size=none:=I.hok.fresh (A07 _);have hne:s.heap.objs.size≠a:=A3E (A0A e1);have na:∀ b,H b=none->b≠a:=λb q z=>by rw[z,e] at q;cases q
 have nd:∀ b u,H b=some u->b≠s.heap.objs.size:=λb u q z=>by rw[z,hf] at q;cases q
 have nb:∀ b o,s.heap.get? b=some o->b≠s.heap.objs.size:=λb o q=>A0P (A0A q);have hu:∀ b o,H b=some o->b≠a->upd (upd H s.heap.objs.size (xdO s.heap.objs.size [(f,y)])) a (exO a C (some s.heap.objs.size)) b=some o:=λb o q z=>by rw[Al z,Al (nd b o q)];exact q
 refine h _ _ hf hne (I.un ⟨λb o q z _ _=>hk b o (na b z) q,λb o q z _ _=>⟨o.slots,hk b o (na b z) q⟩,λb o q z _=>by rw[Al (na b z),Al (nb b o q)];exact z,λb o q _=>?_,
  λb xs q=>hu b _ q λz=>?_,λb o u q=>hu b _ q λz=>?_,λb ps q=>⟨#[],?_⟩⟩ λb o q=>?_)
 . by_cases z:b=a
   . subst z;exact⟨_,he⟩
   exact⟨o,hk b o z q⟩
 . rw[z,e] at q;cases q
 . rw[z,e] at q;cases q
 . rw[Array.append_empty];exact hu b _ q λz=>by rw[z,e] at q;cases q
 by_cases z:b=a
 . subst z;rw[A8] at q;cases q;exact exO_ok.mpr ⟨_,_,he,e1n⟩
 rw[Al z] at q
 by_cases z2:b=s.heap.objs.size
 . subst z2;rw[A8] at q;cases q;refine xdO_ok.mpr ⟨_,hn,λg=>?_⟩;show RelO (List.lookup g [(f,y)]) (if g=f then some u else none)
   by_cases q:g=f
   . have hb:(g==f)=true:=A22.mpr q;simp only[List.lookup,hb,if_pos q];exact ry
   have hb:(g==f)=false:=A0I.mpr q;simp only[List.lookup,hb,if_neg q];exact True.intro
 rw[Al z2] at q;refine(I.hok b o q).stay (λc v hc r=>hk c v (λz3=>?_) r) (λc r=>hu c _ r λz3=>?_) λc xs r=>hu c _ r λz3=>?_
 . subst z3;rcases hc with hc|hc
   . exact z hc.symm
   rw[e] at hc;cases hc
 . rw[z3,e] at r;cases r
 rw[z3,e] at r;cases r
theorem Yk {y:V}{u:Value}{Q:Unit->Shared->Prop}(I:Inv X pins σ H s)(e:H a=some (exO a C (some dx)))(ed:H dx=some (xdO dx fs))(c:XC X.K C)(n:NoAttr X.K C f)(hl:fs.length<1000)(ry:RelV y u)
  (h:∀ s',Inv X pins σ (upd H dx (xdO dx (Kg f y fs))) s'->Q () s'):wpAny (model X.prog X.w) A (setAttr (.ref a) f u) Q E s:=by
 obtain⟨vs,sl,e1,e1n⟩:=exO_ok.mp (I.hok a _ e);obtain⟨mA,hn,r⟩:=xdO_ok.mp (I.hok dx _ ed);refine ac0 c I.kIn e1 hn (Xg r) (by rw[A01,A14];omega) n λh' hn' hs=>h _ ?_;have hd:∃ o,h'.get? dx=some o:=let ⟨o,_,_,e',_⟩:=hn';⟨o,e'⟩;refine I.write (x:=dx) (e:=dx) (by rw[ed];exact A23) (.inl rfl) (λb q hb z=>(hs.2 b hb).trans z) hd (xdO_ok.mpr ⟨_,hn',λg=>?_⟩);rw[Iw]
 by_cases q:g=f
 . rw[A0W q];show RelO (some y) (if g=f then some u else mA g)
   rw[A0W q];exact ry
 rw[A0S q];show RelO _ (if g=f then some u else mA g)
 rw[A0S q];exact r g
end
def ab4 (K:W.Frag)(f:Str):V->Hp->VK->Prop:=λx H1 Q=>∃ n a C dx fs v,x = .ref a/\H1 a=some (exG n a C (some dx))/\H1 dx=some (xdO dx fs)/\XC K C/\NoAttr K C f/\fs.lookup f=some v/\Q v H1
def ab9 (K:W.Frag)(ta:TE)(f:Str):TE:=fun σ H Q=>ta σ H λx H1=>ab4 K f x H1 Q
def aw7 (K:W.Frag)(f:Str)(y:V):V->Hp->(Hp->Prop)->Prop:=λx H2 R=>∃ a C,x = .ref a/\XC K C/\NoAttr K C f /\
 ((H2 a=some (exO a C none)/\∀ dx,H2 dx=none->dx≠a->R (upd (upd H2 dx (xdO dx [(f,y)])) a (exO a C (some dx)))) \/
   ∃ dx fs,H2 a=some (exO a C (some dx))/\H2 dx=some (xdO dx fs)/\fs.length<1000/\R (upd H2 dx (xdO dx (Kg f y fs))))
def aa1 (K:W.Frag)(ta tv:TE)(f:Str):TS:=λD σ H=>tv σ H λy H1=>ta σ H1 λx H2=>aw7 K f y x H2 λH3=>D.nx σ H3
section
variable {X:Cx}{o e value:Expr}{f:Str}{pos pos' tpos:Pos}{ta tv:TE}
theorem ag4 (he:PE X e ta)(hb:attributeBase e f X.env (eval e X.env)=eval e X.env):PE X (.Attribute e f pos) (ab9 X.K ta f):=by intro pins s σ H Q I h;refine Wp hb (thn (he pins s σ H _ I h) λu s1 ⟨x,H1,I1,rx,n',a,C,dx,fs,v,ex,ea,ed,c,n,l,q⟩=>?_);subst ex;obtain rfl:u=Value.ref a:=rx;exact a95 I1 ea ed c n l λu' s2 I2 ru=>⟨v,H1,I2,ru,q⟩
theorem aa3 (ha:PE X o ta)(hv:PE X value tv)(hs:swapsWith value (some (.Attribute o f pos')) pos.line X.env=pure false):PS X (.Assign [.Attribute o f pos'] value pos) (aa1 X.K ta tv f):=by
 intro pins s σ H D I h;refine plainObj_wpAny_Assign_Attribute (thn (hv pins s σ H _ I h) λu s1 ⟨y,H1,I1,ry,q⟩=>thn (ha pins s1 σ H1 _ I1 q) λov s2 ⟨x,H2,I2,rx,a,C,ex,c,n,q2⟩=>?_) hs;subst ex;obtain rfl:ov=Value.ref a:=rx;rcases q2 with ⟨ea,q2⟩|⟨dx,fs,ea,ed,l,q2⟩
 . exact Yj I2 ea c n ry λdx s3 h1 h2 I3=>⟨σ,_,I3,q2 dx h1 h2⟩
 exact Yk I2 ea ed c n l ry λs3 I3=>⟨σ,_,I3,q2⟩
end
def ExB (n:Bool)(H:Hp)(a C:Addr)(fs:List (Str×V)):Prop:=(fs=[]/\H a=some (exG n a C none))\/∃ dx,dx≠a/\H a=some (exG n a C (some dx))/\H dx=some (xdO dx fs)
abbrev ExA (H:Hp)(a C:Addr)(fs:List (Str×V)):Prop:=ExB true H a C fs
theorem ExB.inst {n:Bool}{P:Program}{w:World}{H:Hp}{h:Heap}{a C:Addr}{fs:List (Str×V)}(e:ExB n H a C fs)(x:HOk P w H h):∃ ox od,W.InstAt h a ox C od:=by
 rcases e with ⟨_,e⟩|⟨dx,_,e,d⟩
 . obtain⟨vs,sl,q,_⟩:=exG_ok.mp (x a _ e);exact⟨_,none,q,rfl,rfl,A23⟩
 obtain⟨vs,sl,q,_⟩:=exG_ok.mp (x a _ e);obtain⟨mA,hn,_⟩:=xdO_ok.mp (x dx _ d);obtain⟨o,_,_,ho,_⟩:=hn;exact⟨_,some o,q,rfl,rfl,ho⟩
theorem ExB.same {n:Bool}{H H':Hp}{a C:Addr}{fs:List (Str×V)}(e:ExB n H a C fs)(s:∀ b o,H b=some o->H' b=some o):ExB n H' a C fs:=by
 rcases e with ⟨e1,e⟩|⟨dx,ne,e,d⟩
 . exact .inl ⟨e1,s _ _ e⟩
 exact .inr ⟨dx,ne,s _ _ e,s _ _ d⟩
def au5 (K:W.Frag):List V->Hp->VK->Prop:=λxs H Q=>∃ n a C fs b,ExB n H a C fs/\XC K C /\
 ((∃ c,xs=[.ref a,.ref c]/\W.kitOne K (.ref C) (.ref c)=some b)\/(∃ c,xs=[.ref a,.ty c]/\W.kitOne K (.ref C) (.type c)=some b) \/
   ∃(p:Addr) (cs:List Addr),xs=[.ref a,.ref p]/\H p=some (.tup (cs.map V.ref))/\W.kitAny K (.ref C) (cs.map Value.ref)=some b)/\Q (.bl b) H
theorem Qb:∀ {cs:List Addr} {us:List Value},Vals (cs.map V.ref) us->us=cs.map Value.ref
 | [], us,r=>by cases us with | nil=>rfl | cons _ _=>cases r
 |c :: cs,us,r=>by
   cases us with
   |nil=>cases r
   |cons u us=>
     cases r with
     |cons r1 r2=>rw[A0G,Qb r2,show u=Value.ref c from r1]
theorem Yo {X:Cx}:CallR X (.builtin "isinstance") (au5 X.K):=by
 intro pins s σ H xs us Q I r h;obtain⟨n,a,C,fs,b,ea,c,hc,q⟩:=h;obtain⟨ox,od,J⟩:=ea.inst I.hok;rcases hc with ⟨c',rfl,e⟩|⟨c',rfl,e⟩|⟨p,cs,rfl,hp,e⟩
 . obtain⟨u,w',rfl,r1,r2⟩:=ad2 r
   cases r1;cases r2;exact W.kia_one (Ye c) I.kIn J e (λz=>nomatch z) λtk=>⟨.bl _,H,I.tok _,rfl,q⟩
 . obtain⟨u,w',rfl,r1,r2⟩:=ad2 r
   cases r1;cases r2;exact W.kia_one (Ye c) I.kIn J e (λz=>nomatch z) λtk=>⟨.bl _,H,I.tok _,rfl,q⟩
 obtain⟨u,w',rfl,r1,r2⟩:=ad2 r
 cases r1;cases r2;obtain⟨_,its,ri,ob,g1,g2,⟨n,g3⟩,g4⟩:=(show ObjOk X.prog X.w H s.heap p (.tup (cs.map V.ref)) from I.hok p _ hp);obtain rfl:=Qb ri;obtain⟨oc,odd,oda,osl⟩:=ob;dsimp only at g2 g3 g4;subst g2 g3 g4;exact W.kia_tup (Ye c) I.kIn J g1 e (λz=>nomatch z) λtk=>⟨.bl _,H,I.tok _,rfl,q⟩
theorem Ho {X:Cx}{K:W.Frag}(hK:X.K=K:=by ac_nf):CallR X (.builtin "isinstance") (au5 K):=hK ▸ Yo
def Mkx (P:Program)(w:World)(K:W.Frag)(mg:Str->Option Value)(base:Heap)(k:Nat)(C:Addr)(x:Str)(ps:List Str)(sp:Sp):Prop:=
 ∃ f fd,FnOk P w K mg base CX0 k f fd ps sp/\XC K C/\W.findIn K (.ref C) "__init__" = some (some (.ref f))/\W.isFn K (.ref f)=true/\W.keepIn K (.ref C)=true/\mg x=some (.ref C)/\Binds K fd ps []
def ab3 (K:W.Frag)(C:Addr):Bool:=match K.lookup C with
 |some ⟨_,_,.cls cd,_⟩=>W.nsOkIn K cd.ns&&W.nsIn K cd.ns "__init__" == some none
 |_=>false
structure aB0 (K:W.Frag)(mg:Str->Option Value)(C:Addr)(x:Str):Prop where
 xc:XC K C
 no:ab3 K C=true
 kp:W.keepIn K (.ref C)=true
 gl:mg x=some (.ref C)
def av9 (C:Addr)(sp:Sp)(vs:List V)(H1:Hp)(Q:VK):Prop:=vs.length<=8/\∀ x,H1 x=none->sp (.ref x :: vs) (upd H1 x (exO x C none)) (λv H2=>v = .non/\Q (.ref x) H2) E0
def aA4 (C:Addr) (sp:Sp) (t:TA):TE:=fun σ H Q=>t σ H λvs H1=>av9 C sp vs H1 Q
theorem af9 {P:Program}{w:World}{H:Hp}{h:Heap}{a:Addr}(x:HOk P w H h)(n:h.get? a=none):H a=none:=by
 cases q:H a with
 |none=>rfl
 |some o=>
   have t:∀ o,ObjOk P w H h a o->∃ u,h.get? a=some u:=λo z=>by
    cases o with
    |lst xs=>obtain⟨_,_,_,_,e⟩:=z;exact⟨_,e⟩
    |tup xs=>obtain⟨_,_,_,_,e,_⟩:=z;exact⟨_,e⟩
    |dK kvs=>obtain⟨_,_,_,_,o,_,_,e,_⟩:=z;exact⟨_,e⟩
    |dT kvs=>obtain⟨_,_,_,_,o,_,_,e,_⟩:=z;exact⟨_,e⟩
    |set S n=>obtain⟨o,_,_,_,e,_⟩:=z;exact⟨_,e⟩
    |ins C dx fs=>obtain⟨_,_,_,e,_⟩:=z;exact⟨_,e⟩
    |own y=>obtain⟨_,e⟩:=z;exact⟨_,e⟩
    |xd fs=>obtain⟨_,⟨_,_,_,e,_⟩,_⟩:=z;exact⟨_,e⟩
    |rng lo hi=>obtain⟨_,_,_,e⟩:=z;exact⟨_,e⟩
    |frz ob u=>obtain⟨e,_⟩:=z;exact⟨_,e⟩
    |tbl ps=>exact⟨_,z⟩
    |met f y=>exact⟨_,z⟩
    |ext φ=>obtain⟨_,e,_⟩:=z;exact e
   obtain⟨u,e⟩:=t o (x a o q);rw[n] at e;cases e
section
variable {X:Cx}{k:Nat}{f C:Addr}{fd:FuncData}{ps:List Str}{sp:Sp}{x:Str}{p pos:Pos}{e:Expr}{es:List Expr}{t:TA}{pins:List (Addr×Obj)}{σ:St}{H:Hp}{s:Shared}{Q:VK}{us:List Value}{vs:List V}
theorem af4 (M:Mkx X.prog X.w X.K X.mg X.base k C x ps sp)(hr:Room (k+1) X.A)(I:Inv X pins σ H s)(r:Vals vs us)(hz:vs.length<=8)
  (h:∀ x,H x=none->sp (.ref x :: vs) (upd H x (exO x C none)) (λv H2=>v = .non/\Q (.ref x) H2) E0) :
  wpAny (model X.prog X.w) X.A (call (.ref C) us) (EP X pins σ Q) X.xe s:=by
 obtain⟨f,fd,F,c,hi,hf,hk,hm,hb⟩:=M;have hq:=h (s.heap.objs.size+1) (I.hok.fresh (A44 _));have r2:Vals (V.ref (s.heap.objs.size+1) :: vs) (Value.ref (s.heap.objs.size+1) :: us):=.cons rfl r
 have hl:((Value.ref (s.heap.objs.size+1) :: us)++[]).length=ps.length:=by have e:=r2.length;rw[F.len _ _ _ _ hq] at e;rw[A1N];exact e.symm
 have hg1:((s.heap.push (ah3 us)).push (a00 C s.heap.objs.size)).get? (s.heap.objs.size+1)=some (a00 C s.heap.objs.size):=by heap_get
 have I2:Inv X pins σ (upd H (s.heap.objs.size+1) (exO (s.heap.objs.size+1) C none)) {s with heap:=(s.heap.push (ah3 us)).push (a00 C s.heap.objs.size)}:=
  I.laid (a:=s.heap.objs.size+1) (t':=s.toks) (λb u q=>A03 _ (A03 _ q)) (A44 _) (exO_ok.mpr ⟨_,_,hg1,λ_=>rfl⟩)
 obtain⟨hh,g,d,tk,os⟩:=s
 refine ad5 I.kIn c.ex hi (A22.mp hf) (by rw[<- r.length,A14];omega) (A4R (A4D (F.run _ X.stack _ _ ⟨Value.ref (hh.objs.size+1) :: us,[]⟩ (Value.ref (hh.objs.size+1) :: us) _ _ E0 (hr.make C us [])
  (I2.env0.make C us []) (by have:=hb _ (Value.ref (hh.objs.size+1) :: us) I2.kIn hl;rw[A1N] at this;exact this) r2 hq) λr s' hq'=>?_))
 cases r with
 |error e=>exact False.elim hq'
 |ok fl=>
   cases fl with
   |ret u=>obtain⟨v,H',I3,rv,ev,q3⟩:=I2.after hq';subst ev;exact⟨rv,⟨V.ref (hh.objs.size+1),H',I3,rfl,q3⟩⟩
   |next=>exact False.elim hq'
   |brk=>exact False.elim hq'
   |cont=>exact False.elim hq'
theorem as1 (M:Mkx X.prog X.w X.K X.mg X.base k C x ps sp)(hr:Room (k+1) X.A)(hg:Gl X x)(ha:PA X (e :: es) t)(hdb:(x==("__debug__":Str))=false:=by decide)
  (he:starEach (e :: es) X.env=(false,eval e X.env) :: starEach es X.env:=by ac_nf) (hpl:(backTo pos (starEach es X.env)).any (·.1)=false:=by ac_nf) :
  PE X (.Call (.Name x p) (e :: es) [] pos) (aA4 C sp t):=by
 intro pins s σ H Q I h;have M':=M;obtain⟨f,fd,F,c,hi,hf,hk,hm,hb⟩:=M';refine A33 (Kw I hg hm ?_ hdb);refine A3R (h₀:=X.base) I.ok.mod.kin hk (thn (ha pos pins s σ H _ I h) λus s1 ⟨vs,H1,I1,r,z,q⟩=>⟨I1.kIn,?_⟩) he hpl;exact af4 M hr I1 r z q
end
def spX (C:Addr)(fs:List Str):Sp:=λvs H Q _=>∃ a ws,vs = .ref a :: ws/\ws.length=fs.length/\H a=some (exO a C none) /\
 ∀ dx H',H dx=none->dx≠a->(∀ b,b≠a->b≠dx->H' b=H b)->H' a=some (exO a C (some dx))->H' dx=some (xdO dx (fs.zip ws))->Q .non H'
section
variable {X:Cx}{K:W.Frag}{o e value:Expr}{f:Str}{pos pos':Pos}{ta tv:TE}
theorem Yx (he:PE X e ta)(hb:attributeBase e f X.env (eval e X.env)=eval e X.env)(hK:X.K=K:=by ac_nf):PE X (.Attribute e f pos) (ab9 K ta f):=hK ▸ ag4 he hb
theorem Z6 (ha:PE X o ta)(hv:PE X value tv)(hs:swapsWith value (some (.Attribute o f pos')) pos.line X.env=pure false)(hK:X.K=K:=by ac_nf):PS X (.Assign [.Attribute o f pos'] value pos) (aa1 K ta tv f):=
 hK ▸ aa3 ha hv hs
end
section
variable {K:W.Frag}{σ:St}{H:Hp}{Q:VK}{D:Ends}{f:Str}{ta tv:TE}{t:TA}{sp:Sp}{C a dx B G:Addr}{fs:List (Str×V)}{v y:V}{R:Hp->Prop}{vs:List V}
theorem aa4 (k:ta σ H λx H1=>ab4 K f x H1 Q):ab9 K ta f σ H Q:=k
theorem al9 {n':Bool}(h:ExB n' H a C fs)(c:XC K C)(n:NoAttr K C f)(l:fs.lookup f=some v)(k:Q v H):ab4 K f (.ref a) H Q:=by
 rcases h with ⟨rfl,_⟩|⟨dx,_,h1,h2⟩
 . cases l
 exact⟨n',a,C,dx,fs,v,rfl,h1,h2,c,n,l,k⟩
theorem ac1 (k:tv σ H λy H1=>ta σ H1 λx H2=>aw7 K f y x H2 λH3=>D.nx σ H3):aa1 K ta tv f D σ H:=k
theorem an4 (h:H a=some (exO a C none))(c:XC K C)(n:NoAttr K C f)(k:∀ dx H',H dx=none->dx≠a->(∀ b,b≠a->b≠dx->H' b=H b)->H' a=some (exO a C (some dx))->H' dx=some (xdO dx [(f,y)])->R H'):aw7 K f y (.ref a) H R:=
 ⟨a,C,rfl,c,n,.inl ⟨h,λdx h1 h2=>k dx _ h1 h2 (λb hb hd=>by rw[Al hb,Al hd]) A8 (by rw[Al h2,A8])⟩⟩
theorem al1 (k:t σ H λvs H1=>av9 C sp vs H1 Q):aA4 C sp t σ H Q:=k
theorem aw0 {gs:List Str}(hl:vs.length=gs.length)(hz:gs.length<=8)(k:∀ x H',H x=none->Same H H'->ExA H' x C (gs.zip vs)->Q (.ref x) H'):av9 C (spX C gs) vs H Q:=by refine⟨by omega,λx hx=>⟨x,vs,rfl,hl,A8,λdx H' h1 h2 h3 h4 h5=>⟨rfl,k x H' hx (λb u q=>?_) (.inr ⟨dx,h2,h4,h5⟩)⟩⟩⟩;have b1:b≠x:=ne_of_none q hx;rw[Al h2] at h1;rw[h3 b b1 (ne_of_none q h1),Al b1];exact q
theorem Z8 {n' b:Bool}(h:ExB n' H a C fs)(c:XC K C)(e:W.kitOne K (.ref C) (.ref G)=some b)(k:Q (.bl b) H):au5 K [.ref a,.ref G] H Q:=⟨n',a,C,fs,b,h,c,.inl ⟨G,rfl,e⟩,k⟩
theorem aq6 {n' b:Bool}{T:String}(h:ExB n' H a C fs)(c:XC K C)(e:W.kitOne K (.ref C) (.type T)=some b)(k:Q (.bl b) H):au5 K [.ref a,.ty T] H Q:=⟨n',a,C,fs,b,h,c,.inr (.inl ⟨T,rfl,e⟩),k⟩
end
theorem a75 {K:W.Frag}{C B:Addr}(hm:Kf K C B=true):W.kitOne K (.ref C) (.type "ValueError")=some true:=by obtain⟨cd,hc,hx⟩:=A48 hm;unfold W.kitOne;rw[A0S (by rw[A0I.mpr (by intro q;cases q)];decide)];unfold W.kitCls;dsimp only;rw[A0W (by decide +kernel)];show W.mroIn K C _=_;unfold W.mroIn;rw[hc,Option.bind_some,beq_iff_eq.mp hx,if_neg (by simp),List.contains_cons,List.contains_cons,show xB.contains (Value.type "ValueError")=true by decide +kernel,Bool.or_true,Bool.or_true]
structure Lft (fs:List Addr)(a:Addr)(oe:Obj)(old:List Addr)(h h':Heap):Prop where
 keep:∀ b o,b∉fs->b≠a->b∉old->h.get? b=some o->h'.get? b=some o
 slot:∀ b o,b∈fs->h.get? b=some o->∃ sl,h'.get? b=some {o with slots:=sl}
 there:∀ b o,h.get? b=some o->∃ o',h'.get? b=some o'
 tr:∃ oe' vs T oT ts,h'.get? a=some oe'/\oe'.cls=oe.cls/\oe'.dict=oe.dict/\oe'.slots=oe.slots/\oe'.data = .fields vs/\vs[1]? = some (.ref T)/\T≠a/\h.get? T=none/\h'.get? T=some oT/\oT.data = .fields ts/\ts[3]? = some .none
section
variable {M:Model}{A:Around}{E:Value->Shared->Prop}{s:Shared}{base:Heap}{env:Env}{outer:List Env}{L a:Addr}{oe:Obj}{vs:Array Value}{Q:Unit->Shared->Prop}
theorem X4 (o:Obj)(g:Array Value->Array Value):(o.mapFields g).dict=o.dict/\(o.mapFields g).slots=o.slots/\(o.mapFields g).cls=o.cls:=by
 obtain⟨c,d,dt,sl⟩:=o
 cases dt<;>exact⟨rfl,rfl,rfl⟩
theorem Sm {head:Value}{hadNext:Bool}(hfr:A.frames=some (env :: outer))(hl:s.heap.FunFrames base (env :: outer))(hf:env.frame=some L)(he:s.heap.get? a=some oe)(hd:oe.data = .fields vs)(hsz:1<vs.size)
  (h:∀ h',Lft (frs (env :: outer)) a oe [] s.heap h'->Q () {s with heap:=h'}) :
  wpAny M A (do let x <- frameOf env;let pl <- entryPlaceOf L hadNext;let b <- EntryCells.newEntry head x .none (rawInt L) .none pl;setField (.ref a) 1 b) (λ_ s'=>wpAny M A (setFlight (.ref a) none) Q E s') E s:=by
 have ha:a∉frs (env :: outer):=λhm=>by obtain⟨_,o,ho,hnf⟩:=hl.mem hm;rw[he] at ho;cases ho;exact hnf vs hd
 refine A00 (wpAny_frameOf_fun hfr hl hf λh1 k1=>?_);refine A00 (wpAny_entryPlaceOf λpl hpl=>?_);unfold EntryCells.newEntry newFields;refine A00 (A1L ?_ (hpl.sizeOk5 _ _ _ _ _));generalize hob:(Obj.mk (Value.type "traceback") none (Data.fields ([head,Value.ref L,Value.none,rawInt L,Value.none]++(if pl.isEmpty then List.replicate 6 Value.none else pl)).toArray) #[]:Obj)=ob
 have obd:ob.data = .fields ([head,Value.ref L,Value.none,rawInt L,Value.none]++(if pl.isEmpty then List.replicate 6 Value.none else pl)).toArray:=by rw[<- hob]
 have hob2:ob.isFreed=false:=A2U obd;have he1:h1.get? a=some oe:=(k1.2.1 a ha).trans he;have he2:=A03 (h:=h1) ob he1;refine wpAny_setField he2 hd hsz ?_;have hTe:h1.objs.size≠a:=A3E (A0A he1);have d3:=A37 hd (·.setIfInBounds 1 (Value.ref h1.objs.size));have he3:=A2T (Obj.mapFields (·.setIfInBounds 1 (Value.ref h1.objs.size))) he2 (A2U d3);have hT3:=(A1Q (h1.push ob) (Obj.mapFields (·.setIfInBounds 1 (Value.ref h1.objs.size))) (Ne.symm hTe)).trans (A0K h1 hob2);unfold setFlight;refine wpAny_bind (wpAny_field he3 d3 (x:=.ref h1.objs.size) (by simp[hsz]) ?_);rw[if_pos (show(Value.ref h1.objs.size != Value.none)=true from by simp)];refine wpAny_setField hT3 obd (by simp only[List.size_toArray,List.length_append,List.length_cons,List.length_nil]<;>omega) (h _ ?_)
 have kp:∀ b o,b≠a->h1.get? b=some o->(((h1.push ob).update a (Obj.mapFields (·.setIfInBounds 1 (Value.ref h1.objs.size)))).update h1.objs.size (Obj.mapFields (·.setIfInBounds 3 ((none:Option Addr).elim Value.none λf=>rawInt f)))).get? b=some o:=λb o hbe hb=>by rw[A1Q _ _ (A3E (A0A hb)),A1Q _ _ (Ne.symm hbe)];exact A03 _ hb
 have hea:=(A1Q _ (Obj.mapFields (·.setIfInBounds 3 ((none:Option Addr).elim Value.none λf=>rawInt f))) hTe).trans he3;refine⟨λb o hb hba _ q=>kp b o hba ((k1.2.1 b hb).trans q),λb o hb q=>?_,λb o q=>?_,?_⟩
 . obtain⟨sl,z⟩:=k1.2.2 b o q;exact⟨sl,kp b _ (λw=>ha (w ▸ hb)) z⟩
 . by_cases w:b=a
   . subst w;exact⟨_,hea⟩
   obtain⟨sl,z⟩:=k1.2.2 b o q;exact⟨_,kp b _ w z⟩
 obtain⟨m1,m2,m3⟩:=X4 oe (·.setIfInBounds 1 (Value.ref h1.objs.size));refine⟨_,_,h1.objs.size,_,_,hea,m3,m1,m2,d3,by simp[hsz],hTe,Heap.get?_none_of_le (by rw[k1.1];exact Nat.le_refl _),Heap.get?_update_self _ hT3 (Obj.isFreed_of_fields (Obj.data_mapFields obd _)),Obj.data_mapFields obd _,?_⟩;rcases hpl with rfl|⟨_,_,_,_,_,_,_,rfl⟩<;>simp
theorem Zj (hfr:A.frames=some (env :: outer))(hl:s.heap.FunFrames base (env :: outer))(hf:env.frame=some L)(he:s.heap.get? a=some oe)(hd:oe.data = .fields vs)(h1:vs[1]? = some .none)
  (h:∀ h',Lft (frs (env :: outer)) a oe [] s.heap h'->Q () {s with heap:=h'}):wpAny M A (leaving env (.ref a)) Q E s:=by
 unfold leaving noteFrame;simp only[hf];refine A00 (A00 (A2R he hd h1 ?_));rw[A0S nofun];exact Sm hfr hl hf he hd (A21.mp h1).1 h
theorem Sa {T:Addr}{oT:Obj}{ts:Array Value}(hfr:A.frames=some (env :: outer))(hl:s.heap.FunFrames base (env :: outer))(hf:env.frame=some L)(he:s.heap.get? a=some oe)(hd:oe.data = .fields vs)(h1:vs[1]? = some (.ref T))
  (hTe:T≠a) (hT:s.heap.get? T=some oT) (hdT:oT.data = .fields ts) (h3:ts[3]? = some .none)
  (h:∀ h',Lft (frs (env :: outer)) a oe [T] s.heap h'->Q () {s with heap:=h'}):wpAny M A (noteFrame (.ref a) env) (λ_ s'=>wpAny M A (setFlight (.ref a) none) Q E s') E s:=by
 unfold noteFrame;simp only[hf];refine A00 (A2R he hd h1 ?_);rw[if_pos (show(Value.ref T != Value.none)=true from by simp)];refine A00 (A2R hT hdT h3 ?_);rw[if_neg (show ¬ ((Value.none==rawInt L)=true) from by simp[rawInt])];refine A00 (wpAny_setField hT hdT (A21.mp h3).1 ?_);have ot:∀ b,b≠T->(s.heap.update T (Obj.mapFields (·.setIfInBounds 3 Value.none))).get? b=s.heap.get? b:=λb hb=>A1Q _ _ (Ne.symm hb);have tt:=A2T (Obj.mapFields (·.setIfInBounds 3 Value.none)) hT (A2U (A37 hdT _))
 have nT:∀ b o,s.heap.get? b=some o->(∀ us,o.data ≠ .fields us)->b≠T:=λb o hb hnf q=>by rw[q,hT] at hb;cases hb;exact hnf ts hdT
 have fT:T∉frs (env :: outer):=λhm=>by obtain⟨_,o,ho,hnf⟩:=hl.mem hm;exact nT T o ho hnf rfl
 refine Sm (hl:=hl.of_keeps λb o hb hnf=>⟨o,(ot b (nT b o hb hnf)).trans hb,rfl⟩) hfr hf ((ot a (Ne.symm hTe)).trans he) hd (A21.mp h1).1 λh' l=>h h' ?_;obtain⟨x1,x2,x3,oe',us,T',oT',ts',q1,q2,q3,q4,q5,q6,q7,q8,q9⟩:=l;refine⟨λb o hb hba hbt q=>x1 b o hb hba (by simp) ((ot b λz=>hbt (by simp[z])).trans q),λb o hb q=>x2 b o hb ((ot b λz=>fT (z ▸ hb)).trans q),λb o q=>?_,oe',us,T',oT',ts',q1,q2,q3,q4,q5,q6,q7,?_,q9⟩
 . by_cases z:b=T
   . subst z;exact x3 _ _ tt
   exact x3 b o ((ot b z).trans q)
 by_cases z:T'=T
 . rw[z,tt] at q8;cases q8
 rw[<- ot T' z];exact q8
theorem ab8 {T:Addr}{oT:Obj}{ts:Array Value}(hfr:A.frames=some (env :: outer))(hl:s.heap.FunFrames base (env :: outer))(hf:env.frame=some L)(he:s.heap.get? a=some oe)(hd:oe.data = .fields vs)(h1:vs[1]? = some (.ref T))
  (hTe:T≠a) (hT:s.heap.get? T=some oT) (hdT:oT.data = .fields ts) (h3:ts[3]? = some .none)
  (h:∀ h',Lft (frs (env :: outer)) a oe [T] s.heap h'->Q () {s with heap:=h'}):wpAny M A (leaving env (.ref a)) Q E s:=by
 unfold leaving;exact A00 (Sa hfr hl hf he hd h1 hTe hT hdT h3 h)
end
def Tra (a:Addr)(H':Hp)(h0 h:Heap):Prop:=∃ oe vs T oT ts,h.get? a=some oe/\oe.data = .fields vs/\vs[1]? = some (.ref T)/\T≠a/\h.get? T=some oT/\oT.data = .fields ts/\ts[3]? = some .none/\H' T=none/\h0.get? T=none
def CX1 (P:Program)(w:World):CXT:=λouter H s E e s'=>∃ a C od H',e = .ref a/\s'.os=s.os/\AllBare s'.gens/\Un (frs outer) [] H H' s.heap s'.heap/\HOk P w H' s'.heap/\H' a=some (exG false a C od)/\s.heap.get? a=none/\Tra a H' s.heap s'.heap/\E (.ref a) none H'
section
variable {P:Program}{w:World}{fs:List Addr}{a C:Addr}{od:Option Addr}{oe:Obj}{old:List Addr}{h h':Heap}{H:Hp}{n:Bool}
theorem Lft.hok (l:Lft fs a oe old h h')(ok:HOk P w H h)(he:h.get? a=some oe)(ha:H a=some (exG n a C od))(hfs:∀ b∈fs,H b=none)(hold:∀ b∈old,H b=none):HOk P w (upd H a (exG false a C od)) h':=λb u q=>by
 have hu:∀ c z,H c=some z->c≠a->upd H a (exG false a C od) c=some z:=λc z r ne=>by rw[Al ne];exact r
 by_cases hb:b=a
 . subst hb;rw[A8] at q;cases q;obtain⟨vs,sl,e1,_⟩:=exG_ok.mp (ok b _ ha);rw[he] at e1;cases e1;obtain⟨oe',us,T,oT,ts,q1,q2,q3,q4,q5,_⟩:=l.tr;obtain⟨c,d,dt,s4⟩:=oe';dsimp only at q2 q3 q4 q5;subst q2 q3 q4 q5;exact exG_ok.mpr ⟨us,_,q1,λz=>Bool.noConfusion z⟩
 rw[Al hb] at q;refine(ok b u q).stay (λc v hc r=>?_) (λc r=>hu c _ r λz=>?_) λc xs r=>hu c _ r λz=>?_
 . have hcn:∃ z,H c=some z:=by
    rcases hc with hc|hc
    . exact⟨u,hc ▸ q⟩
    exact⟨_,hc⟩
   obtain⟨z,hz⟩:=hcn;refine l.keep c v (λm=>by rw[hfs c m] at hz;cases hz) (λe=>?_) (λm=>by rw[hold c m] at hz;cases hz) r;subst e;rcases hc with hc|hc
   . exact hb hc.symm
   rw[ha] at hc;cases hc
 . rw[z,ha] at r;cases r
 rw[z,ha] at r;cases r
end
section
variable {P:Program}{w:World}{K:W.Frag}{mg:Str->Option Value}{base:Heap}{N:List Str}{qual:Str}{scope:Scope}{f:Addr}{cd:Value}{A:Around}{outer:List Env}{s₀:Shared}{H₀:Hp}{E:XK}
theorem Wh {h h':Heap}:∀ {l:List Env},h.FunFrames base l->(∀ b∈frs l,∀ o,h.get? b=some o->∃ sl,h'.get? b=some {o with slots:=sl})->h'.FunFrames base l
 | [],_,_=>A23
 |env :: r,hl,k=>by
   obtain⟨hk,⟨L,o,hf,hn,ho,hd⟩,hr⟩:=hl;have e:frs (env :: r)=L :: frs r:=by unfold frs;rw[List.filterMap_cons,hf]
   obtain⟨sl,z⟩:=k L (by rw[e];exact A11) o ho;exact⟨hk,⟨L,_,hf,hn,z,hd⟩,Wh hr λb hb=>k b (by rw[e];exact A0D _ hb)⟩
theorem am1 {CX:CXT}{pins:List (Addr×Obj)}{σ:St}{H1 H2:Hp}{s1 s2:Shared}{h3:Heap}{a C:Addr}{od:Option Addr}{oe:Obj}{old:List Addr}{n:Bool}(I:Inv (Uz CX P w K mg base N qual scope f cd A outer s₀ H₀ E) pins σ H1 s1)
  (os:s2.os=s1.os) (bare:AllBare s2.gens) (un:Un (frs (envOfC qual scope s₀.heap.objs.size f cd :: outer)) [] H1 H2 s1.heap s2.heap) (ok:HOk P w H2 s2.heap) (ha:H2 a=some (exG n a C od)) (he:s2.heap.get? a=some oe) (hn:s₀.heap.get? a=none) (hold:∀ b∈old,H2 b=none/\s₀.heap.get? b=none)
  (l:Lft (frs (envOfC qual scope s₀.heap.objs.size f cd :: outer)) a oe old s2.heap h3) (q:E (.ref a) none (upd H2 a (exG false a C od))) :
  CX1 P w outer H₀ s₀ E (.ref a) {s2 with heap:=h3}:=by
 have stk:∀ b∈frs (envOfC qual scope s₀.heap.objs.size f cd :: outer),b=s₀.heap.objs.size\/b∈frs outer:=λb hb=>by
  rcases A0B.mp (I.stkSub b hb) with z|z
  . exact .inl z
  exact .inr z
 have fr2:∀ b∈frs (envOfC qual scope s₀.heap.objs.size f cd :: outer),H2 b=none:=λb hb=>by obtain⟨_,o,ho,_⟩:=I.stack.mem hb;exact un.free b o ho (I.stkFree b hb) (by simp)
 obtain⟨oe',us,T,oT,ts,q1,q2,q3,q4,q5,q6,q7,q8,q9,q10,q11⟩:=l.tr;have nl:∀ b o,s₀.heap.get? b=some o->b≠s₀.heap.objs.size:=λb o z=>A0P (A0A z);have na:∀ b o,s₀.heap.get? b=some o->b≠a:=λb o z e=>by rw[e,hn] at z;cases z
 have no:∀ b o,s₀.heap.get? b=some o->b∉old:=λb o z e=>by rw[(hold b e).2] at z;cases z
 have tn:H2 T=none:=af9 ok q8
 have t0:s₀.heap.get? T=none:=by
  cases z:s₀.heap.get? T with
  |none=>rfl
  |some o=>obtain⟨o1,z1⟩:=I.base.there T o z (by intro m;cases m);obtain⟨o2,z2⟩:=un.there T o1 z1 (by simp);rw[q8] at z2;cases z2
 have hu:∀ c z,H2 c=some z->z≠exG n a C od->upd H2 a (exG false a C od) c=some z:=λc z r ne=>by rw[Al λe=>ne (by rw[e,ha] at r;exact(A10 r).symm)];exact r
 refine⟨a,C,od,upd H2 a (exG false a C od),rfl,os.trans I.os,bare,⟨λb o z nz hb _=>?_,λb o z nz hb _=>?_,λb o z nz _=>?_,λb o z _=>?_,λb xs z=>?_,λb o u z=>?_,λb ps z=>?_⟩,l.hok ok he ha fr2 (λb m=>(hold b m).1),A8,hn,⟨oe',us,T,oT,ts,q1,q5,q6,q7,q9,q10,q11,by rw[Al q7];exact tn,t0⟩,q⟩
 . have z1:=I.base.keep b o z nz hb (by intro m;cases m);have n1:=I.base.free b o z nz (by intro m;cases m);have hb2:b∉frs (envOfC qual scope s₀.heap.objs.size f cd :: outer):=λm=>(stk b m).elim (nl b o z) hb;exact l.keep b o hb2 (na b o z) (no b o z) (un.keep b o z1 n1 hb2 (by simp))
 . obtain⟨sl,z1⟩:=I.base.slot b o z nz hb (by intro m;cases m);have n1:=I.base.free b o z nz (by intro m;cases m);obtain⟨sl2,z2⟩:=un.any z1 n1 (by simp)
   by_cases m:b∈frs (envOfC qual scope s₀.heap.objs.size f cd :: outer)
   . obtain⟨sl3,z3⟩:=l.slot b _ m z2;exact⟨sl3,z3⟩
   exact⟨sl2,l.keep b _ m (na b o z) (no b o z) z2⟩
 . obtain⟨o1,z1⟩:=I.base.there b o z (by intro m;cases m);have n1:=I.base.free b o z nz (by intro m;cases m);show upd H2 a _ b=none;rw[Al (na b o z)];exact un.free b o1 z1 n1 (by simp)
 . obtain⟨o1,z1⟩:=I.base.there b o z (by intro m;cases m);obtain⟨o2,z2⟩:=un.there b o1 z1 (by simp);exact l.there b o2 z2
 . exact hu b _ (un.tups b xs (I.base.tups b xs z)) (λe=>nomatch e)
 . exact hu b _ (un.frzs b o u (I.base.frzs b o u z)) (λe=>nomatch e)
 obtain⟨m1,z1⟩:=I.base.tbls b ps z;obtain⟨m2,z2⟩:=un.tbls b _ z1;exact⟨m1++m2,by rw[<- Array.append_assoc];exact hu b _ z2 (λe=>nomatch e)⟩
theorem av1 (hfr:scope.kind ≠ .module)(hE:∀ a H C od,H a=some (exG false a C od)->E (.ref a) none H->E (.ref a) none (upd H a (exG false a C od))):Ig (CX1 P w) (Uz (CX1 P w) P w K mg base N qual scope f cd A outer s₀ H₀ E) E:=by
 intro pins σ H1 s1 e s' I hq;obtain ⟨a,C,od,H2,rfl,os,bare,un,ok,ha,hn,⟨oe,vs,T,oT,ts,t1,t2,t3,t4,t5,t6,t7,t8,t9⟩,q⟩:=hq
 have hn0:s₀.heap.get? a=none:=by
  cases z:s₀.heap.get? a with
  |none=>rfl
  |some o=>obtain⟨o1,z1⟩:=I.base.there a o z (by intro m;cases m);rw[hn] at z1;cases z1
 have hT0:s₀.heap.get? T=none:=by
  cases z:s₀.heap.get? T with
  |none=>rfl
  |some o=>obtain⟨o1,z1⟩:=I.base.there T o z (by intro m;cases m);rw[t9] at z1;cases z1
 have fun2:s'.heap.FunFrames base (envOfC qual scope s₀.heap.objs.size f cd :: outer):=Wh I.stack λb hb o ho=>un.any ho (I.stkFree b hb) (by simp);refine ab8 (base:=base) (L:=s₀.heap.objs.size) (I.ok.frames) fun2 rfl t1 t2 t3 t4 t5 t6 t7 λh3 l=>?_;exact am1 I os bare un ok ha t1 hn0 (λb hb=>by simp at hb;subst hb;exact⟨t8,hT0⟩) l (hE a H2 C od ha q)
theorem Sd {H:Hp}{a:Addr}{o:HO}(h:H a=some o):upd H a o=H:=by
 funext b;unfold upd
 split
 . rename_i e;rw[e,h]
 rfl
theorem Td:Ig (CX1 P w) (Uz (CX1 P w) P w K mg base N qual scope f cd A outer s₀ H₀ E) E:=by intro pins σ H1 s1 e s' I hq;exact av1 (by have:=I.ok.kind;show scope.kind≠_;rw[show scope.kind = .function from this];decide) (λa H C od h q=>by rw[Sd h];exact q) pins σ H1 s1 e s' I hq
def Vv (K:W.Frag)(H0:Hp)(E:XK)(x:V)(H1:Hp):Prop:=∃ a C od,x = .ref a/\H1 a=some (exO a C od)/\XC K C/\H0 a=none/\E (.ref a) none (upd H1 a (exG false a C od))
def a60 (K:W.Frag)(H0:Hp)(E:XK)(t:TE):TS:=λD σ H=>t σ H λx H1=>Vv K H0 E x H1
theorem Zl {ex:Expr}{t:TE}{pos:Pos}{X:Cx}(hX:X=Uz (CX1 P w) P w K mg base N qual scope f cd A outer s₀ H₀ E)(he:PE X ex t):PS X (.Raise (some ex) none pos) (a60 K H₀ E t):=by
 subst hX;intro pins s σ H D I h;rw[arm_exec_Raise];refine A00 (A47 ?_);unfold raiseStmt;simp only[evalOpt,Option.map];refine A00 (A00 (thn (he pins s σ H _ I h) λv s1 ⟨x,H1,I1,rx,a,C,od,ex',ha,hc,h0,q⟩=>A00 (A47 (A04 ?_))));subst ex';obtain rfl:v=Value.ref a:=rx;obtain⟨vs,sl,hx,hv⟩:=exO_ok.mp (I1.hok a _ ha);have hv:=hv rfl;obtain⟨nm,qn,N',bs,bm,sn,sub,ab,col,dd,k0,k1,k2,k3,k5,hl,htl⟩:=K3 hc.ex;have hC:=I1.kIn _ _ hl;have hcB:(Value.ref C :: bm).contains (.type "BaseException")=true:=by rw[A39,a36 (A38 I1.kIn htl),Bool.or_true]
 have fin:(Uz (CX1 P w) P w K mg base N qual scope f cd A outer s₀ H₀ E).xe (.ref a) s1:=by
  refine Zj (base:=base) (L:=s₀.heap.objs.size) I1.ok.frames I1.stack rfl hx rfl hv λh3 l=>?_
  have hn0:s₀.heap.get? a=none:=by
   cases z:s₀.heap.get? a with
   |none=>rfl
   |some o=>have:=I1.base.free a o z h0 (by intro m;cases m);rw[ha] at this;cases this
  exact am1 I1 rfl I1.bare Un.refl I1.hok ha hx hn0 (by simp) l q
 obtain⟨hh,g,d,tk,os⟩:=s1
 repeat (first | (with_reducible refine A2B hx ?_) | (with_reducible refine A2B hC ?_) | (with_reducible refine A51 hC ?_;rw[hcB]) | (with_reducible refine A2R hx rfl hv ?_) | wp_step)
 exact wpAny_raiseNew_none (I1.ok.hd rfl) fin
end
section
variable {X:Cx}{pins:List (Addr×Obj)}{σ:St}{H:Hp}{s:Shared}
theorem Nv {M:Model}{A:Around}{E:Value->Shared->Prop}{i:Nat}{x:Str}{pos:Pos}{Q:Unit->Shared->Prop}(I:Inv X pins σ H s)(hN:X.N.Nodup)(hi:X.N[i]? = some x)(hk:X.env.scope.names.lookup x=some .local)
  (h:∀ s',Inv X pins (σ.set i none) H s'->Q () s'):wpAny M A (do bindName X.env x .none;unbindBehindTheSuite X.env x pos) Q E s:=by
 refine A00 (wpAny_bindName (Ko (v:=.non) (u:=.none) I hN hi (.inl hk) rfl (λs1 I1=>?_) (.inr hk)));unfold unbindBehindTheSuite;refine wpAny_onRaise ?_;obtain⟨m,hn,hl⟩:=id I1.loc;have hcls:(X.env.scope.kind == .class||(X.env.scope.kind == .module&&X.env.locals != X.env.globals))=false:=by rw[I1.ok.kind];rfl
 have hiσ:i<σ.length:=by rw[I.len];exact(A02.mp hi).1
 obtain⟨u,ru,lu⟩:=hl i x .non hi (A2K hiσ) (.inl hk)
 have hmx:m x=some u:=by
  rcases lu with ⟨_,z⟩|⟨z,_⟩
  . exact z
  have z':X.env.scope.names.lookup x=some .cell\/X.env.scope.names.lookup x=some .free:=z;rw[hk] at z';rcases z' with z'|z'<;>cases z'
 refine wpAny_unbindName_local hk hn hmx hcls λh' w hn' hs=>h _ ?_;obtain⟨oL,_,_,hoL,_⟩:=id hn;have cne:=I1.cne;refine⟨I1.ok,I1.os,I1.bare,⟨λb o e n hb hx=>?_,λb o e n hb hx=>?_,I1.base.free,λb o e hx=>?_,I1.base.tups,I1.base.frzs,I1.base.tbls⟩,⟨_,hn',λj y v' e1 e2 e3=>?_⟩,λy c e=>?_,I1.free,I1.freeC,λp hp=>?_,λb ob e=>?_,by simpa using I.len⟩
 . exact(hs.2 b (A0P (A0Z (A0A e) I1.ok.above))).trans (I1.base.keep b o e n hb hx)
 . obtain⟨sl,e1⟩:=I1.base.slot b o e n hb hx;exact⟨sl,(hs.2 b (A0P (A0Z (A0A e) I1.ok.above))).trans e1⟩
 . obtain⟨o',e1⟩:=I1.base.there b o e hx;exact⟨o',(hs.2 b (A0P (A0Z (A0A e) I1.ok.above))).trans e1⟩
 . by_cases hj:j=i
   . subst hj;rw[A2K hiσ] at e2
     cases e2
   rw[A28 (Ne.symm hj)] at e2;obtain⟨u',r',q⟩:=hl j y v' e1 (by rw[A28 (Ne.symm hj)];exact e2) e3;refine⟨u',r',?_⟩;rcases q with ⟨k,e⟩|⟨k,c,e,z⟩
   . refine .inl ⟨k,?_⟩;have ne:y≠x:=λe=>hj (Ms hN e1 (e ▸ hi));simp[ne,e]
   exact .inr ⟨k,c,e,z.sameBut hs (cne y c e)⟩
 . obtain⟨w',z⟩:=I1.cell y c e;exact⟨w',z.sameBut hs (cne y c e)⟩
 . obtain⟨e,n,ne,nf,d⟩:=I1.pin p hp;exact⟨(hs.2 p.1 ne).trans e,n,ne,nf,d⟩
 refine(I1.hok b ob e).stay (λc w' hc q=>(hs.2 c ?_).trans q) (λ_ q=>q) λ_ _ q=>q;rintro rfl;rcases hc with hc|hc
 . rw[<- hc] at e;rw[I1.free] at e;cases e
 rw[I1.free] at hc;cases hc
abbrev Cx.tri (X:Cx)(pins:List (Addr×Obj))(E:Value->Shared->Prop):Cx:={X with xe:=E,pn:=X.pn++pins}
abbrev Cx.hnd (X:Cx)(a:Addr)(E:Value->Shared->Prop):Cx:={X with A:=X.A.mark (some (.ref a)),calm:=false,xe:=E}
theorem Inv.tri (I:Inv X pins σ H s)(E:Value->Shared->Prop):Inv (X.tri pins E) [] σ H s:=
 ⟨⟨I.ok.mod,I.ok.kind,I.ok.glob,I.ok.blt,I.ok.above,I.ok.inj,I.ok.has,I.ok.cab,I.ok.hd,I.ok.frames,I.ok.stk,I.ok.exf,I.ok.bs,I.ok.bsz,I.ok.noex,I.ok.exfs,I.ok.funs,I.ok.frf⟩,I.os,I.bare,I.base,I.loc,I.cell,I.free,I.freeC,λp hp=>I.pin p (by simpa using hp),I.hok,I.len⟩
theorem Inv.untri {E:Value->Shared->Prop}{more:List (Addr×Obj)}(I:Inv (X.tri pins E) more σ H s):Inv X pins σ H s:=
 ⟨⟨I.ok.mod,I.ok.kind,I.ok.glob,I.ok.blt,I.ok.above,I.ok.inj,I.ok.has,I.ok.cab,I.ok.hd,I.ok.frames,I.ok.stk,I.ok.exf,I.ok.bs,I.ok.bsz,I.ok.noex,I.ok.exfs,I.ok.funs,I.ok.frf⟩,I.os,I.bare,I.base,I.loc,I.cell,I.free,I.freeC,λp hp=>I.pin p (A3L _ hp),I.hok,I.len⟩
theorem Inv.hnd (I:Inv X pins σ H s)(a:Addr)(E:Value->Shared->Prop):Inv (X.hnd a E) pins σ H s:=
 ⟨⟨I.ok.mod,I.ok.kind,I.ok.glob,I.ok.blt,I.ok.above,I.ok.inj,I.ok.has,I.ok.cab,λz=>Bool.noConfusion z,I.ok.frames,I.ok.stk,I.ok.exf,I.ok.bs,I.ok.bsz,I.ok.noex,I.ok.exfs,I.ok.funs,I.ok.frf⟩,I.os,I.bare,I.base,I.loc,I.cell,I.free,I.freeC,I.pin,I.hok,I.len⟩
theorem Inv.unhnd {a:Addr}{E:Value->Shared->Prop}(hd:X.calm=true->X.A.handled=none)(I:Inv (X.hnd a E) pins σ H s):Inv X pins σ H s:=
 ⟨⟨I.ok.mod,I.ok.kind,I.ok.glob,I.ok.blt,I.ok.above,I.ok.inj,I.ok.has,I.ok.cab,hd,I.ok.frames,I.ok.stk,I.ok.exf,I.ok.bs,I.ok.bsz,I.ok.noex,I.ok.exfs,I.ok.funs,I.ok.frf⟩,I.os,I.bare,I.base,I.loc,I.cell,I.free,I.freeC,I.pin,I.hok,I.len⟩
end
section
variable {M:Model}{A:Around}{E:Value->Shared->Prop}{s:Shared}{K:W.Frag}{C B a:Addr}{oe:Obj}{Q:Bool->Shared->Prop}
theorem Zy (X:K.In s.heap)(c:XC K C)(b:XC K B)(hm:W.mroIn K C (.ref B)=some true)(he:s.heap.get? a=some oe)(hc:oe.cls = .ref C)(hq:Q true s):wpAny M A (excMatches (.ref a) (.ref B)) Q E s:=by
 obtain⟨nm,qn,N,bs,bm,sn,sub,ab,col,dd,k0,k1,k2,k3,k5,hl,htl⟩:=K3 b.ex;have hB:=X _ _ hl;have hcB:(Value.ref B :: bm).contains (.type "BaseException")=true:=by rw[A39,a36 (A38 X htl),Bool.or_true]
 have f:=tc_notTuple;have l1:W.Looks M s.heap (isSubtype (.ref C) (.ref B)) true:=A52 X hm;obtain⟨h,g,d,t,os⟩:=s;unfold excMatches
 repeat (first | (with_reducible refine A2B he ?_;rw[hc]) | (with_reducible refine A2B hB ?_) | (with_reducible refine A51 hB ?_;rw[hcB]) | (with_reducible refine l1.at ?_) | wp_step)
 exact hq
end
def aA7 (G:Addr->Hp->Prop):XK:=λv _ H'=>∃ a,v = .ref a/\G a H'
def sTry (K:W.Frag)(len i:Nat)(B:Addr)(G:Addr->Hp->Prop)(tb th:TS):TS:=λD σ H=>tb D σ H/\∀(a:Addr) (H':Hp) (σ':St),σ'.length=len->G a H' ->
 (∃ C od,H' a=some (exG false a C od)/\XC K C/\W.mroIn K C (.ref B)=some true) /\
  th {nx:=fun σ2 H2=>D.nx (σ2.set i none) H2,rt:=D.rt,bk:=fun σ2 H2=>D.bk (σ2.set i none) H2,ct:=fun σ2 H2=>D.ct (σ2.set i none) H2} (σ'.set i (some (.ref a))) H'
section
variable {X:Cx}{pins:List (Addr×Obj)}
theorem SP.untri {E:Value->Shared->Prop}{D:Ends}{f:Flow}{s':Shared}(h:SP (X.tri pins E) [] D f s'):SP X pins D f s':=by
 cases f with
 |next=>obtain⟨σ',H',I,q⟩:=h;exact⟨σ',H',I.untri,q⟩
 |brk=>obtain⟨σ',H',I,q⟩:=h;exact⟨σ',H',I.untri,q⟩
 |cont=>obtain⟨σ',H',I,q⟩:=h;exact⟨σ',H',I.untri,q⟩
 |ret u=>obtain⟨v,σ',H',I,r,q⟩:=h;exact⟨v,σ',H',I.untri,r,q⟩
theorem ab7 {ts:Array Value}(h:ts[3]? = some .none):ts.setIfInBounds 3 .none=ts:=by
 obtain⟨h1,h2⟩:=A21.mp h;refine Array.ext (by simp) λj j1 j2=>?_;rw[Array.getElem_setIfInBounds]
 split
 . rename_i e;subst e;exact h2.symm
 rfl
theorem at5 {body suite:List Stmt}{b0:Stmt}{tb th:TS}{n bx:Str}{i:Nat}{B:Addr}{p1 p2 pos:Pos}(G:Addr->Hp->Prop)(hN:X.N.Nodup)(hi:X.N[i]? = some n)(hk:X.env.scope.names.lookup n=some .local)(hg:Gl X bx)(hm:X.mg bx=some (.ref B))(hB:XC X.K B)
  (hst:X.stack=X.env :: X.outer) (hf:X.env.frame=some X.env.locals) (hex:X.ex=[])
  (hb:∀ ps xe,Ig (CX1 X.prog X.w) (X.tri ps xe) (aA7 G)->PSs (X.tri ps xe) body tb) (hs:∀ a xe,PSs (X.hnd a xe) (b0 :: suite) th) (hd:(bx==("__debug__":Str))=false:=by decide) :
  PS X (.Try body [.ExceptHandler (some (.Name bx p1)) (some n) (b0 :: suite) p2] [] [] pos) (sTry X.K X.N.length i B G tb th):=by
 intro pins s σ H D I h;refine wpAny_Try_except ?_;refine A1X (hb pins _ ?_ [] s σ H D (I.tri _) h.1) (λf s1 hs1=>?_) λe s1 he=>he
 . intro pins2 σ2 H2 s2 e s3 I2 hq;obtain⟨a,C',od',H3,rfl,os,bare,un,ok,ha',hn,⟨oe,vs,T,oT,ts,t1,t2,t3,t4,t5,t6,t7,t8,t9⟩,a',ea,q⟩:=hq
   cases ea;have J2:Inv X pins σ2 H2 s2:=I2.untri;obtain⟨⟨C,od,ha,hc,hmro⟩,q3⟩:=h.2 a H3 σ2 (by rw[J2.len]) q;have un':Un (frs X.stack) [] H2 H3 s2.heap s3.heap:=un
   have fun3:s3.heap.FunFrames X.base (X.env :: X.outer):=by have:=Wh (h':=s3.heap) J2.stack λb hb o ho=>un'.any ho (J2.stkFree b hb) (by simp);rwa[hst] at this
   have fr3:∀ b∈frs X.stack,H3 b=none:=λb hb=>by obtain⟨_,o,ho,_⟩:=J2.stack.mem hb;exact un'.free b o ho (J2.stkFree b hb) (by simp)
   refine Sa (base:=X.base) (L:=X.env.locals) (by have:=J2.ok.frames;rwa[hst] at this) fun3 hf t1 t2 t3 t4 t5 t6 t7 λh4 l=>?_;rw[<- hst] at l
   have ok4:HOk X.prog X.w H3 h4:=by have:=l.hok ok t1 ha fr3 (λb hb=>by simp at hb;subst hb;exact t8);rwa[Sd ha] at this
   have un4:Un (frs X.stack) [] H2 H3 s2.heap h4:=by
    have na:∀ b o,s2.heap.get? b=some o->b≠a:=λb o z e=>by rw[e,hn] at z;cases z
    have nT:∀ b o,s2.heap.get? b=some o->b∉[T]:=λb o z e=>by simp at e;rw[e,t9] at z;cases z
    refine⟨λb o z nz hb hx=>l.keep b o hb (na b o z) (nT b o z) (un'.keep b o z nz hb hx),λb o z nz hb hx=>?_,un'.free,λb o z hx=>?_,un'.tups,un'.frzs,un'.tbls⟩
    . obtain⟨sl,z1⟩:=un'.slot b o z nz hb hx;obtain⟨sl2,z2⟩:=l.slot b _ hb z1;exact⟨sl2,z2⟩
    obtain⟨o1,z1⟩:=un'.there b o z hx;exact l.there b o1 z1
   have I4:Inv X pins σ2 H3 {s3 with heap:=h4}:=J2.call' (s':={s3 with heap:=h4}) (ch:=[]) os un4 ok4 bare (λb z=>absurd z (by simp))
   obtain⟨us,sl4,he4,_⟩:=exG_ok.mp (ok4 a _ ha);obtain⟨oe',vs',T',oT',ts',q1,q2,q3',q4,q5,q6,q7,q8,q9,q10,q11⟩:=l.tr;have hd4:X.calm=true->X.A.handled=none:=I.ok.hd;refine wpAny_handleBy_cons (codeAny_handlers_test ?_) (by intro q;cases q);refine Kw (X:=X.hnd a λ_ _=>False) (I4.hnd a _) hg hm ?_ hd;refine Zy (s:={s3 with heap:=h4}) I4.kIn hc hB hmro he4 rfl ?_
   refine codeAny_handlers_suite_as ?_;have hz:3<ts'.size:=(A21.mp q11).1;refine wpAny_setFlight_none q1 q5 q6 q9 q10 hz ?_
   have same:∀ b u,h4.get? b=some u->(h4.update T' (Obj.mapFields (·.setIfInBounds 3 .none))).get? b=some u:=λb u z=>by
    by_cases e:b=T'
    . subst e;rw[q9] at z;cases z;rw[A2T _ q9 (A2U (A37 q10 _))];obtain⟨c1,d1,dt1,s1'⟩:=oT';dsimp only at q10;subst q10;refine congrArg some ?_;show Obj.mk c1 d1 (Data.fields (ts'.setIfInBounds 3 .none)) s1'=_;rw[ab7 q11]
    rw[A1Q _ _ (Ne.symm e)];exact z
   have I5:Inv X pins σ2 H3 {s3 with heap:=h4.update T' (Obj.mapFields (·.setIfInBounds 3 .none))}:=I4.kept (t':=s3.toks) same
   refine Ko (X:=X) (v:=.ref a) I5 hN hi (.inl hk) rfl (λs6 I6=>?_) (.inr hk);refine thn (hs a _ pins s6 _ H3 _ (I6.hnd a _) q3) λf s7 h7=>?_
   cases f with
   |next=>obtain⟨σ7,H7,I7,q7'⟩:=h7;exact Nv (I7.unhnd hd4) hN hi hk λs8 I8=>⟨_,_,I8,q7'⟩
   |brk=>obtain⟨σ7,H7,I7,q7'⟩:=h7;exact Nv (I7.unhnd hd4) hN hi hk λs8 I8=>⟨_,_,I8,q7'⟩
   |cont=>obtain⟨σ7,H7,I7,q7'⟩:=h7;exact Nv (I7.unhnd hd4) hN hi hk λs8 I8=>⟨_,_,I8,q7'⟩
   |ret u=>obtain⟨v,σ7,H7,I7,r7,q7'⟩:=h7;exact Nv (I7.unhnd hd4) hN hi hk λs8 I8=>⟨v,_,_,I8,r7,q7'⟩
 have hs1:=hs1.untri
 cases f with
 |next=>exact A04 hs1
 |brk=>exact hs1
 |cont=>exact hs1
 |ret u=>exact hs1
end
def Uu (P:Program)(w:World)(K:W.Frag)(mg:Str->Option Value)(base:Heap)(k:Nat)(x:Str)(ps:List Str)(sp:Sp):Prop:=
 ∃ f fd,FnOk P w K mg base (CX1 P w) k f fd ps sp/\mg x=some (.ref f)/\W.keepIn K (.ref f)=true/\Binds K fd ps []
section
variable {X:Cx}{k:Nat}{x:Str}{ps:List Str}{sp:Sp}{e:Expr}{es:List Expr}{t:TA}{p pos:Pos}{E:XK}
theorem K5 (F:Uu X.prog X.w X.K X.mg X.base k x ps sp)(hr:Room k X.A)(hg:Gl X x)(hx:Ig (CX1 X.prog X.w) X E)(ha:PA X (e :: es) t)(hdb:(x==("__debug__":Str))=false:=by decide)
  (he:starEach (e :: es) X.env=(false,eval e X.env) :: starEach es X.env:=by ac_nf) (hpl:(backTo pos (starEach es X.env)).any (·.1)=false:=by ac_nf):PE X (.Call (.Name x p) (e :: es) [] pos) (Zg sp [] E t):=by
 obtain⟨f,fd,h1,h2,h3,h4⟩:=F;exact Vc h1 hr hg h2 h3 h4 .nil hx ha hdb he hpl
end
section
variable {P:Program}{w:World}{K:W.Frag}{mg:Str->Option Value}{base:Heap}
theorem Fun.ok1 {x qual:Str}{st:Stmt}{f:Addr}{fd:FuncData}{N ps:List Str}{k:Nat}{sp:Sp}(F:Fun K x qual st f fd)(S:Ak N ps (A4 st))(len:∀ vs H Q E,sp vs H Q E->vs.length=ps.length)
  (hbody:∀(cdv:Value) (A:Around) (outer:List Env) (s:Shared) (H:Hp) (vs:List V) (Q:VK) (E:XK),Room k (A.deeper (envOfC qual (A4 st) s.heap.objs.size f cdv))->sp vs H Q E ->
   ∃ t,PSs (Uz (CX1 P w) P w K mg base N qual (A4 st) f cdv A outer s H E) (Ac st) t/\t {nx:=λ_ H'=>Q .non H',rt:=Q} (Np N vs) H):FnOk P w K mg base (CX1 P w) (k+1) f fd ps sp:=by
 obtain⟨oc,od,kV,doc,pm,an,cdv,ct,osl,rfl,lk,hcd⟩:=F.ex;exact ap7 lk hcd S len λA outer s H vs Q E hr hsp=>hbody cdv A outer s H vs Q E hr hsp
end
section
variable {K:W.Frag}{σ:St}{H H0:Hp}{D:Ends}{t:TE}{C a:Addr}{fs:List (Str×V)}{E:XK}
theorem i_sRaise (k:t σ H λx H1=>Vv K H0 E x H1):a60 K H0 E t D σ H:=k
theorem ac3 (h:ExA H a C fs)(c:XC K C)(h0:H0 a=none)(k:∀ H2,(∀ b o,b≠a->H b=some o->H2 b=some o)->ExB false H2 a C fs->E (.ref a) none H2):Vv K H0 E (.ref a) H:=by
 have kp:∀ od b o,b≠a->H b=some o->upd H a (exG false a C od) b=some o:=λod b o hb q=>by rw[Al hb];exact q
 rcases h with ⟨e1,h⟩|⟨dx,ne,h,g⟩
 . exact⟨a,C,none,rfl,h,c,h0,k _ (kp _) (.inl ⟨e1,A8⟩)⟩
 exact⟨a,C,some dx,rfl,h,c,h0,k _ (kp _) (.inr ⟨dx,ne,A8,kp _ _ _ ne g⟩)⟩
end
section
open Lean
def mWay (s:String):MacroM (TSyntax `tactic):=
 if s == "as" then `(tactic| assumption) else if s == "ar" then `(tactic| with_reducible assumption) else `(tactic| walk_at $(quote s))
def W6 (ts:Array (TSyntax `tactic)):MacroM (TSyntax `tactic):=do
 let ts <- ts.mapM λt=>`(Lean.Parser.Tactic.tacticSeq| $t:tactic)
 `(tactic| first $[| $ts]*)
def mId (s:String):Ident:=mkIdent ((s.splitOn ".").foldl Name.mkStr Name.anonymous)
def mIs (s:String):MacroM Ident:=do return mkIdent (<- Macro.addMacroScope (.mkSimple s))
def Vi:List String->TSyntax `tactic->MacroM (TSyntax `tactic)
 | [],t=>pure t
 |s :: r,t=>do
   match s.splitOn "=" with
   | [x,y]=>let w <- mWay y;let i <- mIs x;Vi r (<- `(tactic| ($t:tactic;(case $i:ident=>$w:tactic))))
   |_=>Vi r t
def mRow (s:String):MacroM (TSyntax `tactic):=do
 match s.splitOn ": " with
 | [h,c]=>
   match h.splitOn " " with
   |f :: as=>
     let xs <- as.toArray.mapM λa=>do if a == "_" then `(?_) else `(?$(<- mIs a))
     let u:=Syntax.mkApp (mId f) xs
     let t <- if as.contains "_" then `(tactic| with_reducible refine' $u) else `(tactic| refine' $u)
     Vi (c.splitOn " ") t
   |_=>Macro.throwUnsupported
 |_=>do
   if s == "as" then `(tactic| assumption)
   else if s == "no" then `(tactic| fail "no")
   else `(tactic| exact $(mId s))
def mRows (s:String):MacroM (TSyntax `tactic):=do W6 (<- (s.splitOn " | ").toArray.mapM mRow)
def mAlts (s:String):MacroM (TSyntax `tactic):=do
 let a <- W6 (<- (s.splitOn " ").toArray.mapM λn=>`(tactic| refine $(mId n) ?_))
 `(tactic| with_reducible $a:tactic)
def mAltG (s:String):MacroM (TSyntax `tactic):=do
 let a <- W6 (<- (s.splitOn " ").toArray.mapM λn=>`(tactic| refine $(mId n) λN hN=>?_))
 `(tactic| with_reducible $a:tactic)
end
section
open PySem
theorem same_refl {H:Hp}:Same H H:=Same.refl _
theorem fz_refl {H:Hp}:Fz H H:=Fz.refl _
def Cut (N M:St->Hp->Prop):Prop:=∀ σ H,M σ H->N σ H
section
variable {t u:TS}{te td ty tv:TE}{g:TG}{D:Ends}{σ:St}{H:Hp}
theorem aq2 (k:∀ N:St->Hp->Prop,Cut N (u D)->t {D with nx:=N} σ H):at8 t u D σ H:=k (u D) λ_ _ h=>h
theorem i_seqAG (k:∀ N:St->Hp->Prop,Cut N (u D)->aj7 te g {D with nx:=N} σ H):at8 (aj7 te g) u D σ H:=k (u D) λ_ _ h=>h
theorem i_nxS {i:Nat}{rt:VK}{bk ct:St->Hp->Prop}(k:D.nx (σ.set i none) H):Ends.nx {nx:=fun σ2 H2=>D.nx (σ2.set i none) H2,rt:=rt,bk:=bk,ct:=ct} σ H:=k
theorem i_cutN {N M:St->Hp->Prop}(h:Cut N M)(k:M σ H):N σ H:=h _ _ k
end
theorem at0 {α:Type}{P:List α->Prop}{us:List α}(hl:us.length=0)(h:P []):P us:=by rw[A12.mp hl];exact h
theorem a47 {α:Type}{P:List α->Prop}{us:List α}(hl:us.length=1)(h:∀ a0:α,P [a0]):P us:=by
 cases us with
 |nil=>cases hl
 |cons a r=>exact at0 (P:=λr=>P (a :: r)) (A4P hl) (h a)
theorem a66 {α:Type}{P:List α->Prop}{us:List α}(hl:us.length=2)(h:∀ a0 a1:α,P [a0,a1]):P us:=by
 cases us with
 |nil=>cases hl
 |cons a r=>exact a47 (P:=λr=>P (a :: r)) (A4P hl) (h a)
theorem a53 {α:Type}{P:List α->Prop}{us:List α}(hl:us.length=3)(h:∀ a0 a1 a2:α,P [a0,a1,a2]):P us:=by
 cases us with
 |nil=>cases hl
 |cons a r=>exact a66 (P:=λr=>P (a :: r)) (A4P hl) (h a)
theorem ak8 {α:Type}{P:List α->Prop}{us:List α}(hl:us.length=4)(h:∀ a0 a1 a2 a3:α,P [a0,a1,a2,a3]):P us:=by
 cases us with
 |nil=>cases hl
 |cons a r=>exact a53 (P:=λr=>P (a :: r)) (A4P hl) (h a)
theorem as6 {α:Type}{P:List α->Prop}{us:List α}(hl:us.length=5)(h:∀ a0 a1 a2 a3 a4:α,P [a0,a1,a2,a3,a4]):P us:=by
 cases us with
 |nil=>cases hl
 |cons a r=>exact ak8 (P:=λr=>P (a :: r)) (A4P hl) (h a)
end
section
variable {K:W.Frag}{x qual:Str}{st:Stmt}{f:Addr}{fd:FuncData}
theorem Fc {p0:Str}(F:Fun K x qual st f fd)(h:∀(kV doc pm:Value) (an:Option Addr) (cdv ct:Value) (u0:Value),bindArgs (W.fnOf x qual (Ad st) (Ac st) (A4 st) .none kV doc pm an cdv ct) ⟨[u0],[]⟩=pure (([p0]:List Str).zip [u0])):Binds K fd [p0] []:=
 F.binds λkV doc pm an cdv ct us hl=>a47 (P:=λus=>bindArgs (W.fnOf x qual (Ad st) (Ac st) (A4 st) .none kV doc pm an cdv ct) ⟨us,[]⟩=pure (([p0]:List Str).zip us)) hl (h kV doc pm an cdv ct)
theorem Fq {p0 p1:Str}(F:Fun K x qual st f fd)(h:∀(kV doc pm:Value) (an:Option Addr) (cdv ct:Value) (u0 u1:Value),bindArgs (W.fnOf x qual (Ad st) (Ac st) (A4 st) .none kV doc pm an cdv ct) ⟨[u0,u1],[]⟩=pure (([p0,p1]:List Str).zip [u0,u1])):Binds K fd [p0,p1] []:=
 F.binds λkV doc pm an cdv ct us hl=>a66 (P:=λus=>bindArgs (W.fnOf x qual (Ad st) (Ac st) (A4 st) .none kV doc pm an cdv ct) ⟨us,[]⟩=pure (([p0,p1]:List Str).zip us)) hl (h kV doc pm an cdv ct)
theorem a33 {p0 p1 p2:Str}(F:Fun K x qual st f fd)(h:∀(kV doc pm:Value) (an:Option Addr) (cdv ct:Value) (u0 u1 u2:Value),bindArgs (W.fnOf x qual (Ad st) (Ac st) (A4 st) .none kV doc pm an cdv ct) ⟨[u0,u1,u2],[]⟩=pure (([p0,p1,p2]:List Str).zip [u0,u1,u2])):Binds K fd [p0,p1,p2] []:=
 F.binds λkV doc pm an cdv ct us hl=>a53 (P:=λus=>bindArgs (W.fnOf x qual (Ad st) (Ac st) (A4 st) .none kV doc pm an cdv ct) ⟨us,[]⟩=pure (([p0,p1,p2]:List Str).zip us)) hl (h kV doc pm an cdv ct)
theorem al6 {p0 p1 p2 p3 p4:Str}(F:Fun K x qual st f fd)(h:∀(kV doc pm:Value) (an:Option Addr) (cdv ct:Value) (u0 u1 u2 u3 u4:Value),bindArgs (W.fnOf x qual (Ad st) (Ac st) (A4 st) .none kV doc pm an cdv ct) ⟨[u0,u1,u2,u3,u4],[]⟩=pure (([p0,p1,p2,p3,p4]:List Str).zip [u0,u1,u2,u3,u4])):Binds K fd [p0,p1,p2,p3,p4] []:=
 F.binds λkV doc pm an cdv ct us hl=>as6 (P:=λus=>bindArgs (W.fnOf x qual (Ad st) (Ac st) (A4 st) .none kV doc pm an cdv ct) ⟨us,[]⟩=pure (([p0,p1,p2,p3,p4]:List Str).zip us)) hl (h kV doc pm an cdv ct)
end
section
open PySem.SeqAt PySem.MeetsSeq
variable {A:Around}{s:Shared}
end
section
variable {prog:Program}{w:World}{A:Around}{E:Value->Shared->Prop}{s:Shared}
set_option maxRecDepth 100000 in
end
section
variable {X:Cx}{pos p2:Pos}
end
section
variable {P:Program}{w:World}{A:Around}{E:Value->Shared->Prop}{z:Shared}
end
section
variable {X:Cx}{K:W.Frag}
end
section
variable {K:W.Frag}{H:Hp}{Q:VK}
end
section
variable {X:Cx}{pins:List (Addr×Obj)}{σ:St}{H:Hp}{s:Shared}
end
mutual
def au6:PyData->Bool
 |.str z=>z.cps.toList.all λc=>decide (c<128)
 |.list ds=>aw8 ds
 |.tuple ds=>aw8 ds
 |.dict _=>false
 |_=>true
def aw8:List PyData->Bool
 | []=>true
 |d :: ds=>au6 d&&aw8 ds
end
mutual
def ax8:PyData->Nat
 |.list ds=>max ds.length (aw1 ds)
 |.tuple ds=>max ds.length (aw1 ds)
 |_=>0
def aw1:List PyData->Nat
 | []=>0
 |d :: ds=>max (ax8 d) (aw1 ds)
end
structure Dk (p w W:Nat)(D:PyData):Prop where
 asc:au6 D=true
 lay:D.canLay0=true
 sh:D.showable=true
 lv:D.leavesShort 45=true
 dp:D.depth<=p
 wt:D.weight<=w
 wd:ax8 D<=W
theorem Xw {xs:List V}{t:Int}(h0:0<=t):Kl xs (some t) none=xs.drop t.toNat:=by
 by_cases h:t<=xs.length
 . exact Se h0 h
 have e:HT.sIx xs.length 0 (some t)=xs.length:=by unfold HT.sIx;simp[show ¬ t<0 by omega];omega
 unfold Kl;rw[e,List.drop_length,List.take_nil,List.drop_eq_nil_of_le ∅]
section
variable {X:Cx}{K:W.Frag}
def Xb (K:W.Frag):List V->Hp->VK->Prop:=λxs H Q=>∃ x d,xs=[x]/\Is K H d x/\d.showable=true/\d.shown.length<=sizeLine/\d.depth<=100/\Q (.str d.shown) H
theorem Uh (hq:QA X.A):CallR X (.builtin "repr") (Xb X.K):=by
 intro pins s σ H xs us Q I rv h;obtain⟨x,d,rfl,i,hs,hf,hd,q⟩:=h
 cases d with
 |none=>simp only[Is] at i;subst i;exact Mg pins s σ H _ us Q I rv (.inr ⟨rfl,q⟩)
 |bool b=>
   simp only[Is] at i;subst i;refine Mg pins s σ H _ us Q I rv (.inl ⟨b,rfl,?_⟩)
   cases b<;>exact q
 |int n=>simp only[Is] at i;subst i;exact Ux pins s σ H _ us Q I rv ⟨n,rfl,of_decide_eq_true (by simpa only[PyData.showable] using hs),q⟩
 |str z=>simp only[Is] at i;subst i;obtain⟨u,rfl,ru⟩:=rv.one;obtain⟨t,rfl⟩:=ru;exact PySem.P.repr_of_str ⟨.str _,H,I.tok _,⟨_,rfl⟩,q⟩ hf
 |list ds=>exact Mi hq pins s σ H _ us Q I rv ⟨x,_,rfl,i,⟨rfl,hs,hf,hd⟩,q⟩
 |tuple ds=>exact Mi hq pins s σ H _ us Q I rv ⟨x,_,rfl,i,⟨rfl,hs,hf,hd⟩,q⟩
 |dict kvs=>simp only[Is] at i
theorem Lj (hq:QA X.A)(hK:X.K=K:=by ac_nf):CallR X (.builtin "repr") (Xb K):=hK ▸ Uh hq
theorem Nz {H:Hp}{Q:VK}{d:PyData}{x:V}(h:Is K H d x)(h1:d.showable=true)(h2:d.shown.length<=sizeLine)(h3:d.depth<=100)(k:Q (.str d.shown) H):Xb K [x] H Q:=⟨x,d,rfl,h,h1,h2,h3,k⟩
theorem Dk.told {p w W:Nat}{D:PyData}(h:Dk p w W D)(hp:p<=60)(hw:w<=100000):D.showable=true/\D.shown.length<=sizeLine/\D.depth<=100:=by have h2:=PyData.shown_le 45 nofun D h.lv;have h3:=h.wt;have h4:=h.dp;refine⟨h.sh,?_,by omega⟩;rw[A14];omega
end
section
variable {prog:Program}{w:World}{A:Around}{E:Value->Shared->Prop}{s:Shared}
end
section
variable {P:Program}{w:World}{A:Around}{R:Result->Shared->Prop}{it:Addr}{fp wr:List Addr}{G:Array GenState->Array GenState->Prop}{n:Nat}{PV:Nat->Value->Prop}{St:Nat->Shared->Prop}
end
section
variable {prog:Program}{w:World}{A:Around}{E:Value->Shared->Prop}{s:Shared}
set_option maxHeartbeats 3200000 in
end
section
variable {X:Cx}{K:W.Frag}
end
end L2
namespace L2
open PySem PySem.Spec PyProof.Rows
open Builtin
section
variable {X:Cx}{K:W.Frag}
end
end L2
namespace L2
open PySem PySem.Spec PyProof.Rows
section
variable {P:Program} {w:World} {K:W.Frag} {mg:Str->Option Value} {base:Heap} {k:Nat} {f:Addr} {fd:FuncData} {ps:List Str} {sp sp':Sp}
end
theorem L7:∀(k fuel n:Nat) (ds:List Char),1<=k->n<10 ^ k->(Nat.toDigitsCore 10 fuel n ds).length<=ds.length+k
 |_,0,n,ds,_,_=>by simp[Nat.toDigitsCore]
 |k,fuel+1,n,ds,hk,hn=>by
   unfold Nat.toDigitsCore;dsimp only
   split
   . simp;omega
   rename_i h0
   cases k with
   |zero=>omega
   |succ k=>
     have h1:n / 10<10 ^ k:=by rw[Nat.div_lt_iff_lt_mul ∅];rw[A4M] at hn;exact hn
     have hk1:1<=k:=by
      cases k with
      |zero=>simp at h1;omega
      |succ _=>omega
     have:=L7 k fuel (n / 10) (Nat.digitChar (n % 10) :: ds) hk1 h1;rw[A0L] at this;omega
theorem af1 (s:String):(s:Str).length=s.toList.length:=by show(Str.ofString s).cps.size=_;rw[Str.ofString_eq_byList];unfold Str.ofStringByList;simp
theorem Tb {n:Nat}(h:n<10 ^ 44):(Nat.repr n).toList.length<=44:=by unfold Nat.repr Nat.toDigits;have:=L7 44 (n+1) n [] ∅ h;simpa using this
theorem Xo {m:Int} (h:m.natAbs<10 ^ 44):(PyData.int m).shown.length<=45:=by
 simp only[PyData.shown];rw[af1]
 cases m with
 |ofNat n=>have:(toString (Int.ofNat n):String)=Nat.repr n:=rfl;rw[this];exact A0Q (Tb h) ∅
 |negSucc n=>
   have:(toString (Int.negSucc n):String) = "-" ++ Nat.repr (n+1):=rfl;rw[this];have h2:=Tb (n:=n+1) h;rw[String.toList_append,A09];have:("-":String).toList.length=1:=by decide
   omega
theorem a78 {m:Int}(h:m.natAbs<10 ^ 44):m.natAbs.log2<147:=by
 by_cases h0:m.natAbs=0
 . rw[h0];decide
 exact(Nat.log2_lt h0).mpr (A3G h nofun)
theorem ap5 {p W:Nat}{m:Int}(h:m.natAbs<10 ^ 44):Dk p 150 W (.int m):=by
 have hl:=a78 h;refine⟨by simp only[au6],by simp only[PyData.canLay0],?_,?_,by simp only[PyData.depth];omega,?_,by simp only[ax8];omega⟩
 . simp only[PyData.showable];exact A19 ∅
 . simp only[PyData.leavesShort];exact A19 (Xo h)
 simp only[PyData.weight]
 split<;>omega
section
variable {P:Program}{w:World}{A:Around}{E:Value->Shared->Prop}{z:Shared}
end
section
variable {X:Cx}{K:W.Frag}
end
section
variable {K:W.Frag}{σ:St}{H:Hp}{Q:VK}
end
section
variable {X:Cx}{K:W.Frag}{H:Hp}{Q:VK}
end
section
variable {X:Cx}{K:W.Frag}
end
section
variable {α:Type}[DecidableEq α]
end
section
variable {α:Type} [DecidableEq α]
theorem X8 {l m:List α}(hn:l.Nodup)(h:∀ x∈l,x∈m):l.length<=m.length:=by
 induction l generalizing m with
 |nil=>simp
 |cons a l ih=>
   obtain⟨h1,h2⟩:=A0H.mp hn;have ha:=h a (.head _)
   have:=ih (m:=m.erase a) h2 λx hx=>by have hne:x≠a:=λe=>h1 (e ▸ hx);exact(List.mem_erase_of_ne hne).mpr (h x (.tail _ hx))
   rw[List.length_erase_of_mem ha] at this;have hp:0<m.length:=List.length_pos_of_mem ha;rw[A0L];omega
end
section
variable {α:Type}[DecidableEq α]
end
section
variable {X:Cx}{pins:List (Addr×Obj)}{σ:List (Option V)}{H:Hp}{s:Shared}{h':Heap}
variable {K:W.Frag}
end
section
variable {α:Type}[DecidableEq α]
theorem L1 {a z:α}(r:List α)(h:¬ a=z):(a :: r).idxOf z=r.idxOf z+1:=by
 have e:(a==z)=false:=by simp[h]
 rw[List.idxOf_cons,e];rfl
theorem Wz {r:List α}(hn:r.Nodup){x y:α}(hx:x∈r)(hy:y∈r)(hxy:x≠y):r.idxOf x<r.idxOf y↔r.Pairwise λu v=>¬ (u=y/\v=x):=by
 induction r with
 |nil=>cases hx
 |cons a r ih=>
   obtain⟨h1,h2⟩:=A0H.mp hn;rw[A18]
   by_cases hax:a=x
   . subst hax;have hya:¬ a=y:=hxy;rw[A4U,L1 _ hya];refine⟨λ_=>⟨λv _ ⟨e,_⟩=>hxy e,List.pairwise_iff_forall_sublist.mpr fun {u v} hs ⟨_,e⟩=>h1 (e ▸ hs.subset (by simp))⟩,λ_=>Nat.succ_pos _⟩
   have hxr:x∈r:=(A0B.mp hx).resolve_left λe=>hax e.symm
   by_cases hay:a=y
   . subst hay;rw[A4U];exact⟨λh=>absurd h (A2V _),λh=>absurd ⟨rfl,rfl⟩ (h.1 x hxr)⟩
   have hyr:y∈r:=(A0B.mp hy).resolve_left λe=>hay e.symm;rw[L1 _ hax,L1 _ hay,Nat.add_lt_add_iff_right,ih h2 hxr hyr];exact⟨λh=>⟨λv _ ⟨e,_⟩=>hay e,h⟩,λh=>h.2⟩
variable {β:Type}[DecidableEq β]
end
section
variable {X:Cx}{k:Nat}{x:Str}{ps:List Str}{sp:Sp}{e:Expr}{es:List Expr}{t:TA}{p pos:Pos}{E:St->XK}
end
section
variable {X:Cx}{pins:List (Addr×Obj)}
end
section
variable {α:Type}[DecidableEq α]
end
section
variable {ns ns':List Str}{ps ps':List (Str×Str)}
variable {qs:List (Str×Str)}
end
section
variable {M:Model}{A:Around}{E:Value->Shared->Prop}{s:Shared}{base:Heap}{env:Env}{outer:List Env}{L a:Addr}{oe:Obj}{vs:Array Value}{Q:Unit->Shared->Prop}
end
section
variable {P:Program}{w:World}{fs:List Addr}{a C:Addr}{od:Option Addr}{oe:Obj}{old:List Addr}{h h':Heap}{H:Hp}{n:Bool}
end
section
variable {P:Program}{w:World}{K:W.Frag}{mg:Str->Option Value}{base:Heap}{N:List Str}{qual:Str}{scope:Scope}{f:Addr}{cd:Value}{A:Around}{outer:List Env}{s₀:Shared}{H₀:Hp}{E:XK}
end
section
variable {X:Cx}{scope:Scope}{xs fr:List Str}{pins:List (Addr×Obj)}{σ:St}{H:Hp}{s:Shared}{js:List Nat}{fp:List Addr}
end
section
variable {X:Cx}{k:Nat}{C:Addr}{m:Str}{ps:List Str}{sp:Sp}{e o:Expr}{es:List Expr}{ta:TE}{t:TA}{p pos apos:Pos}{E:XK}
end
section
variable {σ:St}{H:Hp}{Q:VK}{C:Addr}{m:Str}{sp:Sp}{ta:TE}{t:TA}{E:XK}
end
section
variable {P:Program}{w:World}{K:W.Frag}{mg:Str->Option Value}{base:Heap}
end
section
variable {X:Cx}{k:Nat}{x:Str}{ps:List Str}{sp:Sp}{e:Expr}{es:List Expr}{t:TA}{p pos:Pos}
end
section
variable {X:Cx}
end
section
variable {α:Type}[DecidableEq α]{b:α->α->Bool}
end
section
variable {X:Cx}{K:W.Frag}
end
section
variable {K:W.Frag}{σ:St}{H:Hp}
end
section
variable {K:W.Frag}{H H':Hp}{x:V}{ns:List Str}{σ:St}{Q:VK}
end
section
variable {ns A B:List Str}{pA pB S:List (Str×Str)}
end
section
variable {prog:Program}{w:World}{A:Around}{E:Value->Shared->Prop}{s:Shared}{Q:Value->Shared->Prop}
end
section
variable {X:Cx}{pins:List (Addr×Obj)}{σ:List (Option V)}{H:Hp}{s:Shared}{h':Heap}
end
section
variable {X:Cx}{K:W.Frag}
end
section
variable {ns A B:List Str}{pA pB S:List (Str×Str)}
end
section
variable {prog:Program}{w:World}{A:Around}{E:Value->Shared->Prop}{s:Shared}{Q:Value->Shared->Prop}
end
section
variable {X:Cx}{pins:List (Addr×Obj)}{σ:List (Option V)}{H:Hp}{s:Shared}{h':Heap}
end
section
variable {X:Cx}{pins:List (Addr×Obj)}{σ:List (Option V)}{H:Hp}{s:Shared}
end
section
variable {ns row:List Str}{ps:List (Str×Str)}
end
section
variable {X:Cx}
end
section
variable {prog:Program}{w:World}{A:Around}{E:Value->Shared->Prop}{s:Shared}
theorem R6 {sl:Addr}{k:Int}{tk:Tok}{Q:Int×Int×Nat->Shared->Prop}(hs:s.heap.IsSliceOf sl .none .none (.int k tk))(hk:k=1\/k = -1)(h:Q (if k=1 then(0,1,2) else(1,-1,2)) s) :
  wpAny (model prog w) A (Builtin.Slice.sliceApplied (.ref sl) (pure ((2:Nat):Int))) Q E s:=by
 obtain⟨os,hos,hcs,hds⟩:=id hs;unfold Builtin.Slice.sliceApplied Builtin.Slice.sliceFields;refine A00 (A00 (A2R hos hds (x:=.none) rfl (A00 (A2R hos hds (x:=.none) rfl (A00 (A2R hos hds (x:=.int k tk) rfl (A04 ?_)))))));refine A00 (HT.slicePart_ (.int k tk) ?_);rcases hk with rfl|rfl
 . show wpAny _ _ (if((1:Int)==0)=true then _ else _) _ _ s
   rw[A0S nofun];refine A00 (HT.slicePart_ .none (A00 (HT.slicePart_ .none (A00 (A04 ?_)))));exact A04 h
 show wpAny _ _ (if((-1:Int)==0)=true then _ else _) _ _ s
 rw[A0S nofun];refine A00 (HT.slicePart_ .none (A00 (HT.slicePart_ .none (A00 (A04 ?_)))));exact A04 h
theorem Rl {t sl:Addr}{x y:Value}{k:Int}{tk:Tok}{Q:Value->Shared->Prop}(ht:IsTup s.heap t #[x,y])(hs:s.heap.IsSliceOf sl .none .none (.int k tk))(hk:k=1\/k = -1)(h1:k=1->Q (.ref t) s)
  (h2:k = -1->Q (.ref s.heap.objs.size) {s with heap:=s.heap.push {cls:=.type "tuple",data:=.seq #[y,x]}}):wpAny (model prog w) A (getItem (.ref t) (.ref sl)) Q E s:=by
 obtain⟨os,hos,hcs,hds⟩:=id hs;have hTs:s.TypeIs (.ref sl) "slice":=⟨os,hos,hcs⟩;unfold getItem
 try with_reducible refine A1H ?_
 first | refine A00 (A04 ?_) | skip
 refine A00 (wpAny_sequenceKey ht.typeIs nofun ?_)
 refine A00 (A1V (name:=Str.ofString "__getitem__") ht.typeIs A1K
  (A24 A1K ht.typeIs entry_tuple_getitem ?_ (args_tuple_getitem _ _)))
 show wpAny _ _ (Builtin.Tuple.tupleItemsOf (.ref t) >>= _) _ _ s;refine A00 (tupleItemsOf_ ht ?_);refine A00 (A3F hTs ?_);rw[A0W nofun];refine A00 (R6 hs hk ?_);rcases hk with rfl|rfl
 . show wpAny _ _ (if(((0:Int)==0&&(1:Int)==1&&(2:Nat)==2))=true then _ else _) _ _ s
   rw[A0W nofun];have fin:∀ s',s'=s->Q (.ref t) s':=λs' e=>by subst e;exact h1 rfl
   clear h1 h2;unfold Builtin.Tuple.tupleIsExact;obtain⟨hp,g,d,tk',os'⟩:=s;have hT:=ht.typeIs
   repeat (any_goals (first | assumption | wp_step))
   exact⟨_,rfl,A04 (fin _ rfl)⟩
 show wpAny _ _ (if(((1:Int)==0&&(-1:Int)==1&&(2:Nat)==2))=true then _ else _) _ _ s
 rw[A0S nofun];have e:(((List.range 2).filterMap λ(m:Nat)=>(#[x,y]:Array Value)[((1:Int)+(m:Int)*(-1)).toNat]?).toArray) = #[y,x]:=rfl
 have htake:sizeOk (.seq (#[y,x]:Array Value)):=by show(#[y,x]:Array Value).size<=sizeLine;rw[A14];exact Nat.le_of_ble_eq_true rfl
 have h:=h2 rfl;show wpAny _ _ (Builtin.Tuple.tupleExact (((List.range 2).filterMap λ(m:Nat)=>(#[x,y]:Array Value)[((1:Int)+(m:Int)*(-1)).toNat]?).toArray) >>= _) _ _ s;rw[e]
 first
  |exact A00 (m:=Builtin.Tuple.tupleExact _) (A1L (A04 ⟨_,rfl,A04 h⟩) htake)
  |exact A00 (m:=Builtin.Tuple.tupleExact _) (A1L (A00 (A04 (A04 ⟨_,rfl,A04 h⟩))) htake)
  |exact A00 (A00 (m:=Builtin.Tuple.tupleExact _) (A1L (A04 (A04 ⟨_,rfl,A04 h⟩)) htake))
end
section
variable {X:Cx}{K:W.Frag}
def Sn (K:W.Frag):V->V->Hp->VK->Prop:=λx y H Q=>∃ a p q k,x = .ref a/\y = .int k/\(k=1\/k = -1)/\SqT K H a [p,q]/\(k=1->Q (.ref a) H)/\(k = -1->∀ b,H b=none->Q (.ref b) (upd H b (.tup [q,p])))
theorem Nm {e st:Expr}{te ts:TE}{p2 pos:Pos}(he:PE X e te)(hst:PE X st ts)(hK:X.K=K:=by ac_nf):PE X (.Subscript e (.Slice none none (some st) p2) pos) (tOp (Sn K) te ts):=by
 subst hK;intro pins s σ H Q I h;refine Subscript_ (thn (he pins s σ H _ I h) λv s1 ⟨x,H1,I1,r1,q1⟩=>?_);refine wpAny_Slice ?_;rw[evalPart_none];refine A04 (A04 ?_);rw[evalPart_some];refine thn (hst pins s1 σ H1 _ I1 q1) λu s2 ⟨y,H2,I2,r2,q2⟩=>?_;obtain⟨a,p,q,k,rfl,rfl,hk,hx,c1,c2⟩:=q2
 cases r1;obtain⟨t,rfl⟩:=r2;have I4:Inv X pins σ H2 {s2 with heap:=s2.heap.push {cls:=.type "slice",data:=.fields #[.none,.none,.int k t]}}:=I2.kept (t':=s2.toks) λb ob q=>A03 _ q
 obtain⟨its,r,ht,hz⟩:=I4.tuple hx;obtain⟨x1,x2,rfl,rx1,rx2⟩:=Vals.two r;refine tail_any (ops:=[.ref a,.ref s2.heap.objs.size]) ht.typeIs PyProof.Rows.slot_tuple_getitem.lookup ?_ ⋯;refine Rl ht (Heap.IsSliceOf.new ..) hk (λe=>⟨.ref a,H2,I4,rfl,c1 e⟩) λe=>?_;refine⟨.ref _,_,I4.laid (t':=s2.toks) (o:=.tup [q,p]) (λb ob q=>A03 _ q) (A07 _) ?_,rfl,c2 e _ (I4.hok.fresh (A07 _))⟩;exact⟨by rw[sizeLine_eq];simp,[x2,x1],.cons rx2 (.cons rx1 .nil),IsTupN.new _ _⟩
theorem ag2 {a:Addr}{p q:V}{k:Int}{H:Hp}{Q:VK}(h:SqT K H a [p,q])(hk:k=1\/k = -1)(c:∀ b H',Same H H'->SqT K H' b (if k=1 then [p,q] else [q,p])->Q (.ref b) H'):Sn K (.ref a) (.int k) H Q:=
 ⟨a,p,q,k,rfl,rfl,hk,h,λe=>c a H (.refl _) (by rw[A0W e];exact h),λe b hb=>c b _ (Same.upd hb) (by rw[A0S ∅];exact SqT.of A8)⟩
end
section
variable {ps ps':List (Str×Str)}
end
section
variable {X:Cx}{k:Nat}{C:Addr}{x:Str}{ps:List Str}{sp:Sp}{e:Expr}{es:List Expr}{t:TA}{p pos:Pos}{E:XK}
end
section
variable {C:Addr} {sp:Sp} {t:TA} {σ:St} {H:Hp} {Q:VK} {E:XK}
end
theorem Pn {b:Str->Str->Bool}(hb:∀ x y,b x y=false):∀(n:Nat) (L:List Str),L.length=n->L.Nodup->cnt b L=fac n
 |0,L,h,_=>by rw[A12.mp h,L2.cnt_nil];rfl
 |n+1,L,h,hn=>by
   rw[Ma hn (by intro z;rw[z] at h;cases h)];have hf:frF b L=L:=List.filter_eq_self.mpr λx hx=>by simp[hb]
   rw[hf];have h1:(L.map λx=>cnt b (Bg L x))=L.map λ_=>fac n:=A0Y λx hx=>Pn hb n (Bg L x) (by have:=Cg hn hx;omega) (C2 hn x);rw[h1,List.map_const',List.sum_replicate_nat,h]
   first | rfl | exact A4G _ _
section
variable {K:W.Frag}{C B:Addr}{hf i0:Bool}{fs:List Str}
end
section
variable {P:Program}{w:World}{K:W.Frag}{mg:Str->Option Value}{base:Heap}{A:Around}{outer:List Env}{s:Shared}{H:Hp}
end
section
variable {X:Cx}{pins:List (Addr×Obj)}{σ:List (Option V)}{H:Hp}{s s':Shared}
end
section
variable {X:Cx}{pins:List (Addr×Obj)}{σ:List (Option V)}{H:Hp}{s:Shared}
end
def drop (H:Hp)(a:Addr):Hp:=λb=>if b=a then none else H b
section
variable {X:Cx}{k:Nat}{x:Str}{ps:List Str}{sp:Sp}{e:Expr}{es:List Expr}{t:TA}{p pos:Pos}
end
section
variable {prog:Program}{w:World}{A:Around}{E:Value->Shared->Prop}{s:Shared}
abbrev TKd (prog:Program)(w:World):=tupleKind (Ax prog w)
def a70 (pk:List (List Key×Addr×Value×Addr)):List (List Key×Addr×Value):=pk.foldl (λxs p=>storedH xs p.1 p.2.1 p.2.2.1) []
theorem a94 (pk:List (List Key×Addr×Value×Addr)):(a70 pk).length<=pk.length:=by
 have go:∀(pk:List (List Key×Addr×Value×Addr)) (xs:List (List Key×Addr×Value)),(pk.foldl (λxs p=>storedH xs p.1 p.2.1 p.2.2.1) xs).length<=xs.length+pk.length:=λpk=>by
  induction pk with
  |nil=>intro xs;exact A07 _
  |cons p pk ih=>
    intro xs;have:=ih (storedH xs p.1 p.2.1 p.2.2.1)
    have h:(storedH xs p.1 p.2.1 p.2.2.1).length<=xs.length+1:=by
     unfold storedH
     split
     . rw[A01];omega
     rw[A09];exact A07 _
    rw[A20,A0L];omega
 have:=go pk [];rw[A35,Nat.zero_add] at this;exact this
theorem Ky {h h':Heap}{ks:List Key}{a:Addr}(e:(TKd prog w).is h ks a)(k:∀ o,h.get? a=some o->h'.get? a=some o):(TKd prog w).is h' ks a:=by obtain⟨o,its,n,h1,r⟩:=e;exact⟨o,its,n,k o h1,r⟩
theorem Pe {h h':Heap}{I D:Addr}{xs:List (List Key×Addr×Value)}(hI:∃ o vs,h.get? I=some o/\o.data = .fields vs)(hDI:D≠I)(k:∀ b o,b≠I->h.get? b=some o->h'.get? b=some o)(d:h.DictOfH (TKd prog w) D xs):h'.DictOfH (TKd prog w) D xs:=by
 obtain⟨o,es,ep,ho,hc,hd,he,his,hn⟩:=d;refine⟨o,es,ep,k D o hDI ho,hc,hd,he,λx hx=>?_,hn⟩;obtain⟨ok,its,n,h1,r⟩:=his x hx;refine⟨ok,its,n,k _ ok (λe=>?_) h1,r⟩;obtain⟨oI,vs,hI,hv⟩:=hI;rw[e,hI] at h1
 cases h1;have:=r.2.1;rw[hv] at this
 cases this
theorem Ub {I D l:Addr}{items:Array Value}(hh:A.in1.handled=none)(hu:(TKd prog w).room A.in1)(hne:l≠I)(hDI:D≠I)(hDl:D≠l)(pk:List (List Key×Addr×Value×Addr))(hlen:pk.length=items.size)(hz:items.size<=1000000) :
  ∀(j i:Nat) (s:Shared) (R:Result->Shared->Prop),items.size-i=j->i<=items.size->s.heap.IsListIter I l i->s.heap.IsList l items ->
   s.heap.DictOfH (TKd prog w) D (a70 (pk.take i)) ->
   (∀(n:Nat) (p:List Key×Addr×Value×Addr),pk[n]? = some p->items[n]? = some (Value.ref p.2.2.2)/\p.2.2.2≠I/\p.2.2.2≠D/\IsTup s.heap p.2.2.2 #[.ref p.2.1,p.2.2.1]/\p.2.1≠I/\p.2.1≠D/\(TKd prog w).is s.heap p.1 p.2.1) ->
   (∀ h' tk,h'.DictOfH (TKd prog w) D (a70 pk)->(∀ b o,b≠D->b≠I->s.heap.get? b=some o->h'.get? b=some o)->R (.ok (.ret .none)) {s with heap:=h',toks:=tk}) ->
   codeAny (model prog w) A (.builtin "dict.update.loop" ⟨[.ref D,.ref I,.int i 0,.none],[]⟩) R s:=by
 have W:=Walks.list (prog:=prog) (w:=w) hh I l hne items;have itF:∀ {h:Heap} {i:Nat},h.IsListIter I l i->∃ o vs,h.get? I=some o/\o.data = .fields vs:=λ⟨o,ho,_,hd⟩=>⟨o,_,ho,hd⟩;intro j
 induction j with
 |zero=>
   intro i s R hj hi hI hL hD hP hR;have hin:i=items.size:=by omega
   subst hin;refine A4L Gm ?_;rw[A3M Cj _];show wpAny _ A.in1 (pyNext (.ref I) >>= _) _ _ s;refine A00 (W.done s _ _ ⟨hI,hL⟩ λh' tk hm=>?_);show wpAny _ A.in1 (Builtin.Dict.addKeywords D [] >>= _) _ _ _;refine wpAny_bind (wpAny_pure (wpAny_pure (hR h' tk ?_ λb o hb hb' e=>hm b o (by simpa using hb') e)));rw[<- hlen,A0M] at hD;exact Pe (itF hI) hDI (λb o hb e=>hm b o (by simpa using hb) e) hD
 |succ j ih=>
   intro i s R hj hi hI hL hD hP hR;have hlt:i<items.size:=by omega
   obtain⟨p,hp⟩:∃ p,pk[i]? = some p:=⟨pk[i]'∅,A06 _⟩;obtain⟨q1,q2,q3,q4,q5,q6,q7⟩:=hP i p hp;refine A4L Gm ?_;rw[A3M Cj _];show wpAny _ A.in1 (pyNext (.ref I) >>= _) _ _ s;refine A00 (W.item i s _ _ hlt ⟨hI,hL⟩ λv h' tk hv hst hm=>?_)
   have hv':v = .ref p.2.2.2:=by have hv2:items[i]? = some v:=hv;rw[q1] at hv2;exact(A10 hv2).symm
   subst hv';have hm':∀ b o,b≠I->s.heap.get? b=some o->h'.get? b=some o:=λb o hb e=>hm b o (by simpa using hb) e
   have ht':IsTup h' p.2.2.2 #[.ref p.2.1,p.2.2.1]:=by obtain⟨o,ho,r⟩:=q4;exact⟨o,hm' _ o q2 ho,r⟩
   have hD':=Pe (itF hI) hDI hm' hD;show wpAny _ A.in1 (holding [Value.ref p.2.2.2] _ >>= _) _ _ _;refine A00 (A1H ?_);refine A00 (wpAny_tryCatch (Mb ht' ?_));show wpAny _ A.in1 (holding [.ref p.2.1,p.2.2.1] (dictSet D (.ref p.2.1) p.2.2.1)) _ _ _;refine A1H (wpAny_dictSet_heap hu (Ky q7 λo e=>hm' _ o q5 e) hD' (λh'' hD'' hs=>?_) ?_)
   . refine A04 ⟨A57 Cj _,?_⟩;have hkeep:∀ b o,b≠D->b≠I->s.heap.get? b=some o->h''.get? b=some o:=λb o h1 h2 e=>(hs.2 b h1).trans (hm' b o h2 e);refine ih (i+1) _ R ∅ hlt ?_ ?_ ?_ (λn p' hp'=>?_) λh3 tk3 hD3 hk3=>hR h3 tk3 hD3 λb o h1 h2 e=>hk3 b o h1 h2 (hkeep b o h1 h2 e)
     . exact hst.1.at λo e=>(hs.2 I (Ne.symm hDI)).trans e
     . exact hst.2.at λo e=>(hs.2 l (Ne.symm hDl)).trans e
     . have e:a70 (pk.take (i+1))=storedH (a70 (pk.take i)) p.1 p.2.1 p.2.2.1:=by unfold a70;rw[A0J,hp,List.foldl_append];rfl
       rw[e];exact hD''
     obtain⟨a1,a2,a3,⟨o,ho,r⟩,a5,a6,a7⟩:=hP n p' hp';exact⟨a1,a2,a3,⟨o,hkeep _ o a3 a2 ho,r⟩,a5,a6,Ky a7 λo e=>hkeep _ o a6 a5 e⟩
   refine A0Q (a94 _) (A6 ?_);rw[A0O];omega
theorem Kd {l:Addr}{items:Array Value}{n:Nat}{Q:Value->Shared->Prop}(hl:s.heap.get? l=some {cls:=.type "list",data:=.seq items n})(hA:A.handled=none)(hu:A.units+64<cLine)(pk:List (List Key×Addr×Value×Addr))(hlen:pk.length=items.size)(hz:items.size<=1000000)
  (hP:∀(n:Nat) (p:List Key×Addr×Value×Addr),pk[n]? = some p->items[n]? = some (Value.ref p.2.2.2)/\IsTup s.heap p.2.2.2 #[.ref p.2.1,p.2.2.1]/\(TKd prog w).is s.heap p.1 p.2.1)
  (h:∀ h' tk,h'.DictOfH (TKd prog w) s.heap.objs.size (a70 pk)->(∀ b o,s.heap.get? b=some o->h'.get? b=some o)->Q (.ref s.heap.objs.size) {s with heap:=h',toks:=tk}) :
  wpAny (model prog w) A (call (.type "dict") [.ref l]) Q E s:=by
 refine callType_codes (Q₁:=λobj s₁=>obj = .ref s.heap.objs.size/\s₁={s with heap:=s.heap.push {cls:=.type "dict",data:=.dict #[]}}) F.kt_called_dict (F.kt_typeCall_dict_1 _) F.entry_dict_init (kt_code_dict_new _ ⟨rfl,rfl⟩) ?_
 rintro obj s₁ ⟨rfl,rfl⟩;have hnew0:(s.heap.push {cls:=.type "dict",data:=.dict #[]}).DictOf (Ax prog w) s.heap.objs.size []:=Heap.DictOf.new s.heap
 have hnew:(s.heap.push {cls:=.type "dict",data:=.dict #[]}).DictOfH (TKd prog w) s.heap.objs.size []:=by
  obtain⟨o,es,ep,ho,hc,hd,hk,hp,hn⟩:=hnew0;have he:es.toList=[]:=A12.mp (by first | exact hp.length | exact hp.length.symm)
  exact⟨o,es,ep,ho,hc,hd,he,λx hx=>(nomatch hx),List.nodup_nil⟩
 have hl':(s.heap.push {cls:=.type "dict",data:=.dict #[]}).get? l=some {cls:=.type "list",data:=.seq items n}:=A03 _ hl;have hll:l<s.heap.objs.size:=A0A hl;refine⟨hnew0.typeIs,F.args_dict_init_2 _ _,?_⟩;unfold Builtin.«dict.__init__»;refine A00 ?_;unfold Builtin.Dict.selfAndRest;refine A00 (A3I hnew0.typeIs ?_);show wpAny _ _ (pure (s.heap.objs.size,[Value.ref l])) _ _ _;refine A04 ?_;show wpAny _ _ (Builtin.Dict.updateFrom "dict.__init__" s.heap.objs.size (.ref l) [] .none) _ _ _;unfold Builtin.Dict.updateFrom;refine A00 (A3F ⟨_,hl',rfl⟩ ?_);rw[A0W nofun];refine wpAny_bind (Qe hl' (by simpa using hA) λh1 tk1 hk1=>?_);have hl1:h1.get? l=some {cls:=.type "list",data:=.seq items n}:=hk1 _ _ hl';rw[A0W (show(none:Option Value).isNone=true from rfl)]
 have hD1:h1.DictOfH (TKd prog w) s.heap.objs.size []:=by obtain⟨o,es,ep,ho,hc,hd,he,_,hn⟩:=hnew;exact⟨o,es,ep,hk1 _ _ ho,hc,hd,he,λx hx=>(nomatch hx),hn⟩
 have hsz:s.heap.objs.size<h1.objs.size:=by obtain⟨o,es,ep,ho,r⟩:=hD1;exact A0A ho
 refine A00 (wpAny_rule ?_);have hL1:h1.IsList l items:=⟨_,hl1,rfl,n,rfl⟩;refine A00 (A3Z hL1 ?_);refine A04 ⟨A57 Cj _,?_⟩;have kp:∀ b o,s.heap.get? b=some o->(h1.push {cls:=.type "list_iterator",data:=.fields #[.ref l,.int 0 0]}).get? b=some o:=λb o e=>A03 _ (hk1 _ _ (A03 _ e));refine Ub (A:=A.in1) (I:=h1.objs.size) (D:=s.heap.objs.size) (l:=l) (items:=items) (by simpa using hA) (show A.units+2<cLine by omega) (Nat.ne_of_lt (Nat.lt_trans hll hsz)) (Nat.ne_of_lt hsz) (Nat.ne_of_gt hll) pk hlen hz items.size 0 _ _ (Nat.sub_zero _) (Nat.zero_le _) ⟨_,Heap.get?_push_size _ rfl,rfl,rfl⟩ (hL1.push _) ?_ (λm p hp=>?_) λh' tk hD hk=>?_
 . obtain⟨o,es,ep,ho,hc,hd,he,_,hn⟩:=hD1;exact⟨o,es,ep,A03 _ ho,hc,hd,he,λx hx=>(nomatch hx),hn⟩
 . obtain⟨a1,⟨o,ho,r⟩,a3⟩:=hP m p hp;have hlt:=A0A ho;have hlk:p.2.1<s.heap.objs.size:=by obtain⟨o,its,n,h1,_⟩:=a3;exact A0A h1
   exact⟨a1,A0P (A3G hlt hsz),A0P hlt,⟨o,kp _ _ ho,r⟩,A0P (A3G hlk hsz),A0P hlk,Ky a3 λo e=>kp _ o e⟩
 refine⟨rfl,h h' tk hD λb o e=>?_⟩;have hlt:=A0A e;exact hk b o (A0P hlt) (A0P (A3G hlt hsz)) (kp b o e)
end
def PrsT (K:W.Frag)(H:Hp):List (List Key×V)->List V->Prop
 | [],ys=>ys=[]
 |kv :: r,ys=>∃ t b ys',ys = .ref t :: ys'/\SqT K H t [.ref b,kv.2]/\H b=some (.tup (kv.1.map kV))/\PrsT K H r ys'
def aj4 (kvs:List (List Key×V)):List (List Key×V):=kvs.foldl (λm p=>Ea m p.1 p.2) []
theorem PrsT.pk {X:Cx}{pins:List (Addr×Obj)}{σ:St}{H:Hp}{s:Shared}(I:Inv X pins σ H s):∀(kvs:List (List Key×V)) (ys:List V) (its:List Value),PrsT X.K H kvs ys->Vals ys its ->
  ∃ pk:List (List Key×Addr×Value×Addr),pk.length=its.length/\Paired (λ(p:List Key×V) (q:List Key×Addr×Value×Addr)=>p.1=q.1/\H q.2.1=some (.tup (p.1.map kV))/\RelV p.2 q.2.2.1) kvs pk/\∀(n:Nat) (p:List Key×Addr×Value×Addr),pk[n]? = some p->its[n]? = some (Value.ref p.2.2.2)/\IsTup s.heap p.2.2.2 #[.ref p.2.1,p.2.2.1]/\(TKd X.prog X.w).is s.heap p.1 p.2.1
 | [],ys,its,h,v=>by
   have h':ys=[]:=h;subst h'
   cases v;exact ⟨[],rfl,.nil,λn p hp=>by simp at hp⟩
 |kv :: r,ys,its,h,v=>by
   obtain⟨t,b,ys',rfl,h2,hb,h3⟩:=h
   cases v with
   |cons v1 v2=>
     obtain⟨pk,l1,l2,l3⟩:=PrsT.pk I r ys' _ h3 v2
     cases v1;obtain⟨its2,rv,ht,_⟩:=I.tuple h2;obtain ⟨key,val,rfl,a1,a3⟩:=Vals.two rv
     cases a1;refine⟨(kv.1,b,val,t) :: pk,by simp[l1],.cons ⟨rfl,hb,a3⟩ l2,λn p hp=>?_⟩
     cases n with
     |zero=>have:p=(kv.1,b,val,t):=(Option.some.inj (by simpa using hp)).symm;subst this;exact⟨rfl,ht,K6 I.hok hb⟩
     |succ n=>exact l3 n p (by simpa using hp)
theorem Zv {H:Hp}{kvs:List (List Key×V)}{pk:List (List Key×Addr×Value×Addr)}(h:Paired (λ(p:List Key×V) (q:List Key×Addr×Value×Addr)=>p.1=q.1/\H q.2.1=some (.tup (p.1.map kV))/\RelV p.2 q.2.2.1) kvs pk):∀ {m:List (List Key×V)} {xs:List (List Key×Addr×Value)},KT H m xs->KT H (kvs.foldl (λm p=>Ea m p.1 p.2) m) (pk.foldl (λxs p=>storedH xs p.1 p.2.1 p.2.2.1) xs):=by
 induction h with
 |nil=>intro m xs h;exact h
 |@cons p q ps qs hq t ih=>intro m xs h;rw[A20,A20];refine ih ?_;obtain⟨e,hb,hv⟩:=hq;rw[<- e];exact h.put p.1 hb hv
theorem aa0 (kvs:List (List Key×V)):(aj4 kvs).length<=kvs.length:=by
 have go:∀(kvs m:List (List Key×V)),(kvs.foldl (λm p=>Ea m p.1 p.2) m).length<=m.length+kvs.length:=λkvs=>by
  induction kvs with
  |nil=>intro m;exact A07 _
  |cons p r ih=>intro m;have:=ih (Ea m p.1 p.2);have:=Fk m p.1 p.2;rw[A20,A0L];omega
 have:=go kvs [];rw[A35,Nat.zero_add] at this;exact this
section
variable {X:Cx}{K:W.Frag}
def Wd (K:W.Frag):List V->Hp->VK->Prop:=λxs H Q=>∃ l ys kvs,xs=[V.ref l]/\H l=some (.lst ys)/\PrsT K H kvs ys/\ys.length<=1000000/\kvs.length<=1000000/\∀ p,H p=none->Q (.ref p) (upd H p (.dT (aj4 kvs)))
theorem Qv (hr:X.A.handled=none)(hu:X.A.units+64<cLine):CallR X (.type "dict") (Wd X.K):=by
 intro pins s σ H xs us Q I rv h;obtain⟨l,ys,kvs,rfl,hl,hp,hz,hz2,q⟩:=h;obtain⟨u,rfl,ru⟩:=rv.one
 cases ru;obtain⟨z,its,n,r,hlen,e⟩:=I.lstM hl;obtain⟨pk,l1,l2,l3⟩:=PrsT.pk I kvs ys its hp r;refine Kd e hr hu pk (by simpa using l1) (by simp;omega) (λn p hp=>?_) λh' tk hD hk=>?_
 . obtain⟨a1,a2,a3⟩:=l3 n p hp;exact⟨by simpa using a1,a2,a3⟩
 have hfr:=I.hok.fresh (A07 s.heap.objs.size);obtain⟨o,es,ep,ho,hc,hd,he,_,hn⟩:=hD;refine⟨.ref s.heap.objs.size,_,I.laid (o:=.dT (aj4 kvs)) hk (A07 _) ⟨?_,?_,a70 pk,(Zv l2 .nil).keeps λc zs ec=>?_,o,es,ep,ho,hc,hd,he,hn⟩,rfl,q _ hfr⟩
 . exact A0Q (aa0 kvs) (A6 hz2)
 . exact A0I.mpr (A3E I.big)
 rw[Al (ne_of_none ec hfr)];exact ec
theorem Rb (hr:X.A.handled=none)(hu:X.A.units+64<cLine)(hK:X.K=K:=by ac_nf):CallR X (.type "dict") (Wd K):=hK ▸ Qv hr hu
theorem aa9 {l:Addr}{ys:List V}{kvs:List (List Key×V)}{H:Hp}{Q:VK}(h:H l=some (.lst ys))(hp:PrsT K H kvs ys)(hz:ys.length<=1000000)(hz2:kvs.length<=1000000)(k:∀ p H',H p=none->Same H H'->H' p=some (.dT (aj4 kvs))->Q (.ref p) H'):Wd K [.ref l] H Q:=⟨l,ys,kvs,rfl,h,hp,hz,hz2,λp hp=>k p _ hp (Same.upd hp) A8⟩
theorem ac8 {pins:List (Addr×Obj)}{σ:St}{H:Hp}{s:Shared}(I:Inv X pins σ H s){b:Addr}{ks:List Key}(h:SqT X.K H b (ks.map kV)):(TKd X.prog X.w).is s.heap ks b:=by obtain⟨its,r,⟨o,ho,hc,n,hd⟩,_⟩:=I.tuple h;exact⟨o,its.toArray,n,ho,hc,hd,by simpa using La r⟩
def ag8 (K:W.Frag):R2:=λx y H Q=>∃ a b kvs ks v,x = .ref a/\y = .ref b/\Rd H a (.dT kvs)/\SqT K H b (ks.map kV)/\Cy kvs ks=some v/\Q v H
theorem ai3 (hu:X.A.units+1<cLine):IxR X (ag8 X.K):=by
 intro value slice pins s σ H x y v u Q I rx ry h hs;obtain⟨a,b,kvs,ks,z,rfl,rfl,g,hb,e,q⟩:=h
 cases rx
 cases ry;obtain⟨_,hd,xs,rel,dd⟩:=Mr I.hok g;obtain⟨w',hw,rw'⟩:=RelO.some_of (v:=z) (o:=(atKey xs ks).map (·.2)) (by rw[<- e];exact rel.val ks);obtain⟨p,hp,hp2⟩:=Option.map_eq_some_iff.mp hw;refine tail_any dd.typeIs PySem.F.slot_dict_getitem.lookup (wpAny_getItem_heap (A2L hu) (ac8 I hb) dd hp ?_) hs;rw[hp2];exact⟨z,H,I.tok _,rw',q⟩
theorem Ri (hu:X.A.units+1<cLine)(hK:X.K=K:=by ac_nf):IxR X (ag8 K):=hK ▸ ai3 hu
theorem W1 {a b:Addr}{kvs:List (List Key×V)}{ks:List Key}{v:V}{H:Hp}{Q:VK}(h:Rd H a (.dT kvs))(hb:SqT K H b (ks.map kV))(e:Cy kvs ks=some v)(k:Q v H):ag8 K (.ref a) (.ref b) H Q:=⟨a,b,kvs,ks,v,rfl,rfl,h,hb,e,k⟩
def ar6:List V->Hp->VK->Prop:=λxs H Q=>∃ a kvs,xs=[V.ref a]/\Rd H a (.dT kvs)/\Q (.int kvs.length) H
theorem Ut {prog:Program}{w:World}{d:Addr}(hd:(d==sysModules)=false) :
  MeetsIn prog w (Builtin.«dict.__len__» ⟨[.ref d],[]⟩) (λ_ R s=>∃ xs,s.heap.DictOfH (TKd prog w) d xs/\R (.ok (.ret (.int xs.length s.toks))) {s with toks:=s.toks+1}):=
 .of_wp λA R s ⟨xs,hm,h⟩=>by
  obtain⟨o,es,ep,ho,hc,hdat,he,_,hn⟩:=hm;show wpAny _ _ (dictSize d >>= _) _ _ s;unfold dictSize;refine A00 (A00 (A40 ho hdat (A04 ?_)));show wpAny _ _ (Builtin.Dict.pendingCount d >>= _) _ _ s;refine A00 (wpAny_pendingCount_other hd ?_);refine wpAny_ret_mkInt ?_
  have:es.size=xs.length:=by have:=congrArg List.length he;simpa using this
  rw[this];exact h
theorem W3:CallR X (.builtin "len") ar6:=by
 intro pins s σ H xs us Q I r h;obtain⟨d,kvs,rfl,ha,q⟩:=h;obtain⟨u,rfl,ru⟩:=J7 r
 cases ru;obtain⟨z,hd,ys,rel,hm⟩:=Mr I.hok ha;have hl:kvs.length=ys.length:=A25 rel;refine Calls.call_function_entry kind_len plain_len entry_len (args_len1 _) ?_;unfold Builtin.«len»;refine A00 (m:=oneArg "len" _) (A04 ?_)
 refine A00 (m:=callSpecial? (.ref d) (Str.ofString "__len__")) (A1V (name:=Str.ofString "__len__") hm.typeIs F.slot_dict_len
  (A3S F.slot_dict_len hm.typeIs F.entry_dict_len (F.args_dict_len_1 _) (Ut hd) ⟨ys,hm,?_⟩))
 show wpAny _ _ _ _ _ {s with toks:=s.toks+1}
 refine A00 (A1H (A04 ?_));refine A00 (wpAny_letGo ?_);rw[A14] at z;show wpAny _ _ (if((ys.length:Nat):Int)<0 then _ else _) _ _ _
 rw[A0S ∅];show wpAny _ _ (if((ys.length:Nat):Int)>=2 ^ 63 then _ else _) _ _ _
 rw[A0S ∅];rw[<- hl];exact A00 (wpAny_mkInt (A04 ⟨_,rfl,.int kvs.length,H,I.tok _,⟨_,rfl⟩,q⟩))
theorem a84 {a:Addr}{kvs:List (List Key×V)}{H:Hp}{Q:VK}(h:Rd H a (.dT kvs))(k:Q (.int kvs.length) H):ar6 [.ref a] H Q:=⟨a,kvs,rfl,h,k⟩
theorem ad0 {a b:Addr}{xs ys:List V}{H:Hp}{Q:VK}(h1:H a=some (.tup xs))(hx:xs≠[])(h2:SqT K H b ys)(h:xs.length+ys.length<=sizeLine)(k:∀ p H',Same H H'->H' p=some (.tup (xs++ys))->Q (.ref p) H'):Qn K (.ref a) (.ref b) H Q:=by refine .inr (.inr (.inr (.inl ⟨a,b,xs,ys,rfl,rfl,SqT.of h1,h2,hx,h,λe=>?_,λ_ p hp=>k p _ (Same.upd hp) A8⟩)));subst e;exact k a H (Same.refl _) (by rw[A1N];exact h1)
end
structure Tps (H:Hp)(rows:List (List Str))(ys:List V):Prop where
 len:rows.length=ys.length
 get:∀(i:Nat) (r:List Str),rows[i]? = some r->∃ a:Addr,ys[i]? = some (V.ref a)/\H a=some (.tup (r.map V.str))
section
variable {K:W.Frag}{H H':Hp}{rows rs:List (List Str)}{ys zs:List V}{r:List Str}
theorem Tps.nil:Tps H [] []:=⟨rfl,λi r h=>by cases h⟩
theorem Tps.same (h:Tps H rows ys)(e:Same H H'):Tps H' rows ys:=⟨h.len,λi r hr=>let ⟨a,h1,h2⟩:=h.get i r hr;⟨a,h1,e _ _ h2⟩⟩
theorem Tps.but {l:Addr}{xs:List V}(h:Tps H rows ys)(hl:H l=some (.lst xs))(e:ExtBut l H H'):Tps H' rows ys:=⟨h.len,λi r hr=>let ⟨a,h1,h2⟩:=h.get i r hr;⟨a,h1,e _ _ (ne_of h2 hl (by intro z;cases z)) h2⟩⟩
theorem Tps.append (h:Tps H rows ys)(g:Tps H rs zs):Tps H (rows++rs) (ys++zs):=by
 refine⟨by rw[A09,A09,h.len,g.len],λi r hr=>?_⟩
 by_cases hi:i<rows.length
 . rw[A16 hi] at hr;obtain⟨a,h1,h2⟩:=h.get i r hr;exact⟨a,by rw[A16 (by rw[<- h.len];exact hi)];exact h1,h2⟩
 rw[A1F ∅] at hr;obtain⟨a,h1,h2⟩:=g.get _ r hr;exact⟨a,by rw[A1F (by rw[<- h.len];omega),<- h.len];exact h1,h2⟩
theorem Tps.one {a:Addr}(h:H a=some (.tup (r.map V.str))):Tps H [r] [.ref a]:=⟨rfl,λi r' hr=>by
 cases i with
 |zero=>cases hr;exact⟨a,rfl,h⟩
 |succ i=>cases hr⟩
theorem Tps.at (h:Tps H rows ys){i:Nat}{y:V}(hy:ys[i]? = some y):∃ a r,y = .ref a/\rows[i]? = some r/\H a=some (.tup (r.map V.str)):=by
 obtain⟨hi,_⟩:=A02.mp hy;have hr:=A06 (show i<rows.length by rw[h.len];exact hi);obtain⟨a,h1,h2⟩:=h.get i _ hr;rw[hy] at h1
 cases h1;exact ⟨a,_,rfl,hr,h2⟩
end
theorem PrsT.keep {K:W.Frag}{H H':Hp}(hq:∀ t xs,SqT K H t xs->SqT K H' t xs)(ht:∀ b xs,H b=some (.tup xs)->H' b=some (.tup xs)):∀ {kvs:List (List Key×V)} {ys:List V},PrsT K H kvs ys->PrsT K H' kvs ys
 | [],ys,h=>h
 |kv :: r,ys,h=>by obtain⟨t,b,ys',rfl,h1,h2,h3⟩:=h;exact⟨t,b,ys',rfl,hq _ _ h1,ht _ _ h2,PrsT.keep hq ht h3⟩
theorem PrsT.snoc {K:W.Frag}{H:Hp}{t b:Addr}{k:List Key}{v:V}(h1:SqT K H t [.ref b,v])(h2:H b=some (.tup (k.map kV))):∀ {kvs:List (List Key×V)} {ys:List V},PrsT K H kvs ys->PrsT K H (kvs++[(k,v)]) (ys++[.ref t])
 | [],ys,h=>by have h':ys=[]:=h;subst h';exact⟨t,b,[],rfl,h1,h2,rfl⟩
 |kv :: r,ys,h=>by obtain⟨t',b',ys',rfl,a1,a2,a3⟩:=h;exact⟨t',b',ys'++[.ref t],rfl,a1,a2,PrsT.snoc h1 h2 a3⟩
theorem Yw {kvs:List (List Key×V)} (hn:(kvs.map (·.1)).Nodup):aj4 kvs=kvs:=by
 have go:∀(kvs m:List (List Key×V)),((m++kvs).map (·.1)).Nodup->kvs.foldl (λm p=>Ea m p.1 p.2) m=m++kvs:=λkvs=>by
  induction kvs with
  |nil=>intro m _;rw[A1N];rfl
  |cons p r ih=>
    intro m h
    have hno:Cy m p.1=none:=by
     cases e:Cy m p.1 with
     |none=>rfl
     |some v=>rw[A0E,A1Z] at h;exact absurd rfl (h.2.2 _ (ac6 e) p.1 (by simp))
    rw[A20,J3 _ hno,ih _ (by rw[A1Y];exact h),A1Y];rfl
 have:=go kvs [] hn;rw[A4F] at this;exact this
def kyT (r:List Str):List Key:=r.map Sum.inr
theorem Vd (r:List Str):(kyT r).map kV=r.map V.str:=by unfold kyT;rw[A1D];rfl
theorem Qy {r r':List Str}(h:kyT r=kyT r'):r=r':=by unfold kyT at h;exact(List.map_inj_right (λa b e=>Sum.inr.inj e)).mp h
end L2
namespace K39
open PySem L2 PySem.Spec PyProof.Rows
def top (i:Nat):Stmt:=PySem.Challenge.pw_halforder_k39_too_many_orders.main.body.getD i (.Pass ⟨0,0,0,0⟩)
abbrev Cn:Stmt:=top 7
theorem Ca:Ak ["half","names","reach","saying","middle","name"] ["half"] (A4 Cn):=⟨rfl,rfl,rfl,by decide +kernel,rfl,by decide +kernel,by decide +kernel⟩
abbrev G7:Stmt:=top 9
theorem G5:Ak ["names","bits","bit","name"] ["names"] (A4 G7):=⟨rfl,rfl,rfl,by decide +kernel,rfl,by decide +kernel,by decide +kernel⟩
abbrev Dn:Stmt:=top 10
theorem Ez:Ak ["half","bits","reach","found","name"] ["half","bits"] (A4 Dn):=⟨rfl,rfl,rfl,by decide +kernel,rfl,by decide +kernel,by decide +kernel⟩
abbrev Dg:Stmt:=top 14
theorem Hn:Ak ["ways","left","found","name"] ["ways","left"] (A4 Dg):=⟨rfl,rfl,rfl,by decide +kernel,rfl,by decide +kernel,by decide +kernel⟩
abbrev Dp:Stmt:=top 15
theorem Iz:Ak ["half","ways"] ["half"] (A4 Dp):=⟨rfl,rfl,rfl,by decide +kernel,rfl,by decide +kernel,by decide +kernel⟩
abbrev Co:Stmt:=top 18
theorem Cc:Ak ["one","other","row","found","place","seat"] ["one","other"] (A4 Co):=⟨rfl,rfl,rfl,by decide +kernel,rfl,by decide +kernel,by decide +kernel⟩
abbrev Ga:Stmt:=top 19
theorem Tl:Ak ["order","place"] ["order","place"] (A4 Ga):=⟨rfl,rfl,rfl,by decide +kernel,rfl,by decide +kernel,by decide +kernel⟩
abbrev Cd:Stmt:=top 20
theorem Fi:Ak ["order","goal","place"] ["order","goal"] (A4 Cd):=⟨rfl,rfl,rfl,by decide +kernel,rfl,by decide +kernel,by decide +kernel⟩
abbrev Jr:Stmt:=top 21
theorem Nj:Ak ["half","orders","odd"] ["half"] (A4 Jr):=⟨rfl,rfl,rfl,by decide +kernel,rfl,by decide +kernel,by decide +kernel⟩
abbrev B3:Stmt:=top 22
theorem Du:Ak ["tree","order","goes_ahead","found","grown"] ["tree","order","goes_ahead"] (A4 B3):=⟨rfl,rfl,rfl,by decide +kernel,rfl,by decide +kernel,by decide +kernel⟩
abbrev Ek:Stmt:=top 23
theorem Fu:Ak ["half","orders","tree","order"] ["half"] (A4 Ek):=⟨rfl,rfl,rfl,by decide +kernel,rfl,by decide +kernel,by decide +kernel⟩
abbrev Ch:Stmt:=top 24
theorem Dx:Ak ["names","found","number","row","through"] ["names"] (A4 Ch):=⟨rfl,rfl,rfl,by decide +kernel,rfl,by decide +kernel,by decide +kernel⟩
abbrev B0:Stmt:=top 25
theorem Bq:Ak ["orders","near","order","swaps"] ["orders"] (A4 B0):=⟨rfl,rfl,rfl,by decide +kernel,rfl,by decide +kernel,by decide +kernel⟩
abbrev B9:Stmt:=top 26
theorem Ei:Ak ["near","begun","order","found"] ["near","begun"] (A4 B9):=⟨rfl,rfl,rfl,by decide +kernel,rfl,by decide +kernel,by decide +kernel⟩
abbrev Aq:Stmt:=top 27
theorem Bd:Ak ["orders","near","order","found"] ["orders"] (A4 Aq):=⟨rfl,rfl,rfl,by decide +kernel,rfl,by decide +kernel,by decide +kernel⟩
abbrev Cp:Stmt:=top 28
theorem Eo:Ak ["half","parts","orders","found"] ["half"] (A4 Cp):=⟨rfl,rfl,rfl,by decide +kernel,rfl,by decide +kernel,by decide +kernel⟩
abbrev En:Stmt:=top 30
theorem Oq:Ak ["_law_script"] ["_law_script"] (A4 En):=⟨rfl,rfl,rfl,by decide +kernel,rfl,by decide +kernel,by decide +kernel⟩
abbrev Ej:Stmt:=top 31
theorem Dq:Ak ["_law_feed_here","_law_many","_law_found","_law_cell","_law_mixed"] ["_law_feed_here","_law_many"] (A4 Ej):=⟨rfl,rfl,rfl,by decide +kernel,rfl,by decide +kernel,by decide +kernel⟩
abbrev Bw:Stmt:=top 32
theorem Dd:Ak ["_law_feed_here","_law_some","_law_left","_law_found","_law_k"] ["_law_feed_here","_law_some"] (A4 Bw):=⟨rfl,rfl,rfl,by decide +kernel,rfl,by decide +kernel,by decide +kernel⟩
abbrev Dm:Stmt:=top 33
theorem Ar:Ak ["_law_feed_here","_law_letters","_law_way","_law_start","_law_size","_law_at","_law_some","_law_head","_law_tail"] ["_law_feed_here"] (A4 Dm):=⟨rfl,rfl,rfl,by decide +kernel,rfl,by decide +kernel,by decide +kernel⟩
abbrev C9:Stmt:=top 34
theorem L9:Ak ["_law_feed_here","_law_way","_law_j","_law_k","_law_many"] ["_law_feed_here","_law_way","_law_j","_law_k","_law_many"] (A4 C9):=⟨rfl,rfl,rfl,by decide +kernel,rfl,by decide +kernel,by decide +kernel⟩
abbrev Ef:Stmt:=top 35
theorem Bs:Ak ["_law_feed_here","_law_many","_law_names_here","_law_line","_law_way","_law_sayings","_law_k","_law_j","_law_pair"] ["_law_feed_here","_law_many"] (A4 Ef):=⟨rfl,rfl,rfl,by decide +kernel,rfl,by decide +kernel,by decide +kernel⟩
abbrev El:Stmt:=top 36
theorem C0:Ak ["_law_half_here","_law_found","_law_more","_law_one","_law_other","_law_fresh"] ["_law_half_here"] (A4 El):=⟨rfl,rfl,rfl,by decide +kernel,rfl,by decide +kernel,by decide +kernel⟩
abbrev Bl:Stmt:=top 37
theorem G4:Ak ["_law_half_here","_law_over_here","_law_begun","_law_left"] ["_law_half_here","_law_over_here","_law_begun"] (A4 Bl):=⟨rfl,rfl,rfl,by decide +kernel,rfl,by decide +kernel,by decide +kernel⟩
abbrev Dl:Stmt:=top 38
theorem Be:Ak ["_law_half_here","_law_over_here","_law_found","_law_turn","_law_further","_law_begun","_law_name","_law_more"] ["_law_half_here"] (A4 Dl):=⟨rfl,rfl,rfl,by decide +kernel,rfl,by decide +kernel,by decide +kernel⟩
abbrev Bm:Stmt:=top 39
theorem B2:Ak ["_law_feed_here","_law_names_here","_law_many","_law_row","_law_sayings","_law_turn","_law_name"] ["_law_feed_here"] (A4 Bm):=⟨rfl,rfl,rfl,by decide +kernel,rfl,by decide +kernel,by decide +kernel⟩
abbrev B7:Stmt:=top 40
theorem As:Ak ["_law_feed_here","_law_some","_law_sizes","_law_names_here","_law_sayings","_law_size"] ["_law_feed_here"] (A4 B7):=⟨rfl,rfl,rfl,by decide +kernel,rfl,by decide +kernel,by decide +kernel⟩
abbrev Eg:Stmt:=top 41
theorem Bz:Ak ["_law_word","_law_half_here","_law_found","e"] ["_law_word","_law_half_here"] (A4 Eg):=⟨rfl,rfl,rfl,by decide +kernel,rfl,by decide +kernel,by decide +kernel⟩
abbrev Mq:Stmt:=top 42
theorem Jh:Ak ["_law_script","_law_feed_here","_law_way","_law_half_here","_law_many","_law_word","_law_due"] ["_law_script"] (A4 Mq):=⟨rfl,rfl,rfl,by decide +kernel,rfl,by decide +kernel,by decide +kernel⟩
abbrev Ee:Stmt:=Oc (top 11) 0
theorem Pk:Ak ["self","half"] ["self","half"] (A4 Ee):=⟨rfl,rfl,rfl,by decide +kernel,rfl,by decide +kernel,by decide +kernel⟩
abbrev Bh:Stmt:=Oc (top 11) 1
theorem Jj:Ak ["self","left"] ["self","left"] (A4 Bh):=⟨rfl,rfl,rfl,by decide +kernel,rfl,by decide +kernel,by decide +kernel⟩
abbrev Bv:Stmt:=Oc (top 11) 2
theorem Lo:Ak ["self","left"] ["self","left"] (A4 Bv):=⟨rfl,rfl,rfl,by decide +kernel,rfl,by decide +kernel,by decide +kernel⟩
abbrev C8:Stmt:=Oc (top 3) 0
theorem Kt:Ak ["self","word"] ["self","word"] (A4 C8):=⟨rfl,rfl,rfl,by decide +kernel,rfl,by decide +kernel,by decide +kernel⟩
structure Gj (mg:Str->Option Value):Prop where
 g_MOST_LISTED:∃ u,mg "MOST_LISTED" = some u/\RelV (.int 720) u
 g_MOST_SEARCHED:∃ u,mg "MOST_SEARCHED" = some u/\RelV (.int 12) u
 b_ValueError:mg "ValueError" = none
 b_abs:mg "abs" = none
 b_dict:mg "dict" = none
 b_enumerate:mg "enumerate" = none
 b_int:mg "int" = none
 b_isinstance:mg "isinstance" = none
 b_len:mg "len" = none
 b_list:mg "list" = none
 b_range:mg "range" = none
 b_repr:mg "repr" = none
 b_sorted:mg "sorted" = none
 b_sum:mg "sum" = none
 b_tuple:mg "tuple" = none
structure Fv (K:W.Frag)(C:Addr):Prop where
 cl:Cls K C
 n_names:NoAttr K C "names"
 n_bits:NoAttr K C "bits"
 n_ahead:NoAttr K C "ahead"
 n_full:NoAttr K C "full"
 n_known:NoAttr K C "known"
structure C3 (K:W.Frag)(mg:Str->Option Value)(C B:Addr):Prop where
 xc:XC K C
 gl:mg "HalfError" = some (.ref C)
 mk0:aB0 K mg C "HalfError"
structure Fb (K:W.Frag)(mg:Str->Option Value)(C B:Addr):Prop where
 xc:XC K C
 gl:mg "NoName" = some (.ref C)
 mr:Kf K C B=true
 n_name:NoAttr K C "name"
structure Dj (K:W.Frag)(mg:Str->Option Value)(C B:Addr):Prop where
 xc:XC K C
 gl:mg "TooMany" = some (.ref C)
 mr:Kf K C B=true
 n_word:NoAttr K C "word"
structure L3 (K:W.Frag)(mg:Str->Option Value)(C B:Addr):Prop where
 xc:XC K C
 gl:mg "NoPlace" = some (.ref C)
 mr:Kf K C B=true
 n_number:NoAttr K C "number"
structure Ku (K:W.Frag)(mg:Str->Option Value)(C B:Addr):Prop where
 xc:XC K C
 gl:mg "NoOrder" = some (.ref C)
 mr:Kf K C B=true
 mk0:aB0 K mg C "NoOrder"
section
variable {P:Program}{w:World}{K:W.Frag}{mg:Str->Option Value}{base:Heap}
local macro_rules | `(tactic| walk_at "lk") => L2.mRows "as | Same.lk e h: e=as h=lk | ExtBut.lk e h n: e=as n=ne h=lk | no"
local macro_rules | `(tactic| walk_at "ne") => L2.mRows "as | Ne.symm q: q=as | ne_of_none h g: g=as h=lk | ne_none2 h g: g=as h=lk | ne_of h g z: h=as g=as z=nc | no"
local macro_rules | `(tactic| walk_at "nc") => `(tactic| (intro z; cases z))
local macro_rules | `(tactic| walk_at "fr") => L2.mRows "ExtBut.refl | ExtBut.trans a b: b=as a=fr | ExtBut.same a b: b=as a=fr | ExtBut.off a q b: b=as q=as a=fr | no"
local macro_rules | `(tactic| walk_at "sm") => L2.mRows "same_refl | Same.trans a b: b=as a=sm | Same.off a q b: b=as q=as a=sm | no"
local macro_rules | `(tactic| walk_at "fd") => L2.mRows "as | Feed.same h e: e=as h=fd | Feed.off h e q f: e=as q=as f=as h=fd | no"
local macro_rules | `(tactic| walk_at "fz1") => L2.mRows "Same.fz b: b=as | ExtBut.fzL b l: b=as l=lk | ExtBut.fzD b l: b=as l=lk | Feed.fz f b: b=as f=fd | no"
local macro_rules | `(tactic| walk_at "fz") => L2.mRows "fz_refl | Fz.trans a x: x=fz1 a=fz | no"
local macro_rules | `(tactic| walk_at "sd") => `(tactic| first | omega | (show (0 : Int) < _; omega) | (unfold ax2; omega) | (unfold CMul; omega) | (unfold ax0; omega) | (unfold ax0; decide) | (refine ⟨?_, ?_⟩ <;> omega) | decide)
local macro_rules | `(tactic| walk_at "sz") => `(tactic| first | decide | exact A6 (by omega) | (rw [sizeLine_eq]; omega))
local macro_rules | `(tactic| walk_at "kv") => `(tactic| rfl)
local macro_rules | `(tactic| walk_at "rq1") => do
 let a <- L2.mAlts "i_asg i_gname i_ret i_drop i_if i_op i_un i_call i_cb i_cons i_nil i_c i_put i_tTest i_tB i_not i_and i_or i_tup i_lst i_next i_sl i_noPart i_part i_int i_for i_rng1 i_rng2 i_comp i_itS i_iany i_ienum i_ienumL i_irev i_chain i_andV i_orV i_notV i_dget1 i_tAt i_sSt i_tMe i_tMk i_tTru i_dget2 i_iDT i_bmT i_rU i_rI0 i_addI i_bl i_bm i_bm0 i_reprKB i_isN i_isNotN i_isB i_isNotB i_true i_tyS i_find i_intB i_inS i_pair i_pair0 iteR iteNR iteNbb itebb iteT iteF iteNT iteNF"
 let b <- L2.mRows "i_var w _: w=kv | i_rI w _: w=sd | i_mulBI w _: w=sd | i_tyLm w _: w=lk | i_ixD w v _: w=lk v=kv | i_eqS w _: w=kv | i_neS w _: w=kv | i_slS w _: w=sz | i_addS w _: w=sz | i_lenS w _: w=sz | i_lenL w _: w=lk | i_lenT w _: w=lk | i_cutN w _: w=ar"
 let c <- L2.mAltG "i_seqAG i_seqDG i_seqPG"
 `(tactic| first | $c:tactic | $a:tactic | $b:tactic)
local macro_rules | `(tactic| walk_at "rd1") => `(tactic| first | with_reducible refine aq2 fun N hN => ?_ | walk_at "rq1")
local macro_rules | `(tactic| walk_at "rq") => `(tactic| repeat (walk_at "rq1"))
local macro_rules | `(tactic| walk_at "rd") => `(tactic| repeat (walk_at "rd1"))
def Eh (l:Addr)(a t u:Int):List (Key×V):=[(Sum.inr "script",.ref l),(Sum.inr "at",.int a),(Sum.inr "left",.int t),(Sum.inr "turn",.int u)]
def Feed (H:Hp)(d l:Addr):Prop:=∃(a t u:Int) (ns:List Int),H d=some (.dK (Eh l a t u))/\H l=some (.lst (ns.map V.int))/\0<=ns.length/\ns.length<=64
def Hq (K:W.Frag):Sp:=λvs H Q _=>∃(a:Addr) (ns:List Int),vs=[.ref a]/\SqL K H a (ns.map V.int)/\ns.length<=63/\∀ d l H',H d=none->H l=none->Same H H'->Feed H' d l->Q (.ref d) H'
def Br (K:W.Frag):Sp:=λvs H Q _=>∃ d l n,vs=[.ref d,.int n]/\Feed H d l/\0<n/\n<1073741824/\∀ r H',0<=r->r<n->ExtBut d H H'->Feed H' d l->Q (.int r) H'
theorem Vy {l:Addr}{a t u:Int}:Cy (Eh l a t u) (Sum.inr "script":Key)=some (.ref l):=by rfl
theorem ax9 {l:Addr}{a t u:Int}:Cy (Eh l a t u) (Sum.inr "at":Key)=some (.int a):=by rfl
theorem ad7 {l:Addr}{a t u:Int}:Cy (Eh l a t u) (Sum.inr "left":Key)=some (.int t):=by rfl
theorem a92 {l:Addr}{a t u:Int}:Cy (Eh l a t u) (Sum.inr "turn":Key)=some (.int u):=by rfl
local macro_rules | `(tactic| walk_at "kv") => `(tactic| first | exact Vy | exact ax9 | exact ad7 | exact a92 | rfl)
theorem Yn {l:Addr}{a t u x:Int}:Ea (Eh l a t u) (Sum.inr "turn":Key) (.int x)=Eh l a t x:=by rfl
theorem am6 {l:Addr}{a t u x:Int}:Ea (Eh l a t u) (Sum.inr "at":Key) (.int x)=Eh l x t u:=by rfl
theorem Rv {l:Addr}{a t u x:Int}:Ea (Eh l a t u) (Sum.inr "left":Key) (.int x)=Eh l a x u:=by rfl
theorem Feed.same {H H':Hp}{d l:Addr}(h:Feed H d l)(e:Same H H'):Feed H' d l:=let ⟨a,t,u,ns,h1,h2,h3,h4⟩:=h;⟨a,t,u,ns,e _ _ h1,e _ _ h2,h3,h4⟩
theorem Feed.put {H H':Hp}{d l p:Addr}(h:Feed H d l)(e:ExtBut p H H')(hd:d≠p)(hl:l≠p):Feed H' d l:=let ⟨a,t,u,ns,h1,h2,h3,h4⟩:=h;⟨a,t,u,ns,e _ _ hd h1,e _ _ hl h2,h3,h4⟩
theorem Feed.nd {H:Hp}{d l p:Addr}(h:Feed H d l)(hp:H p=none):d≠p:=let ⟨_,_,_,_,h1,_⟩:=h;ne_of_none h1 hp
theorem Feed.nl {H:Hp}{d l p:Addr}(h:Feed H d l)(hp:H p=none):l≠p:=let ⟨_,_,_,_,_,h2,_⟩:=h;ne_of_none h2 hp
theorem Feed.lst {H:Hp} {d l b:Addr} {xs:List V} (h:Feed H d l) (hb:H b=some (.lst xs)):b≠d:=let ⟨_,_,_,_,h1,_⟩:=h;ne_of hb h1 (by intro z;cases z)
theorem Feed.free {H H':Hp}{d l p:Addr}(h:Feed H' d l)(e:ExtBut d H H')(hp:H' p=none):H p=none:=by
 cases hq:H p with
 |none=>rfl
 |some o=>
   obtain⟨_,_,_,_,h1,_⟩:=h;have n:p≠d:=λq=>by subst q;rw[hp] at h1;cases h1
   rw[e p o n hq] at hp
   cases hp
theorem Feed.fz {H H':Hp}{d l:Addr}(h:Feed H d l)(e:ExtBut d H H'):Fz H H':=let ⟨_,_,_,_,h1,_⟩:=h;e.fzD h1
theorem Feed.off {H H1 H2:Hp}{d l q:Addr}(h:Feed H1 d l)(e:ExtBut q H1 H2)(hq:H q=none)(hF:Feed H d l):Feed H2 d l:=h.put e (hF.nd hq) (hF.nl hq)
theorem Op {f:Addr}{fd:FuncData}(F:Fun K "_law_draw" "_law_draw" Ej f fd)(T:Gj mg):FnOk P w K mg base CX0 1 f fd ["_law_feed_here","_law_many"] (Br K):=by
 refine F.ok Dq (λvs H Q E h=>?_) (λcdv A outer s H vs Q E hr h=>?_)
 . obtain⟨d,l,n,rfl,_⟩:=h;rfl
 obtain⟨d,l,n,rfl,⟨a,t,u,ns,hd,hl,h0,h64⟩,hn,hn2,k⟩:=h;have hu:=Db hr;have hq:=Dc hr;have hld:l≠d:=ne_of hl hd (by intro z;cases z)
 with_reducible refine⟨_,(A1 (Fe hu (pv 0) An (Af (Ae (K:=K)) (Ao (A7 (K:=K) hu) (pv 0) An (by ac_rfl)) A3) ⋯)
  (A1 (Cq (Ah W0 (Ao (A7 (K:=K) hu) (pv 0) An (by ac_rfl)) A3 (Au _)) (A1 (Aa (i:=2) Dq.nd ⋯ (by eq_refl) (Af Gw (Ao (A7 (K:=K) hu) (pv 0) An (by ac_rfl)) (pv 1)))
  (A1 (Fe hu (pv 0) An (Af J4 (Ao (A7 (K:=K) hu) (pv 0) An (by ac_rfl)) (pv 1)) ⋯)
  (A5 (Am (pv 2))))) At)
  (A1 (Aa (i:=3) Dq.nd ⋯ (by eq_refl) A3)
  (A1 (Cq (Ah (Vw (K:=K) hq) (Ao (A7 (K:=K) hu) (pv 0) An (by ac_rfl)) (B4 A2) (Au _)) (A5 (Aa (i:=3) Dq.nd ⋯ (by eq_refl) (Ao (A7 (K:=K) hu) (Ao (A7 (K:=K) hu) (pv 0) An (by ac_rfl)) (Af Gw (Ao (A7 (K:=K) hu) (pv 0) An (by ac_rfl)) (Ag (B6 (K:=K)) ⋯ T.b_len PyProof.Rows.Boot.«len» (A0 (Ao (A7 (K:=K) hu) (pv 0) An (by ac_rfl)) A2))) (by ac_rfl)))) At)
  (A1 (Fe hu (pv 0) An (Af (Ae (K:=K)) (Ao (A7 (K:=K) hu) (pv 0) An (by ac_rfl)) A3) ⋯)
  (A1 (Cq (PW.pt (a41 (Ah aw5 (pv 3) (Af ak4 A3 A3) (Au _)) (Vg (Ah ar1 (Ao (A7 (K:=K) hu) (pv 0) An (by ac_rfl)) (Ag (B6 (K:=K)) ⋯ T.b_len PyProof.Rows.Boot.«len» (A0 (Ao (A7 (K:=K) hu) (pv 0) An (by ac_rfl)) A2)) (Au _))))) (A1 (Fe hu (pv 0) An (Af J4 (pv 3) (pv 1)) ⋯)
  (A5 (Am (Af Gw (pv 3) (pv 1))))) At)
  (A1 (Aa (i:=4) Dq.nd ⋯ (by eq_refl) (Af Gw (Af Fd (Af (Ae (K:=K)) (Af Gw (pv 3) A3) (Af Fd A3 (Ao (A7 (K:=K) hu) (pv 0) An (by ac_rfl)))) A3) A3))
  (A1 (Aa (i:=4) Dq.nd ⋯ (by eq_refl) (Af Gw (Af Fd (Af (Ae (K:=K)) (Af J4 (pv 4) A3) (Af Fd A3 (Ao (A7 (K:=K) hu) (pv 0) An (by ac_rfl)))) A3) A3))
  (A5 (Am (Af Gw (Af J4 (pv 4) A3) (pv 1)))))))))))),?_⟩
 symm
 refine Jm hd (by show 4<1000;decide) λH1 e1 hd1=>?_;rw[Yn] at hd1;have hl1:H1 l=some (.lst (ns.map V.int)):=e1 _ _ hld hl
 symm
 refine Hx (λht=>?_) (λht=>?_)
 . symm
   refine Jm hd1 (by show 4<1000;decide) λH2 e2 hd2=>?_;rw[Rv] at hd2;have hl2:H2 l=some (.lst (ns.map V.int)):=e2 _ _ hld hl1
   symm
   exact k _ H2 (A3A _ ∅) (A2N _ hn) (e1.trans e2) ⟨_,_,_,ns,hd2,hl2,h0,h64⟩
 walk_at "rq"
 with_reducible refine Ud (fun σ' H'=>∃ c:Int,σ'=[some (.ref d),some (.int n),none,some (.int c),none]/\Same H1 H') (λN hN=>?_) (fun σ1 H2 hM=>?_)
 . walk_at "rq";refine B5 nofun λy H2 hy2 e2 h2=>?_;refine ar8 (T3 (e2.seq (SqL.of hl1))) (T3 (ns:=[]) (SqL.of h2)) (W.ke_shaped_ints ns) (W.ke_shaped_ints []) ?_;walk_at "rq";refine Vh (λhc=>?_) (λhc=>?_)
   . have hpos:0<ns.length:=by
      cases ns with
      |nil=>simp[PyData.eqv,PyData.eqvAll] at hc
      |cons=>simp
     have hl2:=e2 _ _ hl1;have hd2:=e2 _ _ hd1;walk_at "rq";have hlen:(0:Int)<((ns.map V.int).length:Nat):=by rw[A01];omega
     refine i_rI hlen ?_;have hm0:0<=a % (((ns.map V.int).length:Nat):Int):=A3A _ ∅;have hm1:=A2N a hlen
     obtain⟨c,hc⟩:∃ c,(ns.map V.int)[(a % (((ns.map V.int).length:Nat):Int)).toNat]? = some (V.int c):=by refine⟨ns[(a % (((ns.map V.int).length:Nat):Int)).toNat]'(by rw[A01] at *;omega),?_⟩;rw[A08,A06];rfl
     refine Ir hl2 (by have:=Dh hc;rwa[A30 hm0] at this) ?_
     walk_at "rq";exact hN _ _ ⟨c,rfl,e2⟩
   walk_at "rq";exact hN _ _ ⟨0,rfl,e2⟩
 obtain⟨c,rfl,e2⟩:=hM;have hd2:=e2 _ _ hd1;have hl2:=e2 _ _ hl1;have e12:ExtBut d H H2:=e1.same e2
 symm
 refine Jm hd2 (by show 4<1000;decide) λH3 e3 hd3=>?_;rw[am6] at hd3;have hl3:H3 l=some (.lst (ns.map V.int)):=e3 _ _ hld hl2;have fin:∀ r:Int,0<=r->r<n->Q (.int r) H3:=λr h1 h2=>k r H3 h1 h2 (e12.trans e3) ⟨_,_,_,ns,hd3,hl3,h0,h64⟩;have take:∀ r x:Int,0<=r->r<n->∀ H4,ExtBut d H3 H4->H4 d=some (.dK (Eh l (a+1) x (u+1)))->Q (.int r) H4:=λr x h1 h2 H4 e4 h4=>k r H4 h1 h2 ((e12.trans e3).trans e4) ⟨_,_,_,ns,h4,e4 _ _ hld hl3,h0,h64⟩
 symm
 refine Hx (λhc=>?_) (λhc=>?_)
 . symm
   refine Hx (λhc2=>?_) (λhc2=>?_)
   . symm
     refine Jm hd3 (by show 4<1000;decide) λH4 e4 hd4=>?_;rw[Rv] at hd4
     symm
     exact take _ _ (A3A _ ∅) (A2N _ hn) H4 e4 hd4
   symm
   exact fin _ (A3A _ ∅) (A2N _ hn)
 symm
 exact fin _ (A3A _ ∅) (A2N _ hn)
theorem Pz {f:Addr}{fd:FuncData}(F:Fun K "_law_feed" "_law_feed" En f fd)(T:Gj mg):FnOk P w K mg base CX0 1 f fd ["_law_script"] (Hq K):=by
 refine F.ok Oq (λvs H Q E h=>?_) (λcdv A outer s H vs Q E hr h=>?_)
 . obtain⟨a,ns,rfl,_⟩:=h;rfl
 obtain⟨a,ns,rfl,hS,h63,k⟩:=h;have hu:=Db hr;have hq:=Dc hr
 with_reducible refine⟨_,(A5 (Am (Xc (Ia An (Bx (M4 (K:=K)) ⋯ T.b_list PyProof.Rows.Boot.«list» (A0 (Ay (Lc (K:=K)) (pv 0) Ck (Az A3)) A2)) (Ia An A3 (Ia An A3 (Ia An A3 Re)))) ⋯ ⋯ nofun nofun))),?_⟩
 symm
 refine a56 λp H1 hp e1 hp1=>?_
 symm
 have hS1:=e1.seq hS;refine K9 hS1 λq H2 hq2 e2 hq2'=>?_;rw[Ep nofun,<- A1W] at hq2'
 symm
 refine ag1 (SqL.of hq2') λv H3 hv3 e3 hv3'=>?_
 symm
 refine Vx [(Sum.inr "script",.ref v),(Sum.inr "at",.int 0),(Sum.inr "left",.int 0),(Sum.inr "turn",.int 0)] (by walk_at "lk") (by rfl) (by show 4<=15;decide) λH4 e4 h4=>?_;have en:H4 p=some (.dK (Eh v 0 0 0)):=h4;refine k p v H4 hp (e1.free (e2.free hv3)) (λb o hb=>e4 b o (ne_of_none hb hp) (e3 _ _ (e2 _ _ (e1 _ _ hb)))) ⟨0,0,0,_,en,e4 _ _ (Ne.symm (ne_of_none (e2 _ _ hp1) hv3)) hv3',A2Q _,?_⟩;rw[A0O];omega
def Bn (K:W.Frag):Sp:=λvs H Q _=>∃ d l a xs,vs=[.ref d,.ref a]/\Feed H d l/\(SqL K H a xs\/SqT K H a xs)/\xs.length<=1000/\∀ p ys H',H p=none->ExtBut d H H'->Feed H' d l->H' p=some (.lst ys)->ys.Perm xs->Q (.ref p) H'
theorem Kh {f:Addr}{fd:FuncData}(F:Fun K "_law_shuffled" "_law_shuffled" Bw f fd)(T:Gj mg)(A9:Fnd P w K mg base 1 "_law_draw" ["_law_feed_here","_law_many"] (Br K)):FnOk P w K mg base CX0 2 f fd ["_law_feed_here","_law_some"] (Bn K):=by
 refine F.ok Dd (λvs H Q E h=>?_) (λcdv A outer s H vs Q E hr h=>?_)
 . obtain⟨d,l,a,xs,rfl,_⟩:=h;rfl
 obtain⟨d,l,a,xs,rfl,hF,hS,hx,k⟩:=h;have hu:=Db hr;have hq:=Dc hr
 with_reducible refine⟨_,(A1 (Aa (i:=2) Dd.nd ⋯ (by eq_refl) (Bx (M4 (K:=K)) ⋯ T.b_list PyProof.Rows.Boot.«list» (A0 (pv 1) A2)))
  (A1 (Aa (i:=3) Dd.nd ⋯ (by eq_refl) (B4 A2))
  (A1 (Cf A0V ⋯ (Dv ⋯ T.b_range (A0 (Ag (B6 (K:=K)) ⋯ T.b_len PyProof.Rows.Boot.«len» (A0 (pv 2) A2)) A2)) (Ab (i:=4) Dd.nd ⋯ (by eq_refl))
  (A5 (Fg (Gz (K:=K) A15 A41 A42 (mm Jg) (pv 3) (A0 (Gz (K:=K) A15 PySem.F.slot_list_pop PySem.F.type_list_pop (mm Z4) (pv 2) (A0 (Bc A9 (hr.mono nofun) ⋯ (A0 (pv 0) (A0 (Ag (B6 (K:=K)) ⋯ T.b_len PyProof.Rows.Boot.«len» (A0 (pv 2) A2)) A2))) A2)) A2)))))
  (A5 (Am (pv 3)))))),?_⟩
 symm
 refine ag7 hS λq H1 hq1 e1 h1=>?_
 symm
 refine B5 nofun λp H2 hp2 e2 h2=>?_
 symm
 refine Jc ∅ ?_;have hp0:H p=none:=e1.free hp2;have hpq:p≠q:=λz=>by subst z;rw[h1] at hp2;cases hp2
 refine Ew Cb (λi σ H3=>∃ us vs x4,σ=[some (.ref d),some (.ref a),some (.ref q),some (.ref p),x4]/\ExtBut d H H3/\Feed H3 d l/\H3 q=some (.lst us)/\H3 p=some (.lst vs)/\(vs++us).Perm xs/\us.length+i=xs.length/\vs.length=i)
  ⟨xs,[],none,rfl,by walk_at "fr",by walk_at "fd",by walk_at "lk",h2,by simp,rfl,rfl⟩ (λ_ _ _ _=>trivial) (λi x σ H3 hx3 hi hP=>?_) (fun σ H3 hP=>?_)
 . obtain⟨us,vs,x4,rfl,e3,hF3,h3q,h3p,hperm,hlen,hvl⟩:=hP;obtain⟨rfl,hi2⟩:=G1 hx3;have hi3:i<xs.length:=by simpa using hi2
   symm
   refine⟨d,l,_,rfl,hF3,by omega,by omega,λr H4 hr0 hr1 e4 hF4=>?_⟩;have h4q:H4 q=some (.lst us):=e4 _ _ (hF3.lst h3q) h3q;have h4p:H4 p=some (.lst vs):=e4 _ _ (hF3.lst h3p) h3p;have hr2:r.toNat<us.length:=by omega
   symm
   refine Yq h4q hr0 (A06 hr2) (λH5 e5 h5q=>?_) ∅;have h5p:H5 p=some (.lst vs):=e5 _ _ hpq h4p
   symm
   refine Vq h5p ∅ λH6 e6 h6p=>?_
   symm
   refine⟨us.eraseIdx r.toNat,vs++[us[r.toNat]],_,rfl,by walk_at "fr",(hF4.put e5 (hF.nd hq1) (hF.nl hq1)).put e6 (hF.nd hp0) (hF.nl hp0),e6 _ _ (Ne.symm hpq) h5q,h6p,?_,?_,by simp[hvl]⟩
   . exact(Yp (A06 hr2) vs).trans hperm
   rw[List.length_eraseIdx,A0W hr2];omega
 obtain⟨us,vs,x4,rfl,e3,hF3,h3q,h3p,hperm,hlen,hvl⟩:=hP
 symm
 have hu0:us=[]:=by rw[A01,A1B] at hlen;exact A12.mp ∅
 subst hu0;rw[A1N] at hperm;exact k p vs H3 hp0 e3 hF3 h3p hperm
def Dy (K:W.Frag):Sp:=λvs H Q _=>∃ d l,vs=[.ref d]/\Feed H d l/\∀ p ns H',H p=none->ExtBut d H H'->Feed H' d l->H' p=some (.lst (ns.map V.str))->Names ns->ns.length=10->Q (.ref p) H'
def MN (H:Hp)(d l:Addr)(way st sz at':Int):L2.St->Hp->Prop:=fun σ' H'=>∃ p ns x7 x8,σ'=[some (V.ref d),some (.str LL),some (.int way),some (.int st),some (.int (1+sz)),some (.int at'),some (.ref p),x7,x8]/\ExtBut d H H'/\Feed H' d l/\H' p=some (.lst (ns.map V.str))/\Names ns/\ns.length=10
theorem Nr {f:Addr}{fd:FuncData}(F:Fun K "_law_names" "_law_names" Dm f fd)(T:Gj mg)(A9:Fnd P w K mg base 1 "_law_draw" ["_law_feed_here","_law_many"] (Br K))(Ai:Fnd P w K mg base 2 "_law_shuffled" ["_law_feed_here","_law_some"] (Bn K)):FnOk P w K mg base CX0 3 f fd ["_law_feed_here"] (Dy K):=by
 refine F.ok Ar (λvs H Q E h=>?_) (λcdv A outer s H vs Q E hr h=>?_)
 . obtain⟨d,l,rfl,_⟩:=h;rfl
 obtain⟨d,l,rfl,hF,k⟩:=h;have hu:=Db hr;have hq:=Dc hr
 with_reducible refine⟨_,(A1 (Aa (i:=1) Ar.nd ⋯ (by with_unfolding_all exact A2M rfl) (Af Fd An A3))
  (A1 (Aa (i:=2) Ar.nd ⋯ (by eq_refl) (Bc A9 (hr.mono nofun) ⋯ (A0 (pv 0) (A0 A3 A2))))
  (A1 (Aa (i:=3) Ar.nd ⋯ (by with_unfolding_all exact A2M rfl) (Bc A9 (hr.mono nofun) ⋯ (A0 (pv 0) (A0 A3 A2))))
  (A1 (Aa (i:=4) Ar.nd ⋯ (by eq_refl) (Af (Ae (K:=K)) A3 (Bc A9 (hr.mono nofun) ⋯ (A0 (pv 0) (A0 A3 A2)))))
  (A1 (Aa (i:=5) Ar.nd ⋯ (by eq_refl) (Bc A9 (hr.mono nofun) ⋯ (A0 (pv 0) (A0 (pv 4) A2))))
  (A1 (Aa (i:=6) Ar.nd ⋯ (by eq_refl) (B4 (A0 An (A0 An (A0 An (A0 An (A0 An (A0 An (A0 An (A0 An (A0 An (A0 An A2))))))))))))
  (A1 (Cq (Ah (C6 (K:=K) hq) (pv 2) A3 (Au _)) (A1 (Aa (i:=7) Ar.nd ⋯ (by with_unfolding_all exact A2M rfl) (Ay (Lc (K:=K)) (pv 1) (Az (pv 3)) (Az (Af (Ae (K:=K)) (pv 3) (pv 5)))))
  (A1 (Aa (i:=8) Ar.nd ⋯ (by with_unfolding_all exact A2M rfl) (Ay (Lc (K:=K)) (pv 1) (Az (pv 3)) (Az (Af Ha (Af Ha (Af (Ae (K:=K)) (pv 3) (pv 4)) (pv 5)) A3))))
  (A5 (Ec (i:=6) ["_law_k"] ["_law_head","_law_letters","_law_tail"] [7,1,8] ⋯ ⋯ ⋯ Ar.nd ⋯ ⋯ (Dv ⋯ T.b_range (A0 A3 A2)) (λ_ _ _ _=>(Ab (i:=0) (by with_unfolding_all (show(["_law_k","_law_head","_law_letters","_law_tail"]:List Str).Nodup;decide +kernel)) ⋯ (by eq_refl))) (Bf nofun) (λ_ _ _ _=>Ct) (λ_ _ _ _=>(Af (Ae (K:=K)) (Af (Ae (K:=K)) (pv 1) (Ao (A7 (K:=K) hu) (pv 2) (Af Gw (Af Fd A3 (pv 0)) A3) (by ac_rfl))) (pv 3))))))) At)
  (A1 (Cq (Ah (C6 (K:=K) hq) (pv 2) A3 (Au _)) (A5 (Aa (i:=6) Ar.nd ⋯ (by eq_refl) (Af (Ae (K:=K)) (Cm ["_law_k"] ["_law_letters","_law_start"] [1,3] ⋯ ⋯ ⋯ (Dv ⋯ T.b_range (A0 A3 A2)) (λ_ _ _ _=>(Ab (i:=0) (by with_unfolding_all (show(["_law_k","_law_letters","_law_start"]:List Str).Nodup;decide +kernel)) ⋯ (by eq_refl))) (Bf nofun) (λ_ _ _ _=>Ct) (λ_ _ _ _=>(Ay (Lc (K:=K)) (pv 1) (Az (pv 2)) (Az (Af (Ae (K:=K)) (Af (Ae (K:=K)) (pv 2) A3) (pv 0)))))) (B4 (A0 (Ao (A7 (K:=K) hu) (pv 1) (Af (Ae (K:=K)) (pv 3) A3) (by ac_rfl)) (A0 (Ao (A7 (K:=K) hu) (pv 1) (Af (Ae (K:=K)) (pv 3) A3) (by ac_rfl)) A2)))))) At)
  (A1 (Cq (Ah (C6 (K:=K) hq) (pv 2) A3 (Au _)) (A5 (Ec (i:=6) ["_law_k"] ["_law_letters","_law_start"] [1,3] ⋯ ⋯ ⋯ Ar.nd ⋯ ⋯ (Dv ⋯ T.b_range (A0 A3 A2)) (λ_ _ _ _=>(Ab (i:=0) (by with_unfolding_all (show(["_law_k","_law_letters","_law_start"]:List Str).Nodup;decide +kernel)) ⋯ (by eq_refl))) (Bf nofun) (λ_ _ _ _=>Ct) (λ_ _ _ _=>(Ay (Lc (K:=K)) (pv 1) (Az (Af (Ae (K:=K)) (pv 2) (Af Fd A3 (pv 0)))) (Az (Af (Ae (K:=K)) (Af (Ae (K:=K)) (Af (Ae (K:=K)) (pv 2) (Af Fd A3 (pv 0))) A3) (Af Gw (Af Fd A3 (pv 0)) A3))))))) At)
  (A5 (Am (Bc Ai (hr.mono nofun) ⋯ (A0 (pv 0) (A0 (pv 6) A2)))))))))))))),?_⟩
 symm
 refine a73 nofun ?_;rw[ar0]
 symm
 refine⟨d,l,_,rfl,hF,by omega,by omega,λway H1 hw0 hw1 e1 hF1=>?_⟩
 symm
 refine⟨d,l,_,rfl,hF1,by omega,by omega,λst H2 hs0 hs1 e2 hF2=>?_⟩
 symm
 refine⟨d,l,_,rfl,hF2,by omega,by omega,λsz H3 hz0 hz1 e3 hF3=>?_⟩
 symm
 refine⟨d,l,_,rfl,hF3,by omega,by omega,λat' H4 ha0 ha1 e4 hF4=>?_⟩
 symm
 refine B5 nofun λp5 H5 hp5 e5 h5=>?_;walk_at "rq";have fr4:ExtBut d H H4:=by walk_at "fr"
 have hF5:Feed H5 d l:=by walk_at "fd"
 with_reducible refine Ud (MN H d l way st sz at') (λN hN=>?_) (fun σ1 H6 hM=>?_)
 . walk_at "rq";refine Hx (λhw=>?_) (λhw=>?_)
   . walk_at "rq";refine Jc ∅ ?_;have c1:=Sx (i:=st) (j:=st+at') hs0 ∅ ∅;have c2:=Sx (i:=st) (j:=st+(1+sz)-at'-1) ∅ ∅ ∅;rw[c1,c2];refine Nf Cb (fI λk=>.str (txt (Lz st.toNat (st+at').toNat)++txt (Oe (7*k % 26).toNat)++txt (Lz st.toNat (st+(1+sz)-at'-1).toNat))) (by simp) (λ_ _=>trivial) (λi x H8 R hx e8 hR=>?_) (λp8 H8 hp8 e8 h8=>?_)
     . obtain⟨rfl,hi⟩:=G1 hx;have hm0:=A3A (7*(0+(i:Int))) (show(26:Int)≠0 by decide);have hm1:=A2N (7*(0+(i:Int))) (show(0:Int)<26 by decide);obtain⟨c,hc,ec⟩:=ag5 (i:=7*(0+(i:Int)) % 26) ∅ ∅;walk_at "rq";refine a82 Qw hc ?_;rw[ec];have l1:(txt (Lz st.toNat (st+at').toNat)).length<=52:=by show(Lz _ _).toArray.size<=_;unfold Lz;simp[K2];omega
       have l2:(txt (Lz st.toNat (st+(1+sz)-at'-1).toNat)).length<=52:=by show(Lz _ _).toArray.size<=_;unfold Lz;simp[K2];omega
       have l3:(txt (Oe (7*(0+(i:Int)) % 26).toNat)).length<=52:=by show(Oe _).toArray.size<=_;unfold Oe;simp[K2];omega
       refine i_addS (A6 ∅) ?_;have l4:(txt (Lz st.toNat (st+at').toNat)++txt (Oe (7*(0+(i:Int)) % 26).toNat)).length<=104:=by rw[Str.length_append];omega
       walk_at "rq";exact hR
     rw[R3 (G:=λk=>txt (Lz st.toNat (st.toNat+at'.toNat)++Oe (7*k % 26)++Lz st.toNat (st.toNat+(1+sz).toNat-at'.toNat-1))) (λk hk=>by
      have q1:(st+at').toNat=st.toNat+at'.toNat:=by omega
      have q2:(7*(0+(k:Int)) % 26).toNat=7*k % 26:=by omega
      have q4:(st+(1+sz)-at'-1).toNat=st.toNat+(1+sz).toNat-at'.toNat-1:=by omega
      rw[q1,q2,q4,Xn,Xn])] at h8
     walk_at "rq";refine hN _ _ ⟨p8,(ah9 st.toNat (1+sz).toNat at'.toNat).map txt,_,_,rfl,by walk_at "fr",by walk_at "fd",?_,ad8 ∅ ∅ ∅,by simp[ah9]⟩;rw[h8];simp[ah9,Function.comp_def]
   walk_at "rq";refine hN _ _ ⟨p5,aA1,none,none,rfl,by walk_at "fr",hF5,h5,ae2,rfl⟩
 obtain⟨p,ns,x7,x8,rfl,e6,hF6,h6,hN6,hl6⟩:=hM
 with_reducible refine Ud (MN H d l way st sz at') (λN hN=>?_) (fun σ1 H7 hM=>?_)
 . walk_at "rq";refine Hx (λhw=>?_) (λhw=>?_)
   . walk_at "rq";refine Jc ∅ ?_;refine Nf Cb (fI λk=>.str (Txt.slice LL (some st) (some (st+1+k)))) (by simp) (λ_ _=>trivial) (λi x H6 R hx e6 hR=>?_) (λp6 H7 hp6 e7 h7=>?_)
     . obtain⟨rfl,hi⟩:=G1 hx;walk_at "rq";exact hR
     rw[R3 (G:=λk=>txt (Lz st.toNat (st.toNat+1+k))) (λk hk=>by
      have e:=Sx (i:=st) (j:=st+1+(0+(k:Int))) hs0 ∅ (by have:((8:Int)).toNat=8:=rfl;omega);have e2:(st+1+(0+(k:Int))).toNat=st.toNat+1+k:=by omega
      rw[e2] at e;rw[e])] at h7
     obtain⟨c9,hc9,e9⟩:=ag5 (i:=st+9) ∅ ∅;obtain⟨c11,hc11,e11⟩:=ag5 (i:=st+11) ∅ ∅;walk_at "rq";refine a82 Qw hc9 ?_;walk_at "rq";refine a82 Qw hc11 ?_;walk_at "rq";refine B5 (A6 (by simp)) λp8 H8 hp8 e8 h8=>?_;refine Ih (by walk_at "lk") h8 (by simp[sizeLine_eq]) λp9 H9 hp9 e9' h9=>?_;walk_at "rq";refine hN _ _ ⟨p9,(aj9 st.toNat).map txt,_,_,rfl,by walk_at "fr",by walk_at "fd",?_,ae7 ∅,by simp[aj9]⟩;rw[h9,e9,e11];have q9:(st+9).toNat=st.toNat+9:=by omega
     have q10:(st+11).toNat=st.toNat+11:=by omega
     rw[q9,q10];simp[aj9,Function.comp_def]
   walk_at "rq";exact hN _ _ ⟨p,ns,x7,x8,rfl,e6,hF6,h6,hN6,hl6⟩
 obtain⟨p',ns',x7',x8',rfl,e7,hF7,h7,hN7,hl7⟩:=hM
 with_reducible refine Ud (MN H d l way st sz at') (λN hN=>?_) (fun σ1 H8 hM=>?_)
 . walk_at "rq";refine Hx (λhw=>?_) (λhw=>?_)
   . walk_at "rq";refine Jc ∅ ?_;refine Nf Cb (fI λk=>.str (Txt.slice LL (some (st+2*k)) (some (st+2*k+1+5*k % 8)))) (by simp) (λ_ _=>trivial) (λi x H8 R hx e8 hR=>?_) (λp8 H8 hp8 e8 h8=>?_)
     . obtain⟨rfl,hi⟩:=G1 hx;walk_at "rq";exact hR
     rw[R3 (G:=λk=>txt (Lz (st.toNat+2*k) (st.toNat+2*k+1+5*k % 8))) (λk hk=>by
      have h10:((10:Int)).toNat=10:=rfl;have e:=Sx (i:=st+2*(0+(k:Int))) (j:=st+2*(0+(k:Int))+1+5*(0+(k:Int)) % 8) ∅ ∅ ∅;have q1:(st+2*(0+(k:Int))).toNat=st.toNat+2*k:=by omega
      have q2:(st+2*(0+(k:Int))+1+5*(0+(k:Int)) % 8).toNat=st.toNat+2*k+1+5*k % 8:=by omega
      rw[q1,q2] at e;rw[e])] at h8
     walk_at "rq";refine hN _ _ ⟨p8,(at2 st.toNat).map txt,_,_,rfl,by walk_at "fr",by walk_at "fd",?_,a88 ∅,by simp[at2]⟩;rw[h8];simp[at2,Function.comp_def]
   walk_at "rq";exact hN _ _ ⟨p',ns',x7',x8',rfl,e7,hF7,h7,hN7,hl7⟩
 obtain⟨p2,ms,y7,y8,rfl,e8,hF8,h8,hN8,hl8⟩:=hM
 symm
 refine⟨d,l,p2,_,rfl,hF8,.inl (SqL.of h8),by rw[A01];omega,λp9 ys9 H9 hp9 e9 hF9 h9 hperm=>?_⟩;obtain⟨ls,rfl,hpm⟩:=Ic hperm;exact k p9 ls H9 (hF8.free e8 hp9) (e8.trans e9) hF9 h9 (hN8.perm hpm) (by rw[hpm.length_eq,hl8])
def Fp (K:W.Frag):Sp:=λvs H Q _=>∃ d l way j k m,vs=[.ref d,.int way,.int j,.int k,.int m]/\Feed H d l/\0<=way/\way<7/\0<k/\k<=100/\∀ b H',ExtBut d H H'->Feed H' d l->Q (.bl b) H'
def Hs (K:W.Frag):Sp:=λvs H Q _=>∃ d l n,vs=[.ref d,.int n]/\Feed H d l/\0<=n/\n<=10/\∀ v ns ps H',ExtBut d H H'->Feed H' d l->Is K H' (hfD ns ps) v->Half ns ps->ns.length=n.toNat->Q v H'
theorem Yt {K:W.Frag}{H:Hp}{ps:List (Str×Str)}{xs:List V}{p:Str×Str}{v:V}(n:Nat)(h:IsL K H (ps.map prD) xs)(hv:Is K H (prD p) v):IsL K H ((ps.take n++p :: ps.drop n).map prD) (au7 xs n v):=by rw[A0E,A0G,A1W,A2W];exact(IsL.take n h).append (.cons hv (IsL.drop n h))
theorem Ft {K:W.Frag}{H:Hp}{ps:List (Str×Str)}{xs:List V}(h:IsL K H (ps.map prD) xs):xs.length=ps.length:=by rw[<- IsL.length h,A01]
theorem ap9 {ls:List Str}{ps:List (Str×Str)}{p:Str×Str}(n:Nat)(h:Up ls ps)(hp:Up ls [p]):Up ls (ps.take n++p :: ps.drop n):=by
 intro z hz;rcases A0R.mp hz with hz|hz
 . exact h z (A1U hz)
 rcases A0B.mp hz with rfl|hz
 . exact hp _ (by simp)
 exact h z (A4T hz)
theorem L5 {f:Addr}{fd:FuncData}(F:Fun K "_law_is_laid" "_law_is_laid" C9 f fd)(T:Gj mg)(A9:Fnd P w K mg base 1 "_law_draw" ["_law_feed_here","_law_many"] (Br K)):FnOk P w K mg base CX0 2 f fd ["_law_feed_here","_law_way","_law_j","_law_k","_law_many"] (Fp K):=by
 refine F.ok L9 (λvs H Q E h=>?_) (λcdv A outer s H vs Q E hr h=>?_)
 . obtain⟨d,l,way,j,kk,m,rfl,_⟩:=h;rfl
 obtain⟨d,l,way,j,kk,m,rfl,hF,hw0,hw1,hk0,hk1,k⟩:=h;have hu:=Db hr;have hq:=Dc hr
 with_reducible refine⟨_,(A1 (Cq (PW.pt (av7 (Ah (C6 (K:=K) hq) (pv 1) A3 (Au _)) (ai0 (Ah (C6 (K:=K) hq) (pv 1) A3 (Au _))))) (A5 (Am (Io (C6 (K:=K) hq) (Bc A9 (hr.mono nofun) ⋯ (A0 (pv 0) (A0 (Af Fd A3 (pv 1)) A2))) A3 (Au _)))) At)
  (A1 (Cq (Ah (C6 (K:=K) hq) (pv 1) A3 (Au _)) (A5 (Am (Io W0 (Bc A9 (hr.mono nofun) ⋯ (A0 (pv 0) (A0 A3 A2))) A3 (Au _)))) At)
  (A1 (Cq (Ah (C6 (K:=K) hq) (pv 1) A3 (Au _)) (A5 (Am (Io (C6 (K:=K) hq) (Af Ha (pv 3) (pv 2)) (Af (Ae (K:=K)) A3 (Af Gw (pv 4) A3)) (Au _)))) At)
  (A1 (Cq (Ah (C6 (K:=K) hq) (pv 1) A3 (Au _)) (A5 (Am (Zf Zh ar1 (pv 2) (Af J4 (pv 4) A3) (pv 3)))) At)
  (A5 (Am (al5 (Io (C6 (K:=K) hq) (pv 1) A3 (Au _)) (a07 (Io (C6 (K:=K) hq) (pv 2) (Bc A9 (hr.mono nofun) ⋯ (A0 (pv 0) (A0 (pv 3) A2))) (Au _)))))))))),?_⟩
 symm
 refine Hx (λhw=>?_) (λhw=>?_)
 . have hw':way=1:=by cases hw;rfl
   symm
   refine⟨d,l,_,rfl,hF,by omega,by omega,λu H1 hu0 hu1 e1 hF1=>?_⟩
   symm
   exact k _ H1 e1 hF1
 symm
 refine Hx (λhw2=>?_) (λhw2=>?_)
 . have hw':way=2:=by cases hw2;rfl
   symm
   refine⟨d,l,_,rfl,hF,by omega,by omega,λu H1 hu0 hu1 e1 hF1=>?_⟩
   symm
   exact k _ H1 e1 hF1
 symm
 refine Hx (λhw3=>?_) (λhw3=>?_)
 . symm
   refine⟨d,l,_,rfl,hF,by omega,by omega,λu H1 hu0 hu1 e1 hF1=>?_⟩
   symm
   exact k _ H1 e1 hF1
 symm
 refine Hx (λhw4=>?_) (λhw4=>?_)
 . symm
   exact k _ H .refl hF
 symm
 refine Hx (λhw5=>?_) (λhw5=>?_)
 . symm
   refine Hx (λh1=>?_) (λh1=>?_)
   . symm
     exact k _ H .refl hF
   exact k _ H .refl hF
 symm
 refine Hx (λh1=>?_) (λh1=>?_)
 . symm
   refine⟨d,l,_,rfl,hF,by omega,by omega,λu H1 hu0 hu1 e1 hF1=>?_⟩
   symm
   exact k _ H1 e1 hF1
 exact k _ H .refl hF
theorem Oj {f:Addr}{fd:FuncData}(F:Fun K "_law_half" "_law_half" Ef f fd)(T:Gj mg)(A9:Fnd P w K mg base 1 "_law_draw" ["_law_feed_here","_law_many"] (Br K))(Ai:Fnd P w K mg base 2 "_law_shuffled" ["_law_feed_here","_law_some"] (Bn K))(Bt:Fnd P w K mg base 3 "_law_names" ["_law_feed_here"] (Dy K))(Fw:Fnd P w K mg base 2 "_law_is_laid" ["_law_feed_here","_law_way","_law_j","_law_k","_law_many"] (Fp K)):FnOk P w K mg base CX0 4 f fd ["_law_feed_here","_law_many"] (Hs K):=by
 refine F.ok Bs (λvs H Q E h=>?_) (λcdv A outer s H vs Q E hr h=>?_)
 . obtain⟨d,l,n,rfl,_⟩:=h;rfl
 obtain⟨d,l,n,rfl,hF,h0,h10,k⟩:=h;have hu:=Db hr;have hq:=Dc hr
 with_reducible refine⟨_,(A1 (Aa (i:=2) Bs.nd ⋯ (by eq_refl) (Ay (Lc (K:=K)) (Bc Bt (hr.mono nofun) ⋯ (A0 (pv 0) A2)) Ck (Az (pv 1))))
  (A1 (Aa (i:=3) Bs.nd ⋯ (by eq_refl) (Bc Ai (hr.mono nofun) ⋯ (A0 (pv 0) (A0 (pv 2) A2))))
  (A1 (Aa (i:=4) Bs.nd ⋯ (by eq_refl) (Bc A9 (hr.mono nofun) ⋯ (A0 (pv 0) (A0 A3 A2))))
  (A1 (Aa (i:=5) Bs.nd ⋯ (by eq_refl) (B4 A2))
  (A1 (Cf A0V ⋯ (Xk ⋯ T.b_range (A0 A3 (A0 (pv 1) A2))) (Ab (i:=6) Bs.nd ⋯ (by eq_refl))
  (A5 (Cf A0V ⋯ (Dv ⋯ T.b_range (A0 (pv 6) A2)) (Ab (i:=7) Bs.nd ⋯ (by eq_refl))
  (A5 (Cq (Sl (Bc Fw (hr.mono nofun) ⋯ (A0 (pv 0) (A0 (pv 4) (A0 (pv 7) (A0 (pv 6) (A0 (pv 1) A2))))))) (A5 (Fg (Gz (K:=K) A15 PySem.F.slot_list_insert PySem.F.type_list_insert (mm Xy) (pv 5) (A0 (Bc A9 (hr.mono nofun) ⋯ (A0 (pv 0) (A0 (Af (Ae (K:=K)) (Ag (B6 (K:=K)) ⋯ T.b_len PyProof.Rows.Boot.«len» (A0 (pv 5) A2)) A3) A2))) (A0 (Cr (A0 (Ao (A7 (K:=K) hu) (pv 3) (pv 7) (by ac_rfl)) (A0 (Ao (A7 (K:=K) hu) (pv 3) (pv 6) (by ac_rfl)) A2))) A2))))) At)))))
  (A1 (Cf A0V ⋯ (Ap (K:=K) hu (Ay (Lc (K:=K)) (pv 5) Ck (Az A3))) (Ab (i:=8) Bs.nd ⋯ (by eq_refl))
  (A5 (Cq (Ah (C6 (K:=K) hq) (Bc A9 (hr.mono nofun) ⋯ (A0 (pv 0) (A0 A3 A2))) A3 (Au _)) (A5 (Aa (i:=5) Bs.nd ⋯ (by eq_refl) (Af (Ae (K:=K)) (pv 5) (B4 (A0 (pv 8) A2))))) At)))
  (A5 (Am (Cr (A0 (Bx (Di (K:=K)) ⋯ T.b_tuple PyProof.Rows.Boot.«tuple» (A0 (pv 2) A2)) (A0 (Bx (Di (K:=K)) ⋯ T.b_tuple PyProof.Rows.Boot.«tuple» (A0 (Ay (Lc (K:=K)) (pv 5) Ck (Az A3)) A2)) A2))))))))))),?_⟩
 symm
 refine⟨d,l,rfl,hF,λp1 n1 H1 hp1 e1 hF1 h1 hN1 hl1=>?_⟩
 symm
 refine K9 (SqL.of h1) λp2 H2 hp2 e2 h2=>?_;rw[Ep h0,<- A1W] at h2;have hN2:Names (n1.take n.toNat):=hN1.sublist (A3X _ _);have hl2:(n1.take n.toNat).length=n.toNat:=by rw[A0O];omega
 generalize n1.take n.toNat=ns at h2 hN2 hl2;have hF2:=hF1.same e2
 symm
 refine⟨d,l,p2,_,rfl,hF2,.inl (SqL.of h2),by rw[A01];omega,λp3 ys3 H3 hp3 e3 hF3 h3 hperm=>?_⟩;obtain⟨ls,rfl,hpm⟩:=Ic hperm;have hll:=hpm.length_eq;have h3n:H3 p2=some (.lst (ns.map V.str)):=e3 _ _ (hF2.lst h2) h2
 symm
 refine⟨d,l,_,rfl,hF3,by omega,by omega,λway H4 hw0 hw1 e4 hF4=>?_⟩;have h4n:=e4 _ _ (hF3.lst h3n) h3n;have h4l:=e4 _ _ (hF3.lst h3) h3
 symm
 refine B5 nofun λp5 H5 hp5 e5 h5=>?_;have fr4:ExtBut d H H4:=by walk_at "fr"
 have hp50:H p5=none:=hF4.free fr4 hp5;have hF5:=hF4.same e5;have h5n:=e5 _ _ h4n;have h5l:=e5 _ _ h4l;have n5:p2≠p5:=ne_of_none h4n hp5;have l5:p3≠p5:=ne_of_none h4l hp5;have hp5d:p5≠d:=hF5.lst h5;have hp2d:p2≠d:=hF5.lst h5n;have hp3d:p3≠d:=hF5.lst h5l
 symm
 refine as2 ∅ ?_
 refine Ew Cb (λi σ H6=>∃ xs qs x6 x7 x8,σ=[some (.ref d),some (.int n),some (.ref p2),some (.ref p3),some (.int way),some (.ref p5),x6,x7,x8]/\ExtBut d H H6/\Feed H6 d l/\H6 p2=some (.lst (ns.map V.str))/\H6 p3=some (.lst (ls.map V.str))/\H6 p5=some (.lst xs)/\IsL K H6 (qs.map prD) xs/\Up ls qs/\qs.length<=i*10)
  ⟨[],[],_,_,_,rfl,by walk_at "fr",hF5,h5n,h5l,h5,.nil,.nil,by decide⟩ (λ_ _ _ _=>trivial) (λi x σ H6 hx hi hP=>?_) (fun σ H6 hP=>?_)
 . obtain⟨xs,qs,x6,x7,x8,rfl,e6,hF6,h6n,h6l,h6,hI6,hU6,hq6⟩:=hP;obtain⟨rfl,hi2⟩:=G1 hx
   symm
   refine Jc ∅ ?_
   refine Ew Cb (λj σ H7=>∃ ys rs x7 x8,σ=[some (.ref d),some (.int n),some (.ref p2),some (.ref p3),some (.int way),some (.ref p5),some (.int (1+(i:Int))),x7,x8]/\ExtBut d H H7/\Feed H7 d l/\H7 p2=some (.lst (ns.map V.str))/\H7 p3=some (.lst (ls.map V.str))/\H7 p5=some (.lst ys)/\IsL K H7 (rs.map prD) ys/\Up ls rs/\rs.length<=i*10+j)
    ⟨xs,qs,_,_,rfl,e6,hF6,h6n,h6l,h6,hI6,hU6,by omega⟩ (λ_ _ _ _=>trivial) (λj x σ H7 hx7 hj hP=>?_) (fun σ H7 hP=>?_)
   . obtain⟨ys,rs,x7,x8,rfl,e7,hF7,h7n,h7l,h7,hI7,hU7,hq7⟩:=hP;obtain⟨rfl,hj2⟩:=G1 hx7;have hyl:=Ft hI7
     symm
     refine⟨d,l,way,_,_,n,rfl,hF7,hw0,hw1,by omega,by omega,λb H8 e8 hF8=>?_⟩;have h8n:=e8 _ _ hp2d h7n;have h8l:=e8 _ _ hp3d h7l;have h8:=e8 _ _ hp5d h7;have hI8:=IsL.fz (hF7.fz e8) _ _ (Bo rs) hI7
     symm
     refine ah1 (λhb=>?_) (λhb=>?_)
     . symm
       refine⟨d,l,_,rfl,hF8,by omega,by omega,λu H9 hu0 hu1 e9 hF9=>?_⟩;have h9n:=e9 _ _ hp2d h8n;have h9l:=e9 _ _ hp3d h8l;have h9:=e9 _ _ hp5d h8;obtain⟨z1,hz1,hz1',_⟩:=str_at? (ls:=ls) (i:=0+(j:Int)) ∅ ∅;obtain⟨z2,hz2,hz2',_⟩:=str_at? (ls:=ls) (i:=1+(i:Int)) ∅ ∅
       symm
       refine Ir h9l hz1' ?_
       symm
       refine Ir h9l hz2' ?_
       symm
       refine Cs (A6 (by simp)) λt10 H10 ht10 e10 h10=>?_
       symm
       refine ay2 (e10 _ _ h9) hu0 ∅ ∅ λH11 e11 h11=>?_;have fz9:=hF8.fz e9;have fz11:Fz H10 H11:=e11.fzL (e10 _ _ h9)
       have hUp:Up ls [(z1,z2)]:=λp hp=>by
        have:p=(z1,z2):=by simpa using hp
        rw[this];exact⟨(0+(j:Int)).toNat,(1+(i:Int)).toNat,by omega,hz1,hz2⟩
       symm
       refine⟨_,_,_,_,rfl,by walk_at "fr",by walk_at "fd",e11 _ _ n5 (e10 _ _ h9n),e11 _ _ l5 (e10 _ _ h9l),h11,Yt u.toNat (IsL.fz ((fz9.trans e10.fz).trans fz11) _ _ (Bo rs) hI8) ((Yl (SqT.of h10)).pr_fz fz11),ap9 _ hU7 hUp,?_⟩;rw[A09,A0L,A0O,A1G];omega
     symm
     exact⟨ys,rs,_,_,rfl,e7.trans e8,hF8,h8n,h8l,h8,hI8,hU7,by omega⟩
   obtain⟨ys,rs,x7,x8,rfl,e7,hF7,h7n,h7l,h7,hI7,hU7,hq7⟩:=hP;rw[A01,A1B] at hq7;exact⟨ys,rs,_,_,_,rfl,e7,hF7,h7n,h7l,h7,hI7,hU7,by omega⟩
 obtain⟨xs,qs,x6,x7,x8,rfl,e6,hF6,h6n,h6l,h6,hI6,hU6,hq6⟩:=hP;rw[A01,A1B] at hq6;have hxl:=Ft hI6
 symm
 refine K9 (SqL.of h6) λp7 H7 hp7 e7 h7=>?_;rw[Ep nofun] at h7;have hI7:IsL K H7 ((qs.take 5).map prD) (xs.take 5):=by rw[A1W];exact IsL.take 5 (IsL.mono e7 _ _ hI6)
 have hp7d:p7≠d:=(hF6.same e7).lst h7;refine Gi (SqL.of h7) ?_
 refine Ew (Aw (xs:=xs.take 5)) (λi σ H8=>∃ p8 ys rs x6 x7 x8,σ=[some (.ref d),some (.int n),some (.ref p2),some (.ref p3),some (.int way),some (.ref p8),x6,x7,x8]/\ExtBut d H H8/\Feed H8 d l/\Fz H7 H8/\H8 p2=some (.lst (ns.map V.str))/\H8 p7=some (.lst (xs.take 5))/\H8 p8=some (.lst ys)/\IsL K H8 (rs.map prD) ys/\Up ls rs/\rs.length<=100+i)
  ⟨p5,xs,qs,_,_,_,rfl,by walk_at "fr",hF6.same e7,.refl _,e7 _ _ h6n,h7,e7 _ _ h6,IsL.mono e7 _ _ hI6,hU6,by omega⟩ (λi σ' H' hP=>?_) (λi x σ H8 hx8 hi hP=>?_) (fun σ H8 hP=>?_)
 . obtain⟨_,_,_,_,_,_,_,_,_,_,_,h,_⟩:=hP;exact SqL.of h
 . obtain⟨p8,ys,rs,x6,x7,x8,rfl,e8,hF8,fz8,h8n,h87,h8,hI8,hU8,hq8⟩:=hP;obtain⟨dp,hdp,hip⟩:=IsL.get hI7 hx8;rw[A08] at hdp;have hyl:=Ft hI8;have hi5:i<5:=by rw[A0O] at hi;omega
   cases hpr:(qs.take 5)[i]? with
   |none=>rw[hpr] at hdp;cases hdp
   |some pr=>
     rw[hpr] at hdp
     cases hdp
     have hUp:Up ls [pr]:=hU6.sub λz hz=>by
      have:z=pr:=by simpa using hz
      subst this;exact A1U (A05 hpr)
     symm
     refine⟨d,l,_,rfl,hF8,by omega,by omega,λu H9 hu0 hu1 e9 hF9=>?_⟩;have h9n:=e9 _ _ hp2d h8n;have h97:=e9 _ _ hp7d h87;have h9:=e9 _ _ (hF8.lst h8) h8;have fz9:=hF8.fz e9
     symm
     refine Hx (λhu'=>?_) (λhu'=>?_)
     . symm
       refine B5 (A6 (by simp)) λq10 H10 hq10 e10 h10=>?_;refine Ih (e10 _ _ h9) h10 (A6 (by simp;omega)) λq11 H11 hq11 e11 h11=>?_
       symm
       have e911:Same H9 H11:=e10.trans e11;refine⟨q11,_,rs++[pr],_,_,_,rfl,by walk_at "fr",hF9.same e911,(fz8.trans fz9).trans e911.fz,e911 _ _ h9n,e911 _ _ h97,h11,?_,?_,by rw[A09,A13];omega⟩
       . rw[A0E];exact IsL.append (IsL.fz (fz9.trans e911.fz) _ _ (Bo rs) hI8) (.one (Is.fz ((fz8.trans fz9).trans e911.fz) _ _ (Vu pr) hip))
       intro z hz;rcases A0R.mp hz with hz|hz
       . exact hU8 z hz
       exact hUp z hz
     symm
     exact⟨p8,ys,rs,_,_,_,rfl,e8.trans e9,hF9,fz8.trans fz9,h9n,h97,h9,IsL.fz fz9 _ _ (Bo rs) hI8,hU8,by omega⟩
 obtain⟨p8,ys,rs,x6,x7,x8,rfl,e8,hF8,fz8,h8n,h87,h8,hI8,hU8,hq8⟩:=hP;have hyl:=Ft hI8
 symm
 refine Gg (SqL.of h8n) λt9 H9 ht9 e9 h9=>?_
 symm
 refine K9 (SqL.of (e9 _ _ h8)) λq10 H10 hq10 e10 h10=>?_;rw[Ep nofun] at h10
 symm
 refine Gg (SqL.of h10) λt11 H11 ht11 e11 h11=>?_
 symm
 refine Cs (A6 (by simp)) λt12 H12 ht12 e12 h12=>?_;have e912:Same H9 H12:=(e10.trans e11).trans e12;have hI12:IsL K H12 ((rs.take 60).map prD) (ys.take 60):=by rw[A1W];exact IsL.take 60 (IsL.mono (e9.trans e912) _ _ hI8)
 refine k (.ref t12) ns (rs.take 60) H12 (by walk_at "fr") (by walk_at "fd") (af0 (SqT.of h12) ((Gx (SqT.of h9)).nm_fz e912.fz) (Is.of_tup (SqT.of (e12 _ _ h11)) hI12)) (Mx hN2 ∅ hpm (hU8.sub λz hz=>A1U hz) (by rw[A0O];omega)) hl2
def Hm (K:W.Frag):Sp:=λvs H Q _=>∃ v ns ps,vs=[v]/\Is K H (hfD ns ps) v/\HalfW ns ps/\ns.length<=10/\(∀ z∈ns,PyData.strOk z=true)/\∀ r as H',H r=none->Same H H'->TabL K H' r ns as (Way ps)->Q (.ref r) H'
theorem Pu {f:Addr}{fd:FuncData}(F:Fun K "_law_over" "_law_over" El f fd)(T:Gj mg):FnOk P w K mg base CX0 1 f fd ["_law_half_here"] (Hm K):=by
 refine F.ok C0 (λvs H Q E h=>?_) (λcdv A outer s H vs Q E hr h=>?_)
 . obtain⟨v,ns,ps,rfl,_⟩:=h;rfl
 obtain⟨v,ns,ps,rfl,hI,hW,h10,hok1,k⟩:=h;have hu:=Db hr;have hq:=Dc hr;have hn:=hW.nd;have hm:=hW.mem
 with_reducible refine⟨_,(A1 (Aa (i:=1) C0.nd ⋯ (by with_unfolding_all exact A2M rfl) (Bx (Mm (K:=K) hr.hd) ⋯ T.b_dict PyProof.Rows.Boot.«dict» (A0 (Cm ["_law_name"] [] [] ⋯ ⋯ ⋯ (Ap (K:=K) hu (Ao (A7 (K:=K) hu) (pv 0) A3 (by ac_rfl))) (λ_ _ _ _=>(Ab (i:=0) (by with_unfolding_all (show(["_law_name"]:List Str).Nodup;decide +kernel)) ⋯ (by eq_refl))) (Bf nofun) (λ_ _ _ _=>Ct) (λ_ _ _ _=>(Cr (A0 (pv 0) (A0 (B4 A2) A2))))) A2)))
  (A1 (Aa (i:=2) C0.nd ⋯ (by eq_refl) Lx)
  (A1 (Rt A0V (Sl (pv 2))
  (A1 (Aa (i:=2) C0.nd ⋯ (by eq_refl) Lx)
  (A5 (Cf A0V ⋯ (Ap (K:=K) hu (Ao (A7 (K:=K) hu) (pv 0) A3 (by ac_rfl))) (R0 (K:=K) (n:=2) ⋯ (Hw (Ab (i:=3) C0.nd ⋯ (by with_unfolding_all exact A2M rfl)) (Hw (Ab (i:=4) C0.nd ⋯ (by eq_refl)) R8)))
  (A1 (Ec (i:=5) ["_law_name"] ["_law_found","_law_one"] [1,3] ⋯ ⋯ ⋯ C0.nd ⋯ ⋯ (Ap (K:=K) hu (Af (Ae (K:=K)) (B4 (A0 (pv 4) A2)) (Ao (A7 (K:=K) hu) (pv 1) (pv 4) (by ac_rfl)))) (λ_ _ _ _=>(Ab (i:=0) (by with_unfolding_all (show(["_law_name","_law_found","_law_one"]:List Str).Nodup;decide +kernel)) ⋯ (by eq_refl))) (Bf nofun) (λ_ _ _ _=>(He (Ah (J5 (K:=K) hq) (pv 0) (Ao (A7 (K:=K) hu) (pv 1) (pv 2) (by ac_rfl)) ⋯))) (λ_ _ _ _=>(pv 0)))
  (A1 (Aa (i:=2) C0.nd ⋯ (by eq_refl) (aw4 (pv 2) (a07 (Io (Vw (K:=K) hq) (pv 5) (B4 A2) (Au _)))))
  (A5 (Fe hu (pv 1) (pv 3) (Af (Ae (K:=K)) (Ao (A7 (K:=K) hu) (pv 1) (pv 3) (by ac_rfl)) (pv 5)) ⋯))))))))
  (A5 (Am (pv 1)))))),?_⟩
 symm
 refine Jd hI λnv hN=>?_;obtain⟨na,rfl,hS⟩:=hN.nm;refine Zt hS ?_;refine Cu (Kk (xs:=ns.map V.str)) (λp i acc H1=>Same H H1/\∃ as:List Addr,as.length=i/\(∀(j:Nat) (z:Str) (a:Addr),ns[j]? = some z->as[j]? = some a->H1 a=some (.lst [])/\a≠p)/\PrsK K H1 (Kc (ns.take i) as) acc) (λp H' hp e h=>⟨e,[],rfl,λj z a _ h=>(by simp at h),by rfl⟩) (λp i acc H1 hP=>hP.1.seqT hS) (λp i x acc H1 hp hx hi hl ha hP=>?_) λp acc H1 hp ha hl hP=>?_
 . obtain ⟨e1,as,hal,hrow,hpr⟩:=hP;rw[A08] at hx
   cases hz:ns[i]? with
   |none=>rw[hz] at hx;cases hx
   |some z=>
     rw[hz] at hx
     cases hx;have hin:i<ns.length:=(A02.mp hz).1
     symm
     refine B5 nofun λb H2 hb2 e2 h2=>?_
     symm
     refine Cs (A6 (by simp)) λt H3 ht3 e3 h3=>?_;have h3p:H3 p=some (.lst acc):=e3 _ _ (e2 _ _ ha);refine Ex (by rw[A01];omega) hi hl h3p λH4 e4 h4=>?_;have hbp:b≠p:=Ne.symm (ne_of_none ha hb2);refine⟨by walk_at "sm",as++[b],by simp[hal],λj y a hj haj=>?_,?_⟩
     . by_cases hji:j<as.length
       . rw[A16 hji] at haj;obtain⟨q1,q2⟩:=hrow j y a hj haj;exact⟨e4 _ _ q2 (e3 _ _ (e2 _ _ q1)),q2⟩
       have hj':j=as.length:=by have:=(A02.mp haj).1;rw[A09,A13] at this;omega
       subst hj';have:a=b:=by simpa using haj.symm
       subst this;exact⟨e4 _ _ hbp (e3 _ _ h2),hbp⟩
     have ht:ns.take (i+1)=ns.take i++[z]:=by rw[A0J,hz];rfl
     have hlen:(ns.take i).length=as.length:=by rw[A0O,hal];omega
     rw[ht,Sw hlen];have fz4:=e4.fzL h3p;exact PrsK.snoc (kv:=(Sum.inr z,V.ref b)) (fz4.seq (SqT.of h3)) (PrsK.fz ((e2.fz.trans e3.fz).trans fz4) hpr)
 obtain⟨e1,as,hal,hrow,hpr⟩:=hP;rw[A01] at hal;rw[A01,A0M] at hpr
 symm
 refine a67 ha hpr (by unfold Kc;rw[List.length_map,List.length_zip];omega) λr H2 hr2 e2 h2=>?_;rw[Lg _ _ (Km hn) (λ_ _ _ h=>by cases h),A4F] at h2;have hr0:H r=none:=e1.free hr2;have hO2:Ovr H2 r ns as (λ_=>[]):=⟨hal,h2,λj z a hj haj=>e2 _ _ (hrow j z a hj haj).1⟩;have hK0:OvOk ns ps (λ_=>[]):=⟨λ_ _=>List.nodup_nil,λ_ _ y hy=>by cases hy⟩;have hE2:Same H H2:=e1.trans e2;have hfull:∀ ov,OvOk ns ps ov->Mn ns ov<=100:=λov h=>A0Q (h.tot hm) (A0Q (A3U h10 h10) nofun)
 symm
 refine X3 (λm σ H3=>∃ b ov as x3 x4 x5,σ=[some v,some (.ref r),some (.bl b),x3,x4,x5]/\Same H H3/\Ovr H3 r ns as ov/\OvOk ns ps ov/\m=2*(100-Mn ns ov)+b.toNat/\(b=false->∀ p∈ps,p.2∈ov p.1/\∀ y∈ov p.2,y∈ov p.1))
  (2*(100-Mn ns λ_=>[])+1) ⟨true,_,as,_,_,_,rfl,hE2,hO2,hK0,rfl,λh=>by cases h⟩ λm σ H3 hP=>?_
 obtain⟨b,ov,as3,x3,x4,x5,rfl,e3,hO3,hK3,hm3,hc3⟩:=hP;have hf3:=hfull ov hK3
 symm
 refine ah1 (λhb=>?_) (λhb=>?_)
 . subst hb;refine a05 ?_
   symm
   refine Yf (hI.hf_fz e3.fz) λpv hP3=>?_
   refine a62 hP3 (λi σ H4=>∃ b ov4 as4 x3 x4 x5,σ=[some v,some (.ref r),some (.bl b),x3,x4,x5]/\Same H H4/\Fz H3 H4/\Ovr H4 r ns as4 ov4/\OvOk ns ps ov4/\Mn ns ov<=Mn ns ov4/\(b=true->Mn ns ov<Mn ns ov4)/\(b=false->ov4=ov/\∀ p∈ps.take i,p.2∈ov p.1/\∀ y∈ov p.2,y∈ov p.1))
    ⟨false,ov,as3,_,_,_,rfl,e3,.refl _,hO3,hK3,Nat.le_refl _,(λh=>by cases h),λ_=>⟨rfl,λp hp=>by simp at hp⟩⟩ (λi σ' H' hP=>?_) (λi p pv4 σ' H4 hp hpI hP=>?_) (fun σ' H4 hP=>?_)
   . obtain⟨_,_,_,_,_,_,_,_,fz,_⟩:=hP;exact fz
   . obtain⟨b4,ov4,as4,y3,y4,y5,rfl,e4,fz4,hO4,hK4,ht1,ht2,ht3⟩:=hP;have hpm:=hm p (A05 hp);obtain⟨i1,a1,hi1,ha1⟩:=hO4.at hpm.1;obtain⟨i2,a2,hi2,ha2⟩:=hO4.at hpm.2;have hr1:=hO4.row _ _ _ hi1 ha1;have hr2':=hO4.row _ _ _ hi2 ha2;have hl1:=hK4.len hm hpm.1;have hl2:=hK4.len hm hpm.2;refine a83 hpI ?_
     symm
     refine B5 (A6 (by simp)) λq5 H5 hq5 e5 h5=>?_
     symm
     refine i_ixD (e5 _ _ hO4.top) (Gq hn hi2 ha2) ?_;refine Ih h5 (e5 _ _ hr2') (A6 (by rw[List.length_map];simp;omega)) λq6 H6 hq6 e6 h6=>?_;have h6':H6 q6=some (.lst ((p.2 :: ov4 p.2).map V.str)):=h6;have hO6:=(hO4.same e5).same e6;refine Oa (SqL.of h6') (λz=>!decide (z∈ov4 p.1)) PyData.str (λ_=>rfl) (by simp;omega) (λjj z H7 R R' hz e7 hR hR'=>?_) (λq7 ys7 H7 hq7 e7 h7 hL7=>?_)
     . have hO7:=hO6.same e7
       symm
       refine i_ixD hO7.top (Gq hn hi1 ha1) ?_;refine a86 (SqL.of (hO7.row _ _ _ hi1 ha1)) ?_
       symm
       refine Vh (λhb=>?_) (λhb=>?_)
       . symm
         exact hR (by rw[hb];rfl) _ _ (.refl _) Je
       exact hR' (by rw[hb];rfl) _ (.refl _)
     have hy7:=IsL.str_eq hL7;subst hy7;have h7':H7 q7=some (.lst ((To ov4 p).map V.str)):=h7;have hfl:(To ov4 p).length<=11:=Nat.le_trans (List.length_filter_le _ _) (by simp;omega)
     have hfok:SeqAt.shaped (.list ((To ov4 p).map PyData.str))=true:=Si λz hz=>by
      rcases A0B.mp (A0U.mp hz).1 with e|e
      . exact e ▸ hok1 _ hpm.2
      obtain⟨p',hp',e'⟩:=A0N.mp (hK4.way _ hpm.2 z e).right;exact hok1 _ (e' ▸ (hm p' hp').2)
     have hO7:=hO6.same e7;have e47:Same H4 H7:=(e5.trans e6).trans e7
     symm
     have put:∀ H8,Same H7 H8->∀ b8,(b8=true->b4=true\/To ov4 p≠[])->(b8=false->b4=false/\To ov4 p=[]) ->
       ∀ H9,ExtBut r H8 H9->∀ q9,H8 q9=some (.lst ((ov4 p.1++To ov4 p).map V.str))->H9 r=some (.dK (Ea (Kc ns as4) (Sum.inr p.1:Key) (.ref q9))) ->
       ∃ b ov5 as5 x3 x4 x5,([some v,some (.ref r),some (.bl b8),some (.str p.1),some (.str p.2),some (.ref q7)]:L2.St)=[some v,some (.ref r),some (.bl b),x3,x4,x5]/\Same H H9/\Fz H3 H9/\Ovr H9 r ns as5 ov5/\OvOk ns ps ov5/\Mn ns ov<=Mn ns ov5/\(b=true->Mn ns ov<Mn ns ov5)/\(b=false->ov5=ov/\∀ p∈ps.take (i+1),p.2∈ov p.1/\∀ y∈ov p.2,y∈ov p.1):=by
      intro H8 e8 b8 hb1 hb2 H9 e9 q9 h9 ht9;have hO8:=hO7.same e8;have htot:=a85 (ov:=ov4) hn hpm.1 (To ov4 p);refine⟨b8,_,_,_,_,_,rfl,(e4.trans (e47.trans e8)).off hr0 e9,(fz4.trans (e47.trans e8).fz).trans (e9.fzD hO8.top),hO8.put hn hi1 e9 h9 ht9,hK4.put hW.irr (A05 hp) hpm,by omega,λh=>?_,λh=>?_⟩
      . rcases hb1 h with h|h
        . have:=ht2 h;omega
        have:0<(To ov4 p).length:=List.length_pos_iff.mpr h;omega
      obtain⟨h1,h2⟩:=hb2 h;obtain⟨g1,g2⟩:=ht3 h1;rw[h2,ac9];refine⟨g1,λp' hp'=>?_⟩;rw[A0J,hp] at hp';rcases A0R.mp hp' with hp'|hp'
      . exact g2 p' hp'
      have:p'=p:=by simpa using hp'
      rw[this,<- g1];exact Z3 h2
     refine ah1 (λhb4=>?_) (λhb4=>?_)
     . symm
       refine i_ixD hO7.top (Gq hn hi1 ha1) ?_
       symm
       refine Ih (hO7.row _ _ _ hi1 ha1) h7' (A6 (by rw[A01,A01];omega)) λq8 H8 hq8 e8 h8=>?_;rw[<- A0E] at h8
       symm
       refine Jm (hO7.same e8).top (by unfold Kc;rw[List.length_map,List.length_zip];omega) λH9 e9 h9=>?_
       symm
       exact put H8 e8 true (λ_=>.inl hb4) (λh=>by cases h) H9 e9 q8 h8 h9
     symm
     refine B5 nofun λq8 H8 hq8 e8 h8=>?_;refine ar8 (dx:=.list ((To ov4 p).map PyData.str)) (dy:=.list []) (Is.of_lst (SqL.of (e8 _ _ h7')) (My _)) (Is.of_lst (SqL.of h8) .nil) hfok (by rfl) ?_;rw[K8];have hO8:=hO7.same e8
     symm
     refine i_ixD hO8.top (Gq hn hi1 ha1) ?_
     symm
     refine Ih (hO8.row _ _ _ hi1 ha1) (e8 _ _ h7') (A6 (by rw[A01,A01];omega)) λq9 H9 hq9 e9 h9=>?_;rw[<- A0E] at h9
     symm
     refine Jm (hO8.same e9).top (by unfold Kc;rw[List.length_map,List.length_zip];omega) λH10 e10 h10'=>?_
     symm
     refine put H9 (e8.trans e9) _ (λh=>.inr λe=>?_) (λh=>⟨hb4,?_⟩) H10 e10 q9 h9 h10'
     . rw[e] at h
       cases h
     cases hfe:To ov4 p with
     |nil=>rfl
     |cons z t=>rw[hfe] at h;cases h
   obtain⟨b4,ov4,as4,y3,y4,y5,rfl,e4,fz4,hO4,hK4,ht1,ht2,ht3⟩:=hP;have hf4:=hfull ov4 hK4;have hm1:m=2*(100-Mn ns ov)+1:=hm3;refine⟨2*(100-Mn ns ov4)+b4.toNat,?_,b4,ov4,as4,_,_,_,rfl,e4,hO4,hK4,rfl,λh=>?_⟩
   . cases b4 with
     |true=>have:=ht2 rfl;show 2*(100-Mn ns ov4)+1<m;omega
     |false=>show 2*(100-Mn ns ov4)+0<m;omega
   obtain⟨g1,g2⟩:=ht3 h;rw[A0M] at g2;rw[g1];exact g2
 subst hb
 symm
 exact k r as3 H3 hr0 e3 (hO3.tab hK3 (hc3 rfl))
def Em (K:W.Frag):Sp:=λvs H Q _=>∃ v u r as ns ps row,vs=[v,.ref r,u]/\Is K H (hfD ns ps) v/\TabL K H r ns as (Way ps)/\Is K H (nmD row) u/\ns.Nodup/\ns.length<=10/\(∀ z∈ns,PyData.strOk z=true)/\∀ l H',H l=none->Same H H'->H' l=some (.lst ((frF (Av ps) (Qh ns row)).map V.str))->Q (.ref l) H'
theorem Jt {f:Addr}{fd:FuncData}(F:Fun K "_law_next_ones" "_law_next_ones" Bl f fd)(T:Gj mg):FnOk P w K mg base CX0 1 f fd ["_law_half_here","_law_over_here","_law_begun"] (Em K):=by
 refine F.ok G4 (λvs H Q E h=>?_) (λcdv A outer s H vs Q E hr h=>?_)
 . obtain⟨v,u,r,as,ns,ps,row,rfl,_⟩:=h;rfl
 obtain⟨v,u,r,as,ns,ps,row,rfl,hI,hT,hU,hn,h10,hok1,k⟩:=h;have hu:=Db hr;have hq:=Dc hr
 with_reducible refine⟨_,(A1 (Aa (i:=3) G4.nd ⋯ (by with_unfolding_all exact A2M rfl) (Cm ["_law_name"] ["_law_begun"] [2] ⋯ ⋯ ⋯ (Ap (K:=K) hu (Ao (A7 (K:=K) hu) (pv 0) A3 (by ac_rfl))) (λ_ _ _ _=>(Ab (i:=0) (by with_unfolding_all (show(["_law_name","_law_begun"]:List Str).Nodup;decide +kernel)) ⋯ (by eq_refl))) (Bf nofun) (λ_ _ _ _=>(He (Ah (J5 (K:=K) hq) (pv 0) (pv 1) ⋯))) (λ_ _ _ _=>(pv 0))))
  (A5 (Am (Cm ["_law_name"] ["_law_left","_law_over_here"] [3,1] ⋯ ⋯ ⋯ (Ap (K:=K) hu (pv 3)) (λ_ _ _ _=>(Ab (i:=0) (by with_unfolding_all (show(["_law_name","_law_left","_law_over_here"]:List Str).Nodup;decide +kernel)) ⋯ (by with_unfolding_all exact A2M rfl))) (Bf nofun) (λ_ _ _ _=>(He (Ah (C6 (K:=K) hq) (Cm ["_law_one"] ["_law_name","_law_over_here"] [0,2] ⋯ ⋯ ⋯ (Ap (K:=K) hu (pv 1)) (λ_ _ _ _=>(Ab (i:=0) (by with_unfolding_all (show(["_law_one","_law_name","_law_over_here"]:List Str).Nodup;decide +kernel)) ⋯ (by eq_refl))) (Bf nofun) (λ_ _ _ _=>(He (Ah (Tg (K:=K) hq) (pv 1) (Ao (A7 (K:=K) hu) (pv 2) (pv 0) (by ac_rfl)) ⋯))) (λ_ _ _ _=>(pv 0))) (B4 A2) (Au _)))) (λ_ _ _ _=>(pv 0)))))),?_⟩
 symm
 refine Jd hI λnv hN=>?_;refine Mv hN (λz=>!decide (z∈row)) PyData.str (λ_=>rfl) ∅ (λjj z H1 R R' hz e1 hR hR'=>?_) (λlf ys1 H1 hlf e1 h1 hL1=>?_)
 . symm
   refine ao3 (hU.nm_fz e1.fz) ?_
   symm
   refine Vh (λhb=>?_) (λhb=>?_)
   . symm
     exact hR (by rw[hb];rfl) _ _ (.refl _) Je
   exact hR' (by rw[hb];rfl) _ (.refl _)
 have hy1:=IsL.str_eq hL1;subst hy1;have h1':H1 lf=some (.lst ((Qh ns row).map V.str)):=h1;have hlfl:(Qh ns row).length<=ns.length:=A1I _ _;have hlfn:∀ z∈Qh ns row,z∈ns:=λz hz=>(A0U.mp hz).1
 symm
 refine Oa (SqL.of h1') (λz=>!((Qh ns row).any λy=>Av ps y z)) PyData.str (λ_=>rfl) ∅ (λjj z H2 R R' hz e2 hR hR'=>?_) (λq2 ys2 H2 hq2 e2 h2 hL2=>?_)
 . symm
   refine Oa (SqL.of (e2 _ _ h1')) (λy=>Av ps y z) PyData.str (λ_=>rfl) ∅ (λkk y H3 R2 R2' hy e3 hR2 hR2'=>?_) (λq3 ys3 H3 hq3 e3 h3 hL3=>?_)
   . have hT3:=hT.same ((e1.trans e2).trans e3);obtain⟨iy,ay,hiy,hay⟩:=hT3.at (hlfn y (A05 hy));obtain⟨ms,hm1,hm2,hm3⟩:=hT3.row iy y ay hiy hay
     symm
     refine ar4 hT3 hn hiy hay ?_;refine ap6 (SqL.of hm1) ?_;rw[T0 (hm3 z)]
     symm
     refine ah1 (λhb=>?_) (λhb=>?_)
     . symm
       exact hR2 hb _ _ (.refl _) Je
     exact hR2' hb _ (.refl _)
   have hy3:=IsL.str_eq hL3;subst hy3
   symm
   refine B5 nofun λt4 H4 ht4 e4 h4=>?_;refine au9 (dx:=.list (((Qh ns row).filter λy=>Av ps y z).map PyData.str)) (dy:=.list []) (Is.of_lst (SqL.of (e4 _ _ h3)) (My _)) (Is.of_lst (SqL.of h4) .nil) (Si λy hy=>hok1 y (hlfn y (A0U.mp hy).1)) (by rfl) ?_;rw[K8,Rg]
   symm
   have e34:Same H2 H4:=e3.trans e4;refine Vh (λhb=>?_) (λhb=>?_)
   . symm
     exact hR (by rw[hb];rfl) _ _ e34 Je
   exact hR' (by rw[hb];rfl) _ e34
 have hy2:=IsL.str_eq hL2;subst hy2;exact k q2 H2 (e1.free hq2) (e1.trans e2) h2
def Gh (K:W.Frag):Sp:=λvs H Q _=>∃ v ns ps,vs=[v]/\Is K H (hfD ns ps) v/\HalfW ns ps/\ns.length<=10/\(∀ z∈ns,PyData.strOk z=true)/\∀ H',Same H H'->Q (.int ((cnt (Av ps) ns:Nat):Int)) H'
theorem Nq {f:Addr}{fd:FuncData}(F:Fun K "_law_count" "_law_count" Dl f fd)(T:Gj mg)(Ix:Fnd P w K mg base 1 "_law_over" ["_law_half_here"] (Hm K))(Ev:Fnd P w K mg base 1 "_law_next_ones" ["_law_half_here","_law_over_here","_law_begun"] (Em K)):FnOk P w K mg base CX0 2 f fd ["_law_half_here"] (Gh K):=by
 refine F.ok Be (λvs H Q E h=>?_) (λcdv A outer s H vs Q E hr h=>?_)
 . obtain⟨v,ns,ps,rfl,_⟩:=h;rfl
 obtain⟨v,ns,ps,rfl,hI,hW,h10n,hok1,k⟩:=h;have hu:=Db hr;have hq:=Dc hr;have hn:=hW.nd;obtain⟨ms,hpm,hsm⟩:=Ve ns;have hmn:ms.Nodup:=hpm.nodup_iff.mpr hn;have hml:ms.length=ns.length:=hpm.length_eq;have h10:ms.length<=10:=by omega
 have hcm:cnt (Av ps) ms=cnt (Av ps) ns:=Nt hn hpm;have hMM:cnt (Av ps) ns<=3628800:=Qz hn h10n
 with_reducible refine⟨_,(A1 (Aa (i:=1) Be.nd ⋯ (by eq_refl) (Bc Ix (hr.mono nofun) ⋯ (A0 (pv 0) A2)))
  (A1 (Aa (i:=2) Be.nd ⋯ (by with_unfolding_all exact A2M rfl) (Ze hu (Ia (Cr A2) A3 Re) ⋯ ⋯ nofun nofun))
  (A1 (Cf A0V ⋯ (Ap (K:=K) hu (Ao (A7 (K:=K) hu) (pv 0) A3 (by ac_rfl))) (Ab (i:=3) Be.nd ⋯ (by eq_refl))
  (A1 (Aa (i:=4) Be.nd ⋯ (by eq_refl) T2)
  (A1 (Cf A0V ⋯ (aq7 (pv 2)) (Ab (i:=5) Be.nd ⋯ (by eq_refl))
  (A5 (Cf A0V ⋯ (Ap (K:=K) hu (Bc Ev (hr.mono nofun) ⋯ (A0 (pv 0) (A0 (pv 1) (A0 (pv 5) A2))))) (Ab (i:=6) Be.nd ⋯ (by eq_refl))
  (A1 (Aa (i:=7) Be.nd ⋯ (by eq_refl) (Bx (Di (K:=K)) ⋯ T.b_tuple PyProof.Rows.Boot.«tuple» (A0 (Ag (Pb (K:=K)) ⋯ T.b_sorted PyProof.Rows.Boot.«sorted» (A0 (Af (Ae (K:=K)) (pv 5) (Cr (A0 (pv 6) A2))) A2)) A2)))
  (A5 (Fe hu (pv 4) (pv 7) (Af (Ae (K:=K)) (Zb hu (pv 4) (pv 7) A3 (by with_unfolding_all exact⟨rfl,rfl,rfl,rfl⟩)) (Ao (A7 (K:=K) hu) (pv 2) (pv 5) (by ac_rfl))) ⋯))))))
  (A5 (Aa (i:=2) Be.nd ⋯ (by with_unfolding_all exact A2M rfl) (pv 4))))))
  (A5 (Am (Ag (Gc (K:=K) ⋯) ⋯ T.b_sum PyProof.Rows.Boot.«sum» (A0 (Cm ["_law_begun"] ["_law_found"] [2] ⋯ ⋯ ⋯ (aq7 (pv 2)) (λ_ _ _ _=>(Ab (i:=0) (by with_unfolding_all (show(["_law_begun","_law_found"]:List Str).Nodup;decide +kernel)) ⋯ (by eq_refl))) (Bf nofun) (λ_ _ _ _=>Ct) (λ_ _ _ _=>(Ao (A7 (K:=K) hu) (pv 1) (pv 0) (by ac_rfl)))) A2))))))),?_⟩
 symm
 refine⟨v,ns,ps,rfl,hI,hW,h10n,hok1,λr as H1 hr1 e1 hT=>?_⟩
 symm
 refine aa7 λf2 H2 hf2 e2 h2=>?_
 symm
 refine Cs nofun λt3 H3 ht3 e3 h3=>?_
 symm
 refine ab2 (key:=[]) (e3 _ _ h2) h3 λH4 e4 h4=>?_;have e14:Same H1 H4:=((e2.trans e3).off hf2 e4)
 symm
 refine Jd (hI.hf_fz (e1.trans e14).fz) λnv hN=>?_;have hk0:Gd ms (λ_=>true)=[]:=by unfold Gd;simp
 have hft:ms.filter (λ_=>true)=ms:=by simp
 refine Ps hN (λi σ H5=>∃ f x3 x4 x5 x6 x7 ct,σ=[some v,some (.ref r),some (.ref f),x3,x4,x5,x6,x7]/\Same H1 H5/\Fz H4 H5/\H1 f=none/\H5 f=some (.dT (Gv ms ct))/\Xi ms ct/\(∀ e∈ct,(ms.filter e.1).length+i=ms.length)/\Ou ms (cnt (Av ps)) ct=cnt (Av ps) ns)
  ⟨f2,_,_,_,_,_,[(λ_=>true,1)],rfl,e14,.refl _,hf2,?_,by unfold Xi Gv;simp,?_,?_⟩ (λi σ' H' hP=>?_) (λi z0 σ H5 hz0 hP=>?_) (fun σ H5 hP=>?_)
 . rw[h4];show some (HO.dT [([],V.int 1)])=some (HO.dT [(Gd ms (λ_=>true),V.int 1)]);rw[hk0]
 . intro e he;rw[A17.mp he];show(ms.filter λ_=>true).length+0=_;rw[hft];rfl
 . unfold Ou;simp;rw[hft,hcm]
 . obtain⟨_,_,_,_,_,_,_,_,_,fz,_⟩:=hP;exact fz
 . obtain⟨f,x3,x4,x5,x6,x7,ct,rfl,e5,fz5,hf,h5,hO5,hsz,hws⟩:=hP;have hin':i<ns.length:=(A02.mp hz0).1;have hctl:=Nw hO5 h10
   symm
   refine Vr λg H6 hg6 e6 h6=>?_;have hfg:f≠g:=ne_of_none h5 hg6
   symm
   refine a54 (e6 _ _ h5) λo bs H7 hK7 e7 h7=>?_;have h7g:=e7 _ _ hfg.symm h6
   have hkeys:∀ {j:Nat} {e:(Str->Bool)×Nat},ct[j]? = some e->∃ b,bs[j]? = some b/\H7 b=some (.tup ((ms.filter λx=>!e.1 x).map V.str)):=fun {j e} he=>by obtain⟨b,hb1,hb2⟩:=hK7.2 j (Gd ms e.1,V.int ((e.2:Nat):Int)) (by unfold Gv;rw[List.getElem?_map,he];rfl);refine⟨b,hb1,?_⟩;rw[Ni] at hb2;exact e7 _ _ (ne_of hb2 (e6 _ _ h5) (by intro z;cases z)) hb2
   have hbl:bs.length=ct.length:=by rw[hK7.1];unfold Gv;rw[List.length_map]
   have e17:Same H1 H7:=(e5.trans e6).off hf e7;have fz7:Fz H4 H7:=(fz5.trans e6.fz).trans (M8 e7 λxs h=>by rcases h with h|⟨o',h⟩<;>(rw[e6 _ _ h5] at h;cases h))
   refine Ew Mj (λj σ H8=>∃ y5 y6 y7 ct1,σ=[some v,some (.ref r),some (.ref f),some (.str z0),some (.ref g),y5,y6,y7]/\Same H1 H8/\Fz H7 H8/\(∀ b xs,H7 b=some (.tup xs)->H8 b=some (.tup xs))/\H8 f=some (.frz o (.dT (Gv ms ct)))/\H8 g=some (.dT (Gv ms ct1))/\Xi ms ct1/\(∀ e∈ct1,(ms.filter e.1).length+(i+1)=ms.length)/\Ou ms (cnt (Av ps)) ct1=Ou ms (cnt (Av ps)) (ct.take j))
    ⟨_,_,_,[],rfl,e17,.refl _,λ_ _ h=>h,h7,h7g,by unfold Xi Gv;simp,(λ_ h=>by cases h),rfl⟩ (λj σ' H' hP=>?_) (λj x σ' H8 hx8 hj hP=>?_) (fun σ' H8 hP=>?_)
   . obtain⟨_,_,_,_,_,_,_,_,h,_⟩:=hP;exact h
   . obtain⟨y5,y6,y7,ct1,rfl,e8,fz8,k8,h8f,h8g,hO8,hs8,hw8⟩:=hP;rw[A08] at hx8
     cases he:ct[j]? with
     |none=>
       rw[A4K (by rw[hbl];exact List.getElem?_eq_none_iff.mp he)] at hx8
       cases hx8
     |some e=>
       obtain⟨b,hb1,hb2⟩:=hkeys he;rw[hb1] at hx8
       cases hx8;have h8b:=k8 _ _ hb2;have hL:(ms.filter e.1).length+i=ms.length:=hsz e (A05 he);have hLn:(ms.filter e.1).Nodup:=hmn.filter _;have hLne:ms.filter e.1≠[]:=λz=>by rw[z] at hL;simp at hL;omega
       have hLp:(ns.filter e.1).Perm (ms.filter e.1):=(hpm.filter _).symm;have hLl:=A1I (λx=>!e.1 x) ms
       symm
       refine⟨v,.ref b,r,as,ns,ps,_,rfl,hI.hf_fz (e1.trans e8).fz,hT.same e8,Gx (SqT.of h8b),hn,h10n,hok1,λlf H9 hlf9 e9 h9=>?_⟩;rw[Ql hpm] at h9;have h9g:=e9 _ _ h8g;have h9f:=e9 _ _ h8f;have hglf:g≠lf:=ne_of_none h8g hlf9;refine Gi (SqL.of h9) ?_
       refine Ew (Aw (xs:=(frF (Av ps) (ns.filter e.1)).map V.str)) (λm σ H10=>∃ w6 w7 ct2,σ=[some v,some (.ref r),some (.ref f),some (.str z0),some (.ref g),some (.ref b),w6,w7]/\Same H1 H10/\Fz H9 H10/\(∀ b xs,H8 b=some (.tup xs)->H10 b=some (.tup xs))/\H10 f=some (.frz o (.dT (Gv ms ct)))/\H10 lf=some (.lst ((frF (Av ps) (ns.filter e.1)).map V.str))/\H10 g=some (.dT (Gv ms ct2))/\Xi ms ct2/\(∀ e∈ct2,(ms.filter e.1).length+(i+1)=ms.length) /\
         Ou ms (cnt (Av ps)) ct2=Ou ms (cnt (Av ps)) ct1+e.2*(((frF (Av ps) (ns.filter e.1)).take m).map λx=>cnt (Av ps) (Bg (ms.filter e.1) x)).sum)
        ⟨_,_,ct1,rfl,e8.trans e9,.refl _,(λ_ _ h=>e9 _ _ h),h9f,h9,h9g,hO8,hs8,by simp⟩ (λm σ' H' hP=>?_) (λm x10 σ' H10 hx10 hm hP=>?_) (fun σ' H10 hP=>?_)
       . obtain⟨_,_,_,_,_,_,_,_,h,_⟩:=hP;exact SqL.of h
       . obtain ⟨w6,w7,ct2,rfl,e10,fz10,k10,h10f,h10l,h10g,hO10,hs10,hw10⟩:=hP;rw[A08] at hx10
         cases hz:(frF (Av ps) (ns.filter e.1))[m]? with
         |none=>rw[hz] at hx10;cases hx10
         |some z=>
           rw[hz] at hx10
           cases hx10;have hzf:=(mem_frF.mp (A05 hz)).1;have hzL:z∈ms.filter e.1:=hLp.mem_iff.mp hzf;have h10b:=k10 _ _ h8b
           symm
           refine Cs (A6 (by simp)) λt11 H11 ht11 e11 h11=>?_;refine Me (SqT.of (e11 _ _ h10b)) (SqT.of h11) (A6 (by rw[List.length_map];simp;omega)) λp12 H12 e12 h12=>?_;have h12':SqT K H12 p12 (((ms.filter λx=>!e.1 x)++[z]).map V.str):=by rw[A0E];exact h12
           symm
           refine Zi (.inr h12') (by rw[A09,A13];omega) λq13 out H13 hq13 e13 h13 hp13 hs13=>?_;have hout:=Qt hsm hmn hzL hp13 hs13;subst hout
           symm
           refine Gg (SqL.of h13) λt14 H14 ht14 e14' h14=>?_;obtain⟨k0,ct3,g1,g2,_,g4,g5,g6⟩:=T1 ms (λy=>e.1 y && !decide (y=z)) e.2 hO10;have e1014:Same H10 H14:=((e11.trans e12).trans e13).trans e14';have h14g:=e1014 _ _ h10g;have h14f:=e1014 _ _ h10f;have h14b:=e1014 _ _ h10b;have hl2:=Nw hO10 h10;have h14k:H14 t14=some (.tup ((Gd ms (λy=>e.1 y && !decide (y=z))).map kV)):=by rw[Ni];exact h14
           have h14b':H14 b=some (.tup ((Gd ms e.1).map kV)):=by rw[Ni];exact h14b
           symm
           refine⟨g,rfl,.inr ⟨_,.inl h14g⟩,?_⟩
           symm
           refine⟨_,DGet.t h14g h14k,?_⟩;rw[g1]
           symm
           refine a37 (.inr ⟨o,h14f⟩) h14b' (Rx hO5 he) ?_
           symm
           refine Wx h14g h14k (by unfold Gv;rw[List.length_map];omega) λH15 e15 h15=>?_;have hH1g:H1 g=none:=e5.free hg6;have e115:Same H1 H15:=(e10.trans e1014).off hH1g e15;have k15:∀(a:Addr) (O:HO),a≠g->H10 a=some O->H15 a=some O:=λa O hn' h'=>e15 _ _ hn' (e1014 _ _ h')
           symm
           refine⟨_,_,ct3,rfl,e115,(fz10.trans e1014.fz).trans (M8 e15 λxs h=>by rcases h with h|⟨o',h⟩<;>(rw[h14g] at h;cases h)),(λb xs h=>k15 _ _ (λz=>by rw[z] at h;rw[h] at h8g;cases h8g) (k10 b xs h)),k15 _ _ hfg h10f,k15 _ _ hglf.symm h10l,?_,g4,?_,?_⟩
           . rw[h15,g2];rfl
           . intro e' he';rcases g6 e' he' with ⟨e0,h0,hh⟩|hh
             . rw[hh];exact hs10 e0 h0
             rw[hh,Df];have:=Cg hLn hzL;omega
           rw[g5,hw10,A0J,hz,A0E,A4N,Nat.mul_add,Df];simp;omega
       obtain⟨w6,w7,ct2,rfl,e10,fz10,k10,h10f,h10l,h10g,hO10,hs10,hw10⟩:=hP;refine⟨_,_,_,ct2,rfl,e10,(fz8.trans e9.fz).trans fz10,(λb xs h=>k10 _ _ (k8 b xs h)),h10f,h10g,hO10,hs10,?_⟩;rw[A01,A0M] at hw10;have hNn:(ns.filter e.1).Nodup:=hn.filter _;have hNne:ns.filter e.1≠[]:=λz=>hLne (by rw[z] at hLp;exact List.nil_perm.mp hLp);rw[hw10,Vt he,hw8,<- Nt hLn hLp,Ma hNn hNne];congr 2;apply X9;intro x hx;exact(Nt (C2 hLn x) (hLp.filter _)).symm
   obtain⟨y5,y6,y7,ct1,rfl,e8,fz8,k8,h8f,h8g,hO8,hs8,hw8⟩:=hP;rw[A01,hbl,A0M] at hw8
   symm
   exact⟨g,_,_,_,_,_,ct1,rfl,e8,fz7.trans fz8,(e5.free hg6),h8g,hO8,hs8,hw8.trans hws⟩
 obtain⟨f,x3,x4,x5,x6,x7,ct,rfl,e5,fz5,hf,h5,hO5,hsz,hws⟩:=hP;have hctl:=Nw hO5 h10;have hnil:∀ e∈ct,ms.filter e.1=[]:=λe he=>List.eq_nil_of_length_eq_zero (by have:=hsz e he;omega);have hone:∀ e∈ct,e.2*cnt (Av ps) (ms.filter e.1)=e.2:=λe he=>by rw[hnil e he];exact Nat.mul_one _
 have hsum:((ct.map λe=>((e.2:Nat):Int))).sum=((cnt (Av ps) ns:Nat):Int):=by
  rw[<- hws];unfold Ou;rw [A0Y hone];clear hws hone hnil hsz hO5 h5 hctl
  induction ct with
  |nil=>rfl
  |cons p r ih=>rw[A0G,A1M,A0G,A1M,ih];omega
 symm
 refine a54 h5 λo bs H7 hK7 e7 h7=>?_;have hbl:bs.length=ct.length:=by rw[hK7.1];unfold Gv;rw[List.length_map]
 refine Cu Mj (λq i acc H8=>Same H7 H8/\acc=(ct.take i).map λe=>V.int ((e.2:Nat):Int))
  (λq H' hq' e' h'=>⟨e',rfl⟩) (λq i acc H8 hP=>hP.1 _ _ h7) (λq i x acc H8 hq' hx hi hl ha hP=>?_) (λq acc H8 hq' ha hal hP=>?_)
 . obtain⟨e8,rfl⟩:=hP;rw[A08] at hx
   cases he:ct[i]? with
   |none=>
     rw[A4K (by rw[hbl];exact List.getElem?_eq_none_iff.mp he)] at hx
     cases hx
   |some e=>
     obtain⟨b,hb1,hb2⟩:=hK7.2 i (Gd ms e.1,V.int ((e.2:Nat):Int)) (by unfold Gv;rw[List.getElem?_map,he];rfl);rw[hb1] at hx
     cases hx;have h8b:=e8 _ _ (e7 _ _ (ne_of hb2 h5 (by intro z;cases z)) hb2);have h8f:=e8 _ _ h7
     symm
     refine a37 (.inr ⟨o,h8f⟩) h8b (Rx hO5 he) ?_;refine Ex (by rw[A01];omega) hi hl ha λH9 e9 h9=>⟨e8.off hq' e9,?_⟩;rw[A0J,he,A0E];rfl
 obtain⟨e8,rfl⟩:=hP;rw[A01,hbl,A0M] at ha
 symm
 refine Uc (ns:=ct.map λe=>((e.2:Nat):Int)) (.inl (SqL.of (by rw[ha,A1D];rfl))) (λn hn'=>?_) (by rw[A01];omega) ?_
 . obtain⟨e,he,rfl⟩:=A0N.mp hn';have:=Y8 (ns:=ms) (F:=cnt (Av ps)) he;rw[hone e he,hws] at this;omega
 rw[hsum]
 symm
 exact k _ ((e1.trans (e5.off hf e7)).trans e8)
local macro_rules | `(tactic| walk_at "rq1") => `(tactic| with_reducible first | refine al1 ?_ | refine i_tMkX0 ?_ | refine aa4 ?_ | refine ac1 ?_)
theorem ay7 {ws:List V}{a:Str}(h:ws.length=[a].length):∃ v,ws=[v]:=by
 match ws,h with
 | [v],_=>exact⟨v,rfl⟩
theorem L4 {f:Addr}{fd:FuncData}(F:Fun K "__init__" "TooMany.__init__" C8 f fd)(T:Gj mg){C_HalfError:Addr}{C_TooMany:Addr}(x_HalfError:C3 K mg C_HalfError C_HalfError)(x_TooMany:Dj K mg C_TooMany C_HalfError):FnOk P w K mg base CX0 1 f fd ["self","word"] (spX C_TooMany ["word"]):=by
 refine F.ok Kt (λvs H Q E h=>?_) (λcdv A outer s H vs Q E hr h=>?_)
 . obtain⟨a,ws,rfl,hl,_⟩:=h;obtain⟨v,rfl⟩:=ay7 hl;rfl
 obtain⟨a,ws,rfl,hl,ha,k⟩:=h;obtain⟨v,rfl⟩:=ay7 hl
 with_reducible refine⟨_,(A5 (Z6 (K:=K) (pv 0) (pv 1) ⋯)),?_⟩
 symm
 refine an4 ha x_TooMany.xc x_TooMany.n_word λdx H1 h1 h2 h3 h4 h5=>?_
 symm
 exact k dx H1 h1 h2 h3 h4 h5
def G2 (K:W.Frag):Sp:=λvs H Q _=>∃ v ns ps,vs=[v]/\Is K H (hfD ns ps) v/\Qr ns ps/\∀ r as H',H r=none->(∀ a∈as,H a=none)->Same H H'->Tab H' r ns as (Way ps)->Q (.ref r) H'
theorem Lu {f:Addr}{fd:FuncData}(F:Fun K "behind_each" "behind_each" Cn f fd)(T:Gj mg):FnOk P w K mg base CX0 1 f fd ["half"] (G2 K):=by
 refine F.ok Ca (λvs H Q E h=>?_) (λcdv A outer s H vs Q E hr h=>?_)
 . obtain⟨v,ns,ps,rfl,_⟩:=h;rfl
 obtain⟨v,ns,ps,rfl,hI,hW,k⟩:=h;have hu:=Db hr;have hq:=Dc hr;have hn:=hW.nd;have hfew:=hW.few
 with_reducible refine⟨_,(A1 (Aa (i:=1) Ca.nd ⋯ (by eq_refl) (Ao (A7 (K:=K) hu) (pv 0) A3 (by ac_rfl)))
  (A1 (Aa (i:=2) Ca.nd ⋯ (by eq_refl) (Bx (Mm (K:=K) hr.hd) ⋯ T.b_dict PyProof.Rows.Boot.«dict» (A0 (Cm ["name"] [] [] ⋯ ⋯ ⋯ (Ap (K:=K) hu (pv 1)) (λ_ _ _ _=>(Ab (i:=0) (by with_unfolding_all (show(["name"]:List Str).Nodup;decide +kernel)) ⋯ (by eq_refl))) (Bf nofun) (λ_ _ _ _=>Ct) (λ_ _ _ _=>(Cr (A0 (pv 0) (A0 Nh A2))))) A2)))
  (A1 (Cf A0V ⋯ (Ap (K:=K) hu (Ao (A7 (K:=K) hu) (pv 0) A3 (by ac_rfl))) (Ab (i:=3) Ca.nd ⋯ (by eq_refl))
  (A5 (Fe hu (Ao (A7 (K:=K) hu) (pv 2) (Ao (A7 (K:=K) hu) (pv 3) A3 (by ac_rfl)) (by ac_rfl)) (Ao (A7 (K:=K) hu) (pv 3) A3 (by ac_rfl)) Lx ⋯)))
  (A1 (Cf A0V ⋯ (Ap (K:=K) hu (pv 1)) (Ab (i:=4) Ca.nd ⋯ (by eq_refl))
  (A5 (Cf A0V ⋯ (Ap (K:=K) hu (pv 1)) (Ab (i:=5) Ca.nd ⋯ (by eq_refl))
  (A5 (Cq (Ah (Tg (K:=K) hq) (pv 4) (Ao (A7 (K:=K) hu) (pv 2) (pv 5) (by ac_rfl)) ⋯) (A5 (Fg (Gz (K:=K) A46 PySem.F.slot_dict_update PySem.F.type_dict_update (mm Tx) (Ao (A7 (K:=K) hu) (pv 2) (pv 5) (by ac_rfl)) (A0 (Ao (A7 (K:=K) hu) (pv 2) (pv 4) (by ac_rfl)) A2)))) At)))))
  (A5 (Am (pv 2))))))),?_⟩
 symm
 refine Jd hI λnv hN=>?_
 symm
 obtain⟨na,rfl,hS⟩:=hN.nm;refine Zt hS ?_;refine Cu (Kk (xs:=ns.map V.str)) (λp i acc H1=>Same H H1/\∃ as:List Addr,as.length=i/\as.Nodup/\(∀ a∈as,H1 a=some (.dK [])/\H a=none)/\PrsK K H1 (Kc (ns.take i) as) acc) (λp H' hp e h=>⟨e,[],rfl,by simp,λ_ h=>(by cases h),by rfl⟩) (λp i acc H1 hP=>hP.1.seqT hS) (λp i x acc H1 hp hx hi hl ha hP=>?_) λp acc H1 hp ha hl hP=>?_
 . obtain ⟨e1,as,hal,had,haf,hpr⟩:=hP;rw[A08] at hx
   cases hz:ns[i]? with
   |none=>rw[hz] at hx;cases hx
   |some z=>
     rw[hz] at hx
     cases hx;have hin:i<ns.length:=(A02.mp hz).1
     symm
     refine Xl λb H2 hb2 e2 h2=>?_
     symm
     refine Cs (A6 (by simp)) λt H3 ht3 e3 h3=>?_;have h3p:H3 p=some (.lst acc):=e3 _ _ (e2 _ _ ha);refine Ex (by rw[A01];omega) hi hl h3p λH4 e4 h4=>?_;have hbp:b≠p:=Ne.symm (ne_of_none ha hb2);refine⟨by walk_at "sm",as++[b],by simp[hal],?_,λa ha'=>?_,?_⟩
     . rw[A1Z];refine⟨had,by simp,λa ha1 c hc e=>?_⟩;have:c=b:=by simpa using hc
       subst this;subst e;have:=(haf _ ha1).1;rw[hb2] at this
       cases this
     . rcases A0R.mp ha' with ha'|ha'
       . obtain⟨q1,q2⟩:=haf a ha';exact⟨e4 _ _ (ne_of q1 ha (by intro z;cases z)) (e3 _ _ (e2 _ _ q1)),q2⟩
       have:a=b:=by simpa using ha'
       subst this;exact⟨e4 _ _ hbp (e3 _ _ h2),e1.free hb2⟩
     have ht:ns.take (i+1)=ns.take i++[z]:=by rw[A0J,hz];rfl
     have hlen:(ns.take i).length=as.length:=by rw[A0O,hal];omega
     rw[ht,Sw hlen];have fz4:=e4.fzL h3p;exact PrsK.snoc (kv:=(Sum.inr z,V.ref b)) (fz4.seq (SqT.of h3)) (PrsK.fz ((e2.fz.trans e3.fz).trans fz4) hpr)
 obtain⟨e1,as,hal,had,haf,hpr⟩:=hP;rw[A01] at hal;rw[A01,A0M] at hpr
 symm
 refine a67 ha hpr (by unfold Kc;rw[List.length_map,List.length_zip];omega) λr H2 hr2 e2 h2=>?_;rw[Lg _ _ (Km hn) (λ_ _ _ h=>by cases h),A4F] at h2;have hr0:H r=none:=e1.free hr2
 have hra:r∉as:=λhm=>by
  have:=(haf r hm).1;rw[hr2] at this
  cases this
 have hT0:Tab H2 r ns as (λz y=>(z,y)∈ps.take 0):=⟨hal,had,hra,h2,λi z a hz ha'=>⟨[],e2 _ _ (haf a (List.mem_of_getElem? ha')).1,by simp,λ_ h=>(by cases h),λy=>by simp⟩⟩
 symm
 refine Yf (hI.hf_fz (by walk_at "fz")) λpv hP2=>?_
 refine a62 hP2 (λi σ H3=>∃ x3,σ=[some v,some (.ref na),some (.ref r),x3,none,none]/\Same H H3/\Fz H2 H3/\Tab H3 r ns as (λz y=>(z,y)∈ps.take i))
  ⟨none,rfl,by walk_at "sm",.refl _,hT0⟩ (λi σ' H' hP=>hP.choose_spec.2.2.1) (λi pr w σ' H3 hpr hIp hP=>?_) (fun σ' H3 hP=>?_)
 . obtain⟨x3,rfl,e3,fz3,hT⟩:=hP;have hpm:=hW.mem pr (A05 hpr);obtain⟨j,a,hj,haj⟩:=hT.at hpm.1;obtain⟨ks,hk1,hk2,hk3,hk4⟩:=hT.row j _ a hj haj;have hkl:ks.length<=ns.length:=Fa hk2 hk3
   symm
   refine aj6 hIp ?_;refine Qx hT hn hj haj ?_
   symm
   refine al4 hIp ?_;refine Jm hk1 (by rw[R5];omega) λH4 e4 h4=>?_;rw[Wj] at h4
   symm
   have ha0:H a=none:=(haf a (A05 haj)).2;refine⟨_,rfl,by walk_at "sm",fz3.trans (e4.fzD hk1),hT.put e4 hn hj haj h4 (Mo hk2) (λy hy=>?_) (λy=>?_) (λz hz hzx y=>?_)⟩
   . rcases mem_addK.mp hy with hy|rfl
     . exact hk3 y hy
     exact hpm.2
   . rw[mem_addK,hk4,A0J,hpr,A0R];constructor
     . rintro(h|rfl)
       . exact .inl h
       exact .inr (by simp)
     rintro(h|h)
     . exact .inl h
     right
     have:(pr.1,y)=pr:=by simpa using h
     rw[<- this]
   rw[A0J,hpr,A0R];constructor
   . exact .inl
   rintro(h|h)
   . exact h
   have:(z,y)=pr:=by simpa using h
   exact absurd (by rw[<- this]) hzx
 obtain⟨x3,rfl,e3,fz3,hT⟩:=hP;rw[A0M] at hT;have hW0:War ns ps [] (λz y=>(z,y)∈ps):=⟨λz y h=>.one h,λz y h=>h,λm hm=>by cases hm⟩
 symm
 have hN3:Is K H3 (nmD ns) (.ref na):=hN.nm_fz e3.fz
 refine Ps hN3 (λi σ H4=>∃ x4 x5 R,σ=[some v,some (.ref na),some (.ref r),x3,x4,x5]/\Same H H4/\Fz H3 H4/\Tab H4 r ns as R/\War ns ps (ns.take i) R)
  ⟨_,_,_,rfl,e3,.refl _,hT,hW0⟩ (λi σ' H' hP=>?_) (λi mid σ' H4 hmid hP=>?_) (fun σ' H4 hP=>?_)
 . obtain⟨_,_,_,_,_,fz,_⟩:=hP;exact fz
 . obtain⟨x4,x5,R,rfl,e4,fz4,hT4,hR⟩:=hP;obtain⟨jm,am,hjm,ham⟩:=hT4.at (A05 hmid);have hN4:Is K H4 (nmD ns) (.ref na):=hN3.nm_fz fz4
   symm
   refine Ps hN4 (λj σ H5=>∃ x5,σ=[some v,some (.ref na),some (.ref r),x3,some (.str mid),x5]/\Same H H5/\Fz H4 H5/\Tab H5 r ns as (a46 R mid (ns.take j)))
    ⟨_,rfl,e4,.refl _,hT4.congr λz _ y=>⟨.inl,λh=>h.elim (λq=>q) λq=>absurd q.1 (by simp)⟩⟩ (λi σ' H' hP=>hP.choose_spec.2.2.1) (λj nm σ' H5 hnm hP=>?_) (fun σ' H5 hP=>?_)
   . obtain⟨x5',rfl,e5,fz5,hT5⟩:=hP;obtain⟨jn,an,hjn,han⟩:=hT5.at (A05 hnm);obtain⟨ks,hk1,hk2,hk3,hk4⟩:=hT5.row jn nm an hjn han;obtain⟨ms,hm1,hm2,hm3,hm4⟩:=hT5.row jm mid am hjm ham;have hkl:ks.length<=ns.length:=Fa hk2 hk3;have hml:ms.length<=ns.length:=Fa hm2 hm3;have htj:ns.take (j+1)=ns.take j++[nm]:=by rw[A0J,hnm];rfl
     have hin:mid∈ks↔R nm mid:=(hk4 mid).trans ⟨λh=>h.elim (λq=>q) λq=>q.2.1,.inl⟩;have hmid2:∀ y,y∈ms↔R mid y:=λy=>(hm4 y).trans ⟨λh=>h.elim (λq=>q) λq=>q.2.2,.inl⟩
     have hother:∀ z∈ns,z≠nm->∀ y,a46 R mid (ns.take j) z y↔a46 R mid (ns.take (j+1)) z y:=λz _ hz y=>by unfold a46;rw[htj,A0R,A17];simp[hz]
     symm
     refine Qx hT5 hn hjn han ?_;refine Wf hk1 ?_
     symm
     refine Hx (λhc=>?_) (λhc=>?_)
     . have hRn:=hin.mp hc
       by_cases hne:nm=mid
       . subst hne
         have hji:jn=jm:=by obtain⟨p1,p2⟩:=A02.mp hjn;obtain⟨q1,q2⟩:=A02.mp hjm;exact(A1P hn).mp (p2.trans q2.symm)
         subst hji;rw[han] at ham
         cases ham
         symm
         refine Qx hT5 hn hjn han ?_;refine af2 hk1 ?_
         symm
         refine Qx hT5 hn hjn han ?_
         symm
         refine am3 hk1 ?_
         symm
         refine⟨_,rfl,e5,fz5,hT5.congr λz hz y=>?_⟩
         by_cases hzn:z=nm
         . subst hzn;unfold a46;constructor
           . exact λh=>.inl (h.elim (λq=>q) λq=>q.2.2)
           exact λh=>.inl (h.elim (λq=>q) λq=>q.2.2)
         exact hother z hz hzn y
       have hane:an≠am:=λq=>by subst q;obtain⟨p1,p2⟩:=A02.mp han;obtain⟨q1,q2⟩:=A02.mp ham;have:=(A1P hT5.nd).mp (p2.trans q2.symm);subst this;rw[hjn] at hjm;exact hne (A10 hjm)
       symm
       refine Qx hT5 hn hjn han ?_;refine af2 hk1 ?_
       symm
       refine Qx hT5 hn hjm ham ?_
       symm
       refine aj2 hk1 hm1 hane ∅ λH6 e6 h6=>?_
       symm
       have ha0:H an=none:=(haf an (A05 han)).2;refine⟨_,rfl,by walk_at "sm",fz5.trans (e6.fzD hk1),hT5.put e6 hn hjn han h6 (K7 hk2) (λy hy=>?_) (λy=>?_) hother⟩
       . rcases mem_addAll.mp hy with hy|hy
         . exact hk3 y hy
         exact hm3 y hy
       rw[mem_addAll,hk4,hmid2];unfold a46;rw[htj,A0R,A17];constructor
       . rintro((h|h)|h)
         . exact .inl h
         . exact .inr ⟨.inl h.1,h.2⟩
         exact .inr ⟨.inr rfl,hRn,h⟩
       rintro(h|h)
       . exact .inl (.inl h)
       exact .inr h.2.2
     have hRn:¬ R nm mid:=λq=>hc (hin.mpr q)
     symm
     refine⟨_,rfl,e5,fz5,hT5.congr λz hz y=>?_⟩
     by_cases hzn:z=nm
     . subst hzn;unfold a46;constructor
       . exact λh=>.inl (h.elim (λq=>q) λq=>absurd q.2.1 hRn)
       exact λh=>.inl (h.elim (λq=>q) λq=>absurd q.2.1 hRn)
     exact hother z hz hzn y
   obtain⟨x5',rfl,e5,fz5,hT5⟩:=hP;rw[A0M] at hT5;refine⟨_,_,_,rfl,e5,fz4.trans fz5,hT5.congr (R':=λz y=>R z y\/(R z mid/\R mid y)) λz hz y=>?_,?_⟩
   . unfold a46;simp[hz]
   have htj:ns.take (i+1)=ns.take i++[mid]:=by rw[A0J,hmid];rfl
   rw[htj];exact hR.step
 obtain⟨x4,x5,R,rfl,e4,fz4,hT4,hR⟩:=hP;rw[A0M] at hR
 symm
 exact k r as H4 hr0 (λa ha'=>(haf a ha').2) e4 (hT4.congr λz _ y=>hR.done hW.mem z y)
def Ju (K:W.Frag):Sp:=λvs H Q _=>∃ v ns,vs=[v]/\Is K H (nmD ns) v/\ns.Nodup/\ns.length<=10/\∀ d H',H d=none->Same H H'->H' d=some (.dK (ah0 ns))->Q (.ref d) H'
def Gf (K:W.Frag):Sp:=λvs H Q _=>∃ v bd ns ps,vs=[v,.ref bd]/\Is K H (hfD ns ps) v/\Qr ns ps/\ns.length<=10/\H bd=some (.dK (ah0 ns))/\∀ d H',H d=none->Same H H'->H' d=some (.dK (ahK ns ps))->Q (.ref d) H'
def Hk (C:Addr)(K:W.Frag):Sp:=λvs H Q _=>∃ p v dx ns ps,vs=[.ref p,v]/\H p=some (.ins C dx [])/\Is K H (hfD ns ps) v/\Qr ns ps/\ns.length<=10 /\
 ∀ nv bd ad kd kvs H',H kd=none->ExtBut p H H'->WaysAt K C H' p dx nv bd ad kd ns ps kvs->Q .non H'
def B8 (C:Addr)(K:W.Frag):Sp:=λvs H Q _=>∃ p dx nv bd ad kd ns ps kvs q,vs=[.ref p,.int ((Dr ns q:Nat):Int)]/\WaysAt K C H p dx nv bd ad kd ns ps kvs/\Qr ns ps/\ns.length<=10 /\
 ∀ l H',H l=none->Same H H'->H' l=some (.lst ((frF (Av ps) (ns.filter q)).map V.str))->Q (.ref l) H'
def C5 (C:Addr)(K:W.Frag)(n:Nat):Sp:=λvs H Q _=>∃ p dx nv bd ad kd ns ps kvs q,vs=[.ref p,.int ((Dr ns q:Nat):Int)]/\WaysAt K C H p dx nv bd ad kd ns ps kvs/\Qr ns ps/\ns.length<=10/\(ns.filter q).length<n /\
 ∀ kvs' H',ExtBut kd H H'->WaysAt K C H' p dx nv bd ad kd ns ps kvs'->Q (.int ((cnt (Av ps) (ns.filter q):Nat):Int)) H'
def Fn (C:Addr)(K:W.Frag):Sp:=C5 C K 11
theorem Hr {C:Addr}{K:W.Frag}:∀ vs H Q E,¬ C5 C K 0 vs H Q E:=by rintro vs H Q E ⟨_,_,_,_,_,_,_,_,_,_,_,_,_,_,h,_⟩;exact absurd h (A2V _)
theorem a71 {ns:List Str}(hn:ns.Nodup)(h:ns.length<=10){x:Str}(hx:x∈ns):Et ns x<=1024:=by obtain⟨j,hj⟩:=A4Q.mp hx;rw[Li hn hj];exact(A2Y nofun (by have:=(A02.mp hj).1;omega):2 ^ j<=2 ^ 10)
theorem Fx {f g:Str}{v x:V}{r:List (Str×V)}(h:¬ g=f):Kg f v ((g,x) :: r)=(g,x) :: Kg f v r:=by
 show(if g=f then _ else _)=_
 rw[A0S h]
theorem fld2 (a b:V):Kg "bits" b [("names",a)]=([("names",a),("bits",b)]:List (Str×V)):=by rw[Fx (by decide +kernel)];rfl
theorem fld3 (a b c:V):Kg "ahead" c [("names",a),("bits",b)]=([("names",a),("bits",b),("ahead",c)]:List (Str×V)):=by rw[Fx (by decide +kernel),Fx (by decide +kernel)];rfl
theorem fld4 (a b c d:V):Kg "full" d [("names",a),("bits",b),("ahead",c)]=([("names",a),("bits",b),("ahead",c),("full",d)]:List (Str×V)):=by rw[Fx (by decide +kernel),Fx (by decide +kernel),Fx (by decide +kernel)];rfl
theorem fld5 (a b c d e:V):Kg "known" e [("names",a),("bits",b),("ahead",c),("full",d)]=([("names",a),("bits",b),("ahead",c),("full",d),("known",e)]:List (Str×V)):=by rw[Fx (by decide +kernel),Fx (by decide +kernel),Fx (by decide +kernel),Fx (by decide +kernel)];rfl
theorem Uw {f:Addr}{fd:FuncData}(F:Fun K "bits_of" "bits_of" G7 f fd)(T:Gj mg):FnOk P w K mg base CX0 1 f fd ["names"] (Ju K):=by
 refine F.ok G5 (λvs H Q E h=>?_) (λcdv A outer s H vs Q E hr h=>?_)
 . obtain⟨v,ns,rfl,_⟩:=h;rfl
 obtain⟨v,ns,rfl,hI,hn,h10,k⟩:=h;have hu:=Db hr;have hq:=Dc hr
 with_reducible refine⟨_,(A1 (Aa (i:=1) G5.nd ⋯ (by eq_refl) Nh)
  (A1 (Aa (i:=2) G5.nd ⋯ (by eq_refl) A3)
  (A1 (Cf A0V ⋯ (Ap (K:=K) hu (pv 0)) (Ab (i:=3) G5.nd ⋯ (by eq_refl))
  (A1 (Fe hu (pv 1) (pv 3) (pv 2) ⋯)
  (A5 (Aa (i:=2) G5.nd ⋯ (by eq_refl) (Af Fd (pv 2) A3)))))
  (A5 (Am (pv 1)))))),?_⟩
 symm
 refine Xl λd H1 hd1 e1 h1=>?_
 symm
 refine Ps (hI.nm_fz e1.fz) (λi σ H2=>∃ x3,σ=[some v,some (.ref d),some (.int ((2 ^ i:Nat):Int)),x3]/\Same H H2/\Fz H1 H2/\H2 d=some (.dK ((ns.take i).map λx=>((Sum.inr x:Key),V.int ((Et ns x:Nat):Int)))))
  ⟨_,rfl,e1,.refl _,h1⟩ (λi σ' H' hP=>hP.choose_spec.2.2.1) (λi z σ' H2 hz hP=>?_) (fun σ' H2 hP=>?_)
 . obtain⟨x3,rfl,e2,fz2,h2⟩:=hP;have hin:i<ns.length:=(A02.mp hz).1;have hlt:2 ^ i<=2 ^ 10:=A2Y nofun ∅
   have hno:z∉ns.take i:=λhm=>by
    obtain⟨j,hj⟩:=A4Q.mp hm;rw[List.getElem?_take] at hj
    split at hj
    . rename_i hji;have a1:=A02.mp hj;have a2:=A02.mp hz;have:=(A1P hn).mp (a1.2.trans a2.2.symm);omega
    cases hj
   symm
   refine Jm h2 (by rw[A01,A0O];omega) λH3 e3 h3=>?_;rw[J3 _ (Hh hno)] at h3
   symm
   refine⟨some (.str z),?_,e2.off hd1 e3,fz2.trans (e3.fzD h2),?_⟩
   . have:((2 ^ i:Nat):Int)*2=((2 ^ (i+1):Nat):Int):=by rw[A4M];omega
     rw[this];rfl
   rw[h3,A0J,hz];have:((2 ^ i:Nat):Int)=((Et ns z:Nat):Int):=by rw[Li hn hz]
   rw[this];simp
 obtain⟨x3,rfl,e2,fz2,h2⟩:=hP;rw[A0M] at h2
 symm
 exact k d H2 hd1 e2 h2
theorem Nn {f:Addr}{fd:FuncData}(F:Fun K "bits_ahead" "bits_ahead" Dn f fd)(T:Gj mg)(Gr:Fnd P w K mg base 1 "behind_each" ["half"] (G2 K)):FnOk P w K mg base CX0 2 f fd ["half","bits"] (Gf K):=by
 refine F.ok Ez (λvs H Q E h=>?_) (λcdv A outer s H vs Q E hr h=>?_)
 . obtain⟨v,bd,ns,ps,rfl,_⟩:=h;rfl
 obtain⟨v,bd,ns,ps,rfl,hI,hW,h10,hB,k⟩:=h;have hu:=Db hr;have hq:=Dc hr;have hn:=hW.nd
 with_reducible refine⟨_,(A1 (Aa (i:=2) Ez.nd ⋯ (by with_unfolding_all exact A2M rfl) (Bc Gr (hr.mono nofun) ⋯ (A0 (pv 0) A2)))
  (A1 (Aa (i:=3) Ez.nd ⋯ (by eq_refl) Nh)
  (A1 (Cf A0V ⋯ (Ap (K:=K) hu (Ao (A7 (K:=K) hu) (pv 0) A3 (by ac_rfl))) (Ab (i:=4) Ez.nd ⋯ (by with_unfolding_all exact A2M rfl))
  (A5 (Fe hu (pv 3) (pv 4) (Ag (Gc (K:=K) ⋯) ⋯ T.b_sum PyProof.Rows.Boot.«sum» (A0 (Cm ["one"] ["bits","name","reach"] [1,4,2] ⋯ ⋯ ⋯ (Ap (K:=K) hu (Ao (A7 (K:=K) hu) (pv 0) A3 (by ac_rfl))) (λ_ _ _ _=>(Ab (i:=0) (by with_unfolding_all (show(["one","bits","name","reach"]:List Str).Nodup;decide +kernel)) ⋯ (by eq_refl))) (Bf nofun) (λ_ _ _ _=>(He (Ah (Tg (K:=K) hq) (pv 2) (Ao (A7 (K:=K) hu) (pv 3) (pv 0) (by ac_rfl)) ⋯))) (λ_ _ _ _=>(Ao (A7 (K:=K) hu) (pv 1) (pv 0) (by ac_rfl)))) A2)) ⋯)))
  (A5 (Am (pv 3)))))),?_⟩
 symm
 refine⟨v,ns,ps,rfl,hI,hW,λr as H1 hr1 ha1 e1 hT=>?_⟩
 symm
 refine Xl λd H2 hd2 e2 h2=>?_
 symm
 have e12:=e1.trans e2;refine Jd (hI.hf_fz e12.fz) λnv hN=>?_
 refine Ps hN (λi σ H3=>∃ x4,σ=[some v,some (.ref bd),some (.ref r),some (.ref d),x4]/\Same H1 H3/\Fz H2 H3/\H3 d=some (.dK ((ns.take i).map λx=>((Sum.inr x:Key),V.int ((Dr ns (λy=>Av ps y x):Nat):Int)))))
  ⟨_,rfl,e2,.refl _,h2⟩ (λi σ' H' hP=>hP.choose_spec.2.2.1) (λi z σ' H3 hz hP=>?_) (fun σ' H3 hP=>?_)
 . obtain⟨x4,rfl,e3,fz3,h3⟩:=hP;have hin:i<ns.length:=(A02.mp hz).1
   have hno:z∉ns.take i:=λhm=>by
    obtain⟨j,hj⟩:=A4Q.mp hm;rw[List.getElem?_take] at hj
    split at hj
    . rename_i hji;have a1:=A02.mp hj;have a2:=A02.mp hz;have:=(A1P hn).mp (a1.2.trans a2.2.symm);omega
    cases hj
   symm
   refine Jd (hI.hf_fz (e12.fz.trans fz3)) λnv3 hN3=>?_;refine Mv hN3 (λy=>Av ps y z) (λy=>PyData.int ((Et ns y:Nat):Int)) (λ_=>rfl) ∅ (λj y H4 R R' hy e4 hR hR'=>?_) (λq ys H4 hq4 e4 h4 hL4=>?_)
   . have hT4:=hT.same (e3.trans e4);obtain⟨jy,ay,hjy,hay⟩:=hT4.at (A05 hy);obtain⟨ks,hk1,hk2,hk3,hk4⟩:=hT4.row jy y ay hjy hay
     symm
     refine Qx hT4 hn hjy hay ?_;refine Wf hk1 ?_;rw[T0 (hk4 z)]
     symm
     refine ah1 (λhb=>?_) (λhb=>?_)
     . symm
       refine i_ixD (e4 _ _ (e3 _ _ (e1 _ _ hB))) (Js (A05 hy)) ?_;exact hR hb _ _ (.refl _) rfl
     exact hR' hb _ (.refl _)
   have hm:(ns.filter λy=>Av ps y z).map (λy=>PyData.int ((Et ns y:Nat):Int))=((ns.filter λy=>Av ps y z).map λy=>((Et ns y:Nat):Int)).map PyData.int:=by rw[A1D];rfl
   rw[hm] at hL4;have hys:=IsL.int_eq hL4;subst hys
   symm
   refine Uc (.inl (SqL.of h4)) (λn hn'=>?_) (by rw[A01];exact A0Q (A1I _ _) ∅) ?_
   . obtain⟨y,hy,rfl⟩:=A0N.mp hn';have hyn:=(A0U.mp hy).1;have:=a71 hn h10 hyn;omega
   rw[Hu,Kp _ hn]
   symm
   have h4d:H4 d=some _:=e4 _ _ h3;refine Jm h4d (by rw[A01,A0O];omega) λH5 e5 h5=>?_;rw[J3 _ (Hh hno)] at h5
   symm
   refine⟨_,rfl,(e3.trans e4).off hd2 e5,(fz3.trans e4.fz).trans (e5.fzD h4d),?_⟩;rw[h5,A0J,hz];simp
 obtain⟨x4,rfl,e3,fz3,h3⟩:=hP;rw[A0M] at h3
 symm
 exact k d H3 (e1.free hd2) (e1.trans e3) h3
theorem Ox {f:Addr}{fd:FuncData}(F:Fun K "__init__" "Ways.__init__" Ee f fd)(T:Gj mg){C_Ways:Addr}(k_Ways:Fv K C_Ways)(Ks:Fnd P w K mg base 1 "bits_of" ["names"] (Ju K))(Ht:Fnd P w K mg base 2 "bits_ahead" ["half","bits"] (Gf K)):FnOk P w K mg base CX0 3 f fd ["self","half"] (Hk C_Ways K):=by
 refine F.ok Pk (λvs H Q E h=>?_) (λcdv A outer s H vs Q E hr h=>?_)
 . obtain⟨p,v,dx,ns,ps,rfl,_⟩:=h;rfl
 obtain⟨p,v,dx,ns,ps,rfl,hp,hI,hW,h10,k⟩:=h;have hu:=Db hr;have hq:=Dc hr;have hn:=hW.nd
 with_reducible refine⟨_,(A1 (X2 (C:=C_Ways) (pv 0) (Ao (A7 (K:=K) hu) (pv 1) A3 (by ac_rfl)) k_Ways.cl k_Ways.n_names ⋯)
  (A1 (X2 (C:=C_Ways) (pv 0) (Bc Ks (hr.mono nofun) ⋯ (A0 (Ao (A7 (K:=K) hu) (pv 1) A3 (by ac_rfl)) A2)) k_Ways.cl k_Ways.n_bits ⋯)
  (A1 (X2 (C:=C_Ways) (pv 0) (Bc Ht (hr.mono nofun) ⋯ (A0 (pv 1) (A0 (Kb (C:=C_Ways) (pv 0) k_Ways.cl k_Ways.n_bits ⋯) A2))) k_Ways.cl k_Ways.n_ahead ⋯)
  (A1 (X2 (C:=C_Ways) (pv 0) (Ag (Wg ⋯) ⋯ T.b_sum PyProof.Rows.Boot.«sum» (A0 (Y2 (K:=K) A46 PySem.F.slot_dict_values PySem.F.type_dict_values (mm Xx) (Kb (C:=C_Ways) (pv 0) k_Ways.cl k_Ways.n_bits ⋯)) A2)) k_Ways.cl k_Ways.n_full ⋯)
  (A5 (X2 (C:=C_Ways) (pv 0) (Xc (Ia A3 A3 Re) ⋯ ⋯ nofun nofun) k_Ways.cl k_Ways.n_known ⋯)))))),?_⟩
 symm
 refine Jd hI λnv hN=>?_
 symm
 refine ao4 hp nofun λH1 e1 h1=>?_;replace h1:H1 p=some (.ins C_Ways dx [("names",nv)]):=h1;have fz1:=e1.fzI hp
 symm
 refine Jd (hI.hf_fz fz1) λnv1 hN1=>?_
 symm
 refine⟨nv1,ns,rfl,hN1,hn,h10,λbd H2 hb2 e2 h2=>?_⟩
 symm
 refine ao4 (e2 _ _ h1) (by show 1<1000;decide) λH3 e3 h3=>?_;rw[fld2] at h3;have fz3:=e3.fzI (e2 _ _ h1);have hbp:bd≠p:=(ne_of_none h1 hb2).symm;have h3b:H3 bd=some (.dK (ah0 ns)):=e3 _ _ hbp h2
 symm
 refine Ul h3 (by rfl) ?_
 symm
 refine⟨v,bd,ns,ps,rfl,hI.hf_fz ((fz1.trans e2.fz).trans fz3),hW,h10,h3b,λad H4 ha4 e4 h4=>?_⟩
 symm
 refine ao4 (e4 _ _ h3) (by show 2<1000;decide) λH5 e5 h5=>?_;rw[fld3] at h5;have fz5:=e5.fzI (e4 _ _ h3);have hap:ad≠p:=(ne_of_none h3 ha4).symm;have h5a:H5 ad=some (.dK (ahK ns ps)):=e5 _ _ hap h4;have h5b:H5 bd=some (.dK (ah0 ns)):=e5 _ _ hbp (e4 _ _ h3b)
 symm
 refine Ul h5 (by rfl) ?_
 symm
 refine af2 h5b ?_
 symm
 refine aq5 h5b λv6 H6 hv6 e6 h6=>?_
 symm
 have hbs:∀ n∈ns.map (λx=>((Et ns x:Nat):Int)),0<=n/\n<=1000000000000:=λn hn'=>by obtain⟨y,hy,rfl⟩:=A0N.mp hn';have:=a71 hn h10 hy;omega
 refine ar5 h6 (e6 _ _ h5b) (ns:=ns.map λx=>((Et ns x:Nat):Int)) (by unfold ah0;rw[List.map_map,List.map_map];rfl) hbs (by rw[List.length_map];omega) ?_
 have hsum:(ns.map (Et ns)).sum=Dr ns (λ_=>true):=by have:=Kp (λ_=>true) hn;rwa[show ns.filter (λ_=>true)=ns by simp] at this
 rw[Hu,hsum]
 symm
 have h6p:=e6 _ _ h5;refine ao4 h6p (by show 3<1000;decide) λH7 e7 h7=>?_;rw[fld4] at h7;have fz7:=e7.fzI h6p
 symm
 refine a56 λkd H8 hk8 e8 h8=>?_
 symm
 refine Vx [(Sum.inl 0,V.int 1)] h8 rfl nofun λH9 e9 h9=>?_
 symm
 have hkp:p≠kd:=ne_of_none h7 hk8;have h9p:=e9 _ _ hkp (e8 _ _ h7);refine ao4 h9p (by show 4<1000;decide) λH10 e10 h10'=>?_;rw[fld5] at h10';have fz10:=e10.fzI h9p
 symm
 have hpb:bd≠p:=hbp;have h7b:=e7 _ _ hbp (e6 _ _ h5b);have h7a:=e7 _ _ hap (e6 _ _ h5a);have hbk:bd≠kd:=ne_of_none h7b hk8;have hak:ad≠kd:=ne_of_none h7a hk8;have hE:ExtBut p H H7:=((((e1.same e2).trans e3).same e4).trans e5 |>.same e6).trans e7
 have hkH:H kd=none:=by
  cases c:H kd with
  |none=>rfl
  |some o=>rw[hE _ _ hkp.symm c] at hk8;cases hk8
 refine k nv bd ad kd [(Sum.inl 0,V.int 1)] H10 hkH ?_ ⟨h10',?_,?_,?_,?_,hbk,hak,Knw.new ns ps⟩
 . exact((hE.same e8).off hkH e9).trans e10
 . exact hN.nm_fz (((((((fz1.trans e2.fz).trans fz3).trans e4.fz).trans fz5).trans e6.fz).trans fz7).trans ((e8.fz.trans (e9.fzD h8)).trans fz10))
 . exact e10 _ _ hbp (e9 _ _ hbk (e8 _ _ h7b))
 . exact e10 _ _ hap (e9 _ _ hak (e8 _ _ h7a))
 exact e10 _ _ hkp.symm h9
theorem J6 {f:Addr}{fd:FuncData}(F:Fun K "free_names" "Ways.free_names" Bh f fd)(T:Gj mg){C_Ways:Addr}(k_Ways:Fv K C_Ways):FnOk P w K mg base CX0 1 f fd ["self","left"] (B8 C_Ways K):=by
 refine F.ok Jj (λvs H Q E h=>?_) (λcdv A outer s H vs Q E hr h=>?_)
 . obtain⟨p,dx,nv,bd,ad,kd,ns,ps,kvs,q,rfl,_⟩:=h;rfl
 obtain⟨p,dx,nv,bd,ad,kd,ns,ps,kvs,q,rfl,hA,hW,h10,k⟩:=h;have hu:=Db hr;have hq:=Dc hr;have hn:=hW.nd
 with_reducible refine⟨_,(A5 (Am (Cm ["name"] ["self","left"] [0,1] ⋯ ⋯ ⋯ (Ap (K:=K) hu (Kb (C:=C_Ways) (pv 0) k_Ways.cl k_Ways.n_names ⋯)) (λ_ _ _ _=>(Ab (i:=0) (by with_unfolding_all (show(["name","self","left"]:List Str).Nodup;decide +kernel)) ⋯ (by eq_refl))) (Bf nofun) (λ_ _ _ _=>(He (PW.pt (a41 (a45 (Af a51 (Ao (A7 (K:=K) hu) (Kb (C:=C_Ways) (pv 1) k_Ways.cl k_Ways.n_bits ⋯) (pv 0) (by ac_rfl)) (pv 2))) (Vg (aq0 (a45 (Af a51 (Ao (A7 (K:=K) hu) (Kb (C:=C_Ways) (pv 1) k_Ways.cl k_Ways.n_ahead ⋯) (pv 0) (by ac_rfl)) (pv 2))))))))) (λ_ _ _ _=>(pv 0))))),?_⟩
 symm
 refine Ul hA.ob (by rfl) ?_;refine Mv hA.nm (λx=>q x && !(ns.any λy=>Av ps y x&&q y)) PyData.str (λ_=>rfl) ∅ (λj x H1 R R' hx e1 hR hR'=>?_) (λl ys H1 hl1 e1 h1 hL1=>?_)
 . have hA1:=hA.same e1;have hxn:=A05 hx
   symm
   refine Ul hA1.ob (by rfl) ?_
   symm
   refine i_ixD hA1.bt (Js hxn) ?_
   symm
   rw[ad4 hn hxn];refine ah1 (λhb=>?_) (λhb=>?_)
   . symm
     refine Ul hA1.ob (by rfl) ?_
     symm
     refine i_ixD hA1.ah (Js hxn) ?_
     symm
     rw[W2]
     symm
     refine Vh (λhc=>?_) (λhc=>?_)
     . symm
       exact hR (by rw[hb,hc];rfl) _ _ (.refl _) Je
     exact hR' (by rw[hb,hc];rfl) _ (.refl _)
   exact hR' (by rw[hb];rfl) _ (.refl _)
 rw[Ya] at hL1;have:=IsL.str_eq hL1;subst this
 symm
 exact k l H1 hl1 e1 h1
theorem Ka {f:Addr}{fd:FuncData}(F:Fun K "ways_on" "Ways.ways_on" Bv f fd)(T:Gj mg){C_Ways:Addr}(k_Ways:Fv K C_Ways)(Aj:Mtd P w K mg base 1 C_Ways "free_names" ["self","left"] (B8 C_Ways K))(n:Nat)(Cz:Mtd P w K mg base (2+n) C_Ways "ways_on" ["self","left"] (C5 C_Ways K n)):FnOk P w K mg base CX0 (2+n+1) f fd ["self","left"] (C5 C_Ways K (n+1)):=by
 refine F.ok Lo (λvs H Q E h=>?_) (λcdv A outer s H vs Q E hr h=>?_)
 . obtain⟨p,dx,nv,bd,ad,kd,ns,ps,kvs,q,rfl,_⟩:=h;rfl
 obtain⟨p,dx,nv,bd,ad,kd,ns,ps,kvs,q,rfl,hA,hW,h10,hlt,k⟩:=h;have hu:=Db hr;have hq:=Dc hr;have hn:=hW.nd;have hkl:=hA.ok.len h10;have hLn:(ns.filter q).Nodup:=A58 A3Q hn;have hLl:(ns.filter q).length<=ns.length:=A1I _ _
 with_reducible refine⟨_,(A1 (Cq (Ah (J5 (K:=K) hq) (pv 1) (Kb (C:=C_Ways) (pv 0) k_Ways.cl k_Ways.n_known ⋯) ⋯) (A5 (Fe hu (Kb (C:=C_Ways) (pv 0) k_Ways.cl k_Ways.n_known ⋯) (pv 1) (Ag (Gc (K:=K) ⋯) ⋯ T.b_sum PyProof.Rows.Boot.«sum» (A0 (Cm ["name"] ["self","left"] [0,1] ⋯ ⋯ ⋯ (Ap (K:=K) hu (Zs (C:=C_Ways) (pv 0) k_Ways.cl Aj (hr.mono ∅) (A0 (pv 1) A2))) (λ_ _ _ _=>(Ab (i:=0) (by with_unfolding_all (show(["name","self","left"]:List Str).Nodup;decide +kernel)) ⋯ (by eq_refl))) (Bf nofun) (λ_ _ _ _=>Ct) (λ_ _ _ _=>(Zs (C:=C_Ways) (pv 1) k_Ways.cl Cz (hr.mono ∅) (A0 (Af Ha (pv 2) (Ao (A7 (K:=K) hu) (Kb (C:=C_Ways) (pv 1) k_Ways.cl k_Ways.n_bits ⋯) (pv 0) (by ac_rfl))) A2)))) A2)) ⋯)) At)
  (A5 (Am (Ao (A7 (K:=K) hu) (Kb (C:=C_Ways) (pv 0) k_Ways.cl k_Ways.n_known ⋯) (pv 1) (by ac_rfl))))),?_⟩
 symm
 refine Ul hA.ob (by rfl) ?_;refine ag0 hA.kn ?_
 symm
 cases hv:Cy kvs (Sum.inl ((Dr ns q:Nat):Int):Key) with
 |some v=>
   have:=hA.ok.get hv;subst this;refine iteF ?_
   symm
   refine Ul hA.ob (by rfl) ?_
   symm
   refine a40 hA.kn hv ?_;exact k kvs H .refl hA
 |none=>
   have hne:ns.filter q≠[]:=λe=>by
    have h0:Dr ns q=0:=binM_zero.mpr λx hx=>by
     cases c:q x with
     |false=>rfl
     |true=>
       have:x∈ns.filter q:=A0U.mpr ⟨hx,c⟩;rw[e] at this
       cases this
    rw[h0] at hv;rw[show((0:Nat):Int)=0 from rfl,hA.ok.2.2] at hv
    cases hv
   refine iteT ?_
   symm
   refine at9 hA.ob (by rfl) ?_
   symm
   refine⟨p,dx,nv,bd,ad,kd,ns,ps,kvs,q,rfl,hA,hW,h10,λl H1 hl1 e1 h1=>?_⟩;have hA1:=hA.same e1;refine Gi (SqL.of h1) ?_
   refine Cu (Aw (xs:=(frF (Av ps) (ns.filter q)).map V.str)) (λpl i acc H2=>∃ kvs2,ExtBut kd H1 H2/\WaysAt K C_Ways H2 p dx nv bd ad kd ns ps kvs2/\acc=((frF (Av ps) (ns.filter q)).take i).map λx=>V.int ((cnt (Av ps) (Bg (ns.filter q) x):Nat):Int))
    (λpl H' hp' e' h'=>⟨kvs,e'.but,hA1.same e',rfl⟩) (λpl i acc H2 hP=>?_) (λpl i x acc H2 hpl hx hi hl hpa hP=>?_) (λpl acc H2 hpl hpa hal hP=>?_)
   . obtain⟨kvs2,e2,_,_⟩:=hP;exact SqL.of (e2 _ _ (ne_of h1 hA1.kn (by intro z;cases z)) h1)
   . obtain ⟨kvs2,e2,hA2,rfl⟩:=hP;rw[A08] at hx
     cases hz:(frF (Av ps) (ns.filter q))[i]? with
     |none=>rw[hz] at hx;cases hx
     |some z=>
       rw[hz] at hx
       cases hx;have hzf:=A05 hz;have hzL:=(mem_frF.mp hzf).1;have hzn:=(A0U.mp hzL).1;have hqz:=(A0U.mp hzL).2;have hsub:=Rk hn hzn hqz;have hlen:=Cg hLn hzL
       symm
       refine at9 hA2.ob (by rfl) ?_
       symm
       refine Ul hA2.ob (by rfl) ?_
       symm
       refine i_ixD hA2.bt (Js hzn) ?_
       symm
       have hval:((Dr ns q:Nat):Int)-((Et ns z:Nat):Int)=((Dr ns (λy=>q y && !decide (y=z)):Nat):Int):=by omega
       rw[hval];refine⟨p,dx,nv,bd,ad,kd,ns,ps,kvs2,_,rfl,hA2,hW,h10,by rw[Df];omega,λkvs3 H3 e3 hA3=>?_⟩;rw[Df];have hplk:pl≠kd:=ne_of hpa hA2.kn (by intro z;cases z);have h3p:=e3 _ _ hplk hpa;refine Ex (by rw[A01];exact A0Q (A1I _ _) ∅) hi hl h3p λH4 e4 h4=>?_;refine⟨kvs3,?_,hA3.list e4 h3p,?_⟩
       . exact(e2.trans e3).off hpl e4
       rw[A0J,hz];simp
   obtain⟨kvs2,e2,hA2,rfl⟩:=hP;rw[A01,A0M] at hpa;have hmm:(frF (Av ps) (ns.filter q)).map (λx=>V.int ((cnt (Av ps) (Bg (ns.filter q) x):Nat):Int))=((frF (Av ps) (ns.filter q)).map λx=>((cnt (Av ps) (Bg (ns.filter q) x):Nat):Int)).map V.int:=by rw[A1D];rfl
   rw[hmm] at hpa
   symm
   refine Uc (.inl (SqL.of hpa)) (λn' hn'=>?_) (by rw[A01];exact A0Q (A1I _ _) ∅) ?_
   . obtain⟨y,hy,rfl⟩:=A0N.mp hn';have:=Cg hLn (mem_frF.mp hy).1;have:=Qz (b:=Av ps) (C2 hLn y) ∅;omega
   rw[Hu,<- Ma hLn hne]
   symm
   refine Ul hA2.ob (by rfl) ?_
   symm
   have hkl2:=hA2.ok.len h10;refine aa2 hA2.kn ∅ λH3 e3 h3=>?_;have hA3:=hA2.put e3 h3 (hA2.ok.put q)
   symm
   refine Ul hA3.ob (by rfl) ?_
   symm
   refine a40 hA3.kn (by rw[Kj,A0W rfl]) ?_;exact k _ H3 (((e1.but (d:=kd)).trans e2).trans e3) hA3
theorem Kx {f:Addr}{fd:FuncData}(F:Fun K "ways_on" "Ways.ways_on" Bv f fd)(T:Gj mg){C_Ways:Addr}(k_Ways:Fv K C_Ways)(Aj:Mtd P w K mg base 1 C_Ways "free_names" ["self","left"] (B8 C_Ways K))(hm:au0 K C_Ways "ways_on" f)(hb:Binds K fd ["self","left"] []):FnOk P w K mg base CX0 13 f fd ["self","left"] (Fn C_Ways K):=by
 have h:∀ n:Nat,FnOk P w K mg base CX0 (2+n) f fd ["self","left"] (C5 C_Ways K n):=λn=>by
  induction n with
  |zero=>exact FnOk.void Hr
  |succ n ih=>exact Ka F T k_Ways Aj n ⟨f,fd,ih,hm,hb⟩
 exact h 11
local macro_rules | `(tactic| walk_at "rq1") => L2.mAlts "i_sRaise"
def Dz (C:Addr)(K:W.Frag)(n:Nat):Sp:=λvs H Q _=>∃ p dx nv bd ad kd ns ps kvs q,vs=[.ref p,.int ((Dr ns q:Nat):Int)]/\WaysAt K C H p dx nv bd ad kd ns ps kvs/\HalfW ns ps/\ns.length<=10/\cnt (Av ps) (ns.filter q)<=100000/\(ns.filter q).length<n /\
 ∀ l ys H',H l=none->Same H H'->H' l=some (.lst ys)->Tps H' (ext (Av ps) (ns.filter q).length (ns.filter q)) ys->Q (.ref l) H'
def Hg (C:Addr)(K:W.Frag):Sp:=Dz C K 11
theorem Jo {C:Addr}{K:W.Frag}:∀ vs H Q E,¬ Dz C K 0 vs H Q E:=by rintro vs H Q E ⟨_,_,_,_,_,_,_,_,_,_,_,_,_,_,_,h,_⟩;exact absurd h (A2V _)
def RfM (H:Hp)(C:Addr)(E:XK):Prop:=∀ a H',Same H H'->ExB false H' a C [("word",.str "orders")]->E (.ref a) none H'
def C7 (C:Addr)(K:W.Frag):Sp:=λvs H Q E=>∃ v ns ps,vs=[v]/\Is K H (hfD ns ps) v/\HalfW ns ps/\ns.length<=10 /\
 (cnt (Av ps) ns<=720->∀ l ys H',H l=none->Same H H'->H' l=some (.lst ys)->Tps H' (ext (Av ps) ns.length ns) ys->Q (.ref l) H')/\(720<cnt (Av ps) ns->RfM H C E)
theorem Nc {f:Addr}{fd:FuncData}(F:Fun K "orders_on" "orders_on" Dg f fd)(T:Gj mg){C_Ways:Addr}(k_Ways:Fv K C_Ways)(Aj:Mtd P w K mg base 1 C_Ways "free_names" ["self","left"] (B8 C_Ways K))(n:Nat)(Fj:Fnd P w K mg base (2+n) "orders_on" ["ways","left"] (Dz C_Ways K n)):FnOk P w K mg base CX0 (2+n+1) f fd ["ways","left"] (Dz C_Ways K (n+1)):=by
 refine F.ok Hn (λvs H Q E h=>?_) (λcdv A outer s H vs Q E hr h=>?_)
 . obtain⟨p,dx,nv,bd,ad,kd,ns,ps,kvs,q,rfl,_⟩:=h;rfl
 obtain⟨p,dx,nv,bd,ad,kd,ns,ps,kvs,q0,rfl,hA,hW,h10,hcn,hlt,k⟩:=h;have hu:=Db hr;have hq:=Dc hr;have hn0:=hW.nd;have hLn:(ns.filter q0).Nodup:=hn0.filter _
 with_reducible refine⟨_,(A1 (Cq (Ah (C6 (K:=K) hq) (pv 1) A3 (Au _)) (A5 (Am (B4 (A0 (Cr A2) A2)))) At)
  (A1 (Aa (i:=2) Hn.nd ⋯ (by eq_refl) (B4 A2))
  (A1 (Cf A0V ⋯ (Ap (K:=K) hu (Zs (C:=C_Ways) (pv 0) k_Ways.cl Aj (hr.mono ∅) (A0 (pv 1) A2))) (Ab (i:=3) Hn.nd ⋯ (by with_unfolding_all exact A2M rfl))
  (A5 (Fg (Gz (K:=K) A15 A2C A2D (mm Hl) (pv 2) (A0 (Cm ["rest"] ["name"] [3] ⋯ ⋯ ⋯ (Ap (K:=K) hu (Bc Fj (hr.mono ∅) ⋯ (A0 (pv 0) (A0 (Af Ha (pv 1) (Ao (A7 (K:=K) hu) (Kb (C:=C_Ways) (pv 0) k_Ways.cl k_Ways.n_bits ⋯) (pv 3) (by ac_rfl))) A2)))) (λ_ _ _ _=>(Ab (i:=0) (by with_unfolding_all (show(["rest","name"]:List Str).Nodup;decide +kernel)) ⋯ (by eq_refl))) (Bf nofun) (λ_ _ _ _=>Ct) (λ_ _ _ _=>(Af (Ae (K:=K)) (Cr (A0 (pv 1) A2)) (pv 0)))) A2)))))
  (A5 (Am (pv 2)))))),?_⟩
 symm
 refine Hx (λhz=>?_) (λhz=>?_)
 . have hb0:Dr ns q0=0:=by injection hz with hz;omega
   have hnil:ns.filter q0=[]:=List.filter_eq_nil_iff.mpr λx hx=>by rw[binM_zero.mp hb0 x hx];decide
   symm
   refine Cs nofun λt1 H1 ht1 e1 h1=>?_
   symm
   refine B5 (A6 (by simp)) λl2 H2 hl2 e2 h2=>?_;refine k l2 _ H2 (e1.free hl2) (e1.trans e2) h2 ?_;rw[hnil];exact .one (e2 _ _ h1)
 have hne:ns.filter q0≠[]:=λe=>hz (by
  have:Dr ns q0=0:=binM_zero.mpr λx hx=>by
   cases c:q0 x with
   |false=>rfl
   |true=>
     have:x∈ns.filter q0:=A0U.mpr ⟨hx,c⟩;rw[e] at this
     cases this
  rw[this];rfl)
 symm
 refine B5 nofun λf1 H1 hf1 e1 h1=>?_;have hA1:=hA.same e1
 symm
 refine at9 hA1.ob (by rfl) ?_
 symm
 refine⟨p,dx,nv,bd,ad,kd,ns,ps,kvs,q0,rfl,hA1,hW,h10,λl2 H2 hl2 e2 h2=>?_⟩;refine Gi (SqL.of h2) ?_;have hfl:f1≠l2:=ne_of_none h1 hl2
 refine Ew (Aw (xs:=(frF (Av ps) (ns.filter q0)).map V.str)) (λm σ H3=>∃ x3 zs,σ=[some (.ref p),some (.int ((Dr ns q0:Nat):Int)),some (.ref f1),x3]/\Same H H3/\H3 l2=some (.lst ((frF (Av ps) (ns.filter q0)).map V.str))/\H3 f1=some (.lst zs)/\Tps H3 (Wn (Av ps) (ns.filter q0) ((frF (Av ps) (ns.filter q0)).take m)) zs)
  ⟨_,[],rfl,e1.trans e2,h2,e2 _ _ h1,.nil⟩ (λm σ' H' hP=>?_) (λm x σ' H3 hx hm hP=>?_) (fun σ' H3 hP=>?_)
 . obtain⟨_,_,_,_,h,_⟩:=hP;exact SqL.of h
 . obtain ⟨x3,zs,rfl,e3,h3l,h3f,hL3⟩:=hP;rw[A08] at hx
   cases hz':(frF (Av ps) (ns.filter q0))[m]? with
   |none=>rw[hz'] at hx;cases hx
   |some z=>
     rw[hz'] at hx
     cases hx;have hzf:=A05 hz';have hzL:=(mem_frF.mp hzf).1;have hzn:=(A0U.mp hzL).1;have hqz:=(A0U.mp hzL).2;have hsub:=Rk hn0 hzn hqz;have hlen:=Cg hLn hzL;have hcl:=Qq hLn hzf;have hA3:=hA.same e3;have hval:((Dr ns q0:Nat):Int)-((Et ns z:Nat):Int)=((Dr ns (λy=>q0 y && !decide (y=z)):Nat):Int):=by omega
     symm
     refine Ul hA3.ob (by rfl) ?_
     symm
     refine i_ixD hA3.bt (Js hzn) ?_
     symm
     rw[hval];refine⟨p,dx,nv,bd,ad,kd,ns,ps,kvs,_,rfl,hA3,hW,h10,by rw[Df];omega,by rw[Df];omega,λl4 ys4 H4 hl4 e4 h4 hL4=>?_⟩;rw[Df] at hL4;have hl1:(Bg (ns.filter q0) z).length=(ns.filter q0).length-1:=by omega
     rw[hl1] at hL4;have hyl4:ys4.length=(ext (Av ps) ((ns.filter q0).length-1) (Bg (ns.filter q0) z)).length:=hL4.len.symm
     have hyle:ys4.length<=100000:=by rw[hyl4,<- hl1];exact A0Q (Nat.le_of_eq (show _=cnt (Av ps) (Bg (ns.filter q0) z) from rfl)) ∅
     refine Gi (SqL.of h4) ?_
     refine Cu (Aw (xs:=ys4)) (λq m acc H5=>Same H4 H5/\Tps H5 (((ext (Av ps) ((ns.filter q0).length-1) (Bg (ns.filter q0) z)).take m).map (z :: ·)) acc)
      (λq H' hq' e' h'=>⟨e',.nil⟩) (λq m acc H5 hP=>SqL.of (hP.1 _ _ h4)) (λp6 m' x acc H5 hq' hx' hm' hl' hqa hP=>?_) (λq6 acc H6 hq6 hqa hal hP=>?_)
     . obtain⟨e5,hT5⟩:=hP;obtain⟨ra,r,rfl,hr',hra⟩:=(hL4.same e5).at hx'
       have hrl:r.length<=10:=by obtain⟨hp,_⟩:=(Es _ _ _ _ (C2 hLn z) hl1).mp (A05 hr');have:=hp.length_eq;have:=A1I q0 ns;omega
       symm
       refine Cs (A6 (by simp)) λt6 H6 ht6 e6 h6=>?_
       symm
       refine ad0 h6 (by simp) (SqT.of (e6 _ _ hra)) (A6 (by rw[List.length_map];simp;omega)) λp7 H7 e7 h7=>?_;have e67:=e6.trans e7;have hqa7:=e67 _ _ hqa;refine Ex ∅ hm' hl' hqa7 λH8 e8 h8=>?_;have e48:Same H4 H8:=(e5.trans e67).off hq' e8;refine⟨e48,?_⟩;rw[A0J,hr',A0E];exact((hT5.same e67).but hqa7 e8).append (.one (e8 _ _ (ne_of h7 hqa7 (by intro z;cases z)) h7))
     obtain⟨e6,hT6⟩:=hP;rw[hyl4,A0M] at hT6
     have hzl:zs.length<=100000:=by have:=hL3.len;have:=Qa (Av ps) hne m;omega
     have e36:Same H3 H6:=e4.trans e6;have h6f:=e36 _ _ h3f
     symm
     refine Oz h6f hqa ∅ λH7 e7 h7=>?_
     symm
     refine⟨_,_,rfl,(e3.trans e36).off hf1 e7,e7 _ _ hfl.symm (e36 _ _ h3l),h7,?_⟩;rw[A0J,hz'];show Tps H7 (Wn (Av ps) (ns.filter q0) ((frF (Av ps) (ns.filter q0)).take m++[z])) _;rw[X7];exact((hL3.same e36).but h6f e7).append (hT6.but h6f e7)
 obtain⟨x3,zs,rfl,e3,h3l,h3f,hL3⟩:=hP;rw[A01,A0M,Sb _ hne] at hL3
 symm
 exact k f1 zs H3 hf1 e3 h3f hL3
theorem Qf {f:Addr}{fd:FuncData}(F:Fun K "orders_on" "orders_on" Dg f fd)(T:Gj mg){C_Ways:Addr}(k_Ways:Fv K C_Ways)(Aj:Mtd P w K mg base 1 C_Ways "free_names" ["self","left"] (B8 C_Ways K))(hm:mg "orders_on" = some (.ref f))(hk:W.keepIn K (.ref f)=true)(hb:Binds K fd ["ways","left"] []):FnOk P w K mg base CX0 13 f fd ["ways","left"] (Hg C_Ways K):=by
 have h:∀ n:Nat,FnOk P w K mg base CX0 (2+n) f fd ["ways","left"] (Dz C_Ways K n):=λn=>by
  induction n with
  |zero=>exact FnOk.void Jo
  |succ n ih=>exact Nc F T k_Ways Aj n ⟨f,fd,ih,hm,hk,hb⟩
 exact h 11
theorem Lw {f:Addr}{fd:FuncData}(F:Fun K "all_orders" "all_orders" Dp f fd)(T:Gj mg){C_Ways:Addr}(k_Ways:Fv K C_Ways){C_HalfError:Addr}{C_NoName:Addr}{C_TooMany:Addr}(x_HalfError:C3 K mg C_HalfError C_HalfError)(x_NoName:Fb K mg C_NoName C_HalfError)(x_TooMany:Dj K mg C_TooMany C_HalfError)(Fj:Fnd P w K mg base 13 "orders_on" ["ways","left"] (Hg C_Ways K))(Im:Mkd P w K mg base 3 C_Ways "Ways" ["self","half"] (Hk C_Ways K))(Cz:Mtd P w K mg base 13 C_Ways "ways_on" ["self","left"] (Fn C_Ways K))(G3:Mkx P w K mg base 1 C_TooMany "TooMany" ["self","word"] (spX C_TooMany ["word"])):FnOk P w K mg base (CX1 P w) 14 f fd ["half"] (C7 C_TooMany K):=by
 refine F.ok1 Iz (λvs H Q E h=>?_) (λcdv A outer s H vs Q E hr h=>?_)
 . obtain⟨v,ns,ps,rfl,_⟩:=h;rfl
 obtain⟨v,ns,ps,rfl,hI,hW,h10,k,kx⟩:=h;have hu:=Db hr;have hq:=Dc hr
 with_reducible refine⟨_,(A1 (Aa (i:=1) Iz.nd ⋯ (by eq_refl) (ay1 Im (hr.mono nofun) ⋯ (A0 (pv 0) A2)))
  (A1 (Cq (Ah W0 (Zs (C:=C_Ways) (pv 1) k_Ways.cl Cz (hr.mono nofun) (A0 (Kb (C:=C_Ways) (pv 1) k_Ways.cl k_Ways.n_full ⋯) A2)) (Tu ⋯ T.g_MOST_LISTED) (Au _)) (A5 (Zl ⋯ (as1 G3 (hr.mono nofun) ⋯ (A0 An A2)))) At)
  (A5 (Am (Bc Fj (hr.mono nofun) ⋯ (A0 (pv 1) (A0 (Kb (C:=C_Ways) (pv 1) k_Ways.cl k_Ways.n_full ⋯) A2))))))),?_⟩
 symm
 refine i_mk λp dx H1 hp1 e1 h1=>?_;refine⟨p,v,dx,ns,ps,rfl,h1,hI.hf_fz e1.fz,hW,h10,λnv bd ad kd kvs H2 hk2 e2 hA=>⟨rfl,?_⟩⟩
 symm
 refine at9 hA.ob (by rfl) ?_
 symm
 refine Ul hA.ob (by rfl) ?_
 symm
 have hfl:ns.filter (λ_=>true)=ns:=by simp
 refine⟨p,dx,nv,bd,ad,kd,ns,ps,kvs,λ_=>true,rfl,hA,hW,h10,by rw[hfl];omega,λkvs' H3 e3 hA3=>?_⟩;rw[hfl];have e13:Same H H3:=(e1.off hp1 e2).off (e1.free hk2) e3
 symm
 refine Hx (λhc=>?_) (λhc=>?_)
 . symm
   refine aw0 (by rfl) nofun λa H4 ha4 e4 hE=>?_
   symm
   exact ac3 hE x_TooMany.xc (e13.free ha4) λH5 kp hE5=>kx ∅ a H5 (e13.trans λb o q=>kp b o (ne_of_none q ha4) (e4 _ _ q)) hE5
 symm
 refine Ul hA3.ob (by rfl) ?_
 symm
 refine⟨p,dx,nv,bd,ad,kd,ns,ps,kvs',λ_=>true,rfl,hA3,hW,h10,by rw[hfl];omega,by rw[hfl];omega,λl ys H4 hl4 e4 h4 hL4=>?_⟩;rw[hfl] at hL4;exact k ∅ l ys H4 (e13.free hl4) (e13.trans e4) h4 hL4
def W5 (one other:List Str)(k:Nat):Nat:=((one.drop (k+1)).filter λx=>decide (other.idxOf x<other.idxOf (one.getD k ""))).length
def Pg (one other:List Str):Nat:=((List.range one.length).map (W5 one other)).sum
def Fy (K:W.Frag):Sp:=λvs H Q _=>∃ v u one other,vs=[v,u]/\Is K H (nmD one) v/\Is K H (nmD other) u/\(∀ x∈one,x∈other)/\one.length<=10/\other.length<=10/\∀ H',Same H H'->Q (.int ((Pg one other:Nat):Int)) H'
theorem We (one other:List Str)(i:Nat):((List.range (i+1)).map (W5 one other)).sum=((List.range i).map (W5 one other)).sum+W5 one other i:=by rw[List.range_succ,A0E,A4N];simp
theorem M1 {f:Addr}{fd:FuncData}(F:Fun K "pairs_apart" "pairs_apart" Co f fd)(T:Gj mg):FnOk P w K mg base CX0 1 f fd ["one","other"] (Fy K):=by
 refine F.ok Cc (λvs H Q E h=>?_) (λcdv A outer s H vs Q E hr h=>?_)
 . obtain⟨v,u,one,other,rfl,_⟩:=h;rfl
 obtain⟨v,u,one,other,rfl,hV,hU,hsub,h10,h10',k⟩:=h;have hu:=Db hr;have hq:=Dc hr
 with_reducible refine⟨_,(A1 (Ec (i:=2) ["name"] ["other"] [1] ⋯ ⋯ ⋯ Cc.nd ⋯ ⋯ (Ap (K:=K) hu (pv 0)) (λ_ _ _ _=>(Ab (i:=0) (by with_unfolding_all (show(["name","other"]:List Str).Nodup;decide +kernel)) ⋯ (by eq_refl))) (Bf nofun) (λ_ _ _ _=>Ct) (λ_ _ _ _=>(Vk (K:=K) A31 A43 (Jv (K:=K)) (pv 1) (A0 (pv 0) A2))))
  (A1 (Aa (i:=3) Cc.nd ⋯ (by eq_refl) A3)
  (A1 (Cf A0V ⋯ (T6 (K:=K) ⋯ T.b_enumerate (A0 (pv 2) A2)) (R0 (K:=K) (n:=2) ⋯ (Hw (Ab (i:=4) Cc.nd ⋯ (by eq_refl)) (Hw (Ab (i:=5) Cc.nd ⋯ (by with_unfolding_all exact A2M rfl)) R8)))
  (A5 (Aa (i:=3) Cc.nd ⋯ (by eq_refl) (Af (Ae (K:=K)) (pv 3) (Ag (B6 (K:=K)) ⋯ T.b_len PyProof.Rows.Boot.«len» (A0 (Cm ["later"] ["seat"] [5] ⋯ ⋯ ⋯ (Ap (K:=K) hu (Ay (Lc (K:=K)) (pv 2) (Az (Af (Ae (K:=K)) (pv 4) A3)) Ck)) (λ_ _ _ _=>(Ab (i:=0) (by with_unfolding_all (show(["later","seat"]:List Str).Nodup;decide +kernel)) ⋯ (by eq_refl))) (Bf nofun) (λ_ _ _ _=>(He (Ah Zh (pv 0) (pv 1) (Au _)))) (λ_ _ _ _=>(pv 0))) A2))))))
  (A5 (Am (pv 3)))))),?_⟩
 symm
 refine Mv hV (λ_=>true) (λx=>PyData.int ((other.idxOf x:Nat):Int)) (λ_=>rfl) ∅ (λi x H1 R R' hx e1 hR hR'=>?_) (λq ys H1 hq1 e1 h1 hL1=>?_)
 . have hU1:=hU.nm_fz e1.fz;obtain⟨ua,rfl,hSu⟩:=hU1.nm;obtain⟨f1,f2,f3⟩:=L2.idx_at (hsub x (A05 hx))
   symm
   refine a90 hSu ?_
   symm
   refine Mu hSu f1 f2 ?_;exact hR rfl _ _ (.refl _) rfl
 have hft:one.filter (λ_=>true)=one:=by simp
 rw[hft,show one.map (λx=>PyData.int ((other.idxOf x:Nat):Int))=(one.map λx=>((other.idxOf x:Nat):Int)).map PyData.int by rw[A1D];rfl] at hL1;have hys:=IsL.int_eq hL1;subst hys
 symm
 refine Pf (SqL.of h1) (λi σ H2=>∃ x4 x5,σ=[some v,some u,some (.ref q),some (.int ((((List.range i).map (W5 one other)).sum:Nat):Int)),x4,x5]/\Same H1 H2)
  ⟨_,_,rfl,.refl _⟩ (λi σ' H' hP=>?_) (λi x σ' H2 H3 hx hP e3=>?_) (fun σ' H2 hP=>?_)
 . obtain⟨_,_,_,e⟩:=hP;exact SqL.of (e _ _ h1)
 . obtain ⟨x4,x5,rfl,e2⟩:=hP;rw[A08,A08] at hx
   cases hz:one[i]? with
   |none=>rw[hz] at hx;cases hx
   |some z=>
     rw[hz] at hx
     cases hx;have hin:i<one.length:=(A02.mp hz).1;have hgd:one.getD i "" = z:=by rw[List.getD_eq_getElem?_getD,hz];rfl
     have h3:=e3 _ _ (e2 _ _ h1)
     symm
     refine K9 (SqL.of h3) λq4 H4 hq4 e4 h4=>?_;rw[Se ∅ (by rw[A01,A01];omega),show(((i:Nat):Int)+1).toNat=i+1 by omega,<- A2W,<- A2W] at h4;refine Gi (SqL.of h4) ?_
     refine Cu (Aw (xs:=((one.drop (i+1)).map λx=>((other.idxOf x:Nat):Int)).map V.int)) (λp m acc H5=>Same H4 H5/\acc.length=(((one.drop (i+1)).take m).filter λx=>decide (other.idxOf x<other.idxOf z)).length)
      (λp H' hp' e' h'=>⟨e',rfl⟩) (λp m acc H5 hP=>SqL.of (hP.1 _ _ h4)) (λp m x5 acc H5 hp' hx5 hm hl hpa hP=>?_) (λp acc H5 hp' hpa hal hP=>?_)
     . obtain ⟨e5,hacc⟩:=hP;rw[A08,A08] at hx5
       cases hy:(one.drop (i+1))[m]? with
       |none=>rw[hy] at hx5;cases hx5
       |some y=>
         rw[hy] at hx5
         cases hx5;have htk:(one.drop (i+1)).take (m+1)=(one.drop (i+1)).take m++[y]:=by rw[A0J,hy];rfl
         symm
         refine Hx (λhc=>?_) (λhc=>?_)
         . symm
           refine Ex (by rw[A01,A01,A1G];omega) hm hl hpa λH6 e6 h6=>?_;refine⟨e5.off hp' e6,?_⟩;rw[htk,A27,A09,A09,hacc,A1T,A0W (A19 (Int.ofNat_lt.mp hc))];rfl
         refine Mz hm hl hpa ⟨e5,?_⟩;rw[htk,A27,hacc,A1T,A0S (by rw[A0X λh=>hc (Int.ofNat_lt.mpr h)];decide),List.filter_nil,A1N]
     obtain⟨e5,hacc⟩:=hP;rw[A01,A01,A0M] at hacc;have hk:acc.length=W5 one other i:=by rw[hacc];unfold W5;rw[hgd]
     symm
     rw[hk];have hval:((((List.range i).map (W5 one other)).sum:Nat):Int)+((W5 one other i:Nat):Int)=((((List.range (i+1)).map (W5 one other)).sum:Nat):Int):=by rw[We];omega
     rw[hval];exact⟨_,_,rfl,((e2.trans e3).trans e4).trans e5⟩
 obtain⟨x4,x5,rfl,e2⟩:=hP;rw[A01,A01]
 symm
 exact k H2 (e1.trans e2)
def ah2 (b:Str->Str->Bool)(ns:List Str):Nat:=((ext b ns.length ns).map λr=>Pg ((ext b ns.length ns).headD []) r % 2).sum
theorem am8 (b:Str->Str->Bool)(ns:List Str):ah2 b ns<=cnt b ns:=by
 unfold ah2;have:((ext b ns.length ns).map λr=>Pg ((ext b ns.length ns).headD []) r % 2).sum<=((ext b ns.length ns).map λ_=>1).sum:=T9 λr _=>by omega
 rw[L2.sum_const,Nat.mul_one] at this;exact this
def Ja (C:Addr)(K:W.Frag):Sp:=λvs H Q E=>∃ v ns ps,vs=[v]/\Is K H (hfD ns ps) v/\HalfW ns ps/\ns.length<=10 /\
 (cnt (Av ps) ns<=720->∀(i j:Nat) a H',Same H H'->SqT K H' a [.int (i:Int),.int (j:Int)]->i+j=cnt (Av ps) ns->Q (.ref a) H')/\(720<cnt (Av ps) ns->RfM H C E)
theorem at1 {ns:List Str}{ps:List (Str×Str)}(hW:HalfW ns ps)(h10:ns.length<=10):∀ r∈ext (Av ps) ns.length ns,r.length<=10/\∀ r'∈ext (Av ps) ns.length ns,∀ x∈r,x∈r':=λr hr=>by obtain⟨hp,_⟩:=(Es _ _ _ _ hW.nd rfl).mp hr;have:=hp.length_eq;refine⟨by omega,λr' hr' x hx=>?_⟩;obtain⟨hp',_⟩:=(Es _ _ _ _ hW.nd rfl).mp hr';exact hp'.mem_iff.mpr (hp.mem_iff.mp hx)
theorem Y7 {ns:List Str}{ps:List (Str×Str)}(hW:HalfW ns ps):∃ r0,(ext (Av ps) ns.length ns)[0]? = some r0/\(ext (Av ps) ns.length ns).headD []=r0:=by
 have hp:=W7 (Zm hW) aa5 _ ns rfl hW.nd
 cases h:ext (Av ps) ns.length ns with
 |nil=>
   have:L2.cnt (Av ps) ns=0:=by unfold L2.cnt;rw[h];rfl
   omega
 |cons r t=>exact⟨r,rfl,rfl⟩
theorem Wl {f:Addr}{fd:FuncData}(F:Fun K "sides" "sides" Jr f fd)(T:Gj mg){C_HalfError:Addr}{C_NoName:Addr}{C_TooMany:Addr}(x_HalfError:C3 K mg C_HalfError C_HalfError)(x_NoName:Fb K mg C_NoName C_HalfError)(x_TooMany:Dj K mg C_TooMany C_HalfError)(Gn:Fnd P w K mg base 1 "pairs_apart" ["one","other"] (Fy K))(B1:Uu P w K mg base 14 "all_orders" ["half"] (C7 C_TooMany K)):FnOk P w K mg base (CX1 P w) 15 f fd ["half"] (Ja C_TooMany K):=by
 refine F.ok1 Nj (λvs H Q E h=>?_) (λcdv A outer s H vs Q E hr h=>?_)
 . obtain⟨v,ns,ps,rfl,_⟩:=h;rfl
 obtain⟨v,ns,ps,rfl,hI,hW,h10,k,kx⟩:=h;have hu:=Db hr;have hq:=Dc hr;obtain⟨r0,hr0,hr1⟩:=Y7 hW;have hall:=at1 hW h10
 with_reducible refine⟨_,(A1 (Aa (i:=1) Nj.nd ⋯ (by with_unfolding_all exact A2M rfl) (K5 B1 (hr.mono nofun) ⋯ Td (A0 (pv 0) A2)))
  (A1 (Aa (i:=2) Nj.nd ⋯ (by eq_refl) (Ag (Gc (K:=K) ⋯) ⋯ T.b_sum PyProof.Rows.Boot.«sum» (A0 (Cm ["order"] ["orders"] [1] ⋯ ⋯ ⋯ (Ap (K:=K) hu (pv 1)) (λ_ _ _ _=>(Ab (i:=0) (by with_unfolding_all (show(["order","orders"]:List Str).Nodup;decide +kernel)) ⋯ (by eq_refl))) (Bf nofun) (λ_ _ _ _=>Ct) (λ_ _ _ _=>(Af Gw (Bc Gn (hr.mono nofun) ⋯ (A0 (Ao (A7 (K:=K) hu) (pv 1) A3 (by ac_rfl)) (A0 (pv 0) A2))) A3))) A2)))
  (A5 (Am (Cr (A0 (Af Ha (Ag (B6 (K:=K)) ⋯ T.b_len PyProof.Rows.Boot.«len» (A0 (pv 1) A2)) (pv 2)) (A0 (pv 2) A2))))))),?_⟩
 symm
 refine⟨v,ns,ps,rfl,hI,hW,h10,λhcn l1 ys1 H1 hl1 e1 h1 hL1=>?_,kx⟩;have hyl:ys1.length=cnt (Av ps) ns:=hL1.len.symm
 symm
 refine Gi (SqL.of h1) ?_
 refine Cu (Aw (xs:=ys1)) (λq m acc H2=>Same H1 H2/\acc=((((ext (Av ps) ns.length ns).take m).map λr=>((Pg r0 r % 2:Nat):Int))).map V.int)
  (λq H' hq' e' h'=>⟨e',rfl⟩) (λq m acc H2 hP=>SqL.of (hP.1 _ _ h1)) (λq m x acc H2 hq' hx hm hl hqa hP=>?_) (λq acc H2 hq' hqa hal hP=>?_)
 . obtain⟨e2,rfl⟩:=hP;have hL2:=hL1.same e2;obtain⟨xa,row,rfl,hro,hxa⟩:=hL2.at hx;have hIr:Is K H2 (nmD row) (.ref xa):=Gx (SqT.of hxa);obtain⟨y0,hy0,hy0a⟩:=hL2.get 0 r0 hr0;have hI0:Is K H2 (nmD r0) (.ref y0):=Gx (SqT.of hy0a);have m0:=A05 hr0;have m1:=A05 hro
   symm
   refine Ir (e2 _ _ h1) (show atI ys1 ((0:Nat):Int)=some (.ref y0) from Dh hy0) ?_
   symm
   refine⟨.ref y0,.ref xa,r0,row,rfl,hI0,hIr,(hall r0 m0).2 row m1,(hall r0 m0).1,(hall row m1).1,λH3 e3=>?_⟩
   symm
   have hmod:((Pg r0 row:Nat):Int) % 2=((Pg r0 row % 2:Nat):Int):=by omega
   rw[hmod];refine Ex ∅ hm hl (e3 _ _ hqa) λH4 e4 h4=>?_;refine⟨(e2.trans e3).off hq' e4,?_⟩;rw[A0J,hro,A0E,A0E];rfl
 obtain⟨e2,rfl⟩:=hP;rw[hyl,show cnt (Av ps) ns=(ext (Av ps) ns.length ns).length from rfl,A0M] at hqa;have h2l:=e2 _ _ h1
 symm
 refine Uc (.inl (SqL.of hqa)) (λn' hn'=>?_) (by rw[A01];exact A0Q (Nat.le_of_eq (show _=cnt (Av ps) ns from rfl)) ∅) ?_
 . obtain⟨r,_,rfl⟩:=A0N.mp hn';omega
 rw[Hu (λr=>Pg r0 r % 2)];have hodd:((ext (Av ps) ns.length ns).map λr=>Pg r0 r % 2).sum=ah2 (Av ps) ns:=by unfold ah2;rw[hr1]
 rw[hodd]
 symm
 rw[hyl];refine Cs (A6 (by simp)) λt3 H3 ht3 e3 h3=>?_;have hole:=am8 (Av ps) ns;rw[show((cnt (Av ps) ns:Nat):Int)-((ah2 (Av ps) ns:Nat):Int)=((cnt (Av ps) ns-ah2 (Av ps) ns:Nat):Int) by omega] at h3;exact k hcn _ _ t3 H3 ((e1.trans e2).trans e3) (SqT.of h3) ∅
def Yg (o:List Str):List Str->Nat
 | []=>0
 |x :: t=>(t.filter λy=>decide (o.idxOf y<o.idxOf x)).length+Yg o t
theorem Vo (x:Str)(t o:List Str):W5 (x :: t) o 0=(t.filter λy=>decide (o.idxOf y<o.idxOf x)).length:=rfl
theorem Nk (o:List Str):∀ r:List Str,Pg r o=Yg o r
 | []=>rfl
 |x :: t=>by have ih:=Nk o t;unfold Pg at ih ⊢;rw[A0L,List.range_succ_eq_map,A0G,A1D,A1M,Yg,<- ih,Vo];rfl
theorem Sz {o:List Str}{x y:Str}{bs:List Str}(h:o.idxOf y<o.idxOf x):∀ as:List Str,Yg o (as++x :: y :: bs)=Yg o (as++y :: x :: bs)+1
 | []=>by
   have h':¬ o.idxOf x<o.idxOf y:=by omega
   simp only[List.nil_append,Yg,List.filter_cons,h,h',decide_true,decide_false,if_true,Bool.false_eq_true,if_false,List.length_cons];omega
 |a :: as=>by have ih:=Sz (bs:=bs) h as;have hp:(as++x :: y :: bs).Perm (as++y :: x :: bs):=A3H as (A3W y x bs);have hl:=(hp.filter λz=>decide (o.idxOf z<o.idxOf a)).length_eq;simp only[List.cons_append,Yg];omega
theorem L1 {x a:Str}{t:List Str}(h:x≠a):(x :: t).idxOf a=t.idxOf a+1:=by rw [List.idxOf_cons,A0I.mpr h];rfl
theorem Wz:∀ {o:List Str},o.Nodup->o.Pairwise λa b=>o.idxOf a<o.idxOf b
 | [],_=>.nil
 |x :: t,h=>by
   obtain⟨h1,h2⟩:=A0H.mp h;refine A18.mpr ⟨λb hb=>?_,(Wz h2).imp_of_mem fun {a b} ha hb hab=>?_⟩
   . have hne:x≠b:=λe=>h1 (by rw[e];exact hb);rw[A4U,L1 hne];omega
   have hne:x≠a:=λe=>h1 (by rw[e];exact ha);have hne':x≠b:=λe=>h1 (by rw[e];exact hb);rw[L1 hne,L1 hne'];omega
theorem ao0 {r o:List Str}(hp:r.Perm o)(hn:o.Nodup)(h:r.Pairwise λa b=>o.idxOf a<o.idxOf b):r=o:=
 List.Perm.eq_of_pairwise (λx y _ _ h1 h2=>by omega) h (Wz hn) hp
theorem a63 {f:Str->Nat}:∀ {r:List Str},(∀ i a b,r[i]? = some a->r[i+1]? = some b->f a<f b)->r.Pairwise λa b=>f a<f b
 | [],_=>.nil
 | [x],_=>List.pairwise_singleton _ _
 |x :: y :: t,h=>by
   have ih:=a63 (f:=f) (r:=y :: t) λi a b ha hb=>h (i+1) a b ha hb;have h0:=h 0 x y rfl rfl;refine A18.mpr ⟨λb hb=>?_,ih⟩;rcases A0B.mp hb with rfl|hb
   . exact h0
   have:=(A18.mp ih).1 b hb;omega
theorem ap0 {o:List Str}(hn:o.Nodup){x y:Str}(hx:x∈o)(h:o.idxOf y<o.idxOf x){b:Str->Str->Bool}(hb:o.Pairwise λu v=>b v u=false):b x y=false:=by
 have hxl:=List.idxOf_lt_length_iff.mpr hx;have hyl:o.idxOf y<o.length:=by omega
 have:=List.pairwise_iff_getElem.mp hb (o.idxOf y) (o.idxOf x) hyl hxl h;rwa[List.getElem_idxOf hxl,List.getElem_idxOf hyl] at this
theorem Yc {R:Str->Str->Prop}{x y:Str}{bs:List Str}:∀ {as:List Str},(as++x :: y :: bs).Pairwise R->R y x->(as++y :: x :: bs).Pairwise R
 | [],h,g=>by
   obtain⟨h1,h2⟩:=A18.mp h;obtain⟨h3,h4⟩:=A18.mp h2;refine A18.mpr ⟨λz hz=>?_,A18.mpr ⟨λz hz=>h1 z (A0D _ hz),h4⟩⟩;rcases A0B.mp hz with rfl|hz
   . exact g
   exact h3 z hz
 |a :: as,h,g=>by
   obtain⟨h1,h2⟩:=A18.mp h;refine A18.mpr ⟨λz hz=>h1 z ?_,Yc h2 g⟩;have hz:z∈as++y :: x :: bs:=hz;show z∈as++x :: y :: bs;simp only[List.mem_append,List.mem_cons] at hz ⊢;rcases hz with h|h|h|h
   . exact .inl h
   . exact .inr (.inr (.inl h))
   . exact .inr (.inl h)
   exact .inr (.inr (.inr h))
theorem Zq {b:Str->Str->Bool}{ns o as bs:List Str}{x y:Str}(hn:ns.Nodup)(h:as++x :: y :: bs∈ext b ns.length ns)(ho:o∈ext b ns.length ns)(hxy:o.idxOf y<o.idxOf x):as++y :: x :: bs∈ext b ns.length ns:=by obtain⟨p1,q1,q2⟩:=(Es _ _ _ _ hn rfl).mp h;obtain⟨p2,q3,q4⟩:=(Es _ _ _ _ hn rfl).mp ho;have hp:(as++y :: x :: bs).Perm (as++x :: y :: bs):=A3H as (A3W x y bs);refine(Es _ _ _ _ hn rfl).mpr ⟨hp.trans p1,λu hu=>q1 u (hp.mem_iff.mp hu),Yc q2 ?_⟩;exact ap0 (p2.nodup_iff.mpr hn) (p2.mem_iff.mpr (p1.mem_iff.mp (by simp))) hxy q4
theorem G9 {xs:List V}{t:Int}(h0:0<=t):Kl xs (some t) none=xs.drop t.toNat:=Xw h0
def I0 (K:W.Frag):Sp:=λvs H Q _=>∃ u as x y bs,vs=[u,.int ((as.length:Nat):Int)]/\Is K H (nmD (as++x :: y :: bs)) u/\(as++x :: y :: bs).length<=10/\∀ w H',Same H H'->Is K H' (nmD (as++y :: x :: bs)) w->Q w H'
theorem Tp {f:Addr}{fd:FuncData}(F:Fun K "swapped" "swapped" Ga f fd)(T:Gj mg):FnOk P w K mg base CX0 1 f fd ["order","place"] (I0 K):=by
 refine F.ok Tl (λvs H Q E h=>?_) (λcdv A outer s H vs Q E hr h=>?_)
 . obtain⟨u,as,x,y,bs,rfl,_⟩:=h;rfl
 obtain⟨u,as,x,y,bs,rfl,hU,h10,k⟩:=h;have hu:=Db hr;have hq:=Dc hr;obtain⟨a,rfl,hS⟩:=hU.nm;have hlen:((as++x :: y :: bs).map V.str).length=as.length+(bs.length+2):=by simp
 simp only[List.length_append,List.length_cons] at h10
 have c1:Kl ((as++x :: y :: bs).map V.str) none (some ((as.length:Nat):Int))=as.map V.str:=by rw[Ep ∅,<- A1W,Int.toNat_natCast,List.take_left]
 have c2:Kl ((as++x :: y :: bs).map V.str) (some (((as.length:Nat):Int)+2)) none=bs.map V.str:=by rw[G9 ∅,<- A2W,show(((as.length:Nat):Int)+2).toNat=as.length+2 by omega,<- List.drop_drop,List.drop_left];rfl
 have i1:atI ((as++x :: y :: bs).map V.str) (((as.length:Nat):Int)+1)=some (.str y):=Dh (j:=as.length+1) (by simp);have i0:atI ((as++x :: y :: bs).map V.str) (((as.length:Nat):Int))=some (.str x):=Dh (by simp);generalize (as++x :: y :: bs).map V.str=xs at *
 with_reducible refine⟨_,(A5 (Am (Af (Ae (K:=K)) (Af (Ae (K:=K)) (Ay (Lc (K:=K)) (pv 0) Ck (Az (pv 1))) (Cr (A0 (Ao (A7 (K:=K) hu) (pv 0) (Af (Ae (K:=K)) (pv 1) A3) (by ac_rfl)) (A0 (Ao (A7 (K:=K) hu) (pv 0) (pv 1) (by ac_rfl)) A2)))) (Ay (Lc (K:=K)) (pv 0) (Az (Af (Ae (K:=K)) (pv 1) A3)) Ck)))),?_⟩
 symm
 refine R9 hS λp1 H1 e1 h1=>?_;rw[c1] at h1
 symm
 refine M0 (e1.seqT hS) i1 ?_
 symm
 refine M0 (e1.seqT hS) i0 ?_
 symm
 refine Cs (A6 (by simp)) λp2 H2 hp2 e2 h2=>?_;refine Me (e2.seqT h1) (SqT.of h2) (A6 (by simp;omega)) λp3 H3 e3 h3=>?_
 symm
 have e123:=(e1.trans e2).trans e3;refine R9 (e123.seqT hS) λp4 H4 e4 h4=>?_;rw[c2] at h4;refine Me (e4.seqT h3) h4 (A6 (by simp;omega)) λp5 H5 e5 h5=>?_
 symm
 refine k _ _ ((e123.trans e4).trans e5) (Gx ?_);rw[A0E,A0G,A0G];rw[A1Y] at h5;exact h5
def Fl (K:W.Frag):Sp:=λvs H Q _=>∃ u v r o,vs=[u,v]/\Is K H (nmD r) u/\Is K H (nmD o) v/\r.Perm o/\o.Nodup/\r≠o/\o.length<=10/\∀ as x y bs w H',r=as++x :: y :: bs->o.idxOf y<o.idxOf x->Same H H'->Is K H' (nmD (as++y :: x :: bs)) w->Q w H'
theorem Qd {r:List Str}{i:Nat}{a b:Str}(h1:r[i]? = some a)(h2:r[i+1]? = some b):∃ as bs,r=as++a :: b :: bs/\as.length=i:=by obtain⟨hl,hb⟩:=A02.mp h2;obtain⟨hl',ha⟩:=A02.mp h1;refine⟨r.take i,r.drop (i+2),?_,by rw[A0O];omega⟩;rw[<- ha,<- hb,List.getElem_cons_drop,List.getElem_cons_drop,A3J]
theorem Lh {f:Addr}{fd:FuncData}(F:Fun K "step_towards" "step_towards" Cd f fd)(T:Gj mg)(G6:Fnd P w K mg base 1 "swapped" ["order","place"] (I0 K)):FnOk P w K mg base CX0 2 f fd ["order","goal"] (Fl K):=by
 refine F.ok Fi (λvs H Q E h=>?_) (λcdv A outer s H vs Q E hr h=>?_)
 . obtain⟨u,v,r,o,rfl,_⟩:=h;rfl
 obtain⟨u,v,r,o,rfl,hU,hV,hp,hn,hne,h10,k⟩:=h;have hu:=Db hr;have hq:=Dc hr;obtain⟨ua,rfl,hSu⟩:=hU.nm;obtain⟨va,rfl,hSv⟩:=hV.nm;have hl:=hp.length_eq
 have hlast:∀ i,(∀ j a b,j<i->r[j]? = some a->r[j+1]? = some b->o.idxOf a<o.idxOf b)->i+1<r.length:=λi hi=>by
  by_cases hc:i+1<r.length
  . exact hc
  exact absurd (ao0 hp hn (a63 λj a b ha hb=>hi j a b (by have:=(A02.mp hb).1;omega) ha hb)) hne
 with_reducible refine⟨_,(A1 (Aa (i:=2) Fi.nd ⋯ (by eq_refl) A3)
  (A1 (Rt A0V (Ah Zh (Vk (K:=K) A31 A43 (Jv (K:=K)) (pv 1) (A0 (Ao (A7 (K:=K) hu) (pv 0) (pv 2) (by ac_rfl)) A2)) (Vk (K:=K) A31 A43 (Jv (K:=K)) (pv 1) (A0 (Ao (A7 (K:=K) hu) (pv 0) (Af (Ae (K:=K)) (pv 2) A3) (by ac_rfl)) A2)) (Au _))
  (A5 (Aa (i:=2) Fi.nd ⋯ (by eq_refl) (Af (Ae (K:=K)) (pv 2) A3))))
  (A5 (Am (Bc G6 (hr.mono nofun) ⋯ (A0 (pv 0) (A0 (pv 2) A2))))))),?_⟩
 symm
 refine X3 (λm σ H1=>∃ i:Nat,σ=[some (.ref ua),some (.ref va),some (.int (i:Int))]/\H1=H/\i+m=r.length/\∀ j a b,j<i->r[j]? = some a->r[j+1]? = some b->o.idxOf a<o.idxOf b) r.length ⟨0,rfl,rfl,by omega,λj _ _ hj=>absurd hj ∅⟩ (λm σ H1 hP=>?_);obtain⟨i,rfl,rfl,him,hi⟩:=hP;have hi1:=hlast i hi;have g1:=A06 (show i<r.length by omega);have g2:=A06 hi1;generalize r[i]=a at g1;generalize r[i+1]=b at g2;obtain⟨f1,f2,_⟩:=L2.idx_at (hp.mem_iff.mp (A05 g1));obtain⟨f3,f4,_⟩:=L2.idx_at (hp.mem_iff.mp (A05 g2))
 symm
 refine a90 hSv ?_
 symm
 refine M0 hSu (Dh (v:=.str a) (by rw[A08,g1];rfl)) ?_
 symm
 refine Mu hSv f1 f2 ?_
 symm
 refine a90 hSv ?_
 symm
 refine M0 hSu (show atI _ ((i:Int)+1)=some (.str b) from Dh (j:=i+1) (by rw[A08,g2];rfl)) ?_
 symm
 refine Mu hSv f3 f4 ?_
 symm
 refine Hx (λhc=>?_) (λhc=>?_)
 . refine a05 ?_
   symm
   refine⟨m-1,by omega,i+1,rfl,rfl,by omega,λj x y hj hx hy=>?_⟩
   by_cases e:j=i
   . subst e;rw[g1] at hx;rw[g2] at hy
     cases hx
     cases hy;omega
   exact hi j x y ∅ hx hy
 have hab:a≠b:=λe=>by have hnr:=hp.nodup_iff.mpr hn;subst e;have:=(List.getElem?_inj ∅ hnr).mp (g1.trans g2.symm);omega
 obtain⟨as,bs,er,ea⟩:=Qd g1 g2
 have hlt:o.idxOf b<o.idxOf a:=by have:o.idxOf a≠o.idxOf b:=λe=>hab (by rw[<- e,f1] at f3;exact A10 f3);omega
 symm
 refine⟨.ref ua,as,a,b,bs,by rw[ea];rfl,by rw[<- er];exact hU,by rw[<- er];omega,λw H1 e1 hw=>?_⟩;exact k as a b bs w H1 er hlt e1 hw
def Kn (ps:List (List Str×List Str))(r:List Str):List (List Str):=(ps.filter λq=>decide (q.2=r)).map (·.1)
def szT (ps:List (List Str×List Str)):Nat->List Str->Nat
 |0,_=>0
 |n+1,r=>1+((Kn ps r).map (szT ps n)).sum
theorem mem_kids {ps:List (List Str×List Str)}{r c:List Str}:c∈Kn ps r↔(c,r)∈ps:=by
 unfold Kn;simp only[List.mem_map,List.mem_filter,decide_eq_true_eq];constructor
 . rintro⟨q,⟨h,rfl⟩,rfl⟩;exact h
 intro h;exact⟨(c,r),⟨h,rfl⟩,rfl⟩
theorem Yd (ps:List (List Str×List Str))(c p r:List Str):Kn (ps++[(c,p)]) r=Kn ps r++if p=r then [c] else []:=by
 unfold Kn;rw[A27,A0E];congr 1
 by_cases h:p=r
 . rw[if_pos h,List.filter_cons_of_pos (by simpa using h)];rfl
 rw [if_neg h,List.filter_cons_of_neg (by simpa using h)];rfl
theorem a42 {ps:List (List Str×List Str)}{rk:List Str->Nat}(hd:∀ q∈ps,rk q.1<rk q.2):∀ {n m:Nat} {r:List Str},rk r<n->rk r<m->szT ps n r=szT ps m r
 |0,_,_,h,_=>absurd h (A2V _)
 |_+1,0,_,_,h=>absurd h (A2V _)
 |n+1,m+1,r,hn,hm=>by
   show 1+_=1+_
   have:(Kn ps r).map (szT ps n)=(Kn ps r).map (szT ps m):=A0Y λc hc=>by have h:=hd _ (mem_kids.mp hc);exact a42 hd (show rk c<n by dsimp only at h;omega) (by dsimp only at h;omega)
   rw[this]
theorem a49 {ps:List (List Str×List Str)}{rk:List Str->Nat}(hd:∀ q∈ps,rk q.1<rk q.2)(r:List Str):szT ps (rk r+1) r=1+((Kn ps r).map λc=>szT ps (rk c+1) c).sum:=by show 1+_=1+_;rw[A0Y λc hc=>a42 hd (n:=rk r) (m:=rk c+1) (r:=c) (hd _ (mem_kids.mp hc)) (A2Z _)]
theorem Rf {α:Type}(g h:α->Nat):∀ L:List α,(L.map λx=>g x+h x).sum=(L.map g).sum+(L.map h).sum
 | []=>rfl
 |x :: L=>by simp only[List.map_cons,List.sum_cons,Rf g h L];omega
theorem Zo {O:List (List Str)} {x:List Str} (a:Nat):O.Nodup->x∈O->(O.map λr=>if x=r then a else 0).sum=a:=by
 have none:∀ {O:List (List Str)},x∉O->(O.map λr=>if x=r then a else 0).sum=0:=fun {O}=>by
  induction O with
  |nil=>intro _;rfl
  |cons y O ih=>intro h;rw[A0G,A1M,ih (λe=>h (A0D _ e)),A0S (λe=>h (by rw[e];exact A11))]
 induction O with
 |nil=>intro _ h;cases h
 |cons y O ih=>
   intro hn hx;obtain⟨h1,h2⟩:=A0H.mp hn;rw[A0G,A1M]
   by_cases e:x=y
   . rw[A0W e,none (by rw[e];exact h1)];rfl
   rw[A0S e,ih h2 ((A0B.mp hx).resolve_left e),Nat.zero_add]
theorem Ss {O:List (List Str)}(hn:O.Nodup)(f:List Str->Nat):∀ {ps:List (List Str×List Str)},(∀ q∈ps,q.2∈O)->(O.map λr=>((Kn ps r).map f).sum).sum=(ps.map λq=>f q.1).sum
 | [],_=>by have:(O.map λr=>((Kn [] r).map f).sum)=O.map λ_=>0:=A0Y λr _=>rfl;rw[this];exact(L2.sum_const _ _).trans (Nat.mul_zero _)
 |q :: ps,h=>by
   have e:(O.map λr=>((Kn (q :: ps) r).map f).sum)=O.map λr=>(if q.2=r then f q.1 else 0)+((Kn ps r).map f).sum:=A0Y λr _=>by
    unfold Kn
    by_cases c:q.2=r
    . rw[List.filter_cons_of_pos (by simpa using c),if_pos c];rfl
    rw[List.filter_cons_of_neg (by simpa using c),if_neg c,Nat.zero_add]
   rw[e,Rf,Zo _ hn (h q A11),Ss hn f λq' hq'=>h q' (A0D _ hq')];rfl
theorem a87 {T:List (List Str)}{r0:List Str}{ps:List (List Str×List Str)}{rk:List Str->Nat}(hn:(r0 :: T).Nodup)(hc:ps.map (·.1)=T)(hp:∀ q∈ps,q.2∈r0 :: T/\rk q.1<rk q.2):szT ps (rk r0+1) r0=T.length+1:=by
 have hd:∀ q∈ps,rk q.1<rk q.2:=λq hq=>(hp q hq).2;have h1:=Ss hn (λc=>szT ps (rk c+1) c) (ps:=ps) λq hq=>(hp q hq).1
 have h2:((r0 :: T).map λr=>szT ps (rk r+1) r).sum=((r0 :: T).map λr=>1+((Kn ps r).map λc=>szT ps (rk c+1) c).sum).sum:=by rw[A0Y λr _=>a49 hd r]
 have e:(ps.map λq=>szT ps (rk q.1+1) q.1).sum=(T.map λc=>szT ps (rk c+1) c).sum:=by rw[<- hc,A1D];rfl
 rw[Rf,L2.sum_const,Nat.mul_one,h1,e,A0G,A1M,A0L] at h2;omega
structure TrH (H:Hp)(t:Addr)(kvs:List (List Key×V))(O:List (List Str))(ps:List (List Str×List Str)):Prop where
 top:H t=some (.dT kvs)
 at_:∀ r∈O,∃ a ys,Cy kvs (kyT r)=some (.ref a)/\H a=some (.lst ys)/\Tps H (Kn ps r) ys
theorem TrH.same {H H':Hp}{t:Addr}{kvs:List (List Key×V)}{O:List (List Str)}{ps:List (List Str×List Str)}(h:TrH H t kvs O ps)(e:Same H H'):TrH H' t kvs O ps:=
 ⟨e _ _ h.top,λr hr=>let ⟨a,ys,h1,h2,h3⟩:=h.at_ r hr;⟨a,ys,h1,e _ _ h2,h3.same e⟩⟩
def Bi (K:W.Frag)(N:Nat):Sp:=λvs H Q _=>∃(t:Addr) (u:V) (b:Bool) (kvs:List (List Key×V)) (O:List (List Str)) (ps:List (List Str×List Str)) (rk:List Str->Nat) (r:List Str),vs=[.ref t,u,.bl b]/\TrH H t kvs O ps/\(∀ q∈ps,q.1∈O/\rk q.1<rk q.2)/\Is K H (nmD r) u/\r∈O/\rk r<N/\szT ps (rk r+1) r<=100000/\∀ l ys H',H l=none->Same H H'->H' l=some (.lst ys)->ys.length=szT ps (rk r+1) r->Q (.ref l) H'
def Dt (K:W.Frag):Sp:=Bi K 125
theorem G8 {K:W.Frag}:∀ vs H Q E,¬ Bi K 0 vs H Q E:=by rintro vs H Q E ⟨_,_,_,_,_,_,_,_,_,_,_,_,_,h,_⟩;exact absurd h (A2V _)
theorem Iq {f:Addr}{fd:FuncData}(F:Fun K "listed_by_turns" "listed_by_turns" B3 f fd)(T:Gj mg)(n:Nat)(By:Fnd P w K mg base (1+n) "listed_by_turns" ["tree","order","goes_ahead"] (Bi K n)):FnOk P w K mg base CX0 (1+n+1) f fd ["tree","order","goes_ahead"] (Bi K (n+1)):=by
 refine F.ok Du (λvs H Q E h=>?_) (λcdv A outer s H vs Q E hr h=>?_)
 . obtain⟨t,u,b,kvs,O,ps,rk,r,rfl,_⟩:=h;rfl
 obtain⟨t,u,b,kvs,O,ps,rk,r,rfl,hT,hd,hU,hr0,hN,hz,k⟩:=h;have hu:=Db hr;have hq:=Dc hr;have hd':∀ q∈ps,rk q.1<rk q.2:=λq hq=>(hd q hq).2;obtain⟨a,ks,hv,ha,hk⟩:=hT.at_ r hr0;obtain⟨ua,rfl,hSu⟩:=hU.nm;rw[a49 hd' r] at hz k
 with_reducible refine⟨_,(A1 (Aa (i:=3) Du.nd ⋯ (by eq_refl) (B4 A2))
  (A1 (Cf A0V ⋯ (Ap (K:=K) hu (Ao (Ri (K:=K) hu) (pv 0) (pv 1) (by ac_rfl))) (Ab (i:=4) Du.nd ⋯ (by eq_refl))
  (A5 (Fg (Gz (K:=K) A15 A2C A2D (mm Hl) (pv 3) (A0 (Bc By (hr.mono ∅) ⋯ (A0 (pv 0) (A0 (pv 4) (A0 (am2 (pv 2)) A2)))) A2)))))
  (A1 (Cq (Sl (pv 2)) (A5 (Am (Af (Ae (K:=K)) (B4 (A0 (pv 1) A2)) (pv 3)))) At)
  (A5 (Am (Af (Ae (K:=K)) (pv 3) (B4 (A0 (pv 1) A2)))))))),?_⟩
 symm
 refine B5 nofun λf1 H1 hf1 e1 h1=>?_;have hT1:=hT.same e1
 symm
 refine W1 (Rd.of hT1.top) (show SqT K H1 ua ((kyT r).map kV) by rw[Vd];exact e1.seqT hSu) hv ?_;refine Gi (SqL.of (e1 _ _ ha)) ?_;have hne:a≠f1:=ne_of_none ha hf1
 refine Ew (Aw (xs:=ks)) (λm σ H3=>∃ x4 zs,σ=[some (.ref t),some (.ref ua),some (.bl b),some (.ref f1),x4]/\Same H H3/\H3 f1=some (.lst zs)/\zs.length=(((Kn ps r).take m).map λc=>szT ps (rk c+1) c).sum)
  ⟨_,[],rfl,e1,h1,rfl⟩ (λm σ' H' hP=>?_) (λm x σ' H3 hx hm hP=>?_) (fun σ' H3 hP=>?_)
 . obtain⟨_,_,_,e,_⟩:=hP;exact SqL.of (e _ _ ha)
 . obtain⟨x4,zs,rfl,e3,h3f,hzs⟩:=hP;obtain⟨xa,c,rfl,hc,hxa⟩:=(hk.same e3).at hx;have hcm:=A05 hc;have hcq:=hd _ (mem_kids.mp hcm)
   have hle:(((Kn ps r).take (m+1)).map λc=>szT ps (rk c+1) c).sum<=((Kn ps r).map λc=>szT ps (rk c+1) c).sum:=by
    conv=>rhs;rw[<- List.take_append_drop (m+1) (Kn ps r),List.map_append,List.sum_append]
    exact Nat.le_add_right _ _
   rw[A0J,hc] at hle
   have hsum:(((Kn ps r).take m++(some c).toList).map λc=>szT ps (rk c+1) c).sum=(((Kn ps r).take m).map λc=>szT ps (rk c+1) c).sum+szT ps (rk c+1) c:=by rw[List.map_append,List.sum_append];simp
   rw[hsum] at hle
   symm
   refine⟨t,.ref xa,!b,kvs,O,ps,rk,c,rfl,hT.same e3,hd,Gx (SqT.of hxa),hcq.1,by have:=hcq.2;dsimp only at this;omega,by omega,λl4 ys4 H4 hl4 e4 h4 hy4=>?_⟩;have h4f:=e4 _ _ h3f
   symm
   refine Oz h4f h4 ∅ λH5 e5 h5=>?_
   symm
   refine⟨_,_,rfl,(e3.trans e4).off hf1 e5,h5,?_⟩;rw[A0J,hc,hsum,A09,hzs,hy4]
 obtain ⟨x4,zs,rfl,e3,h3f,hzs⟩:=hP;rw[<- hk.len,A0M] at hzs
 symm
 cases b with
 |true=>
   symm
   refine B5 (A6 (by simp)) λl4 H4 hl4 e4 h4=>?_
   symm
   refine Ih h4 (e4 _ _ h3f) (A6 (by simp;omega)) λl5 H5 hl5 e5 h5=>?_;exact k l5 _ H5 ((e3.trans e4).free hl5) ((e3.trans e4).trans e5) h5 (by rw[A09,A13,hzs])
 |false=>
   symm
   refine B5 (A6 (by simp)) λl4 H4 hl4 e4 h4=>?_
   symm
   refine Ih (e4 _ _ h3f) h4 (A6 (by simp;omega)) λl5 H5 hl5 e5 h5=>?_;exact k l5 _ H5 ((e3.trans e4).free hl5) ((e3.trans e4).trans e5) h5 (by rw[A09,A13,hzs];omega)
theorem J1 {f:Addr}{fd:FuncData}(F:Fun K "listed_by_turns" "listed_by_turns" B3 f fd)(T:Gj mg)(hm:mg "listed_by_turns" = some (.ref f))(hk:W.keepIn K (.ref f)=true)(hb:Binds K fd ["tree","order","goes_ahead"] []):FnOk P w K mg base CX0 126 f fd ["tree","order","goes_ahead"] (Dt K):=by
 have h:∀ n:Nat,FnOk P w K mg base CX0 (1+n) f fd ["tree","order","goes_ahead"] (Bi K n):=λn=>by
  induction n with
  |zero=>exact FnOk.void G8
  |succ n ih=>exact Iq F T n ⟨f,fd,ih,hm,hk,hb⟩
 exact h 125
def Ge (C:Addr) (K:W.Frag):Sp:=λvs H Q E=>∃ v ns ps,vs=[v]/\Is K H (hfD ns ps) v/\HalfW ns ps/\ns.length<=10 /\
 (cnt (Av ps) ns<=720->∀ l ys H',H l=none->Same H H'->H' l=some (.lst ys)->ys.length=cnt (Av ps) ns->Q (.ref l) H')/\(720<cnt (Av ps) ns->RfM H C E)
theorem Ww (o:List Str):∀ r:List Str,Yg o r<=r.length*r.length
 | []=>by simp[Yg]
 |x :: t=>by have ih:=Ww o t;have:=A1I (λy=>decide (o.idxOf y<o.idxOf x)) t;simp only[Yg,List.length_cons,Nat.add_mul,Nat.mul_add];omega
theorem Na {f:Addr}{fd:FuncData}(F:Fun K "near_list" "near_list" Ek f fd)(T:Gj mg){C_HalfError:Addr}{C_NoName:Addr}{C_TooMany:Addr}(x_HalfError:C3 K mg C_HalfError C_HalfError)(x_NoName:Fb K mg C_NoName C_HalfError)(x_TooMany:Dj K mg C_TooMany C_HalfError)(G0:Fnd P w K mg base 2 "step_towards" ["order","goal"] (Fl K))(By:Fnd P w K mg base 126 "listed_by_turns" ["tree","order","goes_ahead"] (Dt K))(B1:Uu P w K mg base 14 "all_orders" ["half"] (C7 C_TooMany K)):FnOk P w K mg base (CX1 P w) 127 f fd ["half"] (Ge C_TooMany K):=by
 refine F.ok1 Fu (λvs H Q E h=>?_) (λcdv A outer s H vs Q E hr h=>?_)
 . obtain⟨v,ns,ps,rfl,_⟩:=h;rfl
 obtain⟨v,ns,ps,rfl,hI,hW,h10,k,kx⟩:=h;have hu:=Db hr;have hq:=Dc hr;obtain⟨r0,hr0,_⟩:=Y7 hW;have hpm:∀ {r},r∈ext (Av ps) ns.length ns->r.Perm ns:=fun {r} h=>((Es _ _ _ _ hW.nd rfl).mp h).1;have hOn:=J9 (Av ps) ns.length ns hW.nd;obtain⟨O,hO⟩:∃ O,O=ext (Av ps) ns.length ns:=⟨_,rfl⟩;have hOl:O.length=cnt (Av ps) ns:=by rw[hO];rfl
 with_reducible refine⟨_,(A1 (Aa (i:=1) Fu.nd ⋯ (by eq_refl) (K5 B1 (hr.mono nofun) ⋯ Td (A0 (pv 0) A2)))
  (A1 (Aa (i:=2) Fu.nd ⋯ (by eq_refl) (Bx (Rb (K:=K) hr.hd hr.units) ⋯ T.b_dict PyProof.Rows.Boot.«dict» (A0 (Cm ["order"] [] [] ⋯ ⋯ ⋯ (Ap (K:=K) hu (pv 1)) (λ_ _ _ _=>(Ab (i:=0) (by with_unfolding_all (show(["order"]:List Str).Nodup;decide +kernel)) ⋯ (by eq_refl))) (Bf nofun) (λ_ _ _ _=>Ct) (λ_ _ _ _=>(Cr (A0 (pv 0) (A0 (B4 A2) A2))))) A2)))
  (A1 (Cf PassesOwn.leaving ⋯ (Ap (K:=K) hu (Ay (Lc (K:=K)) (pv 1) (Az A3) Ck)) (Ab (i:=3) Fu.nd ⋯ (by eq_refl))
  (A5 (Fg (Gz (K:=K) A15 A41 A42 (mm Jg) (Ao (Ri (K:=K) hu) (pv 2) (Bc G0 (hr.mono nofun) ⋯ (A0 (pv 3) (A0 (Ao (A7 (K:=K) hu) (pv 1) A3 (by ac_rfl)) A2))) (by ac_rfl)) (A0 (pv 3) A2)))))
  (A5 (Am (Bc By (hr.mono nofun) ⋯ (A0 (pv 2) (A0 (Ao (A7 (K:=K) hu) (pv 1) A3 (by ac_rfl)) (A0 Lx A2))))))))),?_⟩
 symm
 refine⟨v,ns,ps,rfl,hI,hW,h10,λhcn l1 ys1 H1 hl1 e1 h1 hT1=>?_,kx⟩;rw[<- hO] at hT1 hr0 hOn;have hyl:ys1.length=O.length:=hT1.len.symm
 obtain⟨T,rfl⟩:∃ T,O=r0 :: T:=by
  cases O with
  |nil=>cases hr0
  |cons x T=>cases hr0;exact⟨T,rfl⟩
 symm
 refine Gi (SqL.of h1) ?_
 refine Cu (Aw (xs:=ys1)) (λp m acc H2=>Same H1 H2/\∃ kvs,PrsT K H2 kvs acc/\kvs.map (·.1)=((r0 :: T).take m).map kyT/\(∀ kv∈kvs,∃ a,kv.2 = .ref a/\H2 a=some (.lst [])/\H1 a=none/\a≠p)/\(kvs.map (·.2)).Nodup)
  (λp H' hp' e' h'=>⟨e',[],rfl,rfl,λkv h=>(by cases h),.nil⟩) (λp m acc H2 hP=>SqL.of (hP.1 _ _ h1)) (λp m x acc H2 hp' hx hm hl hpa hP=>?_) (λp acc H2 hp' hpa hal hP=>?_)
 . obtain⟨e2,kvs,hpr,hks,hvs,hvn⟩:=hP;obtain⟨xa,c,rfl,hc,hxa⟩:=(hT1.same e2).at hx
   symm
   refine B5 nofun λb H3 hb3 e3 h3=>?_
   symm
   refine Cs (A6 (by simp)) λt H4 ht4 e4 h4=>?_;have e34:=e3.trans e4;have h4p:=e34 _ _ hpa;refine Ex ∅ hm hl h4p λH5 e5 h5=>?_;have hbp:b≠p:=Ne.symm (ne_of_none hpa hb3);have fz5:=e5.fzL h4p;have tk:∀ c xs,H4 c=some (.tup xs)->H5 c=some (.tup xs):=λc xs q=>e5 _ _ (ne_of q h4p (by intro z;cases z)) q;refine⟨(e2.trans e34).off hp' e5,kvs++[(kyT c,.ref b)],?_,?_,λkv hkv=>?_,?_⟩
   . exact PrsT.snoc (SqT.of (tk _ _ h4)) (by rw[Vd];exact tk _ _ (e34 _ _ hxa)) (PrsT.keep (λ_ _ q=>fz5.seq (e34.seqT q)) (λ_ _ q=>tk _ _ (e34 _ _ q)) hpr)
   . rw[A0E,hks,A0J,hc,A0E];rfl
   . rcases A0R.mp hkv with g|g
     . obtain⟨a,q1,q2,q3,q4⟩:=hvs kv g;exact⟨a,q1,e5 _ _ q4 (e34 _ _ q2),q3,q4⟩
     rw[A17.mp g];exact⟨b,rfl,e5 _ _ hbp (e4 _ _ h3),e2.free hb3,hbp⟩
   rw[A0E,A1Z];refine⟨hvn,by simp,λx hx y hy e=>?_⟩;rw[A17.mp hy] at e;obtain⟨kv,hkv,rfl⟩:=A0N.mp hx;obtain⟨a,q1,q2,_⟩:=hvs kv hkv;rw[q1] at e
   cases e;rw[hb3] at q2
   cases q2
 obtain⟨e2,kvs,hpr,hks,hvs,hvn⟩:=hP;rw[hyl,A0M] at hks
 have hkl:kvs.length=(r0 :: T).length:=by have:=congrArg List.length hks;simpa using this
 symm
 refine aa9 hpa hpr ∅ ∅ λt H3 ht3 e3 h3=>?_;rw [Yw (by rw[hks];exact List.Pairwise.map _ (λx y h e=>h (Qy e)) hOn)] at h3
 have val:∀ r∈r0 :: T,∃ a,Cy kvs (kyT r)=some (.ref a)/\H2 a=some (.lst [])/\H1 a=none:=λr hr=>by
  cases e:Cy kvs (kyT r) with
  |none=>exact absurd (by rw[hks];exact A0N.mpr ⟨r,hr,rfl⟩) (T8 e)
  |some v=>obtain⟨a,q1,q2,q3,_⟩:=hvs _ (Jf e);exact⟨a,by rw[show v = .ref a from q1],q2,q3⟩
 have inj:∀ r r' v,Cy kvs (kyT r)=some v->Cy kvs (kyT r')=some v->r=r':=λr r' v h1 h2=>by have i1:=Jf h1;have i2:=Jf h2;obtain⟨i,hi⟩:=List.getElem?_of_mem i1;obtain⟨j,hj⟩:=List.getElem?_of_mem i2;have hil:=(A02.mp hi).1;have:i=j:=(List.getElem?_inj (by rw[A01];exact hil) hvn).mp (by rw[A08,A08,hi,hj];rfl);subst this;rw[hi] at hj;exact Qy (congrArg Prod.fst (A10 hj))
 have e13:=e2.trans e3
 symm
 refine K9 (SqL.of (e13 _ _ h1)) λsl H4 hsl e4 h4=>?_;rw[G9 ∅] at h4;have e14:=e13.trans e4;have tr0:TrH H4 t kvs (r0 :: T) []:=⟨e4 _ _ h3,λr hr=>let ⟨a,q1,q2,_⟩:=val r hr;⟨a,[],q1,(e3.trans e4) _ _ q2,.nil⟩⟩
 have off:∀ r∈r0 :: T,∀ a,Cy kvs (kyT r)=some (.ref a)->H1 a=none/\a≠sl:=λr hr a ha=>by
  obtain⟨a',q1,q2,q3⟩:=val r hr;rw[q1] at ha
  cases ha;exact⟨q3,ne_of_none (e3 _ _ q2) hsl⟩
 symm
 refine Gi (SqL.of h4) ?_
 refine Ew (Aw (xs:=ys1.drop 1)) (λm σ H5=>∃ x3 qs,σ=[some v,some (.ref l1),some (.ref t),x3]/\Same H1 H5/\H5 sl=some (.lst (ys1.drop 1))/\TrH H5 t kvs (r0 :: T) qs/\qs.map (·.1)=T.take m/\∀ q∈qs,q.2∈r0 :: T/\Pg q.2 r0<Pg q.1 r0)
  ⟨_,[],rfl,e14,h4,tr0,rfl,λq h=>(by cases h)⟩ (λm σ' H' hP=>?_) (λm x σ' H5 hx hm hP=>?_) (fun σ' H5 hP=>?_)
 . obtain⟨_,_,_,_,h,_⟩:=hP;exact SqL.of h
 . obtain⟨x3,qs,rfl,e5,h5s,tr,hqs,hqi⟩:=hP;have hT5:=hT1.same e5;rw[List.getElem?_drop] at hx;obtain⟨xa,c,rfl,hc,hxa⟩:=hT5.at hx;have hcT:T[m]? = some c:=by rw[Nat.add_comm] at hc;exact hc
   have hcm:=A05 hcT;obtain⟨y0,hy0,hy0a⟩:=hT5.get 0 r0 rfl;have m0:r0∈ext (Av ps) ns.length ns:=hO ▸ A11;have m1:c∈ext (Av ps) ns.length ns:=hO ▸ A0D _ hcm;have hne:c≠r0:=λe=>(A0H.mp hOn).1 (e ▸ hcm)
   symm
   refine Ir (e5 _ _ h1) (show atI ys1 ((0:Nat):Int)=some (.ref y0) from Dh hy0) ?_
   symm
   refine⟨.ref xa,.ref y0,c,r0,rfl,Gx (SqT.of hxa),Gx (SqT.of hy0a),(hpm m1).trans (hpm m0).symm,(hpm m0).nodup_iff.mpr hW.nd,hne,by rw[(hpm m0).length_eq];exact h10,λas y z bs w H6 ec hlt e6 hw=>?_⟩;have hpar:as++z :: y :: bs∈r0 :: T:=hO ▸ Zq hW.nd (ec ▸ m1) m0 hlt;have hin:=Sz (bs:=bs) hlt as;rw[<- ec,<- Nk,<- Nk] at hin;obtain⟨wa,rfl,hSw⟩:=hw.nm;have tr6:=tr.same e6;obtain⟨a,zs,hv,ha,hk⟩:=tr6.at_ _ hpar;obtain⟨oa,osl⟩:=off _ hpar a hv
   have hzl:zs.length<=1000:=by
    rw[<- hk.len];have:(Kn qs (as++z :: y :: bs)).length<=qs.length:=by unfold Kn;rw[List.length_map];exact List.length_filter_le _ _
    have:=congrArg List.length hqs;rw[A01,A0O] at this;rw[A0L] at hOl;omega
   symm
   refine W1 (Rd.of tr6.top) (show SqT K H6 wa ((kyT _).map kV) by rw[Vd];exact hSw) hv ?_
   symm
   refine Vq ha ∅ λH7 e7 h7=>?_
   symm
   refine⟨_,qs++[(c,as++z :: y :: bs)],rfl,(e5.trans e6).off oa e7,e7 _ _ (Ne.symm osl) (e6 _ _ h5s),⟨e7 _ _ (ne_of tr6.top ha (by intro z;cases z)) tr6.top,λr hr=>?_⟩,?_,λq hq=>?_⟩
   . rw[Yd]
     by_cases er:as++z :: y :: bs=r
     . subst er;rw[A0W rfl];exact⟨a,_,hv,h7,(hk.but ha e7).append (.one (e7 _ _ (ne_of (e6 _ _ hxa) ha (by intro z;cases z)) (e6 _ _ hxa)))⟩
     rw[A0S er,A1N];obtain⟨a',zs',q1,q2,q3⟩:=tr6.at_ r hr;exact⟨a',zs',q1,e7 _ _ (λe=>er (inj _ _ _ hv (e ▸ q1))) q2,q3.but ha e7⟩
   . rw[A0E,hqs,A0J,hcT];rfl
   rcases A0R.mp hq with g|g
   . exact hqi q g
   rw[A17.mp g];exact⟨hpar,by dsimp only;omega⟩
 obtain⟨x3,qs,rfl,e5,h5s,tr,hqs,hqi⟩:=hP;have hT5:=hT1.same e5;rw[A1G,hyl,A0L,Nat.add_sub_cancel,A0M] at hqs;obtain⟨y0,hy0,hy0a⟩:=hT5.get 0 r0 rfl
 have hub:∀ c∈r0 :: T,Pg c r0<=100:=λc hc=>by have mc:c∈ext (Av ps) ns.length ns:=hO ▸ hc;rw[Nk];refine A0Q (Ww r0 c) ?_;rw[(hpm mc).length_eq];exact A3U h10 h10
 have hcO:∀ q∈qs,q.1∈r0 :: T:=λq hq=>A0D _ (hqs ▸ A0N.mpr ⟨q,hq,rfl⟩)
 have hrk:∀ q∈qs,(λc=>100-Pg c r0) q.1<(λc=>100-Pg c r0) q.2:=λq hq=>by have:=(hqi q hq).2;have:=hub _ (hcO q hq);dsimp only;omega
 have hsz:=a87 (rk:=λc=>100-Pg c r0) hOn hqs λq hq=>⟨(hqi q hq).1,hrk q hq⟩;rw[A0L] at hOl
 symm
 refine Ir (e5 _ _ h1) (show atI ys1 ((0:Nat):Int)=some (.ref y0) from Dh hy0) ?_
 symm
 refine⟨t,.ref y0,true,kvs,r0 :: T,qs,λc=>100-Pg c r0,r0,rfl,tr,λq hq=>⟨hcO q hq,hrk q hq⟩,Gx (SqT.of hy0a),List.mem_cons_self,by dsimp only;omega,by rw[hsz];omega,λl ys H6 hl e6 h6 hy=>?_⟩;exact k hcn l ys H6 ((e1.trans e5).free hl) ((e1.trans e5).trans e6) h6 (by rw[hy,hsz];omega)
def TpN (K:W.Frag)(H:Hp)(n:Nat)(ys:List V):Prop:=∀ y∈ys,∃ r:List Str,Is K H (nmD r) y/\r.length=n
theorem TpN.fz {K:W.Frag}{H H':Hp}{n:Nat}{ys:List V}(h:TpN K H n ys)(e:Fz H H'):TpN K H' n ys:=λy hy=>let ⟨r,h1,h2⟩:=h y hy;⟨r,h1.nm_fz e,h2⟩
theorem TpN.append {K:W.Frag}{H:Hp}{n:Nat}{ys zs:List V}(h:TpN K H n ys)(g:TpN K H n zs):TpN K H n (ys++zs):=λy hy=>(A0R.mp hy).elim (h y) (g y)
def Cw (K:W.Frag)(N:Nat):Sp:=λvs H Q _=>∃ v ns,vs=[v]/\Is K H (nmD ns) v/\ns.length<N/\ns.length<=7/\∀ l ys H',H l=none->Same H H'->H' l=some (.lst ys)->TpN K H' ns.length ys->ys.length<=7 ^ ns.length->Q (.ref l) H'
def Go (K:W.Frag):Sp:=Cw K 11
theorem Ik {K:W.Frag}:∀ vs H Q E,¬ Cw K 0 vs H Q E:=by rintro vs H Q E ⟨_,_,_,_,h,_⟩;exact absurd h (A2V _)
theorem Ly {f:Addr}{fd:FuncData}(F:Fun K "to_and_fro" "to_and_fro" Ch f fd)(T:Gj mg)(n:Nat)(Er:Fnd P w K mg base (1+n) "to_and_fro" ["names"] (Cw K n)):FnOk P w K mg base CX0 (1+n+1) f fd ["names"] (Cw K (n+1)):=by
 refine F.ok Dx (λvs H Q E h=>?_) (λcdv A outer s H vs Q E hr h=>?_)
 . obtain⟨v,ns,rfl,_⟩:=h;rfl
 obtain⟨v,ns,rfl,hI,hN,h7,k⟩:=h;have hu:=Db hr;have hq:=Dc hr;obtain⟨na,rfl,hS⟩:=hI.nm
 with_reducible refine⟨_,(A1 (Cq (Ah (C6 (K:=K) hq) (Ag (B6 (K:=K)) ⋯ T.b_len PyProof.Rows.Boot.«len» (A0 (pv 0) A2)) A3 (Au _)) (A5 (Am (B4 (A0 (Cr A2) A2)))) At)
  (A1 (Aa (i:=1) Dx.nd ⋯ (by eq_refl) (B4 A2))
  (A1 (Cf A0V ⋯ (T6 (K:=K) ⋯ T.b_enumerate (A0 (Bc Er (hr.mono ∅) ⋯ (A0 (Ay (Lc (K:=K)) (pv 0) (Az A3) Ck) A2)) A2)) (R0 (K:=K) (n:=2) ⋯ (Hw (Ab (i:=2) Dx.nd ⋯ (by eq_refl)) (Hw (Ab (i:=3) Dx.nd ⋯ (by with_unfolding_all exact A2M rfl)) R8)))
  (A1 (Ec (i:=4) ["seat"] ["row","names"] [3,0] ⋯ ⋯ ⋯ Dx.nd ⋯ ⋯ (Dv ⋯ T.b_range (A0 (Ag (B6 (K:=K)) ⋯ T.b_len PyProof.Rows.Boot.«len» (A0 (pv 0) A2)) A2)) (λ_ _ _ _=>(Ab (i:=0) (by with_unfolding_all (show(["seat","row","names"]:List Str).Nodup;decide +kernel)) ⋯ (by eq_refl))) (Bf nofun) (λ_ _ _ _=>Ct) (λ_ _ _ _=>(Af (Ae (K:=K)) (Af (Ae (K:=K)) (Ay (Lc (K:=K)) (pv 1) Ck (Az (pv 0))) (Ay (Lc (K:=K)) (pv 2) Ck (Az A3))) (Ay (Lc (K:=K)) (pv 1) (Az (pv 0)) Ck))))
  (A1 (Cq (Ah (C6 (K:=K) hq) (Af Gw (pv 2) A3) A3 (Au _)) (A5 (Fg (Y2 (K:=K) A15 PySem.F.slot_list_reverse PySem.F.type_list_reverse (mm Tv) (pv 4)))) At)
  (A5 (Fg (Gz (K:=K) A15 A2C A2D (mm Hl) (pv 1) (A0 (pv 4) A2)))))))
  (A5 (Am (pv 1)))))),?_⟩
 symm
 refine a38 hI ?_
 symm
 refine Hx (λhz=>?_) (λhz=>?_)
 . have h0:ns=[]:=by injection hz with hz;exact A12.mp ∅
   subst h0
   symm
   refine Cs nofun λt1 H1 ht1 e1 h1=>?_
   symm
   refine B5 (A6 (by simp)) λl2 H2 hl2 e2 h2=>?_;refine k l2 _ H2 (e1.free hl2) (e1.trans e2) h2 (λy hy=>?_) (A07 1);rw[A17.mp hy];exact⟨[],Gx (SqT.of (e2 _ _ h1)),rfl⟩
 obtain⟨x,T,rfl⟩:∃ x T,ns=x :: T:=by
  cases ns with
  |nil=>exact absurd rfl hz
  |cons x T=>exact⟨x,T,rfl⟩
 rw[A0L] at hN h7 k;have hpw:7 ^ T.length<=117649:=A0Q (A2Y nofun (show T.length<=6 by omega)) nofun;have hpw1:7 ^ (T.length+1)=7 ^ T.length*7:=A4M ..
 symm
 refine B5 nofun λf1 H1 hf1 e1 h1=>?_
 symm
 refine R9 (e1.seqT hS) λp2 H2 e2 h2=>?_;rw[G9 ∅] at h2
 symm
 refine⟨.ref p2,T,rfl,Gx h2,by omega,by omega,λl3 ys3 H3 hl3 e3 h3 hT3 hl3'=>?_⟩;have e13:=(e1.trans e2).trans e3
 refine Pf (SqL.of h3) (λi σ H4=>∃ x3 x4 x5 zs,σ=[some (.ref na),some (.ref f1),x3,x4,x5]/\Same H H4/\H4 l3=some (.lst ys3)/\TpN K H4 T.length ys3/\H4 f1=some (.lst zs)/\TpN K H4 (T.length+1) zs/\zs.length=i*(T.length+1))
  ⟨_,_,_,[],rfl,e13,h3,hT3,e3 _ _ (e2 _ _ h1),λy hy=>(by cases hy),by simp⟩ (λi σ' H' hP=>?_) (λi y σ' H4 H5 hy hP e5=>?_) (fun σ' H4 hP=>?_)
 . obtain⟨_,_,_,_,_,_,h,_⟩:=hP;exact SqL.of h
 . obtain⟨x3,x4,x5,zs,rfl,e4,h4l,hT4,h4f,hZ4,hzl⟩:=hP;have hil:i<ys3.length:=(A02.mp hy).1;obtain⟨r,hIr,hrl⟩:=(hT4.fz e5.fz) y (A05 hy);obtain⟨ra,rfl,hSr⟩:=hIr.nm;have e45:=e4.trans e5;have hS5:=e45.seqT hS
   symm
   refine a38 (Gx hS5) ?_;rw[A0L]
   symm
   refine Jc ∅ ?_;refine Cu Cb (λp m acc H6=>Same H5 H6/\TpN K H6 (T.length+1) acc/\acc.length=m) (λp H' hp' e' h'=>⟨e',λy hy=>(by cases hy),rfl⟩) (λ_ _ _ _ _=>trivial) (λp m z acc H6 hp' hz' hm hl hpa hP=>?_) (λp acc H6 hp' hpa hal hP=>?_)
   . obtain⟨e6,hA6,hal⟩:=hP;obtain⟨rfl,hmn⟩:=G1 hz'
     have c1:Kl (r.map V.str) none (some (0+((m:Nat):Int)))=(r.take m).map V.str:=by rw[Ep ∅,<- A1W,show(0+((m:Nat):Int)).toNat=m by omega]
     have c2:Kl ((x :: T).map V.str) none (some 1)=[V.str x]:=by rw[Ep ∅];rfl
     have c3:Kl (r.map V.str) (some (0+((m:Nat):Int))) none=(r.drop m).map V.str:=by rw[G9 ∅,<- A2W,show(0+((m:Nat):Int)).toNat=m by omega]
     symm
     refine R9 (e6.seqT hSr) λp7 H7 e7 h7=>?_;rw[c1] at h7
     symm
     refine R9 ((e6.trans e7).seqT hS5) λp8 H8 e8 h8=>?_;rw[c2] at h8
     symm
     refine Me (e8.seqT h7) h8 (A6 (by simp;omega)) λp9 H9 e9 h9=>?_
     symm
     refine R9 (((e6.trans e7).trans (e8.trans e9)).seqT hSr) λp10 H10 e10 h10=>?_;rw[c3] at h10
     symm
     refine Me (e10.seqT h9) h10 (A6 (by simp;omega)) λp11 H11 e11 h11=>?_;have e611:=(e7.trans (e8.trans e9)).trans (e10.trans e11);have hpa11:=e611 _ _ hpa;refine Ex (by rw[A01,A1B];omega) hm hl hpa11 λH12 e12 h12=>?_;have fz12:=e12.fzL hpa11;refine⟨(e6.trans e611).off hp' e12,(hA6.fz (e611.fz.trans fz12)).append λw hw=>?_,by rw[A09,A13,hal]⟩;rw[A17.mp hw];refine⟨r.take m++[x]++r.drop m,(Gx (by rw[A0E,A0E];exact h11)).nm_fz fz12,?_⟩;have:=congrArg List.length (A3J m r);rw[A09] at this;rw[A09,A09,A13];omega
   obtain⟨e6,hA6,hacl⟩:=hP;rw[A01,A1B] at hacl;have hp5:H p=none:=e45.free hp';walk_at "rq"
   with_reducible refine Ud (fun σ' H'=>∃ ac,σ'=[some (.ref na),some (.ref f1),some (.int ((i:Nat):Int)),some (.ref ra),some (.ref p)]/\Same H5 H'/\H' p=some (.lst ac)/\TpN K H' (T.length+1) ac/\ac.length=T.length+1) (λN hN=>?_) (fun σ1 H7 hM=>?_)
   . symm
     refine Hx (λhc=>?_) (λhc=>?_)
     . symm
       refine Wv hpa λH7 e7 h7=>?_
       symm
       exact hN _ _ ⟨_,rfl,e6.off hp' e7,h7,λw hw=>(hA6.fz (e7.fzL hpa)) w (List.mem_reverse.mp hw),by rw[List.length_reverse];exact hacl⟩
     symm
     exact hN _ _ ⟨_,rfl,e6,hpa,hA6,hacl⟩
   obtain⟨ac,rfl,e7,h7,hA7,hacl⟩:=hM;have e57:=e5.trans e7;have h7f:=e57 _ _ h4f
   have hzl':zs.length+ac.length<=1000000:=by rw[hzl,hacl];have:i*(T.length+1)<=117649*7:=A3U ∅ ∅;omega
   symm
   refine Oz h7f h7 ∅ λH8 e8 h8=>?_;have fz8:=e8.fzL h7f
   symm
   refine⟨_,_,_,_,rfl,(e4.trans e57).off hf1 e8,e8 _ _ (λz=>?_) (e57 _ _ h4l),(hT4.fz e57.fz).fz fz8,h8,((hZ4.fz e57.fz).fz fz8).append (hA7.fz fz8),by rw[A09,hzl,hacl,Nat.add_mul,Nat.one_mul]⟩;exact absurd (e2.free hl3) (by rw[z,h1];exact λq=>(nomatch q))
 obtain⟨x3,x4,x5,zs,rfl,e4,h4l,hT4,h4f,hZ4,hzl⟩:=hP
 symm
 refine k f1 zs H4 hf1 e4 h4f hZ4 ?_;rw[hzl,hpw1];exact A3U hl3' ∅
theorem Ny {f:Addr}{fd:FuncData}(F:Fun K "to_and_fro" "to_and_fro" Ch f fd)(T:Gj mg)(hm:mg "to_and_fro" = some (.ref f))(hk:W.keepIn K (.ref f)=true)(hb:Binds K fd ["names"] []):FnOk P w K mg base CX0 12 f fd ["names"] (Go K):=by
 have h:∀ n:Nat,FnOk P w K mg base CX0 (1+n) f fd ["names"] (Cw K n):=λn=>by
  induction n with
  |zero=>exact FnOk.void Ik
  |succ n ih=>exact Ly F T n ⟨f,fd,ih,hm,hk,hb⟩
 exact h 11
def InO (K:W.Frag)(H:Hp)(O:List (List Str))(zs:List V):Prop:=∀ z∈zs,∃ r∈O,Is K H (nmD r) z
theorem InO.fz {K:W.Frag}{H H':Hp}{O:List (List Str)}{zs:List V}(h:InO K H O zs)(e:Fz H H'):InO K H' O zs:=λz hz=>let ⟨r,h1,h2⟩:=h z hz;⟨r,h1,h2.nm_fz e⟩
structure NrH (K:W.Frag)(H:Hp)(n:Addr)(kvs:List (List Key×V))(O:List (List Str)):Prop where
 top:H n=some (.dT kvs)
 at_:∀ r∈O,∃ a zs,Cy kvs (kyT r)=some (.ref a)/\H a=some (.lst zs)/\InO K H O zs
theorem NrH.same {K:W.Frag}{H H':Hp}{n:Addr}{kvs:List (List Key×V)}{O:List (List Str)}(h:NrH K H n kvs O)(e:Same H H'):NrH K H' n kvs O:=
 ⟨e _ _ h.top,λr hr=>let ⟨a,zs,h1,h2,h3⟩:=h.at_ r hr;⟨a,zs,h1,e _ _ h2,h3.fz e.fz⟩⟩
def OrO (O:List (List Str)):Prop:=∀ r∈O,r.length<=10/\∀ z∈r,Uy z=true
theorem Te {rows:List (List Str)}(h:∀ r∈rows,∀ z∈r,Uy z=true):PyData.canLayAll0 (rows.map nmD)=true:=by have e:(PyData.list (rows.map nmD)).canLay0=true:=Hc _ (by simp only[Ff];exact Ib _ rows λr hr=>(Ry (h r hr)).1);simpa only[PyData.canLay0] using e
theorem a59 (rows:List (List Str))(r:List Str):((rows.map nmD).any λe=>PyData.eqv e (nmD r))=decide (r∈rows):=by
 rw[List.any_map,A3O,A1S,decide_eq_true_eq];constructor
 . rintro⟨x,hx,h⟩;rw[Function.comp_apply,a39,decide_eq_true_eq] at h;exact h ▸ hx
 intro h;exact⟨r,h,by rw[Function.comp_apply,a39,decide_eq_true_eq]⟩
theorem Wt {K:W.Frag} {H:Hp}:∀ {rows:List (List Str)} {ys:List V},Tps H rows ys->IsL K H (rows.map nmD) ys
 | [],ys,h=>by have:ys=[]:=A12.mp h.len.symm;rw [this];exact .nil
 |r :: rows,ys,h=>by
   cases ys with
   |nil=>exact absurd h.len (by simp)
   |cons y ys=>
     obtain⟨a,h1,h2⟩:=h.get 0 r rfl
     cases h1;exact .cons (Gx (SqT.of h2)) (Wt ⟨by have:=h.len;simpa using this,λi r' hr'=>h.get (i+1) r' hr'⟩)
def Ci (K:W.Frag):Sp:=λvs H Q _=>∃ l ys O,vs=[.ref l]/\H l=some (.lst ys)/\Tps H O ys/\OrO O/\O.length<=1000/\∀ n kvs H',H n=none->Same H H'->NrH K H' n kvs O->Q (.ref n) H'
theorem Gy {f:Addr}{fd:FuncData}(F:Fun K "orders_by_one_swap" "orders_by_one_swap" B0 f fd)(T:Gj mg)(G6:Fnd P w K mg base 1 "swapped" ["order","place"] (I0 K)):FnOk P w K mg base CX0 2 f fd ["orders"] (Ci K):=by
 refine F.ok Bq (λvs H Q E h=>?_) (λcdv A outer s H vs Q E hr h=>?_)
 . obtain⟨l,ys,O,rfl,_⟩:=h;rfl
 obtain⟨l,ys,O,rfl,hl,hT,hO,h1000,k⟩:=h;have hu:=Db hr;have hq:=Dc hr;have hyl:=hT.len;have hlay:=Te λr hr=>(hO r hr).2
 with_reducible refine⟨_,(A1 (Aa (i:=1) Bq.nd ⋯ (by eq_refl) T2)
  (A1 (Cf A0V ⋯ (Ap (K:=K) hu (pv 0)) (Ab (i:=2) Bq.nd ⋯ (by with_unfolding_all exact A2M rfl))
  (A1 (Ec (i:=3) ["place"] ["order"] [2] ⋯ ⋯ ⋯ Bq.nd ⋯ ⋯ (Dv ⋯ T.b_range (A0 (Af Ha (Ag (B6 (K:=K)) ⋯ T.b_len PyProof.Rows.Boot.«len» (A0 (pv 2) A2)) A3) A2)) (λ_ _ _ _=>(Ab (i:=0) (by with_unfolding_all (show(["place","order"]:List Str).Nodup;decide +kernel)) ⋯ (by eq_refl))) (Bf nofun) (λ_ _ _ _=>Ct) (λ_ _ _ _=>(Bc G6 (hr.mono nofun) ⋯ (A0 (pv 1) (A0 (pv 0) A2)))))
  (A5 (Fe hu (pv 1) (pv 2) (Cm ["other"] ["orders"] [0] ⋯ ⋯ ⋯ (Ap (K:=K) hu (pv 3)) (λ_ _ _ _=>(Ab (i:=0) (by with_unfolding_all (show(["other","orders"]:List Str).Nodup;decide +kernel)) ⋯ (by eq_refl))) (Bf nofun) (λ_ _ _ _=>(He (Ah (Tg (K:=K) hq) (pv 0) (pv 1) ⋯))) (λ_ _ _ _=>(pv 0))) ⋯))))
  (A5 (Am (pv 1))))),?_⟩
 symm
 refine Vr λn H1 hn1 e1 h1=>?_
 symm
 refine Gi (SqL.of (e1 _ _ hl)) ?_
 refine Ew (Aw (xs:=ys)) (λm σ H2=>∃ x2 x3 kvs,σ=[some (.ref l),some (.ref n),x2,x3]/\Same H H2/\H2 n=some (.dT kvs)/\kvs.length<=m/\∀ r∈O.take m,∃ a zs,Cy kvs (kyT r)=some (.ref a)/\H2 a=some (.lst zs)/\InO K H2 O zs)
  ⟨_,_,[],rfl,e1,h1,A07 _,λr hr=>(by cases hr)⟩ (λm σ' H' hP=>?_) (λm x σ' H2 hx hm hP=>?_) (fun σ' H2 hP=>?_)
 . obtain⟨_,_,_,_,e,_⟩:=hP;exact SqL.of (e _ _ hl)
 . obtain⟨x2,x3,kvs,rfl,e2,h2,hkl,hat⟩:=hP;have hT2:=hT.same e2;obtain⟨xa,c,rfl,hc,hxa⟩:=hT2.at hx;have hcO:=hO c (A05 hc)
   symm
   rw[A01];refine Jc ∅ ?_;refine Cu Cb (λp i acc H3=>Same H2 H3/\∀ z∈acc,∃ r:List Str,Is K H3 (nmD r) z/\r.length<=10/\∀ w∈r,Uy w=true) (λp H' hp' e' h'=>⟨e',λy hy=>(by cases hy)⟩) (λ_ _ _ _ _=>trivial) (λp i z acc H3 hp' hz' hi hl' hpa hP=>?_) (λp acc H3 hp' hpa hal hP=>?_)
   . obtain⟨e3,hA⟩:=hP;obtain⟨rfl,hin⟩:=G1 hz';obtain⟨as,bs,ec,eas⟩:=Qd (A06 (show i<c.length by omega)) (A06 (show i+1<c.length by omega));generalize c[i]=y1 at ec;generalize c[i+1]=y2 at ec
     symm
     refine⟨.ref xa,as,y1,y2,bs,by rw[eas];simp,by rw[<- ec];exact Gx (SqT.of (e3 _ _ hxa)),by rw[<- ec];exact hcO.1,λw H4 e4 hw=>?_⟩;have h4p:=e4 _ _ hpa;refine Ex (by rw[A01,A1B];omega) hi hl' h4p λH5 e5 h5=>?_;have fz5:=e5.fzL h4p;refine⟨(e3.trans e4).off hp' e5,λz hz=>?_⟩;rcases A0R.mp hz with g|g
     . obtain⟨r,q1,q2⟩:=hA z g;exact⟨r,(q1.nm_fz e4.fz).nm_fz fz5,q2⟩
     rw[A17.mp g];have hp:(as++y2 :: y1 :: bs).Perm c:=ec ▸ (A3H as (A3W ..));exact⟨_,hw.nm_fz fz5,by rw[hp.length_eq];exact hcO.1,λw hw=>hcO.2 w (hp.mem_iff.mp hw)⟩
   obtain⟨e3,hA⟩:=hP;rw[A01,A1B] at hal
   symm
   refine Gi (SqL.of hpa) ?_;refine Cu (Aw (xs:=acc)) (λp' i acc' H4=>Same H3 H4/\InO K H4 O acc') (λp' H' hp' e' h'=>⟨e',λy hy=>(by cases hy)⟩) (λp' i acc' H4 hP=>SqL.of (hP.1 _ _ hpa)) (λp' i z acc' H4 hp4 hz hi hl' hpa' hP=>?_) (λp' acc' H4 hp4 hpa' hal' hP=>?_)
   . obtain⟨e4,hB⟩:=hP;obtain⟨r,q1,q2,q3⟩:=hA z (A05 hz);have e24:=e3.trans e4
     symm
     refine av8 (q1.nm_fz e4.fz) (.inl (Is.of_lst (SqL.of (e24 _ _ (e2 _ _ hl))) (Wt (hT2.same e24)))) hlay (Hc _ (R7 q3 ∅).plain) (A0Q (R7 q3 ∅).deep nofun) ?_;rw[a59]
     symm
     refine Hx (λhc=>?_) (λhc=>?_)
     . symm
       refine Ex ∅ hi hl' hpa' λH5 e5 h5=>?_;have fz5:=e5.fzL hpa';refine⟨e4.off hp4 e5,λw hw=>?_⟩;rcases A0R.mp hw with g|g
       . exact(hB.fz fz5) w g
       rw[A17.mp g];exact⟨r,hc,(q1.nm_fz e4.fz).nm_fz fz5⟩
     exact Mz hi hl' hpa' ⟨e4,hB⟩
   obtain⟨e4,hB⟩:=hP;have e24:=e3.trans e4
   symm
   refine Wx (e24 _ _ h2) (show H4 xa=some (.tup ((kyT c).map kV)) by rw[Vd];exact e24 _ _ hxa) ∅ λH5 e5 h5=>?_
   symm
   have fz5:Fz H4 H5:=M8 e5 λxs q=>by have q0:=e24 _ _ h2;rcases q with q|⟨o,q⟩<;>(rw[q0] at q;cases q)
   have nl:∀ {b:Addr} {zs:List V},H4 b=some (.lst zs)->H5 b=some (.lst zs):=λq=>e5 _ _ (ne_of q (e24 _ _ h2) (by intro z;cases z)) q;refine⟨_,_,_,rfl,(e2.trans e24).off hn1 e5,h5,by have:=Fk kvs (kyT c) (.ref p');omega,λr hr=>?_⟩;rw[A0J,hc] at hr
   by_cases er:r=c
   . subst er;exact⟨p',acc',by rw[Kj,A0W rfl],nl hpa',hB.fz fz5⟩
   have hr':r∈O.take m:=(List.mem_append.mp hr).resolve_right λg=>er (by simpa using g);obtain⟨a,zs,q1,q2,q3⟩:=hat r hr';exact⟨a,zs,by rw[Kj,A0S λe=>er (Qy e)];exact q1,nl (e24 _ _ q2),(q3.fz e24.fz).fz fz5⟩
 obtain⟨x2,x3,kvs,rfl,e2,h2,hkl,hat⟩:=hP;rw[<- hyl,A0M] at hat
 symm
 exact k n kvs H2 hn1 e2 ⟨h2,hat⟩
def Bp (K:W.Frag)(N:Nat):Sp:=λvs H Q _=>∃(n b:Addr) (kvs:List (List Key×V)) (O rows:List (List Str)) (ys:List V),vs=[.ref n,.ref b]/\NrH K H n kvs O/\OrO O/\O.length<=100/\H b=some (.lst ys)/\IsL K H (rows.map nmD) ys/\rows.Nodup/\rows≠[]/\(∀ r∈rows,r∈O)/\O.length<N+rows.length /\
 ∀ v H',Same H H'->(v = .non\/∃ a,v = .ref a)->Q v H'
def Eb (K:W.Frag):Sp:=Bp K 125
theorem Gk {K:W.Frag}:∀ vs H Q E,¬ Bp K 0 vs H Q E:=by rintro vs H Q E ⟨_,_,_,O,rows,_,_,_,_,_,_,_,hn,_,hs,h,_⟩;have:=X8 hn hs;omega
theorem J8 {f:Addr}{fd:FuncData}(F:Fun K "single_list_on" "single_list_on" B9 f fd)(T:Gj mg)(n:Nat)(C4:Fnd P w K mg base (1+n) "single_list_on" ["near","begun"] (Bp K n)):FnOk P w K mg base CX0 (1+n+1) f fd ["near","begun"] (Bp K (n+1)):=by
 refine F.ok Ei (λvs H Q E h=>?_) (λcdv A outer s H vs Q E hr h=>?_)
 . obtain⟨n,b,kvs,O,rows,ys,rfl,_⟩:=h;rfl
 obtain⟨n,b,kvs,O,rows,ys,rfl,hNr,hO,h100,hb,hL,hn,hne,hs,hN,k⟩:=h;have hu:=Db hr;have hq:=Dc hr;have hyl:rows.length=ys.length:=by rw[<- IsL.length hL,A01]
 have hrl:=X8 hn hs;have hpos:=List.length_pos_iff.mpr hne;obtain⟨r0,hr0⟩:∃ r0,rows[rows.length-1]? = some r0:=⟨rows[rows.length-1]'∅,A06 ∅⟩;obtain⟨y,hy,hIy⟩:=IsL.at hL (show(rows.map nmD)[rows.length-1]? = some (nmD r0) by rw[A08,hr0];rfl);have hr0O:=hs _ (A05 hr0);obtain⟨ya,rfl,hSy⟩:=hIy.nm
 have hat:atI ys (-1)=some (.ref ya):=by
  unfold atI
  have e:ixN ys.length (-1)=some (ys.length-1):=by unfold ixN;rw[A0S ∅,A0W ∅];congr 1;omega
  rw[e,Option.bind_some,<- hyl,hy]
 obtain⟨a,zs,hv,ha,hZ⟩:=hNr.at_ r0 hr0O;have hlay:=Te λr hr=>(hO r (hs r hr)).2
 with_reducible refine⟨_,(A1 (Cq (Ah (C6 (K:=K) hq) (Ag (B6 (K:=K)) ⋯ T.b_len PyProof.Rows.Boot.«len» (A0 (pv 1) A2)) (Ag W3 ⋯ T.b_len PyProof.Rows.Boot.«len» (A0 (pv 0) A2)) (Au _)) (A5 (Am (pv 1))) At)
  (A1 (Cf A0V ⋯ (Ap (K:=K) hu (Ao (Ri (K:=K) hu) (pv 0) (Ao (A7 (K:=K) hu) (pv 1) (am9 a44 A3) (by ac_rfl)) (by ac_rfl))) (Ab (i:=2) Ei.nd ⋯ (by eq_refl))
  (A5 (Cq (Ah (J5 (K:=K) hq) (pv 2) (pv 1) ⋯) (A1 (Aa (i:=3) Ei.nd ⋯ (by eq_refl) (Bc C4 (hr.mono ∅) ⋯ (A0 (pv 0) (A0 (Af (Ae (K:=K)) (pv 1) (B4 (A0 (pv 2) A2))) A2))))
  (A5 (Cq (Ah Pl (pv 3) M5 (Au _)) (A5 (Am (pv 3))) At))) At)))
  (A5 (Am M5)))),?_⟩
 symm
 refine a84 (Rd.of hNr.top) ?_
 symm
 refine Hx (λhc=>?_) (λhc=>?_)
 . symm
   exact k _ H (.refl _) (.inr ⟨_,rfl⟩)
 symm
 refine Ir hb hat ?_
 symm
 refine W1 (Rd.of hNr.top) (show SqT K H ya ((kyT r0).map kV) by rw[Vd];exact hSy) hv ?_;refine Gi (SqL.of ha) ?_
 refine Ew (Aw (xs:=zs)) (λm σ H2=>∃ x2 x3,σ=[some (.ref n),some (.ref b),x2,x3]/\Same H H2)
  ⟨_,_,rfl,.refl _⟩ (λm σ' H' hP=>?_) (λm x σ' H2 hx hm hP=>?_) (fun σ' H2 hP=>?_)
 . obtain⟨_,_,_,e⟩:=hP;exact SqL.of (e _ _ ha)
 . obtain⟨x2,x3,rfl,e2⟩:=hP;obtain⟨r,hrO,hIr⟩:=(hZ.fz e2.fz) x (A05 hx);have fr:=R7 (hO r hrO).2 (by have:=(hO r hrO).1;omega)
   symm
   refine an5 hIr (.inl (Is.of_lst (SqL.of (e2 _ _ hb)) (IsL.mono e2 _ _ hL))) hlay (Hc _ fr.plain) (A0Q fr.deep nofun) ?_;rw[a59]
   symm
   refine a81 (λhc=>?_) (λhc=>?_)
   . symm
     refine B5 (A6 (by simp)) λl3 H3 hl3 e3 h3=>?_
     symm
     refine Ih (e3 _ _ (e2 _ _ hb)) h3 (A6 (by simp;omega)) λl4 H4 hl4 e4 h4=>?_;have e24:=e3.trans e4
     symm
     refine⟨n,l4,kvs,O,rows++[r],ys++[x],rfl,hNr.same (e2.trans e24),hO,h100,h4,?_,?_,by simp,λr' hr'=>?_,by rw[List.length_append,List.length_singleton];omega,λw H5 e5 hw=>?_⟩
     . rw[A0E];exact IsL.append (IsL.mono (e2.trans e24) _ _ hL) (.one (Is.mono e24 _ _ hIr))
     . rw[A1Z];exact⟨hn,by simp,λp hp q hq e=>hc (by rw[List.mem_singleton.mp hq] at e;exact e ▸ hp)⟩
     . rcases A0R.mp hr' with g|g
       . exact hs r' g
       rw[A17.mp g];exact hrO
     have e05:=(e2.trans e24).trans e5
     symm
     refine a81 (λhc'=>?_) (λhc'=>?_)
     . symm
       exact k _ H5 e05 hw
     symm
     exact⟨_,_,rfl,e05⟩
   symm
   exact⟨_,_,rfl,e2⟩
 obtain⟨x2,x3,rfl,e2⟩:=hP
 symm
 exact k _ H2 e2 (.inl rfl)
theorem Jw {f:Addr}{fd:FuncData}(F:Fun K "single_list_on" "single_list_on" B9 f fd)(T:Gj mg)(hm:mg "single_list_on" = some (.ref f))(hk:W.keepIn K (.ref f)=true)(hb:Binds K fd ["near","begun"] []):FnOk P w K mg base CX0 126 f fd ["near","begun"] (Eb K):=by
 have h:∀ n:Nat,FnOk P w K mg base CX0 (1+n) f fd ["near","begun"] (Bp K n):=λn=>by
  induction n with
  |zero=>exact FnOk.void Gk
  |succ n ih=>exact J8 F T n ⟨f,fd,ih,hm,hk,hb⟩
 exact h 125
def C1 (K:W.Frag):Sp:=λvs H Q _=>∃ l ys O,vs=[.ref l]/\H l=some (.lst ys)/\Tps H O ys/\OrO O/\O.length<=100/\∀ v H',Same H H'->(v = .non\/∃ a,v = .ref a)->Q v H'
theorem Gp {f:Addr}{fd:FuncData}(F:Fun K "searched_single_list" "searched_single_list" Aq f fd)(T:Gj mg)(Cv:Fnd P w K mg base 2 "orders_by_one_swap" ["orders"] (Ci K))(C4:Fnd P w K mg base 126 "single_list_on" ["near","begun"] (Eb K)):FnOk P w K mg base CX0 127 f fd ["orders"] (C1 K):=by
 refine F.ok Bd (λvs H Q E h=>?_) (λcdv A outer s H vs Q E hr h=>?_)
 . obtain⟨l,ys,O,rfl,_⟩:=h;rfl
 obtain⟨l,ys,O,rfl,hl,hT,hO,h100,k⟩:=h;have hu:=Db hr;have hq:=Dc hr
 with_reducible refine⟨_,(A1 (Aa (i:=1) Bd.nd ⋯ (by eq_refl) (Bc Cv (hr.mono nofun) ⋯ (A0 (pv 0) A2)))
  (A1 (Cf A0V ⋯ (Ap (K:=K) hu (pv 0)) (Ab (i:=2) Bd.nd ⋯ (by eq_refl))
  (A1 (Aa (i:=3) Bd.nd ⋯ (by eq_refl) (Bc C4 (hr.mono nofun) ⋯ (A0 (pv 1) (A0 (B4 (A0 (pv 2) A2)) A2))))
  (A5 (Cq (Ah Pl (pv 3) M5 (Au _)) (A5 (Am (pv 3))) At))))
  (A5 (Am M5)))),?_⟩
 symm
 refine⟨l,ys,O,rfl,hl,hT,hO,by omega,λn kvs H1 hn1 e1 hNr=>?_⟩
 symm
 refine Gi (SqL.of (e1 _ _ hl)) ?_
 refine Ew (Aw (xs:=ys)) (λm σ H2=>∃ x2 x3,σ=[some (.ref l),some (.ref n),x2,x3]/\Same H1 H2)
  ⟨_,_,rfl,.refl _⟩ (λm σ' H' hP=>?_) (λm x σ' H2 hx hm hP=>?_) (fun σ' H2 hP=>?_)
 . obtain⟨_,_,_,e⟩:=hP;exact SqL.of ((e1.trans e) _ _ hl)
 . obtain⟨x2,x3,rfl,e2⟩:=hP;obtain⟨xa,c,rfl,hc,hxa⟩:=(hT.same (e1.trans e2)).at hx
   symm
   refine B5 (A6 (by simp)) λl3 H3 hl3 e3 h3=>?_
   symm
   refine⟨n,l3,kvs,O,[c],_,rfl,hNr.same (e2.trans e3),hO,h100,h3,.one (Gx (SqT.of (e3 _ _ hxa))),by simp,by simp,λr hr=>by rw[List.mem_singleton.mp hr];exact List.mem_of_getElem? hc,by rw[List.length_singleton];omega,λw H4 e4 hw=>?_⟩;have e14:=(e2.trans e3).trans e4
   symm
   refine a81 (λhc'=>?_) (λhc'=>?_)
   . symm
     exact k _ H4 (e1.trans e14) hw
   symm
   exact⟨_,_,rfl,e14⟩
 obtain⟨x2,x3,rfl,e2⟩:=hP
 symm
 exact k _ H2 (e1.trans e2) (.inl rfl)
def Fh (C:Addr)(K:W.Frag):Sp:=λvs H Q E=>∃ v ns ps,vs=[v]/\Is K H (hfD ns ps) v/\HalfW ns ps/\ns.length<=10/\(∀ z∈ns,Uy z=true) /\
 (cnt (Av ps) ns<=720->∀ a xs H',Same H H'->SqT K H' a xs->xs≠[]->Q (.ref a) H')/\(720<cnt (Av ps) ns->RfM H C E)
theorem Lp {f:Addr}{fd:FuncData}(F:Fun K "single_list" "single_list" Cp f fd)(T:Gj mg){C_HalfError:Addr}{C_NoName:Addr}{C_TooMany:Addr}(x_HalfError:C3 K mg C_HalfError C_HalfError)(x_NoName:Fb K mg C_NoName C_HalfError)(x_TooMany:Dj K mg C_TooMany C_HalfError)(Er:Fnd P w K mg base 12 "to_and_fro" ["names"] (Go K))(Ce:Fnd P w K mg base 127 "searched_single_list" ["orders"] (C1 K))(B1:Uu P w K mg base 14 "all_orders" ["half"] (C7 C_TooMany K))(K1:Uu P w K mg base 15 "sides" ["half"] (Ja C_TooMany K)):FnOk P w K mg base (CX1 P w) 128 f fd ["half"] (Fh C_TooMany K):=by
 refine F.ok1 Eo (λvs H Q E h=>?_) (λcdv A outer s H vs Q E hr h=>?_)
 . obtain⟨v,ns,ps,rfl,_⟩:=h;rfl
 obtain⟨v,ns,ps,rfl,hI,hW,h10,hNm,k,kx⟩:=h;have hu:=Db hr;have hq:=Dc hr
 with_reducible refine⟨_,(A1 (Aa (i:=1) Eo.nd ⋯ (by eq_refl) (K5 K1 (hr.mono nofun) ⋯ Td (A0 (pv 0) A2)))
  (A1 (Cq (Ah W0 (Ag Zd ⋯ T.b_abs PyProof.Rows.Boot.«abs» (A0 (Af Ha (Ao (A7 (K:=K) hu) (pv 1) A3 (by ac_rfl)) (Ao (A7 (K:=K) hu) (pv 1) A3 (by ac_rfl))) A2)) A3 (Au _)) (A5 (Am (Af (Ae (K:=K)) (Cr (A0 An A2)) (pv 1)))) At)
  (A1 (Cq (Ah (C6 (K:=K) hq) (Ag (B6 (K:=K)) ⋯ T.b_len PyProof.Rows.Boot.«len» (A0 (Ao (A7 (K:=K) hu) (pv 0) A3 (by ac_rfl)) A2)) A3 (Au _)) (A5 (Am (Cr (A0 An (A0 (Bc Er (hr.mono nofun) ⋯ (A0 (Ao (A7 (K:=K) hu) (pv 0) A3 (by ac_rfl)) A2)) A2))))) At)
  (A1 (Aa (i:=2) Eo.nd ⋯ (by eq_refl) (K5 B1 (hr.mono nofun) ⋯ Td (A0 (pv 0) A2)))
  (A1 (Cq (Ah W0 (Ag (B6 (K:=K)) ⋯ T.b_len PyProof.Rows.Boot.«len» (A0 (pv 2) A2)) (Tu ⋯ T.g_MOST_SEARCHED) (Au _)) (A5 (Am (Cr (A0 An A2)))) At)
  (A1 (Aa (i:=3) Eo.nd ⋯ (by eq_refl) (Bc Ce (hr.mono nofun) ⋯ (A0 (pv 2) A2)))
  (A1 (Cq (Ah al2 (pv 3) M5 (Au _)) (A5 (Am (Cr (A0 An A2)))) At)
  (A5 (Am (Cr (A0 An (A0 (pv 3) A2)))))))))))),?_⟩
 symm
 refine⟨v,ns,ps,rfl,hI,hW,h10,λhcn i j p1 H1 e1 h1 hij=>?_,kx⟩;have kk:=k hcn;have hI1:=hI.hf_fz e1.fz
 symm
 refine M0 h1 (show atI _ ((0:Nat):Int)=_ from Dh rfl) ?_
 symm
 refine M0 h1 (show atI _ ((1:Nat):Int)=_ from Dh rfl) ?_
 symm
 refine⟨_,rfl,?_⟩
 symm
 refine Hx (λhc=>?_) (λhc=>?_)
 . symm
   refine Cs (A6 (by simp)) λt2 H2 ht2 e2 h2=>?_
   symm
   refine Me (SqT.of h2) (e2.seqT h1) (A6 (by simp)) λp3 H3 e3 h3=>?_;exact kk p3 _ H3 ((e1.trans e2).trans e3) h3 (by simp)
 symm
 refine Yf hI1 λpv hP=>?_
 symm
 refine ao2 hP ?_
 symm
 refine Hx (λhz=>?_) (λhz=>?_)
 . have h0:ps=[]:=by injection hz with hz;exact A12.mp ∅
   subst h0
   have h7:ns.length<=7:=by
    have free:∀ x y,Av [] x y=false:=λx y=>by
     cases e:Av [] x y with
     |false=>rfl
     |true=>exact absurd (wayB_iff.mp e) (λw=>by cases w<;>simp_all)
    rw[Pn (b:=Av []) free ns.length ns rfl hW.nd] at hcn
    by_cases h:ns.length<=7
    . exact h
    exact absurd (A0Q (a68 (show 7<=ns.length by omega)) hcn) nofun
   symm
   refine Jd hI1 λnv hN=>?_
   symm
   refine⟨nv,ns,rfl,hN,by omega,h7,λl2 ys2 H2 hl2 e2 h2 _ _=>?_⟩
   symm
   refine Cs (A6 (by simp)) λt3 H3 ht3 e3 h3=>?_;exact kk t3 _ H3 ((e1.trans e2).trans e3) (SqT.of h3) (by simp)
 symm
 refine⟨v,ns,ps,rfl,hI1,hW,h10,λ_ l2 ys2 H2 hl2 e2 h2 hT2=>?_,λhb=>absurd hcn ∅⟩;have hyl:=hT2.len
 have hOr:OrO (ext (Av ps) ns.length ns):=λr hr=>by obtain⟨hp,_⟩:=(Es _ _ _ _ hW.nd rfl).mp hr;exact⟨by rw[hp.length_eq];exact h10,λz hz=>hNm z (hp.mem_iff.mp hz)⟩
 symm
 refine Hx (λhm=>?_) (λhm=>?_)
 . symm
   refine Cs (A6 (by simp)) λt3 H3 ht3 e3 h3=>?_;exact kk t3 _ H3 ((e1.trans e2).trans e3) (SqT.of h3) (by simp)
 symm
 refine⟨l2,ys2,_,rfl,h2,hT2,hOr,by omega,λw H3 e3 hw=>?_⟩;have e13:=(e1.trans e2).trans e3
 symm
 refine Hx (λhn=>?_) (λhn=>?_)
 . symm
   refine Cs (A6 (by simp)) λt4 H4 ht4 e4 h4=>?_;exact kk t4 _ H4 (e13.trans e4) (SqT.of h4) (by simp)
 symm
 refine Cs (A6 (by simp)) λt4 H4 ht4 e4 h4=>?_;exact kk t4 _ H4 (e13.trans e4) (SqT.of h4) (by simp)
local macro_rules | `(tactic| walk_at "rq1") => L2.mAlts "i_nxS"
theorem ae0 {K:W.Frag}{C B:Addr}(c:XC K C)(hm:Kf K C B=true):W.kitOne K (.ref C) (.ref C)=some true:=by rw[Nd c hm c,A49,Bool.true_or]
theorem ap8 {H:Hp}{a C:Addr}{f:Str×V}{fs:List (Str×V)}(h:ExB false H a C (f :: fs)):∃ dx,H a=some (exG false a C (some dx)):=by
 rcases h with ⟨e,_⟩|⟨dx,_,h1,_⟩
 . cases e
 exact⟨dx,h1⟩
theorem al3 {K:W.Frag}{C B:Addr}(hm:Kf K C B=true):W.mroIn K C (.ref B)=some true:=by obtain⟨cd,hc,hx⟩:=A48 hm;unfold W.mroIn;rw[hc,Option.bind_some,beq_iff_eq.mp hx,if_neg (by simp),List.contains_cons,List.contains_cons,beq_self_eq_true,Bool.true_or,Bool.or_true]
theorem len4 {σ:L2.St}(h:σ.length=4):∃ a b c d,σ=[a,b,c,d]:=by
 match σ,h with
 | [a,b,c,d],_=>exact⟨a,b,c,d,rfl⟩
def av3:List Str:=["all","near","sides","single"]
def ar9:PyData:=.list [.bool true,.bool false,.bool false,.bool false,.str "orders"]
def Hj (K:W.Frag):Sp:=λvs H Q _=>∃(z:Str) (v:V) (ns:List Str) (ps:List (Str×Str)),vs=[.str z,v]/\Is K H (hfD ns ps) v/\HalfW ns ps/\ns.length<=10/\(∀ x∈ns,Uy x=true)/\z∈av3 /\
 (cnt (Av ps) ns<=720->∀ H',Same H H'->Q (.int (if z = "single" then 1 else((cnt (Av ps) ns:Nat):Int))) H')/\(720<cnt (Av ps) ns->∀ u H',Same H H'->Is K H' ar9 u->Q u H')
theorem Ol {f:Addr}{fd:FuncData}(F:Fun K "_law_told" "_law_told" Eg f fd)(T:Gj mg){C_HalfError:Addr}{C_NoName:Addr}{C_TooMany:Addr}{C_NoPlace:Addr}{C_NoOrder:Addr}(x_HalfError:C3 K mg C_HalfError C_HalfError)(x_NoName:Fb K mg C_NoName C_HalfError)(x_TooMany:Dj K mg C_TooMany C_HalfError)(x_NoPlace:L3 K mg C_NoPlace C_HalfError)(x_NoOrder:Ku K mg C_NoOrder C_HalfError)(ndX:([C_HalfError,C_NoName,C_NoOrder,C_NoPlace,C_TooMany]:List Addr).Nodup)(B1:Uu P w K mg base 14 "all_orders" ["half"] (C7 C_TooMany K))(K1:Uu P w K mg base 15 "sides" ["half"] (Ja C_TooMany K))(Il:Uu P w K mg base 127 "near_list" ["half"] (Ge C_TooMany K))(Gs:Uu P w K mg base 128 "single_list" ["half"] (Fh C_TooMany K)):FnOk P w K mg base CX0 129 f fd ["_law_word","_law_half_here"] (Hj K):=by
 refine F.ok Bz (λvs H Q E h=>?_) (λcdv A outer s H vs Q E hr h=>?_)
 . obtain⟨z,v,ns,ps,rfl,_⟩:=h;rfl
 obtain⟨z,v,ns,ps,rfl,hI,hW,h10,hNm,hz,k,kx⟩:=h;have hu:=Db hr;have hq:=Dc hr;obtain⟨xG,hG⟩:∃ G:Addr->Hp->Prop,G=λa H'=>720<cnt (Av ps) ns/\Same H H'/\ExB false H' a C_TooMany [("word",.str "orders")]:=⟨_,rfl⟩
 with_reducible refine⟨_,(A1 (Aa (i:=2) Bz.nd ⋯ (by eq_refl) M5)
  (A1 (at5 (i:=3) xG Bz.nd ⋯ ⋯ ⋯ x_HalfError.gl x_HalfError.xc ⋯ ⋯ ⋯ (λ_ _ hps=>(A5 (Cq (Ah (C6 (K:=K) hq) (pv 0) An (Au _)) (A5 (Aa (i:=2) Bz.nd ⋯ (by eq_refl) (Ag (B6 (K:=K)) ⋯ T.b_len PyProof.Rows.Boot.«len» (A0 (K5 B1 (hr.mono nofun) ⋯ hps (A0 (pv 1) A2)) A2)))) (A5 (Cq (Ah (C6 (K:=K) hq) (pv 0) An (Au _)) (A5 (Aa (i:=2) Bz.nd ⋯ (by eq_refl) (Ag (B6 (K:=K)) ⋯ T.b_len PyProof.Rows.Boot.«len» (A0 (K5 Il (hr.mono nofun) ⋯ hps (A0 (pv 1) A2)) A2)))) (A5 (Cq (Ah (C6 (K:=K) hq) (pv 0) An (Au _)) (A5 (Aa (i:=2) Bz.nd ⋯ (by eq_refl) (Ag (Gc (K:=K) ⋯) ⋯ T.b_sum PyProof.Rows.Boot.«sum» (A0 (K5 K1 (hr.mono nofun) ⋯ hps (A0 (pv 1) A2)) A2)))) (A5 (Aa (i:=2) Bz.nd ⋯ (by eq_refl) (Ag (B6 (K:=K)) ⋯ T.b_len PyProof.Rows.Boot.«len» (A0 (Ay (Lc (K:=K)) (K5 Gs (hr.mono nofun) ⋯ hps (A0 (pv 1) A2)) (Az A3) (Az A3)) A2)))))))))))
  (λ_ _=>(A1 (Aa (i:=2) Bz.nd ⋯ (by eq_refl) (B4 (A0 (Ag (Ho (K:=K)) ⋯ T.b_isinstance PyProof.Rows.Boot.«isinstance» (A0 (pv 3) (A0 (ac5 (v:=.ty "ValueError") ⋯ T.b_ValueError PyProof.Rows.Boot.«ValueError» ⋯) A2))) (A0 (Ag (Ho (K:=K)) ⋯ T.b_isinstance PyProof.Rows.Boot.«isinstance» (A0 (pv 3) (A0 (Tu (v:=.ref C_NoOrder) ⋯ ⟨_,x_NoOrder.gl,⋯⟩) A2))) (A0 (Ag (Ho (K:=K)) ⋯ T.b_isinstance PyProof.Rows.Boot.«isinstance» (A0 (pv 3) (A0 (Tu (v:=.ref C_NoPlace) ⋯ ⟨_,x_NoPlace.gl,⋯⟩) A2))) (A0 (Ag (Ho (K:=K)) ⋯ T.b_isinstance PyProof.Rows.Boot.«isinstance» (A0 (pv 3) (A0 (Tu (v:=.ref C_NoName) ⋯ ⟨_,x_NoName.gl,⋯⟩) A2))) A2))))))
  (A5 (Cq (Sl (Ag (Ho (K:=K)) ⋯ T.b_isinstance PyProof.Rows.Boot.«isinstance» (A0 (pv 3) (A0 (Tu (v:=.ref C_TooMany) ⋯ ⟨_,x_TooMany.gl,⋯⟩) A2)))) (A5 (Fg (Gz (K:=K) A15 A41 A42 (mm Jg) (pv 2) (A0 (Yx (K:=K) (pv 3) ⋯) A2)))) At)))))
  (A5 (Am (pv 2))))),?_⟩
 symm
 refine⟨?_,λa H' σ' hl hg=>?_⟩
 . have kn:720<cnt (Av ps) ns->RfM H C_TooMany (aA7 xG):=λhc a H' e hE=>⟨a,rfl,by rw[hG];exact⟨hc,e,hE⟩⟩
   symm
   refine Hx (λc1=>?_) (λc1=>?_)
   . have ez:z = "all":=by injection c1
     subst ez
     symm
     refine⟨v,ns,ps,rfl,hI,hW,h10,λhc l ys H1 hl1 e1 h1 hT1=>?_,kn⟩
     symm
     rw[<- hT1.len];exact k hc H1 e1
   symm
   refine Hx (λc2=>?_) (λc2=>?_)
   . have ez:z = "near":=by injection c2
     subst ez
     symm
     refine⟨v,ns,ps,rfl,hI,hW,h10,λhc l ys H1 hl1 e1 h1 hy=>?_,kn⟩
     symm
     rw[hy];exact k hc H1 e1
   symm
   refine Hx (λc3=>?_) (λc3=>?_)
   . have ez:z = "sides":=by injection c3
     subst ez
     symm
     refine⟨v,ns,ps,rfl,hI,hW,h10,λhc i j t H1 e1 h1 hij=>?_,kn⟩
     symm
     refine Uc (ns:=[(i:Int),(j:Int)]) (.inr h1) (λn' hn'=>?_) (by simp) ?_
     . simp only[List.mem_cons,List.not_mem_nil,or_false] at hn';rcases hn' with rfl|rfl<;>omega
     rw[show [(i:Int),(j:Int)].sum=((cnt (Av ps) ns:Nat):Int) by simp only[List.sum_cons,List.sum_nil];omega]
     symm
     exact k hc H1 e1
   have ez:z = "single":=by have h1:z ≠ "all":=λe=>c1 (by rw[e]);have h2:z ≠ "near":=λe=>c2 (by rw[e]);have h3:z ≠ "sides":=λe=>c3 (by rw[e]);simp only[av3,List.mem_cons,List.not_mem_nil,or_false] at hz;exact((hz.resolve_left h1).resolve_left h2).resolve_left h3
   subst ez
   symm
   refine⟨v,ns,ps,rfl,hI,hW,h10,hNm,λhc t xs H1 e1 h1 hne=>?_,kn⟩
   symm
   refine R9 h1 λp2 H2 e2 h2=>?_
   obtain⟨x,T,rfl⟩:∃ x T,xs=x :: T:=by
    cases xs with
    |nil=>exact absurd rfl hne
    |cons x T=>exact⟨x,T,rfl⟩
   rw[Vb ∅ ∅ (by rw[A0L];omega)] at h2
   symm
   refine .inl ⟨.ref p2,_,rfl,.inr ⟨_,h2,rfl⟩,?_⟩
   symm
   exact k hc H2 (e1.trans e2)
 rw[hG] at hg;obtain⟨hc,e1,hE⟩:=hg;obtain⟨y0,y1,y2,y3,rfl⟩:=len4 hl;obtain⟨dx,ha⟩:=ap8 hE;refine⟨⟨C_TooMany,some dx,ha,x_TooMany.xc,al3 x_TooMany.mr⟩,?_⟩;have n1:C_TooMany≠C_NoName:=λe=>by subst e;simp at ndX
 have n2:C_TooMany≠C_NoPlace:=λe=>by subst e;simp at ndX
 have n3:C_TooMany≠C_NoOrder:=λe=>by subst e;simp at ndX
 have m1:C_NoName≠C_HalfError:=λe=>by subst e;simp at ndX
 have m2:C_NoPlace≠C_HalfError:=λe=>by subst e;simp at ndX
 have m3:C_NoOrder≠C_HalfError:=λe=>by subst e;simp at ndX
 symm
 refine aq6 hE x_TooMany.xc (a75 x_TooMany.mr) ?_
 symm
 refine Z8 hE x_TooMany.xc (show _=some false by rw[Nd x_TooMany.xc x_TooMany.mr x_NoOrder.xc,A0I.mpr n3,A0I.mpr m3,Bool.or_self]) ?_
 symm
 refine Z8 hE x_TooMany.xc (show _=some false by rw[Nd x_TooMany.xc x_TooMany.mr x_NoPlace.xc,A0I.mpr n2,A0I.mpr m2,Bool.or_self]) ?_
 symm
 refine Z8 hE x_TooMany.xc (show _=some false by rw[Nd x_TooMany.xc x_TooMany.mr x_NoName.xc,A0I.mpr n1,A0I.mpr m1,Bool.or_self]) ?_
 symm
 refine B5 (A6 (by simp)) λp2 H2 hp2 e2 h2=>?_;have hE2:=hE.same e2
 symm
 refine Z8 hE2 x_TooMany.xc (ae0 x_TooMany.xc x_TooMany.mr) ?_
 symm
 refine al9 hE2 x_TooMany.xc x_TooMany.n_word (show _=some (V.str "orders") from rfl) ?_
 symm
 refine Vq h2 (by simp) λH3 e3 h3=>?_
 symm
 exact kx hc _ H3 ((e1.trans e2).off (e1.free hp2) e3) (Is.of_lst (SqL.of h3) (.cons Qj (.cons Qj (.cons Qj (.cons Qj (.one Je))))))
def Ed (K:W.Frag):Sp:=λvs H Q _=>∃ d l,vs=[.ref d]/\Feed H d l/\∀ v ns ps H',ExtBut d H H'->Feed H' d l->Is K H' (hfD ns ps) v->Half ns ps->Q v H'
theorem K0 {f:Addr}{fd:FuncData}(F:Fun K "_law_free_ones" "_law_free_ones" Bm f fd)(T:Gj mg)(A9:Fnd P w K mg base 1 "_law_draw" ["_law_feed_here","_law_many"] (Br K))(Ai:Fnd P w K mg base 2 "_law_shuffled" ["_law_feed_here","_law_some"] (Bn K))(Bt:Fnd P w K mg base 3 "_law_names" ["_law_feed_here"] (Dy K)):FnOk P w K mg base CX0 4 f fd ["_law_feed_here"] (Ed K):=by
 refine F.ok B2 (λvs H Q E h=>?_) (λcdv A outer s H vs Q E hr h=>?_)
 . obtain⟨d,l,rfl,_⟩:=h;rfl
 obtain⟨d,l,rfl,hF,k⟩:=h;have hu:=Db hr;have hq:=Dc hr
 with_reducible refine⟨_,(A1 (Aa (i:=1) B2.nd ⋯ (by eq_refl) (Bc Bt (hr.mono nofun) ⋯ (A0 (pv 0) A2)))
  (A1 (Aa (i:=2) B2.nd ⋯ (by eq_refl) (Ao (A7 (K:=K) hu) (B4 (A0 A3 (A0 A3 (A0 A3 (A0 A3 (A0 A3 (A0 A3 A2))))))) (Bc A9 (hr.mono nofun) ⋯ (A0 (pv 0) (A0 A3 A2))) (by ac_rfl)))
  (A1 (Aa (i:=3) B2.nd ⋯ (by with_unfolding_all exact A2M rfl) (Ay (Lc (K:=K)) (pv 1) (Az (pv 2)) (Az (Af (Ae (K:=K)) (pv 2) (Bc A9 (hr.mono nofun) ⋯ (A0 (pv 0) (A0 A3 A2)))))))
  (A1 (Ec (i:=4) ["_law_k"] ["_law_row"] [3] ⋯ ⋯ ⋯ B2.nd ⋯ ⋯ (Dv ⋯ T.b_range (A0 (Af Ha (Ag (B6 (K:=K)) ⋯ T.b_len PyProof.Rows.Boot.«len» (A0 (pv 3) A2)) A3) A2)) (λ_ _ _ _=>(Ab (i:=0) (by with_unfolding_all (show(["_law_k","_law_row"]:List Str).Nodup;decide +kernel)) ⋯ (by eq_refl))) (Bf nofun) (λ_ _ _ _=>Ct) (λ_ _ _ _=>(Cr (A0 (Ao (A7 (K:=K) hu) (pv 1) (pv 0) (by ac_rfl)) (A0 (Ao (A7 (K:=K) hu) (pv 1) (Af (Ae (K:=K)) (pv 0) A3) (by ac_rfl)) A2)))))
  (A1 (Aa (i:=5) B2.nd ⋯ (by with_unfolding_all exact A2M rfl) (Bc A9 (hr.mono nofun) ⋯ (A0 (pv 0) (A0 A3 A2))))
  (A1 (Cf A0V ⋯ (Ap (K:=K) hu (pv 3)) (Ab (i:=6) B2.nd ⋯ (by with_unfolding_all exact A2M rfl))
  (A5 (Fg (Gz (K:=K) A15 A2C A2D (mm Hl) (pv 4) (A0 (Cm ["_law_other"] ["_law_name","_law_turn"] [6,5] ⋯ ⋯ ⋯ (Ap (K:=K) hu (Ay (Lc (K:=K)) (pv 1) Ck (Az (pv 2)))) (λ_ _ _ _=>(Ab (i:=0) (by with_unfolding_all (show(["_law_other","_law_name","_law_turn"]:List Str).Nodup;decide +kernel)) ⋯ (by eq_refl))) (Bf nofun) (λ_ _ _ _=>Ct) (λ_ _ _ _=>(Nm (K:=K) (Cr (A0 (pv 1) (A0 (pv 0) A2))) (Ao (A7 (K:=K) hu) (B4 (A0 A3 (A0 (am9 a44 A3) A2))) (pv 2) (by ac_rfl))))) A2)))))
  (A5 (Am (Cr (A0 (Bx (Di (K:=K)) ⋯ T.b_tuple PyProof.Rows.Boot.«tuple» (A0 (Bc Ai (hr.mono nofun) ⋯ (A0 (pv 0) (A0 (Af (Ae (K:=K)) (Ay (Lc (K:=K)) (pv 1) Ck (Az (pv 2))) (pv 3)) A2))) A2)) (A0 (Bx (Di (K:=K)) ⋯ T.b_tuple PyProof.Rows.Boot.«tuple» (A0 (pv 4) A2)) A2))))))))))),?_⟩
 symm
 refine⟨d,l,rfl,hF,λp1 n1 H1 hp1 e1 hF1 h1 hN1 hl1=>?_⟩
 symm
 refine B5 (A6 (by simp)) λp2 H2 hp2 e2 h2=>?_;have hF2:=hF1.same e2
 symm
 refine⟨d,l,_,rfl,hF2,by omega,by omega,λc H3 hc0 hc1 e3 hF3=>?_⟩;have h3:=e3 _ _ (hF2.lst h2) h2;have h31:=e3 _ _ (hF2.lst (e2 _ _ h1)) (e2 _ _ h1)
 obtain⟨m,hm,hm5,hm8⟩:∃ m:Int,atI [V.int 5,V.int 6,V.int 6,V.int 6,V.int 7,V.int 8] c=some (.int m)/\5<=m/\m<=8:=by
  have:c=0\/c=1\/c=2\/c=3\/c=4\/c=5:=by omega
  rcases this with rfl|rfl|rfl|rfl|rfl|rfl<;>exact⟨_,rfl,by decide,by decide⟩
 symm
 refine Ir h3 hm ?_
 symm
 refine⟨d,l,_,rfl,hF3,by omega,by omega,λu H4 hu0 hu1 e4 hF4=>?_⟩;have h41:=e4 _ _ (hF3.lst h31) h31
 symm
 refine K9 (SqL.of h41) λp5 H5 hp5 e5 h5=>?_;rw[Vb ∅ ∅ (by rw[A01];omega),<- A2W,<- A1W,show(m+u).toNat-m.toNat=u.toNat by omega] at h5;obtain⟨A',hA⟩:∃ A',A'=n1.take m.toNat:=⟨_,rfl⟩;obtain⟨R,hR⟩:∃ R,R=(n1.drop m.toNat).take u.toNat:=⟨_,rfl⟩;have hAl:A'.length<=8:=by rw[hA,A0O];omega
 have hRl:R.length<=2:=by rw[hR,A0O];omega
 have hAR:Names (A'++R):=by
  have:(A'++R).Sublist n1:=by
   rw[hA,hR]
   conv=>rhs;rw[<- List.take_append_drop m.toNat n1]
   exact(List.Sublist.refl _).append (A3X _ _)
  exact hN1.sublist this
 rw[<- hR] at h5;have hF5:=hF4.same e5;have h51:=e5 _ _ h41
 symm
 rw[A01];refine Jc ∅ ?_;refine Cu Cb (λp i acc H6=>Same H5 H6/\∃ qs,IsL K H6 (qs.map prD) acc/\Up R qs/\qs.length=i) (λp H' hp' e' h'=>⟨e',[],.nil,.nil,rfl⟩) (λ_ _ _ _ _=>trivial) (λp i z acc H6 hp' hz' hi hl' hpa hP=>?_) (λp acc H6 hp' hpa hal hP=>?_)
 . obtain⟨e6,qs,hI6,hU6,hq6⟩:=hP;obtain⟨rfl,hin⟩:=G1 hz';obtain⟨z1,hz1,hz1',_⟩:=str_at? (ls:=R) (i:=0+(i:Int)) ∅ ∅;obtain⟨z2,hz2,hz2',_⟩:=str_at? (ls:=R) (i:=0+(i:Int)+1) ∅ ∅
   symm
   refine Ir (e6 _ _ h5) hz1' ?_
   symm
   refine Ir (e6 _ _ h5) hz2' ?_
   symm
   refine Cs (A6 (by simp)) λt7 H7 ht7 e7 h7=>?_;have h7p:=e7 _ _ hpa;refine Ex (by rw[A01,A1B];omega) hi hl' h7p λH8 e8 h8=>?_;have fz8:=e8.fzL h7p;refine⟨(e6.trans e7).off hp' e8,qs++[(z1,z2)],?_,hU6.append (.one ∅ hz1 hz2),by rw[A09,A13,hq6]⟩;rw[A0E];exact IsL.append (IsL.fz (e7.fz.trans fz8) _ _ (Bo qs) hI6) (.one ((Yl (SqT.of h7)).pr_fz fz8))
 obtain⟨e6,qs,hI6,hU6,hq6⟩:=hP;rw[A01,A1B] at hq6;have hF6:=hF5.same e6;have h61:=e6 _ _ h51;have h65:=e6 _ _ h5
 symm
 refine⟨d,l,_,rfl,hF6,by omega,by omega,λt H7 ht0 ht1 e7 hF7=>?_⟩;obtain⟨LS,hLS⟩:∃ LS,LS=if t=0 then R++A' else A'++R:=⟨_,rfl⟩
 have fz7:=hF6.fz e7
 have upR:Up LS qs:=λq hq=>by
  obtain⟨i,j,hij,h1,h2⟩:=hU6 q hq;have hi:=(A02.mp h1).1;have hj:=(A02.mp h2).1;rw[hLS]
  split
  . exact⟨i,j,hij,by rw[A16 hi];exact h1,by rw[A16 hj];exact h2⟩
  exact⟨A'.length+i,A'.length+j,by omega,by rw[A1F ∅,A3B];exact h1,by rw[A1F ∅,A3B];exact h2⟩
 have fr7:ExtBut d H H7:=by walk_at "fr"
 have h71:=e7 _ _ (hF6.lst h61) h61;have h75:=e7 _ _ (hF6.lst h65) h65;have h7p:=e7 _ _ (hF6.lst hpa) hpa;have hpH:H p=none:=hF4.free (by walk_at "fr") (e5.free hp');have n1p:p1≠p:=λz=>by rw[z,hp'] at h51;cases h51
 have n5p:p5≠p:=λz=>by rw[z,hp'] at h5;cases h5
 symm
 refine Gi (SqL.of h75) ?_
 refine Ew (Aw (xs:=R.map V.str)) (λi σ H8=>∃ x6 zs rs,σ=[some (.ref d),some (.ref p1),some (.int m),some (.ref p5),some (.ref p),some (.int t),x6]/\ExtBut d H H8/\Feed H8 d l/\H8 p1=some (.lst (n1.map V.str))/\H8 p5=some (.lst (R.map V.str))/\H8 p=some (.lst zs)/\IsL K H8 (rs.map prD) zs/\Up LS rs/\rs.length<=2+8*i)
  ⟨_,_,qs,rfl,fr7,hF7,h71,h75,h7p,IsL.fz fz7 _ _ (Bo qs) hI6,upR,by omega⟩ (λi σ' H' hP=>?_) (λi x σ' H8 hx hi hP=>?_) (fun σ' H8 hP=>?_)
 . obtain⟨_,_,_,_,_,_,_,h,_⟩:=hP;exact SqL.of h
 . obtain ⟨x6,zs,rs,rfl,e8,hF8,h81,h85,h8p,hI8,hU8,hr8⟩:=hP;rw[A08] at hx
   cases hz:R[i]? with
   |none=>rw[hz] at hx;cases hx
   |some x=>
     rw[hz] at hx
     cases hx;have hiR:=(A02.mp hz).1;have hzl:=Ft hI8
     symm
     refine K9 (SqL.of h81) λq9 H9 hq9 e9 h9=>?_;rw[Ep ∅,<- A1W,<- hA] at h9;refine Gi (SqL.of h9) ?_;refine Cu (Aw (xs:=A'.map V.str)) (λp' j acc' H10=>Same H9 H10/\∃ ss,IsL K H10 (ss.map prD) acc'/\Up LS ss/\ss.length=j) (λp H' hp' e' h'=>⟨e',[],.nil,.nil,rfl⟩) (λp' j acc' H10 hP=>SqL.of (hP.1 _ _ h9)) (λp' j y acc' H10 hp10 hy hj hl10 hpa10 hP=>?_) (λp' acc' H10 hp10 hpa10 hal10 hP=>?_)
     . obtain ⟨e10,ss,hI10,hU10,hs10⟩:=hP;rw[A08] at hy
       cases hy':A'[j]? with
       |none=>rw[hy'] at hy;cases hy
       |some y=>
         rw[hy'] at hy
         cases hy;have hjA:=(A02.mp hy').1
         symm
         refine Cs (A6 (by simp)) λt11 H11 ht11 e11 h11=>?_
         symm
         refine B5 (A6 (by simp)) λq12 H12 hq12 e12 h12=>?_
         obtain⟨w,hw,hw1⟩:∃ w:Int,atI [V.int 1,V.int (-1)] t=some (.int w)/\(w=if t=0 then 1 else -1):=by
          have:t=0\/t=1:=by omega
          rcases this with rfl|rfl<;>exact⟨_,rfl,by decide⟩
         symm
         refine Ir h12 hw ?_;refine ag2 (SqT.of (e12 _ _ h11)) (by rw[hw1];split<;>simp) λb H13 e13 h13=>?_
         obtain⟨pr,hpr,hup⟩:∃ pr:Str×Str,(if w=1 then [V.str x,V.str y] else [V.str y,V.str x])=[V.str pr.1,V.str pr.2]/\Up LS [pr]:=by
          by_cases ht:t=0
          . rw[A0W ht] at hw1;rw[A0W hw1];refine⟨(x,y),rfl,.one (i:=i) (j:=R.length+j) ∅ ?_ ?_⟩
            . rw[hLS,A0W ht,A16 hiR];exact hz
            rw[hLS,A0W ht,A1F ∅,A3B];exact hy'
          rw[A0S ht] at hw1;rw[A0S ∅];refine⟨(y,x),rfl,.one (i:=j) (j:=A'.length+i) ∅ ?_ ?_⟩
          . rw[hLS,A0S ht,A16 hjA];exact hy'
          rw[hLS,A0S ht,A1F ∅,A3B];exact hz
         rw[hpr] at h13;have e1013:=(e11.trans e12).trans e13;have h13p:=e1013 _ _ hpa10;refine Ex (by rw[A01];omega) hj hl10 h13p λH14 e14 h14=>?_;have fz14:=e14.fzL h13p;refine⟨(e10.trans e1013).off hp10 e14,ss++[pr],?_,hU10.append hup,by rw[A09,A13,hs10]⟩;rw[A0E];exact IsL.append (IsL.fz (e1013.fz.trans fz14) _ _ (Bo ss) hI10) (.one ((Yl h13).pr_fz fz14))
     obtain⟨e10,ss,hI10,hU10,hs10⟩:=hP;rw[A01] at hs10;have e810:=e9.trans e10;have h10p:=e810 _ _ h8p;have hal:=Ft hI10
     symm
     refine Oz h10p hpa10 ∅ λH11 e11 h11=>?_;have fz11:=e11.fzL h10p
     symm
     refine⟨_,_,rs++ss,rfl,?_,?_,e11 _ _ n1p (e810 _ _ h81),e11 _ _ n5p (e810 _ _ h85),h11,?_,hU8.append hU10,by rw[A09];omega⟩
     . intro b o hb q;exact e11 _ _ (λz=>by rw[z,hpH] at q;cases q) (e810 _ _ (e8 b o hb q))
     . have:=hF8.same e810;walk_at "fd"
     rw[A0E];exact IsL.append (IsL.fz (e810.fz.trans fz11) _ _ (Bo rs) hI8) (IsL.fz fz11 _ _ (Bo ss) hI10)
 obtain⟨x6,zs,rs,rfl,e8,hF8,h81,h85,h8p,hI8,hU8,hr8⟩:=hP;rw[A01] at hr8
 symm
 refine K9 (SqL.of h81) λq9 H9 hq9 e9 h9=>?_;rw[Ep ∅,<- A1W,<- hA] at h9
 symm
 refine Ih h9 (e9 _ _ h85) (A6 (by simp;omega)) λq10 H10 hq10 e10 h10=>?_;rw[<- A0E] at h10;have e810:=e9.trans e10;have hF10:=hF8.same e810
 symm
 refine⟨d,l,q10,_,rfl,hF10,.inl (SqL.of h10),by rw[A01,A09];omega,λp11 ys11 H11 hp11 e11 hF11 h11 hperm=>?_⟩;obtain⟨ns,rfl,hpm⟩:=Ic hperm;have h11p:=e11 _ _ (hF10.lst (e810 _ _ h8p)) (e810 _ _ h8p);have hI11:=IsL.fz (hF10.fz e11) _ _ (Bo rs) (IsL.mono e810 _ _ hI8)
 symm
 refine Gg (SqL.of h11) λt12 H12 ht12 e12 h12=>?_
 symm
 refine Gg (SqL.of (e12 _ _ h11p)) λt13 H13 ht13 e13 h13=>?_
 symm
 refine Cs (A6 (by simp)) λt14 H14 ht14 e14 h14=>?_;have e1214:=e13.trans e14
 have hls:LS.Perm ns:=by
  refine List.Perm.trans ?_ hpm.symm;rw[hLS]
  split
  . exact List.perm_append_comm
  exact .refl _
 have hnl:=hpm.length_eq;rw[A09] at hnl;refine k (.ref t14) ns rs H14 (by walk_at "fr") (by walk_at "fd") (af0 (SqT.of h14) ((Gx (SqT.of h12)).nm_fz e1214.fz) (Is.of_tup (SqT.of (e14 _ _ h13)) (IsL.mono (e12.trans e1214) _ _ hI11))) (Mx (hAR.perm hpm) ∅ hls hU8 ∅)
def De (K:W.Frag):Sp:=λvs H Q _=>∃ d l,vs=[.ref d]/\Feed H d l/\∀ v ns ps H',ExtBut d H H'->Feed H' d l->Is K H' (hfD ns ps) v->Half ns ps->Q v H'
theorem ad9 (n1:List Str)(S z:Nat)(h:S+z<=n1.length):(n1.drop S++n1.take S).drop z++(n1.drop S++n1.take S).take z=n1.drop (S+z)++n1.take (S+z):=by
 have hl:z<=(n1.drop S).length:=by rw[A1G];omega
 rw[List.drop_append_of_le_length hl,List.take_append_of_le_length hl,List.drop_drop,List.take_add,A1Y]
theorem Iu {f:Addr}{fd:FuncData}(F:Fun K "_law_rows_beside" "_law_rows_beside" B7 f fd)(T:Gj mg)(A9:Fnd P w K mg base 1 "_law_draw" ["_law_feed_here","_law_many"] (Br K))(Ai:Fnd P w K mg base 2 "_law_shuffled" ["_law_feed_here","_law_some"] (Bn K))(Bt:Fnd P w K mg base 3 "_law_names" ["_law_feed_here"] (Dy K)):FnOk P w K mg base CX0 4 f fd ["_law_feed_here"] (De K):=by
 refine F.ok As (λvs H Q E h=>?_) (λcdv A outer s H vs Q E hr h=>?_)
 . obtain⟨d,l,rfl,_⟩:=h;rfl
 obtain⟨d,l,rfl,hF,k⟩:=h;have hu:=Db hr;have hq:=Dc hr
 with_reducible refine⟨_,(A1 (Aa (i:=1) As.nd ⋯ (by eq_refl) (B4 (A0 (B4 (A0 A3 (A0 A3 (A0 A3 A2)))) (A0 (B4 (A0 A3 (A0 A3 (A0 A3 (A0 A3 A2))))) (A0 (B4 (A0 A3 (A0 A3 (A0 A3 A2)))) (A0 (B4 (A0 A3 (A0 A3 (A0 A3 A2)))) (A0 (B4 (A0 A3 (A0 A3 (A0 A3 A2)))) (A0 (B4 (A0 A3 (A0 A3 (A0 A3 A2)))) (A0 (B4 (A0 A3 (A0 A3 (A0 A3 (A0 A3 A2))))) (A0 (B4 (A0 A3 (A0 A3 (A0 A3 A2)))) A2))))))))))
  (A1 (Aa (i:=2) As.nd ⋯ (by eq_refl) (Ao (A7 (K:=K) hu) (pv 1) (Bc A9 (hr.mono nofun) ⋯ (A0 (pv 0) (A0 A3 A2))) (by ac_rfl)))
  (A1 (Aa (i:=3) As.nd ⋯ (by with_unfolding_all exact A2M rfl) (Bc Bt (hr.mono nofun) ⋯ (A0 (pv 0) A2)))
  (A1 (Aa (i:=4) As.nd ⋯ (by eq_refl) (B4 A2))
  (A1 (Cf A0V ⋯ (Ap (K:=K) hu (pv 2)) (Ab (i:=5) As.nd ⋯ (by eq_refl))
  (A1 (Fg (Gz (K:=K) A15 A2C A2D (mm Hl) (pv 4) (A0 (Cm ["_law_k"] ["_law_names_here"] [3] ⋯ ⋯ ⋯ (Dv ⋯ T.b_range (A0 (Af Ha (pv 5) A3) A2)) (λ_ _ _ _=>(Ab (i:=0) (by with_unfolding_all (show(["_law_k","_law_names_here"]:List Str).Nodup;decide +kernel)) ⋯ (by eq_refl))) (Bf nofun) (λ_ _ _ _=>Ct) (λ_ _ _ _=>(Cr (A0 (Ao (A7 (K:=K) hu) (pv 1) (pv 0) (by ac_rfl)) (A0 (Ao (A7 (K:=K) hu) (pv 1) (Af (Ae (K:=K)) (pv 0) A3) (by ac_rfl)) A2))))) A2)))
  (A5 (Aa (i:=3) As.nd ⋯ (by with_unfolding_all exact A2M rfl) (Af (Ae (K:=K)) (Ay (Lc (K:=K)) (pv 3) (Az (pv 5)) Ck) (Ay (Lc (K:=K)) (pv 3) Ck (Az (pv 5))))))))
  (A5 (Am (Cr (A0 (Bx (Di (K:=K)) ⋯ T.b_tuple PyProof.Rows.Boot.«tuple» (A0 (Bc Ai (hr.mono nofun) ⋯ (A0 (pv 0) (A0 (Ay (Lc (K:=K)) (pv 3) (Az (Af Ha A3 (Ag (Gc (K:=K) ⋯) ⋯ T.b_sum PyProof.Rows.Boot.«sum» (A0 (pv 2) A2)))) Ck) A2))) A2)) (A0 (Bx (Di (K:=K)) ⋯ T.b_tuple PyProof.Rows.Boot.«tuple» (A0 (pv 4) A2)) A2)))))))))),?_⟩
 symm
 refine B5 (A6 (by simp)) λa1 H1 _ e1 h1=>?_
 symm
 refine B5 (A6 (by simp)) λa2 H2 _ e2 h2=>?_
 symm
 refine B5 (A6 (by simp)) λa3 H3 _ e3 h3=>?_
 symm
 refine B5 (A6 (by simp)) λa4 H4 _ e4 h4=>?_
 symm
 refine B5 (A6 (by simp)) λa5 H5 _ e5 h5=>?_
 symm
 refine B5 (A6 (by simp)) λa6 H6 _ e6 h6=>?_
 symm
 refine B5 (A6 (by simp)) λa7 H7 _ e7 h7=>?_
 symm
 refine B5 (A6 (by simp)) λa8 H8 _ e8 h8=>?_
 symm
 refine B5 (A6 (by simp)) λa9 H9 _ e9 h9=>?_;have f8:=e8.trans e9;have f7:=e7.trans f8;have f6:=e6.trans f7;have f5:=e5.trans f6;have f4:=e4.trans f5;have f3:=e3.trans f4;have f2:=e2.trans f3;have hE9:=e1.trans f2;have hF9:=hF.same hE9
 symm
 refine⟨d,l,_,rfl,hF9,by omega,by omega,λc H10 hc0 hc1 e10 hF10=>?_⟩
 obtain⟨a,ss,hca,ha9,hss,hsl,hsx⟩:∃(a:Addr) (ss:List Nat),atI [V.ref a1,V.ref a2,V.ref a3,V.ref a4,V.ref a5,V.ref a6,V.ref a7,V.ref a8] c=some (.ref a)/\H9 a=some (.lst (ss.map λn=>V.int ((n:Nat):Int)))/\ss.sum<=10/\ss.length<=10/\∀ x∈ss,x<=10:=by
  have:c=0\/c=1\/c=2\/c=3\/c=4\/c=5\/c=6\/c=7:=by omega
  rcases this with rfl|rfl|rfl|rfl|rfl|rfl|rfl|rfl
  . exact⟨a1,[5,2,2],rfl,f2 _ _ h1,by decide,by decide,by decide⟩
  . exact⟨a2,[4,2,1,1],rfl,f3 _ _ h2,by decide,by decide,by decide⟩
  . exact⟨a3,[4,4,1],rfl,f4 _ _ h3,by decide,by decide,by decide⟩
  . exact⟨a4,[6,3,1],rfl,f5 _ _ h4,by decide,by decide,by decide⟩
  . exact⟨a5,[5,3,1],rfl,f6 _ _ h5,by decide,by decide,by decide⟩
  . exact⟨a6,[3,3,2],rfl,f7 _ _ h6,by decide,by decide,by decide⟩
  . exact⟨a7,[2,2,2,1],rfl,f8 _ _ h7,by decide,by decide,by decide⟩
  exact⟨a8,[4,3,2],rfl,e9 _ _ h8,by decide,by decide,by decide⟩
 have h10:=e10 _ _ (hF9.lst h9) h9;have h10a:=e10 _ _ (hF9.lst ha9) ha9;clear h1 h2 h3 h4 h5 h6 h7 h8 f2 f3 f4 f5 f6 f7 f8 e1 e2 e3 e4 e5 e6 e7 e8
 symm
 refine Ir h10 hca ?_
 symm
 refine⟨d,l,rfl,hF10,λp1 n1 H11 hp1 e11 hF11 h11 hN1 hl1=>?_⟩;have h11a:=e11 _ _ (hF10.lst h10a) h10a
 symm
 refine B5 nofun λp H12 hp12 e12 h12=>?_;have h12a:=e12 _ _ h11a;have hF12:=hF11.same e12;have fr11:ExtBut d H H11:=by walk_at "fr"
 have hpH:H p=none:=hF11.free fr11 hp12;have nap:a≠p:=λz=>by rw[z,hp12] at h11a;cases h11a
 symm
 refine Gi (SqL.of h12a) ?_
 refine Ew (Aw (xs:=ss.map λn=>V.int ((n:Nat):Int))) (λi σ H13=>∃ x1 x5 zs rs q,σ=[some (.ref d),x1,some (.ref a),some (.ref q),some (.ref p),x5]/\ExtBut d H H13/\Feed H13 d l/\H13 a=some (.lst (ss.map λn=>V.int ((n:Nat):Int)))/\H13 q=some (.lst ((n1.drop (ss.take i).sum++n1.take (ss.take i).sum).map V.str))/\q≠p/\H13 p=some (.lst zs)/\IsL K H13 (rs.map prD) zs/\Up (n1.take (ss.take i).sum) rs/\rs.length<=(ss.take i).sum)
  ⟨_,_,[],[],p1,rfl,by walk_at "fr",hF12,h12a,by rw[List.take_zero,List.sum_nil,List.drop_zero,List.take_zero,A1N];exact e12 _ _ h11,λz=>(by rw[z,hp12] at h11;cases h11),h12,.nil,.nil,A2Q _⟩ (λi σ' H' hP=>?_) (λi x σ' H13 hx hi hP=>?_) (fun σ' H13 hP=>?_)
 . obtain⟨_,_,_,_,_,_,_,_,h,_⟩:=hP;exact SqL.of h
 . obtain ⟨x1,x5,zs,rs,q,rfl,e13,hF13,h13a,h13q,nqp,h13p,hI13,hU13,hr13⟩:=hP;rw[A08] at hx
   cases hz:ss[i]? with
   |none=>rw[hz] at hx;cases hx
   |some z=>
     rw[hz] at hx
     cases hx;have hsz:(ss.take (i+1)).sum=(ss.take i).sum+z:=by rw[List.take_add_one,hz,List.sum_append];simp
     have hle:(ss.take (i+1)).sum<=10:=by
      have:ss.sum=(ss.take (i+1)).sum+(ss.drop (i+1)).sum:=by rw[<- A4N,A3J]
      omega
     rw[hsz] at hle ⊢;generalize (ss.take i).sum=S at h13q hU13 hr13 hle;have hzl:=Ft hI13
     symm
     refine Jc ∅ ?_;refine Cu Cb (λp' j acc H14=>Same H13 H14/\∃ qs,IsL K H14 (qs.map prD) acc/\Up (n1.take (S+z)) qs/\qs.length=j) (λp H' hp' e' h'=>⟨e',[],.nil,.nil,rfl⟩) (λ_ _ _ _ _=>trivial) (λp' j y acc H14 hp' hy hj hl' hpa hP=>?_) (λp' acc H14 hp' hpa hal hP=>?_)
     . obtain⟨e14,qs,hI14,hU14,hq14⟩:=hP;obtain⟨rfl,hjn⟩:=G1 hy;have g1:=A06 (show S+j<n1.length by omega);have g2:=A06 (show S+j+1<n1.length by omega);generalize n1[S+j]=z1 at g1;generalize n1[S+j+1]=z2 at g2
       have at_:∀ {m:Nat} {w:Str},m<z->n1[S+m]? = some w->atI ((n1.drop S++n1.take S).map V.str) ((m:Nat):Int)=some (.str w):=fun {m w} hm hw=>Dh (by rw[A08,A16 (by rw[A1G];omega),List.getElem?_drop,hw];rfl)
       symm
       refine Ir (e14 _ _ h13q) (show atI _ (0+((j:Nat):Int))=some (.str z1) by rw[Int.zero_add];exact at_ ∅ g1) ?_
       symm
       refine Ir (e14 _ _ h13q) (show atI _ (0+((j:Nat):Int)+1)=some (.str z2) by rw[Int.zero_add];exact at_ (m:=j+1) ∅ g2) ?_
       symm
       refine Cs (A6 (by simp)) λt15 H15 ht15 e15 h15=>?_;have h15p:=e15 _ _ hpa;refine Ex (by rw[A01,A1B];omega) hj hl' h15p λH16 e16 h16=>?_;have fz16:=e16.fzL h15p;refine⟨(e14.trans e15).off hp' e16,qs++[(z1,z2)],?_,hU14.append (.one (i:=S+j) (j:=S+j+1) ∅ (by rw[A1R ∅];exact g1) (by rw[A1R ∅];exact g2)),by rw[A09,A13,hq14]⟩;rw[A0E];exact IsL.append (IsL.fz (e15.fz.trans fz16) _ _ (Bo qs) hI14) (.one ((Yl (SqT.of h15)).pr_fz fz16))
     obtain⟨e14,qs,hI14,hU14,hq14⟩:=hP;rw[A01,A1B] at hq14;have hal':=Ft hI14;have h14p:=e14 _ _ h13p
     symm
     refine Oz h14p hpa ∅ λH15 e15 h15=>?_;have fz15:=e15.fzL h14p;have h15q:=e15 _ _ nqp (e14 _ _ h13q);have h15a:=e15 _ _ nap (e14 _ _ h13a)
     symm
     refine K9 (SqL.of h15q) λq16 H16 hq16 e16 h16=>?_;rw[G9 ∅] at h16
     symm
     refine K9 (SqL.of (e16 _ _ h15q)) λq17 H17 hq17 e17 h17=>?_;rw[Ep ∅] at h17
     symm
     refine Ih (e17 _ _ h16) h17 (A6 (by simp;omega)) λq18 H18 hq18 e18 h18=>?_;rw[Int.toNat_natCast,<- A2W,<- A1W,<- A0E,ad9 n1 S z ∅] at h18;have e1518:=(e16.trans e17).trans e18;have hF14:=hF13.same e14;have hF15:Feed H15 d l:=by walk_at "fd"
     symm
     refine⟨_,_,_,rs++qs,q18,rfl,?_,hF15.same e1518,e1518 _ _ h15a,h18,λy=>?_,e1518 _ _ h15,?_,?_,by rw[A09];omega⟩
     . intro b o hb qq;exact e1518 _ _ (e15 _ _ (λy=>by rw[y,hpH] at qq;cases qq) (e14 _ _ (e13 b o hb qq)))
     . have:=(e16.trans e17).free hq18;rw[y,h15] at this
       cases this
     . rw[A0E];exact IsL.append (IsL.fz ((e14.fz.trans fz15).trans e1518.fz) _ _ (Bo rs) hI13) (IsL.fz (fz15.trans e1518.fz) _ _ (Bo qs) hI14)
     refine Up.append (λy hy=>?_) hU14;obtain⟨i1,j1,hij,g1,g2⟩:=hU13 y hy;have b1:=(A02.mp g1).1;have b2:=(A02.mp g2).1;rw[A0O] at b1 b2;rw[A1R ∅] at g1 g2;exact⟨i1,j1,hij,by rw[A1R ∅];exact g1,by rw[A1R ∅];exact g2⟩
 obtain⟨x1,x5,zs,rs,q,rfl,e13,hF13,h13a,h13q,nqp,h13p,hI13,hU13,hr13⟩:=hP;rw[A01,A0M] at h13q hU13 hr13
 symm
 refine Uc (ns:=ss.map λn=>((n:Nat):Int)) (.inl (SqL.of (by rw[A1D];exact h13a))) (λm hm=>?_) ?_ ?_
 . obtain⟨x,hx,rfl⟩:=A0N.mp hm;have:=hsx x hx;omega
 . rw[A01];omega
 rw[show(ss.map λn=>((n:Nat):Int)).sum=((ss.sum:Nat):Int) by have:=Hu (λn:Nat=>n) ss;rwa[List.map_id'] at this]
 symm
 refine K9 (SqL.of h13q) λq14 H14 hq14 e14 h14=>?_;rw[G9 ∅,<- A2W,show(10-((ss.sum:Nat):Int)).toNat=(n1.drop ss.sum).length by rw[A1G];omega,List.drop_left] at h14;have hF14:=hF13.same e14
 symm
 refine⟨d,l,q14,_,rfl,hF14,.inl (SqL.of h14),by rw[A01,A0O];omega,λp11 ys11 H15 hp11 e15 hF15 h15 hperm=>?_⟩;obtain⟨ns,rfl,hpm⟩:=Ic hperm;have h15p:=e15 _ _ (hF14.lst (e14 _ _ h13p)) (e14 _ _ h13p);have hI15:=IsL.fz (hF14.fz e15) _ _ (Bo rs) (IsL.mono e14 _ _ hI13)
 symm
 refine Gg (SqL.of h15) λt16 H16 ht16 e16 h16=>?_
 symm
 refine Gg (SqL.of (e16 _ _ h15p)) λt17 H17 ht17 e17 h17=>?_
 symm
 refine Cs (A6 (by simp)) λt18 H18 ht18 e18 h18=>?_;have e1618:=e17.trans e18;have hnl:=hpm.length_eq;rw[A0O] at hnl;refine k (.ref t18) ns rs H18 (by walk_at "fr") (by walk_at "fd") (af0 (SqT.of h18) ((Gx (SqT.of h16)).nm_fz e1618.fz) (Is.of_tup (SqT.of (e18 _ _ h17)) (IsL.mono (e16.trans e1618) _ _ hI15))) (Mx ((hN1.sublist (A3X _ _)).perm hpm) ∅ hpm.symm hU13 ∅)
def spLaw (K:W.Frag):Sp:=λvs H Q _=>∃(a:Addr) (ns:List Int),vs=[.ref a]/\SqL K H a (ns.map V.int)/\ns.length<=63/\∀ H',Q (.bl true) H'
theorem ax7 {t:TT}{ta tb:TE}{σ:L2.St}{H:Hp}{Q:VK}(k:t σ H λc H1=>if c=true then ta σ H1 Q else tb σ H1 Q):tIf t ta tb σ H Q:=k
def LwM (K:W.Frag)(a d l:Addr)(w:Int)(σ:L2.St)(H:Hp):Prop:=∃ v ns ps,σ=[some (.ref a),some (.ref d),some (.int w),some v,none,none,none]/\Feed H d l/\Is K H (hfD ns ps) v/\Half ns ps
theorem aj3 {f:Addr}{fd:FuncData}(F:Fun K "law" "law" Mq f fd)(T:Gj mg)(Ii:Fnd P w K mg base 1 "_law_feed" ["_law_script"] (Hq K))(A9:Fnd P w K mg base 1 "_law_draw" ["_law_feed_here","_law_many"] (Br K))(Ij:Fnd P w K mg base 4 "_law_half" ["_law_feed_here","_law_many"] (Hs K))(Hb:Fnd P w K mg base 2 "_law_count" ["_law_half_here"] (Gh K))(Eu:Fnd P w K mg base 4 "_law_free_ones" ["_law_feed_here"] (Ed K))(Ds:Fnd P w K mg base 4 "_law_rows_beside" ["_law_feed_here"] (De K))(Ip:Fnd P w K mg base 129 "_law_told" ["_law_word","_law_half_here"] (Hj K)):FnOk P w K mg base CX0 130 f fd ["_law_script"] (spLaw K):=by
 refine F.ok Jh (λvs H Q E h=>?_) (λcdv A outer s H vs Q E hr h=>?_)
 . obtain⟨a,ns,rfl,_⟩:=h;rfl
 obtain⟨a,cs,rfl,hS,h63,k⟩:=h;have hu:=Db hr;have hq:=Dc hr
 with_reducible refine⟨_,(A1 (Aa (i:=1) Jh.nd ⋯ (by eq_refl) (Bc Ii (hr.mono nofun) ⋯ (A0 (pv 0) A2)))
  (A1 (Aa (i:=2) Jh.nd ⋯ (by eq_refl) (Bc A9 (hr.mono nofun) ⋯ (A0 (pv 1) (A0 A3 A2))))
  (A1 (Aa (i:=3) Jh.nd ⋯ (by eq_refl) (Zx (Ah (C6 (K:=K) hq) (pv 2) A3 (Au _)) (Bc Eu (hr.mono nofun) ⋯ (A0 (pv 1) A2)) (Bc Ds (hr.mono nofun) ⋯ (A0 (pv 1) A2))))
  (A1 (Cq (Ah (C6 (K:=K) hq) (pv 2) A3 (Au _)) (A5 (Aa (i:=3) Jh.nd ⋯ (by eq_refl) (Bc Ij (hr.mono nofun) ⋯ (A0 (pv 1) (A0 (Af (Ae (K:=K)) A3 (Bc A9 (hr.mono nofun) ⋯ (A0 (pv 1) (A0 A3 A2)))) A2))))) At)
  (A1 (Aa (i:=4) Jh.nd ⋯ (by eq_refl) (Bc Hb (hr.mono nofun) ⋯ (A0 (pv 3) A2)))
  (A1 (Cf A0V ⋯ (Ap (K:=K) hu (B4 (A0 An (A0 An (A0 An (A0 An A2)))))) (Ab (i:=5) Jh.nd ⋯ (by eq_refl))
  (A1 (Aa (i:=6) Jh.nd ⋯ (by eq_refl) (B4 (A0 Lx (A0 Lx (A0 Lx (A0 Lx (A0 An A2)))))))
  (A1 (Cq (Ah Zh (pv 4) A3 (Au _)) (A5 (Aa (i:=6) Jh.nd ⋯ (by eq_refl) (Ao (A7 (K:=K) hu) (B4 (A0 (pv 4) (A0 A3 A2))) (Bx Xf ⋯ T.b_int PyProof.Rows.Boot.«int» (A0 (Io (C6 (K:=K) hq) (pv 5) An (Au _)) A2)) (by ac_rfl)))) At)
  (A5 (Cq (Ah (Vw (K:=K) hq) (Ag (Lj (K:=K) hq) ⋯ T.b_repr PyProof.Rows.Boot.«repr» (A0 (Bc Ip (hr.mono nofun) ⋯ (A0 (pv 5) (A0 (pv 3) A2))) A2)) (Ag (Lj (K:=K) hq) ⋯ T.b_repr PyProof.Rows.Boot.«repr» (A0 (pv 6) A2)) (Au _)) (A5 (Am Lx)) At)))))
  (A5 (Am Lx)))))))),?_⟩
 symm
 refine⟨a,cs,rfl,hS,h63,λd l H1 hd hl e1 hF=>?_⟩
 symm
 refine⟨d,l,_,rfl,hF,by omega,by omega,λw H2 hw0 hw1 e2 hF2=>?_⟩
 symm
 rename_i N hNc
 have go:∀ v3 n3 s3 H3,Feed H3 d l->Is K H3 (hfD n3 s3) v3->Half n3 s3->N [some (.ref a),some (.ref d),some (.int w),some v3,none,none,none] H3:=by
  intro v3 n3 s3 H3 hF3 hI3 hH3;refine hNc _ _ ?_;clear hNc;walk_at "rq"
  with_reducible refine Ud (LwM K a d l w) (λN hN=>?_) (fun σ1 H4 hM=>?_)
  . symm
    refine Hx (λhc=>?_) (λhc=>?_)
    . symm
      refine⟨d,l,_,rfl,hF3,by omega,by omega,λu H4 hu0 hu1 e4 hF4=>?_⟩
      symm
      refine⟨d,l,_,rfl,hF4,by omega,by omega,λv5 n5 s5 H5 e5 hF5 hI5 hH5 _=>?_⟩
      symm
      exact hN _ _ ⟨v5,n5,s5,rfl,hF5,hI5,hH5⟩
    symm
    exact hN _ _ ⟨v3,n3,s3,rfl,hF3,hI3,hH3⟩
  obtain⟨v,ns,ps,rfl,hF4,hI4,hH⟩:=hM;have hcn:=Qz (b:=Av ps) hH.names.1 hH.few
  symm
  refine⟨v,ns,ps,rfl,hI4,hH.w,hH.few,hH.ok4,λH5 e5=>?_⟩
  symm
  refine B5 (A6 (by simp)) λq6 H6 hq6 e6 h6=>?_;have hI6:=hI4.hf_fz (e5.trans e6).fz;refine Gi (SqL.of h6) ?_
  refine Ew (Aw (xs:=[V.str "all",V.str "near",V.str "sides",V.str "single"])) (λi σ H7=>∃ x5 x6,σ=[some (.ref a),some (.ref d),some (.int w),some v,some (.int ((cnt (Av ps) ns:Nat):Int)),x5,x6]/\Same H6 H7)
   ⟨_,_,rfl,.refl _⟩ (λi σ' H' hP=>?_) (λi x σ' H7 hx hi hP=>?_) (fun σ' H7 hP=>?_)
  . obtain⟨_,_,_,e⟩:=hP;exact SqL.of (e _ _ h6)
  . obtain⟨x5,x6,rfl,e7⟩:=hP
    obtain⟨z,rfl,hz⟩:∃ z:Str,x = .str z/\z∈av3:=by have:=A05 hx;simp only[List.mem_cons,List.not_mem_nil,or_false] at this;rcases this with rfl|rfl|rfl|rfl<;>exact⟨_,rfl,by decide⟩
    have hI7:=hI6.hf_fz e7.fz
    symm
    refine B5 (A6 (by simp)) λq8 H8 hq8 e8 h8=>?_;have hI8:=hI7.hf_fz e8.fz
    by_cases hm:cnt (Av ps) ns<=720
    . symm
      refine Hx (λ_=>?_) (λh=>absurd (show((cnt (Av ps) ns:Nat):Int)<721 by omega) h)
      symm
      refine B5 (A6 (by simp)) λq9 H9 hq9 e9 h9=>?_;have hI9:=hI8.hf_fz e9.fz
      symm
      obtain⟨y,hy⟩:∃ y:Int,y=if z = "single" then 1 else((cnt (Av ps) ns:Nat):Int):=⟨_,rfl⟩
      have hyb:0<=y/\y<=1000:=by rw[hy];split<;>omega
      have hat:atI [V.int ((cnt (Av ps) ns:Nat):Int),V.int 1] (if decide (V.str z=V.str "single")=true then 1 else 0)=some (.int y):=by
       rw[hy]
       by_cases hs:z = "single"
       . rw[A0W (A19 (by rw[hs])),A0W hs];rfl
       rw[A0S (by intro h;exact hs (V.str.inj (of_decide_eq_true h))),A0S hs];rfl
      obtain⟨t1,t2,t3⟩:=(ap5 (p:=1) (W:=1) (m:=y) ∅).told ∅ ∅;refine Ir h9 hat ?_
      symm
      refine⟨z,v,ns,ps,rfl,hI9,hH.w,hH.few,hH.names.2,hz,λ_ H10 e10=>?_,λh=>absurd hm ∅⟩;rw[<- hy]
      symm
      refine Nz (d:=.int y) (by simp only[Is]) t1 t2 t3 ?_
      symm
      refine Nz (d:=.int y) (by simp only[Is]) t1 t2 t3 ?_
      symm
      exact⟨_,_,rfl,((e7.trans e8).trans e9).trans e10⟩
    have hI8':Is K H8 ar9 (.ref q8):=Is.of_lst (SqL.of h8) (.cons Qj (.cons Qj (.cons Qj (.cons Qj (.one Je)))))
    symm
    refine Hx (λh=>absurd h ∅) (λ_=>?_)
    symm
    refine⟨z,v,ns,ps,rfl,hI8,hH.w,hH.few,hH.names.2,hz,λh=>absurd h hm,λ_ u9 H9 e9 hI9=>?_⟩
    symm
    refine Nz hI9 (by decide +kernel) (by decide +kernel) (by decide +kernel) ?_
    symm
    refine Nz (Is.mono e9 _ _ hI8') (by decide +kernel) (by decide +kernel) (by decide +kernel) ?_
    symm
    exact⟨_,_,rfl,(e7.trans e8).trans e9⟩
  obtain⟨x5,x6,rfl,e7⟩:=hP
  symm
  exact k H7
 clear hNc;refine ax7 ?_
 symm
 refine Hx (λhc=>?_) (λhc=>?_)
 . symm
   refine⟨d,l,rfl,hF2,λv3 n3 s3 H3 e3 hF3 hI3 hH3=>?_⟩
   symm
   exact go v3 n3 s3 H3 hF3 hI3 hH3
 symm
 refine⟨d,l,rfl,hF2,λv3 n3 s3 H3 e3 hF3 hI3 hH3=>?_⟩
 symm
 exact go v3 n3 s3 H3 hF3 hI3 hH3
end
theorem all_mk {l:W.OpenLaw}{w:World}{K:W.Frag}{h:Heap}{mg:Str->Option Value}{fa f0 f1 f2 f3 f4 f5 f6 f7 f8 f9 f10 f11 f12 f13 f14 f15 f16 f17 f18 f19 f20 f21 f22 f23 f24 f25 f26 f27 f28 f29 f30 f31 f32 C_Ways C_HalfError C_NoName C_TooMany C_NoPlace C_NoOrder:Addr}(X:K.In h)(G:h.Ns mainGlobals mg)(hfa:mg "law" = some (.ref fa))
  {D0 N0 D1 N1 D2 N2 D3 N3 D4 N4 D5 N5 D6 N6 D7 N7 D8 N8 D9 N9 D10 N10 D11 N11 D12 N12 D13 N13 D14 N14 D15 N15 D16 N16 D17 N17 D18 N18 D19 N19 D20 N20 D21 N21 D22 N22 D23 N23 D24 N24 D25 N25 D26 N26 D27 N27 D28 N28 D29 N29 D30 N30 D31 N31 D32 N32:Option Addr} {S0 S1 S2 S3 S4 S5 S6 S7 S8 S9 S10 S11 S12 S13 S14 S15 S16 S17 S18 S19 S20 S21 S22 S23 S24 S25 S26 S27 S28 S29 S30 S31 S32:Array (Option Value)} {O0 V0 E0 P0 Q0 U0 O1 V1 E1 P1 Q1 U1 O2 V2 E2 P2 Q2 U2 O3 V3 E3 P3 Q3 U3 O4 V4 E4 P4 Q4 U4 O5 V5 E5 P5 Q5 U5 O6 V6 E6 P6 Q6 U6 O7 V7 E7 P7 Q7 U7 O8 V8 E8 P8 Q8 U8 O9 V9 E9 P9 Q9 U9 O10 V10 E10 P10 Q10 U10 O11 V11 E11 P11 Q11 U11 O12 V12 E12 P12 Q12 U12 O13 V13 E13 P13 Q13 U13 O14 V14 E14 P14 Q14 U14 O15 V15 E15 P15 Q15 U15 O16 V16 E16 P16 Q16 U16 O17 V17 E17 P17 Q17 U17 O18 V18 E18 P18 Q18 U18 O19 V19 E19 P19 Q19 U19 O20 V20 E20 P20 Q20 U20 O21 V21 E21 P21 Q21 U21 O22 V22 E22 P22 Q22 U22 O23 V23 E23 P23 Q23 U23 O24 V24 E24 P24 Q24 U24 O25 V25 E25 P25 Q25 U25 O26 V26 E26 P26 Q26 U26 O27 V27 E27 P27 Q27 U27 O28 V28 E28 P28 Q28 U28 O29 V29 E29 P29 Q29 U29 O30 V30 E30 P30 Q30 U30 O31 V31 E31 P31 Q31 U31 O32 V32 E32 P32 Q32 U32:Value}
  (aC_Ways:W.nsIn K mainGlobals "Ways" = some (some (.ref C_Ways))) (pg_Ways:W.plainGet K C_Ways Str.empty=true) (hd_Ways:W.hasDictIn K C_Ways=true) (po_Ways:W.plainOver K C_Ways=true) (sa_Ways:W.findIn K (.ref C_Ways) "__setattr__" = some (some (.builtin "object.__setattr__"))) (mk_Ways:W.makesIn K C_Ways=true) (kc_Ways:W.keepIn K (.ref C_Ways)=true)
  (n_Ways_names:W.findIn K (.ref C_Ways) "names" = some none)
  (n_Ways_bits:W.findIn K (.ref C_Ways) "bits" = some none)
  (n_Ways_ahead:W.findIn K (.ref C_Ways) "ahead" = some none)
  (n_Ways_full:W.findIn K (.ref C_Ways) "full" = some none)
  (n_Ways_known:W.findIn K (.ref C_Ways) "known" = some none)
  (cg:W.specialIn K (.builtin "object.__class__") "__get__" = some (some (.builtin "getset_descriptor.__get__"))) (ct:W.takesIn K (.builtin "object.__class__")=some true)
  (aX_HalfError:W.nsIn K mainGlobals "HalfError" = some (some (.ref C_HalfError)))
  (aX_NoName:W.nsIn K mainGlobals "NoName" = some (some (.ref C_NoName)))
  (aX_TooMany:W.nsIn K mainGlobals "TooMany" = some (some (.ref C_TooMany)))
  (aX_NoPlace:W.nsIn K mainGlobals "NoPlace" = some (some (.ref C_NoPlace)))
  (aX_NoOrder:W.nsIn K mainGlobals "NoOrder" = some (some (.ref C_NoOrder)))
  (ex_HalfError:Yi K C_HalfError=true) (sX_HalfError:W.findIn K (.ref C_HalfError) "__setattr__" = some (some (.builtin "object.__setattr__"))) (gX_HalfError:W.findIn K (.ref C_HalfError) "__getattribute__" = some (some (.builtin "BaseException.__getattribute__"))) (tX_HalfError:W.findIn K (.ref C_HalfError) "__getattr__" = some none) (lX_HalfError:W.findIn K (.ref C_HalfError) "__class__" = some (some (.builtin "object.__class__")))
  (no_HalfError:ab3 K C_HalfError=true)
  (kX_HalfError:W.keepIn K (.ref C_HalfError)=true)
  (ex_NoName:Yi K C_NoName=true) (sX_NoName:W.findIn K (.ref C_NoName) "__setattr__" = some (some (.builtin "object.__setattr__"))) (gX_NoName:W.findIn K (.ref C_NoName) "__getattribute__" = some (some (.builtin "BaseException.__getattribute__"))) (tX_NoName:W.findIn K (.ref C_NoName) "__getattr__" = some none) (lX_NoName:W.findIn K (.ref C_NoName) "__class__" = some (some (.builtin "object.__class__")))
  (mr_NoName:Kf K C_NoName C_HalfError=true)
  (kX_NoName:W.keepIn K (.ref C_NoName)=true)
  (nX_NoName_name:W.findIn K (.ref C_NoName) "name" = some none)
  (ex_TooMany:Yi K C_TooMany=true) (sX_TooMany:W.findIn K (.ref C_TooMany) "__setattr__" = some (some (.builtin "object.__setattr__"))) (gX_TooMany:W.findIn K (.ref C_TooMany) "__getattribute__" = some (some (.builtin "BaseException.__getattribute__"))) (tX_TooMany:W.findIn K (.ref C_TooMany) "__getattr__" = some none) (lX_TooMany:W.findIn K (.ref C_TooMany) "__class__" = some (some (.builtin "object.__class__")))
  (mr_TooMany:Kf K C_TooMany C_HalfError=true)
  (kX_TooMany:W.keepIn K (.ref C_TooMany)=true)
  (nX_TooMany_word:W.findIn K (.ref C_TooMany) "word" = some none)
  (ex_NoPlace:Yi K C_NoPlace=true) (sX_NoPlace:W.findIn K (.ref C_NoPlace) "__setattr__" = some (some (.builtin "object.__setattr__"))) (gX_NoPlace:W.findIn K (.ref C_NoPlace) "__getattribute__" = some (some (.builtin "BaseException.__getattribute__"))) (tX_NoPlace:W.findIn K (.ref C_NoPlace) "__getattr__" = some none) (lX_NoPlace:W.findIn K (.ref C_NoPlace) "__class__" = some (some (.builtin "object.__class__")))
  (mr_NoPlace:Kf K C_NoPlace C_HalfError=true)
  (kX_NoPlace:W.keepIn K (.ref C_NoPlace)=true)
  (nX_NoPlace_number:W.findIn K (.ref C_NoPlace) "number" = some none)
  (ex_NoOrder:Yi K C_NoOrder=true) (sX_NoOrder:W.findIn K (.ref C_NoOrder) "__setattr__" = some (some (.builtin "object.__setattr__"))) (gX_NoOrder:W.findIn K (.ref C_NoOrder) "__getattribute__" = some (some (.builtin "BaseException.__getattribute__"))) (tX_NoOrder:W.findIn K (.ref C_NoOrder) "__getattr__" = some none) (lX_NoOrder:W.findIn K (.ref C_NoOrder) "__class__" = some (some (.builtin "object.__class__")))
  (mr_NoOrder:Kf K C_NoOrder C_HalfError=true)
  (no_NoOrder:ab3 K C_NoOrder=true)
  (kX_NoOrder:W.keepIn K (.ref C_NoOrder)=true)
  (ndX:([C_HalfError,C_NoName,C_NoOrder,C_NoPlace,C_TooMany]:List Addr).Nodup)
  (a0:W.nsIn K mainGlobals "behind_each" = some (some (.ref f0))) (l0:K.lookup f0=some ⟨O0,D0,.func (W.fnOf "behind_each" "behind_each" (Ad Cn) (Ac Cn) (A4 Cn) .none V0 E0 P0 N0 Q0 U0),S0⟩) (c0:W.codeIn K Q0 "behind_each" = true) (k0:W.keepIn K (.ref f0)=true)
  (a1:W.nsIn K mainGlobals "bits_of" = some (some (.ref f1))) (l1:K.lookup f1=some ⟨O1,D1,.func (W.fnOf "bits_of" "bits_of" (Ad G7) (Ac G7) (A4 G7) .none V1 E1 P1 N1 Q1 U1),S1⟩) (c1:W.codeIn K Q1 "bits_of" = true) (k1:W.keepIn K (.ref f1)=true)
  (a2:W.nsIn K mainGlobals "bits_ahead" = some (some (.ref f2))) (l2:K.lookup f2=some ⟨O2,D2,.func (W.fnOf "bits_ahead" "bits_ahead" (Ad Dn) (Ac Dn) (A4 Dn) .none V2 E2 P2 N2 Q2 U2),S2⟩) (c2:W.codeIn K Q2 "bits_ahead" = true) (k2:W.keepIn K (.ref f2)=true)
  (a3:W.nsIn K mainGlobals "orders_on" = some (some (.ref f3))) (l3:K.lookup f3=some ⟨O3,D3,.func (W.fnOf "orders_on" "orders_on" (Ad Dg) (Ac Dg) (A4 Dg) .none V3 E3 P3 N3 Q3 U3),S3⟩) (c3:W.codeIn K Q3 "orders_on" = true) (k3:W.keepIn K (.ref f3)=true)
  (a4:W.nsIn K mainGlobals "all_orders" = some (some (.ref f4))) (l4:K.lookup f4=some ⟨O4,D4,.func (W.fnOf "all_orders" "all_orders" (Ad Dp) (Ac Dp) (A4 Dp) .none V4 E4 P4 N4 Q4 U4),S4⟩) (c4:W.codeIn K Q4 "all_orders" = true) (k4:W.keepIn K (.ref f4)=true)
  (a5:W.nsIn K mainGlobals "pairs_apart" = some (some (.ref f5))) (l5:K.lookup f5=some ⟨O5,D5,.func (W.fnOf "pairs_apart" "pairs_apart" (Ad Co) (Ac Co) (A4 Co) .none V5 E5 P5 N5 Q5 U5),S5⟩) (c5:W.codeIn K Q5 "pairs_apart" = true) (k5:W.keepIn K (.ref f5)=true)
  (a6:W.nsIn K mainGlobals "swapped" = some (some (.ref f6))) (l6:K.lookup f6=some ⟨O6,D6,.func (W.fnOf "swapped" "swapped" (Ad Ga) (Ac Ga) (A4 Ga) .none V6 E6 P6 N6 Q6 U6),S6⟩) (c6:W.codeIn K Q6 "swapped" = true) (k6:W.keepIn K (.ref f6)=true)
  (a7:W.nsIn K mainGlobals "step_towards" = some (some (.ref f7))) (l7:K.lookup f7=some ⟨O7,D7,.func (W.fnOf "step_towards" "step_towards" (Ad Cd) (Ac Cd) (A4 Cd) .none V7 E7 P7 N7 Q7 U7),S7⟩) (c7:W.codeIn K Q7 "step_towards" = true) (k7:W.keepIn K (.ref f7)=true)
  (a8:W.nsIn K mainGlobals "sides" = some (some (.ref f8))) (l8:K.lookup f8=some ⟨O8,D8,.func (W.fnOf "sides" "sides" (Ad Jr) (Ac Jr) (A4 Jr) .none V8 E8 P8 N8 Q8 U8),S8⟩) (c8:W.codeIn K Q8 "sides" = true) (k8:W.keepIn K (.ref f8)=true)
  (a9:W.nsIn K mainGlobals "listed_by_turns" = some (some (.ref f9))) (l9:K.lookup f9=some ⟨O9,D9,.func (W.fnOf "listed_by_turns" "listed_by_turns" (Ad B3) (Ac B3) (A4 B3) .none V9 E9 P9 N9 Q9 U9),S9⟩) (c9:W.codeIn K Q9 "listed_by_turns" = true) (k9:W.keepIn K (.ref f9)=true)
  (a10:W.nsIn K mainGlobals "near_list" = some (some (.ref f10))) (l10:K.lookup f10=some ⟨O10,D10,.func (W.fnOf "near_list" "near_list" (Ad Ek) (Ac Ek) (A4 Ek) .none V10 E10 P10 N10 Q10 U10),S10⟩) (c10:W.codeIn K Q10 "near_list" = true) (k10:W.keepIn K (.ref f10)=true)
  (a11:W.nsIn K mainGlobals "to_and_fro" = some (some (.ref f11))) (l11:K.lookup f11=some ⟨O11,D11,.func (W.fnOf "to_and_fro" "to_and_fro" (Ad Ch) (Ac Ch) (A4 Ch) .none V11 E11 P11 N11 Q11 U11),S11⟩) (c11:W.codeIn K Q11 "to_and_fro" = true) (k11:W.keepIn K (.ref f11)=true)
  (a12:W.nsIn K mainGlobals "orders_by_one_swap" = some (some (.ref f12))) (l12:K.lookup f12=some ⟨O12,D12,.func (W.fnOf "orders_by_one_swap" "orders_by_one_swap" (Ad B0) (Ac B0) (A4 B0) .none V12 E12 P12 N12 Q12 U12),S12⟩) (c12:W.codeIn K Q12 "orders_by_one_swap" = true) (k12:W.keepIn K (.ref f12)=true)
  (a13:W.nsIn K mainGlobals "single_list_on" = some (some (.ref f13))) (l13:K.lookup f13=some ⟨O13,D13,.func (W.fnOf "single_list_on" "single_list_on" (Ad B9) (Ac B9) (A4 B9) .none V13 E13 P13 N13 Q13 U13),S13⟩) (c13:W.codeIn K Q13 "single_list_on" = true) (k13:W.keepIn K (.ref f13)=true)
  (a14:W.nsIn K mainGlobals "searched_single_list" = some (some (.ref f14))) (l14:K.lookup f14=some ⟨O14,D14,.func (W.fnOf "searched_single_list" "searched_single_list" (Ad Aq) (Ac Aq) (A4 Aq) .none V14 E14 P14 N14 Q14 U14),S14⟩) (c14:W.codeIn K Q14 "searched_single_list" = true) (k14:W.keepIn K (.ref f14)=true)
  (a15:W.nsIn K mainGlobals "single_list" = some (some (.ref f15))) (l15:K.lookup f15=some ⟨O15,D15,.func (W.fnOf "single_list" "single_list" (Ad Cp) (Ac Cp) (A4 Cp) .none V15 E15 P15 N15 Q15 U15),S15⟩) (c15:W.codeIn K Q15 "single_list" = true) (k15:W.keepIn K (.ref f15)=true)
  (a16:W.nsIn K mainGlobals "_law_feed" = some (some (.ref f16))) (l16:K.lookup f16=some ⟨O16,D16,.func (W.fnOf "_law_feed" "_law_feed" (Ad En) (Ac En) (A4 En) .none V16 E16 P16 N16 Q16 U16),S16⟩) (c16:W.codeIn K Q16 "_law_feed" = true) (k16:W.keepIn K (.ref f16)=true)
  (a17:W.nsIn K mainGlobals "_law_draw" = some (some (.ref f17))) (l17:K.lookup f17=some ⟨O17,D17,.func (W.fnOf "_law_draw" "_law_draw" (Ad Ej) (Ac Ej) (A4 Ej) .none V17 E17 P17 N17 Q17 U17),S17⟩) (c17:W.codeIn K Q17 "_law_draw" = true) (k17:W.keepIn K (.ref f17)=true)
  (a18:W.nsIn K mainGlobals "_law_shuffled" = some (some (.ref f18))) (l18:K.lookup f18=some ⟨O18,D18,.func (W.fnOf "_law_shuffled" "_law_shuffled" (Ad Bw) (Ac Bw) (A4 Bw) .none V18 E18 P18 N18 Q18 U18),S18⟩) (c18:W.codeIn K Q18 "_law_shuffled" = true) (k18:W.keepIn K (.ref f18)=true)
  (a19:W.nsIn K mainGlobals "_law_names" = some (some (.ref f19))) (l19:K.lookup f19=some ⟨O19,D19,.func (W.fnOf "_law_names" "_law_names" (Ad Dm) (Ac Dm) (A4 Dm) .none V19 E19 P19 N19 Q19 U19),S19⟩) (c19:W.codeIn K Q19 "_law_names" = true) (k19:W.keepIn K (.ref f19)=true)
  (a20:W.nsIn K mainGlobals "_law_is_laid" = some (some (.ref f20))) (l20:K.lookup f20=some ⟨O20,D20,.func (W.fnOf "_law_is_laid" "_law_is_laid" (Ad C9) (Ac C9) (A4 C9) .none V20 E20 P20 N20 Q20 U20),S20⟩) (c20:W.codeIn K Q20 "_law_is_laid" = true) (k20:W.keepIn K (.ref f20)=true)
  (a21:W.nsIn K mainGlobals "_law_half" = some (some (.ref f21))) (l21:K.lookup f21=some ⟨O21,D21,.func (W.fnOf "_law_half" "_law_half" (Ad Ef) (Ac Ef) (A4 Ef) .none V21 E21 P21 N21 Q21 U21),S21⟩) (c21:W.codeIn K Q21 "_law_half" = true) (k21:W.keepIn K (.ref f21)=true)
  (a22:W.nsIn K mainGlobals "_law_over" = some (some (.ref f22))) (l22:K.lookup f22=some ⟨O22,D22,.func (W.fnOf "_law_over" "_law_over" (Ad El) (Ac El) (A4 El) .none V22 E22 P22 N22 Q22 U22),S22⟩) (c22:W.codeIn K Q22 "_law_over" = true) (k22:W.keepIn K (.ref f22)=true)
  (a23:W.nsIn K mainGlobals "_law_next_ones" = some (some (.ref f23))) (l23:K.lookup f23=some ⟨O23,D23,.func (W.fnOf "_law_next_ones" "_law_next_ones" (Ad Bl) (Ac Bl) (A4 Bl) .none V23 E23 P23 N23 Q23 U23),S23⟩) (c23:W.codeIn K Q23 "_law_next_ones" = true) (k23:W.keepIn K (.ref f23)=true)
  (a24:W.nsIn K mainGlobals "_law_count" = some (some (.ref f24))) (l24:K.lookup f24=some ⟨O24,D24,.func (W.fnOf "_law_count" "_law_count" (Ad Dl) (Ac Dl) (A4 Dl) .none V24 E24 P24 N24 Q24 U24),S24⟩) (c24:W.codeIn K Q24 "_law_count" = true) (k24:W.keepIn K (.ref f24)=true)
  (a25:W.nsIn K mainGlobals "_law_free_ones" = some (some (.ref f25))) (l25:K.lookup f25=some ⟨O25,D25,.func (W.fnOf "_law_free_ones" "_law_free_ones" (Ad Bm) (Ac Bm) (A4 Bm) .none V25 E25 P25 N25 Q25 U25),S25⟩) (c25:W.codeIn K Q25 "_law_free_ones" = true) (k25:W.keepIn K (.ref f25)=true)
  (a26:W.nsIn K mainGlobals "_law_rows_beside" = some (some (.ref f26))) (l26:K.lookup f26=some ⟨O26,D26,.func (W.fnOf "_law_rows_beside" "_law_rows_beside" (Ad B7) (Ac B7) (A4 B7) .none V26 E26 P26 N26 Q26 U26),S26⟩) (c26:W.codeIn K Q26 "_law_rows_beside" = true) (k26:W.keepIn K (.ref f26)=true)
  (a27:W.nsIn K mainGlobals "_law_told" = some (some (.ref f27))) (l27:K.lookup f27=some ⟨O27,D27,.func (W.fnOf "_law_told" "_law_told" (Ad Eg) (Ac Eg) (A4 Eg) .none V27 E27 P27 N27 Q27 U27),S27⟩) (c27:W.codeIn K Q27 "_law_told" = true) (k27:W.keepIn K (.ref f27)=true)
  (a28:W.nsIn K mainGlobals "law" = some (some (.ref f28))) (l28:K.lookup f28=some ⟨O28,D28,.func (W.fnOf "law" "law" (Ad Mq) (Ac Mq) (A4 Mq) .none V28 E28 P28 N28 Q28 U28),S28⟩) (c28:W.codeIn K Q28 "law" = true) (k28:W.keepIn K (.ref f28)=true)
  (a29:W.findIn K (.ref C_Ways) "__init__" = some (some (.ref f29))) (i29:W.isFn K (.ref f29)=true) (l29:K.lookup f29=some ⟨O29,D29,.func (W.fnOf "__init__" "Ways.__init__" (Ad Ee) (Ac Ee) (A4 Ee) .none V29 E29 P29 N29 Q29 U29),S29⟩) (c29:W.codeIn K Q29 "Ways.__init__" = true) (k29:W.keepIn K (.ref f29)=true)
  (a30:W.findIn K (.ref C_Ways) "free_names" = some (some (.ref f30))) (i30:W.isFn K (.ref f30)=true) (l30:K.lookup f30=some ⟨O30,D30,.func (W.fnOf "free_names" "Ways.free_names" (Ad Bh) (Ac Bh) (A4 Bh) .none V30 E30 P30 N30 Q30 U30),S30⟩) (c30:W.codeIn K Q30 "Ways.free_names" = true) (k30:W.keepIn K (.ref f30)=true)
  (a31:W.findIn K (.ref C_Ways) "ways_on" = some (some (.ref f31))) (i31:W.isFn K (.ref f31)=true) (l31:K.lookup f31=some ⟨O31,D31,.func (W.fnOf "ways_on" "Ways.ways_on" (Ad Bv) (Ac Bv) (A4 Bv) .none V31 E31 P31 N31 Q31 U31),S31⟩) (c31:W.codeIn K Q31 "Ways.ways_on" = true) (k31:W.keepIn K (.ref f31)=true)
  (a32:W.findIn K (.ref C_TooMany) "__init__" = some (some (.ref f32))) (i32:W.isFn K (.ref f32)=true) (l32:K.lookup f32=some ⟨O32,D32,.func (W.fnOf "__init__" "TooMany.__init__" (Ad C8) (Ac C8) (A4 C8) .none V32 E32 P32 N32 Q32 U32),S32⟩) (c32:W.codeIn K Q32 "TooMany.__init__" = true) (k32:W.keepIn K (.ref f32)=true)
  {t0:Tok} (g0:W.nsIn K mainGlobals "MOST_LISTED" = some (some (.int 720 t0)))
  {t1:Tok} (g1:W.nsIn K mainGlobals "MOST_SEARCHED" = some (some (.int 12 t1)))
  (z0:W.nsIn K mainGlobals "ValueError" = some none)
  (z1:W.nsIn K mainGlobals "abs" = some none)
  (z2:W.nsIn K mainGlobals "dict" = some none)
  (z3:W.nsIn K mainGlobals "enumerate" = some none)
  (z4:W.nsIn K mainGlobals "int" = some none)
  (z5:W.nsIn K mainGlobals "isinstance" = some none)
  (z6:W.nsIn K mainGlobals "len" = some none)
  (z7:W.nsIn K mainGlobals "list" = some none)
  (z8:W.nsIn K mainGlobals "range" = some none)
  (z9:W.nsIn K mainGlobals "repr" = some none)
  (z10:W.nsIn K mainGlobals "sorted" = some none)
  (z11:W.nsIn K mainGlobals "sum" = some none)
  (z12:W.nsIn K mainGlobals "tuple" = some none)
  : ∃ fd:FuncData,(∀(s:Shared) (v:Value),BindsTo s fd ⟨[v],[]⟩ [("_law_script",v)])/\∀ base:Heap,K.In base->base.Ns mainGlobals mg->FnOk l.prog w K mg base CX0 130 fa fd ["_law_script"] (spLaw K):=by
 have e:=hfa.symm.trans (A0F X G a28)
 cases e;have T:Gj mg:=⟨⟨_,A0F X G g0,⟨_,rfl⟩⟩,⟨_,A0F X G g1,⟨_,rfl⟩⟩,A1C X G z0,A1C X G z1,A1C X G z2,A1C X G z3,A1C X G z4,A1C X G z5,A1C X G z6,A1C X G z7,A1C X G z8,A1C X G z9,A1C X G z10,A1C X G z11,A1C X G z12⟩;have F0:=Ba (st:=Cn) l0 c0 k0;have b0:Binds K _ ["half"] []:=Fc F0 λ_ _ _ _ _ _ _=>rfl;have F1:=Ba (st:=G7) l1 c1 k1;have b1:Binds K _ ["names"] []:=Fc F1 λ_ _ _ _ _ _ _=>rfl;have F2:=Ba (st:=Dn) l2 c2 k2;have b2:Binds K _ ["half","bits"] []:=Fq F2 λ_ _ _ _ _ _ _ _=>rfl;have F3:=Ba (st:=Dg) l3 c3 k3;have b3:Binds K _ ["ways","left"] []:=Fq F3 λ_ _ _ _ _ _ _ _=>rfl;have F4:=Ba (st:=Dp) l4 c4 k4;have b4:Binds K _ ["half"] []:=Fc F4 λ_ _ _ _ _ _ _=>rfl;have F5:=Ba (st:=Co) l5 c5 k5;have b5:Binds K _ ["one","other"] []:=Fq F5 λ_ _ _ _ _ _ _ _=>rfl;have F6:=Ba (st:=Ga) l6 c6 k6;have b6:Binds K _ ["order","place"] []:=Fq F6 λ_ _ _ _ _ _ _ _=>rfl;have F7:=Ba (st:=Cd) l7 c7 k7;have b7:Binds K _ ["order","goal"] []:=Fq F7 λ_ _ _ _ _ _ _ _=>rfl;have F8:=Ba (st:=Jr) l8 c8 k8;have b8:Binds K _ ["half"] []:=Fc F8 λ_ _ _ _ _ _ _=>rfl;have F9:=Ba (st:=B3) l9 c9 k9;have b9:Binds K _ ["tree","order","goes_ahead"] []:=a33 F9 λ_ _ _ _ _ _ _ _ _=>rfl;have F10:=Ba (st:=Ek) l10 c10 k10;have b10:Binds K _ ["half"] []:=Fc F10 λ_ _ _ _ _ _ _=>rfl;have F11:=Ba (st:=Ch) l11 c11 k11;have b11:Binds K _ ["names"] []:=Fc F11 λ_ _ _ _ _ _ _=>rfl;have F12:=Ba (st:=B0) l12 c12 k12;have b12:Binds K _ ["orders"] []:=Fc F12 λ_ _ _ _ _ _ _=>rfl;have F13:=Ba (st:=B9) l13 c13 k13;have b13:Binds K _ ["near","begun"] []:=Fq F13 λ_ _ _ _ _ _ _ _=>rfl;have F14:=Ba (st:=Aq) l14 c14 k14;have b14:Binds K _ ["orders"] []:=Fc F14 λ_ _ _ _ _ _ _=>rfl;have F15:=Ba (st:=Cp) l15 c15 k15;have b15:Binds K _ ["half"] []:=Fc F15 λ_ _ _ _ _ _ _=>rfl;have F16:=Ba (st:=En) l16 c16 k16;have b16:Binds K _ ["_law_script"] []:=Fc F16 λ_ _ _ _ _ _ _=>rfl;have F17:=Ba (st:=Ej) l17 c17 k17;have b17:Binds K _ ["_law_feed_here","_law_many"] []:=Fq F17 λ_ _ _ _ _ _ _ _=>rfl;have F18:=Ba (st:=Bw) l18 c18 k18;have b18:Binds K _ ["_law_feed_here","_law_some"] []:=Fq F18 λ_ _ _ _ _ _ _ _=>rfl;have F19:=Ba (st:=Dm) l19 c19 k19;have b19:Binds K _ ["_law_feed_here"] []:=Fc F19 λ_ _ _ _ _ _ _=>rfl;have F20:=Ba (st:=C9) l20 c20 k20;have b20:Binds K _ ["_law_feed_here","_law_way","_law_j","_law_k","_law_many"] []:=al6 F20 λ_ _ _ _ _ _ _ _ _ _ _=>rfl;have F21:=Ba (st:=Ef) l21 c21 k21;have b21:Binds K _ ["_law_feed_here","_law_many"] []:=Fq F21 λ_ _ _ _ _ _ _ _=>rfl;have F22:=Ba (st:=El) l22 c22 k22;have b22:Binds K _ ["_law_half_here"] []:=Fc F22 λ_ _ _ _ _ _ _=>rfl;have F23:=Ba (st:=Bl) l23 c23 k23;have b23:Binds K _ ["_law_half_here","_law_over_here","_law_begun"] []:=a33 F23 λ_ _ _ _ _ _ _ _ _=>rfl;have F24:=Ba (st:=Dl) l24 c24 k24;have b24:Binds K _ ["_law_half_here"] []:=Fc F24 λ_ _ _ _ _ _ _=>rfl;have F25:=Ba (st:=Bm) l25 c25 k25;have b25:Binds K _ ["_law_feed_here"] []:=Fc F25 λ_ _ _ _ _ _ _=>rfl;have F26:=Ba (st:=B7) l26 c26 k26;have b26:Binds K _ ["_law_feed_here"] []:=Fc F26 λ_ _ _ _ _ _ _=>rfl;have F27:=Ba (st:=Eg) l27 c27 k27;have b27:Binds K _ ["_law_word","_law_half_here"] []:=Fq F27 λ_ _ _ _ _ _ _ _=>rfl;have F28:=Ba (st:=Mq) l28 c28 k28;have F29:=Ba (st:=Ee) l29 c29 k29;have b29:Binds K _ ["self","half"] []:=Fq F29 λ_ _ _ _ _ _ _ _=>rfl;have F30:=Ba (st:=Bh) l30 c30 k30;have b30:Binds K _ ["self","left"] []:=Fq F30 λ_ _ _ _ _ _ _ _=>rfl;have F31:=Ba (st:=Bv) l31 c31 k31;have b31:Binds K _ ["self","left"] []:=Fq F31 λ_ _ _ _ _ _ _ _=>rfl;have F32:=Ba (st:=C8) l32 c32 k32;have b32:Binds K _ ["self","word"] []:=Fq F32 λ_ _ _ _ _ _ _ _=>rfl;have k_Ways:Fv K C_Ways:=⟨⟨pg_Ways,hd_Ways,po_Ways,sa_Ways⟩,n_Ways_names,n_Ways_bits,n_Ways_ahead,n_Ways_full,n_Ways_known⟩;have x_HalfError:C3 K mg C_HalfError C_HalfError:=⟨⟨ex_HalfError,sX_HalfError,gX_HalfError,tX_HalfError,lX_HalfError,cg,ct⟩,A0F X G aX_HalfError,⟨⟨ex_HalfError,sX_HalfError,gX_HalfError,tX_HalfError,lX_HalfError,cg,ct⟩,no_HalfError,kX_HalfError,A0F X G aX_HalfError⟩⟩;have x_NoName:Fb K mg C_NoName C_HalfError:=⟨⟨ex_NoName,sX_NoName,gX_NoName,tX_NoName,lX_NoName,cg,ct⟩,A0F X G aX_NoName,mr_NoName,nX_NoName_name⟩;have x_TooMany:Dj K mg C_TooMany C_HalfError:=⟨⟨ex_TooMany,sX_TooMany,gX_TooMany,tX_TooMany,lX_TooMany,cg,ct⟩,A0F X G aX_TooMany,mr_TooMany,nX_TooMany_word⟩;have x_NoPlace:L3 K mg C_NoPlace C_HalfError:=⟨⟨ex_NoPlace,sX_NoPlace,gX_NoPlace,tX_NoPlace,lX_NoPlace,cg,ct⟩,A0F X G aX_NoPlace,mr_NoPlace,nX_NoPlace_number⟩;have x_NoOrder:Ku K mg C_NoOrder C_HalfError:=⟨⟨ex_NoOrder,sX_NoOrder,gX_NoOrder,tX_NoOrder,lX_NoOrder,cg,ct⟩,A0F X G aX_NoOrder,mr_NoOrder,⟨⟨ex_NoOrder,sX_NoOrder,gX_NoOrder,tX_NoOrder,lX_NoOrder,cg,ct⟩,no_NoOrder,kX_NoOrder,A0F X G aX_NoOrder⟩⟩;refine⟨W.fnOf "law" "law" (Ad Mq) (Ac Mq) (A4 Mq) .none V28 E28 P28 N28 Q28 U28,λs v=>.of_eq rfl,λbase _ _=>?_⟩;have Gr:Fnd l.prog w K mg base 1 "behind_each" ["half"] (G2 K):=⟨_,_,Lu F0 T,A0F X G a0,k0,b0⟩;have Ks:Fnd l.prog w K mg base 1 "bits_of" ["names"] (Ju K):=⟨_,_,Uw F1 T,A0F X G a1,k1,b1⟩;have Gn:Fnd l.prog w K mg base 1 "pairs_apart" ["one","other"] (Fy K):=⟨_,_,M1 F5 T,A0F X G a5,k5,b5⟩;have G6:Fnd l.prog w K mg base 1 "swapped" ["order","place"] (I0 K):=⟨_,_,Tp F6 T,A0F X G a6,k6,b6⟩;have Ii:Fnd l.prog w K mg base 1 "_law_feed" ["_law_script"] (Hq K):=⟨_,_,Pz F16 T,A0F X G a16,k16,b16⟩;have A9:Fnd l.prog w K mg base 1 "_law_draw" ["_law_feed_here","_law_many"] (Br K):=⟨_,_,Op F17 T,A0F X G a17,k17,b17⟩;have Ix:Fnd l.prog w K mg base 1 "_law_over" ["_law_half_here"] (Hm K):=⟨_,_,Pu F22 T,A0F X G a22,k22,b22⟩;have Ev:Fnd l.prog w K mg base 1 "_law_next_ones" ["_law_half_here","_law_over_here","_law_begun"] (Em K):=⟨_,_,Jt F23 T,A0F X G a23,k23,b23⟩;have Aj:Mtd l.prog w K mg base 1 C_Ways "free_names" ["self","left"] (B8 C_Ways K):=⟨_,_,J6 F30 T k_Ways,⟨a30,i30,k30⟩,b30⟩;have G3:Mkx l.prog w K mg base 1 C_TooMany "TooMany" ["self","word"] (spX C_TooMany ["word"]):=⟨_,_,L4 F32 T x_HalfError x_TooMany,x_TooMany.xc,a32,i32,kX_TooMany,A0F X G aX_TooMany,b32⟩;have Ht:Fnd l.prog w K mg base 2 "bits_ahead" ["half","bits"] (Gf K):=⟨_,_,Nn F2 T Gr,A0F X G a2,k2,b2⟩;have G0:Fnd l.prog w K mg base 2 "step_towards" ["order","goal"] (Fl K):=⟨_,_,Lh F7 T G6,A0F X G a7,k7,b7⟩;have Cv:Fnd l.prog w K mg base 2 "orders_by_one_swap" ["orders"] (Ci K):=⟨_,_,Gy F12 T G6,A0F X G a12,k12,b12⟩;have Ai:Fnd l.prog w K mg base 2 "_law_shuffled" ["_law_feed_here","_law_some"] (Bn K):=⟨_,_,Kh F18 T A9,A0F X G a18,k18,b18⟩;have Fw:Fnd l.prog w K mg base 2 "_law_is_laid" ["_law_feed_here","_law_way","_law_j","_law_k","_law_many"] (Fp K):=⟨_,_,L5 F20 T A9,A0F X G a20,k20,b20⟩;have Hb:Fnd l.prog w K mg base 2 "_law_count" ["_law_half_here"] (Gh K):=⟨_,_,Nq F24 T Ix Ev,A0F X G a24,k24,b24⟩;have Bt:Fnd l.prog w K mg base 3 "_law_names" ["_law_feed_here"] (Dy K):=⟨_,_,Nr F19 T A9 Ai,A0F X G a19,k19,b19⟩;have Im:Mkd l.prog w K mg base 3 C_Ways "Ways" ["self","half"] (Hk C_Ways K):=⟨_,_,Ox F29 T k_Ways Ks Ht,⟨mk_Ways,a29,i29,kc_Ways⟩,A0F X G aC_Ways,b29⟩;have Ij:Fnd l.prog w K mg base 4 "_law_half" ["_law_feed_here","_law_many"] (Hs K):=⟨_,_,Oj F21 T A9 Ai Bt Fw,A0F X G a21,k21,b21⟩;have Eu:Fnd l.prog w K mg base 4 "_law_free_ones" ["_law_feed_here"] (Ed K):=⟨_,_,K0 F25 T A9 Ai Bt,A0F X G a25,k25,b25⟩;have Ds:Fnd l.prog w K mg base 4 "_law_rows_beside" ["_law_feed_here"] (De K):=⟨_,_,Iu F26 T A9 Ai Bt,A0F X G a26,k26,b26⟩;have Er:Fnd l.prog w K mg base 12 "to_and_fro" ["names"] (Go K):=⟨_,_,Ny F11 T (A0F X G a11) k11 b11,A0F X G a11,k11,b11⟩;have Fj:Fnd l.prog w K mg base 13 "orders_on" ["ways","left"] (Hg C_Ways K):=⟨_,_,Qf F3 T k_Ways Aj (A0F X G a3) k3 b3,A0F X G a3,k3,b3⟩;have Cz:Mtd l.prog w K mg base 13 C_Ways "ways_on" ["self","left"] (Fn C_Ways K):=⟨_,_,Kx F31 T k_Ways Aj ⟨a31,i31,k31⟩ b31,⟨a31,i31,k31⟩,b31⟩;have B1:Uu l.prog w K mg base 14 "all_orders" ["half"] (C7 C_TooMany K):=⟨_,_,Lw F4 T k_Ways x_HalfError x_NoName x_TooMany Fj Im Cz G3,A0F X G a4,k4,b4⟩;have K1:Uu l.prog w K mg base 15 "sides" ["half"] (Ja C_TooMany K):=⟨_,_,Wl F8 T x_HalfError x_NoName x_TooMany Gn B1,A0F X G a8,k8,b8⟩;have By:Fnd l.prog w K mg base 126 "listed_by_turns" ["tree","order","goes_ahead"] (Dt K):=⟨_,_,J1 F9 T (A0F X G a9) k9 b9,A0F X G a9,k9,b9⟩;have C4:Fnd l.prog w K mg base 126 "single_list_on" ["near","begun"] (Eb K):=⟨_,_,Jw F13 T (A0F X G a13) k13 b13,A0F X G a13,k13,b13⟩;have Il:Uu l.prog w K mg base 127 "near_list" ["half"] (Ge C_TooMany K):=⟨_,_,Na F10 T x_HalfError x_NoName x_TooMany G0 By B1,A0F X G a10,k10,b10⟩;have Ce:Fnd l.prog w K mg base 127 "searched_single_list" ["orders"] (C1 K):=⟨_,_,Gp F14 T Cv C4,A0F X G a14,k14,b14⟩;have Gs:Uu l.prog w K mg base 128 "single_list" ["half"] (Fh C_TooMany K):=⟨_,_,Lp F15 T x_HalfError x_NoName x_TooMany Er Ce B1 K1,A0F X G a15,k15,b15⟩;have Ip:Fnd l.prog w K mg base 129 "_law_told" ["_law_word","_law_half_here"] (Hj K):=⟨_,_,Ol F27 T x_HalfError x_NoName x_TooMany x_NoPlace x_NoOrder ndX B1 K1 Il Gs,A0F X G a27,k27,b27⟩;exact aj3 F28 T Ii A9 Ij Hb Eu Ds Ip
theorem walk {l:W.OpenLaw}{q:Program}{loose:List Str}{XP:(Str->Option Value)->Heap->Prop}{YP:World->Heap->Prop}{d:DefRec}{K:Params->W.Frag}(hn:l.most=some 63)(hdf:d.params.defaults=[])
  (hY:∀(w:World) (h:Heap),YP w h->(K w.params).In h)
  (F:∀(w:World) (mg:Str->Option Value) (fa:Addr) (h:Heap),(K w.params).In h->h.Ns mainGlobals mg->mg d.name=some (.ref fa) ->
   ∃ fd:FuncData,(∀(s:Shared) (u:Value),BindsTo s fd ⟨[u],[]⟩ [("_law_script",u)])/\∀ base:Heap,(K w.params).In base->base.Ns mainGlobals mg->FnOk l.prog w (K w.params) mg base CX0 130 fa fd ["_law_script"] (spLaw (K w.params))) :
  W.WalkO q loose XP YP l.row.toRowW d [] (λf vs=>PySem.call f vs):=
 L2.walk_of (n:=63) (k:=130) (x:="_law_script") (CX:=λ_=>CX0) (sp:=λw=>spLaw (K w.params)) hn nofun hdf ⟨rfl,by decide,by decide,rfl⟩ hY F (λ_ _ a ns hl _ hS=>⟨a,ns,rfl,hS,hl,λ_=>rfl⟩) λ_ _ _ _ _ z=>z
end K39
theorem PySem.W.Fast.tw3702540747527444928 : True := trivial
theorem PySem.W.Fast.tw11082044536687391491 : True := trivial
theorem PySem.W.Fast.tw7748710838879976456 : True := trivial
theorem PySem.W.Fast.tw6599812599443294613 : True := trivial
theorem PySem.W.Fast.tw2405067652771743870 : True := trivial
theorem PySem.W.Fast.tw13098718046823777508 : True := trivial
theorem PySem.W.Fast.tw6524630688143615644 : True := trivial
theorem PySem.W.Fast.tw4027728779193333521 : True := trivial
theorem PySem.W.Fast.tw17487629343010393005 : True := trivial
theorem PySem.W.Fast.tw8197967022764139442 : True := trivial
theorem PySem.W.Fast.tw5293885545984446352 : True := trivial
theorem PySem.W.Fast.tw7807292942010680055 : True := trivial
theorem PySem.W.Fast.tw5356919206140887633 : True := trivial
theorem PySem.W.Fast.tw4773710021173028954 : True := trivial
theorem PySem.W.Fast.tw6761564665892574332 : True := trivial
theorem PySem.W.Fast.tw9992711004848469234 : True := trivial
theorem PySem.W.Fast.tw2062478712493196180 : True := trivial
theorem PySem.W.Fast.tw236864040244267806 : True := trivial
theorem PySem.W.Fast.tw7314779479087651615 : True := trivial
theorem PySem.W.Fast.tw2923582967052313050 : True := trivial
theorem PySem.W.Fast.tw18316171800026096323 : True := trivial
theorem PySem.W.Fast.tw11463005411955086974 : True := trivial
theorem PySem.W.Fast.tw11730215742839082819 : True := trivial
theorem PySem.W.Fast.tw1094333550588602578 : True := trivial
theorem PySem.W.Fast.tw14179877272250199386 : True := trivial
theorem PySem.W.Fast.tw6265443174114135020 : True := trivial
theorem PySem.W.Fast.tw11049044859523082321 : True := trivial
theorem PySem.W.Fast.tw4464434986567600754 : True := trivial
theorem PySem.W.Fast.tw3887523496692416492 : True := trivial
theorem PySem.W.Fast.tw10538821147789118298 : True := trivial
theorem PySem.W.Fast.tw15204726736214190012 : True := trivial
theorem PySem.W.Fast.tw8052986185270359027 : True := trivial
theorem PySem.W.Fast.tw6378890105089323088 : True := trivial
theorem PySem.W.Fast.tw477694361492964243 : True := trivial
theorem PySem.W.Fast.tw11486306273355821993 : True := trivial
theorem PySem.W.Fast.tw4678607068487356983 : True := trivial
theorem PySem.W.Fast.tw12127634418375586534 : True := trivial
theorem PySem.W.Fast.tw7112735193101562915 : True := trivial
theorem PySem.W.Fast.tw9283408308651082778 : True := trivial
theorem PySem.W.Fast.tw5056395583863315555 : True := trivial
theorem PySem.W.Fast.tw14721991513806094183 : True := trivial
theorem PySem.W.Fast.tw2046569416420931191 : True := trivial
theorem PySem.W.Fast.tw1510344840572360671 : True := trivial
theorem PySem.W.Fast.tw2297409244663070176 : True := trivial
theorem PySem.W.Fast.tw6696301523411404555 : True := trivial
theorem PySem.W.Fast.tw753214137362919311 : True := trivial
theorem PySem.W.Fast.tw18024402904501975694 : True := trivial
theorem PySem.W.Fast.tw7273763878109007912 : True := trivial
theorem PySem.W.Fast.tw17025416271679093262 : True := trivial
theorem PySem.W.Fast.tw991503402866058571 : True := trivial
theorem PySem.W.Fast.tw9366764942597905179 : True := trivial
theorem PySem.W.Fast.tw9289532390907473754 : True := trivial
theorem PySem.W.Fast.tw15281974018996006031 : True := trivial
theorem PySem.W.Fast.tw10812896255792009751 : True := trivial
theorem PySem.W.Fast.tw12803921744035243229 : True := trivial
theorem PySem.W.Fast.tw1409369386717320667 : True := trivial
theorem PySem.W.Fast.tw8769517204428765243 : True := trivial
theorem PySem.W.Fast.tw2237604336323622236 : True := trivial
theorem PySem.W.Fast.tw7883386664893250240 : True := trivial
theorem PySem.W.Fast.tw16879970335082968977 : True := trivial
theorem PySem.W.Fast.tw13072485820651619551 : True := trivial
theorem PySem.W.Fast.tw6272001991310272366 : True := trivial
theorem PySem.W.Fast.tw13370527156523122980 : True := trivial
theorem PySem.W.Fast.tw7085522134101813651 : True := trivial
theorem PySem.W.Fast.tw11444597351040175729 : True := trivial
theorem PySem.W.Fast.tw11044306572296188502 : True := trivial
theorem PySem.W.Fast.tw6206625901839476845 : True := trivial
theorem PySem.W.Fast.tw9261368793934162766 : True := trivial
theorem PySem.W.Fast.tw9473967941692506349 : True := trivial
theorem PySem.W.Fast.tw9113382831310814801 : True := trivial
open PySem PySem.W PyProof.Rows
set_option maxRecDepth 100000 in
set_option maxHeartbeats 0 in
theorem PySem.Challenge.cw_halforder_k39_too_many_orders_holds : PySem.Challenge.rw_halforder_k39_too_many_orders.Holds := by
 w_on;o_law;k_head;(case hw=>w_witness2)
 k_fill
 refine K39.walk (l:=PySem.Challenge.rw_halforder_k39_too_many_orders) rfl rfl (λw h Y=>PySem.W.kIn_of Y) ?F
 case F=>
  intro w mg fa h KX G hmg;refine' K39.all_mk KX G hmg ?q_aC_Ways ?q_pg_Ways ?q_hd_Ways ?q_po_Ways ?q_sa_Ways ?q_mk_Ways ?q_kc_Ways ?q_n_Ways_names ?q_n_Ways_bits ?q_n_Ways_ahead ?q_n_Ways_full ?q_n_Ways_known ?q_cg ?q_ct ?q_aX_HalfError ?q_aX_NoName ?q_aX_TooMany ?q_aX_NoPlace ?q_aX_NoOrder ?q_ex_HalfError ?q_sX_HalfError ?q_gX_HalfError ?q_tX_HalfError ?q_lX_HalfError ?q_no_HalfError ?q_kX_HalfError ?q_ex_NoName ?q_sX_NoName ?q_gX_NoName ?q_tX_NoName ?q_lX_NoName ?q_mr_NoName ?q_kX_NoName ?q_nX_NoName_name ?q_ex_TooMany ?q_sX_TooMany ?q_gX_TooMany ?q_tX_TooMany ?q_lX_TooMany ?q_mr_TooMany ?q_kX_TooMany ?q_nX_TooMany_word ?q_ex_NoPlace ?q_sX_NoPlace ?q_gX_NoPlace ?q_tX_NoPlace ?q_lX_NoPlace ?q_mr_NoPlace ?q_kX_NoPlace ?q_nX_NoPlace_number ?q_ex_NoOrder ?q_sX_NoOrder ?q_gX_NoOrder ?q_tX_NoOrder ?q_lX_NoOrder ?q_mr_NoOrder ?q_no_NoOrder ?q_kX_NoOrder ?q_ndX ?q_a0 ?q_l0 ?q_c0 ?q_k0 ?q_a1 ?q_l1 ?q_c1 ?q_k1 ?q_a2 ?q_l2 ?q_c2 ?q_k2 ?q_a3 ?q_l3 ?q_c3 ?q_k3 ?q_a4 ?q_l4 ?q_c4 ?q_k4 ?q_a5 ?q_l5 ?q_c5 ?q_k5 ?q_a6 ?q_l6 ?q_c6 ?q_k6 ?q_a7 ?q_l7 ?q_c7 ?q_k7 ?q_a8 ?q_l8 ?q_c8 ?q_k8 ?q_a9 ?q_l9 ?q_c9 ?q_k9 ?q_a10 ?q_l10 ?q_c10 ?q_k10 ?q_a11 ?q_l11 ?q_c11 ?q_k11 ?q_a12 ?q_l12 ?q_c12 ?q_k12 ?q_a13 ?q_l13 ?q_c13 ?q_k13 ?q_a14 ?q_l14 ?q_c14 ?q_k14 ?q_a15 ?q_l15 ?q_c15 ?q_k15 ?q_a16 ?q_l16 ?q_c16 ?q_k16 ?q_a17 ?q_l17 ?q_c17 ?q_k17 ?q_a18 ?q_l18 ?q_c18 ?q_k18 ?q_a19 ?q_l19 ?q_c19 ?q_k19 ?q_a20 ?q_l20 ?q_c20 ?q_k20 ?q_a21 ?q_l21 ?q_c21 ?q_k21 ?q_a22 ?q_l22 ?q_c22 ?q_k22 ?q_a23 ?q_l23 ?q_c23 ?q_k23 ?q_a24 ?q_l24 ?q_c24 ?q_k24 ?q_a25 ?q_l25 ?q_c25 ?q_k25 ?q_a26 ?q_l26 ?q_c26 ?q_k26 ?q_a27 ?q_l27 ?q_c27 ?q_k27 ?q_a28 ?q_l28 ?q_c28 ?q_k28 ?q_a29 ?q_i29 ?q_l29 ?q_c29 ?q_k29 ?q_a30 ?q_i30 ?q_l30 ?q_c30 ?q_k30 ?q_a31 ?q_i31 ?q_l31 ?q_c31 ?q_k31 ?q_a32 ?q_i32 ?q_l32 ?q_c32 ?q_k32 ?q_g0 ?q_g1 ?q_z0 ?q_z1 ?q_z2 ?q_z3 ?q_z4 ?q_z5 ?q_z6 ?q_z7 ?q_z8 ?q_z9 ?q_z10 ?q_z11 ?q_z12
  (case q_aC_Ways=>k_is)
  (case q_pg_Ways=>k_is)
  (case q_hd_Ways=>k_is)
  (case q_po_Ways=>k_is)
  (case q_sa_Ways=>k_is)
  (case q_mk_Ways=>k_is)
  (case q_kc_Ways=>k_is)
  (case q_n_Ways_names=>k_is)
  (case q_n_Ways_bits=>k_is)
  (case q_n_Ways_ahead=>k_is)
  (case q_n_Ways_full=>k_is)
  (case q_n_Ways_known=>k_is)
  (case q_cg=>k_is)
  (case q_ct=>k_is)
  (case q_aX_HalfError=>k_is)
  (case q_aX_NoName=>k_is)
  (case q_aX_TooMany=>k_is)
  (case q_aX_NoPlace=>k_is)
  (case q_aX_NoOrder=>k_is)
  (case q_ex_HalfError=>kernel_rfl)
  (case q_sX_HalfError=>k_is)
  (case q_gX_HalfError=>k_is)
  (case q_tX_HalfError=>k_is)
  (case q_lX_HalfError=>k_is)
  (case q_no_HalfError=>kernel_rfl)
  (case q_kX_HalfError=>k_is)
  (case q_ex_NoName=>kernel_rfl)
  (case q_sX_NoName=>k_is)
  (case q_gX_NoName=>k_is)
  (case q_tX_NoName=>k_is)
  (case q_lX_NoName=>k_is)
  (case q_mr_NoName=>kernel_rfl)
  (case q_kX_NoName=>k_is)
  (case q_nX_NoName_name=>k_is)
  (case q_ex_TooMany=>kernel_rfl)
  (case q_sX_TooMany=>k_is)
  (case q_gX_TooMany=>k_is)
  (case q_tX_TooMany=>k_is)
  (case q_lX_TooMany=>k_is)
  (case q_mr_TooMany=>kernel_rfl)
  (case q_kX_TooMany=>k_is)
  (case q_nX_TooMany_word=>k_is)
  (case q_ex_NoPlace=>kernel_rfl)
  (case q_sX_NoPlace=>k_is)
  (case q_gX_NoPlace=>k_is)
  (case q_tX_NoPlace=>k_is)
  (case q_lX_NoPlace=>k_is)
  (case q_mr_NoPlace=>kernel_rfl)
  (case q_kX_NoPlace=>k_is)
  (case q_nX_NoPlace_number=>k_is)
  (case q_ex_NoOrder=>kernel_rfl)
  (case q_sX_NoOrder=>k_is)
  (case q_gX_NoOrder=>k_is)
  (case q_tX_NoOrder=>k_is)
  (case q_lX_NoOrder=>k_is)
  (case q_mr_NoOrder=>kernel_rfl)
  (case q_no_NoOrder=>kernel_rfl)
  (case q_kX_NoOrder=>k_is)
  (case q_ndX=>decide)
  (case q_a0=>k_is)
  (case q_l0=>k_is)
  (case q_c0=>k_is)
  (case q_k0=>k_is)
  (case q_a1=>k_is)
  (case q_l1=>k_is)
  (case q_c1=>k_is)
  (case q_k1=>k_is)
  (case q_a2=>k_is)
  (case q_l2=>k_is)
  (case q_c2=>k_is)
  (case q_k2=>k_is)
  (case q_a3=>k_is)
  (case q_l3=>k_is)
  (case q_c3=>k_is)
  (case q_k3=>k_is)
  (case q_a4=>k_is)
  (case q_l4=>k_is)
  (case q_c4=>k_is)
  (case q_k4=>k_is)
  (case q_a5=>k_is)
  (case q_l5=>k_is)
  (case q_c5=>k_is)
  (case q_k5=>k_is)
  (case q_a6=>k_is)
  (case q_l6=>k_is)
  (case q_c6=>k_is)
  (case q_k6=>k_is)
  (case q_a7=>k_is)
  (case q_l7=>k_is)
  (case q_c7=>k_is)
  (case q_k7=>k_is)
  (case q_a8=>k_is)
  (case q_l8=>k_is)
  (case q_c8=>k_is)
  (case q_k8=>k_is)
  (case q_a9=>k_is)
  (case q_l9=>k_is)
  (case q_c9=>k_is)
  (case q_k9=>k_is)
  (case q_a10=>k_is)
  (case q_l10=>k_is)
  (case q_c10=>k_is)
  (case q_k10=>k_is)
  (case q_a11=>k_is)
  (case q_l11=>k_is)
  (case q_c11=>k_is)
  (case q_k11=>k_is)
  (case q_a12=>k_is)
  (case q_l12=>k_is)
  (case q_c12=>k_is)
  (case q_k12=>k_is)
  (case q_a13=>k_is)
  (case q_l13=>k_is)
  (case q_c13=>k_is)
  (case q_k13=>k_is)
  (case q_a14=>k_is)
  (case q_l14=>k_is)
  (case q_c14=>k_is)
  (case q_k14=>k_is)
  (case q_a15=>k_is)
  (case q_l15=>k_is)
  (case q_c15=>k_is)
  (case q_k15=>k_is)
  (case q_a16=>k_is)
  (case q_l16=>k_is)
  (case q_c16=>k_is)
  (case q_k16=>k_is)
  (case q_a17=>k_is)
  (case q_l17=>k_is)
  (case q_c17=>k_is)
  (case q_k17=>k_is)
  (case q_a18=>k_is)
  (case q_l18=>k_is)
  (case q_c18=>k_is)
  (case q_k18=>k_is)
  (case q_a19=>k_is)
  (case q_l19=>k_is)
  (case q_c19=>k_is)
  (case q_k19=>k_is)
  (case q_a20=>k_is)
  (case q_l20=>k_is)
  (case q_c20=>k_is)
  (case q_k20=>k_is)
  (case q_a21=>k_is)
  (case q_l21=>k_is)
  (case q_c21=>k_is)
  (case q_k21=>k_is)
  (case q_a22=>k_is)
  (case q_l22=>k_is)
  (case q_c22=>k_is)
  (case q_k22=>k_is)
  (case q_a23=>k_is)
  (case q_l23=>k_is)
  (case q_c23=>k_is)
  (case q_k23=>k_is)
  (case q_a24=>k_is)
  (case q_l24=>k_is)
  (case q_c24=>k_is)
  (case q_k24=>k_is)
  (case q_a25=>k_is)
  (case q_l25=>k_is)
  (case q_c25=>k_is)
  (case q_k25=>k_is)
  (case q_a26=>k_is)
  (case q_l26=>k_is)
  (case q_c26=>k_is)
  (case q_k26=>k_is)
  (case q_a27=>k_is)
  (case q_l27=>k_is)
  (case q_c27=>k_is)
  (case q_k27=>k_is)
  (case q_a28=>k_is)
  (case q_l28=>k_is)
  (case q_c28=>k_is)
  (case q_k28=>k_is)
  (case q_a29=>k_is)
  (case q_i29=>k_is)
  (case q_l29=>k_is)
  (case q_c29=>k_is)
  (case q_k29=>k_is)
  (case q_a30=>k_is)
  (case q_i30=>k_is)
  (case q_l30=>k_is)
  (case q_c30=>k_is)
  (case q_k30=>k_is)
  (case q_a31=>k_is)
  (case q_i31=>k_is)
  (case q_l31=>k_is)
  (case q_c31=>k_is)
  (case q_k31=>k_is)
  (case q_a32=>k_is)
  (case q_i32=>k_is)
  (case q_l32=>k_is)
  (case q_c32=>k_is)
  (case q_k32=>k_is)
  (case q_g0=>k_is)
  (case q_g1=>k_is)
  (case q_z0=>k_is)
  (case q_z1=>k_is)
  (case q_z2=>k_is)
  (case q_z3=>k_is)
  (case q_z4=>k_is)
  (case q_z5=>k_is)
  (case q_z6=>k_is)
  (case q_z7=>k_is)
  (case q_z8=>k_is)
  (case q_z9=>k_is)
  (case q_z10=>k_is)
  (case q_z11=>k_is)
  (case q_z12=>k_is)
