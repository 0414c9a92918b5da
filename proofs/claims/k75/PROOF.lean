import PyProof.Rows.All
import Wide.All
import OpenK.AllK
import Wide.FinOn
import PyProof.EqAt
import PyProof.EqKinds
import PyProof.TupleCall
import Lean
import PyProof.DictWalks
import PyProof.DictIter
import PyProof.P3In
import KE.KEqSeq
import PyProof.ReprLen
import PyProof.ReprRoads
import PyProof.StrOps2
import KE.KRevSl
import PyProof.IsRules
import PyProof.StrLawsIdx
import PyProof.Rows.RegRepr
import PyProof.Rows.RegFStrParts
import PyProof.DictUpdate
import PyProof.AttrMissHeap
import PyProof.Walks
import KE.KDictOf
import PyProof.EnumIter
import PyProof.EnumFor
import PyProof.LayNew
import PyProof.EnumMake
import PyProof.Draws
import PyProof.WalksT
import PyProof.TupleIter
import PyProof.WalksMore
import KE.KRevIter
import KE.KEqDict
import PyProof.Rows.SetFrom
import PyProof.StrLawsTight
import PyProof.StrLawsChain
import PyProof.SumWalk
import PyProof.Rows.SortStr
import PyProof.Rows.SortWalk
import PyProof.TupleOfSeq
import KE.KDictSum
import KE.KSortTup
import PyProof.ListRange
import PyProof.ZipIter
import PyProof.Rows.ZipGen
import KE.KItemsList
import PyProof.ExcArgsOwn
import PyProof.InstStoreFacts
import PyProof.ExcBaseAll.ValueError
import PyProof.StationsW
import PyProof.RulesAs
import PyProof.RulesDel
import PyProof.NeKinds
import PyProof.ListMulAny
import KE.KMinBuiltin
import PyProof.Rows.CallKwBuiltin
import PySem.Challenge.RW_halforder_k75_sayings_clash_and_lead
local macro_rules | `(tactic| eq_refl) => `(tactic| with_unfolding_all exact Or.inl rfl)
local macro_rules | `(tactic| ac_rfl) => `(tactic| with_unfolding_all exact fun _ _ => rfl)
local macro_rules | `(tactic| ac_nf) => `(tactic| with_unfolding_all rfl)
noncomputable section
set_option linter.all false
set_option maxRecDepth 100000
set_option maxHeartbeats 4000000
set_option Elab.async false
set_option compiler.extract_closed false
namespace L2
open PySem PySem.Spec PyProof.Rows
abbrev Key:=Sum Int Str
def M9:Key->Value->Bool
 | .inl k,v=>Value.isInt k v
 | .inr x,v=>Value.isStrOf x v
def keyH (w:World):Key->Int
 | .inl k=>hashInt k
 | .inr x=>hashStr w x
theorem B8:∀ {k:Key} {v:Value},M9 k v=true->(∃ i t,k=Sum.inl i/\v=Value.int i t)\/(∃ x t,k=Sum.inr x/\v=Value.str x t)
 | .inl i,v,h=>by
   obtain⟨t,e⟩:=Value.isInt_shape (k:=i) (v:=v) h
   exact .inl ⟨i,t,rfl,e⟩
 | .inr x,v,h=>by
   obtain⟨t,e⟩:=Value.isStrOf_shape (x:=x) (v:=v) h
   exact .inr ⟨x,t,rfl,e⟩
theorem Vi (i:Int)(t:Tok):M9 (.inl i) (.int i t)=true:=by simp[M9,Value.isInt]
theorem Xp (x:Str)(t:Tok):M9 (.inr x) (.str x t)=true:=by simp[M9,Value.isStrOf]
theorem al2 (a b:Int):decide ((Sum.inl a:Key)=Sum.inl b)=(a==b):=by
 by_cases e:a=b
 . subst e;simp
 have h:¬ (Sum.inl a:Key)=Sum.inl b:=fun q=>e (Sum.inl.inj q)
 rw[decide_eq_false h]
 exact(beq_eq_false_iff_ne.mpr e).symm
theorem ah1 (a b:Str):decide ((Sum.inr a:Key)=Sum.inr b)=decide (a=b):=by
 by_cases e:a=b
 . subst e;simp
 have h:¬ (Sum.inr a:Key)=Sum.inr b:=fun q=>e (Sum.inr.inj q)
 rw[decide_eq_false h,decide_eq_false e]
theorem ag0 (a:Int)(b:Str):decide ((Sum.inl a:Key)=Sum.inr b)=false:=decide_eq_false (fun q=>nomatch q)
theorem am7 (a:Str)(b:Int):decide ((Sum.inr a:Key)=Sum.inl b)=false:=decide_eq_false (fun q=>nomatch q)
def Am (prog:Program)(w:World):PySem.KeyKind prog w Key where
 is:=M9
 hash:=keyH w
 inj:=fun v a b ha hb=>by
  rcases B8 ha with ⟨i,t,rfl,rfl⟩ | ⟨x,t,rfl,rfl⟩
  . rcases B8 hb with ⟨j,u,rfl,e⟩ | ⟨y,u,rfl,e⟩
    . injection e with e1 _;rw[e1]
    exact nomatch e
  rcases B8 hb with ⟨j,u,rfl,e⟩ | ⟨y,u,rfl,e⟩
  . exact nomatch e
  injection e with e1 _;rw[e1]
 byValue:=fun k v h=>by
  rcases B8 h with ⟨i,t,rfl,rfl⟩ | ⟨x,t,rfl,rfl⟩<;>rfl
 pyHash:=fun hv h=>by
  rcases B8 hv with ⟨i,t,rfl,rfl⟩ | ⟨x,t,rfl,rfl⟩
  . exact wpAny_pyHash_int h
  exact wpAny_pyHash_str h
 eqBool:=fun hu hv h=>by
  rcases B8 hu with ⟨i,t,rfl,rfl⟩ | ⟨x,t,rfl,rfl⟩
  . rcases B8 hv with ⟨j,u,rfl,rfl⟩ | ⟨y,u,rfl,rfl⟩
    . rw[al2] at h;exact wpAny_eqBool_int h
    rw[ag0] at h;exact SeqAt.EqAt.int_str i t y u _ _ _ _ h
  rcases B8 hv with ⟨j,u,rfl,rfl⟩ | ⟨y,u,rfl,rfl⟩
  . rw[am7] at h;exact SeqAt.EqAt.str_int x t j u _ _ _ _ h
  rw[ah1] at h;exact wpAny_eqBool_str h
 «strs»:=fun k x t v h=>by
  rcases B8 h with ⟨i,u,rfl,e⟩ | ⟨y,u,rfl,e⟩
  . exact nomatch e
  injection e with e1 _
  subst e1
  cases v<;>rfl
theorem Rg (prog:Program)(w:World)(i:Int)(t:Tok):(Am prog w).is (.inl i) (.int i t)=true:=Vi i t
theorem Qz (prog:Program)(w:World)(x:Str)(t:Tok):(Am prog w).is (.inr x) (.str x t)=true:=Xp x t
inductive V where
 | non | bl (b:Bool) | int (i:Int) | str (x:Str) | byt (b:Array UInt8) | flt (b:UInt64) | ref (a:Addr) | ty (n:String)
 deriving DecidableEq
def RelV:V->Value->Prop
 | .non,u=>u=Value.none
 | .bl b,u=>u=Value.bool b
 | .int i,u=>∃ t,u=Value.int i t
 | .str x,u=>∃ t,u=Value.str x t
 | .byt b,u=>∃ t,u=Value.bytes b t
 | .flt b,u=>∃ t,u=Value.float b t
 | .ref a,u=>u=Value.ref a
 | .ty n,u=>u=Value.type n
abbrev Vals:List V->List Value->Prop:=Paired RelV
theorem Vals.length {xs:List V} {us:List Value} (r:Vals xs us):xs.length=us.length:=Paired.length r
theorem Vals.get:∀ {xs:List V} {us:List Value} {i:Nat} {x:V},Vals xs us->xs[i]? = some x->∃ u,us[i]? = some u/\RelV x u
 | _,_,_,_,.nil,e=>by simp at e
 | _,_,0,_,.cons r _,e=>by simp at e;subst e;exact⟨_,rfl,r⟩
 | _,_,i+1,x,.cons _ t,e=>by
   obtain⟨u,h1,h2⟩:=Vals.get (i:=i) (x:=x) t (by simpa using e)
   exact⟨u,by simpa using h1,h2⟩
theorem Vals.append:∀ {xs ys:List V} {us ws:List Value},Vals xs us->Vals ys ws->Vals (xs++ys) (us++ws)
 | _,_,_,_,.nil,s=>s
 | _,_,_,_,.cons r t,s=>.cons r (Vals.append t s)
theorem Vals.take:∀ {xs:List V} {us:List Value} (n:Nat),Vals xs us->Vals (xs.take n) (us.take n)
 | _,_,0,_=>.nil
 | _,_,_+1,.nil=>.nil
 | _,_,n+1,.cons r t=>.cons r (Vals.take n t)
theorem Vals.drop:∀ {xs:List V} {us:List Value} (n:Nat),Vals xs us->Vals (xs.drop n) (us.drop n)
 | _,_,0,r=>r
 | _,_,_+1,.nil=>.nil
 | _,_,n+1,.cons _ t=>Vals.drop n t
def RelO:Option V->Option Value->Prop
 | some v,some u=>RelV v u
 | none,none=>True
 | _,_=>False
def KV {κ:Type}:List (κ×V)->List (κ×Value)->Prop:=Paired fun(p:κ×V) (q:κ×Value)=>p.1=q.1/\RelV p.2 q.2
def kV:Key->V
 | .inl i=>.int i
 | .inr x=>.str x
def IsTupN (h:Heap)(a:Addr)(items:Array Value):Prop:=∃ o,h.get? a=some o/\o.cls = .type "tuple" /\ (∃ n,o.data = .seq items n)/\o.dict=none
theorem IsTupN.tup {h:Heap}{a:Addr}{items:Array Value}(x:IsTupN h a items):IsTup h a items:=let ⟨o,h1,h2,⟨n,h3⟩,_⟩:=x;⟨o,h1,h2,n,h3⟩
theorem IsTupN.new (h:Heap)(its:Array Value):IsTupN (h.push { cls:=.type "tuple",data:=.seq its }) h.objs.size its:=⟨_,Heap.get?_push_size _ rfl,rfl,⟨_,rfl⟩,rfl⟩
inductive HO where
 | lst (xs:List V)
 | tup (xs:List V)
 | dK (kvs:List (Key×V)) | dT (kvs:List (List Key×V))
 | set (S:Int->Bool) (n:Nat)
 | ins (C dx:Addr) (fs:List (Str×V))
 | own (x:Addr)
 | xd (fs:List (Str×V))
 | met (f x:Addr)
 | rng (lo hi:Int)
 | frz (o:Obj) (u:HO)
 | tbl (ps:Array Value)
 | ext (φ:Heap->Prop)
abbrev Hp:=Addr->Option HO
def upd (H:Hp)(a:Addr)(o:HO):Hp:=fun b=>if b=a then some o else H b
theorem Ab {H:Hp}{a:Addr}{o:HO}:upd H a o a=some o:=by unfold upd;rw[if_pos rfl]
theorem Ar {H:Hp}{a b:Addr}{o:HO}(h:b≠a):upd H a o b=H b:=by unfold upd;rw[if_neg h]
theorem ne_of {H:Hp}{a b:Addr}{o u:HO}(h:H a=some o)(h':H b=some u)(d:o≠u):a≠b:=by
 intro e;subst e;rw[h] at h';exact d (Option.some.inj h')
theorem ne_of_none {H:Hp}{a b:Addr}{o:HO}(h:H a=some o)(h':H b=none):a≠b:=by
 intro e;subst e;rw[h] at h';cases h'
section
variable (P:Program)(w:World)
def ObjOk (H:Hp)(h:Heap)(a:Addr):HO->Prop
 | .lst xs=>xs.length<=sizeLine/\∃(its:List Value) (n:Nat),Vals xs its/\h.get? a=some { cls:=.type "list",data:=.seq its.toArray n }
 | .tup xs=>xs.length<=sizeLine/\∃ its:List Value,Vals xs its/\IsTupN h a its.toArray
 | .dK kvs=>kvs.length<=sizeLine/\(a==sysModules)=false/\∃ vs,KV kvs vs/\h.DictOf (Am P w) a vs
 | .dT kvs=>kvs.length<=sizeLine/\(a==sysModules)=false/\∃ xs:List (List Key×Addr×Value),
   Paired (fun(p:List Key×V) (q:List Key×Addr×Value)=>p.1=q.1/\H q.2.1=some (.tup (p.1.map kV))/\RelV p.2 q.2.2) kvs xs /\
   ∃ o es ep,h.get? a=some o/\o.ExactDict/\o.data = .dict es ep/\es.toList=xs.map (entryOfKey (tupleKind (Am P w)))/\(xs.map (·.1)).Nodup
 | .set S n=>h.SetOf (intKind P w) a S n
 | .ins C dx fs=>H dx=some (.own a)/\fs.length<=1000/\dx≠a/\h.get? a=some (PySem.W.instObj C dx) /\
   ∃ mA,h.Ns1 dx mA/\(∀ f,RelO (fs.lookup f) (mA f))/\PySem.Within mA (fs.map (·.1))
 | .own _=>∃ o,h.get? a=some o
 | .xd fs=>∃ mA,h.Ns1 a mA/\∀ f,RelO (fs.lookup f) (mA f)
 | .rng lo hi=>∃ t u v,h.get? a=some { cls:=.type "range",data:=.fields #[.int lo t,.int hi u,.int 1 v] }
 | .frz o u=>h.get? a=some o/\ObjOk H h a u
 | .tbl ps=>h.get? a=some { cls:=.none,data:=.fields ps }
 | .met f x=>h.get? a=some (PySem.W.methodObj (.ref f) (.ref x))
 | .ext φ=>φ h/\(∃ o,h.get? a=some o)/\∀ h1 h2:Heap,φ h1->(∀ o,h1.get? a=some o->h2.get? a=some o)->φ h2
def HOk (H:Hp)(h:Heap):Prop:=∀ a o,H a=some o->ObjOk P w H h a o
end
section
variable {P:Program}{w:World}{H H':Hp}{h h':Heap}{a:Addr}{o:HO}
theorem ObjOk.lt (x:ObjOk P w H h a o):a<h.objs.size:=by
 cases o with
 | lst xs=>obtain⟨_,_,_,_,e⟩:=x;exact Heap.lt_size e
 | tup xs=>obtain⟨_,_,_,p⟩:=x;exact p.tup.lt
 | dK kvs=>obtain⟨_,_,_,_,o,_,_,e,_⟩:=x;exact Heap.lt_size e
 | dT kvs=>obtain⟨_,_,_,_,o,_,_,e,_⟩:=x;exact Heap.lt_size e
 | set S n=>obtain⟨o,_,_,_,e,_⟩:=x;exact Heap.lt_size e
 | ins C dx fs=>obtain⟨_,_,_,e,_⟩:=x;exact Heap.lt_size e
 | own y=>obtain⟨_,e⟩:=x;exact Heap.lt_size e
 | xd fs=>obtain⟨_,⟨_,_,_,e,_⟩,_⟩:=x;exact Heap.lt_size e
 | rng lo hi=>obtain⟨_,_,_,e⟩:=x;exact Heap.lt_size e
 | frz ob u=>obtain⟨e,_⟩:=x;exact Heap.lt_size e
 | tbl ps=>exact Heap.lt_size (show h.get? a=some _ from x)
 | met f y=>exact Heap.lt_size (show h.get? a=some _ from x)
 | ext φ=>obtain⟨_,⟨_,e⟩,_⟩:=x;exact Heap.lt_size e
theorem Paired.mapP {α β:Type}{F G:α->β->Prop}:∀ {l₁:List α} {l₂:List β},Paired F l₁ l₂->(∀ a b,F a b->G a b)->Paired G l₁ l₂
 | _,_,.nil,_=>.nil
 | _,_,.cons r t,f=>.cons (f _ _ r) (Paired.mapP t f)
theorem ObjOk.stay (x:ObjOk P w H h a o)(k:∀ b u,(b=a\/H b=some (.own a))->h.get? b=some u->h'.get? b=some u)
  (ho:∀ b,H b=some (.own a)->H' b=some (.own a)) (ht:∀ b xs,H b=some (.tup xs)->H' b=some (.tup xs)):ObjOk P w H' h' a o:=by
 induction o with
 | lst xs=>obtain⟨z,its,n,r,e⟩:=x;exact⟨z,its,n,r,k _ _ (.inl rfl) e⟩
 | tup xs=>obtain⟨z,its,r,ob,e,c⟩:=x;exact⟨z,its,r,ob,k _ _ (.inl rfl) e,c⟩
 | dK kvs=>obtain⟨z,y,vs,r,ob,es,ep,e,c⟩:=x;exact⟨z,y,vs,r,ob,es,ep,k _ _ (.inl rfl) e,c⟩
 | dT kvs=>
   obtain⟨z,y,xs,r,ob,es,ep,e,c⟩:=x
   exact⟨z,y,xs,Paired.mapP r fun p q z=>⟨z.1,ht _ _ z.2.1,z.2.2⟩,ob,es,ep,k _ _ (.inl rfl) e,c⟩
 | set S n=>obtain⟨ob,es,ep,t,e,c⟩:=x;exact⟨ob,es,ep,t,k _ _ (.inl rfl) e,c⟩
 | ins C dx fs=>
   obtain⟨d,z,ne,e,mA,⟨od,es,ep,e2,c⟩,r⟩:=x
   exact⟨ho _ d,z,ne,k _ _ (.inl rfl) e,mA,⟨od,es,ep,k _ _ (.inr d) e2,c⟩,r⟩
 | own y=>obtain⟨ob,e⟩:=x;exact⟨ob,k _ _ (.inl rfl) e⟩
 | xd fs=>obtain⟨mA,⟨od,es,ep,e,c⟩,r⟩:=x;exact⟨mA,⟨od,es,ep,k _ _ (.inl rfl) e,c⟩,r⟩
 | rng lo hi=>obtain⟨t,u,v,e⟩:=x;exact⟨t,u,v,k _ _ (.inl rfl) e⟩
 | frz ob u ih=>obtain⟨e,q⟩:=x;exact⟨k _ _ (.inl rfl) e,ih q⟩
 | tbl ps=>
   have e:h.get? a=some { cls:=.none,data:=.fields ps }:=x
   show h'.get? a=some { cls:=.none,data:=.fields ps }
   exact k a _ (.inl rfl) e
 | met f y=>
   have e:h.get? a=some (PySem.W.methodObj (.ref f) (.ref y)):=x
   show h'.get? a=some (PySem.W.methodObj (.ref f) (.ref y))
   exact k a _ (.inl rfl) e
 | ext φ=>obtain⟨p,⟨o,e⟩,st⟩:=x;exact⟨st _ _ p fun o q=>k _ _ (.inl rfl) q,⟨o,k _ _ (.inl rfl) e⟩,st⟩
theorem HOk.lt (x:HOk P w H h)(e:H a=some o):a<h.objs.size:=(x a o e).lt
theorem HOk.fresh (x:HOk P w H h)(e:h.objs.size<=a):H a=none:=by
 cases q:H a with
 | none=>rfl
 | some u=>exact absurd (Nat.lt_of_lt_of_le (x.lt q) e) (Nat.lt_irrefl _)
theorem HOk.kept (x:HOk P w H h)(k:∀ b u,h.get? b=some u->h'.get? b=some u):HOk P w H h':=fun a o e=>
 (x a o e).stay (fun b u _ q=>k b u q) (fun _ q=>q) fun _ _ q=>q
theorem HOk.laid (x:HOk P w H h)(k:∀ b u,h.get? b=some u->h'.get? b=some u)(hp:h.objs.size<=a)(new:ObjOk P w (upd H a o) h' a o):HOk P w (upd H a o) h':=fun b u e=>by
 have hn:=x.fresh hp
 by_cases hb:b=a
 . subst hb;rw[Ab] at e;cases e;exact new
 rw[Ar hb] at e
 exact(x b u e).stay (fun c v _ q=>k c v q) (fun c q=>by rw[Ar (ne_of_none q hn)];exact q) fun c xs q=>by rw[Ar (ne_of_none q hn)];exact q
end
def Rd (H:Hp)(a:Addr)(u:HO):Prop:=H a=some u\/∃ o,H a=some (.frz o u)
theorem Rd.ok {P:Program}{w:World}{H:Hp}{h:Heap}{a:Addr}{u:HO}(r:Rd H a u)(x:HOk P w H h):ObjOk P w H h a u:=by
 rcases r with r | ⟨o,r⟩
 . exact x a u r
 obtain⟨_,q⟩:=x a _ r
 exact q
def Mut:Option HO->Prop
 | some (.lst _)=>True
 | some (.dK _)=>True
 | some (.dT _)=>True
 | some (.set _ _)=>True
 | some (.ins _ _ _)=>True
 | some (.ext _)=>True
 | _=>False
section
variable {P:Program}{w:World}{H:Hp}{h h':Heap}{x e:Addr}{o':HO}
theorem HOk.write (ok:HOk P w H h)(mu:Mut (H x))(he:e=x\/H e=some (.own x))(k:∀ b u,b≠e->h.get? b=some u->h'.get? b=some u)(heo:∃ u,h'.get? e=some u)
  (new:ObjOk P w (upd H x o') h' x o'):HOk P w (upd H x o') h':=fun b u q=>by
 have nown:∀ c y,H c=some (.own y)->c≠x:=fun c y r z=>by subst z;rw[r] at mu;exact mu
 have ntup:∀ c xs,H c=some (.tup xs)->c≠x:=fun c xs r z=>by subst z;rw[r] at mu;exact mu
 by_cases hb:b=x
 . subst hb;rw[Ab] at q;cases q;exact new
 rw[Ar hb] at q
 by_cases hbe:b=e
 . have q':H b=some (.own x):=by
    rcases he with z | z
    . exact absurd (hbe.trans z) hb
    rw[hbe];exact z
   rw[q] at q';cases q'
   obtain⟨v,hv⟩:=heo
   exact⟨v,by rw[hbe];exact hv⟩
 refine(ok b u q).stay (fun c v hc r=>k c v ?_ r) (fun c r=>by rw[Ar (nown c b r)];exact r) fun c xs r=>by rw[Ar (ntup c xs r)];exact r
 rcases hc with rfl | hc
 . exact hbe
 rintro rfl
 rcases he with z | z
 . exact nown c b hc z
 rw[hc] at z;cases z;exact hb rfl
end
structure Un (fs ex:List Addr)(H H':Hp)(h h':Heap):Prop where
 keep:∀ b o,h.get? b=some o->H b=none->b∉fs->b∉ex->h'.get? b=some o
 slot:∀ b o,h.get? b=some o->H b=none->b∈fs->b∉ex->∃ sl,h'.get? b=some { o with slots:=sl }
 free:∀ b o,h.get? b=some o->H b=none->b∉ex->H' b=none
 there:∀ b o,h.get? b=some o->b∉ex->∃ o',h'.get? b=some o'
 tups:∀ b xs,H b=some (.tup xs)->H' b=some (.tup xs)
 frzs:∀ b o u,H b=some (.frz o u)->H' b=some (.frz o u)
 tbls:∀ b ps,H b=some (.tbl ps)->∃ more,H' b=some (.tbl (ps++more))
section
variable {fs fs' ex ex':List Addr}{H H1 H2:Hp}{h h1 h2 h':Heap}{a x e:Addr}{o:HO}
theorem Un.any (u:Un fs ex H H1 h h1){b:Addr}{ob:Obj}(q:h.get? b=some ob)(n:H b=none)(hx:b∉ex):∃ sl,h1.get? b=some { ob with slots:=sl }:=by
 by_cases hb:b∈fs
 . exact u.slot b ob q n hb hx
 exact⟨ob.slots,u.keep b ob q n hb hx⟩
theorem Un.kept (k:∀ b u,h.get? b=some u->h'.get? b=some u):Un fs ex H H h h':=
 ⟨fun b ob q _ _ _=>k b ob q,fun b ob q _ _ _=>⟨ob.slots,k b ob q⟩,fun _ _ _ n _=>n,fun b ob q _=>⟨ob,k b ob q⟩,fun _ _ q=>q,fun _ _ _ q=>q,fun _ ps q=>⟨#[],by rw[q];simp⟩⟩
theorem Un.refl:Un fs ex H H h h:=Un.kept fun _ _ q=>q
theorem Un.laid (k:∀ b u,h.get? b=some u->h'.get? b=some u)(hp:h.objs.size<=a)(hn:H a=none):Un fs ex H (upd H a o) h h' where
 keep:=fun b u q _ _ _=>k b u q
 slot:=fun b u q _ _ _=>⟨u.slots,k b u q⟩
 free:=fun b u q n _=>by rw[Ar (Nat.ne_of_lt (Nat.lt_of_lt_of_le (Heap.lt_size q) hp))];exact n
 there:=fun b u q _=>⟨u,k b u q⟩
 tups:=fun b xs q=>by rw[Ar (ne_of_none q hn)];exact q
 frzs:=fun b u xs q=>by rw[Ar (ne_of_none q hn)];exact q
 tbls:=fun b ps q=>⟨#[],by rw[Ar (ne_of_none q hn),q];simp⟩
theorem Un.write (mu:Mut (H x))(he:e=x\/H e=some (.own x))(k:∀ b u,b≠e->h.get? b=some u->h'.get? b=some u)(heo:∃ u,h'.get? e=some u):Un fs ex H (upd H x o) h h':=by
 have hx:∀ b,H b=none->b≠x:=fun b n z=>by subst z;rw[n] at mu;exact mu
 have hb:∀ b,H b=none->b≠e:=fun b n z=>by
  subst z
  rcases he with r | r
  . exact hx b n r
  rw[n] at r;cases r
 have hm:∀ b u,H b=some u->¬ Mut (some u)->b≠x:=fun b u q nm z=>by subst z;rw[q] at mu;exact nm mu
 refine⟨fun b u q n _ _=>k b u (hb b n) q,fun b u q n _ _=>⟨u.slots,k b u (hb b n) q⟩,fun b u q n _=>by rw[Ar (hx b n)];exact n,fun b u q _=>?_,
  fun b xs q=>by rw[Ar (hm b _ q fun z=>z)];exact q,fun b u xs q=>by rw[Ar (hm b _ q fun z=>z)];exact q,fun b ps q=>⟨#[],by rw[Ar (hm b _ q fun z=>z),q];simp⟩⟩
 by_cases hbe:b=e
 . subst hbe;exact heo
 exact⟨u,k b u hbe q⟩
end
def trk (h:Heap)(H:Hp):List Addr:=(List.range h.objs.size).filter fun a=>(H a).isSome
def Za (h:Heap)(H:Hp):Heap:=PySem.W.hideAll h (trk h H)
theorem Wk (h:Heap)(H:Hp):(Za h H).objs.size=h.objs.size:=PySem.W.hideAll_size _ _
theorem Yq {h:Heap}{H:Hp}{b:Addr}{o:Obj}(e:h.get? b=some o)(n:H b=none):(Za h H).get? b=some o:=
 PySem.W.hideAll_get _ e fun hm=>by
  have q:(H b).isSome=true:=(List.mem_filter.mp hm).2
  rw[n] at q;simp at q
theorem a77 {h:Heap}{H:Hp}{b:Addr}{o:Obj}(e:(Za h H).get? b=some o):h.get? b=some o/\H b=none:=by
 have e':h.get? b=some o:=PySem.W.of_hideAll (trk h H) e
 refine⟨e',?_⟩
 cases q:H b with
 | none=>rfl
 | some x=>
   have hm:b∈trk h H:=List.mem_filter.mpr ⟨List.mem_range.mpr (Heap.lt_size e'),by simp[q]⟩
   have z:(Za h H).get? b=none:=PySem.W.hideAll_none (trk h H) hm
   rw[z] at e;cases e
def a75 (g h:Heap)(L:Addr):List (Addr×Obj):=(List.range h.objs.size).filterMap fun a=>if a=L\/(g.get? a).isSome=true then none else(h.get? a).map fun o=>(a,o)
def rest (g h:Heap)(L d:Addr):List (Addr×Obj):=(a75 g h L).filter fun p=>decide (p.1≠d)
structure Mod (K:PySem.W.Frag)(mg:Str->Option Value)(base:Heap):Prop where
 kin:K.In base
 glob:base.Ns mainGlobals mg
 blt:∃ mb,base.Ns builtinsNs mb/\∀ x:Str,x ≠ "__name__" -> mb x=bootBuiltins x
 nolimit:base.NoLimit
/-- the context: a def's body (or a comprehension's block) running. base: fixed through the whole law;s₀,H₀: the entry;outer: the frames whose slots others may change (a def's callers);stack: all frames that run;
  ex: iterators that were made ahead of the entry and are walked here (a comprehension's);fn: the names whose cells were made at the entry (a def: all;a comprehension's block: its own);calm: not within an except suite;pn: pins that every state bears;xe: what is wanted of an exception that leaves the code -/
structure Cx where
 prog:Program
 w:World
 K:PySem.W.Frag
 mg:Str->Option Value
 base:Heap
 A:Around
 N:List Str
 s₀:Shared
 H₀:Hp
 env:Env
 outer:List Env
 stack:List Env
 ex:List Addr
 fn:Str->Bool
 calm:Bool
 pn:List (Addr×Obj)
 xe:Value->Shared->Prop
def frs (l:List Env):List Addr:=l.filterMap (·.frame)
abbrev Cx.fs (X:Cx):List Addr:=frs X.outer
def Vis (sc:Scope)(x:Str):Prop:=sc.names.lookup x=some .local\/sc.names.lookup x=some .cell\/sc.names.lookup x=some .free
def Loc (sc:Scope)(x:Str):Prop:=sc.names.lookup x=some .local\/sc.names.lookup x=some .cell
def Look (env:Env)(h:Heap)(m:Str->Option Value)(x:Str)(u:Value):Prop:=
 (env.kindOf x=some .local/\m x=some u)\/((env.kindOf x=some .cell\/env.kindOf x=some .free)/\∃ c,env.cells.lookup x=some c/\h.IsCell c (some u))
structure Cx.Ok (X:Cx):Prop where
 mod:Mod X.K X.mg X.base
 kind:X.env.scope.kind = .function
 glob:X.env.globals=mainGlobals
 blt:X.env.builtins=builtinsNs
 above:X.s₀.heap.objs.size<=X.env.locals
 inj:∀ x y c,X.env.cells.lookup x=some c->X.env.cells.lookup y=some c->x=y
 has:∀ x,(X.env.kindOf x=some .cell\/X.env.kindOf x=some .free)->∃ c,X.env.cells.lookup x=some c
 cab:∀ x c,X.fn x=true->X.env.cells.lookup x=some c->X.s₀.heap.objs.size<=c
 hd:X.calm=true->X.A.handled=none
 frames:X.A.frames=some X.stack
 stk:X.stack=X.outer\/(X.stack=X.env :: X.outer/\X.env.frame=some X.env.locals)
 exf:∀ b∈X.ex,b≠X.env.locals/\∀ x c,X.env.cells.lookup x=some c->c≠b
 bs:∀ b o,X.base.get? b=some o->X.s₀.heap.get? b=some o/\X.H₀ b=none
 bsz:X.base.objs.size<=X.s₀.heap.objs.size
 noex:∀ b o,X.base.get? b=some o->b∉X.ex
 exfs:∀ b∈X.ex,b∉X.fs
 funs:X.s₀.heap.FunFrames X.base X.outer
 frf:∀ b∈X.fs,X.H₀ b=none
structure Inv (X:Cx)(pins:List (Addr×Obj))(σ:List (Option V))(H:Hp)(s:Shared):Prop where
 ok:X.Ok
 os:s.os=X.s₀.os
 bare:AllBare s.gens
 base:Un X.fs X.ex X.H₀ H X.s₀.heap s.heap
 loc:∃ m,s.heap.Ns X.env.locals m/\∀(i:Nat) (x:Str) (v:V),X.N[i]? = some x->σ[i]? = some (some v)->Vis X.env.scope x->∃ u,RelV v u/\Look X.env s.heap m x u
 cell:∀ x c,X.env.cells.lookup x=some c->∃ v,s.heap.IsCell c v
 free:H X.env.locals=none
 freeC:∀ x c,X.env.cells.lookup x=some c->H c=none
 pin:∀ p∈X.pn++pins,s.heap.get? p.1=some p.2/\H p.1=none/\p.1≠X.env.locals/\p.1∉X.fs/\∀ v,p.2.data ≠ .cell v
 hok:HOk X.prog X.w H s.heap
 len:σ.length=X.N.length
section
variable {X:Cx}{pins:List (Addr×Obj)}{σ:List (Option V)}{H H':Hp}{s:Shared}{h':Heap}
theorem Cx.Ok.nofr (ok:X.Ok){b:Addr}{o:Obj}(e:X.base.get? b=some o):b∉X.fs:=fun hb=>by
 have:=(ok.funs.mem hb).1
 rw[e] at this;cases this
theorem Inv.bs (I:Inv X pins σ H s):∀ b o,X.base.get? b=some o->s.heap.get? b=some o/\H b=none:=fun b o e=>
 ⟨I.base.keep b o (I.ok.bs b o e).1 (I.ok.bs b o e).2 (I.ok.nofr e) (I.ok.noex b o e),I.base.free b o (I.ok.bs b o e).1 (I.ok.bs b o e).2 (I.ok.noex b o e)⟩
theorem Inv.bk (I:Inv X pins σ H s):∀ b o,X.base.get? b=some o->s.heap.get? b=some o:=fun b o e=>(I.bs b o e).1
theorem Inv.mod (I:Inv X pins σ H s):Mod X.K X.mg X.base:=I.ok.mod
theorem Inv.kIn (I:Inv X pins σ H s):X.K.In s.heap:=I.ok.mod.kin.keeps I.bk
theorem Inv.lt (I:Inv X pins σ H s):X.env.locals<s.heap.objs.size:=let ⟨_,hn,_⟩:=I.loc;hn.lt
theorem Inv.sz (I:Inv X pins σ H s):X.s₀.heap.objs.size<=s.heap.objs.size:=Nat.le_trans I.ok.above (Nat.le_of_lt I.lt)
theorem Inv.nofs (I:Inv X pins σ H s){a:Addr}(h:s.heap.objs.size<=a):a∉X.fs:=fun hb=>by
 obtain⟨_,o,ho,_⟩:=I.ok.funs.mem hb
 exact absurd (Nat.lt_of_lt_of_le (Heap.lt_size ho) (Nat.le_trans I.sz h)) (Nat.lt_irrefl _)
theorem Inv.cne (I:Inv X pins σ H s):∀ x c,X.env.cells.lookup x=some c->c≠X.env.locals:=fun x c e z=>by
 obtain⟨v,o,ho,hd⟩:=I.cell x c e
 obtain⟨m,⟨o',es,ep,ho',hd',_⟩,_⟩:=I.loc
 rw[z,ho'] at ho;cases ho;rw[hd'] at hd;cases hd
theorem Inv.funs (I:Inv X pins σ H s):s.heap.FunFrames X.base X.outer:=by
 have all:∀(l:List Env),(∀ b∈frs l,b∈X.fs)->X.s₀.heap.FunFrames X.base l->s.heap.FunFrames X.base l:=by
  intro l
  induction l with
  | nil=>intro _ _;trivial
  | cons env r ih=>
    intro hs hl
    obtain⟨hk,⟨L,o,hf,hn,ho,hd⟩,hr⟩:=hl
    have hL:L∈X.fs:=hs L (by unfold frs;rw[List.filterMap_cons,hf];exact List.mem_cons_self)
    obtain⟨sl,e⟩:=I.base.slot L o ho (I.ok.frf L hL) hL fun z=>I.ok.exfs L z hL
    exact⟨hk,⟨L,_,hf,hn,e,hd⟩,ih (fun b hb=>hs b (by unfold frs;rw[List.filterMap_cons,hf];exact List.mem_cons_of_mem _ hb)) hr⟩
 exact all X.outer (fun _ hb=>hb) I.ok.funs
theorem Inv.stack (I:Inv X pins σ H s):s.heap.FunFrames X.base X.stack:=by
 rcases I.ok.stk with e | ⟨e,hf⟩
 . rw[e];exact I.funs
 rw[e]
 obtain⟨m,hn,_⟩:=I.loc
 refine .cons (by rw[I.ok.kind];decide) hf hn ?_ I.funs
 exact Heap.get?_none_of_le (Nat.le_trans I.ok.bsz I.ok.above)
theorem Inv.stkSub (I:Inv X pins σ H s):∀ b∈frs X.stack,b∈X.env.locals :: X.fs:=fun b hb=>by
 rcases I.ok.stk with e | ⟨e,hf⟩
 . rw[e] at hb;exact List.mem_cons_of_mem _ hb
 rw[e] at hb
 unfold frs at hb
 rw[List.filterMap_cons,hf] at hb
 exact hb
theorem Inv.stkFree (I:Inv X pins σ H s):∀ b∈frs X.stack,H b=none:=fun b hb=>by
 rcases List.mem_cons.mp (I.stkSub b hb) with e | hb
 . rw[e];exact I.free
 obtain⟨_,o,ho,_⟩:=I.ok.funs.mem hb
 exact I.base.free b o ho (I.ok.frf b hb) fun z=>I.ok.exfs b z hb
theorem Inv.step {g':Array GenState}{t':Nat}{d':Drawn}{ch:List Addr}(I:Inv X pins σ H s)
  (hch:∀ b∈ch,(b∈X.ex\/X.s₀.heap.objs.size<=b)/\b≠X.env.locals/\(∀ x c,X.env.cells.lookup x=some c->c≠b)/\∀ p∈X.pn++pins,p.1≠b)
  (keep:∀ b o,b≠X.env.locals->b∉X.fs->b∉ch->s.heap.get? b=some o->H b=none->h'.get? b=some o)
  (slot:∀ b o,b≠X.env.locals->b∈X.fs->b∉ch->s.heap.get? b=some o->H b=none->∃ sl,h'.get? b=some { o with slots:=sl }) (free:∀ b o,b∉ch->s.heap.get? b=some o->H b=none->H' b=none)
  (there:∀ b o,b∉ch->s.heap.get? b=some o->∃ o',h'.get? b=some o')
  (tups:∀ b xs,H b=some (.tup xs)->H' b=some (.tup xs)) (frzs:∀ b o u,H b=some (.frz o u)->H' b=some (.frz o u)) (tbls:∀ b ps,H b=some (.tbl ps)->∃ more,H' b=some (.tbl (ps++more)))
  (ns:∀ m,s.heap.Ns X.env.locals m->h'.Ns X.env.locals m) (hok:HOk X.prog X.w H' h') (hg:AllBare g') :
  Inv X pins σ H' { s with heap:=h',gens:=g',drawn:=d',toks:=t' }:=by
 have neL:∀ b o,X.s₀.heap.get? b=some o->b≠X.env.locals:=fun b o e=>Nat.ne_of_lt (Nat.lt_of_lt_of_le (Heap.lt_size e) I.ok.above)
 have neC:∀ b o,X.s₀.heap.get? b=some o->b∉X.ex->b∉ch:=fun b o e hx hb=>by
  rcases(hch b hb).1 with z | z
  . exact hx z
  exact absurd (Nat.lt_of_lt_of_le (Heap.lt_size e) z) (Nat.lt_irrefl _)
 have cellK:∀ x c,X.env.cells.lookup x=some c->∀ v,s.heap.IsCell c v->h'.IsCell c v:=fun x c e v ⟨o,ho,hd⟩=>by
  have nch:c∉ch:=fun z=>(hch c z).2.2.1 x c e rfl
  by_cases hc:c∈X.fs
  . obtain⟨sl,q⟩:=slot c o (I.cne x c e) hc nch ho (I.freeC x c e)
    exact⟨_,q,hd⟩
  exact⟨o,keep c o (I.cne x c e) hc nch ho (I.freeC x c e),hd⟩
 refine⟨I.ok,I.os,hg,⟨fun b o e n hb hx=>?_,fun b o e n hb hx=>?_,fun b o e n hx=>?_,fun b o e hx=>?_,fun b xs e=>tups b xs (I.base.tups b xs e),fun b o xs e=>frzs b o xs (I.base.frzs b o xs e),fun b ps e=>?_⟩,?_,fun x c e=>?_,?_,fun x c e=>?_,fun p hp=>?_,hok,I.len⟩
 . exact keep b o (neL b o e) hb (neC b o e hx) (I.base.keep b o e n hb hx) (I.base.free b o e n hx)
 . obtain⟨sl,e1⟩:=I.base.slot b o e n hb hx
   obtain⟨sl',e2⟩:=slot b _ (neL b o e) hb (neC b o e hx) e1 (I.base.free b o e n hx)
   exact⟨sl',e2⟩
 . obtain⟨o',e1⟩:=I.base.there b o e hx
   exact free b o' (neC b o e hx) e1 (I.base.free b o e n hx)
 . obtain⟨o',e1⟩:=I.base.there b o e hx
   exact there b o' (neC b o e hx) e1
 . obtain⟨m1,e1⟩:=I.base.tbls b ps e
   obtain⟨m2,e2⟩:=tbls b _ e1
   exact⟨m1++m2,by rw[e2,Array.append_assoc]⟩
 . obtain⟨m,hn,hl⟩:=I.loc
   refine⟨m,ns m hn,fun i x v e1 e2 e3=>?_⟩
   obtain⟨u,r,l⟩:=hl i x v e1 e2 e3
   refine⟨u,r,?_⟩
   rcases l with l | ⟨k,c,e,z⟩
   . exact .inl l
   exact .inr ⟨k,c,e,cellK x c e _ z⟩
 . obtain⟨v,z⟩:=I.cell x c e
   exact⟨v,cellK x c e v z⟩
 . obtain⟨m,⟨o,_,_,ho,_⟩,_⟩:=I.loc
   exact free _ o (fun z=>(hch _ z).2.1 rfl) ho I.free
 . obtain⟨v,o,ho,hd⟩:=I.cell x c e
   exact free c o (fun z=>(hch c z).2.2.1 x c e rfl) ho (I.freeC x c e)
 obtain⟨e,n,ne,nf,d⟩:=I.pin p hp
 have nch:p.1∉ch:=fun z=>(hch p.1 z).2.2.2 p hp rfl
 exact⟨keep p.1 p.2 ne nf nch e n,free p.1 p.2 nch e n,ne,nf,d⟩
theorem Inv.un {t':Nat}(I:Inv X pins σ H s)(u:Un X.fs [] H H' s.heap h')(hok:HOk X.prog X.w H' h'):Inv X pins σ H' { s with heap:=h',toks:=t' }:=by
 obtain⟨m,⟨o,es,ep,ho,r⟩,_⟩:=id I.loc
 obtain⟨sl,hL⟩:=u.any ho I.free (by simp)
 exact I.step (g':=s.gens) (d':=s.drawn) (ch:=[]) (fun _ z=>nomatch z) (fun b o _ hb _ e n=>u.keep b o e n hb (by simp)) (fun b o _ hb _ e n=>u.slot b o e n hb (by simp)) (fun b o _ e n=>u.free b o e n (by simp)) (fun b o _ e=>u.there b o e (by simp)) u.tups u.frzs u.tbls (fun m' hm=>by
  obtain⟨o',es',ep',ho',r'⟩:=hm
  rw[ho] at ho';cases ho'
  exact⟨_,es',ep',hL,r'⟩) hok I.bare
theorem Inv.call {g':Array GenState}{t':Nat}{d':Drawn}{ch:List Addr}(I:Inv X pins σ H s)(u:Un (frs X.stack) ch H H' s.heap h')(hok:HOk X.prog X.w H' h')(hg:AllBare g')
  (hch:∀ b∈ch,(b∈X.ex\/X.s₀.heap.objs.size<=b)/\b≠X.env.locals/\(∀ x c,X.env.cells.lookup x=some c->c≠b)/\∀ p∈X.pn++pins,p.1≠b) :
  Inv X pins σ H' { s with heap:=h',gens:=g',drawn:=d',toks:=t' }:=by
 obtain⟨m,⟨o,es,ep,ho,r⟩,_⟩:=id I.loc
 obtain⟨sl,hL⟩:=u.any ho I.free fun z=>(hch _ z).2.1 rfl
 exact I.step (ch:=ch) hch (fun b o hL hb hc e n=>u.keep b o e n (fun z=>(List.mem_cons.mp (I.stkSub b z)).elim hL hb) hc) (fun b o _ _ hc e n=>u.any e n hc) (fun b o hc e n=>u.free b o e n hc) (fun b o hc e=>u.there b o e hc) u.tups u.frzs u.tbls (fun m' hm=>by
  obtain⟨o',es',ep',ho',r'⟩:=hm
  rw[ho] at ho';cases ho'
  exact⟨_,es',ep',hL,r'⟩) hok hg
theorem Inv.turned {t':Nat}{it:Addr}(I:Inv X pins σ H s)(k:∀ b o,b≠it->s.heap.get? b=some o->h'.get? b=some o)(hn:H it=none)(hL:it≠X.env.locals)
  (h1:it∈X.ex\/X.s₀.heap.objs.size<=it) (h2:∀ x c,X.env.cells.lookup x=some c->c≠it) (h3:∀ p∈X.pn++pins,p.1≠it):Inv X pins σ H { s with heap:=h',toks:=t' }:=by
 have nit:∀ b u,H b=some u->b≠it:=fun b u e z=>by rw[z,hn] at e;cases e
 refine I.step (g':=s.gens) (d':=s.drawn) (ch:=[it]) (fun b hb=>?_) (fun b o _ _ hc e _=>k b o (fun z=>hc (by simp[z])) e) (fun b o _ _ hc e _=>⟨o.slots,k b o (fun z=>hc (by simp[z])) e⟩) (fun _ _ _ _ n=>n)
  (fun b o hc e=>⟨o,k b o (fun z=>hc (by simp[z])) e⟩) (fun _ _ e=>e) (fun _ _ _ e=>e) (fun b ps e=>⟨#[],by rw[e];simp⟩) (fun m hm=>?_) (fun b u e=>?_) I.bare
 . have e:b=it:=by simpa using hb
   subst e
   exact⟨h1,hL,h2,h3⟩
 . obtain⟨o,es,ep,ho,r⟩:=hm
   exact⟨o,es,ep,k _ o (Ne.symm hL) ho,r⟩
 refine(I.hok b u e).stay (fun c v hc q=>k c v ?_ q) (fun _ q=>q) fun _ _ q=>q
 rcases hc with z | z
 . rw[z];exact nit b u e
 exact nit c _ z
theorem Inv.tok (I:Inv X pins σ H s)(t:Nat):Inv X pins σ H { s with toks:=t }:=I.un (h':=s.heap) (t':=t) Un.refl I.hok
theorem Inv.kept {t':Nat}(I:Inv X pins σ H s)(k:∀ b u,s.heap.get? b=some u->h'.get? b=some u):Inv X pins σ H { s with heap:=h',toks:=t' }:=I.un (Un.kept k) (I.hok.kept k)
theorem Inv.laid {a:Addr}{o:HO}{t':Nat}(I:Inv X pins σ H s)(k:∀ b u,s.heap.get? b=some u->h'.get? b=some u)(hp:s.heap.objs.size<=a)(new:ObjOk X.prog X.w (upd H a o) h' a o) :
  Inv X pins σ (upd H a o) { s with heap:=h',toks:=t' }:=I.un (Un.laid k hp (I.hok.fresh hp)) (I.hok.laid k hp new)
theorem Inv.write {x e:Addr}{o:HO}{t':Nat}(I:Inv X pins σ H s)(mu:Mut (H x))(he:e=x\/H e=some (.own x))(k:∀ b u,b≠e->s.heap.get? b=some u->h'.get? b=some u)(heo:∃ u,h'.get? e=some u)
  (new:ObjOk X.prog X.w (upd H x o) h' x o):Inv X pins σ (upd H x o) { s with heap:=h',toks:=t' }:=I.un (Un.write mu he k heo) (I.hok.write mu he k heo new)
theorem Inv.weak {σ':List (Option V)}(I:Inv X pins σ H s)(hl:σ'.length=σ.length)(w:∀(i:Nat) v,σ'[i]? = some (some v)->σ[i]? = some (some v)):Inv X pins σ' H s:=
 ⟨I.ok,I.os,I.bare,I.base,let ⟨m,hn,hl'⟩:=I.loc;⟨m,hn,fun i x v e1 e2 e3=>hl' i x v e1 (w i v e2) e3⟩,I.cell,I.free,I.freeC,I.pin,I.hok,hl.trans I.len⟩
theorem Inv.pins_of {pins':List (Addr×Obj)}(I:Inv X pins σ H s)(h:∀ p∈pins',s.heap.get? p.1=some p.2/\H p.1=none/\p.1≠X.env.locals/\p.1∉X.fs/\∀ v,p.2.data ≠ .cell v):Inv X pins' σ H s:=
 ⟨I.ok,I.os,I.bare,I.base,I.loc,I.cell,I.free,I.freeC,fun p hp=>(List.mem_append.mp hp).elim (fun z=>I.pin p (List.mem_append_left _ z)) (h p),I.hok,I.len⟩
theorem Nr {N:List Str}(hN:N.Nodup){i j:Nat}{x:Str}(a:N[i]? = some x)(b:N[j]? = some x):i=j:=by
 obtain⟨h1,e1⟩:=List.getElem?_eq_some_iff.mp a
 obtain⟨h2,e2⟩:=List.getElem?_eq_some_iff.mp b
 exact(List.getElem_inj hN).mp (e1.trans e2.symm)
theorem Ps {M:Model}{A:Around}{E:Value->Shared->Prop}{i:Nat}{x:Str}{v:V}{u:Value}{Q:Unit->Shared->Prop}(I:Inv X pins σ H s)(hN:X.N.Nodup)(hi:X.N[i]? = some x)(hx:Loc X.env.scope x)(r:RelV v u)
  (h:∀ s',Inv X pins (σ.set i (some v)) H s'->(∃ a,Heap.SameBut a s.heap s'.heap/\(a=X.env.locals\/X.env.cells.lookup x=some a))->Q () s') (hf:X.fn x=true\/X.env.scope.names.lookup x=some .local:=by with_unfolding_all (first | exact .inl rfl | exact .inr rfl | assumption)):wpAny M A (storeName X.env x u) Q E s:=by
 obtain⟨m,hn,hl⟩:=id I.loc
 have hcls:(X.env.scope.kind == .class||(X.env.scope.kind == .module&&X.env.locals != X.env.globals))=false:=by rw[I.ok.kind];rfl
 have hiσ:i<σ.length:=by rw[I.len];exact(List.getElem?_eq_some_iff.mp hi).1
 have cne:=I.cne
 have tracked:∀ {a:Addr} {h':Heap},(∃ o,s.heap.get? a=some o/\H a=none)->Heap.SameBut a s.heap h'->HOk X.prog X.w H h':=fun {a h'} ha hs b ob e=>by
  obtain⟨_,_,hfree⟩:=ha
  refine(I.hok b ob e).stay (fun c w' hc q=>(hs.2 c ?_).trans q) (fun _ q=>q) fun _ _ q=>q
  rintro rfl
  rcases hc with rfl | hc
  . rw[hfree] at e;cases e
  rw[hfree] at hc;cases hc
 rcases hx with hk | hk
 . refine wpAny_storeName_local hk hn (fun h' hn' hs=>?_) hcls
   obtain⟨oL,_,_,hoL,_⟩:=id hn
   refine h _ ⟨I.ok,I.os,I.bare,⟨fun b o e n hb hx=>?_,fun b o e n hb hx=>?_,I.base.free,fun b o e hx=>?_,I.base.tups,I.base.frzs,I.base.tbls⟩,⟨_,hn',fun j y v' e1 e2 e3=>?_⟩,fun y c e=>?_,I.free,I.freeC,fun p hp=>?_,tracked ⟨oL,hoL,I.free⟩ hs,by simpa using I.len⟩ ⟨_,hs,.inl rfl⟩
   . exact(hs.2 b (Nat.ne_of_lt (Nat.lt_of_lt_of_le (Heap.lt_size e) I.ok.above))).trans (I.base.keep b o e n hb hx)
   . obtain⟨sl,e1⟩:=I.base.slot b o e n hb hx
     exact⟨sl,(hs.2 b (Nat.ne_of_lt (Nat.lt_of_lt_of_le (Heap.lt_size e) I.ok.above))).trans e1⟩
   . obtain⟨o',e1⟩:=I.base.there b o e hx
     exact⟨o',(hs.2 b (Nat.ne_of_lt (Nat.lt_of_lt_of_le (Heap.lt_size e) I.ok.above))).trans e1⟩
   . by_cases hj:j=i
     . subst hj
       rw[hi] at e1;cases e1
       rw[List.getElem?_set_self hiσ] at e2
       cases e2
       exact⟨u,r,.inl ⟨hk,by simp⟩⟩
     rw[List.getElem?_set_ne (Ne.symm hj)] at e2
     obtain⟨u',r',q⟩:=hl j y v' e1 e2 e3
     refine⟨u',r',?_⟩
     rcases q with ⟨k,e⟩ | ⟨k,c,e,z⟩
     . refine .inl ⟨k,?_⟩
       have:y≠x:=fun e=>hj (Nr hN e1 (e ▸ hi))
       simp[this,e]
     exact .inr ⟨k,c,e,z.sameBut hs (cne y c e)⟩
   . obtain⟨w',z⟩:=I.cell y c e
     exact⟨w',z.sameBut hs (cne y c e)⟩
   obtain⟨e,n,ne,nf,d⟩:=I.pin p hp
   exact⟨(hs.2 p.1 ne).trans e,n,ne,nf,d⟩
 have hfn:X.fn x=true:=by
  rcases hf with z | z
  . exact z
  rw[z] at hk;cases hk
 obtain⟨c,hc⟩:=I.ok.has x (.inl hk)
 obtain⟨w',z⟩:=I.cell x c hc
 refine wpAny_storeName_cell I.ok.kind hk hc z (fun h' hc' hs=>?_)
 obtain⟨oc,hoc,hocd⟩:=id z
 refine h { s with heap:=h' } ⟨I.ok,I.os,I.bare,⟨fun b o e n hb hx=>?_,fun b o e n hb hx=>?_,I.base.free,fun b o e hx=>?_,I.base.tups,I.base.frzs,I.base.tbls⟩,⟨m,hn.sameBut hs (Ne.symm (cne x c hc)),fun j y v' e1 e2 e3=>?_⟩,fun y c' e=>?_,I.free,I.freeC,fun p hp=>?_,tracked ⟨oc,hoc,I.freeC x c hc⟩ hs,by simpa using I.len⟩ ⟨c,hs,.inr hc⟩
 . exact(hs.2 b (Nat.ne_of_lt (Nat.lt_of_lt_of_le (Heap.lt_size e) (I.ok.cab x c hfn hc)))).trans (I.base.keep b o e n hb hx)
 . obtain⟨sl,e1⟩:=I.base.slot b o e n hb hx
   exact⟨sl,(hs.2 b (Nat.ne_of_lt (Nat.lt_of_lt_of_le (Heap.lt_size e) (I.ok.cab x c hfn hc)))).trans e1⟩
 . obtain⟨o',e1⟩:=I.base.there b o e hx
   exact⟨o',(hs.2 b (Nat.ne_of_lt (Nat.lt_of_lt_of_le (Heap.lt_size e) (I.ok.cab x c hfn hc)))).trans e1⟩
 . by_cases hj:j=i
   . subst hj
     rw[hi] at e1;cases e1
     rw[List.getElem?_set_self hiσ] at e2
     cases e2
     exact⟨u,r,.inr ⟨.inl hk,c,hc,hc'⟩⟩
   rw[List.getElem?_set_ne (Ne.symm hj)] at e2
   obtain⟨u',r',q⟩:=hl j y v' e1 e2 e3
   refine⟨u',r',?_⟩
   rcases q with q | ⟨k,c',e,z'⟩
   . exact .inl q
   refine .inr ⟨k,c',e,z'.sameBut hs ?_⟩
   rintro rfl
   exact hj (Nr hN e1 (I.ok.inj _ _ _ e hc ▸ hi))
 . by_cases hcc:c'=c
   . subst hcc;exact⟨_,hc'⟩
   obtain⟨w2,z2⟩:=I.cell y c' e
   exact⟨w2,z2.sameBut hs hcc⟩
 obtain⟨e,n,ne,nf,d⟩:=I.pin p hp
 refine⟨(hs.2 p.1 ?_).trans e,n,ne,nf,d⟩
 intro q
 rw[q,hoc] at e
 have q':oc=p.2:=Option.some.inj e
 exact d w' (by rw[<- q'];exact hocd)
theorem Ju {M:Model}{A:Around}{E:Value->Shared->Prop}{i:Nat}{x:Str}{v:V}{u:Value}{Q:Unit->Shared->Prop}(I:Inv X pins σ H s)(hN:X.N.Nodup)(hi:X.N[i]? = some x)(hx:Loc X.env.scope x)(r:RelV v u)
  (h:∀ s',Inv X pins (σ.set i (some v)) H s'->Q () s') (hf:X.fn x=true\/X.env.scope.names.lookup x=some .local:=by with_unfolding_all (first | exact .inl rfl | exact .inr rfl | assumption)):wpAny M A (storeName X.env x u) Q E s:=
 Ps I hN hi hx r (fun s' I' _=>h s' I') hf
theorem Inv.call' {s':Shared}{ch:List Addr}(I:Inv X pins σ H s)(ho:s'.os=s.os)(u:Un (frs X.stack) ch H H' s.heap s'.heap)(hok:HOk X.prog X.w H' s'.heap)(hg:AllBare s'.gens)
  (hch:∀ b∈ch,(b∈X.ex\/X.s₀.heap.objs.size<=b)/\b≠X.env.locals/\(∀ x c,X.env.cells.lookup x=some c->c≠b)/\∀ p∈X.pn++pins,p.1≠b):Inv X pins σ H' s':=by
 obtain⟨h',g',d',t',o'⟩:=s'
 have e:o'=s.os:=ho
 subst e
 exact I.call (g':=g') (t':=t') (d':=d') u hok hg hch
end
abbrev XK:=Value->Option Addr->Hp->Prop
abbrev St:=List (Option V)
abbrev VK:=V->Hp->Prop
abbrev TE:=St->Hp->VK->Prop
abbrev TT:=St->Hp->(Bool->Hp->Prop)->Prop
abbrev TA:=St->Hp->(List V->Hp->Prop)->Prop
structure Ends where
 nx:St->Hp->Prop
 rt:VK
 bk:St->Hp->Prop:=fun _ _=>False
 ct:St->Hp->Prop:=fun _ _=>False
abbrev TS:=Ends->St->Hp->Prop
def EP (X:Cx)(pins:List (Addr×Obj))(σ:St)(Q:VK)(u:Value)(s':Shared):Prop:=∃ v H',Inv X pins σ H' s'/\RelV v u/\Q v H'
def TP (X:Cx)(pins:List (Addr×Obj))(σ:St)(Q:Bool->Hp->Prop)(b:Bool)(s':Shared):Prop:=∃ H',Inv X pins σ H' s'/\Q b H'
def AP (X:Cx)(pins:List (Addr×Obj))(σ:St)(Q:List V->Hp->Prop)(us:List Value)(s':Shared):Prop:=∃ vs H',Inv X pins σ H' s'/\Vals vs us/\Q vs H'
def SP (X:Cx)(pins:List (Addr×Obj))(D:Ends)(f:Flow)(s':Shared):Prop:=
 match f with
 | .next=>∃ σ' H',Inv X pins σ' H' s'/\D.nx σ' H'
 | .brk=>∃ σ' H',Inv X pins σ' H' s'/\D.bk σ' H'
 | .cont=>∃ σ' H',Inv X pins σ' H' s'/\D.ct σ' H'
 | .ret u=>∃ v σ' H',Inv X pins σ' H' s'/\RelV v u/\D.rt v H'
def PE (X:Cx)(e:Expr)(t:TE):Prop:=
 ∀(pins:List (Addr×Obj)) (s:Shared) (σ:St) (H:Hp) (Q:VK),Inv X pins σ H s->t σ H Q->wpAny (model X.prog X.w) X.A (eval e X.env) (EP X pins σ Q) X.xe s
def PT (X:Cx)(e:Expr)(t:TT):Prop:=
 ∀(pins:List (Addr×Obj)) (s:Shared) (σ:St) (H:Hp) (Q:Bool->Hp->Prop),Inv X pins σ H s->t σ H Q->wpAny (model X.prog X.w) X.A (isTrue e X.env (eval e X.env)) (TP X pins σ Q) X.xe s
def PW (X:Cx)(e:Expr)(t:TT):Prop:=
 ∀(whole:Sem Value) (pins:List (Addr×Obj)) (s:Shared) (σ:St) (H:Hp) (Q:Bool->Hp->Prop),Inv X pins σ H s->t σ H Q->wpAny (model X.prog X.w) X.A (isTrue e X.env whole) (TP X pins σ Q) X.xe s
theorem PW.pt {X:Cx}{e:Expr}{t:TT}(h:PW X e t):PT X e t:=h _
def PA (X:Cx)(es:List Expr)(t:TA):Prop:=
 ∀(pos:Pos) (pins:List (Addr×Obj)) (s:Shared) (σ:St) (H:Hp) (Q:List V->Hp->Prop),Inv X pins σ H s->t σ H Q->wpAny (model X.prog X.w) X.A (spliced (backTo pos (starEach es X.env))) (AP X pins σ Q) X.xe s
def PS (X:Cx)(st:Stmt)(t:TS):Prop:=
 ∀(pins:List (Addr×Obj)) (s:Shared) (σ:St) (H:Hp) (D:Ends),Inv X pins σ H s->t D σ H->wpAny (model X.prog X.w) X.A (exec st X.env) (SP X pins D) X.xe s
def PSs (X:Cx)(st:List Stmt)(t:TS):Prop:=
 ∀(pins:List (Addr×Obj)) (s:Shared) (σ:St) (H:Hp) (D:Ends),Inv X pins σ H s->t D σ H->wpAny (model X.prog X.w) X.A (execs st X.env) (SP X pins D) X.xe s
theorem thn {α:Type}{t:Sem α}{Q Q':α->Shared->Prop}{M:Model}{A:Around}{E:Value->Shared->Prop}{s:Shared}(h:wpAny M A t Q E s)(hQ:∀ a s,Q a s->Q' a s):wpAny M A t Q' E s:=wpAny_mono h hQ fun _ _ x=>x
section
variable {X:Cx}
def as8 (i:Nat):TE:=fun σ H Q=>∃ v,σ[i]? = some (some v)/\Q v H
def tC (v:V):TE:=fun _ H Q=>Q v H
theorem ak4 {i:Nat}{x:Str}{pos:Pos}(hN:X.N[i]? = some x)(hv:Vis X.env.scope x)(hd:(x==("__debug__":Str))=false:=by decide)(hcd:(x==("__classdict__":Str))=false:=by decide):PE X (.Name x pos) (as8 i):=by
 intro pins s σ H Q I h
 obtain⟨v,e,h⟩:=h
 obtain⟨m,hn,hl⟩:=I.loc
 obtain⟨u,r,l⟩:=hl i x v hN e hv
 have fin:EP X pins σ Q u s:=⟨v,H,I,r,h⟩
 rcases l with ⟨hk,hm⟩ | ⟨hk,c,hc,hcell⟩
 . exact wpAny_Name (wpAny_loadName_local I.ok.kind hk hn hm fin) hd
 rcases hk with hk | hk
 . exact wpAny_Name (wpAny_loadName_cell I.ok.kind hk hc hcell fin) hd
 exact wpAny_Name (wpAny_loadName_free I.ok.kind hk hc hcell fin hcd) hd
theorem A6 {i j pos}:PE X (.Constant (.int i) j pos) (tC (.int i)):=fun _ _ _ H _ I h=>wpAny_Constant_int ⟨.int i,H,I.tok _,⟨_,rfl⟩,h⟩
theorem Fg {b j pos}:PE X (.Constant (.bool b) j pos) (tC (.bl b)):=fun _ _ _ H _ I h=>Constant_bool ⟨.bl b,H,I,rfl,h⟩
theorem Hh {j pos}:PE X (.Constant .none j pos) (tC .non):=fun _ _ _ H _ I h=>Constant_none ⟨.non,H,I,rfl,h⟩
theorem A7 {x j pos}:PE X (.Constant (.str x) j pos) (tC (.str x)):=fun _ _ _ H _ I h=>Calls.Constant_str ⟨.str x,H,I.tok _,⟨_,rfl⟩,h⟩
def Gl (X:Cx)(x:Str):Prop:=X.env.kindOf x=some .globalImplicit
theorem J1 {E:Value->Shared->Prop}{pins:List (Addr×Obj)}{s:Shared}{σ:St}{H:Hp}{x:Str}{u:Value}{pos:Pos}{Q:Value->Shared->Prop}(I:Inv X pins σ H s)(hg:Gl X x)(hm:X.mg x=some u)(h:Q u s)
  (hd:(x==("__debug__":Str))=false:=by decide):wpAny (model X.prog X.w) X.A (eval (.Name x pos) X.env) Q E s:=
 Calls.Name_function_global I.ok.kind hg (Calls.loadGlobal_global (by rw[I.ok.glob];exact I.mod.glob.keeps I.bk) hm h) hd
theorem Jh {E:Value->Shared->Prop}{pins:List (Addr×Obj)}{s:Shared}{σ:St}{H:Hp}{x:Str}{u:Value}{pos:Pos}{Q:Value->Shared->Prop}(I:Inv X pins σ H s)(hg:Gl X x)(hm:X.mg x=none)(hv:bootBuiltins x=some u)(h:Q u s)
  (hn:x ≠ "__name__":=by decide) (hd:(x==("__debug__":Str))=false:=by decide):wpAny (model X.prog X.w) X.A (eval (.Name x pos) X.env) Q E s:=by
 obtain⟨mb,h1,h2⟩:=I.mod.blt
 exact Calls.Name_function_global I.ok.kind hg (Calls.loadGlobal_builtin (by rw[I.ok.glob];exact I.mod.glob.keeps I.bk) hm (by rw[I.ok.blt];exact h1.keeps I.bk) ((h2 x hn).trans hv) h) hd
theorem ac3 {x:Str}{v:V}{u:Value}{pos:Pos}(hg:Gl X x)(hm:X.mg x=some u)(r:RelV v u)(hd:(x==("__debug__":Str))=false:=by decide):PE X (.Name x pos) (tC v):=
 fun _ _ _ H _ I h=>J1 I hg hm ⟨v,H,I,r,h⟩ hd
theorem G9 {x:Str}{v:V}{u:Value}{pos:Pos}(hg:Gl X x)(hm:X.mg x=none)(hv:bootBuiltins x=some u)(r:RelV v u)(hn:x ≠ "__name__":=by decide)(hd:(x==("__debug__":Str))=false:=by decide):PE X (.Name x pos) (tC v):=
 fun _ _ _ H _ I h=>Jh I hg hm hv ⟨v,H,I,r,h⟩ hn hd
variable {a b:Expr}{ta tb:TE}{pos:Pos}
def tB (t:TE):TT:=fun σ H Q=>t σ H fun x H1=>∃ c,x = .bl c/\Q c H1
theorem Db {e:Expr}{t:TE}(h:PE X e t)(he:∀ whole,isTrue e X.env whole=(do let v <- whole;standAt e.pos;holding [v] (truthy v)):=by intro _;ac_nf):PT X e (tB t):=by
 intro pins s σ H Q I hw
 refine isTrue_plain (thn (h pins s σ H _ I hw) fun v s1 ⟨x,H1,I1,r1,q1⟩=>?_) (he _)
 obtain⟨d,rfl,q⟩:=q1
 cases r1
 exact wpAny_truthy_bool ⟨H1,I1,q⟩
variable {tA tB':TT}{rest:List Expr}
def av3 (t u:TT):TT:=fun σ H Q=>t σ H fun c H1=>if c=true then u σ H1 Q else Q false H1
def tOr (t u:TT):TT:=fun σ H Q=>t σ H fun c H1=>if c=true then Q true H1 else u σ H1 Q
def au1 (t:TT):TT:=fun σ H Q=>t σ H fun c H1=>Q (!c) H1
theorem L0 (ha:PT X a tA):PW X (.BoolOp .And [a] pos) tA:=by
 intro wh pins s σ H Q I h
 refine isTrue_and (thn (ha pins s σ H Q I h) fun c s1 e=>?_)
 cases c with
 | true=>exact isTrue_and_nil e
 | false=>exact e
theorem Ks (ha:PT X a tA):PW X (.BoolOp .Or [a] pos) tA:=by
 intro wh pins s σ H Q I h
 refine isTrue_or (thn (ha pins s σ H Q I h) fun c s1 e=>?_)
 cases c with
 | false=>exact isTrue_or_nil e
 | true=>exact e
theorem Na (ha:PT X a tA)(hb:PW X (.BoolOp .And (b :: rest) pos) tB'):PW X (.BoolOp .And (a :: b :: rest) pos) (av3 tA tB'):=by
 intro wh pins s σ H Q I h
 refine isTrue_and (thn (ha pins s σ H _ I h) fun c s1 ⟨H1,I1,q1⟩=>?_)
 cases c with
 | true=>exact hb wh pins s1 σ H1 Q I1 q1
 | false=>exact⟨H1,I1,q1⟩
theorem Qt (ha:PT X a tA)(hb:PW X (.BoolOp .Or (b :: rest) pos) tB'):PW X (.BoolOp .Or (a :: b :: rest) pos) (tOr tA tB'):=by
 intro wh pins s σ H Q I h
 refine isTrue_or (thn (ha pins s σ H _ I h) fun c s1 ⟨H1,I1,q1⟩=>?_)
 cases c with
 | true=>exact⟨H1,I1,q1⟩
 | false=>exact hb wh pins s1 σ H1 Q I1 q1
theorem Fs (ha:PT X a tA):PT X (.UnaryOp .Not a pos) (au1 tA):=by
 intro pins s σ H Q I h
 exact isTrue_not (ha pins s σ H (fun c H1=>Q (!c) H1) I h)
def ae8 (ta tb:TE):TE:=fun σ H Q=>ta σ H fun x H1=>∃ c,x = .bl c/\if c=true then tb σ H1 Q else Q (.bl false) H1
theorem Qa {op}{t:TE}(h:PE X a t):PE X (.BoolOp op [a] pos) t:=fun pins s σ H Q I hw=>BoolOp_one (h pins s σ H Q I hw)
theorem Mm (ha:PE X a ta)(hb:PE X (.BoolOp .And (b :: rest) pos) tb):PE X (.BoolOp .And (a :: b :: rest) pos) (ae8 ta tb):=by
 intro pins s σ H Q I h
 refine BoolOp_and (thn (ha pins s σ H _ I h) fun v s1 ⟨x,H1,I1,r1,q1⟩=>?_)
 obtain⟨c,rfl,q1⟩:=q1
 cases r1
 refine wpAny_truthy_bool ?_
 cases c with
 | true=>exact hb pins s1 σ H1 Q I1 q1
 | false=>exact⟨.bl false,H1,I1,rfl,q1⟩
def tIf (t:TT)(ta tb:TE):TE:=fun σ H Q=>t σ H fun c H1=>if c=true then ta σ H1 Q else tb σ H1 Q
theorem Jv {c:Expr}(hc:PT X c tA)(ha:PE X a ta)(hb:PE X b tb):PE X (.IfExp c a b pos) (tIf tA ta tb):=by
 intro pins s σ H Q I h
 refine wpAny_IfExp (thn (hc pins s σ H _ I h) fun d s1 ⟨H1,I1,q1⟩=>?_)
 cases d with
 | true=>exact ha pins s1 σ H1 Q I1 q1
 | false=>exact hb pins s1 σ H1 Q I1 q1
end
def SqL (K:PySem.W.Frag)(H:Hp)(a:Addr)(xs:List V):Prop:=
 Rd H a (.lst xs) \/
  ∃(o:Obj) (its:Array Value) (n:Nat),K.lookup a=some o/\o.cls = .type "list" /\ o.dict=none/\o.data = .seq its n/\its.size<=sizeLine/\Vals xs its.toList
def SqT (K:PySem.W.Frag)(H:Hp)(a:Addr)(xs:List V):Prop:=
 Rd H a (.tup xs) \/
  ∃(o:Obj) (its:Array Value) (n:Nat),K.lookup a=some o/\o.cls = .type "tuple" /\ o.data = .seq its n/\its.size<=sizeLine/\Vals xs its.toList/\o.dict=none
def absV:Value->Option V
 | .none=>some .non
 | .bool b=>some (.bl b)
 | .int i _=>some (.int i)
 | .str x _=>some (.str x)
 | .bytes b _=>some (.byt b)
 | .float b _=>some (.flt b)
 | .ref a=>some (.ref a)
 | .type n=>some (.ty n)
 | _=>none
theorem RelV.abs {x:V}{u:Value}(r:RelV x u):absV u=some x:=by
 cases x with
 | non=>cases r;rfl
 | bl _=>cases r;rfl
 | int _=>obtain⟨t,rfl⟩:=r;rfl
 | str _=>obtain⟨t,rfl⟩:=r;rfl
 | byt _=>obtain⟨t,rfl⟩:=r;rfl
 | flt _=>obtain⟨t,rfl⟩:=r;rfl
 | ref _=>cases r;rfl
 | ty _=>cases r;rfl
theorem RelV.inj {x y:V}{u:Value}(r:RelV x u)(q:RelV y u):x=y:=Option.some.inj (r.abs.symm.trans q.abs)
theorem Vals.inj:∀ {xs ys:List V} {us:List Value},Vals xs us->Vals ys us->xs=ys
 | _,_,_,.nil,.nil=>rfl
 | _,_,_,.cons r t,.cons r' t'=>by rw[r.inj r',Vals.inj t t']
section
variable {X:Cx}{pins:List (Addr×Obj)}{σ:St}{H:Hp}{s:Shared}{a:Addr}{xs ys:List V}
theorem SqL.of {K:PySem.W.Frag}(h:H a=some (.lst xs)):SqL K H a xs:=.inl (.inl h)
theorem SqT.of {K:PySem.W.Frag}(h:H a=some (.tup xs)):SqT K H a xs:=.inl (.inl h)
theorem Inv.list (I:Inv X pins σ H s)(h:SqL X.K H a xs):∃ its:List Value,Vals xs its/\PlainL s.heap a its.toArray/\xs.length<=sizeLine:=by
 rcases h with h | ⟨o,its,n,hk,hc,hd,hs,hz,r⟩
 . obtain⟨z,its,n,r,e⟩:=h.ok I.hok
   exact⟨its,r,⟨_,n,e,rfl,rfl,rfl⟩,z⟩
 refine⟨its.toList,r,⟨o,n,I.kIn a o hk,hc,hd,by simpa using hs⟩,?_⟩
 have e:=r.length
 simp only[Array.length_toList] at e
 omega
theorem Inv.tuple (I:Inv X pins σ H s)(h:SqT X.K H a xs):∃ its:List Value,Vals xs its/\IsTup s.heap a its.toArray/\xs.length<=sizeLine:=by
 rcases h with h | ⟨o,its,n,hk,hc,hs,hz,r,hn⟩
 . obtain⟨z,its,r,p⟩:=h.ok I.hok
   exact⟨its,r,p.tup,z⟩
 refine⟨its.toList,r,⟨o,I.kIn a o hk,hc,n,by simpa using hs⟩,?_⟩
 have e:=r.length
 simp only[Array.length_toList] at e
 omega
theorem Inv.list_inj (I:Inv X pins σ H s)(h:SqL X.K H a xs)(h':SqL X.K H a ys):xs=ys:=by
 obtain⟨its,r,⟨o,n,e,_,_,d⟩,_⟩:=I.list h
 obtain⟨its',r',⟨o',n',e',_,_,d'⟩,_⟩:=I.list h'
 rw[e] at e';cases e'
 rw[d] at d'
 injection d' with d1 _
 have:its=its':=by simpa using congrArg Array.toList d1
 subst this
 exact r.inj r'
theorem Inv.tuple_inj (I:Inv X pins σ H s)(h:SqT X.K H a xs)(h':SqT X.K H a ys):xs=ys:=by
 obtain⟨its,r,⟨o,e,_,n,d⟩,_⟩:=I.tuple h
 obtain⟨its',r',⟨o',e',_,n',d'⟩,_⟩:=I.tuple h'
 rw[e] at e';cases e'
 rw[d] at d'
 injection d' with d1 _
 have:its=its':=by simpa using congrArg Array.toList d1
 subst this
 exact r.inj r'
end
abbrev Cx.wish (X:Cx)(E:Value->Shared->Prop):Cx:={ X with xe:=E }
abbrev Cx.nox (X:Cx):Cx:=X.wish fun _ _=>False
theorem Cx.Ok.wish {X:Cx}(ok:X.Ok)(E:Value->Shared->Prop):(X.wish E).Ok:=
 ⟨ok.mod,ok.kind,ok.glob,ok.blt,ok.above,ok.inj,ok.has,ok.cab,ok.hd,ok.frames,ok.stk,ok.exf,ok.bs,ok.bsz,ok.noex,ok.exfs,ok.funs,ok.frf⟩
theorem Cx.Ok.unwish {X:Cx}{E:Value->Shared->Prop}(ok:(X.wish E).Ok):X.Ok:=
 ⟨ok.mod,ok.kind,ok.glob,ok.blt,ok.above,ok.inj,ok.has,ok.cab,ok.hd,ok.frames,ok.stk,ok.exf,ok.bs,ok.bsz,ok.noex,ok.exfs,ok.funs,ok.frf⟩
section
variable {X:Cx}{pins:List (Addr×Obj)}{σ:St}{H:Hp}{s:Shared}{E:Value->Shared->Prop}
theorem Inv.wish (I:Inv X pins σ H s)(E:Value->Shared->Prop):Inv (X.wish E) pins σ H s:=⟨I.ok.wish E,I.os,I.bare,I.base,I.loc,I.cell,I.free,I.freeC,I.pin,I.hok,I.len⟩
theorem Inv.unwish (I:Inv (X.wish E) pins σ H s):Inv X pins σ H s:=⟨I.ok.unwish,I.os,I.bare,I.base,I.loc,I.cell,I.free,I.freeC,I.pin,I.hok,I.len⟩
theorem SP.unwish {D:Ends}{f:Flow}{s':Shared}(h:SP (X.wish E) pins D f s'):SP X pins D f s':=by
 cases f with
 | next=>obtain⟨σ',H',I,q⟩:=h;exact⟨σ',H',I.unwish,q⟩
 | brk=>obtain⟨σ',H',I,q⟩:=h;exact⟨σ',H',I.unwish,q⟩
 | cont=>obtain⟨σ',H',I,q⟩:=h;exact⟨σ',H',I.unwish,q⟩
 | ret u=>obtain⟨v,σ',H',I,r,q⟩:=h;exact⟨v,σ',H',I.unwish,r,q⟩
theorem PSs.nox {st:List Stmt}{t:TS}(h:PSs X.nox st t):PSs X st t:=fun pins s σ H D I hw=>
 wpAny_mono (h pins s σ H D (I.wish _) hw) (fun _ _ q=>q.unwish) fun _ _ z=>False.elim z
end
section
variable {X:Cx}{st:Stmt}{rest:List Stmt}{t u:TS}{e:Expr}{te:TE}{pos:Pos}
def am4:TS:=fun D σ H=>D.nx σ H
def aq0 (t u:TS):TS:=fun D σ H=>t { D with nx:=u D } σ H
theorem Ah:PSs X [] am4:=fun _ _ σ H _ I h=>wpAny_execs_nil ⟨σ,H,I,h⟩
theorem A1 (h1:PS X st t) (h2:PSs X rest u):PSs X (st :: rest) (aq0 t u):=by
 intro pins s σ H D I h
 refine wpAny_execs_cons (thn (h1 pins s σ H { D with nx:=u D } I h) fun f s1 q=>?_)
 cases f with
 | next=>
   obtain⟨σ',H',I',q⟩:=q
   exact h2 pins s1 σ' H' D I' q
 | ret v=>exact q
 | brk=>exact q
 | cont=>exact q
theorem A4 (h1:PS X st t):PSs X [st] t:=by
 intro pins s σ H D I h
 refine wpAny_execs_cons (thn (h1 pins s σ H D I h) fun f s1 q=>?_)
 cases f with
 | next=>exact wpAny_execs_nil q
 | ret v=>exact q
 | brk=>exact q
 | cont=>exact q
theorem Inv.quiet {pins:List (Addr×Obj)}{σ:St}{H:Hp}{s:Shared}(I:Inv X pins σ H s):interactive X.env=false:=by simp[interactive,I.ok.kind]
def ak6 (te:TE):TS:=fun D σ H=>te σ H fun _ H1=>D.nx σ H1
theorem Cl (he:PE X e te)(hs:swapsWith e none pos.line X.env=pure false:=by ac_nf):PS X (.Expr e pos) (ak6 te):=by
 intro pins s σ H D I h
 exact wpAny_Expr_any (thn (he pins s σ H _ I h) fun v s1 ⟨x,H1,I1,r1,q1⟩=>⟨σ,H1,I1,q1⟩) I.quiet hs
def au7 (te:TE):TS:=fun D σ H=>te σ H D.rt
theorem Ak (he:PE X e te):PS X (.Return (some e) pos) (au7 te):=by
 intro pins s σ H D I h
 exact wpAny_Return_some (thn (he pins s σ H _ I h) fun v s1 ⟨x,H1,I1,r1,q1⟩=>⟨x,σ,H1,I1,r1,q1⟩)
def au4 (c:TT)(t u:TS):TS:=fun D σ H=>c σ H fun b H1=>if b=true then t D σ H1 else u D σ H1
theorem B4 {c:Expr}{a b:List Stmt}{tc:TT}(hc:PT X c tc)(ha:PSs X a t)(hb:PSs X b u):PS X (.If c a b pos) (au4 tc t u):=by
 intro pins s σ H D I h
 refine wpAny_If (thn (hc pins s σ H _ I h) fun d s1 ⟨H1,I1,q1⟩=>?_)
 cases d with
 | true=>exact ha pins s1 σ H1 D I1 q1
 | false=>exact hb pins s1 σ H1 D I1 q1
def ao0:TS:=fun _ _ _=>False
theorem Z4:PS X st ao0:=fun _ _ _ _ _ _ h=>h.elim
end
abbrev TG:=V->St->Hp->(St->Hp->Prop)->Prop
abbrev TGs:=List V->St->Hp->(St->Hp->Prop)->Prop
def PG (X:Cx)(target:Expr)(t:TG):Prop:=
 ∀(pins:List (Addr×Obj)) (s:Shared) (σ:St) (H:Hp) (v:V) (u:Value) (Q:St->Hp->Prop),Inv X pins σ H s->RelV v u->t v σ H Q ->
  wpAny (model X.prog X.w) X.A (assign target X.env u) (fun _ s'=>∃ σ' H',Inv X pins σ' H' s'/\Q σ' H') X.xe s
def PGs (X:Cx)(ts:List Expr)(t:TGs):Prop:=
 ∀(pins:List (Addr×Obj)) (s:Shared) (σ:St) (H:Hp) (vs:List V) (us:List Value) (Q:St->Hp->Prop),Inv X pins σ H s->Vals vs us->t vs σ H Q ->
  wpAny (model X.prog X.w) X.A (assignInOrder ((assignEach ts X.env).map (·.2)) us) (fun _ s'=>∃ σ' H',Inv X pins σ' H' s'/\Q σ' H') X.xe s
section
variable {X:Cx}{pos:Pos}
def Js (i:Nat):TG:=fun v σ H Q=>Q (σ.set i (some v)) H
theorem Ap {i:Nat}{x:Str}(hN:X.N.Nodup)(hi:X.N[i]? = some x)(hx:Loc X.env.scope x)(hf:X.fn x=true\/X.env.scope.names.lookup x=some .local:=by with_unfolding_all (first | exact .inl rfl | exact .inr rfl | assumption)):PG X (.Name x pos) (Js i):=by
 intro pins s σ H v u Q I r h
 exact wpAny_assign_Name (Ju I hN hi hx r (fun s' I'=>⟨_,H,I',h⟩) hf)
def ap5:TGs:=fun vs σ H Q=>vs=[]/\Q σ H
def R8 (t:TG)(u:TGs):TGs:=fun vs σ H Q=>∃ v r,vs=v :: r/\t v σ H fun σ' H'=>u r σ' H' Q
theorem Wg:PGs X [] ap5:=by
 intro pins s σ H vs us Q I r h
 obtain⟨e,h⟩:=h
 subst e
 cases r
 exact assignInOrder_nil ⟨σ,H,I,h⟩
theorem Jx {e:Expr}{es:List Expr}{t:TG}{u:TGs}(h1:PG X e t)(h2:PGs X es u)
  (hs:(assignEach (e :: es) X.env).map (·.2)=assign e X.env :: (assignEach es X.env).map (·.2):=by ac_nf):PGs X (e :: es) (R8 t u):=by
 intro pins s σ H vs us Q I r h
 obtain⟨v,vr,e1,h⟩:=h
 subst e1
 cases r with
 | cons r rr=>
   rw[hs]
   refine assignInOrder_cons (thn (h1 pins s σ H _ _ _ I r h) fun _ s1 ⟨σ1,H1,I1,q1⟩=>?_)
   exact h2 pins s1 σ1 H1 _ _ Q I1 rr q1
def am6 (K:PySem.W.Frag)(n:Nat)(t:TGs):TG:=fun v σ H Q=>∃ a xs,v = .ref a/\SqT K H a xs/\xs.length=n/\t xs σ H Q
theorem am9 {es:List Expr}{k:Nat}{t:TGs}{n:Nat}(hc:X.calm=true)(h:PGs X es t)
  (hn:(assignEach es X.env).length=n:=by ac_nf) (hst:(assignEach es X.env).findIdx? (·.1)=none:=by ac_nf):PG X (.Tuple es k pos) (am6 X.K n t):=by
 intro pins s σ H v u Q I r hw
 obtain⟨a,xs,e1,hq,hl,hw⟩:=hw
 subst e1
 cases r
 obtain⟨its,rv,ht,hz⟩:=I.tuple hq
 refine assign_Tuple_tuple (I.ok.hd hc) ht (by simp[hn,<- hl,rv.length]) hst fun h' hx=>?_
 have I1:Inv X pins σ H { s with heap:=h' }:=I.kept (t':=s.toks) fun b o e=>hx b o (Nat.ne_of_lt (Heap.lt_size e)) e
 exact h pins _ σ H xs _ Q I1 (by simpa using rv) hw
def ai2 (te:TE)(g:TG):TS:=fun D σ H=>te σ H fun x H1=>g x σ H1 D.nx
theorem Ai {i:Nat}{x:Str}{e:Expr}{te:TE}{pos':Pos}(hN:X.N.Nodup)(hi:X.N[i]? = some x)(hx:Loc X.env.scope x)(he:PE X e te)(hs:swapsWith e (some (.Name x pos')) pos.line X.env=pure false:=by ac_nf)(hf:X.fn x=true\/X.env.scope.names.lookup x=some .local:=by with_unfolding_all (first | exact .inl rfl | exact .inr rfl | assumption)) :
  PS X (.Assign [.Name x pos'] e pos) (ai2 te (Js i)):=by
 intro pins s σ H D I h
 refine wpAny_Assign_Name (thn (he pins s σ H _ I h) fun v s1 ⟨y,H1,I1,r1,q1⟩=>?_) hs
 exact Ju I1 hN hi hx r1 (fun s2 I2=>⟨_,H1,I2,q1⟩) hf
end
section
variable {X:Cx}{pos:Pos}
def a57 (c:TT)(tb:TS):TS:=fun D σ H=>∃ W:Nat->St->Hp->Prop,(∃ m,W m σ H)/\∀ m σ H,W m σ H ->
 c σ H fun b H1=>if b=true then ∃ N:St->Hp->Prop,(∀ σ' H',N σ' H'->∃ m',m'<m/\W m' σ' H')/\tb { D with nx:=N,ct:=N,bk:=D.nx } σ H1 else D.nx σ H1
theorem T7 {c:Expr}{body:List Stmt}{tc:TT}{tb:TS}(hp:PassesOwn (model X.prog X.w) X.A X.env X.xe)(hc:PT X c tc)(hb:PSs X body tb):PS X (.While c body [] pos) (a57 tc tb):=by
 intro pins s σ H D I h
 obtain⟨W,⟨m0,w0⟩,turn⟩:=h
 refine wpAny_While (codeAny_whileLoop (fun n s'=>∃ σ' H',Inv X pins σ' H' s'/\W n σ' H') ?_ m0 ⟨σ,H,I,w0⟩)
 rintro n s1 ⟨σ1,H1,I1,w1⟩
 refine wpAny_passesOwn hp (thn (hc pins s1 σ1 H1 _ I1 (turn n σ1 H1 w1)) fun b s2 ⟨H2,I2,q2⟩=>?_)
 cases b with
 | true=>
   obtain ⟨N,hN,q2⟩:=q2
   rw[if_pos rfl]
   refine wpAny_passesOwn hp (thn (hb pins s2 σ1 H2 _ I2 q2) fun f s3 q3=>?_)
   cases f with
   | next=>
     obtain⟨σ3,H3,I3,n3⟩:=q3
     obtain⟨m',hm,w3⟩:=hN σ3 H3 n3
     exact⟨m',hm,σ3,H3,I3,w3⟩
   | cont=>
     obtain⟨σ3,H3,I3,n3⟩:=q3
     obtain⟨m',hm,w3⟩:=hN σ3 H3 n3
     exact⟨m',hm,σ3,H3,I3,w3⟩
   | brk=>exact q3
   | ret v=>exact q3
 | false=>
   rw[if_neg Bool.false_ne_true]
   exact wpAny_execs_nil ⟨σ1,H2,I2,q2⟩
end
structure It where
 go:Nat->Hp->Prop
 yld:Nat->Hp->V->Hp->Prop
 stop:Nat->Hp->Prop
def Sq (X:Cx)(pins:List (Addr×Obj))(H:Hp)(b:Addr):Prop:=
 H b=none/\b≠X.env.locals/\b∉X.fs/\(b∈X.ex\/X.s₀.heap.objs.size<=b)/\(∀ x c,X.env.cells.lookup x=some c->c≠b)/\∀ p∈X.pn++pins,p.1≠b
theorem Inv.fpOk {X:Cx}{pins:List (Addr×Obj)}{σ:St}{H H':Hp}{s:Shared}{b:Addr}(I:Inv X pins σ H s)(hb:s.heap.objs.size<=b)(hn:H' b=none):Sq X pins H' b:=by
 refine⟨hn,Nat.ne_of_gt (Nat.lt_of_lt_of_le I.lt hb),I.nofs hb,.inr (Nat.le_trans I.sz hb),fun x c e z=>?_,fun p hp z=>?_⟩
 . obtain⟨v,q⟩:=I.cell x c e
   exact absurd (Nat.lt_of_lt_of_le q.lt (by rw[z];exact hb)) (Nat.lt_irrefl _)
 exact absurd (Nat.lt_of_lt_of_le (Heap.lt_size (I.pin p hp).1) (by rw[z];exact hb)) (Nat.lt_irrefl _)
structure Yk (P:Program)(w:World)(K:PySem.W.Frag)(tg:Expr)(J:It)(fp:List Addr)(it:Addr)(tn:Nat->Heap->Prop):Prop where
 mem:it∈fp
 obj:∀ i h,tn i h->∀ b∈fp,∃ o,h.get? b=some o/\∀ v,o.data ≠ .cell v
 keep:∀ i h h',tn i h->(∀ b∈fp,∀ o,h.get? b=some o->h'.get? b=some o)->tn i h'
 item:∀(X:Cx),X.prog=P->X.w=w->X.K=K->X.calm=true->∀(i:Nat) (pins:List (Addr×Obj)) (s:Shared) (σ:St) (H:Hp) (E:Value->Shared->Prop),Inv X pins σ H s->(∀ b∈fp,Sq X pins H b)->tn i s.heap->J.go i H ->
  wpAny (model P w) X.A (pyNext (.ref it)) (fun r s1=>∃ u,r=some u /\
   wpAny (model P w) X.A (letOwnedTupleGo tg (.ref it) u) (fun _ s2=>∃ x H',Inv X pins σ H' s2/\RelV x u/\J.yld i H x H'/\tn (i+1) s2.heap/\∀ b∈fp,H' b=none) E s1) E s
 done:∀(X:Cx),X.prog=P->X.w=w->X.K=K->X.calm=true->∀(i:Nat) (pins:List (Addr×Obj)) (s:Shared) (σ:St) (H:Hp) (E:Value->Shared->Prop),Inv X pins σ H s->(∀ b∈fp,Sq X pins H b)->tn i s.heap->J.stop i H ->
  wpAny (model P w) X.A (pyNext (.ref it)) (fun r s1=>r=none/\Inv X pins σ H s1) E s
 self:∀(A:Around) (i:Nat) (s:Shared) (Q:Value->Shared->Prop) (E:Value->Shared->Prop),tn i s.heap->Q (.ref it) s->wpAny (model P w) A (pyIter (.ref it)) Q E s
abbrev TI:=St->Hp->(It->Hp->Prop)->Prop
def PIE (X:Cx)(pins:List (Addr×Obj))(σ:St)(tg:Expr)(R:It->Hp->Prop)(itv:Value)(s2:Shared):Prop:=
 ∃(it:Addr) (fp:List Addr) (tn:Nat->Heap->Prop) (J:It) (H':Hp),itv = .ref it/\Inv X pins σ H' s2/\Yk X.prog X.w X.K tg J fp it tn/\tn 0 s2.heap/\(∀ b∈fp,Sq X pins H' b)/\R J H'
def PI (X:Cx)(tg iter:Expr)(wi:TI):Prop:=
 ∀(pins:List (Addr×Obj)) (s:Shared) (σ:St) (H:Hp) (R:It->Hp->Prop),Inv X pins σ H s->wi σ H R ->
  wpAny (model X.prog X.w) X.A (eval iter X.env) (fun v s1=>wpAny (model X.prog X.w) X.A (pyIter v) (PIE X pins σ tg R) X.xe s1) X.xe s
theorem Vl {M:Model}{A:Around}{E:Value->Shared->Prop}{s:Shared}{tg:Expr}{it:Addr}{u:Value}{o:Obj}{n:String}{vs:Array Value}{Q:Unit->Shared->Prop}(ho:s.heap.get? it=some o)(hc:o.cls = .type n)(hd:o.data = .fields vs)
  (hn:["enumerate","zip","dict_itemiterator","dict_reverseitemiterator","odict_iterator","itertools.zip_longest","itertools.pairwise"].contains n=false) (hQ:Q () s):wpAny M A (letOwnedTupleGo tg (.ref it) u) Q E s:=by
 unfold letOwnedTupleGo
 cases tg<;>first
  | exact wpAny_pure hQ
  | (cases u<;>first
    | exact wpAny_pure hQ
    | (refine wpAny_bind (wpAny_load ho ?_)
       rw[hc,hd]
       show wpAny M A (if(["enumerate","zip","dict_itemiterator","dict_reverseitemiterator","odict_iterator","itertools.zip_longest","itertools.pairwise"].contains n&&vs[0]? == some (rawInt _))=true then _ else _) Q E s
       rw[if_neg (by intro h;rw[hn,Bool.false_and] at h;cases h)]
       exact wpAny_pure hQ))
def Itl (K:PySem.W.Frag)(a:Addr):It:=
 ⟨fun i H=>∃ xs x,SqL K H a xs/\xs[i]? = some x,fun i H x H'=>H'=H/\∀ xs,SqL K H a xs->xs[i]? = some x,fun i H=>∃ xs,SqL K H a xs/\xs.length<=i⟩
def Itt (K:PySem.W.Frag)(a:Addr):It:=
 ⟨fun i H=>∃ xs x,SqT K H a xs/\xs[i]? = some x,fun i H x H'=>H'=H/\∀ xs,SqT K H a xs->xs[i]? = some x,fun i H=>∃ xs,SqT K H a xs/\xs.length<=i⟩
def Itr (lo:Int)(n:Nat):It:=⟨fun i _=>i<n,fun i H x H'=>H'=H/\x = .int (lo+i),fun i _=>n<=i⟩
theorem Xg {P:Program}{w:World}{K:PySem.W.Frag}{tg:Expr}(a it:Addr):Yk P w K tg (Itl K a) [it] it (fun i h=>h.IsListIter it a i) where
 mem:=by simp
 obj:=fun i h st b hb=>by
  have e:b=it:=by simpa using hb
  subst e
  obtain⟨o,e,c,d⟩:=st
  exact⟨o,e,fun v z=>by rw[d] at z;cases z⟩
 keep:=fun i h h' st k=>st.at fun o e=>k it (by simp) o e
 item:=by
  intro X hP hw hK hc i pins s σ H E I hf st hg
  subst hP hw hK
  obtain⟨xs,x,hq,hx⟩:=hg
  obtain⟨its,rv,p,hz⟩:=I.list hq
  obtain⟨u,hu,ru⟩:=rv.get hx
  obtain⟨f0,f1,f2,f3,f4,f5⟩:=hf it (by simp)
  refine wpAny_pyNext_list_item st p.isList (x:=u) (by simpa using hu) fun h' st' sb=>?_
  have I1:Inv X pins σ H { s with heap:=h' }:=I.turned (t':=s.toks) (fun b o hb e=>(sb.2 b hb).trans e) f0 f1 f3 f4 f5
  obtain⟨o,e,c,d⟩:=id st'
  exact⟨u,rfl,Vl (s:={ s with heap:=h' }) e c d (by decide) ⟨x,H,I1,ru,⟨rfl,fun ys hy=>by rw[I.list_inj hy hq];exact hx⟩,st',fun b hb=>(hf b hb).1⟩⟩
 done:=by
  intro X hP hw hK hc i pins s σ H E I hf st hg
  subst hP hw hK
  obtain⟨xs,hq,hx⟩:=hg
  obtain⟨its,rv,p,hz⟩:=I.list hq
  obtain⟨f0,f1,f2,f3,f4,f5⟩:=hf it (by simp)
  have hl:=rv.length
  exact wpAny_pyNext_list_end (I.ok.hd hc) st p.isList (by simp;omega) fun h' eb=>⟨rfl,I.turned (t':=s.toks) (fun b o hb e=>eb b o hb e) f0 f1 f3 f4 f5⟩
 self:=fun _ _ _ _ _ st h=>wpAny_pyIter_listiter st h
theorem Tp {P:Program}{w:World}{K:PySem.W.Frag}{tg:Expr}(a it:Addr):Yk P w K tg (Itt K a) [it] it (fun i h=>h.IsTupleIter it a i) where
 mem:=by simp
 obj:=fun i h st b hb=>by
  have e:b=it:=by simpa using hb
  subst e
  obtain⟨o,e,c,d⟩:=st
  exact⟨o,e,fun v z=>by rw[d] at z;cases z⟩
 keep:=fun i h h' st k=>st.at fun o e=>k it (by simp) o e
 item:=by
  intro X hP hw hK hc i pins s σ H E I hf st hg
  subst hP hw hK
  obtain⟨xs,x,hq,hx⟩:=hg
  obtain⟨its,rv,p,hz⟩:=I.tuple hq
  obtain⟨u,hu,ru⟩:=rv.get hx
  obtain⟨f0,f1,f2,f3,f4,f5⟩:=hf it (by simp)
  refine wpAny_pyNext_tuple_item st (show s.heap.IsTuple a its.toArray from p) (x:=u) (by simpa using hu) fun h' st' sb=>?_
  have I1:Inv X pins σ H { s with heap:=h' }:=I.turned (t':=s.toks) (fun b o hb e=>(sb.2 b hb).trans e) f0 f1 f3 f4 f5
  obtain⟨o,e,c,d⟩:=id st'
  exact⟨u,rfl,Vl (s:={ s with heap:=h' }) e c d (by decide) ⟨x,H,I1,ru,⟨rfl,fun ys hy=>by rw[I.tuple_inj hy hq];exact hx⟩,st',fun b hb=>(hf b hb).1⟩⟩
 done:=by
  intro X hP hw hK hc i pins s σ H E I hf st hg
  subst hP hw hK
  obtain⟨xs,hq,hx⟩:=hg
  obtain⟨its,rv,p,hz⟩:=I.tuple hq
  obtain⟨f0,f1,f2,f3,f4,f5⟩:=hf it (by simp)
  have hl:=rv.length
  exact wpAny_pyNext_tuple_end (I.ok.hd hc) st (show s.heap.IsTuple a its.toArray from p) (by simp;omega) fun h' eb=>⟨rfl,I.turned (t':=s.toks) (fun b o hb e=>eb b o hb e) f0 f1 f3 f4 f5⟩
 self:=fun _ _ _ _ _ st h=>wpAny_pyIter_tupleiter st h
theorem Tf {P:Program}{w:World}{K:PySem.W.Frag}{tg:Expr}(it:Addr)(lo:Int)(n:Nat):Yk P w K tg (Itr lo n) [it] it (fun i h=>IsRangeIter h it (lo+(i:Nat)*1) ((n:Int)-(i:Nat)) 1) where
 mem:=by simp
 obj:=fun i h st b hb=>by
  have e:b=it:=by simpa using hb
  subst e
  exact⟨_,st,fun v z=>by
   have z':Data.fields _=Data.cell v:=z
   cases z'⟩
 keep:=fun i h h' st k=>k it (by simp) _ st
 item:=by
  intro X hP hw hK hc i pins s σ H E I hf st hg
  subst hP hw hK
  obtain⟨f0,f1,f2,f3,f4,f5⟩:=hf it (by simp)
  have W:=Walks.range (prog:=X.prog) (w:=X.w) (I.ok.hd hc) it lo 1 n
  refine W.item i s _ _ hg st fun v h' tk hv st' kk=>?_
  obtain⟨t,rfl⟩:=hv
  have I1:Inv X pins σ H { s with heap:=h',toks:=tk }:=I.turned (fun b o hb e=>kk b o (by simpa using hb) e) f0 f1 f3 f4 f5
  refine⟨_,rfl,Vl (s:={ s with heap:=h',toks:=tk }) (n:="range_iterator") st' rfl rfl (by decide) ⟨.int (lo+i),H,I1,⟨t,?_⟩,⟨rfl,rfl⟩,st',fun b hb=>(hf b hb).1⟩⟩
  rw[Int.mul_one]
 done:=by
  intro X hP hw hK hc i pins s σ H E I hf st hg
  subst hP hw hK
  obtain⟨f0,f1,f2,f3,f4,f5⟩:=hf it (by simp)
  exact wpAny_pyNext_range_end (I.ok.hd hc) st (by have:n<=i:=hg;omega) fun h' eb=>⟨rfl,I.turned (t':=s.toks) (fun b o hb e=>eb b o hb e) f0 f1 f3 f4 f5⟩
 self:=fun _ _ _ _ _ st h=>wpAny_pyIter_rangeiter st h
section
variable {X:Cx}{tg:Expr}
theorem Sx {pins:List (Addr×Obj)}{σ:St}{H:Hp}{s:Shared}{R:It->Hp->Prop}{E:Value->Shared->Prop}{lo hi:Int}{t u v:Tok}{tk:Nat}(I:Inv X pins σ H s)(h1:-(2 ^ 62)<=lo)(h2:lo<2 ^ 62)(h3:-(2 ^ 62)<=hi)(h4:hi<2 ^ 62)
  (q:R (Itr lo (hi-lo).toNat) H):wpAny (model X.prog X.w) X.A (pyIter (.ref s.heap.objs.size)) (PIE X pins σ tg R) E { s with heap:=s.heap.push { cls:=.type "range",data:=.fields #[.int lo t,.int hi u,.int 1 v] },toks:=tk }:=by
 refine wpAny_pyIter_range (IsRange.new ..) (small_one h1 h2 h3 h4) ?_
 have I1:Inv X pins σ H { s with heap:=s.heap.push { cls:=.type "range",data:=.fields #[.int lo t,.int hi u,.int 1 v] },toks:=tk }:=I.kept fun b o e=>Heap.get?_push_of_some _ e
 refine⟨(s.heap.push { cls:=.type "range",data:=.fields #[.int lo t,.int hi u,.int 1 v] }).objs.size,[(s.heap.push { cls:=.type "range",data:=.fields #[.int lo t,.int hi u,.int 1 v] }).objs.size],_,_,H,rfl,
  I1.kept (t':=tk) fun b o e=>Heap.get?_push_of_some _ e,Tf _ lo (hi-lo).toNat,?_,fun b hb=>?_,q⟩
 . have e1:lo+((0:Nat):Int)*1=lo:=by simp
   have e2:(((hi-lo).toNat:Nat):Int)-((0:Nat):Int)=Builtin.Range.rangeSize lo hi 1:=by rw[rangeSize_one];split<;>omega
   show IsRangeIter _ _ (lo+((0:Nat):Int)*1) ((((hi-lo).toNat:Nat):Int)-((0:Nat):Int)) 1
   rw[e1,e2]
   exact Heap.get?_push_size _ rfl
 have e:b=(s.heap.push { cls:=.type "range",data:=.fields #[.int lo t,.int hi u,.int 1 v] }).objs.size:=by simpa using hb
 subst e
 exact I1.fpOk (Nat.le_refl _) (I1.hok.fresh (Nat.le_refl _))
def ai1 (ta:TA):TI:=fun σ H R=>ta σ H fun vs H1=>∃ j:Int,vs=[.int j] /\ -(2 ^ 62)<=j/\j<2 ^ 62/\R (Itr 0 j.toNat) H1
def am1 (ta:TA):TI:=fun σ H R=>ta σ H fun vs H1=>∃ i j:Int,vs=[.int i,.int j]/\(-(2 ^ 62)<=i/\i<2 ^ 62 /\ -(2 ^ 62)<=j/\j<2 ^ 62)/\R (Itr i (j-i).toNat) H1
theorem Il {a:Expr}{ta:TA}{p pos:Pos}(hg:Gl X "range")(hm:X.mg "range" = none)(ha:PA X [a] ta)(hs:starEach [a] X.env=[(false,eval a X.env)]:=by ac_nf):PI X tg (.Call (.Name "range" p) [a] [] pos) (ai1 ta):=by
 intro pins s σ H R I h
 refine Call_ (Jh I hg hm boot_range (PyProof.Rows.callWith_type1 (thn (ha pos pins s σ H _ I h) fun us s1 ⟨vs,H1,I1,r1,q1⟩=>?_) hs rfl))
 obtain⟨j,e,q1,q2,q⟩:=q1
 subst e
 cases r1 with
 | cons r rr=>
   cases rr
   obtain⟨t,rfl⟩:=r
   exact call_range_1 (Sx I1 (by omega) (by omega) q1 q2 (by simpa using q))
theorem X9 {a b:Expr}{ta:TA}{p pos:Pos}(hg:Gl X "range")(hm:X.mg "range" = none)(ha:PA X [a,b] ta)(hs:starEach [a,b] X.env=[(false,eval a X.env),(false,eval b X.env)]:=by ac_nf)(hs2:starEach [b] X.env=[(false,eval b X.env)]:=by ac_nf) :
  PI X tg (.Call (.Name "range" p) [a,b] [] pos) (am1 ta):=by
 intro pins s σ H R I h
 refine Call_ (Jh I hg hm boot_range (PyProof.Rows.callWith_type1 (thn (ha pos pins s σ H _ I h) fun us s1 ⟨vs,H1,I1,r1,q1⟩=>?_) (by rw[hs,hs2]) (by rw[hs2];rfl)))
 obtain⟨i,j,e,⟨q1,q2,q3,q4⟩,q⟩:=q1
 subst e
 cases r1 with
 | cons r rr=>
   cases rr with
   | cons r' rr=>
     cases rr
     obtain⟨t,rfl⟩:=r
     obtain⟨t',rfl⟩:=r'
     exact call_range_2 (Sx I1 q1 q2 q3 q4 q)
def at7 (wi:TI)(g:TG)(tb:TS):TS:=fun D σ H=>wi σ H fun J H1=>∃ W:Nat->Nat->St->Hp->Prop,(∃ m,W 0 m σ H1)/\∀ i m σ H,W i m σ H ->
 (J.stop i H/\D.nx σ H)\/(J.go i H/\∃ N:St->Hp->Prop,(∀ σ' H',N σ' H'->∃ m',m'<m/\W (i+1) m' σ' H')/\∀ x H',J.yld i H x H'->g x σ H' fun σ2 H2=>tb { D with nx:=N,ct:=N,bk:=D.nx } σ2 H2)
def Qg (fp:List Addr)(h:Heap):List (Addr×Obj):=fp.filterMap fun b=>(h.get? b).map fun o=>(b,o)
theorem Hf {fp:List Addr}{h:Heap}{b:Addr}{o:Obj}(hb:b∈fp)(e:h.get? b=some o):(b,o)∈Qg fp h:=List.mem_filterMap.mpr ⟨b,hb,by rw[e];rfl⟩
theorem Xc {fp:List Addr} {h:Heap} {p:Addr×Obj} (hp:p∈Qg fp h):p.1∈fp/\h.get? p.1=some p.2:=by
 obtain⟨b,hb,e⟩:=List.mem_filterMap.mp hp
 cases q:h.get? b with
 | none=>rw[q] at e;cases e
 | some o=>
   rw[q] at e
   have e':(b,o)=p:=Option.some.inj e
   subst e'
   exact⟨hb,q⟩
theorem Inv.pinned {pins:List (Addr×Obj)}{σ:St}{H:Hp}{s:Shared}{fp:List Addr}(I:Inv X pins σ H s)(hf:∀ b∈fp,Sq X pins H b)(ho:∀ b∈fp,∃ o,s.heap.get? b=some o/\∀ v,o.data ≠ .cell v):Inv X (pins++Qg fp s.heap) σ H s:=
 I.pins_of fun p hp=>(List.mem_append.mp hp).elim (fun z=>I.pin p (List.mem_append_right _ z)) fun z=>by
  obtain⟨hb,e⟩:=Xc z
  obtain⟨f0,f1,f2,_⟩:=hf p.1 hb
  obtain⟨o,e',d⟩:=ho p.1 hb
  rw[e] at e';cases e'
  exact⟨e,f0,f1,f2,d⟩
theorem Inv.unpinned {pins pl:List (Addr×Obj)}{σ:St}{H:Hp}{s:Shared}(I:Inv X (pins++pl) σ H s):Inv X pins σ H s:=I.pins_of fun p hp=>I.pin p (List.mem_append_right _ (List.mem_append_left _ hp))
theorem Eg {iter:Expr}{body:List Stmt}{wi:TI}{g:TG}{tb:TS}{pos:Pos}(hp:PassesOwn (model X.prog X.w) X.A X.env X.xe)(hc:X.calm=true)(hi:PI X tg iter wi)(hg:PG X tg g)(hb:PSs X body tb)
  (hs:∀ x,foldedSetIterable iter X.env x=pure x:=by intro _;ac_nf):PS X (.For tg iter body [] pos) (at7 wi g tb):=by
 intro pins s σ H D I h
 refine wpAny_For (thn (hi pins s σ H _ I h) fun v s1 h1=>thn h1 fun itv s2 h2=>?_) hs
 obtain⟨it,fp,tn,J,H2,e,I2,T,st2,f2,W,⟨m0,w0⟩,turn⟩:=h2
 subst e
 have stat:∀ {H':Hp},(∀ b∈fp,H' b=none)->∀ b∈fp,Sq X pins H' b:=fun hn b hb=>⟨hn b hb,(f2 b hb).2⟩
 refine codeAny_forLoop_any (fun n s'=>∃ i σ' H',Inv X pins σ' H' s'/\tn i s'.heap/\(∀ b∈fp,H' b=none)/\W i n σ' H') ?_ m0 ⟨0,σ,H2,I2,st2,fun b hb=>(f2 b hb).1,w0⟩
 rintro n s3 ⟨i,σ3,H3,I3,st3,fr3,w3⟩
 rcases turn i n σ3 H3 w3 with ⟨stop,qn⟩ | ⟨go,N,hN,step⟩
 . refine wpAny_passesOwn hp (thn (T.done X rfl rfl rfl hc i pins s3 σ3 H3 X.xe I3 (stat fr3) st3 stop) fun r s4 ⟨hr,I4⟩=>?_)
   subst hr
   exact wpAny_execs_nil ⟨σ3,H3,I4,qn⟩
 refine wpAny_passesOwn hp (thn (T.item X rfl rfl rfl hc i pins s3 σ3 H3 X.xe I3 (stat fr3) st3 go) fun r s4 ⟨u,hr,h4⟩=>?_)
 subst hr
 refine wpAny_passesOwn hp (thn h4 fun _ s5 ⟨x,H5,I5,r5,y5,st5,fr5⟩=>?_)
 have I5':=I5.pinned (stat fr5) (T.obj _ _ st5)
 refine wpAny_passesOwn hp (thn (hg _ s5 σ3 H5 x u _ I5' r5 (step x H5 y5)) fun _ s6 ⟨σ6,H6,I6,q6⟩=>?_)
 refine wpAny_passesOwn hp (thn (hb _ s6 σ6 H6 _ I6 q6) fun f s7 q7=>?_)
 have again:∀ {σ7:St} {H7:Hp},Inv X (pins++Qg fp s5.heap) σ7 H7 s7->N σ7 H7->∃ m,m<n/\∃ i σ' H',Inv X pins σ' H' s7/\tn i s7.heap/\(∀ b∈fp,H' b=none)/\W i m σ' H':=fun {σ7 H7} I7 n7=>by
  obtain⟨m',hm,w7⟩:=hN σ7 H7 n7
  refine⟨m',hm,i+1,σ7,H7,I7.unpinned,T.keep _ _ _ st5 fun b hb o e=>(I7.pin (b,o) (List.mem_append_right _ (List.mem_append_right _ (Hf hb e)))).1,fun b hb=>?_,w7⟩
  obtain⟨o,e,d⟩:=T.obj _ _ st5 b hb
  exact(I7.pin (b,o) (List.mem_append_right _ (List.mem_append_right _ (Hf hb e)))).2.1
 cases f with
 | next=>obtain⟨σ7,H7,I7,n7⟩:=q7;exact again I7 n7
 | cont=>obtain⟨σ7,H7,I7,n7⟩:=q7;exact again I7 n7
 | brk=>obtain⟨σ7,H7,I7,q7⟩:=q7;exact⟨σ7,H7,I7.unpinned,q7⟩
 | ret v=>obtain⟨x7,σ7,H7,I7,r7,q7⟩:=q7;exact⟨x7,σ7,H7,I7.unpinned,r7,q7⟩
end
abbrev R2:=V->V->Hp->VK->Prop
def OpR (X:Cx)(f:Value->Value->Sem Value)(r:R2):Prop:=
 ∀(pins:List (Addr×Obj)) (s:Shared) (σ:St) (H:Hp) (x y:V) (v u:Value) (Q:VK),Inv X pins σ H s->RelV x v->RelV y u->r x y H Q ->
  wpAny (model X.prog X.w) X.A (f v u) (EP X pins σ Q) X.xe s
def UnR (X:Cx)(f:Value->Sem Value)(r:V->Hp->VK->Prop):Prop:=
 ∀(pins:List (Addr×Obj)) (s:Shared) (σ:St) (H:Hp) (x:V) (v:Value) (Q:VK),Inv X pins σ H s->RelV x v->r x H Q ->
  wpAny (model X.prog X.w) X.A (f v) (EP X pins σ Q) X.xe s
def CallR (X:Cx)(f:Value)(r:List V->Hp->VK->Prop):Prop:=
 ∀(pins:List (Addr×Obj)) (s:Shared) (σ:St) (H:Hp) (xs:List V) (us:List Value) (Q:VK),Inv X pins σ H s->Vals xs us->r xs H Q ->
  wpAny (model X.prog X.w) X.A (call f us) (EP X pins σ Q) X.xe s
def TruR (X:Cx)(r:V->Hp->(Bool->Hp->Prop)->Prop):Prop:=
 ∀(pins:List (Addr×Obj)) (s:Shared) (σ:St) (H:Hp) (x:V) (v:Value) (Q:Bool->Hp->Prop),Inv X pins σ H s->RelV x v->r x H Q ->
  wpAny (model X.prog X.w) X.A (truthy v) (TP X pins σ Q) X.xe s
def tOp (r:R2)(ta tb:TE):TE:=fun σ H Q=>ta σ H fun x H1=>tb σ H1 fun y H2=>r x y H2 Q
def tUn (r:V->Hp->VK->Prop)(ta:TE):TE:=fun σ H Q=>ta σ H fun x H1=>r x H1 Q
def rI (C:Int->Int->Prop)(g:Int->Int->V):R2:=fun x y H Q=>∃ i j,x = .int i/\y = .int j/\C i j/\Q (g i j) H
def rI0 (g:Int->Int->V):R2:=fun x y H Q=>∃ i j,x = .int i/\y = .int j/\Q (g i j) H
def rU (g:Int->V):V->Hp->VK->Prop:=fun x H Q=>∃ i,x = .int i/\Q (g i) H
section
variable {X:Cx}{a b c:Expr}{ta tb tc:TE}{pos:Pos}
theorem as1 (ha:PE X a ta)(hb:PE X b tb){pins:List (Addr×Obj)}{s:Shared}{σ:St}{H:Hp}{R:V->V->Hp->Prop}(I:Inv X pins σ H s)
  (h:ta σ H fun x H1=>tb σ H1 fun y H2=>R x y H2) {Q:Value->Shared->Prop} {f:Value->Value->Sem Value}
  (hf:∀ v u s2 x y H2,Inv X pins σ H2 s2->RelV x v->RelV y u->R x y H2->wpAny (model X.prog X.w) X.A (f v u) Q X.xe s2) :
  wpAny (model X.prog X.w) X.A (eval a X.env) (fun v s₁=>wpAny (model X.prog X.w) X.A (eval b X.env) (fun u s₂=>wpAny (model X.prog X.w) X.A (f v u) Q X.xe s₂) X.xe s₁) X.xe s:=by
 refine thn (ha pins s σ H _ I h) fun v s1 ⟨x,H1,I1,r1,q1⟩=>?_
 refine thn (hb pins s1 σ H1 _ I1 q1) fun u s2 ⟨y,H2,I2,r2,q2⟩=>?_
 exact hf v u s2 x y H2 I2 r1 r2 q2
theorem Av {op:Operator}{r:R2}(ho:OpR X (binaryOp op) r)(ha:PE X a ta)(hb:PE X b tb):PE X (.BinOp a op b pos) (tOp r ta tb):=by
 intro pins s σ H Q I h
 exact wpAny_BinOp (as1 ha hb I h fun v u s2 x y H2 I2 rx ry q=>ho pins s2 σ H2 x y v u Q I2 rx ry q)
theorem am0 {op:UnaryOp}{r:V->Hp->VK->Prop}(ho:UnR X (unaryOp op) r)(ha:PE X a ta):PE X (.UnaryOp op a pos) (tUn r ta):=by
 intro pins s σ H Q I h
 exact UnaryOp_ (thn (ha pins s σ H _ I h) fun v s1 ⟨x,H1,I1,r1,q1⟩=>ho pins s1 σ H1 x v Q I1 r1 q1)
theorem opI {f:Value->Value->Sem Value}{C:Int->Int->Prop}{g:Int->Int->Int}
  (rule:∀(i j:Int) (t u:Tok) (s:Shared) (Q:Value->Shared->Prop) (E:Value->Shared->Prop),C i j->Q (.int (g i j) s.toks) { s with toks:=s.toks+1 }->wpAny (model X.prog X.w) X.A (f (.int i t) (.int j u)) Q E s) :
  OpR X f (rI C fun i j=>.int (g i j)):=by
 intro pins s σ H x y v u Q I rx ry h
 obtain⟨i,j,rfl,rfl,hc,q⟩:=h
 obtain⟨t,rfl⟩:=rx
 obtain⟨t',rfl⟩:=ry
 exact rule i j t t' s _ _ hc ⟨.int (g i j),H,I.tok _,⟨_,rfl⟩,q⟩
theorem at1 {f:Value->Value->Sem Value}{g:Int->Int->Int}
  (rule:∀(i j:Int) (t u:Tok) (s:Shared) (Q:Value->Shared->Prop) (E:Value->Shared->Prop),Q (.int (g i j) s.toks) { s with toks:=s.toks+1 }->wpAny (model X.prog X.w) X.A (f (.int i t) (.int j u)) Q E s) :
  OpR X f (rI0 fun i j=>.int (g i j)):=by
 intro pins s σ H x y v u Q I rx ry h
 obtain⟨i,j,rfl,rfl,q⟩:=h
 obtain⟨t,rfl⟩:=rx
 obtain⟨t',rfl⟩:=ry
 exact rule i j t t' s _ _ ⟨.int (g i j),H,I.tok _,⟨_,rfl⟩,q⟩
theorem ap6 {f:Value->Value->Sem Value}{g:Int->Int->Bool}
  (rule:∀(i j:Int) (t u:Tok) (s:Shared) (Q:Value->Shared->Prop) (E:Value->Shared->Prop),Q (.bool (g i j)) s->wpAny (model X.prog X.w) X.A (f (.int i t) (.int j u)) Q E s) :
  OpR X f (rI0 fun i j=>.bl (g i j)):=by
 intro pins s σ H x y v u Q I rx ry h
 obtain⟨i,j,rfl,rfl,q⟩:=h
 obtain⟨t,rfl⟩:=rx
 obtain⟨t',rfl⟩:=ry
 exact rule i j t t' s _ _ ⟨.bl (g i j),H,I,rfl,q⟩
def ar0 (i j:Int):Prop:=0<j/\j<1073741824
def ar5 (i j:Int):Prop:=0<=j/\j<=1000000/\i.natAbs<2 ^ 64
def CMul (i j:Int):Prop:=(-(2 ^ 64)<i/\i<2 ^ 64)\/(-(2 ^ 64)<j/\j<2 ^ 64)
theorem CMul.ok {i j:Int}(h:CMul i j):IntMulOk i j:=by
 rcases h with ⟨h1,h2⟩ | ⟨h1,h2⟩
 . exact .of_left (intBits_le_64 h1 h2)
 exact .of_right (intBits_le_64 h1 h2)
theorem op_add:OpR X (binaryOp .Add) (rI0 fun i j=>.int (i+j)):=at1 fun _ _ _ _ _ _ _ q=>add_int q
theorem al4:OpR X (binaryOp .Sub) (rI0 fun i j=>.int (i-j)):=at1 fun _ _ _ _ _ _ _ q=>sub_int q
theorem op_mul:OpR X (binaryOp .Mult) (rI CMul fun i j=>.int (i*j)):=opI fun _ _ _ _ _ _ _ hc q=>mul_int q hc.ok
theorem a70:OpR X (binaryOp .FloorDiv) (rI ar0 fun i j=>.int (i / j)):=opI fun i j _ _ _ _ _ hc q=>by
 have h1:(0:Int)<j:=hc.1
 have h2:j<1073741824:=hc.2
 exact floordiv_int (by omega) (by rw[Int.fdiv_eq_ediv_of_nonneg i (by omega)];exact q) (.inl (PyProof.noPylong_small (by omega)))
theorem Jj:OpR X (binaryOp .Mod) (rI (fun _ j=>0<j) fun i j=>.int (i % j)):=opI fun i j _ _ _ _ _ hc q=>by
 have h1:(0:Int)<j:=hc
 exact mod_int' (by omega) (by rw[Int.fmod_eq_emod_of_nonneg i (by omega)];exact q)
theorem ae2:OpR X (binaryOp .Pow) (rI ar5 fun i j=>.int (i ^ j.toNat)):=opI fun _ _ _ _ _ _ _ hc q=>pow_int_small hc.1 hc.2.1 hc.2.2 q
theorem a53:OpR X (binaryOp .BitAnd) (rI0 fun i j=>.int (Builtin.bitAnd i j)):=at1 fun _ _ _ _ _ _ _ q=>and_int q
theorem unI {f:Value->Sem Value}{g:Int->Int}
  (rule:∀(i:Int) (t:Tok) (s:Shared) (Q:Value->Shared->Prop) (E:Value->Shared->Prop),Q (.int (g i) s.toks) { s with toks:=s.toks+1 }->wpAny (model X.prog X.w) X.A (f (.int i t)) Q E s) :
  UnR X f (rU fun i=>.int (g i)):=by
 intro pins s σ H x v Q I rx h
 obtain⟨i,rfl,q⟩:=h
 obtain⟨t,rfl⟩:=rx
 exact rule i t s _ _ ⟨.int (g i),H,I.tok _,⟨_,rfl⟩,q⟩
theorem Zx:UnR X (unaryOp .USub) (rU fun i=>.int (-i)):=unI fun _ _ _ _ _ q=>neg_int q
end
def ap8:V->V->Bool
 | .non,.non=>true | .non,.int _=>true | .int _,.non=>true | .non,.bl _=>true | .bl _,.non=>true | .non,.str _=>true | .str _,.non=>true
 | .int _,.int _=>true | .bl _,.bl _=>true | .str _,.str _=>true | .byt _,.byt _=>true
 | .int _,.str _=>true | .str _,.int _=>true | .bl _,.str _=>true | .str _,.bl _=>true
 | _,_=>false
def rEq:R2:=fun x y H Q=>ap8 x y=true/\Q (.bl (decide (x=y))) H
def rNe:R2:=fun x y H Q=>ap8 x y=true/\Q (.bl (!decide (x=y))) H
theorem Wp {i j:Int}:decide (V.int i=V.int j)=(i==j):=by
 rw[Bool.eq_iff_iff]
 simp
theorem a65 {i j:Bool}:decide (V.bl i=V.bl j)=(i==j):=by
 rw[Bool.eq_iff_iff]
 simp
theorem Ww {i j:Str}:decide (V.str i=V.str j)=(i==j):=by
 rw[Bool.eq_iff_iff]
 simp
theorem Wj {i j:Array UInt8}:decide (V.byt i=V.byt j)=(i.toList==j.toList):=by
 rw[Bool.eq_iff_iff]
 cases i
 cases j
 simp
section
variable {X:Cx}{a b c:Expr}{ta tb tc:TE}{pos:Pos}
theorem B1 {pins:List (Addr×Obj)}{σ:St}{H:Hp}{s:Shared}{Q:VK}{k k':Bool}(I:Inv X pins σ H s)(q:Q (.bl k) H)(e:k=k'):EP X pins σ Q (.bool k') s:=by
 subst e
 exact⟨.bl k,H,I,rfl,q⟩
theorem op_eq:OpR X (compareOp .Eq) rEq:=by
 intro pins s σ H x y v u Q I rx ry h
 obtain⟨hs,q⟩:=h
 cases x with
 | non=>
   cases rx
   cases y with
   | non=>cases ry;exact PySem.EqNone.eq_none_none (B1 I q (by simp))
   | bl j=>cases ry;exact PySem.EqNone.eq_none_bool (B1 I q (by simp))
   | int j=>obtain⟨t',rfl⟩:=ry;exact PySem.EqNone.eq_none_int (B1 I q (by simp))
   | str j=>obtain⟨t',rfl⟩:=ry;exact PySem.EqNone.eq_none_str (B1 I q (by simp))
   | _=>exact absurd (show false=true from hs) Bool.false_ne_true
 | bl i=>
   cases rx
   cases y with
   | non=>cases ry;exact PySem.EqNone.eq_bool_none (B1 I q (by simp))
   | bl j=>cases ry;exact eq_bool (B1 I q a65)
   | str j=>obtain⟨t',rfl⟩:=ry;exact PySem.EqMixed.eq_bool_str (B1 I q (by simp))
   | _=>exact absurd (show false=true from hs) Bool.false_ne_true
 | int i=>
   obtain⟨t,rfl⟩:=rx
   cases y with
   | non=>cases ry;exact PySem.EqNone.eq_int_none (B1 I q (by simp))
   | int j=>obtain⟨t',rfl⟩:=ry;exact eq_int (B1 I q Wp)
   | str j=>obtain⟨t',rfl⟩:=ry;exact PySem.EqMixed.eq_int_str (B1 I q (by simp))
   | _=>exact absurd (show false=true from hs) Bool.false_ne_true
 | str i=>
   obtain⟨t,rfl⟩:=rx
   cases y with
   | non=>cases ry;exact PySem.EqNone.eq_str_none (B1 I q (by simp))
   | bl j=>cases ry;exact PySem.EqMixed.eq_str_bool (B1 I q (by simp))
   | int j=>obtain⟨t',rfl⟩:=ry;exact PySem.EqMixed.eq_str_int (B1 I q (by simp))
   | str j=>obtain⟨t',rfl⟩:=ry;exact eq_str (B1 I q Ww)
   | _=>exact absurd (show false=true from hs) Bool.false_ne_true
 | byt i=>
   obtain⟨t,rfl⟩:=rx
   cases y with
   | byt j=>obtain⟨t',rfl⟩:=ry;exact PySem.W.eq_bytes (B1 I q Wj)
   | _=>exact absurd (show false=true from hs) Bool.false_ne_true
 | _=>cases y<;>exact absurd (show false=true from hs) Bool.false_ne_true
theorem op_ne:OpR X (compareOp .NotEq) rNe:=by
 intro pins s σ H x y v u Q I rx ry h
 obtain⟨hs,q⟩:=h
 cases x with
 | non=>
   cases rx
   cases y with
   | non=>cases ry;exact PySem.EqNone.ne_none_none (B1 I q (by simp))
   | bl j=>cases ry;exact PySem.EqNone.ne_none_bool (B1 I q (by simp))
   | int j=>obtain⟨t',rfl⟩:=ry;exact PySem.EqNone.ne_none_int (B1 I q (by simp))
   | str j=>obtain⟨t',rfl⟩:=ry;exact PySem.EqNone.ne_none_str (B1 I q (by simp))
   | _=>exact absurd (show false=true from hs) Bool.false_ne_true
 | bl i=>
   cases rx
   cases y with
   | non=>cases ry;exact PySem.EqNone.ne_bool_none (B1 I q (by simp))
   | bl j=>cases ry;exact ne_bool (B1 I q (congrArg not a65))
   | str j=>obtain⟨t',rfl⟩:=ry;exact PySem.EqMixed.ne_bool_str (B1 I q (by simp))
   | _=>exact absurd (show false=true from hs) Bool.false_ne_true
 | int i=>
   obtain⟨t,rfl⟩:=rx
   cases y with
   | non=>cases ry;exact PySem.EqNone.ne_int_none (B1 I q (by simp))
   | int j=>obtain⟨t',rfl⟩:=ry;exact ne_int (B1 I q (congrArg not Wp))
   | str j=>obtain⟨t',rfl⟩:=ry;exact PySem.EqMixed.ne_int_str (B1 I q (by simp))
   | _=>exact absurd (show false=true from hs) Bool.false_ne_true
 | str i=>
   obtain⟨t,rfl⟩:=rx
   cases y with
   | non=>cases ry;exact PySem.EqNone.ne_str_none (B1 I q (by simp))
   | bl j=>cases ry;exact PySem.EqMixed.ne_str_bool (B1 I q (by simp))
   | int j=>obtain⟨t',rfl⟩:=ry;exact PySem.EqMixed.ne_str_int (B1 I q (by simp))
   | str j=>obtain⟨t',rfl⟩:=ry;exact ne_str (B1 I q (congrArg not Ww))
   | _=>exact absurd (show false=true from hs) Bool.false_ne_true
 | byt i=>
   obtain⟨t,rfl⟩:=rx
   cases y with
   | byt j=>obtain⟨t',rfl⟩:=ry;exact PySem.W.ne_bytes (B1 I q (congrArg not Wj))
   | _=>exact absurd (show false=true from hs) Bool.false_ne_true
 | _=>cases y<;>exact absurd (show false=true from hs) Bool.false_ne_true
theorem ag2:OpR X (compareOp .Lt) (rI0 fun i j=>.bl (decide (i<j))):=ap6 fun _ _ _ _ _ _ _ q=>lt_int q
theorem aq9:OpR X (compareOp .LtE) (rI0 fun i j=>.bl (decide (i<=j))):=ap6 fun _ _ _ _ _ _ _ q=>le_int q
theorem ah3:OpR X (compareOp .Gt) (rI0 fun i j=>.bl (decide (j<i))):=ap6 fun _ _ _ _ _ _ _ q=>gt_int q
theorem ar2:OpR X (compareOp .GtE) (rI0 fun i j=>.bl (decide (j<=i))):=ap6 fun _ _ _ _ _ _ _ q=>ge_int q
theorem op_in_str:OpR X (compareOp .In) (fun x y H Q=>∃ i j,x = .str i/\y = .str j/\Q (.bl (!(Builtin.Str.occurrences j i 0 j.length 1).isEmpty)) H):=by
 intro pins s σ H x y v u Q I rx ry h
 obtain⟨i,j,rfl,rfl,q⟩:=h
 obtain⟨t,rfl⟩:=rx
 obtain⟨t',rfl⟩:=ry
 exact in_str (B1 I q rfl)
theorem ag9:OpR X (compareOp .Is) (fun x y H Q=>y = .non/\Q (.bl (decide (x = .non))) H):=by
 intro pins s σ H x y v u Q I rx ry h
 obtain⟨rfl,q⟩:=h
 cases ry
 refine is_none_gen (B1 I q ?_)
 cases x<;>first
  | (cases rx;rfl)
  | (obtain⟨t,rfl⟩:=rx;rfl)
theorem a98:OpR X (compareOp .IsNot) (fun x y H Q=>y = .non/\Q (.bl (!decide (x = .non))) H):=by
 intro pins s σ H x y v u Q I rx ry h
 obtain⟨rfl,q⟩:=h
 cases ry
 refine isnot_none_gen (B1 I q ?_)
 cases x<;>first
  | (cases rx;rfl)
  | (obtain⟨t,rfl⟩:=rx;rfl)
theorem OpR.or {f:Value->Value->Sem Value}{r r':R2}(h:OpR X f r)(h':OpR X f r'):OpR X f (fun x y H Q=>r x y H Q\/r' x y H Q):=by
 intro pins s σ H x y v u Q I rx ry q
 rcases q with q | q
 . exact h pins s σ H x y v u Q I rx ry q
 exact h' pins s σ H x y v u Q I rx ry q
theorem Al (b:Expr){op:CmpOp}(h:op ≠ .In:=by decide)(h2:op ≠ .NotIn:=by decide):behindInMarks op b=false:=by
 have e1:(op==CmpOp.In)=false:=by cases op<;>first | rfl | exact absurd rfl h
 have e2:(op==CmpOp.NotIn)=false:=by cases op<;>first | rfl | exact absurd rfl h2
 cases b<;>simp[behindInMarks,e1,e2]
theorem Cm {op:CmpOp}{r:R2}(ho:OpR X (compareOp op) r)(ha:PE X a ta)(hb:PE X b tb)(hm:behindInMarks op b=false):PE X (.Compare a [op] [b] pos) (tOp r ta tb):=by
 intro pins s σ H Q I h
 exact wpAny_Compare1 (as1 ha hb I h fun v u s2 x y H2 I2 rx ry q=>ho pins s2 σ H2 x y v u Q I2 rx ry q) hm
def an8 (t:TE):TT:=fun σ H Q=>t σ H fun x H'=>∃ k,x = .bl k/\Q k H'
theorem Ac {op:CmpOp}{r:R2}(ho:OpR X (compareOp op) r)(ha:PE X a ta)(hb:PE X b tb)(hm:behindInMarks op b=false):PT X (.Compare a [op] [b] pos) (an8 (tOp r ta tb)):=by
 intro pins s σ H Q I h
 refine wpAny_isTrue_Compare1 (thn (ha pins s σ H _ I h) fun v s1 ⟨x,H1,I1,r1,q1⟩=>thn (hb pins s1 σ H1 _ I1 q1) fun u s2 ⟨y,H2,I2,r2,q2⟩=>
  thn (ho pins s2 σ H2 x y v u _ I2 r1 r2 q2) fun c s3 ⟨z,H3,I3,r3,k,e,q3⟩=>?_) hm
 subst e
 cases r3
 exact wpAny_truthy_bool ⟨H3,I3,q3⟩
def TruV (K:PySem.W.Frag)(x:V)(H:Hp)(k:Bool):Prop:=
 match x with
 | .non=>k=false
 | .bl b=>k=b
 | .int i=>k=(i != 0)
 | .str y=>y.length<=sizeLine/\k=((y.length:Int) != 0)
 | .byt y=>y.size<=sizeLine/\k=((y.size:Int) != 0)
 | .ref p=>(∃ xs,SqL K H p xs/\k = !xs.isEmpty)\/(∃ xs,SqT K H p xs/\k = !xs.isEmpty)\/∃ kvs,H p=some (.dK kvs)/\k = !kvs.isEmpty
 | _=>False
theorem Tr {κ:Type}{kvs:List (κ×V)}{vs:List (κ×Value)}(r:KV kvs vs):(!vs.isEmpty) = !kvs.isEmpty:=by
 cases r<;>rfl
theorem Nb {xs:List V}{its:List Value}(r:Vals xs its):(!its.toArray.isEmpty) = !xs.isEmpty:=by
 cases r<;>simp
theorem Qq:(sizeLine:Nat)<2 ^ 63:=by rw[sizeLine_eq];decide
theorem ag3:TruR X (fun x H Q=>∃ k,TruV X.K x H k/\Q k H):=by
 intro pins s σ H x v Q I rx h
 obtain ⟨k,e,q⟩:=h
 have hl:=Qq
 have hs:sizeLine=16777216:=sizeLine_eq
 cases x with
 | non=>
   cases rx
   have e':k=false:=e
   subst e'
   exact truthy_none ⟨H,I,q⟩
 | bl b=>
   cases rx
   have e':k=b:=e
   subst e'
   exact wpAny_truthy_bool ⟨H,I,q⟩
 | int i=>
   obtain⟨t,rfl⟩:=rx
   have e':k=(i != 0):=e
   subst e'
   exact PySem.P.truthy_int ⟨H,I,q⟩
 | str y=>
   obtain⟨t,rfl⟩:=rx
   obtain⟨hy,e'⟩:y.length<=sizeLine/\k=((y.length:Int) != 0):=e
   subst e'
   exact PySem.P.truthy_str (by omega) ⟨H,I.tok _,q⟩
 | byt y=>
   obtain⟨t,rfl⟩:=rx
   obtain⟨hy,e'⟩:y.size<=sizeLine/\k=((y.size:Int) != 0):=e
   subst e'
   exact PySem.W.truthy_bytes (by omega) ⟨H,I.tok _,q⟩
 | ref p=>
   cases rx
   have e':(∃ xs,SqL X.K H p xs/\k = !xs.isEmpty)\/(∃ xs,SqT X.K H p xs/\k = !xs.isEmpty)\/∃ kvs,H p=some (.dK kvs)/\k = !kvs.isEmpty:=e
   rcases e' with ⟨xs,hx,e'⟩ | ⟨xs,hx,e'⟩ | ⟨kvs,hx,e'⟩
   . subst e'
     obtain⟨its,r,pl,hz⟩:=I.list hx
     have hlen:=r.length
     exact wpAny_truthy_list pl.isList (by simp only[List.size_toArray];omega) ⟨H,I.tok _,by rw[Nb r];exact q⟩
   . subst e'
     obtain⟨its,r,pl,hz⟩:=I.tuple hx
     have hlen:=r.length
     exact truthy_tuple pl (by simp only[List.size_toArray];omega) ⟨H,I.tok _,by rw[Nb r];exact q⟩
   subst e'
   obtain⟨hz,hS,vs,r,m⟩:kvs.length<=sizeLine/\(p==sysModules)=false/\∃ vs,KV kvs vs/\s.heap.DictOf (Am X.prog X.w) p vs:=I.hok p _ hx
   have hlen:kvs.length=vs.length:=Paired.length r
   exact wpAny_truthy_dict hS m (by omega) ⟨H,I.tok _,by rw[Tr r];exact q⟩
 | _=>exact(show False from e).elim
theorem op_add_str:OpR X (binaryOp .Add) (fun x y H Q=>∃ i j,x = .str i/\y = .str j/\i.length+j.length<=sizeLine/\Q (.str (i++j)) H):=by
 intro pins s σ H x y v u Q I rx ry h
 obtain⟨i,j,rfl,rfl,hz,q⟩:=h
 obtain⟨t,rfl⟩:=rx
 obtain⟨t',rfl⟩:=ry
 exact add_str (fun t' tk=>⟨.str (i++j),H,I.tok _,⟨_,rfl⟩,q⟩) hz
theorem Hw {x:V}{us:List Value}(r:Vals [x] us):∃ u,us=[u]/\RelV x u:=by
 cases r with
 | cons r1 r2=>cases r2;exact⟨_,rfl,r1⟩
theorem Rj {x y:V}{us:List Value}(r:Vals [x,y] us):∃ u w',us=[u,w']/\RelV x u/\RelV y w':=by
 cases r with
 | cons r1 r2=>
   cases r2 with
   | cons r3 r4=>cases r4;exact⟨_,_,rfl,r1,r3⟩
theorem Wn:CallR X (.type "int") (fun xs H Q=>(∃ i,xs=[.int i]/\Q (.int i) H)\/∃ k,xs=[.bl k]/\Q (.int (if k then 1 else 0)) H):=by
 intro pins s σ H xs us Q I r h
 rcases h with ⟨i,rfl,q⟩ | ⟨k,rfl,q⟩
 . obtain⟨u,rfl,t,rfl⟩:=Hw r
   exact call_int_int ⟨.int i,H,I,⟨_,rfl⟩,q⟩
 obtain⟨u,rfl,r1⟩:=Hw r
 cases r1
 exact call_int_bool ⟨.int (if k then 1 else 0),H,I.tok _,⟨_,rfl⟩,q⟩
theorem Qf:CallR X (.type "str") (fun xs H Q=>∃ i,xs=[.int i]/\i.natAbs.log2<1920/\Q (.str (toString i)) H):=by
 intro pins s σ H xs us Q I r h
 obtain⟨i,rfl,hz,q⟩:=h
 obtain⟨u,rfl,t,rfl⟩:=Hw r
 exact PySem.P.str_of_int hz ⟨.str _,H,I.tok _,⟨_,rfl⟩,q⟩
def av0 (K:PySem.W.Frag)(x:V)(H:Hp)(n:Nat):Prop:=
 match x with
 | .str y=>y.length<=sizeLine/\n=y.length
 | .byt y=>y.size<=sizeLine/\n=y.size
 | .ref p=>(∃ xs,SqL K H p xs/\n=xs.length)\/∃ xs,SqT K H p xs/\n=xs.length
 | _=>False
theorem call_len:CallR X (.builtin "len") (fun xs H Q=>∃ x n,xs=[x]/\av0 X.K x H n/\Q (.int n) H):=by
 intro pins s σ H xs us Q I r h
 obtain⟨x,n,rfl,e,q⟩:=h
 obtain ⟨u,rfl,rx⟩:=Hw r
 have hl:=Qq
 have hs:sizeLine=16777216:=sizeLine_eq
 cases x with
 | str y=>
   obtain⟨t,rfl⟩:=rx
   obtain⟨hy,e'⟩:y.length<=sizeLine/\n=y.length:=e
   subst e'
   exact len_str (by omega) ⟨.int _,H,I.tok _,⟨_,rfl⟩,q⟩
 | byt y=>
   obtain⟨t,rfl⟩:=rx
   obtain⟨hy,e'⟩:y.size<=sizeLine/\n=y.size:=e
   subst e'
   exact PySem.W.len_bytes (by omega) ⟨.int _,H,I.tok _,⟨_,rfl⟩,q⟩
 | ref p=>
   cases rx
   have e':(∃ xs,SqL X.K H p xs/\n=xs.length)\/∃ xs,SqT X.K H p xs/\n=xs.length:=e
   rcases e' with ⟨xs,hx,e'⟩ | ⟨xs,hx,e'⟩
   . subst e'
     obtain⟨its,r',pl,hz⟩:=I.list hx
     have hlen:=r'.length
     exact Calls.call_len_list pl.isList (by simp only[List.size_toArray];omega) ⟨.int xs.length,H,I.tok _,⟨_,by simp only[List.size_toArray];rw[hlen]⟩,q⟩
   subst e'
   obtain⟨its,r',pl,hz⟩:=I.tuple hx
   have hlen:=r'.length
   exact len_tuple pl (by simp only[List.size_toArray];omega) ⟨.int xs.length,H,I.tok _,⟨_,by simp only[List.size_toArray];rw[hlen]⟩,q⟩
 | _=>exact(show False from e).elim
end
structure ObjM (h:Heap)(x dx C:Addr)(mA:Str->Option Value):Prop where
 obj:h.get? x=some (PySem.W.instObj C dx)
 ns:h.Ns1 dx mA
 ne:dx≠x
theorem Pf {h:Heap}{dx:Addr}{mA:Str->Option Value}(n:h.Ns1 dx mA):∃ od,h.get? dx=some od/\∀ name,PySem.W.lookIn name od=some (mA name):=by
 obtain⟨o,es,ep,ho,hd,hk,_,hm⟩:=n
 refine⟨o,ho,fun name=>?_⟩
 have e:=hm name
 unfold nsFind findBy at e
 rw[<- Array.find?_toList] at e
 unfold PySem.W.lookIn
 rw[hd]
 dsimp only
 split
 . rename_i y q
   rw[q] at e
   exact congrArg some e
 rename_i q
 rw[q] at e
 have a:es.toList.any (·.refKey)=false:=by
  rw[List.any_eq_false]
  intro y hy
  obtain⟨z,t,hkey⟩:=hk y (Array.mem_toList_iff.mp hy)
  simp[DictEntry.refKey,hkey]
 have a':¬ es.toList.any (·.refKey)=true:=by rw[a];exact Bool.false_ne_true
 rw[if_neg a']
 exact congrArg some e
theorem ObjM.look {h:Heap}{x dx C:Addr}{mA:Str->Option Value}(I:ObjM h x dx C mA):∃ od,PySem.W.InstAt h x (PySem.W.instObj C dx) C (some od)/\∀ name,PySem.W.lookIn name od=some (mA name):=
 let ⟨od,ho,hl⟩:=Pf I.ns
 ⟨od,⟨I.obj,rfl,rfl,ho⟩,hl⟩
section
variable {prog:Program}{w:World}{A:Around}{E:Value->Shared->Prop}{s:Shared}{K:PySem.W.Frag}{x dx C f:Addr}{mA:Str->Option Value}{name:Str}{v:Value}
theorem a96 {expr:Bool}{Q:Value->Shared->Prop}(X:K.In s.heap)(I:ObjM s.heap x dx C mA)(hg:PySem.W.plainGet K C name=true)(hh:PySem.W.hasDictIn K C=true)
  (ha:PySem.W.findIn K (.ref C) name=some none) (hv:mA name=some v) (hv':PySem.W.handedIn v=true) (h:Q v { s with toks:=s.toks+1 }) :
  wpAny (model prog w) A (getAttr (.ref x) name expr) Q E s:=by
 obtain⟨od,J,hl⟩:=I.look
 exact PySem.W.get_value X J (PySem.W.plainGet_of hg).1 (PySem.W.findObj_own hh ha rfl (by rw[hl,hv])) hv' h
theorem Yo {pl:Sem Bool}{Q:Value×List Value->Shared->Prop}(X:K.In s.heap)(I:ObjM s.heap x dx C mA)(hg:PySem.W.plainGet K C name=true)
  (hf:PySem.W.findIn K (.ref C) name=some (some (.ref f))) (ht:PySem.W.isFn K (.ref f)=true) (hv:mA name=none) (h:Q (.ref f,[.ref x]) s) :
  wpAny (model prog w) A (getMethod (.ref x) name pl) Q E s:=by
 obtain⟨od,J,hl⟩:=I.look
 exact PySem.W.method_fn X J (PySem.W.plainGet_of hg).1 (PySem.W.plainGet_of hg).2 hf (beq_iff_eq.mp ht) (by show(PySem.W.lookIn name od).map (·.isSome)=some false;rw[hl,hv];rfl) h
theorem ac1 {ns:List Str}{Q:Unit->Shared->Prop}(X:K.In s.heap)(I:ObjM s.heap x dx C mA)
  (hs:PySem.W.findIn K (.ref C) "__setattr__" = some (some (.builtin "object.__setattr__"))) (hp:PySem.W.plainOver K C=true) (ht:PySem.W.takerIn K C name=some none) (hh:PySem.W.hasDictIn K C=true)
  (hw:PySem.Within mA ns) (hsz:ns.length<=sizeLine)
  (h:∀ h',ObjM h' x dx C (fun y=>if y=name then some v else mA y)->Heap.SameBut dx s.heap h'->Q () { s with heap:=h',toks:=s.toks+2 }) :
  wpAny (model prog w) A (setAttr (.ref x) name v) Q E s:=by
 obtain⟨od,J,hl⟩:=I.look
 refine PySem.W.set_plain X J hs (PySem.W.osa_open (s:={ s with toks:=s.toks+1 }) (r:=none) X J hp ht fun b=>?_)
 obtain⟨cd,hc,hd'⟩:=PySem.W.any_some hh
 have hx:s.heap.get? x=some ⟨.ref C,some dx,.plain,#[]⟩:=I.obj
 refine wpAny_bind (wpAny_pure (wpAny_bind (wpAny_bind (wpAny_loadPart hx (wpAny_bind (PySem.W.Looks.here (s:={ s with toks:=s.toks+1 }) (PySem.W.looks_clsIn X hc) ?_))))))
 rw[hd']
 refine wpAny_pure (a:=some dx) (wpAny_bind (wpAny_pure (wpAny_bind ?_)))
 refine wpAny_nsSet1 (s:={ s with toks:=s.toks+1 }) I.ns fun h' hn2 hs2=>?_
 obtain⟨oD,esD,epD,hoD,hdD,hcD⟩:=hn2.count (PySem.Within.cons name v hw)
 refine wpAny_bind (wpAny_lookBehind hoD (by rw[hdD];exact pastItsLine_dict (Nat.le_trans hcD (by rw[List.length_cons];omega))) ?_)
 exact wpAny_pure (h _ ⟨(hs2.2 _ (Ne.symm I.ne)).trans I.obj,hn2,I.ne⟩ hs2)
theorem Z9 {R:Result->Shared->Prop}{vs:List Value}{kw:List (Str×Value)}(X:K.In s.heap)(hm:PySem.W.makesIn K C=true)
  (hi:PySem.W.findIn K (.ref C) "__init__" = some (some (.ref f))) (hf:PySem.W.typeIn K (.ref f)=some (.type "function"))
  (h:codeAny (model prog w) (A.under (.builtin "type.__call__" ⟨.ref C :: vs,kw⟩)) (.call (.ref f) ⟨.ref (s.heap.objs.size+1) :: vs,kw⟩) (PySem.W.InitBack (s.heap.objs.size+1) R)
   { s with heap:=(s.heap.push PySem.W.emptyDict).push (PySem.W.instObj C s.heap.objs.size) }) :
  codeAny (model prog w) A (.call (.ref C) ⟨vs,kw⟩) R s:=by
 obtain⟨hh,g,d,t,os⟩:=s
 exact PySem.W.make_core (PySem.W.makes_of X hm) (PySem.W.looks_findIn X hi) (fun self=>PySem.W.bind_fn X self hf) (.inl rfl) h
end
def Jg (f:Str) (v:V):List (Str×V)->List (Str×V)
 | []=>[(f,v)]
 | (g,x) :: r=>if g=f then(g,v) :: r else(g,x) :: Jg f v r
theorem Hs (f g:Str)(v:V):∀ fs:List (Str×V),(Jg f v fs).lookup g=if g=f then some v else fs.lookup g
 | []=>by
   show List.lookup g [(f,v)]=_
   by_cases h:g=f
   . have hb:(g==f)=true:=beq_iff_eq.mpr h
     simp only[List.lookup,hb,if_pos h]
   have hb:(g==f)=false:=beq_eq_false_iff_ne.mpr h
   simp only[List.lookup,hb,if_neg h]
 | (k,x) :: r=>by
   have ih:=Hs f g v r
   rw[show Jg f v ((k,x) :: r)=(if k=f then(k,v) :: r else(k,x) :: Jg f v r) from rfl]
   by_cases hk:k=f
   . rw[if_pos hk]
     by_cases h:g=k
     . have hb:(g==k)=true:=beq_iff_eq.mpr h
       simp only[List.lookup,hb,if_pos (h.trans hk)]
     have hb:(g==k)=false:=beq_eq_false_iff_ne.mpr h
     simp only[List.lookup,hb,if_neg (fun e:g=f=>h (e.trans hk.symm))]
   rw[if_neg hk]
   by_cases h:g=k
   . have hb:(g==k)=true:=beq_iff_eq.mpr h
     simp only[List.lookup,hb,if_neg (fun e:g=f=>hk (h.symm.trans e))]
   have hb:(g==k)=false:=beq_eq_false_iff_ne.mpr h
   simp only[List.lookup,hb]
   exact ih
theorem L3 (f:Str)(v:V):∀ fs:List (Str×V),f∈(Jg f v fs).map (·.1)/\∀ g,g∈fs.map (·.1)->g∈(Jg f v fs).map (·.1)
 | []=>⟨by simp[Jg],fun g h=>by simp at h⟩
 | (k,x) :: r=>by
   obtain⟨i1,i2⟩:=L3 f v r
   rw[show Jg f v ((k,x) :: r)=(if k=f then(k,v) :: r else(k,x) :: Jg f v r) from rfl]
   by_cases hk:k=f
   . rw[if_pos hk]
     subst hk
     exact⟨by simp,fun g h=>by simpa using h⟩
   rw[if_neg hk]
   refine⟨?_,fun g h=>?_⟩
   . rw[List.map_cons]
     exact List.mem_cons_of_mem _ i1
   rw[List.map_cons] at h ⊢
   rcases List.mem_cons.mp h with e | e
   . exact List.mem_cons.mpr (.inl e)
   exact List.mem_cons_of_mem _ (i2 g e)
theorem Kq (f:Str)(v:V):∀ fs:List (Str×V),(Jg f v fs).length<=fs.length+1
 | []=>by simp[Jg]
 | (k,x) :: r=>by
   have ih:=Kq f v r
   rw[show Jg f v ((k,x) :: r)=(if k=f then(k,v) :: r else(k,x) :: Jg f v r) from rfl]
   by_cases hk:k=f
   . rw[if_pos hk,List.length_cons,List.length_cons];omega
   rw[if_neg hk,List.length_cons,List.length_cons];omega
theorem RelO.some_of {v:V}{o:Option Value}(r:RelO (some v) o):∃ u,o=some u/\RelV v u:=by
 cases o with
 | none=>exact(show False from r).elim
 | some u=>exact⟨u,rfl,r⟩
theorem RelO.none_of {o:Option Value}(r:RelO none o):o=none:=by
 cases o with
 | none=>rfl
 | some u=>exact(show False from r).elim
theorem Oy {v:V}{u:Value}(r:RelV v u):PySem.W.handedIn u=true:=by
 cases v with
 | non=>cases (show u=Value.none from r);rfl
 | bl b=>cases (show u=Value.bool b from r);rfl
 | int i=>obtain⟨t,e⟩:=(show ∃ t,u=Value.int i t from r);cases e;rfl
 | str x=>obtain⟨t,e⟩:=(show ∃ t,u=Value.str x t from r);cases e;rfl
 | byt b=>obtain⟨t,e⟩:=(show ∃ t,u=Value.bytes b t from r);cases e;rfl
 | flt b=>obtain⟨t,e⟩:=(show ∃ t,u=Value.float b t from r);cases e;rfl
 | ref a=>cases (show u=Value.ref a from r);rfl
 | ty n=>cases (show u=Value.type n from r);rfl
section
variable {P:Program}{w:World}{H H':Hp}{h h':Heap}{a C dx:Addr}{fs fs':List (Str×V)}
theorem Nu (hok:HOk P w H h)(e:H a=some (.ins C dx fs)):∃ mA,ObjM h a dx C mA/\(∀ f,RelO (fs.lookup f) (mA f))/\PySem.Within mA (fs.map (·.1))/\fs.length<=1000/\H dx=some (.own a):=by
 obtain⟨d,z,ne,ob,mA,n,r,q⟩:=(show ObjOk P w H h a (.ins C dx fs) from hok a _ e)
 exact⟨mA,⟨ob,n,ne⟩,r,q,z,d⟩
end
structure Cls (K:PySem.W.Frag)(C:Addr):Prop where
 pg:PySem.W.plainGet K C Str.empty=true
 hd:PySem.W.hasDictIn K C=true
 po:PySem.W.plainOver K C=true
 sa:PySem.W.findIn K (.ref C) "__setattr__" = some (some (.builtin "object.__setattr__"))
theorem Cls.get {K:PySem.W.Frag}{C:Addr}(c:Cls K C)(f:Str):PySem.W.plainGet K C f=true:=c.pg
def NoAttr (K:PySem.W.Frag)(C:Addr)(f:Str):Prop:=PySem.W.findIn K (.ref C) f=some none
theorem NoAttr.taker {K:PySem.W.Frag}{C:Addr}{f:Str}(n:NoAttr K C f):PySem.W.takerIn K C f=some none:=by
 unfold PySem.W.takerIn
 rw[show PySem.W.findIn K (.ref C) f=some none from n]
 rfl
structure ad8 (K:PySem.W.Frag)(C:Addr)(m:Str)(f:Addr):Prop where
 at_:PySem.W.findIn K (.ref C) m=some (some (.ref f))
 fn:PySem.W.isFn K (.ref f)=true
 kp:PySem.W.keepIn K (.ref f)=true
section
variable {X:Cx}{pins:List (Addr×Obj)}{σ:St}{H:Hp}{s:Shared}{a C dx:Addr}{fs:List (Str×V)}{f:Str}{v:V}{A:Around}{E:Value->Shared->Prop}
theorem Ue {b:Bool}{Q:Value->Shared->Prop}(I:Inv X pins σ H s)(e:H a=some (.ins C dx fs))(c:Cls X.K C)(n:NoAttr X.K C f)(l:fs.lookup f=some v)
  (h:∀ u s',Inv X pins σ H s'->RelV v u->Q u s'):wpAny (model X.prog X.w) A (getAttr (.ref a) f b) Q E s:=by
 obtain⟨mA,O,r,_,_,_⟩:=Nu I.hok e
 obtain⟨u,hu,ru⟩:=RelO.some_of (v:=v) (o:=mA f) (by rw[<- l];exact r f)
 exact a96 I.kIn O (c.get f) c.hd n hu (Oy ru) (h u _ (I.tok _) ru)
theorem Mn {m:Str}{g:Addr}{pl:Sem Bool}{Q:Value×List Value->Shared->Prop}(I:Inv X pins σ H s)(e:H a=some (.ins C dx fs))(c:Cls X.K C)(k:ad8 X.K C m g)(l:fs.lookup m=none)
  (h:Q (.ref g,[.ref a]) s):wpAny (model X.prog X.w) A (getMethod (.ref a) m pl) Q E s:=by
 obtain⟨mA,O,r,_,_,_⟩:=Nu I.hok e
 have hn:mA m=none:=RelO.none_of (by rw[<- l];exact r m)
 exact Yo I.kIn O (c.get m) k.at_ k.fn hn h
theorem Tw {y:V}{u:Value}{Q:Unit->Shared->Prop}(I:Inv X pins σ H s)(e:H a=some (.ins C dx fs))(c:Cls X.K C)(n:NoAttr X.K C f)(hl:fs.length<1000)(ry:RelV y u)
  (h:∀ s',Inv X pins σ (upd H a (.ins C dx (Jg f y fs))) s'->Q () s'):wpAny (model X.prog X.w) A (setAttr (.ref a) f u) Q E s:=by
 obtain⟨mA,O,r,wi,_,ho⟩:=Nu I.hok e
 have hz:(fs.map (·.1)).length<=sizeLine:=by rw[List.length_map,sizeLine_eq];omega
 refine ac1 I.kIn O c.sa c.po n.taker c.hd wi hz fun h' O' sb=>h _ ?_
 have hd:∃ o,h'.get? dx=some o:=let ⟨o,_,_,e',_⟩:=O'.ns;⟨o,e'⟩
 refine I.write (x:=a) (e:=dx) (by rw[e];exact True.intro) (.inr ho) (fun b q hb z=>(sb.2 b hb).trans z) hd ?_
 refine⟨by rw[Ar O.ne];exact ho,?_,O.ne,O'.obj,_,O'.ns,fun g=>?_,fun g hg=>?_⟩
 . have:=Kq f y fs;omega
 . show RelO ((Jg f y fs).lookup g) (if g=f then some u else mA g)
   rw[Hs]
   by_cases q:g=f
   . rw[if_pos q,if_pos q];exact ry
   rw[if_neg q,if_neg q];exact r g
 by_cases q:g=f
 . rw[q];exact(L3 f y fs).1
 refine(L3 f y fs).2 g (wi g fun z=>hg ?_)
 show(if g=f then some u else mA g)=none
 rw[if_neg q];exact z
theorem Inv.made (I:Inv X pins σ H s):Inv X pins σ (upd (upd H s.heap.objs.size (.own (s.heap.objs.size+1))) (s.heap.objs.size+1) (.ins C s.heap.objs.size []))
  { s with heap:=(s.heap.push PySem.W.emptyDict).push (PySem.W.instObj C s.heap.objs.size) }:=by
 have e1:(s.heap.push PySem.W.emptyDict).get? s.heap.objs.size=some PySem.W.emptyDict:=Heap.get?_push_size s.heap rfl
 have e2:((s.heap.push PySem.W.emptyDict).push (PySem.W.instObj C s.heap.objs.size)).get? (s.heap.objs.size+1)=some (PySem.W.instObj C s.heap.objs.size):=by
  have:=Heap.get?_push_size (s.heap.push PySem.W.emptyDict) (o:=PySem.W.instObj C s.heap.objs.size) rfl
  rwa[Heap.size_push] at this
 have e3:(s.heap.push PySem.W.emptyDict).Ns s.heap.objs.size (fun _=>none):=⟨PySem.W.emptyDict,#[],_,e1,rfl,(fun e he=>absurd he (by simp)),fun _=>rfl⟩
 have I1:=I.laid (a:=s.heap.objs.size) (o:=.own (s.heap.objs.size+1)) (h':=s.heap.push PySem.W.emptyDict) (t':=s.toks) (fun b u q=>Heap.get?_push_of_some _ q) (Nat.le_refl _) ⟨_,e1⟩
 refine I1.laid (a:=s.heap.objs.size+1) (o:=.ins C s.heap.objs.size []) (t':=s.toks) (fun b u q=>Heap.get?_push_of_some _ q) (Nat.le_of_eq (Heap.size_push _ _)) ?_
 have ne:s.heap.objs.size≠s.heap.objs.size+1:=Nat.ne_of_lt (Nat.lt_succ_self _)
 refine⟨by rw[Ar ne,Ab],Nat.zero_le _,ne,e2,fun _=>none,(Heap.Ns1.of_empty e3).at fun o q=>Heap.get?_push_of_some _ q,fun _=>True.intro,fun y hy=>absurd rfl hy⟩
theorem Xo {prog:Program}{w:World}{env:Env}{e:Expr}{f:Str}{pos:Pos}{s:Shared}{Q:Value->Shared->Prop}(hb:attributeBase e f env (eval e env)=eval e env)
  (h:wpAny (model prog w) A (eval e env) (fun o s₁=>wpAny (model prog w) A (getAttr o f true) Q E s₁) E s):wpAny (model prog w) A (eval (.Attribute e f pos) env) Q E s:=
 Attribute_any_ h (by rw[arm_eval_Attribute,hb])
end
section
variable {X:Cx}{o e value:Expr}{f:Str}{pos pos' tpos:Pos}{ta tv:TE}
end
section
variable {X:Cx}{pins:List (Addr×Obj)}{σ:St}{H:Hp}{s:Shared}{A:Around}{E:Value->Shared->Prop}{Q:Value->Shared->Prop}{c:Value}{b:Bool}
inductive TyOf (K:PySem.W.Frag)(H:Hp):V->Value->Prop where
 | non:TyOf K H .non (.type "NoneType")
 | bl (x:Bool):TyOf K H (.bl x) (.type "bool")
 | int (i:Int):TyOf K H (.int i) (.type "int")
 | str (x:Str):TyOf K H (.str x) (.type "str")
 | flt (x:UInt64):TyOf K H (.flt x) (.type "float")
 | lst {a:Addr} {xs:List V} (e:H a=some (.lst xs)):TyOf K H (.ref a) (.type "list")
 | frz {a:Addr} {o:Obj} {xs:List V} (e:H a=some (.frz o (.lst xs))):TyOf K H (.ref a) (.type "list")
 | tup {a:Addr} {xs:List V} (e:H a=some (.tup xs)):TyOf K H (.ref a) (.type "tuple")
 | dK {a:Addr} {kvs:List (Key×V)} (e:H a=some (.dK kvs)):TyOf K H (.ref a) (.type "dict")
 | dT {a:Addr} {kvs:List (List Key×V)} (e:H a=some (.dT kvs)):TyOf K H (.ref a) (.type "dict")
 | ins {a C dx:Addr} {fs:List (Str×V)} (e:H a=some (.ins C dx fs)) (cl:Cls K C) (ha:PySem.W.findIn K (.ref C) "__class__" = some (some (.builtin "object.__class__")))
   (hn:PySem.W.specialIn K (.builtin "object.__class__") "__get__" = some (some (.builtin "getset_descriptor.__get__"))) (htk:PySem.W.takesIn K (.builtin "object.__class__")=some true)
   (hm:PySem.W.mroIn K C (.type "object")=some true):TyOf K H (.ref a) (.ref C)
theorem Qv {x:V}{u t:Value}(I:Inv X pins σ H s)(rx:RelV x u)(ty:TyOf X.K H x t)(e:PySem.W.kitOne X.K t c=some b)(h:∀ tk,Q (.bool b) { s with toks:=tk }) :
  wpAny (model X.prog X.w) A (call (.builtin "isinstance") [u,c]) Q E s:=by
 cases ty with
 | non=>cases (show u=Value.none from rx);exact PySem.W.kia_one PySem.W.kitx_none I.kIn True.intro e (fun z=>nomatch z) h
 | bl y=>cases (show u=Value.bool y from rx);exact PySem.W.kia_one PySem.W.kitx_bool I.kIn True.intro e (fun z=>nomatch z) h
 | int i=>obtain⟨t,q⟩:=(show ∃ t,u=Value.int i t from rx);cases q;exact PySem.W.kia_one PySem.W.kitx_int I.kIn True.intro e (fun z=>nomatch z) h
 | str y=>obtain⟨t,q⟩:=(show ∃ t,u=Value.str y t from rx);cases q;exact PySem.W.kia_one PySem.W.kitx_str I.kIn True.intro e (fun z=>nomatch z) h
 | flt y=>obtain⟨t,q⟩:=(show ∃ t,u=Value.float y t from rx);cases q;exact PySem.W.kia_one PySem.W.kitx_float I.kIn True.intro e (fun z=>nomatch z) h
 | @lst a xs ea=>
   cases (show u=Value.ref a from rx)
   obtain⟨_,_,n,_,h1⟩:=(show ObjOk X.prog X.w H s.heap a (.lst xs) from I.hok a _ ea)
   exact PySem.W.kia_one PySem.W.kitx_list I.kIn ⟨_,h1,rfl⟩ e (fun z=>nomatch z) h
 | @frz a ob xs ea=>
   cases (show u=Value.ref a from rx)
   obtain⟨_,_,_,n,_,h1⟩:=(show ObjOk X.prog X.w H s.heap a (.frz ob (.lst xs)) from I.hok a _ ea)
   exact PySem.W.kia_one PySem.W.kitx_list I.kIn ⟨_,h1,rfl⟩ e (fun z=>nomatch z) h
 | @tup a xs ea=>
   cases (show u=Value.ref a from rx)
   obtain⟨_,_,_,p⟩:=(show ObjOk X.prog X.w H s.heap a (.tup xs) from I.hok a _ ea)
   obtain⟨o,h1,h2,_⟩:=p
   exact PySem.W.kia_one PySem.W.kitx_tuple I.kIn ⟨o,h1,h2⟩ e (fun z=>nomatch z) h
 | @dK a kvs ea=>
   cases (show u=Value.ref a from rx)
   obtain⟨_,_,vs,_,p⟩:=(show ObjOk X.prog X.w H s.heap a (.dK kvs) from I.hok a _ ea)
   obtain⟨o,es,ep,h1,h2,_⟩:=p
   exact PySem.W.kia_one PySem.W.kitx_dict I.kIn ⟨o,h1,h2.1⟩ e (fun z=>nomatch z) h
 | @dT a kvs ea=>
   cases (show u=Value.ref a from rx)
   obtain⟨_,_,xs,_,o,es,ep,h1,h2,_⟩:=(show ObjOk X.prog X.w H s.heap a (.dT kvs) from I.hok a _ ea)
   exact PySem.W.kia_one PySem.W.kitx_dict I.kIn ⟨o,h1,h2.1⟩ e (fun z=>nomatch z) h
 | @ins a C dx fs ea cl ha hn htk hm=>
   cases (show u=Value.ref a from rx)
   obtain⟨mA,O,_⟩:=Nu I.hok ea
   obtain⟨od,J,_⟩:=O.look
   exact PySem.W.kia_one (PySem.W.kitx_own (cl.get _) cl.hd ha hn htk hm) I.kIn J e (fun z=>nomatch z) h
end
structure Room (k:Nat)(A:Around):Prop where
 hd:A.handled=none
 dp:A.depth+3*k+5<recursionLimit
 un:A.units+16*k+200<cLine
 gd:A.guards=some []
theorem Room.mono {j k:Nat}{A:Around}(r:Room k A)(h:j<=k):Room j A:=⟨r.hd,by have:=r.dp;omega,by have:=r.un;omega,r.gd⟩
theorem Room.deeper {k:Nat}{A:Around}(r:Room (k+1) A)(env:Env):Room k (A.deeper env):=
 ⟨r.hd,by have:=r.dp;show A.depth+1+3*k+5<_;omega,by have:=r.un;show A.units+3+16*k+200<_;omega,r.gd⟩
theorem Tg {A:Around}{C:Addr}{us:List Value}{kw:List (Str×Value)}:(A.under (.builtin "type.__call__" ⟨.ref C :: us,kw⟩)).depth=A.depth+1:=by
 first | rfl | simp[Around.under,Code.weight,Code.isCreation,Code.isGuard,Code.isCaller,Code.frames,Code.isFrame,guardIds]
theorem To {A:Around}{C:Addr}{us:List Value}{kw:List (Str×Value)}:(A.under (.builtin "type.__call__" ⟨.ref C :: us,kw⟩)).units=A.units+1:=by
 first | rfl | simp[Around.under,Code.cUnits,Code.frames,Code.isFrame]
theorem Room.make {k:Nat}{A:Around}(r:Room (k+1) A)(C:Addr)(us:List Value)(kw:List (Str×Value)):Room k (A.under (.builtin "type.__call__" ⟨.ref C :: us,kw⟩)):=
 ⟨r.hd,by have:=r.dp;rw[Tg];omega,by have:=r.un;rw[To];omega,(by first | exact r.gd | (simpa[Around.under,Code.isGuard,guardIds,pushGuards] using r.gd))⟩
theorem Room.depth {k:Nat}{A:Around}(r:Room k A):A.depth<recursionLimit:=by have:=r.dp;omega
theorem Room.units {k:Nat}{A:Around}(r:Room k A):A.units+64<cLine:=by have:=r.un;omega
def ae9:TA:=fun _ H Q=>Q [] H
def ah8 (ta:TE)(tr:TA):TA:=fun σ H Q=>ta σ H fun x H1=>tr σ H1 fun xs H2=>Q (x :: xs) H2
section
variable {X:Cx}{e:Expr}{es:List Expr}{te:TE}{t:TA}{pos:Pos}
theorem A2:PA X [] ae9:=fun _ _ _ _ H Q I h=>Calls.spliced_nil ⟨[],H,I,.nil,h⟩
theorem A0 (ha:PE X e te)(hr:PA X es t)(hs:starEach (e :: es) X.env=(false,eval e X.env) :: starEach es X.env:=by ac_nf):PA X (e :: es) (ah8 te t):=by
 intro pos pins s σ H Q I h
 rw[hs]
 show wpAny _ _ (spliced ((false,eval e X.env) :: backTo pos (starEach es X.env))) _ _ s
 refine Calls.spliced_cons (thn (ha pins s σ H _ I h) fun u s1 ⟨x,H1,I1,r1,q1⟩=>?_)
 exact thn (hr pos pins s1 σ H1 _ I1 q1) fun us s2 ⟨xs,H2,I2,r2,q2⟩=>⟨x :: xs,H2,I2,.cons r1 r2,q2⟩
def av7 (t:TA):TE:=fun σ H Q=>t σ H fun xs H1=>xs.length<=sizeLine/\∀ p,H1 p=none->Q (.ref p) (upd H1 p (.tup xs))
def au0 (t:TA):TE:=fun σ H Q=>t σ H fun xs H1=>xs.length<=sizeLine/\∀ p,H1 p=none->Q (.ref p) (upd H1 p (.lst xs))
theorem Aw {x1}(h:PA X es t):PE X (.Tuple es x1 pos) (av7 t):=by
 intro pins s σ H Q I hq
 refine wpAny_Tuple_spliced (thn (h pos pins s σ H _ I hq) fun us s1 ⟨xs,H1,I1,r,z,q⟩=>⟨by rw[<- r.length];exact z,?_⟩)
 have hf:H1 s1.heap.objs.size=none:=I1.hok.fresh (Nat.le_refl _)
 refine⟨.ref s1.heap.objs.size,upd H1 s1.heap.objs.size (.tup xs),I1.laid (t':=s1.toks) (fun b u e=>Heap.get?_push_of_some _ e) (Nat.le_refl _) ?_,rfl,q _ hf⟩
 exact⟨z,us,r,⟨_,Heap.get?_push_size _ rfl,rfl,⟨_,rfl⟩,rfl⟩⟩
theorem Dc (h:PA X es t):PE X (.List es pos) (au0 t):=by
 intro pins s σ H Q I hq
 refine wpAny_List_spliced (thn (h pos pins s σ H _ I hq) fun us s1 ⟨xs,H1,I1,r,z,q⟩=>⟨by rw[<- r.length];exact z,?_⟩)
 have hf:H1 s1.heap.objs.size=none:=I1.hok.fresh (Nat.le_refl _)
 refine⟨.ref s1.heap.objs.size,upd H1 s1.heap.objs.size (.lst xs),I1.laid (t':=s1.toks) (fun b u e=>Heap.get?_push_of_some _ e) (Nat.le_refl _) ?_,rfl,q _ hf⟩
 exact⟨z,us,0,r,Heap.get?_push_size _ rfl⟩
end
abbrev Sp:=List V->Hp->VK->XK->Prop
abbrev CXT:=List Env->Hp->Shared->XK->Value->Shared->Prop
structure Env0 (P:Program)(w:World)(K:PySem.W.Frag)(mg:Str->Option Value)(base:Heap)(A:Around)(outer:List Env)(s:Shared)(H:Hp):Prop where
 frames:A.frames=some outer
 mod:Mod K mg base
 bs:∀ b o,base.get? b=some o->s.heap.get? b=some o/\H b=none
 bsz:base.objs.size<=s.heap.objs.size
 funs:s.heap.FunFrames base outer
 frf:∀ b∈frs outer,H b=none
 hok:HOk P w H s.heap
 bare:AllBare s.gens
def CE (outer:List Env)(P:Program)(w:World)(H:Hp)(s:Shared)(Q:VK)(u:Value)(s':Shared):Prop:=
 ∃ v H',s'.os=s.os/\AllBare s'.gens/\Un (frs outer) [] H H' s.heap s'.heap/\HOk P w H' s'.heap/\RelV v u/\Q v H'
def CR (CX:CXT)(outer:List Env)(P:Program)(w:World)(H:Hp)(s:Shared)(Q:VK)(E:XK)(r:Result)(s':Shared):Prop:=
 match r with
 | .ok (.ret u)=>CE outer P w H s Q u s'
 | .ok _=>False
 | .error e=>CX outer H s E e s'
structure FnOk (P:Program)(w:World)(K:PySem.W.Frag)(mg:Str->Option Value)(base:Heap)(CX:CXT)(k:Nat)(f:Addr)(fd:FuncData)(ps:List Str)(sp:Sp):Prop where
 len:∀ vs H Q E,sp vs H Q E->vs.length=ps.length
 run:∀(A:Around) (outer:List Env) (s:Shared) (H:Hp) (args:Args) (us:List Value) (vs:List V) (Q:VK) (E:XK),Room k A->Env0 P w K mg base A outer s H->BindsTo s fd args (ps.zip us)->Vals vs us->sp vs H Q E ->
  codeAny (model P w) A (.call (.ref f) args) (CR CX outer P w H s Q E) s
theorem Env0.make {P:Program}{w:World}{K:PySem.W.Frag}{mg:Str->Option Value}{base:Heap}{A:Around}{outer:List Env}{s:Shared}{H:Hp}(e:Env0 P w K mg base A outer s H)(C:Addr)(us:List Value)(kw:List (Str×Value)) :
  Env0 P w K mg base (A.under (.builtin "type.__call__" ⟨.ref C :: us,kw⟩)) outer s H:=⟨by first | exact e.frames | (simpa[Around.under,Code.envs,Code.isFrame,pushEnvs] using e.frames),e.mod,e.bs,e.bsz,e.funs,e.frf,e.hok,e.bare⟩
section
variable {X:Cx}{pins:List (Addr×Obj)}{σ:St}{H:Hp}{s s':Shared}
theorem Inv.env0 (I:Inv X pins σ H s):Env0 X.prog X.w X.K X.mg X.base X.A X.stack s H:=
 ⟨I.ok.frames,I.ok.mod,I.bs,Nat.le_trans I.ok.bsz I.sz,I.stack,I.stkFree,I.hok,I.bare⟩
theorem Inv.after {Q:VK}{u:Value}(I:Inv X pins σ H s)(h:CE X.stack X.prog X.w H s Q u s'):EP X pins σ Q u s':=by
 obtain⟨v,H',os,bare,un,hok,r,q⟩:=h
 obtain⟨hh,g,d,t,os'⟩:=s'
 obtain rfl:os'=s.os:=os
 exact⟨v,H',I.call (h':=hh) (g':=g) (d':=d) (t':=t) (ch:=[]) un hok bare (fun b z=>absurd z (by simp)),r,q⟩
end
def Ur (sp:Sp)(dvs:List V)(E:XK)(t:TA):TE:=fun σ H Q=>t σ H fun vs H1=>sp (vs++dvs) H1 Q E
def Ti (C:Addr)(m:Str)(sp:Sp)(dvs:List V)(E:XK)(ta:TE)(t:TA):TE:=fun σ H Q=>ta σ H fun x H1=>∃ a dx fs,x = .ref a/\H1 a=some (.ins C dx fs)/\fs.lookup m=none /\
 t σ H1 fun vs H2=>sp (x :: (vs++dvs)) H2 Q E
def aq7 (C:Addr)(sp:Sp)(dvs:List V)(E:XK)(t:TA):TE:=fun σ H Q=>t σ H fun vs H1=>∀ x dx,H1 x=none->H1 dx=none->dx≠x ->
 sp (.ref x :: (vs++dvs)) (upd (upd H1 dx (.own x)) x (.ins C dx [])) (fun v H2=>v = .non/\Q (.ref x) H2) E
def Binds (K:PySem.W.Frag)(fd:FuncData)(ps:List Str)(ds:List Value):Prop:=
 ∀(s:Shared) (us:List Value),K.In s.heap->(us++ds).length=ps.length->BindsTo s fd ⟨us,[]⟩ (ps.zip (us++ds))
theorem Binds.all {K:PySem.W.Frag}{fd:FuncData}{ps:List Str}(h:∀ us:List Value,us.length=ps.length->bindArgs fd ⟨us,[]⟩=pure (ps.zip us)):Binds K fd ps []:=fun s us _ hl=>by
 rw[List.append_nil] at hl ⊢
 exact .of_eq (h us hl)
def Ft (CX:CXT)(X:Cx)(E:XK):Prop:=∀(pins:List (Addr×Obj)) (σ:St) (H:Hp) (s:Shared) (e:Value) (s':Shared),Inv X pins σ H s->CX X.stack H s E e s'->X.xe e s'
section
variable {X:Cx}{CX:CXT}{k:Nat}{f C:Addr}{fd:FuncData}{ps:List Str}{sp:Sp}{dvs:List V}{ds:List Value}{E:XK}{x m:Str}{p pos apos:Pos}{e o:Expr}{es:List Expr}{ta:TE}{t:TA}
theorem Vz {pins:List (Addr×Obj)}{σ:St}{H:Hp}{s:Shared}{Q:VK}{us:List Value}{vs:List V}(F:FnOk X.prog X.w X.K X.mg X.base CX k f fd ps sp)(hr:Room k X.A)(hb:Binds X.K fd ps ds)(hd:Vals dvs ds)(hx:Ft CX X E)
  (I:Inv X pins σ H s) (r:Vals vs us) (h:sp (vs++dvs) H Q E):wpAny (model X.prog X.w) X.A (call (.ref f) us) (EP X pins σ Q) X.xe s:=by
 have r2:Vals (vs++dvs) (us++ds):=r.append hd
 have hl:(us++ds).length=ps.length:=by rw[<- r2.length];exact F.len _ _ _ _ h
 refine wpAny_call (codeAny_mono (F.run X.A X.stack s H ⟨us,[]⟩ (us++ds) (vs++dvs) Q E hr I.env0 (hb s us I.kIn hl) r2 h) fun r s' hq=>?_)
 cases r with
 | error e=>exact hx pins σ H s e s' I hq
 | ok fl=>
   cases fl with
   | ret u=>exact I.after hq
   | next=>exact False.elim hq
   | brk=>exact False.elim hq
   | cont=>exact False.elim hq
theorem Wf (F:FnOk X.prog X.w X.K X.mg X.base CX k f fd ps sp)(hr:Room k X.A)(hg:Gl X x)(hm:X.mg x=some (.ref f))(hk:PySem.W.keepIn X.K (.ref f)=true)(hb:Binds X.K fd ps ds)(hd:Vals dvs ds)(hx:Ft CX X E)
  (ha:PA X (e :: es) t) (hdb:(x==("__debug__":Str))=false:=by decide) (he:starEach (e :: es) X.env=(false,eval e X.env) :: starEach es X.env:=by ac_nf) (hpl:(backTo pos (starEach es X.env)).any (·.1)=false:=by ac_nf) :
  PE X (.Call (.Name x p) (e :: es) [] pos) (Ur sp dvs E t):=by
 intro pins s σ H Q I h
 refine wpAny_Call_Name_kw (J1 I hg hm ?_ hdb)
 refine PySem.W.callWith_K (h₀:=X.base) I.ok.mod.kin hk (thn (ha pos pins s σ H _ I h) fun us s1 ⟨vs,H1,I1,r,q⟩=>⟨I1.kIn,?_⟩) he hpl
 exact Vz F hr hb hd hx I1 r q
theorem Uq {pl:Sem Bool}(he:PE X o ta)(c:Cls X.K C)(hm:ad8 X.K C m f)(F:FnOk X.prog X.w X.K X.mg X.base CX k f fd ps sp)(hr:Room k X.A)(hb:Binds X.K fd ps ds)(hd:Vals dvs ds)(hx:Ft CX X E)(ha:PA X (e :: es) t)
  (hst:starEach (e :: es) X.env=(false,eval e X.env) :: starEach es X.env:=by ac_nf) (hpl:(backTo pos (starEach es X.env)).any (·.1)=false:=by ac_nf)
  (ht:eval (.Call (.Attribute o m apos) (e :: es) [] pos) X.env=(do
   let ov <- eval o X.env
   standAt apos.atName
   let (f,first) <- holding [ov] (getMethod ov m pl)
   callWith pos f first (backTo pos (starEach (e :: es) X.env)) (backToKw pos (keywordEach [] X.env))):=by ac_nf) :
  PE X (.Call (.Attribute o m apos) (e :: es) [] pos) (Ti C m sp dvs E ta t):=by
 intro pins s σ H Q I h
 refine PySem.W.methodCall_KW (pl:=pl) (thn (he pins s σ H _ I h) fun u s1 ⟨x,H1,I1,rx,a,dx,fs,ex,ea,l,q⟩=>?_) ht
 subst ex
 obtain rfl:u=Value.ref a:=rx
 refine Mn I1 ea c hm l ?_
 refine PySem.W.callWith_K (first:=[.ref a]) (h₀:=X.base) I.ok.mod.kin hm.kp (thn (ha pos pins s1 σ H1 _ I1 q) fun us s2 ⟨vs,H2,I2,r,q2⟩=>⟨I2.kIn,?_⟩) hst hpl
 exact Vz (us:=.ref a :: us) (vs:=.ref a :: vs) F hr hb hd hx I2 (.cons rfl r) q2
theorem Rt {pl:Sem Bool}(he:PE X o ta)(c:Cls X.K C)(hm:ad8 X.K C m f)(F:FnOk X.prog X.w X.K X.mg X.base CX k f fd ps sp)(hr:Room k X.A)(hb:Binds X.K fd ps ds)(hd:Vals dvs ds)(hx:Ft CX X E)
  (ht:eval (.Call (.Attribute o m apos) [] [] pos) X.env=(do
   let ov <- eval o X.env
   standAt apos.atName
   let (f,first) <- holding [ov] (getMethod ov m pl)
   callWith pos f first (backTo pos (starEach [] X.env)) (backToKw pos (keywordEach [] X.env))):=by ac_nf) :
  PE X (.Call (.Attribute o m apos) [] [] pos) (Ti C m sp dvs E ta ae9):=by
 intro pins s σ H Q I h
 refine PySem.W.methodCall_KW (pl:=pl) (thn (he pins s σ H _ I h) fun u s1 ⟨x,H1,I1,rx,a,dx,fs,ex,ea,l,q⟩=>?_) ht
 subst ex
 obtain rfl:u=Value.ref a:=rx
 refine Mn I1 ea c hm l ?_
 exact PySem.W.callWith_K0 (first:=[.ref a]) I1.kIn hm.kp (Vz (us:=[.ref a]) (vs:=[.ref a]) F hr hb hd hx I1 (.cons rfl .nil) q)
structure Mk (K:PySem.W.Frag)(C f:Addr):Prop where
 makes:PySem.W.makesIn K C=true
 init:PySem.W.findIn K (.ref C) "__init__" = some (some (.ref f))
 fn:PySem.W.isFn K (.ref f)=true
 kp:PySem.W.keepIn K (.ref C)=true
theorem Ye {pins:List (Addr×Obj)}{σ:St}{H:Hp}{s:Shared}{Q:VK}{us:List Value}{vs:List V}(M:Mk X.K C f)(F:FnOk X.prog X.w X.K X.mg X.base CX k f fd ps sp)(hr:Room (k+1) X.A)(hb:Binds X.K fd ps ds)(hd:Vals dvs ds)
  (hx:Ft CX X E) (I:Inv X pins σ H s) (r:Vals vs us)
  (h:∀ x dx,H x=none->H dx=none->dx≠x->sp (.ref x :: (vs++dvs)) (upd (upd H dx (.own x)) x (.ins C dx [])) (fun v H2=>v = .non/\Q (.ref x) H2) E) :
  wpAny (model X.prog X.w) X.A (call (.ref C) us) (EP X pins σ Q) X.xe s:=by
 have hq:=h (s.heap.objs.size+1) s.heap.objs.size (I.hok.fresh (Nat.le_succ _)) (I.hok.fresh (Nat.le_refl _)) (Nat.ne_of_lt (Nat.lt_succ_self _))
 have I2:=Inv.made (C:=C) I
 have r2:Vals (V.ref (s.heap.objs.size+1) :: (vs++dvs)) (Value.ref (s.heap.objs.size+1) :: (us++ds)):=.cons rfl (r.append hd)
 have hl:(Value.ref (s.heap.objs.size+1) :: us++ds).length=ps.length:=by
  have e:=r2.length
  rw[F.len _ _ _ _ hq] at e
  exact e.symm
 refine wpAny_call (Z9 (f:=f) I.kIn M.makes M.init (beq_iff_eq.mp M.fn) (codeAny_mono (F.run _ X.stack _ _ ⟨Value.ref (s.heap.objs.size+1) :: us,[]⟩ (Value.ref (s.heap.objs.size+1) :: (us++ds)) _ _ E (hr.make C us [])
  (I2.env0.make C us []) (hb _ (Value.ref (s.heap.objs.size+1) :: us) I2.kIn hl) r2 hq) fun r s' hq'=>?_))
 cases r with
 | error e=>exact hx pins σ _ _ e s' I2 hq'
 | ok fl=>
   cases fl with
   | ret u=>
     obtain⟨v,H',I3,rv,ev,q3⟩:=I2.after hq'
     subst ev
     exact⟨rv,⟨V.ref (s.heap.objs.size+1),H',I3,rfl,q3⟩⟩
   | next=>exact False.elim hq'
   | brk=>exact False.elim hq'
   | cont=>exact False.elim hq'
theorem a73 (M:Mk X.K C f)(F:FnOk X.prog X.w X.K X.mg X.base CX k f fd ps sp)(hr:Room (k+1) X.A)(hg:Gl X x)(hm:X.mg x=some (.ref C))(hb:Binds X.K fd ps ds)(hd:Vals dvs ds)(hx:Ft CX X E)
  (ha:PA X (e :: es) t) (hdb:(x==("__debug__":Str))=false:=by decide) (he:starEach (e :: es) X.env=(false,eval e X.env) :: starEach es X.env:=by ac_nf) (hpl:(backTo pos (starEach es X.env)).any (·.1)=false:=by ac_nf) :
  PE X (.Call (.Name x p) (e :: es) [] pos) (aq7 C sp dvs E t):=by
 intro pins s σ H Q I h
 refine wpAny_Call_Name_kw (J1 I hg hm ?_ hdb)
 refine PySem.W.callWith_K (h₀:=X.base) I.ok.mod.kin M.kp (thn (ha pos pins s σ H _ I h) fun us s1 ⟨vs,H1,I1,r,q⟩=>⟨I1.kIn,?_⟩) he hpl
 exact Ye M F hr hb hd hx I1 r q
end
section
variable {X:Cx}{CX:CXT}{k:Nat}{f C:Addr}{fd:FuncData}{ps ks:List Str}{sp:Sp}{E:XK}{x m:Str}{p pos apos kpos:Pos}{e o:Expr}{es:List Expr}{kws:List Keyword}{te ta:TE}{t tk:TA}{nm:Option Str}
variable {g:List Value->List Value->List Value}{gV:List V->List V->List V}
end
structure Af (N P:List Str)(sc:Scope):Prop where
 kind:sc.kind = .function
 co:sc.isCoroutine=false
 gen:sc.isGenerator=false
 nd:N.Nodup
 pre:N.take P.length=P
 par:∀ x∈P,sc.names.lookup x=some .local\/sc.names.lookup x=some .cell
 nofree:∀ y∈sc.names,y.2 ≠ .free
theorem Pe {kindOf:Str->Option NameKind}{x:Str}:∀ {binds:List (Str×Value)} {m:Str->Option Value},(∀ v,(x,v)∉binds)->bindL kindOf binds m x=m x
 | [],_,_=>rfl
 | (n,v) :: r,m,h=>by
   unfold bindL
   rw[Pe fun w hw=>h w (List.mem_cons_of_mem _ hw)]
   split
   . have:x≠n:=by rintro rfl;exact h v List.mem_cons_self
     simp[this]
   rfl
theorem Ot {kindOf:Str->Option NameKind}{x:Str}:∀ {binds:List (Str×Value)} {m:Str->Option Value},(∀ v,(x,v)∉binds)->bindC kindOf binds m x=m x
 | [],_,_=>rfl
 | (n,v) :: r,m,h=>by
   unfold bindC
   rw[Ot fun w hw=>h w (List.mem_cons_of_mem _ hw)]
   split
   . rfl
   have:x≠n:=by rintro rfl;exact h v List.mem_cons_self
   simp[this]
theorem Qk {kindOf:Str->Option NameKind} {x:Str} {v:Value}:∀ {P:List Str} {vs:List Value} {i:Nat} {m:Str->Option Value},P.Nodup->P[i]? = some x->vs[i]? = some v->kindOf x=some .local ->
  bindL kindOf (P.zip vs) m x=some v
 | [],_,_,_,_,h,_,_=>by simp at h
 | _ :: _,[],_,_,_,_,h,_=>by simp at h
 | p :: P,w :: vs,0,m,nd,h1,h2,hk=>by
   simp at h1 h2;subst h1;subst h2
   show bindL kindOf ((p,w) :: P.zip vs) m p=_
   unfold bindL
   rw[Pe fun v hv=>(List.nodup_cons.mp nd).1 (List.of_mem_zip hv).1,if_pos hk]
   simp
 | p :: P,w :: vs,i+1,m,nd,h1,h2,hk=>by
   show bindL kindOf ((p,w) :: P.zip vs) m x=_
   unfold bindL
   exact Qk (i:=i) (List.nodup_cons.mp nd).2 (by simpa using h1) (by simpa using h2) hk
theorem Pb {kindOf:Str->Option NameKind} {x:Str} {v:Value}:∀ {P:List Str} {vs:List Value} {i:Nat} {m:Str->Option Value},P.Nodup->P[i]? = some x->vs[i]? = some v->kindOf x≠some .local ->
  bindC kindOf (P.zip vs) m x=some v
 | [],_,_,_,_,h,_,_=>by simp at h
 | _ :: _,[],_,_,_,_,h,_=>by simp at h
 | p :: P,w :: vs,0,m,nd,h1,h2,hk=>by
   simp at h1 h2;subst h1;subst h2
   show bindC kindOf ((p,w) :: P.zip vs) m p=_
   unfold bindC
   rw[Ot fun v hv=>(List.nodup_cons.mp nd).1 (List.of_mem_zip hv).1,if_neg hk]
   simp
 | p :: P,w :: vs,i+1,m,nd,h1,h2,hk=>by
   show bindC kindOf ((p,w) :: P.zip vs) m x=_
   unfold bindC
   exact Pb (i:=i) (List.nodup_cons.mp nd).2 (by simpa using h1) (by simpa using h2) hk
def start (N:List Str)(vs:List V):St:=vs.map some++List.replicate (N.length-vs.length) none
def Sr (CX:CXT)(P:Program)(w:World)(K:PySem.W.Frag)(mg:Str->Option Value)(base:Heap)(N:List Str)(qual:Str)(scope:Scope)(f:Addr)(cd:Value)(A:Around)(outer:List Env)(s:Shared)(H:Hp)(E:XK):Cx where
 prog:=P
 w:=w
 K:=K
 mg:=mg
 base:=base
 A:=A.deeper (envOfC qual scope s.heap.objs.size f cd)
 N:=N
 s₀:=s
 H₀:=H
 env:=envOfC qual scope s.heap.objs.size f cd
 outer:=outer
 stack:=envOfC qual scope s.heap.objs.size f cd :: outer
 ex:=[]
 calm:=true
 fn:=fun _=>true
 pn:=[]
 xe:=fun e s'=>wpAny (model P w) (A.deeper (envOfC qual scope s.heap.objs.size f cd)) (leaving (envOfC qual scope s.heap.objs.size f cd) e) (fun _ s''=>CX outer H s E e s'') (fun e' s''=>CX outer H s E e' s'') s'
theorem Rm {sc:Scope}{n:Nat}{x:Str}(h:sc.names.lookup x=some .cell):∃ c,(cellsFrom n sc.names []).lookup x=some c:=by
 have q:=PySem.W.cellsFrom_some sc.names n [] (.inl h)
 exact Option.isSome_iff_exists.mp q
theorem Pa {CX:CXT}{P:Program}{w:World}{K:PySem.W.Frag}{mg:Str->Option Value}{base:Heap}{N ps:List Str}{qual:Str}{scope:Scope}{f:Addr}{cd:Value}{A:Around}{outer:List Env}{s s1:Shared}{H:Hp}{E:XK}{us:List Value}{vs:List V}
  (S:Af N ps scope) (hd:A.handled=none) (e0:Env0 P w K mg base A outer s H) (hl:vs.length=ps.length) (r:Vals vs us)
  (x:InCallC s s.heap.objs.size (bindL (envOfC qual scope s.heap.objs.size f cd).kindOf (ps.zip us) fun _=>none) (cellsFrom (s.heap.objs.size+1) scope.names []) (bindC (envOfC qual scope s.heap.objs.size f cd).kindOf (ps.zip us) fun _=>none) s1) :
  Inv (Sr CX P w K mg base N qual scope f cd A outer s H E) [] (start N vs) H s1:=by
 have hpl:ps.length<=N.length:=by have:=congrArg List.length S.pre;rw[List.length_take] at this;omega
 obtain⟨h1,tk,rfl,hk⟩:=x.done
 have noA:∀ b:Addr,b∉(Sr CX P w K mg base N qual scope f cd A outer s H E).ex:=fun b z=>absurd (show b∈([]:List Addr) from z) (by simp)
 refine⟨⟨e0.mod,S.kind,rfl,rfl,Nat.le_refl _,fun y z c h1 h2=>?_,fun y hy=>?_,fun y c _ h=>?_,fun _=>hd,Around.frames_deeper e0.frames,.inr ⟨rfl,rfl⟩,fun b z=>absurd z (noA b),e0.bs,e0.bsz,fun b _ _=>noA b,fun b z=>absurd z (noA b),e0.funs,e0.frf⟩,
  rfl,e0.bare,Un.kept hk,⟨_,x.toInCall.ns,fun i y v h1 h2 h3=>?_⟩,fun y c h=>⟨_,x.cell y c h⟩,e0.hok.fresh (Nat.le_refl _),fun y c h=>?_,fun p hp=>absurd (show p∈([]:List (Addr×Obj)) from hp) (by simp),e0.hok.kept hk,?_⟩
 . exact name_of_addr x.apart (PySem.mem_of_lookup h1) (PySem.mem_of_lookup h2)
 . have hy:scope.names.lookup y=some .cell\/scope.names.lookup y=some .free:=hy
   rcases hy with hy | hy
   . exact Rm hy
   exact absurd rfl (S.nofree _ (PySem.mem_of_lookup hy))
 . exact Nat.le_of_lt (x.above y c (PySem.mem_of_lookup h))
 . have hi:i<vs.length:=by
    unfold start at h2
    by_cases hi:i<vs.length
    . exact hi
    rw[List.getElem?_append_right (by simpa using hi)] at h2
    rw[List.getElem?_replicate] at h2
    split at h2<;>cases h2
   have ha:vs[i]? = some v:=by
    unfold start at h2
    rw[List.getElem?_append_left (by simpa using hi),List.getElem?_map] at h2
    cases e:vs[i]? with
    | none=>rw[e] at h2;cases h2
    | some a=>rw[e] at h2;cases h2;rfl
   obtain⟨u,hu,rv⟩:=r.get ha
   have hp:ps[i]? = some y:=by
    rw[<- S.pre,List.getElem?_take_of_lt (by omega)];exact h1
   have ndP:ps.Nodup:=by rw[<- S.pre];exact S.nd.sublist (List.take_sublist _ _)
   refine⟨u,rv,?_⟩
   rcases S.par y (List.mem_of_getElem? hp) with k | k
   . exact .inl ⟨k,Qk ndP hp hu k⟩
   obtain⟨c,e⟩:=Rm (n:=s.heap.objs.size+1) k
   refine .inr ⟨.inl k,c,e,?_⟩
   have q:=x.cell y c e
   rw[Pb ndP hp hu (by show scope.names.lookup y≠_;rw[k];decide)] at q
   exact q
 . exact e0.hok.fresh (Nat.le_of_lt (x.above y c (PySem.mem_of_lookup h)))
 unfold start
 show _=N.length
 rw[List.length_append,List.length_map,List.length_replicate]
 omega
theorem ah4 {CX:CXT}{P:Program}{w:World}{K:PySem.W.Frag}{mg:Str->Option Value}{base:Heap}{k:Nat}{f:Addr}{name qual:Str}{params:Arguments}{body:List Stmt}{scope:Scope}{dV kV doc pm cdv ct oc:Value}{an od:Option Addr}
  {osl:Array (Option Value)} {N ps:List Str} {sp:Sp} (lk:K.lookup f=some ⟨oc,od,.func (PySem.W.fnOf name qual params body scope dV kV doc pm an cdv ct),osl⟩) (hcd:PySem.W.codeIn K cdv qual=true) (S:Af N ps scope)
  (len:∀ vs H Q E,sp vs H Q E->vs.length=ps.length)
  (hbody:∀(A:Around) (outer:List Env) (s:Shared) (H:Hp) (vs:List V) (Q:VK) (E:XK),Room k (A.deeper (envOfC qual scope s.heap.objs.size f cdv))->sp vs H Q E ->
   ∃ t,PSs (Sr CX P w K mg base N qual scope f cdv A outer s H E) body t/\t { nx:=fun _ H'=>Q .non H',rt:=Q } (start N vs) H) :
  FnOk P w K mg base CX (k+1) f (PySem.W.fnOf name qual params body scope dV kV doc pm an cdv ct) ps sp:=by
 refine⟨len,fun A outer s H args us vs Q E hr e0 hb r hsp=>?_⟩
 have hl:=len _ _ _ _ hsp
 have KX:K.In s.heap:=e0.mod.kin.keeps fun b o e=>(e0.bs b o e).1
 have lim:s.heap.NoLimit:=e0.mod.nolimit.keeps fun b o e=>(e0.bs b o e).1
 have hkind:∀ y∈ps.zip us,scope.names.lookup y.1=some .local\/(scope.names.lookup y.1=some .cell/\((cellsFrom (s.heap.objs.size+1) scope.names []).lookup y.1).isSome=true):=fun⟨n,v⟩ hy=>by
  rcases S.par n (List.of_mem_zip hy).1 with q | q
  . exact .inl q
  exact .inr ⟨q,PySem.W.cellsFrom_some _ _ _ (.inl q)⟩
 refine codeAny_call_function hr.depth (KX _ _ lk) rfl S.co S.gen rfl (PySem.W.codeRec_of KX hcd) (hb _ _ _ _ ?_)
 refine wpAny_newFunctionEnv_cells S.kind hkind fun env he s1 x=>?_
 subst he
 refine⟨lim.keeps x.toInCall.keep,codeAny_func ?_⟩
 obtain⟨t,ht,hq⟩:=hbody A outer s H vs Q E (hr.deeper _) hsp
 have I:Inv (Sr CX P w K mg base N qual scope f cdv A outer s H E) [] (start N vs) H s1:=Pa S hr.hd e0 hl r x
 refine wpAny_mono (ht [] s1 (start N vs) H _ I hq) (fun fl s' hs=>?_) fun e s' hs=>hs
 have fin:∀ {σ':St} {H':Hp} {v:V} {u:Value},Inv (Sr CX P w K mg base N qual scope f cdv A outer s H E) [] σ' H' s'->RelV v u->Q v H'->CE outer P w H s Q u s':=
  fun {σ' H' v u} J rv q=>⟨v,H',J.os,J.bare,J.base,J.hok,rv,q⟩
 cases fl with
 | ret u=>
   obtain⟨v,σ',H',J,rv,q⟩:=hs
   exact fin J rv q
 | next=>
   obtain⟨σ',H',J,q⟩:=hs
   exact fin (v:=V.non) (u:=Value.none) J rfl q
 | brk=>
   obtain⟨_,_,_,q⟩:=hs
   exact False.elim q
 | cont=>
   obtain⟨_,_,_,q⟩:=hs
   exact False.elim q
section
variable {X:Cx}{x:Str}{p pos:Pos}{e:Expr}{es:List Expr}{t:TA}{id T:String}{r:List V->Hp->VK->Prop}
def tCB (r:List V->Hp->VK->Prop)(t:TA):TE:=fun σ H Q=>t σ H fun vs H1=>r vs H1 Q
theorem Ae (hc:CallR X (.builtin id) r)(hg:Gl X x)(hm:X.mg x=none)(hv:bootBuiltins x=some (.builtin id))(ha:PA X (e :: es) t)(hn:x ≠ "__name__":=by decide)(hdb:(x==("__debug__":Str))=false:=by decide)
  (he:starEach (e :: es) X.env=(false,eval e X.env) :: starEach es X.env:=by ac_nf) (hpl:(backTo pos (starEach es X.env)).any (·.1)=false:=by ac_nf):PE X (.Call (.Name x p) (e :: es) [] pos) (tCB r t):=by
 intro pins s σ H Q I h
 refine wpAny_Call_Name_kw (Jh I hg hm hv ?_ hn hdb)
 exact PyProof.Rows.callWith_builtin1 (thn (ha pos pins s σ H _ I h) fun us s1 ⟨vs,H1,I1,r1,q1⟩=>hc pins s1 σ H1 vs us Q I1 r1 q1) he hpl
theorem Bl (hc:CallR X (.type T) r)(hg:Gl X x)(hm:X.mg x=none)(hv:bootBuiltins x=some (.type T))(ha:PA X (e :: es) t)(hn:x ≠ "__name__":=by decide)(hdb:(x==("__debug__":Str))=false:=by decide)
  (he:starEach (e :: es) X.env=(false,eval e X.env) :: starEach es X.env:=by ac_nf) (hpl:(backTo pos (starEach es X.env)).any (·.1)=false:=by ac_nf):PE X (.Call (.Name x p) (e :: es) [] pos) (tCB r t):=by
 intro pins s σ H Q I h
 refine wpAny_Call_Name_kw (Jh I hg hm hv ?_ hn hdb)
 exact PyProof.Rows.callWith_type1 (thn (ha pos pins s σ H _ I h) fun us s1 ⟨vs,H1,I1,r1,q1⟩=>hc pins s1 σ H1 vs us Q I1 r1 q1) he hpl
end
end L2
namespace HT
open PySem PyProof.Rows
section
open PySem.SeqAt
open PySem.AutoSeq1 (wpAny_loadPart')
open PySem.MeetsSeq PySem.MeetsSeq2 PySem.MeetsSeq3
end
section
variable {prog:Program}{w:World}{A:Around}{E:Value->Shared->Prop}{s:Shared}
theorem cat_tup {t b:Addr}{vs ws:List Value}{Q:Value->Shared->Prop}(ht:IsTup s.heap t vs.toArray)(hb:IsTup s.heap b ws.toArray)(hv:vs≠[])
  (h1:ws=[]->Q (.ref t) s) (h2:ws≠[]->Q (.ref s.heap.objs.size) { s with heap:=s.heap.push { cls:=.type "tuple",data:=.seq (vs++ws).toArray } })
  (hsz:vs.length+ws.length<=sizeLine):wpAny (model prog w) A (binaryOp .Add (.ref t) (.ref b)) Q E s:=by
 obtain⟨⟨cls,dd,data,sl⟩,ho,hc,n,hd⟩:=id ht
 obtain⟨⟨cls2,dd2,data2,sl2⟩,ho2,hc2,n2,hd2⟩:=id hb
 simp only at hc hd hc2 hd2
 subst hc hd hc2 hd2
 have e:vs.toArray++ws.toArray=(vs++ws).toArray:=by simp
 by_cases hw:ws=[]
 . exact concat_meets ⟨_,ho,rfl⟩ ⟨_,ho2,rfl⟩ noFill_tuple_add seq_tuple_add PySem.F.slot_tuple_add PySem.F.entry_tuple_add (PySem.F.args_tuple_add_2 _ _)
    (tuple_addW1 t b vs.toArray ws.toArray n n2 dd dd2 sl sl2 (by simpa using hv) (by simp[hw])) ⟨ho,ho2,h1 hw⟩
 refine concat_meets ⟨_,ho,rfl⟩ ⟨_,ho2,rfl⟩ noFill_tuple_add seq_tuple_add PySem.F.slot_tuple_add PySem.F.entry_tuple_add (PySem.F.args_tuple_add_2 _ _)
  (tuple_addW2 t b vs.toArray ws.toArray n n2 dd dd2 sl sl2 (by simpa using hv) (by simpa using hw) (by rw[List.size_toArray,List.size_toArray];exact hsz)) ⟨ho,ho2,?_⟩
 rw[e]
 exact h2 hw
def sIx (n d:Nat):Option Int->Nat
 | none=>d
 | some v=>if v<0 then(v+(n:Int)).toNat else min v.toNat n
theorem sIx_none (n d:Nat):sIx n d none=d:=rfl
theorem sIx_nat (n d k:Nat):sIx n d (some (k:Int))=min k n:=by
 show(if(k:Int)<0 then((k:Int)+(n:Int)).toNat else min (k:Int).toNat n)=min k n
 rw [if_neg (by omega),Int.toNat_natCast]
theorem aj6 (n d:Nat)(hd:d<=n)(o:Option Int):sIx n d o<=n:=by
 cases o with
 | none=>exact hd
 | some v=>
   show(if v<0 then(v+(n:Int)).toNat else min v.toNat n)<=n
   by_cases hv:v<0
   . rw[if_pos hv];omega
   rw[if_neg hv];exact Nat.min_le_right _ _
theorem Xh (v:Int)(n d:Nat):(if v<0 then max (v+(n:Int)) 0 else min v (n:Int))=((sIx n d (some v):Nat):Int):=by
 show(if v<0 then max (v+(n:Int)) 0 else min v (n:Int))=(((if v<0 then(v+(n:Int)).toNat else min v.toNat n):Nat):Int)
 by_cases hv:v<0
 . simp only[if_pos hv];omega
 simp only[if_neg hv];omega
theorem Ta (lo hi:Option Int)(n:Nat):Builtin.Slice.sliceAdjust lo hi 1 (n:Int)=(((sIx n 0 lo:Nat):Int),((sIx n n hi:Nat):Int)):=by
 have h1:¬ ((1:Int)<0):=by omega
 unfold Builtin.Slice.sliceAdjust
 simp only[h1,if_false]
 refine Prod.ext ?_ ?_
 . cases lo with
   | none=>rfl
   | some v=>exact Xh v n 0
 cases hi with
 | none=>rfl
 | some v=>exact Xh v n n
theorem Ub (i j:Nat):Builtin.Slice.slicePlaces (i:Int) (j:Int) 1=j-i:=by
 unfold Builtin.Slice.slicePlaces
 have h1:(1:Int)>0:=by omega
 simp only[h1,if_true,Int.ediv_one]
 split<;>omega
theorem Mj {v:Value}{o:Option Int}{Q:Option Int->Shared->Prop}(p:IsPart v o)(h:Q o s):wpAny (model prog w) A (Builtin.Slice.slicePartIndex v) Q E s:=by
 cases p with
 | none=>exact slicePart_none h
 | int i t=>exact slicePart_int h
theorem sliceApplied_gen {sl:Addr}{vl vu:Value}{lo hi:Option Int}{n:Nat}{Q:Int×Int×Nat->Shared->Prop}(hs:s.heap.IsSliceOf sl vl vu .none)(pl:IsPart vl lo)(pu:IsPart vu hi)
  (h:Q (((sIx n 0 lo:Nat):Int),1,sIx n n hi-sIx n 0 lo) s):wpAny (model prog w) A (Builtin.Slice.sliceApplied (.ref sl) (pure (n:Int))) Q E s:=by
 obtain⟨os,hos,hcs,hds⟩:=id hs
 unfold Builtin.Slice.sliceApplied Builtin.Slice.sliceFields
 refine wpAny_bind (wpAny_bind (wpAny_field hos hds (x:=vl) rfl (wpAny_bind (wpAny_field hos hds (x:=vu) rfl (wpAny_bind (wpAny_field hos hds (x:=.none) rfl (wpAny_pure ?_)))))))
 refine wpAny_bind (slicePart_none ?_)
 show wpAny _ _ (if((1:Int)==0)=true then _ else _) _ _ s
 rw[if_neg (by decide)]
 refine wpAny_bind (Mj pl (wpAny_bind (Mj pu (wpAny_bind (wpAny_pure ?_)))))
 show wpAny _ _ (match Builtin.Slice.sliceAdjust lo hi 1 (n:Int) with | (lo,hi)=>pure (lo,(1:Int),Builtin.Slice.slicePlaces lo hi 1)) _ _ s
 rw[Ta lo hi n]
 show wpAny _ _ (pure (((sIx n 0 lo:Nat):Int),(1:Int),Builtin.Slice.slicePlaces ((sIx n 0 lo:Nat):Int) ((sIx n n hi:Nat):Int) 1)) _ _ s
 rw[Ub]
 exact wpAny_pure h
theorem Yd (xs:Array Value)(i k:Nat):((List.range k).filterMap fun(m:Nat)=>xs[((i:Int)+(m:Int)*1).toNat]?).toArray=((xs.toList.drop i).take k).toArray:=by
 have e:(fun(m:Nat)=>xs[((i:Int)+(m:Int)*1).toNat]?)=fun m=>xs[i+m]?:=by
  funext m
  have:((i:Int)+(m:Int)*1).toNat=i+m:=by omega
  rw[this]
 rw[e]
 have:=pick_run xs i k
 rw[List.filterMap_map] at this
 have e2:((fun x=>xs[x]?)∘fun x=>i+x)=fun m=>xs[i+m]?:=rfl
 rw[e2] at this
 rw[this]
theorem getItem_tuple_cut {t sl:Addr}{items:Array Value}{vl vu:Value}{lo hi:Option Int}{Q:Value->Shared->Prop}(ht:IsTup s.heap t items)(hs:s.heap.IsSliceOf sl vl vu .none)(pl:IsPart vl lo)(pu:IsPart vu hi)
  (hw:¬ (sIx items.size 0 lo=0/\sIx items.size items.size hi=items.size))
  (h:Q (.ref s.heap.objs.size) { s with heap:=s.heap.push { cls:=.type "tuple",data:=.seq ((items.toList.drop (sIx items.size 0 lo)).take (sIx items.size items.size hi-sIx items.size 0 lo)).toArray } })
  (hsz:items.size<=sizeLine):wpAny (model prog w) A (getItem (.ref t) (.ref sl)) Q E s:=by
 have htake:sizeOk (.seq ((items.toList.drop (sIx items.size 0 lo)).take (sIx items.size items.size hi-sIx items.size 0 lo)).toArray):=by
  show((items.toList.drop (sIx items.size 0 lo)).take (sIx items.size items.size hi-sIx items.size 0 lo)).toArray.size<=sizeLine
  rw[List.size_toArray,List.length_take,List.length_drop,Array.length_toList]
  omega
 have hj:sIx items.size items.size hi<=items.size:=aj6 _ _ (Nat.le_refl _) hi
 obtain⟨os,hos,hcs,hds⟩:=id hs
 have hTs:s.TypeIs (.ref sl) "slice":=⟨os,hos,hcs⟩
 unfold getItem
 try with_reducible refine wpAny_holding ?_
 first | refine wpAny_bind (wpAny_pure ?_) | skip
 refine wpAny_bind (wpAny_sequenceKey ht.typeIs (by decide) ?_)
 refine wpAny_bind (wpAny_callSpecial?_slot (name:=Str.ofString "__getitem__") ht.typeIs PyProof.Rows.slot_tuple_getitem
  (wpAny_call_entry PyProof.Rows.slot_tuple_getitem ht.typeIs entry_tuple_getitem ?_ (args_tuple_getitem _ _)))
 show wpAny _ _ (Builtin.Tuple.tupleItemsOf (.ref t) >>= _) _ _ s
 refine wpAny_bind (tupleItemsOf_ ht ?_)
 refine wpAny_bind (wpAny_typeOf hTs ?_)
 rw[if_pos (by decide)]
 refine wpAny_bind (sliceApplied_gen hs pl pu ?_)
 have hno:¬ ((((sIx items.size 0 lo:Nat):Int)==0&&(1:Int)==1&&(sIx items.size items.size hi-sIx items.size 0 lo)==items.size)=true):=by
  intro q
  rw[Bool.and_eq_true,Bool.and_eq_true] at q
  have q1:((sIx items.size 0 lo:Nat):Int)=0:=eq_of_beq q.1.1
  have q2:sIx items.size items.size hi-sIx items.size 0 lo=items.size:=eq_of_beq q.2
  exact hw ⟨by omega,by omega⟩
 show wpAny _ _ (if(((sIx items.size 0 lo:Nat):Int)==0&&(1:Int)==1&&(sIx items.size items.size hi-sIx items.size 0 lo)==items.size)=true then _ else _) _ _ s
 rw[if_neg hno,Yd]
 first
  | exact wpAny_bind (m:=Builtin.Tuple.tupleExact _) (wpAny_newObj_type (wpAny_pure ⟨_,rfl,wpAny_pure h⟩) htake)
  | exact wpAny_bind (m:=Builtin.Tuple.tupleExact _) (wpAny_newObj_type (wpAny_bind (wpAny_pure (wpAny_pure ⟨_,rfl,wpAny_pure h⟩))) htake)
  | exact wpAny_bind (wpAny_bind (m:=Builtin.Tuple.tupleExact _) (wpAny_newObj_type (wpAny_pure (wpAny_pure ⟨_,rfl,wpAny_pure h⟩)) htake))
  | exact wpAny_bind (wpAny_bind (m:=Builtin.Tuple.tupleExact _) (wpAny_newObj_type (wpAny_pure ⟨_,rfl,wpAny_pure h⟩) htake))
end
end HT
namespace L2
open PySem PySem.Spec PyProof.Rows
abbrev TO:=St->Hp->(Option Int->Hp->Prop)->Prop
def PO (X:Cx)(e:Option Expr)(t:TO):Prop:=
 ∀(pins:List (Addr×Obj)) (s:Shared) (σ:St) (H:Hp) (Q:Option Int->Hp->Prop),Inv X pins σ H s->t σ H Q ->
  wpAny (model X.prog X.w) X.A (evalPart e X.env) (fun u s'=>∃ o H',Inv X pins σ H' s'/\IsPart u o/\Q o H') X.xe s
def Us:TO:=fun _ H Q=>Q none H
def al3 (t:TE):TO:=fun σ H Q=>t σ H fun x H1=>∃ i,x = .int i/\Q (some i) H1
section
variable {X:Cx}{e:Expr}{te:TE}{lo hi:Option Expr}{tl th:TO}{pos p2:Pos}
theorem L7:PO X none Us:=by
 intro pins s σ H Q I h
 rw[evalPart_none]
 exact wpAny_pure ⟨none,H,I,.none,h⟩
theorem Dt (h:PE X e te):PO X (some e) (al3 te):=by
 intro pins s σ H Q I hw
 rw[evalPart_some]
 refine thn (h pins s σ H _ I hw) fun u s1 ⟨x,H1,I1,r1,q1⟩=>?_
 obtain⟨i,rfl,q⟩:=q1
 obtain⟨t,rfl⟩:=r1
 exact⟨some i,H1,I1,.int i t,q⟩
def SlR (X:Cx)(r:V->Option Int->Option Int->Hp->VK->Prop):Prop:=
 ∀(pins:List (Addr×Obj)) (s:Shared) (σ:St) (H:Hp) (x:V) (v vl vu:Value) (lo hi:Option Int) (sl:Addr) (Q:VK),Inv X pins σ H s->RelV x v->s.heap.IsSliceOf sl vl vu .none->IsPart vl lo->IsPart vu hi->r x lo hi H Q ->
  ∃ T id,typeLookup (.type T) "__getitem__" = pure (some (.builtin id))/\s.TypeIs v T/\wpAny (model X.prog X.w) X.A (getItem v (.ref sl)) (EP X pins σ Q) X.xe s
theorem SlR.or {r r':V->Option Int->Option Int->Hp->VK->Prop}(h:SlR X r)(h':SlR X r'):SlR X (fun x lo hi H Q=>r x lo hi H Q\/r' x lo hi H Q):=by
 intro pins s σ H x v vl vu lo hi sl Q I rx hs pl pu q
 rcases q with q | q
 . exact h pins s σ H x v vl vu lo hi sl Q I rx hs pl pu q
 exact h' pins s σ H x v vl vu lo hi sl Q I rx hs pl pu q
def tSl (r:V->Option Int->Option Int->Hp->VK->Prop)(te:TE)(tl th:TO):TE:=fun σ H Q=>te σ H fun x H1=>tl σ H1 fun l H2=>th σ H2 fun u H3=>r x l u H3 Q
theorem Ej {r:V->Option Int->Option Int->Hp->VK->Prop}(hr:SlR X r)(he:PE X e te)(hl:PO X lo tl)(hu:PO X hi th):PE X (.Subscript e (.Slice lo hi none p2) pos) (tSl r te tl th):=by
 intro pins s σ H Q I h
 refine Subscript_ (thn (he pins s σ H _ I h) fun v s1 ⟨x,H1,I1,r1,q1⟩=>?_)
 refine wpAny_Slice (thn (hl pins s1 σ H1 _ I1 q1) fun vl s2 ⟨l,H2,I2,pl,q2⟩=>thn (hu pins s2 σ H2 _ I2 q2) fun vu s3 ⟨u,H3,I3,pu,q3⟩=>?_)
 rw[evalPart_none]
 refine wpAny_pure ?_
 have I4:Inv X pins σ H3 { s3 with heap:=s3.heap.push { cls:=.type "slice",data:=.fields #[vl,vu,.none] } }:=I3.kept (t':=s3.toks) fun b ob q=>Heap.get?_push_of_some _ q
 obtain⟨T,id,hT,ht,hg⟩:=hr pins { s3 with heap:=s3.heap.push { cls:=.type "slice",data:=.fields #[vl,vu,.none] } } σ H3 x v vl vu l u s3.heap.objs.size Q I4 r1 (Heap.IsSliceOf.new ..) pl pu q3
 show wpAny (model X.prog X.w) X.A (subscriptTail e (.Slice lo hi none p2) v (.ref s3.heap.objs.size)) (EP X pins σ Q) X.xe { s3 with heap:=s3.heap.push { cls:=.type "slice",data:=.fields #[vl,vu,.none] } }
 exact tail_any (ops:=[.ref s3.heap.objs.size,v]) ht hT hg (by ac_nf)
def Rk (xs:List V)(lo hi:Option Int):List V:=(xs.drop (HT.sIx xs.length 0 lo)).take (HT.sIx xs.length xs.length hi-HT.sIx xs.length 0 lo)
theorem Km (xs:List V)(lo hi:Option Int):(Rk xs lo hi).length<=xs.length:=by
 unfold Rk
 rw[List.length_take,List.length_drop]
 omega
def au5 (K:PySem.W.Frag):V->Option Int->Option Int->Hp->VK->Prop:=fun x lo hi H Q=>∃ a xs,x = .ref a/\SqT K H a xs /\
 ¬ (HT.sIx xs.length 0 lo=0/\HT.sIx xs.length xs.length hi=xs.length)/\∀ p,H p=none->Q (.ref p) (upd H p (.tup (Rk xs lo hi)))
theorem sl_tup:SlR X (au5 X.K):=by
 intro pins s σ H x v vl vu lo hi sl Q I rx hs pl pu h
 obtain⟨a,xs,rfl,hx,hw,q⟩:=h
 cases rx
 obtain⟨its,r,ht,hz⟩:=I.tuple hx
 have hlen:its.toArray.size=xs.length:=by rw[List.size_toArray];exact r.length.symm
 refine⟨"tuple",_,PyProof.Rows.slot_tuple_getitem.lookup,ht.typeIs,?_⟩
 refine HT.getItem_tuple_cut ht hs pl pu (by rw[hlen];exact hw) ?_ (by rw[hlen];exact hz)
 rw[hlen]
 refine⟨.ref s.heap.objs.size,_,I.laid (t':=s.toks) (o:=.tup (Rk xs lo hi)) (fun b ob q=>Heap.get?_push_of_some _ q) (Nat.le_refl _) ?_,rfl,q _ (I.hok.fresh (Nat.le_refl _))⟩
 exact⟨Nat.le_trans (Km xs lo hi) hz,_,(r.drop (HT.sIx xs.length 0 lo)).take (HT.sIx xs.length xs.length hi-HT.sIx xs.length 0 lo),IsTupN.new _ _⟩
def ak7 (K:PySem.W.Frag):R2:=fun x y H Q=>∃ a b xs ys,x = .ref a/\y = .ref b/\SqT K H a xs/\SqT K H b ys/\xs≠[]/\xs.length+ys.length<=sizeLine /\
 (ys=[]->Q (.ref a) H)/\(ys≠[]->∀ p,H p=none->Q (.ref p) (upd H p (.tup (xs++ys))))
theorem Vals.nil_iff {xs:List V}{us:List Value}(r:Vals xs us):us=[]↔xs=[]:=by
 cases r with
 | nil=>simp
 | cons _ _=>simp
theorem op_catT:OpR X (binaryOp .Add) (ak7 X.K):=by
 intro pins s σ H x y v u Q I rx ry h
 obtain⟨a,b,xs,ys,rfl,rfl,ha,hb,hx,hz,q1,q2⟩:=h
 cases rx
 cases ry
 obtain⟨its,r1,p1,_⟩:=I.tuple ha
 obtain⟨its2,r2,p2,_⟩:=I.tuple hb
 refine HT.cat_tup p1 p2 (fun z=>hx (r1.nil_iff.mp z)) (fun z=>⟨.ref a,H,I,rfl,q1 (r2.nil_iff.mp z)⟩) (fun z=>?_) (by rw[<- r1.length,<- r2.length];exact hz)
 refine⟨.ref s.heap.objs.size,_,I.laid (t':=s.toks) (o:=.tup (xs++ys)) (fun b ob q=>Heap.get?_push_of_some _ q) (Nat.le_refl _) ?_,rfl,q2 (fun w=>z (r2.nil_iff.mpr w)) _ (I.hok.fresh (Nat.le_refl _))⟩
 exact⟨by rw[List.length_append];exact hz,_,r1.append r2,IsTupN.new _ _⟩
end
def ixN (n:Nat)(i:Int):Option Nat:=if 0<=i then(if i<n then some i.toNat else none) else if -(n:Int)<=i then some (i+n).toNat else none
def atI {α:Type}(xs:List α)(i:Int):Option α:=(ixN xs.length i).bind fun j=>xs[j]?
theorem aa4 {n:Nat}{i:Int}{j:Nat}(h:ixN n i=some j):seqIndex? i n=some j/\j<n /\ -(n:Int)<=i/\i<n:=by
 unfold ixN at h
 by_cases h0:0<=i
 . rw[if_pos h0] at h
   by_cases h1:i<n
   . rw[if_pos h1] at h
     have e:i.toNat=j:=Option.some.inj h
     exact⟨by rw[seqIndex_of h0 h1,e],by omega,by omega,h1⟩
   rw[if_neg h1] at h;cases h
 rw[if_neg h0] at h
 by_cases h1:-(n:Int)<=i
 . rw[if_pos h1] at h
   have e:(i+n).toNat=j:=Option.some.inj h
   exact⟨by rw[seqIndex_neg (by omega) h1,e],by omega,h1,by omega⟩
 rw[if_neg h1] at h;cases h
theorem Nq {α:Type} {xs:List α} {i:Int} {v:α} (h:atI xs i=some v):∃ j,seqIndex? i xs.length=some j/\xs[j]? = some v/\j<xs.length /\ -(xs.length:Int)<=i/\i<xs.length:=by
 unfold atI at h
 cases e:ixN xs.length i with
 | none=>rw[e] at h;cases h
 | some j=>
   rw[e] at h
   obtain⟨h1,h2,h3,h4⟩:=aa4 e
   exact⟨j,h1,h,h2,h3,h4⟩
theorem Ck {α:Type}{xs:List α}{j:Nat}{v:α}(h:xs[j]? = some v):atI xs (j:Int)=some v:=by
 have hj:j<xs.length:=(List.getElem?_eq_some_iff.mp h).1
 have e:ixN xs.length (j:Int)=some j:=by
  unfold ixN
  rw[if_pos (by omega),if_pos (by omega)];simp
 unfold atI;rw[e];exact h
def ac8 (b:Expr):Prop:=∀ o i,subscripted b false o i=operate [o,i] (getItem o i)
def IxR (X:Cx)(r:R2):Prop:=
 ∀(value slice:Expr) (pins:List (Addr×Obj)) (s:Shared) (σ:St) (H:Hp) (x y:V) (v u:Value) (Q:VK),Inv X pins σ H s->RelV x v->RelV y u->r x y H Q ->
  subscripted slice false v u=operate [v,u] (getItem v u)->wpAny (model X.prog X.w) X.A (subscriptTail value slice v u) (EP X pins σ Q) X.xe s
def MtR (X:Cx)(id:String)(r:V->List V->Hp->VK->Prop):Prop:=
 ∀(pins:List (Addr×Obj)) (s:Shared) (σ:St) (H:Hp) (x:V) (xs:List V) (v:Value) (us:List Value) (Q:VK),Inv X pins σ H s->RelV x v->Vals xs us->r x xs H Q ->
  wpAny (model X.prog X.w) X.A (call (.builtin id) (v :: us)) (EP X pins σ Q) X.xe s
section
variable {X:Cx}{a b:Expr}{ta tb:TE}{pos:Pos}
theorem IxR.or {r r':R2}(h:IxR X r)(h':IxR X r'):IxR X (fun x y H Q=>r x y H Q\/r' x y H Q):=by
 intro value slice pins s σ H x y v u Q I rx ry q hs
 rcases q with q | q
 . exact h value slice pins s σ H x y v u Q I rx ry q hs
 exact h' value slice pins s σ H x y v u Q I rx ry q hs
theorem Ag {r:R2}(hr:IxR X r)(ha:PE X a ta)(hb:PE X b tb)(hs:ac8 b):PE X (.Subscript a b pos) (tOp r ta tb):=by
 intro pins s σ H Q I h
 exact Subscript_ (as1 ha hb I h fun v u s2 x y H2 I2 rx ry q=>hr a b pins s2 σ H2 x y v u Q I2 rx ry q (hs _ _))
def au6 (K:PySem.W.Frag):R2:=fun x y H Q=>∃ p xs i v,x = .ref p/\y = .int i/\SqL K H p xs/\atI xs i=some v/\Q v H
def au8 (K:PySem.W.Frag):R2:=fun x y H Q=>∃ p xs i v,x = .ref p/\y = .int i/\SqT K H p xs/\atI xs i=some v/\Q v H
def at5:R2:=fun x y H Q=>∃ z i c,x = .str z/\y = .int i/\z.length<=sizeLine/\atI z.cps.toList i=some c/\Q (.str ⟨#[c]⟩) H
theorem ix_list:IxR X (au6 X.K):=by
 intro value slice pins s σ H x y v u Q I rx ry h hs
 obtain⟨p,xs,i,z,rfl,rfl,hq,he,q⟩:=h
 cases rx
 obtain⟨t,rfl⟩:=ry
 obtain⟨its,r,pl,hz⟩:=I.list hq
 obtain⟨j,h1,h2,h3,h4,h5⟩:=Nq he
 obtain⟨w,ew,rw'⟩:=r.get h2
 have hl:=r.length
 have hn:=Qq
 have fin:EP X pins σ Q w s:=⟨z,H,I,rw',q⟩
 by_cases h0:0<=i
 . have hj:i.toNat=j:=by
    rw[seqIndex_of h0 h5] at h1
    exact Option.some.inj h1
   exact item_listR pl.isList h0 (by omega) (by rw[hj];simpa using ew) fin hs
 have hj:(i+(its.toArray.size:Int)).toNat=j:=by
  rw[seqIndex_neg (by omega) h4] at h1
  rw[List.size_toArray,<- hl]
  exact Option.some.inj h1
 exact subscriptTail_builtinR (x:=w) pl.isList.typeIs slot_list_getitem.lookup
  (wpAny_getItem_list_neg (Q:=fun r s'=>r=w/\EP X pins σ Q r s') pl.isList (by omega) (by rw[List.size_toArray]<;>omega) (by omega) (by rw[hj];simpa using ew) ⟨rfl,fin⟩) hs
theorem ix_tup:IxR X (au8 X.K):=by
 intro value slice pins s σ H x y v u Q I rx ry h hs
 obtain⟨p,xs,i,z,rfl,rfl,hq,he,q⟩:=h
 cases rx
 obtain⟨t,rfl⟩:=ry
 obtain⟨its,r,pl,hz⟩:=I.tuple hq
 obtain⟨j,h1,h2,h3,h4,h5⟩:=Nq he
 obtain⟨w,ew,rw'⟩:=r.get h2
 have hl:=r.length
 have hn:=Qq
 have fin:EP X pins σ Q w s:=⟨z,H,I,rw',q⟩
 exact subscriptTail_builtinR (x:=w) pl.typeIs slot_tuple_getitem.lookup
  (getItem_tuple (j:=j) (Q:=fun r s'=>r=w/\EP X pins σ Q r s') pl (by omega) (by omega) (by rw[List.size_toArray,<- hl];exact h1) (by simpa using ew) ⟨rfl,fin⟩) hs
theorem al7:IxR X at5:=by
 intro value slice pins s σ H x y v u Q I rx ry h hs
 obtain⟨z,i,c,rfl,rfl,hz,he,q⟩:=h
 obtain⟨t,rfl⟩:=rx
 obtain⟨t',rfl⟩:=ry
 obtain⟨j,h1,h2,h3,h4,h5⟩:=Nq he
 have hl:z.cps.toList.length=z.length:=by simp[Str.length]
 rw[hl] at h1 h4 h5
 have hn:=Qq
 exact tail_any (typeIs_str s z t) slot_str_getitem.lookup (getItem_str (c:=c) (by
  have e1:decide (i < -(2 ^ 63:Int))=false:=decide_eq_false (by omega)
  have e2:decide (i>=2 ^ 63)=false:=decide_eq_false (by omega)
  rw[e1,e2,Bool.or_false]) (by rw[h1];simpa using h2) ⟨.str ⟨#[c]⟩,H,I.tok _,⟨_,rfl⟩,q⟩) hs
def rIx (K:PySem.W.Frag):R2:=fun x y H Q=>au6 K x y H Q\/au8 K x y H Q\/at5 x y H Q
theorem ix_seq:IxR X (rIx X.K):=ix_list.or (ix_tup.or al7)
theorem Pr (lo hi:Option Int) (n:Nat):(sliceBounds lo hi none n).1=((HT.sIx n 0 lo:Nat):Int)/\(sliceBounds lo hi none n).2.1=((HT.sIx n n hi:Nat):Int)/\(sliceBounds lo hi none n).2.2=1:=by
 refine⟨?_,?_,rfl⟩
 . cases lo with
   | none=>simp[sliceBounds,HT.sIx]
   | some i=>
     simp only[sliceBounds,HT.sIx,Option.getD_none,show(1:Int)>0 by decide,if_true]
     by_cases h:i<0
     . simp only[h,if_true]<;>omega
     simp only[h,if_false]<;>omega
 cases hi with
 | none=>simp[sliceBounds,HT.sIx]
 | some i=>
   simp only[sliceBounds,HT.sIx,Option.getD_none,show(1:Int)>0 by decide,if_true]
   by_cases h:i<0
   . simp only[h,if_true]<;>omega
   simp only[h,if_false]<;>omega
theorem Io (its:List Value)(lo hi:Option Int):slicePick its.toArray lo hi none=((its.drop (HT.sIx its.length 0 lo)).take (HT.sIx its.length its.length hi-HT.sIx its.length 0 lo)).toArray:=by
 obtain⟨h1,h2,h3⟩:=Pr lo hi its.toArray.size
 unfold slicePick
 rw[h1,h2,h3]
 simp only[sliceRange_one,pick_run,List.size_toArray]<;>rfl
def au3 (K:PySem.W.Frag):V->Option Int->Option Int->Hp->VK->Prop:=fun x lo hi H Q=>∃ a xs,x = .ref a/\SqL K H a xs/\∀ p,H p=none->Q (.ref p) (upd H p (.lst (Rk xs lo hi)))
theorem sl_list:SlR X (au3 X.K):=by
 intro pins s σ H x v vl vu lo hi sl Q I rx hs pl pu h
 obtain⟨a,xs,rfl,hx,q⟩:=h
 cases rx
 obtain⟨its,r,ht,hz⟩:=I.list hx
 have hlen:=r.length
 refine⟨"list",_,slot_list_getitem.lookup,ht.isList.typeIs,?_⟩
 refine wpAny_getItem_list_slice ht.isList hs pl pu .none (by simp) ?_ (by rw[List.size_toArray]<;>omega)
 rw[Io,<- hlen]
 refine⟨.ref s.heap.objs.size,_,I.laid (t':=s.toks) (o:=.lst (Rk xs lo hi)) (fun b ob q=>Heap.get?_push_of_some _ q) (Nat.le_refl _) ?_,rfl,q _ (I.hok.fresh (Nat.le_refl _))⟩
 exact⟨Nat.le_trans (Km xs lo hi) hz,_,0,(r.drop (HT.sIx xs.length 0 lo)).take (HT.sIx xs.length xs.length hi-HT.sIx xs.length 0 lo),Heap.get?_push_size _ rfl⟩
def Nm:V->Bool
 | .non=>true
 | .bl _=>true
 | .int _=>true
 | .str _=>true
 | _=>false
def eqV:V->V->Bool
 | .non,.non=>true
 | .bl a,.bl b=>a==b
 | .bl a,.int b=>(if a then 1 else 0)==b
 | .int a,.bl b=>a==(if b then 1 else 0)
 | .int a,.int b=>a==b
 | .str a,.str b=>a==b
 | _,_=>false
theorem an2 {A:Around}{s:Shared}{y x:V}{u v:Value}(ry:RelV y u)(rx:RelV x v)(fy:Nm y=true)(fx:Nm x=true):SeqAt.EqAt A s u v (eqV y x):=by
 cases y with
 | non=>
   cases ry
   cases x with
   | non=>cases rx;exact SeqAt.EqAt.same _
   | bl b=>cases rx;exact SeqAt.EqAt.none_bool b
   | int b=>obtain⟨t,rfl⟩:=rx;exact SeqAt.EqAt.none_int b t
   | str b=>obtain⟨t,rfl⟩:=rx;exact SeqAt.EqAt.none_str b t
   | _=>exact absurd (show false=true from fx) Bool.false_ne_true
 | bl a=>
   cases ry
   cases x with
   | non=>cases rx;exact SeqAt.EqAt.bool_none a
   | bl b=>cases rx;exact SeqAt.EqAt.bool_bool a b
   | int b=>obtain⟨t,rfl⟩:=rx;exact SeqAt.EqAt.bool_int a b t
   | str b=>obtain⟨t,rfl⟩:=rx;exact SeqAt.EqAt.bool_str a b t
   | _=>exact absurd (show false=true from fx) Bool.false_ne_true
 | int a=>
   obtain⟨t',rfl⟩:=ry
   cases x with
   | non=>cases rx;exact SeqAt.EqAt.int_none a t'
   | bl b=>cases rx;exact SeqAt.EqAt.int_bool a t' b
   | int b=>obtain⟨t,rfl⟩:=rx;exact SeqAt.EqAt.int_int a t' b t
   | str b=>obtain⟨t,rfl⟩:=rx;exact SeqAt.EqAt.int_str a t' b t
   | _=>exact absurd (show false=true from fx) Bool.false_ne_true
 | str a=>
   obtain⟨t',rfl⟩:=ry
   cases x with
   | non=>cases rx;exact SeqAt.EqAt.str_none a t'
   | bl b=>cases rx;exact SeqAt.EqAt.str_bool a t' b
   | int b=>obtain⟨t,rfl⟩:=rx;exact SeqAt.EqAt.str_int a t' b t
   | str b=>obtain⟨t,rfl⟩:=rx;exact SeqAt.EqAt.str_str a t' b t
   | _=>exact absurd (show false=true from fx) Bool.false_ne_true
 | _=>exact absurd (show false=true from fy) Bool.false_ne_true
def eqU (x:V)(u:Value):Bool:=match u with
 | .none=>eqV .non x
 | .bool b=>eqV (.bl b) x
 | .int i _=>eqV (.int i) x
 | .str z _=>eqV (.str z) x
 | _=>false
theorem a54 {x y:V}{u:Value}(r:RelV y u)(f:Nm y=true):eqU x u=eqV y x:=by
 cases y with
 | non=>cases r;rfl
 | bl b=>cases r;rfl
 | int i=>obtain⟨t,rfl⟩:=r;rfl
 | str z=>obtain⟨t,rfl⟩:=r;rfl
 | _=>exact absurd (show false=true from f) Bool.false_ne_true
theorem L4 {x:V}:∀ {xs:List V} {us:List Value},Vals xs us->xs.all Nm=true->us.any (eqU x)=xs.any fun y=>eqV y x
 | _,_,.nil,_=>rfl
 | y :: xs,u :: us,.cons r t,f=>by
   rw[List.all_cons,Bool.and_eq_true] at f
   rw[List.any_cons,List.any_cons,a54 r f.1,L4 t f.2]
theorem Ij {A:Around}{s:Shared}{x:V}{v:Value}(rx:RelV x v)(fx:Nm x=true):∀ {xs:List V} {us:List Value},Vals xs us->xs.all Nm=true->∀ u∈us,SeqAt.EqAt A s u v (eqU x u)
 | _,_,.nil,_=>fun u hu=>by cases hu
 | y :: xs,u :: us,.cons r t,f=>fun u' hu=>by
   rw[List.all_cons,Bool.and_eq_true] at f
   rcases List.mem_cons.mp hu with rfl | hu
   . rw[a54 r f.1];exact an2 r rx f.1 fx
   exact Ij rx fx t f.2 u' hu
def inV (x:V)(xs:List V):Bool:=xs.any fun y=>eqV y x
def rIn (K:PySem.W.Frag)(neg:Bool):R2:=fun x y H Q=>∃ p xs,y = .ref p/\(SqL K H p xs\/SqT K H p xs)/\Nm x=true/\xs.all Nm=true/\Q (.bl (if neg then !inV x xs else inV x xs)) H
theorem op_in_seq:OpR X (compareOp .In) (rIn X.K false):=by
 intro pins s σ H x y v u Q I rx ry h
 obtain⟨p,xs,rfl,hq,fx,fs,q⟩:=h
 cases ry
 rcases hq with hq | hq
 . obtain⟨its,r,pl,hz⟩:=I.list hq
   refine SeqAt.in_listAt (eqU x) pl.isList (fun w hw=>Ij rx fx r fs w (by simpa using hw)) ⟨.bl _,H,I,rfl,?_⟩
   rw[show its.toArray.any (eqU x)=its.any (eqU x) by simp,L4 r fs]
   exact q
 obtain⟨its,r,pl,hz⟩:=I.tuple hq
 refine SeqAt.in_tupleAt (eqU x) pl (fun w hw=>Ij rx fx r fs w (by simpa using hw)) ⟨.bl _,H,I,rfl,?_⟩
 rw[show its.toArray.any (eqU x)=its.any (eqU x) by simp,L4 r fs]
 exact q
theorem op_notIn_seq:OpR X (compareOp .NotIn) (rIn X.K true):=by
 intro pins s σ H x y v u Q I rx ry h
 obtain⟨p,xs,rfl,hq,fx,fs,q⟩:=h
 cases ry
 rcases hq with hq | hq
 . obtain⟨its,r,pl,hz⟩:=I.list hq
   refine SeqAt.notIn_listAt (eqU x) pl.isList (fun w hw=>Ij rx fx r fs w (by simpa using hw)) ⟨.bl _,H,I,rfl,?_⟩
   rw[show its.toArray.any (eqU x)=its.any (eqU x) by simp,L4 r fs]
   exact q
 obtain⟨its,r,pl,hz⟩:=I.tuple hq
 refine SeqAt.notIn_tupleAt (eqU x) pl (fun w hw=>Ij rx fx r fs w (by simpa using hw)) ⟨.bl _,H,I,rfl,?_⟩
 rw[show its.toArray.any (eqU x)=its.any (eqU x) by simp,L4 r fs]
 exact q
theorem op_notIn_str:OpR X (compareOp .NotIn) (fun x y H Q=>∃ i j,x = .str i/\y = .str j/\Q (.bl (!(!(Builtin.Str.occurrences j i 0 j.length 1).isEmpty))) H):=by
 intro pins s σ H x y v u Q I rx ry h
 obtain⟨i,j,rfl,rfl,q⟩:=h
 obtain⟨t,rfl⟩:=rx
 obtain⟨t',rfl⟩:=ry
 exact notIn_str ⟨.bl _,H,I,rfl,q⟩
theorem CallR.or {f:Value}{r r':List V->Hp->VK->Prop}(h:CallR X f r)(h':CallR X f r'):CallR X f (fun xs H Q=>r xs H Q\/r' xs H Q):=by
 intro pins s σ H xs us Q I rs q
 rcases q with q | q
 . exact h pins s σ H xs us Q I rs q
 exact h' pins s σ H xs us Q I rs q
theorem Ph:CallR X (.type "list") (fun xs H Q=>∃ p ys,xs=[.ref p]/\(SqL X.K H p ys\/SqT X.K H p ys)/\∀ l,H l=none->Q (.ref l) (upd H l (.lst ys))):=by
 intro pins s σ H xs us Q I r h
 obtain⟨p,ys,rfl,hq,q⟩:=h
 obtain⟨u,rfl,rx⟩:=Hw r
 cases rx
 have fin:∀(its:List Value),Vals ys its->ys.length<=sizeLine->∀(h':Heap) (c':Nat),(∀ b o',s.heap.get? b=some o'->h'.get? b=some o') ->
   h'.get? s.heap.objs.size=some { cls:=.type "list",dict:=none,data:=.seq its.toArray c',slots:=#[] }->EP X pins σ Q (.ref s.heap.objs.size) { s with heap:=h' }:=fun its r' hz h' c' kp e=>
  ⟨.ref s.heap.objs.size,_,I.laid (t':=s.toks) kp (Nat.le_refl _) (show ObjOk X.prog X.w _ h' _ (.lst ys) from⟨hz,its,c',r',e⟩),rfl,q _ (I.hok.fresh (Nat.le_refl _))⟩
 rcases hq with hq | hq
 . obtain⟨its,r',pl,hz⟩:=I.list hq
   have hlen:=r'.length
   obtain⟨o,ho,hc,n,hd⟩:=pl.isList
   exact call_list_seq p (.inl rfl) ho hc hd (fun h' c' kp e=>fin its r' hz h' c' kp e) (by simp only[List.size_toArray]<;>omega)
 obtain⟨its,r',pl,hz⟩:=I.tuple hq
 have hlen:=r'.length
 obtain⟨o,ho,hc,n,hd⟩:=pl
 exact call_list_seq p (.inr rfl) ho hc hd (fun h' c' kp e=>fin its r' hz h' c' kp e) (by simp only[List.size_toArray]<;>omega)
theorem Nw:CallR X (.type "tuple") (fun xs H Q=>∃ p ys,xs=[.ref p]/\((SqL X.K H p ys/\∀ l,H l=none->Q (.ref l) (upd H l (.tup ys)))\/(SqT X.K H p ys/\Q (.ref p) H))):=by
 intro pins s σ H xs us Q I r h
 obtain⟨p,ys,rfl,h⟩:=h
 obtain⟨u,rfl,rx⟩:=Hw r
 cases rx
 rcases h with ⟨hq,q⟩ | ⟨hq,q⟩
 . obtain⟨its,r',pl,hz⟩:=I.list hq
   have hlen:=r'.length
   refine call_tuple_list pl.isList (fun h' kp=>?_) (by simp only[List.size_toArray]<;>omega)
   have I1:Inv X pins σ H { s with heap:=h' }:=I.kept (t':=s.toks) kp
   have I2:Inv X pins σ (upd H h'.objs.size (.tup ys)) { s with heap:=h'.push { cls:=.type "tuple",data:=.seq its.toArray } }:=
    I1.laid (t':=s.toks) (fun b o e=>Heap.get?_push_of_some _ e) (Nat.le_refl _) (show ObjOk X.prog X.w _ _ _ (.tup ys) from⟨hz,its,r',IsTupN.new _ _⟩)
   exact⟨.ref h'.objs.size,_,I2,rfl,q _ (I1.hok.fresh (Nat.le_refl _))⟩
 obtain⟨its,r',pl,hz⟩:=I.tuple hq
 exact call_tuple_same pl ⟨.ref p,H,I,rfl,q⟩
def tyV (K:PySem.W.Frag)(T:String)(x:V)(H:Hp):Prop:=match x with
 | .str _=>T = "str"
 | .int _=>T = "int"
 | .ref p=>(T = "list" /\ ∃ xs,SqL K H p xs)\/(T = "tuple" /\ ∃ o,K.lookup p=some o/\o.cls = .type "tuple" /\ o.dict=none) \/
   (T = "dict" /\ ((∃ kvs,H p=some (.dK kvs))\/∃ kvs,H p=some (.dT kvs)))\/(T = "set" /\ ∃ S n,H p=some (.set S n))
 | _=>False
theorem a61 {pins:List (Addr×Obj)}{σ:St}{H:Hp}{s:Shared}{T:String}{x:V}{v:Value}(I:Inv X pins σ H s)(r:RelV x v)(ty:tyV X.K T x H) :
  s.TypeIs v T/\∀ a,v = .ref a->∃ ob,s.heap.get? a=some ob/\ob.dict=none:=by
 cases x with
 | str z=>
   obtain⟨t,rfl⟩:=r
   cases (show T = "str" from ty)
   exact⟨typeIs_str s z t,fun _ e=>nomatch e⟩
 | int i=>
   obtain⟨t,rfl⟩:=r
   cases (show T = "int" from ty)
   exact⟨typeIs_int s i t,fun _ e=>nomatch e⟩
 | ref p=>
   cases r
   rcases ty with ⟨rfl,xs,hq⟩ | ⟨rfl,o,hk,hc,hd⟩ | ⟨rfl,hk⟩ | ⟨rfl,S,n,hk⟩
   . obtain⟨its,_,pl,_⟩:=I.list hq
     refine⟨pl.isList.typeIs,fun a e=>?_⟩
     cases e
     obtain⟨o,n,e,c,hd,_⟩:=pl
     exact⟨o,e,hd⟩
   . refine⟨⟨o,I.kIn p o hk,hc⟩,fun a e=>?_⟩
     cases e
     exact⟨o,I.kIn _ o hk,hd⟩
   . have z:∃ o,s.heap.get? p=some o/\o.ExactDict:=by
      rcases hk with ⟨kvs,hk⟩ | ⟨kvs,hk⟩
      . obtain⟨_,_,_,_,o,_,_,e,ex,_⟩:=I.hok p _ hk
        exact⟨o,e,ex⟩
      obtain⟨_,_,_,_,o,_,_,e,ex,_⟩:=I.hok p _ hk
      exact⟨o,e,ex⟩
     obtain⟨o,e,ex⟩:=z
     refine⟨⟨o,e,ex.1⟩,fun a e2=>?_⟩
     cases e2
     exact⟨o,e,ex.2.1⟩
   obtain⟨o,_,_,_,e,ex,_⟩:=I.hok p _ hk
   refine⟨⟨o,e,ex.1⟩,fun a e2=>?_⟩
   cases e2
   exact⟨o,e,ex.2.1⟩
 | _=>exact False.elim ty
def at4 (K:PySem.W.Frag)(T:String)(r:V->List V->Hp->VK->Prop)(to:TE):TE:=fun σ H Q=>to σ H fun x H1=>tyV K T x H1/\r x [] H1 Q
def tBM (K:PySem.W.Frag)(T:String)(r:V->List V->Hp->VK->Prop)(to:TE)(t:TA):TE:=fun σ H Q=>to σ H fun x H1=>tyV K T x H1/\t σ H1 fun xs H2=>r x xs H2 Q
variable {o e:Expr}{es:List Expr}{to:TE}{t:TA}{name:Str}{apos cpos:Pos}{T id:String}{r:V->List V->Hp->VK->Prop}
theorem ag1 (pa:PlainAttrs T)(slot:Slot T name id)(hty:typeOf (.builtin id)=pure (.type "method_descriptor"))(hm:MtR X id r)(ho:PE X o to)
  (hbase:attributeBase o name X.env (eval o X.env)=eval o X.env:=by ac_nf) (hline:(apos.endLine==cpos.line)=true:=by ac_nf):PE X (.Call (.Attribute o name apos) [] [] cpos) (at4 X.K T r to):=by
 intro pins s σ H Q I h
 refine wpAny_Call_method0_late hbase hline (thn (ho pins s σ H _ I h) fun v s1 ⟨x,H1,I1,r1,ty,q1⟩=>?_)
 obtain⟨h1,h2⟩:=a61 I1 r1 ty
 exact⟨T,id,pa,slot,hty,h1,h2,Calls.callWith_builtin rfl (PySem.evalArgs_none (hm pins s1 σ H1 x [] v [] Q I1 r1 .nil q1))⟩
theorem as5 (pa:PlainAttrs T)(slot:Slot T name id)(hty:typeOf (.builtin id)=pure (.type "method_descriptor"))(hm:MtR X id r)(ho:PE X o to)(ha:PA X (e :: es) t)
  (hbase:attributeBase o name X.env (eval o X.env)=eval o X.env:=by ac_nf)
  (hfew:((backTo cpos (starEach (e :: es) X.env)).all (fun x=>!x.1)&&(backToKw cpos (keywordEach [] X.env)).all (fun x=>x.1.isSome)
   && decide ((e :: es).length+([]:List Keyword).length+(if([]:List Keyword).isEmpty then 0 else 1)<30))=true:=by ac_nf)
  (hline:(apos.endLine==cpos.line)=true:=by ac_nf) (hs:starEach (e :: es) X.env=(false,eval e X.env) :: starEach es X.env:=by ac_nf) (hplain:(backTo cpos (starEach es X.env)).any (·.1)=false:=by ac_nf) :
  PE X (.Call (.Attribute o name apos) (e :: es) [] cpos) (tBM X.K T r to t):=by
 intro pins s σ H Q I h
 refine wpAny_Call_method_late hbase hfew hline rfl (thn (ho pins s σ H _ I h) fun v s1 ⟨x,H1,I1,r1,ty,q1⟩=>?_)
 obtain⟨h1,h2⟩:=a61 I1 r1 ty
 refine⟨T,id,pa,slot,hty,h1,h2,?_⟩
 have hA:=ha cpos pins s1 σ H1 _ I1 q1
 rw[hs] at hA ⊢
 refine Calls.callWith_builtin (by show(false||(backTo cpos (starEach es X.env)).any (·.1))=false;rw[hplain]<;>rfl) (Calls.evalArgs_plain ?_)
 exact thn hA fun us s2 ⟨vs,H2,I2,r2,q2⟩=>hm pins s2 σ H2 x vs v us Q I2 r1 r2 q2
/- xs.append(e),list.index on a module's tuple .. are MtR facts of 06m -/
end
def MtM (X:Cx)(id:String)(r:V->List V->Hp->VK->Prop):Prop:=
 ∀(pins:List (Addr×Obj)) (s:Shared) (σ:St) (H:Hp) (x:V) (xs:List V) (v:Value) (us:List Value) (Q:VK),Inv X pins σ H s->RelV x v->Vals xs us->r x xs H Q ->
  wpAny (model X.prog X.w) X.A (call (.builtin id) (v :: us)) (EP X pins σ Q) X.xe s
theorem Vals.one {x:V}{us:List Value}(h:Vals [x] us):∃ u,us=[u]/\RelV x u:=by
 cases h with
 | cons r q=>cases q;exact⟨_,rfl,r⟩
theorem Vals.two {x y:V}{us:List Value}(h:Vals [x,y] us):∃ u v,us=[u,v]/\RelV x u/\RelV y v:=by
 cases h with
 | cons r q=>obtain⟨u,rfl,q'⟩:=Vals.one q;exact⟨_,_,rfl,r,q'⟩
theorem Vals.zero:∀ {us:List Value},Vals [] us->us=[]
 | _,.nil=>rfl
theorem Vals.dropLast {xs:List V}{us:List Value}(h:Vals xs us):Vals xs.dropLast us.dropLast:=by
 induction h with
 | nil=>exact .nil
 | cons r t ih=>
   cases t with
   | nil=>exact .nil
   | cons q t'=>exact .cons r ih
theorem Vals.eraseIdx:∀ {xs:List V} {us:List Value} (i:Nat),Vals xs us->Vals (xs.eraseIdx i) (us.eraseIdx i)
 | _,_,_,.nil=>.nil
 | _,_,0,.cons _ t=>t
 | _,_,i+1,.cons r t=>.cons r (Vals.eraseIdx i t)
theorem Vals.reverse {xs:List V}{us:List Value}(h:Vals xs us):Vals xs.reverse us.reverse:=by
 induction h with
 | nil=>exact .nil
 | cons r t ih=>rw[List.reverse_cons,List.reverse_cons];exact Vals.append ih (.cons r .nil)
theorem Vals.rep {xs:List V}{us:List Value}(h:Vals xs us):∀ k:Nat,Vals (List.replicate k xs).flatten (List.replicate k us).flatten
 | 0=>.nil
 | k+1=>by
   rw[List.replicate_succ,List.replicate_succ,List.flatten_cons,List.flatten_cons]
   exact Vals.append h (Vals.rep h k)
theorem Ty {α:Type}(l:List α):l.eraseIdx (l.length-1)=l.dropLast:=by
 induction l with
 | nil=>rfl
 | cons a r ih=>
   cases r with
   | nil=>rfl
   | cons b r=>
     have e:(a :: b :: r).length-1=((b :: r).length-1)+1:=by
      have h1:(a :: b :: r).length=r.length+2:=rfl
      have h2:(b :: r).length=r.length+1:=rfl
      omega
     rw[e,List.eraseIdx_cons_succ,ih]
     all_goals rfl
theorem Pg {α:Type}:∀(l:List α) (i:Nat),(l.eraseIdx i).length<=l.length
 | [],_=>Nat.le_refl _
 | _ :: _,0=>Nat.le_succ _
 | _ :: r,i+1=>Nat.succ_le_succ (Pg r i)
theorem Ox (its:List Value):∀(k:Nat) (acc:List Value),
  List.foldl (fun x1 x2=>x1++x2) acc.toArray (List.replicate k its.toArray)=(acc++(List.replicate k its).flatten).toArray
 | 0,acc=>by simp
 | k+1,acc=>by
   have e:acc.toArray++its.toArray=(acc++its).toArray:=by simp
   have e2:(acc++its)++(List.replicate k its).flatten=acc++(List.replicate (k+1) its).flatten:=by
    rw[List.replicate_succ,List.flatten_cons,List.append_assoc]
   rw[<- e2,<- Ox its k (acc++its),<- e,List.replicate_succ,List.foldl_cons]
section
variable {X:Cx}{pins:List (Addr×Obj)}{σ:St}{H:Hp}{s:Shared}{l b:Addr}{xs ys zs:List V}
theorem Inv.lset {its its':List Value}{n:Nat}{f:Array Value->Array Value}{t':Nat}(I:Inv X pins σ H s)(hH:H l=some (.lst xs))
  (e:s.heap.get? l=some { cls:=.type "list",data:=.seq its.toArray n }) (hf:f its.toArray=its'.toArray) (hv:Vals ys its') (hz:ys.length<=sizeLine) :
  Inv X pins σ (upd H l (.lst ys)) { s with heap:=s.heap.update l (Obj.mapSeq f),toks:=t' }:=by
 have q:=PySem.IsL.update e f
 rw[hf] at q
 refine I.write (x:=l) (e:=l) (by rw[hH];exact trivial) (.inl rfl) (fun b' u hb hu=>(Heap.get?_update_other s.heap (Obj.mapSeq f) (Ne.symm hb)).trans hu) ⟨_,q⟩ ?_
 exact⟨hz,its',_,hv,q⟩
theorem Inv.lnew {its:List Value}{t':Nat}(I:Inv X pins σ H s)(hv:Vals ys its)(hz:ys.length<=sizeLine) :
  Inv X pins σ (upd H s.heap.objs.size (.lst ys)) { s with heap:=s.heap.push { cls:=.type "list",data:=.seq its.toArray },toks:=t' }:=
 I.laid (fun _ _ q=>Heap.get?_push_of_some _ q) (Nat.le_refl _) ⟨hz,its,0,hv,Heap.get?_push_size _ rfl⟩
theorem Inv.fresh (I:Inv X pins σ H s):H s.heap.objs.size=none:=I.hok.fresh (Nat.le_refl _)
theorem Inv.lstM (I:Inv X pins σ H s)(hH:H l=some (.lst xs)):xs.length<=sizeLine/\∃(its:List Value) (n:Nat),Vals xs its/\xs.length=its.length/\s.heap.get? l=some { cls:=.type "list",data:=.seq its.toArray n }:=by
 obtain⟨z,its,n,r,e⟩:=I.hok l _ hH
 exact⟨z,its,n,r,r.length,e⟩
theorem Zc {n:Nat}(h:n<=sizeLine):Builtin.List.listTooLong n=false:=by
 unfold Builtin.List.listTooLong
 exact decide_eq_false (by omega)
end
section
variable {X:Cx}
def W6:V->List V->Hp->VK->Prop:=fun x vs H Q=>∃ l xs y,x = .ref l/\vs=[y]/\H l=some (.lst xs)/\xs.length<sizeLine/\Q .non (upd H l (.lst (xs++[y])))
theorem C2:MtM X "list.append" W6:=by
 intro pins s σ H x vs v us Q I rx rv h
 obtain⟨l,xs,y,rfl,rfl,hH,hz,q⟩:=h
 cases rx
 obtain⟨u,rfl,ru⟩:=rv.one
 obtain⟨z,its,n,r,hl,e⟩:=I.lstM hH
 refine call_meets F.slot_list_append ⟨_,e,rfl⟩ F.entry_list_append (F.args_list_append_2 _ _) (PySem.list_append l its.toArray n u (by rw[List.size_toArray];omega)) ⟨e,?_⟩
 refine⟨.non,_,I.lset (its':=its++[u]) hH e (by simp) (r.append (.cons ru .nil)) ?_,rfl,q⟩
 rw[List.length_append,List.length_singleton]
 omega
def at6:V->List V->Hp->VK->Prop:=fun x vs H Q=>∃ l xs y,x = .ref l/\vs=[]/\H l=some (.lst xs)/\xs[xs.length-1]? = some y/\Q y (upd H l (.lst xs.dropLast))
theorem al5:MtM X "list.pop" at6:=by
 intro pins s σ H x vs v us Q I rx rv h
 obtain⟨l,xs,y,rfl,rfl,hH,hy,q⟩:=h
 cases rx
 have hus:=rv.zero
 subst hus
 obtain⟨z,its,n,r,hl,e⟩:=I.lstM hH
 obtain⟨u,hu,ru⟩:=r.get hy
 have hy':its.toArray[its.toArray.size-1]? = some u:=by
  show its.toArray[its.length-1]? = some u
  rw[<- Array.getElem?_toList,<- hl]
  exact hu
 refine call_meets F.slot_list_pop ⟨_,e,rfl⟩ F.entry_list_pop (F.args_list_pop_1 _) (MeetsSeq.list_pop_last l its.toArray n u hy' (by rw[List.size_toArray];omega)) ⟨e,?_⟩
 refine⟨y,_,I.lset (its':=its.dropLast) hH e ?_ r.dropLast ?_,ru,q⟩
 . show its.toArray.eraseIdxIfInBounds (its.toArray.size-1)=its.dropLast.toArray
   rw[List.size_toArray,List.eraseIdxIfInBounds_toArray,Ty]
 rw[List.length_dropLast]
 omega
def a62:V->List V->Hp->VK->Prop:=fun x vs H Q=>∃ l xs i k y,x = .ref l/\vs=[.int i]/\H l=some (.lst xs) /\ -(2 ^ 63)<=i/\i<2 ^ 63/\seqIndex? i xs.length=some k/\xs[k]? = some y/\Q y (upd H l (.lst (xs.eraseIdx k)))
theorem Yj:MtM X "list.pop" a62:=by
 intro pins s σ H x vs v us Q I rx rv h
 obtain⟨l,xs,i,k,y,rfl,rfl,hH,h1,h2,hk,hy,q⟩:=h
 cases rx
 obtain⟨u,rfl,ru⟩:=rv.one
 obtain⟨t,rfl⟩:=ru
 obtain⟨z,its,n,r,hl,e⟩:=I.lstM hH
 obtain⟨w,hw,rw'⟩:=r.get hy
 refine call_meets F.slot_list_pop ⟨_,e,rfl⟩ F.entry_list_pop (F.args_list_pop_2 _ _)
  (MeetsSeq.list_pop_at l its.toArray n i t k w (fitsIndex_both h1 h2) (by rw[List.size_toArray,<- hl];exact hk) (by rw[<- Array.getElem?_toList];exact hw) (by rw[List.size_toArray];omega)) ⟨e,?_⟩
 refine⟨y,_,I.lset (its':=its.eraseIdx k) hH e ?_ (r.eraseIdx k) ?_,rw',q⟩
 . show its.toArray.eraseIdxIfInBounds k=(its.eraseIdx k).toArray
   rw[List.eraseIdxIfInBounds_toArray]
 have:=Pg xs k
 omega
def av5:R2:=fun x y H Q=>∃ l b xs zs,x = .ref l/\y = .ref b/\H l=some (.lst xs)/\H b=some (.lst zs)/\xs.length+zs.length<=sizeLine/\∀ p,H p=none->Q (.ref p) (upd H p (.lst (xs++zs)))
theorem op_cat:OpR X (binaryOp .Add) av5:=by
 intro pins s σ H x y v u Q I rx ry h
 obtain⟨l,b,xs,zs,rfl,rfl,hH,hB,hz,q⟩:=h
 cases rx
 cases ry
 obtain⟨z,its,n,r,hl,e⟩:=I.lstM hH
 obtain⟨z2,its2,n2,r2,hl2,e2⟩:=I.lstM hB
 refine PySem.P.add_list e e2 ?_ (by rw[List.size_toArray,List.size_toArray];omega)
 have ea:its.toArray++its2.toArray=(its++its2).toArray:=by simp
 rw[ea]
 exact⟨.ref _,_,I.lnew (t':=s.toks) (r.append r2) (by rw[List.length_append];omega),rfl,q _ I.fresh⟩
def au2:R2:=fun x y H Q=>∃ l k xs,x = .ref l/\y = .int k/\H l=some (.lst xs) /\ -(2 ^ 63)<=k/\k<2 ^ 63/\xs.length*k.toNat<=sizeLine /\
 ∀ p,H p=none->Q (.ref p) (upd H p (.lst (List.replicate k.toNat xs).flatten))
theorem a97 {α:Type}(xs:List α)(k:Nat):(List.replicate k xs).flatten.length=k*xs.length:=by
 induction k with
 | zero=>simp
 | succ k ih=>rw[List.replicate_succ,List.flatten_cons,List.length_append,ih,Nat.succ_mul,Nat.add_comm]
theorem ak5:OpR X (binaryOp .Mult) au2:=by
 intro pins s σ H x y v u Q I rx ry h
 obtain⟨l,k,xs,rfl,rfl,hH,h1,h2,hz,q⟩:=h
 cases rx
 obtain⟨t,rfl⟩:=ry
 obtain⟨z,its,n,r,hl,e⟩:=I.lstM hH
 have hlen:its.toArray.size*k.toNat<=sizeLine:=by rw[List.size_toArray,<- hl];exact hz
 have hcap:¬ its.toArray.size*k.toNat>(2 ^ 63-1) / 8:=by
  have:(sizeLine:Nat)<=(2 ^ 63-1) / 8:=by decide
  omega
 have hfit:¬ (!Builtin.List.listFitsIndex k)=true:=by
  rw[fitsIndex_both h1 h2]
  exact Bool.false_ne_true
 have hlong:¬ Builtin.List.listTooLong (its.toArray.size*k.toNat)=true:=by
  rw[Zc hlen]
  exact Bool.false_ne_true
 have hnew:List.foldl (fun x1 x2=>x1++x2) #[] (List.replicate (if its.toArray.isEmpty=true then 0 else k.toNat) its.toArray)=(List.replicate k.toNat its).flatten.toArray:=by
  have f0:∀ m:Nat,List.foldl (fun x1 x2=>x1++x2) #[] (List.replicate m its.toArray)=(List.replicate m its).flatten.toArray:=fun m=>by
   have:=Ox its m []
   rw[List.nil_append] at this
   exact this
  rw[f0]
  cases its with
  | nil=>simp
  | cons a r'=>rw[if_neg (by simp)]
 refine wpAny_binaryOp_repeat_ref (T:="list") (U:="int") (by decide) ⟨_,e,rfl⟩ (fun s'=>typeIs_int s' k t) noFill_list_mul F.fills_int_mul F.slot_int_rmul repeat_list F.slot_int_index.lookup
  (call_meets F.slot_int_rmul (typeIs_int s k t) F.entry_int_rmul (F.args_int_rmul_2 _ _) (int___rmul___int_list k t l its.toArray n)
   ⟨e,rfl,⟨_,e,rfl⟩,call_meets F.slot_list_mul ⟨_,e,rfl⟩ F.entry_list_mul (F.args_list_mul_2 _ _) (AutoListH.list___mul___list_int_3 l its.toArray n k t hfit hcap hlong) ⟨e,?_⟩⟩)
 rw[hnew]
 exact⟨.ref _,_,I.lnew (t':=s.toks) (r.rep k.toNat) (by rw[a97,Nat.mul_comm];exact hz),rfl,q _ I.fresh⟩
end
section
variable {prog:Program}{w:World}{A:Around}{E:Value->Shared->Prop}{s:Shared}
set_option maxRecDepth 100000 in
end
section
variable {X:Cx}
end
section
variable {κ:Type}[DecidableEq κ]
def Di (kvs:List (κ×V))(k:κ):Option V:=(kvs.find? fun kv=>decide (kv.1=k)).map (·.2)
def Gh (kvs:List (κ×V))(k:κ)(v:V):List (κ×V):=
 if(kvs.any fun kv=>decide (kv.1=k))=true then kvs.map (fun kv=>if kv.1=k then(kv.1,v) else kv) else kvs++[(k,v)]
theorem Z7 {k:κ}:Di ([]:List (κ×V)) k=none:=rfl
theorem Bh {p:κ×V} {r:List (κ×V)} {k:κ} (e:p.1=k):Di (p :: r) k=some p.2:=by simp[Di,List.find?_cons,e]
theorem B9 {p:κ×V}{r:List (κ×V)}{k:κ}(e:¬ p.1=k):Di (p :: r) k=Di r k:=by simp[Di,List.find?_cons,e]
theorem Fj (k:κ):∀ kvs:List (κ×V),(kvs.any fun kv=>decide (kv.1=k))=(Di kvs k).isSome
 | []=>rfl
 | p :: r=>by
   rw[List.any_cons]
   by_cases e:p.1=k
   . simp only[Bh e,decide_eq_true e,Bool.true_or,Option.isSome_some]
   rw[B9 e,decide_eq_false e,Bool.false_or];exact Fj k r
theorem T2 (k j:κ)(y:V):∀ kvs:List (κ×V),Di (kvs.map fun kv=>if kv.1=k then(kv.1,y) else kv) j=(Di kvs j).map fun x=>if j=k then y else x
 | []=>rfl
 | p :: r=>by
   have ih:=T2 k j y r
   rw[List.map_cons]
   by_cases h:p.1=k
   . rw[if_pos h]
     by_cases e:p.1=j
     . rw[Bh (p:=(p.1,y)) e,Bh e,Option.map_some,if_pos (e.symm.trans h)]
     rw[B9 (p:=(p.1,y)) e,B9 e,ih]
   rw[if_neg h]
   by_cases e:p.1=j
   . rw[Bh (p:=p) e,Bh e,Option.map_some,if_neg (fun z=>h (e.trans z))]
   rw[B9 (p:=p) e,B9 e,ih]
theorem Pu (k j:κ)(y:V):∀ kvs:List (κ×V),Di kvs k=none->Di (kvs++[(k,y)]) j=if j=k then some y else Di kvs j
 | [],_=>by
   by_cases e:k=j
   . rw[if_pos e.symm];exact Bh (p:=(k,y)) e
   rw[if_neg (fun z=>e z.symm)];exact B9 (p:=(k,y)) e
 | p :: r,hn=>by
   rw[List.cons_append]
   have hk:¬ p.1=k:=fun z=>by rw[Bh z] at hn;cases hn
   rw[B9 hk] at hn
   have ih:=Pu k j y r hn
   by_cases e:p.1=j
   . rw[Bh e,Bh e,if_neg (fun z=>hk (e.trans z))]
   rw[B9 e,B9 e,ih]
theorem Jz (kvs:List (κ×V))(k j:κ)(y:V):Di (Gh kvs k y) j=if j=k then some y else Di kvs j:=by
 unfold Gh
 by_cases a:(kvs.any fun kv=>decide (kv.1=k))=true
 . rw[if_pos a,T2]
   rw[Fj] at a
   by_cases e:j=k
   . obtain⟨x,hx⟩:=Option.isSome_iff_exists.mp a
     rw[if_pos e,e,hx,Option.map_some,if_pos rfl]
   rw[if_neg e]
   cases Di kvs j with
   | none=>rfl
   | some x=>rw[Option.map_some,if_neg e]
 rw[if_neg a]
 refine Pu k j y kvs ?_
 rw[Fj] at a
 cases q:Di kvs k with
 | none=>rfl
 | some x=>rw[q] at a;exact(a rfl).elim
theorem Hr (kvs:List (κ×V))(k:κ)(v:V):(Gh kvs k v).length<=kvs.length+1:=by
 unfold Gh
 split
 . rw[List.length_map];omega
 rw[List.length_append,List.length_cons,List.length_nil];omega
theorem Ie {kvs:List (κ×V)}{k:κ}(v:V)(h:Di kvs k=none):Gh kvs k v=kvs++[(k,v)]:=by
 unfold Gh
 rw [Fj,h]
 exact if_neg (by decide)
theorem RelO.isSome_eq {o:Option V}{u:Option Value}(r:RelO o u):o.isSome=u.isSome:=by
 cases o with
 | none=>cases u with
   | none=>rfl
   | some _=>exact(show False from r).elim
 | some _=>cases u with
   | none=>exact(show False from r).elim
   | some _=>rfl
theorem RelO.getD {o:Option V}{u:Option Value}{d:V}{d':Value}(r:RelO o u)(rd:RelV d d'):RelV (o.getD d) (u.getD d'):=by
 cases o with
 | none=>cases u with
   | none=>exact rd
   | some _=>exact(show False from r).elim
 | some _=>cases u with
   | none=>exact(show False from r).elim
   | some _=>exact r
theorem KV.val {kvs:List (κ×V)} {vs:List (κ×Value)} (r:KV kvs vs) (k:κ):RelO (Di kvs k) (valueAt vs k):=by
 unfold KV at r
 induction r with
 | nil=>exact True.intro
 | @cons p q ps qs h t ih=>
   obtain⟨h1,h2⟩:=h
   by_cases e:p.1=k
   . have e':q.1=k:=h1.symm.trans e
     have b:valueAt (q :: qs) k=some q.2:=by simp[valueAt,List.find?_cons,e']
     rw[Bh e,b];exact h2
   have e':¬ q.1=k:=fun z=>e (h1.trans z)
   have b:valueAt (q :: qs) k=valueAt qs k:=by simp[valueAt,List.find?_cons,e']
   rw[B9 e,b];exact ih
theorem KV.any {kvs:List (κ×V)}{vs:List (κ×Value)}(r:KV kvs vs)(k:κ):(kvs.any fun kv=>decide (kv.1=k))=vs.any fun kv=>decide (kv.1=k):=by
 unfold KV at r
 induction r with
 | nil=>rfl
 | cons h t ih=>rw[List.any_cons,List.any_cons,ih,h.1]
theorem KV.repl {kvs:List (κ×V)}{vs:List (κ×Value)}(r:KV kvs vs)(k:κ){y:V}{u:Value}(ry:RelV y u) :
  KV (kvs.map fun kv=>if kv.1=k then(kv.1,y) else kv) (vs.map fun kv=>if kv.1=k then(kv.1,u) else kv):=by
 unfold KV at r ⊢
 induction r with
 | nil=>exact .nil
 | @cons p q ps qs h t ih=>
   rw[List.map_cons,List.map_cons]
   refine .cons ?_ ih
   obtain⟨h1,h2⟩:=h
   by_cases e:p.1=k
   . rw[if_pos e,if_pos (h1.symm.trans e)];exact⟨h1,ry⟩
   rw[if_neg e,if_neg (fun z=>e (h1.trans z))];exact⟨h1,h2⟩
theorem KV.put {kvs:List (κ×V)}{vs:List (κ×Value)}(r:KV kvs vs)(k:κ){y:V}{u:Value}(ry:RelV y u):KV (Gh kvs k y) (stored vs k u):=by
 unfold Gh stored
 rw[r.any k]
 by_cases e:(vs.any fun kv=>decide (kv.1=k))=true
 . rw[if_pos e,if_pos e];exact r.repl k ry
 rw[if_neg e,if_neg e];exact Paired.snoc r ⟨rfl,ry⟩
theorem KV.keys {kvs:List (κ×V)}{vs:List (κ×Value)}(r:KV kvs vs):kvs.map (·.1)=vs.map (·.1):=by
 unfold KV at r
 induction r with
 | nil=>rfl
 | cons h t ih=>rw[List.map_cons,List.map_cons,ih,h.1]
theorem KV.length {kvs:List (κ×V)}{vs:List (κ×Value)}(r:KV kvs vs):kvs.length=vs.length:=Paired.length r
end
theorem Oa {P:Program}{w:World}{k:Key}{u:Value}(r:RelV (kV k) u):(Am P w).is k u=true:=by
 cases k with
 | inl i=>obtain⟨t,e⟩:=(show ∃ t,u=Value.int i t from r);subst e;exact Rg P w i t
 | inr x=>obtain⟨t,e⟩:=(show ∃ t,u=Value.str x t from r);subst e;exact Qz P w x t
theorem Qo {P:Program}{w:World}:∀ {ks:List Key} {us:List Value},Vals (ks.map kV) us->ItemsAre (Am P w) ks us
 | [],_,r=>by rw[List.map_nil] at r;cases r;exact .nil
 | k :: ks,_,r=>by
   rw[List.map_cons] at r
   cases r with
   | cons h t=>exact .cons (Oa h) (Qo t)
abbrev KT (H:Hp):List (List Key×V)->List (List Key×Addr×Value)->Prop:=Paired fun p q=>p.1=q.1/\H q.2.1=some (.tup (p.1.map kV))/\RelV p.2 q.2.2
theorem KT.val {H:Hp}{kvs:List (List Key×V)}{xs:List (List Key×Addr×Value)}(r:KT H kvs xs)(k:List Key):RelO (Di kvs k) ((atKey xs k).map (·.2)):=by
 induction r with
 | nil=>exact True.intro
 | @cons p q ps qs h t ih=>
   obtain⟨h1,_,h2⟩:=h
   by_cases e:p.1=k
   . have e':q.1=k:=h1.symm.trans e
     have b:atKey (q :: qs) k=some q.2:=by simp[atKey,List.find?_cons,e']
     rw[Bh e,b];exact h2
   have e':¬ q.1=k:=fun z=>e (h1.trans z)
   have b:atKey (q :: qs) k=atKey qs k:=by simp[atKey,List.find?_cons,e']
   rw[B9 e,b];exact ih
theorem KT.repl {H:Hp} {kvs:List (List Key×V)} {xs:List (List Key×Addr×Value)} (r:KT H kvs xs) (k:List Key) {y:V} {u:Value} (ry:RelV y u) :
  KT H (kvs.map fun kv=>if kv.1=k then(kv.1,y) else kv) (xs.map (putAt k u)):=by
 induction r with
 | nil=>exact .nil
 | @cons p q ps qs h t ih=>
   rw[List.map_cons,List.map_cons]
   refine .cons ?_ ih
   obtain⟨h1,h2,h3⟩:=h
   unfold putAt
   by_cases e:p.1=k
   . rw[if_pos e,if_pos (h1.symm.trans e)];exact⟨h1,h2,ry⟩
   rw[if_neg e,if_neg (fun z=>e (h1.trans z))];exact⟨h1,h2,h3⟩
theorem KT.put {H:Hp}{kvs:List (List Key×V)}{xs:List (List Key×Addr×Value)}(r:KT H kvs xs)(k:List Key){b:Addr}{y:V}{u:Value}(hb:H b=some (.tup (k.map kV)))(ry:RelV y u) :
  KT H (Gh kvs k y) (storedH xs k b u):=by
 have e:(kvs.any fun kv=>decide (kv.1=k))=(atKey xs k).isSome:=by
  rw[Fj,(r.val k).isSome_eq,Option.isSome_map]
 unfold Gh storedH
 rw[e]
 by_cases q:(atKey xs k).isSome=true
 . rw[if_pos q,if_pos q];exact r.repl k ry
 rw[if_neg q,if_neg q];exact Paired.snoc r ⟨rfl,hb,ry⟩
theorem KT.keeps {H H':Hp}{kvs:List (List Key×V)}{xs:List (List Key×Addr×Value)}(r:KT H kvs xs)(ht:∀ b ys,H b=some (.tup ys)->H' b=some (.tup ys)):KT H' kvs xs:=
 Paired.mapP r fun _ _ z=>⟨z.1,ht _ _ z.2.1,z.2.2⟩
section
variable {P:Program}{w:World}{H:Hp}{h:Heap}{a:Addr}
theorem am5 {u:HO}(ok:HOk P w H h)(e:Rd H a u):ObjOk P w H h a u:=e.ok ok
theorem Om {kvs:List (Key×V)}(ok:HOk P w H h)(e:Rd H a (.dK kvs)):kvs.length<=sizeLine/\(a==sysModules)=false/\∃ vs,KV kvs vs/\h.DictOf (Am P w) a vs:=
 show ObjOk P w H h a (.dK kvs) from am5 ok e
theorem Pi {kvs:List (Key×V)}(ok:HOk P w H h)(e:H a=some (.dK kvs)):kvs.length<=sizeLine/\(a==sysModules)=false/\∃ vs,KV kvs vs/\h.DictOf (Am P w) a vs:=Om ok (.inl e)
theorem Ka {ks:List Key}(ok:HOk P w H h)(e:H a=some (.tup (ks.map kV))):(tupleKind (Am P w)).is h ks a:=by
 obtain⟨_,its,r,o,h1,h2,⟨n,h3⟩,_⟩:=(show ObjOk P w H h a (.tup (ks.map kV)) from ok a _ e)
 exact⟨o,its.toArray,n,h1,h2,h3,by simpa using Qo r⟩
theorem Pz {kvs:List (List Key×V)}(ok:HOk P w H h)(e:Rd H a (.dT kvs)):kvs.length<=sizeLine/\(a==sysModules)=false /\
  ∃ xs,KT H kvs xs/\h.DictOfH (tupleKind (Am P w)) a xs:=by
 obtain⟨z,y,xs,r,o,es,ep,h1,h2,h3,h4,h5⟩:=(show ObjOk P w H h a (.dT kvs) from am5 ok e)
 refine⟨z,y,xs,r,o,es,ep,h1,h2,h3,h4,fun x hx=>?_,h5⟩
 have all:∀ {l:List (List Key×V)} {m:List (List Key×Addr×Value)},KT H l m->∀ x∈m,(tupleKind (Am P w)).is h x.1 x.2.1:=by
  intro l m q
  induction q with
  | nil=>intro x hx;exact nomatch hx
  | @cons p q ps qs hq t ih=>
    intro x hx
    rcases List.mem_cons.mp hx with e | hx
    . subst e
      exact Ka ok (by rw[<- hq.1];exact hq.2.1)
    exact ih x hx
 exact all r x hx
theorem at0 {kvs:List (List Key×V)}(ok:HOk P w H h)(e:H a=some (.dT kvs)):kvs.length<=sizeLine/\(a==sysModules)=false /\
  ∃ xs,KT H kvs xs/\h.DictOfH (tupleKind (Am P w)) a xs:=Pz ok (.inl e)
end
def DGet (H:Hp)(a:Addr)(y:V)(r:Option V):Prop:=
 (∃ kvs k,Rd H a (.dK kvs)/\y=kV k/\r=Di kvs k)\/∃ kvs k b,Rd H a (.dT kvs)/\y = .ref b/\H b=some (.tup (k.map kV))/\r=Di kvs k
def DPut (H:Hp)(a:Addr)(y v:V)(H':Hp):Prop:=
 (∃ kvs k,H a=some (.dK kvs)/\y=kV k/\kvs.length<sizeLine/\H'=upd H a (.dK (Gh kvs k v))) \/
 ∃ kvs k b,H a=some (.dT kvs)/\y = .ref b/\H b=some (.tup (k.map kV))/\kvs.length<sizeLine/\H'=upd H a (.dT (Gh kvs k v))
theorem DGet.k {H:Hp}{a:Addr}{kvs:List (Key×V)}{k:Key}(e:H a=some (.dK kvs)):DGet H a (kV k) (Di kvs k):=.inl ⟨kvs,k,.inl e,rfl,rfl⟩
theorem DPut.k {H:Hp}{a:Addr}{kvs:List (Key×V)}{k:Key}{v:V}(e:H a=some (.dK kvs))(hl:kvs.length<sizeLine):DPut H a (kV k) v (upd H a (.dK (Gh kvs k v))):=.inl ⟨kvs,k,e,rfl,hl,rfl⟩
section
variable {X:Cx}{pins:List (Addr×Obj)}{σ:St}{H:Hp}{s:Shared}{a:Addr}{y v:V}{u r:Value}{o:Option V}{A:Around}{E:Value->Shared->Prop}
theorem Inv.big (I:Inv X pins σ H s):sysModules<s.heap.objs.size:=by
 have h:mainGlobals<s.heap.objs.size:=(I.mod.glob.keeps I.bk).lt
 exact Nat.lt_trans (by decide) h
theorem Xq {Q:Value->Shared->Prop}(hu:A.units+1<cLine)(I:Inv X pins σ H s)(g:DGet H a y (some v))(ry:RelV y u)(h:∀ w' s',Inv X pins σ H s'->RelV v w'->Q w' s') :
  wpAny (model X.prog X.w) A (getItem (.ref a) u) Q E s:=by
 rcases g with ⟨kvs,k,e,ey,l⟩ | ⟨kvs,k,b,e,ey,eb,l⟩
 . subst ey
   obtain⟨z,hd,vs,rel,dd⟩:=Om I.hok e
   obtain⟨w',hw,rw'⟩:=RelO.some_of (v:=v) (o:=valueAt vs k) (by rw[l];exact rel.val k)
   exact wpAny_getItem_of (Oa ry) dd.mapOf hw (h w' _ (I.tok _) rw')
 subst ey
 cases (show u=Value.ref b from ry)
 obtain⟨z,hd,xs,rel,dd⟩:=Pz I.hok e
 obtain⟨w',hw,rw'⟩:=RelO.some_of (v:=v) (o:=(atKey xs k).map (·.2)) (by rw[l];exact rel.val k)
 obtain⟨p,hp,hp2⟩:=Option.map_eq_some_iff.mp hw
 refine wpAny_getItem_heap (tupleKind_room_in1 hu) (Ka I.hok eb) dd hp ?_
 rw[hp2]
 exact h w' _ (I.tok _) rw'
theorem d_in {Q:Value->Shared->Prop}(hu:A.units+1<cLine)(I:Inv X pins σ H s)(g:DGet H a y o)(ry:RelV y u)(h:∀ s',Inv X pins σ H s'->Q (.bool o.isSome) s') :
  wpAny (model X.prog X.w) A (compareOp .In u (.ref a)) Q E s:=by
 rcases g with ⟨kvs,k,e,ey,l⟩ | ⟨kvs,k,b,e,ey,eb,l⟩
 . subst ey
   obtain⟨z,hd,vs,rel,dd⟩:=Om I.hok e
   refine wpAny_in_of (Oa ry) hd dd.mapOf ?_
   rw[<- (rel.val k).isSome_eq,<- l]
   exact h _ (I.tok _)
 subst ey
 cases (show u=Value.ref b from ry)
 obtain⟨z,hd,xs,rel,dd⟩:=Pz I.hok e
 refine wpAny_in_heap (tupleKind_room_in1 hu) (Ka I.hok eb) hd dd ?_
 have q:=(rel.val k).isSome_eq
 rw[Option.isSome_map] at q
 rw[<- q,<- l]
 exact h _ (I.tok _)
theorem aa3 {Q:Value->Shared->Prop}(hu:A.units+1<cLine)(I:Inv X pins σ H s)(g:DGet H a y o)(ry:RelV y u)(h:∀ s',Inv X pins σ H s'->Q (.bool (!o.isSome)) s') :
  wpAny (model X.prog X.w) A (compareOp .NotIn u (.ref a)) Q E s:=by
 rcases g with ⟨kvs,k,e,ey,l⟩ | ⟨kvs,k,b,e,ey,eb,l⟩
 . subst ey
   obtain⟨z,hd,vs,rel,dd⟩:=Om I.hok e
   refine wpAny_notIn_of (Oa ry) hd dd.mapOf ?_
   rw[<- (rel.val k).isSome_eq,<- l]
   exact h _ (I.tok _)
 subst ey
 cases (show u=Value.ref b from ry)
 obtain⟨z,hd,xs,rel,dd⟩:=Pz I.hok e
 refine wpAny_notIn_heap (tupleKind_room_in1 hu) (Ka I.hok eb) hd dd ?_
 have q:=(rel.val k).isSome_eq
 rw[Option.isSome_map] at q
 rw[<- q,<- l]
 exact h _ (I.tok _)
theorem Nn {h':Heap}{t':Nat}{ob:HO}(I:Inv X pins σ H s)(mu:Mut (H a))(hs:Heap.SameBut a s.heap h')(he:∃ q,h'.get? a=some q)(new:ObjOk X.prog X.w (upd H a ob) h' a ob) :
  Inv X pins σ (upd H a ob) { s with heap:=h',toks:=t' }:=
 I.write (x:=a) (e:=a) mu (.inl rfl) (fun b q hb z=>(hs.2 b hb).trans z) he new
theorem Rr {P:Program}{w:World}{H':Hp}{h':Heap}{kvs:List (Key×V)}{vs:List (Key×Value)}(z:kvs.length<=sizeLine)(hd:(a==sysModules)=false)(rel:KV kvs vs)(dd:h'.DictOf (Am P w) a vs) :
  ObjOk P w H' h' a (.dK kvs):=⟨z,hd,vs,rel,dd⟩
theorem Wq {H':Hp}{Q:Unit->Shared->Prop}(hu:A.units+1<cLine)(I:Inv X pins σ H s)(g:DPut H a y v H')(ry:RelV y u)(rv:RelV v r)(h:∀ s',Inv X pins σ H' s'->Q () s') :
  wpAny (model X.prog X.w) A (setItem (.ref a) u r) Q E s:=by
 rcases g with ⟨kvs,k,e,ey,l,eH⟩ | ⟨kvs,k,b,e,ey,eb,l,eH⟩
 . subst ey eH
   obtain⟨z,hd,vs,rel,dd⟩:=Pi I.hok e
   have hz:vs.length<=sizeLine:=by rw[<- rel.length];exact z
   have hl:(Gh kvs k v).length<=sizeLine:=by have:=Hr kvs k v;omega
   refine wpAny_setItem_pairs (hsz:=hz) (Oa ry) dd fun h' dd' hs=>h _ ?_
   have he:∃ q,h'.get? a=some q:=let ⟨q,_,_,hq,_⟩:=dd';⟨q,hq⟩
   exact Nn I (by rw[e];exact True.intro) hs he (Rr hl hd (rel.put k rv) dd')
 subst ey eH
 cases (show u=Value.ref b from ry)
 obtain⟨z,hd,xs,rel,dd⟩:=at0 I.hok e
 have hz:xs.length<=sizeLine:=by rw[<- Paired.length rel];exact z
 have hl:(Gh kvs k v).length<=sizeLine:=by have:=Hr kvs k v;omega
 refine wpAny_setItem_heap (hsz:=hz) (tupleKind_room_in1 hu) (Ka I.hok eb) dd fun h' dd' hs=>h _ ?_
 obtain⟨q,es,ep,hq,h2,h3,h4,_,h5⟩:=dd'
 refine Nn I (by rw[e];exact True.intro) hs ⟨q,hq⟩ ⟨hl,hd,_,(rel.put k eb rv).keeps fun c ys ec=>?_,q,es,ep,hq,h2,h3,h4,h5⟩
 rw[Ar (ne_of ec e (fun z=>nomatch z))]
 exact ec
end
section
variable {X:Cx}{pins:List (Addr×Obj)}{σ:St}{H:Hp}{s:Shared}{a:Addr}{kvs:List (Key×V)}{k:Key}{u:Value}{A:Around}{E:Value->Shared->Prop}
theorem as7 {Q:Value->Shared->Prop}(I:Inv X pins σ H s)(e:Rd H a (.dK kvs))(h:∀ t s',Inv X pins σ H s'->Q (.int kvs.length t) s'):wpAny (model X.prog X.w) A (call (.builtin "len") [.ref a]) Q E s:=by
 obtain⟨z,hd,vs,rel,dd⟩:=Om I.hok e
 refine call_len_dict hd dd (by rw[<- rel.length];rw[sizeLine_eq] at z;omega) ?_
 rw[<- rel.length]
 exact h _ _ (I.tok _)
end
theorem Re {X:Cx}{pins:List (Addr×Obj)}{σ:St}{H:Hp}{s:Shared}{a:Addr}{y:V}{o:Option V}(I:Inv X pins σ H s)(g:DGet H a y o):s.TypeIs (.ref a) "dict":=by
 rcases g with ⟨kvs,k,e,_,_⟩ | ⟨kvs,k,b,e,_,_,_⟩
 . obtain⟨_,_,vs,_,dd⟩:=Om I.hok e
   exact dd.typeIs
 obtain⟨_,_,xs,_,dd⟩:=Pz I.hok e
 exact dd.typeIs
def ap0 (td ty tv:TE):TS:=fun D σ H=>tv σ H fun v H1=>td σ H1 fun x H2=>ty σ H2 fun y H3=>∃ a H4,x = .ref a/\DPut H3 a y v H4/\D.nx σ H4
section
variable {X:Cx}{o i e value:Expr}{pos pos' tpos:Pos}{td ty tv:TE}
theorem Ed (hu:X.A.units+1<cLine)(ho:PE X o td)(hi:PE X i ty)(hv:PE X value tv)(hs:swapsWith value (some (.Subscript o i pos')) pos.line X.env=pure false) :
  PS X (.Assign [.Subscript o i pos'] value pos) (ap0 td ty tv):=by
 intro pins s σ H D I h
 refine wpAny_Assign_Subscript (thn (hv pins s σ H _ I h) fun r s1 ⟨v,H1,I1,rv,q1⟩=>thn (ho pins s1 σ H1 _ I1 q1) fun u s2 ⟨x,H2,I2,rx,q2⟩=>thn (hi pins s2 σ H2 _ I2 q2) fun iv s3 ⟨y,H3,I3,ry,a,H4,ex,g,q3⟩=>?_) hs
 subst ex
 obtain rfl:u=Value.ref a:=rx
 exact Wq hu I3 g ry rv fun s4 I4=>⟨σ,H4,I4,q3⟩
end
theorem T1 {P:Program}{w:World}{H:Hp}(h:Heap)(hb:sysModules<h.objs.size):ObjOk P w H (h.push { cls:=.type "dict",data:=.dict #[] }) h.objs.size (.dK []):=
 ⟨Nat.zero_le _,beq_eq_false_iff_ne.mpr (Ne.symm (Nat.ne_of_lt hb)),[],.nil,Heap.DictOf.new h⟩
def Zv:TE:=fun _ H Q=>∀ p,H p=none->Q (.ref p) (upd H p (.dK []))
section
variable {X:Cx}{pos:Pos}
theorem K0:PE X (.Dict [] [] pos) Zv:=fun pins s σ H Q I h=>
 wpAny_Dict_empty ⟨.ref s.heap.objs.size,_,I.laid (a:=s.heap.objs.size) (o:=.dK []) (t':=s.toks) (fun _ _ q=>Heap.get?_push_of_some _ q) (Nat.le_refl _) (T1 s.heap I.big),rfl,h _ (I.hok.fresh (Nat.le_refl _))⟩
end
def Ke:List (TE×TE)->St->Hp->(List (V×V)->Hp->Prop)->Prop
 | [],_,H,Q=>Q [] H
 | (tk,tv) :: r,σ,H,Q=>tk σ H fun x H1=>tv σ H1 fun y H2=>Ke r σ H2 fun ps H3=>Q ((x,y) :: ps) H3
abbrev VV:List (V×V)->List (Value×Value)->Prop:=Paired fun p q=>RelV p.1 q.1/\RelV p.2 q.2
def PPs (X:Cx)(pos:Pos)(keys:List (Option Expr))(values:List Expr)(trs:List (TE×TE)):Prop:=
 ∀(pins:List (Addr×Obj)) (s:Shared) (σ:St) (H:Hp) (Q:List (V×V)->Hp->Prop),Inv X pins σ H s->Ke trs σ H Q ->
  wpAny (model X.prog X.w) X.A (evalPairs (pairTrees keys values X.env pos)) (fun vs s'=>∃ ps H',Inv X pins σ H' s'/\VV ps vs/\Q ps H') X.xe s
theorem Ol {X:Cx}{pos:Pos}:PPs X pos [] [] []:=fun pins s σ H Q I h=>pairTrees_nil_walk ⟨[],H,I,.nil,h⟩
theorem Cj {X:Cx}{pos:Pos}{k v:Expr}{ks:List (Option Expr)}{vs:List Expr}{tk tv:TE}{trs:List (TE×TE)}(hk:PE X k tk)(hv:PE X v tv)(hr:PPs X pos ks vs trs) :
  PPs X pos (some k :: ks) (v :: vs) ((tk,tv) :: trs):=fun pins s σ H Q I h=>
 pairTrees_cons_walk (thn (hk pins s σ H _ I h) fun u s1 ⟨x,H1,I1,rx,q1⟩=>thn (hv pins s1 σ H1 _ I1 q1) fun w2 s2 ⟨y,H2,I2,ry,q2⟩=>
  thn (hr pins s2 σ H2 _ I2 q2) fun ws s3 ⟨ps,H3,I3,rel,q3⟩=>⟨(x,y) :: ps,H3,I3,.cons ⟨rx,ry⟩ rel,q3⟩)
def Ez (kvs more:List (Key×V)):List (Key×V):=more.foldl (fun acc kv=>Gh acc kv.1 kv.2) kvs
theorem KV.merge:∀ {more:List (Key×V)} {rs:List (Key×Value)} {kvs:List (Key×V)} {vs:List (Key×Value)},KV more rs->KV kvs vs->KV (Ez kvs more) (merged vs rs):=by
 intro more rs kvs vs r
 unfold KV at r
 induction r generalizing kvs vs with
 | nil=>intro q;exact q
 | @cons p q ps qs h t ih=>
   intro r0
   have e:KV (Gh kvs p.1 p.2) (stored vs q.1 q.2):=by
    have:=r0.put p.1 h.2
    rw[<- h.1];exact this
   exact ih e
theorem Eh:∀(more kvs:List (Key×V)),(Ez kvs more).length<=kvs.length+more.length
 | [],kvs=>by show kvs.length<=kvs.length+0;omega
 | p :: r,kvs=>by
   have h1:=Eh r (Gh kvs p.1 p.2)
   have h2:=Hr kvs p.1 p.2
   show(Ez (Gh kvs p.1 p.2) r).length<=_
   rw[List.length_cons];omega
theorem Mi {P:Program}{w:World}:∀ {kvs:List (Key×V)} {ws:List (Value×Value)},VV (kvs.map fun kv=>(kV kv.1,kv.2)) ws->∃ rs,Carries (Am P w) ws rs/\KV kvs rs
 | [], _,r=>by rw[List.map_nil] at r;cases r;exact⟨[],True.intro,.nil⟩
 | p :: kvs,_,r=>by
   rw[List.map_cons] at r
   cases r with
   | @cons a b as bs h t=>
     obtain⟨rs,c,q⟩:=Mi (P:=P) (w:=w) t
     obtain⟨b1,b2⟩:=b
     exact⟨(p.1,b2) :: rs,⟨Oa h.1,rfl,c⟩,.cons ⟨rfl,h.2⟩ q⟩
def ao2 (trs:List (TE×TE)):TE:=fun σ H Q=>∀ p,H p=none->Ke trs σ (upd H p (.dK [])) fun ps H2=>H2 p=some (.dK [])/\∃ kvs:List (Key×V),ps=kvs.map (fun kv=>(kV kv.1,kv.2))/\kvs.length<=15/\Q (.ref p) (upd H2 p (.dK (Ez [] kvs)))
theorem Op {X:Cx}{pos:Pos}{keys:List (Option Expr)}{values:List Expr}{trs:List (TE×TE)}(h:PPs X pos keys values trs)(hall:keys.all (·.isSome)=true)(hl:keys.length=values.length)(h0:keys≠[])
  (h15:keys.length<=15):PE X (.Dict keys values pos) (ao2 trs):=by
 intro pins s σ H Q I q
 have hn:=I.hok.fresh (Nat.le_refl s.heap.objs.size)
 have I1:=I.laid (a:=s.heap.objs.size) (o:=.dK []) (h':=s.heap.push { cls:=.type "dict",data:=.dict #[] }) (t':=s.toks) (fun _ _ q=>Heap.get?_push_of_some _ q) (Nat.le_refl _) (T1 s.heap I.big)
 refine wpAny_Dict_walk (knd:=Am X.prog X.w) hall hl h0 h15 (thn (h pins _ σ _ _ I1 (q _ hn)) fun ws s2 ⟨ps,H2,I2,rel,e,kvs,ep,lk,q2⟩=>?_)
 subst ep
 obtain⟨rs,c,rk⟩:=Mi (P:=X.prog) (w:=X.w) rel
 obtain⟨z,hd,vs0,r0,dd⟩:=Pi I2.hok e
 cases r0
 refine⟨rs,c,dd,fun h' dd' hs=>⟨.ref s.heap.objs.size,_,?_,rfl,q2⟩⟩
 have hz:(Ez [] kvs).length<=sizeLine:=by
  have h1:=Eh kvs []
  rw[List.length_nil] at h1
  rw[sizeLine_eq];omega
 have he:∃ q,h'.get? s.heap.objs.size=some q:=let ⟨q,_,_,hq,_⟩:=dd';⟨q,hq⟩
 exact Nn I2 (by rw[e];exact True.intro) hs he (Rr hz hd (rk.merge .nil) dd')
structure M1 (X:Cx)(o:Expr)(m:Str)(apos:Pos)(e:Expr)(cpos:Pos):Prop where
 base:attributeBase o m X.env (eval o X.env)=eval o X.env
 few:((backTo cpos (starEach [e] X.env)).all (fun x=>!x.1)&&(backToKw cpos (keywordEach [] X.env)).all (fun x=>x.1.isSome)
  && decide (([e]:List Expr).length+([]:List Keyword).length+(if([]:List Keyword).isEmpty then 0 else 1)<30))=true
 line:(apos.endLine==cpos.line)=true
 trees:backTo cpos (starEach [e] X.env)=[(false,eval e X.env)]
structure M2 (X:Cx)(o:Expr)(m:Str)(apos:Pos)(e f:Expr)(cpos:Pos):Prop where
 base:attributeBase o m X.env (eval o X.env)=eval o X.env
 few:((backTo cpos (starEach [e,f] X.env)).all (fun x=>!x.1)&&(backToKw cpos (keywordEach [] X.env)).all (fun x=>x.1.isSome)
  && decide (([e,f]:List Expr).length+([]:List Keyword).length+(if([]:List Keyword).isEmpty then 0 else 1)<30))=true
 line:(apos.endLine==cpos.line)=true
 trees:backTo cpos (starEach [e,f] X.env)=[(false,eval e X.env),(false,eval f X.env)]
def IsD (H:Hp)(a:Addr):Prop:=(∃ kvs,Rd H a (.dK kvs))\/∃ kvs,Rd H a (.dT kvs)
theorem a03 {X:Cx}{pins:List (Addr×Obj)}{σ:St}{H:Hp}{s:Shared}{a:Addr}(I:Inv X pins σ H s)(d:IsD H a) :
  s.TypeIs (.ref a) "dict" /\ (∀ b,Value.ref a = .ref b->∃ ob,s.heap.get? b=some ob/\ob.dict=none)/\(a==sysModules)=false:=by
 rcases d with ⟨kvs,e⟩ | ⟨kvs,e⟩
 . obtain⟨_,hd,vs,_,dd⟩:=Om I.hok e
   refine⟨dd.typeIs,fun b q=>?_,hd⟩
   cases q
   obtain⟨ob,_,_,h1,h2,_⟩:=dd
   exact⟨ob,h1,h2.2.1⟩
 obtain⟨_,hd,xs,_,dd⟩:=Pz I.hok e
 refine⟨dd.typeIs,fun b q=>?_,hd⟩
 cases q
 obtain⟨ob,_,_,h1,h2,_⟩:=dd
 exact⟨ob,h1,h2.2.1⟩
section
variable {X:Cx}{pins:List (Addr×Obj)}{σ:St}{H:Hp}{s:Shared}{a:Addr}{y d:V}{u r:Value}{o:Option V}{A:Around}{E:Value->Shared->Prop}
theorem ah9 {Q:Value->Shared->Prop}(hu:A.units+1<cLine)(I:Inv X pins σ H s)(g:DGet H a y o)(ry:RelV y u)(h:∀ w' s',Inv X pins σ H s'->RelV (o.getD .non) w'->Q w' s') :
  wpAny (model X.prog X.w) A (call (.builtin "dict.get") [.ref a,u]) Q E s:=by
 rcases g with ⟨kvs,k,e,ey,l⟩ | ⟨kvs,k,b,e,ey,eb,l⟩
 . subst ey
   obtain⟨z,hd,vs,rel,dd⟩:=Om I.hok e
   refine call_meetsIn PySem.F.slot_dict_get dd.typeIs PySem.F.entry_dict_get (PySem.F.args_dict_get_2 _ _) (meets_dict_get (Am X.prog X.w) a (Oa ry) hd) ⟨_,dd.mapOf,h _ _ (I.tok _) ?_⟩
   rw[l]
   exact(rel.val k).getD rfl
 subst ey
 cases (show u=Value.ref b from ry)
 obtain⟨z,hd,xs,rel,dd⟩:=Pz I.hok e
 refine call_meetsIn PySem.F.slot_dict_get dd.typeIs PySem.F.entry_dict_get (PySem.F.args_dict_get_2 _ _) (meetsH_dict_get (tupleKind (Am X.prog X.w)) a b hd) ⟨tupleKind_room_in1 hu,k,xs,Ka I.hok eb,dd,h _ _ (I.tok _) ?_⟩
 rw[l]
 exact(rel.val k).getD rfl
theorem ak1 {Q:Value->Shared->Prop}(hu:A.units+1<cLine)(I:Inv X pins σ H s)(g:DGet H a y o)(ry:RelV y u)(rd:RelV d r)(h:∀ w' s',Inv X pins σ H s'->RelV (o.getD d) w'->Q w' s') :
  wpAny (model X.prog X.w) A (call (.builtin "dict.get") [.ref a,u,r]) Q E s:=by
 rcases g with ⟨kvs,k,e,ey,l⟩ | ⟨kvs,k,b,e,ey,eb,l⟩
 . subst ey
   obtain⟨z,hd,vs,rel,dd⟩:=Om I.hok e
   refine call_meetsIn PySem.F.slot_dict_get dd.typeIs PySem.F.entry_dict_get (PySem.F.args_dict_get_3 _ _ _) (meets_dict_get_default (Am X.prog X.w) a (Oa ry) hd r) ⟨_,dd.mapOf,h _ _ (I.tok _) ?_⟩
   rw[l]
   exact(rel.val k).getD rd
 subst ey
 cases (show u=Value.ref b from ry)
 obtain⟨z,hd,xs,rel,dd⟩:=Pz I.hok e
 refine call_meetsIn PySem.F.slot_dict_get dd.typeIs PySem.F.entry_dict_get (PySem.F.args_dict_get_3 _ _ _) (meetsH_dict_get_default (tupleKind (Am X.prog X.w)) a b hd r) ⟨tupleKind_room_in1 hu,k,xs,Ka I.hok eb,dd,h _ _ (I.tok _) ?_⟩
 rw[l]
 exact(rel.val k).getD rd
end
def Zu (td ty:TE):TE:=fun σ H Q=>td σ H fun x H1=>∃ a,x = .ref a/\IsD H1 a/\ty σ H1 fun y H2=>∃ o,DGet H2 a y o/\Q (o.getD .non) H2
def Zt (td ty tx:TE):TE:=fun σ H Q=>td σ H fun x H1=>∃ a,x = .ref a/\IsD H1 a/\ty σ H1 fun y H2=>tx σ H2 fun z H3=>∃ o,DGet H3 a y o/\Q (o.getD z) H3
section
variable {X:Cx}{o e f:Expr}{apos cpos:Pos}{td ty tx:TE}
theorem Zg (hu:X.A.units+1<cLine)(ho:PE X o td)(he:PE X e ty)(m:M1 X o "get" apos e cpos):PE X (.Call (.Attribute o "get" apos) [e] [] cpos) (Zu td ty):=by
 intro pins s σ H Q I h
 refine wpAny_Call_method m.base m.few m.line PySem.F.plainAttrs_dict PySem.F.slot_dict_get PySem.F.type_dict_get (thn (ho pins s σ H _ I h) fun u s1 ⟨x,H1,I1,rx,a,ex,d,q1⟩=>?_)
 subst ex
 obtain rfl:u=Value.ref a:=rx
 obtain⟨t1,t2,_⟩:=a03 I1 d
 refine⟨t1,t2,?_⟩
 rw[m.trees]
 refine Calls.callWith_builtin rfl (Calls.evalArgs_plain (Calls.spliced_cons (thn (he pins s1 σ H1 _ I1 q1) fun iv s2 ⟨y,H2,I2,ry,ov,g,q2⟩=>Calls.spliced_nil ?_)))
 exact ah9 hu I2 g ry fun w' s3 I3 rw'=>⟨_,H2,I3,rw',q2⟩
theorem Yt (hu:X.A.units+1<cLine)(ho:PE X o td)(he:PE X e ty)(hf:PE X f tx)(m:M2 X o "get" apos e f cpos):PE X (.Call (.Attribute o "get" apos) [e,f] [] cpos) (Zt td ty tx):=by
 intro pins s σ H Q I h
 refine wpAny_Call_method m.base m.few m.line PySem.F.plainAttrs_dict PySem.F.slot_dict_get PySem.F.type_dict_get (thn (ho pins s σ H _ I h) fun u s1 ⟨x,H1,I1,rx,a,ex,d,q1⟩=>?_)
 subst ex
 obtain rfl:u=Value.ref a:=rx
 obtain⟨t1,t2,_⟩:=a03 I1 d
 refine⟨t1,t2,?_⟩
 rw[m.trees]
 refine Calls.callWith_builtin rfl (Calls.evalArgs_plain (Calls.spliced_cons (thn (he pins s1 σ H1 _ I1 q1) fun iv s2 ⟨y,H2,I2,ry,q2⟩=>
  Calls.spliced_cons (thn (hf pins s2 σ H2 _ I2 q2) fun fv s3 ⟨z,H3,I3,rz,ov,g,q3⟩=>Calls.spliced_nil ?_))))
 exact ak1 hu I3 g ry rz fun w' s4 I4 rw'=>⟨_,H3,I4,rw',q3⟩
end
section
variable {X:Cx}{pins:List (Addr×Obj)}{σ:St}{H:Hp}{s:Shared}{a:Addr}{kvs:List (Key×V)}{A:Around}{E:Value->Shared->Prop}
end
section
variable {X:Cx}{pins:List (Addr×Obj)}{σ:St}{H:Hp}{s:Shared}{a:Addr}{y:V}{u:Value}{A:Around}{E:Value->Shared->Prop}
end
end L2
namespace Att
open PySem PySem.W PySem.Calls PyProof.Rows
theorem Lq {P:Params}{h:Heap}:∀(ns:List Int) (vs:List Value),WellAll P h vs (ns.map WData.int)->IntsAre vs ns:=by
 intro ns
 induction ns with
 | nil=>
   intro vs w
   rw[List.map_nil] at w
   cases w
   exact .nil
 | cons n ns ih=>
   intro vs w
   rw[List.map_cons] at w
   cases w with
   | cons a b=>
     cases a
     exact .cons _ _ (ih _ b)
theorem Ux {l:OpenLaw}{n:Nat}(hn:l.most=some n){P:Params}{h:Heap}{args:List WData}{vals:List Value}
  (hpre:l.row.toRowW.claim.pre args=true) (hwl:WellAll P h vals args) :
  ∃ a vs ns,vals=[Value.ref a]/\args=[WData.list (ns.map WData.int)]/\h.get? a=some { cls:=.type "list",data:=.seq vs.toArray }/\IntsAre vs ns/\ns.length<=n:=by
 have hsh:WShape.hasAll [] args [.list .int]=true:=(pre_splitW hpre).1
 have hc:l.pre.holds [] { args:=args }=true:=(pre_splitW hpre).2
 obtain⟨d,r,rfl,h1,h2⟩:=hasAllW_cons hsh
 obtain rfl:=hasAllW_nil h2
 obtain⟨xs,rfl,h3⟩:=hasW_list h1
 obtain⟨ns,rfl⟩:=items_int h3
 have hlen:ns.length<=n:=by
  unfold OpenLaw.pre at hc
  have h4:(WTm.not (.lt (.lit (.int (n:Int))) (.len (.arg 0)))).holds [] { args:=[.list (ns.map .int)] }=true:=by
   have h4:=(holds_andW hc).1
   rw[hn] at h4
   exact h4
  have h5:=condW_of h4 (w_not (w_lt w_lit (w_len_list (w_arg rfl))))
  rw[List.length_map] at h5
  refine Nat.le_of_not_lt fun q=>?_
  have q':(n:Int)<((ns.length:Nat):Int):=by omega
  first
   | (rw[decide_eq_true q'] at h5;exact absurd h5 (by decide))
   | (simp at h5;omega)
 cases hwl with
 | cons w1 w2=>
   cases w2
   cases w1 with
   | list ho hall=>exact⟨_,_,ns,rfl,rfl,ho,Lq ns _ hall,hlen⟩
theorem Xl (l:OpenLaw)(args:List WData):l.row.toRowW.claim.post args (.bool true) args=true:=
 postW_of (r:=l.row.toRowW) (X:=(true==true))
  (show WShape.has [] (.bool true) .bool=true by first | rfl | decide | simp[WShape.has,WShape.arms,WShape.armsAll])
  (show(WTm.eq .res (.lit (.bool true))).value [] { args:=args,res:=some (.bool true),after:=args }=some (.bool (true==true)) from w_eq_bool (w_res rfl) w_lit) rfl
theorem attach_call {l:OpenLaw}{n:Nat}{q:Program}{loose:List Str}{XP:(Str->Option Value)->Heap->Prop}{YP:World->Heap->Prop}{d:DefRec}
  (hn:l.most=some n) (hdf:d.params.defaults=[])
  (call:∀(w:World) (s₀ s₁:Shared) (mg mb:Str->Option Value) (fa:Addr) (o:Obj) (pm cd doc:Value) (a:Addr) (vs:List Value) (ns:List Int),
   Ground q loose [] XP w s₀ mg mb s₁.heap->YP w s₁.heap ->
   s₁.heap.get? fa=some o->o.data = .func (docDef d.name d.params d.body d.scope pm cd doc)->s₁.heap.CodeRec cd d.name->mg d.name=some (.ref fa) ->
   s₁.heap.get? a=some { cls:=.type "list",data:=.seq vs.toArray }->IntsAre vs ns->ns.length<=n->s₁.gens = #[] ->
   codeAny (model l.prog w) callerA (.call (.ref fa) ⟨[.ref a],[]⟩) (fun r s'=>r = .ok (.ret (.bool true))/\OldK s₁.heap s'.heap/\s'.os=s₁.os/\AllBare s'.gens) s₁) :
  WalkO q loose XP YP l.row.toRowW d [] (fun f vs=>PySem.call f vs):=by
 intro w s₀ s₁ mg mb G Y fa o pm cd doc dV kV ho hd hcd hD hmg hg args vals as hpre hlay hrd hwl hlo
 obtain rfl:dV = .none:=Dflts.none hD hdf
 obtain rfl:kV = .none:=Dflts.noKw hD
 obtain⟨a,vs,ns,rfl,rfl,hobj,hints,hlen⟩:=Ux hn hpre hwl
 refine enter_call (codeAny_mono (call w s₀ s₁ mg mb fa o pm cd doc a vs ns G Y ho (fd_plain hd) hcd hmg hobj hints hlen hg) fun r s' hq=>?_)
 obtain⟨rfl,h2,h3,h4⟩:=hq
 exact⟨.inl ⟨.bool true,.bool true,[],rfl,fun _=>rfl,.bool true,Xl l _,fun _=>⟨List.Pairwise.nil,fun _ hm=>(nomatch hm)⟩⟩,h2,h3,h4⟩
section
variable {prog:Program}{w:World}{A:Around}{E:Value->Shared->Prop}{s:Shared}{K:Frag}
end
end Att
namespace L2
open PySem PySem.Spec PyProof.Rows
theorem Qc:∀ {vs:List Value} {ns:List Int},IntsAre vs ns->Vals (ns.map V.int) vs
 | _,_,.nil=>.nil
 | _,_,.cons n t h=>.cons ⟨t,rfl⟩ (Qc h)
def aq5 (H:Hp):Prop:=∀ b,H b=none\/∃ o xs,H b=some (.frz o (.lst xs))
theorem Xz {P:Program}{w:World}{K:PySem.W.Frag}{mg mb:Str->Option Value}{CX:CXT}{k:Nat}{fa a:Addr}{fd:FuncData}{x:Str}{sp:Sp}{s₁:Shared}{vs:List Value}{ns:List Int}
  (KX:K.In s₁.heap) (hns:s₁.heap.Ns mainGlobals mg) (hb:s₁.heap.Ns builtinsNs mb) (hbb:∀ x:Str,x ≠ "__name__" -> mb x=bootBuiltins x) (hlim:s₁.heap.NoLimit) (hg:s₁.gens = #[])
  (ha:s₁.heap.get? a=some { cls:=.type "list",data:=.seq vs.toArray }) (hi:IntsAre vs ns) (hl:ns.length<=sizeLine) (hr:Room k callerA)
  (F:∀ base:Heap,K.In base->base.Ns mainGlobals mg->FnOk P w K mg base CX k fa fd [x] sp) (hbind:∀(s:Shared) (u:Value),BindsTo s fd ⟨[u],[]⟩ [(x,u)])
  (hsp:∀ H:Hp,aq5 H->SqL K H a (ns.map V.int)->sp [.ref a] H (fun v _=>v = .bl true) fun _ _ _=>False)
  (hCX:∀ H e s',CX [] H s₁ (fun _ _ _=>False) e s'->False) :
  codeAny (model P w) callerA (.call (.ref fa) ⟨[.ref a],[]⟩) (fun r s'=>r = .ok (.ret (.bool true))/\OldK s₁.heap s'.heap/\s'.os=s₁.os/\AllBare s'.gens) s₁:=by
 have rv:=Qc hi
 have lenV:=hi.length
 have core:∀ H:Hp,aq5 H->SqL K H a (ns.map V.int)->HOk P w H s₁.heap->(∀ b,H b≠none->b=a)->(H a≠none->K.lookup a=none) ->
   codeAny (model P w) callerA (.call (.ref fa) ⟨[.ref a],[]⟩) (fun r s'=>r = .ok (.ret (.bool true))/\OldK s₁.heap s'.heap/\s'.os=s₁.os/\AllBare s'.gens) s₁:=by
  intro H hO hS hok hA hK
  have base_of:∀ {b:Addr} {o:Obj},s₁.heap.get? b=some o->H b=none->(Za s₁.heap H).get? b=some o:=fun e n=>Yq e n
  have noA:∀ {b:Addr} {o:Obj} {es:Array DictEntry} {ep:Nat},s₁.heap.get? b=some o->o.data = .dict es ep->H b=none:=fun {b o es ep} e d=>by
   cases q:H b with
   | none=>rfl
   | some u=>
     have e':b=a:=hA b (by rw[q];simp)
     subst e'
     rw[ha] at e;cases e
     have d':Data.seq vs.toArray _=Data.dict es ep:=d
     cases d'
  have nsK:∀ {b:Addr} {m:Str->Option Value},s₁.heap.Ns b m->(Za s₁.heap H).Ns b m:=fun {b m} ⟨o,es,ep,e,d,r⟩=>⟨o,es,ep,base_of e (noA e d),d,r⟩
  have hKb:K.In (Za s₁.heap H):=fun b o e=>base_of (KX b o e) (by
   cases q:H b with
   | none=>rfl
   | some u=>
     have e':b=a:=hA b (by rw[q];simp)
     subst e'
     rw[hK (by rw[q];simp)] at e;cases e)
  have hM:Mod K mg (Za s₁.heap H):=⟨hKb,nsK hns,⟨mb,nsK hb,hbb⟩,let ⟨mc,h1,h2⟩:=hlim;⟨mc,nsK h1,h2⟩⟩
  have e0:Env0 P w K mg (Za s₁.heap H) callerA [] s₁ H:=⟨rfl,hM,fun b o e=>a77 e,Nat.le_of_eq (Wk _ _),trivial,fun b hb=>absurd (show b∈([]:List Addr) from hb) (by simp),hok,.of_eq hg⟩
  refine codeAny_mono ((F _ hKb (nsK hns)).run callerA [] s₁ H ⟨[.ref a],[]⟩ [.ref a] [.ref a] _ _ hr e0 (hbind s₁ (.ref a)) (.cons rfl .nil) (hsp H hO hS)) fun r s' h=>?_
  cases r with
  | error e=>exact(hCX H e s' h).elim
  | ok fl=>
    cases fl with
    | next=>exact False.elim h
    | brk=>exact False.elim h
    | cont=>exact False.elim h
    | ret u=>
      obtain⟨v,H',os,bare,un,hok',r',q⟩:=h
      have q':v = .bl true:=q
      subst q'
      obtain rfl:u=Value.bool true:=r'
      refine⟨rfl,OldK.of_keep fun b o e=>?_,os,bare⟩
      cases q:H b with
      | none=>exact un.keep b o e q (by intro z;exact absurd (show b∈([]:List Addr) from z) (by simp)) (by simp)
      | some u=>
        rcases hO b with z | ⟨ob,xs,z⟩
        . rw[q] at z;cases z
        have z2:=un.frzs b ob _ z
        obtain⟨e1,_⟩:=hok b _ z
        obtain⟨e2,_⟩:=hok' b _ z2
        rw[e] at e1;cases e1
        exact e2
 cases hk:K.lookup a with
 | some o=>
   have e:=KX a o hk
   rw[ha] at e
   cases e
   refine core (fun _=>none) (fun _=>.inl rfl) (.inr ⟨_,vs.toArray,_,hk,rfl,rfl,rfl,by rw[List.size_toArray,lenV];exact hl,by simpa using rv⟩) (fun b u z=>by have z':(none:Option HO)=some u:=z;cases z') (fun b z=>absurd rfl z) fun z=>absurd rfl z
 | none=>
   refine core (fun b=>if b=a then some (.frz { cls:=.type "list",data:=.seq vs.toArray } (.lst (ns.map V.int))) else none) (fun b=>?_) (.inl (.inr ⟨{ cls:=.type "list",data:=.seq vs.toArray },if_pos rfl⟩)) (fun b u z=>?_) (fun b z=>?_) fun _=>hk
   . by_cases hb:b=a
     . exact .inr ⟨_,_,if_pos hb⟩
     exact .inl (if_neg hb)
   . by_cases hb:b=a
     . have z':=(if_pos hb).symm.trans z
       cases z'
       subst hb
       exact⟨ha,by rw[List.length_map];exact hl,vs,_,rv,ha⟩
     have z':=(if_neg hb).symm.trans z
     cases z'
   by_cases hb:b=a
   . exact hb
   exact absurd (if_neg hb) z
theorem walk_of {l:PySem.W.OpenLaw}{n k:Nat}{q:Program}{loose:List Str}{XP:(Str->Option Value)->Heap->Prop}{YP:World->Heap->Prop}{d:DefRec}{K:Params->PySem.W.Frag}{CX:World->CXT}{sp:World->Sp}{x:Str}
  (hn:l.most=some n) (hn2:n<=sizeLine) (hdf:d.params.defaults=[]) (hr:Room k callerA)
  (hY:∀(w:World) (h:Heap),YP w h->(K w.params).In h)
  (F:∀(w:World) (mg:Str->Option Value) (fa:Addr) (h:Heap),(K w.params).In h->h.Ns mainGlobals mg->mg d.name=some (.ref fa) ->
   ∃ fd:FuncData,(∀(s:Shared) (u:Value),BindsTo s fd ⟨[u],[]⟩ [(x,u)]) /\
    ∀ base:Heap,(K w.params).In base->base.Ns mainGlobals mg->FnOk l.prog w (K w.params) mg base (CX w) k fa fd [x] (sp w))
  (hsp:∀(w:World) (H:Hp) (a:Addr) (ns:List Int),ns.length<=n->aq5 H->SqL (K w.params) H a (ns.map V.int)->sp w [.ref a] H (fun v _=>v = .bl true) fun _ _ _=>False)
  (hCX:∀(w:World) (H:Hp) (s:Shared) (e:Value) (s':Shared),CX w [] H s (fun _ _ _=>False) e s'->False) :
  PySem.W.WalkO q loose XP YP l.row.toRowW d [] (fun f vs=>PySem.call f vs):=by
 refine Att.attach_call hn hdf fun w s₀ s₁ mg mb fa o pm cd doc a vs ns G Y ho hd hcd hmg hobj hints hlen hg=>?_
 have KX:=hY w _ Y
 obtain⟨fd,hb,hF⟩:=F w mg fa _ KX G.T.g hmg
 exact Xz KX G.T.g G.T.b G.T.builtins G.T.nolimit hg hobj hints (Nat.le_trans hlen hn2) hr hF hb (fun H hO hS=>hsp w H a ns hlen hO hS) fun H e s'=>hCX w H s₁ e s'
def Bb (s:Stmt)(j:Nat):Stmt:=match s with
 | .ClassDef _ _ _ body _ _ _ _ _ _ _=>body.getD j (.Pass ⟨0,0,0,0⟩)
 | _=>.Pass ⟨0,0,0,0⟩
def Aa (s:Stmt):Arguments:=match s with
 | .FunctionDef _ a _ _ _ _ _ _ _ _=>a
 | _=>{ posonlyargs:=[],args:=[],vararg:=none,kwonlyargs:=[],kw_defaults:=[],kwarg:=none,defaults:=[] }
def A8 (s:Stmt):List Stmt:=match s with
 | .FunctionDef _ _ b _ _ _ _ _ _ _=>b
 | _=>[]
def A3 (s:Stmt):Scope:=match s with
 | .FunctionDef _ _ _ _ _ _ sc _ _ _=>sc
 | _=>{ kind:=.function,names:=[],isGenerator:=false,isCoroutine:=false }
abbrev CX0:CXT:=fun _ _ _ _ _ _=>False
abbrev E0:XK:=fun _ _ _=>False
theorem Zi {X:Cx}:Ft CX0 X E0:=fun _ _ _ _ _ _ _ h=>h.elim
structure Fun (K:PySem.W.Frag)(x qual:Str)(st:Stmt)(f:Addr)(fd:FuncData):Prop where
 ex:∃(oc:Value) (od:Option Addr) (kV doc pm:Value) (an:Option Addr) (cdv ct:Value) (osl:Array (Option Value)),
  fd=PySem.W.fnOf x qual (Aa st) (A8 st) (A3 st) .none kV doc pm an cdv ct/\K.lookup f=some ⟨oc,od,.func fd,osl⟩/\PySem.W.codeIn K cdv qual=true
 kp:PySem.W.keepIn K (.ref f)=true
section
variable {P:Program}{w:World}{K:PySem.W.Frag}{mg:Str->Option Value}{base:Heap}
theorem Fun.ok {x qual:Str}{st:Stmt}{f:Addr}{fd:FuncData}{N ps:List Str}{k:Nat}{sp:Sp}(F:Fun K x qual st f fd)(S:Af N ps (A3 st))(len:∀ vs H Q E,sp vs H Q E->vs.length=ps.length)
  (hbody:∀(cdv:Value) (A:Around) (outer:List Env) (s:Shared) (H:Hp) (vs:List V) (Q:VK) (E:XK),Room k (A.deeper (envOfC qual (A3 st) s.heap.objs.size f cdv))->sp vs H Q E ->
   ∃ t,PSs (Sr CX0 P w K mg base N qual (A3 st) f cdv A outer s H E).nox (A8 st) t/\t { nx:=fun _ H'=>Q .non H',rt:=Q } (start N vs) H):FnOk P w K mg base CX0 (k+1) f fd ps sp:=by
 obtain⟨oc,od,kV,doc,pm,an,cdv,ct,osl,rfl,lk,hcd⟩:=F.ex
 refine ah4 lk hcd S len fun A outer s H vs Q E hr hsp=>?_
 obtain⟨t,h,q⟩:=hbody cdv A outer s H vs Q E hr hsp
 exact⟨t,h.nox,q⟩
theorem Fun.binds {x qual:Str}{st:Stmt}{f:Addr}{fd:FuncData}{ps:List Str}(F:Fun K x qual st f fd)
  (h:∀(kV doc pm:Value) (an:Option Addr) (cdv ct:Value) (us:List Value),us.length=ps.length->bindArgs (PySem.W.fnOf x qual (Aa st) (A8 st) (A3 st) .none kV doc pm an cdv ct) ⟨us,[]⟩=pure (ps.zip us)):Binds K fd ps []:=by
 obtain⟨oc,od,kV,doc,pm,an,cdv,ct,osl,rfl,lk,hcd⟩:=F.ex
 exact .all (h kV doc pm an cdv ct)
theorem Aq {x qual:Str}{st:Stmt}{f:Addr}{oc:Value}{od an:Option Addr}{osl:Array (Option Value)}{kV doc pm cdv ct:Value}(l:K.lookup f=some ⟨oc,od,.func (PySem.W.fnOf x qual (Aa st) (A8 st) (A3 st) .none kV doc pm an cdv ct),osl⟩)
  (c:PySem.W.codeIn K cdv qual=true) (k:PySem.W.keepIn K (.ref f)=true):Fun K x qual st f (PySem.W.fnOf x qual (Aa st) (A8 st) (A3 st) .none kV doc pm an cdv ct):=⟨⟨oc,od,kV,doc,pm,an,cdv,ct,osl,rfl,l,c⟩,k⟩
end
theorem Cg {A:Around}{k:Nat}(hr:Room k A):A.units+1<cLine:=Nat.lt_of_le_of_lt (Nat.add_le_add_left (by decide:1<=64) _) hr.units
theorem Wt {n:Nat}(h:n<=1000):n<sizeLine:=Nat.lt_of_le_of_lt h (by decide)
section
variable {X:Cx}
theorem pv (i:Nat){x:Str}{pos:Pos}(hN:X.N[i]? = some x:=by ac_nf)(hv:Vis X.env.scope x:=by with_unfolding_all first | exact Or.inl rfl | exact Or.inr (Or.inl rfl) | exact Or.inr (Or.inr rfl))(hd:(x==("__debug__":Str))=false:=by decide)
  (hcd:(x==("__classdict__":Str))=false:=by decide):PE X (.Name x pos) (as8 i):=ak4 hN hv hd hcd
end
theorem iteF {A B:Prop}(h:B):if false=true then A else B:=by
 rw[if_neg Bool.false_ne_true]
 exact h
theorem iteT {A B:Prop}(h:A):if true=true then A else B:=by
 rw[if_pos rfl]
 exact h
theorem aw1 {c A B:Prop}[Decidable c](h1:c->A)(h2:¬ c->B):if c then A else B:=by
 by_cases h:c
 . rw[if_pos h]
   exact h1 h
 rw[if_neg h]
 exact h2 h
def Same (H H':Hp):Prop:=∀ b o,H b=some o->H' b=some o
theorem Same.refl (H:Hp):Same H H:=fun _ _ h=>h
theorem Same.trans {H H1 H2:Hp} (a:Same H H1) (b:Same H1 H2):Same H H2:=fun c o h=>b c o (a c o h)
theorem Same.free {H H':Hp}(e:Same H H'){l:Addr}(h:H' l=Option.none):H l=Option.none:=by
 cases q:H l with
 | none=>rfl
 | some o=>
   rw[e l o q] at h
   cases h
theorem Same.seq {K:PySem.W.Frag}{H H':Hp}{a:Addr}{xs:List V}(e:Same H H')(h:SqL K H a xs):SqL K H' a xs:=by
 rcases h with (h | ⟨o,h⟩) | h
 . exact .inl (.inl (e _ _ h))
 . exact .inl (.inr ⟨o,e _ _ h⟩)
 exact .inr h
section
variable {X:Cx}
theorem Xj:CallR X (.builtin "len") (fun xs H Q=>∃ a kvs,xs=[V.ref a]/\H a=some (.dK kvs)/\Q (.int kvs.length) H):=by
 intro pins s σ H xs us Q I r h
 obtain⟨a,kvs,rfl,ha,q⟩:=h
 obtain⟨u,rfl,ru⟩:=Hw r
 cases ru
 exact as7 I (.inl ha) fun t s' I'=>⟨.int kvs.length,H,I',⟨t,rfl⟩,q⟩
end
section
variable {κ:Type}[DecidableEq κ]
theorem Yb {kvs:List (κ×V)}{k:κ}(h:Di kvs k=none):¬ k∈kvs.map (·.1):=by
 intro m
 obtain⟨p,hp,e⟩:=List.mem_map.mp m
 have q:(kvs.any fun kv=>decide (kv.1=k))=true:=List.any_eq_true.mpr ⟨p,hp,decide_eq_true e⟩
 rw[Fj,h] at q
 exact absurd q (by simp)
theorem ad6 {kvs:List (κ×V)}{k:κ}{v:V}(h:Di kvs k=some v):k∈kvs.map (·.1):=by
 have q:(kvs.any fun kv=>decide (kv.1=k))=true:=by
  rw[Fj,h]
  all_goals rfl
 obtain ⟨p,hp,e⟩:=List.any_eq_true.mp q
 exact List.mem_map.mpr ⟨p,hp,of_decide_eq_true e⟩
theorem Xv:∀ {l:List κ} {k:κ},l.Nodup->¬ k∈l->(l++[k]).Nodup
 | [],k,_,_=>by simp
 | a :: r,k,h,hk=>by
   obtain⟨h1,h2⟩:=List.nodup_cons.mp h
   show(a :: (r++[k])).Nodup
   refine List.nodup_cons.mpr ⟨fun m=>?_,Xv h2 fun m=>hk (List.mem_cons.mpr (Or.inr m))⟩
   rcases List.mem_append.mp m with q | q
   . exact h1 q
   exact hk (List.mem_cons.mpr (Or.inl (List.mem_singleton.mp q).symm))
theorem a89 {kvs:List (κ×V)}{k:κ}(v:V)(hn:(kvs.map (·.1)).Nodup)(h:Di kvs k=none):((Gh kvs k v).map (·.1)).Nodup:=by
 rw[Ie v h,List.map_append]
 exact Xv hn (Yb h)
end
def Jn (env:Env)(names:List (Str×NameKind))(acc:List (Str×Addr)):List (Str×Addr):=
 names.foldl (fun acc y=>if y.2==NameKind.free then(y.1,(env.cells.lookup y.1).getD 0) :: acc else acc) acc
theorem Mp {env:Env}{scope:Scope}(h:∀ y∈scope.names,y.2=NameKind.free->∃ c,env.cells.lookup y.1=some c):closureFor scope env=pure (Jn env scope.names []):=by
 have all:∀(names:List (Str×NameKind)) (acc:List (Str×Addr)),(∀ y∈names,y.2=NameKind.free->∃ c,env.cells.lookup y.1=some c) ->
   (forIn names acc fun(y:Str×NameKind) (cs:List (Str×Addr))=>(match y with
    | (name,kind)=>if(kind==NameKind.free)=true then do let c <- cellOf env name;pure (ForInStep.yield ((name,c) :: cs)) else pure (ForInStep.yield cs):Sem (ForInStep (List (Str×Addr)))))=(pure (Jn env names acc):Sem (List (Str×Addr))):=by
  intro names
  induction names with
  | nil=>intro acc _;rfl
  | cons y r ih=>
    intro acc hy
    obtain⟨n,k⟩:=y
    rw[List.forIn_cons]
    by_cases hk:k=NameKind.free
    . subst hk
      obtain⟨c,hc⟩:=hy (n,.free) List.mem_cons_self rfl
      have e:cellOf env n=pure c:=by unfold cellOf;rw[show env.cells.lookup n=some c from hc]
      have e2:Jn env ((n,NameKind.free) :: r) acc=Jn env r ((n,c) :: acc):=by
       unfold Jn
       rw[List.foldl_cons]
       simp only[beq_self_eq_true,if_true]
       rw[show env.cells.lookup n=some c from hc]
       rfl
      rw[e2,<- ih ((n,c) :: acc) fun z hz=>hy z (List.mem_cons_of_mem _ hz)]
      simp only[beq_self_eq_true,if_true,e]
      rfl
    have hb:(k==NameKind.free)=false:=by simpa using hk
    have e2:Jn env ((n,k) :: r) acc=Jn env r acc:=by
     unfold Jn
     rw[List.foldl_cons]
     simp only[hb,Bool.false_eq_true,if_false]
    rw[e2,<- ih acc fun z hz=>hy z (List.mem_cons_of_mem _ hz)]
    simp only[hb,Bool.false_eq_true,if_false]
    rfl
 have q:=all scope.names [] h
 unfold closureFor
 first
  | exact q
  | (simp only[bind_pure];exact q)
  | (refine Eq.trans ?_ q;rfl)
theorem So {env:Env}{x:Str}{c:Addr}:∀ {names:List (Str×NameKind)} {acc:List (Str×Addr)},(∀ y∈names,y.2=NameKind.free->∃ c,env.cells.lookup y.1=some c)->(acc.lookup x=some c->env.cells.lookup x=some c) ->
  (Jn env names acc).lookup x=some c->env.cells.lookup x=some c
 | [],acc,_,ha,h=>ha h
 | (n,k) :: r,acc,hn,ha,h=>by
   have e:Jn env ((n,k) :: r) acc=Jn env r (if k==NameKind.free then(n,(env.cells.lookup n).getD 0) :: acc else acc):=rfl
   rw[e] at h
   refine So (fun y hy=>hn y (List.mem_cons_of_mem _ hy)) (fun q=>?_) h
   by_cases hk:k=NameKind.free
   . subst hk
     simp only[beq_self_eq_true,if_true,List.lookup_cons] at q
     obtain⟨d,hd⟩:=hn (n,.free) List.mem_cons_self rfl
     have hd':env.cells.lookup n=some d:=hd
     split at q
     . rename_i hx
       have hx':x=n:=beq_iff_eq.mp hx
       rw[hd'] at q
       rw[hx',hd']
       exact q
     exact ha q
   have hb:(k==NameKind.free)=false:=by simpa using hk
   simp only[hb,Bool.false_eq_true,if_false] at q
   exact ha q
theorem Nk {env:Env}{x:Str}:∀ {names:List (Str×NameKind)} {acc:List (Str×Addr)},((∃ c,acc.lookup x=some c)\/(x,NameKind.free)∈names)->∃ c,(Jn env names acc).lookup x=some c
 | [],acc,h=>by
   rcases h with h | h
   . exact h
   cases h
 | (n,k) :: r,acc,h=>by
   have e:Jn env ((n,k) :: r) acc=Jn env r (if k==NameKind.free then(n,(env.cells.lookup n).getD 0) :: acc else acc):=rfl
   rw[e]
   refine Nk ?_
   by_cases hk:k=NameKind.free
   . subst hk
     simp only[beq_self_eq_true,if_true,List.lookup_cons]
     by_cases hx:x=n
     . left
       have hb:(x==n)=true:=beq_iff_eq.mpr hx
       rw[hb]
       exact⟨_,rfl⟩
     have hb:(x==n)=false:=beq_eq_false_iff_ne.mpr hx
     rw[hb]
     rcases h with h | h
     . exact .inl h
     rcases List.mem_cons.mp h with q | q
     . cases q;exact absurd rfl hx
     exact .inr q
   have hb:(k==NameKind.free)=false:=by simpa using hk
   simp only[hb,Bool.false_eq_true,if_false]
   rcases h with h | h
   . exact .inl h
   rcases List.mem_cons.mp h with q | q
   . cases q;exact absurd rfl hk
   exact .inr q
theorem Dd:∀(names:List (Str×NameKind)) (n:Nat) (acc:List (Str×Addr)),cellsFrom n names acc=cellsFrom n names []++acc
 | [],_,_=>rfl
 | (x,k) :: r,n,acc=>by
   unfold cellsFrom
   split
   . rw[Dd r (n+1) ((x,n) :: acc),Dd r (n+1) [(x,n)],List.append_assoc]
     rfl
   exact Dd r n acc
theorem J0 {x:Str}{c:Addr}:∀ {names:List (Str×NameKind)} {n:Nat},(x,c)∈cellsFrom n names []->(x,NameKind.cell)∈names
 | [],_,h=>by cases h
 | (y,k) :: r,n,h=>by
   unfold cellsFrom at h
   split at h
   . rename_i hk
     rw[Dd] at h
     rcases List.mem_append.mp h with h | h
     . exact List.mem_cons_of_mem _ (J0 h)
     have e:=List.mem_singleton.mp h
     cases e
     rw[beq_iff_eq.mp hk]
     exact List.mem_cons_self
   exact List.mem_cons_of_mem _ (J0 h)
theorem Lr {α:Type}{x:Str}{c:α}:∀ {l:List (Str×α)},(x,c)∈l->∃ d,l.lookup x=some d
 | [],h=>by cases h
 | (y, d) :: r,h=>by
   rw[List.lookup_cons]
   cases e:x==y with
   | true=>exact⟨d,rfl⟩
   | false=>
     rcases List.mem_cons.mp h with q | q
     . cases q
       simp at e
     exact Lr q
theorem Ip {x:Str}:∀ {names:List (Str×NameKind)} {n:Nat},(x,NameKind.cell)∈names->∃ c,(x,c)∈cellsFrom n names []
 | [],_,h=>by cases h
 | (y,k) :: r,n,h=>by
   unfold cellsFrom
   split
   . rw[Dd]
     rcases List.mem_cons.mp h with q | q
     . cases q
       exact⟨n,List.mem_append_right _ (by simp)⟩
     obtain⟨c,hc⟩:=Ip (n:=n+1) q
     exact⟨c,List.mem_append_left _ hc⟩
   rename_i hk
   rcases List.mem_cons.mp h with q | q
   . cases q
     exact absurd rfl hk
   exact Ip q
def T9 (outer scope:Scope)(xs fr:List Str):Bool:=
 (scope.kind == .function)&&(outer.kind == .function)&&decide (scope.names.map (·.1)).Nodup
 && (scope.names.all fun y=>y.2 != .local||scope.names.lookup y.1==some .local)
 && (scope.names.all fun y=>y.2 != .free||(outer.names.lookup y.1==some .cell||outer.names.lookup y.1==some .free))
 && (scope.names.all fun y=>y.2 != .free||scope.names.lookup y.1==some .free)
 && (xs.all fun x=>scope.names.lookup x==some .local||scope.names.lookup x==some .cell)&&(fr.all fun x=>scope.names.lookup x==some .free)&&decide (xs++fr).Nodup
theorem Cs {α:Type}{x:Str}{v:α}:∀ {l:List (Str×α)},l.lookup x=some v->(x,v)∈l
 | [],h=>by cases h
 | (n,k) :: r,h=>by
   rw[List.lookup_cons] at h
   split at h
   . rename_i hx
     have hx':x=n:=beq_iff_eq.mp hx
     cases h
     rw[hx']
     exact List.mem_cons_self
   exact List.mem_cons_of_mem _ (Cs h)
theorem Hk {scope:Scope}{env:Env}{x:Str}{k:NameKind}(hk:env.scope.kind = .function):∀ {names:List (Str×NameKind)},names.lookup x=some k ->
  (names.map fun(n,k)=>if(k==NameKind.free&&env.scope.kind == .function&&env.kindOf n==some .cell) then(n,NameKind.cell) else(n,k)).lookup x=some (if(k==NameKind.free&&env.kindOf x==some .cell) then .cell else k)
 | [],h=>by cases h
 | (n,j) :: r,h=>by
   have ih:=@Hk scope env x k hk r
   rw[List.map_cons]
   rw[List.lookup_cons] at h
   dsimp only
   split at h
   . rename_i hx
     have hx':x=n:=beq_iff_eq.mp hx
     cases h
     subst hx'
     by_cases hc:(k==NameKind.free&&env.scope.kind == .function&&env.kindOf x==some .cell)=true
     . have hc2:(k==NameKind.free&&env.kindOf x==some .cell)=true:=by
        rw[Bool.and_eq_true,Bool.and_eq_true] at hc
        rw[Bool.and_eq_true]
        exact⟨hc.1.1,hc.2⟩
       rw[if_pos hc,if_pos hc2,List.lookup_cons,beq_self_eq_true]
     have hc2:¬ (k==NameKind.free&&env.kindOf x==some .cell)=true:=fun q=>hc (by
      rw[Bool.and_eq_true] at q
      rw[Bool.and_eq_true,Bool.and_eq_true,hk]
      exact⟨⟨q.1,rfl⟩,q.2⟩)
     rw[if_neg hc,if_neg hc2,List.lookup_cons,beq_self_eq_true]
   rename_i hx
   have hx':(x==n)=false:=by simpa using hx
   by_cases hc:(j==NameKind.free&&env.scope.kind == .function&&env.kindOf n==some .cell)=true
   . rw[if_pos hc,List.lookup_cons,hx']
     exact ih h
   rw[if_neg hc,List.lookup_cons,hx']
   exact ih h
theorem Fw {env:Env} {x:Str} {k:NameKind}:∀ {names:List (Str×NameKind)},
  (names.map fun(n,k)=>if(k==NameKind.free&&env.scope.kind == .function&&env.kindOf n==some .cell) then(n,NameKind.cell) else(n,k)).lookup x=some k ->
  ∃ j,names.lookup x=some j/\(k=j\/(j = .free/\k = .cell))
 | [],h=>by cases h
 | (n,j) :: r,h=>by
   have ih:=@Fw env x k r
   rw[List.map_cons] at h
   dsimp only at h
   by_cases hc:(j==NameKind.free&&env.scope.kind == .function&&env.kindOf n==some .cell)=true
   . rw[if_pos hc,List.lookup_cons] at h
     have hj:j = .free:=by
      rw[Bool.and_eq_true,Bool.and_eq_true] at hc
      exact beq_iff_eq.mp hc.1.1
     rw[List.lookup_cons]
     split at h
     . rename_i hx
       cases h
       exact⟨j,rfl,.inr ⟨hj,rfl⟩⟩
     rename_i hx
     have hx':(x==n)=false:=by simpa using hx
     exact ih h
   rw[if_neg hc,List.lookup_cons] at h
   rw[List.lookup_cons]
   split at h
   . rename_i hx
     cases h
     exact⟨_,rfl,.inl rfl⟩
   rename_i hx
   have hx':(x==n)=false:=by simpa using hx
   exact ih h
structure CompS (X:Cx)(scope:Scope)(xs fr:List Str):Prop where
 kind:scope.kind = .function
 okind:X.env.scope.kind = .function
 uniq:(scope.names.map (·.1)).Nodup
 names:∀ y∈scope.names,y.2 = .local->scope.names.lookup y.1=some .local
 free:∀ y∈scope.names,y.2 = .free->X.env.kindOf y.1=some .cell\/X.env.kindOf y.1=some .free
 own:∀ x∈xs,scope.names.lookup x=some .local\/scope.names.lookup x=some .cell
 fre:∀ x∈fr,scope.names.lookup x=some .free
 nd:(xs++fr).Nodup
theorem Rp {X:Cx}{scope:Scope}{xs fr:List Str}(h:T9 X.env.scope scope xs fr=true):CompS X scope xs fr:=by
 unfold T9 at h
 simp only[Bool.and_eq_true,List.all_eq_true,bne_iff_ne,Bool.or_eq_true,beq_iff_eq,decide_eq_true_eq] at h
 obtain⟨⟨⟨⟨⟨⟨⟨⟨h1,h2⟩,h3⟩,h4⟩,h5⟩,h6⟩,h7⟩,h8⟩,h9⟩:=h
 exact⟨h1,h2,h3,fun y hy e=>(h4 y hy).resolve_left (fun q=>q e),fun y hy e=>(h5 y hy).resolve_left (fun q=>q e),h7,h8,h9⟩
def Mo (σ:St)(js:List Nat):St:=js.map fun j=>(σ[j]?).getD none
abbrev cxC (X:Cx)(scope:Scope)(xs fr:List Str)(C:Addr)(ex:List Addr)(s₀:Shared)(H₀:Hp):Cx:=
 { X with N:=xs++fr,env:=compEnvC scope (cellsFrom (C+1) scope.names (Jn X.env scope.names [])) C X.env,s₀:=s₀,H₀:=H₀,outer:=X.stack,ex:=ex,fn:=fun x=>scope.names.lookup x==some .cell,pn:=[],xe:=fun _ _=>False }
section
variable {X:Cx}{scope:Scope}{xs fr:List Str}{pins:List (Addr×Obj)}{σ:St}{H:Hp}{s:Shared}{js:List Nat}{fp:List Addr}
theorem Pw {α:Type}{x:Str}{v:α}:∀ {l:List (Str×α)},(l.map (·.1)).Nodup->(x,v)∈l->l.lookup x=some v
 | [],_,h=>by cases h
 | (y,d) :: r,hn,h=>by
   obtain⟨h1,h2⟩:=List.nodup_cons.mp hn
   rw[List.lookup_cons]
   rcases List.mem_cons.mp h with q | q
   . cases q
     rw[beq_self_eq_true]
   have hne:(x==y)=false:=beq_eq_false_iff_ne.mpr fun e=>h1 (e ▸ List.mem_map.mpr ⟨(x,v),q,rfl⟩)
   rw[hne]
   exact Pw h2 q
theorem CompS.cells (S:CompS X scope xs fr)(ok:X.Ok):∀ y∈scope.names,y.2=NameKind.free->∃ c,X.env.cells.lookup y.1=some c:=fun y hy e=>ok.has _ (S.free y hy e)
theorem Y9 (S:CompS X scope xs fr)(hjs:js.map (fun j=>X.N[j]?)=fr.map some)(I:Inv X pins σ H s)(hfp:∀ b∈fp,Sq X pins H b)(hob:∀ b∈fp,∃ o,s.heap.get? b=some o){h':Heap}{t':Nat}
  (hn:h'.Ns s.heap.objs.size fun _=>none) (keep:∀ b o,s.heap.get? b=some o->h'.get? b=some o) (hcs:CellsOk h' (s.heap.objs.size+1) (cellsFrom (s.heap.objs.size+1) scope.names [])) :
  Inv (cxC X scope xs fr s.heap.objs.size fp s H) [] (List.replicate xs.length none++Mo σ js) H { s with heap:=h',toks:=t' }:=by
 have hcl:=S.cells I.ok
 have sub:∀ x c,(Jn X.env scope.names []).lookup x=some c->X.env.cells.lookup x=some c:=fun x c h=>So hcl (fun q=>by cases q) h
 have hl:js.length=fr.length:=by have:=congrArg List.length hjs;rwa[List.length_map,List.length_map] at this
 have two:∀ x c,(cellsFrom (s.heap.objs.size+1) scope.names (Jn X.env scope.names [])).lookup x=some c->(x,c)∈cellsFrom (s.heap.objs.size+1) scope.names []\/(Jn X.env scope.names []).lookup x=some c:=fun x c h=>by
  rw[Dd,List.lookup_append] at h
  cases e:(cellsFrom (s.heap.objs.size+1) scope.names []).lookup x with
  | some d=>
    rw[e] at h
    cases h
    exact .inl (Cs e)
  | none=>
    rw[e] at h
    exact .inr h
 have oldc:∀ x c,X.env.cells.lookup x=some c->c<s.heap.objs.size:=fun x c h=>let ⟨_,_,ho,_⟩:=I.cell x c h;Heap.lt_size ho
 have newc:∀ x c,(x,c)∈cellsFrom (s.heap.objs.size+1) scope.names []->s.heap.objs.size<c:=fun x c h=>(hcs.empty x c h).2
 refine⟨⟨I.ok.mod,S.kind,I.ok.glob,I.ok.blt,Nat.le_refl _,fun x y c h1 h2=>?_,fun x hx=>?_,fun x c hf h=>?_,I.ok.hd,I.ok.frames,.inl rfl,fun b hb=>?_,fun b o e=>I.bs b o e,Nat.le_trans I.ok.bsz I.sz,fun b o e hb=>?_,fun b hb hb2=>?_,I.stack,I.stkFree⟩,
  rfl,I.bare,Un.kept keep,⟨_,hn,fun i x v e1 e2 e3=>?_⟩,fun x c h=>?_,I.hok.fresh (Nat.le_refl _),fun x c h=>?_,fun p hp=>absurd (show p∈([]:List (Addr×Obj)) from hp) (by simp),I.hok.kept keep,?_⟩
 . rcases two x c h1 with g1 | g1
   . rcases two y c h2 with g2 | g2
     . exact name_of_addr hcs.apart g1 g2
     exact absurd (oldc y c (sub y c g2)) (Nat.not_lt.mpr (Nat.le_of_lt (newc x c g1)))
   rcases two y c h2 with g2 | g2
   . exact absurd (oldc x c (sub x c g1)) (Nat.not_lt.mpr (Nat.le_of_lt (newc y c g2)))
   exact I.ok.inj x y c (sub x c g1) (sub y c g2)
 . -- the names that are cells there have one
   have hx:(relabel scope X.env).names.lookup x=some .cell\/(relabel scope X.env).names.lookup x=some .free:=hx
   have app:∀ c,(Jn X.env scope.names []).lookup x=some c\/(x,c)∈cellsFrom (s.heap.objs.size+1) scope.names []->∃ c,(cellsFrom (s.heap.objs.size+1) scope.names (Jn X.env scope.names [])).lookup x=some c:=fun c h=>by
    rw[Dd,List.lookup_append]
    rcases h with h | h
    . cases (cellsFrom (s.heap.objs.size+1) scope.names []).lookup x with
      | some d=>exact⟨d,rfl⟩
      | none=>exact⟨c,h⟩
    obtain⟨d,hd⟩:=Lr h
    rw[hd]
    exact⟨d,rfl⟩
   have go:∀ k,(relabel scope X.env).names.lookup x=some k->(k = .cell\/k = .free)->∃ c,(cellsFrom (s.heap.objs.size+1) scope.names (Jn X.env scope.names [])).lookup x=some c:=fun k e hk=>by
    obtain⟨j,hj,q⟩:=Fw (env:=X.env) (names:=scope.names) e
    have hm:=Cs hj
    have hjf:j = .free\/j = .cell:=by
     rcases q with q | q
     . rcases hk with hk | hk
       . exact .inr (q ▸ hk)
       exact .inl (q ▸ hk)
     exact .inl q.1
    rcases hjf with hjf | hjf
    . subst hjf
      obtain⟨c,hc⟩:=Nk (env:=X.env) (x:=x) (names:=scope.names) (acc:=[]) (.inr hm)
      exact app c (.inl hc)
    subst hjf
    obtain⟨c,hc⟩:=Ip (n:=s.heap.objs.size+1) hm
    exact app c (.inr hc)
   rcases hx with hx | hx
   . exact go _ hx (.inl rfl)
   exact go _ hx (.inr rfl)
 . rcases two x c h with g | g
   . exact Nat.le_of_lt (newc x c g)
   have hf':scope.names.lookup x=some .cell:=by simpa using hf
   obtain⟨d,hd⟩:=Ip (n:=s.heap.objs.size+1) (Cs hf')
   have h':=h
   obtain⟨e,he⟩:=Lr hd
   have h':(cellsFrom (s.heap.objs.size+1) scope.names (Jn X.env scope.names [])).lookup x=some c:=h
   rw[Dd,List.lookup_append,he] at h'
   cases h'
   exact Nat.le_of_lt (newc x _ (Cs he))
 . obtain⟨f0,f1,f2,f3,f4,f5⟩:=hfp b hb
   obtain⟨o,ho⟩:=hob b hb
   refine⟨Nat.ne_of_lt (Heap.lt_size ho),fun x c h z=>?_⟩
   rcases two x c h with g | g
   . have h1:=newc x c g
     have h2:=Heap.lt_size ho
     rw[<- z] at h2
     exact absurd h1 (Nat.not_lt.mpr (Nat.le_of_lt h2))
   exact f4 x c (sub x c g) z
 . obtain⟨f0,f1,f2,f3,f4,f5⟩:=hfp b hb
   rcases f3 with f3 | f3
   . exact I.ok.noex b o e f3
   exact absurd (Nat.lt_of_lt_of_le (Heap.lt_size (I.ok.bs b o e).1) f3) (Nat.lt_irrefl _)
 . obtain⟨f0,f1,f2,f3,f4,f5⟩:=hfp b hb
   rcases List.mem_cons.mp (I.stkSub b hb2) with z | z
   . exact f1 z
   exact f2 z
 . have e1:(xs++fr)[i]? = some x:=e1
   by_cases hi:i<xs.length
   . rw[List.getElem?_append_left (by rw[List.length_replicate];exact hi),List.getElem?_replicate,if_pos hi] at e2
     cases e2
   have hi':xs.length<=i:=Nat.le_of_not_lt hi
   rw[List.getElem?_append_right hi'] at e1
   rw[List.getElem?_append_right (by rw[List.length_replicate];exact hi'),List.length_replicate] at e2
   unfold Mo at e2
   rw[List.getElem?_map] at e2
   cases ej:js[i-xs.length]? with
   | none=>rw[ej] at e2;cases e2
   | some j=>
     rw[ej] at e2
     have e2':(σ[j]?).getD none=some v:=Option.some.inj e2
     have e4:σ[j]? = some (some v):=by
      cases q:σ[j]? with
      | none=>rw[q] at e2';cases e2'
      | some o=>rw[q] at e2';rw[show o=some v from e2']
     have e5:X.N[j]? = some x:=by
      have:=congrArg (fun l=>l[i-xs.length]?) hjs
      rw[List.getElem?_map,List.getElem?_map,ej,e1] at this
      exact Option.some.inj this
     have hf:=S.fre x (List.mem_of_getElem? e1)
     have hk:=S.free _ (Cs hf) rfl
     obtain⟨m,hm,hl'⟩:=I.loc
     obtain⟨u,r,lk⟩:=hl' j x v e5 e4 (.inr hk)
     refine⟨u,r,.inr ⟨?_,?_⟩⟩
     . have q:=Hk (scope:=scope) (env:=X.env) S.okind hf
       show(relabel scope X.env).names.lookup x=some .cell\/(relabel scope X.env).names.lookup x=some .free
       have q':(relabel scope X.env).names.lookup x=some (if(NameKind.free==NameKind.free&&X.env.kindOf x==some .cell) then .cell else .free):=q
       by_cases hc:(NameKind.free==NameKind.free&&X.env.kindOf x==some .cell)=true
       . rw[if_pos hc] at q';exact .inl q'
       rw[if_neg hc] at q';exact .inr q'
     obtain⟨c',hc'⟩:=Nk (env:=X.env) (x:=x) (names:=scope.names) (acc:=[]) (.inr (Cs hf))
     rcases lk with ⟨z,_⟩ | ⟨_,c,hc,ob,ho,hd⟩
     . rcases hk with hk | hk
       . rw[z] at hk;cases hk
       rw[z] at hk;cases hk
     have e6:c=c':=by
      have:=sub x c' hc'
      rw[hc] at this
      exact Option.some.inj this
     subst e6
     refine⟨_,?_,ob,keep _ _ ho,hd⟩
     show(cellsFrom (s.heap.objs.size+1) scope.names (Jn X.env scope.names [])).lookup x=some c
     rw [Dd,List.lookup_append]
     have none':(cellsFrom (s.heap.objs.size+1) scope.names []).lookup x=none:=by
      cases e:(cellsFrom (s.heap.objs.size+1) scope.names []).lookup x with
      | none=>rfl
      | some d=>
        have:=Pw S.uniq (J0 (Cs e))
        rw[hf] at this
        cases this
     rw[none']
     exact hc'
 . rcases two x c h with g | g
   . exact⟨_,(hcs.empty x c g).1⟩
   obtain⟨v,ob,ho,hd⟩:=I.cell x c (sub x c g)
   exact⟨v,ob,keep _ _ ho,hd⟩
 . rcases two x c h with g | g
   . exact I.hok.fresh (Nat.le_of_lt (newc x c g))
   exact I.freeC x c (sub x c g)
 show _=(xs++fr).length
 unfold Mo
 rw[List.length_append,List.length_append,List.length_replicate,List.length_map,hl]
theorem Vm {M:Model}{A:Around}{E:Value->Shared->Prop}{s:Shared}{scope:Scope}{globals:Addr}{cl:List (Str×Addr)}{qual:Str}{env:Env}{Q:Env->Shared->Prop}
  (hQ:∀ h',h'.Ns s.heap.objs.size (fun _=>none)->(∀ b o,s.heap.get? b=some o->h'.get? b=some o)->CellsOk h' (s.heap.objs.size+1) (cellsFrom (s.heap.objs.size+1) scope.names []) ->
   Q (newEnv scope s.heap.objs.size globals (cellsFrom (s.heap.objs.size+1) scope.names cl) qual none .none (some env) builtinsNs) { s with heap:=h' }) :
  wpAny M A (newFunctionEnv scope globals cl [] qual none .none (some env)) Q E s:=by
 simp only[newFunctionEnv,Option.isSome_some,if_true]
 refine wpAny_bind (wpAny_alloc ?_)
 refine wpAny_bind (wpAny_layCells _ (fun name kind cells=>by cases hkc:kind==NameKind.cell<;>simp[hkc]) _ _ _ _ ?_)
 have okc:=cellsFrom_ok scope.names (s.heap.push { cls:=.type "dict",data:=.dict #[] }) (s.heap.objs.size+1) [] ⟨fun _ _ hm=>(nomatch hm),List.Pairwise.nil⟩ (by rw[Heap.size_push];exact Nat.le_refl _)
 rw[Heap.size_push] at okc
 rw[show({ s with heap:=s.heap.push { cls:=.type "dict",data:=.dict #[] } }:Shared).heap.objs.size=s.heap.objs.size+1 from Heap.size_push ..]
 rw[List.forIn_nil]
 exact wpAny_bind (wpAny_pure (wpAny_pure (hQ _ ((Heap.Ns.new s.heap (.type "dict")).keeps (pushCells_keeps _ _)) (fun b o e=>pushCells_keeps _ _ b o (Heap.get?_push_of_some _ e)) okc)))
theorem X7 {σ':St}{H':Hp}{s':Shared}{h'':Heap}(I:Inv X pins σ H s)(hfp:∀ b∈fp,Sq X pins H b)(J:Inv (cxC X scope xs fr s.heap.objs.size fp s H) [] σ' H' s')(hs:Heap.SameBut s.heap.objs.size s'.heap h'') :
  Inv X pins σ H' { s' with heap:=h'' }:=by
 have old:∀ b o,s.heap.get? b=some o->b≠s.heap.objs.size:=fun b o e=>Nat.ne_of_lt (Heap.lt_size e)
 have ub:Un (frs X.stack) fp H H' s.heap s'.heap:=J.base
 refine I.call' (s':={ s' with heap:=h'' }) (ch:=fp) J.os ⟨fun b o e n hb hx=>(hs.2 b (old b o e)).trans (ub.keep b o e n hb hx),fun b o e n hb hx=>?_,ub.free,fun b o e hx=>?_,ub.tups,ub.frzs,ub.tbls⟩ (fun b o e=>?_) J.bare fun b hb=>?_
 . obtain⟨sl,e1⟩:=ub.slot b o e n hb hx
   exact⟨sl,(hs.2 b (old b o e)).trans e1⟩
 . obtain⟨o',e1⟩:=ub.there b o e hx
   exact⟨o',(hs.2 b (old b o e)).trans e1⟩
 . have hf:H' s.heap.objs.size=none:=J.free
   refine(J.hok b o e).stay (fun c v hc q=>(hs.2 c ?_).trans q) (fun _ q=>q) fun _ _ q=>q
   intro z
   rcases hc with hc | hc
   . rw[<- hc,z,hf] at e;cases e
   rw[z,hf] at hc;cases hc
 obtain⟨f0,f1,f2,f3,f4,f5⟩:=hfp b hb
 exact⟨f3,f1,f4,f5⟩
def PIf (X:Cx)(ifs:List Expr)(t:TT):Prop:=
 ∀(pins:List (Addr×Obj)) (s:Shared) (σ:St) (H:Hp) (Q:Bool->Hp->Prop) (E:Value->Shared->Prop),(∀ e s',X.xe e s'->E e s')->Inv X pins σ H s->t σ H Q ->
  wpAny (model X.prog X.w) X.A (forIn ifs true fun c r=>if r=true then do let ok <- isTrue c X.env (eval c X.env);pure (ForInStep.yield ok) else pure (ForInStep.yield r)) (TP X pins σ Q) E s
def Y1:TT:=fun _ H Q=>Q true H
theorem Ex:PIf X [] Y1:=fun _ _ _ H _ _ _ I h=>wpAny_tests_nil ⟨H,I,h⟩
theorem Lb {c:Expr}{t:TT}(hc:PT X c t):PIf X [c] t:=fun pins s σ H Q _ hE I h=>wpAny_tests_one (wpAny_mono (hc pins s σ H Q I h) (fun _ _ z=>z) hE)
def ac9 (k:Nat)(js:List Nat)(wi:TI)(g:TG)(tt:TT)(te:TE):TE:=fun σ H Q=>wi σ H fun J H1=>∀ p,H1 p=none ->
 ∃ W:Nat->Nat->Hp->Prop,(∃ m,W 0 m (upd H1 p (.lst [])))/\∀ i m H,W i m H ->
  (J.stop i H/\Q (.ref p) H)\/(J.go i H/\∃ N:Hp->Prop,(∀ H',N H'->∃ m',m'<m/\W (i+1) m' H') /\
   ∀ x H',J.yld i H x H'->g x (List.replicate k none++Mo σ js) H' fun σ2 H2=>tt σ2 H2 fun b H3=>
    if b=true then te σ2 H3 fun y H4=>∃ acc,H4 p=some (.lst acc)/\acc.length<sizeLine/\N (upd H4 p (.lst (acc++[y]))) else N H3)
theorem X4 {tg elt iter:Expr}{ifs:List Expr}{pos:Pos}{it acc:Value}{env:Env}{A:Around}{R:Result->Shared->Prop}{s:Shared}{P:Program}{w:World}(I:Nat->Shared->Prop)
  (turn:∀ n s,I n s->wpAny (model P w) A (pyNext it) (fun r s₁=>match r with
   | none=>R (.ok .next) s₁
   | some v=>wpAny (model P w) A (letOwnedTupleGo tg it v) (fun _ s₁'=>wpAny (model P w) A (assign tg env v) (fun _ s₂=>
     wpAny (model P w) A (forIn ifs true fun c r=>if r=true then do let ok <- isTrue c env (eval c env);pure (ForInStep.yield ok) else pure (ForInStep.yield r)) (fun ok s₃=>
      if ok=true then wpAny (model P w) A (eval elt env) (fun x s₄=>
       wpAny (model P w) A (call (.builtin "list.append") [acc,x]) (fun _ s₅=>∃ m,m<n/\I m s₅) (fun _ _=>False) s₄) (fun _ _=>False) s₃
      else ∃ m,m<n/\I m s₃) (fun _ _=>False) s₂) (fun _ _=>False) s₁') (fun _ _=>False) s₁) (fun _ _=>False) s)
  (n:Nat) (h:I n s):codeAny (model P w) A (.compLoop (.ListComp elt [⟨tg,iter,ifs,0⟩] scope pos) 0 it acc env) R s:=by
 refine codeAny_loop rfl I (fun n s hI=>?_) n h
 show wpAny _ A ((compTurn (.ListComp elt [⟨tg,iter,ifs,0⟩] scope pos) 0 it acc env).onRaise (fun x=>do noteFrame x env;theTreesLotGoes x)) _ _ s
 refine wpAny_noted ?_
 rw [compTurn_list]
 refine wpAny_bind (wpAny_standAt (wpAny_bind (wpAny_mono (turn n s hI) (fun r s₁ h₁=>?_) fun _ _ h'=>h'.elim)))
 cases r with
 | none=>exact wpAny_pure h₁
 | some v=>
   refine wpAny_bind (wpAny_mono h₁ (fun _ s₁' h₁'=>?_) fun _ _ h'=>h'.elim)
   refine wpAny_bind (wpAny_mono h₁' (fun _ s₂ h₂=>wpAny_bind (wpAny_mono h₂ (fun ok s₃ h₃=>?_) fun _ _ h'=>h'.elim)) fun _ _ h'=>h'.elim)
   cases ok with
   | false=>exact wpAny_pure ⟨rfl,h₃⟩
   | true=>
     exact wpAny_bind (wpAny_bind (wpAny_mono h₃ (fun x s₄ h₄=>wpAny_bind (wpAny_mono h₄ (fun _ s₅ h₅=>wpAny_pure (wpAny_pure ⟨rfl,h₅⟩)) fun _ _ h'=>h'.elim)) fun _ _ h'=>h'.elim))
def Zd (n:Nat)(g:TG):Prop:=∀ x σ H Q,g x σ H Q->g x σ H fun σ' H'=>(∀ k,n<=k->σ'[k]? = σ[k]?)/\Q σ' H'
theorem Ce {n i:Nat}(h:i<n):Zd n (Js i):=fun x σ H Q q=>⟨fun k hk=>List.getElem?_set_ne (by omega),q⟩
theorem Sy {tg elt iter:Expr}{ifs:List Expr}{pos:Pos}{g:TG}{tt:TT}{te:TE}(hc:X.calm=true)(S:CompS X scope xs fr)(hjs:js.map (fun j=>X.N[j]?)=fr.map some)
  (hg:∀ C ex s₀ H₀,PG (cxC X scope xs fr C ex s₀ H₀) tg g) (hk:Zd xs.length g) (hi:∀ C ex s₀ H₀,PIf (cxC X scope xs fr C ex s₀ H₀) ifs tt) (he:∀ C ex s₀ H₀,PE (cxC X scope xs fr C ex s₀ H₀) elt te)
  {s2:Shared} {H1:Hp} {R:Value->Addr->Result->Shared->Prop} {Q:VK} {it:Addr} {tn:Nat->Heap->Prop} {J:It} (I:Inv X pins σ H1 s2) (T:Yk X.prog X.w X.K tg J fp it tn) (st:tn 0 s2.heap) (hfp:∀ b∈fp,Sq X pins H1 b)
  (hq:∀ p,H1 p=none->∃ W:Nat->Nat->Hp->Prop,(∃ m,W 0 m (upd H1 p (.lst [])))/\∀ i m H,W i m H ->
   (J.stop i H/\Q (.ref p) H)\/(J.go i H/\∃ N:Hp->Prop,(∀ H',N H'->∃ m',m'<m/\W (i+1) m' H') /\
    ∀ x H',J.yld i H x H'->g x (List.replicate xs.length none++Mo σ js) H' fun σ2 H2=>tt σ2 H2 fun b H3=>
     if b=true then te σ2 H3 fun y H4=>∃ acc,H4 p=some (.lst acc)/\acc.length<sizeLine/\N (upd H4 p (.lst (acc++[y]))) else N H3))
  (hR:∀(p C:Addr) (s':Shared) (H':Hp),(∃ m,s'.heap.Ns C m)->Sq X pins H' C->Inv X pins σ H' s'->Q (.ref p) H'->R (.ref p) C (.ok .next) s') :
  wpAny (model X.prog X.w) X.A (newList []) (fun acc s₃=>wpAny (model X.prog X.w) X.A (newFunctionEnv scope X.env.globals (Jn X.env scope.names []) [] X.env.qual none .none (some X.env)) (fun cenv s₄=>
   codeAny (model X.prog X.w) X.A (.compStart (.ListComp elt [⟨tg,iter,ifs,0⟩] scope pos) 0 (.ref it) acc { cenv with scope:=relabel scope X.env }) (R acc cenv.locals) s₄) X.xe s₃) X.xe s2:=by
 refine wpAny_newObj_type ?_ (by show 0<=sizeLine;exact Nat.zero_le _)
 have hn0:H1 s2.heap.objs.size=none:=I.hok.fresh (Nat.le_refl _)
 have I3:Inv X pins σ (upd H1 s2.heap.objs.size (.lst [])) { s2 with heap:=s2.heap.push { cls:=.type "list",data:=.seq ([]:List Value).toArray } }:=I.laid (t':=s2.toks) (fun b u e=>Heap.get?_push_of_some _ e) (Nat.le_refl _) ⟨Nat.zero_le _,[],0,.nil,Heap.get?_push_size _ rfl⟩
 obtain⟨W,⟨m0,w0⟩,turn⟩:=hq _ hn0
 have hob:∀ b∈fp,∃ o,s2.heap.get? b=some o:=fun b hb=>let ⟨o,e,_⟩:=T.obj _ _ st b hb;⟨o,e⟩
 have hfp3:∀ b∈fp,Sq X pins (upd H1 s2.heap.objs.size (.lst [])) b:=fun b hb=>by
  obtain⟨f0,f⟩:=hfp b hb
  obtain⟨o,e⟩:=hob b hb
  exact⟨by rw[Ar (Nat.ne_of_lt (Heap.lt_size e))];exact f0,f⟩
 have hob3:∀ b∈fp,∃ o,(s2.heap.push { cls:=.type "list",data:=.seq ([]:List Value).toArray }).get? b=some o:=fun b hb=>let ⟨o,e⟩:=hob b hb;⟨o,Heap.get?_push_of_some _ e⟩
 have st3:tn 0 (s2.heap.push { cls:=.type "list",data:=.seq ([]:List Value).toArray }):=T.keep _ _ _ st fun b _ o e=>Heap.get?_push_of_some _ e
 generalize hs3:({ s2 with heap:=s2.heap.push { cls:=.type "list",data:=.seq ([]:List Value).toArray } }:Shared)=s3 at I3 ⊢
 have st3':tn 0 s3.heap:=by rw[<- hs3];exact st3
 have hob3':∀ b∈fp,∃ o,s3.heap.get? b=some o:=by rw[<- hs3];exact hob3
 generalize hH3:upd H1 s2.heap.objs.size (.lst [])=H3 at I3 hfp3 w0
 generalize hp0:s2.heap.objs.size=p0 at turn ⊢
 refine Vm fun h₁ hns₁ hkp₁ hco₁=>?_
 have I4:=Y9 (t':=s3.toks) S hjs I3 hfp3 hob3' hns₁ hkp₁ hco₁
 have st4:tn 0 h₁:=T.keep _ _ _ st3' fun b hb o e=>hkp₁ b o e
 have loop:∀ s₄:Shared,Inv (cxC X scope xs fr s3.heap.objs.size fp s3 H3) [] (List.replicate xs.length none++Mo σ js) H3 s₄->tn 0 s₄.heap ->
   codeAny (model X.prog X.w) X.A (.compLoop (.ListComp elt [⟨tg,iter,ifs,0⟩] scope pos) 0 (.ref it) (.ref p0) (compEnvC scope (cellsFrom (s3.heap.objs.size+1) scope.names (Jn X.env scope.names [])) s3.heap.objs.size X.env)) (R (.ref p0) s3.heap.objs.size) s₄:=by
  intro s₄ I4 st4
  have stat:∀ {H':Hp},(∀ b∈fp,H' b=none)->∀ b∈fp,Sq (cxC X scope xs fr s3.heap.objs.size fp s3 H3) [] H' b:=fun {H'} hn b hb=>by
   obtain⟨f0,f1,f2,f3,f4,f5⟩:=hfp3 b hb
   obtain⟨o,e⟩:=hob3' b hb
   refine⟨hn b hb,Nat.ne_of_lt (Heap.lt_size e),I4.ok.exfs b hb,.inl hb,fun x c h=>(I4.ok.exf b hb).2 x c h,fun p hp=>absurd (show p∈([]:List (Addr×Obj)) from hp) (by simp)⟩
  refine X4 (fun n s'=>∃ i H',Inv (cxC X scope xs fr s3.heap.objs.size fp s3 H3) [] (List.replicate xs.length none++Mo σ js) H' s'/\tn i s'.heap/\(∀ b∈fp,H' b=none)/\W i n H') ?_ m0 ⟨0,H3,I4,st4,fun b hb=>(hfp3 b hb).1,w0⟩
  rintro n s5 ⟨i,H5,I5,st5,fr5,w5⟩
  rcases turn i n H5 w5 with ⟨stop,qn⟩ | ⟨go,N,hN,step⟩
  . refine thn (T.done (cxC X scope xs fr s3.heap.objs.size fp s3 H3) rfl rfl rfl hc i [] s5 _ H5 (fun _ _=>False) I5 (stat fr5) st5 stop) fun r s6 ⟨hr,I6⟩=>?_
    subst hr
    obtain⟨m6,n6,_⟩:=id I6.loc
    exact hR p0 s3.heap.objs.size s6 H5 ⟨m6,n6⟩ (I3.fpOk (Nat.le_refl _) I6.free) (X7 I3 hfp3 I6 (Heap.SameBut.refl ..)) qn
  refine thn (T.item (cxC X scope xs fr s3.heap.objs.size fp s3 H3) rfl rfl rfl hc i [] s5 _ H5 (fun _ _=>False) I5 (stat fr5) st5 go) fun r s6 ⟨u,hr,h6⟩=>?_
  subst hr
  refine thn h6 fun _ s7 ⟨x,H7,I7,r7,y7,st7,fr7⟩=>?_
  have I7':=I7.pinned (stat fr7) (T.obj _ _ st7)
  refine thn (hg _ _ _ _ _ s7 _ H7 x u _ I7' r7 (hk _ _ _ _ (step x H7 y7))) fun _ s8 ⟨σ8,H8,I8,kp8,q8⟩=>?_
  have again:∀ {s9:Shared} {H9:Hp},Inv (cxC X scope xs fr s3.heap.objs.size fp s3 H3) ([]++Qg fp s7.heap) σ8 H9 s9->N H9 ->
    ∃ m,m<n/\∃ i H',Inv (cxC X scope xs fr s3.heap.objs.size fp s3 H3) [] (List.replicate xs.length none++Mo σ js) H' s9/\tn i s9.heap/\(∀ b∈fp,H' b=none)/\W i m H':=fun {s9 H9} I9 n9=>by
   obtain⟨m',hm,w9⟩:=hN H9 n9
   refine⟨m',hm,i+1,H9,I9.unpinned.weak ?_ ?_,T.keep _ _ _ st7 fun b hb o e=>(I9.pin (b,o) (List.mem_append_right _ (List.mem_append_right _ (Hf hb e)))).1,fun b hb=>?_,w9⟩
   . rw[I9.len,I5.len]
   . intro k v hkv
     by_cases hx:k<xs.length
     . rw[List.getElem?_append_left (by rw[List.length_replicate];exact hx),List.getElem?_replicate,if_pos hx] at hkv
       cases hkv
     rw[kp8 k (Nat.le_of_not_lt hx)]
     exact hkv
   obtain ⟨o,e,d⟩:=T.obj _ _ st7 b hb
   exact(I9.pin (b,o) (List.mem_append_right _ (List.mem_append_right _ (Hf hb e)))).2.1
  refine wpAny_mono (hi _ _ _ _ _ s8 σ8 H8 _ (fun _ _=>False) (fun _ _ z=>z) I8 q8) (fun ok s9 ⟨H9,I9,q9⟩=>?_) fun _ _ z=>z
  cases ok with
  | false=>
    rw[if_neg Bool.false_ne_true]
    rw[if_neg Bool.false_ne_true] at q9
    exact again I9 q9
  | true=>
    rw[if_pos rfl]
    rw[if_pos rfl] at q9
    refine thn (he _ _ _ _ _ s9 σ8 H9 _ I9 q9) fun uy s10 ⟨y,H10,I10,r10,acc,hacc,hz,n10⟩=>?_
    refine thn (C2 _ s10 σ8 H10 (.ref p0) [y] (.ref p0) [uy] (fun _ H11=>N H11) I10 rfl (.cons r10 .nil) ⟨p0,acc,y,rfl,rfl,hacc,hz,n10⟩) fun _ s11 ⟨_,H11,I11,_,n11⟩=>?_
    exact again I11 n11
 exact codeAny_compStart_list (loop _ I4 st4) (T.self _ _ _ _ _ st4 (loop _ I4 st4))
theorem Inv.letgo {C:Addr}{h'':Heap}(I:Inv X pins σ H s)(f:Sq X pins H C)(hs:Heap.SameBut C s.heap h''):Inv X pins σ H { s with heap:=h'' }:=by
 obtain⟨f0,f1,f2,f3,f4,f5⟩:=f
 exact I.turned (t':=s.toks) (fun b o hb e=>(hs.2 b hb).trans e) f0 f1 f3 f4 f5
theorem Do {tg elt iter:Expr}{ifs:List Expr}{pos:Pos}{wi:TI}{g:TG}{tt:TT}{te:TE}(xs fr:List Str)(js:List Nat)(hc:X.calm=true)(hS:T9 X.env.scope scope xs fr=true)(hjs:js.map (fun j=>X.N[j]?)=fr.map some)(hw:PI X tg iter wi)
  (hg:∀ C ex s₀ H₀,PG (cxC X scope xs fr C ex s₀ H₀) tg g) (hk:Zd xs.length g) (hi:∀ C ex s₀ H₀,PIf (cxC X scope xs fr C ex s₀ H₀) ifs tt) (he:∀ C ex s₀ H₀,PE (cxC X scope xs fr C ex s₀ H₀) elt te)
  (hs:∀ x,foldedSetIterable iter X.env x=pure x:=by intro _;ac_nf) :
  PE X (.ListComp elt [⟨tg,iter,ifs,0⟩] scope pos) (ac9 xs.length js wi g tt te):=by
 intro pins s σ H Q I h
 have S:=Rp hS
 rw[eval_ListComp]
 refine wpAny_comprehension_free (use:=none) rfl hs (Mp (S.cells I.ok)) S.kind S.names ?_
 refine thn (hw pins s σ H _ I h) fun v s1 h1=>thn h1 fun itv s2 h2=>?_
 obtain⟨it,fp,tn,J,H2,e,I2,T,st2,f2,q2⟩:=h2
 subst e
 refine Sy (Q:=Q) (R:=fun acc C=>compPost (model X.prog X.w) X.A X.xe none (EP X pins σ Q) acc C) hc S hjs hg hk hi he I2 T st2 f2 q2 ?_
 intro p C s' H' ⟨m,hn⟩ fC hI q
 exact⟨m,hn,fun h'' hs''=>⟨.ref p,H',hI.letgo fC hs'',rfl,q⟩⟩
theorem Iy {tg elt iter:Expr}{ifs:List Expr}{pos spos py:Pos}{wi:TI}{g:TG}{tt:TT}{te:TE}{i:Nat}{y:Str}(xs fr:List Str)(js:List Nat)(hc:X.calm=true)(hS:T9 X.env.scope scope xs fr=true)(hjs:js.map (fun j=>X.N[j]?)=fr.map some)
  (hN:X.N.Nodup) (hi':X.N[i]? = some y) (hy:X.env.scope.names.lookup y=some .local) (hw:PI X tg iter wi)
  (hg:∀ C ex s₀ H₀,PG (cxC X scope xs fr C ex s₀ H₀) tg g) (hk:Zd xs.length g) (hi:∀ C ex s₀ H₀,PIf (cxC X scope xs fr C ex s₀ H₀) ifs tt) (he:∀ C ex s₀ H₀,PE (cxC X scope xs fr C ex s₀ H₀) elt te)
  (hsw:swapsWith (.ListComp elt [⟨tg,iter,ifs,0⟩] scope pos) (some (.Name y py)) spos.line X.env=pure true:=by ac_nf)
  (hs:∀ x,foldedSetIterable iter X.env x=pure x:=by intro _;ac_nf) :
  PS X (.Assign [.Name y py] (.ListComp elt [⟨tg,iter,ifs,0⟩] scope pos) spos) (ai2 (ac9 xs.length js wi g tt te) (Js i)):=by
 intro pins s σ H D I h
 have S:=Rp hS
 rw[exec_Assign_Name_used _ _ _ _ hsw]
 refine wpAny_bind (wpAny_standAt (wpAny_bind ?_))
 show wpAny _ X.A (do let _ <- comprehension (.ListComp elt [⟨tg,iter,ifs,0⟩] scope pos) scope X.env _ (newList []) false (eval iter X.env) (some (assign (.Name y py) X.env))) _ _ s
 refine wpAny_bind (wpAny_mono (wpAny_comprehension_free (use:=some (assign (.Name y py) X.env)) (Q:=fun _ s'=>SP X pins D .next s') rfl hs (Mp (S.cells I.ok)) S.kind S.names ?_) (fun _ s' hq=>wpAny_pure (wpAny_pure hq)) fun _ _ e=>e)
 refine thn (hw pins s σ H _ I h) fun v s1 h1=>thn h1 fun itv s2 h2=>?_
 obtain⟨it,fp,tn,J,H2,e,I2,T,st2,f2,q2⟩:=h2
 subst e
 refine Sy (Q:=fun x H1=>Js i x σ H1 D.nx) (R:=fun acc C=>compPost (model X.prog X.w) X.A X.xe (some (assign (.Name y py) X.env)) (fun _ s'=>SP X pins D .next s') acc C) hc S hjs hg hk hi he I2 T st2 f2 q2 ?_
 intro p C s' H' ⟨m,hn⟩ fC I' q
 show wpAny _ X.A (assign (.Name y py) X.env (.ref p)) _ _ s'
 refine wpAny_assign_Name (Ps I' hN hi' (.inl hy) (show RelV (.ref p) (.ref p) from rfl) (fun s'' I'' ⟨a,hs1,ha⟩=>?_) (.inr hy))
 have hne:C≠a:=by
  rcases ha with ha | ha
  . rw[ha];exact fC.2.1
  exact(fC.2.2.2.2.1 y a ha).symm
 exact⟨m,hn.sameBut hs1 hne,fun h'' hs''=>⟨_,H',I''.letgo fC hs'',q⟩⟩
end
def Its (x:Str):It:=⟨fun i _=>i<x.cps.size,fun i H v H'=>H'=H/\∃ c,x.cps[i]? = some c/\v = .str ⟨#[c]⟩,fun i _=>x.cps.size<=i⟩
section
variable {X:Cx}{tg:Expr}
theorem Uj {P:Program}{w:World}{K:PySem.W.Frag}{tg:Expr}{it:Addr}{n:Nat}{PV:Nat->Value->Prop}{val:Nat->V->Prop}{St:Nat->Heap->Prop}(W:∀ A:Around,A.handled=none->Walks P w A it [it] [it] n PV St)
  (hself:∀(A:Around) (i:Nat) (s:Shared) (Q:Value->Shared->Prop) (E:Value->Shared->Prop),St i s.heap->Q (.ref it) s->wpAny (model P w) A (pyIter (.ref it)) Q E s)
  (hv:∀ i u,PV i u->∃ v,RelV v u/\val i v) (hto:∀ i h,St i h->∃ o T vs,h.get? it=some o/\o.cls = .type T/\o.data = .fields vs/\["enumerate","zip","dict_itemiterator","dict_reverseitemiterator","odict_iterator","itertools.zip_longest","itertools.pairwise"].contains T=false) :
  Yk P w K tg ⟨fun i _=>i<n,fun i H v H'=>H'=H/\val i v,fun i _=>n<=i⟩ [it] it (fun i h=>St i h/\i<=n) where
 mem:=by simp
 obj:=fun i h st b hb=>by
  have e:b=it:=by simpa using hb
  subst e
  obtain⟨o,T,vs,e1,e2,e3,e4⟩:=hto i h st.1
  exact⟨o,e1,fun v z=>by rw[e3] at z;cases z⟩
 keep:=fun i h h' st k=>⟨(W { handled:=none } rfl).frame i h h' st.1 k,st.2⟩
 item:=by
  intro X hP hw hK hc i pins s σ H E I hf st hg
  subst hP hw hK
  obtain⟨f0,f1,f2,f3,f4,f5⟩:=hf it (by simp)
  refine(W X.A (I.ok.hd hc)).item i s _ _ hg st.1 fun u h' tk hp st' kk=>?_
  obtain⟨v,rv,vv⟩:=hv i u hp
  have I1:Inv X pins σ H { s with heap:=h',toks:=tk }:=I.turned (fun b o hb e=>kk b o (by simpa using hb) e) f0 f1 f3 f4 f5
  obtain⟨o,T,vs,e1,e2,e3,e4⟩:=hto _ _ st'
  exact⟨u,rfl,Vl (s:={ s with heap:=h',toks:=tk }) e1 e2 e3 e4 ⟨v,H,I1,rv,⟨rfl,vv⟩,⟨st',hg⟩,fun b hb=>(hf b hb).1⟩⟩
 done:=by
  intro X hP hw hK hc i pins s σ H E I hf st hg
  subst hP hw hK
  obtain⟨f0,f1,f2,f3,f4,f5⟩:=hf it (by simp)
  have e:i=n:=Nat.le_antisymm st.2 hg
  subst e
  exact(W X.A (I.ok.hd hc)).done s _ _ st.1 fun h' tk kk=>⟨rfl,I.turned (fun b o hb e=>kk b o (by simpa using hb) e) f0 f1 f3 f4 f5⟩
 self:=fun A i s Q E st h=>hself A i s Q E st.1 h
theorem ah6 {pins:List (Addr×Obj)}{σ:St}{H1:Hp}{s1:Shared}{R:It->Hp->Prop}{E:Value->Shared->Prop}{z:Str}{v:Value}(I1:Inv X pins σ H1 s1)(r1:RelV (.str z) v)(q:R (Its z) H1):wpAny (model X.prog X.w) X.A (pyIter v) (PIE X pins σ tg R) E s1:=by
 obtain⟨t,rfl⟩:=r1
 have sv:∀ i u,SignAt z i u->∃ v,RelV v u/\∃ c,z.cps[i]? = some c/\v = .str ⟨#[c]⟩:=fun i u ⟨c,tu,hc,hu⟩=>⟨.str ⟨#[c]⟩,⟨tu,hu⟩,c,hc,rfl⟩
 have fin:∀(o:Obj) (St:Nat->Heap->Prop) (n:Nat),St 0 (s1.heap.push o)->Yk X.prog X.w X.K tg (Its z) [s1.heap.objs.size] s1.heap.objs.size (fun i h=>St i h/\i<=z.cps.size)->PIE X pins σ tg R (.ref s1.heap.objs.size) { s1 with heap:=s1.heap.push o }:=fun o St n h0 T=>by
  refine⟨s1.heap.objs.size,[s1.heap.objs.size],_,_,H1,rfl,I1.kept (t':=s1.toks) fun b ob e=>Heap.get?_push_of_some _ e,T,⟨h0,Nat.zero_le _⟩,fun b hb=>?_,q⟩
  have e:b=s1.heap.objs.size:=by simpa using hb
  subst e
  exact I1.fpOk (Nat.le_refl _) (I1.hok.fresh (Nat.le_refl _))
 cases ha:z.cps.all (· < 128)
 . exact wpAny_pyIter_wide ha (fin _ _ 0 ⟨_,Heap.get?_push_size _ rfl,rfl,rfl⟩ (Uj (fun A hA=>Walks.strWide hA _ z t) (fun _ _ _ _ _ st hq=>wpAny_pyIter_striter_wide st hq) sv fun i h ⟨o,ho,hc,hd⟩=>⟨o,_,_,ho,hc,hd,by decide⟩))
 exact wpAny_pyIter_ascii ha (fin _ _ 0 ⟨_,Heap.get?_push_size _ rfl,rfl,rfl⟩ (Uj (fun A hA=>Walks.strAscii hA _ z t) (fun _ _ _ _ _ st hq=>wpAny_pyIter_striter_ascii st hq) sv fun i h ⟨o,ho,hc,hd⟩=>⟨o,_,_,ho,hc,hd,by decide⟩))
end
section
variable {X:Cx}
def av8:V->Option Int->Option Int->Hp->VK->Prop:=fun x lo hi H Q=>∃ z,x = .str z/\z.length<=sizeLine/\Q (.str (Txt.slice z lo hi)) H
theorem sl_str:SlR X av8:=by
 intro pins s σ H x v vl vu lo hi sl Q I rx hs pl pu h
 obtain⟨z,rfl,hz,q⟩:=h
 obtain⟨t,rfl⟩:=rx
 have fin:∀ t' k,EP X pins σ Q (.str (Txt.slice z lo hi) t') { s with toks:=k }:=fun t' k=>⟨.str _,H,I.tok _,⟨_,rfl⟩,q⟩
 have sz:=Nat.le_trans (Txt.slice_le z lo hi) hz
 refine⟨"str",_,F.slot_str_getitem.lookup,typeIs_str _ _ _,?_⟩
 cases pl with
 | none=>
   cases pu with
   | none=>exact wpAny_getItem_str_slice (l:=none) (u:=none) (st:=none) hs rfl (post_val_or_str ⟨sz,fin⟩)
   | int j uj=>exact wpAny_getItem_str_slice (l:=none) (u:=some (j,uj)) (st:=none) hs rfl (post_val_or_str ⟨sz,fin⟩)
 | int i ui=>
   cases pu with
   | none=>exact wpAny_getItem_str_slice (l:=some (i,ui)) (u:=none) (st:=none) hs rfl (post_val_or_str ⟨sz,fin⟩)
   | int j uj=>exact wpAny_getItem_str_slice (l:=some (i,ui)) (u:=some (j,uj)) (st:=none) hs rfl (post_val_or_str ⟨sz,fin⟩)
theorem Tm:CallR X (.builtin "repr") (fun xs H Q=>(∃ b,xs=[.bl b]/\Q (.str (if b then "True" else "False")) H)\/(xs=[.non]/\Q (.str "None") H)):=by
 intro pins s σ H xs us Q I r h
 rcases h with ⟨b,rfl,q⟩ | ⟨rfl,q⟩
 . obtain⟨u,rfl,ru⟩:=Hw r
   cases ru
   exact PySem.P.repr_of_bool ⟨.str _,H,I.tok _,⟨_,rfl⟩,q⟩
 obtain⟨u,rfl,ru⟩:=Hw r
 cases ru
 exact PySem.P.repr_of_none ⟨.str _,H,I.tok _,⟨_,rfl⟩,q⟩
theorem call_isinst:CallR X (.builtin "isinstance") (fun xs H Q=>∃ x c t b,xs=[x,.ty c]/\TyOf X.K H x t/\PySem.W.kitOne X.K t (.type c)=some b/\Q (.bl b) H):=by
 intro pins s σ H xs us Q I r h
 obtain⟨x,c,t,b,rfl,ty,e,q⟩:=h
 obtain⟨u,w',rfl,r1,r2⟩:=Rj r
 cases r2
 exact Qv I r1 ty e fun tk=>⟨.bl _,H,I.tok _,rfl,q⟩
theorem call_isinstR:CallR X (.builtin "isinstance") (fun xs H Q=>∃ x c t b,xs=[x,.ref c]/\TyOf X.K H x t/\PySem.W.kitOne X.K t (.ref c)=some b/\Q (.bl b) H):=by
 intro pins s σ H xs us Q I r h
 obtain⟨x,c,t,b,rfl,ty,e,q⟩:=h
 obtain⟨u,w',rfl,r1,r2⟩:=Rj r
 cases r2
 exact Qv I r1 ty e fun tk=>⟨.bl _,H,I.tok _,rfl,q⟩
theorem Qb:CallR X (.builtin "isinstance") (fun xs H Q=>∃ a ys c b,xs=[V.ref a,.ty c]/\((SqT X.K H a ys/\PySem.W.kitOne X.K (.type "tuple") (.type c)=some b)\/(SqL X.K H a ys/\PySem.W.kitOne X.K (.type "list") (.type c)=some b))/\Q (.bl b) H):=by
 intro pins s σ H xs us Q I r h
 obtain⟨a,ys,c,b,rfl,ty,q⟩:=h
 obtain⟨u,w',rfl,r1,r2⟩:=Rj r
 cases r2
 cases r1
 rcases ty with ⟨ty,e⟩ | ⟨ty,e⟩
 . obtain⟨its,_,p,_⟩:=I.tuple ty
   obtain⟨o,h1,h2,_⟩:=p
   exact PySem.W.kia_one PySem.W.kitx_tuple I.kIn ⟨o,h1,h2⟩ e (fun z=>nomatch z) fun tk=>⟨.bl _,H,I.tok _,rfl,q⟩
 obtain⟨its,_,p,_⟩:=I.list ty
 obtain⟨o,h1,h2,_⟩:=p.isList
 exact PySem.W.kia_one PySem.W.kitx_list I.kIn ⟨o,h1,h2⟩ e (fun z=>nomatch z) fun tk=>⟨.bl _,H,I.tok _,rfl,q⟩
theorem Zo {bs:List Bool}{its:List Value}(r:Vals (bs.map V.bl) its)(i:Nat)(v:Value)(h:its[i]? = some v):∃ b,bs[i]? = some b/\v = .bool b:=by
 have hl:=r.length
 have hi:i<its.length:=(List.getElem?_eq_some_iff.mp h).1
 have hb:i<bs.length:=by rw[List.length_map] at hl;omega
 obtain⟨u,hu,ru⟩:=r.get (i:=i) (x:=.bl bs[i]) (by rw[List.getElem?_map,List.getElem?_eq_getElem hb];rfl)
 rw[h] at hu
 cases hu
 exact⟨bs[i],List.getElem?_eq_getElem hb,ru⟩
theorem W7 (bs:List Bool):(List.range bs.length).all (fun i=>(bs[i]?).getD false)=bs.all id:=by
 rw[Bool.eq_iff_iff,List.all_eq_true,List.all_eq_true]
 constructor
 . intro h b hb
   obtain⟨i,hi,e⟩:=List.mem_iff_getElem.mp hb
   have:=h i (List.mem_range.mpr hi)
   rw[List.getElem?_eq_getElem hi] at this
   rw[<- e]
   exact this
 intro h i hi
 rw[List.getElem?_eq_getElem (List.mem_range.mp hi)]
 exact h _ (List.getElem_mem _)
theorem Yw (hc:X.calm=true):CallR X (.builtin "all") (fun xs H Q=>∃(a:Addr) (bs:List Bool),xs=[.ref a]/\SqL X.K H a (bs.map V.bl)/\Q (.bl (bs.all id)) H):=by
 intro pins s σ H xs us Q I r h
 obtain⟨a,bs,rfl,hl,q⟩:=h
 obtain⟨u,rfl,ru⟩:=Hw r
 cases ru
 obtain⟨its,rv,pl,hz⟩:=I.list hl
 have hlen:=rv.length
 have hne:a≠s.heap.objs.size:=by obtain⟨o,n,ho,_⟩:=pl;exact Nat.ne_of_lt (Heap.lt_size ho)
 refine call_all_walk (wpAny_pyIter_list pl.isList ?_)
 refine⟨_,_,_,_,_,_,fun i=>(bs[i]?).getD false,rfl,Walks.list (A:=X.A.in1) (I.ok.hd hc) _ a hne its.toArray,⟨⟨_,Heap.get?_push_size _ rfl,rfl,rfl⟩,pl.isList.at fun o e=>Heap.get?_push_of_some _ e⟩,fun i v s' Q' E' hp hq=>?_,fun h' tk hk=>?_⟩
 . obtain⟨b,hb,rfl⟩:=Zo rv i v (by simpa using hp)
   dsimp only at hq;rw[hb] at hq
   exact wpAny_truthy_bool hq
 refine⟨.bl _,H,I.kept (t':=tk) fun b ob e=>hk b ob (fun hm=>absurd (Heap.lt_size e) (by rw[show b=s.heap.objs.size by simpa using hm];exact Nat.lt_irrefl _)) (Heap.get?_push_of_some _ e),?_,q⟩
 have e1:its.toArray.size=bs.length:=by rw[List.size_toArray,<- hlen,List.length_map]
 rw[e1,W7]
 rfl
end
section
variable {X:Cx}{x:Str}{pos:Pos}
theorem Gf {v:V}(hg:Gl X x)(hm:∃ u,X.mg x=some u/\RelV v u)(hd:(x==("__debug__":Str))=false:=by decide):PE X (.Name x pos) (tC v):=by
 obtain⟨u,h1,h2⟩:=hm
 exact ac3 hg h1 h2 hd
end
section
variable {X:Cx}{K:PySem.W.Frag}
def aj2 (K:PySem.W.Frag):R2:=fun x y H Q=>∃ a b ys,x = .ref a/\y = .ref b/\SqT K H a []/\SqT K H b ys/\Q (.ref b) H
theorem a71:OpR X (binaryOp .Add) (aj2 X.K):=by
 intro pins s σ H x y v u Q I rx ry h
 obtain⟨a,b,ys,rfl,rfl,ha,hb,q⟩:=h
 cases rx
 cases ry
 obtain⟨its,r1,p1,_⟩:=I.tuple ha
 obtain⟨its2,r2,p2,_⟩:=I.tuple hb
 cases r1
 obtain⟨⟨cls,dd,data,sl⟩,ho,hc,n,hd⟩:=id p1
 obtain⟨⟨cls2,dd2,data2,sl2⟩,ho2,hc2,n2,hd2⟩:=id p2
 simp only at hc hd hc2 hd2
 subst hc hd hc2 hd2
 exact concat_meets ⟨_,ho,rfl⟩ ⟨_,ho2,rfl⟩ noFill_tuple_add seq_tuple_add PySem.F.slot_tuple_add PySem.F.entry_tuple_add (PySem.F.args_tuple_add_2 _ _) (tuple_addW0 a b _ _ n n2 dd dd2 sl sl2 (by simp)) ⟨ho,ho2,⟨.ref b,H,I,rfl,q⟩⟩
def aw0 (K:PySem.W.Frag):V->Option Int->Option Int->Hp->VK->Prop:=fun x lo hi H Q=>∃ a xs,x = .ref a/\SqT K H a xs/\(HT.sIx xs.length 0 lo=0/\HT.sIx xs.length xs.length hi=xs.length)/\Q (.ref a) H
theorem Yi:SlR X (aw0 X.K):=by
 intro pins s σ H x v vl vu lo hi sl Q I rx hs pl pu h
 obtain⟨a,xs,rfl,hx,hw,q⟩:=h
 cases rx
 obtain⟨its,r,ht,hz⟩:=I.tuple hx
 have hlen:its.toArray.size=xs.length:=by rw[List.size_toArray];exact r.length.symm
 refine⟨"tuple",_,PyProof.Rows.slot_tuple_getitem.lookup,ht.typeIs,?_⟩
 obtain⟨os,hos,hcs,hds⟩:=id hs
 have hTs:s.TypeIs (.ref sl) "slice":=⟨os,hos,hcs⟩
 unfold getItem
 try with_reducible refine wpAny_holding ?_
 first | refine wpAny_bind (wpAny_pure ?_) | skip
 refine wpAny_bind (wpAny_sequenceKey ht.typeIs (by decide) ?_)
 refine wpAny_bind (wpAny_callSpecial?_slot (name:=Str.ofString "__getitem__") ht.typeIs PyProof.Rows.slot_tuple_getitem (wpAny_call_entry PyProof.Rows.slot_tuple_getitem ht.typeIs entry_tuple_getitem ?_ (args_tuple_getitem _ _)))
 refine wpAny_bind (m:=Builtin.Tuple.tupleItemsOf (.ref a)) (tupleItemsOf_ ht ?_)
 refine wpAny_bind (wpAny_typeOf hTs ?_)
 rw[if_pos (by decide)]
 refine wpAny_bind (HT.sliceApplied_gen hs pl pu ?_)
 have yes:(((HT.sIx its.toArray.size 0 lo:Nat):Int)==0&&(1:Int)==1&&(HT.sIx its.toArray.size its.toArray.size hi-HT.sIx its.toArray.size 0 lo)==its.toArray.size)=true:=by
  rw[hlen,hw.1,hw.2]
  simp
 show wpAny _ _ (if(((HT.sIx its.toArray.size 0 lo:Nat):Int)==0&&(1:Int)==1&&(HT.sIx its.toArray.size its.toArray.size hi-HT.sIx its.toArray.size 0 lo)==its.toArray.size)=true then _ else _) _ _ s
 rw[if_pos yes]
 have fin:∀ s',s'=s->EP X pins σ Q (.ref a) s':=fun s' e=>by subst e;exact⟨.ref a,H,I,rfl,q⟩
 unfold Builtin.Tuple.tupleIsExact
 obtain⟨hp,g,d,tk,os⟩:=s
 have hT:=ht.typeIs
 repeat (any_goals (first | assumption | wp_step))
 exact⟨_,rfl,wpAny_pure (fin _ rfl)⟩
end
theorem Inv.freeze {X:Cx}{pins:List (Addr×Obj)}{σ:St}{H:Hp}{s:Shared}{d:Addr}{kvs:List (Key×V)}{o:Obj}(I:Inv X pins σ H s)(hd:H d=some (.dK kvs))(ho:s.heap.get? d=some o):Inv X pins σ (upd H d (.frz o (.dK kvs))) s:=by
 have nn:∀ b,H b=none->upd H d (.frz o (.dK kvs)) b=none:=fun b h=>by rw[Ar (Ne.symm (ne_of_none hd h))];exact h
 have other:∀ b u,H b=some u->u ≠ .dK kvs->upd H d (.frz o (.dK kvs)) b=some u:=fun b u h q=>by rw[Ar (ne_of h hd q)];exact h
 refine⟨I.ok,I.os,I.bare,⟨I.base.keep,I.base.slot,fun b ob q n hx=>nn b (I.base.free b ob q n hx),I.base.there,fun b xs q=>other b _ (I.base.tups b xs q) (by intro z;cases z),fun b ob u q=>other b _ (I.base.frzs b ob u q) (by intro z;cases z),fun b ps q=>?_⟩,I.loc,I.cell,nn _ I.free,fun x c q=>nn _ (I.freeC x c q),fun p hp=>?_,fun b u q=>?_,I.len⟩
 . obtain⟨more,h⟩:=I.base.tbls b ps q
   exact⟨more,other b _ h (by intro z;cases z)⟩
 . obtain⟨a1,a2,a3⟩:=I.pin p hp
   exact⟨a1,nn _ a2,a3⟩
 by_cases e:b=d
 . subst e
   rw[Ab] at q
   cases q
   exact⟨ho,(I.hok b _ hd).stay (fun c v hc z=>z) (fun c z=>other c _ z (by intro w;cases w)) fun c xs z=>other c _ z (by intro w;cases w)⟩
 rw[Ar e] at q
 exact(I.hok b u q).stay (fun c v hc z=>z) (fun c z=>other c _ z (by intro w;cases w)) fun c xs z=>other c _ z (by intro w;cases w)
def Itd (a:Addr)(o:Obj)(kvs:List (Key×V)):It:=
 ⟨fun i H=>H a=some (.frz o (.dK kvs))/\i<kvs.length,fun i H x H'=>H'=H/\∃ kv,kvs[i]? = some kv/\x=kV kv.1,fun i H=>H a=some (.frz o (.dK kvs))/\kvs.length<=i⟩
theorem ab9 {k:Key}{u:Value}(h:M9 k u=true):RelV (kV k) u:=by
 rcases B8 h with ⟨i,t,rfl,rfl⟩ | ⟨x,t,rfl,rfl⟩
 . exact⟨t,rfl⟩
 exact⟨t,rfl⟩
theorem Wa {X:Cx}{pins:List (Addr×Obj)}{σ:St}{H:Hp}{s:Shared}{a:Addr}{kvs:List (Key×V)}{o:Obj}{es:Array DictEntry}{ep:Nat}(I:Inv X pins σ H s)(h:H a=some (.frz o (.dK kvs)))(ho:o.data = .dict es ep):∃ vs,KV kvs vs/\s.heap.DictAt (Am X.prog X.w) a vs ep:=by
 obtain⟨h1,_,_,vs,r,o',es',ep',h2,c,hd,rest⟩:=I.hok a _ h
 rw[h1] at h2
 cases h2
 rw[ho] at hd
 cases hd
 exact⟨vs,r,o,es,h1,c,ho,rest⟩
theorem KV.get:∀ {kvs:List (Key×V)} {vs:List (Key×Value)} {i:Nat} {kv:Key×V},KV kvs vs->kvs[i]? = some kv->∃ u,vs[i]? = some (kv.1,u)/\RelV kv.2 u
 | _,_,_,_,.nil,e=>by simp at e
 | _,_,0,kv,.cons r _,e=>by
   simp at e
   subst e
   exact⟨_,congrArg some (Prod.ext r.1.symm rfl),r.2⟩
 | _,_,i+1,kv,.cons _ t,e=>by
   obtain⟨u,h1,h2⟩:=KV.get (i:=i) t (by simpa using e)
   exact⟨u,by simpa using h1,h2⟩
theorem Pk {P:Program}{w:World}{K:PySem.W.Frag}{tg:Expr}(a it:Addr)(o:Obj)(kvs:List (Key×V))(es:Array DictEntry)(ep:Nat)(hd:o.data = .dict es ep):Yk P w K tg (Itd a o kvs) [it] it (fun i h=>h.IsKeyIter it a i kvs.length ep) where
 mem:=by simp
 obj:=fun i h st b hb=>by
  have e:b=it:=by simpa using hb
  subst e
  obtain⟨o,e,c,d⟩:=st
  exact⟨o,e,fun v z=>by rw[d] at z;cases z⟩
 keep:=fun i h h' st k=>st.at fun o e=>k it (by simp) o e
 item:=by
  intro X hP hw hK hc i pins s σ H E I hf st hg
  subst hP hw hK
  obtain⟨hH,hi⟩:=hg
  obtain⟨vs,rv,hat⟩:=Wa I hH hd
  have hl:kvs.length=vs.length:=Paired.length rv
  obtain⟨kv,hkv⟩:∃ kv,kvs[i]? = some kv:=⟨kvs[i],List.getElem?_eq_getElem hi⟩
  obtain⟨u,hu,_⟩:=KV.get rv hkv
  obtain⟨f0,f1,f2,f3,f4,f5⟩:=hf it (by simp)
  rw[hl] at st
  refine wpAny_pyNext_dict_item st hat hu fun key h' hkey hit' hs'=>?_
  have I1:Inv X pins σ H { s with heap:=h' }:=I.turned (t':=s.toks) (fun b o hb e=>(hs'.2 b hb).trans e) f0 f1 f3 f4 f5
  obtain⟨o',e,c,d⟩:=id hit'
  exact⟨key,rfl,Vl (s:={ s with heap:=h' }) e c d (by decide) ⟨kV kv.1,H,I1,ab9 hkey,⟨rfl,kv,hkv,rfl⟩,by rw[hl];exact hit',fun b hb=>(hf b hb).1⟩⟩
 done:=by
  intro X hP hw hK hc i pins s σ H E I hf st hg
  subst hP hw hK
  obtain⟨hH,hi⟩:=hg
  obtain⟨vs,rv,hat⟩:=Wa I hH hd
  have hl:kvs.length=vs.length:=Paired.length rv
  obtain⟨f0,f1,f2,f3,f4,f5⟩:=hf it (by simp)
  rw[hl] at st
  exact wpAny_pyNext_dict_end (I.ok.hd hc) st hat (List.getElem?_eq_none (by omega)) fun h' eb=>⟨rfl,I.turned (t':=s.toks) (fun b o hb e=>eb b o hb e) f0 f1 f3 f4 f5⟩
 self:=fun A i s Q E st hQ=>wpAny_pyIter_keyiter st hQ
theorem a81 {X:Cx}{tg:Expr}{pins:List (Addr×Obj)}{σ:St}{H:Hp}{s:Shared}{a:Addr}{kvs:List (Key×V)}{R:It->Hp->Prop}{E:Value->Shared->Prop}(I:Inv X pins σ H s)(h:H a=some (.dK kvs))(q:∀ o,R (Itd a o kvs) (upd H a (.frz o (.dK kvs)))) :
  wpAny (model X.prog X.w) X.A (pyIter (.ref a)) (PIE X pins σ tg R) E s:=by
 obtain⟨_,hs,vs,rv,o,es,ep,ho,c,hd,rest⟩:=I.hok a _ h
 have I1:=I.freeze h ho
 have hl:kvs.length=vs.length:=Paired.length rv
 refine wpAny_pyIter_dict (knd:=Am X.prog X.w) hs ⟨o,es,ho,c,hd,rest⟩ ?_
 rw[<- hl]
 refine⟨s.heap.objs.size,[s.heap.objs.size],_,_,_,rfl,I1.kept (t':=s.toks) fun b o e=>Heap.get?_push_of_some _ e,Pk a _ o kvs es ep hd,⟨_,Heap.get?_push_size _ rfl,rfl,rfl⟩,fun b hb=>?_,q o⟩
 have e:b=s.heap.objs.size:=by simpa using hb
 subst e
 exact I1.fpOk (Nat.le_refl _) (I1.hok.fresh (Nat.le_refl _))
theorem Yc {X:Cx}{tg:Expr}{pins:List (Addr×Obj)}{σ:St}{H:Hp}{s:Shared}{a:Addr}{kvs:List (Key×V)}{o:Obj}{R:It->Hp->Prop}{E:Value->Shared->Prop}(I:Inv X pins σ H s)(h:H a=some (.frz o (.dK kvs)))(q:R (Itd a o kvs) H) :
  wpAny (model X.prog X.w) X.A (pyIter (.ref a)) (PIE X pins σ tg R) E s:=by
 obtain⟨ho',_,hs,vs,rv,o',es,ep,ho,c,hd,rest⟩:=I.hok a _ h
 rw[ho'] at ho
 cases ho
 have hl:kvs.length=vs.length:=Paired.length rv
 refine wpAny_pyIter_dict (knd:=Am X.prog X.w) hs ⟨o,es,ho',c,hd,rest⟩ ?_
 rw[<- hl]
 refine⟨s.heap.objs.size,[s.heap.objs.size],_,_,_,rfl,I.kept (t':=s.toks) fun b o e=>Heap.get?_push_of_some _ e,Pk a _ o kvs es ep hd,⟨_,Heap.get?_push_size _ rfl,rfl,rfl⟩,fun b hb=>?_,q⟩
 have e:b=s.heap.objs.size:=by simpa using hb
 subst e
 exact I.fpOk (Nat.le_refl _) (I.hok.fresh (Nat.le_refl _))
theorem Same.seqT {K:PySem.W.Frag}{H H':Hp}{a:Addr}{xs:List V}(e:Same H H')(h:SqT K H a xs):SqT K H' a xs:=by
 rcases h with (h | ⟨o,h⟩) | h
 . exact .inl (.inl (e _ _ h))
 . exact .inl (.inr ⟨o,e _ _ h⟩)
 exact .inr h
mutual
def Is (K:PySem.W.Frag)(H:Hp):PyData->V->Prop
 | .none,v=>v = .non
 | .bool b,v=>v = .bl b
 | .int i,v=>v = .int i
 | .str x,v=>v = .str x
 | .list ds,v=>∃ a xs,v = .ref a/\SqL K H a xs/\IsL K H ds xs
 | .tuple ds,v=>∃ a xs,v = .ref a/\SqT K H a xs/\IsL K H ds xs
 | .dict _,_=>False
def IsL (K:PySem.W.Frag)(H:Hp):List PyData->List V->Prop
 | [],vs=>vs=[]
 | d :: ds,vs=>∃ v r,vs=v :: r/\Is K H d v/\IsL K H ds r
end
mutual
theorem Is.mono {K:PySem.W.Frag}{H H':Hp}(e:Same H H'):∀(d:PyData) (v:V),Is K H d v->Is K H' d v
 | .none,_,h=>by simp only[Is] at h ⊢;exact h
 | .bool _,_,h=>by simp only[Is] at h ⊢;exact h
 | .int _,_,h=>by simp only[Is] at h ⊢;exact h
 | .str _,_,h=>by simp only[Is] at h ⊢;exact h
 | .list ds,v,h=>by
   simp only[Is] at h ⊢
   obtain⟨a,xs,e1,e2,e3⟩:=h
   exact⟨a,xs,e1,e.seq e2,IsL.mono e ds xs e3⟩
 | .tuple ds,v,h=>by
   simp only[Is] at h ⊢
   obtain⟨a,xs,e1,e2,e3⟩:=h
   exact⟨a,xs,e1,e.seqT e2,IsL.mono e ds xs e3⟩
 | .dict _,_,h=>by simp only[Is] at h
theorem IsL.mono {K:PySem.W.Frag}{H H':Hp}(e:Same H H'):∀(ds:List PyData) (vs:List V),IsL K H ds vs->IsL K H' ds vs
 | [],_,h=>by simp only[IsL] at h ⊢;exact h
 | d :: ds,vs,h=>by
   simp only[IsL] at h ⊢
   obtain⟨v,r,e1,e2,e3⟩:=h
   exact⟨v,r,e1,Is.mono e d v e2,IsL.mono e ds r e3⟩
end
section
variable {X:Cx}{pins:List (Addr×Obj)}{σ:St}{H:Hp}{s:Shared}
mutual
theorem Is.reads (I:Inv X pins σ H s):∀(d:PyData) (v:V) (u:Value),Is X.K H d v->RelV v u->∃ as,Reads s.heap u d as
 | .none,v,u,i,r=>by
   simp only[Is] at i
   subst i
   cases r
   exact⟨_,.none⟩
 | .bool b,v,u,i,r=>by
   simp only[Is] at i
   subst i
   cases r
   exact⟨_,.bool b⟩
 | .int n,v,u,i,r=>by
   simp only[Is] at i
   subst i
   obtain⟨t,rfl⟩:=r
   exact⟨_,.int n t⟩
 | .str x,v,u,i,r=>by
   simp only[Is] at i
   subst i
   obtain⟨t,rfl⟩:=r
   exact⟨_,.str x t⟩
 | .list ds,v,u,i,r=>by
   simp only[Is] at i
   obtain⟨a,xs,rfl,e2,e3⟩:=i
   cases r
   obtain⟨its,rv,⟨o,n,e,hc,hd,hs⟩,_⟩:=I.list e2
   obtain⟨as,ra⟩:=IsL.reads I ds xs its e3 rv
   exact⟨_,.list e hc hs (by simpa using ra)⟩
 | .tuple ds,v,u,i,r=>by
   simp only[Is] at i
   obtain⟨a,xs,rfl,e2,e3⟩:=i
   cases r
   obtain⟨its,rv,⟨o,e,hc,n,hd⟩,_⟩:=I.tuple e2
   obtain⟨as,ra⟩:=IsL.reads I ds xs its e3 rv
   exact⟨_,.tuple e hc hd (by simpa using ra)⟩
 | .dict _,_,_,i,_=>by simp only[Is] at i
theorem IsL.reads (I:Inv X pins σ H s):∀(ds:List PyData) (vs:List V) (us:List Value),IsL X.K H ds vs->Vals vs us->∃ as,ReadsAll s.heap us ds as
 | [],vs,us,i,r=>by
   simp only[IsL] at i
   subst i
   cases r
   exact⟨_,.nil⟩
 | d :: ds,vs,us,i,r=>by
   simp only[IsL] at i
   obtain⟨v,rr,rfl,e2,e3⟩:=i
   cases r with
   | cons r1 r2=>
     obtain⟨a1,h1⟩:=Is.reads I d v _ e2 r1
     obtain⟨a2,h2⟩:=IsL.reads I ds rr _ e3 r2
     exact⟨_,.cons h1 h2⟩
end
end
theorem Vs {K:PySem.W.Frag}{H:Hp}:∀ ns:List Int,IsL K H (ns.map PyData.int) (ns.map V.int)
 | []=>by simp only[List.map_nil,IsL]
 | n :: r=>by
   simp only[List.map_cons,IsL]
   exact⟨_,_,rfl,by simp only[Is],Vs r⟩
theorem R4 {K:PySem.W.Frag}{H:Hp}:∀ ns:List Str,IsL K H (ns.map PyData.str) (ns.map V.str)
 | []=>by simp only[List.map_nil,IsL]
 | n :: r=>by
   simp only[List.map_cons,IsL]
   exact⟨_,_,rfl,by simp only[Is],R4 r⟩
theorem He {K:PySem.W.Frag}{H:Hp}{a:Addr}{ns:List Int}(h:SqL K H a (ns.map V.int)):Is K H (.list (ns.map PyData.int)) (.ref a):=by
 simp only[Is]
 exact⟨a,_,rfl,h,Vs ns⟩
structure QA (A:Around):Prop where
 un:A.units+150<cLine
 gd:A.guards=some []
theorem Ch {A:Around}{k:Nat}(hr:Room k A):QA A:=⟨by have:=hr.un;omega,hr.gd⟩
section
variable {X:Cx}
def Tq (K:PySem.W.Frag):R2:=fun x y H Q=>(∃ i j,x = .int i/\y = .int j/\Q (.int (i+j)) H)\/(∃ i j,x = .str i/\y = .str j/\i.length+j.length<=sizeLine/\Q (.str (i++j)) H)\/av5 x y H Q\/ak7 K x y H Q\/aj2 K x y H Q
theorem ad1:OpR X (binaryOp .Add) (Tq X.K):=op_add.or (op_add_str.or (op_cat.or (op_catT.or a71)))
def Z0:R2:=fun x y H Q=>(∃ i j,x = .int i/\y = .int j/\CMul i j/\Q (.int (i*j)) H)\/au2 x y H Q
theorem op_mulA:OpR X (binaryOp .Mult) Z0:=op_mul.or ak5
theorem Jw:OpR X (binaryOp .FloorDiv) (rI ar0 fun i j=>.int (i / j)):=a70
def aq2 (K:PySem.W.Frag)(neg:Bool):R2:=fun x y H Q=>∃ dx dy,Is K H dx x/\Is K H dy y/\SeqAt.shaped dx=true/\SeqAt.shaped dy=true/\Q (.bl (if neg then !PyData.eqv dx dy else PyData.eqv dx dy)) H
theorem af9 (hq:QA X.A):OpR X (compareOp .Eq) (aq2 X.K false):=by
 intro pins s σ H x y v u Q I rx ry h
 obtain⟨dx,dy,ix,iy,sx,sy,q⟩:=h
 obtain⟨as,ra⟩:=Is.reads I dx x v ix rx
 obtain⟨bs,rb⟩:=Is.reads I dy y u iy ry
 exact eq_dataH ra rb sx sy (by have:=hq.un;omega) ⟨.bl _,H,I,rfl,q⟩
theorem am2 (hq:QA X.A):OpR X (compareOp .NotEq) (aq2 X.K true):=by
 intro pins s σ H x y v u Q I rx ry h
 obtain⟨dx,dy,ix,iy,sx,sy,q⟩:=h
 obtain⟨as,ra⟩:=Is.reads I dx x v ix rx
 obtain⟨bs,rb⟩:=Is.reads I dy y u iy ry
 exact ne_dataH ra rb sx sy (by have:=hq.un;omega) ⟨.bl _,H,I,rfl,q⟩
def aq3 (K:PySem.W.Frag):R2:=fun x y H Q=>rEq x y H Q\/aq2 K false x y H Q
def ap4 (K:PySem.W.Frag):R2:=fun x y H Q=>rNe x y H Q\/aq2 K true x y H Q
theorem al0 (hq:QA X.A):OpR X (compareOp .Eq) (aq3 X.K):=op_eq.or (af9 hq)
theorem af4 (hq:QA X.A):OpR X (compareOp .NotEq) (ap4 X.K):=op_ne.or (am2 hq)
def rInT (neg:Bool):R2:=fun x y H Q=>∃ i j,x = .str i/\y = .str j/\Q (.bl (if neg then !(!(Builtin.Str.occurrences j i 0 j.length 1).isEmpty) else !(Builtin.Str.occurrences j i 0 j.length 1).isEmpty)) H
def as6 (neg:Bool):R2:=fun x y H Q=>∃ a o,y = .ref a/\DGet H a x o/\Q (.bl (if neg then !o.isSome else o.isSome)) H
theorem af2 (hu:X.A.units+1<cLine):OpR X (compareOp .In) (as6 false):=by
 intro pins s σ H x y v u Q I rx ry h
 obtain⟨a,o,rfl,g,q⟩:=h
 cases ry
 exact d_in hu I g rx fun s' I'=>⟨.bl _,H,I',rfl,q⟩
theorem Xe (hu:X.A.units+1<cLine):OpR X (compareOp .NotIn) (as6 true):=by
 intro pins s σ H x y v u Q I rx ry h
 obtain⟨a,o,rfl,g,q⟩:=h
 cases ry
 exact aa3 hu I g rx fun s' I'=>⟨.bl _,H,I',rfl,q⟩
def at3 (K:PySem.W.Frag)(neg:Bool):R2:=fun x y H Q=>∃ d ds,Is K H d x/\(Is K H (.list ds) y\/Is K H (.tuple ds) y)/\PyData.canLayAll0 ds=true/\d.canLay0=true/\d.depth<=100/\Q (.bl (if neg then !(ds.any fun e=>PyData.eqv e d) else ds.any fun e=>PyData.eqv e d)) H
theorem af3 (hq:QA X.A):OpR X (compareOp .In) (at3 X.K false):=by
 intro pins s σ H x y v u Q I rx ry h
 obtain⟨d,ds,ix,iy,h1,h2,h3,q⟩:=h
 obtain⟨bs,rb⟩:=Is.reads I d x v ix rx
 rcases iy with iy | iy
 . obtain⟨as,ra⟩:=Is.reads I _ y u iy ry
   exact SeqAt.in_list_reads ra rb h1 h2 (by have:=hq.un;have:=Nat.min_le_right (PyData.depthAll ds) d.depth;omega) ⟨.bl _,H,I,rfl,q⟩
 obtain⟨as,ra⟩:=Is.reads I _ y u iy ry
 exact SeqAt.in_tuple_reads ra rb h1 h2 (by have:=hq.un;have:=Nat.min_le_right (PyData.depthAll ds) d.depth;omega) ⟨.bl _,H,I,rfl,q⟩
theorem Um (hq:QA X.A):OpR X (compareOp .NotIn) (at3 X.K true):=by
 intro pins s σ H x y v u Q I rx ry h
 obtain⟨d,ds,ix,iy,h1,h2,h3,q⟩:=h
 obtain⟨bs,rb⟩:=Is.reads I d x v ix rx
 rcases iy with iy | iy
 . obtain⟨as,ra⟩:=Is.reads I _ y u iy ry
   exact SeqAt.notIn_list_reads ra rb h1 h2 (by have:=hq.un;have:=Nat.min_le_right (PyData.depthAll ds) d.depth;omega) ⟨.bl _,H,I,rfl,q⟩
 obtain⟨as,ra⟩:=Is.reads I _ y u iy ry
 exact SeqAt.notIn_tuple_reads ra rb h1 h2 (by have:=hq.un;have:=Nat.min_le_right (PyData.depthAll ds) d.depth;omega) ⟨.bl _,H,I,rfl,q⟩
def Xi (K:PySem.W.Frag)(neg:Bool):R2:=fun x y H Q=>rIn K neg x y H Q\/rInT neg x y H Q\/as6 neg x y H Q\/at3 K neg x y H Q
theorem QA.hu {A:Around}(h:QA A):A.units+1<cLine:=by have:=h.un;omega
theorem an1 (hq:QA X.A):OpR X (compareOp .In) (Xi X.K false):=op_in_seq.or (op_in_str.or ((af2 hq.hu).or (af3 hq)))
theorem Vp (hq:QA X.A):OpR X (compareOp .NotIn) (Xi X.K true):=op_notIn_seq.or (op_notIn_str.or ((Xe hq.hu).or (Um hq)))
def aq1 (K:PySem.W.Frag):V->Option Int->Option Int->Hp->VK->Prop:=fun x lo hi H Q=>au3 K x lo hi H Q\/au5 K x lo hi H Q\/av8 x lo hi H Q\/aw0 K x lo hi H Q
theorem sl_A:SlR X (aq1 X.K):=sl_list.or (sl_tup.or (sl_str.or Yi))
def at9:R2:=fun x y H Q=>∃ a v,x = .ref a/\DGet H a y (some v)/\Q v H
theorem ab7 (hu:X.A.units+1<cLine):IxR X at9:=by
 intro value slice pins s σ H x y v u Q I rx ry h hs
 obtain⟨a,z,rfl,g,q⟩:=h
 cases rx
 exact tail_any (Re I g) PySem.F.slot_dict_getitem.lookup (Xq hu I g ry fun w' s' I' rw'=>⟨z,H,I',rw',q⟩) hs
def Uh (K:PySem.W.Frag):R2:=fun x y H Q=>rIx K x y H Q\/at9 x y H Q
theorem ae4 (hu:X.A.units+1<cLine):IxR X (Uh X.K):=ix_seq.or (ab7 hu)
def Tx (K:PySem.W.Frag):List V->Hp->VK->Prop:=fun xs H Q=>(∃ x n,xs=[x]/\av0 K x H n/\Q (.int n) H)\/∃ a kvs,xs=[V.ref a]/\H a=some (.dK kvs)/\Q (.int kvs.length) H
theorem W3:CallR X (.builtin "len") (Tx X.K):=call_len.or Xj
def Oc (K:PySem.W.Frag):List V->Hp->VK->Prop:=fun xs H Q=>(∃ x c t b,xs=[x,.ty c]/\TyOf K H x t/\PySem.W.kitOne K t (.type c)=some b/\Q (.bl b) H)\/(∃ x c t b,xs=[x,.ref c]/\TyOf K H x t/\PySem.W.kitOne K t (.ref c)=some b/\Q (.bl b) H)\/∃ a ys c b,xs=[V.ref a,.ty c]/\((SqT K H a ys/\PySem.W.kitOne K (.type "tuple") (.type c)=some b)\/(SqL K H a ys/\PySem.W.kitOne K (.type "list") (.type c)=some b))/\Q (.bl b) H
theorem Qs:CallR X (.builtin "isinstance") (Oc X.K):=call_isinst.or (call_isinstR.or Qb)
def Vk (K:PySem.W.Frag):List V->Hp->VK->Prop:=fun xs H Q=>∃ p ys,xs=[.ref p]/\(SqL K H p ys\/SqT K H p ys)/\∀ l,H l=none->Q (.ref l) (upd H l (.lst ys))
theorem Te:CallR X (.type "list") (Vk X.K):=Ph
def Kh (K:PySem.W.Frag):List V->Hp->VK->Prop:=fun xs H Q=>∃ p ys,xs=[.ref p]/\((SqL K H p ys/\∀ l,H l=none->Q (.ref l) (upd H l (.tup ys)))\/(SqT K H p ys/\Q (.ref p) H))
theorem Rc:CallR X (.type "tuple") (Kh X.K):=Nw
def am3:List V->Hp->VK->Prop:=fun xs H Q=>(∃ b,xs=[.bl b]/\Q (.str (if b then "True" else "False")) H)\/(xs=[.non]/\Q (.str "None") H)
theorem Mv:CallR X (.builtin "repr") am3:=Tm
def ak0:List V->Hp->VK->Prop:=fun xs H Q=>(∃ i,xs=[.int i]/\Q (.int i) H)\/∃ k,xs=[.bl k]/\Q (.int (if k then 1 else 0)) H
theorem Uu:CallR X (.type "int") ak0:=Wn
def a72 (K:PySem.W.Frag):List V->Hp->VK->Prop:=fun xs H Q=>∃(a:Addr) (bs:List Bool),xs=[.ref a]/\SqL K H a (bs.map V.bl)/\Q (.bl (bs.all id)) H
theorem Wy (hc:X.calm=true):CallR X (.builtin "all") (a72 X.K):=Yw hc
variable {tg:Expr}
def Ih (K:PySem.W.Frag)(x:V)(H1:Hp)(R:It->Hp->Prop):Prop:=(∃ a,x = .ref a/\(∃ xs,SqL K H1 a xs)/\R (Itl K a) H1)\/(∃ a,x = .ref a/\(∃ xs,SqT K H1 a xs)/\R (Itt K a) H1)\/(∃ z,x = .str z/\R (Its z) H1)\/∃ a kvs,x = .ref a/\((H1 a=some (.dK kvs)/\∀ o,R (Itd a o kvs) (upd H1 a (.frz o (.dK kvs))))\/∃ o,H1 a=some (.frz o (.dK kvs))/\R (Itd a o kvs) H1)
def as2 (K:PySem.W.Frag)(tl:TE):TI:=fun σ H R=>tl σ H fun x H1=>Ih K x H1 R
theorem ai3 (hu:X.A.units+1<cLine){l:Expr}{tl:TE}(hl:PE X l tl):PI X tg l (as2 X.K tl):=by
 intro pins s σ H R I h
 refine thn (hl pins s σ H _ I h) fun v s1 ⟨x,H1,I1,r1,q1⟩=>?_
 rcases q1 with ⟨a,e,⟨xs,hq⟩,q⟩ | ⟨a,e,⟨xs,hq⟩,q⟩ | ⟨z,e,q⟩ | ⟨a,kvs,e,q⟩
 . subst e
   cases r1
   obtain⟨its,rv,p,hz⟩:=I1.list hq
   refine wpAny_pyIter_list p.isList ?_
   refine⟨s1.heap.objs.size,[s1.heap.objs.size],_,_,H1,rfl,I1.kept (t':=s1.toks) fun b o e=>Heap.get?_push_of_some _ e,Xg a _,⟨_,Heap.get?_push_size _ rfl,rfl,rfl⟩,fun b hb=>?_,q⟩
   have e:b=s1.heap.objs.size:=by simpa using hb
   subst e
   exact I1.fpOk (Nat.le_refl _) (I1.hok.fresh (Nat.le_refl _))
 . subst e
   cases r1
   obtain⟨its,rv,p,hz⟩:=I1.tuple hq
   refine wpAny_pyIter_tuple (show s1.heap.IsTuple a its.toArray from p) ?_
   refine⟨s1.heap.objs.size,[s1.heap.objs.size],_,_,H1,rfl,I1.kept (t':=s1.toks) fun b o e=>Heap.get?_push_of_some _ e,Tp a _,⟨_,Heap.get?_push_size _ rfl,rfl,rfl⟩,fun b hb=>?_,q⟩
   have e:b=s1.heap.objs.size:=by simpa using hb
   subst e
   exact I1.fpOk (Nat.le_refl _) (I1.hok.fresh (Nat.le_refl _))
 . subst e
   exact ah6 I1 r1 q
 subst e
 cases r1
 rcases q with ⟨hd,q⟩ | ⟨o,hd,q⟩
 . exact a81 I1 hd q
 exact Yc I1 hd q
end
def Fnd (P:Program)(w:World)(K:PySem.W.Frag)(mg:Str->Option Value)(base:Heap)(k:Nat)(x:Str)(ps:List Str)(sp:Sp):Prop:=
 ∃ f fd,FnOk P w K mg base CX0 k f fd ps sp/\mg x=some (.ref f)/\PySem.W.keepIn K (.ref f)=true/\Binds K fd ps []
section
variable {X:Cx}{k:Nat}{x:Str}{ps:List Str}{sp:Sp}{e:Expr}{es:List Expr}{t:TA}{p pos:Pos}
theorem Bi (F:Fnd X.prog X.w X.K X.mg X.base k x ps sp)(hr:Room k X.A)(hg:Gl X x)(ha:PA X (e :: es) t)(hdb:(x==("__debug__":Str))=false:=by decide)
  (he:starEach (e :: es) X.env=(false,eval e X.env) :: starEach es X.env:=by ac_nf) (hpl:(backTo pos (starEach es X.env)).any (·.1)=false:=by ac_nf):PE X (.Call (.Name x p) (e :: es) [] pos) (Ur sp [] E0 t):=by
 obtain⟨f,fd,h1,h2,h3,h4⟩:=F
 exact Wf h1 hr hg h2 h3 h4 .nil Zi ha hdb he hpl
end
def ExtBut (d:Addr)(H H':Hp):Prop:=∀ b o,b≠d->H b=some o->H' b=some o
theorem Same.lk {H H':Hp}{a:Addr}{o:HO}(e:Same H H')(h:H a=some o):H' a=some o:=e a o h
theorem ExtBut.lk {d:Addr}{H H':Hp}{a:Addr}{o:HO}(e:ExtBut d H H')(h:H a=some o)(n:a≠d):H' a=some o:=e a o n h
theorem Same.upd {H:Hp}{p:Addr}{o:HO}(h:H p=none):Same H (upd H p o):=fun b u e=>by rw[Ar (ne_of_none e h)];exact e
theorem ExtBut.upd {H:Hp}{p:Addr}{o:HO}:ExtBut p H (upd H p o):=fun b u n e=>by rw[Ar n];exact e
theorem Same.but {d:Addr}{H H':Hp}(e:Same H H'):ExtBut d H H':=fun b o _ h=>e b o h
theorem ExtBut.trans {d:Addr}{H H1 H2:Hp}(a:ExtBut d H H1)(b:ExtBut d H1 H2):ExtBut d H H2:=fun c o n h=>b c o n (a c o n h)
theorem ExtBut.same {d:Addr}{H H1 H2:Hp}(a:ExtBut d H H1)(b:Same H1 H2):ExtBut d H H2:=fun c o n h=>b c o (a c o n h)
theorem ExtBut.refl {d:Addr}{H:Hp}:ExtBut d H H:=fun _ _ _ h=>h
def af0 (xs:List V)(H:Hp)(Q:VK):Prop:=xs.length<=sizeLine/\∀ p,H p=none->Q (.ref p) (upd H p (.tup xs))
def ag6 (xs:List V)(H:Hp)(Q:VK):Prop:=xs.length<=sizeLine/\∀ p,H p=none->Q (.ref p) (upd H p (.lst xs))
def ak8 (vs:List V)(H:Hp)(R:It->Hp->Prop):Prop:=∃ j:Int,vs=[.int j] /\ -(2 ^ 62)<=j/\j<2 ^ 62/\R (Itr 0 j.toNat) H
def ai8 (vs:List V)(H:Hp)(R:It->Hp->Prop):Prop:=∃ i j:Int,vs=[.int i,.int j]/\(-(2 ^ 62)<=i/\i<2 ^ 62 /\ -(2 ^ 62)<=j/\j<2 ^ 62)/\R (Itr i (j-i).toNat) H
def aa9 (g:TG)(tb:TS)(D:Ends)(σ:St)(J:It)(H1:Hp):Prop:=∃ W:Nat->Nat->St->Hp->Prop,(∃ m,W 0 m σ H1)/\∀ i m σ H,W i m σ H ->
 (J.stop i H/\D.nx σ H)\/(J.go i H/\∃ N:St->Hp->Prop,(∀ σ' H',N σ' H'->∃ m',m'<m/\W (i+1) m' σ' H')/\∀ x H',J.yld i H x H'->g x σ H' fun σ2 H2=>tb { D with nx:=N,ct:=N,bk:=D.nx } σ2 H2)
def Rb (k:Nat)(js:List Nat)(g:TG)(tt:TT)(te:TE)(σ:St)(J:It)(H1:Hp)(Q:VK):Prop:=∀ p,H1 p=none ->
 ∃ W:Nat->Nat->Hp->Prop,(∃ m,W 0 m (upd H1 p (.lst [])))/\∀ i m H,W i m H ->
  (J.stop i H/\Q (.ref p) H)\/(J.go i H/\∃ N:Hp->Prop,(∀ H',N H'->∃ m',m'<m/\W (i+1) m' H') /\
   ∀ x H',J.yld i H x H'->g x (List.replicate k none++Mo σ js) H' fun σ2 H2=>tt σ2 H2 fun b H3=>
    if b=true then te σ2 H3 fun y H4=>∃ acc,H4 p=some (.lst acc)/\acc.length<sizeLine/\N (upd H4 p (.lst (acc++[y]))) else N H3)
def a46 (p:Addr)(ps:List (V×V))(H:Hp)(Q:VK):Prop:=H p=some (.dK [])/\∃ kvs:List (Key×V),ps=kvs.map (fun kv=>(kV kv.1,kv.2))/\kvs.length<=15/\Q (.ref p) (upd H p (.dK (Ez [] kvs)))
section
variable {K:PySem.W.Frag}{σ:St}{H:Hp}{Q:VK}{D:Ends}{ta tb te:TE}{c:TT}{t u:TS}{x y v:V}{i j:Int}
theorem i_var {n:Nat}(h:σ[n]? = some (some v))(k:Q v H):as8 n σ H Q:=⟨v,h,k⟩
theorem i_c (k:Q v H):tC v σ H Q:=k
theorem i_next (k:D.nx σ H):am4 D σ H:=k
theorem i_ret (k:te σ H D.rt):au7 te D σ H:=k
theorem i_drop (k:te σ H fun _ H1=>D.nx σ H1):ak6 te D σ H:=k
theorem i_asg {g:TG}(k:te σ H fun x H1=>g x σ H1 D.nx):ai2 te g D σ H:=k
theorem i_gname {n:Nat}{R:St->Hp->Prop}(k:R (σ.set n (some v)) H):Js n v σ H R:=k
theorem i_if (k:c σ H fun b H1=>if b=true then t D σ H1 else u D σ H1):au4 c t u D σ H:=k
theorem i_op {r:R2}(k:ta σ H fun x H1=>tb σ H1 fun y H2=>r x y H2 Q):tOp r ta tb σ H Q:=k
theorem i_un {r:V->Hp->VK->Prop}(k:ta σ H fun x H1=>r x H1 Q):tUn r ta σ H Q:=k
theorem i_rU {g:Int->V}(k:Q (g i) H):rU g (.int i) H Q:=⟨i,rfl,k⟩
theorem i_rI0 {g:Int->Int->V}(k:Q (g i j) H):rI0 g (.int i) (.int j) H Q:=⟨i,j,rfl,rfl,k⟩
theorem i_rI {C:Int->Int->Prop}{g:Int->Int->V}(h:C i j)(k:Q (g i j) H):rI C g (.int i) (.int j) H Q:=⟨i,j,rfl,rfl,h,k⟩
theorem i_addI (k:Q (.int (i+j)) H):Tq K (.int i) (.int j) H Q:=.inl ⟨i,j,rfl,rfl,k⟩
theorem i_addS {a b:Str}(h:a.length+b.length<=sizeLine)(k:Q (.str (a++b)) H):Tq K (.str a) (.str b) H Q:=.inr (.inl ⟨a,b,rfl,rfl,h,k⟩)
theorem Su {a b:Addr}{xs ys:List V}(h1:H a=some (.lst xs))(h2:H b=some (.lst ys))(h:xs.length+ys.length<=sizeLine)(k:∀ p H',H p=none->Same H H'->H' p=some (.lst (xs++ys))->Q (.ref p) H'):Tq K (.ref a) (.ref b) H Q:=
 .inr (.inr (.inl ⟨a,b,xs,ys,rfl,rfl,h1,h2,h,fun p hp=>k p _ hp (Same.upd hp) Ab⟩))
theorem ag7 (h:CMul i j)(k:Q (.int (i*j)) H):Z0 (.int i) (.int j) H Q:=.inl ⟨i,j,rfl,rfl,h,k⟩
theorem ag8 {a:Addr}{xs:List V}(h1:H a=some (.lst xs))(h2:-(2 ^ 63)<=i/\i<2 ^ 63)(h3:xs.length*i.toNat<=sizeLine)(k:∀ p H',H p=none->Same H H'->H' p=some (.lst (List.replicate i.toNat xs).flatten)->Q (.ref p) H'):Z0 (.ref a) (.int i) H Q:=
 .inr ⟨a,i,xs,rfl,rfl,h1,h2.1,h2.2,h3,fun p hp=>k p _ hp (Same.upd hp) Ab⟩
theorem i_eqS (h:ap8 x y=true)(k:Q (.bl (decide (x=y))) H):aq3 K x y H Q:=.inl ⟨h,k⟩
theorem i_neS (h:ap8 x y=true)(k:Q (.bl (!decide (x=y))) H):ap4 K x y H Q:=.inl ⟨h,k⟩
theorem Z1 {dx dy:PyData}(h1:Is K H dx x)(h2:Is K H dy y)(h3:SeqAt.shaped dx=true)(h4:SeqAt.shaped dy=true)(k:Q (.bl (PyData.eqv dx dy)) H):aq3 K x y H Q:=.inr ⟨dx,dy,h1,h2,h3,h4,k⟩
theorem Wh {dx dy:PyData}(h1:Is K H dx x)(h2:Is K H dy y)(h3:SeqAt.shaped dx=true)(h4:SeqAt.shaped dy=true)(k:Q (.bl (!PyData.eqv dx dy)) H):ap4 K x y H Q:=.inr ⟨dx,dy,h1,h2,h3,h4,k⟩
theorem i_true {R:Bool->Hp->Prop}(k:R true H):Y1 σ H R:=k
theorem i_tTest {R:Bool->Hp->Prop}(k:te σ H fun x H'=>∃ b,x = .bl b/\R b H'):an8 te σ H R:=k
theorem i_tB {R:Bool->Hp->Prop}(k:te σ H fun x H'=>∃ b,x = .bl b/\R b H'):tB te σ H R:=k
theorem i_bl {b:Bool}{R:Bool->Prop}(k:R b):∃ c,V.bl b = .bl c/\R c:=⟨b,rfl,k⟩
theorem i_not {R:Bool->Hp->Prop}(k:c σ H fun b H1=>R (!b) H1):au1 c σ H R:=k
theorem i_and {c':TT}{R:Bool->Hp->Prop}(k:c σ H fun b H1=>if b=true then c' σ H1 R else R false H1):av3 c c' σ H R:=k
theorem i_or {c':TT}{R:Bool->Hp->Prop}(k:c σ H fun b H1=>if b=true then R true H1 else c' σ H1 R):tOr c c' σ H R:=k
theorem Im {a:Addr}{xs:List V}(h:H a=some (.lst xs))(e:atI xs i=some v)(k:Q v H):Uh K (.ref a) (.int i) H Q:=.inl (.inl ⟨a,xs,i,v,rfl,rfl,SqL.of h,e,k⟩)
theorem a84 {z:Str}{s:Nat}(h:z.length<=sizeLine)(e:atI z.cps.toList i=some s)(k:Q (.str ⟨#[s]⟩) H):Uh K (.str z) (.int i) H Q:=.inl (.inr (.inr ⟨z,i,s,rfl,rfl,h,e,k⟩))
theorem i_ixD {a:Addr}{kvs:List (Key×V)}{z:Str}(h:H a=some (.dK kvs))(e:Di kvs (Sum.inr z:Key)=some v)(k:Q v H):Uh K (.ref a) (.str z) H Q:=.inr ⟨a,v,rfl,by rw[<- e];exact DGet.k (k:=Sum.inr z) h,k⟩
theorem i_lenL {a:Addr}{xs:List V}(h:H a=some (.lst xs))(k:Q (.int xs.length) H):Tx K [.ref a] H Q:=.inl ⟨.ref a,_,rfl,.inl ⟨xs,SqL.of h,rfl⟩,k⟩
theorem i_lenS {z:Str}(h:z.length<=sizeLine)(k:Q (.int z.length) H):Tx K [.str z] H Q:=.inl ⟨.str z,_,rfl,⟨h,rfl⟩,k⟩
theorem Ym {c:String}{t:Value}{b:Bool}(h:TyOf K H x t)(e:PySem.W.kitOne K t (.type c)=some b)(k:Q (.bl b) H):Oc K [x,.ty c] H Q:=.inl ⟨x,c,t,b,rfl,h,e,k⟩
theorem X0 {c:String}{b:Bool}{a:Addr}{ys:List V}(h:SqT K H a ys)(e:PySem.W.kitOne K (.type "tuple") (.type c)=some b)(k:Q (.bl b) H):Oc K [.ref a,.ty c] H Q:=.inr (.inr ⟨a,ys,c,b,rfl,.inl ⟨h,e⟩,k⟩)
theorem a80 {a:Addr}{xs:List V}(h:SqL K H a xs)(k:∀ p H',H p=none->Same H H'->H' p=some (.lst xs)->Q (.ref p) H'):Vk K [.ref a] H Q:=⟨a,xs,rfl,.inl h,fun p hp=>k p _ hp (Same.upd hp) Ab⟩
theorem G6 {a:Addr}{xs:List V}(h:SqL K H a xs)(k:∀ p H',H p=none->Same H H'->H' p=some (.tup xs)->Q (.ref p) H'):Kh K [.ref a] H Q:=⟨a,xs,rfl,.inl ⟨h,fun p hp=>k p _ hp (Same.upd hp) Ab⟩⟩
theorem i_intB {b:Bool}(k:Q (.int (if b then 1 else 0)) H):ak0 [.bl b] H Q:=.inr ⟨b,rfl,k⟩
theorem aj5 {a:Addr}{bs:List Bool}(h:SqL K H a (bs.map V.bl))(k:Q (.bl (bs.all id)) H):a72 K [.ref a] H Q:=⟨a,bs,rfl,h,k⟩
theorem i_sl {r:V->Option Int->Option Int->Hp->VK->Prop}{tl th:TO}(k:te σ H fun x H1=>tl σ H1 fun l H2=>th σ H2 fun u H3=>r x l u H3 Q):tSl r te tl th σ H Q:=k
theorem i_noPart {R:Option Int->Hp->Prop}(k:R none H):Us σ H R:=k
theorem i_part {R:Option Int->Hp->Prop}(k:te σ H fun x H1=>∃ i,x = .int i/\R (some i) H1):al3 te σ H R:=k
theorem i_int {R:Int->Prop}(k:R i):∃ j,V.int i = .int j/\R j:=⟨i,rfl,k⟩
theorem i_slS {z:Str}{lo hi:Option Int}(h:z.length<=sizeLine)(k:Q (.str (Txt.slice z lo hi)) H):aq1 K (.str z) lo hi H Q:=.inr (.inr (.inl ⟨z,rfl,h,k⟩))
theorem Wb {a:Addr}{xs:List V}{lo hi:Option Int}(h:SqL K H a xs)(k:∀ p H',H p=none->Same H H'->H' p=some (.lst (Rk xs lo hi))->Q (.ref p) H'):aq1 K (.ref a) lo hi H Q:=.inl ⟨a,xs,rfl,h,fun p hp=>k p _ hp (Same.upd hp) Ab⟩
theorem i_inS {a b:Str}(k:Q (.bl (!(Builtin.Str.occurrences b a 0 b.length 1).isEmpty)) H):Xi K false (.str a) (.str b) H Q:=.inr (.inl ⟨a,b,rfl,rfl,k⟩)
theorem i_bm {T:String}{r:V->List V->Hp->VK->Prop}{ts:TA}(k:te σ H fun x H1=>tyV K T x H1/\ts σ H1 fun xs H2=>r x xs H2 Q):tBM K T r te ts σ H Q:=k
theorem i_bm0 {T:String}{r:V->List V->Hp->VK->Prop}(k:te σ H fun x H1=>tyV K T x H1/\r x [] H1 Q):at4 K T r te σ H Q:=k
theorem i_call {sp:Sp}{E:XK}{ts:TA}(k:ts σ H fun vs H1=>sp (vs++[]) H1 Q E):Ur sp [] E ts σ H Q:=k
theorem i_cb {r:List V->Hp->VK->Prop}{ts:TA}(k:ts σ H fun vs H1=>r vs H1 Q):tCB r ts σ H Q:=k
theorem i_cons {tr:TA}{R:List V->Hp->Prop}(k:ta σ H fun x H1=>tr σ H1 fun xs H2=>R (x :: xs) H2):ah8 ta tr σ H R:=k
theorem i_nil {R:List V->Hp->Prop}(k:R [] H):ae9 σ H R:=k
theorem i_tup {ts:TA}(k:ts σ H fun xs H1=>af0 xs H1 Q):av7 ts σ H Q:=k
theorem i_lst {ts:TA}(k:ts σ H fun xs H1=>ag6 xs H1 Q):au0 ts σ H Q:=k
theorem Au {xs:List V}(h:xs.length<=sizeLine)(k:∀ p H',H p=none->Same H H'->H' p=some (.tup xs)->Q (.ref p) H'):af0 xs H Q:=⟨h,fun p hp=>k p _ hp (Same.upd hp) Ab⟩
theorem De {xs:List V}(h:xs.length<=sizeLine)(k:∀ p H',H p=none->Same H H'->H' p=some (.lst xs)->Q (.ref p) H'):ag6 xs H Q:=⟨h,fun p hp=>k p _ hp (Same.upd hp) Ab⟩
theorem T8 (k:∀ p H',H p=none->Same H H'->H' p=some (.dK [])->Q (.ref p) H'):Zv σ H Q:=fun p hp=>k p _ hp (Same.upd hp) Ab
theorem i_put {td ty tv:TE}(k:tv σ H fun v H1=>td σ H1 fun x H2=>ty σ H2 fun y H3=>∃ a H4,x = .ref a/\DPut H3 a y v H4/\D.nx σ H4):ap0 td ty tv D σ H:=k
theorem Gs {a:Addr}{kvs:List (Key×V)}{z:Str}{R:Hp->Prop}(h:H a=some (.dK kvs))(hl:kvs.length<1000)(k:∀ H',ExtBut a H H'->H' a=some (.dK (Gh kvs (Sum.inr z) v))->R H'):∃ b H4,V.ref a = .ref b/\DPut H b (.str z) v H4/\R H4:=
 ⟨a,_,rfl,DPut.k (k:=Sum.inr z) h (Wt (Nat.le_of_lt hl)),k _ ExtBut.upd Ab⟩
theorem i_for {wi:TI}{g:TG}{tb:TS}(k:wi σ H fun J H1=>aa9 g tb D σ J H1):at7 wi g tb D σ H:=k
theorem i_comp {m:Nat}{js:List Nat}{wi:TI}{g:TG}{tt:TT}(k:wi σ H fun J H1=>Rb m js g tt te σ J H1 Q):ac9 m js wi g tt te σ H Q:=k
theorem i_itS {z:Str}{R:It->Hp->Prop}(k:R (Its z) H):Ih K (.str z) H R:=.inr (.inr (.inl ⟨z,rfl,k⟩))
theorem Tv {a:Addr}{xs:List V}{R:It->Hp->Prop}(h:SqL K H a xs)(k:R (Itl K a) H):Ih K (.ref a) H R:=.inl ⟨a,rfl,⟨xs,h⟩,k⟩
theorem Kf {a:Addr}{xs:List V}{R:It->Hp->Prop}(h:SqT K H a xs)(k:R (Itt K a) H):Ih K (.ref a) H R:=.inr (.inl ⟨a,rfl,⟨xs,h⟩,k⟩)
theorem i_rng1 {ts:TA}{R:It->Hp->Prop}(k:ts σ H fun vs H1=>ak8 vs H1 R):ai1 ts σ H R:=k
theorem T0 {R:It->Hp->Prop}(h:-(2 ^ 62)<=i/\i<2 ^ 62)(k:R (Itr 0 i.toNat) H):ak8 [V.int i] H R:=⟨i,rfl,h.1,h.2,k⟩
theorem i_rng2 {ts:TA}{R:It->Hp->Prop}(k:ts σ H fun vs H1=>ai8 vs H1 R):am1 ts σ H R:=k
theorem ao4 {R:It->Hp->Prop}(h:(-(2 ^ 62)<=i/\i<2 ^ 62) /\ -(2 ^ 62)<=j/\j<2 ^ 62)(k:R (Itr i (j-i).toNat) H):ai8 [V.int i,V.int j] H R:=⟨i,j,rfl,⟨h.1.1,h.1.2,h.2.1,h.2.2⟩,k⟩
theorem i_iany {R:It->Hp->Prop}(k:te σ H fun x H1=>Ih K x H1 R):as2 K te σ H R:=k
theorem Sm {trs:List (TE×TE)}(k:∀ p H1,H p=none->Same H H1->H1 p=some (.dK [])->Ke trs σ H1 fun ps H2=>a46 p ps H2 Q):ao2 trs σ H Q:=fun p hp=>k p _ hp (Same.upd hp) Ab
theorem i_pair {tk tv:TE}{r:List (TE×TE)}{R:List (V×V)->Hp->Prop}(k:tk σ H fun x H1=>tv σ H1 fun y H2=>Ke r σ H2 fun ps H3=>R ((x,y) :: ps) H3):Ke ((tk,tv) :: r) σ H R:=k
theorem Nt {p:Addr}{ps:List (V×V)}(kvs:List (Key×V))(h:H p=some (.dK []))(e:ps=kvs.map (fun kv=>(kV kv.1,kv.2)))(hl:kvs.length<=15)(k:∀ H',ExtBut p H H'->H' p=some (.dK (Ez [] kvs))->Q (.ref p) H'):a46 p ps H Q:=⟨h,kvs,e,hl,k _ ExtBut.upd Ab⟩
theorem i_pair0 {R:List (V×V)->Hp->Prop}(k:R [] H):Ke [] σ H R:=k
end
theorem G4 {c A B:Prop}[Decidable c](h1:c->A)(h2:¬ c->B):if decide c=true then A else B:=by
 by_cases h:c
 . rw[if_pos (decide_eq_true h)];exact h1 h
 rw[if_neg (by rw[decide_eq_false h];exact Bool.false_ne_true)];exact h2 h
theorem W8 {c A B:Prop}[Decidable c](h1:¬ c->A)(h2:c->B):if(!decide c)=true then A else B:=by
 by_cases h:c
 . rw[decide_eq_true h,if_neg (by decide)];exact h2 h
 rw[decide_eq_false h,if_pos (by decide)];exact h1 h
theorem ap9 {b:Bool}{A B:Prop}(h1:b=true->A)(h2:b=false->B):if b=true then A else B:=by
 cases b
 . rw[if_neg Bool.false_ne_true];exact h2 rfl
 rw[if_pos rfl];exact h1 rfl
theorem aj0 {b:Bool}{A B:Prop}(h1:b=false->A)(h2:b=true->B):if(!b)=true then A else B:=by
 cases b
 . exact h1 rfl
 exact h2 rfl
theorem iteNT {A B:Prop}(h:B):if(!true)=true then A else B:=h
theorem iteNF {A B:Prop}(h:A):if(!false)=true then A else B:=h
theorem A9 {n:Nat}(h:n<=1000000):n<=sizeLine:=by rw[sizeLine_eq];omega
def Gc (J:It)(xs:List V)(G:Hp->Prop):Prop:=
 ∀ i H,G H->(i<xs.length->J.go i H)/\(xs.length<=i->J.stop i H)/\∀ x H',i<xs.length->J.yld i H x H'->H'=H/\xs[i]? = some x
theorem Zh (z:Str):Gc (Its z) (z.cps.toList.map fun c=>.str ⟨#[c]⟩) fun _=>True:=by
 intro i H _
 refine⟨fun h=>?_,fun h=>?_,fun x H' _ h=>?_⟩
 . show i<z.cps.size
   simpa using h
 . show z.cps.size<=i
   simpa using h
 obtain⟨e,c,hc,rfl⟩:=h
 refine⟨e,?_⟩
 rw[List.getElem?_map,Array.getElem?_toList,hc]
 rfl
theorem Fu {K:PySem.W.Frag}{a:Addr}{xs:List V}:Gc (Itl K a) xs fun H=>SqL K H a xs:=by
 intro i H g
 refine⟨fun h=>⟨xs,xs[i],g,List.getElem?_eq_getElem h⟩,fun h=>⟨xs,g,h⟩,fun x H' _ h=>⟨h.1,h.2 xs g⟩⟩
theorem Da {K:PySem.W.Frag}{a:Addr}{xs:List V}:Gc (Itt K a) xs fun H=>SqT K H a xs:=by
 intro i H g
 refine⟨fun h=>⟨xs,xs[i],g,List.getElem?_eq_getElem h⟩,fun h=>⟨xs,g,h⟩,fun x H' _ h=>⟨h.1,h.2 xs g⟩⟩
theorem Fx {lo:Int}{n:Nat}:Gc (Itr lo n) ((List.range n).map fun(i:Nat)=>V.int (lo+(i:Int))) fun _=>True:=by
 intro i H _
 refine⟨fun h=>?_,fun h=>?_,fun x H' hi h=>?_⟩
 . show i<n
   simpa using h
 . show n<=i
   simpa using h
 obtain⟨e,hx⟩:=h
 refine⟨e,?_⟩
 have hi':i<n:=by simpa using hi
 rw[List.getElem?_map,List.getElem?_range hi',hx]
 rfl
theorem Yf {J:It}{xs:List V}{G:Hp->Prop}{g:TG}{tb:TS}{D:Ends}{σ:St}{H:Hp}(hw:Gc J xs G)(Pv:Nat->St->Hp->Prop)(h0:Pv 0 σ H)(hG:∀ i σ H,Pv i σ H->G H)
  (hs:∀ i x σ H,xs[i]? = some x->Pv i σ H->g x σ H fun σ2 H2=>tb { D with nx:=Pv (i+1),ct:=Pv (i+1),bk:=D.nx } σ2 H2) (hd:∀ σ H,Pv xs.length σ H->D.nx σ H) :
  ∃ W:Nat->Nat->St->Hp->Prop,(∃ m,W 0 m σ H)/\∀ i m σ H,W i m σ H ->
   (J.stop i H/\D.nx σ H)\/(J.go i H/\∃ N:St->Hp->Prop,(∀ σ' H',N σ' H'->∃ m',m'<m/\W (i+1) m' σ' H')/\∀ x H',J.yld i H x H'->g x σ H' fun σ2 H2=>tb { D with nx:=N,ct:=N,bk:=D.nx } σ2 H2):=by
 refine⟨fun i m σ H=>m=xs.length-i/\i<=xs.length/\Pv i σ H,⟨xs.length,by simp,Nat.zero_le _,h0⟩,?_⟩
 rintro i m σ H ⟨rfl,hi,p⟩
 obtain⟨w1,w2,w3⟩:=hw i H (hG i σ H p)
 by_cases hlt:i<xs.length
 . refine .inr ⟨w1 hlt,Pv (i+1),fun σ' H' p'=>⟨xs.length-(i+1),by omega,rfl,hlt,p'⟩,fun x H' y=>?_⟩
   obtain⟨e,hx⟩:=w3 x H' hlt y
   subst e
   exact hs i x σ _ hx p
 have e:i=xs.length:=by omega
 subst e
 exact .inl ⟨w2 (Nat.le_refl _),hd σ H p⟩
def CN (p:Addr)(n:Nat)(Pv:Nat->List V->Hp->Prop)(i:Nat):Hp->Prop:=fun H'=>i+1<=n/\∃ acc,H' p=some (.lst acc)/\acc.length<=i+1/\Pv (i+1) acc H'
theorem ab2 {p:Addr}{n:Nat}{Pv:Nat->List V->Hp->Prop}{i:Nat}{H:Hp}{acc:List V}{y:V}(hn:n<=1000000)(hi:i<n)(hl:acc.length<=i)(e:H p=some (.lst acc))(k:∀ H',ExtBut p H H'->H' p=some (.lst (acc++[y]))->Pv (i+1) (acc++[y]) H') :
  ∃ acc,H p=some (.lst acc)/\acc.length<sizeLine/\CN p n Pv i (upd H p (.lst (acc++[y]))):=
 ⟨acc,e,by rw[sizeLine_eq];omega,hi,acc++[y],Ab,by rw[List.length_append,List.length_singleton];omega,k _ ExtBut.upd Ab⟩
theorem W9 {p:Addr}{n:Nat}{Pv:Nat->List V->Hp->Prop}{i:Nat}{H:Hp}{acc:List V}(hi:i<n)(hl:acc.length<=i)(e:H p=some (.lst acc))(k:Pv (i+1) acc H):CN p n Pv i H:=⟨hi,acc,e,by omega,k⟩
theorem Vf {J:It}{xs:List V}{G:Hp->Prop}{g:TG}{tt:TT}{te:TE}{σ:St}{H:Hp}{Q:VK}{p:Addr}{k:Nat}{js:List Nat}(hw:Gc J xs G)(hp:H p=none)(Pv:Nat->List V->Hp->Prop)
  (h0:∀ H',Same H H'->H' p=some (.lst [])->Pv 0 [] H') (hG:∀ i acc H,Pv i acc H->G H)
  (hs:∀ i x acc H,xs[i]? = some x->i<xs.length->acc.length<=i->H p=some (.lst acc)->Pv i acc H->g x (List.replicate k none++Mo σ js) H fun σ2 H2=>tt σ2 H2 fun b H3=>
   if b=true then te σ2 H3 fun y H4=>∃ acc,H4 p=some (.lst acc)/\acc.length<sizeLine/\CN p xs.length Pv i (upd H4 p (.lst (acc++[y]))) else CN p xs.length Pv i H3)
  (hd:∀ acc H,H p=some (.lst acc)->acc.length<=xs.length->Pv xs.length acc H->Q (.ref p) H) :
  ∃ W:Nat->Nat->Hp->Prop,(∃ m,W 0 m (upd H p (.lst [])))/\∀ i m H,W i m H ->
   (J.stop i H/\Q (.ref p) H)\/(J.go i H/\∃ N:Hp->Prop,(∀ H',N H'->∃ m',m'<m/\W (i+1) m' H') /\
    ∀ x H',J.yld i H x H'->g x (List.replicate k none++Mo σ js) H' fun σ2 H2=>tt σ2 H2 fun b H3=>
     if b=true then te σ2 H3 fun y H4=>∃ acc,H4 p=some (.lst acc)/\acc.length<sizeLine/\N (upd H4 p (.lst (acc++[y]))) else N H3):=by
 refine⟨fun i m H=>m=xs.length-i/\i<=xs.length/\∃ acc,H p=some (.lst acc)/\acc.length<=i/\Pv i acc H,⟨xs.length,by simp,Nat.zero_le _,[],Ab,Nat.le_refl _,h0 _ (Same.upd hp) Ab⟩,?_⟩
 rintro i m H ⟨rfl,hi,acc,hacc,hl,q⟩
 obtain⟨w1,w2,w3⟩:=hw i H (hG i acc H q)
 by_cases hlt:i<xs.length
 . refine .inr ⟨w1 hlt,CN p xs.length Pv i,fun H' ⟨h1,h2⟩=>⟨xs.length-(i+1),by omega,rfl,h1,h2⟩,fun x H' y=>?_⟩
   obtain⟨e,hx⟩:=w3 x H' hlt y
   subst e
   exact hs i x acc _ hx hlt hl hacc q
 have e:i=xs.length:=by omega
 subst e
 exact .inl ⟨w2 (Nat.le_refl _),hd acc H hacc hl q⟩
def ap3 (p:Addr)(N:Hp->Prop):VK:=fun y H4=>∃ acc,H4 p=some (.lst acc)/\acc.length<sizeLine/\N (upd H4 p (.lst (acc++[y])))
theorem Ng {J:It}{xs:List V}{G:Hp->Prop}{g:TG}{tt:TT}{te:TE}{σ:St}{H:Hp}{Q:VK}{k:Nat}{js:List Nat}(hw:Gc J xs G)(Pv:Addr->Nat->List V->Hp->Prop)
  (h0:∀ p H',H p=none->Same H H'->H' p=some (.lst [])->Pv p 0 [] H') (hG:∀ p i acc H,Pv p i acc H->G H)
  (hs:∀ p i x acc H1,H p=none->xs[i]? = some x->i<xs.length->acc.length<=i->H1 p=some (.lst acc)->Pv p i acc H1->g x (List.replicate k none++Mo σ js) H1 fun σ2 H2=>tt σ2 H2 fun b H3=>
   if b=true then te σ2 H3 (ap3 p (CN p xs.length (Pv p) i)) else CN p xs.length (Pv p) i H3)
  (hd:∀ p acc H1,H p=none->H1 p=some (.lst acc)->acc.length<=xs.length->Pv p xs.length acc H1->Q (.ref p) H1):Rb k js g tt te σ J H Q:=fun p hp=>
 Vf hw hp (Pv p) (fun H' e h=>h0 p H' hp e h) (hG p) (fun i x acc H1 h1 h2 h3 h4 h5=>hs p i x acc H1 hp h1 h2 h3 h4 h5) fun acc H1 h1 h2 h3=>hd p acc H1 hp h1 h2 h3
theorem Rz {p:Addr}{n:Nat}{Pv:Nat->List V->Hp->Prop}{i:Nat}{H:Hp}{acc:List V}{y:V}(hn:n<=1000000)(hi:i<n)(hl:acc.length<=i)(e:H p=some (.lst acc))(k:∀ H',ExtBut p H H'->H' p=some (.lst (acc++[y]))->Pv (i+1) (acc++[y]) H') :
  ap3 p (CN p n Pv i) y H:=ab2 hn hi hl e k
theorem Uy {J:It}{xs:List V}{G:Hp->Prop}{g:TG}{tt:TT}{te:TE}{σ:St}{H:Hp}{Q:VK}{k:Nat}{js:List Nat}(hw:Gc J xs G)(t:V->Bool)(f:V->V)(hz:xs.length<=1000000)(hG:∀ H',Same H H'->G H')
  (hs:∀(i:Nat) x H1 (R:VK) (R':Hp->Prop),xs[i]? = some x->Same H H1->(t x=true->R (f x) H1)->(t x=false->R' H1)->g x (List.replicate k none++Mo σ js) H1 fun σ2 H2=>tt σ2 H2 fun b H3=>if b=true then te σ2 H3 R else R' H3)
  (hd:∀ p H',H p=none->Same H H'->H' p=some (.lst ((xs.filter t).map f))->Q (.ref p) H'):Rb k js g tt te σ J H Q:=by
 refine Ng hw (fun p i acc H1=>Same H H1/\acc=((xs.take i).filter t).map f) (fun p H' hp e h=>⟨e,by simp⟩) (fun p i acc H1 h=>hG H1 h.1) (fun p i x acc H1 hp hx hi hl ha ⟨e,hacc⟩=>?_) fun p acc H1 hp ha hl ⟨e,hacc⟩=>?_
 . have ht:xs.take (i+1)=xs.take i++[x]:=by rw[List.take_add_one,hx];rfl
   refine hs i x H1 _ _ hx e (fun h=>?_) fun h=>?_
   . refine Rz hz hi hl ha fun H' e' h'=>⟨fun b o hb=>e' b o (ne_of_none hb hp) (e b o hb),?_⟩
     rw[ht,List.filter_append,List.map_append,hacc]
     simp[h]
   refine W9 hi hl ha ⟨e,?_⟩
   rw[ht,List.filter_append,List.map_append,hacc]
   simp[h]
 refine hd p H1 hp e ?_
 rw[ha,hacc,List.take_length]
theorem a76 {z:Str}{i:Nat}{v:V}(h:(z.cps.toList.map fun c=>V.str ⟨#[c]⟩)[i]? = some v):∃ c,v = .str ⟨#[c]⟩/\c∈z.cps.toList:=by
 rw[List.getElem?_map] at h
 cases e:z.cps.toList[i]? with
 | none=>rw[e] at h;cases h
 | some c=>rw[e] at h;cases h;exact⟨c,rfl,List.mem_of_getElem? e⟩
theorem Dl {α:Type}(xs:List α):xs.filter (fun _=>true)=xs:=by simp
theorem K5 {J:It}{xs:List V}{G:Hp->Prop}{g:TG}{te:TE}{σ:St}{H:Hp}{Q:VK}{k:Nat}{js:List Nat}(hw:Gc J xs G)(f:V->V)(hz:xs.length<=1000000)(hG:∀ H',Same H H'->G H')
  (hs:∀(i:Nat) x H1 (R:VK),xs[i]? = some x->Same H H1->R (f x) H1->g x (List.replicate k none++Mo σ js) H1 fun σ2 H2=>te σ2 H2 R)
  (hd:∀ p H',H p=none->Same H H'->H' p=some (.lst (xs.map f))->Q (.ref p) H'):Rb k js g Y1 te σ J H Q:=
 Uy hw (fun _=>true) f hz hG (fun i x H1 R R' hx e h _=>by
  have:=hs i x H1 R hx e (h rfl)
  show g x _ H1 fun σ2 H2=>if true=true then te σ2 H2 R else R' H2
  simpa using this) fun p H' hp e h=>hd p H' hp e (by rw[h,Dl])
theorem Jf {J:It}{xs:List V}{G:Hp->Prop}{g:TG}{tb:TS}{D:Ends}{σ:St}{H:Hp}(hw:Gc J xs G)(Pv:Nat->St->Hp->Prop)(h0:Pv 0 σ H)(hG:∀ i σ H,Pv i σ H->G H)
  (hs:∀ i x σ H,xs[i]? = some x->i<xs.length->Pv i σ H->g x σ H fun σ2 H2=>tb { D with nx:=Pv (i+1),ct:=Pv (i+1),bk:=D.nx } σ2 H2) (hd:∀ σ H,Pv xs.length σ H->D.nx σ H):aa9 g tb D σ J H:=
 Yf hw Pv h0 hG (fun i x σ H hx=>hs i x σ H hx (List.getElem?_eq_some_iff.mp hx).1) hd
section
variable {X:Cx}{K:PySem.W.Frag}
theorem At (hK:X.K=K:=by ac_nf):OpR X (binaryOp .Add) (Tq K):=hK ▸ ad1
theorem Ba (hq:QA X.A)(hK:X.K=K:=by ac_nf):OpR X (compareOp .Eq) (aq3 K):=hK ▸ al0 hq
theorem Ik (hq:QA X.A)(hK:X.K=K:=by ac_nf):OpR X (compareOp .NotEq) (ap4 K):=hK ▸ af4 hq
theorem Jm (hq:QA X.A)(hK:X.K=K:=by ac_nf):OpR X (compareOp .In) (Xi K false):=hK ▸ an1 hq
theorem Ff (hq:QA X.A)(hK:X.K=K:=by ac_nf):OpR X (compareOp .NotIn) (Xi K true):=hK ▸ Vp hq
theorem A5 (hu:X.A.units+1<cLine)(hK:X.K=K:=by ac_nf):IxR X (Uh K):=hK ▸ ae4 hu
theorem Yl (hK:X.K=K:=by ac_nf):SlR X (aq1 K):=hK ▸ sl_A
theorem C1 (hK:X.K=K:=by ac_nf):CallR X (.builtin "len") (Tx K):=hK ▸ W3
theorem Cp (hK:X.K=K:=by ac_nf):CallR X (.builtin "isinstance") (Oc K):=hK ▸ Qs
theorem Tt (hK:X.K=K:=by ac_nf):CallR X (.type "list") (Vk K):=hK ▸ Te
theorem Bo (hK:X.K=K:=by ac_nf):CallR X (.type "tuple") (Kh K):=hK ▸ Rc
theorem Qx (hc:X.calm=true)(hK:X.K=K:=by ac_nf):CallR X (.builtin "all") (a72 K):=hK ▸ Wy hc
theorem Ax {tg:Expr}(hu:X.A.units+1<cLine){l:Expr}{tl:TE}(hl:PE X l tl)(hK:X.K=K:=by ac_nf):PI X tg l (as2 K tl):=hK ▸ ai3 hu hl
theorem Vh {es:List Expr}{k:Nat}{t:TGs}{n:Nat}{pos:Pos}(hc:X.calm=true)(h:PGs X es t)(hK:X.K=K:=by ac_nf)
  (hn:(assignEach es X.env).length=n:=by ac_nf) (hst:(assignEach es X.env).findIdx? (·.1)=none:=by ac_nf):PG X (.Tuple es k pos) (am6 K n t):=hK ▸ am9 hc h hn hst
variable {o e:Expr}{es:List Expr}{to:TE}{t:TA}{name:Str}{apos cpos:Pos}{T id:String}{r:V->List V->Hp->VK->Prop}
theorem W5 (pa:PlainAttrs T)(slot:Slot T name id)(hty:typeOf (.builtin id)=pure (.type "method_descriptor"))(hm:MtR X id r)(ho:PE X o to)(hK:X.K=K:=by ac_nf)
  (hbase:attributeBase o name X.env (eval o X.env)=eval o X.env:=by ac_nf) (hline:(apos.endLine==cpos.line)=true:=by ac_nf):PE X (.Call (.Attribute o name apos) [] [] cpos) (at4 K T r to):=hK ▸ ag1 pa slot hty hm ho hbase hline
theorem Gb (pa:PlainAttrs T)(slot:Slot T name id)(hty:typeOf (.builtin id)=pure (.type "method_descriptor"))(hm:MtR X id r)(ho:PE X o to)(ha:PA X (e :: es) t)(hK:X.K=K:=by ac_nf)
  (hbase:attributeBase o name X.env (eval o X.env)=eval o X.env:=by ac_nf)
  (hfew:((backTo cpos (starEach (e :: es) X.env)).all (fun x=>!x.1)&&(backToKw cpos (keywordEach [] X.env)).all (fun x=>x.1.isSome)
   && decide ((e :: es).length+([]:List Keyword).length+(if([]:List Keyword).isEmpty then 0 else 1)<30))=true:=by ac_nf)
  (hline:(apos.endLine==cpos.line)=true:=by ac_nf) (hs:starEach (e :: es) X.env=(false,eval e X.env) :: starEach es X.env:=by ac_nf) (hplain:(backTo cpos (starEach es X.env)).any (·.1)=false:=by ac_nf) :
  PE X (.Call (.Attribute o name apos) (e :: es) [] cpos) (tBM K T r to t):=hK ▸ as5 pa slot hty hm ho ha hbase hfew hline hs hplain
end
def Fz (H H':Hp):Prop:=∀ a xs,Rd H a (.tup xs)->Rd H' a (.tup xs)
theorem Fz.refl (H:Hp):Fz H H:=fun _ _ h=>h
theorem Fz.trans {H H1 H2:Hp}(a:Fz H H1)(b:Fz H1 H2):Fz H H2:=fun c xs h=>b c xs (a c xs h)
theorem Same.fz {H H':Hp}(e:Same H H'):Fz H H':=fun a xs h=>by
 rcases h with h | ⟨o,h⟩
 . exact .inl (e _ _ h)
 exact .inr ⟨o,e _ _ h⟩
theorem X5 {p:Addr}{H H':Hp}(e:ExtBut p H H')(hp:∀ xs,¬ Rd H p (.tup xs)):Fz H H':=fun a xs h=>by
 have n:a≠p:=fun q=>hp xs (q ▸ h)
 rcases h with h | ⟨o,h⟩
 . exact .inl (e _ _ n h)
 exact .inr ⟨o,e _ _ n h⟩
theorem ExtBut.fzL {p:Addr}{H H':Hp}{l:List V}(e:ExtBut p H H')(hp:H p=some (.lst l)):Fz H H':=X5 e fun xs h=>by
 rcases h with h | ⟨o,h⟩
 . rw[hp] at h;cases h
 rw[hp] at h;cases h
theorem ExtBut.fzD {p:Addr}{H H':Hp}{l:List (Key×V)}(e:ExtBut p H H')(hp:H p=some (.dK l)):Fz H H':=X5 e fun xs h=>by
 rcases h with h | ⟨o,h⟩
 . rw[hp] at h;cases h
 rw[hp] at h;cases h
theorem Fz.seq {K:PySem.W.Frag}{H H':Hp}(e:Fz H H'){a:Addr}{xs:List V}(h:SqT K H a xs):SqT K H' a xs:=by
 rcases h with h | h
 . exact .inl (e _ _ h)
 exact .inr h
mutual
def frz:PyData->Bool
 | .tuple ds=>Qy ds
 | .list _=>false
 | .dict _=>false
 | _=>true
def Qy:List PyData->Bool
 | []=>true
 | d :: ds=>frz d&&Qy ds
end
mutual
theorem Is.fz {K:PySem.W.Frag}{H H':Hp}(e:Fz H H'):∀(d:PyData) (v:V),frz d=true->Is K H d v->Is K H' d v
 | .none,_,_,h=>by simp only[Is] at h ⊢;exact h
 | .bool _,_,_,h=>by simp only[Is] at h ⊢;exact h
 | .int _,_,_,h=>by simp only[Is] at h ⊢;exact h
 | .str _,_,_,h=>by simp only[Is] at h ⊢;exact h
 | .list ds,v,hf,_=>by simp[frz] at hf
 | .tuple ds,v,hf,h=>by
   simp only[Is] at h ⊢
   obtain⟨a,xs,e1,e2,e3⟩:=h
   exact⟨a,xs,e1,e.seq e2,IsL.fz e ds xs (by simpa only[frz] using hf) e3⟩
 | .dict _,_,_,h=>by simp only[Is] at h
theorem IsL.fz {K:PySem.W.Frag}{H H':Hp}(e:Fz H H'):∀(ds:List PyData) (vs:List V),Qy ds=true->IsL K H ds vs->IsL K H' ds vs
 | [],_,_,h=>by simp only[IsL] at h ⊢;exact h
 | d :: ds,vs,hf,h=>by
   simp only[IsL] at h ⊢
   simp only[Qy,Bool.and_eq_true] at hf
   obtain⟨v,r,e1,e2,e3⟩:=h
   exact⟨v,r,e1,Is.fz e d v hf.1 e2,IsL.fz e ds r hf.2 e3⟩
end
section
variable {K:PySem.W.Frag}{H H':Hp}
theorem IsL.length:∀ {ds:List PyData} {vs:List V},IsL K H ds vs->ds.length=vs.length
 | [],_,h=>by simp only[IsL] at h;subst h;rfl
 | d :: ds,vs,h=>by
   simp only[IsL] at h
   obtain⟨v,r,rfl,_,e3⟩:=h
   simp only[List.length_cons,IsL.length e3]
theorem IsL.get:∀ {ds:List PyData} {vs:List V} {i:Nat} {x:V},IsL K H ds vs->vs[i]? = some x->∃ d,ds[i]? = some d/\Is K H d x
 | [],_,_,_,h,e=>by simp only[IsL] at h;subst h;simp at e
 | d :: ds,vs,i,x,h,e=>by
   simp only[IsL] at h
   obtain⟨v,r,rfl,e2,e3⟩:=h
   cases i with
   | zero=>simp at e;subst e;exact⟨d,rfl,e2⟩
   | succ i=>
     obtain⟨d',h1,h2⟩:=IsL.get (i:=i) e3 (by simpa using e)
     exact⟨d',by simpa using h1,h2⟩
theorem IsL.at:∀ {ds:List PyData} {vs:List V} {i:Nat} {d:PyData},IsL K H ds vs->ds[i]? = some d->∃ x,vs[i]? = some x/\Is K H d x
 | [],_,_,_,h,e=>by simp at e
 | d :: ds,vs,i,d',h,e=>by
   simp only[IsL] at h
   obtain⟨v,r,rfl,e2,e3⟩:=h
   cases i with
   | zero=>simp at e;subst e;exact⟨v,rfl,e2⟩
   | succ i=>
     obtain⟨x,h1,h2⟩:=IsL.at (i:=i) e3 (by simpa using e)
     exact⟨x,by simpa using h1,h2⟩
theorem IsL.append:∀ {ds es:List PyData} {vs us:List V},IsL K H ds vs->IsL K H es us->IsL K H (ds++es) (vs++us)
 | [],_,_,_,h,g=>by simp only[IsL] at h;subst h;exact g
 | d :: ds,es,vs,us,h,g=>by
   simp only[IsL] at h
   obtain⟨v,r,rfl,e2,e3⟩:=h
   simp only[List.cons_append,IsL]
   exact⟨v,_,rfl,e2,IsL.append e3 g⟩
theorem IsL.one {d:PyData}{v:V}(h:Is K H d v):IsL K H [d] [v]:=by simp only[IsL];exact⟨v,[],rfl,h,rfl⟩
theorem IsL.nil:IsL K H [] []:=by simp only[IsL]
theorem IsL.cons {d:PyData}{v:V}{ds:List PyData}{vs:List V}(h:Is K H d v)(g:IsL K H ds vs):IsL K H (d :: ds) (v :: vs):=by simp only[IsL];exact⟨v,vs,rfl,h,g⟩
theorem IsL.str_eq:∀ {ns:List Str} {vs:List V},IsL K H (ns.map PyData.str) vs->vs=ns.map V.str
 | [],vs,h=>by simp only[List.map_nil,IsL] at h;exact h
 | n :: ns,vs,h=>by
   simp only[List.map_cons,IsL,Is] at h
   obtain⟨v,r,rfl,rfl,e3⟩:=h
   rw[IsL.str_eq e3]
   rfl
theorem Is.tup {ds:List PyData}{v:V}(h:Is K H (.tuple ds) v):∃ a xs,v = .ref a/\SqT K H a xs/\IsL K H ds xs:=by simpa only[Is] using h
theorem Is.of_tup {ds:List PyData}{a:Addr}{xs:List V}(h:SqT K H a xs)(g:IsL K H ds xs):Is K H (.tuple ds) (.ref a):=by simp only[Is];exact⟨a,xs,rfl,h,g⟩
theorem Is.of_lst {ds:List PyData}{a:Addr}{xs:List V}(h:SqL K H a xs)(g:IsL K H ds xs):Is K H (.list ds) (.ref a):=by simp only[Is];exact⟨a,xs,rfl,h,g⟩
theorem Is.str {z:Str}{v:V}(h:Is K H (.str z) v):v = .str z:=by simpa only[Is] using h
theorem Dj {z:Str}:Is K H (.str z) (.str z):=by simp only[Is]
theorem Hl {z:Int}:Is K H (.int z) (.int z):=by simp only[Is]
theorem ar3 {z:Bool}:Is K H (.bool z) (.bl z):=by simp only[Is]
end
def nmD (ns:List Str):PyData:=.tuple (ns.map PyData.str)
def prD (p:Str×Str):PyData:=.tuple [.str p.1,.str p.2]
def psD (ps:List (Str×Str)):PyData:=.tuple (ps.map prD)
def hfD (ns:List Str)(ps:List (Str×Str)):PyData:=.tuple [nmD ns,psD ps]
theorem L6:∀ ns:List Str,Qy (ns.map PyData.str)=true
 | []=>rfl
 | n :: ns=>by simp only[List.map_cons,Qy,frz,L6 ns,Bool.and_self]
theorem Zy (ns:List Str):frz (nmD ns)=true:=by simp only[nmD,frz,L6]
theorem Kl (p:Str×Str):frz (prD p)=true:=by simp[prD,frz,Qy]
theorem K8:∀ ps:List (Str×Str),Qy (ps.map prD)=true
 | []=>rfl
 | n :: ns=>by simp only[List.map_cons,Qy,Kl,K8 ns,Bool.and_self]
theorem a59 (ps:List (Str×Str)):frz (psD ps)=true:=by simp only[psD,frz,K8]
theorem ai5 (ns:List Str)(ps:List (Str×Str)):frz (hfD ns ps)=true:=by simp only[hfD,frz,Qy,Zy,a59,Bool.and_self]
section
variable {K:PySem.W.Frag}{H H':Hp}
theorem Is.nm {ns:List Str}{v:V}(h:Is K H (nmD ns) v):∃ a,v = .ref a/\SqT K H a (ns.map V.str):=by
 obtain⟨a,xs,rfl,h1,h2⟩:=Is.tup h
 exact⟨a,rfl,by rw[<- IsL.str_eq h2];exact h1⟩
theorem M5 {ns:List Str}{a:Addr}(h:SqT K H a (ns.map V.str)):Is K H (nmD ns) (.ref a):=Is.of_tup h (R4 ns)
theorem Is.pr {p:Str×Str}{v:V}(h:Is K H (prD p) v):∃ a,v = .ref a/\SqT K H a [.str p.1,.str p.2]:=by
 obtain⟨a,xs,rfl,h1,h2⟩:=Is.tup h
 simp only[IsL,Is] at h2
 obtain⟨_,_,rfl,rfl,_,_,rfl,rfl,rfl⟩:=h2
 exact⟨a,rfl,h1⟩
theorem an0 {x y:Str}{a:Addr}(h:SqT K H a [.str x,.str y]):Is K H (prD (x,y)) (.ref a):=Is.of_tup h (.cons Dj (.one Dj))
theorem Is.hf {ns:List Str}{ps:List (Str×Str)}{v:V}(h:Is K H (hfD ns ps) v):∃ a x y,v = .ref a/\SqT K H a [x,y]/\Is K H (nmD ns) x/\Is K H (psD ps) y:=by
 obtain⟨a,xs,rfl,h1,h2⟩:=Is.tup h
 simp only[IsL] at h2
 obtain⟨x,_,rfl,hx,y,_,rfl,hy,rfl⟩:=h2
 exact⟨a,x,y,rfl,h1,hx,hy⟩
theorem af1 {ns:List Str}{ps:List (Str×Str)}{a:Addr}{x y:V}(h:SqT K H a [x,y])(hx:Is K H (nmD ns) x)(hy:Is K H (psD ps) y):Is K H (hfD ns ps) (.ref a):=Is.of_tup h (.cons hx (.one hy))
theorem Is.nm_fz {ns:List Str}{v:V}(h:Is K H (nmD ns) v)(e:Fz H H'):Is K H' (nmD ns) v:=Is.fz e _ _ (Zy ns) h
theorem Is.pr_fz {p:Str×Str}{v:V}(h:Is K H (prD p) v)(e:Fz H H'):Is K H' (prD p) v:=Is.fz e _ _ (Kl p) h
theorem Is.ps_fz {ps:List (Str×Str)}{v:V}(h:Is K H (psD ps) v)(e:Fz H H'):Is K H' (psD ps) v:=Is.fz e _ _ (a59 ps) h
theorem Is.hf_fz {ns:List Str}{ps:List (Str×Str)}{v:V}(h:Is K H (hfD ns ps) v)(e:Fz H H'):Is K H' (hfD ns ps) v:=Is.fz e _ _ (ai5 ns ps) h
variable {σ:St}{Q:VK}{x v:V}{i:Int}
theorem Gg {a:Addr}{xs:List V}(h:SqT K H a xs)(e:atI xs i=some v)(k:Q v H):Uh K (.ref a) (.int i) H Q:=.inl (.inr (.inl ⟨a,xs,i,v,rfl,rfl,h,e,k⟩))
theorem Mz {ns:List Str}{ps:List (Str×Str)}(h:Is K H (hfD ns ps) x)(k:∀ v,Is K H (nmD ns) v->Q v H):Uh K x (.int 0) H Q:=by
 obtain⟨a,u,w,rfl,h1,h2,h3⟩:=h.hf
 exact Gg h1 rfl (k u h2)
theorem Up {ns:List Str}{ps:List (Str×Str)}(h:Is K H (hfD ns ps) x)(k:∀ v,Is K H (psD ps) v->Q v H):Uh K x (.int 1) H Q:=by
 obtain⟨a,u,w,rfl,h1,h2,h3⟩:=h.hf
 exact Gg h1 rfl (k w h3)
theorem Wv {p:Str×Str}(h:Is K H (prD p) x)(k:Q (.str p.1) H):Uh K x (.int 0) H Q:=by
 obtain⟨a,rfl,h1⟩:=h.pr
 exact Gg h1 rfl k
theorem Qm {p:Str×Str}(h:Is K H (prD p) x)(k:Q (.str p.2) H):Uh K x (.int 1) H Q:=by
 obtain⟨a,rfl,h1⟩:=h.pr
 exact Gg h1 rfl k
theorem a58 {ds:List PyData}(h:Is K H (.tuple ds) x)(k:Q (.int ds.length) H):Tx K [x] H Q:=by
 obtain⟨a,xs,rfl,h1,h2⟩:=h.tup
 rw[IsL.length h2] at k
 exact .inl ⟨.ref a,_,rfl,.inr ⟨xs,h1,rfl⟩,k⟩
theorem Zz {ns:List Str}(h:Is K H (nmD ns) x)(k:Q (.int ns.length) H):Tx K [x] H Q:=a58 h (by rw[List.length_map];exact k)
theorem Kw (ns:List Str):(ns.map V.str).all Nm=true:=by
 rw[List.all_eq_true]
 intro v h
 obtain ⟨n,_,rfl⟩:=List.mem_map.mp h
 rfl
theorem K2 (z:Str):∀ ns:List Str,inV (.str z) (ns.map V.str)=decide (z∈ns)
 | []=>rfl
 | n :: ns=>by
   have ih:=K2 z ns
   unfold inV at ih ⊢
   rw[List.map_cons,List.any_cons,ih]
   have e:eqV (V.str n) (V.str z)=decide (n=z):=by
    show(n==z)=_
    by_cases h:n=z<;>simp[h]
   rw[e]
   by_cases h:n=z
   . subst h
     simp
   have h':¬ z=n:=fun q=>h q.symm
   by_cases g:z∈ns<;>simp[h,h',g]
theorem Rs {ns:List Str}{z:Str}{a:Addr}(h:SqL K H a (ns.map V.str))(k:Q (.bl (decide (z∈ns))) H):Xi K false (.str z) (.ref a) H Q:=
 .inl ⟨a,_,rfl,.inl h,rfl,Kw ns,by rw[K2];exact k⟩
theorem Sw {ns:List Str}{z:Str}(h:Is K H (nmD ns) x)(k:Q (.bl (!decide (z∈ns))) H):Xi K true (.str z) x H Q:=by
 obtain⟨a,rfl,h1⟩:=h.nm
 exact .inl ⟨a,_,rfl,.inr h1,rfl,Kw ns,by rw[K2];exact k⟩
theorem Wl {ns:List Str}{z:Str}{a:Addr}(h:SqL K H a (ns.map V.str))(k:Q (.bl (!decide (z∈ns))) H):Xi K true (.str z) (.ref a) H Q:=
 .inl ⟨a,_,rfl,.inl h,rfl,Kw ns,by rw[K2];exact k⟩
theorem a78 {p:Str×Str}{n m:Nat}{R:St->Hp->Prop}(h:Is K H (prD p) x)(k:R ((σ.set n (some (.str p.1))).set m (some (.str p.2))) H):am6 K 2 (R8 (Js n) (R8 (Js m) ap5)) x σ H R:=by
 obtain⟨a,rfl,h1⟩:=h.pr
 exact⟨a,_,rfl,h1,rfl,.str p.1,[.str p.2],rfl,.str p.2,[],rfl,rfl,k⟩
theorem a00 {ds:List PyData}{g:TG}{tb:TS}{D:Ends}(h:Is K H (.tuple ds) x)(hf:Qy ds=true)(Pv:Nat->St->Hp->Prop)(h0:Pv 0 σ H)(hG:∀ i σ' H',Pv i σ' H'->Fz H H')
  (hs:∀ i d v σ' H',ds[i]? = some d->Is K H' d v->Pv i σ' H'->g v σ' H' fun σ2 H2=>tb { D with nx:=Pv (i+1),ct:=Pv (i+1),bk:=D.nx } σ2 H2) (hd:∀ σ' H',Pv ds.length σ' H'->D.nx σ' H') :
  Ih K x H fun J H1=>aa9 g tb D σ J H1:=by
 obtain⟨a,xs,rfl,h1,h2⟩:=h.tup
 refine Kf h1 (Jf Da Pv h0 (fun i σ' H' p=>(hG i σ' H' p).seq h1) (fun i v σ' H' hx hi p=>?_) fun σ' H' p=>hd σ' H' (by rw[IsL.length h2];exact p))
 obtain⟨d,e1,e2⟩:=IsL.get (IsL.fz (hG i σ' H' p) ds xs hf h2) hx
 exact hs i d v σ' H' e1 e2 p
theorem Ji {ns:List Str}{g:TG}{tb:TS}{D:Ends}(h:Is K H (nmD ns) x)(Pv:Nat->St->Hp->Prop)(h0:Pv 0 σ H)(hG:∀ i σ' H',Pv i σ' H'->Fz H H')
  (hs:∀ i z σ' H',ns[i]? = some z->Pv i σ' H'->g (.str z) σ' H' fun σ2 H2=>tb { D with nx:=Pv (i+1),ct:=Pv (i+1),bk:=D.nx } σ2 H2) (hd:∀ σ' H',Pv ns.length σ' H'->D.nx σ' H') :
  Ih K x H fun J H1=>aa9 g tb D σ J H1:=
 a00 h (L6 ns) Pv h0 hG (fun i d v σ' H' e h p=>by
  rw[List.getElem?_map] at e
  cases hn:ns[i]? with
  | none=>rw[hn] at e;cases e
  | some z=>
    rw[hn] at e
    cases e
    rw[h.str]
    exact hs i z σ' H' hn p) fun σ' H' p=>hd σ' H' (by rw[List.length_map] at p;exact p)
theorem a55 {ps:List (Str×Str)}{g:TG}{tb:TS}{D:Ends}(h:Is K H (psD ps) x)(Pv:Nat->St->Hp->Prop)(h0:Pv 0 σ H)(hG:∀ i σ' H',Pv i σ' H'->Fz H H')
  (hs:∀ i p v σ' H',ps[i]? = some p->Is K H' (prD p) v->Pv i σ' H'->g v σ' H' fun σ2 H2=>tb { D with nx:=Pv (i+1),ct:=Pv (i+1),bk:=D.nx } σ2 H2) (hd:∀ σ' H',Pv ps.length σ' H'->D.nx σ' H') :
  Ih K x H fun J H1=>aa9 g tb D σ J H1:=
 a00 h (K8 ps) Pv h0 hG (fun i d v σ' H' e h p=>by
  rw[List.getElem?_map] at e
  cases hn:ps[i]? with
  | none=>rw[hn] at e;cases e
  | some z=>
    rw[hn] at e
    cases e
    exact hs i z v σ' H' hn h p) fun σ' H' p=>hd σ' H' (by rw[List.length_map] at p;exact p)
theorem Hz {α:Type}(f:α->PyData)(hf:∀ a,frz (f a)=true):∀ xs:List α,Qy (xs.map f)=true
 | []=>rfl
 | x :: xs=>by simp only[List.map_cons,Qy,hf,Hz f hf xs,Bool.and_self]
theorem Em {α:Type}{J:It}{xs:List V}{G:Hp->Prop}{g:TG}{tt:TT}{te:TE}{Q:VK}{k:Nat}{js:List Nat}(hw:Gc J xs G)(as:List α)(hl:as.length=xs.length)(t:α->Bool)(f:α->PyData)(hf:∀ a,frz (f a)=true)(hz:xs.length<=1000000)(hG:∀ H',Same H H'->G H')
  (hs:∀(i:Nat) a v H1 (R:VK) (R':Hp->Prop),as[i]? = some a->xs[i]? = some v->Same H H1->(t a=true->∀ y H2,Same H1 H2->Is K H2 (f a) y->R y H2)->(t a=false->∀ H2,Same H1 H2->R' H2) ->
   g v (List.replicate k none++Mo σ js) H1 fun σ2 H2=>tt σ2 H2 fun b H3=>if b=true then te σ2 H3 R else R' H3)
  (hd:∀ p ys H',H p=none->Same H H'->H' p=some (.lst ys)->IsL K H' ((as.filter t).map f) ys->Q (.ref p) H'):Rb k js g tt te σ J H Q:=by
 refine Ng hw (fun p i acc H1=>Same H H1/\IsL K H1 (((as.take i).filter t).map f) acc) (fun p H' hp e h=>⟨e,by simp only[List.take_zero,List.filter_nil,List.map_nil];exact .nil⟩) (fun p i acc H1 h=>hG H1 h.1) (fun p i x acc H1 hp hx hi hl1 ha ⟨e,hacc⟩=>?_) fun p acc H1 hp ha hl1 ⟨e,hacc⟩=>?_
 . have hi':i<as.length:=by omega
   obtain⟨a,hai⟩:∃ a,as[i]? = some a:=⟨as[i],List.getElem?_eq_getElem hi'⟩
   have ht:as.take (i+1)=as.take i++[a]:=by rw[List.take_add_one,hai];rfl
   refine hs i a x H1 _ _ hai hx e (fun h y H2 e2 hy=>?_) fun h H2 e2=>?_
   . refine Rz hz hi hl1 (e2 _ _ ha) fun H' e' h'=>⟨fun b o hb=>e' b o (ne_of_none hb hp) (e2 _ _ (e b o hb)),?_⟩
     rw[ht,List.filter_append,List.map_append]
     have fz:=e'.fzL (e2 _ _ ha)
     refine IsL.append (IsL.fz (e2.fz.trans fz) _ _ (Hz f hf _) hacc) ?_
     simp only[List.filter_cons,h,if_true,List.filter_nil,List.map_cons,List.map_nil]
     exact .one (Is.fz fz _ _ (hf a) hy)
   refine W9 hi hl1 (e2 _ _ ha) ⟨e.trans e2,?_⟩
   rw[ht,List.filter_append,List.map_append]
   simp only[List.filter_cons,h,Bool.false_eq_true,if_false,List.filter_nil,List.map_nil,List.append_nil]
   exact IsL.mono e2 _ _ hacc
 refine hd p acc H1 hp e ha ?_
 rw[<- hl,List.take_length] at hacc
 exact hacc
end
section
variable {X:Cx}{K:PySem.W.Frag}
def a07:PyData->Bool
 | .list _=>true
 | .tuple _=>true
 | _=>false
mutual
theorem Is.noDict {H:Hp}:∀(d:PyData) (v:V),Is K H d v->d.hasDict=false
 | .none,_,h=>by simp only[PyData.hasDict]
 | .bool _,_,h=>by simp only[PyData.hasDict]
 | .int _,_,h=>by simp only[PyData.hasDict]
 | .str _,_,h=>by simp only[PyData.hasDict]
 | .list ds,v,h=>by
   simp only[Is] at h
   obtain⟨a,xs,e1,e2,e3⟩:=h
   simp only[PyData.hasDict]
   exact IsL.noDict ds xs e3
 | .tuple ds,v,h=>by
   simp only[Is] at h
   obtain⟨a,xs,e1,e2,e3⟩:=h
   simp only[PyData.hasDict]
   exact IsL.noDict ds xs e3
 | .dict _,_,h=>by simp only[Is] at h
theorem IsL.noDict {H:Hp}:∀(ds:List PyData) (vs:List V),IsL K H ds vs->PyData.hasDictAll ds=false
 | [],_,h=>by simp only[PyData.hasDictAll]
 | d :: ds,vs,h=>by
   simp only[IsL] at h
   obtain⟨v,r,e1,e2,e3⟩:=h
   simp only[PyData.hasDictAll,Is.noDict d v e2,IsL.noDict ds r e3,Bool.or_self]
end
structure Sh (d:PyData):Prop where
 dp:a07 d=true
 sh:d.showable=true
 fits:d.shown.length<=sizeLine
 deep:d.depth<=100
theorem Mq (hq:QA X.A):CallR X (.builtin "repr") (fun xs H Q=>∃ x d,xs=[x]/\Is X.K H d x/\Sh d/\Q (.str d.shown) H):=by
 intro pins s σ H xs us Q I rv h
 obtain⟨x,d,rfl,i,S,q⟩:=h
 obtain⟨u,rfl,ru⟩:=rv.one
 obtain⟨as,ra⟩:=Is.reads I d x u i ru
 have href:∃ a,u = .ref a:=by
  have hd:=S.dp
  cases d with
  | list ds=>simp only[Is] at i;obtain⟨a,_,rfl,_⟩:=i;exact⟨a,ru⟩
  | tuple ds=>simp only[Is] at i;obtain⟨a,_,rfl,_⟩:=i;exact⟨a,ru⟩
  | _=>cases hd
 obtain⟨a,rfl⟩:=href
 refine repr_of_reads' ra S.sh (fun hx=>absurd hx (by rw[Is.noDict d x i];exact Bool.false_ne_true)) hq.gd (by have:=hq.un;have:=S.deep;omega) (fun _ _ e=>e) (fun h' t tk hk=>?_) S.fits
 exact⟨.str d.shown,H,I.kept hk,⟨t,rfl⟩,q⟩
def Sg (z:Str)(n:Nat):Str:=⟨(List.replicate n z.cps).foldl (· ++ ·) #[]⟩
def an7:R2:=fun x y H Q=>∃ z n,x = .str z/\y = .int n/\2<=n/\n<=1000/\z.length<=1000/\0<z.length/\Q (.str (Sg z n.toNat)) H
theorem a93:OpR X (binaryOp .Mult) an7:=by
 intro pins s σ H x y v u Q I rx ry h
 obtain⟨z,n,rfl,rfl,h1,h2,h3,h4,q⟩:=h
 obtain⟨t,rfl⟩:=rx
 obtain⟨t2,rfl⟩:=ry
 have a1:¬ n<1:=by omega
 have a2:(n==1||z.length==0)=false:=by
  have e1:(n==1)=false:=by simp;omega
  have e2:(z.length==0)=false:=by simp;omega
  rw[e1,e2];rfl
 have hz:z.length*n.toNat<=1000000:=by
  have:z.length*n.toNat<=1000*1000:=Nat.mul_le_mul h3 (by omega)
  omega
 have hlen:(Sg z n.toNat).length<=sizeLine:=by
  have e:∀(m:Nat) (a:Array Nat),((List.replicate m z.cps).foldl (· ++ ·) a).size=a.size+m*z.cps.size:=by
   intro m
   induction m with
   | zero=>intro a;simp
   | succ m ih=>intro a;rw[List.replicate_succ,List.foldl_cons,ih,Array.size_append,Nat.succ_mul];omega
  show((List.replicate n.toNat z.cps).foldl (· ++ ·) #[]).size<=sizeLine
  rw[e]
  have e2:z.cps.size=z.length:=rfl
  rw[e2,sizeLine_eq,Nat.mul_comm]
  simp
  omega
 refine PySem.P.mul_str (by
   have b1:¬ n < -(2 ^ 63:Int):=by omega
   have b2:¬ n>=2 ^ 63:=by omega
   rw[decide_eq_false b1,decide_eq_false b2];rfl) (fun _ _=>?_) (fun _ _=>?_) ?_
 . have:(2 ^ 63-1:Int) / n>=1000:=by
    refine Int.le_ediv_of_mul_le (by omega) ?_
    have:1000*n<=1000*1000:=by omega
    omega
   omega
 . have hz2:z.length*n.toNat<=sizeLine:=A9 hz
   rw[sizeLine_eq] at hz2
   unfold Builtin.Str.tooLong
   simp[sizeLine_eq]
   omega
 rw[if_neg a1,a2,if_neg Bool.false_ne_true]
 exact⟨hlen,.str _,H,I.kept fun _ _ e=>e,⟨_,rfl⟩,q⟩
def Yy:R2:=fun x y H Q=>Z0 x y H Q\/an7 x y H Q
theorem Ga:OpR X (binaryOp .Mult) Yy:=op_mulA.or a93
theorem i_mulBI {i j:Int}{H:Hp}{Q:VK}(h:CMul i j)(k:Q (.int (i*j)) H):Yy (.int i) (.int j) H Q:=.inl (ag7 h k)
theorem aa0 {z:Str}{n:Int}{H:Hp}{Q:VK}(h:2<=n/\n<=1000/\z.length<=1000/\0<z.length)(k:Q (.str (Sg z n.toNat)) H):Yy (.str z) (.int n) H Q:=.inr ⟨z,n,rfl,rfl,h.1,h.2.1,h.2.2.1,h.2.2.2,k⟩
theorem a82 {i:Int}{H:Hp}{Q:VK}{a:Addr}{xs:List V}(h1:H a=some (.lst xs))(h2:-(2 ^ 63)<=i/\i<2 ^ 63)(h3:xs.length*i.toNat<=sizeLine)(k:∀ p H',H p=none->Same H H'->H' p=some (.lst (List.replicate i.toNat xs).flatten)->Q (.ref p) H'):Yy (.ref a) (.int i) H Q:=.inl (ag8 h1 h2 h3 k)
def rIs (neg:Bool):R2:=fun x y H Q=>(y = .non/\Q (.bl (if neg then !decide (x = .non) else decide (x = .non))) H)\/∃ a b,x = .bl a/\y = .bl b/\Q (.bl (if neg then !(a==b) else a==b)) H
theorem Ml:OpR X (compareOp .Is) (rIs false):=by
 intro pins s σ H x y v u Q I rx ry h
 rcases h with ⟨rfl,q⟩ | ⟨a,b,rfl,rfl,q⟩
 . exact ag9 pins s σ H x .non v u Q I rx ry ⟨rfl,q⟩
 cases rx
 cases ry
 refine wpAny_is_plain rfl ?_
 refine⟨.bl _,H,I,?_,q⟩
 show Value.bool (Value.bool a==Value.bool b)=Value.bool (a==b)
 cases a<;>cases b<;>rfl
theorem W2:OpR X (compareOp .IsNot) (rIs true):=by
 intro pins s σ H x y v u Q I rx ry h
 rcases h with ⟨rfl,q⟩ | ⟨a,b,rfl,rfl,q⟩
 . exact a98 pins s σ H x .non v u Q I rx ry ⟨rfl,q⟩
 cases rx
 cases ry
 refine wpAny_isNot_plain rfl ?_
 refine⟨.bl _,H,I,?_,q⟩
 show Value.bool (!(Value.bool a==Value.bool b))=Value.bool (!(a==b))
 cases a<;>cases b<;>rfl
theorem i_isN {x:V}{H:Hp}{Q:VK}(k:Q (.bl (decide (x = .non))) H):rIs false x .non H Q:=.inl ⟨rfl,k⟩
theorem i_isNotN {x:V}{H:Hp}{Q:VK}(k:Q (.bl (!decide (x = .non))) H):rIs true x .non H Q:=.inl ⟨rfl,k⟩
theorem i_isB {a b:Bool}{H:Hp}{Q:VK}(k:Q (.bl (a==b)) H):rIs false (.bl a) (.bl b) H Q:=.inr ⟨a,b,rfl,rfl,k⟩
section
variable {D:Ends}{σ:St}{H:Hp}{t u:TS}{te td ty tv:TE}{g:TG}
theorem Vx (M:St->Hp->Prop)(h1:∀ N:St->Hp->Prop,(∀ σ' H',M σ' H'->N σ' H')->t { D with nx:=N } σ H)(h2:∀ σ' H',M σ' H'->u D σ' H'):aq0 t u D σ H:=h1 (u D) h2
end
theorem mm {id:String}{r:V->List V->Hp->VK->Prop}(h:MtM X id r):MtR X id r:=h
theorem i_tyLm {a:Addr}{xs:List V}{H:Hp}{B:Prop}(h:H a=some (.lst xs))(k:B):tyV K "list" (.ref a) H/\B:=⟨.inl ⟨rfl,xs,SqL.of h⟩,k⟩
theorem Iq {l:Addr}{xs:List V}{y:V}{H:Hp}{Q:VK}(h:H l=some (.lst xs))(hz:xs.length<=1000000)(k:∀ H',ExtBut l H H'->H' l=some (.lst (xs++[y]))->Q .non H'):W6 (.ref l) [y] H Q:=
 ⟨l,xs,y,rfl,rfl,h,by rw[sizeLine_eq];omega,k _ ExtBut.upd Ab⟩
theorem al9 {l:Addr}{xs:List V}{y:V}{H:Hp}{Q:VK}(h:H l=some (.lst (xs++[y])))(k:∀ H',ExtBut l H H'->H' l=some (.lst xs)->Q y H'):at6 (.ref l) [] H Q:=
 ⟨l,xs++[y],y,rfl,rfl,h,by simp,by rw[List.dropLast_concat];exact k _ ExtBut.upd Ab⟩
theorem Yg {l:Addr}{xs:List V}{y:V}{i:Int}{H:Hp}{Q:VK}(h:H l=some (.lst xs))(h0:0<=i)(h1:xs[i.toNat]? = some y)(k:∀ H',ExtBut l H H'->H' l=some (.lst (xs.eraseIdx i.toNat))->Q y H')(hz:xs.length<=1000000):a62 (.ref l) [.int i] H Q:=by
 have h2:=(List.getElem?_eq_some_iff.mp h1).1
 refine⟨l,xs,i,i.toNat,y,rfl,rfl,h,by omega,by omega,?_,h1,k _ ExtBut.upd Ab⟩
 have e:=Nq (Ck (α:=V) h1)
 obtain⟨j,e1,e2,e3,_⟩:=e
 rw[Int.toNat_of_nonneg h0] at e1
 rw[e1]
 have e4:seqIndex? i xs.length=some i.toNat:=by
  unfold seqIndex? at e1 ⊢
  simp[show ¬ i<0 by omega] at e1 ⊢
  omega
 rw[<- e1,e4]
def Ts (xs:List V)(k:Int):List V:=if k=1 then xs else xs.reverse
def Wc (K:PySem.W.Frag):V->V->Hp->VK->Prop:=fun x y H Q=>∃ a xs k,x = .ref a/\y = .int k/\(k=1\/k = -1)/\SqL K H a xs/\∀ p,H p=none->Q (.ref p) (upd H p (.lst (Ts xs k)))
theorem Yz (items:Array Value):slicePick items none none (some 1)=items:=by
 have e:slicePick items none none (some 1)=slicePick items none none none:=rfl
 rw[e,Io]
 simp[HT.sIx]
 rw[show items.size=items.toList.length by simp,List.take_length]
theorem Pt {e st:Expr}{te ts:TE}{p2 pos:Pos}(he:PE X e te)(hst:PE X st ts)(hK:X.K=K:=by ac_nf):PE X (.Subscript e (.Slice none none (some st) p2) pos) (tOp (Wc K) te ts):=by
 subst hK
 intro pins s σ H Q I h
 refine Subscript_ (thn (he pins s σ H _ I h) fun v s1 ⟨x,H1,I1,r1,q1⟩=>?_)
 refine wpAny_Slice ?_
 rw[evalPart_none]
 refine wpAny_pure (wpAny_pure ?_)
 rw[evalPart_some]
 refine thn (hst pins s1 σ H1 _ I1 q1) fun u s2 ⟨y,H2,I2,r2,q2⟩=>?_
 obtain⟨a,xs,k,rfl,rfl,hk,hx,q⟩:=q2
 cases r1
 obtain⟨t,rfl⟩:=r2
 have I4:Inv X pins σ H2 { s2 with heap:=s2.heap.push { cls:=.type "slice",data:=.fields #[.none,.none,.int k t] } }:=I2.kept (t':=s2.toks) fun b ob q=>Heap.get?_push_of_some _ q
 obtain⟨its,r,ht,hz⟩:=I4.list hx
 have hlen:=r.length
 refine tail_any (ops:=[.ref a,.ref s2.heap.objs.size]) ht.isList.typeIs slot_list_getitem.lookup ?_ (by ac_nf)
 refine wpAny_getItem_list_slice ht.isList (Heap.IsSliceOf.new ..) .none .none (.int k t) (by rcases hk with rfl | rfl<;>decide) ?_ (by rw[List.size_toArray];omega)
 rcases hk with rfl | rfl
 . rw[Yz]
   refine⟨.ref _,_,I4.laid (t':=s2.toks) (o:=.lst (Ts xs 1)) (fun b ob q=>Heap.get?_push_of_some _ q) (Nat.le_refl _) ?_,rfl,q _ (I4.hok.fresh (Nat.le_refl _))⟩
   exact⟨hz,_,0,r,Heap.get?_push_size _ rfl⟩
 rw[PySem.W.krv_pick]
 refine⟨.ref _,_,I4.laid (t':=s2.toks) (o:=.lst (Ts xs (-1))) (fun b ob q=>Heap.get?_push_of_some _ q) (Nat.le_refl _) ?_,rfl,q _ (I4.hok.fresh (Nat.le_refl _))⟩
 exact⟨by show xs.reverse.length<=_;rw[List.length_reverse];exact hz,_,0,by show Vals xs.reverse _;exact r.reverse,Heap.get?_push_size _ rfl⟩
theorem ao3 {a:Addr}{xs:List V}{k:Int}{H:Hp}{Q:VK}(h:SqL K H a xs)(hk:k=1\/k = -1)(c:∀ p H',H p=none->Same H H'->H' p=some (.lst (Ts xs k))->Q (.ref p) H'):Wc K (.ref a) (.int k) H Q:=
 ⟨a,xs,k,rfl,rfl,hk,h,fun p hp=>c p _ hp (Same.upd hp) Ab⟩
end
def Jl (c:Nat):Bool:=decide (97<=c)&&decide (c<=122)
def Sj (x:Str):Bool:=decide (1<=x.length)&&decide (x.length<=8)&&x.cps.toList.all Jl
def Names (ns:List Str):Prop:=ns.Nodup/\∀ z∈ns,Sj z=true
def LL:Str:="abcdefghijklmnopqrstuvwxyzabcdefghijklmnopqrstuvwxyz"
theorem ao5:Sg "abcdefghijklmnopqrstuvwxyz" (2:Int).toNat=LL:=by decide +kernel
def LLn:List Nat:=LL.cps.toList
theorem an3:LL.length=52:=by decide +kernel
theorem J7:LLn.length=52:=by decide +kernel
theorem Rq:∀ c∈LLn,Jl c=true:=by decide +kernel
def txt (l:List Nat):Str:=⟨l.toArray⟩
theorem Ve {a b:List Nat}(h:txt a=txt b):a=b:=by
 have:a.toArray=b.toArray:=congrArg Str.cps h
 simpa using this
theorem Wz (a b:List Nat):txt a++txt b=txt (a++b):=by
 show(⟨a.toArray++b.toArray⟩:Str)=⟨(a++b).toArray⟩
 simp
theorem Ic {l:List Nat}(h0:1<=l.length)(h1:l.length<=8)(h2:∀ c∈l,Jl c=true):Sj (txt l)=true:=by
 unfold Sj
 have e:(txt l).length=l.length:=by show l.toArray.size=_;simp
 rw[e,decide_eq_true h0,decide_eq_true h1]
 show(true&&true&&l.all Jl)=true
 rw[List.all_eq_true.mpr h2]
 rfl
def M8 (a b:Nat):List Nat:=(LLn.drop a).take (b-a)
theorem Gw {a b:Nat}(h:a<=b)(h1:b<=52):(M8 a b).length=b-a:=by
 unfold M8
 rw[List.length_take,List.length_drop,J7]
 omega
theorem Gy {a b:Nat}:∀ c∈M8 a b,Jl c=true:=fun c hc=>Rq c (List.mem_of_mem_drop (List.mem_of_mem_take hc))
theorem Si {i j:Int}(h0:0<=i)(h1:i<=j)(h2:j<=52):Txt.slice LL (some i) (some j)=txt (M8 i.toNat j.toNat):=by
 have e:=StrLaws.sliceText_plain (x:=LL) (i:=i) (j:=j) ⟨h0,h1,by rw[show LL.cps.toList.length=52 by decide +kernel];omega⟩
 have e2:(j-i).toNat=j.toNat-i.toNat:=by omega
 rw[e2] at e
 exact e
def Os (i:Nat):List Nat:=(LLn.drop i).take 1
theorem a83 {i:Int}(h0:0<=i)(h1:i<52):∃ c,atI LL.cps.toList i=some c/\(⟨#[c]⟩:Str)=txt (Os i.toNat):=by
 have h2:i.toNat<LLn.length:=by rw[J7];omega
 refine⟨LLn[i.toNat],?_,?_⟩
 . have:=Ck (List.getElem?_eq_getElem h2)
   rwa[Int.toNat_of_nonneg h0] at this
 unfold Os
 rw[List.drop_eq_getElem_cons h2]
 rfl
theorem K4 {i:Nat}(h:i<52):(Os i).length=1:=by
 unfold Os
 rw[List.length_take,List.length_drop,J7]
 omega
theorem J4 {i:Nat}:∀ c∈Os i,Jl c=true:=fun c hc=>Rq c (List.mem_of_mem_drop (List.mem_of_mem_take hc))
def nm0 (s:Nat):List (List Nat):=(List.range 8).map (fun k=>M8 s (s+1+k))++[Os (s+9),Os (s+10)]
def nm1 (s z a:Nat):List (List Nat):=(List.range 10).map fun k=>M8 s (s+a)++Os (s+5*k % 26)++M8 (s+a+1) (s+z)
def nm2 (s:Nat):List (List Nat):=(List.range 10).map fun k=>M8 (s+k) (s+k+1+3*k % 8)
theorem nd0:∀ s<26,(nm0 s).Nodup:=by decide +kernel
theorem nd2:∀ s<26,(nm2 s).Nodup:=by decide +kernel
theorem nd1':∀ s<26,((List.range 10).map fun k=>Os (s+5*k % 26)).Nodup:=by decide +kernel
theorem Gj {α β:Type}{f:α->β}:∀ {l:List α},l.Nodup->(∀ a∈l,∀ b∈l,f a=f b->a=b)->(l.map f).Nodup
 | [],_,_=>by simp
 | a :: l,h,hf=>by
   rw[List.map_cons,List.nodup_cons]
   rw[List.nodup_cons] at h
   refine⟨fun hm=>?_,Gj h.2 fun x hx y hy=>hf x (List.mem_cons_of_mem _ hx) y (List.mem_cons_of_mem _ hy)⟩
   obtain⟨b,hb,e⟩:=List.mem_map.mp hm
   have:=hf b (List.mem_cons_of_mem _ hb) a List.mem_cons_self e
   subst this
   exact h.1 hb
theorem Ge {α β:Type}{f:α->β}:∀ {l:List α},(l.map f).Nodup->∀ a∈l,∀ b∈l,f a=f b->a=b
 | [],_,a,ha,_,_,_=>by cases ha
 | c :: l,h,a,ha,b,hb,e=>by
   rw[List.map_cons,List.nodup_cons] at h
   rcases List.mem_cons.mp ha with q | ha'
   . rcases List.mem_cons.mp hb with q' | hb'
     . rw[q,q']
     exact absurd (List.mem_map.mpr ⟨b,hb',by rw[<- e,q]⟩) h.1
   rcases List.mem_cons.mp hb with q' | hb'
   . exact absurd (List.mem_map.mpr ⟨a,ha',by rw[e,q']⟩) h.1
   exact Ge h.2 a ha' b hb' e
theorem Kn {l:List (List Nat)}(h:l.Nodup):(l.map txt).Nodup:=Gj h fun a _ b _ e=>Ve e
theorem nd1 {s z a:Nat}(hs:s<26):(nm1 s z a).Nodup:=by
 refine Gj List.nodup_range fun k hk j hj e=>?_
 have e1:Os (s+5*k % 26)=Os (s+5*j % 26):=List.append_cancel_left (List.append_cancel_right e)
 exact Ge (f:=fun k=>Os (s+5*k % 26)) (nd1' s hs) k hk j hj e1
theorem af5 {s:Nat}(hs:s<26):Names ((nm0 s).map txt):=by
 refine⟨Kn (nd0 s hs),fun z hz=>?_⟩
 obtain⟨l,hl,rfl⟩:=List.mem_map.mp hz
 rcases List.mem_append.mp hl with h | h
 . obtain⟨k,hk,rfl⟩:=List.mem_map.mp h
   have hk:=List.mem_range.mp hk
   have e:=Gw (a:=s) (b:=s+1+k) (by omega) (by omega)
   exact Ic (by omega) (by omega) Gy
 simp only[List.mem_cons,List.not_mem_nil,or_false] at h
 rcases h with rfl | rfl
 . have e:=K4 (i:=s+9) (by omega)
   exact Ic (by omega) (by omega) J4
 have e:=K4 (i:=s+10) (by omega)
 exact Ic (by omega) (by omega) J4
theorem ag5 {s z a:Nat}(hs:s<26)(ha:a<z)(hz:z<=8):Names ((nm1 s z a).map txt):=by
 refine⟨Kn (nd1 hs),fun y hy=>?_⟩
 obtain⟨l,hl,rfl⟩:=List.mem_map.mp hy
 obtain⟨k,hk,rfl⟩:=List.mem_map.mp hl
 have hm:5*k % 26<26:=Nat.mod_lt _ (by decide)
 have e1:=Gw (a:=s) (b:=s+a) (by omega) (by omega)
 have e2:=K4 (i:=s+5*k % 26) (by omega)
 have e3:=Gw (a:=s+a+1) (b:=s+z) (by omega) (by omega)
 refine Ic (by simp only[List.length_append];omega) (by simp only[List.length_append];omega) fun c hc=>?_
 rcases List.mem_append.mp hc with hc | hc
 . rcases List.mem_append.mp hc with hc | hc
   . exact Gy c hc
   exact J4 c hc
 exact Gy c hc
theorem an5 {s:Nat}(hs:s<26):Names ((nm2 s).map txt):=by
 refine⟨Kn (nd2 s hs),fun z hz=>?_⟩
 obtain⟨l,hl,rfl⟩:=List.mem_map.mp hz
 obtain⟨k,hk,rfl⟩:=List.mem_map.mp hl
 have hk:=List.mem_range.mp hk
 have hm:3*k % 8<8:=Nat.mod_lt _ (by decide)
 have e:=Gw (a:=s+k) (b:=s+k+1+3*k % 8) (by omega) (by omega)
 exact Ic (by omega) (by omega) Gy
def nm3:List Str:=["names","ahead","name","a","ab","aheads","last","ask","row","end"]
theorem ai7:Names nm3:=⟨by decide +kernel,by decide +kernel⟩
theorem Names.perm {ns ms:List Str}(h:Names ns)(p:ms.Perm ns):Names ms:=⟨p.nodup_iff.mpr h.1,fun z hz=>h.2 z (p.mem_iff.mp hz)⟩
theorem Names.sublist {ns ms:List Str}(h:Names ns)(p:ms.Sublist ns):Names ms:=⟨h.1.sublist p,fun z hz=>h.2 z (p.subset hz)⟩
theorem Y2 {xs:List V}{t:Int}(h0:0<=t)(h1:t<=xs.length):Rk xs (some t) none=xs.drop t.toNat:=by
 have e:HT.sIx xs.length 0 (some t)=t.toNat:=by unfold HT.sIx;simp[show ¬ t<0 by omega];omega
 unfold Rk
 rw[e]
 have e2:HT.sIx xs.length xs.length none=xs.length:=rfl
 rw[e2]
 exact List.take_of_length_le (by rw[List.length_drop];omega)
theorem Oi {xs:List V}{t:Int}(h0:0<=t):Rk xs none (some t)=xs.take t.toNat:=by
 have e:HT.sIx xs.length xs.length (some t)=min t.toNat xs.length:=by unfold HT.sIx;simp[show ¬ t<0 by omega]
 unfold Rk
 rw[e]
 have e2:HT.sIx xs.length 0 none=0:=rfl
 rw[e2,List.drop_zero,Nat.sub_zero,Nat.min_comm]
 rw[<- List.take_take]
 exact List.take_of_length_le (by rw[List.length_take];omega)
theorem Kt {lo:Int} {n i:Nat} {x:V} (h:((List.range n).map fun(i:Nat)=>V.int (lo+(i:Int)))[i]? = some x):x = .int (lo+(i:Int))/\i<n:=by
 rw[List.getElem?_map] at h
 cases e:(List.range n)[i]? with
 | none=>rw[e] at h;cases h
 | some j=>
   rw[e] at h
   cases h
   have e1:=List.getElem?_eq_some_iff.mp e
   obtain⟨h1,h2⟩:=e1
   rw[List.length_range] at h1
   rw[List.getElem_range] at h2
   subst h2
   exact⟨rfl,h1⟩
def fI (F:Int->V):V->V
 | .int k=>F k
 | v=>v
theorem R9 {lo:Int}{n:Nat}{F:Int->V}{G:Nat->Str}(h:∀ k<n,F (lo+(k:Int)) = .str (G k)):((List.range n).map fun(i:Nat)=>V.int (lo+(i:Int))).map (fI F)=((List.range n).map G).map V.str:=by
 rw[List.map_map,List.map_map]
 refine List.map_congr_left fun k hk=>?_
 exact h k (List.mem_range.mp hk)
theorem R7:LL.length<=sizeLine:=by rw[an3,sizeLine_eq];omega
theorem ExtBut.off {d q:Addr}{H H1 H2:Hp}(e:ExtBut d H H1)(hq:H q=none)(e2:ExtBut q H1 H2):ExtBut d H H2:=fun b o n h=>e2 b o (ne_of_none h hq) (e b o n h)
theorem Same.off {q:Addr}{H H1 H2:Hp}(e:Same H H1)(hq:H q=none)(e2:ExtBut q H1 H2):Same H H2:=fun b o h=>e2 b o (ne_of_none h hq) (e b o h)
theorem Hx {α:Type}{l:List α}{i:Nat}{y:α}(h:i<l.length):l[i]? = some (l.getD i y):=by rw[List.getD_eq_getElem?_getD,List.getElem?_eq_getElem h];rfl
inductive Way (ps:List (Str×Str)):Str->Str->Prop
 | one {x y:Str}:(x,y)∈ps->Way ps x y
 | cons {x z y:Str}:(x,z)∈ps->Way ps z y->Way ps x y
theorem Way.trans {ps:List (Str×Str)}{x y z:Str}(h:Way ps x y)(g:Way ps y z):Way ps x z:=by
 induction h with
 | one e=>exact .cons e g
 | cons e _ ih=>exact .cons e (ih g)
theorem Way.snoc {ps:List (Str×Str)}{x y z:Str}(h:Way ps x y)(g:(y,z)∈ps):Way ps x z:=h.trans (.one g)
theorem Way.left {ps:List (Str×Str)}{x y:Str}(h:Way ps x y):x∈ps.map (·.1):=by
 cases h with
 | one e=>exact List.mem_map.mpr ⟨_,e,rfl⟩
 | cons e _=>exact List.mem_map.mpr ⟨_,e,rfl⟩
theorem Way.right {ps:List (Str×Str)}{x y:Str}(h:Way ps x y):y∈ps.map (·.2):=by
 induction h with
 | one e=>exact List.mem_map.mpr ⟨_,e,rfl⟩
 | cons _ _ ih=>exact ih
theorem Way.shut {ps:List (Str×Str)}{S:Str->Prop}{x:Str}(h0:∀ y,(x,y)∈ps->S y)(h1:∀ z y,S z->(z,y)∈ps->S y){y:Str}(g:Way ps x y):S y:=by
 induction g with
 | one e=>exact h0 _ e
 | cons e _ ih=>exact ih fun y hy=>h1 _ _ (h0 _ e) hy
theorem Pn (ls:List Str):PyData.eqv (.list (ls.map PyData.str)) (.list [])=ls.isEmpty:=by
 cases ls<;>simp[PyData.eqv,PyData.eqvAll]
mutual
def Bg:PyData->Bool
 | .none=>true
 | .bool _=>true
 | .str x=>PyData.strOk x
 | .list ds=>Fh ds
 | .tuple ds=>Fh ds
 | _=>false
def Fh:List PyData->Bool
 | []=>true
 | d :: ds=>Bg d&&Fh ds
end
mutual
theorem Kg:∀ d:PyData,Bg d=true->d.canLay0=true
 | .none,_=>by simp only[PyData.canLay0]
 | .bool _,_=>by simp only[PyData.canLay0]
 | .str x,h=>by simpa only[PyData.canLay0,Bg] using h
 | .list ds,h=>by simp only[PyData.canLay0];exact J5 ds (by simpa only[Bg] using h)
 | .tuple ds,h=>by simp only[PyData.canLay0];exact J5 ds (by simpa only[Bg] using h)
 | .int _,h=>by simp[Bg] at h
 | .dict _,h=>by simp[Bg] at h
theorem J5:∀ ds:List PyData,Fh ds=true->PyData.canLayAll0 ds=true
 | [],_=>by simp only[PyData.canLayAll0]
 | d :: ds,h=>by
   simp only[Fh,Bool.and_eq_true] at h
   simp only[PyData.canLayAll0,Kg d h.1,J5 ds h.2,Bool.and_self]
end
mutual
theorem T5:∀ d:PyData,Bg d=true->d.showable=true
 | .none,_=>by simp only[PyData.showable]
 | .bool _,_=>by simp only[PyData.showable]
 | .str x,h=>by simp only[PyData.showable]
 | .list ds,h=>by simp only[PyData.showable];exact Ky ds (by simpa only[Bg] using h)
 | .tuple ds,h=>by simp only[PyData.showable];exact Ky ds (by simpa only[Bg] using h)
 | .int _,h=>by simp[Bg] at h
 | .dict _,h=>by simp[Bg] at h
theorem Ky:∀ ds:List PyData,Fh ds=true->PyData.showableAll ds=true
 | [],_=>by simp only[PyData.showableAll]
 | d :: ds,h=>by
   simp only[Fh,Bool.and_eq_true] at h
   simp only[PyData.showableAll,T5 d h.1,Ky ds h.2,Bool.and_self]
end
mutual
theorem My:∀ d:PyData,Bg d=true->d.intsShort 13=true
 | .none,_=>by simp only[PyData.intsShort]
 | .bool _,_=>by simp only[PyData.intsShort]
 | .str x,h=>by simp only[PyData.intsShort]
 | .list ds,h=>by simp only[PyData.intsShort];exact Ho ds (by simpa only[Bg] using h)
 | .tuple ds,h=>by simp only[PyData.intsShort];exact Ho ds (by simpa only[Bg] using h)
 | .int _,h=>by simp[Bg] at h
 | .dict _,h=>by simp[Bg] at h
theorem Ho:∀ ds:List PyData,Fh ds=true->PyData.intsShortAll 13 ds=true
 | [],_=>by simp only[PyData.intsShortAll]
 | d :: ds,h=>by
   simp only[Fh,Bool.and_eq_true] at h
   simp only[PyData.intsShortAll,My d h.1,Ho ds h.2,Bool.and_self]
end
structure Fine (d:PyData):Prop where
 plain:Bg d=true
 deep:d.depth<=60
 light:d.weight<=1000000
theorem Fine.sh {d:PyData}(h:Fine d)(hd:a07 d=true):Sh d:=by
 refine⟨hd,T5 d h.plain,?_,Nat.le_trans h.deep (by decide)⟩
 have h2:=PyData.shown_le 13 (by decide) d (PyData.leavesShort_of_canLay0 13 d (Kg d h.plain) (My d h.plain))
 have:=h.light
 rw[sizeLine_eq]
 omega
theorem Kj {z:Str}(h:Sj z=true):PyData.strOk z=true/\z.cps.size<=8:=by
 unfold Sj at h
 simp only[Bool.and_eq_true,decide_eq_true_eq] at h
 refine⟨?_,h.1.2⟩
 unfold PyData.strOk
 rw[<- Array.all_toList,List.all_eq_true]
 intro c hc
 have:=List.all_eq_true.mp h.2 c hc
 unfold Jl at this
 simp only[Bool.and_eq_true,decide_eq_true_eq] at this
 exact decide_eq_true (by omega)
theorem Gz {α:Type}(f:α->PyData):∀ xs:List α,(∀ a∈xs,Bg (f a)=true)->Fh (xs.map f)=true
 | [],_=>by simp only[List.map_nil,Fh]
 | x :: xs,h=>by simp only[List.map_cons,Fh,h x List.mem_cons_self,Gz f xs fun a ha=>h a (List.mem_cons_of_mem _ ha),Bool.and_self]
theorem Gk {α:Type}(f:α->PyData)(n:Nat):∀ xs:List α,(∀ a∈xs,(f a).depth<=n)->PyData.depthAll (xs.map f)<=n
 | [],_=>by simp only[List.map_nil,PyData.depthAll];omega
 | x :: xs,h=>by
   have h1:=h x List.mem_cons_self
   have h2:=Gk f n xs fun a ha=>h a (List.mem_cons_of_mem _ ha)
   simp only[List.map_cons,PyData.depthAll]
   omega
theorem Iz {α:Type}(f:α->PyData)(n:Nat):∀ xs:List α,(∀ a∈xs,(f a).weight<=n)->PyData.weightAll (xs.map f)<=xs.length*(n+1)
 | [],_=>by simp only[List.map_nil,PyData.weightAll];omega
 | x :: xs,h=>by
   have h1:=h x List.mem_cons_self
   have h2:=Iz f n xs fun a ha=>h a (List.mem_cons_of_mem _ ha)
   simp only[List.map_cons,PyData.weightAll,List.length_cons,Nat.add_mul]
   omega
theorem Jy {p:Str×Str}(h1:Sj p.1=true)(h2:Sj p.2=true):Bg (prD p)=true/\(prD p).depth<=1/\(prD p).weight<=18:=by
 have a:=Kj h1
 have b:=Kj h2
 refine⟨by simp only[prD,Bg,Fh,a.1,b.1,Bool.and_self],by simp only[prD,PyData.depth,PyData.depthAll];omega,?_⟩
 simp only[prD,PyData.weight,PyData.weightAll]
 omega
theorem Yv {ns:List Str}(h:∀ z∈ns,Sj z=true):Bg (nmD ns)=true/\(nmD ns).depth<=1/\(nmD ns).weight<=ns.length*9:=by
 refine⟨by simp only[nmD,Bg];exact Gz _ ns fun z hz=>by simp only[Bg];exact(Kj (h z hz)).1,?_,?_⟩
 . simp only[nmD,PyData.depth]
   have:=Gk PyData.str 0 ns fun z hz=>by simp only[PyData.depth];omega
   omega
 simp only[nmD,PyData.weight]
 exact Iz PyData.str 8 ns fun z hz=>by simp only[PyData.weight];exact(Kj (h z hz)).2
def NmP (ps:List (Str×Str)):Prop:=∀ p∈ps,Sj p.1=true/\Sj p.2=true
theorem Yr {ps:List (Str×Str)}(h:NmP ps):Bg (psD ps)=true/\(psD ps).depth<=2/\(psD ps).weight<=ps.length*19:=by
 refine⟨by simp only[psD,Bg];exact Gz _ ps fun z hz=>(Jy (h z hz).1 (h z hz).2).1,?_,?_⟩
 . simp only[psD,PyData.depth]
   have:=Gk prD 1 ps fun z hz=>(Jy (h z hz).1 (h z hz).2).2.1
   omega
 simp only[psD,PyData.weight]
 exact Iz prD 18 ps fun z hz=>(Jy (h z hz).1 (h z hz).2).2.2
theorem ad5 {ns:List Str}{ps:List (Str×Str)}(h:∀ z∈ns,Sj z=true)(g:NmP ps)(hn:ns.length<=1000)(hl:ps.length<=1000):Fine (hfD ns ps):=by
 obtain⟨a,b,c⟩:=Yv h
 obtain⟨a',b',c'⟩:=Yr g
 refine⟨by simp only[hfD,Bg,Fh,a,a',Bool.and_self],?_,?_⟩
 . simp only[hfD,PyData.depth,PyData.depthAll]
   omega
 simp only[hfD,PyData.weight,PyData.weightAll]
 omega
theorem Z5 {ns:List Str}(h:∀ z∈ns,PyData.strOk z=true):SeqAt.shaped (.list (ns.map PyData.str))=true:=by
 unfold SeqAt.shaped
 have e:(PyData.list (ns.map PyData.str)).canLay0=true:=Kg _ (by simp only[Bg];exact Gz _ ns fun z hz=>by simp only[Bg];exact h z hz)
 have e2:(PyData.list (ns.map PyData.str)).depth<=64:=by
  simp only[PyData.depth]
  have:=Gk PyData.str 0 ns fun z hz=>by simp only[PyData.depth];omega
  omega
 rw [e,decide_eq_true e2]
 rfl
theorem By {α:Type}[DecidableEq α]:∀ {xs ys:List α},xs.Nodup->(∀ x∈xs,x∈ys)->xs.length<=ys.length
 | [],_,_,_=>Nat.zero_le _
 | x :: xs,ys,h,hs=>by
   rw[List.nodup_cons] at h
   have hx:x∈ys:=hs x List.mem_cons_self
   have ih:=By (xs:=xs) (ys:=ys.erase x) h.2 fun z hz=>by
    refine(List.mem_erase_of_ne ?_).mpr (hs z (List.mem_cons_of_mem _ hz))
    intro e
    subst e
    exact h.1 hz
   rw[List.length_erase_of_mem hx] at ih
   have:0<ys.length:=List.length_pos_of_mem hx
   rw[List.length_cons]
   omega
section
variable {c:TT}{tb:TS}{D:Ends}{σ:St}{H:Hp}
theorem X3 (W:Nat->St->Hp->Prop)(m:Nat)(h0:W m σ H)
  (hs:∀ m σ H,W m σ H->c σ H fun b H1=>if b=true then ∃ N:St->Hp->Prop,(∀ σ' H',N σ' H'->∃ m',m'<m/\W m' σ' H')/\tb { D with nx:=N,ct:=N,bk:=D.nx } σ H1 else D.nx σ H1):a57 c tb D σ H:=⟨W,⟨m,h0⟩,hs⟩
theorem a52 {W:Nat->St->Hp->Prop}{m:Nat}(h:tb { D with nx:=fun σ' H'=>∃ m',m'<m/\W m' σ' H',ct:=fun σ' H'=>∃ m',m'<m/\W m' σ' H',bk:=D.nx } σ H) :
  ∃ N:St->Hp->Prop,(∀ σ' H',N σ' H'->∃ m',m'<m/\W m' σ' H')/\tb { D with nx:=N,ct:=N,bk:=D.nx } σ H:=⟨_,fun _ _ h=>h,h⟩
end
section
variable {X:Cx}{K:PySem.W.Frag}
def Rf:V->List V->Hp->VK->Prop:=fun x vs H Q=>∃ d o kvs more,x = .ref d/\vs=[.ref o]/\d≠o/\H d=some (.dK kvs)/\H o=some (.dK more)/\kvs.length+more.length<=1000000/\Q .non (upd H d (.dK (Ez kvs more)))
theorem Wr:MtM X "dict.update" Rf:=by
 intro pins s σ H x vs v us Q I rx rv h
 obtain⟨d,o,kvs,more,rfl,rfl,hdo,hD,hO,hz,q⟩:=h
 cases rx
 obtain⟨u,rfl,ru⟩:=rv.one
 cases ru
 obtain⟨z1,hd1,vs1,rel1,dd1⟩:=Pi I.hok hD
 obtain⟨z2,hd2,vs2,rel2,dd2⟩:=Pi I.hok hO
 have l1:kvs.length=vs1.length:=rel1.length
 have l2:more.length=vs2.length:=rel2.length
 refine call_meetsIn F.slot_dict_update dd1.typeIs F.entry_dict_update (F.args_dict_update_2 _ _) (meets_dict_update (Am X.prog X.w) d o hdo hd2) ⟨vs1,vs2,dd1,dd2,A9 (by omega),fun h' dd' _ hs=>?_⟩
 have he:∃ q,h'.get? d=some q:=let ⟨q,_,_,hq,_⟩:=dd';⟨q,hq⟩
 refine⟨.non,_,Nn I (by rw[hD];exact True.intro) hs he (Rr ?_ hd1 (KV.merge rel2 rel1) dd'),rfl,q⟩
 have:=Eh more kvs
 exact A9 (by omega)
end
theorem Kd:entryFor table "dict.update.loop" = some Builtin.«dict.update.loop»:=entryFor_of_tree (by kernel_rfl)
theorem G2:plainId "dict.update.loop" = true:=by decide +kernel
theorem Ou:typeLookup (.type "list") "keys" = pure none:=by rw[typeLookup_type,builtinLookup_eq_fast];kernel_rfl
section
variable {prog:Program}{w:World}{κ:Type}[DecidableEq κ]{knd:KeyKind prog w κ}{A:Around}{E:Value->Shared->Prop}{s:Shared}
theorem Vv {a:Addr}{xs:Array Value}{k:Nat}{Q:Option Value->Shared->Prop}(hx:s.heap.get? a=some { cls:=.type "list",data:=.seq xs k })(hA:A.handled=none)
  (h:∀ h' tk,(∀ b o,s.heap.get? b=some o->h'.get? b=some o)->Q none { s with heap:=h',toks:=tk }):wpAny (model prog w) A (getAttr? (.ref a) "keys") Q E s:=by
 obtain⟨hp,g,d,tk,os⟩:=s
 have hT:∀ tk',(⟨hp,g,d,tk',os⟩:Shared).TypeIs (.ref a) "list":=fun _=>⟨_,hx,rfl⟩
 have f1:=sub_AttributeError
 have f3:=F.slot_list_getattribute.lookup
 have f4:=F.slot_list_getattribute.bind (.ref a)
 have f5:=am_list_getattr_none
 unfold getAttr? getAttrBy? getAttrBy
 repeat (any_goals (first | assumption | exact hT _ | ((with_reducible show wpAny _ _ (call (Value.builtin "list.__getattribute__") _ _) _ _ _);refine call_meets F.slot_list_getattribute (hT _) am_entry_list_getattribute (F.args_list_getattribute_2 _ _) (meets_getattribute_miss_list a xs k #[] "keys" _ Ou (by decide +kernel) (by rw[sizeLine_eq];decide +kernel)) ⟨hx,hA,fun h' tk' e hx'=>?_⟩) | wp_step))
 obtain⟨t',u',he⟩:=hx'.there
 show wpAny _ _ (getattributeRaised _ _ _ _ _ _ _) _ _ _
 unfold getattributeRaised
 repeat (any_goals (first | assumption | wp_step))
 exact h _ _ hx'.keeps
theorem Ud {t:Addr}{k v:Value}{Q:List Value->Shared->Prop}(ht:IsTup s.heap t #[k,v])(h:Q [k,v] s):wpAny (model prog w) A (Builtin.Dict.pairItems (.ref t)) Q E s:=by
 obtain⟨o,ho,hc,n,hd⟩:=ht
 unfold Builtin.Dict.pairItems
 refine wpAny_bind (wpAny_typeOf ⟨o,ho,hc⟩ ?_)
 rw[if_pos (by decide)]
 refine wpAny_bind (wpAny_seqItems ho hd ?_)
 exact wpAny_pure h
theorem Wd {I D l:Addr}{items:Array Value}(hh:A.in1.handled=none)(hne:l≠I)(hDI:D≠I)(hDl:D≠l)(pk:List (κ×Value×Addr×Value))(hlen:pk.length=items.size)(hz:items.size<=1000000) :
  ∀(j i:Nat) (s:Shared) (R:Result->Shared->Prop),items.size-i=j->i<=items.size->s.heap.IsListIter I l i->s.heap.IsList l items ->
   s.heap.DictOf knd D (merged [] ((pk.take i).map fun p=>(p.1,p.2.1))) ->
   (∀(n:Nat) (p:κ×Value×Addr×Value),pk[n]? = some p->items[n]? = some (Value.ref p.2.2.1)/\p.2.2.1≠I/\p.2.2.1≠D/\IsTup s.heap p.2.2.1 #[p.2.2.2,p.2.1]/\knd.is p.1 p.2.2.2=true) ->
   (∀ h' tk,h'.DictOf knd D (merged [] (pk.map fun p=>(p.1,p.2.1)))->(∀ b o,b≠D->b≠I->s.heap.get? b=some o->h'.get? b=some o)->R (.ok (.ret .none)) { s with heap:=h',toks:=tk }) ->
   codeAny (model prog w) A (.builtin "dict.update.loop" ⟨[.ref D,.ref I,.int i 0,.none],[]⟩) R s:=by
 have W:=Walks.list (prog:=prog) (w:=w) hh I l hne items
 intro j
 induction j with
 | zero=>
   intro i s R hj hi hI hL hD hP hR
   have hin:i=items.size:=by omega
   subst hin
   refine codeAny_builtin Kd ?_
   rw[Around.under_plainId G2 _]
   show wpAny _ A.in1 (pyNext (.ref I) >>= _) _ _ s
   refine wpAny_bind (W.done s _ _ ⟨hI,hL⟩ fun h' tk hm=>?_)
   show wpAny _ A.in1 (Builtin.Dict.addKeywords D [] >>= _) _ _ _
   refine wpAny_bind (wpAny_pure (wpAny_pure (hR h' tk ?_ fun b o hb hb' e=>hm b o (by simpa using hb') e)))
   rw[<- hlen,List.take_length] at hD
   obtain⟨o,es,ep,ho,r⟩:=hD
   exact⟨o,es,ep,hm D o (by simpa using hDI) ho,r⟩
 | succ j ih=>
   intro i s R hj hi hI hL hD hP hR
   have hlt:i<items.size:=by omega
   obtain⟨p,hp⟩:∃ p,pk[i]? = some p:=⟨pk[i]'(by omega),List.getElem?_eq_getElem _⟩
   obtain⟨q1,q2,q3,q4,q5⟩:=hP i p hp
   refine codeAny_builtin Kd ?_
   rw[Around.under_plainId G2 _]
   show wpAny _ A.in1 (pyNext (.ref I) >>= _) _ _ s
   refine wpAny_bind (W.item i s _ _ hlt ⟨hI,hL⟩ fun v h' tk hv hst hm=>?_)
   have hv':v = .ref p.2.2.1:=by
    have hv2:items[i]? = some v:=hv
    rw[q1] at hv2
    exact(Option.some.inj hv2).symm
   subst hv'
   have ht':IsTup h' p.2.2.1 #[p.2.2.2,p.2.1]:=by
    obtain⟨o,ho,r⟩:=q4
    exact⟨o,hm _ o (by simpa using q2) ho,r⟩
   have hD':h'.DictOf knd D (merged [] ((pk.take i).map fun p=>(p.1,p.2.1))):=by
    obtain⟨o,es,ep,ho,r⟩:=hD
    exact⟨o,es,ep,hm D o (by simpa using hDI) ho,r⟩
   show wpAny _ A.in1 (holding [Value.ref p.2.2.1] _ >>= _) _ _ _
   refine wpAny_bind (wpAny_holding ?_)
   refine wpAny_bind (wpAny_tryCatch (Ud ht' ?_))
   show wpAny _ A.in1 (holding [p.2.2.2,p.2.1] (dictSet D p.2.2.2 p.2.1)) _ _ _
   refine wpAny_holding (wpAny_dictSet_pairs q5 hD' (fun h'' hD'' hs=>?_) ?_)
   . refine wpAny_pure ⟨plainId_quiet G2 _,?_⟩
     have hkeep:∀ b o,b≠D->b≠I->s.heap.get? b=some o->h''.get? b=some o:=fun b o h1 h2 e=>(hs.2 b h1).trans (hm b o (by simpa using h2) e)
     refine ih (i+1) _ R (by omega) hlt ?_ ?_ ?_ (fun n p' hp'=>?_) fun h3 tk3 hD3 hk3=>hR h3 tk3 hD3 fun b o h1 h2 e=>hk3 b o h1 h2 (hkeep b o h1 h2 e)
     . exact hst.1.at fun o e=>(hs.2 I (Ne.symm hDI)).trans e
     . exact hst.2.at fun o e=>(hs.2 l (Ne.symm hDl)).trans e
     . have e:merged [] ((pk.take (i+1)).map fun p=>(p.1,p.2.1))=stored (merged [] ((pk.take i).map fun p=>(p.1,p.2.1))) p.1 p.2.1:=by
        rw[List.take_add_one,hp]
        unfold merged
        rw[List.map_append,List.foldl_append]
        rfl
       rw[e]
       exact hD''
     obtain⟨a1,a2,a3,⟨o,ho,r⟩,a5⟩:=hP n p' hp'
     exact⟨a1,a2,a3,⟨o,hkeep _ o a3 a2 ho,r⟩,a5⟩
   refine Nat.le_trans (merged_length_le _ _) (A9 ?_)
   rw[List.length_map,List.length_take]
   simp
   omega
theorem Le {l:Addr}{items:Array Value}{n:Nat}{Q:Value->Shared->Prop}(hl:s.heap.get? l=some { cls:=.type "list",data:=.seq items n })(hA:A.handled=none)(pk:List (κ×Value×Addr×Value))(hlen:pk.length=items.size)(hz:items.size<=1000000)
  (hP:∀(n:Nat) (p:κ×Value×Addr×Value),pk[n]? = some p->items[n]? = some (Value.ref p.2.2.1)/\IsTup s.heap p.2.2.1 #[p.2.2.2,p.2.1]/\knd.is p.1 p.2.2.2=true)
  (h:∀ h' tk,h'.DictOf knd s.heap.objs.size (merged [] (pk.map fun p=>(p.1,p.2.1)))->(∀ b o,s.heap.get? b=some o->h'.get? b=some o)->Q (.ref s.heap.objs.size) { s with heap:=h',toks:=tk }) :
  wpAny (model prog w) A (call (.type "dict") [.ref l]) Q E s:=by
 refine callType_codes (Q₁:=fun obj s₁=>obj = .ref s.heap.objs.size/\s₁={ s with heap:=s.heap.push { cls:=.type "dict",data:=.dict #[] } }) F.kt_called_dict (F.kt_typeCall_dict_1 _) F.entry_dict_init (kt_code_dict_new _ ⟨rfl,rfl⟩) ?_
 rintro obj s₁ ⟨rfl,rfl⟩
 have hnew:(s.heap.push { cls:=.type "dict",data:=.dict #[] }).DictOf knd s.heap.objs.size []:=Heap.DictOf.new s.heap
 have hl':(s.heap.push { cls:=.type "dict",data:=.dict #[] }).get? l=some { cls:=.type "list",data:=.seq items n }:=Heap.get?_push_of_some _ hl
 have hll:l<s.heap.objs.size:=Heap.lt_size hl
 refine⟨hnew.typeIs,F.args_dict_init_2 _ _,?_⟩
 unfold Builtin.«dict.__init__»
 refine wpAny_bind ?_
 unfold Builtin.Dict.selfAndRest
 refine wpAny_bind (wpAny_notOrdered_dict hnew.typeIs ?_)
 show wpAny _ _ (pure (s.heap.objs.size,[Value.ref l])) _ _ _
 refine wpAny_pure ?_
 show wpAny _ _ (Builtin.Dict.updateFrom "dict.__init__" s.heap.objs.size (.ref l) [] .none) _ _ _
 unfold Builtin.Dict.updateFrom
 refine wpAny_bind (wpAny_typeOf ⟨_,hl',rfl⟩ ?_)
 rw[if_pos (by decide)]
 refine wpAny_bind (Vv hl' (by simpa using hA) fun h1 tk1 hk1=>?_)
 have hl1:h1.get? l=some { cls:=.type "list",data:=.seq items n }:=hk1 _ _ hl'
 rw[if_pos (show(none:Option Value).isNone=true from rfl)]
 have hD1:h1.DictOf knd s.heap.objs.size []:=by
  obtain⟨o,es,ep,ho,r⟩:=hnew
  exact⟨o,es,ep,hk1 _ _ ho,r⟩
 have hsz:s.heap.objs.size<h1.objs.size:=by
  obtain⟨o,es,ep,ho,r⟩:=hD1
  exact Heap.lt_size ho
 refine wpAny_bind (wpAny_rule ?_)
 have hL1:h1.IsList l items:=⟨_,hl1,rfl,n,rfl⟩
 refine wpAny_bind (wpAny_pyIter_list hL1 ?_)
 refine wpAny_pure ⟨plainId_quiet G2 _,?_⟩
 have kp:∀ b o,s.heap.get? b=some o->(h1.push { cls:=.type "list_iterator",data:=.fields #[.ref l,.int 0 0] }).get? b=some o:=fun b o e=>Heap.get?_push_of_some _ (hk1 _ _ (Heap.get?_push_of_some _ e))
 refine Wd (knd:=knd) (A:=A.in1) (I:=h1.objs.size) (D:=s.heap.objs.size) (l:=l) (items:=items) (by simpa using hA) (Nat.ne_of_lt (Nat.lt_trans hll hsz)) (Nat.ne_of_lt hsz) (Nat.ne_of_gt hll) pk hlen hz items.size 0 _ _ (Nat.sub_zero _) (Nat.zero_le _) ⟨_,Heap.get?_push_size _ rfl,rfl,rfl⟩ (hL1.push _) ?_ (fun m p hp=>?_) fun h' tk hD hk=>?_
 . exact hD1.push _
 . obtain⟨a1,⟨o,ho,r⟩,a3⟩:=hP m p hp
   have hlt:=Heap.lt_size ho
   exact⟨a1,Nat.ne_of_lt (Nat.lt_trans hlt hsz),Nat.ne_of_lt hlt,⟨o,kp _ _ ho,r⟩,a3⟩
 refine⟨rfl,h h' tk hD fun b o e=>?_⟩
 have hlt:=Heap.lt_size e
 exact hk b o (Nat.ne_of_lt hlt) (Nat.ne_of_lt (Nat.lt_trans hlt hsz)) (kp b o e)
end
def PrsK (K:PySem.W.Frag)(H:Hp):List (Key×V)->List V->Prop
 | [],ys=>ys=[]
 | kv :: r,ys=>∃ t ys',ys = .ref t :: ys'/\SqT K H t [kV kv.1,kv.2]/\PrsK K H r ys'
theorem PrsK.pk {X:Cx}{pins:List (Addr×Obj)}{σ:St}{H:Hp}{s:Shared}(I:Inv X pins σ H s):∀(kvs:List (Key×V)) (ys:List V) (its:List Value),PrsK X.K H kvs ys->Vals ys its ->
  ∃ pk:List (Key×Value×Addr×Value),pk.length=its.length/\KV kvs (pk.map fun p=>(p.1,p.2.1))/\∀(n:Nat) (p:Key×Value×Addr×Value),pk[n]? = some p->its[n]? = some (Value.ref p.2.2.1)/\IsTup s.heap p.2.2.1 #[p.2.2.2,p.2.1]/\(Am X.prog X.w).is p.1 p.2.2.2=true
 | [],ys,its,h,v=>by
   have h':ys=[]:=h
   subst h'
   cases v
   exact ⟨[],rfl,.nil,fun n p hp=>by simp at hp⟩
 | kv :: r,ys,its,h,v=>by
   obtain⟨t,ys',rfl,h2,h3⟩:=h
   cases v with
   | cons v1 v2=>
     obtain⟨pk,l1,l2,l3⟩:=PrsK.pk I r ys' _ h3 v2
     cases v1
     obtain ⟨its2,rv,ht,_⟩:=I.tuple h2
     obtain⟨key,val,rfl,a1,a3⟩:=Vals.two rv
     refine⟨(kv.1,val,t,key) :: pk,by simp[l1],.cons ⟨rfl,a3⟩ l2,fun n p hp=>?_⟩
     cases n with
     | zero=>
       have:p=(kv.1,val,t,key):=(Option.some.inj (by simpa using hp)).symm
       subst this
       exact⟨rfl,ht,Oa a1⟩
     | succ n=>exact l3 n p (by simpa using hp)
section
variable {X:Cx}{K:PySem.W.Frag}
def Uv (K:PySem.W.Frag):List V->Hp->VK->Prop:=fun xs H Q=>∃ l ys kvs,xs=[V.ref l]/\H l=some (.lst ys)/\PrsK K H kvs ys/\ys.length<=1000000/\kvs.length<=1000000/\∀ p,H p=none->Q (.ref p) (upd H p (.dK (Ez [] kvs)))
theorem Tu (hr:X.A.handled=none):CallR X (.type "dict") (Uv X.K):=by
 intro pins s σ H xs us Q I rv h
 obtain⟨l,ys,kvs,rfl,hl,hp,hz,hz2,q⟩:=h
 obtain⟨u,rfl,ru⟩:=rv.one
 cases ru
 obtain⟨z,its,n,r,hlen,e⟩:=I.lstM hl
 obtain⟨pk,l1,l2,l3⟩:=PrsK.pk I kvs ys its hp r
 refine Le (knd:=Am X.prog X.w) e hr pk (by simpa using l1) (by simp;omega) (fun n p hp=>?_) fun h' tk hD hk=>?_
 . obtain⟨a1,a2,a3⟩:=l3 n p hp
   exact⟨by simpa using a1,a2,a3⟩
 refine⟨.ref s.heap.objs.size,_,I.laid hk (Nat.le_refl _) (Rr ?_ ?_ (KV.merge l2 .nil) hD),rfl,q _ (I.hok.fresh (Nat.le_refl _))⟩
 . have:=Eh kvs []
   exact A9 (by simpa using Nat.le_trans this (by simpa using hz2))
 exact beq_eq_false_iff_ne.mpr (Nat.ne_of_gt I.big)
theorem Uc (hr:X.A.handled=none)(hK:X.K=K:=by ac_nf):CallR X (.type "dict") (Uv K):=hK ▸ Tu hr
end
def J8 (ns:List Str)(as:List Addr):List (Key×V):=(ns.zip as).map fun p=>(Sum.inr p.1,V.ref p.2)
def J3 (ks:List Str):List (Key×V):=ks.map fun y=>(Sum.inr y,V.bl true)
theorem K9:∀ {ns:List Str} {as:List Addr} {i:Nat} {z:Str} {a:Addr},ns.Nodup->ns[i]? = some z->as[i]? = some a->Di (J8 ns as) (Sum.inr z:Key)=some (.ref a)
 | [],_,i,_,_,_,h,_=>by simp at h
 | n :: ns,[],i,_,_,_,_,h=>by simp at h
 | n :: ns,b :: as,0,z,a,_,h,g=>by
   simp at h g
   subst h g
   exact Bh rfl
 | n :: ns,b :: as,i+1,z,a,hn,h,g=>by
   rw[List.nodup_cons] at hn
   have h':ns[i]? = some z:=by simpa using h
   have ne:¬ (Sum.inr n:Key)=Sum.inr z:=by
    intro e
    have e2:n=z:=by injection e
    subst e2
    exact hn.1 (List.mem_of_getElem? h')
   show Di ((Sum.inr n,V.ref b) :: J8 ns as) _=_
   rw[B9 ne]
   exact K9 hn.2 h' (by simpa using g)
theorem Sd (y:Str):∀ ks:List Str,Di (J3 ks) (Sum.inr y:Key)=if y∈ks then some (.bl true) else none
 | []=>by simp[J3,Z7]
 | k :: ks=>by
   show Di ((Sum.inr k,V.bl true) :: J3 ks) _=_
   by_cases e:k=y
   . subst e
     rw[Bh rfl,if_pos List.mem_cons_self]
   rw[B9 (by intro q;injection q with q;exact e q),Sd y ks]
   have:(y∈k :: ks)↔y∈ks:=by simp[Ne.symm e]
   simp only[this]
def Xw (ks:List Str)(y:Str):List Str:=if y∈ks then ks else ks++[y]
theorem mem_addK {ks:List Str}{y z:Str}:z∈Xw ks y↔z∈ks\/z=y:=by
 unfold Xw
 split
 . constructor
   . exact .inl
   rintro(h | rfl)
   . exact h
   assumption
 simp
theorem Mh {ks:List Str}{y:Str}(h:ks.Nodup):(Xw ks y).Nodup:=by
 unfold Xw
 split
 . exact h
 rename_i hy
 rw[List.nodup_append]
 refine⟨h,by simp,fun a ha b hb e=>?_⟩
 have:b=y:=by simpa using hb
 subst this
 subst e
 exact hy ha
theorem a68 (y:Str)(ks:List Str):((J3 ks).any fun kv=>decide (kv.1=(Sum.inr y:Key)))=decide (y∈ks):=by
 induction ks with
 | nil=>simp[J3]
 | cons k ks ih=>
   show(decide ((Sum.inr k:Key)=Sum.inr y)||(J3 ks).any _)=_
   rw[ih]
   by_cases e:k=y
   . subst e;simp
   have e':¬ (Sum.inr k:Key)=Sum.inr y:=by intro q;injection q with q;exact e q
   simp[e',Ne.symm e]
theorem Ui (ks:List Str)(y:Str):Gh (J3 ks) (Sum.inr y:Key) (.bl true)=J3 (Xw ks y):=by
 unfold Gh Xw
 rw[a68]
 by_cases h:y∈ks
 . rw[if_pos (decide_eq_true h),if_pos h]
   unfold J3
   rw[List.map_map]
   refine List.map_congr_left fun k _=>?_
   show(if(Sum.inr k:Key)=Sum.inr y then(Sum.inr k,V.bl true) else(Sum.inr k,V.bl true))=_
   split<;>rfl
 rw[if_neg (by simpa using h),if_neg h]
 unfold J3
 rw[List.map_append]
 rfl
def Ci (ks ms:List Str):List Str:=ms.foldl Xw ks
theorem Qe:∀(ms ks:List Str),Ez (J3 ks) (J3 ms)=J3 (Ci ks ms)
 | [],ks=>rfl
 | m :: ms,ks=>by
   show Ez (Gh (J3 ks) (Sum.inr m) (.bl true)) (J3 ms)=_
   rw[Ui,Qe ms]
   rfl
theorem mem_addAll:∀ {ms ks:List Str} {z:Str},z∈Ci ks ms↔z∈ks\/z∈ms
 | [],ks,z=>by simp[Ci]
 | m :: ms,ks,z=>by
   show z∈Ci (Xw ks m) ms↔_
   rw[mem_addAll,mem_addK,List.mem_cons,or_assoc]
theorem Gp:∀ {ms ks:List Str},ks.Nodup->(Ci ks ms).Nodup
 | [],ks,h=>h
 | m :: ms,ks,h=>Gp (ms:=ms) (Mh h)
theorem Rh (ks:List Str):(J3 ks).length=ks.length:=by simp[J3]
theorem Qh:∀(kvs acc:List (Key×V)),(kvs.map (·.1)).Nodup->(∀ k∈kvs,∀ q∈acc,q.1≠k.1)->Ez acc kvs=acc++kvs
 | [],acc,_,_=>by simp[Ez]
 | k :: kvs,acc,hn,hd=>by
   show Ez (Gh acc k.1 k.2) kvs=_
   have e:Gh acc k.1 k.2=acc++[k]:=by
    unfold Gh
    have:¬ (acc.any fun kv=>decide (kv.1=k.1))=true:=by
     rw[List.any_eq_true]
     rintro⟨q,hq,e⟩
     exact hd k List.mem_cons_self q hq (of_decide_eq_true e)
    rw[if_neg this]
   rw[List.map_cons,List.nodup_cons] at hn
   rw[e,Qh kvs (acc++[k]) hn.2 fun x hx q hq=>?_,List.append_assoc]
   . rfl
   rcases List.mem_append.mp hq with hq | hq
   . exact hd x (List.mem_cons_of_mem _ hx) q hq
   have:q=k:=by simpa using hq
   subst this
   intro e
   exact hn.1 (List.mem_map.mpr ⟨x,hx,e.symm⟩)
structure Tab (H:Hp)(r:Addr)(ns:List Str)(as:List Addr)(R:Str->Str->Prop):Prop where
 len:as.length=ns.length
 nd:as.Nodup
 nr:r∉as
 top:H r=some (.dK (J8 ns as))
 row:∀(i:Nat) (z:Str) (a:Addr),ns[i]? = some z->as[i]? = some a->∃ ks:List Str,H a=some (.dK (J3 ks))/\ks.Nodup/\(∀ y∈ks,y∈ns)/\∀ y,y∈ks↔R z y
theorem Tab.same {H H':Hp}{r:Addr}{ns:List Str}{as:List Addr}{R:Str->Str->Prop}(h:Tab H r ns as R)(e:Same H H'):Tab H' r ns as R:=
 ⟨h.len,h.nd,h.nr,e _ _ h.top,fun i z a hz ha=>let ⟨ks,h1,h2⟩:=h.row i z a hz ha;⟨ks,e _ _ h1,h2⟩⟩
theorem Tab.congr {H:Hp}{r:Addr}{ns:List Str}{as:List Addr}{R R':Str->Str->Prop}(h:Tab H r ns as R)(e:∀ z∈ns,∀ y,R z y↔R' z y):Tab H r ns as R':=
 ⟨h.len,h.nd,h.nr,h.top,fun i z a hz ha=>let ⟨ks,h1,h2,h3,h4⟩:=h.row i z a hz ha;⟨ks,h1,h2,h3,fun y=>(h4 y).trans (e z (List.mem_of_getElem? hz) y)⟩⟩
theorem Tab.put {H H':Hp}{r b:Addr}{ns:List Str}{as:List Addr}{R R':Str->Str->Prop}(h:Tab H r ns as R)(e:ExtBut b H H'){j:Nat}{x:Str}(hn:ns.Nodup)(hj:ns[j]? = some x)(hb:as[j]? = some b){ks:List Str}
  (hk:H' b=some (.dK (J3 ks))) (k1:ks.Nodup) (k2:∀ y∈ks,y∈ns) (k3:∀ y,y∈ks↔R' x y) (k4:∀ z∈ns,z≠x->∀ y,R z y↔R' z y):Tab H' r ns as R':=by
 refine⟨h.len,h.nd,h.nr,e _ _ (fun q=>h.nr (q ▸ List.mem_of_getElem? hb)) h.top,fun i z a hz ha=>?_⟩
 by_cases hij:i=j
 . subst hij
   rw[hz] at hj
   cases hj
   rw[ha] at hb
   cases hb
   exact⟨ks,hk,k1,k2,k3⟩
 obtain⟨ms,h1,h2,h3,h4⟩:=h.row i z a hz ha
 have hab:a≠b:=by
  intro q
  subst q
  obtain⟨p1,p2⟩:=List.getElem?_eq_some_iff.mp ha
  obtain⟨q1,q2⟩:=List.getElem?_eq_some_iff.mp hb
  exact hij ((List.getElem_inj h.nd).mp (p2.trans q2.symm))
 have hzx:z≠x:=by
  intro q
  subst q
  obtain⟨p1,p2⟩:=List.getElem?_eq_some_iff.mp hz
  obtain⟨q1,q2⟩:=List.getElem?_eq_some_iff.mp hj
  exact hij ((List.getElem_inj hn).mp (p2.trans q2.symm))
 exact⟨ms,e _ _ hab h1,h2,h3,fun y=>(h4 y).trans (k4 z (List.mem_of_getElem? hz) hzx y)⟩
theorem Tab.at {H:Hp}{r:Addr}{ns:List Str}{as:List Addr}{R:Str->Str->Prop}(h:Tab H r ns as R){x:Str}(hx:x∈ns):∃(i:Nat) (a:Addr),ns[i]? = some x/\as[i]? = some a:=by
 obtain⟨i,hi,e⟩:=List.getElem_of_mem hx
 have hi':i<as.length:=by rw[h.len];exact hi
 exact⟨i,as[i],by rw[List.getElem?_eq_getElem hi,e],List.getElem?_eq_getElem hi'⟩
section
variable {K:PySem.W.Frag}{H:Hp}{Q:VK}{r:Addr}{ns:List Str}{as:List Addr}{R:Str->Str->Prop}
theorem Oo {x:Str}{i:Nat}{a:Addr}(h:Tab H r ns as R)(hn:ns.Nodup)(hx:ns[i]? = some x)(ha:as[i]? = some a)(k:Q (.ref a) H):Uh K (.ref r) (.str x) H Q:=i_ixD h.top (K9 hn hx ha) k
theorem Nf {a:Addr}{ks:List Str}{y:Str}(h:H a=some (.dK (J3 ks)))(k:Q (.bl (decide (y∈ks))) H):Xi K false (.str y) (.ref a) H Q:=by
 refine .inr (.inr (.inl ⟨a,Di (J3 ks) (Sum.inr y:Key),rfl,DGet.k (k:=Sum.inr y) h,?_⟩))
 rw[Sd]
 by_cases e:y∈ks
 . rw[if_pos e];simpa[e] using k
 rw[if_neg e];simpa[e] using k
theorem ac4 {a:Addr}{kvs:List (Key×V)}{B:Prop}(h:H a=some (.dK kvs))(k:B):tyV K "dict" (.ref a) H/\B:=⟨.inr (.inr (.inl ⟨rfl,.inl ⟨kvs,h⟩⟩)),k⟩
theorem at2 {d o:Addr}{ks ms:List Str}(hd:H d=some (.dK (J3 ks)))(ho:H o=some (.dK (J3 ms)))(hne:d≠o)(hz:ks.length+ms.length<=1000000)(k:∀ H',ExtBut d H H'->H' d=some (.dK (J3 (Ci ks ms)))->Q .non H'):Rf (.ref d) [.ref o] H Q:=
 ⟨d,o,_,_,rfl,rfl,hne,hd,ho,by rw[Rh,Rh];exact hz,k _ ExtBut.upd (by rw[Ab,Qe])⟩
end
structure HalfW (ns:List Str)(ps:List (Str×Str)):Prop where
 nd:ns.Nodup
 mem:∀ p∈ps,p.1∈ns/\p.2∈ns
 irr:∀ x,¬ Way ps x x
 few:ns.length<=100
 le:ps.length<=1000
structure War (ns:List Str)(ps:List (Str×Str))(ms:List Str)(R:Str->Str->Prop):Prop where
 snd:∀ z y,R z y->Way ps z y
 edge:∀ z y,(z,y)∈ps->R z y
 shut:∀ m∈ms,∀ z y,R z m->R m y->R z y
def a63 (R:Str->Str->Prop)(mid:Str)(ms:List Str)(z y:Str):Prop:=R z y\/(z∈ms/\R z mid/\R mid y)
theorem War.step {ns:List Str}{ps:List (Str×Str)}{ms:List Str}{R:Str->Str->Prop}(h:War ns ps ms R){mid:Str}:War ns ps (ms++[mid]) (fun z y=>R z y\/(R z mid/\R mid y)):=by
 refine⟨fun z y hz=>?_,fun z y hz=>.inl (h.edge z y hz),fun m hm z y h1 h2=>?_⟩
 . rcases hz with hz | ⟨h1,h2⟩
   . exact h.snd z y hz
   exact(h.snd _ _ h1).trans (h.snd _ _ h2)
 rcases List.mem_append.mp hm with hm | hm
 . rcases h1 with h1 | ⟨h1,h1'⟩
   . rcases h2 with h2 | ⟨h2,h2'⟩
     . exact .inl (h.shut m hm z y h1 h2)
     exact .inr ⟨h.shut m hm z mid h1 h2,h2'⟩
   rcases h2 with h2 | ⟨h2,h2'⟩
   . exact .inr ⟨h1,h.shut m hm mid y h1' h2⟩
   exact .inr ⟨h1,h2'⟩
 have e:m=mid:=by simpa using hm
 subst e
 rcases h1 with h1 | ⟨h1,h1'⟩
 . rcases h2 with h2 | ⟨h2,h2'⟩
   . exact .inr ⟨h1,h2⟩
   exact .inr ⟨h1,h2'⟩
 rcases h2 with h2 | ⟨h2,h2'⟩
 . exact .inr ⟨h1,h2⟩
 exact .inr ⟨h1,h2'⟩
theorem War.done {ns:List Str}{ps:List (Str×Str)}{R:Str->Str->Prop}(h:War ns ps ns R)(hm:∀ p∈ps,p.1∈ns/\p.2∈ns)(z y:Str):R z y↔Way ps z y:=by
 refine⟨h.snd z y,fun g=>?_⟩
 induction g with
 | one e=>exact h.edge _ _ e
 | cons e _ ih=>exact h.shut _ (hm _ e).2 _ _ (h.edge _ _ e) ih
theorem PrsK.fz {K:PySem.W.Frag} {H H':Hp} (e:Fz H H'):∀ {kvs:List (Key×V)} {ys:List V},PrsK K H kvs ys->PrsK K H' kvs ys
 | [],_,h=>h
 | kv :: r,ys,⟨t,ys',h1,h2,h3⟩=>⟨t,ys',h1,e.seq h2,PrsK.fz e h3⟩
theorem PrsK.snoc {K:PySem.W.Frag}{H:Hp}{kv:Key×V}{t:Addr}(h:SqT K H t [kV kv.1,kv.2]):∀ {kvs:List (Key×V)} {ys:List V},PrsK K H kvs ys->PrsK K H (kvs++[kv]) (ys++[.ref t])
 | [],ys,g=>by
   have g':ys=[]:=g
   subst g'
   exact⟨t,[],rfl,h,rfl⟩
 | k :: r,ys,⟨u,ys',h1,h2,h3⟩=>by
   subst h1
   exact⟨u,ys'++[.ref t],rfl,h2,PrsK.snoc h h3⟩
theorem PrsK.length {K:PySem.W.Frag}{H:Hp}:∀ {kvs:List (Key×V)} {ys:List V},PrsK K H kvs ys->ys.length=kvs.length
 | [],ys,g=>by
   have g':ys=[]:=g
   subst g'
   rfl
 | k :: r,ys,⟨u,ys',h1,h2,h3⟩=>by
   subst h1
   simp[PrsK.length h3]
theorem ao7 {K:PySem.W.Frag}{H:Hp}{Q:VK}{l:Addr}{ys:List V}{kvs:List (Key×V)}(h:H l=some (.lst ys))(g:PrsK K H kvs ys)(hz:kvs.length<=1000000)(k:∀ p H',H p=none->Same H H'->H' p=some (.dK (Ez [] kvs))->Q (.ref p) H'):Uv K [.ref l] H Q:=
 ⟨l, ys,kvs,rfl,h,g,by rw[g.length];exact hz,hz,fun p hp=>k p _ hp (Same.upd hp) Ab⟩
theorem Rv:∀ {ns:List Str} {as:List Addr},ns.Nodup->((J8 ns as).map (·.1)).Nodup
 | [],as,_=>by simp[J8]
 | n :: ns,[],_=>by simp[J8]
 | n :: ns,a :: as,h=>by
   rw[List.nodup_cons] at h
   show((Sum.inr n:Key) :: (J8 ns as).map (·.1)).Nodup
   rw[List.nodup_cons]
   refine⟨fun hm=>?_,Rv h.2⟩
   obtain⟨kv,hkv,e⟩:=List.mem_map.mp hm
   obtain⟨p,hp,rfl⟩:=List.mem_map.mp hkv
   have e':p.1=n:=by injection e
   exact h.1 (e' ▸ (List.of_mem_zip hp).1)
theorem Sa {ns:List Str}{as:List Addr}{z:Str}{a:Addr}(h:ns.length=as.length):J8 (ns++[z]) (as++[a])=J8 ns as++[(Sum.inr z,V.ref a)]:=by
 unfold J8
 rw[List.zip_append h,List.map_append]
 rfl
end L2
namespace L2
open PySem PySem.Spec PyProof.Rows
open Classical in
def Hv (ps:List (Str×Str))(x y:Str):Bool:=decide (Way ps x y)
theorem wayB_iff {ps:List (Str×Str)} {x y:Str}:Hv ps x y=true↔Way ps x y:=by unfold Hv;simp
theorem ad3 {ps:List (Str×Str)}{x y:Str}{b:Bool}(h:b=true↔Way ps x y):b=Hv ps x y:=by
 cases hb:Hv ps x y with
 | true=>exact h.mpr (wayB_iff.mp hb)
 | false=>
   cases b with
   | false=>rfl
   | true=>
     have:=wayB_iff.mpr (h.mp rfl)
     rw[hb] at this
     cases this
theorem Oh {ps:List (Str×Str)}{x y:Str}{p:Prop}[Decidable p](h:p↔Way ps x y):decide p=Hv ps x y:=ad3 (by rw[decide_eq_true_iff];exact h)
theorem iteR {α:Type}{a:α}{A B:Prop}[Decidable (a=a)](h:A):if decide (a=a)=true then A else B:=by rw[if_pos (by simp)];exact h
theorem iteNR {α:Type}{a:α}{A B:Prop}[Decidable (a=a)](h:B):if(!decide (a=a))=true then A else B:=by rw[if_neg (by simp)];exact h
theorem itebb {b:Bool}{A B:Prop}(h:A):if(b==b)=true then A else B:=by rw[if_pos (by simp)];exact h
section
variable {K:PySem.W.Frag}{H:Hp}{σ:St}{x:V}{Q:VK}
theorem W0 {ns:List Str}{g:TG}{tt:TT}{te:TE}{k:Nat}{js:List Nat}(h:Is K H (nmD ns) x)(t:Str->Bool)(f:Str->PyData)(hf:∀ a,frz (f a)=true)(hz:ns.length<=1000000)
  (hs:∀(i:Nat) a H1 (R:VK) (R':Hp->Prop),ns[i]? = some a->Same H H1->(t a=true->∀ y H2,Same H1 H2->Is K H2 (f a) y->R y H2)->(t a=false->∀ H2,Same H1 H2->R' H2) ->
   g (.str a) (List.replicate k none++Mo σ js) H1 fun σ2 H2=>tt σ2 H2 fun b H3=>if b=true then te σ2 H3 R else R' H3)
  (hd:∀ p ys H',H p=none->Same H H'->H' p=some (.lst ys)->IsL K H' ((ns.filter t).map f) ys->Q (.ref p) H'):Ih K x H fun J H1=>Rb k js g tt te σ J H1 Q:=by
 obtain⟨a,rfl,hS⟩:=h.nm
 refine Kf hS (Em (K:=K) (Da (xs:=ns.map V.str)) ns (by simp) t f hf (by simpa using hz) (fun H' e=>e.seqT hS) (fun i z v H1 R R' hz hv e hR hR'=>?_) hd)
 rw[List.getElem?_map,hz] at hv
 cases hv
 exact hs i z H1 R R' hz e hR hR'
theorem Vb {ps:List (Str×Str)}{a:Addr}{ys:List V}(h:H a=some (.lst ys))(g:IsL K H (ps.map prD) ys)(k:∀ v H',Same H H'->Is K H' (psD ps) v->Q v H'):Kh K [.ref a] H Q:=
 G6 (SqL.of h) fun p H' hp e h'=>k _ H' e (Is.of_tup (SqT.of h') (IsL.mono e _ _ g))
end
end L2
namespace L2
open PySem PySem.Spec PyProof.Rows
open AutoSeq1 (wpAny_loadPart')
section
variable {prog:Program}{w:World}{A:Around}{E:Value->Shared->Prop}{s:Shared}
theorem ab3 {it t:Addr}{i:Nat}{items:Array Value}{x:Value}{Q:Value->Shared->Prop}(hit:s.heap.IsTupleIter it t i)(ht:s.heap.IsTuple t items)(hx:items[i]? = some x)
  (hQ:∀ h',h'.IsTupleIter it t (i+1)->Heap.SameBut it s.heap h'->Q x { s with heap:=h' }):wpAny (model prog w) A (Builtin.SmallTypes.nextOf (.ref it)) Q E s:=by
 obtain⟨o,o1,o2,o3⟩:=id hit
 obtain⟨u,u1,_,n,u2⟩:=ht
 unfold Builtin.SmallTypes.nextOf
 refine wpAny_bind (wpAny_callSpecial?_slot (name:=Str.ofString "__next__") hit.typeIs F.slot_tuple_iterator_next (wpAny_call_entry F.slot_tuple_iterator_next hit.typeIs F.entry_tuple_iterator_next ?_ (F.args_tuple_iterator_next_1 _)))
 refine wpAny_bind (m:=field (.ref it) 0) (wpAny_field o1 o3 (x:=.ref t) rfl ?_)
 rw[if_neg (show ¬ ((Value.ref t==Value.none)=true) by intro h;cases h)]
 refine wpAny_bind (m:=field (.ref it) 1) (wpAny_field o1 o3 (x:=.int i 0) rfl ?_)
 refine wpAny_bind (m:=seqItems? (.ref t)) (wpAny_seqItems u1 u2 ?_)
 simp only[Int.toNat_natCast,hx]
 refine wpAny_bind (wpAny_setField o1 o3 (by simp) (wpAny_pure ⟨x,rfl,wpAny_pure (hQ _ ⟨_,Heap.get?_update_self _ o1 (Obj.isFreed_of_fields (Obj.data_mapFields o3 _)),(Obj.cls_mapFields ..).trans o2,?_⟩ (Heap.SameBut.update ..))⟩))
 rw[Obj.data_mapFields o3]
 simp[rawInt]
theorem ah5 {it t:Addr}{i:Nat}{items:Array Value}{Q:Value->Shared->Prop}(hh:A.handled=none)(hit:s.heap.IsTupleIter it t i)(ht:s.heap.IsTuple t items)(hx:items[i]? = none)
  (hE:∀ h' e,Heap.ExtBut it s.heap h'->(∃ o,h'.get? e=some o/\o.cls = .type "StopIteration")->E (.ref e) { s with heap:=h' }):wpAny (model prog w) A (Builtin.SmallTypes.nextOf (.ref it)) Q E s:=by
 obtain⟨o,o1,o2,o3⟩:=id hit
 obtain⟨u,u1,_,n,u2⟩:=ht
 unfold Builtin.SmallTypes.nextOf
 refine wpAny_bind (wpAny_callSpecial?_slot (name:=Str.ofString "__next__") hit.typeIs F.slot_tuple_iterator_next (wpAny_call_entry F.slot_tuple_iterator_next hit.typeIs F.entry_tuple_iterator_next ?_ (F.args_tuple_iterator_next_1 _)))
 refine wpAny_bind (m:=field (.ref it) 0) (wpAny_field o1 o3 (x:=.ref t) rfl ?_)
 rw[if_neg (show ¬ ((Value.ref t==Value.none)=true) by intro h;cases h)]
 refine wpAny_bind (m:=field (.ref it) 1) (wpAny_field o1 o3 (x:=.int i 0) rfl ?_)
 refine wpAny_bind (m:=seqItems? (.ref t)) (wpAny_seqItems u1 u2 ?_)
 simp only[Int.toNat_natCast,hx]
 refine wpAny_bind (wpAny_rule (wpAny_bind (wpAny_setField o1 o3 (by simp) ?_)))
 refine wpAny_bind (m:=newExc (.type "StopIteration") []) ?_
 simp only[newExc,newTuple]
 refine wpAny_bind (wpAny_newObj_type ?_ (by size_fits))
 refine wpAny_bind (m:=firstArgMember _ _) (wpAny_of_eq (a:=Value.none) (by first | rfl | (simp only[firstArgMember];rfl)) (wpAny_newObj_type ?_ (by size_fits)))
 simp only[raiseNew]
 refine wpAny_bind (wpAny_handled ?_)
 first | rw[show A.in1.handled=none from hh] | rw[hh]
 refine wpAny_bind (wpAny_pure (wpAny_throw (hE _ _ (((Heap.SameBut.update ..).extBut.push _).push _) ⟨_,Heap.get?_push_size _ rfl,rfl⟩)))
theorem a45 (hh:A.handled=none)(it t:Addr)(hne:t≠it)(items:Array Value):Draws prog w A it [it,t] items.size (fun i v=>items[i]? = some v) (fun i h=>h.IsTupleIter it t i/\h.IsTuple t items) where
 live:=fun _ _ q=>let ⟨o,ho,_⟩:=q.1;⟨o,ho⟩
 frame:=fun _ _ _ q hk=>⟨q.1.at fun o e=>hk it (by simp) o e,let ⟨o,ho,r⟩:=q.2;⟨o,hk t (by simp) o ho,r⟩⟩
 item:=fun i s Q E hi q hQ=>ab3 q.1 q.2 (x:=items[i]) (by simp[hi]) fun h' a b=>hQ _ h' s.toks (by simp[hi]) ⟨a,q.2.extBut b.extBut hne⟩ b
 done:=fun s Q E q hE=>ah5 hh q.1 q.2 (by simp) hE
theorem R5 (l:Addr)(items:Array Value)(n:Nat)(dct:Option Addr)(sl:Array (Option Value)) :
  Meets (Builtin.«enumerate.__new__» ⟨[.type "enumerate",.ref l],[]⟩) (fun _ R s=>s.heap.get? l=some { cls:=.type "tuple",dict:=dct,data:=.seq items n,slots:=sl } /\
   R (.ok (.ret (.ref (s.heap.push { cls:=.type "tuple_iterator",data:=.fields #[.ref l,.int 0 0] }).objs.size)))
    { s with heap:=(s.heap.push { cls:=.type "tuple_iterator",data:=.fields #[.ref l,.int 0 0] }).push { cls:=.type "enumerate",data:=.fields #[.none,.bool false,.ref s.heap.objs.size,rawInt 0,.none,.none] } }):=
 .of_wp fun prog w A R s h=>by
  obtain⟨hp,g,d,tk,os⟩:=s
  obtain⟨hl,h⟩:=h
  have hsub:=sub_enumerate
  have hT:Heap.IsTuple (Shared.heap ⟨hp,g,d,tk,os⟩) l items:=⟨_,hl,rfl,n,rfl⟩
  wp_walk using wpAny_loadPart' hl
  refine wpAny_stack_any fun st=>wpAny_pure ?_
  split
  . rename_i c _ _ _ _ _
    cases (c==Value.type "enumerate")<;>(wp_walk using wpAny_loadPart' hl,wpAny_pyIter_tuple hT;exact⟨_,rfl,h⟩)
  wp_walk using wpAny_loadPart' hl,wpAny_pyIter_tuple hT
  exact⟨_,rfl,h⟩
theorem Tj {l:Addr}{items:Array Value}{Q:Value->Shared->Prop}(hL:s.heap.IsTuple l items)
  (h:∀ h',IsEnum h' (s.heap.objs.size+1) s.heap.objs.size 0 .none->h'.IsTupleIter s.heap.objs.size l 0->(∀ b o,s.heap.get? b=some o->h'.get? b=some o)->Q (.ref (s.heap.objs.size+1)) { s with heap:=h' }) :
  wpAny (model prog w) A (call (.type "enumerate") [.ref l]) Q E s:=by
 obtain⟨⟨c,dct,dt,sl⟩,hl,hc,n,hd⟩:=hL
 replace hc:c = .type "tuple":=hc
 replace hd:dt = .seq items n:=hd
 subst hc hd
 refine callType_new F.called_enumerate (by decide) (F.typeCall_enumerate_1 _) (F.newCall_enumerate_1 _) (fun obj=>F.args_object_init_2 obj _) F.entry_enumerate_new (R5 l items n dct sl) ⟨hl,?_⟩
 have hz:(s.heap.push { cls:=.type "tuple_iterator",data:=.fields #[.ref l,.int 0 0] }).objs.size=s.heap.objs.size+1:=Heap.size_push ..
 show _/\_
 have he:=Heap.get?_push_size (s.heap.push { cls:=.type "tuple_iterator",data:=.fields #[.ref l,.int 0 0] }) (o:={ cls:=.type "enumerate",data:=.fields #[.none,.bool false,.ref s.heap.objs.size,rawInt 0,.none,.none] }) rfl
 rw[hz] at he ⊢
 exact⟨⟨_,he,rfl⟩,h _ he ⟨_,Heap.get?_push_of_some _ (Heap.get?_push_size _ rfl),rfl,rfl⟩ fun b o x=>Heap.get?_push_of_some _ (Heap.get?_push_of_some _ x)⟩
end
theorem Inv.turnedL {X:Cx}{pins:List (Addr×Obj)}{σ:St}{H:Hp}{s:Shared}{h':Heap}{t':Nat}{ch:List Addr}(I:Inv X pins σ H s)(k:∀ b o,b∉ch->s.heap.get? b=some o->h'.get? b=some o)(hf:∀ b∈ch,Sq X pins H b):Inv X pins σ H { s with heap:=h',toks:=t' }:=by
 have nit:∀ b u,H b=some u->b∉ch:=fun b u e z=>by rw[(hf b z).1] at e;cases e
 refine I.step (g':=s.gens) (d':=s.drawn) (ch:=ch) (fun b hb=>?_) (fun b o _ _ hc e _=>k b o hc e) (fun b o _ _ hc e _=>⟨o.slots,k b o hc e⟩) (fun _ _ _ _ n=>n)
  (fun b o hc e=>⟨o,k b o hc e⟩) (fun _ _ e=>e) (fun _ _ _ e=>e) (fun b ps e=>⟨#[],by rw[e];simp⟩) (fun m hm=>?_) (fun b u e=>?_) I.bare
 . obtain⟨_,h2,_,h4,h5,h6⟩:=hf b hb
   exact⟨h4,h2,h5,h6⟩
 . obtain⟨o,es,ep,ho,r⟩:=hm
   exact⟨o,es,ep,k _ o (fun z=>(hf _ z).2.1 rfl) ho,r⟩
 refine(I.hok b u e).stay (fun c v hc q=>k c v ?_ q) (fun _ q=>q) fun _ _ q=>q
 rcases hc with z | z
 . rw[z];exact nit b u e
 exact nit c _ z
def Ite (K:PySem.W.Frag)(a:Addr):It:=
 ⟨fun i H=>∃ xs x,SqT K H a xs/\xs[i]? = some x,fun i H v H'=>∃ t x,H t=none/\H'=upd H t (.tup [.int i,x])/\v = .ref t/\∀ xs,SqT K H a xs->xs[i]? = some x,fun i H=>∃ xs,SqT K H a xs/\xs.length=i⟩
theorem X8 {P:Program}{w:World}{K:PySem.W.Frag}{elts:List Expr}{ek:Nat}{epos:Pos}(a it e:Addr)(hei:e≠it)(hai:a≠it)(hae:a≠e):Yk P w K (.Tuple elts ek epos) (Ite K a) [e,it] e (fun i h=>(∃ old,IsEnum h e it i old)/\h.IsTupleIter it a i) where
 mem:=by simp
 obj:=fun i h st b hb=>by
  obtain⟨⟨old,h1⟩,o,h2,h3,h4⟩:=st
  rcases List.mem_cons.mp hb with rfl | hb
  . exact⟨_,h1,fun v z=>by cases z⟩
  have q:b=it:=by simpa using hb
  subst q
  exact⟨o,h2,fun v z=>by rw[h4] at z;cases z⟩
 keep:=fun i h h' st k=>by
  obtain⟨⟨old,h1⟩,h2⟩:=st
  exact⟨⟨old,k e (by simp) _ h1⟩,h2.at fun o q=>k it (by simp) o q⟩
 item:=by
  intro X hP hw hK hc i pins s σ H E I hf st hg
  subst hP hw hK
  obtain⟨xs,x,hq,hx⟩:=hg
  obtain⟨its,rv,p,hz⟩:=I.tuple hq
  have hil:i<its.length:=by
   have:=(List.getElem?_eq_some_iff.mp hx).1
   rw[<- rv.length]
   exact this
  have D:=a45 (prog:=X.prog) (w:=X.w) (A:=X.A.in1) (by simpa using I.ok.hd hc) it a hai its.toArray
  obtain⟨⟨old,he⟩,hit⟩:=st
  have hel:e<s.heap.objs.size:=Heap.lt_size he
  have hil':it<s.heap.objs.size:=let ⟨_,q,_⟩:=hit;Heap.lt_size q
  refine wpAny_pyNext_enum_itemD D he ⟨hit,p⟩ (by simpa using hil) hei (by simp[hei,Ne.symm hae]) fun v h1 tk hv ho hst hT hsz hk=>?_
  obtain⟨u,hu,ru⟩:=rv.get hx
  have hvu:v=u:=by
   have hv':its.toArray[i]? = some v:=hv
   rw[List.getElem?_toArray,hu] at hv'
   exact(Option.some.inj hv').symm
  subst hvu
  refine⟨_,rfl,wpAny_letOwnedTupleGo_enum ho fun h2 he2 hs2=>?_⟩
  have hTn:H s.heap.objs.size=none:=I.hok.fresh (Nat.le_refl _)
  have hT2:h2.get? s.heap.objs.size=some { cls:=.type "tuple",data:=.seq #[.int i tk,v] }:=(hs2.2 _ (Nat.ne_of_gt hel)).trans hT
  have I1:Inv X pins σ (upd H s.heap.objs.size (.tup [.int i,x])) { s with heap:=s.heap.push { cls:=.type "tuple",data:=.seq #[.int i tk,v] } }:=
   I.laid (t':=s.toks) (fun b ob q=>Heap.get?_push_of_some _ q) (Nat.le_refl _) ⟨by simp[sizeLine_eq],[.int i tk,v],.cons ⟨tk,rfl⟩ (.cons ru .nil),_,Heap.get?_push_size _ rfl,rfl,⟨_,rfl⟩,rfl⟩
  have nT:∀ b∈[e,it],b≠s.heap.objs.size:=fun b hb=>by
   rcases List.mem_cons.mp hb with rfl | hb
   . exact Nat.ne_of_lt hel
   have q:b=it:=by simpa using hb
   subst q
   exact Nat.ne_of_lt hil'
  have I2:Inv X pins σ (upd H s.heap.objs.size (.tup [.int i,x])) { s with heap:=h2,toks:=tk+1 }:=Inv.turnedL (s:={ s with heap:=s.heap.push { cls:=.type "tuple",data:=.seq #[.int i tk,v] } }) (ch:=[e,it]) I1 (fun b ob hb q=>?_) (fun b hb=>?_)
  . refine⟨.ref s.heap.objs.size,_,I2,rfl,⟨_,x,hTn,rfl,rfl,fun ys hy=>by rw[I.tuple_inj hy hq];exact hx⟩,⟨⟨_,by simpa using he2⟩,hst.1.at fun o q=>(hs2.2 it (Ne.symm hei)).trans q⟩,fun b hb=>?_⟩
    rw[Ar (nT b hb)]
    exact(hf b hb).1
  . have hbe:b≠e:=fun z=>hb (by simp[z])
    have hbi:b≠it:=fun z=>hb (by simp[z])
    rcases Heap.get?_push_cases q with ⟨rfl,rfl⟩ | q
    . exact hT2
    exact(hs2.2 b hbe).trans (hk b ob hbe hbi q)
  obtain⟨f0,f1,f2,f3,f4,f5⟩:=hf b hb
  exact⟨by rw[Ar (nT b hb)];exact f0,f1,f2,f3,f4,f5⟩
 done:=by
  intro X hP hw hK hc i pins s σ H E I hf st hg
  subst hP hw hK
  obtain⟨xs,hq,hx⟩:=hg
  obtain⟨its,rv,p,hz⟩:=I.tuple hq
  obtain⟨⟨old,he⟩,hit⟩:=st
  have hlen:its.toArray.size=i:=by rw[List.size_toArray,<- rv.length];exact hx
  have D:=a45 (prog:=X.prog) (w:=X.w) (A:=X.A.in1) (by simpa using I.ok.hd hc) it a hai its.toArray
  rw[hlen] at D
  refine wpAny_pyNext_enum_endD D he ⟨hit,p⟩ fun h' hk=>⟨rfl,I.turnedL (t':=s.toks) (ch:=[e,it]) (fun b o hb q=>hk b o (fun z=>hb (by simp[z])) q) hf⟩
 self:=by
  intro A i s Q E st hQ
  obtain⟨⟨old,he⟩,_⟩:=st
  exact wpAny_pyIter_enum he hQ
section
variable {X:Cx}{K:PySem.W.Frag}
def Y7 (K:PySem.W.Frag)(vs:List V)(H:Hp)(R:It->Hp->Prop):Prop:=∃ a xs,vs=[.ref a]/\SqT K H a xs/\R (Ite K a) H
def ak2 (K:PySem.W.Frag)(ta:TA):TI:=fun σ H R=>ta σ H fun vs H1=>Y7 K vs H1 R
theorem Lz:bootBuiltins "enumerate" = some (.type "enumerate"):=PyProof.Rows.Boot.«enumerate»
theorem ab6 {e:Expr}{ta:TA}{p pos:Pos}{elts:List Expr}{ek:Nat}{epos:Pos}(hg:Gl X "enumerate")(hm:X.mg "enumerate" = none)(ha:PA X [e] ta)(hK:X.K=K:=by ac_nf)(hs:starEach [e] X.env=[(false,eval e X.env)]:=by ac_nf) :
  PI X (.Tuple elts ek epos) (.Call (.Name "enumerate" p) [e] [] pos) (ak2 K ta):=by
 subst hK
 intro pins s σ H R I h
 refine Call_ (Jh I hg hm Lz (PyProof.Rows.callWith_type1 (thn (ha pos pins s σ H _ I h) fun us s1 ⟨vs,H1,I1,r1,q1⟩=>?_) hs rfl))
 obtain⟨a,xs,rfl,hq,q⟩:=q1
 obtain⟨u,rfl,ru⟩:=Vals.one r1
 cases ru
 obtain⟨its,rv,ht,hz⟩:=I1.tuple hq
 have hal:a<s1.heap.objs.size:=let ⟨_,q,_⟩:=ht;Heap.lt_size q
 refine Tj ht fun h' he hit hk=>?_
 refine wpAny_pyIter_enum he ?_
 refine⟨s1.heap.objs.size+1,[s1.heap.objs.size+1,s1.heap.objs.size],_,_,H1,rfl,I1.kept (t':=s1.toks) hk,X8 a s1.heap.objs.size (s1.heap.objs.size+1) (Nat.succ_ne_self _) (Nat.ne_of_lt hal) (Nat.ne_of_lt (Nat.lt_succ_of_lt hal)),⟨⟨_,he⟩,hit⟩,fun b hb=>?_,q⟩
 rcases List.mem_cons.mp hb with rfl | hb
 . exact I1.fpOk (Nat.le_succ _) (I1.hok.fresh (Nat.le_succ _))
 have e:b=s1.heap.objs.size:=by simpa using hb
 subst e
 exact I1.fpOk (Nat.le_refl _) (I1.hok.fresh (Nat.le_refl _))
end
section
variable {K:PySem.W.Frag}{σ:St}{H:Hp}
theorem i_ienum {ts:TA}{R:It->Hp->Prop}(k:ts σ H fun vs H1=>Y7 K vs H1 R):ak2 K ts σ H R:=k
theorem Ys {xs:List V}{a:Addr}{n m:Nat}{tb:TS}{D:Ends}(h:SqT K H a xs)(Pv:Nat->St->Hp->Prop)(h0:Pv 0 σ H)(hG:∀ i σ' H',Pv i σ' H'->SqT K H' a xs)
  (hs:∀ i x σ' H' H2,xs[i]? = some x->Pv i σ' H'->Same H' H2->tb { D with nx:=Pv (i+1),ct:=Pv (i+1),bk:=D.nx } ((σ'.set n (some (.int i))).set m (some x)) H2) (hd:∀ σ' H',Pv xs.length σ' H'->D.nx σ' H') :
  Y7 K [.ref a] H fun J H1=>aa9 (am6 K 2 (R8 (Js n) (R8 (Js m) ap5))) tb D σ J H1:=by
 refine⟨a,xs,rfl,h,fun i k σ' H'=>k=xs.length-i/\i<=xs.length/\Pv i σ' H',⟨xs.length,by simp,Nat.zero_le _,h0⟩,?_⟩
 rintro i k σ' H' ⟨rfl,hi,p⟩
 have g:=hG i σ' H' p
 by_cases hlt:i<xs.length
 . refine .inr ⟨⟨xs,xs[i],g,List.getElem?_eq_getElem hlt⟩,Pv (i+1),fun σ2 H2 p2=>⟨xs.length-(i+1),by omega,rfl,hlt,p2⟩,fun v H2 y=>?_⟩
   obtain⟨t,x,ht,rfl,rfl,hx⟩:=y
   exact⟨t,_,rfl,SqT.of Ab,rfl,.int i,[x],rfl,x,[],rfl,rfl,hs i x σ' H' _ (hx xs g) p (Same.upd ht)⟩
 have e:i=xs.length:=by omega
 subst e
 exact .inl ⟨⟨xs,g,rfl⟩,hd σ' H' p⟩
theorem ad0 {ps:List (Str×Str)}{x:V}{n m:Nat}{tb:TS}{D:Ends}(h:Is K H (psD ps) x)(Pv:Nat->St->Hp->Prop)(h0:Pv 0 σ H)(hG:∀ i σ' H',Pv i σ' H'->Fz H H')
  (hs:∀ i p v σ' H' H2,ps[i]? = some p->Is K H2 (prD p) v->Pv i σ' H'->Same H' H2->tb { D with nx:=Pv (i+1),ct:=Pv (i+1),bk:=D.nx } ((σ'.set n (some (.int i))).set m (some v)) H2) (hd:∀ σ' H',Pv ps.length σ' H'->D.nx σ' H') :
  Y7 K [x] H fun J H1=>aa9 (am6 K 2 (R8 (Js n) (R8 (Js m) ap5))) tb D σ J H1:=by
 obtain⟨a,xs,rfl,hS,hL⟩:=Is.tup h
 have hl:ps.length=xs.length:=by rw[<- IsL.length hL,List.length_map]
 refine Ys hS Pv h0 (fun i σ' H' p=>(hG i σ' H' p).seq hS) (fun i v σ' H' H2 hv p e=>?_) fun σ' H' p=>hd σ' H' (by rw[<- hl] at p;exact p)
 obtain ⟨d,e1,e2⟩:=IsL.get (IsL.fz ((hG i σ' H' p).trans e.fz) _ _ (K8 ps) hL) hv
 rw[List.getElem?_map] at e1
 cases hn:ps[i]? with
 | none=>rw[hn] at e1;cases e1
 | some z=>
   rw[hn] at e1
   cases e1
   exact hs i z v σ' H' H2 hn e2 p e
end
end L2
namespace L2
open PySem PySem.Spec PyProof.Rows
section
variable {X:Cx}{K:PySem.W.Frag}
section
variable {H:Hp}{Q:VK}{lo hi:Option Int}
theorem a49 {a b:Addr}{xs ys:List V}(h1:SqT K H a xs)(h2:SqT K H b ys)(h:xs.length+ys.length<=sizeLine)(k:∀ p H',Same H H'->SqT K H' p (xs++ys)->Q (.ref p) H'):Tq K (.ref a) (.ref b) H Q:=by
 by_cases hx:xs=[]
 . subst hx
   exact .inr (.inr (.inr (.inr ⟨a,b,ys,rfl,rfl,h1,h2,k b H (Same.refl _) h2⟩)))
 refine .inr (.inr (.inr (.inl ⟨a,b,xs,ys,rfl,rfl,h1,h2,hx,h,fun e=>?_,fun _ p hp=>k p _ (Same.upd hp) (SqT.of Ab)⟩)))
 subst e
 exact k a H (Same.refl _) (by rw[List.append_nil];exact h1)
end
end
def jsD (js:List Nat):PyData:=.tuple (js.map fun(j:Nat)=>PyData.int (j:Int))
theorem a66 (js:List Nat):frz (jsD js)=true:=by
 unfold jsD
 simp only[frz]
 exact Hz _ (fun _=>by simp[frz]) js
structure Trl (ps:List (Str×Str))(x:Str)(js:List Nat)(y:Str)(os:List Str):Prop where
 len:os.length=js.length
 hd:(os++[y])[0]? = some x
 ed:∀(i j:Nat),js[i]? = some j->∃ a b,(os++[y])[i]? = some a/\(os++[y])[i+1]? = some b/\ps[j]? = some (a,b)
 nd:(os++[y]).Nodup
theorem Trl.nil (ps:List (Str×Str))(x:Str):Trl ps x [] x []:=⟨rfl,rfl,fun i j h=>by simp at h,by simp⟩
theorem Trl.snoc {ps:List (Str×Str)}{x y z:Str}{js:List Nat}{os:List Str}{j:Nat}(h:Trl ps x js y os)(hj:ps[j]? = some (y,z))(hz:z∉os++[y]):Trl ps x (js++[j]) z (os++[y]):=by
 refine⟨by simp[h.len],?_,fun i k hk=>?_,?_⟩
 . rw[List.getElem?_append_left (by simp)]
   exact h.hd
 . by_cases hi:i<js.length
   . rw[List.getElem?_append_left hi] at hk
     obtain⟨a,b,h1,h2,h3⟩:=h.ed i k hk
     have l:=h.len
     refine⟨a,b,?_,?_,h3⟩
     . rw[List.getElem?_append_left (by simp;omega)]
       exact h1
     rw[List.getElem?_append_left (by simp;omega)]
     exact h2
   have hi':i=js.length:=by
    have:=(List.getElem?_eq_some_iff.mp hk).1
    rw[List.length_append,List.length_singleton] at this
    omega
   subst hi'
   have e:k=j:=by simpa using hk.symm
   subst e
   have l:=h.len
   refine⟨y,z,?_,?_,hj⟩
   . rw[List.getElem?_append_left (by simp;omega),<- l]
     simp
   rw[<- l]
   simp
 rw[List.nodup_append]
 refine⟨h.nd,by simp,fun a ha b hb e=>?_⟩
 have:b=z:=by simpa using hb
 subst this
 subst e
 exact hz ha
theorem Trl.way {ps:List (Str×Str)}:∀ {js:List Nat} {x y:Str} {os:List Str},Trl ps x js y os->x=y\/Way ps x y:=by
 intro js x y os h
 have l:=h.len
 suffices g:∀ i,i<=js.length->∀ z,(os++[y])[i]? = some z->z=x\/Way ps x z by
  rcases g js.length (Nat.le_refl _) y (by rw[<- l];simp) with e | e
  . exact .inl e.symm
  exact .inr e
 intro i
 induction i with
 | zero=>
   intro _ z hz
   rw[h.hd] at hz
   exact .inl (Option.some.inj hz).symm
 | succ i ih=>
   intro hi z hz
   obtain⟨j,hj⟩:∃ j,js[i]? = some j:=⟨js[i]'(by omega),List.getElem?_eq_getElem _⟩
   obtain⟨a,b,h1,h2,h3⟩:=h.ed i j hj
   rw[hz] at h2
   cases h2
   rcases ih (by omega) a h1 with e | e
   . subst e
     exact .inr (.one (List.mem_of_getElem? h3))
   exact .inr (e.snoc (List.mem_of_getElem? h3))
structure WyI (ps:List (Str×Str))(x:Str)(ks ws:List Str):Prop where
 nd:ks.Nodup
 has:x∈ks
 way:∀ y∈ks,y=x\/Way ps x y
 line:∀ z∈ws,z∈ks
 shut:∀ z∈ks,z∉ws->∀ y,(z,y)∈ps->y∈ks
 few:ws.length<=ks.length
theorem WyI.le {ps:List (Str×Str)}{x:Str}{ks ws:List Str}(h:WyI ps x ks ws):ks.length<=ps.length+1:=by
 have:=By (ys:=x :: ps.map (·.2)) h.nd fun y hy=>by
  rcases h.way y hy with e | e
  . exact e ▸ List.mem_cons_self
  exact List.mem_cons_of_mem _ e.right
 rwa[List.length_cons,List.length_map] at this
structure WyJ (ps:List (Str×Str))(x here:Str)(ks ws gs ms:List Str)(i:Nat):Prop where
 nd:gs.Nodup
 way:∀ y∈gs,y=x\/Way ps x y
 line:∀ z∈ms,z∈gs
 keep:∀ z∈ks,z∈gs
 keepL:∀ z∈ws,z∈ms
 new:∀ z∈gs,z∈ks\/z∈ms
 seen:∀ j<i,∀ y,ps[j]? = some (here,y)->y∈gs
 len:gs.length+ws.length=ks.length+ms.length
theorem WyJ.le {ps:List (Str×Str)}{x here:Str}{ks ws gs ms:List Str}{i:Nat}(h:WyJ ps x here ks ws gs ms i):gs.length<=ps.length+1:=by
 have:=By (ys:=x :: ps.map (·.2)) h.nd fun y hy=>by
  rcases h.way y hy with e | e
  . exact e ▸ List.mem_cons_self
  exact List.mem_cons_of_mem _ e.right
 rwa[List.length_cons,List.length_map] at this
theorem WyJ.step {ps:List (Str×Str)}{x here:Str}{ks ws gs ms:List Str}{i:Nat}{p:Str×Str}(h:WyJ ps x here ks ws gs ms i)(hh:here∈gs)(hp:ps[i]? = some p)(h1:p.1=here)(h2:p.2∉gs):WyJ ps x here ks ws (gs++[p.2]) (ms++[p.2]) (i+1):=by
 have hm:(here,p.2)∈ps:=by rw[<- h1];exact List.mem_of_getElem? hp
 refine⟨?_,fun y hy=>?_,fun z hz=>?_,fun z hz=>List.mem_append_left _ (h.keep z hz),fun z hz=>List.mem_append_left _ (h.keepL z hz),fun z hz=>?_,fun j hj y e=>?_,?_⟩
 . rw[List.nodup_append]
   refine⟨h.nd,by simp,fun a ha b hb e=>?_⟩
   have:b=p.2:=by simpa using hb
   subst this
   subst e
   exact h2 ha
 . rcases List.mem_append.mp hy with hy | hy
   . exact h.way y hy
   have:y=p.2:=by simpa using hy
   subst this
   rcases h.way here hh with rfl | hw
   . exact .inr (.one hm)
   exact .inr (hw.snoc hm)
 . rcases List.mem_append.mp hz with hz | hz
   . exact List.mem_append_left _ (h.line z hz)
   exact List.mem_append_right _ hz
 . rcases List.mem_append.mp hz with hz | hz
   . rcases h.new z hz with e | e
     . exact .inl e
     exact .inr (List.mem_append_left _ e)
   exact .inr (List.mem_append_right _ hz)
 . by_cases hji:j=i
   . subst hji
     rw[hp] at e
     cases e
     exact List.mem_append_right _ (by simp)
   exact List.mem_append_left _ (h.seen j (by omega) y e)
 rw[List.length_append,List.length_append,List.length_singleton]
 have:=h.len
 omega
theorem WyJ.skip {ps:List (Str×Str)}{x here:Str}{ks ws gs ms:List Str}{i:Nat}{p:Str×Str}(h:WyJ ps x here ks ws gs ms i)(hp:ps[i]? = some p)(h1:p.1=here->p.2∈gs):WyJ ps x here ks ws gs ms (i+1):=by
 refine⟨h.nd,h.way,h.line,h.keep,h.keepL,h.new,fun j hj y e=>?_,h.len⟩
 by_cases hji:j=i
 . subst hji
   rw[hp] at e
   cases e
   exact h1 rfl
 exact h.seen j (by omega) y e
theorem WyJ.done {ps:List (Str×Str)}{x here:Str}{ks ws gs ms:List Str}(I:WyI ps x ks (here :: ws))(h:WyJ ps x here ks ws gs ms ps.length):WyI ps x gs ms:=by
 refine⟨h.nd,h.keep x I.has,h.way,h.line,fun z hz hm y hy=>?_,?_⟩
 . by_cases e:z=here
   . subst e
     obtain⟨j,hj,ej⟩:=List.getElem_of_mem hy
     exact h.seen j hj y (by rw[List.getElem?_eq_getElem hj,ej])
   have hz':z∈ks:=by
    rcases h.new z hz with q | q
    . exact q
    exact absurd q hm
   refine h.keep y (I.shut z hz' (fun q=>?_) y hy)
   rcases List.mem_cons.mp q with q | q
   . exact e q
   exact hm (h.keepL z q)
 have:=h.len
 have:=I.few
 rw[List.length_cons] at this
 omega
theorem WyI.all {ps:List (Str×Str)}{x:Str}{ks:List Str}(h:WyI ps x ks []){y:Str}(g:Way ps x y):y∈ks:=
 Way.shut (S:=fun y=>y∈ks) (fun y hy=>h.shut x h.has (by simp) y hy) (fun z y hz hy=>h.shut z hz (by simp) y hy) g
theorem a95 {ns:List Str}{as:List Addr}{z:Str}{a:Addr}(hz:z∉ns)(h:ns.length=as.length):Gh (J8 ns as) (Sum.inr z:Key) (.ref a)=J8 (ns++[z]) (as++[a]):=by
 rw[Sa h]
 unfold Gh
 rw[if_neg]
 rw[List.any_eq_true]
 rintro⟨kv,hkv,e⟩
 obtain⟨p,hp,rfl⟩:=List.mem_map.mp hkv
 have e':(Sum.inr p.1:Key)=Sum.inr z:=of_decide_eq_true e
 have e2:p.1=z:=by injection e'
 exact hz (e2 ▸ (List.of_mem_zip hp).1)
theorem G0:∀ {ns:List Str} {as:List Addr} {z:Str},z∉ns->Di (J8 ns as) (Sum.inr z:Key)=none
 | [],_,_,_=>rfl
 | n :: ns,[],_,_=>rfl
 | n :: ns,a :: as,z,h=>by
   show Di ((Sum.inr n,V.ref a) :: J8 ns as) _=_
   rw[B9 (by intro q;injection q with q;exact h (q ▸ List.mem_cons_self))]
   exact G0 fun q=>h (List.mem_cons_of_mem _ q)
section
variable {K:PySem.W.Frag}{σ:St}{H:Hp}{Q:VK}{td ty:TE}
def a51 (ty:TE)(σ:St)(x:V)(H1:Hp)(Q:VK):Prop:=∃ a,x = .ref a/\IsD H1 a/\ty σ H1 fun y H2=>∃ o,DGet H2 a y o/\Q (o.getD .non) H2
theorem i_dget1 (k:td σ H fun x H1=>a51 ty σ x H1 Q):Zu td ty σ H Q:=k
theorem ao9 {a:Addr}{kvs:List (Key×V)}(h:H a=some (.dK kvs))(k:ty σ H fun y H2=>∃ o,DGet H2 a y o/\Q (o.getD .non) H2):a51 ty σ (.ref a) H Q:=⟨a,rfl,.inl ⟨kvs,.inl h⟩,k⟩
theorem ao1 {a:Addr}{kvs:List (Key×V)}{z:Str}(h:H a=some (.dK kvs))(k:Q ((Di kvs (Sum.inr z:Key)).getD .non) H):∃ o,DGet H a (.str z) o/\Q (o.getD .non) H:=⟨_,DGet.k (k:=Sum.inr z) h,k⟩
theorem Zk {r:Addr}{ks:List Str}{ts:List Addr}{z:Str}(h:H r=some (.dK (J8 ks ts)))(hl:ts.length=ks.length)(k:Q (.bl (!decide (z∈ks))) H):Xi K true (.str z) (.ref r) H Q:=by
 refine .inr (.inr (.inl ⟨r,Di (J8 ks ts) (Sum.inr z:Key),rfl,DGet.k (k:=Sum.inr z) h,?_⟩))
 by_cases e:z∈ks
 . obtain⟨i,hi,ei⟩:=List.getElem_of_mem e
   have:(Di (J8 ks ts) (Sum.inr z:Key)).isSome=true:=by
    suffices g:∀(ks:List Str) (ts:List Addr),ts.length=ks.length->z∈ks->(Di (J8 ks ts) (Sum.inr z:Key)).isSome=true from g ks ts hl e
    intro ks
    induction ks with
    | nil=>intro ts _ h;cases h
    | cons c ks ih=>
      intro ts hl hm
      cases ts with
      | nil=>cases hl
      | cons t ts=>
        by_cases hc:c=z
        . subst hc
          show(Di ((Sum.inr c,V.ref t) :: J8 ks ts) _).isSome=true
          rw[Bh rfl]
          rfl
        show(Di ((Sum.inr c,V.ref t) :: J8 ks ts) _).isSome=true
        rw[B9 (by intro q;injection q with q;exact hc q)]
        refine ih ts (by simpa using hl) ?_
        rcases List.mem_cons.mp hm with q | q
        . exact absurd q.symm hc
        exact q
   rw[this]
   simpa[e] using k
 rw[G0 e]
 simpa[e] using k
theorem i_andV {ta tb:TE}(k:ta σ H fun x H1=>∃ c,x = .bl c/\if c=true then tb σ H1 Q else Q (.bl false) H1):ae8 ta tb σ H Q:=k
end
section
variable {K:PySem.W.Frag}{σ:St}{H:Hp}{Q:VK}{r:Addr}{ns:List Str}{as:List Addr}{R:Str->Str->Prop}
end
section
variable {K:PySem.W.Frag}{H:Hp}{σ:St}
end
section
variable {prog:Program}{w:World}{A:Around}{E:Value->Shared->Prop}{s:Shared}
end
section
variable {X:Cx}{K:PySem.W.Frag}
end
section
variable {K:PySem.W.Frag}{σ:St}{H:Hp}
end
section
variable {K:PySem.W.Frag} {H:Hp} {Q:VK}
end
theorem IsL.bl_eq {α:Type}{K:PySem.W.Frag}{H:Hp}{f:α->Bool}:∀ {as:List α} {vs:List V},IsL K H (as.map fun a=>PyData.bool (f a)) vs->vs=(as.map f).map V.bl
 | [],vs,h=>by simp only[List.map_nil,IsL] at h;exact h
 | n :: ns,vs,h=>by
   simp only[List.map_cons,IsL,Is] at h
   obtain⟨v,r,rfl,rfl,e3⟩:=h
   rw[IsL.bl_eq e3]
   rfl
theorem Y3 {α:Type}{K:PySem.W.Frag}{H:Hp}{σ:St}{J:It}{xs:List V}{G:Hp->Prop}{g:TG}{te:TE}{Q:VK}{k:Nat}{js:List Nat}(hw:Gc J xs G)(as:List α)(hl:as.length=xs.length)(f:α->Bool)(hz:xs.length<=1000000)(hG:∀ H',Same H H'->G H')
  (hs:∀(i:Nat) a v H1 (R:VK),as[i]? = some a->xs[i]? = some v->Same H H1->(∀ H2,Same H1 H2->R (.bl (f a)) H2)->g v (List.replicate k none++Mo σ js) H1 fun σ2 H2=>te σ2 H2 R)
  (hd:∀ p H',H p=none->Same H H'->SqL K H' p ((as.map f).map V.bl)->Q (.ref p) H'):Rb k js g Y1 te σ J H Q:=by
 refine Em (K:=K) hw as hl (fun _=>true) (fun a=>PyData.bool (f a)) (fun _=>rfl) hz hG (fun i a v H1 R R' ha hv e hR hR'=>?_) (fun p ys H' hp e h hL=>?_)
 . exact hs i a v H1 R ha hv e fun H2 e2=>hR rfl _ H2 e2 ar3
 rw[Dl] at hL
 have:=IsL.bl_eq hL
 subst this
 exact hd p H' hp e (SqL.of h)
section
variable {P:Program}{w:World}{κ:Type}[DecidableEq κ]{knd:KeyKind P w κ}{A:Around}{E:Value->Shared->Prop}{s:Shared}
end
section
variable {X:Cx}{pins:List (Addr×Obj)}{σ:St}{H:Hp}{s:Shared}{A:Around}
end
section
variable {prog:Program}{w:World}{A:Around}{E:Value->Shared->Prop}{s:Shared}
end
section
variable {X:Cx}{K:PySem.W.Frag}
end
def inS (ns:List Str):Key->Bool
 | .inr z=>decide (z∈ns)
 | .inl _=>false
theorem Zb (ns:List Str)(z:Str)(k:Key):inS (ns++[z]) k=(inS ns k||decide (k=Sum.inr z)):=by
 cases k with
 | inl i=>simp[inS]
 | inr y=>
   simp only[inS,List.mem_append,List.mem_singleton,Bool.decide_or]
   congr 1
   simp
theorem Ra (ms:List Str)(z:Str):(Ci [] (ms++[z])).length=if inS ms (Sum.inr z)=true then(Ci [] ms).length else(Ci [] ms).length+1:=by
 unfold Ci
 rw[List.foldl_append]
 show(Xw (Ci [] ms) z).length=_
 unfold Xw
 have e:(z∈Ci [] ms)↔z∈ms:=by rw[mem_addAll];simp
 by_cases h:z∈ms
 . rw[if_pos (e.mpr h),if_pos (by simpa[inS] using h)]
   rfl
 rw[if_neg (fun q=>h (e.mp q)),if_neg (by simpa[inS] using h),List.length_append,List.length_singleton]
 rfl
theorem Qj:∀ ms:List Str,(Ci [] ms).length<=ms.length:=fun ms=>by
 have g:=By (ys:=ms) (Gp (ms:=ms) (ks:=[]) (by simp)) fun z hz=>by
  rcases mem_addAll.mp hz with h | h
  . cases h
  exact h
 exact g
section
variable {P:Program}{w:World}{A:Around}{R:Result->Shared->Prop}{it:Addr}{fp wr:List Addr}{G:Array GenState->Array GenState->Prop}{n:Nat}{PV:Nat->Value->Prop}{St:Nat->Shared->Prop}
theorem Xd (z:Str)(t:Tok):(Am P w).is (Sum.inr z) (.str z t)=true:=by
 show M9 (Sum.inr z) (.str z t)=true
 simp[M9,Value.isStrOf]
theorem Zn (W:WalksS P w A.in1 it fp wr G n PV St)(D:Addr)(hD:D∉fp)(ns:List Str)(hval:∀ i v,PV i v->∃ z t,ns[i]? = some z/\v = .str z t)(hb:n+1<scanBound)(hn:ns.length=n) :
  ∀(k i:Nat) (s:Shared),n-i=k->i<=n->St i s->s.heap.SetOf (Am P w) D (inS (ns.take i)) (Ci [] (ns.take i)).length ->
   (∀ s',Moved (D :: wr) G s s'->s'.heap.SetOf (Am P w) D (inS ns) (Ci [] ns).length->R (.ok (.ret .none)) s') ->
   codeAny (model P w) A (.builtin "set.update.loop" ⟨[.ref D,.ref it],[]⟩) R s:=by
 have hDw:D∉wr:=fun h=>hD (W.sub _ h)
 have sub:∀ b∈wr,b∈D :: wr:=fun b h=>.tail _ h
 have stays:∀ {s s':Shared} {f:Key->Bool} {m:Nat},Moved wr G s s'->s.heap.SetOf (Am P w) D f m->s'.heap.SetOf (Am P w) D f m:=fun hm ⟨o,es,ep,t,ho,r⟩=>⟨o,es,ep,t,hm.heap D _ hDw ho,r⟩
 intro k
 induction k with
 | zero=>
   intro i s hk hi st hS hR
   obtain rfl:i=n:=by omega
   rw[List.take_of_length_le (by omega)] at hS
   refine codeAny_builtin F.entry_set_update_loop ?_
   rw[Around.under_plainId F.plain_set_update_loop]
   refine wpAny_bind (m:=pyNext (.ref it)) (W.done s _ _ st fun s' hm=>?_)
   show wpAny _ _ (ret Value.none) _ _ _
   exact wpAny_pure (hR s' (hm.mono sub) (stays hm hS))
 | succ k ih=>
   intro i s hk hi st hS hR
   have hlt:i<n:=by omega
   refine codeAny_builtin F.entry_set_update_loop ?_
   rw[Around.under_plainId F.plain_set_update_loop]
   refine wpAny_bind (m:=pyNext (.ref it)) (W.item i s _ _ hlt st fun v s' hv st' hm=>?_)
   obtain⟨z,t,hz,rfl⟩:=hval i v hv
   have ht:ns.take (i+1)=ns.take i++[z]:=by rw[List.take_add_one,hz];rfl
   refine wpAny_bind (m:=holding _ (setAdd D (.str z t))) (wpAny_holding ?_)
   unfold setAdd
   refine wpAny_holding (wpAny_bind ((Am P w).pyHash (Xd z t) ?_))
   have hle:=Qj (ns.take i)
   rw[List.length_take] at hle
   refine wpAny_setAddHashed_of (s:={ s' with toks:=s'.toks+1 }) (Xd z t) rfl (show s'.heap.SetOf _ _ _ _ from stays hm hS) (by omega) fun h' hsb hS2=>?_
   have hS3:h'.SetOf (Am P w) D (inS (ns.take (i+1))) (Ci [] (ns.take (i+1))).length:=by
    rw[ht,Ra,show inS (ns.take i++[z])=fun k'=>inS (ns.take i) k'||decide (k'=Sum.inr z) from funext (Zb _ _)]
    exact hS2
   refine wpAny_pure ⟨plainId_quiet F.plain_set_update_loop _,ih (i+1) _ (by omega) hlt (W.frame _ s' _ _ st' (Nat.le_succ _) fun b hb o e=>?_) hS3 fun s2 hm2 hS4=>?_⟩
   . have hbD:b≠D:=fun q=>hD (q ▸ hb)
     exact(hsb.2 b hbD).trans e
   refine hR s2 (Moved.trans W.gtrans ((hm.mono sub).then_heap (Nat.le_succ _) fun b o hb e=>?_) hm2) hS4
   have hbD:b≠D:=fun q=>hb (by rw[q];exact List.mem_cons_self)
   exact(hsb.2 b hbD).trans e
end
theorem Ri:isSubtype (.type "tuple") (.type "set")=pure false:=by rw[isSubtype_type];kernel_rfl
theorem Qd:isSubtype (.type "tuple") (.type "frozenset")=pure false:=by rw[isSubtype_type];kernel_rfl
section
variable {prog:Program}{w:World}{A:Around}{E:Value->Shared->Prop}{s:Shared}
def Je (led:Bool):Obj:={ cls:=.type "set",dict:=none,data:=.set #[] 0 (.fresh 0 0 led) }
def ap1 (prog:Program)(w:World)(s:Shared)(ns:List Str)(h':Heap):Prop:=h'.SetOf (Am prog w) s.heap.objs.size (inS ns) (Ci [] ns).length/\∀ b o,b<s.heap.objs.size->s.heap.get? b=some o->h'.get? b=some o
set_option maxHeartbeats 3200000 in
theorem Va {t:Addr}{its:List Value}{ns:List Str}{Q:Value->Shared->Prop}(hh:A.handled=none)(ht:s.heap.IsTuple t its.toArray)(hv:Vals (ns.map V.str) its)(hb:ns.length+1<scanBound)
  (h:∀(h':Heap) (k:Nat),ap1 prog w s ns h'->Q (.ref s.heap.objs.size) { s with heap:=h',toks:=k }):wpAny (model prog w) A (call (.type "set") [.ref t]) Q E s:=by
 have hlen:its.length=ns.length:=by rw[<- hv.length,List.length_map]
 obtain⟨c,tl,m1⟩:=F.called_set.mro
 have m2:=F.called_set.made
 have m3:=F.called_set.sub
 have m4:=F.called_set.notType
 have m5:=F.called_set.canCreate
 have m6:=F.typeCall_set_1 (.ref t)
 refine wpAny_call (codeAny_of_tree (show wpAny _ _ (callAny (.type "set") _) _ _ _ from ?_))
 refine wpAny_pure ⟨Code.quiet_builtin _ (by decide +kernel),codeAny_builtin F.entry_type_call ?_⟩
 rw[Around.under_plain (weight_type_call_type "set" [Value.ref t] []) rfl]
 repeat (any_goals (first | assumption | wp_step))
 refine codeAny_mono (code_set_new_1 (Value.ref t) (E:=E) (Q₁:=fun x s₁=>∃ led:Bool,x = .ref s.heap.objs.size/\s₁={ s with heap:=s.heap.push (Je led) }) fun led=>⟨led,rfl,rfl⟩) fun r s₁ hr=>?_
 cases r with
 | error e=>exact hr
 | ok fl=>
   cases fl with
   | ret x=>
     obtain⟨led,rfl,rfl⟩:=hr
     have hN:(s.heap.push (Je led)).get? s.heap.objs.size=some (Je led):=Heap.get?_push_size _ rfl
     have hT:Shared.TypeIs { s with heap:=s.heap.push (Je led) } (.ref s.heap.objs.size) "set":=⟨_,hN,rfl⟩
     have n1:=F.called_set.init.lookup
     have n2:=F.called_set.init.bind (.ref s.heap.objs.size)
     repeat (any_goals (first | assumption | wp_step))
     refine codeAny_mono (codeAny_call_builtin (R:=wants (fun r s₂=>r = .none/\∃ h' k,s₂={ s with heap:=h',toks:=k }/\ap1 prog w s ns h') E) F.called_set.init.plain F.entry_set_init (check_set_init_1 hT ?_)) fun r₂ s₂ hr₂=>?_
     . obtain⟨⟨oc,od,odt,osl⟩,g1,g2,nl,g3⟩:=id ht
       simp only at g2 g3
       subst g2 g3
       have g4:(s.heap.push (Je led)).get? t=some { cls:=.type "tuple",dict:=od,data:=.seq its.toArray nl,slots:=osl }:=Heap.get?_push_of_some _ g1
       have q1:=Ri
       have q2:=Qd
       have q3:(Value.type "tuple" == Value.type "dict")=false:=by decide
       have ht1:(s.heap.push (Je led)).IsTuple t its.toArray:=⟨_,g4,rfl,nl,rfl⟩
       unfold Builtin.«set.__init__» noKeywords Builtin.Frozenset.updateFrom
       generalize hPI:pyIter=PI
       wp_walk
       subst hPI
       refine wpAny_pyIter_tuple ht1 (wpAny_bind (wpAny_runValue ?_))
       have htl:t<s.heap.objs.size:=Heap.lt_size g1
       have hz:(s.heap.push (Je led)).objs.size=s.heap.objs.size+1:=Heap.size_push ..
       refine Zn ((Walks.tuple (by simp[hh]) _ t (by rw[hz];exact Nat.ne_of_lt (Nat.lt_succ_of_lt htl)) its.toArray).toS) s.heap.objs.size (by rw[hz];simp only[List.mem_cons,List.not_mem_nil,or_false,not_or];exact⟨Nat.ne_of_lt (Nat.lt_succ_self _),Nat.ne_of_gt htl⟩) ns (fun i v hv'=>?_) (by rw[List.size_toArray];omega) (by rw[List.size_toArray];omega) _ 0 _ rfl (Nat.zero_le _) ⟨⟨_,Heap.get?_push_size _ rfl,rfl,rfl⟩,ht1.push _⟩ ?_ ?_
       . have hv2:its[i]? = some v:=by rw[<- List.getElem?_toArray];exact hv'
         have hi:i<ns.length:=by
          have:=(List.getElem?_eq_some_iff.mp hv2).1
          omega
         obtain⟨u,hu,ru⟩:=hv.get (i:=i) (x:=.str ns[i]) (by rw[List.getElem?_map,List.getElem?_eq_getElem hi];rfl)
         rw[hv2] at hu
         cases hu
         obtain⟨k,rfl⟩:=ru
         exact⟨_,k,List.getElem?_eq_getElem hi,rfl⟩
       . have e:inS (ns.take 0)=fun _=>false:=funext fun k=>by cases k<;>simp[inS]
         rw[e]
         exact⟨Je led,#[],0,.fresh 0 0 led,Heap.get?_push_of_some _ hN,⟨rfl,rfl,rfl⟩,rfl,(fun e he=>by simp at he),(fun k=>by simp),by simp[scanBound],rfl,rfl⟩
       intro s' hm hS'
       obtain⟨h',g',d',k',os'⟩:=s'
       have eg:g'=s.gens:=hm.gens
       have ed:d'=s.drawn:=hm.drawn
       have eo:os'=s.os:=hm.os
       subst eg ed eo
       refine wpAny_pure ?_
       show wpAny _ _ (ret Value.none) _ _ _
       refine wpAny_pure ⟨rfl,h',k',rfl,hS',fun b o hb e=>hm.heap b o ?_ (Heap.get?_push_of_some _ (Heap.get?_push_of_some _ e))⟩
       rw[hz]
       simp only[List.mem_cons,List.not_mem_nil,or_false,not_or]
       exact⟨Nat.ne_of_lt hb,Nat.ne_of_lt (Nat.lt_succ_of_lt hb)⟩
     cases r₂ with
     | error e=>exact hr₂
     | ok fl₂=>
       cases fl₂ with
       | ret r=>
         obtain⟨rfl,h',k,rfl,hS⟩:=hr₂
         repeat (any_goals (first | assumption | wp_step))
         exact h _ _ hS
       | _=>exact hr₂.elim
   | _=>exact hr.elim
end
section
variable {X:Cx}{K:PySem.W.Frag}
def Vu (K:PySem.W.Frag):List V->Hp->VK->Prop:=fun vs H Q=>∃ a ns,vs=[.ref a]/\SqT K H a (ns.map V.str)/\ns.length<=1000/\Q (.int ((Ci [] ns).length:Nat)) H
theorem Xu {e:Expr}{ta:TA}{p p2 pos pos2:Pos}(hc:X.A.handled=none)(hg:Gl X "len")(hm:X.mg "len" = none)(hg2:Gl X "set")(hm2:X.mg "set" = none)(ha:PA X [e] ta)(hK:X.K=K:=by ac_nf)
  (hs:starEach [e] X.env=[(false,eval e X.env)]:=by ac_nf) (hs2:starEach [.Call (.Name "set" p2) [e] [] pos2] X.env=[(false,eval (.Call (.Name "set" p2) [e] [] pos2) X.env)]:=by ac_nf) :
  PE X (.Call (.Name "len" p) [.Call (.Name "set" p2) [e] [] pos2] [] pos) (tCB (Vu K) ta):=by
 subst hK
 intro pins s σ H Q I h
 refine wpAny_Call_Name_kw (Jh I hg hm PyProof.Rows.Boot.«len» ?_ (by decide) (by decide))
 refine PyProof.Rows.callWith_builtin1 ?_ hs2 rfl
 rw[hs2]
 show wpAny _ _ (spliced ((false,eval (.Call (.Name "set" p2) [e] [] pos2) X.env) :: backTo pos [])) _ _ s
 refine Calls.spliced_cons ?_
 refine wpAny_Call_Name_kw (Jh I hg2 hm2 PyProof.Rows.Boot.«set» ?_ (by decide) (by decide))
 refine PyProof.Rows.callWith_type1 (thn (ha pos2 pins s σ H _ I h) fun us s1 ⟨vs,H1,I1,r1,q1⟩=>?_) hs rfl
 obtain⟨a,ns,rfl,hq,hz,q⟩:=q1
 obtain⟨u,rfl,ru⟩:=Vals.one r1
 cases ru
 obtain⟨its,rv,ht,hz2⟩:=I1.tuple hq
 refine Va hc ht rv (by unfold scanBound;omega) fun h' k hS=>?_
 obtain⟨hS1,hS2⟩:=hS
 have I2:Inv X pins σ H1 { s1 with heap:=h',toks:=k }:=I1.kept (t':=k) fun b o e=>hS2 b o (Heap.lt_size e) e
 refine Calls.spliced_nil ?_
 obtain⟨o,es,ep,t,ho,hex,hd,_,_,hb,hf,hn⟩:=hS1
 refine call_len_set ho hex hd hf (by unfold scanBound at hb;omega) ?_
 exact⟨.int _,H1,I2.tok _,⟨_,by rw[hn]⟩,q⟩
theorem Y8 {a:Addr}{ns:List Str}{H:Hp}{Q:VK}(h:SqT K H a (ns.map V.str))(hz:ns.length<=1000)(k:Q (.int ((Ci [] ns).length:Nat)) H):Vu K [.ref a] H Q:=⟨a,ns,rfl,h,hz,k⟩
end
theorem ae7 {z:Str}(h:Sj z=true):z.length<=8:=(Kj h).2
theorem Vr {ns:List Str}(h:ns.Nodup):(Ci [] ns).length=ns.length:=Nat.le_antisymm (Qj ns) (By h fun z hz=>mem_addAll.mpr (.inr hz))
section
variable {K:PySem.W.Frag} {H:Hp} {Q:VK}
end
theorem Fe (ns:List Int):∀ j ≤ ns.length,preSum (fun i=>ns.getD i 0) j=(ns.take j).sum
 | 0,_=>by simp[preSum]
 | j+1,h=>by
   rw[preSum,Fe ns j (by omega),List.take_add_one,Hx (y:=0) (by omega:j<ns.length)]
   simp
theorem L1:∀ {ns:List Int},(∀ n∈ns,0<=n/\n<=1000000000000)->0<=ns.sum/\ns.sum<=1000000000000*(ns.length:Int)
 | [],_=>by simp
 | n :: ns,h=>by
   have h1:=h n (by simp)
   have h2:=L1 fun m hm=>h m (List.mem_cons_of_mem _ hm)
   rw[List.sum_cons,List.length_cons]
   omega
section
variable {X:Cx}{K:PySem.W.Frag}
def ar4 (K:PySem.W.Frag):List V->Hp->VK->Prop:=fun xs H Q=>∃(a:Addr) (ns:List Int),xs=[.ref a]/\(SqL K H a (ns.map V.int)\/SqT K H a (ns.map V.int))/\(∀ n∈ns,0<=n/\n<=1000000000000)/\ns.length<=1000000/\Q (.int ns.sum) H
theorem a47 {ns:List Int}{its:List Value}(r:Vals (ns.map V.int) its){i:Nat}{v:Value}(h:its.toArray[i]? = some v):∃ t,v = .int (ns.getD i 0) t:=by
 rw[List.getElem?_toArray] at h
 have hl:=r.length
 rw[List.length_map] at hl
 have hi:i<ns.length:=by
  have:=(List.getElem?_eq_some_iff.mp h).1
  omega
 obtain⟨u,hu,ru⟩:=r.get (i:=i) (x:=.int (ns.getD i 0)) (by rw[List.getElem?_map,Hx (y:=0) hi];rfl)
 rw[h] at hu
 cases hu
 exact ru
theorem Vd (hc:X.calm=true):CallR X (.builtin "sum") (ar4 X.K):=by
 intro pins s σ H xs us Q I r h
 obtain⟨a,ns,rfl,hl,hb,hz,q⟩:=h
 obtain⟨u,rfl,ru⟩:=Hw r
 cases ru
 have fits:∀ j,j<ns.length->InLong (ns.getD j 0)/\InLong (preSum (fun i=>ns.getD i 0) (j+1)):=fun j hj=>by
  have h1:=hb _ (List.mem_of_getElem? (Hx (y:=0) hj))
  have h2:=L1 (ns:=ns.take (j+1)) fun n hn=>hb n (List.mem_of_mem_take hn)
  rw[Fe ns (j+1) hj]
  rw[List.length_take] at h2
  unfold InLong
  omega
 have last:preSum (fun i=>ns.getD i 0) ns.length=ns.sum:=by rw[Fe ns _ (Nat.le_refl _),List.take_length]
 refine call_sum_walk ?_
 rcases hl with hl | hl
 . obtain⟨its,rv,pl,_⟩:=I.list hl
   have hlen:its.toArray.size=ns.length:=by rw[List.size_toArray,<- rv.length,List.length_map]
   have hlt:a<s.heap.objs.size:=let ⟨_,e,_⟩:=pl.isList;Heap.lt_size e
   refine wpAny_pyIter_list pl.isList ?_
   refine⟨_,_,_,_,_,_,fun i=>ns.getD i 0,rfl,Walks.list (by simpa using I.ok.hd hc) _ a (Nat.ne_of_lt hlt) its.toArray,⟨⟨_,Heap.get?_push_size _ rfl,rfl,rfl⟩,pl.isList.push _⟩,fun b hb'=>?_,fun i v hv=>a47 rv hv,by rw[hlen];exact fits,fun h' tk t' hk=>?_⟩
   . rw[Heap.size_push]
     simp only[List.mem_cons,List.not_mem_nil,or_false] at hb'
     rcases hb' with rfl | rfl
     . exact Nat.lt_succ_self _
     exact Nat.lt_succ_of_lt hlt
   refine⟨.int ns.sum,H,I.kept (t':=tk) fun b o e=>hk b o (fun z=>?_) (Heap.get?_push_of_some _ e),⟨t',by rw[hlen,last]⟩,q⟩
   have:b=s.heap.objs.size:=by simpa using z
   subst this
   exact absurd (Heap.lt_size e) (Nat.lt_irrefl _)
 obtain⟨its,rv,pl,_⟩:=I.tuple hl
 have hlen:its.toArray.size=ns.length:=by rw[List.size_toArray,<- rv.length,List.length_map]
 have hlt:a<s.heap.objs.size:=let ⟨_,e,_⟩:=pl;Heap.lt_size e
 refine wpAny_pyIter_tuple pl ?_
 refine⟨_,_,_,_,_,_,fun i=>ns.getD i 0,rfl,Walks.tuple (by simpa using I.ok.hd hc) _ a (Nat.ne_of_lt hlt) its.toArray,⟨⟨_,Heap.get?_push_size _ rfl,rfl,rfl⟩,Heap.IsTuple.push pl _⟩,fun b hb'=>?_,fun i v hv=>a47 rv hv,by rw[hlen];exact fits,fun h' tk t' hk=>?_⟩
 . rw[Heap.size_push]
   simp only[List.mem_cons,List.not_mem_nil,or_false] at hb'
   rcases hb' with rfl | rfl
   . exact Nat.lt_succ_self _
   exact Nat.lt_succ_of_lt hlt
 refine⟨.int ns.sum,H,I.kept (t':=tk) fun b o e=>hk b o (fun z=>?_) (Heap.get?_push_of_some _ e),⟨t',by rw[hlen,last]⟩,q⟩
 have:b=s.heap.objs.size:=by simpa using z
 subst this
 exact absurd (Heap.lt_size e) (Nat.lt_irrefl _)
theorem Qp (hc:X.calm=true)(hK:X.K=K:=by ac_nf):CallR X (.builtin "sum") (ar4 K):=hK ▸ Vd hc
theorem af6 {a:Addr}{ns:List Int}{H:Hp}{Q:VK}(h:SqL K H a (ns.map V.int)\/SqT K H a (ns.map V.int))(hb:∀ n∈ns,0<=n/\n<=1000000000000)(hz:ns.length<=1000000)(k:Q (.int ns.sum) H):ar4 K [.ref a] H Q:=⟨a,ns,rfl,h,hb,hz,k⟩
end
section
variable {prog:Program}{w:World}{A:Around}{E:Value->Shared->Prop}{s:Shared}
end
section
variable {X:Cx}{K:PySem.W.Frag}
end
section
variable {prog:Program}{w:World}{A:Around}{E:Value->Shared->Prop}{s:Shared}
end
section
variable {X:Cx}{K:PySem.W.Frag}
end
section
variable {α:Type}[DecidableEq α]
def Du:List α->(α->Bool)->Nat
 | [],_=>0
 | x :: xs,p=>(p x).toNat+2*Du xs p
def Ei:List α->α->Nat
 | [],_=>0
 | y :: ys,x=>if x=y then 1 else 2*Ei ys x
theorem Mu {p q:α->Bool}:∀ {ns:List α},(∀ x∈ns,p x=q x)->Du ns p=Du ns q
 | [],_=>rfl
 | x :: xs,h=>by
   unfold Du
   rw[h x (by simp),Mu (ns:=xs) fun y hy=>h y (by simp[hy])]
theorem Y4 {a b:Bool} {m n:Nat} (h:a.toNat+2*m=b.toNat+2*n):a=b/\m=n:=by
 cases a<;>cases b<;>simp[Bool.toNat] at h ⊢ <;> omega
theorem Nl {p q:α->Bool}:∀ {ns:List α},Du ns p=Du ns q->∀ x∈ns,p x=q x
 | [],_,x,hx=>by cases hx
 | y :: ys,h,x,hx=>by
   unfold Du at h
   obtain⟨h1,h2⟩:=Y4 h
   rcases List.mem_cons.mp hx with rfl | hx
   . exact h1
   exact Nl h2 x hx
theorem Z2 (a b:Bool)(m n:Nat):(a.toNat+2*m) &&& (b.toNat+2*n)=(a&&b).toNat+2*(m &&& n):=by
 apply Nat.eq_of_testBit_eq
 intro i
 rw [Nat.testBit_and]
 cases i with
 | zero=>
   cases a<;>cases b<;>simp[Nat.testBit_zero,Bool.toNat]<;>omega
 | succ i=>
   rw[Nat.testBit_succ,Nat.testBit_succ,Nat.testBit_succ]
   have e:∀(c:Bool) (k:Nat),(c.toNat+2*k) / 2=k:=fun c k=>by cases c<;>simp[Bool.toNat]<;>omega
   rw[e,e,e,Nat.testBit_and]
theorem T4 (p q:α->Bool):∀ ns:List α,Du ns p &&& Du ns q=Du ns (fun x=>p x&&q x)
 | []=>by simp[Du]
 | x :: xs=>by
   unfold Du
   rw[Z2,T4 p q xs]
theorem binM_zero {p:α->Bool}:∀ {ns:List α},Du ns p=0↔∀ x∈ns,p x=false
 | []=>by simp[Du]
 | x :: xs=>by
   unfold Du
   have:=binM_zero (p:=p) (ns:=xs)
   constructor
   . intro h y hy
     have h1:(p x).toNat=0:=by omega
     have h2:Du xs p=0:=by omega
     rcases List.mem_cons.mp hy with rfl | hy
     . cases e:p y with
       | false=>rfl
       | true=>rw[e] at h1;cases h1
     exact this.mp h2 y hy
   intro h
   rw[h x (by simp),this.mpr fun y hy=>h y (by simp[hy])]
   rfl
theorem Vo (p:α->Bool):∀ ns:List α,Du ns p<2 ^ ns.length
 | []=>by simp[Du]
 | x :: xs=>by
   have:=Vo p xs
   unfold Du
   rw[List.length_cons,Nat.pow_succ]
   have:(p x).toNat<=1:=by cases p x<;>simp[Bool.toNat]
   omega
theorem Uz:∀ {ns:List α},ns.Nodup->∀ {x:α},x∈ns->Ei ns x=Du ns (fun y=>decide (y=x))
 | [],_,x,h=>by cases h
 | y :: ys,hn,x,h=>by
   obtain⟨h1,h2⟩:=List.nodup_cons.mp hn
   unfold Ei Du
   by_cases e:x=y
   . subst e
     rw[if_pos rfl,(binM_zero (p:=fun y=>decide (y=x)) (ns:=ys)).mpr fun z hz=>decide_eq_false fun q=>h1 (by rw[<- q];exact hz)]
     simp[Bool.toNat]
   rw[if_neg e,Uz h2 ((List.mem_cons.mp h).resolve_left e)]
   have:decide (y=x)=false:=decide_eq_false fun q=>e q.symm
   show _=(decide (y=x)).toNat+_
   rw[this]
   simp[Bool.toNat]
theorem Nh (f:α->Nat):∀ l:List α,(l.map fun x=>2*f x).sum=2*(l.map f).sum
 | []=>rfl
 | x :: xs=>by simp[Nh f xs,Nat.mul_add]
theorem K7 (p:α->Bool):∀ {ns:List α},ns.Nodup->((ns.filter p).map (Ei ns)).sum=Du ns p
 | [],_=>rfl
 | y :: ys,hn=>by
   obtain⟨h1,h2⟩:=List.nodup_cons.mp hn
   have e:(ys.filter p).map (Ei (y :: ys))=(ys.filter p).map fun x=>2*Ei ys x:=by
    apply List.map_congr_left
    intro x hx
    have:x≠y:=fun q=>h1 (q ▸ (List.mem_filter.mp hx).1)
    show(if x=y then 1 else 2*Ei ys x)=_
    rw [if_neg this]
   unfold Du
   rw[List.filter_cons]
   cases hp:p y with
   | true=>
     rw[if_pos rfl,List.map_cons,List.sum_cons,e,Nh,K7 p h2]
     show(if y=y then 1 else _)+_=_
     rw[if_pos rfl]
     rfl
   | false=>
     rw[if_neg (by decide),e,Nh,K7 p h2]
     simp[Bool.toNat]
theorem Wu {p:α->Bool}:∀ {ns:List α},ns.Nodup->∀ {x:α},x∈ns->p x=true->Du ns p=Du ns (fun y=>p y && !decide (y=x))+Ei ns x
 | [],_,x,h,_=>by cases h
 | y :: ys,hn,x,h,hp=>by
   obtain⟨h1,h2⟩:=List.nodup_cons.mp hn
   unfold Ei Du
   by_cases e:x=y
   . subst e
     rw[if_pos rfl,hp,Mu (ns:=ys) (p:=fun y=>p y && !decide (y=x)) (q:=p) fun z hz=>?_]
     . simp[Bool.toNat];omega
     have:decide (z=x)=false:=decide_eq_false fun q=>h1 (q ▸ hz)
     simp[this]
   rw[if_neg e,Wu h2 ((List.mem_cons.mp h).resolve_left e) hp]
   have:decide (y=x)=false:=decide_eq_false fun q=>e q.symm
   show _=((p y && !decide (y=x)).toNat+_)+_
   rw[this]
   simp
   omega
def frF (b:α->α->Bool)(L:List α):List α:=L.filter fun x=>!(L.any fun y=>b y x)
def Fn (L:List α)(x:α):List α:=L.filter fun y=>!decide (y=x)
def ext (b:α->α->Bool):Nat->List α->List (List α)
 | 0,_=>[[]]
 | n+1,L=>(frF b L).flatMap fun x=>(ext b n (Fn L x)).map (x :: ·)
def cnt (b:α->α->Bool)(L:List α):Nat:=(ext b L.length L).length
theorem aa6 (b:α->α->Bool):cnt b []=1:=rfl
theorem mem_frF {b:α->α->Bool}{L:List α}{x:α}:x∈frF b L↔x∈L/\∀ y∈L,b y x=false:=by
 unfold frF
 rw[List.mem_filter]
 constructor
 . rintro ⟨h1,h2⟩
   refine⟨h1,fun y hy=>?_⟩
   cases e:b y x with
   | false=>rfl
   | true=>
     have:(L.any fun y=>b y x)=true:=List.any_eq_true.mpr ⟨y,hy,e⟩
     rw[this] at h2
     cases h2
 rintro⟨h1,h2⟩
 refine⟨h1,?_⟩
 have:(L.any fun y=>b y x)=false:=by
  rw[Bool.eq_false_iff]
  intro h
  obtain⟨y,hy,e⟩:=List.any_eq_true.mp h
  rw[h2 y hy] at e
  cases e
 rw[this]
 rfl
theorem L8 {L:List α}(h:L.Nodup)(x:α):(Fn L x).Nodup:=List.Nodup.sublist (List.filter_sublist) h
theorem Yh:∀ {L:List α} {x:α},x∉L->Fn L x=L:=fun {L x} h=>by
 unfold Fn
 rw[List.filter_eq_self]
 intro y hy
 have:y≠x:=fun q=>h (q ▸ hy)
 simp[this]
theorem Go:∀ {L:List α} {x:α},L.Nodup->x∈L->(Fn L x).length+1=L.length
 | [],_,_,h=>by cases h
 | y :: ys,x,hn,h=>by
   obtain⟨h1,h2⟩:=List.nodup_cons.mp hn
   by_cases e:y=x
   . subst e
     have:Fn (y :: ys) y=Fn ys y:=by unfold Fn;rw[List.filter_cons,if_neg (by simp)]
     rw[this,Yh h1]
     rfl
   have:Fn (y :: ys) x=y :: Fn ys x:=by unfold Fn;rw[List.filter_cons,if_pos (by simp[e])]
   rw[this,List.length_cons,Go h2 ((List.mem_cons.mp h).resolve_left fun q=>e q.symm)]
   rfl
theorem a09 {b:α->α->Bool} {L:List α} (hn:L.Nodup) (hne:L≠[]):cnt b L=((frF b L).map fun x=>cnt b (Fn L x)).sum:=by
 unfold cnt
 cases hl:L.length with
 | zero=>exact absurd (List.length_eq_zero_iff.mp hl) hne
 | succ n=>
   show((frF b L).flatMap fun x=>(ext b n (Fn L x)).map (x :: ·)).length=_
   rw[List.length_flatMap]
   congr 1
   apply List.map_congr_left
   intro x hx
   have:=Go hn (mem_frF.mp hx).1
   have e:(Fn L x).length=n:=by omega
   rw[List.length_map,e]
def fac:Nat->Nat
 | 0=>1
 | n+1=>fac n*(n+1)
theorem a56 {f g:α->Nat}:∀ {l:List α},(∀ x∈l,f x<=g x)->(l.map f).sum<=(l.map g).sum
 | [],_=>Nat.le_refl _
 | x :: xs,h=>by
   have h1:=h x (by simp)
   have h2:=a56 (l:=xs) (f:=f) (g:=g) fun y hy=>h y (by simp[hy])
   simp
   omega
end
def Mtd (P:Program)(w:World)(K:PySem.W.Frag)(mg:Str->Option Value)(base:Heap)(k:Nat)(C:Addr)(m:Str)(ps:List Str)(sp:Sp):Prop:=
 ∃ f fd,FnOk P w K mg base CX0 k f fd ps sp/\ad8 K C m f/\Binds K fd ps []
def Mkd (P:Program)(w:World)(K:PySem.W.Frag)(mg:Str->Option Value)(base:Heap)(k:Nat)(C:Addr)(x:Str)(ps:List Str)(sp:Sp):Prop:=
 ∃ f fd,FnOk P w K mg base CX0 k f fd ps sp/\Mk K C f/\mg x=some (.ref C)/\Binds K fd ps []
theorem FnOk.void {P:Program}{w:World}{K:PySem.W.Frag}{mg:Str->Option Value}{base:Heap}{CX:CXT}{k:Nat}{f:Addr}{fd:FuncData}{ps:List Str}{sp:Sp}(h:∀ vs H Q E,¬ sp vs H Q E):FnOk P w K mg base CX k f fd ps sp:=
 ⟨fun vs H Q E q=>absurd q (h vs H Q E),fun A outer s H args us vs Q E _ _ _ _ hs=>absurd hs (h vs H Q E)⟩
def rAt (f:Str)(C:Addr):V->Hp->VK->Prop:=fun x H Q=>∃ a dx fs v,x = .ref a/\H a=some (.ins C dx fs)/\fs.lookup f=some v/\Q v H
def tAt (f:Str)(C:Addr)(ta:TE):TE:=fun σ H Q=>ta σ H fun x H1=>rAt f C x H1 Q
def rSt (f:Str)(C:Addr)(y:V):V->Hp->(Hp->Prop)->Prop:=fun x H R=>∃ a dx fs,x = .ref a/\H a=some (.ins C dx fs)/\fs.length<1000/\R (upd H a (.ins C dx (Jg f y fs)))
def sSt (f:Str)(C:Addr)(ta tv:TE):TS:=fun D σ H=>tv σ H fun y H1=>ta σ H1 fun x H2=>rSt f C y x H2 fun H3=>D.nx σ H3
def rMe (m:Str)(C:Addr)(sp:Sp)(t:TA)(σ:St):V->Hp->VK->Prop:=fun x H Q=>∃ a dx fs,x = .ref a/\H a=some (.ins C dx fs)/\fs.lookup m=none/\t σ H fun vs H2=>sp (x :: (vs++[])) H2 Q E0
def tMe (m:Str)(C:Addr)(sp:Sp)(ta:TE)(t:TA):TE:=fun σ H Q=>ta σ H fun x H1=>rMe m C sp t σ x H1 Q
def rMk (C:Addr)(sp:Sp):List V->Hp->VK->Prop:=fun vs H1 Q=>∀ x dx,H1 x=none->H1 dx=none->dx≠x ->
 sp (.ref x :: (vs++[])) (upd (upd H1 dx (.own x)) x (.ins C dx [])) (fun v H2=>v = .non/\Q (.ref x) H2) E0
def tMk (C:Addr)(sp:Sp)(t:TA):TE:=fun σ H Q=>t σ H fun vs H1=>rMk C sp vs H1 Q
def av2 (ta:TE):TT:=fun σ H Q=>ta σ H fun x H1=>∃ i:Int,x = .int i/\Q (i != 0) H1
section
variable {X:Cx}{K:PySem.W.Frag}{k:Nat}{C:Addr}{f x m:Str}{ps:List Str}{sp:Sp}{e o value:Expr}{es:List Expr}{ta tv:TE}{t:TA}{p pos pos' apos:Pos}
theorem G7 (he:PE X e ta)(c:Cls X.K C)(n:NoAttr X.K C f)(hb:attributeBase e f X.env (eval e X.env)=eval e X.env):PE X (.Attribute e f pos) (tAt f C ta):=by
 intro pins s σ H Q I h
 refine Xo hb (thn (he pins s σ H _ I h) ?_)
 rintro u s1 ⟨x,H1,I1,rx,a,dx,fs,v,rfl,ea,l,q⟩
 cases rx
 exact Ue I1 ea c n l fun u' s2 I2 ru=>⟨v,H1,I2,ru,q⟩
theorem L5 (ha:PE X o ta)(hv:PE X value tv)(c:Cls X.K C)(n:NoAttr X.K C f)(hs:swapsWith value (some (.Attribute o f pos')) pos.line X.env=pure false):PS X (.Assign [.Attribute o f pos'] value pos) (sSt f C ta tv):=by
 intro pins s σ H D I h
 refine plainObj_wpAny_Assign_Attribute (thn (hv pins s σ H _ I h) ?_) hs
 rintro u s1 ⟨y,H1,I1,ry,q⟩
 refine thn (ha pins s1 σ H1 _ I1 q) ?_
 rintro ov s2 ⟨x,H2,I2,rx,a,dx,fs,rfl,ea,l,q2⟩
 cases rx
 exact Tw I2 ea c n l ry fun s3 I3=>⟨σ,_,I3,q2⟩
theorem Tl {pl:Sem Bool}(he:PE X o ta)(c:Cls X.K C)(F:Mtd X.prog X.w X.K X.mg X.base k C m ps sp)(hr:Room k X.A)(ha:PA X (e :: es) t)
  (hst:starEach (e :: es) X.env=(false,eval e X.env) :: starEach es X.env:=by ac_nf) (hpl:(backTo pos (starEach es X.env)).any (·.1)=false:=by ac_nf)
  (ht:eval (.Call (.Attribute o m apos) (e :: es) [] pos) X.env=(do
   let ov <- eval o X.env
   standAt apos.atName
   let (f,first) <- holding [ov] (getMethod ov m pl)
   callWith pos f first (backTo pos (starEach (e :: es) X.env)) (backToKw pos (keywordEach [] X.env))):=by ac_nf) :
  PE X (.Call (.Attribute o m apos) (e :: es) [] pos) (tMe m C sp ta t):=by
 obtain⟨f,fd,h1,h2,h3⟩:=F
 exact Uq (pl:=pl) he c h2 h1 hr h3 .nil Zi ha hst hpl ht
theorem ao6 (F:Mkd X.prog X.w X.K X.mg X.base k C x ps sp)(hr:Room (k+1) X.A)(hg:Gl X x)(ha:PA X (e :: es) t)(hdb:(x==("__debug__":Str))=false:=by decide)
  (he:starEach (e :: es) X.env=(false,eval e X.env) :: starEach es X.env:=by ac_nf) (hpl:(backTo pos (starEach es X.env)).any (·.1)=false:=by ac_nf) :
  PE X (.Call (.Name x p) (e :: es) [] pos) (tMk C sp t):=by
 obtain⟨f,fd,h1,h2,h3,h4⟩:=F
 exact a73 h2 h1 hr hg h3 h4 .nil Zi ha hdb he hpl
theorem a50 (ha:PE X e ta)(he:∀ whole,isTrue e X.env whole=(do let v <- whole;standAt e.pos;holding [v] (truthy v)):=by intro _;ac_nf):PT X e (av2 ta):=by
 intro pins s σ H Q I h
 refine isTrue_plain (thn (ha pins s σ H _ I h) ?_) (he _)
 rintro v s1 ⟨x,H1,I1,r1,i,rfl,q1⟩
 exact ag3 pins s1 σ H1 _ v Q I1 r1 ⟨_,rfl,q1⟩
end
section
variable {K:PySem.W.Frag}{C:Addr}{f m:Str}{sp:Sp}{ta tv:TE}{t:TA}{σ:St}{H:Hp}{Q:VK}{D:Ends}
theorem i_tAt (k:ta σ H fun x H1=>rAt f C x H1 Q):tAt f C ta σ H Q:=k
theorem Mx {a dx:Addr}{fs:List (Str×V)}{v:V}(h:H a=some (.ins C dx fs))(l:fs.lookup f=some v)(k:Q v H):rAt f C (.ref a) H Q:=⟨a,dx,fs,v,rfl,h,l,k⟩
theorem i_sSt (k:tv σ H fun y H1=>ta σ H1 fun x H2=>rSt f C y x H2 fun H3=>D.nx σ H3):sSt f C ta tv D σ H:=k
theorem Xn {a dx:Addr}{fs:List (Str×V)}{y:V}{R:Hp->Prop}(h:H a=some (.ins C dx fs))(hl:fs.length<1000)(k:∀ H',ExtBut a H H'->H' a=some (.ins C dx (Jg f y fs))->R H'):rSt f C y (.ref a) H R:=
 ⟨a,dx,fs,rfl,h,hl,k _ ExtBut.upd Ab⟩
theorem i_tMe (k:ta σ H fun x H1=>rMe m C sp t σ x H1 Q):tMe m C sp ta t σ H Q:=k
theorem ae1 {a dx:Addr}{fs:List (Str×V)}(h:H a=some (.ins C dx fs))(l:fs.lookup m=none)(k:t σ H fun vs H2=>sp (.ref a :: (vs++[])) H2 Q E0):rMe m C sp t σ (.ref a) H Q:=⟨a,dx,fs,rfl,h,l,k⟩
theorem i_tMk (k:t σ H fun vs H1=>rMk C sp vs H1 Q):tMk C sp t σ H Q:=k
theorem au9 {vs:List V}(k:∀ x dx H2,H x=none->Same H H2->H2 x=some (.ins C dx [])->sp (.ref x :: (vs++[])) H2 (fun v H3=>v = .non/\Q (.ref x) H3) E0):rMk C sp vs H Q:=fun x dx hx hd hne=>
 k x dx _ hx (fun b o e=>by rw[Ar (ne_of_none e hx),Ar (ne_of_none e hd)];exact e) Ab
theorem i_tTru {R:Bool->Hp->Prop}(k:ta σ H fun x H1=>∃ i:Int,x = .int i/\R (i != 0) H1):av2 ta σ H R:=k
theorem Vt {a:Addr}{kvs:List (Key×V)}{z:Int}{v:V}{R:Hp->Prop}(h:H a=some (.dK kvs))(hl:kvs.length<=1000000)(k:∀ H',ExtBut a H H'->H' a=some (.dK (Gh kvs (Sum.inl z) v))->R H'):∃ b H4,V.ref a = .ref b/\DPut H b (.int z) v H4/\R H4:=
 ⟨a,_,rfl,DPut.k (k:=Sum.inl z) h (by rw[sizeLine_eq];omega),k _ ExtBut.upd Ab⟩
theorem Oz {a:Addr}{kvs:List (Key×V)}{z:Int}{v:V}(h:H a=some (.dK kvs))(e:Di kvs (Sum.inl z:Key)=some v)(k:Q v H):Uh K (.ref a) (.int z) H Q:=.inr ⟨a,v,rfl,by rw[<- e];exact DGet.k (k:=Sum.inl z) h,k⟩
theorem Uw {a:Addr}{kvs:List (Key×V)}{z:Int}(h:H a=some (.dK kvs))(k:Q (.bl (Di kvs (Sum.inl z:Key)).isNone) H):Xi K true (.int z) (.ref a) H Q:=by
 refine .inr (.inr (.inl ⟨a,Di kvs (Sum.inl z:Key),rfl,DGet.k (k:=Sum.inl z) h,?_⟩))
 cases e:Di kvs (Sum.inl z:Key) with
 | none=>rw[e] at k;exact k
 | some v=>rw[e] at k;exact k
end
def ae0 (d v:Addr):HO:=.ext fun h=>h.IsValuesView v d
def aj9:V->List V->Hp->VK->Prop:=fun x vs H Q=>∃ d kvs,x = .ref d/\vs=[]/\H d=some (.dK kvs)/\∀ v,H v=none->Q (.ref v) (upd H v (ae0 d v))
def ah7:List V->Hp->VK->Prop:=fun xs H Q=>∃(v d:Addr) (kvs:List (Key×V)) (ns:List Int),xs=[.ref v]/\H v=some (ae0 d v)/\H d=some (.dK kvs)/\kvs.map (·.2)=ns.map V.int/\(∀ n∈ns,0<=n/\n<=1000000000000)/\ns.length<=1000000/\Q (.int ns.sum) H
section
variable {X:Cx}{K:PySem.W.Frag}
theorem Vn:MtM X "dict.values" aj9:=by
 intro pins s σ H x vs v us Q I rx rv h
 obtain⟨d,kvs,rfl,rfl,hD,q⟩:=h
 cases rx
 cases rv
 obtain⟨z1,hd1,vs1,rel1,dd1⟩:=Pi I.hok hD
 refine call_meetsIn F.slot_dict_values dd1.typeIs F.entry_dict_values (F.args_dict_values_1 _) (meets_dict_values (Am X.prog X.w) d hd1) ⟨⟨vs1,dd1⟩,?_⟩
 refine ⟨.ref s.heap.objs.size,upd H s.heap.objs.size (ae0 d s.heap.objs.size),I.laid (t':=s.toks) (fun b u e=>Heap.get?_push_of_some _ e) (Nat.le_refl _) ⟨⟨_,Heap.get?_push_size _ rfl,rfl,rfl⟩,⟨_,Heap.get?_push_size _ rfl⟩,fun h1 h2 ⟨o,e,r⟩ hk=>⟨o,hk o e,r⟩⟩,rfl,q _ (I.hok.fresh (Nat.le_refl _))⟩
theorem Vc {α β:Type}{F:α->β->Prop}{l₁:List α}{l₂:List β}(h:Paired F l₁ l₂):∀ {i:Nat} {a:α},l₁[i]? = some a->∃ b,l₂[i]? = some b/\F a b:=by
 induction h with
 | nil=>intro i a e;cases e
 | cons r _ ih=>
   intro i a e
   cases i with
   | zero=>cases e;exact⟨_,rfl,r⟩
   | succ i=>exact ih e
theorem a91 {ns:List Int}{kvs:List (Key×V)}{vs:List (Key×Value)}(rel:KV kvs vs)(h:kvs.map (·.2)=ns.map V.int){i:Nat}{k:Key}{u:Value}(hx:vs[i]? = some (k,u)):∃ t,u = .int (ns.getD i 0) t:=by
 have hl:kvs.length=vs.length:=rel.length
 have hn:kvs.length=ns.length:=by have:=congrArg List.length h;rwa[List.length_map,List.length_map] at this
 have hi:i<vs.length:=(List.getElem?_eq_some_iff.mp hx).1
 have hk:kvs[i]? = some kvs[i]:=List.getElem?_eq_getElem (by omega)
 obtain⟨q,hq,r⟩:=Vc rel hk
 rw[hx] at hq
 cases hq
 have e:(kvs.map (·.2))[i]? = some kvs[i].2:=by rw[List.getElem?_map,hk];rfl
 rw[h,List.getElem?_map,Hx (y:=0) (by omega:i<ns.length)] at e
 have e2:V.int (ns.getD i 0)=kvs[i].2:=Option.some.inj e
 have r2:=r.2
 rw[<- e2] at r2
 exact r2
theorem Xk (hc:X.calm=true):CallR X (.builtin "sum") ah7:=by
 intro pins s σ H xs us Q I r h
 obtain⟨v,d,kvs,ns,rfl,hv,hd,hns,hb,hz,q⟩:=h
 obtain⟨u,rfl,ru⟩:=Hw r
 cases ru
 have fits:∀ j,j<ns.length->InLong (ns.getD j 0)/\InLong (preSum (fun i=>ns.getD i 0) (j+1)):=fun j hj=>by
  have h1:=hb _ (List.mem_of_getElem? (Hx (y:=0) hj))
  have h2:=L1 (ns:=ns.take (j+1)) fun n hn=>hb n (List.mem_of_mem_take hn)
  rw[Fe ns (j+1) hj]
  rw[List.length_take] at h2
  unfold InLong
  omega
 have last:preSum (fun i=>ns.getD i 0) ns.length=ns.sum:=by rw[Fe ns _ (Nat.le_refl _),List.take_length]
 obtain⟨_,hs,vs,rel,dd⟩:=Pi I.hok hd
 obtain⟨ep,hat⟩:=dd.dictAt
 have vv:s.heap.IsValuesView v d:=(show ObjOk X.prog X.w H s.heap v (ae0 d v) from I.hok v _ hv).1
 have hlt:d<s.heap.objs.size:=I.hok.lt hd
 have hn:vs.length=ns.length:=by
  have:=congrArg List.length hns
  rw[List.length_map,List.length_map] at this
  have:=rel.length
  omega
 refine call_sum_walk ?_
 obtain⟨oI,St,hit,W,st⟩:=(PySem.W.kdl_values (knd:=Am X.prog X.w) (r:=v) (d:=d) (kvs:=vs) (ep:=ep)).iter X.A.in1 s (by simpa using I.ok.hd hc) ⟨vv,hat⟩
 refine hit _ _ ?_
 refine⟨s.heap.objs.size,_,_,_,_,_,fun i=>ns.getD i 0,rfl,W,st,?_,?_,by rw[hn];exact fits,?_⟩
 . intro b hb'
   rw[Heap.size_push]
   simp only[List.mem_cons,List.not_mem_nil,or_false] at hb'
   rcases hb' with rfl | rfl
   . exact Nat.lt_succ_self _
   exact Nat.lt_succ_of_lt hlt
 . rintro i u ⟨k,hx⟩
   exact a91 rel hns hx
 intro h' tk t' hk
 refine⟨.int ns.sum,H,I.kept (t':=tk) ?_,⟨t',by rw[hn,last]⟩,q⟩
 intro b o e
 refine hk b o (fun z=>?_) (Heap.get?_push_of_some _ e)
 have:b=s.heap.objs.size:=by simpa using z
 subst this
 exact absurd (Heap.lt_size e) (Nat.lt_irrefl _)
theorem ae5 {d:Addr}{kvs:List (Key×V)}{H:Hp}{Q:VK}(h:H d=some (.dK kvs))(k:∀ v H',H v=none->Same H H'->H' v=some (ae0 d v)->Q (.ref v) H'):aj9 (.ref d) [] H Q:=⟨d,kvs,rfl,rfl,h,fun v hv=>k v _ hv (Same.upd hv) Ab⟩
theorem aj8 {v d:Addr}{kvs:List (Key×V)}{ns:List Int}{H:Hp}{Q:VK}(hv:H v=some (ae0 d v))(hd:H d=some (.dK kvs))(hns:kvs.map (·.2)=ns.map V.int)(hb:∀ n∈ns,0<=n/\n<=1000000000000)(hz:ns.length<=1000000)(k:Q (.int ns.sum) H):ah7 [.ref v] H Q:=
 ⟨v,d,kvs,ns,rfl,hv,hd,hns,hb,hz,k⟩
end
section
variable {X:Cx}
end
section
variable {α:Type}[DecidableEq α]
theorem aa7 (a b:Nat):Builtin.bitAnd (a:Int) (b:Int)=((a &&& b:Nat):Int):=by
 rw[bitAnd_pp (Int.natCast_nonneg _) (Int.natCast_nonneg _)]
 simp
theorem Xb (p q:α->Bool)(ns:List α):(Builtin.bitAnd (Du ns p:Int) (Du ns q:Int) != 0)=ns.any fun x=>p x&&q x:=by
 rw[aa7,T4]
 cases e:ns.any fun x=>p x&&q x with
 | true=>
   obtain⟨x,hx,h⟩:=List.any_eq_true.mp e
   have:Du ns (fun x=>p x&&q x)≠0:=fun z=>by
    have:=binM_zero.mp z x hx
    rw[this] at h
    cases h
   simp only[bne_iff_ne,ne_eq]
   omega
 | false=>
   have:Du ns (fun x=>p x&&q x)=0:=binM_zero.mpr fun x hx=>by
    cases c:(p x&&q x) with
    | false=>rfl
    | true=>rw[List.any_eq_true.mpr ⟨x,hx,c⟩] at e;cases e
   rw[this]
   rfl
theorem aa8 {ns:List α} (hn:ns.Nodup) {x:α} (hx:x∈ns) (q:α->Bool):(Builtin.bitAnd (Ei ns x:Int) (Du ns q:Int) != 0)=q x:=by
 rw[Uz hn hx,Xb]
 cases c:q x with
 | true=>exact List.any_eq_true.mpr ⟨x,hx,by simp[c]⟩
 | false=>
   rw[Bool.eq_false_iff]
   intro h
   obtain⟨y,_,hy⟩:=List.any_eq_true.mp h
   rw[Bool.and_eq_true,decide_eq_true_iff] at hy
   rw[hy.1,c] at hy
   cases hy.2
theorem Uf (ns:List α)(p q:α->Bool):(ns.any fun x=>p x&&q x)=(ns.filter q).any p:=by
 induction ns with
 | nil=>rfl
 | cons y ys ih=>
   rw[List.any_cons,ih,List.filter_cons]
   cases c:q y with
   | true=>rw[if_pos rfl,List.any_cons,Bool.and_true]
   | false=>rw[if_neg (by decide),Bool.and_false,Bool.false_or]
theorem Ws (b:α->α->Bool)(ns:List α)(q:α->Bool):(ns.filter fun x=>q x && !(ns.any fun y=>b y x&&q y))=frF b (ns.filter q):=by
 unfold frF
 rw[List.filter_filter]
 apply List.filter_congr
 intro x _
 rw[Uf,Bool.and_comm]
theorem Lh (ns:List α)(q:α->Bool)(x:α):(ns.filter fun y=>q y && !decide (y=x))=Fn (ns.filter q) x:=by
 unfold Fn
 rw[List.filter_filter]
 apply List.filter_congr
 intro y _
 rw[Bool.and_comm]
theorem aj4 {m n:Nat}(h:m<=n):fac m<=fac n:=by
 induction h with
 | refl=>exact Nat.le_refl _
 | @step k _ ih=>exact Nat.le_trans ih (Nat.le_mul_of_pos_right _ (Nat.succ_pos k))
theorem Ov (c:Nat):∀ l:List α,(l.map fun _=>c).sum=l.length*c
 | []=>by simp
 | x :: xs=>by rw[List.map_cons,List.sum_cons,Ov c xs,List.length_cons,Nat.add_mul,Nat.one_mul,Nat.add_comm]
theorem a64 (b:α->α->Bool):∀(n:Nat) (L:List α),L.length=n->L.Nodup->cnt b L<=fac n
 | 0,L,hl,_=>by
   have:=List.length_eq_zero_iff.mp hl
   subst this
   exact Nat.le_refl _
 | n+1,L,hl,hn=>by
   have hne:L≠[]:=by intro e;rw[e] at hl;cases hl
   rw[a09 hn hne]
   have h1:((frF b L).map fun x=>cnt b (Fn L x)).sum<=((frF b L).map fun _=>fac n).sum:=a56 fun x hx=>by
    have:=Go hn (mem_frF.mp hx).1
    exact a64 b n (Fn L x) (by omega) (L8 hn x)
   rw[Ov] at h1
   refine Nat.le_trans h1 ?_
   show _<=fac n*(n+1)
   rw[Nat.mul_comm]
   refine Nat.mul_le_mul_left _ ?_
   rw[<- hl]
   exact List.length_filter_le _ _
theorem a85 {b:α->α->Bool}{L:List α}(hn:L.Nodup)(h:L.length<=10):cnt b L<=3628800:=Nat.le_trans (a64 b _ L rfl hn) (Nat.le_trans (aj4 h) (by decide))
end
def ad7 (ns:List Str):List (Key×V):=ns.map fun x=>((Sum.inr x:Key),V.int ((Ei ns x:Nat):Int))
def ahK (ns:List Str)(ps:List (Str×Str)):List (Key×V):=ns.map fun x=>((Sum.inr x:Key),V.int ((Du ns (fun y=>Hv ps y x):Nat):Int))
theorem Lo {f:Str->V}:∀ {ns:List Str} {x:Str},x∈ns->Di (ns.map fun x=>((Sum.inr x:Key),f x)) (Sum.inr x:Key)=some (f x)
 | [],x,h=>by cases h
 | y :: ys,x,h=>by
   rw[List.map_cons]
   by_cases e:y=x
   . subst e
     exact Bh rfl
   rw[B9 fun q=>e (Sum.inr.inj q)]
   exact Lo ((List.mem_cons.mp h).resolve_left fun q=>e q.symm)
theorem Gq {f:Str->V}:∀ {ns:List Str} {x:Str},x∉ns->Di (ns.map fun x=>((Sum.inr x:Key),f x)) (Sum.inr x:Key)=none
 | [],x,h=>rfl
 | y :: ys,x,h=>by
   rw[List.map_cons,B9 fun q=>h (by rw[<- Sum.inr.inj q];simp)]
   exact Gq fun q=>h (List.mem_cons_of_mem _ q)
theorem Ki:∀ {ns:List Str} {i:Nat} {x:Str},ns.Nodup->ns[i]? = some x->Ei ns x=2 ^ i
 | [],i,x,_,h=>by cases h
 | y :: ys,0,x,_,h=>by
   cases h
   unfold Ei
   rw[if_pos rfl]
 | y :: ys,i+1,x,hn,h=>by
   obtain⟨h1,h2⟩:=List.nodup_cons.mp hn
   have hx:ys[i]? = some x:=h
   unfold Ei
   rw[if_neg fun q=>h1 (by rw[<- q];exact List.mem_of_getElem? hx),Ki h2 hx,Nat.pow_succ,Nat.mul_comm]
theorem IsL.int_eq {K:PySem.W.Frag}{H:Hp}:∀ {ns:List Int} {vs:List V},IsL K H (ns.map PyData.int) vs->vs=ns.map V.int
 | [],vs,h=>by simp only[List.map_nil,IsL] at h;exact h
 | n :: ns,vs,h=>by
   simp only[List.map_cons,IsL,Is] at h
   obtain⟨v,r,rfl,rfl,e3⟩:=h
   rw[IsL.int_eq e3]
   rfl
theorem K6 {α:Type}(f:α->Nat):∀ l:List α,(l.map fun x=>((f x:Nat):Int)).sum=(((l.map f).sum:Nat):Int)
 | []=>rfl
 | x :: xs=>by rw[List.map_cons,List.sum_cons,K6 f xs,List.map_cons,List.sum_cons];omega
theorem ExtBut.fzI {p:Addr}{H H':Hp}{C dx:Addr}{fs:List (Str×V)}(e:ExtBut p H H')(hp:H p=some (.ins C dx fs)):Fz H H':=X5 e fun xs h=>by
 rcases h with h | ⟨o,h⟩
 . rw[hp] at h;cases h
 rw[hp] at h;cases h
def Knw (ns:List Str) (ps:List (Str×Str)) (kvs:List (Key×V)):Prop:=(kvs.map (·.1)).Nodup /\
 (∀ kv∈kvs,∃ q:Str->Bool,kv.1=Sum.inl ((Du ns q:Nat):Int)/\kv.2=V.int ((cnt (Hv ps) (ns.filter q):Nat):Int))/\Di kvs (Sum.inl 0:Key)=some (.int 1)
theorem Sc {κ:Type}[DecidableEq κ]:∀ {kvs:List (κ×V)} {k:κ} {v:V},Di kvs k=some v->(k,v)∈kvs
 | [],k,v,h=>by cases h
 | p :: r,k,v,h=>by
   by_cases e:p.1=k
   . rw[Bh e] at h
     cases h
     rw[<- e]
     exact List.mem_cons_self
   rw[B9 e] at h
   exact List.mem_cons_of_mem _ (Sc h)
theorem Knw.get {ns:List Str}{ps:List (Str×Str)}{kvs:List (Key×V)}(h:Knw ns ps kvs){q:Str->Bool}{v:V}(e:Di kvs (Sum.inl ((Du ns q:Nat):Int):Key)=some v):v = .int ((cnt (Hv ps) (ns.filter q):Nat):Int):=by
 obtain⟨q',h1,h2⟩:=h.2.1 _ (Sc e)
 have h3:Du ns q'=Du ns q:=by
  have:=Sum.inl.inj h1
  omega
 have h4:ns.filter q'=ns.filter q:=List.filter_congr fun x hx=>Nl h3 x hx
 rw[h4] at h2
 exact h2
theorem Knw.len {ns:List Str}{ps:List (Str×Str)}{kvs:List (Key×V)}(h:Knw ns ps kvs)(hf:ns.length<=10):kvs.length<=1024:=by
 have:=By (ys:=(List.range 1024).map fun i=>(Sum.inl ((i:Nat):Int):Key)) h.1 fun k hk=>by
  obtain⟨kv,hkv,rfl⟩:=List.mem_map.mp hk
  obtain⟨q,h1,_⟩:=h.2.1 kv hkv
  rw[h1]
  have h2:=Vo q ns
  have h3:(2:Nat) ^ ns.length<=2 ^ 10:=Nat.pow_le_pow_right (by decide) hf
  exact List.mem_map.mpr ⟨Du ns q,List.mem_range.mpr (by omega),rfl⟩
 rwa [List.length_map,List.length_map,List.length_range] at this
theorem Knw.put {ns:List Str}{ps:List (Str×Str)}{kvs:List (Key×V)}(h:Knw ns ps kvs)(q:Str->Bool) :
  Knw ns ps (Gh kvs (Sum.inl ((Du ns q:Nat):Int)) (.int ((cnt (Hv ps) (ns.filter q):Nat):Int))):=by
 cases e:Di kvs (Sum.inl ((Du ns q:Nat):Int):Key) with
 | some v=>
   have hp:Gh kvs (Sum.inl ((Du ns q:Nat):Int):Key) (.int ((cnt (Hv ps) (ns.filter q):Nat):Int))=kvs:=by
    unfold Gh
    rw[Fj,e,if_pos (show(some v).isSome=true from rfl)]
    conv=>rhs;rw[<- List.map_id kvs]
    apply List.map_congr_left
    intro kv hkv
    by_cases c:kv.1=Sum.inl ((Du ns q:Nat):Int)
    . rw[if_pos c]
      obtain⟨q',h1,h2⟩:=h.2.1 kv hkv
      rw[h1] at c
      have h3:Du ns q'=Du ns q:=by
       have:=Sum.inl.inj c
       omega
      have h4:ns.filter q'=ns.filter q:=List.filter_congr fun x hx=>Nl h3 x hx
      rw[<- h4,<- h2]
      rfl
    rw[if_neg c]
    rfl
   rw[hp]
   exact h
 | none=>
   refine⟨a89 _ h.1 e,fun kv hkv=>?_,?_⟩
   . rw[Ie _ e] at hkv
     rcases List.mem_append.mp hkv with hkv | hkv
     . exact h.2.1 kv hkv
     have:kv=(Sum.inl ((Du ns q:Nat):Int),V.int ((cnt (Hv ps) (ns.filter q):Nat):Int)):=by simpa using hkv
     subst this
     exact⟨q,rfl,rfl⟩
   rw[Jz]
   by_cases c:(Sum.inl 0:Key)=Sum.inl ((Du ns q:Nat):Int)
   . rw[<- c,h.2.2] at e
     cases e
   rw[if_neg c]
   exact h.2.2
theorem Knw.new (ns:List Str)(ps:List (Str×Str)):Knw ns ps [(Sum.inl 0,V.int 1)]:=by
 refine⟨by simp,fun kv hkv=>?_,Bh rfl⟩
 have:kv=(Sum.inl 0,V.int 1):=by simpa using hkv
 subst this
 refine⟨fun _=>false,?_,?_⟩
 . rw[binM_zero.mpr fun _ _=>rfl]
   rfl
 have:ns.filter (fun _=>false)=[]:=by simp
 rw[this,aa6]
 rfl
structure WaysAt (K:PySem.W.Frag)(C:Addr)(H:Hp)(p dx:Addr)(nv:V)(bd ad kd:Addr)(ns:List Str)(ps:List (Str×Str))(kvs:List (Key×V)):Prop where
 ob:H p=some (.ins C dx [("names",nv),("bits",.ref bd),("ahead",.ref ad),("full",.int ((Du ns (fun _=>true):Nat):Int)),("known",.ref kd)])
 nm:Is K H (nmD ns) nv
 bt:H bd=some (.dK (ad7 ns))
 ah:H ad=some (.dK (ahK ns ps))
 kn:H kd=some (.dK kvs)
 nb:bd≠kd
 na:ad≠kd
 ok:Knw ns ps kvs
section
variable {K:PySem.W.Frag}{C:Addr}{H H':Hp}{p dx:Addr}{nv:V}{bd ad kd:Addr}{ns:List Str}{ps:List (Str×Str)}{kvs kvs':List (Key×V)}
theorem WaysAt.same (h:WaysAt K C H p dx nv bd ad kd ns ps kvs)(e:Same H H'):WaysAt K C H' p dx nv bd ad kd ns ps kvs:=
 ⟨e _ _ h.ob,h.nm.nm_fz e.fz,e _ _ h.bt,e _ _ h.ah,e _ _ h.kn,h.nb,h.na,h.ok⟩
theorem WaysAt.pk (h:WaysAt K C H p dx nv bd ad kd ns ps kvs):p≠kd:=ne_of h.ob h.kn (by intro z;cases z)
theorem WaysAt.put (h:WaysAt K C H p dx nv bd ad kd ns ps kvs)(e:ExtBut kd H H')(hk:H' kd=some (.dK kvs'))(ok:Knw ns ps kvs'):WaysAt K C H' p dx nv bd ad kd ns ps kvs':=
 ⟨e _ _ h.pk h.ob,h.nm.nm_fz (e.fzD h.kn),e _ _ h.nb h.bt,e _ _ h.na h.ah,hk,h.nb,h.na,ok⟩
theorem WaysAt.list {l:Addr}{xs:List V}(h:WaysAt K C H p dx nv bd ad kd ns ps kvs)(e:ExtBut l H H')(hl:H l=some (.lst xs)):WaysAt K C H' p dx nv bd ad kd ns ps kvs:=
 ⟨e _ _ (ne_of h.ob hl (by intro z;cases z)) h.ob,h.nm.nm_fz (e.fzL hl),e _ _ (ne_of h.bt hl (by intro z;cases z)) h.bt,e _ _ (ne_of h.ah hl (by intro z;cases z)) h.ah,e _ _ (ne_of h.kn hl (by intro z;cases z)) h.kn,h.nb,h.na,h.ok⟩
end
section
variable {α:Type}[DecidableEq α]
end
section
variable {α:Type}[DecidableEq α]
end
section
variable {K:PySem.W.Frag}{σ:St}{H:Hp}{Q:VK}{td ty tx:TE}
def a05 (ty tx:TE)(σ:St):V->Hp->VK->Prop:=fun x H1 Q=>∃ a,x = .ref a/\IsD H1 a/\ty σ H1 fun y H2=>tx σ H2 fun z H3=>∃ o,DGet H3 a y o/\Q (o.getD z) H3
theorem i_dget2 (k:td σ H fun x H1=>a05 ty tx σ x H1 Q):Zt td ty tx σ H Q:=k
theorem Yn {a:Addr}{kvs:List (Key×V)}(h:H a=some (.dK kvs))(k:ty σ H fun y H2=>tx σ H2 fun z H3=>∃ o,DGet H3 a y o/\Q (o.getD z) H3):a05 ty tx σ (.ref a) H Q:=⟨a,rfl,.inl ⟨kvs,.inl h⟩,k⟩
end
section
variable {K:PySem.W.Frag}{C:Addr}{H H':Hp}{p dx:Addr}{nv:V}{bd ad kd:Addr}{ns:List Str}{ps:List (Str×Str)}{kvs:List (Key×V)}
end
section
variable {K:PySem.W.Frag}{σ:St}{H:Hp}{Q:VK}
end
theorem Md {prog:Program}{w:World}{κ:Type}[DecidableEq κ](knd:KeyKind prog w κ)(d:Addr) :
  MeetsIn prog w (Builtin.«dict.update» ⟨[.ref d,.ref d],[]⟩) (fun _ R s=>(∃ kvs,s.heap.DictOf knd d kvs)/\R (.ok (.ret .none)) s):=
 .of_wp fun A R s hh=>by
  obtain⟨⟨kvs,hd⟩,h⟩:=hh
  unfold Builtin.«dict.update» Builtin.Dict.selfAndRest
  refine wpAny_bind (wpAny_bind (wpAny_notOrdered_dict hd.typeIs ?_))
  show wpAny _ _ (pure (d,[Value.ref d])) _ _ s
  refine wpAny_pure ?_
  show wpAny _ _ (Builtin.Dict.updateFrom "dict.update" d (.ref d) [] .none) _ _ s
  unfold Builtin.Dict.updateFrom Builtin.Dict.merge Builtin.Dict.readDirectly
  refine wpAny_bind (wpAny_typeOf hd.typeIs ?_)
  rw[if_neg (by decide)]
  refine wpAny_bind (wpAny_bind (wpAny_bind (wpAny_isInstance hd.typeIs isSubtype_dict_dict ?_)))
  simp only[Bool.not_true,Bool.false_eq_true,if_false]
  refine wpAny_bind (wpAny_specialOf hd.typeIs F.slot_dict_iter.lookup (wpAny_pure ?_))
  simp only[beq_self_eq_true,if_true]
  refine wpAny_bind (wpAny_pure ?_)
  unfold Builtin.Dict.mergeDict
  rw[if_pos (by simp)]
  refine wpAny_bind (wpAny_rule (wpAny_pure ?_))
  show wpAny _ _ (Builtin.Dict.addKeywords d [] >>= _) _ _ _
  exact wpAny_bind (wpAny_pure (wpAny_pure ⟨.none,rfl,h⟩))
def Sn:V->List V->Hp->VK->Prop:=fun x vs H Q=>∃ d kvs,x = .ref d/\vs=[.ref d]/\H d=some (.dK kvs)/\Q .non H
def Og:V->List V->Hp->VK->Prop:=fun x vs H Q=>Rf x vs H Q\/Sn x vs H Q
section
variable {X:Cx}{K:PySem.W.Frag}
theorem Tb:MtM X "dict.update" Sn:=by
 intro pins s σ H x vs v us Q I rx rv h
 obtain⟨d,kvs,rfl,rfl,hD,q⟩:=h
 cases rx
 obtain⟨u,rfl,ru⟩:=rv.one
 cases ru
 obtain⟨z1,hd1,vs1,rel1,dd1⟩:=Pi I.hok hD
 refine call_meetsIn F.slot_dict_update dd1.typeIs F.entry_dict_update (F.args_dict_update_2 _ _) (Md (Am X.prog X.w) d) ⟨⟨vs1,dd1⟩,?_⟩
 exact⟨.non,H,I.tok s.toks,rfl,q⟩
theorem Td:MtM X "dict.update" Og:=by
 intro pins s σ H x vs v us Q I rx rv h
 rcases h with h | h
 . exact Wr pins s σ H x vs v us Q I rx rv h
 exact Tb pins s σ H x vs v us Q I rx rv h
end
theorem al6 {d o:Addr}{ks ms:List Str}{H:Hp}{Q:VK}(hd:H d=some (.dK (J3 ks)))(ho:H o=some (.dK (J3 ms)))(hne:d≠o)(hz:ks.length+ms.length<=1000000)(k:∀ H',ExtBut d H H'->H' d=some (.dK (J3 (Ci ks ms)))->Q .non H'):Og (.ref d) [.ref o] H Q:=.inl (at2 hd ho hne hz k)
theorem ai9 {d:Addr}{kvs:List (Key×V)}{H:Hp}{Q:VK}(hd:H d=some (.dK kvs))(k:Q .non H):Og (.ref d) [.ref d] H Q:=.inr ⟨d,kvs,rfl,rfl,hd,k⟩
structure Nc (ns:List Str)(ps:List (Str×Str)):Prop where
 nd:ns.Nodup
 mem:∀ p∈ps,p.1∈ns/\p.2∈ns
 few:ns.length<=100
 le:ps.length<=1100
theorem HalfW.c {ns:List Str}{ps:List (Str×Str)}(h:HalfW ns ps):Nc ns ps:=⟨h.nd,h.mem,h.few,Nat.le_trans h.le (by decide)⟩
instance {ns:List Str} {ps:List (Str×Str)}:Coe (HalfW ns ps) (Nc ns ps):=⟨HalfW.c⟩
theorem HalfW.more {ns:List Str}{ps:List (Str×Str)}(h:HalfW ns ps){x y:Str}(hx:x∈ns)(hy:y∈ns):Nc ns (ps++[(x,y)]):=by
 refine⟨h.nd,fun p hp=>?_,h.few,?_⟩
 . rcases List.mem_append.mp hp with hp | hp
   . exact h.mem p hp
   have:p=(x,y):=by simpa using hp
   rw[this]
   exact⟨hx,hy⟩
 have:=h.le
 rw[List.length_append,List.length_singleton]
 omega
section
variable {α:Type}[DecidableEq α]
end
section
variable {prog:Program}{w:World}{A:Around}{E:Value->Shared->Prop}{I:Addr}{fp wr:List Addr}{n:Nat}{P:Nat->Value->Prop}{St:Nat->Heap->Prop}
end
section
variable {α:Type}[DecidableEq α]
end
section
variable {prog:Program}{w:World}{A:Around}{E:Value->Shared->Prop}{s:Shared}
end
section
variable {κ:Type}[DecidableEq κ]
end
section
variable {α:Type}[DecidableEq α]
end
section
variable {X:Cx}
end
theorem a74 {ps:List (Str×Str)}{x y a b:Str}(g:Way (ps++[(x,y)]) a b):Way ps a b\/((a=x\/Way ps a x)/\(y=b\/Way ps y b)):=by
 induction g with
 | one e=>
   rcases List.mem_append.mp e with e | e
   . exact .inl (.one e)
   have e:=List.mem_singleton.mp e
   cases e
   exact .inr ⟨.inl rfl,.inl rfl⟩
 | cons e _ ih=>
   rcases List.mem_append.mp e with e' | e'
   . rcases ih with ih | ⟨h1,h2⟩
     . exact .inl (.cons e' ih)
     refine .inr ⟨.inr ?_,h2⟩
     rcases h1 with h1 | h1
     . exact .one (h1 ▸ e')
     exact .cons e' h1
   have e2:=List.mem_singleton.mp e'
   cases e2
   rcases ih with ih | ⟨_,h2⟩
   . exact .inr ⟨.inl rfl,.inr ih⟩
   exact .inr ⟨.inl rfl,h2⟩
theorem HalfW.said {ns:List Str}{ps:List (Str×Str)}(h:HalfW ns ps){x y:Str}(hx:x∈ns)(hy:y∈ns)(hne:x≠y)(hno:¬ Way ps y x)(hl:ps.length+1<=1000):HalfW ns (ps++[(x,y)]):=by
 refine⟨h.nd,(h.more hx hy).mem,fun z g=>?_,h.few,by rw[List.length_append,List.length_singleton];exact hl⟩
 rcases a74 g with g | ⟨g1,g2⟩
 . exact h.irr z g
 rcases g1 with rfl | g1
 . rcases g2 with g2 | g2
   . exact hne g2.symm
   exact hno g2
 rcases g2 with rfl | g2
 . exact hno g1
 exact hno (g2.trans g1)
section
variable {X:Cx}{K:PySem.W.Frag}
end
section
variable {K:PySem.W.Frag}{σ:St}{H:Hp}
end
end L2
namespace L2
open PySem PySem.Spec PyProof.Rows
open PySem PySem.W PyProof.Rows
section
variable {n:Nat}{r:Nat->Nat}
end
section
variable {prog:Program}{w:World}{A:Around}{E:Value->Shared->Prop}{z:Shared}
end
section
variable {prog:Program}{w:World}{A:Around}{E:Value->Shared->Prop}{z:Shared}
end
section
variable {X:Cx}{K:PySem.W.Frag}
end
end L2
namespace L2
open PySem PySem.Spec PyProof.Rows
section
variable {κ:Type}[DecidableEq κ]{P:Program}{w:World}{kd:KeyKind P w κ}{A:Around}{E:Value->Shared->Prop}{z:Shared}
end
section
variable {X:Cx}{K:PySem.W.Frag}
end
section
variable {P:Program}{w:World}{A:Around}{E:Value->Shared->Prop}{z:Shared}
end
section
variable {P:Program}{w:World}{A:Around}{E:Value->Shared->Prop}{z:Shared}
end
section
variable {P:Program}{w:World}{A:Around}{E:Value->Shared->Prop}{z:Shared}{c TI TO i1 i2 D:Addr}{fp1 fp2:List Addr}{n:Nat}{P1 P2:Nat->Value->Prop}{S1 S2:Nat->Heap->Prop}
end
section
variable {P:Program}{w:World}{κ:Type}[DecidableEq κ]{kd:KeyKind P w κ}{A:Around}{E:Value->Shared->Prop}{c TI TO i1 i2 D:Addr}{fp1 fp2:List Addr}{n:Nat}{P1 P2:Nat->Value->Prop}{S1 S2:Nat->Heap->Prop}
end
section
variable {P:Program}{w:World}{A:Around}{E:Value->Shared->Prop}{z:Shared}
end
section
variable {X:Cx}{K:PySem.W.Frag}
end
section
variable {K:PySem.W.Frag}{H:Hp}{Q:VK}
end
section
variable {K:PySem.W.Frag}{H:Hp}{Q:VK}
theorem Ru {u:Addr}{ys:List V}(h:SqL K H u ys\/SqT K H u ys)(k:∀ a H',Same H H'->SqT K H' a ys->Q (.ref a) H'):Kh K [.ref u] H Q:=by
 rcases h with h | h
 . exact G6 h fun p H' hp e h'=>k p H' e (SqT.of h')
 exact⟨u,ys,rfl,.inr ⟨h,k u H (.refl _) h⟩⟩
end
section
variable {ns ns':List Str}{ps ps' bs:List (Str×Str)}
end
section
variable {ns:List Str}{ps:List (Str×Str)}
end
section
variable {P:Program}{w:World}{A:Around}{E:Value->Shared->Prop}{z:Shared}
end
section
variable {X:Cx}{K:PySem.W.Frag}
end
section
variable {α:Type}[DecidableEq α]{b:α->α->Bool}{L:List α}
end
def ai0:List V->Hp->VK->Prop:=fun xs H Q=>∃ i:Int,xs=[.int i]/\i.natAbs.log2<1920/\Q (.str (toString i)) H
theorem Ug {X:Cx}:CallR X (.builtin "repr") ai0:=by
 intro pins s σ H xs us Q I r h
 obtain⟨i,rfl,hz,q⟩:=h
 obtain⟨u,rfl,t,rfl⟩:=Hw r
 exact PySem.P.repr_of_int hz ⟨.str _,H,I.tok _,⟨_,rfl⟩,q⟩
theorem Po {n:Nat}(h:n<=3628800):(((n:Nat):Int).natAbs).log2<1920:=by
 rw[Int.natAbs_natCast]
 by_cases h0:n=0
 . subst h0;decide
 exact Nat.lt_of_lt_of_le ((Nat.log2_lt h0).mpr (Nat.lt_of_le_of_lt h (show 3628800<2 ^ 22 by decide))) (show 22<=1920 by decide)
def xB:List Value:=[.type "ValueError",.type "Exception",.type "BaseException",.type "object"]
def Mt (K:PySem.W.Frag)(C:Addr):Bool:=match K.lookup C with
 | some ⟨.type "type",_,.cls cd,sl⟩=>(match cd.mro,sl.toList with
   | .ref D :: bm,[_,_,_,_,some (.builtin n),_]=>D==C&&n == "ValueError.__new__" && !cd.hasDel&&cd.hasDict&&PySem.W.tailIn K xB bm
   | _,_=>false)
 | _=>false
theorem Jd {K:PySem.W.Frag}{C:Addr}(q:Mt K C=true):∃(nm qn:Str) (N:Addr) (bs bm:List Value) (sn:List Str) (sub:List Value) (ab:Bool) (col:Option Bool) (dd:Option Addr) (k0 k1 k2 k3 k5:Option Value),
  K.lookup C=some (excClassObj nm qn C N bs bm true sn sub ab col dd k0 k1 k2 k3 k5 "ValueError.__new__")/\PySem.W.tailIn K xB bm=true:=by
 unfold Mt at q
 split at q
 . rename_i dd cd sl ho
   split at q
   . rename_i D bm k0 k1 k2 k3 n k5 hm hs
     simp only[Bool.and_eq_true,beq_iff_eq,Bool.not_eq_true'] at q
     obtain⟨⟨⟨⟨e1,e2⟩,hdel⟩,hdc⟩,ht⟩:=q
     subst e1 e2
     obtain⟨nm,bs,mro,ns,qn,hd,sn,sub,ab,col,del⟩:=cd
     dsimp only at hm hdel hdc
     subst hm hdel hdc
     have e3:sl = #[k0,k1,k2,k3,some (.builtin "ValueError.__new__"),k5]:=by
      obtain⟨l⟩:=sl
      simp only at hs
      rw[hs]
     subst e3
     exact⟨nm,qn,ns,bs,bm,sn,sub,ab,col,dd,k0,k1,k2,k3,k5,ho,ht⟩
   cases q
 cases q
theorem Ut (self:Value){h:Heap}{l:List Value}(T:OwnTail h xB l):refuseLoop self "__setattr__" l=pure ():=by
 induction T with
 | base=>exact PySem.F.store_ValueError.passes self
 | own _ _ _ _ ih=>rw[refuseLoop_ref];exact ih
theorem a02 {h:Heap}{l:List Value}(T:OwnTail h xB l):l.contains (.type "BaseException")=true:=T.hasType (by decide +kernel)
abbrev ad9 (rest:List Value):Obj:={ cls:=.type "tuple",data:=.seq rest.toArray }
abbrev a06 (C t:Addr):Obj:={ cls:=.ref C,data:=.fields #[.ref t,.none,.none,.none,.bool false,.none] }
section
variable {prog:Program}{w:World}{A:Around}{E:Value->Shared->Prop}{h:Heap}{g:Array GenState}{d:Drawn}{t:Nat}{os:OsState}{K:PySem.W.Frag}{C fI:Addr}{rest:List Value}
theorem Yu {Q:Fin->Shared->Prop}(X:K.In h)(q:Mt K C=true)(hi:PySem.W.findIn K (.ref C) "__init__" = some (some (.ref fI)))(ht:PySem.W.typeIn K (.ref fI)=some (.type "function"))(hr:rest.length<=sizeLine)
  (hq:wpAny (model prog w) A (call (.ref fI) (.ref (h.objs.size+1) :: rest)) (fun r s'=>r = .none/\Q (.done (.ret (.ref (h.objs.size+1)))) s') E ⟨(h.push (ad9 rest)).push (a06 C h.objs.size),g,d,t,os⟩) :
  wpAny (model prog w) A (Builtin.«type.__call__» ⟨.ref C :: rest,[]⟩) Q E ⟨h,g,d,t,os⟩:=by
 obtain⟨nm,qn,N,bs,bm,sn,sub,ab,col,dd,k0,k1,k2,k3,k5,hl,htl⟩:=Jd q
 have F:=PySem.F.excBase_ValueError
 have T:OwnTail h xB bm:=PySem.W.tail_of_in X htl
 have hC:=X _ _ hl
 repeat (first | (with_reducible refine wpAny_loadPart_at hC ?_) | (with_reducible refine wpAny_madeBy_exc hC ?_) | wp_step)
 refine codeAny_call_builtin_code (Code.quiet_builtin _ F.quiet) (wpAny_check_new_subT F T hC (codeAny_exc_new_subT F T hC ?_ hr))
 show wpAny _ _ _ _ _ _
 have X1:K.In ((h.push (ad9 rest)).push (a06 C h.objs.size)):=X.keeps fun b o e=>Heap.get?_push_of_some _ (Heap.get?_push_of_some _ e)
 have hC1:=X1 _ _ hl
 have hg1:((h.push (ad9 rest)).push (a06 C h.objs.size)).get? (h.objs.size+1)=some (a06 C h.objs.size):=by heap_get
 have hcC:(Value.ref C :: bm).contains (.ref C)=true:=by simp
 unfold isInstance
 repeat (first | (with_reducible refine wpAny_loadPart_at hg1 ?_) | (with_reducible refine wpAny_isSubtype_exc hC1 ?_;rw[hcC]) | wp_step)
 show wpAny _ _ (typeLookup (.ref C) _) _ _ _
 refine(PySem.W.looks_findIn (M:=model prog w) X1 hi).at ?_
 refine wpAny_holding (wpAny_bind ((PySem.W.bind_fn X1 _ ht).at ?_))
 refine wpAny_bind (wpAny_mono hq (fun r s' hr'=>?_) fun _ _ x=>x)
 obtain⟨rfl,hQ⟩:=hr'
 wp_walk
 exact hQ
theorem a90 {Q:Value->Shared->Prop}(X:K.In h)(q:Mt K C=true)(hi:PySem.W.findIn K (.ref C) "__init__" = some (some (.ref fI)))(ht:PySem.W.typeIn K (.ref fI)=some (.type "function"))(hr:rest.length<=sizeLine)
  (hq:wpAny (model prog w) (A.under (.builtin "type.__call__" ⟨.ref C :: rest,[]⟩)) (call (.ref fI) (.ref (h.objs.size+1) :: rest)) (fun r s'=>r = .none/\Q (.ref (h.objs.size+1)) s') E ⟨(h.push (ad9 rest)).push (a06 C h.objs.size),g,d,t,os⟩) :
  wpAny (model prog w) A (call (.ref C) rest) Q E ⟨h,g,d,t,os⟩:=by
 obtain⟨nm,qn,N,bs,bm,sn,sub,ab,col,dd,k0,k1,k2,k3,k5,hl,htl⟩:=Jd q
 have hC:=X _ _ hl
 have f1:=tc_lookup
 have f2:=tc_bind (.ref C)
 have tt:(⟨h,g,d,t,os⟩:Shared).TypeIs (.ref C) "type":=⟨_,hC,rfl⟩
 refine wpAny_call (codeAny_of_tree ?_)
 show wpAny _ _ (callAny (.ref C) _) _ _ _
 repeat (any_goals (first | assumption | (with_reducible refine wpAny_loadPart_at hC ?_) | wp_step))
 refine⟨rfl,codeAny_call_builtin_at (Code.quiet_builtin _ (by decide +kernel)) entry_typeCall (wpAny_check_type_call_sub hC (Yu X q hi ht hr ?_))⟩
 exact hq
end
end L2
namespace L2
open PySem PySem.Spec PyProof.Rows
open PySem PySem.Spec PyProof.Rows Builtin Builtin.ObjectAttr
structure XC (K:PySem.W.Frag)(C:Addr):Prop where
 ex:Mt K C=true
 sa:PySem.W.findIn K (.ref C) "__setattr__" = some (some (.builtin "object.__setattr__"))
 ga:PySem.W.findIn K (.ref C) "__getattribute__" = some (some (.builtin "BaseException.__getattribute__"))
 gt:PySem.W.findIn K (.ref C) "__getattr__" = some none
 cl:PySem.W.findIn K (.ref C) "__class__" = some (some (.builtin "object.__class__"))
 cg:PySem.W.specialIn K (.builtin "object.__class__") "__get__" = some (some (.builtin "getset_descriptor.__get__"))
 ct:PySem.W.takesIn K (.builtin "object.__class__")=some true
section
variable {prog:Program}{w:World}{A:Around}{E:Value->Shared->Prop}{s:Shared}{K:PySem.W.Frag}{C x:Addr}{name:Str}{v:Value}
theorem XC.cls (c:XC K C):∃ cd,PySem.W.clsIn K C=some cd/\cd.hasDict=true/\∃ bm,cd.mro = .ref C :: bm/\PySem.W.tailIn K xB bm=true:=by
 obtain⟨nm,qn,N,bs,bm,sn,sub,ab,col,dd,k0,k1,k2,k3,k5,hl,htl⟩:=Jd c.ex
 exact⟨_,by unfold PySem.W.clsIn;rw[hl],rfl,bm,rfl,htl⟩
theorem XC.mro (c:XC K C){h:Heap}(X:K.In h){T:String}(hT:xB.contains (.type T)=true):PySem.W.mroIn K C (.type T)=some true:=by
 obtain⟨cd,hc,_,bm,hm,ht⟩:=c.cls
 unfold PySem.W.mroIn
 rw[hc,Option.bind_some,hm,if_neg (by simp)]
 rw[List.contains_cons,(PySem.W.tail_of_in X ht).hasType hT,Bool.or_true]
theorem a48 {R:Result->Shared->Prop}{ox:Obj}{od:Option Obj}{tk:Tok}(c:XC K C)(X:K.In s.heap)(I:PySem.W.InstAt s.heap x ox C od)(ht:PySem.W.findIn K (.ref C) name=some none)
  (h:∀ b,wpAny (model prog w) A.in1 (storeInOwnDict (.ref x) (.ref C) (.str name tk) name v b)
   (fun fin s'=>match fin with | .done f=>R (.ok f) s' | .again c'=>c'.quiet=true/\codeAny (model prog w) A c' R s') (fun e s'=>R (.error e) s') s) :
  codeAny (model prog w) A (.call (.builtin "object.__setattr__") ⟨[.ref x,.str name tk,v],[]⟩) R s:=by
 have SF:=PySem.F.store_object
 obtain⟨cd,hc,hd,bm,hmr,htl⟩:=c.cls
 have T:=PySem.W.tail_of_in X htl
 have sub:PySem.W.Looks (model prog w) s.heap (isInstance (.ref x) (.type "object")) true:=I.type.andThen (PySem.W.looks_mroIn X (c.mro X (by decide +kernel)))
 refine codeAny_call_builtin SF.slot.plain SF.entry (@PySem.W.check_slot (model prog w) _ _ s "object.__setattr__" "object" "__setattr__" (.ref x) [.str name tk,v] [] _ SF.kind SF.split sub (SF.args (.ref x) (.str name tk) v) ?_)
 have hm:PySem.W.Looks (model prog w) s.heap (mroOf (.ref C)) cd.mro:=(PySem.W.looks_clsIn X hc).andThen .now
 have l3:PySem.W.Looks (model prog w) s.heap (storeTaker? none) none:=.now
 rw[PySem.W.osa_eq,refuse_eq]
 refine wpAny_bind (wpAny_bind (I.type.here (wpAny_bind (hm.here ?_))))
 rw[hmr,refuseLoop_ref,Ut _ T]
 refine wpAny_pure (wpAny_bind (I.type.here (wpAny_bind ((PySem.W.looks_findIn X ht).here (wpAny_bind (l3.here ?_))))))
 exact h _
theorem a86 {Q:Unit->Shared->Prop}{vs:Array Value}{sl:Array (Option Value)}(c:XC K C)(X:K.In s.heap)(hx:s.heap.get? x=some ⟨.ref C,none,.fields vs,sl⟩)(ht:PySem.W.findIn K (.ref C) name=some none)
  (hq:∀ h',h'.Ns1 s.heap.objs.size (fun y=>if y=name then some v else none)->h'.get? x=some ⟨.ref C,some s.heap.objs.size,.fields vs,sl⟩->(∀ b o,b≠x->s.heap.get? b=some o->h'.get? b=some o)->Q () { s with heap:=h',toks:=s.toks+2 }) :
  wpAny (model prog w) A (setAttr (.ref x) name v) Q E s:=by
 have J:PySem.W.InstAt s.heap x ⟨.ref C,none,.fields vs,sl⟩ C none:=⟨hx,rfl,rfl,True.intro⟩
 obtain⟨cd,hc,hd,bm,hmr,htl⟩:=c.cls
 refine PySem.W.set_plain X J c.sa (a48 (s:={ s with toks:=s.toks+1 }) c X J ht fun b=>?_)
 refine wpAny_bind (wpAny_pure (wpAny_bind (wpAny_bind (wpAny_loadPart hx (wpAny_bind (PySem.W.Looks.here (s:={ s with toks:=s.toks+1 }) (PySem.W.looks_clsIn X hc) ?_))))))
 rw[hd]
 have hx1:(s.heap.push { cls:=.type "dict",data:=.dict #[] }).get? x=some ⟨.ref C,none,.fields vs,sl⟩:=Heap.get?_push_of_some _ hx
 have hxs:x≠s.heap.objs.size:=Nat.ne_of_lt (Heap.lt_size hx)
 refine wpAny_bind (wpAny_alloc' ?_)
 refine wpAny_bind (wpAny_update' hx1 ?_)
 refine wpAny_pure ?_
 have hgd:((s.heap.push { cls:=.type "dict",data:=.dict #[] }).update x fun o=>{ o with dict:=some s.heap.objs.size }).get? s.heap.objs.size=some { cls:=.type "dict",data:=.dict #[] }:=
  (Heap.get?_update_ne _ _ _ _ hxs.symm).trans (Heap.get?_push_at rfl rfl)
 have hnd:((s.heap.push { cls:=.type "dict",data:=.dict #[] }).update x fun o=>{ o with dict:=some s.heap.objs.size }).Ns s.heap.objs.size (fun _=>none):=
  ⟨_,#[],_,hgd,rfl,fun e he=>absurd he (by simp),fun _=>rfl⟩
 show wpAny _ _ (storeInDict s.heap.objs.size (.str name _) name v) _ _ _
 unfold storeInDict newKeyGuard
 refine wpAny_bind (wpAny_pure (wpAny_bind (wpAny_nsSet1 (Heap.Ns1.of_empty hnd) fun h' hn' hs=>?_)))
 obtain⟨oD,esD,epD,hoD,hdD,hcD⟩:=hn'.count (Within.cons name v Within.nil)
 refine wpAny_bind (wpAny_lookBehind hoD (by rw[hdD];exact pastItsLine_dict (Nat.le_trans hcD (by rw[List.length_cons,List.length_nil,sizeLine_eq];omega))) ?_)
 refine wpAny_pure (hq h' hn' ((hs.2 x hxs).trans (Heap.get?_update_self _ hx1 rfl)) fun b o hb hbo=>?_)
 exact(hs.2 b (Nat.ne_of_lt (Heap.lt_size hbo))).trans ((Heap.get?_update_ne _ _ _ _ hb).trans (Heap.get?_push_of_some _ hbo))
theorem aa5 {Q:Unit->Shared->Prop}{dx:Addr}{mA:Str->Option Value}{ns:List Str}{vs:Array Value}{sl:Array (Option Value)}(c:XC K C)(X:K.In s.heap)(hx:s.heap.get? x=some ⟨.ref C,some dx,.fields vs,sl⟩)(hn:s.heap.Ns1 dx mA)
  (hw:Within mA ns) (hz:ns.length<=sizeLine) (ht:PySem.W.findIn K (.ref C) name=some none)
  (hq:∀ h',h'.Ns1 dx (fun y=>if y=name then some v else mA y)->Heap.SameBut dx s.heap h'->Q () { s with heap:=h',toks:=s.toks+2 }) :
  wpAny (model prog w) A (setAttr (.ref x) name v) Q E s:=by
 obtain⟨od,_,_,hod,_⟩:=id hn
 have J:PySem.W.InstAt s.heap x ⟨.ref C,some dx,.fields vs,sl⟩ C (some od):=⟨hx,rfl,rfl,hod⟩
 obtain⟨cd,hc,hd,bm,hmr,htl⟩:=c.cls
 refine PySem.W.set_plain X J c.sa (a48 (s:={ s with toks:=s.toks+1 }) c X J ht fun b=>?_)
 refine wpAny_bind (wpAny_pure (wpAny_bind (wpAny_bind (wpAny_loadPart hx (wpAny_bind (PySem.W.Looks.here (s:={ s with toks:=s.toks+1 }) (PySem.W.looks_clsIn X hc) ?_))))))
 rw[hd]
 refine wpAny_pure (a:=some dx) (wpAny_bind (wpAny_pure (wpAny_bind ?_)))
 refine wpAny_nsSet1 (s:={ s with toks:=s.toks+1 }) hn fun h' hn2 hs2=>?_
 obtain⟨oD,esD,epD,hoD,hdD,hcD⟩:=hn2.count (Within.cons name v hw)
 refine wpAny_bind (wpAny_lookBehind hoD (by rw[hdD];exact pastItsLine_dict (Nat.le_trans hcD (by rw[List.length_cons];omega))) ?_)
 exact wpAny_pure (hq _ hn2 hs2)
theorem Yx {M:Model}{ox:Obj}{od:Option Obj}{nameV:Value}{Q:Unit->Shared->Prop}(c:XC K C)(X:K.In s.heap)(I:PySem.W.InstAt s.heap x ox C od)(hq:Q () s) :
  wpAny M A (checkBuiltinCall "BaseException.__getattribute__" ⟨[.ref x,nameV],[]⟩) Q E s:=by
 have sub:PySem.W.Looks M s.heap (isInstance (.ref x) (.type "BaseException")) true:=I.type.andThen (PySem.W.looks_mroIn X (c.mro X (by decide +kernel)))
 exact @PySem.W.check_slot M _ _ s "BaseException.__getattribute__" "BaseException" "__getattribute__" (.ref x) [nameV] [] _ (by decide +kernel) (by decide +kernel) sub (PySem.F.args_bexc_ga (.ref x) nameV) hq
theorem an4 {fill expr:Bool}{tk:Tok}{Q:Value->Shared->Prop}{ox:Obj}{od:Option Obj}(c:XC K C)(X:K.In s.heap)(I:PySem.W.InstAt s.heap x ox C od)
  (h:wpAny (model prog w) A.in1 (Builtin.«object.__getattribute__» ⟨[.ref x,.str name tk],[]⟩)
   (fun fin s'=>match fin with | .done (.ret v)=>wpAny (model prog w) A (handedOut v) Q E s' | _=>False) (fun _ _=>False) s):wpAny (model prog w) A (getAttrBy (.ref x) (.str name tk) fill expr) Q E s:=by
 obtain⟨hh,g,d,t,os⟩:=s
 have l0:=I.type (M:=model prog w)
 have l1:=PySem.W.looks_findIn (M:=model prog w) X c.ga
 have l2:=PySem.W.looks_findIn (M:=model prog w) X c.gt
 have f3:=PySem.F.excAttr_ValueError.ga.bind (.ref x)
 have e2:(Value.builtin "BaseException.__getattribute__" == Value.builtin "object.__getattribute__")=false:=by decide +kernel
 unfold getAttrBy
 refine wpAny_holding (wpAny_bind (l0.at (wpAny_bind (l1.at ?_))))
 show wpAny _ _ (if(onTheHeap (Value.ref C)&&Value.builtin "BaseException.__getattribute__" == Value.builtin "object.__getattribute__")=true then _ else _) _ _ _
 rw[e2,Bool.and_false,if_neg (by decide)]
 unfold getAttrByItsOwn hookBefore
 rw[if_pos (show onTheHeap (Value.ref C)=true from rfl)]
 refine wpAny_bind (l2.at (wpAny_bind (wpAny_attempt (wpAny_holding ?_))))
 unfold callGetattribute
 rw[if_neg (by cases expr<;>decide)]
 unfold boundAndCalled
 rw[f3]
 refine wpAny_bind (wpAny_pure (wpAny_call (codeAny_call_builtin PySem.F.excAttr_ValueError.ga.plain PySem.F.entry_bexc_ga (Yx (s:=⟨hh,g,d,t,os⟩) c X I ?_))))
 refine wpAny_mono h (fun fin s' z=>?_) fun _ _ z=>z.elim
 rcases fin with (_ | _ | _ | _) | _<;>first | exact z | exact z.elim
theorem ag4 {expr:Bool}{Q:Value->Shared->Prop}{ox od:Obj}(c:XC K C)(X:K.In s.heap)(I:PySem.W.InstAt s.heap x ox C (some od))(ht:PySem.W.findIn K (.ref C) name=some none)(hl:PySem.W.lookIn name od=some (some v))
  (hv:PySem.W.handedIn v=true) (h:Q v { s with toks:=s.toks+1 }):wpAny (model prog w) A (getAttr (.ref x) name expr) Q E s:=by
 obtain⟨hh,g,d,t,os⟩:=s
 obtain⟨cd,hc,hd,bm,hmr,htl⟩:=c.cls
 have l0:=I.type (M:=model prog w)
 have hf:PySem.W.findObj K C (some od) name=some (.value v):=by
  unfold PySem.W.findObj PySem.W.ownOf
  simp only[hc,ht,hd,hl,Option.bind_some,if_true]
 have l3:=PySem.W.looks_find (M:=model prog w) X I hf
 unfold getAttr
 refine wpAny_bind (wpAny_mkText (an4 (s:=⟨hh,g,d,t+1,os⟩) c X I ?_))
 refine wpAny_bind (wpAny_pure (wpAny_bind (wpAny_pure (wpAny_bind (l0.at (wpAny_bind (l3.at ?_)))))))
 refine wpAny_pure ?_
 show wpAny _ _ (handedOut v) _ _ _
 rw[PySem.W.handedOut_of hv];exact wpAny_pure h
theorem Ya {Q:Option Value->Shared->Prop}{ox:Obj}{od:Option Obj}(c:XC K C)(X:K.In s.heap)(I:PySem.W.InstAt s.heap x ox C od)(h:Q (some (.ref C)) { s with toks:=s.toks+1 }) :
  wpAny (model prog w) A (getAttr? (.ref x) "__class__") Q E s:=by
 obtain⟨hh,g,d,t,os⟩:=s
 obtain⟨cd,hc,hd,bm,hmr,htl⟩:=c.cls
 have l0:=I.type (M:=model prog w)
 have hf:PySem.W.findObj K C od "__class__" = some (.bind (.builtin "getset_descriptor.__get__") (.builtin "object.__class__")):=by
  unfold PySem.W.findObj
  simp only[hc,c.cl,c.cg,c.ct,Option.bind_some]
 have l3:=PySem.W.looks_find (M:=model prog w) X I hf
 unfold getAttr? getAttrBy?
 refine wpAny_bind (wpAny_mkText (wpAny_bind (wpAny_attempt ?_)))
 refine an4 (s:=⟨hh,g,d,t+1,os⟩) c X I ?_
 refine wpAny_bind (wpAny_pure (wpAny_bind (wpAny_pure (wpAny_bind (l0.at (wpAny_bind (l3.at ?_)))))))
 show wpAny _ _ (holding [Value.builtin "object.__class__"] (call (.builtin "getset_descriptor.__get__") [.builtin "object.__class__",.ref x,.ref C]) >>= ret) _ _ _
 refine wpAny_bind (wpAny_holding (wpAny_call (PySem.W.class_get (s:=⟨hh,g,d,t+1,os⟩) (ox:=ox) (od:=od) X I (c.mro X (by decide +kernel)) ?_)))
 refine wpAny_pure ?_
 show wpAny _ _ (handedOut (.ref C)) _ _ _
 rw[PySem.W.handedOut_of rfl]
 exact wpAny_pure (wpAny_pure h)
theorem Xs {od:Option Obj}{ox:Obj}(c:XC K C):PySem.W.KitX K (.ref x) (.ref C) (fun h=>PySem.W.InstAt h x ox C od) where
 ty:=fun _ _ _ I=>I.type
 it:=fun _ _ X _=>by
  obtain⟨nm,qn,N,bs,bm,sn,sub,ab,col,dd,k0,k1,k2,k3,k5,hl,htl⟩:=Jd c.ex
  intro A' Q' E' s' k q
  unfold isType loadHead
  exact wpAny_bind (wpAny_loadPart (k _ _ (X _ _ hl)) (wpAny_pure q))
 ne:=fun h tp dd its n sl X htp=>by
  obtain⟨nm,qn,N,bs,bm,sn,sub,ab,col,dd,k0,k1,k2,k3,k5,hl,htl⟩:=Jd c.ex
  refine Bool.eq_false_iff.mpr fun q=>?_
  have e:C=tp:=Value.ref.inj (beq_iff_eq.mp q)
  subst e
  have z:=congrArg Obj.cls (Option.some.inj ((X _ _ hl).symm.trans htp))
  exact absurd (Value.type.inj z) (by decide)
 ca:=fun X I k=>Ya c X I k
end
end L2
namespace L2
open PySem PySem.Spec PyProof.Rows
def exG (n:Bool)(a C:Addr)(od:Option Addr):HO:=.ext fun h=>∃ vs sl,h.get? a=some ⟨.ref C,od,.fields vs,sl⟩/\(n=true->vs[1]? = some .none)
abbrev exO (a C:Addr)(od:Option Addr):HO:=exG true a C od
def xdO (dx:Addr)(fs:List (Str×V)):HO:=.ext fun h=>∃ mA,h.Ns1 dx mA/\∀ f,RelO (fs.lookup f) (mA f)
section
variable {P:Program}{w:World}{H:Hp}{h:Heap}{a C dx:Addr}{od:Option Addr}{fs:List (Str×V)}
theorem exG_ok {n:Bool}:ObjOk P w H h a (exG n a C od)↔∃ vs sl,h.get? a=some ⟨.ref C,od,.fields vs,sl⟩/\(n=true->vs[1]? = some .none):=
 ⟨fun x=>x.1,fun⟨vs,sl,e,z⟩=>⟨⟨vs,sl,e,z⟩,⟨_,e⟩,fun h1 h2 ⟨vs,sl,e,z⟩ k=>⟨vs,sl,k _ e,z⟩⟩⟩
theorem exO_ok:ObjOk P w H h a (exO a C od)↔∃ vs sl,h.get? a=some ⟨.ref C,od,.fields vs,sl⟩/\(true=true->vs[1]? = some .none):=exG_ok
theorem xdO_ok:ObjOk P w H h dx (xdO dx fs)↔∃ mA,h.Ns1 dx mA/\∀ f,RelO (fs.lookup f) (mA f):=
 ⟨fun x=>x.1,fun⟨mA,n,r⟩=>⟨⟨mA,n,r⟩,(let ⟨o,_,_,e,_⟩:=n;⟨o,e⟩),fun h1 h2 ⟨mA,n,r⟩ k=>⟨mA,(let ⟨o,es,ep,e,z⟩:=n;⟨o,es,ep,k _ e,z⟩),r⟩⟩⟩
end
def Cf (K:PySem.W.Frag)(C B:Addr):Bool:=(PySem.W.clsIn K C).any fun cd=>cd.mro == .ref C :: .ref B :: xB
section
variable {K:PySem.W.Frag}{C B D:Addr}
theorem XC.ty (c:XC K C):PySem.W.typeIn K (.ref C)=some (.type "type"):=by
 obtain⟨nm,qn,N,bs,bm,sn,sub,ab,col,dd,k0,k1,k2,k3,k5,hl,htl⟩:=Jd c.ex
 show Option.map (fun x=>x.cls) (List.lookup C K)=_
 rw[hl]
 rfl
theorem aa2 (c:XC K C)(hm:Cf K C B=true)(d:XC K D):PySem.W.kitOne K (.ref C) (.ref D)=some (C==D||D==B):=by
 unfold PySem.W.kitOne
 by_cases e:C=D
 . subst e;simp
 have e1:(Value.ref C==Value.ref D)=false:=beq_eq_false_iff_ne.mpr fun q=>e (Value.ref.inj q)
 have e2:(C==D)=false:=beq_eq_false_iff_ne.mpr e
 rw[if_neg (by rw[e1];decide),e2,Bool.false_or]
 unfold PySem.W.kitCls
 obtain⟨cd,hc,_⟩:=d.cls
 dsimp only
 rw[if_pos (by rw[hc,d.ty];rfl)]
 show PySem.W.mroIn K C (.ref D)=_
 obtain⟨cd,hc,hx⟩:=PySem.W.any_some hm
 unfold PySem.W.mroIn
 rw[hc,Option.bind_some,beq_iff_eq.mp hx,if_neg (by simp)]
 rw[List.contains_cons,List.contains_cons,show xB.contains (Value.ref D)=false from rfl,Bool.or_false]
 congr 1
 rw[show(Value.ref D==Value.ref C)=false from beq_eq_false_iff_ne.mpr fun q=>e (Value.ref.inj q).symm,Bool.false_or]
 by_cases eb:D=B
 . subst eb;simp
 rw[show(D==B)=false from beq_eq_false_iff_ne.mpr eb,beq_eq_false_iff_ne.mpr fun q=>eb (Value.ref.inj q)]
end
section
variable {X:Cx}{pins:List (Addr×Obj)}{σ:St}{H:Hp}{s:Shared}{a C dx:Addr}{fs:List (Str×V)}{f:Str}{v:V}{A:Around}{E:Value->Shared->Prop}
theorem a88 {n' b:Bool}{Q:Value->Shared->Prop}(I:Inv X pins σ H s)(e:H a=some (exG n' a C (some dx)))(ed:H dx=some (xdO dx fs))(c:XC X.K C)(n:NoAttr X.K C f)(l:fs.lookup f=some v)
  (h:∀ u s',Inv X pins σ H s'->RelV v u->Q u s'):wpAny (model X.prog X.w) A (getAttr (.ref a) f b) Q E s:=by
 obtain⟨vs,sl,e1,_⟩:=exG_ok.mp (I.hok a _ e)
 obtain⟨mA,hn,r⟩:=xdO_ok.mp (I.hok dx _ ed)
 obtain⟨u,hu,ru⟩:=RelO.some_of (v:=v) (o:=mA f) (by rw[<- l];exact r f)
 obtain⟨od,hod,hl⟩:=Pf hn
 exact ag4 c I.kIn ⟨e1,rfl,rfl,hod⟩ n (by rw[hl,hu]) (Oy ru) (h u _ (I.tok _) ru)
theorem Vy {mA:Str->Option Value}(r:∀ f,RelO (fs.lookup f) (mA f)):PySem.Within mA (fs.map (·.1)):=fun g hg=>by
 cases q:fs.lookup g with
 | none=>exact absurd (RelO.none_of (by rw[<- q];exact r g)) hg
 | some v=>exact List.mem_map.mpr ⟨(g,v),PySem.mem_of_lookup q,rfl⟩
theorem Z8 {y:V}{u:Value}{Q:Unit->Shared->Prop}(I:Inv X pins σ H s)(e:H a=some (exO a C none))(c:XC X.K C)(n:NoAttr X.K C f)(ry:RelV y u)
  (h:∀ dx s',H dx=none->dx≠a->Inv X pins σ (upd (upd H dx (xdO dx [(f,y)])) a (exO a C (some dx))) s'->Q () s'):wpAny (model X.prog X.w) A (setAttr (.ref a) f u) Q E s:=by
 obtain⟨vs,sl,e1,e1n⟩:=exO_ok.mp (I.hok a _ e)
 refine a86 c I.kIn e1 n fun h' hn he hk=>?_
 have hf:H s.heap.objs.size=none:=I.hok.fresh (Nat.le_refl _)
 have hne:s.heap.objs.size≠a:=Nat.ne_of_gt (Heap.lt_size e1)
 have na:∀ b,H b=none->b≠a:=fun b q z=>by rw[z,e] at q;cases q
 have nd:∀ b u,H b=some u->b≠s.heap.objs.size:=fun b u q z=>by rw[z,hf] at q;cases q
 have nb:∀ b o,s.heap.get? b=some o->b≠s.heap.objs.size:=fun b o q=>Nat.ne_of_lt (Heap.lt_size q)
 have hu:∀ b o,H b=some o->b≠a->upd (upd H s.heap.objs.size (xdO s.heap.objs.size [(f,y)])) a (exO a C (some s.heap.objs.size)) b=some o:=fun b o q z=>by rw[Ar z,Ar (nd b o q)];exact q
 refine h _ _ hf hne (I.un ⟨fun b o q z _ _=>hk b o (na b z) q,fun b o q z _ _=>⟨o.slots,hk b o (na b z) q⟩,fun b o q z _=>by rw[Ar (na b z),Ar (nb b o q)];exact z,fun b o q _=>?_,
  fun b xs q=>hu b _ q fun z=>?_,fun b o u q=>hu b _ q fun z=>?_,fun b ps q=>⟨#[],?_⟩⟩ fun b o q=>?_)
 . by_cases z:b=a
   . subst z;exact⟨_,he⟩
   exact⟨o,hk b o z q⟩
 . rw[z,e] at q;cases q
 . rw[z,e] at q;cases q
 . rw[Array.append_empty]
   exact hu b _ q fun z=>by rw[z,e] at q;cases q
 by_cases z:b=a
 . subst z
   rw[Ab] at q;cases q
   exact exO_ok.mpr ⟨_,_,he,e1n⟩
 rw[Ar z] at q
 by_cases z2:b=s.heap.objs.size
 . subst z2
   rw[Ab] at q;cases q
   refine xdO_ok.mpr ⟨_,hn,fun g=>?_⟩
   show RelO (List.lookup g [(f,y)]) (if g=f then some u else none)
   by_cases q:g=f
   . have hb:(g==f)=true:=beq_iff_eq.mpr q
     simp only[List.lookup,hb,if_pos q];exact ry
   have hb:(g==f)=false:=beq_eq_false_iff_ne.mpr q
   simp only[List.lookup,hb,if_neg q];exact True.intro
 rw[Ar z2] at q
 refine(I.hok b o q).stay (fun c v hc r=>hk c v (fun z3=>?_) r) (fun c r=>hu c _ r fun z3=>?_) fun c xs r=>hu c _ r fun z3=>?_
 . subst z3
   rcases hc with hc | hc
   . exact z hc.symm
   rw[e] at hc;cases hc
 . rw[z3,e] at r;cases r
 rw[z3,e] at r;cases r
theorem Zf {y:V}{u:Value}{Q:Unit->Shared->Prop}(I:Inv X pins σ H s)(e:H a=some (exO a C (some dx)))(ed:H dx=some (xdO dx fs))(c:XC X.K C)(n:NoAttr X.K C f)(hl:fs.length<1000)(ry:RelV y u)
  (h:∀ s',Inv X pins σ (upd H dx (xdO dx (Jg f y fs))) s'->Q () s'):wpAny (model X.prog X.w) A (setAttr (.ref a) f u) Q E s:=by
 obtain⟨vs,sl,e1,e1n⟩:=exO_ok.mp (I.hok a _ e)
 obtain⟨mA,hn,r⟩:=xdO_ok.mp (I.hok dx _ ed)
 refine aa5 c I.kIn e1 hn (Vy r) (by rw[List.length_map,sizeLine_eq];omega) n fun h' hn' hs=>h _ ?_
 have hd:∃ o,h'.get? dx=some o:=let ⟨o,_,_,e',_⟩:=hn';⟨o,e'⟩
 refine I.write (x:=dx) (e:=dx) (by rw[ed];exact True.intro) (.inl rfl) (fun b q hb z=>(hs.2 b hb).trans z) hd (xdO_ok.mpr ⟨_,hn',fun g=>?_⟩)
 rw[Hs]
 by_cases q:g=f
 . rw[if_pos q]
   show RelO (some y) (if g=f then some u else mA g)
   rw[if_pos q];exact ry
 rw[if_neg q]
 show RelO _ (if g=f then some u else mA g)
 rw[if_neg q];exact r g
end
def ac7 (K:PySem.W.Frag)(f:Str):V->Hp->VK->Prop:=fun x H1 Q=>∃ n a C dx fs v,x = .ref a/\H1 a=some (exG n a C (some dx))/\H1 dx=some (xdO dx fs)/\XC K C/\NoAttr K C f/\fs.lookup f=some v/\Q v H1
def ac2 (K:PySem.W.Frag)(ta:TE)(f:Str):TE:=fun σ H Q=>ta σ H fun x H1=>ac7 K f x H1 Q
def aq4 (K:PySem.W.Frag)(f:Str)(y:V):V->Hp->(Hp->Prop)->Prop:=fun x H2 R=>∃ a C,x = .ref a/\XC K C/\NoAttr K C f /\
 ((H2 a=some (exO a C none)/\∀ dx,H2 dx=none->dx≠a->R (upd (upd H2 dx (xdO dx [(f,y)])) a (exO a C (some dx)))) \/
   ∃ dx fs,H2 a=some (exO a C (some dx))/\H2 dx=some (xdO dx fs)/\fs.length<1000/\R (upd H2 dx (xdO dx (Jg f y fs))))
def a69 (K:PySem.W.Frag)(ta tv:TE)(f:Str):TS:=fun D σ H=>tv σ H fun y H1=>ta σ H1 fun x H2=>aq4 K f y x H2 fun H3=>D.nx σ H3
section
variable {X:Cx}{o e value:Expr}{f:Str}{pos pos' tpos:Pos}{ta tv:TE}
theorem ac0 (he:PE X e ta)(hb:attributeBase e f X.env (eval e X.env)=eval e X.env):PE X (.Attribute e f pos) (ac2 X.K ta f):=by
 intro pins s σ H Q I h
 refine Xo hb (thn (he pins s σ H _ I h) fun u s1 ⟨x,H1,I1,rx,n',a,C,dx,fs,v,ex,ea,ed,c,n,l,q⟩=>?_)
 subst ex
 obtain rfl:u=Value.ref a:=rx
 exact a88 I1 ea ed c n l fun u' s2 I2 ru=>⟨v,H1,I2,ru,q⟩
theorem ab1 (ha:PE X o ta)(hv:PE X value tv)(hs:swapsWith value (some (.Attribute o f pos')) pos.line X.env=pure false):PS X (.Assign [.Attribute o f pos'] value pos) (a69 X.K ta tv f):=by
 intro pins s σ H D I h
 refine plainObj_wpAny_Assign_Attribute (thn (hv pins s σ H _ I h) fun u s1 ⟨y,H1,I1,ry,q⟩=>thn (ha pins s1 σ H1 _ I1 q) fun ov s2 ⟨x,H2,I2,rx,a,C,ex,c,n,q2⟩=>?_) hs
 subst ex
 obtain rfl:ov=Value.ref a:=rx
 rcases q2 with ⟨ea,q2⟩ | ⟨dx,fs,ea,ed,l,q2⟩
 . exact Z8 I2 ea c n ry fun dx s3 h1 h2 I3=>⟨σ,_,I3,q2 dx h1 h2⟩
 exact Zf I2 ea ed c n l ry fun s3 I3=>⟨σ,_,I3,q2⟩
end
def ExB (n:Bool)(H:Hp)(a C:Addr)(fs:List (Str×V)):Prop:=(fs=[]/\H a=some (exG n a C none))\/∃ dx,dx≠a/\H a=some (exG n a C (some dx))/\H dx=some (xdO dx fs)
abbrev ExA (H:Hp)(a C:Addr)(fs:List (Str×V)):Prop:=ExB true H a C fs
theorem ExB.inst {n:Bool}{P:Program}{w:World}{H:Hp}{h:Heap}{a C:Addr}{fs:List (Str×V)}(e:ExB n H a C fs)(x:HOk P w H h):∃ ox od,PySem.W.InstAt h a ox C od:=by
 rcases e with ⟨_,e⟩ | ⟨dx,_,e,d⟩
 . obtain⟨vs,sl,q,_⟩:=exG_ok.mp (x a _ e)
   exact⟨_,none,q,rfl,rfl,True.intro⟩
 obtain⟨vs,sl,q,_⟩:=exG_ok.mp (x a _ e)
 obtain⟨mA,hn,_⟩:=xdO_ok.mp (x dx _ d)
 obtain⟨o,_,_,ho,_⟩:=hn
 exact⟨_,some o,q,rfl,rfl,ho⟩
theorem ExB.same {n:Bool}{H H':Hp}{a C:Addr}{fs:List (Str×V)}(e:ExB n H a C fs)(s:∀ b o,H b=some o->H' b=some o):ExB n H' a C fs:=by
 rcases e with ⟨e1,e⟩ | ⟨dx,ne,e,d⟩
 . exact .inl ⟨e1,s _ _ e⟩
 exact .inr ⟨dx,ne,s _ _ e,s _ _ d⟩
def aj1 (K:PySem.W.Frag):List V->Hp->VK->Prop:=fun xs H Q=>∃ n a C fs b,ExB n H a C fs/\XC K C /\
 ((∃ c,xs=[.ref a,.ref c]/\PySem.W.kitOne K (.ref C) (.ref c)=some b)\/(∃ c,xs=[.ref a,.ty c]/\PySem.W.kitOne K (.ref C) (.type c)=some b) \/
   ∃(p:Addr) (cs:List Addr),xs=[.ref a,.ref p]/\H p=some (.tup (cs.map V.ref))/\PySem.W.kitAny K (.ref C) (cs.map Value.ref)=some b)/\Q (.bl b) H
theorem Ql:∀ {cs:List Addr} {us:List Value},Vals (cs.map V.ref) us->us=cs.map Value.ref
 | [], us,r=>by cases us with | nil=>rfl | cons _ _=>cases r
 | c :: cs,us,r=>by
   cases us with
   | nil=>cases r
   | cons u us=>
     cases r with
     | cons r1 r2=>rw[List.map_cons,Ql r2,show u=Value.ref c from r1]
theorem Z6 {X:Cx}:CallR X (.builtin "isinstance") (aj1 X.K):=by
 intro pins s σ H xs us Q I r h
 obtain⟨n,a,C,fs,b,ea,c,hc,q⟩:=h
 obtain⟨ox,od,J⟩:=ea.inst I.hok
 rcases hc with ⟨c',rfl,e⟩ | ⟨c',rfl,e⟩ | ⟨p,cs,rfl,hp,e⟩
 . obtain⟨u,w',rfl,r1,r2⟩:=Rj r
   cases r1;cases r2
   exact PySem.W.kia_one (Xs c) I.kIn J e (fun z=>nomatch z) fun tk=>⟨.bl _,H,I.tok _,rfl,q⟩
 . obtain⟨u,w',rfl,r1,r2⟩:=Rj r
   cases r1;cases r2
   exact PySem.W.kia_one (Xs c) I.kIn J e (fun z=>nomatch z) fun tk=>⟨.bl _,H,I.tok _,rfl,q⟩
 obtain⟨u,w',rfl,r1,r2⟩:=Rj r
 cases r1;cases r2
 obtain⟨_,its,ri,ob,g1,g2,⟨n,g3⟩,g4⟩:=(show ObjOk X.prog X.w H s.heap p (.tup (cs.map V.ref)) from I.hok p _ hp)
 obtain rfl:=Ql ri
 obtain⟨oc,odd,oda,osl⟩:=ob
 dsimp only at g2 g3 g4
 subst g2 g3 g4
 exact PySem.W.kia_tup (Xs c) I.kIn J g1 e (fun z=>nomatch z) fun tk=>⟨.bl _,H,I.tok _,rfl,q⟩
theorem Fc {X:Cx}{K:PySem.W.Frag}(hK:X.K=K:=by ac_nf):CallR X (.builtin "isinstance") (aj1 K):=hK ▸ Z6
def Mkx (P:Program)(w:World)(K:PySem.W.Frag)(mg:Str->Option Value)(base:Heap)(k:Nat)(C:Addr)(x:Str)(ps:List Str)(sp:Sp):Prop:=
 ∃ f fd,FnOk P w K mg base CX0 k f fd ps sp/\XC K C/\PySem.W.findIn K (.ref C) "__init__" = some (some (.ref f))/\PySem.W.isFn K (.ref f)=true/\PySem.W.keepIn K (.ref C)=true/\mg x=some (.ref C)/\Binds K fd ps []
def Xf (K:PySem.W.Frag)(C:Addr):Bool:=match K.lookup C with
 | some ⟨_,_,.cls cd,_⟩=>PySem.W.nsOkIn K cd.ns&&PySem.W.nsIn K cd.ns "__init__" == some none
 | _=>false
structure ap7 (K:PySem.W.Frag)(mg:Str->Option Value)(C:Addr)(x:Str):Prop where
 xc:XC K C
 no:Xf K C=true
 kp:PySem.W.keepIn K (.ref C)=true
 gl:mg x=some (.ref C)
def aq6 (C:Addr)(sp:Sp)(vs:List V)(H1:Hp)(Q:VK):Prop:=vs.length<=8/\∀ x,H1 x=none->sp (.ref x :: vs) (upd H1 x (exO x C none)) (fun v H2=>v = .non/\Q (.ref x) H2) E0
def av6 (C:Addr) (sp:Sp) (t:TA):TE:=fun σ H Q=>t σ H fun vs H1=>aq6 C sp vs H1 Q
theorem ab8 {P:Program}{w:World}{H:Hp}{h:Heap}{a:Addr}(x:HOk P w H h)(n:h.get? a=none):H a=none:=by
 cases q:H a with
 | none=>rfl
 | some o=>
   have t:∀ o,ObjOk P w H h a o->∃ u,h.get? a=some u:=fun o z=>by
    cases o with
    | lst xs=>obtain⟨_,_,_,_,e⟩:=z;exact⟨_,e⟩
    | tup xs=>obtain⟨_,_,_,_,e,_⟩:=z;exact⟨_,e⟩
    | dK kvs=>obtain⟨_,_,_,_,o,_,_,e,_⟩:=z;exact⟨_,e⟩
    | dT kvs=>obtain⟨_,_,_,_,o,_,_,e,_⟩:=z;exact⟨_,e⟩
    | set S n=>obtain⟨o,_,_,_,e,_⟩:=z;exact⟨_,e⟩
    | ins C dx fs=>obtain⟨_,_,_,e,_⟩:=z;exact⟨_,e⟩
    | own y=>obtain⟨_,e⟩:=z;exact⟨_,e⟩
    | xd fs=>obtain⟨_,⟨_,_,_,e,_⟩,_⟩:=z;exact⟨_,e⟩
    | rng lo hi=>obtain⟨_,_,_,e⟩:=z;exact⟨_,e⟩
    | frz ob u=>obtain⟨e,_⟩:=z;exact⟨_,e⟩
    | tbl ps=>exact⟨_,z⟩
    | met f y=>exact⟨_,z⟩
    | ext φ=>obtain⟨_,e,_⟩:=z;exact e
   obtain⟨u,e⟩:=t o (x a o q)
   rw[n] at e;cases e
section
variable {X:Cx}{k:Nat}{f C:Addr}{fd:FuncData}{ps:List Str}{sp:Sp}{x:Str}{p pos:Pos}{e:Expr}{es:List Expr}{t:TA}{pins:List (Addr×Obj)}{σ:St}{H:Hp}{s:Shared}{Q:VK}{us:List Value}{vs:List V}
theorem aa1 (M:Mkx X.prog X.w X.K X.mg X.base k C x ps sp)(hr:Room (k+1) X.A)(I:Inv X pins σ H s)(r:Vals vs us)(hz:vs.length<=8)
  (h:∀ x,H x=none->sp (.ref x :: vs) (upd H x (exO x C none)) (fun v H2=>v = .non/\Q (.ref x) H2) E0) :
  wpAny (model X.prog X.w) X.A (call (.ref C) us) (EP X pins σ Q) X.xe s:=by
 obtain⟨f,fd,F,c,hi,hf,hk,hm,hb⟩:=M
 have hq:=h (s.heap.objs.size+1) (I.hok.fresh (Nat.le_succ _))
 have r2:Vals (V.ref (s.heap.objs.size+1) :: vs) (Value.ref (s.heap.objs.size+1) :: us):=.cons rfl r
 have hl:((Value.ref (s.heap.objs.size+1) :: us)++[]).length=ps.length:=by
  have e:=r2.length
  rw[F.len _ _ _ _ hq] at e
  rw[List.append_nil]
  exact e.symm
 have hg1:((s.heap.push (ad9 us)).push (a06 C s.heap.objs.size)).get? (s.heap.objs.size+1)=some (a06 C s.heap.objs.size):=by heap_get
 have I2:Inv X pins σ (upd H (s.heap.objs.size+1) (exO (s.heap.objs.size+1) C none)) { s with heap:=(s.heap.push (ad9 us)).push (a06 C s.heap.objs.size) }:=
  I.laid (a:=s.heap.objs.size+1) (t':=s.toks) (fun b u q=>Heap.get?_push_of_some _ (Heap.get?_push_of_some _ q)) (Nat.le_succ _) (exO_ok.mpr ⟨_,_,hg1,fun _=>rfl⟩)
 obtain⟨hh,g,d,tk,os⟩:=s
 refine a90 I.kIn c.ex hi (beq_iff_eq.mp hf) (by rw[<- r.length,sizeLine_eq];omega) (wpAny_call (codeAny_mono (F.run _ X.stack _ _ ⟨Value.ref (hh.objs.size+1) :: us,[]⟩ (Value.ref (hh.objs.size+1) :: us) _ _ E0 (hr.make C us [])
  (I2.env0.make C us []) (by have:=hb _ (Value.ref (hh.objs.size+1) :: us) I2.kIn hl;rw[List.append_nil] at this;exact this) r2 hq) fun r s' hq'=>?_))
 cases r with
 | error e=>exact False.elim hq'
 | ok fl=>
   cases fl with
   | ret u=>
     obtain⟨v,H',I3,rv,ev,q3⟩:=I2.after hq'
     subst ev
     exact⟨rv,⟨V.ref (hh.objs.size+1),H',I3,rfl,q3⟩⟩
   | next=>exact False.elim hq'
   | brk=>exact False.elim hq'
   | cont=>exact False.elim hq'
theorem Rx (M:Mkx X.prog X.w X.K X.mg X.base k C x ps sp)(hr:Room (k+1) X.A)(hg:Gl X x)(ha:PA X (e :: es) t)(hdb:(x==("__debug__":Str))=false:=by decide)
  (he:starEach (e :: es) X.env=(false,eval e X.env) :: starEach es X.env:=by ac_nf) (hpl:(backTo pos (starEach es X.env)).any (·.1)=false:=by ac_nf) :
  PE X (.Call (.Name x p) (e :: es) [] pos) (av6 C sp t):=by
 intro pins s σ H Q I h
 have M':=M
 obtain⟨f,fd,F,c,hi,hf,hk,hm,hb⟩:=M'
 refine wpAny_Call_Name_kw (J1 I hg hm ?_ hdb)
 refine PySem.W.callWith_K (h₀:=X.base) I.ok.mod.kin hk (thn (ha pos pins s σ H _ I h) fun us s1 ⟨vs,H1,I1,r,z,q⟩=>⟨I1.kIn,?_⟩) he hpl
 exact aa1 M hr I1 r z q
end
def spX (C:Addr)(fs:List Str):Sp:=fun vs H Q _=>∃ a ws,vs = .ref a :: ws/\ws.length=fs.length/\H a=some (exO a C none) /\
 ∀ dx H',H dx=none->dx≠a->(∀ b,b≠a->b≠dx->H' b=H b)->H' a=some (exO a C (some dx))->H' dx=some (xdO dx (fs.zip ws))->Q .non H'
section
variable {X:Cx}{K:PySem.W.Frag}{o e value:Expr}{f:Str}{pos pos':Pos}{ta tv:TE}
theorem K3 (he:PE X e ta)(hb:attributeBase e f X.env (eval e X.env)=eval e X.env)(hK:X.K=K:=by ac_nf):PE X (.Attribute e f pos) (ac2 K ta f):=hK ▸ ac0 he hb
theorem Hc (ha:PE X o ta)(hv:PE X value tv)(hs:swapsWith value (some (.Attribute o f pos')) pos.line X.env=pure false)(hK:X.K=K:=by ac_nf):PS X (.Assign [.Attribute o f pos'] value pos) (a69 K ta tv f):=
 hK ▸ ab1 ha hv hs
end
section
variable {K:PySem.W.Frag}{σ:St}{H:Hp}{Q:VK}{D:Ends}{f:Str}{ta tv:TE}{t:TA}{sp:Sp}{C a dx B G:Addr}{fs:List (Str×V)}{v y:V}{R:Hp->Prop}{vs:List V}
theorem ad4 (k:ta σ H fun x H1=>ac7 K f x H1 Q):ac2 K ta f σ H Q:=k
theorem Sk {n':Bool}(h:ExB n' H a C fs)(c:XC K C)(n:NoAttr K C f)(l:fs.lookup f=some v)(k:Q v H):ac7 K f (.ref a) H Q:=by
 rcases h with ⟨rfl,_⟩ | ⟨dx,_,h1,h2⟩
 . cases l
 exact⟨n',a,C,dx,fs,v,rfl,h1,h2,c,n,l,k⟩
theorem a67 (k:tv σ H fun y H1=>ta σ H1 fun x H2=>aq4 K f y x H2 fun H3=>D.nx σ H3):a69 K ta tv f D σ H:=k
theorem Pp (h:H a=some (exO a C none))(c:XC K C)(n:NoAttr K C f)(k:∀ dx H',H dx=none->dx≠a->(∀ b,b≠a->b≠dx->H' b=H b)->H' a=some (exO a C (some dx))->H' dx=some (xdO dx [(f,y)])->R H'):aq4 K f y (.ref a) H R:=
 ⟨a,C,rfl,c,n,.inl ⟨h,fun dx h1 h2=>k dx _ h1 h2 (fun b hb hd=>by rw[Ar hb,Ar hd]) Ab (by rw[Ar h2,Ab])⟩⟩
theorem ai6 (h:H a=some (exO a C (some dx)))(hd:H dx=some (xdO dx fs))(c:XC K C)(n:NoAttr K C f)(hl:fs.length<1000)(k:∀ H',(∀ b,b≠dx->H' b=H b)->H' dx=some (xdO dx (Jg f y fs))->R H'):aq4 K f y (.ref a) H R:=
 ⟨a,C,rfl,c,n,.inr ⟨dx,fs,h,hd,hl,k _ (fun b hb=>Ar hb) Ab⟩⟩
theorem ai4 (k:t σ H fun vs H1=>aq6 C sp vs H1 Q):av6 C sp t σ H Q:=k
theorem Y6 {gs:List Str}(hl:vs.length=gs.length)(hz:gs.length<=8)(k:∀ x H',H x=none->Same H H'->ExA H' x C (gs.zip vs)->Q (.ref x) H'):aq6 C (spX C gs) vs H Q:=by
 refine⟨by omega,fun x hx=>⟨x,vs,rfl,hl,Ab,fun dx H' h1 h2 h3 h4 h5=>⟨rfl,k x H' hx (fun b u q=>?_) (.inr ⟨dx,h2,h4,h5⟩)⟩⟩⟩
 have b1:b≠x:=ne_of_none q hx
 rw[Ar h2] at h1
 rw[h3 b b1 (ne_of_none q h1),Ar b1]
 exact q
theorem Fq {n' b:Bool}(h:ExB n' H a C fs)(c:XC K C)(e:PySem.W.kitOne K (.ref C) (.ref G)=some b)(k:Q (.bl b) H):aj1 K [.ref a,.ref G] H Q:=⟨n',a,C,fs,b,h,c,.inl ⟨G,rfl,e⟩,k⟩
theorem Rw {n' b:Bool}{T:String}(h:ExB n' H a C fs)(c:XC K C)(e:PySem.W.kitOne K (.ref C) (.type T)=some b)(k:Q (.bl b) H):aj1 K [.ref a,.ty T] H Q:=⟨n',a,C,fs,b,h,c,.inr (.inl ⟨T,rfl,e⟩),k⟩
theorem Sb {n' b:Bool}{p:Addr}{cs:List Addr}(h:ExB n' H a C fs)(c:XC K C)(hp:H p=some (.tup (cs.map V.ref)))(e:PySem.W.kitAny K (.ref C) (cs.map Value.ref)=some b)(k:Q (.bl b) H):aj1 K [.ref a,.ref p] H Q:=
 ⟨n',a,C,fs,b,h,c,.inr (.inr ⟨p,cs,rfl,hp,e⟩),k⟩
end
theorem Oe {K:PySem.W.Frag}{C B:Addr}(hm:Cf K C B=true):PySem.W.kitOne K (.ref C) (.type "ValueError")=some true:=by
 obtain⟨cd,hc,hx⟩:=PySem.W.any_some hm
 unfold PySem.W.kitOne
 rw[if_neg (by rw[beq_eq_false_iff_ne.mpr (by intro q;cases q)];decide)]
 unfold PySem.W.kitCls
 dsimp only
 rw[if_pos (by decide +kernel)]
 show PySem.W.mroIn K C _=_
 unfold PySem.W.mroIn
 rw[hc,Option.bind_some,beq_iff_eq.mp hx,if_neg (by simp),List.contains_cons,List.contains_cons,show xB.contains (Value.type "ValueError")=true by decide +kernel,Bool.or_true,Bool.or_true]
structure Lft (fs:List Addr)(a:Addr)(oe:Obj)(old:List Addr)(h h':Heap):Prop where
 keep:∀ b o,b∉fs->b≠a->b∉old->h.get? b=some o->h'.get? b=some o
 slot:∀ b o,b∈fs->h.get? b=some o->∃ sl,h'.get? b=some { o with slots:=sl }
 there:∀ b o,h.get? b=some o->∃ o',h'.get? b=some o'
 tr:∃ oe' vs T oT ts,h'.get? a=some oe'/\oe'.cls=oe.cls/\oe'.dict=oe.dict/\oe'.slots=oe.slots/\oe'.data = .fields vs/\vs[1]? = some (.ref T)/\T≠a/\h.get? T=none/\h'.get? T=some oT/\oT.data = .fields ts/\ts[3]? = some .none
section
variable {M:Model}{A:Around}{E:Value->Shared->Prop}{s:Shared}{base:Heap}{env:Env}{outer:List Env}{L a:Addr}{oe:Obj}{vs:Array Value}{Q:Unit->Shared->Prop}
theorem Xm (o:Obj)(g:Array Value->Array Value):(o.mapFields g).dict=o.dict/\(o.mapFields g).slots=o.slots/\(o.mapFields g).cls=o.cls:=by
 obtain⟨c,d,dt,sl⟩:=o
 cases dt<;>exact⟨rfl,rfl,rfl⟩
theorem Rn {head:Value}{hadNext:Bool}(hfr:A.frames=some (env :: outer))(hl:s.heap.FunFrames base (env :: outer))(hf:env.frame=some L)(he:s.heap.get? a=some oe)(hd:oe.data = .fields vs)(hsz:1<vs.size)
  (h:∀ h',Lft (frs (env :: outer)) a oe [] s.heap h'->Q () { s with heap:=h' }) :
  wpAny M A (do let x <- frameOf env;let pl <- entryPlaceOf L hadNext;let b <- EntryCells.newEntry head x .none (rawInt L) .none pl;setField (.ref a) 1 b) (fun _ s'=>wpAny M A (setFlight (.ref a) none) Q E s') E s:=by
 have ha:a∉frs (env :: outer):=fun hm=>by
  obtain⟨_,o,ho,hnf⟩:=hl.mem hm
  rw[he] at ho;cases ho;exact hnf vs hd
 refine wpAny_bind (wpAny_frameOf_fun hfr hl hf fun h1 k1=>?_)
 refine wpAny_bind (wpAny_entryPlaceOf fun pl hpl=>?_)
 unfold EntryCells.newEntry newFields
 refine wpAny_bind (wpAny_newObj_type ?_ (hpl.sizeOk5 _ _ _ _ _))
 generalize hob:(Obj.mk (Value.type "traceback") none (Data.fields ([head,Value.ref L,Value.none,rawInt L,Value.none]++(if pl.isEmpty then List.replicate 6 Value.none else pl)).toArray) #[]:Obj)=ob
 have obd:ob.data = .fields ([head,Value.ref L,Value.none,rawInt L,Value.none]++(if pl.isEmpty then List.replicate 6 Value.none else pl)).toArray:=by rw[<- hob]
 have hob2:ob.isFreed=false:=Obj.isFreed_of_fields obd
 have he1:h1.get? a=some oe:=(k1.2.1 a ha).trans he
 have he2:=Heap.get?_push_of_some (h:=h1) ob he1
 refine wpAny_setField he2 hd hsz ?_
 have hTe:h1.objs.size≠a:=Nat.ne_of_gt (Heap.lt_size he1)
 have d3:=Obj.data_mapFields hd (·.setIfInBounds 1 (Value.ref h1.objs.size))
 have he3:=Heap.get?_update_self (Obj.mapFields (·.setIfInBounds 1 (Value.ref h1.objs.size))) he2 (Obj.isFreed_of_fields d3)
 have hT3:=(Heap.get?_update_other (h1.push ob) (Obj.mapFields (·.setIfInBounds 1 (Value.ref h1.objs.size))) (Ne.symm hTe)).trans (Heap.get?_push_size h1 hob2)
 unfold setFlight
 refine wpAny_bind (wpAny_field he3 d3 (x:=.ref h1.objs.size) (by simp[hsz]) ?_)
 rw[if_pos (show(Value.ref h1.objs.size != Value.none)=true from by simp)]
 refine wpAny_setField hT3 obd (by simp only[List.size_toArray,List.length_append,List.length_cons,List.length_nil]<;>omega) (h _ ?_)
 have kp:∀ b o,b≠a->h1.get? b=some o->(((h1.push ob).update a (Obj.mapFields (·.setIfInBounds 1 (Value.ref h1.objs.size)))).update h1.objs.size (Obj.mapFields (·.setIfInBounds 3 ((none:Option Addr).elim Value.none fun f=>rawInt f)))).get? b=some o:=fun b o hbe hb=>by
  rw[Heap.get?_update_other _ _ (Nat.ne_of_gt (Heap.lt_size hb)),Heap.get?_update_other _ _ (Ne.symm hbe)]
  exact Heap.get?_push_of_some _ hb
 have hea:=(Heap.get?_update_other _ (Obj.mapFields (·.setIfInBounds 3 ((none:Option Addr).elim Value.none fun f=>rawInt f))) hTe).trans he3
 refine⟨fun b o hb hba _ q=>kp b o hba ((k1.2.1 b hb).trans q),fun b o hb q=>?_,fun b o q=>?_,?_⟩
 . obtain⟨sl,z⟩:=k1.2.2 b o q
   exact⟨sl,kp b _ (fun w=>ha (w ▸ hb)) z⟩
 . by_cases w:b=a
   . subst w;exact⟨_,hea⟩
   obtain⟨sl,z⟩:=k1.2.2 b o q
   exact⟨_,kp b _ w z⟩
 obtain⟨m1,m2,m3⟩:=Xm oe (·.setIfInBounds 1 (Value.ref h1.objs.size))
 refine⟨_,_,h1.objs.size,_,_,hea,m3,m1,m2,d3,by simp[hsz],hTe,Heap.get?_none_of_le (by rw[k1.1];exact Nat.le_refl _),Heap.get?_update_self _ hT3 (Obj.isFreed_of_fields (Obj.data_mapFields obd _)),Obj.data_mapFields obd _,?_⟩
 rcases hpl with rfl | ⟨_,_,_,_,_,_,_,rfl⟩<;>simp
theorem Y5 (hfr:A.frames=some (env :: outer))(hl:s.heap.FunFrames base (env :: outer))(hf:env.frame=some L)(he:s.heap.get? a=some oe)(hd:oe.data = .fields vs)(h1:vs[1]? = some .none)
  (h:∀ h',Lft (frs (env :: outer)) a oe [] s.heap h'->Q () { s with heap:=h' }):wpAny M A (leaving env (.ref a)) Q E s:=by
 unfold leaving noteFrame
 simp only[hf]
 refine wpAny_bind (wpAny_bind (wpAny_field he hd h1 ?_))
 rw[if_neg (by decide)]
 exact Rn hfr hl hf he hd (Array.getElem?_eq_some_iff.mp h1).1 h
theorem T6 {T:Addr}{oT:Obj}{ts:Array Value}(hfr:A.frames=some (env :: outer))(hl:s.heap.FunFrames base (env :: outer))(hf:env.frame=some L)(he:s.heap.get? a=some oe)(hd:oe.data = .fields vs)(h1:vs[1]? = some (.ref T))
  (hTe:T≠a) (hT:s.heap.get? T=some oT) (hdT:oT.data = .fields ts) (h3:ts[3]? = some .none)
  (h:∀ h',Lft (frs (env :: outer)) a oe [T] s.heap h'->Q () { s with heap:=h' }):wpAny M A (noteFrame (.ref a) env) (fun _ s'=>wpAny M A (setFlight (.ref a) none) Q E s') E s:=by
 unfold noteFrame
 simp only[hf]
 refine wpAny_bind (wpAny_field he hd h1 ?_)
 rw[if_pos (show(Value.ref T != Value.none)=true from by simp)]
 refine wpAny_bind (wpAny_field hT hdT h3 ?_)
 rw[if_neg (show ¬ ((Value.none==rawInt L)=true) from by simp[rawInt])]
 refine wpAny_bind (wpAny_setField hT hdT (Array.getElem?_eq_some_iff.mp h3).1 ?_)
 have ot:∀ b,b≠T->(s.heap.update T (Obj.mapFields (·.setIfInBounds 3 Value.none))).get? b=s.heap.get? b:=fun b hb=>Heap.get?_update_other _ _ (Ne.symm hb)
 have tt:=Heap.get?_update_self (Obj.mapFields (·.setIfInBounds 3 Value.none)) hT (Obj.isFreed_of_fields (Obj.data_mapFields hdT _))
 have nT:∀ b o,s.heap.get? b=some o->(∀ us,o.data ≠ .fields us)->b≠T:=fun b o hb hnf q=>by
  rw[q,hT] at hb;cases hb;exact hnf ts hdT
 have fT:T∉frs (env :: outer):=fun hm=>by
  obtain⟨_,o,ho,hnf⟩:=hl.mem hm
  exact nT T o ho hnf rfl
 refine Rn (hl:=hl.of_keeps fun b o hb hnf=>⟨o,(ot b (nT b o hb hnf)).trans hb,rfl⟩) hfr hf ((ot a (Ne.symm hTe)).trans he) hd (Array.getElem?_eq_some_iff.mp h1).1 fun h' l=>h h' ?_
 obtain⟨x1,x2,x3,oe',us,T',oT',ts',q1,q2,q3,q4,q5,q6,q7,q8,q9⟩:=l
 refine⟨fun b o hb hba hbt q=>x1 b o hb hba (by simp) ((ot b fun z=>hbt (by simp[z])).trans q),fun b o hb q=>x2 b o hb ((ot b fun z=>fT (z ▸ hb)).trans q),fun b o q=>?_,oe',us,T',oT',ts',q1,q2,q3,q4,q5,q6,q7,?_,q9⟩
 . by_cases z:b=T
   . subst z;exact x3 _ _ tt
   exact x3 b o ((ot b z).trans q)
 by_cases z:T'=T
 . rw[z,tt] at q8;cases q8
 rw[<- ot T' z];exact q8
theorem ad2 {T:Addr}{oT:Obj}{ts:Array Value}(hfr:A.frames=some (env :: outer))(hl:s.heap.FunFrames base (env :: outer))(hf:env.frame=some L)(he:s.heap.get? a=some oe)(hd:oe.data = .fields vs)(h1:vs[1]? = some (.ref T))
  (hTe:T≠a) (hT:s.heap.get? T=some oT) (hdT:oT.data = .fields ts) (h3:ts[3]? = some .none)
  (h:∀ h',Lft (frs (env :: outer)) a oe [T] s.heap h'->Q () { s with heap:=h' }):wpAny M A (leaving env (.ref a)) Q E s:=by
 unfold leaving
 exact wpAny_bind (T6 hfr hl hf he hd h1 hTe hT hdT h3 h)
end
def Tra (a:Addr)(H':Hp)(h0 h:Heap):Prop:=∃ oe vs T oT ts,h.get? a=some oe/\oe.data = .fields vs/\vs[1]? = some (.ref T)/\T≠a/\h.get? T=some oT/\oT.data = .fields ts/\ts[3]? = some .none/\H' T=none/\h0.get? T=none
def CX1 (P:Program)(w:World):CXT:=fun outer H s E e s'=>∃ a C od H',e = .ref a/\s'.os=s.os/\AllBare s'.gens/\Un (frs outer) [] H H' s.heap s'.heap/\HOk P w H' s'.heap/\H' a=some (exG false a C od)/\s.heap.get? a=none/\Tra a H' s.heap s'.heap/\E (.ref a) none H'
section
variable {P:Program}{w:World}{fs:List Addr}{a C:Addr}{od:Option Addr}{oe:Obj}{old:List Addr}{h h':Heap}{H:Hp}{n:Bool}
theorem Lft.hok (l:Lft fs a oe old h h')(ok:HOk P w H h)(he:h.get? a=some oe)(ha:H a=some (exG n a C od))(hfs:∀ b∈fs,H b=none)(hold:∀ b∈old,H b=none):HOk P w (upd H a (exG false a C od)) h':=fun b u q=>by
 have hu:∀ c z,H c=some z->c≠a->upd H a (exG false a C od) c=some z:=fun c z r ne=>by rw[Ar ne];exact r
 by_cases hb:b=a
 . subst hb
   rw[Ab] at q;cases q
   obtain⟨vs,sl,e1,_⟩:=exG_ok.mp (ok b _ ha)
   rw[he] at e1;cases e1
   obtain⟨oe',us,T,oT,ts,q1,q2,q3,q4,q5,_⟩:=l.tr
   obtain⟨c,d,dt,s4⟩:=oe'
   dsimp only at q2 q3 q4 q5
   subst q2 q3 q4 q5
   exact exG_ok.mpr ⟨us,_,q1,fun z=>Bool.noConfusion z⟩
 rw[Ar hb] at q
 refine(ok b u q).stay (fun c v hc r=>?_) (fun c r=>hu c _ r fun z=>?_) fun c xs r=>hu c _ r fun z=>?_
 . have hcn:∃ z,H c=some z:=by
    rcases hc with hc | hc
    . exact⟨u,hc ▸ q⟩
    exact⟨_,hc⟩
   obtain⟨z,hz⟩:=hcn
   refine l.keep c v (fun m=>by rw[hfs c m] at hz;cases hz) (fun e=>?_) (fun m=>by rw[hold c m] at hz;cases hz) r
   subst e
   rcases hc with hc | hc
   . exact hb hc.symm
   rw[ha] at hc;cases hc
 . rw[z,ha] at r;cases r
 rw[z,ha] at r;cases r
end
section
variable {P:Program}{w:World}{K:PySem.W.Frag}{mg:Str->Option Value}{base:Heap}{N:List Str}{qual:Str}{scope:Scope}{f:Addr}{cd:Value}{A:Around}{outer:List Env}{s₀:Shared}{H₀:Hp}{E:XK}
theorem Wo {h h':Heap}:∀ {l:List Env},h.FunFrames base l->(∀ b∈frs l,∀ o,h.get? b=some o->∃ sl,h'.get? b=some { o with slots:=sl })->h'.FunFrames base l
 | [],_,_=>True.intro
 | env :: r,hl,k=>by
   obtain⟨hk,⟨L,o,hf,hn,ho,hd⟩,hr⟩:=hl
   have e:frs (env :: r)=L :: frs r:=by unfold frs;rw[List.filterMap_cons,hf]
   obtain⟨sl,z⟩:=k L (by rw[e];exact List.mem_cons_self) o ho
   exact⟨hk,⟨L,_,hf,hn,z,hd⟩,Wo hr fun b hb=>k b (by rw[e];exact List.mem_cons_of_mem _ hb)⟩
theorem aj3 {CX:CXT}{pins:List (Addr×Obj)}{σ:St}{H1 H2:Hp}{s1 s2:Shared}{h3:Heap}{a C:Addr}{od:Option Addr}{oe:Obj}{old:List Addr}{n:Bool}(I:Inv (Sr CX P w K mg base N qual scope f cd A outer s₀ H₀ E) pins σ H1 s1)
  (os:s2.os=s1.os) (bare:AllBare s2.gens) (un:Un (frs (envOfC qual scope s₀.heap.objs.size f cd :: outer)) [] H1 H2 s1.heap s2.heap) (ok:HOk P w H2 s2.heap) (ha:H2 a=some (exG n a C od)) (he:s2.heap.get? a=some oe) (hn:s₀.heap.get? a=none) (hold:∀ b∈old,H2 b=none/\s₀.heap.get? b=none)
  (l:Lft (frs (envOfC qual scope s₀.heap.objs.size f cd :: outer)) a oe old s2.heap h3) (q:E (.ref a) none (upd H2 a (exG false a C od))) :
  CX1 P w outer H₀ s₀ E (.ref a) { s2 with heap:=h3 }:=by
 have stk:∀ b∈frs (envOfC qual scope s₀.heap.objs.size f cd :: outer),b=s₀.heap.objs.size\/b∈frs outer:=fun b hb=>by
  rcases List.mem_cons.mp (I.stkSub b hb) with z | z
  . exact .inl z
  exact .inr z
 have fr2:∀ b∈frs (envOfC qual scope s₀.heap.objs.size f cd :: outer),H2 b=none:=fun b hb=>by
  obtain⟨_,o,ho,_⟩:=I.stack.mem hb
  exact un.free b o ho (I.stkFree b hb) (by simp)
 obtain⟨oe',us,T,oT,ts,q1,q2,q3,q4,q5,q6,q7,q8,q9,q10,q11⟩:=l.tr
 have nl:∀ b o,s₀.heap.get? b=some o->b≠s₀.heap.objs.size:=fun b o z=>Nat.ne_of_lt (Heap.lt_size z)
 have na:∀ b o,s₀.heap.get? b=some o->b≠a:=fun b o z e=>by rw[e,hn] at z;cases z
 have no:∀ b o,s₀.heap.get? b=some o->b∉old:=fun b o z e=>by rw[(hold b e).2] at z;cases z
 have tn:H2 T=none:=ab8 ok q8
 have t0:s₀.heap.get? T=none:=by
  cases z:s₀.heap.get? T with
  | none=>rfl
  | some o=>
    obtain⟨o1,z1⟩:=I.base.there T o z (by intro m;cases m)
    obtain⟨o2,z2⟩:=un.there T o1 z1 (by simp)
    rw[q8] at z2;cases z2
 have hu:∀ c z,H2 c=some z->z≠exG n a C od->upd H2 a (exG false a C od) c=some z:=fun c z r ne=>by rw[Ar fun e=>ne (by rw[e,ha] at r;exact(Option.some.inj r).symm)];exact r
 refine⟨a,C,od,upd H2 a (exG false a C od),rfl,os.trans I.os,bare,⟨fun b o z nz hb _=>?_,fun b o z nz hb _=>?_,fun b o z nz _=>?_,fun b o z _=>?_,fun b xs z=>?_,fun b o u z=>?_,fun b ps z=>?_⟩,l.hok ok he ha fr2 (fun b m=>(hold b m).1),Ab,hn,⟨oe',us,T,oT,ts,q1,q5,q6,q7,q9,q10,q11,by rw[Ar q7];exact tn,t0⟩,q⟩
 . have z1:=I.base.keep b o z nz hb (by intro m;cases m)
   have n1:=I.base.free b o z nz (by intro m;cases m)
   have hb2:b∉frs (envOfC qual scope s₀.heap.objs.size f cd :: outer):=fun m=>(stk b m).elim (nl b o z) hb
   exact l.keep b o hb2 (na b o z) (no b o z) (un.keep b o z1 n1 hb2 (by simp))
 . obtain⟨sl,z1⟩:=I.base.slot b o z nz hb (by intro m;cases m)
   have n1:=I.base.free b o z nz (by intro m;cases m)
   obtain⟨sl2,z2⟩:=un.any z1 n1 (by simp)
   by_cases m:b∈frs (envOfC qual scope s₀.heap.objs.size f cd :: outer)
   . obtain⟨sl3,z3⟩:=l.slot b _ m z2
     exact⟨sl3,z3⟩
   exact⟨sl2,l.keep b _ m (na b o z) (no b o z) z2⟩
 . obtain⟨o1,z1⟩:=I.base.there b o z (by intro m;cases m)
   have n1:=I.base.free b o z nz (by intro m;cases m)
   show upd H2 a _ b=none
   rw[Ar (na b o z)]
   exact un.free b o1 z1 n1 (by simp)
 . obtain⟨o1,z1⟩:=I.base.there b o z (by intro m;cases m)
   obtain⟨o2,z2⟩:=un.there b o1 z1 (by simp)
   exact l.there b o2 z2
 . exact hu b _ (un.tups b xs (I.base.tups b xs z)) (fun e=>nomatch e)
 . exact hu b _ (un.frzs b o u (I.base.frzs b o u z)) (fun e=>nomatch e)
 obtain⟨m1,z1⟩:=I.base.tbls b ps z
 obtain⟨m2,z2⟩:=un.tbls b _ z1
 exact⟨m1++m2,by rw[<- Array.append_assoc];exact hu b _ z2 (fun e=>nomatch e)⟩
theorem aq8 (hfr:scope.kind ≠ .module)(hE:∀ a H C od,H a=some (exG false a C od)->E (.ref a) none H->E (.ref a) none (upd H a (exG false a C od))):Ft (CX1 P w) (Sr (CX1 P w) P w K mg base N qual scope f cd A outer s₀ H₀ E) E:=by
 intro pins σ H1 s1 e s' I hq
 obtain ⟨a,C,od,H2,rfl,os,bare,un,ok,ha,hn,⟨oe,vs,T,oT,ts,t1,t2,t3,t4,t5,t6,t7,t8,t9⟩,q⟩:=hq
 have hn0:s₀.heap.get? a=none:=by
  cases z:s₀.heap.get? a with
  | none=>rfl
  | some o=>
    obtain⟨o1,z1⟩:=I.base.there a o z (by intro m;cases m)
    rw[hn] at z1;cases z1
 have hT0:s₀.heap.get? T=none:=by
  cases z:s₀.heap.get? T with
  | none=>rfl
  | some o=>
    obtain⟨o1,z1⟩:=I.base.there T o z (by intro m;cases m)
    rw[t9] at z1;cases z1
 have fun2:s'.heap.FunFrames base (envOfC qual scope s₀.heap.objs.size f cd :: outer):=Wo I.stack fun b hb o ho=>un.any ho (I.stkFree b hb) (by simp)
 refine ad2 (base:=base) (L:=s₀.heap.objs.size) (I.ok.frames) fun2 rfl t1 t2 t3 t4 t5 t6 t7 fun h3 l=>?_
 exact aj3 I os bare un ok ha t1 hn0 (fun b hb=>by simp at hb;subst hb;exact⟨t8,hT0⟩) l (hE a H2 C od ha q)
theorem Ry {H:Hp}{a:Addr}{o:HO}(h:H a=some o):upd H a o=H:=by
 funext b
 unfold upd
 split
 . rename_i e;rw[e,h]
 rfl
theorem Vg:Ft (CX1 P w) (Sr (CX1 P w) P w K mg base N qual scope f cd A outer s₀ H₀ E) E:=by
 intro pins σ H1 s1 e s' I hq
 exact aq8 (by have:=I.ok.kind;show scope.kind≠_;rw[show scope.kind = .function from this];decide) (fun a H C od h q=>by rw[Ry h];exact q) pins σ H1 s1 e s' I hq
def Wm (K:PySem.W.Frag)(H0:Hp)(E:XK)(x:V)(H1:Hp):Prop:=∃ a C od,x = .ref a/\H1 a=some (exO a C od)/\XC K C/\H0 a=none/\E (.ref a) none (upd H1 a (exG false a C od))
def Zs (K:PySem.W.Frag)(H0:Hp)(E:XK)(t:TE):TS:=fun D σ H=>t σ H fun x H1=>Wm K H0 E x H1
theorem K1 {ex:Expr}{t:TE}{pos:Pos}{X:Cx}(hX:X=Sr (CX1 P w) P w K mg base N qual scope f cd A outer s₀ H₀ E)(he:PE X ex t):PS X (.Raise (some ex) none pos) (Zs K H₀ E t):=by
 subst hX
 intro pins s σ H D I h
 rw[arm_exec_Raise]
 refine wpAny_bind (wpAny_standAt ?_)
 unfold raiseStmt
 simp only[evalOpt,Option.map]
 refine wpAny_bind (wpAny_bind (thn (he pins s σ H _ I h) fun v s1 ⟨x,H1,I1,rx,a,C,od,ex',ha,hc,h0,q⟩=>wpAny_bind (wpAny_standAt (wpAny_pure ?_))))
 subst ex'
 obtain rfl:v=Value.ref a:=rx
 obtain⟨vs,sl,hx,hv⟩:=exO_ok.mp (I1.hok a _ ha)
 have hv:=hv rfl
 obtain⟨nm,qn,N',bs,bm,sn,sub,ab,col,dd,k0,k1,k2,k3,k5,hl,htl⟩:=Jd hc.ex
 have hC:=I1.kIn _ _ hl
 have hcB:(Value.ref C :: bm).contains (.type "BaseException")=true:=by rw[List.contains_cons,a02 (PySem.W.tail_of_in I1.kIn htl),Bool.or_true]
 have fin:(Sr (CX1 P w) P w K mg base N qual scope f cd A outer s₀ H₀ E).xe (.ref a) s1:=by
  refine Y5 (base:=base) (L:=s₀.heap.objs.size) I1.ok.frames I1.stack rfl hx rfl hv fun h3 l=>?_
  have hn0:s₀.heap.get? a=none:=by
   cases z:s₀.heap.get? a with
   | none=>rfl
   | some o=>
     have:=I1.base.free a o z h0 (by intro m;cases m)
     rw[ha] at this;cases this
  exact aj3 I1 rfl I1.bare Un.refl I1.hok ha hx hn0 (by simp) l q
 obtain⟨hh,g,d,tk,os⟩:=s1
 repeat (first | (with_reducible refine wpAny_loadPart_at hx ?_) | (with_reducible refine wpAny_loadPart_at hC ?_) | (with_reducible refine wpAny_isSubtype_exc hC ?_;rw[hcB]) | (with_reducible refine wpAny_field hx rfl hv ?_) | wp_step)
 exact wpAny_raiseNew_none (I1.ok.hd rfl) fin
end
section
variable {X:Cx}{pins:List (Addr×Obj)}{σ:St}{H:Hp}{s:Shared}
theorem Oq {M:Model}{A:Around}{E:Value->Shared->Prop}{i:Nat}{x:Str}{pos:Pos}{Q:Unit->Shared->Prop}(I:Inv X pins σ H s)(hN:X.N.Nodup)(hi:X.N[i]? = some x)(hk:X.env.scope.names.lookup x=some .local)
  (h:∀ s',Inv X pins (σ.set i none) H s'->Q () s'):wpAny M A (do bindName X.env x .none;unbindBehindTheSuite X.env x pos) Q E s:=by
 refine wpAny_bind (wpAny_bindName (Ju (v:=.non) (u:=.none) I hN hi (.inl hk) rfl (fun s1 I1=>?_) (.inr hk)))
 unfold unbindBehindTheSuite
 refine wpAny_onRaise ?_
 obtain⟨m,hn,hl⟩:=id I1.loc
 have hcls:(X.env.scope.kind == .class||(X.env.scope.kind == .module&&X.env.locals != X.env.globals))=false:=by rw[I1.ok.kind];rfl
 have hiσ:i<σ.length:=by rw[I.len];exact(List.getElem?_eq_some_iff.mp hi).1
 obtain⟨u,ru,lu⟩:=hl i x .non hi (List.getElem?_set_self hiσ) (.inl hk)
 have hmx:m x=some u:=by
  rcases lu with ⟨_,z⟩ | ⟨z,_⟩
  . exact z
  have z':X.env.scope.names.lookup x=some .cell\/X.env.scope.names.lookup x=some .free:=z
  rw[hk] at z'
  rcases z' with z' | z'<;>cases z'
 refine wpAny_unbindName_local hk hn hmx hcls fun h' w hn' hs=>h _ ?_
 obtain⟨oL,_,_,hoL,_⟩:=id hn
 have cne:=I1.cne
 refine⟨I1.ok,I1.os,I1.bare,⟨fun b o e n hb hx=>?_,fun b o e n hb hx=>?_,I1.base.free,fun b o e hx=>?_,I1.base.tups,I1.base.frzs,I1.base.tbls⟩,⟨_,hn',fun j y v' e1 e2 e3=>?_⟩,fun y c e=>?_,I1.free,I1.freeC,fun p hp=>?_,fun b ob e=>?_,by simpa using I.len⟩
 . exact(hs.2 b (Nat.ne_of_lt (Nat.lt_of_lt_of_le (Heap.lt_size e) I1.ok.above))).trans (I1.base.keep b o e n hb hx)
 . obtain⟨sl,e1⟩:=I1.base.slot b o e n hb hx
   exact⟨sl,(hs.2 b (Nat.ne_of_lt (Nat.lt_of_lt_of_le (Heap.lt_size e) I1.ok.above))).trans e1⟩
 . obtain⟨o',e1⟩:=I1.base.there b o e hx
   exact⟨o',(hs.2 b (Nat.ne_of_lt (Nat.lt_of_lt_of_le (Heap.lt_size e) I1.ok.above))).trans e1⟩
 . by_cases hj:j=i
   . subst hj
     rw[List.getElem?_set_self hiσ] at e2
     cases e2
   rw[List.getElem?_set_ne (Ne.symm hj)] at e2
   obtain⟨u',r',q⟩:=hl j y v' e1 (by rw[List.getElem?_set_ne (Ne.symm hj)];exact e2) e3
   refine⟨u',r',?_⟩
   rcases q with ⟨k,e⟩ | ⟨k,c,e,z⟩
   . refine .inl ⟨k,?_⟩
     have ne:y≠x:=fun e=>hj (Nr hN e1 (e ▸ hi))
     simp[ne,e]
   exact .inr ⟨k,c,e,z.sameBut hs (cne y c e)⟩
 . obtain⟨w',z⟩:=I1.cell y c e
   exact⟨w',z.sameBut hs (cne y c e)⟩
 . obtain⟨e,n,ne,nf,d⟩:=I1.pin p hp
   exact⟨(hs.2 p.1 ne).trans e,n,ne,nf,d⟩
 refine(I1.hok b ob e).stay (fun c w' hc q=>(hs.2 c ?_).trans q) (fun _ q=>q) fun _ _ q=>q
 rintro rfl
 rcases hc with hc | hc
 . rw[<- hc] at e;rw[I1.free] at e;cases e
 rw[I1.free] at hc;cases hc
abbrev Cx.tri (X:Cx)(pins:List (Addr×Obj))(E:Value->Shared->Prop):Cx:={ X with xe:=E,pn:=X.pn++pins }
abbrev Cx.hnd (X:Cx)(a:Addr)(E:Value->Shared->Prop):Cx:={ X with A:=X.A.mark (some (.ref a)),calm:=false,xe:=E }
theorem Inv.tri (I:Inv X pins σ H s)(E:Value->Shared->Prop):Inv (X.tri pins E) [] σ H s:=
 ⟨⟨I.ok.mod,I.ok.kind,I.ok.glob,I.ok.blt,I.ok.above,I.ok.inj,I.ok.has,I.ok.cab,I.ok.hd,I.ok.frames,I.ok.stk,I.ok.exf,I.ok.bs,I.ok.bsz,I.ok.noex,I.ok.exfs,I.ok.funs,I.ok.frf⟩,I.os,I.bare,I.base,I.loc,I.cell,I.free,I.freeC,fun p hp=>I.pin p (by simpa using hp),I.hok,I.len⟩
theorem Inv.untri {E:Value->Shared->Prop}{more:List (Addr×Obj)}(I:Inv (X.tri pins E) more σ H s):Inv X pins σ H s:=
 ⟨⟨I.ok.mod,I.ok.kind,I.ok.glob,I.ok.blt,I.ok.above,I.ok.inj,I.ok.has,I.ok.cab,I.ok.hd,I.ok.frames,I.ok.stk,I.ok.exf,I.ok.bs,I.ok.bsz,I.ok.noex,I.ok.exfs,I.ok.funs,I.ok.frf⟩,I.os,I.bare,I.base,I.loc,I.cell,I.free,I.freeC,fun p hp=>I.pin p (List.mem_append_left _ hp),I.hok,I.len⟩
theorem Inv.hnd (I:Inv X pins σ H s)(a:Addr)(E:Value->Shared->Prop):Inv (X.hnd a E) pins σ H s:=
 ⟨⟨I.ok.mod,I.ok.kind,I.ok.glob,I.ok.blt,I.ok.above,I.ok.inj,I.ok.has,I.ok.cab,fun z=>Bool.noConfusion z,I.ok.frames,I.ok.stk,I.ok.exf,I.ok.bs,I.ok.bsz,I.ok.noex,I.ok.exfs,I.ok.funs,I.ok.frf⟩,I.os,I.bare,I.base,I.loc,I.cell,I.free,I.freeC,I.pin,I.hok,I.len⟩
theorem Inv.unhnd {a:Addr}{E:Value->Shared->Prop}(hd:X.calm=true->X.A.handled=none)(I:Inv (X.hnd a E) pins σ H s):Inv X pins σ H s:=
 ⟨⟨I.ok.mod,I.ok.kind,I.ok.glob,I.ok.blt,I.ok.above,I.ok.inj,I.ok.has,I.ok.cab,hd,I.ok.frames,I.ok.stk,I.ok.exf,I.ok.bs,I.ok.bsz,I.ok.noex,I.ok.exfs,I.ok.funs,I.ok.frf⟩,I.os,I.bare,I.base,I.loc,I.cell,I.free,I.freeC,I.pin,I.hok,I.len⟩
end
section
variable {M:Model}{A:Around}{E:Value->Shared->Prop}{s:Shared}{K:PySem.W.Frag}{C B a:Addr}{oe:Obj}{Q:Bool->Shared->Prop}
theorem Ze (X:K.In s.heap)(c:XC K C)(b:XC K B)(hm:PySem.W.mroIn K C (.ref B)=some true)(he:s.heap.get? a=some oe)(hc:oe.cls = .ref C)(hq:Q true s):wpAny M A (excMatches (.ref a) (.ref B)) Q E s:=by
 obtain⟨nm,qn,N,bs,bm,sn,sub,ab,col,dd,k0,k1,k2,k3,k5,hl,htl⟩:=Jd b.ex
 have hB:=X _ _ hl
 have hcB:(Value.ref B :: bm).contains (.type "BaseException")=true:=by rw[List.contains_cons,a02 (PySem.W.tail_of_in X htl),Bool.or_true]
 have f:=tc_notTuple
 have l1:PySem.W.Looks M s.heap (isSubtype (.ref C) (.ref B)) true:=PySem.W.looks_mroIn X hm
 obtain⟨h,g,d,t,os⟩:=s
 unfold excMatches
 repeat (first | (with_reducible refine wpAny_loadPart_at he ?_;rw[hc]) | (with_reducible refine wpAny_loadPart_at hB ?_) | (with_reducible refine wpAny_isSubtype_exc hB ?_;rw[hcB]) | (with_reducible refine l1.at ?_) | wp_step)
 exact hq
end
def tryE (G:Addr->Hp->Prop):XK:=fun v _ H'=>∃ a,v = .ref a/\G a H'
def sTry (K:PySem.W.Frag)(len i:Nat)(B:Addr)(G:Addr->Hp->Prop)(tb th:TS):TS:=fun D σ H=>tb D σ H/\∀(a:Addr) (H':Hp) (σ':St),σ'.length=len->G a H' ->
 (∃ C od,H' a=some (exG false a C od)/\XC K C/\PySem.W.mroIn K C (.ref B)=some true) /\
  th { nx:=fun σ2 H2=>D.nx (σ2.set i none) H2,rt:=D.rt,bk:=fun σ2 H2=>D.bk (σ2.set i none) H2,ct:=fun σ2 H2=>D.ct (σ2.set i none) H2 } (σ'.set i (some (.ref a))) H'
section
variable {X:Cx}{pins:List (Addr×Obj)}
theorem SP.untri {E:Value->Shared->Prop}{D:Ends}{f:Flow}{s':Shared}(h:SP (X.tri pins E) [] D f s'):SP X pins D f s':=by
 cases f with
 | next=>obtain⟨σ',H',I,q⟩:=h;exact⟨σ',H',I.untri,q⟩
 | brk=>obtain⟨σ',H',I,q⟩:=h;exact⟨σ',H',I.untri,q⟩
 | cont=>obtain⟨σ',H',I,q⟩:=h;exact⟨σ',H',I.untri,q⟩
 | ret u=>obtain⟨v,σ',H',I,r,q⟩:=h;exact⟨v,σ',H',I.untri,r,q⟩
theorem ac6 {ts:Array Value}(h:ts[3]? = some .none):ts.setIfInBounds 3 .none=ts:=by
 obtain⟨h1,h2⟩:=Array.getElem?_eq_some_iff.mp h
 refine Array.ext (by simp) fun j j1 j2=>?_
 rw[Array.getElem_setIfInBounds]
 split
 . rename_i e;subst e;exact h2.symm
 rfl
theorem ae3 {body suite:List Stmt}{b0:Stmt}{tb th:TS}{n bx:Str}{i:Nat}{B:Addr}{p1 p2 pos:Pos}(G:Addr->Hp->Prop)(hN:X.N.Nodup)(hi:X.N[i]? = some n)(hk:X.env.scope.names.lookup n=some .local)(hg:Gl X bx)(hm:X.mg bx=some (.ref B))(hB:XC X.K B)
  (hst:X.stack=X.env :: X.outer) (hf:X.env.frame=some X.env.locals) (hex:X.ex=[])
  (hb:∀ ps xe,Ft (CX1 X.prog X.w) (X.tri ps xe) (tryE G)->PSs (X.tri ps xe) body tb) (hs:∀ a xe,PSs (X.hnd a xe) (b0 :: suite) th) (hd:(bx==("__debug__":Str))=false:=by decide) :
  PS X (.Try body [.ExceptHandler (some (.Name bx p1)) (some n) (b0 :: suite) p2] [] [] pos) (sTry X.K X.N.length i B G tb th):=by
 intro pins s σ H D I h
 refine wpAny_Try_except ?_
 refine wpAny_mono (hb pins _ ?_ [] s σ H D (I.tri _) h.1) (fun f s1 hs1=>?_) fun e s1 he=>he
 . intro pins2 σ2 H2 s2 e s3 I2 hq
   obtain⟨a,C',od',H3,rfl,os,bare,un,ok,ha',hn,⟨oe,vs,T,oT,ts,t1,t2,t3,t4,t5,t6,t7,t8,t9⟩,a',ea,q⟩:=hq
   cases ea
   have J2:Inv X pins σ2 H2 s2:=I2.untri
   obtain⟨⟨C,od,ha,hc,hmro⟩,q3⟩:=h.2 a H3 σ2 (by rw[J2.len]) q
   have un':Un (frs X.stack) [] H2 H3 s2.heap s3.heap:=un
   have fun3:s3.heap.FunFrames X.base (X.env :: X.outer):=by
    have:=Wo (h':=s3.heap) J2.stack fun b hb o ho=>un'.any ho (J2.stkFree b hb) (by simp)
    rwa[hst] at this
   have fr3:∀ b∈frs X.stack,H3 b=none:=fun b hb=>by
    obtain⟨_,o,ho,_⟩:=J2.stack.mem hb
    exact un'.free b o ho (J2.stkFree b hb) (by simp)
   refine T6 (base:=X.base) (L:=X.env.locals) (by have:=J2.ok.frames;rwa[hst] at this) fun3 hf t1 t2 t3 t4 t5 t6 t7 fun h4 l=>?_
   rw[<- hst] at l
   have ok4:HOk X.prog X.w H3 h4:=by
    have:=l.hok ok t1 ha fr3 (fun b hb=>by simp at hb;subst hb;exact t8)
    rwa[Ry ha] at this
   have un4:Un (frs X.stack) [] H2 H3 s2.heap h4:=by
    have na:∀ b o,s2.heap.get? b=some o->b≠a:=fun b o z e=>by rw[e,hn] at z;cases z
    have nT:∀ b o,s2.heap.get? b=some o->b∉[T]:=fun b o z e=>by simp at e;rw[e,t9] at z;cases z
    refine⟨fun b o z nz hb hx=>l.keep b o hb (na b o z) (nT b o z) (un'.keep b o z nz hb hx),fun b o z nz hb hx=>?_,un'.free,fun b o z hx=>?_,un'.tups,un'.frzs,un'.tbls⟩
    . obtain⟨sl,z1⟩:=un'.slot b o z nz hb hx
      obtain⟨sl2,z2⟩:=l.slot b _ hb z1
      exact⟨sl2,z2⟩
    obtain⟨o1,z1⟩:=un'.there b o z hx
    exact l.there b o1 z1
   have I4:Inv X pins σ2 H3 { s3 with heap:=h4 }:=J2.call' (s':={ s3 with heap:=h4 }) (ch:=[]) os un4 ok4 bare (fun b z=>absurd z (by simp))
   obtain⟨us,sl4,he4,_⟩:=exG_ok.mp (ok4 a _ ha)
   obtain⟨oe',vs',T',oT',ts',q1,q2,q3',q4,q5,q6,q7,q8,q9,q10,q11⟩:=l.tr
   have hd4:X.calm=true->X.A.handled=none:=I.ok.hd
   refine wpAny_handleBy_cons (codeAny_handlers_test ?_) (by intro q;cases q)
   refine J1 (X:=X.hnd a fun _ _=>False) (I4.hnd a _) hg hm ?_ hd
   refine Ze (s:={ s3 with heap:=h4 }) I4.kIn hc hB hmro he4 rfl ?_
   refine codeAny_handlers_suite_as ?_
   have hz:3<ts'.size:=(Array.getElem?_eq_some_iff.mp q11).1
   refine wpAny_setFlight_none q1 q5 q6 q9 q10 hz ?_
   have same:∀ b u,h4.get? b=some u->(h4.update T' (Obj.mapFields (·.setIfInBounds 3 .none))).get? b=some u:=fun b u z=>by
    by_cases e:b=T'
    . subst e
      rw[q9] at z;cases z
      rw[Heap.get?_update_self _ q9 (Obj.isFreed_of_fields (Obj.data_mapFields q10 _))]
      obtain⟨c1,d1,dt1,s1'⟩:=oT'
      dsimp only at q10
      subst q10
      refine congrArg some ?_
      show Obj.mk c1 d1 (Data.fields (ts'.setIfInBounds 3 .none)) s1'=_
      rw[ac6 q11]
    rw[Heap.get?_update_other _ _ (Ne.symm e)];exact z
   have I5:Inv X pins σ2 H3 { s3 with heap:=h4.update T' (Obj.mapFields (·.setIfInBounds 3 .none)) }:=I4.kept (t':=s3.toks) same
   refine Ju (X:=X) (v:=.ref a) I5 hN hi (.inl hk) rfl (fun s6 I6=>?_) (.inr hk)
   refine thn (hs a _ pins s6 _ H3 _ (I6.hnd a _) q3) fun f s7 h7=>?_
   cases f with
   | next=>obtain⟨σ7,H7,I7,q7'⟩:=h7;exact Oq (I7.unhnd hd4) hN hi hk fun s8 I8=>⟨_,_,I8,q7'⟩
   | brk=>obtain⟨σ7,H7,I7,q7'⟩:=h7;exact Oq (I7.unhnd hd4) hN hi hk fun s8 I8=>⟨_,_,I8,q7'⟩
   | cont=>obtain⟨σ7,H7,I7,q7'⟩:=h7;exact Oq (I7.unhnd hd4) hN hi hk fun s8 I8=>⟨_,_,I8,q7'⟩
   | ret u=>obtain⟨v,σ7,H7,I7,r7,q7'⟩:=h7;exact Oq (I7.unhnd hd4) hN hi hk fun s8 I8=>⟨v,_,_,I8,r7,q7'⟩
 have hs1:=hs1.untri
 cases f with
 | next=>exact wpAny_pure hs1
 | brk=>exact hs1
 | cont=>exact hs1
 | ret u=>exact hs1
end
def al8 (P:Program)(w:World)(K:PySem.W.Frag)(mg:Str->Option Value)(base:Heap)(k:Nat)(x:Str)(ps:List Str)(sp:Sp):Prop:=
 ∃ f fd,FnOk P w K mg base (CX1 P w) k f fd ps sp/\mg x=some (.ref f)/\PySem.W.keepIn K (.ref f)=true/\Binds K fd ps []
section
variable {X:Cx}{k:Nat}{x:Str}{ps:List Str}{sp:Sp}{e:Expr}{es:List Expr}{t:TA}{p pos:Pos}{E:XK}
theorem We (F:al8 X.prog X.w X.K X.mg X.base k x ps sp)(hr:Room k X.A)(hg:Gl X x)(hx:Ft (CX1 X.prog X.w) X E)(ha:PA X (e :: es) t)(hdb:(x==("__debug__":Str))=false:=by decide)
  (he:starEach (e :: es) X.env=(false,eval e X.env) :: starEach es X.env:=by ac_nf) (hpl:(backTo pos (starEach es X.env)).any (·.1)=false:=by ac_nf):PE X (.Call (.Name x p) (e :: es) [] pos) (Ur sp [] E t):=by
 obtain⟨f,fd,h1,h2,h3,h4⟩:=F
 exact Wf h1 hr hg h2 h3 h4 .nil hx ha hdb he hpl
end
section
variable {P:Program}{w:World}{K:PySem.W.Frag}{mg:Str->Option Value}{base:Heap}
theorem Fun.ok1 {x qual:Str}{st:Stmt}{f:Addr}{fd:FuncData}{N ps:List Str}{k:Nat}{sp:Sp}(F:Fun K x qual st f fd)(S:Af N ps (A3 st))(len:∀ vs H Q E,sp vs H Q E->vs.length=ps.length)
  (hbody:∀(cdv:Value) (A:Around) (outer:List Env) (s:Shared) (H:Hp) (vs:List V) (Q:VK) (E:XK),Room k (A.deeper (envOfC qual (A3 st) s.heap.objs.size f cdv))->sp vs H Q E ->
   ∃ t,PSs (Sr (CX1 P w) P w K mg base N qual (A3 st) f cdv A outer s H E) (A8 st) t/\t { nx:=fun _ H'=>Q .non H',rt:=Q } (start N vs) H):FnOk P w K mg base (CX1 P w) (k+1) f fd ps sp:=by
 obtain⟨oc,od,kV,doc,pm,an,cdv,ct,osl,rfl,lk,hcd⟩:=F.ex
 exact ah4 lk hcd S len fun A outer s H vs Q E hr hsp=>hbody cdv A outer s H vs Q E hr hsp
end
section
variable {K:PySem.W.Frag}{σ:St}{H H0:Hp}{D:Ends}{t:TE}{C a:Addr}{fs:List (Str×V)}{E:XK}
theorem i_sRaise (k:t σ H fun x H1=>Wm K H0 E x H1):Zs K H0 E t D σ H:=k
theorem Ob (h:ExA H a C fs)(c:XC K C)(h0:H0 a=none)(k:∀ H2,(∀ b o,b≠a->H b=some o->H2 b=some o)->ExB false H2 a C fs->E (.ref a) none H2):Wm K H0 E (.ref a) H:=by
 have kp:∀ od b o,b≠a->H b=some o->upd H a (exG false a C od) b=some o:=fun od b o hb q=>by rw[Ar hb];exact q
 rcases h with ⟨e1,h⟩ | ⟨dx,ne,h,g⟩
 . exact⟨a,C,none,rfl,h,c,h0,k _ (kp _) (.inl ⟨e1,Ab⟩)⟩
 exact⟨a,C,some dx,rfl,h,c,h0,k _ (kp _) (.inr ⟨dx,ne,Ab,kp _ _ _ ne g⟩)⟩
end
section
open Lean
def mWay (s:String):MacroM (TSyntax `tactic):=
 if s == "as" then `(tactic| assumption) else if s == "ar" then `(tactic| with_reducible assumption) else `(tactic| walk_at $(quote s))
def Uo (ts:Array (TSyntax `tactic)):MacroM (TSyntax `tactic):=do
 let ts <- ts.mapM fun t=>`(Lean.Parser.Tactic.tacticSeq| $t:tactic)
 `(tactic| first $[| $ts]*)
def mId (s:String):Ident:=mkIdent ((s.splitOn ".").foldl Name.mkStr Name.anonymous)
def mIs (s:String):MacroM Ident:=do return mkIdent (<- Macro.addMacroScope (.mkSimple s))
def Xa:List String->TSyntax `tactic->MacroM (TSyntax `tactic)
 | [],t=>pure t
 | s :: r,t=>do
   match s.splitOn "=" with
   | [x,y]=>let w <- mWay y;let i <- mIs x;Xa r (<- `(tactic| ($t:tactic;(case $i:ident=>$w:tactic))))
   | _=>Xa r t
def mRow (s:String):MacroM (TSyntax `tactic):=do
 match s.splitOn ": " with
 | [h,c]=>
   match h.splitOn " " with
   | f :: as=>
     let xs <- as.toArray.mapM fun a=>do if a == "_" then `(?_) else `(?$(<- mIs a))
     let u:=Syntax.mkApp (mId f) xs
     let t <- if as.contains "_" then `(tactic| with_reducible refine' $u) else `(tactic| refine' $u)
     Xa (c.splitOn " ") t
   | _=>Macro.throwUnsupported
 | _=>do
   if s == "as" then `(tactic| assumption)
   else if s == "no" then `(tactic| fail "no")
   else `(tactic| exact $(mId s))
def mRows (s:String):MacroM (TSyntax `tactic):=do Uo (<- (s.splitOn " | ").toArray.mapM mRow)
def mAlts (s:String):MacroM (TSyntax `tactic):=do
 let a <- Uo (<- (s.splitOn " ").toArray.mapM fun n=>`(tactic| refine $(mId n) ?_))
 `(tactic| with_reducible $a:tactic)
def mAltG (s:String):MacroM (TSyntax `tactic):=do
 let a <- Uo (<- (s.splitOn " ").toArray.mapM fun n=>`(tactic| refine $(mId n) fun N hN=>?_))
 `(tactic| with_reducible $a:tactic)
end
section
open PySem
theorem same_refl {H:Hp}:Same H H:=Same.refl _
theorem fz_refl {H:Hp}:Fz H H:=Fz.refl _
theorem ne_none2 {H:Hp}{a b:PySem.Addr}{o:HO}(h:H a=some o)(g:H b=none):b≠a:=Ne.symm (ne_of_none h g)
def Cut (N M:St->Hp->Prop):Prop:=∀ σ H,M σ H->N σ H
section
variable {t u:TS}{te td ty tv:TE}{g:TG}{D:Ends}{σ:St}{H:Hp}
theorem ae6 (k:∀ N:St->Hp->Prop,Cut N (u D)->t { D with nx:=N } σ H):aq0 t u D σ H:=k (u D) fun _ _ h=>h
theorem i_seqAG (k:∀ N:St->Hp->Prop,Cut N (u D)->ai2 te g { D with nx:=N } σ H):aq0 (ai2 te g) u D σ H:=k (u D) fun _ _ h=>h
theorem i_nxS {i:Nat}{rt:VK}{bk ct:St->Hp->Prop}(k:D.nx (σ.set i none) H):Ends.nx { nx:=fun σ2 H2=>D.nx (σ2.set i none) H2,rt:=rt,bk:=bk,ct:=ct } σ H:=k
theorem i_cutN {N M:St->Hp->Prop}(h:Cut N M)(k:M σ H):N σ H:=h _ _ k
end
theorem ao8 {α:Type}{P:List α->Prop}{us:List α}(hl:us.length=0)(h:P []):P us:=by
 rw[List.length_eq_zero_iff.mp hl];exact h
theorem a08 {α:Type}{P:List α->Prop}{us:List α}(hl:us.length=1)(h:∀ a0:α,P [a0]):P us:=by
 cases us with
 | nil=>cases hl
 | cons a r=>exact ao8 (P:=fun r=>P (a :: r)) (Nat.succ.inj hl) (h a)
theorem a01 {α:Type}{P:List α->Prop}{us:List α}(hl:us.length=2)(h:∀ a0 a1:α,P [a0,a1]):P us:=by
 cases us with
 | nil=>cases hl
 | cons a r=>exact a08 (P:=fun r=>P (a :: r)) (Nat.succ.inj hl) (h a)
theorem Zw {α:Type}{P:List α->Prop}{us:List α}(hl:us.length=3)(h:∀ a0 a1 a2:α,P [a0,a1,a2]):P us:=by
 cases us with
 | nil=>cases hl
 | cons a r=>exact a01 (P:=fun r=>P (a :: r)) (Nat.succ.inj hl) (h a)
theorem an9 {α:Type}{P:List α->Prop}{us:List α}(hl:us.length=4)(h:∀ a0 a1 a2 a3:α,P [a0,a1,a2,a3]):P us:=by
 cases us with
 | nil=>cases hl
 | cons a r=>exact Zw (P:=fun r=>P (a :: r)) (Nat.succ.inj hl) (h a)
end
section
variable {K:PySem.W.Frag}{x qual:Str}{st:Stmt}{f:Addr}{fd:FuncData}
theorem Eb {p0:Str}(F:Fun K x qual st f fd)(h:∀(kV doc pm:Value) (an:Option Addr) (cdv ct:Value) (u0:Value),bindArgs (PySem.W.fnOf x qual (Aa st) (A8 st) (A3 st) .none kV doc pm an cdv ct) ⟨[u0],[]⟩=pure (([p0]:List Str).zip [u0])):Binds K fd [p0] []:=
 F.binds fun kV doc pm an cdv ct us hl=>a08 (P:=fun us=>bindArgs (PySem.W.fnOf x qual (Aa st) (A8 st) (A3 st) .none kV doc pm an cdv ct) ⟨us,[]⟩=pure (([p0]:List Str).zip us)) hl (h kV doc pm an cdv ct)
theorem Ef {p0 p1:Str}(F:Fun K x qual st f fd)(h:∀(kV doc pm:Value) (an:Option Addr) (cdv ct:Value) (u0 u1:Value),bindArgs (PySem.W.fnOf x qual (Aa st) (A8 st) (A3 st) .none kV doc pm an cdv ct) ⟨[u0,u1],[]⟩=pure (([p0,p1]:List Str).zip [u0,u1])):Binds K fd [p0,p1] []:=
 F.binds fun kV doc pm an cdv ct us hl=>a01 (P:=fun us=>bindArgs (PySem.W.fnOf x qual (Aa st) (A8 st) (A3 st) .none kV doc pm an cdv ct) ⟨us,[]⟩=pure (([p0,p1]:List Str).zip us)) hl (h kV doc pm an cdv ct)
theorem Ib {p0 p1 p2:Str}(F:Fun K x qual st f fd)(h:∀(kV doc pm:Value) (an:Option Addr) (cdv ct:Value) (u0 u1 u2:Value),bindArgs (PySem.W.fnOf x qual (Aa st) (A8 st) (A3 st) .none kV doc pm an cdv ct) ⟨[u0,u1,u2],[]⟩=pure (([p0,p1,p2]:List Str).zip [u0,u1,u2])):Binds K fd [p0,p1,p2] []:=
 F.binds fun kV doc pm an cdv ct us hl=>Zw (P:=fun us=>bindArgs (PySem.W.fnOf x qual (Aa st) (A8 st) (A3 st) .none kV doc pm an cdv ct) ⟨us,[]⟩=pure (([p0,p1,p2]:List Str).zip us)) hl (h kV doc pm an cdv ct)
theorem a04 {p0 p1 p2 p3:Str}(F:Fun K x qual st f fd)(h:∀(kV doc pm:Value) (an:Option Addr) (cdv ct:Value) (u0 u1 u2 u3:Value),bindArgs (PySem.W.fnOf x qual (Aa st) (A8 st) (A3 st) .none kV doc pm an cdv ct) ⟨[u0,u1,u2,u3],[]⟩=pure (([p0,p1,p2,p3]:List Str).zip [u0,u1,u2,u3])):Binds K fd [p0,p1,p2,p3] []:=
 F.binds fun kV doc pm an cdv ct us hl=>an9 (P:=fun us=>bindArgs (PySem.W.fnOf x qual (Aa st) (A8 st) (A3 st) .none kV doc pm an cdv ct) ⟨us,[]⟩=pure (([p0,p1,p2,p3]:List Str).zip us)) hl (h kV doc pm an cdv ct)
end
section
open PySem.SeqAt PySem.MeetsSeq
variable {A:Around}{s:Shared}
end
section
variable {prog:Program}{w:World}{A:Around}{E:Value->Shared->Prop}{s:Shared}
set_option maxRecDepth 100000 in
end
section
variable {X:Cx}{pos p2:Pos}
end
section
variable {P:Program}{w:World}{A:Around}{E:Value->Shared->Prop}{z:Shared}
end
section
variable {X:Cx}{K:PySem.W.Frag}
end
section
variable {K:PySem.W.Frag}{H:Hp}{Q:VK}
end
section
variable {X:Cx}{pins:List (Addr×Obj)}{σ:St}{H:Hp}{s:Shared}
end
section
variable {X:Cx}{K:PySem.W.Frag}
end
section
variable {X:Cx}{K:PySem.W.Frag}
def Sl (K:PySem.W.Frag):List V->Hp->VK->Prop:=fun xs H Q=>∃ x d,xs=[x]/\Is K H d x/\d.showable=true/\d.shown.length<=sizeLine/\d.depth<=100/\Q (.str d.shown) H
theorem Tc (hq:QA X.A):CallR X (.builtin "repr") (Sl X.K):=by
 intro pins s σ H xs us Q I rv h
 obtain⟨x,d,rfl,i,hs,hf,hd,q⟩:=h
 cases d with
 | none=>
   simp only[Is] at i
   subst i
   exact Mv pins s σ H _ us Q I rv (.inr ⟨rfl,q⟩)
 | bool b=>
   simp only[Is] at i
   subst i
   refine Mv pins s σ H _ us Q I rv (.inl ⟨b,rfl,?_⟩)
   cases b<;>exact q
 | int n=>
   simp only[Is] at i
   subst i
   exact Ug pins s σ H _ us Q I rv ⟨n,rfl,of_decide_eq_true (by simpa only[PyData.showable] using hs),q⟩
 | str z=>
   simp only[Is] at i
   subst i
   obtain⟨u,rfl,ru⟩:=rv.one
   obtain⟨t,rfl⟩:=ru
   exact PySem.P.repr_of_str ⟨.str _,H,I.tok _,⟨_,rfl⟩,q⟩ hf
 | list ds=>exact Mq hq pins s σ H _ us Q I rv ⟨x,_,rfl,i,⟨rfl,hs,hf,hd⟩,q⟩
 | tuple ds=>exact Mq hq pins s σ H _ us Q I rv ⟨x,_,rfl,i,⟨rfl,hs,hf,hd⟩,q⟩
 | dict kvs=>simp only[Is] at i
theorem Cn (hq:QA X.A)(hK:X.K=K:=by ac_nf):CallR X (.builtin "repr") (Sl K):=hK ▸ Tc hq
theorem Uk {H:Hp}{Q:VK}{d:PyData}{x:V}(h:Is K H d x)(h1:d.showable=true)(h2:d.shown.length<=sizeLine)(h3:d.depth<=100)(k:Q (.str d.shown) H):Sl K [x] H Q:=⟨x,d,rfl,h,h1,h2,h3,k⟩
end
section
variable {prog:Program}{w:World}{A:Around}{E:Value->Shared->Prop}{s:Shared}
end
section
variable {P:Program}{w:World}{A:Around}{R:Result->Shared->Prop}{it:Addr}{fp wr:List Addr}{G:Array GenState->Array GenState->Prop}{n:Nat}{PV:Nat->Value->Prop}{St:Nat->Shared->Prop}
end
section
variable {prog:Program}{w:World}{A:Around}{E:Value->Shared->Prop}{s:Shared}
set_option maxHeartbeats 3200000 in
end
section
variable {prog:Program}{w:World}{A:Around}{E:Value->Shared->Prop}{s:Shared}
end
section
variable {prog:Program}{w:World}{A:Around}{E:Value->Shared->Prop}{s:Shared}
end
section
variable {prog:Program}{w:World}{A:Around}{E:Value->Shared->Prop}{s:Shared}
end
section
variable {prog:Program}{w:World}{A:Around}{E:Value->Shared->Prop}{s:Shared}
end
section
variable {X:Cx}{K:PySem.W.Frag}
end
end L2
namespace L2
open PySem PySem.Spec PyProof.Rows
open Builtin
section
variable {X:Cx}{K:PySem.W.Frag}
end
end L2
namespace L2
open PySem PySem.Spec PyProof.Rows
section
variable {P:Program}{w:World}{K:PySem.W.Frag}{mg:Str->Option Value}{base:Heap}{k:Nat}{f:Addr}{fd:FuncData}{ps:List Str}{sp sp':Sp}
end
section
variable {P:Program}{w:World}{A:Around}{E:Value->Shared->Prop}{z:Shared}
end
section
variable {X:Cx}{K:PySem.W.Frag}
end
section
variable {K:PySem.W.Frag}{σ:St}{H:Hp}{Q:VK}
end
section
variable {X:Cx}{K:PySem.W.Frag}{H:Hp}{Q:VK}
end
section
variable {X:Cx}{K:PySem.W.Frag}
end
section
variable {α:Type}[DecidableEq α]
end
section
variable {α:Type}[DecidableEq α]
end
section
variable {α:Type}[DecidableEq α]
end
section
variable {X:Cx}{pins:List (Addr×Obj)}{σ:List (Option V)}{H:Hp}{s:Shared}{h':Heap}
variable {K:PySem.W.Frag}
end
section
variable {α:Type}[DecidableEq α]
end
section
variable {α:Type}[DecidableEq α]
end
section
variable {α:Type}[DecidableEq α]
variable {β:Type}[DecidableEq β]
end
section
variable {X:Cx}{k:Nat}{x:Str}{ps:List Str}{sp:Sp}{e:Expr}{es:List Expr}{t:TA}{p pos:Pos}{E:St->XK}
end
section
variable {X:Cx}{pins:List (Addr×Obj)}
end
section
variable {α:Type}[DecidableEq α]
end
section
variable {ns ns':List Str}{ps ps':List (Str×Str)}
variable {qs:List (Str×Str)}
end
section
variable {M:Model}{A:Around}{E:Value->Shared->Prop}{s:Shared}{base:Heap}{env:Env}{outer:List Env}{L a:Addr}{oe:Obj}{vs:Array Value}{Q:Unit->Shared->Prop}
end
section
variable {P:Program}{w:World}{fs:List Addr}{a C:Addr}{od:Option Addr}{oe:Obj}{old:List Addr}{h h':Heap}{H:Hp}{n:Bool}
end
section
variable {P:Program}{w:World}{K:PySem.W.Frag}{mg:Str->Option Value}{base:Heap}{N:List Str}{qual:Str}{scope:Scope}{f:Addr}{cd:Value}{A:Around}{outer:List Env}{s₀:Shared}{H₀:Hp}{E:XK}
end
section
variable {P:Program}{w:World}{K:PySem.W.Frag}{mg:Str->Option Value}{base:Heap}{N:List Str}{qual:Str}{scope:Scope}{f:Addr}{cd:Value}{A:Around}{outer:List Env}{s₀:Shared}{H₀:Hp}{E:XK}
end
section
variable {X:Cx}{scope:Scope}{xs fr:List Str}{pins:List (Addr×Obj)}{σ:St}{H:Hp}{s:Shared}{js:List Nat}{fp:List Addr}
end
def Pm (P:Program)(w:World)(K:PySem.W.Frag)(mg:Str->Option Value)(base:Heap)(k:Nat)(C:Addr)(m:Str)(ps:List Str)(sp:Sp):Prop:=
 ∃ f fd,FnOk P w K mg base (CX1 P w) k f fd ps sp/\ad8 K C m f/\Binds K fd ps []
section
variable {X:Cx}{k:Nat}{C:Addr}{m:Str}{ps:List Str}{sp:Sp}{e o:Expr}{es:List Expr}{ta:TE}{t:TA}{p pos apos:Pos}{E:XK}
theorem Px {pl:Sem Bool}(he:PE X o ta)(c:Cls X.K C)(F:Pm X.prog X.w X.K X.mg X.base k C m ps sp)(hr:Room k X.A)(hx:Ft (CX1 X.prog X.w) X E)(ha:PA X (e :: es) t)
  (hst:starEach (e :: es) X.env=(false,eval e X.env) :: starEach es X.env:=by ac_nf) (hpl:(backTo pos (starEach es X.env)).any (·.1)=false:=by ac_nf)
  (ht:eval (.Call (.Attribute o m apos) (e :: es) [] pos) X.env=(do
   let ov <- eval o X.env
   standAt apos.atName
   let (f,first) <- holding [ov] (getMethod ov m pl)
   callWith pos f first (backTo pos (starEach (e :: es) X.env)) (backToKw pos (keywordEach [] X.env))):=by ac_nf) :
  PE X (.Call (.Attribute o m apos) (e :: es) [] pos) (Ti C m sp [] E ta t):=by
 obtain⟨f,fd,h1,h2,h3⟩:=F
 exact Uq (pl:=pl) he c h2 h1 hr h3 .nil hx ha hst hpl ht
theorem X6 {pl:Sem Bool}(he:PE X o ta)(c:Cls X.K C)(F:Pm X.prog X.w X.K X.mg X.base k C m ps sp)(hr:Room k X.A)(hx:Ft (CX1 X.prog X.w) X E)
  (ht:eval (.Call (.Attribute o m apos) [] [] pos) X.env=(do
   let ov <- eval o X.env
   standAt apos.atName
   let (f,first) <- holding [ov] (getMethod ov m pl)
   callWith pos f first (backTo pos (starEach [] X.env)) (backToKw pos (keywordEach [] X.env))):=by ac_nf) :
  PE X (.Call (.Attribute o m apos) [] [] pos) (Ti C m sp [] E ta ae9):=by
 obtain⟨f,fd,h1,h2,h3⟩:=F
 exact Rt (pl:=pl) he c h2 h1 hr h3 .nil hx ht
theorem Kc {pl:Sem Bool}(he:PE X o ta)(c:Cls X.K C)(F:Mtd X.prog X.w X.K X.mg X.base k C m ps sp)(hr:Room k X.A)
  (ht:eval (.Call (.Attribute o m apos) [] [] pos) X.env=(do
   let ov <- eval o X.env
   standAt apos.atName
   let (f,first) <- holding [ov] (getMethod ov m pl)
   callWith pos f first (backTo pos (starEach [] X.env)) (backToKw pos (keywordEach [] X.env))):=by ac_nf) :
  PE X (.Call (.Attribute o m apos) [] [] pos) (Ti C m sp [] E0 ta ae9):=by
 obtain⟨f,fd,h1,h2,h3⟩:=F
 exact Rt (pl:=pl) he c h2 h1 hr h3 .nil Zi ht
end
section
variable {σ:St}{H:Hp}{Q:VK}{C:Addr}{m:Str}{sp:Sp}{ta:TE}{t:TA}{E:XK}
def av1 (m:Str)(C:Addr)(sp:Sp)(E:XK)(t:TA)(σ:St):V->Hp->VK->Prop:=fun x H Q=>∃ a dx fs,x = .ref a/\H a=some (.ins C dx fs)/\fs.lookup m=none/\t σ H fun vs H2=>sp (x :: (vs++[])) H2 Q E
theorem i_tMeth (k:ta σ H fun x H1=>av1 m C sp E t σ x H1 Q):Ti C m sp [] E ta t σ H Q:=k
theorem Lc {a dx:Addr} {fs:List (Str×V)} (h:H a=some (.ins C dx fs)) (l:fs.lookup m=none) (k:t σ H fun vs H2=>sp (.ref a :: (vs++[])) H2 Q E):av1 m C sp E t σ (.ref a) H Q:=⟨a,dx,fs,rfl,h,l,k⟩
end
theorem T3:∀ {cs:List String} {us:List Value},Vals (cs.map V.ty) us->us=cs.map Value.type
 | [], us,r=>by cases us with | nil=>rfl | cons _ _=>cases r
 | c :: cs,us,r=>by
   cases us with
   | nil=>cases r
   | cons u us=>
     cases r with
     | cons r1 r2=>rw[List.map_cons,T3 r2,show u=Value.type c from r1]
def ar1 (K:PySem.W.Frag):List V->Hp->VK->Prop:=fun xs H Q=>∃(a:Addr) (ys:List V) (p:Addr) (cs:List String) (b:Bool),xs=[.ref a,.ref p]/\SqT K H a ys/\H p=some (.tup (cs.map V.ty))/\PySem.W.kitAny K (.type "tuple") (cs.map Value.type)=some b/\Q (.bl b) H
theorem Xy {X:Cx}:CallR X (.builtin "isinstance") (ar1 X.K):=by
 intro pins s σ H xs us Q I r h
 obtain⟨a,ys,p,cs,b,rfl,ty,hp,e,q⟩:=h
 obtain⟨u,w',rfl,r1,r2⟩:=Rj r
 cases r1;cases r2
 obtain⟨_,its,ri,ob,g1,g2,⟨n,g3⟩,g4⟩:=(show ObjOk X.prog X.w H s.heap p (.tup (cs.map V.ty)) from I.hok p _ hp)
 obtain rfl:=T3 ri
 obtain⟨oc,odd,oda,osl⟩:=ob
 dsimp only at g2 g3 g4
 subst g2 g3 g4
 obtain⟨its2,_,pp,_⟩:=I.tuple ty
 obtain⟨o,h1,h2,_⟩:=pp
 exact PySem.W.kia_tup PySem.W.kitx_tuple I.kIn ⟨o,h1,h2⟩ g1 e (fun z=>nomatch z) fun tk=>⟨.bl _,H,I.tok _,rfl,q⟩
theorem Vq {X:Cx}{K:PySem.W.Frag}(hK:X.K=K:=by ac_nf):CallR X (.builtin "isinstance") (ar1 K):=hK ▸ Xy
theorem ar7 {K:PySem.W.Frag}{H:Hp}{Q:VK}{a p:Addr}{ys:List V}{cs:List String}{b:Bool}(h:SqT K H a ys)(hp:H p=some (.tup (cs.map V.ty)))(e:PySem.W.kitAny K (.type "tuple") (cs.map Value.type)=some b)(k:Q (.bl b) H):ar1 K [.ref a,.ref p] H Q:=⟨a,ys,p,cs,b,rfl,h,hp,e,k⟩
structure RoomH (k:Nat)(A:Around):Prop where
 dp:A.depth+3*k+5<recursionLimit
 un:A.units+16*k+200<cLine
 gd:A.guards=some []
theorem Room.h {k:Nat}{A:Around}(r:Room k A)(x:Option Value):RoomH k (A.mark x):=⟨r.dp,r.un,r.gd⟩
theorem RoomH.deeper {k:Nat}{A:Around}(r:RoomH (k+1) A)(env:Env):RoomH k (A.deeper env):=
 ⟨by have:=r.dp;show A.depth+1+3*k+5<_;omega,by have:=r.un;show A.units+3+16*k+200<_;omega,r.gd⟩
theorem ah0 {A:Around}{k:Nat}(hr:RoomH k A):QA A:=⟨by have:=hr.un;omega,hr.gd⟩
theorem ak9 {A:Around}{k:Nat}(hr:RoomH k A):A.units+1<cLine:=by have:=hr.un;omega
structure Y0 (P:Program)(w:World)(K:PySem.W.Frag)(mg:Str->Option Value)(base:Heap)(k:Nat)(f:Addr)(fd:FuncData)(ps:List Str)(sp:Sp):Prop where
 len:∀ vs H Q E,sp vs H Q E->vs.length=ps.length
 run:∀(A:Around) (outer:List Env) (s:Shared) (H:Hp) (args:Args) (us:List Value) (vs:List V) (Q:VK) (E:XK),RoomH k A->Env0 P w K mg base A outer s H->BindsTo s fd args (ps.zip us)->Vals vs us->sp vs H Q E ->
  codeAny (model P w) A (.call (.ref f) args) (CR CX0 outer P w H s Q E) s
abbrev Zm (P:Program)(w:World)(K:PySem.W.Frag)(mg:Str->Option Value)(base:Heap)(N:List Str)(qual:Str)(scope:Scope)(f:Addr)(cd:Value)(A:Around)(outer:List Env)(s:Shared)(H:Hp)(E:XK):Cx:=
 { Sr CX0 P w K mg base N qual scope f cd A outer s H E with calm:=false }
section
variable {P:Program}{w:World}{K:PySem.W.Frag}{mg:Str->Option Value}{base:Heap}
theorem an6 {k:Nat}{f:Addr}{name qual:Str}{params:Arguments}{body:List Stmt}{scope:Scope}{dV kV doc pm cdv ct oc:Value}{an od:Option Addr}
  {osl:Array (Option Value)} {N ps:List Str} {sp:Sp} (lk:K.lookup f=some ⟨oc,od,.func (PySem.W.fnOf name qual params body scope dV kV doc pm an cdv ct),osl⟩) (hcd:PySem.W.codeIn K cdv qual=true) (S:Af N ps scope)
  (len:∀ vs H Q E,sp vs H Q E->vs.length=ps.length)
  (hbody:∀(A:Around) (outer:List Env) (s:Shared) (H:Hp) (vs:List V) (Q:VK) (E:XK),RoomH k (A.deeper (envOfC qual scope s.heap.objs.size f cdv))->sp vs H Q E ->
   ∃ t,PSs (Zm P w K mg base N qual scope f cdv A outer s H E) body t/\t { nx:=fun _ H'=>Q .non H',rt:=Q } (start N vs) H) :
  Y0 P w K mg base (k+1) f (PySem.W.fnOf name qual params body scope dV kV doc pm an cdv ct) ps sp:=by
 refine⟨len,fun A outer s H args us vs Q E hr e0 hb r hsp=>?_⟩
 have hl:=len _ _ _ _ hsp
 have KX:K.In s.heap:=e0.mod.kin.keeps fun b o e=>(e0.bs b o e).1
 have lim:s.heap.NoLimit:=e0.mod.nolimit.keeps fun b o e=>(e0.bs b o e).1
 have hkind:∀ y∈ps.zip us,scope.names.lookup y.1=some .local\/(scope.names.lookup y.1=some .cell/\((cellsFrom (s.heap.objs.size+1) scope.names []).lookup y.1).isSome=true):=fun⟨n,v⟩ hy=>by
  rcases S.par n (List.of_mem_zip hy).1 with q | q
  . exact .inl q
  exact .inr ⟨q,PySem.W.cellsFrom_some _ _ _ (.inl q)⟩
 refine codeAny_call_function (by have:=hr.dp;omega) (KX _ _ lk) rfl S.co S.gen rfl (PySem.W.codeRec_of KX hcd) (hb _ _ _ _ ?_)
 refine wpAny_newFunctionEnv_cells S.kind hkind fun env he s1 x=>?_
 subst he
 refine⟨lim.keeps x.toInCall.keep,codeAny_func ?_⟩
 obtain⟨t,ht,hq⟩:=hbody A outer s H vs Q E (hr.deeper _) hsp
 have I0:Inv (Sr CX0 P w K mg base N qual scope f cdv { A with handled:=none } outer s H E) [] (start N vs) H s1:=Pa S rfl ⟨e0.frames,e0.mod,e0.bs,e0.bsz,e0.funs,e0.frf,e0.hok,e0.bare⟩ hl r x
 have I:Inv (Zm P w K mg base N qual scope f cdv A outer s H E) [] (start N vs) H s1:=
  ⟨⟨I0.ok.mod,I0.ok.kind,I0.ok.glob,I0.ok.blt,I0.ok.above,I0.ok.inj,I0.ok.has,I0.ok.cab,fun z=>Bool.noConfusion z,I0.ok.frames,I0.ok.stk,I0.ok.exf,I0.ok.bs,I0.ok.bsz,I0.ok.noex,I0.ok.exfs,I0.ok.funs,I0.ok.frf⟩,I0.os,I0.bare,I0.base,I0.loc,I0.cell,I0.free,I0.freeC,I0.pin,I0.hok,I0.len⟩
 refine wpAny_mono (ht [] s1 (start N vs) H _ I hq) (fun fl s' hs=>?_) fun e s' hs=>hs
 have fin:∀ {σ':St} {H':Hp} {v:V} {u:Value},Inv (Zm P w K mg base N qual scope f cdv A outer s H E) [] σ' H' s'->RelV v u->Q v H'->CE outer P w H s Q u s':=
  fun {σ' H' v u} J rv q=>⟨v,H',J.os,J.bare,J.base,J.hok,rv,q⟩
 cases fl with
 | ret u=>
   obtain⟨v,σ',H',J,rv,q⟩:=hs
   exact fin J rv q
 | next=>
   obtain⟨σ',H',J,q⟩:=hs
   exact fin (v:=V.non) (u:=Value.none) J rfl q
 | brk=>
   obtain⟨_,_,_,q⟩:=hs
   exact False.elim q
 | cont=>
   obtain⟨_,_,_,q⟩:=hs
   exact False.elim q
theorem Fun.okH {x qual:Str}{st:Stmt}{f:Addr}{fd:FuncData}{N ps:List Str}{k:Nat}{sp:Sp}(F:Fun K x qual st f fd)(S:Af N ps (A3 st))(len:∀ vs H Q E,sp vs H Q E->vs.length=ps.length)
  (hbody:∀(cdv:Value) (A:Around) (outer:List Env) (s:Shared) (H:Hp) (vs:List V) (Q:VK) (E:XK),RoomH k (A.deeper (envOfC qual (A3 st) s.heap.objs.size f cdv))->sp vs H Q E ->
   ∃ t,PSs (Zm P w K mg base N qual (A3 st) f cdv A outer s H E) (A8 st) t/\t { nx:=fun _ H'=>Q .non H',rt:=Q } (start N vs) H):Y0 P w K mg base (k+1) f fd ps sp:=by
 obtain⟨oc,od,kV,doc,pm,an,cdv,ct,osl,rfl,lk,hcd⟩:=F.ex
 exact an6 lk hcd S len fun A outer s H vs Q E hr hsp=>hbody cdv A outer s H vs Q E hr hsp
def ar8 (P:Program)(w:World)(K:PySem.W.Frag)(mg:Str->Option Value)(base:Heap)(k:Nat)(x:Str)(ps:List Str)(sp:Sp):Prop:=
 ∃ f fd,Y0 P w K mg base k f fd ps sp/\mg x=some (.ref f)/\PySem.W.keepIn K (.ref f)=true/\Binds K fd ps []
end
section
variable {X:Cx}{k:Nat}{x:Str}{ps:List Str}{sp:Sp}{e:Expr}{es:List Expr}{t:TA}{p pos:Pos}
theorem al1 (F:ar8 X.prog X.w X.K X.mg X.base k x ps sp)(hr:RoomH k X.A)(hg:Gl X x)(ha:PA X (e :: es) t)(hdb:(x==("__debug__":Str))=false:=by decide)
  (he:starEach (e :: es) X.env=(false,eval e X.env) :: starEach es X.env:=by ac_nf) (hpl:(backTo pos (starEach es X.env)).any (·.1)=false:=by ac_nf):PE X (.Call (.Name x p) (e :: es) [] pos) (Ur sp [] E0 t):=by
 obtain⟨f,fd,G,h2,h3,h4⟩:=F
 intro pins s σ H Q I h
 refine wpAny_Call_Name_kw (J1 I hg h2 ?_ hdb)
 refine PySem.W.callWith_K (h₀:=X.base) I.ok.mod.kin h3 (thn (ha pos pins s σ H _ I h) fun us s1 ⟨vs,H1,I1,r,q⟩=>⟨I1.kIn,?_⟩) he hpl
 have q:sp (vs++[]) H1 Q E0:=q
 rw[List.append_nil] at q
 have hl:us.length=ps.length:=by rw[<- r.length];exact G.len _ _ _ _ q
 have hb:=h4 s1 us I1.kIn (by rw[List.append_nil];exact hl)
 rw [List.append_nil] at hb
 refine wpAny_call (codeAny_mono (G.run X.A X.stack s1 H1 ⟨us,[]⟩ us vs Q E0 hr I1.env0 hb r q) fun r s' hq=>?_)
 cases r with
 | error e=>exact hq.elim
 | ok fl=>
   cases fl with
   | ret u=>exact I1.after hq
   | next=>exact False.elim hq
   | brk=>exact False.elim hq
   | cont=>exact False.elim hq
end
theorem Jk:∀ {ns:List Int} {out:List Value},out.length=ns.length->(∀(i:Nat) v,out[i]? = some v->∃ n t,ns[i]? = some n/\v=Value.int n t)->IntsAre out ns
 | [],[],_,_=>.nil
 | [],_ :: _,h,_=>by simp at h
 | _ :: _,[],h,_=>by simp at h
 | n :: ns,v :: out,h,q=>by
   obtain⟨n',t,e1,rfl⟩:=q 0 v rfl
   cases e1
   exact .cons n t (Jk (by simpa using h) fun i u hu=>q (i+1) u hu)
theorem Py:∀ {us:List Value} {ys:List Int},IntsAre us ys->Vals (ys.map V.int) us
 | _,_,.nil=>.nil
 | _,_,.cons y t h=>.cons ⟨t,rfl⟩ (Py h)
section
variable {X:Cx}
def W4:List V->Hp->VK->Prop:=fun xs H Q=>∃(d:Addr) (kvs:List (Key×V)) (ns:List Int),xs=[.ref d]/\H d=some (.dK kvs)/\kvs.map (·.1)=ns.map Sum.inl/\ns.length<64/\∀ p (ms:List Int),H p=none->ms.Perm ns->ms.Pairwise (· <= ·)->Q (.ref p) (upd H p (.lst (ms.map V.int)))
theorem Ko (hc:X.calm=true):CallR X (.builtin "sorted") W4:=by
 intro pins s σ H xs us Q I r h
 obtain⟨d,kvs,ns,rfl,hd,hk,hz,q⟩:=h
 obtain⟨u,rfl,ru⟩:=Hw r
 cases ru
 obtain⟨_,hs,vs,rel,dd⟩:=Pi I.hok hd
 obtain⟨ep,hat⟩:=dd.dictAt
 have hlen:=rel.length
 have hkl:kvs.length=ns.length:=by have:=congrArg List.length hk;simpa using this
 refine Calls.call_function_entry kind_sorted plain_sorted entry_sorted (args_sorted1 _) ?_
 unfold Builtin.«sorted»
 refine wpAny_bind (m:=checkCount "sorted" 1 1 _) (wpAny_pure ?_)
 refine wpAny_bind (PySem.W.kdu_collect (PySem.W.kdl_dict (knd:=Am X.prog X.w) (kvs:=vs) (ep:=ep) hs) (by simpa using I.ok.hd hc) hat (by rw[sizeLine_eq];omega) fun h1 tk acc k1 hacc=>?_)
 have hl:acc.toList.length=vs.length:=by rw[Array.length_toList];exact hacc.1
 refine wpAny_bind (wpAny_newList ?_ (by rw[hl,sizeLine_eq];omega))
 have hI:IntsAre acc.toList ns:=Jk (by omega) fun i v hv=>by
  obtain⟨k,x,hkx,hkv⟩:=hacc.2 i v (by rw[<- Array.getElem?_toList];exact hv)
  have hk':(kvs.map (·.1))[i]? = some k:=by
   rw[rel.keys,List.getElem?_map,hkx]
   rfl
  rw[hk,List.getElem?_map] at hk'
  obtain⟨n,hn,rfl⟩:=Option.map_eq_some_iff.mp hk'
  have hkv:M9 (Sum.inl n) v=true:=hkv
  rcases B8 hkv with ⟨i',t,e1,rfl⟩ | ⟨x',t,e1,_⟩
  . cases e1
    exact⟨n,t,hn,rfl⟩
  cases e1
 have hnew:(h1.push (seqObj "list" acc.toList.toArray 0)).get? h1.objs.size=some (seqObj "list" acc.toList.toArray 0):=Heap.get?_push_size _ rfl
 show wpAny _ _ _ _ _ { s with heap:=h1.push (seqObj "list" acc.toList.toArray 0),toks:=tk }
 refine wpAny_bind (wpAny_holding (wpAny_call_entry slot_list_sort ⟨_,hnew,rfl⟩ entry_list_sort (list_sort_tree hnew hI (by omega) fun out ns' a1 a2 a3=>⟨_,rfl,?_⟩) (args_list_sort _)))
 obtain⟨e,he⟩:=sortedHeap_at (out:=out) hnew
 have I1:Inv X pins σ H { s with heap:=h1,toks:=tk }:=I.kept (t':=tk) k1
 have k2:∀ b ob,h1.get? b=some ob->(sortedHeap (h1.push (seqObj "list" acc.toList.toArray 0)) h1.objs.size acc.toList out).get? b=some ob:=fun b ob hb=>by
  have hlt:=Heap.lt_size hb
  rw[sortedHeap_old (Nat.ne_of_lt hlt) (by rw[size_push'];exact Nat.lt_succ_of_lt hlt)]
  exact Heap.get?_push_of_some _ hb
 exact wpAny_pure ⟨_,rfl,.ref _,_,I1.laid (t':=tk) (o:=.lst (ns'.map V.int)) k2 (Nat.le_refl _) ⟨by rw[List.length_map,a2.length_eq,sizeLine_eq];omega,out.toList,e,Py a1,by rw[Array.toArray_toList];exact he⟩,rfl,q _ ns' (I1.hok.fresh (Nat.le_refl _)) a2 a3⟩
theorem Sz {d:Addr}{kvs:List (Key×V)}{ns:List Int}{H:Hp}{Q:VK}(h:H d=some (.dK kvs))(hk:kvs.map (·.1)=ns.map Sum.inl)(hz:ns.length<64)(k:∀ p (ms:List Int) H',H p=none->Same H H'->H' p=some (.lst (ms.map V.int))->ms.Perm ns->ms.Pairwise (· <= ·)->Q (.ref p) H'):W4 [.ref d] H Q:=
 ⟨d,kvs,ns,rfl,h,hk,hz,fun p ms hp h1 h2=>k p ms _ hp (Same.upd hp) Ab h1 h2⟩
theorem Lx:∀ {a b:List Int},a.Perm b->a.Pairwise (· <= ·)->b.Pairwise (· <= ·)->a=b:=fun p ha hb=>List.Perm.eq_of_pairwise (fun a b _ _ h1 h2=>Int.le_antisymm h1 h2) ha hb p
end
structure NamesZ (ns:List Str):Prop where
 nm:Names ns
 zz:("zzz":Str)∉ns
theorem NamesZ.perm {ns ms:List Str}(h:NamesZ ns)(p:ms.Perm ns):NamesZ ms:=⟨h.nm.perm p,fun q=>h.zz (p.mem_iff.mp q)⟩
theorem NamesZ.sublist {ns ms:List Str}(h:NamesZ ns)(p:ms.Sublist ns):NamesZ ms:=⟨h.nm.sublist p,fun q=>h.zz (p.subset q)⟩
theorem NamesZ.turn {ns:List Str}(h:NamesZ ns)(t n:Nat):NamesZ ((ns.drop t++ns.take t).take n):=
 NamesZ.sublist (ns:=ns.drop t++ns.take t) (h.perm (List.perm_append_comm.trans (by rw[List.take_append_drop]))) (List.take_sublist _ _)
theorem R6 {ns:List Str}(h:NamesZ ns){k:Int}:∃ ms,Ts (ns.map V.str) k=ms.map V.str/\NamesZ ms/\ms.length=ns.length:=by
 unfold Ts
 split
 . exact⟨ns,rfl,h,rfl⟩
 exact⟨ns.reverse,by rw[List.map_reverse],h.perm (List.reverse_perm _),List.length_reverse ..⟩
def ap2:List Nat:=[122,122,122]
theorem ab5:("zzz":Str)=txt ap2:=by decide +kernel
theorem Kp {ls:List (List Nat)}(h:Names (ls.map txt))(h2:ap2∉ls):NamesZ (ls.map txt):=by
 refine⟨h,fun q=>?_⟩
 rw[ab5] at q
 obtain⟨l,hl,e⟩:=List.mem_map.mp q
 exact h2 (Ve e ▸ hl)
theorem ar6 {s z a:Nat}(hs:s<26)(ha:a<z)(hz:z<=8){l:List Nat}(hl:l∈nm1 s z a):l.length=z:=by
 obtain⟨k,hk,rfl⟩:=List.mem_map.mp hl
 have hm:5*k % 26<26:=Nat.mod_lt _ (by decide)
 have e1:=Gw (a:=s) (b:=s+a) (by omega) (by omega)
 have e2:=K4 (i:=s+5*k % 26) (by omega)
 have e3:=Gw (a:=s+a+1) (b:=s+z) (by omega) (by omega)
 simp only[List.length_append]
 omega
theorem zz1Z:∀ s<26,∀ a<3,ap2∉nm1 s 3 a:=by decide +kernel
theorem av9:∀ s<26,ap2∉nm0 s/\ap2∉nm2 s:=by decide +kernel
theorem a87 {s z a:Nat}(hs:s<26)(ha:a<z)(hz:z<=8):NamesZ ((nm1 s z a).map txt):=by
 refine Kp (ag5 hs ha hz) fun q=>?_
 obtain rfl:3=z:=ar6 hs ha hz q
 exact zz1Z s hs a ha q
theorem ab4 {s:Nat}(hs:s<26):NamesZ ((nm0 s).map txt):=Kp (af5 hs) (av9 s hs).1
theorem a99 {s:Nat}(hs:s<26):NamesZ ((nm2 s).map txt):=Kp (an5 hs) (av9 s hs).2
theorem ac5:NamesZ nm3:=⟨ai7,by decide +kernel⟩
end L2
namespace K75
open PySem L2 PySem.Spec PyProof.Rows
def top (i:Nat):Stmt:=PySem.Challenge.pw_halforder_k75_sayings_clash_and_lead.main.body.getD i (.Pass ⟨0,0,0,0⟩)
abbrev Ll:Stmt:=top 0
abbrev Ay:Stmt:=top 18
theorem Ew:Af ["half","asked","name"] ["half","asked"] (A3 Ay):=⟨rfl,rfl,rfl,by decide +kernel,rfl,by decide +kernel,by decide +kernel⟩
abbrev Cc:Stmt:=top 19
theorem Br:Af ["half","names","reach","saying","middle","name"] ["half"] (A3 Cc):=⟨rfl,rfl,rfl,by decide +kernel,rfl,by decide +kernel,by decide +kernel⟩
abbrev Fv:Stmt:=top 21
theorem Fr:Af ["names","bits","bit","name"] ["names"] (A3 Fv):=⟨rfl,rfl,rfl,by decide +kernel,rfl,by decide +kernel,by decide +kernel⟩
abbrev Cu:Stmt:=top 22
theorem Ek:Af ["half","bits","reach","found","name"] ["half","bits"] (A3 Cu):=⟨rfl,rfl,rfl,by decide +kernel,rfl,by decide +kernel,by decide +kernel⟩
abbrev Ja:Stmt:=top 24
theorem Sv:Af ["half","ways"] ["half"] (A3 Ja):=⟨rfl,rfl,rfl,by decide +kernel,rfl,by decide +kernel,by decide +kernel⟩
abbrev Fy:Stmt:=top 28
theorem Tz:Af ["thing"] ["thing"] (A3 Fy):=⟨rfl,rfl,rfl,by decide +kernel,rfl,by decide +kernel,by decide +kernel⟩
abbrev Az:Stmt:=top 29
theorem Hq:Af ["thing"] ["thing"] (A3 Az):=⟨rfl,rfl,rfl,by decide +kernel,rfl,by decide +kernel,by decide +kernel⟩
abbrev Bd:Stmt:=top 33
theorem Ix:Af ["thing"] ["thing"] (A3 Bd):=⟨rfl,rfl,rfl,by decide +kernel,rfl,by decide +kernel,by decide +kernel⟩
abbrev Be:Stmt:=top 34
theorem B5:Af ["sayings","start","goal","ways","waiting","name","number","saying"] ["sayings","start","goal"] (A3 Be):=⟨rfl,rfl,rfl,by decide +kernel,rfl,by decide +kernel,by decide +kernel⟩
abbrev Dm:Stmt:=top 38
theorem Pd:Af ["_law_script"] ["_law_script"] (A3 Dm):=⟨rfl,rfl,rfl,by decide +kernel,rfl,by decide +kernel,by decide +kernel⟩
abbrev Dk:Stmt:=top 39
theorem Ea:Af ["_law_feed_here","_law_many","_law_cell","_law_mixed","_law_found"] ["_law_feed_here","_law_many"] (A3 Dk):=⟨rfl,rfl,rfl,by decide +kernel,rfl,by decide +kernel,by decide +kernel⟩
abbrev Cq:Stmt:=top 40
theorem An:Af ["_law_feed_here","_law_many","_law_letters","_law_start","_law_way","_law_size","_law_at","_law_names_here","_law_head","_law_tail","_law_turn"] ["_law_feed_here","_law_many"] (A3 Cq):=⟨rfl,rfl,rfl,by decide +kernel,rfl,by decide +kernel,by decide +kernel⟩
abbrev C5:Stmt:=top 41
theorem Bq:Af ["_law_half","_law_name","_law_found","_law_line","_law_here","_law_one","_law_other"] ["_law_half","_law_name"] (A3 C5):=⟨rfl,rfl,rfl,by decide +kernel,rfl,by decide +kernel,by decide +kernel⟩
abbrev Bu:Stmt:=top 42
theorem Et:Af ["_law_e","_law_found","_law_strange"] ["_law_e"] (A3 Bu):=⟨rfl,rfl,rfl,by decide +kernel,rfl,by decide +kernel,by decide +kernel⟩
abbrev Bv:Stmt:=top 43
theorem As:Af ["_law_keeper","_law_word","_law_one","_law_other","_law_found","_law_e"] ["_law_keeper","_law_word","_law_one","_law_other"] (A3 Bv):=⟨rfl,rfl,rfl,by decide +kernel,rfl,by decide +kernel,by decide +kernel⟩
abbrev Dn:Stmt:=top 44
theorem Qi:Af ["_law_names_here","_law_keeper"] ["_law_names_here","_law_keeper"] (A3 Dn):=⟨rfl,rfl,rfl,by decide +kernel,rfl,by decide +kernel,by decide +kernel⟩
abbrev Bs:Stmt:=top 45
theorem Lp:Af ["_law_side_here"] ["_law_side_here"] (A3 Bs):=⟨rfl,rfl,rfl,by decide +kernel,rfl,by decide +kernel,by decide +kernel⟩
abbrev Ca:Stmt:=top 46
theorem Dx:Af ["_law_side_here","_law_way","_law_name","_law_other","_law_here","_law_number"] ["_law_side_here","_law_way","_law_name","_law_other"] (A3 Ca):=⟨rfl,rfl,rfl,by decide +kernel,rfl,by decide +kernel,by decide +kernel⟩
abbrev Eo:Stmt:=top 47
theorem G3:Af ["_law_side_here","_law_name","_law_other","_law_told","_law_one","_law_number"] ["_law_side_here","_law_name","_law_other"] (A3 Eo):=⟨rfl,rfl,rfl,by decide +kernel,rfl,by decide +kernel,by decide +kernel⟩
abbrev C8:Stmt:=top 49
theorem Dz:Af ["_law_side_here","_law_keeper","_law_number","_law_due"] ["_law_side_here"] (A3 C8):=⟨rfl,rfl,rfl,by decide +kernel,rfl,by decide +kernel,by decide +kernel⟩
abbrev Co:Stmt:=top 50
theorem El:Af ["_law_side_here","_law_name","_law_other","_law_half","_law_way","_law_known"] ["_law_side_here","_law_name","_law_other"] (A3 Co):=⟨rfl,rfl,rfl,by decide +kernel,rfl,by decide +kernel,by decide +kernel⟩
abbrev Nz:Stmt:=top 51
theorem Hm:Af ["_law_script","_law_feed_here","_law_names_here","_law_side_here","_law_turn","_law_some","_law_name","_law_word"] ["_law_script"] (A3 Nz):=⟨rfl,rfl,rfl,by decide +kernel,rfl,by decide +kernel,by decide +kernel⟩
abbrev Dq:Stmt:=Bb (top 23) 0
theorem Qr:Af ["self","half"] ["self","half"] (A3 Dq):=⟨rfl,rfl,rfl,by decide +kernel,rfl,by decide +kernel,by decide +kernel⟩
abbrev B3:Stmt:=Bb (top 23) 1
theorem Hy:Af ["self","left"] ["self","left"] (A3 B3):=⟨rfl,rfl,rfl,by decide +kernel,rfl,by decide +kernel,by decide +kernel⟩
abbrev Bj:Stmt:=Bb (top 23) 2
theorem Kv:Af ["self","left"] ["self","left"] (A3 Bj):=⟨rfl,rfl,rfl,by decide +kernel,rfl,by decide +kernel,by decide +kernel⟩
abbrev C9:Stmt:=Bb (top 36) 0
theorem Lu:Af ["self","names"] ["self","names"] (A3 C9):=⟨rfl,rfl,rfl,by decide +kernel,rfl,by decide +kernel,by decide +kernel⟩
abbrev Bw:Stmt:=Bb (top 36) 1
theorem Kz:Af ["self","kept","following"] ["self","kept","following"] (A3 Bw):=⟨rfl,rfl,rfl,by decide +kernel,rfl,by decide +kernel,by decide +kernel⟩
abbrev Cr:Stmt:=Bb (top 36) 2
theorem En:Af ["self","name","other","back","kept","number"] ["self","name","other"] (A3 Cr):=⟨rfl,rfl,rfl,by decide +kernel,rfl,by decide +kernel,by decide +kernel⟩
abbrev Df:Stmt:=Bb (top 36) 3
abbrev Cz:Stmt:=Bb (top 36) 4
abbrev Dh:Stmt:=Bb (top 36) 5
abbrev Bf:Stmt:=Bb (top 36) 6
theorem Jc:Af ["self"] ["self"] (A3 Bf):=⟨rfl,rfl,rfl,by decide +kernel,rfl,by decide +kernel,by decide +kernel⟩
abbrev Bm:Stmt:=Bb (top 36) 7
theorem Gd:Af ["self","number","entry"] ["self","number"] (A3 Bm):=⟨rfl,rfl,rfl,by decide +kernel,rfl,by decide +kernel,by decide +kernel⟩
abbrev C7:Stmt:=Bb (top 36) 8
theorem Mc:Af ["self"] ["self"] (A3 C7):=⟨rfl,rfl,rfl,by decide +kernel,rfl,by decide +kernel,by decide +kernel⟩
abbrev Cy:Stmt:=Bb (top 36) 9
abbrev Cw:Stmt:=Bb (top 36) 10
abbrev Bx:Stmt:=Bb (top 36) 11
theorem Gr:Af ["self","name","other","reach"] ["self","name","other"] (A3 Bx):=⟨rfl,rfl,rfl,by decide +kernel,rfl,by decide +kernel,by decide +kernel⟩
abbrev B6:Stmt:=Bb (top 36) 12
theorem Fi:Af ["self","name","other","way"] ["self","name","other"] (A3 B6):=⟨rfl,rfl,rfl,by decide +kernel,rfl,by decide +kernel,by decide +kernel⟩
abbrev C4:Stmt:=Bb (top 36) 13
theorem Ls:Af ["self","name","other"] ["self","name","other"] (A3 C4):=⟨rfl,rfl,rfl,by decide +kernel,rfl,by decide +kernel,by decide +kernel⟩
abbrev Cb:Stmt:=Bb (top 3) 0
theorem Ma:Af ["self","word","number"] ["self","word","number"] (A3 Cb):=⟨rfl,rfl,rfl,by decide +kernel,rfl,by decide +kernel,by decide +kernel⟩
abbrev C6:Stmt:=Bb (top 5) 0
theorem Lw:Af ["self","name"] ["self","name"] (A3 C6):=⟨rfl,rfl,rfl,by decide +kernel,rfl,by decide +kernel,by decide +kernel⟩
abbrev Bt:Stmt:=Bb (top 6) 0
theorem Kk:Af ["self","word"] ["self","word"] (A3 Bt):=⟨rfl,rfl,rfl,by decide +kernel,rfl,by decide +kernel,by decide +kernel⟩
abbrev Cv:Stmt:=Bb (top 11) 0
theorem Nd:Af ["self","way"] ["self","way"] (A3 Cv):=⟨rfl,rfl,rfl,by decide +kernel,rfl,by decide +kernel,by decide +kernel⟩
abbrev Bk:Stmt:=Bb (top 15) 0
theorem Jt:Af ["self","number"] ["self","number"] (A3 Bk):=⟨rfl,rfl,rfl,by decide +kernel,rfl,by decide +kernel,by decide +kernel⟩
structure Fa (mg:Str->Option Value):Prop where
 g_MOST_NAMES:∃ u,mg "MOST_NAMES" = some u/\RelV (.int 10) u
 g_MOST_SAYINGS:∃ u,mg "MOST_SAYINGS" = some u/\RelV (.int 60) u
 g_MOST_SIGNS:∃ u,mg "MOST_SIGNS" = some u/\RelV (.int 8) u
 g_SMALL_LETTERS:∃ u,mg "SMALL_LETTERS" = some u/\RelV (.str "abcdefghijklmnopqrstuvwxyz") u
 b_ValueError:mg "ValueError" = none
 b_all:mg "all" = none
 b_bool:mg "bool" = none
 b_dict:mg "dict" = none
 b_enumerate:mg "enumerate" = none
 b_int:mg "int" = none
 b_isinstance:mg "isinstance" = none
 b_len:mg "len" = none
 b_list:mg "list" = none
 b_range:mg "range" = none
 b_repr:mg "repr" = none
 b_set:mg "set" = none
 b_sorted:mg "sorted" = none
 b_str:mg "str" = none
 b_sum:mg "sum" = none
 b_tuple:mg "tuple" = none
structure Hd (K:PySem.W.Frag)(C:Addr):Prop where
 cl:Cls K C
 n_names:NoAttr K C "names"
 n_bits:NoAttr K C "bits"
 n_ahead:NoAttr K C "ahead"
 n_full:NoAttr K C "full"
 n_known:NoAttr K C "known"
structure Ao (K:PySem.W.Frag)(C:Addr):Prop where
 cl:Cls K C
 n_names:NoAttr K C "names"
 n_now:NoAttr K C "now"
 n_past:NoAttr K C "past"
 n_undone:NoAttr K C "undone"
structure Aj (K:PySem.W.Frag)(mg:Str->Option Value)(C B:Addr):Prop where
 xc:XC K C
 gl:mg "HalfError" = some (.ref C)
 mk0:ap7 K mg C "HalfError"
structure Iv (K:PySem.W.Frag)(mg:Str->Option Value)(C B:Addr):Prop where
 xc:XC K C
 gl:mg "NoHalf" = some (.ref C)
 mr:Cf K C B=true
 n_word:NoAttr K C "word"
 n_number:NoAttr K C "number"
structure Mw (K:PySem.W.Frag)(mg:Str->Option Value)(C B:Addr):Prop where
 xc:XC K C
 gl:mg "NoText" = some (.ref C)
 mr:Cf K C B=true
 n_row:NoAttr K C "row"
structure Bc (K:PySem.W.Frag)(mg:Str->Option Value)(C B:Addr):Prop where
 xc:XC K C
 gl:mg "NoName" = some (.ref C)
 mr:Cf K C B=true
 n_name:NoAttr K C "name"
structure Ey (K:PySem.W.Frag)(mg:Str->Option Value)(C B:Addr):Prop where
 xc:XC K C
 gl:mg "TooMany" = some (.ref C)
 mr:Cf K C B=true
 n_word:NoAttr K C "word"
structure Ld (K:PySem.W.Frag)(mg:Str->Option Value)(C B:Addr):Prop where
 xc:XC K C
 gl:mg "NoCover" = some (.ref C)
 mr:Cf K C B=true
 mk0:ap7 K mg C "NoCover"
structure Li (K:PySem.W.Frag)(mg:Str->Option Value)(C B:Addr):Prop where
 xc:XC K C
 gl:mg "NoPlace" = some (.ref C)
 mr:Cf K C B=true
 n_number:NoAttr K C "number"
structure Kx (K:PySem.W.Frag)(mg:Str->Option Value)(C B:Addr):Prop where
 xc:XC K C
 gl:mg "NoOrder" = some (.ref C)
 mr:Cf K C B=true
 mk0:ap7 K mg C "NoOrder"
structure Mr (K:PySem.W.Frag)(mg:Str->Option Value)(C B:Addr):Prop where
 xc:XC K C
 gl:mg "NoJoin" = some (.ref C)
 mr:Cf K C B=true
 n_word:NoAttr K C "word"
structure Gi (K:PySem.W.Frag)(mg:Str->Option Value)(C B:Addr):Prop where
 xc:XC K C
 gl:mg "Clash" = some (.ref C)
 mr:Cf K C B=true
 n_way:NoAttr K C "way"
structure Lm (K:PySem.W.Frag)(mg:Str->Option Value)(C B:Addr):Prop where
 xc:XC K C
 gl:mg "NoPaper" = some (.ref C)
 mr:Cf K C B=true
 n_word:NoAttr K C "word"
 n_row:NoAttr K C "row"
structure Ms (K:PySem.W.Frag)(mg:Str->Option Value)(C B:Addr):Prop where
 xc:XC K C
 gl:mg "NoPlan" = some (.ref C)
 mr:Cf K C B=true
 n_word:NoAttr K C "word"
 n_path:NoAttr K C "path"
structure Lg (K:PySem.W.Frag)(mg:Str->Option Value)(C B:Addr):Prop where
 xc:XC K C
 gl:mg "NoBound" = some (.ref C)
 mr:Cf K C B=true
 n_word:NoAttr K C "word"
 n_row:NoAttr K C "row"
structure Ct (K:PySem.W.Frag)(mg:Str->Option Value)(C B:Addr):Prop where
 xc:XC K C
 gl:mg "NoSaying" = some (.ref C)
 mr:Cf K C B=true
 n_number:NoAttr K C "number"
structure Gx (K:PySem.W.Frag)(mg:Str->Option Value)(C B:Addr):Prop where
 xc:XC K C
 gl:mg "NoMore" = some (.ref C)
 mr:Cf K C B=true
 mk0:ap7 K mg C "NoMore"
section
variable {P:Program}{w:World}{K:PySem.W.Frag}{mg:Str->Option Value}{base:Heap}
local macro_rules | `(tactic| walk_at "lk") => L2.mRows "as | Same.lk e h: e=as h=lk | ExtBut.lk e h n: e=as n=ne h=lk | no"
local macro_rules | `(tactic| walk_at "ne") => L2.mRows "as | Ne.symm q: q=as | ne_of_none h g: g=as h=lk | ne_none2 h g: g=as h=lk | ne_of h g z: h=as g=as z=nc | no"
local macro_rules | `(tactic| walk_at "nc") => `(tactic| (intro z; cases z))
local macro_rules | `(tactic| walk_at "fr") => L2.mRows "ExtBut.refl | ExtBut.trans a b: b=as a=fr | ExtBut.same a b: b=as a=fr | ExtBut.off a q b: b=as q=as a=fr | no"
local macro_rules | `(tactic| walk_at "sm") => L2.mRows "same_refl | Same.trans a b: b=as a=sm | Same.off a q b: b=as q=as a=sm | no"
local macro_rules | `(tactic| walk_at "fd") => L2.mRows "as | Feed.same h e: e=as h=fd | Feed.off h e q f: e=as q=as f=as h=fd | no"
local macro_rules | `(tactic| walk_at "fz1") => L2.mRows "Same.fz b: b=as | ExtBut.fzL b l: b=as l=lk | ExtBut.fzD b l: b=as l=lk | Feed.fz f b: b=as f=fd | no"
local macro_rules | `(tactic| walk_at "fz") => L2.mRows "fz_refl | Fz.trans a x: x=fz1 a=fz | no"
local macro_rules | `(tactic| walk_at "sd") => `(tactic| first | omega | (show (0 : Int) < _; omega) | (unfold ar0; omega) | (unfold CMul; omega) | (unfold ar5; omega) | (unfold ar5; decide) | (refine ⟨?_, ?_⟩ <;> omega) | decide)
local macro_rules | `(tactic| walk_at "sz") => `(tactic| first | decide | exact A9 (by omega) | (rw [sizeLine_eq]; omega))
local macro_rules | `(tactic| walk_at "kv") => `(tactic| rfl)
local macro_rules | `(tactic| walk_at "rq1") => do
 let a <- L2.mAlts "i_asg i_gname i_ret i_drop i_if i_op i_un i_call i_cb i_cons i_nil i_c i_put i_tTest i_tB i_not i_and i_or i_tup i_lst i_next i_sl i_noPart i_part i_int i_for i_rng1 i_rng2 i_comp i_itS i_iany i_ienum i_ienumL i_irev i_chain i_andV i_orV i_notV i_dget1 i_tAt i_sSt i_tMe i_tMk i_tTru i_dget2 i_iDT i_bmT i_rU i_rI0 i_addI i_bl i_bm i_bm0 i_reprKB i_isN i_isNotN i_isB i_isNotB i_true i_tyS i_find i_intB i_inS i_pair i_pair0 iteR iteNR iteNbb itebb iteT iteF iteNT iteNF"
 let b <- L2.mRows "i_var w _: w=kv | i_rI w _: w=sd | i_mulBI w _: w=sd | i_tyLm w _: w=lk | i_ixD w v _: w=lk v=kv | i_eqS w _: w=kv | i_neS w _: w=kv | i_slS w _: w=sz | i_addS w _: w=sz | i_lenS w _: w=sz | i_lenL w _: w=lk | i_lenT w _: w=lk | i_cutN w _: w=ar"
 let c <- L2.mAltG "i_seqAG i_seqDG i_seqPG"
 `(tactic| first | $c:tactic | $a:tactic | $b:tactic)
local macro_rules | `(tactic| walk_at "rd1") => `(tactic| first | with_reducible refine ae6 fun N hN => ?_ | walk_at "rq1")
local macro_rules | `(tactic| walk_at "rq") => `(tactic| repeat (walk_at "rq1"))
local macro_rules | `(tactic| walk_at "rd") => `(tactic| repeat (walk_at "rd1"))
def Ec (l:Addr)(a t u:Int):List (Key×V):=[(Sum.inr "cells",.ref l),(Sum.inr "at",.int a),(Sum.inr "left",.int t),(Sum.inr "turn",.int u)]
def Feed (H:Hp)(d l:Addr):Prop:=∃(a t u:Int) (ns:List Int),H d=some (.dK (Ec l a t u))/\H l=some (.lst (ns.map V.int))/\0<ns.length/\ns.length<=64
def Gn (K:PySem.W.Frag):Sp:=fun vs H Q _=>∃(a:Addr) (ns:List Int),vs=[.ref a]/\SqL K H a (ns.map V.int)/\ns.length<=63/\∀ d l H',H d=none->H l=none->Same H H'->Feed H' d l->Q (.ref d) H'
def Fk (K:PySem.W.Frag):Sp:=fun vs H Q _=>∃ d l n,vs=[.ref d,.int n]/\Feed H d l/\0<n/\n<1073741824/\∀ r H',0<=r->r<n->ExtBut d H H'->Feed H' d l->Q (.int r) H'
theorem Zq {l:Addr}{a t u:Int}:Di (Ec l a t u) (Sum.inr "cells":Key)=some (.ref l):=by rfl
theorem as0 {l:Addr}{a t u:Int}:Di (Ec l a t u) (Sum.inr "at":Key)=some (.int a):=by rfl
theorem ab0 {l:Addr}{a t u:Int}:Di (Ec l a t u) (Sum.inr "left":Key)=some (.int t):=by rfl
theorem a94 {l:Addr}{a t u:Int}:Di (Ec l a t u) (Sum.inr "turn":Key)=some (.int u):=by rfl
local macro_rules | `(tactic| walk_at "kv") => `(tactic| first | exact Zq | exact as0 | exact ab0 | exact a94 | rfl)
theorem Xx {l:Addr}{a t u x:Int}:Gh (Ec l a t u) (Sum.inr "turn":Key) (.int x)=Ec l a t x:=by rfl
theorem ak3 {l:Addr}{a t u x:Int}:Gh (Ec l a t u) (Sum.inr "at":Key) (.int x)=Ec l x t u:=by rfl
theorem Ni {l:Addr}{a t u x:Int}:Gh (Ec l a t u) (Sum.inr "left":Key) (.int x)=Ec l a x u:=by rfl
theorem Feed.same {H H':Hp}{d l:Addr}(h:Feed H d l)(e:Same H H'):Feed H' d l:=let ⟨a,t,u,ns,h1,h2,h3,h4⟩:=h;⟨a,t,u,ns,e _ _ h1,e _ _ h2,h3,h4⟩
theorem Feed.nd {H:Hp}{d l p:Addr}(h:Feed H d l)(hp:H p=none):d≠p:=let ⟨_,_,_,_,h1,_⟩:=h;ne_of_none h1 hp
theorem Feed.lst {H:Hp} {d l b:Addr} {xs:List V} (h:Feed H d l) (hb:H b=some (.lst xs)):b≠d:=let ⟨_,_,_,_,h1,_⟩:=h;ne_of hb h1 (by intro z;cases z)
theorem Feed.free {H H':Hp}{d l p:Addr}(h:Feed H' d l)(e:ExtBut d H H')(hp:H' p=none):H p=none:=by
 cases hq:H p with
 | none=>rfl
 | some o=>
   obtain⟨_,_,_,_,h1,_⟩:=h
   have n:p≠d:=fun q=>by subst q;rw[hp] at h1;cases h1
   rw[e p o n hq] at hp
   cases hp
theorem Feed.fz {H H':Hp}{d l:Addr}(h:Feed H d l)(e:ExtBut d H H'):Fz H H':=let ⟨_,_,_,_,h1,_⟩:=h;e.fzD h1
theorem Pl {f:Addr}{fd:FuncData}(F:Fun K "_law_draw" "_law_draw" Dk f fd)(T:Fa mg):FnOk P w K mg base CX0 1 f fd ["_law_feed_here","_law_many"] (Fk K):=by
 refine F.ok Ea (fun vs H Q E h=>?_) (fun cdv A outer s H vs Q E hr h=>?_)
 . obtain⟨d,l,n,rfl,_⟩:=h
   rfl
 obtain⟨d,l,n,rfl,⟨a,t,u,ns,hd,hl,h0,h64⟩,hn,hn2,k⟩:=h
 have hu:=Cg hr
 have hq:=Ch hr
 have hld:l≠d:=ne_of hl hd (by intro z;cases z)
 with_reducible refine⟨_,(A1 (Ed hu (pv 0) A7 (Av (At (K:=K)) (Ag (A5 (K:=K) hu) (pv 0) A7 (by ac_rfl)) A6) (by ac_nf))
  (A1 (B4 (Ac (Ba (K:=K) hq) (Ag (A5 (K:=K) hu) (pv 0) A7 (by ac_rfl)) A6 (Al _)) (A1 (Ai (i:=2) Ea.nd (by ac_nf) (by eq_refl) (Ag (A5 (K:=K) hu) (Ag (A5 (K:=K) hu) (pv 0) A7 (by ac_rfl)) (Av Jj (Ag (A5 (K:=K) hu) (pv 0) A7 (by ac_rfl)) (Ae (C1 (K:=K)) (by ac_nf) T.b_len PyProof.Rows.Boot.«len» (A0 (Ag (A5 (K:=K) hu) (pv 0) A7 (by ac_rfl)) A2))) (by ac_rfl)))
  (A1 (Ed hu (pv 0) A7 (Av (At (K:=K)) (Ag (A5 (K:=K) hu) (pv 0) A7 (by ac_rfl)) A6) (by ac_nf))
  (A1 (B4 (Ac ag2 (pv 2) (Av ae2 A6 A6) (Al _)) (A1 (Ai (i:=3) Ea.nd (by ac_nf) (by eq_refl) (Av Jj (Av Ga (Av (At (K:=K)) (Av Jj (pv 2) A6) (Av Ga A6 (Ag (A5 (K:=K) hu) (pv 0) A7 (by ac_rfl)))) A6) A6))
  (A1 (Ai (i:=3) Ea.nd (by ac_nf) (by eq_refl) (Av Jj (Av Ga (Av (At (K:=K)) (Av Jw (pv 3) A6) (Av Ga A6 (Ag (A5 (K:=K) hu) (pv 0) A7 (by ac_rfl)))) A6) A6))
  (A4 (Ak (Av Jj (Av Jw (pv 3) A6) (pv 1)))))) Ah)
  (A4 (Ed hu (pv 0) A7 (pv 2) (by ac_nf)))))) Ah)
  (A1 (Ai (i:=4) Ea.nd (by ac_nf) (by eq_refl) (Av Jj (Ag (A5 (K:=K) hu) (pv 0) A7 (by ac_rfl)) (pv 1)))
  (A1 (Ed hu (pv 0) A7 (Av Jw (Ag (A5 (K:=K) hu) (pv 0) A7 (by ac_rfl)) (pv 1)) (by ac_nf))
  (A4 (Ak (pv 4))))))),?_⟩
 walk_at "rd"
 refine Gs hd (by show 4<1000;decide) fun H1 e1 hd1=>?_
 rw[Xx] at hd1
 have hl1:H1 l=some (.lst (ns.map V.int)):=e1 _ _ hld hl
 walk_at "rd"
 refine aw1 (fun ht=>?_) (fun ht=>?_)
 . walk_at "rd"
   have hlen:(0:Int)<((ns.map V.int).length:Nat):=by rw[List.length_map];omega
   refine i_rI hlen ?_
   have hm0:0<=a % (((ns.map V.int).length:Nat):Int):=Int.emod_nonneg _ (by omega)
   have hm1:=Int.emod_lt_of_pos a hlen
   obtain⟨c,hc⟩:∃ c,(ns.map V.int)[(a % (((ns.map V.int).length:Nat):Int)).toNat]? = some (V.int c):=by
    refine⟨ns[(a % (((ns.map V.int).length:Nat):Int)).toNat]'(by rw[List.length_map] at *;omega),?_⟩
    rw[List.getElem?_map,List.getElem?_eq_getElem]
    rfl
   refine Im hl1 (by
    have:=Ck hc
    rwa[Int.toNat_of_nonneg hm0] at this) ?_
   walk_at "rd"
   refine Gs hd1 (by show 4<1000;decide) fun H2 e2 hd2=>?_
   rw[ak3] at hd2
   have hl2:H2 l=some (.lst (ns.map V.int)):=e2 _ _ hld hl1
   walk_at "rd"
   refine aw1 (fun hc1=>?_) (fun hc1=>?_)
   . walk_at "rd"
     exact k _ H2 (Int.emod_nonneg _ (by omega)) (Int.emod_lt_of_pos _ hn) (e1.trans e2) ⟨_,_,_,ns,hd2,hl2,h0,h64⟩
   walk_at "rd"
   refine Gs hd2 (by show 4<1000;decide) fun H3 e3 hd3=>?_
   rw[Ni] at hd3
   have hl3:H3 l=some (.lst (ns.map V.int)):=e3 _ _ hld hl2
   walk_at "rd"
   refine Gs hd3 (by show 4<1000;decide) fun H4 e4 hd4=>?_
   rw[Ni] at hd4
   have hl4:H4 l=some (.lst (ns.map V.int)):=e4 _ _ hld hl3
   walk_at "rd"
   exact k _ H4 (Int.emod_nonneg _ (by omega)) (Int.emod_lt_of_pos _ hn) (((e1.trans e2).trans e3).trans e4) ⟨_,_,_,ns,hd4,hl4,h0,h64⟩
 walk_at "rd"
 refine Gs hd1 (by show 4<1000;decide) fun H2 e2 hd2=>?_
 rw[Ni] at hd2
 have hl2:H2 l=some (.lst (ns.map V.int)):=e2 _ _ hld hl1
 walk_at "rd"
 exact k _ H2 (Int.emod_nonneg _ (by omega)) (Int.emod_lt_of_pos _ hn) (e1.trans e2) ⟨_,_,_,ns,hd2,hl2,h0,h64⟩
theorem Vw (ns:List Int)(h:ns.length<=63):∃ ms:List Int,Rk (ns.map V.int) none (some 63)++(List.replicate (if(PyData.list (ns.map PyData.int)).eqv (PyData.list (([]:List Int).map PyData.int))=true then(1:Int) else 0).toNat [V.int 0]).flatten=ms.map V.int/\0<ms.length/\ms.length<=64:=by
 have hc:Rk (ns.map V.int) none (some 63)=ns.map V.int:=by
  unfold Rk
  have e:HT.sIx (ns.map V.int).length (ns.map V.int).length (some 63)=(ns.map V.int).length:=by
   have:=HT.sIx_nat (ns.map V.int).length (ns.map V.int).length 63
   rw[List.length_map] at *
   rw[show((63:Nat):Int)=(63:Int) from rfl] at this
   rw[this]
   omega
  rw[HT.sIx_none,e,List.drop_zero,Nat.sub_zero,List.take_length]
 rw[hc]
 cases ns with
 | nil=>exact⟨[0],by simp[PyData.eqv,PyData.eqvAll],by decide,by decide⟩
 | cons n r=>exact⟨n :: r,by simp[PyData.eqv,PyData.eqvAll],by simp,by omega⟩
theorem Qu {f:Addr}{fd:FuncData}(F:Fun K "_law_feed" "_law_feed" Dm f fd)(T:Fa mg):FnOk P w K mg base CX0 1 f fd ["_law_script"] (Gn K):=by
 refine F.ok Pd (fun vs H Q E h=>?_) (fun cdv A outer s H vs Q E hr h=>?_)
 . obtain⟨a,ns,rfl,_⟩:=h
   rfl
 obtain⟨a,ns,rfl,hS,h63,k⟩:=h
 have hu:=Cg hr
 have hq:=Ch hr
 with_reducible refine⟨_,(A4 (Ak (Op (Cj A7 (Av (At (K:=K)) (Bl (Tt (K:=K)) (by ac_nf) T.b_list PyProof.Rows.Boot.«list» (A0 (Ej (Yl (K:=K)) (pv 0) L7 (Dt A6)) A2)) (Av Ga (Dc (A0 A6 A2)) (Bl Uu (by ac_nf) T.b_int PyProof.Rows.Boot.«int» (A0 (Cm (Ba (K:=K) hq) (pv 0) (Dc A2) (Al _)) A2)))) (Cj A7 A6 (Cj A7 A6 (Cj A7 A6 Ol)))) (by ac_nf) (by ac_nf) (by decide) (by decide)))),?_⟩
 walk_at "rd"
 refine Sm fun p H1 hp e1 hp1=>?_
 walk_at "rd"
 have hS1:=e1.seq hS
 refine Wb hS1 fun q H2 hq2 e2 hq2'=>?_
 walk_at "rd"
 refine a80 (SqL.of hq2') fun r H3 hr3 e3 hr3'=>?_
 walk_at "rd"
 refine De (by decide) fun z H4 hz4 e4 hz4'=>?_
 walk_at "rd"
 refine De (by decide) fun y H5 hy5 e5 hy5'=>?_
 refine Z1 (He (e5.seq (e4.seq (e3.seq (e2.seq hS1))))) (He (ns:=[]) (SqL.of hy5')) (PySem.W.ke_shaped_ints ns) (PySem.W.ke_shaped_ints []) ?_
 walk_at "rd"
 refine a82 (xs:=[V.int 0]) (by walk_at "lk") ?_ ?_ fun x H6 hx6 e6 hx6'=>?_
 . split<;>omega
 . split<;>decide
 refine Su (xs:=Rk (ns.map V.int) none (some 63)) (by walk_at "lk") hx6' ?_ fun v H7 hv7 e7 hv7'=>?_
 . obtain⟨ms,e,h1,h2⟩:=Vw ns h63
   rw[<- List.length_append,e,List.length_map]
   exact Nat.le_trans h2 (by decide)
 walk_at "rd"
 refine Nt [(Sum.inr "cells",.ref v),(Sum.inr "at",.int 0),(Sum.inr "left",.int 0),(Sum.inr "turn",.int 0)] (by walk_at "lk") (by rfl) (by show 4<=15;decide) fun H8 e8 h8=>?_
 have en:H8 p=some (.dK (Ec v 0 0 0)):=h8
 refine k p v H8 hp ?_ ?_ ⟨0,0,0,?_⟩
 . exact e1.free (e2.free (e3.free (e4.free (e5.free (e6.free hv7)))))
 . exact fun b o hb=>e8 b o (ne_of_none hb hp) (e7 _ _ (e6 _ _ (e5 _ _ (e4 _ _ (e3 _ _ (e2 _ _ (e1 _ _ hb)))))))
 obtain⟨ms,e,h1,h2⟩:=Vw ns h63
 rw[e] at hv7'
 exact⟨ms,en,by walk_at "lk",h1,h2⟩
def G8 (K:PySem.W.Frag):Sp:=fun vs H Q _=>∃ d l n,vs=[.ref d,.int n]/\Feed H d l/\0<=n/\n<=10/\∀ p ns H',H p=none->ExtBut d H H'->Feed H' d l->H' p=some (.lst (ns.map V.str))->NamesZ ns->ns.length=n.toNat->Q (.ref p) H'
def MN (H:Hp)(d l:Addr)(n st way sz at':Int):L2.St->Hp->Prop:=fun σ' H'=>∃ p ns x8 x9,σ'=[some (V.ref d),some (.int n),some (.str LL),some (.int st),some (.int way),some (.int (1+sz)),some (.int at'),some (.ref p),x8,x9,none]/\H p=none/\ExtBut d H H'/\Feed H' d l/\H' p=some (.lst (ns.map V.str))/\NamesZ ns/\ns.length=10
theorem On {f:Addr}{fd:FuncData}(F:Fun K "_law_names" "_law_names" Cq f fd)(T:Fa mg)(c__law_draw:Fnd P w K mg base 1 "_law_draw" ["_law_feed_here","_law_many"] (Fk K)):FnOk P w K mg base CX0 2 f fd ["_law_feed_here","_law_many"] (G8 K):=by
 refine F.ok An (fun vs H Q E h=>?_) (fun cdv A outer s H vs Q E hr h=>?_)
 . obtain⟨d,l,n,rfl,_⟩:=h
   rfl
 obtain⟨d,l,n,rfl,hF,hn0,hn1,k⟩:=h
 have hu:=Cg hr
 have hq:=Ch hr
 with_reducible refine⟨_,(A1 (Ai (i:=2) An.nd (by ac_nf) (by with_unfolding_all exact Or.inr rfl) (Av Ga A7 A6))
  (A1 (Ai (i:=3) An.nd (by ac_nf) (by with_unfolding_all exact Or.inr rfl) (Bi c__law_draw (hr.mono (by decide)) (by ac_nf) (A0 (pv 0) (A0 A6 A2))))
  (A1 (Ai (i:=4) An.nd (by ac_nf) (by eq_refl) (Bi c__law_draw (hr.mono (by decide)) (by ac_nf) (A0 (pv 0) (A0 A6 A2))))
  (A1 (Ai (i:=5) An.nd (by ac_nf) (by eq_refl) (Av (At (K:=K)) A6 (Bi c__law_draw (hr.mono (by decide)) (by ac_nf) (A0 (pv 0) (A0 A6 A2)))))
  (A1 (Ai (i:=6) An.nd (by ac_nf) (by eq_refl) (Bi c__law_draw (hr.mono (by decide)) (by ac_nf) (A0 (pv 0) (A0 (pv 5) A2))))
  (A1 (Ai (i:=7) An.nd (by ac_nf) (by eq_refl) (Dc (A0 A7 (A0 A7 (A0 A7 (A0 A7 (A0 A7 (A0 A7 (A0 A7 (A0 A7 (A0 A7 (A0 A7 A2))))))))))))
  (A1 (B4 (Ac (Ba (K:=K) hq) (pv 4) A6 (Al _)) (A4 (Ai (i:=7) An.nd (by ac_nf) (by eq_refl) (Av (At (K:=K)) (Do ["_law_k"] ["_law_letters","_law_start"] [2,3] (by ac_nf) (by ac_nf) (by ac_nf) (Il (by ac_nf) T.b_range (A0 A6 A2)) (fun _ _ _ _=>(Ap (i:=0) (by with_unfolding_all (show(["_law_k","_law_letters","_law_start"]:List Str).Nodup;decide +kernel)) (by ac_nf) (by eq_refl))) (Ce (by decide)) (fun _ _ _ _=>Ex) (fun _ _ _ _=>(Ej (Yl (K:=K)) (pv 1) (Dt (pv 2)) (Dt (Av (At (K:=K)) (Av (At (K:=K)) (pv 2) A6) (pv 0)))))) (Dc (A0 (Ag (A5 (K:=K) hu) (pv 2) (Av (At (K:=K)) (pv 3) A6) (by ac_rfl)) (A0 (Ag (A5 (K:=K) hu) (pv 2) (Av (At (K:=K)) (pv 3) A6) (by ac_rfl)) A2)))))) Ah)
  (A1 (B4 (Ac (Ba (K:=K) hq) (pv 4) A6 (Al _)) (A1 (Ai (i:=8) An.nd (by ac_nf) (by with_unfolding_all exact Or.inr rfl) (Ej (Yl (K:=K)) (pv 2) (Dt (pv 3)) (Dt (Av (At (K:=K)) (pv 3) (pv 6)))))
  (A1 (Ai (i:=9) An.nd (by ac_nf) (by with_unfolding_all exact Or.inr rfl) (Ej (Yl (K:=K)) (pv 2) (Dt (Av (At (K:=K)) (Av (At (K:=K)) (pv 3) (pv 6)) A6)) (Dt (Av (At (K:=K)) (pv 3) (pv 5)))))
  (A4 (Iy (i:=7) ["_law_k"] ["_law_head","_law_letters","_law_start","_law_tail"] [8,2,3,9] (by ac_nf) (by ac_nf) (by ac_nf) An.nd (by ac_nf) (by ac_nf) (Il (by ac_nf) T.b_range (A0 A6 A2)) (fun _ _ _ _=>(Ap (i:=0) (by with_unfolding_all (show(["_law_k","_law_head","_law_letters","_law_start","_law_tail"]:List Str).Nodup;decide +kernel)) (by ac_nf) (by eq_refl))) (Ce (by decide)) (fun _ _ _ _=>Ex) (fun _ _ _ _=>(Av (At (K:=K)) (Av (At (K:=K)) (pv 1) (Ag (A5 (K:=K) hu) (pv 2) (Av (At (K:=K)) (pv 3) (Av Jj (Av Ga A6 (pv 0)) A6)) (by ac_rfl))) (pv 4))))))) Ah)
  (A1 (B4 (Ac (Ba (K:=K) hq) (pv 4) A6 (Al _)) (A4 (Iy (i:=7) ["_law_k"] ["_law_letters","_law_start"] [2,3] (by ac_nf) (by ac_nf) (by ac_nf) An.nd (by ac_nf) (by ac_nf) (Il (by ac_nf) T.b_range (A0 A6 A2)) (fun _ _ _ _=>(Ap (i:=0) (by with_unfolding_all (show(["_law_k","_law_letters","_law_start"]:List Str).Nodup;decide +kernel)) (by ac_nf) (by eq_refl))) (Ce (by decide)) (fun _ _ _ _=>Ex) (fun _ _ _ _=>(Ej (Yl (K:=K)) (pv 1) (Dt (Av (At (K:=K)) (pv 2) (pv 0))) (Dt (Av (At (K:=K)) (Av (At (K:=K)) (Av (At (K:=K)) (pv 2) (pv 0)) A6) (Av Jj (Av Ga A6 (pv 0)) A6))))))) Ah)
  (A1 (Ai (i:=10) An.nd (by ac_nf) (by eq_refl) (Bi c__law_draw (hr.mono (by decide)) (by ac_nf) (A0 (pv 0) (A0 A6 A2))))
  (A1 (Ai (i:=7) An.nd (by ac_nf) (by eq_refl) (Av (At (K:=K)) (Ej (Yl (K:=K)) (pv 7) (Dt (pv 10)) L7) (Ej (Yl (K:=K)) (pv 7) L7 (Dt (pv 10)))))
  (A4 (Ak (Pt (Ej (Yl (K:=K)) (pv 7) L7 (Dt (pv 1))) (Ag (A5 (K:=K) hu) (Dc (A0 A6 (A0 (am0 Zx A6) A2))) (Bi c__law_draw (hr.mono (by decide)) (by ac_nf) (A0 (pv 0) (A0 A6 A2))) (by ac_rfl)))))))))))))))),?_⟩
 walk_at "rd"
 refine aa0 (by decide) ?_
 rw[ao5]
 walk_at "rd"
 refine⟨d,l,_,rfl,hF,by omega,by omega,fun st H1 hs0 hs1 e1 hF1=>?_⟩
 walk_at "rd"
 refine⟨d,l,_,rfl,hF1,by omega,by omega,fun way H2 hw0 hw1 e2 hF2=>?_⟩
 walk_at "rd"
 refine⟨d,l,_,rfl,hF2,by omega,by omega,fun sz H3 hz0 hz1 e3 hF3=>?_⟩
 walk_at "rd"
 refine⟨d,l,_,rfl,hF3,by omega,by omega,fun at' H4 ha0 ha1 e4 hF4=>?_⟩
 walk_at "rd"
 refine De (by decide) fun p5 H5 hp5 e5 h5=>?_
 walk_at "rq"
 have fr4:ExtBut d H H4:=by walk_at "fr"
 have hF5:Feed H5 d l:=by walk_at "fd"
 with_reducible refine Vx (MN H d l n st way sz at') (fun N hN=>?_) (fun σ1 H6 hM=>?_)
 . walk_at "rq"
   refine G4 (fun hw=>?_) (fun hw=>?_)
   . walk_at "rq"
     refine T0 (by omega) ?_
     refine K5 Fx (fI fun k=>.str (Txt.slice LL (some st) (some (st+1+k)))) (by simp) (fun _ _=>trivial) (fun i x H6 R hx e6 hR=>?_) (fun p6 H6 hp6 e6 h6=>?_)
     . obtain⟨rfl,hi⟩:=Kt hx
       walk_at "rq"
       exact hR
     rw[R9 (G:=fun k=>txt (M8 st.toNat (st.toNat+1+k))) (fun k hk=>by
      have e:=Si (i:=st) (j:=st+1+(0+(k:Int))) hs0 (by omega) (by have:((8:Int)).toNat=8:=rfl;omega)
      have e2:(st+1+(0+(k:Int))).toNat=st.toNat+1+k:=by omega
      rw[e2] at e
      rw[e])] at h6
     obtain⟨c9,hc9,e9⟩:=a83 (i:=st+9) (by omega) (by omega)
     obtain⟨c10,hc10,e10⟩:=a83 (i:=st+10) (by omega) (by omega)
     walk_at "rq"
     refine a84 R7 hc9 ?_
     walk_at "rq"
     refine a84 R7 hc10 ?_
     walk_at "rq"
     refine De (A9 (by simp)) fun p7 H7 hp7 e7 h7=>?_
     refine Su (by walk_at "lk") h7 (by simp[sizeLine_eq]) fun p8 H8 hp8 e8 h8=>?_
     walk_at "rq"
     have f5:ExtBut d H H5:=by walk_at "fr"
     refine hN _ _ ⟨p8,(nm0 st.toNat).map txt,none,none,rfl,Feed.free (l:=l) (H':=H7) (by walk_at "fd") (by walk_at "fr") hp8,by walk_at "fr",by walk_at "fd",?_,ab4 (by omega),by simp[nm0]⟩
     rw[h8,e9,e10]
     have q9:(st+9).toNat=st.toNat+9:=by omega
     have q10:(st+10).toNat=st.toNat+10:=by omega
     rw[q9,q10]
     simp[nm0,Function.comp_def]
   walk_at "rq"
   refine hN _ _ ⟨p5,nm3,none,none,rfl,hF4.free fr4 hp5,by walk_at "fr",hF5,h5,ac5,rfl⟩
 obtain⟨p,ns,x8,x9,rfl,hp,e6,hF6,h6,hN6,hl6⟩:=hM
 with_reducible refine Vx (MN H d l n st way sz at') (fun N hN=>?_) (fun σ1 H7 hM=>?_)
 . walk_at "rq"
   refine G4 (fun hw=>?_) (fun hw=>?_)
   . walk_at "rq"
     refine T0 (by omega) ?_
     have c1:=Si (i:=st) (j:=st+at') hs0 (by omega) (by omega)
     have c2:=Si (i:=st+at'+1) (j:=st+(1+sz)) (by omega) (by omega) (by omega)
     rw[c1,c2]
     refine K5 Fx (fI fun k=>.str (txt (M8 st.toNat (st+at').toNat)++txt (Os (st+5*k % 26).toNat)++txt (M8 (st+at'+1).toNat (st+(1+sz)).toNat))) (by simp) (fun _ _=>trivial) (fun i x H8 R hx e8 hR=>?_) (fun p8 H8 hp8 e8 h8=>?_)
     . obtain⟨rfl,hi⟩:=Kt hx
       have hm0:=Int.emod_nonneg (5*(0+(i:Int))) (show(26:Int)≠0 by decide)
       have hm1:=Int.emod_lt_of_pos (5*(0+(i:Int))) (show(0:Int)<26 by decide)
       obtain⟨c,hc,ec⟩:=a83 (i:=st+5*(0+(i:Int)) % 26) (by omega) (by omega)
       walk_at "rq"
       refine a84 R7 hc ?_
       rw[ec]
       have l1:(txt (M8 st.toNat (st+at').toNat)).length<=52:=by show(M8 _ _).toArray.size<=_;unfold M8;simp[J7];omega
       have l2:(txt (M8 (st+at'+1).toNat (st+(1+sz)).toNat)).length<=52:=by show(M8 _ _).toArray.size<=_;unfold M8;simp[J7];omega
       have l3:(txt (Os (st+5*(0+(i:Int)) % 26).toNat)).length<=52:=by show(Os _).toArray.size<=_;unfold Os;simp[J7];omega
       refine i_addS (A9 (by omega)) ?_
       have l4:(txt (M8 st.toNat (st+at').toNat)++txt (Os (st+5*(0+(i:Int)) % 26).toNat)).length<=104:=by rw[Str.length_append];omega
       walk_at "rq"
       exact hR
     rw[R9 (G:=fun k=>txt (M8 st.toNat (st.toNat+at'.toNat)++Os (st.toNat+5*k % 26)++M8 (st.toNat+at'.toNat+1) (st.toNat+(1+sz).toNat))) (fun k hk=>by
      have q1:(st+at').toNat=st.toNat+at'.toNat:=by omega
      have q2:(st+5*(0+(k:Int)) % 26).toNat=st.toNat+5*k % 26:=by omega
      have q3:(st+at'+1).toNat=st.toNat+at'.toNat+1:=by omega
      have q4:(st+(1+sz)).toNat=st.toNat+(1+sz).toNat:=by omega
      rw[q1,q2,q3,q4,Wz,Wz])] at h8
     walk_at "rq"
     refine hN _ _ ⟨p8,(nm1 st.toNat (1+sz).toNat at'.toNat).map txt,_,_,rfl,hF6.free e6 hp8,by walk_at "fr",by walk_at "fd",?_,a87 (by omega) (by omega) (by omega),by simp[nm1]⟩
     rw[h8]
     simp[nm1,Function.comp_def]
   walk_at "rq"
   exact hN _ _ ⟨p,ns,x8,x9,rfl,hp,e6,hF6,h6,hN6,hl6⟩
 obtain⟨p',ns',x8',x9',rfl,hp',e7,hF7,h7,hN7,hl7⟩:=hM
 with_reducible refine Vx (MN H d l n st way sz at') (fun N hN=>?_) (fun σ1 H8 hM=>?_)
 . walk_at "rq"
   refine G4 (fun hw=>?_) (fun hw=>?_)
   . walk_at "rq"
     refine T0 (by omega) ?_
     refine K5 Fx (fI fun k=>.str (Txt.slice LL (some (st+k)) (some (st+k+1+3*k % 8)))) (by simp) (fun _ _=>trivial) (fun i x H8 R hx e8 hR=>?_) (fun p8 H8 hp8 e8 h8=>?_)
     . obtain⟨rfl,hi⟩:=Kt hx
       walk_at "rq"
       exact hR
     rw[R9 (G:=fun k=>txt (M8 (st.toNat+k) (st.toNat+k+1+3*k % 8))) (fun k hk=>by
      have h10:((10:Int)).toNat=10:=rfl
      have e:=Si (i:=st+(0+(k:Int))) (j:=st+(0+(k:Int))+1+3*(0+(k:Int)) % 8) (by omega) (by omega) (by omega)
      have q1:(st+(0+(k:Int))).toNat=st.toNat+k:=by omega
      have q2:(st+(0+(k:Int))+1+3*(0+(k:Int)) % 8).toNat=st.toNat+k+1+3*k % 8:=by omega
      rw[q1,q2] at e
      rw[e])] at h8
     walk_at "rq"
     refine hN _ _ ⟨p8,(nm2 st.toNat).map txt,_,_,rfl,hF7.free e7 hp8,by walk_at "fr",by walk_at "fd",?_,a99 (by omega),by simp[nm2]⟩
     rw[h8]
     simp[nm2,Function.comp_def]
   walk_at "rq"
   exact hN _ _ ⟨p',ns',x8',x9',rfl,hp',e7,hF7,h7,hN7,hl7⟩
 obtain⟨p2,ms,y8,y9,rfl,hp2,e8,hF8,h8,hN8,hl8⟩:=hM
 walk_at "rd"
 refine⟨d,l,_,rfl,hF8,by omega,by omega,fun tn H9 ht0 ht1 e9 hF9=>?_⟩
 have nd2:p2≠d:=hF8.lst h8
 walk_at "rd"
 have h9:H9 p2=some (.lst (ms.map V.str)):=e9 _ _ nd2 h8
 refine Wb (SqL.of h9) fun q1 H10 hq1 e10 h10=>?_
 walk_at "rd"
 refine Wb (SqL.of (show H10 p2=some (.lst (ms.map V.str)) by walk_at "lk")) fun q2 H11 hq2 e11 h11=>?_
 walk_at "rd"
 rw[Y2 ht0 (by rw[List.length_map];omega)] at h10
 rw[Oi ht0] at h11
 refine Su (by walk_at "lk") h11 (A9 (by simp;omega)) fun q3 H12 hq3 e12 h12=>?_
 walk_at "rd"
 rw[<- List.map_drop,<- List.map_take,<- List.map_append] at h12
 refine Wb (SqL.of h12) fun q4 H13 hq4 e13 h13=>?_
 walk_at "rd"
 rw[Oi hn0,<- List.map_take] at h13
 refine De (by decide) fun q5 H14 hq5 e14 h14=>?_
 walk_at "rd"
 refine⟨d,l,2,rfl,by walk_at "fd",by omega,by omega,fun r H15 hr0 hr1 e15 hF15=>?_⟩
 have hq5d:q5≠d:=Ne.symm (Feed.nd (H:=H13) (l:=l) (by walk_at "fd") hq5)
 have hq4d:q4≠d:=Ne.symm (Feed.nd (H:=H12) (l:=l) (by walk_at "fd") hq4)
 have h15:H15 q4=some (.lst (((ms.drop tn.toNat++ms.take tn.toNat).take n.toNat).map V.str)):=e15 _ _ hq4d (by walk_at "lk")
 have g15:H15 q5=some (.lst [V.int 1,V.int (-1)]):=e15 _ _ hq5d h14
 have hstep:∃ k,atI [V.int 1,V.int (-1)] r=some (V.int k)/\(k=1\/k = -1):=by
  rcases(by omega:r=0\/r=1) with rfl | rfl
  . exact⟨1,rfl,.inl rfl⟩
  exact⟨-1,rfl,.inr rfl⟩
 obtain⟨kk,hk1,hk2⟩:=hstep
 refine Im g15 hk1 ?_
 refine ao3 (SqL.of h15) hk2 fun q6 H16 hq6 e16 h16=>?_
 obtain⟨os,eo,ho1,ho2⟩:=R6 (k:=kk) (hN8.turn tn.toNat n.toNat)
 rw[eo] at h16
 have fr15:ExtBut d H H15:=by walk_at "fr"
 refine k q6 os H16 (hF15.free fr15 hq6) (by walk_at "fr") (by walk_at "fd") h16 ho1 ?_
 rw[ho2,List.length_take,List.length_append,List.length_drop,List.length_take]
 omega
local macro_rules | `(tactic| walk_at "rq1") => `(tactic| with_reducible first | refine ai4 ?_ | refine i_tMkX0 ?_ | refine ad4 ?_ | refine a67 ?_)
theorem Zr {ws:List V}{a:Str}(h:ws.length=[a].length):∃ v,ws=[v]:=by
 match ws,h with
 | [v],_=>exact⟨v,rfl⟩
theorem av4 {ws:List V}{a b:Str}(h:ws.length=[a,b].length):∃ v u,ws=[v,u]:=by
 match ws,h with
 | [v,u],_=>exact⟨v,u,rfl⟩
theorem Np {f:Addr}{fd:FuncData}(F:Fun K "__init__" "Clash.__init__" Cv f fd)(T:Fa mg){C_HalfError:Addr}{C_Clash:Addr}(x_HalfError:Aj K mg C_HalfError C_HalfError)(x_Clash:Gi K mg C_Clash C_HalfError):FnOk P w K mg base CX0 1 f fd ["self","way"] (spX C_Clash ["way"]):=by
 refine F.ok Nd (fun vs H Q E h=>?_) (fun cdv A outer s H vs Q E hr h=>?_)
 . obtain⟨a,ws,rfl,hl,_⟩:=h
   obtain⟨v,rfl⟩:=Zr hl
   rfl
 obtain⟨a,ws,rfl,hl,ha,k⟩:=h
 obtain⟨v,rfl⟩:=Zr hl
 with_reducible refine⟨_,(A4 (Hc (K:=K) (pv 0) (pv 1) (by ac_nf))),?_⟩
 walk_at "rd"
 refine Pp ha x_Clash.xc x_Clash.n_way fun dx H1 h1 h2 h3 h4 h5=>?_
 walk_at "rd"
 exact k dx H1 h1 h2 h3 h4 h5
theorem M4 {f:Addr}{fd:FuncData}(F:Fun K "__init__" "NoName.__init__" C6 f fd)(T:Fa mg){C_HalfError:Addr}{C_NoName:Addr}(x_HalfError:Aj K mg C_HalfError C_HalfError)(x_NoName:Bc K mg C_NoName C_HalfError):FnOk P w K mg base CX0 1 f fd ["self","name"] (spX C_NoName ["name"]):=by
 refine F.ok Lw (fun vs H Q E h=>?_) (fun cdv A outer s H vs Q E hr h=>?_)
 . obtain⟨a,ws,rfl,hl,_⟩:=h
   obtain⟨v,rfl⟩:=Zr hl
   rfl
 obtain⟨a,ws,rfl,hl,ha,k⟩:=h
 obtain⟨v,rfl⟩:=Zr hl
 with_reducible refine⟨_,(A4 (Hc (K:=K) (pv 0) (pv 1) (by ac_nf))),?_⟩
 walk_at "rd"
 refine Pp ha x_NoName.xc x_NoName.n_name fun dx H1 h1 h2 h3 h4 h5=>?_
 walk_at "rd"
 exact k dx H1 h1 h2 h3 h4 h5
theorem Jo {f:Addr}{fd:FuncData}(F:Fun K "__init__" "NoSaying.__init__" Bk f fd)(T:Fa mg){C_HalfError:Addr}{C_NoSaying:Addr}(x_HalfError:Aj K mg C_HalfError C_HalfError)(x_NoSaying:Ct K mg C_NoSaying C_HalfError):FnOk P w K mg base CX0 1 f fd ["self","number"] (spX C_NoSaying ["number"]):=by
 refine F.ok Jt (fun vs H Q E h=>?_) (fun cdv A outer s H vs Q E hr h=>?_)
 . obtain⟨a,ws,rfl,hl,_⟩:=h
   obtain⟨v,rfl⟩:=Zr hl
   rfl
 obtain⟨a,ws,rfl,hl,ha,k⟩:=h
 obtain⟨v,rfl⟩:=Zr hl
 with_reducible refine⟨_,(A4 (Hc (K:=K) (pv 0) (pv 1) (by ac_nf))),?_⟩
 walk_at "rd"
 refine Pp ha x_NoSaying.xc x_NoSaying.n_number fun dx H1 h1 h2 h3 h4 h5=>?_
 walk_at "rd"
 exact k dx H1 h1 h2 h3 h4 h5
theorem Lf {f:Addr}{fd:FuncData}(F:Fun K "__init__" "TooMany.__init__" Bt f fd)(T:Fa mg){C_HalfError:Addr}{C_TooMany:Addr}(x_HalfError:Aj K mg C_HalfError C_HalfError)(x_TooMany:Ey K mg C_TooMany C_HalfError):FnOk P w K mg base CX0 1 f fd ["self","word"] (spX C_TooMany ["word"]):=by
 refine F.ok Kk (fun vs H Q E h=>?_) (fun cdv A outer s H vs Q E hr h=>?_)
 . obtain⟨a,ws,rfl,hl,_⟩:=h
   obtain⟨v,rfl⟩:=Zr hl
   rfl
 obtain⟨a,ws,rfl,hl,ha,k⟩:=h
 obtain⟨v,rfl⟩:=Zr hl
 with_reducible refine⟨_,(A4 (Hc (K:=K) (pv 0) (pv 1) (by ac_nf))),?_⟩
 walk_at "rd"
 refine Pp ha x_TooMany.xc x_TooMany.n_word fun dx H1 h1 h2 h3 h4 h5=>?_
 walk_at "rd"
 exact k dx H1 h1 h2 h3 h4 h5
theorem Me {f:Addr}{fd:FuncData}(F:Fun K "__init__" "NoHalf.__init__" Cb f fd)(T:Fa mg){C_HalfError:Addr}{C_NoHalf:Addr}(x_HalfError:Aj K mg C_HalfError C_HalfError)(x_NoHalf:Iv K mg C_NoHalf C_HalfError):FnOk P w K mg base CX0 1 f fd ["self","word","number"] (spX C_NoHalf ["word","number"]):=by
 refine F.ok Ma (fun vs H Q E h=>?_) (fun cdv A outer s H vs Q E hr h=>?_)
 . obtain⟨a,ws,rfl,hl,_⟩:=h
   obtain⟨v,u,rfl⟩:=av4 hl
   rfl
 obtain⟨a,ws,rfl,hl,ha,k⟩:=h
 obtain⟨v,u,rfl⟩:=av4 hl
 with_reducible refine⟨_,(A1 (Hc (K:=K) (pv 0) (pv 1) (by ac_nf))
  (A4 (Hc (K:=K) (pv 0) (pv 2) (by ac_nf)))),?_⟩
 walk_at "rd"
 refine Pp ha x_NoHalf.xc x_NoHalf.n_word fun dx H1 h1 h2 h3 h4 h5=>?_
 walk_at "rd"
 refine ai6 h4 h5 x_NoHalf.xc x_NoHalf.n_number (by simp) fun H2 g1 g2=>?_
 walk_at "rd"
 exact k dx H2 h1 h2 (fun b b1 b2=>(g1 b b2).trans (h3 b b1 b2)) ((g1 a (Ne.symm h2)).trans h4) g2
def OkP (ps:List (Str×Str)):Prop:=∀ p∈ps,PyData.strOk p.1=true/\PyData.strOk p.2=true
def Dy (K:PySem.W.Frag):Sp:=fun vs H Q _=>∃ v x ns ps,vs=[v,.str x]/\Is K H (hfD ns ps) v/\ps.length<=1000/\OkP ps/\PyData.strOk x=true/\∀ p (fs:List Str) H',H p=none->Same H H'->H' p=some (.lst (fs.map V.str))->fs.Nodup->(∀ y,y∈fs↔Way ps x y)->Q (.ref p) H'
structure BhI (ps:List (Str×Str))(x:Str)(fs ls:List Str):Prop where
 nd:fs.Nodup
 way:∀ y∈fs,Way ps x y
 line:∀ z∈ls,z=x\/z∈fs
 shut:∀ z,z=x\/z∈fs->z∉ls->∀ y,(z,y)∈ps->y∈fs
 few:ls.length<=fs.length+1
theorem BhI.le {ps:List (Str×Str)}{x:Str}{fs ls:List Str}(h:BhI ps x fs ls):fs.length<=ps.length:=by
 have:=By (ys:=ps.map (·.2)) h.nd fun y hy=>(h.way y hy).right
 rwa[List.length_map] at this
structure BhJ (ps:List (Str×Str))(x here:Str)(fs ls gs ms:List Str)(i:Nat):Prop where
 nd:gs.Nodup
 way:∀ y∈gs,Way ps x y
 line:∀ z∈ms,z=x\/z∈gs
 keep:∀ z∈fs,z∈gs
 keepL:∀ z∈ls,z∈ms
 new:∀ z∈gs,z∈fs\/z∈ms
 seen:∀ j<i,∀ y,ps[j]? = some (here,y)->y∈gs
 len:gs.length+ls.length=fs.length+ms.length
theorem BhJ.le {ps:List (Str×Str)}{x here:Str}{fs ls gs ms:List Str}{i:Nat}(h:BhJ ps x here fs ls gs ms i):gs.length<=ps.length:=by
 have:=By (ys:=ps.map (·.2)) h.nd fun y hy=>(h.way y hy).right
 rwa[List.length_map] at this
theorem BhJ.step {ps:List (Str×Str)}{x here:Str}{fs ls gs ms:List Str}{i:Nat}{p:Str×Str}(h:BhJ ps x here fs ls gs ms i)(hw:here=x\/Way ps x here)(hp:ps[i]? = some p)(h1:p.1=here)(h2:p.2∉gs):BhJ ps x here fs ls (gs++[p.2]) (ms++[p.2]) (i+1):=by
 have hm:(here,p.2)∈ps:=by rw[<- h1];exact List.mem_of_getElem? hp
 refine⟨?_,fun y hy=>?_,fun z hz=>?_,fun z hz=>List.mem_append_left _ (h.keep z hz),fun z hz=>List.mem_append_left _ (h.keepL z hz),fun z hz=>?_,fun j hj y e=>?_,?_⟩
 . rw[List.nodup_append]
   refine⟨h.nd,by simp,fun a ha b hb=>?_⟩
   have:b=p.2:=by simpa using hb
   subst this
   intro e
   subst e
   exact h2 ha
 . rcases List.mem_append.mp hy with hy | hy
   . exact h.way y hy
   have:y=p.2:=by simpa using hy
   subst this
   rcases hw with rfl | hw
   . exact .one hm
   exact hw.snoc hm
 . rcases List.mem_append.mp hz with hz | hz
   . rcases h.line z hz with e | e
     . exact .inl e
     exact .inr (List.mem_append_left _ e)
   exact .inr (List.mem_append_right _ hz)
 . rcases List.mem_append.mp hz with hz | hz
   . rcases h.new z hz with e | e
     . exact .inl e
     exact .inr (List.mem_append_left _ e)
   exact .inr (List.mem_append_right _ hz)
 . by_cases hji:j=i
   . subst hji
     rw[hp] at e
     cases e
     exact List.mem_append_right _ (by simp)
   exact List.mem_append_left _ (h.seen j (by omega) y e)
 rw[List.length_append,List.length_append,List.length_singleton]
 have:=h.len
 omega
theorem BhJ.skip {ps:List (Str×Str)}{x here:Str}{fs ls gs ms:List Str}{i:Nat}{p:Str×Str}(h:BhJ ps x here fs ls gs ms i)(hp:ps[i]? = some p)(h1:p.1=here->p.2∈gs):BhJ ps x here fs ls gs ms (i+1):=by
 refine⟨h.nd,h.way,h.line,h.keep,h.keepL,h.new,fun j hj y e=>?_,h.len⟩
 by_cases hji:j=i
 . subst hji
   rw[hp] at e
   cases e
   exact h1 rfl
 exact h.seen j (by omega) y e
theorem BhJ.done {ps:List (Str×Str)}{x here:Str}{fs ls gs ms:List Str}(I:BhI ps x fs (ls++[here]))(h:BhJ ps x here fs ls gs ms ps.length):BhI ps x gs ms:=by
 refine⟨h.nd,h.way,h.line,fun z hz hm y hy=>?_,?_⟩
 . by_cases e:z=here
   . subst e
     obtain⟨j,hj,ej⟩:=List.getElem_of_mem hy
     exact h.seen j hj y (by rw[List.getElem?_eq_getElem hj,ej])
   have hz':z=x\/z∈fs:=by
    rcases hz with hz | hz
    . exact .inl hz
    rcases h.new z hz with q | q
    . exact .inr q
    exact absurd q hm
   refine h.keep y (I.shut z hz' (fun q=>?_) y hy)
   rcases List.mem_append.mp q with q | q
   . exact hm (h.keepL z q)
   exact e (by simpa using q)
 have:=h.len
 have:=I.few
 rw[List.length_append,List.length_singleton] at this
 omega
theorem M7 {f:Addr}{fd:FuncData}(F:Fun K "_law_behind" "_law_behind" C5 f fd)(T:Fa mg):FnOk P w K mg base CX0 1 f fd ["_law_half","_law_name"] (Dy K):=by
 refine F.ok Bq (fun vs H Q E h=>?_) (fun cdv A outer s H vs Q E hr h=>?_)
 . obtain⟨v,x,ns,ps,rfl,_⟩:=h
   rfl
 obtain⟨v,x,ns,ps,rfl,hI,hl,hok,hx,k⟩:=h
 have hu:=Cg hr
 have hq:=Ch hr
 with_reducible refine⟨_,(A1 (Ai (i:=2) Bq.nd (by ac_nf) (by eq_refl) (Dc A2))
  (A1 (Ai (i:=3) Bq.nd (by ac_nf) (by eq_refl) (Dc (A0 (pv 1) A2)))
  (A1 (T7 PassesOwn.never (Ac (Ik (K:=K) hq) (pv 3) (Dc A2) (Al _))
  (A1 (Ai (i:=4) Bq.nd (by ac_nf) (by eq_refl) (W5 (K:=K) PySem.F.plainAttrs_list PySem.F.slot_list_pop PySem.F.type_list_pop (mm al5) (pv 3)))
  (A4 (Eg PassesOwn.never (by ac_nf) (Ax (K:=K) hu (Ag (A5 (K:=K) hu) (pv 0) A6 (by ac_rfl))) (Vh (K:=K) (n:=2) (by ac_nf) (Jx (Ap (i:=5) Bq.nd (by ac_nf) (by eq_refl)) (Jx (Ap (i:=6) Bq.nd (by ac_nf) (by eq_refl)) Wg)))
  (A4 (B4 (PW.pt (Na (Ac (Ba (K:=K) hq) (pv 5) (pv 4) (Al _)) (L0 (Ac (Ff (K:=K) hq) (pv 6) (pv 2) (by ac_nf))))) (A1 (Cl (Gb (K:=K) PySem.F.plainAttrs_list PySem.F.slot_list_append PySem.F.type_list_append (mm C2) (pv 2) (A0 (pv 6) A2)))
  (A4 (Cl (Gb (K:=K) PySem.F.plainAttrs_list PySem.F.slot_list_append PySem.F.type_list_append (mm C2) (pv 3) (A0 (pv 6) A2))))) Ah))))))
  (A4 (Ak (pv 2)))))),?_⟩
 walk_at "rd"
 refine De (by decide) fun p H1 hp1 e1 h1=>?_
 walk_at "rd"
 refine De (A9 (by simp)) fun q H2 hq2 e2 h2=>?_
 walk_at "rd"
 have hpq:p≠q:=ne_of_none h1 hq2
 have hq0:H q=none:=e1.free hq2
 have okn:∀ y,y=x\/Way ps x y->PyData.strOk y=true:=fun y hy=>by
  rcases hy with rfl | hy
  . exact hx
  obtain⟨pr,hpr,e⟩:=List.mem_map.mp hy.right
  exact e ▸ (hok pr hpr).2
 refine X3 (fun m σ H3=>∃ fs ls x4 x5 x6,σ=[some v,some (.str x),some (.ref p),some (.ref q),x4,x5,x6]/\Same H H3/\H3 p=some (.lst (fs.map V.str))/\H3 q=some (.lst (ls.map V.str))/\BhI ps x fs ls/\m=2*(ps.length-fs.length)+ls.length)
  (2*(ps.length-([]:List Str).length)+[x].length) ⟨[],[x],_,_,_,rfl,by walk_at "sm",by walk_at "lk",h2,⟨by simp,fun _ h=>(by cases h),fun z hz=>.inl (by simpa using hz),fun z hz hn=>(by
   rcases hz with rfl | hz
   . exact absurd (by simp) hn
   cases hz),by simp⟩,rfl⟩ fun m σ H3 hP=>?_
 obtain⟨fs,ls,x4,x5,x6,rfl,e3,h3p,h3q,hB,rfl⟩:=hP
 walk_at "rd"
 refine De (by decide) fun t H4 ht4 e4 h4=>?_
 refine Wh (dx:=.list (ls.map PyData.str)) (dy:=.list []) (Is.of_lst (SqL.of (e4 _ _ h3q)) (R4 ls)) (Is.of_lst (SqL.of h4) .nil) (Z5 fun z hz=>?_) (by rfl) ?_
 . refine okn z ?_
   rcases hB.line z hz with e | e
   . exact .inl e
   exact .inr (hB.way z e)
 rw[Pn]
 walk_at "rd"
 refine aj0 (fun hE=>?_) (fun hE=>?_)
 . have hne:ls≠[]:=by
    intro e
    subst e
    cases hE
   obtain⟨ls',here,rfl⟩:∃ ls' here,ls=ls'++[here]:=⟨ls.dropLast,ls.getLast hne,(List.dropLast_concat_getLast hne).symm⟩
   refine a52 ?_
   walk_at "rd"
   have h4p:H4 p=some (.lst (fs.map V.str)):=e4 _ _ h3p
   have h4q:H4 q=some (.lst (ls'.map V.str++[V.str here])):=by rw[e4 _ _ h3q,List.map_append];rfl
   refine al9 h4q fun H5 e5 h5q=>?_
   walk_at "rd"
   have h5p:H5 p=some (.lst (fs.map V.str)):=e5 _ _ hpq h4p
   have e05:Same H H5:=by walk_at "sm"
   refine Up (hI.hf_fz e05.fz) fun u hI5=>?_
   have hle:=hB.le
   have hfew:=hB.few
   rw[List.length_append,List.length_singleton] at hfew
   refine a55 hI5 (fun i σ H6=>∃ gs ms x5 x6,σ=[some v,some (.str x),some (.ref p),some (.ref q),some (.str here),x5,x6]/\Same H H6/\Fz H5 H6/\H6 p=some (.lst (gs.map V.str))/\H6 q=some (.lst (ms.map V.str))/\BhJ ps x here fs ls' gs ms i)
    ⟨fs,ls',_,_,rfl,e05,.refl _,h5p,h5q,⟨hB.nd,hB.way,fun z hz=>hB.line z (List.mem_append_left _ hz),fun _ h=>h,fun _ h=>h,fun _ h=>.inl h,fun j hj=>absurd hj (Nat.not_lt_zero _),rfl⟩⟩ (fun i σ' H' hP=>?_) (fun i pr w σ' H6 hpr hIp hP=>?_) (fun σ' H6 hP=>?_)
   . obtain⟨_,_,_,_,_,_,fz,_⟩:=hP
     exact fz
   . obtain⟨gs,ms,x5',x6',rfl,e6,fz6,h6p,h6q,hJ⟩:=hP
     have hgl:=hJ.le
     have hml:=hJ.len
     refine a78 hIp ?_
     walk_at "rd"
     refine G4 (fun h1=>?_) (fun h1=>?_)
     . have h1':pr.1=here:=by injection h1
       walk_at "rd"
       refine Wl (SqL.of h6p) ?_
       walk_at "rd"
       refine W8 (fun h2=>?_) (fun h2=>?_)
       . walk_at "rd"
         refine Iq h6p (by rw[List.length_map];omega) fun H7 e7 h7p=>?_
         walk_at "rd"
         have h7q:H7 q=some (.lst (ms.map V.str)):=e7 _ _ (Ne.symm hpq) h6q
         refine Iq h7q (by rw[List.length_map];omega) fun H8 e8 h8q=>?_
         walk_at "rd"
         refine⟨gs++[pr.2],ms++[pr.2],_,_,rfl,by walk_at "sm",(fz6.trans (e7.fzL h6p)).trans (e8.fzL h7q),?_,?_,hJ.step ?_ hpr h1' h2⟩
         . rw[e8 _ _ hpq h7p,List.map_append]
           rfl
         . rw[h8q,List.map_append]
           rfl
         rcases hB.line here (List.mem_append_right _ (by simp)) with e | e
         . exact .inl e
         exact .inr (hB.way _ e)
       exact⟨gs,ms,_,_,rfl,e6,fz6,h6p,h6q,hJ.skip hpr fun _=>h2⟩
     exact⟨gs,ms,_,_,rfl,e6,fz6,h6p,h6q,hJ.skip hpr fun e=>absurd (by rw[e]) h1⟩
   obtain⟨gs,ms,x5',x6',rfl,e6,fz6,h6p,h6q,hJ⟩:=hP
   have hgl:=hJ.le
   have hml:=hJ.len
   have hge:=By hB.nd hJ.keep
   refine⟨_,?_,gs,ms,_,_,_,rfl,e6,h6p,h6q,BhJ.done hB hJ,rfl⟩
   rw[List.length_append,List.length_singleton]
   omega
 have hn:ls=[]:=by
  cases ls with
  | nil=>rfl
  | cons _ _=>cases hE
 subst hn
 walk_at "rd"
 refine k p fs H4 hp1 (by walk_at "sm") (e4 _ _ h3p) hB.nd fun y=>⟨hB.way y,fun g=>?_⟩
 exact Way.shut (S:=fun y=>y∈fs) (fun y hy=>hB.shut x (.inl rfl) (by simp) y hy) (fun z y hz hy=>hB.shut z (.inr hz) (by simp) y hy) g
def Dw (K:PySem.W.Frag):Sp:=fun vs H Q _=>∃ v ns ps,vs=[v]/\Is K H (hfD ns ps) v/\Nc ns ps/\∀ r as H',H r=none->(∀ a∈as,H a=none)->Same H H'->Tab H' r ns as (Way ps)->Q (.ref r) H'
theorem M6 {f:Addr}{fd:FuncData}(F:Fun K "behind_each" "behind_each" Cc f fd)(T:Fa mg):FnOk P w K mg base CX0 1 f fd ["half"] (Dw K):=by
 refine F.ok Br (fun vs H Q E h=>?_) (fun cdv A outer s H vs Q E hr h=>?_)
 . obtain⟨v,ns,ps,rfl,_⟩:=h
   rfl
 obtain⟨v,ns,ps,rfl,hI,hW,k⟩:=h
 have hu:=Cg hr
 have hq:=Ch hr
 have hn:=hW.nd
 have hfew:=hW.few
 with_reducible refine⟨_,(A1 (Ai (i:=1) Br.nd (by ac_nf) (by eq_refl) (Ag (A5 (K:=K) hu) (pv 0) A6 (by ac_rfl)))
  (A1 (Ai (i:=2) Br.nd (by ac_nf) (by eq_refl) (Bl (Uc (K:=K) hr.hd) (by ac_nf) T.b_dict PyProof.Rows.Boot.«dict» (A0 (Do ["name"] [] [] (by ac_nf) (by ac_nf) (by ac_nf) (Ax (K:=K) hu (pv 1)) (fun _ _ _ _=>(Ap (i:=0) (by with_unfolding_all (show(["name"]:List Str).Nodup;decide +kernel)) (by ac_nf) (by eq_refl))) (Ce (by decide)) (fun _ _ _ _=>Ex) (fun _ _ _ _=>(Aw (A0 (pv 0) (A0 K0 A2))))) A2)))
  (A1 (Eg PassesOwn.never (by ac_nf) (Ax (K:=K) hu (Ag (A5 (K:=K) hu) (pv 0) A6 (by ac_rfl))) (Ap (i:=3) Br.nd (by ac_nf) (by eq_refl))
  (A4 (Ed hu (Ag (A5 (K:=K) hu) (pv 2) (Ag (A5 (K:=K) hu) (pv 3) A6 (by ac_rfl)) (by ac_rfl)) (Ag (A5 (K:=K) hu) (pv 3) A6 (by ac_rfl)) Fg (by ac_nf))))
  (A1 (Eg PassesOwn.never (by ac_nf) (Ax (K:=K) hu (pv 1)) (Ap (i:=4) Br.nd (by ac_nf) (by eq_refl))
  (A4 (Eg PassesOwn.never (by ac_nf) (Ax (K:=K) hu (pv 1)) (Ap (i:=5) Br.nd (by ac_nf) (by eq_refl))
  (A4 (B4 (Ac (Jm (K:=K) hq) (pv 4) (Ag (A5 (K:=K) hu) (pv 2) (pv 5) (by ac_rfl)) (by ac_nf)) (A4 (Cl (Gb (K:=K) PySem.F.plainAttrs_dict PySem.F.slot_dict_update PySem.F.type_dict_update (mm Td) (Ag (A5 (K:=K) hu) (pv 2) (pv 5) (by ac_rfl)) (A0 (Ag (A5 (K:=K) hu) (pv 2) (pv 4) (by ac_rfl)) A2)))) Ah)))))
  (A4 (Ak (pv 2))))))),?_⟩
 walk_at "rd"
 refine Mz hI fun nv hN=>?_
 walk_at "rd"
 obtain⟨na,rfl,hS⟩:=hN.nm
 refine Kf hS ?_
 refine Ng (Da (xs:=ns.map V.str)) (fun p i acc H1=>Same H H1/\∃ as:List Addr,as.length=i/\as.Nodup/\(∀ a∈as,H1 a=some (.dK [])/\H a=none)/\PrsK K H1 (J8 (ns.take i) as) acc) (fun p H' hp e h=>⟨e,[],rfl,by simp,fun _ h=>(by cases h),by rfl⟩) (fun p i acc H1 hP=>hP.1.seqT hS) (fun p i x acc H1 hp hx hi hl ha hP=>?_) fun p acc H1 hp ha hl hP=>?_
 . obtain ⟨e1,as,hal,had,haf,hpr⟩:=hP
   rw[List.getElem?_map] at hx
   cases hz:ns[i]? with
   | none=>rw[hz] at hx;cases hx
   | some z=>
     rw[hz] at hx
     cases hx
     have hin:i<ns.length:=(List.getElem?_eq_some_iff.mp hz).1
     walk_at "rd"
     refine T8 fun b H2 hb2 e2 h2=>?_
     walk_at "rd"
     refine Au (A9 (by simp)) fun t H3 ht3 e3 h3=>?_
     have h3p:H3 p=some (.lst acc):=e3 _ _ (e2 _ _ ha)
     refine Rz (by rw[List.length_map];omega) hi hl h3p fun H4 e4 h4=>?_
     have hbp:b≠p:=Ne.symm (ne_of_none ha hb2)
     refine⟨by walk_at "sm",as++[b],by simp[hal],?_,fun a ha'=>?_,?_⟩
     . rw[List.nodup_append]
       refine⟨had,by simp,fun a ha1 c hc e=>?_⟩
       have:c=b:=by simpa using hc
       subst this
       subst e
       have:=(haf _ ha1).1
       rw[hb2] at this
       cases this
     . rcases List.mem_append.mp ha' with ha' | ha'
       . obtain⟨q1,q2⟩:=haf a ha'
         exact⟨e4 _ _ (ne_of q1 ha (by intro z;cases z)) (e3 _ _ (e2 _ _ q1)),q2⟩
       have:a=b:=by simpa using ha'
       subst this
       exact⟨e4 _ _ hbp (e3 _ _ h2),e1.free hb2⟩
     have ht:ns.take (i+1)=ns.take i++[z]:=by rw[List.take_add_one,hz];rfl
     have hlen:(ns.take i).length=as.length:=by rw[List.length_take,hal];omega
     rw[ht,Sa hlen]
     have fz4:=e4.fzL h3p
     exact PrsK.snoc (kv:=(Sum.inr z,V.ref b)) (fz4.seq (SqT.of h3)) (PrsK.fz ((e2.fz.trans e3.fz).trans fz4) hpr)
 obtain⟨e1,as,hal,had,haf,hpr⟩:=hP
 rw[List.length_map] at hal
 rw[List.length_map,List.take_length] at hpr
 walk_at "rd"
 refine ao7 ha hpr (by unfold J8;rw[List.length_map,List.length_zip];omega) fun r H2 hr2 e2 h2=>?_
 rw[Qh _ _ (Rv hn) (fun _ _ _ h=>by cases h),List.nil_append] at h2
 have hr0:H r=none:=e1.free hr2
 have hra:r∉as:=fun hm=>by
  have:=(haf r hm).1
  rw[hr2] at this
  cases this
 have hT0:Tab H2 r ns as (fun z y=>(z,y)∈ps.take 0):=⟨hal,had,hra,h2,fun i z a hz ha'=>⟨[],e2 _ _ (haf a (List.mem_of_getElem? ha')).1,by simp,fun _ h=>(by cases h),fun y=>by simp⟩⟩
 walk_at "rd"
 refine Up (hI.hf_fz (by walk_at "fz")) fun pv hP2=>?_
 refine a55 hP2 (fun i σ H3=>∃ x3,σ=[some v,some (.ref na),some (.ref r),x3,none,none]/\Same H H3/\Fz H2 H3/\Tab H3 r ns as (fun z y=>(z,y)∈ps.take i))
  ⟨none,rfl,by walk_at "sm",.refl _,hT0⟩ (fun i σ' H' hP=>hP.choose_spec.2.2.1) (fun i pr w σ' H3 hpr hIp hP=>?_) (fun σ' H3 hP=>?_)
 . obtain⟨x3,rfl,e3,fz3,hT⟩:=hP
   have hpm:=hW.mem pr (List.mem_of_getElem? hpr)
   obtain⟨j,a,hj,haj⟩:=hT.at hpm.1
   obtain⟨ks,hk1,hk2,hk3,hk4⟩:=hT.row j _ a hj haj
   have hkl:ks.length<=ns.length:=By hk2 hk3
   walk_at "rd"
   refine Wv hIp ?_
   refine Oo hT hn hj haj ?_
   walk_at "rd"
   refine Qm hIp ?_
   refine Gs hk1 (by rw[Rh];omega) fun H4 e4 h4=>?_
   rw[Ui] at h4
   walk_at "rd"
   have ha0:H a=none:=(haf a (List.mem_of_getElem? haj)).2
   refine⟨_,rfl,by walk_at "sm",fz3.trans (e4.fzD hk1),hT.put e4 hn hj haj h4 (Mh hk2) (fun y hy=>?_) (fun y=>?_) (fun z hz hzx y=>?_)⟩
   . rcases mem_addK.mp hy with hy | rfl
     . exact hk3 y hy
     exact hpm.2
   . rw[mem_addK,hk4,List.take_add_one,hpr,List.mem_append]
     constructor
     . rintro(h | rfl)
       . exact .inl h
       exact .inr (by simp)
     rintro(h | h)
     . exact .inl h
     right
     have:(pr.1,y)=pr:=by simpa using h
     rw[<- this]
   rw[List.take_add_one,hpr,List.mem_append]
   constructor
   . exact .inl
   rintro(h | h)
   . exact h
   have:(z,y)=pr:=by simpa using h
   exact absurd (by rw[<- this]) hzx
 obtain⟨x3,rfl,e3,fz3,hT⟩:=hP
 rw[List.take_length] at hT
 have hW0:War ns ps [] (fun z y=>(z,y)∈ps):=⟨fun z y h=>.one h,fun z y h=>h,fun m hm=>by cases hm⟩
 walk_at "rd"
 have hN3:Is K H3 (nmD ns) (.ref na):=hN.nm_fz e3.fz
 refine Ji hN3 (fun i σ H4=>∃ x4 x5 R,σ=[some v,some (.ref na),some (.ref r),x3,x4,x5]/\Same H H4/\Fz H3 H4/\Tab H4 r ns as R/\War ns ps (ns.take i) R)
  ⟨_,_,_,rfl,e3,.refl _,hT,hW0⟩ (fun i σ' H' hP=>?_) (fun i mid σ' H4 hmid hP=>?_) (fun σ' H4 hP=>?_)
 . obtain⟨_,_,_,_,_,fz,_⟩:=hP
   exact fz
 . obtain⟨x4,x5,R,rfl,e4,fz4,hT4,hR⟩:=hP
   obtain⟨jm,am,hjm,ham⟩:=hT4.at (List.mem_of_getElem? hmid)
   have hN4:Is K H4 (nmD ns) (.ref na):=hN3.nm_fz fz4
   walk_at "rd"
   refine Ji hN4 (fun j σ H5=>∃ x5,σ=[some v,some (.ref na),some (.ref r),x3,some (.str mid),x5]/\Same H H5/\Fz H4 H5/\Tab H5 r ns as (a63 R mid (ns.take j)))
    ⟨_,rfl,e4,.refl _,hT4.congr fun z _ y=>⟨.inl,fun h=>h.elim (fun q=>q) fun q=>absurd q.1 (by simp)⟩⟩ (fun i σ' H' hP=>hP.choose_spec.2.2.1) (fun j nm σ' H5 hnm hP=>?_) (fun σ' H5 hP=>?_)
   . obtain⟨x5',rfl,e5,fz5,hT5⟩:=hP
     obtain⟨jn,an,hjn,han⟩:=hT5.at (List.mem_of_getElem? hnm)
     obtain⟨ks,hk1,hk2,hk3,hk4⟩:=hT5.row jn nm an hjn han
     obtain⟨ms,hm1,hm2,hm3,hm4⟩:=hT5.row jm mid am hjm ham
     have hkl:ks.length<=ns.length:=By hk2 hk3
     have hml:ms.length<=ns.length:=By hm2 hm3
     have htj:ns.take (j+1)=ns.take j++[nm]:=by rw[List.take_add_one,hnm];rfl
     have hin:mid∈ks↔R nm mid:=(hk4 mid).trans ⟨fun h=>h.elim (fun q=>q) fun q=>q.2.1,.inl⟩
     have hmid2:∀ y,y∈ms↔R mid y:=fun y=>(hm4 y).trans ⟨fun h=>h.elim (fun q=>q) fun q=>q.2.2,.inl⟩
     have hother:∀ z∈ns,z≠nm->∀ y,a63 R mid (ns.take j) z y↔a63 R mid (ns.take (j+1)) z y:=fun z _ hz y=>by
      unfold a63
      rw[htj,List.mem_append,List.mem_singleton]
      simp[hz]
     walk_at "rd"
     refine Oo hT5 hn hjn han ?_
     refine Nf hk1 ?_
     walk_at "rd"
     refine G4 (fun hc=>?_) (fun hc=>?_)
     . have hRn:=hin.mp hc
       by_cases hne:nm=mid
       . subst hne
         have hji:jn=jm:=by
          obtain⟨p1,p2⟩:=List.getElem?_eq_some_iff.mp hjn
          obtain⟨q1,q2⟩:=List.getElem?_eq_some_iff.mp hjm
          exact(List.getElem_inj hn).mp (p2.trans q2.symm)
         subst hji
         rw[han] at ham
         cases ham
         walk_at "rd"
         refine Oo hT5 hn hjn han ?_
         refine ac4 hk1 ?_
         walk_at "rd"
         refine Oo hT5 hn hjn han ?_
         walk_at "rd"
         refine ai9 hk1 ?_
         walk_at "rd"
         refine⟨_,rfl,e5,fz5,hT5.congr fun z hz y=>?_⟩
         by_cases hzn:z=nm
         . subst hzn
           unfold a63
           constructor
           . exact fun h=>.inl (h.elim (fun q=>q) fun q=>q.2.2)
           exact fun h=>.inl (h.elim (fun q=>q) fun q=>q.2.2)
         exact hother z hz hzn y
       have hane:an≠am:=fun q=>by
        subst q
        obtain⟨p1,p2⟩:=List.getElem?_eq_some_iff.mp han
        obtain⟨q1,q2⟩:=List.getElem?_eq_some_iff.mp ham
        have:=(List.getElem_inj hT5.nd).mp (p2.trans q2.symm)
        subst this
        rw[hjn] at hjm
        exact hne (Option.some.inj hjm)
       walk_at "rd"
       refine Oo hT5 hn hjn han ?_
       refine ac4 hk1 ?_
       walk_at "rd"
       refine Oo hT5 hn hjm ham ?_
       walk_at "rd"
       refine al6 hk1 hm1 hane (by omega) fun H6 e6 h6=>?_
       walk_at "rd"
       have ha0:H an=none:=(haf an (List.mem_of_getElem? han)).2
       refine⟨_,rfl,by walk_at "sm",fz5.trans (e6.fzD hk1),hT5.put e6 hn hjn han h6 (Gp hk2) (fun y hy=>?_) (fun y=>?_) hother⟩
       . rcases mem_addAll.mp hy with hy | hy
         . exact hk3 y hy
         exact hm3 y hy
       rw[mem_addAll,hk4,hmid2]
       unfold a63
       rw[htj,List.mem_append,List.mem_singleton]
       constructor
       . rintro((h | h) | h)
         . exact .inl h
         . exact .inr ⟨.inl h.1,h.2⟩
         exact .inr ⟨.inr rfl,hRn,h⟩
       rintro(h | h)
       . exact .inl (.inl h)
       exact .inr h.2.2
     have hRn:¬ R nm mid:=fun q=>hc (hin.mpr q)
     walk_at "rd"
     refine⟨_,rfl,e5,fz5,hT5.congr fun z hz y=>?_⟩
     by_cases hzn:z=nm
     . subst hzn
       unfold a63
       constructor
       . exact fun h=>.inl (h.elim (fun q=>q) fun q=>absurd q.2.1 hRn)
       exact fun h=>.inl (h.elim (fun q=>q) fun q=>absurd q.2.1 hRn)
     exact hother z hz hzn y
   obtain⟨x5',rfl,e5,fz5,hT5⟩:=hP
   rw[List.take_length] at hT5
   refine⟨_,_,_,rfl,e5,fz4.trans fz5,hT5.congr (R':=fun z y=>R z y\/(R z mid/\R mid y)) fun z hz y=>?_,?_⟩
   . unfold a63
     simp[hz]
   have htj:ns.take (i+1)=ns.take i++[mid]:=by rw[List.take_add_one,hmid];rfl
   rw[htj]
   exact hR.step
 obtain⟨x4,x5,R,rfl,e4,fz4,hT4,hR⟩:=hP
 rw[List.take_length] at hR
 walk_at "rd"
 exact k r as H4 hr0 (fun a ha'=>(haf a ha').2) e4 (hT4.congr fun z _ y=>hR.done hW.mem z y)
def WyT (K:PySem.W.Frag)(H:Hp)(ps:List (Str×Str))(x:Str)(ks:List Str)(ts:List Addr):Prop:=ts.length=ks.length/\∀(i:Nat) (z:Str) (t:Addr),ks[i]? = some z->ts[i]? = some t->∃ js os,Is K H (jsD js) (.ref t)/\js.length<=1000/\Trl ps x js z os/\∀ o∈os,o∈ks
theorem WyT.fz {K:PySem.W.Frag}{H H':Hp}{ps:List (Str×Str)}{x:Str}{ks:List Str}{ts:List Addr}(h:WyT K H ps x ks ts)(e:Fz H H'):WyT K H' ps x ks ts:=
 ⟨h.1,fun i z t hz ht=>let ⟨js,os,h1,h2⟩:=h.2 i z t hz ht;⟨js,os,Is.fz e _ _ (a66 js) h1,h2⟩⟩
theorem WyT.snoc {K:PySem.W.Frag}{H:Hp}{ps:List (Str×Str)}{x:Str}{ks:List Str}{ts:List Addr}(h:WyT K H ps x ks ts){z:Str}{t:Addr}{js:List Nat}{os:List Str}(h1:Is K H (jsD js) (.ref t))(h2:js.length<=1000)(h3:Trl ps x js z os)(h4:∀ o∈os,o∈ks):WyT K H ps x (ks++[z]) (ts++[t]):=by
 refine⟨by simp[h.1],fun i y u hy hu=>?_⟩
 by_cases hi:i<ks.length
 . rw[List.getElem?_append_left hi] at hy
   rw[List.getElem?_append_left (by rw[h.1];exact hi)] at hu
   obtain⟨js',os',g1,g2,g3,g4⟩:=h.2 i y u hy hu
   exact⟨js',os',g1,g2,g3,fun o ho=>List.mem_append_left _ (g4 o ho)⟩
 have hi':i=ks.length:=by
  have:=(List.getElem?_eq_some_iff.mp hy).1
  rw[List.length_append,List.length_singleton] at this
  omega
 subst hi'
 have e1:y=z:=by simpa using hy.symm
 have e2:u=t:=by
  rw[<- h.1] at hu
  simpa using hu.symm
 subst e1 e2
 exact⟨js,os,h1,h2,h3,fun o ho=>List.mem_append_left _ (h4 o ho)⟩
def Ds (K:PySem.W.Frag):Sp:=fun vs H Q _=>∃ v x y ps,vs=[v,.str x,.str y]/\Is K H (psD ps) v/\ps.length<=100/\∀ u H',Same H H'->((u = .non/\¬ x=y/\¬ Way ps x y)\/∃ js os,Is K H' (jsD js) u/\js.length<=1000/\Trl ps x js y os)->Q u H'
theorem J9 {f:Addr}{fd:FuncData}(F:Fun K "way_by_sayings" "way_by_sayings" Be f fd)(T:Fa mg):FnOk P w K mg base CX0 1 f fd ["sayings","start","goal"] (Ds K):=by
 refine F.ok B5 (fun vs H Q E h=>?_) (fun cdv A outer s H vs Q E hr h=>?_)
 . obtain⟨v,x,y,ps,rfl,_⟩:=h
   rfl
 obtain⟨v,x,y,ps,rfl,hI,hl,k⟩:=h
 have hu:=Cg hr
 have hq:=Ch hr
 with_reducible refine⟨_,(A1 (Ai (i:=3) B5.nd (by ac_nf) (by eq_refl) (Op (Cj (pv 1) (Aw A2) Ol) (by ac_nf) (by ac_nf) (by decide) (by decide)))
  (A1 (Ai (i:=4) B5.nd (by ac_nf) (by eq_refl) (Dc (A0 (pv 1) A2)))
  (A1 (T7 PassesOwn.never (Ac ah3 (Ae (C1 (K:=K)) (by ac_nf) T.b_len PyProof.Rows.Boot.«len» (A0 (pv 4) A2)) A6 (Al _))
  (A1 (Ai (i:=5) B5.nd (by ac_nf) (by eq_refl) (Gb (K:=K) PySem.F.plainAttrs_list PySem.F.slot_list_pop PySem.F.type_list_pop (mm Yj) (pv 4) (A0 A6 A2)))
  (A4 (Eg PassesOwn.never (by ac_nf) (ab6 (K:=K) (by ac_nf) T.b_enumerate (A0 (pv 0) A2)) (Vh (K:=K) (n:=2) (by ac_nf) (Jx (Ap (i:=6) B5.nd (by ac_nf) (by eq_refl)) (Jx (Ap (i:=7) B5.nd (by ac_nf) (by eq_refl)) Wg)))
  (A4 (B4 (PW.pt (Na (Ac (Ba (K:=K) hq) (Ag (A5 (K:=K) hu) (pv 7) A6 (by ac_rfl)) (pv 5) (Al _)) (L0 (Ac (Ff (K:=K) hq) (Ag (A5 (K:=K) hu) (pv 7) A6 (by ac_rfl)) (pv 3) (by ac_nf))))) (A1 (Ed hu (pv 3) (Ag (A5 (K:=K) hu) (pv 7) A6 (by ac_rfl)) (Av (At (K:=K)) (Ag (A5 (K:=K) hu) (pv 3) (pv 5) (by ac_rfl)) (Aw (A0 (pv 6) A2))) (by ac_nf))
  (A4 (Cl (Gb (K:=K) PySem.F.plainAttrs_list PySem.F.slot_list_append PySem.F.type_list_append (mm C2) (pv 4) (A0 (Ag (A5 (K:=K) hu) (pv 7) A6 (by ac_rfl)) A2))))) Ah))))))
  (A4 (Ak (Zg hu (pv 3) (pv 2) (by with_unfolding_all exact⟨rfl,rfl,rfl,rfl⟩))))))),?_⟩
 walk_at "rd"
 refine Sm fun r H1 hr1 e1 h1=>?_
 walk_at "rd"
 refine Au (by decide) fun t0 H2 ht2 e2 h2=>?_
 walk_at "rd"
 refine Nt [(Sum.inr x,.ref t0)] (by walk_at "lk") (by rfl) (by simp) fun H3 e3 h3=>?_
 have h3':H3 r=some (.dK (J8 [x] [t0])):=h3
 walk_at "rd"
 refine De (A9 (by simp)) fun q H4 hq4 e4 h4=>?_
 have h2r:H2 r=some (.dK []):=e2 _ _ h1
 have ht03:H3 t0=some (.tup []):=e3 _ _ (ne_of h2 h2r (by intro z;cases z)) h2
 have hrq:r≠q:=ne_of_none h3' hq4
 have e04:Same H H4:=by walk_at "sm"
 have hq0:H q=none:=Same.free (by walk_at "sm":Same H H3) hq4
 have hW0:WyT K H4 ps x [x] [t0]:=⟨rfl,fun i z t hz ht=>by
  have hi:i=0:=by
   have:=(List.getElem?_eq_some_iff.mp hz).1
   simpa using this
  subst hi
  have e1:z=x:=by simpa using hz.symm
  have e2:t=t0:=by simpa using ht.symm
  subst e1 e2
  exact⟨[],[],Is.of_tup (SqT.of (e4 _ _ ht03)) .nil,by decide,Trl.nil ps _,fun _ h=>by cases h⟩⟩
 walk_at "rd"
 refine X3 (fun m σ H5=>∃ ks ws ts x5 x6 x7,σ=[some v,some (.str x),some (.str y),some (.ref r),some (.ref q),x5,x6,x7]/\Same H H5/\H5 r=some (.dK (J8 ks ts))/\H5 q=some (.lst (ws.map V.str))/\WyT K H5 ps x ks ts/\WyI ps x ks ws/\m=2*(ps.length+1-ks.length)+ws.length)
  (2*(ps.length+1-[x].length)+[x].length) ⟨[x],[x],[t0],_,_,_,rfl,e04,e4 _ _ h3',h4,hW0,⟨by simp,by simp,fun y hy=>.inl (by simpa using hy),fun z hz=>hz,fun z hz hn=>absurd hz hn,by simp⟩,rfl⟩ fun m σ H5 hP=>?_
 obtain⟨ks,ws,ts,x5,x6,x7,rfl,e5,h5r,h5q,hT5,hB,rfl⟩:=hP
 walk_at "rd"
 refine G4 (fun hE=>?_) (fun hE=>?_)
 . cases ws with
   | nil=>simp at hE
   | cons here ws=>
   refine a52 ?_
   walk_at "rd"
   refine Yg (y:=.str here) h5q (by decide) (by rfl) (fun H6 e6 h6q=>?_) (by have:=hB.le;have:=hB.few;rw[List.length_map];omega)
   have h6q':H6 q=some (.lst (ws.map V.str)):=h6q
   have h6r:H6 r=some (.dK (J8 ks ts)):=e6 _ _ hrq h5r
   have fz6:Fz H5 H6:=e6.fzL h5q
   have e06:Same H H6:=by walk_at "sm"
   have hle:=hB.le
   have hfew:=hB.few
   rw[List.length_cons] at hfew
   walk_at "rd"
   refine ad0 (hI.ps_fz e06.fz) (fun i σ H7=>∃ gs ms us x6 x7,σ=[some v,some (.str x),some (.str y),some (.ref r),some (.ref q),some (.str here),x6,x7]/\Same H H7/\Fz H6 H7/\H7 r=some (.dK (J8 gs us))/\H7 q=some (.lst (ms.map V.str))/\WyT K H7 ps x gs us/\WyJ ps x here ks ws gs ms i)
    ⟨ks,ws,ts,_,_,rfl,e06,.refl _,h6r,h6q',hT5.fz fz6,⟨hB.nd,hB.way,fun z hz=>hB.line z (List.mem_cons_of_mem _ hz),fun _ h=>h,fun _ h=>h,fun _ h=>.inl h,fun j hj=>absurd hj (Nat.not_lt_zero _),rfl⟩⟩ (fun i σ' H' hP=>?_) (fun i pr w σ' H7 H8 hpr hIp hP e8=>?_) (fun σ' H7 hP=>?_)
   . obtain⟨_,_,_,_,_,_,_,fz,_⟩:=hP
     exact fz
   . obtain⟨gs,ms,us,x6',x7',rfl,e7,fz7,h7r,h7q,hT7,hJ⟩:=hP
     have hgl:=hJ.le
     have hml:=hJ.len
     have h8r:=e8 _ _ h7r
     have h8q:=e8 _ _ h7q
     have hT8:=hT7.fz e8.fz
     have hhere:here∈gs:=hJ.keep here (hB.line here List.mem_cons_self)
     walk_at "rd"
     refine Wv hIp ?_
     walk_at "rd"
     refine G4 (fun h1=>?_) (fun h1=>?_)
     . have h1':pr.1=here:=by injection h1
       walk_at "rd"
       refine Qm hIp ?_
       walk_at "rd"
       refine Zk h8r hT8.1 ?_
       walk_at "rd"
       refine W8 (fun h2=>?_) (fun h2=>?_)
       . obtain⟨ih,hih,eih⟩:=List.getElem_of_mem hhere
         have gih:gs[ih]? = some here:=by rw[List.getElem?_eq_getElem hih,eih]
         obtain⟨th,gth⟩:∃ th,us[ih]? = some th:=⟨us[ih]'(by rw[hT8.1];exact hih),List.getElem?_eq_getElem _⟩
         obtain⟨js,os,hj1,hj2,hj3,hj4⟩:=hT8.2 ih here th gih gth
         obtain⟨at',xs',hat,hS8,hL8⟩:=Is.tup hj1
         cases hat
         have hlen8:xs'.length=js.length:=by rw[<- IsL.length hL8,List.length_map]
         have hosn:=hj3.nd
         have hjl:js.length<=ps.length+1:=by
          have:=By (List.nodup_append.mp hosn).1 (ys:=gs) hj4
          rw[hj3.len] at this
          omega
         walk_at "rd"
         refine i_ixD h8r (K9 hJ.nd gih gth) ?_
         walk_at "rd"
         refine Au (A9 (by simp)) fun t9 H9 ht9 e9 h9=>?_
         refine a49 (e9.seqT hS8) (SqT.of h9) (A9 (by simp;omega)) fun t10 H10 e10 h10=>?_
         have hI10:Is K H10 (jsD (js++[i])) (.ref t10):=by
          unfold jsD
          rw[List.map_append]
          exact Is.of_tup h10 ((IsL.mono e10 _ _ (IsL.mono e9 _ _ hL8)).append (.one Hl))
         walk_at "rd"
         refine Qm ((hIp.pr_fz e9.fz).pr_fz e10.fz) ?_
         have h10r:=e10 _ _ (e9 _ _ h8r)
         have h10q:=e10 _ _ (e9 _ _ h8q)
         refine Gs h10r (by unfold J8;rw[List.length_map,List.length_zip];omega) fun H11 e11 h11r=>?_
         rw[a95 h2 hT8.1.symm] at h11r
         have fz11:Fz H10 H11:=e11.fzD h10r
         have h11q:=e11 _ _ (Ne.symm hrq) h10q
         walk_at "rd"
         refine Qm (((hIp.pr_fz e9.fz).pr_fz e10.fz).pr_fz fz11) ?_
         walk_at "rd"
         refine Iq h11q (by rw[List.length_map];omega) fun H12 e12 h12q=>?_
         walk_at "rd"
         have fz12:Fz H11 H12:=e12.fzL h11q
         have hT12:WyT K H12 ps x (gs++[pr.2]) (us++[t10]):=WyT.snoc (hT8.fz (((e9.fz.trans e10.fz).trans fz11).trans fz12)) (Is.fz (fz11.trans fz12) _ _ (a66 _) hI10) (by simp;omega) (hj3.snoc (by rw[<- h1'];exact hpr) (fun hm=>by
          rcases List.mem_append.mp hm with hm | hm
          . exact h2 (hj4 _ hm)
          . have:pr.2=here:=by simpa using hm
            exact h2 (this ▸ hhere))) (fun o ho=>by
          rcases List.mem_append.mp ho with ho | ho
          . exact hj4 o ho
          have:o=here:=by simpa using ho
          exact this ▸ hhere)
         refine⟨gs++[pr.2],ms++[pr.2],us++[t10],_,_,rfl,by walk_at "sm",(((fz7.trans e8.fz).trans (e9.fz.trans e10.fz)).trans fz11).trans fz12,e12 _ _ hrq h11r,?_,hT12,hJ.step hhere hpr h1' h2⟩
         rw[h12q,List.map_append]
         rfl
       exact⟨gs,ms,us,_,_,rfl,by walk_at "sm",fz7.trans e8.fz,h8r,h8q,hT8,hJ.skip hpr fun _=>h2⟩
     exact⟨gs,ms,us,_,_,rfl,by walk_at "sm",fz7.trans e8.fz,h8r,h8q,hT8,hJ.skip hpr fun e=>absurd (by rw[e]) h1⟩
   obtain⟨gs,ms,us,x6',x7',rfl,e7,fz7,h7r,h7q,hT7,hJ⟩:=hP
   have hgl:=hJ.le
   have hml:=hJ.len
   have hge:=By hB.nd hJ.keep
   refine⟨_,?_,gs,ms,us,_,_,_,rfl,e7,h7r,h7q,hT7,WyJ.done hB hJ,rfl⟩
   rw[List.length_cons]
   omega
 have hn:ws=[]:=by
  cases ws with
  | nil=>rfl
  | cons _ _=>simp at hE
 subst hn
 walk_at "rd"
 refine ao9 h5r ?_
 walk_at "rd"
 refine ao1 h5r ?_
 by_cases hy:y∈ks
 . obtain⟨iy,hiy,eiy⟩:=List.getElem_of_mem hy
   have giy:ks[iy]? = some y:=by rw[List.getElem?_eq_getElem hiy,eiy]
   obtain⟨ty,gty⟩:∃ ty,ts[iy]? = some ty:=⟨ts[iy]'(by rw[hT5.1];exact hiy),List.getElem?_eq_getElem _⟩
   obtain⟨js,os,hj1,hj2,hj3,hj4⟩:=hT5.2 iy y ty giy gty
   rw[K9 hB.nd giy gty]
   exact k _ H5 e5 (.inr ⟨js,os,hj1,hj2,hj3⟩)
 rw[G0 hy]
 exact k _ H5 e5 (.inl ⟨rfl,fun e=>hy (e ▸ hB.has),fun g=>hy (hB.all g)⟩)
def az:Str:="abcdefghijklmnopqrstuvwxyz"
def Zj (c:Nat):Bool:=!(Builtin.Str.occurrences az ⟨#[c]⟩ 0 az.length 1).isEmpty
def Ia (x:Str):Bool:=decide (1<=x.length)&&decide (x.length<=8)&&x.cps.toList.all Zj
def ar9 (K:PySem.W.Frag)(H:Hp)(v:V):Prop:=∃ t,TyOf K H v t/\PySem.W.kitOne K t (.type "str")=some false
def Iu (K:PySem.W.Frag):Sp:=fun vs H Q _=>∃ v,vs=[v]/\((∃ x,v = .str x/\x.length<=1000000/\∀ H',Same H H'->Q (.bl (Ia x)) H')\/(ar9 K H v/\Q (.bl false) H))
theorem Tn {f:Addr}{fd:FuncData}(F:Fun K "is_name" "is_name" Fy f fd)(T:Fa mg):FnOk P w K mg base CX0 1 f fd ["thing"] (Iu K):=by
 refine F.ok Tz (fun vs H Q E h=>?_) (fun cdv A outer s H vs Q E hr h=>?_)
 . obtain⟨v,rfl,_⟩:=h
   rfl
 obtain⟨v,rfl,h⟩:=h
 have hu:=Cg hr
 have hq:=Ch hr
 with_reducible refine⟨_,(A1 (B4 (Fs (Db (Ae (Cp (K:=K)) (by ac_nf) T.b_isinstance PyProof.Rows.Boot.«isinstance» (A0 (pv 0) (A0 (G9 (v:=.ty "str") (by ac_nf) T.b_str PyProof.Rows.Boot.«str» (by ac_nf)) A2))))) (A4 (Ak Fg)) Ah)
  (A1 (B4 (PW.pt (Qt (Ac ag2 (Ae (C1 (K:=K)) (by ac_nf) T.b_len PyProof.Rows.Boot.«len» (A0 (pv 0) A2)) A6 (Al _)) (Ks (Ac ah3 (Ae (C1 (K:=K)) (by ac_nf) T.b_len PyProof.Rows.Boot.«len» (A0 (pv 0) A2)) (Gf (by ac_nf) T.g_MOST_SIGNS) (Al _))))) (A4 (Ak Fg)) Ah)
  (A4 (Ak (Ae (Qx (K:=K) (by ac_nf)) (by ac_nf) T.b_all PyProof.Rows.Boot.«all» (A0 (Do ["sign"] [] [] (by ac_nf) (by ac_nf) (by ac_nf) (Ax (K:=K) hu (pv 0)) (fun _ _ _ _=>(Ap (i:=0) (by with_unfolding_all (show(["sign"]:List Str).Nodup;decide +kernel)) (by ac_nf) (by eq_refl))) (Ce (by decide)) (fun _ _ _ _=>Ex) (fun _ _ _ _=>(Cm (Jm (K:=K) hq) (pv 0) (Gf (by ac_nf) T.g_SMALL_LETTERS) (by ac_nf)))) A2)))))),?_⟩
 walk_at "rd"
 rcases h with ⟨x,rfl,hx,k⟩ | ⟨⟨t,ht,hk⟩,k⟩
 . refine Ym (TyOf.str x) (b:=true) (by rfl) ?_
   walk_at "rd"
   refine G4 (fun h1=>?_) (fun h1=>?_)
   . walk_at "rd"
     have e:Ia x=false:=by
      unfold Ia
      rw[decide_eq_false (by omega:¬ 1<=x.length)]
      rfl
     have:=k H (Same.refl H)
     rw[e] at this
     exact this
   walk_at "rd"
   refine G4 (fun h2=>?_) (fun h2=>?_)
   . walk_at "rd"
     have e:Ia x=false:=by
      unfold Ia
      rw[decide_eq_false (by omega:¬ x.length<=8),Bool.and_false]
      rfl
     have:=k H (Same.refl H)
     rw[e] at this
     exact this
   walk_at "rd"
   refine K5 (Zh x) (fun v=>.bl (match v with | .str z=>!(Builtin.Str.occurrences az z 0 az.length 1).isEmpty | _=>false)) (by rw[List.length_map,Array.length_toList];exact hx) (fun _ _=>trivial) (fun i v H1 R hv e hR=>?_) fun p H' hp e h=>?_
   . obtain⟨c,rfl,_⟩:=a76 hv
     walk_at "rd"
     exact hR
   walk_at "rd"
   have e1:(x.cps.toList.map fun c=>V.str ⟨#[c]⟩).map (fun v=>V.bl (match v with | .str z=>!(Builtin.Str.occurrences az z 0 az.length 1).isEmpty | _=>false))=(x.cps.toList.map Zj).map V.bl:=by
    rw[List.map_map,List.map_map]
    rfl
   rw[e1] at h
   refine aj5 (SqL.of h) ?_
   have e2:Ia x=(x.cps.toList.map Zj).all id:=by
    unfold Ia
    rw[decide_eq_true (by omega:1<=x.length),decide_eq_true (by omega:x.length<=8),List.all_map]
    rfl
   have:=k H' e
   rw[e2] at this
   exact this
 refine Ym ht hk ?_
 walk_at "rd"
 exact k
theorem Zp:∀ c<123,97<=c->Zj c=true:=by decide +kernel
theorem X2 {z:Str}(h:Sj z=true):Ia z=true:=by
 unfold Sj at h
 unfold Ia
 rw[Bool.and_eq_true] at h ⊢
 refine⟨h.1,?_⟩
 rw[List.all_eq_true]
 intro c hc
 have:=List.all_eq_true.mp h.2 c hc
 unfold Jl at this
 simp only[Bool.and_eq_true,decide_eq_true_eq] at this
 exact Zp c (by omega) (by omega)
def Bn (K:PySem.W.Frag):Sp:=fun vs H Q _=>∃ v ns,vs=[v]/\Is K H (nmD ns) v/\Names ns/\ns.length<=10/\∀ H',Same H H'->Q (.bl true) H'
theorem Ht {f:Addr}{fd:FuncData}(F:Fun K "are_unlike_names" "are_unlike_names" Az f fd)(T:Fa mg)(c_is_name:Fnd P w K mg base 1 "is_name" ["thing"] (Iu K)):FnOk P w K mg base CX0 2 f fd ["thing"] (Bn K):=by
 refine F.ok Hq (fun vs H Q E h=>?_) (fun cdv A outer s H vs Q E hr h=>?_)
 . obtain⟨v,ns,rfl,_⟩:=h
   rfl
 obtain⟨v,ns,rfl,hI,hN,hz,k⟩:=h
 have hu:=Cg hr
 have hq:=Ch hr
 obtain⟨a,rfl,hS⟩:=hI.nm
 with_reducible refine⟨_,(A1 (B4 (Fs (Db (Ae (Cp (K:=K)) (by ac_nf) T.b_isinstance PyProof.Rows.Boot.«isinstance» (A0 (pv 0) (A0 (G9 (v:=.ty "tuple") (by ac_nf) T.b_tuple PyProof.Rows.Boot.«tuple» (by ac_nf)) A2))))) (A4 (Ak Fg)) Ah)
  (A1 (B4 (Fs (Db (Ae (Qx (K:=K) (by ac_nf)) (by ac_nf) T.b_all PyProof.Rows.Boot.«all» (A0 (Do ["name"] [] [] (by ac_nf) (by ac_nf) (by ac_nf) (Ax (K:=K) hu (pv 0)) (fun _ _ _ _=>(Ap (i:=0) (by with_unfolding_all (show(["name"]:List Str).Nodup;decide +kernel)) (by ac_nf) (by eq_refl))) (Ce (by decide)) (fun _ _ _ _=>Ex) (fun _ _ _ _=>(Bi c_is_name (hr.mono (by decide)) (by ac_nf) (A0 (pv 0) A2)))) A2)))) (A4 (Ak Fg)) Ah)
  (A4 (Ak (Cm (Ba (K:=K) hq) (Xu (K:=K) hr.hd (by ac_nf) T.b_len (by ac_nf) T.b_set (A0 (pv 0) A2)) (Ae (C1 (K:=K)) (by ac_nf) T.b_len PyProof.Rows.Boot.«len» (A0 (pv 0) A2)) (Al _)))))),?_⟩
 walk_at "rd"
 refine X0 hS (b:=true) (by first | rfl | kernel_rfl) ?_
 walk_at "rd"
 refine Kf hS ?_
 refine Y3 (K:=K) (Da (xs:=ns.map V.str)) ns (by simp) (fun _=>true) (by rw[List.length_map];omega) (fun H' e=>e.seqT hS) (fun m z xv H1 R hz' hxv e1 hR=>?_) (fun q H1 hq1 e1 h1=>?_)
 . rw[List.getElem?_map,hz'] at hxv
   cases hxv
   have hnm:=hN.2 z (List.mem_of_getElem? hz')
   walk_at "rd"
   refine⟨.str z,rfl,.inl ⟨z,rfl,by have:=ae7 hnm;omega,fun H2 e2=>?_⟩⟩
   rw[X2 hnm]
   exact hR H2 e2
 walk_at "rd"
 refine aj5 h1 ?_
 rw[show(ns.map fun _=>true).all id=true by rw[List.all_map];simp]
 walk_at "rd"
 refine Y8 (e1.seqT hS) (by omega) ?_
 walk_at "rd"
 refine Zz (hI.nm_fz e1.fz) ?_
 rw[Vr hN.1]
 walk_at "rd"
 simp only[decide_true]
 exact k H1 e1
def Dp (K:PySem.W.Frag):Sp:=Bn K
theorem J6 {f:Addr}{fd:FuncData}(F:Fun K "are_tale_names" "are_tale_names" Bd f fd)(T:Fa mg)(c_are_unlike_names:Fnd P w K mg base 2 "are_unlike_names" ["thing"] (Bn K)):FnOk P w K mg base CX0 3 f fd ["thing"] (Dp K):=by
 refine F.ok Ix (fun vs H Q E h=>?_) (fun cdv A outer s H vs Q E hr h=>?_)
 . obtain⟨v,ns,rfl,_⟩:=h
   rfl
 obtain⟨v,ns,rfl,hI,hN,hz,k⟩:=h
 have hu:=Cg hr
 have hq:=Ch hr
 with_reducible refine⟨_,(A4 (Ak (Mm (Bi c_are_unlike_names (hr.mono (by decide)) (by ac_nf) (A0 (pv 0) A2)) (Qa (Cm aq9 (Ae (C1 (K:=K)) (by ac_nf) T.b_len PyProof.Rows.Boot.«len» (A0 (pv 0) A2)) (Gf (by ac_nf) T.g_MOST_NAMES) (Al _)))))),?_⟩
 walk_at "rd"
 refine⟨v,ns,rfl,hI,hN,hz,fun H1 e1=>?_⟩
 walk_at "rd"
 refine Zz (hI.nm_fz e1.fz) ?_
 walk_at "rd"
 rw[decide_eq_true (by omega)]
 exact k H1 e1
def Iw (K:PySem.W.Frag):Sp:=fun vs H Q _=>∃ v ns,vs=[v]/\Is K H (nmD ns) v/\ns.Nodup/\ns.length<=10/\∀ d H',H d=none->Same H H'->H' d=some (.dK (ad7 ns))->Q (.ref d) H'
def G5 (K:PySem.W.Frag):Sp:=fun vs H Q _=>∃ v bd ns ps,vs=[v,.ref bd]/\Is K H (hfD ns ps) v/\Nc ns ps/\ns.length<=10/\H bd=some (.dK (ad7 ns))/\∀ d H',H d=none->Same H H'->H' d=some (.dK (ahK ns ps))->Q (.ref d) H'
def Gm (C:Addr)(K:PySem.W.Frag):Sp:=fun vs H Q _=>∃ p v dx ns ps,vs=[.ref p,v]/\H p=some (.ins C dx [])/\Is K H (hfD ns ps) v/\Nc ns ps/\ns.length<=10 /\
 ∀ nv bd ad kd kvs H',H kd=none->ExtBut p H H'->WaysAt K C H' p dx nv bd ad kd ns ps kvs->Q .non H'
def C0 (C:Addr)(K:PySem.W.Frag):Sp:=fun vs H Q _=>∃ p dx nv bd ad kd ns ps kvs q,vs=[.ref p,.int ((Du ns q:Nat):Int)]/\WaysAt K C H p dx nv bd ad kd ns ps kvs/\Nc ns ps/\ns.length<=10 /\
 ∀ l H',H l=none->Same H H'->H' l=some (.lst ((frF (Hv ps) (ns.filter q)).map V.str))->Q (.ref l) H'
def Bp (C:Addr)(K:PySem.W.Frag)(n:Nat):Sp:=fun vs H Q _=>∃ p dx nv bd ad kd ns ps kvs q,vs=[.ref p,.int ((Du ns q:Nat):Int)]/\WaysAt K C H p dx nv bd ad kd ns ps kvs/\Nc ns ps/\ns.length<=10/\(ns.filter q).length<n /\
 ∀ kvs' H',ExtBut kd H H'->WaysAt K C H' p dx nv bd ad kd ns ps kvs'->Q (.int ((cnt (Hv ps) (ns.filter q):Nat):Int)) H'
def Fb (C:Addr)(K:PySem.W.Frag):Sp:=Bp C K 11
theorem Gv {C:Addr}{K:PySem.W.Frag}:∀ vs H Q E,¬ Bp C K 0 vs H Q E:=by
 rintro vs H Q E ⟨_,_,_,_,_,_,_,_,_,_,_,_,_,_,h,_⟩
 exact absurd h (Nat.not_lt_zero _)
def Nx (K:PySem.W.Frag):Sp:=fun vs H Q _=>∃ v ns ps,vs=[v]/\Is K H (hfD ns ps) v/\Nc ns ps/\ns.length<=10/\∀ H',Same H H'->Q (.int ((cnt (Hv ps) ns:Nat):Int)) H'
theorem a60 {ns:List Str}(hn:ns.Nodup)(h:ns.length<=10){x:Str}(hx:x∈ns):Ei ns x<=1024:=by
 obtain⟨j,hj⟩:=List.mem_iff_getElem?.mp hx
 rw[Ki hn hj]
 exact(Nat.pow_le_pow_right (by decide) (by have:=(List.getElem?_eq_some_iff.mp hj).1;omega):2 ^ j<=2 ^ 10)
theorem Fp {f g:Str}{v x:V}{r:List (Str×V)}(h:¬ g=f):Jg f v ((g,x) :: r)=(g,x) :: Jg f v r:=by
 show(if g=f then _ else _)=_
 rw[if_neg h]
theorem fld2 (a b:V):Jg "bits" b [("names",a)]=([("names",a),("bits",b)]:List (Str×V)):=by
 rw[Fp (by decide +kernel)]
 rfl
theorem fld3 (a b c:V):Jg "ahead" c [("names",a),("bits",b)]=([("names",a),("bits",b),("ahead",c)]:List (Str×V)):=by
 rw[Fp (by decide +kernel),Fp (by decide +kernel)]
 rfl
theorem fld4 (a b c d:V):Jg "full" d [("names",a),("bits",b),("ahead",c)]=([("names",a),("bits",b),("ahead",c),("full",d)]:List (Str×V)):=by
 rw[Fp (by decide +kernel),Fp (by decide +kernel),Fp (by decide +kernel)]
 rfl
theorem fld5 (a b c d e:V):Jg "known" e [("names",a),("bits",b),("ahead",c),("full",d)]=([("names",a),("bits",b),("ahead",c),("full",d),("known",e)]:List (Str×V)):=by
 rw[Fp (by decide +kernel),Fp (by decide +kernel),Fp (by decide +kernel),Fp (by decide +kernel)]
 rfl
theorem Th {f:Addr}{fd:FuncData}(F:Fun K "bits_of" "bits_of" Fv f fd)(T:Fa mg):FnOk P w K mg base CX0 1 f fd ["names"] (Iw K):=by
 refine F.ok Fr (fun vs H Q E h=>?_) (fun cdv A outer s H vs Q E hr h=>?_)
 . obtain⟨v,ns,rfl,_⟩:=h
   rfl
 obtain⟨v,ns,rfl,hI,hn,h10,k⟩:=h
 have hu:=Cg hr
 have hq:=Ch hr
 with_reducible refine⟨_,(A1 (Ai (i:=1) Fr.nd (by ac_nf) (by eq_refl) K0)
  (A1 (Ai (i:=2) Fr.nd (by ac_nf) (by eq_refl) A6)
  (A1 (Eg PassesOwn.never (by ac_nf) (Ax (K:=K) hu (pv 0)) (Ap (i:=3) Fr.nd (by ac_nf) (by eq_refl))
  (A1 (Ed hu (pv 1) (pv 3) (pv 2) (by ac_nf))
  (A4 (Ai (i:=2) Fr.nd (by ac_nf) (by eq_refl) (Av Ga (pv 2) A6)))))
  (A4 (Ak (pv 1)))))),?_⟩
 walk_at "rd"
 refine T8 fun d H1 hd1 e1 h1=>?_
 walk_at "rd"
 refine Ji (hI.nm_fz e1.fz) (fun i σ H2=>∃ x3,σ=[some v,some (.ref d),some (.int ((2 ^ i:Nat):Int)),x3]/\Same H H2/\Fz H1 H2/\H2 d=some (.dK ((ns.take i).map fun x=>((Sum.inr x:Key),V.int ((Ei ns x:Nat):Int)))))
  ⟨_,rfl,e1,.refl _,h1⟩ (fun i σ' H' hP=>hP.choose_spec.2.2.1) (fun i z σ' H2 hz hP=>?_) (fun σ' H2 hP=>?_)
 . obtain⟨x3,rfl,e2,fz2,h2⟩:=hP
   have hin:i<ns.length:=(List.getElem?_eq_some_iff.mp hz).1
   have hlt:2 ^ i<=2 ^ 10:=Nat.pow_le_pow_right (by decide) (by omega)
   have hno:z∉ns.take i:=fun hm=>by
    obtain⟨j,hj⟩:=List.mem_iff_getElem?.mp hm
    rw[List.getElem?_take] at hj
    split at hj
    . rename_i hji
      have a1:=List.getElem?_eq_some_iff.mp hj
      have a2:=List.getElem?_eq_some_iff.mp hz
      have:=(List.getElem_inj hn).mp (a1.2.trans a2.2.symm)
      omega
    cases hj
   walk_at "rd"
   refine Gs h2 (by rw[List.length_map,List.length_take];omega) fun H3 e3 h3=>?_
   rw[Ie _ (Gq hno)] at h3
   walk_at "rd"
   refine⟨some (.str z),?_,e2.off hd1 e3,fz2.trans (e3.fzD h2),?_⟩
   . have:((2 ^ i:Nat):Int)*2=((2 ^ (i+1):Nat):Int):=by rw[Nat.pow_succ];omega
     rw[this]
     rfl
   rw[h3,List.take_add_one,hz]
   have:((2 ^ i:Nat):Int)=((Ei ns z:Nat):Int):=by rw[Ki hn hz]
   rw[this]
   simp
 obtain⟨x3,rfl,e2,fz2,h2⟩:=hP
 rw[List.take_length] at h2
 walk_at "rd"
 exact k d H2 hd1 e2 h2
theorem Nv {f:Addr}{fd:FuncData}(F:Fun K "bits_ahead" "bits_ahead" Cu f fd)(T:Fa mg)(c_behind_each:Fnd P w K mg base 1 "behind_each" ["half"] (Dw K)):FnOk P w K mg base CX0 2 f fd ["half","bits"] (G5 K):=by
 refine F.ok Ek (fun vs H Q E h=>?_) (fun cdv A outer s H vs Q E hr h=>?_)
 . obtain⟨v,bd,ns,ps,rfl,_⟩:=h
   rfl
 obtain⟨v,bd,ns,ps,rfl,hI,hW,h10,hB,k⟩:=h
 have hu:=Cg hr
 have hq:=Ch hr
 have hn:=hW.nd
 with_reducible refine⟨_,(A1 (Ai (i:=2) Ek.nd (by ac_nf) (by with_unfolding_all exact Or.inr rfl) (Bi c_behind_each (hr.mono (by decide)) (by ac_nf) (A0 (pv 0) A2)))
  (A1 (Ai (i:=3) Ek.nd (by ac_nf) (by eq_refl) K0)
  (A1 (Eg PassesOwn.never (by ac_nf) (Ax (K:=K) hu (Ag (A5 (K:=K) hu) (pv 0) A6 (by ac_rfl))) (Ap (i:=4) Ek.nd (by ac_nf) (by with_unfolding_all exact Or.inr rfl))
  (A4 (Ed hu (pv 3) (pv 4) (Ae (Qp (K:=K) (by ac_nf)) (by ac_nf) T.b_sum PyProof.Rows.Boot.«sum» (A0 (Do ["one"] ["bits","name","reach"] [1,4,2] (by ac_nf) (by ac_nf) (by ac_nf) (Ax (K:=K) hu (Ag (A5 (K:=K) hu) (pv 0) A6 (by ac_rfl))) (fun _ _ _ _=>(Ap (i:=0) (by with_unfolding_all (show(["one","bits","name","reach"]:List Str).Nodup;decide +kernel)) (by ac_nf) (by eq_refl))) (Ce (by decide)) (fun _ _ _ _=>(Lb (Ac (Jm (K:=K) hq) (pv 2) (Ag (A5 (K:=K) hu) (pv 3) (pv 0) (by ac_rfl)) (by ac_nf)))) (fun _ _ _ _=>(Ag (A5 (K:=K) hu) (pv 1) (pv 0) (by ac_rfl)))) A2)) (by ac_nf))))
  (A4 (Ak (pv 3)))))),?_⟩
 walk_at "rd"
 refine⟨v,ns,ps,rfl,hI,hW,fun r as H1 hr1 ha1 e1 hT=>?_⟩
 walk_at "rd"
 refine T8 fun d H2 hd2 e2 h2=>?_
 walk_at "rd"
 have e12:=e1.trans e2
 refine Mz (hI.hf_fz e12.fz) fun nv hN=>?_
 refine Ji hN (fun i σ H3=>∃ x4,σ=[some v,some (.ref bd),some (.ref r),some (.ref d),x4]/\Same H1 H3/\Fz H2 H3/\H3 d=some (.dK ((ns.take i).map fun x=>((Sum.inr x:Key),V.int ((Du ns (fun y=>Hv ps y x):Nat):Int)))))
  ⟨_,rfl,e2,.refl _,h2⟩ (fun i σ' H' hP=>hP.choose_spec.2.2.1) (fun i z σ' H3 hz hP=>?_) (fun σ' H3 hP=>?_)
 . obtain⟨x4,rfl,e3,fz3,h3⟩:=hP
   have hin:i<ns.length:=(List.getElem?_eq_some_iff.mp hz).1
   have hno:z∉ns.take i:=fun hm=>by
    obtain⟨j,hj⟩:=List.mem_iff_getElem?.mp hm
    rw[List.getElem?_take] at hj
    split at hj
    . rename_i hji
      have a1:=List.getElem?_eq_some_iff.mp hj
      have a2:=List.getElem?_eq_some_iff.mp hz
      have:=(List.getElem_inj hn).mp (a1.2.trans a2.2.symm)
      omega
    cases hj
   walk_at "rd"
   refine Mz (hI.hf_fz (e12.fz.trans fz3)) fun nv3 hN3=>?_
   refine W0 hN3 (fun y=>Hv ps y z) (fun y=>PyData.int ((Ei ns y:Nat):Int)) (fun _=>rfl) (by omega) (fun j y H4 R R' hy e4 hR hR'=>?_) (fun q ys H4 hq4 e4 h4 hL4=>?_)
   . have hT4:=hT.same (e3.trans e4)
     obtain⟨jy,ay,hjy,hay⟩:=hT4.at (List.mem_of_getElem? hy)
     obtain⟨ks,hk1,hk2,hk3,hk4⟩:=hT4.row jy y ay hjy hay
     walk_at "rd"
     refine Oo hT4 hn hjy hay ?_
     refine Nf hk1 ?_
     rw[Oh (hk4 z)]
     walk_at "rd"
     refine ap9 (fun hb=>?_) (fun hb=>?_)
     . walk_at "rd"
       refine i_ixD (e4 _ _ (e3 _ _ (e1 _ _ hB))) (Lo (List.mem_of_getElem? hy)) ?_
       exact hR hb _ _ (.refl _) rfl
     exact hR' hb _ (.refl _)
   have hm:(ns.filter fun y=>Hv ps y z).map (fun y=>PyData.int ((Ei ns y:Nat):Int))=((ns.filter fun y=>Hv ps y z).map fun y=>((Ei ns y:Nat):Int)).map PyData.int:=by rw[List.map_map];rfl
   rw[hm] at hL4
   have hys:=IsL.int_eq hL4
   subst hys
   walk_at "rd"
   refine af6 (.inl (SqL.of h4)) (fun n hn'=>?_) (by rw[List.length_map];exact Nat.le_trans (List.length_filter_le _ _) (by omega)) ?_
   . obtain⟨y,hy,rfl⟩:=List.mem_map.mp hn'
     have hyn:=(List.mem_filter.mp hy).1
     have:=a60 hn h10 hyn
     omega
   rw[K6,K7 _ hn]
   walk_at "rd"
   have h4d:H4 d=some _:=e4 _ _ h3
   refine Gs h4d (by rw[List.length_map,List.length_take];omega) fun H5 e5 h5=>?_
   rw[Ie _ (Gq hno)] at h5
   walk_at "rd"
   refine⟨_,rfl,(e3.trans e4).off hd2 e5,(fz3.trans e4.fz).trans (e5.fzD h4d),?_⟩
   rw[h5,List.take_add_one,hz]
   simp
 obtain⟨x4,rfl,e3,fz3,h3⟩:=hP
 rw[List.take_length] at h3
 walk_at "rd"
 exact k d H3 (e1.free hd2) (e1.trans e3) h3
theorem Pq {f:Addr}{fd:FuncData}(F:Fun K "__init__" "Ways.__init__" Dq f fd)(T:Fa mg){C_Ways:Addr}(k_Ways:Hd K C_Ways)(c_bits_of:Fnd P w K mg base 1 "bits_of" ["names"] (Iw K))(c_bits_ahead:Fnd P w K mg base 2 "bits_ahead" ["half","bits"] (G5 K)):FnOk P w K mg base CX0 3 f fd ["self","half"] (Gm C_Ways K):=by
 refine F.ok Qr (fun vs H Q E h=>?_) (fun cdv A outer s H vs Q E hr h=>?_)
 . obtain⟨p,v,dx,ns,ps,rfl,_⟩:=h
   rfl
 obtain⟨p,v,dx,ns,ps,rfl,hp,hI,hW,h10,k⟩:=h
 have hu:=Cg hr
 have hq:=Ch hr
 have hn:=hW.nd
 with_reducible refine⟨_,(A1 (L5 (C:=C_Ways) (pv 0) (Ag (A5 (K:=K) hu) (pv 1) A6 (by ac_rfl)) k_Ways.cl k_Ways.n_names (by ac_nf))
  (A1 (L5 (C:=C_Ways) (pv 0) (Bi c_bits_of (hr.mono (by decide)) (by ac_nf) (A0 (Ag (A5 (K:=K) hu) (pv 1) A6 (by ac_rfl)) A2)) k_Ways.cl k_Ways.n_bits (by ac_nf))
  (A1 (L5 (C:=C_Ways) (pv 0) (Bi c_bits_ahead (hr.mono (by decide)) (by ac_nf) (A0 (pv 1) (A0 (G7 (C:=C_Ways) (pv 0) k_Ways.cl k_Ways.n_bits (by ac_nf)) A2))) k_Ways.cl k_Ways.n_ahead (by ac_nf))
  (A1 (L5 (C:=C_Ways) (pv 0) (Ae (Xk (by ac_nf)) (by ac_nf) T.b_sum PyProof.Rows.Boot.«sum» (A0 (W5 (K:=K) PySem.F.plainAttrs_dict PySem.F.slot_dict_values PySem.F.type_dict_values (mm Vn) (G7 (C:=C_Ways) (pv 0) k_Ways.cl k_Ways.n_bits (by ac_nf))) A2)) k_Ways.cl k_Ways.n_full (by ac_nf))
  (A4 (L5 (C:=C_Ways) (pv 0) (Op (Cj A6 A6 Ol) (by ac_nf) (by ac_nf) (by decide) (by decide)) k_Ways.cl k_Ways.n_known (by ac_nf))))))),?_⟩
 walk_at "rd"
 refine Mz hI fun nv hN=>?_
 walk_at "rd"
 refine Xn hp (by decide) fun H1 e1 h1=>?_
 replace h1:H1 p=some (.ins C_Ways dx [("names",nv)]):=h1
 have fz1:=e1.fzI hp
 walk_at "rd"
 refine Mz (hI.hf_fz fz1) fun nv1 hN1=>?_
 walk_at "rd"
 refine⟨nv1,ns,rfl,hN1,hn,h10,fun bd H2 hb2 e2 h2=>?_⟩
 walk_at "rd"
 refine Xn (e2 _ _ h1) (by show 1<1000;decide) fun H3 e3 h3=>?_
 rw[fld2] at h3
 have fz3:=e3.fzI (e2 _ _ h1)
 have hbp:bd≠p:=(ne_of_none h1 hb2).symm
 have h3b:H3 bd=some (.dK (ad7 ns)):=e3 _ _ hbp h2
 walk_at "rd"
 refine Mx h3 (by rfl) ?_
 walk_at "rd"
 refine⟨v,bd,ns,ps,rfl,hI.hf_fz ((fz1.trans e2.fz).trans fz3),hW,h10,h3b,fun ad H4 ha4 e4 h4=>?_⟩
 walk_at "rd"
 refine Xn (e4 _ _ h3) (by show 2<1000;decide) fun H5 e5 h5=>?_
 rw[fld3] at h5
 have fz5:=e5.fzI (e4 _ _ h3)
 have hap:ad≠p:=(ne_of_none h3 ha4).symm
 have h5a:H5 ad=some (.dK (ahK ns ps)):=e5 _ _ hap h4
 have h5b:H5 bd=some (.dK (ad7 ns)):=e5 _ _ hbp (e4 _ _ h3b)
 walk_at "rd"
 refine Mx h5 (by rfl) ?_
 walk_at "rd"
 refine ac4 h5b ?_
 walk_at "rd"
 refine ae5 h5b fun v6 H6 hv6 e6 h6=>?_
 walk_at "rd"
 have hbs:∀ n∈ns.map (fun x=>((Ei ns x:Nat):Int)),0<=n/\n<=1000000000000:=fun n hn'=>by
  obtain⟨y,hy,rfl⟩:=List.mem_map.mp hn'
  have:=a60 hn h10 hy
  omega
 refine aj8 h6 (e6 _ _ h5b) (ns:=ns.map fun x=>((Ei ns x:Nat):Int)) (by unfold ad7;rw[List.map_map,List.map_map];rfl) hbs (by rw[List.length_map];omega) ?_
 have hsum:(ns.map (Ei ns)).sum=Du ns (fun _=>true):=by
  have:=K7 (fun _=>true) hn
  rwa[show ns.filter (fun _=>true)=ns by simp] at this
 rw[K6,hsum]
 walk_at "rd"
 have h6p:=e6 _ _ h5
 refine Xn h6p (by show 3<1000;decide) fun H7 e7 h7=>?_
 rw[fld4] at h7
 have fz7:=e7.fzI h6p
 walk_at "rd"
 refine Sm fun kd H8 hk8 e8 h8=>?_
 walk_at "rd"
 refine Nt [(Sum.inl 0,V.int 1)] h8 rfl (by decide) fun H9 e9 h9=>?_
 walk_at "rd"
 have hkp:p≠kd:=ne_of_none h7 hk8
 have h9p:=e9 _ _ hkp (e8 _ _ h7)
 refine Xn h9p (by show 4<1000;decide) fun H10 e10 h10'=>?_
 rw[fld5] at h10'
 have fz10:=e10.fzI h9p
 walk_at "rd"
 have hpb:bd≠p:=hbp
 have h7b:=e7 _ _ hbp (e6 _ _ h5b)
 have h7a:=e7 _ _ hap (e6 _ _ h5a)
 have hbk:bd≠kd:=ne_of_none h7b hk8
 have hak:ad≠kd:=ne_of_none h7a hk8
 have hE:ExtBut p H H7:=((((e1.same e2).trans e3).same e4).trans e5 |>.same e6).trans e7
 have hkH:H kd=none:=by
  cases c:H kd with
  | none=>rfl
  | some o=>rw[hE _ _ hkp.symm c] at hk8;cases hk8
 refine k nv bd ad kd [(Sum.inl 0,V.int 1)] H10 hkH ?_ ⟨h10',?_,?_,?_,?_,hbk,hak,Knw.new ns ps⟩
 . exact((hE.same e8).off hkH e9).trans e10
 . exact hN.nm_fz (((((((fz1.trans e2.fz).trans fz3).trans e4.fz).trans fz5).trans e6.fz).trans fz7).trans ((e8.fz.trans (e9.fzD h8)).trans fz10))
 . exact e10 _ _ hbp (e9 _ _ hbk (e8 _ _ h7b))
 . exact e10 _ _ hap (e9 _ _ hak (e8 _ _ h7a))
 exact e10 _ _ hkp.symm h9
theorem Ii {f:Addr}{fd:FuncData}(F:Fun K "free_names" "Ways.free_names" B3 f fd)(T:Fa mg){C_Ways:Addr}(k_Ways:Hd K C_Ways):FnOk P w K mg base CX0 1 f fd ["self","left"] (C0 C_Ways K):=by
 refine F.ok Hy (fun vs H Q E h=>?_) (fun cdv A outer s H vs Q E hr h=>?_)
 . obtain⟨p,dx,nv,bd,ad,kd,ns,ps,kvs,q,rfl,_⟩:=h
   rfl
 obtain⟨p,dx,nv,bd,ad,kd,ns,ps,kvs,q,rfl,hA,hW,h10,k⟩:=h
 have hu:=Cg hr
 have hq:=Ch hr
 have hn:=hW.nd
 with_reducible refine⟨_,(A4 (Ak (Do ["name"] ["self","left"] [0,1] (by ac_nf) (by ac_nf) (by ac_nf) (Ax (K:=K) hu (G7 (C:=C_Ways) (pv 0) k_Ways.cl k_Ways.n_names (by ac_nf))) (fun _ _ _ _=>(Ap (i:=0) (by with_unfolding_all (show(["name","self","left"]:List Str).Nodup;decide +kernel)) (by ac_nf) (by eq_refl))) (Ce (by decide)) (fun _ _ _ _=>(Lb (PW.pt (Na (a50 (Av a53 (Ag (A5 (K:=K) hu) (G7 (C:=C_Ways) (pv 1) k_Ways.cl k_Ways.n_bits (by ac_nf)) (pv 0) (by ac_rfl)) (pv 2))) (L0 (Fs (a50 (Av a53 (Ag (A5 (K:=K) hu) (G7 (C:=C_Ways) (pv 1) k_Ways.cl k_Ways.n_ahead (by ac_nf)) (pv 0) (by ac_rfl)) (pv 2))))))))) (fun _ _ _ _=>(pv 0))))),?_⟩
 walk_at "rd"
 refine Mx hA.ob (by rfl) ?_
 refine W0 hA.nm (fun x=>q x && !(ns.any fun y=>Hv ps y x&&q y)) PyData.str (fun _=>rfl) (by omega) (fun j x H1 R R' hx e1 hR hR'=>?_) (fun l ys H1 hl1 e1 h1 hL1=>?_)
 . have hA1:=hA.same e1
   have hxn:=List.mem_of_getElem? hx
   walk_at "rd"
   refine Mx hA1.ob (by rfl) ?_
   walk_at "rd"
   refine i_ixD hA1.bt (Lo hxn) ?_
   walk_at "rd"
   rw[aa8 hn hxn]
   refine ap9 (fun hb=>?_) (fun hb=>?_)
   . walk_at "rd"
     refine Mx hA1.ob (by rfl) ?_
     walk_at "rd"
     refine i_ixD hA1.ah (Lo hxn) ?_
     walk_at "rd"
     rw[Xb]
     walk_at "rd"
     refine aj0 (fun hc=>?_) (fun hc=>?_)
     . walk_at "rd"
       exact hR (by rw[hb,hc];rfl) _ _ (.refl _) Dj
     exact hR' (by rw[hb,hc];rfl) _ (.refl _)
   exact hR' (by rw[hb];rfl) _ (.refl _)
 rw[Ws] at hL1
 have:=IsL.str_eq hL1
 subst this
 walk_at "rd"
 exact k l H1 hl1 e1 h1
theorem Jp {f:Addr}{fd:FuncData}(F:Fun K "ways_on" "Ways.ways_on" Bj f fd)(T:Fa mg){C_Ways:Addr}(k_Ways:Hd K C_Ways)(c_Ways_free_names:Mtd P w K mg base 1 C_Ways "free_names" ["self","left"] (C0 C_Ways K))(n:Nat)(c_Ways_ways_on:Mtd P w K mg base (2+n) C_Ways "ways_on" ["self","left"] (Bp C_Ways K n)):FnOk P w K mg base CX0 (2+n+1) f fd ["self","left"] (Bp C_Ways K (n+1)):=by
 refine F.ok Kv (fun vs H Q E h=>?_) (fun cdv A outer s H vs Q E hr h=>?_)
 . obtain⟨p,dx,nv,bd,ad,kd,ns,ps,kvs,q,rfl,_⟩:=h
   rfl
 obtain⟨p,dx,nv,bd,ad,kd,ns,ps,kvs,q,rfl,hA,hW,h10,hlt,k⟩:=h
 have hu:=Cg hr
 have hq:=Ch hr
 have hn:=hW.nd
 have hkl:=hA.ok.len h10
 have hLn:(ns.filter q).Nodup:=List.Nodup.sublist List.filter_sublist hn
 have hLl:(ns.filter q).length<=ns.length:=List.length_filter_le _ _
 with_reducible refine⟨_,(A1 (B4 (Ac (Ff (K:=K) hq) (pv 1) (G7 (C:=C_Ways) (pv 0) k_Ways.cl k_Ways.n_known (by ac_nf)) (by ac_nf)) (A4 (Ed hu (G7 (C:=C_Ways) (pv 0) k_Ways.cl k_Ways.n_known (by ac_nf)) (pv 1) (Ae (Qp (K:=K) (by ac_nf)) (by ac_nf) T.b_sum PyProof.Rows.Boot.«sum» (A0 (Do ["name"] ["self","left"] [0,1] (by ac_nf) (by ac_nf) (by ac_nf) (Ax (K:=K) hu (Tl (C:=C_Ways) (pv 0) k_Ways.cl c_Ways_free_names (hr.mono (by omega)) (A0 (pv 1) A2))) (fun _ _ _ _=>(Ap (i:=0) (by with_unfolding_all (show(["name","self","left"]:List Str).Nodup;decide +kernel)) (by ac_nf) (by eq_refl))) (Ce (by decide)) (fun _ _ _ _=>Ex) (fun _ _ _ _=>(Tl (C:=C_Ways) (pv 1) k_Ways.cl c_Ways_ways_on (hr.mono (by omega)) (A0 (Av al4 (pv 2) (Ag (A5 (K:=K) hu) (G7 (C:=C_Ways) (pv 1) k_Ways.cl k_Ways.n_bits (by ac_nf)) (pv 0) (by ac_rfl))) A2)))) A2)) (by ac_nf))) Ah)
  (A4 (Ak (Ag (A5 (K:=K) hu) (G7 (C:=C_Ways) (pv 0) k_Ways.cl k_Ways.n_known (by ac_nf)) (pv 1) (by ac_rfl))))),?_⟩
 walk_at "rd"
 refine Mx hA.ob (by rfl) ?_
 refine Uw hA.kn ?_
 walk_at "rd"
 cases hv:Di kvs (Sum.inl ((Du ns q:Nat):Int):Key) with
 | some v=>
   have:=hA.ok.get hv
   subst this
   refine iteF ?_
   walk_at "rd"
   refine Mx hA.ob (by rfl) ?_
   walk_at "rd"
   refine Oz hA.kn hv ?_
   exact k kvs H .refl hA
 | none=>
   have hne:ns.filter q≠[]:=fun e=>by
    have h0:Du ns q=0:=binM_zero.mpr fun x hx=>by
     cases c:q x with
     | false=>rfl
     | true=>
       have:x∈ns.filter q:=List.mem_filter.mpr ⟨hx,c⟩
       rw[e] at this
       cases this
    rw[h0] at hv
    rw[show((0:Nat):Int)=0 from rfl,hA.ok.2.2] at hv
    cases hv
   refine iteT ?_
   walk_at "rd"
   refine ae1 hA.ob (by rfl) ?_
   walk_at "rd"
   refine⟨p,dx,nv,bd,ad,kd,ns,ps,kvs,q,rfl,hA,hW,h10,fun l H1 hl1 e1 h1=>?_⟩
   have hA1:=hA.same e1
   refine Tv (SqL.of h1) ?_
   refine Ng (Fu (xs:=(frF (Hv ps) (ns.filter q)).map V.str)) (fun pl i acc H2=>∃ kvs2,ExtBut kd H1 H2/\WaysAt K C_Ways H2 p dx nv bd ad kd ns ps kvs2/\acc=((frF (Hv ps) (ns.filter q)).take i).map fun x=>V.int ((cnt (Hv ps) (Fn (ns.filter q) x):Nat):Int))
    (fun pl H' hp' e' h'=>⟨kvs,e'.but,hA1.same e',rfl⟩) (fun pl i acc H2 hP=>?_) (fun pl i x acc H2 hpl hx hi hl hpa hP=>?_) (fun pl acc H2 hpl hpa hal hP=>?_)
   . obtain⟨kvs2,e2,_,_⟩:=hP
     exact SqL.of (e2 _ _ (ne_of h1 hA1.kn (by intro z;cases z)) h1)
   . obtain ⟨kvs2,e2,hA2,rfl⟩:=hP
     rw[List.getElem?_map] at hx
     cases hz:(frF (Hv ps) (ns.filter q))[i]? with
     | none=>rw[hz] at hx;cases hx
     | some z=>
       rw[hz] at hx
       cases hx
       have hzf:=List.mem_of_getElem? hz
       have hzL:=(mem_frF.mp hzf).1
       have hzn:=(List.mem_filter.mp hzL).1
       have hqz:=(List.mem_filter.mp hzL).2
       have hsub:=Wu hn hzn hqz
       have hlen:=Go hLn hzL
       walk_at "rd"
       refine ae1 hA2.ob (by rfl) ?_
       walk_at "rd"
       refine Mx hA2.ob (by rfl) ?_
       walk_at "rd"
       refine i_ixD hA2.bt (Lo hzn) ?_
       walk_at "rd"
       have hval:((Du ns q:Nat):Int)-((Ei ns z:Nat):Int)=((Du ns (fun y=>q y && !decide (y=z)):Nat):Int):=by omega
       rw[hval]
       refine⟨p,dx,nv,bd,ad,kd,ns,ps,kvs2,_,rfl,hA2,hW,h10,by rw[Lh];omega,fun kvs3 H3 e3 hA3=>?_⟩
       rw[Lh]
       have hplk:pl≠kd:=ne_of hpa hA2.kn (by intro z;cases z)
       have h3p:=e3 _ _ hplk hpa
       refine Rz (by rw[List.length_map];exact Nat.le_trans (List.length_filter_le _ _) (by omega)) hi hl h3p fun H4 e4 h4=>?_
       refine⟨kvs3,?_,hA3.list e4 h3p,?_⟩
       . exact(e2.trans e3).off hpl e4
       rw[List.take_add_one,hz]
       simp
   obtain⟨kvs2,e2,hA2,rfl⟩:=hP
   rw[List.length_map,List.take_length] at hpa
   have hmm:(frF (Hv ps) (ns.filter q)).map (fun x=>V.int ((cnt (Hv ps) (Fn (ns.filter q) x):Nat):Int))=((frF (Hv ps) (ns.filter q)).map fun x=>((cnt (Hv ps) (Fn (ns.filter q) x):Nat):Int)).map V.int:=by rw[List.map_map];rfl
   rw[hmm] at hpa
   walk_at "rd"
   refine af6 (.inl (SqL.of hpa)) (fun n' hn'=>?_) (by rw[List.length_map];exact Nat.le_trans (List.length_filter_le _ _) (by omega)) ?_
   . obtain⟨y,hy,rfl⟩:=List.mem_map.mp hn'
     have:=Go hLn (mem_frF.mp hy).1
     have:=a85 (b:=Hv ps) (L8 hLn y) (by omega)
     omega
   rw[K6,<- a09 hLn hne]
   walk_at "rd"
   refine Mx hA2.ob (by rfl) ?_
   walk_at "rd"
   have hkl2:=hA2.ok.len h10
   refine Vt hA2.kn (by omega) fun H3 e3 h3=>?_
   have hA3:=hA2.put e3 h3 (hA2.ok.put q)
   walk_at "rd"
   refine Mx hA3.ob (by rfl) ?_
   walk_at "rd"
   refine Oz hA3.kn (by rw[Jz,if_pos rfl]) ?_
   exact k _ H3 (((e1.but (d:=kd)).trans e2).trans e3) hA3
theorem Ln {f:Addr}{fd:FuncData}(F:Fun K "ways_on" "Ways.ways_on" Bj f fd)(T:Fa mg){C_Ways:Addr}(k_Ways:Hd K C_Ways)(c_Ways_free_names:Mtd P w K mg base 1 C_Ways "free_names" ["self","left"] (C0 C_Ways K))(hm:ad8 K C_Ways "ways_on" f)(hb:Binds K fd ["self","left"] []):FnOk P w K mg base CX0 13 f fd ["self","left"] (Fb C_Ways K):=by
 have h:∀ n:Nat,FnOk P w K mg base CX0 (2+n) f fd ["self","left"] (Bp C_Ways K n):=fun n=>by
  induction n with
  | zero=>exact FnOk.void Gv
  | succ n ih=>exact Jp F T k_Ways c_Ways_free_names n ⟨f,fd,ih,hm,hb⟩
 exact h 11
theorem Yp {f:Addr}{fd:FuncData}(F:Fun K "count" "count" Ja f fd)(T:Fa mg){C_Ways:Addr}(k_Ways:Hd K C_Ways)(c_Ways_init:Mkd P w K mg base 3 C_Ways "Ways" ["self","half"] (Gm C_Ways K))(c_Ways_ways_on:Mtd P w K mg base 13 C_Ways "ways_on" ["self","left"] (Fb C_Ways K)):FnOk P w K mg base CX0 14 f fd ["half"] (Nx K):=by
 refine F.ok Sv (fun vs H Q E h=>?_) (fun cdv A outer s H vs Q E hr h=>?_)
 . obtain⟨v,ns,ps,rfl,_⟩:=h
   rfl
 obtain⟨v,ns,ps,rfl,hI,hW,h10,k⟩:=h
 have hu:=Cg hr
 have hq:=Ch hr
 with_reducible refine⟨_,(A1 (Ai (i:=1) Sv.nd (by ac_nf) (by eq_refl) (ao6 c_Ways_init (hr.mono (by decide)) (by ac_nf) (A0 (pv 0) A2)))
  (A4 (Ak (Tl (C:=C_Ways) (pv 1) k_Ways.cl c_Ways_ways_on (hr.mono (by decide)) (A0 (G7 (C:=C_Ways) (pv 1) k_Ways.cl k_Ways.n_full (by ac_nf)) A2))))),?_⟩
 walk_at "rd"
 refine au9 fun p dx H1 hp1 e1 h1=>?_
 refine⟨p,v,dx,ns,ps,rfl,h1,hI.hf_fz e1.fz,hW,h10,fun nv bd ad kd kvs H2 hk2 e2 hA=>⟨rfl,?_⟩⟩
 walk_at "rd"
 refine ae1 hA.ob (by rfl) ?_
 walk_at "rd"
 refine Mx hA.ob (by rfl) ?_
 walk_at "rd"
 have hfl:ns.filter (fun _=>true)=ns:=by simp
 refine⟨p,dx,nv,bd,ad,kd,ns,ps,kvs,fun _=>true,rfl,hA,hW,h10,by rw[hfl];omega,fun kvs' H3 e3 hA3=>?_⟩
 rw[hfl]
 exact k H3 ((e1.off hp1 e2).off (e1.free hk2) e3)
def nuD (ms:List Nat):PyData:=.tuple ((ms.map fun m=>((m:Nat):Int)).map PyData.int)
theorem Ss:∀ {ms:List Nat},(∀ m∈ms,m<=4000000)->PyData.showableAll ((ms.map fun m=>((m:Nat):Int)).map PyData.int)=true/\PyData.canLayAll0 ((ms.map fun m=>((m:Nat):Int)).map PyData.int)=true/\PyData.intsShortAll 13 ((ms.map fun m=>((m:Nat):Int)).map PyData.int)=true /\
  PyData.weightAll ((ms.map fun m=>((m:Nat):Int)).map PyData.int)<=40*ms.length/\PyData.depthAll ((ms.map fun m=>((m:Nat):Int)).map PyData.int)<=1
 | [],_=>by simp[PyData.showableAll,PyData.canLayAll0,PyData.intsShortAll,PyData.weightAll,PyData.depthAll]
 | m :: ms,h=>by
   obtain⟨h1,h2,h3,h4,h5⟩:=Ss (ms:=ms) fun x hx=>h x (by simp[hx])
   have hm:=h m (by simp)
   have hlog:m.log2<30:=by
    rcases Nat.eq_zero_or_pos m with rfl | h0
    . decide
    exact(Nat.log2_lt (by omega)).mpr (by omega)
   have hlen:=PyData.shown_int_le (i:=((m:Nat):Int)) (by rw[Int.natAbs_natCast];omega)
   refine⟨?_,?_,?_,?_,?_⟩
   . simp only[List.map_cons,PyData.showableAll,PyData.showable,Int.natAbs_natCast,h1,Bool.and_true,decide_eq_true_eq]
     omega
   . simp only[List.map_cons,PyData.canLayAll0,PyData.canLay0,h2,Bool.and_self]
   . simp only[List.map_cons,PyData.intsShortAll,PyData.intsShort,h3,Bool.and_true,decide_eq_true_eq]
     exact hlen
   . simp only[List.map_cons,PyData.weightAll,PyData.weight,Int.natAbs_natCast,List.length_cons]
     split<;>omega
   simp only[List.map_cons,PyData.depthAll,PyData.depth]
   omega
theorem as3 {ms:List Nat}(h:∀ m∈ms,m<=4000000)(hl:ms.length<=1000):Sh (nuD ms):=by
 obtain⟨h1,h2,h3,h4,h5⟩:=Ss h
 refine⟨rfl,by unfold nuD;simp only[PyData.showable];exact h1,?_,by unfold nuD;simp only[PyData.depth];omega⟩
 have g:=PyData.shown_le 13 (by decide) (nuD ms) (PyData.leavesShort_of_canLay0 13 (nuD ms) (by unfold nuD;simp only[PyData.canLay0];exact h2) (by unfold nuD;simp only[PyData.intsShort];exact h3))
 have hw:(nuD ms).weight<=40*ms.length:=by unfold nuD;simp only[PyData.weight];exact h4
 rw[sizeLine_eq]
 omega
def spV:Sp:=fun _ _ _ _=>False
def Od (K:PySem.W.Frag):Sp:=spV
def Hi (C:Addr)(K:PySem.W.Frag):Sp:=spV
def Hn (C:Addr)(K:PySem.W.Frag):Sp:=spV
def Er (C C':Addr)(K:PySem.W.Frag):Sp:=spV
def Ev (C C':Addr)(K:PySem.W.Frag):Sp:=spV
def Fd (C C':Addr)(K:PySem.W.Frag):Sp:=spV
theorem Z3 {f:Addr}{fd:FuncData}(F:Fun K "_wall" "_wall" Ll f fd)(T:Fa mg):FnOk P w K mg base CX0 1 f fd ["k"] (Od K):=FnOk.void fun vs H Q E h=>h
local macro_rules | `(tactic| walk_at "rq1") => L2.mAlts "i_sRaise i_tMeth"
def Refz (H:Hp)(C:Addr)(x:Str)(E:XK):Prop:=∀ a H',Same H H'->ExB false H' a C [("name",.str x)]->E (.ref a) none H'
theorem Refz.mono {H H':Hp}{C:Addr}{x:Str}{E:XK}(h:Refz H C x E)(e:Same H H'):Refz H' C x E:=fun a H2 e2 hE=>h a H2 (e.trans e2) hE
def Ua (ns xs:List Str)(z:Str):Prop:=∃ as bs,xs=as++z :: bs/\(∀ y∈as,y∈ns)/\z∉ns
def B0 (C:Addr)(K:PySem.W.Frag):Sp:=fun vs H Q E=>∃ v u ns ps xs,vs=[v,u]/\Is K H (hfD ns ps) v/\Is K H (nmD xs) u/\((∃ z,Ua ns xs z/\Refz H C z E)\/((∀ z∈xs,z∈ns)/\Q .non H))
theorem Hg {f:Addr}{fd:FuncData}(F:Fun K "refuse_strangers" "refuse_strangers" Ay f fd)(T:Fa mg){C_HalfError:Addr}{C_NoName:Addr}(x_HalfError:Aj K mg C_HalfError C_HalfError)(x_NoName:Bc K mg C_NoName C_HalfError)(c_NoName_init:Mkx P w K mg base 1 C_NoName "NoName" ["self","name"] (spX C_NoName ["name"])):FnOk P w K mg base (CX1 P w) 3 f fd ["half","asked"] (B0 C_NoName K):=by
 refine F.ok1 Ew (fun vs H Q E h=>?_) (fun cdv A outer s H vs Q E hr h=>?_)
 . obtain⟨v,u,ns,ps,xs,rfl,_⟩:=h
   rfl
 obtain⟨v,u,ns,ps,xs,rfl,hI,hU,hk⟩:=h
 have hu:=Cg hr
 have hq:=Ch hr
 with_reducible refine⟨_,(A4 (Eg PassesOwn.leaving (by ac_nf) (Ax (K:=K) hu (pv 1)) (Ap (i:=2) Ew.nd (by ac_nf) (by eq_refl))
  (A4 (B4 (Ac (Ff (K:=K) hq) (pv 2) (Ag (A5 (K:=K) hu) (pv 0) A6 (by ac_rfl)) (by ac_nf)) (A4 (K1 (by ac_nf) (Rx c_NoName_init (hr.mono (by decide)) (by ac_nf) (A0 (pv 2) A2)))) Ah)))),?_⟩
 walk_at "rd"
 refine Ji hU (fun i σ H1=>∃ x2,σ=[some v,some u,x2]/\H1=H/\∀ y∈xs.take i,y∈ns) ⟨_,rfl,rfl,by simp⟩ (fun i σ' H' hP=>?_) (fun i z σ' H1 hz hP=>?_) (fun σ' H1 hP=>?_)
 . obtain⟨_,_,rfl,_⟩:=hP
   exact .refl _
 . obtain⟨x2,rfl,rfl,hi⟩:=hP
   walk_at "rd"
   refine Mz hI fun nv hN=>?_
   refine Sw hN ?_
   walk_at "rd"
   refine W8 (fun hc=>?_) (fun hc=>?_)
   . rcases hk with ⟨x,⟨as,bs,rfl,ha,hx⟩,k⟩ | ⟨hall,_⟩
     . have e:z=x:=by
        rcases Nat.lt_trichotomy i as.length with lt | e | gt
        . exact absurd (ha z (List.mem_of_getElem? (by rwa[List.getElem?_append_left lt] at hz))) hc
        . rw[e,List.getElem?_append_right (Nat.le_refl _),Nat.sub_self] at hz
          exact(Option.some.inj hz).symm
        exact absurd (hi x (List.mem_take_iff_getElem.mpr ⟨as.length,by simp;omega,by simp⟩)) hx
       subst e
       walk_at "rd"
       refine Y6 (by rfl) (by decide) fun a H2 ha2 e2 hE=>?_
       walk_at "rd"
       exact Ob hE x_NoName.xc ha2 fun H3 kp hE3=>k a H3 (fun b o q=>kp b o (ne_of_none q ha2) (e2 _ _ q)) hE3
     exact absurd (hall z (List.mem_of_getElem? hz)) hc
   walk_at "rd"
   refine⟨_,rfl,rfl,fun y hy=>?_⟩
   rw[List.take_add_one,hz] at hy
   rcases List.mem_append.mp hy with h | h
   . exact hi y h
   have:y=z:=by simpa using h
   exact this ▸ hc
 obtain⟨x2,rfl,rfl,hi⟩:=hP
 rw[List.take_length] at hi
 rcases hk with ⟨x,⟨as,bs,rfl,ha,hx⟩,k⟩ | ⟨hall,k⟩
 . exact absurd (hi x (by simp)) hx
 exact k
def enD (e:Nat×(Str×Str)):PyData:=.tuple [.int ((e.1:Nat):Int),prD e.2]
def as4 (es:List (Nat×(Str×Str)))(n:Nat):PyData:=.tuple [.tuple (es.map enD),.int ((n:Nat):Int)]
structure KpAt (K:PySem.W.Frag)(C:Addr)(H:Hp)(p pl:Addr)(ns:List Str)(es:List (Nat×(Str×Str)))(n:Nat):Prop where
 ex:∃ dx nv w ul ys,H p=some (.ins C dx [("names",nv),("now",.ref w),("past",.ref pl),("undone",ul)])/\Is K H (nmD ns) nv/\Is K H (as4 es n) (.ref w)/\H pl=some (.lst ys)/\(ys.length<=n/\n<=1000)
 nd:Names ns
 few:ns.length<=10
 mem:∀ e∈es,e.2.1∈ns/\e.2.2∈ns
 irr:∀ x,¬ Way (es.map (·.2)) x x
 le:es.length<=60
theorem KpAt.same {K:PySem.W.Frag}{C:Addr}{H H':Hp}{p pl:Addr}{ns:List Str}{es:List (Nat×(Str×Str))}{n:Nat}(h:KpAt K C H p pl ns es n)(e:Same H H'):KpAt K C H' p pl ns es n:=by
 obtain⟨dx,nv,w,ul,ys,h1,h2,h3,h4,h5⟩:=h.ex
 exact⟨⟨dx,nv,w,ul,ys,e _ _ h1,h2.nm_fz e.fz,Is.mono e _ _ h3,e _ _ h4,h5⟩,h.nd,h.few,h.mem,h.irr,h.le⟩
def B2 (C:Addr)(K:PySem.W.Frag):Sp:=fun vs H Q _=>∃ p pl ns es n,vs=[.ref p]/\KpAt K C H p pl ns es n/\∀ u H',Same H H'->Is K H' (hfD ns (es.map (·.2))) u->Q u H'
def Dr (C:Addr)(K:PySem.W.Frag):Sp:=fun vs H Q _=>∃ p pl ns es n,vs=[.ref p]/\KpAt K C H p pl ns es n/\∀ u H',Same H H'->Is K H' (jsD (es.map (·.1))) u->Q u H'
theorem a79 (es:List (Nat×(Str×Str))):frz (.tuple (es.map enD))=true:=by
 simp only[frz]
 exact Hz _ (fun e=>by simp[enD,frz,Qy,Kl]) es
theorem R0 {K:PySem.W.Frag}{H:Hp}{d:PyData}{ds:List PyData}{vs:List V}(h:IsL K H (d :: ds) vs):∃ v us,vs=v :: us/\Is K H d v/\IsL K H ds us:=by simpa only[L2.IsL] using h
theorem Ny {K:PySem.W.Frag}{H:Hp}{vs:List V}(h:IsL K H [] vs):vs=[]:=by simpa only[L2.IsL] using h
theorem Nj {K:PySem.W.Frag}{H:Hp}{z:Int}{v:V}(h:Is K H (.int z) v):v = .int z:=by simpa only[Is] using h
theorem Xr {K:PySem.W.Frag}{H:Hp}{d1 d2:PyData}{v:V}(h:Is K H (.tuple [d1,d2]) v):∃ a x y,v = .ref a/\SqT K H a [x,y]/\Is K H d1 x/\Is K H d2 y:=by
 obtain⟨a,xs,rfl,hS,hL⟩:=h.tup
 obtain⟨x,us,rfl,h1,hL⟩:=R0 hL
 obtain⟨y,us2,rfl,h2,hL⟩:=R0 hL
 have:=Ny hL
 subst this
 exact⟨a,x,y,rfl,hS,h1,h2⟩
theorem Sf {K:PySem.W.Frag}{H:Hp}{e:Nat×(Str×Str)}{v:V}(h:Is K H (enD e) v):∃ a x,v = .ref a/\SqT K H a [.int ((e.1:Nat):Int),x]/\Is K H (prD e.2) x:=by
 obtain⟨a,x,y,rfl,hS,h1,h2⟩:=Xr h
 have:=Nj h1
 subst this
 exact⟨a,y,rfl,hS,h2⟩
theorem Qn {K:PySem.W.Frag}{H:Hp}{es:List (Nat×(Str×Str))}{n:Nat}{w:Addr}(h:Is K H (as4 es n) (.ref w)):∃ t xs,SqT K H w [.ref t,.int ((n:Nat):Int)]/\SqT K H t xs/\IsL K H (es.map enD) xs:=by
 obtain⟨a,x,y,e,hS,h1,h2⟩:=Xr h
 cases e
 obtain⟨t,xs,rfl,hT,hL⟩:=h1.tup
 have:=Nj h2
 subst this
 exact⟨t,xs,hS,hT,hL⟩
theorem Ly {f:Addr}{fd:FuncData}(F:Fun K "half" "Keeper.half" C7 f fd)(T:Fa mg){C_Keeper:Addr}(k_Keeper:Ao K C_Keeper):FnOk P w K mg base CX0 1 f fd ["self"] (B2 C_Keeper K):=by
 refine F.ok Mc (fun vs H Q E h=>?_) (fun cdv A outer s H vs Q E hr h=>?_)
 . obtain⟨p,pl,ns,es,n,rfl,_⟩:=h
   rfl
 obtain⟨p,pl,ns,es,n,rfl,hK,k⟩:=h
 have hu:=Cg hr
 have hq:=Ch hr
 obtain⟨dx,nv,w,ul,ys,h1,h2,h3,h4,h5⟩:=hK.ex
 obtain⟨t,xs,hw,ht,hx⟩:=Qn h3
 with_reducible refine⟨_,(A4 (Ak (Aw (A0 (G7 (C:=C_Keeper) (pv 0) k_Keeper.cl k_Keeper.n_names (by ac_nf)) (A0 (Bl (Bo (K:=K)) (by ac_nf) T.b_tuple PyProof.Rows.Boot.«tuple» (A0 (Do ["entry"] [] [] (by ac_nf) (by ac_nf) (by ac_nf) (Ax (K:=K) hu (Ag (A5 (K:=K) hu) (G7 (C:=C_Keeper) (pv 0) k_Keeper.cl k_Keeper.n_now (by ac_nf)) A6 (by ac_rfl))) (fun _ _ _ _=>(Ap (i:=0) (by with_unfolding_all (show(["entry"]:List Str).Nodup;decide +kernel)) (by ac_nf) (by eq_refl))) (Ce (by decide)) (fun _ _ _ _=>Ex) (fun _ _ _ _=>(Ag (A5 (K:=K) hu) (pv 0) A6 (by ac_rfl)))) A2)) A2))))),?_⟩
 walk_at "rd"
 refine Mx h1 (by rfl) ?_
 walk_at "rd"
 refine Mx h1 (by rfl) ?_
 walk_at "rd"
 refine Gg hw (show atI _ 0=some (.ref t) from rfl) ?_
 walk_at "rd"
 refine Kf ht (Em (K:=K) (Da (xs:=xs)) es (by rw[<- IsL.length hx,List.length_map]) (fun _=>true) (fun e=>prD e.2) (fun _=>Kl _) (by have:=hK.le;rw[<- IsL.length hx,List.length_map];omega) (fun H' e=>e.seqT ht) (fun i e v H1 R R' he hv e1 hR hR'=>?_) (fun q us H1 hq1 e1 hq hL1=>?_))
 . obtain⟨D,hD,hI⟩:=IsL.get hx hv
   rw[List.getElem?_map,he] at hD
   cases hD
   obtain⟨a,x,rfl,hS,hP⟩:=Sf (Is.mono e1 _ _ hI)
   walk_at "rd"
   refine Gg hS (show atI _ 1=some x from rfl) ?_
   exact hR rfl _ _ (.refl _) hP
 rw[Dl] at hL1
 walk_at "rd"
 refine Vb (ps:=es.map (·.2)) hq (by rw[List.map_map];exact hL1) fun u2 H2 e2 hu2=>?_
 walk_at "rd"
 refine Au (A9 (by simp)) fun t3 H3 ht3 e3 h3'=>?_
 exact k _ H3 ((e1.trans e2).trans e3) (af1 (SqT.of h3') (h2.nm_fz ((e1.trans e2).trans e3).fz) (Is.mono e3 _ _ hu2))
theorem Jb {f:Addr}{fd:FuncData}(F:Fun K "numbers" "Keeper.numbers" Bf f fd)(T:Fa mg){C_Keeper:Addr}(k_Keeper:Ao K C_Keeper):FnOk P w K mg base CX0 1 f fd ["self"] (Dr C_Keeper K):=by
 refine F.ok Jc (fun vs H Q E h=>?_) (fun cdv A outer s H vs Q E hr h=>?_)
 . obtain⟨p,pl,ns,es,n,rfl,_⟩:=h
   rfl
 obtain⟨p,pl,ns,es,n,rfl,hK,k⟩:=h
 have hu:=Cg hr
 have hq:=Ch hr
 obtain⟨dx,nv,w,ul,ys,h1,h2,h3,h4,h5⟩:=hK.ex
 obtain⟨t,xs,hw,ht,hx⟩:=Qn h3
 with_reducible refine⟨_,(A4 (Ak (Bl (Bo (K:=K)) (by ac_nf) T.b_tuple PyProof.Rows.Boot.«tuple» (A0 (Do ["entry"] [] [] (by ac_nf) (by ac_nf) (by ac_nf) (Ax (K:=K) hu (Ag (A5 (K:=K) hu) (G7 (C:=C_Keeper) (pv 0) k_Keeper.cl k_Keeper.n_now (by ac_nf)) A6 (by ac_rfl))) (fun _ _ _ _=>(Ap (i:=0) (by with_unfolding_all (show(["entry"]:List Str).Nodup;decide +kernel)) (by ac_nf) (by eq_refl))) (Ce (by decide)) (fun _ _ _ _=>Ex) (fun _ _ _ _=>(Ag (A5 (K:=K) hu) (pv 0) A6 (by ac_rfl)))) A2)))),?_⟩
 walk_at "rd"
 refine Mx h1 (by rfl) ?_
 walk_at "rd"
 refine Gg hw (show atI _ 0=some (.ref t) from rfl) ?_
 walk_at "rd"
 refine Kf ht (Em (K:=K) (Da (xs:=xs)) es (by rw[<- IsL.length hx,List.length_map]) (fun _=>true) (fun e=>PyData.int ((e.1:Nat):Int)) (fun _=>rfl) (by have:=hK.le;rw[<- IsL.length hx,List.length_map];omega) (fun H' e=>e.seqT ht) (fun i e v H1 R R' he hv e1 hR hR'=>?_) (fun q us H1 hq1 e1 hq hL1=>?_))
 . obtain⟨D,hD,hI⟩:=IsL.get hx hv
   rw[List.getElem?_map,he] at hD
   cases hD
   obtain⟨a,x,rfl,hS,hP⟩:=Sf (Is.mono e1 _ _ hI)
   walk_at "rd"
   refine Gg hS (show atI _ 0=some (.int ((e.1:Nat):Int)) from rfl) ?_
   exact hR rfl _ _ (.refl _) Hl
 rw[Dl] at hL1
 walk_at "rd"
 refine G6 (SqL.of hq) fun t2 H2 ht2 e2 h2'=>?_
 exact k _ H2 (e1.trans e2) (Is.of_tup (SqT.of h2') (by rw[List.map_map];exact IsL.mono e2 _ _ hL1))
def Refi (H:Hp)(C:Addr)(i:Int)(E:XK):Prop:=∀ a H',Same H H'->ExB false H' a C [("number",.int i)]->E (.ref a) none H'
def Cd (C C_NoSaying:Addr)(K:PySem.W.Frag):Sp:=fun vs H Q E=>∃ p pl ns es n i,vs=[.ref p,.int i]/\KpAt K C H p pl ns es n/\(es.map (·.1)).Nodup/\(∀ e∈es,((e.1:Nat):Int)=i->∀ u,Is K H (prD e.2) u->Q u H)/\((∀ e∈es,((e.1:Nat):Int)≠i)->Refi H C_NoSaying i E)
theorem Ir {f:Addr}{fd:FuncData}(F:Fun K "saying" "Keeper.saying" Bm f fd)(T:Fa mg){C_Keeper:Addr}(k_Keeper:Ao K C_Keeper){C_HalfError:Addr}{C_NoName:Addr}{C_NoSaying:Addr}(x_HalfError:Aj K mg C_HalfError C_HalfError)(x_NoName:Bc K mg C_NoName C_HalfError)(x_NoSaying:Ct K mg C_NoSaying C_HalfError)(c_NoSaying_init:Mkx P w K mg base 1 C_NoSaying "NoSaying" ["self","number"] (spX C_NoSaying ["number"])):FnOk P w K mg base (CX1 P w) 3 f fd ["self","number"] (Cd C_Keeper C_NoSaying K):=by
 refine F.ok1 Gd (fun vs H Q E h=>?_) (fun cdv A outer s H vs Q E hr h=>?_)
 . obtain⟨p,pl,ns,es,n,i,rfl,_⟩:=h
   rfl
 obtain⟨p,pl,ns,es,n,i,rfl,hK,hnd,k1,k2⟩:=h
 have hu:=Cg hr
 have hq:=Ch hr
 obtain⟨dx,nv,w,ul,ys,h1,h2,h3,h4,h5⟩:=hK.ex
 obtain⟨t,xs,hw,ht,hx⟩:=Qn h3
 have hxl:xs.length=es.length:=by rw[<- IsL.length hx,List.length_map]
 with_reducible refine⟨_,(A1 (Eg PassesOwn.leaving (by ac_nf) (Ax (K:=K) hu (Ag (A5 (K:=K) hu) (G7 (C:=C_Keeper) (pv 0) k_Keeper.cl k_Keeper.n_now (by ac_nf)) A6 (by ac_rfl))) (Ap (i:=2) Gd.nd (by ac_nf) (by eq_refl))
  (A4 (B4 (Ac (Ba (K:=K) hq) (Ag (A5 (K:=K) hu) (pv 2) A6 (by ac_rfl)) (pv 1) (Al _)) (A4 (Ak (Ag (A5 (K:=K) hu) (pv 2) A6 (by ac_rfl)))) Ah)))
  (A4 (K1 (by ac_nf) (Rx c_NoSaying_init (hr.mono (by decide)) (by ac_nf) (A0 (pv 1) A2))))),?_⟩
 walk_at "rd"
 refine Mx h1 (by rfl) ?_
 walk_at "rd"
 refine Gg hw (show atI _ 0=some (.ref t) from rfl) ?_
 walk_at "rd"
 refine Kf ht ?_
 refine Jf (Da (xs:=xs)) (fun j σ H1=>∃ x2,σ=[some (.ref p),some (.int i),x2]/\H1=H/\∀ e∈es.take j,((e.1:Nat):Int)≠i) ⟨_,rfl,rfl,fun e he=>by cases he⟩ (fun j σ' H' hP=>?_) (fun j x σ' H1 hxj hj hP=>?_) (fun σ' H1 hP=>?_)
 . obtain⟨_,_,rfl,_⟩:=hP
   exact ht
 . obtain⟨x2,rfl,rfl,hno⟩:=hP
   obtain⟨D,hD,hI⟩:=IsL.get hx hxj
   rw[List.getElem?_map] at hD
   obtain⟨e,he,rfl⟩:=Option.map_eq_some_iff.mp hD
   obtain⟨a,y,rfl,hS,hP⟩:=Sf hI
   walk_at "rd"
   refine Gg hS (show atI _ 0=some (.int ((e.1:Nat):Int)) from rfl) ?_
   walk_at "rd"
   refine G4 (fun hc=>?_) (fun hc=>?_)
   . walk_at "rd"
     refine Gg hS (show atI _ 1=some y from rfl) ?_
     injection hc with hc
     exact k1 e (List.mem_of_getElem? he) hc y hP
   walk_at "rd"
   refine⟨_,rfl,rfl,fun e' he'=>?_⟩
   rw[List.take_add_one,he] at he'
   rcases List.mem_append.mp he' with q | q
   . exact hno e' q
   have:e'=e:=by simpa using q
   rw[this]
   exact fun q=>hc (by rw[q])
 obtain⟨x2,rfl,rfl,hno⟩:=hP
 rw[hxl,List.take_length] at hno
 have kk:=k2 hno
 walk_at "rd"
 refine Y6 (by rfl) (by decide) fun a H4 ha4 e4 hE=>?_
 walk_at "rd"
 exact Ob hE x_NoSaying.xc ha4 fun H5 kp hE5=>kk a H5 (fun b o q=>kp b o (ne_of_none q ha4) (e4 _ _ q)) hE5
def Bz (C:Addr)(K:PySem.W.Frag):Sp:=fun vs H Q _=>∃ p pl ns es n x y,vs=[.ref p,.str x,.str y]/\KpAt K C H p pl ns es n/\∀ u H',Same H H'->((u = .non/\¬ x=y/\¬ Way (es.map (·.2)) x y)\/∃ js os,Is K H' (jsD (js.map fun j=>(es.getD j (0,("",""))).1)) u/\js.length<=1000/\Trl (es.map (·.2)) x js y os)->Q u H'
theorem Ig {f:Addr}{fd:FuncData}(F:Fun K "way_kept" "Keeper.way_kept" B6 f fd)(T:Fa mg){C_Keeper:Addr}(k_Keeper:Ao K C_Keeper)(c_way_by_sayings:Fnd P w K mg base 1 "way_by_sayings" ["sayings","start","goal"] (Ds K))(c_Keeper_half:Mtd P w K mg base 1 C_Keeper "half" ["self"] (B2 C_Keeper K)):FnOk P w K mg base CX0 2 f fd ["self","name","other"] (Bz C_Keeper K):=by
 refine F.ok Fi (fun vs H Q E h=>?_) (fun cdv A outer s H vs Q E hr h=>?_)
 . obtain⟨p,pl,ns,es,n,x,y,rfl,_⟩:=h
   rfl
 obtain⟨p,pl,ns,es,n,x,y,rfl,hK,k⟩:=h
 have hu:=Cg hr
 have hq:=Ch hr
 obtain⟨dx,nv,w,ul,ys,h1,h2,h3,h4,h5⟩:=hK.ex
 with_reducible refine⟨_,(A1 (Ai (i:=3) Fi.nd (by ac_nf) (by eq_refl) (Bi c_way_by_sayings (hr.mono (by decide)) (by ac_nf) (A0 (Ag (A5 (K:=K) hu) (Kc (C:=C_Keeper) (pv 0) k_Keeper.cl c_Keeper_half (hr.mono (by decide))) A6 (by ac_rfl)) (A0 (pv 1) (A0 (pv 2) A2)))))
  (A1 (B4 (Ac Ml (pv 3) Hh (Al _)) (A4 (Ak Hh)) Ah)
  (A4 (Ak (Bl (Bo (K:=K)) (by ac_nf) T.b_tuple PyProof.Rows.Boot.«tuple» (A0 (Do ["place"] ["self"] [0] (by ac_nf) (by ac_nf) (by ac_nf) (Ax (K:=K) hu (pv 3)) (fun _ _ _ _=>(Ap (i:=0) (by with_unfolding_all (show(["place","self"]:List Str).Nodup;decide +kernel)) (by ac_nf) (by eq_refl))) (Ce (by decide)) (fun _ _ _ _=>Ex) (fun _ _ _ _=>(Ag (A5 (K:=K) hu) (Ag (A5 (K:=K) hu) (Ag (A5 (K:=K) hu) (G7 (C:=C_Keeper) (pv 1) k_Keeper.cl k_Keeper.n_now (by ac_nf)) A6 (by ac_rfl)) (pv 0) (by ac_rfl)) A6 (by ac_rfl)))) A2)))))),?_⟩
 walk_at "rd"
 refine Lc h1 (by rfl) ?_
 walk_at "rd"
 refine⟨p,pl,ns,es,n,rfl,hK,fun u1 H1 e1 hu1=>?_⟩
 walk_at "rd"
 refine Up hu1 fun pv hP=>?_
 walk_at "rd"
 refine⟨pv,x,y,es.map (·.2),rfl,hP,by rw[List.length_map];have:=hK.le;omega,fun u2 H2 e2 hres=>?_⟩
 have e02:=e1.trans e2
 walk_at "rd"
 rcases hres with ⟨rfl,hne,hnw⟩ | ⟨js,os,hj1,hj2,hj3⟩
 . walk_at "rd"
   exact k .non H2 e02 (.inl ⟨rfl,hne,hnw⟩)
 obtain⟨ja,jx,rfl,hjS,hjL⟩:=Is.tup hj1
 obtain⟨t,xs,hw,ht,hx⟩:=Qn h3
 have hxl:xs.length=es.length:=by rw[<- IsL.length hx,List.length_map]
 refine G4 (fun q=>by cases q) (fun _=>?_)
 walk_at "rd"
 refine Kf hjS (Em (K:=K) (Da (xs:=jx)) js (by rw[<- IsL.length hjL,List.length_map]) (fun _=>true) (fun j=>PyData.int (((es.getD j (0,("",""))).1:Nat):Int)) (fun _=>rfl) (by rw[<- IsL.length hjL,List.length_map];omega) (fun H' e=>e.seqT hjS) (fun i j v H3 R R' hj hv e3 hR hR'=>?_) (fun q us H3 hq3 e3 hq hL3=>?_))
 . obtain⟨D,hD,hI⟩:=IsL.get hjL hv
   rw[List.getElem?_map,hj] at hD
   cases hD
   have:=Nj hI
   subst this
   obtain⟨a1,b1,_,_,hps⟩:=hj3.ed i j hj
   rw[List.getElem?_map] at hps
   obtain⟨e,he,_⟩:=Option.map_eq_some_iff.mp hps
   have e03:=e02.trans e3
   obtain⟨ev,hev,hEv⟩:=IsL.at hx (show(es.map enD)[j]? = some (enD e) by rw[List.getElem?_map,he];rfl)
   obtain⟨ea,ex,rfl,hS,_⟩:=Sf (Is.mono e03 _ _ hEv)
   walk_at "rd"
   refine Mx (e03 _ _ h1) (by rfl) ?_
   walk_at "rd"
   refine Gg (e03.seqT hw) (show atI _ 0=some (.ref t) from rfl) ?_
   walk_at "rd"
   refine Gg (e03.seqT ht) (show atI _ _=some (.ref ea) from Ck hev) ?_
   walk_at "rd"
   refine Gg hS (show atI _ 0=some (.int ((e.1:Nat):Int)) from rfl) ?_
   refine hR rfl _ _ (.refl _) ?_
   rw[List.getD_eq_getElem?_getD,he]
   exact Hl
 rw[Dl] at hL3
 walk_at "rd"
 refine G6 (SqL.of hq) fun t4 H4 ht4 e4 h4'=>?_
 exact k _ H4 ((e02.trans e3).trans e4) (.inr ⟨js,os,Is.of_tup (SqT.of h4') (by rw[List.map_map];exact IsL.mono e4 _ _ hL3),hj2,hj3⟩)
def knV (ps:List (Str×Str))(x y:Str):V:=if Hv ps x y=true then .bl true else if Hv ps y x=true\/x=y then .bl false else .non
theorem KpAt.c {K:PySem.W.Frag}{C:Addr}{H:Hp}{p pl:Addr}{ns:List Str}{es:List (Nat×(Str×Str))}{n:Nat}(h:KpAt K C H p pl ns es n):HalfW ns (es.map (·.2)):=
 ⟨h.nd.1,fun q hq=>by obtain⟨e,he,rfl⟩:=List.mem_map.mp hq;exact h.mem e he,h.irr,Nat.le_trans h.few (by decide),by rw[List.length_map];exact Nat.le_trans h.le (by decide)⟩
theorem Ul {ns:List Str}(x y:Str):(∃ z,Ua ns [x,y] z)\/(x∈ns/\y∈ns):=by
 by_cases hx:x∈ns
 . by_cases hy:y∈ns
   . exact .inr ⟨hx,hy⟩
   exact .inl ⟨y,[x],[],rfl,fun z hz=>by rw[List.mem_singleton.mp hz];exact hx,hy⟩
 exact .inl ⟨x,[],[y],rfl,fun z hz=>(by cases hz),hx⟩
theorem Se {ns:List Str}{x y z:Str}(h:Ua ns [x,y] z)(hx:x∈ns)(hy:y∈ns):False:=by
 obtain⟨as,bs,e,_,hz⟩:=h
 have:z∈[x,y]:=by rw[e];simp
 simp only[List.mem_cons,List.not_mem_nil,or_false] at this
 rcases this with rfl | rfl
 . exact hz hx
 exact hz hy
theorem Pj {t:TT}{ta tb:TE}{σ:L2.St}{H:Hp}{Q:VK}(k:t σ H fun c H1=>if c=true then ta σ H1 Q else tb σ H1 Q):tIf t ta tb σ H Q:=k
def aj7 (K:PySem.W.Frag)(H:Hp)(es:List (Nat×(Str×Str)))(x y:Str)(u:V):Prop:=(u = .non/\(x=y\/¬ Way (es.map (·.2)) x y))\/∃ js os,x≠y/\Is K H (jsD (js.map fun j=>(es.getD j (0,("",""))).1)) u/\js.length<=1000/\Trl (es.map (·.2)) x js y os
def Es (C C_NoName:Addr)(K:PySem.W.Frag):Sp:=fun vs H Q E=>∃ p pl ns es n x y,vs=[.ref p,.str x,.str y]/\KpAt K C H p pl ns es n/\(∀ z,Ua ns [x,y] z->Refz H C_NoName z E)/\(x∈ns->y∈ns->∀ u H',Same H H'->aj7 K H' es x y u->Q u H')
def Ee (C C_NoName:Addr)(K:PySem.W.Frag):Sp:=fun vs H Q E=>∃ p pl ns es n x y,vs=[.ref p,.str x,.str y]/\KpAt K C H p pl ns es n/\(∀ z,Ua ns [x,y] z->Refz H C_NoName z E)/\(x∈ns->y∈ns->∀ H',Same H H'->Q (knV (es.map (·.2)) x y) H')
theorem Jr {f:Addr}{fd:FuncData}(F:Fun K "knows" "Keeper.knows" Bx f fd)(T:Fa mg){C_Keeper:Addr}(k_Keeper:Ao K C_Keeper){C_HalfError:Addr}{C_NoName:Addr}(x_HalfError:Aj K mg C_HalfError C_HalfError)(x_NoName:Bc K mg C_NoName C_HalfError)(c_behind_each:Fnd P w K mg base 1 "behind_each" ["half"] (Dw K))(c_Keeper_half:Mtd P w K mg base 1 C_Keeper "half" ["self"] (B2 C_Keeper K))(d_refuse_strangers:al8 P w K mg base 3 "refuse_strangers" ["half","asked"] (B0 C_NoName K)):FnOk P w K mg base (CX1 P w) 4 f fd ["self","name","other"] (Ee C_Keeper C_NoName K):=by
 refine F.ok1 Gr (fun vs H Q E h=>?_) (fun cdv A outer s H vs Q E hr h=>?_)
 . obtain⟨p,pl,ns,es,n,x,y,rfl,_⟩:=h
   rfl
 obtain⟨p,pl,ns,es,n,x,y,rfl,hK,k1,k2⟩:=h
 have hu:=Cg hr
 have hq:=Ch hr
 obtain⟨dx,nv,w,ul,ys,h1,h2,h3,h4,h5⟩:=hK.ex
 with_reducible refine⟨_,(A1 (Cl (We d_refuse_strangers (hr.mono (by decide)) (by ac_nf) Vg (A0 (Kc (C:=C_Keeper) (pv 0) k_Keeper.cl c_Keeper_half (hr.mono (by decide))) (A0 (Aw (A0 (pv 1) (A0 (pv 2) A2))) A2))))
  (A1 (Ai (i:=3) Gr.nd (by ac_nf) (by eq_refl) (Bi c_behind_each (hr.mono (by decide)) (by ac_nf) (A0 (Kc (C:=C_Keeper) (pv 0) k_Keeper.cl c_Keeper_half (hr.mono (by decide))) A2)))
  (A1 (B4 (Ac (Jm (K:=K) hq) (pv 2) (Ag (A5 (K:=K) hu) (pv 3) (pv 1) (by ac_rfl)) (by ac_nf)) (A4 (Ak Fg)) Ah)
  (A4 (Ak (Jv (PW.pt (Qt (Ac (Jm (K:=K) hq) (pv 1) (Ag (A5 (K:=K) hu) (pv 3) (pv 2) (by ac_rfl)) (by ac_nf)) (Ks (Ac (Ba (K:=K) hq) (pv 1) (pv 2) (Al _))))) Fg Hh)))))),?_⟩
 walk_at "rd"
 refine Lc h1 (by rfl) ?_
 walk_at "rd"
 refine⟨p,pl,ns,es,n,rfl,hK,fun u1 H1 e1 hu1=>?_⟩
 walk_at "rd"
 refine Au (A9 (by simp)) fun t2 H2 ht2 e2 h2'=>?_
 have e02:=e1.trans e2
 walk_at "rd"
 refine⟨u1,.ref t2,ns,es.map (·.2),[x,y],rfl,hu1.hf_fz e2.fz,M5 (SqT.of h2'),?_⟩
 rcases Ul (ns:=ns) x y with ⟨z,hz⟩ | ⟨hx,hy⟩
 . exact .inl ⟨z,hz,(k1 z hz).mono e02⟩
 refine .inr ⟨fun z hz=>?_,?_⟩
 . simp only[List.mem_cons,List.not_mem_nil,or_false] at hz
   rcases hz with rfl | rfl
   . exact hx
   exact hy
 walk_at "rd"
 refine Lc (e02 _ _ h1) (by rfl) ?_
 walk_at "rd"
 refine⟨p,pl,ns,es,n,rfl,hK.same e02,fun u3 H3 e3 hu3=>?_⟩
 walk_at "rd"
 refine⟨u3,ns,es.map (·.2),rfl,hu3,hK.c.c,fun r as H4 hr4 has e4 hT4=>?_⟩
 have kk:=k2 hx hy H4 ((e02.trans e3).trans e4)
 obtain⟨i,a,hi,hai⟩:=hT4.at hx
 obtain⟨ks,hk1,hk2,hk3,hk4⟩:=hT4.row i x a hi hai
 walk_at "rd"
 refine Oo hT4 hK.c.nd hi hai ?_
 refine Nf hk1 ?_
 rw[Oh (hk4 y)]
 unfold knV at kk
 walk_at "rd"
 refine ap9 (fun hb=>?_) (fun hb=>?_)
 . rw[if_pos hb] at kk
   walk_at "rd"
   exact kk
 rw[if_neg (by rw[hb];decide)] at kk
 obtain⟨i2,a2,hi2,hai2⟩:=hT4.at hy
 obtain⟨ks2,hl1,hl2,hl3,hl4⟩:=hT4.row i2 y a2 hi2 hai2
 walk_at "rd"
 refine Pj ?_
 walk_at "rd"
 refine Oo hT4 hK.c.nd hi2 hai2 ?_
 refine Nf hl1 ?_
 rw[Oh (hl4 x)]
 walk_at "rd"
 refine ap9 (fun hb2=>?_) (fun hb2=>?_)
 . rw[if_pos (.inl hb2)] at kk
   walk_at "rd"
   exact kk
 walk_at "rd"
 refine G4 (fun hc=>?_) (fun hc=>?_)
 . injection hc with hc
   rw[if_pos (.inr hc)] at kk
   walk_at "rd"
   exact kk
 rw[if_neg (fun q=>q.elim (fun q=>by rw[hb2] at q;cases q) (fun q=>hc (by rw[q])))] at kk
 walk_at "rd"
 exact kk
theorem Kb {f:Addr}{fd:FuncData}(F:Fun K "lead" "Keeper.lead" C4 f fd)(T:Fa mg){C_Keeper:Addr}(k_Keeper:Ao K C_Keeper){C_HalfError:Addr}{C_NoName:Addr}(x_HalfError:Aj K mg C_HalfError C_HalfError)(x_NoName:Bc K mg C_NoName C_HalfError)(c_Keeper_half:Mtd P w K mg base 1 C_Keeper "half" ["self"] (B2 C_Keeper K))(c_Keeper_way_kept:Mtd P w K mg base 2 C_Keeper "way_kept" ["self","name","other"] (Bz C_Keeper K))(d_refuse_strangers:al8 P w K mg base 3 "refuse_strangers" ["half","asked"] (B0 C_NoName K)):FnOk P w K mg base (CX1 P w) 4 f fd ["self","name","other"] (Es C_Keeper C_NoName K):=by
 refine F.ok1 Ls (fun vs H Q E h=>?_) (fun cdv A outer s H vs Q E hr h=>?_)
 . obtain⟨p,pl,ns,es,n,x,y,rfl,_⟩:=h
   rfl
 obtain⟨p,pl,ns,es,n,x,y,rfl,hK,k1,k2⟩:=h
 have hu:=Cg hr
 have hq:=Ch hr
 obtain⟨dx,nv,w,ul,ys,h1,h2,h3,h4,h5⟩:=hK.ex
 with_reducible refine⟨_,(A1 (Cl (We d_refuse_strangers (hr.mono (by decide)) (by ac_nf) Vg (A0 (Kc (C:=C_Keeper) (pv 0) k_Keeper.cl c_Keeper_half (hr.mono (by decide))) (A0 (Aw (A0 (pv 1) (A0 (pv 2) A2))) A2))))
  (A4 (Ak (Jv (Ac (Ba (K:=K) hq) (pv 1) (pv 2) (Al _)) Hh (Tl (C:=C_Keeper) (pv 0) k_Keeper.cl c_Keeper_way_kept (hr.mono (by decide)) (A0 (pv 1) (A0 (pv 2) A2))))))),?_⟩
 walk_at "rd"
 refine Lc h1 (by rfl) ?_
 walk_at "rd"
 refine⟨p,pl,ns,es,n,rfl,hK,fun u1 H1 e1 hu1=>?_⟩
 walk_at "rd"
 refine Au (A9 (by simp)) fun t2 H2 ht2 e2 h2'=>?_
 have e02:=e1.trans e2
 walk_at "rd"
 refine⟨u1,.ref t2,ns,es.map (·.2),[x,y],rfl,hu1.hf_fz e2.fz,M5 (SqT.of h2'),?_⟩
 rcases Ul (ns:=ns) x y with ⟨z,hz⟩ | ⟨hx,hy⟩
 . exact .inl ⟨z,hz,(k1 z hz).mono e02⟩
 refine .inr ⟨fun z hz=>?_,?_⟩
 . simp only[List.mem_cons,List.not_mem_nil,or_false] at hz
   rcases hz with rfl | rfl
   . exact hx
   exact hy
 walk_at "rd"
 refine Pj ?_
 walk_at "rd"
 refine G4 (fun hc=>?_) (fun hc=>?_)
 . injection hc with hc
   walk_at "rd"
   exact k2 hx hy _ H2 e02 (.inl ⟨rfl,.inl hc⟩)
 have hne:x≠y:=fun q=>hc (by rw[q])
 walk_at "rd"
 refine ae1 (e02 _ _ h1) (by rfl) ?_
 walk_at "rd"
 refine⟨p,pl,ns,es,n,x,y,rfl,hK.same e02,fun u3 H3 e3 hres=>?_⟩
 refine k2 hx hy _ H3 (e02.trans e3) ?_
 rcases hres with ⟨rfl,_,h⟩ | ⟨js,os,j1,j2,j3⟩
 . exact .inl ⟨rfl,.inr h⟩
 exact .inr ⟨js,os,hne,j1,j2,j3⟩
def W1 (p pl:Addr)(H H':Hp):Prop:=∀ b o,b≠p->b≠pl->H b=some o->H' b=some o
def Dg (C:Addr)(K:PySem.W.Frag):Sp:=fun vs H Q _=>∃ p pl ns es n kv es' n',vs=[.ref p,kv,.int ((n':Nat):Int)]/\KpAt K C H p pl ns es n/\Is K H (.tuple (es'.map enD)) kv/\n<n'/\n'<=1000/\(∀ e∈es',e.2.1∈ns/\e.2.2∈ns)/\(∀ x,¬ Way (es'.map (·.2)) x x)/\es'.length<=60 /\
 ∀ H',W1 p pl H H'->Fz H H'->KpAt K C H' p pl ns es' n'->Q .non H'
theorem Ku {f:Addr}{fd:FuncData}(F:Fun K "go_on" "Keeper.go_on" Bw f fd)(T:Fa mg){C_Keeper:Addr}(k_Keeper:Ao K C_Keeper):FnOk P w K mg base CX0 1 f fd ["self","kept","following"] (Dg C_Keeper K):=by
 refine F.ok Kz (fun vs H Q E h=>?_) (fun cdv A outer s H vs Q E hr h=>?_)
 . obtain⟨p,pl,ns,es,n,kv,es',n',rfl,_⟩:=h
   rfl
 obtain⟨p,pl,ns,es,n,kv,es',n',rfl,hK,hkv,hnn,hn1,hm,hi,hl,k⟩:=h
 have hu:=Cg hr
 have hq:=Ch hr
 obtain⟨dx,nv,w,ul,ys,h1,h2,h3,h4,h5⟩:=hK.ex
 have hppl:pl≠p:=fun q=>by rw[q,h1] at h4;cases h4
 with_reducible refine⟨_,(A1 (Cl (Gb (K:=K) PySem.F.plainAttrs_list PySem.F.slot_list_append PySem.F.type_list_append (mm C2) (G7 (C:=C_Keeper) (pv 0) k_Keeper.cl k_Keeper.n_past (by ac_nf)) (A0 (G7 (C:=C_Keeper) (pv 0) k_Keeper.cl k_Keeper.n_now (by ac_nf)) A2)))
  (A1 (L5 (C:=C_Keeper) (pv 0) (Aw (A0 (pv 1) (A0 (pv 2) A2))) k_Keeper.cl k_Keeper.n_now (by ac_nf))
  (A4 (L5 (C:=C_Keeper) (pv 0) (Dc A2) k_Keeper.cl k_Keeper.n_undone (by ac_nf))))),?_⟩
 walk_at "rd"
 refine Mx h1 (by rfl) ?_
 walk_at "rd"
 refine Mx h1 (by rfl) ?_
 walk_at "rd"
 refine Iq h4 (by omega) fun H1 e1 h4'=>?_
 have h1':=e1 _ _ (Ne.symm hppl) h1
 have fz1:=e1.fzL h4
 walk_at "rd"
 refine Au (A9 (by simp)) fun t2 H2 ht2 e2 h2'=>?_
 have h12:=e2 _ _ h1'
 have hpt:t2≠p:=(ne_of_none h1' ht2).symm
 walk_at "rd"
 refine Xn h12 (by show 4<1000;decide) fun H3 e3 h13=>?_
 replace h13:H3 p=some (.ins C_Keeper dx [("names",nv),("now",.ref t2),("past",.ref pl),("undone",ul)]):=h13
 have fz3:=e3.fzI h12
 walk_at "rd"
 refine De (A9 (by simp)) fun u4 H4 hu4 e4 h4u=>?_
 walk_at "rd"
 refine Xn (e4 _ _ h13) (by show 4<1000;decide) fun H5 e5 h15=>?_
 replace h15:H5 p=some (.ins C_Keeper dx [("names",nv),("now",.ref t2),("past",.ref pl),("undone",.ref u4)]):=h15
 have fz5:=e5.fzI (e4 _ _ h13)
 have hpu:u4≠p:=(ne_of_none h13 hu4).symm
 have fz15:Fz H1 H5:=((e2.fz.trans fz3).trans e4.fz).trans fz5
 walk_at "rd"
 refine k H5 (fun b o hb hb2 q=>e5 _ _ hb (e4 _ _ (e3 _ _ hb (e2 _ _ (e1 _ _ hb2 q))))) (fz1.trans fz15) ⟨⟨dx,nv,t2,.ref u4,_,h15,h2.nm_fz (fz1.trans fz15),?_,e5 _ _ hppl (e4 _ _ (e3 _ _ hppl (e2 _ _ h4'))),?_⟩,hK.nd,hK.few,hm,hi,hl⟩
 . refine Is.of_tup (((fz3.trans e4.fz).trans fz5).seq (SqT.of h2')) (.cons (Is.fz (fz1.trans fz15) _ _ (a79 es') hkv) (.one Hl))
 rw[List.length_append]
 simp
 omega
def Fo (C C_NoName C_Clash C_TooMany:Addr)(K:PySem.W.Frag):Sp:=fun vs H Q E=>∃ p pl ns es n x y,vs=[.ref p,.str x,.str y]/\KpAt K C H p pl ns es n/\(∀ z,Ua ns [x,y] z->Refz H C_NoName z E) /\
 (x∈ns->y∈ns->(∀ a H' u js os,Same H H'->ExB false H' a C_Clash [("way",u)]->Is K H' (jsD (js.map fun j=>(es.getD j (0,("",""))).1)) u->js.length<=1000->Trl (es.map (·.2)) y js x os->E (.ref a) none H') /\
  ((x≠y/\¬ Way (es.map (·.2)) y x/\60<=es.length)->∀ a H',Same H H'->ExB false H' a C_TooMany [("word",.str "sayings")]->E (.ref a) none H') /\
  ((x≠y/\¬ Way (es.map (·.2)) y x/\es.length<60)->n<1000/\∀ H',W1 p pl H H'->Fz H H'->KpAt K C H' p pl ns (es++[(n,(x,y))]) (n+1)->Q (.int ((n:Nat):Int)) H'))
theorem M0 {f:Addr}{fd:FuncData}(F:Fun K "say" "Keeper.say" Cr f fd)(T:Fa mg){C_Keeper:Addr}(k_Keeper:Ao K C_Keeper){C_HalfError:Addr}{C_NoName:Addr}{C_TooMany:Addr}{C_Clash:Addr}(x_HalfError:Aj K mg C_HalfError C_HalfError)(x_NoName:Bc K mg C_NoName C_HalfError)(x_TooMany:Ey K mg C_TooMany C_HalfError)(x_Clash:Gi K mg C_Clash C_HalfError)(c_Keeper_go_on:Mtd P w K mg base 1 C_Keeper "go_on" ["self","kept","following"] (Dg C_Keeper K))(c_Keeper_half:Mtd P w K mg base 1 C_Keeper "half" ["self"] (B2 C_Keeper K))(c_Keeper_way_kept:Mtd P w K mg base 2 C_Keeper "way_kept" ["self","name","other"] (Bz C_Keeper K))(c_TooMany_init:Mkx P w K mg base 1 C_TooMany "TooMany" ["self","word"] (spX C_TooMany ["word"]))(c_Clash_init:Mkx P w K mg base 1 C_Clash "Clash" ["self","way"] (spX C_Clash ["way"]))(d_refuse_strangers:al8 P w K mg base 3 "refuse_strangers" ["half","asked"] (B0 C_NoName K)):FnOk P w K mg base (CX1 P w) 4 f fd ["self","name","other"] (Fo C_Keeper C_NoName C_Clash C_TooMany K):=by
 refine F.ok1 En (fun vs H Q E h=>?_) (fun cdv A outer s H vs Q E hr h=>?_)
 . obtain⟨p,pl,ns,es,n,x,y,rfl,_⟩:=h
   rfl
 obtain⟨p,pl,ns,es,n,x,y,rfl,hK,k1,k2⟩:=h
 have hu:=Cg hr
 have hq:=Ch hr
 obtain⟨dx,nv,w,ul,ys,h1,h2,h3,h4,h5⟩:=hK.ex
 with_reducible refine⟨_,(A1 (Cl (We d_refuse_strangers (hr.mono (by decide)) (by ac_nf) Vg (A0 (Kc (C:=C_Keeper) (pv 0) k_Keeper.cl c_Keeper_half (hr.mono (by decide))) (A0 (Aw (A0 (pv 1) (A0 (pv 2) A2))) A2))))
  (A1 (Ai (i:=3) En.nd (by ac_nf) (by eq_refl) (Tl (C:=C_Keeper) (pv 0) k_Keeper.cl c_Keeper_way_kept (hr.mono (by decide)) (A0 (pv 2) (A0 (pv 1) A2))))
  (A1 (B4 (Ac W2 (pv 3) Hh (Al _)) (A4 (K1 (by ac_nf) (Rx c_Clash_init (hr.mono (by decide)) (by ac_nf) (A0 (pv 3) A2)))) Ah)
  (A1 (Ai (i:=4) En.nd (by ac_nf) (by eq_refl) (Ag (A5 (K:=K) hu) (G7 (C:=C_Keeper) (pv 0) k_Keeper.cl k_Keeper.n_now (by ac_nf)) A6 (by ac_rfl)))
  (A1 (Ai (i:=5) En.nd (by ac_nf) (by eq_refl) (Ag (A5 (K:=K) hu) (G7 (C:=C_Keeper) (pv 0) k_Keeper.cl k_Keeper.n_now (by ac_nf)) A6 (by ac_rfl)))
  (A1 (B4 (Ac ar2 (Ae (C1 (K:=K)) (by ac_nf) T.b_len PyProof.Rows.Boot.«len» (A0 (pv 4) A2)) (Gf (by ac_nf) T.g_MOST_SAYINGS) (Al _)) (A4 (K1 (by ac_nf) (Rx c_TooMany_init (hr.mono (by decide)) (by ac_nf) (A0 A7 A2)))) Ah)
  (A1 (Cl (Tl (C:=C_Keeper) (pv 0) k_Keeper.cl c_Keeper_go_on (hr.mono (by decide)) (A0 (Av (At (K:=K)) (pv 4) (Aw (A0 (Aw (A0 (pv 5) (A0 (Aw (A0 (pv 1) (A0 (pv 2) A2))) A2))) A2))) (A0 (Av (At (K:=K)) (pv 5) A6) A2))))
  (A4 (Ak (pv 5)))))))))),?_⟩
 walk_at "rd"
 refine Lc h1 (by rfl) ?_
 walk_at "rd"
 refine⟨p,pl,ns,es,n,rfl,hK,fun u1 H1 e1 hu1=>?_⟩
 walk_at "rd"
 refine Au (A9 (by simp)) fun t2 H2 ht2 e2 h2'=>?_
 have e02:=e1.trans e2
 walk_at "rd"
 refine⟨u1,.ref t2,ns,es.map (·.2),[x,y],rfl,hu1.hf_fz e2.fz,M5 (SqT.of h2'),?_⟩
 rcases Ul (ns:=ns) x y with ⟨z,hz⟩ | ⟨hx,hy⟩
 . exact .inl ⟨z,hz,(k1 z hz).mono e02⟩
 obtain⟨kc,kt,ko⟩:=k2 hx hy
 refine .inr ⟨fun z hz=>?_,?_⟩
 . simp only[List.mem_cons,List.not_mem_nil,or_false] at hz
   rcases hz with rfl | rfl
   . exact hx
   exact hy
 walk_at "rd"
 refine ae1 (e02 _ _ h1) (by rfl) ?_
 walk_at "rd"
 refine⟨p,pl,ns,es,n,y,x,rfl,hK.same e02,fun u3 H3 e3 hres=>?_⟩
 have e03:=e02.trans e3
 walk_at "rd"
 rcases hres with ⟨rfl,hne,hnw⟩ | ⟨js,os,j1,j2,j3⟩
 . have hne':x≠y:=fun q=>hne q.symm
   obtain⟨dx3,nv3,w3,ul3,ys3,g1,g2,g3,g4,g5⟩:=(hK.same e03).ex
   obtain⟨t,xs,hw,ht,hxs⟩:=Qn g3
   have hxl:xs.length=es.length:=by rw[<- IsL.length hxs,List.length_map]
   walk_at "rd"
   refine Mx g1 (by rfl) ?_
   walk_at "rd"
   refine Gg hw (show atI _ 0=some (.ref t) from rfl) ?_
   walk_at "rd"
   refine Mx g1 (by rfl) ?_
   walk_at "rd"
   refine Gg hw (show atI _ 1=some (.int ((n:Nat):Int)) from rfl) ?_
   walk_at "rd"
   refine a58 (ds:=es.map enD) (Is.of_tup ht hxs) ?_
   rw[List.length_map]
   walk_at "rd"
   refine G4 (fun hc=>?_) (fun hc=>?_)
   . have kk:=kt ⟨hne',hnw,by omega⟩
     walk_at "rd"
     refine Y6 (by rfl) (by decide) fun a H4 ha4 e4 hE=>?_
     walk_at "rd"
     refine Ob hE x_TooMany.xc (e03.free ha4) fun H5 kp hE5=>?_
     exact kk a H5 (e03.trans fun b o q=>kp b o (ne_of_none q ha4) (e4 _ _ q)) hE5
   obtain⟨hn1,kk⟩:=ko ⟨hne',hnw,by omega⟩
   walk_at "rd"
   refine ae1 g1 (by rfl) ?_
   walk_at "rd"
   refine Au (A9 (by simp)) fun t4 H4 ht4 e4 h4'=>?_
   walk_at "rd"
   refine Au (A9 (by simp)) fun t5 H5 ht5 e5 h5'=>?_
   walk_at "rd"
   refine Au (A9 (by simp)) fun t6 H6 ht6 e6 h6'=>?_
   have e36:=(e4.trans e5).trans e6
   refine a49 (e36.seqT ht) (SqT.of h6') (A9 (by have:=hK.le;show _+1<=_;omega)) fun t7 H7 e7 h7'=>?_
   have e07:=e03.trans (e36.trans e7)
   have e37:=e36.trans e7
   have hkv:Is K H7 (.tuple ((es++[(n,(x,y))]).map enD)) (.ref t7):=Is.of_tup h7' (by
    rw[List.map_append]
    refine(IsL.mono e37 _ _ hxs).append (.one ?_)
    refine Is.of_tup (SqT.of (e7 _ _ (e6 _ _ h5'))) (.cons Hl (.one ?_))
    exact Is.mono ((e5.trans e6).trans e7) _ _ (show Is K H4 (prD (x,y)) (.ref t4) from an0 (SqT.of h4')))
   walk_at "rd"
   refine⟨p,pl,ns,es,n,.ref t7,es++[(n,(x,y))],n+1,by rw[Int.natCast_add];rfl,hK.same e07,hkv,by omega,by omega,?_,?_,by simp;omega,fun H8 kp fz8 hK8=>?_⟩
   . intro e he
     rcases List.mem_append.mp he with he | he
     . exact hK.mem e he
     rw[List.mem_singleton.mp he]
     exact⟨hx,hy⟩
   . have:=(hK.c.said hx hy hne' hnw (by rw[List.length_map];omega)).irr
     rw[List.map_append]
     exact this
   walk_at "rd"
   exact kk H8 (fun b o hb hb2 q=>kp b o hb hb2 (e07 _ _ q)) (e07.fz.trans fz8) hK8
 obtain⟨ja,jx,rfl,hjS,hjL⟩:=Is.tup j1
 refine W8 (fun _=>?_) (fun q=>by cases q)
 walk_at "rd"
 refine Y6 (by rfl) (by decide) fun a H4 ha4 e4 hE=>?_
 walk_at "rd"
 refine Ob hE x_Clash.xc (e03.free ha4) fun H5 kp hE5=>?_
 have e35:Same H3 H5:=fun b o q=>kp b o (ne_of_none q ha4) (e4 _ _ q)
 exact kc a H5 _ js os (e03.trans e35) hE5 (Is.mono e35 _ _ j1) j2 j3
theorem Rl {p q:Addr}{H H':Hp}(e:ExtBut p H H')(hq:q≠p)(h:H' q=none):H q=none:=by
 cases z:H q with
 | none=>rfl
 | some o=>rw[e q o hq z] at h;cases h
def Fl (C:Addr)(K:PySem.W.Frag):Sp:=fun vs H Q _=>∃ p v dx ns,vs=[.ref p,v]/\H p=some (.ins C dx [])/\Is K H (nmD ns) v/\Names ns/\ns.length<=10/\∀ pl H',H pl=none->ExtBut p H H'->KpAt K C H' p pl ns [] 0->Q .non H'
theorem Mg {f:Addr}{fd:FuncData}(F:Fun K "__init__" "Keeper.__init__" C9 f fd)(T:Fa mg){C_Keeper:Addr}(k_Keeper:Ao K C_Keeper)(c_are_tale_names:Fnd P w K mg base 3 "are_tale_names" ["thing"] (Dp K)):FnOk P w K mg base CX0 4 f fd ["self","names"] (Fl C_Keeper K):=by
 refine F.ok Lu (fun vs H Q E h=>?_) (fun cdv A outer s H vs Q E hr h=>?_)
 . obtain⟨p,v,dx,ns,rfl,_⟩:=h
   rfl
 obtain⟨p,v,dx,ns,rfl,hp,hI,hN,h10,k⟩:=h
 have hu:=Cg hr
 have hq:=Ch hr
 obtain⟨na,rfl,hS⟩:=hI.nm
 with_reducible refine⟨_,(A1 (B4 (PW.pt (Qt (Fs (Db (Ae (Vq (K:=K)) (by ac_nf) T.b_isinstance PyProof.Rows.Boot.«isinstance» (A0 (pv 1) (A0 (Aw (A0 (G9 (v:=.ty "tuple") (by ac_nf) T.b_tuple PyProof.Rows.Boot.«tuple» (by ac_nf)) (A0 (G9 (v:=.ty "list") (by ac_nf) T.b_list PyProof.Rows.Boot.«list» (by ac_nf)) A2))) A2))))) (Ks (Fs (Db (Bi c_are_tale_names (hr.mono (by decide)) (by ac_nf) (A0 (Bl (Bo (K:=K)) (by ac_nf) T.b_tuple PyProof.Rows.Boot.«tuple» (A0 (pv 1) A2)) A2))))))) (A4 Z4) Ah)
  (A1 (L5 (C:=C_Keeper) (pv 0) (Bl (Bo (K:=K)) (by ac_nf) T.b_tuple PyProof.Rows.Boot.«tuple» (A0 (pv 1) A2)) k_Keeper.cl k_Keeper.n_names (by ac_nf))
  (A1 (L5 (C:=C_Keeper) (pv 0) (Aw (A0 (Aw A2) (A0 A6 A2))) k_Keeper.cl k_Keeper.n_now (by ac_nf))
  (A1 (L5 (C:=C_Keeper) (pv 0) (Dc A2) k_Keeper.cl k_Keeper.n_past (by ac_nf))
  (A4 (L5 (C:=C_Keeper) (pv 0) (Dc A2) k_Keeper.cl k_Keeper.n_undone (by ac_nf))))))),?_⟩
 walk_at "rd"
 refine Au (A9 (by simp)) fun t1 H1 ht1 e1 h1=>?_
 have hp1:=e1 _ _ hp
 have hS1:=e1.seqT hS
 walk_at "rd"
 refine ar7 (cs:=["tuple","list"]) (b:=true) hS1 h1 (by first | rfl | kernel_rfl) ?_
 walk_at "rd"
 refine Ru (.inr hS1) fun a2 H2 e2 hS2=>?_
 walk_at "rd"
 refine⟨.ref a2,ns,rfl,M5 hS2,hN,h10,fun H3 e3=>?_⟩
 have e13:=e2.trans e3
 walk_at "rd"
 refine Ru (.inr (e13.seqT hS1)) fun a4 H4 e4 hS4=>?_
 have hp4:=e4 _ _ (e13 _ _ hp1)
 walk_at "rd"
 refine Xn hp4 (by decide) fun H5 e5 h5=>?_
 replace h5:H5 p=some (.ins C_Keeper dx [("names",.ref a4)]):=h5
 have fz5:=e5.fzI hp4
 walk_at "rd"
 refine Au (A9 (by simp)) fun t6 H6 ht6 e6 h6=>?_
 walk_at "rd"
 refine Au (A9 (by simp)) fun t7 H7 ht7 e7 h7=>?_
 have h57:=e7 _ _ (e6 _ _ h5)
 walk_at "rd"
 refine Xn h57 (by show 1<1000;decide) fun H8 e8 h8=>?_
 replace h8:H8 p=some (.ins C_Keeper dx [("names",.ref a4),("now",.ref t7)]):=h8
 have fz8:=e8.fzI h57
 walk_at "rd"
 refine De (A9 (by simp)) fun pl H9 hpl e9 h9=>?_
 have h89:=e9 _ _ h8
 have hplp:pl≠p:=(ne_of_none h8 hpl).symm
 walk_at "rd"
 refine Xn h89 (by show 2<1000;decide) fun H10 e10 h10'=>?_
 replace h10':H10 p=some (.ins C_Keeper dx [("names",.ref a4),("now",.ref t7),("past",.ref pl)]):=h10'
 have fz10:=e10.fzI h89
 walk_at "rd"
 refine De (A9 (by simp)) fun ul H11 hul e11 h11=>?_
 have h1011:=e11 _ _ h10'
 have hulp:ul≠p:=(ne_of_none h10' hul).symm
 walk_at "rd"
 refine Xn h1011 (by show 3<1000;decide) fun H12 e12 h12=>?_
 replace h12:H12 p=some (.ins C_Keeper dx [("names",.ref a4),("now",.ref t7),("past",.ref pl),("undone",.ref ul)]):=h12
 have fz12:=e12.fzI h1011
 have fz812:=(e9.fz.trans fz10).trans (e11.fz.trans fz12)
 have fz712:=fz8.trans fz812
 walk_at "rd"
 refine k pl H12 ?_ ?_ ⟨⟨dx,.ref a4,t7,.ref ul,[],h12,M5 (((fz5.trans (e6.trans e7).fz).trans fz712).seq hS4),?_,e12 _ _ hplp (e11 _ _ (e10 _ _ hplp h9)),⟨Nat.le_refl _,by omega⟩⟩,hN,h10,fun e he=>(by cases he),fun x g=>?_,by simp⟩
 . have:H5 pl=none:=(e6.trans e7).free (Rl e8 hplp hpl)
   exact e1.free (e13.free (e4.free (Rl e5 hplp this)))
 . exact fun b o hb q=>e12 _ _ hb (e11 _ _ (e10 _ _ hb (e9 _ _ (e8 _ _ hb (e7 _ _ (e6 _ _ (e5 _ _ hb (e4 _ _ (e13 _ _ (e1 _ _ q))))))))))
 . refine Is.of_tup (fz712.seq (SqT.of h7)) (.cons (Is.of_tup ((e7.fz.trans fz712).seq (SqT.of h6)) .nil) (.one Hl))
 have:=g.left
 simp at this
def at8 (K:PySem.W.Frag)(H:Hp)(C:Addr)(fs:List (Str×V))(C_NoName C_Clash C_NoSaying C_TooMany:Addr)(D:PyData):Prop:=
 (C=C_NoName/\∃ z,fs=[(("name":Str),V.str z)]/\D = .tuple [.str "name",.str z])\/(C=C_Clash/\∃ u js,fs=[(("way":Str),u)]/\Is K H (jsD js) u/\D = .tuple [.str "clash",jsD js]) \/
 (C=C_NoSaying/\∃ i,fs=[(("number":Str),V.int i)]/\D = .tuple [.str "saying",.int i])\/(C=C_TooMany/\fs=[(("word":Str),V.str "sayings")]/\D = .tuple [.str "many",.str "sayings"])
theorem Ad {L:List Addr}(h:L.Nodup){i j:Nat}{a b:Addr}(hi:L[i]? = some a)(hj:L[j]? = some b)(hij:i≠j):a≠b:=fun e=>by
 subst e
 obtain⟨i1,i2⟩:=List.getElem?_eq_some_iff.mp hi
 obtain⟨j1,j2⟩:=List.getElem?_eq_some_iff.mp hj
 exact hij ((List.getElem_inj h).mp (i2.trans j2.symm))
def Eu (C_NoName C_Clash C_NoSaying C_TooMany:Addr)(K:PySem.W.Frag):Sp:=fun vs H Q _=>∃ a C fs D,vs=[.ref a]/\ExB false H a C fs/\at8 K H C fs C_NoName C_Clash C_NoSaying C_TooMany D/\∀ u H',Same H H'->Is K H' D u->Q u H'
theorem Jq {f:Addr}{fd:FuncData}(F:Fun K "_law_refusal" "_law_refusal" Bu f fd)(T:Fa mg){C_HalfError:Addr}{C_NoHalf:Addr}{C_NoText:Addr}{C_NoName:Addr}{C_TooMany:Addr}{C_NoCover:Addr}{C_NoPlace:Addr}{C_NoOrder:Addr}{C_NoJoin:Addr}{C_Clash:Addr}{C_NoPaper:Addr}{C_NoPlan:Addr}{C_NoBound:Addr}{C_NoSaying:Addr}{C_NoMore:Addr}(x_HalfError:Aj K mg C_HalfError C_HalfError)(x_NoHalf:Iv K mg C_NoHalf C_HalfError)(x_NoText:Mw K mg C_NoText C_HalfError)(x_NoName:Bc K mg C_NoName C_HalfError)(x_TooMany:Ey K mg C_TooMany C_HalfError)(x_NoCover:Ld K mg C_NoCover C_HalfError)(x_NoPlace:Li K mg C_NoPlace C_HalfError)(x_NoOrder:Kx K mg C_NoOrder C_HalfError)(x_NoJoin:Mr K mg C_NoJoin C_HalfError)(x_Clash:Gi K mg C_Clash C_HalfError)(x_NoPaper:Lm K mg C_NoPaper C_HalfError)(x_NoPlan:Ms K mg C_NoPlan C_HalfError)(x_NoBound:Lg K mg C_NoBound C_HalfError)(x_NoSaying:Ct K mg C_NoSaying C_HalfError)(x_NoMore:Gx K mg C_NoMore C_HalfError)(ndX:([C_HalfError,C_Clash,C_NoBound,C_NoCover,C_NoHalf,C_NoJoin,C_NoMore,C_NoName,C_NoOrder,C_NoPaper,C_NoPlace,C_NoPlan,C_NoSaying,C_NoText,C_TooMany]:List Addr).Nodup):Y0 P w K mg base 1 f fd ["_law_e"] (Eu C_NoName C_Clash C_NoSaying C_TooMany K):=by
 refine F.okH Et (fun vs H Q E h=>?_) (fun cdv A outer s H vs Q E hr h=>?_)
 . obtain⟨a,C,fs,D,rfl,_⟩:=h
   rfl
 obtain⟨a,C,fs,D,rfl,hE,hR,k⟩:=h
 have hu:=ak9 hr
 have hq:=ah0 hr
 obtain⟨xc,xm⟩:XC K C/\Cf K C C_HalfError=true:=by
  rcases hR with ⟨rfl,_⟩ | ⟨rfl,_⟩ | ⟨rfl,_⟩ | ⟨rfl,_⟩
  . exact⟨x_NoName.xc,x_NoName.mr⟩
  . exact⟨x_Clash.xc,x_Clash.mr⟩
  . exact⟨x_NoSaying.xc,x_NoSaying.mr⟩
  exact⟨x_TooMany.xc,x_TooMany.mr⟩
 have kitY:∀ {A:Addr},XC K A->PySem.W.kitOne K (.ref C) (.ref A)=some (C==A||A==C_HalfError):=fun hx=>aa2 xc xm hx
 have kitN:∀ {A:Addr},XC K A->C≠A->A≠C_HalfError->PySem.W.kitOne K (.ref C) (.ref A)=some false:=fun hx h1 h2=>by rw[kitY hx,beq_eq_false_iff_ne.mpr h1,beq_eq_false_iff_ne.mpr h2];rfl
 have kitS:(∀ A∈[C_NoBound,C_NoCover,C_NoHalf,C_NoJoin,C_NoOrder,C_NoPaper,C_NoPlace,C_NoPlan,C_NoText],C≠A/\A≠C_HalfError/\XC K A)->PySem.W.kitAny K (.ref C) ([C_NoBound,C_NoCover,C_NoHalf,C_NoJoin,C_NoOrder,C_NoPaper,C_NoPlace,C_NoPlan,C_NoText].map Value.ref)=some false:=fun h=>by
  simp only[List.mem_cons,List.not_mem_nil,or_false,forall_eq_or_imp,forall_eq] at h
  obtain⟨⟨a0,b0,c0⟩,⟨a1,b1,c1⟩,⟨a2,b2,c2⟩,⟨a3,b3,c3⟩,⟨a4,b4,c4⟩,⟨a5,b5,c5⟩,⟨a6,b6,c6⟩,⟨a7,b7,c7⟩,⟨a8,b8,c8⟩⟩:=h
  simp only[List.map_cons,List.map_nil,PySem.W.kitAny,kitN c0 a0 b0,kitN c1 a1 b1,kitN c2 a2 b2,kitN c3 a3 b3,kitN c4 a4 b4,kitN c5 a5 b5,kitN c6 a6 b6,kitN c7 a7 b7,kitN c8 a8 b8]
 with_reducible refine⟨_,(A1 (Ai (i:=1) Et.nd (by ac_nf) (by eq_refl) (Dc A2))
  (A1 (B4 (Db (Ae (Fc (K:=K)) (by ac_nf) T.b_isinstance PyProof.Rows.Boot.«isinstance» (A0 (pv 0) (A0 (Gf (v:=.ref C_Clash) (by ac_nf) ⟨_,x_Clash.gl,(by ac_nf)⟩) A2)))) (A4 (Cl (Gb (K:=K) PySem.F.plainAttrs_list PySem.F.slot_list_append PySem.F.type_list_append (mm C2) (pv 1) (A0 (Aw (A0 A7 (A0 (K3 (K:=K) (pv 0) (by ac_nf)) A2))) A2)))) Ah)
  (A1 (B4 (Db (Ae (Fc (K:=K)) (by ac_nf) T.b_isinstance PyProof.Rows.Boot.«isinstance» (A0 (pv 0) (A0 (Gf (v:=.ref C_NoName) (by ac_nf) ⟨_,x_NoName.gl,(by ac_nf)⟩) A2)))) (A4 (Cl (Gb (K:=K) PySem.F.plainAttrs_list PySem.F.slot_list_append PySem.F.type_list_append (mm C2) (pv 1) (A0 (Aw (A0 A7 (A0 (K3 (K:=K) (pv 0) (by ac_nf)) A2))) A2)))) Ah)
  (A1 (B4 (Db (Ae (Fc (K:=K)) (by ac_nf) T.b_isinstance PyProof.Rows.Boot.«isinstance» (A0 (pv 0) (A0 (Gf (v:=.ref C_NoSaying) (by ac_nf) ⟨_,x_NoSaying.gl,(by ac_nf)⟩) A2)))) (A4 (Cl (Gb (K:=K) PySem.F.plainAttrs_list PySem.F.slot_list_append PySem.F.type_list_append (mm C2) (pv 1) (A0 (Aw (A0 A7 (A0 (K3 (K:=K) (pv 0) (by ac_nf)) A2))) A2)))) Ah)
  (A1 (B4 (Db (Ae (Fc (K:=K)) (by ac_nf) T.b_isinstance PyProof.Rows.Boot.«isinstance» (A0 (pv 0) (A0 (Gf (v:=.ref C_TooMany) (by ac_nf) ⟨_,x_TooMany.gl,(by ac_nf)⟩) A2)))) (A4 (Cl (Gb (K:=K) PySem.F.plainAttrs_list PySem.F.slot_list_append PySem.F.type_list_append (mm C2) (pv 1) (A0 (Aw (A0 A7 (A0 (K3 (K:=K) (pv 0) (by ac_nf)) A2))) A2)))) Ah)
  (A1 (B4 (Db (Ae (Fc (K:=K)) (by ac_nf) T.b_isinstance PyProof.Rows.Boot.«isinstance» (A0 (pv 0) (A0 (Gf (v:=.ref C_NoMore) (by ac_nf) ⟨_,x_NoMore.gl,(by ac_nf)⟩) A2)))) (A4 (Cl (Gb (K:=K) PySem.F.plainAttrs_list PySem.F.slot_list_append PySem.F.type_list_append (mm C2) (pv 1) (A0 (Aw (A0 A7 A2)) A2)))) Ah)
  (A1 (Ai (i:=2) Et.nd (by ac_nf) (by eq_refl) (Ae (Fc (K:=K)) (by ac_nf) T.b_isinstance PyProof.Rows.Boot.«isinstance» (A0 (pv 0) (A0 (Aw (A0 (Gf (v:=.ref C_NoBound) (by ac_nf) ⟨_,x_NoBound.gl,(by ac_nf)⟩) (A0 (Gf (v:=.ref C_NoCover) (by ac_nf) ⟨_,x_NoCover.gl,(by ac_nf)⟩) (A0 (Gf (v:=.ref C_NoHalf) (by ac_nf) ⟨_,x_NoHalf.gl,(by ac_nf)⟩) (A0 (Gf (v:=.ref C_NoJoin) (by ac_nf) ⟨_,x_NoJoin.gl,(by ac_nf)⟩) (A0 (Gf (v:=.ref C_NoOrder) (by ac_nf) ⟨_,x_NoOrder.gl,(by ac_nf)⟩) (A0 (Gf (v:=.ref C_NoPaper) (by ac_nf) ⟨_,x_NoPaper.gl,(by ac_nf)⟩) (A0 (Gf (v:=.ref C_NoPlace) (by ac_nf) ⟨_,x_NoPlace.gl,(by ac_nf)⟩) (A0 (Gf (v:=.ref C_NoPlan) (by ac_nf) ⟨_,x_NoPlan.gl,(by ac_nf)⟩) (A0 (Gf (v:=.ref C_NoText) (by ac_nf) ⟨_,x_NoText.gl,(by ac_nf)⟩) A2)))))))))) A2))))
  (A4 (Ak (Jv (PW.pt (Na (Ac (Ba (K:=K) hq) (Ae (C1 (K:=K)) (by ac_nf) T.b_len PyProof.Rows.Boot.«len» (A0 (pv 1) A2)) A6 (Al _)) (Na (Fs (Db (pv 2))) (L0 (Db (Ae (Fc (K:=K)) (by ac_nf) T.b_isinstance PyProof.Rows.Boot.«isinstance» (A0 (pv 0) (A0 (G9 (v:=.ty "ValueError") (by ac_nf) T.b_ValueError PyProof.Rows.Boot.«ValueError» (by ac_nf)) A2)))))))) (Ag (A5 (K:=K) hu) (pv 1) A6 (by ac_rfl)) (Aw (A0 A7 A2)))))))))))),?_⟩
 walk_at "rd"
 refine De (A9 (by simp)) fun l H1 hl1 e1 h1=>?_
 have hE1:=hE.same e1
 rcases hR with ⟨rfl,z,rfl,rfl⟩ | ⟨rfl,u,js,rfl,hU,rfl⟩ | ⟨rfl,i,rfl,rfl⟩ | ⟨rfl,rfl,rfl⟩
 . walk_at "rd"
   refine Fq hE1 xc (kitN x_Clash.xc (Ad ndX (i:=7) (j:=1) rfl rfl (by decide)) (Ad ndX (i:=1) (j:=0) rfl rfl (by decide))) ?_
   walk_at "rd"
   refine Fq hE1 xc (show _=some true by rw[kitY x_NoName.xc,beq_self_eq_true,Bool.true_or]) ?_
   walk_at "rd"
   refine Sk hE1 xc x_NoName.n_name (show _=some _ from rfl) ?_
   walk_at "rd"
   refine Au (A9 (by simp)) fun t2 H2 ht2 e2 h2=>?_
   walk_at "rd"
   refine Iq (e2 _ _ h1) (by simp) fun H3 e3 h3=>?_
   have e03:Same H H3:=(e1.trans e2).off hl1 e3
   have hE3:=hE.same e03
   have ht3:SqT K H3 t2 _:=(e3.fzL (e2 _ _ h1)).seq (SqT.of h2)
   walk_at "rd"
   refine Fq hE3 xc (kitN x_NoSaying.xc (Ad ndX (i:=7) (j:=12) rfl rfl (by decide)) (Ad ndX (i:=12) (j:=0) rfl rfl (by decide))) ?_
   walk_at "rd"
   refine Fq hE3 xc (kitN x_TooMany.xc (Ad ndX (i:=7) (j:=14) rfl rfl (by decide)) (Ad ndX (i:=14) (j:=0) rfl rfl (by decide))) ?_
   walk_at "rd"
   refine Fq hE3 xc (kitN x_NoMore.xc (Ad ndX (i:=7) (j:=6) rfl rfl (by decide)) (Ad ndX (i:=6) (j:=0) rfl rfl (by decide))) ?_
   walk_at "rd"
   refine Au (A9 (by simp)) fun t4 H4 ht4 e4 h4=>?_
   have hE4:=hE3.same e4
   have e0n:Same H H4:=e03.trans e4
   walk_at "rd"
   refine Sb (cs:=[C_NoBound,C_NoCover,C_NoHalf,C_NoJoin,C_NoOrder,C_NoPaper,C_NoPlace,C_NoPlan,C_NoText]) hE4 xc h4 (kitS fun A hA=>?_) ?_
   . simp only[List.mem_cons,List.not_mem_nil,or_false] at hA
     rcases hA with rfl | rfl | rfl | rfl | rfl | rfl | rfl | rfl | rfl
     . exact⟨Ad ndX (i:=7) (j:=2) rfl rfl (by decide),Ad ndX (i:=2) (j:=0) rfl rfl (by decide),x_NoBound.xc⟩
     . exact⟨Ad ndX (i:=7) (j:=3) rfl rfl (by decide),Ad ndX (i:=3) (j:=0) rfl rfl (by decide),x_NoCover.xc⟩
     . exact⟨Ad ndX (i:=7) (j:=4) rfl rfl (by decide),Ad ndX (i:=4) (j:=0) rfl rfl (by decide),x_NoHalf.xc⟩
     . exact⟨Ad ndX (i:=7) (j:=5) rfl rfl (by decide),Ad ndX (i:=5) (j:=0) rfl rfl (by decide),x_NoJoin.xc⟩
     . exact⟨Ad ndX (i:=7) (j:=8) rfl rfl (by decide),Ad ndX (i:=8) (j:=0) rfl rfl (by decide),x_NoOrder.xc⟩
     . exact⟨Ad ndX (i:=7) (j:=9) rfl rfl (by decide),Ad ndX (i:=9) (j:=0) rfl rfl (by decide),x_NoPaper.xc⟩
     . exact⟨Ad ndX (i:=7) (j:=10) rfl rfl (by decide),Ad ndX (i:=10) (j:=0) rfl rfl (by decide),x_NoPlace.xc⟩
     . exact⟨Ad ndX (i:=7) (j:=11) rfl rfl (by decide),Ad ndX (i:=11) (j:=0) rfl rfl (by decide),x_NoPlan.xc⟩
     exact⟨Ad ndX (i:=7) (j:=13) rfl rfl (by decide),Ad ndX (i:=13) (j:=0) rfl rfl (by decide),x_NoText.xc⟩
   walk_at "rd"
   refine Pj ?_
   have h4l:=e4 _ _ h3
   walk_at "rd"
   refine G4 (fun _=>?_) (fun hc=>absurd rfl hc)
   walk_at "rd"
   refine Rw hE4 xc (Oe xm) ?_
   walk_at "rd"
   refine Im h4l (v:=.ref t2) (Ck (j:=0) rfl) ?_
   walk_at "rd"
   exact k _ H4 e0n (Is.of_tup (e4.seqT ht3) (.cons Dj (.one Dj)))
 . walk_at "rd"
   refine Fq hE1 xc (show _=some true by rw[kitY x_Clash.xc,beq_self_eq_true,Bool.true_or]) ?_
   walk_at "rd"
   refine Sk hE1 xc x_Clash.n_way (show _=some _ from rfl) ?_
   walk_at "rd"
   refine Au (A9 (by simp)) fun t2 H2 ht2 e2 h2=>?_
   walk_at "rd"
   refine Iq (e2 _ _ h1) (by simp) fun H3 e3 h3=>?_
   have e03:Same H H3:=(e1.trans e2).off hl1 e3
   have hE3:=hE.same e03
   have ht3:SqT K H3 t2 _:=(e3.fzL (e2 _ _ h1)).seq (SqT.of h2)
   walk_at "rd"
   refine Fq hE3 xc (kitN x_NoName.xc (Ad ndX (i:=1) (j:=7) rfl rfl (by decide)) (Ad ndX (i:=7) (j:=0) rfl rfl (by decide))) ?_
   walk_at "rd"
   refine Fq hE3 xc (kitN x_NoSaying.xc (Ad ndX (i:=1) (j:=12) rfl rfl (by decide)) (Ad ndX (i:=12) (j:=0) rfl rfl (by decide))) ?_
   walk_at "rd"
   refine Fq hE3 xc (kitN x_TooMany.xc (Ad ndX (i:=1) (j:=14) rfl rfl (by decide)) (Ad ndX (i:=14) (j:=0) rfl rfl (by decide))) ?_
   walk_at "rd"
   refine Fq hE3 xc (kitN x_NoMore.xc (Ad ndX (i:=1) (j:=6) rfl rfl (by decide)) (Ad ndX (i:=6) (j:=0) rfl rfl (by decide))) ?_
   walk_at "rd"
   refine Au (A9 (by simp)) fun t4 H4 ht4 e4 h4=>?_
   have hE4:=hE3.same e4
   have e0n:Same H H4:=e03.trans e4
   walk_at "rd"
   refine Sb (cs:=[C_NoBound,C_NoCover,C_NoHalf,C_NoJoin,C_NoOrder,C_NoPaper,C_NoPlace,C_NoPlan,C_NoText]) hE4 xc h4 (kitS fun A hA=>?_) ?_
   . simp only[List.mem_cons,List.not_mem_nil,or_false] at hA
     rcases hA with rfl | rfl | rfl | rfl | rfl | rfl | rfl | rfl | rfl
     . exact⟨Ad ndX (i:=1) (j:=2) rfl rfl (by decide),Ad ndX (i:=2) (j:=0) rfl rfl (by decide),x_NoBound.xc⟩
     . exact⟨Ad ndX (i:=1) (j:=3) rfl rfl (by decide),Ad ndX (i:=3) (j:=0) rfl rfl (by decide),x_NoCover.xc⟩
     . exact⟨Ad ndX (i:=1) (j:=4) rfl rfl (by decide),Ad ndX (i:=4) (j:=0) rfl rfl (by decide),x_NoHalf.xc⟩
     . exact⟨Ad ndX (i:=1) (j:=5) rfl rfl (by decide),Ad ndX (i:=5) (j:=0) rfl rfl (by decide),x_NoJoin.xc⟩
     . exact⟨Ad ndX (i:=1) (j:=8) rfl rfl (by decide),Ad ndX (i:=8) (j:=0) rfl rfl (by decide),x_NoOrder.xc⟩
     . exact⟨Ad ndX (i:=1) (j:=9) rfl rfl (by decide),Ad ndX (i:=9) (j:=0) rfl rfl (by decide),x_NoPaper.xc⟩
     . exact⟨Ad ndX (i:=1) (j:=10) rfl rfl (by decide),Ad ndX (i:=10) (j:=0) rfl rfl (by decide),x_NoPlace.xc⟩
     . exact⟨Ad ndX (i:=1) (j:=11) rfl rfl (by decide),Ad ndX (i:=11) (j:=0) rfl rfl (by decide),x_NoPlan.xc⟩
     exact⟨Ad ndX (i:=1) (j:=13) rfl rfl (by decide),Ad ndX (i:=13) (j:=0) rfl rfl (by decide),x_NoText.xc⟩
   walk_at "rd"
   refine Pj ?_
   have h4l:=e4 _ _ h3
   walk_at "rd"
   refine G4 (fun _=>?_) (fun hc=>absurd rfl hc)
   walk_at "rd"
   refine Rw hE4 xc (Oe xm) ?_
   walk_at "rd"
   refine Im h4l (v:=.ref t2) (Ck (j:=0) rfl) ?_
   walk_at "rd"
   exact k _ H4 e0n (Is.of_tup (e4.seqT ht3) (.cons Dj (.one (Is.mono e0n _ _ hU))))
 . walk_at "rd"
   refine Fq hE1 xc (kitN x_Clash.xc (Ad ndX (i:=12) (j:=1) rfl rfl (by decide)) (Ad ndX (i:=1) (j:=0) rfl rfl (by decide))) ?_
   walk_at "rd"
   refine Fq hE1 xc (kitN x_NoName.xc (Ad ndX (i:=12) (j:=7) rfl rfl (by decide)) (Ad ndX (i:=7) (j:=0) rfl rfl (by decide))) ?_
   walk_at "rd"
   refine Fq hE1 xc (show _=some true by rw[kitY x_NoSaying.xc,beq_self_eq_true,Bool.true_or]) ?_
   walk_at "rd"
   refine Sk hE1 xc x_NoSaying.n_number (show _=some _ from rfl) ?_
   walk_at "rd"
   refine Au (A9 (by simp)) fun t2 H2 ht2 e2 h2=>?_
   walk_at "rd"
   refine Iq (e2 _ _ h1) (by simp) fun H3 e3 h3=>?_
   have e03:Same H H3:=(e1.trans e2).off hl1 e3
   have hE3:=hE.same e03
   have ht3:SqT K H3 t2 _:=(e3.fzL (e2 _ _ h1)).seq (SqT.of h2)
   walk_at "rd"
   refine Fq hE3 xc (kitN x_TooMany.xc (Ad ndX (i:=12) (j:=14) rfl rfl (by decide)) (Ad ndX (i:=14) (j:=0) rfl rfl (by decide))) ?_
   walk_at "rd"
   refine Fq hE3 xc (kitN x_NoMore.xc (Ad ndX (i:=12) (j:=6) rfl rfl (by decide)) (Ad ndX (i:=6) (j:=0) rfl rfl (by decide))) ?_
   walk_at "rd"
   refine Au (A9 (by simp)) fun t4 H4 ht4 e4 h4=>?_
   have hE4:=hE3.same e4
   have e0n:Same H H4:=e03.trans e4
   walk_at "rd"
   refine Sb (cs:=[C_NoBound,C_NoCover,C_NoHalf,C_NoJoin,C_NoOrder,C_NoPaper,C_NoPlace,C_NoPlan,C_NoText]) hE4 xc h4 (kitS fun A hA=>?_) ?_
   . simp only[List.mem_cons,List.not_mem_nil,or_false] at hA
     rcases hA with rfl | rfl | rfl | rfl | rfl | rfl | rfl | rfl | rfl
     . exact⟨Ad ndX (i:=12) (j:=2) rfl rfl (by decide),Ad ndX (i:=2) (j:=0) rfl rfl (by decide),x_NoBound.xc⟩
     . exact⟨Ad ndX (i:=12) (j:=3) rfl rfl (by decide),Ad ndX (i:=3) (j:=0) rfl rfl (by decide),x_NoCover.xc⟩
     . exact⟨Ad ndX (i:=12) (j:=4) rfl rfl (by decide),Ad ndX (i:=4) (j:=0) rfl rfl (by decide),x_NoHalf.xc⟩
     . exact⟨Ad ndX (i:=12) (j:=5) rfl rfl (by decide),Ad ndX (i:=5) (j:=0) rfl rfl (by decide),x_NoJoin.xc⟩
     . exact⟨Ad ndX (i:=12) (j:=8) rfl rfl (by decide),Ad ndX (i:=8) (j:=0) rfl rfl (by decide),x_NoOrder.xc⟩
     . exact⟨Ad ndX (i:=12) (j:=9) rfl rfl (by decide),Ad ndX (i:=9) (j:=0) rfl rfl (by decide),x_NoPaper.xc⟩
     . exact⟨Ad ndX (i:=12) (j:=10) rfl rfl (by decide),Ad ndX (i:=10) (j:=0) rfl rfl (by decide),x_NoPlace.xc⟩
     . exact⟨Ad ndX (i:=12) (j:=11) rfl rfl (by decide),Ad ndX (i:=11) (j:=0) rfl rfl (by decide),x_NoPlan.xc⟩
     exact⟨Ad ndX (i:=12) (j:=13) rfl rfl (by decide),Ad ndX (i:=13) (j:=0) rfl rfl (by decide),x_NoText.xc⟩
   walk_at "rd"
   refine Pj ?_
   have h4l:=e4 _ _ h3
   walk_at "rd"
   refine G4 (fun _=>?_) (fun hc=>absurd rfl hc)
   walk_at "rd"
   refine Rw hE4 xc (Oe xm) ?_
   walk_at "rd"
   refine Im h4l (v:=.ref t2) (Ck (j:=0) rfl) ?_
   walk_at "rd"
   exact k _ H4 e0n (Is.of_tup (e4.seqT ht3) (.cons Dj (.one Hl)))
 walk_at "rd"
 refine Fq hE1 xc (kitN x_Clash.xc (Ad ndX (i:=14) (j:=1) rfl rfl (by decide)) (Ad ndX (i:=1) (j:=0) rfl rfl (by decide))) ?_
 walk_at "rd"
 refine Fq hE1 xc (kitN x_NoName.xc (Ad ndX (i:=14) (j:=7) rfl rfl (by decide)) (Ad ndX (i:=7) (j:=0) rfl rfl (by decide))) ?_
 walk_at "rd"
 refine Fq hE1 xc (kitN x_NoSaying.xc (Ad ndX (i:=14) (j:=12) rfl rfl (by decide)) (Ad ndX (i:=12) (j:=0) rfl rfl (by decide))) ?_
 walk_at "rd"
 refine Fq hE1 xc (show _=some true by rw[kitY x_TooMany.xc,beq_self_eq_true,Bool.true_or]) ?_
 walk_at "rd"
 refine Sk hE1 xc x_TooMany.n_word (show _=some _ from rfl) ?_
 walk_at "rd"
 refine Au (A9 (by simp)) fun t2 H2 ht2 e2 h2=>?_
 walk_at "rd"
 refine Iq (e2 _ _ h1) (by simp) fun H3 e3 h3=>?_
 have e03:Same H H3:=(e1.trans e2).off hl1 e3
 have hE3:=hE.same e03
 have ht3:SqT K H3 t2 _:=(e3.fzL (e2 _ _ h1)).seq (SqT.of h2)
 walk_at "rd"
 refine Fq hE3 xc (kitN x_NoMore.xc (Ad ndX (i:=14) (j:=6) rfl rfl (by decide)) (Ad ndX (i:=6) (j:=0) rfl rfl (by decide))) ?_
 walk_at "rd"
 refine Au (A9 (by simp)) fun t4 H4 ht4 e4 h4=>?_
 have hE4:=hE3.same e4
 have e0n:Same H H4:=e03.trans e4
 walk_at "rd"
 refine Sb (cs:=[C_NoBound,C_NoCover,C_NoHalf,C_NoJoin,C_NoOrder,C_NoPaper,C_NoPlace,C_NoPlan,C_NoText]) hE4 xc h4 (kitS fun A hA=>?_) ?_
 . simp only[List.mem_cons,List.not_mem_nil,or_false] at hA
   rcases hA with rfl | rfl | rfl | rfl | rfl | rfl | rfl | rfl | rfl
   . exact⟨Ad ndX (i:=14) (j:=2) rfl rfl (by decide),Ad ndX (i:=2) (j:=0) rfl rfl (by decide),x_NoBound.xc⟩
   . exact⟨Ad ndX (i:=14) (j:=3) rfl rfl (by decide),Ad ndX (i:=3) (j:=0) rfl rfl (by decide),x_NoCover.xc⟩
   . exact⟨Ad ndX (i:=14) (j:=4) rfl rfl (by decide),Ad ndX (i:=4) (j:=0) rfl rfl (by decide),x_NoHalf.xc⟩
   . exact⟨Ad ndX (i:=14) (j:=5) rfl rfl (by decide),Ad ndX (i:=5) (j:=0) rfl rfl (by decide),x_NoJoin.xc⟩
   . exact⟨Ad ndX (i:=14) (j:=8) rfl rfl (by decide),Ad ndX (i:=8) (j:=0) rfl rfl (by decide),x_NoOrder.xc⟩
   . exact⟨Ad ndX (i:=14) (j:=9) rfl rfl (by decide),Ad ndX (i:=9) (j:=0) rfl rfl (by decide),x_NoPaper.xc⟩
   . exact⟨Ad ndX (i:=14) (j:=10) rfl rfl (by decide),Ad ndX (i:=10) (j:=0) rfl rfl (by decide),x_NoPlace.xc⟩
   . exact⟨Ad ndX (i:=14) (j:=11) rfl rfl (by decide),Ad ndX (i:=11) (j:=0) rfl rfl (by decide),x_NoPlan.xc⟩
   exact⟨Ad ndX (i:=14) (j:=13) rfl rfl (by decide),Ad ndX (i:=13) (j:=0) rfl rfl (by decide),x_NoText.xc⟩
 walk_at "rd"
 refine Pj ?_
 have h4l:=e4 _ _ h3
 walk_at "rd"
 refine G4 (fun _=>?_) (fun hc=>absurd rfl hc)
 walk_at "rd"
 refine Rw hE4 xc (Oe xm) ?_
 walk_at "rd"
 refine Im h4l (v:=.ref t2) (Ck (j:=0) rfl) ?_
 walk_at "rd"
 exact k _ H4 e0n (Is.of_tup (e4.seqT ht3) (.cons Dj (.one Dj)))
def af7 (es:List (Nat×(Str×Str)))(js:List Nat):PyData:=jsD (js.map fun j=>(es.getD j (0,("",""))).1)
def B7 (C:Addr)(K:PySem.W.Frag):Sp:=fun vs H Q _=>∃ p pl ns es n w v1 v2,vs=[.ref p,.str w,v1,v2]/\KpAt K C H p pl ns es n /\
 ((w=("say":Str)/\∃ x y,v1 = .str x/\v2 = .str y/\es.length<60/\n<1000/\(∀ z u H',Ua ns [x,y] z->Same H H'->Is K H' (.tuple [.str "name",.str z]) u->Q u H') /\
   (x∈ns->y∈ns->(∀ u H' js os,Same H H'->Is K H' (.tuple [.str "clash",af7 es js]) u->js.length<=1000->Trl (es.map (·.2)) y js x os->Q u H')/\(x≠y->¬ Way (es.map (·.2)) y x->∀ H',W1 p pl H H'->Fz H H'->KpAt K C H' p pl ns (es++[(n,(x,y))]) (n+1)->Q (.int ((n:Nat):Int)) H'))) \/
  (w=("saying":Str)/\∃ i,v1 = .int i/\(es.map (·.1)).Nodup/\(∀ e∈es,((e.1:Nat):Int)=i->∀ u,Is K H (prD e.2) u->Q u H)/\((∀ e∈es,((e.1:Nat):Int)≠i)->∀ u H',Same H H'->Is K H' (.tuple [.str "saying",.int i]) u->Q u H')) \/
  (w=("lead":Str)/\∃ x y,v1 = .str x/\v2 = .str y/\(∀ z u H',Ua ns [x,y] z->Same H H'->Is K H' (.tuple [.str "name",.str z]) u->Q u H')/\(x∈ns->y∈ns->∀ u H',Same H H'->aj7 K H' es x y u->Q u H')) \/
  (w=("knows":Str)/\∃ x y,v1 = .str x/\v2 = .str y/\(∀ z u H',Ua ns [x,y] z->Same H H'->Is K H' (.tuple [.str "name",.str z]) u->Q u H')/\(x∈ns->y∈ns->∀ H',Same H H'->Q (knV (es.map (·.2)) x y) H')))
local macro_rules | `(tactic| walk_at "rq1") => L2.mAlts "i_nxS i_tMeth"
theorem ah2 {K:PySem.W.Frag}{C B:Addr}(hm:Cf K C B=true):PySem.W.mroIn K C (.ref B)=some true:=by
 obtain⟨cd,hc,hx⟩:=PySem.W.any_some hm
 unfold PySem.W.mroIn
 rw[hc,Option.bind_some,beq_iff_eq.mp hx,if_neg (by simp),List.contains_cons,List.contains_cons,beq_self_eq_true,Bool.true_or,Bool.or_true]
theorem Lk {f:Addr}{fd:FuncData}(F:Fun K "_law_told_by" "_law_told_by" Bv f fd)(T:Fa mg){C_Keeper:Addr}(k_Keeper:Ao K C_Keeper){C_HalfError:Addr}{C_NoName:Addr}{C_TooMany:Addr}{C_Clash:Addr}{C_NoSaying:Addr}(x_HalfError:Aj K mg C_HalfError C_HalfError)(x_NoName:Bc K mg C_NoName C_HalfError)(x_TooMany:Ey K mg C_TooMany C_HalfError)(x_Clash:Gi K mg C_Clash C_HalfError)(x_NoSaying:Ct K mg C_NoSaying C_HalfError)(ndX:([C_HalfError,C_Clash,C_NoBound,C_NoCover,C_NoHalf,C_NoJoin,C_NoMore,C_NoName,C_NoOrder,C_NoPaper,C_NoPlace,C_NoPlan,C_NoSaying,C_NoText,C_TooMany]:List Addr).Nodup)(d_Keeper_say:Pm P w K mg base 4 C_Keeper "say" ["self","name","other"] (Fo C_Keeper C_NoName C_Clash C_TooMany K))(d_Keeper_take:Pm P w K mg base 4 C_Keeper "take" ["self","number"] (Er C_Keeper C_NoSaying K))(d_Keeper_undo:Pm P w K mg base 1 C_Keeper "undo" ["self"] (Ev C_Keeper C_NoMore K))(d_Keeper_redo:Pm P w K mg base 1 C_Keeper "redo" ["self"] (Fd C_Keeper C_NoMore K))(d_Keeper_saying:Pm P w K mg base 3 C_Keeper "saying" ["self","number"] (Cd C_Keeper C_NoSaying K))(d_Keeper_knows:Pm P w K mg base 4 C_Keeper "knows" ["self","name","other"] (Ee C_Keeper C_NoName K))(d_Keeper_lead:Pm P w K mg base 4 C_Keeper "lead" ["self","name","other"] (Es C_Keeper C_NoName K))(h__law_refusal:ar8 P w K mg base 1 "_law_refusal" ["_law_e"] (Eu C_NoName C_Clash C_NoSaying C_TooMany K)):FnOk P w K mg base CX0 5 f fd ["_law_keeper","_law_word","_law_one","_law_other"] (B7 C_Keeper K):=by
 refine F.ok As (fun vs H Q E h=>?_) (fun cdv A outer s H vs Q E hr h=>?_)
 . obtain⟨p,pl,ns,es,n,w,v1,v2,rfl,_⟩:=h
   rfl
 obtain⟨p,pl,ns,es,n,w,v1,v2,rfl,hK,hw⟩:=h
 have hu:=Cg hr
 have hq:=Ch hr
 obtain⟨xG,hG⟩:∃ G:Addr->Hp->Prop,G=fun a H'=>∃ C fs D,XC K C/\Cf K C C_HalfError=true/\ExB false H' a C fs/\(fs≠[])/\at8 K H' C fs C_NoName C_Clash C_NoSaying C_TooMany D/\∀ u H'',Same H' H''->Is K H'' D u->Q u H'':=⟨_,rfl⟩
 obtain⟨dx,nv,w0,ul,ys,h1,h2,h3,h4,h5⟩:=hK.ex
 with_reducible refine⟨_,(A1 (Ai (i:=4) As.nd (by ac_nf) (by eq_refl) Hh)
  (A1 (ae3 (i:=5) xG As.nd (by ac_nf) (by ac_nf) (by ac_nf) x_HalfError.gl x_HalfError.xc (by ac_nf) (by ac_nf) (by ac_nf) (fun _ _ hps=>(A4 (B4 (Ac (Ba (K:=K) hq) (pv 1) A7 (Al _)) (A4 (Ai (i:=4) As.nd (by ac_nf) (by eq_refl) (Px (C:=C_Keeper) (pv 0) k_Keeper.cl d_Keeper_say (hr.mono (by decide)) hps (A0 (pv 2) (A0 (pv 3) A2))))) (A4 (B4 (Ac (Ba (K:=K) hq) (pv 1) A7 (Al _)) (A4 (Ai (i:=4) As.nd (by ac_nf) (by eq_refl) (Px (C:=C_Keeper) (pv 0) k_Keeper.cl d_Keeper_take (hr.mono (by decide)) hps (A0 (pv 2) A2)))) (A4 (B4 (Ac (Ba (K:=K) hq) (pv 1) A7 (Al _)) (A4 (Ai (i:=4) As.nd (by ac_nf) (by eq_refl) (X6 (C:=C_Keeper) (pv 0) k_Keeper.cl d_Keeper_undo (hr.mono (by decide)) hps))) (A4 (B4 (Ac (Ba (K:=K) hq) (pv 1) A7 (Al _)) (A4 (Ai (i:=4) As.nd (by ac_nf) (by eq_refl) (X6 (C:=C_Keeper) (pv 0) k_Keeper.cl d_Keeper_redo (hr.mono (by decide)) hps))) (A4 (B4 (Ac (Ba (K:=K) hq) (pv 1) A7 (Al _)) (A4 (Ai (i:=4) As.nd (by ac_nf) (by eq_refl) (Px (C:=C_Keeper) (pv 0) k_Keeper.cl d_Keeper_saying (hr.mono (by decide)) hps (A0 (pv 2) A2)))) (A4 (Ai (i:=4) As.nd (by ac_nf) (by eq_refl) (Jv (Ac (Ba (K:=K) hq) (pv 1) A7 (Al _)) (Px (C:=C_Keeper) (pv 0) k_Keeper.cl d_Keeper_lead (hr.mono (by decide)) hps (A0 (pv 2) (A0 (pv 3) A2))) (Px (C:=C_Keeper) (pv 0) k_Keeper.cl d_Keeper_knows (hr.mono (by decide)) hps (A0 (pv 2) (A0 (pv 3) A2)))))))))))))))))
  (fun _ _=>(A4 (Ai (i:=4) As.nd (by ac_nf) (by eq_refl) (al1 h__law_refusal ((hr.mono (by decide)).h _) (by ac_nf) (A0 (pv 5) A2))))))
  (A4 (Ak (pv 4))))),?_⟩
 walk_at "rd"
 refine⟨?_,fun a H' σ' hl hg=>?_⟩
 . rcases hw with ⟨rfl,x,y,rfl,rfl,hes,hn,k1,k2⟩ | ⟨rfl,i,rfl,hnd,k1,k2⟩ | ⟨rfl,x,y,rfl,rfl,k1,k2⟩ | ⟨rfl,x,y,rfl,rfl,k1,k2⟩
   . walk_at "rd"
     refine Lc h1 (by rfl) ?_
     walk_at "rd"
     refine⟨p,pl,ns,es,n,x,y,rfl,hK,fun z hz a H' e hE=>⟨a,rfl,by rw[hG];exact⟨C_NoName,_,_,x_NoName.xc,x_NoName.mr,hE,by simp,.inl ⟨rfl,z,rfl,rfl⟩,fun u H'' e2 hu=>k1 z u H'' hz (e.trans e2) hu⟩⟩,fun hx hy=>⟨fun a H' u js os e hE hI hl hT=>⟨a,rfl,by rw[hG];exact⟨C_Clash,_,_,x_Clash.xc,x_Clash.mr,hE,by simp,.inr (.inl ⟨rfl,u,_,rfl,hI,rfl⟩),fun u' H'' e2 hu'=>(k2 hx hy).1 u' H'' js os (e.trans e2) hu' hl hT⟩⟩,fun hq=>absurd hq.2.2 (by omega),fun hq=>⟨hn,fun H' kp fz hK'=>?_⟩⟩⟩
     walk_at "rd"
     exact(k2 hx hy).2 hq.1 hq.2.1 H' kp fz hK'
   . walk_at "rd"
     refine G4 (fun hc=>absurd hc (by decide +kernel)) (fun _=>?_)
     walk_at "rd"
     refine G4 (fun hc=>absurd hc (by decide +kernel)) (fun _=>?_)
     walk_at "rd"
     refine G4 (fun hc=>absurd hc (by decide +kernel)) (fun _=>?_)
     walk_at "rd"
     refine G4 (fun hc=>absurd hc (by decide +kernel)) (fun _=>?_)
     walk_at "rd"
     refine Lc h1 (by rfl) ?_
     walk_at "rd"
     refine⟨p,pl,ns,es,n,i,rfl,hK,hnd,fun e he hi u hu=>?_,fun hno a H' e hE=>⟨a,rfl,by rw[hG];exact⟨C_NoSaying,_,_,x_NoSaying.xc,x_NoSaying.mr,hE,by simp,.inr (.inr (.inl ⟨rfl,i,rfl,rfl⟩)),fun u H'' e2 hu=>k2 hno u H'' (e.trans e2) hu⟩⟩⟩
     walk_at "rd"
     exact k1 e he hi u hu
   . walk_at "rd"
     refine G4 (fun hc=>absurd hc (by decide +kernel)) (fun _=>?_)
     walk_at "rd"
     refine G4 (fun hc=>absurd hc (by decide +kernel)) (fun _=>?_)
     walk_at "rd"
     refine G4 (fun hc=>absurd hc (by decide +kernel)) (fun _=>?_)
     walk_at "rd"
     refine G4 (fun hc=>absurd hc (by decide +kernel)) (fun _=>?_)
     walk_at "rd"
     refine G4 (fun hc=>absurd hc (by decide +kernel)) (fun _=>?_)
     walk_at "rd"
     refine Pj ?_
     walk_at "rd"
     refine Lc h1 (by rfl) ?_
     walk_at "rd"
     refine⟨p,pl,ns,es,n,x,y,rfl,hK,fun z hz a H' e hE=>⟨a,rfl,by rw[hG];exact⟨C_NoName,_,_,x_NoName.xc,x_NoName.mr,hE,by simp,.inl ⟨rfl,z,rfl,rfl⟩,fun u H'' e2 hu=>k1 z u H'' hz (e.trans e2) hu⟩⟩,fun hx hy u H' e hL=>?_⟩
     walk_at "rd"
     exact k2 hx hy u H' e hL
   walk_at "rd"
   refine G4 (fun hc=>absurd hc (by decide +kernel)) (fun _=>?_)
   walk_at "rd"
   refine G4 (fun hc=>absurd hc (by decide +kernel)) (fun _=>?_)
   walk_at "rd"
   refine G4 (fun hc=>absurd hc (by decide +kernel)) (fun _=>?_)
   walk_at "rd"
   refine G4 (fun hc=>absurd hc (by decide +kernel)) (fun _=>?_)
   walk_at "rd"
   refine G4 (fun hc=>absurd hc (by decide +kernel)) (fun _=>?_)
   walk_at "rd"
   refine Pj ?_
   walk_at "rd"
   refine G4 (fun hc=>absurd hc (by decide +kernel)) (fun _=>?_)
   walk_at "rd"
   refine Lc h1 (by rfl) ?_
   walk_at "rd"
   refine⟨p,pl,ns,es,n,x,y,rfl,hK,fun z hz a H' e hE=>⟨a,rfl,by rw[hG];exact⟨C_NoName,_,_,x_NoName.xc,x_NoName.mr,hE,by simp,.inl ⟨rfl,z,rfl,rfl⟩,fun u H'' e2 hu=>k1 z u H'' hz (e.trans e2) hu⟩⟩,fun hx hy H' e=>?_⟩
   walk_at "rd"
   exact k2 hx hy H' e
 rw[hG] at hg
 obtain⟨C,fs,D,xc,xm,hE,hfs,hR,kk⟩:=hg
 obtain⟨y0,y1,y2,y3,y4,y5,rfl⟩:∃ y0 y1 y2 y3 y4 y5,σ'=[y0,y1,y2,y3,y4,y5]:=by
  match σ',hl with
  | [y0,y1,y2,y3,y4,y5],_=>exact⟨y0,y1,y2,y3,y4,y5,rfl⟩
 obtain⟨dx',ha⟩:∃ dx',H' a=some (exG false a C (some dx')):=by
  rcases hE with ⟨e,_⟩ | ⟨dx',_,h1,_⟩
  . exact absurd e hfs
  exact⟨dx',h1⟩
 refine⟨⟨C,some dx',ha,xc,ah2 xm⟩,?_⟩
 walk_at "rd"
 refine⟨a,C,fs,D,rfl,hE,hR,fun u H2 e2 hu2=>?_⟩
 walk_at "rd"
 exact kk u H2 e2 hu2
theorem La {f:Addr}{fd:FuncData}(F:Fun K "take" "Keeper.take" Df f fd)(T:Fa mg){C_Keeper:Addr}(k_Keeper:Ao K C_Keeper){C_HalfError:Addr}{C_NoName:Addr}{C_NoSaying:Addr}(x_HalfError:Aj K mg C_HalfError C_HalfError)(x_NoName:Bc K mg C_NoName C_HalfError)(x_NoSaying:Ct K mg C_NoSaying C_HalfError)(c_Keeper_go_on:Mtd P w K mg base 1 C_Keeper "go_on" ["self","kept","following"] (Dg C_Keeper K))(d_Keeper_saying:Pm P w K mg base 3 C_Keeper "saying" ["self","number"] (Cd C_Keeper C_NoSaying K)):FnOk P w K mg base (CX1 P w) 4 f fd ["self","number"] (Er C_Keeper C_NoSaying K):=FnOk.void fun vs H Q E h=>h
theorem L9 {f:Addr}{fd:FuncData}(F:Fun K "undo" "Keeper.undo" Cz f fd)(T:Fa mg){C_Keeper:Addr}(k_Keeper:Ao K C_Keeper){C_HalfError:Addr}{C_NoName:Addr}{C_NoMore:Addr}(x_HalfError:Aj K mg C_HalfError C_HalfError)(x_NoName:Bc K mg C_NoName C_HalfError)(x_NoMore:Gx K mg C_NoMore C_HalfError):FnOk P w K mg base (CX1 P w) 1 f fd ["self"] (Ev C_Keeper C_NoMore K):=FnOk.void fun vs H Q E h=>h
theorem Lj {f:Addr}{fd:FuncData}(F:Fun K "redo" "Keeper.redo" Dh f fd)(T:Fa mg){C_Keeper:Addr}(k_Keeper:Ao K C_Keeper){C_HalfError:Addr}{C_NoName:Addr}{C_NoMore:Addr}(x_HalfError:Aj K mg C_HalfError C_HalfError)(x_NoName:Bc K mg C_NoName C_HalfError)(x_NoMore:Gx K mg C_NoMore C_HalfError):FnOk P w K mg base (CX1 P w) 1 f fd ["self"] (Fd C_Keeper C_NoMore K):=FnOk.void fun vs H Q E h=>h
theorem M3 {f:Addr}{fd:FuncData}(F:Fun K "many" "Keeper.many" Cy f fd)(T:Fa mg){C_Keeper:Addr}(k_Keeper:Ao K C_Keeper)(c_count:Fnd P w K mg base 14 "count" ["half"] (Nx K))(c_Keeper_half:Mtd P w K mg base 1 C_Keeper "half" ["self"] (B2 C_Keeper K)):FnOk P w K mg base CX0 15 f fd ["self"] (Hi C_Keeper K):=FnOk.void fun vs H Q E h=>h
theorem Lv {f:Addr}{fd:FuncData}(F:Fun K "best" "Keeper.best" Cw f fd)(T:Fa mg){C_Keeper:Addr}(k_Keeper:Ao K C_Keeper)(c__wall:Fnd P w K mg base 1 "_wall" ["k"] (Od K)):FnOk P w K mg base CX0 2 f fd ["self"] (Hn C_Keeper K):=FnOk.void fun vs H Q E h=>h
structure KeD (K:PySem.W.Frag)(H:Hp)(kvs:List (Key×V))(es:List (Nat×(Str×Str))):Prop where
 ks:∃ is:List Int,kvs.map (·.1)=is.map Sum.inl/\is.Perm (es.map fun e=>((e.1:Nat):Int))
 vs:∀ e∈es,∃ v,Di kvs (Sum.inl ((e.1:Nat):Int):Key)=some v/\Is K H (prD e.2) v
theorem KeD.fz {K:PySem.W.Frag}{H H':Hp}{kvs:List (Key×V)}{es:List (Nat×(Str×Str))}(h:KeD K H kvs es)(f:Fz H H'):KeD K H' kvs es:=
 ⟨h.ks,fun e he=>by obtain⟨v,h1,h2⟩:=h.vs e he;exact⟨v,h1,Is.fz f _ _ (Kl _) h2⟩⟩
theorem KeD.len {K:PySem.W.Frag}{H:Hp}{kvs:List (Key×V)}{es:List (Nat×(Str×Str))}(h:KeD K H kvs es):kvs.length=es.length:=by
 obtain⟨is,h1,h2⟩:=h.ks
 have e1:=congrArg List.length h1
 have e2:=h2.length_eq
 rw[List.length_map,List.length_map] at e1
 rw[List.length_map] at e2
 omega
theorem KeD.no {K:PySem.W.Frag}{H:Hp}{kvs:List (Key×V)}{es:List (Nat×(Str×Str))}(h:KeD K H kvs es){i:Int}(hi:∀ e∈es,((e.1:Nat):Int)≠i):Di kvs (Sum.inl i:Key)=none:=by
 cases e:Di kvs (Sum.inl i:Key) with
 | none=>rfl
 | some v=>
   have hm:=ad6 e
   obtain⟨is,h1,h2⟩:=h.ks
   rw[h1] at hm
   obtain⟨j,hj,ej⟩:=List.mem_map.mp hm
   cases ej
   obtain⟨e',he',ee⟩:=List.mem_map.mp (h2.mem_iff.mp hj)
   exact absurd ee (hi e' he')
theorem KeD.put {K:PySem.W.Frag}{H:Hp}{kvs:List (Key×V)}{es:List (Nat×(Str×Str))}(h:KeD K H kvs es){n:Nat}{q:Str×Str}{v:V}(hn:∀ e∈es,e.1<n)(hv:Is K H (prD q) v):KeD K H (Gh kvs (Sum.inl ((n:Nat):Int):Key) v) (es++[(n,q)]):=by
 have hno:=h.no (i:=((n:Nat):Int)) fun e he z=>by have:=hn e he;omega
 refine⟨?_,fun e he=>?_⟩
 . obtain⟨is,h1,h2⟩:=h.ks
   refine⟨is++[((n:Nat):Int)],?_,?_⟩
   . rw[Ie _ hno,List.map_append,h1,List.map_append]
     rfl
   rw[List.map_append]
   exact h2.append_right _
 rcases List.mem_append.mp he with he | he
 . obtain⟨u,g1,g2⟩:=h.vs e he
   refine⟨u,?_,g2⟩
   rw[Jz,if_neg (fun z=>by have:=hn e he;injection z with z;omega)]
   exact g1
 rw[List.mem_singleton.mp he]
 exact⟨v,by rw[Jz,if_pos rfl],hv⟩
def sdK (nv:V)(p kd:Addr)(n:Nat)(dl:Addr)(ul:V):List (Key×V):=[(Sum.inr "names",nv),(Sum.inr "keeper",.ref p),(Sum.inr "kept",.ref kd),(Sum.inr "next",.int ((n:Nat):Int)),(Sum.inr "done",.ref dl),(Sum.inr "undone",ul)]
structure SdO (K:PySem.W.Frag)(H:Hp)(d p kd dl:Addr)(ns:List Str)(es:List (Nat×(Str×Str)))(n:Nat):Prop where
 ex:∃ nv ul kvs ys,H d=some (.dK (sdK nv p kd n dl ul))/\Is K H (nmD ns) nv/\H kd=some (.dK kvs)/\KeD K H kvs es/\H dl=some (.lst ys)/\ys.length<=n
 so:(es.map (·.1)).Pairwise (· < ·)
 lt:∀ e∈es,e.1<n
 le:es.length<=60
 ne:d≠kd
structure SdAt (K:PySem.W.Frag)(C:Addr)(H:Hp)(d p pl kd dl:Addr)(ns:List Str)(es:List (Nat×(Str×Str)))(n:Nat):Prop where
 o:SdO K H d p kd dl ns es n
 kp:KpAt K C H p pl ns es n
 ne:dl≠pl
theorem SdO.same {K:PySem.W.Frag}{H H':Hp}{d p kd dl:Addr}{ns:List Str}{es:List (Nat×(Str×Str))}{n:Nat}(h:SdO K H d p kd dl ns es n)(e:Same H H'):SdO K H' d p kd dl ns es n:=by
 obtain⟨nv,ul,kvs,ys,h1,h2,h3,h4,h5,h6⟩:=h.ex
 exact⟨⟨nv,ul,kvs,ys,e _ _ h1,h2.nm_fz e.fz,e _ _ h3,h4.fz e.fz,e _ _ h5,h6⟩,h.so,h.lt,h.le,h.ne⟩
theorem SdAt.same {K:PySem.W.Frag}{C:Addr}{H H':Hp}{d p pl kd dl:Addr}{ns:List Str}{es:List (Nat×(Str×Str))}{n:Nat}(h:SdAt K C H d p pl kd dl ns es n)(e:Same H H'):SdAt K C H' d p pl kd dl ns es n:=⟨h.o.same e,h.kp.same e,h.ne⟩
def Gu (K:PySem.W.Frag):Sp:=fun vs H Q _=>∃ v w,vs=[v,w]/\∀ d kd dl ul H',H d=none->H kd=none->H dl=none->d≠kd->Same H H'->H' d=some (.dK [(Sum.inr "names",v),(Sum.inr "keeper",w),(Sum.inr "kept",.ref kd),(Sum.inr "next",.int 0),(Sum.inr "done",.ref dl),(Sum.inr "undone",ul)])->H' kd=some (.dK [])->H' dl=some (.lst [])->Q (.ref d) H'
theorem Ow {f:Addr}{fd:FuncData}(F:Fun K "_law_side" "_law_side" Dn f fd)(T:Fa mg):FnOk P w K mg base CX0 1 f fd ["_law_names_here","_law_keeper"] (Gu K):=by
 refine F.ok Qi (fun vs H Q E h=>?_) (fun cdv A outer s H vs Q E hr h=>?_)
 . obtain⟨v,w,rfl,_⟩:=h
   rfl
 obtain⟨v,w,rfl,k⟩:=h
 have hu:=Cg hr
 have hq:=Ch hr
 with_reducible refine⟨_,(A4 (Ak (Op (Cj A7 (pv 0) (Cj A7 (pv 1) (Cj A7 K0 (Cj A7 A6 (Cj A7 (Dc A2) (Cj A7 (Dc A2) Ol)))))) (by ac_nf) (by ac_nf) (by decide) (by decide)))),?_⟩
 walk_at "rd"
 refine Sm fun d H1 hd e1 hd1=>?_
 walk_at "rd"
 refine T8 fun kd H2 hk e2 hk2=>?_
 walk_at "rd"
 refine De (A9 (by simp)) fun dl H3 hl e3 hl3=>?_
 walk_at "rd"
 refine De (A9 (by simp)) fun ul H4 hul e4 hul4=>?_
 walk_at "rd"
 have hd4:=e4 _ _ (e3 _ _ (e2 _ _ hd1))
 have hkd:kd≠d:=(ne_of_none hd1 hk).symm
 refine Nt [(Sum.inr "names",v),(Sum.inr "keeper",w),(Sum.inr "kept",.ref kd),(Sum.inr "next",.int 0),(Sum.inr "done",.ref dl),(Sum.inr "undone",.ref ul)] hd4 (by rfl) (by show 6<=15;decide) fun H5 e5 h5=>?_
 refine k d kd dl (.ref ul) H5 hd (e1.free hk) (e1.free (e2.free hl)) hkd.symm (fun b o hb=>e5 b o (ne_of_none hb hd) (e4 _ _ (e3 _ _ (e2 _ _ (e1 _ _ hb))))) h5 (e5 _ _ hkd (e4 _ _ (e3 _ _ hk2))) (e5 _ _ (ne_of_none (e2 _ _ hd1) hl).symm (e4 _ _ hl3))
theorem SdO.is {K:PySem.W.Frag}{H:Hp}{d p kd dl:Addr}{ns:List Str}{es:List (Nat×(Str×Str))}{n:Nat}(h:SdO K H d p kd dl ns es n){kvs:List (Key×V)}(hk:KeD K H kvs es) :
  ∃ is:List Int,kvs.map (·.1)=is.map Sum.inl/\is.length<64/\∀ ms:List Int,ms.Perm is->ms.Pairwise (· <= ·)->ms=es.map fun e=>((e.1:Nat):Int):=by
 obtain⟨is,h1,h2⟩:=hk.ks
 have hl:=h2.length_eq
 rw[List.length_map] at hl
 have:=h.le
 refine⟨is,h1,by omega,fun ms p1 p2=>Lx (p1.trans h2) p2 ?_⟩
 have:=h.so
 rw[List.pairwise_map] at this ⊢
 exact this.imp fun q=>by omega
def C3 (K:PySem.W.Frag):Sp:=fun vs H Q _=>∃ d p kd dl ns es n,vs=[.ref d]/\SdO K H d p kd dl ns es n/\∀ u H',Same H H'->Is K H' (hfD ns (es.map (·.2))) u->Q u H'
theorem Kr {f:Addr}{fd:FuncData}(F:Fun K "_law_half_of" "_law_half_of" Bs f fd)(T:Fa mg):FnOk P w K mg base CX0 1 f fd ["_law_side_here"] (C3 K):=by
 refine F.ok Lp (fun vs H Q E h=>?_) (fun cdv A outer s H vs Q E hr h=>?_)
 . obtain⟨d,p,kd,dl,ns,es,n,rfl,_⟩:=h
   rfl
 obtain⟨d,p,kd,dl,ns,es,n,rfl,hS,k⟩:=h
 have hu:=Cg hr
 have hq:=Ch hr
 obtain⟨nv,ul,kvs,ys,h1,h2,h3,h4,h5,h6⟩:=hS.ex
 have hle:=hS.le
 obtain⟨is,g1,g2,g3⟩:=hS.is h4
 with_reducible refine⟨_,(A4 (Ak (Aw (A0 (Ag (A5 (K:=K) hu) (pv 0) A7 (by ac_rfl)) (A0 (Bl (Bo (K:=K)) (by ac_nf) T.b_tuple PyProof.Rows.Boot.«tuple» (A0 (Do ["_law_number"] ["_law_side_here"] [0] (by ac_nf) (by ac_nf) (by ac_nf) (Ax (K:=K) hu (Ae (Ko (by ac_nf)) (by ac_nf) T.b_sorted PyProof.Rows.Boot.«sorted» (A0 (Ag (A5 (K:=K) hu) (pv 0) A7 (by ac_rfl)) A2))) (fun _ _ _ _=>(Ap (i:=0) (by with_unfolding_all (show(["_law_number","_law_side_here"]:List Str).Nodup;decide +kernel)) (by ac_nf) (by eq_refl))) (Ce (by decide)) (fun _ _ _ _=>Ex) (fun _ _ _ _=>(Ag (A5 (K:=K) hu) (Ag (A5 (K:=K) hu) (pv 1) A7 (by ac_rfl)) (pv 0) (by ac_rfl)))) A2)) A2))))),?_⟩
 walk_at "rd"
 refine Sz h3 g1 g2 fun l ms H1 hl1 e1 hl1' p1 p2=>?_
 have:=g3 ms p1 p2
 subst this
 walk_at "rd"
 refine Tv (SqL.of hl1') (Em (K:=K) (Fu (xs:=(es.map fun e=>((e.1:Nat):Int)).map V.int)) es (by simp) (fun _=>true) (fun e=>prD e.2) (fun _=>Kl _) (by simp;omega) (fun H' e=>e.seq (SqL.of hl1')) (fun i e v H2 R R' he hv e2 hR hR'=>?_) (fun q us H2 hq2 e2 hq hL2=>?_))
 . obtain⟨u,g4,g5⟩:=h4.vs e (List.mem_of_getElem? he)
   rw[List.map_map,List.getElem?_map,he] at hv
   cases hv
   have e02:=e1.trans e2
   walk_at "rd"
   refine Oz (e02 _ _ h3) g4 ?_
   exact hR rfl _ _ (.refl _) (Is.mono e02 _ _ g5)
 rw[Dl] at hL2
 walk_at "rd"
 refine Vb (ps:=es.map (·.2)) hq (by rw[List.map_map];exact hL2) fun u2 H3 e3 hu2=>?_
 walk_at "rd"
 refine Au (A9 (by simp)) fun t3 H4 ht3 e4 h3'=>?_
 exact k _ H4 (((e1.trans e2).trans e3).trans e4) (af1 (SqT.of h3') (h2.nm_fz (((e1.trans e2).trans e3).trans e4).fz) (Is.mono e4 _ _ hu2))
def Dv (K:PySem.W.Frag):Sp:=fun vs H Q _=>∃ d p kd dl ns es n u x y js os,vs=[.ref d,u,.str x,.str y]/\SdO K H d p kd dl ns es n/\Is K H (af7 es js) u/\js≠[]/\js.length<=1000/\Trl (es.map (·.2)) x js y os/\∀ H',Same H H'->Q (.bl true) H'
theorem Wx (js:List Nat):SeqAt.shaped (jsD js)=true:=by
 have e1:(jsD js).canLay0=true:=by
  unfold jsD
  simp only[PyData.canLay0]
  induction js with
  | nil=>rfl
  | cons j js ih=>simp only[List.map_cons,PyData.canLayAll0,PyData.canLay0,ih,Bool.and_self]
 have e2:(jsD js).depth<=64:=by
  unfold jsD
  simp only[PyData.depth]
  have:=Gk (fun(j:Nat)=>PyData.int (j:Int)) 0 js fun _ _=>by simp only[PyData.depth];omega
  omega
 unfold SeqAt.shaped
 rw[e1,decide_eq_true e2]
 rfl
theorem Tk (js:List Nat):PyData.eqv (jsD js) (.tuple [])=js.isEmpty:=by
 cases js<;>simp[jsD,PyData.eqv,PyData.eqvAll]
theorem Mf {f:Addr}{fd:FuncData}(F:Fun K "_law_is_way" "_law_is_way" Ca f fd)(T:Fa mg):FnOk P w K mg base CX0 1 f fd ["_law_side_here","_law_way","_law_name","_law_other"] (Dv K):=by
 refine F.ok Dx (fun vs H Q E h=>?_) (fun cdv A outer s H vs Q E hr h=>?_)
 . obtain⟨d,p,kd,dl,ns,es,n,u,x,y,js,os,rfl,_⟩:=h
   rfl
 obtain⟨d,p,kd,dl,ns,es,n,u,x,y,js,os,rfl,hS,hI,hne,hjl,hT,k⟩:=h
 have hu:=Cg hr
 have hq:=Ch hr
 obtain⟨nv,ul,kvs,ys,h1,h2,h3,h4,h5,h6⟩:=hS.ex
 obtain⟨ja,jx,rfl,hjS,hjL⟩:=Is.tup hI
 with_reducible refine⟨_,(A1 (B4 (PW.pt (Qt (Fs (Db (Ae (Cp (K:=K)) (by ac_nf) T.b_isinstance PyProof.Rows.Boot.«isinstance» (A0 (pv 1) (A0 (G9 (v:=.ty "tuple") (by ac_nf) T.b_tuple PyProof.Rows.Boot.«tuple» (by ac_nf)) A2))))) (Ks (Ac (Ba (K:=K) hq) (pv 1) (Aw A2) (Al _))))) (A4 (Ak Fg)) Ah)
  (A1 (Ai (i:=4) Dx.nd (by ac_nf) (by eq_refl) (pv 2))
  (A1 (Eg PassesOwn.never (by ac_nf) (Ax (K:=K) hu (pv 1)) (Ap (i:=5) Dx.nd (by ac_nf) (by eq_refl))
  (A1 (B4 (PW.pt (Qt (Fs (Db (Ae (Cp (K:=K)) (by ac_nf) T.b_isinstance PyProof.Rows.Boot.«isinstance» (A0 (pv 5) (A0 (G9 (v:=.ty "int") (by ac_nf) T.b_int PyProof.Rows.Boot.«int» (by ac_nf)) A2))))) (Qt (Db (Ae (Cp (K:=K)) (by ac_nf) T.b_isinstance PyProof.Rows.Boot.«isinstance» (A0 (pv 5) (A0 (G9 (v:=.ty "bool") (by ac_nf) T.b_bool PyProof.Rows.Boot.«bool» (by ac_nf)) A2)))) (Ks (Ac (Ff (K:=K) hq) (pv 5) (Ag (A5 (K:=K) hu) (pv 0) A7 (by ac_rfl)) (by ac_nf)))))) (A4 (Ak Fg)) Ah)
  (A1 (B4 (Ac (Ik (K:=K) hq) (Ag (A5 (K:=K) hu) (Ag (A5 (K:=K) hu) (Ag (A5 (K:=K) hu) (pv 0) A7 (by ac_rfl)) (pv 5) (by ac_rfl)) A6 (by ac_rfl)) (pv 4) (Al _)) (A4 (Ak Fg)) Ah)
  (A4 (Ai (i:=4) Dx.nd (by ac_nf) (by eq_refl) (Ag (A5 (K:=K) hu) (Ag (A5 (K:=K) hu) (Ag (A5 (K:=K) hu) (pv 0) A7 (by ac_rfl)) (pv 5) (by ac_rfl)) A6 (by ac_rfl)))))))
  (A4 (Ak (Cm (Ba (K:=K) hq) (pv 4) (pv 3) (Al _))))))),?_⟩
 walk_at "rd"
 refine X0 hjS (b:=true) (by first | rfl | kernel_rfl) ?_
 walk_at "rd"
 refine Au (A9 (by simp)) fun t1 H1 ht1 e1 h1'=>?_
 refine Z1 (Is.mono e1 _ _ hI) (Is.of_tup (SqT.of h1') .nil) (Wx _) (by rfl) ?_
 unfold af7
 rw[Tk,show(js.map fun j=>(es.getD j (0,("",""))).1).isEmpty=false by cases js with | nil=>exact absurd rfl hne | cons _ _=>rfl]
 walk_at "rd"
 have hjS1:=e1.seqT hjS
 refine Kf hjS1 ?_
 refine Jf (Da (xs:=jx)) (fun i σ H2=>∃ a x5,σ=[some (.ref d),some (.ref ja),some (.str x),some (.str y),some (.str a),x5]/\H2=H1/\(os++[y])[i]? = some a) ⟨x,_,rfl,rfl,hT.hd⟩ (fun j σ' H' hP=>?_) (fun i v σ' H2 hv hi hP=>?_) (fun σ' H2 hP=>?_)
 . obtain⟨_,_,_,rfl,_⟩:=hP
   exact hjS1
 . obtain⟨a,x5,rfl,rfl,ha⟩:=hP
   obtain⟨D,hD,hDv⟩:=IsL.get hjL hv
   rw[List.getElem?_map,List.getElem?_map] at hD
   obtain⟨m,hm,rfl⟩:=Option.map_eq_some_iff.mp hD
   obtain⟨j,hj,rfl⟩:=Option.map_eq_some_iff.mp hm
   obtain⟨a',b,ha',hb,hps⟩:=hT.ed i j hj
   rw[ha] at ha'
   cases ha'
   rw[List.getElem?_map] at hps
   obtain⟨e,he,hee⟩:=Option.map_eq_some_iff.mp hps
   rw[List.getD_eq_getElem?_getD,he] at hDv
   have:=Nj hDv
   subst this
   have hem:=List.mem_of_getElem? he
   obtain⟨pv,g1,g2⟩:=h4.vs e hem
   have g2':=Is.mono e1 _ _ g2
   rw[hee] at g2'
   have h31:=e1 _ _ h3
   walk_at "rd"
   refine Ym (b:=true) (.int _) (by rfl) ?_
   walk_at "rd"
   refine Ym (b:=false) (.int _) (by rfl) ?_
   walk_at "rd"
   refine Uw h31 ?_
   rw[show((some e).getD (0,("","")))=e from rfl,g1,Option.isNone_some]
   walk_at "rd"
   refine Oz h31 g1 ?_
   walk_at "rd"
   refine Wv g2' ?_
   walk_at "rd"
   refine Oz h31 g1 ?_
   walk_at "rd"
   refine Qm g2' ?_
   walk_at "rd"
   exact⟨_,_,rfl,rfl,hb⟩
 obtain⟨a,x5,rfl,rfl,ha⟩:=hP
 have hjx:jx.length=js.length:=by rw[<- IsL.length hjL,List.length_map,List.length_map]
 have:a=y:=by
  rw[hjx,<- hT.len] at ha
  simpa using ha.symm
 subst this
 walk_at "rd"
 rw[decide_eq_true rfl]
 exact k _ e1
def a92 (p pl d kd dl:Addr) (H H':Hp):Prop:=∀ b o,b≠p->b≠pl->b≠d->b≠kd->b≠dl->H b=some o->H' b=some o
theorem Zl {ps:List (Str×Str)}{x:Str}{js:List Nat}{os:List Str}(h:Trl ps x js x os):js=[]:=by
 cases os with
 | nil=>exact List.length_eq_zero_iff.mp h.len.symm
 | cons a os=>
   have h1:=h.hd
   have h2:=h.nd
   cases h1
   simp at h2
theorem Xt {K:PySem.W.Frag}{H:Hp}{z:Str}{v:V}(h:Is K H (.str z) v):v = .str z:=by simpa only[Is] using h
theorem SdAt.kept {K:PySem.W.Frag}{C:Addr}{H H':Hp}{d p pl kd dl:Addr}{ns:List Str}{es:List (Nat×(Str×Str))}{n:Nat}(h:SdAt K C H d p pl kd dl ns es n)(k:W1 p pl H H')(f:Fz H H'):SdO K H' d p kd dl ns es n:=by
 obtain⟨nv,ul,kvs,ys,h1,h2,h3,h4,h5,h6⟩:=h.o.ex
 obtain⟨dx,nv',w,ul',ys',g1,g2,g3,g4,g5⟩:=h.kp.ex
 refine⟨⟨nv,ul,kvs,ys,k _ _ ?_ ?_ h1,h2.nm_fz f,k _ _ ?_ ?_ h3,h4.fz f,k _ _ ?_ h.ne h5,h6⟩,h.o.so,h.o.lt,h.o.le,h.o.ne⟩
 . exact fun q=>by rw[q,g1] at h1;cases h1
 . exact fun q=>by rw[q,g4] at h1;cases h1
 . exact fun q=>by rw[q,g1] at h3;cases h3
 . exact fun q=>by rw[q,g4] at h3;cases h3
 exact fun q=>by rw[q,g1] at h5;cases h5
theorem KpAt.of {K:PySem.W.Frag}{C:Addr}{H H':Hp}{p pl:Addr}{ns:List Str}{es:List (Nat×(Str×Str))}{n:Nat}(h:KpAt K C H p pl ns es n)(f:Fz H H')(q1:∀ o,H p=some o->H' p=some o)(q2:∀ o,H pl=some o->H' pl=some o):KpAt K C H' p pl ns es n:=by
 obtain⟨dx,nv,w,ul,ys,h1,h2,h3,h4,h5⟩:=h.ex
 exact⟨⟨dx,nv,w,ul,ys,q1 _ h1,h2.nm_fz f,Is.fz f _ _ (by simp[as4,frz,Qy,Hz enD (fun e=>by simp[enD,frz,Qy,Kl])]) h3,q2 _ h4,h5⟩,h.nd,h.few,h.mem,h.irr,h.le⟩
theorem KpAt.okP {K:PySem.W.Frag}{C:Addr}{H:Hp}{p pl:Addr}{ns:List Str}{es:List (Nat×(Str×Str))}{n:Nat}(h:KpAt K C H p pl ns es n):OkP (es.map (·.2)):=fun q hq=>by
 obtain⟨e,he,rfl⟩:=List.mem_map.mp hq
 have:=h.mem e he
 exact⟨(Kj (h.nd.2 _ this.1)).1,(Kj (h.nd.2 _ this.2)).1⟩
theorem Ep {a b:Str}(ha:PyData.strOk a=true)(hb:PyData.strOk b=true):SeqAt.shaped (.tuple [.str a,.str b])=true:=by
 simp[SeqAt.shaped,PyData.canLay0,PyData.canLayAll0,PyData.depth,PyData.depthAll,ha,hb]
theorem R1 (a b:Str):PyData.eqv (.tuple [.str a,.str b]) (.tuple [.str a,.str b])=true:=by simp[PyData.eqv,PyData.eqvAll]
theorem Pc:SeqAt.shaped (.tuple [.str "clash",.tuple []])=true:=by
 simp only[SeqAt.shaped,PyData.canLay0,PyData.canLayAll0,PyData.depth,PyData.depthAll]
 decide +kernel
def Hu (C:Addr)(K:PySem.W.Frag):Sp:=fun vs H Q _=>∃ d p pl kd dl ns es n x y,vs=[.ref d,.str x,.str y]/\SdAt K C H d p pl kd dl ns es n/\es.length<60/\n<1000/\PyData.strOk x=true/\PyData.strOk y=true/\(∀ H',Same H H'->Q (.bl true) H')/\(x∈ns->y∈ns->x≠y->¬ Way (es.map (·.2)) y x->∀ H',a92 p pl d kd dl H H'->Fz H H'->SdAt K C H' d p pl kd dl ns (es++[(n,(x,y))]) (n+1)->Q (.bl true) H')
theorem R3 {f:Addr}{fd:FuncData}(F:Fun K "_law_say" "_law_say" Eo f fd)(T:Fa mg){C_Keeper:Addr}(k_Keeper:Ao K C_Keeper)(c__law_behind:Fnd P w K mg base 1 "_law_behind" ["_law_half","_law_name"] (Dy K))(c__law_told_by:Fnd P w K mg base 5 "_law_told_by" ["_law_keeper","_law_word","_law_one","_law_other"] (B7 C_Keeper K))(c__law_half_of:Fnd P w K mg base 1 "_law_half_of" ["_law_side_here"] (C3 K))(c__law_is_way:Fnd P w K mg base 1 "_law_is_way" ["_law_side_here","_law_way","_law_name","_law_other"] (Dv K)):FnOk P w K mg base CX0 6 f fd ["_law_side_here","_law_name","_law_other"] (Hu C_Keeper K):=by
 refine F.ok G3 (fun vs H Q E h=>?_) (fun cdv A outer s H vs Q E hr h=>?_)
 . obtain⟨d,p,pl,kd,dl,ns,es,n,x,y,rfl,_⟩:=h
   rfl
 obtain⟨d,p,pl,kd,dl,ns,es,n,x,y,rfl,hS,hes,hn,hox,hoy,k1,k2⟩:=h
 have hu:=Cg hr
 have hq:=Ch hr
 obtain⟨nv,ul,kvs,ys,h1,h2,h3,h4,h5,h6⟩:=hS.o.ex
 with_reducible refine⟨_,(A1 (Ai (i:=3) G3.nd (by ac_nf) (by eq_refl) (Bi c__law_told_by (hr.mono (by decide)) (by ac_nf) (A0 (Ag (A5 (K:=K) hu) (pv 0) A7 (by ac_rfl)) (A0 A7 (A0 (pv 1) (A0 (pv 2) A2))))))
  (A1 (Eg PassesOwn.never (by ac_nf) (Ax (K:=K) hu (Aw (A0 (pv 1) (A0 (pv 2) A2)))) (Ap (i:=4) G3.nd (by ac_nf) (by eq_refl))
  (A4 (B4 (Ac (Ff (K:=K) hq) (pv 4) (Ag (A5 (K:=K) hu) (pv 0) A7 (by ac_rfl)) (by ac_nf)) (A4 (Ak (Cm (Ba (K:=K) hq) (pv 3) (Aw (A0 A7 (A0 (pv 4) A2))) (Al _)))) Ah)))
  (A1 (B4 (Ac (Ba (K:=K) hq) (pv 1) (pv 2) (Al _)) (A4 (Ak (Cm (Ba (K:=K) hq) (pv 3) (Aw (A0 A7 (A0 (Aw A2) A2))) (Al _)))) Ah)
  (A1 (B4 (Ac (Jm (K:=K) hq) (pv 1) (Bi c__law_behind (hr.mono (by decide)) (by ac_nf) (A0 (Bi c__law_half_of (hr.mono (by decide)) (by ac_nf) (A0 (pv 0) A2)) (A0 (pv 2) A2))) (by ac_nf)) (A4 (Ak (Mm (Ae (Cp (K:=K)) (by ac_nf) T.b_isinstance PyProof.Rows.Boot.«isinstance» (A0 (pv 3) (A0 (G9 (v:=.ty "tuple") (by ac_nf) T.b_tuple PyProof.Rows.Boot.«tuple» (by ac_nf)) A2))) (Mm (Cm (Ba (K:=K) hq) (Ag (A5 (K:=K) hu) (pv 3) A6 (by ac_rfl)) A7 (Al _)) (Qa (Bi c__law_is_way (hr.mono (by decide)) (by ac_nf) (A0 (pv 0) (A0 (Ag (A5 (K:=K) hu) (pv 3) A6 (by ac_rfl)) (A0 (pv 2) (A0 (pv 1) A2)))))))))) Ah)
  (A1 (B4 (Ac (Ba (K:=K) hq) (Ae (C1 (K:=K)) (by ac_nf) T.b_len PyProof.Rows.Boot.«len» (A0 (Ag (A5 (K:=K) hu) (pv 0) A7 (by ac_rfl)) A2)) A6 (Al _)) (A4 (Ak (Cm (Ba (K:=K) hq) (pv 3) (Aw (A0 A7 (A0 A7 A2))) (Al _)))) Ah)
  (A1 (Ai (i:=5) G3.nd (by ac_nf) (by eq_refl) (Ag (A5 (K:=K) hu) (pv 0) A7 (by ac_rfl)))
  (A1 (Ed hu (Ag (A5 (K:=K) hu) (pv 0) A7 (by ac_rfl)) (pv 5) (Aw (A0 (pv 1) (A0 (pv 2) A2))) (by ac_nf))
  (A1 (Ed hu (pv 0) A7 (Av (At (K:=K)) (pv 5) A6) (by ac_nf))
  (A1 (Cl (Gb (K:=K) PySem.F.plainAttrs_list PySem.F.slot_list_append PySem.F.type_list_append (mm C2) (Ag (A5 (K:=K) hu) (pv 0) A7 (by ac_rfl)) (A0 (Aw (A0 Fg (A0 (pv 5) (A0 (Aw (A0 (pv 1) (A0 (pv 2) A2))) A2)))) A2)))
  (A1 (Ed hu (pv 0) A7 (Dc A2) (by ac_nf))
  (A4 (Ak (Cm (Ba (K:=K) hq) (Ae (Cn (K:=K) hq) (by ac_nf) T.b_repr PyProof.Rows.Boot.«repr» (A0 (pv 3) A2)) (Bl Qf (by ac_nf) T.b_str PyProof.Rows.Boot.«str» (A0 (pv 5) A2)) (Al _)))))))))))))),?_⟩
 walk_at "rd"
 refine⟨p,pl,ns,es,n,"say",.str x,.str y,rfl,hS.kp,.inl ⟨rfl,x,y,rfl,rfl,hes,hn,fun z u H1 hz e1 hu1=>?_,fun hx hy=>⟨fun u H1 js os e1 hu1 hjl hT=>?_,fun hne hnw H1 kp1 fz1 hK1=>?_⟩⟩⟩
 . obtain⟨as,bs,exy,has,hz'⟩:=hz
   walk_at "rd"
   refine Au (A9 (by simp)) fun t2 H2 ht2 e2 h2'=>?_
   have e02:=e1.trans e2
   have hnv:=h2.nm_fz e02.fz
   have h12:=e02 _ _ h1
   have hu2:=Is.mono e2 _ _ hu1
   walk_at "rd"
   refine Ji (M5 (ns:=[x,y]) (SqT.of h2')) (fun i σ H3=>∃ x4,σ=[some (.ref d),some (.str x),some (.str y),some u,x4,none]/\H3=H2/\∀ w∈[x,y].take i,w∈ns) ⟨_,rfl,rfl,by simp⟩ (fun i σ' H' hP=>?_) (fun i w σ' H3 hw hP=>?_) (fun σ' H3 hP=>?_)
   . obtain⟨_,_,rfl,_⟩:=hP
     exact .refl _
   . obtain⟨x4,rfl,rfl,hi⟩:=hP
     walk_at "rd"
     refine Sw hnv ?_
     walk_at "rd"
     refine W8 (fun hc=>?_) (fun hc=>?_)
     . have e:w=z:=by
        rw[exy] at hw hi
        rcases Nat.lt_trichotomy i as.length with lt | e | gt
        . exact absurd (has w (List.mem_of_getElem? (by rwa[List.getElem?_append_left lt] at hw))) hc
        . rw[e,List.getElem?_append_right (Nat.le_refl _),Nat.sub_self] at hw
          exact(Option.some.inj hw).symm
        exact absurd (hi z (List.mem_take_iff_getElem.mpr ⟨as.length,by simp;omega,by simp⟩)) hz'
       subst e
       walk_at "rd"
       refine Au (A9 (by simp)) fun t4 H4 ht4 e4 h4'=>?_
       have how:PyData.strOk w=true:=by
        have:w∈[x,y]:=List.mem_of_getElem? hw
        simp only[List.mem_cons,List.not_mem_nil,or_false] at this
        rcases this with rfl | rfl
        . exact hox
        exact hoy
       refine Z1 (Is.mono e4 _ _ hu2) (Is.of_tup (SqT.of h4') (.cons Dj (.one Dj))) (Ep (by decide +kernel) how) (Ep (by decide +kernel) how) ?_
       rw[R1]
       exact k1 _ (e02.trans e4)
     walk_at "rd"
     refine⟨_,rfl,rfl,fun v hv=>?_⟩
     rw[List.take_add_one,hw] at hv
     rcases List.mem_append.mp hv with h | h
     . exact hi v h
     have:v=w:=by simpa using h
     exact this ▸ hc
   obtain⟨x4,rfl,rfl,hi⟩:=hP
   exact absurd (hi z (by rw[exy,List.take_length];simp)) hz'
 . walk_at "rd"
   refine Au (A9 (by simp)) fun t2 H2 ht2 e2 h2'=>?_
   have e02:=e1.trans e2
   have hnv:=h2.nm_fz e02.fz
   have h12:=e02 _ _ h1
   have hu2:=Is.mono e2 _ _ hu1
   have hS2:=hS.same e02
   walk_at "rd"
   refine Ji (M5 (ns:=[x,y]) (SqT.of h2')) (fun i σ H3=>∃ x4,σ=[some (.ref d),some (.str x),some (.str y),some u,x4,none]/\H3=H2) ⟨_,rfl,rfl⟩ (fun i σ' H' hP=>?_) (fun i w σ' H3 hw hP=>?_) (fun σ' H3 hP=>?_)
   . obtain⟨_,_,rfl⟩:=hP
     exact .refl _
   . obtain⟨x4,rfl,rfl⟩:=hP
     walk_at "rd"
     refine Sw hnv ?_
     have hwn:w∈ns:=by
      have:w∈[x,y]:=List.mem_of_getElem? hw
      simp only[List.mem_cons,List.not_mem_nil,or_false] at this
      rcases this with rfl | rfl
      . exact hx
      exact hy
     rw[decide_eq_true hwn]
     walk_at "rd"
     exact⟨_,rfl,rfl⟩
   obtain⟨x4,rfl,rfl⟩:=hP
   walk_at "rd"
   refine G4 (fun hc=>?_) (fun hc=>?_)
   . have hxy:x=y:=by injection hc
     subst hxy
     have:=Zl hT
     subst this
     walk_at "rd"
     refine Au (A9 (by simp)) fun t4 H4 ht4 e4 h4'=>?_
     walk_at "rd"
     refine Au (A9 (by simp)) fun t5 H5 ht5 e5 h5'=>?_
     refine Z1 (Is.mono (e4.trans e5) _ _ hu2) (Is.of_tup (SqT.of h5') (.cons Dj (.one (Is.of_tup (SqT.of (e5 _ _ h4')) .nil)))) Pc Pc ?_
     rw[show PyData.eqv (.tuple [.str "clash",af7 es []]) (.tuple [.str "clash",.tuple []])=true by simp[af7,jsD,PyData.eqv,PyData.eqvAll]]
     exact k1 _ ((e02.trans e4).trans e5)
   have hxy:x≠y:=fun q=>hc (by rw[q])
   have hw:Way (es.map (·.2)) y x:=(hT.way).resolve_left fun q=>hxy q.symm
   obtain⟨ua,ux,uy,rfl,huS,hu0,hu1'⟩:=Xr hu2
   have:=Xt hu0
   subst this
   walk_at "rd"
   refine⟨d,p,kd,dl,ns,es,n,rfl,hS2.o,fun v4 H4 e4 hv4=>?_⟩
   walk_at "rd"
   refine⟨v4,y,ns,es.map (·.2),rfl,hv4,by rw[List.length_map];omega,hS.kp.okP,hoy,fun q5 fs H5 hq5 e5 h5' hfn hfs=>?_⟩
   walk_at "rd"
   refine Rs (SqL.of h5') ?_
   rw[decide_eq_true ((hfs x).mpr hw)]
   have e25:=e4.trans e5
   have huS5:=e25.seqT huS
   walk_at "rd"
   refine X0 huS5 (b:=true) (by first | rfl | kernel_rfl) ?_
   walk_at "rd"
   refine Gg huS5 (show atI _ 0=some (.str "clash") from rfl) ?_
   walk_at "rd"
   refine Gg huS5 (show atI _ 1=some uy from rfl) ?_
   walk_at "rd"
   refine⟨d,p,kd,dl,ns,es,n,uy,y,x,js,os,rfl,hS2.o.same e25,Is.mono e25 _ _ hu1',fun q=>?_,hjl,hT,fun H6 e6=>?_⟩
   . subst q
     have:=hT.len
     have hos:os=[]:=List.length_eq_zero_iff.mp this
     have:=hT.hd
     rw[hos] at this
     exact hxy (Option.some.inj this)
   walk_at "rd"
   exact k1 _ ((e02.trans e25).trans e6)
 walk_at "rd"
 refine Au (A9 (by simp)) fun t2 H2 ht2 e2 h2'=>?_
 have fz02:=fz1.trans e2.fz
 have kp2:W1 p pl H H2:=fun b o q1 q2 q3=>e2 _ _ (kp1 b o q1 q2 q3)
 have hO:SdO K H2 d p kd dl ns es n:=hS.kept kp2 fz02
 have hK2:=hK1.same e2
 obtain⟨nv,ul,kvs,ys,h1,h2,h3,h4,h5,h6⟩:=hO.ex
 walk_at "rd"
 refine Ji (M5 (ns:=[x,y]) (SqT.of h2')) (fun i σ H3=>∃ x4,σ=[some (.ref d),some (.str x),some (.str y),some (.int ((n:Nat):Int)),x4,none]/\H3=H2) ⟨_,rfl,rfl⟩ (fun i σ' H' hP=>?_) (fun i w σ' H3 hw hP=>?_) (fun σ' H3 hP=>?_)
 . obtain⟨_,_,rfl⟩:=hP
   exact .refl _
 . obtain⟨x4,rfl,rfl⟩:=hP
   walk_at "rd"
   refine Sw h2 ?_
   have hwn:w∈ns:=by
    have:w∈[x,y]:=List.mem_of_getElem? hw
    simp only[List.mem_cons,List.not_mem_nil,or_false] at this
    rcases this with rfl | rfl
    . exact hx
    exact hy
   rw[decide_eq_true hwn]
   walk_at "rd"
   exact⟨_,rfl,rfl⟩
 obtain⟨x4,rfl,rfl⟩:=hP
 walk_at "rd"
 refine G4 (fun hc=>absurd (by injection hc) hne) (fun hc=>?_)
 walk_at "rd"
 refine⟨d,p,kd,dl,ns,es,n,rfl,hO,fun v4 H4 e4 hv4=>?_⟩
 walk_at "rd"
 refine⟨v4,y,ns,es.map (·.2),rfl,hv4,by rw[List.length_map];omega,hS.kp.okP,hoy,fun q5 fs H5 hq5 e5 h5' hfn hfs=>?_⟩
 walk_at "rd"
 refine Rs (SqL.of h5') ?_
 rw[decide_eq_false (fun q=>hnw ((hfs x).mp q))]
 walk_at "rd"
 have e25:=e4.trans e5
 have h15:=e25 _ _ h1
 have h35:=e25 _ _ h3
 have h55:=e25 _ _ h5
 refine .inr ⟨kd,kvs,rfl,h35,?_⟩
 rw[h4.len]
 walk_at "rd"
 refine G4 (fun hc=>absurd hc (fun q=>by injection q with q;omega)) (fun _=>?_)
 walk_at "rd"
 refine Au (A9 (by simp)) fun t6 H6 ht6 e6 h6'=>?_
 walk_at "rd"
 have h36:=e6 _ _ h35
 have h16:=e6 _ _ h15
 refine Vt h36 (by have:=h4.len;omega) fun H7 e7 h37=>?_
 have h17:=e7 _ _ hO.ne h16
 walk_at "rd"
 refine Gs h17 (by show 6<1000;decide) fun H8 e8 h18=>?_
 replace h18:H8 d=some (.dK (sdK nv p kd (n+1) dl ul)):=h18
 walk_at "rd"
 have hdk:dl≠kd:=fun q=>by rw[q,h35] at h55;cases h55
 have hdd:dl≠d:=fun q=>by rw[q,h15] at h55;cases h55
 have h58:=e8 _ _ hdd (e7 _ _ hdk (e6 _ _ h55))
 refine Au (A9 (by simp)) fun t9 H9 ht9 e9 h9'=>?_
 walk_at "rd"
 refine Au (A9 (by simp)) fun t10 H10 ht10 e10 h10'=>?_
 walk_at "rd"
 have h510:=e10 _ _ (e9 _ _ h58)
 refine Iq h510 (by omega) fun H11 e11 h511=>?_
 have h111:=e11 _ _ hdd.symm (e10 _ _ (e9 _ _ h18))
 walk_at "rd"
 refine De (A9 (by simp)) fun t12 H12 ht12 e12 h12'=>?_
 walk_at "rd"
 have h112:=e12 _ _ h111
 refine Gs h112 (by show 6<1000;decide) fun H13 e13 h113=>?_
 replace h113:H13 d=some (.dK (sdK nv p kd (n+1) dl (.ref t12))):=h113
 have h313:H13 kd=_:=e13 _ _ hO.ne.symm (e12 _ _ (e11 _ _ hdk.symm (e10 _ _ (e9 _ _ (e8 _ _ hO.ne.symm h37)))))
 have h513:=e13 _ _ hdd (e12 _ _ h511)
 have fz26:Fz H3 H6:=(e25.trans e6).fz
 have fz67:Fz H6 H7:=e7.fzD h36
 have fz713:Fz H7 H13:=(((e8.fzD h17).trans (e9.trans e10).fz).trans (e11.fzL h510)).trans (e12.fz.trans (e13.fzD h112))
 have fz213:=fz26.trans (fz67.trans fz713)
 have kp213:a92 p pl d kd dl H H13:=fun b o q1 q2 q3 q4 q5 q=>e13 _ _ q3 (e12 _ _ (e11 _ _ q5 (e10 _ _ (e9 _ _ (e8 _ _ q3 (e7 _ _ q4 (e6 _ _ (e25 _ _ (kp2 b o q1 q2 q)))))))))
 walk_at "rd"
 refine Uk (d:=.int ((n:Nat):Int)) Hl (by simp only[PyData.showable,decide_eq_true_eq];have:=Po (n:=n) (by omega);omega) ?_ (by simp only[PyData.depth];omega) ?_
 . have hq:=PyData.shown_int_le (i:=((n:Nat):Int)) (by rw[Int.natAbs_natCast];omega)
   rw[sizeLine_eq]
   omega
 walk_at "rd"
 refine⟨((n:Nat):Int),rfl,Po (by omega),?_⟩
 walk_at "rd"
 rw[show decide (V.str (PyData.int ((n:Nat):Int)).shown=V.str (toString ((n:Nat):Int)))=true from decide_eq_true rfl]
 have hv6:Is K H6 (prD (x,y)) (.ref t6):=an0 (SqT.of h6')
 obtain⟨dx,nv',w,ul',ys',g1,g2,g3,g4,g5⟩:=hK2.ex
 refine k2 hx hy hne hnw H13 kp213 (fz02.trans fz213) ⟨⟨⟨nv,_,_,_,h113,h2.nm_fz fz213,h313,((h4.fz fz26).put hO.lt hv6).fz (fz67.trans fz713),h513,by rw[List.length_append];simp;omega⟩,?_,?_,?_,hO.ne⟩,?_,hS.ne⟩
 . rw[List.map_append,List.pairwise_append]
   refine⟨hO.so,by simp,fun a ha b hb=>?_⟩
   obtain⟨e,he,rfl⟩:=List.mem_map.mp ha
   have:b=n:=by simpa using hb
   rw[this]
   exact hO.lt e he
 . intro e he
   rcases List.mem_append.mp he with he | he
   . have:=hO.lt e he
     omega
   rw[List.mem_singleton.mp he]
   show n<n+1
   omega
 . rw[List.length_append]
   simp
   omega
 refine hK2.of fz213 (fun o q=>?_) (fun o q=>?_)
 . rw[g1] at q
   have a1:p≠d:=fun z=>by rw[z,h1] at g1;cases g1
   have a2:p≠kd:=fun z=>by rw[z,h3] at g1;cases g1
   have a3:p≠dl:=fun z=>by rw[z,h5] at g1;cases g1
   exact e13 _ _ a1 (e12 _ _ (e11 _ _ a3 (e10 _ _ (e9 _ _ (e8 _ _ a1 (e7 _ _ a2 (e6 _ _ (e25 _ _ (g1.trans q)))))))))
 rw[g4] at q
 have a1:pl≠d:=fun z=>by rw[z,h1] at g4;cases g4
 have a2:pl≠kd:=fun z=>by rw[z,h3] at g4;cases g4
 exact e13 _ _ a1 (e12 _ _ (e11 _ _ hS.ne.symm (e10 _ _ (e9 _ _ (e8 _ _ a1 (e7 _ _ a2 (e6 _ _ (e25 _ _ (g4.trans q)))))))))
theorem Qw {K:PySem.W.Frag}{H:Hp}{Q:VK}{d:PyData}{x:V}(h:Is K H d x)(s:Sh d)(k:Q (.str d.shown) H):Sl K [x] H Q:=Uk h s.sh s.fits s.deep k
theorem as9 {js:List Nat}(h:∀ m∈js,m<=4000000)(hl:js.length<=1000):Sh (jsD js):=by
 have:=as3 h hl
 rwa[show nuD js=jsD js by simp[nuD,jsD,Function.comp_def]] at this
theorem af8 {i:Int}(h:i.natAbs<=4000000):Sh (.tuple [.str "saying",.int i]):=by
 have hlog:i.natAbs.log2<30:=by
  rcases Nat.eq_zero_or_pos i.natAbs with q | h0
  . rw[q];decide
  exact(Nat.log2_lt (by omega)).mpr (by omega)
 have hlen:=PyData.shown_int_le (i:=i) (by omega)
 have hok:PyData.strOk ("saying":Str)=true:=by decide +kernel
 refine⟨rfl,?_,?_,?_⟩
 . simp only[PyData.showable,PyData.showableAll,Bool.and_true,Bool.true_and,decide_eq_true_eq]
   omega
 . have g:=PyData.shown_le 13 (by decide) (.tuple [.str "saying",.int i]) (PyData.leavesShort_of_canLay0 13 _ (by simp only[PyData.canLay0,PyData.canLayAll0,hok,Bool.and_true]) (by simp only[PyData.intsShort,PyData.intsShortAll,Bool.and_true,Bool.true_and,decide_eq_true_eq];exact hlen))
   have hw:(PyData.tuple [.str "saying",.int i]).weight<=1000:=by
    have:("saying":Str).cps.size=6:=by decide +kernel
    simp only[PyData.weight,PyData.weightAll,this]
    split<;>omega
   rw[sizeLine_eq]
   omega
 simp only[PyData.depth,PyData.depthAll]
 decide
theorem Ro {K:PySem.W.Frag}{H:Hp}:∀ es:List (Nat×(Str×Str)),IsL K H (es.map ((fun j:Nat=>PyData.int (j:Int))∘(·.1))) (es.map (V.int∘fun e=>((e.1:Nat):Int)))
 | []=>.nil
 | e :: es=>.cons Hl (Ro es)
def Fm (C:Addr)(K:PySem.W.Frag):Sp:=fun vs H Q _=>∃ d p pl kd dl ns es n,vs=[.ref d]/\SdAt K C H d p pl kd dl ns es n/\∀ H',Same H H'->Q (.bl true) H'
theorem Mb {f:Addr}{fd:FuncData}(F:Fun K "_law_looked" "_law_looked" C8 f fd)(T:Fa mg){C_Keeper:Addr}(k_Keeper:Ao K C_Keeper)(c__law_told_by:Fnd P w K mg base 5 "_law_told_by" ["_law_keeper","_law_word","_law_one","_law_other"] (B7 C_Keeper K))(c__law_half_of:Fnd P w K mg base 1 "_law_half_of" ["_law_side_here"] (C3 K))(c_Keeper_numbers:Mtd P w K mg base 1 C_Keeper "numbers" ["self"] (Dr C_Keeper K))(c_Keeper_half:Mtd P w K mg base 1 C_Keeper "half" ["self"] (B2 C_Keeper K)):FnOk P w K mg base CX0 6 f fd ["_law_side_here"] (Fm C_Keeper K):=by
 refine F.ok Dz (fun vs H Q E h=>?_) (fun cdv A outer s H vs Q E hr h=>?_)
 . obtain⟨d,p,pl,kd,dl,ns,es,n,rfl,_⟩:=h
   rfl
 obtain⟨d,p,pl,kd,dl,ns,es,n,rfl,hS,k⟩:=h
 have hu:=Cg hr
 have hq:=Ch hr
 obtain⟨nv,ul,kvs,ys,h1,h2,h3,h4,h5,h6⟩:=hS.o.ex
 obtain⟨dx,nv',w,ul',ys',g1,g2,g3,g4,g5⟩:=hS.kp.ex
 have hle:=hS.o.le
 with_reducible refine⟨_,(A1 (Ai (i:=1) Dz.nd (by ac_nf) (by eq_refl) (Ag (A5 (K:=K) hu) (pv 0) A7 (by ac_rfl)))
  (A1 (B4 (PW.pt (Qt (Ac (Ik (K:=K) hq) (Ae (Cn (K:=K) hq) (by ac_nf) T.b_repr PyProof.Rows.Boot.«repr» (A0 (Kc (C:=C_Keeper) (pv 1) k_Keeper.cl c_Keeper_numbers (hr.mono (by decide))) A2)) (Ae (Cn (K:=K) hq) (by ac_nf) T.b_repr PyProof.Rows.Boot.«repr» (A0 (Bl (Bo (K:=K)) (by ac_nf) T.b_tuple PyProof.Rows.Boot.«tuple» (A0 (Ae (Ko (by ac_nf)) (by ac_nf) T.b_sorted PyProof.Rows.Boot.«sorted» (A0 (Ag (A5 (K:=K) hu) (pv 0) A7 (by ac_rfl)) A2)) A2)) A2)) (Al _)) (Ks (Ac (Ik (K:=K) hq) (Ae (Cn (K:=K) hq) (by ac_nf) T.b_repr PyProof.Rows.Boot.«repr» (A0 (Kc (C:=C_Keeper) (pv 1) k_Keeper.cl c_Keeper_half (hr.mono (by decide))) A2)) (Ae (Cn (K:=K) hq) (by ac_nf) T.b_repr PyProof.Rows.Boot.«repr» (A0 (Bi c__law_half_of (hr.mono (by decide)) (by ac_nf) (A0 (pv 0) A2)) A2)) (Al _))))) (A4 (Ak Fg)) Ah)
  (A1 (Eg PassesOwn.never (by ac_nf) (X9 (by ac_nf) T.b_range (A0 (am0 Zx A6) (A0 (Av (At (K:=K)) (Ag (A5 (K:=K) hu) (pv 0) A7 (by ac_rfl)) A6) A2))) (Ap (i:=2) Dz.nd (by ac_nf) (by eq_refl))
  (A1 (Ai (i:=3) Dz.nd (by ac_nf) (by eq_refl) (Yt hu (Ag (A5 (K:=K) hu) (pv 0) A7 (by ac_rfl)) (pv 2) (Aw (A0 A7 (A0 (pv 2) A2))) (by with_unfolding_all exact⟨rfl,rfl,rfl,rfl⟩)))
  (A4 (B4 (Ac (Ik (K:=K) hq) (Ae (Cn (K:=K) hq) (by ac_nf) T.b_repr PyProof.Rows.Boot.«repr» (A0 (Bi c__law_told_by (hr.mono (by decide)) (by ac_nf) (A0 (pv 1) (A0 A7 (A0 (pv 2) (A0 Hh A2))))) A2)) (Ae (Cn (K:=K) hq) (by ac_nf) T.b_repr PyProof.Rows.Boot.«repr» (A0 (pv 3) A2)) (Al _)) (A4 (Ak Fg)) Ah))))
  (A4 (Ak Fg))))),?_⟩
 walk_at "rd"
 refine Lc g1 (by rfl) ?_
 walk_at "rd"
 refine⟨p,pl,ns,es,n,rfl,hS.kp,fun u1 H1 e1 hu1=>?_⟩
 have hsj:Sh (jsD (es.map (·.1))):=as9 (fun m hm=>by obtain⟨e,he,rfl⟩:=List.mem_map.mp hm;have:=hS.o.lt e he;omega) (by rw[List.length_map];omega)
 walk_at "rd"
 refine Qw hu1 hsj ?_
 walk_at "rd"
 obtain⟨is,q1,q2,q3⟩:=hS.o.is h4
 refine Sz (e1 _ _ h3) q1 q2 fun l ms H2 hl2 e2 hl2' p1 p2=>?_
 have:=q3 ms p1 p2
 subst this
 walk_at "rd"
 refine G6 (SqL.of hl2') fun t3 H3 ht3 e3 h3'=>?_
 walk_at "rd"
 have e03:=(e1.trans e2).trans e3
 refine Qw (d:=jsD (es.map (·.1))) (Is.of_tup (SqT.of h3') (by rw[List.map_map,List.map_map];exact Ro es)) hsj ?_
 walk_at "rd"
 have hnm:NmP (es.map (·.2)):=fun q hq=>by
  obtain⟨e,he,rfl⟩:=List.mem_map.mp hq
  have:=hS.kp.mem e he
  exact⟨hS.kp.nd.2 _ this.1,hS.kp.nd.2 _ this.2⟩
 have hsh:Sh (hfD ns (es.map (·.2))):=(ad5 hS.kp.nd.2 hnm (Nat.le_trans hS.kp.few (by decide)) (by rw[List.length_map];omega)).sh rfl
 refine Lc (e03 _ _ g1) (by rfl) ?_
 walk_at "rd"
 refine⟨p,pl,ns,es,n,rfl,hS.kp.same e03,fun u4 H4 e4 hu4=>?_⟩
 walk_at "rd"
 refine Qw hu4 hsh ?_
 walk_at "rd"
 have e04:=e03.trans e4
 refine⟨d,p,kd,dl,ns,es,n,rfl,hS.o.same e04,fun u5 H5 e5 hu5=>?_⟩
 walk_at "rd"
 refine Qw hu5 hsh ?_
 have e05:=e04.trans e5
 have h15:=e05 _ _ h1
 walk_at "rd"
 refine ao4 (by omega) ?_
 refine Jf Fx (fun i σ H6=>∃ x2 x3,σ=[some (.ref d),some (.ref p),x2,x3]/\Same H H6) ⟨_,_,rfl,e05⟩ (fun _ _ _ _=>trivial) (fun i x σ H6 hx hi hP=>?_) (fun σ H6 hP=>?_)
 . obtain⟨x2,x3,rfl,e6⟩:=hP
   obtain⟨rfl,hi2⟩:=Kt hx
   have h16:=e6 _ _ h1
   walk_at "rd"
   have h36:=e6 _ _ h3
   have hz:((-1:Int)+(i:Int)).natAbs<=4000000:=by omega
   have hnd:(es.map (·.1)).Nodup:=hS.o.so.imp fun q=>Nat.ne_of_lt q
   refine Yn h36 ?_
   walk_at "rd"
   refine Au (A9 (by simp)) fun t7 H7 ht7 e7 h7=>?_
   have e07:=e6.trans e7
   have hd7:Is K H7 (.tuple [.str "saying",.int (-1+(i:Int))]) (.ref t7):=Is.of_tup (SqT.of h7) (.cons Dj (.one Hl))
   by_cases hin:∃ e∈es,((e.1:Nat):Int) = -1+(i:Int)
   . obtain⟨e,he,hei⟩:=hin
     obtain⟨v,hv1,hv2⟩:=h4.vs e he
     rw[hei] at hv1
     refine⟨some v,by rw[<- hv1];exact DGet.k (k:=Sum.inl _) (e7 _ _ h36),?_⟩
     walk_at "rd"
     refine⟨p,pl,ns,es,n,"saying",.int (-1+(i:Int)),.non,rfl,hS.kp.same e07,.inr (.inl ⟨rfl,_,rfl,hnd,fun e' he' hi' u hu=>?_,fun hno=>absurd hei (hno e he)⟩)⟩
     have hee:e'=e:=by
      have h1':e'.1=e.1:=by omega
      obtain⟨a,ha⟩:=List.getElem?_of_mem he
      obtain⟨b,hb⟩:=List.getElem?_of_mem he'
      by_cases hab:a=b
      . subst hab
        exact Option.some.inj (hb.symm.trans ha)
      exact absurd h1'.symm (Ad hnd (i:=a) (j:=b) (by rw[List.getElem?_map,ha];rfl) (by rw[List.getElem?_map,hb];rfl) hab)
     subst hee
     have hsp:Sh (prD e'.2):=by
      have hm:=hS.kp.mem e' he'
      obtain⟨a,b,c⟩:=Jy (p:=e'.2) (hS.kp.nd.2 _ hm.1) (hS.kp.nd.2 _ hm.2)
      exact Fine.sh ⟨a,by omega,by omega⟩ rfl
     walk_at "rd"
     refine Qw hu hsp ?_
     walk_at "rd"
     refine Qw (Is.mono e07 _ _ hv2) hsp ?_
     walk_at "rd"
     exact⟨_,_,rfl,e07⟩
   have hno:∀ e∈es,((e.1:Nat):Int) ≠ -1+(i:Int):=fun e he q=>hin ⟨e,he,q⟩
   refine⟨none,by rw[<- h4.no hno];exact DGet.k (k:=Sum.inl _) (e7 _ _ h36),?_⟩
   walk_at "rd"
   refine⟨p,pl,ns,es,n,"saying",.int (-1+(i:Int)),.non,rfl,hS.kp.same e07,.inr (.inl ⟨rfl,_,rfl,hnd,fun e' he' hi'=>absurd hi' (hno e' he'),fun _ u H8 e8 hu8=>?_⟩)⟩
   walk_at "rd"
   refine Qw hu8 (af8 hz) ?_
   walk_at "rd"
   refine Qw (Is.mono e8 _ _ hd7) (af8 hz) ?_
   walk_at "rd"
   exact⟨_,_,rfl,e07.trans e8⟩
 obtain⟨x2,x3,rfl,e6⟩:=hP
 walk_at "rd"
 exact k _ e6
def G1 (C:Addr)(K:PySem.W.Frag):Sp:=fun vs H Q _=>∃ d p pl kd dl ns es n x y,vs=[.ref d,.str x,.str y]/\SdAt K C H d p pl kd dl ns es n/\x∈ns/\y∈ns/\∀ H',Same H H'->Q (.bl true) H'
theorem Oj {f:Addr}{fd:FuncData}(F:Fun K "_law_asked" "_law_asked" Co f fd)(T:Fa mg){C_Keeper:Addr}(k_Keeper:Ao K C_Keeper)(c__law_behind:Fnd P w K mg base 1 "_law_behind" ["_law_half","_law_name"] (Dy K))(c__law_told_by:Fnd P w K mg base 5 "_law_told_by" ["_law_keeper","_law_word","_law_one","_law_other"] (B7 C_Keeper K))(c__law_half_of:Fnd P w K mg base 1 "_law_half_of" ["_law_side_here"] (C3 K))(c__law_is_way:Fnd P w K mg base 1 "_law_is_way" ["_law_side_here","_law_way","_law_name","_law_other"] (Dv K)):FnOk P w K mg base CX0 6 f fd ["_law_side_here","_law_name","_law_other"] (G1 C_Keeper K):=by
 refine F.ok El (fun vs H Q E h=>?_) (fun cdv A outer s H vs Q E hr h=>?_)
 . obtain⟨d,p,pl,kd,dl,ns,es,n,x,y,rfl,_⟩:=h
   rfl
 obtain⟨d,p,pl,kd,dl,ns,es,n,x,y,rfl,hS,hx,hy,k⟩:=h
 have hu:=Cg hr
 have hq:=Ch hr
 have hle:=hS.o.le
 have hox:=(Kj (hS.kp.nd.2 x hx)).1
 have hoy:=(Kj (hS.kp.nd.2 y hy)).1
 obtain⟨nv,ul,kvs,ys,h1,h2,h3,h4,h5,h6⟩:=hS.o.ex
 with_reducible refine⟨_,(A1 (Ai (i:=3) El.nd (by ac_nf) (by eq_refl) (Bi c__law_half_of (hr.mono (by decide)) (by ac_nf) (A0 (pv 0) A2)))
  (A1 (Ai (i:=4) El.nd (by ac_nf) (by eq_refl) (Bi c__law_told_by (hr.mono (by decide)) (by ac_nf) (A0 (Ag (A5 (K:=K) hu) (pv 0) A7 (by ac_rfl)) (A0 A7 (A0 (pv 1) (A0 (pv 2) A2))))))
  (A1 (Ai (i:=5) El.nd (by ac_nf) (by eq_refl) (Bi c__law_told_by (hr.mono (by decide)) (by ac_nf) (A0 (Ag (A5 (K:=K) hu) (pv 0) A7 (by ac_rfl)) (A0 A7 (A0 (pv 1) (A0 (pv 2) A2))))))
  (A1 (B4 (Ac (Jm (K:=K) hq) (pv 2) (Bi c__law_behind (hr.mono (by decide)) (by ac_nf) (A0 (pv 3) (A0 (pv 1) A2))) (by ac_nf)) (A4 (Ak (Mm (Cm Ml (pv 5) Fg (Al _)) (Qa (Bi c__law_is_way (hr.mono (by decide)) (by ac_nf) (A0 (pv 0) (A0 (pv 4) (A0 (pv 1) (A0 (pv 2) A2))))))))) Ah)
  (A1 (B4 (PW.pt (Qt (Ac (Ba (K:=K) hq) (pv 1) (pv 2) (Al _)) (Ks (Ac (Jm (K:=K) hq) (pv 1) (Bi c__law_behind (hr.mono (by decide)) (by ac_nf) (A0 (pv 3) (A0 (pv 2) A2))) (by ac_nf))))) (A4 (Ak (Mm (Cm Ml (pv 5) Fg (Al _)) (Qa (Cm Ml (pv 4) Hh (Al _)))))) Ah)
  (A4 (Ak (Mm (Cm Ml (pv 5) Hh (Al _)) (Qa (Cm Ml (pv 4) Hh (Al _))))))))))),?_⟩
 walk_at "rd"
 refine⟨d,p,kd,dl,ns,es,n,rfl,hS.o,fun u1 H1 e1 hu1=>?_⟩
 have h11:=e1 _ _ h1
 walk_at "rd"
 refine⟨p,pl,ns,es,n,"lead",.str x,.str y,rfl,hS.kp.same e1,.inr (.inr (.inl ⟨rfl,x,y,rfl,rfl,fun z u H' hz=>(Se hz hx hy).elim,fun _ _ u2 H2 e2 hL=>?_⟩))⟩
 have e02:=e1.trans e2
 have h12:=e02 _ _ h1
 walk_at "rd"
 refine⟨p,pl,ns,es,n,"knows",.str x,.str y,rfl,hS.kp.same e02,.inr (.inr (.inr ⟨rfl,x,y,rfl,rfl,fun z u H' hz=>(Se hz hx hy).elim,fun _ _ H3 e3=>?_⟩))⟩
 have e03:=e02.trans e3
 have hu3:=hu1.hf_fz (e2.trans e3).fz
 walk_at "rd"
 refine⟨u1,x,ns,es.map (·.2),rfl,hu3,by rw[List.length_map];omega,hS.kp.okP,hox,fun q4 fs H4 hq4 e4 h4' hfn hfs=>?_⟩
 walk_at "rd"
 refine Rs (SqL.of h4') ?_
 by_cases hw:Way (es.map (·.2)) x y
 . have hxy:x≠y:=fun q=>by rw[q] at hw;exact hS.kp.irr y hw
   rw[decide_eq_true ((hfs y).mpr hw),show knV (es.map (·.2)) x y = .bl true from if_pos (wayB_iff.mpr hw)]
   walk_at "rd"
   obtain⟨js,os,hne,hj1,hj2,hj3⟩:=hL.resolve_left fun q=>q.2.elim hxy fun q=>q hw
   refine⟨d,p,kd,dl,ns,es,n,u2,x,y,js,os,rfl,hS.o.same (e03.trans e4),Is.mono (e3.trans e4) _ _ hj1,fun q=>?_,hj2,hj3,fun H5 e5=>?_⟩
   . subst q
     have hos:os=[]:=List.length_eq_zero_iff.mp hj3.len
     have:=hj3.hd
     rw[hos] at this
     exact hxy (Option.some.inj this).symm
   exact k _ ((e03.trans e4).trans e5)
 have hun:u2 = .non:=by
  rcases hL with q | ⟨js,os,hne,hj1,hj2,hj3⟩
  . exact q.1
  exact absurd (hj3.way.resolve_left hne) hw
 subst hun
 rw[decide_eq_false (fun q=>hw ((hfs y).mp q))]
 walk_at "rd"
 by_cases hxy:x=y
 . subst hxy
   rw[show knV (es.map (·.2)) x x = .bl false by unfold knV;rw[if_neg (fun q=>hw (wayB_iff.mp q)),if_pos (.inr rfl)]]
   walk_at "rd"
   rw[show decide (V.non=V.non)=true from decide_eq_true rfl]
   exact k _ (e03.trans e4)
 refine G4 (fun hc=>absurd (by injection hc) hxy) (fun hc=>?_)
 walk_at "rd"
 refine⟨u1,y,ns,es.map (·.2),rfl,hu3.hf_fz e4.fz,by rw[List.length_map];omega,hS.kp.okP,hoy,fun q5 fs' H5 hq5 e5 h5' hfn' hfs'=>?_⟩
 walk_at "rd"
 refine Rs (SqL.of h5') ?_
 by_cases hw2:Way (es.map (·.2)) y x
 . rw[decide_eq_true ((hfs' x).mpr hw2),show knV (es.map (·.2)) x y = .bl false by unfold knV;rw[if_neg (fun q=>hw (wayB_iff.mp q)),if_pos (.inl (wayB_iff.mpr hw2))]]
   walk_at "rd"
   rw[show decide (V.non=V.non)=true from decide_eq_true rfl]
   exact k _ ((e03.trans e4).trans e5)
 rw[decide_eq_false (fun q=>hw2 ((hfs' x).mp q)),show knV (es.map (·.2)) x y = .non by unfold knV;rw[if_neg (fun q=>hw (wayB_iff.mp q)),if_neg (fun q=>q.elim (fun q=>hw2 (wayB_iff.mp q)) hxy)]]
 walk_at "rd"
 rw[show decide (V.non=V.non)=true from decide_eq_true rfl]
 exact k _ ((e03.trans e4).trans e5)
def spLaw (K:PySem.W.Frag):Sp:=fun vs H Q _=>∃(a:Addr) (ns:List Int),vs=[.ref a]/\SqL K H a (ns.map V.int)/\ns.length<=63/\∀ H',Q (.bl true) H'
structure LwAt (K:PySem.W.Frag)(C:Addr)(H:Hp)(f l nl d p pl kd dl:Addr)(ns:List Str)(es:List (Nat×(Str×Str)))(n:Nat):Prop where
 fd:Feed H f l
 nm:H nl=some (.lst (ns.map V.str))
 sd:SdAt K C H d p pl kd dl ns es n
 a1:f≠d
 a2:f≠kd
 a3:l≠pl
 a4:l≠dl
 a5:nl≠pl
 a6:nl≠dl
theorem LwAt.same {K:PySem.W.Frag}{C:Addr}{H H':Hp}{f l nl d p pl kd dl:Addr}{ns:List Str}{es:List (Nat×(Str×Str))}{n:Nat}(h:LwAt K C H f l nl d p pl kd dl ns es n)(e:Same H H'):LwAt K C H' f l nl d p pl kd dl ns es n:=
 ⟨h.fd.same e,e _ _ h.nm,h.sd.same e,h.a1,h.a2,h.a3,h.a4,h.a5,h.a6⟩
theorem LwAt.draw {K:PySem.W.Frag}{C:Addr}{H H':Hp}{f l nl d p pl kd dl:Addr}{ns:List Str}{es:List (Nat×(Str×Str))}{n:Nat}(h:LwAt K C H f l nl d p pl kd dl ns es n)(e:ExtBut f H H')(hF:Feed H' f l):LwAt K C H' f l nl d p pl kd dl ns es n:=by
 have fz:=h.fd.fz e
 obtain⟨a,t,u,cs,hf,hl,h0,h64⟩:=h.fd
 obtain⟨nv,ul,kvs,ys,h1,h2,h3,h4,h5,h6⟩:=h.sd.o.ex
 refine⟨hF,e _ _ (fun q=>by rw[<- q,h.nm] at hf;cases hf) h.nm,⟨⟨⟨nv,ul,kvs,ys,e _ _ h.a1.symm h1,h2.nm_fz fz,e _ _ h.a2.symm h3,h4.fz fz,e _ _ (fun q=>by rw[<- q,h5] at hf;cases hf) h5,h6⟩,h.sd.o.so,h.sd.o.lt,h.sd.o.le,h.sd.o.ne⟩,h.sd.kp.of fz (fun o q=>e _ _ (fun z=>?_) q) (fun o q=>e _ _ (fun z=>?_) q),h.sd.ne⟩,h.a1,h.a2,h.a3,h.a4,h.a5,h.a6⟩
 . obtain⟨dx,nv',w,ul',ys',g1,g2,g3,g4,g5⟩:=h.sd.kp.ex
   rw[<- z,g1] at hf
   cases hf
 obtain⟨dx,nv',w,ul',ys',g1,g2,g3,g4,g5⟩:=h.sd.kp.ex
 rw[<- z,g4] at hf
 cases hf
theorem LwAt.say {K:PySem.W.Frag}{C:Addr}{H H':Hp}{f l nl d p pl kd dl:Addr}{ns:List Str}{es es':List (Nat×(Str×Str))}{n n':Nat}(h:LwAt K C H f l nl d p pl kd dl ns es n)(k:a92 p pl d kd dl H H')(hS:SdAt K C H' d p pl kd dl ns es' n'):LwAt K C H' f l nl d p pl kd dl ns es' n':=by
 obtain⟨a,t,u,cs,hf,hl,h0,h64⟩:=h.fd
 have hnm:=h.nm
 obtain⟨nv,ul,kvs,ys,h1,h2,h3,h4,h5,h6⟩:=h.sd.o.ex
 obtain⟨dx,nv',w,ul',ys',g1,g2,g3,g4,g5⟩:=h.sd.kp.ex
 refine⟨⟨a,t,u,cs,k _ _ (fun q=>?_) (fun q=>?_) h.a1 h.a2 (fun q=>?_) hf,k _ _ (fun q=>?_) h.a3 (fun q=>?_) (fun q=>?_) h.a4 hl,h0,h64⟩,k _ _ (fun q=>?_) h.a5 (fun q=>?_) (fun q=>?_) h.a6 hnm,hS,h.a1,h.a2,h.a3,h.a4,h.a5,h.a6⟩
 . rw[q,g1] at hf;cases hf
 . rw[q,g4] at hf;cases hf
 . rw[q,h5] at hf;cases hf
 . rw[q,g1] at hl;cases hl
 . rw[q,h1] at hl;cases hl
 . rw[q,h3] at hl;cases hl
 . rw[q,g1] at hnm;cases hnm
 . rw[q,h1] at hnm;cases hnm
 rw[q,h3] at hnm;cases hnm
theorem Vj {ns:List Str} {x y z z':Str} (h:Ua ns [x,y] z) (h':Ua ns [x,y] z'):z=z':=by
 have key:∀ {z:Str},Ua ns [x,y] z->(z=x/\x∉ns)\/(x∈ns/\z=y):=fun {z} h=>by
  obtain⟨as,bs,e,ha,hz⟩:=h
  match as,e with
  | [],e=>
    injection e with e1 _
    subst e1
    exact .inl ⟨rfl,hz⟩
  | [b],e=>
    injection e with e1 e2
    injection e2 with e2 _
    subst e1
    exact .inr ⟨ha _ (by simp),e2.symm⟩
  | b :: c :: r,e=>
    have:=congrArg List.length e
    simp at this
 rcases key h with ⟨a,b⟩ | ⟨a,b⟩<;>rcases key h' with ⟨c,d⟩ | ⟨c,d⟩
 . rw[a,c]
 . exact absurd c b
 . exact absurd a d
 rw[b,d]
theorem Wi {K:PySem.W.Frag}{C:Addr}{H:Hp}{p pl:Addr}{ns:List Str}{es:List (Nat×(Str×Str))}{n:Nat}{w x y z:Str}{Q:VK}{E:XK}(hK:KpAt K C H p pl ns es n)(hw:w = "lead" \/ w = "knows")(h:Ua ns [x,y] z)(k:∀ u H',Same H H'->Is K H' (.tuple [.str "name",.str z]) u->Q u H'):B7 C K [.ref p,.str w,.str x,.str y] H Q E:=by
 refine⟨p,pl,ns,es,n,w,.str x,.str y,rfl,hK,?_⟩
 rcases hw with rfl | rfl
 . exact .inr (.inr (.inl ⟨rfl,x,y,rfl,rfl,fun z' u H' hz e hu=>k u H' e (Vj h hz ▸ hu),fun hx hy=>(Se h hx hy).elim⟩))
 exact .inr (.inr (.inr ⟨rfl,x,y,rfl,rfl,fun z' u H' hz e hu=>k u H' e (Vj h hz ▸ hu),fun hx hy=>(Se h hx hy).elim⟩))
theorem am8 {f:Addr}{fd:FuncData}(F:Fun K "law" "law" Nz f fd)(T:Fa mg){C_Keeper:Addr}(k_Keeper:Ao K C_Keeper)(c__law_feed:Fnd P w K mg base 1 "_law_feed" ["_law_script"] (Gn K))(c__law_draw:Fnd P w K mg base 1 "_law_draw" ["_law_feed_here","_law_many"] (Fk K))(c__law_names:Fnd P w K mg base 2 "_law_names" ["_law_feed_here","_law_many"] (G8 K))(c__law_told_by:Fnd P w K mg base 5 "_law_told_by" ["_law_keeper","_law_word","_law_one","_law_other"] (B7 C_Keeper K))(c__law_side:Fnd P w K mg base 1 "_law_side" ["_law_names_here","_law_keeper"] (Gu K))(c__law_say:Fnd P w K mg base 6 "_law_say" ["_law_side_here","_law_name","_law_other"] (Hu C_Keeper K))(c__law_looked:Fnd P w K mg base 6 "_law_looked" ["_law_side_here"] (Fm C_Keeper K))(c__law_asked:Fnd P w K mg base 6 "_law_asked" ["_law_side_here","_law_name","_law_other"] (G1 C_Keeper K))(c_Keeper_init:Mkd P w K mg base 4 C_Keeper "Keeper" ["self","names"] (Fl C_Keeper K)):FnOk P w K mg base CX0 7 f fd ["_law_script"] (spLaw K):=by
 refine F.ok Hm (fun vs H Q E h=>?_) (fun cdv A outer s H vs Q E hr h=>?_)
 . obtain⟨a,ns,rfl,_⟩:=h
   rfl
 obtain⟨a,cs,rfl,hS,h63,k⟩:=h
 have hu:=Cg hr
 have hq:=Ch hr
 with_reducible refine⟨_,(A1 (Ai (i:=1) Hm.nd (by ac_nf) (by eq_refl) (Bi c__law_feed (hr.mono (by decide)) (by ac_nf) (A0 (pv 0) A2)))
  (A1 (Ai (i:=2) Hm.nd (by ac_nf) (by with_unfolding_all exact Or.inr rfl) (Bi c__law_names (hr.mono (by decide)) (by ac_nf) (A0 (pv 1) (A0 (Av (At (K:=K)) A6 (Bi c__law_draw (hr.mono (by decide)) (by ac_nf) (A0 (pv 1) (A0 A6 A2)))) A2))))
  (A1 (Ai (i:=3) Hm.nd (by ac_nf) (by with_unfolding_all exact Or.inr rfl) (Bi c__law_side (hr.mono (by decide)) (by ac_nf) (A0 (Bl (Bo (K:=K)) (by ac_nf) T.b_tuple PyProof.Rows.Boot.«tuple» (A0 (pv 2) A2)) (A0 (ao6 c_Keeper_init (hr.mono (by decide)) (by ac_nf) (A0 (Bl (Bo (K:=K)) (by ac_nf) T.b_tuple PyProof.Rows.Boot.«tuple» (A0 (pv 2) A2)) A2)) A2))))
  (A1 (Eg PassesOwn.never (by ac_nf) (Il (by ac_nf) T.b_range (A0 (Bi c__law_draw (hr.mono (by decide)) (by ac_nf) (A0 (pv 1) (A0 A6 A2))) A2)) (Ap (i:=4) Hm.nd (by ac_nf) (by eq_refl))
  (A1 (Ai (i:=5) Hm.nd (by ac_nf) (by eq_refl) (Av (At (K:=K)) (pv 2) (Ej (Yl (K:=K)) (Dc (A0 A7 (A0 A7 A2))) L7 (Dt (Av Jw (Bi c__law_draw (hr.mono (by decide)) (by ac_nf) (A0 (pv 1) (A0 A6 A2))) A6)))))
  (A1 (B4 (Fs (Db (Bi c__law_say (hr.mono (by decide)) (by ac_nf) (A0 (pv 3) (A0 (Ag (A5 (K:=K) hu) (pv 5) (Bi c__law_draw (hr.mono (by decide)) (by ac_nf) (A0 (pv 1) (A0 (Ae (C1 (K:=K)) (by ac_nf) T.b_len PyProof.Rows.Boot.«len» (A0 (pv 5) A2)) A2))) (by ac_rfl)) (A0 (Ag (A5 (K:=K) hu) (pv 5) (Bi c__law_draw (hr.mono (by decide)) (by ac_nf) (A0 (pv 1) (A0 (Ae (C1 (K:=K)) (by ac_nf) T.b_len PyProof.Rows.Boot.«len» (A0 (pv 5) A2)) A2))) (by ac_rfl)) A2)))))) (A4 (Ak Fg)) Ah)
  (A1 (B4 (PW.pt (Na (Ac (Ba (K:=K) hq) (Bi c__law_draw (hr.mono (by decide)) (by ac_nf) (A0 (pv 1) (A0 A6 A2))) A6 (Al _)) (L0 (Fs (Db (Bi c__law_looked (hr.mono (by decide)) (by ac_nf) (A0 (pv 3) A2))))))) (A4 (Ak Fg)) Ah)
  (A4 (B4 (Ac (Ba (K:=K) hq) (Bi c__law_draw (hr.mono (by decide)) (by ac_nf) (A0 (pv 1) (A0 A6 A2))) A6 (Al _)) (A4 (Eg PassesOwn.never (by ac_nf) (Ax (K:=K) hu (pv 2)) (Ap (i:=6) Hm.nd (by ac_nf) (by with_unfolding_all exact Or.inr rfl))
  (A4 (B4 (Ac (Ik (K:=K) hq) (Do ["_law_other"] ["_law_side_here","_law_name"] [3,6] (by ac_nf) (by ac_nf) (by ac_nf) (Ax (K:=K) hu (pv 2)) (fun _ _ _ _=>(Ap (i:=0) (by with_unfolding_all (show(["_law_other","_law_side_here","_law_name"]:List Str).Nodup;decide +kernel)) (by ac_nf) (by eq_refl))) (Ce (by decide)) (fun _ _ _ _=>(Lb (Fs (Db (Bi c__law_asked (hr.mono (by decide)) (by ac_nf) (A0 (pv 1) (A0 (pv 2) (A0 (pv 0) A2)))))))) (fun _ _ _ _=>A6)) (Dc A2) (Al _)) (A4 (Ak Fg)) Ah)))) Ah))))))
  (A1 (Eg PassesOwn.never (by ac_nf) (Ax (K:=K) hu (pv 2)) (Ap (i:=6) Hm.nd (by ac_nf) (by with_unfolding_all exact Or.inr rfl))
  (A4 (B4 (Ac (Ik (K:=K) hq) (Do ["_law_other"] ["_law_side_here","_law_name"] [3,6] (by ac_nf) (by ac_nf) (by ac_nf) (Ax (K:=K) hu (pv 2)) (fun _ _ _ _=>(Ap (i:=0) (by with_unfolding_all (show(["_law_other","_law_side_here","_law_name"]:List Str).Nodup;decide +kernel)) (by ac_nf) (by eq_refl))) (Ce (by decide)) (fun _ _ _ _=>(Lb (Fs (Db (Bi c__law_asked (hr.mono (by decide)) (by ac_nf) (A0 (pv 1) (A0 (pv 2) (A0 (pv 0) A2)))))))) (fun _ _ _ _=>A6)) (Dc A2) (Al _)) (A4 (Ak Fg)) Ah)))
  (A1 (Iy (i:=5) ["_law_name"] ["_law_names_here"] [2] (by ac_nf) (by ac_nf) (by ac_nf) Hm.nd (by ac_nf) (by ac_nf) (Ax (K:=K) hu (Aw (A0 A7 (A0 A7 (A0 A7 A2))))) (fun _ _ _ _=>(Ap (i:=0) (by with_unfolding_all (show(["_law_name","_law_names_here"]:List Str).Nodup;decide +kernel)) (by ac_nf) (by eq_refl))) (Ce (by decide)) (fun _ _ _ _=>(Lb (Ac (Ff (K:=K) hq) (pv 0) (pv 1) (by ac_nf)))) (fun _ _ _ _=>(pv 0)))
  (A1 (Eg PassesOwn.never (by ac_nf) (Ax (K:=K) hu (Aw (A0 A7 (A0 A7 A2)))) (Ap (i:=7) Hm.nd (by ac_nf) (by eq_refl))
  (A1 (B4 (Ac (Ik (K:=K) hq) (Bi c__law_told_by (hr.mono (by decide)) (by ac_nf) (A0 (Ag (A5 (K:=K) hu) (pv 3) A7 (by ac_rfl)) (A0 (pv 7) (A0 (Ag (A5 (K:=K) hu) (pv 5) A6 (by ac_rfl)) (A0 (Ag (A5 (K:=K) hu) (pv 2) A6 (by ac_rfl)) A2))))) (Aw (A0 A7 (A0 (Ag (A5 (K:=K) hu) (pv 5) A6 (by ac_rfl)) A2))) (Al _)) (A4 (Ak Fg)) Ah)
  (A4 (B4 (Ac (Ik (K:=K) hq) (Bi c__law_told_by (hr.mono (by decide)) (by ac_nf) (A0 (Ag (A5 (K:=K) hu) (pv 3) A7 (by ac_rfl)) (A0 (pv 7) (A0 (Ag (A5 (K:=K) hu) (pv 2) A6 (by ac_rfl)) (A0 (Ag (A5 (K:=K) hu) (pv 5) A6 (by ac_rfl)) A2))))) (Aw (A0 A7 (A0 (Ag (A5 (K:=K) hu) (pv 5) A6 (by ac_rfl)) A2))) (Al _)) (A4 (Ak Fg)) Ah))))
  (A4 (Ak (Bi c__law_looked (hr.mono (by decide)) (by ac_nf) (A0 (pv 3) A2))))))))))),?_⟩
 walk_at "rd"
 refine⟨a,cs,rfl,hS,h63,fun f l H1 hf hl e1 hF=>?_⟩
 walk_at "rd"
 refine⟨f,l,_,rfl,hF,by omega,by omega,fun c2 H2 hc0 hc1 e2 hF2=>?_⟩
 walk_at "rd"
 refine⟨f,l,1+c2,rfl,hF2,by omega,by omega,fun nl ns H3 hn3 e3 hF3 h3 hN hnl=>?_⟩
 walk_at "rd"
 refine G6 (SqL.of h3) fun u4 H4 hu4 e4 h4=>?_
 walk_at "rd"
 refine G6 (SqL.of (e4 _ _ h3)) fun u5 H5 hu5 e5 h5=>?_
 walk_at "rd"
 refine au9 fun p dx H6 hp6 e6 h6=>?_
 refine⟨p,.ref u5,dx,ns,rfl,h6,M5 (SqT.of (e6 _ _ h5)),hN.nm,by omega,fun pl H7 hpl e7 hK7=>⟨rfl,?_⟩⟩
 walk_at "rd"
 refine⟨.ref u4,.ref p,rfl,fun d kd dl ul H8 hd8 hkd8 hdl8 hdkd e8 h81 h82 h83=>?_⟩
 have e36:=(e4.trans e5).trans e6
 have hF6:=hF3.same e36
 have hpf:f≠p:=fun q=>by
  obtain⟨_,_,_,_,g,_⟩:=hF6
  rw[q,h6] at g
  cases g
 have hL:LwAt K C_Keeper H8 f l nl d p pl kd dl ns [] 0:=by
  obtain⟨fa,ft,fu,fcs,hf1,hf2,hf3,hf4⟩:=hF6
  have hn6:=e36 _ _ h3
  have hnp:nl≠p:=fun q=>by rw[q,h6] at hn6;cases hn6
  have hlp:l≠p:=fun q=>by rw[q,h6] at hf2;cases hf2
  have hf17:=e7 _ _ hpf hf1
  have hf27:=e7 _ _ hlp hf2
  have hn7:=e7 _ _ hnp hn6
  have hu6:=e6 _ _ (e5 _ _ h4)
  have hup:u4≠p:=fun q=>by rw[q,h6] at hu6;cases hu6
  have hu8:=e8 _ _ (e7 _ _ hup hu6)
  obtain⟨dx',nv',w',ul',ys',g1,g2,g3,g4,g5⟩:=hK7.ex
  refine⟨⟨fa,ft,fu,fcs,e8 _ _ hf17,e8 _ _ hf27,hf3,hf4⟩,e8 _ _ hn7,⟨⟨⟨.ref u4,ul,[],[],h81,M5 (SqT.of hu8),h82,⟨⟨[],rfl,.nil⟩,fun e he=>by cases he⟩,h83,by simp⟩,by simp,fun e he=>(by cases he),by simp,hdkd⟩,hK7.same e8,?_⟩,?_,?_,?_,?_,?_,?_⟩
  . exact(ne_of_none g4 hdl8).symm
  . exact ne_of_none hf17 hd8
  . exact ne_of_none hf17 hkd8
  . exact ne_of_none hf2 hpl
  . exact ne_of_none hf27 hdl8
  . exact ne_of_none hn6 hpl
  exact ne_of_none hn7 hdl8
 walk_at "rd"
 refine⟨f,l,_,rfl,hL.fd,by omega,by omega,fun c9 H9 h90 h91 e9 hF9=>?_⟩
 walk_at "rd"
 refine T0 (by omega) ?_
 have hL9:=hL.draw e9 hF9
 have hz9:c9.toNat<=20:=by omega
 refine Jf Fx (fun i σ H'=>∃ x4 x5 x6 es n,σ=[some (.ref a),some (.ref f),some (.ref nl),some (.ref d),x4,x5,x6,none]/\LwAt K C_Keeper H' f l nl d p pl kd dl ns es n/\es.length<=i/\n<=i) ⟨_,_,_,_,_,rfl,hL9,by simp,by simp⟩ (fun _ _ _ _=>trivial) (fun i x σ H10 hx hi hP=>?_) (fun σ H10 hP=>?_)
 . obtain⟨x4,x5,x6,es,n,rfl,hL10,hes,hn⟩:=hP
   obtain⟨rfl,hi2⟩:=Kt hx
   walk_at "rd"
   refine De (A9 (by simp)) fun q11 H11 hq11 e11 h11=>?_
   have hL11:=hL10.same e11
   walk_at "rd"
   refine⟨f,l,_,rfl,hL11.fd,by omega,by omega,fun c12 H12 h120 h121 e12 hF12=>?_⟩
   have hL12:=hL11.draw e12 hF12
   have h12:=e12 _ _ (hL11.fd.lst h11) h11
   walk_at "rd"
   refine Wb (SqL.of h12) fun q13 H13 hq13 e13 h13=>?_
   walk_at "rd"
   rw[Oi (by omega)] at h13
   have hL13:=hL12.same e13
   refine Su hL13.nm h13 (A9 (by simp;omega)) fun q14 H14 hq14 e14 h14=>?_
   obtain⟨ss,hss,hsl,hsm⟩:∃ ss:List Str,H14 q14=some (.lst (ss.map V.str))/\(1<=ss.length/\ss.length<=10)/\∀ z∈ss,PyData.strOk z=true:=by
    refine⟨ns++(["zzz","q"]:List Str).take (c12 / 7).toNat,?_,?_,fun z hz=>?_⟩
    . rw[h14,List.map_append,List.map_take]
      rfl
    . rw[List.length_append,List.length_take]
      simp
      omega
    rcases List.mem_append.mp hz with hz | hz
    . exact(Kj (hN.nm.2 z hz)).1
    have:=List.mem_of_mem_take hz
    simp only[List.mem_cons,List.not_mem_nil,or_false] at this
    rcases this with rfl | rfl<;>decide +kernel
   clear h14
   have hL14:=hL13.same e14
   have Mo:∀ c:Int,0<=c->c<((ss.length:Nat):Int)->∃ z,PyData.strOk z=true/\atI (ss.map V.str) c=some (.str z):=fun c h0 h1=>by
    obtain⟨j,rfl⟩:=Int.eq_ofNat_of_zero_le h0
    have hj:j<ss.length:=by omega
    exact⟨ss[j],hsm _ (List.getElem_mem hj),Ck (by rw[List.getElem?_map,List.getElem?_eq_getElem hj];rfl)⟩
   walk_at "rq"
   with_reducible refine Vx (fun σ' H'=>∃ es' n',σ'=[some (.ref a),some (.ref f),some (.ref nl),some (.ref d),some (.int (0+(i:Int))),some (.ref q14),x6,none]/\LwAt K C_Keeper H' f l nl d p pl kd dl ns es' n'/\es'.length<=i+1/\n'<=i+1) (fun N hN'=>?_) (fun σ1 H17 hM=>?_)
   . walk_at "rq"
     rw[List.length_map]
     refine⟨f,l,_,rfl,hL14.fd,by omega,by omega,fun c15 H15 h150 h151 e15 hF15=>?_⟩
     have hL15:=hL14.draw e15 hF15
     have h15:=e15 _ _ (hL14.fd.lst hss) hss
     obtain⟨x,hxo,hxa⟩:=Mo c15 h150 h151
     refine Im h15 hxa ?_
     walk_at "rq"
     rw[List.length_map]
     refine⟨f,l,_,rfl,hL15.fd,by omega,by omega,fun c16 H16 h160 h161 e16 hF16=>?_⟩
     have hL16:=hL15.draw e16 hF16
     have h16:=e16 _ _ (hL15.fd.lst h15) h15
     obtain⟨y,hyo,hya⟩:=Mo c16 h160 h161
     refine Im h16 hya ?_
     walk_at "rq"
     refine⟨d,p,pl,kd,dl,ns,es,n,x,y,rfl,hL16.sd,by omega,by omega,hxo,hyo,fun H17 e17=>?_,fun hx hy hne hnw H17 kp17 fz17 hS17=>?_⟩
     . walk_at "rq"
       exact hN' _ _ ⟨es,n,rfl,hL16.same e17,by omega,by omega⟩
     walk_at "rq"
     exact hN' _ _ ⟨_,_,rfl,hL16.say kp17 hS17,by rw[List.length_append];simp;omega,by omega⟩
   obtain⟨es,n,rfl,hL17,hes,hn⟩:=hM
   with_reducible refine Vx (fun σ' H'=>σ'=[some (.ref a),some (.ref f),some (.ref nl),some (.ref d),some (.int (0+(i:Int))),some (.ref q14),x6,none]/\LwAt K C_Keeper H' f l nl d p pl kd dl ns es n) (fun N hN'=>?_) (fun σ1 H18 hM=>?_)
   . walk_at "rq"
     refine⟨f,l,_,rfl,hL17.fd,by omega,by omega,fun c18 H18 h180 h181 e18 hF18=>?_⟩
     have hL18:=hL17.draw e18 hF18
     walk_at "rq"
     refine G4 (fun hc=>?_) (fun hc=>?_)
     . walk_at "rq"
       refine⟨d,p,pl,kd,dl,ns,es,n,rfl,hL18.sd,fun H19 e19=>?_⟩
       walk_at "rq"
       exact hN' _ _ ⟨rfl,hL18.same e19⟩
     walk_at "rq"
     exact hN' _ _ ⟨rfl,hL18⟩
   obtain⟨rfl,hL18⟩:=hM
   walk_at "rd"
   refine⟨f,l,_,rfl,hL18.fd,by omega,by omega,fun c19 H19 h190 h191 e19 hF19=>?_⟩
   have hL19:=hL18.draw e19 hF19
   walk_at "rd"
   refine G4 (fun hc=>?_) (fun hc=>?_)
   . walk_at "rd"
     refine Tv (SqL.of hL19.nm) ?_
     refine Jf (Fu (xs:=ns.map V.str)) (fun j σ H'=>∃ x6,σ=[some (.ref a),some (.ref f),some (.ref nl),some (.ref d),some (.int (0+(i:Int))),some (.ref q14),x6,none]/\LwAt K C_Keeper H' f l nl d p pl kd dl ns es n) ⟨_,rfl,hL19⟩ (fun j σ' H' hP=>?_) (fun j x σ' Hj hx hj hP=>?_) (fun σ' Hj hP=>?_)
     . obtain⟨_,_,q⟩:=hP
       exact SqL.of q.nm
     . obtain⟨x6,rfl,hLj⟩:=hP
       rw[List.getElem?_map] at hx
       obtain⟨nm,hnm,rfl⟩:=Option.map_eq_some_iff.mp hx
       walk_at "rd"
       refine Tv (SqL.of hLj.nm) (Em (K:=K) (Fu (xs:=ns.map V.str)) ns (by simp) (fun _=>false) (fun _=>PyData.none) (fun _=>rfl) (by simp;omega) (fun H' e=>e.seq (SqL.of hLj.nm)) (fun i z v Ha R R' hz hv ea hR hR'=>?_) (fun q us Ha hqa ea hq' hLa=>?_))
       . rw[List.getElem?_map,hz] at hv
         cases hv
         walk_at "rd"
         refine⟨d,p,pl,kd,dl,ns,es,n,nm,z,rfl,(hLj.same ea).sd,List.mem_of_getElem? hnm,List.mem_of_getElem? hz,fun Hb eb=>?_⟩
         walk_at "rd"
         exact hR' rfl _ eb
       have hus:us=[]:=by
        rw[List.filter_eq_nil_iff.mpr (by simp)] at hLa
        exact Ny hLa
       subst hus
       walk_at "rd"
       refine De (A9 (by simp)) fun qb Hb hqb eb hb=>?_
       refine Wh (He (ns:=[]) (SqL.of (eb _ _ hq'))) (He (ns:=[]) (SqL.of hb)) (PySem.W.ke_shaped_ints []) (PySem.W.ke_shaped_ints []) ?_
       rw[show PyData.eqv (.list (([]:List Int).map PyData.int)) (.list (([]:List Int).map PyData.int))=true by simp[PyData.eqv,PyData.eqvAll]]
       walk_at "rd"
       exact⟨_,rfl,hLj.same (ea.trans eb)⟩
     obtain⟨x6,rfl,hLj⟩:=hP
     walk_at "rd"
     exact⟨_,_,_,_,_,rfl,hLj,hes,hn⟩
   walk_at "rd"
   exact⟨_,_,_,_,_,rfl,hL19,hes,hn⟩
 obtain⟨x4,x5,x6,es,n,rfl,hL10,hes,hn⟩:=hP
 walk_at "rd"
 refine Tv (SqL.of hL10.nm) ?_
 refine Jf (Fu (xs:=ns.map V.str)) (fun j σ H'=>∃ x6,σ=[some (.ref a),some (.ref f),some (.ref nl),some (.ref d),x4,x5,x6,none]/\LwAt K C_Keeper H' f l nl d p pl kd dl ns es n) ⟨_,rfl,hL10⟩ (fun j σ' H' hP=>?_) (fun j x σ' Hj hx hj hP=>?_) (fun σ' Hj hP=>?_)
 . obtain⟨_,_,q⟩:=hP
   exact SqL.of q.nm
 . obtain⟨x6,rfl,hLj⟩:=hP
   rw[List.getElem?_map] at hx
   obtain⟨nm,hnm,rfl⟩:=Option.map_eq_some_iff.mp hx
   walk_at "rd"
   refine Tv (SqL.of hLj.nm) (Em (K:=K) (Fu (xs:=ns.map V.str)) ns (by simp) (fun _=>false) (fun _=>PyData.none) (fun _=>rfl) (by simp;omega) (fun H' e=>e.seq (SqL.of hLj.nm)) (fun i z v Ha R R' hz hv ea hR hR'=>?_) (fun q us Ha hqa ea hq' hLa=>?_))
   . rw[List.getElem?_map,hz] at hv
     cases hv
     walk_at "rd"
     refine⟨d,p,pl,kd,dl,ns,es,n,nm,z,rfl,(hLj.same ea).sd,List.mem_of_getElem? hnm,List.mem_of_getElem? hz,fun Hb eb=>?_⟩
     walk_at "rd"
     exact hR' rfl _ eb
   have hus:us=[]:=by
    rw[List.filter_eq_nil_iff.mpr (by simp)] at hLa
    exact Ny hLa
   subst hus
   walk_at "rd"
   refine De (A9 (by simp)) fun qb Hb hqb eb hb=>?_
   refine Wh (He (ns:=[]) (SqL.of (eb _ _ hq'))) (He (ns:=[]) (SqL.of hb)) (PySem.W.ke_shaped_ints []) (PySem.W.ke_shaped_ints []) ?_
   rw[show PyData.eqv (.list (([]:List Int).map PyData.int)) (.list (([]:List Int).map PyData.int))=true by simp[PyData.eqv,PyData.eqvAll]]
   walk_at "rd"
   exact⟨_,rfl,hLj.same (ea.trans eb)⟩
 obtain⟨x6,rfl,hLj⟩:=hP
 walk_at "rd"
 refine Au (A9 (by simp)) fun t11 H11 ht11 e11 h11=>?_
 have hL11:=hLj.same e11
 walk_at "rd"
 refine Kf (SqT.of h11) (Em (K:=K) (Da (xs:=[.str "zzz",.str "q",.str "yy"])) (["zzz","q","yy"]:List Str) (by rfl) (fun z=>!decide (z∈ns)) (fun z=>PyData.str z) (fun _=>rfl) (by decide) (fun H' e=>e.seqT (SqT.of h11)) (fun i z v Ha R R' hz hv ea hR hR'=>?_) (fun q us H12 hq12 e12 h12 hL12=>?_))
 . have:v = .str z:=by
    match i,hz,hv with
    | 0,hz,hv=>cases hz;cases hv;rfl
    | 1,hz,hv=>cases hz;cases hv;rfl
    | 2,hz,hv=>cases hz;cases hv;rfl
   subst this
   walk_at "rd"
   refine Wl (SqL.of (hL11.same ea).nm) ?_
   walk_at "rd"
   by_cases hc:z∈ns
   . rw[decide_eq_true hc] at hR' ⊢
     walk_at "rd"
     exact hR' rfl _ (.refl _)
   rw[decide_eq_false hc] at hR ⊢
   walk_at "rd"
   exact hR rfl _ _ (.refl _) Dj
 rw[List.filter_cons_of_pos (by rw[decide_eq_false hN.zz];rfl),List.map_cons] at hL12
 obtain⟨v,us',rfl,hv,_⟩:=R0 hL12
 have:=Xt hv
 subst this
 have hLe:=hL11.same e12
 obtain⟨n0,ns',rfl⟩:∃ n0 ns',ns=n0 :: ns':=by
  match ns,hnl with
  | [],hnl=>simp at hnl;omega
  | n0 :: ns',_=>exact⟨n0,ns',rfl⟩
 have hn0:PyData.strOk n0=true:=(Kj (hN.nm.2 n0 (by simp))).1
 walk_at "rd"
 refine Au (A9 (by simp)) fun t13 H13 ht13 e13 h13=>?_
 walk_at "rd"
 refine Kf (SqT.of h13) ?_
 refine Jf (Da (xs:=[.str "lead",.str "knows"])) (fun j σ H'=>∃ x7,σ=[some (.ref a),some (.ref f),some (.ref nl),some (.ref d),x4,some (.ref q),x6,x7]/\Same H13 H') ⟨_,rfl,.refl _⟩ (fun j σ' H' hP=>?_) (fun j x σ' H14 hx hj hP=>?_) (fun σ' H14 hP=>?_)
 . obtain⟨_,_,e⟩:=hP
   exact e.seqT (SqT.of h13)
 . obtain⟨x7,rfl,e14⟩:=hP
   have hL14:=hLe.same (e13.trans e14)
   obtain⟨w,rfl,hw⟩:∃ w:Str,x = .str w/\(w = "lead" \/ w = "knows"):=by
    match j,hx with
    | 0,hx=>exact⟨"lead",(Option.some.inj hx).symm,.inl rfl⟩
    | 1,hx=>exact⟨"knows",(Option.some.inj hx).symm,.inr rfl⟩
   have hq14:=(e13.trans e14) _ _ h12
   obtain⟨nv,ul,kvs,ys,g1,_⟩:=hL14.sd.o.ex
   walk_at "rd"
   refine Im hq14 (v:=.str "zzz") (Ck (j:=0) rfl) ?_
   walk_at "rd"
   refine Im hL14.nm (v:=.str n0) (Ck (j:=0) rfl) ?_
   walk_at "rd"
   refine Wi hL14.sd.kp hw (z:="zzz") ⟨[],[n0],rfl,fun _ h=>(by cases h),hN.zz⟩ fun u15 H15 e15 hu15=>?_
   have hq15:=e15 _ _ hq14
   have hL15:=hL14.same e15
   have hzz:PyData.strOk ("zzz":Str)=true:=by decide +kernel
   have hna:PyData.strOk ("name":Str)=true:=by decide +kernel
   walk_at "rd"
   refine Im hq15 (v:=.str "zzz") (Ck (j:=0) rfl) ?_
   walk_at "rd"
   refine Au (A9 (by simp)) fun t16 H16 ht16 e16 h16=>?_
   refine Wh (Is.mono e16 _ _ hu15) (Is.of_tup (SqT.of h16) (.cons Dj (.one Dj))) (Ep hna hzz) (Ep hna hzz) ?_
   rw[R1]
   have hL16:=hL15.same e16
   have hq16:=e16 _ _ hq15
   have h116:=(e15.trans e16) _ _ g1
   walk_at "rd"
   refine Im hL16.nm (v:=.str n0) (Ck (j:=0) rfl) ?_
   walk_at "rd"
   refine Im hq16 (v:=.str "zzz") (Ck (j:=0) rfl) ?_
   walk_at "rd"
   refine Wi hL16.sd.kp hw (z:="zzz") ⟨[n0],[],rfl,fun z h=>by rw[List.mem_singleton.mp h];simp,hN.zz⟩ fun u17 H17 e17 hu17=>?_
   have hq17:=e17 _ _ hq16
   walk_at "rd"
   refine Im hq17 (v:=.str "zzz") (Ck (j:=0) rfl) ?_
   walk_at "rd"
   refine Au (A9 (by simp)) fun t18 H18 ht18 e18 h18=>?_
   refine Wh (Is.mono e18 _ _ hu17) (Is.of_tup (SqT.of h18) (.cons Dj (.one Dj))) (Ep hna hzz) (Ep hna hzz) ?_
   rw[R1]
   walk_at "rd"
   exact⟨_,rfl,(e14.trans (e15.trans e16)).trans (e17.trans e18)⟩
 obtain⟨x7,rfl,e14⟩:=hP
 walk_at "rd"
 refine⟨d,p,pl,kd,dl,_,es,n,rfl,(hLe.same (e13.trans e14)).sd,fun H15 e15=>?_⟩
 walk_at "rd"
 exact k _
end
theorem all_mk {l:PySem.W.OpenLaw}{w:World}{K:PySem.W.Frag}{h:Heap}{mg:Str->Option Value}{fa f0 f1 f2 f3 f4 f5 f6 f7 f8 f9 f10 f11 f12 f13 f14 f15 f16 f17 f18 f19 f20 f21 f22 f23 f24 f25 f26 f27 f28 f29 f30 f31 f32 f33 f34 f35 f36 f37 f38 f39 f40 f41 f42 f43 f44 C_Ways C_Keeper C_HalfError C_NoHalf C_NoText C_NoName C_TooMany C_NoCover C_NoPlace C_NoOrder C_NoJoin C_Clash C_NoPaper C_NoPlan C_NoBound C_NoSaying C_NoMore:Addr}(X:K.In h)(G:h.Ns mainGlobals mg)(hfa:mg "law" = some (.ref fa))
  {D0 N0 D1 N1 D2 N2 D3 N3 D4 N4 D5 N5 D6 N6 D7 N7 D8 N8 D9 N9 D10 N10 D11 N11 D12 N12 D13 N13 D14 N14 D15 N15 D16 N16 D17 N17 D18 N18 D19 N19 D20 N20 D21 N21 D22 N22 D23 N23 D24 N24 D25 N25 D26 N26 D27 N27 D28 N28 D29 N29 D30 N30 D31 N31 D32 N32 D33 N33 D34 N34 D35 N35 D36 N36 D37 N37 D38 N38 D39 N39 D40 N40 D41 N41 D42 N42 D43 N43 D44 N44:Option Addr} {S0 S1 S2 S3 S4 S5 S6 S7 S8 S9 S10 S11 S12 S13 S14 S15 S16 S17 S18 S19 S20 S21 S22 S23 S24 S25 S26 S27 S28 S29 S30 S31 S32 S33 S34 S35 S36 S37 S38 S39 S40 S41 S42 S43 S44:Array (Option Value)} {O0 V0 E0 P0 Q0 U0 O1 V1 E1 P1 Q1 U1 O2 V2 E2 P2 Q2 U2 O3 V3 E3 P3 Q3 U3 O4 V4 E4 P4 Q4 U4 O5 V5 E5 P5 Q5 U5 O6 V6 E6 P6 Q6 U6 O7 V7 E7 P7 Q7 U7 O8 V8 E8 P8 Q8 U8 O9 V9 E9 P9 Q9 U9 O10 V10 E10 P10 Q10 U10 O11 V11 E11 P11 Q11 U11 O12 V12 E12 P12 Q12 U12 O13 V13 E13 P13 Q13 U13 O14 V14 E14 P14 Q14 U14 O15 V15 E15 P15 Q15 U15 O16 V16 E16 P16 Q16 U16 O17 V17 E17 P17 Q17 U17 O18 V18 E18 P18 Q18 U18 O19 V19 E19 P19 Q19 U19 O20 V20 E20 P20 Q20 U20 O21 V21 E21 P21 Q21 U21 O22 V22 E22 P22 Q22 U22 O23 V23 E23 P23 Q23 U23 O24 V24 E24 P24 Q24 U24 O25 V25 E25 P25 Q25 U25 O26 V26 E26 P26 Q26 U26 O27 V27 E27 P27 Q27 U27 O28 V28 E28 P28 Q28 U28 O29 V29 E29 P29 Q29 U29 O30 V30 E30 P30 Q30 U30 O31 V31 E31 P31 Q31 U31 O32 V32 E32 P32 Q32 U32 O33 V33 E33 P33 Q33 U33 O34 V34 E34 P34 Q34 U34 O35 V35 E35 P35 Q35 U35 O36 V36 E36 P36 Q36 U36 O37 V37 E37 P37 Q37 U37 O38 V38 E38 P38 Q38 U38 O39 V39 E39 P39 Q39 U39 O40 V40 E40 P40 Q40 U40 O41 V41 E41 P41 Q41 U41 O42 V42 E42 P42 Q42 U42 O43 V43 E43 P43 Q43 U43 O44 V44 E44 P44 Q44 U44:Value}
  (aC_Ways:PySem.W.nsIn K mainGlobals "Ways" = some (some (.ref C_Ways))) (pg_Ways:PySem.W.plainGet K C_Ways Str.empty=true) (hd_Ways:PySem.W.hasDictIn K C_Ways=true) (po_Ways:PySem.W.plainOver K C_Ways=true) (sa_Ways:PySem.W.findIn K (.ref C_Ways) "__setattr__" = some (some (.builtin "object.__setattr__"))) (mk_Ways:PySem.W.makesIn K C_Ways=true) (kc_Ways:PySem.W.keepIn K (.ref C_Ways)=true)
  (n_Ways_names:PySem.W.findIn K (.ref C_Ways) "names" = some none)
  (n_Ways_bits:PySem.W.findIn K (.ref C_Ways) "bits" = some none)
  (n_Ways_ahead:PySem.W.findIn K (.ref C_Ways) "ahead" = some none)
  (n_Ways_full:PySem.W.findIn K (.ref C_Ways) "full" = some none)
  (n_Ways_known:PySem.W.findIn K (.ref C_Ways) "known" = some none)
  (aC_Keeper:PySem.W.nsIn K mainGlobals "Keeper" = some (some (.ref C_Keeper))) (pg_Keeper:PySem.W.plainGet K C_Keeper Str.empty=true) (hd_Keeper:PySem.W.hasDictIn K C_Keeper=true) (po_Keeper:PySem.W.plainOver K C_Keeper=true) (sa_Keeper:PySem.W.findIn K (.ref C_Keeper) "__setattr__" = some (some (.builtin "object.__setattr__"))) (mk_Keeper:PySem.W.makesIn K C_Keeper=true) (kc_Keeper:PySem.W.keepIn K (.ref C_Keeper)=true)
  (n_Keeper_names:PySem.W.findIn K (.ref C_Keeper) "names" = some none)
  (n_Keeper_now:PySem.W.findIn K (.ref C_Keeper) "now" = some none)
  (n_Keeper_past:PySem.W.findIn K (.ref C_Keeper) "past" = some none)
  (n_Keeper_undone:PySem.W.findIn K (.ref C_Keeper) "undone" = some none)
  (cg:PySem.W.specialIn K (.builtin "object.__class__") "__get__" = some (some (.builtin "getset_descriptor.__get__"))) (ct:PySem.W.takesIn K (.builtin "object.__class__")=some true)
  (aX_HalfError:PySem.W.nsIn K mainGlobals "HalfError" = some (some (.ref C_HalfError)))
  (aX_NoHalf:PySem.W.nsIn K mainGlobals "NoHalf" = some (some (.ref C_NoHalf)))
  (aX_NoText:PySem.W.nsIn K mainGlobals "NoText" = some (some (.ref C_NoText)))
  (aX_NoName:PySem.W.nsIn K mainGlobals "NoName" = some (some (.ref C_NoName)))
  (aX_TooMany:PySem.W.nsIn K mainGlobals "TooMany" = some (some (.ref C_TooMany)))
  (aX_NoCover:PySem.W.nsIn K mainGlobals "NoCover" = some (some (.ref C_NoCover)))
  (aX_NoPlace:PySem.W.nsIn K mainGlobals "NoPlace" = some (some (.ref C_NoPlace)))
  (aX_NoOrder:PySem.W.nsIn K mainGlobals "NoOrder" = some (some (.ref C_NoOrder)))
  (aX_NoJoin:PySem.W.nsIn K mainGlobals "NoJoin" = some (some (.ref C_NoJoin)))
  (aX_Clash:PySem.W.nsIn K mainGlobals "Clash" = some (some (.ref C_Clash)))
  (aX_NoPaper:PySem.W.nsIn K mainGlobals "NoPaper" = some (some (.ref C_NoPaper)))
  (aX_NoPlan:PySem.W.nsIn K mainGlobals "NoPlan" = some (some (.ref C_NoPlan)))
  (aX_NoBound:PySem.W.nsIn K mainGlobals "NoBound" = some (some (.ref C_NoBound)))
  (aX_NoSaying:PySem.W.nsIn K mainGlobals "NoSaying" = some (some (.ref C_NoSaying)))
  (aX_NoMore:PySem.W.nsIn K mainGlobals "NoMore" = some (some (.ref C_NoMore)))
  (ex_HalfError:Mt K C_HalfError=true) (sX_HalfError:PySem.W.findIn K (.ref C_HalfError) "__setattr__" = some (some (.builtin "object.__setattr__"))) (gX_HalfError:PySem.W.findIn K (.ref C_HalfError) "__getattribute__" = some (some (.builtin "BaseException.__getattribute__"))) (tX_HalfError:PySem.W.findIn K (.ref C_HalfError) "__getattr__" = some none) (lX_HalfError:PySem.W.findIn K (.ref C_HalfError) "__class__" = some (some (.builtin "object.__class__")))
  (no_HalfError:Xf K C_HalfError=true)
  (kX_HalfError:PySem.W.keepIn K (.ref C_HalfError)=true)
  (ex_NoHalf:Mt K C_NoHalf=true) (sX_NoHalf:PySem.W.findIn K (.ref C_NoHalf) "__setattr__" = some (some (.builtin "object.__setattr__"))) (gX_NoHalf:PySem.W.findIn K (.ref C_NoHalf) "__getattribute__" = some (some (.builtin "BaseException.__getattribute__"))) (tX_NoHalf:PySem.W.findIn K (.ref C_NoHalf) "__getattr__" = some none) (lX_NoHalf:PySem.W.findIn K (.ref C_NoHalf) "__class__" = some (some (.builtin "object.__class__")))
  (mr_NoHalf:Cf K C_NoHalf C_HalfError=true)
  (kX_NoHalf:PySem.W.keepIn K (.ref C_NoHalf)=true)
  (nX_NoHalf_word:PySem.W.findIn K (.ref C_NoHalf) "word" = some none)
  (nX_NoHalf_number:PySem.W.findIn K (.ref C_NoHalf) "number" = some none)
  (ex_NoText:Mt K C_NoText=true) (sX_NoText:PySem.W.findIn K (.ref C_NoText) "__setattr__" = some (some (.builtin "object.__setattr__"))) (gX_NoText:PySem.W.findIn K (.ref C_NoText) "__getattribute__" = some (some (.builtin "BaseException.__getattribute__"))) (tX_NoText:PySem.W.findIn K (.ref C_NoText) "__getattr__" = some none) (lX_NoText:PySem.W.findIn K (.ref C_NoText) "__class__" = some (some (.builtin "object.__class__")))
  (mr_NoText:Cf K C_NoText C_HalfError=true)
  (kX_NoText:PySem.W.keepIn K (.ref C_NoText)=true)
  (nX_NoText_row:PySem.W.findIn K (.ref C_NoText) "row" = some none)
  (ex_NoName:Mt K C_NoName=true) (sX_NoName:PySem.W.findIn K (.ref C_NoName) "__setattr__" = some (some (.builtin "object.__setattr__"))) (gX_NoName:PySem.W.findIn K (.ref C_NoName) "__getattribute__" = some (some (.builtin "BaseException.__getattribute__"))) (tX_NoName:PySem.W.findIn K (.ref C_NoName) "__getattr__" = some none) (lX_NoName:PySem.W.findIn K (.ref C_NoName) "__class__" = some (some (.builtin "object.__class__")))
  (mr_NoName:Cf K C_NoName C_HalfError=true)
  (kX_NoName:PySem.W.keepIn K (.ref C_NoName)=true)
  (nX_NoName_name:PySem.W.findIn K (.ref C_NoName) "name" = some none)
  (ex_TooMany:Mt K C_TooMany=true) (sX_TooMany:PySem.W.findIn K (.ref C_TooMany) "__setattr__" = some (some (.builtin "object.__setattr__"))) (gX_TooMany:PySem.W.findIn K (.ref C_TooMany) "__getattribute__" = some (some (.builtin "BaseException.__getattribute__"))) (tX_TooMany:PySem.W.findIn K (.ref C_TooMany) "__getattr__" = some none) (lX_TooMany:PySem.W.findIn K (.ref C_TooMany) "__class__" = some (some (.builtin "object.__class__")))
  (mr_TooMany:Cf K C_TooMany C_HalfError=true)
  (kX_TooMany:PySem.W.keepIn K (.ref C_TooMany)=true)
  (nX_TooMany_word:PySem.W.findIn K (.ref C_TooMany) "word" = some none)
  (ex_NoCover:Mt K C_NoCover=true) (sX_NoCover:PySem.W.findIn K (.ref C_NoCover) "__setattr__" = some (some (.builtin "object.__setattr__"))) (gX_NoCover:PySem.W.findIn K (.ref C_NoCover) "__getattribute__" = some (some (.builtin "BaseException.__getattribute__"))) (tX_NoCover:PySem.W.findIn K (.ref C_NoCover) "__getattr__" = some none) (lX_NoCover:PySem.W.findIn K (.ref C_NoCover) "__class__" = some (some (.builtin "object.__class__")))
  (mr_NoCover:Cf K C_NoCover C_HalfError=true)
  (no_NoCover:Xf K C_NoCover=true)
  (kX_NoCover:PySem.W.keepIn K (.ref C_NoCover)=true)
  (ex_NoPlace:Mt K C_NoPlace=true) (sX_NoPlace:PySem.W.findIn K (.ref C_NoPlace) "__setattr__" = some (some (.builtin "object.__setattr__"))) (gX_NoPlace:PySem.W.findIn K (.ref C_NoPlace) "__getattribute__" = some (some (.builtin "BaseException.__getattribute__"))) (tX_NoPlace:PySem.W.findIn K (.ref C_NoPlace) "__getattr__" = some none) (lX_NoPlace:PySem.W.findIn K (.ref C_NoPlace) "__class__" = some (some (.builtin "object.__class__")))
  (mr_NoPlace:Cf K C_NoPlace C_HalfError=true)
  (kX_NoPlace:PySem.W.keepIn K (.ref C_NoPlace)=true)
  (nX_NoPlace_number:PySem.W.findIn K (.ref C_NoPlace) "number" = some none)
  (ex_NoOrder:Mt K C_NoOrder=true) (sX_NoOrder:PySem.W.findIn K (.ref C_NoOrder) "__setattr__" = some (some (.builtin "object.__setattr__"))) (gX_NoOrder:PySem.W.findIn K (.ref C_NoOrder) "__getattribute__" = some (some (.builtin "BaseException.__getattribute__"))) (tX_NoOrder:PySem.W.findIn K (.ref C_NoOrder) "__getattr__" = some none) (lX_NoOrder:PySem.W.findIn K (.ref C_NoOrder) "__class__" = some (some (.builtin "object.__class__")))
  (mr_NoOrder:Cf K C_NoOrder C_HalfError=true)
  (no_NoOrder:Xf K C_NoOrder=true)
  (kX_NoOrder:PySem.W.keepIn K (.ref C_NoOrder)=true)
  (ex_NoJoin:Mt K C_NoJoin=true) (sX_NoJoin:PySem.W.findIn K (.ref C_NoJoin) "__setattr__" = some (some (.builtin "object.__setattr__"))) (gX_NoJoin:PySem.W.findIn K (.ref C_NoJoin) "__getattribute__" = some (some (.builtin "BaseException.__getattribute__"))) (tX_NoJoin:PySem.W.findIn K (.ref C_NoJoin) "__getattr__" = some none) (lX_NoJoin:PySem.W.findIn K (.ref C_NoJoin) "__class__" = some (some (.builtin "object.__class__")))
  (mr_NoJoin:Cf K C_NoJoin C_HalfError=true)
  (kX_NoJoin:PySem.W.keepIn K (.ref C_NoJoin)=true)
  (nX_NoJoin_word:PySem.W.findIn K (.ref C_NoJoin) "word" = some none)
  (ex_Clash:Mt K C_Clash=true) (sX_Clash:PySem.W.findIn K (.ref C_Clash) "__setattr__" = some (some (.builtin "object.__setattr__"))) (gX_Clash:PySem.W.findIn K (.ref C_Clash) "__getattribute__" = some (some (.builtin "BaseException.__getattribute__"))) (tX_Clash:PySem.W.findIn K (.ref C_Clash) "__getattr__" = some none) (lX_Clash:PySem.W.findIn K (.ref C_Clash) "__class__" = some (some (.builtin "object.__class__")))
  (mr_Clash:Cf K C_Clash C_HalfError=true)
  (kX_Clash:PySem.W.keepIn K (.ref C_Clash)=true)
  (nX_Clash_way:PySem.W.findIn K (.ref C_Clash) "way" = some none)
  (ex_NoPaper:Mt K C_NoPaper=true) (sX_NoPaper:PySem.W.findIn K (.ref C_NoPaper) "__setattr__" = some (some (.builtin "object.__setattr__"))) (gX_NoPaper:PySem.W.findIn K (.ref C_NoPaper) "__getattribute__" = some (some (.builtin "BaseException.__getattribute__"))) (tX_NoPaper:PySem.W.findIn K (.ref C_NoPaper) "__getattr__" = some none) (lX_NoPaper:PySem.W.findIn K (.ref C_NoPaper) "__class__" = some (some (.builtin "object.__class__")))
  (mr_NoPaper:Cf K C_NoPaper C_HalfError=true)
  (kX_NoPaper:PySem.W.keepIn K (.ref C_NoPaper)=true)
  (nX_NoPaper_word:PySem.W.findIn K (.ref C_NoPaper) "word" = some none)
  (nX_NoPaper_row:PySem.W.findIn K (.ref C_NoPaper) "row" = some none)
  (ex_NoPlan:Mt K C_NoPlan=true) (sX_NoPlan:PySem.W.findIn K (.ref C_NoPlan) "__setattr__" = some (some (.builtin "object.__setattr__"))) (gX_NoPlan:PySem.W.findIn K (.ref C_NoPlan) "__getattribute__" = some (some (.builtin "BaseException.__getattribute__"))) (tX_NoPlan:PySem.W.findIn K (.ref C_NoPlan) "__getattr__" = some none) (lX_NoPlan:PySem.W.findIn K (.ref C_NoPlan) "__class__" = some (some (.builtin "object.__class__")))
  (mr_NoPlan:Cf K C_NoPlan C_HalfError=true)
  (kX_NoPlan:PySem.W.keepIn K (.ref C_NoPlan)=true)
  (nX_NoPlan_word:PySem.W.findIn K (.ref C_NoPlan) "word" = some none)
  (nX_NoPlan_path:PySem.W.findIn K (.ref C_NoPlan) "path" = some none)
  (ex_NoBound:Mt K C_NoBound=true) (sX_NoBound:PySem.W.findIn K (.ref C_NoBound) "__setattr__" = some (some (.builtin "object.__setattr__"))) (gX_NoBound:PySem.W.findIn K (.ref C_NoBound) "__getattribute__" = some (some (.builtin "BaseException.__getattribute__"))) (tX_NoBound:PySem.W.findIn K (.ref C_NoBound) "__getattr__" = some none) (lX_NoBound:PySem.W.findIn K (.ref C_NoBound) "__class__" = some (some (.builtin "object.__class__")))
  (mr_NoBound:Cf K C_NoBound C_HalfError=true)
  (kX_NoBound:PySem.W.keepIn K (.ref C_NoBound)=true)
  (nX_NoBound_word:PySem.W.findIn K (.ref C_NoBound) "word" = some none)
  (nX_NoBound_row:PySem.W.findIn K (.ref C_NoBound) "row" = some none)
  (ex_NoSaying:Mt K C_NoSaying=true) (sX_NoSaying:PySem.W.findIn K (.ref C_NoSaying) "__setattr__" = some (some (.builtin "object.__setattr__"))) (gX_NoSaying:PySem.W.findIn K (.ref C_NoSaying) "__getattribute__" = some (some (.builtin "BaseException.__getattribute__"))) (tX_NoSaying:PySem.W.findIn K (.ref C_NoSaying) "__getattr__" = some none) (lX_NoSaying:PySem.W.findIn K (.ref C_NoSaying) "__class__" = some (some (.builtin "object.__class__")))
  (mr_NoSaying:Cf K C_NoSaying C_HalfError=true)
  (kX_NoSaying:PySem.W.keepIn K (.ref C_NoSaying)=true)
  (nX_NoSaying_number:PySem.W.findIn K (.ref C_NoSaying) "number" = some none)
  (ex_NoMore:Mt K C_NoMore=true) (sX_NoMore:PySem.W.findIn K (.ref C_NoMore) "__setattr__" = some (some (.builtin "object.__setattr__"))) (gX_NoMore:PySem.W.findIn K (.ref C_NoMore) "__getattribute__" = some (some (.builtin "BaseException.__getattribute__"))) (tX_NoMore:PySem.W.findIn K (.ref C_NoMore) "__getattr__" = some none) (lX_NoMore:PySem.W.findIn K (.ref C_NoMore) "__class__" = some (some (.builtin "object.__class__")))
  (mr_NoMore:Cf K C_NoMore C_HalfError=true)
  (no_NoMore:Xf K C_NoMore=true)
  (kX_NoMore:PySem.W.keepIn K (.ref C_NoMore)=true)
  (ndX:([C_HalfError,C_Clash,C_NoBound,C_NoCover,C_NoHalf,C_NoJoin,C_NoMore,C_NoName,C_NoOrder,C_NoPaper,C_NoPlace,C_NoPlan,C_NoSaying,C_NoText,C_TooMany]:List Addr).Nodup)
  (a0:PySem.W.nsIn K mainGlobals "_wall" = some (some (.ref f0))) (l0:K.lookup f0=some ⟨O0,D0,.func (PySem.W.fnOf "_wall" "_wall" (Aa Ll) (A8 Ll) (A3 Ll) .none V0 E0 P0 N0 Q0 U0),S0⟩) (c0:PySem.W.codeIn K Q0 "_wall" = true) (k0:PySem.W.keepIn K (.ref f0)=true)
  (a1:PySem.W.nsIn K mainGlobals "refuse_strangers" = some (some (.ref f1))) (l1:K.lookup f1=some ⟨O1,D1,.func (PySem.W.fnOf "refuse_strangers" "refuse_strangers" (Aa Ay) (A8 Ay) (A3 Ay) .none V1 E1 P1 N1 Q1 U1),S1⟩) (c1:PySem.W.codeIn K Q1 "refuse_strangers" = true) (k1:PySem.W.keepIn K (.ref f1)=true)
  (a2:PySem.W.nsIn K mainGlobals "behind_each" = some (some (.ref f2))) (l2:K.lookup f2=some ⟨O2,D2,.func (PySem.W.fnOf "behind_each" "behind_each" (Aa Cc) (A8 Cc) (A3 Cc) .none V2 E2 P2 N2 Q2 U2),S2⟩) (c2:PySem.W.codeIn K Q2 "behind_each" = true) (k2:PySem.W.keepIn K (.ref f2)=true)
  (a3:PySem.W.nsIn K mainGlobals "bits_of" = some (some (.ref f3))) (l3:K.lookup f3=some ⟨O3,D3,.func (PySem.W.fnOf "bits_of" "bits_of" (Aa Fv) (A8 Fv) (A3 Fv) .none V3 E3 P3 N3 Q3 U3),S3⟩) (c3:PySem.W.codeIn K Q3 "bits_of" = true) (k3:PySem.W.keepIn K (.ref f3)=true)
  (a4:PySem.W.nsIn K mainGlobals "bits_ahead" = some (some (.ref f4))) (l4:K.lookup f4=some ⟨O4,D4,.func (PySem.W.fnOf "bits_ahead" "bits_ahead" (Aa Cu) (A8 Cu) (A3 Cu) .none V4 E4 P4 N4 Q4 U4),S4⟩) (c4:PySem.W.codeIn K Q4 "bits_ahead" = true) (k4:PySem.W.keepIn K (.ref f4)=true)
  (a5:PySem.W.nsIn K mainGlobals "count" = some (some (.ref f5))) (l5:K.lookup f5=some ⟨O5,D5,.func (PySem.W.fnOf "count" "count" (Aa Ja) (A8 Ja) (A3 Ja) .none V5 E5 P5 N5 Q5 U5),S5⟩) (c5:PySem.W.codeIn K Q5 "count" = true) (k5:PySem.W.keepIn K (.ref f5)=true)
  (a6:PySem.W.nsIn K mainGlobals "is_name" = some (some (.ref f6))) (l6:K.lookup f6=some ⟨O6,D6,.func (PySem.W.fnOf "is_name" "is_name" (Aa Fy) (A8 Fy) (A3 Fy) .none V6 E6 P6 N6 Q6 U6),S6⟩) (c6:PySem.W.codeIn K Q6 "is_name" = true) (k6:PySem.W.keepIn K (.ref f6)=true)
  (a7:PySem.W.nsIn K mainGlobals "are_unlike_names" = some (some (.ref f7))) (l7:K.lookup f7=some ⟨O7,D7,.func (PySem.W.fnOf "are_unlike_names" "are_unlike_names" (Aa Az) (A8 Az) (A3 Az) .none V7 E7 P7 N7 Q7 U7),S7⟩) (c7:PySem.W.codeIn K Q7 "are_unlike_names" = true) (k7:PySem.W.keepIn K (.ref f7)=true)
  (a8:PySem.W.nsIn K mainGlobals "are_tale_names" = some (some (.ref f8))) (l8:K.lookup f8=some ⟨O8,D8,.func (PySem.W.fnOf "are_tale_names" "are_tale_names" (Aa Bd) (A8 Bd) (A3 Bd) .none V8 E8 P8 N8 Q8 U8),S8⟩) (c8:PySem.W.codeIn K Q8 "are_tale_names" = true) (k8:PySem.W.keepIn K (.ref f8)=true)
  (a9:PySem.W.nsIn K mainGlobals "way_by_sayings" = some (some (.ref f9))) (l9:K.lookup f9=some ⟨O9,D9,.func (PySem.W.fnOf "way_by_sayings" "way_by_sayings" (Aa Be) (A8 Be) (A3 Be) .none V9 E9 P9 N9 Q9 U9),S9⟩) (c9:PySem.W.codeIn K Q9 "way_by_sayings" = true) (k9:PySem.W.keepIn K (.ref f9)=true)
  (a10:PySem.W.nsIn K mainGlobals "_law_feed" = some (some (.ref f10))) (l10:K.lookup f10=some ⟨O10,D10,.func (PySem.W.fnOf "_law_feed" "_law_feed" (Aa Dm) (A8 Dm) (A3 Dm) .none V10 E10 P10 N10 Q10 U10),S10⟩) (c10:PySem.W.codeIn K Q10 "_law_feed" = true) (k10:PySem.W.keepIn K (.ref f10)=true)
  (a11:PySem.W.nsIn K mainGlobals "_law_draw" = some (some (.ref f11))) (l11:K.lookup f11=some ⟨O11,D11,.func (PySem.W.fnOf "_law_draw" "_law_draw" (Aa Dk) (A8 Dk) (A3 Dk) .none V11 E11 P11 N11 Q11 U11),S11⟩) (c11:PySem.W.codeIn K Q11 "_law_draw" = true) (k11:PySem.W.keepIn K (.ref f11)=true)
  (a12:PySem.W.nsIn K mainGlobals "_law_names" = some (some (.ref f12))) (l12:K.lookup f12=some ⟨O12,D12,.func (PySem.W.fnOf "_law_names" "_law_names" (Aa Cq) (A8 Cq) (A3 Cq) .none V12 E12 P12 N12 Q12 U12),S12⟩) (c12:PySem.W.codeIn K Q12 "_law_names" = true) (k12:PySem.W.keepIn K (.ref f12)=true)
  (a13:PySem.W.nsIn K mainGlobals "_law_behind" = some (some (.ref f13))) (l13:K.lookup f13=some ⟨O13,D13,.func (PySem.W.fnOf "_law_behind" "_law_behind" (Aa C5) (A8 C5) (A3 C5) .none V13 E13 P13 N13 Q13 U13),S13⟩) (c13:PySem.W.codeIn K Q13 "_law_behind" = true) (k13:PySem.W.keepIn K (.ref f13)=true)
  (a14:PySem.W.nsIn K mainGlobals "_law_refusal" = some (some (.ref f14))) (l14:K.lookup f14=some ⟨O14,D14,.func (PySem.W.fnOf "_law_refusal" "_law_refusal" (Aa Bu) (A8 Bu) (A3 Bu) .none V14 E14 P14 N14 Q14 U14),S14⟩) (c14:PySem.W.codeIn K Q14 "_law_refusal" = true) (k14:PySem.W.keepIn K (.ref f14)=true)
  (a15:PySem.W.nsIn K mainGlobals "_law_told_by" = some (some (.ref f15))) (l15:K.lookup f15=some ⟨O15,D15,.func (PySem.W.fnOf "_law_told_by" "_law_told_by" (Aa Bv) (A8 Bv) (A3 Bv) .none V15 E15 P15 N15 Q15 U15),S15⟩) (c15:PySem.W.codeIn K Q15 "_law_told_by" = true) (k15:PySem.W.keepIn K (.ref f15)=true)
  (a16:PySem.W.nsIn K mainGlobals "_law_side" = some (some (.ref f16))) (l16:K.lookup f16=some ⟨O16,D16,.func (PySem.W.fnOf "_law_side" "_law_side" (Aa Dn) (A8 Dn) (A3 Dn) .none V16 E16 P16 N16 Q16 U16),S16⟩) (c16:PySem.W.codeIn K Q16 "_law_side" = true) (k16:PySem.W.keepIn K (.ref f16)=true)
  (a17:PySem.W.nsIn K mainGlobals "_law_half_of" = some (some (.ref f17))) (l17:K.lookup f17=some ⟨O17,D17,.func (PySem.W.fnOf "_law_half_of" "_law_half_of" (Aa Bs) (A8 Bs) (A3 Bs) .none V17 E17 P17 N17 Q17 U17),S17⟩) (c17:PySem.W.codeIn K Q17 "_law_half_of" = true) (k17:PySem.W.keepIn K (.ref f17)=true)
  (a18:PySem.W.nsIn K mainGlobals "_law_is_way" = some (some (.ref f18))) (l18:K.lookup f18=some ⟨O18,D18,.func (PySem.W.fnOf "_law_is_way" "_law_is_way" (Aa Ca) (A8 Ca) (A3 Ca) .none V18 E18 P18 N18 Q18 U18),S18⟩) (c18:PySem.W.codeIn K Q18 "_law_is_way" = true) (k18:PySem.W.keepIn K (.ref f18)=true)
  (a19:PySem.W.nsIn K mainGlobals "_law_say" = some (some (.ref f19))) (l19:K.lookup f19=some ⟨O19,D19,.func (PySem.W.fnOf "_law_say" "_law_say" (Aa Eo) (A8 Eo) (A3 Eo) .none V19 E19 P19 N19 Q19 U19),S19⟩) (c19:PySem.W.codeIn K Q19 "_law_say" = true) (k19:PySem.W.keepIn K (.ref f19)=true)
  (a20:PySem.W.nsIn K mainGlobals "_law_looked" = some (some (.ref f20))) (l20:K.lookup f20=some ⟨O20,D20,.func (PySem.W.fnOf "_law_looked" "_law_looked" (Aa C8) (A8 C8) (A3 C8) .none V20 E20 P20 N20 Q20 U20),S20⟩) (c20:PySem.W.codeIn K Q20 "_law_looked" = true) (k20:PySem.W.keepIn K (.ref f20)=true)
  (a21:PySem.W.nsIn K mainGlobals "_law_asked" = some (some (.ref f21))) (l21:K.lookup f21=some ⟨O21,D21,.func (PySem.W.fnOf "_law_asked" "_law_asked" (Aa Co) (A8 Co) (A3 Co) .none V21 E21 P21 N21 Q21 U21),S21⟩) (c21:PySem.W.codeIn K Q21 "_law_asked" = true) (k21:PySem.W.keepIn K (.ref f21)=true)
  (a22:PySem.W.nsIn K mainGlobals "law" = some (some (.ref f22))) (l22:K.lookup f22=some ⟨O22,D22,.func (PySem.W.fnOf "law" "law" (Aa Nz) (A8 Nz) (A3 Nz) .none V22 E22 P22 N22 Q22 U22),S22⟩) (c22:PySem.W.codeIn K Q22 "law" = true) (k22:PySem.W.keepIn K (.ref f22)=true)
  (a23:PySem.W.findIn K (.ref C_Ways) "__init__" = some (some (.ref f23))) (i23:PySem.W.isFn K (.ref f23)=true) (l23:K.lookup f23=some ⟨O23,D23,.func (PySem.W.fnOf "__init__" "Ways.__init__" (Aa Dq) (A8 Dq) (A3 Dq) .none V23 E23 P23 N23 Q23 U23),S23⟩) (c23:PySem.W.codeIn K Q23 "Ways.__init__" = true) (k23:PySem.W.keepIn K (.ref f23)=true)
  (a24:PySem.W.findIn K (.ref C_Ways) "free_names" = some (some (.ref f24))) (i24:PySem.W.isFn K (.ref f24)=true) (l24:K.lookup f24=some ⟨O24,D24,.func (PySem.W.fnOf "free_names" "Ways.free_names" (Aa B3) (A8 B3) (A3 B3) .none V24 E24 P24 N24 Q24 U24),S24⟩) (c24:PySem.W.codeIn K Q24 "Ways.free_names" = true) (k24:PySem.W.keepIn K (.ref f24)=true)
  (a25:PySem.W.findIn K (.ref C_Ways) "ways_on" = some (some (.ref f25))) (i25:PySem.W.isFn K (.ref f25)=true) (l25:K.lookup f25=some ⟨O25,D25,.func (PySem.W.fnOf "ways_on" "Ways.ways_on" (Aa Bj) (A8 Bj) (A3 Bj) .none V25 E25 P25 N25 Q25 U25),S25⟩) (c25:PySem.W.codeIn K Q25 "Ways.ways_on" = true) (k25:PySem.W.keepIn K (.ref f25)=true)
  (a26:PySem.W.findIn K (.ref C_Keeper) "__init__" = some (some (.ref f26))) (i26:PySem.W.isFn K (.ref f26)=true) (l26:K.lookup f26=some ⟨O26,D26,.func (PySem.W.fnOf "__init__" "Keeper.__init__" (Aa C9) (A8 C9) (A3 C9) .none V26 E26 P26 N26 Q26 U26),S26⟩) (c26:PySem.W.codeIn K Q26 "Keeper.__init__" = true) (k26:PySem.W.keepIn K (.ref f26)=true)
  (a27:PySem.W.findIn K (.ref C_Keeper) "go_on" = some (some (.ref f27))) (i27:PySem.W.isFn K (.ref f27)=true) (l27:K.lookup f27=some ⟨O27,D27,.func (PySem.W.fnOf "go_on" "Keeper.go_on" (Aa Bw) (A8 Bw) (A3 Bw) .none V27 E27 P27 N27 Q27 U27),S27⟩) (c27:PySem.W.codeIn K Q27 "Keeper.go_on" = true) (k27:PySem.W.keepIn K (.ref f27)=true)
  (a28:PySem.W.findIn K (.ref C_Keeper) "say" = some (some (.ref f28))) (i28:PySem.W.isFn K (.ref f28)=true) (l28:K.lookup f28=some ⟨O28,D28,.func (PySem.W.fnOf "say" "Keeper.say" (Aa Cr) (A8 Cr) (A3 Cr) .none V28 E28 P28 N28 Q28 U28),S28⟩) (c28:PySem.W.codeIn K Q28 "Keeper.say" = true) (k28:PySem.W.keepIn K (.ref f28)=true)
  (a29:PySem.W.findIn K (.ref C_Keeper) "take" = some (some (.ref f29))) (i29:PySem.W.isFn K (.ref f29)=true) (l29:K.lookup f29=some ⟨O29,D29,.func (PySem.W.fnOf "take" "Keeper.take" (Aa Df) (A8 Df) (A3 Df) .none V29 E29 P29 N29 Q29 U29),S29⟩) (c29:PySem.W.codeIn K Q29 "Keeper.take" = true) (k29:PySem.W.keepIn K (.ref f29)=true)
  (a30:PySem.W.findIn K (.ref C_Keeper) "undo" = some (some (.ref f30))) (i30:PySem.W.isFn K (.ref f30)=true) (l30:K.lookup f30=some ⟨O30,D30,.func (PySem.W.fnOf "undo" "Keeper.undo" (Aa Cz) (A8 Cz) (A3 Cz) .none V30 E30 P30 N30 Q30 U30),S30⟩) (c30:PySem.W.codeIn K Q30 "Keeper.undo" = true) (k30:PySem.W.keepIn K (.ref f30)=true)
  (a31:PySem.W.findIn K (.ref C_Keeper) "redo" = some (some (.ref f31))) (i31:PySem.W.isFn K (.ref f31)=true) (l31:K.lookup f31=some ⟨O31,D31,.func (PySem.W.fnOf "redo" "Keeper.redo" (Aa Dh) (A8 Dh) (A3 Dh) .none V31 E31 P31 N31 Q31 U31),S31⟩) (c31:PySem.W.codeIn K Q31 "Keeper.redo" = true) (k31:PySem.W.keepIn K (.ref f31)=true)
  (a32:PySem.W.findIn K (.ref C_Keeper) "numbers" = some (some (.ref f32))) (i32:PySem.W.isFn K (.ref f32)=true) (l32:K.lookup f32=some ⟨O32,D32,.func (PySem.W.fnOf "numbers" "Keeper.numbers" (Aa Bf) (A8 Bf) (A3 Bf) .none V32 E32 P32 N32 Q32 U32),S32⟩) (c32:PySem.W.codeIn K Q32 "Keeper.numbers" = true) (k32:PySem.W.keepIn K (.ref f32)=true)
  (a33:PySem.W.findIn K (.ref C_Keeper) "saying" = some (some (.ref f33))) (i33:PySem.W.isFn K (.ref f33)=true) (l33:K.lookup f33=some ⟨O33,D33,.func (PySem.W.fnOf "saying" "Keeper.saying" (Aa Bm) (A8 Bm) (A3 Bm) .none V33 E33 P33 N33 Q33 U33),S33⟩) (c33:PySem.W.codeIn K Q33 "Keeper.saying" = true) (k33:PySem.W.keepIn K (.ref f33)=true)
  (a34:PySem.W.findIn K (.ref C_Keeper) "half" = some (some (.ref f34))) (i34:PySem.W.isFn K (.ref f34)=true) (l34:K.lookup f34=some ⟨O34,D34,.func (PySem.W.fnOf "half" "Keeper.half" (Aa C7) (A8 C7) (A3 C7) .none V34 E34 P34 N34 Q34 U34),S34⟩) (c34:PySem.W.codeIn K Q34 "Keeper.half" = true) (k34:PySem.W.keepIn K (.ref f34)=true)
  (a35:PySem.W.findIn K (.ref C_Keeper) "many" = some (some (.ref f35))) (i35:PySem.W.isFn K (.ref f35)=true) (l35:K.lookup f35=some ⟨O35,D35,.func (PySem.W.fnOf "many" "Keeper.many" (Aa Cy) (A8 Cy) (A3 Cy) .none V35 E35 P35 N35 Q35 U35),S35⟩) (c35:PySem.W.codeIn K Q35 "Keeper.many" = true) (k35:PySem.W.keepIn K (.ref f35)=true)
  (a36:PySem.W.findIn K (.ref C_Keeper) "best" = some (some (.ref f36))) (i36:PySem.W.isFn K (.ref f36)=true) (l36:K.lookup f36=some ⟨O36,D36,.func (PySem.W.fnOf "best" "Keeper.best" (Aa Cw) (A8 Cw) (A3 Cw) .none V36 E36 P36 N36 Q36 U36),S36⟩) (c36:PySem.W.codeIn K Q36 "Keeper.best" = true) (k36:PySem.W.keepIn K (.ref f36)=true)
  (a37:PySem.W.findIn K (.ref C_Keeper) "knows" = some (some (.ref f37))) (i37:PySem.W.isFn K (.ref f37)=true) (l37:K.lookup f37=some ⟨O37,D37,.func (PySem.W.fnOf "knows" "Keeper.knows" (Aa Bx) (A8 Bx) (A3 Bx) .none V37 E37 P37 N37 Q37 U37),S37⟩) (c37:PySem.W.codeIn K Q37 "Keeper.knows" = true) (k37:PySem.W.keepIn K (.ref f37)=true)
  (a38:PySem.W.findIn K (.ref C_Keeper) "way_kept" = some (some (.ref f38))) (i38:PySem.W.isFn K (.ref f38)=true) (l38:K.lookup f38=some ⟨O38,D38,.func (PySem.W.fnOf "way_kept" "Keeper.way_kept" (Aa B6) (A8 B6) (A3 B6) .none V38 E38 P38 N38 Q38 U38),S38⟩) (c38:PySem.W.codeIn K Q38 "Keeper.way_kept" = true) (k38:PySem.W.keepIn K (.ref f38)=true)
  (a39:PySem.W.findIn K (.ref C_Keeper) "lead" = some (some (.ref f39))) (i39:PySem.W.isFn K (.ref f39)=true) (l39:K.lookup f39=some ⟨O39,D39,.func (PySem.W.fnOf "lead" "Keeper.lead" (Aa C4) (A8 C4) (A3 C4) .none V39 E39 P39 N39 Q39 U39),S39⟩) (c39:PySem.W.codeIn K Q39 "Keeper.lead" = true) (k39:PySem.W.keepIn K (.ref f39)=true)
  (a40:PySem.W.findIn K (.ref C_NoHalf) "__init__" = some (some (.ref f40))) (i40:PySem.W.isFn K (.ref f40)=true) (l40:K.lookup f40=some ⟨O40,D40,.func (PySem.W.fnOf "__init__" "NoHalf.__init__" (Aa Cb) (A8 Cb) (A3 Cb) .none V40 E40 P40 N40 Q40 U40),S40⟩) (c40:PySem.W.codeIn K Q40 "NoHalf.__init__" = true) (k40:PySem.W.keepIn K (.ref f40)=true)
  (a41:PySem.W.findIn K (.ref C_NoName) "__init__" = some (some (.ref f41))) (i41:PySem.W.isFn K (.ref f41)=true) (l41:K.lookup f41=some ⟨O41,D41,.func (PySem.W.fnOf "__init__" "NoName.__init__" (Aa C6) (A8 C6) (A3 C6) .none V41 E41 P41 N41 Q41 U41),S41⟩) (c41:PySem.W.codeIn K Q41 "NoName.__init__" = true) (k41:PySem.W.keepIn K (.ref f41)=true)
  (a42:PySem.W.findIn K (.ref C_TooMany) "__init__" = some (some (.ref f42))) (i42:PySem.W.isFn K (.ref f42)=true) (l42:K.lookup f42=some ⟨O42,D42,.func (PySem.W.fnOf "__init__" "TooMany.__init__" (Aa Bt) (A8 Bt) (A3 Bt) .none V42 E42 P42 N42 Q42 U42),S42⟩) (c42:PySem.W.codeIn K Q42 "TooMany.__init__" = true) (k42:PySem.W.keepIn K (.ref f42)=true)
  (a43:PySem.W.findIn K (.ref C_Clash) "__init__" = some (some (.ref f43))) (i43:PySem.W.isFn K (.ref f43)=true) (l43:K.lookup f43=some ⟨O43,D43,.func (PySem.W.fnOf "__init__" "Clash.__init__" (Aa Cv) (A8 Cv) (A3 Cv) .none V43 E43 P43 N43 Q43 U43),S43⟩) (c43:PySem.W.codeIn K Q43 "Clash.__init__" = true) (k43:PySem.W.keepIn K (.ref f43)=true)
  (a44:PySem.W.findIn K (.ref C_NoSaying) "__init__" = some (some (.ref f44))) (i44:PySem.W.isFn K (.ref f44)=true) (l44:K.lookup f44=some ⟨O44,D44,.func (PySem.W.fnOf "__init__" "NoSaying.__init__" (Aa Bk) (A8 Bk) (A3 Bk) .none V44 E44 P44 N44 Q44 U44),S44⟩) (c44:PySem.W.codeIn K Q44 "NoSaying.__init__" = true) (k44:PySem.W.keepIn K (.ref f44)=true)
  {t0:Tok} (g0:PySem.W.nsIn K mainGlobals "MOST_NAMES" = some (some (.int 10 t0)))
  {t1:Tok} (g1:PySem.W.nsIn K mainGlobals "MOST_SAYINGS" = some (some (.int 60 t1)))
  {t2:Tok} (g2:PySem.W.nsIn K mainGlobals "MOST_SIGNS" = some (some (.int 8 t2)))
  {t3:Tok} (g3:PySem.W.nsIn K mainGlobals "SMALL_LETTERS" = some (some (.str "abcdefghijklmnopqrstuvwxyz" t3)))
  (z0:PySem.W.nsIn K mainGlobals "ValueError" = some none)
  (z1:PySem.W.nsIn K mainGlobals "all" = some none)
  (z2:PySem.W.nsIn K mainGlobals "bool" = some none)
  (z3:PySem.W.nsIn K mainGlobals "dict" = some none)
  (z4:PySem.W.nsIn K mainGlobals "enumerate" = some none)
  (z5:PySem.W.nsIn K mainGlobals "int" = some none)
  (z6:PySem.W.nsIn K mainGlobals "isinstance" = some none)
  (z7:PySem.W.nsIn K mainGlobals "len" = some none)
  (z8:PySem.W.nsIn K mainGlobals "list" = some none)
  (z9:PySem.W.nsIn K mainGlobals "range" = some none)
  (z10:PySem.W.nsIn K mainGlobals "repr" = some none)
  (z11:PySem.W.nsIn K mainGlobals "set" = some none)
  (z12:PySem.W.nsIn K mainGlobals "sorted" = some none)
  (z13:PySem.W.nsIn K mainGlobals "str" = some none)
  (z14:PySem.W.nsIn K mainGlobals "sum" = some none)
  (z15:PySem.W.nsIn K mainGlobals "tuple" = some none)
  : ∃ fd:FuncData,(∀(s:Shared) (v:Value),BindsTo s fd ⟨[v],[]⟩ [("_law_script",v)])/\∀ base:Heap,K.In base->base.Ns mainGlobals mg->FnOk l.prog w K mg base CX0 7 fa fd ["_law_script"] (spLaw K):=by
 have e:=hfa.symm.trans (PySem.W.mg_of X G a22)
 cases e
 have T:Fa mg:=⟨⟨_,PySem.W.mg_of X G g0,⟨_,rfl⟩⟩,⟨_,PySem.W.mg_of X G g1,⟨_,rfl⟩⟩,⟨_,PySem.W.mg_of X G g2,⟨_,rfl⟩⟩,⟨_,PySem.W.mg_of X G g3,⟨_,rfl⟩⟩,PySem.W.mg_none_of X G z0,PySem.W.mg_none_of X G z1,PySem.W.mg_none_of X G z2,PySem.W.mg_none_of X G z3,PySem.W.mg_none_of X G z4,PySem.W.mg_none_of X G z5,PySem.W.mg_none_of X G z6,PySem.W.mg_none_of X G z7,PySem.W.mg_none_of X G z8,PySem.W.mg_none_of X G z9,PySem.W.mg_none_of X G z10,PySem.W.mg_none_of X G z11,PySem.W.mg_none_of X G z12,PySem.W.mg_none_of X G z13,PySem.W.mg_none_of X G z14,PySem.W.mg_none_of X G z15⟩
 have F0:=Aq (st:=Ll) l0 c0 k0
 have b0:Binds K _ ["k"] []:=Eb F0 fun _ _ _ _ _ _ _=>rfl
 have F1:=Aq (st:=Ay) l1 c1 k1
 have b1:Binds K _ ["half","asked"] []:=Ef F1 fun _ _ _ _ _ _ _ _=>rfl
 have F2:=Aq (st:=Cc) l2 c2 k2
 have b2:Binds K _ ["half"] []:=Eb F2 fun _ _ _ _ _ _ _=>rfl
 have F3:=Aq (st:=Fv) l3 c3 k3
 have b3:Binds K _ ["names"] []:=Eb F3 fun _ _ _ _ _ _ _=>rfl
 have F4:=Aq (st:=Cu) l4 c4 k4
 have b4:Binds K _ ["half","bits"] []:=Ef F4 fun _ _ _ _ _ _ _ _=>rfl
 have F5:=Aq (st:=Ja) l5 c5 k5
 have b5:Binds K _ ["half"] []:=Eb F5 fun _ _ _ _ _ _ _=>rfl
 have F6:=Aq (st:=Fy) l6 c6 k6
 have b6:Binds K _ ["thing"] []:=Eb F6 fun _ _ _ _ _ _ _=>rfl
 have F7:=Aq (st:=Az) l7 c7 k7
 have b7:Binds K _ ["thing"] []:=Eb F7 fun _ _ _ _ _ _ _=>rfl
 have F8:=Aq (st:=Bd) l8 c8 k8
 have b8:Binds K _ ["thing"] []:=Eb F8 fun _ _ _ _ _ _ _=>rfl
 have F9:=Aq (st:=Be) l9 c9 k9
 have b9:Binds K _ ["sayings","start","goal"] []:=Ib F9 fun _ _ _ _ _ _ _ _ _=>rfl
 have F10:=Aq (st:=Dm) l10 c10 k10
 have b10:Binds K _ ["_law_script"] []:=Eb F10 fun _ _ _ _ _ _ _=>rfl
 have F11:=Aq (st:=Dk) l11 c11 k11
 have b11:Binds K _ ["_law_feed_here","_law_many"] []:=Ef F11 fun _ _ _ _ _ _ _ _=>rfl
 have F12:=Aq (st:=Cq) l12 c12 k12
 have b12:Binds K _ ["_law_feed_here","_law_many"] []:=Ef F12 fun _ _ _ _ _ _ _ _=>rfl
 have F13:=Aq (st:=C5) l13 c13 k13
 have b13:Binds K _ ["_law_half","_law_name"] []:=Ef F13 fun _ _ _ _ _ _ _ _=>rfl
 have F14:=Aq (st:=Bu) l14 c14 k14
 have b14:Binds K _ ["_law_e"] []:=Eb F14 fun _ _ _ _ _ _ _=>rfl
 have F15:=Aq (st:=Bv) l15 c15 k15
 have b15:Binds K _ ["_law_keeper","_law_word","_law_one","_law_other"] []:=a04 F15 fun _ _ _ _ _ _ _ _ _ _=>rfl
 have F16:=Aq (st:=Dn) l16 c16 k16
 have b16:Binds K _ ["_law_names_here","_law_keeper"] []:=Ef F16 fun _ _ _ _ _ _ _ _=>rfl
 have F17:=Aq (st:=Bs) l17 c17 k17
 have b17:Binds K _ ["_law_side_here"] []:=Eb F17 fun _ _ _ _ _ _ _=>rfl
 have F18:=Aq (st:=Ca) l18 c18 k18
 have b18:Binds K _ ["_law_side_here","_law_way","_law_name","_law_other"] []:=a04 F18 fun _ _ _ _ _ _ _ _ _ _=>rfl
 have F19:=Aq (st:=Eo) l19 c19 k19
 have b19:Binds K _ ["_law_side_here","_law_name","_law_other"] []:=Ib F19 fun _ _ _ _ _ _ _ _ _=>rfl
 have F20:=Aq (st:=C8) l20 c20 k20
 have b20:Binds K _ ["_law_side_here"] []:=Eb F20 fun _ _ _ _ _ _ _=>rfl
 have F21:=Aq (st:=Co) l21 c21 k21
 have b21:Binds K _ ["_law_side_here","_law_name","_law_other"] []:=Ib F21 fun _ _ _ _ _ _ _ _ _=>rfl
 have F22:=Aq (st:=Nz) l22 c22 k22
 have F23:=Aq (st:=Dq) l23 c23 k23
 have b23:Binds K _ ["self","half"] []:=Ef F23 fun _ _ _ _ _ _ _ _=>rfl
 have F24:=Aq (st:=B3) l24 c24 k24
 have b24:Binds K _ ["self","left"] []:=Ef F24 fun _ _ _ _ _ _ _ _=>rfl
 have F25:=Aq (st:=Bj) l25 c25 k25
 have b25:Binds K _ ["self","left"] []:=Ef F25 fun _ _ _ _ _ _ _ _=>rfl
 have F26:=Aq (st:=C9) l26 c26 k26
 have b26:Binds K _ ["self","names"] []:=Ef F26 fun _ _ _ _ _ _ _ _=>rfl
 have F27:=Aq (st:=Bw) l27 c27 k27
 have b27:Binds K _ ["self","kept","following"] []:=Ib F27 fun _ _ _ _ _ _ _ _ _=>rfl
 have F28:=Aq (st:=Cr) l28 c28 k28
 have b28:Binds K _ ["self","name","other"] []:=Ib F28 fun _ _ _ _ _ _ _ _ _=>rfl
 have F29:=Aq (st:=Df) l29 c29 k29
 have b29:Binds K _ ["self","number"] []:=Ef F29 fun _ _ _ _ _ _ _ _=>rfl
 have F30:=Aq (st:=Cz) l30 c30 k30
 have b30:Binds K _ ["self"] []:=Eb F30 fun _ _ _ _ _ _ _=>rfl
 have F31:=Aq (st:=Dh) l31 c31 k31
 have b31:Binds K _ ["self"] []:=Eb F31 fun _ _ _ _ _ _ _=>rfl
 have F32:=Aq (st:=Bf) l32 c32 k32
 have b32:Binds K _ ["self"] []:=Eb F32 fun _ _ _ _ _ _ _=>rfl
 have F33:=Aq (st:=Bm) l33 c33 k33
 have b33:Binds K _ ["self","number"] []:=Ef F33 fun _ _ _ _ _ _ _ _=>rfl
 have F34:=Aq (st:=C7) l34 c34 k34
 have b34:Binds K _ ["self"] []:=Eb F34 fun _ _ _ _ _ _ _=>rfl
 have F35:=Aq (st:=Cy) l35 c35 k35
 have b35:Binds K _ ["self"] []:=Eb F35 fun _ _ _ _ _ _ _=>rfl
 have F36:=Aq (st:=Cw) l36 c36 k36
 have b36:Binds K _ ["self"] []:=Eb F36 fun _ _ _ _ _ _ _=>rfl
 have F37:=Aq (st:=Bx) l37 c37 k37
 have b37:Binds K _ ["self","name","other"] []:=Ib F37 fun _ _ _ _ _ _ _ _ _=>rfl
 have F38:=Aq (st:=B6) l38 c38 k38
 have b38:Binds K _ ["self","name","other"] []:=Ib F38 fun _ _ _ _ _ _ _ _ _=>rfl
 have F39:=Aq (st:=C4) l39 c39 k39
 have b39:Binds K _ ["self","name","other"] []:=Ib F39 fun _ _ _ _ _ _ _ _ _=>rfl
 have F40:=Aq (st:=Cb) l40 c40 k40
 have b40:Binds K _ ["self","word","number"] []:=Ib F40 fun _ _ _ _ _ _ _ _ _=>rfl
 have F41:=Aq (st:=C6) l41 c41 k41
 have b41:Binds K _ ["self","name"] []:=Ef F41 fun _ _ _ _ _ _ _ _=>rfl
 have F42:=Aq (st:=Bt) l42 c42 k42
 have b42:Binds K _ ["self","word"] []:=Ef F42 fun _ _ _ _ _ _ _ _=>rfl
 have F43:=Aq (st:=Cv) l43 c43 k43
 have b43:Binds K _ ["self","way"] []:=Ef F43 fun _ _ _ _ _ _ _ _=>rfl
 have F44:=Aq (st:=Bk) l44 c44 k44
 have b44:Binds K _ ["self","number"] []:=Ef F44 fun _ _ _ _ _ _ _ _=>rfl
 have k_Ways:Hd K C_Ways:=⟨⟨pg_Ways,hd_Ways,po_Ways,sa_Ways⟩,n_Ways_names,n_Ways_bits,n_Ways_ahead,n_Ways_full,n_Ways_known⟩
 have k_Keeper:Ao K C_Keeper:=⟨⟨pg_Keeper,hd_Keeper,po_Keeper,sa_Keeper⟩,n_Keeper_names,n_Keeper_now,n_Keeper_past,n_Keeper_undone⟩
 have x_HalfError:Aj K mg C_HalfError C_HalfError:=⟨⟨ex_HalfError,sX_HalfError,gX_HalfError,tX_HalfError,lX_HalfError,cg,ct⟩,PySem.W.mg_of X G aX_HalfError,⟨⟨ex_HalfError,sX_HalfError,gX_HalfError,tX_HalfError,lX_HalfError,cg,ct⟩,no_HalfError,kX_HalfError,PySem.W.mg_of X G aX_HalfError⟩⟩
 have x_NoHalf:Iv K mg C_NoHalf C_HalfError:=⟨⟨ex_NoHalf,sX_NoHalf,gX_NoHalf,tX_NoHalf,lX_NoHalf,cg,ct⟩,PySem.W.mg_of X G aX_NoHalf,mr_NoHalf,nX_NoHalf_word,nX_NoHalf_number⟩
 have x_NoText:Mw K mg C_NoText C_HalfError:=⟨⟨ex_NoText,sX_NoText,gX_NoText,tX_NoText,lX_NoText,cg,ct⟩,PySem.W.mg_of X G aX_NoText,mr_NoText,nX_NoText_row⟩
 have x_NoName:Bc K mg C_NoName C_HalfError:=⟨⟨ex_NoName,sX_NoName,gX_NoName,tX_NoName,lX_NoName,cg,ct⟩,PySem.W.mg_of X G aX_NoName,mr_NoName,nX_NoName_name⟩
 have x_TooMany:Ey K mg C_TooMany C_HalfError:=⟨⟨ex_TooMany,sX_TooMany,gX_TooMany,tX_TooMany,lX_TooMany,cg,ct⟩,PySem.W.mg_of X G aX_TooMany,mr_TooMany,nX_TooMany_word⟩
 have x_NoCover:Ld K mg C_NoCover C_HalfError:=⟨⟨ex_NoCover,sX_NoCover,gX_NoCover,tX_NoCover,lX_NoCover,cg,ct⟩,PySem.W.mg_of X G aX_NoCover,mr_NoCover,⟨⟨ex_NoCover,sX_NoCover,gX_NoCover,tX_NoCover,lX_NoCover,cg,ct⟩,no_NoCover,kX_NoCover,PySem.W.mg_of X G aX_NoCover⟩⟩
 have x_NoPlace:Li K mg C_NoPlace C_HalfError:=⟨⟨ex_NoPlace,sX_NoPlace,gX_NoPlace,tX_NoPlace,lX_NoPlace,cg,ct⟩,PySem.W.mg_of X G aX_NoPlace,mr_NoPlace,nX_NoPlace_number⟩
 have x_NoOrder:Kx K mg C_NoOrder C_HalfError:=⟨⟨ex_NoOrder,sX_NoOrder,gX_NoOrder,tX_NoOrder,lX_NoOrder,cg,ct⟩,PySem.W.mg_of X G aX_NoOrder,mr_NoOrder,⟨⟨ex_NoOrder,sX_NoOrder,gX_NoOrder,tX_NoOrder,lX_NoOrder,cg,ct⟩,no_NoOrder,kX_NoOrder,PySem.W.mg_of X G aX_NoOrder⟩⟩
 have x_NoJoin:Mr K mg C_NoJoin C_HalfError:=⟨⟨ex_NoJoin,sX_NoJoin,gX_NoJoin,tX_NoJoin,lX_NoJoin,cg,ct⟩,PySem.W.mg_of X G aX_NoJoin,mr_NoJoin,nX_NoJoin_word⟩
 have x_Clash:Gi K mg C_Clash C_HalfError:=⟨⟨ex_Clash,sX_Clash,gX_Clash,tX_Clash,lX_Clash,cg,ct⟩,PySem.W.mg_of X G aX_Clash,mr_Clash,nX_Clash_way⟩
 have x_NoPaper:Lm K mg C_NoPaper C_HalfError:=⟨⟨ex_NoPaper,sX_NoPaper,gX_NoPaper,tX_NoPaper,lX_NoPaper,cg,ct⟩,PySem.W.mg_of X G aX_NoPaper,mr_NoPaper,nX_NoPaper_word,nX_NoPaper_row⟩
 have x_NoPlan:Ms K mg C_NoPlan C_HalfError:=⟨⟨ex_NoPlan,sX_NoPlan,gX_NoPlan,tX_NoPlan,lX_NoPlan,cg,ct⟩,PySem.W.mg_of X G aX_NoPlan,mr_NoPlan,nX_NoPlan_word,nX_NoPlan_path⟩
 have x_NoBound:Lg K mg C_NoBound C_HalfError:=⟨⟨ex_NoBound,sX_NoBound,gX_NoBound,tX_NoBound,lX_NoBound,cg,ct⟩,PySem.W.mg_of X G aX_NoBound,mr_NoBound,nX_NoBound_word,nX_NoBound_row⟩
 have x_NoSaying:Ct K mg C_NoSaying C_HalfError:=⟨⟨ex_NoSaying,sX_NoSaying,gX_NoSaying,tX_NoSaying,lX_NoSaying,cg,ct⟩,PySem.W.mg_of X G aX_NoSaying,mr_NoSaying,nX_NoSaying_number⟩
 have x_NoMore:Gx K mg C_NoMore C_HalfError:=⟨⟨ex_NoMore,sX_NoMore,gX_NoMore,tX_NoMore,lX_NoMore,cg,ct⟩,PySem.W.mg_of X G aX_NoMore,mr_NoMore,⟨⟨ex_NoMore,sX_NoMore,gX_NoMore,tX_NoMore,lX_NoMore,cg,ct⟩,no_NoMore,kX_NoMore,PySem.W.mg_of X G aX_NoMore⟩⟩
 refine⟨PySem.W.fnOf "law" "law" (Aa Nz) (A8 Nz) (A3 Nz) .none V22 E22 P22 N22 Q22 U22,fun s v=>.of_eq rfl,fun base _ _=>?_⟩
 have c__wall:Fnd l.prog w K mg base 1 "_wall" ["k"] (Od K):=⟨_,_,Z3 F0 T,PySem.W.mg_of X G a0,k0,b0⟩
 have c_behind_each:Fnd l.prog w K mg base 1 "behind_each" ["half"] (Dw K):=⟨_,_,M6 F2 T,PySem.W.mg_of X G a2,k2,b2⟩
 have c_bits_of:Fnd l.prog w K mg base 1 "bits_of" ["names"] (Iw K):=⟨_,_,Th F3 T,PySem.W.mg_of X G a3,k3,b3⟩
 have c_is_name:Fnd l.prog w K mg base 1 "is_name" ["thing"] (Iu K):=⟨_,_,Tn F6 T,PySem.W.mg_of X G a6,k6,b6⟩
 have c_way_by_sayings:Fnd l.prog w K mg base 1 "way_by_sayings" ["sayings","start","goal"] (Ds K):=⟨_,_,J9 F9 T,PySem.W.mg_of X G a9,k9,b9⟩
 have c__law_feed:Fnd l.prog w K mg base 1 "_law_feed" ["_law_script"] (Gn K):=⟨_,_,Qu F10 T,PySem.W.mg_of X G a10,k10,b10⟩
 have c__law_draw:Fnd l.prog w K mg base 1 "_law_draw" ["_law_feed_here","_law_many"] (Fk K):=⟨_,_,Pl F11 T,PySem.W.mg_of X G a11,k11,b11⟩
 have c__law_behind:Fnd l.prog w K mg base 1 "_law_behind" ["_law_half","_law_name"] (Dy K):=⟨_,_,M7 F13 T,PySem.W.mg_of X G a13,k13,b13⟩
 have h__law_refusal:ar8 l.prog w K mg base 1 "_law_refusal" ["_law_e"] (Eu C_NoName C_Clash C_NoSaying C_TooMany K):=⟨_,_,Jq F14 T x_HalfError x_NoHalf x_NoText x_NoName x_TooMany x_NoCover x_NoPlace x_NoOrder x_NoJoin x_Clash x_NoPaper x_NoPlan x_NoBound x_NoSaying x_NoMore ndX,PySem.W.mg_of X G a14,k14,b14⟩
 have c__law_side:Fnd l.prog w K mg base 1 "_law_side" ["_law_names_here","_law_keeper"] (Gu K):=⟨_,_,Ow F16 T,PySem.W.mg_of X G a16,k16,b16⟩
 have c__law_half_of:Fnd l.prog w K mg base 1 "_law_half_of" ["_law_side_here"] (C3 K):=⟨_,_,Kr F17 T,PySem.W.mg_of X G a17,k17,b17⟩
 have c__law_is_way:Fnd l.prog w K mg base 1 "_law_is_way" ["_law_side_here","_law_way","_law_name","_law_other"] (Dv K):=⟨_,_,Mf F18 T,PySem.W.mg_of X G a18,k18,b18⟩
 have c_Ways_free_names:Mtd l.prog w K mg base 1 C_Ways "free_names" ["self","left"] (C0 C_Ways K):=⟨_,_,Ii F24 T k_Ways,⟨a24,i24,k24⟩,b24⟩
 have c_Keeper_go_on:Mtd l.prog w K mg base 1 C_Keeper "go_on" ["self","kept","following"] (Dg C_Keeper K):=⟨_,_,Ku F27 T k_Keeper,⟨a27,i27,k27⟩,b27⟩
 have d_Keeper_undo:Pm l.prog w K mg base 1 C_Keeper "undo" ["self"] (Ev C_Keeper C_NoMore K):=⟨_,_,L9 F30 T k_Keeper x_HalfError x_NoName x_NoMore,⟨a30,i30,k30⟩,b30⟩
 have d_Keeper_redo:Pm l.prog w K mg base 1 C_Keeper "redo" ["self"] (Fd C_Keeper C_NoMore K):=⟨_,_,Lj F31 T k_Keeper x_HalfError x_NoName x_NoMore,⟨a31,i31,k31⟩,b31⟩
 have c_Keeper_numbers:Mtd l.prog w K mg base 1 C_Keeper "numbers" ["self"] (Dr C_Keeper K):=⟨_,_,Jb F32 T k_Keeper,⟨a32,i32,k32⟩,b32⟩
 have c_Keeper_half:Mtd l.prog w K mg base 1 C_Keeper "half" ["self"] (B2 C_Keeper K):=⟨_,_,Ly F34 T k_Keeper,⟨a34,i34,k34⟩,b34⟩
 have c_NoHalf_init:Mkx l.prog w K mg base 1 C_NoHalf "NoHalf" ["self","word","number"] (spX C_NoHalf ["word","number"]):=⟨_,_,Me F40 T x_HalfError x_NoHalf,x_NoHalf.xc,a40,i40,kX_NoHalf,PySem.W.mg_of X G aX_NoHalf,b40⟩
 have c_NoName_init:Mkx l.prog w K mg base 1 C_NoName "NoName" ["self","name"] (spX C_NoName ["name"]):=⟨_,_,M4 F41 T x_HalfError x_NoName,x_NoName.xc,a41,i41,kX_NoName,PySem.W.mg_of X G aX_NoName,b41⟩
 have c_TooMany_init:Mkx l.prog w K mg base 1 C_TooMany "TooMany" ["self","word"] (spX C_TooMany ["word"]):=⟨_,_,Lf F42 T x_HalfError x_TooMany,x_TooMany.xc,a42,i42,kX_TooMany,PySem.W.mg_of X G aX_TooMany,b42⟩
 have c_Clash_init:Mkx l.prog w K mg base 1 C_Clash "Clash" ["self","way"] (spX C_Clash ["way"]):=⟨_,_,Np F43 T x_HalfError x_Clash,x_Clash.xc,a43,i43,kX_Clash,PySem.W.mg_of X G aX_Clash,b43⟩
 have c_NoSaying_init:Mkx l.prog w K mg base 1 C_NoSaying "NoSaying" ["self","number"] (spX C_NoSaying ["number"]):=⟨_,_,Jo F44 T x_HalfError x_NoSaying,x_NoSaying.xc,a44,i44,kX_NoSaying,PySem.W.mg_of X G aX_NoSaying,b44⟩
 have c_bits_ahead:Fnd l.prog w K mg base 2 "bits_ahead" ["half","bits"] (G5 K):=⟨_,_,Nv F4 T c_behind_each,PySem.W.mg_of X G a4,k4,b4⟩
 have c_are_unlike_names:Fnd l.prog w K mg base 2 "are_unlike_names" ["thing"] (Bn K):=⟨_,_,Ht F7 T c_is_name,PySem.W.mg_of X G a7,k7,b7⟩
 have c__law_names:Fnd l.prog w K mg base 2 "_law_names" ["_law_feed_here","_law_many"] (G8 K):=⟨_,_,On F12 T c__law_draw,PySem.W.mg_of X G a12,k12,b12⟩
 have c_Keeper_best:Mtd l.prog w K mg base 2 C_Keeper "best" ["self"] (Hn C_Keeper K):=⟨_,_,Lv F36 T k_Keeper c__wall,⟨a36,i36,k36⟩,b36⟩
 have c_Keeper_way_kept:Mtd l.prog w K mg base 2 C_Keeper "way_kept" ["self","name","other"] (Bz C_Keeper K):=⟨_,_,Ig F38 T k_Keeper c_way_by_sayings c_Keeper_half,⟨a38,i38,k38⟩,b38⟩
 have d_refuse_strangers:al8 l.prog w K mg base 3 "refuse_strangers" ["half","asked"] (B0 C_NoName K):=⟨_,_,Hg F1 T x_HalfError x_NoName c_NoName_init,PySem.W.mg_of X G a1,k1,b1⟩
 have c_are_tale_names:Fnd l.prog w K mg base 3 "are_tale_names" ["thing"] (Dp K):=⟨_,_,J6 F8 T c_are_unlike_names,PySem.W.mg_of X G a8,k8,b8⟩
 have c_Ways_init:Mkd l.prog w K mg base 3 C_Ways "Ways" ["self","half"] (Gm C_Ways K):=⟨_,_,Pq F23 T k_Ways c_bits_of c_bits_ahead,⟨mk_Ways,a23,i23,kc_Ways⟩,PySem.W.mg_of X G aC_Ways,b23⟩
 have d_Keeper_saying:Pm l.prog w K mg base 3 C_Keeper "saying" ["self","number"] (Cd C_Keeper C_NoSaying K):=⟨_,_,Ir F33 T k_Keeper x_HalfError x_NoName x_NoSaying c_NoSaying_init,⟨a33,i33,k33⟩,b33⟩
 have c_Keeper_init:Mkd l.prog w K mg base 4 C_Keeper "Keeper" ["self","names"] (Fl C_Keeper K):=⟨_,_,Mg F26 T k_Keeper c_are_tale_names,⟨mk_Keeper,a26,i26,kc_Keeper⟩,PySem.W.mg_of X G aC_Keeper,b26⟩
 have d_Keeper_say:Pm l.prog w K mg base 4 C_Keeper "say" ["self","name","other"] (Fo C_Keeper C_NoName C_Clash C_TooMany K):=⟨_,_,M0 F28 T k_Keeper x_HalfError x_NoName x_TooMany x_Clash c_Keeper_go_on c_Keeper_half c_Keeper_way_kept c_TooMany_init c_Clash_init d_refuse_strangers,⟨a28,i28,k28⟩,b28⟩
 have d_Keeper_take:Pm l.prog w K mg base 4 C_Keeper "take" ["self","number"] (Er C_Keeper C_NoSaying K):=⟨_,_,La F29 T k_Keeper x_HalfError x_NoName x_NoSaying c_Keeper_go_on d_Keeper_saying,⟨a29,i29,k29⟩,b29⟩
 have d_Keeper_knows:Pm l.prog w K mg base 4 C_Keeper "knows" ["self","name","other"] (Ee C_Keeper C_NoName K):=⟨_,_,Jr F37 T k_Keeper x_HalfError x_NoName c_behind_each c_Keeper_half d_refuse_strangers,⟨a37,i37,k37⟩,b37⟩
 have d_Keeper_lead:Pm l.prog w K mg base 4 C_Keeper "lead" ["self","name","other"] (Es C_Keeper C_NoName K):=⟨_,_,Kb F39 T k_Keeper x_HalfError x_NoName c_Keeper_half c_Keeper_way_kept d_refuse_strangers,⟨a39,i39,k39⟩,b39⟩
 have c__law_told_by:Fnd l.prog w K mg base 5 "_law_told_by" ["_law_keeper","_law_word","_law_one","_law_other"] (B7 C_Keeper K):=⟨_,_,Lk F15 T k_Keeper x_HalfError x_NoName x_TooMany x_Clash x_NoSaying ndX d_Keeper_say d_Keeper_take d_Keeper_undo d_Keeper_redo d_Keeper_saying d_Keeper_knows d_Keeper_lead h__law_refusal,PySem.W.mg_of X G a15,k15,b15⟩
 have c__law_say:Fnd l.prog w K mg base 6 "_law_say" ["_law_side_here","_law_name","_law_other"] (Hu C_Keeper K):=⟨_,_,R3 F19 T k_Keeper c__law_behind c__law_told_by c__law_half_of c__law_is_way,PySem.W.mg_of X G a19,k19,b19⟩
 have c__law_looked:Fnd l.prog w K mg base 6 "_law_looked" ["_law_side_here"] (Fm C_Keeper K):=⟨_,_,Mb F20 T k_Keeper c__law_told_by c__law_half_of c_Keeper_numbers c_Keeper_half,PySem.W.mg_of X G a20,k20,b20⟩
 have c__law_asked:Fnd l.prog w K mg base 6 "_law_asked" ["_law_side_here","_law_name","_law_other"] (G1 C_Keeper K):=⟨_,_,Oj F21 T k_Keeper c__law_behind c__law_told_by c__law_half_of c__law_is_way,PySem.W.mg_of X G a21,k21,b21⟩
 have c_Ways_ways_on:Mtd l.prog w K mg base 13 C_Ways "ways_on" ["self","left"] (Fb C_Ways K):=⟨_,_,Ln F25 T k_Ways c_Ways_free_names ⟨a25,i25,k25⟩ b25,⟨a25,i25,k25⟩,b25⟩
 have c_count:Fnd l.prog w K mg base 14 "count" ["half"] (Nx K):=⟨_,_,Yp F5 T k_Ways c_Ways_init c_Ways_ways_on,PySem.W.mg_of X G a5,k5,b5⟩
 have c_Keeper_many:Mtd l.prog w K mg base 15 C_Keeper "many" ["self"] (Hi C_Keeper K):=⟨_,_,M3 F35 T k_Keeper c_count c_Keeper_half,⟨a35,i35,k35⟩,b35⟩
 exact am8 F22 T k_Keeper c__law_feed c__law_draw c__law_names c__law_told_by c__law_side c__law_say c__law_looked c__law_asked c_Keeper_init
theorem walk {l:PySem.W.OpenLaw}{q:Program}{loose:List Str}{XP:(Str->Option Value)->Heap->Prop}{YP:World->Heap->Prop}{d:DefRec}{K:Params->PySem.W.Frag}(hn:l.most=some 63)(hdf:d.params.defaults=[])
  (hY:∀(w:World) (h:Heap),YP w h->(K w.params).In h)
  (F:∀(w:World) (mg:Str->Option Value) (fa:Addr) (h:Heap),(K w.params).In h->h.Ns mainGlobals mg->mg d.name=some (.ref fa) ->
   ∃ fd:FuncData,(∀(s:Shared) (u:Value),BindsTo s fd ⟨[u],[]⟩ [("_law_script",u)])/\∀ base:Heap,(K w.params).In base->base.Ns mainGlobals mg->FnOk l.prog w (K w.params) mg base CX0 7 fa fd ["_law_script"] (spLaw (K w.params))) :
  PySem.W.WalkO q loose XP YP l.row.toRowW d [] (fun f vs=>PySem.call f vs):=
 L2.walk_of (n:=63) (k:=7) (x:="_law_script") (CX:=fun _=>CX0) (sp:=fun w=>spLaw (K w.params)) hn (by decide) hdf ⟨rfl,by decide,by decide,rfl⟩ hY F (fun _ _ a ns hl _ hS=>⟨a,ns,rfl,hS,hl,fun _=>rfl⟩) fun _ _ _ _ _ z=>z
end K75
theorem PySem.W.Fast.tw3868290428672374476 : True := trivial
theorem PySem.W.Fast.tw12160739274152592600 : True := trivial
theorem PySem.W.Fast.tw8642426606872378117 : True := trivial
theorem PySem.W.Fast.tw10218634850136530997 : True := trivial
theorem PySem.W.Fast.tw551158070899918433 : True := trivial
theorem PySem.W.Fast.tw12456996279785454972 : True := trivial
theorem PySem.W.Fast.tw3673026689036920308 : True := trivial
theorem PySem.W.Fast.tw7067397531202107219 : True := trivial
theorem PySem.W.Fast.tw15825908212234637689 : True := trivial
theorem PySem.W.Fast.tw12798962668047198288 : True := trivial
theorem PySem.W.Fast.tw12799754167780949852 : True := trivial
theorem PySem.W.Fast.tw3811707460298576617 : True := trivial
theorem PySem.W.Fast.tw11007576813760506625 : True := trivial
theorem PySem.W.Fast.tw4419428417574315330 : True := trivial
theorem PySem.W.Fast.tw5736493915734571703 : True := trivial
theorem PySem.W.Fast.tw3897469635947002906 : True := trivial
theorem PySem.W.Fast.tw2827988946095485959 : True := trivial
theorem PySem.W.Fast.tw1092542937536233241 : True := trivial
theorem PySem.W.Fast.tw2871147194989905250 : True := trivial
theorem PySem.W.Fast.tw4987884370713398324 : True := trivial
theorem PySem.W.Fast.tw4705625227895225297 : True := trivial
theorem PySem.W.Fast.tw13715666821495652093 : True := trivial
theorem PySem.W.Fast.tw18099206784724564796 : True := trivial
theorem PySem.W.Fast.tw3129745703590572817 : True := trivial
theorem PySem.W.Fast.tw16831365141640304308 : True := trivial
theorem PySem.W.Fast.tw18038167050304935847 : True := trivial
theorem PySem.W.Fast.tw9056060707032963468 : True := trivial
theorem PySem.W.Fast.tw16383224322539605172 : True := trivial
theorem PySem.W.Fast.tw1682091182887705575 : True := trivial
theorem PySem.W.Fast.tw6155508246533067444 : True := trivial
theorem PySem.W.Fast.tw15605172049343436496 : True := trivial
theorem PySem.W.Fast.tw16458970912836272679 : True := trivial
theorem PySem.W.Fast.tw5154115326860156841 : True := trivial
theorem PySem.W.Fast.tw3493539206663736387 : True := trivial
theorem PySem.W.Fast.tw5749439451875447141 : True := trivial
theorem PySem.W.Fast.tw3442725693886545295 : True := trivial
theorem PySem.W.Fast.tw6535084204949864122 : True := trivial
theorem PySem.W.Fast.tw14841597273956230998 : True := trivial
theorem PySem.W.Fast.tw14241812058875426489 : True := trivial
theorem PySem.W.Fast.tw3065559428244137760 : True := trivial
theorem PySem.W.Fast.tw8419299148016482727 : True := trivial
theorem PySem.W.Fast.tw325062375026261827 : True := trivial
theorem PySem.W.Fast.tw4474290832343120140 : True := trivial
theorem PySem.W.Fast.tw792386209694613016 : True := trivial
theorem PySem.W.Fast.tw13242263761854712004 : True := trivial
theorem PySem.W.Fast.tw16022691701711202793 : True := trivial
theorem PySem.W.Fast.tw17504506734687004937 : True := trivial
theorem PySem.W.Fast.tw10305220960009472032 : True := trivial
theorem PySem.W.Fast.tw2831849381527896505 : True := trivial
theorem PySem.W.Fast.tw10688965725733827033 : True := trivial
theorem PySem.W.Fast.tw16719367717071416545 : True := trivial
theorem PySem.W.Fast.tw10255872519781220847 : True := trivial
theorem PySem.W.Fast.tw12678688097905765120 : True := trivial
theorem PySem.W.Fast.tw9922717723569150218 : True := trivial
theorem PySem.W.Fast.tw8263459772497333760 : True := trivial
theorem PySem.W.Fast.tw9333891376586318630 : True := trivial
theorem PySem.W.Fast.tw481162674450475994 : True := trivial
theorem PySem.W.Fast.tw11681858850521627575 : True := trivial
theorem PySem.W.Fast.tw10980178970456721813 : True := trivial
theorem PySem.W.Fast.tw11813906556358050595 : True := trivial
theorem PySem.W.Fast.tw14317923182298810732 : True := trivial
theorem PySem.W.Fast.tw13330085669203643533 : True := trivial
theorem PySem.W.Fast.tw16979752476456350615 : True := trivial
theorem PySem.W.Fast.tw18214880692680422321 : True := trivial
theorem PySem.W.Fast.tw10479771269947154664 : True := trivial
theorem PySem.W.Fast.tw5249336750025134700 : True := trivial
theorem PySem.W.Fast.tw13011007141486283646 : True := trivial
theorem PySem.W.Fast.tw16419573371125508250 : True := trivial
theorem PySem.W.Fast.tw934309691314376730 : True := trivial
theorem PySem.W.Fast.tw7282081967995654725 : True := trivial
theorem PySem.W.Fast.tw10749682885192223612 : True := trivial
theorem PySem.W.Fast.tw2553299681607442293 : True := trivial
theorem PySem.W.Fast.tw357593199905781016 : True := trivial
theorem PySem.W.Fast.tw15701818515835042778 : True := trivial
theorem PySem.W.Fast.tw11039554629814130494 : True := trivial
theorem PySem.W.Fast.tw8250052644291304632 : True := trivial
theorem PySem.W.Fast.tw16454842230163243786 : True := trivial
theorem PySem.W.Fast.tw13500299014806695637 : True := trivial
theorem PySem.W.Fast.tw8113838371637138030 : True := trivial
theorem PySem.W.Fast.tw3092939291102794424 : True := trivial
theorem PySem.W.Fast.tw7220095027323616642 : True := trivial
theorem PySem.W.Fast.tw15069205582551485697 : True := trivial
theorem PySem.W.Fast.tw5066134825197328816 : True := trivial
theorem PySem.W.Fast.tw17724432113426509033 : True := trivial
theorem PySem.W.Fast.tw9311111267029765726 : True := trivial
theorem PySem.W.Fast.tw13290510720755239860 : True := trivial
theorem PySem.W.Fast.tw4196917087497429747 : True := trivial
theorem PySem.W.Fast.tw2618974577485126908 : True := trivial
theorem PySem.W.Fast.tw13526730892188131821 : True := trivial
theorem PySem.W.Fast.tw16721089986554980015 : True := trivial
theorem PySem.W.Fast.tw18335445760117524035 : True := trivial
theorem PySem.W.Fast.tw12580220101003087563 : True := trivial
theorem PySem.W.Fast.tw2727730310089827239 : True := trivial
theorem PySem.W.Fast.tw7179311344725532005 : True := trivial
theorem PySem.W.Fast.tw9301434952964837383 : True := trivial
theorem PySem.W.Fast.tw12310031000691535282 : True := trivial
theorem PySem.W.Fast.tw4798125860955700711 : True := trivial
theorem PySem.W.Fast.tw13048961579461786544 : True := trivial
theorem PySem.W.Fast.tw4898729259605735179 : True := trivial
theorem PySem.W.Fast.tw9739051019123919657 : True := trivial
theorem PySem.W.Fast.tw17019969491565448760 : True := trivial
theorem PySem.W.Fast.tw13793585524115980981 : True := trivial
theorem PySem.W.Fast.tw10212233725281799350 : True := trivial
theorem PySem.W.Fast.tw14197813289006182542 : True := trivial
theorem PySem.W.Fast.tw18330539945648143904 : True := trivial
theorem PySem.W.Fast.tw11360037978312021893 : True := trivial
open PySem PySem.W PyProof.Rows
set_option maxRecDepth 100000 in
set_option maxHeartbeats 0 in
theorem PySem.Challenge.cw_halforder_k75_sayings_clash_and_lead_holds : PySem.Challenge.rw_halforder_k75_sayings_clash_and_lead.Holds := by
 w_on;o_law;k_head;(case hw=>w_witness2)
 k_fill
 refine K75.walk (l:=PySem.Challenge.rw_halforder_k75_sayings_clash_and_lead) rfl rfl (fun w h Y=>PySem.W.kIn_of Y) ?F
 case F=>
  intro w mg fa h KX G hmg
  refine' K75.all_mk KX G hmg ?q_aC_Ways ?q_pg_Ways ?q_hd_Ways ?q_po_Ways ?q_sa_Ways ?q_mk_Ways ?q_kc_Ways ?q_n_Ways_names ?q_n_Ways_bits ?q_n_Ways_ahead ?q_n_Ways_full ?q_n_Ways_known ?q_aC_Keeper ?q_pg_Keeper ?q_hd_Keeper ?q_po_Keeper ?q_sa_Keeper ?q_mk_Keeper ?q_kc_Keeper ?q_n_Keeper_names ?q_n_Keeper_now ?q_n_Keeper_past ?q_n_Keeper_undone ?q_cg ?q_ct ?q_aX_HalfError ?q_aX_NoHalf ?q_aX_NoText ?q_aX_NoName ?q_aX_TooMany ?q_aX_NoCover ?q_aX_NoPlace ?q_aX_NoOrder ?q_aX_NoJoin ?q_aX_Clash ?q_aX_NoPaper ?q_aX_NoPlan ?q_aX_NoBound ?q_aX_NoSaying ?q_aX_NoMore ?q_ex_HalfError ?q_sX_HalfError ?q_gX_HalfError ?q_tX_HalfError ?q_lX_HalfError ?q_no_HalfError ?q_kX_HalfError ?q_ex_NoHalf ?q_sX_NoHalf ?q_gX_NoHalf ?q_tX_NoHalf ?q_lX_NoHalf ?q_mr_NoHalf ?q_kX_NoHalf ?q_nX_NoHalf_word ?q_nX_NoHalf_number ?q_ex_NoText ?q_sX_NoText ?q_gX_NoText ?q_tX_NoText ?q_lX_NoText ?q_mr_NoText ?q_kX_NoText ?q_nX_NoText_row ?q_ex_NoName ?q_sX_NoName ?q_gX_NoName ?q_tX_NoName ?q_lX_NoName ?q_mr_NoName ?q_kX_NoName ?q_nX_NoName_name ?q_ex_TooMany ?q_sX_TooMany ?q_gX_TooMany ?q_tX_TooMany ?q_lX_TooMany ?q_mr_TooMany ?q_kX_TooMany ?q_nX_TooMany_word ?q_ex_NoCover ?q_sX_NoCover ?q_gX_NoCover ?q_tX_NoCover ?q_lX_NoCover ?q_mr_NoCover ?q_no_NoCover ?q_kX_NoCover ?q_ex_NoPlace ?q_sX_NoPlace ?q_gX_NoPlace ?q_tX_NoPlace ?q_lX_NoPlace ?q_mr_NoPlace ?q_kX_NoPlace ?q_nX_NoPlace_number ?q_ex_NoOrder ?q_sX_NoOrder ?q_gX_NoOrder ?q_tX_NoOrder ?q_lX_NoOrder ?q_mr_NoOrder ?q_no_NoOrder ?q_kX_NoOrder ?q_ex_NoJoin ?q_sX_NoJoin ?q_gX_NoJoin ?q_tX_NoJoin ?q_lX_NoJoin ?q_mr_NoJoin ?q_kX_NoJoin ?q_nX_NoJoin_word ?q_ex_Clash ?q_sX_Clash ?q_gX_Clash ?q_tX_Clash ?q_lX_Clash ?q_mr_Clash ?q_kX_Clash ?q_nX_Clash_way ?q_ex_NoPaper ?q_sX_NoPaper ?q_gX_NoPaper ?q_tX_NoPaper ?q_lX_NoPaper ?q_mr_NoPaper ?q_kX_NoPaper ?q_nX_NoPaper_word ?q_nX_NoPaper_row ?q_ex_NoPlan ?q_sX_NoPlan ?q_gX_NoPlan ?q_tX_NoPlan ?q_lX_NoPlan ?q_mr_NoPlan ?q_kX_NoPlan ?q_nX_NoPlan_word ?q_nX_NoPlan_path ?q_ex_NoBound ?q_sX_NoBound ?q_gX_NoBound ?q_tX_NoBound ?q_lX_NoBound ?q_mr_NoBound ?q_kX_NoBound ?q_nX_NoBound_word ?q_nX_NoBound_row ?q_ex_NoSaying ?q_sX_NoSaying ?q_gX_NoSaying ?q_tX_NoSaying ?q_lX_NoSaying ?q_mr_NoSaying ?q_kX_NoSaying ?q_nX_NoSaying_number ?q_ex_NoMore ?q_sX_NoMore ?q_gX_NoMore ?q_tX_NoMore ?q_lX_NoMore ?q_mr_NoMore ?q_no_NoMore ?q_kX_NoMore ?q_ndX ?q_a0 ?q_l0 ?q_c0 ?q_k0 ?q_a1 ?q_l1 ?q_c1 ?q_k1 ?q_a2 ?q_l2 ?q_c2 ?q_k2 ?q_a3 ?q_l3 ?q_c3 ?q_k3 ?q_a4 ?q_l4 ?q_c4 ?q_k4 ?q_a5 ?q_l5 ?q_c5 ?q_k5 ?q_a6 ?q_l6 ?q_c6 ?q_k6 ?q_a7 ?q_l7 ?q_c7 ?q_k7 ?q_a8 ?q_l8 ?q_c8 ?q_k8 ?q_a9 ?q_l9 ?q_c9 ?q_k9 ?q_a10 ?q_l10 ?q_c10 ?q_k10 ?q_a11 ?q_l11 ?q_c11 ?q_k11 ?q_a12 ?q_l12 ?q_c12 ?q_k12 ?q_a13 ?q_l13 ?q_c13 ?q_k13 ?q_a14 ?q_l14 ?q_c14 ?q_k14 ?q_a15 ?q_l15 ?q_c15 ?q_k15 ?q_a16 ?q_l16 ?q_c16 ?q_k16 ?q_a17 ?q_l17 ?q_c17 ?q_k17 ?q_a18 ?q_l18 ?q_c18 ?q_k18 ?q_a19 ?q_l19 ?q_c19 ?q_k19 ?q_a20 ?q_l20 ?q_c20 ?q_k20 ?q_a21 ?q_l21 ?q_c21 ?q_k21 ?q_a22 ?q_l22 ?q_c22 ?q_k22 ?q_a23 ?q_i23 ?q_l23 ?q_c23 ?q_k23 ?q_a24 ?q_i24 ?q_l24 ?q_c24 ?q_k24 ?q_a25 ?q_i25 ?q_l25 ?q_c25 ?q_k25 ?q_a26 ?q_i26 ?q_l26 ?q_c26 ?q_k26 ?q_a27 ?q_i27 ?q_l27 ?q_c27 ?q_k27 ?q_a28 ?q_i28 ?q_l28 ?q_c28 ?q_k28 ?q_a29 ?q_i29 ?q_l29 ?q_c29 ?q_k29 ?q_a30 ?q_i30 ?q_l30 ?q_c30 ?q_k30 ?q_a31 ?q_i31 ?q_l31 ?q_c31 ?q_k31 ?q_a32 ?q_i32 ?q_l32 ?q_c32 ?q_k32 ?q_a33 ?q_i33 ?q_l33 ?q_c33 ?q_k33 ?q_a34 ?q_i34 ?q_l34 ?q_c34 ?q_k34 ?q_a35 ?q_i35 ?q_l35 ?q_c35 ?q_k35 ?q_a36 ?q_i36 ?q_l36 ?q_c36 ?q_k36 ?q_a37 ?q_i37 ?q_l37 ?q_c37 ?q_k37 ?q_a38 ?q_i38 ?q_l38 ?q_c38 ?q_k38 ?q_a39 ?q_i39 ?q_l39 ?q_c39 ?q_k39 ?q_a40 ?q_i40 ?q_l40 ?q_c40 ?q_k40 ?q_a41 ?q_i41 ?q_l41 ?q_c41 ?q_k41 ?q_a42 ?q_i42 ?q_l42 ?q_c42 ?q_k42 ?q_a43 ?q_i43 ?q_l43 ?q_c43 ?q_k43 ?q_a44 ?q_i44 ?q_l44 ?q_c44 ?q_k44 ?q_g0 ?q_g1 ?q_g2 ?q_g3 ?q_z0 ?q_z1 ?q_z2 ?q_z3 ?q_z4 ?q_z5 ?q_z6 ?q_z7 ?q_z8 ?q_z9 ?q_z10 ?q_z11 ?q_z12 ?q_z13 ?q_z14 ?q_z15
  (case q_aC_Ways=>k_is)
  (case q_pg_Ways=>k_is)
  (case q_hd_Ways=>k_is)
  (case q_po_Ways=>k_is)
  (case q_sa_Ways=>k_is)
  (case q_mk_Ways=>k_is)
  (case q_kc_Ways=>k_is)
  (case q_n_Ways_names=>k_is)
  (case q_n_Ways_bits=>k_is)
  (case q_n_Ways_ahead=>k_is)
  (case q_n_Ways_full=>k_is)
  (case q_n_Ways_known=>k_is)
  (case q_aC_Keeper=>k_is)
  (case q_pg_Keeper=>k_is)
  (case q_hd_Keeper=>k_is)
  (case q_po_Keeper=>k_is)
  (case q_sa_Keeper=>k_is)
  (case q_mk_Keeper=>k_is)
  (case q_kc_Keeper=>k_is)
  (case q_n_Keeper_names=>k_is)
  (case q_n_Keeper_now=>k_is)
  (case q_n_Keeper_past=>k_is)
  (case q_n_Keeper_undone=>k_is)
  (case q_cg=>k_is)
  (case q_ct=>k_is)
  (case q_aX_HalfError=>k_is)
  (case q_aX_NoHalf=>k_is)
  (case q_aX_NoText=>k_is)
  (case q_aX_NoName=>k_is)
  (case q_aX_TooMany=>k_is)
  (case q_aX_NoCover=>k_is)
  (case q_aX_NoPlace=>k_is)
  (case q_aX_NoOrder=>k_is)
  (case q_aX_NoJoin=>k_is)
  (case q_aX_Clash=>k_is)
  (case q_aX_NoPaper=>k_is)
  (case q_aX_NoPlan=>k_is)
  (case q_aX_NoBound=>k_is)
  (case q_aX_NoSaying=>k_is)
  (case q_aX_NoMore=>k_is)
  (case q_ex_HalfError=>kernel_rfl)
  (case q_sX_HalfError=>k_is)
  (case q_gX_HalfError=>k_is)
  (case q_tX_HalfError=>k_is)
  (case q_lX_HalfError=>k_is)
  (case q_no_HalfError=>kernel_rfl)
  (case q_kX_HalfError=>k_is)
  (case q_ex_NoHalf=>kernel_rfl)
  (case q_sX_NoHalf=>k_is)
  (case q_gX_NoHalf=>k_is)
  (case q_tX_NoHalf=>k_is)
  (case q_lX_NoHalf=>k_is)
  (case q_mr_NoHalf=>kernel_rfl)
  (case q_kX_NoHalf=>k_is)
  (case q_nX_NoHalf_word=>k_is)
  (case q_nX_NoHalf_number=>k_is)
  (case q_ex_NoText=>kernel_rfl)
  (case q_sX_NoText=>k_is)
  (case q_gX_NoText=>k_is)
  (case q_tX_NoText=>k_is)
  (case q_lX_NoText=>k_is)
  (case q_mr_NoText=>kernel_rfl)
  (case q_kX_NoText=>k_is)
  (case q_nX_NoText_row=>k_is)
  (case q_ex_NoName=>kernel_rfl)
  (case q_sX_NoName=>k_is)
  (case q_gX_NoName=>k_is)
  (case q_tX_NoName=>k_is)
  (case q_lX_NoName=>k_is)
  (case q_mr_NoName=>kernel_rfl)
  (case q_kX_NoName=>k_is)
  (case q_nX_NoName_name=>k_is)
  (case q_ex_TooMany=>kernel_rfl)
  (case q_sX_TooMany=>k_is)
  (case q_gX_TooMany=>k_is)
  (case q_tX_TooMany=>k_is)
  (case q_lX_TooMany=>k_is)
  (case q_mr_TooMany=>kernel_rfl)
  (case q_kX_TooMany=>k_is)
  (case q_nX_TooMany_word=>k_is)
  (case q_ex_NoCover=>kernel_rfl)
  (case q_sX_NoCover=>k_is)
  (case q_gX_NoCover=>k_is)
  (case q_tX_NoCover=>k_is)
  (case q_lX_NoCover=>k_is)
  (case q_mr_NoCover=>kernel_rfl)
  (case q_no_NoCover=>kernel_rfl)
  (case q_kX_NoCover=>k_is)
  (case q_ex_NoPlace=>kernel_rfl)
  (case q_sX_NoPlace=>k_is)
  (case q_gX_NoPlace=>k_is)
  (case q_tX_NoPlace=>k_is)
  (case q_lX_NoPlace=>k_is)
  (case q_mr_NoPlace=>kernel_rfl)
  (case q_kX_NoPlace=>k_is)
  (case q_nX_NoPlace_number=>k_is)
  (case q_ex_NoOrder=>kernel_rfl)
  (case q_sX_NoOrder=>k_is)
  (case q_gX_NoOrder=>k_is)
  (case q_tX_NoOrder=>k_is)
  (case q_lX_NoOrder=>k_is)
  (case q_mr_NoOrder=>kernel_rfl)
  (case q_no_NoOrder=>kernel_rfl)
  (case q_kX_NoOrder=>k_is)
  (case q_ex_NoJoin=>kernel_rfl)
  (case q_sX_NoJoin=>k_is)
  (case q_gX_NoJoin=>k_is)
  (case q_tX_NoJoin=>k_is)
  (case q_lX_NoJoin=>k_is)
  (case q_mr_NoJoin=>kernel_rfl)
  (case q_kX_NoJoin=>k_is)
  (case q_nX_NoJoin_word=>k_is)
  (case q_ex_Clash=>kernel_rfl)
  (case q_sX_Clash=>k_is)
  (case q_gX_Clash=>k_is)
  (case q_tX_Clash=>k_is)
  (case q_lX_Clash=>k_is)
  (case q_mr_Clash=>kernel_rfl)
  (case q_kX_Clash=>k_is)
  (case q_nX_Clash_way=>k_is)
  (case q_ex_NoPaper=>kernel_rfl)
  (case q_sX_NoPaper=>k_is)
  (case q_gX_NoPaper=>k_is)
  (case q_tX_NoPaper=>k_is)
  (case q_lX_NoPaper=>k_is)
  (case q_mr_NoPaper=>kernel_rfl)
  (case q_kX_NoPaper=>k_is)
  (case q_nX_NoPaper_word=>k_is)
  (case q_nX_NoPaper_row=>k_is)
  (case q_ex_NoPlan=>kernel_rfl)
  (case q_sX_NoPlan=>k_is)
  (case q_gX_NoPlan=>k_is)
  (case q_tX_NoPlan=>k_is)
  (case q_lX_NoPlan=>k_is)
  (case q_mr_NoPlan=>kernel_rfl)
  (case q_kX_NoPlan=>k_is)
  (case q_nX_NoPlan_word=>k_is)
  (case q_nX_NoPlan_path=>k_is)
  (case q_ex_NoBound=>kernel_rfl)
  (case q_sX_NoBound=>k_is)
  (case q_gX_NoBound=>k_is)
  (case q_tX_NoBound=>k_is)
  (case q_lX_NoBound=>k_is)
  (case q_mr_NoBound=>kernel_rfl)
  (case q_kX_NoBound=>k_is)
  (case q_nX_NoBound_word=>k_is)
  (case q_nX_NoBound_row=>k_is)
  (case q_ex_NoSaying=>kernel_rfl)
  (case q_sX_NoSaying=>k_is)
  (case q_gX_NoSaying=>k_is)
  (case q_tX_NoSaying=>k_is)
  (case q_lX_NoSaying=>k_is)
  (case q_mr_NoSaying=>kernel_rfl)
  (case q_kX_NoSaying=>k_is)
  (case q_nX_NoSaying_number=>k_is)
  (case q_ex_NoMore=>kernel_rfl)
  (case q_sX_NoMore=>k_is)
  (case q_gX_NoMore=>k_is)
  (case q_tX_NoMore=>k_is)
  (case q_lX_NoMore=>k_is)
  (case q_mr_NoMore=>kernel_rfl)
  (case q_no_NoMore=>kernel_rfl)
  (case q_kX_NoMore=>k_is)
  (case q_ndX=>decide)
  (case q_a0=>k_is)
  (case q_l0=>k_is)
  (case q_c0=>k_is)
  (case q_k0=>k_is)
  (case q_a1=>k_is)
  (case q_l1=>k_is)
  (case q_c1=>k_is)
  (case q_k1=>k_is)
  (case q_a2=>k_is)
  (case q_l2=>k_is)
  (case q_c2=>k_is)
  (case q_k2=>k_is)
  (case q_a3=>k_is)
  (case q_l3=>k_is)
  (case q_c3=>k_is)
  (case q_k3=>k_is)
  (case q_a4=>k_is)
  (case q_l4=>k_is)
  (case q_c4=>k_is)
  (case q_k4=>k_is)
  (case q_a5=>k_is)
  (case q_l5=>k_is)
  (case q_c5=>k_is)
  (case q_k5=>k_is)
  (case q_a6=>k_is)
  (case q_l6=>k_is)
  (case q_c6=>k_is)
  (case q_k6=>k_is)
  (case q_a7=>k_is)
  (case q_l7=>k_is)
  (case q_c7=>k_is)
  (case q_k7=>k_is)
  (case q_a8=>k_is)
  (case q_l8=>k_is)
  (case q_c8=>k_is)
  (case q_k8=>k_is)
  (case q_a9=>k_is)
  (case q_l9=>k_is)
  (case q_c9=>k_is)
  (case q_k9=>k_is)
  (case q_a10=>k_is)
  (case q_l10=>k_is)
  (case q_c10=>k_is)
  (case q_k10=>k_is)
  (case q_a11=>k_is)
  (case q_l11=>k_is)
  (case q_c11=>k_is)
  (case q_k11=>k_is)
  (case q_a12=>k_is)
  (case q_l12=>k_is)
  (case q_c12=>k_is)
  (case q_k12=>k_is)
  (case q_a13=>k_is)
  (case q_l13=>k_is)
  (case q_c13=>k_is)
  (case q_k13=>k_is)
  (case q_a14=>k_is)
  (case q_l14=>k_is)
  (case q_c14=>k_is)
  (case q_k14=>k_is)
  (case q_a15=>k_is)
  (case q_l15=>k_is)
  (case q_c15=>k_is)
  (case q_k15=>k_is)
  (case q_a16=>k_is)
  (case q_l16=>k_is)
  (case q_c16=>k_is)
  (case q_k16=>k_is)
  (case q_a17=>k_is)
  (case q_l17=>k_is)
  (case q_c17=>k_is)
  (case q_k17=>k_is)
  (case q_a18=>k_is)
  (case q_l18=>k_is)
  (case q_c18=>k_is)
  (case q_k18=>k_is)
  (case q_a19=>k_is)
  (case q_l19=>k_is)
  (case q_c19=>k_is)
  (case q_k19=>k_is)
  (case q_a20=>k_is)
  (case q_l20=>k_is)
  (case q_c20=>k_is)
  (case q_k20=>k_is)
  (case q_a21=>k_is)
  (case q_l21=>k_is)
  (case q_c21=>k_is)
  (case q_k21=>k_is)
  (case q_a22=>k_is)
  (case q_l22=>k_is)
  (case q_c22=>k_is)
  (case q_k22=>k_is)
  (case q_a23=>k_is)
  (case q_i23=>k_is)
  (case q_l23=>k_is)
  (case q_c23=>k_is)
  (case q_k23=>k_is)
  (case q_a24=>k_is)
  (case q_i24=>k_is)
  (case q_l24=>k_is)
  (case q_c24=>k_is)
  (case q_k24=>k_is)
  (case q_a25=>k_is)
  (case q_i25=>k_is)
  (case q_l25=>k_is)
  (case q_c25=>k_is)
  (case q_k25=>k_is)
  (case q_a26=>k_is)
  (case q_i26=>k_is)
  (case q_l26=>k_is)
  (case q_c26=>k_is)
  (case q_k26=>k_is)
  (case q_a27=>k_is)
  (case q_i27=>k_is)
  (case q_l27=>k_is)
  (case q_c27=>k_is)
  (case q_k27=>k_is)
  (case q_a28=>k_is)
  (case q_i28=>k_is)
  (case q_l28=>k_is)
  (case q_c28=>k_is)
  (case q_k28=>k_is)
  (case q_a29=>k_is)
  (case q_i29=>k_is)
  (case q_l29=>k_is)
  (case q_c29=>k_is)
  (case q_k29=>k_is)
  (case q_a30=>k_is)
  (case q_i30=>k_is)
  (case q_l30=>k_is)
  (case q_c30=>k_is)
  (case q_k30=>k_is)
  (case q_a31=>k_is)
  (case q_i31=>k_is)
  (case q_l31=>k_is)
  (case q_c31=>k_is)
  (case q_k31=>k_is)
  (case q_a32=>k_is)
  (case q_i32=>k_is)
  (case q_l32=>k_is)
  (case q_c32=>k_is)
  (case q_k32=>k_is)
  (case q_a33=>k_is)
  (case q_i33=>k_is)
  (case q_l33=>k_is)
  (case q_c33=>k_is)
  (case q_k33=>k_is)
  (case q_a34=>k_is)
  (case q_i34=>k_is)
  (case q_l34=>k_is)
  (case q_c34=>k_is)
  (case q_k34=>k_is)
  (case q_a35=>k_is)
  (case q_i35=>k_is)
  (case q_l35=>k_is)
  (case q_c35=>k_is)
  (case q_k35=>k_is)
  (case q_a36=>k_is)
  (case q_i36=>k_is)
  (case q_l36=>k_is)
  (case q_c36=>k_is)
  (case q_k36=>k_is)
  (case q_a37=>k_is)
  (case q_i37=>k_is)
  (case q_l37=>k_is)
  (case q_c37=>k_is)
  (case q_k37=>k_is)
  (case q_a38=>k_is)
  (case q_i38=>k_is)
  (case q_l38=>k_is)
  (case q_c38=>k_is)
  (case q_k38=>k_is)
  (case q_a39=>k_is)
  (case q_i39=>k_is)
  (case q_l39=>k_is)
  (case q_c39=>k_is)
  (case q_k39=>k_is)
  (case q_a40=>k_is)
  (case q_i40=>k_is)
  (case q_l40=>k_is)
  (case q_c40=>k_is)
  (case q_k40=>k_is)
  (case q_a41=>k_is)
  (case q_i41=>k_is)
  (case q_l41=>k_is)
  (case q_c41=>k_is)
  (case q_k41=>k_is)
  (case q_a42=>k_is)
  (case q_i42=>k_is)
  (case q_l42=>k_is)
  (case q_c42=>k_is)
  (case q_k42=>k_is)
  (case q_a43=>k_is)
  (case q_i43=>k_is)
  (case q_l43=>k_is)
  (case q_c43=>k_is)
  (case q_k43=>k_is)
  (case q_a44=>k_is)
  (case q_i44=>k_is)
  (case q_l44=>k_is)
  (case q_c44=>k_is)
  (case q_k44=>k_is)
  (case q_g0=>k_is)
  (case q_g1=>k_is)
  (case q_g2=>k_is)
  (case q_g3=>k_is)
  (case q_z0=>k_is)
  (case q_z1=>k_is)
  (case q_z2=>k_is)
  (case q_z3=>k_is)
  (case q_z4=>k_is)
  (case q_z5=>k_is)
  (case q_z6=>k_is)
  (case q_z7=>k_is)
  (case q_z8=>k_is)
  (case q_z9=>k_is)
  (case q_z10=>k_is)
  (case q_z11=>k_is)
  (case q_z12=>k_is)
  (case q_z13=>k_is)
  (case q_z14=>k_is)
  (case q_z15=>k_is)
