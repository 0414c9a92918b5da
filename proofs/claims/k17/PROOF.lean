import PyProof.Rows.All
import Wide.All
import OpenK.AllK
import Wide.FinOn
import PyProof.EqAt
import PyProof.EqKinds
import PyProof.TupleCall
import Lean
import PyProof.DictWalks
import PyProof.DictIter
import PyProof.P3In
import KE.KEqSeq
import PyProof.ReprLen
import PyProof.ReprRoads
import PyProof.StrOps2
import KE.KRevSl
import PyProof.IsRules
import PyProof.StrLawsIdx
import PyProof.Rows.RegRepr
import PyProof.Rows.RegFStrParts
import PyProof.DictUpdate
import PyProof.AttrMissHeap
import PyProof.Walks
import KE.KDictOf
import PyProof.EnumIter
import PyProof.EnumFor
import PyProof.LayNew
import PyProof.EnumMake
import PyProof.Draws
import PyProof.WalksT
import PyProof.TupleIter
import PyProof.WalksMore
import KE.KRevIter
import KE.KEqDict
import PyProof.Rows.SetFrom
import PyProof.StrLawsTight
import PyProof.StrLawsChain
import PyProof.SumWalk
import PyProof.Rows.SortStr
import PyProof.Rows.SortWalk
import PyProof.TupleOfSeq
import KE.KDictSum
import KE.KSortTup
import PyProof.ListRange
import PyProof.ZipIter
import PyProof.Rows.ZipGen
import KE.KItemsList
import PyProof.ExcArgsOwn
import PyProof.InstStoreFacts
import PyProof.ExcBaseAll.ValueError
import PyProof.StationsW
import PyProof.RulesAs
import PyProof.RulesDel
import PyProof.NeKinds
import PyProof.ListMulAny
import PySem.Challenge.RW_halforder_k17_by_layers_and_covers
local macro_rules | `(tactic| eq_refl) => `(tactic| with_unfolding_all exact Or.inl rfl)
local macro_rules | `(tactic| ac_rfl) => `(tactic| with_unfolding_all exact fun _ _ => rfl)
local macro_rules | `(tactic| ac_nf) => `(tactic| with_unfolding_all rfl)
noncomputable section
set_option linter.all false
set_option maxRecDepth 100000
set_option maxHeartbeats 4000000
set_option Elab.async false
set_option compiler.extract_closed false
namespace L2
open PySem PySem.Spec PyProof.Rows
abbrev Key:=Sum Int Str
def Nq:Key->Value->Bool
 | .inl k,v=>Value.isInt k v
 | .inr x,v=>Value.isStrOf x v
def keyH (w:World):Key->Int
 | .inl k=>hashInt k
 | .inr x=>hashStr w x
theorem B8:∀ {k:Key} {v:Value},Nq k v=true->(∃ i t,k=Sum.inl i/\v=Value.int i t)\/(∃ x t,k=Sum.inr x/\v=Value.str x t)
 | .inl i,v,h=>by
   obtain⟨t,e⟩:=Value.isInt_shape (k:=i) (v:=v) h
   exact .inl ⟨i,t,rfl,e⟩
 | .inr x,v,h=>by
   obtain⟨t,e⟩:=Value.isStrOf_shape (x:=x) (v:=v) h
   exact .inr ⟨x,t,rfl,e⟩
theorem Rr (i:Int)(t:Tok):Nq (.inl i) (.int i t)=true:=by simp[Nq,Value.isInt]
theorem Qw (x:Str)(t:Tok):Nq (.inr x) (.str x t)=true:=by simp[Nq,Value.isStrOf]
theorem Zq (a b:Int):decide ((Sum.inl a:Key)=Sum.inl b)=(a==b):=by
 by_cases e:a=b
 . subst e;simp
 have h:¬ (Sum.inl a:Key)=Sum.inl b:=fun q=>e (Sum.inl.inj q)
 rw[decide_eq_false h]
 exact(beq_eq_false_iff_ne.mpr e).symm
theorem a41 (a b:Str):decide ((Sum.inr a:Key)=Sum.inr b)=decide (a=b):=by
 by_cases e:a=b
 . subst e;simp
 have h:¬ (Sum.inr a:Key)=Sum.inr b:=fun q=>e (Sum.inr.inj q)
 rw[decide_eq_false h,decide_eq_false e]
theorem Zs (a:Int)(b:Str):decide ((Sum.inl a:Key)=Sum.inr b)=false:=decide_eq_false (fun q=>nomatch q)
theorem a30 (a:Str)(b:Int):decide ((Sum.inr a:Key)=Sum.inl b)=false:=decide_eq_false (fun q=>nomatch q)
def B5 (prog:Program)(w:World):PySem.KeyKind prog w Key where
 is:=Nq
 hash:=keyH w
 inj:=fun v a b ha hb=>by
  rcases B8 ha with ⟨i,t,rfl,rfl⟩ | ⟨x,t,rfl,rfl⟩
  . rcases B8 hb with ⟨j,u,rfl,e⟩ | ⟨y,u,rfl,e⟩
    . injection e with e1 _;rw[e1]
    exact nomatch e
  rcases B8 hb with ⟨j,u,rfl,e⟩ | ⟨y,u,rfl,e⟩
  . exact nomatch e
  injection e with e1 _;rw[e1]
 byValue:=fun k v h=>by
  rcases B8 h with ⟨i,t,rfl,rfl⟩ | ⟨x,t,rfl,rfl⟩<;>rfl
 pyHash:=fun hv h=>by
  rcases B8 hv with ⟨i,t,rfl,rfl⟩ | ⟨x,t,rfl,rfl⟩
  . exact wpAny_pyHash_int h
  exact wpAny_pyHash_str h
 eqBool:=fun hu hv h=>by
  rcases B8 hu with ⟨i,t,rfl,rfl⟩ | ⟨x,t,rfl,rfl⟩
  . rcases B8 hv with ⟨j,u,rfl,rfl⟩ | ⟨y,u,rfl,rfl⟩
    . rw[Zq] at h;exact wpAny_eqBool_int h
    rw[Zs] at h;exact SeqAt.EqAt.int_str i t y u _ _ _ _ h
  rcases B8 hv with ⟨j,u,rfl,rfl⟩ | ⟨y,u,rfl,rfl⟩
  . rw[a30] at h;exact SeqAt.EqAt.str_int x t j u _ _ _ _ h
  rw[a41] at h;exact wpAny_eqBool_str h
 «strs»:=fun k x t v h=>by
  rcases B8 h with ⟨i,u,rfl,e⟩ | ⟨y,u,rfl,e⟩
  . exact nomatch e
  injection e with e1 _
  subst e1
  cases v<;>rfl
theorem N7 (prog:Program)(w:World)(i:Int)(t:Tok):(B5 prog w).is (.inl i) (.int i t)=true:=Rr i t
theorem Nu (prog:Program)(w:World)(x:Str)(t:Tok):(B5 prog w).is (.inr x) (.str x t)=true:=Qw x t
inductive V where
 | non | bl (b:Bool) | int (i:Int) | str (x:Str) | byt (b:Array UInt8) | flt (b:UInt64) | ref (a:Addr) | ty (n:String)
 deriving DecidableEq
def RelV:V->Value->Prop
 | .non,u=>u=Value.none
 | .bl b,u=>u=Value.bool b
 | .int i,u=>∃ t,u=Value.int i t
 | .str x,u=>∃ t,u=Value.str x t
 | .byt b,u=>∃ t,u=Value.bytes b t
 | .flt b,u=>∃ t,u=Value.float b t
 | .ref a,u=>u=Value.ref a
 | .ty n,u=>u=Value.type n
abbrev Vals:List V->List Value->Prop:=Paired RelV
theorem Vals.length {xs:List V} {us:List Value} (r:Vals xs us):xs.length=us.length:=Paired.length r
theorem Vals.get:∀ {xs:List V} {us:List Value} {i:Nat} {x:V},Vals xs us->xs[i]? = some x->∃ u,us[i]? = some u/\RelV x u
 | _,_,_,_,.nil,e=>by simp at e
 | _,_,0,_,.cons r _,e=>by simp at e;subst e;exact⟨_,rfl,r⟩
 | _,_,i+1,x,.cons _ t,e=>by
   obtain⟨u,h1,h2⟩:=Vals.get (i:=i) (x:=x) t (by simpa using e)
   exact⟨u,by simpa using h1,h2⟩
theorem Vals.set {x:V}{u:Value}(r:RelV x u):∀ {xs:List V} {us:List Value} (i:Nat),Vals xs us->Vals (xs.set i x) (us.set i u)
 | _,_,_,.nil=>.nil
 | _,_,0,.cons _ t=>.cons r t
 | _,_,i+1,.cons q t=>.cons q (Vals.set r i t)
theorem Vals.append:∀ {xs ys:List V} {us ws:List Value},Vals xs us->Vals ys ws->Vals (xs++ys) (us++ws)
 | _,_,_,_,.nil,s=>s
 | _,_,_,_,.cons r t,s=>.cons r (Vals.append t s)
theorem Vals.take:∀ {xs:List V} {us:List Value} (n:Nat),Vals xs us->Vals (xs.take n) (us.take n)
 | _,_,0,_=>.nil
 | _,_,_+1,.nil=>.nil
 | _,_,n+1,.cons r t=>.cons r (Vals.take n t)
theorem Vals.drop:∀ {xs:List V} {us:List Value} (n:Nat),Vals xs us->Vals (xs.drop n) (us.drop n)
 | _,_,0,r=>r
 | _,_,_+1,.nil=>.nil
 | _,_,n+1,.cons _ t=>Vals.drop n t
def RelO:Option V->Option Value->Prop
 | some v,some u=>RelV v u
 | none,none=>True
 | _,_=>False
def KV {κ:Type}:List (κ×V)->List (κ×Value)->Prop:=Paired fun(p:κ×V) (q:κ×Value)=>p.1=q.1/\RelV p.2 q.2
def kV:Key->V
 | .inl i=>.int i
 | .inr x=>.str x
def IsTupN (h:Heap)(a:Addr)(items:Array Value):Prop:=∃ o,h.get? a=some o/\o.cls = .type "tuple" /\ (∃ n,o.data = .seq items n)/\o.dict=none
theorem IsTupN.tup {h:Heap}{a:Addr}{items:Array Value}(x:IsTupN h a items):IsTup h a items:=let ⟨o,h1,h2,⟨n,h3⟩,_⟩:=x;⟨o,h1,h2,n,h3⟩
theorem IsTupN.new (h:Heap)(its:Array Value):IsTupN (h.push { cls:=.type "tuple",data:=.seq its }) h.objs.size its:=⟨_,Heap.get?_push_size _ rfl,rfl,⟨_,rfl⟩,rfl⟩
inductive HO where
 | lst (xs:List V)
 | tup (xs:List V)
 | dK (kvs:List (Key×V)) | dT (kvs:List (List Key×V))
 | set (S:Int->Bool) (n:Nat)
 | ins (C dx:Addr) (fs:List (Str×V))
 | own (x:Addr)
 | xd (fs:List (Str×V))
 | met (f x:Addr)
 | rng (lo hi:Int)
 | frz (o:Obj) (u:HO)
 | tbl (ps:Array Value)
 | ext (φ:Heap->Prop)
abbrev Hp:=Addr->Option HO
def upd (H:Hp)(a:Addr)(o:HO):Hp:=fun b=>if b=a then some o else H b
theorem A9 {H:Hp}{a:Addr}{o:HO}:upd H a o a=some o:=by unfold upd;rw[if_pos rfl]
theorem As {H:Hp}{a b:Addr}{o:HO}(h:b≠a):upd H a o b=H b:=by unfold upd;rw[if_neg h]
theorem ne_of {H:Hp}{a b:Addr}{o u:HO}(h:H a=some o)(h':H b=some u)(d:o≠u):a≠b:=by
 intro e;subst e;rw[h] at h';exact d (Option.some.inj h')
theorem ne_of_none {H:Hp}{a b:Addr}{o:HO}(h:H a=some o)(h':H b=none):a≠b:=by
 intro e;subst e;rw[h] at h';cases h'
section
variable (P:Program)(w:World)
def ObjOk (H:Hp)(h:Heap)(a:Addr):HO->Prop
 | .lst xs=>xs.length<=sizeLine/\∃(its:List Value) (n:Nat),Vals xs its/\h.get? a=some { cls:=.type "list",data:=.seq its.toArray n }
 | .tup xs=>xs.length<=sizeLine/\∃ its:List Value,Vals xs its/\IsTupN h a its.toArray
 | .dK kvs=>kvs.length<=sizeLine/\(a==sysModules)=false/\∃ vs,KV kvs vs/\h.DictOf (B5 P w) a vs
 | .dT kvs=>kvs.length<=sizeLine/\(a==sysModules)=false/\∃ xs:List (List Key×Addr×Value),
   Paired (fun(p:List Key×V) (q:List Key×Addr×Value)=>p.1=q.1/\H q.2.1=some (.tup (p.1.map kV))/\RelV p.2 q.2.2) kvs xs /\
   ∃ o es ep,h.get? a=some o/\o.ExactDict/\o.data = .dict es ep/\es.toList=xs.map (entryOfKey (tupleKind (B5 P w)))/\(xs.map (·.1)).Nodup
 | .set S n=>h.SetOf (intKind P w) a S n
 | .ins C dx fs=>H dx=some (.own a)/\fs.length<=1000/\dx≠a/\h.get? a=some (PySem.W.instObj C dx) /\
   ∃ mA,h.Ns1 dx mA/\(∀ f,RelO (fs.lookup f) (mA f))/\PySem.Within mA (fs.map (·.1))
 | .own _=>∃ o,h.get? a=some o
 | .xd fs=>∃ mA,h.Ns1 a mA/\∀ f,RelO (fs.lookup f) (mA f)
 | .rng lo hi=>∃ t u v,h.get? a=some { cls:=.type "range",data:=.fields #[.int lo t,.int hi u,.int 1 v] }
 | .frz o u=>h.get? a=some o/\ObjOk H h a u
 | .tbl ps=>h.get? a=some { cls:=.none,data:=.fields ps }
 | .met f x=>h.get? a=some (PySem.W.methodObj (.ref f) (.ref x))
 | .ext φ=>φ h/\(∃ o,h.get? a=some o)/\∀ h1 h2:Heap,φ h1->(∀ o,h1.get? a=some o->h2.get? a=some o)->φ h2
def HOk (H:Hp)(h:Heap):Prop:=∀ a o,H a=some o->ObjOk P w H h a o
end
section
variable {P:Program}{w:World}{H H':Hp}{h h':Heap}{a:Addr}{o:HO}
theorem ObjOk.lt (x:ObjOk P w H h a o):a<h.objs.size:=by
 cases o with
 | lst xs=>obtain⟨_,_,_,_,e⟩:=x;exact Heap.lt_size e
 | tup xs=>obtain⟨_,_,_,p⟩:=x;exact p.tup.lt
 | dK kvs=>obtain⟨_,_,_,_,o,_,_,e,_⟩:=x;exact Heap.lt_size e
 | dT kvs=>obtain⟨_,_,_,_,o,_,_,e,_⟩:=x;exact Heap.lt_size e
 | set S n=>obtain⟨o,_,_,_,e,_⟩:=x;exact Heap.lt_size e
 | ins C dx fs=>obtain⟨_,_,_,e,_⟩:=x;exact Heap.lt_size e
 | own y=>obtain⟨_,e⟩:=x;exact Heap.lt_size e
 | xd fs=>obtain⟨_,⟨_,_,_,e,_⟩,_⟩:=x;exact Heap.lt_size e
 | rng lo hi=>obtain⟨_,_,_,e⟩:=x;exact Heap.lt_size e
 | frz ob u=>obtain⟨e,_⟩:=x;exact Heap.lt_size e
 | tbl ps=>exact Heap.lt_size (show h.get? a=some _ from x)
 | met f y=>exact Heap.lt_size (show h.get? a=some _ from x)
 | ext φ=>obtain⟨_,⟨_,e⟩,_⟩:=x;exact Heap.lt_size e
theorem Paired.mapP {α β:Type}{F G:α->β->Prop}:∀ {l₁:List α} {l₂:List β},Paired F l₁ l₂->(∀ a b,F a b->G a b)->Paired G l₁ l₂
 | _,_,.nil,_=>.nil
 | _,_,.cons r t,f=>.cons (f _ _ r) (Paired.mapP t f)
theorem ObjOk.stay (x:ObjOk P w H h a o)(k:∀ b u,(b=a\/H b=some (.own a))->h.get? b=some u->h'.get? b=some u)
  (ho:∀ b,H b=some (.own a)->H' b=some (.own a)) (ht:∀ b xs,H b=some (.tup xs)->H' b=some (.tup xs)):ObjOk P w H' h' a o:=by
 induction o with
 | lst xs=>obtain⟨z,its,n,r,e⟩:=x;exact⟨z,its,n,r,k _ _ (.inl rfl) e⟩
 | tup xs=>obtain⟨z,its,r,ob,e,c⟩:=x;exact⟨z,its,r,ob,k _ _ (.inl rfl) e,c⟩
 | dK kvs=>obtain⟨z,y,vs,r,ob,es,ep,e,c⟩:=x;exact⟨z,y,vs,r,ob,es,ep,k _ _ (.inl rfl) e,c⟩
 | dT kvs=>
   obtain⟨z,y,xs,r,ob,es,ep,e,c⟩:=x
   exact⟨z,y,xs,Paired.mapP r fun p q z=>⟨z.1,ht _ _ z.2.1,z.2.2⟩,ob,es,ep,k _ _ (.inl rfl) e,c⟩
 | set S n=>obtain⟨ob,es,ep,t,e,c⟩:=x;exact⟨ob,es,ep,t,k _ _ (.inl rfl) e,c⟩
 | ins C dx fs=>
   obtain⟨d,z,ne,e,mA,⟨od,es,ep,e2,c⟩,r⟩:=x
   exact⟨ho _ d,z,ne,k _ _ (.inl rfl) e,mA,⟨od,es,ep,k _ _ (.inr d) e2,c⟩,r⟩
 | own y=>obtain⟨ob,e⟩:=x;exact⟨ob,k _ _ (.inl rfl) e⟩
 | xd fs=>obtain⟨mA,⟨od,es,ep,e,c⟩,r⟩:=x;exact⟨mA,⟨od,es,ep,k _ _ (.inl rfl) e,c⟩,r⟩
 | rng lo hi=>obtain⟨t,u,v,e⟩:=x;exact⟨t,u,v,k _ _ (.inl rfl) e⟩
 | frz ob u ih=>obtain⟨e,q⟩:=x;exact⟨k _ _ (.inl rfl) e,ih q⟩
 | tbl ps=>
   have e:h.get? a=some { cls:=.none,data:=.fields ps }:=x
   show h'.get? a=some { cls:=.none,data:=.fields ps }
   exact k a _ (.inl rfl) e
 | met f y=>
   have e:h.get? a=some (PySem.W.methodObj (.ref f) (.ref y)):=x
   show h'.get? a=some (PySem.W.methodObj (.ref f) (.ref y))
   exact k a _ (.inl rfl) e
 | ext φ=>obtain⟨p,⟨o,e⟩,st⟩:=x;exact⟨st _ _ p fun o q=>k _ _ (.inl rfl) q,⟨o,k _ _ (.inl rfl) e⟩,st⟩
theorem HOk.lt (x:HOk P w H h)(e:H a=some o):a<h.objs.size:=(x a o e).lt
theorem HOk.fresh (x:HOk P w H h)(e:h.objs.size<=a):H a=none:=by
 cases q:H a with
 | none=>rfl
 | some u=>exact absurd (Nat.lt_of_lt_of_le (x.lt q) e) (Nat.lt_irrefl _)
theorem HOk.kept (x:HOk P w H h)(k:∀ b u,h.get? b=some u->h'.get? b=some u):HOk P w H h':=fun a o e=>
 (x a o e).stay (fun b u _ q=>k b u q) (fun _ q=>q) fun _ _ q=>q
theorem HOk.laid (x:HOk P w H h)(k:∀ b u,h.get? b=some u->h'.get? b=some u)(hp:h.objs.size<=a)(new:ObjOk P w (upd H a o) h' a o):HOk P w (upd H a o) h':=fun b u e=>by
 have hn:=x.fresh hp
 by_cases hb:b=a
 . subst hb;rw[A9] at e;cases e;exact new
 rw[As hb] at e
 exact(x b u e).stay (fun c v _ q=>k c v q) (fun c q=>by rw[As (ne_of_none q hn)];exact q) fun c xs q=>by rw[As (ne_of_none q hn)];exact q
end
def Rd (H:Hp)(a:Addr)(u:HO):Prop:=H a=some u\/∃ o,H a=some (.frz o u)
theorem Rd.ok {P:Program}{w:World}{H:Hp}{h:Heap}{a:Addr}{u:HO}(r:Rd H a u)(x:HOk P w H h):ObjOk P w H h a u:=by
 rcases r with r | ⟨o,r⟩
 . exact x a u r
 obtain⟨_,q⟩:=x a _ r
 exact q
def Mut:Option HO->Prop
 | some (.lst _)=>True
 | some (.dK _)=>True
 | some (.dT _)=>True
 | some (.set _ _)=>True
 | some (.ins _ _ _)=>True
 | some (.ext _)=>True
 | _=>False
section
variable {P:Program}{w:World}{H:Hp}{h h':Heap}{x e:Addr}{o':HO}
theorem HOk.write (ok:HOk P w H h)(mu:Mut (H x))(he:e=x\/H e=some (.own x))(k:∀ b u,b≠e->h.get? b=some u->h'.get? b=some u)(heo:∃ u,h'.get? e=some u)
  (new:ObjOk P w (upd H x o') h' x o'):HOk P w (upd H x o') h':=fun b u q=>by
 have nown:∀ c y,H c=some (.own y)->c≠x:=fun c y r z=>by subst z;rw[r] at mu;exact mu
 have ntup:∀ c xs,H c=some (.tup xs)->c≠x:=fun c xs r z=>by subst z;rw[r] at mu;exact mu
 by_cases hb:b=x
 . subst hb;rw[A9] at q;cases q;exact new
 rw[As hb] at q
 by_cases hbe:b=e
 . have q':H b=some (.own x):=by
    rcases he with z | z
    . exact absurd (hbe.trans z) hb
    rw[hbe];exact z
   rw[q] at q';cases q'
   obtain⟨v,hv⟩:=heo
   exact⟨v,by rw[hbe];exact hv⟩
 refine(ok b u q).stay (fun c v hc r=>k c v ?_ r) (fun c r=>by rw[As (nown c b r)];exact r) fun c xs r=>by rw[As (ntup c xs r)];exact r
 rcases hc with rfl | hc
 . exact hbe
 rintro rfl
 rcases he with z | z
 . exact nown c b hc z
 rw[hc] at z;cases z;exact hb rfl
end
structure Un (fs ex:List Addr)(H H':Hp)(h h':Heap):Prop where
 keep:∀ b o,h.get? b=some o->H b=none->b∉fs->b∉ex->h'.get? b=some o
 slot:∀ b o,h.get? b=some o->H b=none->b∈fs->b∉ex->∃ sl,h'.get? b=some { o with slots:=sl }
 free:∀ b o,h.get? b=some o->H b=none->b∉ex->H' b=none
 there:∀ b o,h.get? b=some o->b∉ex->∃ o',h'.get? b=some o'
 tups:∀ b xs,H b=some (.tup xs)->H' b=some (.tup xs)
 frzs:∀ b o u,H b=some (.frz o u)->H' b=some (.frz o u)
 tbls:∀ b ps,H b=some (.tbl ps)->∃ more,H' b=some (.tbl (ps++more))
section
variable {fs fs' ex ex':List Addr}{H H1 H2:Hp}{h h1 h2 h':Heap}{a x e:Addr}{o:HO}
theorem Un.any (u:Un fs ex H H1 h h1){b:Addr}{ob:Obj}(q:h.get? b=some ob)(n:H b=none)(hx:b∉ex):∃ sl,h1.get? b=some { ob with slots:=sl }:=by
 by_cases hb:b∈fs
 . exact u.slot b ob q n hb hx
 exact⟨ob.slots,u.keep b ob q n hb hx⟩
theorem Un.kept (k:∀ b u,h.get? b=some u->h'.get? b=some u):Un fs ex H H h h':=
 ⟨fun b ob q _ _ _=>k b ob q,fun b ob q _ _ _=>⟨ob.slots,k b ob q⟩,fun _ _ _ n _=>n,fun b ob q _=>⟨ob,k b ob q⟩,fun _ _ q=>q,fun _ _ _ q=>q,fun _ ps q=>⟨#[],by rw[q];simp⟩⟩
theorem Un.refl:Un fs ex H H h h:=Un.kept fun _ _ q=>q
theorem Un.laid (k:∀ b u,h.get? b=some u->h'.get? b=some u)(hp:h.objs.size<=a)(hn:H a=none):Un fs ex H (upd H a o) h h' where
 keep:=fun b u q _ _ _=>k b u q
 slot:=fun b u q _ _ _=>⟨u.slots,k b u q⟩
 free:=fun b u q n _=>by rw[As (Nat.ne_of_lt (Nat.lt_of_lt_of_le (Heap.lt_size q) hp))];exact n
 there:=fun b u q _=>⟨u,k b u q⟩
 tups:=fun b xs q=>by rw[As (ne_of_none q hn)];exact q
 frzs:=fun b u xs q=>by rw[As (ne_of_none q hn)];exact q
 tbls:=fun b ps q=>⟨#[],by rw[As (ne_of_none q hn),q];simp⟩
theorem Un.write (mu:Mut (H x))(he:e=x\/H e=some (.own x))(k:∀ b u,b≠e->h.get? b=some u->h'.get? b=some u)(heo:∃ u,h'.get? e=some u):Un fs ex H (upd H x o) h h':=by
 have hx:∀ b,H b=none->b≠x:=fun b n z=>by subst z;rw[n] at mu;exact mu
 have hb:∀ b,H b=none->b≠e:=fun b n z=>by
  subst z
  rcases he with r | r
  . exact hx b n r
  rw[n] at r;cases r
 have hm:∀ b u,H b=some u->¬ Mut (some u)->b≠x:=fun b u q nm z=>by subst z;rw[q] at mu;exact nm mu
 refine⟨fun b u q n _ _=>k b u (hb b n) q,fun b u q n _ _=>⟨u.slots,k b u (hb b n) q⟩,fun b u q n _=>by rw[As (hx b n)];exact n,fun b u q _=>?_,
  fun b xs q=>by rw[As (hm b _ q fun z=>z)];exact q,fun b u xs q=>by rw[As (hm b _ q fun z=>z)];exact q,fun b ps q=>⟨#[],by rw[As (hm b _ q fun z=>z),q];simp⟩⟩
 by_cases hbe:b=e
 . subst hbe;exact heo
 exact⟨u,k b u hbe q⟩
end
def trk (h:Heap)(H:Hp):List Addr:=(List.range h.objs.size).filter fun a=>(H a).isSome
def Uk (h:Heap)(H:Hp):Heap:=PySem.W.hideAll h (trk h H)
theorem Th (h:Heap)(H:Hp):(Uk h H).objs.size=h.objs.size:=PySem.W.hideAll_size _ _
theorem Tn {h:Heap}{H:Hp}{b:Addr}{o:Obj}(e:h.get? b=some o)(n:H b=none):(Uk h H).get? b=some o:=
 PySem.W.hideAll_get _ e fun hm=>by
  have q:(H b).isSome=true:=(List.mem_filter.mp hm).2
  rw[n] at q;simp at q
theorem Wy {h:Heap}{H:Hp}{b:Addr}{o:Obj}(e:(Uk h H).get? b=some o):h.get? b=some o/\H b=none:=by
 have e':h.get? b=some o:=PySem.W.of_hideAll (trk h H) e
 refine⟨e',?_⟩
 cases q:H b with
 | none=>rfl
 | some x=>
   have hm:b∈trk h H:=List.mem_filter.mpr ⟨List.mem_range.mpr (Heap.lt_size e'),by simp[q]⟩
   have z:(Uk h H).get? b=none:=PySem.W.hideAll_none (trk h H) hm
   rw[z] at e;cases e
def Wg (g h:Heap)(L:Addr):List (Addr×Obj):=(List.range h.objs.size).filterMap fun a=>if a=L\/(g.get? a).isSome=true then none else(h.get? a).map fun o=>(a,o)
def Mo (g h:Heap)(L d:Addr):List (Addr×Obj):=(Wg g h L).filter fun p=>decide (p.1≠d)
structure Mod (K:PySem.W.Frag)(mg:Str->Option Value)(base:Heap):Prop where
 kin:K.In base
 glob:base.Ns mainGlobals mg
 blt:∃ mb,base.Ns builtinsNs mb/\∀ x:Str,x ≠ "__name__" -> mb x=bootBuiltins x
 nolimit:base.NoLimit
/-- the context: a def's body (or a comprehension's block) running. base: fixed through the whole law;s₀,H₀: the entry;outer: the frames whose slots others may change (a def's callers);stack: all frames that run;
  ex: iterators that were made ahead of the entry and are walked here (a comprehension's);fn: the names whose cells were made at the entry (a def: all;a comprehension's block: its own);calm: not within an except suite;pn: pins that every state bears;xe: what is wanted of an exception that leaves the code -/
structure Cx where
 prog:Program
 w:World
 K:PySem.W.Frag
 mg:Str->Option Value
 base:Heap
 A:Around
 N:List Str
 s₀:Shared
 H₀:Hp
 env:Env
 outer:List Env
 stack:List Env
 ex:List Addr
 fn:Str->Bool
 calm:Bool
 pn:List (Addr×Obj)
 xe:Value->Shared->Prop
def frs (l:List Env):List Addr:=l.filterMap (·.frame)
abbrev Cx.fs (X:Cx):List Addr:=frs X.outer
def Vis (sc:Scope)(x:Str):Prop:=sc.names.lookup x=some .local\/sc.names.lookup x=some .cell\/sc.names.lookup x=some .free
def Loc (sc:Scope)(x:Str):Prop:=sc.names.lookup x=some .local\/sc.names.lookup x=some .cell
def Look (env:Env)(h:Heap)(m:Str->Option Value)(x:Str)(u:Value):Prop:=
 (env.kindOf x=some .local/\m x=some u)\/((env.kindOf x=some .cell\/env.kindOf x=some .free)/\∃ c,env.cells.lookup x=some c/\h.IsCell c (some u))
structure Cx.Ok (X:Cx):Prop where
 mod:Mod X.K X.mg X.base
 kind:X.env.scope.kind = .function
 glob:X.env.globals=mainGlobals
 blt:X.env.builtins=builtinsNs
 above:X.s₀.heap.objs.size<=X.env.locals
 inj:∀ x y c,X.env.cells.lookup x=some c->X.env.cells.lookup y=some c->x=y
 has:∀ x,(X.env.kindOf x=some .cell\/X.env.kindOf x=some .free)->∃ c,X.env.cells.lookup x=some c
 cab:∀ x c,X.fn x=true->X.env.cells.lookup x=some c->X.s₀.heap.objs.size<=c
 hd:X.calm=true->X.A.handled=none
 frames:X.A.frames=some X.stack
 stk:X.stack=X.outer\/(X.stack=X.env :: X.outer/\X.env.frame=some X.env.locals)
 exf:∀ b∈X.ex,b≠X.env.locals/\∀ x c,X.env.cells.lookup x=some c->c≠b
 bs:∀ b o,X.base.get? b=some o->X.s₀.heap.get? b=some o/\X.H₀ b=none
 bsz:X.base.objs.size<=X.s₀.heap.objs.size
 noex:∀ b o,X.base.get? b=some o->b∉X.ex
 exfs:∀ b∈X.ex,b∉X.fs
 funs:X.s₀.heap.FunFrames X.base X.outer
 frf:∀ b∈X.fs,X.H₀ b=none
structure Inv (X:Cx)(pins:List (Addr×Obj))(σ:List (Option V))(H:Hp)(s:Shared):Prop where
 ok:X.Ok
 os:s.os=X.s₀.os
 bare:AllBare s.gens
 base:Un X.fs X.ex X.H₀ H X.s₀.heap s.heap
 loc:∃ m,s.heap.Ns X.env.locals m/\∀(i:Nat) (x:Str) (v:V),X.N[i]? = some x->σ[i]? = some (some v)->Vis X.env.scope x->∃ u,RelV v u/\Look X.env s.heap m x u
 cell:∀ x c,X.env.cells.lookup x=some c->∃ v,s.heap.IsCell c v
 free:H X.env.locals=none
 freeC:∀ x c,X.env.cells.lookup x=some c->H c=none
 pin:∀ p∈X.pn++pins,s.heap.get? p.1=some p.2/\H p.1=none/\p.1≠X.env.locals/\p.1∉X.fs/\∀ v,p.2.data ≠ .cell v
 hok:HOk X.prog X.w H s.heap
 len:σ.length=X.N.length
section
variable {X:Cx}{pins:List (Addr×Obj)}{σ:List (Option V)}{H H':Hp}{s:Shared}{h':Heap}
theorem Cx.Ok.nofr (ok:X.Ok){b:Addr}{o:Obj}(e:X.base.get? b=some o):b∉X.fs:=fun hb=>by
 have:=(ok.funs.mem hb).1
 rw[e] at this;cases this
theorem Inv.bs (I:Inv X pins σ H s):∀ b o,X.base.get? b=some o->s.heap.get? b=some o/\H b=none:=fun b o e=>
 ⟨I.base.keep b o (I.ok.bs b o e).1 (I.ok.bs b o e).2 (I.ok.nofr e) (I.ok.noex b o e),I.base.free b o (I.ok.bs b o e).1 (I.ok.bs b o e).2 (I.ok.noex b o e)⟩
theorem Inv.bk (I:Inv X pins σ H s):∀ b o,X.base.get? b=some o->s.heap.get? b=some o:=fun b o e=>(I.bs b o e).1
theorem Inv.mod (I:Inv X pins σ H s):Mod X.K X.mg X.base:=I.ok.mod
theorem Inv.kIn (I:Inv X pins σ H s):X.K.In s.heap:=I.ok.mod.kin.keeps I.bk
theorem Inv.lt (I:Inv X pins σ H s):X.env.locals<s.heap.objs.size:=let ⟨_,hn,_⟩:=I.loc;hn.lt
theorem Inv.sz (I:Inv X pins σ H s):X.s₀.heap.objs.size<=s.heap.objs.size:=Nat.le_trans I.ok.above (Nat.le_of_lt I.lt)
theorem Inv.nofs (I:Inv X pins σ H s){a:Addr}(h:s.heap.objs.size<=a):a∉X.fs:=fun hb=>by
 obtain⟨_,o,ho,_⟩:=I.ok.funs.mem hb
 exact absurd (Nat.lt_of_lt_of_le (Heap.lt_size ho) (Nat.le_trans I.sz h)) (Nat.lt_irrefl _)
theorem Inv.cne (I:Inv X pins σ H s):∀ x c,X.env.cells.lookup x=some c->c≠X.env.locals:=fun x c e z=>by
 obtain⟨v,o,ho,hd⟩:=I.cell x c e
 obtain⟨m,⟨o',es,ep,ho',hd',_⟩,_⟩:=I.loc
 rw[z,ho'] at ho;cases ho;rw[hd'] at hd;cases hd
theorem Inv.funs (I:Inv X pins σ H s):s.heap.FunFrames X.base X.outer:=by
 have all:∀(l:List Env),(∀ b∈frs l,b∈X.fs)->X.s₀.heap.FunFrames X.base l->s.heap.FunFrames X.base l:=by
  intro l
  induction l with
  | nil=>intro _ _;trivial
  | cons env r ih=>
    intro hs hl
    obtain⟨hk,⟨L,o,hf,hn,ho,hd⟩,hr⟩:=hl
    have hL:L∈X.fs:=hs L (by unfold frs;rw[List.filterMap_cons,hf];exact List.mem_cons_self)
    obtain⟨sl,e⟩:=I.base.slot L o ho (I.ok.frf L hL) hL fun z=>I.ok.exfs L z hL
    exact⟨hk,⟨L,_,hf,hn,e,hd⟩,ih (fun b hb=>hs b (by unfold frs;rw[List.filterMap_cons,hf];exact List.mem_cons_of_mem _ hb)) hr⟩
 exact all X.outer (fun _ hb=>hb) I.ok.funs
theorem Inv.stack (I:Inv X pins σ H s):s.heap.FunFrames X.base X.stack:=by
 rcases I.ok.stk with e | ⟨e,hf⟩
 . rw[e];exact I.funs
 rw[e]
 obtain⟨m,hn,_⟩:=I.loc
 refine .cons (by rw[I.ok.kind];decide) hf hn ?_ I.funs
 exact Heap.get?_none_of_le (Nat.le_trans I.ok.bsz I.ok.above)
theorem Inv.stkSub (I:Inv X pins σ H s):∀ b∈frs X.stack,b∈X.env.locals :: X.fs:=fun b hb=>by
 rcases I.ok.stk with e | ⟨e,hf⟩
 . rw[e] at hb;exact List.mem_cons_of_mem _ hb
 rw[e] at hb
 unfold frs at hb
 rw[List.filterMap_cons,hf] at hb
 exact hb
theorem Inv.stkFree (I:Inv X pins σ H s):∀ b∈frs X.stack,H b=none:=fun b hb=>by
 rcases List.mem_cons.mp (I.stkSub b hb) with e | hb
 . rw[e];exact I.free
 obtain⟨_,o,ho,_⟩:=I.ok.funs.mem hb
 exact I.base.free b o ho (I.ok.frf b hb) fun z=>I.ok.exfs b z hb
theorem Inv.step {g':Array GenState}{t':Nat}{d':Drawn}{ch:List Addr}(I:Inv X pins σ H s)
  (hch:∀ b∈ch,(b∈X.ex\/X.s₀.heap.objs.size<=b)/\b≠X.env.locals/\(∀ x c,X.env.cells.lookup x=some c->c≠b)/\∀ p∈X.pn++pins,p.1≠b)
  (keep:∀ b o,b≠X.env.locals->b∉X.fs->b∉ch->s.heap.get? b=some o->H b=none->h'.get? b=some o)
  (slot:∀ b o,b≠X.env.locals->b∈X.fs->b∉ch->s.heap.get? b=some o->H b=none->∃ sl,h'.get? b=some { o with slots:=sl }) (free:∀ b o,b∉ch->s.heap.get? b=some o->H b=none->H' b=none)
  (there:∀ b o,b∉ch->s.heap.get? b=some o->∃ o',h'.get? b=some o')
  (tups:∀ b xs,H b=some (.tup xs)->H' b=some (.tup xs)) (frzs:∀ b o u,H b=some (.frz o u)->H' b=some (.frz o u)) (tbls:∀ b ps,H b=some (.tbl ps)->∃ more,H' b=some (.tbl (ps++more)))
  (ns:∀ m,s.heap.Ns X.env.locals m->h'.Ns X.env.locals m) (hok:HOk X.prog X.w H' h') (hg:AllBare g') :
  Inv X pins σ H' { s with heap:=h',gens:=g',drawn:=d',toks:=t' }:=by
 have neL:∀ b o,X.s₀.heap.get? b=some o->b≠X.env.locals:=fun b o e=>Nat.ne_of_lt (Nat.lt_of_lt_of_le (Heap.lt_size e) I.ok.above)
 have neC:∀ b o,X.s₀.heap.get? b=some o->b∉X.ex->b∉ch:=fun b o e hx hb=>by
  rcases(hch b hb).1 with z | z
  . exact hx z
  exact absurd (Nat.lt_of_lt_of_le (Heap.lt_size e) z) (Nat.lt_irrefl _)
 have cellK:∀ x c,X.env.cells.lookup x=some c->∀ v,s.heap.IsCell c v->h'.IsCell c v:=fun x c e v ⟨o,ho,hd⟩=>by
  have nch:c∉ch:=fun z=>(hch c z).2.2.1 x c e rfl
  by_cases hc:c∈X.fs
  . obtain⟨sl,q⟩:=slot c o (I.cne x c e) hc nch ho (I.freeC x c e)
    exact⟨_,q,hd⟩
  exact⟨o,keep c o (I.cne x c e) hc nch ho (I.freeC x c e),hd⟩
 refine⟨I.ok,I.os,hg,⟨fun b o e n hb hx=>?_,fun b o e n hb hx=>?_,fun b o e n hx=>?_,fun b o e hx=>?_,fun b xs e=>tups b xs (I.base.tups b xs e),fun b o xs e=>frzs b o xs (I.base.frzs b o xs e),fun b ps e=>?_⟩,?_,fun x c e=>?_,?_,fun x c e=>?_,fun p hp=>?_,hok,I.len⟩
 . exact keep b o (neL b o e) hb (neC b o e hx) (I.base.keep b o e n hb hx) (I.base.free b o e n hx)
 . obtain⟨sl,e1⟩:=I.base.slot b o e n hb hx
   obtain⟨sl',e2⟩:=slot b _ (neL b o e) hb (neC b o e hx) e1 (I.base.free b o e n hx)
   exact⟨sl',e2⟩
 . obtain⟨o',e1⟩:=I.base.there b o e hx
   exact free b o' (neC b o e hx) e1 (I.base.free b o e n hx)
 . obtain⟨o',e1⟩:=I.base.there b o e hx
   exact there b o' (neC b o e hx) e1
 . obtain⟨m1,e1⟩:=I.base.tbls b ps e
   obtain⟨m2,e2⟩:=tbls b _ e1
   exact⟨m1++m2,by rw[e2,Array.append_assoc]⟩
 . obtain⟨m,hn,hl⟩:=I.loc
   refine⟨m,ns m hn,fun i x v e1 e2 e3=>?_⟩
   obtain⟨u,r,l⟩:=hl i x v e1 e2 e3
   refine⟨u,r,?_⟩
   rcases l with l | ⟨k,c,e,z⟩
   . exact .inl l
   exact .inr ⟨k,c,e,cellK x c e _ z⟩
 . obtain⟨v,z⟩:=I.cell x c e
   exact⟨v,cellK x c e v z⟩
 . obtain⟨m,⟨o,_,_,ho,_⟩,_⟩:=I.loc
   exact free _ o (fun z=>(hch _ z).2.1 rfl) ho I.free
 . obtain⟨v,o,ho,hd⟩:=I.cell x c e
   exact free c o (fun z=>(hch c z).2.2.1 x c e rfl) ho (I.freeC x c e)
 obtain⟨e,n,ne,nf,d⟩:=I.pin p hp
 have nch:p.1∉ch:=fun z=>(hch p.1 z).2.2.2 p hp rfl
 exact⟨keep p.1 p.2 ne nf nch e n,free p.1 p.2 nch e n,ne,nf,d⟩
theorem Inv.un {t':Nat}(I:Inv X pins σ H s)(u:Un X.fs [] H H' s.heap h')(hok:HOk X.prog X.w H' h'):Inv X pins σ H' { s with heap:=h',toks:=t' }:=by
 obtain⟨m,⟨o,es,ep,ho,r⟩,_⟩:=id I.loc
 obtain⟨sl,hL⟩:=u.any ho I.free (by simp)
 exact I.step (g':=s.gens) (d':=s.drawn) (ch:=[]) (fun _ z=>nomatch z) (fun b o _ hb _ e n=>u.keep b o e n hb (by simp)) (fun b o _ hb _ e n=>u.slot b o e n hb (by simp)) (fun b o _ e n=>u.free b o e n (by simp)) (fun b o _ e=>u.there b o e (by simp)) u.tups u.frzs u.tbls (fun m' hm=>by
  obtain⟨o',es',ep',ho',r'⟩:=hm
  rw[ho] at ho';cases ho'
  exact⟨_,es',ep',hL,r'⟩) hok I.bare
theorem Inv.call {g':Array GenState}{t':Nat}{d':Drawn}{ch:List Addr}(I:Inv X pins σ H s)(u:Un (frs X.stack) ch H H' s.heap h')(hok:HOk X.prog X.w H' h')(hg:AllBare g')
  (hch:∀ b∈ch,(b∈X.ex\/X.s₀.heap.objs.size<=b)/\b≠X.env.locals/\(∀ x c,X.env.cells.lookup x=some c->c≠b)/\∀ p∈X.pn++pins,p.1≠b) :
  Inv X pins σ H' { s with heap:=h',gens:=g',drawn:=d',toks:=t' }:=by
 obtain⟨m,⟨o,es,ep,ho,r⟩,_⟩:=id I.loc
 obtain⟨sl,hL⟩:=u.any ho I.free fun z=>(hch _ z).2.1 rfl
 exact I.step (ch:=ch) hch (fun b o hL hb hc e n=>u.keep b o e n (fun z=>(List.mem_cons.mp (I.stkSub b z)).elim hL hb) hc) (fun b o _ _ hc e n=>u.any e n hc) (fun b o hc e n=>u.free b o e n hc) (fun b o hc e=>u.there b o e hc) u.tups u.frzs u.tbls (fun m' hm=>by
  obtain⟨o',es',ep',ho',r'⟩:=hm
  rw[ho] at ho';cases ho'
  exact⟨_,es',ep',hL,r'⟩) hok hg
theorem Inv.turned {t':Nat}{it:Addr}(I:Inv X pins σ H s)(k:∀ b o,b≠it->s.heap.get? b=some o->h'.get? b=some o)(hn:H it=none)(hL:it≠X.env.locals)
  (h1:it∈X.ex\/X.s₀.heap.objs.size<=it) (h2:∀ x c,X.env.cells.lookup x=some c->c≠it) (h3:∀ p∈X.pn++pins,p.1≠it):Inv X pins σ H { s with heap:=h',toks:=t' }:=by
 have nit:∀ b u,H b=some u->b≠it:=fun b u e z=>by rw[z,hn] at e;cases e
 refine I.step (g':=s.gens) (d':=s.drawn) (ch:=[it]) (fun b hb=>?_) (fun b o _ _ hc e _=>k b o (fun z=>hc (by simp[z])) e) (fun b o _ _ hc e _=>⟨o.slots,k b o (fun z=>hc (by simp[z])) e⟩) (fun _ _ _ _ n=>n)
  (fun b o hc e=>⟨o,k b o (fun z=>hc (by simp[z])) e⟩) (fun _ _ e=>e) (fun _ _ _ e=>e) (fun b ps e=>⟨#[],by rw[e];simp⟩) (fun m hm=>?_) (fun b u e=>?_) I.bare
 . have e:b=it:=by simpa using hb
   subst e
   exact⟨h1,hL,h2,h3⟩
 . obtain⟨o,es,ep,ho,r⟩:=hm
   exact⟨o,es,ep,k _ o (Ne.symm hL) ho,r⟩
 refine(I.hok b u e).stay (fun c v hc q=>k c v ?_ q) (fun _ q=>q) fun _ _ q=>q
 rcases hc with z | z
 . rw[z];exact nit b u e
 exact nit c _ z
theorem Inv.tok (I:Inv X pins σ H s)(t:Nat):Inv X pins σ H { s with toks:=t }:=I.un (h':=s.heap) (t':=t) Un.refl I.hok
theorem Inv.kept {t':Nat}(I:Inv X pins σ H s)(k:∀ b u,s.heap.get? b=some u->h'.get? b=some u):Inv X pins σ H { s with heap:=h',toks:=t' }:=I.un (Un.kept k) (I.hok.kept k)
theorem Inv.laid {a:Addr}{o:HO}{t':Nat}(I:Inv X pins σ H s)(k:∀ b u,s.heap.get? b=some u->h'.get? b=some u)(hp:s.heap.objs.size<=a)(new:ObjOk X.prog X.w (upd H a o) h' a o) :
  Inv X pins σ (upd H a o) { s with heap:=h',toks:=t' }:=I.un (Un.laid k hp (I.hok.fresh hp)) (I.hok.laid k hp new)
theorem Inv.write {x e:Addr}{o:HO}{t':Nat}(I:Inv X pins σ H s)(mu:Mut (H x))(he:e=x\/H e=some (.own x))(k:∀ b u,b≠e->s.heap.get? b=some u->h'.get? b=some u)(heo:∃ u,h'.get? e=some u)
  (new:ObjOk X.prog X.w (upd H x o) h' x o):Inv X pins σ (upd H x o) { s with heap:=h',toks:=t' }:=I.un (Un.write mu he k heo) (I.hok.write mu he k heo new)
theorem Inv.weak {σ':List (Option V)}(I:Inv X pins σ H s)(hl:σ'.length=σ.length)(w:∀(i:Nat) v,σ'[i]? = some (some v)->σ[i]? = some (some v)):Inv X pins σ' H s:=
 ⟨I.ok,I.os,I.bare,I.base,let ⟨m,hn,hl'⟩:=I.loc;⟨m,hn,fun i x v e1 e2 e3=>hl' i x v e1 (w i v e2) e3⟩,I.cell,I.free,I.freeC,I.pin,I.hok,hl.trans I.len⟩
theorem Inv.pins_of {pins':List (Addr×Obj)}(I:Inv X pins σ H s)(h:∀ p∈pins',s.heap.get? p.1=some p.2/\H p.1=none/\p.1≠X.env.locals/\p.1∉X.fs/\∀ v,p.2.data ≠ .cell v):Inv X pins' σ H s:=
 ⟨I.ok,I.os,I.bare,I.base,I.loc,I.cell,I.free,I.freeC,fun p hp=>(List.mem_append.mp hp).elim (fun z=>I.pin p (List.mem_append_left _ z)) (h p),I.hok,I.len⟩
theorem K2 {N:List Str}(hN:N.Nodup){i j:Nat}{x:Str}(a:N[i]? = some x)(b:N[j]? = some x):i=j:=by
 obtain⟨h1,e1⟩:=List.getElem?_eq_some_iff.mp a
 obtain⟨h2,e2⟩:=List.getElem?_eq_some_iff.mp b
 exact(List.getElem_inj hN).mp (e1.trans e2.symm)
theorem Lw {M:Model}{A:Around}{E:Value->Shared->Prop}{i:Nat}{x:Str}{v:V}{u:Value}{Q:Unit->Shared->Prop}(I:Inv X pins σ H s)(hN:X.N.Nodup)(hi:X.N[i]? = some x)(hx:Loc X.env.scope x)(r:RelV v u)
  (h:∀ s',Inv X pins (σ.set i (some v)) H s'->(∃ a,Heap.SameBut a s.heap s'.heap/\(a=X.env.locals\/X.env.cells.lookup x=some a))->Q () s') (hf:X.fn x=true\/X.env.scope.names.lookup x=some .local:=by with_unfolding_all (first | exact .inl rfl | exact .inr rfl | assumption)):wpAny M A (storeName X.env x u) Q E s:=by
 obtain⟨m,hn,hl⟩:=id I.loc
 have hcls:(X.env.scope.kind == .class||(X.env.scope.kind == .module&&X.env.locals != X.env.globals))=false:=by rw[I.ok.kind];rfl
 have hiσ:i<σ.length:=by rw[I.len];exact(List.getElem?_eq_some_iff.mp hi).1
 have cne:=I.cne
 have tracked:∀ {a:Addr} {h':Heap},(∃ o,s.heap.get? a=some o/\H a=none)->Heap.SameBut a s.heap h'->HOk X.prog X.w H h':=fun {a h'} ha hs b ob e=>by
  obtain⟨_,_,hfree⟩:=ha
  refine(I.hok b ob e).stay (fun c w' hc q=>(hs.2 c ?_).trans q) (fun _ q=>q) fun _ _ q=>q
  rintro rfl
  rcases hc with rfl | hc
  . rw[hfree] at e;cases e
  rw[hfree] at hc;cases hc
 rcases hx with hk | hk
 . refine wpAny_storeName_local hk hn (fun h' hn' hs=>?_) hcls
   obtain⟨oL,_,_,hoL,_⟩:=id hn
   refine h _ ⟨I.ok,I.os,I.bare,⟨fun b o e n hb hx=>?_,fun b o e n hb hx=>?_,I.base.free,fun b o e hx=>?_,I.base.tups,I.base.frzs,I.base.tbls⟩,⟨_,hn',fun j y v' e1 e2 e3=>?_⟩,fun y c e=>?_,I.free,I.freeC,fun p hp=>?_,tracked ⟨oL,hoL,I.free⟩ hs,by simpa using I.len⟩ ⟨_,hs,.inl rfl⟩
   . exact(hs.2 b (Nat.ne_of_lt (Nat.lt_of_lt_of_le (Heap.lt_size e) I.ok.above))).trans (I.base.keep b o e n hb hx)
   . obtain⟨sl,e1⟩:=I.base.slot b o e n hb hx
     exact⟨sl,(hs.2 b (Nat.ne_of_lt (Nat.lt_of_lt_of_le (Heap.lt_size e) I.ok.above))).trans e1⟩
   . obtain⟨o',e1⟩:=I.base.there b o e hx
     exact⟨o',(hs.2 b (Nat.ne_of_lt (Nat.lt_of_lt_of_le (Heap.lt_size e) I.ok.above))).trans e1⟩
   . by_cases hj:j=i
     . subst hj
       rw[hi] at e1;cases e1
       rw[List.getElem?_set_self hiσ] at e2
       cases e2
       exact⟨u,r,.inl ⟨hk,by simp⟩⟩
     rw[List.getElem?_set_ne (Ne.symm hj)] at e2
     obtain⟨u',r',q⟩:=hl j y v' e1 e2 e3
     refine⟨u',r',?_⟩
     rcases q with ⟨k,e⟩ | ⟨k,c,e,z⟩
     . refine .inl ⟨k,?_⟩
       have:y≠x:=fun e=>hj (K2 hN e1 (e ▸ hi))
       simp[this,e]
     exact .inr ⟨k,c,e,z.sameBut hs (cne y c e)⟩
   . obtain⟨w',z⟩:=I.cell y c e
     exact⟨w',z.sameBut hs (cne y c e)⟩
   obtain⟨e,n,ne,nf,d⟩:=I.pin p hp
   exact⟨(hs.2 p.1 ne).trans e,n,ne,nf,d⟩
 have hfn:X.fn x=true:=by
  rcases hf with z | z
  . exact z
  rw[z] at hk;cases hk
 obtain⟨c,hc⟩:=I.ok.has x (.inl hk)
 obtain⟨w',z⟩:=I.cell x c hc
 refine wpAny_storeName_cell I.ok.kind hk hc z (fun h' hc' hs=>?_)
 obtain⟨oc,hoc,hocd⟩:=id z
 refine h { s with heap:=h' } ⟨I.ok,I.os,I.bare,⟨fun b o e n hb hx=>?_,fun b o e n hb hx=>?_,I.base.free,fun b o e hx=>?_,I.base.tups,I.base.frzs,I.base.tbls⟩,⟨m,hn.sameBut hs (Ne.symm (cne x c hc)),fun j y v' e1 e2 e3=>?_⟩,fun y c' e=>?_,I.free,I.freeC,fun p hp=>?_,tracked ⟨oc,hoc,I.freeC x c hc⟩ hs,by simpa using I.len⟩ ⟨c,hs,.inr hc⟩
 . exact(hs.2 b (Nat.ne_of_lt (Nat.lt_of_lt_of_le (Heap.lt_size e) (I.ok.cab x c hfn hc)))).trans (I.base.keep b o e n hb hx)
 . obtain⟨sl,e1⟩:=I.base.slot b o e n hb hx
   exact⟨sl,(hs.2 b (Nat.ne_of_lt (Nat.lt_of_lt_of_le (Heap.lt_size e) (I.ok.cab x c hfn hc)))).trans e1⟩
 . obtain⟨o',e1⟩:=I.base.there b o e hx
   exact⟨o',(hs.2 b (Nat.ne_of_lt (Nat.lt_of_lt_of_le (Heap.lt_size e) (I.ok.cab x c hfn hc)))).trans e1⟩
 . by_cases hj:j=i
   . subst hj
     rw[hi] at e1;cases e1
     rw[List.getElem?_set_self hiσ] at e2
     cases e2
     exact⟨u,r,.inr ⟨.inl hk,c,hc,hc'⟩⟩
   rw[List.getElem?_set_ne (Ne.symm hj)] at e2
   obtain⟨u',r',q⟩:=hl j y v' e1 e2 e3
   refine⟨u',r',?_⟩
   rcases q with q | ⟨k,c',e,z'⟩
   . exact .inl q
   refine .inr ⟨k,c',e,z'.sameBut hs ?_⟩
   rintro rfl
   exact hj (K2 hN e1 (I.ok.inj _ _ _ e hc ▸ hi))
 . by_cases hcc:c'=c
   . subst hcc;exact⟨_,hc'⟩
   obtain⟨w2,z2⟩:=I.cell y c' e
   exact⟨w2,z2.sameBut hs hcc⟩
 obtain⟨e,n,ne,nf,d⟩:=I.pin p hp
 refine⟨(hs.2 p.1 ?_).trans e,n,ne,nf,d⟩
 intro q
 rw[q,hoc] at e
 have q':oc=p.2:=Option.some.inj e
 exact d w' (by rw[<- q'];exact hocd)
theorem Hb {M:Model}{A:Around}{E:Value->Shared->Prop}{i:Nat}{x:Str}{v:V}{u:Value}{Q:Unit->Shared->Prop}(I:Inv X pins σ H s)(hN:X.N.Nodup)(hi:X.N[i]? = some x)(hx:Loc X.env.scope x)(r:RelV v u)
  (h:∀ s',Inv X pins (σ.set i (some v)) H s'->Q () s') (hf:X.fn x=true\/X.env.scope.names.lookup x=some .local:=by with_unfolding_all (first | exact .inl rfl | exact .inr rfl | assumption)):wpAny M A (storeName X.env x u) Q E s:=
 Lw I hN hi hx r (fun s' I' _=>h s' I') hf
theorem Inv.call' {s':Shared}{ch:List Addr}(I:Inv X pins σ H s)(ho:s'.os=s.os)(u:Un (frs X.stack) ch H H' s.heap s'.heap)(hok:HOk X.prog X.w H' s'.heap)(hg:AllBare s'.gens)
  (hch:∀ b∈ch,(b∈X.ex\/X.s₀.heap.objs.size<=b)/\b≠X.env.locals/\(∀ x c,X.env.cells.lookup x=some c->c≠b)/\∀ p∈X.pn++pins,p.1≠b):Inv X pins σ H' s':=by
 obtain⟨h',g',d',t',o'⟩:=s'
 have e:o'=s.os:=ho
 subst e
 exact I.call (g':=g') (t':=t') (d':=d') u hok hg hch
end
abbrev XK:=Value->Option Addr->Hp->Prop
abbrev St:=List (Option V)
abbrev VK:=V->Hp->Prop
abbrev TE:=St->Hp->VK->Prop
abbrev TT:=St->Hp->(Bool->Hp->Prop)->Prop
abbrev TA:=St->Hp->(List V->Hp->Prop)->Prop
structure Ends where
 nx:St->Hp->Prop
 rt:VK
 bk:St->Hp->Prop:=fun _ _=>False
 ct:St->Hp->Prop:=fun _ _=>False
abbrev TS:=Ends->St->Hp->Prop
def EP (X:Cx)(pins:List (Addr×Obj))(σ:St)(Q:VK)(u:Value)(s':Shared):Prop:=∃ v H',Inv X pins σ H' s'/\RelV v u/\Q v H'
def TP (X:Cx)(pins:List (Addr×Obj))(σ:St)(Q:Bool->Hp->Prop)(b:Bool)(s':Shared):Prop:=∃ H',Inv X pins σ H' s'/\Q b H'
def AP (X:Cx)(pins:List (Addr×Obj))(σ:St)(Q:List V->Hp->Prop)(us:List Value)(s':Shared):Prop:=∃ vs H',Inv X pins σ H' s'/\Vals vs us/\Q vs H'
def SP (X:Cx)(pins:List (Addr×Obj))(D:Ends)(f:Flow)(s':Shared):Prop:=
 match f with
 | .next=>∃ σ' H',Inv X pins σ' H' s'/\D.nx σ' H'
 | .brk=>∃ σ' H',Inv X pins σ' H' s'/\D.bk σ' H'
 | .cont=>∃ σ' H',Inv X pins σ' H' s'/\D.ct σ' H'
 | .ret u=>∃ v σ' H',Inv X pins σ' H' s'/\RelV v u/\D.rt v H'
def PE (X:Cx)(e:Expr)(t:TE):Prop:=
 ∀(pins:List (Addr×Obj)) (s:Shared) (σ:St) (H:Hp) (Q:VK),Inv X pins σ H s->t σ H Q->wpAny (model X.prog X.w) X.A (eval e X.env) (EP X pins σ Q) X.xe s
def PT (X:Cx)(e:Expr)(t:TT):Prop:=
 ∀(pins:List (Addr×Obj)) (s:Shared) (σ:St) (H:Hp) (Q:Bool->Hp->Prop),Inv X pins σ H s->t σ H Q->wpAny (model X.prog X.w) X.A (isTrue e X.env (eval e X.env)) (TP X pins σ Q) X.xe s
def PW (X:Cx)(e:Expr)(t:TT):Prop:=
 ∀(whole:Sem Value) (pins:List (Addr×Obj)) (s:Shared) (σ:St) (H:Hp) (Q:Bool->Hp->Prop),Inv X pins σ H s->t σ H Q->wpAny (model X.prog X.w) X.A (isTrue e X.env whole) (TP X pins σ Q) X.xe s
theorem PW.pt {X:Cx}{e:Expr}{t:TT}(h:PW X e t):PT X e t:=h _
def PA (X:Cx)(es:List Expr)(t:TA):Prop:=
 ∀(pos:Pos) (pins:List (Addr×Obj)) (s:Shared) (σ:St) (H:Hp) (Q:List V->Hp->Prop),Inv X pins σ H s->t σ H Q->wpAny (model X.prog X.w) X.A (spliced (backTo pos (starEach es X.env))) (AP X pins σ Q) X.xe s
def PS (X:Cx)(st:Stmt)(t:TS):Prop:=
 ∀(pins:List (Addr×Obj)) (s:Shared) (σ:St) (H:Hp) (D:Ends),Inv X pins σ H s->t D σ H->wpAny (model X.prog X.w) X.A (exec st X.env) (SP X pins D) X.xe s
def PSs (X:Cx)(st:List Stmt)(t:TS):Prop:=
 ∀(pins:List (Addr×Obj)) (s:Shared) (σ:St) (H:Hp) (D:Ends),Inv X pins σ H s->t D σ H->wpAny (model X.prog X.w) X.A (execs st X.env) (SP X pins D) X.xe s
theorem thn {α:Type}{t:Sem α}{Q Q':α->Shared->Prop}{M:Model}{A:Around}{E:Value->Shared->Prop}{s:Shared}(h:wpAny M A t Q E s)(hQ:∀ a s,Q a s->Q' a s):wpAny M A t Q' E s:=wpAny_mono h hQ fun _ _ x=>x
section
variable {X:Cx}
def ab0 (i:Nat):TE:=fun σ H Q=>∃ v,σ[i]? = some (some v)/\Q v H
def tC (v:V):TE:=fun _ H Q=>Q v H
theorem Z6 {i:Nat}{x:Str}{pos:Pos}(hN:X.N[i]? = some x)(hv:Vis X.env.scope x)(hd:(x==("__debug__":Str))=false:=by decide)(hcd:(x==("__classdict__":Str))=false:=by decide):PE X (.Name x pos) (ab0 i):=by
 intro pins s σ H Q I h
 obtain⟨v,e,h⟩:=h
 obtain⟨m,hn,hl⟩:=I.loc
 obtain⟨u,r,l⟩:=hl i x v hN e hv
 have fin:EP X pins σ Q u s:=⟨v,H,I,r,h⟩
 rcases l with ⟨hk,hm⟩ | ⟨hk,c,hc,hcell⟩
 . exact wpAny_Name (wpAny_loadName_local I.ok.kind hk hn hm fin) hd
 rcases hk with hk | hk
 . exact wpAny_Name (wpAny_loadName_cell I.ok.kind hk hc hcell fin) hd
 exact wpAny_Name (wpAny_loadName_free I.ok.kind hk hc hcell fin hcd) hd
theorem A3 {i j pos}:PE X (.Constant (.int i) j pos) (tC (.int i)):=fun _ _ _ H _ I h=>wpAny_Constant_int ⟨.int i,H,I.tok _,⟨_,rfl⟩,h⟩
theorem Ey {b j pos}:PE X (.Constant (.bool b) j pos) (tC (.bl b)):=fun _ _ _ H _ I h=>Constant_bool ⟨.bl b,H,I,rfl,h⟩
theorem Te {j pos}:PE X (.Constant .none j pos) (tC .non):=fun _ _ _ H _ I h=>Constant_none ⟨.non,H,I,rfl,h⟩
theorem Al {x j pos}:PE X (.Constant (.str x) j pos) (tC (.str x)):=fun _ _ _ H _ I h=>Calls.Constant_str ⟨.str x,H,I.tok _,⟨_,rfl⟩,h⟩
def Gl (X:Cx)(x:Str):Prop:=X.env.kindOf x=some .globalImplicit
theorem Kk {E:Value->Shared->Prop}{pins:List (Addr×Obj)}{s:Shared}{σ:St}{H:Hp}{x:Str}{u:Value}{pos:Pos}{Q:Value->Shared->Prop}(I:Inv X pins σ H s)(hg:Gl X x)(hm:X.mg x=some u)(h:Q u s)
  (hd:(x==("__debug__":Str))=false:=by decide):wpAny (model X.prog X.w) X.A (eval (.Name x pos) X.env) Q E s:=
 Calls.Name_function_global I.ok.kind hg (Calls.loadGlobal_global (by rw[I.ok.glob];exact I.mod.glob.keeps I.bk) hm h) hd
theorem Ju {E:Value->Shared->Prop}{pins:List (Addr×Obj)}{s:Shared}{σ:St}{H:Hp}{x:Str}{u:Value}{pos:Pos}{Q:Value->Shared->Prop}(I:Inv X pins σ H s)(hg:Gl X x)(hm:X.mg x=none)(hv:bootBuiltins x=some u)(h:Q u s)
  (hn:x ≠ "__name__":=by decide) (hd:(x==("__debug__":Str))=false:=by decide):wpAny (model X.prog X.w) X.A (eval (.Name x pos) X.env) Q E s:=by
 obtain⟨mb,h1,h2⟩:=I.mod.blt
 exact Calls.Name_function_global I.ok.kind hg (Calls.loadGlobal_builtin (by rw[I.ok.glob];exact I.mod.glob.keeps I.bk) hm (by rw[I.ok.blt];exact h1.keeps I.bk) ((h2 x hn).trans hv) h) hd
theorem X7 {x:Str}{v:V}{u:Value}{pos:Pos}(hg:Gl X x)(hm:X.mg x=some u)(r:RelV v u)(hd:(x==("__debug__":Str))=false:=by decide):PE X (.Name x pos) (tC v):=
 fun _ _ _ H _ I h=>Kk I hg hm ⟨v,H,I,r,h⟩ hd
theorem Dh {x:Str}{v:V}{u:Value}{pos:Pos}(hg:Gl X x)(hm:X.mg x=none)(hv:bootBuiltins x=some u)(r:RelV v u)(hn:x ≠ "__name__":=by decide)(hd:(x==("__debug__":Str))=false:=by decide):PE X (.Name x pos) (tC v):=
 fun _ _ _ H _ I h=>Ju I hg hm hv ⟨v,H,I,r,h⟩ hn hd
variable {a b:Expr}{ta tb:TE}{pos:Pos}
def tB (t:TE):TT:=fun σ H Q=>t σ H fun x H1=>∃ c,x = .bl c/\Q c H1
theorem Cu {e:Expr}{t:TE}(h:PE X e t)(he:∀ whole,isTrue e X.env whole=(do let v <- whole;standAt e.pos;holding [v] (truthy v)):=by intro _;ac_nf):PT X e (tB t):=by
 intro pins s σ H Q I hw
 refine isTrue_plain (thn (h pins s σ H _ I hw) fun v s1 ⟨x,H1,I1,r1,q1⟩=>?_) (he _)
 obtain⟨d,rfl,q⟩:=q1
 cases r1
 exact wpAny_truthy_bool ⟨H1,I1,q⟩
variable {tA tB':TT}{Mo:List Expr}
def ae0 (t u:TT):TT:=fun σ H Q=>t σ H fun c H1=>if c=true then u σ H1 Q else Q false H1
def tOr (t u:TT):TT:=fun σ H Q=>t σ H fun c H1=>if c=true then Q true H1 else u σ H1 Q
def ac4 (t:TT):TT:=fun σ H Q=>t σ H fun c H1=>Q (!c) H1
theorem L0 (ha:PT X a tA):PW X (.BoolOp .And [a] pos) tA:=by
 intro wh pins s σ H Q I h
 refine isTrue_and (thn (ha pins s σ H Q I h) fun c s1 e=>?_)
 cases c with
 | true=>exact isTrue_and_nil e
 | false=>exact e
theorem Iq (ha:PT X a tA):PW X (.BoolOp .Or [a] pos) tA:=by
 intro wh pins s σ H Q I h
 refine isTrue_or (thn (ha pins s σ H Q I h) fun c s1 e=>?_)
 cases c with
 | false=>exact isTrue_or_nil e
 | true=>exact e
theorem Lq (ha:PT X a tA)(hb:PW X (.BoolOp .And (b :: Mo) pos) tB'):PW X (.BoolOp .And (a :: b :: Mo) pos) (ae0 tA tB'):=by
 intro wh pins s σ H Q I h
 refine isTrue_and (thn (ha pins s σ H _ I h) fun c s1 ⟨H1,I1,q1⟩=>?_)
 cases c with
 | true=>exact hb wh pins s1 σ H1 Q I1 q1
 | false=>exact⟨H1,I1,q1⟩
theorem K3 (ha:PT X a tA)(hb:PW X (.BoolOp .Or (b :: Mo) pos) tB'):PW X (.BoolOp .Or (a :: b :: Mo) pos) (tOr tA tB'):=by
 intro wh pins s σ H Q I h
 refine isTrue_or (thn (ha pins s σ H _ I h) fun c s1 ⟨H1,I1,q1⟩=>?_)
 cases c with
 | true=>exact⟨H1,I1,q1⟩
 | false=>exact hb wh pins s1 σ H1 Q I1 q1
theorem Eb (ha:PT X a tA):PT X (.UnaryOp .Not a pos) (ac4 tA):=by
 intro pins s σ H Q I h
 exact isTrue_not (ha pins s σ H (fun c H1=>Q (!c) H1) I h)
def Zk (ta tb:TE):TE:=fun σ H Q=>ta σ H fun x H1=>∃ c,x = .bl c/\if c=true then tb σ H1 Q else Q (.bl false) H1
def a00 (ta:TE):TE:=fun σ H Q=>ta σ H fun x H1=>∃ c,x = .bl c/\Q (.bl (!c)) H1
theorem Qq {op}{t:TE}(h:PE X a t):PE X (.BoolOp op [a] pos) t:=fun pins s σ H Q I hw=>BoolOp_one (h pins s σ H Q I hw)
theorem R5 (ha:PE X a ta)(hb:PE X (.BoolOp .And (b :: Mo) pos) tb):PE X (.BoolOp .And (a :: b :: Mo) pos) (Zk ta tb):=by
 intro pins s σ H Q I h
 refine BoolOp_and (thn (ha pins s σ H _ I h) fun v s1 ⟨x,H1,I1,r1,q1⟩=>?_)
 obtain⟨c,rfl,q1⟩:=q1
 cases r1
 refine wpAny_truthy_bool ?_
 cases c with
 | true=>exact hb pins s1 σ H1 Q I1 q1
 | false=>exact⟨.bl false,H1,I1,rfl,q1⟩
theorem Vz (ha:PE X a ta):PE X (.UnaryOp .Not a pos) (a00 ta):=by
 intro pins s σ H Q I h
 refine UnaryOp_ (thn (ha pins s σ H _ I h) fun v s1 ⟨x,H1,I1,r1,q1⟩=>?_)
 obtain⟨c,rfl,q1⟩:=q1
 cases r1
 exact not_of (wpAny_truthy_bool ⟨.bl (!c),H1,I1,rfl,q1⟩)
end
def SqL (K:PySem.W.Frag)(H:Hp)(a:Addr)(xs:List V):Prop:=
 Rd H a (.lst xs) \/
  ∃(o:Obj) (its:Array Value) (n:Nat),K.lookup a=some o/\o.cls = .type "list" /\ o.dict=none/\o.data = .seq its n/\its.size<=sizeLine/\Vals xs its.toList
def SqT (K:PySem.W.Frag)(H:Hp)(a:Addr)(xs:List V):Prop:=
 Rd H a (.tup xs) \/
  ∃(o:Obj) (its:Array Value) (n:Nat),K.lookup a=some o/\o.cls = .type "tuple" /\ o.data = .seq its n/\its.size<=sizeLine/\Vals xs its.toList/\o.dict=none
def absV:Value->Option V
 | .none=>some .non
 | .bool b=>some (.bl b)
 | .int i _=>some (.int i)
 | .str x _=>some (.str x)
 | .bytes b _=>some (.byt b)
 | .float b _=>some (.flt b)
 | .ref a=>some (.ref a)
 | .type n=>some (.ty n)
 | _=>none
theorem RelV.abs {x:V}{u:Value}(r:RelV x u):absV u=some x:=by
 cases x with
 | non=>cases r;rfl
 | bl _=>cases r;rfl
 | int _=>obtain⟨t,rfl⟩:=r;rfl
 | str _=>obtain⟨t,rfl⟩:=r;rfl
 | byt _=>obtain⟨t,rfl⟩:=r;rfl
 | flt _=>obtain⟨t,rfl⟩:=r;rfl
 | ref _=>cases r;rfl
 | ty _=>cases r;rfl
theorem RelV.inj {x y:V}{u:Value}(r:RelV x u)(q:RelV y u):x=y:=Option.some.inj (r.abs.symm.trans q.abs)
theorem Vals.inj:∀ {xs ys:List V} {us:List Value},Vals xs us->Vals ys us->xs=ys
 | _,_,_,.nil,.nil=>rfl
 | _,_,_,.cons r t,.cons r' t'=>by rw[r.inj r',Vals.inj t t']
section
variable {X:Cx}{pins:List (Addr×Obj)}{σ:St}{H:Hp}{s:Shared}{a:Addr}{xs ys:List V}
theorem SqL.of {K:PySem.W.Frag}(h:H a=some (.lst xs)):SqL K H a xs:=.inl (.inl h)
theorem SqT.of {K:PySem.W.Frag}(h:H a=some (.tup xs)):SqT K H a xs:=.inl (.inl h)
theorem Inv.list (I:Inv X pins σ H s)(h:SqL X.K H a xs):∃ its:List Value,Vals xs its/\PlainL s.heap a its.toArray/\xs.length<=sizeLine:=by
 rcases h with h | ⟨o,its,n,hk,hc,hd,hs,hz,r⟩
 . obtain⟨z,its,n,r,e⟩:=h.ok I.hok
   exact⟨its,r,⟨_,n,e,rfl,rfl,rfl⟩,z⟩
 refine⟨its.toList,r,⟨o,n,I.kIn a o hk,hc,hd,by simpa using hs⟩,?_⟩
 have e:=r.length
 simp only[Array.length_toList] at e
 omega
theorem Inv.tuple (I:Inv X pins σ H s)(h:SqT X.K H a xs):∃ its:List Value,Vals xs its/\IsTup s.heap a its.toArray/\xs.length<=sizeLine:=by
 rcases h with h | ⟨o,its,n,hk,hc,hs,hz,r,hn⟩
 . obtain⟨z,its,r,p⟩:=h.ok I.hok
   exact⟨its,r,p.tup,z⟩
 refine⟨its.toList,r,⟨o,I.kIn a o hk,hc,n,by simpa using hs⟩,?_⟩
 have e:=r.length
 simp only[Array.length_toList] at e
 omega
theorem Inv.tupleN (I:Inv X pins σ H s)(h:SqT X.K H a xs):∃ ob,s.heap.get? a=some ob/\ob.dict=none:=by
 rcases h with h | ⟨o,its,n,hk,hc,hs,hz,r,hn⟩
 . obtain⟨z,its,r,o,h1,_,_,h2⟩:=h.ok I.hok
   exact⟨o,h1,h2⟩
 exact⟨o,I.kIn a o hk,hn⟩
theorem Inv.list_inj (I:Inv X pins σ H s)(h:SqL X.K H a xs)(h':SqL X.K H a ys):xs=ys:=by
 obtain⟨its,r,⟨o,n,e,_,_,d⟩,_⟩:=I.list h
 obtain⟨its',r',⟨o',n',e',_,_,d'⟩,_⟩:=I.list h'
 rw[e] at e';cases e'
 rw[d] at d'
 injection d' with d1 _
 have:its=its':=by simpa using congrArg Array.toList d1
 subst this
 exact r.inj r'
theorem Inv.tuple_inj (I:Inv X pins σ H s)(h:SqT X.K H a xs)(h':SqT X.K H a ys):xs=ys:=by
 obtain⟨its,r,⟨o,e,_,n,d⟩,_⟩:=I.tuple h
 obtain⟨its',r',⟨o',e',_,n',d'⟩,_⟩:=I.tuple h'
 rw[e] at e';cases e'
 rw[d] at d'
 injection d' with d1 _
 have:its=its':=by simpa using congrArg Array.toList d1
 subst this
 exact r.inj r'
end
abbrev Cx.wish (X:Cx)(E:Value->Shared->Prop):Cx:={ X with xe:=E }
abbrev Cx.nox (X:Cx):Cx:=X.wish fun _ _=>False
theorem Cx.Ok.wish {X:Cx}(ok:X.Ok)(E:Value->Shared->Prop):(X.wish E).Ok:=
 ⟨ok.mod,ok.kind,ok.glob,ok.blt,ok.above,ok.inj,ok.has,ok.cab,ok.hd,ok.frames,ok.stk,ok.exf,ok.bs,ok.bsz,ok.noex,ok.exfs,ok.funs,ok.frf⟩
theorem Cx.Ok.unwish {X:Cx}{E:Value->Shared->Prop}(ok:(X.wish E).Ok):X.Ok:=
 ⟨ok.mod,ok.kind,ok.glob,ok.blt,ok.above,ok.inj,ok.has,ok.cab,ok.hd,ok.frames,ok.stk,ok.exf,ok.bs,ok.bsz,ok.noex,ok.exfs,ok.funs,ok.frf⟩
section
variable {X:Cx}{pins:List (Addr×Obj)}{σ:St}{H:Hp}{s:Shared}{E:Value->Shared->Prop}
theorem Inv.wish (I:Inv X pins σ H s)(E:Value->Shared->Prop):Inv (X.wish E) pins σ H s:=⟨I.ok.wish E,I.os,I.bare,I.base,I.loc,I.cell,I.free,I.freeC,I.pin,I.hok,I.len⟩
theorem Inv.unwish (I:Inv (X.wish E) pins σ H s):Inv X pins σ H s:=⟨I.ok.unwish,I.os,I.bare,I.base,I.loc,I.cell,I.free,I.freeC,I.pin,I.hok,I.len⟩
theorem SP.unwish {D:Ends}{f:Flow}{s':Shared}(h:SP (X.wish E) pins D f s'):SP X pins D f s':=by
 cases f with
 | next=>obtain⟨σ',H',I,q⟩:=h;exact⟨σ',H',I.unwish,q⟩
 | brk=>obtain⟨σ',H',I,q⟩:=h;exact⟨σ',H',I.unwish,q⟩
 | cont=>obtain⟨σ',H',I,q⟩:=h;exact⟨σ',H',I.unwish,q⟩
 | ret u=>obtain⟨v,σ',H',I,r,q⟩:=h;exact⟨v,σ',H',I.unwish,r,q⟩
theorem PSs.nox {st:List Stmt}{t:TS}(h:PSs X.nox st t):PSs X st t:=fun pins s σ H D I hw=>
 wpAny_mono (h pins s σ H D (I.wish _) hw) (fun _ _ q=>q.unwish) fun _ _ z=>False.elim z
end
section
variable {X:Cx}{st:Stmt}{Mo:List Stmt}{t u:TS}{e:Expr}{te:TE}{pos:Pos}
def Zu:TS:=fun D σ H=>D.nx σ H
def a86 (t u:TS):TS:=fun D σ H=>t { D with nx:=u D } σ H
theorem An:PSs X [] Zu:=fun _ _ σ H _ I h=>wpAny_execs_nil ⟨σ,H,I,h⟩
theorem A2 (h1:PS X st t) (h2:PSs X Mo u):PSs X (st :: Mo) (a86 t u):=by
 intro pins s σ H D I h
 refine wpAny_execs_cons (thn (h1 pins s σ H { D with nx:=u D } I h) fun f s1 q=>?_)
 cases f with
 | next=>
   obtain⟨σ',H',I',q⟩:=q
   exact h2 pins s1 σ' H' D I' q
 | ret v=>exact q
 | brk=>exact q
 | cont=>exact q
theorem A5 (h1:PS X st t):PSs X [st] t:=by
 intro pins s σ H D I h
 refine wpAny_execs_cons (thn (h1 pins s σ H D I h) fun f s1 q=>?_)
 cases f with
 | next=>exact wpAny_execs_nil q
 | ret v=>exact q
 | brk=>exact q
 | cont=>exact q
theorem Inv.quiet {pins:List (Addr×Obj)}{σ:St}{H:Hp}{s:Shared}(I:Inv X pins σ H s):interactive X.env=false:=by simp[interactive,I.ok.kind]
def a05 (te:TE):TS:=fun D σ H=>te σ H fun _ H1=>D.nx σ H1
theorem C6 (he:PE X e te)(hs:swapsWith e none pos.line X.env=pure false:=by ac_nf):PS X (.Expr e pos) (a05 te):=by
 intro pins s σ H D I h
 exact wpAny_Expr_any (thn (he pins s σ H _ I h) fun v s1 ⟨x,H1,I1,r1,q1⟩=>⟨σ,H1,I1,q1⟩) I.quiet hs
def ac2 (te:TE):TS:=fun D σ H=>te σ H D.rt
theorem Am (he:PE X e te):PS X (.Return (some e) pos) (ac2 te):=by
 intro pins s σ H D I h
 exact wpAny_Return_some (thn (he pins s σ H _ I h) fun v s1 ⟨x,H1,I1,r1,q1⟩=>⟨x,σ,H1,I1,r1,q1⟩)
def ad3 (c:TT)(t u:TS):TS:=fun D σ H=>c σ H fun b H1=>if b=true then t D σ H1 else u D σ H1
theorem C1 {c:Expr}{a b:List Stmt}{tc:TT}(hc:PT X c tc)(ha:PSs X a t)(hb:PSs X b u):PS X (.If c a b pos) (ad3 tc t u):=by
 intro pins s σ H D I h
 refine wpAny_If (thn (hc pins s σ H _ I h) fun d s1 ⟨H1,I1,q1⟩=>?_)
 cases d with
 | true=>exact ha pins s1 σ H1 D I1 q1
 | false=>exact hb pins s1 σ H1 D I1 q1
def a44:TS:=fun _ _ _=>False
theorem Tp:PS X st a44:=fun _ _ _ _ _ _ h=>h.elim
end
abbrev TG:=V->St->Hp->(St->Hp->Prop)->Prop
abbrev TGs:=List V->St->Hp->(St->Hp->Prop)->Prop
def PG (X:Cx)(target:Expr)(t:TG):Prop:=
 ∀(pins:List (Addr×Obj)) (s:Shared) (σ:St) (H:Hp) (v:V) (u:Value) (Q:St->Hp->Prop),Inv X pins σ H s->RelV v u->t v σ H Q ->
  wpAny (model X.prog X.w) X.A (assign target X.env u) (fun _ s'=>∃ σ' H',Inv X pins σ' H' s'/\Q σ' H') X.xe s
def PGs (X:Cx)(ts:List Expr)(t:TGs):Prop:=
 ∀(pins:List (Addr×Obj)) (s:Shared) (σ:St) (H:Hp) (vs:List V) (us:List Value) (Q:St->Hp->Prop),Inv X pins σ H s->Vals vs us->t vs σ H Q ->
  wpAny (model X.prog X.w) X.A (assignInOrder ((assignEach ts X.env).map (·.2)) us) (fun _ s'=>∃ σ' H',Inv X pins σ' H' s'/\Q σ' H') X.xe s
abbrev a87:=V->V->V->Hp->(Hp->Prop)->Prop
def ac1 (X:Cx)(t:a87):Prop:=
 ∀(pins:List (Addr×Obj)) (s:Shared) (σ:St) (H:Hp) (o i v:V) (ov iv u:Value) (Q:Hp->Prop),Inv X pins σ H s->RelV o ov->RelV i iv->RelV v u->t o i v H Q ->
  wpAny (model X.prog X.w) X.A (setItem ov iv u) (fun _ s'=>∃ H',Inv X pins σ H' s'/\Q H') X.xe s
section
variable {X:Cx}{pos:Pos}
def Hk (i:Nat):TG:=fun v σ H Q=>Q (σ.set i (some v)) H
theorem Ab {i:Nat}{x:Str}(hN:X.N.Nodup)(hi:X.N[i]? = some x)(hx:Loc X.env.scope x)(hf:X.fn x=true\/X.env.scope.names.lookup x=some .local:=by with_unfolding_all (first | exact .inl rfl | exact .inr rfl | assumption)):PG X (.Name x pos) (Hk i):=by
 intro pins s σ H v u Q I r h
 exact wpAny_assign_Name (Hb I hN hi hx r (fun s' I'=>⟨_,H,I',h⟩) hf)
def a84:TGs:=fun vs σ H Q=>vs=[]/\Q σ H
def Py (t:TG)(u:TGs):TGs:=fun vs σ H Q=>∃ v r,vs=v :: r/\t v σ H fun σ' H'=>u r σ' H' Q
theorem Rw:PGs X [] a84:=by
 intro pins s σ H vs us Q I r h
 obtain⟨e,h⟩:=h
 subst e
 cases r
 exact assignInOrder_nil ⟨σ,H,I,h⟩
theorem Hc {e:Expr}{es:List Expr}{t:TG}{u:TGs}(h1:PG X e t)(h2:PGs X es u)
  (hs:(assignEach (e :: es) X.env).map (·.2)=assign e X.env :: (assignEach es X.env).map (·.2):=by ac_nf):PGs X (e :: es) (Py t u):=by
 intro pins s σ H vs us Q I r h
 obtain⟨v,vr,e1,h⟩:=h
 subst e1
 cases r with
 | cons r rr=>
   rw[hs]
   refine assignInOrder_cons (thn (h1 pins s σ H _ _ _ I r h) fun _ s1 ⟨σ1,H1,I1,q1⟩=>?_)
   exact h2 pins s1 σ1 H1 _ _ Q I1 rr q1
def Zc (K:PySem.W.Frag)(n:Nat)(t:TGs):TG:=fun v σ H Q=>∃ a xs,v = .ref a/\SqT K H a xs/\xs.length=n/\t xs σ H Q
theorem a63 {es:List Expr}{k:Nat}{t:TGs}{n:Nat}(hc:X.calm=true)(h:PGs X es t)
  (hn:(assignEach es X.env).length=n:=by ac_nf) (hst:(assignEach es X.env).findIdx? (·.1)=none:=by ac_nf):PG X (.Tuple es k pos) (Zc X.K n t):=by
 intro pins s σ H v u Q I r hw
 obtain⟨a,xs,e1,hq,hl,hw⟩:=hw
 subst e1
 cases r
 obtain⟨its,rv,ht,hz⟩:=I.tuple hq
 refine assign_Tuple_tuple (I.ok.hd hc) ht (by simp[hn,<- hl,rv.length]) hst fun h' hx=>?_
 have I1:Inv X pins σ H { s with heap:=h' }:=I.kept (t':=s.toks) fun b o e=>hx b o (Nat.ne_of_lt (Heap.lt_size e)) e
 exact h pins _ σ H xs _ Q I1 (by simpa using rv) hw
def ad0 (to ti:TE)(t:a87):TG:=fun v σ H Q=>to σ H fun o H1=>ti σ H1 fun i H2=>t o i v H2 fun H3=>Q σ H3
theorem Zg {o i:Expr}{to ti:TE}{t:a87}(ho:PE X o to)(hi:PE X i ti)(hs:ac1 X t)
  (ha:∀ v,assign (.Subscript o i pos) X.env v=(do
   let ov <- holding [v] (eval o X.env)
   let iv <- holding [v,ov] (eval i X.env)
   standAt pos
   holding [v,ov,iv] (setItem ov iv v)
   release [v,ov,iv] []):=by intro _;ac_nf):PG X (.Subscript o i pos) (ad0 to ti t):=by
 intro pins s σ H v u Q I r h
 rw[ha]
 refine wpAny_bind (wpAny_holding (thn (ho pins s σ H _ I h) fun ov s1 ⟨x,H1,I1,r1,q1⟩=>?_))
 refine wpAny_bind (wpAny_holding (thn (hi pins s1 σ H1 _ I1 q1) fun iv s2 ⟨y,H2,I2,r2,q2⟩=>?_))
 refine wpAny_bind (wpAny_standAt (wpAny_bind (wpAny_holding (thn (hs pins s2 σ H2 x y v ov iv u _ I2 r1 r2 r q2) fun _ s3 ⟨H3,I3,q3⟩=>?_))))
 exact wpAny_release ⟨σ,H3,I3,q3⟩
def Ye (te:TE)(g:TG):TS:=fun D σ H=>te σ H fun x H1=>g x σ H1 D.nx
theorem Ys {tg e:Expr}{te:TE}{g:TG}(he:PE X e te)(hg:PG X tg g)(hs:swapsWithSole [tg] e pos.line X.env=pure false:=by ac_nf)(hw:swappedStores [tg] e X.env=pure none:=by ac_nf)
  (h1:(assignEach [tg] X.env).map (·.2)=[assign tg X.env]:=by ac_nf):PS X (.Assign [tg] e pos) (Ye te g):=by
 intro pins s σ H D I h
 refine wpAny_Assign_stores (thn (he pins s σ H _ I h) fun v s1 ⟨x,H1,I1,r1,q1⟩=>?_) hs hw
 rw[h1]
 exact thn (hg pins s1 σ H1 x v _ I1 r1 q1) fun _ s2 q=>q
theorem Aa {i:Nat}{x:Str}{e:Expr}{te:TE}{pos':Pos}(hN:X.N.Nodup)(hi:X.N[i]? = some x)(hx:Loc X.env.scope x)(he:PE X e te)(hs:swapsWith e (some (.Name x pos')) pos.line X.env=pure false:=by ac_nf)(hf:X.fn x=true\/X.env.scope.names.lookup x=some .local:=by with_unfolding_all (first | exact .inl rfl | exact .inr rfl | assumption)) :
  PS X (.Assign [.Name x pos'] e pos) (Ye te (Hk i)):=by
 intro pins s σ H D I h
 refine wpAny_Assign_Name (thn (he pins s σ H _ I h) fun v s1 ⟨y,H1,I1,r1,q1⟩=>?_) hs
 exact Hb I1 hN hi hx r1 (fun s2 I2=>⟨_,H1,I2,q1⟩) hf
end
section
variable {X:Cx}{pos:Pos}
def Vr (c:TT)(tb:TS):TS:=fun D σ H=>∃ W:Nat->St->Hp->Prop,(∃ m,W m σ H)/\∀ m σ H,W m σ H ->
 c σ H fun b H1=>if b=true then ∃ N:St->Hp->Prop,(∀ σ' H',N σ' H'->∃ m',m'<m/\W m' σ' H')/\tb { D with nx:=N,ct:=N,bk:=D.nx } σ H1 else D.nx σ H1
theorem Ke {c:Expr}{body:List Stmt}{tc:TT}{tb:TS}(hp:PassesOwn (model X.prog X.w) X.A X.env X.xe)(hc:PT X c tc)(hb:PSs X body tb):PS X (.While c body [] pos) (Vr tc tb):=by
 intro pins s σ H D I h
 obtain⟨W,⟨m0,w0⟩,turn⟩:=h
 refine wpAny_While (codeAny_whileLoop (fun n s'=>∃ σ' H',Inv X pins σ' H' s'/\W n σ' H') ?_ m0 ⟨σ,H,I,w0⟩)
 rintro n s1 ⟨σ1,H1,I1,w1⟩
 refine wpAny_passesOwn hp (thn (hc pins s1 σ1 H1 _ I1 (turn n σ1 H1 w1)) fun b s2 ⟨H2,I2,q2⟩=>?_)
 cases b with
 | true=>
   obtain ⟨N,hN,q2⟩:=q2
   rw[if_pos rfl]
   refine wpAny_passesOwn hp (thn (hb pins s2 σ1 H2 _ I2 q2) fun f s3 q3=>?_)
   cases f with
   | next=>
     obtain⟨σ3,H3,I3,n3⟩:=q3
     obtain⟨m',hm,w3⟩:=hN σ3 H3 n3
     exact⟨m',hm,σ3,H3,I3,w3⟩
   | cont=>
     obtain⟨σ3,H3,I3,n3⟩:=q3
     obtain⟨m',hm,w3⟩:=hN σ3 H3 n3
     exact⟨m',hm,σ3,H3,I3,w3⟩
   | brk=>exact q3
   | ret v=>exact q3
 | false=>
   rw[if_neg Bool.false_ne_true]
   exact wpAny_execs_nil ⟨σ1,H2,I2,q2⟩
end
structure It where
 go:Nat->Hp->Prop
 yld:Nat->Hp->V->Hp->Prop
 stop:Nat->Hp->Prop
def O9 (X:Cx)(pins:List (Addr×Obj))(H:Hp)(b:Addr):Prop:=
 H b=none/\b≠X.env.locals/\b∉X.fs/\(b∈X.ex\/X.s₀.heap.objs.size<=b)/\(∀ x c,X.env.cells.lookup x=some c->c≠b)/\∀ p∈X.pn++pins,p.1≠b
theorem Inv.fpOk {X:Cx}{pins:List (Addr×Obj)}{σ:St}{H H':Hp}{s:Shared}{b:Addr}(I:Inv X pins σ H s)(hb:s.heap.objs.size<=b)(hn:H' b=none):O9 X pins H' b:=by
 refine⟨hn,Nat.ne_of_gt (Nat.lt_of_lt_of_le I.lt hb),I.nofs hb,.inr (Nat.le_trans I.sz hb),fun x c e z=>?_,fun p hp z=>?_⟩
 . obtain⟨v,q⟩:=I.cell x c e
   exact absurd (Nat.lt_of_lt_of_le q.lt (by rw[z];exact hb)) (Nat.lt_irrefl _)
 exact absurd (Nat.lt_of_lt_of_le (Heap.lt_size (I.pin p hp).1) (by rw[z];exact hb)) (Nat.lt_irrefl _)
structure V6 (P:Program)(w:World)(K:PySem.W.Frag)(tg:Expr)(J:It)(fp:List Addr)(it:Addr)(tn:Nat->Heap->Prop):Prop where
 mem:it∈fp
 obj:∀ i h,tn i h->∀ b∈fp,∃ o,h.get? b=some o/\∀ v,o.data ≠ .cell v
 keep:∀ i h h',tn i h->(∀ b∈fp,∀ o,h.get? b=some o->h'.get? b=some o)->tn i h'
 item:∀(X:Cx),X.prog=P->X.w=w->X.K=K->X.calm=true->∀(i:Nat) (pins:List (Addr×Obj)) (s:Shared) (σ:St) (H:Hp) (E:Value->Shared->Prop),Inv X pins σ H s->(∀ b∈fp,O9 X pins H b)->tn i s.heap->J.go i H ->
  wpAny (model P w) X.A (pyNext (.ref it)) (fun r s1=>∃ u,r=some u /\
   wpAny (model P w) X.A (letOwnedTupleGo tg (.ref it) u) (fun _ s2=>∃ x H',Inv X pins σ H' s2/\RelV x u/\J.yld i H x H'/\tn (i+1) s2.heap/\∀ b∈fp,H' b=none) E s1) E s
 done:∀(X:Cx),X.prog=P->X.w=w->X.K=K->X.calm=true->∀(i:Nat) (pins:List (Addr×Obj)) (s:Shared) (σ:St) (H:Hp) (E:Value->Shared->Prop),Inv X pins σ H s->(∀ b∈fp,O9 X pins H b)->tn i s.heap->J.stop i H ->
  wpAny (model P w) X.A (pyNext (.ref it)) (fun r s1=>r=none/\Inv X pins σ H s1) E s
 self:∀(A:Around) (i:Nat) (s:Shared) (Q:Value->Shared->Prop) (E:Value->Shared->Prop),tn i s.heap->Q (.ref it) s->wpAny (model P w) A (pyIter (.ref it)) Q E s
abbrev TI:=St->Hp->(It->Hp->Prop)->Prop
def PIE (X:Cx)(pins:List (Addr×Obj))(σ:St)(tg:Expr)(R:It->Hp->Prop)(itv:Value)(s2:Shared):Prop:=
 ∃(it:Addr) (fp:List Addr) (tn:Nat->Heap->Prop) (J:It) (H':Hp),itv = .ref it/\Inv X pins σ H' s2/\V6 X.prog X.w X.K tg J fp it tn/\tn 0 s2.heap/\(∀ b∈fp,O9 X pins H' b)/\R J H'
def PI (X:Cx)(tg iter:Expr)(wi:TI):Prop:=
 ∀(pins:List (Addr×Obj)) (s:Shared) (σ:St) (H:Hp) (R:It->Hp->Prop),Inv X pins σ H s->wi σ H R ->
  wpAny (model X.prog X.w) X.A (eval iter X.env) (fun v s1=>wpAny (model X.prog X.w) X.A (pyIter v) (PIE X pins σ tg R) X.xe s1) X.xe s
theorem Sb {M:Model}{A:Around}{E:Value->Shared->Prop}{s:Shared}{tg:Expr}{it:Addr}{u:Value}{o:Obj}{n:String}{vs:Array Value}{Q:Unit->Shared->Prop}(ho:s.heap.get? it=some o)(hc:o.cls = .type n)(hd:o.data = .fields vs)
  (hn:["enumerate","zip","dict_itemiterator","dict_reverseitemiterator","odict_iterator","itertools.zip_longest","itertools.pairwise"].contains n=false) (hQ:Q () s):wpAny M A (letOwnedTupleGo tg (.ref it) u) Q E s:=by
 unfold letOwnedTupleGo
 cases tg<;>first
  | exact wpAny_pure hQ
  | (cases u<;>first
    | exact wpAny_pure hQ
    | (refine wpAny_bind (wpAny_load ho ?_)
       rw[hc,hd]
       show wpAny M A (if(["enumerate","zip","dict_itemiterator","dict_reverseitemiterator","odict_iterator","itertools.zip_longest","itertools.pairwise"].contains n&&vs[0]? == some (rawInt _))=true then _ else _) Q E s
       rw[if_neg (by intro h;rw[hn,Bool.false_and] at h;cases h)]
       exact wpAny_pure hQ))
def Itl (K:PySem.W.Frag)(a:Addr):It:=
 ⟨fun i H=>∃ xs x,SqL K H a xs/\xs[i]? = some x,fun i H x H'=>H'=H/\∀ xs,SqL K H a xs->xs[i]? = some x,fun i H=>∃ xs,SqL K H a xs/\xs.length<=i⟩
def Itt (K:PySem.W.Frag)(a:Addr):It:=
 ⟨fun i H=>∃ xs x,SqT K H a xs/\xs[i]? = some x,fun i H x H'=>H'=H/\∀ xs,SqT K H a xs->xs[i]? = some x,fun i H=>∃ xs,SqT K H a xs/\xs.length<=i⟩
def Itr (lo:Int)(n:Nat):It:=⟨fun i _=>i<n,fun i H x H'=>H'=H/\x = .int (lo+i),fun i _=>n<=i⟩
theorem Su {P:Program}{w:World}{K:PySem.W.Frag}{tg:Expr}(a it:Addr):V6 P w K tg (Itl K a) [it] it (fun i h=>h.IsListIter it a i) where
 mem:=by simp
 obj:=fun i h st b hb=>by
  have e:b=it:=by simpa using hb
  subst e
  obtain⟨o,e,c,d⟩:=st
  exact⟨o,e,fun v z=>by rw[d] at z;cases z⟩
 keep:=fun i h h' st k=>st.at fun o e=>k it (by simp) o e
 item:=by
  intro X hP hw hK hc i pins s σ H E I hf st hg
  subst hP hw hK
  obtain⟨xs,x,hq,hx⟩:=hg
  obtain⟨its,rv,p,hz⟩:=I.list hq
  obtain⟨u,hu,ru⟩:=rv.get hx
  obtain⟨f0,f1,f2,f3,f4,f5⟩:=hf it (by simp)
  refine wpAny_pyNext_list_item st p.isList (x:=u) (by simpa using hu) fun h' st' sb=>?_
  have I1:Inv X pins σ H { s with heap:=h' }:=I.turned (t':=s.toks) (fun b o hb e=>(sb.2 b hb).trans e) f0 f1 f3 f4 f5
  obtain⟨o,e,c,d⟩:=id st'
  exact⟨u,rfl,Sb (s:={ s with heap:=h' }) e c d (by decide) ⟨x,H,I1,ru,⟨rfl,fun ys hy=>by rw[I.list_inj hy hq];exact hx⟩,st',fun b hb=>(hf b hb).1⟩⟩
 done:=by
  intro X hP hw hK hc i pins s σ H E I hf st hg
  subst hP hw hK
  obtain⟨xs,hq,hx⟩:=hg
  obtain⟨its,rv,p,hz⟩:=I.list hq
  obtain⟨f0,f1,f2,f3,f4,f5⟩:=hf it (by simp)
  have hl:=rv.length
  exact wpAny_pyNext_list_end (I.ok.hd hc) st p.isList (by simp;omega) fun h' eb=>⟨rfl,I.turned (t':=s.toks) (fun b o hb e=>eb b o hb e) f0 f1 f3 f4 f5⟩
 self:=fun _ _ _ _ _ st h=>wpAny_pyIter_listiter st h
theorem Qa {P:Program}{w:World}{K:PySem.W.Frag}{tg:Expr}(a it:Addr):V6 P w K tg (Itt K a) [it] it (fun i h=>h.IsTupleIter it a i) where
 mem:=by simp
 obj:=fun i h st b hb=>by
  have e:b=it:=by simpa using hb
  subst e
  obtain⟨o,e,c,d⟩:=st
  exact⟨o,e,fun v z=>by rw[d] at z;cases z⟩
 keep:=fun i h h' st k=>st.at fun o e=>k it (by simp) o e
 item:=by
  intro X hP hw hK hc i pins s σ H E I hf st hg
  subst hP hw hK
  obtain⟨xs,x,hq,hx⟩:=hg
  obtain⟨its,rv,p,hz⟩:=I.tuple hq
  obtain⟨u,hu,ru⟩:=rv.get hx
  obtain⟨f0,f1,f2,f3,f4,f5⟩:=hf it (by simp)
  refine wpAny_pyNext_tuple_item st (show s.heap.IsTuple a its.toArray from p) (x:=u) (by simpa using hu) fun h' st' sb=>?_
  have I1:Inv X pins σ H { s with heap:=h' }:=I.turned (t':=s.toks) (fun b o hb e=>(sb.2 b hb).trans e) f0 f1 f3 f4 f5
  obtain⟨o,e,c,d⟩:=id st'
  exact⟨u,rfl,Sb (s:={ s with heap:=h' }) e c d (by decide) ⟨x,H,I1,ru,⟨rfl,fun ys hy=>by rw[I.tuple_inj hy hq];exact hx⟩,st',fun b hb=>(hf b hb).1⟩⟩
 done:=by
  intro X hP hw hK hc i pins s σ H E I hf st hg
  subst hP hw hK
  obtain⟨xs,hq,hx⟩:=hg
  obtain⟨its,rv,p,hz⟩:=I.tuple hq
  obtain⟨f0,f1,f2,f3,f4,f5⟩:=hf it (by simp)
  have hl:=rv.length
  exact wpAny_pyNext_tuple_end (I.ok.hd hc) st (show s.heap.IsTuple a its.toArray from p) (by simp;omega) fun h' eb=>⟨rfl,I.turned (t':=s.toks) (fun b o hb e=>eb b o hb e) f0 f1 f3 f4 f5⟩
 self:=fun _ _ _ _ _ st h=>wpAny_pyIter_tupleiter st h
theorem Q3 {P:Program}{w:World}{K:PySem.W.Frag}{tg:Expr}(it:Addr)(lo:Int)(n:Nat):V6 P w K tg (Itr lo n) [it] it (fun i h=>IsRangeIter h it (lo+(i:Nat)*1) ((n:Int)-(i:Nat)) 1) where
 mem:=by simp
 obj:=fun i h st b hb=>by
  have e:b=it:=by simpa using hb
  subst e
  exact⟨_,st,fun v z=>by
   have z':Data.fields _=Data.cell v:=z
   cases z'⟩
 keep:=fun i h h' st k=>k it (by simp) _ st
 item:=by
  intro X hP hw hK hc i pins s σ H E I hf st hg
  subst hP hw hK
  obtain⟨f0,f1,f2,f3,f4,f5⟩:=hf it (by simp)
  have W:=Walks.range (prog:=X.prog) (w:=X.w) (I.ok.hd hc) it lo 1 n
  refine W.item i s _ _ hg st fun v h' tk hv st' kk=>?_
  obtain⟨t,rfl⟩:=hv
  have I1:Inv X pins σ H { s with heap:=h',toks:=tk }:=I.turned (fun b o hb e=>kk b o (by simpa using hb) e) f0 f1 f3 f4 f5
  refine⟨_,rfl,Sb (s:={ s with heap:=h',toks:=tk }) (n:="range_iterator") st' rfl rfl (by decide) ⟨.int (lo+i),H,I1,⟨t,?_⟩,⟨rfl,rfl⟩,st',fun b hb=>(hf b hb).1⟩⟩
  rw[Int.mul_one]
 done:=by
  intro X hP hw hK hc i pins s σ H E I hf st hg
  subst hP hw hK
  obtain⟨f0,f1,f2,f3,f4,f5⟩:=hf it (by simp)
  exact wpAny_pyNext_range_end (I.ok.hd hc) st (by have:n<=i:=hg;omega) fun h' eb=>⟨rfl,I.turned (t':=s.toks) (fun b o hb e=>eb b o hb e) f0 f1 f3 f4 f5⟩
 self:=fun _ _ _ _ _ st h=>wpAny_pyIter_rangeiter st h
section
variable {X:Cx}{tg:Expr}
theorem Ow {pins:List (Addr×Obj)}{σ:St}{H:Hp}{s:Shared}{R:It->Hp->Prop}{E:Value->Shared->Prop}{lo hi:Int}{t u v:Tok}{tk:Nat}(I:Inv X pins σ H s)(h1:-(2 ^ 62)<=lo)(h2:lo<2 ^ 62)(h3:-(2 ^ 62)<=hi)(h4:hi<2 ^ 62)
  (q:R (Itr lo (hi-lo).toNat) H):wpAny (model X.prog X.w) X.A (pyIter (.ref s.heap.objs.size)) (PIE X pins σ tg R) E { s with heap:=s.heap.push { cls:=.type "range",data:=.fields #[.int lo t,.int hi u,.int 1 v] },toks:=tk }:=by
 refine wpAny_pyIter_range (IsRange.new ..) (small_one h1 h2 h3 h4) ?_
 have I1:Inv X pins σ H { s with heap:=s.heap.push { cls:=.type "range",data:=.fields #[.int lo t,.int hi u,.int 1 v] },toks:=tk }:=I.kept fun b o e=>Heap.get?_push_of_some _ e
 refine⟨(s.heap.push { cls:=.type "range",data:=.fields #[.int lo t,.int hi u,.int 1 v] }).objs.size,[(s.heap.push { cls:=.type "range",data:=.fields #[.int lo t,.int hi u,.int 1 v] }).objs.size],_,_,H,rfl,
  I1.kept (t':=tk) fun b o e=>Heap.get?_push_of_some _ e,Q3 _ lo (hi-lo).toNat,?_,fun b hb=>?_,q⟩
 . have e1:lo+((0:Nat):Int)*1=lo:=by simp
   have e2:(((hi-lo).toNat:Nat):Int)-((0:Nat):Int)=Builtin.Range.rangeSize lo hi 1:=by rw[rangeSize_one];split<;>omega
   show IsRangeIter _ _ (lo+((0:Nat):Int)*1) ((((hi-lo).toNat:Nat):Int)-((0:Nat):Int)) 1
   rw[e1,e2]
   exact Heap.get?_push_size _ rfl
 have e:b=(s.heap.push { cls:=.type "range",data:=.fields #[.int lo t,.int hi u,.int 1 v] }).objs.size:=by simpa using hb
 subst e
 exact I1.fpOk (Nat.le_refl _) (I1.hok.fresh (Nat.le_refl _))
def a46 (ta:TA):TI:=fun σ H R=>ta σ H fun vs H1=>∃ j:Int,vs=[.int j] /\ -(2 ^ 62)<=j/\j<2 ^ 62/\R (Itr 0 j.toNat) H1
def a04 (ta:TA):TI:=fun σ H R=>ta σ H fun vs H1=>∃ i j:Int,vs=[.int i,.int j]/\(-(2 ^ 62)<=i/\i<2 ^ 62 /\ -(2 ^ 62)<=j/\j<2 ^ 62)/\R (Itr i (j-i).toNat) H1
theorem Bj {a:Expr}{ta:TA}{p pos:Pos}(hg:Gl X "range")(hm:X.mg "range" = none)(ha:PA X [a] ta)(hs:starEach [a] X.env=[(false,eval a X.env)]:=by ac_nf):PI X tg (.Call (.Name "range" p) [a] [] pos) (a46 ta):=by
 intro pins s σ H R I h
 refine Call_ (Ju I hg hm boot_range (PyProof.Rows.callWith_type1 (thn (ha pos pins s σ H _ I h) fun us s1 ⟨vs,H1,I1,r1,q1⟩=>?_) hs rfl))
 obtain⟨j,e,q1,q2,q⟩:=q1
 subst e
 cases r1 with
 | cons r rr=>
   cases rr
   obtain⟨t,rfl⟩:=r
   exact call_range_1 (Ow I1 (by omega) (by omega) q1 q2 (by simpa using q))
theorem Lp {a b:Expr}{ta:TA}{p pos:Pos}(hg:Gl X "range")(hm:X.mg "range" = none)(ha:PA X [a,b] ta)(hs:starEach [a,b] X.env=[(false,eval a X.env),(false,eval b X.env)]:=by ac_nf)(hs2:starEach [b] X.env=[(false,eval b X.env)]:=by ac_nf) :
  PI X tg (.Call (.Name "range" p) [a,b] [] pos) (a04 ta):=by
 intro pins s σ H R I h
 refine Call_ (Ju I hg hm boot_range (PyProof.Rows.callWith_type1 (thn (ha pos pins s σ H _ I h) fun us s1 ⟨vs,H1,I1,r1,q1⟩=>?_) (by rw[hs,hs2]) (by rw[hs2];rfl)))
 obtain⟨i,j,e,⟨q1,q2,q3,q4⟩,q⟩:=q1
 subst e
 cases r1 with
 | cons r rr=>
   cases rr with
   | cons r' rr=>
     cases rr
     obtain⟨t,rfl⟩:=r
     obtain⟨t',rfl⟩:=r'
     exact call_range_2 (Ow I1 q1 q2 q3 q4 q)
def ad4 (wi:TI)(g:TG)(tb:TS):TS:=fun D σ H=>wi σ H fun J H1=>∃ W:Nat->Nat->St->Hp->Prop,(∃ m,W 0 m σ H1)/\∀ i m σ H,W i m σ H ->
 (J.stop i H/\D.nx σ H)\/(J.go i H/\∃ N:St->Hp->Prop,(∀ σ' H',N σ' H'->∃ m',m'<m/\W (i+1) m' σ' H')/\∀ x H',J.yld i H x H'->g x σ H' fun σ2 H2=>tb { D with nx:=N,ct:=N,bk:=D.nx } σ2 H2)
def Lc (fp:List Addr)(h:Heap):List (Addr×Obj):=fp.filterMap fun b=>(h.get? b).map fun o=>(b,o)
theorem Eu {fp:List Addr}{h:Heap}{b:Addr}{o:Obj}(hb:b∈fp)(e:h.get? b=some o):(b,o)∈Lc fp h:=List.mem_filterMap.mpr ⟨b,hb,by rw[e];rfl⟩
theorem Ro {fp:List Addr} {h:Heap} {p:Addr×Obj} (hp:p∈Lc fp h):p.1∈fp/\h.get? p.1=some p.2:=by
 obtain⟨b,hb,e⟩:=List.mem_filterMap.mp hp
 cases q:h.get? b with
 | none=>rw[q] at e;cases e
 | some o=>
   rw[q] at e
   have e':(b,o)=p:=Option.some.inj e
   subst e'
   exact⟨hb,q⟩
theorem Inv.pinned {pins:List (Addr×Obj)}{σ:St}{H:Hp}{s:Shared}{fp:List Addr}(I:Inv X pins σ H s)(hf:∀ b∈fp,O9 X pins H b)(ho:∀ b∈fp,∃ o,s.heap.get? b=some o/\∀ v,o.data ≠ .cell v):Inv X (pins++Lc fp s.heap) σ H s:=
 I.pins_of fun p hp=>(List.mem_append.mp hp).elim (fun z=>I.pin p (List.mem_append_right _ z)) fun z=>by
  obtain⟨hb,e⟩:=Ro z
  obtain⟨f0,f1,f2,_⟩:=hf p.1 hb
  obtain⟨o,e',d⟩:=ho p.1 hb
  rw[e] at e';cases e'
  exact⟨e,f0,f1,f2,d⟩
theorem Inv.unpinned {pins pl:List (Addr×Obj)}{σ:St}{H:Hp}{s:Shared}(I:Inv X (pins++pl) σ H s):Inv X pins σ H s:=I.pins_of fun p hp=>I.pin p (List.mem_append_right _ (List.mem_append_left _ hp))
theorem Bl {iter:Expr}{body:List Stmt}{wi:TI}{g:TG}{tb:TS}{pos:Pos}(hp:PassesOwn (model X.prog X.w) X.A X.env X.xe)(hc:X.calm=true)(hi:PI X tg iter wi)(hg:PG X tg g)(hb:PSs X body tb)
  (hs:∀ x,foldedSetIterable iter X.env x=pure x:=by intro _;ac_nf):PS X (.For tg iter body [] pos) (ad4 wi g tb):=by
 intro pins s σ H D I h
 refine wpAny_For (thn (hi pins s σ H _ I h) fun v s1 h1=>thn h1 fun itv s2 h2=>?_) hs
 obtain⟨it,fp,tn,J,H2,e,I2,T,st2,f2,W,⟨m0,w0⟩,turn⟩:=h2
 subst e
 have stat:∀ {H':Hp},(∀ b∈fp,H' b=none)->∀ b∈fp,O9 X pins H' b:=fun hn b hb=>⟨hn b hb,(f2 b hb).2⟩
 refine codeAny_forLoop_any (fun n s'=>∃ i σ' H',Inv X pins σ' H' s'/\tn i s'.heap/\(∀ b∈fp,H' b=none)/\W i n σ' H') ?_ m0 ⟨0,σ,H2,I2,st2,fun b hb=>(f2 b hb).1,w0⟩
 rintro n s3 ⟨i,σ3,H3,I3,st3,fr3,w3⟩
 rcases turn i n σ3 H3 w3 with ⟨stop,qn⟩ | ⟨go,N,hN,step⟩
 . refine wpAny_passesOwn hp (thn (T.done X rfl rfl rfl hc i pins s3 σ3 H3 X.xe I3 (stat fr3) st3 stop) fun r s4 ⟨hr,I4⟩=>?_)
   subst hr
   exact wpAny_execs_nil ⟨σ3,H3,I4,qn⟩
 refine wpAny_passesOwn hp (thn (T.item X rfl rfl rfl hc i pins s3 σ3 H3 X.xe I3 (stat fr3) st3 go) fun r s4 ⟨u,hr,h4⟩=>?_)
 subst hr
 refine wpAny_passesOwn hp (thn h4 fun _ s5 ⟨x,H5,I5,r5,y5,st5,fr5⟩=>?_)
 have I5':=I5.pinned (stat fr5) (T.obj _ _ st5)
 refine wpAny_passesOwn hp (thn (hg _ s5 σ3 H5 x u _ I5' r5 (step x H5 y5)) fun _ s6 ⟨σ6,H6,I6,q6⟩=>?_)
 refine wpAny_passesOwn hp (thn (hb _ s6 σ6 H6 _ I6 q6) fun f s7 q7=>?_)
 have again:∀ {σ7:St} {H7:Hp},Inv X (pins++Lc fp s5.heap) σ7 H7 s7->N σ7 H7->∃ m,m<n/\∃ i σ' H',Inv X pins σ' H' s7/\tn i s7.heap/\(∀ b∈fp,H' b=none)/\W i m σ' H':=fun {σ7 H7} I7 n7=>by
  obtain⟨m',hm,w7⟩:=hN σ7 H7 n7
  refine⟨m',hm,i+1,σ7,H7,I7.unpinned,T.keep _ _ _ st5 fun b hb o e=>(I7.pin (b,o) (List.mem_append_right _ (List.mem_append_right _ (Eu hb e)))).1,fun b hb=>?_,w7⟩
  obtain⟨o,e,d⟩:=T.obj _ _ st5 b hb
  exact(I7.pin (b,o) (List.mem_append_right _ (List.mem_append_right _ (Eu hb e)))).2.1
 cases f with
 | next=>obtain⟨σ7,H7,I7,n7⟩:=q7;exact again I7 n7
 | cont=>obtain⟨σ7,H7,I7,n7⟩:=q7;exact again I7 n7
 | brk=>obtain⟨σ7,H7,I7,q7⟩:=q7;exact⟨σ7,H7,I7.unpinned,q7⟩
 | ret v=>obtain⟨x7,σ7,H7,I7,r7,q7⟩:=q7;exact⟨x7,σ7,H7,I7.unpinned,r7,q7⟩
end
abbrev R2:=V->V->Hp->VK->Prop
def OpR (X:Cx)(f:Value->Value->Sem Value)(r:R2):Prop:=
 ∀(pins:List (Addr×Obj)) (s:Shared) (σ:St) (H:Hp) (x y:V) (v u:Value) (Q:VK),Inv X pins σ H s->RelV x v->RelV y u->r x y H Q ->
  wpAny (model X.prog X.w) X.A (f v u) (EP X pins σ Q) X.xe s
def UnR (X:Cx)(f:Value->Sem Value)(r:V->Hp->VK->Prop):Prop:=
 ∀(pins:List (Addr×Obj)) (s:Shared) (σ:St) (H:Hp) (x:V) (v:Value) (Q:VK),Inv X pins σ H s->RelV x v->r x H Q ->
  wpAny (model X.prog X.w) X.A (f v) (EP X pins σ Q) X.xe s
def CallR (X:Cx)(f:Value)(r:List V->Hp->VK->Prop):Prop:=
 ∀(pins:List (Addr×Obj)) (s:Shared) (σ:St) (H:Hp) (xs:List V) (us:List Value) (Q:VK),Inv X pins σ H s->Vals xs us->r xs H Q ->
  wpAny (model X.prog X.w) X.A (call f us) (EP X pins σ Q) X.xe s
def tOp (r:R2)(ta tb:TE):TE:=fun σ H Q=>ta σ H fun x H1=>tb σ H1 fun y H2=>r x y H2 Q
def tUn (r:V->Hp->VK->Prop)(ta:TE):TE:=fun σ H Q=>ta σ H fun x H1=>r x H1 Q
def rI (C:Int->Int->Prop)(g:Int->Int->V):R2:=fun x y H Q=>∃ i j,x = .int i/\y = .int j/\C i j/\Q (g i j) H
def rI0 (g:Int->Int->V):R2:=fun x y H Q=>∃ i j,x = .int i/\y = .int j/\Q (g i j) H
def rU (g:Int->V):V->Hp->VK->Prop:=fun x H Q=>∃ i,x = .int i/\Q (g i) H
section
variable {X:Cx}{a b c:Expr}{ta tb tc:TE}{pos:Pos}
theorem a92 (ha:PE X a ta)(hb:PE X b tb){pins:List (Addr×Obj)}{s:Shared}{σ:St}{H:Hp}{R:V->V->Hp->Prop}(I:Inv X pins σ H s)
  (h:ta σ H fun x H1=>tb σ H1 fun y H2=>R x y H2) {Q:Value->Shared->Prop} {f:Value->Value->Sem Value}
  (hf:∀ v u s2 x y H2,Inv X pins σ H2 s2->RelV x v->RelV y u->R x y H2->wpAny (model X.prog X.w) X.A (f v u) Q X.xe s2) :
  wpAny (model X.prog X.w) X.A (eval a X.env) (fun v s₁=>wpAny (model X.prog X.w) X.A (eval b X.env) (fun u s₂=>wpAny (model X.prog X.w) X.A (f v u) Q X.xe s₂) X.xe s₁) X.xe s:=by
 refine thn (ha pins s σ H _ I h) fun v s1 ⟨x,H1,I1,r1,q1⟩=>?_
 refine thn (hb pins s1 σ H1 _ I1 q1) fun u s2 ⟨y,H2,I2,r2,q2⟩=>?_
 exact hf v u s2 x y H2 I2 r1 r2 q2
theorem Ae {op:Operator}{r:R2}(ho:OpR X (binaryOp op) r)(ha:PE X a ta)(hb:PE X b tb):PE X (.BinOp a op b pos) (tOp r ta tb):=by
 intro pins s σ H Q I h
 exact wpAny_BinOp (a92 ha hb I h fun v u s2 x y H2 I2 rx ry q=>ho pins s2 σ H2 x y v u Q I2 rx ry q)
theorem Pj {op:UnaryOp}{r:V->Hp->VK->Prop}(ho:UnR X (unaryOp op) r)(ha:PE X a ta):PE X (.UnaryOp op a pos) (tUn r ta):=by
 intro pins s σ H Q I h
 exact UnaryOp_ (thn (ha pins s σ H _ I h) fun v s1 ⟨x,H1,I1,r1,q1⟩=>ho pins s1 σ H1 x v Q I1 r1 q1)
theorem opI {f:Value->Value->Sem Value}{C:Int->Int->Prop}{g:Int->Int->Int}
  (rule:∀(i j:Int) (t u:Tok) (s:Shared) (Q:Value->Shared->Prop) (E:Value->Shared->Prop),C i j->Q (.int (g i j) s.toks) { s with toks:=s.toks+1 }->wpAny (model X.prog X.w) X.A (f (.int i t) (.int j u)) Q E s) :
  OpR X f (rI C fun i j=>.int (g i j)):=by
 intro pins s σ H x y v u Q I rx ry h
 obtain⟨i,j,rfl,rfl,hc,q⟩:=h
 obtain⟨t,rfl⟩:=rx
 obtain⟨t',rfl⟩:=ry
 exact rule i j t t' s _ _ hc ⟨.int (g i j),H,I.tok _,⟨_,rfl⟩,q⟩
theorem ad1 {f:Value->Value->Sem Value}{g:Int->Int->Int}
  (rule:∀(i j:Int) (t u:Tok) (s:Shared) (Q:Value->Shared->Prop) (E:Value->Shared->Prop),Q (.int (g i j) s.toks) { s with toks:=s.toks+1 }->wpAny (model X.prog X.w) X.A (f (.int i t) (.int j u)) Q E s) :
  OpR X f (rI0 fun i j=>.int (g i j)):=by
 intro pins s σ H x y v u Q I rx ry h
 obtain⟨i,j,rfl,rfl,q⟩:=h
 obtain⟨t,rfl⟩:=rx
 obtain⟨t',rfl⟩:=ry
 exact rule i j t t' s _ _ ⟨.int (g i j),H,I.tok _,⟨_,rfl⟩,q⟩
theorem ab8 {f:Value->Value->Sem Value}{g:Int->Int->Bool}
  (rule:∀(i j:Int) (t u:Tok) (s:Shared) (Q:Value->Shared->Prop) (E:Value->Shared->Prop),Q (.bool (g i j)) s->wpAny (model X.prog X.w) X.A (f (.int i t) (.int j u)) Q E s) :
  OpR X f (rI0 fun i j=>.bl (g i j)):=by
 intro pins s σ H x y v u Q I rx ry h
 obtain⟨i,j,rfl,rfl,q⟩:=h
 obtain⟨t,rfl⟩:=rx
 obtain⟨t',rfl⟩:=ry
 exact rule i j t t' s _ _ ⟨.bl (g i j),H,I,rfl,q⟩
def Yd (i j:Int):Prop:=0<j/\j<1073741824
def ab5 (i j:Int):Prop:=0<=j/\j<=1000000/\i.natAbs<2 ^ 64
def CMul (i j:Int):Prop:=(-(2 ^ 64)<i/\i<2 ^ 64)\/(-(2 ^ 64)<j/\j<2 ^ 64)
theorem CMul.ok {i j:Int}(h:CMul i j):IntMulOk i j:=by
 rcases h with ⟨h1,h2⟩ | ⟨h1,h2⟩
 . exact .of_left (intBits_le_64 h1 h2)
 exact .of_right (intBits_le_64 h1 h2)
theorem op_add:OpR X (binaryOp .Add) (rI0 fun i j=>.int (i+j)):=ad1 fun _ _ _ _ _ _ _ q=>add_int q
theorem K1:OpR X (binaryOp .Sub) (rI0 fun i j=>.int (i-j)):=ad1 fun _ _ _ _ _ _ _ q=>sub_int q
theorem op_mul:OpR X (binaryOp .Mult) (rI CMul fun i j=>.int (i*j)):=opI fun _ _ _ _ _ _ _ hc q=>mul_int q hc.ok
theorem Y3:OpR X (binaryOp .FloorDiv) (rI Yd fun i j=>.int (i / j)):=opI fun i j _ _ _ _ _ hc q=>by
 have h1:(0:Int)<j:=hc.1
 have h2:j<1073741824:=hc.2
 exact floordiv_int (by omega) (by rw[Int.fdiv_eq_ediv_of_nonneg i (by omega)];exact q) (.inl (PyProof.noPylong_small (by omega)))
theorem Fc:OpR X (binaryOp .Mod) (rI (fun _ j=>0<j) fun i j=>.int (i % j)):=opI fun i j _ _ _ _ _ hc q=>by
 have h1:(0:Int)<j:=hc
 exact mod_int' (by omega) (by rw[Int.fmod_eq_emod_of_nonneg i (by omega)];exact q)
theorem Vy:OpR X (binaryOp .Pow) (rI ab5 fun i j=>.int (i ^ j.toNat)):=opI fun _ _ _ _ _ _ _ hc q=>pow_int_small hc.1 hc.2.1 hc.2.2 q
theorem unI {f:Value->Sem Value}{g:Int->Int}
  (rule:∀(i:Int) (t:Tok) (s:Shared) (Q:Value->Shared->Prop) (E:Value->Shared->Prop),Q (.int (g i) s.toks) { s with toks:=s.toks+1 }->wpAny (model X.prog X.w) X.A (f (.int i t)) Q E s) :
  UnR X f (rU fun i=>.int (g i)):=by
 intro pins s σ H x v Q I rx h
 obtain⟨i,rfl,q⟩:=h
 obtain⟨t,rfl⟩:=rx
 exact rule i t s _ _ ⟨.int (g i),H,I.tok _,⟨_,rfl⟩,q⟩
theorem Jp:UnR X (unaryOp .USub) (rU fun i=>.int (-i)):=unI fun _ _ _ _ _ q=>neg_int q
end
def a83:V->V->Bool
 | .non,.non=>true | .non,.int _=>true | .int _,.non=>true | .non,.bl _=>true | .bl _,.non=>true | .non,.str _=>true | .str _,.non=>true
 | .int _,.int _=>true | .bl _,.bl _=>true | .str _,.str _=>true | .byt _,.byt _=>true
 | .int _,.str _=>true | .str _,.int _=>true | .bl _,.str _=>true | .str _,.bl _=>true
 | _,_=>false
def rEq:R2:=fun x y H Q=>a83 x y=true/\Q (.bl (decide (x=y))) H
def rNe:R2:=fun x y H Q=>a83 x y=true/\Q (.bl (!decide (x=y))) H
theorem Sd {i j:Int}:decide (V.int i=V.int j)=(i==j):=by
 rw[Bool.eq_iff_iff]
 simp
theorem W9 {i j:Bool}:decide (V.bl i=V.bl j)=(i==j):=by
 rw[Bool.eq_iff_iff]
 simp
theorem Tb {i j:Str}:decide (V.str i=V.str j)=(i==j):=by
 rw[Bool.eq_iff_iff]
 simp
theorem Qs {i j:Array UInt8}:decide (V.byt i=V.byt j)=(i.toList==j.toList):=by
 rw[Bool.eq_iff_iff]
 cases i
 cases j
 simp
section
variable {X:Cx}{a b c:Expr}{ta tb tc:TE}{pos:Pos}
theorem B0 {pins:List (Addr×Obj)}{σ:St}{H:Hp}{s:Shared}{Q:VK}{k k':Bool}(I:Inv X pins σ H s)(q:Q (.bl k) H)(e:k=k'):EP X pins σ Q (.bool k') s:=by
 subst e
 exact⟨.bl k,H,I,rfl,q⟩
theorem op_eq:OpR X (compareOp .Eq) rEq:=by
 intro pins s σ H x y v u Q I rx ry h
 obtain⟨hs,q⟩:=h
 cases x with
 | non=>
   cases rx
   cases y with
   | non=>cases ry;exact PySem.EqNone.eq_none_none (B0 I q (by simp))
   | bl j=>cases ry;exact PySem.EqNone.eq_none_bool (B0 I q (by simp))
   | int j=>obtain⟨t',rfl⟩:=ry;exact PySem.EqNone.eq_none_int (B0 I q (by simp))
   | str j=>obtain⟨t',rfl⟩:=ry;exact PySem.EqNone.eq_none_str (B0 I q (by simp))
   | _=>exact absurd (show false=true from hs) Bool.false_ne_true
 | bl i=>
   cases rx
   cases y with
   | non=>cases ry;exact PySem.EqNone.eq_bool_none (B0 I q (by simp))
   | bl j=>cases ry;exact eq_bool (B0 I q W9)
   | str j=>obtain⟨t',rfl⟩:=ry;exact PySem.EqMixed.eq_bool_str (B0 I q (by simp))
   | _=>exact absurd (show false=true from hs) Bool.false_ne_true
 | int i=>
   obtain⟨t,rfl⟩:=rx
   cases y with
   | non=>cases ry;exact PySem.EqNone.eq_int_none (B0 I q (by simp))
   | int j=>obtain⟨t',rfl⟩:=ry;exact eq_int (B0 I q Sd)
   | str j=>obtain⟨t',rfl⟩:=ry;exact PySem.EqMixed.eq_int_str (B0 I q (by simp))
   | _=>exact absurd (show false=true from hs) Bool.false_ne_true
 | str i=>
   obtain⟨t,rfl⟩:=rx
   cases y with
   | non=>cases ry;exact PySem.EqNone.eq_str_none (B0 I q (by simp))
   | bl j=>cases ry;exact PySem.EqMixed.eq_str_bool (B0 I q (by simp))
   | int j=>obtain⟨t',rfl⟩:=ry;exact PySem.EqMixed.eq_str_int (B0 I q (by simp))
   | str j=>obtain⟨t',rfl⟩:=ry;exact eq_str (B0 I q Tb)
   | _=>exact absurd (show false=true from hs) Bool.false_ne_true
 | byt i=>
   obtain⟨t,rfl⟩:=rx
   cases y with
   | byt j=>obtain⟨t',rfl⟩:=ry;exact PySem.W.eq_bytes (B0 I q Qs)
   | _=>exact absurd (show false=true from hs) Bool.false_ne_true
 | _=>cases y<;>exact absurd (show false=true from hs) Bool.false_ne_true
theorem op_ne:OpR X (compareOp .NotEq) rNe:=by
 intro pins s σ H x y v u Q I rx ry h
 obtain⟨hs,q⟩:=h
 cases x with
 | non=>
   cases rx
   cases y with
   | non=>cases ry;exact PySem.EqNone.ne_none_none (B0 I q (by simp))
   | bl j=>cases ry;exact PySem.EqNone.ne_none_bool (B0 I q (by simp))
   | int j=>obtain⟨t',rfl⟩:=ry;exact PySem.EqNone.ne_none_int (B0 I q (by simp))
   | str j=>obtain⟨t',rfl⟩:=ry;exact PySem.EqNone.ne_none_str (B0 I q (by simp))
   | _=>exact absurd (show false=true from hs) Bool.false_ne_true
 | bl i=>
   cases rx
   cases y with
   | non=>cases ry;exact PySem.EqNone.ne_bool_none (B0 I q (by simp))
   | bl j=>cases ry;exact ne_bool (B0 I q (congrArg not W9))
   | str j=>obtain⟨t',rfl⟩:=ry;exact PySem.EqMixed.ne_bool_str (B0 I q (by simp))
   | _=>exact absurd (show false=true from hs) Bool.false_ne_true
 | int i=>
   obtain⟨t,rfl⟩:=rx
   cases y with
   | non=>cases ry;exact PySem.EqNone.ne_int_none (B0 I q (by simp))
   | int j=>obtain⟨t',rfl⟩:=ry;exact ne_int (B0 I q (congrArg not Sd))
   | str j=>obtain⟨t',rfl⟩:=ry;exact PySem.EqMixed.ne_int_str (B0 I q (by simp))
   | _=>exact absurd (show false=true from hs) Bool.false_ne_true
 | str i=>
   obtain⟨t,rfl⟩:=rx
   cases y with
   | non=>cases ry;exact PySem.EqNone.ne_str_none (B0 I q (by simp))
   | bl j=>cases ry;exact PySem.EqMixed.ne_str_bool (B0 I q (by simp))
   | int j=>obtain⟨t',rfl⟩:=ry;exact PySem.EqMixed.ne_str_int (B0 I q (by simp))
   | str j=>obtain⟨t',rfl⟩:=ry;exact ne_str (B0 I q (congrArg not Tb))
   | _=>exact absurd (show false=true from hs) Bool.false_ne_true
 | byt i=>
   obtain⟨t,rfl⟩:=rx
   cases y with
   | byt j=>obtain⟨t',rfl⟩:=ry;exact PySem.W.ne_bytes (B0 I q (congrArg not Qs))
   | _=>exact absurd (show false=true from hs) Bool.false_ne_true
 | _=>cases y<;>exact absurd (show false=true from hs) Bool.false_ne_true
theorem Wt:OpR X (compareOp .Lt) (rI0 fun i j=>.bl (decide (i<j))):=ab8 fun _ _ _ _ _ _ _ q=>lt_int q
theorem S8:OpR X (compareOp .Gt) (rI0 fun i j=>.bl (decide (j<i))):=ab8 fun _ _ _ _ _ _ _ q=>gt_int q
theorem op_in_str:OpR X (compareOp .In) (fun x y H Q=>∃ i j,x = .str i/\y = .str j/\Q (.bl (!(Builtin.Str.occurrences j i 0 j.length 1).isEmpty)) H):=by
 intro pins s σ H x y v u Q I rx ry h
 obtain⟨i,j,rfl,rfl,q⟩:=h
 obtain⟨t,rfl⟩:=rx
 obtain⟨t',rfl⟩:=ry
 exact in_str (B0 I q rfl)
theorem OpR.or {f:Value->Value->Sem Value}{r r':R2}(h:OpR X f r)(h':OpR X f r'):OpR X f (fun x y H Q=>r x y H Q\/r' x y H Q):=by
 intro pins s σ H x y v u Q I rx ry q
 rcases q with q | q
 . exact h pins s σ H x y v u Q I rx ry q
 exact h' pins s σ H x y v u Q I rx ry q
theorem Aq (b:Expr){op:CmpOp}(h:op ≠ .In:=by decide)(h2:op ≠ .NotIn:=by decide):behindInMarks op b=false:=by
 have e1:(op==CmpOp.In)=false:=by cases op<;>first | rfl | exact absurd rfl h
 have e2:(op==CmpOp.NotIn)=false:=by cases op<;>first | rfl | exact absurd rfl h2
 cases b<;>simp[behindInMarks,e1,e2]
theorem D0 {op:CmpOp}{r:R2}(ho:OpR X (compareOp op) r)(ha:PE X a ta)(hb:PE X b tb)(hm:behindInMarks op b=false):PE X (.Compare a [op] [b] pos) (tOp r ta tb):=by
 intro pins s σ H Q I h
 exact wpAny_Compare1 (a92 ha hb I h fun v u s2 x y H2 I2 rx ry q=>ho pins s2 σ H2 x y v u Q I2 rx ry q) hm
def Zm (t:TE):TT:=fun σ H Q=>t σ H fun x H'=>∃ k,x = .bl k/\Q k H'
theorem Ag {op:CmpOp}{r:R2}(ho:OpR X (compareOp op) r)(ha:PE X a ta)(hb:PE X b tb)(hm:behindInMarks op b=false):PT X (.Compare a [op] [b] pos) (Zm (tOp r ta tb)):=by
 intro pins s σ H Q I h
 refine wpAny_isTrue_Compare1 (thn (ha pins s σ H _ I h) fun v s1 ⟨x,H1,I1,r1,q1⟩=>thn (hb pins s1 σ H1 _ I1 q1) fun u s2 ⟨y,H2,I2,r2,q2⟩=>
  thn (ho pins s2 σ H2 x y v u _ I2 r1 r2 q2) fun c s3 ⟨z,H3,I3,r3,k,e,q3⟩=>?_) hm
 subst e
 cases r3
 exact wpAny_truthy_bool ⟨H3,I3,q3⟩
theorem Mn:(sizeLine:Nat)<2 ^ 63:=by rw[sizeLine_eq];decide
theorem op_add_str:OpR X (binaryOp .Add) (fun x y H Q=>∃ i j,x = .str i/\y = .str j/\i.length+j.length<=sizeLine/\Q (.str (i++j)) H):=by
 intro pins s σ H x y v u Q I rx ry h
 obtain⟨i,j,rfl,rfl,hz,q⟩:=h
 obtain⟨t,rfl⟩:=rx
 obtain⟨t',rfl⟩:=ry
 exact add_str (fun t' tk=>⟨.str (i++j),H,I.tok _,⟨_,rfl⟩,q⟩) hz
theorem G5 {x:V}{us:List Value}(r:Vals [x] us):∃ u,us=[u]/\RelV x u:=by
 cases r with
 | cons r1 r2=>cases r2;exact⟨_,rfl,r1⟩
theorem Q5 {x y:V}{us:List Value}(r:Vals [x,y] us):∃ u w',us=[u,w']/\RelV x u/\RelV y w':=by
 cases r with
 | cons r1 r2=>
   cases r2 with
   | cons r3 r4=>cases r4;exact⟨_,_,rfl,r1,r3⟩
theorem Qk:CallR X (.type "int") (fun xs H Q=>(∃ i,xs=[.int i]/\Q (.int i) H)\/∃ k,xs=[.bl k]/\Q (.int (if k then 1 else 0)) H):=by
 intro pins s σ H xs us Q I r h
 rcases h with ⟨i,rfl,q⟩ | ⟨k,rfl,q⟩
 . obtain⟨u,rfl,t,rfl⟩:=G5 r
   exact call_int_int ⟨.int i,H,I,⟨_,rfl⟩,q⟩
 obtain⟨u,rfl,r1⟩:=G5 r
 cases r1
 exact call_int_bool ⟨.int (if k then 1 else 0),H,I.tok _,⟨_,rfl⟩,q⟩
def ad2 (K:PySem.W.Frag)(x:V)(H:Hp)(n:Nat):Prop:=
 match x with
 | .str y=>y.length<=sizeLine/\n=y.length
 | .byt y=>y.size<=sizeLine/\n=y.size
 | .ref p=>(∃ xs,SqL K H p xs/\n=xs.length)\/∃ xs,SqT K H p xs/\n=xs.length
 | _=>False
theorem call_len:CallR X (.builtin "len") (fun xs H Q=>∃ x n,xs=[x]/\ad2 X.K x H n/\Q (.int n) H):=by
 intro pins s σ H xs us Q I r h
 obtain⟨x,n,rfl,e,q⟩:=h
 obtain ⟨u,rfl,rx⟩:=G5 r
 have hl:=Mn
 have hs:sizeLine=16777216:=sizeLine_eq
 cases x with
 | str y=>
   obtain⟨t,rfl⟩:=rx
   obtain⟨hy,e'⟩:y.length<=sizeLine/\n=y.length:=e
   subst e'
   exact len_str (by omega) ⟨.int _,H,I.tok _,⟨_,rfl⟩,q⟩
 | byt y=>
   obtain⟨t,rfl⟩:=rx
   obtain⟨hy,e'⟩:y.size<=sizeLine/\n=y.size:=e
   subst e'
   exact PySem.W.len_bytes (by omega) ⟨.int _,H,I.tok _,⟨_,rfl⟩,q⟩
 | ref p=>
   cases rx
   have e':(∃ xs,SqL X.K H p xs/\n=xs.length)\/∃ xs,SqT X.K H p xs/\n=xs.length:=e
   rcases e' with ⟨xs,hx,e'⟩ | ⟨xs,hx,e'⟩
   . subst e'
     obtain⟨its,r',pl,hz⟩:=I.list hx
     have hlen:=r'.length
     exact Calls.call_len_list pl.isList (by simp only[List.size_toArray];omega) ⟨.int xs.length,H,I.tok _,⟨_,by simp only[List.size_toArray];rw[hlen]⟩,q⟩
   subst e'
   obtain⟨its,r',pl,hz⟩:=I.tuple hx
   have hlen:=r'.length
   exact len_tuple pl (by simp only[List.size_toArray];omega) ⟨.int xs.length,H,I.tok _,⟨_,by simp only[List.size_toArray];rw[hlen]⟩,q⟩
 | _=>exact(show False from e).elim
end
structure ObjM (h:Heap)(x dx C:Addr)(mA:Str->Option Value):Prop where
 obj:h.get? x=some (PySem.W.instObj C dx)
 ns:h.Ns1 dx mA
 ne:dx≠x
theorem Sr {h:Heap}{dx:Addr}{mA:Str->Option Value}(n:h.Ns1 dx mA):∃ od,h.get? dx=some od/\∀ name,PySem.W.lookIn name od=some (mA name):=by
 obtain⟨o,es,ep,ho,hd,hk,_,hm⟩:=n
 refine⟨o,ho,fun name=>?_⟩
 have e:=hm name
 unfold nsFind findBy at e
 rw[<- Array.find?_toList] at e
 unfold PySem.W.lookIn
 rw[hd]
 dsimp only
 split
 . rename_i y q
   rw[q] at e
   exact congrArg some e
 rename_i q
 rw[q] at e
 have a:es.toList.any (·.refKey)=false:=by
  rw[List.any_eq_false]
  intro y hy
  obtain⟨z,t,hkey⟩:=hk y (Array.mem_toList_iff.mp hy)
  simp[DictEntry.refKey,hkey]
 have a':¬ es.toList.any (·.refKey)=true:=by rw[a];exact Bool.false_ne_true
 rw[if_neg a']
 exact congrArg some e
theorem ObjM.look {h:Heap}{x dx C:Addr}{mA:Str->Option Value}(I:ObjM h x dx C mA):∃ od,PySem.W.InstAt h x (PySem.W.instObj C dx) C (some od)/\∀ name,PySem.W.lookIn name od=some (mA name):=
 let ⟨od,ho,hl⟩:=Sr I.ns
 ⟨od,⟨I.obj,rfl,rfl,ho⟩,hl⟩
section
variable {prog:Program}{w:World}{A:Around}{E:Value->Shared->Prop}{s:Shared}{K:PySem.W.Frag}{x dx C f:Addr}{mA:Str->Option Value}{name:Str}{v:Value}
end
theorem RelO.some_of {v:V}{o:Option Value}(r:RelO (some v) o):∃ u,o=some u/\RelV v u:=by
 cases o with
 | none=>exact(show False from r).elim
 | some u=>exact⟨u,rfl,r⟩
section
variable {P:Program}{w:World}{H H':Hp}{h h':Heap}{a C dx:Addr}{fs fs':List (Str×V)}
theorem Xj (hok:HOk P w H h)(e:H a=some (.ins C dx fs)):∃ mA,ObjM h a dx C mA/\(∀ f,RelO (fs.lookup f) (mA f))/\PySem.Within mA (fs.map (·.1))/\fs.length<=1000/\H dx=some (.own a):=by
 obtain⟨d,z,ne,ob,mA,n,r,q⟩:=(show ObjOk P w H h a (.ins C dx fs) from hok a _ e)
 exact⟨mA,⟨ob,n,ne⟩,r,q,z,d⟩
end
structure Cls (K:PySem.W.Frag)(C:Addr):Prop where
 pg:PySem.W.plainGet K C Str.empty=true
 hd:PySem.W.hasDictIn K C=true
 po:PySem.W.plainOver K C=true
 sa:PySem.W.findIn K (.ref C) "__setattr__" = some (some (.builtin "object.__setattr__"))
theorem Cls.get {K:PySem.W.Frag}{C:Addr}(c:Cls K C)(f:Str):PySem.W.plainGet K C f=true:=c.pg
def a64 (K:PySem.W.Frag)(C:Addr)(f:Str):Prop:=PySem.W.findIn K (.ref C) f=some none
section
variable {X:Cx}{pins:List (Addr×Obj)}{σ:St}{H:Hp}{s:Shared}{a C dx:Addr}{fs:List (Str×V)}{f:Str}{v:V}{A:Around}{E:Value->Shared->Prop}
end
section
variable {X:Cx}{o e value:Expr}{f:Str}{pos pos' tpos:Pos}{ta tv:TE}
end
section
variable {X:Cx}{pins:List (Addr×Obj)}{σ:St}{H:Hp}{s:Shared}{A:Around}{E:Value->Shared->Prop}{Q:Value->Shared->Prop}{c:Value}{b:Bool}
inductive TyOf (K:PySem.W.Frag)(H:Hp):V->Value->Prop where
 | non:TyOf K H .non (.type "NoneType")
 | bl (x:Bool):TyOf K H (.bl x) (.type "bool")
 | int (i:Int):TyOf K H (.int i) (.type "int")
 | str (x:Str):TyOf K H (.str x) (.type "str")
 | flt (x:UInt64):TyOf K H (.flt x) (.type "float")
 | lst {a:Addr} {xs:List V} (e:H a=some (.lst xs)):TyOf K H (.ref a) (.type "list")
 | frz {a:Addr} {o:Obj} {xs:List V} (e:H a=some (.frz o (.lst xs))):TyOf K H (.ref a) (.type "list")
 | tup {a:Addr} {xs:List V} (e:H a=some (.tup xs)):TyOf K H (.ref a) (.type "tuple")
 | dK {a:Addr} {kvs:List (Key×V)} (e:H a=some (.dK kvs)):TyOf K H (.ref a) (.type "dict")
 | dT {a:Addr} {kvs:List (List Key×V)} (e:H a=some (.dT kvs)):TyOf K H (.ref a) (.type "dict")
 | ins {a C dx:Addr} {fs:List (Str×V)} (e:H a=some (.ins C dx fs)) (cl:Cls K C) (ha:PySem.W.findIn K (.ref C) "__class__" = some (some (.builtin "object.__class__")))
   (hn:PySem.W.specialIn K (.builtin "object.__class__") "__get__" = some (some (.builtin "getset_descriptor.__get__"))) (htk:PySem.W.takesIn K (.builtin "object.__class__")=some true)
   (hm:PySem.W.mroIn K C (.type "object")=some true):TyOf K H (.ref a) (.ref C)
theorem Lh {x:V}{u t:Value}(I:Inv X pins σ H s)(rx:RelV x u)(ty:TyOf X.K H x t)(e:PySem.W.kitOne X.K t c=some b)(h:∀ tk,Q (.bool b) { s with toks:=tk }) :
  wpAny (model X.prog X.w) A (call (.builtin "isinstance") [u,c]) Q E s:=by
 cases ty with
 | non=>cases (show u=Value.none from rx);exact PySem.W.kia_one PySem.W.kitx_none I.kIn True.intro e (fun z=>nomatch z) h
 | bl y=>cases (show u=Value.bool y from rx);exact PySem.W.kia_one PySem.W.kitx_bool I.kIn True.intro e (fun z=>nomatch z) h
 | int i=>obtain⟨t,q⟩:=(show ∃ t,u=Value.int i t from rx);cases q;exact PySem.W.kia_one PySem.W.kitx_int I.kIn True.intro e (fun z=>nomatch z) h
 | str y=>obtain⟨t,q⟩:=(show ∃ t,u=Value.str y t from rx);cases q;exact PySem.W.kia_one PySem.W.kitx_str I.kIn True.intro e (fun z=>nomatch z) h
 | flt y=>obtain⟨t,q⟩:=(show ∃ t,u=Value.float y t from rx);cases q;exact PySem.W.kia_one PySem.W.kitx_float I.kIn True.intro e (fun z=>nomatch z) h
 | @lst a xs ea=>
   cases (show u=Value.ref a from rx)
   obtain⟨_,_,n,_,h1⟩:=(show ObjOk X.prog X.w H s.heap a (.lst xs) from I.hok a _ ea)
   exact PySem.W.kia_one PySem.W.kitx_list I.kIn ⟨_,h1,rfl⟩ e (fun z=>nomatch z) h
 | @frz a ob xs ea=>
   cases (show u=Value.ref a from rx)
   obtain⟨_,_,_,n,_,h1⟩:=(show ObjOk X.prog X.w H s.heap a (.frz ob (.lst xs)) from I.hok a _ ea)
   exact PySem.W.kia_one PySem.W.kitx_list I.kIn ⟨_,h1,rfl⟩ e (fun z=>nomatch z) h
 | @tup a xs ea=>
   cases (show u=Value.ref a from rx)
   obtain⟨_,_,_,p⟩:=(show ObjOk X.prog X.w H s.heap a (.tup xs) from I.hok a _ ea)
   obtain⟨o,h1,h2,_⟩:=p
   exact PySem.W.kia_one PySem.W.kitx_tuple I.kIn ⟨o,h1,h2⟩ e (fun z=>nomatch z) h
 | @dK a kvs ea=>
   cases (show u=Value.ref a from rx)
   obtain⟨_,_,vs,_,p⟩:=(show ObjOk X.prog X.w H s.heap a (.dK kvs) from I.hok a _ ea)
   obtain⟨o,es,ep,h1,h2,_⟩:=p
   exact PySem.W.kia_one PySem.W.kitx_dict I.kIn ⟨o,h1,h2.1⟩ e (fun z=>nomatch z) h
 | @dT a kvs ea=>
   cases (show u=Value.ref a from rx)
   obtain⟨_,_,xs,_,o,es,ep,h1,h2,_⟩:=(show ObjOk X.prog X.w H s.heap a (.dT kvs) from I.hok a _ ea)
   exact PySem.W.kia_one PySem.W.kitx_dict I.kIn ⟨o,h1,h2.1⟩ e (fun z=>nomatch z) h
 | @ins a C dx fs ea cl ha hn htk hm=>
   cases (show u=Value.ref a from rx)
   obtain⟨mA,O,_⟩:=Xj I.hok ea
   obtain⟨od,J,_⟩:=O.look
   exact PySem.W.kia_one (PySem.W.kitx_own (cl.get _) cl.hd ha hn htk hm) I.kIn J e (fun z=>nomatch z) h
end
structure Room (k:Nat)(A:Around):Prop where
 hd:A.handled=none
 dp:A.depth+3*k+5<recursionLimit
 un:A.units+16*k+200<cLine
 gd:A.guards=some []
theorem Room.mono {j k:Nat}{A:Around}(r:Room k A)(h:j<=k):Room j A:=⟨r.hd,by have:=r.dp;omega,by have:=r.un;omega,r.gd⟩
theorem Room.deeper {k:Nat}{A:Around}(r:Room (k+1) A)(env:Env):Room k (A.deeper env):=
 ⟨r.hd,by have:=r.dp;show A.depth+1+3*k+5<_;omega,by have:=r.un;show A.units+3+16*k+200<_;omega,r.gd⟩
theorem Room.depth {k:Nat}{A:Around}(r:Room k A):A.depth<recursionLimit:=by have:=r.dp;omega
theorem Room.units {k:Nat}{A:Around}(r:Room k A):A.units+64<cLine:=by have:=r.un;omega
def ae1:TA:=fun _ H Q=>Q [] H
def Zz (ta:TE)(tr:TA):TA:=fun σ H Q=>ta σ H fun x H1=>tr σ H1 fun xs H2=>Q (x :: xs) H2
section
variable {X:Cx}{e:Expr}{es:List Expr}{te:TE}{t:TA}{pos:Pos}
theorem A1:PA X [] ae1:=fun _ _ _ _ H Q I h=>Calls.spliced_nil ⟨[],H,I,.nil,h⟩
theorem A0 (ha:PE X e te)(hr:PA X es t)(hs:starEach (e :: es) X.env=(false,eval e X.env) :: starEach es X.env:=by ac_nf):PA X (e :: es) (Zz te t):=by
 intro pos pins s σ H Q I h
 rw[hs]
 show wpAny _ _ (spliced ((false,eval e X.env) :: backTo pos (starEach es X.env))) _ _ s
 refine Calls.spliced_cons (thn (ha pins s σ H _ I h) fun u s1 ⟨x,H1,I1,r1,q1⟩=>?_)
 exact thn (hr pos pins s1 σ H1 _ I1 q1) fun us s2 ⟨xs,H2,I2,r2,q2⟩=>⟨x :: xs,H2,I2,.cons r1 r2,q2⟩
def ac9 (t:TA):TE:=fun σ H Q=>t σ H fun xs H1=>xs.length<=sizeLine/\∀ p,H1 p=none->Q (.ref p) (upd H1 p (.tup xs))
def ae2 (t:TA):TE:=fun σ H Q=>t σ H fun xs H1=>xs.length<=sizeLine/\∀ p,H1 p=none->Q (.ref p) (upd H1 p (.lst xs))
theorem B1 {x1}(h:PA X es t):PE X (.Tuple es x1 pos) (ac9 t):=by
 intro pins s σ H Q I hq
 refine wpAny_Tuple_spliced (thn (h pos pins s σ H _ I hq) fun us s1 ⟨xs,H1,I1,r,z,q⟩=>⟨by rw[<- r.length];exact z,?_⟩)
 have hf:H1 s1.heap.objs.size=none:=I1.hok.fresh (Nat.le_refl _)
 refine⟨.ref s1.heap.objs.size,upd H1 s1.heap.objs.size (.tup xs),I1.laid (t':=s1.toks) (fun b u e=>Heap.get?_push_of_some _ e) (Nat.le_refl _) ?_,rfl,q _ hf⟩
 exact⟨z,us,r,⟨_,Heap.get?_push_size _ rfl,rfl,⟨_,rfl⟩,rfl⟩⟩
theorem Az (h:PA X es t):PE X (.List es pos) (ae2 t):=by
 intro pins s σ H Q I hq
 refine wpAny_List_spliced (thn (h pos pins s σ H _ I hq) fun us s1 ⟨xs,H1,I1,r,z,q⟩=>⟨by rw[<- r.length];exact z,?_⟩)
 have hf:H1 s1.heap.objs.size=none:=I1.hok.fresh (Nat.le_refl _)
 refine⟨.ref s1.heap.objs.size,upd H1 s1.heap.objs.size (.lst xs),I1.laid (t':=s1.toks) (fun b u e=>Heap.get?_push_of_some _ e) (Nat.le_refl _) ?_,rfl,q _ hf⟩
 exact⟨z,us,0,r,Heap.get?_push_size _ rfl⟩
end
abbrev Sp:=List V->Hp->VK->XK->Prop
abbrev CXT:=List Env->Hp->Shared->XK->Value->Shared->Prop
structure a79 (P:Program)(w:World)(K:PySem.W.Frag)(mg:Str->Option Value)(base:Heap)(A:Around)(outer:List Env)(s:Shared)(H:Hp):Prop where
 frames:A.frames=some outer
 mod:Mod K mg base
 bs:∀ b o,base.get? b=some o->s.heap.get? b=some o/\H b=none
 bsz:base.objs.size<=s.heap.objs.size
 funs:s.heap.FunFrames base outer
 frf:∀ b∈frs outer,H b=none
 hok:HOk P w H s.heap
 bare:AllBare s.gens
def CE (outer:List Env)(P:Program)(w:World)(H:Hp)(s:Shared)(Q:VK)(u:Value)(s':Shared):Prop:=
 ∃ v H',s'.os=s.os/\AllBare s'.gens/\Un (frs outer) [] H H' s.heap s'.heap/\HOk P w H' s'.heap/\RelV v u/\Q v H'
def CR (CX:CXT)(outer:List Env)(P:Program)(w:World)(H:Hp)(s:Shared)(Q:VK)(E:XK)(r:Result)(s':Shared):Prop:=
 match r with
 | .ok (.ret u)=>CE outer P w H s Q u s'
 | .ok _=>False
 | .error e=>CX outer H s E e s'
structure FnOk (P:Program)(w:World)(K:PySem.W.Frag)(mg:Str->Option Value)(base:Heap)(CX:CXT)(k:Nat)(f:Addr)(fd:FuncData)(ps:List Str)(sp:Sp):Prop where
 len:∀ vs H Q E,sp vs H Q E->vs.length=ps.length
 run:∀(A:Around) (outer:List Env) (s:Shared) (H:Hp) (args:Args) (us:List Value) (vs:List V) (Q:VK) (E:XK),Room k A->a79 P w K mg base A outer s H->BindsTo s fd args (ps.zip us)->Vals vs us->sp vs H Q E ->
  codeAny (model P w) A (.call (.ref f) args) (CR CX outer P w H s Q E) s
section
variable {X:Cx}{pins:List (Addr×Obj)}{σ:St}{H:Hp}{s s':Shared}
theorem Inv.env0 (I:Inv X pins σ H s):a79 X.prog X.w X.K X.mg X.base X.A X.stack s H:=
 ⟨I.ok.frames,I.ok.mod,I.bs,Nat.le_trans I.ok.bsz I.sz,I.stack,I.stkFree,I.hok,I.bare⟩
theorem Inv.after {Q:VK}{u:Value}(I:Inv X pins σ H s)(h:CE X.stack X.prog X.w H s Q u s'):EP X pins σ Q u s':=by
 obtain⟨v,H',os,bare,un,hok,r,q⟩:=h
 obtain⟨hh,g,d,t,os'⟩:=s'
 obtain rfl:os'=s.os:=os
 exact⟨v,H',I.call (h':=hh) (g':=g) (d':=d) (t':=t) (ch:=[]) un hok bare (fun b z=>absurd z (by simp)),r,q⟩
end
def Tr (sp:Sp)(dvs:List V)(E:XK)(t:TA):TE:=fun σ H Q=>t σ H fun vs H1=>sp (vs++dvs) H1 Q E
def Binds (K:PySem.W.Frag)(fd:FuncData)(ps:List Str)(ds:List Value):Prop:=
 ∀(s:Shared) (us:List Value),K.In s.heap->(us++ds).length=ps.length->BindsTo s fd ⟨us,[]⟩ (ps.zip (us++ds))
theorem Binds.all {K:PySem.W.Frag}{fd:FuncData}{ps:List Str}(h:∀ us:List Value,us.length=ps.length->bindArgs fd ⟨us,[]⟩=pure (ps.zip us)):Binds K fd ps []:=fun s us _ hl=>by
 rw[List.append_nil] at hl ⊢
 exact .of_eq (h us hl)
def La (CX:CXT)(X:Cx)(E:XK):Prop:=∀(pins:List (Addr×Obj)) (σ:St) (H:Hp) (s:Shared) (e:Value) (s':Shared),Inv X pins σ H s->CX X.stack H s E e s'->X.xe e s'
section
variable {X:Cx}{CX:CXT}{k:Nat}{f C:Addr}{fd:FuncData}{ps:List Str}{sp:Sp}{dvs:List V}{ds:List Value}{E:XK}{x m:Str}{p pos apos:Pos}{e o:Expr}{es:List Expr}{ta:TE}{t:TA}
theorem Zi {pins:List (Addr×Obj)}{σ:St}{H:Hp}{s:Shared}{Q:VK}{us:List Value}{vs:List V}(F:FnOk X.prog X.w X.K X.mg X.base CX k f fd ps sp)(hr:Room k X.A)(hb:Binds X.K fd ps ds)(hd:Vals dvs ds)(hx:La CX X E)
  (I:Inv X pins σ H s) (r:Vals vs us) (h:sp (vs++dvs) H Q E):wpAny (model X.prog X.w) X.A (call (.ref f) us) (EP X pins σ Q) X.xe s:=by
 have r2:Vals (vs++dvs) (us++ds):=r.append hd
 have hl:(us++ds).length=ps.length:=by rw[<- r2.length];exact F.len _ _ _ _ h
 refine wpAny_call (codeAny_mono (F.run X.A X.stack s H ⟨us,[]⟩ (us++ds) (vs++dvs) Q E hr I.env0 (hb s us I.kIn hl) r2 h) fun r s' hq=>?_)
 cases r with
 | error e=>exact hx pins σ H s e s' I hq
 | ok fl=>
   cases fl with
   | ret u=>exact I.after hq
   | next=>exact False.elim hq
   | brk=>exact False.elim hq
   | cont=>exact False.elim hq
theorem Ry (F:FnOk X.prog X.w X.K X.mg X.base CX k f fd ps sp)(hr:Room k X.A)(hg:Gl X x)(hm:X.mg x=some (.ref f))(hk:PySem.W.keepIn X.K (.ref f)=true)(hb:Binds X.K fd ps ds)(hd:Vals dvs ds)(hx:La CX X E)
  (ha:PA X (e :: es) t) (hdb:(x==("__debug__":Str))=false:=by decide) (he:starEach (e :: es) X.env=(false,eval e X.env) :: starEach es X.env:=by ac_nf) (hpl:(backTo pos (starEach es X.env)).any (·.1)=false:=by ac_nf) :
  PE X (.Call (.Name x p) (e :: es) [] pos) (Tr sp dvs E t):=by
 intro pins s σ H Q I h
 refine wpAny_Call_Name_kw (Kk I hg hm ?_ hdb)
 refine PySem.W.callWith_K (h₀:=X.base) I.ok.mod.kin hk (thn (ha pos pins s σ H _ I h) fun us s1 ⟨vs,H1,I1,r,q⟩=>⟨I1.kIn,?_⟩) he hpl
 exact Zi F hr hb hd hx I1 r q
end
section
variable {X:Cx}{CX:CXT}{k:Nat}{f C:Addr}{fd:FuncData}{ps ks:List Str}{sp:Sp}{E:XK}{x m:Str}{p pos apos kpos:Pos}{e o:Expr}{es:List Expr}{kws:List Keyword}{te ta:TE}{t tk:TA}{nm:Option Str}
variable {g:List Value->List Value->List Value}{gV:List V->List V->List V}
end
structure Ak (N P:List Str)(sc:Scope):Prop where
 kind:sc.kind = .function
 co:sc.isCoroutine=false
 gen:sc.isGenerator=false
 nd:N.Nodup
 pre:N.take P.length=P
 par:∀ x∈P,sc.names.lookup x=some .local\/sc.names.lookup x=some .cell
 nofree:∀ y∈sc.names,y.2 ≠ .free
theorem Lb {kindOf:Str->Option NameKind}{x:Str}:∀ {binds:List (Str×Value)} {m:Str->Option Value},(∀ v,(x,v)∉binds)->bindL kindOf binds m x=m x
 | [],_,_=>rfl
 | (n,v) :: r,m,h=>by
   unfold bindL
   rw[Lb fun w hw=>h w (List.mem_cons_of_mem _ hw)]
   split
   . have:x≠n:=by rintro rfl;exact h v List.mem_cons_self
     simp[this]
   rfl
theorem Md {kindOf:Str->Option NameKind}{x:Str}:∀ {binds:List (Str×Value)} {m:Str->Option Value},(∀ v,(x,v)∉binds)->bindC kindOf binds m x=m x
 | [],_,_=>rfl
 | (n,v) :: r,m,h=>by
   unfold bindC
   rw[Md fun w hw=>h w (List.mem_cons_of_mem _ hw)]
   split
   . rfl
   have:x≠n:=by rintro rfl;exact h v List.mem_cons_self
   simp[this]
theorem Mr {kindOf:Str->Option NameKind} {x:Str} {v:Value}:∀ {P:List Str} {vs:List Value} {i:Nat} {m:Str->Option Value},P.Nodup->P[i]? = some x->vs[i]? = some v->kindOf x=some .local ->
  bindL kindOf (P.zip vs) m x=some v
 | [],_,_,_,_,h,_,_=>by simp at h
 | _ :: _,[],_,_,_,_,h,_=>by simp at h
 | p :: P,w :: vs,0,m,nd,h1,h2,hk=>by
   simp at h1 h2;subst h1;subst h2
   show bindL kindOf ((p,w) :: P.zip vs) m p=_
   unfold bindL
   rw[Lb fun v hv=>(List.nodup_cons.mp nd).1 (List.of_mem_zip hv).1,if_pos hk]
   simp
 | p :: P,w :: vs,i+1,m,nd,h1,h2,hk=>by
   show bindL kindOf ((p,w) :: P.zip vs) m x=_
   unfold bindL
   exact Mr (i:=i) (List.nodup_cons.mp nd).2 (by simpa using h1) (by simpa using h2) hk
theorem Mh {kindOf:Str->Option NameKind} {x:Str} {v:Value}:∀ {P:List Str} {vs:List Value} {i:Nat} {m:Str->Option Value},P.Nodup->P[i]? = some x->vs[i]? = some v->kindOf x≠some .local ->
  bindC kindOf (P.zip vs) m x=some v
 | [],_,_,_,_,h,_,_=>by simp at h
 | _ :: _,[],_,_,_,_,h,_=>by simp at h
 | p :: P,w :: vs,0,m,nd,h1,h2,hk=>by
   simp at h1 h2;subst h1;subst h2
   show bindC kindOf ((p,w) :: P.zip vs) m p=_
   unfold bindC
   rw[Md fun v hv=>(List.nodup_cons.mp nd).1 (List.of_mem_zip hv).1,if_neg hk]
   simp
 | p :: P,w :: vs,i+1,m,nd,h1,h2,hk=>by
   show bindC kindOf ((p,w) :: P.zip vs) m x=_
   unfold bindC
   exact Mh (i:=i) (List.nodup_cons.mp nd).2 (by simpa using h1) (by simpa using h2) hk
def Kx (N:List Str)(vs:List V):St:=vs.map some++List.replicate (N.length-vs.length) none
def Tl (CX:CXT)(P:Program)(w:World)(K:PySem.W.Frag)(mg:Str->Option Value)(base:Heap)(N:List Str)(qual:Str)(scope:Scope)(f:Addr)(cd:Value)(A:Around)(outer:List Env)(s:Shared)(H:Hp)(E:XK):Cx where
 prog:=P
 w:=w
 K:=K
 mg:=mg
 base:=base
 A:=A.deeper (envOfC qual scope s.heap.objs.size f cd)
 N:=N
 s₀:=s
 H₀:=H
 env:=envOfC qual scope s.heap.objs.size f cd
 outer:=outer
 stack:=envOfC qual scope s.heap.objs.size f cd :: outer
 ex:=[]
 calm:=true
 fn:=fun _=>true
 pn:=[]
 xe:=fun e s'=>wpAny (model P w) (A.deeper (envOfC qual scope s.heap.objs.size f cd)) (leaving (envOfC qual scope s.heap.objs.size f cd) e) (fun _ s''=>CX outer H s E e s'') (fun e' s''=>CX outer H s E e' s'') s'
theorem Oz {sc:Scope}{n:Nat}{x:Str}(h:sc.names.lookup x=some .cell):∃ c,(cellsFrom n sc.names []).lookup x=some c:=by
 have q:=PySem.W.cellsFrom_some sc.names n [] (.inl h)
 exact Option.isSome_iff_exists.mp q
theorem Qj {CX:CXT}{P:Program}{w:World}{K:PySem.W.Frag}{mg:Str->Option Value}{base:Heap}{N ps:List Str}{qual:Str}{scope:Scope}{f:Addr}{cd:Value}{A:Around}{outer:List Env}{s s1:Shared}{H:Hp}{E:XK}{us:List Value}{vs:List V}
  (S:Ak N ps scope) (hd:A.handled=none) (e0:a79 P w K mg base A outer s H) (hl:vs.length=ps.length) (r:Vals vs us)
  (x:InCallC s s.heap.objs.size (bindL (envOfC qual scope s.heap.objs.size f cd).kindOf (ps.zip us) fun _=>none) (cellsFrom (s.heap.objs.size+1) scope.names []) (bindC (envOfC qual scope s.heap.objs.size f cd).kindOf (ps.zip us) fun _=>none) s1) :
  Inv (Tl CX P w K mg base N qual scope f cd A outer s H E) [] (Kx N vs) H s1:=by
 have hpl:ps.length<=N.length:=by have:=congrArg List.length S.pre;rw[List.length_take] at this;omega
 obtain⟨h1,tk,rfl,hk⟩:=x.done
 have noA:∀ b:Addr,b∉(Tl CX P w K mg base N qual scope f cd A outer s H E).ex:=fun b z=>absurd (show b∈([]:List Addr) from z) (by simp)
 refine⟨⟨e0.mod,S.kind,rfl,rfl,Nat.le_refl _,fun y z c h1 h2=>?_,fun y hy=>?_,fun y c _ h=>?_,fun _=>hd,Around.frames_deeper e0.frames,.inr ⟨rfl,rfl⟩,fun b z=>absurd z (noA b),e0.bs,e0.bsz,fun b _ _=>noA b,fun b z=>absurd z (noA b),e0.funs,e0.frf⟩,
  rfl,e0.bare,Un.kept hk,⟨_,x.toInCall.ns,fun i y v h1 h2 h3=>?_⟩,fun y c h=>⟨_,x.cell y c h⟩,e0.hok.fresh (Nat.le_refl _),fun y c h=>?_,fun p hp=>absurd (show p∈([]:List (Addr×Obj)) from hp) (by simp),e0.hok.kept hk,?_⟩
 . exact name_of_addr x.apart (PySem.mem_of_lookup h1) (PySem.mem_of_lookup h2)
 . have hy:scope.names.lookup y=some .cell\/scope.names.lookup y=some .free:=hy
   rcases hy with hy | hy
   . exact Oz hy
   exact absurd rfl (S.nofree _ (PySem.mem_of_lookup hy))
 . exact Nat.le_of_lt (x.above y c (PySem.mem_of_lookup h))
 . have hi:i<vs.length:=by
    unfold Kx at h2
    by_cases hi:i<vs.length
    . exact hi
    rw[List.getElem?_append_right (by simpa using hi)] at h2
    rw[List.getElem?_replicate] at h2
    split at h2<;>cases h2
   have ha:vs[i]? = some v:=by
    unfold Kx at h2
    rw[List.getElem?_append_left (by simpa using hi),List.getElem?_map] at h2
    cases e:vs[i]? with
    | none=>rw[e] at h2;cases h2
    | some a=>rw[e] at h2;cases h2;rfl
   obtain⟨u,hu,rv⟩:=r.get ha
   have hp:ps[i]? = some y:=by
    rw[<- S.pre,List.getElem?_take_of_lt (by omega)];exact h1
   have ndP:ps.Nodup:=by rw[<- S.pre];exact S.nd.sublist (List.take_sublist _ _)
   refine⟨u,rv,?_⟩
   rcases S.par y (List.mem_of_getElem? hp) with k | k
   . exact .inl ⟨k,Mr ndP hp hu k⟩
   obtain⟨c,e⟩:=Oz (n:=s.heap.objs.size+1) k
   refine .inr ⟨.inl k,c,e,?_⟩
   have q:=x.cell y c e
   rw[Mh ndP hp hu (by show scope.names.lookup y≠_;rw[k];decide)] at q
   exact q
 . exact e0.hok.fresh (Nat.le_of_lt (x.above y c (PySem.mem_of_lookup h)))
 unfold Kx
 show _=N.length
 rw[List.length_append,List.length_map,List.length_replicate]
 omega
theorem a47 {CX:CXT}{P:Program}{w:World}{K:PySem.W.Frag}{mg:Str->Option Value}{base:Heap}{k:Nat}{f:Addr}{name qual:Str}{params:Arguments}{body:List Stmt}{scope:Scope}{dV kV doc pm cdv ct oc:Value}{an od:Option Addr}
  {osl:Array (Option Value)} {N ps:List Str} {sp:Sp} (lk:K.lookup f=some ⟨oc,od,.func (PySem.W.fnOf name qual params body scope dV kV doc pm an cdv ct),osl⟩) (hcd:PySem.W.codeIn K cdv qual=true) (S:Ak N ps scope)
  (len:∀ vs H Q E,sp vs H Q E->vs.length=ps.length)
  (hbody:∀(A:Around) (outer:List Env) (s:Shared) (H:Hp) (vs:List V) (Q:VK) (E:XK),Room k (A.deeper (envOfC qual scope s.heap.objs.size f cdv))->sp vs H Q E ->
   ∃ t,PSs (Tl CX P w K mg base N qual scope f cdv A outer s H E) body t/\t { nx:=fun _ H'=>Q .non H',rt:=Q } (Kx N vs) H) :
  FnOk P w K mg base CX (k+1) f (PySem.W.fnOf name qual params body scope dV kV doc pm an cdv ct) ps sp:=by
 refine⟨len,fun A outer s H args us vs Q E hr e0 hb r hsp=>?_⟩
 have hl:=len _ _ _ _ hsp
 have KX:K.In s.heap:=e0.mod.kin.keeps fun b o e=>(e0.bs b o e).1
 have lim:s.heap.NoLimit:=e0.mod.nolimit.keeps fun b o e=>(e0.bs b o e).1
 have hkind:∀ y∈ps.zip us,scope.names.lookup y.1=some .local\/(scope.names.lookup y.1=some .cell/\((cellsFrom (s.heap.objs.size+1) scope.names []).lookup y.1).isSome=true):=fun⟨n,v⟩ hy=>by
  rcases S.par n (List.of_mem_zip hy).1 with q | q
  . exact .inl q
  exact .inr ⟨q,PySem.W.cellsFrom_some _ _ _ (.inl q)⟩
 refine codeAny_call_function hr.depth (KX _ _ lk) rfl S.co S.gen rfl (PySem.W.codeRec_of KX hcd) (hb _ _ _ _ ?_)
 refine wpAny_newFunctionEnv_cells S.kind hkind fun env he s1 x=>?_
 subst he
 refine⟨lim.keeps x.toInCall.keep,codeAny_func ?_⟩
 obtain⟨t,ht,hq⟩:=hbody A outer s H vs Q E (hr.deeper _) hsp
 have I:Inv (Tl CX P w K mg base N qual scope f cdv A outer s H E) [] (Kx N vs) H s1:=Qj S hr.hd e0 hl r x
 refine wpAny_mono (ht [] s1 (Kx N vs) H _ I hq) (fun fl s' hs=>?_) fun e s' hs=>hs
 have fin:∀ {σ':St} {H':Hp} {v:V} {u:Value},Inv (Tl CX P w K mg base N qual scope f cdv A outer s H E) [] σ' H' s'->RelV v u->Q v H'->CE outer P w H s Q u s':=
  fun {σ' H' v u} J rv q=>⟨v,H',J.os,J.bare,J.base,J.hok,rv,q⟩
 cases fl with
 | ret u=>
   obtain⟨v,σ',H',J,rv,q⟩:=hs
   exact fin J rv q
 | next=>
   obtain⟨σ',H',J,q⟩:=hs
   exact fin (v:=V.non) (u:=Value.none) J rfl q
 | brk=>
   obtain⟨_,_,_,q⟩:=hs
   exact False.elim q
 | cont=>
   obtain⟨_,_,_,q⟩:=hs
   exact False.elim q
section
variable {X:Cx}{x:Str}{p pos:Pos}{e:Expr}{es:List Expr}{t:TA}{id T:String}{r:List V->Hp->VK->Prop}
def tCB (r:List V->Hp->VK->Prop)(t:TA):TE:=fun σ H Q=>t σ H fun vs H1=>r vs H1 Q
theorem A7 (hc:CallR X (.builtin id) r)(hg:Gl X x)(hm:X.mg x=none)(hv:bootBuiltins x=some (.builtin id))(ha:PA X (e :: es) t)(hn:x ≠ "__name__":=by decide)(hdb:(x==("__debug__":Str))=false:=by decide)
  (he:starEach (e :: es) X.env=(false,eval e X.env) :: starEach es X.env:=by ac_nf) (hpl:(backTo pos (starEach es X.env)).any (·.1)=false:=by ac_nf):PE X (.Call (.Name x p) (e :: es) [] pos) (tCB r t):=by
 intro pins s σ H Q I h
 refine wpAny_Call_Name_kw (Ju I hg hm hv ?_ hn hdb)
 exact PyProof.Rows.callWith_builtin1 (thn (ha pos pins s σ H _ I h) fun us s1 ⟨vs,H1,I1,r1,q1⟩=>hc pins s1 σ H1 vs us Q I1 r1 q1) he hpl
theorem Ao (hc:CallR X (.type T) r)(hg:Gl X x)(hm:X.mg x=none)(hv:bootBuiltins x=some (.type T))(ha:PA X (e :: es) t)(hn:x ≠ "__name__":=by decide)(hdb:(x==("__debug__":Str))=false:=by decide)
  (he:starEach (e :: es) X.env=(false,eval e X.env) :: starEach es X.env:=by ac_nf) (hpl:(backTo pos (starEach es X.env)).any (·.1)=false:=by ac_nf):PE X (.Call (.Name x p) (e :: es) [] pos) (tCB r t):=by
 intro pins s σ H Q I h
 refine wpAny_Call_Name_kw (Ju I hg hm hv ?_ hn hdb)
 exact PyProof.Rows.callWith_type1 (thn (ha pos pins s σ H _ I h) fun us s1 ⟨vs,H1,I1,r1,q1⟩=>hc pins s1 σ H1 vs us Q I1 r1 q1) he hpl
end
end L2
namespace HT
open PySem PyProof.Rows
section
open PySem.SeqAt
open PySem.AutoSeq1 (wpAny_loadPart')
open PySem.MeetsSeq PySem.MeetsSeq2 PySem.MeetsSeq3
end
section
variable {prog:Program}{w:World}{A:Around}{E:Value->Shared->Prop}{s:Shared}
theorem cat_tup {t b:Addr}{vs ws:List Value}{Q:Value->Shared->Prop}(ht:IsTup s.heap t vs.toArray)(hb:IsTup s.heap b ws.toArray)(hv:vs≠[])
  (h1:ws=[]->Q (.ref t) s) (h2:ws≠[]->Q (.ref s.heap.objs.size) { s with heap:=s.heap.push { cls:=.type "tuple",data:=.seq (vs++ws).toArray } })
  (hsz:vs.length+ws.length<=sizeLine):wpAny (model prog w) A (binaryOp .Add (.ref t) (.ref b)) Q E s:=by
 obtain⟨⟨cls,dd,data,sl⟩,ho,hc,n,hd⟩:=id ht
 obtain⟨⟨cls2,dd2,data2,sl2⟩,ho2,hc2,n2,hd2⟩:=id hb
 simp only at hc hd hc2 hd2
 subst hc hd hc2 hd2
 have e:vs.toArray++ws.toArray=(vs++ws).toArray:=by simp
 by_cases hw:ws=[]
 . exact concat_meets ⟨_,ho,rfl⟩ ⟨_,ho2,rfl⟩ noFill_tuple_add seq_tuple_add PySem.F.slot_tuple_add PySem.F.entry_tuple_add (PySem.F.args_tuple_add_2 _ _)
    (tuple_addW1 t b vs.toArray ws.toArray n n2 dd dd2 sl sl2 (by simpa using hv) (by simp[hw])) ⟨ho,ho2,h1 hw⟩
 refine concat_meets ⟨_,ho,rfl⟩ ⟨_,ho2,rfl⟩ noFill_tuple_add seq_tuple_add PySem.F.slot_tuple_add PySem.F.entry_tuple_add (PySem.F.args_tuple_add_2 _ _)
  (tuple_addW2 t b vs.toArray ws.toArray n n2 dd dd2 sl sl2 (by simpa using hv) (by simpa using hw) (by rw[List.size_toArray,List.size_toArray];exact hsz)) ⟨ho,ho2,?_⟩
 rw[e]
 exact h2 hw
def sIx (n d:Nat):Option Int->Nat
 | none=>d
 | some v=>if v<0 then(v+(n:Int)).toNat else min v.toNat n
theorem sIx_none (n d:Nat):sIx n d none=d:=rfl
theorem sIx_nat (n d k:Nat):sIx n d (some (k:Int))=min k n:=by
 show(if(k:Int)<0 then((k:Int)+(n:Int)).toNat else min (k:Int).toNat n)=min k n
 rw [if_neg (by omega),Int.toNat_natCast]
theorem Zb (n d:Nat)(hd:d<=n)(o:Option Int):sIx n d o<=n:=by
 cases o with
 | none=>exact hd
 | some v=>
   show(if v<0 then(v+(n:Int)).toNat else min v.toNat n)<=n
   by_cases hv:v<0
   . rw[if_pos hv];omega
   rw[if_neg hv];exact Nat.min_le_right _ _
theorem Tg (v:Int)(n d:Nat):(if v<0 then max (v+(n:Int)) 0 else min v (n:Int))=((sIx n d (some v):Nat):Int):=by
 show(if v<0 then max (v+(n:Int)) 0 else min v (n:Int))=(((if v<0 then(v+(n:Int)).toNat else min v.toNat n):Nat):Int)
 by_cases hv:v<0
 . simp only[if_pos hv];omega
 simp only[if_neg hv];omega
theorem Px (lo hi:Option Int)(n:Nat):Builtin.Slice.sliceAdjust lo hi 1 (n:Int)=(((sIx n 0 lo:Nat):Int),((sIx n n hi:Nat):Int)):=by
 have h1:¬ ((1:Int)<0):=by omega
 unfold Builtin.Slice.sliceAdjust
 simp only[h1,if_false]
 refine Prod.ext ?_ ?_
 . cases lo with
   | none=>rfl
   | some v=>exact Tg v n 0
 cases hi with
 | none=>rfl
 | some v=>exact Tg v n n
theorem Pu (i j:Nat):Builtin.Slice.slicePlaces (i:Int) (j:Int) 1=j-i:=by
 unfold Builtin.Slice.slicePlaces
 have h1:(1:Int)>0:=by omega
 simp only[h1,if_true,Int.ediv_one]
 split<;>omega
theorem slicePart_ {v:Value}{o:Option Int}{Q:Option Int->Shared->Prop}(p:IsPart v o)(h:Q o s):wpAny (model prog w) A (Builtin.Slice.slicePartIndex v) Q E s:=by
 cases p with
 | none=>exact slicePart_none h
 | int i t=>exact slicePart_int h
theorem sliceApplied_gen {sl:Addr}{vl vu:Value}{lo hi:Option Int}{n:Nat}{Q:Int×Int×Nat->Shared->Prop}(hs:s.heap.IsSliceOf sl vl vu .none)(pl:IsPart vl lo)(pu:IsPart vu hi)
  (h:Q (((sIx n 0 lo:Nat):Int),1,sIx n n hi-sIx n 0 lo) s):wpAny (model prog w) A (Builtin.Slice.sliceApplied (.ref sl) (pure (n:Int))) Q E s:=by
 obtain⟨os,hos,hcs,hds⟩:=id hs
 unfold Builtin.Slice.sliceApplied Builtin.Slice.sliceFields
 refine wpAny_bind (wpAny_bind (wpAny_field hos hds (x:=vl) rfl (wpAny_bind (wpAny_field hos hds (x:=vu) rfl (wpAny_bind (wpAny_field hos hds (x:=.none) rfl (wpAny_pure ?_)))))))
 refine wpAny_bind (slicePart_none ?_)
 show wpAny _ _ (if((1:Int)==0)=true then _ else _) _ _ s
 rw[if_neg (by decide)]
 refine wpAny_bind (slicePart_ pl (wpAny_bind (slicePart_ pu (wpAny_bind (wpAny_pure ?_)))))
 show wpAny _ _ (match Builtin.Slice.sliceAdjust lo hi 1 (n:Int) with | (lo,hi)=>pure (lo,(1:Int),Builtin.Slice.slicePlaces lo hi 1)) _ _ s
 rw[Px lo hi n]
 show wpAny _ _ (pure (((sIx n 0 lo:Nat):Int),(1:Int),Builtin.Slice.slicePlaces ((sIx n 0 lo:Nat):Int) ((sIx n n hi:Nat):Int) 1)) _ _ s
 rw[Pu]
 exact wpAny_pure h
theorem V5 (xs:Array Value)(i k:Nat):((List.range k).filterMap fun(m:Nat)=>xs[((i:Int)+(m:Int)*1).toNat]?).toArray=((xs.toList.drop i).take k).toArray:=by
 have e:(fun(m:Nat)=>xs[((i:Int)+(m:Int)*1).toNat]?)=fun m=>xs[i+m]?:=by
  funext m
  have:((i:Int)+(m:Int)*1).toNat=i+m:=by omega
  rw[this]
 rw[e]
 have:=pick_run xs i k
 rw[List.filterMap_map] at this
 have e2:((fun x=>xs[x]?)∘fun x=>i+x)=fun m=>xs[i+m]?:=rfl
 rw[e2] at this
 rw[this]
theorem getItem_tuple_cut {t sl:Addr}{items:Array Value}{vl vu:Value}{lo hi:Option Int}{Q:Value->Shared->Prop}(ht:IsTup s.heap t items)(hs:s.heap.IsSliceOf sl vl vu .none)(pl:IsPart vl lo)(pu:IsPart vu hi)
  (hw:¬ (sIx items.size 0 lo=0/\sIx items.size items.size hi=items.size))
  (h:Q (.ref s.heap.objs.size) { s with heap:=s.heap.push { cls:=.type "tuple",data:=.seq ((items.toList.drop (sIx items.size 0 lo)).take (sIx items.size items.size hi-sIx items.size 0 lo)).toArray } })
  (hsz:items.size<=sizeLine):wpAny (model prog w) A (getItem (.ref t) (.ref sl)) Q E s:=by
 have htake:sizeOk (.seq ((items.toList.drop (sIx items.size 0 lo)).take (sIx items.size items.size hi-sIx items.size 0 lo)).toArray):=by
  show((items.toList.drop (sIx items.size 0 lo)).take (sIx items.size items.size hi-sIx items.size 0 lo)).toArray.size<=sizeLine
  rw[List.size_toArray,List.length_take,List.length_drop,Array.length_toList]
  omega
 have hj:sIx items.size items.size hi<=items.size:=Zb _ _ (Nat.le_refl _) hi
 obtain⟨os,hos,hcs,hds⟩:=id hs
 have hTs:s.TypeIs (.ref sl) "slice":=⟨os,hos,hcs⟩
 unfold getItem
 try with_reducible refine wpAny_holding ?_
 first | refine wpAny_bind (wpAny_pure ?_) | skip
 refine wpAny_bind (wpAny_sequenceKey ht.typeIs (by decide) ?_)
 refine wpAny_bind (wpAny_callSpecial?_slot (name:=Str.ofString "__getitem__") ht.typeIs PyProof.Rows.slot_tuple_getitem
  (wpAny_call_entry PyProof.Rows.slot_tuple_getitem ht.typeIs entry_tuple_getitem ?_ (args_tuple_getitem _ _)))
 show wpAny _ _ (Builtin.Tuple.tupleItemsOf (.ref t) >>= _) _ _ s
 refine wpAny_bind (tupleItemsOf_ ht ?_)
 refine wpAny_bind (wpAny_typeOf hTs ?_)
 rw[if_pos (by decide)]
 refine wpAny_bind (sliceApplied_gen hs pl pu ?_)
 have hno:¬ ((((sIx items.size 0 lo:Nat):Int)==0&&(1:Int)==1&&(sIx items.size items.size hi-sIx items.size 0 lo)==items.size)=true):=by
  intro q
  rw[Bool.and_eq_true,Bool.and_eq_true] at q
  have q1:((sIx items.size 0 lo:Nat):Int)=0:=eq_of_beq q.1.1
  have q2:sIx items.size items.size hi-sIx items.size 0 lo=items.size:=eq_of_beq q.2
  exact hw ⟨by omega,by omega⟩
 show wpAny _ _ (if(((sIx items.size 0 lo:Nat):Int)==0&&(1:Int)==1&&(sIx items.size items.size hi-sIx items.size 0 lo)==items.size)=true then _ else _) _ _ s
 rw[if_neg hno,V5]
 first
  | exact wpAny_bind (m:=Builtin.Tuple.tupleExact _) (wpAny_newObj_type (wpAny_pure ⟨_,rfl,wpAny_pure h⟩) htake)
  | exact wpAny_bind (m:=Builtin.Tuple.tupleExact _) (wpAny_newObj_type (wpAny_bind (wpAny_pure (wpAny_pure ⟨_,rfl,wpAny_pure h⟩))) htake)
  | exact wpAny_bind (wpAny_bind (m:=Builtin.Tuple.tupleExact _) (wpAny_newObj_type (wpAny_pure (wpAny_pure ⟨_,rfl,wpAny_pure h⟩)) htake))
  | exact wpAny_bind (wpAny_bind (m:=Builtin.Tuple.tupleExact _) (wpAny_newObj_type (wpAny_pure ⟨_,rfl,wpAny_pure h⟩) htake))
end
end HT
namespace L2
open PySem PySem.Spec PyProof.Rows
abbrev TO:=St->Hp->(Option Int->Hp->Prop)->Prop
def PO (X:Cx)(e:Option Expr)(t:TO):Prop:=
 ∀(pins:List (Addr×Obj)) (s:Shared) (σ:St) (H:Hp) (Q:Option Int->Hp->Prop),Inv X pins σ H s->t σ H Q ->
  wpAny (model X.prog X.w) X.A (evalPart e X.env) (fun u s'=>∃ o H',Inv X pins σ H' s'/\IsPart u o/\Q o H') X.xe s
def Rf:TO:=fun _ H Q=>Q none H
def a61 (t:TE):TO:=fun σ H Q=>t σ H fun x H1=>∃ i,x = .int i/\Q (some i) H1
section
variable {X:Cx}{e:Expr}{te:TE}{lo hi:Option Expr}{tl th:TO}{pos p2:Pos}
theorem Bz:PO X none Rf:=by
 intro pins s σ H Q I h
 rw[evalPart_none]
 exact wpAny_pure ⟨none,H,I,.none,h⟩
theorem B3 (h:PE X e te):PO X (some e) (a61 te):=by
 intro pins s σ H Q I hw
 rw[evalPart_some]
 refine thn (h pins s σ H _ I hw) fun u s1 ⟨x,H1,I1,r1,q1⟩=>?_
 obtain⟨i,rfl,q⟩:=q1
 obtain⟨t,rfl⟩:=r1
 exact⟨some i,H1,I1,.int i t,q⟩
def SlR (X:Cx)(r:V->Option Int->Option Int->Hp->VK->Prop):Prop:=
 ∀(pins:List (Addr×Obj)) (s:Shared) (σ:St) (H:Hp) (x:V) (v vl vu:Value) (lo hi:Option Int) (sl:Addr) (Q:VK),Inv X pins σ H s->RelV x v->s.heap.IsSliceOf sl vl vu .none->IsPart vl lo->IsPart vu hi->r x lo hi H Q ->
  ∃ T id,typeLookup (.type T) "__getitem__" = pure (some (.builtin id))/\s.TypeIs v T/\wpAny (model X.prog X.w) X.A (getItem v (.ref sl)) (EP X pins σ Q) X.xe s
theorem SlR.or {r r':V->Option Int->Option Int->Hp->VK->Prop}(h:SlR X r)(h':SlR X r'):SlR X (fun x lo hi H Q=>r x lo hi H Q\/r' x lo hi H Q):=by
 intro pins s σ H x v vl vu lo hi sl Q I rx hs pl pu q
 rcases q with q | q
 . exact h pins s σ H x v vl vu lo hi sl Q I rx hs pl pu q
 exact h' pins s σ H x v vl vu lo hi sl Q I rx hs pl pu q
def tSl (r:V->Option Int->Option Int->Hp->VK->Prop)(te:TE)(tl th:TO):TE:=fun σ H Q=>te σ H fun x H1=>tl σ H1 fun l H2=>th σ H2 fun u H3=>r x l u H3 Q
theorem Au {r:V->Option Int->Option Int->Hp->VK->Prop}(hr:SlR X r)(he:PE X e te)(hl:PO X lo tl)(hu:PO X hi th):PE X (.Subscript e (.Slice lo hi none p2) pos) (tSl r te tl th):=by
 intro pins s σ H Q I h
 refine Subscript_ (thn (he pins s σ H _ I h) fun v s1 ⟨x,H1,I1,r1,q1⟩=>?_)
 refine wpAny_Slice (thn (hl pins s1 σ H1 _ I1 q1) fun vl s2 ⟨l,H2,I2,pl,q2⟩=>thn (hu pins s2 σ H2 _ I2 q2) fun vu s3 ⟨u,H3,I3,pu,q3⟩=>?_)
 rw[evalPart_none]
 refine wpAny_pure ?_
 have I4:Inv X pins σ H3 { s3 with heap:=s3.heap.push { cls:=.type "slice",data:=.fields #[vl,vu,.none] } }:=I3.kept (t':=s3.toks) fun b ob q=>Heap.get?_push_of_some _ q
 obtain⟨T,id,hT,ht,hg⟩:=hr pins { s3 with heap:=s3.heap.push { cls:=.type "slice",data:=.fields #[vl,vu,.none] } } σ H3 x v vl vu l u s3.heap.objs.size Q I4 r1 (Heap.IsSliceOf.new ..) pl pu q3
 show wpAny (model X.prog X.w) X.A (subscriptTail e (.Slice lo hi none p2) v (.ref s3.heap.objs.size)) (EP X pins σ Q) X.xe { s3 with heap:=s3.heap.push { cls:=.type "slice",data:=.fields #[vl,vu,.none] } }
 exact tail_any (ops:=[.ref s3.heap.objs.size,v]) ht hT hg (by ac_nf)
def J5 (xs:List V)(lo hi:Option Int):List V:=(xs.drop (HT.sIx xs.length 0 lo)).take (HT.sIx xs.length xs.length hi-HT.sIx xs.length 0 lo)
theorem E2 (xs:List V)(lo hi:Option Int):(J5 xs lo hi).length<=xs.length:=by
 unfold J5
 rw[List.length_take,List.length_drop]
 omega
def ad6 (K:PySem.W.Frag):V->Option Int->Option Int->Hp->VK->Prop:=fun x lo hi H Q=>∃ a xs,x = .ref a/\SqT K H a xs /\
 ¬ (HT.sIx xs.length 0 lo=0/\HT.sIx xs.length xs.length hi=xs.length)/\∀ p,H p=none->Q (.ref p) (upd H p (.tup (J5 xs lo hi)))
theorem sl_tup:SlR X (ad6 X.K):=by
 intro pins s σ H x v vl vu lo hi sl Q I rx hs pl pu h
 obtain⟨a,xs,rfl,hx,hw,q⟩:=h
 cases rx
 obtain⟨its,r,ht,hz⟩:=I.tuple hx
 have hlen:its.toArray.size=xs.length:=by rw[List.size_toArray];exact r.length.symm
 refine⟨"tuple",_,PyProof.Rows.slot_tuple_getitem.lookup,ht.typeIs,?_⟩
 refine HT.getItem_tuple_cut ht hs pl pu (by rw[hlen];exact hw) ?_ (by rw[hlen];exact hz)
 rw[hlen]
 refine⟨.ref s.heap.objs.size,_,I.laid (t':=s.toks) (o:=.tup (J5 xs lo hi)) (fun b ob q=>Heap.get?_push_of_some _ q) (Nat.le_refl _) ?_,rfl,q _ (I.hok.fresh (Nat.le_refl _))⟩
 exact⟨Nat.le_trans (E2 xs lo hi) hz,_,(r.drop (HT.sIx xs.length 0 lo)).take (HT.sIx xs.length xs.length hi-HT.sIx xs.length 0 lo),IsTupN.new _ _⟩
def Yk (K:PySem.W.Frag):R2:=fun x y H Q=>∃ a b xs ys,x = .ref a/\y = .ref b/\SqT K H a xs/\SqT K H b ys/\xs≠[]/\xs.length+ys.length<=sizeLine /\
 (ys=[]->Q (.ref a) H)/\(ys≠[]->∀ p,H p=none->Q (.ref p) (upd H p (.tup (xs++ys))))
theorem Vals.nil_iff {xs:List V}{us:List Value}(r:Vals xs us):us=[]↔xs=[]:=by
 cases r with
 | nil=>simp
 | cons _ _=>simp
theorem op_catT:OpR X (binaryOp .Add) (Yk X.K):=by
 intro pins s σ H x y v u Q I rx ry h
 obtain⟨a,b,xs,ys,rfl,rfl,ha,hb,hx,hz,q1,q2⟩:=h
 cases rx
 cases ry
 obtain⟨its,r1,p1,_⟩:=I.tuple ha
 obtain⟨its2,r2,p2,_⟩:=I.tuple hb
 refine HT.cat_tup p1 p2 (fun z=>hx (r1.nil_iff.mp z)) (fun z=>⟨.ref a,H,I,rfl,q1 (r2.nil_iff.mp z)⟩) (fun z=>?_) (by rw[<- r1.length,<- r2.length];exact hz)
 refine⟨.ref s.heap.objs.size,_,I.laid (t':=s.toks) (o:=.tup (xs++ys)) (fun b ob q=>Heap.get?_push_of_some _ q) (Nat.le_refl _) ?_,rfl,q2 (fun w=>z (r2.nil_iff.mpr w)) _ (I.hok.fresh (Nat.le_refl _))⟩
 exact⟨by rw[List.length_append];exact hz,_,r1.append r2,IsTupN.new _ _⟩
end
def ixN (n:Nat)(i:Int):Option Nat:=if 0<=i then(if i<n then some i.toNat else none) else if -(n:Int)<=i then some (i+n).toNat else none
def atI {α:Type}(xs:List α)(i:Int):Option α:=(ixN xs.length i).bind fun j=>xs[j]?
theorem R6 {n:Nat}{i:Int}{j:Nat}(h:ixN n i=some j):seqIndex? i n=some j/\j<n /\ -(n:Int)<=i/\i<n:=by
 unfold ixN at h
 by_cases h0:0<=i
 . rw[if_pos h0] at h
   by_cases h1:i<n
   . rw[if_pos h1] at h
     have e:i.toNat=j:=Option.some.inj h
     exact⟨by rw[seqIndex_of h0 h1,e],by omega,by omega,h1⟩
   rw[if_neg h1] at h;cases h
 rw[if_neg h0] at h
 by_cases h1:-(n:Int)<=i
 . rw[if_pos h1] at h
   have e:(i+n).toNat=j:=Option.some.inj h
   exact⟨by rw[seqIndex_neg (by omega) h1,e],by omega,h1,by omega⟩
 rw[if_neg h1] at h;cases h
theorem K6 {α:Type} {xs:List α} {i:Int} {v:α} (h:atI xs i=some v):∃ j,seqIndex? i xs.length=some j/\xs[j]? = some v/\j<xs.length /\ -(xs.length:Int)<=i/\i<xs.length:=by
 unfold atI at h
 cases e:ixN xs.length i with
 | none=>rw[e] at h;cases h
 | some j=>
   rw[e] at h
   obtain⟨h1,h2,h3,h4⟩:=R6 e
   exact⟨j,h1,h,h2,h3,h4⟩
theorem Dr {α:Type}{xs:List α}{j:Nat}{v:α}(h:xs[j]? = some v):atI xs (j:Int)=some v:=by
 have hj:j<xs.length:=(List.getElem?_eq_some_iff.mp h).1
 have e:ixN xs.length (j:Int)=some j:=by
  unfold ixN
  rw[if_pos (by omega),if_pos (by omega)];simp
 unfold atI;rw[e];exact h
theorem Ut {α:Type}(xs:List α)(v:α):atI (xs++[v]) (-1)=some v:=by
 have hl:(xs++[v]).length=xs.length+1:=by simp
 have e:ixN (xs++[v]).length (-1)=some xs.length:=by
  unfold ixN
  rw[hl,if_neg (by decide),if_pos (by omega)]
  congr 1
  omega
 unfold atI
 rw[e]
 show(xs++[v])[xs.length]? = some v
 simp
def Xw (b:Expr):Prop:=∀ o i,subscripted b false o i=operate [o,i] (getItem o i)
def IxR (X:Cx)(r:R2):Prop:=
 ∀(value slice:Expr) (pins:List (Addr×Obj)) (s:Shared) (σ:St) (H:Hp) (x y:V) (v u:Value) (Q:VK),Inv X pins σ H s->RelV x v->RelV y u->r x y H Q ->
  subscripted slice false v u=operate [v,u] (getItem v u)->wpAny (model X.prog X.w) X.A (subscriptTail value slice v u) (EP X pins σ Q) X.xe s
def MtR (X:Cx)(id:String)(r:V->List V->Hp->VK->Prop):Prop:=
 ∀(pins:List (Addr×Obj)) (s:Shared) (σ:St) (H:Hp) (x:V) (xs:List V) (v:Value) (us:List Value) (Q:VK),Inv X pins σ H s->RelV x v->Vals xs us->r x xs H Q ->
  wpAny (model X.prog X.w) X.A (call (.builtin id) (v :: us)) (EP X pins σ Q) X.xe s
section
variable {X:Cx}{a b:Expr}{ta tb:TE}{pos:Pos}
theorem IxR.or {r r':R2}(h:IxR X r)(h':IxR X r'):IxR X (fun x y H Q=>r x y H Q\/r' x y H Q):=by
 intro value slice pins s σ H x y v u Q I rx ry q hs
 rcases q with q | q
 . exact h value slice pins s σ H x y v u Q I rx ry q hs
 exact h' value slice pins s σ H x y v u Q I rx ry q hs
theorem Ap {r:R2}(hr:IxR X r)(ha:PE X a ta)(hb:PE X b tb)(hs:Xw b):PE X (.Subscript a b pos) (tOp r ta tb):=by
 intro pins s σ H Q I h
 exact Subscript_ (a92 ha hb I h fun v u s2 x y H2 I2 rx ry q=>hr a b pins s2 σ H2 x y v u Q I2 rx ry q (hs _ _))
def ac8 (K:PySem.W.Frag):R2:=fun x y H Q=>∃ p xs i v,x = .ref p/\y = .int i/\SqL K H p xs/\atI xs i=some v/\Q v H
def ae3 (K:PySem.W.Frag):R2:=fun x y H Q=>∃ p xs i v,x = .ref p/\y = .int i/\SqT K H p xs/\atI xs i=some v/\Q v H
def ab6:R2:=fun x y H Q=>∃ z i c,x = .str z/\y = .int i/\z.length<=sizeLine/\atI z.cps.toList i=some c/\Q (.str ⟨#[c]⟩) H
theorem ix_list:IxR X (ac8 X.K):=by
 intro value slice pins s σ H x y v u Q I rx ry h hs
 obtain⟨p,xs,i,z,rfl,rfl,hq,he,q⟩:=h
 cases rx
 obtain⟨t,rfl⟩:=ry
 obtain⟨its,r,pl,hz⟩:=I.list hq
 obtain⟨j,h1,h2,h3,h4,h5⟩:=K6 he
 obtain⟨w,ew,rw'⟩:=r.get h2
 have hl:=r.length
 have hn:=Mn
 have fin:EP X pins σ Q w s:=⟨z,H,I,rw',q⟩
 by_cases h0:0<=i
 . have hj:i.toNat=j:=by
    rw[seqIndex_of h0 h5] at h1
    exact Option.some.inj h1
   exact item_listR pl.isList h0 (by omega) (by rw[hj];simpa using ew) fin hs
 have hj:(i+(its.toArray.size:Int)).toNat=j:=by
  rw[seqIndex_neg (by omega) h4] at h1
  rw[List.size_toArray,<- hl]
  exact Option.some.inj h1
 exact subscriptTail_builtinR (x:=w) pl.isList.typeIs slot_list_getitem.lookup
  (wpAny_getItem_list_neg (Q:=fun r s'=>r=w/\EP X pins σ Q r s') pl.isList (by omega) (by rw[List.size_toArray]<;>omega) (by omega) (by rw[hj];simpa using ew) ⟨rfl,fin⟩) hs
theorem ix_tup:IxR X (ae3 X.K):=by
 intro value slice pins s σ H x y v u Q I rx ry h hs
 obtain⟨p,xs,i,z,rfl,rfl,hq,he,q⟩:=h
 cases rx
 obtain⟨t,rfl⟩:=ry
 obtain⟨its,r,pl,hz⟩:=I.tuple hq
 obtain⟨j,h1,h2,h3,h4,h5⟩:=K6 he
 obtain⟨w,ew,rw'⟩:=r.get h2
 have hl:=r.length
 have hn:=Mn
 have fin:EP X pins σ Q w s:=⟨z,H,I,rw',q⟩
 exact subscriptTail_builtinR (x:=w) pl.typeIs slot_tuple_getitem.lookup
  (getItem_tuple (j:=j) (Q:=fun r s'=>r=w/\EP X pins σ Q r s') pl (by omega) (by omega) (by rw[List.size_toArray,<- hl];exact h1) (by simpa using ew) ⟨rfl,fin⟩) hs
theorem a08:IxR X ab6:=by
 intro value slice pins s σ H x y v u Q I rx ry h hs
 obtain⟨z,i,c,rfl,rfl,hz,he,q⟩:=h
 obtain⟨t,rfl⟩:=rx
 obtain⟨t',rfl⟩:=ry
 obtain⟨j,h1,h2,h3,h4,h5⟩:=K6 he
 have hl:z.cps.toList.length=z.length:=by simp[Str.length]
 rw[hl] at h1 h4 h5
 have hn:=Mn
 exact tail_any (typeIs_str s z t) slot_str_getitem.lookup (getItem_str (c:=c) (by
  have e1:decide (i < -(2 ^ 63:Int))=false:=decide_eq_false (by omega)
  have e2:decide (i>=2 ^ 63)=false:=decide_eq_false (by omega)
  rw[e1,e2,Bool.or_false]) (by rw[h1];simpa using h2) ⟨.str ⟨#[c]⟩,H,I.tok _,⟨_,rfl⟩,q⟩) hs
def rIx (K:PySem.W.Frag):R2:=fun x y H Q=>ac8 K x y H Q\/ae3 K x y H Q\/ab6 x y H Q
theorem ix_seq:IxR X (rIx X.K):=ix_list.or (ix_tup.or a08)
theorem Qc (its:List Value)(n j:Nat)(u:Value):Obj.mapSeq (·.setIfInBounds j u) { cls:=.type "list",data:=.seq its.toArray n }={ cls:=.type "list",data:=.seq (its.set j u).toArray n }:=by
 simp[Obj.mapSeq]
theorem Inv.lst {pins:List (Addr×Obj)}{σ:St}{H:Hp}{s:Shared}{p:Addr}{xs:List V}(I:Inv X pins σ H s)(h:H p=some (.lst xs)) :
  ∃(its:List Value) (n:Nat),Vals xs its/\s.heap.get? p=some { cls:=.type "list",data:=.seq its.toArray n }/\xs.length<=sizeLine:=by
 obtain⟨z,its,n,r,e⟩:=I.hok p _ h
 exact⟨its,n,r,e,z⟩
theorem Inv.lstUpd {pins:List (Addr×Obj)}{σ:St}{H:Hp}{s:Shared}{p:Addr}{xs ys:List V}{its its':List Value}{n n':Nat}{f:Obj->Obj}(I:Inv X pins σ H s)(h:H p=some (.lst xs))
  (ho:s.heap.get? p=some { cls:=.type "list",data:=.seq its.toArray n }) (hf:f { cls:=.type "list",data:=.seq its.toArray n }={ cls:=.type "list",data:=.seq its'.toArray n' }) (r:Vals ys its') (hz:ys.length<=sizeLine) (t:Nat) :
  Inv X pins σ (upd H p (.lst ys)) { s with heap:=s.heap.update p f,toks:=t }:=by
 have e:(s.heap.update p f).get? p=some { cls:=.type "list",data:=.seq its'.toArray n' }:=by
  rw[Heap.get?_update_self f ho (by rw[hf]<;>rfl),hf]
 refine I.write (x:=p) (e:=p) (by rw[h];trivial) (.inl rfl) (fun b u hb q=>(Heap.get?_update_other _ _ (Ne.symm hb)).trans q) ⟨_,e⟩ ?_
 exact⟨hz,its',n',r,e⟩
def a57:V->V->V->Hp->(Hp->Prop)->Prop:=fun o i v H Q=>∃ p xs k j,o = .ref p/\i = .int k/\H p=some (.lst xs)/\ixN xs.length k=some j/\Q (upd H p (.lst (xs.set j v)))
theorem Ty:ac1 X a57:=by
 intro pins s σ H o i v ov iv u Q I ro ri rv h
 obtain⟨p,xs,k,j,rfl,rfl,hp,hj,q⟩:=h
 cases ro
 obtain⟨t,rfl⟩:=ri
 obtain⟨its,n,r,ho,hz⟩:=I.lst hp
 obtain⟨h1,h2,h3,h4⟩:=R6 hj
 have hl:=r.length
 have hn:=Mn
 have I':Inv X pins σ (upd H p (.lst (xs.set j v))) { s with heap:=s.heap.update p (Obj.mapSeq (·.setIfInBounds j u)) }:=
  I.lstUpd hp ho (Qc its n j u) (r.set rv j) (by rw[List.length_set];exact hz) s.toks
 by_cases h0:0<=k
 . have hk:k.toNat=j:=by
    rw[seqIndex_of h0 h4] at h1
    exact Option.some.inj h1
   exact PySem.W.ki_setAt ho h0 (by omega) (by rw[List.size_toArray,<- hl];exact h4) (by rw[hk];exact⟨_,I',q⟩)
 have hk:(k+(its.toArray.size:Int)).toNat=j:=by
  rw[seqIndex_neg (by omega) h3] at h1
  rw[List.size_toArray,<- hl]
  exact Option.some.inj h1
 exact PySem.W.ki_setBack ho (by omega) (by rw[List.size_toArray,<- hl];exact h3) (by omega) (by rw[hk];exact⟨_,I',q⟩)
theorem Me (lo hi:Option Int) (n:Nat):(sliceBounds lo hi none n).1=((HT.sIx n 0 lo:Nat):Int)/\(sliceBounds lo hi none n).2.1=((HT.sIx n n hi:Nat):Int)/\(sliceBounds lo hi none n).2.2=1:=by
 refine⟨?_,?_,rfl⟩
 . cases lo with
   | none=>simp[sliceBounds,HT.sIx]
   | some i=>
     simp only[sliceBounds,HT.sIx,Option.getD_none,show(1:Int)>0 by decide,if_true]
     by_cases h:i<0
     . simp only[h,if_true]<;>omega
     simp only[h,if_false]<;>omega
 cases hi with
 | none=>simp[sliceBounds,HT.sIx]
 | some i=>
   simp only[sliceBounds,HT.sIx,Option.getD_none,show(1:Int)>0 by decide,if_true]
   by_cases h:i<0
   . simp only[h,if_true]<;>omega
   simp only[h,if_false]<;>omega
theorem Fr (its:List Value)(lo hi:Option Int):slicePick its.toArray lo hi none=((its.drop (HT.sIx its.length 0 lo)).take (HT.sIx its.length its.length hi-HT.sIx its.length 0 lo)).toArray:=by
 obtain⟨h1,h2,h3⟩:=Me lo hi its.toArray.size
 unfold slicePick
 rw[h1,h2,h3]
 simp only[sliceRange_one,pick_run,List.size_toArray]<;>rfl
def ac0 (K:PySem.W.Frag):V->Option Int->Option Int->Hp->VK->Prop:=fun x lo hi H Q=>∃ a xs,x = .ref a/\SqL K H a xs/\∀ p,H p=none->Q (.ref p) (upd H p (.lst (J5 xs lo hi)))
theorem sl_list:SlR X (ac0 X.K):=by
 intro pins s σ H x v vl vu lo hi sl Q I rx hs pl pu h
 obtain⟨a,xs,rfl,hx,q⟩:=h
 cases rx
 obtain⟨its,r,ht,hz⟩:=I.list hx
 have hlen:=r.length
 refine⟨"list",_,slot_list_getitem.lookup,ht.isList.typeIs,?_⟩
 refine wpAny_getItem_list_slice ht.isList hs pl pu .none (by simp) ?_ (by rw[List.size_toArray]<;>omega)
 rw[Fr,<- hlen]
 refine⟨.ref s.heap.objs.size,_,I.laid (t':=s.toks) (o:=.lst (J5 xs lo hi)) (fun b ob q=>Heap.get?_push_of_some _ q) (Nat.le_refl _) ?_,rfl,q _ (I.hok.fresh (Nat.le_refl _))⟩
 exact⟨Nat.le_trans (E2 xs lo hi) hz,_,0,(r.drop (HT.sIx xs.length 0 lo)).take (HT.sIx xs.length xs.length hi-HT.sIx xs.length 0 lo),Heap.get?_push_size _ rfl⟩
def Ko:V->Bool
 | .non=>true
 | .bl _=>true
 | .int _=>true
 | .str _=>true
 | _=>false
def eqV:V->V->Bool
 | .non,.non=>true
 | .bl a,.bl b=>a==b
 | .bl a,.int b=>(if a then 1 else 0)==b
 | .int a,.bl b=>a==(if b then 1 else 0)
 | .int a,.int b=>a==b
 | .str a,.str b=>a==b
 | _,_=>false
theorem a71 {A:Around}{s:Shared}{y x:V}{u v:Value}(ry:RelV y u)(rx:RelV x v)(fy:Ko y=true)(fx:Ko x=true):SeqAt.EqAt A s u v (eqV y x):=by
 cases y with
 | non=>
   cases ry
   cases x with
   | non=>cases rx;exact SeqAt.EqAt.same _
   | bl b=>cases rx;exact SeqAt.EqAt.none_bool b
   | int b=>obtain⟨t,rfl⟩:=rx;exact SeqAt.EqAt.none_int b t
   | str b=>obtain⟨t,rfl⟩:=rx;exact SeqAt.EqAt.none_str b t
   | _=>exact absurd (show false=true from fx) Bool.false_ne_true
 | bl a=>
   cases ry
   cases x with
   | non=>cases rx;exact SeqAt.EqAt.bool_none a
   | bl b=>cases rx;exact SeqAt.EqAt.bool_bool a b
   | int b=>obtain⟨t,rfl⟩:=rx;exact SeqAt.EqAt.bool_int a b t
   | str b=>obtain⟨t,rfl⟩:=rx;exact SeqAt.EqAt.bool_str a b t
   | _=>exact absurd (show false=true from fx) Bool.false_ne_true
 | int a=>
   obtain⟨t',rfl⟩:=ry
   cases x with
   | non=>cases rx;exact SeqAt.EqAt.int_none a t'
   | bl b=>cases rx;exact SeqAt.EqAt.int_bool a t' b
   | int b=>obtain⟨t,rfl⟩:=rx;exact SeqAt.EqAt.int_int a t' b t
   | str b=>obtain⟨t,rfl⟩:=rx;exact SeqAt.EqAt.int_str a t' b t
   | _=>exact absurd (show false=true from fx) Bool.false_ne_true
 | str a=>
   obtain⟨t',rfl⟩:=ry
   cases x with
   | non=>cases rx;exact SeqAt.EqAt.str_none a t'
   | bl b=>cases rx;exact SeqAt.EqAt.str_bool a t' b
   | int b=>obtain⟨t,rfl⟩:=rx;exact SeqAt.EqAt.str_int a t' b t
   | str b=>obtain⟨t,rfl⟩:=rx;exact SeqAt.EqAt.str_str a t' b t
   | _=>exact absurd (show false=true from fx) Bool.false_ne_true
 | _=>exact absurd (show false=true from fy) Bool.false_ne_true
def eqU (x:V)(u:Value):Bool:=match u with
 | .none=>eqV .non x
 | .bool b=>eqV (.bl b) x
 | .int i _=>eqV (.int i) x
 | .str z _=>eqV (.str z) x
 | _=>false
theorem W8 {x y:V}{u:Value}(r:RelV y u)(f:Ko y=true):eqU x u=eqV y x:=by
 cases y with
 | non=>cases r;rfl
 | bl b=>cases r;rfl
 | int i=>obtain⟨t,rfl⟩:=r;rfl
 | str z=>obtain⟨t,rfl⟩:=r;rfl
 | _=>exact absurd (show false=true from f) Bool.false_ne_true
theorem Hu {x:V}:∀ {xs:List V} {us:List Value},Vals xs us->xs.all Ko=true->us.any (eqU x)=xs.any fun y=>eqV y x
 | _,_,.nil,_=>rfl
 | y :: xs,u :: us,.cons r t,f=>by
   rw[List.all_cons,Bool.and_eq_true] at f
   rw[List.any_cons,List.any_cons,W8 r f.1,Hu t f.2]
theorem Ft {A:Around}{s:Shared}{x:V}{v:Value}(rx:RelV x v)(fx:Ko x=true):∀ {xs:List V} {us:List Value},Vals xs us->xs.all Ko=true->∀ u∈us,SeqAt.EqAt A s u v (eqU x u)
 | _,_,.nil,_=>fun u hu=>by cases hu
 | y :: xs,u :: us,.cons r t,f=>fun u' hu=>by
   rw[List.all_cons,Bool.and_eq_true] at f
   rcases List.mem_cons.mp hu with rfl | hu
   . rw[W8 r f.1];exact a71 r rx f.1 fx
   exact Ft rx fx t f.2 u' hu
def inV (x:V)(xs:List V):Bool:=xs.any fun y=>eqV y x
def rIn (K:PySem.W.Frag)(neg:Bool):R2:=fun x y H Q=>∃ p xs,y = .ref p/\(SqL K H p xs\/SqT K H p xs)/\Ko x=true/\xs.all Ko=true/\Q (.bl (if neg then !inV x xs else inV x xs)) H
theorem op_in_seq:OpR X (compareOp .In) (rIn X.K false):=by
 intro pins s σ H x y v u Q I rx ry h
 obtain⟨p,xs,rfl,hq,fx,fs,q⟩:=h
 cases ry
 rcases hq with hq | hq
 . obtain⟨its,r,pl,hz⟩:=I.list hq
   refine SeqAt.in_listAt (eqU x) pl.isList (fun w hw=>Ft rx fx r fs w (by simpa using hw)) ⟨.bl _,H,I,rfl,?_⟩
   rw[show its.toArray.any (eqU x)=its.any (eqU x) by simp,Hu r fs]
   exact q
 obtain⟨its,r,pl,hz⟩:=I.tuple hq
 refine SeqAt.in_tupleAt (eqU x) pl (fun w hw=>Ft rx fx r fs w (by simpa using hw)) ⟨.bl _,H,I,rfl,?_⟩
 rw[show its.toArray.any (eqU x)=its.any (eqU x) by simp,Hu r fs]
 exact q
theorem op_notIn_seq:OpR X (compareOp .NotIn) (rIn X.K true):=by
 intro pins s σ H x y v u Q I rx ry h
 obtain⟨p,xs,rfl,hq,fx,fs,q⟩:=h
 cases ry
 rcases hq with hq | hq
 . obtain⟨its,r,pl,hz⟩:=I.list hq
   refine SeqAt.notIn_listAt (eqU x) pl.isList (fun w hw=>Ft rx fx r fs w (by simpa using hw)) ⟨.bl _,H,I,rfl,?_⟩
   rw[show its.toArray.any (eqU x)=its.any (eqU x) by simp,Hu r fs]
   exact q
 obtain⟨its,r,pl,hz⟩:=I.tuple hq
 refine SeqAt.notIn_tupleAt (eqU x) pl (fun w hw=>Ft rx fx r fs w (by simpa using hw)) ⟨.bl _,H,I,rfl,?_⟩
 rw[show its.toArray.any (eqU x)=its.any (eqU x) by simp,Hu r fs]
 exact q
theorem op_notIn_str:OpR X (compareOp .NotIn) (fun x y H Q=>∃ i j,x = .str i/\y = .str j/\Q (.bl (!(!(Builtin.Str.occurrences j i 0 j.length 1).isEmpty))) H):=by
 intro pins s σ H x y v u Q I rx ry h
 obtain⟨i,j,rfl,rfl,q⟩:=h
 obtain⟨t,rfl⟩:=rx
 obtain⟨t',rfl⟩:=ry
 exact notIn_str ⟨.bl _,H,I,rfl,q⟩
theorem CallR.or {f:Value}{r r':List V->Hp->VK->Prop}(h:CallR X f r)(h':CallR X f r'):CallR X f (fun xs H Q=>r xs H Q\/r' xs H Q):=by
 intro pins s σ H xs us Q I rs q
 rcases q with q | q
 . exact h pins s σ H xs us Q I rs q
 exact h' pins s σ H xs us Q I rs q
theorem Lj:CallR X (.type "list") (fun xs H Q=>∃ p ys,xs=[.ref p]/\(SqL X.K H p ys\/SqT X.K H p ys)/\∀ l,H l=none->Q (.ref l) (upd H l (.lst ys))):=by
 intro pins s σ H xs us Q I r h
 obtain⟨p,ys,rfl,hq,q⟩:=h
 obtain⟨u,rfl,rx⟩:=G5 r
 cases rx
 have fin:∀(its:List Value),Vals ys its->ys.length<=sizeLine->∀(h':Heap) (c':Nat),(∀ b o',s.heap.get? b=some o'->h'.get? b=some o') ->
   h'.get? s.heap.objs.size=some { cls:=.type "list",dict:=none,data:=.seq its.toArray c',slots:=#[] }->EP X pins σ Q (.ref s.heap.objs.size) { s with heap:=h' }:=fun its r' hz h' c' kp e=>
  ⟨.ref s.heap.objs.size,_,I.laid (t':=s.toks) kp (Nat.le_refl _) (show ObjOk X.prog X.w _ h' _ (.lst ys) from⟨hz,its,c',r',e⟩),rfl,q _ (I.hok.fresh (Nat.le_refl _))⟩
 rcases hq with hq | hq
 . obtain⟨its,r',pl,hz⟩:=I.list hq
   have hlen:=r'.length
   obtain⟨o,ho,hc,n,hd⟩:=pl.isList
   exact call_list_seq p (.inl rfl) ho hc hd (fun h' c' kp e=>fin its r' hz h' c' kp e) (by simp only[List.size_toArray]<;>omega)
 obtain⟨its,r',pl,hz⟩:=I.tuple hq
 have hlen:=r'.length
 obtain⟨o,ho,hc,n,hd⟩:=pl
 exact call_list_seq p (.inr rfl) ho hc hd (fun h' c' kp e=>fin its r' hz h' c' kp e) (by simp only[List.size_toArray]<;>omega)
theorem L5:CallR X (.type "tuple") (fun xs H Q=>∃ p ys,xs=[.ref p]/\((SqL X.K H p ys/\∀ l,H l=none->Q (.ref l) (upd H l (.tup ys)))\/(SqT X.K H p ys/\Q (.ref p) H))):=by
 intro pins s σ H xs us Q I r h
 obtain⟨p,ys,rfl,h⟩:=h
 obtain⟨u,rfl,rx⟩:=G5 r
 cases rx
 rcases h with ⟨hq,q⟩ | ⟨hq,q⟩
 . obtain⟨its,r',pl,hz⟩:=I.list hq
   have hlen:=r'.length
   refine call_tuple_list pl.isList (fun h' kp=>?_) (by simp only[List.size_toArray]<;>omega)
   have I1:Inv X pins σ H { s with heap:=h' }:=I.kept (t':=s.toks) kp
   have I2:Inv X pins σ (upd H h'.objs.size (.tup ys)) { s with heap:=h'.push { cls:=.type "tuple",data:=.seq its.toArray } }:=
    I1.laid (t':=s.toks) (fun b o e=>Heap.get?_push_of_some _ e) (Nat.le_refl _) (show ObjOk X.prog X.w _ _ _ (.tup ys) from⟨hz,its,r',IsTupN.new _ _⟩)
   exact⟨.ref h'.objs.size,_,I2,rfl,q _ (I1.hok.fresh (Nat.le_refl _))⟩
 obtain⟨its,r',pl,hz⟩:=I.tuple hq
 exact call_tuple_same pl ⟨.ref p,H,I,rfl,q⟩
def tyV (K:PySem.W.Frag)(T:String)(x:V)(H:Hp):Prop:=match x with
 | .str _=>T = "str"
 | .int _=>T = "int"
 | .ref p=>(T = "list" /\ ∃ xs,SqL K H p xs)\/(T = "tuple" /\ ∃ o,K.lookup p=some o/\o.cls = .type "tuple" /\ o.dict=none) \/
   (T = "dict" /\ ((∃ kvs,H p=some (.dK kvs))\/∃ kvs,H p=some (.dT kvs)))\/(T = "set" /\ ∃ S n,H p=some (.set S n))
 | _=>False
theorem Vn {pins:List (Addr×Obj)}{σ:St}{H:Hp}{s:Shared}{T:String}{x:V}{v:Value}(I:Inv X pins σ H s)(r:RelV x v)(ty:tyV X.K T x H) :
  s.TypeIs v T/\∀ a,v = .ref a->∃ ob,s.heap.get? a=some ob/\ob.dict=none:=by
 cases x with
 | str z=>
   obtain⟨t,rfl⟩:=r
   cases (show T = "str" from ty)
   exact⟨typeIs_str s z t,fun _ e=>nomatch e⟩
 | int i=>
   obtain⟨t,rfl⟩:=r
   cases (show T = "int" from ty)
   exact⟨typeIs_int s i t,fun _ e=>nomatch e⟩
 | ref p=>
   cases r
   rcases ty with ⟨rfl,xs,hq⟩ | ⟨rfl,o,hk,hc,hd⟩ | ⟨rfl,hk⟩ | ⟨rfl,S,n,hk⟩
   . obtain⟨its,_,pl,_⟩:=I.list hq
     refine⟨pl.isList.typeIs,fun a e=>?_⟩
     cases e
     obtain⟨o,n,e,c,hd,_⟩:=pl
     exact⟨o,e,hd⟩
   . refine⟨⟨o,I.kIn p o hk,hc⟩,fun a e=>?_⟩
     cases e
     exact⟨o,I.kIn _ o hk,hd⟩
   . have z:∃ o,s.heap.get? p=some o/\o.ExactDict:=by
      rcases hk with ⟨kvs,hk⟩ | ⟨kvs,hk⟩
      . obtain⟨_,_,_,_,o,_,_,e,ex,_⟩:=I.hok p _ hk
        exact⟨o,e,ex⟩
      obtain⟨_,_,_,_,o,_,_,e,ex,_⟩:=I.hok p _ hk
      exact⟨o,e,ex⟩
     obtain⟨o,e,ex⟩:=z
     refine⟨⟨o,e,ex.1⟩,fun a e2=>?_⟩
     cases e2
     exact⟨o,e,ex.2.1⟩
   obtain⟨o,_,_,_,e,ex,_⟩:=I.hok p _ hk
   refine⟨⟨o,e,ex.1⟩,fun a e2=>?_⟩
   cases e2
   exact⟨o,e,ex.2.1⟩
 | _=>exact False.elim ty
def a97 (K:PySem.W.Frag)(T:String)(r:V->List V->Hp->VK->Prop)(to:TE):TE:=fun σ H Q=>to σ H fun x H1=>tyV K T x H1/\r x [] H1 Q
def tBM (K:PySem.W.Frag)(T:String)(r:V->List V->Hp->VK->Prop)(to:TE)(t:TA):TE:=fun σ H Q=>to σ H fun x H1=>tyV K T x H1/\t σ H1 fun xs H2=>r x xs H2 Q
variable {o e:Expr}{es:List Expr}{to:TE}{t:TA}{name:Str}{apos cpos:Pos}{T id:String}{r:V->List V->Hp->VK->Prop}
theorem Zh (pa:PlainAttrs T)(slot:Slot T name id)(hty:typeOf (.builtin id)=pure (.type "method_descriptor"))(hm:MtR X id r)(ho:PE X o to)
  (hbase:attributeBase o name X.env (eval o X.env)=eval o X.env:=by ac_nf) (hline:(apos.endLine==cpos.line)=true:=by ac_nf):PE X (.Call (.Attribute o name apos) [] [] cpos) (a97 X.K T r to):=by
 intro pins s σ H Q I h
 refine wpAny_Call_method0_late hbase hline (thn (ho pins s σ H _ I h) fun v s1 ⟨x,H1,I1,r1,ty,q1⟩=>?_)
 obtain⟨h1,h2⟩:=Vn I1 r1 ty
 exact⟨T,id,pa,slot,hty,h1,h2,Calls.callWith_builtin rfl (PySem.evalArgs_none (hm pins s1 σ H1 x [] v [] Q I1 r1 .nil q1))⟩
theorem aa9 (pa:PlainAttrs T)(slot:Slot T name id)(hty:typeOf (.builtin id)=pure (.type "method_descriptor"))(hm:MtR X id r)(ho:PE X o to)(ha:PA X (e :: es) t)
  (hbase:attributeBase o name X.env (eval o X.env)=eval o X.env:=by ac_nf)
  (hfew:((backTo cpos (starEach (e :: es) X.env)).all (fun x=>!x.1)&&(backToKw cpos (keywordEach [] X.env)).all (fun x=>x.1.isSome)
   && decide ((e :: es).length+([]:List Keyword).length+(if([]:List Keyword).isEmpty then 0 else 1)<30))=true:=by ac_nf)
  (hline:(apos.endLine==cpos.line)=true:=by ac_nf) (hs:starEach (e :: es) X.env=(false,eval e X.env) :: starEach es X.env:=by ac_nf) (hplain:(backTo cpos (starEach es X.env)).any (·.1)=false:=by ac_nf) :
  PE X (.Call (.Attribute o name apos) (e :: es) [] cpos) (tBM X.K T r to t):=by
 intro pins s σ H Q I h
 refine wpAny_Call_method_late hbase hfew hline rfl (thn (ho pins s σ H _ I h) fun v s1 ⟨x,H1,I1,r1,ty,q1⟩=>?_)
 obtain⟨h1,h2⟩:=Vn I1 r1 ty
 refine⟨T,id,pa,slot,hty,h1,h2,?_⟩
 have hA:=ha cpos pins s1 σ H1 _ I1 q1
 rw[hs] at hA ⊢
 refine Calls.callWith_builtin (by show(false||(backTo cpos (starEach es X.env)).any (·.1))=false;rw[hplain]<;>rfl) (Calls.evalArgs_plain ?_)
 exact thn hA fun us s2 ⟨vs,H2,I2,r2,q2⟩=>hm pins s2 σ H2 x vs v us Q I2 r1 r2 q2
/- xs.append(e),list.index on a module's tuple .. are MtR facts of 06m -/
end
def MtM (X:Cx)(id:String)(r:V->List V->Hp->VK->Prop):Prop:=
 ∀(pins:List (Addr×Obj)) (s:Shared) (σ:St) (H:Hp) (x:V) (xs:List V) (v:Value) (us:List Value) (Q:VK),Inv X pins σ H s->RelV x v->Vals xs us->r x xs H Q ->
  wpAny (model X.prog X.w) X.A (call (.builtin id) (v :: us)) (EP X pins σ Q) X.xe s
theorem Vals.one {x:V}{us:List Value}(h:Vals [x] us):∃ u,us=[u]/\RelV x u:=by
 cases h with
 | cons r q=>cases q;exact⟨_,rfl,r⟩
theorem Vals.two {x y:V}{us:List Value}(h:Vals [x,y] us):∃ u v,us=[u,v]/\RelV x u/\RelV y v:=by
 cases h with
 | cons r q=>obtain⟨u,rfl,q'⟩:=Vals.one q;exact⟨_,_,rfl,r,q'⟩
theorem Vals.zero:∀ {us:List Value},Vals [] us->us=[]
 | _,.nil=>rfl
theorem Vals.dropLast {xs:List V}{us:List Value}(h:Vals xs us):Vals xs.dropLast us.dropLast:=by
 induction h with
 | nil=>exact .nil
 | cons r t ih=>
   cases t with
   | nil=>exact .nil
   | cons q t'=>exact .cons r ih
theorem Vals.eraseIdx:∀ {xs:List V} {us:List Value} (i:Nat),Vals xs us->Vals (xs.eraseIdx i) (us.eraseIdx i)
 | _,_,_,.nil=>.nil
 | _,_,0,.cons _ t=>t
 | _,_,i+1,.cons r t=>.cons r (Vals.eraseIdx i t)
theorem Vals.reverse {xs:List V}{us:List Value}(h:Vals xs us):Vals xs.reverse us.reverse:=by
 induction h with
 | nil=>exact .nil
 | cons r t ih=>rw[List.reverse_cons,List.reverse_cons];exact Vals.append ih (.cons r .nil)
theorem Vals.rep {xs:List V}{us:List Value}(h:Vals xs us):∀ k:Nat,Vals (List.replicate k xs).flatten (List.replicate k us).flatten
 | 0=>.nil
 | k+1=>by
   rw[List.replicate_succ,List.replicate_succ,List.flatten_cons,List.flatten_cons]
   exact Vals.append h (Vals.rep h k)
theorem Q0 {α:Type}(l:List α):l.eraseIdx (l.length-1)=l.dropLast:=by
 induction l with
 | nil=>rfl
 | cons a r ih=>
   cases r with
   | nil=>rfl
   | cons b r=>
     have e:(a :: b :: r).length-1=((b :: r).length-1)+1:=by
      have h1:(a :: b :: r).length=r.length+2:=rfl
      have h2:(b :: r).length=r.length+1:=rfl
      omega
     rw[e,List.eraseIdx_cons_succ,ih]
     all_goals rfl
theorem Ly {α:Type}:∀(l:List α) (i:Nat),(l.eraseIdx i).length<=l.length
 | [],_=>Nat.le_refl _
 | _ :: _,0=>Nat.le_succ _
 | _ :: r,i+1=>Nat.succ_le_succ (Ly r i)
theorem Ld (its:List Value):∀(k:Nat) (acc:List Value),
  List.foldl (fun x1 x2=>x1++x2) acc.toArray (List.replicate k its.toArray)=(acc++(List.replicate k its).flatten).toArray
 | 0,acc=>by simp
 | k+1,acc=>by
   have e:acc.toArray++its.toArray=(acc++its).toArray:=by simp
   have e2:(acc++its)++(List.replicate k its).flatten=acc++(List.replicate (k+1) its).flatten:=by
    rw[List.replicate_succ,List.flatten_cons,List.append_assoc]
   rw[<- e2,<- Ld its k (acc++its),<- e,List.replicate_succ,List.foldl_cons]
section
variable {X:Cx}{pins:List (Addr×Obj)}{σ:St}{H:Hp}{s:Shared}{l b:Addr}{xs ys zs:List V}
theorem Inv.lset {its its':List Value}{n:Nat}{f:Array Value->Array Value}{t':Nat}(I:Inv X pins σ H s)(hH:H l=some (.lst xs))
  (e:s.heap.get? l=some { cls:=.type "list",data:=.seq its.toArray n }) (hf:f its.toArray=its'.toArray) (hv:Vals ys its') (hz:ys.length<=sizeLine) :
  Inv X pins σ (upd H l (.lst ys)) { s with heap:=s.heap.update l (Obj.mapSeq f),toks:=t' }:=by
 have q:=PySem.IsL.update e f
 rw[hf] at q
 refine I.write (x:=l) (e:=l) (by rw[hH];exact trivial) (.inl rfl) (fun b' u hb hu=>(Heap.get?_update_other s.heap (Obj.mapSeq f) (Ne.symm hb)).trans hu) ⟨_,q⟩ ?_
 exact⟨hz,its',_,hv,q⟩
theorem Inv.lnew {its:List Value}{t':Nat}(I:Inv X pins σ H s)(hv:Vals ys its)(hz:ys.length<=sizeLine) :
  Inv X pins σ (upd H s.heap.objs.size (.lst ys)) { s with heap:=s.heap.push { cls:=.type "list",data:=.seq its.toArray },toks:=t' }:=
 I.laid (fun _ _ q=>Heap.get?_push_of_some _ q) (Nat.le_refl _) ⟨hz,its,0,hv,Heap.get?_push_size _ rfl⟩
theorem Inv.fresh (I:Inv X pins σ H s):H s.heap.objs.size=none:=I.hok.fresh (Nat.le_refl _)
theorem Inv.lstM (I:Inv X pins σ H s)(hH:H l=some (.lst xs)):xs.length<=sizeLine/\∃(its:List Value) (n:Nat),Vals xs its/\xs.length=its.length/\s.heap.get? l=some { cls:=.type "list",data:=.seq its.toArray n }:=by
 obtain⟨z,its,n,r,e⟩:=I.hok l _ hH
 exact⟨z,its,n,r,r.length,e⟩
theorem K7 {n:Nat}(h:n<=sizeLine):Builtin.List.listTooLong n=false:=by
 unfold Builtin.List.listTooLong
 exact decide_eq_false (by omega)
end
section
variable {X:Cx}
def Sq:V->List V->Hp->VK->Prop:=fun x vs H Q=>∃ l xs y,x = .ref l/\vs=[y]/\H l=some (.lst xs)/\xs.length<sizeLine/\Q .non (upd H l (.lst (xs++[y])))
theorem Ct:MtM X "list.append" Sq:=by
 intro pins s σ H x vs v us Q I rx rv h
 obtain⟨l,xs,y,rfl,rfl,hH,hz,q⟩:=h
 cases rx
 obtain⟨u,rfl,ru⟩:=rv.one
 obtain⟨z,its,n,r,hl,e⟩:=I.lstM hH
 refine call_meets F.slot_list_append ⟨_,e,rfl⟩ F.entry_list_append (F.args_list_append_2 _ _) (PySem.list_append l its.toArray n u (by rw[List.size_toArray];omega)) ⟨e,?_⟩
 refine⟨.non,_,I.lset (its':=its++[u]) hH e (by simp) (r.append (.cons ru .nil)) ?_,rfl,q⟩
 rw[List.length_append,List.length_singleton]
 omega
def N3:V->List V->Hp->VK->Prop:=fun x vs H Q=>∃ l b xs zs,x = .ref l/\vs=[.ref b]/\H l=some (.lst xs)/\H b=some (.lst zs)/\xs.length+zs.length<=sizeLine/\Q .non (upd H l (.lst (xs++zs)))
theorem Hn:MtM X "list.extend" N3:=by
 intro pins s σ H x vs v us Q I rx rv h
 obtain⟨l,b,xs,zs,rfl,rfl,hH,hB,hz,q⟩:=h
 cases rx
 obtain⟨u,rfl,ru⟩:=rv.one
 cases ru
 obtain⟨z,its,n,r,hl,e⟩:=I.lstM hH
 obtain⟨z2,its2,n2,r2,hl2,e2⟩:=I.lstM hB
 have hsz:its.toArray.size+its2.toArray.size<=sizeLine:=by rw[List.size_toArray,List.size_toArray];omega
 have hlong:¬ (!its.toArray.isEmpty&&Builtin.List.listTooLong (its.toArray.size+its2.toArray.size))=true:=by
  rw[K7 hsz,Bool.and_false]
  exact Bool.false_ne_true
 refine call_meets F.slot_list_extend ⟨_,e,rfl⟩ F.entry_list_extend (F.args_list_extend_2 _ _)
  (AutoSeq1.list_extend_list_list_0 l its.toArray n b its2.toArray n2 hlong (by rw[List.size_toArray];omega) (by omega)) ⟨e,e2,?_⟩
 refine⟨.non,_,I.lset (its':=its++its2) hH e (by simp) (r.append r2) ?_,rfl,q⟩
 rw[List.length_append]
 omega
def ad9:V->List V->Hp->VK->Prop:=fun x vs H Q=>∃ l xs y,x = .ref l/\vs=[]/\H l=some (.lst xs)/\xs[xs.length-1]? = some y/\Q y (upd H l (.lst xs.dropLast))
theorem a62:MtM X "list.pop" ad9:=by
 intro pins s σ H x vs v us Q I rx rv h
 obtain⟨l,xs,y,rfl,rfl,hH,hy,q⟩:=h
 cases rx
 have hus:=rv.zero
 subst hus
 obtain⟨z,its,n,r,hl,e⟩:=I.lstM hH
 obtain⟨u,hu,ru⟩:=r.get hy
 have hy':its.toArray[its.toArray.size-1]? = some u:=by
  show its.toArray[its.length-1]? = some u
  rw[<- Array.getElem?_toList,<- hl]
  exact hu
 refine call_meets F.slot_list_pop ⟨_,e,rfl⟩ F.entry_list_pop (F.args_list_pop_1 _) (MeetsSeq.list_pop_last l its.toArray n u hy' (by rw[List.size_toArray];omega)) ⟨e,?_⟩
 refine⟨y,_,I.lset (its':=its.dropLast) hH e ?_ r.dropLast ?_,ru,q⟩
 . show its.toArray.eraseIdxIfInBounds (its.toArray.size-1)=its.dropLast.toArray
   rw[List.size_toArray,List.eraseIdxIfInBounds_toArray,Q0]
 rw[List.length_dropLast]
 omega
def Vp:V->List V->Hp->VK->Prop:=fun x vs H Q=>∃ l xs i k y,x = .ref l/\vs=[.int i]/\H l=some (.lst xs) /\ -(2 ^ 63)<=i/\i<2 ^ 63/\seqIndex? i xs.length=some k/\xs[k]? = some y/\Q y (upd H l (.lst (xs.eraseIdx k)))
theorem Tq:MtM X "list.pop" Vp:=by
 intro pins s σ H x vs v us Q I rx rv h
 obtain⟨l,xs,i,k,y,rfl,rfl,hH,h1,h2,hk,hy,q⟩:=h
 cases rx
 obtain⟨u,rfl,ru⟩:=rv.one
 obtain⟨t,rfl⟩:=ru
 obtain⟨z,its,n,r,hl,e⟩:=I.lstM hH
 obtain⟨w,hw,rw'⟩:=r.get hy
 refine call_meets F.slot_list_pop ⟨_,e,rfl⟩ F.entry_list_pop (F.args_list_pop_2 _ _)
  (MeetsSeq.list_pop_at l its.toArray n i t k w (fitsIndex_both h1 h2) (by rw[List.size_toArray,<- hl];exact hk) (by rw[<- Array.getElem?_toList];exact hw) (by rw[List.size_toArray];omega)) ⟨e,?_⟩
 refine⟨y,_,I.lset (its':=its.eraseIdx k) hH e ?_ (r.eraseIdx k) ?_,rw',q⟩
 . show its.toArray.eraseIdxIfInBounds k=(its.eraseIdx k).toArray
   rw[List.eraseIdxIfInBounds_toArray]
 have:=Ly xs k
 omega
def ad7:R2:=fun x y H Q=>∃ l b xs zs,x = .ref l/\y = .ref b/\H l=some (.lst xs)/\H b=some (.lst zs)/\xs.length+zs.length<=sizeLine/\∀ p,H p=none->Q (.ref p) (upd H p (.lst (xs++zs)))
theorem op_cat:OpR X (binaryOp .Add) ad7:=by
 intro pins s σ H x y v u Q I rx ry h
 obtain⟨l,b,xs,zs,rfl,rfl,hH,hB,hz,q⟩:=h
 cases rx
 cases ry
 obtain⟨z,its,n,r,hl,e⟩:=I.lstM hH
 obtain⟨z2,its2,n2,r2,hl2,e2⟩:=I.lstM hB
 refine PySem.P.add_list e e2 ?_ (by rw[List.size_toArray,List.size_toArray];omega)
 have ea:its.toArray++its2.toArray=(its++its2).toArray:=by simp
 rw[ea]
 exact⟨.ref _,_,I.lnew (t':=s.toks) (r.append r2) (by rw[List.length_append];omega),rfl,q _ I.fresh⟩
def ac5:R2:=fun x y H Q=>∃ l k xs,x = .ref l/\y = .int k/\H l=some (.lst xs) /\ -(2 ^ 63)<=k/\k<2 ^ 63/\xs.length*k.toNat<=sizeLine /\
 ∀ p,H p=none->Q (.ref p) (upd H p (.lst (List.replicate k.toNat xs).flatten))
theorem I0 {α:Type}(xs:List α)(k:Nat):(List.replicate k xs).flatten.length=k*xs.length:=by
 induction k with
 | zero=>simp
 | succ k ih=>rw[List.replicate_succ,List.flatten_cons,List.length_append,ih,Nat.succ_mul,Nat.add_comm]
theorem a03:OpR X (binaryOp .Mult) ac5:=by
 intro pins s σ H x y v u Q I rx ry h
 obtain⟨l,k,xs,rfl,rfl,hH,h1,h2,hz,q⟩:=h
 cases rx
 obtain⟨t,rfl⟩:=ry
 obtain⟨z,its,n,r,hl,e⟩:=I.lstM hH
 have hlen:its.toArray.size*k.toNat<=sizeLine:=by rw[List.size_toArray,<- hl];exact hz
 have hcap:¬ its.toArray.size*k.toNat>(2 ^ 63-1) / 8:=by
  have:(sizeLine:Nat)<=(2 ^ 63-1) / 8:=by decide
  omega
 have hfit:¬ (!Builtin.List.listFitsIndex k)=true:=by
  rw[fitsIndex_both h1 h2]
  exact Bool.false_ne_true
 have hlong:¬ Builtin.List.listTooLong (its.toArray.size*k.toNat)=true:=by
  rw[K7 hlen]
  exact Bool.false_ne_true
 have hnew:List.foldl (fun x1 x2=>x1++x2) #[] (List.replicate (if its.toArray.isEmpty=true then 0 else k.toNat) its.toArray)=(List.replicate k.toNat its).flatten.toArray:=by
  have f0:∀ m:Nat,List.foldl (fun x1 x2=>x1++x2) #[] (List.replicate m its.toArray)=(List.replicate m its).flatten.toArray:=fun m=>by
   have:=Ld its m []
   rw[List.nil_append] at this
   exact this
  rw[f0]
  cases its with
  | nil=>simp
  | cons a r'=>rw[if_neg (by simp)]
 refine wpAny_binaryOp_repeat_ref (T:="list") (U:="int") (by decide) ⟨_,e,rfl⟩ (fun s'=>typeIs_int s' k t) noFill_list_mul F.fills_int_mul F.slot_int_rmul repeat_list F.slot_int_index.lookup
  (call_meets F.slot_int_rmul (typeIs_int s k t) F.entry_int_rmul (F.args_int_rmul_2 _ _) (int___rmul___int_list k t l its.toArray n)
   ⟨e,rfl,⟨_,e,rfl⟩,call_meets F.slot_list_mul ⟨_,e,rfl⟩ F.entry_list_mul (F.args_list_mul_2 _ _) (AutoListH.list___mul___list_int_3 l its.toArray n k t hfit hcap hlong) ⟨e,?_⟩⟩)
 rw[hnew]
 exact⟨.ref _,_,I.lnew (t':=s.toks) (r.rep k.toNat) (by rw[I0,Nat.mul_comm];exact hz),rfl,q _ I.fresh⟩
end
section
variable {prog:Program}{w:World}{A:Around}{E:Value->Shared->Prop}{s:Shared}
set_option maxRecDepth 100000 in
end
section
variable {X:Cx}
end
section
variable {κ:Type}[DecidableEq κ]
def Gz (kvs:List (κ×V))(k:κ):Option V:=(kvs.find? fun kv=>decide (kv.1=k)).map (·.2)
def Go (kvs:List (κ×V))(k:κ)(v:V):List (κ×V):=
 if(kvs.any fun kv=>decide (kv.1=k))=true then kvs.map (fun kv=>if kv.1=k then(kv.1,v) else kv) else kvs++[(k,v)]
theorem U4 {k:κ}:Gz ([]:List (κ×V)) k=none:=rfl
theorem Fy {p:κ×V} {r:List (κ×V)} {k:κ} (e:p.1=k):Gz (p :: r) k=some p.2:=by simp[Gz,List.find?_cons,e]
theorem Fn {p:κ×V}{r:List (κ×V)}{k:κ}(e:¬ p.1=k):Gz (p :: r) k=Gz r k:=by simp[Gz,List.find?_cons,e]
theorem Oe (k:κ):∀ kvs:List (κ×V),(kvs.any fun kv=>decide (kv.1=k))=(Gz kvs k).isSome
 | []=>rfl
 | p :: r=>by
   rw[List.any_cons]
   by_cases e:p.1=k
   . simp only[Fy e,decide_eq_true e,Bool.true_or,Option.isSome_some]
   rw[Fn e,decide_eq_false e,Bool.false_or];exact Oe k r
theorem Fk (kvs:List (κ×V))(k:κ)(v:V):(Go kvs k v).length<=kvs.length+1:=by
 unfold Go
 split
 . rw[List.length_map];omega
 rw[List.length_append,List.length_cons,List.length_nil];omega
theorem RelO.isSome_eq {o:Option V}{u:Option Value}(r:RelO o u):o.isSome=u.isSome:=by
 cases o with
 | none=>cases u with
   | none=>rfl
   | some _=>exact(show False from r).elim
 | some _=>cases u with
   | none=>exact(show False from r).elim
   | some _=>rfl
theorem KV.val {kvs:List (κ×V)} {vs:List (κ×Value)} (r:KV kvs vs) (k:κ):RelO (Gz kvs k) (valueAt vs k):=by
 unfold KV at r
 induction r with
 | nil=>exact True.intro
 | @cons p q ps qs h t ih=>
   obtain⟨h1,h2⟩:=h
   by_cases e:p.1=k
   . have e':q.1=k:=h1.symm.trans e
     have b:valueAt (q :: qs) k=some q.2:=by simp[valueAt,List.find?_cons,e']
     rw[Fy e,b];exact h2
   have e':¬ q.1=k:=fun z=>e (h1.trans z)
   have b:valueAt (q :: qs) k=valueAt qs k:=by simp[valueAt,List.find?_cons,e']
   rw[Fn e,b];exact ih
theorem KV.any {kvs:List (κ×V)}{vs:List (κ×Value)}(r:KV kvs vs)(k:κ):(kvs.any fun kv=>decide (kv.1=k))=vs.any fun kv=>decide (kv.1=k):=by
 unfold KV at r
 induction r with
 | nil=>rfl
 | cons h t ih=>rw[List.any_cons,List.any_cons,ih,h.1]
theorem KV.repl {kvs:List (κ×V)}{vs:List (κ×Value)}(r:KV kvs vs)(k:κ){y:V}{u:Value}(ry:RelV y u) :
  KV (kvs.map fun kv=>if kv.1=k then(kv.1,y) else kv) (vs.map fun kv=>if kv.1=k then(kv.1,u) else kv):=by
 unfold KV at r ⊢
 induction r with
 | nil=>exact .nil
 | @cons p q ps qs h t ih=>
   rw[List.map_cons,List.map_cons]
   refine .cons ?_ ih
   obtain⟨h1,h2⟩:=h
   by_cases e:p.1=k
   . rw[if_pos e,if_pos (h1.symm.trans e)];exact⟨h1,ry⟩
   rw[if_neg e,if_neg (fun z=>e (h1.trans z))];exact⟨h1,h2⟩
theorem KV.put {kvs:List (κ×V)}{vs:List (κ×Value)}(r:KV kvs vs)(k:κ){y:V}{u:Value}(ry:RelV y u):KV (Go kvs k y) (stored vs k u):=by
 unfold Go stored
 rw[r.any k]
 by_cases e:(vs.any fun kv=>decide (kv.1=k))=true
 . rw[if_pos e,if_pos e];exact r.repl k ry
 rw[if_neg e,if_neg e];exact Paired.snoc r ⟨rfl,ry⟩
theorem KV.length {kvs:List (κ×V)}{vs:List (κ×Value)}(r:KV kvs vs):kvs.length=vs.length:=Paired.length r
end
theorem Ni {P:Program}{w:World}{k:Key}{u:Value}(r:RelV (kV k) u):(B5 P w).is k u=true:=by
 cases k with
 | inl i=>obtain⟨t,e⟩:=(show ∃ t,u=Value.int i t from r);subst e;exact N7 P w i t
 | inr x=>obtain⟨t,e⟩:=(show ∃ t,u=Value.str x t from r);subst e;exact Nu P w x t
theorem Mv {P:Program}{w:World}:∀ {ks:List Key} {us:List Value},Vals (ks.map kV) us->ItemsAre (B5 P w) ks us
 | [],_,r=>by rw[List.map_nil] at r;cases r;exact .nil
 | k :: ks,_,r=>by
   rw[List.map_cons] at r
   cases r with
   | cons h t=>exact .cons (Ni h) (Mv t)
abbrev KT (H:Hp):List (List Key×V)->List (List Key×Addr×Value)->Prop:=Paired fun p q=>p.1=q.1/\H q.2.1=some (.tup (p.1.map kV))/\RelV p.2 q.2.2
theorem KT.val {H:Hp}{kvs:List (List Key×V)}{xs:List (List Key×Addr×Value)}(r:KT H kvs xs)(k:List Key):RelO (Gz kvs k) ((atKey xs k).map (·.2)):=by
 induction r with
 | nil=>exact True.intro
 | @cons p q ps qs h t ih=>
   obtain⟨h1,_,h2⟩:=h
   by_cases e:p.1=k
   . have e':q.1=k:=h1.symm.trans e
     have b:atKey (q :: qs) k=some q.2:=by simp[atKey,List.find?_cons,e']
     rw[Fy e,b];exact h2
   have e':¬ q.1=k:=fun z=>e (h1.trans z)
   have b:atKey (q :: qs) k=atKey qs k:=by simp[atKey,List.find?_cons,e']
   rw[Fn e,b];exact ih
theorem KT.repl {H:Hp} {kvs:List (List Key×V)} {xs:List (List Key×Addr×Value)} (r:KT H kvs xs) (k:List Key) {y:V} {u:Value} (ry:RelV y u) :
  KT H (kvs.map fun kv=>if kv.1=k then(kv.1,y) else kv) (xs.map (putAt k u)):=by
 induction r with
 | nil=>exact .nil
 | @cons p q ps qs h t ih=>
   rw[List.map_cons,List.map_cons]
   refine .cons ?_ ih
   obtain⟨h1,h2,h3⟩:=h
   unfold putAt
   by_cases e:p.1=k
   . rw[if_pos e,if_pos (h1.symm.trans e)];exact⟨h1,h2,ry⟩
   rw[if_neg e,if_neg (fun z=>e (h1.trans z))];exact⟨h1,h2,h3⟩
theorem KT.put {H:Hp}{kvs:List (List Key×V)}{xs:List (List Key×Addr×Value)}(r:KT H kvs xs)(k:List Key){b:Addr}{y:V}{u:Value}(hb:H b=some (.tup (k.map kV)))(ry:RelV y u) :
  KT H (Go kvs k y) (storedH xs k b u):=by
 have e:(kvs.any fun kv=>decide (kv.1=k))=(atKey xs k).isSome:=by
  rw[Oe,(r.val k).isSome_eq,Option.isSome_map]
 unfold Go storedH
 rw[e]
 by_cases q:(atKey xs k).isSome=true
 . rw[if_pos q,if_pos q];exact r.repl k ry
 rw[if_neg q,if_neg q];exact Paired.snoc r ⟨rfl,hb,ry⟩
theorem KT.keeps {H H':Hp}{kvs:List (List Key×V)}{xs:List (List Key×Addr×Value)}(r:KT H kvs xs)(ht:∀ b ys,H b=some (.tup ys)->H' b=some (.tup ys)):KT H' kvs xs:=
 Paired.mapP r fun _ _ z=>⟨z.1,ht _ _ z.2.1,z.2.2⟩
section
variable {P:Program}{w:World}{H:Hp}{h:Heap}{a:Addr}
theorem a43 {u:HO}(ok:HOk P w H h)(e:Rd H a u):ObjOk P w H h a u:=e.ok ok
theorem Pz {kvs:List (Key×V)}(ok:HOk P w H h)(e:Rd H a (.dK kvs)):kvs.length<=sizeLine/\(a==sysModules)=false/\∃ vs,KV kvs vs/\h.DictOf (B5 P w) a vs:=
 show ObjOk P w H h a (.dK kvs) from a43 ok e
theorem S5 {kvs:List (Key×V)}(ok:HOk P w H h)(e:H a=some (.dK kvs)):kvs.length<=sizeLine/\(a==sysModules)=false/\∃ vs,KV kvs vs/\h.DictOf (B5 P w) a vs:=Pz ok (.inl e)
theorem Mc {ks:List Key}(ok:HOk P w H h)(e:H a=some (.tup (ks.map kV))):(tupleKind (B5 P w)).is h ks a:=by
 obtain⟨_,its,r,o,h1,h2,⟨n,h3⟩,_⟩:=(show ObjOk P w H h a (.tup (ks.map kV)) from ok a _ e)
 exact⟨o,its.toArray,n,h1,h2,h3,by simpa using Mv r⟩
theorem Qd {kvs:List (List Key×V)}(ok:HOk P w H h)(e:Rd H a (.dT kvs)):kvs.length<=sizeLine/\(a==sysModules)=false /\
  ∃ xs,KT H kvs xs/\h.DictOfH (tupleKind (B5 P w)) a xs:=by
 obtain⟨z,y,xs,r,o,es,ep,h1,h2,h3,h4,h5⟩:=(show ObjOk P w H h a (.dT kvs) from a43 ok e)
 refine⟨z,y,xs,r,o,es,ep,h1,h2,h3,h4,fun x hx=>?_,h5⟩
 have all:∀ {l:List (List Key×V)} {m:List (List Key×Addr×Value)},KT H l m->∀ x∈m,(tupleKind (B5 P w)).is h x.1 x.2.1:=by
  intro l m q
  induction q with
  | nil=>intro x hx;exact nomatch hx
  | @cons p q ps qs hq t ih=>
    intro x hx
    rcases List.mem_cons.mp hx with e | hx
    . subst e
      exact Mc ok (by rw[<- hq.1];exact hq.2.1)
    exact ih x hx
 exact all r x hx
theorem a98 {kvs:List (List Key×V)}(ok:HOk P w H h)(e:H a=some (.dT kvs)):kvs.length<=sizeLine/\(a==sysModules)=false /\
  ∃ xs,KT H kvs xs/\h.DictOfH (tupleKind (B5 P w)) a xs:=Qd ok (.inl e)
end
def DGet (H:Hp)(a:Addr)(y:V)(r:Option V):Prop:=
 (∃ kvs k,Rd H a (.dK kvs)/\y=kV k/\r=Gz kvs k)\/∃ kvs k b,Rd H a (.dT kvs)/\y = .ref b/\H b=some (.tup (k.map kV))/\r=Gz kvs k
def DPut (H:Hp)(a:Addr)(y v:V)(H':Hp):Prop:=
 (∃ kvs k,H a=some (.dK kvs)/\y=kV k/\kvs.length<sizeLine/\H'=upd H a (.dK (Go kvs k v))) \/
 ∃ kvs k b,H a=some (.dT kvs)/\y = .ref b/\H b=some (.tup (k.map kV))/\kvs.length<sizeLine/\H'=upd H a (.dT (Go kvs k v))
theorem DGet.k {H:Hp}{a:Addr}{kvs:List (Key×V)}{k:Key}(e:H a=some (.dK kvs)):DGet H a (kV k) (Gz kvs k):=.inl ⟨kvs,k,.inl e,rfl,rfl⟩
theorem DPut.k {H:Hp}{a:Addr}{kvs:List (Key×V)}{k:Key}{v:V}(e:H a=some (.dK kvs))(hl:kvs.length<sizeLine):DPut H a (kV k) v (upd H a (.dK (Go kvs k v))):=.inl ⟨kvs,k,e,rfl,hl,rfl⟩
section
variable {X:Cx}{pins:List (Addr×Obj)}{σ:St}{H:Hp}{s:Shared}{a:Addr}{y v:V}{u r:Value}{o:Option V}{A:Around}{E:Value->Shared->Prop}
theorem Inv.big (I:Inv X pins σ H s):sysModules<s.heap.objs.size:=by
 have h:mainGlobals<s.heap.objs.size:=(I.mod.glob.keeps I.bk).lt
 exact Nat.lt_trans (by decide) h
theorem Sv {Q:Value->Shared->Prop}(hu:A.units+1<cLine)(I:Inv X pins σ H s)(g:DGet H a y (some v))(ry:RelV y u)(h:∀ w' s',Inv X pins σ H s'->RelV v w'->Q w' s') :
  wpAny (model X.prog X.w) A (getItem (.ref a) u) Q E s:=by
 rcases g with ⟨kvs,k,e,ey,l⟩ | ⟨kvs,k,b,e,ey,eb,l⟩
 . subst ey
   obtain⟨z,hd,vs,rel,dd⟩:=Pz I.hok e
   obtain⟨w',hw,rw'⟩:=RelO.some_of (v:=v) (o:=valueAt vs k) (by rw[l];exact rel.val k)
   exact wpAny_getItem_of (Ni ry) dd.mapOf hw (h w' _ (I.tok _) rw')
 subst ey
 cases (show u=Value.ref b from ry)
 obtain⟨z,hd,xs,rel,dd⟩:=Qd I.hok e
 obtain⟨w',hw,rw'⟩:=RelO.some_of (v:=v) (o:=(atKey xs k).map (·.2)) (by rw[l];exact rel.val k)
 obtain⟨p,hp,hp2⟩:=Option.map_eq_some_iff.mp hw
 refine wpAny_getItem_heap (tupleKind_room_in1 hu) (Mc I.hok eb) dd hp ?_
 rw[hp2]
 exact h w' _ (I.tok _) rw'
theorem d_in {Q:Value->Shared->Prop}(hu:A.units+1<cLine)(I:Inv X pins σ H s)(g:DGet H a y o)(ry:RelV y u)(h:∀ s',Inv X pins σ H s'->Q (.bool o.isSome) s') :
  wpAny (model X.prog X.w) A (compareOp .In u (.ref a)) Q E s:=by
 rcases g with ⟨kvs,k,e,ey,l⟩ | ⟨kvs,k,b,e,ey,eb,l⟩
 . subst ey
   obtain⟨z,hd,vs,rel,dd⟩:=Pz I.hok e
   refine wpAny_in_of (Ni ry) hd dd.mapOf ?_
   rw[<- (rel.val k).isSome_eq,<- l]
   exact h _ (I.tok _)
 subst ey
 cases (show u=Value.ref b from ry)
 obtain⟨z,hd,xs,rel,dd⟩:=Qd I.hok e
 refine wpAny_in_heap (tupleKind_room_in1 hu) (Mc I.hok eb) hd dd ?_
 have q:=(rel.val k).isSome_eq
 rw[Option.isSome_map] at q
 rw[<- q,<- l]
 exact h _ (I.tok _)
theorem X6 {Q:Value->Shared->Prop}(hu:A.units+1<cLine)(I:Inv X pins σ H s)(g:DGet H a y o)(ry:RelV y u)(h:∀ s',Inv X pins σ H s'->Q (.bool (!o.isSome)) s') :
  wpAny (model X.prog X.w) A (compareOp .NotIn u (.ref a)) Q E s:=by
 rcases g with ⟨kvs,k,e,ey,l⟩ | ⟨kvs,k,b,e,ey,eb,l⟩
 . subst ey
   obtain⟨z,hd,vs,rel,dd⟩:=Pz I.hok e
   refine wpAny_notIn_of (Ni ry) hd dd.mapOf ?_
   rw[<- (rel.val k).isSome_eq,<- l]
   exact h _ (I.tok _)
 subst ey
 cases (show u=Value.ref b from ry)
 obtain⟨z,hd,xs,rel,dd⟩:=Qd I.hok e
 refine wpAny_notIn_heap (tupleKind_room_in1 hu) (Mc I.hok eb) hd dd ?_
 have q:=(rel.val k).isSome_eq
 rw[Option.isSome_map] at q
 rw[<- q,<- l]
 exact h _ (I.tok _)
theorem Kn {h':Heap}{t':Nat}{ob:HO}(I:Inv X pins σ H s)(mu:Mut (H a))(hs:Heap.SameBut a s.heap h')(he:∃ q,h'.get? a=some q)(new:ObjOk X.prog X.w (upd H a ob) h' a ob) :
  Inv X pins σ (upd H a ob) { s with heap:=h',toks:=t' }:=
 I.write (x:=a) (e:=a) mu (.inl rfl) (fun b q hb z=>(hs.2 b hb).trans z) he new
theorem Oj {P:Program}{w:World}{H':Hp}{h':Heap}{kvs:List (Key×V)}{vs:List (Key×Value)}(z:kvs.length<=sizeLine)(hd:(a==sysModules)=false)(rel:KV kvs vs)(dd:h'.DictOf (B5 P w) a vs) :
  ObjOk P w H' h' a (.dK kvs):=⟨z,hd,vs,rel,dd⟩
theorem Sn {H':Hp}{Q:Unit->Shared->Prop}(hu:A.units+1<cLine)(I:Inv X pins σ H s)(g:DPut H a y v H')(ry:RelV y u)(rv:RelV v r)(h:∀ s',Inv X pins σ H' s'->Q () s') :
  wpAny (model X.prog X.w) A (setItem (.ref a) u r) Q E s:=by
 rcases g with ⟨kvs,k,e,ey,l,eH⟩ | ⟨kvs,k,b,e,ey,eb,l,eH⟩
 . subst ey eH
   obtain⟨z,hd,vs,rel,dd⟩:=S5 I.hok e
   have hz:vs.length<=sizeLine:=by rw[<- rel.length];exact z
   have hl:(Go kvs k v).length<=sizeLine:=by have:=Fk kvs k v;omega
   refine wpAny_setItem_pairs (hsz:=hz) (Ni ry) dd fun h' dd' hs=>h _ ?_
   have he:∃ q,h'.get? a=some q:=let ⟨q,_,_,hq,_⟩:=dd';⟨q,hq⟩
   exact Kn I (by rw[e];exact True.intro) hs he (Oj hl hd (rel.put k rv) dd')
 subst ey eH
 cases (show u=Value.ref b from ry)
 obtain⟨z,hd,xs,rel,dd⟩:=a98 I.hok e
 have hz:xs.length<=sizeLine:=by rw[<- Paired.length rel];exact z
 have hl:(Go kvs k v).length<=sizeLine:=by have:=Fk kvs k v;omega
 refine wpAny_setItem_heap (hsz:=hz) (tupleKind_room_in1 hu) (Mc I.hok eb) dd fun h' dd' hs=>h _ ?_
 obtain⟨q,es,ep,hq,h2,h3,h4,_,h5⟩:=dd'
 refine Kn I (by rw[e];exact True.intro) hs ⟨q,hq⟩ ⟨hl,hd,_,(rel.put k eb rv).keeps fun c ys ec=>?_,q,es,ep,hq,h2,h3,h4,h5⟩
 rw[As (ne_of ec e (fun z=>nomatch z))]
 exact ec
end
section
variable {X:Cx}{pins:List (Addr×Obj)}{σ:St}{H:Hp}{s:Shared}{a:Addr}{kvs:List (Key×V)}{k:Key}{u:Value}{A:Around}{E:Value->Shared->Prop}
theorem aa2 {Q:Value->Shared->Prop}(I:Inv X pins σ H s)(e:Rd H a (.dK kvs))(h:∀ t s',Inv X pins σ H s'->Q (.int kvs.length t) s'):wpAny (model X.prog X.w) A (call (.builtin "len") [.ref a]) Q E s:=by
 obtain⟨z,hd,vs,rel,dd⟩:=Pz I.hok e
 refine call_len_dict hd dd (by rw[<- rel.length];rw[sizeLine_eq] at z;omega) ?_
 rw[<- rel.length]
 exact h _ _ (I.tok _)
end
theorem O0 {X:Cx}{pins:List (Addr×Obj)}{σ:St}{H:Hp}{s:Shared}{a:Addr}{y:V}{o:Option V}(I:Inv X pins σ H s)(g:DGet H a y o):s.TypeIs (.ref a) "dict":=by
 rcases g with ⟨kvs,k,e,_,_⟩ | ⟨kvs,k,b,e,_,_,_⟩
 . obtain⟨_,_,vs,_,dd⟩:=Pz I.hok e
   exact dd.typeIs
 obtain⟨_,_,xs,_,dd⟩:=Qd I.hok e
 exact dd.typeIs
def a50 (td ty tv:TE):TS:=fun D σ H=>tv σ H fun v H1=>td σ H1 fun x H2=>ty σ H2 fun y H3=>∃ a H4,x = .ref a/\DPut H3 a y v H4/\D.nx σ H4
section
variable {X:Cx}{o i e value:Expr}{pos pos' tpos:Pos}{td ty tv:TE}
theorem Ig (hu:X.A.units+1<cLine)(ho:PE X o td)(hi:PE X i ty)(hv:PE X value tv)(hs:swapsWith value (some (.Subscript o i pos')) pos.line X.env=pure false) :
  PS X (.Assign [.Subscript o i pos'] value pos) (a50 td ty tv):=by
 intro pins s σ H D I h
 refine wpAny_Assign_Subscript (thn (hv pins s σ H _ I h) fun r s1 ⟨v,H1,I1,rv,q1⟩=>thn (ho pins s1 σ H1 _ I1 q1) fun u s2 ⟨x,H2,I2,rx,q2⟩=>thn (hi pins s2 σ H2 _ I2 q2) fun iv s3 ⟨y,H3,I3,ry,a,H4,ex,g,q3⟩=>?_) hs
 subst ex
 obtain rfl:u=Value.ref a:=rx
 exact Sn hu I3 g ry rv fun s4 I4=>⟨σ,H4,I4,q3⟩
end
theorem Od {P:Program}{w:World}{H:Hp}(h:Heap)(hb:sysModules<h.objs.size):ObjOk P w H (h.push { cls:=.type "dict",data:=.dict #[] }) h.objs.size (.dK []):=
 ⟨Nat.zero_le _,beq_eq_false_iff_ne.mpr (Ne.symm (Nat.ne_of_lt hb)),[],.nil,Heap.DictOf.new h⟩
def Vi:TE:=fun _ H Q=>∀ p,H p=none->Q (.ref p) (upd H p (.dK []))
section
variable {X:Cx}{pos:Pos}
theorem U3:PE X (.Dict [] [] pos) Vi:=fun pins s σ H Q I h=>
 wpAny_Dict_empty ⟨.ref s.heap.objs.size,_,I.laid (a:=s.heap.objs.size) (o:=.dK []) (t':=s.toks) (fun _ _ q=>Heap.get?_push_of_some _ q) (Nat.le_refl _) (Od s.heap I.big),rfl,h _ (I.hok.fresh (Nat.le_refl _))⟩
end
def Hv:List (TE×TE)->St->Hp->(List (V×V)->Hp->Prop)->Prop
 | [],_,H,Q=>Q [] H
 | (tk,tv) :: r,σ,H,Q=>tk σ H fun x H1=>tv σ H1 fun y H2=>Hv r σ H2 fun ps H3=>Q ((x,y) :: ps) H3
abbrev VV:List (V×V)->List (Value×Value)->Prop:=Paired fun p q=>RelV p.1 q.1/\RelV p.2 q.2
def PPs (X:Cx)(pos:Pos)(keys:List (Option Expr))(values:List Expr)(trs:List (TE×TE)):Prop:=
 ∀(pins:List (Addr×Obj)) (s:Shared) (σ:St) (H:Hp) (Q:List (V×V)->Hp->Prop),Inv X pins σ H s->Hv trs σ H Q ->
  wpAny (model X.prog X.w) X.A (evalPairs (pairTrees keys values X.env pos)) (fun vs s'=>∃ ps H',Inv X pins σ H' s'/\VV ps vs/\Q ps H') X.xe s
theorem Y8 {X:Cx}{pos:Pos}:PPs X pos [] [] []:=fun pins s σ H Q I h=>pairTrees_nil_walk ⟨[],H,I,.nil,h⟩
theorem Hd {X:Cx}{pos:Pos}{k v:Expr}{ks:List (Option Expr)}{vs:List Expr}{tk tv:TE}{trs:List (TE×TE)}(hk:PE X k tk)(hv:PE X v tv)(hr:PPs X pos ks vs trs) :
  PPs X pos (some k :: ks) (v :: vs) ((tk,tv) :: trs):=fun pins s σ H Q I h=>
 pairTrees_cons_walk (thn (hk pins s σ H _ I h) fun u s1 ⟨x,H1,I1,rx,q1⟩=>thn (hv pins s1 σ H1 _ I1 q1) fun w2 s2 ⟨y,H2,I2,ry,q2⟩=>
  thn (hr pins s2 σ H2 _ I2 q2) fun ws s3 ⟨ps,H3,I3,rel,q3⟩=>⟨(x,y) :: ps,H3,I3,.cons ⟨rx,ry⟩ rel,q3⟩)
def Df (kvs more:List (Key×V)):List (Key×V):=more.foldl (fun acc kv=>Go acc kv.1 kv.2) kvs
theorem KV.merge:∀ {more:List (Key×V)} {rs:List (Key×Value)} {kvs:List (Key×V)} {vs:List (Key×Value)},KV more rs->KV kvs vs->KV (Df kvs more) (merged vs rs):=by
 intro more rs kvs vs r
 unfold KV at r
 induction r generalizing kvs vs with
 | nil=>intro q;exact q
 | @cons p q ps qs h t ih=>
   intro r0
   have e:KV (Go kvs p.1 p.2) (stored vs q.1 q.2):=by
    have:=r0.put p.1 h.2
    rw[<- h.1];exact this
   exact ih e
theorem D5:∀(more kvs:List (Key×V)),(Df kvs more).length<=kvs.length+more.length
 | [],kvs=>by show kvs.length<=kvs.length+0;omega
 | p :: r,kvs=>by
   have h1:=D5 r (Go kvs p.1 p.2)
   have h2:=Fk kvs p.1 p.2
   show(Df (Go kvs p.1 p.2) r).length<=_
   rw[List.length_cons];omega
theorem Jq {P:Program}{w:World}:∀ {kvs:List (Key×V)} {ws:List (Value×Value)},VV (kvs.map fun kv=>(kV kv.1,kv.2)) ws->∃ rs,Carries (B5 P w) ws rs/\KV kvs rs
 | [], _,r=>by rw[List.map_nil] at r;cases r;exact⟨[],True.intro,.nil⟩
 | p :: kvs,_,r=>by
   rw[List.map_cons] at r
   cases r with
   | @cons a b as bs h t=>
     obtain⟨rs,c,q⟩:=Jq (P:=P) (w:=w) t
     obtain⟨b1,b2⟩:=b
     exact⟨(p.1,b2) :: rs,⟨Ni h.1,rfl,c⟩,.cons ⟨rfl,h.2⟩ q⟩
def Zy (trs:List (TE×TE)):TE:=fun σ H Q=>∀ p,H p=none->Hv trs σ (upd H p (.dK [])) fun ps H2=>H2 p=some (.dK [])/\∃ kvs:List (Key×V),ps=kvs.map (fun kv=>(kV kv.1,kv.2))/\kvs.length<=15/\Q (.ref p) (upd H2 p (.dK (Df [] kvs)))
theorem X8 {X:Cx}{pos:Pos}{keys:List (Option Expr)}{values:List Expr}{trs:List (TE×TE)}(h:PPs X pos keys values trs)(hall:keys.all (·.isSome)=true)(hl:keys.length=values.length)(h0:keys≠[])
  (h15:keys.length<=15):PE X (.Dict keys values pos) (Zy trs):=by
 intro pins s σ H Q I q
 have hn:=I.hok.fresh (Nat.le_refl s.heap.objs.size)
 have I1:=I.laid (a:=s.heap.objs.size) (o:=.dK []) (h':=s.heap.push { cls:=.type "dict",data:=.dict #[] }) (t':=s.toks) (fun _ _ q=>Heap.get?_push_of_some _ q) (Nat.le_refl _) (Od s.heap I.big)
 refine wpAny_Dict_walk (knd:=B5 X.prog X.w) hall hl h0 h15 (thn (h pins _ σ _ _ I1 (q _ hn)) fun ws s2 ⟨ps,H2,I2,rel,e,kvs,ep,lk,q2⟩=>?_)
 subst ep
 obtain⟨rs,c,rk⟩:=Jq (P:=X.prog) (w:=X.w) rel
 obtain⟨z,hd,vs0,r0,dd⟩:=S5 I2.hok e
 cases r0
 refine⟨rs,c,dd,fun h' dd' hs=>⟨.ref s.heap.objs.size,_,?_,rfl,q2⟩⟩
 have hz:(Df [] kvs).length<=sizeLine:=by
  have h1:=D5 kvs []
  rw[List.length_nil] at h1
  rw[sizeLine_eq];omega
 have he:∃ q,h'.get? s.heap.objs.size=some q:=let ⟨q,_,_,hq,_⟩:=dd';⟨q,hq⟩
 exact Kn I2 (by rw[e];exact True.intro) hs he (Oj hz hd (rk.merge .nil) dd')
section
variable {X:Cx}{pins:List (Addr×Obj)}{σ:St}{H:Hp}{s:Shared}{a:Addr}{y d:V}{u r:Value}{o:Option V}{A:Around}{E:Value->Shared->Prop}
end
section
variable {X:Cx}{o e f:Expr}{apos cpos:Pos}{td ty tx:TE}
end
section
variable {X:Cx}{pins:List (Addr×Obj)}{σ:St}{H:Hp}{s:Shared}{a:Addr}{kvs:List (Key×V)}{A:Around}{E:Value->Shared->Prop}
end
section
variable {X:Cx}{pins:List (Addr×Obj)}{σ:St}{H:Hp}{s:Shared}{a:Addr}{y:V}{u:Value}{A:Around}{E:Value->Shared->Prop}
end
end L2
namespace Att
open PySem PySem.W PySem.Calls PyProof.Rows
theorem Hr {P:Params}{h:Heap}:∀(ns:List Int) (vs:List Value),WellAll P h vs (ns.map WData.int)->IntsAre vs ns:=by
 intro ns
 induction ns with
 | nil=>
   intro vs w
   rw[List.map_nil] at w
   cases w
   exact .nil
 | cons n ns ih=>
   intro vs w
   rw[List.map_cons] at w
   cases w with
   | cons a b=>
     cases a
     exact .cons _ _ (ih _ b)
theorem R0 {l:OpenLaw}{n:Nat}(hn:l.most=some n){P:Params}{h:Heap}{args:List WData}{vals:List Value}
  (hpre:l.row.toRowW.claim.pre args=true) (hwl:WellAll P h vals args) :
  ∃ a vs ns,vals=[Value.ref a]/\args=[WData.list (ns.map WData.int)]/\h.get? a=some { cls:=.type "list",data:=.seq vs.toArray }/\IntsAre vs ns/\ns.length<=n:=by
 have hsh:WShape.hasAll [] args [.list .int]=true:=(pre_splitW hpre).1
 have hc:l.pre.holds [] { args:=args }=true:=(pre_splitW hpre).2
 obtain⟨d,r,rfl,h1,h2⟩:=hasAllW_cons hsh
 obtain rfl:=hasAllW_nil h2
 obtain⟨xs,rfl,h3⟩:=hasW_list h1
 obtain⟨ns,rfl⟩:=items_int h3
 have hlen:ns.length<=n:=by
  unfold OpenLaw.pre at hc
  have h4:(WTm.not (.lt (.lit (.int (n:Int))) (.len (.arg 0)))).holds [] { args:=[.list (ns.map .int)] }=true:=by
   have h4:=(holds_andW hc).1
   rw[hn] at h4
   exact h4
  have h5:=condW_of h4 (w_not (w_lt w_lit (w_len_list (w_arg rfl))))
  rw[List.length_map] at h5
  refine Nat.le_of_not_lt fun q=>?_
  have q':(n:Int)<((ns.length:Nat):Int):=by omega
  first
   | (rw[decide_eq_true q'] at h5;exact absurd h5 (by decide))
   | (simp at h5;omega)
 cases hwl with
 | cons w1 w2=>
   cases w2
   cases w1 with
   | list ho hall=>exact⟨_,_,ns,rfl,rfl,ho,Hr ns _ hall,hlen⟩
theorem Qo (l:OpenLaw)(args:List WData):l.row.toRowW.claim.post args (.bool true) args=true:=
 postW_of (r:=l.row.toRowW) (X:=(true==true))
  (show WShape.has [] (.bool true) .bool=true by first | rfl | decide | simp[WShape.has,WShape.arms,WShape.armsAll])
  (show(WTm.eq .res (.lit (.bool true))).value [] { args:=args,res:=some (.bool true),after:=args }=some (.bool (true==true)) from w_eq_bool (w_res rfl) w_lit) rfl
theorem attach_call {l:OpenLaw}{n:Nat}{q:Program}{loose:List Str}{XP:(Str->Option Value)->Heap->Prop}{YP:World->Heap->Prop}{d:DefRec}
  (hn:l.most=some n) (hdf:d.params.defaults=[])
  (call:∀(w:World) (s₀ s₁:Shared) (mg mb:Str->Option Value) (fa:Addr) (o:Obj) (pm cd doc:Value) (a:Addr) (vs:List Value) (ns:List Int),
   Ground q loose [] XP w s₀ mg mb s₁.heap->YP w s₁.heap ->
   s₁.heap.get? fa=some o->o.data = .func (docDef d.name d.params d.body d.scope pm cd doc)->s₁.heap.CodeRec cd d.name->mg d.name=some (.ref fa) ->
   s₁.heap.get? a=some { cls:=.type "list",data:=.seq vs.toArray }->IntsAre vs ns->ns.length<=n->s₁.gens = #[] ->
   codeAny (model l.prog w) callerA (.call (.ref fa) ⟨[.ref a],[]⟩) (fun r s'=>r = .ok (.ret (.bool true))/\OldK s₁.heap s'.heap/\s'.os=s₁.os/\AllBare s'.gens) s₁) :
  WalkO q loose XP YP l.row.toRowW d [] (fun f vs=>PySem.call f vs):=by
 intro w s₀ s₁ mg mb G Y fa o pm cd doc dV kV ho hd hcd hD hmg hg args vals as hpre hlay hrd hwl hlo
 obtain rfl:dV = .none:=Dflts.none hD hdf
 obtain rfl:kV = .none:=Dflts.noKw hD
 obtain⟨a,vs,ns,rfl,rfl,hobj,hints,hlen⟩:=R0 hn hpre hwl
 refine enter_call (codeAny_mono (call w s₀ s₁ mg mb fa o pm cd doc a vs ns G Y ho (fd_plain hd) hcd hmg hobj hints hlen hg) fun r s' hq=>?_)
 obtain⟨rfl,h2,h3,h4⟩:=hq
 exact⟨.inl ⟨.bool true,.bool true,[],rfl,fun _=>rfl,.bool true,Qo l _,fun _=>⟨List.Pairwise.nil,fun _ hm=>(nomatch hm)⟩⟩,h2,h3,h4⟩
section
variable {prog:Program}{w:World}{A:Around}{E:Value->Shared->Prop}{s:Shared}{K:Frag}
end
end Att
namespace L2
open PySem PySem.Spec PyProof.Rows
theorem Mu:∀ {vs:List Value} {ns:List Int},IntsAre vs ns->Vals (ns.map V.int) vs
 | _,_,.nil=>.nil
 | _,_,.cons n t h=>.cons ⟨t,rfl⟩ (Mu h)
def aa5 (H:Hp):Prop:=∀ b,H b=none\/∃ o xs,H b=some (.frz o (.lst xs))
theorem Uj {P:Program}{w:World}{K:PySem.W.Frag}{mg mb:Str->Option Value}{CX:CXT}{k:Nat}{fa a:Addr}{fd:FuncData}{x:Str}{sp:Sp}{s₁:Shared}{vs:List Value}{ns:List Int}
  (KX:K.In s₁.heap) (hns:s₁.heap.Ns mainGlobals mg) (hb:s₁.heap.Ns builtinsNs mb) (hbb:∀ x:Str,x ≠ "__name__" -> mb x=bootBuiltins x) (hlim:s₁.heap.NoLimit) (hg:s₁.gens = #[])
  (ha:s₁.heap.get? a=some { cls:=.type "list",data:=.seq vs.toArray }) (hi:IntsAre vs ns) (hl:ns.length<=sizeLine) (hr:Room k callerA)
  (F:∀ base:Heap,K.In base->base.Ns mainGlobals mg->FnOk P w K mg base CX k fa fd [x] sp) (hbind:∀(s:Shared) (u:Value),BindsTo s fd ⟨[u],[]⟩ [(x,u)])
  (hsp:∀ H:Hp,aa5 H->SqL K H a (ns.map V.int)->sp [.ref a] H (fun v _=>v = .bl true) fun _ _ _=>False)
  (hCX:∀ H e s',CX [] H s₁ (fun _ _ _=>False) e s'->False) :
  codeAny (model P w) callerA (.call (.ref fa) ⟨[.ref a],[]⟩) (fun r s'=>r = .ok (.ret (.bool true))/\OldK s₁.heap s'.heap/\s'.os=s₁.os/\AllBare s'.gens) s₁:=by
 have rv:=Mu hi
 have lenV:=hi.length
 have core:∀ H:Hp,aa5 H->SqL K H a (ns.map V.int)->HOk P w H s₁.heap->(∀ b,H b≠none->b=a)->(H a≠none->K.lookup a=none) ->
   codeAny (model P w) callerA (.call (.ref fa) ⟨[.ref a],[]⟩) (fun r s'=>r = .ok (.ret (.bool true))/\OldK s₁.heap s'.heap/\s'.os=s₁.os/\AllBare s'.gens) s₁:=by
  intro H hO hS hok hA hK
  have base_of:∀ {b:Addr} {o:Obj},s₁.heap.get? b=some o->H b=none->(Uk s₁.heap H).get? b=some o:=fun e n=>Tn e n
  have noA:∀ {b:Addr} {o:Obj} {es:Array DictEntry} {ep:Nat},s₁.heap.get? b=some o->o.data = .dict es ep->H b=none:=fun {b o es ep} e d=>by
   cases q:H b with
   | none=>rfl
   | some u=>
     have e':b=a:=hA b (by rw[q];simp)
     subst e'
     rw[ha] at e;cases e
     have d':Data.seq vs.toArray _=Data.dict es ep:=d
     cases d'
  have nsK:∀ {b:Addr} {m:Str->Option Value},s₁.heap.Ns b m->(Uk s₁.heap H).Ns b m:=fun {b m} ⟨o,es,ep,e,d,r⟩=>⟨o,es,ep,base_of e (noA e d),d,r⟩
  have hKb:K.In (Uk s₁.heap H):=fun b o e=>base_of (KX b o e) (by
   cases q:H b with
   | none=>rfl
   | some u=>
     have e':b=a:=hA b (by rw[q];simp)
     subst e'
     rw[hK (by rw[q];simp)] at e;cases e)
  have hM:Mod K mg (Uk s₁.heap H):=⟨hKb,nsK hns,⟨mb,nsK hb,hbb⟩,let ⟨mc,h1,h2⟩:=hlim;⟨mc,nsK h1,h2⟩⟩
  have e0:a79 P w K mg (Uk s₁.heap H) callerA [] s₁ H:=⟨rfl,hM,fun b o e=>Wy e,Nat.le_of_eq (Th _ _),trivial,fun b hb=>absurd (show b∈([]:List Addr) from hb) (by simp),hok,.of_eq hg⟩
  refine codeAny_mono ((F _ hKb (nsK hns)).run callerA [] s₁ H ⟨[.ref a],[]⟩ [.ref a] [.ref a] _ _ hr e0 (hbind s₁ (.ref a)) (.cons rfl .nil) (hsp H hO hS)) fun r s' h=>?_
  cases r with
  | error e=>exact(hCX H e s' h).elim
  | ok fl=>
    cases fl with
    | next=>exact False.elim h
    | brk=>exact False.elim h
    | cont=>exact False.elim h
    | ret u=>
      obtain⟨v,H',os,bare,un,hok',r',q⟩:=h
      have q':v = .bl true:=q
      subst q'
      obtain rfl:u=Value.bool true:=r'
      refine⟨rfl,OldK.of_keep fun b o e=>?_,os,bare⟩
      cases q:H b with
      | none=>exact un.keep b o e q (by intro z;exact absurd (show b∈([]:List Addr) from z) (by simp)) (by simp)
      | some u=>
        rcases hO b with z | ⟨ob,xs,z⟩
        . rw[q] at z;cases z
        have z2:=un.frzs b ob _ z
        obtain⟨e1,_⟩:=hok b _ z
        obtain⟨e2,_⟩:=hok' b _ z2
        rw[e] at e1;cases e1
        exact e2
 cases hk:K.lookup a with
 | some o=>
   have e:=KX a o hk
   rw[ha] at e
   cases e
   refine core (fun _=>none) (fun _=>.inl rfl) (.inr ⟨_,vs.toArray,_,hk,rfl,rfl,rfl,by rw[List.size_toArray,lenV];exact hl,by simpa using rv⟩) (fun b u z=>by have z':(none:Option HO)=some u:=z;cases z') (fun b z=>absurd rfl z) fun z=>absurd rfl z
 | none=>
   refine core (fun b=>if b=a then some (.frz { cls:=.type "list",data:=.seq vs.toArray } (.lst (ns.map V.int))) else none) (fun b=>?_) (.inl (.inr ⟨{ cls:=.type "list",data:=.seq vs.toArray },if_pos rfl⟩)) (fun b u z=>?_) (fun b z=>?_) fun _=>hk
   . by_cases hb:b=a
     . exact .inr ⟨_,_,if_pos hb⟩
     exact .inl (if_neg hb)
   . by_cases hb:b=a
     . have z':=(if_pos hb).symm.trans z
       cases z'
       subst hb
       exact⟨ha,by rw[List.length_map];exact hl,vs,_,rv,ha⟩
     have z':=(if_neg hb).symm.trans z
     cases z'
   by_cases hb:b=a
   . exact hb
   exact absurd (if_neg hb) z
theorem walk_of {l:PySem.W.OpenLaw}{n k:Nat}{q:Program}{loose:List Str}{XP:(Str->Option Value)->Heap->Prop}{YP:World->Heap->Prop}{d:DefRec}{K:Params->PySem.W.Frag}{CX:World->CXT}{sp:World->Sp}{x:Str}
  (hn:l.most=some n) (hn2:n<=sizeLine) (hdf:d.params.defaults=[]) (hr:Room k callerA)
  (hY:∀(w:World) (h:Heap),YP w h->(K w.params).In h)
  (F:∀(w:World) (mg:Str->Option Value) (fa:Addr) (h:Heap),(K w.params).In h->h.Ns mainGlobals mg->mg d.name=some (.ref fa) ->
   ∃ fd:FuncData,(∀(s:Shared) (u:Value),BindsTo s fd ⟨[u],[]⟩ [(x,u)]) /\
    ∀ base:Heap,(K w.params).In base->base.Ns mainGlobals mg->FnOk l.prog w (K w.params) mg base (CX w) k fa fd [x] (sp w))
  (hsp:∀(w:World) (H:Hp) (a:Addr) (ns:List Int),ns.length<=n->aa5 H->SqL (K w.params) H a (ns.map V.int)->sp w [.ref a] H (fun v _=>v = .bl true) fun _ _ _=>False)
  (hCX:∀(w:World) (H:Hp) (s:Shared) (e:Value) (s':Shared),CX w [] H s (fun _ _ _=>False) e s'->False) :
  PySem.W.WalkO q loose XP YP l.row.toRowW d [] (fun f vs=>PySem.call f vs):=by
 refine Att.attach_call hn hdf fun w s₀ s₁ mg mb fa o pm cd doc a vs ns G Y ho hd hcd hmg hobj hints hlen hg=>?_
 have KX:=hY w _ Y
 obtain⟨fd,hb,hF⟩:=F w mg fa _ KX G.T.g hmg
 exact Uj KX G.T.g G.T.b G.T.builtins G.T.nolimit hg hobj hints (Nat.le_trans hlen hn2) hr hF hb (fun H hO hS=>hsp w H a ns hlen hO hS) fun H e s'=>hCX w H s₁ e s'
def Af (s:Stmt):Arguments:=match s with
 | .FunctionDef _ a _ _ _ _ _ _ _ _=>a
 | _=>{ posonlyargs:=[],args:=[],vararg:=none,kwonlyargs:=[],kw_defaults:=[],kwarg:=none,defaults:=[] }
def Ad (s:Stmt):List Stmt:=match s with
 | .FunctionDef _ _ b _ _ _ _ _ _ _=>b
 | _=>[]
def A4 (s:Stmt):Scope:=match s with
 | .FunctionDef _ _ _ _ _ _ sc _ _ _=>sc
 | _=>{ kind:=.function,names:=[],isGenerator:=false,isCoroutine:=false }
abbrev CX0:CXT:=fun _ _ _ _ _ _=>False
abbrev E0:XK:=fun _ _ _=>False
theorem aa1 {X:Cx}:La CX0 X E0:=fun _ _ _ _ _ _ _ h=>h.elim
structure Fun (K:PySem.W.Frag)(x qual:Str)(st:Stmt)(f:Addr)(fd:FuncData):Prop where
 ex:∃(oc:Value) (od:Option Addr) (kV doc pm:Value) (an:Option Addr) (cdv ct:Value) (osl:Array (Option Value)),
  fd=PySem.W.fnOf x qual (Af st) (Ad st) (A4 st) .none kV doc pm an cdv ct/\K.lookup f=some ⟨oc,od,.func fd,osl⟩/\PySem.W.codeIn K cdv qual=true
 kp:PySem.W.keepIn K (.ref f)=true
section
variable {P:Program}{w:World}{K:PySem.W.Frag}{mg:Str->Option Value}{base:Heap}
theorem Fun.ok {x qual:Str}{st:Stmt}{f:Addr}{fd:FuncData}{N ps:List Str}{k:Nat}{sp:Sp}(F:Fun K x qual st f fd)(S:Ak N ps (A4 st))(len:∀ vs H Q E,sp vs H Q E->vs.length=ps.length)
  (hbody:∀(cdv:Value) (A:Around) (outer:List Env) (s:Shared) (H:Hp) (vs:List V) (Q:VK) (E:XK),Room k (A.deeper (envOfC qual (A4 st) s.heap.objs.size f cdv))->sp vs H Q E ->
   ∃ t,PSs (Tl CX0 P w K mg base N qual (A4 st) f cdv A outer s H E).nox (Ad st) t/\t { nx:=fun _ H'=>Q .non H',rt:=Q } (Kx N vs) H):FnOk P w K mg base CX0 (k+1) f fd ps sp:=by
 obtain⟨oc,od,kV,doc,pm,an,cdv,ct,osl,rfl,lk,hcd⟩:=F.ex
 refine a47 lk hcd S len fun A outer s H vs Q E hr hsp=>?_
 obtain⟨t,h,q⟩:=hbody cdv A outer s H vs Q E hr hsp
 exact⟨t,h.nox,q⟩
theorem Fun.binds {x qual:Str}{st:Stmt}{f:Addr}{fd:FuncData}{ps:List Str}(F:Fun K x qual st f fd)
  (h:∀(kV doc pm:Value) (an:Option Addr) (cdv ct:Value) (us:List Value),us.length=ps.length->bindArgs (PySem.W.fnOf x qual (Af st) (Ad st) (A4 st) .none kV doc pm an cdv ct) ⟨us,[]⟩=pure (ps.zip us)):Binds K fd ps []:=by
 obtain⟨oc,od,kV,doc,pm,an,cdv,ct,osl,rfl,lk,hcd⟩:=F.ex
 exact .all (h kV doc pm an cdv ct)
theorem B4 {x qual:Str}{st:Stmt}{f:Addr}{oc:Value}{od an:Option Addr}{osl:Array (Option Value)}{kV doc pm cdv ct:Value}(l:K.lookup f=some ⟨oc,od,.func (PySem.W.fnOf x qual (Af st) (Ad st) (A4 st) .none kV doc pm an cdv ct),osl⟩)
  (c:PySem.W.codeIn K cdv qual=true) (k:PySem.W.keepIn K (.ref f)=true):Fun K x qual st f (PySem.W.fnOf x qual (Af st) (Ad st) (A4 st) .none kV doc pm an cdv ct):=⟨⟨oc,od,kV,doc,pm,an,cdv,ct,osl,rfl,l,c⟩,k⟩
end
theorem C0 {A:Around}{k:Nat}(hr:Room k A):A.units+1<cLine:=Nat.lt_of_le_of_lt (Nat.add_le_add_left (by decide:1<=64) _) hr.units
theorem R7 {n:Nat}(h:n<=1000):n<sizeLine:=Nat.lt_of_le_of_lt h (by decide)
section
variable {X:Cx}
theorem pv (i:Nat){x:Str}{pos:Pos}(hN:X.N[i]? = some x:=by ac_nf)(hv:Vis X.env.scope x:=by with_unfolding_all first | exact Or.inl rfl | exact Or.inr (Or.inl rfl) | exact Or.inr (Or.inr rfl))(hd:(x==("__debug__":Str))=false:=by decide)
  (hcd:(x==("__classdict__":Str))=false:=by decide):PE X (.Name x pos) (ab0 i):=Z6 hN hv hd hcd
end
theorem iteF {A B:Prop}(h:B):if false=true then A else B:=by
 rw[if_neg Bool.false_ne_true]
 exact h
theorem iteT {A B:Prop}(h:A):if true=true then A else B:=by
 rw[if_pos rfl]
 exact h
theorem ab4 {c A B:Prop}[Decidable c](h1:c->A)(h2:¬ c->B):if c then A else B:=by
 by_cases h:c
 . rw[if_pos h]
   exact h1 h
 rw[if_neg h]
 exact h2 h
def Same (H H':Hp):Prop:=∀ b o,H b=some o->H' b=some o
theorem Same.refl (H:Hp):Same H H:=fun _ _ h=>h
theorem Same.trans {H H1 H2:Hp} (a:Same H H1) (b:Same H1 H2):Same H H2:=fun c o h=>b c o (a c o h)
theorem Same.free {H H':Hp}(e:Same H H'){l:Addr}(h:H' l=Option.none):H l=Option.none:=by
 cases q:H l with
 | none=>rfl
 | some o=>
   rw[e l o q] at h
   cases h
theorem Same.seq {K:PySem.W.Frag}{H H':Hp}{a:Addr}{xs:List V}(e:Same H H')(h:SqL K H a xs):SqL K H' a xs:=by
 rcases h with (h | ⟨o,h⟩) | h
 . exact .inl (.inl (e _ _ h))
 . exact .inl (.inr ⟨o,e _ _ h⟩)
 exact .inr h
section
variable {X:Cx}
theorem Sx:CallR X (.builtin "len") (fun xs H Q=>∃ a kvs,xs=[V.ref a]/\H a=some (.dK kvs)/\Q (.int kvs.length) H):=by
 intro pins s σ H xs us Q I r h
 obtain⟨a,kvs,rfl,ha,q⟩:=h
 obtain⟨u,rfl,ru⟩:=G5 r
 cases ru
 exact aa2 I (.inl ha) fun t s' I'=>⟨.int kvs.length,H,I',⟨t,rfl⟩,q⟩
end
section
variable {κ:Type}[DecidableEq κ]
end
def Gv (env:Env)(names:List (Str×NameKind))(acc:List (Str×Addr)):List (Str×Addr):=
 names.foldl (fun acc y=>if y.2==NameKind.free then(y.1,(env.cells.lookup y.1).getD 0) :: acc else acc) acc
theorem Jo {env:Env}{scope:Scope}(h:∀ y∈scope.names,y.2=NameKind.free->∃ c,env.cells.lookup y.1=some c):closureFor scope env=pure (Gv env scope.names []):=by
 have all:∀(names:List (Str×NameKind)) (acc:List (Str×Addr)),(∀ y∈names,y.2=NameKind.free->∃ c,env.cells.lookup y.1=some c) ->
   (forIn names acc fun(y:Str×NameKind) (cs:List (Str×Addr))=>(match y with
    | (name,kind)=>if(kind==NameKind.free)=true then do let c <- cellOf env name;pure (ForInStep.yield ((name,c) :: cs)) else pure (ForInStep.yield cs):Sem (ForInStep (List (Str×Addr)))))=(pure (Gv env names acc):Sem (List (Str×Addr))):=by
  intro names
  induction names with
  | nil=>intro acc _;rfl
  | cons y r ih=>
    intro acc hy
    obtain⟨n,k⟩:=y
    rw[List.forIn_cons]
    by_cases hk:k=NameKind.free
    . subst hk
      obtain⟨c,hc⟩:=hy (n,.free) List.mem_cons_self rfl
      have e:cellOf env n=pure c:=by unfold cellOf;rw[show env.cells.lookup n=some c from hc]
      have e2:Gv env ((n,NameKind.free) :: r) acc=Gv env r ((n,c) :: acc):=by
       unfold Gv
       rw[List.foldl_cons]
       simp only[beq_self_eq_true,if_true]
       rw[show env.cells.lookup n=some c from hc]
       rfl
      rw[e2,<- ih ((n,c) :: acc) fun z hz=>hy z (List.mem_cons_of_mem _ hz)]
      simp only[beq_self_eq_true,if_true,e]
      rfl
    have hb:(k==NameKind.free)=false:=by simpa using hk
    have e2:Gv env ((n,k) :: r) acc=Gv env r acc:=by
     unfold Gv
     rw[List.foldl_cons]
     simp only[hb,Bool.false_eq_true,if_false]
    rw[e2,<- ih acc fun z hz=>hy z (List.mem_cons_of_mem _ hz)]
    simp only[hb,Bool.false_eq_true,if_false]
    rfl
 have q:=all scope.names [] h
 unfold closureFor
 first
  | exact q
  | (simp only[bind_pure];exact q)
  | (refine Eq.trans ?_ q;rfl)
theorem Pc {env:Env}{x:Str}{c:Addr}:∀ {names:List (Str×NameKind)} {acc:List (Str×Addr)},(∀ y∈names,y.2=NameKind.free->∃ c,env.cells.lookup y.1=some c)->(acc.lookup x=some c->env.cells.lookup x=some c) ->
  (Gv env names acc).lookup x=some c->env.cells.lookup x=some c
 | [],acc,_,ha,h=>ha h
 | (n,k) :: r,acc,hn,ha,h=>by
   have e:Gv env ((n,k) :: r) acc=Gv env r (if k==NameKind.free then(n,(env.cells.lookup n).getD 0) :: acc else acc):=rfl
   rw[e] at h
   refine Pc (fun y hy=>hn y (List.mem_cons_of_mem _ hy)) (fun q=>?_) h
   by_cases hk:k=NameKind.free
   . subst hk
     simp only[beq_self_eq_true,if_true,List.lookup_cons] at q
     obtain⟨d,hd⟩:=hn (n,.free) List.mem_cons_self rfl
     have hd':env.cells.lookup n=some d:=hd
     split at q
     . rename_i hx
       have hx':x=n:=beq_iff_eq.mp hx
       rw[hd'] at q
       rw[hx',hd']
       exact q
     exact ha q
   have hb:(k==NameKind.free)=false:=by simpa using hk
   simp only[hb,Bool.false_eq_true,if_false] at q
   exact ha q
theorem Kj {env:Env}{x:Str}:∀ {names:List (Str×NameKind)} {acc:List (Str×Addr)},((∃ c,acc.lookup x=some c)\/(x,NameKind.free)∈names)->∃ c,(Gv env names acc).lookup x=some c
 | [],acc,h=>by
   rcases h with h | h
   . exact h
   cases h
 | (n,k) :: r,acc,h=>by
   have e:Gv env ((n,k) :: r) acc=Gv env r (if k==NameKind.free then(n,(env.cells.lookup n).getD 0) :: acc else acc):=rfl
   rw[e]
   refine Kj ?_
   by_cases hk:k=NameKind.free
   . subst hk
     simp only[beq_self_eq_true,if_true,List.lookup_cons]
     by_cases hx:x=n
     . left
       have hb:(x==n)=true:=beq_iff_eq.mpr hx
       rw[hb]
       exact⟨_,rfl⟩
     have hb:(x==n)=false:=beq_eq_false_iff_ne.mpr hx
     rw[hb]
     rcases h with h | h
     . exact .inl h
     rcases List.mem_cons.mp h with q | q
     . cases q;exact absurd rfl hx
     exact .inr q
   have hb:(k==NameKind.free)=false:=by simpa using hk
   simp only[hb,Bool.false_eq_true,if_false]
   rcases h with h | h
   . exact .inl h
   rcases List.mem_cons.mp h with q | q
   . cases q;exact absurd rfl hk
   exact .inr q
theorem C7:∀(names:List (Str×NameKind)) (n:Nat) (acc:List (Str×Addr)),cellsFrom n names acc=cellsFrom n names []++acc
 | [],_,_=>rfl
 | (x,k) :: r,n,acc=>by
   unfold cellsFrom
   split
   . rw[C7 r (n+1) ((x,n) :: acc),C7 r (n+1) [(x,n)],List.append_assoc]
     rfl
   exact C7 r n acc
theorem Gb {x:Str}{c:Addr}:∀ {names:List (Str×NameKind)} {n:Nat},(x,c)∈cellsFrom n names []->(x,NameKind.cell)∈names
 | [],_,h=>by cases h
 | (y,k) :: r,n,h=>by
   unfold cellsFrom at h
   split at h
   . rename_i hk
     rw[C7] at h
     rcases List.mem_append.mp h with h | h
     . exact List.mem_cons_of_mem _ (Gb h)
     have e:=List.mem_singleton.mp h
     cases e
     rw[beq_iff_eq.mp hk]
     exact List.mem_cons_self
   exact List.mem_cons_of_mem _ (Gb h)
theorem J1 {α:Type}{x:Str}{c:α}:∀ {l:List (Str×α)},(x,c)∈l->∃ d,l.lookup x=some d
 | [],h=>by cases h
 | (y, d) :: r,h=>by
   rw[List.lookup_cons]
   cases e:x==y with
   | true=>exact⟨d,rfl⟩
   | false=>
     rcases List.mem_cons.mp h with q | q
     . cases q
       simp at e
     exact J1 q
theorem Fp {x:Str}:∀ {names:List (Str×NameKind)} {n:Nat},(x,NameKind.cell)∈names->∃ c,(x,c)∈cellsFrom n names []
 | [],_,h=>by cases h
 | (y,k) :: r,n,h=>by
   unfold cellsFrom
   split
   . rw[C7]
     rcases List.mem_cons.mp h with q | q
     . cases q
       exact⟨n,List.mem_append_right _ (by simp)⟩
     obtain⟨c,hc⟩:=Fp (n:=n+1) q
     exact⟨c,List.mem_append_left _ hc⟩
   rename_i hk
   rcases List.mem_cons.mp h with q | q
   . cases q
     exact absurd rfl hk
   exact Fp q
def Oa (outer scope:Scope)(xs fr:List Str):Bool:=
 (scope.kind == .function)&&(outer.kind == .function)&&decide (scope.names.map (·.1)).Nodup
 && (scope.names.all fun y=>y.2 != .local||scope.names.lookup y.1==some .local)
 && (scope.names.all fun y=>y.2 != .free||(outer.names.lookup y.1==some .cell||outer.names.lookup y.1==some .free))
 && (scope.names.all fun y=>y.2 != .free||scope.names.lookup y.1==some .free)
 && (xs.all fun x=>scope.names.lookup x==some .local||scope.names.lookup x==some .cell)&&(fr.all fun x=>scope.names.lookup x==some .free)&&decide (xs++fr).Nodup
theorem C5 {α:Type}{x:Str}{v:α}:∀ {l:List (Str×α)},l.lookup x=some v->(x,v)∈l
 | [],h=>by cases h
 | (n,k) :: r,h=>by
   rw[List.lookup_cons] at h
   split at h
   . rename_i hx
     have hx':x=n:=beq_iff_eq.mp hx
     cases h
     rw[hx']
     exact List.mem_cons_self
   exact List.mem_cons_of_mem _ (C5 h)
theorem Ff {scope:Scope}{env:Env}{x:Str}{k:NameKind}(hk:env.scope.kind = .function):∀ {names:List (Str×NameKind)},names.lookup x=some k ->
  (names.map fun(n,k)=>if(k==NameKind.free&&env.scope.kind == .function&&env.kindOf n==some .cell) then(n,NameKind.cell) else(n,k)).lookup x=some (if(k==NameKind.free&&env.kindOf x==some .cell) then .cell else k)
 | [],h=>by cases h
 | (n,j) :: r,h=>by
   have ih:=@Ff scope env x k hk r
   rw[List.map_cons]
   rw[List.lookup_cons] at h
   dsimp only
   split at h
   . rename_i hx
     have hx':x=n:=beq_iff_eq.mp hx
     cases h
     subst hx'
     by_cases hc:(k==NameKind.free&&env.scope.kind == .function&&env.kindOf x==some .cell)=true
     . have hc2:(k==NameKind.free&&env.kindOf x==some .cell)=true:=by
        rw[Bool.and_eq_true,Bool.and_eq_true] at hc
        rw[Bool.and_eq_true]
        exact⟨hc.1.1,hc.2⟩
       rw[if_pos hc,if_pos hc2,List.lookup_cons,beq_self_eq_true]
     have hc2:¬ (k==NameKind.free&&env.kindOf x==some .cell)=true:=fun q=>hc (by
      rw[Bool.and_eq_true] at q
      rw[Bool.and_eq_true,Bool.and_eq_true,hk]
      exact⟨⟨q.1,rfl⟩,q.2⟩)
     rw[if_neg hc,if_neg hc2,List.lookup_cons,beq_self_eq_true]
   rename_i hx
   have hx':(x==n)=false:=by simpa using hx
   by_cases hc:(j==NameKind.free&&env.scope.kind == .function&&env.kindOf n==some .cell)=true
   . rw[if_pos hc,List.lookup_cons,hx']
     exact ih h
   rw[if_neg hc,List.lookup_cons,hx']
   exact ih h
theorem Du {env:Env} {x:Str} {k:NameKind}:∀ {names:List (Str×NameKind)},
  (names.map fun(n,k)=>if(k==NameKind.free&&env.scope.kind == .function&&env.kindOf n==some .cell) then(n,NameKind.cell) else(n,k)).lookup x=some k ->
  ∃ j,names.lookup x=some j/\(k=j\/(j = .free/\k = .cell))
 | [],h=>by cases h
 | (n,j) :: r,h=>by
   have ih:=@Du env x k r
   rw[List.map_cons] at h
   dsimp only at h
   by_cases hc:(j==NameKind.free&&env.scope.kind == .function&&env.kindOf n==some .cell)=true
   . rw[if_pos hc,List.lookup_cons] at h
     have hj:j = .free:=by
      rw[Bool.and_eq_true,Bool.and_eq_true] at hc
      exact beq_iff_eq.mp hc.1.1
     rw[List.lookup_cons]
     split at h
     . rename_i hx
       cases h
       exact⟨j,rfl,.inr ⟨hj,rfl⟩⟩
     rename_i hx
     have hx':(x==n)=false:=by simpa using hx
     exact ih h
   rw[if_neg hc,List.lookup_cons] at h
   rw[List.lookup_cons]
   split at h
   . rename_i hx
     cases h
     exact⟨_,rfl,.inl rfl⟩
   rename_i hx
   have hx':(x==n)=false:=by simpa using hx
   exact ih h
structure CompS (X:Cx)(scope:Scope)(xs fr:List Str):Prop where
 kind:scope.kind = .function
 okind:X.env.scope.kind = .function
 uniq:(scope.names.map (·.1)).Nodup
 names:∀ y∈scope.names,y.2 = .local->scope.names.lookup y.1=some .local
 free:∀ y∈scope.names,y.2 = .free->X.env.kindOf y.1=some .cell\/X.env.kindOf y.1=some .free
 own:∀ x∈xs,scope.names.lookup x=some .local\/scope.names.lookup x=some .cell
 fre:∀ x∈fr,scope.names.lookup x=some .free
 nd:(xs++fr).Nodup
theorem Oh {X:Cx}{scope:Scope}{xs fr:List Str}(h:Oa X.env.scope scope xs fr=true):CompS X scope xs fr:=by
 unfold Oa at h
 simp only[Bool.and_eq_true,List.all_eq_true,bne_iff_ne,Bool.or_eq_true,beq_iff_eq,decide_eq_true_eq] at h
 obtain⟨⟨⟨⟨⟨⟨⟨⟨h1,h2⟩,h3⟩,h4⟩,h5⟩,h6⟩,h7⟩,h8⟩,h9⟩:=h
 exact⟨h1,h2,h3,fun y hy e=>(h4 y hy).resolve_left (fun q=>q e),fun y hy e=>(h5 y hy).resolve_left (fun q=>q e),h7,h8,h9⟩
def Kw (σ:St)(js:List Nat):St:=js.map fun j=>(σ[j]?).getD none
abbrev cxC (X:Cx)(scope:Scope)(xs fr:List Str)(C:Addr)(ex:List Addr)(s₀:Shared)(H₀:Hp):Cx:=
 { X with N:=xs++fr,env:=compEnvC scope (cellsFrom (C+1) scope.names (Gv X.env scope.names [])) C X.env,s₀:=s₀,H₀:=H₀,outer:=X.stack,ex:=ex,fn:=fun x=>scope.names.lookup x==some .cell,pn:=[],xe:=fun _ _=>False }
section
variable {X:Cx}{scope:Scope}{xs fr:List Str}{pins:List (Addr×Obj)}{σ:St}{H:Hp}{s:Shared}{js:List Nat}{fp:List Addr}
theorem L8 {α:Type}{x:Str}{v:α}:∀ {l:List (Str×α)},(l.map (·.1)).Nodup->(x,v)∈l->l.lookup x=some v
 | [],_,h=>by cases h
 | (y,d) :: r,hn,h=>by
   obtain⟨h1,h2⟩:=List.nodup_cons.mp hn
   rw[List.lookup_cons]
   rcases List.mem_cons.mp h with q | q
   . cases q
     rw[beq_self_eq_true]
   have hne:(x==y)=false:=beq_eq_false_iff_ne.mpr fun e=>h1 (e ▸ List.mem_map.mpr ⟨(x,v),q,rfl⟩)
   rw[hne]
   exact L8 h2 q
theorem CompS.cells (S:CompS X scope xs fr)(ok:X.Ok):∀ y∈scope.names,y.2=NameKind.free->∃ c,X.env.cells.lookup y.1=some c:=fun y hy e=>ok.has _ (S.free y hy e)
theorem To (S:CompS X scope xs fr)(hjs:js.map (fun j=>X.N[j]?)=fr.map some)(I:Inv X pins σ H s)(hfp:∀ b∈fp,O9 X pins H b)(hob:∀ b∈fp,∃ o,s.heap.get? b=some o){h':Heap}{t':Nat}
  (hn:h'.Ns s.heap.objs.size fun _=>none) (keep:∀ b o,s.heap.get? b=some o->h'.get? b=some o) (hcs:CellsOk h' (s.heap.objs.size+1) (cellsFrom (s.heap.objs.size+1) scope.names [])) :
  Inv (cxC X scope xs fr s.heap.objs.size fp s H) [] (List.replicate xs.length none++Kw σ js) H { s with heap:=h',toks:=t' }:=by
 have hcl:=S.cells I.ok
 have sub:∀ x c,(Gv X.env scope.names []).lookup x=some c->X.env.cells.lookup x=some c:=fun x c h=>Pc hcl (fun q=>by cases q) h
 have hl:js.length=fr.length:=by have:=congrArg List.length hjs;rwa[List.length_map,List.length_map] at this
 have two:∀ x c,(cellsFrom (s.heap.objs.size+1) scope.names (Gv X.env scope.names [])).lookup x=some c->(x,c)∈cellsFrom (s.heap.objs.size+1) scope.names []\/(Gv X.env scope.names []).lookup x=some c:=fun x c h=>by
  rw[C7,List.lookup_append] at h
  cases e:(cellsFrom (s.heap.objs.size+1) scope.names []).lookup x with
  | some d=>
    rw[e] at h
    cases h
    exact .inl (C5 e)
  | none=>
    rw[e] at h
    exact .inr h
 have oldc:∀ x c,X.env.cells.lookup x=some c->c<s.heap.objs.size:=fun x c h=>let ⟨_,_,ho,_⟩:=I.cell x c h;Heap.lt_size ho
 have newc:∀ x c,(x,c)∈cellsFrom (s.heap.objs.size+1) scope.names []->s.heap.objs.size<c:=fun x c h=>(hcs.empty x c h).2
 refine⟨⟨I.ok.mod,S.kind,I.ok.glob,I.ok.blt,Nat.le_refl _,fun x y c h1 h2=>?_,fun x hx=>?_,fun x c hf h=>?_,I.ok.hd,I.ok.frames,.inl rfl,fun b hb=>?_,fun b o e=>I.bs b o e,Nat.le_trans I.ok.bsz I.sz,fun b o e hb=>?_,fun b hb hb2=>?_,I.stack,I.stkFree⟩,
  rfl,I.bare,Un.kept keep,⟨_,hn,fun i x v e1 e2 e3=>?_⟩,fun x c h=>?_,I.hok.fresh (Nat.le_refl _),fun x c h=>?_,fun p hp=>absurd (show p∈([]:List (Addr×Obj)) from hp) (by simp),I.hok.kept keep,?_⟩
 . rcases two x c h1 with g1 | g1
   . rcases two y c h2 with g2 | g2
     . exact name_of_addr hcs.apart g1 g2
     exact absurd (oldc y c (sub y c g2)) (Nat.not_lt.mpr (Nat.le_of_lt (newc x c g1)))
   rcases two y c h2 with g2 | g2
   . exact absurd (oldc x c (sub x c g1)) (Nat.not_lt.mpr (Nat.le_of_lt (newc y c g2)))
   exact I.ok.inj x y c (sub x c g1) (sub y c g2)
 . -- the names that are cells there have one
   have hx:(relabel scope X.env).names.lookup x=some .cell\/(relabel scope X.env).names.lookup x=some .free:=hx
   have app:∀ c,(Gv X.env scope.names []).lookup x=some c\/(x,c)∈cellsFrom (s.heap.objs.size+1) scope.names []->∃ c,(cellsFrom (s.heap.objs.size+1) scope.names (Gv X.env scope.names [])).lookup x=some c:=fun c h=>by
    rw[C7,List.lookup_append]
    rcases h with h | h
    . cases (cellsFrom (s.heap.objs.size+1) scope.names []).lookup x with
      | some d=>exact⟨d,rfl⟩
      | none=>exact⟨c,h⟩
    obtain⟨d,hd⟩:=J1 h
    rw[hd]
    exact⟨d,rfl⟩
   have go:∀ k,(relabel scope X.env).names.lookup x=some k->(k = .cell\/k = .free)->∃ c,(cellsFrom (s.heap.objs.size+1) scope.names (Gv X.env scope.names [])).lookup x=some c:=fun k e hk=>by
    obtain⟨j,hj,q⟩:=Du (env:=X.env) (names:=scope.names) e
    have hm:=C5 hj
    have hjf:j = .free\/j = .cell:=by
     rcases q with q | q
     . rcases hk with hk | hk
       . exact .inr (q ▸ hk)
       exact .inl (q ▸ hk)
     exact .inl q.1
    rcases hjf with hjf | hjf
    . subst hjf
      obtain⟨c,hc⟩:=Kj (env:=X.env) (x:=x) (names:=scope.names) (acc:=[]) (.inr hm)
      exact app c (.inl hc)
    subst hjf
    obtain⟨c,hc⟩:=Fp (n:=s.heap.objs.size+1) hm
    exact app c (.inr hc)
   rcases hx with hx | hx
   . exact go _ hx (.inl rfl)
   exact go _ hx (.inr rfl)
 . rcases two x c h with g | g
   . exact Nat.le_of_lt (newc x c g)
   have hf':scope.names.lookup x=some .cell:=by simpa using hf
   obtain⟨d,hd⟩:=Fp (n:=s.heap.objs.size+1) (C5 hf')
   have h':=h
   obtain⟨e,he⟩:=J1 hd
   have h':(cellsFrom (s.heap.objs.size+1) scope.names (Gv X.env scope.names [])).lookup x=some c:=h
   rw[C7,List.lookup_append,he] at h'
   cases h'
   exact Nat.le_of_lt (newc x _ (C5 he))
 . obtain⟨f0,f1,f2,f3,f4,f5⟩:=hfp b hb
   obtain⟨o,ho⟩:=hob b hb
   refine⟨Nat.ne_of_lt (Heap.lt_size ho),fun x c h z=>?_⟩
   rcases two x c h with g | g
   . have h1:=newc x c g
     have h2:=Heap.lt_size ho
     rw[<- z] at h2
     exact absurd h1 (Nat.not_lt.mpr (Nat.le_of_lt h2))
   exact f4 x c (sub x c g) z
 . obtain⟨f0,f1,f2,f3,f4,f5⟩:=hfp b hb
   rcases f3 with f3 | f3
   . exact I.ok.noex b o e f3
   exact absurd (Nat.lt_of_lt_of_le (Heap.lt_size (I.ok.bs b o e).1) f3) (Nat.lt_irrefl _)
 . obtain⟨f0,f1,f2,f3,f4,f5⟩:=hfp b hb
   rcases List.mem_cons.mp (I.stkSub b hb2) with z | z
   . exact f1 z
   exact f2 z
 . have e1:(xs++fr)[i]? = some x:=e1
   by_cases hi:i<xs.length
   . rw[List.getElem?_append_left (by rw[List.length_replicate];exact hi),List.getElem?_replicate,if_pos hi] at e2
     cases e2
   have hi':xs.length<=i:=Nat.le_of_not_lt hi
   rw[List.getElem?_append_right hi'] at e1
   rw[List.getElem?_append_right (by rw[List.length_replicate];exact hi'),List.length_replicate] at e2
   unfold Kw at e2
   rw[List.getElem?_map] at e2
   cases ej:js[i-xs.length]? with
   | none=>rw[ej] at e2;cases e2
   | some j=>
     rw[ej] at e2
     have e2':(σ[j]?).getD none=some v:=Option.some.inj e2
     have e4:σ[j]? = some (some v):=by
      cases q:σ[j]? with
      | none=>rw[q] at e2';cases e2'
      | some o=>rw[q] at e2';rw[show o=some v from e2']
     have e5:X.N[j]? = some x:=by
      have:=congrArg (fun l=>l[i-xs.length]?) hjs
      rw[List.getElem?_map,List.getElem?_map,ej,e1] at this
      exact Option.some.inj this
     have hf:=S.fre x (List.mem_of_getElem? e1)
     have hk:=S.free _ (C5 hf) rfl
     obtain⟨m,hm,hl'⟩:=I.loc
     obtain⟨u,r,lk⟩:=hl' j x v e5 e4 (.inr hk)
     refine⟨u,r,.inr ⟨?_,?_⟩⟩
     . have q:=Ff (scope:=scope) (env:=X.env) S.okind hf
       show(relabel scope X.env).names.lookup x=some .cell\/(relabel scope X.env).names.lookup x=some .free
       have q':(relabel scope X.env).names.lookup x=some (if(NameKind.free==NameKind.free&&X.env.kindOf x==some .cell) then .cell else .free):=q
       by_cases hc:(NameKind.free==NameKind.free&&X.env.kindOf x==some .cell)=true
       . rw[if_pos hc] at q';exact .inl q'
       rw[if_neg hc] at q';exact .inr q'
     obtain⟨c',hc'⟩:=Kj (env:=X.env) (x:=x) (names:=scope.names) (acc:=[]) (.inr (C5 hf))
     rcases lk with ⟨z,_⟩ | ⟨_,c,hc,ob,ho,hd⟩
     . rcases hk with hk | hk
       . rw[z] at hk;cases hk
       rw[z] at hk;cases hk
     have e6:c=c':=by
      have:=sub x c' hc'
      rw[hc] at this
      exact Option.some.inj this
     subst e6
     refine⟨_,?_,ob,keep _ _ ho,hd⟩
     show(cellsFrom (s.heap.objs.size+1) scope.names (Gv X.env scope.names [])).lookup x=some c
     rw [C7,List.lookup_append]
     have none':(cellsFrom (s.heap.objs.size+1) scope.names []).lookup x=none:=by
      cases e:(cellsFrom (s.heap.objs.size+1) scope.names []).lookup x with
      | none=>rfl
      | some d=>
        have:=L8 S.uniq (Gb (C5 e))
        rw[hf] at this
        cases this
     rw[none']
     exact hc'
 . rcases two x c h with g | g
   . exact⟨_,(hcs.empty x c g).1⟩
   obtain⟨v,ob,ho,hd⟩:=I.cell x c (sub x c g)
   exact⟨v,ob,keep _ _ ho,hd⟩
 . rcases two x c h with g | g
   . exact I.hok.fresh (Nat.le_of_lt (newc x c g))
   exact I.freeC x c (sub x c g)
 show _=(xs++fr).length
 unfold Kw
 rw[List.length_append,List.length_append,List.length_replicate,List.length_map,hl]
theorem T3 {M:Model}{A:Around}{E:Value->Shared->Prop}{s:Shared}{scope:Scope}{globals:Addr}{cl:List (Str×Addr)}{qual:Str}{env:Env}{Q:Env->Shared->Prop}
  (hQ:∀ h',h'.Ns s.heap.objs.size (fun _=>none)->(∀ b o,s.heap.get? b=some o->h'.get? b=some o)->CellsOk h' (s.heap.objs.size+1) (cellsFrom (s.heap.objs.size+1) scope.names []) ->
   Q (newEnv scope s.heap.objs.size globals (cellsFrom (s.heap.objs.size+1) scope.names cl) qual none .none (some env) builtinsNs) { s with heap:=h' }) :
  wpAny M A (newFunctionEnv scope globals cl [] qual none .none (some env)) Q E s:=by
 simp only[newFunctionEnv,Option.isSome_some,if_true]
 refine wpAny_bind (wpAny_alloc ?_)
 refine wpAny_bind (wpAny_layCells _ (fun name kind cells=>by cases hkc:kind==NameKind.cell<;>simp[hkc]) _ _ _ _ ?_)
 have okc:=cellsFrom_ok scope.names (s.heap.push { cls:=.type "dict",data:=.dict #[] }) (s.heap.objs.size+1) [] ⟨fun _ _ hm=>(nomatch hm),List.Pairwise.nil⟩ (by rw[Heap.size_push];exact Nat.le_refl _)
 rw[Heap.size_push] at okc
 rw[show({ s with heap:=s.heap.push { cls:=.type "dict",data:=.dict #[] } }:Shared).heap.objs.size=s.heap.objs.size+1 from Heap.size_push ..]
 rw[List.forIn_nil]
 exact wpAny_bind (wpAny_pure (wpAny_pure (hQ _ ((Heap.Ns.new s.heap (.type "dict")).keeps (pushCells_keeps _ _)) (fun b o e=>pushCells_keeps _ _ b o (Heap.get?_push_of_some _ e)) okc)))
theorem Sj {σ':St}{H':Hp}{s':Shared}{h'':Heap}(I:Inv X pins σ H s)(hfp:∀ b∈fp,O9 X pins H b)(J:Inv (cxC X scope xs fr s.heap.objs.size fp s H) [] σ' H' s')(hs:Heap.SameBut s.heap.objs.size s'.heap h'') :
  Inv X pins σ H' { s' with heap:=h'' }:=by
 have old:∀ b o,s.heap.get? b=some o->b≠s.heap.objs.size:=fun b o e=>Nat.ne_of_lt (Heap.lt_size e)
 have ub:Un (frs X.stack) fp H H' s.heap s'.heap:=J.base
 refine I.call' (s':={ s' with heap:=h'' }) (ch:=fp) J.os ⟨fun b o e n hb hx=>(hs.2 b (old b o e)).trans (ub.keep b o e n hb hx),fun b o e n hb hx=>?_,ub.free,fun b o e hx=>?_,ub.tups,ub.frzs,ub.tbls⟩ (fun b o e=>?_) J.bare fun b hb=>?_
 . obtain⟨sl,e1⟩:=ub.slot b o e n hb hx
   exact⟨sl,(hs.2 b (old b o e)).trans e1⟩
 . obtain⟨o',e1⟩:=ub.there b o e hx
   exact⟨o',(hs.2 b (old b o e)).trans e1⟩
 . have hf:H' s.heap.objs.size=none:=J.free
   refine(J.hok b o e).stay (fun c v hc q=>(hs.2 c ?_).trans q) (fun _ q=>q) fun _ _ q=>q
   intro z
   rcases hc with hc | hc
   . rw[<- hc,z,hf] at e;cases e
   rw[z,hf] at hc;cases hc
 obtain⟨f0,f1,f2,f3,f4,f5⟩:=hfp b hb
 exact⟨f3,f1,f4,f5⟩
def PIf (X:Cx)(ifs:List Expr)(t:TT):Prop:=
 ∀(pins:List (Addr×Obj)) (s:Shared) (σ:St) (H:Hp) (Q:Bool->Hp->Prop) (E:Value->Shared->Prop),(∀ e s',X.xe e s'->E e s')->Inv X pins σ H s->t σ H Q ->
  wpAny (model X.prog X.w) X.A (forIn ifs true fun c r=>if r=true then do let ok <- isTrue c X.env (eval c X.env);pure (ForInStep.yield ok) else pure (ForInStep.yield r)) (TP X pins σ Q) E s
def Sg:TT:=fun _ H Q=>Q true H
theorem Br:PIf X [] Sg:=fun _ _ _ H _ _ _ I h=>wpAny_tests_nil ⟨H,I,h⟩
theorem E1 {c:Expr}{t:TT}(hc:PT X c t):PIf X [c] t:=fun pins s σ H Q _ hE I h=>wpAny_tests_one (wpAny_mono (hc pins s σ H Q I h) (fun _ _ z=>z) hE)
def Wm (k:Nat)(js:List Nat)(wi:TI)(g:TG)(tt:TT)(te:TE):TE:=fun σ H Q=>wi σ H fun J H1=>∀ p,H1 p=none ->
 ∃ W:Nat->Nat->Hp->Prop,(∃ m,W 0 m (upd H1 p (.lst [])))/\∀ i m H,W i m H ->
  (J.stop i H/\Q (.ref p) H)\/(J.go i H/\∃ N:Hp->Prop,(∀ H',N H'->∃ m',m'<m/\W (i+1) m' H') /\
   ∀ x H',J.yld i H x H'->g x (List.replicate k none++Kw σ js) H' fun σ2 H2=>tt σ2 H2 fun b H3=>
    if b=true then te σ2 H3 fun y H4=>∃ acc,H4 p=some (.lst acc)/\acc.length<sizeLine/\N (upd H4 p (.lst (acc++[y]))) else N H3)
theorem T5 {tg elt iter:Expr}{ifs:List Expr}{pos:Pos}{it acc:Value}{env:Env}{A:Around}{R:Result->Shared->Prop}{s:Shared}{P:Program}{w:World}(I:Nat->Shared->Prop)
  (turn:∀ n s,I n s->wpAny (model P w) A (pyNext it) (fun r s₁=>match r with
   | none=>R (.ok .next) s₁
   | some v=>wpAny (model P w) A (letOwnedTupleGo tg it v) (fun _ s₁'=>wpAny (model P w) A (assign tg env v) (fun _ s₂=>
     wpAny (model P w) A (forIn ifs true fun c r=>if r=true then do let ok <- isTrue c env (eval c env);pure (ForInStep.yield ok) else pure (ForInStep.yield r)) (fun ok s₃=>
      if ok=true then wpAny (model P w) A (eval elt env) (fun x s₄=>
       wpAny (model P w) A (call (.builtin "list.append") [acc,x]) (fun _ s₅=>∃ m,m<n/\I m s₅) (fun _ _=>False) s₄) (fun _ _=>False) s₃
      else ∃ m,m<n/\I m s₃) (fun _ _=>False) s₂) (fun _ _=>False) s₁') (fun _ _=>False) s₁) (fun _ _=>False) s)
  (n:Nat) (h:I n s):codeAny (model P w) A (.compLoop (.ListComp elt [⟨tg,iter,ifs,0⟩] scope pos) 0 it acc env) R s:=by
 refine codeAny_loop rfl I (fun n s hI=>?_) n h
 show wpAny _ A ((compTurn (.ListComp elt [⟨tg,iter,ifs,0⟩] scope pos) 0 it acc env).onRaise (fun x=>do noteFrame x env;theTreesLotGoes x)) _ _ s
 refine wpAny_noted ?_
 rw [compTurn_list]
 refine wpAny_bind (wpAny_standAt (wpAny_bind (wpAny_mono (turn n s hI) (fun r s₁ h₁=>?_) fun _ _ h'=>h'.elim)))
 cases r with
 | none=>exact wpAny_pure h₁
 | some v=>
   refine wpAny_bind (wpAny_mono h₁ (fun _ s₁' h₁'=>?_) fun _ _ h'=>h'.elim)
   refine wpAny_bind (wpAny_mono h₁' (fun _ s₂ h₂=>wpAny_bind (wpAny_mono h₂ (fun ok s₃ h₃=>?_) fun _ _ h'=>h'.elim)) fun _ _ h'=>h'.elim)
   cases ok with
   | false=>exact wpAny_pure ⟨rfl,h₃⟩
   | true=>
     exact wpAny_bind (wpAny_bind (wpAny_mono h₃ (fun x s₄ h₄=>wpAny_bind (wpAny_mono h₄ (fun _ s₅ h₅=>wpAny_pure (wpAny_pure ⟨rfl,h₅⟩)) fun _ _ h'=>h'.elim)) fun _ _ h'=>h'.elim))
def Rz (n:Nat)(g:TG):Prop:=∀ x σ H Q,g x σ H Q->g x σ H fun σ' H'=>(∀ k,n<=k->σ'[k]? = σ[k]?)/\Q σ' H'
def Of (n:Nat)(g:TGs):Prop:=∀ vs σ H Q,g vs σ H Q->g vs σ H fun σ' H'=>(∀ k,n<=k->σ'[k]? = σ[k]?)/\Q σ' H'
theorem Av {n i:Nat}(h:i<n):Rz n (Hk i):=fun x σ H Q q=>⟨fun k hk=>List.getElem?_set_ne (by omega),q⟩
theorem Z9 {n:Nat}:Of n a84:=fun vs σ H Q ⟨e,q⟩=>⟨e,fun _ _=>rfl,q⟩
theorem R1 {n i:Nat}{u:TGs}(h:i<n)(hu:Of n u):Of n (Py (Hk i) u):=fun vs σ H Q ⟨v,r,e,q⟩=>by
 refine⟨v,r,e,?_⟩
 have q':u r (σ.set i (some v)) H Q:=q
 show u r (σ.set i (some v)) H _
 have z:=hu _ _ _ _ q'
 have e2:(fun(σ':St) (H':Hp)=>(∀ k,n<=k->σ'[k]? = (σ.set i (some v))[k]?)/\Q σ' H')=fun σ' H'=>(∀ k,n<=k->σ'[k]? = σ[k]?)/\Q σ' H':=by
  funext σ' H'
  have e3:(∀ k,n<=k->σ'[k]? = (σ.set i (some v))[k]?) = ∀ k,n<=k->σ'[k]? = σ[k]?:=by
   refine propext ⟨fun f k hk=>?_,fun f k hk=>?_⟩
   . rw[f k hk,List.getElem?_set_ne (by omega)]
   rw[f k hk,List.getElem?_set_ne (by omega)]
  rw[e3]
 rw[e2] at z
 exact z
theorem Yh {K:PySem.W.Frag}{n m:Nat}{u:TGs}(hu:Of n u):Rz n (Zc K m u):=fun x σ H Q ⟨a,xs,e,hq,hl,q⟩=>⟨a,xs,e,hq,hl,hu _ _ _ _ q⟩
theorem Oq {tg elt iter:Expr}{ifs:List Expr}{pos:Pos}{g:TG}{tt:TT}{te:TE}(hc:X.calm=true)(S:CompS X scope xs fr)(hjs:js.map (fun j=>X.N[j]?)=fr.map some)
  (hg:∀ C ex s₀ H₀,PG (cxC X scope xs fr C ex s₀ H₀) tg g) (hk:Rz xs.length g) (hi:∀ C ex s₀ H₀,PIf (cxC X scope xs fr C ex s₀ H₀) ifs tt) (he:∀ C ex s₀ H₀,PE (cxC X scope xs fr C ex s₀ H₀) elt te)
  {s2:Shared} {H1:Hp} {R:Value->Addr->Result->Shared->Prop} {Q:VK} {it:Addr} {tn:Nat->Heap->Prop} {J:It} (I:Inv X pins σ H1 s2) (T:V6 X.prog X.w X.K tg J fp it tn) (st:tn 0 s2.heap) (hfp:∀ b∈fp,O9 X pins H1 b)
  (hq:∀ p,H1 p=none->∃ W:Nat->Nat->Hp->Prop,(∃ m,W 0 m (upd H1 p (.lst [])))/\∀ i m H,W i m H ->
   (J.stop i H/\Q (.ref p) H)\/(J.go i H/\∃ N:Hp->Prop,(∀ H',N H'->∃ m',m'<m/\W (i+1) m' H') /\
    ∀ x H',J.yld i H x H'->g x (List.replicate xs.length none++Kw σ js) H' fun σ2 H2=>tt σ2 H2 fun b H3=>
     if b=true then te σ2 H3 fun y H4=>∃ acc,H4 p=some (.lst acc)/\acc.length<sizeLine/\N (upd H4 p (.lst (acc++[y]))) else N H3))
  (hR:∀(p C:Addr) (s':Shared) (H':Hp),(∃ m,s'.heap.Ns C m)->O9 X pins H' C->Inv X pins σ H' s'->Q (.ref p) H'->R (.ref p) C (.ok .next) s') :
  wpAny (model X.prog X.w) X.A (newList []) (fun acc s₃=>wpAny (model X.prog X.w) X.A (newFunctionEnv scope X.env.globals (Gv X.env scope.names []) [] X.env.qual none .none (some X.env)) (fun cenv s₄=>
   codeAny (model X.prog X.w) X.A (.compStart (.ListComp elt [⟨tg,iter,ifs,0⟩] scope pos) 0 (.ref it) acc { cenv with scope:=relabel scope X.env }) (R acc cenv.locals) s₄) X.xe s₃) X.xe s2:=by
 refine wpAny_newObj_type ?_ (by show 0<=sizeLine;exact Nat.zero_le _)
 have hn0:H1 s2.heap.objs.size=none:=I.hok.fresh (Nat.le_refl _)
 have I3:Inv X pins σ (upd H1 s2.heap.objs.size (.lst [])) { s2 with heap:=s2.heap.push { cls:=.type "list",data:=.seq ([]:List Value).toArray } }:=I.laid (t':=s2.toks) (fun b u e=>Heap.get?_push_of_some _ e) (Nat.le_refl _) ⟨Nat.zero_le _,[],0,.nil,Heap.get?_push_size _ rfl⟩
 obtain⟨W,⟨m0,w0⟩,turn⟩:=hq _ hn0
 have hob:∀ b∈fp,∃ o,s2.heap.get? b=some o:=fun b hb=>let ⟨o,e,_⟩:=T.obj _ _ st b hb;⟨o,e⟩
 have hfp3:∀ b∈fp,O9 X pins (upd H1 s2.heap.objs.size (.lst [])) b:=fun b hb=>by
  obtain⟨f0,f⟩:=hfp b hb
  obtain⟨o,e⟩:=hob b hb
  exact⟨by rw[As (Nat.ne_of_lt (Heap.lt_size e))];exact f0,f⟩
 have hob3:∀ b∈fp,∃ o,(s2.heap.push { cls:=.type "list",data:=.seq ([]:List Value).toArray }).get? b=some o:=fun b hb=>let ⟨o,e⟩:=hob b hb;⟨o,Heap.get?_push_of_some _ e⟩
 have st3:tn 0 (s2.heap.push { cls:=.type "list",data:=.seq ([]:List Value).toArray }):=T.keep _ _ _ st fun b _ o e=>Heap.get?_push_of_some _ e
 generalize hs3:({ s2 with heap:=s2.heap.push { cls:=.type "list",data:=.seq ([]:List Value).toArray } }:Shared)=s3 at I3 ⊢
 have st3':tn 0 s3.heap:=by rw[<- hs3];exact st3
 have hob3':∀ b∈fp,∃ o,s3.heap.get? b=some o:=by rw[<- hs3];exact hob3
 generalize hH3:upd H1 s2.heap.objs.size (.lst [])=H3 at I3 hfp3 w0
 generalize hp0:s2.heap.objs.size=p0 at turn ⊢
 refine T3 fun h₁ hns₁ hkp₁ hco₁=>?_
 have I4:=To (t':=s3.toks) S hjs I3 hfp3 hob3' hns₁ hkp₁ hco₁
 have st4:tn 0 h₁:=T.keep _ _ _ st3' fun b hb o e=>hkp₁ b o e
 have loop:∀ s₄:Shared,Inv (cxC X scope xs fr s3.heap.objs.size fp s3 H3) [] (List.replicate xs.length none++Kw σ js) H3 s₄->tn 0 s₄.heap ->
   codeAny (model X.prog X.w) X.A (.compLoop (.ListComp elt [⟨tg,iter,ifs,0⟩] scope pos) 0 (.ref it) (.ref p0) (compEnvC scope (cellsFrom (s3.heap.objs.size+1) scope.names (Gv X.env scope.names [])) s3.heap.objs.size X.env)) (R (.ref p0) s3.heap.objs.size) s₄:=by
  intro s₄ I4 st4
  have stat:∀ {H':Hp},(∀ b∈fp,H' b=none)->∀ b∈fp,O9 (cxC X scope xs fr s3.heap.objs.size fp s3 H3) [] H' b:=fun {H'} hn b hb=>by
   obtain⟨f0,f1,f2,f3,f4,f5⟩:=hfp3 b hb
   obtain⟨o,e⟩:=hob3' b hb
   refine⟨hn b hb,Nat.ne_of_lt (Heap.lt_size e),I4.ok.exfs b hb,.inl hb,fun x c h=>(I4.ok.exf b hb).2 x c h,fun p hp=>absurd (show p∈([]:List (Addr×Obj)) from hp) (by simp)⟩
  refine T5 (fun n s'=>∃ i H',Inv (cxC X scope xs fr s3.heap.objs.size fp s3 H3) [] (List.replicate xs.length none++Kw σ js) H' s'/\tn i s'.heap/\(∀ b∈fp,H' b=none)/\W i n H') ?_ m0 ⟨0,H3,I4,st4,fun b hb=>(hfp3 b hb).1,w0⟩
  rintro n s5 ⟨i,H5,I5,st5,fr5,w5⟩
  rcases turn i n H5 w5 with ⟨stop,qn⟩ | ⟨go,N,hN,step⟩
  . refine thn (T.done (cxC X scope xs fr s3.heap.objs.size fp s3 H3) rfl rfl rfl hc i [] s5 _ H5 (fun _ _=>False) I5 (stat fr5) st5 stop) fun r s6 ⟨hr,I6⟩=>?_
    subst hr
    obtain⟨m6,n6,_⟩:=id I6.loc
    exact hR p0 s3.heap.objs.size s6 H5 ⟨m6,n6⟩ (I3.fpOk (Nat.le_refl _) I6.free) (Sj I3 hfp3 I6 (Heap.SameBut.refl ..)) qn
  refine thn (T.item (cxC X scope xs fr s3.heap.objs.size fp s3 H3) rfl rfl rfl hc i [] s5 _ H5 (fun _ _=>False) I5 (stat fr5) st5 go) fun r s6 ⟨u,hr,h6⟩=>?_
  subst hr
  refine thn h6 fun _ s7 ⟨x,H7,I7,r7,y7,st7,fr7⟩=>?_
  have I7':=I7.pinned (stat fr7) (T.obj _ _ st7)
  refine thn (hg _ _ _ _ _ s7 _ H7 x u _ I7' r7 (hk _ _ _ _ (step x H7 y7))) fun _ s8 ⟨σ8,H8,I8,kp8,q8⟩=>?_
  have again:∀ {s9:Shared} {H9:Hp},Inv (cxC X scope xs fr s3.heap.objs.size fp s3 H3) ([]++Lc fp s7.heap) σ8 H9 s9->N H9 ->
    ∃ m,m<n/\∃ i H',Inv (cxC X scope xs fr s3.heap.objs.size fp s3 H3) [] (List.replicate xs.length none++Kw σ js) H' s9/\tn i s9.heap/\(∀ b∈fp,H' b=none)/\W i m H':=fun {s9 H9} I9 n9=>by
   obtain⟨m',hm,w9⟩:=hN H9 n9
   refine⟨m',hm,i+1,H9,I9.unpinned.weak ?_ ?_,T.keep _ _ _ st7 fun b hb o e=>(I9.pin (b,o) (List.mem_append_right _ (List.mem_append_right _ (Eu hb e)))).1,fun b hb=>?_,w9⟩
   . rw[I9.len,I5.len]
   . intro k v hkv
     by_cases hx:k<xs.length
     . rw[List.getElem?_append_left (by rw[List.length_replicate];exact hx),List.getElem?_replicate,if_pos hx] at hkv
       cases hkv
     rw[kp8 k (Nat.le_of_not_lt hx)]
     exact hkv
   obtain ⟨o,e,d⟩:=T.obj _ _ st7 b hb
   exact(I9.pin (b,o) (List.mem_append_right _ (List.mem_append_right _ (Eu hb e)))).2.1
  refine wpAny_mono (hi _ _ _ _ _ s8 σ8 H8 _ (fun _ _=>False) (fun _ _ z=>z) I8 q8) (fun ok s9 ⟨H9,I9,q9⟩=>?_) fun _ _ z=>z
  cases ok with
  | false=>
    rw[if_neg Bool.false_ne_true]
    rw[if_neg Bool.false_ne_true] at q9
    exact again I9 q9
  | true=>
    rw[if_pos rfl]
    rw[if_pos rfl] at q9
    refine thn (he _ _ _ _ _ s9 σ8 H9 _ I9 q9) fun uy s10 ⟨y,H10,I10,r10,acc,hacc,hz,n10⟩=>?_
    refine thn (Ct _ s10 σ8 H10 (.ref p0) [y] (.ref p0) [uy] (fun _ H11=>N H11) I10 rfl (.cons r10 .nil) ⟨p0,acc,y,rfl,rfl,hacc,hz,n10⟩) fun _ s11 ⟨_,H11,I11,_,n11⟩=>?_
    exact again I11 n11
 exact codeAny_compStart_list (loop _ I4 st4) (T.self _ _ _ _ _ st4 (loop _ I4 st4))
theorem Inv.letgo {C:Addr}{h'':Heap}(I:Inv X pins σ H s)(f:O9 X pins H C)(hs:Heap.SameBut C s.heap h''):Inv X pins σ H { s with heap:=h'' }:=by
 obtain⟨f0,f1,f2,f3,f4,f5⟩:=f
 exact I.turned (t':=s.toks) (fun b o hb e=>(hs.2 b hb).trans e) f0 f1 f3 f4 f5
theorem Bh {tg elt iter:Expr}{ifs:List Expr}{pos:Pos}{wi:TI}{g:TG}{tt:TT}{te:TE}(xs fr:List Str)(js:List Nat)(hc:X.calm=true)(hS:Oa X.env.scope scope xs fr=true)(hjs:js.map (fun j=>X.N[j]?)=fr.map some)(hw:PI X tg iter wi)
  (hg:∀ C ex s₀ H₀,PG (cxC X scope xs fr C ex s₀ H₀) tg g) (hk:Rz xs.length g) (hi:∀ C ex s₀ H₀,PIf (cxC X scope xs fr C ex s₀ H₀) ifs tt) (he:∀ C ex s₀ H₀,PE (cxC X scope xs fr C ex s₀ H₀) elt te)
  (hs:∀ x,foldedSetIterable iter X.env x=pure x:=by intro _;ac_nf) :
  PE X (.ListComp elt [⟨tg,iter,ifs,0⟩] scope pos) (Wm xs.length js wi g tt te):=by
 intro pins s σ H Q I h
 have S:=Oh hS
 rw[eval_ListComp]
 refine wpAny_comprehension_free (use:=none) rfl hs (Jo (S.cells I.ok)) S.kind S.names ?_
 refine thn (hw pins s σ H _ I h) fun v s1 h1=>thn h1 fun itv s2 h2=>?_
 obtain⟨it,fp,tn,J,H2,e,I2,T,st2,f2,q2⟩:=h2
 subst e
 refine Oq (Q:=Q) (R:=fun acc C=>compPost (model X.prog X.w) X.A X.xe none (EP X pins σ Q) acc C) hc S hjs hg hk hi he I2 T st2 f2 q2 ?_
 intro p C s' H' ⟨m,hn⟩ fC hI q
 exact⟨m,hn,fun h'' hs''=>⟨.ref p,H',hI.letgo fC hs'',rfl,q⟩⟩
theorem Cm {tg elt iter:Expr}{ifs:List Expr}{pos spos py:Pos}{wi:TI}{g:TG}{tt:TT}{te:TE}{i:Nat}{y:Str}(xs fr:List Str)(js:List Nat)(hc:X.calm=true)(hS:Oa X.env.scope scope xs fr=true)(hjs:js.map (fun j=>X.N[j]?)=fr.map some)
  (hN:X.N.Nodup) (hi':X.N[i]? = some y) (hy:X.env.scope.names.lookup y=some .local) (hw:PI X tg iter wi)
  (hg:∀ C ex s₀ H₀,PG (cxC X scope xs fr C ex s₀ H₀) tg g) (hk:Rz xs.length g) (hi:∀ C ex s₀ H₀,PIf (cxC X scope xs fr C ex s₀ H₀) ifs tt) (he:∀ C ex s₀ H₀,PE (cxC X scope xs fr C ex s₀ H₀) elt te)
  (hsw:swapsWith (.ListComp elt [⟨tg,iter,ifs,0⟩] scope pos) (some (.Name y py)) spos.line X.env=pure true:=by ac_nf)
  (hs:∀ x,foldedSetIterable iter X.env x=pure x:=by intro _;ac_nf) :
  PS X (.Assign [.Name y py] (.ListComp elt [⟨tg,iter,ifs,0⟩] scope pos) spos) (Ye (Wm xs.length js wi g tt te) (Hk i)):=by
 intro pins s σ H D I h
 have S:=Oh hS
 rw[exec_Assign_Name_used _ _ _ _ hsw]
 refine wpAny_bind (wpAny_standAt (wpAny_bind ?_))
 show wpAny _ X.A (do let _ <- comprehension (.ListComp elt [⟨tg,iter,ifs,0⟩] scope pos) scope X.env _ (newList []) false (eval iter X.env) (some (assign (.Name y py) X.env))) _ _ s
 refine wpAny_bind (wpAny_mono (wpAny_comprehension_free (use:=some (assign (.Name y py) X.env)) (Q:=fun _ s'=>SP X pins D .next s') rfl hs (Jo (S.cells I.ok)) S.kind S.names ?_) (fun _ s' hq=>wpAny_pure (wpAny_pure hq)) fun _ _ e=>e)
 refine thn (hw pins s σ H _ I h) fun v s1 h1=>thn h1 fun itv s2 h2=>?_
 obtain⟨it,fp,tn,J,H2,e,I2,T,st2,f2,q2⟩:=h2
 subst e
 refine Oq (Q:=fun x H1=>Hk i x σ H1 D.nx) (R:=fun acc C=>compPost (model X.prog X.w) X.A X.xe (some (assign (.Name y py) X.env)) (fun _ s'=>SP X pins D .next s') acc C) hc S hjs hg hk hi he I2 T st2 f2 q2 ?_
 intro p C s' H' ⟨m,hn⟩ fC I' q
 show wpAny _ X.A (assign (.Name y py) X.env (.ref p)) _ _ s'
 refine wpAny_assign_Name (Lw I' hN hi' (.inl hy) (show RelV (.ref p) (.ref p) from rfl) (fun s'' I'' ⟨a,hs1,ha⟩=>?_) (.inr hy))
 have hne:C≠a:=by
  rcases ha with ha | ha
  . rw[ha];exact fC.2.1
  exact(fC.2.2.2.2.1 y a ha).symm
 exact⟨m,hn.sameBut hs1 hne,fun h'' hs''=>⟨_,H',I''.letgo fC hs'',q⟩⟩
end
def Its (x:Str):It:=⟨fun i _=>i<x.cps.size,fun i H v H'=>H'=H/\∃ c,x.cps[i]? = some c/\v = .str ⟨#[c]⟩,fun i _=>x.cps.size<=i⟩
section
variable {X:Cx}{tg:Expr}
theorem Qx {P:Program}{w:World}{K:PySem.W.Frag}{tg:Expr}{it:Addr}{n:Nat}{PV:Nat->Value->Prop}{val:Nat->V->Prop}{St:Nat->Heap->Prop}(W:∀ A:Around,A.handled=none->Walks P w A it [it] [it] n PV St)
  (hself:∀(A:Around) (i:Nat) (s:Shared) (Q:Value->Shared->Prop) (E:Value->Shared->Prop),St i s.heap->Q (.ref it) s->wpAny (model P w) A (pyIter (.ref it)) Q E s)
  (hv:∀ i u,PV i u->∃ v,RelV v u/\val i v) (hto:∀ i h,St i h->∃ o T vs,h.get? it=some o/\o.cls = .type T/\o.data = .fields vs/\["enumerate","zip","dict_itemiterator","dict_reverseitemiterator","odict_iterator","itertools.zip_longest","itertools.pairwise"].contains T=false) :
  V6 P w K tg ⟨fun i _=>i<n,fun i H v H'=>H'=H/\val i v,fun i _=>n<=i⟩ [it] it (fun i h=>St i h/\i<=n) where
 mem:=by simp
 obj:=fun i h st b hb=>by
  have e:b=it:=by simpa using hb
  subst e
  obtain⟨o,T,vs,e1,e2,e3,e4⟩:=hto i h st.1
  exact⟨o,e1,fun v z=>by rw[e3] at z;cases z⟩
 keep:=fun i h h' st k=>⟨(W { handled:=none } rfl).frame i h h' st.1 k,st.2⟩
 item:=by
  intro X hP hw hK hc i pins s σ H E I hf st hg
  subst hP hw hK
  obtain⟨f0,f1,f2,f3,f4,f5⟩:=hf it (by simp)
  refine(W X.A (I.ok.hd hc)).item i s _ _ hg st.1 fun u h' tk hp st' kk=>?_
  obtain⟨v,rv,vv⟩:=hv i u hp
  have I1:Inv X pins σ H { s with heap:=h',toks:=tk }:=I.turned (fun b o hb e=>kk b o (by simpa using hb) e) f0 f1 f3 f4 f5
  obtain⟨o,T,vs,e1,e2,e3,e4⟩:=hto _ _ st'
  exact⟨u,rfl,Sb (s:={ s with heap:=h',toks:=tk }) e1 e2 e3 e4 ⟨v,H,I1,rv,⟨rfl,vv⟩,⟨st',hg⟩,fun b hb=>(hf b hb).1⟩⟩
 done:=by
  intro X hP hw hK hc i pins s σ H E I hf st hg
  subst hP hw hK
  obtain⟨f0,f1,f2,f3,f4,f5⟩:=hf it (by simp)
  have e:i=n:=Nat.le_antisymm st.2 hg
  subst e
  exact(W X.A (I.ok.hd hc)).done s _ _ st.1 fun h' tk kk=>⟨rfl,I.turned (fun b o hb e=>kk b o (by simpa using hb) e) f0 f1 f3 f4 f5⟩
 self:=fun A i s Q E st h=>hself A i s Q E st.1 h
theorem a52 {pins:List (Addr×Obj)}{σ:St}{H1:Hp}{s1:Shared}{R:It->Hp->Prop}{E:Value->Shared->Prop}{z:Str}{v:Value}(I1:Inv X pins σ H1 s1)(r1:RelV (.str z) v)(q:R (Its z) H1):wpAny (model X.prog X.w) X.A (pyIter v) (PIE X pins σ tg R) E s1:=by
 obtain⟨t,rfl⟩:=r1
 have sv:∀ i u,SignAt z i u->∃ v,RelV v u/\∃ c,z.cps[i]? = some c/\v = .str ⟨#[c]⟩:=fun i u ⟨c,tu,hc,hu⟩=>⟨.str ⟨#[c]⟩,⟨tu,hu⟩,c,hc,rfl⟩
 have fin:∀(o:Obj) (St:Nat->Heap->Prop) (n:Nat),St 0 (s1.heap.push o)->V6 X.prog X.w X.K tg (Its z) [s1.heap.objs.size] s1.heap.objs.size (fun i h=>St i h/\i<=z.cps.size)->PIE X pins σ tg R (.ref s1.heap.objs.size) { s1 with heap:=s1.heap.push o }:=fun o St n h0 T=>by
  refine⟨s1.heap.objs.size,[s1.heap.objs.size],_,_,H1,rfl,I1.kept (t':=s1.toks) fun b ob e=>Heap.get?_push_of_some _ e,T,⟨h0,Nat.zero_le _⟩,fun b hb=>?_,q⟩
  have e:b=s1.heap.objs.size:=by simpa using hb
  subst e
  exact I1.fpOk (Nat.le_refl _) (I1.hok.fresh (Nat.le_refl _))
 cases ha:z.cps.all (· < 128)
 . exact wpAny_pyIter_wide ha (fin _ _ 0 ⟨_,Heap.get?_push_size _ rfl,rfl,rfl⟩ (Qx (fun A hA=>Walks.strWide hA _ z t) (fun _ _ _ _ _ st hq=>wpAny_pyIter_striter_wide st hq) sv fun i h ⟨o,ho,hc,hd⟩=>⟨o,_,_,ho,hc,hd,by decide⟩))
 exact wpAny_pyIter_ascii ha (fin _ _ 0 ⟨_,Heap.get?_push_size _ rfl,rfl,rfl⟩ (Qx (fun A hA=>Walks.strAscii hA _ z t) (fun _ _ _ _ _ st hq=>wpAny_pyIter_striter_ascii st hq) sv fun i h ⟨o,ho,hc,hd⟩=>⟨o,_,_,ho,hc,hd,by decide⟩))
end
section
variable {X:Cx}
def ae4:V->Option Int->Option Int->Hp->VK->Prop:=fun x lo hi H Q=>∃ z,x = .str z/\z.length<=sizeLine/\Q (.str (Txt.slice z lo hi)) H
theorem sl_str:SlR X ae4:=by
 intro pins s σ H x v vl vu lo hi sl Q I rx hs pl pu h
 obtain⟨z,rfl,hz,q⟩:=h
 obtain⟨t,rfl⟩:=rx
 have fin:∀ t' k,EP X pins σ Q (.str (Txt.slice z lo hi) t') { s with toks:=k }:=fun t' k=>⟨.str _,H,I.tok _,⟨_,rfl⟩,q⟩
 have sz:=Nat.le_trans (Txt.slice_le z lo hi) hz
 refine⟨"str",_,F.slot_str_getitem.lookup,typeIs_str _ _ _,?_⟩
 cases pl with
 | none=>
   cases pu with
   | none=>exact wpAny_getItem_str_slice (l:=none) (u:=none) (st:=none) hs rfl (post_val_or_str ⟨sz,fin⟩)
   | int j uj=>exact wpAny_getItem_str_slice (l:=none) (u:=some (j,uj)) (st:=none) hs rfl (post_val_or_str ⟨sz,fin⟩)
 | int i ui=>
   cases pu with
   | none=>exact wpAny_getItem_str_slice (l:=some (i,ui)) (u:=none) (st:=none) hs rfl (post_val_or_str ⟨sz,fin⟩)
   | int j uj=>exact wpAny_getItem_str_slice (l:=some (i,ui)) (u:=some (j,uj)) (st:=none) hs rfl (post_val_or_str ⟨sz,fin⟩)
theorem Nv:∀ {ys:List Str} {us:List Value},Vals (ys.map V.str) us->StrsAre us ys
 | [],_,.nil=>.nil
 | y :: ys,_,.cons r t=>by
   obtain⟨tk,rfl⟩:=r
   exact .cons y tk (Nv t)
def W7:V->List V->Hp->VK->Prop:=fun x vs H Q=>∃ z,x = .str z/\vs=[]/\(Txt.upper z).length<=16777216/\Q (.str (Txt.upper z)) H
theorem U8:MtR X "str.upper" W7:=by
 intro pins s σ H x vs v us Q I rx rv h
 obtain⟨z,rfl,rfl,hz,q⟩:=h
 obtain⟨t,rfl⟩:=rx
 obtain rfl:=rv.zero
 exact SC.upper (by unfold Builtin.Str.tooLong;exact decide_eq_false (by rw[sizeLine_eq];omega)) ⟨.str _,H,I.tok _,⟨_,rfl⟩,q⟩
theorem Q9:CallR X (.builtin "repr") (fun xs H Q=>(∃ b,xs=[.bl b]/\Q (.str (if b then "True" else "False")) H)\/(xs=[.non]/\Q (.str "None") H)):=by
 intro pins s σ H xs us Q I r h
 rcases h with ⟨b,rfl,q⟩ | ⟨rfl,q⟩
 . obtain⟨u,rfl,ru⟩:=G5 r
   cases ru
   exact PySem.P.repr_of_bool ⟨.str _,H,I.tok _,⟨_,rfl⟩,q⟩
 obtain⟨u,rfl,ru⟩:=G5 r
 cases ru
 exact PySem.P.repr_of_none ⟨.str _,H,I.tok _,⟨_,rfl⟩,q⟩
theorem call_isinst:CallR X (.builtin "isinstance") (fun xs H Q=>∃ x c t b,xs=[x,.ty c]/\TyOf X.K H x t/\PySem.W.kitOne X.K t (.type c)=some b/\Q (.bl b) H):=by
 intro pins s σ H xs us Q I r h
 obtain⟨x,c,t,b,rfl,ty,e,q⟩:=h
 obtain⟨u,w',rfl,r1,r2⟩:=Q5 r
 cases r2
 exact Lh I r1 ty e fun tk=>⟨.bl _,H,I.tok _,rfl,q⟩
theorem call_isinstR:CallR X (.builtin "isinstance") (fun xs H Q=>∃ x c t b,xs=[x,.ref c]/\TyOf X.K H x t/\PySem.W.kitOne X.K t (.ref c)=some b/\Q (.bl b) H):=by
 intro pins s σ H xs us Q I r h
 obtain⟨x,c,t,b,rfl,ty,e,q⟩:=h
 obtain⟨u,w',rfl,r1,r2⟩:=Q5 r
 cases r2
 exact Lh I r1 ty e fun tk=>⟨.bl _,H,I.tok _,rfl,q⟩
theorem Li:CallR X (.builtin "isinstance") (fun xs H Q=>∃ a ys c b,xs=[V.ref a,.ty c]/\((SqT X.K H a ys/\PySem.W.kitOne X.K (.type "tuple") (.type c)=some b)\/(SqL X.K H a ys/\PySem.W.kitOne X.K (.type "list") (.type c)=some b))/\Q (.bl b) H):=by
 intro pins s σ H xs us Q I r h
 obtain⟨a,ys,c,b,rfl,ty,q⟩:=h
 obtain⟨u,w',rfl,r1,r2⟩:=Q5 r
 cases r2
 cases r1
 rcases ty with ⟨ty,e⟩ | ⟨ty,e⟩
 . obtain⟨its,_,p,_⟩:=I.tuple ty
   obtain⟨o,h1,h2,_⟩:=p
   exact PySem.W.kia_one PySem.W.kitx_tuple I.kIn ⟨o,h1,h2⟩ e (fun z=>nomatch z) fun tk=>⟨.bl _,H,I.tok _,rfl,q⟩
 obtain⟨its,_,p,_⟩:=I.list ty
 obtain⟨o,h1,h2,_⟩:=p.isList
 exact PySem.W.kia_one PySem.W.kitx_list I.kIn ⟨o,h1,h2⟩ e (fun z=>nomatch z) fun tk=>⟨.bl _,H,I.tok _,rfl,q⟩
theorem O8 {bs:List Bool}{its:List Value}(r:Vals (bs.map V.bl) its)(i:Nat)(v:Value)(h:its[i]? = some v):∃ b,bs[i]? = some b/\v = .bool b:=by
 have hl:=r.length
 have hi:i<its.length:=(List.getElem?_eq_some_iff.mp h).1
 have hb:i<bs.length:=by rw[List.length_map] at hl;omega
 obtain⟨u,hu,ru⟩:=r.get (i:=i) (x:=.bl bs[i]) (by rw[List.getElem?_map,List.getElem?_eq_getElem hb];rfl)
 rw[h] at hu
 cases hu
 exact⟨bs[i],List.getElem?_eq_getElem hb,ru⟩
theorem Rg (bs:List Bool):(List.range bs.length).all (fun i=>(bs[i]?).getD false)=bs.all id:=by
 rw[Bool.eq_iff_iff,List.all_eq_true,List.all_eq_true]
 constructor
 . intro h b hb
   obtain⟨i,hi,e⟩:=List.mem_iff_getElem.mp hb
   have:=h i (List.mem_range.mpr hi)
   rw[List.getElem?_eq_getElem hi] at this
   rw[<- e]
   exact this
 intro h i hi
 rw[List.getElem?_eq_getElem (List.mem_range.mp hi)]
 exact h _ (List.getElem_mem _)
theorem Ta (bs:List Bool):(List.range bs.length).any (fun i=>(bs[i]?).getD false)=bs.any id:=by
 rw[Bool.eq_iff_iff,List.any_eq_true,List.any_eq_true]
 constructor
 . rintro⟨i,hi,h⟩
   rw[List.getElem?_eq_getElem (List.mem_range.mp hi)] at h
   exact⟨_,List.getElem_mem _,h⟩
 rintro⟨b,hb,h⟩
 obtain⟨i,hi,e⟩:=List.mem_iff_getElem.mp hb
 refine⟨i,List.mem_range.mpr hi,?_⟩
 rw[List.getElem?_eq_getElem hi,e]
 exact h
theorem Tt (hc:X.calm=true):CallR X (.builtin "all") (fun xs H Q=>∃(a:Addr) (bs:List Bool),xs=[.ref a]/\SqL X.K H a (bs.map V.bl)/\Q (.bl (bs.all id)) H):=by
 intro pins s σ H xs us Q I r h
 obtain⟨a,bs,rfl,hl,q⟩:=h
 obtain⟨u,rfl,ru⟩:=G5 r
 cases ru
 obtain⟨its,rv,pl,hz⟩:=I.list hl
 have hlen:=rv.length
 have hne:a≠s.heap.objs.size:=by obtain⟨o,n,ho,_⟩:=pl;exact Nat.ne_of_lt (Heap.lt_size ho)
 refine call_all_walk (wpAny_pyIter_list pl.isList ?_)
 refine⟨_,_,_,_,_,_,fun i=>(bs[i]?).getD false,rfl,Walks.list (A:=X.A.in1) (I.ok.hd hc) _ a hne its.toArray,⟨⟨_,Heap.get?_push_size _ rfl,rfl,rfl⟩,pl.isList.at fun o e=>Heap.get?_push_of_some _ e⟩,fun i v s' Q' E' hp hq=>?_,fun h' tk hk=>?_⟩
 . obtain⟨b,hb,rfl⟩:=O8 rv i v (by simpa using hp)
   dsimp only at hq;rw[hb] at hq
   exact wpAny_truthy_bool hq
 refine⟨.bl _,H,I.kept (t':=tk) fun b ob e=>hk b ob (fun hm=>absurd (Heap.lt_size e) (by rw[show b=s.heap.objs.size by simpa using hm];exact Nat.lt_irrefl _)) (Heap.get?_push_of_some _ e),?_,q⟩
 have e1:its.toArray.size=bs.length:=by rw[List.size_toArray,<- hlen,List.length_map]
 rw[e1,Rg]
 rfl
theorem Ts (hc:X.calm=true):CallR X (.builtin "any") (fun xs H Q=>∃(a:Addr) (bs:List Bool),xs=[.ref a]/\SqL X.K H a (bs.map V.bl)/\Q (.bl (bs.any id)) H):=by
 intro pins s σ H xs us Q I r h
 obtain⟨a,bs,rfl,hl,q⟩:=h
 obtain⟨u,rfl,ru⟩:=G5 r
 cases ru
 obtain⟨its,rv,pl,hz⟩:=I.list hl
 have hlen:=rv.length
 have hne:a≠s.heap.objs.size:=by obtain⟨o,n,ho,_⟩:=pl;exact Nat.ne_of_lt (Heap.lt_size ho)
 refine call_any_walk (wpAny_pyIter_list pl.isList ?_)
 refine⟨_,_,_,_,_,_,fun i=>(bs[i]?).getD false,rfl,Walks.list (A:=X.A.in1) (I.ok.hd hc) _ a hne its.toArray,⟨⟨_,Heap.get?_push_size _ rfl,rfl,rfl⟩,pl.isList.at fun o e=>Heap.get?_push_of_some _ e⟩,fun i v s' Q' E' hp hq=>?_,fun h' tk hk=>?_⟩
 . obtain⟨b,hb,rfl⟩:=O8 rv i v (by simpa using hp)
   dsimp only at hq;rw[hb] at hq
   exact wpAny_truthy_bool hq
 refine⟨.bl _,H,I.kept (t':=tk) fun b ob e=>hk b ob (fun hm=>absurd (Heap.lt_size e) (by rw[show b=s.heap.objs.size by simpa using hm];exact Nat.lt_irrefl _)) (Heap.get?_push_of_some _ e),?_,q⟩
 have e1:its.toArray.size=bs.length:=by rw[List.size_toArray,<- hlen,List.length_map]
 rw[e1,Ta]
 rfl
end
section
variable {X:Cx}{x:Str}{pos:Pos}
theorem Wo {v:V}(hg:Gl X x)(hm:∃ u,X.mg x=some u/\RelV v u)(hd:(x==("__debug__":Str))=false:=by decide):PE X (.Name x pos) (tC v):=by
 obtain⟨u,h1,h2⟩:=hm
 exact X7 hg h1 h2 hd
end
section
variable {X:Cx}{K:PySem.W.Frag}
def Yg (K:PySem.W.Frag):R2:=fun x y H Q=>∃ a b ys,x = .ref a/\y = .ref b/\SqT K H a []/\SqT K H b ys/\Q (.ref b) H
theorem Ww:OpR X (binaryOp .Add) (Yg X.K):=by
 intro pins s σ H x y v u Q I rx ry h
 obtain⟨a,b,ys,rfl,rfl,ha,hb,q⟩:=h
 cases rx
 cases ry
 obtain⟨its,r1,p1,_⟩:=I.tuple ha
 obtain⟨its2,r2,p2,_⟩:=I.tuple hb
 cases r1
 obtain⟨⟨cls,dd,data,sl⟩,ho,hc,n,hd⟩:=id p1
 obtain⟨⟨cls2,dd2,data2,sl2⟩,ho2,hc2,n2,hd2⟩:=id p2
 simp only at hc hd hc2 hd2
 subst hc hd hc2 hd2
 exact concat_meets ⟨_,ho,rfl⟩ ⟨_,ho2,rfl⟩ noFill_tuple_add seq_tuple_add PySem.F.slot_tuple_add PySem.F.entry_tuple_add (PySem.F.args_tuple_add_2 _ _) (tuple_addW0 a b _ _ n n2 dd dd2 sl sl2 (by simp)) ⟨ho,ho2,⟨.ref b,H,I,rfl,q⟩⟩
def ad8 (K:PySem.W.Frag):V->Option Int->Option Int->Hp->VK->Prop:=fun x lo hi H Q=>∃ a xs,x = .ref a/\SqT K H a xs/\(HT.sIx xs.length 0 lo=0/\HT.sIx xs.length xs.length hi=xs.length)/\Q (.ref a) H
theorem Tx:SlR X (ad8 X.K):=by
 intro pins s σ H x v vl vu lo hi sl Q I rx hs pl pu h
 obtain⟨a,xs,rfl,hx,hw,q⟩:=h
 cases rx
 obtain⟨its,r,ht,hz⟩:=I.tuple hx
 have hlen:its.toArray.size=xs.length:=by rw[List.size_toArray];exact r.length.symm
 refine⟨"tuple",_,PyProof.Rows.slot_tuple_getitem.lookup,ht.typeIs,?_⟩
 obtain⟨os,hos,hcs,hds⟩:=id hs
 have hTs:s.TypeIs (.ref sl) "slice":=⟨os,hos,hcs⟩
 unfold getItem
 try with_reducible refine wpAny_holding ?_
 first | refine wpAny_bind (wpAny_pure ?_) | skip
 refine wpAny_bind (wpAny_sequenceKey ht.typeIs (by decide) ?_)
 refine wpAny_bind (wpAny_callSpecial?_slot (name:=Str.ofString "__getitem__") ht.typeIs PyProof.Rows.slot_tuple_getitem (wpAny_call_entry PyProof.Rows.slot_tuple_getitem ht.typeIs entry_tuple_getitem ?_ (args_tuple_getitem _ _)))
 refine wpAny_bind (m:=Builtin.Tuple.tupleItemsOf (.ref a)) (tupleItemsOf_ ht ?_)
 refine wpAny_bind (wpAny_typeOf hTs ?_)
 rw[if_pos (by decide)]
 refine wpAny_bind (HT.sliceApplied_gen hs pl pu ?_)
 have yes:(((HT.sIx its.toArray.size 0 lo:Nat):Int)==0&&(1:Int)==1&&(HT.sIx its.toArray.size its.toArray.size hi-HT.sIx its.toArray.size 0 lo)==its.toArray.size)=true:=by
  rw[hlen,hw.1,hw.2]
  simp
 show wpAny _ _ (if(((HT.sIx its.toArray.size 0 lo:Nat):Int)==0&&(1:Int)==1&&(HT.sIx its.toArray.size its.toArray.size hi-HT.sIx its.toArray.size 0 lo)==its.toArray.size)=true then _ else _) _ _ s
 rw[if_pos yes]
 have fin:∀ s',s'=s->EP X pins σ Q (.ref a) s':=fun s' e=>by subst e;exact⟨.ref a,H,I,rfl,q⟩
 unfold Builtin.Tuple.tupleIsExact
 obtain⟨hp,g,d,tk,os⟩:=s
 have hT:=ht.typeIs
 repeat (any_goals (first | assumption | wp_step))
 exact⟨_,rfl,wpAny_pure (fin _ rfl)⟩
end
theorem Inv.freeze {X:Cx}{pins:List (Addr×Obj)}{σ:St}{H:Hp}{s:Shared}{d:Addr}{kvs:List (Key×V)}{o:Obj}(I:Inv X pins σ H s)(hd:H d=some (.dK kvs))(ho:s.heap.get? d=some o):Inv X pins σ (upd H d (.frz o (.dK kvs))) s:=by
 have nn:∀ b,H b=none->upd H d (.frz o (.dK kvs)) b=none:=fun b h=>by rw[As (Ne.symm (ne_of_none hd h))];exact h
 have other:∀ b u,H b=some u->u ≠ .dK kvs->upd H d (.frz o (.dK kvs)) b=some u:=fun b u h q=>by rw[As (ne_of h hd q)];exact h
 refine⟨I.ok,I.os,I.bare,⟨I.base.keep,I.base.slot,fun b ob q n hx=>nn b (I.base.free b ob q n hx),I.base.there,fun b xs q=>other b _ (I.base.tups b xs q) (by intro z;cases z),fun b ob u q=>other b _ (I.base.frzs b ob u q) (by intro z;cases z),fun b ps q=>?_⟩,I.loc,I.cell,nn _ I.free,fun x c q=>nn _ (I.freeC x c q),fun p hp=>?_,fun b u q=>?_,I.len⟩
 . obtain⟨more,h⟩:=I.base.tbls b ps q
   exact⟨more,other b _ h (by intro z;cases z)⟩
 . obtain⟨a1,a2,a3⟩:=I.pin p hp
   exact⟨a1,nn _ a2,a3⟩
 by_cases e:b=d
 . subst e
   rw[A9] at q
   cases q
   exact⟨ho,(I.hok b _ hd).stay (fun c v hc z=>z) (fun c z=>other c _ z (by intro w;cases w)) fun c xs z=>other c _ z (by intro w;cases w)⟩
 rw[As e] at q
 exact(I.hok b u q).stay (fun c v hc z=>z) (fun c z=>other c _ z (by intro w;cases w)) fun c xs z=>other c _ z (by intro w;cases w)
def Itd (a:Addr)(o:Obj)(kvs:List (Key×V)):It:=
 ⟨fun i H=>H a=some (.frz o (.dK kvs))/\i<kvs.length,fun i H x H'=>H'=H/\∃ kv,kvs[i]? = some kv/\x=kV kv.1,fun i H=>H a=some (.frz o (.dK kvs))/\kvs.length<=i⟩
theorem Wl {k:Key}{u:Value}(h:Nq k u=true):RelV (kV k) u:=by
 rcases B8 h with ⟨i,t,rfl,rfl⟩ | ⟨x,t,rfl,rfl⟩
 . exact⟨t,rfl⟩
 exact⟨t,rfl⟩
theorem Rb {X:Cx}{pins:List (Addr×Obj)}{σ:St}{H:Hp}{s:Shared}{a:Addr}{kvs:List (Key×V)}{o:Obj}{es:Array DictEntry}{ep:Nat}(I:Inv X pins σ H s)(h:H a=some (.frz o (.dK kvs)))(ho:o.data = .dict es ep):∃ vs,KV kvs vs/\s.heap.DictAt (B5 X.prog X.w) a vs ep:=by
 obtain⟨h1,_,_,vs,r,o',es',ep',h2,c,hd,Mo⟩:=I.hok a _ h
 rw[h1] at h2
 cases h2
 rw[ho] at hd
 cases hd
 exact⟨vs,r,o,es,h1,c,ho,Mo⟩
theorem KV.get:∀ {kvs:List (Key×V)} {vs:List (Key×Value)} {i:Nat} {kv:Key×V},KV kvs vs->kvs[i]? = some kv->∃ u,vs[i]? = some (kv.1,u)/\RelV kv.2 u
 | _,_,_,_,.nil,e=>by simp at e
 | _,_,0,kv,.cons r _,e=>by
   simp at e
   subst e
   exact⟨_,congrArg some (Prod.ext r.1.symm rfl),r.2⟩
 | _,_,i+1,kv,.cons _ t,e=>by
   obtain⟨u,h1,h2⟩:=KV.get (i:=i) t (by simpa using e)
   exact⟨u,by simpa using h1,h2⟩
theorem Lo {P:Program}{w:World}{K:PySem.W.Frag}{tg:Expr}(a it:Addr)(o:Obj)(kvs:List (Key×V))(es:Array DictEntry)(ep:Nat)(hd:o.data = .dict es ep):V6 P w K tg (Itd a o kvs) [it] it (fun i h=>h.IsKeyIter it a i kvs.length ep) where
 mem:=by simp
 obj:=fun i h st b hb=>by
  have e:b=it:=by simpa using hb
  subst e
  obtain⟨o,e,c,d⟩:=st
  exact⟨o,e,fun v z=>by rw[d] at z;cases z⟩
 keep:=fun i h h' st k=>st.at fun o e=>k it (by simp) o e
 item:=by
  intro X hP hw hK hc i pins s σ H E I hf st hg
  subst hP hw hK
  obtain⟨hH,hi⟩:=hg
  obtain⟨vs,rv,hat⟩:=Rb I hH hd
  have hl:kvs.length=vs.length:=Paired.length rv
  obtain⟨kv,hkv⟩:∃ kv,kvs[i]? = some kv:=⟨kvs[i],List.getElem?_eq_getElem hi⟩
  obtain⟨u,hu,_⟩:=KV.get rv hkv
  obtain⟨f0,f1,f2,f3,f4,f5⟩:=hf it (by simp)
  rw[hl] at st
  refine wpAny_pyNext_dict_item st hat hu fun key h' hkey hit' hs'=>?_
  have I1:Inv X pins σ H { s with heap:=h' }:=I.turned (t':=s.toks) (fun b o hb e=>(hs'.2 b hb).trans e) f0 f1 f3 f4 f5
  obtain⟨o',e,c,d⟩:=id hit'
  exact⟨key,rfl,Sb (s:={ s with heap:=h' }) e c d (by decide) ⟨kV kv.1,H,I1,Wl hkey,⟨rfl,kv,hkv,rfl⟩,by rw[hl];exact hit',fun b hb=>(hf b hb).1⟩⟩
 done:=by
  intro X hP hw hK hc i pins s σ H E I hf st hg
  subst hP hw hK
  obtain⟨hH,hi⟩:=hg
  obtain⟨vs,rv,hat⟩:=Rb I hH hd
  have hl:kvs.length=vs.length:=Paired.length rv
  obtain⟨f0,f1,f2,f3,f4,f5⟩:=hf it (by simp)
  rw[hl] at st
  exact wpAny_pyNext_dict_end (I.ok.hd hc) st hat (List.getElem?_eq_none (by omega)) fun h' eb=>⟨rfl,I.turned (t':=s.toks) (fun b o hb e=>eb b o hb e) f0 f1 f3 f4 f5⟩
 self:=fun A i s Q E st hQ=>wpAny_pyIter_keyiter st hQ
theorem Xb {X:Cx}{tg:Expr}{pins:List (Addr×Obj)}{σ:St}{H:Hp}{s:Shared}{a:Addr}{kvs:List (Key×V)}{R:It->Hp->Prop}{E:Value->Shared->Prop}(I:Inv X pins σ H s)(h:H a=some (.dK kvs))(q:∀ o,R (Itd a o kvs) (upd H a (.frz o (.dK kvs)))) :
  wpAny (model X.prog X.w) X.A (pyIter (.ref a)) (PIE X pins σ tg R) E s:=by
 obtain⟨_,hs,vs,rv,o,es,ep,ho,c,hd,Mo⟩:=I.hok a _ h
 have I1:=I.freeze h ho
 have hl:kvs.length=vs.length:=Paired.length rv
 refine wpAny_pyIter_dict (knd:=B5 X.prog X.w) hs ⟨o,es,ho,c,hd,Mo⟩ ?_
 rw[<- hl]
 refine⟨s.heap.objs.size,[s.heap.objs.size],_,_,_,rfl,I1.kept (t':=s.toks) fun b o e=>Heap.get?_push_of_some _ e,Lo a _ o kvs es ep hd,⟨_,Heap.get?_push_size _ rfl,rfl,rfl⟩,fun b hb=>?_,q o⟩
 have e:b=s.heap.objs.size:=by simpa using hb
 subst e
 exact I1.fpOk (Nat.le_refl _) (I1.hok.fresh (Nat.le_refl _))
theorem U1 {X:Cx}{tg:Expr}{pins:List (Addr×Obj)}{σ:St}{H:Hp}{s:Shared}{a:Addr}{kvs:List (Key×V)}{o:Obj}{R:It->Hp->Prop}{E:Value->Shared->Prop}(I:Inv X pins σ H s)(h:H a=some (.frz o (.dK kvs)))(q:R (Itd a o kvs) H) :
  wpAny (model X.prog X.w) X.A (pyIter (.ref a)) (PIE X pins σ tg R) E s:=by
 obtain⟨ho',_,hs,vs,rv,o',es,ep,ho,c,hd,Mo⟩:=I.hok a _ h
 rw[ho'] at ho
 cases ho
 have hl:kvs.length=vs.length:=Paired.length rv
 refine wpAny_pyIter_dict (knd:=B5 X.prog X.w) hs ⟨o,es,ho',c,hd,Mo⟩ ?_
 rw[<- hl]
 refine⟨s.heap.objs.size,[s.heap.objs.size],_,_,_,rfl,I.kept (t':=s.toks) fun b o e=>Heap.get?_push_of_some _ e,Lo a _ o kvs es ep hd,⟨_,Heap.get?_push_size _ rfl,rfl,rfl⟩,fun b hb=>?_,q⟩
 have e:b=s.heap.objs.size:=by simpa using hb
 subst e
 exact I.fpOk (Nat.le_refl _) (I.hok.fresh (Nat.le_refl _))
theorem Same.seqT {K:PySem.W.Frag}{H H':Hp}{a:Addr}{xs:List V}(e:Same H H')(h:SqT K H a xs):SqT K H' a xs:=by
 rcases h with (h | ⟨o,h⟩) | h
 . exact .inl (.inl (e _ _ h))
 . exact .inl (.inr ⟨o,e _ _ h⟩)
 exact .inr h
mutual
def Is (K:PySem.W.Frag)(H:Hp):PyData->V->Prop
 | .none,v=>v = .non
 | .bool b,v=>v = .bl b
 | .int i,v=>v = .int i
 | .str x,v=>v = .str x
 | .list ds,v=>∃ a xs,v = .ref a/\SqL K H a xs/\IsL K H ds xs
 | .tuple ds,v=>∃ a xs,v = .ref a/\SqT K H a xs/\IsL K H ds xs
 | .dict _,_=>False
def IsL (K:PySem.W.Frag)(H:Hp):List PyData->List V->Prop
 | [],vs=>vs=[]
 | d :: ds,vs=>∃ v r,vs=v :: r/\Is K H d v/\IsL K H ds r
end
mutual
theorem Is.mono {K:PySem.W.Frag}{H H':Hp}(e:Same H H'):∀(d:PyData) (v:V),Is K H d v->Is K H' d v
 | .none,_,h=>by simp only[Is] at h ⊢;exact h
 | .bool _,_,h=>by simp only[Is] at h ⊢;exact h
 | .int _,_,h=>by simp only[Is] at h ⊢;exact h
 | .str _,_,h=>by simp only[Is] at h ⊢;exact h
 | .list ds,v,h=>by
   simp only[Is] at h ⊢
   obtain⟨a,xs,e1,e2,e3⟩:=h
   exact⟨a,xs,e1,e.seq e2,IsL.mono e ds xs e3⟩
 | .tuple ds,v,h=>by
   simp only[Is] at h ⊢
   obtain⟨a,xs,e1,e2,e3⟩:=h
   exact⟨a,xs,e1,e.seqT e2,IsL.mono e ds xs e3⟩
 | .dict _,_,h=>by simp only[Is] at h
theorem IsL.mono {K:PySem.W.Frag}{H H':Hp}(e:Same H H'):∀(ds:List PyData) (vs:List V),IsL K H ds vs->IsL K H' ds vs
 | [],_,h=>by simp only[IsL] at h ⊢;exact h
 | d :: ds,vs,h=>by
   simp only[IsL] at h ⊢
   obtain⟨v,r,e1,e2,e3⟩:=h
   exact⟨v,r,e1,Is.mono e d v e2,IsL.mono e ds r e3⟩
end
section
variable {X:Cx}{pins:List (Addr×Obj)}{σ:St}{H:Hp}{s:Shared}
mutual
theorem Is.reads (I:Inv X pins σ H s):∀(d:PyData) (v:V) (u:Value),Is X.K H d v->RelV v u->∃ as,Reads s.heap u d as
 | .none,v,u,i,r=>by
   simp only[Is] at i
   subst i
   cases r
   exact⟨_,.none⟩
 | .bool b,v,u,i,r=>by
   simp only[Is] at i
   subst i
   cases r
   exact⟨_,.bool b⟩
 | .int n,v,u,i,r=>by
   simp only[Is] at i
   subst i
   obtain⟨t,rfl⟩:=r
   exact⟨_,.int n t⟩
 | .str x,v,u,i,r=>by
   simp only[Is] at i
   subst i
   obtain⟨t,rfl⟩:=r
   exact⟨_,.str x t⟩
 | .list ds,v,u,i,r=>by
   simp only[Is] at i
   obtain⟨a,xs,rfl,e2,e3⟩:=i
   cases r
   obtain⟨its,rv,⟨o,n,e,hc,hd,hs⟩,_⟩:=I.list e2
   obtain⟨as,ra⟩:=IsL.reads I ds xs its e3 rv
   exact⟨_,.list e hc hs (by simpa using ra)⟩
 | .tuple ds,v,u,i,r=>by
   simp only[Is] at i
   obtain⟨a,xs,rfl,e2,e3⟩:=i
   cases r
   obtain⟨its,rv,⟨o,e,hc,n,hd⟩,_⟩:=I.tuple e2
   obtain⟨as,ra⟩:=IsL.reads I ds xs its e3 rv
   exact⟨_,.tuple e hc hd (by simpa using ra)⟩
 | .dict _,_,_,i,_=>by simp only[Is] at i
theorem IsL.reads (I:Inv X pins σ H s):∀(ds:List PyData) (vs:List V) (us:List Value),IsL X.K H ds vs->Vals vs us->∃ as,ReadsAll s.heap us ds as
 | [],vs,us,i,r=>by
   simp only[IsL] at i
   subst i
   cases r
   exact⟨_,.nil⟩
 | d :: ds,vs,us,i,r=>by
   simp only[IsL] at i
   obtain⟨v,rr,rfl,e2,e3⟩:=i
   cases r with
   | cons r1 r2=>
     obtain⟨a1,h1⟩:=Is.reads I d v _ e2 r1
     obtain⟨a2,h2⟩:=IsL.reads I ds rr _ e3 r2
     exact⟨_,.cons h1 h2⟩
end
end
theorem Tk {K:PySem.W.Frag}{H:Hp}:∀ ns:List Int,IsL K H (ns.map PyData.int) (ns.map V.int)
 | []=>by simp only[List.map_nil,IsL]
 | n :: r=>by
   simp only[List.map_cons,IsL]
   exact⟨_,_,rfl,by simp only[Is],Tk r⟩
theorem E6 {K:PySem.W.Frag}{H:Hp}:∀ ns:List Str,IsL K H (ns.map PyData.str) (ns.map V.str)
 | []=>by simp only[List.map_nil,IsL]
 | n :: r=>by
   simp only[List.map_cons,IsL]
   exact⟨_,_,rfl,by simp only[Is],E6 r⟩
theorem Hg {K:PySem.W.Frag}{H:Hp}{a:Addr}{ns:List Int}(h:SqL K H a (ns.map V.int)):Is K H (.list (ns.map PyData.int)) (.ref a):=by
 simp only[Is]
 exact⟨a,_,rfl,h,Tk ns⟩
structure QA (A:Around):Prop where
 un:A.units+150<cLine
 gd:A.guards=some []
theorem By {A:Around}{k:Nat}(hr:Room k A):QA A:=⟨by have:=hr.un;omega,hr.gd⟩
section
variable {X:Cx}
def Pt (K:PySem.W.Frag):R2:=fun x y H Q=>(∃ i j,x = .int i/\y = .int j/\Q (.int (i+j)) H)\/(∃ i j,x = .str i/\y = .str j/\i.length+j.length<=sizeLine/\Q (.str (i++j)) H)\/ad7 x y H Q\/Yk K x y H Q\/Yg K x y H Q
theorem Wf:OpR X (binaryOp .Add) (Pt X.K):=op_add.or (op_add_str.or (op_cat.or (op_catT.or Ww)))
def Tw:R2:=fun x y H Q=>(∃ i j,x = .int i/\y = .int j/\CMul i j/\Q (.int (i*j)) H)\/ac5 x y H Q
theorem op_mulA:OpR X (binaryOp .Mult) Tw:=op_mul.or a03
theorem E3:OpR X (binaryOp .FloorDiv) (rI Yd fun i j=>.int (i / j)):=Y3
def a80 (K:PySem.W.Frag)(neg:Bool):R2:=fun x y H Q=>∃ dx dy,Is K H dx x/\Is K H dy y/\SeqAt.shaped dx=true/\SeqAt.shaped dy=true/\Q (.bl (if neg then !PyData.eqv dx dy else PyData.eqv dx dy)) H
theorem a73 (hq:QA X.A):OpR X (compareOp .Eq) (a80 X.K false):=by
 intro pins s σ H x y v u Q I rx ry h
 obtain⟨dx,dy,ix,iy,sx,sy,q⟩:=h
 obtain⟨as,ra⟩:=Is.reads I dx x v ix rx
 obtain⟨bs,rb⟩:=Is.reads I dy y u iy ry
 exact eq_dataH ra rb sx sy (by have:=hq.un;omega) ⟨.bl _,H,I,rfl,q⟩
theorem a54 (hq:QA X.A):OpR X (compareOp .NotEq) (a80 X.K true):=by
 intro pins s σ H x y v u Q I rx ry h
 obtain⟨dx,dy,ix,iy,sx,sy,q⟩:=h
 obtain⟨as,ra⟩:=Is.reads I dx x v ix rx
 obtain⟨bs,rb⟩:=Is.reads I dy y u iy ry
 exact ne_dataH ra rb sx sy (by have:=hq.un;omega) ⟨.bl _,H,I,rfl,q⟩
def a82 (K:PySem.W.Frag):R2:=fun x y H Q=>rEq x y H Q\/a80 K false x y H Q
def a81 (K:PySem.W.Frag):R2:=fun x y H Q=>rNe x y H Q\/a80 K true x y H Q
theorem a69 (hq:QA X.A):OpR X (compareOp .Eq) (a82 X.K):=op_eq.or (a73 hq)
theorem Yr (hq:QA X.A):OpR X (compareOp .NotEq) (a81 X.K):=op_ne.or (a54 hq)
def rInT (neg:Bool):R2:=fun x y H Q=>∃ i j,x = .str i/\y = .str j/\Q (.bl (if neg then !(!(Builtin.Str.occurrences j i 0 j.length 1).isEmpty) else !(Builtin.Str.occurrences j i 0 j.length 1).isEmpty)) H
def aa7 (neg:Bool):R2:=fun x y H Q=>∃ a o,y = .ref a/\DGet H a x o/\Q (.bl (if neg then !o.isSome else o.isSome)) H
theorem a74 (hu:X.A.units+1<cLine):OpR X (compareOp .In) (aa7 false):=by
 intro pins s σ H x y v u Q I rx ry h
 obtain⟨a,o,rfl,g,q⟩:=h
 cases ry
 exact d_in hu I g rx fun s' I'=>⟨.bl _,H,I',rfl,q⟩
theorem T4 (hu:X.A.units+1<cLine):OpR X (compareOp .NotIn) (aa7 true):=by
 intro pins s σ H x y v u Q I rx ry h
 obtain⟨a,o,rfl,g,q⟩:=h
 cases ry
 exact X6 hu I g rx fun s' I'=>⟨.bl _,H,I',rfl,q⟩
def a90 (K:PySem.W.Frag)(neg:Bool):R2:=fun x y H Q=>∃ d ds,Is K H d x/\(Is K H (.list ds) y\/Is K H (.tuple ds) y)/\PyData.canLayAll0 ds=true/\d.canLay0=true/\d.depth<=100/\Q (.bl (if neg then !(ds.any fun e=>PyData.eqv e d) else ds.any fun e=>PyData.eqv e d)) H
theorem Yo (hq:QA X.A):OpR X (compareOp .In) (a90 X.K false):=by
 intro pins s σ H x y v u Q I rx ry h
 obtain⟨d,ds,ix,iy,h1,h2,h3,q⟩:=h
 obtain⟨bs,rb⟩:=Is.reads I d x v ix rx
 rcases iy with iy | iy
 . obtain⟨as,ra⟩:=Is.reads I _ y u iy ry
   exact SeqAt.in_list_reads ra rb h1 h2 (by have:=hq.un;have:=Nat.min_le_right (PyData.depthAll ds) d.depth;omega) ⟨.bl _,H,I,rfl,q⟩
 obtain⟨as,ra⟩:=Is.reads I _ y u iy ry
 exact SeqAt.in_tuple_reads ra rb h1 h2 (by have:=hq.un;have:=Nat.min_le_right (PyData.depthAll ds) d.depth;omega) ⟨.bl _,H,I,rfl,q⟩
theorem Qm (hq:QA X.A):OpR X (compareOp .NotIn) (a90 X.K true):=by
 intro pins s σ H x y v u Q I rx ry h
 obtain⟨d,ds,ix,iy,h1,h2,h3,q⟩:=h
 obtain⟨bs,rb⟩:=Is.reads I d x v ix rx
 rcases iy with iy | iy
 . obtain⟨as,ra⟩:=Is.reads I _ y u iy ry
   exact SeqAt.notIn_list_reads ra rb h1 h2 (by have:=hq.un;have:=Nat.min_le_right (PyData.depthAll ds) d.depth;omega) ⟨.bl _,H,I,rfl,q⟩
 obtain⟨as,ra⟩:=Is.reads I _ y u iy ry
 exact SeqAt.notIn_tuple_reads ra rb h1 h2 (by have:=hq.un;have:=Nat.min_le_right (PyData.depthAll ds) d.depth;omega) ⟨.bl _,H,I,rfl,q⟩
def Q6 (K:PySem.W.Frag)(neg:Bool):R2:=fun x y H Q=>rIn K neg x y H Q\/rInT neg x y H Q\/aa7 neg x y H Q\/a90 K neg x y H Q
theorem QA.hu {A:Around}(h:QA A):A.units+1<cLine:=by have:=h.un;omega
theorem a72 (hq:QA X.A):OpR X (compareOp .In) (Q6 X.K false):=op_in_seq.or (op_in_str.or ((a74 hq.hu).or (Yo hq)))
theorem Rk (hq:QA X.A):OpR X (compareOp .NotIn) (Q6 X.K true):=op_notIn_seq.or (op_notIn_str.or ((T4 hq.hu).or (Qm hq)))
def Zr (K:PySem.W.Frag):V->Option Int->Option Int->Hp->VK->Prop:=fun x lo hi H Q=>ac0 K x lo hi H Q\/ad6 K x lo hi H Q\/ae4 x lo hi H Q\/ad8 K x lo hi H Q
theorem sl_A:SlR X (Zr X.K):=sl_list.or (sl_tup.or (sl_str.or Tx))
def ac7:R2:=fun x y H Q=>∃ a v,x = .ref a/\DGet H a y (some v)/\Q v H
theorem Xp (hu:X.A.units+1<cLine):IxR X ac7:=by
 intro value slice pins s σ H x y v u Q I rx ry h hs
 obtain⟨a,z,rfl,g,q⟩:=h
 cases rx
 exact tail_any (O0 I g) PySem.F.slot_dict_getitem.lookup (Sv hu I g ry fun w' s' I' rw'=>⟨z,H,I',rw',q⟩) hs
def N6 (K:PySem.W.Frag):R2:=fun x y H Q=>rIx K x y H Q\/ac7 x y H Q
theorem Zf (hu:X.A.units+1<cLine):IxR X (N6 X.K):=ix_seq.or (Xp hu)
def Pg (K:PySem.W.Frag):List V->Hp->VK->Prop:=fun xs H Q=>(∃ x n,xs=[x]/\ad2 K x H n/\Q (.int n) H)\/∃ a kvs,xs=[V.ref a]/\H a=some (.dK kvs)/\Q (.int kvs.length) H
theorem Rm:CallR X (.builtin "len") (Pg X.K):=call_len.or Sx
def Ej (K:PySem.W.Frag):List V->Hp->VK->Prop:=fun xs H Q=>(∃ x c t b,xs=[x,.ty c]/\TyOf K H x t/\PySem.W.kitOne K t (.type c)=some b/\Q (.bl b) H)\/(∃ x c t b,xs=[x,.ref c]/\TyOf K H x t/\PySem.W.kitOne K t (.ref c)=some b/\Q (.bl b) H)\/∃ a ys c b,xs=[V.ref a,.ty c]/\((SqT K H a ys/\PySem.W.kitOne K (.type "tuple") (.type c)=some b)\/(SqL K H a ys/\PySem.W.kitOne K (.type "list") (.type c)=some b))/\Q (.bl b) H
theorem Lv:CallR X (.builtin "isinstance") (Ej X.K):=call_isinst.or (call_isinstR.or Li)
def On (K:PySem.W.Frag):List V->Hp->VK->Prop:=fun xs H Q=>∃ p ys,xs=[.ref p]/\(SqL K H p ys\/SqT K H p ys)/\∀ l,H l=none->Q (.ref l) (upd H l (.lst ys))
theorem Qb:CallR X (.type "list") (On X.K):=Lj
def Kz (K:PySem.W.Frag):List V->Hp->VK->Prop:=fun xs H Q=>∃ p ys,xs=[.ref p]/\((SqL K H p ys/\∀ l,H l=none->Q (.ref l) (upd H l (.tup ys)))\/(SqT K H p ys/\Q (.ref p) H))
theorem O4:CallR X (.type "tuple") (Kz X.K):=L5
def a59:List V->Hp->VK->Prop:=fun xs H Q=>(∃ b,xs=[.bl b]/\Q (.str (if b then "True" else "False")) H)\/(xs=[.non]/\Q (.str "None") H)
theorem Jr:CallR X (.builtin "repr") a59:=Q9
def Yf:List V->Hp->VK->Prop:=fun xs H Q=>(∃ i,xs=[.int i]/\Q (.int i) H)\/∃ k,xs=[.bl k]/\Q (.int (if k then 1 else 0)) H
theorem My:CallR X (.type "int") Yf:=Qk
def X2 (K:PySem.W.Frag):List V->Hp->VK->Prop:=fun xs H Q=>∃(a:Addr) (bs:List Bool),xs=[.ref a]/\SqL K H a (bs.map V.bl)/\Q (.bl (bs.all id)) H
theorem Qn (hc:X.calm=true):CallR X (.builtin "all") (X2 X.K):=Tt hc
def X4 (K:PySem.W.Frag):List V->Hp->VK->Prop:=fun xs H Q=>∃(a:Addr) (bs:List Bool),xs=[.ref a]/\SqL K H a (bs.map V.bl)/\Q (.bl (bs.any id)) H
theorem Ra (hc:X.calm=true):CallR X (.builtin "any") (X4 X.K):=Ts hc
variable {tg:Expr}
def G1 (K:PySem.W.Frag)(x:V)(H1:Hp)(R:It->Hp->Prop):Prop:=(∃ a,x = .ref a/\(∃ xs,SqL K H1 a xs)/\R (Itl K a) H1)\/(∃ a,x = .ref a/\(∃ xs,SqT K H1 a xs)/\R (Itt K a) H1)\/(∃ z,x = .str z/\R (Its z) H1)\/∃ a kvs,x = .ref a/\((H1 a=some (.dK kvs)/\∀ o,R (Itd a o kvs) (upd H1 a (.frz o (.dK kvs))))\/∃ o,H1 a=some (.frz o (.dK kvs))/\R (Itd a o kvs) H1)
def aa8 (K:PySem.W.Frag)(tl:TE):TI:=fun σ H R=>tl σ H fun x H1=>G1 K x H1 R
theorem a48 (hu:X.A.units+1<cLine){l:Expr}{tl:TE}(hl:PE X l tl):PI X tg l (aa8 X.K tl):=by
 intro pins s σ H R I h
 refine thn (hl pins s σ H _ I h) fun v s1 ⟨x,H1,I1,r1,q1⟩=>?_
 rcases q1 with ⟨a,e,⟨xs,hq⟩,q⟩ | ⟨a,e,⟨xs,hq⟩,q⟩ | ⟨z,e,q⟩ | ⟨a,kvs,e,q⟩
 . subst e
   cases r1
   obtain⟨its,rv,p,hz⟩:=I1.list hq
   refine wpAny_pyIter_list p.isList ?_
   refine⟨s1.heap.objs.size,[s1.heap.objs.size],_,_,H1,rfl,I1.kept (t':=s1.toks) fun b o e=>Heap.get?_push_of_some _ e,Su a _,⟨_,Heap.get?_push_size _ rfl,rfl,rfl⟩,fun b hb=>?_,q⟩
   have e:b=s1.heap.objs.size:=by simpa using hb
   subst e
   exact I1.fpOk (Nat.le_refl _) (I1.hok.fresh (Nat.le_refl _))
 . subst e
   cases r1
   obtain⟨its,rv,p,hz⟩:=I1.tuple hq
   refine wpAny_pyIter_tuple (show s1.heap.IsTuple a its.toArray from p) ?_
   refine⟨s1.heap.objs.size,[s1.heap.objs.size],_,_,H1,rfl,I1.kept (t':=s1.toks) fun b o e=>Heap.get?_push_of_some _ e,Qa a _,⟨_,Heap.get?_push_size _ rfl,rfl,rfl⟩,fun b hb=>?_,q⟩
   have e:b=s1.heap.objs.size:=by simpa using hb
   subst e
   exact I1.fpOk (Nat.le_refl _) (I1.hok.fresh (Nat.le_refl _))
 . subst e
   exact a52 I1 r1 q
 subst e
 cases r1
 rcases q with ⟨hd,q⟩ | ⟨o,hd,q⟩
 . exact Xb I1 hd q
 exact U1 I1 hd q
end
def Fnd (P:Program)(w:World)(K:PySem.W.Frag)(mg:Str->Option Value)(base:Heap)(k:Nat)(x:Str)(ps:List Str)(sp:Sp):Prop:=
 ∃ f fd,FnOk P w K mg base CX0 k f fd ps sp/\mg x=some (.ref f)/\PySem.W.keepIn K (.ref f)=true/\Binds K fd ps []
section
variable {X:Cx}{k:Nat}{x:Str}{ps:List Str}{sp:Sp}{e:Expr}{es:List Expr}{t:TA}{p pos:Pos}
theorem Ai (F:Fnd X.prog X.w X.K X.mg X.base k x ps sp)(hr:Room k X.A)(hg:Gl X x)(ha:PA X (e :: es) t)(hdb:(x==("__debug__":Str))=false:=by decide)
  (he:starEach (e :: es) X.env=(false,eval e X.env) :: starEach es X.env:=by ac_nf) (hpl:(backTo pos (starEach es X.env)).any (·.1)=false:=by ac_nf):PE X (.Call (.Name x p) (e :: es) [] pos) (Tr sp [] E0 t):=by
 obtain⟨f,fd,h1,h2,h3,h4⟩:=F
 exact Ry h1 hr hg h2 h3 h4 .nil aa1 ha hdb he hpl
end
def ExtBut (d:Addr)(H H':Hp):Prop:=∀ b o,b≠d->H b=some o->H' b=some o
theorem Same.lk {H H':Hp}{a:Addr}{o:HO}(e:Same H H')(h:H a=some o):H' a=some o:=e a o h
theorem ExtBut.lk {d:Addr}{H H':Hp}{a:Addr}{o:HO}(e:ExtBut d H H')(h:H a=some o)(n:a≠d):H' a=some o:=e a o n h
theorem Same.upd {H:Hp}{p:Addr}{o:HO}(h:H p=none):Same H (upd H p o):=fun b u e=>by rw[As (ne_of_none e h)];exact e
theorem ExtBut.upd {H:Hp}{p:Addr}{o:HO}:ExtBut p H (upd H p o):=fun b u n e=>by rw[As n];exact e
theorem ExtBut.trans {d:Addr}{H H1 H2:Hp}(a:ExtBut d H H1)(b:ExtBut d H1 H2):ExtBut d H H2:=fun c o n h=>b c o n (a c o n h)
theorem ExtBut.same {d:Addr}{H H1 H2:Hp}(a:ExtBut d H H1)(b:Same H1 H2):ExtBut d H H2:=fun c o n h=>b c o (a c o n h)
theorem ExtBut.after {d:Addr}{H H1 H2:Hp}(a:Same H H1)(b:ExtBut d H1 H2):ExtBut d H H2:=fun c o n h=>b c o n (a c o h)
theorem ExtBut.refl {d:Addr}{H:Hp}:ExtBut d H H:=fun _ _ _ h=>h
theorem ExtBut.seq {K:PySem.W.Frag}{d:Addr}{H H':Hp}{a:Addr}{xs:List V}(e:ExtBut d H H')(n:a≠d)(h:SqL K H a xs):SqL K H' a xs:=by
 rcases h with (h | ⟨o,h⟩) | h
 . exact .inl (.inl (e _ _ n h))
 . exact .inl (.inr ⟨o,e _ _ n h⟩)
 exact .inr h
def Z2 (xs:List V)(H:Hp)(Q:VK):Prop:=xs.length<=sizeLine/\∀ p,H p=none->Q (.ref p) (upd H p (.tup xs))
def a53 (xs:List V)(H:Hp)(Q:VK):Prop:=xs.length<=sizeLine/\∀ p,H p=none->Q (.ref p) (upd H p (.lst xs))
def Yq (vs:List V)(H:Hp)(R:It->Hp->Prop):Prop:=∃ j:Int,vs=[.int j] /\ -(2 ^ 62)<=j/\j<2 ^ 62/\R (Itr 0 j.toNat) H
def Yz (vs:List V)(H:Hp)(R:It->Hp->Prop):Prop:=∃ i j:Int,vs=[.int i,.int j]/\(-(2 ^ 62)<=i/\i<2 ^ 62 /\ -(2 ^ 62)<=j/\j<2 ^ 62)/\R (Itr i (j-i).toNat) H
def a34 (g:TG)(tb:TS)(D:Ends)(σ:St)(J:It)(H1:Hp):Prop:=∃ W:Nat->Nat->St->Hp->Prop,(∃ m,W 0 m σ H1)/\∀ i m σ H,W i m σ H ->
 (J.stop i H/\D.nx σ H)\/(J.go i H/\∃ N:St->Hp->Prop,(∀ σ' H',N σ' H'->∃ m',m'<m/\W (i+1) m' σ' H')/\∀ x H',J.yld i H x H'->g x σ H' fun σ2 H2=>tb { D with nx:=N,ct:=N,bk:=D.nx } σ2 H2)
def Ki (k:Nat)(js:List Nat)(g:TG)(tt:TT)(te:TE)(σ:St)(J:It)(H1:Hp)(Q:VK):Prop:=∀ p,H1 p=none ->
 ∃ W:Nat->Nat->Hp->Prop,(∃ m,W 0 m (upd H1 p (.lst [])))/\∀ i m H,W i m H ->
  (J.stop i H/\Q (.ref p) H)\/(J.go i H/\∃ N:Hp->Prop,(∀ H',N H'->∃ m',m'<m/\W (i+1) m' H') /\
   ∀ x H',J.yld i H x H'->g x (List.replicate k none++Kw σ js) H' fun σ2 H2=>tt σ2 H2 fun b H3=>
    if b=true then te σ2 H3 fun y H4=>∃ acc,H4 p=some (.lst acc)/\acc.length<sizeLine/\N (upd H4 p (.lst (acc++[y]))) else N H3)
def Vg (p:Addr)(ps:List (V×V))(H:Hp)(Q:VK):Prop:=H p=some (.dK [])/\∃ kvs:List (Key×V),ps=kvs.map (fun kv=>(kV kv.1,kv.2))/\kvs.length<=15/\Q (.ref p) (upd H p (.dK (Df [] kvs)))
section
variable {K:PySem.W.Frag}{σ:St}{H:Hp}{Q:VK}{D:Ends}{ta tb te:TE}{c:TT}{t u:TS}{x y v:V}{i j:Int}
theorem i_var {n:Nat}(h:σ[n]? = some (some v))(k:Q v H):ab0 n σ H Q:=⟨v,h,k⟩
theorem i_c (k:Q v H):tC v σ H Q:=k
theorem i_next (k:D.nx σ H):Zu D σ H:=k
theorem i_ret (k:te σ H D.rt):ac2 te D σ H:=k
theorem i_drop (k:te σ H fun _ H1=>D.nx σ H1):a05 te D σ H:=k
theorem i_asg {g:TG}(k:te σ H fun x H1=>g x σ H1 D.nx):Ye te g D σ H:=k
theorem i_gname {n:Nat}{R:St->Hp->Prop}(k:R (σ.set n (some v)) H):Hk n v σ H R:=k
theorem i_if (k:c σ H fun b H1=>if b=true then t D σ H1 else u D σ H1):ad3 c t u D σ H:=k
theorem i_op {r:R2}(k:ta σ H fun x H1=>tb σ H1 fun y H2=>r x y H2 Q):tOp r ta tb σ H Q:=k
theorem i_un {r:V->Hp->VK->Prop}(k:ta σ H fun x H1=>r x H1 Q):tUn r ta σ H Q:=k
theorem i_rU {g:Int->V}(k:Q (g i) H):rU g (.int i) H Q:=⟨i,rfl,k⟩
theorem i_rI0 {g:Int->Int->V}(k:Q (g i j) H):rI0 g (.int i) (.int j) H Q:=⟨i,j,rfl,rfl,k⟩
theorem i_rI {C:Int->Int->Prop}{g:Int->Int->V}(h:C i j)(k:Q (g i j) H):rI C g (.int i) (.int j) H Q:=⟨i,j,rfl,rfl,h,k⟩
theorem i_addI (k:Q (.int (i+j)) H):Pt K (.int i) (.int j) H Q:=.inl ⟨i,j,rfl,rfl,k⟩
theorem i_addS {a b:Str}(h:a.length+b.length<=sizeLine)(k:Q (.str (a++b)) H):Pt K (.str a) (.str b) H Q:=.inr (.inl ⟨a,b,rfl,rfl,h,k⟩)
theorem Js {a b:Addr}{xs ys:List V}(h1:H a=some (.lst xs))(h2:H b=some (.lst ys))(h:xs.length+ys.length<=sizeLine)(k:∀ p H',H p=none->Same H H'->H' p=some (.lst (xs++ys))->Q (.ref p) H'):Pt K (.ref a) (.ref b) H Q:=
 .inr (.inr (.inl ⟨a,b,xs,ys,rfl,rfl,h1,h2,h,fun p hp=>k p _ hp (Same.upd hp) A9⟩))
theorem Zp (h:CMul i j)(k:Q (.int (i*j)) H):Tw (.int i) (.int j) H Q:=.inl ⟨i,j,rfl,rfl,h,k⟩
theorem T1 {a:Addr}{xs:List V}(h1:H a=some (.lst xs))(h2:-(2 ^ 63)<=i/\i<2 ^ 63)(h3:xs.length*i.toNat<=sizeLine)(k:∀ p H',H p=none->Same H H'->H' p=some (.lst (List.replicate i.toNat xs).flatten)->Q (.ref p) H'):Tw (.ref a) (.int i) H Q:=
 .inr ⟨a,i,xs,rfl,rfl,h1,h2.1,h2.2,h3,fun p hp=>k p _ hp (Same.upd hp) A9⟩
theorem i_eqS (h:a83 x y=true)(k:Q (.bl (decide (x=y))) H):a82 K x y H Q:=.inl ⟨h,k⟩
theorem i_neS (h:a83 x y=true)(k:Q (.bl (!decide (x=y))) H):a81 K x y H Q:=.inl ⟨h,k⟩
theorem Ur {dx dy:PyData}(h1:Is K H dx x)(h2:Is K H dy y)(h3:SeqAt.shaped dx=true)(h4:SeqAt.shaped dy=true)(k:Q (.bl (PyData.eqv dx dy)) H):a82 K x y H Q:=.inr ⟨dx,dy,h1,h2,h3,h4,k⟩
theorem X3 {dx dy:PyData}(h1:Is K H dx x)(h2:Is K H dy y)(h3:SeqAt.shaped dx=true)(h4:SeqAt.shaped dy=true)(k:Q (.bl (!PyData.eqv dx dy)) H):a81 K x y H Q:=.inr ⟨dx,dy,h1,h2,h3,h4,k⟩
theorem i_true {R:Bool->Hp->Prop}(k:R true H):Sg σ H R:=k
theorem i_tTest {R:Bool->Hp->Prop}(k:te σ H fun x H'=>∃ b,x = .bl b/\R b H'):Zm te σ H R:=k
theorem i_tB {R:Bool->Hp->Prop}(k:te σ H fun x H'=>∃ b,x = .bl b/\R b H'):tB te σ H R:=k
theorem i_bl {b:Bool}{R:Bool->Prop}(k:R b):∃ c,V.bl b = .bl c/\R c:=⟨b,rfl,k⟩
theorem i_not {R:Bool->Hp->Prop}(k:c σ H fun b H1=>R (!b) H1):ac4 c σ H R:=k
theorem i_and {c':TT}{R:Bool->Hp->Prop}(k:c σ H fun b H1=>if b=true then c' σ H1 R else R false H1):ae0 c c' σ H R:=k
theorem i_or {c':TT}{R:Bool->Hp->Prop}(k:c σ H fun b H1=>if b=true then R true H1 else c' σ H1 R):tOr c c' σ H R:=k
theorem Fo {a:Addr}{xs:List V}(h:H a=some (.lst xs))(e:atI xs i=some v)(k:Q v H):N6 K (.ref a) (.int i) H Q:=.inl (.inl ⟨a,xs,i,v,rfl,rfl,SqL.of h,e,k⟩)
theorem Xz {z:Str}{s:Nat}(h:z.length<=sizeLine)(e:atI z.cps.toList i=some s)(k:Q (.str ⟨#[s]⟩) H):N6 K (.str z) (.int i) H Q:=.inl (.inr (.inr ⟨z,i,s,rfl,rfl,h,e,k⟩))
theorem i_ixD {a:Addr}{kvs:List (Key×V)}{z:Str}(h:H a=some (.dK kvs))(e:Gz kvs (Sum.inr z:Key)=some v)(k:Q v H):N6 K (.ref a) (.str z) H Q:=.inr ⟨a,v,rfl,by rw[<- e];exact DGet.k (k:=Sum.inr z) h,k⟩
theorem i_lenL {a:Addr}{xs:List V}(h:H a=some (.lst xs))(k:Q (.int xs.length) H):Pg K [.ref a] H Q:=.inl ⟨.ref a,_,rfl,.inl ⟨xs,SqL.of h,rfl⟩,k⟩
theorem Ht {c:String}{t:Value}{b:Bool}(h:TyOf K H x t)(e:PySem.W.kitOne K t (.type c)=some b)(k:Q (.bl b) H):Ej K [x,.ty c] H Q:=.inl ⟨x,c,t,b,rfl,h,e,k⟩
theorem Vk {c:String}{b:Bool}{a:Addr}{ys:List V}(h:SqT K H a ys)(e:PySem.W.kitOne K (.type "tuple") (.type c)=some b)(k:Q (.bl b) H):Ej K [.ref a,.ty c] H Q:=.inr (.inr ⟨a,ys,c,b,rfl,.inl ⟨h,e⟩,k⟩)
theorem Vf {c:String}{b:Bool}{a:Addr}{ys:List V}(h:SqL K H a ys)(e:PySem.W.kitOne K (.type "list") (.type c)=some b)(k:Q (.bl b) H):Ej K [.ref a,.ty c] H Q:=.inr (.inr ⟨a,ys,c,b,rfl,.inr ⟨h,e⟩,k⟩)
theorem Xd {a:Addr}{xs:List V}(h:SqL K H a xs)(k:∀ p H',H p=none->Same H H'->H' p=some (.lst xs)->Q (.ref p) H'):On K [.ref a] H Q:=⟨a,xs,rfl,.inl h,fun p hp=>k p _ hp (Same.upd hp) A9⟩
theorem G0 {a:Addr}{xs:List V}(h:SqL K H a xs)(k:∀ p H',H p=none->Same H H'->H' p=some (.tup xs)->Q (.ref p) H'):Kz K [.ref a] H Q:=⟨a,xs,rfl,.inl ⟨h,fun p hp=>k p _ hp (Same.upd hp) A9⟩⟩
theorem i_intB {b:Bool}(k:Q (.int (if b then 1 else 0)) H):Yf [.bl b] H Q:=.inr ⟨b,rfl,k⟩
theorem a35 {a:Addr}{bs:List Bool}(h:SqL K H a (bs.map V.bl))(k:Q (.bl (bs.all id)) H):X2 K [.ref a] H Q:=⟨a,bs,rfl,h,k⟩
theorem aa6 {a:Addr}{bs:List Bool}(h:SqL K H a (bs.map V.bl))(k:Q (.bl (bs.any id)) H):X4 K [.ref a] H Q:=⟨a,bs,rfl,h,k⟩
theorem i_sl {r:V->Option Int->Option Int->Hp->VK->Prop}{tl th:TO}(k:te σ H fun x H1=>tl σ H1 fun l H2=>th σ H2 fun u H3=>r x l u H3 Q):tSl r te tl th σ H Q:=k
theorem i_noPart {R:Option Int->Hp->Prop}(k:R none H):Rf σ H R:=k
theorem i_part {R:Option Int->Hp->Prop}(k:te σ H fun x H1=>∃ i,x = .int i/\R (some i) H1):a61 te σ H R:=k
theorem i_int {R:Int->Prop}(k:R i):∃ j,V.int i = .int j/\R j:=⟨i,rfl,k⟩
theorem i_slS {z:Str}{lo hi:Option Int}(h:z.length<=sizeLine)(k:Q (.str (Txt.slice z lo hi)) H):Zr K (.str z) lo hi H Q:=.inr (.inr (.inl ⟨z,rfl,h,k⟩))
theorem Np {a:Addr}{xs:List V}{lo hi:Option Int}(h:SqL K H a xs)(k:∀ p H',H p=none->Same H H'->H' p=some (.lst (J5 xs lo hi))->Q (.ref p) H'):Zr K (.ref a) lo hi H Q:=.inl ⟨a,xs,rfl,h,fun p hp=>k p _ hp (Same.upd hp) A9⟩
theorem i_bm {T:String}{r:V->List V->Hp->VK->Prop}{ts:TA}(k:te σ H fun x H1=>tyV K T x H1/\ts σ H1 fun xs H2=>r x xs H2 Q):tBM K T r te ts σ H Q:=k
theorem i_tyS {z:Str}{B:Prop}(k:B):tyV K "str" (.str z) H/\B:=⟨rfl,k⟩
theorem Y1 {z:Str}(h:(Txt.upper z).length<=16777216)(k:Q (.str (Txt.upper z)) H):W7 (.str z) [] H Q:=⟨z,rfl,rfl,h,k⟩
theorem i_bm0 {T:String}{r:V->List V->Hp->VK->Prop}(k:te σ H fun x H1=>tyV K T x H1/\r x [] H1 Q):a97 K T r te σ H Q:=k
theorem i_call {sp:Sp}{E:XK}{ts:TA}(k:ts σ H fun vs H1=>sp (vs++[]) H1 Q E):Tr sp [] E ts σ H Q:=k
theorem i_cb {r:List V->Hp->VK->Prop}{ts:TA}(k:ts σ H fun vs H1=>r vs H1 Q):tCB r ts σ H Q:=k
theorem i_cons {tr:TA}{R:List V->Hp->Prop}(k:ta σ H fun x H1=>tr σ H1 fun xs H2=>R (x :: xs) H2):Zz ta tr σ H R:=k
theorem i_nil {R:List V->Hp->Prop}(k:R [] H):ae1 σ H R:=k
theorem i_tup {ts:TA}(k:ts σ H fun xs H1=>Z2 xs H1 Q):ac9 ts σ H Q:=k
theorem i_lst {ts:TA}(k:ts σ H fun xs H1=>a53 xs H1 Q):ae2 ts σ H Q:=k
theorem At {xs:List V}(h:xs.length<=sizeLine)(k:∀ p H',H p=none->Same H H'->H' p=some (.tup xs)->Q (.ref p) H'):Z2 xs H Q:=⟨h,fun p hp=>k p _ hp (Same.upd hp) A9⟩
theorem B2 {xs:List V}(h:xs.length<=sizeLine)(k:∀ p H',H p=none->Same H H'->H' p=some (.lst xs)->Q (.ref p) H'):a53 xs H Q:=⟨h,fun p hp=>k p _ hp (Same.upd hp) A9⟩
theorem Zo (k:∀ p H',H p=none->Same H H'->H' p=some (.dK [])->Q (.ref p) H'):Vi σ H Q:=fun p hp=>k p _ hp (Same.upd hp) A9
theorem i_put {td ty tv:TE}(k:tv σ H fun v H1=>td σ H1 fun x H2=>ty σ H2 fun y H3=>∃ a H4,x = .ref a/\DPut H3 a y v H4/\D.nx σ H4):a50 td ty tv D σ H:=k
theorem Jh {a:Addr}{kvs:List (Key×V)}{z:Str}{R:Hp->Prop}(h:H a=some (.dK kvs))(hl:kvs.length<1000)(k:∀ H',ExtBut a H H'->H' a=some (.dK (Go kvs (Sum.inr z) v))->R H'):∃ b H4,V.ref a = .ref b/\DPut H b (.str z) v H4/\R H4:=
 ⟨a,_,rfl,DPut.k (k:=Sum.inr z) h (R7 (Nat.le_of_lt hl)),k _ ExtBut.upd A9⟩
theorem i_for {wi:TI}{g:TG}{tb:TS}(k:wi σ H fun J H1=>a34 g tb D σ J H1):ad4 wi g tb D σ H:=k
theorem i_comp {m:Nat}{js:List Nat}{wi:TI}{g:TG}{tt:TT}(k:wi σ H fun J H1=>Ki m js g tt te σ J H1 Q):Wm m js wi g tt te σ H Q:=k
theorem Je {a:Addr}{xs:List V}{R:It->Hp->Prop}(h:SqL K H a xs)(k:R (Itl K a) H):G1 K (.ref a) H R:=.inl ⟨a,rfl,⟨xs,h⟩,k⟩
theorem Gm {a:Addr}{xs:List V}{R:It->Hp->Prop}(h:SqT K H a xs)(k:R (Itt K a) H):G1 K (.ref a) H R:=.inr (.inl ⟨a,rfl,⟨xs,h⟩,k⟩)
theorem i_rng1 {ts:TA}{R:It->Hp->Prop}(k:ts σ H fun vs H1=>Yq vs H1 R):a46 ts σ H R:=k
theorem Ee {R:It->Hp->Prop}(h:-(2 ^ 62)<=i/\i<2 ^ 62)(k:R (Itr 0 i.toNat) H):Yq [V.int i] H R:=⟨i,rfl,h.1,h.2,k⟩
theorem i_rng2 {ts:TA}{R:It->Hp->Prop}(k:ts σ H fun vs H1=>Yz vs H1 R):a04 ts σ H R:=k
theorem Vt {R:It->Hp->Prop}(h:(-(2 ^ 62)<=i/\i<2 ^ 62) /\ -(2 ^ 62)<=j/\j<2 ^ 62)(k:R (Itr i (j-i).toNat) H):Yz [V.int i,V.int j] H R:=⟨i,j,rfl,⟨h.1.1,h.1.2,h.2.1,h.2.2⟩,k⟩
theorem i_iany {R:It->Hp->Prop}(k:te σ H fun x H1=>G1 K x H1 R):aa8 K te σ H R:=k
theorem Zv {trs:List (TE×TE)}(k:∀ p H1,H p=none->Same H H1->H1 p=some (.dK [])->Hv trs σ H1 fun ps H2=>Vg p ps H2 Q):Zy trs σ H Q:=fun p hp=>k p _ hp (Same.upd hp) A9
theorem i_pair {tk tv:TE}{r:List (TE×TE)}{R:List (V×V)->Hp->Prop}(k:tk σ H fun x H1=>tv σ H1 fun y H2=>Hv r σ H2 fun ps H3=>R ((x,y) :: ps) H3):Hv ((tk,tv) :: r) σ H R:=k
theorem Wr {p:Addr}{ps:List (V×V)}(kvs:List (Key×V))(h:H p=some (.dK []))(e:ps=kvs.map (fun kv=>(kV kv.1,kv.2)))(hl:kvs.length<=15)(k:∀ H',ExtBut p H H'->H' p=some (.dK (Df [] kvs))->Q (.ref p) H'):Vg p ps H Q:=⟨h,kvs,e,hl,k _ ExtBut.upd A9⟩
theorem i_pair0 {R:List (V×V)->Hp->Prop}(k:R [] H):Hv [] σ H R:=k
end
theorem Jc {c A B:Prop}[Decidable c](h1:c->A)(h2:¬ c->B):if decide c=true then A else B:=by
 by_cases h:c
 . rw[if_pos (decide_eq_true h)];exact h1 h
 rw[if_neg (by rw[decide_eq_false h];exact Bool.false_ne_true)];exact h2 h
theorem Yl {c A B:Prop}[Decidable c](h1:¬ c->A)(h2:c->B):if(!decide c)=true then A else B:=by
 by_cases h:c
 . rw[decide_eq_true h,if_neg (by decide)];exact h2 h
 rw[decide_eq_false h,if_pos (by decide)];exact h1 h
theorem ab1 {b:Bool}{A B:Prop}(h1:b=true->A)(h2:b=false->B):if b=true then A else B:=by
 cases b
 . rw[if_neg Bool.false_ne_true];exact h2 rfl
 rw[if_pos rfl];exact h1 rfl
theorem Q4 {b:Bool}{A B:Prop}(h1:b=false->A)(h2:b=true->B):if(!b)=true then A else B:=by
 cases b
 . exact h1 rfl
 exact h2 rfl
theorem iteNT {A B:Prop}(h:B):if(!true)=true then A else B:=h
theorem iteNF {A B:Prop}(h:A):if(!false)=true then A else B:=h
theorem A6 {n:Nat}(h:n<=1000000):n<=sizeLine:=by rw[sizeLine_eq];omega
def Ek (J:It)(xs:List V)(G:Hp->Prop):Prop:=
 ∀ i H,G H->(i<xs.length->J.go i H)/\(xs.length<=i->J.stop i H)/\∀ x H',i<xs.length->J.yld i H x H'->H'=H/\xs[i]? = some x
theorem Bu {K:PySem.W.Frag}{a:Addr}{xs:List V}:Ek (Itl K a) xs fun H=>SqL K H a xs:=by
 intro i H g
 refine⟨fun h=>⟨xs,xs[i],g,List.getElem?_eq_getElem h⟩,fun h=>⟨xs,g,h⟩,fun x H' _ h=>⟨h.1,h.2 xs g⟩⟩
theorem Bw {K:PySem.W.Frag}{a:Addr}{xs:List V}:Ek (Itt K a) xs fun H=>SqT K H a xs:=by
 intro i H g
 refine⟨fun h=>⟨xs,xs[i],g,List.getElem?_eq_getElem h⟩,fun h=>⟨xs,g,h⟩,fun x H' _ h=>⟨h.1,h.2 xs g⟩⟩
theorem Ax {lo:Int}{n:Nat}:Ek (Itr lo n) ((List.range n).map fun(i:Nat)=>V.int (lo+(i:Int))) fun _=>True:=by
 intro i H _
 refine⟨fun h=>?_,fun h=>?_,fun x H' hi h=>?_⟩
 . show i<n
   simpa using h
 . show n<=i
   simpa using h
 obtain⟨e,hx⟩:=h
 refine⟨e,?_⟩
 have hi':i<n:=by simpa using hi
 rw[List.getElem?_map,List.getElem?_range hi',hx]
 rfl
theorem Ue {J:It}{xs:List V}{G:Hp->Prop}{g:TG}{tb:TS}{D:Ends}{σ:St}{H:Hp}(hw:Ek J xs G)(Pv:Nat->St->Hp->Prop)(h0:Pv 0 σ H)(hG:∀ i σ H,Pv i σ H->G H)
  (hs:∀ i x σ H,xs[i]? = some x->Pv i σ H->g x σ H fun σ2 H2=>tb { D with nx:=Pv (i+1),ct:=Pv (i+1),bk:=D.nx } σ2 H2) (hd:∀ σ H,Pv xs.length σ H->D.nx σ H) :
  ∃ W:Nat->Nat->St->Hp->Prop,(∃ m,W 0 m σ H)/\∀ i m σ H,W i m σ H ->
   (J.stop i H/\D.nx σ H)\/(J.go i H/\∃ N:St->Hp->Prop,(∀ σ' H',N σ' H'->∃ m',m'<m/\W (i+1) m' σ' H')/\∀ x H',J.yld i H x H'->g x σ H' fun σ2 H2=>tb { D with nx:=N,ct:=N,bk:=D.nx } σ2 H2):=by
 refine⟨fun i m σ H=>m=xs.length-i/\i<=xs.length/\Pv i σ H,⟨xs.length,by simp,Nat.zero_le _,h0⟩,?_⟩
 rintro i m σ H ⟨rfl,hi,p⟩
 obtain⟨w1,w2,w3⟩:=hw i H (hG i σ H p)
 by_cases hlt:i<xs.length
 . refine .inr ⟨w1 hlt,Pv (i+1),fun σ' H' p'=>⟨xs.length-(i+1),by omega,rfl,hlt,p'⟩,fun x H' y=>?_⟩
   obtain⟨e,hx⟩:=w3 x H' hlt y
   subst e
   exact hs i x σ _ hx p
 have e:i=xs.length:=by omega
 subst e
 exact .inl ⟨w2 (Nat.le_refl _),hd σ H p⟩
def CN (p:Addr)(n:Nat)(Pv:Nat->List V->Hp->Prop)(i:Nat):Hp->Prop:=fun H'=>i+1<=n/\∃ acc,H' p=some (.lst acc)/\acc.length<=i+1/\Pv (i+1) acc H'
theorem Xu {p:Addr}{n:Nat}{Pv:Nat->List V->Hp->Prop}{i:Nat}{H:Hp}{acc:List V}{y:V}(hn:n<=1000000)(hi:i<n)(hl:acc.length<=i)(e:H p=some (.lst acc))(k:∀ H',ExtBut p H H'->H' p=some (.lst (acc++[y]))->Pv (i+1) (acc++[y]) H') :
  ∃ acc,H p=some (.lst acc)/\acc.length<sizeLine/\CN p n Pv i (upd H p (.lst (acc++[y]))):=
 ⟨acc,e,by rw[sizeLine_eq];omega,hi,acc++[y],A9,by rw[List.length_append,List.length_singleton];omega,k _ ExtBut.upd A9⟩
theorem Nt {p:Addr}{n:Nat}{Pv:Nat->List V->Hp->Prop}{i:Nat}{H:Hp}{acc:List V}(hi:i<n)(hl:acc.length<=i)(e:H p=some (.lst acc))(k:Pv (i+1) acc H):CN p n Pv i H:=⟨hi,acc,e,by omega,k⟩
theorem Si {J:It}{xs:List V}{G:Hp->Prop}{g:TG}{tt:TT}{te:TE}{σ:St}{H:Hp}{Q:VK}{p:Addr}{k:Nat}{js:List Nat}(hw:Ek J xs G)(hp:H p=none)(Pv:Nat->List V->Hp->Prop)
  (h0:∀ H',Same H H'->H' p=some (.lst [])->Pv 0 [] H') (hG:∀ i acc H,Pv i acc H->G H)
  (hs:∀ i x acc H,xs[i]? = some x->i<xs.length->acc.length<=i->H p=some (.lst acc)->Pv i acc H->g x (List.replicate k none++Kw σ js) H fun σ2 H2=>tt σ2 H2 fun b H3=>
   if b=true then te σ2 H3 fun y H4=>∃ acc,H4 p=some (.lst acc)/\acc.length<sizeLine/\CN p xs.length Pv i (upd H4 p (.lst (acc++[y]))) else CN p xs.length Pv i H3)
  (hd:∀ acc H,H p=some (.lst acc)->acc.length<=xs.length->Pv xs.length acc H->Q (.ref p) H) :
  ∃ W:Nat->Nat->Hp->Prop,(∃ m,W 0 m (upd H p (.lst [])))/\∀ i m H,W i m H ->
   (J.stop i H/\Q (.ref p) H)\/(J.go i H/\∃ N:Hp->Prop,(∀ H',N H'->∃ m',m'<m/\W (i+1) m' H') /\
    ∀ x H',J.yld i H x H'->g x (List.replicate k none++Kw σ js) H' fun σ2 H2=>tt σ2 H2 fun b H3=>
     if b=true then te σ2 H3 fun y H4=>∃ acc,H4 p=some (.lst acc)/\acc.length<sizeLine/\N (upd H4 p (.lst (acc++[y]))) else N H3):=by
 refine⟨fun i m H=>m=xs.length-i/\i<=xs.length/\∃ acc,H p=some (.lst acc)/\acc.length<=i/\Pv i acc H,⟨xs.length,by simp,Nat.zero_le _,[],A9,Nat.le_refl _,h0 _ (Same.upd hp) A9⟩,?_⟩
 rintro i m H ⟨rfl,hi,acc,hacc,hl,q⟩
 obtain⟨w1,w2,w3⟩:=hw i H (hG i acc H q)
 by_cases hlt:i<xs.length
 . refine .inr ⟨w1 hlt,CN p xs.length Pv i,fun H' ⟨h1,h2⟩=>⟨xs.length-(i+1),by omega,rfl,h1,h2⟩,fun x H' y=>?_⟩
   obtain⟨e,hx⟩:=w3 x H' hlt y
   subst e
   exact hs i x acc _ hx hlt hl hacc q
 have e:i=xs.length:=by omega
 subst e
 exact .inl ⟨w2 (Nat.le_refl _),hd acc H hacc hl q⟩
def Z3 (p:Addr)(N:Hp->Prop):VK:=fun y H4=>∃ acc,H4 p=some (.lst acc)/\acc.length<sizeLine/\N (upd H4 p (.lst (acc++[y])))
theorem Hy {J:It}{xs:List V}{G:Hp->Prop}{g:TG}{tt:TT}{te:TE}{σ:St}{H:Hp}{Q:VK}{k:Nat}{js:List Nat}(hw:Ek J xs G)(Pv:Addr->Nat->List V->Hp->Prop)
  (h0:∀ p H',H p=none->Same H H'->H' p=some (.lst [])->Pv p 0 [] H') (hG:∀ p i acc H,Pv p i acc H->G H)
  (hs:∀ p i x acc H1,H p=none->xs[i]? = some x->i<xs.length->acc.length<=i->H1 p=some (.lst acc)->Pv p i acc H1->g x (List.replicate k none++Kw σ js) H1 fun σ2 H2=>tt σ2 H2 fun b H3=>
   if b=true then te σ2 H3 (Z3 p (CN p xs.length (Pv p) i)) else CN p xs.length (Pv p) i H3)
  (hd:∀ p acc H1,H p=none->H1 p=some (.lst acc)->acc.length<=xs.length->Pv p xs.length acc H1->Q (.ref p) H1):Ki k js g tt te σ J H Q:=fun p hp=>
 Si hw hp (Pv p) (fun H' e h=>h0 p H' hp e h) (hG p) (fun i x acc H1 h1 h2 h3 h4 h5=>hs p i x acc H1 hp h1 h2 h3 h4 h5) fun acc H1 h1 h2 h3=>hd p acc H1 hp h1 h2 h3
theorem Lk {p:Addr}{n:Nat}{Pv:Nat->List V->Hp->Prop}{i:Nat}{H:Hp}{acc:List V}{y:V}(hn:n<=1000000)(hi:i<n)(hl:acc.length<=i)(e:H p=some (.lst acc))(k:∀ H',ExtBut p H H'->H' p=some (.lst (acc++[y]))->Pv (i+1) (acc++[y]) H') :
  Z3 p (CN p n Pv i) y H:=Xu hn hi hl e k
theorem Rc {J:It}{xs:List V}{G:Hp->Prop}{g:TG}{tt:TT}{te:TE}{σ:St}{H:Hp}{Q:VK}{k:Nat}{js:List Nat}(hw:Ek J xs G)(t:V->Bool)(f:V->V)(hz:xs.length<=1000000)(hG:∀ H',Same H H'->G H')
  (hs:∀(i:Nat) x H1 (R:VK) (R':Hp->Prop),xs[i]? = some x->Same H H1->(t x=true->R (f x) H1)->(t x=false->R' H1)->g x (List.replicate k none++Kw σ js) H1 fun σ2 H2=>tt σ2 H2 fun b H3=>if b=true then te σ2 H3 R else R' H3)
  (hd:∀ p H',H p=none->Same H H'->H' p=some (.lst ((xs.filter t).map f))->Q (.ref p) H'):Ki k js g tt te σ J H Q:=by
 refine Hy hw (fun p i acc H1=>Same H H1/\acc=((xs.take i).filter t).map f) (fun p H' hp e h=>⟨e,by simp⟩) (fun p i acc H1 h=>hG H1 h.1) (fun p i x acc H1 hp hx hi hl ha ⟨e,hacc⟩=>?_) fun p acc H1 hp ha hl ⟨e,hacc⟩=>?_
 . have ht:xs.take (i+1)=xs.take i++[x]:=by rw[List.take_add_one,hx];rfl
   refine hs i x H1 _ _ hx e (fun h=>?_) fun h=>?_
   . refine Lk hz hi hl ha fun H' e' h'=>⟨fun b o hb=>e' b o (ne_of_none hb hp) (e b o hb),?_⟩
     rw[ht,List.filter_append,List.map_append,hacc]
     simp[h]
   refine Nt hi hl ha ⟨e,?_⟩
   rw[ht,List.filter_append,List.map_append,hacc]
   simp[h]
 refine hd p H1 hp e ?_
 rw[ha,hacc,List.take_length]
theorem Bm {α:Type}(xs:List α):xs.filter (fun _=>true)=xs:=by simp
theorem Gx {J:It}{xs:List V}{G:Hp->Prop}{g:TG}{te:TE}{σ:St}{H:Hp}{Q:VK}{k:Nat}{js:List Nat}(hw:Ek J xs G)(f:V->V)(hz:xs.length<=1000000)(hG:∀ H',Same H H'->G H')
  (hs:∀(i:Nat) x H1 (R:VK),xs[i]? = some x->Same H H1->R (f x) H1->g x (List.replicate k none++Kw σ js) H1 fun σ2 H2=>te σ2 H2 R)
  (hd:∀ p H',H p=none->Same H H'->H' p=some (.lst (xs.map f))->Q (.ref p) H'):Ki k js g Sg te σ J H Q:=
 Rc hw (fun _=>true) f hz hG (fun i x H1 R R' hx e h _=>by
  have:=hs i x H1 R hx e (h rfl)
  show g x _ H1 fun σ2 H2=>if true=true then te σ2 H2 R else R' H2
  simpa using this) fun p H' hp e h=>hd p H' hp e (by rw[h,Bm])
theorem D4 {J:It}{xs:List V}{G:Hp->Prop}{g:TG}{tb:TS}{D:Ends}{σ:St}{H:Hp}(hw:Ek J xs G)(Pv:Nat->St->Hp->Prop)(h0:Pv 0 σ H)(hG:∀ i σ H,Pv i σ H->G H)
  (hs:∀ i x σ H,xs[i]? = some x->i<xs.length->Pv i σ H->g x σ H fun σ2 H2=>tb { D with nx:=Pv (i+1),ct:=Pv (i+1),bk:=D.nx } σ2 H2) (hd:∀ σ H,Pv xs.length σ H->D.nx σ H):a34 g tb D σ J H:=
 Ue hw Pv h0 hG (fun i x σ H hx=>hs i x σ H hx (List.getElem?_eq_some_iff.mp hx).1) hd
section
variable {X:Cx}{K:PySem.W.Frag}
theorem Ac (hK:X.K=K:=by ac_nf):OpR X (binaryOp .Add) (Pt K):=hK ▸ Wf
theorem Bt (hq:QA X.A)(hK:X.K=K:=by ac_nf):OpR X (compareOp .Eq) (a82 K):=hK ▸ a69 hq
theorem Id (hq:QA X.A)(hK:X.K=K:=by ac_nf):OpR X (compareOp .NotEq) (a81 K):=hK ▸ Yr hq
theorem Eh (hq:QA X.A)(hK:X.K=K:=by ac_nf):OpR X (compareOp .In) (Q6 K false):=hK ▸ a72 hq
theorem Eg (hq:QA X.A)(hK:X.K=K:=by ac_nf):OpR X (compareOp .NotIn) (Q6 K true):=hK ▸ Rk hq
theorem A8 (hu:X.A.units+1<cLine)(hK:X.K=K:=by ac_nf):IxR X (N6 K):=hK ▸ Zf hu
theorem K4 (hK:X.K=K:=by ac_nf):SlR X (Zr K):=hK ▸ sl_A
theorem Ah (hK:X.K=K:=by ac_nf):CallR X (.builtin "len") (Pg K):=hK ▸ Rm
theorem Aw (hK:X.K=K:=by ac_nf):CallR X (.builtin "isinstance") (Ej K):=hK ▸ Lv
theorem Dt (hK:X.K=K:=by ac_nf):CallR X (.type "list") (On K):=hK ▸ Qb
theorem Bk (hK:X.K=K:=by ac_nf):CallR X (.type "tuple") (Kz K):=hK ▸ O4
theorem Lf (hc:X.calm=true)(hK:X.K=K:=by ac_nf):CallR X (.builtin "all") (X2 K):=hK ▸ Qn hc
theorem Qv (hc:X.calm=true)(hK:X.K=K:=by ac_nf):CallR X (.builtin "any") (X4 K):=hK ▸ Ra hc
theorem Aj {tg:Expr}(hu:X.A.units+1<cLine){l:Expr}{tl:TE}(hl:PE X l tl)(hK:X.K=K:=by ac_nf):PI X tg l (aa8 K tl):=hK ▸ a48 hu hl
theorem Rq {es:List Expr}{k:Nat}{t:TGs}{n:Nat}{pos:Pos}(hc:X.calm=true)(h:PGs X es t)(hK:X.K=K:=by ac_nf)
  (hn:(assignEach es X.env).length=n:=by ac_nf) (hst:(assignEach es X.env).findIdx? (·.1)=none:=by ac_nf):PG X (.Tuple es k pos) (Zc K n t):=hK ▸ a63 hc h hn hst
variable {o e:Expr}{es:List Expr}{to:TE}{t:TA}{name:Str}{apos cpos:Pos}{T id:String}{r:V->List V->Hp->VK->Prop}
theorem Qy (pa:PlainAttrs T)(slot:Slot T name id)(hty:typeOf (.builtin id)=pure (.type "method_descriptor"))(hm:MtR X id r)(ho:PE X o to)(hK:X.K=K:=by ac_nf)
  (hbase:attributeBase o name X.env (eval o X.env)=eval o X.env:=by ac_nf) (hline:(apos.endLine==cpos.line)=true:=by ac_nf):PE X (.Call (.Attribute o name apos) [] [] cpos) (a97 K T r to):=hK ▸ Zh pa slot hty hm ho hbase hline
theorem Dn (pa:PlainAttrs T)(slot:Slot T name id)(hty:typeOf (.builtin id)=pure (.type "method_descriptor"))(hm:MtR X id r)(ho:PE X o to)(ha:PA X (e :: es) t)(hK:X.K=K:=by ac_nf)
  (hbase:attributeBase o name X.env (eval o X.env)=eval o X.env:=by ac_nf)
  (hfew:((backTo cpos (starEach (e :: es) X.env)).all (fun x=>!x.1)&&(backToKw cpos (keywordEach [] X.env)).all (fun x=>x.1.isSome)
   && decide ((e :: es).length+([]:List Keyword).length+(if([]:List Keyword).isEmpty then 0 else 1)<30))=true:=by ac_nf)
  (hline:(apos.endLine==cpos.line)=true:=by ac_nf) (hs:starEach (e :: es) X.env=(false,eval e X.env) :: starEach es X.env:=by ac_nf) (hplain:(backTo cpos (starEach es X.env)).any (·.1)=false:=by ac_nf) :
  PE X (.Call (.Attribute o name apos) (e :: es) [] cpos) (tBM K T r to t):=hK ▸ aa9 pa slot hty hm ho ha hbase hfew hline hs hplain
end
def Fz (H H':Hp):Prop:=∀ a xs,Rd H a (.tup xs)->Rd H' a (.tup xs)
theorem Fz.refl (H:Hp):Fz H H:=fun _ _ h=>h
theorem Fz.trans {H H1 H2:Hp}(a:Fz H H1)(b:Fz H1 H2):Fz H H2:=fun c xs h=>b c xs (a c xs h)
theorem Same.fz {H H':Hp}(e:Same H H'):Fz H H':=fun a xs h=>by
 rcases h with h | ⟨o,h⟩
 . exact .inl (e _ _ h)
 exact .inr ⟨o,e _ _ h⟩
theorem Ve {p:Addr}{H H':Hp}(e:ExtBut p H H')(hp:∀ xs,¬ Rd H p (.tup xs)):Fz H H':=fun a xs h=>by
 have n:a≠p:=fun q=>hp xs (q ▸ h)
 rcases h with h | ⟨o,h⟩
 . exact .inl (e _ _ n h)
 exact .inr ⟨o,e _ _ n h⟩
theorem ExtBut.fzL {p:Addr}{H H':Hp}{l:List V}(e:ExtBut p H H')(hp:H p=some (.lst l)):Fz H H':=Ve e fun xs h=>by
 rcases h with h | ⟨o,h⟩
 . rw[hp] at h;cases h
 rw[hp] at h;cases h
theorem ExtBut.fzD {p:Addr}{H H':Hp}{l:List (Key×V)}(e:ExtBut p H H')(hp:H p=some (.dK l)):Fz H H':=Ve e fun xs h=>by
 rcases h with h | ⟨o,h⟩
 . rw[hp] at h;cases h
 rw[hp] at h;cases h
theorem Fz.seq {K:PySem.W.Frag}{H H':Hp}(e:Fz H H'){a:Addr}{xs:List V}(h:SqT K H a xs):SqT K H' a xs:=by
 rcases h with h | h
 . exact .inl (e _ _ h)
 exact .inr h
mutual
def frz:PyData->Bool
 | .tuple ds=>P5 ds
 | .list _=>false
 | .dict _=>false
 | _=>true
def P5:List PyData->Bool
 | []=>true
 | d :: ds=>frz d&&P5 ds
end
mutual
theorem Is.fz {K:PySem.W.Frag}{H H':Hp}(e:Fz H H'):∀(d:PyData) (v:V),frz d=true->Is K H d v->Is K H' d v
 | .none,_,_,h=>by simp only[Is] at h ⊢;exact h
 | .bool _,_,_,h=>by simp only[Is] at h ⊢;exact h
 | .int _,_,_,h=>by simp only[Is] at h ⊢;exact h
 | .str _,_,_,h=>by simp only[Is] at h ⊢;exact h
 | .list ds,v,hf,_=>by simp[frz] at hf
 | .tuple ds,v,hf,h=>by
   simp only[Is] at h ⊢
   obtain⟨a,xs,e1,e2,e3⟩:=h
   exact⟨a,xs,e1,e.seq e2,IsL.fz e ds xs (by simpa only[frz] using hf) e3⟩
 | .dict _,_,_,h=>by simp only[Is] at h
theorem IsL.fz {K:PySem.W.Frag}{H H':Hp}(e:Fz H H'):∀(ds:List PyData) (vs:List V),P5 ds=true->IsL K H ds vs->IsL K H' ds vs
 | [],_,_,h=>by simp only[IsL] at h ⊢;exact h
 | d :: ds,vs,hf,h=>by
   simp only[IsL] at h ⊢
   simp only[P5,Bool.and_eq_true] at hf
   obtain⟨v,r,e1,e2,e3⟩:=h
   exact⟨v,r,e1,Is.fz e d v hf.1 e2,IsL.fz e ds r hf.2 e3⟩
end
section
variable {K:PySem.W.Frag}{H H':Hp}
theorem IsL.length:∀ {ds:List PyData} {vs:List V},IsL K H ds vs->ds.length=vs.length
 | [],_,h=>by simp only[IsL] at h;subst h;rfl
 | d :: ds,vs,h=>by
   simp only[IsL] at h
   obtain⟨v,r,rfl,_,e3⟩:=h
   simp only[List.length_cons,IsL.length e3]
theorem IsL.get:∀ {ds:List PyData} {vs:List V} {i:Nat} {x:V},IsL K H ds vs->vs[i]? = some x->∃ d,ds[i]? = some d/\Is K H d x
 | [],_,_,_,h,e=>by simp only[IsL] at h;subst h;simp at e
 | d :: ds,vs,i,x,h,e=>by
   simp only[IsL] at h
   obtain⟨v,r,rfl,e2,e3⟩:=h
   cases i with
   | zero=>simp at e;subst e;exact⟨d,rfl,e2⟩
   | succ i=>
     obtain⟨d',h1,h2⟩:=IsL.get (i:=i) e3 (by simpa using e)
     exact⟨d',by simpa using h1,h2⟩
theorem IsL.append:∀ {ds es:List PyData} {vs us:List V},IsL K H ds vs->IsL K H es us->IsL K H (ds++es) (vs++us)
 | [],_,_,_,h,g=>by simp only[IsL] at h;subst h;exact g
 | d :: ds,es,vs,us,h,g=>by
   simp only[IsL] at h
   obtain⟨v,r,rfl,e2,e3⟩:=h
   simp only[List.cons_append,IsL]
   exact⟨v,_,rfl,e2,IsL.append e3 g⟩
theorem IsL.one {d:PyData}{v:V}(h:Is K H d v):IsL K H [d] [v]:=by simp only[IsL];exact⟨v,[],rfl,h,rfl⟩
theorem IsL.nil:IsL K H [] []:=by simp only[IsL]
theorem IsL.cons {d:PyData} {v:V} {ds:List PyData} {vs:List V} (h:Is K H d v) (g:IsL K H ds vs):IsL K H (d :: ds) (v :: vs):=by simp only[IsL];exact⟨v,vs,rfl,h,g⟩
theorem IsL.take:∀ {ds:List PyData} {vs:List V} (n:Nat),IsL K H ds vs->IsL K H (ds.take n) (vs.take n)
 | ds,vs,0,h=>by simp only[List.take_zero];exact .nil
 | [],vs,n+1,h=>by simp only[IsL] at h;subst h;exact .nil
 | d :: ds,vs,n+1,h=>by
   simp only[IsL] at h
   obtain⟨v,r,rfl,e2,e3⟩:=h
   exact .cons e2 (IsL.take n e3)
theorem IsL.drop:∀ {ds:List PyData} {vs:List V} (n:Nat),IsL K H ds vs->IsL K H (ds.drop n) (vs.drop n)
 | ds,vs,0,h=>h
 | [],vs,n+1,h=>by simp only[IsL] at h;subst h;exact .nil
 | d :: ds,vs,n+1,h=>by
   simp only[IsL] at h
   obtain⟨v,r,rfl,e2,e3⟩:=h
   exact IsL.drop n e3
theorem IsL.str_eq:∀ {ns:List Str} {vs:List V},IsL K H (ns.map PyData.str) vs->vs=ns.map V.str
 | [],vs,h=>by simp only[List.map_nil,IsL] at h;exact h
 | n :: ns,vs,h=>by
   simp only[List.map_cons,IsL,Is] at h
   obtain⟨v,r,rfl,rfl,e3⟩:=h
   rw[IsL.str_eq e3]
   rfl
theorem Is.tup {ds:List PyData}{v:V}(h:Is K H (.tuple ds) v):∃ a xs,v = .ref a/\SqT K H a xs/\IsL K H ds xs:=by simpa only[Is] using h
theorem Is.of_tup {ds:List PyData}{a:Addr}{xs:List V}(h:SqT K H a xs)(g:IsL K H ds xs):Is K H (.tuple ds) (.ref a):=by simp only[Is];exact⟨a,xs,rfl,h,g⟩
theorem Is.of_lst {ds:List PyData}{a:Addr}{xs:List V}(h:SqL K H a xs)(g:IsL K H ds xs):Is K H (.list ds) (.ref a):=by simp only[Is];exact⟨a,xs,rfl,h,g⟩
theorem Is.str {z:Str}{v:V}(h:Is K H (.str z) v):v = .str z:=by simpa only[Is] using h
theorem Bi {z:Str}:Is K H (.str z) (.str z):=by simp only[Is]
theorem Fv {z:Int}:Is K H (.int z) (.int z):=by simp only[Is]
theorem Wk {z:Bool}:Is K H (.bool z) (.bl z):=by simp only[Is]
end
def nmD (ns:List Str):PyData:=.tuple (ns.map PyData.str)
def prD (p:Str×Str):PyData:=.tuple [.str p.1,.str p.2]
def psD (ps:List (Str×Str)):PyData:=.tuple (ps.map prD)
def hfD (ns:List Str)(ps:List (Str×Str)):PyData:=.tuple [nmD ns,psD ps]
theorem J3:∀ ns:List Str,P5 (ns.map PyData.str)=true
 | []=>rfl
 | n :: ns=>by simp only[List.map_cons,P5,frz,J3 ns,Bool.and_self]
theorem P7 (ns:List Str):frz (nmD ns)=true:=by simp only[nmD,frz,J3]
theorem M6 (p:Str×Str):frz (prD p)=true:=by simp[prD,frz,P5]
theorem Cs:∀ ps:List (Str×Str),P5 (ps.map prD)=true
 | []=>rfl
 | n :: ns=>by simp only[List.map_cons,P5,M6,Cs ns,Bool.and_self]
theorem Vl (ps:List (Str×Str)):frz (psD ps)=true:=by simp only[psD,frz,Cs]
theorem Yp (ns:List Str)(ps:List (Str×Str)):frz (hfD ns ps)=true:=by simp only[hfD,frz,P5,P7,Vl,Bool.and_self]
section
variable {K:PySem.W.Frag}{H H':Hp}
theorem Is.nm {ns:List Str}{v:V}(h:Is K H (nmD ns) v):∃ a,v = .ref a/\SqT K H a (ns.map V.str):=by
 obtain⟨a,xs,rfl,h1,h2⟩:=Is.tup h
 exact⟨a,rfl,by rw[<- IsL.str_eq h2];exact h1⟩
theorem J0 {ns:List Str}{a:Addr}(h:SqT K H a (ns.map V.str)):Is K H (nmD ns) (.ref a):=Is.of_tup h (E6 ns)
theorem Is.pr {p:Str×Str}{v:V}(h:Is K H (prD p) v):∃ a,v = .ref a/\SqT K H a [.str p.1,.str p.2]:=by
 obtain⟨a,xs,rfl,h1,h2⟩:=Is.tup h
 simp only[IsL,Is] at h2
 obtain⟨_,_,rfl,rfl,_,_,rfl,rfl,rfl⟩:=h2
 exact⟨a,rfl,h1⟩
theorem V0 {x y:Str}{a:Addr}(h:SqT K H a [.str x,.str y]):Is K H (prD (x,y)) (.ref a):=Is.of_tup h (.cons Bi (.one Bi))
theorem Is.hf {ns:List Str}{ps:List (Str×Str)}{v:V}(h:Is K H (hfD ns ps) v):∃ a x y,v = .ref a/\SqT K H a [x,y]/\Is K H (nmD ns) x/\Is K H (psD ps) y:=by
 obtain⟨a,xs,rfl,h1,h2⟩:=Is.tup h
 simp only[IsL] at h2
 obtain⟨x,_,rfl,hx,y,_,rfl,hy,rfl⟩:=h2
 exact⟨a,x,y,rfl,h1,hx,hy⟩
theorem Xh {ns:List Str}{ps:List (Str×Str)}{a:Addr}{x y:V}(h:SqT K H a [x,y])(hx:Is K H (nmD ns) x)(hy:Is K H (psD ps) y):Is K H (hfD ns ps) (.ref a):=Is.of_tup h (.cons hx (.one hy))
theorem Is.nm_fz {ns:List Str}{v:V}(h:Is K H (nmD ns) v)(e:Fz H H'):Is K H' (nmD ns) v:=Is.fz e _ _ (P7 ns) h
theorem Is.pr_fz {p:Str×Str}{v:V}(h:Is K H (prD p) v)(e:Fz H H'):Is K H' (prD p) v:=Is.fz e _ _ (M6 p) h
theorem Is.ps_fz {ps:List (Str×Str)}{v:V}(h:Is K H (psD ps) v)(e:Fz H H'):Is K H' (psD ps) v:=Is.fz e _ _ (Vl ps) h
theorem Is.hf_fz {ns:List Str}{ps:List (Str×Str)}{v:V}(h:Is K H (hfD ns ps) v)(e:Fz H H'):Is K H' (hfD ns ps) v:=Is.fz e _ _ (Yp ns ps) h
variable {σ:St}{Q:VK}{x v:V}{i:Int}
theorem Q2 {a:Addr}{xs:List V}(h:SqT K H a xs)(e:atI xs i=some v)(k:Q v H):N6 K (.ref a) (.int i) H Q:=.inl (.inr (.inl ⟨a,xs,i,v,rfl,rfl,h,e,k⟩))
theorem Wj {ns:List Str}{z:Str}(h:Is K H (nmD ns) x)(e:atI ns i=some z)(k:Q (.str z) H):N6 K x (.int i) H Q:=by
 obtain⟨a,rfl,h1⟩:=h.nm
 refine Q2 h1 ?_ k
 unfold atI at e ⊢
 rw[List.length_map]
 cases hj:ixN ns.length i with
 | none=>rw[hj] at e;cases e
 | some j=>
   rw[hj] at e
   show(ns.map V.str)[j]? = _
   rw[List.getElem?_map,show ns[j]? = some z from e]
   rfl
theorem Do {ns:List Str}{ps:List (Str×Str)}(h:Is K H (hfD ns ps) x)(k:∀ v,Is K H (nmD ns) v->Q v H):N6 K x (.int 0) H Q:=by
 obtain⟨a,u,w,rfl,h1,h2,h3⟩:=h.hf
 exact Q2 h1 rfl (k u h2)
theorem Vo {ns:List Str}{ps:List (Str×Str)}(h:Is K H (hfD ns ps) x)(k:∀ v,Is K H (psD ps) v->Q v H):N6 K x (.int 1) H Q:=by
 obtain⟨a,u,w,rfl,h1,h2,h3⟩:=h.hf
 exact Q2 h1 rfl (k w h3)
theorem Yx {p:Str×Str}(h:Is K H (prD p) x)(k:Q (.str p.1) H):N6 K x (.int 0) H Q:=by
 obtain⟨a,rfl,h1⟩:=h.pr
 exact Q2 h1 rfl k
theorem a37 {p:Str×Str}(h:Is K H (prD p) x)(k:Q (.str p.2) H):N6 K x (.int 1) H Q:=by
 obtain⟨a,rfl,h1⟩:=h.pr
 exact Q2 h1 rfl k
theorem a02 {ds:List PyData}(h:Is K H (.tuple ds) x)(k:Q (.int ds.length) H):Pg K [x] H Q:=by
 obtain⟨a,xs,rfl,h1,h2⟩:=h.tup
 rw[IsL.length h2] at k
 exact .inl ⟨.ref a,_,rfl,.inr ⟨xs,h1,rfl⟩,k⟩
theorem Fd {ns:List Str}(h:Is K H (nmD ns) x)(k:Q (.int ns.length) H):Pg K [x] H Q:=a02 h (by rw[List.length_map];exact k)
theorem Ie (ns:List Str):(ns.map V.str).all Ko=true:=by
 rw[List.all_eq_true]
 intro v h
 obtain ⟨n,_,rfl⟩:=List.mem_map.mp h
 rfl
theorem Hj (z:Str):∀ ns:List Str,inV (.str z) (ns.map V.str)=decide (z∈ns)
 | []=>rfl
 | n :: ns=>by
   have ih:=Hj z ns
   unfold inV at ih ⊢
   rw[List.map_cons,List.any_cons,ih]
   have e:eqV (V.str n) (V.str z)=decide (n=z):=by
    show(n==z)=_
    by_cases h:n=z<;>simp[h]
   rw[e]
   by_cases h:n=z
   . subst h
     simp
   have h':¬ z=n:=fun q=>h q.symm
   by_cases g:z∈ns<;>simp[h,h',g]
theorem Ob {ns:List Str}{z:Str}{a:Addr}(h:SqL K H a (ns.map V.str))(k:Q (.bl (decide (z∈ns))) H):Q6 K false (.str z) (.ref a) H Q:=
 .inl ⟨a,_,rfl,.inl h,rfl,Ie ns,by rw[Hj];exact k⟩
theorem a36 {ns:List Str}{z:Str}(h:Is K H (nmD ns) x)(k:Q (.bl (!decide (z∈ns))) H):Q6 K true (.str z) x H Q:=by
 obtain⟨a,rfl,h1⟩:=h.nm
 exact .inl ⟨a,_,rfl,.inr h1,rfl,Ie ns,by rw[Hj];exact k⟩
theorem No {ns:List Str}{z:Str}{a:Addr}(h:SqL K H a (ns.map V.str))(k:Q (.bl (!decide (z∈ns))) H):Q6 K true (.str z) (.ref a) H Q:=
 .inl ⟨a,_,rfl,.inl h,rfl,Ie ns,by rw[Hj];exact k⟩
theorem X1 {p:Str×Str}{n m:Nat}{R:St->Hp->Prop}(h:Is K H (prD p) x)(k:R ((σ.set n (some (.str p.1))).set m (some (.str p.2))) H):Zc K 2 (Py (Hk n) (Py (Hk m) a84)) x σ H R:=by
 obtain⟨a,rfl,h1⟩:=h.pr
 exact⟨a,_,rfl,h1,rfl,.str p.1,[.str p.2],rfl,.str p.2,[],rfl,rfl,k⟩
theorem M5 {ds:List PyData}{g:TG}{tb:TS}{D:Ends}(h:Is K H (.tuple ds) x)(hf:P5 ds=true)(Pv:Nat->St->Hp->Prop)(h0:Pv 0 σ H)(hG:∀ i σ' H',Pv i σ' H'->Fz H H')
  (hs:∀ i d v σ' H',ds[i]? = some d->Is K H' d v->Pv i σ' H'->g v σ' H' fun σ2 H2=>tb { D with nx:=Pv (i+1),ct:=Pv (i+1),bk:=D.nx } σ2 H2) (hd:∀ σ' H',Pv ds.length σ' H'->D.nx σ' H') :
  G1 K x H fun J H1=>a34 g tb D σ J H1:=by
 obtain⟨a,xs,rfl,h1,h2⟩:=h.tup
 refine Gm h1 (D4 Bw Pv h0 (fun i σ' H' p=>(hG i σ' H' p).seq h1) (fun i v σ' H' hx hi p=>?_) fun σ' H' p=>hd σ' H' (by rw[IsL.length h2];exact p))
 obtain⟨d,e1,e2⟩:=IsL.get (IsL.fz (hG i σ' H' p) ds xs hf h2) hx
 exact hs i d v σ' H' e1 e2 p
theorem Qg {ns:List Str}{g:TG}{tb:TS}{D:Ends}(h:Is K H (nmD ns) x)(Pv:Nat->St->Hp->Prop)(h0:Pv 0 σ H)(hG:∀ i σ' H',Pv i σ' H'->Fz H H')
  (hs:∀ i z σ' H',ns[i]? = some z->Pv i σ' H'->g (.str z) σ' H' fun σ2 H2=>tb { D with nx:=Pv (i+1),ct:=Pv (i+1),bk:=D.nx } σ2 H2) (hd:∀ σ' H',Pv ns.length σ' H'->D.nx σ' H') :
  G1 K x H fun J H1=>a34 g tb D σ J H1:=
 M5 h (J3 ns) Pv h0 hG (fun i d v σ' H' e h p=>by
  rw[List.getElem?_map] at e
  cases hn:ns[i]? with
  | none=>rw[hn] at e;cases e
  | some z=>
    rw[hn] at e
    cases e
    rw[h.str]
    exact hs i z σ' H' hn p) fun σ' H' p=>hd σ' H' (by rw[List.length_map] at p;exact p)
theorem Vc {ps:List (Str×Str)}{g:TG}{tb:TS}{D:Ends}(h:Is K H (psD ps) x)(Pv:Nat->St->Hp->Prop)(h0:Pv 0 σ H)(hG:∀ i σ' H',Pv i σ' H'->Fz H H')
  (hs:∀ i p v σ' H',ps[i]? = some p->Is K H' (prD p) v->Pv i σ' H'->g v σ' H' fun σ2 H2=>tb { D with nx:=Pv (i+1),ct:=Pv (i+1),bk:=D.nx } σ2 H2) (hd:∀ σ' H',Pv ps.length σ' H'->D.nx σ' H') :
  G1 K x H fun J H1=>a34 g tb D σ J H1:=
 M5 h (Cs ps) Pv h0 hG (fun i d v σ' H' e h p=>by
  rw[List.getElem?_map] at e
  cases hn:ps[i]? with
  | none=>rw[hn] at e;cases e
  | some z=>
    rw[hn] at e
    cases e
    exact hs i z v σ' H' hn h p) fun σ' H' p=>hd σ' H' (by rw[List.length_map] at p;exact p)
theorem Kp {α:Type}(f:α->PyData)(hf:∀ a,frz (f a)=true):∀ xs:List α,P5 (xs.map f)=true
 | []=>rfl
 | x :: xs=>by simp only[List.map_cons,P5,hf,Kp f hf xs,Bool.and_self]
theorem D6 {α:Type}{J:It}{xs:List V}{G:Hp->Prop}{g:TG}{tt:TT}{te:TE}{Q:VK}{k:Nat}{js:List Nat}(hw:Ek J xs G)(as:List α)(hl:as.length=xs.length)(t:α->Bool)(f:α->PyData)(hf:∀ a,frz (f a)=true)(hz:xs.length<=1000000)(hG:∀ H',Same H H'->G H')
  (hs:∀(i:Nat) a v H1 (R:VK) (R':Hp->Prop),as[i]? = some a->xs[i]? = some v->Same H H1->(t a=true->∀ y H2,Same H1 H2->Is K H2 (f a) y->R y H2)->(t a=false->∀ H2,Same H1 H2->R' H2) ->
   g v (List.replicate k none++Kw σ js) H1 fun σ2 H2=>tt σ2 H2 fun b H3=>if b=true then te σ2 H3 R else R' H3)
  (hd:∀ p ys H',H p=none->Same H H'->H' p=some (.lst ys)->IsL K H' ((as.filter t).map f) ys->Q (.ref p) H'):Ki k js g tt te σ J H Q:=by
 refine Hy hw (fun p i acc H1=>Same H H1/\IsL K H1 (((as.take i).filter t).map f) acc) (fun p H' hp e h=>⟨e,by simp only[List.take_zero,List.filter_nil,List.map_nil];exact .nil⟩) (fun p i acc H1 h=>hG H1 h.1) (fun p i x acc H1 hp hx hi hl1 ha ⟨e,hacc⟩=>?_) fun p acc H1 hp ha hl1 ⟨e,hacc⟩=>?_
 . have hi':i<as.length:=by omega
   obtain⟨a,hai⟩:∃ a,as[i]? = some a:=⟨as[i],List.getElem?_eq_getElem hi'⟩
   have ht:as.take (i+1)=as.take i++[a]:=by rw[List.take_add_one,hai];rfl
   refine hs i a x H1 _ _ hai hx e (fun h y H2 e2 hy=>?_) fun h H2 e2=>?_
   . refine Lk hz hi hl1 (e2 _ _ ha) fun H' e' h'=>⟨fun b o hb=>e' b o (ne_of_none hb hp) (e2 _ _ (e b o hb)),?_⟩
     rw[ht,List.filter_append,List.map_append]
     have fz:=e'.fzL (e2 _ _ ha)
     refine IsL.append (IsL.fz (e2.fz.trans fz) _ _ (Kp f hf _) hacc) ?_
     simp only[List.filter_cons,h,if_true,List.filter_nil,List.map_cons,List.map_nil]
     exact .one (Is.fz fz _ _ (hf a) hy)
   refine Nt hi hl1 (e2 _ _ ha) ⟨e.trans e2,?_⟩
   rw[ht,List.filter_append,List.map_append]
   simp only[List.filter_cons,h,Bool.false_eq_true,if_false,List.filter_nil,List.map_nil,List.append_nil]
   exact IsL.mono e2 _ _ hacc
 refine hd p acc H1 hp e ha ?_
 rw[<- hl,List.take_length] at hacc
 exact hacc
end
section
variable {X:Cx}{K:PySem.W.Frag}
def Yt:PyData->Bool
 | .list _=>true
 | .tuple _=>true
 | _=>false
mutual
theorem Is.noDict {H:Hp}:∀(d:PyData) (v:V),Is K H d v->d.hasDict=false
 | .none,_,h=>by simp only[PyData.hasDict]
 | .bool _,_,h=>by simp only[PyData.hasDict]
 | .int _,_,h=>by simp only[PyData.hasDict]
 | .str _,_,h=>by simp only[PyData.hasDict]
 | .list ds,v,h=>by
   simp only[Is] at h
   obtain⟨a,xs,e1,e2,e3⟩:=h
   simp only[PyData.hasDict]
   exact IsL.noDict ds xs e3
 | .tuple ds,v,h=>by
   simp only[Is] at h
   obtain⟨a,xs,e1,e2,e3⟩:=h
   simp only[PyData.hasDict]
   exact IsL.noDict ds xs e3
 | .dict _,_,h=>by simp only[Is] at h
theorem IsL.noDict {H:Hp}:∀(ds:List PyData) (vs:List V),IsL K H ds vs->PyData.hasDictAll ds=false
 | [],_,h=>by simp only[PyData.hasDictAll]
 | d :: ds,vs,h=>by
   simp only[IsL] at h
   obtain⟨v,r,e1,e2,e3⟩:=h
   simp only[PyData.hasDictAll,Is.noDict d v e2,IsL.noDict ds r e3,Bool.or_self]
end
structure Sh (d:PyData):Prop where
 dp:Yt d=true
 sh:d.showable=true
 fits:d.shown.length<=sizeLine
 deep:d.depth<=100
theorem Jk (hq:QA X.A):CallR X (.builtin "repr") (fun xs H Q=>∃ x d,xs=[x]/\Is X.K H d x/\Sh d/\Q (.str d.shown) H):=by
 intro pins s σ H xs us Q I rv h
 obtain⟨x,d,rfl,i,S,q⟩:=h
 obtain⟨u,rfl,ru⟩:=rv.one
 obtain⟨as,ra⟩:=Is.reads I d x u i ru
 have href:∃ a,u = .ref a:=by
  have hd:=S.dp
  cases d with
  | list ds=>simp only[Is] at i;obtain⟨a,_,rfl,_⟩:=i;exact⟨a,ru⟩
  | tuple ds=>simp only[Is] at i;obtain⟨a,_,rfl,_⟩:=i;exact⟨a,ru⟩
  | _=>cases hd
 obtain⟨a,rfl⟩:=href
 refine repr_of_reads' ra S.sh (fun hx=>absurd hx (by rw[Is.noDict d x i];exact Bool.false_ne_true)) hq.gd (by have:=hq.un;have:=S.deep;omega) (fun _ _ e=>e) (fun h' t tk hk=>?_) S.fits
 exact⟨.str d.shown,H,I.kept hk,⟨t,rfl⟩,q⟩
def Ov (z:Str)(n:Nat):Str:=⟨(List.replicate n z.cps).foldl (· ++ ·) #[]⟩
def Z0:R2:=fun x y H Q=>∃ z n,x = .str z/\y = .int n/\2<=n/\n<=1000/\z.length<=1000/\0<z.length/\Q (.str (Ov z n.toNat)) H
theorem Y9:OpR X (binaryOp .Mult) Z0:=by
 intro pins s σ H x y v u Q I rx ry h
 obtain⟨z,n,rfl,rfl,h1,h2,h3,h4,q⟩:=h
 obtain⟨t,rfl⟩:=rx
 obtain⟨t2,rfl⟩:=ry
 have a1:¬ n<1:=by omega
 have a2:(n==1||z.length==0)=false:=by
  have e1:(n==1)=false:=by simp;omega
  have e2:(z.length==0)=false:=by simp;omega
  rw[e1,e2];rfl
 have hz:z.length*n.toNat<=1000000:=by
  have:z.length*n.toNat<=1000*1000:=Nat.mul_le_mul h3 (by omega)
  omega
 have hlen:(Ov z n.toNat).length<=sizeLine:=by
  have e:∀(m:Nat) (a:Array Nat),((List.replicate m z.cps).foldl (· ++ ·) a).size=a.size+m*z.cps.size:=by
   intro m
   induction m with
   | zero=>intro a;simp
   | succ m ih=>intro a;rw[List.replicate_succ,List.foldl_cons,ih,Array.size_append,Nat.succ_mul];omega
  show((List.replicate n.toNat z.cps).foldl (· ++ ·) #[]).size<=sizeLine
  rw[e]
  have e2:z.cps.size=z.length:=rfl
  rw[e2,sizeLine_eq,Nat.mul_comm]
  simp
  omega
 refine PySem.P.mul_str (by
   have b1:¬ n < -(2 ^ 63:Int):=by omega
   have b2:¬ n>=2 ^ 63:=by omega
   rw[decide_eq_false b1,decide_eq_false b2];rfl) (fun _ _=>?_) (fun _ _=>?_) ?_
 . have:(2 ^ 63-1:Int) / n>=1000:=by
    refine Int.le_ediv_of_mul_le (by omega) ?_
    have:1000*n<=1000*1000:=by omega
    omega
   omega
 . have hz2:z.length*n.toNat<=sizeLine:=A6 hz
   rw[sizeLine_eq] at hz2
   unfold Builtin.Str.tooLong
   simp[sizeLine_eq]
   omega
 rw[if_neg a1,a2,if_neg Bool.false_ne_true]
 exact⟨hlen,.str _,H,I.kept fun _ _ e=>e,⟨_,rfl⟩,q⟩
def Uu:R2:=fun x y H Q=>Tw x y H Q\/Z0 x y H Q
theorem C9:OpR X (binaryOp .Mult) Uu:=op_mulA.or Y9
theorem i_mulBI {i j:Int}{H:Hp}{Q:VK}(h:CMul i j)(k:Q (.int (i*j)) H):Uu (.int i) (.int j) H Q:=.inl (Zp h k)
theorem Wx {z:Str}{n:Int}{H:Hp}{Q:VK}(h:2<=n/\n<=1000/\z.length<=1000/\0<z.length)(k:Q (.str (Ov z n.toNat)) H):Uu (.str z) (.int n) H Q:=.inr ⟨z,n,rfl,rfl,h.1,h.2.1,h.2.2.1,h.2.2.2,k⟩
theorem Ya {i:Int}{H:Hp}{Q:VK}{a:Addr}{xs:List V}(h1:H a=some (.lst xs))(h2:-(2 ^ 63)<=i/\i<2 ^ 63)(h3:xs.length*i.toNat<=sizeLine)(k:∀ p H',H p=none->Same H H'->H' p=some (.lst (List.replicate i.toNat xs).flatten)->Q (.ref p) H'):Uu (.ref a) (.int i) H Q:=.inl (T1 h1 h2 h3 k)
def a78 (xs:List V)(i:Nat)(y:V):List V:=xs.take i++y :: xs.drop i
def Qr:V->List V->Hp->VK->Prop:=fun x vs H Q=>∃ l xs i y,x = .ref l/\vs=[.int i,y]/\H l=some (.lst xs)/\0<=i/\i<=xs.length/\xs.length<sizeLine/\Q .non (upd H l (.lst (a78 xs i.toNat y)))
theorem Lg:MtM X "list.insert" Qr:=by
 intro pins s σ H x vs v us Q I rx rv h
 obtain⟨l,xs,i,y,rfl,rfl,hH,h0,h1,hz,q⟩:=h
 cases rx
 obtain⟨u,w,rfl,ru,rw'⟩:=Vals.two rv
 obtain⟨t,rfl⟩:=ru
 obtain⟨z,its,n,r,hl,e⟩:=I.lstM hH
 have hlen:=r.length
 refine call_meets F.slot_list_insert ⟨_,e,rfl⟩ F.entry_list_insert (F.args_list_insert_3 _ _ _)
  (AutoSeq1.list_insert_list_int_val_1 l its.toArray n i t w (by rw[fitsIndex_both (by omega) (by rw[sizeLine_eq] at hz;omega)];decide) (by rw[List.size_toArray];omega)) ⟨e,?_⟩
 refine⟨.non,_,I.lset (its':=its.take i.toNat++w :: its.drop i.toNat) hH e ?_ ((r.take i.toNat).append (.cons rw' (r.drop i.toNat))) ?_,rfl,q⟩
 . have hi:i.toNat<=its.length:=by omega
   show(have k:=if i<0 then(i+((its.toArray.size:Nat):Int)).toNat else min i.toNat its.toArray.size;(its.toArray.extract 0 k).push w++its.toArray.extract k)=_
   rw[if_neg (by omega),List.size_toArray,Nat.min_eq_left hi]
   simp[List.extract_eq_drop_take]
   exact List.take_of_length_le (by rw[List.length_drop];omega)
 rw[List.length_append,List.length_cons,List.length_take,List.length_drop]
 omega
section
variable {D:Ends}{σ:St}{H:Hp}{t u:TS}{te td ty tv:TE}{g:TG}
theorem Kh (M:St->Hp->Prop)(h1:∀ N:St->Hp->Prop,(∀ σ' H',M σ' H'->N σ' H')->t { D with nx:=N } σ H)(h2:∀ σ' H',M σ' H'->u D σ' H'):a86 t u D σ H:=h1 (u D) h2
end
theorem Ky {a:Addr}{xs:List V}{H:Hp}{Q:VK}(h:SqL K H a xs\/SqT K H a xs)(k:∀ p H',H p=none->Same H H'->H' p=some (.lst xs)->Q (.ref p) H'):On K [.ref a] H Q:=⟨a,xs,rfl,h,fun p hp=>k p _ hp (Same.upd hp) A9⟩
theorem mm {id:String}{r:V->List V->Hp->VK->Prop}(h:MtM X id r):MtR X id r:=h
theorem i_tyLm {a:Addr}{xs:List V}{H:Hp}{B:Prop}(h:H a=some (.lst xs))(k:B):tyV K "list" (.ref a) H/\B:=⟨.inl ⟨rfl,xs,SqL.of h⟩,k⟩
theorem Wz {l:Addr}{xs:List V}{y:V}{i:Int}{H:Hp}{Q:VK}(h:H l=some (.lst xs))(h0:0<=i)(h1:i<=xs.length)(hz:xs.length<=1000000)(k:∀ H',ExtBut l H H'->H' l=some (.lst (a78 xs i.toNat y))->Q .non H'):Qr (.ref l) [.int i,y] H Q:=
 ⟨l,xs,i,y,rfl,rfl,h,h0,h1,by rw[sizeLine_eq];omega,k _ ExtBut.upd A9⟩
theorem Ia {l:Addr}{xs:List V}{y:V}{H:Hp}{Q:VK}(h:H l=some (.lst xs))(hz:xs.length<=1000000)(k:∀ H',ExtBut l H H'->H' l=some (.lst (xs++[y]))->Q .non H'):Sq (.ref l) [y] H Q:=
 ⟨l,xs,y,rfl,rfl,h,by rw[sizeLine_eq];omega,k _ ExtBut.upd A9⟩
theorem W6 {l b:Addr}{xs zs:List V}{H:Hp}{Q:VK}(h:H l=some (.lst xs))(hb:H b=some (.lst zs))(hz:xs.length+zs.length<=1000000)(k:∀ H',ExtBut l H H'->H' l=some (.lst (xs++zs))->Q .non H'):N3 (.ref l) [.ref b] H Q:=
 ⟨l,b,xs,zs,rfl,rfl,h,hb,A6 hz,k _ ExtBut.upd A9⟩
theorem Zt {l:Addr}{xs:List V}{y:V}{H:Hp}{Q:VK}(h:H l=some (.lst (xs++[y])))(k:∀ H',ExtBut l H H'->H' l=some (.lst xs)->Q y H'):ad9 (.ref l) [] H Q:=
 ⟨l,xs++[y],y,rfl,rfl,h,by simp,by rw[List.dropLast_concat];exact k _ ExtBut.upd A9⟩
theorem Uv {l:Addr}{xs:List V}{y:V}{i:Int}{H:Hp}{Q:VK}(h:H l=some (.lst xs))(h0:0<=i)(h1:xs[i.toNat]? = some y)(k:∀ H',ExtBut l H H'->H' l=some (.lst (xs.eraseIdx i.toNat))->Q y H')(hz:xs.length<=1000000):Vp (.ref l) [.int i] H Q:=by
 have h2:=(List.getElem?_eq_some_iff.mp h1).1
 refine⟨l,xs,i,i.toNat,y,rfl,rfl,h,by omega,by omega,?_,h1,k _ ExtBut.upd A9⟩
 have e:=K6 (Dr (α:=V) h1)
 obtain⟨j,e1,e2,e3,_⟩:=e
 rw[Int.toNat_of_nonneg h0] at e1
 rw[e1]
 have e4:seqIndex? i xs.length=some i.toNat:=by
  unfold seqIndex? at e1 ⊢
  simp[show ¬ i<0 by omega] at e1 ⊢
  omega
 rw[<- e1,e4]
def Pp (xs:List V)(k:Int):List V:=if k=1 then xs else xs.reverse
def Rj (K:PySem.W.Frag):V->V->Hp->VK->Prop:=fun x y H Q=>∃ a xs k,x = .ref a/\y = .int k/\(k=1\/k = -1)/\SqL K H a xs/\∀ p,H p=none->Q (.ref p) (upd H p (.lst (Pp xs k)))
theorem Ua (items:Array Value):slicePick items none none (some 1)=items:=by
 have e:slicePick items none none (some 1)=slicePick items none none none:=rfl
 rw[e,Fr]
 simp[HT.sIx]
 rw[show items.size=items.toList.length by simp,List.take_length]
theorem M0 {e st:Expr}{te ts:TE}{p2 pos:Pos}(he:PE X e te)(hst:PE X st ts)(hK:X.K=K:=by ac_nf):PE X (.Subscript e (.Slice none none (some st) p2) pos) (tOp (Rj K) te ts):=by
 subst hK
 intro pins s σ H Q I h
 refine Subscript_ (thn (he pins s σ H _ I h) fun v s1 ⟨x,H1,I1,r1,q1⟩=>?_)
 refine wpAny_Slice ?_
 rw[evalPart_none]
 refine wpAny_pure (wpAny_pure ?_)
 rw[evalPart_some]
 refine thn (hst pins s1 σ H1 _ I1 q1) fun u s2 ⟨y,H2,I2,r2,q2⟩=>?_
 obtain⟨a,xs,k,rfl,rfl,hk,hx,q⟩:=q2
 cases r1
 obtain⟨t,rfl⟩:=r2
 have I4:Inv X pins σ H2 { s2 with heap:=s2.heap.push { cls:=.type "slice",data:=.fields #[.none,.none,.int k t] } }:=I2.kept (t':=s2.toks) fun b ob q=>Heap.get?_push_of_some _ q
 obtain⟨its,r,ht,hz⟩:=I4.list hx
 have hlen:=r.length
 refine tail_any (ops:=[.ref a,.ref s2.heap.objs.size]) ht.isList.typeIs slot_list_getitem.lookup ?_ (by ac_nf)
 refine wpAny_getItem_list_slice ht.isList (Heap.IsSliceOf.new ..) .none .none (.int k t) (by rcases hk with rfl | rfl<;>decide) ?_ (by rw[List.size_toArray];omega)
 rcases hk with rfl | rfl
 . rw[Ua]
   refine⟨.ref _,_,I4.laid (t':=s2.toks) (o:=.lst (Pp xs 1)) (fun b ob q=>Heap.get?_push_of_some _ q) (Nat.le_refl _) ?_,rfl,q _ (I4.hok.fresh (Nat.le_refl _))⟩
   exact⟨hz,_,0,r,Heap.get?_push_size _ rfl⟩
 rw[PySem.W.krv_pick]
 refine⟨.ref _,_,I4.laid (t':=s2.toks) (o:=.lst (Pp xs (-1))) (fun b ob q=>Heap.get?_push_of_some _ q) (Nat.le_refl _) ?_,rfl,q _ (I4.hok.fresh (Nat.le_refl _))⟩
 exact⟨by show xs.reverse.length<=_;rw[List.length_reverse];exact hz,_,0,by show Vals xs.reverse _;exact r.reverse,Heap.get?_push_size _ rfl⟩
theorem Zw {a:Addr}{xs:List V}{k:Int}{H:Hp}{Q:VK}(h:SqL K H a xs)(hk:k=1\/k = -1)(c:∀ p H',H p=none->Same H H'->H' p=some (.lst (Pp xs k))->Q (.ref p) H'):Rj K (.ref a) (.int k) H Q:=
 ⟨a,xs,k,rfl,rfl,hk,h,fun p hp=>c p _ hp (Same.upd hp) A9⟩
end
def Gg (c:Nat):Bool:=decide (97<=c)&&decide (c<=122)
def Jy (x:Str):Bool:=decide (1<=x.length)&&decide (x.length<=8)&&x.cps.toList.all Gg
def Names (ns:List Str):Prop:=ns.Nodup/\∀ z∈ns,Jy z=true
def LL:Str:="abcdefghijklmnopqrstuvwxyzabcdefghijklmnopqrstuvwxyz"
theorem a75:Ov "abcdefghijklmnopqrstuvwxyz" (2:Int).toNat=LL:=by decide +kernel
def LLn:List Nat:=LL.cps.toList
theorem a39:LL.length=52:=by decide +kernel
theorem G3:LLn.length=52:=by decide +kernel
theorem Om:∀ c∈LLn,Gg c=true:=by decide +kernel
def txt (l:List Nat):Str:=⟨l.toArray⟩
theorem X0 {a b:List Nat}(h:txt a=txt b):a=b:=by
 have:a.toArray=b.toArray:=congrArg Str.cps h
 simpa using this
theorem Qe (a b:List Nat):txt a++txt b=txt (a++b):=by
 show(⟨a.toArray++b.toArray⟩:Str)=⟨(a++b).toArray⟩
 simp
theorem Fm {l:List Nat}(h0:1<=l.length)(h1:l.length<=8)(h2:∀ c∈l,Gg c=true):Jy (txt l)=true:=by
 unfold Jy
 have e:(txt l).length=l.length:=by show l.toArray.size=_;simp
 rw[e,decide_eq_true h0,decide_eq_true h1]
 show(true&&true&&l.all Gg)=true
 rw[List.all_eq_true.mpr h2]
 rfl
def Jg (a b:Nat):List Nat:=(LLn.drop a).take (b-a)
theorem Hh {a b:Nat}(h:a<=b)(h1:b<=52):(Jg a b).length=b-a:=by
 unfold Jg
 rw[List.length_take,List.length_drop,G3]
 omega
theorem Ew {a b:Nat}:∀ c∈Jg a b,Gg c=true:=fun c hc=>Om c (List.mem_of_mem_drop (List.mem_of_mem_take hc))
theorem Ou {i j:Int}(h0:0<=i)(h1:i<=j)(h2:j<=52):Txt.slice LL (some i) (some j)=txt (Jg i.toNat j.toNat):=by
 have e:=StrLaws.sliceText_plain (x:=LL) (i:=i) (j:=j) ⟨h0,h1,by rw[show LL.cps.toList.length=52 by decide +kernel];omega⟩
 have e2:(j-i).toNat=j.toNat-i.toNat:=by omega
 rw[e2] at e
 exact e
def L6 (i:Nat):List Nat:=(LLn.drop i).take 1
theorem Xe {i:Int}(h0:0<=i)(h1:i<52):∃ c,atI LL.cps.toList i=some c/\(⟨#[c]⟩:Str)=txt (L6 i.toNat):=by
 have h2:i.toNat<LLn.length:=by rw[G3];omega
 refine⟨LLn[i.toNat],?_,?_⟩
 . have:=Dr (List.getElem?_eq_getElem h2)
   rwa[Int.toNat_of_nonneg h0] at this
 unfold L6
 rw[List.drop_eq_getElem_cons h2]
 rfl
theorem Kr {i:Nat}(h:i<52):(L6 i).length=1:=by
 unfold L6
 rw[List.length_take,List.length_drop,G3]
 omega
theorem G6 {i:Nat}:∀ c∈L6 i,Gg c=true:=fun c hc=>Om c (List.mem_of_mem_drop (List.mem_of_mem_take hc))
def nm0 (s:Nat):List (List Nat):=(List.range 8).map (fun k=>Jg s (s+1+k))++[L6 (s+9),L6 (s+10)]
def nm1 (s z a:Nat):List (List Nat):=(List.range 10).map fun k=>Jg s (s+a)++L6 (s+5*k % 26)++Jg (s+a+1) (s+z)
def nm2 (s:Nat):List (List Nat):=(List.range 10).map fun k=>Jg (s+k) (s+k+1+3*k % 8)
theorem nd0:∀ s<26,(nm0 s).Nodup:=by decide +kernel
theorem nd2:∀ s<26,(nm2 s).Nodup:=by decide +kernel
theorem nd1':∀ s<26,((List.range 10).map fun k=>L6 (s+5*k % 26)).Nodup:=by decide +kernel
theorem Em {α β:Type}{f:α->β}:∀ {l:List α},l.Nodup->(∀ a∈l,∀ b∈l,f a=f b->a=b)->(l.map f).Nodup
 | [],_,_=>by simp
 | a :: l,h,hf=>by
   rw[List.map_cons,List.nodup_cons]
   rw[List.nodup_cons] at h
   refine⟨fun hm=>?_,Em h.2 fun x hx y hy=>hf x (List.mem_cons_of_mem _ hx) y (List.mem_cons_of_mem _ hy)⟩
   obtain⟨b,hb,e⟩:=List.mem_map.mp hm
   have:=hf b (List.mem_cons_of_mem _ hb) a List.mem_cons_self e
   subst this
   exact h.1 hb
theorem Ea {α β:Type}{f:α->β}:∀ {l:List α},(l.map f).Nodup->∀ a∈l,∀ b∈l,f a=f b->a=b
 | [],_,a,ha,_,_,_=>by cases ha
 | c :: l,h,a,ha,b,hb,e=>by
   rw[List.map_cons,List.nodup_cons] at h
   rcases List.mem_cons.mp ha with q | ha'
   . rcases List.mem_cons.mp hb with q' | hb'
     . rw[q,q']
     exact absurd (List.mem_map.mpr ⟨b,hb',by rw[<- e,q]⟩) h.1
   rcases List.mem_cons.mp hb with q' | hb'
   . exact absurd (List.mem_map.mpr ⟨a,ha',by rw[e,q']⟩) h.1
   exact Ea h.2 a ha' b hb' e
theorem Ib {l:List (List Nat)}(h:l.Nodup):(l.map txt).Nodup:=Em h fun a _ b _ e=>X0 e
theorem nd1 {s z a:Nat}(hs:s<26):(nm1 s z a).Nodup:=by
 refine Em List.nodup_range fun k hk j hj e=>?_
 have e1:L6 (s+5*k % 26)=L6 (s+5*j % 26):=List.append_cancel_left (List.append_cancel_right e)
 exact Ea (f:=fun k=>L6 (s+5*k % 26)) (nd1' s hs) k hk j hj e1
theorem a09 {s:Nat}(hs:s<26):Names ((nm0 s).map txt):=by
 refine⟨Ib (nd0 s hs),fun z hz=>?_⟩
 obtain⟨l,hl,rfl⟩:=List.mem_map.mp hz
 rcases List.mem_append.mp hl with h | h
 . obtain⟨k,hk,rfl⟩:=List.mem_map.mp h
   have hk:=List.mem_range.mp hk
   have e:=Hh (a:=s) (b:=s+1+k) (by omega) (by omega)
   exact Fm (by omega) (by omega) Ew
 simp only[List.mem_cons,List.not_mem_nil,or_false] at h
 rcases h with rfl | rfl
 . have e:=Kr (i:=s+9) (by omega)
   exact Fm (by omega) (by omega) G6
 have e:=Kr (i:=s+10) (by omega)
 exact Fm (by omega) (by omega) G6
theorem a40 {s z a:Nat}(hs:s<26)(ha:a<z)(hz:z<=8):Names ((nm1 s z a).map txt):=by
 refine⟨Ib (nd1 hs),fun y hy=>?_⟩
 obtain⟨l,hl,rfl⟩:=List.mem_map.mp hy
 obtain⟨k,hk,rfl⟩:=List.mem_map.mp hl
 have hm:5*k % 26<26:=Nat.mod_lt _ (by decide)
 have e1:=Hh (a:=s) (b:=s+a) (by omega) (by omega)
 have e2:=Kr (i:=s+5*k % 26) (by omega)
 have e3:=Hh (a:=s+a+1) (b:=s+z) (by omega) (by omega)
 refine Fm (by simp only[List.length_append];omega) (by simp only[List.length_append];omega) fun c hc=>?_
 rcases List.mem_append.mp hc with hc | hc
 . rcases List.mem_append.mp hc with hc | hc
   . exact Ew c hc
   exact G6 c hc
 exact Ew c hc
theorem a51 {s:Nat}(hs:s<26):Names ((nm2 s).map txt):=by
 refine⟨Ib (nd2 s hs),fun z hz=>?_⟩
 obtain⟨l,hl,rfl⟩:=List.mem_map.mp hz
 obtain⟨k,hk,rfl⟩:=List.mem_map.mp hl
 have hk:=List.mem_range.mp hk
 have hm:3*k % 8<8:=Nat.mod_lt _ (by decide)
 have e:=Hh (a:=s+k) (b:=s+k+1+3*k % 8) (by omega) (by omega)
 exact Fm (by omega) (by omega) Ew
def nm3:List Str:=["names","ahead","name","a","ab","aheads","last","ask","row","end"]
theorem a66:Names nm3:=⟨by decide +kernel,by decide +kernel⟩
theorem Names.perm {ns ms:List Str}(h:Names ns)(p:ms.Perm ns):Names ms:=⟨p.nodup_iff.mpr h.1,fun z hz=>h.2 z (p.mem_iff.mp hz)⟩
theorem Names.sublist {ns ms:List Str}(h:Names ns)(p:ms.Sublist ns):Names ms:=⟨h.1.sublist p,fun z hz=>h.2 z (p.subset hz)⟩
theorem Names.reverse {ns:List Str}(h:Names ns):Names ns.reverse:=h.perm (List.reverse_perm _)
theorem Names.turn {ns:List Str}(h:Names ns)(t n:Nat):Names ((ns.drop t++ns.take t).take n):=
 Names.sublist (ns:=ns.drop t++ns.take t) (h.perm (List.perm_append_comm.trans (by rw[List.take_append_drop]))) (List.take_sublist _ _)
theorem Kd {xs:List V}{t:Int}(h0:0<=t)(h1:t<=xs.length):J5 xs (some t) none=xs.drop t.toNat:=by
 have e:HT.sIx xs.length 0 (some t)=t.toNat:=by unfold HT.sIx;simp[show ¬ t<0 by omega];omega
 unfold J5
 rw[e]
 have e2:HT.sIx xs.length xs.length none=xs.length:=rfl
 rw[e2]
 exact List.take_of_length_le (by rw[List.length_drop];omega)
theorem Ev {xs:List V}{t:Int}(h0:0<=t):J5 xs none (some t)=xs.take t.toNat:=by
 have e:HT.sIx xs.length xs.length (some t)=min t.toNat xs.length:=by unfold HT.sIx;simp[show ¬ t<0 by omega]
 unfold J5
 rw[e]
 have e2:HT.sIx xs.length 0 none=0:=rfl
 rw[e2,List.drop_zero,Nat.sub_zero,Nat.min_comm]
 rw[<- List.take_take]
 exact List.take_of_length_le (by rw[List.length_take];omega)
theorem Ci {lo:Int} {n i:Nat} {x:V} (h:((List.range n).map fun(i:Nat)=>V.int (lo+(i:Int)))[i]? = some x):x = .int (lo+(i:Int))/\i<n:=by
 rw[List.getElem?_map] at h
 cases e:(List.range n)[i]? with
 | none=>rw[e] at h;cases h
 | some j=>
   rw[e] at h
   cases h
   have e1:=List.getElem?_eq_some_iff.mp e
   obtain⟨h1,h2⟩:=e1
   rw[List.length_range] at h1
   rw[List.getElem_range] at h2
   subst h2
   exact⟨rfl,h1⟩
def fI (F:Int->V):V->V
 | .int k=>F k
 | v=>v
theorem Nd {lo:Int}{n:Nat}{F:Int->V}{G:Nat->Str}(h:∀ k<n,F (lo+(k:Int)) = .str (G k)):((List.range n).map fun(i:Nat)=>V.int (lo+(i:Int))).map (fI F)=((List.range n).map G).map V.str:=by
 rw[List.map_map,List.map_map]
 refine List.map_congr_left fun k hk=>?_
 exact h k (List.mem_range.mp hk)
theorem O7:LL.length<=sizeLine:=by rw[a39,sizeLine_eq];omega
theorem Pf {ns:List Str}(h:Names ns){k:Int}:∃ ms,Pp (ns.map V.str) k=ms.map V.str/\Names ms/\ms.length=ns.length:=by
 unfold Pp
 split
 . exact⟨ns,rfl,h,rfl⟩
 exact⟨ns.reverse,by rw[List.map_reverse],h.reverse,List.length_reverse ..⟩
theorem ExtBut.off {d q:Addr}{H H1 H2:Hp}(e:ExtBut d H H1)(hq:H q=none)(e2:ExtBut q H1 H2):ExtBut d H H2:=fun b o n h=>e2 b o (ne_of_none h hq) (e b o n h)
theorem Same.off {q:Addr}{H H1 H2:Hp}(e:Same H H1)(hq:H q=none)(e2:ExtBut q H1 H2):Same H H2:=fun b o h=>e2 b o (ne_of_none h hq) (e b o h)
def Up (ls:List Str)(ps:List (Str×Str)):Prop:=∀ p∈ps,∃ i j:Nat,i<j/\ls[i]? = some p.1/\ls[j]? = some p.2
theorem Up.nil {ls:List Str}:Up ls []:=fun _ h=>by cases h
theorem Up.append {ls:List Str}{ps qs:List (Str×Str)}(h:Up ls ps)(g:Up ls qs):Up ls (ps++qs):=fun p hp=>by
 rcases List.mem_append.mp hp with hp | hp
 . exact h p hp
 exact g p hp
theorem Up.one {ls:List Str}{x y:Str}{i j:Nat}(h:i<j)(hx:ls[i]? = some x)(hy:ls[j]? = some y):Up ls [(x,y)]:=fun p hp=>by
 have:p=(x,y):=by simpa using hp
 subst this
 exact⟨i,j,h,hx,hy⟩
theorem Up.sub {ls:List Str}{ps qs:List (Str×Str)}(h:Up ls ps)(s:∀ p∈qs,p∈ps):Up ls qs:=fun p hp=>h p (s p hp)
theorem str_at? {ls:List Str}{i:Int}(h0:0<=i)(h1:i<ls.length):∃ z,ls[i.toNat]? = some z/\atI (ls.map V.str) i=some (.str z)/\atI ls i=some z:=by
 have h2:i.toNat<ls.length:=by omega
 refine⟨ls[i.toNat],List.getElem?_eq_getElem h2,?_,?_⟩
 . have:=Dr (xs:=ls.map V.str) (j:=i.toNat) (v:=.str ls[i.toNat]) (by rw[List.getElem?_map,List.getElem?_eq_getElem h2];rfl)
   rwa[Int.toNat_of_nonneg h0] at this
 have:=Dr (List.getElem?_eq_getElem h2)
 rwa[Int.toNat_of_nonneg h0] at this
theorem Ji {α:Type}:∀(us:List α) (k:Nat) (y:α),us[k]? = some y->(y :: us.eraseIdx k).Perm us
 | [],k,y,h=>by simp at h
 | u :: us,0,y,h=>by
   have:u=y:=by simpa using h
   subst this
   exact List.Perm.refl _
 | u :: us,k+1,y,h=>by
   have ih:=Ji us k y (by simpa using h)
   exact(List.Perm.swap u y _).trans (ih.cons u)
theorem U0 {α:Type}{us:List α}{k:Nat}{y:α}(h:us[k]? = some y)(vs:List α):(vs++[y]++us.eraseIdx k).Perm (vs++us):=by
 rw[List.append_assoc]
 exact List.Perm.append_left vs (Ji us k y h)
theorem Qt {α:Type}{l:List α}{i:Nat}{x y:α}(h:l[i]? = some x):l.getD i y=x:=by rw[List.getD_eq_getElem?_getD,h];rfl
theorem Sm {α:Type}(as:List α)(f:α->Str×Str):as.map (fun a=>prD (f a))=(as.map f).map prD:=by rw[List.map_map];rfl
theorem Op {α:Type}{l:List α}{i:Nat}{y:α}(h:i<l.length):l[i]? = some (l.getD i y):=by rw[List.getD_eq_getElem?_getD,List.getElem?_eq_getElem h];rfl
inductive Way (ps:List (Str×Str)):Str->Str->Prop
 | one {x y:Str}:(x,y)∈ps->Way ps x y
 | cons {x z y:Str}:(x,z)∈ps->Way ps z y->Way ps x y
theorem Way.trans {ps:List (Str×Str)}{x y z:Str}(h:Way ps x y)(g:Way ps y z):Way ps x z:=by
 induction h with
 | one e=>exact .cons e g
 | cons e _ ih=>exact .cons e (ih g)
theorem Way.snoc {ps:List (Str×Str)}{x y z:Str}(h:Way ps x y)(g:(y,z)∈ps):Way ps x z:=h.trans (.one g)
theorem Way.left {ps:List (Str×Str)}{x y:Str}(h:Way ps x y):x∈ps.map (·.1):=by
 cases h with
 | one e=>exact List.mem_map.mpr ⟨_,e,rfl⟩
 | cons e _=>exact List.mem_map.mpr ⟨_,e,rfl⟩
theorem Way.right {ps:List (Str×Str)}{x y:Str}(h:Way ps x y):y∈ps.map (·.2):=by
 induction h with
 | one e=>exact List.mem_map.mpr ⟨_,e,rfl⟩
 | cons _ _ ih=>exact ih
theorem Way.shut {ps:List (Str×Str)}{S:Str->Prop}{x:Str}(h0:∀ y,(x,y)∈ps->S y)(h1:∀ z y,S z->(z,y)∈ps->S y){y:Str}(g:Way ps x y):S y:=by
 induction g with
 | one e=>exact h0 _ e
 | cons e _ ih=>exact ih fun y hy=>h1 _ _ (h0 _ e) hy
theorem Up.lt {ls:List Str}(hn:ls.Nodup){ps:List (Str×Str)}(h:Up ls ps){x y:Str}(g:Way ps x y):∃ i j:Nat,i<j/\ls[i]? = some x/\ls[j]? = some y:=by
 induction g with
 | one e=>exact h _ e
 | cons e _ ih=>
   obtain⟨i,j,h1,h2,h3⟩:=h _ e
   obtain⟨i',j',g1,g2,g3⟩:=ih
   have e:j=i':=by
    obtain⟨a,b⟩:=List.getElem?_eq_some_iff.mp h3
    obtain⟨c,d⟩:=List.getElem?_eq_some_iff.mp g2
    exact(List.getElem_inj hn).mp (b.trans d.symm)
   exact⟨i,j',by omega,h2,g3⟩
theorem Up.irrefl {ls:List Str}(hn:ls.Nodup){ps:List (Str×Str)}(h:Up ls ps){x:Str}:¬ Way ps x x:=fun g=>by
 obtain⟨i,j,h1,h2,h3⟩:=h.lt hn g
 obtain⟨a,b⟩:=List.getElem?_eq_some_iff.mp h2
 obtain⟨c,d⟩:=List.getElem?_eq_some_iff.mp h3
 have:=(List.getElem_inj hn).mp (b.trans d.symm)
 omega
theorem Up.mem {ls:List Str}{ps:List (Str×Str)}(h:Up ls ps){p:Str×Str}(hp:p∈ps):p.1∈ls/\p.2∈ls:=by
 obtain⟨i,j,_,h2,h3⟩:=h p hp
 exact⟨List.mem_of_getElem? h2,List.mem_of_getElem? h3⟩
structure Half (ns:List Str)(ps:List (Str×Str)):Prop where
 names:Names ns
 few:ns.length<=10
 le:ps.length<=60
 line:∃ ls:List Str,ls.Perm ns/\Up ls ps
theorem Half.irrefl {ns:List Str}{ps:List (Str×Str)}(h:Half ns ps){x:Str}:¬ Way ps x x:=by
 obtain⟨ls,h1,h2⟩:=h.line
 exact h2.irrefl (h1.nodup_iff.mpr h.names.1)
theorem Half.mem {ns:List Str}{ps:List (Str×Str)}(h:Half ns ps){p:Str×Str}(hp:p∈ps):p.1∈ns/\p.2∈ns:=by
 obtain⟨ls,h1,h2⟩:=h.line
 have:=h2.mem hp
 exact⟨h1.mem_iff.mp this.1,h1.mem_iff.mp this.2⟩
theorem Half.way_mem {ns:List Str}{ps:List (Str×Str)}(h:Half ns ps){x y:Str}(g:Way ps x y):x∈ns/\y∈ns:=by
 constructor
 . obtain⟨p,hp,e⟩:=List.mem_map.mp g.left
   exact e ▸ (h.mem hp).1
 obtain⟨p,hp,e⟩:=List.mem_map.mp g.right
 exact e ▸ (h.mem hp).2
theorem Ec (ls:List Str):PyData.eqv (.list (ls.map PyData.str)) (.list [])=ls.isEmpty:=by
 cases ls<;>simp[PyData.eqv,PyData.eqvAll]
mutual
def Fe:PyData->Bool
 | .none=>true
 | .bool _=>true
 | .str x=>PyData.strOk x
 | .list ds=>Gk ds
 | .tuple ds=>Gk ds
 | _=>false
def Gk:List PyData->Bool
 | []=>true
 | d :: ds=>Fe d&&Gk ds
end
mutual
theorem L9:∀ d:PyData,Fe d=true->d.canLay0=true
 | .none,_=>by simp only[PyData.canLay0]
 | .bool _,_=>by simp only[PyData.canLay0]
 | .str x,h=>by simpa only[PyData.canLay0,Fe] using h
 | .list ds,h=>by simp only[PyData.canLay0];exact G9 ds (by simpa only[Fe] using h)
 | .tuple ds,h=>by simp only[PyData.canLay0];exact G9 ds (by simpa only[Fe] using h)
 | .int _,h=>by simp[Fe] at h
 | .dict _,h=>by simp[Fe] at h
theorem G9:∀ ds:List PyData,Gk ds=true->PyData.canLayAll0 ds=true
 | [],_=>by simp only[PyData.canLayAll0]
 | d :: ds,h=>by
   simp only[Gk,Bool.and_eq_true] at h
   simp only[PyData.canLayAll0,L9 d h.1,G9 ds h.2,Bool.and_self]
end
theorem G2 {z:Str}(h:Jy z=true):PyData.strOk z=true/\z.cps.size<=8:=by
 unfold Jy at h
 simp only[Bool.and_eq_true,decide_eq_true_eq] at h
 refine⟨?_,h.1.2⟩
 unfold PyData.strOk
 rw[<- Array.all_toList,List.all_eq_true]
 intro c hc
 have:=List.all_eq_true.mp h.2 c hc
 unfold Gg at this
 simp only[Bool.and_eq_true,decide_eq_true_eq] at this
 exact decide_eq_true (by omega)
theorem Jv {α:Type}(f:α->PyData):∀ xs:List α,(∀ a∈xs,Fe (f a)=true)->Gk (xs.map f)=true
 | [],_=>by simp only[List.map_nil,Gk]
 | x :: xs,h=>by simp only[List.map_cons,Gk,h x List.mem_cons_self,Jv f xs fun a ha=>h a (List.mem_cons_of_mem _ ha),Bool.and_self]
theorem M7 {α:Type}(f:α->PyData)(n:Nat):∀ xs:List α,(∀ a∈xs,(f a).depth<=n)->PyData.depthAll (xs.map f)<=n
 | [],_=>by simp only[List.map_nil,PyData.depthAll];omega
 | x :: xs,h=>by
   have h1:=h x List.mem_cons_self
   have h2:=M7 f n xs fun a ha=>h a (List.mem_cons_of_mem _ ha)
   simp only[List.map_cons,PyData.depthAll]
   omega
def NmP (ps:List (Str×Str)):Prop:=∀ p∈ps,Jy p.1=true/\Jy p.2=true
theorem Dz {ns:List Str}(h:∀ z∈ns,PyData.strOk z=true):SeqAt.shaped (.list (ns.map PyData.str))=true:=by
 unfold SeqAt.shaped
 have e:(PyData.list (ns.map PyData.str)).canLay0=true:=L9 _ (by simp only[Fe];exact Jv _ ns fun z hz=>by simp only[Fe];exact h z hz)
 have e2:(PyData.list (ns.map PyData.str)).depth<=64:=by
  simp only[PyData.depth]
  have:=M7 PyData.str 0 ns fun z hz=>by simp only[PyData.depth];omega
  omega
 rw[e,decide_eq_true e2]
 rfl
theorem Half.nmP {ns:List Str}{ps:List (Str×Str)}(h:Half ns ps):NmP ps:=fun p hp=>⟨h.names.2 _ (h.mem hp).1,h.names.2 _ (h.mem hp).2⟩
theorem Cr {α:Type}[DecidableEq α]:∀ {xs ys:List α},xs.Nodup->(∀ x∈xs,x∈ys)->xs.length<=ys.length
 | [],_,_,_=>Nat.zero_le _
 | x :: xs,ys,h,hs=>by
   rw[List.nodup_cons] at h
   have hx:x∈ys:=hs x List.mem_cons_self
   have ih:=Cr (xs:=xs) (ys:=ys.erase x) h.2 fun z hz=>by
    refine(List.mem_erase_of_ne ?_).mpr (hs z (List.mem_cons_of_mem _ hz))
    intro e
    subst e
    exact h.1 hz
   rw[List.length_erase_of_mem hx] at ih
   have:0<ys.length:=List.length_pos_of_mem hx
   rw[List.length_cons]
   omega
section
variable {c:TT}{tb:TS}{D:Ends}{σ:St}{H:Hp}
theorem Nj (W:Nat->St->Hp->Prop)(m:Nat)(h0:W m σ H)
  (hs:∀ m σ H,W m σ H->c σ H fun b H1=>if b=true then ∃ N:St->Hp->Prop,(∀ σ' H',N σ' H'->∃ m',m'<m/\W m' σ' H')/\tb { D with nx:=N,ct:=N,bk:=D.nx } σ H1 else D.nx σ H1):Vr c tb D σ H:=⟨W,⟨m,h0⟩,hs⟩
theorem Sw {W:Nat->St->Hp->Prop}{m:Nat}(h:tb { D with nx:=fun σ' H'=>∃ m',m'<m/\W m' σ' H',ct:=fun σ' H'=>∃ m',m'<m/\W m' σ' H',bk:=D.nx } σ H) :
  ∃ N:St->Hp->Prop,(∀ σ' H',N σ' H'->∃ m',m'<m/\W m' σ' H')/\tb { D with nx:=N,ct:=N,bk:=D.nx } σ H:=⟨_,fun _ _ h=>h,h⟩
end
section
variable {X:Cx}{K:PySem.W.Frag}
def O5:V->List V->Hp->VK->Prop:=fun x vs H Q=>∃ d o kvs more,x = .ref d/\vs=[.ref o]/\d≠o/\H d=some (.dK kvs)/\H o=some (.dK more)/\kvs.length+more.length<=1000000/\Q .non (upd H d (.dK (Df kvs more)))
theorem T8:MtM X "dict.update" O5:=by
 intro pins s σ H x vs v us Q I rx rv h
 obtain⟨d,o,kvs,more,rfl,rfl,hdo,hD,hO,hz,q⟩:=h
 cases rx
 obtain⟨u,rfl,ru⟩:=rv.one
 cases ru
 obtain⟨z1,hd1,vs1,rel1,dd1⟩:=S5 I.hok hD
 obtain⟨z2,hd2,vs2,rel2,dd2⟩:=S5 I.hok hO
 have l1:kvs.length=vs1.length:=rel1.length
 have l2:more.length=vs2.length:=rel2.length
 refine call_meetsIn F.slot_dict_update dd1.typeIs F.entry_dict_update (F.args_dict_update_2 _ _) (meets_dict_update (B5 X.prog X.w) d o hdo hd2) ⟨vs1,vs2,dd1,dd2,A6 (by omega),fun h' dd' _ hs=>?_⟩
 have he:∃ q,h'.get? d=some q:=let ⟨q,_,_,hq,_⟩:=dd';⟨q,hq⟩
 refine⟨.non,_,Kn I (by rw[hD];exact True.intro) hs he (Oj ?_ hd1 (KV.merge rel2 rel1) dd'),rfl,q⟩
 have:=D5 more kvs
 exact A6 (by omega)
end
theorem Hs:entryFor table "dict.update.loop" = some Builtin.«dict.update.loop»:=entryFor_of_tree (by kernel_rfl)
theorem Dv:plainId "dict.update.loop" = true:=by decide +kernel
theorem Ln:typeLookup (.type "list") "keys" = pure none:=by rw[typeLookup_type,builtinLookup_eq_fast];kernel_rfl
section
variable {prog:Program}{w:World}{κ:Type}[DecidableEq κ]{knd:KeyKind prog w κ}{A:Around}{E:Value->Shared->Prop}{s:Shared}
theorem T2 {a:Addr}{xs:Array Value}{k:Nat}{Q:Option Value->Shared->Prop}(hx:s.heap.get? a=some { cls:=.type "list",data:=.seq xs k })(hA:A.handled=none)
  (h:∀ h' tk,(∀ b o,s.heap.get? b=some o->h'.get? b=some o)->Q none { s with heap:=h',toks:=tk }):wpAny (model prog w) A (getAttr? (.ref a) "keys") Q E s:=by
 obtain⟨hp,g,d,tk,os⟩:=s
 have hT:∀ tk',(⟨hp,g,d,tk',os⟩:Shared).TypeIs (.ref a) "list":=fun _=>⟨_,hx,rfl⟩
 have f1:=sub_AttributeError
 have f3:=F.slot_list_getattribute.lookup
 have f4:=F.slot_list_getattribute.bind (.ref a)
 have f5:=am_list_getattr_none
 unfold getAttr? getAttrBy? getAttrBy
 repeat (any_goals (first | assumption | exact hT _ | ((with_reducible show wpAny _ _ (call (Value.builtin "list.__getattribute__") _ _) _ _ _);refine call_meets F.slot_list_getattribute (hT _) am_entry_list_getattribute (F.args_list_getattribute_2 _ _) (meets_getattribute_miss_list a xs k #[] "keys" _ Ln (by decide +kernel) (by rw[sizeLine_eq];decide +kernel)) ⟨hx,hA,fun h' tk' e hx'=>?_⟩) | wp_step))
 obtain⟨t',u',he⟩:=hx'.there
 show wpAny _ _ (getattributeRaised _ _ _ _ _ _ _) _ _ _
 unfold getattributeRaised
 repeat (any_goals (first | assumption | wp_step))
 exact h _ _ hx'.keeps
theorem Pr {t:Addr}{k v:Value}{Q:List Value->Shared->Prop}(ht:IsTup s.heap t #[k,v])(h:Q [k,v] s):wpAny (model prog w) A (Builtin.Dict.pairItems (.ref t)) Q E s:=by
 obtain⟨o,ho,hc,n,hd⟩:=ht
 unfold Builtin.Dict.pairItems
 refine wpAny_bind (wpAny_typeOf ⟨o,ho,hc⟩ ?_)
 rw[if_pos (by decide)]
 refine wpAny_bind (wpAny_seqItems ho hd ?_)
 exact wpAny_pure h
theorem Tf {I D l:Addr}{items:Array Value}(hh:A.in1.handled=none)(hne:l≠I)(hDI:D≠I)(hDl:D≠l)(pk:List (κ×Value×Addr×Value))(hlen:pk.length=items.size)(hz:items.size<=1000000) :
  ∀(j i:Nat) (s:Shared) (R:Result->Shared->Prop),items.size-i=j->i<=items.size->s.heap.IsListIter I l i->s.heap.IsList l items ->
   s.heap.DictOf knd D (merged [] ((pk.take i).map fun p=>(p.1,p.2.1))) ->
   (∀(n:Nat) (p:κ×Value×Addr×Value),pk[n]? = some p->items[n]? = some (Value.ref p.2.2.1)/\p.2.2.1≠I/\p.2.2.1≠D/\IsTup s.heap p.2.2.1 #[p.2.2.2,p.2.1]/\knd.is p.1 p.2.2.2=true) ->
   (∀ h' tk,h'.DictOf knd D (merged [] (pk.map fun p=>(p.1,p.2.1)))->(∀ b o,b≠D->b≠I->s.heap.get? b=some o->h'.get? b=some o)->R (.ok (.ret .none)) { s with heap:=h',toks:=tk }) ->
   codeAny (model prog w) A (.builtin "dict.update.loop" ⟨[.ref D,.ref I,.int i 0,.none],[]⟩) R s:=by
 have W:=Walks.list (prog:=prog) (w:=w) hh I l hne items
 intro j
 induction j with
 | zero=>
   intro i s R hj hi hI hL hD hP hR
   have hin:i=items.size:=by omega
   subst hin
   refine codeAny_builtin Hs ?_
   rw[Around.under_plainId Dv _]
   show wpAny _ A.in1 (pyNext (.ref I) >>= _) _ _ s
   refine wpAny_bind (W.done s _ _ ⟨hI,hL⟩ fun h' tk hm=>?_)
   show wpAny _ A.in1 (Builtin.Dict.addKeywords D [] >>= _) _ _ _
   refine wpAny_bind (wpAny_pure (wpAny_pure (hR h' tk ?_ fun b o hb hb' e=>hm b o (by simpa using hb') e)))
   rw[<- hlen,List.take_length] at hD
   obtain⟨o,es,ep,ho,r⟩:=hD
   exact⟨o,es,ep,hm D o (by simpa using hDI) ho,r⟩
 | succ j ih=>
   intro i s R hj hi hI hL hD hP hR
   have hlt:i<items.size:=by omega
   obtain⟨p,hp⟩:∃ p,pk[i]? = some p:=⟨pk[i]'(by omega),List.getElem?_eq_getElem _⟩
   obtain⟨q1,q2,q3,q4,q5⟩:=hP i p hp
   refine codeAny_builtin Hs ?_
   rw[Around.under_plainId Dv _]
   show wpAny _ A.in1 (pyNext (.ref I) >>= _) _ _ s
   refine wpAny_bind (W.item i s _ _ hlt ⟨hI,hL⟩ fun v h' tk hv hst hm=>?_)
   have hv':v = .ref p.2.2.1:=by
    have hv2:items[i]? = some v:=hv
    rw[q1] at hv2
    exact(Option.some.inj hv2).symm
   subst hv'
   have ht':IsTup h' p.2.2.1 #[p.2.2.2,p.2.1]:=by
    obtain⟨o,ho,r⟩:=q4
    exact⟨o,hm _ o (by simpa using q2) ho,r⟩
   have hD':h'.DictOf knd D (merged [] ((pk.take i).map fun p=>(p.1,p.2.1))):=by
    obtain⟨o,es,ep,ho,r⟩:=hD
    exact⟨o,es,ep,hm D o (by simpa using hDI) ho,r⟩
   show wpAny _ A.in1 (holding [Value.ref p.2.2.1] _ >>= _) _ _ _
   refine wpAny_bind (wpAny_holding ?_)
   refine wpAny_bind (wpAny_tryCatch (Pr ht' ?_))
   show wpAny _ A.in1 (holding [p.2.2.2,p.2.1] (dictSet D p.2.2.2 p.2.1)) _ _ _
   refine wpAny_holding (wpAny_dictSet_pairs q5 hD' (fun h'' hD'' hs=>?_) ?_)
   . refine wpAny_pure ⟨plainId_quiet Dv _,?_⟩
     have hkeep:∀ b o,b≠D->b≠I->s.heap.get? b=some o->h''.get? b=some o:=fun b o h1 h2 e=>(hs.2 b h1).trans (hm b o (by simpa using h2) e)
     refine ih (i+1) _ R (by omega) hlt ?_ ?_ ?_ (fun n p' hp'=>?_) fun h3 tk3 hD3 hk3=>hR h3 tk3 hD3 fun b o h1 h2 e=>hk3 b o h1 h2 (hkeep b o h1 h2 e)
     . exact hst.1.at fun o e=>(hs.2 I (Ne.symm hDI)).trans e
     . exact hst.2.at fun o e=>(hs.2 l (Ne.symm hDl)).trans e
     . have e:merged [] ((pk.take (i+1)).map fun p=>(p.1,p.2.1))=stored (merged [] ((pk.take i).map fun p=>(p.1,p.2.1))) p.1 p.2.1:=by
        rw[List.take_add_one,hp]
        unfold merged
        rw[List.map_append,List.foldl_append]
        rfl
       rw[e]
       exact hD''
     obtain⟨a1,a2,a3,⟨o,ho,r⟩,a5⟩:=hP n p' hp'
     exact⟨a1,a2,a3,⟨o,hkeep _ o a3 a2 ho,r⟩,a5⟩
   refine Nat.le_trans (merged_length_le _ _) (A6 ?_)
   rw[List.length_map,List.length_take]
   simp
   omega
theorem Ii {l:Addr}{items:Array Value}{n:Nat}{Q:Value->Shared->Prop}(hl:s.heap.get? l=some { cls:=.type "list",data:=.seq items n })(hA:A.handled=none)(pk:List (κ×Value×Addr×Value))(hlen:pk.length=items.size)(hz:items.size<=1000000)
  (hP:∀(n:Nat) (p:κ×Value×Addr×Value),pk[n]? = some p->items[n]? = some (Value.ref p.2.2.1)/\IsTup s.heap p.2.2.1 #[p.2.2.2,p.2.1]/\knd.is p.1 p.2.2.2=true)
  (h:∀ h' tk,h'.DictOf knd s.heap.objs.size (merged [] (pk.map fun p=>(p.1,p.2.1)))->(∀ b o,s.heap.get? b=some o->h'.get? b=some o)->Q (.ref s.heap.objs.size) { s with heap:=h',toks:=tk }) :
  wpAny (model prog w) A (call (.type "dict") [.ref l]) Q E s:=by
 refine callType_codes (Q₁:=fun obj s₁=>obj = .ref s.heap.objs.size/\s₁={ s with heap:=s.heap.push { cls:=.type "dict",data:=.dict #[] } }) F.kt_called_dict (F.kt_typeCall_dict_1 _) F.entry_dict_init (kt_code_dict_new _ ⟨rfl,rfl⟩) ?_
 rintro obj s₁ ⟨rfl,rfl⟩
 have hnew:(s.heap.push { cls:=.type "dict",data:=.dict #[] }).DictOf knd s.heap.objs.size []:=Heap.DictOf.new s.heap
 have hl':(s.heap.push { cls:=.type "dict",data:=.dict #[] }).get? l=some { cls:=.type "list",data:=.seq items n }:=Heap.get?_push_of_some _ hl
 have hll:l<s.heap.objs.size:=Heap.lt_size hl
 refine⟨hnew.typeIs,F.args_dict_init_2 _ _,?_⟩
 unfold Builtin.«dict.__init__»
 refine wpAny_bind ?_
 unfold Builtin.Dict.selfAndRest
 refine wpAny_bind (wpAny_notOrdered_dict hnew.typeIs ?_)
 show wpAny _ _ (pure (s.heap.objs.size,[Value.ref l])) _ _ _
 refine wpAny_pure ?_
 show wpAny _ _ (Builtin.Dict.updateFrom "dict.__init__" s.heap.objs.size (.ref l) [] .none) _ _ _
 unfold Builtin.Dict.updateFrom
 refine wpAny_bind (wpAny_typeOf ⟨_,hl',rfl⟩ ?_)
 rw[if_pos (by decide)]
 refine wpAny_bind (T2 hl' (by simpa using hA) fun h1 tk1 hk1=>?_)
 have hl1:h1.get? l=some { cls:=.type "list",data:=.seq items n }:=hk1 _ _ hl'
 rw[if_pos (show(none:Option Value).isNone=true from rfl)]
 have hD1:h1.DictOf knd s.heap.objs.size []:=by
  obtain⟨o,es,ep,ho,r⟩:=hnew
  exact⟨o,es,ep,hk1 _ _ ho,r⟩
 have hsz:s.heap.objs.size<h1.objs.size:=by
  obtain⟨o,es,ep,ho,r⟩:=hD1
  exact Heap.lt_size ho
 refine wpAny_bind (wpAny_rule ?_)
 have hL1:h1.IsList l items:=⟨_,hl1,rfl,n,rfl⟩
 refine wpAny_bind (wpAny_pyIter_list hL1 ?_)
 refine wpAny_pure ⟨plainId_quiet Dv _,?_⟩
 have kp:∀ b o,s.heap.get? b=some o->(h1.push { cls:=.type "list_iterator",data:=.fields #[.ref l,.int 0 0] }).get? b=some o:=fun b o e=>Heap.get?_push_of_some _ (hk1 _ _ (Heap.get?_push_of_some _ e))
 refine Tf (knd:=knd) (A:=A.in1) (I:=h1.objs.size) (D:=s.heap.objs.size) (l:=l) (items:=items) (by simpa using hA) (Nat.ne_of_lt (Nat.lt_trans hll hsz)) (Nat.ne_of_lt hsz) (Nat.ne_of_gt hll) pk hlen hz items.size 0 _ _ (Nat.sub_zero _) (Nat.zero_le _) ⟨_,Heap.get?_push_size _ rfl,rfl,rfl⟩ (hL1.push _) ?_ (fun m p hp=>?_) fun h' tk hD hk=>?_
 . exact hD1.push _
 . obtain⟨a1,⟨o,ho,r⟩,a3⟩:=hP m p hp
   have hlt:=Heap.lt_size ho
   exact⟨a1,Nat.ne_of_lt (Nat.lt_trans hlt hsz),Nat.ne_of_lt hlt,⟨o,kp _ _ ho,r⟩,a3⟩
 refine⟨rfl,h h' tk hD fun b o e=>?_⟩
 have hlt:=Heap.lt_size e
 exact hk b o (Nat.ne_of_lt hlt) (Nat.ne_of_lt (Nat.lt_trans hlt hsz)) (kp b o e)
end
def PrsK (K:PySem.W.Frag)(H:Hp):List (Key×V)->List V->Prop
 | [],ys=>ys=[]
 | kv :: r,ys=>∃ t ys',ys = .ref t :: ys'/\SqT K H t [kV kv.1,kv.2]/\PrsK K H r ys'
theorem PrsK.pk {X:Cx}{pins:List (Addr×Obj)}{σ:St}{H:Hp}{s:Shared}(I:Inv X pins σ H s):∀(kvs:List (Key×V)) (ys:List V) (its:List Value),PrsK X.K H kvs ys->Vals ys its ->
  ∃ pk:List (Key×Value×Addr×Value),pk.length=its.length/\KV kvs (pk.map fun p=>(p.1,p.2.1))/\∀(n:Nat) (p:Key×Value×Addr×Value),pk[n]? = some p->its[n]? = some (Value.ref p.2.2.1)/\IsTup s.heap p.2.2.1 #[p.2.2.2,p.2.1]/\(B5 X.prog X.w).is p.1 p.2.2.2=true
 | [],ys,its,h,v=>by
   have h':ys=[]:=h
   subst h'
   cases v
   exact ⟨[],rfl,.nil,fun n p hp=>by simp at hp⟩
 | kv :: r,ys,its,h,v=>by
   obtain⟨t,ys',rfl,h2,h3⟩:=h
   cases v with
   | cons v1 v2=>
     obtain⟨pk,l1,l2,l3⟩:=PrsK.pk I r ys' _ h3 v2
     cases v1
     obtain ⟨its2,rv,ht,_⟩:=I.tuple h2
     obtain⟨key,val,rfl,a1,a3⟩:=Vals.two rv
     refine⟨(kv.1,val,t,key) :: pk,by simp[l1],.cons ⟨rfl,a3⟩ l2,fun n p hp=>?_⟩
     cases n with
     | zero=>
       have:p=(kv.1,val,t,key):=(Option.some.inj (by simpa using hp)).symm
       subst this
       exact⟨rfl,ht,Ni a1⟩
     | succ n=>exact l3 n p (by simpa using hp)
section
variable {X:Cx}{K:PySem.W.Frag}
def S4 (K:PySem.W.Frag):List V->Hp->VK->Prop:=fun xs H Q=>∃ l ys kvs,xs=[V.ref l]/\H l=some (.lst ys)/\PrsK K H kvs ys/\ys.length<=1000000/\kvs.length<=1000000/\∀ p,H p=none->Q (.ref p) (upd H p (.dK (Df [] kvs)))
theorem Q7 (hr:X.A.handled=none):CallR X (.type "dict") (S4 X.K):=by
 intro pins s σ H xs us Q I rv h
 obtain⟨l,ys,kvs,rfl,hl,hp,hz,hz2,q⟩:=h
 obtain⟨u,rfl,ru⟩:=rv.one
 cases ru
 obtain⟨z,its,n,r,hlen,e⟩:=I.lstM hl
 obtain⟨pk,l1,l2,l3⟩:=PrsK.pk I kvs ys its hp r
 refine Ii (knd:=B5 X.prog X.w) e hr pk (by simpa using l1) (by simp;omega) (fun n p hp=>?_) fun h' tk hD hk=>?_
 . obtain⟨a1,a2,a3⟩:=l3 n p hp
   exact⟨by simpa using a1,a2,a3⟩
 refine⟨.ref s.heap.objs.size,_,I.laid hk (Nat.le_refl _) (Oj ?_ ?_ (KV.merge l2 .nil) hD),rfl,q _ (I.hok.fresh (Nat.le_refl _))⟩
 . have:=D5 kvs []
   exact A6 (by simpa using Nat.le_trans this (by simpa using hz2))
 exact beq_eq_false_iff_ne.mpr (Nat.ne_of_gt I.big)
theorem Jl (hr:X.A.handled=none)(hK:X.K=K:=by ac_nf):CallR X (.type "dict") (S4 K):=hK ▸ Q7 hr
end
def Mz (ns:List Str)(as:List Addr):List (Key×V):=(ns.zip as).map fun p=>(Sum.inr p.1,V.ref p.2)
def Fl (ks:List Str):List (Key×V):=ks.map fun y=>(Sum.inr y,V.bl true)
theorem He:∀ {ns:List Str} {as:List Addr} {i:Nat} {z:Str} {a:Addr},ns.Nodup->ns[i]? = some z->as[i]? = some a->Gz (Mz ns as) (Sum.inr z:Key)=some (.ref a)
 | [],_,i,_,_,_,h,_=>by simp at h
 | n :: ns,[],i,_,_,_,_,h=>by simp at h
 | n :: ns,b :: as,0,z,a,_,h,g=>by
   simp at h g
   subst h g
   exact Fy rfl
 | n :: ns,b :: as,i+1,z,a,hn,h,g=>by
   rw[List.nodup_cons] at hn
   have h':ns[i]? = some z:=by simpa using h
   have ne:¬ (Sum.inr n:Key)=Sum.inr z:=by
    intro e
    have e2:n=z:=by injection e
    subst e2
    exact hn.1 (List.mem_of_getElem? h')
   show Gz ((Sum.inr n,V.ref b) :: Mz ns as) _=_
   rw[Fn ne]
   exact He hn.2 h' (by simpa using g)
theorem L3 (y:Str):∀ ks:List Str,Gz (Fl ks) (Sum.inr y:Key)=if y∈ks then some (.bl true) else none
 | []=>by simp[Fl,U4]
 | k :: ks=>by
   show Gz ((Sum.inr k,V.bl true) :: Fl ks) _=_
   by_cases e:k=y
   . subst e
     rw[Fy rfl,if_pos List.mem_cons_self]
   rw[Fn (by intro q;injection q with q;exact e q),L3 y ks]
   have:(y∈k :: ks)↔y∈ks:=by simp[Ne.symm e]
   simp only[this]
def V7 (ks:List Str)(y:Str):List Str:=if y∈ks then ks else ks++[y]
theorem mem_addK {ks:List Str}{y z:Str}:z∈V7 ks y↔z∈ks\/z=y:=by
 unfold V7
 split
 . constructor
   . exact .inl
   rintro(h | rfl)
   . exact h
   assumption
 simp
theorem Jj {ks:List Str}{y:Str}(h:ks.Nodup):(V7 ks y).Nodup:=by
 unfold V7
 split
 . exact h
 rename_i hy
 rw[List.nodup_append]
 refine⟨h,by simp,fun a ha b hb e=>?_⟩
 have:b=y:=by simpa using hb
 subst this
 subst e
 exact hy ha
theorem Xy (y:Str)(ks:List Str):((Fl ks).any fun kv=>decide (kv.1=(Sum.inr y:Key)))=decide (y∈ks):=by
 induction ks with
 | nil=>simp[Fl]
 | cons k ks ih=>
   show(decide ((Sum.inr k:Key)=Sum.inr y)||(Fl ks).any _)=_
   rw[ih]
   by_cases e:k=y
   . subst e;simp
   have e':¬ (Sum.inr k:Key)=Sum.inr y:=by intro q;injection q with q;exact e q
   simp[e',Ne.symm e]
theorem Rl (ks:List Str)(y:Str):Go (Fl ks) (Sum.inr y:Key) (.bl true)=Fl (V7 ks y):=by
 unfold Go V7
 rw[Xy]
 by_cases h:y∈ks
 . rw[if_pos (decide_eq_true h),if_pos h]
   unfold Fl
   rw[List.map_map]
   refine List.map_congr_left fun k _=>?_
   show(if(Sum.inr k:Key)=Sum.inr y then(Sum.inr k,V.bl true) else(Sum.inr k,V.bl true))=_
   split<;>rfl
 rw[if_neg (by simpa using h),if_neg h]
 unfold Fl
 rw[List.map_append]
 rfl
def Ic (ks ms:List Str):List Str:=ms.foldl V7 ks
theorem M2:∀(ms ks:List Str),Df (Fl ks) (Fl ms)=Fl (Ic ks ms)
 | [],ks=>rfl
 | m :: ms,ks=>by
   show Df (Go (Fl ks) (Sum.inr m) (.bl true)) (Fl ms)=_
   rw[Rl,M2 ms]
   rfl
theorem mem_addAll:∀ {ms ks:List Str} {z:Str},z∈Ic ks ms↔z∈ks\/z∈ms
 | [],ks,z=>by simp[Ic]
 | m :: ms,ks,z=>by
   show z∈Ic (V7 ks m) ms↔_
   rw[mem_addAll,mem_addK,List.mem_cons,or_assoc]
theorem Gj:∀ {ms ks:List Str},ks.Nodup->(Ic ks ms).Nodup
 | [],ks,h=>h
 | m :: ms,ks,h=>Gj (ms:=ms) (Jj h)
theorem Nz (ks:List Str):(Fl ks).length=ks.length:=by simp[Fl]
theorem Iz:∀(kvs acc:List (Key×V)),(kvs.map (·.1)).Nodup->(∀ k∈kvs,∀ q∈acc,q.1≠k.1)->Df acc kvs=acc++kvs
 | [],acc,_,_=>by simp[Df]
 | k :: kvs,acc,hn,hd=>by
   show Df (Go acc k.1 k.2) kvs=_
   have e:Go acc k.1 k.2=acc++[k]:=by
    unfold Go
    have:¬ (acc.any fun kv=>decide (kv.1=k.1))=true:=by
     rw[List.any_eq_true]
     rintro⟨q,hq,e⟩
     exact hd k List.mem_cons_self q hq (of_decide_eq_true e)
    rw[if_neg this]
   rw[List.map_cons,List.nodup_cons] at hn
   rw[e,Iz kvs (acc++[k]) hn.2 fun x hx q hq=>?_,List.append_assoc]
   . rfl
   rcases List.mem_append.mp hq with hq | hq
   . exact hd x (List.mem_cons_of_mem _ hx) q hq
   have:q=k:=by simpa using hq
   subst this
   intro e
   exact hn.1 (List.mem_map.mpr ⟨x,hx,e.symm⟩)
structure Tab (H:Hp)(r:Addr)(ns:List Str)(as:List Addr)(R:Str->Str->Prop):Prop where
 len:as.length=ns.length
 nd:as.Nodup
 nr:r∉as
 top:H r=some (.dK (Mz ns as))
 row:∀(i:Nat) (z:Str) (a:Addr),ns[i]? = some z->as[i]? = some a->∃ ks:List Str,H a=some (.dK (Fl ks))/\ks.Nodup/\(∀ y∈ks,y∈ns)/\∀ y,y∈ks↔R z y
theorem Tab.same {H H':Hp}{r:Addr}{ns:List Str}{as:List Addr}{R:Str->Str->Prop}(h:Tab H r ns as R)(e:Same H H'):Tab H' r ns as R:=
 ⟨h.len,h.nd,h.nr,e _ _ h.top,fun i z a hz ha=>let ⟨ks,h1,h2⟩:=h.row i z a hz ha;⟨ks,e _ _ h1,h2⟩⟩
theorem Tab.congr {H:Hp}{r:Addr}{ns:List Str}{as:List Addr}{R R':Str->Str->Prop}(h:Tab H r ns as R)(e:∀ z∈ns,∀ y,R z y↔R' z y):Tab H r ns as R':=
 ⟨h.len,h.nd,h.nr,h.top,fun i z a hz ha=>let ⟨ks,h1,h2,h3,h4⟩:=h.row i z a hz ha;⟨ks,h1,h2,h3,fun y=>(h4 y).trans (e z (List.mem_of_getElem? hz) y)⟩⟩
theorem Tab.put {H H':Hp}{r b:Addr}{ns:List Str}{as:List Addr}{R R':Str->Str->Prop}(h:Tab H r ns as R)(e:ExtBut b H H'){j:Nat}{x:Str}(hn:ns.Nodup)(hj:ns[j]? = some x)(hb:as[j]? = some b){ks:List Str}
  (hk:H' b=some (.dK (Fl ks))) (k1:ks.Nodup) (k2:∀ y∈ks,y∈ns) (k3:∀ y,y∈ks↔R' x y) (k4:∀ z∈ns,z≠x->∀ y,R z y↔R' z y):Tab H' r ns as R':=by
 refine⟨h.len,h.nd,h.nr,e _ _ (fun q=>h.nr (q ▸ List.mem_of_getElem? hb)) h.top,fun i z a hz ha=>?_⟩
 by_cases hij:i=j
 . subst hij
   rw[hz] at hj
   cases hj
   rw[ha] at hb
   cases hb
   exact⟨ks,hk,k1,k2,k3⟩
 obtain⟨ms,h1,h2,h3,h4⟩:=h.row i z a hz ha
 have hab:a≠b:=by
  intro q
  subst q
  obtain⟨p1,p2⟩:=List.getElem?_eq_some_iff.mp ha
  obtain⟨q1,q2⟩:=List.getElem?_eq_some_iff.mp hb
  exact hij ((List.getElem_inj h.nd).mp (p2.trans q2.symm))
 have hzx:z≠x:=by
  intro q
  subst q
  obtain⟨p1,p2⟩:=List.getElem?_eq_some_iff.mp hz
  obtain⟨q1,q2⟩:=List.getElem?_eq_some_iff.mp hj
  exact hij ((List.getElem_inj hn).mp (p2.trans q2.symm))
 exact⟨ms,e _ _ hab h1,h2,h3,fun y=>(h4 y).trans (k4 z (List.mem_of_getElem? hz) hzx y)⟩
theorem Tab.at {H:Hp}{r:Addr}{ns:List Str}{as:List Addr}{R:Str->Str->Prop}(h:Tab H r ns as R){x:Str}(hx:x∈ns):∃(i:Nat) (a:Addr),ns[i]? = some x/\as[i]? = some a:=by
 obtain⟨i,hi,e⟩:=List.getElem_of_mem hx
 have hi':i<as.length:=by rw[h.len];exact hi
 exact⟨i,as[i],by rw[List.getElem?_eq_getElem hi,e],List.getElem?_eq_getElem hi'⟩
section
variable {K:PySem.W.Frag}{H:Hp}{Q:VK}{r:Addr}{ns:List Str}{as:List Addr}{R:Str->Str->Prop}
theorem Nx {x:Str}{i:Nat}{a:Addr}(h:Tab H r ns as R)(hn:ns.Nodup)(hx:ns[i]? = some x)(ha:as[i]? = some a)(k:Q (.ref a) H):N6 K (.ref r) (.str x) H Q:=i_ixD h.top (He hn hx ha) k
theorem Qf {a:Addr}{ks:List Str}{y:Str}(h:H a=some (.dK (Fl ks)))(k:Q (.bl (decide (y∈ks))) H):Q6 K false (.str y) (.ref a) H Q:=by
 refine .inr (.inr (.inl ⟨a,Gz (Fl ks) (Sum.inr y:Key),rfl,DGet.k (k:=Sum.inr y) h,?_⟩))
 rw[L3]
 by_cases e:y∈ks
 . rw[if_pos e];simpa[e] using k
 rw[if_neg e];simpa[e] using k
theorem a33 {a:Addr}{kvs:List (Key×V)}{B:Prop}(h:H a=some (.dK kvs))(k:B):tyV K "dict" (.ref a) H/\B:=⟨.inr (.inr (.inl ⟨rfl,.inl ⟨kvs,h⟩⟩)),k⟩
theorem aa3 {d o:Addr}{ks ms:List Str}(hd:H d=some (.dK (Fl ks)))(ho:H o=some (.dK (Fl ms)))(hne:d≠o)(hz:ks.length+ms.length<=1000000)(k:∀ H',ExtBut d H H'->H' d=some (.dK (Fl (Ic ks ms)))->Q .non H'):O5 (.ref d) [.ref o] H Q:=
 ⟨d,o,_,_,rfl,rfl,hne,hd,ho,by rw[Nz,Nz];exact hz,k _ ExtBut.upd (by rw[A9,M2])⟩
end
structure HalfW (ns:List Str)(ps:List (Str×Str)):Prop where
 nd:ns.Nodup
 mem:∀ p∈ps,p.1∈ns/\p.2∈ns
 irr:∀ x,¬ Way ps x x
 few:ns.length<=100
 le:ps.length<=1000
theorem Half.w {ns:List Str}{ps:List (Str×Str)}(h:Half ns ps):HalfW ns ps:=⟨h.names.1,fun p hp=>h.mem hp,fun _=>h.irrefl,Nat.le_trans h.few (by decide),Nat.le_trans h.le (by decide)⟩
structure War (ns:List Str)(ps:List (Str×Str))(ms:List Str)(R:Str->Str->Prop):Prop where
 snd:∀ z y,R z y->Way ps z y
 edge:∀ z y,(z,y)∈ps->R z y
 shut:∀ m∈ms,∀ z y,R z m->R m y->R z y
def Va (R:Str->Str->Prop)(mid:Str)(ms:List Str)(z y:Str):Prop:=R z y\/(z∈ms/\R z mid/\R mid y)
theorem War.step {ns:List Str}{ps:List (Str×Str)}{ms:List Str}{R:Str->Str->Prop}(h:War ns ps ms R){mid:Str}:War ns ps (ms++[mid]) (fun z y=>R z y\/(R z mid/\R mid y)):=by
 refine⟨fun z y hz=>?_,fun z y hz=>.inl (h.edge z y hz),fun m hm z y h1 h2=>?_⟩
 . rcases hz with hz | ⟨h1,h2⟩
   . exact h.snd z y hz
   exact(h.snd _ _ h1).trans (h.snd _ _ h2)
 rcases List.mem_append.mp hm with hm | hm
 . rcases h1 with h1 | ⟨h1,h1'⟩
   . rcases h2 with h2 | ⟨h2,h2'⟩
     . exact .inl (h.shut m hm z y h1 h2)
     exact .inr ⟨h.shut m hm z mid h1 h2,h2'⟩
   rcases h2 with h2 | ⟨h2,h2'⟩
   . exact .inr ⟨h1,h.shut m hm mid y h1' h2⟩
   exact .inr ⟨h1,h2'⟩
 have e:m=mid:=by simpa using hm
 subst e
 rcases h1 with h1 | ⟨h1,h1'⟩
 . rcases h2 with h2 | ⟨h2,h2'⟩
   . exact .inr ⟨h1,h2⟩
   exact .inr ⟨h1,h2'⟩
 rcases h2 with h2 | ⟨h2,h2'⟩
 . exact .inr ⟨h1,h2⟩
 exact .inr ⟨h1,h2'⟩
theorem War.done {ns:List Str}{ps:List (Str×Str)}{R:Str->Str->Prop}(h:War ns ps ns R)(hm:∀ p∈ps,p.1∈ns/\p.2∈ns)(z y:Str):R z y↔Way ps z y:=by
 refine⟨h.snd z y,fun g=>?_⟩
 induction g with
 | one e=>exact h.edge _ _ e
 | cons e _ ih=>exact h.shut _ (hm _ e).2 _ _ (h.edge _ _ e) ih
theorem PrsK.fz {K:PySem.W.Frag} {H H':Hp} (e:Fz H H'):∀ {kvs:List (Key×V)} {ys:List V},PrsK K H kvs ys->PrsK K H' kvs ys
 | [],_,h=>h
 | kv :: r,ys,⟨t,ys',h1,h2,h3⟩=>⟨t,ys',h1,e.seq h2,PrsK.fz e h3⟩
theorem PrsK.snoc {K:PySem.W.Frag}{H:Hp}{kv:Key×V}{t:Addr}(h:SqT K H t [kV kv.1,kv.2]):∀ {kvs:List (Key×V)} {ys:List V},PrsK K H kvs ys->PrsK K H (kvs++[kv]) (ys++[.ref t])
 | [],ys,g=>by
   have g':ys=[]:=g
   subst g'
   exact⟨t,[],rfl,h,rfl⟩
 | k :: r,ys,⟨u,ys',h1,h2,h3⟩=>by
   subst h1
   exact⟨u,ys'++[.ref t],rfl,h2,PrsK.snoc h h3⟩
theorem PrsK.length {K:PySem.W.Frag}{H:Hp}:∀ {kvs:List (Key×V)} {ys:List V},PrsK K H kvs ys->ys.length=kvs.length
 | [],ys,g=>by
   have g':ys=[]:=g
   subst g'
   rfl
 | k :: r,ys,⟨u,ys',h1,h2,h3⟩=>by
   subst h1
   simp[PrsK.length h3]
theorem Vh {K:PySem.W.Frag}{H:Hp}{Q:VK}{l:Addr}{ys:List V}{kvs:List (Key×V)}(h:H l=some (.lst ys))(g:PrsK K H kvs ys)(hz:kvs.length<=1000000)(k:∀ p H',H p=none->Same H H'->H' p=some (.dK (Df [] kvs))->Q (.ref p) H'):S4 K [.ref l] H Q:=
 ⟨l, ys,kvs,rfl,h,g,by rw[g.length];exact hz,hz,fun p hp=>k p _ hp (Same.upd hp) A9⟩
theorem Kt:∀ {ns:List Str} {as:List Addr},ns.Nodup->((Mz ns as).map (·.1)).Nodup
 | [],as,_=>by simp[Mz]
 | n :: ns,[],_=>by simp[Mz]
 | n :: ns,a :: as,h=>by
   rw[List.nodup_cons] at h
   show((Sum.inr n:Key) :: (Mz ns as).map (·.1)).Nodup
   rw[List.nodup_cons]
   refine⟨fun hm=>?_,Kt h.2⟩
   obtain⟨kv,hkv,e⟩:=List.mem_map.mp hm
   obtain⟨p,hp,rfl⟩:=List.mem_map.mp hkv
   have e':p.1=n:=by injection e
   exact h.1 (e' ▸ (List.of_mem_zip hp).1)
theorem P8 {ns:List Str}{as:List Addr}{z:Str}{a:Addr}(h:ns.length=as.length):Mz (ns++[z]) (as++[a])=Mz ns as++[(Sum.inr z,V.ref a)]:=by
 unfold Mz
 rw[List.zip_append h,List.map_append]
 rfl
end L2
namespace L2
open PySem PySem.Spec PyProof.Rows
open Classical in
def Cc (ps:List (Str×Str))(x y:Str):Bool:=decide (Way ps x y)
theorem wayB_iff {ps:List (Str×Str)} {x y:Str}:Cc ps x y=true↔Way ps x y:=by unfold Cc;simp
theorem Xo {ps:List (Str×Str)}{x y:Str}{b:Bool}(h:b=true↔Way ps x y):b=Cc ps x y:=by
 cases hb:Cc ps x y with
 | true=>exact h.mpr (wayB_iff.mp hb)
 | false=>
   cases b with
   | false=>rfl
   | true=>
     have:=wayB_iff.mpr (h.mp rfl)
     rw[hb] at this
     cases this
theorem Fq {ps:List (Str×Str)}{x y:Str}{p:Prop}[Decidable p](h:p↔Way ps x y):decide p=Cc ps x y:=Xo (by rw[decide_eq_true_iff];exact h)
theorem Pq {ps:List (Str×Str)}{x y:Str}(h:¬ Way ps x y):Cc ps x y=false:=by
 cases hb:Cc ps x y with
 | false=>rfl
 | true=>exact absurd (wayB_iff.mp hb) h
theorem iteR {α:Type}{a:α}{A B:Prop}[Decidable (a=a)](h:A):if decide (a=a)=true then A else B:=by rw[if_pos (by simp)];exact h
theorem iteNR {α:Type}{a:α}{A B:Prop}[Decidable (a=a)](h:B):if(!decide (a=a))=true then A else B:=by rw[if_neg (by simp)];exact h
section
variable {K:PySem.W.Frag}{H:Hp}{σ:St}{x:V}{Q:VK}
theorem T0 {ns:List Str}{g:TG}{tt:TT}{te:TE}{k:Nat}{js:List Nat}(h:Is K H (nmD ns) x)(t:Str->Bool)(f:Str->PyData)(hf:∀ a,frz (f a)=true)(hz:ns.length<=1000000)
  (hs:∀(i:Nat) a H1 (R:VK) (R':Hp->Prop),ns[i]? = some a->Same H H1->(t a=true->∀ y H2,Same H1 H2->Is K H2 (f a) y->R y H2)->(t a=false->∀ H2,Same H1 H2->R' H2) ->
   g (.str a) (List.replicate k none++Kw σ js) H1 fun σ2 H2=>tt σ2 H2 fun b H3=>if b=true then te σ2 H3 R else R' H3)
  (hd:∀ p ys H',H p=none->Same H H'->H' p=some (.lst ys)->IsL K H' ((ns.filter t).map f) ys->Q (.ref p) H'):G1 K x H fun J H1=>Ki k js g tt te σ J H1 Q:=by
 obtain⟨a,rfl,hS⟩:=h.nm
 refine Gm hS (D6 (K:=K) (Bw (xs:=ns.map V.str)) ns (by simp) t f hf (by simpa using hz) (fun H' e=>e.seqT hS) (fun i z v H1 R R' hz hv e hR hR'=>?_) hd)
 rw[List.getElem?_map,hz] at hv
 cases hv
 exact hs i z H1 R R' hz e hR hR'
theorem Fu {ns:List Str}{a:Addr}{g:TG}{tt:TT}{te:TE}{k:Nat}{js:List Nat}(h:SqL K H a (ns.map V.str))(t:Str->Bool)(f:Str->PyData)(hf:∀ a,frz (f a)=true)(hz:ns.length<=1000000)
  (hs:∀(i:Nat) a H1 (R:VK) (R':Hp->Prop),ns[i]? = some a->Same H H1->(t a=true->∀ y H2,Same H1 H2->Is K H2 (f a) y->R y H2)->(t a=false->∀ H2,Same H1 H2->R' H2) ->
   g (.str a) (List.replicate k none++Kw σ js) H1 fun σ2 H2=>tt σ2 H2 fun b H3=>if b=true then te σ2 H3 R else R' H3)
  (hd:∀ p ys H',H p=none->Same H H'->H' p=some (.lst ys)->IsL K H' ((ns.filter t).map f) ys->Q (.ref p) H'):G1 K (.ref a) H fun J H1=>Ki k js g tt te σ J H1 Q:=by
 refine Je h (D6 (K:=K) (Bu (xs:=ns.map V.str)) ns (by simp) t f hf (by simpa using hz) (fun H' e=>e.seq h) (fun i z v H1 R R' hz hv e hR hR'=>?_) hd)
 rw[List.getElem?_map,hz] at hv
 cases hv
 exact hs i z H1 R R' hz e hR hR'
end
end L2
namespace L2
open PySem PySem.Spec PyProof.Rows
open AutoSeq1 (wpAny_loadPart')
section
variable {prog:Program}{w:World}{A:Around}{E:Value->Shared->Prop}{s:Shared}
theorem Xi {it t:Addr}{i:Nat}{items:Array Value}{x:Value}{Q:Value->Shared->Prop}(hit:s.heap.IsTupleIter it t i)(ht:s.heap.IsTuple t items)(hx:items[i]? = some x)
  (hQ:∀ h',h'.IsTupleIter it t (i+1)->Heap.SameBut it s.heap h'->Q x { s with heap:=h' }):wpAny (model prog w) A (Builtin.SmallTypes.nextOf (.ref it)) Q E s:=by
 obtain⟨o,o1,o2,o3⟩:=id hit
 obtain⟨u,u1,_,n,u2⟩:=ht
 unfold Builtin.SmallTypes.nextOf
 refine wpAny_bind (wpAny_callSpecial?_slot (name:=Str.ofString "__next__") hit.typeIs F.slot_tuple_iterator_next (wpAny_call_entry F.slot_tuple_iterator_next hit.typeIs F.entry_tuple_iterator_next ?_ (F.args_tuple_iterator_next_1 _)))
 refine wpAny_bind (m:=field (.ref it) 0) (wpAny_field o1 o3 (x:=.ref t) rfl ?_)
 rw[if_neg (show ¬ ((Value.ref t==Value.none)=true) by intro h;cases h)]
 refine wpAny_bind (m:=field (.ref it) 1) (wpAny_field o1 o3 (x:=.int i 0) rfl ?_)
 refine wpAny_bind (m:=seqItems? (.ref t)) (wpAny_seqItems u1 u2 ?_)
 simp only[Int.toNat_natCast,hx]
 refine wpAny_bind (wpAny_setField o1 o3 (by simp) (wpAny_pure ⟨x,rfl,wpAny_pure (hQ _ ⟨_,Heap.get?_update_self _ o1 (Obj.isFreed_of_fields (Obj.data_mapFields o3 _)),(Obj.cls_mapFields ..).trans o2,?_⟩ (Heap.SameBut.update ..))⟩))
 rw[Obj.data_mapFields o3]
 simp[rawInt]
theorem Z8 {it t:Addr}{i:Nat}{items:Array Value}{Q:Value->Shared->Prop}(hh:A.handled=none)(hit:s.heap.IsTupleIter it t i)(ht:s.heap.IsTuple t items)(hx:items[i]? = none)
  (hE:∀ h' e,Heap.ExtBut it s.heap h'->(∃ o,h'.get? e=some o/\o.cls = .type "StopIteration")->E (.ref e) { s with heap:=h' }):wpAny (model prog w) A (Builtin.SmallTypes.nextOf (.ref it)) Q E s:=by
 obtain⟨o,o1,o2,o3⟩:=id hit
 obtain⟨u,u1,_,n,u2⟩:=ht
 unfold Builtin.SmallTypes.nextOf
 refine wpAny_bind (wpAny_callSpecial?_slot (name:=Str.ofString "__next__") hit.typeIs F.slot_tuple_iterator_next (wpAny_call_entry F.slot_tuple_iterator_next hit.typeIs F.entry_tuple_iterator_next ?_ (F.args_tuple_iterator_next_1 _)))
 refine wpAny_bind (m:=field (.ref it) 0) (wpAny_field o1 o3 (x:=.ref t) rfl ?_)
 rw[if_neg (show ¬ ((Value.ref t==Value.none)=true) by intro h;cases h)]
 refine wpAny_bind (m:=field (.ref it) 1) (wpAny_field o1 o3 (x:=.int i 0) rfl ?_)
 refine wpAny_bind (m:=seqItems? (.ref t)) (wpAny_seqItems u1 u2 ?_)
 simp only[Int.toNat_natCast,hx]
 refine wpAny_bind (wpAny_rule (wpAny_bind (wpAny_setField o1 o3 (by simp) ?_)))
 refine wpAny_bind (m:=newExc (.type "StopIteration") []) ?_
 simp only[newExc,newTuple]
 refine wpAny_bind (wpAny_newObj_type ?_ (by size_fits))
 refine wpAny_bind (m:=firstArgMember _ _) (wpAny_of_eq (a:=Value.none) (by first | rfl | (simp only[firstArgMember];rfl)) (wpAny_newObj_type ?_ (by size_fits)))
 simp only[raiseNew]
 refine wpAny_bind (wpAny_handled ?_)
 first | rw[show A.in1.handled=none from hh] | rw[hh]
 refine wpAny_bind (wpAny_pure (wpAny_throw (hE _ _ (((Heap.SameBut.update ..).extBut.push _).push _) ⟨_,Heap.get?_push_size _ rfl,rfl⟩)))
theorem Oi (hh:A.handled=none)(it t:Addr)(hne:t≠it)(items:Array Value):Draws prog w A it [it,t] items.size (fun i v=>items[i]? = some v) (fun i h=>h.IsTupleIter it t i/\h.IsTuple t items) where
 live:=fun _ _ q=>let ⟨o,ho,_⟩:=q.1;⟨o,ho⟩
 frame:=fun _ _ _ q hk=>⟨q.1.at fun o e=>hk it (by simp) o e,let ⟨o,ho,r⟩:=q.2;⟨o,hk t (by simp) o ho,r⟩⟩
 item:=fun i s Q E hi q hQ=>Xi q.1 q.2 (x:=items[i]) (by simp[hi]) fun h' a b=>hQ _ h' s.toks (by simp[hi]) ⟨a,q.2.extBut b.extBut hne⟩ b
 done:=fun s Q E q hE=>Z8 hh q.1 q.2 (by simp) hE
end
theorem Inv.turnedL {X:Cx}{pins:List (Addr×Obj)}{σ:St}{H:Hp}{s:Shared}{h':Heap}{t':Nat}{ch:List Addr}(I:Inv X pins σ H s)(k:∀ b o,b∉ch->s.heap.get? b=some o->h'.get? b=some o)(hf:∀ b∈ch,O9 X pins H b):Inv X pins σ H { s with heap:=h',toks:=t' }:=by
 have nit:∀ b u,H b=some u->b∉ch:=fun b u e z=>by rw[(hf b z).1] at e;cases e
 refine I.step (g':=s.gens) (d':=s.drawn) (ch:=ch) (fun b hb=>?_) (fun b o _ _ hc e _=>k b o hc e) (fun b o _ _ hc e _=>⟨o.slots,k b o hc e⟩) (fun _ _ _ _ n=>n)
  (fun b o hc e=>⟨o,k b o hc e⟩) (fun _ _ e=>e) (fun _ _ _ e=>e) (fun b ps e=>⟨#[],by rw[e];simp⟩) (fun m hm=>?_) (fun b u e=>?_) I.bare
 . obtain⟨_,h2,_,h4,h5,h6⟩:=hf b hb
   exact⟨h4,h2,h5,h6⟩
 . obtain⟨o,es,ep,ho,r⟩:=hm
   exact⟨o,es,ep,k _ o (fun z=>(hf _ z).2.1 rfl) ho,r⟩
 refine(I.hok b u e).stay (fun c v hc q=>k c v ?_ q) (fun _ q=>q) fun _ _ q=>q
 rcases hc with z | z
 . rw[z];exact nit b u e
 exact nit c _ z
section
variable {X:Cx}{K:PySem.W.Frag}
end
section
variable {K:PySem.W.Frag}{σ:St}{H:Hp}
end
end L2
namespace L2
open PySem PySem.Spec PyProof.Rows
section
variable {X:Cx}{K:PySem.W.Frag}
section
variable {H:Hp}{Q:VK}{lo hi:Option Int}
theorem Jw {a b:Addr}{xs ys:List V}(h1:SqT K H a xs)(h2:SqT K H b ys)(h:xs.length+ys.length<=sizeLine)(k:∀ p H',Same H H'->SqT K H' p (xs++ys)->Q (.ref p) H'):Pt K (.ref a) (.ref b) H Q:=by
 by_cases hx:xs=[]
 . subst hx
   exact .inr (.inr (.inr (.inr ⟨a,b,ys,rfl,rfl,h1,h2,k b H (Same.refl _) h2⟩)))
 refine .inr (.inr (.inr (.inl ⟨a,b,xs,ys,rfl,rfl,h1,h2,hx,h,fun e=>?_,fun _ p hp=>k p _ (Same.upd hp) (SqT.of A9)⟩)))
 subst e
 exact k a H (Same.refl _) (by rw[List.append_nil];exact h1)
theorem Na {a:Addr}{xs:List V}(h:SqT K H a xs)(k:∀ p H',Same H H'->SqT K H' p (J5 xs lo hi)->Q (.ref p) H'):Zr K (.ref a) lo hi H Q:=by
 by_cases hw:HT.sIx xs.length 0 lo=0/\HT.sIx xs.length xs.length hi=xs.length
 . refine .inr (.inr (.inr ⟨a,xs,rfl,h,hw,k a H (Same.refl _) ?_⟩))
   have e:J5 xs lo hi=xs:=by
    unfold J5
    rw[hw.1,hw.2,List.drop_zero,Nat.sub_zero,List.take_length]
   rw[e]
   exact h
 exact .inr (.inl ⟨a,xs,rfl,h,hw,fun p hp=>k p _ (Same.upd hp) (SqT.of A9)⟩)
theorem Z1 {x y:V}{d:PyData}{ds:List PyData}(hx:Is K H d x)(hy:Is K H (.list ds) y\/Is K H (.tuple ds) y)(h1:PyData.canLayAll0 ds=true)(h2:d.canLay0=true)(h3:d.depth<=100)(k:Q (.bl (ds.any fun e=>PyData.eqv e d)) H):Q6 K false x y H Q:=.inr (.inr (.inr ⟨d,ds,hx,hy,h1,h2,h3,k⟩))
end
theorem Gc {H:Hp}{ds:List PyData}{xs:List V}(h:IsL K H ds xs)(lo hi:Option Int):IsL K H ((ds.drop (HT.sIx ds.length 0 lo)).take (HT.sIx ds.length ds.length hi-HT.sIx ds.length 0 lo)) (J5 xs lo hi):=by
 unfold J5
 rw[IsL.length h]
 exact IsL.take _ (IsL.drop _ h)
end
section
variable {K:PySem.W.Frag}{σ:St}{H:Hp}{Q:VK}{td ty:TE}
theorem i_andV {ta tb:TE}(k:ta σ H fun x H1=>∃ c,x = .bl c/\if c=true then tb σ H1 Q else Q (.bl false) H1):Zk ta tb σ H Q:=k
theorem i_notV {ta:TE}(k:ta σ H fun x H1=>∃ c,x = .bl c/\Q (.bl (!c)) H1):a00 ta σ H Q:=k
theorem Xr {a:Addr}{bs:List Bool}(h:SqL K H a (bs.map V.bl))(k:Q (.bl (bs.all id)) H):Q6 K true (.bl false) (.ref a) H Q:=.inl ⟨a,_,rfl,.inl h,rfl,by
  rw[List.all_eq_true]
  intro v h
  obtain⟨n,_,rfl⟩:=List.mem_map.mp h
  rfl,by
  have e:(!inV (.bl false) (bs.map V.bl))=bs.all id:=by
   clear h k
   unfold inV
   induction bs with
   | nil=>rfl
   | cons b bs ih=>
     rw[List.map_cons,List.any_cons,List.all_cons,Bool.not_or,ih]
     cases b<;>rfl
  show Q (.bl (!inV (.bl false) (bs.map V.bl))) H
  rw[e]
  exact k⟩
theorem V8 {a:Addr}{bs:List Bool}(h:SqL K H a (bs.map V.bl))(k:Q (.bl (!bs.all id)) H):Q6 K false (.bl false) (.ref a) H Q:=.inl ⟨a,_,rfl,.inl h,rfl,by
  rw[List.all_eq_true]
  intro v h
  obtain⟨n,_,rfl⟩:=List.mem_map.mp h
  rfl,by
  have e:inV (.bl false) (bs.map V.bl) = !bs.all id:=by
   clear h k
   unfold inV
   induction bs with
   | nil=>rfl
   | cons b bs ih=>
     rw[List.map_cons,List.any_cons,List.all_cons,ih]
     cases b<;>simp[eqV]
  show Q (.bl (inV (.bl false) (bs.map V.bl))) H
  rw[e]
  exact k⟩
end
theorem Same.rd {H H':Hp}(e:Same H H'){a:Addr}{u:HO}(h:Rd H a u):Rd H' a u:=by
 rcases h with h | ⟨o,h⟩
 . exact .inl (e _ _ h)
 exact .inr ⟨o,e _ _ h⟩
def Keep (as:List Addr)(H H':Hp):Prop:=(∀ b o,b∉as->H b=some o->H' b=some o)/\∀ a∈as,∀ u,Rd H a u->Rd H' a u
theorem Same.keep {H H':Hp}(e:Same H H')(as:List Addr):Keep as H H':=⟨fun b o _ h=>e b o h,fun a _ u h=>e.rd h⟩
theorem Keep.rd {as:List Addr}{H H':Hp}(k:Keep as H H'){a:Addr}{u:HO}(h:Rd H a u):Rd H' a u:=by
 by_cases ha:a∈as
 . exact k.2 a ha u h
 rcases h with h | ⟨o,h⟩
 . exact .inl (k.1 _ _ ha h)
 exact .inr ⟨o,k.1 _ _ ha h⟩
structure TabR (H:Hp)(r:Addr)(ns:List Str)(as:List Addr)(R:Str->Str->Prop):Prop where
 len:as.length=ns.length
 top:Rd H r (.dK (Mz ns as))
 row:∀(i:Nat) (z:Str) (a:Addr),ns[i]? = some z->as[i]? = some a->∃ ks:List Str,Rd H a (.dK (Fl ks))/\ks.Nodup/\(∀ y∈ks,y∈ns)/\∀ y,y∈ks↔R z y
theorem Tab.toR {H:Hp}{r:Addr}{ns:List Str}{as:List Addr}{R:Str->Str->Prop}(h:Tab H r ns as R):TabR H r ns as R:=
 ⟨h.len,.inl h.top,fun i z a hz ha=>let ⟨ks,h1,h2⟩:=h.row i z a hz ha;⟨ks,.inl h1,h2⟩⟩
theorem TabR.keep {bs:List Addr}{H H':Hp}{r:Addr}{ns:List Str}{as:List Addr}{R:Str->Str->Prop}(h:TabR H r ns as R)(k:Keep bs H H'):TabR H' r ns as R:=
 ⟨h.len,k.rd h.top,fun i z a hz ha=>let ⟨ks,h1,h2⟩:=h.row i z a hz ha;⟨ks,k.rd h1,h2⟩⟩
theorem TabR.same {H H':Hp}{r:Addr}{ns:List Str}{as:List Addr}{R:Str->Str->Prop}(h:TabR H r ns as R)(e:Same H H'):TabR H' r ns as R:=h.keep (e.keep [])
theorem TabR.at {H:Hp}{r:Addr}{ns:List Str}{as:List Addr}{R:Str->Str->Prop}(h:TabR H r ns as R){x:Str}(hx:x∈ns):∃(i:Nat) (a:Addr),ns[i]? = some x/\as[i]? = some a:=by
 obtain⟨i,hi,e⟩:=List.getElem_of_mem hx
 have hi':i<as.length:=by rw[h.len];exact hi
 exact⟨i,as[i],by rw[List.getElem?_eq_getElem hi,e],List.getElem?_eq_getElem hi'⟩
structure TabL (K:PySem.W.Frag)(H:Hp)(r:Addr)(ns:List Str)(as:List Addr)(R:Str->Str->Prop):Prop where
 len:as.length=ns.length
 top:H r=some (.dK (Mz ns as))
 row:∀(i:Nat) (z:Str) (a:Addr),ns[i]? = some z->as[i]? = some a->∃ ks:List Str,H a=some (.lst (ks.map V.str))/\ks.Nodup/\∀ y,y∈ks↔R z y
theorem TabL.same {K:PySem.W.Frag}{H H':Hp}{r:Addr}{ns:List Str}{as:List Addr}{R:Str->Str->Prop}(h:TabL K H r ns as R)(e:Same H H'):TabL K H' r ns as R:=
 ⟨h.len,e _ _ h.top,fun i z a hz ha=>let ⟨ks,h1,h2⟩:=h.row i z a hz ha;⟨ks,e _ _ h1,h2⟩⟩
theorem TabL.at {K:PySem.W.Frag}{H:Hp}{r:Addr}{ns:List Str}{as:List Addr}{R:Str->Str->Prop}(h:TabL K H r ns as R){x:Str}(hx:x∈ns):∃(i:Nat) (a:Addr),ns[i]? = some x/\as[i]? = some a:=by
 obtain⟨i,hi,e⟩:=List.getElem_of_mem hx
 have hi':i<as.length:=by rw[h.len];exact hi
 exact⟨i,as[i],by rw[List.getElem?_eq_getElem hi,e],List.getElem?_eq_getElem hi'⟩
section
variable {K:PySem.W.Frag}{σ:St}{H:Hp}{Q:VK}{r:Addr}{ns:List Str}{as:List Addr}{R:Str->Str->Prop}
theorem a60 {a:Addr}{kvs:List (Key×V)}{z:Str}{v:V}(h:Rd H a (.dK kvs))(e:Gz kvs (Sum.inr z:Key)=some v)(k:Q v H):N6 K (.ref a) (.str z) H Q:=.inr ⟨a,v,rfl,.inl ⟨kvs,Sum.inr z,h,rfl,e.symm⟩,k⟩
theorem a65 {x:Str}{i:Nat}{a:Addr}(h:TabR H r ns as R)(hn:ns.Nodup)(hx:ns[i]? = some x)(ha:as[i]? = some a)(k:Q (.ref a) H):N6 K (.ref r) (.str x) H Q:=a60 h.top (He hn hx ha) k
theorem Wc {x:Str}{i:Nat}{a:Addr}(h:TabL K H r ns as R)(hn:ns.Nodup)(hx:ns[i]? = some x)(ha:as[i]? = some a)(k:Q (.ref a) H):N6 K (.ref r) (.str x) H Q:=i_ixD h.top (He hn hx ha) k
theorem Ud {a:Addr}{ks:List Str}{y:Str}(h:Rd H a (.dK (Fl ks)))(k:Q (.bl (decide (y∈ks))) H):Q6 K false (.str y) (.ref a) H Q:=by
 refine .inr (.inr (.inl ⟨a,Gz (Fl ks) (Sum.inr y:Key),rfl,.inl ⟨_,Sum.inr y,h,rfl,rfl⟩,?_⟩))
 rw[L3]
 by_cases e:y∈ks
 . simpa[e] using k
 simpa[e] using k
end
section
variable {K:PySem.W.Frag}{H:Hp}{σ:St}
end
theorem half_nil:Half [] []:=⟨⟨by simp,fun _ h=>by cases h⟩,by simp,by simp,[],.refl _,Up.nil⟩
section
variable {prog:Program}{w:World}{A:Around}{E:Value->Shared->Prop}{s:Shared}
end
section
variable {X:Cx}{K:PySem.W.Frag}
end
section
variable {K:PySem.W.Frag}{σ:St}{H:Hp}
end
def N2 (ps:List (Str×Str))(l:List Str):List Str:=l.filter fun x=>!l.any fun y=>Cc ps y x
def Os (ps:List (Str×Str))(l:List Str):List Str:=l.filter fun x=>l.any fun y=>Cc ps y x
inductive Lays (ps:List (Str×Str)):List Str->List (List Str)->Prop
 | nil:Lays ps [] []
 | cons {l:List Str} {Ls:List (List Str)}:l≠[]->Lays ps (Os ps l) Ls->Lays ps l (N2 ps l :: Ls)
theorem Lays.det {ps:List (Str×Str)}{l:List Str}{A B:List (List Str)}(h:Lays ps l A)(g:Lays ps l B):A=B:=by
 induction h generalizing B with
 | nil=>
   cases g with
   | nil=>rfl
   | cons n _=>exact absurd rfl n
 | cons n _ ih=>
   cases g with
   | nil=>exact absurd rfl n
   | cons _ g=>rw[ih g]
theorem Iy {ps:List (Str×Str)}{l:List Str}{x:Str}:(l.any fun y=>Cc ps y x)=true↔∃ y∈l,Way ps y x:=by
 rw[List.any_eq_true]
 exact⟨fun⟨y,h,e⟩=>⟨y,h,wayB_iff.mp e⟩,fun⟨y,h,e⟩=>⟨y,h,wayB_iff.mpr e⟩⟩
theorem mem_resF {ps:List (Str×Str)}{l:List Str}{x:Str}:x∈Os ps l↔x∈l/\∃ y∈l,Way ps y x:=by
 unfold Os
 rw[List.mem_filter,Iy]
theorem mem_layF {ps:List (Str×Str)}{l:List Str}{x:Str}:x∈N2 ps l↔x∈l/\¬ ∃ y∈l,Way ps y x:=by
 unfold N2
 rw[List.mem_filter,Bool.not_eq_true',<- Bool.not_eq_true,Iy]
theorem Ri {ps:List (Str×Str)}(irr:∀ x,¬ Way ps x x):∀ l:List Str,l≠[]->∃ x∈l,∀ y∈l,¬ Way ps y x
 | [],h=>absurd rfl h
 | [a],_=>⟨a,by simp,fun y hy=>by
   have:y=a:=by simpa using hy
   subst this
   exact irr y⟩
 | a :: b :: t,_=>by
   obtain⟨x,hx,h⟩:=Ri irr (b :: t) (by simp)
   by_cases e:Way ps a x
   . refine⟨a,by simp,fun y hy=>?_⟩
     rcases List.mem_cons.mp hy with rfl | hy
     . exact irr y
     exact fun g=>h y hy (g.trans e)
   refine⟨x,List.mem_cons_of_mem _ hx,fun y hy=>?_⟩
   rcases List.mem_cons.mp hy with rfl | hy
   . exact e
   exact h y hy
theorem Mx {α:Type}{p:α->Bool}:∀ {l:List α} {x:α},x∈l->p x=false->(l.filter p).length<l.length
 | a :: l,x,hx,h=>by
   rcases List.mem_cons.mp hx with rfl | hx
   . rw[List.filter_cons,h]
     exact Nat.lt_succ_of_le (List.length_filter_le _ _)
   rw[List.filter_cons]
   have:=Mx hx h
   split
   . rw[List.length_cons,List.length_cons];omega
   rw[List.length_cons];omega
theorem T6 {ps:List (Str×Str)}(irr:∀ x,¬ Way ps x x){l:List Str}(h:l≠[]):(Os ps l).length<l.length:=by
 obtain⟨x,hx,g⟩:=Ri irr l h
 refine Mx hx ?_
 rw[<- Bool.not_eq_true,Iy]
 exact fun⟨y,hy,e⟩=>g y hy e
theorem Lays.len {ps:List (Str×Str)}(irr:∀ x,¬ Way ps x x){l:List Str}{Ls:List (List Str)}(h:Lays ps l Ls):Ls.length<=l.length:=by
 induction h with
 | nil=>simp
 | cons n _ ih=>
   have:=T6 irr n
   rw[List.length_cons]
   omega
theorem Lays.mem {ps:List (Str×Str)}{l:List Str}{Ls:List (List Str)}(h:Lays ps l Ls):∀ L∈Ls,L.length<=l.length/\∀ x∈L,x∈l:=by
 induction h with
 | nil=>exact fun _ h=>by cases h
 | @cons l Ls n _ ih=>
   intro L hL
   rcases List.mem_cons.mp hL with rfl | hL
   . exact⟨List.length_filter_le _ _,fun x hx=>(mem_layF.mp hx).1⟩
   obtain⟨h1,h2⟩:=ih L hL
   exact⟨Nat.le_trans h1 (List.length_filter_le _ _),fun x hx=>(mem_resF.mp (h2 x hx)).1⟩
theorem Xx {ps:List (Str×Str)}(l:List Str):(l.filter fun x=>!decide (x∈N2 ps l))=Os ps l:=by
 unfold Os
 refine List.filter_congr fun x hx=>?_
 rw[Bool.eq_iff_iff,Iy,Bool.not_eq_true',decide_eq_false_iff_not,mem_layF]
 constructor
 . intro h
   exact Classical.byContradiction fun q=>h ⟨hx,q⟩
 rintro h ⟨_,q⟩
 exact q h
theorem Rt {ps:List (Str×Str)}{l ah:List Str}(h:∀ y,y∈ah↔∃ z∈l,Way ps z y):(l.filter fun x=>!decide (x∈ah))=N2 ps l/\(l.filter fun x=>decide (x∈ah))=Os ps l:=by
 have e:∀ x,decide (x∈ah)=l.any fun y=>Cc ps y x:=fun x=>by rw[Bool.eq_iff_iff,Iy,decide_eq_true_iff,h]
 unfold N2 Os
 constructor
 . exact List.filter_congr fun x _=>by rw[e]
 exact List.filter_congr fun x _=>by rw[e]
def lsD (Ls:List (List Str)):PyData:=.tuple (Ls.map nmD)
theorem Ca (Ls:List (List Str)):P5 (Ls.map nmD)=true:=Kp _ P7 Ls
theorem Mt (Ls:List (List Str)):frz (lsD Ls)=true:=by
 unfold lsD
 simp only[frz]
 exact Ca Ls
section
variable {K:PySem.W.Frag}{H:Hp}{Q:VK}
theorem Ku {Ls:List (List Str)}{a:Addr}{ys:List V}(h:H a=some (.lst ys))(g:IsL K H (Ls.map nmD) ys)(k:∀ v H',Same H H'->Is K H' (lsD Ls) v->Q v H'):Kz K [.ref a] H Q:=
 G0 (SqL.of h) fun p H' hp e h'=>k _ H' e (Is.of_tup (SqT.of h') (IsL.mono e _ _ g))
end
theorem IsL.bl_eq {α:Type}{K:PySem.W.Frag}{H:Hp}{f:α->Bool}:∀ {as:List α} {vs:List V},IsL K H (as.map fun a=>PyData.bool (f a)) vs->vs=(as.map f).map V.bl
 | [],vs,h=>by simp only[List.map_nil,IsL] at h;exact h
 | n :: ns,vs,h=>by
   simp only[List.map_cons,IsL,Is] at h
   obtain⟨v,r,rfl,rfl,e3⟩:=h
   rw[IsL.bl_eq e3]
   rfl
theorem Gy {α:Type}{K:PySem.W.Frag}{H:Hp}{σ:St}{J:It}{xs:List V}{G:Hp->Prop}{g:TG}{te:TE}{Q:VK}{k:Nat}{js:List Nat}(hw:Ek J xs G)(as:List α)(hl:as.length=xs.length)(f:α->Bool)(hz:xs.length<=1000000)(hG:∀ H',Same H H'->G H')
  (hs:∀(i:Nat) a v H1 (R:VK),as[i]? = some a->xs[i]? = some v->Same H H1->(∀ H2,Same H1 H2->R (.bl (f a)) H2)->g v (List.replicate k none++Kw σ js) H1 fun σ2 H2=>te σ2 H2 R)
  (hd:∀ p H',H p=none->Same H H'->SqL K H' p ((as.map f).map V.bl)->Q (.ref p) H'):Ki k js g Sg te σ J H Q:=by
 refine D6 (K:=K) hw as hl (fun _=>true) (fun a=>PyData.bool (f a)) (fun _=>rfl) hz hG (fun i a v H1 R R' ha hv e hR hR'=>?_) (fun p ys H' hp e h hL=>?_)
 . exact hs i a v H1 R ha hv e fun H2 e2=>hR rfl _ H2 e2 Wk
 rw[Bm] at hL
 have:=IsL.bl_eq hL
 subst this
 exact hd p H' hp e (SqL.of h)
section
variable {P:Program}{w:World}{κ:Type}[DecidableEq κ]{knd:KeyKind P w κ}{A:Around}{E:Value->Shared->Prop}{s:Shared}
end
section
variable {X:Cx}{pins:List (Addr×Obj)}{σ:St}{H:Hp}{s:Shared}{A:Around}
end
section
variable {prog:Program}{w:World}{A:Around}{E:Value->Shared->Prop}{s:Shared}
theorem R8 (xs:Array Value):((List.range xs.size).filterMap fun(m:Nat)=>xs[(((xs.size:Int)-1)+(m:Int)*(-1)).toNat]?).toArray=xs.toList.reverse.toArray:=by
 congr 1
 simp only[<- Array.getElem?_toList,<- Array.length_toList]
 generalize xs.toList=l
 have e:∀ k ≤ l.length,(List.range k).filterMap (fun(m:Nat)=>l[(((l.length:Nat):Int)-1+(m:Int)*(-1)).toNat]?)=l.reverse.take k:=by
  intro k
  induction k with
  | zero=>intro _;rfl
  | succ k ih=>
    intro hk
    rw[List.range_succ,List.filterMap_append,ih (by omega),List.take_add_one]
    congr 1
    have e2:(((l.length:Nat):Int)-1+(k:Int)*(-1)).toNat=l.length-1-k:=by omega
    rw[List.filterMap_cons,e2,List.getElem?_reverse (by omega),List.getElem?_eq_getElem (by omega)]
    rfl
 rw[e _ (Nat.le_refl _),List.take_of_length_le (by rw[List.length_reverse];omega)]
theorem Mj {sl:Addr}{tk:Tok}{n:Nat}{Q:Int×Int×Nat->Shared->Prop}(hs:s.heap.IsSliceOf sl .none .none (.int (-1) tk))(h:Q ((n:Int)-1,-1,n) s):wpAny (model prog w) A (Builtin.Slice.sliceApplied (.ref sl) (pure (n:Int))) Q E s:=by
 obtain⟨os,g1,_,g3⟩:=id hs
 unfold Builtin.Slice.sliceApplied Builtin.Slice.sliceFields
 refine wpAny_bind (wpAny_bind (wpAny_field g1 g3 (x:=.none) rfl ?_))
 refine wpAny_bind (wpAny_field g1 g3 (x:=.none) rfl ?_)
 refine wpAny_bind (wpAny_field g1 g3 (x:=.int (-1) tk) rfl (wpAny_pure ?_))
 refine wpAny_bind (HT.slicePart_ (.int (-1) tk) ?_)
 show wpAny _ _ (if((-1:Int)==0)=true then _ else _) _ _ s
 rw[if_neg (by decide)]
 refine wpAny_bind (HT.slicePart_ .none ?_)
 refine wpAny_bind (HT.slicePart_ .none ?_)
 refine wpAny_bind (wpAny_pure ?_)
 have e1:Builtin.Slice.sliceAdjust none none (-1) (n:Int)=((n:Int)-1,-1):=by
  unfold Builtin.Slice.sliceAdjust
  simp
 have e2:Builtin.Slice.slicePlaces ((n:Int)-1) (-1) (-1)=n:=by
  unfold Builtin.Slice.slicePlaces
  simp
  try omega
 show wpAny _ _ (match Builtin.Slice.sliceAdjust none none (-1) (n:Int) with | (lo,hi)=>pure (lo,(-1:Int),Builtin.Slice.slicePlaces lo hi (-1))) _ _ s
 rw[e1]
 show wpAny _ _ (pure ((n:Int)-1,(-1:Int),Builtin.Slice.slicePlaces ((n:Int)-1) (-1) (-1))) _ _ s
 rw[e2]
 exact wpAny_pure h
theorem R4 {t sl:Addr}{items:Array Value}{tk:Tok}{Q:Value->Shared->Prop}(ht:IsTup s.heap t items)(hs:s.heap.IsSliceOf sl .none .none (.int (-1) tk))
  (h:Q (.ref s.heap.objs.size) { s with heap:=s.heap.push { cls:=.type "tuple",data:=.seq items.toList.reverse.toArray } }) (hz:items.size<=sizeLine):wpAny (model prog w) A (getItem (.ref t) (.ref sl)) Q E s:=by
 obtain⟨os,g1,g2,g3⟩:=id hs
 have hTs:s.TypeIs (.ref sl) "slice":=⟨os,g1,g2⟩
 have hok:sizeOk (.seq items.toList.reverse.toArray):=by
  show items.toList.reverse.toArray.size<=sizeLine
  simpa using hz
 unfold getItem
 try with_reducible refine wpAny_holding ?_
 first | refine wpAny_bind (wpAny_pure ?_) | skip
 refine wpAny_bind (wpAny_sequenceKey ht.typeIs (by decide) ?_)
 refine wpAny_bind (wpAny_callSpecial?_slot (name:=Str.ofString "__getitem__") ht.typeIs PyProof.Rows.slot_tuple_getitem (wpAny_call_entry PyProof.Rows.slot_tuple_getitem ht.typeIs entry_tuple_getitem ?_ (args_tuple_getitem _ _)))
 show wpAny _ _ (Builtin.Tuple.tupleItemsOf (.ref t) >>= _) _ _ s
 refine wpAny_bind (tupleItemsOf_ ht ?_)
 refine wpAny_bind (wpAny_typeOf hTs ?_)
 rw[if_pos (by decide)]
 refine wpAny_bind (Mj hs ?_)
 show wpAny _ _ (if((((items.size:Nat):Int)-1)==0&&(-1:Int)==1&&items.size==items.size)=true then _ else _) _ _ s
 rw[if_neg (by simp),R8]
 first
  | exact wpAny_bind (m:=Builtin.Tuple.tupleExact _) (wpAny_newObj_type (wpAny_pure ⟨_,rfl,wpAny_pure h⟩) hok)
  | exact wpAny_bind (wpAny_bind (m:=Builtin.Tuple.tupleExact _) (wpAny_newObj_type (wpAny_pure (wpAny_pure ⟨_,rfl,wpAny_pure h⟩)) hok))
  | exact wpAny_bind (wpAny_bind (m:=Builtin.Tuple.tupleExact _) (wpAny_newObj_type (wpAny_pure ⟨_,rfl,wpAny_pure h⟩) hok))
  | exact wpAny_bind (m:=Builtin.Tuple.tupleExact _) (wpAny_newObj_type (wpAny_bind (wpAny_pure (wpAny_pure ⟨_,rfl,wpAny_pure h⟩))) hok)
end
section
variable {X:Cx}{K:PySem.W.Frag}
def Wd (K:PySem.W.Frag):V->V->Hp->VK->Prop:=fun x y H Q=>∃ a xs,x = .ref a/\y = .int (-1)/\SqT K H a xs/\∀ p,H p=none->Q (.ref p) (upd H p (.tup xs.reverse))
theorem V1 {e st:Expr}{te ts:TE}{p2 pos:Pos}(he:PE X e te)(hst:PE X st ts)(hK:X.K=K:=by ac_nf):PE X (.Subscript e (.Slice none none (some st) p2) pos) (tOp (Wd K) te ts):=by
 subst hK
 intro pins s σ H Q I h
 refine Subscript_ (thn (he pins s σ H _ I h) fun v s1 ⟨x,H1,I1,r1,q1⟩=>wpAny_Slice ?_)
 rw[evalPart_none]
 refine wpAny_pure (wpAny_pure ?_)
 rw[evalPart_some]
 refine thn (hst pins s1 σ H1 _ I1 q1) fun u s2 ⟨y,H2,I2,r2,q2⟩=>?_
 obtain⟨a,xs,rfl,rfl,hx,q⟩:=q2
 cases r1
 obtain⟨t,rfl⟩:=r2
 have I4:Inv X pins σ H2 { s2 with heap:=s2.heap.push { cls:=.type "slice",data:=.fields #[.none,.none,.int (-1) t] } }:=I2.kept (t':=s2.toks) fun b ob q=>Heap.get?_push_of_some _ q
 obtain⟨its,r,ht,hz⟩:=I4.tuple hx
 have hlen:=r.length
 refine tail_any (ops:=[.ref a,.ref s2.heap.objs.size]) ht.typeIs PyProof.Rows.slot_tuple_getitem.lookup ?_ (by ac_nf)
 refine R4 ht (Heap.IsSliceOf.new ..) ?_ (by rw[List.size_toArray];omega)
 refine⟨.ref _,_,I4.laid (t':=s2.toks) (o:=.tup xs.reverse) (fun b ob q=>Heap.get?_push_of_some _ q) (Nat.le_refl _) ?_,rfl,q _ (I4.hok.fresh (Nat.le_refl _))⟩
 exact⟨by rw[List.length_reverse];exact hz,_,r.reverse,IsTupN.new _ _⟩
theorem Wu {a:Addr}{xs:List V}{H:Hp}{Q:VK}(h:SqT K H a xs)(c:∀ p H',H p=none->Same H H'->H' p=some (.tup xs.reverse)->Q (.ref p) H'):Wd K (.ref a) (.int (-1)) H Q:=
 ⟨a,xs,rfl,rfl,h,fun p hp=>c p _ hp (Same.upd hp) A9⟩
end
def inS (ns:List Str):Key->Bool
 | .inr z=>decide (z∈ns)
 | .inl _=>false
section
variable {P:Program}{w:World}{A:Around}{R:Result->Shared->Prop}{it:Addr}{fp wr:List Addr}{G:Array GenState->Array GenState->Prop}{n:Nat}{PV:Nat->Value->Prop}{St:Nat->Shared->Prop}
end
section
variable {prog:Program}{w:World}{A:Around}{E:Value->Shared->Prop}{s:Shared}
set_option maxHeartbeats 3200000 in
end
section
variable {X:Cx}{K:PySem.W.Frag}
end
theorem Wh (a b:Str):(a++b).length=a.length+b.length:=by
 show(a.cps++b.cps).size=_
 rw[Array.size_append]
 rfl
theorem Vw {z:Str}(h:Jy z=true):z.length<=8:=(G2 h).2
section
variable {K:PySem.W.Frag}{H:Hp}{Q:VK}
end
section
variable {X:Cx}{K:PySem.W.Frag}
end
section
variable {prog:Program}{w:World}{A:Around}{E:Value->Shared->Prop}{s:Shared}
end
section
variable {X:Cx}{K:PySem.W.Frag}
end
section
variable {prog:Program}{w:World}{A:Around}{E:Value->Shared->Prop}{s:Shared}
theorem Mf {t:Addr}{vs:List Value}{ss:List Str}{T:String}{n:Nat}{o:Obj}{Q:Value->Shared->Prop}(hT:T = "list" \/ T = "tuple")(ho:s.heap.get? t=some o)(hc:o.cls = .type T)(hd:o.data = .seq vs.toArray n)(hS:StrsAre vs ss)(h64:vs.length<64)
  (h:∀(h1 h':Heap) (out:List Value) (e:Nat) (ss':List Str),(∀ b ob,s.heap.get? b=some ob->h1.get? b=some ob)->(∀ b ob,h1.get? b=some ob->h'.get? b=some ob)->h'.get? h1.objs.size=some (seqObj "list" out.toArray e)->StrsAre out ss'->ss'.Perm ss->sortedS ss'=true->Q (.ref h1.objs.size) { s with heap:=h' }) :
  wpAny (model prog w) A (call (.builtin "sorted") [.ref t]) Q E s:=by
 refine Calls.call_function_entry kind_sorted plain_sorted entry_sorted (args_sorted1 _) ?_
 unfold Builtin.«sorted»
 refine wpAny_bind (m:=checkCount "sorted" 1 1 _) (wpAny_pure ?_)
 refine wpAny_bind (wpAny_collect_seq t hT ho hc hd (fun h1 k1=>?_) (by rw[List.size_toArray,sizeLine_eq];omega))
 refine wpAny_bind (wpAny_newList ?_ (by simp only[List.size_toArray];rw[sizeLine_eq];omega))
 have hnew:(h1.push (seqObj "list" vs.toArray 0)).get? h1.objs.size=some (seqObj "list" vs.toArray 0):=Heap.get?_push_size _ rfl
 show wpAny _ _ _ _ _ { s with heap:=h1.push (seqObj "list" vs.toArray 0) }
 refine wpAny_bind (wpAny_holding (wpAny_call_entry slot_list_sort ⟨_,hnew,rfl⟩ entry_list_sort (list_sort_treeK strKind_oneLt hnew hS.keysOf (fun v₁ v₂ r e=>keyKind_strs (by rw[<- e];exact hS)) h64 fun st' hp hs=>⟨_,rfl,?_⟩) (args_list_sort _)))
 obtain⟨ss',q1,q2,q3⟩:=sorted_out_str hS hp hs
 obtain⟨e,he⟩:=sortedHeap_at (out:=(arrOf st').map (·.2)) hnew
 refine wpAny_pure ⟨_,rfl,h h1 _ ((arrOf st').map (·.2)).toList e ss' k1 (fun b ob hb=>?_) (by rw[Array.toArray_toList];exact he) q1 q2 q3⟩
 have hlt:=Heap.lt_size hb
 rw[sortedHeap_old (Nat.ne_of_lt hlt) (by rw[size_push'];exact Nat.lt_succ_of_lt hlt)]
 exact Heap.get?_push_of_some _ hb
end
theorem Mg:∀ {us:List Value} {ys:List Str},StrsAre us ys->Vals (ys.map V.str) us
 | _,_,.nil=>.nil
 | _,_,.cons y t h=>.cons ⟨t,rfl⟩ (Mg h)
section
variable {X:Cx}{K:PySem.W.Frag}
def O3 (K:PySem.W.Frag):List V->Hp->VK->Prop:=fun xs H Q=>∃(a:Addr) (ns:List Str),xs=[.ref a]/\(SqL K H a (ns.map V.str)\/SqT K H a (ns.map V.str))/\ns.length<64/\∀ p (ms:List Str),H p=none->ms.Perm ns->sortedS ms=true->Q (.ref p) (upd H p (.lst (ms.map V.str)))
theorem Mq:CallR X (.builtin "sorted") (O3 X.K):=by
 intro pins s σ H xs us Q I r h
 obtain⟨a,ns,rfl,hl,hz,q⟩:=h
 obtain⟨u,rfl,ru⟩:=G5 r
 cases ru
 have fin:∀(vs:List Value),Vals (ns.map V.str) vs->∀(h1 h':Heap) (out:List Value) (e:Nat) (ss':List Str),(∀ b ob,s.heap.get? b=some ob->h1.get? b=some ob)->(∀ b ob,h1.get? b=some ob->h'.get? b=some ob)->h'.get? h1.objs.size=some (seqObj "list" out.toArray e)->StrsAre out ss'->ss'.Perm ns->sortedS ss'=true->EP X pins σ Q (.ref h1.objs.size) { s with heap:=h' }:=fun vs rv h1 h' out e ss' k1 k2 he q1 q2 q3=>by
  have I1:Inv X pins σ H { s with heap:=h1 }:=I.kept (t':=s.toks) k1
  exact⟨.ref _,_,I1.laid (t':=s.toks) (o:=.lst (ss'.map V.str)) k2 (Nat.le_refl _) ⟨by rw[List.length_map,q2.length_eq,sizeLine_eq];omega,out,e,Mg q1,he⟩,rfl,q _ ss' (I1.hok.fresh (Nat.le_refl _)) q2 q3⟩
 rcases hl with hl | hl
 . obtain⟨its,rv,⟨o,n,h1,h2,_,h3⟩,_⟩:=I.list hl
   have hlen:=rv.length
   rw[List.length_map] at hlen
   exact Mf (.inl rfl) h1 h2 h3 (Nv rv) (by omega) (fin its rv)
 obtain⟨its,rv,⟨o,h1,h2,n,h3⟩,_⟩:=I.tuple hl
 have hlen:=rv.length
 rw[List.length_map] at hlen
 exact Mf (.inr rfl) h1 h2 h3 (Nv rv) (by omega) (fin its rv)
theorem Dp (hK:X.K=K:=by ac_nf):CallR X (.builtin "sorted") (O3 K):=hK ▸ Mq
theorem Ha {a:Addr}{ns:List Str}{H:Hp}{Q:VK}(h:SqL K H a (ns.map V.str)\/SqT K H a (ns.map V.str))(hz:ns.length<64)(k:∀ p (ms:List Str) H',H p=none->Same H H'->H' p=some (.lst (ms.map V.str))->ms.Perm ns->sortedS ms=true->Q (.ref p) H'):O3 K [.ref a] H Q:=
 ⟨a, ns,rfl,h,hz,fun p ms hp h1 h2=>k p ms _ hp (Same.upd hp) A9 h1 h2⟩
end
theorem Ho:∀(p:Str) (l:List Str),risingS p l=true->∀ y∈l,¬ y.cps.toList<p.cps.toList
 | p,[],_,y,h=>nomatch h
 | p,x :: r,h,y,hy=>by
   have h':(!ltCps x.cps.toList p.cps.toList&&risingS x r)=true:=h
   rw[Bool.and_eq_true,Bool.not_eq_true',ltCps_eq,decide_eq_false_iff_not] at h'
   rcases List.mem_cons.mp hy with rfl | hy
   . exact h'.1
   have ih:=Ho x r h'.2 y hy
   exact List.not_lt.mpr (List.le_trans (List.not_lt.mp h'.1) (List.not_lt.mp ih))
theorem Hl {x:Str}{r:List Str}(h:sortedS (x :: r)=true):sortedS r=true:=by
 cases r with
 | nil=>rfl
 | cons y r=>
   have h':(!ltCps y.cps.toList x.cps.toList&&risingS y r)=true:=h
   rw[Bool.and_eq_true] at h'
   exact h'.2
theorem Jx:∀ {a b:List Str},a.Perm b->sortedS a=true->sortedS b=true->a=b
 | [],b,p,_,_=>(List.nil_perm.mp p).symm
 | x :: a,[],p,_,_=>absurd p.length_eq (by simp)
 | x :: a,y :: b,p,ha,hb=>by
   have hxy:x=y:=by
    have h1:x=y\/x∈b:=by simpa using p.mem_iff.mp List.mem_cons_self
    have h2:y=x\/y∈a:=by simpa using p.symm.mem_iff.mp List.mem_cons_self
    rcases h1 with e | h1
    . exact e
    rcases h2 with e | h2
    . exact e.symm
    have q1:=Ho x a ha y h2
    have q2:=Ho y b hb x h1
    exact Str.ext' (Array.toList_inj.mp (List.le_antisymm (List.not_lt.mp q1) (List.not_lt.mp q2)))
   subst hxy
   rw[Jx (List.Perm.cons_inv p) (Hl ha) (Hl hb)]
section
variable {α:Type}[DecidableEq α]
def frF (b:α->α->Bool)(L:List α):List α:=L.filter fun x=>!(L.any fun y=>b y x)
def B9 (L:List α)(x:α):List α:=L.filter fun y=>!decide (y=x)
def ext (b:α->α->Bool):Nat->List α->List (List α)
 | 0,_=>[[]]
 | n+1,L=>(frF b L).flatMap fun x=>(ext b n (B9 L x)).map (x :: ·)
def cnt (b:α->α->Bool)(L:List α):Nat:=(ext b L.length L).length
theorem mem_frF {b:α->α->Bool}{L:List α}{x:α}:x∈frF b L↔x∈L/\∀ y∈L,b y x=false:=by
 unfold frF
 rw[List.mem_filter]
 constructor
 . rintro ⟨h1,h2⟩
   refine⟨h1,fun y hy=>?_⟩
   cases e:b y x with
   | false=>rfl
   | true=>
     have:(L.any fun y=>b y x)=true:=List.any_eq_true.mpr ⟨y,hy,e⟩
     rw[this] at h2
     cases h2
 rintro⟨h1,h2⟩
 refine⟨h1,?_⟩
 have:(L.any fun y=>b y x)=false:=by
  rw[Bool.eq_false_iff]
  intro h
  obtain⟨y,hy,e⟩:=List.any_eq_true.mp h
  rw[h2 y hy] at e
  cases e
 rw[this]
 rfl
theorem mem_lessF {L:List α}{x y:α}:y∈B9 L x↔y∈L/\y≠x:=by
 unfold B9
 rw[List.mem_filter]
 simp
theorem Ch {L:List α}(h:L.Nodup)(x:α):(B9 L x).Nodup:=List.Nodup.sublist (List.filter_sublist) h
theorem Hf:∀ {L:List α} {x:α},x∉L->B9 L x=L:=fun {L x} h=>by
 unfold B9
 rw[List.filter_eq_self]
 intro y hy
 have:y≠x:=fun q=>h (q ▸ hy)
 simp[this]
theorem Dl:∀ {L:List α} {x:α},L.Nodup->x∈L->(B9 L x).length+1=L.length
 | [],_,_,h=>by cases h
 | y :: ys,x,hn,h=>by
   obtain⟨h1,h2⟩:=List.nodup_cons.mp hn
   by_cases e:y=x
   . subst e
     have:B9 (y :: ys) y=B9 ys y:=by unfold B9;rw[List.filter_cons,if_neg (by simp)]
     rw[this,Hf h1]
     rfl
   have:B9 (y :: ys) x=y :: B9 ys x:=by unfold B9;rw[List.filter_cons,if_pos (by simp[e])]
   rw[this,List.length_cons,Dl h2 ((List.mem_cons.mp h).resolve_left fun q=>e q.symm)]
   rfl
theorem Ti {b:α->α->Bool} {L:List α} (hn:L.Nodup) (hne:L≠[]):cnt b L=((frF b L).map fun x=>cnt b (B9 L x)).sum:=by
 unfold cnt
 cases hl:L.length with
 | zero=>exact absurd (List.length_eq_zero_iff.mp hl) hne
 | succ n=>
   show((frF b L).flatMap fun x=>(ext b n (B9 L x)).map (x :: ·)).length=_
   rw[List.length_flatMap]
   congr 1
   apply List.map_congr_left
   intro x hx
   have:=Dl hn (mem_frF.mp hx).1
   have e:(B9 L x).length=n:=by omega
   rw[List.length_map,e]
def Cd (ns row:List α):List α:=ns.filter fun x=>!decide (x∈row)
def De (b:α->α->Bool)(ns:List α)(rows:List (List α)):List (List α):=rows.flatMap fun row=>(frF b (Cd ns row)).map fun x=>row++[x]
def D7 (b:α->α->Bool)(ns:List α):Nat->List (List α)->List (List α)
 | 0,r=>r
 | k+1,r=>D7 b ns k (De b ns r)
theorem Es (b:α->α->Bool)(ns:List α):∀(k:Nat) (r:List (List α)),D7 b ns (k+1) r=De b ns (D7 b ns k r)
 | 0,r=>rfl
 | k+1,r=>Es b ns k (De b ns r)
theorem Gf (b:α->α->Bool)(ns:List α):∀(k:Nat) (r t:List (List α)),D7 b ns k (r++t)=D7 b ns k r++D7 b ns k t
 | 0,r,t=>rfl
 | k+1,r,t=>by
   show D7 b ns k (De b ns (r++t))=_
   have:De b ns (r++t)=De b ns r++De b ns t:=by unfold De;rw[List.flatMap_append]
   rw[this,Gf b ns k]
   rfl
theorem M8 (b:α->α->Bool)(ns:List α):∀ k:Nat,D7 b ns k []=[]
 | 0=>rfl
 | k+1=>M8 b ns k
theorem Le (b:α->α->Bool)(ns:List α)(k:Nat)(f:α->List α):∀ l:List α,D7 b ns k (l.map f)=l.flatMap fun x=>D7 b ns k [f x]
 | []=>M8 b ns k
 | x :: xs=>by
   rw[List.map_cons,List.flatMap_cons,<- Le b ns k f xs,<- Gf]
   rfl
theorem Pd (ns row:List α)(x:α):Cd ns (row++[x])=B9 (Cd ns row) x:=by
 unfold Cd B9
 rw[List.filter_filter]
 apply List.filter_congr
 intro y _
 by_cases h:y∈row<;>by_cases e:y=x<;>simp[h,e]
theorem Pb (b:α->α->Bool)(ns:List α):∀(k:Nat) (row:List α),D7 b ns k [row]=(ext b k (Cd ns row)).map (row ++ ·)
 | 0,row=>by simp[D7,ext]
 | k+1,row=>by
   show D7 b ns k (De b ns [row])=_
   have e:De b ns [row]=(frF b (Cd ns row)).map fun x=>row++[x]:=by unfold De;simp
   rw[e,Le]
   show _=((frF b (Cd ns row)).flatMap fun x=>(ext b k (B9 (Cd ns row) x)).map (x :: ·)).map (row ++ ·)
   rw[List.map_flatMap]
   congr 1
   funext x
   rw[Pb b ns k,Pd,List.map_map]
   congr 1
   funext r
   simp
theorem Rp (ns:List α):Cd ns []=ns:=by
 unfold Cd
 rw[List.filter_eq_self]
 simp
theorem Ul (b:α->α->Bool)(ns:List α):(D7 b ns ns.length [[]]).length=cnt b ns:=by
 rw[Pb,Rp,List.length_map]
 rfl
def fac:Nat->Nat
 | 0=>1
 | n+1=>fac n*(n+1)
theorem Hz {p q:α->Bool}:∀ {l:List α},(∀ a∈l,p a=true->q a=true)->(∃ z∈l,q z=true/\p z=false)->(l.filter p).length<(l.filter q).length
 | [],_,h=>by obtain⟨z,hz,_⟩:=h;cases hz
 | y :: ys,h,hz=>by
   have le:∀ l:List α,(∀ a∈l,p a=true->q a=true)->(l.filter p).length<=(l.filter q).length:=by
    intro l
    induction l with
    | nil=>intro _;exact Nat.le_refl _
    | cons a l ih=>
      intro h
      have:=ih fun a ha=>h a (by simp[ha])
      rw[List.filter_cons,List.filter_cons]
      cases c:p a with
      | true=>rw[if_pos rfl,if_pos (h a (by simp) c)];simpa using this
      | false=>
        rw[if_neg (by simp)]
        split
        . simp;omega
        exact this
   rw[List.filter_cons,List.filter_cons]
   obtain⟨z,hz,hq,hp⟩:=hz
   rcases List.mem_cons.mp hz with rfl | hz
   . rw[hp,if_neg (by simp),if_pos hq,List.length_cons]
     have:=le ys fun a ha=>h a (by simp[ha])
     omega
   have ih:=Hz (l:=ys) (fun a ha=>h a (by simp[ha])) ⟨z,hz,hq,hp⟩
   cases c:p y with
   | true=>rw[if_pos rfl,if_pos (h y (by simp) c)];simpa using ih
   | false=>
     rw[if_neg (by simp)]
     split
     . simp;omega
     exact ih
theorem Rh {b:α->α->Bool}(irr:∀ x,b x x=false)(tr:∀ x y z,b x y=true->b y z=true->b x z=true){L:List α}:∀(m:Nat) (y:α),y∈L->(L.filter fun z=>b z y).length<=m->∃ x∈frF b L,x=y\/b x y=true
 | m,y,hy,hm=>by
   by_cases c:∃ z∈L,b z y=true
   . obtain ⟨z,hz,hzy⟩:=c
     have lt:(L.filter fun a=>b a z).length<(L.filter fun a=>b a y).length:=Hz (fun a _ h=>tr a z y h hzy) ⟨z,hz,hzy,irr z⟩
     cases m with
     | zero=>omega
     | succ m=>
       obtain⟨x,hx,h⟩:=Rh irr tr m z hz (by omega)
       refine⟨x,hx,.inr ?_⟩
       rcases h with rfl | h
       . exact hzy
       exact tr x z y h hzy
   refine⟨y,mem_frF.mpr ⟨hy,fun z hz=>?_⟩,.inl rfl⟩
   cases e:b z y with
   | false=>rfl
   | true=>exact absurd ⟨z,hz,e⟩ c
theorem T9 {b:α->α->Bool} {L:List α} (h:L.Nodup):(frF b L).Nodup:=List.Nodup.sublist List.filter_sublist h
theorem a32 {b:α->α->Bool}(irr:∀ x,b x x=false)(tr:∀ x y z,b x y=true->b y z=true->b x z=true){L:List α}(h:L≠[]):frF b L≠[]:=by
 cases L with
 | nil=>exact absurd rfl h
 | cons y ys=>
   obtain⟨x,hx,_⟩:=Rh irr tr (L:=y :: ys) _ y (by simp) (Nat.le_refl _)
   intro e
   rw[e] at hx
   cases hx
end
theorem FnOk.void {P:Program}{w:World}{K:PySem.W.Frag}{mg:Str->Option Value}{base:Heap}{CX:CXT}{k:Nat}{f:Addr}{fd:FuncData}{ps:List Str}{sp:Sp}(h:∀ vs H Q E,¬ sp vs H Q E):FnOk P w K mg base CX k f fd ps sp:=
 ⟨fun vs H Q E q=>absurd q (h vs H Q E),fun A outer s H args us vs Q E _ _ _ _ hs=>absurd hs (h vs H Q E)⟩
section
variable {X:Cx}{K:PySem.W.Frag}{k:Nat}{C:Addr}{f x m:Str}{ps:List Str}{sp:Sp}{e o value:Expr}{es:List Expr}{ta tv:TE}{t:TA}{p pos pos' apos:Pos}
end
section
variable {K:PySem.W.Frag}{C:Addr}{f m:Str}{sp:Sp}{ta tv:TE}{t:TA}{σ:St}{H:Hp}{Q:VK}{D:Ends}
end
section
variable {X:Cx}{K:PySem.W.Frag}
end
def ac3:List V->Hp->VK->Prop:=fun xs H Q=>∃ lo hi:Int,xs=[.int lo,.int hi]/\(-(2 ^ 62)<=lo/\lo<2 ^ 62 /\ -(2 ^ 62)<=hi/\hi<2 ^ 62)/\∀ p,H p=none->Q (.ref p) (upd H p (.rng lo hi))
def Vd:List V->Hp->VK->Prop:=fun xs H Q=>∃(p:Addr) (lo hi:Int),xs=[.ref p]/\H p=some (.rng lo hi)/\(-(2 ^ 40)<=lo/\lo<2 ^ 40 /\ -(2 ^ 40)<=hi/\hi<2 ^ 40/\hi-lo<=1000000)/\∀ l,H l=none->Q (.ref l) (upd H l (.lst ((List.range (hi-lo).toNat).map fun(i:Nat)=>V.int (lo+i))))
theorem Ma {α β:Type}{F:α->β->Prop}:∀ {l₁:List α} {l₂:List β},l₁.length=l₂.length->(∀(i:Nat) a b,l₁[i]? = some a->l₂[i]? = some b->F a b)->Paired F l₁ l₂
 | [],[],_,_=>.nil
 | a :: l₁,b :: l₂,hl,h=>.cons (h 0 a b rfl rfl) (Ma (by simpa using hl) fun i x y hx hy=>h (i+1) x y hx hy)
section
variable {X:Cx}
theorem Ub:CallR X (.type "range") ac3:=by
 intro pins s σ H xs us Q I r h
 obtain ⟨lo,hi,rfl,hb,q⟩:=h
 cases r with
 | cons r rr=>
   cases rr with
   | cons r' rr=>
     cases rr
     obtain⟨t,rfl⟩:=r
     obtain⟨t',rfl⟩:=r'
     exact call_range_2 ⟨.ref s.heap.objs.size,upd H s.heap.objs.size (.rng lo hi),I.laid (fun b u e=>Heap.get?_push_of_some _ e) (Nat.le_refl _) ⟨_,_,_,Heap.get?_push_size _ rfl⟩,rfl,q _ (I.hok.fresh (Nat.le_refl _))⟩
theorem Pl (hc:X.calm=true):CallR X (.type "list") Vd:=by
 intro pins s σ H xs us Q I r h
 obtain⟨p,lo,hi,rfl,hp,⟨b1,b2,b3,b4,b5⟩,q⟩:=h
 obtain⟨u,rfl,ru⟩:=G5 r
 cases ru
 obtain⟨t,u,v,hr⟩:=(show ObjOk X.prog X.w H s.heap p (.rng lo hi) from I.hok p _ hp)
 have hn:Builtin.Range.rangeSize lo hi 1=(((hi-lo).toNat:Nat):Int):=by rw[rangeSize_one];split<;>omega
 refine call_list_range (by simpa using I.ok.hd hc) hr (small_one (by omega) (by omega) (by omega) (by omega)) hn (by omega) fun h' tk acc c hk hS hacc=>?_
 refine⟨.ref s.heap.objs.size,_,I.laid (t':=tk) (o:=.lst ((List.range (hi-lo).toNat).map fun(i:Nat)=>V.int (lo+i))) hk (Nat.le_refl _) ⟨?_,acc.toList,c,Ma ?_ ?_,by simpa using hS⟩,rfl,q _ (I.hok.fresh (Nat.le_refl _))⟩
 . rw[List.length_map,List.length_range,sizeLine_eq]
   omega
 . rw[List.length_map,List.length_range,Array.length_toList]
   exact hacc.1.symm
 intro i a b ha hb
 have hi':i<(hi-lo).toNat:=by
  have:=(List.getElem?_eq_some_iff.mp ha).1
  rwa[List.length_map,List.length_range] at this
 rw[List.getElem?_map,List.getElem?_range hi'] at ha
 cases ha
 rw[Array.getElem?_toList] at hb
 obtain⟨t,rfl⟩:=hacc.2 i b hb
 exact⟨t,by rw[Int.mul_one]⟩
end
theorem a99 {lo hi:Int}{H:Hp}{Q:VK}(hb:-(2 ^ 62)<=lo/\lo<2 ^ 62 /\ -(2 ^ 62)<=hi/\hi<2 ^ 62)(k:∀ p H',H p=none->Same H H'->H' p=some (.rng lo hi)->Q (.ref p) H'):ac3 [.int lo,.int hi] H Q:=⟨lo,hi,rfl,hb,fun p hp=>k p _ hp (Same.upd hp) A9⟩
theorem Y2 {p:Addr}{lo hi:Int}{H:Hp}{Q:VK}(h:H p=some (.rng lo hi))(hb:-(2 ^ 40)<=lo/\lo<2 ^ 40 /\ -(2 ^ 40)<=hi/\hi<2 ^ 40/\hi-lo<=1000000)(k:∀ l H',H l=none->Same H H'->H' l=some (.lst ((List.range (hi-lo).toNat).map fun(i:Nat)=>V.int (lo+i)))->Q (.ref l) H'):Vd [.ref p] H Q:=
 ⟨p,lo,hi,rfl,h,hb,fun l hl=>k l _ hl (Same.upd hl) A9⟩
section
variable {α:Type}[DecidableEq α]
theorem Nb:∀ n:Nat,0<fac n
 | 0=>Nat.lt_succ_self 0
 | n+1=>Nat.mul_pos (Nb n) (Nat.succ_pos n)
theorem Io {m n:Nat}(h:m<=n):fac m<=fac n:=by
 induction h with
 | refl=>exact Nat.le_refl _
 | @step k _ ih=>exact Nat.le_trans ih (Nat.le_mul_of_pos_right _ (Nat.succ_pos k))
end
section
variable {K:PySem.W.Frag}{C:Addr}{H H':Hp}{p dx:Addr}{nv:V}{bd ad kd:Addr}{ns:List Str}{ps:List (Str×Str)}{kvs kvs':List (Key×V)}
end
theorem Uq {ns:List Str}{ps:List (Str×Str)}(h:HalfW ns ps)(x:Str):Cc ps x x=false:=Pq (h.irr x)
theorem Wv {ps:List (Str×Str)}(x y z:Str)(h:Cc ps x y=true)(g:Cc ps y z=true):Cc ps x z=true:=wayB_iff.mpr ((wayB_iff.mp h).trans (wayB_iff.mp g))
section
variable {α:Type} [DecidableEq α]
theorem Nn (l:List α)(p:α->Bool):(l.filter p).isEmpty = !(l.any p):=by
 induction l with
 | nil=>rfl
 | cons x xs ih=>
   rw[List.filter_cons,List.any_cons]
   cases c:p x with
   | true=>rw[if_pos rfl];rfl
   | false=>rw[if_neg (by decide),ih,Bool.false_or]
theorem Im (b:α->α->Bool)(ns:List α):∀ rows:List (List α),(De b ns rows).length<=rows.length*ns.length
 | []=>by simp[De]
 | r :: rs=>by
   have ih:=Im b ns rs
   have e:De b ns (r :: rs)=((frF b (Cd ns r)).map fun x=>r++[x])++De b ns rs:=by unfold De;rw[List.flatMap_cons]
   have h1:(frF b (Cd ns r)).length<=ns.length:=Nat.le_trans (List.length_filter_le _ _) (List.length_filter_le _ _)
   rw[e,List.length_append,List.length_map,List.length_cons,Nat.add_mul,Nat.one_mul]
   omega
theorem Mb (b:α->α->Bool)(ns:List α):∀ i:Nat,(D7 b ns i [[]]).length<=ns.length ^ i
 | 0=>Nat.le_refl _
 | i+1=>by
   rw[Es,Nat.pow_succ]
   exact Nat.le_trans (Im b ns _) (Nat.mul_le_mul_right _ (Mb b ns i))
theorem Ph (b:α->α->Bool)(ns:List α){rows:List (List α)}{j:Nat}{row:List α}(h:rows[j]? = some row):De b ns (rows.take (j+1))=De b ns (rows.take j)++(frF b (Cd ns row)).map fun x=>row++[x]:=by
 rw[List.take_add_one,h]
 unfold De
 rw[List.flatMap_append]
 simp
theorem V3 (b:α->α->Bool)(L:List α):frF b L=(L.take L.length).filter fun x=>!(L.any fun y=>b y x):=by rw[List.take_length];rfl
theorem Jd (b:α->α->Bool)(ns:List α)(rows:List (List α))(j:Nat)(h:ns.length<=6)(hr:rows.length<=46656):(De b ns (rows.take j)).length<=279936:=by
 have h1:=Im b ns (rows.take j)
 have h2:(rows.take j).length<=46656:=Nat.le_trans (List.length_take_le' _ _) hr
 have h3:=Nat.mul_le_mul h2 h
 omega
theorem Mp (b:α->α->Bool)(ns:List α):∀(i:Nat) (row:List α),row∈D7 b ns i [[]]->row.length=i
 | 0,row,h=>by
   have:row=[]:=by simpa[D7] using h
   subst this
   rfl
 | i+1,row,h=>by
   rw[Es] at h
   unfold De at h
   obtain⟨r,hr,hx⟩:=List.mem_flatMap.mp h
   obtain⟨x,_,rfl⟩:=List.mem_map.mp hx
   rw[List.length_append,Mp b ns i r hr]
   rfl
theorem Xq {i m:Nat}(hm:m<=6)(hi:i<=6):m ^ i<=46656:=by
 have h1:m ^ i<=6 ^ i:=Nat.pow_le_pow_left hm i
 have h2:(6:Nat) ^ i<=6 ^ 6:=Nat.pow_le_pow_right (by decide) hi
 have h3:(6:Nat) ^ 6=46656:=by decide
 omega
end
def Jf:List Nat->Nat
 | []=>1
 | x :: xs=>x*Jf xs
theorem Et (x:Nat):∀ l:List Nat,Jf (l++[x])=Jf l*x
 | []=>by simp[Jf]
 | y :: ys=>by rw[List.cons_append];unfold Jf;rw[Et x ys,Nat.mul_assoc]
theorem Ml:∀ m:Nat,Jf ((List.range m).map fun i=>i+1)=fac m
 | 0=>rfl
 | m+1=>by rw[List.range_succ,List.map_append,List.map_cons,List.map_nil,Et,Ml m];rfl
end L2
namespace L2
section
variable {α:Type}[DecidableEq α]
end
end L2
namespace L2
open PySem PySem.Spec PyProof.Rows
section
variable {K:PySem.W.Frag}{σ:St}{H:Hp}{Q:VK}{td ty tx:TE}
end
section
variable {K:PySem.W.Frag}{C:Addr}{H H':Hp}{p dx:Addr}{nv:V}{bd ad kd:Addr}{ns:List Str}{ps:List (Str×Str)}{kvs:List (Key×V)}
end
section
variable {K:PySem.W.Frag}{σ:St}{H:Hp}{Q:VK}
end
theorem Jb {prog:Program}{w:World}{κ:Type}[DecidableEq κ](knd:KeyKind prog w κ)(d:Addr) :
  MeetsIn prog w (Builtin.«dict.update» ⟨[.ref d,.ref d],[]⟩) (fun _ R s=>(∃ kvs,s.heap.DictOf knd d kvs)/\R (.ok (.ret .none)) s):=
 .of_wp fun A R s hh=>by
  obtain⟨⟨kvs,hd⟩,h⟩:=hh
  unfold Builtin.«dict.update» Builtin.Dict.selfAndRest
  refine wpAny_bind (wpAny_bind (wpAny_notOrdered_dict hd.typeIs ?_))
  show wpAny _ _ (pure (d,[Value.ref d])) _ _ s
  refine wpAny_pure ?_
  show wpAny _ _ (Builtin.Dict.updateFrom "dict.update" d (.ref d) [] .none) _ _ s
  unfold Builtin.Dict.updateFrom Builtin.Dict.merge Builtin.Dict.readDirectly
  refine wpAny_bind (wpAny_typeOf hd.typeIs ?_)
  rw[if_neg (by decide)]
  refine wpAny_bind (wpAny_bind (wpAny_bind (wpAny_isInstance hd.typeIs isSubtype_dict_dict ?_)))
  simp only[Bool.not_true,Bool.false_eq_true,if_false]
  refine wpAny_bind (wpAny_specialOf hd.typeIs F.slot_dict_iter.lookup (wpAny_pure ?_))
  simp only[beq_self_eq_true,if_true]
  refine wpAny_bind (wpAny_pure ?_)
  unfold Builtin.Dict.mergeDict
  rw[if_pos (by simp)]
  refine wpAny_bind (wpAny_rule (wpAny_pure ?_))
  show wpAny _ _ (Builtin.Dict.addKeywords d [] >>= _) _ _ _
  exact wpAny_bind (wpAny_pure (wpAny_pure ⟨.none,rfl,h⟩))
def P9:V->List V->Hp->VK->Prop:=fun x vs H Q=>∃ d kvs,x = .ref d/\vs=[.ref d]/\H d=some (.dK kvs)/\Q .non H
def Kc:V->List V->Hp->VK->Prop:=fun x vs H Q=>O5 x vs H Q\/P9 x vs H Q
section
variable {X:Cx}{K:PySem.W.Frag}
theorem Po:MtM X "dict.update" P9:=by
 intro pins s σ H x vs v us Q I rx rv h
 obtain⟨d,kvs,rfl,rfl,hD,q⟩:=h
 cases rx
 obtain⟨u,rfl,ru⟩:=rv.one
 cases ru
 obtain⟨z1,hd1,vs1,rel1,dd1⟩:=S5 I.hok hD
 refine call_meetsIn F.slot_dict_update dd1.typeIs F.entry_dict_update (F.args_dict_update_2 _ _) (Jb (B5 X.prog X.w) d) ⟨⟨vs1,dd1⟩,?_⟩
 exact⟨.non,H,I.tok s.toks,rfl,q⟩
theorem Pi:MtM X "dict.update" Kc:=by
 intro pins s σ H x vs v us Q I rx rv h
 rcases h with h | h
 . exact T8 pins s σ H x vs v us Q I rx rv h
 exact Po pins s σ H x vs v us Q I rx rv h
end
theorem Zd {d o:Addr}{ks ms:List Str}{H:Hp}{Q:VK}(hd:H d=some (.dK (Fl ks)))(ho:H o=some (.dK (Fl ms)))(hne:d≠o)(hz:ks.length+ms.length<=1000000)(k:∀ H',ExtBut d H H'->H' d=some (.dK (Fl (Ic ks ms)))->Q .non H'):Kc (.ref d) [.ref o] H Q:=.inl (aa3 hd ho hne hz k)
theorem a42 {d:Addr}{kvs:List (Key×V)}{H:Hp}{Q:VK}(hd:H d=some (.dK kvs))(k:Q .non H):Kc (.ref d) [.ref d] H Q:=.inr ⟨d,kvs,rfl,rfl,hd,k⟩
structure Y0 (ns:List Str)(ps:List (Str×Str)):Prop where
 nd:ns.Nodup
 mem:∀ p∈ps,p.1∈ns/\p.2∈ns
 few:ns.length<=100
 le:ps.length<=1100
theorem HalfW.c {ns:List Str}{ps:List (Str×Str)}(h:HalfW ns ps):Y0 ns ps:=⟨h.nd,h.mem,h.few,Nat.le_trans h.le (by decide)⟩
instance {ns:List Str} {ps:List (Str×Str)}:Coe (HalfW ns ps) (Y0 ns ps):=⟨HalfW.c⟩
section
variable {α:Type}[DecidableEq α]
def okR (b:α->α->Bool) (r:List α):Prop:=(∀ u∈r,b u u=false)/\r.Pairwise fun u v=>b v u=false
theorem Hm {L:List α}(hn:L.Nodup){x:α}(hx:x∈L):(x :: B9 L x).Perm L:=by
 induction L with
 | nil=>cases hx
 | cons y ys ih=>
   obtain⟨h1,h2⟩:=List.nodup_cons.mp hn
   by_cases e:y=x
   . subst e
     have:B9 (y :: ys) y=ys:=by
      have e1:B9 (y :: ys) y=B9 ys y:=by unfold B9;rw[List.filter_cons,if_neg (by simp)]
      rw[e1,Hf h1]
     rw[this]
   have e1:B9 (y :: ys) x=y :: B9 ys x:=by unfold B9;rw[List.filter_cons,if_pos (by simp[e])]
   rw[e1]
   exact(List.Perm.swap y x _).trans ((ih h2 ((List.mem_cons.mp hx).resolve_left fun q=>e q.symm)).cons y)
theorem Ka (b:α->α->Bool):∀(n:Nat) (L r:List α),L.Nodup->L.length=n->(r∈ext b n L↔r.Perm L/\okR b r)
 | 0,L,r,_,hl=>by
   have:=List.length_eq_zero_iff.mp hl
   subst this
   constructor
   . intro h
     have:r=[]:=by simpa[ext] using h
     subst this
     exact⟨.refl _,(fun _ h=>by cases h),List.Pairwise.nil⟩
   rintro⟨h,_⟩
   have:r=[]:=List.perm_nil.mp h
   subst this
   simp[ext]
 | n+1,L,r,hn,hl=>by
   constructor
   . intro h
     obtain⟨x,hx,h⟩:=List.mem_flatMap.mp h
     obtain⟨t,ht,rfl⟩:=List.mem_map.mp h
     have hxL:=mem_frF.mp hx
     have hlen:=Dl hn hxL.1
     obtain⟨h1,h2,h3⟩:=(Ka b n (B9 L x) t (Ch hn x) (by omega)).mp ht
     refine⟨(h1.cons x).trans (Hm hn hxL.1),fun u hu=>?_,List.pairwise_cons.mpr ⟨fun v hv=>hxL.2 v (mem_lessF.mp (h1.mem_iff.mp hv)).1,h3⟩⟩
     rcases List.mem_cons.mp hu with rfl | hu
     . exact hxL.2 u hxL.1
     exact h2 u hu
   rintro⟨hp,hd,hpw⟩
   cases r with
   | nil=>
     have:=hp.length_eq
     rw[hl] at this
     cases this
   | cons x t=>
     have hxL:x∈L:=hp.mem_iff.mp (by simp)
     have hlen:=Dl hn hxL
     have hpt:t.Perm (B9 L x):=List.Perm.cons_inv (hp.trans (Hm hn hxL).symm)
     obtain⟨q1,q2⟩:=List.pairwise_cons.mp hpw
     refine List.mem_flatMap.mpr ⟨x,mem_frF.mpr ⟨hxL,fun y hy=>?_⟩,List.mem_map.mpr ⟨t,(Ka b n (B9 L x) t (Ch hn x) (by omega)).mpr ⟨hpt,fun u hu=>hd u (by simp[hu]),q2⟩,rfl⟩⟩
     by_cases e:y=x
     . rw[e]
       exact hd x (by simp)
     exact q1 y (hpt.mem_iff.mpr (mem_lessF.mpr ⟨hy,e⟩))
theorem Ij (b:α->α->Bool):∀(n:Nat) (L:List α),L.Nodup->(ext b n L).Nodup
 | 0,L,_=>by simp[ext]
 | n+1,L,hn=>by
   show((frF b L).flatMap fun x=>(ext b n (B9 L x)).map (x :: ·)).Nodup
   have key:∀ l:List α,l.Nodup->(l.flatMap fun x=>(ext b n (B9 L x)).map (x :: ·)).Nodup:=by
    intro l
    induction l with
    | nil=>intro _;simp
    | cons y ys ih=>
      intro hl
      obtain⟨h1,h2⟩:=List.nodup_cons.mp hl
      rw[List.flatMap_cons,List.nodup_append]
      refine⟨?_,ih h2,?_⟩
      . have hi:=Ij b n (B9 L y) (Ch hn y)
        exact List.pairwise_map.mpr (hi.imp fun hne e=>hne (List.cons.inj e).2)
      intro r hr t ht e
      obtain⟨r',_,rfl⟩:=List.mem_map.mp hr
      obtain⟨z,hz,ht⟩:=List.mem_flatMap.mp ht
      obtain⟨t',_,rfl⟩:=List.mem_map.mp ht
      have:y=z:=(List.cons.inj e).1
      exact h1 (this ▸ hz)
   exact key _ (T9 hn)
theorem Pw {β:Type}[DecidableEq β]{xs ys:List β}(h1:xs.Nodup)(h2:ys.Nodup)(h:∀ z,z∈xs↔z∈ys):xs.length=ys.length:=
 Nat.le_antisymm (Cr h1 fun z hz=>(h z).mp hz) (Cr h2 fun z hz=>(h z).mpr hz)
end
section
variable {prog:Program}{w:World}{A:Around}{E:Value->Shared->Prop}{I:Addr}{fp wr:List Addr}{n:Nat}{P:Nat->Value->Prop}{St:Nat->Heap->Prop}
end
section
variable {α:Type}[DecidableEq α]
theorem Us {b:α->α->Bool}{L M:List α}(hn:L.Nodup)(hp:M.Perm L):cnt b M=cnt b L:=by
 have hm:M.Nodup:=hp.nodup_iff.mpr hn
 unfold cnt
 refine Pw (Ij _ _ _ hm) (Ij _ _ _ hn) fun r=>?_
 rw[Ka _ _ _ _ hm rfl,Ka _ _ _ _ hn rfl]
 constructor
 . rintro⟨h1,h2⟩
   exact⟨h1.trans hp,h2⟩
 rintro⟨h1,h2⟩
 exact⟨h1.trans hp.symm,h2⟩
theorem Ge (A B:List α)(x:α):B9 (A++B) x=B9 A x++B9 B x:=by unfold B9;rw[List.filter_append]
end
section
variable {prog:Program}{w:World}{A:Around}{E:Value->Shared->Prop}{s:Shared}
end
section
variable {κ:Type}[DecidableEq κ]
end
section
variable {α β:Type}[DecidableEq α][DecidableEq β]
end
theorem Sy {α:Type}[DecidableEq α]{b:α->α->Bool}(irr:∀ x,b x x=false)(tr:∀ x y z,b x y=true->b y z=true->b x z=true):∀(n:Nat) (L:List α),L.length=n->L.Nodup->0<cnt b L
 | 0,L,hl,_=>by
   have:=List.length_eq_zero_iff.mp hl
   subst this
   exact Nat.zero_lt_one
 | n+1,L,hl,hn=>by
   have hne:L≠[]:=by intro e;rw[e] at hl;cases hl
   rw[Ti hn hne]
   cases hf:frF b L with
   | nil=>exact absurd hf (a32 irr tr hne)
   | cons x t=>
     have hx:x∈frF b L:=by rw[hf];simp
     have:=Dl hn (mem_frF.mp hx).1
     have:=Sy irr tr n (B9 L x) (by omega) (Ch hn x)
     rw[List.map_cons,List.sum_cons]
     omega
section
variable {α:Type}[DecidableEq α]
end
section
variable {X:Cx}
end
section
variable {X:Cx}{K:PySem.W.Frag}
end
section
variable {K:PySem.W.Frag}{σ:St}{H:Hp}
end
end L2
namespace L2
open PySem PySem.Spec PyProof.Rows
open PySem PySem.W PyProof.Rows
section
variable {n:Nat}{r:Nat->Nat}
end
section
variable {prog:Program}{w:World}{A:Around}{E:Value->Shared->Prop}{z:Shared}
end
section
variable {prog:Program}{w:World}{A:Around}{E:Value->Shared->Prop}{z:Shared}
end
section
variable {X:Cx}{K:PySem.W.Frag}
end
end L2
namespace L2
open PySem PySem.Spec PyProof.Rows
theorem S0 (xs ys:List Str):PyData.eqvAll (xs.map PyData.str) (ys.map PyData.str)=decide (xs=ys):=by
 induction xs generalizing ys with
 | nil=>cases ys<;>simp[PyData.eqvAll]
 | cons x xs ih=>
   cases ys with
   | nil=>simp[PyData.eqvAll]
   | cons y ys=>
     simp only[List.map_cons,PyData.eqvAll,ih,PyData.eqv]
     by_cases c:x=y
     . subst c;simp
     simp[c]
theorem Pa (xs ys:List Str):PyData.eqv (.list (xs.map PyData.str)) (.list (ys.map PyData.str))=decide (xs=ys):=by simp only[PyData.eqv,S0]
section
variable {κ:Type}[DecidableEq κ]{P:Program}{w:World}{kd:KeyKind P w κ}{A:Around}{E:Value->Shared->Prop}{z:Shared}
end
section
variable {X:Cx}{K:PySem.W.Frag}
end
section
variable {P:Program}{w:World}{A:Around}{E:Value->Shared->Prop}{z:Shared}
end
def Ik (h:Heap)(c TI TO:Addr)(f0:Value)(f1:Bool):Prop:=h.get? c=some { cls:=.type "zip",dict:=none,data:=.fields #[f0,.bool f1,.bool false,.ref TI,.ref TO],slots:=#[] }
section
variable {P:Program}{w:World}{A:Around}{E:Value->Shared->Prop}{z:Shared}
theorem Tm {c TI TO i1 i2:Addr}{fp1:List Addr}{n:Nat}{P1:Nat->Value->Prop}{S1:Nat->Heap->Prop}{Q:PySem.Fin->Shared->Prop}
  (D1:Draws P w A i1 fp1 n P1 S1) (hc:Ik z.heap c TI TO .none false) (hTI:IsPair z.heap TI (.ref i1) (.ref i2)) (h1:S1 n z.heap) (c1:c∉fp1) (y1:i1≠c)
  (stop:∀ g e,(∀ b ob,b≠c->b≠i1->z.heap.get? b=some ob->g.get? b=some ob)->(∃ ob,g.get? e=some ob/\ob.cls = .type "StopIteration")->E (.ref e) { z with heap:=g }) :
  wpAny (model P w) A (Builtin.«zip.__next__» ⟨[.ref c],[]⟩) Q E z:=by
 show wpAny _ _ (field (.ref c) 2 >>= _) _ _ _
 refine(wpAny_bind (wpAny_field hc rfl (x:=.bool false) rfl ?_))
 show wpAny _ _ (field (.ref c) 3 >>= _) _ _ _
 refine(wpAny_bind (wpAny_field hc rfl (x:=.ref TI) rfl ?_))
 refine(wpAny_bind (wpAny_seqItems hTI rfl ?_))
 show wpAny _ _ (Builtin.SmallTypes.ownedTupleIsFree (.ref c) >>= _) _ _ _
 refine(wpAny_bind ?_)
 unfold Builtin.SmallTypes.ownedTupleIsFree
 refine(wpAny_bind (wpAny_field hc rfl (x:=.none) rfl (wpAny_pure ?_)))
 simp only[if_true]
 refine(wpAny_bind (wpAny_rule ?_))
 refine(wpAny_bind (wpAny_field hc rfl (x:=.ref TO) rfl ?_))
 refine(wpAny_bind (wpAny_setField_rec hc (by simp) fun g0 hc0 sb0=>?_))
 refine(wpAny_bind ?_)
 simp only[List.zipIdx_cons,List.zipIdx_nil,List.forIn_cons,List.forIn_nil]
 have h1':S1 n g0:=D1.frame n _ _ h1 fun b hb ob q=>sb0.extBut b ob (fun e=>c1 (e ▸ hb)) q
 refine(wpAny_bind (wpAny_bind (wpAny_onRaise ?_)))
 show wpAny _ _ (Builtin.SmallTypes.nextOf (.ref i1) >>= _) _ _ _
 refine(wpAny_bind (D1.done _ _ _ h1' fun g1 e sb1 he=>?_))
 obtain⟨oe,hoe,hce⟩:=he
 have hc1:Ik g1 c TI TO .ellipsis false:=sb1 _ _ (Ne.symm y1) hc0
 have hez:e≠c:=fun q=>by subst q;rw[show g1.get? _=_ from hc1] at hoe;cases hoe;simp at hce
 refine(wpAny_setField_rec hc1 (by simp) fun g2 _ sb2=>stop g2 e (fun b ob b1 b2 q=>sb2.extBut b ob b1 (sb1 b ob b2 (sb0.extBut b ob b1 q))) ⟨oe,sb2.extBut _ _ hez hoe,hce⟩)
end
section
variable {P:Program}{w:World}{A:Around}{E:Value->Shared->Prop}{z:Shared}{c TI TO i1 i2 D:Addr}{fp1 fp2:List Addr}{n:Nat}{P1 P2:Nat->Value->Prop}{S1 S2:Nat->Heap->Prop}
end
section
variable {P:Program}{w:World}{κ:Type}[DecidableEq κ]{kd:KeyKind P w κ}{A:Around}{E:Value->Shared->Prop}{c TI TO i1 i2 D:Addr}{fp1 fp2:List Addr}{n:Nat}{P1 P2:Nat->Value->Prop}{S1 S2:Nat->Heap->Prop}
end
abbrev tiO (l:Addr):Obj:={ cls:=.type "tuple_iterator",data:=.fields #[.ref l,.int 0 0] }
abbrev zp1 (h:Heap)(p q:Obj):Heap:=(h.push p).push q
abbrev zp2 (h:Heap)(p q:Obj):Heap:=(zp1 h p q).push { cls:=.type "tuple",data:=.seq #[.ref h.objs.size,.ref (h.push p).objs.size] }
abbrev zp3 (h:Heap)(p q:Obj):Heap:=(zp2 h p q).push { cls:=.type "tuple",data:=.seq #[.none,.none] }
abbrev zp4 (h:Heap)(p q:Obj):Heap:=(zp3 h p q).push { cls:=.type "zip",data:=.fields #[.none,.bool false,.bool false,.ref (zp1 h p q).objs.size,.ref (zp2 h p q).objs.size] }
theorem N5 (a b:Addr)(xs ys:Array Value) :
  Meets (Builtin.«zip.__new__» ⟨[.type "zip",.ref a,.ref b],[]⟩) (fun _ R s=>s.heap.IsTuple a xs/\s.heap.IsTuple b ys/\R (.ok (.ret (.ref (zp3 s.heap (tiO a) (tiO b)).objs.size))) { s with heap:=zp4 s.heap (tiO a) (tiO b) }):=
 .of_wp fun prog w A R s both=>by
  obtain⟨hp,g,d,tk,os⟩:=s
  obtain⟨ha,hb,go⟩:=both
  have hsub:=sub_zip
  have hA:Heap.IsTuple (Shared.heap ⟨hp,g,d,tk,os⟩) a xs:=ha
  have hB:Heap.IsTuple (Shared.heap ⟨hp.push (tiO a),g,d,tk,os⟩) b ys:=let ⟨o,h1,h2⟩:=hb;⟨o,Heap.get?_push_of_some _ h1,h2⟩
  wp_walk using wpAny_pyIter_tuple hA,wpAny_pyIter_tuple hB
  exact⟨_,rfl,go⟩
section
variable {P:Program}{w:World}{A:Around}{E:Value->Shared->Prop}{z:Shared}
theorem Ug {h:Heap}{p q:Obj}{Q:Value->Shared->Prop}{s:Shared}(hs:s.heap=h)
  (go:∀ g,Ik g (h.objs.size+4) (h.objs.size+2) (h.objs.size+3) .none false->IsPair g (h.objs.size+2) (.ref h.objs.size) (.ref (h.objs.size+1))->IsPair g (h.objs.size+3) .none .none ->
   g.get? h.objs.size=some p->g.get? (h.objs.size+1)=some q->g.objs.size=h.objs.size+5->(∀ b o,h.get? b=some o->g.get? b=some o)->Q (.ref (h.objs.size+4)) { s with heap:=g }) (hp:p.isFreed=false) (hq:q.isFreed=false) :
  Q (.ref (zp3 h p q).objs.size) { s with heap:=zp4 h p q }:=by
 have z1:(h.push p).objs.size=h.objs.size+1:=Heap.size_push ..
 have z2:(zp1 h p q).objs.size=h.objs.size+2:=by rw[Heap.size_push,z1]
 have z3:(zp2 h p q).objs.size=h.objs.size+3:=by rw[Heap.size_push,z2]
 have z4:(zp3 h p q).objs.size=h.objs.size+4:=by rw[Heap.size_push,z3]
 have z5:(zp4 h p q).objs.size=h.objs.size+5:=by rw[Heap.size_push,z4]
 have g5:(zp4 h p q).get? (zp3 h p q).objs.size=some _:=Heap.get?_push_size _ rfl
 have g4:(zp4 h p q).get? (zp2 h p q).objs.size=some _:=Heap.get?_push_of_some _ (Heap.get?_push_size _ rfl)
 have g3:(zp4 h p q).get? (zp1 h p q).objs.size=some _:=Heap.get?_push_of_some _ (Heap.get?_push_of_some _ (Heap.get?_push_size _ rfl))
 have g2:(zp4 h p q).get? (h.push p).objs.size=some q:=Heap.get?_push_of_some _ (Heap.get?_push_of_some _ (Heap.get?_push_of_some _ (Heap.get?_push_size _ hq)))
 have g1:(zp4 h p q).get? h.objs.size=some p:=Heap.get?_push_of_some _ (Heap.get?_push_of_some _ (Heap.get?_push_of_some _ (Heap.get?_push_of_some _ (Heap.get?_push_size _ hp))))
 rw[z2,z3,z4] at g5
 rw[z1,z2] at g3
 rw[z3] at g4
 rw[z1] at g2
 rw[z4]
 exact go _ g5 g3 g4 g1 g2 z5 fun b o k=>Heap.get?_push_of_some _ (Heap.get?_push_of_some _ (Heap.get?_push_of_some _ (Heap.get?_push_of_some _ (Heap.get?_push_of_some _ k))))
theorem Ps {a b:Addr}{xs ys:Array Value}{Q:Value->Shared->Prop}(ha:z.heap.IsTuple a xs)(hb:z.heap.IsTuple b ys)
  (go:∀ g,Ik g (z.heap.objs.size+4) (z.heap.objs.size+2) (z.heap.objs.size+3) .none false->IsPair g (z.heap.objs.size+2) (.ref z.heap.objs.size) (.ref (z.heap.objs.size+1))->IsPair g (z.heap.objs.size+3) .none .none ->
   g.get? z.heap.objs.size=some (tiO a)->g.get? (z.heap.objs.size+1)=some (tiO b)->g.objs.size=z.heap.objs.size+5->(∀ b o,z.heap.get? b=some o->g.get? b=some o)->Q (.ref (z.heap.objs.size+4)) { z with heap:=g }) :
  wpAny (model P w) A (call (.type "zip") [.ref a,.ref b]) Q E z:=by
 refine callType_new F.called_zip (by decide) (F.typeCall_zip_2 _ _) (F.newCall_zip_2 _ _) (fun obj=>F.args_object_init_3 obj _ _) F.entry_zip_new (N5 a b xs ys) ⟨ha,hb,?_⟩
 refine Ug (Q:=fun v s'=>s'.TypeIs v "zip" /\ Q v s') rfl (fun g g5 g3 g4 g1 g2 z5 kp=>⟨⟨_,g5,rfl⟩,go g g5 g3 g4 g1 g2 z5 kp⟩) rfl rfl
end
section
variable {X:Cx}{K:PySem.W.Frag}
end
section
variable {K:PySem.W.Frag}{H:Hp}{Q:VK}
end
section
variable {K:PySem.W.Frag}{H:Hp}{Q:VK}
end
section
variable {ns ns':List Str}{ps ps' bs:List (Str×Str)}
end
section
variable {ns:List Str}{ps:List (Str×Str)}
end
section
variable {P:Program}{w:World}{A:Around}{E:Value->Shared->Prop}{z:Shared}
end
section
variable {X:Cx}{K:PySem.W.Frag}
end
section
variable {α:Type}[DecidableEq α]{b:α->α->Bool}{L:List α}
end
def a45:List V->Hp->VK->Prop:=fun xs H Q=>∃ i:Int,xs=[.int i]/\i.natAbs.log2<1920/\Q (.str (toString i)) H
theorem Q8 {X:Cx}:CallR X (.builtin "repr") a45:=by
 intro pins s σ H xs us Q I r h
 obtain⟨i,rfl,hz,q⟩:=h
 obtain ⟨u,rfl,t,rfl⟩:=G5 r
 exact PySem.P.repr_of_int hz ⟨.str _,H,I.tok _,⟨_,rfl⟩,q⟩
def xB:List Value:=[.type "ValueError",.type "Exception",.type "BaseException",.type "object"]
def Xf (K:PySem.W.Frag)(C:Addr):Bool:=match K.lookup C with
 | some ⟨.type "type",_,.cls cd,sl⟩=>(match cd.mro,sl.toList with
   | .ref D :: bm,[_,_,_,_,some (.builtin n),_]=>D==C&&n == "ValueError.__new__" && !cd.hasDel&&cd.hasDict&&PySem.W.tailIn K xB bm
   | _,_=>false)
 | _=>false
theorem Ix {K:PySem.W.Frag}{C:Addr}(q:Xf K C=true):∃(nm qn:Str) (N:Addr) (bs bm:List Value) (sn:List Str) (sub:List Value) (ab:Bool) (col:Option Bool) (dd:Option Addr) (k0 k1 k2 k3 k5:Option Value),
  K.lookup C=some (excClassObj nm qn C N bs bm true sn sub ab col dd k0 k1 k2 k3 k5 "ValueError.__new__")/\PySem.W.tailIn K xB bm=true:=by
 unfold Xf at q
 split at q
 . rename_i dd cd sl ho
   split at q
   . rename_i D bm k0 k1 k2 k3 n k5 hm hs
     simp only[Bool.and_eq_true,beq_iff_eq,Bool.not_eq_true'] at q
     obtain⟨⟨⟨⟨e1,e2⟩,hdel⟩,hdc⟩,ht⟩:=q
     subst e1 e2
     obtain⟨nm,bs,mro,ns,qn,hd,sn,sub,ab,col,del⟩:=cd
     dsimp only at hm hdel hdc
     subst hm hdel hdc
     have e3:sl = #[k0,k1,k2,k3,some (.builtin "ValueError.__new__"),k5]:=by
      obtain⟨l⟩:=sl
      simp only at hs
      rw[hs]
     subst e3
     exact⟨nm,qn,ns,bs,bm,sn,sub,ab,col,dd,k0,k1,k2,k3,k5,ho,ht⟩
   cases q
 cases q
theorem Vx {h:Heap}{l:List Value}(T:OwnTail h xB l):l.contains (.type "BaseException")=true:=T.hasType (by decide +kernel)
section
variable {prog:Program}{w:World}{A:Around}{E:Value->Shared->Prop}{h:Heap}{g:Array GenState}{d:Drawn}{t:Nat}{os:OsState}{K:PySem.W.Frag}{C fI:Addr}{Mo:List Value}
end
end L2
namespace L2
open PySem PySem.Spec PyProof.Rows
open PySem PySem.Spec PyProof.Rows Builtin Builtin.ObjectAttr
structure XC (K:PySem.W.Frag)(C:Addr):Prop where
 ex:Xf K C=true
 sa:PySem.W.findIn K (.ref C) "__setattr__" = some (some (.builtin "object.__setattr__"))
 ga:PySem.W.findIn K (.ref C) "__getattribute__" = some (some (.builtin "BaseException.__getattribute__"))
 gt:PySem.W.findIn K (.ref C) "__getattr__" = some none
 cl:PySem.W.findIn K (.ref C) "__class__" = some (some (.builtin "object.__class__"))
 cg:PySem.W.specialIn K (.builtin "object.__class__") "__get__" = some (some (.builtin "getset_descriptor.__get__"))
 ct:PySem.W.takesIn K (.builtin "object.__class__")=some true
section
variable {prog:Program}{w:World}{A:Around}{E:Value->Shared->Prop}{s:Shared}{K:PySem.W.Frag}{C x:Addr}{name:Str}{v:Value}
theorem XC.cls (c:XC K C):∃ cd,PySem.W.clsIn K C=some cd/\cd.hasDict=true/\∃ bm,cd.mro = .ref C :: bm/\PySem.W.tailIn K xB bm=true:=by
 obtain⟨nm,qn,N,bs,bm,sn,sub,ab,col,dd,k0,k1,k2,k3,k5,hl,htl⟩:=Ix c.ex
 exact⟨_,by unfold PySem.W.clsIn;rw[hl],rfl,bm,rfl,htl⟩
theorem XC.mro (c:XC K C){h:Heap}(X:K.In h){T:String}(hT:xB.contains (.type T)=true):PySem.W.mroIn K C (.type T)=some true:=by
 obtain⟨cd,hc,_,bm,hm,ht⟩:=c.cls
 unfold PySem.W.mroIn
 rw[hc,Option.bind_some,hm,if_neg (by simp)]
 rw[List.contains_cons,(PySem.W.tail_of_in X ht).hasType hT,Bool.or_true]
theorem Uh {M:Model}{ox:Obj}{od:Option Obj}{nameV:Value}{Q:Unit->Shared->Prop}(c:XC K C)(X:K.In s.heap)(I:PySem.W.InstAt s.heap x ox C od)(hq:Q () s) :
  wpAny M A (checkBuiltinCall "BaseException.__getattribute__" ⟨[.ref x,nameV],[]⟩) Q E s:=by
 have sub:PySem.W.Looks M s.heap (isInstance (.ref x) (.type "BaseException")) true:=I.type.andThen (PySem.W.looks_mroIn X (c.mro X (by decide +kernel)))
 exact @PySem.W.check_slot M _ _ s "BaseException.__getattribute__" "BaseException" "__getattribute__" (.ref x) [nameV] [] _ (by decide +kernel) (by decide +kernel) sub (PySem.F.args_bexc_ga (.ref x) nameV) hq
theorem ab2 {fill expr:Bool}{tk:Tok}{Q:Value->Shared->Prop}{ox:Obj}{od:Option Obj}(c:XC K C)(X:K.In s.heap)(I:PySem.W.InstAt s.heap x ox C od)
  (h:wpAny (model prog w) A.in1 (Builtin.«object.__getattribute__» ⟨[.ref x,.str name tk],[]⟩)
   (fun fin s'=>match fin with | .done (.ret v)=>wpAny (model prog w) A (handedOut v) Q E s' | _=>False) (fun _ _=>False) s):wpAny (model prog w) A (getAttrBy (.ref x) (.str name tk) fill expr) Q E s:=by
 obtain⟨hh,g,d,t,os⟩:=s
 have l0:=I.type (M:=model prog w)
 have l1:=PySem.W.looks_findIn (M:=model prog w) X c.ga
 have l2:=PySem.W.looks_findIn (M:=model prog w) X c.gt
 have f3:=PySem.F.excAttr_ValueError.ga.bind (.ref x)
 have e2:(Value.builtin "BaseException.__getattribute__" == Value.builtin "object.__getattribute__")=false:=by decide +kernel
 unfold getAttrBy
 refine wpAny_holding (wpAny_bind (l0.at (wpAny_bind (l1.at ?_))))
 show wpAny _ _ (if(onTheHeap (Value.ref C)&&Value.builtin "BaseException.__getattribute__" == Value.builtin "object.__getattribute__")=true then _ else _) _ _ _
 rw[e2,Bool.and_false,if_neg (by decide)]
 unfold getAttrByItsOwn hookBefore
 rw[if_pos (show onTheHeap (Value.ref C)=true from rfl)]
 refine wpAny_bind (l2.at (wpAny_bind (wpAny_attempt (wpAny_holding ?_))))
 unfold callGetattribute
 rw[if_neg (by cases expr<;>decide)]
 unfold boundAndCalled
 rw[f3]
 refine wpAny_bind (wpAny_pure (wpAny_call (codeAny_call_builtin PySem.F.excAttr_ValueError.ga.plain PySem.F.entry_bexc_ga (Uh (s:=⟨hh,g,d,t,os⟩) c X I ?_))))
 refine wpAny_mono h (fun fin s' z=>?_) fun _ _ z=>z.elim
 rcases fin with (_ | _ | _ | _) | _<;>first | exact z | exact z.elim
theorem Uc {Q:Option Value->Shared->Prop}{ox:Obj}{od:Option Obj}(c:XC K C)(X:K.In s.heap)(I:PySem.W.InstAt s.heap x ox C od)(h:Q (some (.ref C)) { s with toks:=s.toks+1 }) :
  wpAny (model prog w) A (getAttr? (.ref x) "__class__") Q E s:=by
 obtain⟨hh,g,d,t,os⟩:=s
 obtain⟨cd,hc,hd,bm,hmr,htl⟩:=c.cls
 have l0:=I.type (M:=model prog w)
 have hf:PySem.W.findObj K C od "__class__" = some (.bind (.builtin "getset_descriptor.__get__") (.builtin "object.__class__")):=by
  unfold PySem.W.findObj
  simp only[hc,c.cl,c.cg,c.ct,Option.bind_some]
 have l3:=PySem.W.looks_find (M:=model prog w) X I hf
 unfold getAttr? getAttrBy?
 refine wpAny_bind (wpAny_mkText (wpAny_bind (wpAny_attempt ?_)))
 refine ab2 (s:=⟨hh,g,d,t+1,os⟩) c X I ?_
 refine wpAny_bind (wpAny_pure (wpAny_bind (wpAny_pure (wpAny_bind (l0.at (wpAny_bind (l3.at ?_)))))))
 show wpAny _ _ (holding [Value.builtin "object.__class__"] (call (.builtin "getset_descriptor.__get__") [.builtin "object.__class__",.ref x,.ref C]) >>= ret) _ _ _
 refine wpAny_bind (wpAny_holding (wpAny_call (PySem.W.class_get (s:=⟨hh,g,d,t+1,os⟩) (ox:=ox) (od:=od) X I (c.mro X (by decide +kernel)) ?_)))
 refine wpAny_pure ?_
 show wpAny _ _ (handedOut (.ref C)) _ _ _
 rw[PySem.W.handedOut_of rfl]
 exact wpAny_pure (wpAny_pure h)
theorem Sk {od:Option Obj}{ox:Obj}(c:XC K C):PySem.W.KitX K (.ref x) (.ref C) (fun h=>PySem.W.InstAt h x ox C od) where
 ty:=fun _ _ _ I=>I.type
 it:=fun _ _ X _=>by
  obtain⟨nm,qn,N,bs,bm,sn,sub,ab,col,dd,k0,k1,k2,k3,k5,hl,htl⟩:=Ix c.ex
  intro A' Q' E' s' k q
  unfold isType loadHead
  exact wpAny_bind (wpAny_loadPart (k _ _ (X _ _ hl)) (wpAny_pure q))
 ne:=fun h tp dd its n sl X htp=>by
  obtain⟨nm,qn,N,bs,bm,sn,sub,ab,col,dd,k0,k1,k2,k3,k5,hl,htl⟩:=Ix c.ex
  refine Bool.eq_false_iff.mpr fun q=>?_
  have e:C=tp:=Value.ref.inj (beq_iff_eq.mp q)
  subst e
  have z:=congrArg Obj.cls (Option.some.inj ((X _ _ hl).symm.trans htp))
  exact absurd (Value.type.inj z) (by decide)
 ca:=fun X I k=>Uc c X I k
end
end L2
namespace L2
open PySem PySem.Spec PyProof.Rows
def exG (n:Bool)(a C:Addr)(od:Option Addr):HO:=.ext fun h=>∃ vs sl,h.get? a=some ⟨.ref C,od,.fields vs,sl⟩/\(n=true->vs[1]? = some .none)
abbrev exO (a C:Addr)(od:Option Addr):HO:=exG true a C od
def xdO (dx:Addr)(fs:List (Str×V)):HO:=.ext fun h=>∃ mA,h.Ns1 dx mA/\∀ f,RelO (fs.lookup f) (mA f)
section
variable {P:Program}{w:World}{H:Hp}{h:Heap}{a C dx:Addr}{od:Option Addr}{fs:List (Str×V)}
theorem exG_ok {n:Bool}:ObjOk P w H h a (exG n a C od)↔∃ vs sl,h.get? a=some ⟨.ref C,od,.fields vs,sl⟩/\(n=true->vs[1]? = some .none):=
 ⟨fun x=>x.1,fun⟨vs,sl,e,z⟩=>⟨⟨vs,sl,e,z⟩,⟨_,e⟩,fun h1 h2 ⟨vs,sl,e,z⟩ k=>⟨vs,sl,k _ e,z⟩⟩⟩
theorem exO_ok:ObjOk P w H h a (exO a C od)↔∃ vs sl,h.get? a=some ⟨.ref C,od,.fields vs,sl⟩/\(true=true->vs[1]? = some .none):=exG_ok
theorem xdO_ok:ObjOk P w H h dx (xdO dx fs)↔∃ mA,h.Ns1 dx mA/\∀ f,RelO (fs.lookup f) (mA f):=
 ⟨fun x=>x.1,fun⟨mA,n,r⟩=>⟨⟨mA,n,r⟩,(let ⟨o,_,_,e,_⟩:=n;⟨o,e⟩),fun h1 h2 ⟨mA,n,r⟩ k=>⟨mA,(let ⟨o,es,ep,e,z⟩:=n;⟨o,es,ep,k _ e,z⟩),r⟩⟩⟩
end
def Km (K:PySem.W.Frag)(C B:Addr):Bool:=(PySem.W.clsIn K C).any fun cd=>cd.mro == .ref C :: .ref B :: xB
section
variable {K:PySem.W.Frag}{C B D:Addr}
theorem XC.ty (c:XC K C):PySem.W.typeIn K (.ref C)=some (.type "type"):=by
 obtain⟨nm,qn,N,bs,bm,sn,sub,ab,col,dd,k0,k1,k2,k3,k5,hl,htl⟩:=Ix c.ex
 show Option.map (fun x=>x.cls) (List.lookup C K)=_
 rw[hl]
 rfl
theorem N8 (c:XC K C)(hm:Km K C B=true)(d:XC K D):PySem.W.kitOne K (.ref C) (.ref D)=some (C==D||D==B):=by
 unfold PySem.W.kitOne
 by_cases e:C=D
 . subst e;simp
 have e1:(Value.ref C==Value.ref D)=false:=beq_eq_false_iff_ne.mpr fun q=>e (Value.ref.inj q)
 have e2:(C==D)=false:=beq_eq_false_iff_ne.mpr e
 rw[if_neg (by rw[e1];decide),e2,Bool.false_or]
 unfold PySem.W.kitCls
 obtain⟨cd,hc,_⟩:=d.cls
 dsimp only
 rw[if_pos (by rw[hc,d.ty];rfl)]
 show PySem.W.mroIn K C (.ref D)=_
 obtain⟨cd,hc,hx⟩:=PySem.W.any_some hm
 unfold PySem.W.mroIn
 rw[hc,Option.bind_some,beq_iff_eq.mp hx,if_neg (by simp)]
 rw[List.contains_cons,List.contains_cons,show xB.contains (Value.ref D)=false from rfl,Bool.or_false]
 congr 1
 rw[show(Value.ref D==Value.ref C)=false from beq_eq_false_iff_ne.mpr fun q=>e (Value.ref.inj q).symm,Bool.false_or]
 by_cases eb:D=B
 . subst eb;simp
 rw[show(D==B)=false from beq_eq_false_iff_ne.mpr eb,beq_eq_false_iff_ne.mpr fun q=>eb (Value.ref.inj q)]
end
section
variable {X:Cx}{pins:List (Addr×Obj)}{σ:St}{H:Hp}{s:Shared}{a C dx:Addr}{fs:List (Str×V)}{f:Str}{v:V}{A:Around}{E:Value->Shared->Prop}
end
section
variable {X:Cx}{o e value:Expr}{f:Str}{pos pos' tpos:Pos}{ta tv:TE}
end
def ExB (n:Bool)(H:Hp)(a C:Addr)(fs:List (Str×V)):Prop:=(fs=[]/\H a=some (exG n a C none))\/∃ dx,dx≠a/\H a=some (exG n a C (some dx))/\H dx=some (xdO dx fs)
abbrev ExA (H:Hp)(a C:Addr)(fs:List (Str×V)):Prop:=ExB true H a C fs
theorem ExB.inst {n:Bool}{P:Program}{w:World}{H:Hp}{h:Heap}{a C:Addr}{fs:List (Str×V)}(e:ExB n H a C fs)(x:HOk P w H h):∃ ox od,PySem.W.InstAt h a ox C od:=by
 rcases e with ⟨_,e⟩ | ⟨dx,_,e,d⟩
 . obtain⟨vs,sl,q,_⟩:=exG_ok.mp (x a _ e)
   exact⟨_,none,q,rfl,rfl,True.intro⟩
 obtain⟨vs,sl,q,_⟩:=exG_ok.mp (x a _ e)
 obtain⟨mA,hn,_⟩:=xdO_ok.mp (x dx _ d)
 obtain⟨o,_,_,ho,_⟩:=hn
 exact⟨_,some o,q,rfl,rfl,ho⟩
theorem ExB.same {n:Bool}{H H':Hp}{a C:Addr}{fs:List (Str×V)}(e:ExB n H a C fs)(s:∀ b o,H b=some o->H' b=some o):ExB n H' a C fs:=by
 rcases e with ⟨e1,e⟩ | ⟨dx,ne,e,d⟩
 . exact .inl ⟨e1,s _ _ e⟩
 exact .inr ⟨dx,ne,s _ _ e,s _ _ d⟩
def a49 (K:PySem.W.Frag):List V->Hp->VK->Prop:=fun xs H Q=>∃ n a C fs b,ExB n H a C fs/\XC K C /\
 ((∃ c,xs=[.ref a,.ref c]/\PySem.W.kitOne K (.ref C) (.ref c)=some b)\/(∃ c,xs=[.ref a,.ty c]/\PySem.W.kitOne K (.ref C) (.type c)=some b) \/
   ∃(p:Addr) (cs:List Addr),xs=[.ref a,.ref p]/\H p=some (.tup (cs.map V.ref))/\PySem.W.kitAny K (.ref C) (cs.map Value.ref)=some b)/\Q (.bl b) H
theorem Lr:∀ {cs:List Addr} {us:List Value},Vals (cs.map V.ref) us->us=cs.map Value.ref
 | [], us,r=>by cases us with | nil=>rfl | cons _ _=>cases r
 | c :: cs,us,r=>by
   cases us with
   | nil=>cases r
   | cons u us=>
     cases r with
     | cons r1 r2=>rw[List.map_cons,Lr r2,show u=Value.ref c from r1]
theorem Uo {X:Cx}:CallR X (.builtin "isinstance") (a49 X.K):=by
 intro pins s σ H xs us Q I r h
 obtain⟨n,a,C,fs,b,ea,c,hc,q⟩:=h
 obtain⟨ox,od,J⟩:=ea.inst I.hok
 rcases hc with ⟨c',rfl,e⟩ | ⟨c',rfl,e⟩ | ⟨p,cs,rfl,hp,e⟩
 . obtain⟨u,w',rfl,r1,r2⟩:=Q5 r
   cases r1;cases r2
   exact PySem.W.kia_one (Sk c) I.kIn J e (fun z=>nomatch z) fun tk=>⟨.bl _,H,I.tok _,rfl,q⟩
 . obtain⟨u,w',rfl,r1,r2⟩:=Q5 r
   cases r1;cases r2
   exact PySem.W.kia_one (Sk c) I.kIn J e (fun z=>nomatch z) fun tk=>⟨.bl _,H,I.tok _,rfl,q⟩
 obtain⟨u,w',rfl,r1,r2⟩:=Q5 r
 cases r1;cases r2
 obtain⟨_,its,ri,ob,g1,g2,⟨n,g3⟩,g4⟩:=(show ObjOk X.prog X.w H s.heap p (.tup (cs.map V.ref)) from I.hok p _ hp)
 obtain rfl:=Lr ri
 obtain⟨oc,odd,oda,osl⟩:=ob
 dsimp only at g2 g3 g4
 subst g2 g3 g4
 exact PySem.W.kia_tup (Sk c) I.kIn J g1 e (fun z=>nomatch z) fun tk=>⟨.bl _,H,I.tok _,rfl,q⟩
theorem Il {X:Cx}{K:PySem.W.Frag}(hK:X.K=K:=by ac_nf):CallR X (.builtin "isinstance") (a49 K):=hK ▸ Uo
def Qp (K:PySem.W.Frag)(C:Addr):Bool:=match K.lookup C with
 | some ⟨_,_,.cls cd,_⟩=>PySem.W.nsOkIn K cd.ns&&PySem.W.nsIn K cd.ns "__init__" == some none
 | _=>false
structure Zl (K:PySem.W.Frag)(mg:Str->Option Value)(C:Addr)(x:Str):Prop where
 xc:XC K C
 no:Qp K C=true
 kp:PySem.W.keepIn K (.ref C)=true
 gl:mg x=some (.ref C)
def a01 (C:Addr)(vs:List V)(H1:Hp)(Q:VK):Prop:=vs.length<=8/\∀ x,H1 x=none->Q (.ref x) (upd H1 x (exO x C none))
def a91 (C:Addr) (t:TA):TE:=fun σ H Q=>t σ H fun vs H1=>a01 C vs H1 Q
theorem O6 {P:Program}{w:World}{H:Hp}{h:Heap}{a:Addr}(x:HOk P w H h)(n:h.get? a=none):H a=none:=by
 cases q:H a with
 | none=>rfl
 | some o=>
   have t:∀ o,ObjOk P w H h a o->∃ u,h.get? a=some u:=fun o z=>by
    cases o with
    | lst xs=>obtain⟨_,_,_,_,e⟩:=z;exact⟨_,e⟩
    | tup xs=>obtain⟨_,_,_,_,e,_⟩:=z;exact⟨_,e⟩
    | dK kvs=>obtain⟨_,_,_,_,o,_,_,e,_⟩:=z;exact⟨_,e⟩
    | dT kvs=>obtain⟨_,_,_,_,o,_,_,e,_⟩:=z;exact⟨_,e⟩
    | set S n=>obtain⟨o,_,_,_,e,_⟩:=z;exact⟨_,e⟩
    | ins C dx fs=>obtain⟨_,_,_,e,_⟩:=z;exact⟨_,e⟩
    | own y=>obtain⟨_,e⟩:=z;exact⟨_,e⟩
    | xd fs=>obtain⟨_,⟨_,_,_,e,_⟩,_⟩:=z;exact⟨_,e⟩
    | rng lo hi=>obtain⟨_,_,_,e⟩:=z;exact⟨_,e⟩
    | frz ob u=>obtain⟨e,_⟩:=z;exact⟨_,e⟩
    | tbl ps=>exact⟨_,z⟩
    | met f y=>exact⟨_,z⟩
    | ext φ=>obtain⟨_,e,_⟩:=z;exact e
   obtain⟨u,e⟩:=t o (x a o q)
   rw[n] at e;cases e
theorem Inv.laidN {X:Cx}{pins:List (Addr×Obj)}{σ:St}{H:Hp}{s:Shared}{h':Heap}{a:Addr}{o:HO}{t':Nat}(I:Inv X pins σ H s)(k:∀ b u,s.heap.get? b=some u->h'.get? b=some u)(n:s.heap.get? a=none)
  (new:ObjOk X.prog X.w (upd H a o) h' a o):Inv X pins σ (upd H a o) { s with heap:=h',toks:=t' }:=by
 have hn:=O6 I.hok n
 have nb:∀ b u,s.heap.get? b=some u->b≠a:=fun b u q z=>by rw[z,n] at q;cases q
 have nh:∀ b u,H b=some u->upd H a o b=some u:=fun b u q=>by rw[As fun z=>by rw[z,hn] at q;cases q];exact q
 refine I.un ⟨fun b u q _ _ _=>k b u q,fun b u q _ _ _=>⟨u.slots,k b u q⟩,fun b u q z _=>by rw[As (nb b u q)];exact z,fun b u q _=>⟨u,k b u q⟩,fun b xs q=>nh b _ q,fun b ob u q=>nh b _ q,fun b ps q=>⟨#[],by rw[Array.append_empty];exact nh b _ q⟩⟩ fun b u q=>?_
 by_cases z:b=a
 . subst z;rw[A9] at q;cases q;exact new
 rw[As z] at q
 exact(I.hok b u q).stay (fun c v _ r=>k c v r) (fun c r=>nh c _ r) fun c xs r=>nh c _ r
section
variable {X:Cx}{k:Nat}{f C:Addr}{fd:FuncData}{ps:List Str}{sp:Sp}{x:Str}{p pos:Pos}{e:Expr}{es:List Expr}{t:TA}{pins:List (Addr×Obj)}{σ:St}{H:Hp}{s:Shared}{Q:VK}{us:List Value}{vs:List V}
theorem U7 (M:Zl X.K X.mg C x)(I:Inv X pins σ H s)(r:Vals vs us)(hz:vs.length<=8)(h:∀ x,H x=none->Q (.ref x) (upd H x (exO x C none))) :
  wpAny (model X.prog X.w) X.A (call (.ref C) us) (EP X pins σ Q) X.xe s:=by
 obtain⟨nm,qn,N,bs,bm,sn,sub,ab,col,dd,k0,k1,k2,k3,k5,hl,htl⟩:=Ix M.xc.ex
 have hno:=M.no
 unfold Qp at hno
 rw[hl] at hno
 simp only[Bool.and_eq_true,beq_iff_eq] at hno
 obtain⟨hh,g,d,tk,os⟩:=s
 have Xn:X.K.In hh:=I.kIn
 refine wpAny_call_exc_subT PySem.F.excBase_ValueError (PySem.W.tail_of_in Xn htl) (Xn _ _ hl) (.of_isNs (PySem.W.isNs_of_in Xn hno.1)) (PySem.W.nsMap_none_of_in Xn hno.1 hno.2) (fun h' e m=>?_) (by rw[<- r.length,sizeLine_eq];omega)
 obtain⟨t0,he,_⟩:=m.there
 exact⟨.ref e,upd H e (exO e C none),I.laidN (t':=tk) m.keeps m.new (exO_ok.mpr ⟨_,_,he,fun _=>rfl⟩),rfl,h e (O6 I.hok m.new)⟩
theorem Xk (M:Zl X.K X.mg C x)(hg:Gl X x)(ha:PA X (e :: es) t)(hdb:(x==("__debug__":Str))=false:=by decide)
  (he:starEach (e :: es) X.env=(false,eval e X.env) :: starEach es X.env:=by ac_nf) (hpl:(backTo pos (starEach es X.env)).any (·.1)=false:=by ac_nf) :
  PE X (.Call (.Name x p) (e :: es) [] pos) (a91 C t):=by
 intro pins s σ H Q I h
 refine wpAny_Call_Name_kw (Kk I hg M.gl ?_ hdb)
 refine PySem.W.callWith_K (h₀:=X.base) I.ok.mod.kin M.kp (thn (ha pos pins s σ H _ I h) fun us s1 ⟨vs,H1,I1,r,z,q⟩=>⟨I1.kIn,?_⟩) he hpl
 exact U7 M I1 r z q
end
section
variable {X:Cx}{K:PySem.W.Frag}{o e value:Expr}{f:Str}{pos pos':Pos}{ta tv:TE}
end
section
variable {K:PySem.W.Frag}{σ:St}{H:Hp}{Q:VK}{D:Ends}{f:Str}{ta tv:TE}{t:TA}{sp:Sp}{C a dx B G:Addr}{fs:List (Str×V)}{v y:V}{R:Hp->Prop}{vs:List V}
theorem a67 (hz:vs.length<=8)(k:∀ x H',H x=none->Same H H'->ExA H' x C []->Q (.ref x) H'):a01 C vs H Q:=
 ⟨hz,fun x hx=>k x _ hx (fun b u q=>by rw[As (ne_of_none q hx)];exact q) (.inl ⟨rfl,A9⟩)⟩
theorem a95 {n' b:Bool}(h:ExB n' H a C fs)(c:XC K C)(e:PySem.W.kitOne K (.ref C) (.ref G)=some b)(k:Q (.bl b) H):a49 K [.ref a,.ref G] H Q:=⟨n',a,C,fs,b,h,c,.inl ⟨G,rfl,e⟩,k⟩
theorem Ze {n' b:Bool}{T:String}(h:ExB n' H a C fs)(c:XC K C)(e:PySem.W.kitOne K (.ref C) (.type T)=some b)(k:Q (.bl b) H):a49 K [.ref a,.ty T] H Q:=⟨n',a,C,fs,b,h,c,.inr (.inl ⟨T,rfl,e⟩),k⟩
theorem Z7 {n' b:Bool}{p:Addr}{cs:List Addr}(h:ExB n' H a C fs)(c:XC K C)(hp:H p=some (.tup (cs.map V.ref)))(e:PySem.W.kitAny K (.ref C) (cs.map Value.ref)=some b)(k:Q (.bl b) H):a49 K [.ref a,.ref p] H Q:=
 ⟨n',a,C,fs,b,h,c,.inr (.inr ⟨p,cs,rfl,hp,e⟩),k⟩
end
theorem Xc {K:PySem.W.Frag}{C B:Addr}(hm:Km K C B=true):PySem.W.kitOne K (.ref C) (.type "ValueError")=some true:=by
 obtain⟨cd,hc,hx⟩:=PySem.W.any_some hm
 unfold PySem.W.kitOne
 rw[if_neg (by rw[beq_eq_false_iff_ne.mpr (by intro q;cases q)];decide)]
 unfold PySem.W.kitCls
 dsimp only
 rw[if_pos (by decide +kernel)]
 show PySem.W.mroIn K C _=_
 unfold PySem.W.mroIn
 rw[hc,Option.bind_some,beq_iff_eq.mp hx,if_neg (by simp),List.contains_cons,List.contains_cons,show xB.contains (Value.type "ValueError")=true by decide +kernel,Bool.or_true,Bool.or_true]
structure Lft (fs:List Addr)(a:Addr)(oe:Obj)(old:List Addr)(h h':Heap):Prop where
 keep:∀ b o,b∉fs->b≠a->b∉old->h.get? b=some o->h'.get? b=some o
 slot:∀ b o,b∈fs->h.get? b=some o->∃ sl,h'.get? b=some { o with slots:=sl }
 there:∀ b o,h.get? b=some o->∃ o',h'.get? b=some o'
 tr:∃ oe' vs T oT ts,h'.get? a=some oe'/\oe'.cls=oe.cls/\oe'.dict=oe.dict/\oe'.slots=oe.slots/\oe'.data = .fields vs/\vs[1]? = some (.ref T)/\T≠a/\h.get? T=none/\h'.get? T=some oT/\oT.data = .fields ts/\ts[3]? = some .none
section
variable {M:Model}{A:Around}{E:Value->Shared->Prop}{s:Shared}{base:Heap}{env:Env}{outer:List Env}{L a:Addr}{oe:Obj}{vs:Array Value}{Q:Unit->Shared->Prop}
theorem Rs (o:Obj)(g:Array Value->Array Value):(o.mapFields g).dict=o.dict/\(o.mapFields g).slots=o.slots/\(o.mapFields g).cls=o.cls:=by
 obtain⟨c,d,dt,sl⟩:=o
 cases dt<;>exact⟨rfl,rfl,rfl⟩
theorem Oc {head:Value}{hadNext:Bool}(hfr:A.frames=some (env :: outer))(hl:s.heap.FunFrames base (env :: outer))(hf:env.frame=some L)(he:s.heap.get? a=some oe)(hd:oe.data = .fields vs)(hsz:1<vs.size)
  (h:∀ h',Lft (frs (env :: outer)) a oe [] s.heap h'->Q () { s with heap:=h' }) :
  wpAny M A (do let x <- frameOf env;let pl <- entryPlaceOf L hadNext;let b <- EntryCells.newEntry head x .none (rawInt L) .none pl;setField (.ref a) 1 b) (fun _ s'=>wpAny M A (setFlight (.ref a) none) Q E s') E s:=by
 have ha:a∉frs (env :: outer):=fun hm=>by
  obtain⟨_,o,ho,hnf⟩:=hl.mem hm
  rw[he] at ho;cases ho;exact hnf vs hd
 refine wpAny_bind (wpAny_frameOf_fun hfr hl hf fun h1 k1=>?_)
 refine wpAny_bind (wpAny_entryPlaceOf fun pl hpl=>?_)
 unfold EntryCells.newEntry newFields
 refine wpAny_bind (wpAny_newObj_type ?_ (hpl.sizeOk5 _ _ _ _ _))
 generalize hob:(Obj.mk (Value.type "traceback") none (Data.fields ([head,Value.ref L,Value.none,rawInt L,Value.none]++(if pl.isEmpty then List.replicate 6 Value.none else pl)).toArray) #[]:Obj)=ob
 have obd:ob.data = .fields ([head,Value.ref L,Value.none,rawInt L,Value.none]++(if pl.isEmpty then List.replicate 6 Value.none else pl)).toArray:=by rw[<- hob]
 have hob2:ob.isFreed=false:=Obj.isFreed_of_fields obd
 have he1:h1.get? a=some oe:=(k1.2.1 a ha).trans he
 have he2:=Heap.get?_push_of_some (h:=h1) ob he1
 refine wpAny_setField he2 hd hsz ?_
 have hTe:h1.objs.size≠a:=Nat.ne_of_gt (Heap.lt_size he1)
 have d3:=Obj.data_mapFields hd (·.setIfInBounds 1 (Value.ref h1.objs.size))
 have he3:=Heap.get?_update_self (Obj.mapFields (·.setIfInBounds 1 (Value.ref h1.objs.size))) he2 (Obj.isFreed_of_fields d3)
 have hT3:=(Heap.get?_update_other (h1.push ob) (Obj.mapFields (·.setIfInBounds 1 (Value.ref h1.objs.size))) (Ne.symm hTe)).trans (Heap.get?_push_size h1 hob2)
 unfold setFlight
 refine wpAny_bind (wpAny_field he3 d3 (x:=.ref h1.objs.size) (by simp[hsz]) ?_)
 rw[if_pos (show(Value.ref h1.objs.size != Value.none)=true from by simp)]
 refine wpAny_setField hT3 obd (by simp only[List.size_toArray,List.length_append,List.length_cons,List.length_nil]<;>omega) (h _ ?_)
 have kp:∀ b o,b≠a->h1.get? b=some o->(((h1.push ob).update a (Obj.mapFields (·.setIfInBounds 1 (Value.ref h1.objs.size)))).update h1.objs.size (Obj.mapFields (·.setIfInBounds 3 ((none:Option Addr).elim Value.none fun f=>rawInt f)))).get? b=some o:=fun b o hbe hb=>by
  rw[Heap.get?_update_other _ _ (Nat.ne_of_gt (Heap.lt_size hb)),Heap.get?_update_other _ _ (Ne.symm hbe)]
  exact Heap.get?_push_of_some _ hb
 have hea:=(Heap.get?_update_other _ (Obj.mapFields (·.setIfInBounds 3 ((none:Option Addr).elim Value.none fun f=>rawInt f))) hTe).trans he3
 refine⟨fun b o hb hba _ q=>kp b o hba ((k1.2.1 b hb).trans q),fun b o hb q=>?_,fun b o q=>?_,?_⟩
 . obtain⟨sl,z⟩:=k1.2.2 b o q
   exact⟨sl,kp b _ (fun w=>ha (w ▸ hb)) z⟩
 . by_cases w:b=a
   . subst w;exact⟨_,hea⟩
   obtain⟨sl,z⟩:=k1.2.2 b o q
   exact⟨_,kp b _ w z⟩
 obtain⟨m1,m2,m3⟩:=Rs oe (·.setIfInBounds 1 (Value.ref h1.objs.size))
 refine⟨_,_,h1.objs.size,_,_,hea,m3,m1,m2,d3,by simp[hsz],hTe,Heap.get?_none_of_le (by rw[k1.1];exact Nat.le_refl _),Heap.get?_update_self _ hT3 (Obj.isFreed_of_fields (Obj.data_mapFields obd _)),Obj.data_mapFields obd _,?_⟩
 rcases hpl with rfl | ⟨_,_,_,_,_,_,_,rfl⟩<;>simp
theorem U2 (hfr:A.frames=some (env :: outer))(hl:s.heap.FunFrames base (env :: outer))(hf:env.frame=some L)(he:s.heap.get? a=some oe)(hd:oe.data = .fields vs)(h1:vs[1]? = some .none)
  (h:∀ h',Lft (frs (env :: outer)) a oe [] s.heap h'->Q () { s with heap:=h' }):wpAny M A (leaving env (.ref a)) Q E s:=by
 unfold leaving noteFrame
 simp only[hf]
 refine wpAny_bind (wpAny_bind (wpAny_field he hd h1 ?_))
 rw[if_neg (by decide)]
 exact Oc hfr hl hf he hd (Array.getElem?_eq_some_iff.mp h1).1 h
theorem Uy {T:Addr}{oT:Obj}{ts:Array Value}(hfr:A.frames=some (env :: outer))(hl:s.heap.FunFrames base (env :: outer))(hf:env.frame=some L)(he:s.heap.get? a=some oe)(hd:oe.data = .fields vs)(h1:vs[1]? = some (.ref T))
  (hTe:T≠a) (hT:s.heap.get? T=some oT) (hdT:oT.data = .fields ts) (h3:ts[3]? = some .none)
  (h:∀ h',Lft (frs (env :: outer)) a oe [T] s.heap h'->Q () { s with heap:=h' }):wpAny M A (noteFrame (.ref a) env) (fun _ s'=>wpAny M A (setFlight (.ref a) none) Q E s') E s:=by
 unfold noteFrame
 simp only[hf]
 refine wpAny_bind (wpAny_field he hd h1 ?_)
 rw[if_pos (show(Value.ref T != Value.none)=true from by simp)]
 refine wpAny_bind (wpAny_field hT hdT h3 ?_)
 rw[if_neg (show ¬ ((Value.none==rawInt L)=true) from by simp[rawInt])]
 refine wpAny_bind (wpAny_setField hT hdT (Array.getElem?_eq_some_iff.mp h3).1 ?_)
 have ot:∀ b,b≠T->(s.heap.update T (Obj.mapFields (·.setIfInBounds 3 Value.none))).get? b=s.heap.get? b:=fun b hb=>Heap.get?_update_other _ _ (Ne.symm hb)
 have tt:=Heap.get?_update_self (Obj.mapFields (·.setIfInBounds 3 Value.none)) hT (Obj.isFreed_of_fields (Obj.data_mapFields hdT _))
 have nT:∀ b o,s.heap.get? b=some o->(∀ us,o.data ≠ .fields us)->b≠T:=fun b o hb hnf q=>by
  rw[q,hT] at hb;cases hb;exact hnf ts hdT
 have fT:T∉frs (env :: outer):=fun hm=>by
  obtain⟨_,o,ho,hnf⟩:=hl.mem hm
  exact nT T o ho hnf rfl
 refine Oc (hl:=hl.of_keeps fun b o hb hnf=>⟨o,(ot b (nT b o hb hnf)).trans hb,rfl⟩) hfr hf ((ot a (Ne.symm hTe)).trans he) hd (Array.getElem?_eq_some_iff.mp h1).1 fun h' l=>h h' ?_
 obtain⟨x1,x2,x3,oe',us,T',oT',ts',q1,q2,q3,q4,q5,q6,q7,q8,q9⟩:=l
 refine⟨fun b o hb hba hbt q=>x1 b o hb hba (by simp) ((ot b fun z=>hbt (by simp[z])).trans q),fun b o hb q=>x2 b o hb ((ot b fun z=>fT (z ▸ hb)).trans q),fun b o q=>?_,oe',us,T',oT',ts',q1,q2,q3,q4,q5,q6,q7,?_,q9⟩
 . by_cases z:b=T
   . subst z;exact x3 _ _ tt
   exact x3 b o ((ot b z).trans q)
 by_cases z:T'=T
 . rw[z,tt] at q8;cases q8
 rw[<- ot T' z];exact q8
end
def Tra (a:Addr)(H':Hp)(h0 h:Heap):Prop:=∃ oe vs T oT ts,h.get? a=some oe/\oe.data = .fields vs/\vs[1]? = some (.ref T)/\T≠a/\h.get? T=some oT/\oT.data = .fields ts/\ts[3]? = some .none/\H' T=none/\h0.get? T=none
def CX1 (P:Program)(w:World):CXT:=fun outer H s E e s'=>∃ a C od H',e = .ref a/\s'.os=s.os/\AllBare s'.gens/\Un (frs outer) [] H H' s.heap s'.heap/\HOk P w H' s'.heap/\H' a=some (exG false a C od)/\s.heap.get? a=none/\Tra a H' s.heap s'.heap/\E (.ref a) none H'
section
variable {P:Program}{w:World}{fs:List Addr}{a C:Addr}{od:Option Addr}{oe:Obj}{old:List Addr}{h h':Heap}{H:Hp}{n:Bool}
theorem Lft.hok (l:Lft fs a oe old h h')(ok:HOk P w H h)(he:h.get? a=some oe)(ha:H a=some (exG n a C od))(hfs:∀ b∈fs,H b=none)(hold:∀ b∈old,H b=none):HOk P w (upd H a (exG false a C od)) h':=fun b u q=>by
 have hu:∀ c z,H c=some z->c≠a->upd H a (exG false a C od) c=some z:=fun c z r ne=>by rw[As ne];exact r
 by_cases hb:b=a
 . subst hb
   rw[A9] at q;cases q
   obtain⟨vs,sl,e1,_⟩:=exG_ok.mp (ok b _ ha)
   rw[he] at e1;cases e1
   obtain⟨oe',us,T,oT,ts,q1,q2,q3,q4,q5,_⟩:=l.tr
   obtain⟨c,d,dt,s4⟩:=oe'
   dsimp only at q2 q3 q4 q5
   subst q2 q3 q4 q5
   exact exG_ok.mpr ⟨us,_,q1,fun z=>Bool.noConfusion z⟩
 rw[As hb] at q
 refine(ok b u q).stay (fun c v hc r=>?_) (fun c r=>hu c _ r fun z=>?_) fun c xs r=>hu c _ r fun z=>?_
 . have hcn:∃ z,H c=some z:=by
    rcases hc with hc | hc
    . exact⟨u,hc ▸ q⟩
    exact⟨_,hc⟩
   obtain⟨z,hz⟩:=hcn
   refine l.keep c v (fun m=>by rw[hfs c m] at hz;cases hz) (fun e=>?_) (fun m=>by rw[hold c m] at hz;cases hz) r
   subst e
   rcases hc with hc | hc
   . exact hb hc.symm
   rw[ha] at hc;cases hc
 . rw[z,ha] at r;cases r
 rw[z,ha] at r;cases r
end
section
variable {P:Program}{w:World}{K:PySem.W.Frag}{mg:Str->Option Value}{base:Heap}{N:List Str}{qual:Str}{scope:Scope}{f:Addr}{cd:Value}{A:Around}{outer:List Env}{s₀:Shared}{H₀:Hp}{E:XK}
theorem Wa {h h':Heap}:∀ {l:List Env},h.FunFrames base l->(∀ b∈frs l,∀ o,h.get? b=some o->∃ sl,h'.get? b=some { o with slots:=sl })->h'.FunFrames base l
 | [],_,_=>True.intro
 | env :: r,hl,k=>by
   obtain⟨hk,⟨L,o,hf,hn,ho,hd⟩,hr⟩:=hl
   have e:frs (env :: r)=L :: frs r:=by unfold frs;rw[List.filterMap_cons,hf]
   obtain⟨sl,z⟩:=k L (by rw[e];exact List.mem_cons_self) o ho
   exact⟨hk,⟨L,_,hf,hn,z,hd⟩,Wa hr fun b hb=>k b (by rw[e];exact List.mem_cons_of_mem _ hb)⟩
theorem a96 {CX:CXT}{pins:List (Addr×Obj)}{σ:St}{H1 H2:Hp}{s1 s2:Shared}{h3:Heap}{a C:Addr}{od:Option Addr}{oe:Obj}{old:List Addr}{n:Bool}(I:Inv (Tl CX P w K mg base N qual scope f cd A outer s₀ H₀ E) pins σ H1 s1)
  (os:s2.os=s1.os) (bare:AllBare s2.gens) (un:Un (frs (envOfC qual scope s₀.heap.objs.size f cd :: outer)) [] H1 H2 s1.heap s2.heap) (ok:HOk P w H2 s2.heap) (ha:H2 a=some (exG n a C od)) (he:s2.heap.get? a=some oe) (hn:s₀.heap.get? a=none) (hold:∀ b∈old,H2 b=none/\s₀.heap.get? b=none)
  (l:Lft (frs (envOfC qual scope s₀.heap.objs.size f cd :: outer)) a oe old s2.heap h3) (q:E (.ref a) none (upd H2 a (exG false a C od))) :
  CX1 P w outer H₀ s₀ E (.ref a) { s2 with heap:=h3 }:=by
 have stk:∀ b∈frs (envOfC qual scope s₀.heap.objs.size f cd :: outer),b=s₀.heap.objs.size\/b∈frs outer:=fun b hb=>by
  rcases List.mem_cons.mp (I.stkSub b hb) with z | z
  . exact .inl z
  exact .inr z
 have fr2:∀ b∈frs (envOfC qual scope s₀.heap.objs.size f cd :: outer),H2 b=none:=fun b hb=>by
  obtain⟨_,o,ho,_⟩:=I.stack.mem hb
  exact un.free b o ho (I.stkFree b hb) (by simp)
 obtain⟨oe',us,T,oT,ts,q1,q2,q3,q4,q5,q6,q7,q8,q9,q10,q11⟩:=l.tr
 have nl:∀ b o,s₀.heap.get? b=some o->b≠s₀.heap.objs.size:=fun b o z=>Nat.ne_of_lt (Heap.lt_size z)
 have na:∀ b o,s₀.heap.get? b=some o->b≠a:=fun b o z e=>by rw[e,hn] at z;cases z
 have no:∀ b o,s₀.heap.get? b=some o->b∉old:=fun b o z e=>by rw[(hold b e).2] at z;cases z
 have tn:H2 T=none:=O6 ok q8
 have t0:s₀.heap.get? T=none:=by
  cases z:s₀.heap.get? T with
  | none=>rfl
  | some o=>
    obtain⟨o1,z1⟩:=I.base.there T o z (by intro m;cases m)
    obtain⟨o2,z2⟩:=un.there T o1 z1 (by simp)
    rw[q8] at z2;cases z2
 have hu:∀ c z,H2 c=some z->z≠exG n a C od->upd H2 a (exG false a C od) c=some z:=fun c z r ne=>by rw[As fun e=>ne (by rw[e,ha] at r;exact(Option.some.inj r).symm)];exact r
 refine⟨a,C,od,upd H2 a (exG false a C od),rfl,os.trans I.os,bare,⟨fun b o z nz hb _=>?_,fun b o z nz hb _=>?_,fun b o z nz _=>?_,fun b o z _=>?_,fun b xs z=>?_,fun b o u z=>?_,fun b ps z=>?_⟩,l.hok ok he ha fr2 (fun b m=>(hold b m).1),A9,hn,⟨oe',us,T,oT,ts,q1,q5,q6,q7,q9,q10,q11,by rw[As q7];exact tn,t0⟩,q⟩
 . have z1:=I.base.keep b o z nz hb (by intro m;cases m)
   have n1:=I.base.free b o z nz (by intro m;cases m)
   have hb2:b∉frs (envOfC qual scope s₀.heap.objs.size f cd :: outer):=fun m=>(stk b m).elim (nl b o z) hb
   exact l.keep b o hb2 (na b o z) (no b o z) (un.keep b o z1 n1 hb2 (by simp))
 . obtain⟨sl,z1⟩:=I.base.slot b o z nz hb (by intro m;cases m)
   have n1:=I.base.free b o z nz (by intro m;cases m)
   obtain⟨sl2,z2⟩:=un.any z1 n1 (by simp)
   by_cases m:b∈frs (envOfC qual scope s₀.heap.objs.size f cd :: outer)
   . obtain⟨sl3,z3⟩:=l.slot b _ m z2
     exact⟨sl3,z3⟩
   exact⟨sl2,l.keep b _ m (na b o z) (no b o z) z2⟩
 . obtain⟨o1,z1⟩:=I.base.there b o z (by intro m;cases m)
   have n1:=I.base.free b o z nz (by intro m;cases m)
   show upd H2 a _ b=none
   rw[As (na b o z)]
   exact un.free b o1 z1 n1 (by simp)
 . obtain⟨o1,z1⟩:=I.base.there b o z (by intro m;cases m)
   obtain⟨o2,z2⟩:=un.there b o1 z1 (by simp)
   exact l.there b o2 z2
 . exact hu b _ (un.tups b xs (I.base.tups b xs z)) (fun e=>nomatch e)
 . exact hu b _ (un.frzs b o u (I.base.frzs b o u z)) (fun e=>nomatch e)
 obtain⟨m1,z1⟩:=I.base.tbls b ps z
 obtain⟨m2,z2⟩:=un.tbls b _ z1
 exact⟨m1++m2,by rw[<- Array.append_assoc];exact hu b _ z2 (fun e=>nomatch e)⟩
theorem U5 {H:Hp}{a:Addr}{o:HO}(h:H a=some o):upd H a o=H:=by
 funext b
 unfold upd
 split
 . rename_i e;rw[e,h]
 rfl
def W1 (K:PySem.W.Frag)(H0:Hp)(E:XK)(x:V)(H1:Hp):Prop:=∃ a C od,x = .ref a/\H1 a=some (exO a C od)/\XC K C/\H0 a=none/\E (.ref a) none (upd H1 a (exG false a C od))
def a70 (K:PySem.W.Frag)(H0:Hp)(E:XK)(t:TE):TS:=fun D σ H=>t σ H fun x H1=>W1 K H0 E x H1
theorem Uf {ex:Expr}{t:TE}{pos:Pos}{X:Cx}(hX:X=Tl (CX1 P w) P w K mg base N qual scope f cd A outer s₀ H₀ E)(he:PE X ex t):PS X (.Raise (some ex) none pos) (a70 K H₀ E t):=by
 subst hX
 intro pins s σ H D I h
 rw[arm_exec_Raise]
 refine wpAny_bind (wpAny_standAt ?_)
 unfold raiseStmt
 simp only[evalOpt,Option.map]
 refine wpAny_bind (wpAny_bind (thn (he pins s σ H _ I h) fun v s1 ⟨x,H1,I1,rx,a,C,od,ex',ha,hc,h0,q⟩=>wpAny_bind (wpAny_standAt (wpAny_pure ?_))))
 subst ex'
 obtain rfl:v=Value.ref a:=rx
 obtain⟨vs,sl,hx,hv⟩:=exO_ok.mp (I1.hok a _ ha)
 have hv:=hv rfl
 obtain⟨nm,qn,N',bs,bm,sn,sub,ab,col,dd,k0,k1,k2,k3,k5,hl,htl⟩:=Ix hc.ex
 have hC:=I1.kIn _ _ hl
 have hcB:(Value.ref C :: bm).contains (.type "BaseException")=true:=by rw[List.contains_cons,Vx (PySem.W.tail_of_in I1.kIn htl),Bool.or_true]
 have fin:(Tl (CX1 P w) P w K mg base N qual scope f cd A outer s₀ H₀ E).xe (.ref a) s1:=by
  refine U2 (base:=base) (L:=s₀.heap.objs.size) I1.ok.frames I1.stack rfl hx rfl hv fun h3 l=>?_
  have hn0:s₀.heap.get? a=none:=by
   cases z:s₀.heap.get? a with
   | none=>rfl
   | some o=>
     have:=I1.base.free a o z h0 (by intro m;cases m)
     rw[ha] at this;cases this
  exact a96 I1 rfl I1.bare Un.refl I1.hok ha hx hn0 (by simp) l q
 obtain⟨hh,g,d,tk,os⟩:=s1
 repeat (first | (with_reducible refine wpAny_loadPart_at hx ?_) | (with_reducible refine wpAny_loadPart_at hC ?_) | (with_reducible refine wpAny_isSubtype_exc hC ?_;rw[hcB]) | (with_reducible refine wpAny_field hx rfl hv ?_) | wp_step)
 exact wpAny_raiseNew_none (I1.ok.hd rfl) fin
end
section
variable {X:Cx}{pins:List (Addr×Obj)}{σ:St}{H:Hp}{s:Shared}
theorem Kl {M:Model}{A:Around}{E:Value->Shared->Prop}{i:Nat}{x:Str}{pos:Pos}{Q:Unit->Shared->Prop}(I:Inv X pins σ H s)(hN:X.N.Nodup)(hi:X.N[i]? = some x)(hk:X.env.scope.names.lookup x=some .local)
  (h:∀ s',Inv X pins (σ.set i none) H s'->Q () s'):wpAny M A (do bindName X.env x .none;unbindBehindTheSuite X.env x pos) Q E s:=by
 refine wpAny_bind (wpAny_bindName (Hb (v:=.non) (u:=.none) I hN hi (.inl hk) rfl (fun s1 I1=>?_) (.inr hk)))
 unfold unbindBehindTheSuite
 refine wpAny_onRaise ?_
 obtain⟨m,hn,hl⟩:=id I1.loc
 have hcls:(X.env.scope.kind == .class||(X.env.scope.kind == .module&&X.env.locals != X.env.globals))=false:=by rw[I1.ok.kind];rfl
 have hiσ:i<σ.length:=by rw[I.len];exact(List.getElem?_eq_some_iff.mp hi).1
 obtain⟨u,ru,lu⟩:=hl i x .non hi (List.getElem?_set_self hiσ) (.inl hk)
 have hmx:m x=some u:=by
  rcases lu with ⟨_,z⟩ | ⟨z,_⟩
  . exact z
  have z':X.env.scope.names.lookup x=some .cell\/X.env.scope.names.lookup x=some .free:=z
  rw[hk] at z'
  rcases z' with z' | z'<;>cases z'
 refine wpAny_unbindName_local hk hn hmx hcls fun h' w hn' hs=>h _ ?_
 obtain⟨oL,_,_,hoL,_⟩:=id hn
 have cne:=I1.cne
 refine⟨I1.ok,I1.os,I1.bare,⟨fun b o e n hb hx=>?_,fun b o e n hb hx=>?_,I1.base.free,fun b o e hx=>?_,I1.base.tups,I1.base.frzs,I1.base.tbls⟩,⟨_,hn',fun j y v' e1 e2 e3=>?_⟩,fun y c e=>?_,I1.free,I1.freeC,fun p hp=>?_,fun b ob e=>?_,by simpa using I.len⟩
 . exact(hs.2 b (Nat.ne_of_lt (Nat.lt_of_lt_of_le (Heap.lt_size e) I1.ok.above))).trans (I1.base.keep b o e n hb hx)
 . obtain⟨sl,e1⟩:=I1.base.slot b o e n hb hx
   exact⟨sl,(hs.2 b (Nat.ne_of_lt (Nat.lt_of_lt_of_le (Heap.lt_size e) I1.ok.above))).trans e1⟩
 . obtain⟨o',e1⟩:=I1.base.there b o e hx
   exact⟨o',(hs.2 b (Nat.ne_of_lt (Nat.lt_of_lt_of_le (Heap.lt_size e) I1.ok.above))).trans e1⟩
 . by_cases hj:j=i
   . subst hj
     rw[List.getElem?_set_self hiσ] at e2
     cases e2
   rw[List.getElem?_set_ne (Ne.symm hj)] at e2
   obtain⟨u',r',q⟩:=hl j y v' e1 (by rw[List.getElem?_set_ne (Ne.symm hj)];exact e2) e3
   refine⟨u',r',?_⟩
   rcases q with ⟨k,e⟩ | ⟨k,c,e,z⟩
   . refine .inl ⟨k,?_⟩
     have ne:y≠x:=fun e=>hj (K2 hN e1 (e ▸ hi))
     simp[ne,e]
   exact .inr ⟨k,c,e,z.sameBut hs (cne y c e)⟩
 . obtain⟨w',z⟩:=I1.cell y c e
   exact⟨w',z.sameBut hs (cne y c e)⟩
 . obtain⟨e,n,ne,nf,d⟩:=I1.pin p hp
   exact⟨(hs.2 p.1 ne).trans e,n,ne,nf,d⟩
 refine(I1.hok b ob e).stay (fun c w' hc q=>(hs.2 c ?_).trans q) (fun _ q=>q) fun _ _ q=>q
 rintro rfl
 rcases hc with hc | hc
 . rw[<- hc] at e;rw[I1.free] at e;cases e
 rw[I1.free] at hc;cases hc
abbrev Cx.tri (X:Cx)(pins:List (Addr×Obj))(E:Value->Shared->Prop):Cx:={ X with xe:=E,pn:=X.pn++pins }
abbrev Cx.hnd (X:Cx)(a:Addr)(E:Value->Shared->Prop):Cx:={ X with A:=X.A.mark (some (.ref a)),calm:=false,xe:=E }
theorem Inv.tri (I:Inv X pins σ H s)(E:Value->Shared->Prop):Inv (X.tri pins E) [] σ H s:=
 ⟨⟨I.ok.mod,I.ok.kind,I.ok.glob,I.ok.blt,I.ok.above,I.ok.inj,I.ok.has,I.ok.cab,I.ok.hd,I.ok.frames,I.ok.stk,I.ok.exf,I.ok.bs,I.ok.bsz,I.ok.noex,I.ok.exfs,I.ok.funs,I.ok.frf⟩,I.os,I.bare,I.base,I.loc,I.cell,I.free,I.freeC,fun p hp=>I.pin p (by simpa using hp),I.hok,I.len⟩
theorem Inv.untri {E:Value->Shared->Prop}{more:List (Addr×Obj)}(I:Inv (X.tri pins E) more σ H s):Inv X pins σ H s:=
 ⟨⟨I.ok.mod,I.ok.kind,I.ok.glob,I.ok.blt,I.ok.above,I.ok.inj,I.ok.has,I.ok.cab,I.ok.hd,I.ok.frames,I.ok.stk,I.ok.exf,I.ok.bs,I.ok.bsz,I.ok.noex,I.ok.exfs,I.ok.funs,I.ok.frf⟩,I.os,I.bare,I.base,I.loc,I.cell,I.free,I.freeC,fun p hp=>I.pin p (List.mem_append_left _ hp),I.hok,I.len⟩
theorem Inv.hnd (I:Inv X pins σ H s)(a:Addr)(E:Value->Shared->Prop):Inv (X.hnd a E) pins σ H s:=
 ⟨⟨I.ok.mod,I.ok.kind,I.ok.glob,I.ok.blt,I.ok.above,I.ok.inj,I.ok.has,I.ok.cab,fun z=>Bool.noConfusion z,I.ok.frames,I.ok.stk,I.ok.exf,I.ok.bs,I.ok.bsz,I.ok.noex,I.ok.exfs,I.ok.funs,I.ok.frf⟩,I.os,I.bare,I.base,I.loc,I.cell,I.free,I.freeC,I.pin,I.hok,I.len⟩
theorem Inv.unhnd {a:Addr}{E:Value->Shared->Prop}(hd:X.calm=true->X.A.handled=none)(I:Inv (X.hnd a E) pins σ H s):Inv X pins σ H s:=
 ⟨⟨I.ok.mod,I.ok.kind,I.ok.glob,I.ok.blt,I.ok.above,I.ok.inj,I.ok.has,I.ok.cab,hd,I.ok.frames,I.ok.stk,I.ok.exf,I.ok.bs,I.ok.bsz,I.ok.noex,I.ok.exfs,I.ok.funs,I.ok.frf⟩,I.os,I.bare,I.base,I.loc,I.cell,I.free,I.freeC,I.pin,I.hok,I.len⟩
end
section
variable {M:Model}{A:Around}{E:Value->Shared->Prop}{s:Shared}{K:PySem.W.Frag}{C B a:Addr}{oe:Obj}{Q:Bool->Shared->Prop}
theorem Tu (X:K.In s.heap)(c:XC K C)(b:XC K B)(hm:PySem.W.mroIn K C (.ref B)=some true)(he:s.heap.get? a=some oe)(hc:oe.cls = .ref C)(hq:Q true s):wpAny M A (excMatches (.ref a) (.ref B)) Q E s:=by
 obtain⟨nm,qn,N,bs,bm,sn,sub,ab,col,dd,k0,k1,k2,k3,k5,hl,htl⟩:=Ix b.ex
 have hB:=X _ _ hl
 have hcB:(Value.ref B :: bm).contains (.type "BaseException")=true:=by rw[List.contains_cons,Vx (PySem.W.tail_of_in X htl),Bool.or_true]
 have f:=tc_notTuple
 have l1:PySem.W.Looks M s.heap (isSubtype (.ref C) (.ref B)) true:=PySem.W.looks_mroIn X hm
 obtain⟨h,g,d,t,os⟩:=s
 unfold excMatches
 repeat (first | (with_reducible refine wpAny_loadPart_at he ?_;rw[hc]) | (with_reducible refine wpAny_loadPart_at hB ?_) | (with_reducible refine wpAny_isSubtype_exc hB ?_;rw[hcB]) | (with_reducible refine l1.at ?_) | wp_step)
 exact hq
end
def tryE (G:Addr->Hp->Prop):XK:=fun v _ H'=>∃ a,v = .ref a/\G a H'
def sTry (K:PySem.W.Frag)(len i:Nat)(B:Addr)(G:Addr->Hp->Prop)(tb th:TS):TS:=fun D σ H=>tb D σ H/\∀(a:Addr) (H':Hp) (σ':St),σ'.length=len->G a H' ->
 (∃ C od,H' a=some (exG false a C od)/\XC K C/\PySem.W.mroIn K C (.ref B)=some true) /\
  th { nx:=fun σ2 H2=>D.nx (σ2.set i none) H2,rt:=D.rt,bk:=fun σ2 H2=>D.bk (σ2.set i none) H2,ct:=fun σ2 H2=>D.ct (σ2.set i none) H2 } (σ'.set i (some (.ref a))) H'
section
variable {X:Cx}{pins:List (Addr×Obj)}
theorem SP.untri {E:Value->Shared->Prop}{D:Ends}{f:Flow}{s':Shared}(h:SP (X.tri pins E) [] D f s'):SP X pins D f s':=by
 cases f with
 | next=>obtain⟨σ',H',I,q⟩:=h;exact⟨σ',H',I.untri,q⟩
 | brk=>obtain⟨σ',H',I,q⟩:=h;exact⟨σ',H',I.untri,q⟩
 | cont=>obtain⟨σ',H',I,q⟩:=h;exact⟨σ',H',I.untri,q⟩
 | ret u=>obtain⟨v,σ',H',I,r,q⟩:=h;exact⟨v,σ',H',I.untri,r,q⟩
theorem Xt {ts:Array Value}(h:ts[3]? = some .none):ts.setIfInBounds 3 .none=ts:=by
 obtain⟨h1,h2⟩:=Array.getElem?_eq_some_iff.mp h
 refine Array.ext (by simp) fun j j1 j2=>?_
 rw[Array.getElem_setIfInBounds]
 split
 . rename_i e;subst e;exact h2.symm
 rfl
theorem Yy {body suite:List Stmt}{b0:Stmt}{tb th:TS}{n bx:Str}{i:Nat}{B:Addr}{p1 p2 pos:Pos}(G:Addr->Hp->Prop)(hN:X.N.Nodup)(hi:X.N[i]? = some n)(hk:X.env.scope.names.lookup n=some .local)(hg:Gl X bx)(hm:X.mg bx=some (.ref B))(hB:XC X.K B)
  (hst:X.stack=X.env :: X.outer) (hf:X.env.frame=some X.env.locals) (hex:X.ex=[])
  (hb:∀ ps xe,La (CX1 X.prog X.w) (X.tri ps xe) (tryE G)->PSs (X.tri ps xe) body tb) (hs:∀ a xe,PSs (X.hnd a xe) (b0 :: suite) th) (hd:(bx==("__debug__":Str))=false:=by decide) :
  PS X (.Try body [.ExceptHandler (some (.Name bx p1)) (some n) (b0 :: suite) p2] [] [] pos) (sTry X.K X.N.length i B G tb th):=by
 intro pins s σ H D I h
 refine wpAny_Try_except ?_
 refine wpAny_mono (hb pins _ ?_ [] s σ H D (I.tri _) h.1) (fun f s1 hs1=>?_) fun e s1 he=>he
 . intro pins2 σ2 H2 s2 e s3 I2 hq
   obtain⟨a,C',od',H3,rfl,os,bare,un,ok,ha',hn,⟨oe,vs,T,oT,ts,t1,t2,t3,t4,t5,t6,t7,t8,t9⟩,a',ea,q⟩:=hq
   cases ea
   have J2:Inv X pins σ2 H2 s2:=I2.untri
   obtain⟨⟨C,od,ha,hc,hmro⟩,q3⟩:=h.2 a H3 σ2 (by rw[J2.len]) q
   have un':Un (frs X.stack) [] H2 H3 s2.heap s3.heap:=un
   have fun3:s3.heap.FunFrames X.base (X.env :: X.outer):=by
    have:=Wa (h':=s3.heap) J2.stack fun b hb o ho=>un'.any ho (J2.stkFree b hb) (by simp)
    rwa[hst] at this
   have fr3:∀ b∈frs X.stack,H3 b=none:=fun b hb=>by
    obtain⟨_,o,ho,_⟩:=J2.stack.mem hb
    exact un'.free b o ho (J2.stkFree b hb) (by simp)
   refine Uy (base:=X.base) (L:=X.env.locals) (by have:=J2.ok.frames;rwa[hst] at this) fun3 hf t1 t2 t3 t4 t5 t6 t7 fun h4 l=>?_
   rw[<- hst] at l
   have ok4:HOk X.prog X.w H3 h4:=by
    have:=l.hok ok t1 ha fr3 (fun b hb=>by simp at hb;subst hb;exact t8)
    rwa[U5 ha] at this
   have un4:Un (frs X.stack) [] H2 H3 s2.heap h4:=by
    have na:∀ b o,s2.heap.get? b=some o->b≠a:=fun b o z e=>by rw[e,hn] at z;cases z
    have nT:∀ b o,s2.heap.get? b=some o->b∉[T]:=fun b o z e=>by simp at e;rw[e,t9] at z;cases z
    refine⟨fun b o z nz hb hx=>l.keep b o hb (na b o z) (nT b o z) (un'.keep b o z nz hb hx),fun b o z nz hb hx=>?_,un'.free,fun b o z hx=>?_,un'.tups,un'.frzs,un'.tbls⟩
    . obtain⟨sl,z1⟩:=un'.slot b o z nz hb hx
      obtain⟨sl2,z2⟩:=l.slot b _ hb z1
      exact⟨sl2,z2⟩
    obtain⟨o1,z1⟩:=un'.there b o z hx
    exact l.there b o1 z1
   have I4:Inv X pins σ2 H3 { s3 with heap:=h4 }:=J2.call' (s':={ s3 with heap:=h4 }) (ch:=[]) os un4 ok4 bare (fun b z=>absurd z (by simp))
   obtain⟨us,sl4,he4,_⟩:=exG_ok.mp (ok4 a _ ha)
   obtain⟨oe',vs',T',oT',ts',q1,q2,q3',q4,q5,q6,q7,q8,q9,q10,q11⟩:=l.tr
   have hd4:X.calm=true->X.A.handled=none:=I.ok.hd
   refine wpAny_handleBy_cons (codeAny_handlers_test ?_) (by intro q;cases q)
   refine Kk (X:=X.hnd a fun _ _=>False) (I4.hnd a _) hg hm ?_ hd
   refine Tu (s:={ s3 with heap:=h4 }) I4.kIn hc hB hmro he4 rfl ?_
   refine codeAny_handlers_suite_as ?_
   have hz:3<ts'.size:=(Array.getElem?_eq_some_iff.mp q11).1
   refine wpAny_setFlight_none q1 q5 q6 q9 q10 hz ?_
   have same:∀ b u,h4.get? b=some u->(h4.update T' (Obj.mapFields (·.setIfInBounds 3 .none))).get? b=some u:=fun b u z=>by
    by_cases e:b=T'
    . subst e
      rw[q9] at z;cases z
      rw[Heap.get?_update_self _ q9 (Obj.isFreed_of_fields (Obj.data_mapFields q10 _))]
      obtain⟨c1,d1,dt1,s1'⟩:=oT'
      dsimp only at q10
      subst q10
      refine congrArg some ?_
      show Obj.mk c1 d1 (Data.fields (ts'.setIfInBounds 3 .none)) s1'=_
      rw[Xt q11]
    rw[Heap.get?_update_other _ _ (Ne.symm e)];exact z
   have I5:Inv X pins σ2 H3 { s3 with heap:=h4.update T' (Obj.mapFields (·.setIfInBounds 3 .none)) }:=I4.kept (t':=s3.toks) same
   refine Hb (X:=X) (v:=.ref a) I5 hN hi (.inl hk) rfl (fun s6 I6=>?_) (.inr hk)
   refine thn (hs a _ pins s6 _ H3 _ (I6.hnd a _) q3) fun f s7 h7=>?_
   cases f with
   | next=>obtain⟨σ7,H7,I7,q7'⟩:=h7;exact Kl (I7.unhnd hd4) hN hi hk fun s8 I8=>⟨_,_,I8,q7'⟩
   | brk=>obtain⟨σ7,H7,I7,q7'⟩:=h7;exact Kl (I7.unhnd hd4) hN hi hk fun s8 I8=>⟨_,_,I8,q7'⟩
   | cont=>obtain⟨σ7,H7,I7,q7'⟩:=h7;exact Kl (I7.unhnd hd4) hN hi hk fun s8 I8=>⟨_,_,I8,q7'⟩
   | ret u=>obtain⟨v,σ7,H7,I7,r7,q7'⟩:=h7;exact Kl (I7.unhnd hd4) hN hi hk fun s8 I8=>⟨v,_,_,I8,r7,q7'⟩
 have hs1:=hs1.untri
 cases f with
 | next=>exact wpAny_pure hs1
 | brk=>exact hs1
 | cont=>exact hs1
 | ret u=>exact hs1
end
def aa0 (P:Program)(w:World)(K:PySem.W.Frag)(mg:Str->Option Value)(base:Heap)(k:Nat)(x:Str)(ps:List Str)(sp:Sp):Prop:=
 ∃ f fd,FnOk P w K mg base (CX1 P w) k f fd ps sp/\mg x=some (.ref f)/\PySem.W.keepIn K (.ref f)=true/\Binds K fd ps []
section
variable {X:Cx}{k:Nat}{x:Str}{ps:List Str}{sp:Sp}{e:Expr}{es:List Expr}{t:TA}{p pos:Pos}{E:XK}
theorem Yj (F:aa0 X.prog X.w X.K X.mg X.base k x ps sp)(hr:Room k X.A)(hg:Gl X x)(hx:La (CX1 X.prog X.w) X E)(ha:PA X (e :: es) t)(hdb:(x==("__debug__":Str))=false:=by decide)
  (he:starEach (e :: es) X.env=(false,eval e X.env) :: starEach es X.env:=by ac_nf) (hpl:(backTo pos (starEach es X.env)).any (·.1)=false:=by ac_nf):PE X (.Call (.Name x p) (e :: es) [] pos) (Tr sp [] E t):=by
 obtain⟨f,fd,h1,h2,h3,h4⟩:=F
 exact Ry h1 hr hg h2 h3 h4 .nil hx ha hdb he hpl
end
section
variable {P:Program}{w:World}{K:PySem.W.Frag}{mg:Str->Option Value}{base:Heap}
theorem Fun.ok1 {x qual:Str}{st:Stmt}{f:Addr}{fd:FuncData}{N ps:List Str}{k:Nat}{sp:Sp}(F:Fun K x qual st f fd)(S:Ak N ps (A4 st))(len:∀ vs H Q E,sp vs H Q E->vs.length=ps.length)
  (hbody:∀(cdv:Value) (A:Around) (outer:List Env) (s:Shared) (H:Hp) (vs:List V) (Q:VK) (E:XK),Room k (A.deeper (envOfC qual (A4 st) s.heap.objs.size f cdv))->sp vs H Q E ->
   ∃ t,PSs (Tl (CX1 P w) P w K mg base N qual (A4 st) f cdv A outer s H E) (Ad st) t/\t { nx:=fun _ H'=>Q .non H',rt:=Q } (Kx N vs) H):FnOk P w K mg base (CX1 P w) (k+1) f fd ps sp:=by
 obtain⟨oc,od,kV,doc,pm,an,cdv,ct,osl,rfl,lk,hcd⟩:=F.ex
 exact a47 lk hcd S len fun A outer s H vs Q E hr hsp=>hbody cdv A outer s H vs Q E hr hsp
end
section
variable {K:PySem.W.Frag}{σ:St}{H H0:Hp}{D:Ends}{t:TE}{C a:Addr}{fs:List (Str×V)}{E:XK}
theorem Xl (h:ExA H a C fs)(c:XC K C)(h0:H0 a=none)(k:∀ H2,(∀ b o,b≠a->H b=some o->H2 b=some o)->ExB false H2 a C fs->E (.ref a) none H2):W1 K H0 E (.ref a) H:=by
 have kp:∀ od b o,b≠a->H b=some o->upd H a (exG false a C od) b=some o:=fun od b o hb q=>by rw[As hb];exact q
 rcases h with ⟨e1,h⟩ | ⟨dx,ne,h,g⟩
 . exact⟨a,C,none,rfl,h,c,h0,k _ (kp _) (.inl ⟨e1,A9⟩)⟩
 exact⟨a,C,some dx,rfl,h,c,h0,k _ (kp _) (.inr ⟨dx,ne,A9,kp _ _ _ ne g⟩)⟩
end
section
open Lean
def mWay (s:String):MacroM (TSyntax `tactic):=
 if s == "as" then `(tactic| assumption) else if s == "ar" then `(tactic| with_reducible assumption) else `(tactic| walk_at $(quote s))
def T7 (ts:Array (TSyntax `tactic)):MacroM (TSyntax `tactic):=do
 let ts <- ts.mapM fun t=>`(Lean.Parser.Tactic.tacticSeq| $t:tactic)
 `(tactic| first $[| $ts]*)
def mId (s:String):Ident:=mkIdent ((s.splitOn ".").foldl Name.mkStr Name.anonymous)
def mIs (s:String):MacroM Ident:=do return mkIdent (<- Macro.addMacroScope (.mkSimple s))
def Sa:List String->TSyntax `tactic->MacroM (TSyntax `tactic)
 | [],t=>pure t
 | s :: r,t=>do
   match s.splitOn "=" with
   | [x,y]=>let w <- mWay y;let i <- mIs x;Sa r (<- `(tactic| ($t:tactic;(case $i:ident=>$w:tactic))))
   | _=>Sa r t
def mRow (s:String):MacroM (TSyntax `tactic):=do
 match s.splitOn ": " with
 | [h,c]=>
   match h.splitOn " " with
   | f :: as=>
     let xs <- as.toArray.mapM fun a=>do if a == "_" then `(?_) else `(?$(<- mIs a))
     let u:=Syntax.mkApp (mId f) xs
     let t <- if as.contains "_" then `(tactic| with_reducible refine' $u) else `(tactic| refine' $u)
     Sa (c.splitOn " ") t
   | _=>Macro.throwUnsupported
 | _=>do
   if s == "as" then `(tactic| assumption)
   else if s == "no" then `(tactic| fail "no")
   else `(tactic| exact $(mId s))
def mRows (s:String):MacroM (TSyntax `tactic):=do T7 (<- (s.splitOn " | ").toArray.mapM mRow)
def mAlts (s:String):MacroM (TSyntax `tactic):=do
 let a <- T7 (<- (s.splitOn " ").toArray.mapM fun n=>`(tactic| refine $(mId n) ?_))
 `(tactic| with_reducible $a:tactic)
def mAltG (s:String):MacroM (TSyntax `tactic):=do
 let a <- T7 (<- (s.splitOn " ").toArray.mapM fun n=>`(tactic| refine $(mId n) fun N hN=>?_))
 `(tactic| with_reducible $a:tactic)
end
section
open PySem
theorem same_refl {H:Hp}:Same H H:=Same.refl _
theorem fz_refl {H:Hp}:Fz H H:=Fz.refl _
theorem ne_none2 {H:Hp}{a b:PySem.Addr}{o:HO}(h:H a=some o)(g:H b=none):b≠a:=Ne.symm (ne_of_none h g)
def Cut (N M:St->Hp->Prop):Prop:=∀ σ H,M σ H->N σ H
section
variable {t u:TS}{te td ty tv:TE}{g:TG}{D:Ends}{σ:St}{H:Hp}
theorem a06 (k:∀ N:St->Hp->Prop,Cut N (u D)->t { D with nx:=N } σ H):a86 t u D σ H:=k (u D) fun _ _ h=>h
theorem i_seqAG (k:∀ N:St->Hp->Prop,Cut N (u D)->Ye te g { D with nx:=N } σ H):a86 (Ye te g) u D σ H:=k (u D) fun _ _ h=>h
theorem i_nxS {i:Nat}{rt:VK}{bk ct:St->Hp->Prop}(k:D.nx (σ.set i none) H):Ends.nx { nx:=fun σ2 H2=>D.nx (σ2.set i none) H2,rt:=rt,bk:=bk,ct:=ct } σ H:=k
theorem i_cutN {N M:St->Hp->Prop}(h:Cut N M)(k:M σ H):N σ H:=h _ _ k
end
theorem a31 {α:Type}{P:List α->Prop}{us:List α}(hl:us.length=0)(h:P []):P us:=by
 rw[List.length_eq_zero_iff.mp hl];exact h
theorem W4 {α:Type}{P:List α->Prop}{us:List α}(hl:us.length=1)(h:∀ a0:α,P [a0]):P us:=by
 cases us with
 | nil=>cases hl
 | cons a r=>exact a31 (P:=fun r=>P (a :: r)) (Nat.succ.inj hl) (h a)
theorem W2 {α:Type}{P:List α->Prop}{us:List α}(hl:us.length=2)(h:∀ a0 a1:α,P [a0,a1]):P us:=by
 cases us with
 | nil=>cases hl
 | cons a r=>exact W4 (P:=fun r=>P (a :: r)) (Nat.succ.inj hl) (h a)
theorem a76 {α:Type}{P:List α->Prop}{us:List α}(hl:us.length=3)(h:∀ a0 a1 a2:α,P [a0,a1,a2]):P us:=by
 cases us with
 | nil=>cases hl
 | cons a r=>exact W2 (P:=fun r=>P (a :: r)) (Nat.succ.inj hl) (h a)
end
section
variable {K:PySem.W.Frag}{x qual:Str}{st:Stmt}{f:Addr}{fd:FuncData}
theorem En {p0:Str}(F:Fun K x qual st f fd)(h:∀(kV doc pm:Value) (an:Option Addr) (cdv ct:Value) (u0:Value),bindArgs (PySem.W.fnOf x qual (Af st) (Ad st) (A4 st) .none kV doc pm an cdv ct) ⟨[u0],[]⟩=pure (([p0]:List Str).zip [u0])):Binds K fd [p0] []:=
 F.binds fun kV doc pm an cdv ct us hl=>W4 (P:=fun us=>bindArgs (PySem.W.fnOf x qual (Af st) (Ad st) (A4 st) .none kV doc pm an cdv ct) ⟨us,[]⟩=pure (([p0]:List Str).zip us)) hl (h kV doc pm an cdv ct)
theorem Dj {p0 p1:Str}(F:Fun K x qual st f fd)(h:∀(kV doc pm:Value) (an:Option Addr) (cdv ct:Value) (u0 u1:Value),bindArgs (PySem.W.fnOf x qual (Af st) (Ad st) (A4 st) .none kV doc pm an cdv ct) ⟨[u0,u1],[]⟩=pure (([p0,p1]:List Str).zip [u0,u1])):Binds K fd [p0,p1] []:=
 F.binds fun kV doc pm an cdv ct us hl=>W2 (P:=fun us=>bindArgs (PySem.W.fnOf x qual (Af st) (Ad st) (A4 st) .none kV doc pm an cdv ct) ⟨us,[]⟩=pure (([p0,p1]:List Str).zip us)) hl (h kV doc pm an cdv ct)
theorem Sc {p0 p1 p2:Str}(F:Fun K x qual st f fd)(h:∀(kV doc pm:Value) (an:Option Addr) (cdv ct:Value) (u0 u1 u2:Value),bindArgs (PySem.W.fnOf x qual (Af st) (Ad st) (A4 st) .none kV doc pm an cdv ct) ⟨[u0,u1,u2],[]⟩=pure (([p0,p1,p2]:List Str).zip [u0,u1,u2])):Binds K fd [p0,p1,p2] []:=
 F.binds fun kV doc pm an cdv ct us hl=>a76 (P:=fun us=>bindArgs (PySem.W.fnOf x qual (Af st) (Ad st) (A4 st) .none kV doc pm an cdv ct) ⟨us,[]⟩=pure (([p0,p1,p2]:List Str).zip us)) hl (h kV doc pm an cdv ct)
end
section
open PySem.SeqAt PySem.MeetsSeq
variable {A:Around}{s:Shared}
end
section
variable {prog:Program}{w:World}{A:Around}{E:Value->Shared->Prop}{s:Shared}
set_option maxRecDepth 100000 in
end
section
variable {X:Cx}{pos p2:Pos}
theorem Yv {to ti:TE}{t:a87}{v:V}{σ:St}{H:Hp}{Q:St->Hp->Prop}(k:to σ H fun o H1=>ti σ H1 fun i H2=>t o i v H2 fun H3=>Q σ H3):ad0 to ti t v σ H Q:=k
theorem Z5 {p:Addr}{xs:List V}{j:Nat}{v:V}{H:Hp}{Q:Hp->Prop}(hp:H p=some (.lst xs))(hj:j<xs.length)(hz:xs.length<=1000000)(k:∀ H',ExtBut p H H'->H' p=some (.lst (xs.set j v))->Q H'):a57 (.ref p) (.int (j:Int)) v H Q:=
 ⟨p,xs,j,j,rfl,rfl,hp,by
  unfold ixN
  simp
  omega,k _ ExtBut.upd A9⟩
end
section
variable {P:Program}{w:World}{A:Around}{E:Value->Shared->Prop}{z:Shared}
end
section
variable {X:Cx}{K:PySem.W.Frag}
end
section
variable {K:PySem.W.Frag}{H:Hp}{Q:VK}
end
section
variable {X:Cx}{pins:List (Addr×Obj)}{σ:St}{H:Hp}{s:Shared}
end
theorem Y7 {K:PySem.W.Frag}{H H':Hp}{d a:Addr}{kvs:List (Key×V)}{xs:List V}(hd:H d=some (.dK kvs))(e:ExtBut d H H')(h:SqL K H a xs):SqL K H' a xs:=by
 rcases h with h | h
 . refine e.seq (fun z=>?_) (.inl h)
   subst z
   rcases h with h | ⟨o,h⟩
   . rw[hd] at h;cases h
   rw[hd] at h;cases h
 exact .inr h
mutual
theorem Is.off {K:PySem.W.Frag}{H H':Hp}{d:Addr}{kvs:List (Key×V)}(hd:H d=some (.dK kvs))(e:ExtBut d H H'):∀(D:PyData) (v:V),Is K H D v->Is K H' D v
 | .none,_,h=>by simp only[Is] at h ⊢;exact h
 | .bool _,_,h=>by simp only[Is] at h ⊢;exact h
 | .int _,_,h=>by simp only[Is] at h ⊢;exact h
 | .str _,_,h=>by simp only[Is] at h ⊢;exact h
 | .list ds,v,h=>by
   simp only[Is] at h ⊢
   obtain⟨a,xs,e1,e2,e3⟩:=h
   exact⟨a,xs,e1,Y7 hd e e2,IsL.off hd e ds xs e3⟩
 | .tuple ds,v,h=>by
   simp only[Is] at h ⊢
   obtain⟨a,xs,e1,e2,e3⟩:=h
   exact⟨a,xs,e1,(e.fzD hd).seq e2,IsL.off hd e ds xs e3⟩
 | .dict _,_,h=>by simp only[Is] at h
theorem IsL.off {K:PySem.W.Frag}{H H':Hp}{d:Addr}{kvs:List (Key×V)}(hd:H d=some (.dK kvs))(e:ExtBut d H H'):∀(ds:List PyData) (vs:List V),IsL K H ds vs->IsL K H' ds vs
 | [],_,h=>by simp only[IsL] at h ⊢;exact h
 | D :: ds,vs,h=>by
   simp only[IsL] at h ⊢
   obtain⟨v,r,e1,e2,e3⟩:=h
   exact⟨v,r,e1,Is.off hd e D v e2,IsL.off hd e ds r e3⟩
end
mutual
def Vv:PyData->Bool
 | .str z=>z.cps.toList.all fun c=>decide (c<128)
 | .list ds=>Vu ds
 | .tuple ds=>Vu ds
 | .dict _=>false
 | _=>true
def Vu:List PyData->Bool
 | []=>true
 | d :: ds=>Vv d&&Vu ds
end
mutual
def Xm:PyData->Nat
 | .list ds=>max ds.length (Vm ds)
 | .tuple ds=>max ds.length (Vm ds)
 | _=>0
def Vm:List PyData->Nat
 | []=>0
 | d :: ds=>max (Xm d) (Vm ds)
end
structure Dk (p w W:Nat)(D:PyData):Prop where
 asc:Vv D=true
 lay:D.canLay0=true
 sh:D.showable=true
 lv:D.leavesShort 45=true
 dp:D.depth<=p
 wt:D.weight<=w
 wd:Xm D<=W
structure Els (p w W:Nat)(ds:List PyData):Prop where
 all:∀ e∈ds,∃ u,Dk p u W e
 wt:PyData.weightAll ds<=w
 len:ds.length<=W
theorem Dk.le {p w W p' w' W':Nat}{D:PyData}(h:Dk p w W D)(h1:p<=p')(h2:w<=w')(h3:W<=W':=by omega):Dk p' w' W' D:=⟨h.asc,h.lay,h.sh,h.lv,Nat.le_trans h.dp h1,Nat.le_trans h.wt h2,Nat.le_trans h.wd h3⟩
theorem O2 {p W:Nat}:∀ {ds:List PyData},(∀ e∈ds,∃ u,Dk p u W e)->Vu ds=true/\PyData.canLayAll0 ds=true/\PyData.showableAll ds=true/\PyData.leavesShortAll 45 ds=true/\PyData.depthAll ds<=p/\Vm ds<=W
 | [],_=>⟨by simp only[Vu],by simp only[PyData.canLayAll0],by simp only[PyData.showableAll],by simp only[PyData.leavesShortAll],by simp only[PyData.depthAll];omega,by simp only[Vm];omega⟩
 | d :: ds,h=>by
   obtain⟨u,a⟩:=h d (by simp)
   obtain⟨b0,b1,b2,b3,b4,b5⟩:=O2 (ds:=ds) fun e he=>h e (by simp[he])
   have:=a.dp
   have:=a.wd
   exact⟨by simp only[Vu,a.asc,b0,Bool.and_self],by simp only[PyData.canLayAll0,a.lay,b1,Bool.and_self],by simp only[PyData.showableAll,a.sh,b2,Bool.and_self],by simp only[PyData.leavesShortAll,a.lv,b3,Bool.and_self],by simp only[PyData.depthAll];omega,by simp only[Vm];omega⟩
theorem Td {p W:Nat}:∀ {ds:List PyData},Vu ds=true->PyData.canLayAll0 ds=true->PyData.showableAll ds=true->PyData.leavesShortAll 45 ds=true->PyData.depthAll ds<=p->Vm ds<=W->∀ e∈ds,∃ u,Dk p u W e
 | [],_,_,_,_,_,_=>fun e he=>by cases he
 | d :: ds,h0,h1,h2,h3,h4,h5=>fun e he=>by
   simp only[Vu,PyData.canLayAll0,PyData.showableAll,PyData.leavesShortAll,PyData.depthAll,Vm,Bool.and_eq_true] at h0 h1 h2 h3 h4 h5
   rcases List.mem_cons.mp he with rfl | he
   . exact⟨_,h0.1,h1.1,h2.1,h3.1,by omega,Nat.le_refl _,by omega⟩
   exact Td h0.2 h1.2 h2.2 h3.2 (by omega) (by omega) e he
theorem Cv {p w W:Nat}{ds:List PyData}(h:Els p w W ds):Dk (p+1) w W (.tuple ds):=by
 obtain⟨a0,a1,a2,a3,a4,a5⟩:=O2 h.all
 have:=h.len
 exact⟨by simpa only[Vv] using a0,by simpa only[PyData.canLay0] using a1,by simpa only[PyData.showable] using a2,by simpa only[PyData.leavesShort] using a3,by simp only[PyData.depth];omega,by simpa only[PyData.weight] using h.wt,by simp only[Xm];omega⟩
theorem a56 {p w W:Nat}{ds:List PyData}(h:Els p w W ds):Dk (p+1) w W (.list ds):=by
 obtain⟨a0,a1,a2,a3,a4,a5⟩:=O2 h.all
 have:=h.len
 exact⟨by simpa only[Vv] using a0,by simpa only[PyData.canLay0] using a1,by simpa only[PyData.showable] using a2,by simpa only[PyData.leavesShort] using a3,by simp only[PyData.depth];omega,by simpa only[PyData.weight] using h.wt,by simp only[Xm];omega⟩
theorem Dk.els {p w W:Nat}{ds:List PyData}(h:Dk (p+1) w W (.tuple ds)):Els p w W ds:=by
 obtain⟨a0,a1,a2,a3,a4,a5,a6⟩:=h
 simp only[Xm,Vv,PyData.canLay0,PyData.showable,PyData.leavesShort,PyData.depth,PyData.weight] at a0 a1 a2 a3 a4 a5 a6
 exact⟨Td a0 a1 a2 a3 (by omega) (by omega),a5,by omega⟩
theorem Gh:∀ as bs:List PyData,PyData.weightAll (as++bs)=PyData.weightAll as+PyData.weightAll bs
 | [],bs=>by simp only[List.nil_append,PyData.weightAll];omega
 | a :: as,bs=>by
   have:=Gh as bs
   simp only[List.cons_append,PyData.weightAll]
   omega
theorem Vb:∀ as:List PyData,PyData.weightAll as.reverse=PyData.weightAll as
 | []=>rfl
 | a :: as=>by
   have:=Vb as
   rw[List.reverse_cons,Gh,this]
   simp only[PyData.weightAll]
   omega
theorem Els.app {p w w' W:Nat}{as bs:List PyData}(h:Els p w W as)(g:Els p w' W bs){W':Nat}(hl:as.length+bs.length<=W')(hW:W<=W'):Els p (w+w') W' (as++bs):=
 ⟨fun e he=>let ⟨u,k⟩:=(List.mem_append.mp he).elim (h.all e) (g.all e);⟨u,k.le (Nat.le_refl _) (Nat.le_refl _) hW⟩,by rw[Gh];exact Nat.add_le_add h.wt g.wt,by rw[List.length_append];exact hl⟩
theorem Els.sub {p w W:Nat}{ds es:List PyData}(h:Els p w W ds)(hs:∀ e∈es,e∈ds)(hw:PyData.weightAll es<=PyData.weightAll ds)(hl:es.length<=ds.length):Els p w W es:=⟨fun e he=>h.all e (hs e he),Nat.le_trans hw h.wt,Nat.le_trans hl h.len⟩
theorem S7 (ds:List PyData)(n:Nat):PyData.weightAll (ds.drop n)<=PyData.weightAll ds:=by
 have:=Gh (ds.take n) (ds.drop n)
 rw[List.take_append_drop] at this
 omega
theorem Ss (ds:List PyData)(n:Nat):PyData.weightAll (ds.take n)<=PyData.weightAll ds:=by
 have:=Gh (ds.take n) (ds.drop n)
 rw[List.take_append_drop] at this
 omega
theorem Els.take {p w W:Nat}{ds:List PyData}(h:Els p w W ds)(n:Nat):Els p w W (ds.take n):=h.sub (fun e he=>List.mem_of_mem_take he) (Ss ds n) (by rw[List.length_take];omega)
theorem Els.drop {p w W:Nat}{ds:List PyData}(h:Els p w W ds)(n:Nat):Els p w W (ds.drop n):=h.sub (fun e he=>List.mem_of_mem_drop he) (S7 ds n) (by rw[List.length_drop];omega)
theorem Els.rev {p w W:Nat}{ds:List PyData}(h:Els p w W ds):Els p w W ds.reverse:=h.sub (fun e he=>List.mem_reverse.mp he) (Nat.le_of_eq (Vb ds)) (by rw[List.length_reverse];omega)
theorem Els.one {p w W:Nat}{D:PyData}(h:Dk p w W D)(hW:1<=W):Els p (w+1) W [D]:=⟨fun e he=>by rw[List.mem_singleton.mp he];exact⟨w,h⟩,by simp only[PyData.weightAll];have:=h.wt;omega,by simpa using hW⟩
def Asc (z:Str):Prop:=∀ c∈z.cps.toList,c<128
theorem Asc.ok {z:Str}(h:Asc z):PyData.strOk z=true:=by
 unfold PyData.strOk
 rw[<- Array.all_toList,List.all_eq_true]
 intro c hc
 have:=h c hc
 exact decide_eq_true (by omega)
theorem Gi {p w W:Nat}{z:Str}(h:Asc z)(hl:z.length<=w):Dk p w W (.str z):=by
 refine⟨?_,by simpa only[PyData.canLay0] using h.ok,by simp only[PyData.showable],?_,by simp only[PyData.depth];omega,by simp only[PyData.weight];exact hl,by simp only[Xm];omega⟩
 . simp only[Vv]
   rw[List.all_eq_true]
   exact fun c hc=>decide_eq_true (h c hc)
 simp only[PyData.leavesShort]
 rw[List.all_eq_true]
 intro c hc
 have:=h c hc
 exact decide_eq_true (by omega)
theorem Dk.str {p w W:Nat}{z:Str}(h:Dk p w W (.str z)):Asc z/\z.length<=w:=by
 obtain⟨a0,_,_,_,_,a5,_⟩:=h
 simp only[Vv,List.all_eq_true] at a0
 simp only[PyData.weight] at a5
 exact⟨fun c hc=>of_decide_eq_true (a0 c hc),a5⟩
theorem Asc.app {a b:Str}(h:Asc a)(g:Asc b):Asc (a++b):=fun c hc=>by
 have hc:c∈(a.cps++b.cps).toList:=hc
 rw[Array.toList_append] at hc
 exact(List.mem_append.mp hc).elim (h c) (g c)
theorem Yn (p q:Str):Txt.upper (p++q)=Txt.upper p++Txt.upper q:=by
 show(⟨PySem.placed (p++q) _⟩:Str)=⟨PySem.placed p _++PySem.placed q _⟩
 congr 1
 unfold PySem.placed
 rw[Str.cps_append]
 rw[Array.mapIdx_append]
 rw [Array.flatten_append]
theorem Wq:∀ c,c<128->(Txt.upper ⟨#[c]⟩).cps.toList=[if 97<=c/\c<=122 then c-32 else c]:=by decide +kernel
theorem Jn:∀ l:List Nat,(∀ c∈l,c<128)->(Txt.upper ⟨l.toArray⟩).cps.toList=l.map fun c=>if 97<=c/\c<=122 then c-32 else c
 | [],_=>by decide +kernel
 | c :: l,h=>by
   have ih:=Jn l fun x hx=>h x (List.mem_cons_of_mem _ hx)
   have e:(⟨(c :: l).toArray⟩:Str)=⟨#[c]⟩++⟨l.toArray⟩:=by
    show(⟨(c :: l).toArray⟩:Str)=⟨#[c]++l.toArray⟩
    simp
   rw[e,Yn]
   show((Txt.upper ⟨#[c]⟩).cps++(Txt.upper ⟨l.toArray⟩).cps).toList=_
   rw[Array.toList_append,ih,Wq c (h c (by simp))]
   rfl
theorem Se {z:Str}(h:Asc z):Asc (Txt.upper z)/\(Txt.upper z).length=z.length:=by
 have e:=Jn z.cps.toList h
 rw[Array.toArray_toList] at e
 refine⟨fun c hc=>?_,?_⟩
 . have hc:c∈(Txt.upper ⟨z.cps⟩).cps.toList:=hc
   rw[e] at hc
   obtain⟨b,hb,rfl⟩:=List.mem_map.mp hc
   have:=h b hb
   split<;>omega
 show(Txt.upper ⟨z.cps⟩).cps.size=z.cps.size
 rw[<- Array.length_toList,e,List.length_map,Array.length_toList]
theorem Hw {xs:List V}{t:Int}(h0:0<=t):J5 xs (some t) none=xs.drop t.toNat:=by
 by_cases h:t<=xs.length
 . exact Kd h0 h
 have e:HT.sIx xs.length 0 (some t)=xs.length:=by unfold HT.sIx;simp[show ¬ t<0 by omega];omega
 unfold J5
 rw[e,List.drop_length,List.take_nil,List.drop_eq_nil_of_le (by omega)]
section
variable {X:Cx}{K:PySem.W.Frag}
end
section
variable {X:Cx}{K:PySem.W.Frag}
def Jt (K:PySem.W.Frag):List V->Hp->VK->Prop:=fun xs H Q=>∃ x d,xs=[x]/\Is K H d x/\d.showable=true/\d.shown.length<=sizeLine/\d.depth<=100/\Q (.str d.shown) H
theorem Pm (hq:QA X.A):CallR X (.builtin "repr") (Jt X.K):=by
 intro pins s σ H xs us Q I rv h
 obtain⟨x,d,rfl,i,hs,hf,hd,q⟩:=h
 cases d with
 | none=>
   simp only[Is] at i
   subst i
   exact Jr pins s σ H _ us Q I rv (.inr ⟨rfl,q⟩)
 | bool b=>
   simp only[Is] at i
   subst i
   refine Jr pins s σ H _ us Q I rv (.inl ⟨b,rfl,?_⟩)
   cases b<;>exact q
 | int n=>
   simp only[Is] at i
   subst i
   exact Q8 pins s σ H _ us Q I rv ⟨n,rfl,of_decide_eq_true (by simpa only[PyData.showable] using hs),q⟩
 | str z=>
   simp only[Is] at i
   subst i
   obtain⟨u,rfl,ru⟩:=rv.one
   obtain⟨t,rfl⟩:=ru
   exact PySem.P.repr_of_str ⟨.str _,H,I.tok _,⟨_,rfl⟩,q⟩ hf
 | list ds=>exact Jk hq pins s σ H _ us Q I rv ⟨x,_,rfl,i,⟨rfl,hs,hf,hd⟩,q⟩
 | tuple ds=>exact Jk hq pins s σ H _ us Q I rv ⟨x,_,rfl,i,⟨rfl,hs,hf,hd⟩,q⟩
 | dict kvs=>simp only[Is] at i
theorem Dw (hq:QA X.A)(hK:X.K=K:=by ac_nf):CallR X (.builtin "repr") (Jt K):=hK ▸ Pm hq
theorem Nh {H:Hp}{Q:VK}{d:PyData}{x:V}(h:Is K H d x)(h1:d.showable=true)(h2:d.shown.length<=sizeLine)(h3:d.depth<=100)(k:Q (.str d.shown) H):Jt K [x] H Q:=⟨x,d,rfl,h,h1,h2,h3,k⟩
theorem Dk.told {p w W:Nat}{D:PyData}(h:Dk p w W D)(hp:p<=60)(hw:w<=100000):D.showable=true/\D.shown.length<=sizeLine/\D.depth<=100:=by
 have h2:=PyData.shown_le 45 (by decide) D h.lv
 have h3:=h.wt
 have h4:=h.dp
 refine⟨h.sh,?_,by omega⟩
 rw[sizeLine_eq]
 omega
end
section
variable {prog:Program}{w:World}{A:Around}{E:Value->Shared->Prop}{s:Shared}
end
section
variable {P:Program}{w:World}{A:Around}{R:Result->Shared->Prop}{it:Addr}{fp wr:List Addr}{G:Array GenState->Array GenState->Prop}{n:Nat}{PV:Nat->Value->Prop}{St:Nat->Shared->Prop}
end
section
variable {prog:Program}{w:World}{A:Around}{E:Value->Shared->Prop}{s:Shared}
set_option maxHeartbeats 3200000 in
end
section
variable {prog:Program}{w:World}{A:Around}{E:Value->Shared->Prop}{s:Shared}
end
section
variable {prog:Program}{w:World}{A:Around}{E:Value->Shared->Prop}{s:Shared}
end
section
variable {prog:Program}{w:World}{A:Around}{E:Value->Shared->Prop}{s:Shared}
end
section
variable {prog:Program}{w:World}{A:Around}{E:Value->Shared->Prop}{s:Shared}
end
section
variable {X:Cx}{K:PySem.W.Frag}
end
end L2
namespace L2
open PySem PySem.Spec PyProof.Rows
open Builtin
section
variable {X:Cx}{K:PySem.W.Frag}
end
end L2
namespace L2
open PySem PySem.Spec PyProof.Rows
section
variable {P:Program} {w:World} {K:PySem.W.Frag} {mg:Str->Option Value} {base:Heap} {k:Nat} {f:Addr} {fd:FuncData} {ps:List Str} {sp sp':Sp}
end
theorem Ip:∀(k fuel n:Nat) (ds:List Char),1<=k->n<10 ^ k->(Nat.toDigitsCore 10 fuel n ds).length<=ds.length+k
 | _,0,n,ds,_,_=>by simp[Nat.toDigitsCore]
 | k,fuel+1,n,ds,hk,hn=>by
   unfold Nat.toDigitsCore
   dsimp only
   split
   . simp;omega
   rename_i h0
   cases k with
   | zero=>omega
   | succ k=>
     have h1:n / 10<10 ^ k:=by
      rw[Nat.div_lt_iff_lt_mul (by omega)]
      rw[Nat.pow_succ] at hn
      exact hn
     have hk1:1<=k:=by
      cases k with
      | zero=>simp at h1;omega
      | succ _=>omega
     have:=Ip k fuel (n / 10) (Nat.digitChar (n % 10) :: ds) hk1 h1
     rw[List.length_cons] at this
     omega
theorem We (s:String):(s:Str).length=s.toList.length:=by
 show(Str.ofString s).cps.size=_
 rw[Str.ofString_eq_byList]
 unfold Str.ofStringByList
 simp
theorem Og {n:Nat}(h:n<10 ^ 44):(Nat.repr n).toList.length<=44:=by
 unfold Nat.repr Nat.toDigits
 have:=Ip 44 (n+1) n [] (by omega) h
 simpa using this
theorem So {m:Int} (h:m.natAbs<10 ^ 44):(PyData.int m).shown.length<=45:=by
 simp only[PyData.shown]
 rw[We]
 cases m with
 | ofNat n=>
   have:(toString (Int.ofNat n):String)=Nat.repr n:=rfl
   rw[this]
   exact Nat.le_trans (Og h) (by omega)
 | negSucc n=>
   have:(toString (Int.negSucc n):String) = "-" ++ Nat.repr (n+1):=rfl
   rw[this]
   have h2:=Og (n:=n+1) h
   rw[String.toList_append,List.length_append]
   have:("-":String).toList.length=1:=by decide
   omega
theorem Xa {m:Int}(h:m.natAbs<10 ^ 44):m.natAbs.log2<147:=by
 by_cases h0:m.natAbs=0
 . rw[h0];decide
 exact(Nat.log2_lt h0).mpr (Nat.lt_trans h (by decide))
theorem Zx {p W:Nat}{m:Int}(h:m.natAbs<10 ^ 44):Dk p 150 W (.int m):=by
 have hl:=Xa h
 refine⟨by simp only[Vv],by simp only[PyData.canLay0],?_,?_,by simp only[PyData.depth];omega,?_,by simp only[Xm];omega⟩
 . simp only[PyData.showable]
   exact decide_eq_true (by omega)
 . simp only[PyData.leavesShort]
   exact decide_eq_true (So h)
 simp only[PyData.weight]
 split<;>omega
section
variable {P:Program}{w:World}{A:Around}{E:Value->Shared->Prop}{z:Shared}
theorem zipF {c TI TO i1 i2:Addr}{fp1 fp2:List Addr}{n n2 i:Nat}{P1 P2:Nat->Value->Prop}{S1 S2:Nat->Heap->Prop}{u0 v0:Value}{Q:Value->Shared->Prop}
  (D1:Draws P w A i1 fp1 n P1 S1) (D2:Draws P w A i2 fp2 n2 P2 S2) (hi:i<n) (hi2:i<n2) (hc:Ik z.heap c TI TO .none false) (hTI:IsPair z.heap TI (.ref i1) (.ref i2)) (hTO:IsPair z.heap TO u0 v0)
  (h1:S1 i z.heap) (h2:S2 i z.heap) (c1:c∉fp1) (c2:c∉fp2) (o1:TO∉fp1) (o2:TO∉fp2) (x1:i1∉fp2) (x2:i2∉fp1) (y1:i1≠c) (y2:i2≠c) (oc:TO≠c) (oi1:TO≠i1) (oi2:TO≠i2)
  (go:∀ g tk x y,P1 i x->P2 i y->Ik g c TI TO (rawInt z.heap.objs.size) false->IsPair g TO x y->IsPair g z.heap.objs.size x y->S1 (i+1) g->S2 (i+1) g->(∀ b ob,b≠c->b≠i1->b≠i2->b≠TO->z.heap.get? b=some ob->g.get? b=some ob)->Q (.ref z.heap.objs.size) { z with heap:=g,toks:=tk }) :
  wpAny (model P w) A (Builtin.«zip.__next__» ⟨[.ref c],[]⟩) (fun fin s'=>∃ v,fin = .done (.ret v)/\Q v s') E z:=by
 show wpAny _ _ (field (.ref c) 2 >>= _) _ _ _
 refine(wpAny_bind (wpAny_field hc rfl (x:=.bool false) rfl ?_))
 show wpAny _ _ (field (.ref c) 3 >>= _) _ _ _
 refine(wpAny_bind (wpAny_field hc rfl (x:=.ref TI) rfl ?_))
 refine(wpAny_bind (wpAny_seqItems hTI rfl ?_))
 show wpAny _ _ (Builtin.SmallTypes.ownedTupleIsFree (.ref c) >>= _) _ _ _
 refine(wpAny_bind ?_)
 unfold Builtin.SmallTypes.ownedTupleIsFree
 refine(wpAny_bind (wpAny_field hc rfl (x:=.none) rfl (wpAny_pure ?_)))
 simp only[if_true]
 refine(wpAny_bind (wpAny_rule ?_))
 refine(wpAny_bind (wpAny_field hc rfl (x:=.ref TO) rfl ?_))
 refine(wpAny_bind (wpAny_setField_rec hc (by simp) fun g0 hc0 sb0=>?_))
 refine(wpAny_bind ?_)
 simp only[List.zipIdx_cons,List.zipIdx_nil,List.forIn_cons,List.forIn_nil]
 have h1':S1 i g0:=D1.frame i _ _ h1 fun b hb ob q=>sb0.extBut b ob (fun e=>c1 (e ▸ hb)) q
 have h2':S2 i g0:=D2.frame i _ _ h2 fun b hb ob q=>sb0.extBut b ob (fun e=>c2 (e ▸ hb)) q
 have hTO0:IsPair g0 TO u0 v0:=sb0.extBut _ _ oc hTO
 refine(wpAny_bind (wpAny_bind (wpAny_onRaise ?_)))
 show wpAny _ _ (Builtin.SmallTypes.nextOf (.ref i1) >>= _) _ _ _
 refine(wpAny_bind (D1.item i _ _ _ hi h1' fun x g1 tk1 hx hS1 sb1=>wpAny_pure ?_))
 have hTO1:IsPair g1 TO u0 v0:=sb1.extBut _ _ oi1 hTO0
 refine(wpAny_bind (wpAny_seqItems hTO1 rfl ?_))
 refine(wpAny_bind (wpAny_updateSeq_pair hTO1 fun g2 hTO2 sb2=>?_))
 refine(wpAny_bind (wpAny_letGo (wpAny_pure ?_)))
 have h2'':S2 i g2:=D2.frame i _ _ h2' fun b hb ob q=>sb2.extBut b ob (fun e=>o2 (e ▸ hb)) (sb1.extBut b ob (fun e=>x1 (e ▸ hb)) q)
 have hS1':S1 (i+1) g2:=D1.frame _ _ _ hS1 fun b hb ob q=>sb2.extBut b ob (fun e=>o1 (e ▸ hb)) q
 refine(wpAny_bind (wpAny_bind (wpAny_onRaise ?_)))
 show wpAny _ _ (Builtin.SmallTypes.nextOf (.ref i2) >>= _) _ _ _
 refine(wpAny_bind (D2.item i _ _ _ hi2 h2'' fun y g3 tk3 hy hS2 sb3=>wpAny_pure ?_))
 have hTO3:IsPair g3 TO x v0:=sb3.extBut _ _ oi2 hTO2
 refine(wpAny_bind (wpAny_seqItems hTO3 rfl ?_))
 refine(wpAny_bind (wpAny_updateSeq_pair hTO3 fun g4 hTO4 sb4=>?_))
 refine(wpAny_bind (wpAny_letGo (wpAny_pure (wpAny_pure ?_))))
 have hTO4':IsPair g4 TO x y:=hTO4
 refine(wpAny_bind (wpAny_seqItems hTO4' rfl ?_))
 refine(wpAny_bind (wpAny_newTuple ?_))
 have hsz:g4.objs.size=z.heap.objs.size:=by rw[sb4.1,sb3.1,sb2.1,sb1.1,sb0.1]
 have hc4:Ik g4 c TI TO .ellipsis false:=sb4.extBut _ _ (Ne.symm oc) (sb3.extBut _ _ (Ne.symm y2) (sb2.extBut _ _ (Ne.symm oc) (sb1.extBut _ _ (Ne.symm y1) hc0)))
 have hlt:c<g4.objs.size:=Heap.lt_size hc4
 show wpAny _ _ (Builtin.SmallTypes.ownedTupleHandOut (.ref c) (.ref g4.objs.size) >>= _) _ _ _
 refine(wpAny_bind ?_)
 unfold Builtin.SmallTypes.ownedTupleHandOut
 have hc5:Ik (g4.push { cls:=.type "tuple",data:=.seq #[x,y] }) c TI TO .ellipsis false:=Heap.get?_push_of_some _ hc4
 refine(wpAny_bind (wpAny_setField_rec hc5 (by simp) fun g6 hc6 sb6=>?_))
 refine(wpAny_setField_rec hc6 (by simp) fun g7 hc7 sb7=>?_)
 have up:∀ b ob,b≠c->g4.get? b=some ob->g7.get? b=some ob:=fun b ob b1 q=>sb7.extBut b ob b1 (sb6.extBut b ob b1 (Heap.get?_push_of_some _ q))
 refine(wpAny_pure ⟨_,rfl,?_⟩)
 have hS2':S2 (i+1) g4:=D2.frame _ _ _ hS2 fun b hb ob q=>sb4.extBut b ob (fun e=>o2 (e ▸ hb)) q
 have hS1'':S1 (i+1) g4:=D1.frame _ _ _ hS1' fun b hb ob q=>sb4.extBut b ob (fun e=>o1 (e ▸ hb)) (sb3.extBut b ob (fun e=>x2 (e ▸ hb)) q)
 rw[hsz] at hc7 ⊢
 refine go g7 tk3 x y hx hy hc7 (up _ _ oc hTO4') (by rw[<- hsz];exact sb7.extBut _ _ (Nat.ne_of_gt hlt) (sb6.extBut _ _ (Nat.ne_of_gt hlt) (Heap.get?_push_size _ rfl))) ?_ ?_ ?_
 . exact D1.frame _ _ _ hS1'' fun b hb ob q=>up b ob (fun e=>c1 (e ▸ hb)) q
 . exact D2.frame _ _ _ hS2' fun b hb ob q=>up b ob (fun e=>c2 (e ▸ hb)) q
 exact fun b ob b1 b2 b3 b4 q=>up b ob b1 (sb4.extBut b ob b4 (sb3.extBut b ob b3 (sb2.extBut b ob b4 (sb1.extBut b ob b2 (sb0.extBut b ob b1 q)))))
theorem zipN {c TI TO i1 i2:Addr}{fp1 fp2:List Addr}{n n2:Nat}{P1 P2:Nat->Value->Prop}{S1 S2:Nat->Heap->Prop}{u0 v0:Value}{Q:PySem.Fin->Shared->Prop}
  (D1:Draws P w A i1 fp1 n P1 S1) (D2:Draws P w A i2 fp2 n2 P2 S2) (hi:n2<n) (hc:Ik z.heap c TI TO .none false) (hTI:IsPair z.heap TI (.ref i1) (.ref i2)) (hTO:IsPair z.heap TO u0 v0) (h1:S1 n2 z.heap) (h2:S2 n2 z.heap) (c1:c∉fp1) (c2:c∉fp2) (o2:TO∉fp2) (x1:i1∉fp2) (y1:i1≠c) (y2:i2≠c) (oc:TO≠c) (oi1:TO≠i1)
  (stop:∀ g tk e,(∀ b ob,b≠c->b≠i1->b≠i2->b≠TO->z.heap.get? b=some ob->g.get? b=some ob)->(∃ ob,g.get? e=some ob/\ob.cls = .type "StopIteration")->E (.ref e) { z with heap:=g,toks:=tk }) :
  wpAny (model P w) A (Builtin.«zip.__next__» ⟨[.ref c],[]⟩) Q E z:=by
 show wpAny _ _ (field (.ref c) 2 >>= _) _ _ _
 refine(wpAny_bind (wpAny_field hc rfl (x:=.bool false) rfl ?_))
 show wpAny _ _ (field (.ref c) 3 >>= _) _ _ _
 refine(wpAny_bind (wpAny_field hc rfl (x:=.ref TI) rfl ?_))
 refine(wpAny_bind (wpAny_seqItems hTI rfl ?_))
 show wpAny _ _ (Builtin.SmallTypes.ownedTupleIsFree (.ref c) >>= _) _ _ _
 refine(wpAny_bind ?_)
 unfold Builtin.SmallTypes.ownedTupleIsFree
 refine(wpAny_bind (wpAny_field hc rfl (x:=.none) rfl (wpAny_pure ?_)))
 simp only[if_true]
 refine(wpAny_bind (wpAny_rule ?_))
 refine(wpAny_bind (wpAny_field hc rfl (x:=.ref TO) rfl ?_))
 refine(wpAny_bind (wpAny_setField_rec hc (by simp) fun g0 hc0 sb0=>?_))
 refine(wpAny_bind ?_)
 simp only[List.zipIdx_cons,List.zipIdx_nil,List.forIn_cons,List.forIn_nil]
 have h1':S1 n2 g0:=D1.frame n2 _ _ h1 fun b hb ob q=>sb0.extBut b ob (fun e=>c1 (e ▸ hb)) q
 have h2':S2 n2 g0:=D2.frame n2 _ _ h2 fun b hb ob q=>sb0.extBut b ob (fun e=>c2 (e ▸ hb)) q
 have hTO0:IsPair g0 TO u0 v0:=sb0.extBut _ _ oc hTO
 refine(wpAny_bind (wpAny_bind (wpAny_onRaise ?_)))
 show wpAny _ _ (Builtin.SmallTypes.nextOf (.ref i1) >>= _) _ _ _
 refine(wpAny_bind (D1.item n2 _ _ _ hi h1' fun x g1 tk1 hx hS1 sb1=>wpAny_pure ?_))
 have hTO1:IsPair g1 TO u0 v0:=sb1.extBut _ _ oi1 hTO0
 refine(wpAny_bind (wpAny_seqItems hTO1 rfl ?_))
 refine(wpAny_bind (wpAny_updateSeq_pair hTO1 fun g2 hTO2 sb2=>?_))
 refine(wpAny_bind (wpAny_letGo (wpAny_pure ?_)))
 have h2'':S2 n2 g2:=D2.frame n2 _ _ h2' fun b hb ob q=>sb2.extBut b ob (fun e=>o2 (e ▸ hb)) (sb1.extBut b ob (fun e=>x1 (e ▸ hb)) q)
 refine(wpAny_bind (wpAny_bind (wpAny_onRaise ?_)))
 show wpAny _ _ (Builtin.SmallTypes.nextOf (.ref i2) >>= _) _ _ _
 refine(wpAny_bind (D2.done _ _ _ h2'' fun g3 e sb3 he=>?_))
 obtain⟨oe,hoe,hce⟩:=he
 have hc3:Ik g3 c TI TO .ellipsis false:=sb3 _ _ (Ne.symm y2) (sb2.extBut _ _ (Ne.symm oc) (sb1.extBut _ _ (Ne.symm y1) hc0))
 have hez:e≠c:=fun q=>by subst q;rw[show g3.get? _=_ from hc3] at hoe;cases hoe;simp at hce
 refine(wpAny_setField_rec hc3 (by simp) fun g4 _ sb4=>?_)
 exact stop g4 tk1 e (fun b ob b1 b2 b3 b4 q=>sb4.extBut b ob b1 (sb3 b ob b3 (sb2.extBut b ob b4 (sb1.extBut b ob b2 (sb0.extBut b ob b1 q))))) ⟨oe,sb4.extBut _ _ hez hoe,hce⟩
end
def Itz (K:PySem.W.Frag)(a b:Addr):It:=
 ⟨fun i H=>∃ xs ys x y,SqT K H a xs/\SqT K H b ys/\xs[i]? = some x/\ys[i]? = some y,fun i H v H'=>∃ t x y,H t=none/\H'=upd H t (.tup [x,y])/\v = .ref t/\(∀ xs,SqT K H a xs->xs[i]? = some x)/\∀ ys,SqT K H b ys->ys[i]? = some y,fun i H=>∃ xs ys,SqT K H a xs/\SqT K H b ys/\(xs.length=i\/(i<xs.length/\ys.length=i))⟩
def ZTn (c TI TO i1 i2 a b:Addr)(i:Nat)(h:Heap):Prop:=Ik h c TI TO .none false/\IsPair h TI (.ref i1) (.ref i2)/\(∃ u v,IsPair h TO u v)/\h.IsTupleIter i1 a i/\h.IsTupleIter i2 b i
structure W0 (c TI TO i1 i2 a b:Addr):Prop where
 nd:[c,TI,TO,i1,i2].Nodup
 na:a∉[c,TI,TO,i1,i2]
 nb:b∉[c,TI,TO,i1,i2]
theorem U6 {P:Program}{w:World}{K:PySem.W.Frag}{elts:List Expr}{ek:Nat}{epos:Pos}(c TI TO i1 i2 a b:Addr)(O:W0 c TI TO i1 i2 a b):V6 P w K (.Tuple elts ek epos) (Itz K a b) [c,TI,TO,i1,i2] c (ZTn c TI TO i1 i2 a b) where
 mem:=by simp
 obj:=fun i h st x hx=>by
  obtain⟨h1,h2,⟨u,v,h3⟩,⟨o4,h4,_,d4⟩,⟨o5,h5,_,d5⟩⟩:=st
  simp only[List.mem_cons,List.not_mem_nil,or_false] at hx
  rcases hx with rfl | rfl | rfl | rfl | rfl
  . exact⟨_,h1,fun v z=>by cases z⟩
  . exact⟨_,h2,fun v z=>by cases z⟩
  . exact⟨_,h3,fun v z=>by cases z⟩
  . exact⟨o4,h4,fun v z=>by rw[d4] at z;cases z⟩
  exact⟨o5,h5,fun v z=>by rw[d5] at z;cases z⟩
 keep:=fun i h h' st k=>by
  obtain⟨h1,h2,⟨u,v,h3⟩,h4,h5⟩:=st
  exact⟨k c (by simp) _ h1,k TI (by simp) _ h2,⟨u,v,k TO (by simp) _ h3⟩,h4.at fun o q=>k i1 (by simp) o q,h5.at fun o q=>k i2 (by simp) o q⟩
 item:=by
  intro X hP hw hK hc i pins s σ H E I hf st hg
  subst hP hw hK
  obtain⟨nd,na,nb⟩:=O
  simp only[List.nodup_cons,List.mem_cons,List.not_mem_nil,or_false,not_or,List.nodup_nil,and_true,not_false_eq_true] at nd na nb
  obtain⟨⟨n1,n2,n3,n4⟩,⟨n5,n6,n7⟩,⟨n8,n9⟩,n10⟩:=nd
  obtain⟨a1,a2,a3,a4,a5⟩:=na
  obtain⟨b1,b2,b3,b4,b5⟩:=nb
  obtain⟨xs,ys,x,y,hqa,hqb,hx,hy⟩:=hg
  obtain⟨its,rv,p,hz⟩:=I.tuple hqa
  obtain⟨jts,rw',p',hz'⟩:=I.tuple hqb
  obtain⟨u,hu,ru⟩:=rv.get hx
  obtain⟨v,hv,rv2⟩:=rw'.get hy
  have hil:i<its.length:=(List.getElem?_eq_some_iff.mp hu).1
  have hjl:i<jts.length:=(List.getElem?_eq_some_iff.mp hv).1
  have hd:X.A.in1.handled=none:=by simpa using I.ok.hd hc
  have D1:=Oi (prog:=X.prog) (w:=X.w) hd i1 a a4 its.toArray
  have D2:=Oi (prog:=X.prog) (w:=X.w) hd i2 b b5 jts.toArray
  obtain⟨h1,h2,⟨u0,v0,h3⟩,h4,h5⟩:=st
  have hT:s.TypeIs (.ref c) "zip":=⟨_,h1,rfl⟩
  have hcl:c<s.heap.objs.size:=Heap.lt_size h1
  have hTIl:TI<s.heap.objs.size:=Heap.lt_size h2
  have hTOl:TO<s.heap.objs.size:=Heap.lt_size h3
  have h1l:i1<s.heap.objs.size:=let ⟨_,q,_⟩:=h4;Heap.lt_size q
  have h2l:i2<s.heap.objs.size:=let ⟨_,q,_⟩:=h5;Heap.lt_size q
  unfold pyNext
  refine wpAny_bind (wpAny_attempt (wpAny_callSpecial?_slot (name:=Str.ofString "__next__") hT F.slot_zip_next (wpAny_call_entry F.slot_zip_next hT F.entry_zip_next
   (zipF D1 D2 (by simpa using hil) (by simpa using hjl) h1 h2 h3 ⟨h4,p⟩ ⟨h5,p'⟩ (by simp[n3,Ne.symm a1]) (by simp[n4,Ne.symm b1]) (by simp[n8,Ne.symm a3]) (by simp[n9,Ne.symm b3]) (by simp[n10,Ne.symm b4]) (by simp[Ne.symm n10,Ne.symm a5]) (Ne.symm n3) (Ne.symm n4) (Ne.symm n2) n8 n9 fun g tk x' y' px py gz gTO gu g1 g2 kp=>?_) (F.args_zip_next_1 _))))
  have ex:x'=u:=by
   have q:its.toArray[i]? = some x':=px
   rw[List.getElem?_toArray,hu] at q
   exact(Option.some.inj q).symm
  have ey:y'=v:=by
   have q:jts.toArray[i]? = some y':=py
   rw[List.getElem?_toArray,hv] at q
   exact(Option.some.inj q).symm
  subst ex ey
  refine wpAny_pure ⟨_,rfl,wpAny_letOwnedTupleGo_zip gz fun g' gz' hs'=>?_⟩
  have hTn:H s.heap.objs.size=none:=I.hok.fresh (Nat.le_refl _)
  have I1:Inv X pins σ (upd H s.heap.objs.size (.tup [x,y])) { s with heap:=s.heap.push { cls:=.type "tuple",data:=.seq #[x',y'] } }:=
   I.laid (t':=s.toks) (fun b ob q=>Heap.get?_push_of_some _ q) (Nat.le_refl _) ⟨by simp[sizeLine_eq],[x',y'],.cons ru (.cons rv2 .nil),_,Heap.get?_push_size _ rfl,rfl,⟨_,rfl⟩,rfl⟩
  have nT:∀ q∈[c,TI,TO,i1,i2],q≠s.heap.objs.size:=fun q hq=>by
   simp only[List.mem_cons,List.not_mem_nil,or_false] at hq
   rcases hq with rfl | rfl | rfl | rfl | rfl<;>exact Nat.ne_of_lt (by assumption)
  have up:∀ q o,q≠c->g.get? q=some o->g'.get? q=some o:=fun q o hq e=>hs'.extBut q o hq e
  have I2:Inv X pins σ (upd H s.heap.objs.size (.tup [x,y])) { s with heap:=g',toks:=tk }:=Inv.turnedL (s:={ s with heap:=s.heap.push { cls:=.type "tuple",data:=.seq #[x',y'] } }) (ch:=[c,TI,TO,i1,i2]) I1 (fun q ob hq e=>?_) (fun q hq=>?_)
  . refine⟨.ref s.heap.objs.size,_,I2,rfl,⟨_,x,y,hTn,rfl,rfl,fun zs hz=>by rw[I.tuple_inj hz hqa];exact hx,fun zs hz=>by rw[I.tuple_inj hz hqb];exact hy⟩,⟨gz',up _ _ (Ne.symm n1) (kp _ _ (Ne.symm n1) n6 n7 n5 h2),⟨_,_,up _ _ (Ne.symm n2) gTO⟩,g1.1.at fun o q=>up _ _ (Ne.symm n3) q,g2.1.at fun o q=>up _ _ (Ne.symm n4) q⟩,fun q hq=>?_⟩
    rw[As (nT q hq)]
    exact(hf q hq).1
  . simp only[List.mem_cons,List.not_mem_nil,or_false,not_or] at hq
    rcases Heap.get?_push_cases e with ⟨rfl,rfl⟩ | e
    . exact up _ _ (Nat.ne_of_gt hcl) gu
    exact up _ _ hq.1 (kp q ob hq.1 hq.2.2.2.1 hq.2.2.2.2 hq.2.2.1 e)
  obtain⟨f0,f1,f2,f3,f4,f5⟩:=hf q hq
  exact⟨by rw[As (nT q hq)];exact f0,f1,f2,f3,f4,f5⟩
 done:=by
  intro X hP hw hK hc i pins s σ H E I hf st hg
  subst hP hw hK
  obtain⟨nd,na,nb⟩:=O
  simp only[List.nodup_cons,List.mem_cons,List.not_mem_nil,or_false,not_or,List.nodup_nil,and_true,not_false_eq_true] at nd na nb
  obtain⟨⟨n1,n2,n3,n4⟩,⟨n5,n6,n7⟩,⟨n8,n9⟩,n10⟩:=nd
  obtain⟨a1,a2,a3,a4,a5⟩:=na
  obtain⟨b1,b2,b3,b4,b5⟩:=nb
  obtain⟨xs,ys,hqa,hqb,hst⟩:=hg
  obtain⟨its,rv,p,hz⟩:=I.tuple hqa
  obtain⟨jts,rw',p',hz'⟩:=I.tuple hqb
  have hd:X.A.in1.handled=none:=by simpa using I.ok.hd hc
  have D1:=Oi (prog:=X.prog) (w:=X.w) hd i1 a a4 its.toArray
  have D2:=Oi (prog:=X.prog) (w:=X.w) hd i2 b b5 jts.toArray
  obtain⟨h1,h2,⟨u0,v0,h3⟩,h4,h5⟩:=st
  have hT:s.TypeIs (.ref c) "zip":=⟨_,h1,rfl⟩
  have hxl:=rv.length
  have hyl:=rw'.length
  unfold pyNext
  rcases hst with hst | ⟨hlt,hst⟩
  . have hsz:its.toArray.size=i:=by rw[List.size_toArray];omega
    rw[hsz] at D1
    refine wpAny_bind (wpAny_attempt (wpAny_callSpecial?_slot (name:=Str.ofString "__next__") hT F.slot_zip_next (wpAny_call_entry F.slot_zip_next hT F.entry_zip_next (Tm D1 h1 h2 ⟨h4,p⟩ (by simp[n3,Ne.symm a1]) (Ne.symm n3) fun g e kp he=>?_) (F.args_zip_next_1 _))))
    refine wpAny_bind (wpAny_isInstance (T:="StopIteration") (b:=true) he isSubtype_stop ?_)
    exact wpAny_pure ⟨rfl,I.turnedL (t':=s.toks) (ch:=[c,TI,TO,i1,i2]) (fun q o hq e=>kp q o (fun z=>hq (by simp[z])) (fun z=>hq (by simp[z])) e) hf⟩
  have hsz:jts.toArray.size=i:=by rw[List.size_toArray];omega
  have hsx:i<its.toArray.size:=by rw[List.size_toArray];omega
  subst hsz
  refine wpAny_bind (wpAny_attempt (wpAny_callSpecial?_slot (name:=Str.ofString "__next__") hT F.slot_zip_next (wpAny_call_entry F.slot_zip_next hT F.entry_zip_next (zipN D1 D2 hsx h1 h2 h3 ⟨h4,p⟩ ⟨h5,p'⟩ (by simp[n3,Ne.symm a1]) (by simp[n4,Ne.symm b1]) (by simp[n9,Ne.symm b3]) (by simp[n10,Ne.symm b4]) (Ne.symm n3) (Ne.symm n4) (Ne.symm n2) n8 fun g tk e kp he=>?_) (F.args_zip_next_1 _))))
  refine wpAny_bind (wpAny_isInstance (T:="StopIteration") (b:=true) he isSubtype_stop ?_)
  exact wpAny_pure ⟨rfl,I.turnedL (t':=tk) (ch:=[c,TI,TO,i1,i2]) (fun q o hq e=>kp q o (fun z=>hq (by simp[z])) (fun z=>hq (by simp[z])) (fun z=>hq (by simp[z])) (fun z=>hq (by simp[z])) e) hf⟩
 self:=by
  intro A i s Q E st hQ
  exact wpAny_pyIter_zip st.1 hQ
section
variable {X:Cx}{K:PySem.W.Frag}
def a93 (K:PySem.W.Frag)(vs:List V)(H:Hp)(R:It->Hp->Prop):Prop:=∃ a b xs ys,vs=[.ref a,.ref b]/\SqT K H a xs/\SqT K H b ys/\R (Itz K a b) H
def ad5 (K:PySem.W.Frag)(ta:TA):TI:=fun σ H R=>ta σ H fun vs H1=>a93 K vs H1 R
theorem Pn (m a b:Nat)(ha:a<m)(hb:b<m):W0 (m+4) (m+2) (m+3) m (m+1) a b:=by
 have nn:([m+4,m+2,m+3,m,m+1]:List Nat).Nodup:=by
  simp only[List.nodup_cons,List.mem_cons,List.not_mem_nil,or_false,not_or,List.nodup_nil,and_true,not_false_eq_true]
  omega
 have out:∀ c:Nat,c<m->c∉([m+4,m+2,m+3,m,m+1]:List Nat):=fun c hc=>by
  simp only[List.mem_cons,List.not_mem_nil,or_false,not_or]
  omega
 exact⟨nn,out a ha,out b hb⟩
theorem Yw {ea eb:Expr}{ta:TA}{p pos:Pos}{elts:List Expr}{ek:Nat}{epos:Pos}(hg:Gl X "zip")(hm:X.mg "zip" = none)(ha:PA X [ea,eb] ta)(hK:X.K=K:=by ac_nf)
  (hs2:starEach [ea,eb] X.env=(false,eval ea X.env) :: starEach [eb] X.env:=by ac_nf) (hpl:(backTo pos (starEach [eb] X.env)).any (·.1)=false:=by ac_nf) :
  PI X (.Tuple elts ek epos) (.Call (.Name "zip" p) [ea,eb] [] pos) (ad5 K ta):=by
 subst hK
 intro pins s σ H R I h
 refine Call_ (Ju I hg hm PyProof.Rows.Boot.«zip» (PyProof.Rows.callWith_type1 (thn (ha pos pins s σ H _ I h) fun us s1 ⟨vs,H1,I1,r1,q1⟩=>?_) hs2 hpl))
 obtain⟨a,b,xs,ys,rfl,hA,hB,q⟩:=q1
 obtain⟨u1,u2,rfl,ra,rb⟩:=Vals.two r1
 cases ra
 cases rb
 obtain⟨ks,rk,hta,_⟩:=I1.tuple hA
 obtain⟨vs,rv,htb,_⟩:=I1.tuple hB
 have hal:a<s1.heap.objs.size:=let ⟨_,q,_⟩:=hta;Heap.lt_size q
 have hbl:b<s1.heap.objs.size:=let ⟨_,q,_⟩:=htb;Heap.lt_size q
 refine Ps hta htb fun g g5 g3 g4 g1 g2 z5 kp=>?_
 refine wpAny_pyIter_zip g5 ?_
 refine⟨s1.heap.objs.size+4,_,_,_,H1,rfl,I1.kept (t':=s1.toks) kp,U6 (s1.heap.objs.size+4) (s1.heap.objs.size+2) (s1.heap.objs.size+3) s1.heap.objs.size (s1.heap.objs.size+1) a b (Pn _ _ _ hal hbl),⟨g5,g3,⟨_,_,g4⟩,⟨_,g1,rfl,rfl⟩,⟨_,g2,rfl,rfl⟩⟩,fun c hc=>?_,q⟩
 have hc':s1.heap.objs.size<=c:=by
  simp only[List.mem_cons,List.not_mem_nil,or_false] at hc
  rcases hc with rfl | rfl | rfl | rfl | rfl
  . exact Nat.le_add_right _ _
  . exact Nat.le_add_right _ _
  . exact Nat.le_add_right _ _
  . exact Nat.le_refl _
  exact Nat.le_succ _
 exact I1.fpOk hc' (I1.hok.fresh hc')
end
section
variable {K:PySem.W.Frag}{σ:St}{H:Hp}{Q:VK}
theorem i_izip {ts:TA}{R:It->Hp->Prop}(k:ts σ H fun vs H1=>a93 K vs H1 R):ad5 K ts σ H R:=k
theorem Ui {xs ys:List V}{f:Nat->Bool}{a b:Addr}{te:TE}{js:List Nat}(hA:SqT K H a xs)(hB:SqT K H b ys)(hz:xs.length<=1000000)
  (hs:∀(i:Nat) x y H1 (R:VK),xs[i]? = some x->ys[i]? = some y->Same H H1->(∀ H2,Same H1 H2->R (.bl (f i)) H2)->te (((List.replicate 2 none++Kw σ js).set 0 (some x)).set 1 (some y)) H1 R)
  (hd:∀ p H',H p=none->Same H H'->H' p=some (.lst (((List.range (min xs.length ys.length)).map f).map V.bl))->Q (.ref p) H') :
  a93 K [.ref a,.ref b] H fun J H1=>Ki 2 js (Zc K 2 (Py (Hk 0) (Py (Hk 1) a84))) Sg te σ J H1 Q:=by
 refine⟨a,b,xs,ys,rfl,hA,hB,fun p hp=>⟨fun i m H'=>m=min xs.length ys.length-i/\i<=min xs.length ys.length/\Same H H'/\H' p=some (.lst (((List.range i).map f).map V.bl)),⟨min xs.length ys.length,by simp,Nat.zero_le _,Same.upd hp,A9⟩,?_⟩⟩
 rintro i m H' ⟨rfl,hi,e,hp'⟩
 have ga:=e.seqT hA
 have gb:=e.seqT hB
 by_cases hlt:i<min xs.length ys.length
 . have hx:xs[i]? = some xs[i]:=List.getElem?_eq_getElem (by omega)
   have hy:ys[i]? = some ys[i]:=List.getElem?_eq_getElem (by omega)
   refine .inr ⟨⟨_,_,_,_,ga,gb,hx,hy⟩,fun H2=>i+1<=min xs.length ys.length/\Same H H2/\H2 p=some (.lst (((List.range (i+1)).map f).map V.bl)),fun H2 hN=>⟨min xs.length ys.length-(i+1),by omega,rfl,hN.1,hN.2.1,hN.2.2⟩,fun v H2 y=>?_⟩
   obtain⟨t,x,y,ht,rfl,rfl,hx',hy'⟩:=y
   have hxx:=hx' _ ga
   have hyy:=hy' _ gb
   refine⟨t,_,rfl,SqT.of A9,rfl,x,[y],rfl,y,[],rfl,rfl,?_⟩
   refine hs i x y _ _ hxx hyy (e.trans (Same.upd ht)) fun H3 e3=>?_
   have h3p:H3 p=some (.lst (((List.range i).map f).map V.bl)):=e3 _ _ (Same.upd ht _ _ hp')
   refine⟨_,h3p,by rw[List.length_map,List.length_map,List.length_range,sizeLine_eq];omega,hlt,((e.trans (Same.upd ht)).trans e3).off hp ExtBut.upd,?_⟩
   rw[A9,List.range_succ,List.map_append,List.map_append]
   rfl
 have hin:i=min xs.length ys.length:=by omega
 subst hin
 exact .inl ⟨⟨_,_,ga,gb,by omega⟩,hd p H' hp e hp'⟩
end
section
variable {X:Cx}{K:PySem.W.Frag}{H:Hp}{Q:VK}
end
theorem eqv_str_iff {e:PyData}{z:Str}:PyData.eqv e (.str z)=true↔e = .str z:=by
 cases e with
 | str y=>simp only[PyData.eqv,PyData.str.injEq];simp
 | _=>simp only[PyData.eqv];simp
theorem Pe (a:Addr)(its:Array Value)(n:Nat)(b:Addr)(more:Array Value)(m:Nat)(sl:Array (Option Value))(h0:¬(!its.isEmpty&&Builtin.List.listTooLong (its.size+more.size))=true)(h1:its.size<=sizeLine)(h2:its.size+more.size<=sizeLine+1) :
  Meets (Builtin.«list.extend» ⟨[.ref a,.ref b],[]⟩) (fun _ R s=>s.heap.get? a=some { cls:=.type "list",data:=.seq its n }/\s.heap.get? b=some { cls:=.type "tuple",data:=.seq more m,slots:=sl }/\R (.ok (.ret Value.none)) { s with heap:=s.heap.update a (Obj.mapSeq fun x=>x++more) }):=by
 refine .of_wp fun prog w A R s h=>?_
 obtain⟨hp,g,dd,tk,os⟩:=s
 obtain⟨ha,hb,h⟩:=h
 have f2:=sub_tuple_tuple
 have f3:=sub_list_list
 have f4:=sub_tuple_list
 have f5:=sub_list_tuple
 have hz:(its++more).size<=sizeLine+1:=by rw[Array.size_append];exact h2
 wp_walk using (wpAny_updateSeq ha rfl (hz:=h1) (_hz':=hz)),wpAny_loadPart' ha,wpAny_loadPart' hb
 exact⟨_,rfl,h⟩
section
variable {X:Cx}{K:PySem.W.Frag}
def Yu (K:PySem.W.Frag):V->List V->Hp->VK->Prop:=fun x vs H Q=>N3 x vs H Q\/∃ l b xs zs,x = .ref l/\vs=[.ref b]/\H l=some (.lst xs)/\SqT K H b zs/\xs.length+zs.length<=sizeLine/\Q .non (upd H l (.lst (xs++zs)))
theorem Jm (hK:X.K=K:=by ac_nf):MtM X "list.extend" (Yu K):=by
 subst hK
 intro pins s σ H x vs v us Q I rx rv h
 rcases h with h | h
 . exact Hn pins s σ H x vs v us Q I rx rv h
 obtain⟨l,b,xs,zs,rfl,rfl,hH,hB,hz,q⟩:=h
 cases rx
 obtain⟨u,rfl,ru⟩:=rv.one
 cases ru
 obtain⟨z,its,n,r,hl,e⟩:=I.lstM hH
 obtain⟨it2,r2,⟨o,g1,g2,m,g3⟩,hl2⟩:=I.tuple hB
 obtain⟨ob,g5,g4⟩:=I.tupleN hB
 rw[g1] at g5
 cases g5
 obtain⟨cl,dc,da,sl⟩:=o
 cases g2
 cases g3
 cases g4
 have l1:=r.length
 have l2:=r2.length
 have hsz:its.toArray.size+it2.toArray.size<=sizeLine:=by rw[List.size_toArray,List.size_toArray];omega
 have hlong:¬ (!its.toArray.isEmpty&&Builtin.List.listTooLong (its.toArray.size+it2.toArray.size))=true:=by
  rw[K7 hsz,Bool.and_false]
  exact Bool.false_ne_true
 refine call_meets F.slot_list_extend ⟨_,e,rfl⟩ F.entry_list_extend (F.args_list_extend_2 _ _) (Pe l its.toArray n b it2.toArray m sl hlong (by omega) (by omega)) ⟨e,g1,?_⟩
 refine⟨.non,_,I.lset (its':=its++it2) hH e (by simp) (r.append r2) ?_,rfl,q⟩
 rw[List.length_append]
 omega
theorem Vq {l b:Addr}{xs zs:List V}{H:Hp}{Q:VK}(h:H l=some (.lst xs))(hb:SqT K H b zs)(hz:xs.length+zs.length<=1000000)(k:∀ H',ExtBut l H H'->H' l=some (.lst (xs++zs))->Q .non H'):Yu K (.ref l) [.ref b] H Q:=
 .inr ⟨l,b,xs,zs,rfl,rfl,h,hb,A6 hz,k _ ExtBut.upd A9⟩
end
section
variable {α:Type}[DecidableEq α]
def Fa (rows:List (List α)):Nat:=Jf (rows.map fun r=>fac r.length)
def J8:List (List α)->α->Nat
 | [],_=>0
 | r :: rs,x=>if r.head? = some x then r.length else J8 rs x
def rmH:List (List α)->α->List (List α)
 | [],_=>[]
 | r :: rs,x=>if r.head? = some x then r.tail :: rs else r :: rmH rs x
theorem Dg (r:List α)(rs:List (List α)):Fa (r :: rs)=fac r.length*Fa rs:=rfl
theorem Y5 {r:List α}{x:α}(h:r.head? = some x):r=x :: r.tail:=by
 cases r with
 | nil=>cases h
 | cons y t=>simp at h;subst h;rfl
theorem P0 {x:α}:∀ {rows:List (List α)},(∃ r∈rows,r.head? = some x)->Fa rows=J8 rows x*Fa (rmH rows x)/\rows.flatten.Perm (x :: (rmH rows x).flatten)
 | [],h=>by obtain⟨r,hr,_⟩:=h;cases hr
 | r :: rs,h=>by
   by_cases e:r.head? = some x
   . have er:=Y5 e
     unfold J8 rmH
     rw[if_pos e,if_pos e]
     constructor
     . rw[Dg,Dg]
       have:r.length=r.tail.length+1:=by
        conv=>lhs;rw[er]
        rfl
       rw[this,show fac (r.tail.length+1)=fac r.tail.length*(r.tail.length+1) from rfl,Nat.mul_comm (fac _),Nat.mul_assoc]
     conv=>lhs;rw[er]
     rw[List.flatten_cons,List.flatten_cons]
     exact List.Perm.refl _
   have h':∃ r∈rs,r.head? = some x:=by
    obtain⟨q,hq,hx⟩:=h
    rcases List.mem_cons.mp hq with rfl | hq
    . exact absurd hx e
    exact⟨q,hq,hx⟩
   obtain⟨h1,h2⟩:=P0 h'
   unfold J8 rmH
   rw[if_neg e,if_neg e]
   constructor
   . rw[Dg,Dg,h1]
     rw[Nat.mul_left_comm]
   rw[List.flatten_cons,List.flatten_cons]
   exact(List.Perm.append_left r h2).trans List.perm_middle
theorem a38 {R:α->α->Prop}{x:α}:∀ {rows:List (List α)},(∀ r∈rows,r.Pairwise R)->∀ r∈rmH rows x,r.Pairwise R
 | [],_,r,h=>by cases h
 | q :: rs,hp,r,h=>by
   unfold rmH at h
   by_cases e:q.head? = some x
   . rw[if_pos e] at h
     rcases List.mem_cons.mp h with rfl | h
     . exact(hp q (.head _)).sublist (List.tail_sublist q)
     exact hp r (.tail _ h)
   rw[if_neg e] at h
   rcases List.mem_cons.mp h with rfl | h
   . exact hp r (.head _)
   exact a38 (fun s hs=>hp s (.tail _ hs)) r h
theorem Oy {o:Option α}{c:Nat}:∀ {F:List α},F.Nodup->(F.map fun x=>if o=some x then c else 0).sum<=c
 | [],_=>by simp
 | y :: F,hn=>by
   obtain⟨h1,h2⟩:=List.nodup_cons.mp hn
   rw[List.map_cons,List.sum_cons]
   by_cases e:o=some y
   . have:(F.map fun x=>if o=some x then c else 0).sum=0:=by
      have hz:∀ x∈F,(if o=some x then c else 0)=0:=fun x hx=>if_neg (by rw[e];intro q;injection q with q;exact h1 (q ▸ hx))
      clear h2 hn h1
      induction F with
      | nil=>rfl
      | cons a F ih=>rw[List.map_cons,List.sum_cons,hz a (.head _),ih fun x hx=>hz x (.tail _ hx)]
     rw[if_pos e,this]
     omega
   rw[if_neg e]
   have:=Oy (o:=o) (c:=c) h2
   omega
theorem S9 {f g h:α->Nat}:∀ {F:List α},(∀ x∈F,f x<=g x+h x)->(F.map f).sum<=(F.map g).sum+(F.map h).sum
 | [],_=>by simp
 | x :: F,hl=>by
   have h1:=hl x (.head _)
   have h2:=S9 fun y hy=>hl y (.tail _ hy)
   simp only[List.map_cons,List.sum_cons]
   omega
theorem Lm {F:List α}(hn:F.Nodup):∀ rows:List (List α),(F.map (J8 rows)).sum<=rows.flatten.length
 | []=>by
   have:∀ F:List α,(F.map (J8 ([]:List (List α)))).sum=0:=fun F=>by
    induction F with
    | nil=>rfl
    | cons a F ih=>rw[List.map_cons,List.sum_cons,ih];rfl
   rw[this]
   omega
 | r :: rs=>by
   have h1:=Lm hn rs
   have h2:=Oy (o:=r.head?) (c:=r.length) hn
   have h3:=S9 (f:=J8 (r :: rs)) (g:=fun x=>if r.head? = some x then r.length else 0) (h:=J8 rs) (F:=F) fun x _=>by
    show(if r.head? = some x then r.length else J8 rs x)<=_
    by_cases e:r.head? = some x
    . rw[if_pos e,if_pos e];omega
    rw[if_neg e,if_neg e];omega
   rw[List.flatten_cons,List.length_append]
   omega
theorem Ny {f:α->Nat}{c:Nat}:∀ F:List α,(F.map f).sum*c=(F.map fun x=>f x*c).sum
 | []=>by simp
 | x :: F=>by rw[List.map_cons,List.sum_cons,List.map_cons,List.sum_cons,Nat.add_mul,Ny F]
theorem Tj {f g:α->Nat}:∀ {F:List α},(∀ x∈F,f x<=g x)->(F.map f).sum<=(F.map g).sum
 | [],_=>by simp
 | x :: F,hl=>by
   have h1:=hl x (.head _)
   have h2:=Tj fun y hy=>hl y (.tail _ hy)
   simp only[List.map_cons,List.sum_cons]
   omega
theorem P6:∀ {rows:List (List α)},rows.flatten=[]->Fa rows=1
 | [],_=>rfl
 | r :: rs,h=>by
   rw[List.flatten_cons,List.append_eq_nil_iff] at h
   rw[Dg,h.1,P6 h.2]
   rfl
theorem Mm {b:α->α->Bool}:∀(n:Nat) {L:List α} {rows:List (List α)},L.length=n->L.Nodup->rows.flatten.Perm L->(∀ r∈rows,r.Pairwise fun x y=>b x y=true)->cnt b L*Fa rows<=fac n
 | 0,L,rows,hl,hn,hp,hc=>by
   have:L=[]:=List.eq_nil_of_length_eq_zero hl
   subst this
   rw[P6 hp.eq_nil]
   exact Nat.le_refl _
 | n+1,L,rows,hl,hn,hp,hc=>by
   have hne:L≠[]:=fun e=>by subst e;cases hl
   rw[Ti hn hne,Ny]
   have step:∀ x∈frF b L,cnt b (B9 L x)*Fa rows<=J8 rows x*fac n:=fun x hx=>by
    obtain⟨hxL,hmin⟩:=mem_frF.mp hx
    have hex:∃ r∈rows,r.head? = some x:=by
     obtain ⟨r,hr,hxr⟩:=List.mem_flatten.mp (hp.mem_iff.mpr hxL)
     refine⟨r,hr,?_⟩
     cases r with
     | nil=>cases hxr
     | cons h t=>
       rcases List.mem_cons.mp hxr with rfl | hxt
       . rfl
       have h1:=(List.pairwise_cons.mp (hc _ hr)).1 x hxt
       have h2:=hmin h (hp.mem_iff.mp (List.mem_flatten.mpr ⟨_,hr,.head _⟩))
       rw[h1] at h2
       cases h2
    obtain⟨h1,h2⟩:=P0 hex
    have hpr:(rmH rows x).flatten.Perm (B9 L x):=List.Perm.cons_inv (a:=x) ((h2.symm.trans hp).trans (Hm hn hxL).symm)
    have ih:=Mm n (L:=B9 L x) (rows:=rmH rows x) (by have:=Dl hn hxL;omega) (Ch hn x) hpr (a38 hc)
    rw[h1,Nat.mul_left_comm]
    exact Nat.mul_le_mul (Nat.le_refl _) ih
   refine Nat.le_trans (Tj step) ?_
   rw[<- Ny]
   have hs:=Lm (F:=frF b L) (List.Nodup.sublist List.filter_sublist hn) rows
   rw[hp.length_eq,hl] at hs
   show _<=fac n*(n+1)
   rw[Nat.mul_comm (fac n)]
   exact Nat.mul_le_mul hs (Nat.le_refl _)
theorem Rx {f:α->Nat}{c:Nat}:∀ {A:List α},(∀ x∈A,c<=f x)->A.length*c<=(A.map f).sum
 | [],_=>by simp
 | x :: A,h=>by
   have h1:=h x (.head _)
   have h2:=Rx fun y hy=>h y (.tail _ hy)
   rw[List.map_cons,List.sum_cons,List.length_cons,Nat.succ_mul]
   omega
theorem Ot {b:α->α->Bool}:∀(m:Nat) {A B:List α},A.length=m->(A++B).Nodup->(∀ x∈A,∀ y∈A++B,b y x=false)->fac m*cnt b B<=cnt b (A++B)
 | 0,A,B,hl,hn,hf=>by
   have:A=[]:=List.eq_nil_of_length_eq_zero hl
   subst this
   show 1*_<=_
   rw[Nat.one_mul]
   exact Nat.le_refl _
 | m+1,A,B,hl,hn,hf=>by
   have hne:A++B≠[]:=fun e=>by
    rw[(List.append_eq_nil_iff.mp e).1] at hl
    cases hl
   rw[Ti hn hne]
   have hfr:frF b (A++B)=A++B.filter fun x=>!((A++B).any fun y=>b y x):=by
    unfold frF
    rw[List.filter_append]
    congr 1
    rw[List.filter_eq_self]
    intro x hx
    have:((A++B).any fun y=>b y x)=false:=by
     rw[List.any_eq_false]
     intro y hy
     rw[hf x hx y hy]
     exact Bool.false_ne_true
    rw[this]
    rfl
   rw[hfr,List.map_append,List.sum_append]
   obtain⟨hA,hB,hAB⟩:=List.nodup_append.mp hn
   have step:∀ x∈A,fac m*cnt b B<=cnt b (B9 (A++B) x):=fun x hx=>by
    have hxB:x∉B:=fun h=>hAB x hx x h rfl
    rw[Ge,Hf hxB]
    refine Ot m (by have:=Dl hA hx;omega) ?_ fun y hy z hz=>?_
    . rw[<- Hf hxB,<- Ge]
      exact Ch hn x
    refine hf y (mem_lessF.mp hy).1 z ?_
    rcases List.mem_append.mp hz with hz | hz
    . exact List.mem_append_left _ (mem_lessF.mp hz).1
    exact List.mem_append_right _ hz
   have:=Rx step
   rw[hl] at this
   have e:fac (m+1)*cnt b B=(m+1)*(fac m*cnt b B):=by
    show fac m*(m+1)*_=_
    rw[Nat.mul_comm (fac m),Nat.mul_assoc]
   rw[e]
   omega
theorem Kb (p:α->Bool):∀ l:List α,((l.filter fun x=>!p x)++l.filter p).Perm l
 | [] => .nil
 | a :: l=>by
   have ih:=Kb p l
   cases h:p a with
   | true=>
     rw[List.filter_cons_of_neg (by simp[h]),List.filter_cons_of_pos h]
     exact List.perm_middle.trans (.cons a ih)
   | false=>
     rw[List.filter_cons_of_pos (by simp[h]),List.filter_cons_of_neg (by simp[h])]
     exact .cons a ih
end
theorem Q1 {ps:List (Str×Str)}{l:List Str}{Ls:List (List Str)}(h:Lays ps l Ls)(hn:l.Nodup):Fa Ls<=cnt (Cc ps) l:=by
 induction h with
 | nil=>exact Nat.le_refl _
 | @cons l Ls ne _ ih=>
   have hp:(N2 ps l++Os ps l).Perm l:=Kb (fun x=>l.any fun y=>Cc ps y x) l
   have hn2:(N2 ps l++Os ps l).Nodup:=hp.nodup_iff.mpr hn
   have h1:=ih (List.Nodup.sublist List.filter_sublist hn)
   have h2:=Ot (b:=Cc ps) _ (A:=N2 ps l) (B:=Os ps l) rfl hn2 fun x hx y hy=>by
    have hx:x∈frF (Cc ps) l:=hx
    exact(mem_frF.mp hx).2 y (hp.mem_iff.mp hy)
   rw[Us hn hp] at h2
   rw[Dg]
   exact Nat.le_trans (Nat.mul_le_mul (Nat.le_refl _) h1) h2
end L2
namespace K17
open PySem L2 PySem.Spec PyProof.Rows
def top (i:Nat):Stmt:=PySem.Challenge.pw_halforder_k17_by_layers_and_covers.main.body.getD i (.Pass ⟨0,0,0,0⟩)
abbrev Bp:Stmt:=top 6
theorem sc_behind_each:Ak ["half","names","reach","saying","middle","name"] ["half"] (A4 Bp):=⟨rfl,rfl,rfl,by decide +kernel,rfl,by decide +kernel,by decide +kernel⟩
abbrev Db:Stmt:=top 8
theorem O1:Ak ["names","reach","thing"] ["names","reach","thing"] (A4 Db):=⟨rfl,rfl,rfl,by decide +kernel,rfl,by decide +kernel,by decide +kernel⟩
abbrev Dd:Stmt:=top 9
theorem sc_is_cover:Ak ["half","thing","reach","standing","chain"] ["half","thing"] (A4 Dd):=⟨rfl,rfl,rfl,by decide +kernel,rfl,by decide +kernel,by decide +kernel⟩
abbrev B6:Stmt:=top 11
theorem G7:Ak ["reach","name","names"] ["reach","name","names"] (A4 B6):=⟨rfl,rfl,rfl,by decide +kernel,rfl,by decide +kernel,by decide +kernel⟩
abbrev Ex:Stmt:=top 12
theorem sc_layers:Ak ["half","reach","left","found","layer"] ["half"] (A4 Ex):=⟨rfl,rfl,rfl,by decide +kernel,rfl,by decide +kernel,by decide +kernel⟩
abbrev Ds:Stmt:=top 14
theorem sc_product:Ak ["numbers","found","number"] ["numbers"] (A4 Ds):=⟨rfl,rfl,rfl,by decide +kernel,rfl,by decide +kernel,by decide +kernel⟩
abbrev Bb:Stmt:=top 15
theorem Gq:Ak ["number"] ["number"] (A4 Bb):=⟨rfl,rfl,rfl,by decide +kernel,rfl,by decide +kernel,by decide +kernel⟩
abbrev Cj:Stmt:=top 16
theorem Mw:Ak ["half"] ["half"] (A4 Cj):=⟨rfl,rfl,rfl,by decide +kernel,rfl,by decide +kernel,by decide +kernel⟩
abbrev Cg:Stmt:=top 17
theorem Iw:Ak ["half","chains"] ["half","chains"] (A4 Cg):=⟨rfl,rfl,rfl,by decide +kernel,rfl,by decide +kernel,by decide +kernel⟩
abbrev Ce:Stmt:=top 19
theorem M9:Ak ["_law_script"] ["_law_script"] (A4 Ce):=⟨rfl,rfl,rfl,by decide +kernel,rfl,by decide +kernel,by decide +kernel⟩
abbrev Cn:Stmt:=top 20
theorem sc__law_draw:Ak ["_law_feed_here","_law_many","_law_cell","_law_mixed","_law_found"] ["_law_feed_here","_law_many"] (A4 Cn):=⟨rfl,rfl,rfl,by decide +kernel,rfl,by decide +kernel,by decide +kernel⟩
abbrev C3:Stmt:=top 21
theorem sc__law_names:Ak ["_law_feed_here","_law_many","_law_letters","_law_start","_law_way","_law_size","_law_at","_law_names_here","_law_head","_law_tail","_law_turn"] ["_law_feed_here","_law_many"] (A4 C3):=⟨rfl,rfl,rfl,by decide +kernel,rfl,by decide +kernel,by decide +kernel⟩
abbrev Be:Stmt:=top 22
theorem sc__law_shuffled:Ak ["_law_feed_here","_law_some","_law_left","_law_found","_law_k"] ["_law_feed_here","_law_some"] (A4 Be):=⟨rfl,rfl,rfl,by decide +kernel,rfl,by decide +kernel,by decide +kernel⟩
abbrev C4:Stmt:=top 23
theorem sc__law_pairs:Ak ["_law_feed_here","_law_line","_law_many","_law_way","_law_found","_law_k","_law_at","_law_cut","_law_one"] ["_law_feed_here","_law_line"] (A4 C4):=⟨rfl,rfl,rfl,by decide +kernel,rfl,by decide +kernel,by decide +kernel⟩
abbrev Bg:Stmt:=top 24
theorem sc__law_sayings:Ak ["_law_feed_here","_law_line","_law_found","_law_pair","_law_turn"] ["_law_feed_here","_law_line"] (A4 Bg):=⟨rfl,rfl,rfl,by decide +kernel,rfl,by decide +kernel,by decide +kernel⟩
abbrev Co:Stmt:=top 25
theorem sc__law_half:Ak ["_law_feed_here","_law_most","_law_names_here"] ["_law_feed_here","_law_most"] (A4 Co):=⟨rfl,rfl,rfl,by decide +kernel,rfl,by decide +kernel,by decide +kernel⟩
abbrev Bq:Stmt:=top 26
theorem sc__law_behind:Ak ["_law_half_here","_law_name","_law_found","_law_line","_law_here","_law_one","_law_other"] ["_law_half_here","_law_name"] (A4 Bq):=⟨rfl,rfl,rfl,by decide +kernel,rfl,by decide +kernel,by decide +kernel⟩
abbrev C2:Stmt:=top 27
theorem K5:Ak ["_law_half_here"] ["_law_half_here"] (A4 C2):=⟨rfl,rfl,rfl,by decide +kernel,rfl,by decide +kernel,by decide +kernel⟩
abbrev Bn:Stmt:=top 28
theorem sc__law_orders:Ak ["_law_half_here","_law_table_here","_law_rows","_law_turn","_law_longer","_law_row","_law_left","_law_name"] ["_law_half_here"] (A4 Bn):=⟨rfl,rfl,rfl,by decide +kernel,rfl,by decide +kernel,by decide +kernel⟩
abbrev Da:Stmt:=top 29
theorem sc__law_odd:Ak ["_law_feed_here","_law_part","_law_some"] ["_law_feed_here","_law_part"] (A4 Da):=⟨rfl,rfl,rfl,by decide +kernel,rfl,by decide +kernel,by decide +kernel⟩
abbrev Bx:Stmt:=top 30
theorem sc__law_bent:Ak ["_law_feed_here","_law_part","_law_deep","_law_at"] ["_law_feed_here","_law_part","_law_deep"] (A4 Bx):=⟨rfl,rfl,rfl,by decide +kernel,rfl,by decide +kernel,by decide +kernel⟩
abbrev Bo:Stmt:=top 31
theorem sc__law_layers:Ak ["_law_half_here","_law_table_here","_law_left","_law_found","_law_ahead","_law_name"] ["_law_half_here"] (A4 Bo):=⟨rfl,rfl,rfl,by decide +kernel,rfl,by decide +kernel,by decide +kernel⟩
abbrev Bd:Stmt:=top 32
theorem Gn:Ak ["_law_half_here","_law_thing"] ["_law_half_here","_law_thing"] (A4 Bd):=⟨rfl,rfl,rfl,by decide +kernel,rfl,by decide +kernel,by decide +kernel⟩
abbrev Ba:Stmt:=top 33
theorem sc__law_is_cover:Ak ["_law_half_here","_law_thing","_law_met","_law_chain"] ["_law_half_here","_law_thing"] (A4 Ba):=⟨rfl,rfl,rfl,by decide +kernel,rfl,by decide +kernel,by decide +kernel⟩
abbrev B7:Stmt:=top 34
theorem Gd:Ak ["_law_thing"] ["_law_thing"] (A4 B7):=⟨rfl,rfl,rfl,by decide +kernel,rfl,by decide +kernel,by decide +kernel⟩
abbrev Bc:Stmt:=top 35
theorem sc__law_shuffles:Ak ["_law_many","_law_found","_law_k"] ["_law_many"] (A4 Bc):=⟨rfl,rfl,rfl,by decide +kernel,rfl,by decide +kernel,by decide +kernel⟩
abbrev Ay:Stmt:=top 36
theorem sc__law_some_cover:Ak ["_law_feed_here","_law_half_here","_law_found","_law_layer","_law_name","_law_able","_law_at"] ["_law_feed_here","_law_half_here"] (A4 Ay):=⟨rfl,rfl,rfl,by decide +kernel,rfl,by decide +kernel,by decide +kernel⟩
abbrev Ck:Stmt:=top 37
theorem sc__law_told:Ak ["_law_half_here","_law_thing","_law_found","e"] ["_law_half_here","_law_thing"] (A4 Ck):=⟨rfl,rfl,rfl,by decide +kernel,rfl,by decide +kernel,by decide +kernel⟩
abbrev D9:Stmt:=top 38
theorem sc__law_due:Ak ["_law_half_here","_law_thing","_law_found","_law_chain"] ["_law_half_here","_law_thing"] (A4 D9):=⟨rfl,rfl,rfl,by decide +kernel,rfl,by decide +kernel,by decide +kernel⟩
abbrev L4:Stmt:=top 39
theorem sc_law:Ak ["_law_script","_law_feed_here","_law_k","_law_half_here","_law_due_here","_law_layer","_law_chains","_law_some","_law_thing","_law_kept","_law_many"] ["_law_script"] (A4 L4):=⟨rfl,rfl,rfl,by decide +kernel,rfl,by decide +kernel,by decide +kernel⟩
structure Fb (mg:Str->Option Value):Prop where
 b_ValueError:mg "ValueError" = none
 b_all:mg "all" = none
 b_any:mg "any" = none
 b_bool:mg "bool" = none
 b_dict:mg "dict" = none
 b_int:mg "int" = none
 b_isinstance:mg "isinstance" = none
 b_len:mg "len" = none
 b_list:mg "list" = none
 b_range:mg "range" = none
 b_repr:mg "repr" = none
 b_sorted:mg "sorted" = none
 b_str:mg "str" = none
 b_tuple:mg "tuple" = none
 b_zip:mg "zip" = none
structure E8 (K:PySem.W.Frag)(mg:Str->Option Value)(C B:Addr):Prop where
 xc:XC K C
 gl:mg "HalfError" = some (.ref C)
 mk0:Zl K mg C "HalfError"
structure G8 (K:PySem.W.Frag)(mg:Str->Option Value)(C B:Addr):Prop where
 xc:XC K C
 gl:mg "NoName" = some (.ref C)
 mr:Km K C B=true
 n_name:a64 K C "name"
structure Fh (K:PySem.W.Frag)(mg:Str->Option Value)(C B:Addr):Prop where
 xc:XC K C
 gl:mg "NoCover" = some (.ref C)
 mr:Km K C B=true
 mk0:Zl K mg C "NoCover"
structure Hq (K:PySem.W.Frag)(mg:Str->Option Value)(C B:Addr):Prop where
 xc:XC K C
 gl:mg "NoOrder" = some (.ref C)
 mr:Km K C B=true
 mk0:Zl K mg C "NoOrder"
section
variable {P:Program}{w:World}{K:PySem.W.Frag}{mg:Str->Option Value}{base:Heap}
local macro_rules | `(tactic| walk_at "lk") => L2.mRows "as | Same.lk e h: e=as h=lk | ExtBut.lk e h n: e=as n=ne h=lk | no"
local macro_rules | `(tactic| walk_at "ne") => L2.mRows "as | Ne.symm q: q=as | ne_of_none h g: g=as h=lk | ne_none2 h g: g=as h=lk | ne_of h g z: h=as g=as z=nc | no"
local macro_rules | `(tactic| walk_at "nc") => `(tactic| (intro z; cases z))
local macro_rules | `(tactic| walk_at "fr") => L2.mRows "ExtBut.refl | ExtBut.trans a b: b=as a=fr | ExtBut.same a b: b=as a=fr | ExtBut.off a q b: b=as q=as a=fr | no"
local macro_rules | `(tactic| walk_at "sm") => L2.mRows "same_refl | Same.trans a b: b=as a=sm | Same.off a q b: b=as q=as a=sm | no"
local macro_rules | `(tactic| walk_at "fd") => L2.mRows "as | Feed.same h e: e=as h=fd | Feed.off h e q f: e=as q=as f=as h=fd | no"
local macro_rules | `(tactic| walk_at "fz1") => L2.mRows "Same.fz b: b=as | ExtBut.fzL b l: b=as l=lk | ExtBut.fzD b l: b=as l=lk | Feed.fz f b: b=as f=fd | no"
local macro_rules | `(tactic| walk_at "fz") => L2.mRows "fz_refl | Fz.trans a x: x=fz1 a=fz | no"
local macro_rules | `(tactic| walk_at "sd") => `(tactic| first | omega | (show (0 : Int) < _; omega) | (unfold Yd; omega) | (unfold CMul; omega) | (unfold ab5; omega) | (unfold ab5; decide) | (refine ⟨?_, ?_⟩ <;> omega) | decide)
local macro_rules | `(tactic| walk_at "sz") => `(tactic| first | decide | exact A6 (by omega) | (rw [sizeLine_eq]; omega))
local macro_rules | `(tactic| walk_at "kv") => `(tactic| rfl)
local macro_rules | `(tactic| walk_at "rq1") => do
 let a <- L2.mAlts "i_asg i_gname i_ret i_drop i_if i_op i_un i_call i_cb i_cons i_nil i_c i_put i_tTest i_tB i_not i_and i_or i_tup i_lst i_next i_sl i_noPart i_part i_int i_for i_rng1 i_rng2 i_comp i_itS i_iany i_ienum i_ienumL i_irev i_chain i_andV i_orV i_notV i_dget1 i_tAt i_sSt i_tMe i_tMk i_tTru i_dget2 i_iDT i_bmT i_rU i_rI0 i_addI i_bl i_bm i_bm0 i_reprKB i_isN i_isNotN i_isB i_isNotB i_true i_tyS i_find i_intB i_inS i_pair i_pair0 iteR iteNR iteNbb itebb iteT iteF iteNT iteNF"
 let b <- L2.mRows "i_var w _: w=kv | i_rI w _: w=sd | i_mulBI w _: w=sd | i_tyLm w _: w=lk | i_ixD w v _: w=lk v=kv | i_eqS w _: w=kv | i_neS w _: w=kv | i_slS w _: w=sz | i_addS w _: w=sz | i_lenS w _: w=sz | i_lenL w _: w=lk | i_lenT w _: w=lk | i_cutN w _: w=ar"
 let c <- L2.mAltG "i_seqAG i_seqDG i_seqPG"
 `(tactic| first | $c:tactic | $a:tactic | $b:tactic)
local macro_rules | `(tactic| walk_at "rd1") => `(tactic| first | with_reducible refine a06 fun N hN => ?_ | walk_at "rq1")
local macro_rules | `(tactic| walk_at "rq") => `(tactic| repeat (walk_at "rq1"))
local macro_rules | `(tactic| walk_at "rd") => `(tactic| repeat (walk_at "rd1"))
def D3 (l:Addr)(a t u:Int):List (Key×V):=[(Sum.inr "cells",.ref l),(Sum.inr "at",.int a),(Sum.inr "left",.int t),(Sum.inr "turn",.int u)]
def Feed (H:Hp)(d l:Addr):Prop:=∃(a t u:Int) (ns:List Int),H d=some (.dK (D3 l a t u))/\H l=some (.lst (ns.map V.int))/\0<ns.length/\ns.length<=64
def Ep (K:PySem.W.Frag):Sp:=fun vs H Q _=>∃(a:Addr) (ns:List Int),vs=[.ref a]/\SqL K H a (ns.map V.int)/\ns.length<=63/\∀ d l H',H d=none->H l=none->Same H H'->Feed H' d l->Q (.ref d) H'
def Ar (K:PySem.W.Frag):Sp:=fun vs H Q _=>∃ d l n,vs=[.ref d,.int n]/\Feed H d l/\0<n/\n<1073741824/\∀ r H',0<=r->r<n->ExtBut d H H'->Feed H' d l->Q (.int r) H'
theorem V2 {l:Addr}{a t u:Int}:Gz (D3 l a t u) (Sum.inr "cells":Key)=some (.ref l):=by rfl
theorem ab3 {l:Addr}{a t u:Int}:Gz (D3 l a t u) (Sum.inr "at":Key)=some (.int a):=by rfl
theorem X9 {l:Addr}{a t u:Int}:Gz (D3 l a t u) (Sum.inr "left":Key)=some (.int t):=by rfl
theorem Y4 {l:Addr}{a t u:Int}:Gz (D3 l a t u) (Sum.inr "turn":Key)=some (.int u):=by rfl
local macro_rules | `(tactic| walk_at "kv") => `(tactic| first | exact V2 | exact ab3 | exact X9 | exact Y4 | rfl)
theorem Uz {l:Addr}{a t u x:Int}:Go (D3 l a t u) (Sum.inr "turn":Key) (.int x)=D3 l a t x:=by rfl
theorem a58 {l:Addr}{a t u x:Int}:Go (D3 l a t u) (Sum.inr "at":Key) (.int x)=D3 l x t u:=by rfl
theorem Kg {l:Addr}{a t u x:Int}:Go (D3 l a t u) (Sum.inr "left":Key) (.int x)=D3 l a x u:=by rfl
theorem Feed.same {H H':Hp}{d l:Addr}(h:Feed H d l)(e:Same H H'):Feed H' d l:=let ⟨a,t,u,ns,h1,h2,h3,h4⟩:=h;⟨a,t,u,ns,e _ _ h1,e _ _ h2,h3,h4⟩
theorem Feed.put {H H':Hp}{d l p:Addr}(h:Feed H d l)(e:ExtBut p H H')(hd:d≠p)(hl:l≠p):Feed H' d l:=let ⟨a,t,u,ns,h1,h2,h3,h4⟩:=h;⟨a,t,u,ns,e _ _ hd h1,e _ _ hl h2,h3,h4⟩
theorem Feed.nd {H:Hp}{d l p:Addr}(h:Feed H d l)(hp:H p=none):d≠p:=let ⟨_,_,_,_,h1,_⟩:=h;ne_of_none h1 hp
theorem Feed.nl {H:Hp}{d l p:Addr}(h:Feed H d l)(hp:H p=none):l≠p:=let ⟨_,_,_,_,_,h2,_⟩:=h;ne_of_none h2 hp
theorem Feed.lst {H:Hp} {d l b:Addr} {xs:List V} (h:Feed H d l) (hb:H b=some (.lst xs)):b≠d:=let ⟨_,_,_,_,h1,_⟩:=h;ne_of hb h1 (by intro z;cases z)
theorem Feed.free {H H':Hp}{d l p:Addr}(h:Feed H' d l)(e:ExtBut d H H')(hp:H' p=none):H p=none:=by
 cases hq:H p with
 | none=>rfl
 | some o=>
   obtain⟨_,_,_,_,h1,_⟩:=h
   have n:p≠d:=fun q=>by subst q;rw[hp] at h1;cases h1
   rw[e p o n hq] at hp
   cases hp
theorem Feed.fz {H H':Hp}{d l:Addr}(h:Feed H d l)(e:ExtBut d H H'):Fz H H':=let ⟨_,_,_,_,h1,_⟩:=h;e.fzD h1
theorem Feed.off {H H1 H2:Hp}{d l q:Addr}(h:Feed H1 d l)(e:ExtBut q H1 H2)(hq:H q=none)(hF:Feed H d l):Feed H2 d l:=h.put e (hF.nd hq) (hF.nl hq)
theorem Ll {f:Addr}{fd:FuncData}(F:Fun K "_law_draw" "_law_draw" Cn f fd)(T:Fb mg):FnOk P w K mg base CX0 1 f fd ["_law_feed_here","_law_many"] (Ar K):=by
 refine F.ok sc__law_draw (fun vs H Q E h=>?_) (fun cdv A outer s H vs Q E hr h=>?_)
 . obtain⟨d,l,n,rfl,_⟩:=h
   rfl
 obtain⟨d,l,n,rfl,⟨a,t,u,ns,hd,hl,h0,h64⟩,hn,hn2,k⟩:=h
 have hu:=C0 hr
 have hq:=By hr
 have hld:l≠d:=ne_of hl hd (by intro z;cases z)
 with_reducible refine⟨_,(A2 (Ig hu (pv 0) Al (Ae (Ac (K:=K)) (Ap (A8 (K:=K) hu) (pv 0) Al (by ac_rfl)) A3) (by ac_nf))
  (A2 (C1 (Ag (Bt (K:=K) hq) (Ap (A8 (K:=K) hu) (pv 0) Al (by ac_rfl)) A3 (Aq _)) (A2 (Aa (i:=2) sc__law_draw.nd (by ac_nf) (by eq_refl) (Ap (A8 (K:=K) hu) (Ap (A8 (K:=K) hu) (pv 0) Al (by ac_rfl)) (Ae Fc (Ap (A8 (K:=K) hu) (pv 0) Al (by ac_rfl)) (A7 (Ah (K:=K)) (by ac_nf) T.b_len PyProof.Rows.Boot.«len» (A0 (Ap (A8 (K:=K) hu) (pv 0) Al (by ac_rfl)) A1))) (by ac_rfl)))
  (A2 (Ig hu (pv 0) Al (Ae (Ac (K:=K)) (Ap (A8 (K:=K) hu) (pv 0) Al (by ac_rfl)) A3) (by ac_nf))
  (A2 (C1 (Ag Wt (pv 2) (Ae Vy A3 A3) (Aq _)) (A2 (Aa (i:=3) sc__law_draw.nd (by ac_nf) (by eq_refl) (Ae Fc (Ae C9 (Ae (Ac (K:=K)) (Ae Fc (pv 2) A3) (Ae C9 A3 (Ap (A8 (K:=K) hu) (pv 0) Al (by ac_rfl)))) A3) A3))
  (A2 (Aa (i:=3) sc__law_draw.nd (by ac_nf) (by eq_refl) (Ae Fc (Ae C9 (Ae (Ac (K:=K)) (Ae E3 (pv 3) A3) (Ae C9 A3 (Ap (A8 (K:=K) hu) (pv 0) Al (by ac_rfl)))) A3) A3))
  (A5 (Am (Ae Fc (Ae E3 (pv 3) A3) (pv 1)))))) An)
  (A5 (Ig hu (pv 0) Al (pv 2) (by ac_nf)))))) An)
  (A2 (Aa (i:=4) sc__law_draw.nd (by ac_nf) (by eq_refl) (Ae Fc (Ap (A8 (K:=K) hu) (pv 0) Al (by ac_rfl)) (pv 1)))
  (A2 (Ig hu (pv 0) Al (Ae E3 (Ap (A8 (K:=K) hu) (pv 0) Al (by ac_rfl)) (pv 1)) (by ac_nf))
  (A5 (Am (pv 4))))))),?_⟩
 walk_at "rd"
 refine Jh hd (by show 4<1000;decide) fun H1 e1 hd1=>?_
 rw[Uz] at hd1
 have hl1:H1 l=some (.lst (ns.map V.int)):=e1 _ _ hld hl
 walk_at "rd"
 refine ab4 (fun ht=>?_) (fun ht=>?_)
 . walk_at "rd"
   have hlen:(0:Int)<((ns.map V.int).length:Nat):=by rw[List.length_map];omega
   refine i_rI hlen ?_
   have hm0:0<=a % (((ns.map V.int).length:Nat):Int):=Int.emod_nonneg _ (by omega)
   have hm1:=Int.emod_lt_of_pos a hlen
   obtain⟨c,hc⟩:∃ c,(ns.map V.int)[(a % (((ns.map V.int).length:Nat):Int)).toNat]? = some (V.int c):=by
    refine⟨ns[(a % (((ns.map V.int).length:Nat):Int)).toNat]'(by rw[List.length_map] at *;omega),?_⟩
    rw[List.getElem?_map,List.getElem?_eq_getElem]
    rfl
   refine Fo hl1 (by
    have:=Dr hc
    rwa[Int.toNat_of_nonneg hm0] at this) ?_
   walk_at "rd"
   refine Jh hd1 (by show 4<1000;decide) fun H2 e2 hd2=>?_
   rw[a58] at hd2
   have hl2:H2 l=some (.lst (ns.map V.int)):=e2 _ _ hld hl1
   walk_at "rd"
   refine ab4 (fun hc1=>?_) (fun hc1=>?_)
   . walk_at "rd"
     exact k _ H2 (Int.emod_nonneg _ (by omega)) (Int.emod_lt_of_pos _ hn) (e1.trans e2) ⟨_,_,_,ns,hd2,hl2,h0,h64⟩
   walk_at "rd"
   refine Jh hd2 (by show 4<1000;decide) fun H3 e3 hd3=>?_
   rw[Kg] at hd3
   have hl3:H3 l=some (.lst (ns.map V.int)):=e3 _ _ hld hl2
   walk_at "rd"
   refine Jh hd3 (by show 4<1000;decide) fun H4 e4 hd4=>?_
   rw[Kg] at hd4
   have hl4:H4 l=some (.lst (ns.map V.int)):=e4 _ _ hld hl3
   walk_at "rd"
   exact k _ H4 (Int.emod_nonneg _ (by omega)) (Int.emod_lt_of_pos _ hn) (((e1.trans e2).trans e3).trans e4) ⟨_,_,_,ns,hd4,hl4,h0,h64⟩
 walk_at "rd"
 refine Jh hd1 (by show 4<1000;decide) fun H2 e2 hd2=>?_
 rw[Kg] at hd2
 have hl2:H2 l=some (.lst (ns.map V.int)):=e2 _ _ hld hl1
 walk_at "rd"
 exact k _ H2 (Int.emod_nonneg _ (by omega)) (Int.emod_lt_of_pos _ hn) (e1.trans e2) ⟨_,_,_,ns,hd2,hl2,h0,h64⟩
theorem Ql (ns:List Int)(h:ns.length<=63):∃ ms:List Int,J5 (ns.map V.int) none (some 63)++(List.replicate (if(PyData.list (ns.map PyData.int)).eqv (PyData.list (([]:List Int).map PyData.int))=true then(1:Int) else 0).toNat [V.int 0]).flatten=ms.map V.int/\0<ms.length/\ms.length<=64:=by
 have hc:J5 (ns.map V.int) none (some 63)=ns.map V.int:=by
  unfold J5
  have e:HT.sIx (ns.map V.int).length (ns.map V.int).length (some 63)=(ns.map V.int).length:=by
   have:=HT.sIx_nat (ns.map V.int).length (ns.map V.int).length 63
   rw[List.length_map] at *
   rw[show((63:Nat):Int)=(63:Int) from rfl] at this
   rw[this]
   omega
  rw[HT.sIx_none,e,List.drop_zero,Nat.sub_zero,List.take_length]
 rw[hc]
 cases ns with
 | nil=>exact⟨[0],by simp[PyData.eqv,PyData.eqvAll],by decide,by decide⟩
 | cons n r=>exact⟨n :: r,by simp[PyData.eqv,PyData.eqvAll],by simp,by omega⟩
theorem Lu {f:Addr}{fd:FuncData}(F:Fun K "_law_feed" "_law_feed" Ce f fd)(T:Fb mg):FnOk P w K mg base CX0 1 f fd ["_law_script"] (Ep K):=by
 refine F.ok M9 (fun vs H Q E h=>?_) (fun cdv A outer s H vs Q E hr h=>?_)
 . obtain⟨a,ns,rfl,_⟩:=h
   rfl
 obtain⟨a,ns,rfl,hS,h63,k⟩:=h
 have hu:=C0 hr
 have hq:=By hr
 with_reducible refine⟨_,(A5 (Am (X8 (Hd Al (Ae (Ac (K:=K)) (Ao (Dt (K:=K)) (by ac_nf) T.b_list PyProof.Rows.Boot.«list» (A0 (Au (K4 (K:=K)) (pv 0) Bz (B3 A3)) A1)) (Ae C9 (Az (A0 A3 A1)) (Ao My (by ac_nf) T.b_int PyProof.Rows.Boot.«int» (A0 (D0 (Bt (K:=K) hq) (pv 0) (Az A1) (Aq _)) A1)))) (Hd Al A3 (Hd Al A3 (Hd Al A3 Y8)))) (by ac_nf) (by ac_nf) (by decide) (by decide)))),?_⟩
 walk_at "rd"
 refine Zv fun p H1 hp e1 hp1=>?_
 walk_at "rd"
 have hS1:=e1.seq hS
 refine Np hS1 fun q H2 hq2 e2 hq2'=>?_
 walk_at "rd"
 refine Xd (SqL.of hq2') fun r H3 hr3 e3 hr3'=>?_
 walk_at "rd"
 refine B2 (by decide) fun z H4 hz4 e4 hz4'=>?_
 walk_at "rd"
 refine B2 (by decide) fun y H5 hy5 e5 hy5'=>?_
 refine Ur (Hg (e5.seq (e4.seq (e3.seq (e2.seq hS1))))) (Hg (ns:=[]) (SqL.of hy5')) (PySem.W.ke_shaped_ints ns) (PySem.W.ke_shaped_ints []) ?_
 walk_at "rd"
 refine Ya (xs:=[V.int 0]) (by walk_at "lk") ?_ ?_ fun x H6 hx6 e6 hx6'=>?_
 . split<;>omega
 . split<;>decide
 refine Js (xs:=J5 (ns.map V.int) none (some 63)) (by walk_at "lk") hx6' ?_ fun v H7 hv7 e7 hv7'=>?_
 . obtain⟨ms,e,h1,h2⟩:=Ql ns h63
   rw[<- List.length_append,e,List.length_map]
   exact Nat.le_trans h2 (by decide)
 walk_at "rd"
 refine Wr [(Sum.inr "cells",.ref v),(Sum.inr "at",.int 0),(Sum.inr "left",.int 0),(Sum.inr "turn",.int 0)] (by walk_at "lk") (by rfl) (by show 4<=15;decide) fun H8 e8 h8=>?_
 have en:H8 p=some (.dK (D3 v 0 0 0)):=h8
 refine k p v H8 hp ?_ ?_ ⟨0,0,0,?_⟩
 . exact e1.free (e2.free (e3.free (e4.free (e5.free (e6.free hv7)))))
 . exact fun b o hb=>e8 b o (ne_of_none hb hp) (e7 _ _ (e6 _ _ (e5 _ _ (e4 _ _ (e3 _ _ (e2 _ _ (e1 _ _ hb)))))))
 obtain⟨ms,e,h1,h2⟩:=Ql ns h63
 rw[e] at hv7'
 exact⟨ms,en,by walk_at "lk",h1,h2⟩
def E5 (K:PySem.W.Frag):Sp:=fun vs H Q _=>∃ d l n,vs=[.ref d,.int n]/\Feed H d l/\0<=n/\n<=10/\∀ p ns H',H p=none->ExtBut d H H'->Feed H' d l->H' p=some (.lst (ns.map V.str))->Names ns->ns.length=n.toNat->Q (.ref p) H'
def MN (H:Hp)(d l:Addr)(n st way sz at':Int):L2.St->Hp->Prop:=fun σ' H'=>∃ p ns x8 x9,σ'=[some (V.ref d),some (.int n),some (.str LL),some (.int st),some (.int way),some (.int (1+sz)),some (.int at'),some (.ref p),x8,x9,none]/\H p=none/\ExtBut d H H'/\Feed H' d l/\H' p=some (.lst (ns.map V.str))/\Names ns/\ns.length=10
theorem K9 {f:Addr}{fd:FuncData}(F:Fun K "_law_names" "_law_names" C3 f fd)(T:Fb mg)(c__law_draw:Fnd P w K mg base 1 "_law_draw" ["_law_feed_here","_law_many"] (Ar K)):FnOk P w K mg base CX0 2 f fd ["_law_feed_here","_law_many"] (E5 K):=by
 refine F.ok sc__law_names (fun vs H Q E h=>?_) (fun cdv A outer s H vs Q E hr h=>?_)
 . obtain⟨d,l,n,rfl,_⟩:=h
   rfl
 obtain⟨d,l,n,rfl,hF,hn0,hn1,k⟩:=h
 have hu:=C0 hr
 have hq:=By hr
 with_reducible refine⟨_,(A2 (Aa (i:=2) sc__law_names.nd (by ac_nf) (by with_unfolding_all exact Or.inr rfl) (Ae C9 Al A3))
  (A2 (Aa (i:=3) sc__law_names.nd (by ac_nf) (by with_unfolding_all exact Or.inr rfl) (Ai c__law_draw (hr.mono (by decide)) (by ac_nf) (A0 (pv 0) (A0 A3 A1))))
  (A2 (Aa (i:=4) sc__law_names.nd (by ac_nf) (by eq_refl) (Ai c__law_draw (hr.mono (by decide)) (by ac_nf) (A0 (pv 0) (A0 A3 A1))))
  (A2 (Aa (i:=5) sc__law_names.nd (by ac_nf) (by eq_refl) (Ae (Ac (K:=K)) A3 (Ai c__law_draw (hr.mono (by decide)) (by ac_nf) (A0 (pv 0) (A0 A3 A1)))))
  (A2 (Aa (i:=6) sc__law_names.nd (by ac_nf) (by eq_refl) (Ai c__law_draw (hr.mono (by decide)) (by ac_nf) (A0 (pv 0) (A0 (pv 5) A1))))
  (A2 (Aa (i:=7) sc__law_names.nd (by ac_nf) (by eq_refl) (Az (A0 Al (A0 Al (A0 Al (A0 Al (A0 Al (A0 Al (A0 Al (A0 Al (A0 Al (A0 Al A1))))))))))))
  (A2 (C1 (Ag (Bt (K:=K) hq) (pv 4) A3 (Aq _)) (A5 (Aa (i:=7) sc__law_names.nd (by ac_nf) (by eq_refl) (Ae (Ac (K:=K)) (Bh ["_law_k"] ["_law_letters","_law_start"] [2,3] (by ac_nf) (by ac_nf) (by ac_nf) (Bj (by ac_nf) T.b_range (A0 A3 A1)) (fun _ _ _ _=>(Ab (i:=0) (by with_unfolding_all (show(["_law_k","_law_letters","_law_start"]:List Str).Nodup;decide +kernel)) (by ac_nf) (by eq_refl))) (Av (by decide)) (fun _ _ _ _=>Br) (fun _ _ _ _=>(Au (K4 (K:=K)) (pv 1) (B3 (pv 2)) (B3 (Ae (Ac (K:=K)) (Ae (Ac (K:=K)) (pv 2) A3) (pv 0)))))) (Az (A0 (Ap (A8 (K:=K) hu) (pv 2) (Ae (Ac (K:=K)) (pv 3) A3) (by ac_rfl)) (A0 (Ap (A8 (K:=K) hu) (pv 2) (Ae (Ac (K:=K)) (pv 3) A3) (by ac_rfl)) A1)))))) An)
  (A2 (C1 (Ag (Bt (K:=K) hq) (pv 4) A3 (Aq _)) (A2 (Aa (i:=8) sc__law_names.nd (by ac_nf) (by with_unfolding_all exact Or.inr rfl) (Au (K4 (K:=K)) (pv 2) (B3 (pv 3)) (B3 (Ae (Ac (K:=K)) (pv 3) (pv 6)))))
  (A2 (Aa (i:=9) sc__law_names.nd (by ac_nf) (by with_unfolding_all exact Or.inr rfl) (Au (K4 (K:=K)) (pv 2) (B3 (Ae (Ac (K:=K)) (Ae (Ac (K:=K)) (pv 3) (pv 6)) A3)) (B3 (Ae (Ac (K:=K)) (pv 3) (pv 5)))))
  (A5 (Cm (i:=7) ["_law_k"] ["_law_head","_law_letters","_law_start","_law_tail"] [8,2,3,9] (by ac_nf) (by ac_nf) (by ac_nf) sc__law_names.nd (by ac_nf) (by ac_nf) (Bj (by ac_nf) T.b_range (A0 A3 A1)) (fun _ _ _ _=>(Ab (i:=0) (by with_unfolding_all (show(["_law_k","_law_head","_law_letters","_law_start","_law_tail"]:List Str).Nodup;decide +kernel)) (by ac_nf) (by eq_refl))) (Av (by decide)) (fun _ _ _ _=>Br) (fun _ _ _ _=>(Ae (Ac (K:=K)) (Ae (Ac (K:=K)) (pv 1) (Ap (A8 (K:=K) hu) (pv 2) (Ae (Ac (K:=K)) (pv 3) (Ae Fc (Ae C9 A3 (pv 0)) A3)) (by ac_rfl))) (pv 4))))))) An)
  (A2 (C1 (Ag (Bt (K:=K) hq) (pv 4) A3 (Aq _)) (A5 (Cm (i:=7) ["_law_k"] ["_law_letters","_law_start"] [2,3] (by ac_nf) (by ac_nf) (by ac_nf) sc__law_names.nd (by ac_nf) (by ac_nf) (Bj (by ac_nf) T.b_range (A0 A3 A1)) (fun _ _ _ _=>(Ab (i:=0) (by with_unfolding_all (show(["_law_k","_law_letters","_law_start"]:List Str).Nodup;decide +kernel)) (by ac_nf) (by eq_refl))) (Av (by decide)) (fun _ _ _ _=>Br) (fun _ _ _ _=>(Au (K4 (K:=K)) (pv 1) (B3 (Ae (Ac (K:=K)) (pv 2) (pv 0))) (B3 (Ae (Ac (K:=K)) (Ae (Ac (K:=K)) (Ae (Ac (K:=K)) (pv 2) (pv 0)) A3) (Ae Fc (Ae C9 A3 (pv 0)) A3))))))) An)
  (A2 (Aa (i:=10) sc__law_names.nd (by ac_nf) (by eq_refl) (Ai c__law_draw (hr.mono (by decide)) (by ac_nf) (A0 (pv 0) (A0 A3 A1))))
  (A2 (Aa (i:=7) sc__law_names.nd (by ac_nf) (by eq_refl) (Ae (Ac (K:=K)) (Au (K4 (K:=K)) (pv 7) (B3 (pv 10)) Bz) (Au (K4 (K:=K)) (pv 7) Bz (B3 (pv 10)))))
  (A5 (Am (M0 (Au (K4 (K:=K)) (pv 7) Bz (B3 (pv 1))) (Ap (A8 (K:=K) hu) (Az (A0 A3 (A0 (Pj Jp A3) A1))) (Ai c__law_draw (hr.mono (by decide)) (by ac_nf) (A0 (pv 0) (A0 A3 A1))) (by ac_rfl)))))))))))))))),?_⟩
 walk_at "rd"
 refine Wx (by decide) ?_
 rw[a75]
 walk_at "rd"
 refine⟨d,l,_,rfl,hF,by omega,by omega,fun st H1 hs0 hs1 e1 hF1=>?_⟩
 walk_at "rd"
 refine⟨d,l,_,rfl,hF1,by omega,by omega,fun way H2 hw0 hw1 e2 hF2=>?_⟩
 walk_at "rd"
 refine⟨d,l,_,rfl,hF2,by omega,by omega,fun sz H3 hz0 hz1 e3 hF3=>?_⟩
 walk_at "rd"
 refine⟨d,l,_,rfl,hF3,by omega,by omega,fun at' H4 ha0 ha1 e4 hF4=>?_⟩
 walk_at "rd"
 refine B2 (by decide) fun p5 H5 hp5 e5 h5=>?_
 walk_at "rq"
 have fr4:ExtBut d H H4:=by walk_at "fr"
 have hF5:Feed H5 d l:=by walk_at "fd"
 with_reducible refine Kh (MN H d l n st way sz at') (fun N hN=>?_) (fun σ1 H6 hM=>?_)
 . walk_at "rq"
   refine Jc (fun hw=>?_) (fun hw=>?_)
   . walk_at "rq"
     refine Ee (by omega) ?_
     refine Gx Ax (fI fun k=>.str (Txt.slice LL (some st) (some (st+1+k)))) (by simp) (fun _ _=>trivial) (fun i x H6 R hx e6 hR=>?_) (fun p6 H6 hp6 e6 h6=>?_)
     . obtain⟨rfl,hi⟩:=Ci hx
       walk_at "rq"
       exact hR
     rw[Nd (G:=fun k=>txt (Jg st.toNat (st.toNat+1+k))) (fun k hk=>by
      have e:=Ou (i:=st) (j:=st+1+(0+(k:Int))) hs0 (by omega) (by have:((8:Int)).toNat=8:=rfl;omega)
      have e2:(st+1+(0+(k:Int))).toNat=st.toNat+1+k:=by omega
      rw[e2] at e
      rw[e])] at h6
     obtain⟨c9,hc9,e9⟩:=Xe (i:=st+9) (by omega) (by omega)
     obtain⟨c10,hc10,e10⟩:=Xe (i:=st+10) (by omega) (by omega)
     walk_at "rq"
     refine Xz O7 hc9 ?_
     walk_at "rq"
     refine Xz O7 hc10 ?_
     walk_at "rq"
     refine B2 (A6 (by simp)) fun p7 H7 hp7 e7 h7=>?_
     refine Js (by walk_at "lk") h7 (by simp[sizeLine_eq]) fun p8 H8 hp8 e8 h8=>?_
     walk_at "rq"
     have f5:ExtBut d H H5:=by walk_at "fr"
     refine hN _ _ ⟨p8,(nm0 st.toNat).map txt,none,none,rfl,Feed.free (l:=l) (H':=H7) (by walk_at "fd") (by walk_at "fr") hp8,by walk_at "fr",by walk_at "fd",?_,a09 (by omega),by simp[nm0]⟩
     rw[h8,e9,e10]
     have q9:(st+9).toNat=st.toNat+9:=by omega
     have q10:(st+10).toNat=st.toNat+10:=by omega
     rw[q9,q10]
     simp[nm0,Function.comp_def]
   walk_at "rq"
   refine hN _ _ ⟨p5,nm3,none,none,rfl,hF4.free fr4 hp5,by walk_at "fr",hF5,h5,a66,rfl⟩
 obtain⟨p,ns,x8,x9,rfl,hp,e6,hF6,h6,hN6,hl6⟩:=hM
 with_reducible refine Kh (MN H d l n st way sz at') (fun N hN=>?_) (fun σ1 H7 hM=>?_)
 . walk_at "rq"
   refine Jc (fun hw=>?_) (fun hw=>?_)
   . walk_at "rq"
     refine Ee (by omega) ?_
     have c1:=Ou (i:=st) (j:=st+at') hs0 (by omega) (by omega)
     have c2:=Ou (i:=st+at'+1) (j:=st+(1+sz)) (by omega) (by omega) (by omega)
     rw[c1,c2]
     refine Gx Ax (fI fun k=>.str (txt (Jg st.toNat (st+at').toNat)++txt (L6 (st+5*k % 26).toNat)++txt (Jg (st+at'+1).toNat (st+(1+sz)).toNat))) (by simp) (fun _ _=>trivial) (fun i x H8 R hx e8 hR=>?_) (fun p8 H8 hp8 e8 h8=>?_)
     . obtain⟨rfl,hi⟩:=Ci hx
       have hm0:=Int.emod_nonneg (5*(0+(i:Int))) (show(26:Int)≠0 by decide)
       have hm1:=Int.emod_lt_of_pos (5*(0+(i:Int))) (show(0:Int)<26 by decide)
       obtain⟨c,hc,ec⟩:=Xe (i:=st+5*(0+(i:Int)) % 26) (by omega) (by omega)
       walk_at "rq"
       refine Xz O7 hc ?_
       rw[ec]
       have l1:(txt (Jg st.toNat (st+at').toNat)).length<=52:=by show(Jg _ _).toArray.size<=_;unfold Jg;simp[G3];omega
       have l2:(txt (Jg (st+at'+1).toNat (st+(1+sz)).toNat)).length<=52:=by show(Jg _ _).toArray.size<=_;unfold Jg;simp[G3];omega
       have l3:(txt (L6 (st+5*(0+(i:Int)) % 26).toNat)).length<=52:=by show(L6 _).toArray.size<=_;unfold L6;simp[G3];omega
       refine i_addS (A6 (by omega)) ?_
       have l4:(txt (Jg st.toNat (st+at').toNat)++txt (L6 (st+5*(0+(i:Int)) % 26).toNat)).length<=104:=by rw[Str.length_append];omega
       walk_at "rq"
       exact hR
     rw[Nd (G:=fun k=>txt (Jg st.toNat (st.toNat+at'.toNat)++L6 (st.toNat+5*k % 26)++Jg (st.toNat+at'.toNat+1) (st.toNat+(1+sz).toNat))) (fun k hk=>by
      have q1:(st+at').toNat=st.toNat+at'.toNat:=by omega
      have q2:(st+5*(0+(k:Int)) % 26).toNat=st.toNat+5*k % 26:=by omega
      have q3:(st+at'+1).toNat=st.toNat+at'.toNat+1:=by omega
      have q4:(st+(1+sz)).toNat=st.toNat+(1+sz).toNat:=by omega
      rw[q1,q2,q3,q4,Qe,Qe])] at h8
     walk_at "rq"
     refine hN _ _ ⟨p8,(nm1 st.toNat (1+sz).toNat at'.toNat).map txt,_,_,rfl,hF6.free e6 hp8,by walk_at "fr",by walk_at "fd",?_,a40 (by omega) (by omega) (by omega),by simp[nm1]⟩
     rw[h8]
     simp[nm1,Function.comp_def]
   walk_at "rq"
   exact hN _ _ ⟨p,ns,x8,x9,rfl,hp,e6,hF6,h6,hN6,hl6⟩
 obtain⟨p',ns',x8',x9',rfl,hp',e7,hF7,h7,hN7,hl7⟩:=hM
 with_reducible refine Kh (MN H d l n st way sz at') (fun N hN=>?_) (fun σ1 H8 hM=>?_)
 . walk_at "rq"
   refine Jc (fun hw=>?_) (fun hw=>?_)
   . walk_at "rq"
     refine Ee (by omega) ?_
     refine Gx Ax (fI fun k=>.str (Txt.slice LL (some (st+k)) (some (st+k+1+3*k % 8)))) (by simp) (fun _ _=>trivial) (fun i x H8 R hx e8 hR=>?_) (fun p8 H8 hp8 e8 h8=>?_)
     . obtain⟨rfl,hi⟩:=Ci hx
       walk_at "rq"
       exact hR
     rw[Nd (G:=fun k=>txt (Jg (st.toNat+k) (st.toNat+k+1+3*k % 8))) (fun k hk=>by
      have h10:((10:Int)).toNat=10:=rfl
      have e:=Ou (i:=st+(0+(k:Int))) (j:=st+(0+(k:Int))+1+3*(0+(k:Int)) % 8) (by omega) (by omega) (by omega)
      have q1:(st+(0+(k:Int))).toNat=st.toNat+k:=by omega
      have q2:(st+(0+(k:Int))+1+3*(0+(k:Int)) % 8).toNat=st.toNat+k+1+3*k % 8:=by omega
      rw[q1,q2] at e
      rw[e])] at h8
     walk_at "rq"
     refine hN _ _ ⟨p8,(nm2 st.toNat).map txt,_,_,rfl,hF7.free e7 hp8,by walk_at "fr",by walk_at "fd",?_,a51 (by omega),by simp[nm2]⟩
     rw[h8]
     simp[nm2,Function.comp_def]
   walk_at "rq"
   exact hN _ _ ⟨p',ns',x8',x9',rfl,hp',e7,hF7,h7,hN7,hl7⟩
 obtain⟨p2,ms,y8,y9,rfl,hp2,e8,hF8,h8,hN8,hl8⟩:=hM
 walk_at "rd"
 refine⟨d,l,_,rfl,hF8,by omega,by omega,fun tn H9 ht0 ht1 e9 hF9=>?_⟩
 have nd2:p2≠d:=hF8.lst h8
 walk_at "rd"
 have h9:H9 p2=some (.lst (ms.map V.str)):=e9 _ _ nd2 h8
 refine Np (SqL.of h9) fun q1 H10 hq1 e10 h10=>?_
 walk_at "rd"
 refine Np (SqL.of (show H10 p2=some (.lst (ms.map V.str)) by walk_at "lk")) fun q2 H11 hq2 e11 h11=>?_
 walk_at "rd"
 rw[Kd ht0 (by rw[List.length_map];omega)] at h10
 rw[Ev ht0] at h11
 refine Js (by walk_at "lk") h11 (A6 (by simp;omega)) fun q3 H12 hq3 e12 h12=>?_
 walk_at "rd"
 rw[<- List.map_drop,<- List.map_take,<- List.map_append] at h12
 refine Np (SqL.of h12) fun q4 H13 hq4 e13 h13=>?_
 walk_at "rd"
 rw[Ev hn0,<- List.map_take] at h13
 refine B2 (by decide) fun q5 H14 hq5 e14 h14=>?_
 walk_at "rd"
 refine⟨d,l,2,rfl,by walk_at "fd",by omega,by omega,fun r H15 hr0 hr1 e15 hF15=>?_⟩
 have hq5d:q5≠d:=Ne.symm (Feed.nd (H:=H13) (l:=l) (by walk_at "fd") hq5)
 have hq4d:q4≠d:=Ne.symm (Feed.nd (H:=H12) (l:=l) (by walk_at "fd") hq4)
 have h15:H15 q4=some (.lst (((ms.drop tn.toNat++ms.take tn.toNat).take n.toNat).map V.str)):=e15 _ _ hq4d (by walk_at "lk")
 have g15:H15 q5=some (.lst [V.int 1,V.int (-1)]):=e15 _ _ hq5d h14
 have hstep:∃ k,atI [V.int 1,V.int (-1)] r=some (V.int k)/\(k=1\/k = -1):=by
  rcases(by omega:r=0\/r=1) with rfl | rfl
  . exact⟨1,rfl,.inl rfl⟩
  exact⟨-1,rfl,.inr rfl⟩
 obtain⟨kk,hk1,hk2⟩:=hstep
 refine Fo g15 hk1 ?_
 refine Zw (SqL.of h15) hk2 fun q6 H16 hq6 e16 h16=>?_
 obtain⟨os,eo,ho1,ho2⟩:=Pf (k:=kk) (hN8.turn tn.toNat n.toNat)
 rw[eo] at h16
 have fr15:ExtBut d H H15:=by walk_at "fr"
 refine k q6 os H16 (hF15.free fr15 hq6) (by walk_at "fr") (by walk_at "fd") h16 ho1 ?_
 rw[ho2,List.length_take,List.length_append,List.length_drop,List.length_take]
 omega
def Cy (K:PySem.W.Frag):Sp:=fun vs H Q _=>∃ d l a xs,vs=[.ref d,.ref a]/\Feed H d l/\(SqL K H a xs\/SqT K H a xs)/\xs.length<=1000/\∀ p ys H',H p=none->ExtBut d H H'->Feed H' d l->H' p=some (.lst ys)->ys.Perm xs->Q (.ref p) H'
theorem Gp {f:Addr}{fd:FuncData}(F:Fun K "_law_shuffled" "_law_shuffled" Be f fd)(T:Fb mg)(c__law_draw:Fnd P w K mg base 1 "_law_draw" ["_law_feed_here","_law_many"] (Ar K)):FnOk P w K mg base CX0 2 f fd ["_law_feed_here","_law_some"] (Cy K):=by
 refine F.ok sc__law_shuffled (fun vs H Q E h=>?_) (fun cdv A outer s H vs Q E hr h=>?_)
 . obtain⟨d,l,a,xs,rfl,_⟩:=h
   rfl
 obtain⟨d,l,a,xs,rfl,hF,hS,hx,k⟩:=h
 have hu:=C0 hr
 have hq:=By hr
 with_reducible refine⟨_,(A2 (Aa (i:=2) sc__law_shuffled.nd (by ac_nf) (by eq_refl) (Ao (Dt (K:=K)) (by ac_nf) T.b_list PyProof.Rows.Boot.«list» (A0 (pv 1) A1)))
  (A2 (Aa (i:=3) sc__law_shuffled.nd (by ac_nf) (by eq_refl) (Az A1))
  (A2 (Bl PassesOwn.never (by ac_nf) (Bj (by ac_nf) T.b_range (A0 (A7 (Ah (K:=K)) (by ac_nf) T.b_len PyProof.Rows.Boot.«len» (A0 (pv 2) A1)) A1)) (Ab (i:=4) sc__law_shuffled.nd (by ac_nf) (by eq_refl))
  (A5 (C6 (Dn (K:=K) PySem.F.plainAttrs_list PySem.F.slot_list_append PySem.F.type_list_append (mm Ct) (pv 3) (A0 (Dn (K:=K) PySem.F.plainAttrs_list PySem.F.slot_list_pop PySem.F.type_list_pop (mm Tq) (pv 2) (A0 (Ai c__law_draw (hr.mono (by decide)) (by ac_nf) (A0 (pv 0) (A0 (A7 (Ah (K:=K)) (by ac_nf) T.b_len PyProof.Rows.Boot.«len» (A0 (pv 2) A1)) A1))) A1)) A1)))))
  (A5 (Am (pv 3)))))),?_⟩
 walk_at "rd"
 refine Ky hS fun q H1 hq1 e1 h1=>?_
 walk_at "rd"
 refine B2 (by decide) fun p H2 hp2 e2 h2=>?_
 walk_at "rd"
 refine Ee (by omega) ?_
 have hp0:H p=none:=e1.free hp2
 have hpq:p≠q:=fun z=>by subst z;rw[h1] at hp2;cases hp2
 refine D4 Ax (fun i σ H3=>∃ us vs x4,σ=[some (.ref d),some (.ref a),some (.ref q),some (.ref p),x4]/\ExtBut d H H3/\Feed H3 d l/\H3 q=some (.lst us)/\H3 p=some (.lst vs)/\(vs++us).Perm xs/\us.length+i=xs.length/\vs.length=i)
  ⟨xs,[],none,rfl,by walk_at "fr",by walk_at "fd",by walk_at "lk",h2,by simp,rfl,rfl⟩ (fun _ _ _ _=>trivial) (fun i x σ H3 hx3 hi hP=>?_) (fun σ H3 hP=>?_)
 . obtain⟨us,vs,x4,rfl,e3,hF3,h3q,h3p,hperm,hlen,hvl⟩:=hP
   obtain⟨rfl,hi2⟩:=Ci hx3
   have hi3:i<xs.length:=by simpa using hi2
   walk_at "rd"
   refine⟨d,l,_,rfl,hF3,by omega,by omega,fun r H4 hr0 hr1 e4 hF4=>?_⟩
   have h4q:H4 q=some (.lst us):=e4 _ _ (hF3.lst h3q) h3q
   have h4p:H4 p=some (.lst vs):=e4 _ _ (hF3.lst h3p) h3p
   have hr2:r.toNat<us.length:=by omega
   walk_at "rd"
   refine Uv h4q hr0 (List.getElem?_eq_getElem hr2) (fun H5 e5 h5q=>?_) (by omega)
   have h5p:H5 p=some (.lst vs):=e5 _ _ hpq h4p
   walk_at "rd"
   refine Ia h5p (by omega) fun H6 e6 h6p=>?_
   walk_at "rd"
   refine⟨us.eraseIdx r.toNat,vs++[us[r.toNat]],_,rfl,by walk_at "fr",(hF4.put e5 (hF.nd hq1) (hF.nl hq1)).put e6 (hF.nd hp0) (hF.nl hp0),e6 _ _ (Ne.symm hpq) h5q,h6p,?_,?_,by simp[hvl]⟩
   . exact(U0 (List.getElem?_eq_getElem hr2) vs).trans hperm
   rw[List.length_eraseIdx,if_pos hr2]
   omega
 obtain⟨us,vs,x4,rfl,e3,hF3,h3q,h3p,hperm,hlen,hvl⟩:=hP
 walk_at "rd"
 have hu0:us=[]:=by
  rw[List.length_map,List.length_range] at hlen
  exact List.length_eq_zero_iff.mp (by omega)
 subst hu0
 rw[List.append_nil] at hperm
 exact k p vs H3 hp0 e3 hF3 h3p hperm
def E9 (K:PySem.W.Frag):Sp:=fun vs H Q _=>∃ d l a ls,vs=[.ref d,.ref a]/\Feed H d l/\H a=some (.lst (ls.map V.str))/\ls.length<=10/\∀ p xs ps H',H p=none->ExtBut d H H'->Feed H' d l->H' p=some (.lst xs)->IsL K H' (ps.map prD) xs->Up ls ps->ps.length<=100->Q (.ref p) H'
def MP (K:PySem.W.Frag)(H:Hp)(d l a:Addr)(ls:List Str)(way:Int)(E:Prop):L2.St->Hp->Prop:=fun σ' H'=>∃ p xs ps x5 x6 x7 x8,σ'=[some (V.ref d),some (.ref a),some (.int (ls.length:Nat)),some (.int way),some (.ref p),x5,x6,x7,x8]/\H p=none/\ExtBut d H H'/\Feed H' d l/\H' p=some (.lst xs)/\IsL K H' (ps.map prD) xs/\Up ls ps/\ps.length<=100/\(E->ps=[])
theorem Ks {K:PySem.W.Frag}{H:Hp}{ps:List (Str×Str)}{xs:List V}(h:IsL K H (ps.map prD) xs):xs.length=ps.length:=by rw[<- IsL.length h,List.length_map]
theorem L1 {f:Addr}{fd:FuncData}(F:Fun K "_law_pairs" "_law_pairs" C4 f fd)(T:Fb mg)(c__law_draw:Fnd P w K mg base 1 "_law_draw" ["_law_feed_here","_law_many"] (Ar K)):FnOk P w K mg base CX0 2 f fd ["_law_feed_here","_law_line"] (E9 K):=by
 refine F.ok sc__law_pairs (fun vs H Q E h=>?_) (fun cdv A outer s H vs Q E hr h=>?_)
 . obtain⟨d,l,a,xs,rfl,_⟩:=h
   rfl
 obtain⟨d,l,a,ls,rfl,hF,hA,hl,k⟩:=h
 have hu:=C0 hr
 have hq:=By hr
 with_reducible refine⟨_,(A2 (Aa (i:=2) sc__law_pairs.nd (by ac_nf) (by eq_refl) (A7 (Ah (K:=K)) (by ac_nf) T.b_len PyProof.Rows.Boot.«len» (A0 (pv 1) A1)))
  (A2 (Aa (i:=3) sc__law_pairs.nd (by ac_nf) (by eq_refl) (Ai c__law_draw (hr.mono (by decide)) (by ac_nf) (A0 (pv 0) (A0 A3 A1))))
  (A2 (Aa (i:=4) sc__law_pairs.nd (by ac_nf) (by eq_refl) (Az A1))
  (A2 (C1 (PW.pt (Lq (Ag Wt (pv 3) A3 (Aq _)) (L0 (Ag S8 (pv 2) A3 (Aq _))))) (A5 (Bl PassesOwn.never (by ac_nf) (Bj (by ac_nf) T.b_range (A0 (Ap (A8 (K:=K) hu) (Az (A0 (Ae E3 (pv 2) A3) (A0 (pv 2) (A0 (Ae C9 A3 (pv 2)) A1)))) (pv 3) (by ac_rfl)) A1)) (Ab (i:=5) sc__law_pairs.nd (by ac_nf) (by eq_refl))
  (A2 (Aa (i:=6) sc__law_pairs.nd (by ac_nf) (by eq_refl) (Ai c__law_draw (hr.mono (by decide)) (by ac_nf) (A0 (pv 0) (A0 (Ae K1 (pv 2) A3) A1))))
  (A5 (C6 (Dn (K:=K) PySem.F.plainAttrs_list PySem.F.slot_list_append PySem.F.type_list_append (mm Ct) (pv 4) (A0 (B1 (A0 (Ap (A8 (K:=K) hu) (pv 1) (pv 6) (by ac_rfl)) (A0 (Ap (A8 (K:=K) hu) (pv 1) (Ae (Ac (K:=K)) (Ae (Ac (K:=K)) (pv 6) A3) (Ai c__law_draw (hr.mono (by decide)) (by ac_nf) (A0 (pv 0) (A0 (Ae K1 (Ae K1 (pv 2) A3) (pv 6)) A1)))) (by ac_rfl)) A1))) A1))))))) An)
  (A2 (C1 (Ag (Bt (K:=K) hq) (pv 3) A3 (Aq _)) (A2 (Aa (i:=7) sc__law_pairs.nd (by ac_nf) (by with_unfolding_all exact Or.inr rfl) (Ai c__law_draw (hr.mono (by decide)) (by ac_nf) (A0 (pv 0) (A0 (Ae (Ac (K:=K)) (pv 2) A3) A1))))
  (A5 (Cm (i:=4) ["_law_k"] ["_law_line","_law_cut"] [1,7] (by ac_nf) (by ac_nf) (by ac_nf) sc__law_pairs.nd (by ac_nf) (by ac_nf) (Bj (by ac_nf) T.b_range (A0 (Ae K1 (pv 2) A3) A1)) (fun _ _ _ _=>(Ab (i:=0) (by with_unfolding_all (show(["_law_k","_law_line","_law_cut"]:List Str).Nodup;decide +kernel)) (by ac_nf) (by eq_refl))) (Av (by decide)) (fun _ _ _ _=>(E1 (Ag (Id (K:=K) hq) (Ae (Ac (K:=K)) (pv 0) A3) (pv 2) (Aq _)))) (fun _ _ _ _=>(B1 (A0 (Ap (A8 (K:=K) hu) (pv 1) (pv 0) (by ac_rfl)) (A0 (Ap (A8 (K:=K) hu) (pv 1) (Ae (Ac (K:=K)) (pv 0) A3) (by ac_rfl)) A1))))))) An)
  (A2 (C1 (Ag (Bt (K:=K) hq) (pv 3) A3 (Aq _)) (A5 (Cm (i:=4) ["_law_k"] ["_law_line","_law_feed_here"] [1,0] (by ac_nf) (by ac_nf) (by ac_nf) sc__law_pairs.nd (by ac_nf) (by ac_nf) (Lp (by ac_nf) T.b_range (A0 A3 (A0 (pv 2) A1))) (fun _ _ _ _=>(Ab (i:=0) (by with_unfolding_all (show(["_law_k","_law_line","_law_feed_here"]:List Str).Nodup;decide +kernel)) (by ac_nf) (by eq_refl))) (Av (by decide)) (fun _ _ _ _=>(E1 (Ag S8 (Ai c__law_draw (hr.mono (by decide)) (by ac_nf) (A0 (pv 2) (A0 A3 A1))) A3 (Aq _)))) (fun _ _ _ _=>(B1 (A0 (Ap (A8 (K:=K) hu) (pv 1) (Ai c__law_draw (hr.mono (by decide)) (by ac_nf) (A0 (pv 2) (A0 (pv 0) A1))) (by ac_rfl)) (A0 (Ap (A8 (K:=K) hu) (pv 1) (pv 0) (by ac_rfl)) A1)))))) An)
  (A2 (C1 (Ag (Bt (K:=K) hq) (pv 3) A3 (Aq _)) (A2 (Aa (i:=7) sc__law_pairs.nd (by ac_nf) (by with_unfolding_all exact Or.inr rfl) (Ai c__law_draw (hr.mono (by decide)) (by ac_nf) (A0 (pv 0) (A0 (Ae (Ac (K:=K)) (pv 2) A3) A1))))
  (A5 (Bl PassesOwn.never (by ac_nf) (Aj (K:=K) hu (Au (K4 (K:=K)) (pv 1) Bz (B3 (pv 7)))) (Ab (i:=8) sc__law_pairs.nd (by ac_nf) (by with_unfolding_all exact Or.inr rfl))
  (A5 (C6 (Dn (K:=K) PySem.F.plainAttrs_list PySem.F.slot_list_extend PySem.F.type_list_extend (mm Hn) (pv 4) (A0 (Bh ["_law_other"] ["_law_one"] [8] (by ac_nf) (by ac_nf) (by ac_nf) (Aj (K:=K) hu (Au (K4 (K:=K)) (pv 1) (B3 (pv 7)) Bz)) (fun _ _ _ _=>(Ab (i:=0) (by with_unfolding_all (show(["_law_other","_law_one"]:List Str).Nodup;decide +kernel)) (by ac_nf) (by eq_refl))) (Av (by decide)) (fun _ _ _ _=>Br) (fun _ _ _ _=>(B1 (A0 (pv 1) (A0 (pv 0) A1))))) A1))))))) An)
  (A5 (Am (pv 4)))))))))),?_⟩
 walk_at "rd"
 rw[List.length_map]
 refine⟨d,l,_,rfl,hF,by omega,by omega,fun way H1 hw0 hw1 e1 hF1=>?_⟩
 have had:a≠d:=hF.lst hA
 walk_at "rd"
 refine B2 (by decide) fun p H2 hp2 e2 h2=>?_
 walk_at "rq"
 have hp0:H p=none:=hF1.free e1 hp2
 have hF2:Feed H2 d l:=by walk_at "fd"
 have hA2:H2 a=some (.lst (ls.map V.str)):=by walk_at "lk"
 with_reducible refine Kh (MP K H d l a ls way (way=5)) (fun N hN=>?_) (fun σ1 H3 hM=>?_)
 . walk_at "rq"
   have done0:N [some (V.ref d),some (.ref a),some (.int (ls.length:Nat)),some (.int way),some (.ref p),none,none,none,none] H2:=hN _ _ ⟨p,[],[],none,none,none,none,rfl,hp0,by walk_at "fr",hF2,h2,.nil,.nil,by decide,fun _=>rfl⟩
   refine Jc (fun hw=>?_) (fun hw=>?_)
   . walk_at "rq"
     refine Jc (fun hm=>?_) (fun hm=>?_)
     . walk_at "rq"
       refine B2 (A6 (by simp)) fun q H3 hq3 e3 h3=>?_
       have hm3:∃ m,atI [V.int ((ls.length:Nat) / 2),V.int (ls.length:Nat),V.int (3*(ls.length:Nat))] way=some (V.int m)/\0<=m/\m<=30:=by
        rcases(by omega:way=0\/way=1\/way=2) with rfl | rfl | rfl
        . exact⟨_,rfl,by omega,by omega⟩
        . exact⟨_,rfl,by omega,by omega⟩
        exact⟨_,rfl,by omega,by omega⟩
       obtain⟨m,hm1,hm2,hm3⟩:=hm3
       walk_at "rq"
       refine Fo h3 hm1 ?_
       walk_at "rq"
       refine Ee (by omega) ?_
       refine D4 Ax (fun i σ H4=>∃ xs ps x5 x6,σ=[some (V.ref d),some (.ref a),some (.int (ls.length:Nat)),some (.int way),some (.ref p),x5,x6,none,none]/\ExtBut d H H4/\Feed H4 d l/\H4 p=some (.lst xs)/\IsL K H4 (ps.map prD) xs/\Up ls ps/\ps.length=i)
        ⟨[],[],none,none,rfl,by walk_at "fr",by walk_at "fd",by walk_at "lk",.nil,.nil,rfl⟩ (fun _ _ _ _=>trivial) (fun i x σ H4 hx4 hi hP=>?_) (fun σ H4 hP=>?_)
       . obtain⟨xs,ps,x5,x6,rfl,e4,hF4,h4,hI4,hU,hpl⟩:=hP
         obtain⟨rfl,hi2⟩:=Ci hx4
         have hA4:H4 a=some (.lst (ls.map V.str)):=e4 _ _ had hA
         walk_at "rd"
         refine⟨d,l,_,rfl,hF4,by omega,by omega,fun u H5 hu0 hu1 e5 hF5=>?_⟩
         obtain⟨z1,hz1,hz1',_⟩:=str_at? (ls:=ls) (i:=u) hu0 (by omega)
         have hA5:H5 a=some (.lst (ls.map V.str)):=e5 _ _ had hA4
         have h5:H5 p=some (.lst xs):=e5 _ _ (hF4.lst h4) h4
         walk_at "rd"
         refine Fo hA5 hz1' ?_
         walk_at "rd"
         refine⟨d,l,_,rfl,hF5,by omega,by omega,fun u2 H6 hv0 hv1 e6 hF6=>?_⟩
         obtain⟨z2,hz2,hz2',_⟩:=str_at? (ls:=ls) (i:=u+1+u2) (by omega) (by omega)
         have hA6:H6 a=some (.lst (ls.map V.str)):=e6 _ _ had hA5
         have h6:H6 p=some (.lst xs):=e6 _ _ (hF5.lst h5) h5
         walk_at "rd"
         refine Fo hA6 hz2' ?_
         walk_at "rd"
         refine At (A6 (by simp)) fun t H7 ht7 e7 h7=>?_
         have h7p:H7 p=some (.lst xs):=e7 _ _ h6
         have hxl:=Ks hI4
         walk_at "rd"
         refine Ia h7p (by omega) fun H8 e8 h8=>?_
         walk_at "rd"
         have fz8:Fz H7 H8:=e8.fzL h7p
         have fz7:Fz H4 H7:=((hF4.fz e5).trans (hF5.fz e6)).trans e7.fz
         refine⟨xs++[.ref t],ps++[(z1,z2)],_,_,rfl,by walk_at "fr",by walk_at "fd",h8,?_,?_,by simp[hpl]⟩
         . rw[List.map_append]
           exact(IsL.fz (fz7.trans fz8) _ _ (Cs ps) hI4).append (.one ((V0 (SqT.of h7)).pr_fz fz8))
         exact hU.append (.one (by omega) hz1 hz2)
       obtain⟨xs,ps,x5,x6,rfl,e4,hF4,h4,hI4,hU,hpl⟩:=hP
       rw[List.length_map,List.length_range] at hpl
       exact hN _ _ ⟨p,xs,ps,_,_,_,_,rfl,hp0,e4,hF4,h4,hI4,hU,by omega,fun q=>by omega⟩
     walk_at "rq"
     exact done0
   walk_at "rq"
   exact done0
 obtain⟨p3,xs3,ps3,x5,x6,x7,x8,rfl,hp3,e3,hF3,h3,hI3,hU3,hl3,hE3⟩:=hM
 have hA3:H3 a=some (.lst (ls.map V.str)):=e3 _ _ had hA
 with_reducible refine Kh (MP K H d l a ls way (way=5)) (fun N hN=>?_) (fun σ1 H4 hM=>?_)
 . walk_at "rq"
   refine Jc (fun hw=>?_) (fun hw=>?_)
   . walk_at "rd"
     refine⟨d,l,_,rfl,hF3,by omega,by omega,fun cut H4 hc0 hc1 e4 hF4=>?_⟩
     have hA4:H4 a=some (.lst (ls.map V.str)):=e4 _ _ had hA3
     walk_at "rd"
     refine Ee (by omega) ?_
     refine D6 (K:=K) Ax (List.range ((ls.length:Nat)-1:Int).toNat) (by simp) (fun k=>!decide (V.int ((0:Int)+(k:Nat)+1)=V.int cut)) (fun k=>prD (ls.getD k "",ls.getD (k+1) "")) (fun _=>M6 _) (by simp;omega) (fun _ _=>trivial) (fun i k v H5 R R' hk hv e5 hR hR'=>?_) (fun p5 ys H5 hp5 e5 h5 hI5=>?_)
     . obtain⟨rfl,hi2⟩:=Ci hv
       have hki:i=k:=by
        obtain⟨_,h2⟩:=List.getElem?_eq_some_iff.mp hk
        rw[List.getElem_range] at h2
        exact h2
       subst hki
       have hA5:H5 a=some (.lst (ls.map V.str)):=e5 _ _ hA4
       walk_at "rd"
       refine Yl (fun hc=>?_) (fun hc=>?_)
       . obtain⟨z1,hz1,hz1',_⟩:=str_at? (ls:=ls) (i:=0+(i:Int)) (by omega) (by omega)
         obtain⟨z2,hz2,hz2',_⟩:=str_at? (ls:=ls) (i:=0+(i:Int)+1) (by omega) (by omega)
         walk_at "rd"
         refine Fo hA5 hz1' ?_
         walk_at "rd"
         refine Fo hA5 hz2' ?_
         walk_at "rd"
         refine At (A6 (by simp)) fun t H6 ht6 e6 h6=>?_
         have q1:(0+(i:Int)).toNat=i:=by omega
         have q2:(0+(i:Int)+1).toNat=i+1:=by omega
         rw[q1] at hz1
         rw[q2] at hz2
         refine hR (by rw[decide_eq_false hc];rfl) _ _ e6 ?_
         rw[Qt hz1,Qt hz2]
         exact V0 (SqT.of h6)
       exact hR' (by rw[decide_eq_true hc];rfl) _ (Same.refl _)
     walk_at "rd"
     rw[Sm] at hI5
     have hp0':H p5=none:=hF4.free (by walk_at "fr") hp5
     refine hN _ _ ⟨p5,ys,_,_,_,_,_,rfl,hp0',by walk_at "fr",by walk_at "fd",h5,hI5,fun pr hpr=>?_,?_,fun q=>by cases hw;cases q⟩
     . obtain⟨j,hj,rfl⟩:=List.mem_map.mp hpr
       have hj:=List.mem_range.mp (List.mem_filter.mp hj).1
       exact⟨j,j+1,by omega,Op (by omega),Op (by omega)⟩
     rw[List.length_map]
     refine Nat.le_trans (List.length_filter_le _ _) ?_
     rw[List.length_range]
     omega
   walk_at "rq"
   exact hN _ _ ⟨p3,xs3,ps3,x5,x6,x7,x8,rfl,hp3,e3,hF3,h3,hI3,hU3,hl3,hE3⟩
 obtain⟨p4,xs4,ps4,y5,y6,y7,y8,rfl,hp4,e4,hF4,h4,hI4,hU4,hl4,hE4⟩:=hM
 have hA4:H4 a=some (.lst (ls.map V.str)):=e4 _ _ had hA
 with_reducible refine Kh (MP K H d l a ls way (way=5)) (fun N hN=>?_) (fun σ1 H5 hM=>?_)
 . walk_at "rq"
   refine Jc (fun hw=>?_) (fun hw=>?_)
   . walk_at "rd"
     refine Vt (by omega) ?_
     refine Hy Ax (fun p i acc H5=>∃ ps,ExtBut d H H5/\Feed H5 d l/\IsL K H5 (ps.map prD) acc/\Up ls ps/\ps.length<=i) (fun p H5 hp e5 h5=>⟨[],by walk_at "fr",by walk_at "fd",.nil,.nil,Nat.le_refl _⟩) (fun _ _ _ _ _=>trivial) (fun p i x acc H5 hp hx hi hl5 ha hP=>?_) fun p acc H5 hp ha hl5 hP=>?_
     . obtain⟨ps,e5,hF5,hI5,hU5,hpl5⟩:=hP
       obtain⟨rfl,hi2⟩:=Ci hx
       have hp0':H p=none:=hF4.free e4 hp
       have hpd:p≠d:=Ne.symm (hF4.nd hp)
       walk_at "rd"
       refine⟨d,l,_,rfl,hF5,by omega,by omega,fun u H6 hu0 hu1 e6 hF6=>?_⟩
       walk_at "rd"
       have h6:H6 p=some (.lst acc):=e6 _ _ hpd ha
       have hA6:H6 a=some (.lst (ls.map V.str)):=e6 _ _ had (e5 _ _ had hA)
       refine Jc (fun hc=>?_) (fun hc=>?_)
       . walk_at "rd"
         refine⟨d,l,_,rfl,hF6,by omega,by omega,fun u2 H7 hv0 hv1 e7 hF7=>?_⟩
         have h7:H7 p=some (.lst acc):=e7 _ _ hpd h6
         have hA7:H7 a=some (.lst (ls.map V.str)):=e7 _ _ had hA6
         obtain⟨z1,hz1,hz1',_⟩:=str_at? (ls:=ls) (i:=u2) hv0 (by omega)
         obtain⟨z2,hz2,hz2',_⟩:=str_at? (ls:=ls) (i:=1+(i:Int)) (by omega) (by omega)
         walk_at "rd"
         refine Fo hA7 hz1' ?_
         walk_at "rd"
         refine Fo hA7 hz2' ?_
         walk_at "rd"
         refine At (A6 (by simp)) fun t H8 ht8 e8 h8=>?_
         have h8p:H8 p=some (.lst acc):=e8 _ _ h7
         refine Lk (by simp;omega) hi hl5 h8p fun H9 e9 h9=>?_
         have fz9:Fz H8 H9:=e9.fzL h8p
         have fz8:Fz H5 H8:=((hF5.fz e6).trans (hF6.fz e7)).trans e8.fz
         refine⟨ps++[(z1,z2)],by walk_at "fr",by walk_at "fd",?_,hU5.append (.one (by omega) hz1 hz2),by simp[hpl5]⟩
         rw[List.map_append]
         exact(IsL.fz (fz8.trans fz9) _ _ (Cs ps) hI5).append (.one ((V0 (SqT.of h8)).pr_fz fz9))
       refine Nt hi hl5 h6 ⟨ps,by walk_at "fr",hF6,IsL.fz (hF5.fz e6) _ _ (Cs ps) hI5,hU5,by omega⟩
     obtain⟨ps,e5,hF5,hI5,hU5,hpl5⟩:=hP
     rw[List.length_map,List.length_range] at hpl5
     walk_at "rd"
     exact hN _ _ ⟨p,acc,ps,_,_,_,_,rfl,hF4.free e4 hp,e5,hF5,ha,hI5,hU5,by omega,fun q=>by cases hw;cases q⟩
   walk_at "rq"
   exact hN _ _ ⟨p4,xs4,ps4,_,_,_,_,rfl,hp4,e4,hF4,h4,hI4,hU4,hl4,hE4⟩
 obtain⟨p5,xs5,ps5,z5,z6,z7,z8,rfl,hp5,e5,hF5,h5,hI5,hU5,hl5,hE5⟩:=hM
 have hA5:H5 a=some (.lst (ls.map V.str)):=e5 _ _ had hA
 with_reducible refine Kh (MP K H d l a ls way False) (fun N hN=>?_) (fun σ1 H6 hM=>?_)
 . walk_at "rq"
   refine Jc (fun hw=>?_) (fun hw=>?_)
   . walk_at "rd"
     refine⟨d,l,_,rfl,hF5,by omega,by omega,fun cut H6 hc0 hc1 e6 hF6=>?_⟩
     have hA6:H6 a=some (.lst (ls.map V.str)):=e6 _ _ had hA5
     have h6:H6 p5=some (.lst xs5):=e6 _ _ (hF5.lst h5) h5
     walk_at "rd"
     refine Np (SqL.of hA6) fun q H7 hq7 e7 h7=>?_
     rw[Ev hc0,<- List.map_take] at h7
     have hq0:H q=none:=hF6.free (by walk_at "fr") hq7
     have hp5n:p5≠q:=ne_of_none h6 hq7
     refine Je (SqL.of h7) ?_
     have hway:way=5:=by
      cases hw
      rfl
     have hps:ps5=[]:=hE5 hway
     subst hps
     have hxs:xs5=[]:=by simpa only[List.map_nil,L2.IsL] using hI5
     subst hxs
     have hdrop:∀ H8,ExtBut d H H8->H8 a=some (.lst (ls.map V.str)):=fun H8 e8=>e8 _ _ had hA
     refine D4 (Bu (xs:=(ls.take cut.toNat).map V.str)) (fun i σ H8=>∃ xs ps x8,σ=[some (V.ref d),some (.ref a),some (.int (ls.length:Nat)),some (.int way),some (.ref p5),z5,z6,some (.int cut),x8]/\ExtBut d H H8/\Feed H8 d l/\H8 q=some (.lst ((ls.take cut.toNat).map V.str))/\H8 p5=some (.lst xs)/\IsL K H8 (ps.map prD) xs/\Up ls ps/\ps.length<=i*10)
      ⟨[],[],_,rfl,by walk_at "fr",by walk_at "fd",h7,by walk_at "lk",.nil,.nil,by decide⟩ (fun i σ H8 hP=>?_) (fun i x σ H8 hx8 hi hP=>?_) (fun σ H8 hP=>?_)
     . obtain⟨xs,ps,x8,rfl,e8,hF8,hq8,_⟩:=hP
       exact SqL.of hq8
     . obtain ⟨xs,ps,x8,rfl,e8,hF8,hq8,h8,hI8,hU8,hl8⟩:=hP
       rw[List.getElem?_map] at hx8
       cases hz:(ls.take cut.toNat)[i]? with
       | none=>rw[hz] at hx8;cases hx8
       | some one=>
         rw[hz] at hx8
         cases hx8
         have hi10:i<10:=by
          have:=List.getElem?_eq_some_iff.mp hz
          obtain⟨h1,_⟩:=this
          rw[List.length_take] at h1
          omega
         have hone:ls[i]? = some one:=by
          rw[List.getElem?_take] at hz
          split at hz
          . exact hz
          cases hz
         have hicut:i<cut.toNat:=by
          rw[List.getElem?_take] at hz
          split at hz
          . assumption
          cases hz
         walk_at "rd"
         refine Np (SqL.of (hdrop H8 e8)) fun q9 H9 hq9 e9 h9=>?_
         rw[Kd hc0 (by rw[List.length_map];omega),<- List.map_drop] at h9
         refine Je (SqL.of h9) ?_
         refine D6 (K:=K) (Bu (xs:=(ls.drop cut.toNat).map V.str)) (ls.drop cut.toNat) (by simp) (fun _=>true) (fun o=>prD (one,o)) (fun _=>M6 _) (by simp;omega) (fun H' e'=>SqL.of (e' _ _ h9)) (fun j o v H10 R R' ho hv e10 hR hR'=>?_) (fun p10 ys H10 hp10 e10 h10 hI10=>?_)
         . rw[List.getElem?_map,ho] at hv
           cases hv
           walk_at "rd"
           refine At (A6 (by simp)) fun t H11 ht11 e11 h11=>?_
           exact hR rfl _ _ e11 (V0 (SqT.of h11))
         walk_at "rd"
         have h10p:H10 p5=some (.lst xs):=e10 _ _ (e9 _ _ h8)
         have hy:ys.length<=10:=by
          have:=IsL.length hI10
          rw[List.length_map,Bm,List.length_drop] at this
          omega
         have hxl:=Ks hI8
         refine W6 h10p h10 (by omega) fun H11 e11 h11=>?_
         walk_at "rd"
         have hq10:H10 q=some (.lst ((ls.take cut.toNat).map V.str)):=e10 _ _ (e9 _ _ hq8)
         have fz11:Fz H10 H11:=e11.fzL h10p
         rw[Bm,Sm] at hI10
         refine⟨xs++ys,ps++(ls.drop cut.toNat).map (fun o=>(one,o)),_,rfl,by walk_at "fr",by walk_at "fd",e11 _ _ (Ne.symm hp5n) hq10,h11,?_,hU8.append fun pr hpr=>?_,?_⟩
         . rw[List.map_append]
           exact(IsL.fz ((e9.fz.trans e10.fz).trans fz11) _ _ (Cs ps) hI8).append (IsL.fz fz11 _ _ (Cs _) hI10)
         . obtain⟨o,ho,rfl⟩:=List.mem_map.mp hpr
           obtain⟨j,hj,ej⟩:=List.getElem_of_mem ho
           refine⟨i,cut.toNat+j,by omega,hone,?_⟩
           rw[<- List.getElem?_drop,List.getElem?_eq_getElem hj,ej]
         rw[List.length_append,List.length_map,List.length_drop,Nat.add_mul]
         omega
     obtain⟨xs,ps,x8,rfl,e8,hF8,hq8,h8,hI8,hU8,hl8⟩:=hP
     rw[List.length_map,List.length_take] at hl8
     exact hN _ _ ⟨p5,xs,ps,_,_,_,_,rfl,hp5,e8,hF8,h8,hI8,hU8,by omega,False.elim⟩
   walk_at "rq"
   exact hN _ _ ⟨p5,xs5,ps5,_,_,_,_,rfl,hp5,e5,hF5,h5,hI5,hU5,hl5,False.elim⟩
 obtain⟨p6,xs6,ps6,w5,w6,w7,w8,rfl,hp6,e6,hF6,h6,hI6,hU6,hl6,hE6⟩:=hM
 walk_at "rd"
 exact k p6 xs6 ps6 H6 hp6 e6 hF6 h6 hI6 hU6 hl6
def Di (K:PySem.W.Frag):Sp:=fun vs H Q _=>∃ d l a ls,vs=[.ref d,.ref a]/\Feed H d l/\H a=some (.lst (ls.map V.str))/\ls.length<=10/\∀ v ps H',ExtBut d H H'->Feed H' d l->Is K H' (psD ps) v->Up ls ps->ps.length<=60->Q v H'
theorem Ws {K:PySem.W.Frag}{H:Hp}{ps:List (Str×Str)}{xs:List V}{p:Str×Str}{v:V}(n:Nat)(h:IsL K H (ps.map prD) xs)(hv:Is K H (prD p) v):IsL K H ((ps.take n++p :: ps.drop n).map prD) (a78 xs n v):=by
 rw[List.map_append,List.map_cons,List.map_take,List.map_drop]
 exact(IsL.take n h).append (.cons hv (IsL.drop n h))
theorem Iv {f:Addr}{fd:FuncData}(F:Fun K "_law_sayings" "_law_sayings" Bg f fd)(T:Fb mg)(c__law_draw:Fnd P w K mg base 1 "_law_draw" ["_law_feed_here","_law_many"] (Ar K))(c__law_pairs:Fnd P w K mg base 2 "_law_pairs" ["_law_feed_here","_law_line"] (E9 K)):FnOk P w K mg base CX0 3 f fd ["_law_feed_here","_law_line"] (Di K):=by
 refine F.ok sc__law_sayings (fun vs H Q E h=>?_) (fun cdv A outer s H vs Q E hr h=>?_)
 . obtain⟨d,l,a,xs,rfl,_⟩:=h
   rfl
 obtain⟨d,l,a,ls,rfl,hF,hA,hl,k⟩:=h
 have hu:=C0 hr
 have hq:=By hr
 with_reducible refine⟨_,(A2 (Aa (i:=2) sc__law_sayings.nd (by ac_nf) (by eq_refl) (Az A1))
  (A2 (Bl PassesOwn.never (by ac_nf) (Aj (K:=K) hu (Ai c__law_pairs (hr.mono (by decide)) (by ac_nf) (A0 (pv 0) (A0 (pv 1) A1)))) (Ab (i:=3) sc__law_sayings.nd (by ac_nf) (by eq_refl))
  (A5 (Bl PassesOwn.never (by ac_nf) (Bj (by ac_nf) T.b_range (A0 (Ae (Ac (K:=K)) A3 (Ao My (by ac_nf) T.b_int PyProof.Rows.Boot.«int» (A0 (D0 (Bt (K:=K) hq) (Ai c__law_draw (hr.mono (by decide)) (by ac_nf) (A0 (pv 0) (A0 A3 A1))) A3 (Aq _)) A1))) A1)) (Ab (i:=4) sc__law_sayings.nd (by ac_nf) (by eq_refl))
  (A5 (C6 (Dn (K:=K) PySem.F.plainAttrs_list PySem.F.slot_list_insert PySem.F.type_list_insert (mm Lg) (pv 2) (A0 (Ai c__law_draw (hr.mono (by decide)) (by ac_nf) (A0 (pv 0) (A0 (Ae (Ac (K:=K)) (A7 (Ah (K:=K)) (by ac_nf) T.b_len PyProof.Rows.Boot.«len» (A0 (pv 2) A1)) A3) A1))) (A0 (pv 3) A1))))))))
  (A5 (Am (Ao (Bk (K:=K)) (by ac_nf) T.b_tuple PyProof.Rows.Boot.«tuple» (A0 (Au (K4 (K:=K)) (pv 2) Bz (B3 A3)) A1)))))),?_⟩
 walk_at "rd"
 refine B2 (by decide) fun p H1 hp1 e1 h1=>?_
 have hA1:H1 a=some (.lst (ls.map V.str)):=e1 _ _ hA
 have hF1:Feed H1 d l:=hF.same e1
 walk_at "rd"
 refine⟨d,l,a,ls,rfl,hF1,hA1,hl,fun q xs ps H2 hq2 e2 hF2 h2 hI2 hU2 hl2=>?_⟩
 have hpd:p≠d:=Ne.symm (hF.nd hp1)
 have h2p:H2 p=some (.lst []):=e2 _ _ hpd h1
 have hpq:p≠q:=ne_of_none h1 hq2
 have hq0:H q=none:=e1.free hq2
 have hxl:=Ks hI2
 refine Je (SqL.of h2) ?_
 refine D4 (Bu (xs:=xs)) (fun i σ H3=>∃ ys qs x3 x4,σ=[some (V.ref d),some (.ref a),some (.ref p),x3,x4]/\ExtBut d H H3/\Feed H3 d l/\H3 q=some (.lst xs)/\Fz H2 H3/\H3 p=some (.lst ys)/\IsL K H3 (qs.map prD) ys/\Up ls qs/\qs.length<=i*2)
  ⟨[],[],_,_,rfl,by walk_at "fr",hF2,h2,.refl _,h2p,.nil,.nil,by decide⟩ (fun i σ H3 hP=>?_) (fun i x σ H3 hx3 hi hP=>?_) (fun σ H3 hP=>?_)
 . obtain⟨ys,qs,x3,x4,rfl,e3,hF3,hq3,_⟩:=hP
   exact SqL.of hq3
 . obtain⟨ys,qs,x3,x4,rfl,e3,hF3,hq3,fz3,h3p,hI3,hU3,hl3⟩:=hP
   obtain ⟨dp,hdp,hip⟩:=IsL.get hI2 hx3
   rw[List.getElem?_map] at hdp
   cases hpr:ps[i]? with
   | none=>rw[hpr] at hdp;cases hdp
   | some pr=>
     rw[hpr] at hdp
     cases hdp
     have hUp:Up ls [pr]:=hU2.sub fun z hz=>by
      have:z=pr:=by simpa using hz
      subst this
      exact List.mem_of_getElem? hpr
     have hi100:i<100:=by omega
     walk_at "rd"
     refine⟨d,l,_,rfl,hF3,by omega,by omega,fun u H4 hu0 hu1 e4 hF4=>?_⟩
     have h4p:H4 p=some (.lst ys):=e4 _ _ hpd h3p
     have h4q:H4 q=some (.lst xs):=e4 _ _ (hF3.lst hq3) hq3
     have fz4:Fz H2 H4:=fz3.trans (hF3.fz e4)
     have hI4:IsL K H4 (qs.map prD) ys:=IsL.fz (hF3.fz e4) _ _ (Cs qs) hI3
     walk_at "rd"
     refine Ee (by split<;>omega) ?_
     refine D4 Ax (fun j σ H5=>∃ zs rs x4,σ=[some (V.ref d),some (.ref a),some (.ref p),some x,x4]/\ExtBut d H H5/\Feed H5 d l/\H5 q=some (.lst xs)/\Fz H2 H5/\H5 p=some (.lst zs)/\IsL K H5 (rs.map prD) zs/\Up ls rs/\rs.length=qs.length+j)
      ⟨ys,qs,_,rfl,by walk_at "fr",hF4,h4q,fz4,h4p,hI4,hU3,rfl⟩ (fun _ _ _ _=>trivial) (fun j x' σ H5 hx5 hj hP=>?_) (fun σ H5 hP=>?_)
     . obtain⟨zs,rs,x4',rfl,e5,hF5,hq5,fz5,h5p,hI5,hU5,hl5⟩:=hP
       obtain⟨rfl,hj2⟩:=Ci hx5
       have hzl:=Ks hI5
       have hj3:j<2:=by
        have:(1+if decide (V.int u=V.int 0)=true then(1:Int) else 0).toNat<=2:=by split<;>omega
        omega
       walk_at "rd"
       refine⟨d,l,_,rfl,hF5,by omega,by omega,fun u2 H6 hv0 hv1 e6 hF6=>?_⟩
       have h6p:H6 p=some (.lst zs):=e6 _ _ hpd h5p
       have h6q:H6 q=some (.lst xs):=e6 _ _ (hF5.lst hq5) hq5
       walk_at "rd"
       refine Wz h6p hv0 (by omega) (by omega) fun H7 e7 h7p=>?_
       have fz6:Fz H5 H6:=hF5.fz e6
       have fz7:Fz H6 H7:=e7.fzL h6p
       walk_at "rd"
       refine⟨_,_,_,rfl,by walk_at "fr",by walk_at "fd",e7 _ _ (Ne.symm hpq) h6q,(fz5.trans fz6).trans fz7,h7p,Ws u2.toNat (IsL.fz (fz6.trans fz7) _ _ (Cs rs) hI5) (Is.fz ((fz5.trans fz6).trans fz7) _ _ (M6 pr) hip),?_,?_⟩
       . intro z hz
         rcases List.mem_append.mp hz with hz | hz
         . exact hU5 z (List.mem_of_mem_take hz)
         rcases List.mem_cons.mp hz with rfl | hz
         . exact hUp _ (by simp)
         exact hU5 z (List.mem_of_mem_drop hz)
       rw[List.length_append,List.length_cons,List.length_take,List.length_drop]
       omega
     obtain⟨zs,rs,x4',rfl,e5,hF5,hq5,fz5,h5p,hI5,hU5,hl5⟩:=hP
     rw[List.length_map,List.length_range] at hl5
     have hj3:(1+if decide (V.int u=V.int 0)=true then(1:Int) else 0).toNat<=2:=by split<;>omega
     exact⟨zs,rs,_,_,rfl,e5,hF5,hq5,fz5,h5p,hI5,hU5,by omega⟩
 obtain⟨ys,qs,x3,x4,rfl,e3,hF3,hq3,fz3,h3p,hI3,hU3,hl3⟩:=hP
 walk_at "rd"
 refine Np (SqL.of h3p) fun t H4 ht4 e4 h4=>?_
 walk_at "rd"
 rw[Ev (by decide)] at h4
 refine G0 (SqL.of h4) fun t2 H5 ht5 e5 h5=>?_
 have hI5:IsL K H5 (qs.map prD) ys:=IsL.mono e5 _ _ (IsL.mono e4 _ _ hI3)
 refine k (.ref t2) (qs.take 60) H5 (by walk_at "fr") (by walk_at "fd") (Is.of_tup (SqT.of h5) ?_) (hU3.sub fun z hz=>List.mem_of_mem_take hz) ?_
 . rw[List.map_take]
   exact IsL.take 60 hI5
 rw[List.length_take]
 omega
def OkP (ps:List (Str×Str)):Prop:=∀ p∈ps,PyData.strOk p.1=true/\PyData.strOk p.2=true
def Bs (K:PySem.W.Frag):Sp:=fun vs H Q _=>∃ v x ns ps,vs=[v,.str x]/\Is K H (hfD ns ps) v/\ps.length<=1000/\OkP ps/\PyData.strOk x=true/\∀ p (fs:List Str) H',H p=none->Same H H'->H' p=some (.lst (fs.map V.str))->fs.Nodup->(∀ y,y∈fs↔Way ps x y)->Q (.ref p) H'
structure BhI (ps:List (Str×Str))(x:Str)(fs ls:List Str):Prop where
 nd:fs.Nodup
 way:∀ y∈fs,Way ps x y
 line:∀ z∈ls,z=x\/z∈fs
 shut:∀ z,z=x\/z∈fs->z∉ls->∀ y,(z,y)∈ps->y∈fs
 few:ls.length<=fs.length+1
theorem BhI.le {ps:List (Str×Str)}{x:Str}{fs ls:List Str}(h:BhI ps x fs ls):fs.length<=ps.length:=by
 have:=Cr (ys:=ps.map (·.2)) h.nd fun y hy=>(h.way y hy).right
 rwa[List.length_map] at this
structure BhJ (ps:List (Str×Str))(x here:Str)(fs ls gs ms:List Str)(i:Nat):Prop where
 nd:gs.Nodup
 way:∀ y∈gs,Way ps x y
 line:∀ z∈ms,z=x\/z∈gs
 keep:∀ z∈fs,z∈gs
 keepL:∀ z∈ls,z∈ms
 new:∀ z∈gs,z∈fs\/z∈ms
 seen:∀ j<i,∀ y,ps[j]? = some (here,y)->y∈gs
 len:gs.length+ls.length=fs.length+ms.length
theorem BhJ.le {ps:List (Str×Str)}{x here:Str}{fs ls gs ms:List Str}{i:Nat}(h:BhJ ps x here fs ls gs ms i):gs.length<=ps.length:=by
 have:=Cr (ys:=ps.map (·.2)) h.nd fun y hy=>(h.way y hy).right
 rwa[List.length_map] at this
theorem BhJ.step {ps:List (Str×Str)}{x here:Str}{fs ls gs ms:List Str}{i:Nat}{p:Str×Str}(h:BhJ ps x here fs ls gs ms i)(hw:here=x\/Way ps x here)(hp:ps[i]? = some p)(h1:p.1=here)(h2:p.2∉gs):BhJ ps x here fs ls (gs++[p.2]) (ms++[p.2]) (i+1):=by
 have hm:(here,p.2)∈ps:=by rw[<- h1];exact List.mem_of_getElem? hp
 refine⟨?_,fun y hy=>?_,fun z hz=>?_,fun z hz=>List.mem_append_left _ (h.keep z hz),fun z hz=>List.mem_append_left _ (h.keepL z hz),fun z hz=>?_,fun j hj y e=>?_,?_⟩
 . rw[List.nodup_append]
   refine⟨h.nd,by simp,fun a ha b hb=>?_⟩
   have:b=p.2:=by simpa using hb
   subst this
   intro e
   subst e
   exact h2 ha
 . rcases List.mem_append.mp hy with hy | hy
   . exact h.way y hy
   have:y=p.2:=by simpa using hy
   subst this
   rcases hw with rfl | hw
   . exact .one hm
   exact hw.snoc hm
 . rcases List.mem_append.mp hz with hz | hz
   . rcases h.line z hz with e | e
     . exact .inl e
     exact .inr (List.mem_append_left _ e)
   exact .inr (List.mem_append_right _ hz)
 . rcases List.mem_append.mp hz with hz | hz
   . rcases h.new z hz with e | e
     . exact .inl e
     exact .inr (List.mem_append_left _ e)
   exact .inr (List.mem_append_right _ hz)
 . by_cases hji:j=i
   . subst hji
     rw[hp] at e
     cases e
     exact List.mem_append_right _ (by simp)
   exact List.mem_append_left _ (h.seen j (by omega) y e)
 rw[List.length_append,List.length_append,List.length_singleton]
 have:=h.len
 omega
theorem BhJ.skip {ps:List (Str×Str)}{x here:Str}{fs ls gs ms:List Str}{i:Nat}{p:Str×Str}(h:BhJ ps x here fs ls gs ms i)(hp:ps[i]? = some p)(h1:p.1=here->p.2∈gs):BhJ ps x here fs ls gs ms (i+1):=by
 refine⟨h.nd,h.way,h.line,h.keep,h.keepL,h.new,fun j hj y e=>?_,h.len⟩
 by_cases hji:j=i
 . subst hji
   rw[hp] at e
   cases e
   exact h1 rfl
 exact h.seen j (by omega) y e
theorem BhJ.done {ps:List (Str×Str)}{x here:Str}{fs ls gs ms:List Str}(I:BhI ps x fs (ls++[here]))(h:BhJ ps x here fs ls gs ms ps.length):BhI ps x gs ms:=by
 refine⟨h.nd,h.way,h.line,fun z hz hm y hy=>?_,?_⟩
 . by_cases e:z=here
   . subst e
     obtain⟨j,hj,ej⟩:=List.getElem_of_mem hy
     exact h.seen j hj y (by rw[List.getElem?_eq_getElem hj,ej])
   have hz':z=x\/z∈fs:=by
    rcases hz with hz | hz
    . exact .inl hz
    rcases h.new z hz with q | q
    . exact .inr q
    exact absurd q hm
   refine h.keep y (I.shut z hz' (fun q=>?_) y hy)
   rcases List.mem_append.mp q with q | q
   . exact hm (h.keepL z q)
   exact e (by simpa using q)
 have:=h.len
 have:=I.few
 rw[List.length_append,List.length_singleton] at this
 omega
theorem J7 {f:Addr}{fd:FuncData}(F:Fun K "_law_behind" "_law_behind" Bq f fd)(T:Fb mg):FnOk P w K mg base CX0 1 f fd ["_law_half_here","_law_name"] (Bs K):=by
 refine F.ok sc__law_behind (fun vs H Q E h=>?_) (fun cdv A outer s H vs Q E hr h=>?_)
 . obtain⟨v,x,ns,ps,rfl,_⟩:=h
   rfl
 obtain⟨v,x,ns,ps,rfl,hI,hl,hok,hx,k⟩:=h
 have hu:=C0 hr
 have hq:=By hr
 with_reducible refine⟨_,(A2 (Aa (i:=2) sc__law_behind.nd (by ac_nf) (by eq_refl) (Az A1))
  (A2 (Aa (i:=3) sc__law_behind.nd (by ac_nf) (by eq_refl) (Az (A0 (pv 1) A1)))
  (A2 (Ke PassesOwn.never (Ag (Id (K:=K) hq) (pv 3) (Az A1) (Aq _))
  (A2 (Aa (i:=4) sc__law_behind.nd (by ac_nf) (by eq_refl) (Qy (K:=K) PySem.F.plainAttrs_list PySem.F.slot_list_pop PySem.F.type_list_pop (mm a62) (pv 3)))
  (A5 (Bl PassesOwn.never (by ac_nf) (Aj (K:=K) hu (Ap (A8 (K:=K) hu) (pv 0) A3 (by ac_rfl))) (Rq (K:=K) (n:=2) (by ac_nf) (Hc (Ab (i:=5) sc__law_behind.nd (by ac_nf) (by eq_refl)) (Hc (Ab (i:=6) sc__law_behind.nd (by ac_nf) (by eq_refl)) Rw)))
  (A5 (C1 (PW.pt (Lq (Ag (Bt (K:=K) hq) (pv 5) (pv 4) (Aq _)) (L0 (Ag (Eg (K:=K) hq) (pv 6) (pv 2) (by ac_nf))))) (A2 (C6 (Dn (K:=K) PySem.F.plainAttrs_list PySem.F.slot_list_append PySem.F.type_list_append (mm Ct) (pv 2) (A0 (pv 6) A1)))
  (A5 (C6 (Dn (K:=K) PySem.F.plainAttrs_list PySem.F.slot_list_append PySem.F.type_list_append (mm Ct) (pv 3) (A0 (pv 6) A1))))) An))))))
  (A5 (Am (pv 2)))))),?_⟩
 walk_at "rd"
 refine B2 (by decide) fun p H1 hp1 e1 h1=>?_
 walk_at "rd"
 refine B2 (A6 (by simp)) fun q H2 hq2 e2 h2=>?_
 walk_at "rd"
 have hpq:p≠q:=ne_of_none h1 hq2
 have hq0:H q=none:=e1.free hq2
 have okn:∀ y,y=x\/Way ps x y->PyData.strOk y=true:=fun y hy=>by
  rcases hy with rfl | hy
  . exact hx
  obtain⟨pr,hpr,e⟩:=List.mem_map.mp hy.right
  exact e ▸ (hok pr hpr).2
 refine Nj (fun m σ H3=>∃ fs ls x4 x5 x6,σ=[some v,some (.str x),some (.ref p),some (.ref q),x4,x5,x6]/\Same H H3/\H3 p=some (.lst (fs.map V.str))/\H3 q=some (.lst (ls.map V.str))/\BhI ps x fs ls/\m=2*(ps.length-fs.length)+ls.length)
  (2*(ps.length-([]:List Str).length)+[x].length) ⟨[],[x],_,_,_,rfl,by walk_at "sm",by walk_at "lk",h2,⟨by simp,fun _ h=>(by cases h),fun z hz=>.inl (by simpa using hz),fun z hz hn=>(by
   rcases hz with rfl | hz
   . exact absurd (by simp) hn
   cases hz),by simp⟩,rfl⟩ fun m σ H3 hP=>?_
 obtain⟨fs,ls,x4,x5,x6,rfl,e3,h3p,h3q,hB,rfl⟩:=hP
 walk_at "rd"
 refine B2 (by decide) fun t H4 ht4 e4 h4=>?_
 refine X3 (dx:=.list (ls.map PyData.str)) (dy:=.list []) (Is.of_lst (SqL.of (e4 _ _ h3q)) (E6 ls)) (Is.of_lst (SqL.of h4) .nil) (Dz fun z hz=>?_) (by rfl) ?_
 . refine okn z ?_
   rcases hB.line z hz with e | e
   . exact .inl e
   exact .inr (hB.way z e)
 rw[Ec]
 walk_at "rd"
 refine Q4 (fun hE=>?_) (fun hE=>?_)
 . have hne:ls≠[]:=by
    intro e
    subst e
    cases hE
   obtain⟨ls',here,rfl⟩:∃ ls' here,ls=ls'++[here]:=⟨ls.dropLast,ls.getLast hne,(List.dropLast_concat_getLast hne).symm⟩
   refine Sw ?_
   walk_at "rd"
   have h4p:H4 p=some (.lst (fs.map V.str)):=e4 _ _ h3p
   have h4q:H4 q=some (.lst (ls'.map V.str++[V.str here])):=by rw[e4 _ _ h3q,List.map_append];rfl
   refine Zt h4q fun H5 e5 h5q=>?_
   walk_at "rd"
   have h5p:H5 p=some (.lst (fs.map V.str)):=e5 _ _ hpq h4p
   have e05:Same H H5:=by walk_at "sm"
   refine Vo (hI.hf_fz e05.fz) fun u hI5=>?_
   have hle:=hB.le
   have hfew:=hB.few
   rw[List.length_append,List.length_singleton] at hfew
   refine Vc hI5 (fun i σ H6=>∃ gs ms x5 x6,σ=[some v,some (.str x),some (.ref p),some (.ref q),some (.str here),x5,x6]/\Same H H6/\Fz H5 H6/\H6 p=some (.lst (gs.map V.str))/\H6 q=some (.lst (ms.map V.str))/\BhJ ps x here fs ls' gs ms i)
    ⟨fs,ls',_,_,rfl,e05,.refl _,h5p,h5q,⟨hB.nd,hB.way,fun z hz=>hB.line z (List.mem_append_left _ hz),fun _ h=>h,fun _ h=>h,fun _ h=>.inl h,fun j hj=>absurd hj (Nat.not_lt_zero _),rfl⟩⟩ (fun i σ' H' hP=>?_) (fun i pr w σ' H6 hpr hIp hP=>?_) (fun σ' H6 hP=>?_)
   . obtain⟨_,_,_,_,_,_,fz,_⟩:=hP
     exact fz
   . obtain⟨gs,ms,x5',x6',rfl,e6,fz6,h6p,h6q,hJ⟩:=hP
     have hgl:=hJ.le
     have hml:=hJ.len
     refine X1 hIp ?_
     walk_at "rd"
     refine Jc (fun h1=>?_) (fun h1=>?_)
     . have h1':pr.1=here:=by injection h1
       walk_at "rd"
       refine No (SqL.of h6p) ?_
       walk_at "rd"
       refine Yl (fun h2=>?_) (fun h2=>?_)
       . walk_at "rd"
         refine Ia h6p (by rw[List.length_map];omega) fun H7 e7 h7p=>?_
         walk_at "rd"
         have h7q:H7 q=some (.lst (ms.map V.str)):=e7 _ _ (Ne.symm hpq) h6q
         refine Ia h7q (by rw[List.length_map];omega) fun H8 e8 h8q=>?_
         walk_at "rd"
         refine⟨gs++[pr.2],ms++[pr.2],_,_,rfl,by walk_at "sm",(fz6.trans (e7.fzL h6p)).trans (e8.fzL h7q),?_,?_,hJ.step ?_ hpr h1' h2⟩
         . rw[e8 _ _ hpq h7p,List.map_append]
           rfl
         . rw[h8q,List.map_append]
           rfl
         rcases hB.line here (List.mem_append_right _ (by simp)) with e | e
         . exact .inl e
         exact .inr (hB.way _ e)
       exact⟨gs,ms,_,_,rfl,e6,fz6,h6p,h6q,hJ.skip hpr fun _=>h2⟩
     exact⟨gs,ms,_,_,rfl,e6,fz6,h6p,h6q,hJ.skip hpr fun e=>absurd (by rw[e]) h1⟩
   obtain⟨gs,ms,x5',x6',rfl,e6,fz6,h6p,h6q,hJ⟩:=hP
   have hgl:=hJ.le
   have hml:=hJ.len
   have hge:=Cr hB.nd hJ.keep
   refine⟨_,?_,gs,ms,_,_,_,rfl,e6,h6p,h6q,BhJ.done hB hJ,rfl⟩
   rw[List.length_append,List.length_singleton]
   omega
 have hn:ls=[]:=by
  cases ls with
  | nil=>rfl
  | cons _ _=>cases hE
 subst hn
 walk_at "rd"
 refine k p fs H4 hp1 (by walk_at "sm") (e4 _ _ h3p) hB.nd fun y=>⟨hB.way y,fun g=>?_⟩
 exact Way.shut (S:=fun y=>y∈fs) (fun y hy=>hB.shut x (.inl rfl) (by simp) y hy) (fun z y hz hy=>hB.shut z (.inr hz) (by simp) y hy) g
def Ed (K:PySem.W.Frag):Sp:=fun vs H Q _=>∃ d l n,vs=[.ref d,.int n]/\Feed H d l/\0<=n/\n<=10/\∀ v ns ps H',ExtBut d H H'->Feed H' d l->Is K H' (hfD ns ps) v->Half ns ps->ns.length<=n.toNat->Q v H'
theorem Y6 {ns ls:List Str}{ps:List (Str×Str)}(h:Names ns)(hl:ns.length<=10)(p:ls.Perm ns)(u:Up ls ps)(hp:ps.length<=60):Half ns ps:=⟨h,hl,hp,ls,p,u⟩
theorem Sz {ns:List Str}{ys:List V}(h:ys.Perm (ns.map V.str)):∃ ls:List Str,ys=ls.map V.str/\ls.Perm ns:=by
 refine⟨ys.map fun v=>match v with | .str z=>z | _=>"",?_,?_⟩
 . rw[List.map_map]
   have:∀ v∈ys,(V.str∘fun v=>match v with | .str z=>z | _=>"") v=v:=fun v hv=>by
    obtain⟨z,_,rfl⟩:=List.mem_map.mp (h.mem_iff.mp hv)
    rfl
   rw[List.map_congr_left this]
   simp
 have:=h.map fun v=>match v with | .str z=>z | _=>("":Str)
 rw[List.map_map] at this
 have e:ns.map ((fun v=>match v with | .str z=>z | _=>("":Str))∘V.str)=ns:=by
  rw[show((fun v=>match v with | .str z=>z | _=>("":Str))∘V.str)=id from rfl,List.map_id]
 rw[e] at this
 exact this
theorem Mi {f:Addr}{fd:FuncData}(F:Fun K "_law_half" "_law_half" Co f fd)(T:Fb mg)(c__law_draw:Fnd P w K mg base 1 "_law_draw" ["_law_feed_here","_law_many"] (Ar K))(c__law_names:Fnd P w K mg base 2 "_law_names" ["_law_feed_here","_law_many"] (E5 K))(c__law_shuffled:Fnd P w K mg base 2 "_law_shuffled" ["_law_feed_here","_law_some"] (Cy K))(c__law_sayings:Fnd P w K mg base 3 "_law_sayings" ["_law_feed_here","_law_line"] (Di K)):FnOk P w K mg base CX0 4 f fd ["_law_feed_here","_law_most"] (Ed K):=by
 refine F.ok sc__law_half (fun vs H Q E h=>?_) (fun cdv A outer s H vs Q E hr h=>?_)
 . obtain⟨d,l,n,rfl,_⟩:=h
   rfl
 obtain⟨d,l,n,rfl,hF,h0,h10,k⟩:=h
 have hu:=C0 hr
 have hq:=By hr
 with_reducible refine⟨_,(A2 (Aa (i:=2) sc__law_half.nd (by ac_nf) (by eq_refl) (Ai c__law_names (hr.mono (by decide)) (by ac_nf) (A0 (pv 0) (A0 (Ai c__law_draw (hr.mono (by decide)) (by ac_nf) (A0 (pv 0) (A0 (Ae (Ac (K:=K)) (pv 1) A3) A1))) A1))))
  (A5 (Am (B1 (A0 (Ao (Bk (K:=K)) (by ac_nf) T.b_tuple PyProof.Rows.Boot.«tuple» (A0 (pv 2) A1)) (A0 (Ai c__law_sayings (hr.mono (by decide)) (by ac_nf) (A0 (pv 0) (A0 (Ai c__law_shuffled (hr.mono (by decide)) (by ac_nf) (A0 (pv 0) (A0 (pv 2) A1))) A1))) A1)))))),?_⟩
 walk_at "rd"
 refine⟨d,l,_,rfl,hF,by omega,by omega,fun u H1 hu0 hu1 e1 hF1=>?_⟩
 walk_at "rd"
 refine⟨d,l,_,rfl,hF1,by omega,by omega,fun p2 ns H2 hp2 e2 hF2 h2 hN hl=>?_⟩
 walk_at "rd"
 refine G0 (SqL.of h2) fun t3 H3 ht3 e3 h3=>?_
 have hF3:=hF2.same e3
 have hI3:Is K H3 (nmD ns) (.ref t3):=J0 (SqT.of h3)
 walk_at "rd"
 refine⟨d,l,p2,_,rfl,hF3,.inl (SqL.of (e3 _ _ h2)),by rw[List.length_map];omega,fun p4 ys4 H4 hp4 e4 hF4 h4 hperm=>?_⟩
 obtain⟨ls,rfl,hpm⟩:=Sz hperm
 have fz4:=hF3.fz e4
 walk_at "rd"
 refine⟨d,l,p4,ls,rfl,hF4,h4,by rw[hpm.length_eq];omega,fun v5 ps H5 e5 hF5 hI5 hU hl5=>?_⟩
 have fz5:=hF4.fz e5
 walk_at "rd"
 refine At (A6 (by simp)) fun t6 H6 ht6 e6 h6=>?_
 exact k (.ref t6) ns ps H6 (by walk_at "fr") (by walk_at "fd") (Xh (SqT.of h6) (hI3.nm_fz ((fz4.trans fz5).trans e6.fz)) (hI5.ps_fz e6.fz)) (Y6 hN (by omega) hpm hU hl5) (by omega)
def Yc:PyData->Bool
 | .tuple _=>true
 | _=>false
def a85:PyData->Bool
 | .str _=>true
 | _=>false
theorem K0 {K:PySem.W.Frag}{H:Hp}{Q:VK}{D:PyData}{v:V}(h:Is K H D v)(k:Q (.bl (Yc D)) H):Ej K [v,.ty "tuple"] H Q:=by
 cases D with
 | none=>simp only[Is] at h;subst h;exact Ht .non (b:=false) (by rfl) k
 | bool b=>simp only[Is] at h;subst h;exact Ht (.bl b) (b:=false) (by rfl) k
 | int b=>simp only[Is] at h;subst h;exact Ht (.int b) (b:=false) (by rfl) k
 | str b=>simp only[Is] at h;subst h;exact Ht (.str b) (b:=false) (by rfl) k
 | list ds=>simp only[Is] at h;obtain⟨a,xs,rfl,h1,_⟩:=h;exact Vf h1 (b:=false) (by rfl) k
 | tuple ds=>simp only[Is] at h;obtain⟨a,xs,rfl,h1,_⟩:=h;exact Vk h1 (b:=true) (by rfl) k
 | dict _=>simp only[Is] at h
theorem W3 {K:PySem.W.Frag}{H:Hp}{Q:VK}{D:PyData}{v:V}(h:Is K H D v)(k:Q (.bl (a85 D)) H):Ej K [v,.ty "str"] H Q:=by
 cases D with
 | none=>simp only[Is] at h;subst h;exact Ht .non (b:=false) (by rfl) k
 | bool b=>simp only[Is] at h;subst h;exact Ht (.bl b) (b:=false) (by rfl) k
 | int b=>simp only[Is] at h;subst h;exact Ht (.int b) (b:=false) (by rfl) k
 | str b=>simp only[Is] at h;subst h;exact Ht (.str b) (b:=true) (by rfl) k
 | list ds=>simp only[Is] at h;obtain⟨a,xs,rfl,h1,_⟩:=h;exact Vf h1 (b:=false) (by rfl) k
 | tuple ds=>simp only[Is] at h;obtain⟨a,xs,rfl,h1,_⟩:=h;exact Vk h1 (b:=false) (by rfl) k
 | dict _=>simp only[Is] at h
mutual
def lfs:PyData->Nat
 | .str _=>1
 | .list ds=>Ez ds
 | .tuple ds=>Ez ds
 | _=>0
def Ez:List PyData->Nat
 | []=>0
 | d :: ds=>lfs d+Ez ds
end
theorem Fx:∀ as bs:List PyData,Ez (as++bs)=Ez as+Ez bs
 | [],bs=>by simp only[List.nil_append,Ez];omega
 | a :: as,bs=>by
   have:=Fx as bs
   simp only[List.cons_append,Ez]
   omega
theorem W5:∀ as:List PyData,Ez as.reverse=Ez as
 | []=>rfl
 | a :: as=>by
   have:=W5 as
   rw[List.reverse_cons,Fx,this]
   simp only[Ez]
   omega
theorem J4 (ds:List PyData)(n:Nat):Ez (ds.take n)<=Ez ds:=by
 have:=Fx (ds.take n) (ds.drop n)
 rw[List.take_append_drop] at this
 omega
theorem R3 (ds:List PyData)(n:Nat):Ez (ds.drop n)<=Ez ds:=by
 have:=Fx (ds.take n) (ds.drop n)
 rw[List.take_append_drop] at this
 omega
theorem Dm (ds:List PyData):lfs (.tuple ds)=Ez ds:=by simp only[lfs]
theorem Zn (ds:List PyData):lfs (.list ds)=Ez ds:=by simp only[lfs]
theorem Oo (z:Str):lfs (.str z)=1:=by simp only[lfs]
def OddL (K:PySem.W.Frag)(H:Hp)(p:Addr)(n w W M N0:Nat):Prop:=∃ ys es,H p=some (.lst ys)/\IsL K H es ys/\(∀ e∈es,Dk n w W e/\lfs e<=M)/\es≠[]/\es.length<=N0
theorem OddL.le {K:PySem.W.Frag}{H:Hp}{p:Addr}{n w W M N0 N1:Nat}(h:OddL K H p n w W M N0)(h1:N0<=N1):OddL K H p n w W M N1:=let ⟨ys,es,a,b,c,d,e⟩:=h;⟨ys,es,a,b,c,d,Nat.le_trans e h1⟩
def E7 (K:PySem.W.Frag):Sp:=fun vs H Q _=>∃ d l v D n w W M,vs=[.ref d,v]/\Feed H d l/\Is K H D v/\Dk n w W D/\n<=20/\w<=100000/\2<=W/\lfs D<=M/\∀ v' D' H',ExtBut d H H'->Feed H' d l->Is K H' D' v'->Dk (n+2) (2*w+200) (W+1) D'->lfs D'<=2*M+2->Q v' H'
theorem Xv:∀ e∈[PyData.none,.bool true,.bool false,.int (-1),.int 0,.int 1,.int (10 ^ 39),.str "",.str "a",.str "A",.str "abcdefghi",.str "a b",.str "a{",.tuple [],.list [],.tuple [.str "a"],.tuple [.str "a",.str "b"]],Dk 2 200 2 e:=by
 intro e he
 simp only[List.mem_cons,List.not_mem_nil,or_false] at he
 rcases he with rfl | rfl | rfl | rfl | rfl | rfl | rfl | rfl | rfl | rfl | rfl | rfl | rfl | rfl | rfl | rfl | rfl<;>exact⟨by decide +kernel,by decide +kernel,by decide +kernel,by decide +kernel,by decide +kernel,by decide +kernel,by decide +kernel⟩
theorem Wn:∀ e∈[PyData.none,.bool true,.bool false,.int (-1),.int 0,.int 1,.int (10 ^ 39),.str "",.str "a",.str "A",.str "abcdefghi",.str "a b",.str "a{",.tuple [],.list [],.tuple [.str "a"],.tuple [.str "a",.str "b"]],lfs e<=2:=by
 intro e he
 simp only[List.mem_cons,List.not_mem_nil,or_false] at he
 rcases he with rfl | rfl | rfl | rfl | rfl | rfl | rfl | rfl | rfl | rfl | rfl | rfl | rfl | rfl | rfl | rfl | rfl<;>decide +kernel
theorem Jz:∀ ds:List PyData,ds.length<=PyData.weightAll ds
 | []=>by simp
 | d :: ds=>by
   have:=Jz ds
   simp only[List.length_cons,PyData.weightAll]
   omega
theorem Nc {α:Type}{es:List α}{e:α}:∀ {k:Nat},e∈(List.replicate k es).flatten->e∈es
 | 0,h=>by cases h
 | k+1,h=>by
   rw[List.replicate_succ,List.flatten_cons] at h
   exact(List.mem_append.mp h).elim id fun h=>Nc h
theorem Nm {K:PySem.W.Frag}{H:Hp}{es:List PyData}{ys:List V}(h:IsL K H es ys):∀ k:Nat,IsL K H (List.replicate k es).flatten (List.replicate k ys).flatten
 | 0=>.nil
 | k+1=>by
   rw[List.replicate_succ,List.flatten_cons,List.replicate_succ,List.flatten_cons]
   exact IsL.append h (Nm h k)
def Nf (ds:List PyData)(lo hi:Option Int):List PyData:=(ds.drop (HT.sIx ds.length 0 lo)).take (HT.sIx ds.length ds.length hi-HT.sIx ds.length 0 lo)
theorem Qz {K:PySem.W.Frag}{H:Hp}:∀ {es:List PyData} {ys:List V},IsL K H es ys->IsL K H es.reverse ys.reverse
 | [],ys,h=>by simp only[L2.IsL] at h;subst h;exact .nil
 | e :: es,ys,h=>by
   simp only[L2.IsL] at h
   obtain⟨v,r,rfl,h1,h2⟩:=h
   rw[List.reverse_cons,List.reverse_cons]
   exact IsL.append (Qz h2) (.one h1)
theorem Um {z:Str}(h:Asc z):Asc (Txt.slice z none (some (-1)))/\(Txt.slice z none (some (-1))).length<=z.length:=by
 refine⟨fun c hc=>?_,Txt.slice_le ..⟩
 unfold Txt.slice at hc
 split at hc
 . exact h c hc
 rw[List.toList_toArray] at hc
 obtain⟨i,_,hi⟩:=List.mem_filterMap.mp hc
 exact h c (Array.mem_toList_iff.mpr (Array.mem_of_getElem? hi))
theorem Ng {f:Addr}{fd:FuncData}(F:Fun K "_law_odd" "_law_odd" Da f fd)(T:Fb mg)(c__law_draw:Fnd P w K mg base 1 "_law_draw" ["_law_feed_here","_law_many"] (Ar K)):FnOk P w K mg base CX0 2 f fd ["_law_feed_here","_law_part"] (E7 K):=by
 refine F.ok sc__law_odd (fun vs H Q E h=>?_) (fun cdv A outer s H vs Q E hr h=>?_)
 . obtain⟨d,l,v,D,n,w,W,M,rfl,_⟩:=h
   rfl
 obtain⟨d,l,v,D,n,w,W,M,rfl,hF,hI,hD,hn,hw,hW2,hM,k⟩:=h
 have hu:=C0 hr
 have hq:=By hr
 with_reducible refine⟨_,(A2 (Aa (i:=2) sc__law_odd.nd (by ac_nf) (by eq_refl) (Az (A0 Te (A0 Ey (A0 Ey (A0 (Pj Jp A3) (A0 A3 (A0 A3 (A0 (Ae Vy A3 A3) (A0 Al (A0 Al (A0 Al (A0 Al (A0 Al (A0 Al (A0 (B1 A1) (A0 (Az A1) (A0 (B1 (A0 Al A1)) (A0 (B1 (A0 Al (A0 Al A1))) A1)))))))))))))))))))
  (A2 (C1 (Cu (A7 (Aw (K:=K)) (by ac_nf) T.b_isinstance PyProof.Rows.Boot.«isinstance» (A0 (pv 1) (A0 (Dh (v:=.ty "tuple") (by ac_nf) T.b_tuple PyProof.Rows.Boot.«tuple» (by ac_nf)) A1)))) (A5 (Aa (i:=2) sc__law_odd.nd (by ac_nf) (by eq_refl) (Ae (Ac (K:=K)) (pv 2) (Ae C9 (Az (A0 (Ao (Dt (K:=K)) (by ac_nf) T.b_list PyProof.Rows.Boot.«list» (A0 (pv 1) A1)) (A0 (Ae (Ac (K:=K)) (pv 1) (B1 (A0 Al A1))) (A0 (Au (K4 (K:=K)) (pv 1) Bz (B3 (Pj Jp A3))) (A0 (Au (K4 (K:=K)) (pv 1) (B3 A3) Bz) (A0 (Ae (Ac (K:=K)) (pv 1) (Au (K4 (K:=K)) (pv 1) Bz (B3 A3))) (A0 (B1 (A0 (pv 1) A1)) (A0 (V1 (K:=K) (pv 1) (Pj Jp A3)) A1)))))))) A3)))) An)
  (A2 (C1 (Cu (A7 (Aw (K:=K)) (by ac_nf) T.b_isinstance PyProof.Rows.Boot.«isinstance» (A0 (pv 1) (A0 (Dh (v:=.ty "str") (by ac_nf) T.b_str PyProof.Rows.Boot.«str» (by ac_nf)) A1)))) (A5 (Aa (i:=2) sc__law_odd.nd (by ac_nf) (by eq_refl) (Ae (Ac (K:=K)) (pv 2) (Ae C9 (Az (A0 (Ae (Ac (K:=K)) (pv 1) Al) (A0 (Au (K4 (K:=K)) (pv 1) Bz (B3 (Pj Jp A3))) (A0 (Qy (K:=K) PySem.F.plainAttrs_str PySem.F.slot_str_upper PySem.F.type_str_upper U8 (pv 1)) (A0 (B1 (A0 (pv 1) A1)) (A0 (Ae (Ac (K:=K)) (pv 1) Al) A1)))))) A3)))) An)
  (A5 (Am (Ap (A8 (K:=K) hu) (pv 2) (Ai c__law_draw (hr.mono (by decide)) (by ac_nf) (A0 (pv 0) (A0 (A7 (Ah (K:=K)) (by ac_nf) T.b_len PyProof.Rows.Boot.«len» (A0 (pv 2) A1)) A1))) (by ac_rfl))))))),?_⟩
 walk_at "rd"
 refine At (A6 (by simp)) fun t1 H1 ht1 e1 h1=>?_
 walk_at "rd"
 refine B2 (A6 (by simp)) fun t2 H2 ht2 e2 h2=>?_
 walk_at "rd"
 refine At (A6 (by simp)) fun t3 H3 ht3 e3 h3=>?_
 walk_at "rd"
 refine At (A6 (by simp)) fun t4 H4 ht4 e4 h4=>?_
 walk_at "rd"
 refine B2 (A6 (by simp)) fun p H5 hp e5 h5=>?_
 have e15:=(((e1.trans e2).trans e3).trans e4).trans e5
 have hL5:OddL K H5 p (n+2) (2*w+200) (W+1) (2*M+2) 17:=by
  refine⟨_,_,h5,?_,fun e he=>⟨(Xv e he).le (by omega) (by omega),Nat.le_trans (Wn e he) (by omega)⟩,by simp,by simp⟩
  have a1:=((((e2.trans e3).trans e4).trans e5)) _ _ h1
  have a2:=((e3.trans e4).trans e5) _ _ h2
  have a3:=(e4.trans e5) _ _ h3
  have a4:=e5 _ _ h4
  exact .cons (by simp only[Is]) (.cons Wk (.cons Wk (.cons Fv (.cons Fv (.cons Fv (.cons Fv (.cons Bi (.cons Bi (.cons Bi (.cons Bi (.cons Bi (.cons Bi (.cons (Is.of_tup (SqT.of a1) .nil) (.cons (Is.of_lst (SqL.of a2) .nil) (.cons (Is.of_tup (SqT.of a3) (.one Bi)) (.one (Is.of_tup (SqT.of a4) (.cons Bi (.one Bi)))))))))))))))))))
 have hI5:=Is.mono e15 _ _ hI
 clear h1 h2 h3 h4 h5
 walk_at "rq"
 with_reducible refine Kh (fun σ' H'=>∃ p,σ'=[some (V.ref d),some v,some (.ref p)]/\Same H H'/\OddL K H' p (n+2) (2*w+200) (W+1) (2*M+2) 52) (fun N hN=>?_) (fun σ1 H6 hM=>?_)
 . walk_at "rq"
   refine K0 hI5 ⟨_,rfl,?_⟩
   cases hT:Yc D with
   | false=>
     walk_at "rq"
     exact hN _ _ ⟨p,rfl,e15,hL5.le (by decide)⟩
   | true=>
     obtain⟨ds,rfl⟩:∃ ds,D = .tuple ds:=by cases D<;>first | exact⟨_,rfl⟩ | cases hT
     obtain⟨va,xs,rfl,hS,hX⟩:=hI5.tup
     obtain⟨m,rfl⟩:∃ m,n=m+1:=⟨n-1,by have:=hD.dp;simp only[PyData.depth] at this;omega⟩
     have hE:=hD.els
     have hxl:=IsL.length hX
     have hwl:ds.length<=w:=Nat.le_trans (Jz ds) hE.wt
     obtain⟨ys,es,h5,hy,hes,hne,hel⟩:=hL5
     have hyl:=IsL.length hy
     walk_at "rq"
     refine Ky (.inr hS) fun q1 H6 hq1 f1 g1=>?_
     walk_at "rq"
     refine At (A6 (by simp)) fun q2 H7 hq2 f2 g2=>?_
     have f12:=f1.trans f2
     refine Jw (f12.seqT hS) (SqT.of g2) (A6 (by simp;omega)) fun q3 H8 f3 g3=>?_
     walk_at "rq"
     have f13:=f12.trans f3
     refine Na (f13.seqT hS) fun q4 H9 f4 g4=>?_
     have f14:=f13.trans f4
     walk_at "rq"
     refine Na (f14.seqT hS) fun q5 H10 f5 g5=>?_
     have f15:=f14.trans f5
     walk_at "rq"
     refine Na (f15.seqT hS) fun q6 H11 f6 g6=>?_
     have f16:=f15.trans f6
     rw[Ev (by omega)] at g6
     refine Jw (f16.seqT hS) g6 (A6 (by simp;omega)) fun q7 H12 f7 g7=>?_
     have f17:=f16.trans f7
     walk_at "rq"
     refine At (A6 (by simp)) fun q8 H13 hq8 f8 g8=>?_
     have f18:=f17.trans f8
     walk_at "rq"
     refine Wu (f18.seqT hS) fun q9 H14 hq9 f9 g9=>?_
     have f19:=f18.trans f9
     walk_at "rq"
     refine B2 (A6 (by simp)) fun q10 H15 hq10 f10 g10=>?_
     have f110:=f19.trans f10
     walk_at "rq"
     refine .inl (T1 g10 ⟨by decide,by decide⟩ (A6 (by simp)) fun q11 H16 hq11 f11 g11=>?_)
     have f111:=f110.trans f11
     refine Js (f111 _ _ h5) g11 (A6 (by rw[I0,<- hyl];simp;omega)) fun q12 H17 hq12 f12' g12=>?_
     have fin:=f111.trans f12'
     walk_at "rq"
     refine hN _ _ ⟨q12,rfl,e15.trans fin,_,es++(List.replicate 5 [.list ds,.tuple (ds++[.str "zz"]),.tuple (Nf ds none (some (-1))),.tuple (Nf ds (some 1) none),.tuple (ds++ds.take 1),.tuple [.tuple ds],.tuple ds.reverse]).flatten,g12,IsL.append (IsL.mono fin _ _ hy) (Nm ?_ 5),fun e he=>?_,?_,?_⟩
     . have hXf:=IsL.mono fin _ _ hX
       have s9:=(f10.trans f11).trans f12'
       have s8:=f9.trans s9
       have s7:=f8.trans s8
       have s6:=f7.trans s7
       have s5:=f6.trans s6
       have s4:=f5.trans s5
       have s3:=f4.trans s4
       have s1:=(f2.trans f3).trans s3
       refine .cons (Is.of_lst (SqL.of (s1 _ _ g1)) hXf) (.cons (Is.of_tup (s3.seqT g3) (IsL.append hXf (.one Bi))) (.cons (Is.of_tup (s4.seqT g4) (Gc hXf _ _)) (.cons (Is.of_tup (s5.seqT g5) (Gc hXf _ _)) (.cons (Is.of_tup (s7.seqT g7) (IsL.append hXf (IsL.take 1 hXf))) (.cons (Is.of_tup (SqT.of (s8 _ _ g8)) (.one (Is.of_tup (fin.seqT hS) hXf))) (.one (Is.of_tup (SqT.of (s9 _ _ g9)) (Qz hXf))))))))
     . rcases List.mem_append.mp he with he | he
       . exact hes e he
       have he:=Nc he
       have zz:Dk m 2 W (.str "zz"):=Gi (by unfold Asc;decide +kernel) (by decide +kernel)
       have hM':Ez ds<=M:=by rw[<- Dm];exact hM
       have ht1:=J4 ds 1
       simp only[List.mem_cons,List.not_mem_nil,or_false] at he
       rcases he with rfl | rfl | rfl | rfl | rfl | rfl | rfl
       . exact⟨(a56 hE).le (by omega) (by omega),by rw[Zn];omega⟩
       . exact⟨(Cv (hE.app (.one zz (by omega)) (W':=W+1) (by have:=hE.len;simp;omega) (by omega))).le (by omega) (by omega),by rw[Dm,Fx];simp only[Ez,lfs];omega⟩
       . exact⟨(Cv ((hE.drop _).take _)).le (by omega) (by omega),by rw[Dm];exact Nat.le_trans (Nat.le_trans (J4 _ _) (R3 _ _)) (by omega)⟩
       . exact⟨(Cv ((hE.drop _).take _)).le (by omega) (by omega),by rw[Dm];exact Nat.le_trans (Nat.le_trans (J4 _ _) (R3 _ _)) (by omega)⟩
       . exact⟨(Cv (hE.app (hE.take 1) (W':=W+1) (by have:=hE.len;rw[List.length_take];omega) (by omega))).le (by omega) (by omega),by rw[Dm,Fx];omega⟩
       . exact⟨(Cv (.one hD (by omega))).le (by omega) (by omega),by rw[Dm];simp only[Ez,lfs];omega⟩
       exact⟨(Cv hE.rev).le (by omega) (by omega),by rw[Dm,W5];omega⟩
     . simp
     rw[List.length_append,I0]
     simp
     omega
 obtain⟨p,rfl,e6,hL6⟩:=hM
 have hI6:=Is.mono e6 _ _ hI
 walk_at "rq"
 with_reducible refine Kh (fun σ' H'=>∃ p,σ'=[some (V.ref d),some v,some (.ref p)]/\Same H H'/\OddL K H' p (n+2) (2*w+200) (W+1) (2*M+2) 72) (fun N hN=>?_) (fun σ1 H7 hM=>?_)
 . walk_at "rq"
   refine W3 hI6 ⟨_,rfl,?_⟩
   cases hT:a85 D with
   | false=>
     walk_at "rq"
     exact hN _ _ ⟨p,rfl,e6,hL6.le (by decide)⟩
   | true=>
     obtain⟨z,rfl⟩:∃ z,D = .str z:=by cases D<;>first | exact⟨_,rfl⟩ | cases hT
     have hv:v = .str z:=by simpa only[Is] using hI6
     subst hv
     obtain⟨hz,hzl⟩:=hD.str
     obtain⟨hz1,hz2⟩:=Se hz
     obtain⟨hc1,hc2⟩:=Um hz
     have ha:Asc "a":=by unfold Asc;decide +kernel
     have ht:Asc "~":=by unfold Asc;decide +kernel
     have hle:∀ c:Str,c.length=1->(z++c).length<=w+1:=fun c hc=>by rw[Wh];omega
     obtain⟨ys,es,h5,hy,hes,hne,hel⟩:=hL6
     have hyl:=IsL.length hy
     walk_at "rq"
     refine i_addS (A6 (by rw[show(("a":Str)).length=1 by decide +kernel];omega)) ?_
     walk_at "rq"
     refine Y1 (by omega) ?_
     walk_at "rq"
     refine At (A6 (by simp)) fun q1 H7 hq1 f1 g1=>?_
     walk_at "rq"
     refine i_addS (A6 (by rw[show(("~":Str)).length=1 by decide +kernel];omega)) ?_
     walk_at "rq"
     refine B2 (A6 (by simp)) fun q2 H8 hq2 f2 g2=>?_
     walk_at "rq"
     refine .inl (T1 g2 ⟨by decide,by decide⟩ (A6 (by simp)) fun q3 H9 hq3 f3 g3=>?_)
     have f13:=(f1.trans f2).trans f3
     refine Js (f13 _ _ h5) g3 (A6 (by rw[I0,<- hyl];simp;omega)) fun q4 H10 hq4 f4 g4=>?_
     have fin:=f13.trans f4
     walk_at "rq"
     refine hN _ _ ⟨q4,rfl,e6.trans fin,_,es++(List.replicate 4 [.str (z ++ "a"),.str (Txt.slice z none (some (-1))),.str (Txt.upper z),.tuple [.str z],.str (z ++ "~")]).flatten,g4,IsL.append (IsL.mono fin _ _ hy) (Nm (.cons Bi (.cons Bi (.cons Bi (.cons (Is.of_tup (SqT.of (((f2.trans f3).trans f4) _ _ g1)) (.one Bi)) (.one Bi))))) 4),fun e he=>?_,?_,?_⟩
     . rcases List.mem_append.mp he with he | he
       . exact hes e he
       have he:=Nc he
       simp only[List.mem_cons,List.not_mem_nil,or_false] at he
       rcases he with rfl | rfl | rfl | rfl | rfl
       . exact⟨Gi (hz.app ha) (Nat.le_trans (hle _ (by decide +kernel)) (by omega)),by rw[Oo];omega⟩
       . exact⟨Gi hc1 (by omega),by rw[Oo];omega⟩
       . exact⟨Gi hz1 (by omega),by rw[Oo];omega⟩
       . exact⟨(Cv (.one (Gi (p:=n) (W:=W) hz (Nat.le_refl _)) (by omega))).le (by omega) (by omega),by rw[Dm];simp only[Ez,lfs];omega⟩
       exact⟨Gi (hz.app ht) (Nat.le_trans (hle _ (by decide +kernel)) (by omega)),by rw[Oo];omega⟩
     . simp
     rw[List.length_append,I0]
     simp
     omega
 obtain⟨p,rfl,e7,ys,es,h7,hy,hes,hne,hel⟩:=hM
 have hyl:=IsL.length hy
 have hpos:0<es.length:=List.length_pos_iff.mpr hne
 have hF7:=hF.same e7
 walk_at "rd"
 refine⟨d,l,_,rfl,hF7,by omega,by omega,fun b H8 hb0 hb1 e8 hF8=>?_⟩
 have h8:=e8 _ _ (hF7.lst h7) h7
 obtain⟨fa,ft,fu,fns,fd,_⟩:=hF7
 have hbl:b.toNat<ys.length:=by omega
 have hg:=List.getElem?_eq_getElem hbl
 generalize ys[b.toNat]'hbl=x at hg
 obtain⟨D',hD',hIx⟩:=IsL.get hy hg
 walk_at "rd"
 refine Fo h8 (show atI _ b=some x from by have:=Dr hg;rwa[Int.toNat_of_nonneg hb0] at this) ?_
 walk_at "rd"
 exact k _ D' _ (ExtBut.after e7 e8) hF8 (Is.off fd e8 _ _ hIx) (hes D' (List.mem_of_getElem? hD')).1 (hes D' (List.mem_of_getElem? hD')).2
theorem a55 (ds:List PyData){t:Int}(h:0<=t):Nf ds none (some t)=ds.take t.toNat:=by
 have e1:HT.sIx ds.length ds.length (some t)=min t.toNat ds.length:=by unfold HT.sIx;simp[show ¬ t<0 by omega]
 have e3:HT.sIx ds.length 0 none=0:=rfl
 unfold Nf
 rw[e1,e3,List.drop_zero,Nat.sub_zero]
 by_cases hl:t.toNat<=ds.length
 . rw[Nat.min_eq_left hl]
 rw[Nat.min_eq_right (by omega),List.take_length,List.take_of_length_le (by omega)]
theorem Z4 (ds:List PyData){t:Int}(h:0<=t):Nf ds (some t) none=ds.drop t.toNat:=by
 have e2:HT.sIx ds.length 0 (some t)=min t.toNat ds.length:=by unfold HT.sIx;simp[show ¬ t<0 by omega]
 have e4:HT.sIx ds.length ds.length none=ds.length:=rfl
 unfold Nf
 rw[e2,e4]
 by_cases hl:t.toNat<=ds.length
 . rw[Nat.min_eq_left hl,List.take_of_length_le (by rw[List.length_drop];omega)]
 rw[Nat.min_eq_right (by omega),List.drop_length,List.take_nil,List.drop_eq_nil_of_le (by omega)]
theorem Uw {ds:List PyData}{i:Nat}{x:PyData}(h:ds[i]? = some x):Ez (ds.take i)+lfs x+Ez (ds.drop (i+1))=Ez ds:=by
 have hl:=(List.getElem?_eq_some_iff.mp h).1
 have e:ds=ds.take i++x :: ds.drop (i+1):=by
  have:=List.take_append_drop i ds
  rw[List.drop_eq_getElem_cons hl,(List.getElem?_eq_some_iff.mp h).2] at this
  exact this.symm
 have:=congrArg Ez e
 rw[Fx] at this
 simp only[Ez] at this
 omega
theorem Ux {K:PySem.W.Frag}{H:Hp}{Q:VK}{a:Addr}{xs:List V}(h:SqT K H a xs)(k:Q (.int xs.length) H):Pg K [.ref a] H Q:=.inl ⟨.ref a,_,rfl,.inr ⟨xs,h,rfl⟩,k⟩
theorem P3:∀ {ds:List PyData} {e:PyData},e∈ds->e.weight<=PyData.weightAll ds
 | d :: ds,e,h=>by
   simp only[PyData.weightAll]
   rcases List.mem_cons.mp h with rfl | h
   . omega
   have:=P3 h
   omega
theorem Ym (ds:List PyData){t:Int}(h:0<=t):PyData.weightAll (Nf ds none (some t))+PyData.weightAll (Nf ds (some (t+1)) none)<=PyData.weightAll ds:=by
 have e1:HT.sIx ds.length ds.length (some t)=min t.toNat ds.length:=by unfold HT.sIx;simp[show ¬ t<0 by omega]
 have e2:HT.sIx ds.length 0 (some (t+1))=min (t+1).toNat ds.length:=by unfold HT.sIx;simp[show ¬ t+1<0 by omega]
 have e3:HT.sIx ds.length 0 none=0:=rfl
 unfold Nf
 rw[e1,e2,e3,List.drop_zero,Nat.sub_zero]
 have a:=Gh (ds.take (min t.toNat ds.length)) (ds.drop (min t.toNat ds.length))
 rw[List.take_append_drop] at a
 have b:=S7 (ds.drop (min t.toNat ds.length)) (min (t+1).toNat ds.length-min t.toNat ds.length)
 rw[List.drop_drop,show min t.toNat ds.length+(min (t+1).toNat ds.length-min t.toNat ds.length)=min (t+1).toNat ds.length by omega] at b
 have c:=Ss (ds.drop (min (t+1).toNat ds.length)) (HT.sIx ds.length ds.length none-min (t+1).toNat ds.length)
 omega
def C8 (K:PySem.W.Frag)(m:Nat):Sp:=fun vs H Q _=>∃(d l:Addr) (v:V) (D:PyData) (n w W M j:Nat),vs=[.ref d,v,.int (j:Int)]/\Feed H d l/\Is K H D v/\Dk n w W D/\n<=20/\w<=100000/\2<=W/\lfs D<=M/\j<m/\∀ v' D' H',ExtBut d H H'->Feed H' d l->Is K H' D' v'->Dk (n+2) ((j+2)*w+200+j) (W+1) D'->lfs D'<=2*M+2->Q v' H'
theorem Fw {K:PySem.W.Frag}:∀ vs H Q E,¬ C8 K 0 vs H Q E:=fun vs H Q E h=>by
 obtain⟨d,l,v,D,n,w,W,M,j,_,_,_,_,_,_,_,_,h,_⟩:=h
 omega
def Eo (K:PySem.W.Frag):Sp:=C8 K 11
theorem Kq {f:Addr}{fd:FuncData}(F:Fun K "_law_bent" "_law_bent" Bx f fd)(T:Fb mg)(c__law_draw:Fnd P w K mg base 1 "_law_draw" ["_law_feed_here","_law_many"] (Ar K))(c__law_odd:Fnd P w K mg base 2 "_law_odd" ["_law_feed_here","_law_part"] (E7 K))(n:Nat)(c__law_bent:Fnd P w K mg base (3+n) "_law_bent" ["_law_feed_here","_law_part","_law_deep"] (C8 K n)):FnOk P w K mg base CX0 (3+n+1) f fd ["_law_feed_here","_law_part","_law_deep"] (C8 K (n+1)):=by
 refine F.ok sc__law_bent (fun vs H Q E h=>?_) (fun cdv A outer s H vs Q E hr h=>?_)
 . obtain⟨d,l,v,D,n',w,W,M,j,rfl,_⟩:=h
   rfl
 obtain⟨d,l,v,D,n',w,W,M,j,rfl,hF,hI,hD,hn,hw,hW2,hM,hj,k⟩:=h
 have hu:=C0 hr
 have hq:=By hr
 have hmul:2*w<=(j+2)*w:=Nat.mul_le_mul (by omega) (Nat.le_refl w)
 with_reducible refine⟨_,(A2 (C1 (PW.pt (K3 (Eb (Cu (A7 (Aw (K:=K)) (by ac_nf) T.b_isinstance PyProof.Rows.Boot.«isinstance» (A0 (pv 1) (A0 (Dh (v:=.ty "tuple") (by ac_nf) T.b_tuple PyProof.Rows.Boot.«tuple» (by ac_nf)) A1))))) (K3 (Ag (Bt (K:=K) hq) (A7 (Ah (K:=K)) (by ac_nf) T.b_len PyProof.Rows.Boot.«len» (A0 (pv 1) A1)) A3 (Aq _)) (K3 (Ag (Bt (K:=K) hq) (pv 2) A3 (Aq _)) (Iq (Ag (Bt (K:=K) hq) (Ai c__law_draw (hr.mono (by omega)) (by ac_nf) (A0 (pv 0) (A0 A3 A1))) A3 (Aq _))))))) (A5 (Am (Ai c__law_odd (hr.mono (by omega)) (by ac_nf) (A0 (pv 0) (A0 (pv 1) A1))))) An)
  (A2 (Aa (i:=3) sc__law_bent.nd (by ac_nf) (by eq_refl) (Ai c__law_draw (hr.mono (by omega)) (by ac_nf) (A0 (pv 0) (A0 (A7 (Ah (K:=K)) (by ac_nf) T.b_len PyProof.Rows.Boot.«len» (A0 (pv 1) A1)) A1))))
  (A5 (Am (Ae (Ac (K:=K)) (Ae (Ac (K:=K)) (Au (K4 (K:=K)) (pv 1) Bz (B3 (pv 3))) (B1 (A0 (Ai c__law_bent (hr.mono (by omega)) (by ac_nf) (A0 (pv 0) (A0 (Ap (A8 (K:=K) hu) (pv 1) (pv 3) (by ac_rfl)) (A0 (Ae K1 (pv 2) A3) A1)))) A1))) (Au (K4 (K:=K)) (pv 1) (B3 (Ae (Ac (K:=K)) (pv 3) A3)) Bz)))))),?_⟩
 walk_at "rd"
 refine K0 hI ⟨_,rfl,?_⟩
 cases hT:Yc D with
 | false=>
   walk_at "rd"
   exact⟨d,l,v,D,n',w,W,M,rfl,hF,hI,hD,hn,hw,hW2,hM,fun v' D' H' e' hF' hI' hD' hl'=>k v' D' H' e' hF' hI' (hD'.le (Nat.le_refl _) (by omega)) hl'⟩
 | true=>
   obtain⟨ds,rfl⟩:∃ ds,D = .tuple ds:=by cases D<;>first | exact⟨_,rfl⟩ | cases hT
   obtain⟨va,xs,rfl,hS,hX⟩:=hI.tup
   obtain⟨m,rfl⟩:∃ m,n'=m+1:=⟨n'-1,by have:=hD.dp;simp only[PyData.depth] at this;omega⟩
   have hE:=hD.els
   have hxl:=IsL.length hX
   have hwl:ds.length<=w:=Nat.le_trans (Jz ds) hE.wt
   walk_at "rd"
   refine Ux hS ?_
   walk_at "rd"
   refine Jc (fun hc=>?_) (fun hc=>?_)
   . walk_at "rd"
     exact⟨d,l,_,_,m+1,w,W,M,rfl,hF,hI,hD,hn,hw,hW2,hM,fun v' D' H' e' hF' hI' hD' hl'=>k v' D' H' e' hF' hI' (hD'.le (Nat.le_refl _) (by omega)) hl'⟩
   have hlen:0<xs.length:=by
    rcases Nat.eq_zero_or_pos xs.length with h | h
    . exact absurd (by rw[h];rfl) hc
    exact h
   walk_at "rd"
   refine Jc (fun hc=>?_) (fun hc=>?_)
   . walk_at "rd"
     exact⟨d,l,_,_,m+1,w,W,M,rfl,hF,hI,hD,hn,hw,hW2,hM,fun v' D' H' e' hF' hI' hD' hl'=>k v' D' H' e' hF' hI' (hD'.le (Nat.le_refl _) (by omega)) hl'⟩
   have hj0:0<j:=by
    rcases Nat.eq_zero_or_pos j with h | h
    . exact absurd (by rw[h];rfl) hc
    exact h
   walk_at "rd"
   refine⟨d,l,6,rfl,hF,by omega,by omega,fun b H1 hb0 hb1 e1 hF1=>?_⟩
   have hd0:∃ kvs,H d=some (.dK kvs):=let ⟨_,_,_,_,h1,_⟩:=hF;⟨_,h1⟩
   obtain⟨kvs,hd0⟩:=hd0
   have hI1:=Is.off hd0 e1 _ _ hI
   walk_at "rd"
   refine Jc (fun hc=>?_) (fun hc=>?_)
   . walk_at "rd"
     exact⟨d,l,_,_,m+1,w,W,M,rfl,hF1,hI1,hD,hn,hw,hW2,hM,fun v' D' H' e' hF' hI' hD' hl'=>k v' D' H' (e1.trans e') hF' hI' (hD'.le (Nat.le_refl _) (by omega)) hl'⟩
   have hS1:=(hF.fz e1).seq hS
   walk_at "rd"
   refine Ux hS1 ?_
   walk_at "rd"
   refine⟨d,l,_,rfl,hF1,by omega,by omega,fun at' H2 ha0 ha1 e2 hF2=>?_⟩
   have e02:=e1.trans e2
   have hS2:=(hF.fz e02).seq hS
   walk_at "rd"
   refine Na hS2 fun q3 H3 e3 h3=>?_
   have hF3:=hF2.same e3
   have hX3:=IsL.mono e3 _ _ (IsL.off hd0 e02 _ _ hX)
   have hS3:=e3.seqT hS2
   have hal:at'.toNat<xs.length:=by omega
   have hg:=List.getElem?_eq_getElem hal
   generalize xs[at'.toNat]'hal=x at hg
   obtain⟨Dx,hDx,hIx⟩:=IsL.get hX3 hg
   obtain⟨ux,hux⟩:=hE.all Dx (List.mem_of_getElem? hDx)
   have hwx:Dx.weight<=w:=Nat.le_trans (P3 (List.mem_of_getElem? hDx)) hE.wt
   walk_at "rd"
   refine Q2 hS3 (show atI _ at'=some x from by have:=Dr hg;rwa[Int.toNat_of_nonneg ha0] at this) ?_
   walk_at "rd"
   refine⟨d,l,x,Dx,m,w,W,lfs Dx,j-1,by rw[show((j-1:Nat):Int)=(j:Int)-1 by omega];rfl,hF3,hIx,⟨hux.asc,hux.lay,hux.sh,hux.lv,hux.dp,hwx,hux.wd⟩,by omega,hw,hW2,Nat.le_refl _,by omega,fun v' D' H4 e4 hF4 hI4 hD4 hL4=>?_⟩
   walk_at "rd"
   refine At (A6 (by simp)) fun q5 H5 hq5 e5 h5=>?_
   have fz35:Fz H3 H5:=(hF3.fz e4).trans e5.fz
   have c3:=E2 xs none (some at')
   have c6:=E2 xs (some (at'+1)) none
   refine Jw (fz35.seq h3) (SqT.of h5) (A6 (by simp;omega)) fun q6 H6 e6 h6=>?_
   walk_at "rd"
   refine Na ((fz35.trans e6.fz).seq hS3) fun q7 H7 e7 h7=>?_
   refine Jw (e7.seqT h6) h7 (A6 (by simp;omega)) fun q8 H8 e8 h8=>?_
   walk_at "rd"
   have e48:=((e5.trans e6).trans e7).trans e8
   have hd3:∃ kvs,H3 d=some (.dK kvs):=let ⟨_,_,_,_,h1,_⟩:=hF3;⟨_,h1⟩
   obtain⟨kv3,hd3⟩:=hd3
   have hX8:=IsL.mono e48 _ _ (IsL.off hd3 e4 _ _ hX3)
   refine k _ (.tuple (Nf ds none (some at')++[D']++Nf ds (some (at'+1)) none)) _ (((e02.same e3).trans e4).same e48) (hF4.same e48) (Is.of_tup h8 (IsL.append (IsL.append (Gc hX8 _ _) (.one (Is.mono e48 _ _ hI4))) (Gc hX8 _ _))) ?_ ?_
   rotate_left
   . have hs:=Uw hDx
     have hM':Ez ds<=M:=by rw[<- Dm];exact hM
     rw[Dm,Fx,Fx,a55 ds ha0,Z4 ds (show 0<=at'+1 by omega),show(at'+1).toNat=at'.toNat+1 by omega]
     simp only[Ez]
     omega
   have hcut:PyData.weightAll (Nf ds none (some at'))+PyData.weightAll (Nf ds (some (at'+1)) none)<=w:=Nat.le_trans (Ym ds ha0) hE.wt
   have r1:=(hE.drop (HT.sIx ds.length 0 none)).take (HT.sIx ds.length ds.length (some at')-HT.sIx ds.length 0 none)
   have r2:=(hE.drop (HT.sIx ds.length 0 (some (at'+1)))).take (HT.sIx ds.length ds.length none-HT.sIx ds.length 0 (some (at'+1)))
   refine Cv ⟨fun e he=>?_,?_,?_⟩
   . rcases List.mem_append.mp he with he | he
     . rcases List.mem_append.mp he with he | he
       . obtain⟨u,hu⟩:=r1.all e he
         exact⟨u,hu.le (by omega) (Nat.le_refl _)⟩
       rw[List.mem_singleton.mp he]
       exact⟨_,hD4⟩
     obtain⟨u,hu⟩:=r2.all e he
     exact⟨u,hu.le (by omega) (Nat.le_refl _)⟩
   . have:=hD4.wt
     rw[Gh,Gh]
     simp only[PyData.weightAll]
     have e2:(j-1+2)*w+w=(j+2)*w:=by
      rw[<- Nat.succ_mul]
      congr 1
      omega
     omega
   have:=hE.len
   have l1:=IsL.length (Gc hX8 none (some at'))
   have l2:=IsL.length (Gc hX8 (some (at'+1)) none)
   have l1:(Nf ds none (some at')).length=_:=l1
   have l2:(Nf ds (some (at'+1)) none).length=_:=l2
   rw[Ev ha0,List.length_take] at l1
   rw[Hw (by omega),List.length_drop] at l2
   rw[List.length_append,List.length_append,l1,l2,List.length_singleton]
   omega
theorem Lx {f:Addr}{fd:FuncData}(F:Fun K "_law_bent" "_law_bent" Bx f fd)(T:Fb mg)(c__law_draw:Fnd P w K mg base 1 "_law_draw" ["_law_feed_here","_law_many"] (Ar K))(c__law_odd:Fnd P w K mg base 2 "_law_odd" ["_law_feed_here","_law_part"] (E7 K))(hm:mg "_law_bent" = some (.ref f))(hk:PySem.W.keepIn K (.ref f)=true)(hb:Binds K fd ["_law_feed_here","_law_part","_law_deep"] []):FnOk P w K mg base CX0 14 f fd ["_law_feed_here","_law_part","_law_deep"] (Eo K):=by
 have h:∀ n:Nat,FnOk P w K mg base CX0 (3+n) f fd ["_law_feed_here","_law_part","_law_deep"] (C8 K n):=fun n=>by
  induction n with
  | zero=>exact FnOk.void Fw
  | succ n ih=>exact Kq F T c__law_draw c__law_odd n ⟨f,fd,ih,hm,hk,hb⟩
 exact h 11
def Cp (K:PySem.W.Frag):Sp:=fun vs H Q _=>∃ v ns ps,vs=[v]/\Is K H (hfD ns ps) v/\Y0 ns ps/\∀ r as H',H r=none->(∀ a∈as,H a=none)->Same H H'->Tab H' r ns as (Way ps)->Q (.ref r) H'
theorem J6 {f:Addr}{fd:FuncData}(F:Fun K "behind_each" "behind_each" Bp f fd)(T:Fb mg):FnOk P w K mg base CX0 1 f fd ["half"] (Cp K):=by
 refine F.ok sc_behind_each (fun vs H Q E h=>?_) (fun cdv A outer s H vs Q E hr h=>?_)
 . obtain⟨v,ns,ps,rfl,_⟩:=h
   rfl
 obtain⟨v,ns,ps,rfl,hI,hW,k⟩:=h
 have hu:=C0 hr
 have hq:=By hr
 have hn:=hW.nd
 have hfew:=hW.few
 with_reducible refine⟨_,(A2 (Aa (i:=1) sc_behind_each.nd (by ac_nf) (by eq_refl) (Ap (A8 (K:=K) hu) (pv 0) A3 (by ac_rfl)))
  (A2 (Aa (i:=2) sc_behind_each.nd (by ac_nf) (by eq_refl) (Ao (Jl (K:=K) hr.hd) (by ac_nf) T.b_dict PyProof.Rows.Boot.«dict» (A0 (Bh ["name"] [] [] (by ac_nf) (by ac_nf) (by ac_nf) (Aj (K:=K) hu (pv 1)) (fun _ _ _ _=>(Ab (i:=0) (by with_unfolding_all (show(["name"]:List Str).Nodup;decide +kernel)) (by ac_nf) (by eq_refl))) (Av (by decide)) (fun _ _ _ _=>Br) (fun _ _ _ _=>(B1 (A0 (pv 0) (A0 U3 A1))))) A1)))
  (A2 (Bl PassesOwn.never (by ac_nf) (Aj (K:=K) hu (Ap (A8 (K:=K) hu) (pv 0) A3 (by ac_rfl))) (Ab (i:=3) sc_behind_each.nd (by ac_nf) (by eq_refl))
  (A5 (Ig hu (Ap (A8 (K:=K) hu) (pv 2) (Ap (A8 (K:=K) hu) (pv 3) A3 (by ac_rfl)) (by ac_rfl)) (Ap (A8 (K:=K) hu) (pv 3) A3 (by ac_rfl)) Ey (by ac_nf))))
  (A2 (Bl PassesOwn.never (by ac_nf) (Aj (K:=K) hu (pv 1)) (Ab (i:=4) sc_behind_each.nd (by ac_nf) (by eq_refl))
  (A5 (Bl PassesOwn.never (by ac_nf) (Aj (K:=K) hu (pv 1)) (Ab (i:=5) sc_behind_each.nd (by ac_nf) (by eq_refl))
  (A5 (C1 (Ag (Eh (K:=K) hq) (pv 4) (Ap (A8 (K:=K) hu) (pv 2) (pv 5) (by ac_rfl)) (by ac_nf)) (A5 (C6 (Dn (K:=K) PySem.F.plainAttrs_dict PySem.F.slot_dict_update PySem.F.type_dict_update (mm Pi) (Ap (A8 (K:=K) hu) (pv 2) (pv 5) (by ac_rfl)) (A0 (Ap (A8 (K:=K) hu) (pv 2) (pv 4) (by ac_rfl)) A1)))) An)))))
  (A5 (Am (pv 2))))))),?_⟩
 walk_at "rd"
 refine Do hI fun nv hN=>?_
 walk_at "rd"
 obtain⟨na,rfl,hS⟩:=hN.nm
 refine Gm hS ?_
 refine Hy (Bw (xs:=ns.map V.str)) (fun p i acc H1=>Same H H1/\∃ as:List Addr,as.length=i/\as.Nodup/\(∀ a∈as,H1 a=some (.dK [])/\H a=none)/\PrsK K H1 (Mz (ns.take i) as) acc) (fun p H' hp e h=>⟨e,[],rfl,by simp,fun _ h=>(by cases h),by rfl⟩) (fun p i acc H1 hP=>hP.1.seqT hS) (fun p i x acc H1 hp hx hi hl ha hP=>?_) fun p acc H1 hp ha hl hP=>?_
 . obtain ⟨e1,as,hal,had,haf,hpr⟩:=hP
   rw[List.getElem?_map] at hx
   cases hz:ns[i]? with
   | none=>rw[hz] at hx;cases hx
   | some z=>
     rw[hz] at hx
     cases hx
     have hin:i<ns.length:=(List.getElem?_eq_some_iff.mp hz).1
     walk_at "rd"
     refine Zo fun b H2 hb2 e2 h2=>?_
     walk_at "rd"
     refine At (A6 (by simp)) fun t H3 ht3 e3 h3=>?_
     have h3p:H3 p=some (.lst acc):=e3 _ _ (e2 _ _ ha)
     refine Lk (by rw[List.length_map];omega) hi hl h3p fun H4 e4 h4=>?_
     have hbp:b≠p:=Ne.symm (ne_of_none ha hb2)
     refine⟨by walk_at "sm",as++[b],by simp[hal],?_,fun a ha'=>?_,?_⟩
     . rw[List.nodup_append]
       refine⟨had,by simp,fun a ha1 c hc e=>?_⟩
       have:c=b:=by simpa using hc
       subst this
       subst e
       have:=(haf _ ha1).1
       rw[hb2] at this
       cases this
     . rcases List.mem_append.mp ha' with ha' | ha'
       . obtain⟨q1,q2⟩:=haf a ha'
         exact⟨e4 _ _ (ne_of q1 ha (by intro z;cases z)) (e3 _ _ (e2 _ _ q1)),q2⟩
       have:a=b:=by simpa using ha'
       subst this
       exact⟨e4 _ _ hbp (e3 _ _ h2),e1.free hb2⟩
     have ht:ns.take (i+1)=ns.take i++[z]:=by rw[List.take_add_one,hz];rfl
     have hlen:(ns.take i).length=as.length:=by rw[List.length_take,hal];omega
     rw[ht,P8 hlen]
     have fz4:=e4.fzL h3p
     exact PrsK.snoc (kv:=(Sum.inr z,V.ref b)) (fz4.seq (SqT.of h3)) (PrsK.fz ((e2.fz.trans e3.fz).trans fz4) hpr)
 obtain⟨e1,as,hal,had,haf,hpr⟩:=hP
 rw[List.length_map] at hal
 rw[List.length_map,List.take_length] at hpr
 walk_at "rd"
 refine Vh ha hpr (by unfold Mz;rw[List.length_map,List.length_zip];omega) fun r H2 hr2 e2 h2=>?_
 rw[Iz _ _ (Kt hn) (fun _ _ _ h=>by cases h),List.nil_append] at h2
 have hr0:H r=none:=e1.free hr2
 have hra:r∉as:=fun hm=>by
  have:=(haf r hm).1
  rw[hr2] at this
  cases this
 have hT0:Tab H2 r ns as (fun z y=>(z,y)∈ps.take 0):=⟨hal,had,hra,h2,fun i z a hz ha'=>⟨[],e2 _ _ (haf a (List.mem_of_getElem? ha')).1,by simp,fun _ h=>(by cases h),fun y=>by simp⟩⟩
 walk_at "rd"
 refine Vo (hI.hf_fz (by walk_at "fz")) fun pv hP2=>?_
 refine Vc hP2 (fun i σ H3=>∃ x3,σ=[some v,some (.ref na),some (.ref r),x3,none,none]/\Same H H3/\Fz H2 H3/\Tab H3 r ns as (fun z y=>(z,y)∈ps.take i))
  ⟨none,rfl,by walk_at "sm",.refl _,hT0⟩ (fun i σ' H' hP=>hP.choose_spec.2.2.1) (fun i pr w σ' H3 hpr hIp hP=>?_) (fun σ' H3 hP=>?_)
 . obtain⟨x3,rfl,e3,fz3,hT⟩:=hP
   have hpm:=hW.mem pr (List.mem_of_getElem? hpr)
   obtain⟨j,a,hj,haj⟩:=hT.at hpm.1
   obtain⟨ks,hk1,hk2,hk3,hk4⟩:=hT.row j _ a hj haj
   have hkl:ks.length<=ns.length:=Cr hk2 hk3
   walk_at "rd"
   refine Yx hIp ?_
   refine Nx hT hn hj haj ?_
   walk_at "rd"
   refine a37 hIp ?_
   refine Jh hk1 (by rw[Nz];omega) fun H4 e4 h4=>?_
   rw[Rl] at h4
   walk_at "rd"
   have ha0:H a=none:=(haf a (List.mem_of_getElem? haj)).2
   refine⟨_,rfl,by walk_at "sm",fz3.trans (e4.fzD hk1),hT.put e4 hn hj haj h4 (Jj hk2) (fun y hy=>?_) (fun y=>?_) (fun z hz hzx y=>?_)⟩
   . rcases mem_addK.mp hy with hy | rfl
     . exact hk3 y hy
     exact hpm.2
   . rw[mem_addK,hk4,List.take_add_one,hpr,List.mem_append]
     constructor
     . rintro(h | rfl)
       . exact .inl h
       exact .inr (by simp)
     rintro(h | h)
     . exact .inl h
     right
     have:(pr.1,y)=pr:=by simpa using h
     rw[<- this]
   rw[List.take_add_one,hpr,List.mem_append]
   constructor
   . exact .inl
   rintro(h | h)
   . exact h
   have:(z,y)=pr:=by simpa using h
   exact absurd (by rw[<- this]) hzx
 obtain⟨x3,rfl,e3,fz3,hT⟩:=hP
 rw[List.take_length] at hT
 have hW0:War ns ps [] (fun z y=>(z,y)∈ps):=⟨fun z y h=>.one h,fun z y h=>h,fun m hm=>by cases hm⟩
 walk_at "rd"
 have hN3:Is K H3 (nmD ns) (.ref na):=hN.nm_fz e3.fz
 refine Qg hN3 (fun i σ H4=>∃ x4 x5 R,σ=[some v,some (.ref na),some (.ref r),x3,x4,x5]/\Same H H4/\Fz H3 H4/\Tab H4 r ns as R/\War ns ps (ns.take i) R)
  ⟨_,_,_,rfl,e3,.refl _,hT,hW0⟩ (fun i σ' H' hP=>?_) (fun i mid σ' H4 hmid hP=>?_) (fun σ' H4 hP=>?_)
 . obtain⟨_,_,_,_,_,fz,_⟩:=hP
   exact fz
 . obtain⟨x4,x5,R,rfl,e4,fz4,hT4,hR⟩:=hP
   obtain⟨jm,am,hjm,ham⟩:=hT4.at (List.mem_of_getElem? hmid)
   have hN4:Is K H4 (nmD ns) (.ref na):=hN3.nm_fz fz4
   walk_at "rd"
   refine Qg hN4 (fun j σ H5=>∃ x5,σ=[some v,some (.ref na),some (.ref r),x3,some (.str mid),x5]/\Same H H5/\Fz H4 H5/\Tab H5 r ns as (Va R mid (ns.take j)))
    ⟨_,rfl,e4,.refl _,hT4.congr fun z _ y=>⟨.inl,fun h=>h.elim (fun q=>q) fun q=>absurd q.1 (by simp)⟩⟩ (fun i σ' H' hP=>hP.choose_spec.2.2.1) (fun j nm σ' H5 hnm hP=>?_) (fun σ' H5 hP=>?_)
   . obtain⟨x5',rfl,e5,fz5,hT5⟩:=hP
     obtain⟨jn,an,hjn,han⟩:=hT5.at (List.mem_of_getElem? hnm)
     obtain⟨ks,hk1,hk2,hk3,hk4⟩:=hT5.row jn nm an hjn han
     obtain⟨ms,hm1,hm2,hm3,hm4⟩:=hT5.row jm mid am hjm ham
     have hkl:ks.length<=ns.length:=Cr hk2 hk3
     have hml:ms.length<=ns.length:=Cr hm2 hm3
     have htj:ns.take (j+1)=ns.take j++[nm]:=by rw[List.take_add_one,hnm];rfl
     have hin:mid∈ks↔R nm mid:=(hk4 mid).trans ⟨fun h=>h.elim (fun q=>q) fun q=>q.2.1,.inl⟩
     have hmid2:∀ y,y∈ms↔R mid y:=fun y=>(hm4 y).trans ⟨fun h=>h.elim (fun q=>q) fun q=>q.2.2,.inl⟩
     have hother:∀ z∈ns,z≠nm->∀ y,Va R mid (ns.take j) z y↔Va R mid (ns.take (j+1)) z y:=fun z _ hz y=>by
      unfold Va
      rw[htj,List.mem_append,List.mem_singleton]
      simp[hz]
     walk_at "rd"
     refine Nx hT5 hn hjn han ?_
     refine Qf hk1 ?_
     walk_at "rd"
     refine Jc (fun hc=>?_) (fun hc=>?_)
     . have hRn:=hin.mp hc
       by_cases hne:nm=mid
       . subst hne
         have hji:jn=jm:=by
          obtain⟨p1,p2⟩:=List.getElem?_eq_some_iff.mp hjn
          obtain⟨q1,q2⟩:=List.getElem?_eq_some_iff.mp hjm
          exact(List.getElem_inj hn).mp (p2.trans q2.symm)
         subst hji
         rw[han] at ham
         cases ham
         walk_at "rd"
         refine Nx hT5 hn hjn han ?_
         refine a33 hk1 ?_
         walk_at "rd"
         refine Nx hT5 hn hjn han ?_
         walk_at "rd"
         refine a42 hk1 ?_
         walk_at "rd"
         refine⟨_,rfl,e5,fz5,hT5.congr fun z hz y=>?_⟩
         by_cases hzn:z=nm
         . subst hzn
           unfold Va
           constructor
           . exact fun h=>.inl (h.elim (fun q=>q) fun q=>q.2.2)
           exact fun h=>.inl (h.elim (fun q=>q) fun q=>q.2.2)
         exact hother z hz hzn y
       have hane:an≠am:=fun q=>by
        subst q
        obtain⟨p1,p2⟩:=List.getElem?_eq_some_iff.mp han
        obtain⟨q1,q2⟩:=List.getElem?_eq_some_iff.mp ham
        have:=(List.getElem_inj hT5.nd).mp (p2.trans q2.symm)
        subst this
        rw[hjn] at hjm
        exact hne (Option.some.inj hjm)
       walk_at "rd"
       refine Nx hT5 hn hjn han ?_
       refine a33 hk1 ?_
       walk_at "rd"
       refine Nx hT5 hn hjm ham ?_
       walk_at "rd"
       refine Zd hk1 hm1 hane (by omega) fun H6 e6 h6=>?_
       walk_at "rd"
       have ha0:H an=none:=(haf an (List.mem_of_getElem? han)).2
       refine⟨_,rfl,by walk_at "sm",fz5.trans (e6.fzD hk1),hT5.put e6 hn hjn han h6 (Gj hk2) (fun y hy=>?_) (fun y=>?_) hother⟩
       . rcases mem_addAll.mp hy with hy | hy
         . exact hk3 y hy
         exact hm3 y hy
       rw[mem_addAll,hk4,hmid2]
       unfold Va
       rw[htj,List.mem_append,List.mem_singleton]
       constructor
       . rintro((h | h) | h)
         . exact .inl h
         . exact .inr ⟨.inl h.1,h.2⟩
         exact .inr ⟨.inr rfl,hRn,h⟩
       rintro(h | h)
       . exact .inl (.inl h)
       exact .inr h.2.2
     have hRn:¬ R nm mid:=fun q=>hc (hin.mpr q)
     walk_at "rd"
     refine⟨_,rfl,e5,fz5,hT5.congr fun z hz y=>?_⟩
     by_cases hzn:z=nm
     . subst hzn
       unfold Va
       constructor
       . exact fun h=>.inl (h.elim (fun q=>q) fun q=>absurd q.2.1 hRn)
       exact fun h=>.inl (h.elim (fun q=>q) fun q=>absurd q.2.1 hRn)
     exact hother z hz hzn y
   obtain⟨x5',rfl,e5,fz5,hT5⟩:=hP
   rw[List.take_length] at hT5
   refine⟨_,_,_,rfl,e5,fz4.trans fz5,hT5.congr (R':=fun z y=>R z y\/(R z mid/\R mid y)) fun z hz y=>?_,?_⟩
   . unfold Va
     simp[hz]
   have htj:ns.take (i+1)=ns.take i++[mid]:=by rw[List.take_add_one,hmid];rfl
   rw[htj]
   exact hR.step
 obtain⟨x4,x5,R,rfl,e4,fz4,hT4,hR⟩:=hP
 rw[List.take_length] at hR
 walk_at "rd"
 exact k r as H4 hr0 (fun a ha'=>(haf a ha').2) e4 (hT4.congr fun z _ y=>hR.done hW.mem z y)
def Cf (K:PySem.W.Frag):Sp:=fun vs H Q _=>∃ r x l ns ps as,∃ ls:List Str,vs=[.ref r,.str x,.ref l]/\Tab H r ns as (Way ps)/\ns.Nodup/\H l=some (.lst (ls.map V.str))/\ls.length<=1000/\(∀ z∈ls,z∈ns)/\∀ H',Same H H'->Q (.bl (!ls.any fun y=>Cc ps y x)) H'
def Iu (K:PySem.W.Frag):Sp:=fun vs H Q _=>∃ v ns ps,vs=[v]/\Is K H (hfD ns ps) v/\HalfW ns ps/\∀ u H' Ls,Same H H'->Lays ps ns Ls->Is K H' (lsD Ls) u->Q u H'
theorem Ga {f:Addr}{fd:FuncData}(F:Fun K "has_none_ahead" "has_none_ahead" B6 f fd)(T:Fb mg):FnOk P w K mg base CX0 1 f fd ["reach","name","names"] (Cf K):=by
 refine F.ok G7 (fun vs H Q E h=>?_) (fun cdv A outer s H vs Q E hr h=>?_)
 . obtain⟨r,x,l,ns,ps,as,ls,rfl,_⟩:=h
   rfl
 obtain⟨r,x,l,ns,ps,as,ls,rfl,hT,hn,hl,hz,hm,k⟩:=h
 have hu:=C0 hr
 have hq:=By hr
 with_reducible refine⟨_,(A5 (Am (Vz (A7 (Qv (K:=K) (by ac_nf)) (by ac_nf) T.b_any PyProof.Rows.Boot.«any» (A0 (Bh ["one"] ["name","reach"] [1,0] (by ac_nf) (by ac_nf) (by ac_nf) (Aj (K:=K) hu (pv 2)) (fun _ _ _ _=>(Ab (i:=0) (by with_unfolding_all (show(["one","name","reach"]:List Str).Nodup;decide +kernel)) (by ac_nf) (by eq_refl))) (Av (by decide)) (fun _ _ _ _=>Br) (fun _ _ _ _=>(D0 (Eh (K:=K) hq) (pv 1) (Ap (A8 (K:=K) hu) (pv 2) (pv 0) (by ac_rfl)) (by ac_nf)))) A1))))),?_⟩
 walk_at "rd"
 refine Je (SqL.of hl) ?_
 refine Gx (Bu (xs:=ls.map V.str)) (fun v=>match v with | .str y=>.bl (Cc ps y x) | w=>w) (by rw[List.length_map];omega) (fun H' e=>SqL.of (e _ _ hl)) (fun j v H2 R hx e2 hR=>?_) (fun q H2 hq2 e2 h2=>?_)
 . rw[List.getElem?_map] at hx
   cases hy:ls[j]? with
   | none=>rw[hy] at hx;cases hx
   | some y=>
     rw[hy] at hx
     cases hx
     have hT2:=hT.same e2
     obtain⟨i2,a2,hi2,ha2⟩:=hT2.at (hm y (List.mem_of_getElem? hy))
     obtain⟨ms,hm1,hm2,hm3,hm4⟩:=hT2.row i2 y a2 hi2 ha2
     walk_at "rd"
     refine Nx hT2 hn hi2 ha2 ?_
     refine Qf hm1 ?_
     rw[Fq (hm4 x)]
     exact hR
 walk_at "rd"
 have e:(ls.map V.str).map (fun v=>match v with | .str y=>V.bl (Cc ps y x) | w=>w)=(ls.map fun y=>Cc ps y x).map V.bl:=by
  rw[List.map_map,List.map_map]
  rfl
 rw[e] at h2
 refine aa6 (SqL.of h2) ?_
 have e3:(ls.map fun y=>Cc ps y x).any id=ls.any fun y=>Cc ps y x:=by
  rw[List.any_map]
  rfl
 rw[e3]
 walk_at "rd"
 exact k H2 e2
theorem R9 {f:Addr}{fd:FuncData}(F:Fun K "layers" "layers" Ex f fd)(T:Fb mg)(c_behind_each:Fnd P w K mg base 1 "behind_each" ["half"] (Cp K))(c_has_none_ahead:Fnd P w K mg base 1 "has_none_ahead" ["reach","name","names"] (Cf K)):FnOk P w K mg base CX0 2 f fd ["half"] (Iu K):=by
 refine F.ok sc_layers (fun vs H Q E h=>?_) (fun cdv A outer s H vs Q E hr h=>?_)
 . obtain⟨v,ns,ps,rfl,_⟩:=h
   rfl
 obtain⟨v,ns,ps,rfl,hI,hW,k⟩:=h
 have hu:=C0 hr
 have hq:=By hr
 have hfew:=hW.few
 with_reducible refine⟨_,(A2 (Aa (i:=1) sc_layers.nd (by ac_nf) (by with_unfolding_all exact Or.inr rfl) (Ai c_behind_each (hr.mono (by decide)) (by ac_nf) (A0 (pv 0) A1)))
  (A2 (Aa (i:=2) sc_layers.nd (by ac_nf) (by with_unfolding_all exact Or.inr rfl) (Ao (Dt (K:=K)) (by ac_nf) T.b_list PyProof.Rows.Boot.«list» (A0 (Ap (A8 (K:=K) hu) (pv 0) A3 (by ac_rfl)) A1)))
  (A2 (Aa (i:=3) sc_layers.nd (by ac_nf) (by eq_refl) (Az A1))
  (A2 (Ke PassesOwn.never (Ag S8 (A7 (Ah (K:=K)) (by ac_nf) T.b_len PyProof.Rows.Boot.«len» (A0 (pv 2) A1)) A3 (Aq _))
  (A2 (Aa (i:=4) sc_layers.nd (by ac_nf) (by with_unfolding_all exact Or.inr rfl) (Bh ["name"] ["reach","left"] [1,2] (by ac_nf) (by ac_nf) (by ac_nf) (Aj (K:=K) hu (pv 2)) (fun _ _ _ _=>(Ab (i:=0) (by with_unfolding_all (show(["name","reach","left"]:List Str).Nodup;decide +kernel)) (by ac_nf) (by eq_refl))) (Av (by decide)) (fun _ _ _ _=>(E1 (Cu (Ai c_has_none_ahead (hr.mono (by decide)) (by ac_nf) (A0 (pv 1) (A0 (pv 0) (A0 (pv 2) A1))))))) (fun _ _ _ _=>(pv 0))))
  (A2 (C6 (Dn (K:=K) PySem.F.plainAttrs_list PySem.F.slot_list_append PySem.F.type_list_append (mm Ct) (pv 3) (A0 (Ao (Bk (K:=K)) (by ac_nf) T.b_tuple PyProof.Rows.Boot.«tuple» (A0 (pv 4) A1)) A1)))
  (A5 (Aa (i:=2) sc_layers.nd (by ac_nf) (by with_unfolding_all exact Or.inr rfl) (Bh ["name"] ["layer"] [4] (by ac_nf) (by ac_nf) (by ac_nf) (Aj (K:=K) hu (pv 2)) (fun _ _ _ _=>(Ab (i:=0) (by with_unfolding_all (show(["name","layer"]:List Str).Nodup;decide +kernel)) (by ac_nf) (by eq_refl))) (Av (by decide)) (fun _ _ _ _=>(E1 (Ag (Eg (K:=K) hq) (pv 0) (pv 1) (by ac_nf)))) (fun _ _ _ _=>(pv 0))))))))
  (A5 (Am (Ao (Bk (K:=K)) (by ac_nf) T.b_tuple PyProof.Rows.Boot.«tuple» (A0 (pv 3) A1)))))))),?_⟩
 walk_at "rd"
 refine⟨v,ns,ps,rfl,hI,hW,fun r as H1 hr1 ha1 e1 hT=>?_⟩
 walk_at "rd"
 refine Do (hI.hf_fz e1.fz) fun nv hN=>?_
 obtain⟨na,rfl,hS⟩:=hN.nm
 walk_at "rd"
 refine Ky (.inr hS) fun l2 H2 hl2 e2 h2=>?_
 walk_at "rd"
 refine B2 (by decide) fun p H3 hp3 e3 h3=>?_
 walk_at "rd"
 have hp1:H1 p=none:=e2.free hp3
 refine Nj (fun m σ H4=>∃ l ls x4 Ls ys,σ=[some v,some (.ref r),some (.ref l),some (.ref p),x4]/\Same H1 H4/\H4 l=some (.lst (ls.map V.str))/\H4 p=some (.lst ys)/\IsL K H4 (Ls.map nmD) ys/\Ls.length+ls.length<=ns.length/\(∀ z∈ls,z∈ns)/\(∀ Ms,Lays ps ls Ms->Lays ps ns (Ls++Ms))/\m=ls.length)
  ns.length ⟨l2,ns,none,[],[],rfl,by walk_at "sm",by walk_at "lk",h3,.nil,by simp,fun _ h=>h,fun _ h=>h,rfl⟩ fun m σ H4 hP=>?_
 obtain⟨l,ls,x4,Ls,ys,rfl,e4,h4l,h4p,hL4,hlen,hsub,hlay,rfl⟩:=hP
 walk_at "rd"
 rw[List.length_map]
 refine Jc (fun hc=>?_) (fun hc=>?_)
 . have hne:ls≠[]:=by
    intro e
    subst e
    simp at hc
   have hlp:l≠p:=by
    intro e
    subst e
    rw[h4l] at h4p
    have e2:ls.map V.str=ys:=by injection h4p with h;injection h
    subst e2
    cases ls with
    | nil=>exact hne rfl
    | cons z zs=>
      cases Ls with
      | nil=>cases hL4.length
      | cons L Ls=>
        rw[List.map_cons,List.map_cons] at hL4
        simp only[L2.IsL] at hL4
        obtain⟨w,ws,e,hw,_⟩:=hL4
        cases e
        obtain⟨a,e,_⟩:=hw.nm
        cases e
   refine Sw ?_
   walk_at "rd"
   refine Fu (SqL.of h4l) (fun x=>!ls.any fun y=>Cc ps y x) PyData.str (fun _=>rfl) (by omega) (fun i x H5 R R' hx e5 hR hR'=>?_) (fun q5 zs H5 hq5 e5 h5 hL5=>?_)
   . walk_at "rd"
     refine⟨r,x,l,ns,ps,as,ls,rfl,hT.same (e4.trans e5),hW.nd,e5 _ _ h4l,by omega,hsub,fun H6 e6=>?_⟩
     walk_at "rd"
     refine ab1 (fun hb=>?_) (fun hb=>?_)
     . walk_at "rd"
       exact hR hb _ _ e6 Bi
     exact hR' hb _ e6
   have hzs:=IsL.str_eq hL5
   subst hzs
   walk_at "rd"
   refine G0 (SqL.of h5) fun t6 H6 ht6 e6 h6=>?_
   have hN6:Is K H6 (nmD (N2 ps ls)) (.ref t6):=J0 (SqT.of h6)
   walk_at "rd"
   have h6p:=e6 _ _ (e5 _ _ h4p)
   have hly:ys.length=Ls.length:=by rw[<- IsL.length hL4,List.length_map]
   refine Ia h6p (by omega) fun H7 e7 h7=>?_
   have fz7:=e7.fzL h6p
   have h5l:=e5 _ _ h4l
   have h7l:H7 l=some (.lst (ls.map V.str)):=e7 _ _ hlp (e6 _ _ h5l)
   have hpq:p≠q5:=ne_of_none h4p hq5
   have h7q:H7 q5=some (.lst ((N2 ps ls).map V.str)):=e7 _ _ (Ne.symm hpq) (e6 _ _ h5)
   walk_at "rd"
   refine Fu (SqL.of h7l) (fun x=>!decide (x∈N2 ps ls)) PyData.str (fun _=>rfl) (by omega) (fun i x H8 R R' hx e8 hR hR'=>?_) (fun q8 zs8 H8 hq8 e8 h8 hL8=>?_)
   . walk_at "rd"
     refine No (SqL.of (e8 _ _ h7q)) ?_
     walk_at "rd"
     refine Q4 (fun hb=>?_) (fun hb=>?_)
     . walk_at "rd"
       exact hR (by rw[hb];rfl) _ _ (Same.refl _) Bi
     exact hR' (by rw[hb];rfl) _ (Same.refl _)
   rw[Xx] at hL8
   have hzs:=IsL.str_eq hL8
   subst hzs
   walk_at "rd"
   have hlt:=T6 hW.irr hne
   refine⟨_,hlt,q8,Os ps ls,_,Ls++[N2 ps ls],_,rfl,?_,h8,e8 _ _ h7,?_,?_,fun z hz=>hsub z (mem_resF.mp hz).1,fun Ms hMs=>?_,rfl⟩
   . refine Same.trans (Same.off (q:=p) (H1:=H6) ((e4.trans e5).trans e6) hp1 e7) e8
   . rw[List.map_append]
     refine IsL.mono e8 _ _ (IsL.append (IsL.fz ((e5.fz.trans e6.fz).trans fz7) _ _ (Ca _) hL4) (.one (hN6.nm_fz fz7)))
   . rw[List.length_append,List.length_singleton]
     omega
   rw[List.append_assoc]
   exact hlay _ (.cons hne hMs)
 have hne:ls=[]:=by
  cases ls with
  | nil=>rfl
  | cons z zs=>
    exfalso
    apply hc
    rw[List.length_cons]
    omega
 subst hne
 walk_at "rd"
 have:=hlay [] .nil
 rw[List.append_nil] at this
 exact Ku h4p hL4 fun u H5 e5 hu5=>k u H5 Ls ((e1.trans e4).trans e5) this hu5
def D8 (K:PySem.W.Frag):Sp:=fun vs H Q _=>∃ v ns ps,vs=[v]/\Is K H (hfD ns ps) v/\Half ns ps/\∀ r as H',H r=none->Same H H'->TabL K H' r ns as (Way ps)->Q (.ref r) H'
theorem Re {ps:List (Str×Str)}(h:NmP ps):OkP ps:=fun p hp=>⟨(G2 (h p hp).1).1,(G2 (h p hp).2).1⟩
theorem Kf {f:Addr}{fd:FuncData}(F:Fun K "_law_table" "_law_table" C2 f fd)(T:Fb mg)(c__law_behind:Fnd P w K mg base 1 "_law_behind" ["_law_half_here","_law_name"] (Bs K)):FnOk P w K mg base CX0 2 f fd ["_law_half_here"] (D8 K):=by
 refine F.ok K5 (fun vs H Q E h=>?_) (fun cdv A outer s H vs Q E hr h=>?_)
 . obtain⟨v,ns,ps,rfl,_⟩:=h
   rfl
 obtain⟨v,ns,ps,rfl,hI,hH,k⟩:=h
 have hu:=C0 hr
 have hq:=By hr
 have hn:=hH.names.1
 have hfew:=hH.few
 have hle:=hH.le
 have hok:OkP ps:=Re hH.nmP
 have hok1:∀ z∈ns,PyData.strOk z=true:=fun z hz=>(G2 (hH.names.2 z hz)).1
 with_reducible refine⟨_,(A5 (Am (Ao (Jl (K:=K) hr.hd) (by ac_nf) T.b_dict PyProof.Rows.Boot.«dict» (A0 (Bh ["_law_name"] ["_law_half_here"] [0] (by ac_nf) (by ac_nf) (by ac_nf) (Aj (K:=K) hu (Ap (A8 (K:=K) hu) (pv 0) A3 (by ac_rfl))) (fun _ _ _ _=>(Ab (i:=0) (by with_unfolding_all (show(["_law_name","_law_half_here"]:List Str).Nodup;decide +kernel)) (by ac_nf) (by eq_refl))) (Av (by decide)) (fun _ _ _ _=>Br) (fun _ _ _ _=>(B1 (A0 (pv 0) (A0 (Ai c__law_behind (hr.mono (by decide)) (by ac_nf) (A0 (pv 1) (A0 (pv 0) A1))) A1))))) A1)))),?_⟩
 walk_at "rd"
 refine Do hI fun nv hN=>?_
 obtain⟨na,rfl,hS⟩:=hN.nm
 refine Gm hS ?_
 refine Hy (Bw (xs:=ns.map V.str)) (fun p i acc H1=>Same H H1/\∃ as:List Addr,as.length=i/\(∀(j:Nat) (z:Str) (a:Addr),ns[j]? = some z->as[j]? = some a->∃ ks:List Str,H1 a=some (.lst (ks.map V.str))/\a≠p/\ks.Nodup/\∀ y,y∈ks↔Way ps z y)/\PrsK K H1 (Mz (ns.take i) as) acc) (fun p H' hp e h=>⟨e,[],rfl,fun j z a _ h=>(by simp at h),by rfl⟩) (fun p i acc H1 hP=>hP.1.seqT hS) (fun p i x acc H1 hp hx hi hl ha hP=>?_) fun p acc H1 hp ha hl hP=>?_
 . obtain ⟨e1,as,hal,hrow,hpr⟩:=hP
   rw[List.getElem?_map] at hx
   cases hz:ns[i]? with
   | none=>rw[hz] at hx;cases hx
   | some z=>
     rw[hz] at hx
     cases hx
     have hin:i<ns.length:=(List.getElem?_eq_some_iff.mp hz).1
     walk_at "rd"
     refine⟨v,z,ns,ps,rfl,hI.hf_fz e1.fz,by omega,hok,hok1 z (List.mem_of_getElem? hz),fun b fs H2 hb2 e2 h2 hnd hfs=>?_⟩
     walk_at "rd"
     refine At (A6 (by simp)) fun t H3 ht3 e3 h3=>?_
     have h3p:H3 p=some (.lst acc):=e3 _ _ (e2 _ _ ha)
     refine Lk (by rw[List.length_map];omega) hi hl h3p fun H4 e4 h4=>?_
     have hbp:b≠p:=Ne.symm (ne_of_none ha hb2)
     refine⟨by walk_at "sm",as++[b],by simp[hal],fun j y a hj haj=>?_,?_⟩
     . by_cases hji:j<as.length
       . rw[List.getElem?_append_left hji] at haj
         obtain⟨ks,q1,q2,q3⟩:=hrow j y a hj haj
         exact⟨ks,e4 _ _ q2 (e3 _ _ (e2 _ _ q1)),q2,q3⟩
       have hj':j=as.length:=by
        have:=(List.getElem?_eq_some_iff.mp haj).1
        rw[List.length_append,List.length_singleton] at this
        omega
       subst hj'
       have:a=b:=by simpa using haj.symm
       subst this
       rw[hal,hz] at hj
       cases hj
       exact⟨fs,e4 _ _ hbp (e3 _ _ h2),hbp,hnd,hfs⟩
     have ht:ns.take (i+1)=ns.take i++[z]:=by rw[List.take_add_one,hz];rfl
     have hlen:(ns.take i).length=as.length:=by rw[List.length_take,hal];omega
     rw[ht,P8 hlen]
     have fz4:=e4.fzL h3p
     exact PrsK.snoc (kv:=(Sum.inr z,V.ref b)) (fz4.seq (SqT.of h3)) (PrsK.fz ((e2.fz.trans e3.fz).trans fz4) hpr)
 obtain⟨e1,as,hal,hrow,hpr⟩:=hP
 rw[List.length_map] at hal
 rw[List.length_map,List.take_length] at hpr
 walk_at "rd"
 refine Vh ha hpr (by unfold Mz;rw[List.length_map,List.length_zip];omega) fun r H2 hr2 e2 h2=>?_
 rw[Iz _ _ (Kt hn) (fun _ _ _ h=>by cases h),List.nil_append] at h2
 have hr0:H r=none:=e1.free hr2
 refine k r as H2 hr0 (e1.trans e2) ⟨hal,h2,fun j z a hj haj=>?_⟩
 obtain ⟨ks,q1,q2,q3,q4⟩:=hrow j z a hj haj
 exact⟨ks,e2 _ _ q1,q3,q4⟩
theorem M4 {k:Nat}:∀ {ds:List PyData},(∀ e∈ds,e.weight<=k)->PyData.weightAll ds<=ds.length*(k+1)
 | [],_=>by simp only[PyData.weightAll];omega
 | d :: ds,h=>by
   have h1:=h d (by simp)
   have h2:=M4 (ds:=ds) fun e he=>h e (by simp[he])
   simp only[PyData.weightAll,List.length_cons,Nat.succ_mul]
   omega
theorem Za {z:Str}(h:Jy z=true):Asc z:=fun c hc=>by
 unfold Jy at h
 rw[Bool.and_eq_true,List.all_eq_true] at h
 have:=h.2 c hc
 unfold Gg at this
 rw[Bool.and_eq_true,decide_eq_true_eq,decide_eq_true_eq] at this
 omega
theorem Kv {p W:Nat}{ns:List Str}(h:∀ z∈ns,Jy z=true)(hl:ns.length<=W):Els p (ns.length*9) W (ns.map PyData.str):=by
 refine⟨fun e he=>?_,?_,by simpa using hl⟩
 . obtain⟨z,hz,rfl⟩:=List.mem_map.mp he
   exact⟨8,Gi (Za (h z hz)) (Vw (h z hz))⟩
 have:=M4 (k:=8) (ds:=ns.map PyData.str) fun e he=>by
  obtain⟨z,hz,rfl⟩:=List.mem_map.mp he
  simp only[PyData.weight]
  exact Vw (h z hz)
 simpa using this
theorem Zj {p W:Nat}{q:Str×Str}(h1:Jy q.1=true)(h2:Jy q.2=true)(hW:2<=W):Dk (p+1) 18 W (prD q):=by
 have:=Kv (p:=p) (W:=W) (ns:=[q.1,q.2]) (fun z hz=>by
  simp only[List.mem_cons,List.not_mem_nil,or_false] at hz
  rcases hz with rfl | rfl
  . exact h1
  exact h2) hW
 exact Cv this
theorem Xg {p W:Nat}{ps:List (Str×Str)}(h:NmP ps)(hl:ps.length<=W)(hW:2<=W):Els (p+1) (ps.length*19) W (ps.map prD):=by
 refine⟨fun e he=>?_,?_,by simpa using hl⟩
 . obtain⟨q,hq,rfl⟩:=List.mem_map.mp he
   exact⟨18,Zj (h q hq).1 (h q hq).2 hW⟩
 have:=M4 (k:=18) (ds:=ps.map prD) fun e he=>by
  obtain⟨q,hq,rfl⟩:=List.mem_map.mp he
  exact(Zj (p:=0) (h q hq).1 (h q hq).2 hW).wt
 simpa using this
theorem Wp {ns:List Str}{ps:List (Str×Str)}(h:NmP ps)(h1:∀ z∈ns,Jy z=true)(h2:ns.length<=20)(h3:ps.length<=70):Dk 3 1600 70 (hfD ns ps):=by
 have a:=Cv (Kv (p:=1) (W:=70) h1 (by omega))
 have b:=Cv (Xg (p:=0) (W:=70) h (by omega) (by omega))
 refine Cv (p:=2) ⟨fun e he=>?_,?_,by simp⟩
 . simp only[List.mem_cons,List.not_mem_nil,or_false] at he
   rcases he with rfl | rfl
   . exact⟨_,a⟩
   exact⟨_,b⟩
 have:=a.wt
 have:=b.wt
 simp only[PyData.weightAll]
 simp only[nmD,psD] at *
 omega
def a88 (K:PySem.W.Frag)(H:Hp)(v:V):Prop:=∃ t,TyOf K H v t/\PySem.W.kitOne K t (.type "tuple")=some false
def ThW (K:PySem.W.Frag)(H:Hp)(v:V)(n w W M:Nat):Option (List PyData)->Prop
 | some ds=>Is K H (.tuple ds) v/\Dk n w W (.tuple ds)/\Ez ds<=M
 | none=>(∃ D,Is K H D v/\Yc D=false)\/a88 K H v
theorem Wb {K:PySem.W.Frag}{H:Hp}{Q:VK}{v:V}{n w W M:Nat}{o:Option (List PyData)}(h:ThW K H v n w W M o)(k:Q (.bl o.isSome) H):Ej K [v,.ty "tuple"] H Q:=by
 cases o with
 | none=>
   rcases h with ⟨D,h1,h2⟩ | ⟨t,h1,h2⟩
   . refine K0 h1 ?_
     rw[h2]
     exact k
   exact Ht h1 h2 k
 | some ds=>exact K0 h.1 k
theorem Ox {a b:List Str}(h:a.map PyData.str=b.map PyData.str):a=b:=by
 have:=congrArg (List.map fun d=>match d with | PyData.str z=>z | _=>("":Str)) h
 simpa[List.map_map,Function.comp_def] using this
local macro_rules | `(tactic| walk_at "rq1") => L2.mAlts "i_izip"
def Vs (ps:List (Str×Str))(row:List Str):Prop:=∀(i:Nat) x y,row[i]? = some x->row[i+1]? = some y->Way ps x y
def ChR (ns:List Str)(ps:List (Str×Str))(row:List Str):Prop:=row≠[]/\(∀ z∈row,z∈ns)/\Vs ps row
def ChD (ns:List Str)(ps:List (Str×Str))(D:PyData):Prop:=∃ row:List Str,D=nmD row/\ChR ns ps row
def inS (ns:List Str)(d:PyData):Bool:=(ns.map PyData.str).any fun e=>PyData.eqv e d
theorem inS_iff {ns:List Str}{d:PyData}:inS ns d=true↔∃ z∈ns,d = .str z:=by
 unfold inS
 rw[List.any_map,List.any_eq_true]
 constructor
 . rintro⟨z,hz,h⟩
   refine⟨z,hz,?_⟩
   cases d with
   | str y=>
     have h:PyData.eqv (.str z) (.str y)=true:=h
     have:=eqv_str_iff.mp h
     injection this with this
     rw[this]
   | _=>simp[PyData.eqv] at h
 rintro ⟨z,hz,rfl⟩
 exact⟨z,hz,eqv_str_iff.mpr rfl⟩
theorem Nk {ns:List Str}:∀ {ds:List PyData},(∀ d∈ds,inS ns d=true)->∃ row:List Str,ds=row.map PyData.str/\∀ z∈row,z∈ns
 | [],_=>⟨[],rfl,fun z h=>by cases h⟩
 | d :: ds,h=>by
   obtain⟨z,hz,rfl⟩:=inS_iff.mp (h d (.head _))
   obtain⟨row,rfl,hr⟩:=Nk fun e he=>h e (.tail _ he)
   exact⟨z :: row,rfl,fun y hy=>(List.mem_cons.mp hy).elim (fun e=>e ▸ hz) (hr y)⟩
theorem Tz {ns:List Str}{ps:List (Str×Str)}{ds:List PyData}(h:ChD ns ps (.tuple ds)):ds≠[]/\∀ d∈ds,inS ns d=true:=by
 obtain⟨row,e,h1,h2,_⟩:=h
 unfold nmD at e
 injection e with e
 subst e
 refine⟨by simpa using h1,fun d hd=>?_⟩
 obtain⟨z,hz,rfl⟩:=List.mem_map.mp hd
 exact inS_iff.mpr ⟨z,h2 z hz,rfl⟩
theorem Qu {ns:List Str}(h:∀ z∈ns,Jy z=true):PyData.canLayAll0 (ns.map PyData.str)=true:=by
 induction ns with
 | nil=>rfl
 | cons z ns ih=>
   rw[List.map_cons]
   simp only[PyData.canLayAll0,Bool.and_eq_true]
   exact⟨by simpa only[PyData.canLay0] using (G2 (h z (.head _))).1,ih fun y hy=>h y (.tail _ hy)⟩
def Fi (K:PySem.W.Frag):Sp:=fun vs H Q _=>∃ nv r u ns ps as D n w W,vs=[nv,.ref r,u]/\Is K H (nmD ns) nv/\TabR H r ns as (Way ps)/\ns.Nodup/\(∀ z∈ns,Jy z=true)/\Is K H D u/\Dk n w W D/\n<=60/\w<=500000/\∀ b H',Same H H'->(b=true↔ChD ns ps D)->Q (.bl b) H'
theorem N4 {f:Addr}{fd:FuncData}(F:Fun K "is_chain" "is_chain" Db f fd)(T:Fb mg):FnOk P w K mg base CX0 1 f fd ["names","reach","thing"] (Fi K):=by
 refine F.ok O1 (fun vs H Q E h=>?_) (fun cdv A outer s H vs Q E hr h=>?_)
 . obtain⟨nv,r,u,ns,ps,as,D,n,w,W,rfl,_⟩:=h
   rfl
 obtain⟨nv,r,u,ns,ps,as,D,n,w,W,rfl,hN,hT,hnd,hnm,hU,hD,hn,hw,k⟩:=h
 have hu:=C0 hr
 have hq:=By hr
 with_reducible refine⟨_,(A2 (C1 (PW.pt (K3 (Eb (Cu (A7 (Aw (K:=K)) (by ac_nf) T.b_isinstance PyProof.Rows.Boot.«isinstance» (A0 (pv 2) (A0 (Dh (v:=.ty "tuple") (by ac_nf) T.b_tuple PyProof.Rows.Boot.«tuple» (by ac_nf)) A1))))) (Iq (Ag (Bt (K:=K) hq) (A7 (Ah (K:=K)) (by ac_nf) T.b_len PyProof.Rows.Boot.«len» (A0 (pv 2) A1)) A3 (Aq _))))) (A5 (Am Ey)) An)
  (A2 (C1 (Eb (Cu (A7 (Lf (K:=K) (by ac_nf)) (by ac_nf) T.b_all PyProof.Rows.Boot.«all» (A0 (Bh ["name"] ["names"] [0] (by ac_nf) (by ac_nf) (by ac_nf) (Aj (K:=K) hu (pv 2)) (fun _ _ _ _=>(Ab (i:=0) (by with_unfolding_all (show(["name","names"]:List Str).Nodup;decide +kernel)) (by ac_nf) (by eq_refl))) (Av (by decide)) (fun _ _ _ _=>Br) (fun _ _ _ _=>(D0 (Eh (K:=K) hq) (pv 0) (pv 1) (by ac_nf)))) A1)))) (A5 (Am Ey)) An)
  (A5 (Am (A7 (Lf (K:=K) (by ac_nf)) (by ac_nf) T.b_all PyProof.Rows.Boot.«all» (A0 (Bh ["one","other"] ["reach"] [1] (by ac_nf) (by ac_nf) (by ac_nf) (Yw (K:=K) (by ac_nf) T.b_zip (A0 (pv 2) (A0 (Au (K4 (K:=K)) (pv 2) (B3 A3) Bz) A1))) (fun _ _ _ _=>(Rq (K:=K) (n:=2) (by ac_nf) (Hc (Ab (i:=0) (by with_unfolding_all (show(["one","other","reach"]:List Str).Nodup;decide +kernel)) (by ac_nf) (by eq_refl)) (Hc (Ab (i:=1) (by with_unfolding_all (show(["one","other","reach"]:List Str).Nodup;decide +kernel)) (by ac_nf) (by eq_refl)) Rw)))) (Yh (R1 (by decide) (R1 (by decide) Z9))) (fun _ _ _ _=>Br) (fun _ _ _ _=>(D0 (Eh (K:=K) hq) (pv 1) (Ap (A8 (K:=K) hu) (pv 2) (pv 0) (by ac_rfl)) (by ac_nf)))) A1)))))),?_⟩
 walk_at "rd"
 refine K0 hU ⟨_,rfl,?_⟩
 cases hTu:Yc D with
 | false=>
   walk_at "rd"
   exact k false H (.refl H) ⟨fun h=>(by cases h),fun⟨row,h,_⟩=>by rw[h] at hTu;cases hTu⟩
 | true=>
   obtain⟨ds,rfl⟩:∃ ds,D = .tuple ds:=by cases D<;>first | exact⟨_,rfl⟩ | cases hTu
   obtain⟨ua,xs,rfl,hS,hX⟩:=hU.tup
   have hxl:=IsL.length hX
   have hE0:ds.length<=w:=by
    have:=hD.wt
    simp only[PyData.weight] at this
    exact Nat.le_trans (Jz ds) (by omega)
   walk_at "rd"
   refine Ux hS ?_
   walk_at "rd"
   refine Jc (fun hc=>?_) (fun hc=>?_)
   . walk_at "rd"
     refine k false H (.refl H) ⟨fun h=>(by cases h),fun h=>absurd ?_ (Tz h).1⟩
     have:xs.length=0:=by
      rcases Nat.eq_zero_or_pos xs.length with h | h
      . exact h
      exact absurd hc (by simp;intro h2;rw[h2] at h;simp at h)
     exact List.eq_nil_of_length_eq_zero (by omega)
   have hds:ds≠[]:=by
    rintro rfl
    exact hc (by rw[<- hxl];rfl)
   walk_at "rd"
   refine Gm hS ?_
   refine Gy (K:=K) (Bw (xs:=xs)) ds (by omega) (fun d=>inS ns d) (by omega) (fun H' e=>e.seqT hS) (fun j d xv H1 R hd hxv e1 hR=>?_) (fun q H1 hq1 e1 h1=>?_)
   . obtain⟨d',hd',hId⟩:=IsL.get hX hxv
     rw[hd] at hd'
     cases hd'
     walk_at "rd"
     obtain⟨m,rfl⟩:∃ m,n=m+1:=⟨n-1,by have:=hD.dp;simp only[PyData.depth] at this;omega⟩
     obtain⟨du,hdu⟩:=hD.els.all d (List.mem_of_getElem? hd)
     exact Z1 (Is.mono e1 _ _ hId) (.inr (Is.mono e1 _ _ hN)) (Qu hnm) hdu.lay (Nat.le_trans hdu.dp (by omega)) (hR H1 (.refl _))
   walk_at "rd"
   refine a35 h1 ?_
   cases hA:(ds.map fun d=>inS ns d).all id with
   | false=>
     walk_at "rd"
     refine k false H1 e1 ⟨fun h=>(by cases h),fun h=>?_⟩
     rw[List.all_map] at hA
     rw[<- hA,List.all_eq_true]
     exact(Tz h).2
   | true=>
     rw[List.all_map,List.all_eq_true] at hA
     obtain⟨row,rfl,hrow⟩:=Nk hA
     obtain⟨ua',eua,hS⟩:=Is.nm (ns:=row) hU
     cases eua
     walk_at "rd"
     refine Na (e1.seqT hS) fun q2 H2 e2 h2=>?_
     rw[Hw (by omega),<- List.map_drop] at h2
     have e12:=e1.trans e2
     have hT2:=hT.same e12
     walk_at "rd"
     refine Ui (f:=fun i=>match row[i]?,row[i+1]? with | some x,some y=>Cc ps x y | _,_=>true) (e12.seqT hS) h2 (by rw[List.length_map];simp at hxl;simp at hE0;omega) (fun i x y H3 R hx hy e3 hR=>?_) (fun p H3 hp3 e3 h3=>?_)
     . rw[List.getElem?_map] at hx hy
       obtain⟨x',hx',rfl⟩:=Option.map_eq_some_iff.mp hx
       obtain⟨y',hy',rfl⟩:=Option.map_eq_some_iff.mp hy
       have hy1:row[i+1]? = some y':=by
        rw[List.getElem?_drop] at hy'
        rw[<- hy']
        congr 1
        omega
       have hT3:=hT2.same e3
       obtain⟨i',a,hi,hai⟩:=hT3.at (hrow x' (List.mem_of_getElem? hx'))
       obtain⟨ks,hk1,hk2,hk3,hk4⟩:=hT3.row i' x' a hi hai
       walk_at "rd"
       refine a65 hT3 hnd hi hai ?_
       refine Ud hk1 ?_
       rw[Fq (hk4 y')]
       have:=hR H3 (.refl _)
       simpa only[hx',hy1] using this
     walk_at "rd"
     refine a35 (SqL.of h3) ?_
     walk_at "rd"
     refine k _ H3 (e12.trans e3) ?_
     rw[List.all_map,List.all_eq_true]
     constructor
     . intro h
       refine⟨row,rfl,by simpa using hds,hrow,fun i x y hx hy=>?_⟩
       have hl1:=(List.getElem?_eq_some_iff.mp hy).1
       have:=h i (by rw[List.mem_range,List.length_map,List.length_map,List.length_drop];omega)
       simp only[Function.comp,id,hx,hy] at this
       exact wayB_iff.mp this
     rintro⟨row',e,_,_,h⟩ i _
     unfold nmD at e
     injection e with e
     have:=Ox e
     subst this
     show(match row[i]?,row[i+1]? with | some x,some y=>Cc ps x y | _,_=>true)=true
     cases hx:row[i]? with
     | none=>rfl
     | some x=>
       cases hy:row[i+1]? with
       | none=>rfl
       | some y=>exact wayB_iff.mpr (h i x y hx hy)
def CvO (ns:List Str)(ps:List (Str×Str)):Option (List PyData)->Prop
 | some ds=>∃ rows:List (List Str),ds=rows.map nmD/\(∀ row∈rows,ChR ns ps row)/\rows.flatten.Perm ns
 | none=>False
theorem Tc:∀ row:List Str,Ez (row.map PyData.str)=row.length
 | []=>rfl
 | z :: row=>by
   have:=Tc row
   simp only[List.map_cons,Ez,lfs,List.length_cons]
   omega
theorem Er:∀ rows:List (List Str),Ez (rows.map nmD)=rows.flatten.length
 | []=>rfl
 | r :: rows=>by
   have:=Er rows
   have h:=Tc r
   rw[List.map_cons,List.flatten_cons,List.length_append]
   simp only[Ez]
   unfold nmD at this ⊢
   rw[Dm]
   omega
theorem Ih {a b:List Str}(h:nmD a=nmD b):a=b:=by
 unfold nmD at h
 injection h with h
 exact Ox h
theorem a68 {ns:List Str}{ps:List (Str×Str)}{ds:List PyData}{i:Nat}{D:PyData}(h:CvO ns ps (some ds))(hD:ds[i]? = some D):ChD ns ps D:=by
 obtain⟨rows,rfl,h1,_⟩:=h
 rw[List.getElem?_map] at hD
 obtain⟨row,hr,rfl⟩:=Option.map_eq_some_iff.mp hD
 exact⟨row,rfl,h1 row (List.mem_of_getElem? hr)⟩
theorem Ir {a b m1 m2:List Str}(h1:m1.Perm a)(s1:sortedS m1=true)(h2:m2.Perm b)(s2:sortedS m2=true):decide (m1=m2)=true↔a.Perm b:=by
 rw[decide_eq_true_eq]
 constructor
 . rintro rfl
   exact h1.symm.trans h2
 exact fun h=>Jx ((h1.trans h).trans h2.symm) s1 s2
def E4 (K:PySem.W.Frag):Sp:=fun vs H Q _=>∃ v u ns ps n w W M o,vs=[v,u]/\Is K H (hfD ns ps) v/\Half ns ps/\ThW K H u n w W M o/\n<=60/\w<=500000/\M<64/\∀ b H',Same H H'->(b=true↔CvO ns ps o)->Q (.bl b) H'
theorem Nl {f:Addr}{fd:FuncData}(F:Fun K "is_cover" "is_cover" Dd f fd)(T:Fb mg)(c_behind_each:Fnd P w K mg base 1 "behind_each" ["half"] (Cp K))(c_is_chain:Fnd P w K mg base 1 "is_chain" ["names","reach","thing"] (Fi K)):FnOk P w K mg base CX0 2 f fd ["half","thing"] (E4 K):=by
 refine F.ok sc_is_cover (fun vs H Q E h=>?_) (fun cdv A outer s H vs Q E hr h=>?_)
 . obtain⟨v,u,ns,ps,n,w,W,M,o,rfl,_⟩:=h
   rfl
 obtain⟨v,u,ns,ps,n,w,W,M,o,rfl,hI,hH,hU,hn,hw,hM,k⟩:=h
 have hu:=C0 hr
 have hq:=By hr
 have h10:=hH.few
 with_reducible refine⟨_,(A2 (C1 (Eb (Cu (A7 (Aw (K:=K)) (by ac_nf) T.b_isinstance PyProof.Rows.Boot.«isinstance» (A0 (pv 1) (A0 (Dh (v:=.ty "tuple") (by ac_nf) T.b_tuple PyProof.Rows.Boot.«tuple» (by ac_nf)) A1))))) (A5 (Am Ey)) An)
  (A2 (Aa (i:=2) sc_is_cover.nd (by ac_nf) (by eq_refl) (Ai c_behind_each (hr.mono (by decide)) (by ac_nf) (A0 (pv 0) A1)))
  (A2 (Aa (i:=3) sc_is_cover.nd (by ac_nf) (by eq_refl) (Az A1))
  (A2 (Bl PassesOwn.never (by ac_nf) (Aj (K:=K) hu (pv 1)) (Ab (i:=4) sc_is_cover.nd (by ac_nf) (by eq_refl))
  (A2 (C1 (Eb (Cu (Ai c_is_chain (hr.mono (by decide)) (by ac_nf) (A0 (Ap (A8 (K:=K) hu) (pv 0) A3 (by ac_rfl)) (A0 (pv 2) (A0 (pv 4) A1)))))) (A5 (Am Ey)) An)
  (A5 (C6 (Dn (K:=K) PySem.F.plainAttrs_list PySem.F.slot_list_extend PySem.F.type_list_extend (mm (Jm (K:=K))) (pv 3) (A0 (pv 4) A1))))))
  (A5 (Am (D0 (Bt (K:=K) hq) (A7 (Dp (K:=K)) (by ac_nf) T.b_sorted PyProof.Rows.Boot.«sorted» (A0 (pv 3) A1)) (A7 (Dp (K:=K)) (by ac_nf) T.b_sorted PyProof.Rows.Boot.«sorted» (A0 (Ap (A8 (K:=K) hu) (pv 0) A3 (by ac_rfl)) A1)) (Aq _)))))))),?_⟩
 walk_at "rd"
 refine Wb hU ?_
 cases o with
 | none=>
   walk_at "rd"
   exact k false H (.refl H) ⟨fun h=>(by cases h),fun h=>h.elim⟩
 | some ds=>
   obtain⟨hU,hD,hlf⟩:=hU
   obtain⟨ua,xs,rfl,hS,hX⟩:=hU.tup
   have hxl:=IsL.length hX
   obtain⟨m,rfl⟩:∃ m,n=m+1:=⟨n-1,by have:=hD.dp;simp only[PyData.depth] at this;omega⟩
   have hE:=hD.els
   rw[show(some ds).isSome=true from rfl]
   walk_at "rd"
   refine⟨v,ns,ps,rfl,hI,hH.w.c,fun r as H1 hr1 has e1 hT1=>?_⟩
   walk_at "rd"
   refine B2 (A6 (by simp)) fun p H2 hp2 e2 h2=>?_
   walk_at "rd"
   refine Gm ((e1.trans e2).seqT hS) ?_
   refine D4 (Bw (xs:=xs)) (fun i σ H3=>∃ x4 rows,σ=[some v,some (.ref ua),some (.ref r),some (.ref p),x4]/\Same H1 H3/\H3 p=some (.lst (rows.flatten.map V.str))/\ds.take i=rows.map nmD/\∀ row∈rows,ChR ns ps row)
    ⟨none,[],rfl,e2,h2,rfl,fun row h=>by cases h⟩ (fun i σ' H' hP=>?_) (fun i x σ' H3 hx hi hP=>?_) (fun σ' H3 hP=>?_)
   . obtain⟨_,_,_,e,_⟩:=hP
     exact(e1.trans e).seqT hS
   . obtain⟨x4,rows,rfl,e3,h3,htk,hrows⟩:=hP
     have e13:=e1.trans e3
     obtain⟨D,hDi,hIx⟩:=IsL.get hX hx
     obtain⟨du,hdu⟩:=hE.all D (List.mem_of_getElem? hDi)
     have hwx:D.weight<=w:=Nat.le_trans (P3 (List.mem_of_getElem? hDi)) hE.wt
     walk_at "rd"
     refine Do (hI.hf_fz e13.fz) fun nv hN=>?_
     walk_at "rd"
     refine⟨nv,r,x,ns,ps,as,D,m,w,W,rfl,hN,(hT1.same e3).toR,hH.names.1,hH.names.2,Is.mono e13 _ _ hIx,⟨hdu.asc,hdu.lay,hdu.sh,hdu.lv,hdu.dp,hwx,hdu.wd⟩,by omega,hw,fun b H4 e4 hb=>?_⟩
     cases b with
     | false=>
       walk_at "rd"
       refine k false H4 (e13.trans e4) ⟨fun h=>(by cases h),fun h=>?_⟩
       have:=hb.mpr (a68 h hDi)
       cases this
     | true=>
       obtain⟨row,rfl,hrow⟩:=hb.mp rfl
       obtain⟨xa,rfl,hSx⟩:=Is.nm (Is.mono (e13.trans e4) _ _ hIx)
       walk_at "rd"
       have ht:ds.take (i+1)=(rows++[row]).map nmD:=by rw[List.take_add_one,hDi,htk,List.map_append];rfl
       have hsz:(rows++[row]).flatten.length<=M:=by
        rw[<- Er,<- ht]
        exact Nat.le_trans (J4 _ _) hlf
       rw[List.flatten_append,List.flatten_cons,List.flatten_nil,List.append_nil,List.length_append] at hsz
       have h4:=e4 _ _ h3
       refine Vq h4 hSx (by rw[List.length_map,List.length_map];omega) fun H5 e5 h5=>?_
       walk_at "rd"
       refine⟨_,rows++[row],rfl,Same.off (q:=p) (H1:=H4) (e3.trans e4) hp2 e5,?_,ht,fun y hy=>?_⟩
       . rw[h5,List.flatten_append,List.flatten_cons,List.flatten_nil,List.append_nil,List.map_append]
       rcases List.mem_append.mp hy with hy | hy
       . exact hrows y hy
       rw[List.mem_singleton.mp hy]
       exact hrow
   obtain⟨x4,rows,rfl,e3,h3,htk,hrows⟩:=hP
   have e13:=e1.trans e3
   rw[hxl.symm,List.take_length] at htk
   have hsz:rows.flatten.length<=M:=by
    rw[<- Er,<- htk]
    exact hlf
   have hin:∀ z∈rows.flatten,z∈ns:=fun z hz=>by
    obtain⟨row,h1,h2⟩:=List.mem_flatten.mp hz
    exact(hrows row h1).2.1 z h2
   walk_at "rd"
   refine Ha (.inl (SqL.of h3)) (by omega) fun p4 m4 H4 hp4 e4 h4 hm4 hs4=>?_
   walk_at "rd"
   refine Do (hI.hf_fz (e13.trans e4).fz) fun nv hN=>?_
   obtain⟨na,rfl,hSn⟩:=hN.nm
   walk_at "rd"
   refine Ha (.inr hSn) (by omega) fun p5 m5 H5 hp5 e5 h5 hm5 hs5=>?_
   walk_at "rd"
   refine Ur (Is.of_lst (SqL.of (e5 _ _ h4)) (E6 m4)) (Is.of_lst (SqL.of h5) (E6 m5)) (Dz fun z hz=>(G2 (hH.names.2 z (hin z (hm4.mem_iff.mp hz)))).1) (Dz fun z hz=>(G2 (hH.names.2 z (hm5.mem_iff.mp hz))).1) ?_
   rw[Pa]
   walk_at "rd"
   refine k _ H5 ((e13.trans e4).trans e5) ((Ir hm4 hs4 hm5 hs5).trans ⟨fun h=>⟨rows,htk,hrows,h⟩,fun⟨rows',h1,_,h3⟩=>?_⟩)
   have:rows=rows':=by
    rw[h1] at htk
    exact((List.map_inj_right fun _ _=>Ih).mp htk).symm
   rw[this]
   exact h3
theorem Yb {ns:List Str}{d:PyData}(h:a85 d=false):inS ns d=false:=by
 cases e:inS ns d with
 | false=>rfl
 | true=>
   obtain⟨z,_,rfl⟩:=inS_iff.mp e
   cases h
theorem Wi {K:PySem.W.Frag}{H:Hp}{R:VK}{d:PyData}{x v:V}{ns:List Str}{m w W:Nat}(hI:Is K H d x)(hd:Dk m w W d)(hm:m<=100)(hnm:∀ z∈ns,Jy z=true)(hN:Is K H (nmD ns) v)(hR:R (.bl (inS ns d)) H):Q6 K false x v H R:=Z1 hI (.inr hN) (Qu hnm) hd.lay (Nat.le_trans hd.dp hm) hR
def Cw (K:PySem.W.Frag):Sp:=fun vs H Q _=>∃ v u ns ps D n w W,vs=[v,u]/\Is K H (hfD ns ps) v/\Half ns ps/\Is K H D u/\Dk n w W D/\n<=60/\w<=500000/\∀ b H',Same H H'->(b=true↔ChD ns ps D)->Q (.bl b) H'
theorem Gu {f:Addr}{fd:FuncData}(F:Fun K "_law_is_chain" "_law_is_chain" Bd f fd)(T:Fb mg)(c__law_behind:Fnd P w K mg base 1 "_law_behind" ["_law_half_here","_law_name"] (Bs K)):FnOk P w K mg base CX0 2 f fd ["_law_half_here","_law_thing"] (Cw K):=by
 refine F.ok Gn (fun vs H Q E h=>?_) (fun cdv A outer s H vs Q E hr h=>?_)
 . obtain⟨v,u,ns,ps,D,n,w,W,rfl,_⟩:=h
   rfl
 obtain⟨v,u,ns,ps,D,n,w,W,rfl,hI,hH,hU,hD,hn,hw,k⟩:=h
 have hu:=C0 hr
 have hq:=By hr
 have hle:=hH.le
 have hok:OkP ps:=Re hH.nmP
 have hok1:∀ z∈ns,PyData.strOk z=true:=fun z hz=>(G2 (hH.names.2 z hz)).1
 with_reducible refine⟨_,(A2 (C1 (PW.pt (K3 (Eb (Cu (A7 (Aw (K:=K)) (by ac_nf) T.b_isinstance PyProof.Rows.Boot.«isinstance» (A0 (pv 1) (A0 (Dh (v:=.ty "tuple") (by ac_nf) T.b_tuple PyProof.Rows.Boot.«tuple» (by ac_nf)) A1))))) (Iq (Ag (Bt (K:=K) hq) (A7 (Ah (K:=K)) (by ac_nf) T.b_len PyProof.Rows.Boot.«len» (A0 (pv 1) A1)) A3 (Aq _))))) (A5 (Am Ey)) An)
  (A2 (C1 (Ag (Eh (K:=K) hq) Ey (Bh ["_law_one"] ["_law_half_here"] [0] (by ac_nf) (by ac_nf) (by ac_nf) (Aj (K:=K) hu (pv 1)) (fun _ _ _ _=>(Ab (i:=0) (by with_unfolding_all (show(["_law_one","_law_half_here"]:List Str).Nodup;decide +kernel)) (by ac_nf) (by eq_refl))) (Av (by decide)) (fun _ _ _ _=>Br) (fun _ _ _ _=>(R5 (A7 (Aw (K:=K)) (by ac_nf) T.b_isinstance PyProof.Rows.Boot.«isinstance» (A0 (pv 0) (A0 (Dh (v:=.ty "str") (by ac_nf) T.b_str PyProof.Rows.Boot.«str» (by ac_nf)) A1))) (Qq (D0 (Eh (K:=K) hq) (pv 0) (Ap (A8 (K:=K) hu) (pv 1) A3 (by ac_rfl)) (by ac_nf)))))) (by ac_nf)) (A5 (Am Ey)) An)
  (A5 (Am (D0 (Eg (K:=K) hq) Ey (Bh ["_law_k"] ["_law_thing","_law_half_here"] [1,0] (by ac_nf) (by ac_nf) (by ac_nf) (Lp (by ac_nf) T.b_range (A0 A3 (A0 (A7 (Ah (K:=K)) (by ac_nf) T.b_len PyProof.Rows.Boot.«len» (A0 (pv 1) A1)) A1))) (fun _ _ _ _=>(Ab (i:=0) (by with_unfolding_all (show(["_law_k","_law_thing","_law_half_here"]:List Str).Nodup;decide +kernel)) (by ac_nf) (by eq_refl))) (Av (by decide)) (fun _ _ _ _=>Br) (fun _ _ _ _=>(D0 (Eh (K:=K) hq) (Ap (A8 (K:=K) hu) (pv 1) (pv 0) (by ac_rfl)) (Ai c__law_behind (hr.mono (by decide)) (by ac_nf) (A0 (pv 2) (A0 (Ap (A8 (K:=K) hu) (pv 1) (Ae K1 (pv 0) A3) (by ac_rfl)) A1))) (by ac_nf)))) (by ac_nf)))))),?_⟩
 walk_at "rd"
 refine K0 hU ⟨_,rfl,?_⟩
 cases hTu:Yc D with
 | false=>
   walk_at "rd"
   exact k false H (.refl H) ⟨fun h=>(by cases h),fun⟨row,h,_⟩=>by rw[h] at hTu;cases hTu⟩
 | true=>
   obtain⟨ds,rfl⟩:∃ ds,D = .tuple ds:=by cases D<;>first | exact⟨_,rfl⟩ | cases hTu
   obtain⟨ua,xs,rfl,hS,hX⟩:=hU.tup
   have hxl:=IsL.length hX
   have hE0:ds.length<=w:=by
    have:=hD.wt
    simp only[PyData.weight] at this
    exact Nat.le_trans (Jz ds) (by omega)
   walk_at "rd"
   refine Ux hS ?_
   walk_at "rd"
   refine Jc (fun hc=>?_) (fun hc=>?_)
   . walk_at "rd"
     refine k false H (.refl H) ⟨fun h=>(by cases h),fun h=>absurd ?_ (Tz h).1⟩
     have:xs.length=0:=by
      rcases Nat.eq_zero_or_pos xs.length with h | h
      . exact h
      exact absurd hc (by simp;intro h2;rw[h2] at h;simp at h)
     exact List.eq_nil_of_length_eq_zero (by omega)
   have hds:ds≠[]:=by
    rintro rfl
    exact hc (by rw[<- hxl];rfl)
   walk_at "rd"
   refine Gm hS ?_
   refine Gy (K:=K) (Bw (xs:=xs)) ds (by omega) (fun d=>inS ns d) (by omega) (fun H' e=>e.seqT hS) (fun j d xv H1 R hd hxv e1 hR=>?_) (fun q H1 hq1 e1 h1=>?_)
   . obtain⟨d',hd',hId⟩:=IsL.get hX hxv
     rw[hd] at hd'
     cases hd'
     walk_at "rd"
     obtain ⟨m,rfl⟩:∃ m,n=m+1:=⟨n-1,by have:=hD.dp;simp only[PyData.depth] at this;omega⟩
     obtain⟨du,hdu⟩:=hD.els.all d (List.mem_of_getElem? hd)
     refine W3 (Is.mono e1 _ _ hId) ⟨_,rfl,?_⟩
     cases hs:a85 d with
     | false=>
       walk_at "rd"
       have:=hR H1 (.refl _)
       rw[Yb hs] at this
       exact this
     | true=>
       walk_at "rd"
       refine Do (hI.hf_fz e1.fz) fun nv hN=>?_
       exact Wi (Is.mono e1 _ _ hId) hdu (by omega) hH.names.2 hN (hR H1 (.refl _))
   walk_at "rd"
   refine V8 h1 ?_
   cases hA:(ds.map fun d=>inS ns d).all id with
   | false=>
     walk_at "rd"
     refine k false H1 e1 ⟨fun h=>(by cases h),fun h=>?_⟩
     rw[List.all_map] at hA
     rw[<- hA,List.all_eq_true]
     exact(Tz h).2
   | true=>
     rw[List.all_map,List.all_eq_true] at hA
     obtain⟨row,rfl,hrow⟩:=Nk hA
     have hU1:Is K H1 (nmD row) (.ref ua):=Is.mono e1 _ _ hU
     have hl2:row.length<=500000:=by simp at hE0;omega
     walk_at "rd"
     refine Fd hU1 ?_
     walk_at "rd"
     refine Vt (by omega) ?_
     refine Gy (K:=K) Ax (List.range ((row.length:Nat)-1:Int).toNat) (by simp) (fun i=>match row[i]?,row[i+1]? with | some x,some y=>Cc ps x y | _,_=>true) (by simp;omega) (fun _ _=>trivial) (fun j j' x H2 R hj' hx e2 hR=>?_) (fun q2 H2 hq2 e2 h2=>?_)
     . obtain⟨rfl,hj⟩:=Ci hx
       have hjj:j'=j:=by
        obtain⟨h2,h3⟩:=List.getElem?_eq_some_iff.mp hj'
        simp at h2 h3
        exact h3.symm
       subst hjj
       have hU2:=hU1.nm_fz e2.fz
       obtain⟨y,hy1,_,hy3⟩:=str_at? (ls:=row) (i:=1+(j':Int)) (by omega) (by omega)
       obtain⟨x,hx1,_,hx3⟩:=str_at? (ls:=row) (i:=1+(j':Int)-1) (by omega) (by omega)
       have q1:(1+(j':Int)).toNat=j'+1:=by omega
       have q2:(1+(j':Int)-1).toNat=j':=by omega
       rw[q1] at hy1
       rw[q2] at hx1
       walk_at "rd"
       refine Wj hU2 hy3 ?_
       walk_at "rd"
       refine Wj hU2 hx3 ?_
       walk_at "rd"
       refine⟨v,x,ns,ps,rfl,hI.hf_fz (e1.fz.trans e2.fz),by omega,hok,hok1 x (hrow x (List.mem_of_getElem? hx1)),fun b fs H3 hb3 e3' h3 hnd hfs=>?_⟩
       refine Ob (SqL.of h3) ?_
       rw[Fq (hfs y)]
       have:=hR H3 e3'
       simpa only[hx1,hy1] using this
     walk_at "rd"
     refine Xr h2 ?_
     walk_at "rd"
     refine k _ H2 (e1.trans e2) ?_
     rw[List.all_map,List.all_eq_true]
     constructor
     . intro h
       refine⟨row,rfl,by simpa using hds,hrow,fun i x y hx hy=>?_⟩
       have hl1:=(List.getElem?_eq_some_iff.mp hy).1
       have:=h i (by rw[List.mem_range];omega)
       simp only[Function.comp,id,hx,hy] at this
       exact wayB_iff.mp this
     rintro⟨row',e,_,_,h⟩ i _
     have:=Ih (a:=row) e
     subst this
     show(match row[i]?,row[i+1]? with | some x,some y=>Cc ps x y | _,_=>true)=true
     cases hx:row[i]? with
     | none=>rfl
     | some x=>
       cases hy:row[i+1]? with
       | none=>rfl
       | some y=>exact wayB_iff.mpr (h i x y hx hy)
def chB (ns:List Str)(ps:List (Str×Str))(D:PyData):Bool:=@decide (ChD ns ps D) (Classical.propDecidable _)
theorem chB_iff {ns:List Str}{ps:List (Str×Str)}{D:PyData}:chB ns ps D=true↔ChD ns ps D:=by
 unfold chB
 exact @decide_eq_true_iff (ChD ns ps D) (Classical.propDecidable _)
theorem V9 {ns:List Str}{ps:List (Str×Str)}:∀ {ds:List PyData},(∀ d∈ds,ChD ns ps d)->∃ rows:List (List Str),ds=rows.map nmD/\∀ row∈rows,ChR ns ps row
 | [],_=>⟨[],rfl,fun z h=>by cases h⟩
 | d :: ds,h=>by
   obtain⟨r,rfl,hr⟩:=h d (.head _)
   obtain⟨rows,rfl,hrs⟩:=V9 fun e he=>h e (.tail _ he)
   exact⟨r :: rows,rfl,fun y hy=>(List.mem_cons.mp hy).elim (fun e=>e ▸ hr) (hrs y)⟩
def Cz (K:PySem.W.Frag):Sp:=fun vs H Q _=>∃ v u ns ps n w W M o,vs=[v,u]/\Is K H (hfD ns ps) v/\Half ns ps/\ThW K H u n w W M o/\n<=60/\w<=500000/\M<64/\∀ b H',Same H H'->(b=true↔CvO ns ps o)->Q (.bl b) H'
theorem Gs {f:Addr}{fd:FuncData}(F:Fun K "_law_is_cover" "_law_is_cover" Ba f fd)(T:Fb mg)(c__law_is_chain:Fnd P w K mg base 2 "_law_is_chain" ["_law_half_here","_law_thing"] (Cw K)):FnOk P w K mg base CX0 3 f fd ["_law_half_here","_law_thing"] (Cz K):=by
 refine F.ok sc__law_is_cover (fun vs H Q E h=>?_) (fun cdv A outer s H vs Q E hr h=>?_)
 . obtain⟨v,u,ns,ps,n,w,W,M,o,rfl,_⟩:=h
   rfl
 obtain⟨v,u,ns,ps,n,w,W,M,o,rfl,hI,hH,hU,hn,hw,hM,k⟩:=h
 have hu:=C0 hr
 have hq:=By hr
 have h10:=hH.few
 with_reducible refine⟨_,(A2 (C1 (PW.pt (K3 (Eb (Cu (A7 (Aw (K:=K)) (by ac_nf) T.b_isinstance PyProof.Rows.Boot.«isinstance» (A0 (pv 1) (A0 (Dh (v:=.ty "tuple") (by ac_nf) T.b_tuple PyProof.Rows.Boot.«tuple» (by ac_nf)) A1))))) (Iq (Ag (Eh (K:=K) hq) Ey (Bh ["_law_one"] ["_law_half_here"] [0] (by ac_nf) (by ac_nf) (by ac_nf) (Aj (K:=K) hu (pv 1)) (fun _ _ _ _=>(Ab (i:=0) (by with_unfolding_all (show(["_law_one","_law_half_here"]:List Str).Nodup;decide +kernel)) (by ac_nf) (by eq_refl))) (Av (by decide)) (fun _ _ _ _=>Br) (fun _ _ _ _=>(Ai c__law_is_chain (hr.mono (by decide)) (by ac_nf) (A0 (pv 1) (A0 (pv 0) A1))))) (by ac_nf))))) (A5 (Am Ey)) An)
  (A2 (Aa (i:=2) sc__law_is_cover.nd (by ac_nf) (by eq_refl) (Az A1))
  (A2 (Bl PassesOwn.never (by ac_nf) (Aj (K:=K) hu (pv 1)) (Ab (i:=3) sc__law_is_cover.nd (by ac_nf) (by eq_refl))
  (A5 (C6 (Dn (K:=K) PySem.F.plainAttrs_list PySem.F.slot_list_extend PySem.F.type_list_extend (mm (Jm (K:=K))) (pv 2) (A0 (pv 3) A1)))))
  (A5 (Am (D0 (Bt (K:=K) hq) (A7 (Dp (K:=K)) (by ac_nf) T.b_sorted PyProof.Rows.Boot.«sorted» (A0 (pv 2) A1)) (A7 (Dp (K:=K)) (by ac_nf) T.b_sorted PyProof.Rows.Boot.«sorted» (A0 (Ap (A8 (K:=K) hu) (pv 0) A3 (by ac_rfl)) A1)) (Aq _))))))),?_⟩
 walk_at "rd"
 refine Wb hU ⟨_,rfl,?_⟩
 cases o with
 | none=>
   walk_at "rd"
   exact k false H (.refl H) ⟨fun h=>(by cases h),fun h=>h.elim⟩
 | some ds=>
   obtain⟨hU,hD,hlf⟩:=hU
   obtain⟨ua,xs,rfl,hS,hX⟩:=hU.tup
   have hxl:=IsL.length hX
   obtain⟨m,rfl⟩:∃ m,n=m+1:=⟨n-1,by have:=hD.dp;simp only[PyData.depth] at this;omega⟩
   have hE:=hD.els
   have hwl:ds.length<=w:=Nat.le_trans (Jz ds) hE.wt
   rw[show(some ds).isSome=true from rfl]
   walk_at "rd"
   refine Gm hS ?_
   refine Gy (K:=K) (Bw (xs:=xs)) ds (by omega) (fun d=>chB ns ps d) (by omega) (fun H' e=>e.seqT hS) (fun j d xv H1 R hd hxv e1 hR=>?_) (fun q H1 hq1 e1 h1=>?_)
   . obtain⟨d',hd',hId⟩:=IsL.get hX hxv
     rw[hd] at hd'
     cases hd'
     obtain⟨du,hdu⟩:=hE.all d (List.mem_of_getElem? hd)
     have hwx:d.weight<=w:=Nat.le_trans (P3 (List.mem_of_getElem? hd)) hE.wt
     walk_at "rd"
     refine⟨v,xv,ns,ps,d,m,w,W,rfl,hI.hf_fz e1.fz,hH,Is.mono e1 _ _ hId,⟨hdu.asc,hdu.lay,hdu.sh,hdu.lv,hdu.dp,hwx,hdu.wd⟩,by omega,hw,fun b H2 e2 hb=>?_⟩
     have:b=chB ns ps d:=Bool.eq_iff_iff.mpr (hb.trans chB_iff.symm)
     rw[this]
     exact hR H2 e2
   walk_at "rd"
   refine V8 h1 ?_
   cases hA:(ds.map fun d=>chB ns ps d).all id with
   | false=>
     walk_at "rd"
     refine k false H1 e1 ⟨fun h=>(by cases h),fun h=>?_⟩
     rw[List.all_map] at hA
     rw[<- hA,List.all_eq_true]
     intro d hd
     obtain⟨i,hi⟩:=List.mem_iff_getElem?.mp hd
     exact chB_iff.mpr (a68 h hi)
   | true=>
     rw[List.all_map,List.all_eq_true] at hA
     obtain⟨rows,rfl,hrows⟩:=V9 fun d hd=>chB_iff.mp (hA d hd)
     rw[Er] at hlf
     have hin:∀ z∈rows.flatten,z∈ns:=fun z hz=>by
      obtain⟨row,h1,h2⟩:=List.mem_flatten.mp hz
      exact(hrows row h1).2.1 z h2
     walk_at "rd"
     refine B2 (A6 (by simp)) fun p H2 hp2 e2 h2=>?_
     walk_at "rd"
     refine Gm ((e1.trans e2).seqT hS) ?_
     refine D4 (Bw (xs:=xs)) (fun i σ H3=>∃ x3,σ=[some v,some (.ref ua),some (.ref p),x3]/\Same H1 H3/\H3 p=some (.lst ((rows.take i).flatten.map V.str)))
      ⟨none,rfl,e2,h2⟩ (fun i σ' H' hP=>?_) (fun i x σ' H3 hx hi hP=>?_) (fun σ' H3 hP=>?_)
     . obtain⟨_,_,e,_⟩:=hP
       exact(e1.trans e).seqT hS
     . obtain⟨x3,rfl,e3,h3⟩:=hP
       have e13:=e1.trans e3
       obtain⟨D,hDi,hIx⟩:=IsL.get hX hx
       rw[List.getElem?_map] at hDi
       obtain⟨row,hri,rfl⟩:=Option.map_eq_some_iff.mp hDi
       obtain⟨xa,rfl,hSx⟩:=Is.nm (Is.mono e13 _ _ hIx)
       have ht:(rows.take (i+1)).flatten=(rows.take i).flatten++row:=by rw[List.take_add_one,hri,List.flatten_append];simp
       have hsz:(rows.take (i+1)).flatten.length<=M:=by
        have:=J4 (rows.map nmD) (i+1)
        rw[<- List.map_take,Er,Er] at this
        omega
       rw[ht,List.length_append] at hsz
       walk_at "rd"
       refine Vq h3 hSx (by rw[List.length_map,List.length_map];omega) fun H5 e5 h5=>?_
       walk_at "rd"
       exact⟨_,rfl,Same.off (q:=p) (H1:=H3) e3 hp2 e5,by rw[h5,ht,List.map_append]⟩
     obtain⟨x3,rfl,e3,h3⟩:=hP
     have e13:=e1.trans e3
     rw[<- hxl,List.length_map,List.take_length] at h3
     walk_at "rd"
     refine Ha (.inl (SqL.of h3)) (by omega) fun p4 m4 H4 hp4 e4 h4 hm4 hs4=>?_
     walk_at "rd"
     refine Do (hI.hf_fz (e13.trans e4).fz) fun nv hN=>?_
     obtain⟨na,rfl,hSn⟩:=hN.nm
     walk_at "rd"
     refine Ha (.inr hSn) (by omega) fun p5 m5 H5 hp5 e5 h5 hm5 hs5=>?_
     walk_at "rd"
     refine Ur (Is.of_lst (SqL.of (e5 _ _ h4)) (E6 m4)) (Is.of_lst (SqL.of h5) (E6 m5)) (Dz fun z hz=>(G2 (hH.names.2 z (hin z (hm4.mem_iff.mp hz)))).1) (Dz fun z hz=>(G2 (hH.names.2 z (hm5.mem_iff.mp hz))).1) ?_
     rw[Pa]
     walk_at "rd"
     refine k _ H5 ((e13.trans e4).trans e5) ((Ir hm4 hs4 hm5 hs5).trans ⟨fun h=>⟨rows,rfl,hrows,h⟩,fun⟨rows',h1,_,h3⟩=>?_⟩)
     rw[(List.map_inj_right fun _ _=>Ih).mp h1]
     exact h3
def Cq (K:PySem.W.Frag):Sp:=fun vs H Q _=>∃ v ns ps,vs=[v]/\Is K H (hfD ns ps) v/\Half ns ps/\∀ u H' Ls,Same H H'->Lays ps ns Ls->Is K H' (lsD Ls) u->Q u H'
theorem Ja {f:Addr}{fd:FuncData}(F:Fun K "_law_layers" "_law_layers" Bo f fd)(T:Fb mg)(c__law_table:Fnd P w K mg base 2 "_law_table" ["_law_half_here"] (D8 K)):FnOk P w K mg base CX0 3 f fd ["_law_half_here"] (Cq K):=by
 refine F.ok sc__law_layers (fun vs H Q E h=>?_) (fun cdv A outer s H vs Q E hr h=>?_)
 . obtain⟨v,ns,ps,rfl,_⟩:=h
   rfl
 obtain⟨v,ns,ps,rfl,hI,hH,k⟩:=h
 have hu:=C0 hr
 have hq:=By hr
 have hfew:=hH.few
 have hW:=hH.w
 have hok1:∀ z∈ns,PyData.strOk z=true:=fun z hz=>(G2 (hH.names.2 z hz)).1
 with_reducible refine⟨_,(A2 (Aa (i:=1) sc__law_layers.nd (by ac_nf) (by eq_refl) (Ai c__law_table (hr.mono (by decide)) (by ac_nf) (A0 (pv 0) A1)))
  (A2 (Aa (i:=2) sc__law_layers.nd (by ac_nf) (by eq_refl) (Ao (Dt (K:=K)) (by ac_nf) T.b_list PyProof.Rows.Boot.«list» (A0 (Ap (A8 (K:=K) hu) (pv 0) A3 (by ac_rfl)) A1)))
  (A2 (Aa (i:=3) sc__law_layers.nd (by ac_nf) (by eq_refl) (Az A1))
  (A2 (Ke PassesOwn.never (Ag (Id (K:=K) hq) (pv 2) (Az A1) (Aq _))
  (A2 (Aa (i:=4) sc__law_layers.nd (by ac_nf) (by with_unfolding_all exact Or.inr rfl) (Az A1))
  (A2 (Bl PassesOwn.never (by ac_nf) (Aj (K:=K) hu (pv 2)) (Ab (i:=5) sc__law_layers.nd (by ac_nf) (by eq_refl))
  (A5 (C6 (Dn (K:=K) PySem.F.plainAttrs_list PySem.F.slot_list_extend PySem.F.type_list_extend (mm Hn) (pv 4) (A0 (Ap (A8 (K:=K) hu) (pv 1) (pv 5) (by ac_rfl)) A1)))))
  (A2 (C6 (Dn (K:=K) PySem.F.plainAttrs_list PySem.F.slot_list_append PySem.F.type_list_append (mm Ct) (pv 3) (A0 (Ao (Bk (K:=K)) (by ac_nf) T.b_tuple PyProof.Rows.Boot.«tuple» (A0 (Bh ["_law_name"] ["_law_ahead"] [4] (by ac_nf) (by ac_nf) (by ac_nf) (Aj (K:=K) hu (pv 2)) (fun _ _ _ _=>(Ab (i:=0) (by with_unfolding_all (show(["_law_name","_law_ahead"]:List Str).Nodup;decide +kernel)) (by ac_nf) (by eq_refl))) (Av (by decide)) (fun _ _ _ _=>(E1 (Ag (Eg (K:=K) hq) (pv 0) (pv 1) (by ac_nf)))) (fun _ _ _ _=>(pv 0))) A1)) A1)))
  (A5 (Cm (i:=2) ["_law_name"] ["_law_ahead"] [4] (by ac_nf) (by ac_nf) (by ac_nf) sc__law_layers.nd (by ac_nf) (by ac_nf) (Aj (K:=K) hu (pv 2)) (fun _ _ _ _=>(Ab (i:=0) (by with_unfolding_all (show(["_law_name","_law_ahead"]:List Str).Nodup;decide +kernel)) (by ac_nf) (by eq_refl))) (Av (by decide)) (fun _ _ _ _=>(E1 (Ag (Eh (K:=K) hq) (pv 0) (pv 1) (by ac_nf)))) (fun _ _ _ _=>(pv 0))))))))
  (A5 (Am (Ao (Bk (K:=K)) (by ac_nf) T.b_tuple PyProof.Rows.Boot.«tuple» (A0 (pv 3) A1)))))))),?_⟩
 walk_at "rd"
 refine⟨v,ns,ps,rfl,hI,hH,fun r as H1 hr1 e1 hT=>?_⟩
 walk_at "rd"
 refine Do (hI.hf_fz e1.fz) fun nv hN=>?_
 obtain⟨na,rfl,hS⟩:=hN.nm
 walk_at "rd"
 refine Ky (.inr hS) fun l2 H2 hl2 e2 h2=>?_
 walk_at "rd"
 refine B2 (by decide) fun p H3 hp3 e3 h3=>?_
 walk_at "rd"
 have hp1:H1 p=none:=e2.free hp3
 refine Nj (fun m σ H4=>∃ l ls x4 x5 Ls ys,σ=[some v,some (.ref r),some (.ref l),some (.ref p),x4,x5]/\Same H1 H4/\H4 l=some (.lst (ls.map V.str))/\H4 p=some (.lst ys)/\l≠p/\IsL K H4 (Ls.map nmD) ys/\Ls.length+ls.length<=ns.length/\(∀ z∈ls,z∈ns)/\(∀ Ms,Lays ps ls Ms->Lays ps ns (Ls++Ms))/\m=ls.length)
  ns.length ⟨l2,ns,none,none,[],[],rfl,by walk_at "sm",by walk_at "lk",h3,ne_of_none h2 hp3,.nil,by simp,fun _ h=>h,fun _ h=>h,rfl⟩ fun m σ H4 hP=>?_
 obtain⟨l,ls,x4,x5,Ls,ys,rfl,e4,h4l,h4p,hlp,hL4,hlen,hsub,hlay,rfl⟩:=hP
 walk_at "rd"
 refine B2 (by decide) fun t5 H5 ht5 e5 h5=>?_
 refine X3 (dx:=.list (ls.map PyData.str)) (dy:=.list []) (Is.of_lst (SqL.of (e5 _ _ h4l)) (E6 ls)) (Is.of_lst (SqL.of h5) .nil) (Dz fun z hz=>hok1 z (hsub z hz)) (by rfl) ?_
 rw[Ec]
 walk_at "rd"
 have hly:ys.length=Ls.length:=by rw[<- IsL.length hL4,List.length_map]
 refine Q4 (fun hE=>?_) (fun hE=>?_)
 . have hne:ls≠[]:=by
    intro e
    subst e
    cases hE
   refine Sw ?_
   walk_at "rd"
   refine B2 (by decide) fun b6 H6 hb6 e6 h6=>?_
   have e46:=e5.trans e6
   have h6l:=e46 _ _ h4l
   walk_at "rd"
   refine Je (SqL.of h6l) ?_
   have hlb:l≠b6:=ne_of_none (e5 _ _ h4l) hb6
   have hpb:p≠b6:=ne_of_none (e5 _ _ h4p) hb6
   refine D4 (Bu (xs:=ls.map V.str)) (fun i σ H7=>∃ x5 ah,σ=[some v,some (.ref r),some (.ref l),some (.ref p),some (.ref b6),x5]/\Same H5 H7/\H7 b6=some (.lst (ah.map V.str))/\ah.length<=i*10/\∀ y,y∈ah↔∃ z∈ls.take i,Way ps z y)
    ⟨_,[],rfl,e6,h6,by simp,fun y=>by simp⟩ (fun i σ' H' hP=>?_) (fun i x σ' H7 hx hi hP=>?_) (fun σ' H7 hP=>?_)
   . obtain⟨_,_,_,e,_⟩:=hP
     exact SqL.of (e _ _ (e5 _ _ h4l))
   . obtain ⟨x5',ah,rfl,e7,h7,hal,hah⟩:=hP
     rw[List.getElem?_map] at hx
     cases hz:ls[i]? with
     | none=>rw[hz] at hx;cases hx
     | some z=>
       rw[hz] at hx
       cases hx
       have hil:i<ls.length:=(List.getElem?_eq_some_iff.mp hz).1
       have hT7:=hT.same ((e4.trans e5).trans e7)
       obtain⟨i2,a2,hi2,ha2⟩:=hT7.at (hsub z (List.mem_of_getElem? hz))
       obtain⟨ms,hm1,hm2,hm3⟩:=hT7.row i2 z a2 hi2 ha2
       have hml:ms.length<=ns.length:=Cr hm2 fun y hy=>(hH.way_mem ((hm3 y).mp hy)).2
       walk_at "rd"
       refine Wc hT7 hH.names.1 hi2 ha2 ?_
       walk_at "rd"
       refine W6 h7 hm1 (by rw[List.length_map,List.length_map];omega) fun H8 e8 h8=>?_
       walk_at "rd"
       refine⟨_,ah++ms,rfl,?_,by rw[h8,List.map_append],by rw[List.length_append];omega,fun y=>?_⟩
       . exact Same.off (q:=b6) (H1:=H7) e7 hb6 e8
       rw[List.mem_append,hah,hm3,List.take_add_one,hz]
       constructor
       . rintro(⟨z',h1,h2⟩ | h)
         . exact⟨z',List.mem_append_left _ h1,h2⟩
         exact⟨z,by simp,h⟩
       rintro⟨z',h1,h2⟩
       rcases List.mem_append.mp h1 with h1 | h1
       . exact .inl ⟨z',h1,h2⟩
       have:z'=z:=by simpa using h1
       subst this
       exact .inr h2
   obtain⟨x5',ah,rfl,e7,h7,hal,hah⟩:=hP
   rw[List.length_map,List.take_length] at hah
   obtain⟨fl,fr⟩:=Rt hah
   have h7l:=e7 _ _ (e5 _ _ h4l)
   walk_at "rd"
   refine Fu (SqL.of h7l) (fun x=>!decide (x∈ah)) PyData.str (fun _=>rfl) (by omega) (fun i x H8 R R' hx e8 hR hR'=>?_) (fun q8 zs8 H8 hq8 e8 h8 hL8=>?_)
   . walk_at "rd"
     refine No (SqL.of (e8 _ _ h7)) ?_
     walk_at "rd"
     refine Q4 (fun hb=>?_) (fun hb=>?_)
     . walk_at "rd"
       exact hR (by rw[hb];rfl) _ _ (Same.refl _) Bi
     exact hR' (by rw[hb];rfl) _ (Same.refl _)
   rw[fl] at hL8
   have hzs:=IsL.str_eq hL8
   subst hzs
   walk_at "rd"
   refine G0 (SqL.of h8) fun t9 H9 ht9 e9 h9=>?_
   have hN9:Is K H9 (nmD (N2 ps ls)) (.ref t9):=J0 (SqT.of h9)
   walk_at "rd"
   have e49:Same H4 H9:=((e5.trans e7).trans e8).trans e9
   have h9p:=e49 _ _ h4p
   refine Ia h9p (by omega) fun H10 e10 h10=>?_
   have fz10:=e10.fzL h9p
   have h10l:H10 l=some (.lst (ls.map V.str)):=e10 _ _ hlp (e49 _ _ h4l)
   have h10b:H10 b6=some (.lst (ah.map V.str)):=e10 _ _ (Ne.symm hpb) (e9 _ _ (e8 _ _ h7))
   walk_at "rd"
   refine Fu (SqL.of h10l) (fun x=>decide (x∈ah)) PyData.str (fun _=>rfl) (by omega) (fun i x H11 R R' hx e11 hR hR'=>?_) (fun q11 zs11 H11 hq11 e11 h11 hL11=>?_)
   . walk_at "rd"
     refine Ob (SqL.of (e11 _ _ h10b)) ?_
     walk_at "rd"
     refine ab1 (fun hb=>?_) (fun hb=>?_)
     . walk_at "rd"
       exact hR hb _ _ (Same.refl _) Bi
     exact hR' hb _ (Same.refl _)
   rw[fr] at hL11
   have hzs:=IsL.str_eq hL11
   subst hzs
   walk_at "rd"
   have hlt:=T6 hW.irr hne
   refine⟨_,hlt,q11,Os ps ls,_,_,Ls++[N2 ps ls],_,rfl,?_,h11,e11 _ _ h10,ne_of_none h10 hq11 |>.symm,?_,?_,fun z hz=>hsub z (mem_resF.mp hz).1,fun Ms hMs=>?_,rfl⟩
   . exact Same.trans (Same.off (q:=p) (H1:=H9) (e4.trans e49) hp1 e10) e11
   . rw[List.map_append]
     exact IsL.mono e11 _ _ (IsL.append (IsL.fz (e49.fz.trans fz10) _ _ (Ca _) hL4) (.one (hN9.nm_fz fz10)))
   . rw[List.length_append,List.length_singleton]
     omega
   rw[List.append_assoc]
   exact hlay _ (.cons hne hMs)
 have hne:ls=[]:=by
  cases ls with
  | nil=>rfl
  | cons z zs=>cases hE
 subst hne
 walk_at "rd"
 have:=hlay [] .nil
 rw [List.append_nil] at this
 exact Ku (e5 _ _ h4p) (IsL.mono e5 _ _ hL4) fun u H6 e6 hu6=>k u H6 Ls (((e1.trans e4).trans e5).trans e6) this hu6
theorem Qh {α:Type}(p:α->Bool):∀ l:List α,(l.filter fun x=>!p x).length+(l.filter p).length=l.length
 | []=>rfl
 | a :: l=>by
   have:=Qh p l
   cases h:p a<;>simp[h]<;>omega
theorem Sl {ps:List (Str×Str)}{l:List Str}{Ls:List (List Str)}(h:Lays ps l Ls):Ls.flatten.length<=l.length:=by
 induction h with
 | nil=>simp
 | @cons l Ls n _ ih=>
   rw[List.flatten_cons,List.length_append]
   have:(N2 ps l).length+(Os ps l).length=l.length:=Qh (fun x=>l.any fun y=>Cc ps y x) l
   omega
structure RwO (ns:List Str)(ps:List (Str×Str))(rows:List (List Str))(dn:List Str):Prop where
 ne:∀ r∈rows,r≠[]
 mem:∀ r∈rows,∀ z∈r,z∈ns
 ch : ∀ r∈rows,Vs ps r
 pm:rows.flatten.Perm dn
theorem Rn:∀ {rows:List (List Str)},(∀ r∈rows,r≠[])->rows.length<=rows.flatten.length
 | [],_=>by simp
 | r :: rows,h=>by
   have:=Rn fun q hq=>h q (.tail _ hq)
   have h1:0<r.length:=List.length_pos_iff.mpr (h r (.head _))
   rw[List.flatten_cons,List.length_append,List.length_cons]
   omega
theorem RwO.few {ns:List Str} {ps:List (Str×Str)} {rows:List (List Str)} {dn:List Str} (h:RwO ns ps rows dn):rows.flatten.length<=dn.length:=Nat.le_of_eq h.pm.length_eq
theorem RwO.len {ns:List Str}{ps:List (Str×Str)}{rows:List (List Str)}{dn:List Str}(h:RwO ns ps rows dn):rows.length<=dn.length:=Nat.le_trans (Rn h.ne) h.few
theorem P4 {α:Type}:∀ {rows:List (List α)} {k:Nat} {r:List α} {z:α},rows[k]? = some r->(rows.set k (r++[z])).flatten.Perm (rows.flatten++[z])
 | [],_,_,_,h=>by simp at h
 | a :: rows,0,r,z,h=>by
   have:a=r:=by simpa using h
   subst this
   rw[List.set_cons_zero,List.flatten_cons,List.flatten_cons,List.append_assoc,List.append_assoc]
   exact List.Perm.append_left a List.perm_append_comm
 | a :: rows,k+1,r,z,h=>by
   have:=P4 (rows:=rows) (k:=k) (r:=r) (z:=z) (by simpa using h)
   rw[List.set_cons_succ,List.flatten_cons,List.flatten_cons,List.append_assoc]
   exact List.Perm.append_left a this
theorem V4 {ps:List (Str×Str)}{r:List Str}{y z:Str}(h:Vs ps r)(hl:r.getLast? = some y)(hw:Way ps y z):Vs ps (r++[z]):=by
 intro i a b ha hb
 by_cases hi:i+1<r.length
 . rw[List.getElem?_append_left (by omega)] at ha
   rw[List.getElem?_append_left hi] at hb
   exact h i a b ha hb
 have hil:=(List.getElem?_eq_some_iff.mp hb).1
 rw[List.length_append,List.length_singleton] at hil
 have e:i+1=r.length:=by omega
 rw[List.getElem?_append_left (by omega)] at ha
 rw[List.getElem?_append_right (by omega),e,Nat.sub_self] at hb
 have hb:z=b:=by simpa using hb
 rw[List.getLast?_eq_getElem?,show r.length-1=i by omega,ha] at hl
 cases hl
 rw[<- hb]
 exact hw
theorem RwO.put {ns:List Str}{ps:List (Str×Str)}{rows:List (List Str)}{dn:List Str}{k:Nat}{r:List Str}{y z:Str}(h:RwO ns ps rows dn)(hk:rows[k]? = some r)(hz:z∈ns)(hl:r.getLast? = some y)(hw:Way ps y z):RwO ns ps (rows.set k (r++[z])) (dn++[z]):=by
 have hr:=List.mem_of_getElem? hk
 refine⟨fun y hy=>?_,fun y hy x hx=>?_,fun y hy=>?_,(P4 hk).trans (h.pm.append_right [z])⟩
 . rcases List.mem_or_eq_of_mem_set hy with hy | rfl
   . exact h.ne y hy
   simp
 . rcases List.mem_or_eq_of_mem_set hy with hy | rfl
   . exact h.mem y hy x hx
   rcases List.mem_append.mp hx with hx | hx
   . exact h.mem r hr x hx
   rw[List.mem_singleton.mp hx]
   exact hz
 rcases List.mem_or_eq_of_mem_set hy with hy | rfl
 . exact h.ch y hy
 exact V4 (h.ch r hr) hl hw
theorem Xs {ps:List (Str×Str)}{z:Str}:Vs ps [z]:=fun i a b _ hb=>by
 have:=(List.getElem?_eq_some_iff.mp hb).1
 simp at this
theorem RwO.ins {ns:List Str}{ps:List (Str×Str)}{rows:List (List Str)}{dn:List Str}{k:Nat}{z:Str}(h:RwO ns ps rows dn)(hz:z∈ns):RwO ns ps (rows.take k++[z] :: rows.drop k) (dn++[z]):=by
 have hm:∀ y∈rows.take k++[z] :: rows.drop k,y∈rows\/y=[z]:=fun y hy=>by
  rcases List.mem_append.mp hy with hy | hy
  . exact .inl (List.mem_of_mem_take hy)
  rcases List.mem_cons.mp hy with hy | hy
  . exact .inr hy
  exact .inl (List.mem_of_mem_drop hy)
 refine⟨fun y hy=>?_,fun y hy x hx=>?_,fun y hy=>?_,?_⟩
 . rcases hm y hy with hy | rfl
   . exact h.ne y hy
   simp
 . rcases hm y hy with hy | rfl
   . exact h.mem y hy x hx
   rw[List.mem_singleton.mp hx]
   exact hz
 . rcases hm y hy with hy | rfl
   . exact h.ch y hy
   exact Xs
 have e:rows.flatten=(rows.take k).flatten++(rows.drop k).flatten:=by rw[<- List.flatten_append,List.take_append_drop]
 have h1:=h.pm
 rw[e] at h1
 rw[List.flatten_append,List.flatten_cons]
 refine List.Perm.trans ?_ (h1.append_right [z])
 rw[List.append_assoc]
 exact List.Perm.append_left _ List.perm_append_comm
theorem Ru {ps:List (Str×Str)}{l:List Str}{Ls:List (List Str)}(h:Lays ps l Ls):Ls.flatten.Perm l:=by
 induction h with
 | nil=>exact .nil
 | @cons l Ls n _ ih=>
   rw[List.flatten_cons]
   exact(List.Perm.append_left _ ih).trans (Kb (fun x=>l.any fun y=>Cc ps y x) l)
def Sf (ps:List (Str×Str))(rows:List (List Str))(z:Str)(k:Nat):Bool:=match rows[k]? with
 | some r=>match r.getLast? with
   | some y=>Cc ps y z
   | none=>false
 | none=>false
theorem Rv (ds:List PyData):PyData.eqv (.list ds) (.list [])=ds.isEmpty:=by
 cases ds<;>simp[PyData.eqv,PyData.eqvAll]
theorem Hx {K:PySem.W.Frag}{H:Hp}:∀ {ks:List Nat} {ys:List V},IsL K H (ks.map fun(k:Nat)=>PyData.int (k:Int)) ys->ys=ks.map fun(k:Nat)=>V.int (k:Int)
 | [],ys,h=>by simp only[List.map_nil,L2.IsL] at h;exact h
 | k :: ks,ys,h=>by
   simp only[List.map_cons,L2.IsL] at h
   obtain⟨v,r,rfl,h1,h2⟩:=h
   simp only[L2.Is] at h1
   subst h1
   rw[Hx h2]
   rfl
theorem Ol {K:PySem.W.Frag}{H:Hp}{rows:List (List Str)}{xs:List V}{r:List Str}{v:V}(n:Nat)(h:IsL K H (rows.map nmD) xs)(hv:Is K H (nmD r) v):IsL K H ((rows.take n++r :: rows.drop n).map nmD) (a78 xs n v):=by
 rw [List.map_append,List.map_cons,List.map_take,List.map_drop]
 exact(IsL.take n h).append (.cons hv (IsL.drop n h))
theorem S6 {K:PySem.W.Frag}{H:Hp}:∀ {ds:List PyData} {xs:List V} {k:Nat} {d:PyData} {v:V},IsL K H ds xs->Is K H d v->IsL K H (ds.set k d) (xs.set k v)
 | [],xs,k,d,v,h,_=>by simp only[L2.IsL] at h;subst h;exact .nil
 | e :: ds,xs,k,d,v,h,hv=>by
   simp only[L2.IsL] at h
   obtain⟨w,r,rfl,h1,h2⟩:=h
   cases k with
   | zero=>exact .cons hv h2
   | succ k=>exact .cons h1 (S6 h2 hv)
def Cb (K:PySem.W.Frag):Sp:=fun vs H Q _=>∃ d l v ns ps,vs=[.ref d,v]/\Feed H d l/\Is K H (hfD ns ps) v/\Half ns ps/\∀ u rows H',ExtBut d H H'->Feed H' d l->Is K H' (lsD rows) u->RwO ns ps rows ns->Q u H'
theorem Fs {f:Addr}{fd:FuncData}(F:Fun K "_law_some_cover" "_law_some_cover" Ay f fd)(T:Fb mg)(c__law_draw:Fnd P w K mg base 1 "_law_draw" ["_law_feed_here","_law_many"] (Ar K))(c__law_behind:Fnd P w K mg base 1 "_law_behind" ["_law_half_here","_law_name"] (Bs K))(c__law_layers:Fnd P w K mg base 3 "_law_layers" ["_law_half_here"] (Cq K)):FnOk P w K mg base CX0 4 f fd ["_law_feed_here","_law_half_here"] (Cb K):=by
 refine F.ok sc__law_some_cover (fun vs H Q E h=>?_) (fun cdv A outer s H vs Q E hr h=>?_)
 . obtain⟨d,l,v,ns,ps,rfl,_⟩:=h
   rfl
 obtain⟨d,l,v,ns,ps,rfl,hF,hI,hH,k⟩:=h
 have hu:=C0 hr
 have hq:=By hr
 have h10:=hH.few
 have hle:=hH.le
 have hok:OkP ps:=Re hH.nmP
 with_reducible refine⟨_,(A2 (Aa (i:=2) sc__law_some_cover.nd (by ac_nf) (by with_unfolding_all exact Or.inr rfl) (Az A1))
  (A2 (Bl PassesOwn.never (by ac_nf) (Aj (K:=K) hu (Ai c__law_layers (hr.mono (by decide)) (by ac_nf) (A0 (pv 1) A1))) (Ab (i:=3) sc__law_some_cover.nd (by ac_nf) (by eq_refl))
  (A5 (Bl PassesOwn.never (by ac_nf) (Aj (K:=K) hu (pv 3)) (Ab (i:=4) sc__law_some_cover.nd (by ac_nf) (by with_unfolding_all exact Or.inr rfl))
  (A2 (Cm (i:=5) ["_law_k"] ["_law_name","_law_half_here","_law_found"] [4,1,2] (by ac_nf) (by ac_nf) (by ac_nf) sc__law_some_cover.nd (by ac_nf) (by ac_nf) (Bj (by ac_nf) T.b_range (A0 (A7 (Ah (K:=K)) (by ac_nf) T.b_len PyProof.Rows.Boot.«len» (A0 (pv 2) A1)) A1)) (fun _ _ _ _=>(Ab (i:=0) (by with_unfolding_all (show(["_law_k","_law_name","_law_half_here","_law_found"]:List Str).Nodup;decide +kernel)) (by ac_nf) (by eq_refl))) (Av (by decide)) (fun _ _ _ _=>(E1 (Ag (Eh (K:=K) hq) (pv 1) (Ai c__law_behind (hr.mono (by decide)) (by ac_nf) (A0 (pv 2) (A0 (Ap (A8 (K:=K) hu) (Ap (A8 (K:=K) hu) (pv 3) (pv 0) (by ac_rfl)) (Pj Jp A3) (by ac_rfl)) A1))) (by ac_nf)))) (fun _ _ _ _=>(pv 0)))
  (A5 (C1 (PW.pt (Lq (Ag (Id (K:=K) hq) (pv 5) (Az A1) (Aq _)) (L0 (Ag S8 (Ai c__law_draw (hr.mono (by decide)) (by ac_nf) (A0 (pv 0) (A0 A3 A1))) A3 (Aq _))))) (A2 (Aa (i:=6) sc__law_some_cover.nd (by ac_nf) (by eq_refl) (Ap (A8 (K:=K) hu) (pv 5) (Ai c__law_draw (hr.mono (by decide)) (by ac_nf) (A0 (pv 0) (A0 (A7 (Ah (K:=K)) (by ac_nf) T.b_len PyProof.Rows.Boot.«len» (A0 (pv 5) A1)) A1))) (by ac_rfl)))
  (A5 (Ys (Ae (Ac (K:=K)) (Ap (A8 (K:=K) hu) (pv 2) (pv 6) (by ac_rfl)) (B1 (A0 (pv 4) A1))) (Zg (pv 2) (pv 6) Ty)))) (A5 (C6 (Dn (K:=K) PySem.F.plainAttrs_list PySem.F.slot_list_insert PySem.F.type_list_insert (mm Lg) (pv 2) (A0 (Ai c__law_draw (hr.mono (by decide)) (by ac_nf) (A0 (pv 0) (A0 (Ae (Ac (K:=K)) (A7 (Ah (K:=K)) (by ac_nf) T.b_len PyProof.Rows.Boot.«len» (A0 (pv 2) A1)) A3) A1))) (A0 (B1 (A0 (pv 4) A1)) A1)))))))))))
  (A5 (Am (Ao (Bk (K:=K)) (by ac_nf) T.b_tuple PyProof.Rows.Boot.«tuple» (A0 (pv 2) A1)))))),?_⟩
 walk_at "rd"
 refine B2 (by decide) fun p H1 hp1 e1 h1=>?_
 have hF1:Feed H1 d l:=hF.same e1
 have hpd:p≠d:=Ne.symm (hF.nd hp1)
 walk_at "rd"
 refine⟨v,ns,ps,rfl,hI.hf_fz e1.fz,hH,fun u H2 Ls e2 hLs hU=>?_⟩
 have hflat:=Sl hLs
 have hLm:=hLs.mem
 refine M5 hU (Ca Ls) (fun i σ H3=>∃ x3 x4 x5 x6 rows ys,σ=[some (V.ref d),some v,some (.ref p),x3,x4,x5,x6]/\ExtBut d H H3/\Feed H3 d l/\Fz H2 H3/\H3 p=some (.lst ys)/\IsL K H3 (rows.map nmD) ys/\RwO ns ps rows (Ls.take i).flatten)
  ⟨_,_,_,_,[],[],rfl,(ExtBut.after e1 .refl).same e2,hF1.same e2,.refl _,e2 _ _ h1,.nil,⟨fun r h=>(by cases h),fun r h=>(by cases h),fun r h=>(by cases h),.nil⟩⟩ (fun i σ' H' hP=>?_) (fun i D y σ' H3 hD hy hP=>?_) (fun σ' H3 hP=>?_)
 . obtain⟨_,_,_,_,_,_,_,_,_,fz,_⟩:=hP
   exact fz
 . obtain⟨x3,x4,x5,x6,rows,ys,rfl,e3,hF3,fz3,h3p,hL3,hR3⟩:=hP
   rw[List.getElem?_map] at hD
   obtain⟨L,hL,rfl⟩:=Option.map_eq_some_iff.mp hD
   have hLin:=hLm L (List.mem_of_getElem? hL)
   have htk:(Ls.take (i+1)).flatten.length=(Ls.take i).flatten.length+L.length:=by
    rw[List.take_add_one,hL,List.flatten_append,List.length_append]
    simp
   have htk2:(Ls.take (i+1)).flatten=(Ls.take i).flatten++L:=by
    rw[List.take_add_one,hL,List.flatten_append]
    simp
   have htl:(Ls.take (i+1)).flatten.length<=ns.length:=by
    refine Nat.le_trans ?_ hflat
    conv=>rhs;rw[<- List.take_append_drop (i+1) Ls,List.flatten_append,List.length_append]
    omega
   walk_at "rd"
   refine Qg hy (fun j σ H4=>∃ x4 x5 x6 rows ys,σ=[some (V.ref d),some v,some (.ref p),some y,x4,x5,x6]/\ExtBut d H H4/\Feed H4 d l/\Fz H3 H4/\H4 p=some (.lst ys)/\IsL K H4 (rows.map nmD) ys/\RwO ns ps rows ((Ls.take i).flatten++L.take j))
    ⟨_,_,_,rows,ys,rfl,e3,hF3,.refl _,h3p,hL3,by rw[List.take_zero,List.append_nil];exact hR3⟩ (fun j σ' H' hP=>?_) (fun j z σ' H4 hz hP=>?_) (fun σ' H4 hP=>?_)
   . obtain⟨_,_,_,_,_,_,_,_,fz,_⟩:=hP
     exact fz
   . obtain⟨x4,x5,x6,rows,ys,rfl,e4,hF4,fz4,h4p,hL4,hR4⟩:=hP
     have hjl:j<L.length:=(List.getElem?_eq_some_iff.mp hz).1
     have hzn:z∈ns:=hLin.2 z (List.mem_of_getElem? hz)
     have hrl:=hR4.len
     have hrl:rows.length<=(Ls.take i).flatten.length+j:=by rw[List.length_append,List.length_take] at hrl;omega
     have hzt:L.take (j+1)=L.take j++[z]:=by rw[List.take_add_one,hz];rfl
     have hyl:ys.length=rows.length:=by rw[<- IsL.length hL4,List.length_map]
     have hI4:Is K H4 (hfD ns ps) v:=hI.hf_fz (((e1.trans e2).fz.trans fz3).trans fz4)
     walk_at "rd"
     refine Ee (by omega) ?_
     refine D6 (K:=K) (Ax (lo:=0) (n:=((ys.length:Nat):Int).toNat)) (List.range ys.length) (by simp) (Sf ps rows z) (fun k=>.int (k:Int)) (fun _=>rfl) (by simp;omega) (fun _ _=>trivial) (fun m m' x H5 R R' hm' hx e5 hR hR'=>?_) (fun q zs H5 hq5 e5 h5 hL5=>?_)
     . obtain⟨hmm,rfl⟩:m<ys.length/\m'=m:=by
        obtain⟨h2,h3⟩:=List.getElem?_eq_some_iff.mp hm'
        simp at h2 h3
        exact⟨h2,h3.symm⟩
       obtain⟨rfl,hm2⟩:=Ci hx
       have hg:=List.getElem?_eq_getElem hmm
       generalize ys[m']'hmm=yv at hg
       obtain⟨Dy,hDy,hIy⟩:=IsL.get hL4 hg
       rw[List.getElem?_map] at hDy
       obtain⟨r,hri,rfl⟩:=Option.map_eq_some_iff.mp hDy
       have hne:=hR4.ne r (List.mem_of_getElem? hri)
       obtain⟨r0,w0,rfl⟩:∃ r0 w0,r=r0++[w0]:=⟨r.dropLast,r.getLast hne,(List.dropLast_concat_getLast hne).symm⟩
       have hw0:w0∈ns:=hR4.mem _ (List.mem_of_getElem? hri) w0 (by simp)
       have hab:Sf ps rows z m'=Cc ps w0 z:=by
        unfold Sf
        rw[hri]
        simp
       walk_at "rd"
       refine Fo (e5 _ _ h4p) (show atI ys (0+(m':Int))=some yv from by have:=Dr hg;rwa[Int.zero_add]) ?_
       walk_at "rd"
       refine Wj (Is.mono e5 _ _ hIy) (Ut r0 w0) ?_
       walk_at "rd"
       refine⟨v,w0,ns,ps,rfl,hI4.hf_fz e5.fz,by omega,hok,(G2 (hH.names.2 w0 hw0)).1,fun b fs H6 hb6 e6 h6 hnd hfs=>?_⟩
       walk_at "rd"
       refine Ob (SqL.of h6) ?_
       rw[Fq (hfs z),<- hab]
       walk_at "rd"
       refine ab4 (fun hb=>?_) (fun hb=>?_)
       . walk_at "rd"
         exact hR hb _ _ e6 (by rw[Int.zero_add];exact Fv)
       walk_at "rd"
       exact hR' (Bool.eq_false_iff.mpr hb) _ e6
     have hzs:=Hx hL5
     generalize hks:(List.range ys.length).filter (Sf ps rows z)=ks at hzs hL5
     have hkm:∀ m∈ks,m<rows.length:=fun m hm=>by
      rw[<- hks] at hm
      have:=List.mem_range.mp (List.mem_filter.mp hm).1
      omega
     have hkl:ks.length<=10:=by
      rw[<- hks]
      refine Nat.le_trans (List.length_filter_le _ _) ?_
      rw[List.length_range]
      omega
     have hzi:zs=(ks.map fun(k:Nat)=>(k:Int)).map V.int:=by rw[hzs,List.map_map];rfl
     subst hzi
     clear hzs hL5
     walk_at "rd"
     refine B2 (by decide) fun t6 H6 ht6 e6 h6=>?_
     refine X3 (Hg (SqL.of (e6 _ _ h5))) (Hg (ns:=[]) (SqL.of h6)) (PySem.W.ke_shaped_ints _) (PySem.W.ke_shaped_ints []) ⟨_,rfl,?_⟩
     have e46:=e5.trans e6
     have hF6:=hF4.same e46
     have h6p:=e46 _ _ h4p
     have h6q:=e6 _ _ h5
     cases hkk:ks with
     | nil=>
       subst hkk
       rw[show(!PyData.eqv (.list ((([]:List Nat).map fun(k:Nat)=>(k:Int)).map PyData.int)) (.list (([]:List Int).map PyData.int)))=false by rfl]
       walk_at "rd"
       refine⟨d,l,_,rfl,hF6,by omega,by omega,fun b H7 hb0 hb1 e7 hF7=>?_⟩
       have h7p:=e7 _ _ hpd h6p
       walk_at "rd"
       refine At (A6 (by simp)) fun t8 H8 ht8 e8 h8=>?_
       walk_at "rd"
       have h8p:=e8 _ _ h7p
       refine Wz h8p (by omega) (by omega) (by omega) fun H9 e9 h9=>?_
       walk_at "rd"
       have fz49:Fz H4 H9:=((e46.fz.trans (hF6.fz e7)).trans e8.fz).trans (e9.fzL h8p)
       exact⟨_,_,_,rows.take b.toNat++[z] :: rows.drop b.toNat,_,rfl,ExtBut.off (((e4.same e46).trans e7).same e8) hp1 e9,(hF7.same e8).put e9 (hF.nd hp1) (hF.nl hp1),fz4.trans fz49,h9,Ol _ (IsL.fz fz49 _ _ (Ca rows) hL4) (J0 (ns:=[z]) ((e9.fzL h8p).seq (SqT.of h8))),by rw[hzt,<- List.append_assoc];exact hR4.ins hzn⟩
     | cons k0 kr=>
       rw[show(!PyData.eqv (.list (((k0 :: kr).map fun(k:Nat)=>(k:Int)).map PyData.int)) (.list (([]:List Int).map PyData.int)))=true by rw[List.map_nil,Rv];rfl]
       have hk0:0<ks.length:=by rw[hkk];simp
       clear hkk
       walk_at "rd"
       refine⟨d,l,_,rfl,hF6,by omega,by omega,fun b H7 hb0 hb1 e7 hF7=>?_⟩
       have h7p:=e7 _ _ hpd h6p
       have h7q:=e7 _ _ (hF6.lst h6q) h6q
       walk_at "rd"
       refine Jc (fun hc=>?_) (fun hc=>?_)
       . walk_at "rd"
         refine⟨d,l,_,rfl,hF7,by rw[List.length_map,List.length_map];omega,by rw[List.length_map,List.length_map];omega,fun b2 H8 hc0 hc1 e8 hF8=>?_⟩
         rw[List.length_map,List.length_map] at hc1
         have h8p:=e8 _ _ hpd h7p
         have h8q:=e8 _ _ (hF7.lst h7q) h7q
         have hbl:b2.toNat<ks.length:=by omega
         have hg:=List.getElem?_eq_getElem hbl
         generalize ks[b2.toNat]'hbl=m at hg
         have hm:=hkm m (List.mem_of_getElem? hg)
         obtain⟨r,hri⟩:∃ r,rows[m]? = some r:=⟨_,List.getElem?_eq_getElem hm⟩
         obtain⟨y0,hyl1,hyl2⟩:∃ y0,r.getLast? = some y0/\Way ps y0 z:=by
          have hmk:=List.mem_of_getElem? hg
          rw[<- hks] at hmk
          have hab:=(List.mem_filter.mp hmk).2
          unfold Sf at hab
          rw[hri] at hab
          cases hgl:r.getLast? with
          | none=>simp[hgl] at hab
          | some y0=>
            simp only[hgl] at hab
            exact⟨y0,rfl,wayB_iff.mp hab⟩
         walk_at "rd"
         refine Fo h8q (show atI _ b2=some (.int (m:Int)) from by have:=Dr (xs:=(ks.map fun(k:Nat)=>(k:Int)).map V.int) (j:=b2.toNat) (v:=.int (m:Int)) (by simp[hg]);rwa[Int.toNat_of_nonneg hc0] at this) ?_
         walk_at "rd"
         have hmy:m<ys.length:=by omega
         have hgy:=List.getElem?_eq_getElem hmy
         generalize ys[m]'hmy=yv at hgy
         have fz48:Fz H4 H8:=(e46.fz.trans (hF6.fz e7)).trans (hF7.fz e8)
         have hL8:=IsL.fz fz48 _ _ (Ca rows) hL4
         obtain⟨Dy,hDy,hIy⟩:=IsL.get hL8 hgy
         rw[List.getElem?_map,hri] at hDy
         cases hDy
         obtain⟨ya,rfl,hSy⟩:=hIy.nm
         refine Fo h8p (Dr hgy) ?_
         walk_at "rd"
         have hrl2:r.length<=10:=by
          have h1:=hR4.few
          rw[List.length_append,List.length_take] at h1
          have h2:r.length<=rows.flatten.length:=(List.sublist_flatten_of_mem (List.mem_of_getElem? hri)).length_le
          omega
         refine At (A6 (by simp)) fun t9 H9 ht9 e9 h9=>?_
         refine Jw (e9.seqT hSy) (SqT.of h9) (A6 (by simp;omega)) fun t10 H10 e10 h10=>?_
         walk_at "rd"
         have e810:=e9.trans e10
         have h10p:=e810 _ _ h8p
         refine Yv ?_
         walk_at "rd"
         refine Z5 h10p hmy (by omega) fun H11 e11 h11=>?_
         walk_at "rd"
         have fz811:Fz H8 H11:=e810.fz.trans (e11.fzL h10p)
         refine⟨_,_,_,rows.set m (r++[z]),_,rfl,ExtBut.off ((((e4.same e46).trans e7).trans e8).same e810) hp1 e11,(hF8.same e810).put e11 (hF.nd hp1) (hF.nl hp1),(fz4.trans fz48).trans fz811,h11,?_,by rw[hzt,<- List.append_assoc];exact hR4.put hri hzn hyl1 hyl2⟩
         rw[List.map_set]
         refine S6 (IsL.fz fz811 _ _ (Ca rows) hL8) (J0 (ns:=r++[z]) ?_)
         rw[List.map_append]
         exact(e11.fzL h10p).seq h10
       walk_at "rd"
       refine⟨d,l,_,rfl,hF7,by omega,by omega,fun b2 H8 hc0 hc1 e8 hF8=>?_⟩
       have h8p:=e8 _ _ hpd h7p
       walk_at "rd"
       refine At (A6 (by simp)) fun t9 H9 ht9 e9 h9=>?_
       walk_at "rd"
       have h9p:=e9 _ _ h8p
       refine Wz h9p (by omega) (by omega) (by omega) fun H10 e10 h10=>?_
       walk_at "rd"
       have fz49:Fz H4 H10:=(((e46.fz.trans (hF6.fz e7)).trans (hF7.fz e8)).trans e9.fz).trans (e10.fzL h9p)
       exact⟨_,_,_,rows.take b2.toNat++[z] :: rows.drop b2.toNat,_,rfl,ExtBut.off ((((e4.same e46).trans e7).trans e8).same e9) hp1 e10,(hF8.same e9).put e10 (hF.nd hp1) (hF.nl hp1),fz4.trans fz49,h10,Ol _ (IsL.fz fz49 _ _ (Ca rows) hL4) (J0 (ns:=[z]) ((e10.fzL h9p).seq (SqT.of h9))),by rw[hzt,<- List.append_assoc];exact hR4.ins hzn⟩
   obtain⟨x4,x5,x6,rows,ys,rfl,e4,hF4,fz4,h4p,hL4,hR4⟩:=hP
   walk_at "rd"
   exact⟨_,_,_,_,rows,ys,rfl,e4,hF4,fz3.trans fz4,h4p,hL4,by rw[htk2];rw[List.take_length] at hR4;exact hR4⟩
 obtain⟨x3,x4,x5,x6,rows,ys,rfl,e3,hF3,fz3,h3p,hL3,hR3⟩:=hP
 rw[List.length_map,List.take_length] at hR3
 walk_at "rd"
 exact Ku h3p hL3 fun w H4 e4 hw=>k w rows H4 (e3.same e4) (hF3.same e4) hw ⟨hR3.ne,hR3.mem,hR3.ch,hR3.pm.trans (Ru hLs)⟩
def thO:PyData->Option (List PyData)
 | .tuple ds=>some ds
 | _=>none
def ThK (K:PySem.W.Frag)(H:Hp)(u:V)(o:Option (List PyData)):Prop:=(∃ D,Is K H D u/\Dk 20 50000 100 D/\lfs D<=60/\o=thO D)\/(∃ a,u = .ref a/\H a=some (.dK [])/\o=none)
theorem ThK.tw {K:PySem.W.Frag}{H:Hp}{u:V}{o:Option (List PyData)}(h:ThK K H u o):ThW K H u 20 50000 100 60 o:=by
 rcases h with ⟨D,h1,h2,h3,rfl⟩ | ⟨a,rfl,h,rfl⟩
 . cases D with
   | tuple ds=>exact⟨h1,h2,by rw[<- Dm];exact h3⟩
   | _=>exact .inl ⟨_,h1,rfl⟩
 exact .inr ⟨_,.dK h,by rfl⟩
theorem a94 {ns:List Str}{ps:List (Str×Str)}(hH:Half ns ps):Dk 3 1600 70 (hfD ns ps):=Wp hH.nmP hH.names.2 (by have:=hH.few;omega) (by have:=hH.le;omega)
def Dc (K:PySem.W.Frag):Sp:=fun vs H Q _=>∃(l:Addr) (ms:List Nat),vs=[.ref l]/\H l=some (.lst (ms.map fun m=>V.int ((m:Nat):Int)))/\ms.length<=1000/\(∀ m∈ms,m<=4000000)/\Q (.int ((Jf ms:Nat):Int)) H
def Bf (K:PySem.W.Frag):Sp:=fun vs H Q _=>∃ m:Nat,vs=[.int ((m:Nat):Int)]/\m<=1000/\∀ H',Same H H'->Q (.int ((fac m:Nat):Int)) H'
theorem Pk {f:Addr}{fd:FuncData}(F:Fun K "product" "product" Ds f fd)(T:Fb mg):FnOk P w K mg base CX0 1 f fd ["numbers"] (Dc K):=by
 refine F.ok sc_product (fun vs H Q E h=>?_) (fun cdv A outer s H vs Q E hr h=>?_)
 . obtain⟨l,ms,rfl,_⟩:=h
   rfl
 obtain⟨l,ms,rfl,hL,hl,hm,k⟩:=h
 have hu:=C0 hr
 have hq:=By hr
 with_reducible refine⟨_,(A2 (Aa (i:=1) sc_product.nd (by ac_nf) (by eq_refl) A3)
  (A2 (Bl PassesOwn.never (by ac_nf) (Aj (K:=K) hu (pv 0)) (Ab (i:=2) sc_product.nd (by ac_nf) (by eq_refl))
  (A5 (Aa (i:=1) sc_product.nd (by ac_nf) (by eq_refl) (Ae C9 (pv 1) (pv 2)))))
  (A5 (Am (pv 1))))),?_⟩
 walk_at "rd"
 refine Je (SqL.of hL) ?_
 refine D4 (Bu (xs:=ms.map fun m=>V.int ((m:Nat):Int))) (fun i σ H1=>∃ x2,σ=[some (.ref l),some (.int ((Jf (ms.take i):Nat):Int)),x2]/\H1=H) ⟨_,rfl,rfl⟩ (fun i σ' H' hP=>?_) (fun i x σ' H1 hx hi hP=>?_) (fun σ' H1 hP=>?_)
 . obtain⟨_,_,rfl⟩:=hP
   exact SqL.of hL
 . obtain ⟨x2,rfl,rfl⟩:=hP
   rw[List.getElem?_map] at hx
   cases hz:ms[i]? with
   | none=>rw[hz] at hx;cases hx
   | some z=>
     rw[hz] at hx
     cases hx
     have hz1:=hm z (List.mem_of_getElem? hz)
     walk_at "rd"
     refine⟨some (.int ((z:Nat):Int)),?_,rfl⟩
     rw[List.take_add_one,hz,show(some z).toList=[z] from rfl,Et,Int.natCast_mul]
     rfl
 obtain⟨x2,rfl,rfl⟩:=hP
 rw[List.length_map,List.take_length]
 walk_at "rd"
 exact k
theorem Gr {f:Addr}{fd:FuncData}(F:Fun K "product_up_to" "product_up_to" Bb f fd)(T:Fb mg)(c_product:Fnd P w K mg base 1 "product" ["numbers"] (Dc K)):FnOk P w K mg base CX0 2 f fd ["number"] (Bf K):=by
 refine F.ok Gq (fun vs H Q E h=>?_) (fun cdv A outer s H vs Q E hr h=>?_)
 . obtain⟨m,rfl,_⟩:=h
   rfl
 obtain⟨m,rfl,hm,k⟩:=h
 have hu:=C0 hr
 have hq:=By hr
 with_reducible refine⟨_,(A5 (Am (Ai c_product (hr.mono (by decide)) (by ac_nf) (A0 (Ao (Pl (by ac_nf)) (by ac_nf) T.b_list PyProof.Rows.Boot.«list» (A0 (Ao Ub (by ac_nf) T.b_range PyProof.Rows.Boot.«range» (A0 A3 (A0 (Ae (Ac (K:=K)) (pv 0) A3) A1))) A1)) A1)))),?_⟩
 walk_at "rd"
 refine a99 (by omega) fun p H1 hp1 e1 h1=>?_
 walk_at "rd"
 refine Y2 h1 (by omega) fun l H2 hl2 e2 h2=>?_
 have he:((List.range ((m:Int)+1-1).toNat).map fun(i:Nat)=>V.int (1+(i:Int)))=((List.range m).map fun i=>i+1).map fun m=>V.int ((m:Nat):Int):=by
  rw[show((m:Int)+1-1).toNat=m by omega,List.map_map]
  apply List.map_congr_left
  intro i _
  show V.int (1+(i:Int))=V.int ((i+1:Nat):Int)
  congr 1
  omega
 rw[he] at h2
 walk_at "rd"
 refine⟨l,_,rfl,h2,by rw[List.length_map,List.length_range];exact hm,fun x hx=>?_,?_⟩
 . obtain⟨i,hi,rfl⟩:=List.mem_map.mp hx
   have:=List.mem_range.mp hi
   omega
 rw[Ml]
 exact k H2 (e1.trans e2)
def RefN (H:Hp)(C:Addr)(E:XK):Prop:=∀ a H',Same H H'->ExB false H' a C []->E (.ref a) none H'
theorem RefN.mono {H H':Hp}{C:Addr}{E:XK}(h:RefN H C E)(e:Same H H'):RefN H' C E:=fun a H2 e2 hE=>h a H2 (e.trans e2) hE
def Cov (ns:List Str) (ps:List (Str×Str)) (rows:List (List Str)):Prop:=(∀ r∈rows,ChR ns ps r)/\rows.flatten.Perm ns
theorem S3 (rows:List (List Str)):Jf (rows.map fun r=>fac r.length)=Fa rows:=rfl
theorem Hi:∀ rows:List (List Str),0<Fa rows
 | []=>Nat.one_pos
 | r :: rows=>by
   rw[Dg]
   exact Nat.mul_pos (Nb _) (Hi rows)
def El (K:PySem.W.Frag):Sp:=fun vs H Q _=>∃ v ns ps,vs=[v]/\Is K H (hfD ns ps) v/\HalfW ns ps/\ns.length<=10/\∀ H' Ls,Same H H'->Lays ps ns Ls->Q (.int ((Fa Ls:Nat):Int)) H'
theorem M3 {f:Addr}{fd:FuncData}(F:Fun K "by_layers" "by_layers" Cj f fd)(T:Fb mg)(c_layers:Fnd P w K mg base 2 "layers" ["half"] (Iu K))(c_product:Fnd P w K mg base 1 "product" ["numbers"] (Dc K))(c_product_up_to:Fnd P w K mg base 2 "product_up_to" ["number"] (Bf K)):FnOk P w K mg base CX0 3 f fd ["half"] (El K):=by
 refine F.ok Mw (fun vs H Q E h=>?_) (fun cdv A outer s H vs Q E hr h=>?_)
 . obtain⟨v,ns,ps,rfl,_⟩:=h
   rfl
 obtain⟨v,ns,ps,rfl,hI,hW,h10,k⟩:=h
 have hu:=C0 hr
 have hq:=By hr
 with_reducible refine⟨_,(A5 (Am (Ai c_product (hr.mono (by decide)) (by ac_nf) (A0 (Bh ["layer"] [] [] (by ac_nf) (by ac_nf) (by ac_nf) (Aj (K:=K) hu (Ai c_layers (hr.mono (by decide)) (by ac_nf) (A0 (pv 0) A1))) (fun _ _ _ _=>(Ab (i:=0) (by with_unfolding_all (show(["layer"]:List Str).Nodup;decide +kernel)) (by ac_nf) (by eq_refl))) (Av (by decide)) (fun _ _ _ _=>Br) (fun _ _ _ _=>(Ai c_product_up_to (hr.mono (by decide)) (by ac_nf) (A0 (A7 (Ah (K:=K)) (by ac_nf) T.b_len PyProof.Rows.Boot.«len» (A0 (pv 0) A1)) A1)))) A1)))),?_⟩
 walk_at "rd"
 refine⟨v,ns,ps,rfl,hI,hW,fun u H1 Ls e1 hLs hU=>?_⟩
 have hLm:=hLs.mem
 have hLl:=hLs.len hW.irr
 obtain⟨ua,xs,rfl,hS,hX⟩:=hU.tup
 have hxl:xs.length=Ls.length:=by rw[<- IsL.length hX,List.length_map]
 refine Gm hS ?_
 refine D6 (K:=K) (Bw (xs:=xs)) Ls hxl.symm (fun _=>true) (fun r=>.int ((fac r.length:Nat):Int)) (fun r=>rfl) (by omega) (fun H' e=>e.seqT hS) (fun i r xv H2 R R' hr hxv e2 hR hR'=>?_) (fun q ys H2 hq2 e2 h2 hL2=>?_)
 . obtain⟨D,hD,hIx⟩:=IsL.get hX hxv
   rw[List.getElem?_map,hr] at hD
   cases hD
   have:=(hLm r (List.mem_of_getElem? hr)).1
   walk_at "rd"
   refine Fd (Is.mono e2 _ _ hIx) ?_
   walk_at "rd"
   exact⟨r.length,rfl,by omega,fun H3 e3=>hR rfl _ _ e3 Fv⟩
 rw[Bm,show Ls.map (fun r=>PyData.int ((fac r.length:Nat):Int))=(Ls.map fun r=>fac r.length).map fun(k:Nat)=>PyData.int (k:Int) by rw[List.map_map];rfl] at hL2
 have:=Hx hL2
 subst this
 walk_at "rd"
 refine⟨q,_,rfl,h2,by rw[List.length_map];omega,fun m hm=>?_,?_⟩
 . obtain⟨r,hr,rfl⟩:=List.mem_map.mp hm
   exact Nat.le_trans (Io (n:=10) (by have:=(hLm r hr).1;omega)) (by decide)
 exact k H2 Ls (e1.trans e2) hLs
theorem Tv {ps:List (Str×Str)} {x:Str} {r:List Str} (h:Vs ps (x :: r)):Vs ps r:=fun i a b ha hb=>h (i+1) a b (by rw[List.getElem?_cons_succ];exact ha) (by rw[List.getElem?_cons_succ];exact hb)
theorem Vj {ps:List (Str×Str)}:∀ {r:List Str},Vs ps r->r.Pairwise fun x y=>Cc ps x y=true
 | [],_=>.nil
 | [x],_=>List.pairwise_singleton _ _
 | x :: y :: t,h=>by
   have ih:=Vj (Tv h)
   have hxy:Way ps x y:=h 0 x y rfl rfl
   refine List.pairwise_cons.mpr ⟨fun z hz=>?_,ih⟩
   rcases List.mem_cons.mp hz with rfl | hz
   . exact wayB_iff.mpr hxy
   exact wayB_iff.mpr (hxy.trans (wayB_iff.mp ((List.pairwise_cons.mp ih).1 z hz)))
theorem N9 {ns:List Str}{ps:List (Str×Str)}{rows:List (List Str)}(hH:Half ns ps)(h:Cov ns ps rows):cnt (Cc ps) ns*Fa rows<=fac ns.length/\Fa rows<=3628800:=by
 have h1:=Mm (b:=Cc ps) ns.length rfl hH.names.1 h.2 fun r hr=>Vj (h.1 r hr).2.2
 have h2:=Sy (b:=Cc ps) (Uq hH.w) (fun x y z=>Wv x y z) _ ns rfl hH.names.1
 refine⟨h1,?_⟩
 have h3:1*Fa rows<=cnt (Cc ps) ns*Fa rows:=Nat.mul_le_mul h2 (Nat.le_refl _)
 have h4:fac ns.length<=3628800:=Nat.le_trans (Io hH.few) (by decide)
 omega
def Fg (K:PySem.W.Frag):Sp:=fun vs H Q _=>∃ v u ns ps rows,vs=[v,u]/\Is K H (hfD ns ps) v/\Half ns ps/\Is K H (lsD rows) u/\Cov ns ps rows/\∀ H',Same H H'->Q (.int ((fac ns.length / Fa rows:Nat):Int)) H'
def Ei (C:Addr)(K:PySem.W.Frag):Sp:=fun vs H Q E=>∃ v u ns ps o,vs=[v,u]/\Is K H (hfD ns ps) v/\Half ns ps/\ThK K H u o/\(∀ rows,o=some (rows.map nmD)->Cov ns ps rows->∀ H',Same H H'->Q (.int ((fac ns.length / Fa rows:Nat):Int)) H')/\(¬ CvO ns ps o->RefN H C E)
theorem Qi {ns:List Str}{ps:List (Str×Str)}{rows:List (List Str)}(hH:Half ns ps)(h:Cov ns ps rows):Dk 20 50000 100 (lsD rows)/\lfs (lsD rows)<=60/\rows.length<=10/\(∀ r∈rows,r.length<=10):=by
 have h10:=hH.few
 have hf:=h.2.length_eq
 have hne:rows.length<=rows.flatten.length:=Rn fun r hr=>(h.1 r hr).1
 have hr1:∀ r∈rows,r.length<=10:=fun r hr=>by
  have:r.length<=rows.flatten.length:=(List.sublist_flatten_of_mem hr).length_le
  omega
 refine⟨?_,?_,by omega,hr1⟩
 . have hr:∀ r∈rows,Dk 19 180 100 (nmD r):=fun r hr=>by
    have:=hr1 r hr
    exact(Cv (Kv (p:=1) (W:=30) (fun z hz=>hH.names.2 z ((h.1 r hr).2.1 z hz)) (by omega))).le (by omega) (by omega)
   refine Cv (p:=19) ⟨fun e he=>?_,?_,by rw[List.length_map];omega⟩
   . obtain⟨r,hm,rfl⟩:=List.mem_map.mp he
     exact⟨180,hr r hm⟩
   have:=M4 (k:=180) (ds:=rows.map nmD) fun e he=>by
    obtain⟨r,hm,rfl⟩:=List.mem_map.mp he
    exact(hr r hm).wt
   rw[List.length_map] at this
   have:=Nat.mul_le_mul (show rows.length<=10 by omega) (Nat.le_refl 181)
   omega
 unfold lsD
 rw[Dm,Er]
 omega
theorem Nr {f:Addr}{fd:FuncData}(F:Fun K "by_cover" "by_cover" Cg f fd)(T:Fb mg)(c_is_cover:Fnd P w K mg base 2 "is_cover" ["half","thing"] (E4 K))(c_product:Fnd P w K mg base 1 "product" ["numbers"] (Dc K))(c_product_up_to:Fnd P w K mg base 2 "product_up_to" ["number"] (Bf K)):FnOk P w K mg base CX0 3 f fd ["half","chains"] (Fg K):=by
 refine F.ok Iw (fun vs H Q E h=>?_) (fun cdv A outer s H vs Q E hr h=>?_)
 . obtain⟨v,u,ns,ps,rows,rfl,_⟩:=h
   rfl
 obtain⟨v,u,ns,ps,rows,rfl,hI,hH,hU,hC,k⟩:=h
 have hu:=C0 hr
 have hq:=By hr
 have h10:=hH.few
 obtain⟨hDk,hlf,hrl,hr1⟩:=Qi hH hC
 with_reducible refine⟨_,(A2 (C1 (Eb (Cu (Ai c_is_cover (hr.mono (by decide)) (by ac_nf) (A0 (pv 0) (A0 (pv 1) A1))))) (A5 Tp) An)
  (A5 (Am (Ae E3 (Ai c_product_up_to (hr.mono (by decide)) (by ac_nf) (A0 (A7 (Ah (K:=K)) (by ac_nf) T.b_len PyProof.Rows.Boot.«len» (A0 (Ap (A8 (K:=K) hu) (pv 0) A3 (by ac_rfl)) A1)) A1)) (Ai c_product (hr.mono (by decide)) (by ac_nf) (A0 (Bh ["chain"] [] [] (by ac_nf) (by ac_nf) (by ac_nf) (Aj (K:=K) hu (pv 1)) (fun _ _ _ _=>(Ab (i:=0) (by with_unfolding_all (show(["chain"]:List Str).Nodup;decide +kernel)) (by ac_nf) (by eq_refl))) (Av (by decide)) (fun _ _ _ _=>Br) (fun _ _ _ _=>(Ai c_product_up_to (hr.mono (by decide)) (by ac_nf) (A0 (A7 (Ah (K:=K)) (by ac_nf) T.b_len PyProof.Rows.Boot.«len» (A0 (pv 0) A1)) A1)))) A1)))))),?_⟩
 walk_at "rd"
 refine⟨v,u,ns,ps,20,50000,100,60,some (rows.map nmD),rfl,hI,hH,⟨hU,hDk,by rw[<- Dm];exact hlf⟩,by omega,by omega,by omega,fun b H1 e1 hb=>?_⟩
 have:b=true:=hb.mpr ⟨rows,rfl,hC.1,hC.2⟩
 subst this
 walk_at "rd"
 refine Do (hI.hf_fz e1.fz) fun nv hN=>?_
 walk_at "rd"
 refine Fd hN ?_
 walk_at "rd"
 refine⟨ns.length,rfl,by omega,fun H2 e2=>?_⟩
 have e12:=e1.trans e2
 obtain⟨ua,xs,rfl,hS,hX⟩:=hU.tup
 have hxl:xs.length=rows.length:=by rw[<- IsL.length hX,List.length_map]
 walk_at "rd"
 refine Gm (e12.seqT hS) ?_
 refine D6 (K:=K) (Bw (xs:=xs)) rows hxl.symm (fun _=>true) (fun r=>.int ((fac r.length:Nat):Int)) (fun r=>rfl) (by omega) (fun H' e=>(e12.trans e).seqT hS) (fun i r xv H3 R R' hr hxv e3 hR hR'=>?_) (fun q ys H3 hq3 e3 h3 hL3=>?_)
 . obtain⟨D,hD,hIx⟩:=IsL.get hX hxv
   rw[List.getElem?_map,hr] at hD
   cases hD
   have:=hr1 r (List.mem_of_getElem? hr)
   walk_at "rd"
   refine Fd (Is.mono (e12.trans e3) _ _ hIx) ?_
   walk_at "rd"
   exact⟨r.length,rfl,by omega,fun H4 e4=>hR rfl _ _ e4 Fv⟩
 rw[Bm,show rows.map (fun r=>PyData.int ((fac r.length:Nat):Int))=(rows.map fun r=>fac r.length).map fun(k:Nat)=>PyData.int (k:Int) by rw[List.map_map];rfl] at hL3
 have:=Hx hL3
 subst this
 walk_at "rd"
 refine⟨q,_,rfl,h3,by rw[List.length_map];omega,fun m hm=>?_,?_⟩
 . obtain⟨r,hr,rfl⟩:=List.mem_map.mp hm
   exact Nat.le_trans (Io (n:=10) (hr1 r hr)) (by decide)
 rw[S3]
 have hp:=Hi rows
 have hp2:=(N9 hH hC).2
 have hcd:Yd ((fac ns.length:Nat):Int) ((Fa rows:Nat):Int):=⟨by omega,by omega⟩
 walk_at "rd"
 have:=k H3 (e12.trans e3)
 rw[Int.natCast_ediv] at this
 exact this
theorem M1 {f:Addr}{fd:FuncData}(F:Fun K "by_cover" "by_cover" Cg f fd)(T:Fb mg){C_HalfError:Addr}{C_NoName:Addr}{C_NoCover:Addr}(x_HalfError:E8 K mg C_HalfError C_HalfError)(x_NoName:G8 K mg C_NoName C_HalfError)(x_NoCover:Fh K mg C_NoCover C_HalfError)(c_is_cover:Fnd P w K mg base 2 "is_cover" ["half","thing"] (E4 K))(c_product:Fnd P w K mg base 1 "product" ["numbers"] (Dc K))(c_product_up_to:Fnd P w K mg base 2 "product_up_to" ["number"] (Bf K)):FnOk P w K mg base (CX1 P w) 3 f fd ["half","chains"] (Ei C_NoCover K):=by
 refine F.ok1 Iw (fun vs H Q E h=>?_) (fun cdv A outer s H vs Q E hr h=>?_)
 . obtain⟨v,u,ns,ps,o,rfl,_⟩:=h
   rfl
 obtain⟨v,u,ns,ps,o,rfl,hI,hH,hU,k,kn⟩:=h
 have hu:=C0 hr
 have hq:=By hr
 have h10:=hH.few
 with_reducible refine⟨_,(A2 (C1 (Eb (Cu (Ai c_is_cover (hr.mono (by decide)) (by ac_nf) (A0 (pv 0) (A0 (pv 1) A1))))) (A5 (Uf (by ac_nf) (Xk x_NoCover.mk0 (by ac_nf) (A0 Al A1)))) An)
  (A5 (Am (Ae E3 (Ai c_product_up_to (hr.mono (by decide)) (by ac_nf) (A0 (A7 (Ah (K:=K)) (by ac_nf) T.b_len PyProof.Rows.Boot.«len» (A0 (Ap (A8 (K:=K) hu) (pv 0) A3 (by ac_rfl)) A1)) A1)) (Ai c_product (hr.mono (by decide)) (by ac_nf) (A0 (Bh ["chain"] [] [] (by ac_nf) (by ac_nf) (by ac_nf) (Aj (K:=K) hu (pv 1)) (fun _ _ _ _=>(Ab (i:=0) (by with_unfolding_all (show(["chain"]:List Str).Nodup;decide +kernel)) (by ac_nf) (by eq_refl))) (Av (by decide)) (fun _ _ _ _=>Br) (fun _ _ _ _=>(Ai c_product_up_to (hr.mono (by decide)) (by ac_nf) (A0 (A7 (Ah (K:=K)) (by ac_nf) T.b_len PyProof.Rows.Boot.«len» (A0 (pv 0) A1)) A1)))) A1)))))),?_⟩
 walk_at "rd"
 refine⟨v,u,ns,ps,20,50000,100,60,o,rfl,hI,hH,hU.tw,by omega,by omega,by omega,fun b H1 e1 hb=>?_⟩
 cases b with
 | false=>
   have kn:=(kn fun h=>by have:=hb.mpr h;cases this).mono e1
   walk_at "rd"
   refine a67 (by decide) fun a H2 ha2 e2 hE=>?_
   walk_at "rd"
   exact Xl hE x_NoCover.xc (e1.free ha2) fun H3 kp hE3=>kn a H3 (fun b o q=>kp b o (ne_of_none q ha2) (e2 _ _ q)) hE3
 | true=>
   have hcv:=hb.mp rfl
   cases o with
   | none=>exact hcv.elim
   | some ds=>
     obtain⟨rows,rfl,hC1,hC2⟩:=hcv
     have hC:Cov ns ps rows:=⟨hC1,hC2⟩
     obtain⟨hU,_⟩:=hU.tw
     obtain⟨hDk,hlf,hrl,hr1⟩:=Qi hH hC
     walk_at "rd"
     refine Do (hI.hf_fz e1.fz) fun nv hN=>?_
     walk_at "rd"
     refine Fd hN ?_
     walk_at "rd"
     refine⟨ns.length,rfl,by omega,fun H2 e2=>?_⟩
     have e12:=e1.trans e2
     obtain⟨ua,xs,rfl,hS,hX⟩:=hU.tup
     have hxl:xs.length=rows.length:=by rw[<- IsL.length hX,List.length_map]
     walk_at "rd"
     refine Gm (e12.seqT hS) ?_
     refine D6 (K:=K) (Bw (xs:=xs)) rows hxl.symm (fun _=>true) (fun r=>.int ((fac r.length:Nat):Int)) (fun r=>rfl) (by omega) (fun H' e=>(e12.trans e).seqT hS) (fun i r xv H3 R R' hr hxv e3 hR hR'=>?_) (fun q ys H3 hq3 e3 h3 hL3=>?_)
     . obtain⟨D,hD,hIx⟩:=IsL.get hX hxv
       rw[List.getElem?_map,hr] at hD
       cases hD
       have:=hr1 r (List.mem_of_getElem? hr)
       walk_at "rd"
       refine Fd (Is.mono (e12.trans e3) _ _ hIx) ?_
       walk_at "rd"
       exact⟨r.length,rfl,by omega,fun H4 e4=>hR rfl _ _ e4 Fv⟩
     rw[Bm,show rows.map (fun r=>PyData.int ((fac r.length:Nat):Int))=(rows.map fun r=>fac r.length).map fun(k:Nat)=>PyData.int (k:Int) by rw[List.map_map];rfl] at hL3
     have:=Hx hL3
     subst this
     walk_at "rd"
     refine⟨q,_,rfl,h3,by rw[List.length_map];omega,fun m hm=>?_,?_⟩
     . obtain⟨r,hr,rfl⟩:=List.mem_map.mp hm
       exact Nat.le_trans (Io (n:=10) (hr1 r hr)) (by decide)
     rw[S3]
     have hp:=Hi rows
     have hp2:=(N9 hH hC).2
     have hcd:Yd ((fac ns.length:Nat):Int) ((Fa rows:Nat):Int):=⟨by omega,by omega⟩
     walk_at "rd"
     have:=k rows rfl hC H3 (e12.trans e3)
     rw[Int.natCast_ediv] at this
     exact this
local macro_rules | `(tactic| walk_at "rq1") => L2.mAlts "i_nxS"
def Cl (K:PySem.W.Frag):Sp:=fun vs H Q _=>∃ n:Int,vs=[.int n]/\Q (.bl true) H
def Bv (K:PySem.W.Frag):Sp:=fun vs H Q _=>∃ m:Nat,vs=[.int ((m:Nat):Int)]/\m<=1000/\Q (.int ((fac m:Nat):Int)) H
theorem G4 {f:Addr}{fd:FuncData}(F:Fun K "_law_is_number" "_law_is_number" B7 f fd)(T:Fb mg):FnOk P w K mg base CX0 1 f fd ["_law_thing"] (Cl K):=by
 refine F.ok Gd (fun vs H Q E h=>?_) (fun cdv A outer s H vs Q E hr h=>?_)
 . obtain⟨n,rfl,_⟩:=h
   rfl
 obtain⟨n,rfl,k⟩:=h
 have hu:=C0 hr
 have hq:=By hr
 with_reducible refine⟨_,(A5 (Am (R5 (A7 (Aw (K:=K)) (by ac_nf) T.b_isinstance PyProof.Rows.Boot.«isinstance» (A0 (pv 0) (A0 (Dh (v:=.ty "int") (by ac_nf) T.b_int PyProof.Rows.Boot.«int» (by ac_nf)) A1))) (Qq (Vz (A7 (Aw (K:=K)) (by ac_nf) T.b_isinstance PyProof.Rows.Boot.«isinstance» (A0 (pv 0) (A0 (Dh (v:=.ty "bool") (by ac_nf) T.b_bool PyProof.Rows.Boot.«bool» (by ac_nf)) A1)))))))),?_⟩
 walk_at "rd"
 refine Ht (TyOf.int n) (b:=true) (by rfl) ?_
 walk_at "rd"
 refine Ht (TyOf.int n) (b:=false) (by rfl) ?_
 walk_at "rd"
 exact k
theorem Gw {f:Addr}{fd:FuncData}(F:Fun K "_law_shuffles" "_law_shuffles" Bc f fd)(T:Fb mg):FnOk P w K mg base CX0 1 f fd ["_law_many"] (Bv K):=by
 refine F.ok sc__law_shuffles (fun vs H Q E h=>?_) (fun cdv A outer s H vs Q E hr h=>?_)
 . obtain⟨m,rfl,_⟩:=h
   rfl
 obtain⟨m,rfl,hm,k⟩:=h
 have hu:=C0 hr
 have hq:=By hr
 with_reducible refine⟨_,(A2 (Aa (i:=1) sc__law_shuffles.nd (by ac_nf) (by eq_refl) A3)
  (A2 (Bl PassesOwn.never (by ac_nf) (Bj (by ac_nf) T.b_range (A0 (pv 0) A1)) (Ab (i:=2) sc__law_shuffles.nd (by ac_nf) (by eq_refl))
  (A5 (Aa (i:=1) sc__law_shuffles.nd (by ac_nf) (by eq_refl) (Ae C9 (pv 1) (Ae (Ac (K:=K)) (pv 2) A3)))))
  (A5 (Am (pv 1))))),?_⟩
 walk_at "rd"
 refine Ee (by omega) ?_
 refine D4 Ax (fun i σ H1=>∃ x2,σ=[some (.int ((m:Nat):Int)),some (.int ((fac i:Nat):Int)),x2]/\H1=H) ⟨_,rfl,rfl⟩ (fun _ _ _ _=>trivial) (fun i x σ' H1 hx hi hP=>?_) (fun σ' H1 hP=>?_)
 . obtain⟨x2,rfl,rfl⟩:=hP
   obtain⟨rfl,hi2⟩:=Ci hx
   walk_at "rd"
   refine⟨some (.int (0+(i:Int))),?_,rfl⟩
   have:((fac i:Nat):Int)*(0+(i:Int)+1)=((fac (i+1):Nat):Int):=by
    show _=((fac i*(i+1):Nat):Int)
    rw[Int.natCast_mul]
    congr 1
    omega
   rw[this]
   rfl
 obtain⟨x2,rfl,rfl⟩:=hP
 have:((List.range ((m:Nat):Int).toNat).map fun(i:Nat)=>V.int (0+(i:Int))).length=m:=by rw[List.length_map,List.length_range];omega
 rw[this]
 walk_at "rd"
 exact k
def ab7 (ns:List Str)(ps:List (Str×Str))(H:Hp)(o:Option (List PyData))(Q:VK):Prop:=(∀ rows,o=some (rows.map nmD)->Cov ns ps rows->∀ H',Same H H'->Q (.int ((fac ns.length / Fa rows:Nat):Int)) H')/\(¬ CvO ns ps o->∀ H',Same H H'->Q (.str "none") H')
def Fj (K:PySem.W.Frag):Sp:=fun vs H Q _=>∃ v u ns ps o,vs=[v,u]/\Is K H (hfD ns ps) v/\Half ns ps/\ThK K H u o/\ab7 ns ps H o Q
def Ef (K:PySem.W.Frag):Sp:=fun vs H Q _=>∃ v u ns ps o,vs=[v,u]/\Is K H (hfD ns ps) v/\Half ns ps/\ThK K H u o/\ab7 ns ps H o Q
theorem Mk (rows:List (List Str))(r:List Str):Fa (rows++[r])=Fa rows*fac r.length:=by
 unfold Fa
 rw[List.map_append]
 exact Et _ _
theorem Nw {f:Addr}{fd:FuncData}(F:Fun K "_law_due" "_law_due" D9 f fd)(T:Fb mg)(c__law_is_cover:Fnd P w K mg base 3 "_law_is_cover" ["_law_half_here","_law_thing"] (Cz K))(c__law_shuffles:Fnd P w K mg base 1 "_law_shuffles" ["_law_many"] (Bv K)):FnOk P w K mg base CX0 4 f fd ["_law_half_here","_law_thing"] (Fj K):=by
 refine F.ok sc__law_due (fun vs H Q E h=>?_) (fun cdv A outer s H vs Q E hr h=>?_)
 . obtain⟨v,u,ns,ps,o,rfl,_⟩:=h
   rfl
 obtain⟨v,u,ns,ps,o,rfl,hI,hH,hU,k,kn⟩:=h
 have hu:=C0 hr
 have hq:=By hr
 have h10:=hH.few
 with_reducible refine⟨_,(A2 (C1 (Eb (Cu (Ai c__law_is_cover (hr.mono (by decide)) (by ac_nf) (A0 (pv 0) (A0 (pv 1) A1))))) (A5 (Am Al)) An)
  (A2 (Aa (i:=2) sc__law_due.nd (by ac_nf) (by eq_refl) (Ai c__law_shuffles (hr.mono (by decide)) (by ac_nf) (A0 (A7 (Ah (K:=K)) (by ac_nf) T.b_len PyProof.Rows.Boot.«len» (A0 (Ap (A8 (K:=K) hu) (pv 0) A3 (by ac_rfl)) A1)) A1)))
  (A2 (Bl PassesOwn.never (by ac_nf) (Aj (K:=K) hu (pv 1)) (Ab (i:=3) sc__law_due.nd (by ac_nf) (by eq_refl))
  (A5 (Aa (i:=2) sc__law_due.nd (by ac_nf) (by eq_refl) (Ae E3 (pv 2) (Ai c__law_shuffles (hr.mono (by decide)) (by ac_nf) (A0 (A7 (Ah (K:=K)) (by ac_nf) T.b_len PyProof.Rows.Boot.«len» (A0 (pv 3) A1)) A1))))))
  (A5 (Am (pv 2)))))),?_⟩
 walk_at "rd"
 refine⟨v,u,ns,ps,20,50000,100,60,o,rfl,hI,hH,hU.tw,by omega,by omega,by omega,fun b H1 e1 hb=>?_⟩
 cases b with
 | false=>
   walk_at "rd"
   exact kn (fun h=>by have:=hb.mpr h;cases this) H1 e1
 | true=>
   have hcv:=hb.mp rfl
   cases o with
   | none=>exact hcv.elim
   | some ds=>
     obtain⟨rows,rfl,hC1,hC2⟩:=hcv
     have hC:Cov ns ps rows:=⟨hC1,hC2⟩
     obtain⟨hU,_⟩:=hU.tw
     obtain⟨hDk,hlf,hrl,hr1⟩:=Qi hH hC
     have hU1:Is K H1 (lsD rows) u:=Is.mono e1 _ _ hU
     walk_at "rd"
     refine Do (hI.hf_fz e1.fz) fun nv hN=>?_
     walk_at "rd"
     refine Fd hN ?_
     walk_at "rd"
     refine⟨ns.length,rfl,by omega,?_⟩
     walk_at "rd"
     refine M5 hU1 (Ca rows) (fun i σ H2=>∃ x3,σ=[some v,some u,some (.int ((fac ns.length / Fa (rows.take i):Nat):Int)),x3]/\H2=H1) ⟨_,by rw[List.take_zero,show Fa ([]:List (List Str))=1 from rfl,Nat.div_one];rfl,rfl⟩ (fun i σ' H' hP=>?_) (fun i D y σ' H2 hD hy hP=>?_) (fun σ' H2 hP=>?_)
     . obtain⟨_,_,rfl⟩:=hP
       exact .refl _
     . obtain⟨x3,rfl,rfl⟩:=hP
       rw[List.getElem?_map] at hD
       obtain⟨r,hr,rfl⟩:=Option.map_eq_some_iff.mp hD
       have hr2:=hr1 r (List.mem_of_getElem? hr)
       have hf1:=Nb r.length
       have hf2:fac r.length<=3628800:=Nat.le_trans (Io hr2) (by decide)
       walk_at "rd"
       refine Fd hy ?_
       walk_at "rd"
       refine⟨r.length,rfl,by omega,?_⟩
       have hcd:Yd ((fac ns.length / Fa (rows.take i):Nat):Int) ((fac r.length:Nat):Int):=⟨by omega,by omega⟩
       walk_at "rd"
       refine⟨some y,?_,rfl⟩
       rw[List.take_add_one,hr,show(some r).toList=[r] from rfl,Mk,<- Nat.div_div_eq_div_mul,Int.natCast_ediv]
       rfl
     obtain⟨x3,rfl,rfl⟩:=hP
     rw[List.length_map,List.take_length]
     walk_at "rd"
     exact k rows rfl hC H2 e1
theorem Yi {K:PySem.W.Frag}{C B:Addr}(hm:Km K C B=true):PySem.W.mroIn K C (.ref B)=some true:=by
 obtain⟨cd,hc,hx⟩:=PySem.W.any_some hm
 unfold PySem.W.mroIn
 rw[hc,Option.bind_some,beq_iff_eq.mp hx,if_neg (by simp),List.contains_cons,List.contains_cons,beq_self_eq_true,Bool.true_or,Bool.or_true]
theorem len4 {σ:L2.St}(h:σ.length=4):∃ a b c d,σ=[a,b,c,d]:=by
 match σ,h with
 | [a,b,c,d],_=>exact⟨a,b,c,d,rfl⟩
theorem L7 {f:Addr}{fd:FuncData}(F:Fun K "_law_told" "_law_told" Ck f fd)(T:Fb mg){C_HalfError:Addr}{C_NoName:Addr}{C_NoCover:Addr}{C_NoOrder:Addr}(x_HalfError:E8 K mg C_HalfError C_HalfError)(x_NoName:G8 K mg C_NoName C_HalfError)(x_NoCover:Fh K mg C_NoCover C_HalfError)(x_NoOrder:Hq K mg C_NoOrder C_HalfError)(ndX:([C_HalfError,C_NoCover,C_NoName,C_NoOrder]:List Addr).Nodup)(d_by_cover:aa0 P w K mg base 3 "by_cover" ["half","chains"] (Ei C_NoCover K)):FnOk P w K mg base CX0 4 f fd ["_law_half_here","_law_thing"] (Ef K):=by
 refine F.ok sc__law_told (fun vs H Q E h=>?_) (fun cdv A outer s H vs Q E hr h=>?_)
 . obtain⟨v,u,ns,ps,o,rfl,_⟩:=h
   rfl
 obtain⟨v,u,ns,ps,o,rfl,hI,hH,hU,k,kn⟩:=h
 have hu:=C0 hr
 have hq:=By hr
 obtain⟨xG,hG⟩:∃ G:Addr->Hp->Prop,G=fun a H'=>¬ CvO ns ps o/\Same H H'/\ExB false H' a C_NoCover []:=⟨_,rfl⟩
 with_reducible refine⟨_,(A2 (Aa (i:=2) sc__law_told.nd (by ac_nf) (by eq_refl) Te)
  (A2 (Yy (i:=3) xG sc__law_told.nd (by ac_nf) (by ac_nf) (by ac_nf) x_HalfError.gl x_HalfError.xc (by ac_nf) (by ac_nf) (by ac_nf) (fun _ _ hps=>(A5 (Aa (i:=2) sc__law_told.nd (by ac_nf) (by eq_refl) (Yj d_by_cover (hr.mono (by decide)) (by ac_nf) hps (A0 (pv 0) (A0 (pv 1) A1))))))
  (fun _ _=>(A2 (Aa (i:=2) sc__law_told.nd (by ac_nf) (by eq_refl) Al)
  (A5 (C1 (PW.pt (Lq (Cu (A7 (Il (K:=K)) (by ac_nf) T.b_isinstance PyProof.Rows.Boot.«isinstance» (A0 (pv 3) (A0 (Wo (v:=.ref C_NoCover) (by ac_nf) ⟨_,x_NoCover.gl,(by ac_nf)⟩) A1)))) (Lq (Cu (A7 (Il (K:=K)) (by ac_nf) T.b_isinstance PyProof.Rows.Boot.«isinstance» (A0 (pv 3) (A0 (Dh (v:=.ty "ValueError") (by ac_nf) T.b_ValueError PyProof.Rows.Boot.«ValueError» (by ac_nf)) A1)))) (L0 (Eb (Cu (A7 (Il (K:=K)) (by ac_nf) T.b_isinstance PyProof.Rows.Boot.«isinstance» (A0 (pv 3) (A0 (B1 (A0 (Wo (v:=.ref C_NoName) (by ac_nf) ⟨_,x_NoName.gl,(by ac_nf)⟩) (A0 (Wo (v:=.ref C_NoOrder) (by ac_nf) ⟨_,x_NoOrder.gl,(by ac_nf)⟩) A1))) A1))))))))) (A5 (Aa (i:=2) sc__law_told.nd (by ac_nf) (by eq_refl) Al)) An)))))
  (A5 (Am (pv 2))))),?_⟩
 walk_at "rd"
 refine⟨?_,fun a H' σ' hl hg=>?_⟩
 . walk_at "rd"
   refine⟨v,u,ns,ps,o,rfl,hI,hH,hU,fun rows ho hC H1 e1=>?_,fun hno a H' e hE=>⟨a,rfl,by rw[hG];exact⟨hno,e,hE⟩⟩⟩
   walk_at "rd"
   exact k rows ho hC H1 e1
 rw[hG] at hg
 obtain⟨hno,e1,hE⟩:=hg
 obtain⟨y0,y1,y2,y3,rfl⟩:=len4 hl
 obtain⟨od,ha⟩:∃ od,H' a=some (exG false a C_NoCover od):=by
  rcases hE with ⟨_,h1⟩ | ⟨dx,_,h1,_⟩
  . exact⟨none,h1⟩
  exact⟨some dx,h1⟩
 refine⟨⟨C_NoCover,od,ha,x_NoCover.xc,Yi x_NoCover.mr⟩,?_⟩
 walk_at "rd"
 refine a95 hE x_NoCover.xc (show _=some true by rw[N8 x_NoCover.xc x_NoCover.mr x_NoCover.xc,beq_self_eq_true,Bool.true_or]) ?_
 walk_at "rd"
 refine Ze hE x_NoCover.xc (Xc x_NoCover.mr) ?_
 walk_at "rd"
 refine At (A6 (by simp)) fun t H1 ht1 e2 h1=>?_
 have hE1:=hE.same e2
 walk_at "rd"
 have n1:C_NoCover≠C_NoName:=fun e=>by subst e;simp at ndX
 have n2:C_NoCover≠C_NoOrder:=fun e=>by subst e;simp at ndX
 have n3:C_NoName≠C_HalfError:=fun e=>by subst e;simp at ndX
 have n4:C_NoOrder≠C_HalfError:=fun e=>by subst e;simp at ndX
 have kt:PySem.W.kitAny K (.ref C_NoCover) ([C_NoName,C_NoOrder].map Value.ref)=some false:=by
  simp only[List.map_cons,List.map_nil,PySem.W.kitAny,N8 x_NoCover.xc x_NoCover.mr x_NoName.xc,N8 x_NoCover.xc x_NoCover.mr x_NoOrder.xc,beq_eq_false_iff_ne.mpr n1,beq_eq_false_iff_ne.mpr n2,beq_eq_false_iff_ne.mpr n3,beq_eq_false_iff_ne.mpr n4,Bool.or_self]
 refine Z7 (cs:=[C_NoName,C_NoOrder]) hE1 x_NoCover.xc h1 kt ?_
 walk_at "rd"
 exact kn hno H1 (e1.trans e2)
def Dq (K:PySem.W.Frag):Sp:=fun vs H Q _=>∃ v ns ps,vs=[v]/\Is K H (hfD ns ps) v/\Half ns ps/\ns.length<=6/\∀ l ys H',H l=none->Same H H'->H' l=some (.lst ys)->IsL K H' ((D7 (Cc ps) ns ns.length [[]]).map nmD) ys->Q (.ref l) H'
theorem J9 {f:Addr}{fd:FuncData}(F:Fun K "_law_orders" "_law_orders" Bn f fd)(T:Fb mg)(c__law_table:Fnd P w K mg base 2 "_law_table" ["_law_half_here"] (D8 K)):FnOk P w K mg base CX0 3 f fd ["_law_half_here"] (Dq K):=by
 refine F.ok sc__law_orders (fun vs H Q E h=>?_) (fun cdv A outer s H vs Q E hr h=>?_)
 . obtain⟨v,ns,ps,rfl,_⟩:=h
   rfl
 obtain⟨v,ns,ps,rfl,hI,hH,h6,k⟩:=h
 have hu:=C0 hr
 have hq:=By hr
 have hW:=hH.w
 have hn:=hW.nd
 have hok1:∀ z∈ns,PyData.strOk z=true:=fun z hz=>(G2 (hH.names.2 z hz)).1
 with_reducible refine⟨_,(A2 (Aa (i:=1) sc__law_orders.nd (by ac_nf) (by with_unfolding_all exact Or.inr rfl) (Ai c__law_table (hr.mono (by decide)) (by ac_nf) (A0 (pv 0) A1)))
  (A2 (Aa (i:=2) sc__law_orders.nd (by ac_nf) (by eq_refl) (Az (A0 (B1 A1) A1)))
  (A2 (Bl PassesOwn.never (by ac_nf) (Bj (by ac_nf) T.b_range (A0 (A7 (Ah (K:=K)) (by ac_nf) T.b_len PyProof.Rows.Boot.«len» (A0 (Ap (A8 (K:=K) hu) (pv 0) A3 (by ac_rfl)) A1)) A1)) (Ab (i:=3) sc__law_orders.nd (by ac_nf) (by eq_refl))
  (A2 (Aa (i:=4) sc__law_orders.nd (by ac_nf) (by eq_refl) (Az A1))
  (A2 (Bl PassesOwn.never (by ac_nf) (Aj (K:=K) hu (pv 2)) (Ab (i:=5) sc__law_orders.nd (by ac_nf) (by with_unfolding_all exact Or.inr rfl))
  (A2 (Cm (i:=6) ["_law_name"] ["_law_row"] [5] (by ac_nf) (by ac_nf) (by ac_nf) sc__law_orders.nd (by ac_nf) (by ac_nf) (Aj (K:=K) hu (Ap (A8 (K:=K) hu) (pv 0) A3 (by ac_rfl))) (fun _ _ _ _=>(Ab (i:=0) (by with_unfolding_all (show(["_law_name","_law_row"]:List Str).Nodup;decide +kernel)) (by ac_nf) (by eq_refl))) (Av (by decide)) (fun _ _ _ _=>(E1 (Ag (Eg (K:=K) hq) (pv 0) (pv 1) (by ac_nf)))) (fun _ _ _ _=>(pv 0)))
  (A5 (Bl PassesOwn.never (by ac_nf) (Aj (K:=K) hu (pv 6)) (Ab (i:=7) sc__law_orders.nd (by ac_nf) (by with_unfolding_all exact Or.inr rfl))
  (A5 (C1 (Ag (Bt (K:=K) hq) (Bh ["_law_one"] ["_law_name","_law_table_here"] [7,1] (by ac_nf) (by ac_nf) (by ac_nf) (Aj (K:=K) hu (pv 6)) (fun _ _ _ _=>(Ab (i:=0) (by with_unfolding_all (show(["_law_one","_law_name","_law_table_here"]:List Str).Nodup;decide +kernel)) (by ac_nf) (by eq_refl))) (Av (by decide)) (fun _ _ _ _=>(E1 (Ag (Eh (K:=K) hq) (pv 1) (Ap (A8 (K:=K) hu) (pv 2) (pv 0) (by ac_rfl)) (by ac_nf)))) (fun _ _ _ _=>(pv 0))) (Az A1) (Aq _)) (A5 (C6 (Dn (K:=K) PySem.F.plainAttrs_list PySem.F.slot_list_append PySem.F.type_list_append (mm Ct) (pv 4) (A0 (Ae (Ac (K:=K)) (pv 5) (B1 (A0 (pv 7) A1))) A1)))) An))))))
  (A5 (Aa (i:=2) sc__law_orders.nd (by ac_nf) (by eq_refl) (pv 4))))))
  (A5 (Am (pv 2)))))),?_⟩
 walk_at "rd"
 refine⟨v,ns,ps,rfl,hI,hH,fun r as H1 hr1 e1 hT=>?_⟩
 walk_at "rd"
 refine At (by decide) fun t2 H2 ht2 e2 h2=>?_
 walk_at "rd"
 refine B2 (A6 (by simp)) fun l3 H3 hl3 e3 h3=>?_
 walk_at "rd"
 have e13:Same H1 H3:=e2.trans e3
 refine Do (hI.hf_fz (e1.trans e13).fz) fun nv hN=>?_
 walk_at "rd"
 refine Fd hN ?_
 walk_at "rd"
 refine Ee (by omega) ?_
 refine D4 Ax (fun i σ H4=>∃ l x3 x4 x5 x6 x7 ys,σ=[some v,some (.ref r),some (.ref l),x3,x4,x5,x6,x7]/\Same H1 H4/\H1 l=none/\H4 l=some (.lst ys)/\IsL K H4 ((D7 (Cc ps) ns i [[]]).map nmD) ys)
  ⟨l3,_,_,_,_,_,[.ref t2],rfl,e13,e2.free hl3,h3,.one (J0 (SqT.of (e3 _ _ h2)))⟩ (fun _ _ _ _=>trivial) (fun i x σ H4 hx hi hP=>?_) (fun σ H4 hP=>?_)
 . obtain⟨l,x3,x4,x5,x6,x7,ys,rfl,e4,hl1,h4,hL4⟩:=hP
   obtain⟨rfl,hin⟩:=Ci hx
   have hrows:(D7 (Cc ps) ns i [[]]).length<=46656:=Nat.le_trans (Mb _ _ _) (Xq h6 (by omega))
   have hyl:ys.length=(D7 (Cc ps) ns i [[]]).length:=by rw[<- IsL.length hL4,List.length_map]
   walk_at "rd"
   refine B2 (by decide) fun g H5 hg5 e5 h5=>?_
   walk_at "rd"
   have hlg:l≠g:=ne_of_none h4 hg5
   refine Je (SqL.of (e5 _ _ h4)) ?_
   refine D4 (Bu (xs:=ys)) (fun j σ H6=>∃ y3 y5 y6 y7 zs,σ=[some v,some (.ref r),some (.ref l),y3,some (.ref g),y5,y6,y7]/\Same H4 H6/\H6 g=some (.lst zs)/\IsL K H6 ((De (Cc ps) ns ((D7 (Cc ps) ns i [[]]).take j)).map nmD) zs)
    ⟨_,_,_,_,[],rfl,e5,h5,.nil⟩ (fun j σ' H' hP=>?_) (fun j x σ' H6 hx6 hj hP=>?_) (fun σ' H6 hP=>?_)
   . obtain⟨_,_,_,_,_,_,e,_⟩:=hP
     exact SqL.of (e _ _ h4)
   . obtain⟨y3,y5,y6,y7,zs,rfl,e6,h6g,hL6⟩:=hP
     obtain ⟨dr,hdr,hIr⟩:=IsL.get (IsL.mono e6 _ _ hL4) hx6
     rw[List.getElem?_map] at hdr
     cases hro:(D7 (Cc ps) ns i [[]])[j]? with
     | none=>rw[hro] at hdr;cases hdr
     | some row=>
       rw[hro] at hdr
       cases hdr
       have e16:Same H1 H6:=e4.trans e6
       walk_at "rd"
       refine Do (hI.hf_fz (e1.trans e16).fz) fun nv6 hN6=>?_
       refine T0 hN6 (fun z=>!decide (z∈row)) PyData.str (fun _=>rfl) (by omega) (fun jj z H7 R R' hz e7 hR hR'=>?_) (fun lf ys7 H7 hlf7 e7 h7 hL7=>?_)
       . walk_at "rd"
         refine a36 (hIr.nm_fz e7.fz) ?_
         walk_at "rd"
         refine Q4 (fun hb=>?_) (fun hb=>?_)
         . walk_at "rd"
           exact hR (by rw[hb];rfl) _ _ (.refl _) Bi
         exact hR' (by rw[hb];rfl) _ (.refl _)
       have hLf:=IsL.str_eq hL7
       subst hLf
       have h7':H7 lf=some (.lst ((Cd ns row).map V.str)):=h7
       have hlfl:(Cd ns row).length<=ns.length:=List.length_filter_le _ _
       have hlfn:∀ z∈Cd ns row,z∈ns:=fun z hz=>(List.mem_filter.mp hz).1
       have hglf:g≠lf:=ne_of_none h6g hlf7
       have h7g:=e7 _ _ h6g
       walk_at "rd"
       refine Je (SqL.of h7') ?_
       have hrl:=Mp _ _ _ _ (List.mem_of_getElem? hro)
       have hIr4:Is K H4 (nmD row) x:=by
        obtain⟨d4,hd4,h⟩:=IsL.get hL4 hx6
        rw[List.getElem?_map,hro] at hd4
        cases hd4
        exact h
       have hgl:=Jd (Cc ps) ns _ j h6 hrows
       refine D4 (Bu (xs:=(Cd ns row).map V.str)) (fun m σ H8=>∃ w7 ws,σ=[some v,some (.ref r),some (.ref l),y3,some (.ref g),some x,some (.ref lf),w7]/\Same H4 H8/\H8 lf=some (.lst ((Cd ns row).map V.str))/\H8 g=some (.lst ws) /\
         IsL K H8 ((De (Cc ps) ns ((D7 (Cc ps) ns i [[]]).take j)++((((Cd ns row).take m).filter fun x=>!((Cd ns row).any fun y=>Cc ps y x)).map fun x=>row++[x])).map nmD) ws)
        ⟨_,zs,rfl,e6.trans e7,h7',h7g,by simpa using IsL.mono e7 _ _ hL6⟩ (fun m σ' H' hP=>?_) (fun m x8 σ' H8 hx8 hm hP=>?_) (fun σ' H8 hP=>?_)
       . obtain⟨_,_,_,_,h,_⟩:=hP
         exact SqL.of h
       . obtain ⟨w7,ws,rfl,e8,h8l,h8g,hL8⟩:=hP
         rw[List.getElem?_map] at hx8
         cases hz:(Cd ns row)[m]? with
         | none=>rw[hz] at hx8;cases hx8
         | some z=>
           rw[hz] at hx8
           cases hx8
           have hzn:=hlfn z (List.mem_of_getElem? hz)
           have hwl:ws.length<=500000:=by
            have:=IsL.length hL8
            rw[List.length_map,List.length_append,List.length_map] at this
            have h1:(((Cd ns row).take m).filter fun x=>!((Cd ns row).any fun y=>Cc ps y x)).length<=6:=Nat.le_trans (List.length_filter_le _ _) (Nat.le_trans (List.length_take_le' _ _) (by omega))
            omega
           walk_at "rd"
           refine Fu (SqL.of h8l) (fun y=>Cc ps y z) PyData.str (fun _=>rfl) (by omega) (fun jj y H9 R R' hy e9 hR hR'=>?_) (fun q9 zs9 H9 hq9 e9 h9 hL9=>?_)
           . have hT9:=hT.same ((e4.trans e8).trans e9)
             obtain⟨iy,ay,hiy,hay⟩:=hT9.at (hlfn y (List.mem_of_getElem? hy))
             obtain⟨ms,hm1,hm2,hm3⟩:=hT9.row iy y ay hiy hay
             walk_at "rd"
             refine Wc hT9 hn hiy hay ?_
             refine Ob (SqL.of hm1) ?_
             rw[Fq (hm3 z)]
             walk_at "rd"
             refine ab1 (fun hb=>?_) (fun hb=>?_)
             . walk_at "rd"
               exact hR hb _ _ (.refl _) Bi
             exact hR' hb _ (.refl _)
           have hz9:=IsL.str_eq hL9
           subst hz9
           walk_at "rd"
           refine B2 (by decide) fun t10 H10 ht10 e10 h10=>?_
           refine Ur (dx:=.list (((Cd ns row).filter fun y=>Cc ps y z).map PyData.str)) (dy:=.list []) (Is.of_lst (SqL.of (e10 _ _ h9)) (E6 _)) (Is.of_lst (SqL.of h10) .nil) (Dz fun y hy=>hok1 y (hlfn y (List.mem_filter.mp hy).1)) (by rfl) ?_
           rw[Ec,Nn]
           walk_at "rd"
           have e810:Same H8 H10:=e9.trans e10
           have htk:(Cd ns row).take (m+1)=(Cd ns row).take m++[z]:=by rw[List.take_add_one,hz];rfl
           refine Q4 (fun hb=>?_) (fun hb=>?_)
           . walk_at "rd"
             refine At (A6 (by simp)) fun t11 H11 ht11 e11 h11=>?_
             have hI11:=Is.mono ((e8.trans e810).trans e11) _ _ hIr4
             obtain⟨ra,rfl,hSr⟩:=hI11.nm
             refine Jw hSr (SqT.of h11) (A6 (by rw[List.length_map];simp;omega)) fun p12 H12 e12 h12=>?_
             have e812:Same H8 H12:=(e810.trans e11).trans e12
             have h12g:=e812 _ _ h8g
             walk_at "rd"
             refine Ia h12g (by omega) fun H13 e13 h13=>?_
             walk_at "rd"
             have hIn:Is K H12 (nmD (row++[z])) (.ref p12):=J0 (by rw[List.map_append];exact h12)
             have fz13:=e13.fzL h12g
             refine⟨_,_,rfl,(e8.trans e812).off hg5 e13,e13 _ _ (Ne.symm hglf) (e812 _ _ h8l),h13,?_⟩
             simp only[htk,List.filter_append,List.map_append,<- List.append_assoc]
             rw[<- List.map_append]
             refine IsL.append (IsL.fz (e812.fz.trans fz13) _ _ (Ca _) hL8) ?_
             have:([z].filter fun x=>!((Cd ns row).any fun y=>Cc ps y x))=[z]:=by rw[List.filter_cons,if_pos (by rw[hb];rfl)];rfl
             rw[this]
             exact .one (hIn.nm_fz fz13)
           walk_at "rd"
           refine⟨_,ws,rfl,e8.trans e810,e810 _ _ h8l,e810 _ _ h8g,?_⟩
           have:([z].filter fun x=>!((Cd ns row).any fun y=>Cc ps y x))=[]:=by rw[List.filter_cons,if_neg (by rw[hb];decide)];rfl
           rw[htk,List.filter_append,this,List.append_nil]
           exact IsL.mono e810 _ _ hL8
       obtain⟨w7,ws,rfl,e8,h8l,h8g,hL8⟩:=hP
       refine⟨_,_,_,_,ws,rfl,e8,h8g,?_⟩
       rw[List.length_map,<- V3] at hL8
       rw[Ph _ _ hro]
       exact hL8
   obtain⟨y3,y5,y6,y7,zs,rfl,e6,h6g,hL6⟩:=hP
   rw[hyl,List.take_length] at hL6
   walk_at "rd"
   refine⟨g,_,_,_,_,_,zs,rfl,e4.trans e6,e4.free hg5,h6g,?_⟩
   rw[Es]
   exact hL6
 obtain⟨l,x3,x4,x5,x6,x7,ys,rfl,e4,hl1,h4,hL4⟩:=hP
 walk_at "rd"
 refine k l ys H4 (e1.free hl1) (e1.trans e4) h4 ?_
 have:((ns.length:Nat):Int).toNat=ns.length:=by omega
 simpa using hL4
def spLaw (K:PySem.W.Frag):Sp:=fun vs H Q _=>∃(a:Addr) (ns:List Int),vs=[.ref a]/\SqL K H a (ns.map V.int)/\ns.length<=63/\∀ H',Q (.bl true) H'
theorem a77 {ns:List Str}{ps:List (Str×Str)}{rows:List (List Str)}(h:RwO ns ps rows ns):Cov ns ps rows:=⟨fun r hr=>⟨h.ne r hr,h.mem r hr,h.ch r hr⟩,h.pm⟩
theorem a89 {K:PySem.W.Frag}{H:Hp}{v u:V}{ns:List Str}{ps:List (Str×Str)}{D:PyData}(hI:Is K H (hfD ns ps) v)(hH:Half ns ps)(h1:Is K H D u)(h2:Dk 20 50000 100 D) :
  ∀ t H' (Q:VK),Same H H'->SqT K H' t [v,u]->Q (.str (PyData.tuple [hfD ns ps,D]).shown) H'->Jt K [.ref t] H' Q:=by
 have hd:=a94 hH
 have hd2:Dk 21 51602 100 (.tuple [hfD ns ps,D]):=Cv (p:=20) ⟨fun e he=>by
  rcases List.mem_cons.mp he with rfl | he
  . exact⟨1600,hd.le (by omega) (by omega)⟩
  . rw[List.mem_singleton.mp he]
    exact⟨50000,h2⟩,by
  have a:=hd.wt
  have b:=h2.wt
  simp only[PyData.weightAll]
  omega,by simp⟩
 obtain⟨t1,t2,t3⟩:=hd2.told (by omega) (by omega)
 exact fun t H' Q e hS k=>Nh (Is.of_tup hS (.cons (Is.mono e _ _ hI) (.one (Is.mono e _ _ h1)))) t1 t2 t3 k
theorem ac6 {K:PySem.W.Frag}{H:Hp}{Q:VK}{m:Nat}(h:m<=3628800)(k:Q (.str (PyData.int (m:Int)).shown) H):Jt K [.int (m:Int)] H Q:=by
 have h0:((m:Int)).natAbs<10 ^ 44:=by
  rw[Int.natAbs_natCast]
  exact Nat.lt_of_le_of_lt h (by decide)
 obtain⟨t1,t2,t3⟩:=(Zx (p:=1) (W:=1) h0).told (by omega) (by omega)
 exact Nh Fv t1 t2 t3 k
theorem ab9 {K:PySem.W.Frag}{H:Hp}{Q:VK}(k:Q (.str (PyData.str "none").shown) H):Jt K [.str "none"] H Q:=by
 have hd:Dk 1 10 1 (.str "none"):=Gi (by unfold Asc;decide +kernel) (by decide +kernel)
 obtain⟨t1,t2,t3⟩:=hd.told (by omega) (by omega)
 exact Nh Bi t1 t2 t3 k
def TgD (e:PyData):Prop:=Dk 20 50000 100 e/\lfs e<=60
theorem X5:∀ e∈[PyData.none,.list [],.tuple [.tuple []]],TgD e:=by
 intro e he
 simp only[List.mem_cons,List.not_mem_nil,or_false] at he
 have h:Dk 3 100 3 e/\lfs e<=2:=by
  rcases he with rfl | rfl | rfl<;>exact⟨⟨by decide +kernel,by decide +kernel,by decide +kernel,by decide +kernel,by decide +kernel,by decide +kernel,by decide +kernel⟩,by decide +kernel⟩
 exact⟨h.1.le (by omega) (by omega),by have:=h.2;omega⟩
theorem K8 {rows:List (List Str)}(h1:∀ r∈rows,∀ z∈r,Jy z=true)(h2:rows.flatten.length<=10)(h3:rows.length<=10):Dk 3 2000 30 (lsD rows)/\lfs (lsD rows)<=10:=by
 refine⟨?_,?_⟩
 . have hr:∀ r∈rows,Dk 2 180 30 (nmD r):=fun r hr=>by
    have h4:r.length<=rows.flatten.length:=(List.sublist_flatten_of_mem hr).length_le
    exact(Cv (Kv (p:=1) (W:=30) (h1 r hr) (by omega))).le (by omega) (by omega)
   refine Cv (p:=2) ⟨fun e he=>?_,?_,by rw[List.length_map];omega⟩
   . obtain⟨r,hm,rfl⟩:=List.mem_map.mp he
     exact⟨180,hr r hm⟩
   have:=M4 (k:=180) (ds:=rows.map nmD) fun e he=>by
    obtain⟨r,hm,rfl⟩:=List.mem_map.mp he
    exact(hr r hm).wt
   rw[List.length_map] at this
   have:=Nat.mul_le_mul h3 (Nat.le_refl 181)
   omega
 unfold lsD
 rw[Dm,Er]
 exact h2
theorem Lz:∀ ns:List Str,(ns.map fun z=>[z]).flatten=ns
 | []=>rfl
 | z :: ns=>by rw[List.map_cons,List.flatten_cons,Lz ns];rfl
theorem U9 {α:Type}(rows:List (List α))(n:Nat):(rows.take n).flatten.length+(rows.drop n).flatten.length=rows.flatten.length:=by
 rw[<- List.length_append,<- List.flatten_append,List.take_append_drop]
theorem aa4 {K:PySem.W.Frag}{H:Hp}{D:PyData}{y:V}(h:Is K H D y)(g:TgD D):ThK K H y (thO D):=.inl ⟨D,h,g.1,g.2,rfl⟩
theorem a07 {f:Addr}{fd:FuncData}(F:Fun K "law" "law" L4 f fd)(T:Fb mg)(c_by_layers:Fnd P w K mg base 3 "by_layers" ["half"] (El K))(c_by_cover:Fnd P w K mg base 3 "by_cover" ["half","chains"] (Fg K))(c__law_feed:Fnd P w K mg base 1 "_law_feed" ["_law_script"] (Ep K))(c__law_half:Fnd P w K mg base 4 "_law_half" ["_law_feed_here","_law_most"] (Ed K))(c__law_orders:Fnd P w K mg base 3 "_law_orders" ["_law_half_here"] (Dq K))(c__law_bent:Fnd P w K mg base 14 "_law_bent" ["_law_feed_here","_law_part","_law_deep"] (Eo K))(c__law_layers:Fnd P w K mg base 3 "_law_layers" ["_law_half_here"] (Cq K))(c__law_is_number:Fnd P w K mg base 1 "_law_is_number" ["_law_thing"] (Cl K))(c__law_shuffles:Fnd P w K mg base 1 "_law_shuffles" ["_law_many"] (Bv K))(c__law_some_cover:Fnd P w K mg base 4 "_law_some_cover" ["_law_feed_here","_law_half_here"] (Cb K))(c__law_told:Fnd P w K mg base 4 "_law_told" ["_law_half_here","_law_thing"] (Ef K))(c__law_due:Fnd P w K mg base 4 "_law_due" ["_law_half_here","_law_thing"] (Fj K)):FnOk P w K mg base CX0 15 f fd ["_law_script"] (spLaw K):=by
 refine F.ok sc_law (fun vs H Q E h=>?_) (fun cdv A outer s H vs Q E hr h=>?_)
 . obtain⟨a,ns,rfl,_⟩:=h
   rfl
 obtain⟨a,ns0,rfl,hS,h63,k⟩:=h
 have hu:=C0 hr
 have hq:=By hr
 with_reducible refine⟨_,(A2 (Aa (i:=1) sc_law.nd (by ac_nf) (by eq_refl) (Ai c__law_feed (hr.mono (by decide)) (by ac_nf) (A0 (pv 0) A1)))
  (A2 (Bl PassesOwn.never (by ac_nf) (Bj (by ac_nf) T.b_range (A0 A3 A1)) (Ab (i:=2) sc_law.nd (by ac_nf) (by eq_refl))
  (A2 (Aa (i:=3) sc_law.nd (by ac_nf) (by eq_refl) (Ai c__law_half (hr.mono (by decide)) (by ac_nf) (A0 (pv 1) (A0 (Ap (A8 (K:=K) hu) (Az (A0 A3 (A0 A3 A1))) (Ae Fc (pv 2) A3) (by ac_rfl)) A1))))
  (A2 (Aa (i:=4) sc_law.nd (by ac_nf) (by eq_refl) A3)
  (A2 (Bl PassesOwn.never (by ac_nf) (Aj (K:=K) hu (Ai c__law_layers (hr.mono (by decide)) (by ac_nf) (A0 (pv 3) A1))) (Ab (i:=5) sc_law.nd (by ac_nf) (by eq_refl))
  (A5 (Aa (i:=4) sc_law.nd (by ac_nf) (by eq_refl) (Ae C9 (pv 4) (Ai c__law_shuffles (hr.mono (by decide)) (by ac_nf) (A0 (A7 (Ah (K:=K)) (by ac_nf) T.b_len PyProof.Rows.Boot.«len» (A0 (pv 5) A1)) A1))))))
  (A2 (C1 (PW.pt (K3 (Eb (Cu (Ai c__law_is_number (hr.mono (by decide)) (by ac_nf) (A0 (Ai c_by_layers (hr.mono (by decide)) (by ac_nf) (A0 (pv 3) A1)) A1)))) (Iq (Ag (Id (K:=K) hq) (Ai c_by_layers (hr.mono (by decide)) (by ac_nf) (A0 (pv 3) A1)) (pv 4) (Aq _))))) (A5 (Am Ey)) An)
  (A2 (Aa (i:=6) sc_law.nd (by ac_nf) (by eq_refl) (Ai c__law_some_cover (hr.mono (by decide)) (by ac_nf) (A0 (pv 1) (A0 (pv 3) A1))))
  (A2 (Aa (i:=7) sc_law.nd (by ac_nf) (by eq_refl) (Az (A0 (pv 6) (A0 (Ao (Bk (K:=K)) (by ac_nf) T.b_tuple PyProof.Rows.Boot.«tuple» (A0 (Bh ["_law_name"] [] [] (by ac_nf) (by ac_nf) (by ac_nf) (Aj (K:=K) hu (Ap (A8 (K:=K) hu) (pv 3) A3 (by ac_rfl))) (fun _ _ _ _=>(Ab (i:=0) (by with_unfolding_all (show(["_law_name"]:List Str).Nodup;decide +kernel)) (by ac_nf) (by eq_refl))) (Av (by decide)) (fun _ _ _ _=>Br) (fun _ _ _ _=>(B1 (A0 (pv 0) A1)))) A1)) (A0 (Au (K4 (K:=K)) (pv 6) (B3 A3) Bz) (A0 (Ai c__law_bent (hr.mono (by decide)) (by ac_nf) (A0 (pv 1) (A0 (pv 6) (A0 A3 A1)))) (A0 Te (A0 (Az A1) (A0 (B1 (A0 (B1 A1) A1)) A1)))))))))
  (A2 (Bl PassesOwn.never (by ac_nf) (Aj (K:=K) hu (Ae (Ac (K:=K)) (pv 7) (Az (A0 (Ai c__law_some_cover (hr.mono (by decide)) (by ac_nf) (A0 (pv 1) (A0 (pv 3) A1))) A1)))) (Ab (i:=8) sc_law.nd (by ac_nf) (by eq_refl))
  (A2 (Aa (i:=9) sc_law.nd (by ac_nf) (by eq_refl) (A7 (Dw (K:=K) hq) (by ac_nf) T.b_repr PyProof.Rows.Boot.«repr» (A0 (B1 (A0 (pv 3) (A0 (pv 8) A1))) A1)))
  (A5 (C1 (PW.pt (K3 (Ag (Id (K:=K) hq) (A7 (Dw (K:=K) hq) (by ac_nf) T.b_repr PyProof.Rows.Boot.«repr» (A0 (Ai c__law_told (hr.mono (by decide)) (by ac_nf) (A0 (pv 3) (A0 (pv 8) A1))) A1)) (A7 (Dw (K:=K) hq) (by ac_nf) T.b_repr PyProof.Rows.Boot.«repr» (A0 (Ai c__law_due (hr.mono (by decide)) (by ac_nf) (A0 (pv 3) (A0 (pv 8) A1))) A1)) (Aq _)) (Iq (Ag (Id (K:=K) hq) (A7 (Dw (K:=K) hq) (by ac_nf) T.b_repr PyProof.Rows.Boot.«repr» (A0 (B1 (A0 (pv 3) (A0 (pv 8) A1))) A1)) (pv 9) (Aq _))))) (A5 (Am Ey)) An))))
  (A5 (C1 (Ag (Bt (K:=K) hq) (Ae Fc (pv 2) A3) A3 (Aq _)) (A2 (Aa (i:=10) sc_law.nd (by ac_nf) (by eq_refl) (A7 (Ah (K:=K)) (by ac_nf) T.b_len PyProof.Rows.Boot.«len» (A0 (Ai c__law_orders (hr.mono (by decide)) (by ac_nf) (A0 (pv 3) A1)) A1)))
  (A5 (C1 (PW.pt (K3 (Ag S8 (pv 4) (pv 10) (Aq _)) (Iq (Ag Wt (Ai c_by_cover (hr.mono (by decide)) (by ac_nf) (A0 (pv 3) (A0 (pv 6) A1))) (pv 10) (Aq _))))) (A5 (Am Ey)) An))) An))))))))))
  (A5 (Am (R5 (D0 (Bt (K:=K) hq) (Ai c_by_layers (hr.mono (by decide)) (by ac_nf) (A0 (B1 (A0 (B1 A1) (A0 (B1 A1) A1))) A1)) A3 (Aq _)) (Qq (D0 (Bt (K:=K) hq) (Ai c_by_cover (hr.mono (by decide)) (by ac_nf) (A0 (B1 (A0 (B1 A1) (A0 (B1 A1) A1))) (A0 (B1 A1) A1))) A3 (Aq _)))))))),?_⟩
 walk_at "rd"
 refine⟨a,ns0,rfl,hS,h63,fun d l H1 hd hl e1 hF=>?_⟩
 walk_at "rd"
 refine Ee (by omega) ?_
 refine D4 Ax (fun i σ H2=>∃ x2 x3 x4 x5 x6 x7 x8 x9 x10,σ=[some (.ref a),some (.ref d),x2,x3,x4,x5,x6,x7,x8,x9,x10]/\Feed H2 d l) ⟨_,_,_,_,_,_,_,_,_,rfl,hF⟩ (fun _ _ _ _=>trivial) (fun i x σ H2 hx hi hP=>?_) (fun σ H2 hP=>?_)
 . obtain⟨x2,x3,x4,x5,x6,x7,x8,x9,x10,rfl,hF2⟩:=hP
   obtain⟨rfl,hi4⟩:=Ci hx
   walk_at "rd"
   refine B2 (A6 (by simp)) fun p3 H3 hp3 e3 h3=>?_
   obtain⟨n,hn1,hn2,hn3⟩:∃ n:Nat,atI [V.int 10,.int 5] ((0+(i:Int)) % 2)=some (.int (n:Int))/\n<=10/\((0+(i:Int)) % 2=1->n=5):=by
    rcases(by omega:(0+(i:Int)) % 2=0\/(0+(i:Int)) % 2=1) with e | e
    . rw[e]
      exact⟨10,rfl,by omega,fun h=>by cases h⟩
    rw[e]
    exact⟨5,rfl,by omega,fun _=>rfl⟩
   walk_at "rd"
   refine Fo h3 hn1 ?_
   walk_at "rd"
   refine⟨d,l,_,rfl,hF2.same e3,by omega,by omega,fun v ns ps H4 e4 hF4 hI4 hH hl4=>?_⟩
   have h10:=hH.few
   have hW:=hH.w
   walk_at "rd"
   refine⟨v,ns,ps,rfl,hI4,hH,fun u5 H5 Ls e5 hLs hU5=>?_⟩
   have hLm:=hLs.mem
   refine M5 hU5 (Ca Ls) (fun j σ H6=>∃ y5,σ=[some (.ref a),some (.ref d),some (.int (0+(i:Int))),some v,some (.int ((Fa (Ls.take j):Nat):Int)),y5,x6,x7,x8,x9,x10]/\H6=H5) ⟨_,rfl,rfl⟩ (fun j σ' H' hP=>?_) (fun j D y σ' H6 hD hy hP=>?_) (fun σ' H6 hP=>?_)
   . obtain⟨_,_,rfl⟩:=hP
     exact .refl _
   . obtain⟨y5,rfl,rfl⟩:=hP
     rw[List.getElem?_map] at hD
     obtain⟨r,hr,rfl⟩:=Option.map_eq_some_iff.mp hD
     have hr2:=(hLm r (List.mem_of_getElem? hr)).1
     have hf2:fac r.length<=3628800:=Nat.le_trans (Io (n:=10) (by omega)) (by decide)
     walk_at "rd"
     refine Fd hy ?_
     walk_at "rd"
     refine⟨r.length,rfl,by omega,?_⟩
     walk_at "rd"
     refine⟨some y,?_,rfl⟩
     rw[List.take_add_one,hr,show(some r).toList=[r] from rfl,Mk,Int.natCast_mul]
     rfl
   obtain⟨y5,rfl,rfl⟩:=hP
   rw[List.length_map,List.take_length]
   have hI5:=hI4.hf_fz e5.fz
   walk_at "rd"
   refine⟨v,ns,ps,rfl,hI5,hW,h10,fun H7 Ls7 e7 hLs7=>?_⟩
   have:=hLs7.det hLs
   subst this
   walk_at "rd"
   refine⟨_,rfl,?_⟩
   walk_at "rd"
   refine⟨v,ns,ps,rfl,hI5.hf_fz e7.fz,hW,h10,fun H8 Ls8 e8 hLs8=>?_⟩
   have:=hLs8.det hLs7
   subst this
   walk_at "rd"
   have e48:=(e5.trans e7).trans e8
   have hF8:=hF4.same e48
   have hI8:=hI4.hf_fz e48.fz
   refine⟨d,l,v,ns,ps,rfl,hF8,hI8,hH,fun u rows H9 e9 hF9 hU9 hR=>?_⟩
   have hC:=a77 hR
   have hI9:=hI8.hf_fz (hF8.fz e9)
   have hrn:∀ r∈rows,∀ z∈r,Jy z=true:=fun r hr z hz=>hH.names.2 z (hR.mem r hr z hz)
   have hrf:=hR.few
   have hrl:=hR.len
   have hcut:=U9 rows 1
   obtain⟨hDk,hlf⟩:=K8 hrn (by omega) (by omega)
   obtain⟨ua,xs,rfl,hSu,hXu⟩:=hU9.tup
   have hxl:xs.length=rows.length:=by rw[<- IsL.length hXu,List.length_map]
   walk_at "rd"
   refine Do hI9 fun nv hN9=>?_
   refine T0 hN9 (fun _=>true) (fun z=>nmD [z]) (fun z=>P7 _) (by omega) (fun j z H10 R R' hz e10 hR hR'=>?_) (fun q10 ys10 H10 hq10 e10 h10' hL10=>?_)
   . walk_at "rd"
     refine At (A6 (by simp)) fun t H11 ht e11 h11=>hR rfl _ _ e11 (J0 (ns:=[z]) (SqT.of h11))
   rw[Bm,show ns.map (fun z=>nmD [z])=(ns.map fun z=>[z]).map nmD by rw[List.map_map];rfl] at hL10
   walk_at "rd"
   refine Ku h10' hL10 fun w11 H11 e11 hw11=>?_
   have e911:=e10.trans e11
   walk_at "rd"
   refine Na (e911.seqT hSu) fun q12 H12 e12 h12=>?_
   rw[Hw (by omega)] at h12
   have e912:=e911.trans e12
   have hF12:=hF9.same e912
   have hU12:Is K H12 (lsD rows) (.ref ua):=Is.mono e912 _ _ hU9
   walk_at "rd"
   refine⟨d,l,_,_,3,2000,30,10,3,rfl,hF12,hU12,hDk,by omega,by omega,by omega,hlf,by omega,fun v' D' H13 e13 hF13 hI13 hD13 hl13=>?_⟩
   walk_at "rd"
   refine B2 (A6 (by simp)) fun t14 H14 ht14 e14 h14=>?_
   walk_at "rd"
   refine At (A6 (by simp)) fun t15 H15 ht15 e15 h15=>?_
   walk_at "rd"
   refine At (A6 (by simp)) fun t16 H16 ht16 e16 h16=>?_
   walk_at "rd"
   refine B2 (A6 (by simp)) fun p17 H17 hp17 e17 h17=>?_
   have s16:=e17
   have s15:=e16.trans s16
   have s14:=e15.trans s15
   have s13:=e14.trans s14
   obtain⟨kvs,hd12⟩:∃ kvs,H12 d=some (.dK kvs):=let ⟨_,_,_,_,h1,_⟩:=hF12;⟨_,h1⟩
   have fz1217:Fz H12 H17:=(hF12.fz e13).trans s13.fz
   have hall:IsL K H17 [lsD rows,lsD (ns.map fun z=>[z]),lsD (rows.drop 1),D',PyData.none,.list [],.tuple [.tuple []]] [.ref ua,w11,.ref q12,v',.non,.ref t14,.ref t16]:=by
    refine .cons (Is.fz fz1217 _ _ (Mt rows) hU12) (.cons (Is.fz (e12.fz.trans fz1217) _ _ (Mt _) hw11) (.cons (Is.fz fz1217 _ _ (Mt _) (Is.of_tup h12 ?_)) (.cons (Is.mono s13 _ _ hI13) (.cons (by simp only[Is]) (.cons (Is.of_lst (SqL.of (s14 _ _ h14)) .nil) (.one (Is.of_tup (SqT.of (s16 _ _ h16)) (.one (Is.of_tup (SqT.of (s15 _ _ h15)) .nil)))))))))
    rw[List.map_drop]
    exact IsL.drop _ (IsL.mono e912 _ _ hXu)
   have hok:∀ e∈[lsD rows,lsD (ns.map fun z=>[z]),lsD (rows.drop 1),D',PyData.none,.list [],.tuple [.tuple []]],TgD e:=fun e he=>by
    simp only[List.mem_cons,List.not_mem_nil,or_false] at he
    rcases he with rfl | rfl | rfl | rfl | he
    . exact⟨hDk.le (by omega) (by omega),by omega⟩
    . have h:=K8 (rows:=ns.map fun z=>[z]) (fun r hr z hz=>by
       obtain⟨y,hy,rfl⟩:=List.mem_map.mp hr
       rw[List.mem_singleton.mp hz]
       exact hH.names.2 y hy) (by rw[Lz];omega) (by rw[List.length_map];omega)
      exact⟨h.1.le (by omega) (by omega),by have:=h.2;omega⟩
    . have h:=K8 (rows:=rows.drop 1) (fun r hr=>hrn r (List.mem_of_mem_drop hr)) (by omega) (by rw[List.length_drop];omega)
      exact⟨h.1.le (by omega) (by omega),by have:=h.2;omega⟩
    . exact⟨hD13.le (by omega) (by omega),by omega⟩
    exact X5 e (by simpa using he)
   have hF17:=hF13.same s13
   have hI17:=(hI9.hf_fz e912.fz).hf_fz fz1217
   have hU17:Is K H17 (lsD rows) (.ref ua):=Is.fz fz1217 _ _ (Mt rows) hU12
   clear h14 h15 h16 h12 hw11 hL10 h10' hXu hSu
   walk_at "rd"
   refine⟨d,l,v,ns,ps,rfl,hF17,hI17,hH,fun u18 rows18 H18 e18 hF18 hU18 hR18=>?_⟩
   walk_at "rd"
   refine B2 (A6 (by simp)) fun p19 H19 hp19 e19 h19=>?_
   walk_at "rd"
   have h18:=e18 _ _ (hF17.lst h17) h17
   refine Js (e19 _ _ h18) h19 (A6 (by simp)) fun p20 H20 hp20 e20 h20=>?_
   obtain⟨kv17,hd17⟩:∃ kvs,H17 d=some (.dK kvs):=let ⟨_,_,_,_,h1,_⟩:=hF17;⟨_,h1⟩
   have e1820:=e19.trans e20
   have hrn18:∀ r∈rows18,∀ z∈r,Jy z=true:=fun r hr z hz=>hH.names.2 z (hR18.mem r hr z hz)
   have hall2:IsL K H20 ([lsD rows,lsD (ns.map fun z=>[z]),lsD (rows.drop 1),D',PyData.none,.list [],.tuple [.tuple []]]++[lsD rows18]) ([.ref ua,w11,.ref q12,v',.non,.ref t14,.ref t16]++[u18]):=
    IsL.append (IsL.mono e1820 _ _ (IsL.off hd17 e18 _ _ hall)) (.one (Is.mono e1820 _ _ hU18))
   have hok2:∀ e∈[lsD rows,lsD (ns.map fun z=>[z]),lsD (rows.drop 1),D',PyData.none,.list [],.tuple [.tuple []]]++[lsD rows18],TgD e:=fun e he=>by
    rcases List.mem_append.mp he with he | he
    . exact hok e he
    rw[List.mem_singleton.mp he]
    have f1:=hR18.few
    have f2:=hR18.len
    have h:=K8 hrn18 (by omega) (by omega)
    exact⟨h.1.le (by omega) (by omega),by have:=h.2;omega⟩
   have hI20:=hI17.hf_fz ((hF17.fz e18).trans e1820.fz)
   have hU20:Is K H20 (lsD rows) (.ref ua):=Is.fz ((hF17.fz e18).trans e1820.fz) _ _ (Mt rows) hU17
   have hF20:=hF18.same e1820
   generalize hxv:[V.ref ua,w11,.ref q12,v',.non,.ref t14,.ref t16]++[u18]=xv at h20 hall2
   generalize hev:[lsD rows,lsD (ns.map fun z=>[z]),lsD (rows.drop 1),D',PyData.none,.list [],.tuple [.tuple []]]++[lsD rows18]=ev at hall2 hok2
   clear hall hok h17 h18 h19
   walk_at "rd"
   refine Je (SqL.of h20) ?_
   refine D4 (Bu (xs:=xv)) (fun j σ H21=>∃ y8 y9,σ=[some (.ref a),some (.ref d),some (.int (0+(i:Int))),some v,some (.int ((Fa Ls8:Nat):Int)),y5,some (.ref ua),some (.ref p17),y8,y9,x10]/\Same H20 H21) ⟨_,_,rfl,.refl _⟩ (fun j σ' H' hP=>?_) (fun j y σ' H21 hy hj hP=>?_) (fun σ' H21 hP=>?_)
   . obtain⟨_,_,_,e⟩:=hP
     exact SqL.of (e _ _ h20)
   . obtain⟨y8,y9,rfl,e21⟩:=hP
     obtain⟨D,hD,hIy⟩:=IsL.get hall2 hy
     have hT:=hok2 D (List.mem_of_getElem? hD)
     have hrep:=a89 hI20 hH hIy hT.1
     have hTh:∀ {H'},Same H20 H'->ThK K H' y (thO D):=fun {H'} e=>aa4 (Is.mono e _ _ hIy) hT
     walk_at "rd"
     refine At (A6 (by simp)) fun t22 H22 ht22 e22 h22=>?_
     have e2:=e21.trans e22
     walk_at "rd"
     refine hrep t22 H22 _ e2 (SqT.of h22) ?_
     walk_at "rd"
     by_cases hcv:CvO ns ps (thO D)
     . obtain⟨rws,ho,hC2⟩:∃ rws:List (List Str),thO D=some (rws.map nmD)/\Cov ns ps rws:=by
        cases ht:thO D with
        | none=>rw[ht] at hcv;exact hcv.elim
        | some ds=>
          rw[ht] at hcv
          obtain⟨rws,rfl,h1,h2⟩:=hcv
          exact⟨rws,rfl,h1,h2⟩
       have hm:fac ns.length / Fa rws<=3628800:=Nat.le_trans (Nat.div_le_self _ _) (Nat.le_trans (Io h10) (by decide))
       refine⟨v,y,ns,ps,thO D,rfl,hI20.hf_fz e2.fz,hH,hTh e2,fun rw2 ho2 _ H23 e23=>?_,fun hno=>absurd hcv hno⟩
       have:rw2=rws:=by
        rw[ho] at ho2
        injection ho2 with ho2
        exact((List.map_inj_right fun _ _=>Ih).mp ho2).symm
       subst this
       have e3:=e2.trans e23
       walk_at "rd"
       refine ac6 hm ?_
       walk_at "rd"
       refine⟨v,y,ns,ps,thO D,rfl,hI20.hf_fz e3.fz,hH,hTh e3,fun rw3 ho3 _ H24 e24=>?_,fun hno=>absurd hcv hno⟩
       have:rw3=rw2:=by
        rw[ho] at ho3
        injection ho3 with ho3
        exact((List.map_inj_right fun _ _=>Ih).mp ho3).symm
       subst this
       have e4:=e3.trans e24
       walk_at "rd"
       refine ac6 hm ?_
       walk_at "rd"
       refine At (A6 (by simp)) fun t25 H25 ht25 e25 h25=>?_
       walk_at "rd"
       refine hrep t25 H25 _ (e4.trans e25) (SqT.of h25) ?_
       walk_at "rd"
       exact⟨_,_,rfl,e4.trans e25⟩
     have no:∀(rws:List (List Str)),thO D=some (rws.map nmD)->¬ Cov ns ps rws:=fun rws ho hC2=>hcv (by rw[ho];exact⟨rws,rfl,hC2.1,hC2.2⟩)
     refine⟨v,y,ns,ps,thO D,rfl,hI20.hf_fz e2.fz,hH,hTh e2,fun rw2 ho2 hc2=>absurd hc2 (no rw2 ho2),fun _ H23 e23=>?_⟩
     have e3:=e2.trans e23
     walk_at "rd"
     refine ab9 ?_
     walk_at "rd"
     refine⟨v,y,ns,ps,thO D,rfl,hI20.hf_fz e3.fz,hH,hTh e3,fun rw2 ho2 hc2=>absurd hc2 (no rw2 ho2),fun _ H24 e24=>?_⟩
     have e4:=e3.trans e24
     walk_at "rd"
     refine ab9 ?_
     walk_at "rd"
     refine At (A6 (by simp)) fun t25 H25 ht25 e25 h25=>?_
     walk_at "rd"
     refine hrep t25 H25 _ (e4.trans e25) (SqT.of h25) ?_
     walk_at "rd"
     exact⟨_,_,rfl,e4.trans e25⟩
   obtain⟨y8,y9,rfl,e21⟩:=hP
   have hI21:=hI20.hf_fz e21.fz
   have hU21:Is K H21 (lsD rows) (.ref ua):=Is.mono e21 _ _ hU20
   walk_at "rd"
   refine Jc (fun hc=>?_) (fun hc=>?_)
   . have hn5:n=5:=hn3 (by injection hc)
     walk_at "rd"
     refine⟨v,ns,ps,rfl,hI21,hH,by omega,fun l22 ys22 H22 hl22 e22 h22 hL22=>?_⟩
     have hlen:ys22.length=cnt (Cc ps) ns:=by rw[<- IsL.length hL22,List.length_map,Ul]
     have hlow:Fa Ls8<=cnt (Cc ps) ns:=Q1 hLs8 hH.names.1
     have hhigh:cnt (Cc ps) ns<=fac ns.length / Fa rows:=(Nat.le_div_iff_mul_le (Hi rows)).mpr (N9 hH hC).1
     walk_at "rd"
     rw[hlen]
     refine Jc (fun hc=>absurd hc (by omega)) (fun _=>?_)
     walk_at "rd"
     refine⟨v,_,ns,ps,rows,rfl,hI21.hf_fz e22.fz,hH,Is.mono e22 _ _ hU21,hC,fun H23 e23=>?_⟩
     walk_at "rd"
     refine Jc (fun hc=>absurd hc (by omega)) (fun _=>?_)
     walk_at "rd"
     exact⟨_,_,_,_,_,_,_,_,_,rfl,hF20.same ((e21.trans e22).trans e23)⟩
   walk_at "rd"
   exact⟨_,_,_,_,_,_,_,_,_,rfl,hF20.same e21⟩
 obtain⟨x2,x3,x4,x5,x6,x7,x8,x9,x10,rfl,hF2⟩:=hP
 walk_at "rd"
 refine At (A6 (by simp)) fun t3 H3 ht3 e3 h3=>?_
 walk_at "rd"
 refine At (A6 (by simp)) fun t4 H4 ht4 e4 h4=>?_
 walk_at "rd"
 refine At (A6 (by simp)) fun t5 H5 ht5 e5 h5=>?_
 walk_at "rd"
 refine⟨.ref t5,[],[],rfl,Xh (SqT.of h5) (J0 (SqT.of (e5 _ _ (e4 _ _ h3)))) (Is.of_tup (SqT.of (e5 _ _ h4)) .nil),half_nil.w,by decide,fun H6 Ls e6 hLs=>?_⟩
 have:Ls=[]:=hLs.det .nil
 subst this
 rw[show((Fa ([]:List (List Str)):Nat):Int)=1 from rfl]
 walk_at "rd"
 refine At (A6 (by simp)) fun t7 H7 ht7 e7 h7=>?_
 walk_at "rd"
 refine At (A6 (by simp)) fun t8 H8 ht8 e8 h8=>?_
 walk_at "rd"
 refine At (A6 (by simp)) fun t9 H9 ht9 e9 h9=>?_
 walk_at "rd"
 refine At (A6 (by simp)) fun t10 H10 ht10 e10 h10=>?_
 walk_at "rd"
 refine⟨.ref t9,.ref t10,[],[],[],rfl,Xh (SqT.of (e10 _ _ h9)) (J0 (SqT.of (e10 _ _ (e9 _ _ (e8 _ _ h7))))) (Is.of_tup (SqT.of (e10 _ _ (e9 _ _ h8))) .nil),half_nil,Is.of_tup (SqT.of h10) .nil,⟨fun r h=>(by cases h),.nil⟩,fun H11 e11=>?_⟩
 rw[show((fac ([]:List Str).length / Fa ([]:List (List Str)):Nat):Int)=1 from rfl]
 walk_at "rd"
 exact k H11
end
theorem all_mk {l:PySem.W.OpenLaw}{w:World}{K:PySem.W.Frag}{h:Heap}{mg:Str->Option Value}{fa f0 f1 f2 f3 f4 f5 f6 f7 f8 f9 f10 f11 f12 f13 f14 f15 f16 f17 f18 f19 f20 f21 f22 f23 f24 f25 f26 f27 f28 f29 C_HalfError C_NoName C_NoCover C_NoOrder:Addr}(X:K.In h)(G:h.Ns mainGlobals mg)(hfa:mg "law" = some (.ref fa))
  {od0 an0 od1 an1 od2 an2 od3 an3 od4 an4 od5 an5 od6 an6 od7 an7 od8 an8 od9 an9 od10 an10 od11 an11 od12 an12 od13 an13 od14 an14 od15 an15 od16 an16 od17 an17 od18 an18 od19 an19 od20 an20 od21 an21 od22 an22 od23 an23 od24 an24 od25 an25 od26 an26 od27 an27 od28 an28 od29 an29:Option Addr} {sl0 sl1 sl2 sl3 sl4 sl5 sl6 sl7 sl8 sl9 sl10 sl11 sl12 sl13 sl14 sl15 sl16 sl17 sl18 sl19 sl20 sl21 sl22 sl23 sl24 sl25 sl26 sl27 sl28 sl29:Array (Option Value)} {oc0 kV0 dc0 pm0 cd0 ct0 oc1 kV1 dc1 pm1 cd1 ct1 oc2 kV2 dc2 pm2 cd2 ct2 oc3 kV3 dc3 pm3 cd3 ct3 oc4 kV4 dc4 pm4 cd4 ct4 oc5 kV5 dc5 pm5 cd5 ct5 oc6 kV6 dc6 pm6 cd6 ct6 oc7 kV7 dc7 pm7 cd7 ct7 oc8 kV8 dc8 pm8 cd8 ct8 oc9 kV9 dc9 pm9 cd9 ct9 oc10 kV10 dc10 pm10 cd10 ct10 oc11 kV11 dc11 pm11 cd11 ct11 oc12 kV12 dc12 pm12 cd12 ct12 oc13 kV13 dc13 pm13 cd13 ct13 oc14 kV14 dc14 pm14 cd14 ct14 oc15 kV15 dc15 pm15 cd15 ct15 oc16 kV16 dc16 pm16 cd16 ct16 oc17 kV17 dc17 pm17 cd17 ct17 oc18 kV18 dc18 pm18 cd18 ct18 oc19 kV19 dc19 pm19 cd19 ct19 oc20 kV20 dc20 pm20 cd20 ct20 oc21 kV21 dc21 pm21 cd21 ct21 oc22 kV22 dc22 pm22 cd22 ct22 oc23 kV23 dc23 pm23 cd23 ct23 oc24 kV24 dc24 pm24 cd24 ct24 oc25 kV25 dc25 pm25 cd25 ct25 oc26 kV26 dc26 pm26 cd26 ct26 oc27 kV27 dc27 pm27 cd27 ct27 oc28 kV28 dc28 pm28 cd28 ct28 oc29 kV29 dc29 pm29 cd29 ct29:Value}
  (cg:PySem.W.specialIn K (.builtin "object.__class__") "__get__" = some (some (.builtin "getset_descriptor.__get__"))) (ct:PySem.W.takesIn K (.builtin "object.__class__")=some true)
  (aX_HalfError:PySem.W.nsIn K mainGlobals "HalfError" = some (some (.ref C_HalfError)))
  (aX_NoName:PySem.W.nsIn K mainGlobals "NoName" = some (some (.ref C_NoName)))
  (aX_NoCover:PySem.W.nsIn K mainGlobals "NoCover" = some (some (.ref C_NoCover)))
  (aX_NoOrder:PySem.W.nsIn K mainGlobals "NoOrder" = some (some (.ref C_NoOrder)))
  (ex_HalfError:Xf K C_HalfError=true) (sX_HalfError:PySem.W.findIn K (.ref C_HalfError) "__setattr__" = some (some (.builtin "object.__setattr__"))) (gX_HalfError:PySem.W.findIn K (.ref C_HalfError) "__getattribute__" = some (some (.builtin "BaseException.__getattribute__"))) (tX_HalfError:PySem.W.findIn K (.ref C_HalfError) "__getattr__" = some none) (lX_HalfError:PySem.W.findIn K (.ref C_HalfError) "__class__" = some (some (.builtin "object.__class__")))
  (no_HalfError:Qp K C_HalfError=true)
  (kX_HalfError:PySem.W.keepIn K (.ref C_HalfError)=true)
  (ex_NoName:Xf K C_NoName=true) (sX_NoName:PySem.W.findIn K (.ref C_NoName) "__setattr__" = some (some (.builtin "object.__setattr__"))) (gX_NoName:PySem.W.findIn K (.ref C_NoName) "__getattribute__" = some (some (.builtin "BaseException.__getattribute__"))) (tX_NoName:PySem.W.findIn K (.ref C_NoName) "__getattr__" = some none) (lX_NoName:PySem.W.findIn K (.ref C_NoName) "__class__" = some (some (.builtin "object.__class__")))
  (mr_NoName:Km K C_NoName C_HalfError=true)
  (kX_NoName:PySem.W.keepIn K (.ref C_NoName)=true)
  (nX_NoName_name:PySem.W.findIn K (.ref C_NoName) "name" = some none)
  (ex_NoCover:Xf K C_NoCover=true) (sX_NoCover:PySem.W.findIn K (.ref C_NoCover) "__setattr__" = some (some (.builtin "object.__setattr__"))) (gX_NoCover:PySem.W.findIn K (.ref C_NoCover) "__getattribute__" = some (some (.builtin "BaseException.__getattribute__"))) (tX_NoCover:PySem.W.findIn K (.ref C_NoCover) "__getattr__" = some none) (lX_NoCover:PySem.W.findIn K (.ref C_NoCover) "__class__" = some (some (.builtin "object.__class__")))
  (mr_NoCover:Km K C_NoCover C_HalfError=true)
  (no_NoCover:Qp K C_NoCover=true)
  (kX_NoCover:PySem.W.keepIn K (.ref C_NoCover)=true)
  (ex_NoOrder:Xf K C_NoOrder=true) (sX_NoOrder:PySem.W.findIn K (.ref C_NoOrder) "__setattr__" = some (some (.builtin "object.__setattr__"))) (gX_NoOrder:PySem.W.findIn K (.ref C_NoOrder) "__getattribute__" = some (some (.builtin "BaseException.__getattribute__"))) (tX_NoOrder:PySem.W.findIn K (.ref C_NoOrder) "__getattr__" = some none) (lX_NoOrder:PySem.W.findIn K (.ref C_NoOrder) "__class__" = some (some (.builtin "object.__class__")))
  (mr_NoOrder:Km K C_NoOrder C_HalfError=true)
  (no_NoOrder:Qp K C_NoOrder=true)
  (kX_NoOrder:PySem.W.keepIn K (.ref C_NoOrder)=true)
  (ndX:([C_HalfError,C_NoCover,C_NoName,C_NoOrder]:List Addr).Nodup)
  (a0:PySem.W.nsIn K mainGlobals "behind_each" = some (some (.ref f0))) (l0:K.lookup f0=some ⟨oc0,od0,.func (PySem.W.fnOf "behind_each" "behind_each" (Af Bp) (Ad Bp) (A4 Bp) .none kV0 dc0 pm0 an0 cd0 ct0),sl0⟩) (c0:PySem.W.codeIn K cd0 "behind_each" = true) (k0:PySem.W.keepIn K (.ref f0)=true)
  (a1:PySem.W.nsIn K mainGlobals "is_chain" = some (some (.ref f1))) (l1:K.lookup f1=some ⟨oc1,od1,.func (PySem.W.fnOf "is_chain" "is_chain" (Af Db) (Ad Db) (A4 Db) .none kV1 dc1 pm1 an1 cd1 ct1),sl1⟩) (c1:PySem.W.codeIn K cd1 "is_chain" = true) (k1:PySem.W.keepIn K (.ref f1)=true)
  (a2:PySem.W.nsIn K mainGlobals "is_cover" = some (some (.ref f2))) (l2:K.lookup f2=some ⟨oc2,od2,.func (PySem.W.fnOf "is_cover" "is_cover" (Af Dd) (Ad Dd) (A4 Dd) .none kV2 dc2 pm2 an2 cd2 ct2),sl2⟩) (c2:PySem.W.codeIn K cd2 "is_cover" = true) (k2:PySem.W.keepIn K (.ref f2)=true)
  (a3:PySem.W.nsIn K mainGlobals "has_none_ahead" = some (some (.ref f3))) (l3:K.lookup f3=some ⟨oc3,od3,.func (PySem.W.fnOf "has_none_ahead" "has_none_ahead" (Af B6) (Ad B6) (A4 B6) .none kV3 dc3 pm3 an3 cd3 ct3),sl3⟩) (c3:PySem.W.codeIn K cd3 "has_none_ahead" = true) (k3:PySem.W.keepIn K (.ref f3)=true)
  (a4:PySem.W.nsIn K mainGlobals "layers" = some (some (.ref f4))) (l4:K.lookup f4=some ⟨oc4,od4,.func (PySem.W.fnOf "layers" "layers" (Af Ex) (Ad Ex) (A4 Ex) .none kV4 dc4 pm4 an4 cd4 ct4),sl4⟩) (c4:PySem.W.codeIn K cd4 "layers" = true) (k4:PySem.W.keepIn K (.ref f4)=true)
  (a5:PySem.W.nsIn K mainGlobals "product" = some (some (.ref f5))) (l5:K.lookup f5=some ⟨oc5,od5,.func (PySem.W.fnOf "product" "product" (Af Ds) (Ad Ds) (A4 Ds) .none kV5 dc5 pm5 an5 cd5 ct5),sl5⟩) (c5:PySem.W.codeIn K cd5 "product" = true) (k5:PySem.W.keepIn K (.ref f5)=true)
  (a6:PySem.W.nsIn K mainGlobals "product_up_to" = some (some (.ref f6))) (l6:K.lookup f6=some ⟨oc6,od6,.func (PySem.W.fnOf "product_up_to" "product_up_to" (Af Bb) (Ad Bb) (A4 Bb) .none kV6 dc6 pm6 an6 cd6 ct6),sl6⟩) (c6:PySem.W.codeIn K cd6 "product_up_to" = true) (k6:PySem.W.keepIn K (.ref f6)=true)
  (a7:PySem.W.nsIn K mainGlobals "by_layers" = some (some (.ref f7))) (l7:K.lookup f7=some ⟨oc7,od7,.func (PySem.W.fnOf "by_layers" "by_layers" (Af Cj) (Ad Cj) (A4 Cj) .none kV7 dc7 pm7 an7 cd7 ct7),sl7⟩) (c7:PySem.W.codeIn K cd7 "by_layers" = true) (k7:PySem.W.keepIn K (.ref f7)=true)
  (a8:PySem.W.nsIn K mainGlobals "by_cover" = some (some (.ref f8))) (l8:K.lookup f8=some ⟨oc8,od8,.func (PySem.W.fnOf "by_cover" "by_cover" (Af Cg) (Ad Cg) (A4 Cg) .none kV8 dc8 pm8 an8 cd8 ct8),sl8⟩) (c8:PySem.W.codeIn K cd8 "by_cover" = true) (k8:PySem.W.keepIn K (.ref f8)=true)
  (a9:PySem.W.nsIn K mainGlobals "_law_feed" = some (some (.ref f9))) (l9:K.lookup f9=some ⟨oc9,od9,.func (PySem.W.fnOf "_law_feed" "_law_feed" (Af Ce) (Ad Ce) (A4 Ce) .none kV9 dc9 pm9 an9 cd9 ct9),sl9⟩) (c9:PySem.W.codeIn K cd9 "_law_feed" = true) (k9:PySem.W.keepIn K (.ref f9)=true)
  (a10:PySem.W.nsIn K mainGlobals "_law_draw" = some (some (.ref f10))) (l10:K.lookup f10=some ⟨oc10,od10,.func (PySem.W.fnOf "_law_draw" "_law_draw" (Af Cn) (Ad Cn) (A4 Cn) .none kV10 dc10 pm10 an10 cd10 ct10),sl10⟩) (c10:PySem.W.codeIn K cd10 "_law_draw" = true) (k10:PySem.W.keepIn K (.ref f10)=true)
  (a11:PySem.W.nsIn K mainGlobals "_law_names" = some (some (.ref f11))) (l11:K.lookup f11=some ⟨oc11,od11,.func (PySem.W.fnOf "_law_names" "_law_names" (Af C3) (Ad C3) (A4 C3) .none kV11 dc11 pm11 an11 cd11 ct11),sl11⟩) (c11:PySem.W.codeIn K cd11 "_law_names" = true) (k11:PySem.W.keepIn K (.ref f11)=true)
  (a12:PySem.W.nsIn K mainGlobals "_law_shuffled" = some (some (.ref f12))) (l12:K.lookup f12=some ⟨oc12,od12,.func (PySem.W.fnOf "_law_shuffled" "_law_shuffled" (Af Be) (Ad Be) (A4 Be) .none kV12 dc12 pm12 an12 cd12 ct12),sl12⟩) (c12:PySem.W.codeIn K cd12 "_law_shuffled" = true) (k12:PySem.W.keepIn K (.ref f12)=true)
  (a13:PySem.W.nsIn K mainGlobals "_law_pairs" = some (some (.ref f13))) (l13:K.lookup f13=some ⟨oc13,od13,.func (PySem.W.fnOf "_law_pairs" "_law_pairs" (Af C4) (Ad C4) (A4 C4) .none kV13 dc13 pm13 an13 cd13 ct13),sl13⟩) (c13:PySem.W.codeIn K cd13 "_law_pairs" = true) (k13:PySem.W.keepIn K (.ref f13)=true)
  (a14:PySem.W.nsIn K mainGlobals "_law_sayings" = some (some (.ref f14))) (l14:K.lookup f14=some ⟨oc14,od14,.func (PySem.W.fnOf "_law_sayings" "_law_sayings" (Af Bg) (Ad Bg) (A4 Bg) .none kV14 dc14 pm14 an14 cd14 ct14),sl14⟩) (c14:PySem.W.codeIn K cd14 "_law_sayings" = true) (k14:PySem.W.keepIn K (.ref f14)=true)
  (a15:PySem.W.nsIn K mainGlobals "_law_half" = some (some (.ref f15))) (l15:K.lookup f15=some ⟨oc15,od15,.func (PySem.W.fnOf "_law_half" "_law_half" (Af Co) (Ad Co) (A4 Co) .none kV15 dc15 pm15 an15 cd15 ct15),sl15⟩) (c15:PySem.W.codeIn K cd15 "_law_half" = true) (k15:PySem.W.keepIn K (.ref f15)=true)
  (a16:PySem.W.nsIn K mainGlobals "_law_behind" = some (some (.ref f16))) (l16:K.lookup f16=some ⟨oc16,od16,.func (PySem.W.fnOf "_law_behind" "_law_behind" (Af Bq) (Ad Bq) (A4 Bq) .none kV16 dc16 pm16 an16 cd16 ct16),sl16⟩) (c16:PySem.W.codeIn K cd16 "_law_behind" = true) (k16:PySem.W.keepIn K (.ref f16)=true)
  (a17:PySem.W.nsIn K mainGlobals "_law_table" = some (some (.ref f17))) (l17:K.lookup f17=some ⟨oc17,od17,.func (PySem.W.fnOf "_law_table" "_law_table" (Af C2) (Ad C2) (A4 C2) .none kV17 dc17 pm17 an17 cd17 ct17),sl17⟩) (c17:PySem.W.codeIn K cd17 "_law_table" = true) (k17:PySem.W.keepIn K (.ref f17)=true)
  (a18:PySem.W.nsIn K mainGlobals "_law_orders" = some (some (.ref f18))) (l18:K.lookup f18=some ⟨oc18,od18,.func (PySem.W.fnOf "_law_orders" "_law_orders" (Af Bn) (Ad Bn) (A4 Bn) .none kV18 dc18 pm18 an18 cd18 ct18),sl18⟩) (c18:PySem.W.codeIn K cd18 "_law_orders" = true) (k18:PySem.W.keepIn K (.ref f18)=true)
  (a19:PySem.W.nsIn K mainGlobals "_law_odd" = some (some (.ref f19))) (l19:K.lookup f19=some ⟨oc19,od19,.func (PySem.W.fnOf "_law_odd" "_law_odd" (Af Da) (Ad Da) (A4 Da) .none kV19 dc19 pm19 an19 cd19 ct19),sl19⟩) (c19:PySem.W.codeIn K cd19 "_law_odd" = true) (k19:PySem.W.keepIn K (.ref f19)=true)
  (a20:PySem.W.nsIn K mainGlobals "_law_bent" = some (some (.ref f20))) (l20:K.lookup f20=some ⟨oc20,od20,.func (PySem.W.fnOf "_law_bent" "_law_bent" (Af Bx) (Ad Bx) (A4 Bx) .none kV20 dc20 pm20 an20 cd20 ct20),sl20⟩) (c20:PySem.W.codeIn K cd20 "_law_bent" = true) (k20:PySem.W.keepIn K (.ref f20)=true)
  (a21:PySem.W.nsIn K mainGlobals "_law_layers" = some (some (.ref f21))) (l21:K.lookup f21=some ⟨oc21,od21,.func (PySem.W.fnOf "_law_layers" "_law_layers" (Af Bo) (Ad Bo) (A4 Bo) .none kV21 dc21 pm21 an21 cd21 ct21),sl21⟩) (c21:PySem.W.codeIn K cd21 "_law_layers" = true) (k21:PySem.W.keepIn K (.ref f21)=true)
  (a22:PySem.W.nsIn K mainGlobals "_law_is_chain" = some (some (.ref f22))) (l22:K.lookup f22=some ⟨oc22,od22,.func (PySem.W.fnOf "_law_is_chain" "_law_is_chain" (Af Bd) (Ad Bd) (A4 Bd) .none kV22 dc22 pm22 an22 cd22 ct22),sl22⟩) (c22:PySem.W.codeIn K cd22 "_law_is_chain" = true) (k22:PySem.W.keepIn K (.ref f22)=true)
  (a23:PySem.W.nsIn K mainGlobals "_law_is_cover" = some (some (.ref f23))) (l23:K.lookup f23=some ⟨oc23,od23,.func (PySem.W.fnOf "_law_is_cover" "_law_is_cover" (Af Ba) (Ad Ba) (A4 Ba) .none kV23 dc23 pm23 an23 cd23 ct23),sl23⟩) (c23:PySem.W.codeIn K cd23 "_law_is_cover" = true) (k23:PySem.W.keepIn K (.ref f23)=true)
  (a24:PySem.W.nsIn K mainGlobals "_law_is_number" = some (some (.ref f24))) (l24:K.lookup f24=some ⟨oc24,od24,.func (PySem.W.fnOf "_law_is_number" "_law_is_number" (Af B7) (Ad B7) (A4 B7) .none kV24 dc24 pm24 an24 cd24 ct24),sl24⟩) (c24:PySem.W.codeIn K cd24 "_law_is_number" = true) (k24:PySem.W.keepIn K (.ref f24)=true)
  (a25:PySem.W.nsIn K mainGlobals "_law_shuffles" = some (some (.ref f25))) (l25:K.lookup f25=some ⟨oc25,od25,.func (PySem.W.fnOf "_law_shuffles" "_law_shuffles" (Af Bc) (Ad Bc) (A4 Bc) .none kV25 dc25 pm25 an25 cd25 ct25),sl25⟩) (c25:PySem.W.codeIn K cd25 "_law_shuffles" = true) (k25:PySem.W.keepIn K (.ref f25)=true)
  (a26:PySem.W.nsIn K mainGlobals "_law_some_cover" = some (some (.ref f26))) (l26:K.lookup f26=some ⟨oc26,od26,.func (PySem.W.fnOf "_law_some_cover" "_law_some_cover" (Af Ay) (Ad Ay) (A4 Ay) .none kV26 dc26 pm26 an26 cd26 ct26),sl26⟩) (c26:PySem.W.codeIn K cd26 "_law_some_cover" = true) (k26:PySem.W.keepIn K (.ref f26)=true)
  (a27:PySem.W.nsIn K mainGlobals "_law_told" = some (some (.ref f27))) (l27:K.lookup f27=some ⟨oc27,od27,.func (PySem.W.fnOf "_law_told" "_law_told" (Af Ck) (Ad Ck) (A4 Ck) .none kV27 dc27 pm27 an27 cd27 ct27),sl27⟩) (c27:PySem.W.codeIn K cd27 "_law_told" = true) (k27:PySem.W.keepIn K (.ref f27)=true)
  (a28:PySem.W.nsIn K mainGlobals "_law_due" = some (some (.ref f28))) (l28:K.lookup f28=some ⟨oc28,od28,.func (PySem.W.fnOf "_law_due" "_law_due" (Af D9) (Ad D9) (A4 D9) .none kV28 dc28 pm28 an28 cd28 ct28),sl28⟩) (c28:PySem.W.codeIn K cd28 "_law_due" = true) (k28:PySem.W.keepIn K (.ref f28)=true)
  (a29:PySem.W.nsIn K mainGlobals "law" = some (some (.ref f29))) (l29:K.lookup f29=some ⟨oc29,od29,.func (PySem.W.fnOf "law" "law" (Af L4) (Ad L4) (A4 L4) .none kV29 dc29 pm29 an29 cd29 ct29),sl29⟩) (c29:PySem.W.codeIn K cd29 "law" = true) (k29:PySem.W.keepIn K (.ref f29)=true)
  (z0:PySem.W.nsIn K mainGlobals "ValueError" = some none)
  (z1:PySem.W.nsIn K mainGlobals "all" = some none)
  (z2:PySem.W.nsIn K mainGlobals "any" = some none)
  (z3:PySem.W.nsIn K mainGlobals "bool" = some none)
  (z4:PySem.W.nsIn K mainGlobals "dict" = some none)
  (z5:PySem.W.nsIn K mainGlobals "int" = some none)
  (z6:PySem.W.nsIn K mainGlobals "isinstance" = some none)
  (z7:PySem.W.nsIn K mainGlobals "len" = some none)
  (z8:PySem.W.nsIn K mainGlobals "list" = some none)
  (z9:PySem.W.nsIn K mainGlobals "range" = some none)
  (z10:PySem.W.nsIn K mainGlobals "repr" = some none)
  (z11:PySem.W.nsIn K mainGlobals "sorted" = some none)
  (z12:PySem.W.nsIn K mainGlobals "str" = some none)
  (z13:PySem.W.nsIn K mainGlobals "tuple" = some none)
  (z14:PySem.W.nsIn K mainGlobals "zip" = some none)
  : ∃ fd:FuncData,(∀(s:Shared) (v:Value),BindsTo s fd ⟨[v],[]⟩ [("_law_script",v)])/\∀ base:Heap,K.In base->base.Ns mainGlobals mg->FnOk l.prog w K mg base CX0 15 fa fd ["_law_script"] (spLaw K):=by
 have e:=hfa.symm.trans (PySem.W.mg_of X G a29)
 cases e
 have T:Fb mg:=⟨PySem.W.mg_none_of X G z0,PySem.W.mg_none_of X G z1,PySem.W.mg_none_of X G z2,PySem.W.mg_none_of X G z3,PySem.W.mg_none_of X G z4,PySem.W.mg_none_of X G z5,PySem.W.mg_none_of X G z6,PySem.W.mg_none_of X G z7,PySem.W.mg_none_of X G z8,PySem.W.mg_none_of X G z9,PySem.W.mg_none_of X G z10,PySem.W.mg_none_of X G z11,PySem.W.mg_none_of X G z12,PySem.W.mg_none_of X G z13,PySem.W.mg_none_of X G z14⟩
 have F0:=B4 (st:=Bp) l0 c0 k0
 have b0:Binds K _ ["half"] []:=En F0 fun _ _ _ _ _ _ _=>rfl
 have F1:=B4 (st:=Db) l1 c1 k1
 have b1:Binds K _ ["names","reach","thing"] []:=Sc F1 fun _ _ _ _ _ _ _ _ _=>rfl
 have F2:=B4 (st:=Dd) l2 c2 k2
 have b2:Binds K _ ["half","thing"] []:=Dj F2 fun _ _ _ _ _ _ _ _=>rfl
 have F3:=B4 (st:=B6) l3 c3 k3
 have b3:Binds K _ ["reach","name","names"] []:=Sc F3 fun _ _ _ _ _ _ _ _ _=>rfl
 have F4:=B4 (st:=Ex) l4 c4 k4
 have b4:Binds K _ ["half"] []:=En F4 fun _ _ _ _ _ _ _=>rfl
 have F5:=B4 (st:=Ds) l5 c5 k5
 have b5:Binds K _ ["numbers"] []:=En F5 fun _ _ _ _ _ _ _=>rfl
 have F6:=B4 (st:=Bb) l6 c6 k6
 have b6:Binds K _ ["number"] []:=En F6 fun _ _ _ _ _ _ _=>rfl
 have F7:=B4 (st:=Cj) l7 c7 k7
 have b7:Binds K _ ["half"] []:=En F7 fun _ _ _ _ _ _ _=>rfl
 have F8:=B4 (st:=Cg) l8 c8 k8
 have b8:Binds K _ ["half","chains"] []:=Dj F8 fun _ _ _ _ _ _ _ _=>rfl
 have F9:=B4 (st:=Ce) l9 c9 k9
 have b9:Binds K _ ["_law_script"] []:=En F9 fun _ _ _ _ _ _ _=>rfl
 have F10:=B4 (st:=Cn) l10 c10 k10
 have b10:Binds K _ ["_law_feed_here","_law_many"] []:=Dj F10 fun _ _ _ _ _ _ _ _=>rfl
 have F11:=B4 (st:=C3) l11 c11 k11
 have b11:Binds K _ ["_law_feed_here","_law_many"] []:=Dj F11 fun _ _ _ _ _ _ _ _=>rfl
 have F12:=B4 (st:=Be) l12 c12 k12
 have b12:Binds K _ ["_law_feed_here","_law_some"] []:=Dj F12 fun _ _ _ _ _ _ _ _=>rfl
 have F13:=B4 (st:=C4) l13 c13 k13
 have b13:Binds K _ ["_law_feed_here","_law_line"] []:=Dj F13 fun _ _ _ _ _ _ _ _=>rfl
 have F14:=B4 (st:=Bg) l14 c14 k14
 have b14:Binds K _ ["_law_feed_here","_law_line"] []:=Dj F14 fun _ _ _ _ _ _ _ _=>rfl
 have F15:=B4 (st:=Co) l15 c15 k15
 have b15:Binds K _ ["_law_feed_here","_law_most"] []:=Dj F15 fun _ _ _ _ _ _ _ _=>rfl
 have F16:=B4 (st:=Bq) l16 c16 k16
 have b16:Binds K _ ["_law_half_here","_law_name"] []:=Dj F16 fun _ _ _ _ _ _ _ _=>rfl
 have F17:=B4 (st:=C2) l17 c17 k17
 have b17:Binds K _ ["_law_half_here"] []:=En F17 fun _ _ _ _ _ _ _=>rfl
 have F18:=B4 (st:=Bn) l18 c18 k18
 have b18:Binds K _ ["_law_half_here"] []:=En F18 fun _ _ _ _ _ _ _=>rfl
 have F19:=B4 (st:=Da) l19 c19 k19
 have b19:Binds K _ ["_law_feed_here","_law_part"] []:=Dj F19 fun _ _ _ _ _ _ _ _=>rfl
 have F20:=B4 (st:=Bx) l20 c20 k20
 have b20:Binds K _ ["_law_feed_here","_law_part","_law_deep"] []:=Sc F20 fun _ _ _ _ _ _ _ _ _=>rfl
 have F21:=B4 (st:=Bo) l21 c21 k21
 have b21:Binds K _ ["_law_half_here"] []:=En F21 fun _ _ _ _ _ _ _=>rfl
 have F22:=B4 (st:=Bd) l22 c22 k22
 have b22:Binds K _ ["_law_half_here","_law_thing"] []:=Dj F22 fun _ _ _ _ _ _ _ _=>rfl
 have F23:=B4 (st:=Ba) l23 c23 k23
 have b23:Binds K _ ["_law_half_here","_law_thing"] []:=Dj F23 fun _ _ _ _ _ _ _ _=>rfl
 have F24:=B4 (st:=B7) l24 c24 k24
 have b24:Binds K _ ["_law_thing"] []:=En F24 fun _ _ _ _ _ _ _=>rfl
 have F25:=B4 (st:=Bc) l25 c25 k25
 have b25:Binds K _ ["_law_many"] []:=En F25 fun _ _ _ _ _ _ _=>rfl
 have F26:=B4 (st:=Ay) l26 c26 k26
 have b26:Binds K _ ["_law_feed_here","_law_half_here"] []:=Dj F26 fun _ _ _ _ _ _ _ _=>rfl
 have F27:=B4 (st:=Ck) l27 c27 k27
 have b27:Binds K _ ["_law_half_here","_law_thing"] []:=Dj F27 fun _ _ _ _ _ _ _ _=>rfl
 have F28:=B4 (st:=D9) l28 c28 k28
 have b28:Binds K _ ["_law_half_here","_law_thing"] []:=Dj F28 fun _ _ _ _ _ _ _ _=>rfl
 have F29:=B4 (st:=L4) l29 c29 k29
 have x_HalfError:E8 K mg C_HalfError C_HalfError:=⟨⟨ex_HalfError,sX_HalfError,gX_HalfError,tX_HalfError,lX_HalfError,cg,ct⟩,PySem.W.mg_of X G aX_HalfError,⟨⟨ex_HalfError,sX_HalfError,gX_HalfError,tX_HalfError,lX_HalfError,cg,ct⟩,no_HalfError,kX_HalfError,PySem.W.mg_of X G aX_HalfError⟩⟩
 have x_NoName:G8 K mg C_NoName C_HalfError:=⟨⟨ex_NoName,sX_NoName,gX_NoName,tX_NoName,lX_NoName,cg,ct⟩,PySem.W.mg_of X G aX_NoName,mr_NoName,nX_NoName_name⟩
 have x_NoCover:Fh K mg C_NoCover C_HalfError:=⟨⟨ex_NoCover,sX_NoCover,gX_NoCover,tX_NoCover,lX_NoCover,cg,ct⟩,PySem.W.mg_of X G aX_NoCover,mr_NoCover,⟨⟨ex_NoCover,sX_NoCover,gX_NoCover,tX_NoCover,lX_NoCover,cg,ct⟩,no_NoCover,kX_NoCover,PySem.W.mg_of X G aX_NoCover⟩⟩
 have x_NoOrder:Hq K mg C_NoOrder C_HalfError:=⟨⟨ex_NoOrder,sX_NoOrder,gX_NoOrder,tX_NoOrder,lX_NoOrder,cg,ct⟩,PySem.W.mg_of X G aX_NoOrder,mr_NoOrder,⟨⟨ex_NoOrder,sX_NoOrder,gX_NoOrder,tX_NoOrder,lX_NoOrder,cg,ct⟩,no_NoOrder,kX_NoOrder,PySem.W.mg_of X G aX_NoOrder⟩⟩
 refine⟨PySem.W.fnOf "law" "law" (Af L4) (Ad L4) (A4 L4) .none kV29 dc29 pm29 an29 cd29 ct29,fun s v=>.of_eq rfl,fun base _ _=>?_⟩
 have c_behind_each:Fnd l.prog w K mg base 1 "behind_each" ["half"] (Cp K):=⟨_,_,J6 F0 T,PySem.W.mg_of X G a0,k0,b0⟩
 have c_is_chain:Fnd l.prog w K mg base 1 "is_chain" ["names","reach","thing"] (Fi K):=⟨_,_,N4 F1 T,PySem.W.mg_of X G a1,k1,b1⟩
 have c_has_none_ahead:Fnd l.prog w K mg base 1 "has_none_ahead" ["reach","name","names"] (Cf K):=⟨_,_,Ga F3 T,PySem.W.mg_of X G a3,k3,b3⟩
 have c_product:Fnd l.prog w K mg base 1 "product" ["numbers"] (Dc K):=⟨_,_,Pk F5 T,PySem.W.mg_of X G a5,k5,b5⟩
 have c__law_feed:Fnd l.prog w K mg base 1 "_law_feed" ["_law_script"] (Ep K):=⟨_,_,Lu F9 T,PySem.W.mg_of X G a9,k9,b9⟩
 have c__law_draw:Fnd l.prog w K mg base 1 "_law_draw" ["_law_feed_here","_law_many"] (Ar K):=⟨_,_,Ll F10 T,PySem.W.mg_of X G a10,k10,b10⟩
 have c__law_behind:Fnd l.prog w K mg base 1 "_law_behind" ["_law_half_here","_law_name"] (Bs K):=⟨_,_,J7 F16 T,PySem.W.mg_of X G a16,k16,b16⟩
 have c__law_is_number:Fnd l.prog w K mg base 1 "_law_is_number" ["_law_thing"] (Cl K):=⟨_,_,G4 F24 T,PySem.W.mg_of X G a24,k24,b24⟩
 have c__law_shuffles:Fnd l.prog w K mg base 1 "_law_shuffles" ["_law_many"] (Bv K):=⟨_,_,Gw F25 T,PySem.W.mg_of X G a25,k25,b25⟩
 have c_is_cover:Fnd l.prog w K mg base 2 "is_cover" ["half","thing"] (E4 K):=⟨_,_,Nl F2 T c_behind_each c_is_chain,PySem.W.mg_of X G a2,k2,b2⟩
 have c_layers:Fnd l.prog w K mg base 2 "layers" ["half"] (Iu K):=⟨_,_,R9 F4 T c_behind_each c_has_none_ahead,PySem.W.mg_of X G a4,k4,b4⟩
 have c_product_up_to:Fnd l.prog w K mg base 2 "product_up_to" ["number"] (Bf K):=⟨_,_,Gr F6 T c_product,PySem.W.mg_of X G a6,k6,b6⟩
 have c__law_names:Fnd l.prog w K mg base 2 "_law_names" ["_law_feed_here","_law_many"] (E5 K):=⟨_,_,K9 F11 T c__law_draw,PySem.W.mg_of X G a11,k11,b11⟩
 have c__law_shuffled:Fnd l.prog w K mg base 2 "_law_shuffled" ["_law_feed_here","_law_some"] (Cy K):=⟨_,_,Gp F12 T c__law_draw,PySem.W.mg_of X G a12,k12,b12⟩
 have c__law_pairs:Fnd l.prog w K mg base 2 "_law_pairs" ["_law_feed_here","_law_line"] (E9 K):=⟨_,_,L1 F13 T c__law_draw,PySem.W.mg_of X G a13,k13,b13⟩
 have c__law_table:Fnd l.prog w K mg base 2 "_law_table" ["_law_half_here"] (D8 K):=⟨_,_,Kf F17 T c__law_behind,PySem.W.mg_of X G a17,k17,b17⟩
 have c__law_odd:Fnd l.prog w K mg base 2 "_law_odd" ["_law_feed_here","_law_part"] (E7 K):=⟨_,_,Ng F19 T c__law_draw,PySem.W.mg_of X G a19,k19,b19⟩
 have c__law_is_chain:Fnd l.prog w K mg base 2 "_law_is_chain" ["_law_half_here","_law_thing"] (Cw K):=⟨_,_,Gu F22 T c__law_behind,PySem.W.mg_of X G a22,k22,b22⟩
 have c_by_layers:Fnd l.prog w K mg base 3 "by_layers" ["half"] (El K):=⟨_,_,M3 F7 T c_layers c_product c_product_up_to,PySem.W.mg_of X G a7,k7,b7⟩
 have c_by_cover:Fnd l.prog w K mg base 3 "by_cover" ["half","chains"] (Fg K):=⟨_,_,Nr F8 T c_is_cover c_product c_product_up_to,PySem.W.mg_of X G a8,k8,b8⟩
 have d_by_cover:aa0 l.prog w K mg base 3 "by_cover" ["half","chains"] (Ei C_NoCover K):=⟨_,_,M1 F8 T x_HalfError x_NoName x_NoCover c_is_cover c_product c_product_up_to,PySem.W.mg_of X G a8,k8,b8⟩
 have c__law_sayings:Fnd l.prog w K mg base 3 "_law_sayings" ["_law_feed_here","_law_line"] (Di K):=⟨_,_,Iv F14 T c__law_draw c__law_pairs,PySem.W.mg_of X G a14,k14,b14⟩
 have c__law_orders:Fnd l.prog w K mg base 3 "_law_orders" ["_law_half_here"] (Dq K):=⟨_,_,J9 F18 T c__law_table,PySem.W.mg_of X G a18,k18,b18⟩
 have c__law_layers:Fnd l.prog w K mg base 3 "_law_layers" ["_law_half_here"] (Cq K):=⟨_,_,Ja F21 T c__law_table,PySem.W.mg_of X G a21,k21,b21⟩
 have c__law_is_cover:Fnd l.prog w K mg base 3 "_law_is_cover" ["_law_half_here","_law_thing"] (Cz K):=⟨_,_,Gs F23 T c__law_is_chain,PySem.W.mg_of X G a23,k23,b23⟩
 have c__law_half:Fnd l.prog w K mg base 4 "_law_half" ["_law_feed_here","_law_most"] (Ed K):=⟨_,_,Mi F15 T c__law_draw c__law_names c__law_shuffled c__law_sayings,PySem.W.mg_of X G a15,k15,b15⟩
 have c__law_some_cover:Fnd l.prog w K mg base 4 "_law_some_cover" ["_law_feed_here","_law_half_here"] (Cb K):=⟨_,_,Fs F26 T c__law_draw c__law_behind c__law_layers,PySem.W.mg_of X G a26,k26,b26⟩
 have c__law_told:Fnd l.prog w K mg base 4 "_law_told" ["_law_half_here","_law_thing"] (Ef K):=⟨_,_,L7 F27 T x_HalfError x_NoName x_NoCover x_NoOrder ndX d_by_cover,PySem.W.mg_of X G a27,k27,b27⟩
 have c__law_due:Fnd l.prog w K mg base 4 "_law_due" ["_law_half_here","_law_thing"] (Fj K):=⟨_,_,Nw F28 T c__law_is_cover c__law_shuffles,PySem.W.mg_of X G a28,k28,b28⟩
 have c__law_bent:Fnd l.prog w K mg base 14 "_law_bent" ["_law_feed_here","_law_part","_law_deep"] (Eo K):=⟨_,_,Lx F20 T c__law_draw c__law_odd (PySem.W.mg_of X G a20) k20 b20,PySem.W.mg_of X G a20,k20,b20⟩
 exact a07 F29 T c_by_layers c_by_cover c__law_feed c__law_half c__law_orders c__law_bent c__law_layers c__law_is_number c__law_shuffles c__law_some_cover c__law_told c__law_due
theorem walk {l:PySem.W.OpenLaw}{q:Program}{loose:List Str}{XP:(Str->Option Value)->Heap->Prop}{YP:World->Heap->Prop}{d:DefRec}{K:Params->PySem.W.Frag}(hn:l.most=some 63)(hdf:d.params.defaults=[])
  (hY:∀(w:World) (h:Heap),YP w h->(K w.params).In h)
  (F:∀(w:World) (mg:Str->Option Value) (fa:Addr) (h:Heap),(K w.params).In h->h.Ns mainGlobals mg->mg d.name=some (.ref fa) ->
   ∃ fd:FuncData,(∀(s:Shared) (u:Value),BindsTo s fd ⟨[u],[]⟩ [("_law_script",u)])/\∀ base:Heap,(K w.params).In base->base.Ns mainGlobals mg->FnOk l.prog w (K w.params) mg base CX0 15 fa fd ["_law_script"] (spLaw (K w.params))) :
  PySem.W.WalkO q loose XP YP l.row.toRowW d [] (fun f vs=>PySem.call f vs):=
 L2.walk_of (n:=63) (k:=15) (x:="_law_script") (CX:=fun _=>CX0) (sp:=fun w=>spLaw (K w.params)) hn (by decide) hdf ⟨rfl,by decide,by decide,rfl⟩ hY F (fun _ _ a ns hl _ hS=>⟨a,ns,rfl,hS,hl,fun _=>rfl⟩) fun _ _ _ _ _ z=>z
end K17
theorem PySem.W.Fast.tw5267318764118547183 : True := trivial
theorem PySem.W.Fast.tw3411253637758707674 : True := trivial
theorem PySem.W.Fast.tw5214283425890774634 : True := trivial
theorem PySem.W.Fast.tw11571507610813925598 : True := trivial
theorem PySem.W.Fast.tw3764774871978121717 : True := trivial
theorem PySem.W.Fast.tw11895913190535980398 : True := trivial
theorem PySem.W.Fast.tw11006164549144070380 : True := trivial
theorem PySem.W.Fast.tw10984752356687687783 : True := trivial
theorem PySem.W.Fast.tw4929165713769515405 : True := trivial
theorem PySem.W.Fast.tw17668546521221163282 : True := trivial
theorem PySem.W.Fast.tw2514299978431400403 : True := trivial
theorem PySem.W.Fast.tw14542480201482376046 : True := trivial
open PySem PySem.W PyProof.Rows
set_option maxRecDepth 100000 in
set_option maxHeartbeats 0 in
theorem PySem.Challenge.cw_halforder_k17_by_layers_and_covers_holds : PySem.Challenge.rw_halforder_k17_by_layers_and_covers.Holds := by
 w_on;o_law;k_head;(case hw=>w_witness2)
 k_fill
 refine K17.walk (l:=PySem.Challenge.rw_halforder_k17_by_layers_and_covers) rfl rfl (fun w h Y=>PySem.W.kIn_of Y) ?F
 case F=>
  intro w mg fa h KX G hmg
  refine' K17.all_mk KX G hmg ?q_cg ?q_ct ?q_aX_HalfError ?q_aX_NoName ?q_aX_NoCover ?q_aX_NoOrder ?q_ex_HalfError ?q_sX_HalfError ?q_gX_HalfError ?q_tX_HalfError ?q_lX_HalfError ?q_no_HalfError ?q_kX_HalfError ?q_ex_NoName ?q_sX_NoName ?q_gX_NoName ?q_tX_NoName ?q_lX_NoName ?q_mr_NoName ?q_kX_NoName ?q_nX_NoName_name ?q_ex_NoCover ?q_sX_NoCover ?q_gX_NoCover ?q_tX_NoCover ?q_lX_NoCover ?q_mr_NoCover ?q_no_NoCover ?q_kX_NoCover ?q_ex_NoOrder ?q_sX_NoOrder ?q_gX_NoOrder ?q_tX_NoOrder ?q_lX_NoOrder ?q_mr_NoOrder ?q_no_NoOrder ?q_kX_NoOrder ?q_ndX ?q_a0 ?q_l0 ?q_c0 ?q_k0 ?q_a1 ?q_l1 ?q_c1 ?q_k1 ?q_a2 ?q_l2 ?q_c2 ?q_k2 ?q_a3 ?q_l3 ?q_c3 ?q_k3 ?q_a4 ?q_l4 ?q_c4 ?q_k4 ?q_a5 ?q_l5 ?q_c5 ?q_k5 ?q_a6 ?q_l6 ?q_c6 ?q_k6 ?q_a7 ?q_l7 ?q_c7 ?q_k7 ?q_a8 ?q_l8 ?q_c8 ?q_k8 ?q_a9 ?q_l9 ?q_c9 ?q_k9 ?q_a10 ?q_l10 ?q_c10 ?q_k10 ?q_a11 ?q_l11 ?q_c11 ?q_k11 ?q_a12 ?q_l12 ?q_c12 ?q_k12 ?q_a13 ?q_l13 ?q_c13 ?q_k13 ?q_a14 ?q_l14 ?q_c14 ?q_k14 ?q_a15 ?q_l15 ?q_c15 ?q_k15 ?q_a16 ?q_l16 ?q_c16 ?q_k16 ?q_a17 ?q_l17 ?q_c17 ?q_k17 ?q_a18 ?q_l18 ?q_c18 ?q_k18 ?q_a19 ?q_l19 ?q_c19 ?q_k19 ?q_a20 ?q_l20 ?q_c20 ?q_k20 ?q_a21 ?q_l21 ?q_c21 ?q_k21 ?q_a22 ?q_l22 ?q_c22 ?q_k22 ?q_a23 ?q_l23 ?q_c23 ?q_k23 ?q_a24 ?q_l24 ?q_c24 ?q_k24 ?q_a25 ?q_l25 ?q_c25 ?q_k25 ?q_a26 ?q_l26 ?q_c26 ?q_k26 ?q_a27 ?q_l27 ?q_c27 ?q_k27 ?q_a28 ?q_l28 ?q_c28 ?q_k28 ?q_a29 ?q_l29 ?q_c29 ?q_k29 ?q_z0 ?q_z1 ?q_z2 ?q_z3 ?q_z4 ?q_z5 ?q_z6 ?q_z7 ?q_z8 ?q_z9 ?q_z10 ?q_z11 ?q_z12 ?q_z13 ?q_z14
  (case q_cg=>k_is)
  (case q_ct=>k_is)
  (case q_aX_HalfError=>k_is)
  (case q_aX_NoName=>k_is)
  (case q_aX_NoCover=>k_is)
  (case q_aX_NoOrder=>k_is)
  (case q_ex_HalfError=>kernel_rfl)
  (case q_sX_HalfError=>k_is)
  (case q_gX_HalfError=>k_is)
  (case q_tX_HalfError=>k_is)
  (case q_lX_HalfError=>k_is)
  (case q_no_HalfError=>kernel_rfl)
  (case q_kX_HalfError=>k_is)
  (case q_ex_NoName=>kernel_rfl)
  (case q_sX_NoName=>k_is)
  (case q_gX_NoName=>k_is)
  (case q_tX_NoName=>k_is)
  (case q_lX_NoName=>k_is)
  (case q_mr_NoName=>kernel_rfl)
  (case q_kX_NoName=>k_is)
  (case q_nX_NoName_name=>k_is)
  (case q_ex_NoCover=>kernel_rfl)
  (case q_sX_NoCover=>k_is)
  (case q_gX_NoCover=>k_is)
  (case q_tX_NoCover=>k_is)
  (case q_lX_NoCover=>k_is)
  (case q_mr_NoCover=>kernel_rfl)
  (case q_no_NoCover=>kernel_rfl)
  (case q_kX_NoCover=>k_is)
  (case q_ex_NoOrder=>kernel_rfl)
  (case q_sX_NoOrder=>k_is)
  (case q_gX_NoOrder=>k_is)
  (case q_tX_NoOrder=>k_is)
  (case q_lX_NoOrder=>k_is)
  (case q_mr_NoOrder=>kernel_rfl)
  (case q_no_NoOrder=>kernel_rfl)
  (case q_kX_NoOrder=>k_is)
  (case q_ndX=>decide)
  (case q_a0=>k_is)
  (case q_l0=>k_is)
  (case q_c0=>k_is)
  (case q_k0=>k_is)
  (case q_a1=>k_is)
  (case q_l1=>k_is)
  (case q_c1=>k_is)
  (case q_k1=>k_is)
  (case q_a2=>k_is)
  (case q_l2=>k_is)
  (case q_c2=>k_is)
  (case q_k2=>k_is)
  (case q_a3=>k_is)
  (case q_l3=>k_is)
  (case q_c3=>k_is)
  (case q_k3=>k_is)
  (case q_a4=>k_is)
  (case q_l4=>k_is)
  (case q_c4=>k_is)
  (case q_k4=>k_is)
  (case q_a5=>k_is)
  (case q_l5=>k_is)
  (case q_c5=>k_is)
  (case q_k5=>k_is)
  (case q_a6=>k_is)
  (case q_l6=>k_is)
  (case q_c6=>k_is)
  (case q_k6=>k_is)
  (case q_a7=>k_is)
  (case q_l7=>k_is)
  (case q_c7=>k_is)
  (case q_k7=>k_is)
  (case q_a8=>k_is)
  (case q_l8=>k_is)
  (case q_c8=>k_is)
  (case q_k8=>k_is)
  (case q_a9=>k_is)
  (case q_l9=>k_is)
  (case q_c9=>k_is)
  (case q_k9=>k_is)
  (case q_a10=>k_is)
  (case q_l10=>k_is)
  (case q_c10=>k_is)
  (case q_k10=>k_is)
  (case q_a11=>k_is)
  (case q_l11=>k_is)
  (case q_c11=>k_is)
  (case q_k11=>k_is)
  (case q_a12=>k_is)
  (case q_l12=>k_is)
  (case q_c12=>k_is)
  (case q_k12=>k_is)
  (case q_a13=>k_is)
  (case q_l13=>k_is)
  (case q_c13=>k_is)
  (case q_k13=>k_is)
  (case q_a14=>k_is)
  (case q_l14=>k_is)
  (case q_c14=>k_is)
  (case q_k14=>k_is)
  (case q_a15=>k_is)
  (case q_l15=>k_is)
  (case q_c15=>k_is)
  (case q_k15=>k_is)
  (case q_a16=>k_is)
  (case q_l16=>k_is)
  (case q_c16=>k_is)
  (case q_k16=>k_is)
  (case q_a17=>k_is)
  (case q_l17=>k_is)
  (case q_c17=>k_is)
  (case q_k17=>k_is)
  (case q_a18=>k_is)
  (case q_l18=>k_is)
  (case q_c18=>k_is)
  (case q_k18=>k_is)
  (case q_a19=>k_is)
  (case q_l19=>k_is)
  (case q_c19=>k_is)
  (case q_k19=>k_is)
  (case q_a20=>k_is)
  (case q_l20=>k_is)
  (case q_c20=>k_is)
  (case q_k20=>k_is)
  (case q_a21=>k_is)
  (case q_l21=>k_is)
  (case q_c21=>k_is)
  (case q_k21=>k_is)
  (case q_a22=>k_is)
  (case q_l22=>k_is)
  (case q_c22=>k_is)
  (case q_k22=>k_is)
  (case q_a23=>k_is)
  (case q_l23=>k_is)
  (case q_c23=>k_is)
  (case q_k23=>k_is)
  (case q_a24=>k_is)
  (case q_l24=>k_is)
  (case q_c24=>k_is)
  (case q_k24=>k_is)
  (case q_a25=>k_is)
  (case q_l25=>k_is)
  (case q_c25=>k_is)
  (case q_k25=>k_is)
  (case q_a26=>k_is)
  (case q_l26=>k_is)
  (case q_c26=>k_is)
  (case q_k26=>k_is)
  (case q_a27=>k_is)
  (case q_l27=>k_is)
  (case q_c27=>k_is)
  (case q_k27=>k_is)
  (case q_a28=>k_is)
  (case q_l28=>k_is)
  (case q_c28=>k_is)
  (case q_k28=>k_is)
  (case q_a29=>k_is)
  (case q_l29=>k_is)
  (case q_c29=>k_is)
  (case q_k29=>k_is)
  (case q_z0=>k_is)
  (case q_z1=>k_is)
  (case q_z2=>k_is)
  (case q_z3=>k_is)
  (case q_z4=>k_is)
  (case q_z5=>k_is)
  (case q_z6=>k_is)
  (case q_z7=>k_is)
  (case q_z8=>k_is)
  (case q_z9=>k_is)
  (case q_z10=>k_is)
  (case q_z11=>k_is)
  (case q_z12=>k_is)
  (case q_z13=>k_is)
  (case q_z14=>k_is)
