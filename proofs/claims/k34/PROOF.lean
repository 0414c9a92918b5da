import PyProof.Rows.All
import Wide.All
import OpenK.AllK
import Wide.FinOn
import PyProof.EqAt
import PyProof.EqKinds
import PyProof.TupleCall
import Lean
import PyProof.DictWalks
import PyProof.DictIter
import PyProof.P3In
import KE.KEqSeq
import PyProof.ReprLen
import PyProof.ReprRoads
import PyProof.StrOps2
import KE.KRevSl
import PyProof.IsRules
import PyProof.StrLawsIdx
import PyProof.Rows.RegRepr
import PyProof.Rows.RegFStrParts
import PyProof.DictUpdate
import PyProof.AttrMissHeap
import PyProof.Walks
import KE.KDictOf
import PyProof.EnumIter
import PyProof.EnumFor
import PyProof.LayNew
import PyProof.EnumMake
import PyProof.Draws
import PyProof.WalksT
import PyProof.TupleIter
import PyProof.WalksMore
import KE.KRevIter
import KE.KEqDict
import PyProof.Rows.SetFrom
import PyProof.StrLawsTight
import PyProof.StrLawsChain
import PyProof.SumWalk
import PyProof.Rows.SortStr
import PyProof.Rows.SortWalk
import PyProof.TupleOfSeq
import KE.KDictSum
import KE.KSortTup
import PyProof.ListRange
import PyProof.ZipIter
import PyProof.Rows.ZipGen
import KE.KItemsList
import PyProof.ExcArgsOwn
import PyProof.InstStoreFacts
import PyProof.ExcBaseAll.ValueError
import PyProof.StationsW
import PyProof.RulesAs
import PyProof.RulesDel
import PyProof.NeKinds
import PyProof.ListMulAny
import PySem.Challenge.RW_halforder_k34_numbers_and_orders_refused
local macro_rules | `(tactic| eq_refl) => `(tactic| with_unfolding_all exact Or.inl rfl)
local macro_rules | `(tactic| ac_rfl) => `(tactic| with_unfolding_all exact fun _ _ => rfl)
local macro_rules | `(tactic| ac_nf) => `(tactic| with_unfolding_all rfl)
noncomputable section
set_option linter.all false
set_option maxRecDepth 100000
set_option maxHeartbeats 4000000
set_option Elab.async false
set_option compiler.extract_closed false
namespace L2
open PySem PySem.Spec PyProof.Rows
abbrev Key:=Sum Int Str
def Ny:Key->Value->Bool
 | .inl k,v=>Value.isInt k v
 | .inr x,v=>Value.isStrOf x v
def keyH (w:World):Key->Int
 | .inl k=>hashInt k
 | .inr x=>hashStr w x
theorem Ba:∀ {k:Key} {v:Value},Ny k v=true->(∃ i t,k=Sum.inl i/\v=Value.int i t)\/(∃ x t,k=Sum.inr x/\v=Value.str x t)
 | .inl i,v,h=>by
   obtain⟨t,e⟩:=Value.isInt_shape (k:=i) (v:=v) h
   exact .inl ⟨i,t,rfl,e⟩
 | .inr x,v,h=>by
   obtain⟨t,e⟩:=Value.isStrOf_shape (x:=x) (v:=v) h
   exact .inr ⟨x,t,rfl,e⟩
theorem Ry (i:Int)(t:Tok):Ny (.inl i) (.int i t)=true:=by simp[Ny,Value.isInt]
theorem Nx (x:Str)(t:Tok):Ny (.inr x) (.str x t)=true:=by simp[Ny,Value.isStrOf]
theorem af3 (a b:Int):decide ((Sum.inl a:Key)=Sum.inl b)=(a==b):=by
 by_cases e:a=b
 . subst e;simp
 have h:¬ (Sum.inl a:Key)=Sum.inl b:=fun q=>e (Sum.inl.inj q)
 rw[decide_eq_false h]
 exact(beq_eq_false_iff_ne.mpr e).symm
theorem ah4 (a b:Str):decide ((Sum.inr a:Key)=Sum.inr b)=decide (a=b):=by
 by_cases e:a=b
 . subst e;simp
 have h:¬ (Sum.inr a:Key)=Sum.inr b:=fun q=>e (Sum.inr.inj q)
 rw[decide_eq_false h,decide_eq_false e]
theorem ac3 (a:Int)(b:Str):decide ((Sum.inl a:Key)=Sum.inr b)=false:=decide_eq_false (fun q=>nomatch q)
theorem ai0 (a:Str)(b:Int):decide ((Sum.inr a:Key)=Sum.inl b)=false:=decide_eq_false (fun q=>nomatch q)
def Az (prog:Program)(w:World):PySem.KeyKind prog w Key where
 is:=Ny
 hash:=keyH w
 inj:=fun v a b ha hb=>by
  rcases Ba ha with ⟨i,t,rfl,rfl⟩ | ⟨x,t,rfl,rfl⟩
  . rcases Ba hb with ⟨j,u,rfl,e⟩ | ⟨y,u,rfl,e⟩
    . injection e with e1 _;rw[e1]
    exact nomatch e
  rcases Ba hb with ⟨j,u,rfl,e⟩ | ⟨y,u,rfl,e⟩
  . exact nomatch e
  injection e with e1 _;rw[e1]
 byValue:=fun k v h=>by
  rcases Ba h with ⟨i,t,rfl,rfl⟩ | ⟨x,t,rfl,rfl⟩<;>rfl
 pyHash:=fun hv h=>by
  rcases Ba hv with ⟨i,t,rfl,rfl⟩ | ⟨x,t,rfl,rfl⟩
  . exact wpAny_pyHash_int h
  exact wpAny_pyHash_str h
 eqBool:=fun hu hv h=>by
  rcases Ba hu with ⟨i,t,rfl,rfl⟩ | ⟨x,t,rfl,rfl⟩
  . rcases Ba hv with ⟨j,u,rfl,rfl⟩ | ⟨y,u,rfl,rfl⟩
    . rw[af3] at h;exact wpAny_eqBool_int h
    rw[ac3] at h;exact SeqAt.EqAt.int_str i t y u _ _ _ _ h
  rcases Ba hv with ⟨j,u,rfl,rfl⟩ | ⟨y,u,rfl,rfl⟩
  . rw[ai0] at h;exact SeqAt.EqAt.str_int x t j u _ _ _ _ h
  rw[ah4] at h;exact wpAny_eqBool_str h
 «strs»:=fun k x t v h=>by
  rcases Ba h with ⟨i,u,rfl,e⟩ | ⟨y,u,rfl,e⟩
  . exact nomatch e
  injection e with e1 _
  subst e1
  cases v<;>rfl
theorem Oy (prog:Program)(w:World)(i:Int)(t:Tok):(Az prog w).is (.inl i) (.int i t)=true:=Ry i t
theorem Ox (prog:Program)(w:World)(x:Str)(t:Tok):(Az prog w).is (.inr x) (.str x t)=true:=Nx x t
inductive V where
 | non | bl (b:Bool) | int (i:Int) | str (x:Str) | byt (b:Array UInt8) | flt (b:UInt64) | ref (a:Addr) | ty (n:String)
 deriving DecidableEq
def RelV:V->Value->Prop
 | .non,u=>u=Value.none
 | .bl b,u=>u=Value.bool b
 | .int i,u=>∃ t,u=Value.int i t
 | .str x,u=>∃ t,u=Value.str x t
 | .byt b,u=>∃ t,u=Value.bytes b t
 | .flt b,u=>∃ t,u=Value.float b t
 | .ref a,u=>u=Value.ref a
 | .ty n,u=>u=Value.type n
abbrev Vals:List V->List Value->Prop:=Paired RelV
theorem Vals.length {xs:List V} {us:List Value} (r:Vals xs us):xs.length=us.length:=Paired.length r
theorem Vals.get:∀ {xs:List V} {us:List Value} {i:Nat} {x:V},Vals xs us->xs[i]? = some x->∃ u,us[i]? = some u/\RelV x u
 | _,_,_,_,.nil,e=>by simp at e
 | _,_,0,_,.cons r _,e=>by simp at e;subst e;exact⟨_,rfl,r⟩
 | _,_,i+1,x,.cons _ t,e=>by
   obtain⟨u,h1,h2⟩:=Vals.get (i:=i) (x:=x) t (by simpa using e)
   exact⟨u,by simpa using h1,h2⟩
theorem Vals.set {x:V}{u:Value}(r:RelV x u):∀ {xs:List V} {us:List Value} (i:Nat),Vals xs us->Vals (xs.set i x) (us.set i u)
 | _,_,_,.nil=>.nil
 | _,_,0,.cons _ t=>.cons r t
 | _,_,i+1,.cons q t=>.cons q (Vals.set r i t)
theorem Vals.append:∀ {xs ys:List V} {us ws:List Value},Vals xs us->Vals ys ws->Vals (xs++ys) (us++ws)
 | _,_,_,_,.nil,s=>s
 | _,_,_,_,.cons r t,s=>.cons r (Vals.append t s)
theorem Vals.take:∀ {xs:List V} {us:List Value} (n:Nat),Vals xs us->Vals (xs.take n) (us.take n)
 | _,_,0,_=>.nil
 | _,_,_+1,.nil=>.nil
 | _,_,n+1,.cons r t=>.cons r (Vals.take n t)
theorem Vals.drop:∀ {xs:List V} {us:List Value} (n:Nat),Vals xs us->Vals (xs.drop n) (us.drop n)
 | _,_,0,r=>r
 | _,_,_+1,.nil=>.nil
 | _,_,n+1,.cons _ t=>Vals.drop n t
def RelO:Option V->Option Value->Prop
 | some v,some u=>RelV v u
 | none,none=>True
 | _,_=>False
def KV {κ:Type}:List (κ×V)->List (κ×Value)->Prop:=Paired fun(p:κ×V) (q:κ×Value)=>p.1=q.1/\RelV p.2 q.2
def kV:Key->V
 | .inl i=>.int i
 | .inr x=>.str x
def IsTupN (h:Heap)(a:Addr)(items:Array Value):Prop:=∃ o,h.get? a=some o/\o.cls = .type "tuple" /\ (∃ n,o.data = .seq items n)/\o.dict=none
theorem IsTupN.tup {h:Heap}{a:Addr}{items:Array Value}(x:IsTupN h a items):IsTup h a items:=let ⟨o,h1,h2,⟨n,h3⟩,_⟩:=x;⟨o,h1,h2,n,h3⟩
theorem IsTupN.new (h:Heap)(its:Array Value):IsTupN (h.push { cls:=.type "tuple",data:=.seq its }) h.objs.size its:=⟨_,Heap.get?_push_size _ rfl,rfl,⟨_,rfl⟩,rfl⟩
inductive HO where
 | lst (xs:List V)
 | tup (xs:List V)
 | dK (kvs:List (Key×V)) | dT (kvs:List (List Key×V))
 | set (S:Int->Bool) (n:Nat)
 | ins (C dx:Addr) (fs:List (Str×V))
 | own (x:Addr)
 | xd (fs:List (Str×V))
 | met (f x:Addr)
 | rng (lo hi:Int)
 | frz (o:Obj) (u:HO)
 | tbl (ps:Array Value)
 | ext (φ:Heap->Prop)
abbrev Hp:=Addr->Option HO
def upd (H:Hp)(a:Addr)(o:HO):Hp:=fun b=>if b=a then some o else H b
theorem A9 {H:Hp}{a:Addr}{o:HO}:upd H a o a=some o:=by unfold upd;rw[if_pos rfl]
theorem Ap {H:Hp}{a b:Addr}{o:HO}(h:b≠a):upd H a o b=H b:=by unfold upd;rw[if_neg h]
theorem ne_of {H:Hp}{a b:Addr}{o u:HO}(h:H a=some o)(h':H b=some u)(d:o≠u):a≠b:=by
 intro e;subst e;rw[h] at h';exact d (Option.some.inj h')
theorem ne_of_none {H:Hp}{a b:Addr}{o:HO}(h:H a=some o)(h':H b=none):a≠b:=by
 intro e;subst e;rw[h] at h';cases h'
section
variable (P:Program)(w:World)
def ObjOk (H:Hp)(h:Heap)(a:Addr):HO->Prop
 | .lst xs=>xs.length<=sizeLine/\∃(its:List Value) (n:Nat),Vals xs its/\h.get? a=some { cls:=.type "list",data:=.seq its.toArray n }
 | .tup xs=>xs.length<=sizeLine/\∃ its:List Value,Vals xs its/\IsTupN h a its.toArray
 | .dK kvs=>kvs.length<=sizeLine/\(a==sysModules)=false/\∃ vs,KV kvs vs/\h.DictOf (Az P w) a vs
 | .dT kvs=>kvs.length<=sizeLine/\(a==sysModules)=false/\∃ xs:List (List Key×Addr×Value),
   Paired (fun(p:List Key×V) (q:List Key×Addr×Value)=>p.1=q.1/\H q.2.1=some (.tup (p.1.map kV))/\RelV p.2 q.2.2) kvs xs /\
   ∃ o es ep,h.get? a=some o/\o.ExactDict/\o.data = .dict es ep/\es.toList=xs.map (entryOfKey (tupleKind (Az P w)))/\(xs.map (·.1)).Nodup
 | .set S n=>h.SetOf (intKind P w) a S n
 | .ins C dx fs=>H dx=some (.own a)/\fs.length<=1000/\dx≠a/\h.get? a=some (PySem.W.instObj C dx) /\
   ∃ mA,h.Ns1 dx mA/\(∀ f,RelO (fs.lookup f) (mA f))/\PySem.Within mA (fs.map (·.1))
 | .own _=>∃ o,h.get? a=some o
 | .xd fs=>∃ mA,h.Ns1 a mA/\∀ f,RelO (fs.lookup f) (mA f)
 | .rng lo hi=>∃ t u v,h.get? a=some { cls:=.type "range",data:=.fields #[.int lo t,.int hi u,.int 1 v] }
 | .frz o u=>h.get? a=some o/\ObjOk H h a u
 | .tbl ps=>h.get? a=some { cls:=.none,data:=.fields ps }
 | .met f x=>h.get? a=some (PySem.W.methodObj (.ref f) (.ref x))
 | .ext φ=>φ h/\(∃ o,h.get? a=some o)/\∀ h1 h2:Heap,φ h1->(∀ o,h1.get? a=some o->h2.get? a=some o)->φ h2
def HOk (H:Hp)(h:Heap):Prop:=∀ a o,H a=some o->ObjOk P w H h a o
end
section
variable {P:Program}{w:World}{H H':Hp}{h h':Heap}{a:Addr}{o:HO}
theorem ObjOk.lt (x:ObjOk P w H h a o):a<h.objs.size:=by
 cases o with
 | lst xs=>obtain⟨_,_,_,_,e⟩:=x;exact Heap.lt_size e
 | tup xs=>obtain⟨_,_,_,p⟩:=x;exact p.tup.lt
 | dK kvs=>obtain⟨_,_,_,_,o,_,_,e,_⟩:=x;exact Heap.lt_size e
 | dT kvs=>obtain⟨_,_,_,_,o,_,_,e,_⟩:=x;exact Heap.lt_size e
 | set S n=>obtain⟨o,_,_,_,e,_⟩:=x;exact Heap.lt_size e
 | ins C dx fs=>obtain⟨_,_,_,e,_⟩:=x;exact Heap.lt_size e
 | own y=>obtain⟨_,e⟩:=x;exact Heap.lt_size e
 | xd fs=>obtain⟨_,⟨_,_,_,e,_⟩,_⟩:=x;exact Heap.lt_size e
 | rng lo hi=>obtain⟨_,_,_,e⟩:=x;exact Heap.lt_size e
 | frz ob u=>obtain⟨e,_⟩:=x;exact Heap.lt_size e
 | tbl ps=>exact Heap.lt_size (show h.get? a=some _ from x)
 | met f y=>exact Heap.lt_size (show h.get? a=some _ from x)
 | ext φ=>obtain⟨_,⟨_,e⟩,_⟩:=x;exact Heap.lt_size e
theorem Paired.mapP {α β:Type}{F G:α->β->Prop}:∀ {l₁:List α} {l₂:List β},Paired F l₁ l₂->(∀ a b,F a b->G a b)->Paired G l₁ l₂
 | _,_,.nil,_=>.nil
 | _,_,.cons r t,f=>.cons (f _ _ r) (Paired.mapP t f)
theorem ObjOk.stay (x:ObjOk P w H h a o)(k:∀ b u,(b=a\/H b=some (.own a))->h.get? b=some u->h'.get? b=some u)
  (ho:∀ b,H b=some (.own a)->H' b=some (.own a)) (ht:∀ b xs,H b=some (.tup xs)->H' b=some (.tup xs)):ObjOk P w H' h' a o:=by
 induction o with
 | lst xs=>obtain⟨z,its,n,r,e⟩:=x;exact⟨z,its,n,r,k _ _ (.inl rfl) e⟩
 | tup xs=>obtain⟨z,its,r,ob,e,c⟩:=x;exact⟨z,its,r,ob,k _ _ (.inl rfl) e,c⟩
 | dK kvs=>obtain⟨z,y,vs,r,ob,es,ep,e,c⟩:=x;exact⟨z,y,vs,r,ob,es,ep,k _ _ (.inl rfl) e,c⟩
 | dT kvs=>
   obtain⟨z,y,xs,r,ob,es,ep,e,c⟩:=x
   exact⟨z,y,xs,Paired.mapP r fun p q z=>⟨z.1,ht _ _ z.2.1,z.2.2⟩,ob,es,ep,k _ _ (.inl rfl) e,c⟩
 | set S n=>obtain⟨ob,es,ep,t,e,c⟩:=x;exact⟨ob,es,ep,t,k _ _ (.inl rfl) e,c⟩
 | ins C dx fs=>
   obtain⟨d,z,ne,e,mA,⟨od,es,ep,e2,c⟩,r⟩:=x
   exact⟨ho _ d,z,ne,k _ _ (.inl rfl) e,mA,⟨od,es,ep,k _ _ (.inr d) e2,c⟩,r⟩
 | own y=>obtain⟨ob,e⟩:=x;exact⟨ob,k _ _ (.inl rfl) e⟩
 | xd fs=>obtain⟨mA,⟨od,es,ep,e,c⟩,r⟩:=x;exact⟨mA,⟨od,es,ep,k _ _ (.inl rfl) e,c⟩,r⟩
 | rng lo hi=>obtain⟨t,u,v,e⟩:=x;exact⟨t,u,v,k _ _ (.inl rfl) e⟩
 | frz ob u ih=>obtain⟨e,q⟩:=x;exact⟨k _ _ (.inl rfl) e,ih q⟩
 | tbl ps=>
   have e:h.get? a=some { cls:=.none,data:=.fields ps }:=x
   show h'.get? a=some { cls:=.none,data:=.fields ps }
   exact k a _ (.inl rfl) e
 | met f y=>
   have e:h.get? a=some (PySem.W.methodObj (.ref f) (.ref y)):=x
   show h'.get? a=some (PySem.W.methodObj (.ref f) (.ref y))
   exact k a _ (.inl rfl) e
 | ext φ=>obtain⟨p,⟨o,e⟩,st⟩:=x;exact⟨st _ _ p fun o q=>k _ _ (.inl rfl) q,⟨o,k _ _ (.inl rfl) e⟩,st⟩
theorem HOk.lt (x:HOk P w H h)(e:H a=some o):a<h.objs.size:=(x a o e).lt
theorem HOk.fresh (x:HOk P w H h)(e:h.objs.size<=a):H a=none:=by
 cases q:H a with
 | none=>rfl
 | some u=>exact absurd (Nat.lt_of_lt_of_le (x.lt q) e) (Nat.lt_irrefl _)
theorem HOk.kept (x:HOk P w H h)(k:∀ b u,h.get? b=some u->h'.get? b=some u):HOk P w H h':=fun a o e=>
 (x a o e).stay (fun b u _ q=>k b u q) (fun _ q=>q) fun _ _ q=>q
theorem HOk.laid (x:HOk P w H h)(k:∀ b u,h.get? b=some u->h'.get? b=some u)(hp:h.objs.size<=a)(new:ObjOk P w (upd H a o) h' a o):HOk P w (upd H a o) h':=fun b u e=>by
 have hn:=x.fresh hp
 by_cases hb:b=a
 . subst hb;rw[A9] at e;cases e;exact new
 rw[Ap hb] at e
 exact(x b u e).stay (fun c v _ q=>k c v q) (fun c q=>by rw[Ap (ne_of_none q hn)];exact q) fun c xs q=>by rw[Ap (ne_of_none q hn)];exact q
end
def Rd (H:Hp)(a:Addr)(u:HO):Prop:=H a=some u\/∃ o,H a=some (.frz o u)
theorem Rd.ok {P:Program}{w:World}{H:Hp}{h:Heap}{a:Addr}{u:HO}(r:Rd H a u)(x:HOk P w H h):ObjOk P w H h a u:=by
 rcases r with r | ⟨o,r⟩
 . exact x a u r
 obtain⟨_,q⟩:=x a _ r
 exact q
def Mut:Option HO->Prop
 | some (.lst _)=>True
 | some (.dK _)=>True
 | some (.dT _)=>True
 | some (.set _ _)=>True
 | some (.ins _ _ _)=>True
 | some (.ext _)=>True
 | _=>False
section
variable {P:Program}{w:World}{H:Hp}{h h':Heap}{x e:Addr}{o':HO}
theorem HOk.write (ok:HOk P w H h)(mu:Mut (H x))(he:e=x\/H e=some (.own x))(k:∀ b u,b≠e->h.get? b=some u->h'.get? b=some u)(heo:∃ u,h'.get? e=some u)
  (new:ObjOk P w (upd H x o') h' x o'):HOk P w (upd H x o') h':=fun b u q=>by
 have nown:∀ c y,H c=some (.own y)->c≠x:=fun c y r z=>by subst z;rw[r] at mu;exact mu
 have ntup:∀ c xs,H c=some (.tup xs)->c≠x:=fun c xs r z=>by subst z;rw[r] at mu;exact mu
 by_cases hb:b=x
 . subst hb;rw[A9] at q;cases q;exact new
 rw[Ap hb] at q
 by_cases hbe:b=e
 . have q':H b=some (.own x):=by
    rcases he with z | z
    . exact absurd (hbe.trans z) hb
    rw[hbe];exact z
   rw[q] at q';cases q'
   obtain⟨v,hv⟩:=heo
   exact⟨v,by rw[hbe];exact hv⟩
 refine(ok b u q).stay (fun c v hc r=>k c v ?_ r) (fun c r=>by rw[Ap (nown c b r)];exact r) fun c xs r=>by rw[Ap (ntup c xs r)];exact r
 rcases hc with rfl | hc
 . exact hbe
 rintro rfl
 rcases he with z | z
 . exact nown c b hc z
 rw[hc] at z;cases z;exact hb rfl
end
structure Un (fs ex:List Addr)(H H':Hp)(h h':Heap):Prop where
 keep:∀ b o,h.get? b=some o->H b=none->b∉fs->b∉ex->h'.get? b=some o
 slot:∀ b o,h.get? b=some o->H b=none->b∈fs->b∉ex->∃ sl,h'.get? b=some { o with slots:=sl }
 free:∀ b o,h.get? b=some o->H b=none->b∉ex->H' b=none
 there:∀ b o,h.get? b=some o->b∉ex->∃ o',h'.get? b=some o'
 tups:∀ b xs,H b=some (.tup xs)->H' b=some (.tup xs)
 frzs:∀ b o u,H b=some (.frz o u)->H' b=some (.frz o u)
 tbls:∀ b ps,H b=some (.tbl ps)->∃ more,H' b=some (.tbl (ps++more))
section
variable {fs fs' ex ex':List Addr}{H H1 H2:Hp}{h h1 h2 h':Heap}{a x e:Addr}{o:HO}
theorem Un.any (u:Un fs ex H H1 h h1){b:Addr}{ob:Obj}(q:h.get? b=some ob)(n:H b=none)(hx:b∉ex):∃ sl,h1.get? b=some { ob with slots:=sl }:=by
 by_cases hb:b∈fs
 . exact u.slot b ob q n hb hx
 exact⟨ob.slots,u.keep b ob q n hb hx⟩
theorem Un.kept (k:∀ b u,h.get? b=some u->h'.get? b=some u):Un fs ex H H h h':=
 ⟨fun b ob q _ _ _=>k b ob q,fun b ob q _ _ _=>⟨ob.slots,k b ob q⟩,fun _ _ _ n _=>n,fun b ob q _=>⟨ob,k b ob q⟩,fun _ _ q=>q,fun _ _ _ q=>q,fun _ ps q=>⟨#[],by rw[q];simp⟩⟩
theorem Un.refl:Un fs ex H H h h:=Un.kept fun _ _ q=>q
theorem Un.laid (k:∀ b u,h.get? b=some u->h'.get? b=some u)(hp:h.objs.size<=a)(hn:H a=none):Un fs ex H (upd H a o) h h' where
 keep:=fun b u q _ _ _=>k b u q
 slot:=fun b u q _ _ _=>⟨u.slots,k b u q⟩
 free:=fun b u q n _=>by rw[Ap (Nat.ne_of_lt (Nat.lt_of_lt_of_le (Heap.lt_size q) hp))];exact n
 there:=fun b u q _=>⟨u,k b u q⟩
 tups:=fun b xs q=>by rw[Ap (ne_of_none q hn)];exact q
 frzs:=fun b u xs q=>by rw[Ap (ne_of_none q hn)];exact q
 tbls:=fun b ps q=>⟨#[],by rw[Ap (ne_of_none q hn),q];simp⟩
theorem Un.write (mu:Mut (H x))(he:e=x\/H e=some (.own x))(k:∀ b u,b≠e->h.get? b=some u->h'.get? b=some u)(heo:∃ u,h'.get? e=some u):Un fs ex H (upd H x o) h h':=by
 have hx:∀ b,H b=none->b≠x:=fun b n z=>by subst z;rw[n] at mu;exact mu
 have hb:∀ b,H b=none->b≠e:=fun b n z=>by
  subst z
  rcases he with r | r
  . exact hx b n r
  rw[n] at r;cases r
 have hm:∀ b u,H b=some u->¬ Mut (some u)->b≠x:=fun b u q nm z=>by subst z;rw[q] at mu;exact nm mu
 refine⟨fun b u q n _ _=>k b u (hb b n) q,fun b u q n _ _=>⟨u.slots,k b u (hb b n) q⟩,fun b u q n _=>by rw[Ap (hx b n)];exact n,fun b u q _=>?_,
  fun b xs q=>by rw[Ap (hm b _ q fun z=>z)];exact q,fun b u xs q=>by rw[Ap (hm b _ q fun z=>z)];exact q,fun b ps q=>⟨#[],by rw[Ap (hm b _ q fun z=>z),q];simp⟩⟩
 by_cases hbe:b=e
 . subst hbe;exact heo
 exact⟨u,k b u hbe q⟩
end
def trk (h:Heap)(H:Hp):List Addr:=(List.range h.objs.size).filter fun a=>(H a).isSome
def W6 (h:Heap)(H:Hp):Heap:=PySem.W.hideAll h (trk h H)
theorem Sj (h:Heap)(H:Hp):(W6 h H).objs.size=h.objs.size:=PySem.W.hideAll_size _ _
theorem Vf {h:Heap}{H:Hp}{b:Addr}{o:Obj}(e:h.get? b=some o)(n:H b=none):(W6 h H).get? b=some o:=
 PySem.W.hideAll_get _ e fun hm=>by
  have q:(H b).isSome=true:=(List.mem_filter.mp hm).2
  rw[n] at q;simp at q
theorem a04 {h:Heap}{H:Hp}{b:Addr}{o:Obj}(e:(W6 h H).get? b=some o):h.get? b=some o/\H b=none:=by
 have e':h.get? b=some o:=PySem.W.of_hideAll (trk h H) e
 refine⟨e',?_⟩
 cases q:H b with
 | none=>rfl
 | some x=>
   have hm:b∈trk h H:=List.mem_filter.mpr ⟨List.mem_range.mpr (Heap.lt_size e'),by simp[q]⟩
   have z:(W6 h H).get? b=none:=PySem.W.hideAll_none (trk h H) hm
   rw[z] at e;cases e
def Zh (g h:Heap)(L:Addr):List (Addr×Obj):=(List.range h.objs.size).filterMap fun a=>if a=L\/(g.get? a).isSome=true then none else(h.get? a).map fun o=>(a,o)
def rest (g h:Heap)(L d:Addr):List (Addr×Obj):=(Zh g h L).filter fun p=>decide (p.1≠d)
structure Mod (K:PySem.W.Frag)(mg:Str->Option Value)(base:Heap):Prop where
 kin:K.In base
 glob:base.Ns mainGlobals mg
 blt:∃ mb,base.Ns builtinsNs mb/\∀ x:Str,x ≠ "__name__" -> mb x=bootBuiltins x
 nolimit:base.NoLimit
/-- the context: a def's body (or a comprehension's block) running. base: fixed through the whole law;s₀,H₀: the entry;outer: the frames whose slots others may change (a def's callers);stack: all frames that run;
  ex: iterators that were made ahead of the entry and are walked here (a comprehension's);fn: the names whose cells were made at the entry (a def: all;a comprehension's block: its own);calm: not within an except suite;pn: pins that every state bears;xe: what is wanted of an exception that leaves the code -/
structure Cx where
 prog:Program
 w:World
 K:PySem.W.Frag
 mg:Str->Option Value
 base:Heap
 A:Around
 N:List Str
 s₀:Shared
 H₀:Hp
 env:Env
 outer:List Env
 stack:List Env
 ex:List Addr
 fn:Str->Bool
 calm:Bool
 pn:List (Addr×Obj)
 xe:Value->Shared->Prop
def frs (l:List Env):List Addr:=l.filterMap (·.frame)
abbrev Cx.fs (X:Cx):List Addr:=frs X.outer
def Vis (sc:Scope)(x:Str):Prop:=sc.names.lookup x=some .local\/sc.names.lookup x=some .cell\/sc.names.lookup x=some .free
def Loc (sc:Scope)(x:Str):Prop:=sc.names.lookup x=some .local\/sc.names.lookup x=some .cell
def Look (env:Env)(h:Heap)(m:Str->Option Value)(x:Str)(u:Value):Prop:=
 (env.kindOf x=some .local/\m x=some u)\/((env.kindOf x=some .cell\/env.kindOf x=some .free)/\∃ c,env.cells.lookup x=some c/\h.IsCell c (some u))
structure Cx.Ok (X:Cx):Prop where
 mod:Mod X.K X.mg X.base
 kind:X.env.scope.kind = .function
 glob:X.env.globals=mainGlobals
 blt:X.env.builtins=builtinsNs
 above:X.s₀.heap.objs.size<=X.env.locals
 inj:∀ x y c,X.env.cells.lookup x=some c->X.env.cells.lookup y=some c->x=y
 has:∀ x,(X.env.kindOf x=some .cell\/X.env.kindOf x=some .free)->∃ c,X.env.cells.lookup x=some c
 cab:∀ x c,X.fn x=true->X.env.cells.lookup x=some c->X.s₀.heap.objs.size<=c
 hd:X.calm=true->X.A.handled=none
 frames:X.A.frames=some X.stack
 stk:X.stack=X.outer\/(X.stack=X.env :: X.outer/\X.env.frame=some X.env.locals)
 exf:∀ b∈X.ex,b≠X.env.locals/\∀ x c,X.env.cells.lookup x=some c->c≠b
 bs:∀ b o,X.base.get? b=some o->X.s₀.heap.get? b=some o/\X.H₀ b=none
 bsz:X.base.objs.size<=X.s₀.heap.objs.size
 noex:∀ b o,X.base.get? b=some o->b∉X.ex
 exfs:∀ b∈X.ex,b∉X.fs
 funs:X.s₀.heap.FunFrames X.base X.outer
 frf:∀ b∈X.fs,X.H₀ b=none
structure Inv (X:Cx)(pins:List (Addr×Obj))(σ:List (Option V))(H:Hp)(s:Shared):Prop where
 ok:X.Ok
 os:s.os=X.s₀.os
 bare:AllBare s.gens
 base:Un X.fs X.ex X.H₀ H X.s₀.heap s.heap
 loc:∃ m,s.heap.Ns X.env.locals m/\∀(i:Nat) (x:Str) (v:V),X.N[i]? = some x->σ[i]? = some (some v)->Vis X.env.scope x->∃ u,RelV v u/\Look X.env s.heap m x u
 cell:∀ x c,X.env.cells.lookup x=some c->∃ v,s.heap.IsCell c v
 free:H X.env.locals=none
 freeC:∀ x c,X.env.cells.lookup x=some c->H c=none
 pin:∀ p∈X.pn++pins,s.heap.get? p.1=some p.2/\H p.1=none/\p.1≠X.env.locals/\p.1∉X.fs/\∀ v,p.2.data ≠ .cell v
 hok:HOk X.prog X.w H s.heap
 len:σ.length=X.N.length
section
variable {X:Cx}{pins:List (Addr×Obj)}{σ:List (Option V)}{H H':Hp}{s:Shared}{h':Heap}
theorem Cx.Ok.nofr (ok:X.Ok){b:Addr}{o:Obj}(e:X.base.get? b=some o):b∉X.fs:=fun hb=>by
 have:=(ok.funs.mem hb).1
 rw[e] at this;cases this
theorem Inv.bs (I:Inv X pins σ H s):∀ b o,X.base.get? b=some o->s.heap.get? b=some o/\H b=none:=fun b o e=>
 ⟨I.base.keep b o (I.ok.bs b o e).1 (I.ok.bs b o e).2 (I.ok.nofr e) (I.ok.noex b o e),I.base.free b o (I.ok.bs b o e).1 (I.ok.bs b o e).2 (I.ok.noex b o e)⟩
theorem Inv.bk (I:Inv X pins σ H s):∀ b o,X.base.get? b=some o->s.heap.get? b=some o:=fun b o e=>(I.bs b o e).1
theorem Inv.mod (I:Inv X pins σ H s):Mod X.K X.mg X.base:=I.ok.mod
theorem Inv.kIn (I:Inv X pins σ H s):X.K.In s.heap:=I.ok.mod.kin.keeps I.bk
theorem Inv.lt (I:Inv X pins σ H s):X.env.locals<s.heap.objs.size:=let ⟨_,hn,_⟩:=I.loc;hn.lt
theorem Inv.sz (I:Inv X pins σ H s):X.s₀.heap.objs.size<=s.heap.objs.size:=Nat.le_trans I.ok.above (Nat.le_of_lt I.lt)
theorem Inv.nofs (I:Inv X pins σ H s){a:Addr}(h:s.heap.objs.size<=a):a∉X.fs:=fun hb=>by
 obtain⟨_,o,ho,_⟩:=I.ok.funs.mem hb
 exact absurd (Nat.lt_of_lt_of_le (Heap.lt_size ho) (Nat.le_trans I.sz h)) (Nat.lt_irrefl _)
theorem Inv.cne (I:Inv X pins σ H s):∀ x c,X.env.cells.lookup x=some c->c≠X.env.locals:=fun x c e z=>by
 obtain⟨v,o,ho,hd⟩:=I.cell x c e
 obtain⟨m,⟨o',es,ep,ho',hd',_⟩,_⟩:=I.loc
 rw[z,ho'] at ho;cases ho;rw[hd'] at hd;cases hd
theorem Inv.funs (I:Inv X pins σ H s):s.heap.FunFrames X.base X.outer:=by
 have all:∀(l:List Env),(∀ b∈frs l,b∈X.fs)->X.s₀.heap.FunFrames X.base l->s.heap.FunFrames X.base l:=by
  intro l
  induction l with
  | nil=>intro _ _;trivial
  | cons env r ih=>
    intro hs hl
    obtain⟨hk,⟨L,o,hf,hn,ho,hd⟩,hr⟩:=hl
    have hL:L∈X.fs:=hs L (by unfold frs;rw[List.filterMap_cons,hf];exact List.mem_cons_self)
    obtain⟨sl,e⟩:=I.base.slot L o ho (I.ok.frf L hL) hL fun z=>I.ok.exfs L z hL
    exact⟨hk,⟨L,_,hf,hn,e,hd⟩,ih (fun b hb=>hs b (by unfold frs;rw[List.filterMap_cons,hf];exact List.mem_cons_of_mem _ hb)) hr⟩
 exact all X.outer (fun _ hb=>hb) I.ok.funs
theorem Inv.stack (I:Inv X pins σ H s):s.heap.FunFrames X.base X.stack:=by
 rcases I.ok.stk with e | ⟨e,hf⟩
 . rw[e];exact I.funs
 rw[e]
 obtain⟨m,hn,_⟩:=I.loc
 refine .cons (by rw[I.ok.kind];decide) hf hn ?_ I.funs
 exact Heap.get?_none_of_le (Nat.le_trans I.ok.bsz I.ok.above)
theorem Inv.stkSub (I:Inv X pins σ H s):∀ b∈frs X.stack,b∈X.env.locals :: X.fs:=fun b hb=>by
 rcases I.ok.stk with e | ⟨e,hf⟩
 . rw[e] at hb;exact List.mem_cons_of_mem _ hb
 rw[e] at hb
 unfold frs at hb
 rw[List.filterMap_cons,hf] at hb
 exact hb
theorem Inv.stkFree (I:Inv X pins σ H s):∀ b∈frs X.stack,H b=none:=fun b hb=>by
 rcases List.mem_cons.mp (I.stkSub b hb) with e | hb
 . rw[e];exact I.free
 obtain⟨_,o,ho,_⟩:=I.ok.funs.mem hb
 exact I.base.free b o ho (I.ok.frf b hb) fun z=>I.ok.exfs b z hb
theorem Inv.step {g':Array GenState}{t':Nat}{d':Drawn}{ch:List Addr}(I:Inv X pins σ H s)
  (hch:∀ b∈ch,(b∈X.ex\/X.s₀.heap.objs.size<=b)/\b≠X.env.locals/\(∀ x c,X.env.cells.lookup x=some c->c≠b)/\∀ p∈X.pn++pins,p.1≠b)
  (keep:∀ b o,b≠X.env.locals->b∉X.fs->b∉ch->s.heap.get? b=some o->H b=none->h'.get? b=some o)
  (slot:∀ b o,b≠X.env.locals->b∈X.fs->b∉ch->s.heap.get? b=some o->H b=none->∃ sl,h'.get? b=some { o with slots:=sl }) (free:∀ b o,b∉ch->s.heap.get? b=some o->H b=none->H' b=none)
  (there:∀ b o,b∉ch->s.heap.get? b=some o->∃ o',h'.get? b=some o')
  (tups:∀ b xs,H b=some (.tup xs)->H' b=some (.tup xs)) (frzs:∀ b o u,H b=some (.frz o u)->H' b=some (.frz o u)) (tbls:∀ b ps,H b=some (.tbl ps)->∃ more,H' b=some (.tbl (ps++more)))
  (ns:∀ m,s.heap.Ns X.env.locals m->h'.Ns X.env.locals m) (hok:HOk X.prog X.w H' h') (hg:AllBare g') :
  Inv X pins σ H' { s with heap:=h',gens:=g',drawn:=d',toks:=t' }:=by
 have neL:∀ b o,X.s₀.heap.get? b=some o->b≠X.env.locals:=fun b o e=>Nat.ne_of_lt (Nat.lt_of_lt_of_le (Heap.lt_size e) I.ok.above)
 have neC:∀ b o,X.s₀.heap.get? b=some o->b∉X.ex->b∉ch:=fun b o e hx hb=>by
  rcases(hch b hb).1 with z | z
  . exact hx z
  exact absurd (Nat.lt_of_lt_of_le (Heap.lt_size e) z) (Nat.lt_irrefl _)
 have cellK:∀ x c,X.env.cells.lookup x=some c->∀ v,s.heap.IsCell c v->h'.IsCell c v:=fun x c e v ⟨o,ho,hd⟩=>by
  have nch:c∉ch:=fun z=>(hch c z).2.2.1 x c e rfl
  by_cases hc:c∈X.fs
  . obtain⟨sl,q⟩:=slot c o (I.cne x c e) hc nch ho (I.freeC x c e)
    exact⟨_,q,hd⟩
  exact⟨o,keep c o (I.cne x c e) hc nch ho (I.freeC x c e),hd⟩
 refine⟨I.ok,I.os,hg,⟨fun b o e n hb hx=>?_,fun b o e n hb hx=>?_,fun b o e n hx=>?_,fun b o e hx=>?_,fun b xs e=>tups b xs (I.base.tups b xs e),fun b o xs e=>frzs b o xs (I.base.frzs b o xs e),fun b ps e=>?_⟩,?_,fun x c e=>?_,?_,fun x c e=>?_,fun p hp=>?_,hok,I.len⟩
 . exact keep b o (neL b o e) hb (neC b o e hx) (I.base.keep b o e n hb hx) (I.base.free b o e n hx)
 . obtain⟨sl,e1⟩:=I.base.slot b o e n hb hx
   obtain⟨sl',e2⟩:=slot b _ (neL b o e) hb (neC b o e hx) e1 (I.base.free b o e n hx)
   exact⟨sl',e2⟩
 . obtain⟨o',e1⟩:=I.base.there b o e hx
   exact free b o' (neC b o e hx) e1 (I.base.free b o e n hx)
 . obtain⟨o',e1⟩:=I.base.there b o e hx
   exact there b o' (neC b o e hx) e1
 . obtain⟨m1,e1⟩:=I.base.tbls b ps e
   obtain⟨m2,e2⟩:=tbls b _ e1
   exact⟨m1++m2,by rw[e2,Array.append_assoc]⟩
 . obtain⟨m,hn,hl⟩:=I.loc
   refine⟨m,ns m hn,fun i x v e1 e2 e3=>?_⟩
   obtain⟨u,r,l⟩:=hl i x v e1 e2 e3
   refine⟨u,r,?_⟩
   rcases l with l | ⟨k,c,e,z⟩
   . exact .inl l
   exact .inr ⟨k,c,e,cellK x c e _ z⟩
 . obtain⟨v,z⟩:=I.cell x c e
   exact⟨v,cellK x c e v z⟩
 . obtain⟨m,⟨o,_,_,ho,_⟩,_⟩:=I.loc
   exact free _ o (fun z=>(hch _ z).2.1 rfl) ho I.free
 . obtain⟨v,o,ho,hd⟩:=I.cell x c e
   exact free c o (fun z=>(hch c z).2.2.1 x c e rfl) ho (I.freeC x c e)
 obtain⟨e,n,ne,nf,d⟩:=I.pin p hp
 have nch:p.1∉ch:=fun z=>(hch p.1 z).2.2.2 p hp rfl
 exact⟨keep p.1 p.2 ne nf nch e n,free p.1 p.2 nch e n,ne,nf,d⟩
theorem Inv.un {t':Nat}(I:Inv X pins σ H s)(u:Un X.fs [] H H' s.heap h')(hok:HOk X.prog X.w H' h'):Inv X pins σ H' { s with heap:=h',toks:=t' }:=by
 obtain⟨m,⟨o,es,ep,ho,r⟩,_⟩:=id I.loc
 obtain⟨sl,hL⟩:=u.any ho I.free (by simp)
 exact I.step (g':=s.gens) (d':=s.drawn) (ch:=[]) (fun _ z=>nomatch z) (fun b o _ hb _ e n=>u.keep b o e n hb (by simp)) (fun b o _ hb _ e n=>u.slot b o e n hb (by simp)) (fun b o _ e n=>u.free b o e n (by simp)) (fun b o _ e=>u.there b o e (by simp)) u.tups u.frzs u.tbls (fun m' hm=>by
  obtain⟨o',es',ep',ho',r'⟩:=hm
  rw[ho] at ho';cases ho'
  exact⟨_,es',ep',hL,r'⟩) hok I.bare
theorem Inv.call {g':Array GenState}{t':Nat}{d':Drawn}{ch:List Addr}(I:Inv X pins σ H s)(u:Un (frs X.stack) ch H H' s.heap h')(hok:HOk X.prog X.w H' h')(hg:AllBare g')
  (hch:∀ b∈ch,(b∈X.ex\/X.s₀.heap.objs.size<=b)/\b≠X.env.locals/\(∀ x c,X.env.cells.lookup x=some c->c≠b)/\∀ p∈X.pn++pins,p.1≠b) :
  Inv X pins σ H' { s with heap:=h',gens:=g',drawn:=d',toks:=t' }:=by
 obtain⟨m,⟨o,es,ep,ho,r⟩,_⟩:=id I.loc
 obtain⟨sl,hL⟩:=u.any ho I.free fun z=>(hch _ z).2.1 rfl
 exact I.step (ch:=ch) hch (fun b o hL hb hc e n=>u.keep b o e n (fun z=>(List.mem_cons.mp (I.stkSub b z)).elim hL hb) hc) (fun b o _ _ hc e n=>u.any e n hc) (fun b o hc e n=>u.free b o e n hc) (fun b o hc e=>u.there b o e hc) u.tups u.frzs u.tbls (fun m' hm=>by
  obtain⟨o',es',ep',ho',r'⟩:=hm
  rw[ho] at ho';cases ho'
  exact⟨_,es',ep',hL,r'⟩) hok hg
theorem Inv.turned {t':Nat}{it:Addr}(I:Inv X pins σ H s)(k:∀ b o,b≠it->s.heap.get? b=some o->h'.get? b=some o)(hn:H it=none)(hL:it≠X.env.locals)
  (h1:it∈X.ex\/X.s₀.heap.objs.size<=it) (h2:∀ x c,X.env.cells.lookup x=some c->c≠it) (h3:∀ p∈X.pn++pins,p.1≠it):Inv X pins σ H { s with heap:=h',toks:=t' }:=by
 have nit:∀ b u,H b=some u->b≠it:=fun b u e z=>by rw[z,hn] at e;cases e
 refine I.step (g':=s.gens) (d':=s.drawn) (ch:=[it]) (fun b hb=>?_) (fun b o _ _ hc e _=>k b o (fun z=>hc (by simp[z])) e) (fun b o _ _ hc e _=>⟨o.slots,k b o (fun z=>hc (by simp[z])) e⟩) (fun _ _ _ _ n=>n)
  (fun b o hc e=>⟨o,k b o (fun z=>hc (by simp[z])) e⟩) (fun _ _ e=>e) (fun _ _ _ e=>e) (fun b ps e=>⟨#[],by rw[e];simp⟩) (fun m hm=>?_) (fun b u e=>?_) I.bare
 . have e:b=it:=by simpa using hb
   subst e
   exact⟨h1,hL,h2,h3⟩
 . obtain⟨o,es,ep,ho,r⟩:=hm
   exact⟨o,es,ep,k _ o (Ne.symm hL) ho,r⟩
 refine(I.hok b u e).stay (fun c v hc q=>k c v ?_ q) (fun _ q=>q) fun _ _ q=>q
 rcases hc with z | z
 . rw[z];exact nit b u e
 exact nit c _ z
theorem Inv.tok (I:Inv X pins σ H s)(t:Nat):Inv X pins σ H { s with toks:=t }:=I.un (h':=s.heap) (t':=t) Un.refl I.hok
theorem Inv.kept {t':Nat}(I:Inv X pins σ H s)(k:∀ b u,s.heap.get? b=some u->h'.get? b=some u):Inv X pins σ H { s with heap:=h',toks:=t' }:=I.un (Un.kept k) (I.hok.kept k)
theorem Inv.laid {a:Addr}{o:HO}{t':Nat}(I:Inv X pins σ H s)(k:∀ b u,s.heap.get? b=some u->h'.get? b=some u)(hp:s.heap.objs.size<=a)(new:ObjOk X.prog X.w (upd H a o) h' a o) :
  Inv X pins σ (upd H a o) { s with heap:=h',toks:=t' }:=I.un (Un.laid k hp (I.hok.fresh hp)) (I.hok.laid k hp new)
theorem Inv.write {x e:Addr}{o:HO}{t':Nat}(I:Inv X pins σ H s)(mu:Mut (H x))(he:e=x\/H e=some (.own x))(k:∀ b u,b≠e->s.heap.get? b=some u->h'.get? b=some u)(heo:∃ u,h'.get? e=some u)
  (new:ObjOk X.prog X.w (upd H x o) h' x o):Inv X pins σ (upd H x o) { s with heap:=h',toks:=t' }:=I.un (Un.write mu he k heo) (I.hok.write mu he k heo new)
theorem Inv.weak {σ':List (Option V)}(I:Inv X pins σ H s)(hl:σ'.length=σ.length)(w:∀(i:Nat) v,σ'[i]? = some (some v)->σ[i]? = some (some v)):Inv X pins σ' H s:=
 ⟨I.ok,I.os,I.bare,I.base,let ⟨m,hn,hl'⟩:=I.loc;⟨m,hn,fun i x v e1 e2 e3=>hl' i x v e1 (w i v e2) e3⟩,I.cell,I.free,I.freeC,I.pin,I.hok,hl.trans I.len⟩
theorem Inv.pins_of {pins':List (Addr×Obj)}(I:Inv X pins σ H s)(h:∀ p∈pins',s.heap.get? p.1=some p.2/\H p.1=none/\p.1≠X.env.locals/\p.1∉X.fs/\∀ v,p.2.data ≠ .cell v):Inv X pins' σ H s:=
 ⟨I.ok,I.os,I.bare,I.base,I.loc,I.cell,I.free,I.freeC,fun p hp=>(List.mem_append.mp hp).elim (fun z=>I.pin p (List.mem_append_left _ z)) (h p),I.hok,I.len⟩
theorem Lz {N:List Str}(hN:N.Nodup){i j:Nat}{x:Str}(a:N[i]? = some x)(b:N[j]? = some x):i=j:=by
 obtain⟨h1,e1⟩:=List.getElem?_eq_some_iff.mp a
 obtain⟨h2,e2⟩:=List.getElem?_eq_some_iff.mp b
 exact(List.getElem_inj hN).mp (e1.trans e2.symm)
theorem N4 {M:Model}{A:Around}{E:Value->Shared->Prop}{i:Nat}{x:Str}{v:V}{u:Value}{Q:Unit->Shared->Prop}(I:Inv X pins σ H s)(hN:X.N.Nodup)(hi:X.N[i]? = some x)(hx:Loc X.env.scope x)(r:RelV v u)
  (h:∀ s',Inv X pins (σ.set i (some v)) H s'->(∃ a,Heap.SameBut a s.heap s'.heap/\(a=X.env.locals\/X.env.cells.lookup x=some a))->Q () s') (hf:X.fn x=true\/X.env.scope.names.lookup x=some .local:=by with_unfolding_all (first | exact .inl rfl | exact .inr rfl | assumption)):wpAny M A (storeName X.env x u) Q E s:=by
 obtain⟨m,hn,hl⟩:=id I.loc
 have hcls:(X.env.scope.kind == .class||(X.env.scope.kind == .module&&X.env.locals != X.env.globals))=false:=by rw[I.ok.kind];rfl
 have hiσ:i<σ.length:=by rw[I.len];exact(List.getElem?_eq_some_iff.mp hi).1
 have cne:=I.cne
 have tracked:∀ {a:Addr} {h':Heap},(∃ o,s.heap.get? a=some o/\H a=none)->Heap.SameBut a s.heap h'->HOk X.prog X.w H h':=fun {a h'} ha hs b ob e=>by
  obtain⟨_,_,hfree⟩:=ha
  refine(I.hok b ob e).stay (fun c w' hc q=>(hs.2 c ?_).trans q) (fun _ q=>q) fun _ _ q=>q
  rintro rfl
  rcases hc with rfl | hc
  . rw[hfree] at e;cases e
  rw[hfree] at hc;cases hc
 rcases hx with hk | hk
 . refine wpAny_storeName_local hk hn (fun h' hn' hs=>?_) hcls
   obtain⟨oL,_,_,hoL,_⟩:=id hn
   refine h _ ⟨I.ok,I.os,I.bare,⟨fun b o e n hb hx=>?_,fun b o e n hb hx=>?_,I.base.free,fun b o e hx=>?_,I.base.tups,I.base.frzs,I.base.tbls⟩,⟨_,hn',fun j y v' e1 e2 e3=>?_⟩,fun y c e=>?_,I.free,I.freeC,fun p hp=>?_,tracked ⟨oL,hoL,I.free⟩ hs,by simpa using I.len⟩ ⟨_,hs,.inl rfl⟩
   . exact(hs.2 b (Nat.ne_of_lt (Nat.lt_of_lt_of_le (Heap.lt_size e) I.ok.above))).trans (I.base.keep b o e n hb hx)
   . obtain⟨sl,e1⟩:=I.base.slot b o e n hb hx
     exact⟨sl,(hs.2 b (Nat.ne_of_lt (Nat.lt_of_lt_of_le (Heap.lt_size e) I.ok.above))).trans e1⟩
   . obtain⟨o',e1⟩:=I.base.there b o e hx
     exact⟨o',(hs.2 b (Nat.ne_of_lt (Nat.lt_of_lt_of_le (Heap.lt_size e) I.ok.above))).trans e1⟩
   . by_cases hj:j=i
     . subst hj
       rw[hi] at e1;cases e1
       rw[List.getElem?_set_self hiσ] at e2
       cases e2
       exact⟨u,r,.inl ⟨hk,by simp⟩⟩
     rw[List.getElem?_set_ne (Ne.symm hj)] at e2
     obtain⟨u',r',q⟩:=hl j y v' e1 e2 e3
     refine⟨u',r',?_⟩
     rcases q with ⟨k,e⟩ | ⟨k,c,e,z⟩
     . refine .inl ⟨k,?_⟩
       have:y≠x:=fun e=>hj (Lz hN e1 (e ▸ hi))
       simp[this,e]
     exact .inr ⟨k,c,e,z.sameBut hs (cne y c e)⟩
   . obtain⟨w',z⟩:=I.cell y c e
     exact⟨w',z.sameBut hs (cne y c e)⟩
   obtain⟨e,n,ne,nf,d⟩:=I.pin p hp
   exact⟨(hs.2 p.1 ne).trans e,n,ne,nf,d⟩
 have hfn:X.fn x=true:=by
  rcases hf with z | z
  . exact z
  rw[z] at hk;cases hk
 obtain⟨c,hc⟩:=I.ok.has x (.inl hk)
 obtain⟨w',z⟩:=I.cell x c hc
 refine wpAny_storeName_cell I.ok.kind hk hc z (fun h' hc' hs=>?_)
 obtain⟨oc,hoc,hocd⟩:=id z
 refine h { s with heap:=h' } ⟨I.ok,I.os,I.bare,⟨fun b o e n hb hx=>?_,fun b o e n hb hx=>?_,I.base.free,fun b o e hx=>?_,I.base.tups,I.base.frzs,I.base.tbls⟩,⟨m,hn.sameBut hs (Ne.symm (cne x c hc)),fun j y v' e1 e2 e3=>?_⟩,fun y c' e=>?_,I.free,I.freeC,fun p hp=>?_,tracked ⟨oc,hoc,I.freeC x c hc⟩ hs,by simpa using I.len⟩ ⟨c,hs,.inr hc⟩
 . exact(hs.2 b (Nat.ne_of_lt (Nat.lt_of_lt_of_le (Heap.lt_size e) (I.ok.cab x c hfn hc)))).trans (I.base.keep b o e n hb hx)
 . obtain⟨sl,e1⟩:=I.base.slot b o e n hb hx
   exact⟨sl,(hs.2 b (Nat.ne_of_lt (Nat.lt_of_lt_of_le (Heap.lt_size e) (I.ok.cab x c hfn hc)))).trans e1⟩
 . obtain⟨o',e1⟩:=I.base.there b o e hx
   exact⟨o',(hs.2 b (Nat.ne_of_lt (Nat.lt_of_lt_of_le (Heap.lt_size e) (I.ok.cab x c hfn hc)))).trans e1⟩
 . by_cases hj:j=i
   . subst hj
     rw[hi] at e1;cases e1
     rw[List.getElem?_set_self hiσ] at e2
     cases e2
     exact⟨u,r,.inr ⟨.inl hk,c,hc,hc'⟩⟩
   rw[List.getElem?_set_ne (Ne.symm hj)] at e2
   obtain⟨u',r',q⟩:=hl j y v' e1 e2 e3
   refine⟨u',r',?_⟩
   rcases q with q | ⟨k,c',e,z'⟩
   . exact .inl q
   refine .inr ⟨k,c',e,z'.sameBut hs ?_⟩
   rintro rfl
   exact hj (Lz hN e1 (I.ok.inj _ _ _ e hc ▸ hi))
 . by_cases hcc:c'=c
   . subst hcc;exact⟨_,hc'⟩
   obtain⟨w2,z2⟩:=I.cell y c' e
   exact⟨w2,z2.sameBut hs hcc⟩
 obtain⟨e,n,ne,nf,d⟩:=I.pin p hp
 refine⟨(hs.2 p.1 ?_).trans e,n,ne,nf,d⟩
 intro q
 rw[q,hoc] at e
 have q':oc=p.2:=Option.some.inj e
 exact d w' (by rw[<- q'];exact hocd)
theorem Iw {M:Model}{A:Around}{E:Value->Shared->Prop}{i:Nat}{x:Str}{v:V}{u:Value}{Q:Unit->Shared->Prop}(I:Inv X pins σ H s)(hN:X.N.Nodup)(hi:X.N[i]? = some x)(hx:Loc X.env.scope x)(r:RelV v u)
  (h:∀ s',Inv X pins (σ.set i (some v)) H s'->Q () s') (hf:X.fn x=true\/X.env.scope.names.lookup x=some .local:=by with_unfolding_all (first | exact .inl rfl | exact .inr rfl | assumption)):wpAny M A (storeName X.env x u) Q E s:=
 N4 I hN hi hx r (fun s' I' _=>h s' I') hf
theorem Inv.call' {s':Shared}{ch:List Addr}(I:Inv X pins σ H s)(ho:s'.os=s.os)(u:Un (frs X.stack) ch H H' s.heap s'.heap)(hok:HOk X.prog X.w H' s'.heap)(hg:AllBare s'.gens)
  (hch:∀ b∈ch,(b∈X.ex\/X.s₀.heap.objs.size<=b)/\b≠X.env.locals/\(∀ x c,X.env.cells.lookup x=some c->c≠b)/\∀ p∈X.pn++pins,p.1≠b):Inv X pins σ H' s':=by
 obtain⟨h',g',d',t',o'⟩:=s'
 have e:o'=s.os:=ho
 subst e
 exact I.call (g':=g') (t':=t') (d':=d') u hok hg hch
end
abbrev XK:=Value->Option Addr->Hp->Prop
abbrev St:=List (Option V)
abbrev VK:=V->Hp->Prop
abbrev TE:=St->Hp->VK->Prop
abbrev TT:=St->Hp->(Bool->Hp->Prop)->Prop
abbrev TA:=St->Hp->(List V->Hp->Prop)->Prop
structure Ends where
 nx:St->Hp->Prop
 rt:VK
 bk:St->Hp->Prop:=fun _ _=>False
 ct:St->Hp->Prop:=fun _ _=>False
abbrev TS:=Ends->St->Hp->Prop
def EP (X:Cx)(pins:List (Addr×Obj))(σ:St)(Q:VK)(u:Value)(s':Shared):Prop:=∃ v H',Inv X pins σ H' s'/\RelV v u/\Q v H'
def TP (X:Cx)(pins:List (Addr×Obj))(σ:St)(Q:Bool->Hp->Prop)(b:Bool)(s':Shared):Prop:=∃ H',Inv X pins σ H' s'/\Q b H'
def AP (X:Cx)(pins:List (Addr×Obj))(σ:St)(Q:List V->Hp->Prop)(us:List Value)(s':Shared):Prop:=∃ vs H',Inv X pins σ H' s'/\Vals vs us/\Q vs H'
def SP (X:Cx)(pins:List (Addr×Obj))(D:Ends)(f:Flow)(s':Shared):Prop:=
 match f with
 | .next=>∃ σ' H',Inv X pins σ' H' s'/\D.nx σ' H'
 | .brk=>∃ σ' H',Inv X pins σ' H' s'/\D.bk σ' H'
 | .cont=>∃ σ' H',Inv X pins σ' H' s'/\D.ct σ' H'
 | .ret u=>∃ v σ' H',Inv X pins σ' H' s'/\RelV v u/\D.rt v H'
def PE (X:Cx)(e:Expr)(t:TE):Prop:=
 ∀(pins:List (Addr×Obj)) (s:Shared) (σ:St) (H:Hp) (Q:VK),Inv X pins σ H s->t σ H Q->wpAny (model X.prog X.w) X.A (eval e X.env) (EP X pins σ Q) X.xe s
def PT (X:Cx)(e:Expr)(t:TT):Prop:=
 ∀(pins:List (Addr×Obj)) (s:Shared) (σ:St) (H:Hp) (Q:Bool->Hp->Prop),Inv X pins σ H s->t σ H Q->wpAny (model X.prog X.w) X.A (isTrue e X.env (eval e X.env)) (TP X pins σ Q) X.xe s
def PW (X:Cx)(e:Expr)(t:TT):Prop:=
 ∀(whole:Sem Value) (pins:List (Addr×Obj)) (s:Shared) (σ:St) (H:Hp) (Q:Bool->Hp->Prop),Inv X pins σ H s->t σ H Q->wpAny (model X.prog X.w) X.A (isTrue e X.env whole) (TP X pins σ Q) X.xe s
theorem PW.pt {X:Cx}{e:Expr}{t:TT}(h:PW X e t):PT X e t:=h _
def PA (X:Cx)(es:List Expr)(t:TA):Prop:=
 ∀(pos:Pos) (pins:List (Addr×Obj)) (s:Shared) (σ:St) (H:Hp) (Q:List V->Hp->Prop),Inv X pins σ H s->t σ H Q->wpAny (model X.prog X.w) X.A (spliced (backTo pos (starEach es X.env))) (AP X pins σ Q) X.xe s
def PS (X:Cx)(st:Stmt)(t:TS):Prop:=
 ∀(pins:List (Addr×Obj)) (s:Shared) (σ:St) (H:Hp) (D:Ends),Inv X pins σ H s->t D σ H->wpAny (model X.prog X.w) X.A (exec st X.env) (SP X pins D) X.xe s
def PSs (X:Cx)(st:List Stmt)(t:TS):Prop:=
 ∀(pins:List (Addr×Obj)) (s:Shared) (σ:St) (H:Hp) (D:Ends),Inv X pins σ H s->t D σ H->wpAny (model X.prog X.w) X.A (execs st X.env) (SP X pins D) X.xe s
theorem thn {α:Type}{t:Sem α}{Q Q':α->Shared->Prop}{M:Model}{A:Around}{E:Value->Shared->Prop}{s:Shared}(h:wpAny M A t Q E s)(hQ:∀ a s,Q a s->Q' a s):wpAny M A t Q' E s:=wpAny_mono h hQ fun _ _ x=>x
section
variable {X:Cx}
def ak6 (i:Nat):TE:=fun σ H Q=>∃ v,σ[i]? = some (some v)/\Q v H
def tC (v:V):TE:=fun _ H Q=>Q v H
theorem ai3 {i:Nat}{x:Str}{pos:Pos}(hN:X.N[i]? = some x)(hv:Vis X.env.scope x)(hd:(x==("__debug__":Str))=false:=by decide)(hcd:(x==("__classdict__":Str))=false:=by decide):PE X (.Name x pos) (ak6 i):=by
 intro pins s σ H Q I h
 obtain⟨v,e,h⟩:=h
 obtain⟨m,hn,hl⟩:=I.loc
 obtain⟨u,r,l⟩:=hl i x v hN e hv
 have fin:EP X pins σ Q u s:=⟨v,H,I,r,h⟩
 rcases l with ⟨hk,hm⟩ | ⟨hk,c,hc,hcell⟩
 . exact wpAny_Name (wpAny_loadName_local I.ok.kind hk hn hm fin) hd
 rcases hk with hk | hk
 . exact wpAny_Name (wpAny_loadName_cell I.ok.kind hk hc hcell fin) hd
 exact wpAny_Name (wpAny_loadName_free I.ok.kind hk hc hcell fin hcd) hd
theorem A5 {i j pos}:PE X (.Constant (.int i) j pos) (tC (.int i)):=fun _ _ _ H _ I h=>wpAny_Constant_int ⟨.int i,H,I.tok _,⟨_,rfl⟩,h⟩
theorem Ch {b j pos}:PE X (.Constant (.bool b) j pos) (tC (.bl b)):=fun _ _ _ H _ I h=>Constant_bool ⟨.bl b,H,I,rfl,h⟩
theorem X5 {j pos}:PE X (.Constant .none j pos) (tC .non):=fun _ _ _ H _ I h=>Constant_none ⟨.non,H,I,rfl,h⟩
theorem Ar {x j pos}:PE X (.Constant (.str x) j pos) (tC (.str x)):=fun _ _ _ H _ I h=>Calls.Constant_str ⟨.str x,H,I.tok _,⟨_,rfl⟩,h⟩
def Gl (X:Cx)(x:Str):Prop:=X.env.kindOf x=some .globalImplicit
theorem Hi {E:Value->Shared->Prop}{pins:List (Addr×Obj)}{s:Shared}{σ:St}{H:Hp}{x:Str}{u:Value}{pos:Pos}{Q:Value->Shared->Prop}(I:Inv X pins σ H s)(hg:Gl X x)(hm:X.mg x=some u)(h:Q u s)
  (hd:(x==("__debug__":Str))=false:=by decide):wpAny (model X.prog X.w) X.A (eval (.Name x pos) X.env) Q E s:=
 Calls.Name_function_global I.ok.kind hg (Calls.loadGlobal_global (by rw[I.ok.glob];exact I.mod.glob.keeps I.bk) hm h) hd
theorem J1 {E:Value->Shared->Prop}{pins:List (Addr×Obj)}{s:Shared}{σ:St}{H:Hp}{x:Str}{u:Value}{pos:Pos}{Q:Value->Shared->Prop}(I:Inv X pins σ H s)(hg:Gl X x)(hm:X.mg x=none)(hv:bootBuiltins x=some u)(h:Q u s)
  (hn:x ≠ "__name__":=by decide) (hd:(x==("__debug__":Str))=false:=by decide):wpAny (model X.prog X.w) X.A (eval (.Name x pos) X.env) Q E s:=by
 obtain⟨mb,h1,h2⟩:=I.mod.blt
 exact Calls.Name_function_global I.ok.kind hg (Calls.loadGlobal_builtin (by rw[I.ok.glob];exact I.mod.glob.keeps I.bk) hm (by rw[I.ok.blt];exact h1.keeps I.bk) ((h2 x hn).trans hv) h) hd
theorem Zk {x:Str}{v:V}{u:Value}{pos:Pos}(hg:Gl X x)(hm:X.mg x=some u)(r:RelV v u)(hd:(x==("__debug__":Str))=false:=by decide):PE X (.Name x pos) (tC v):=
 fun _ _ _ H _ I h=>Hi I hg hm ⟨v,H,I,r,h⟩ hd
theorem L4 {x:Str}{v:V}{u:Value}{pos:Pos}(hg:Gl X x)(hm:X.mg x=none)(hv:bootBuiltins x=some u)(r:RelV v u)(hn:x ≠ "__name__":=by decide)(hd:(x==("__debug__":Str))=false:=by decide):PE X (.Name x pos) (tC v):=
 fun _ _ _ H _ I h=>J1 I hg hm hv ⟨v,H,I,r,h⟩ hn hd
variable {a b:Expr}{ta tb:TE}{pos:Pos}
def tB (t:TE):TT:=fun σ H Q=>t σ H fun x H1=>∃ c,x = .bl c/\Q c H1
theorem Ev {e:Expr}{t:TE}(h:PE X e t)(he:∀ whole,isTrue e X.env whole=(do let v <- whole;standAt e.pos;holding [v] (truthy v)):=by intro _;ac_nf):PT X e (tB t):=by
 intro pins s σ H Q I hw
 refine isTrue_plain (thn (h pins s σ H _ I hw) fun v s1 ⟨x,H1,I1,r1,q1⟩=>?_) (he _)
 obtain⟨d,rfl,q⟩:=q1
 cases r1
 exact wpAny_truthy_bool ⟨H1,I1,q⟩
variable {tA tB':TT}{rest:List Expr}
def aq4 (t u:TT):TT:=fun σ H Q=>t σ H fun c H1=>if c=true then u σ H1 Q else Q false H1
def tOr (t u:TT):TT:=fun σ H Q=>t σ H fun c H1=>if c=true then Q true H1 else u σ H1 Q
def ar7 (t:TT):TT:=fun σ H Q=>t σ H fun c H1=>Q (!c) H1
theorem Jf (ha:PT X a tA):PW X (.BoolOp .And [a] pos) tA:=by
 intro wh pins s σ H Q I h
 refine isTrue_and (thn (ha pins s σ H Q I h) fun c s1 e=>?_)
 cases c with
 | true=>exact isTrue_and_nil e
 | false=>exact e
theorem Kp (ha:PT X a tA):PW X (.BoolOp .Or [a] pos) tA:=by
 intro wh pins s σ H Q I h
 refine isTrue_or (thn (ha pins s σ H Q I h) fun c s1 e=>?_)
 cases c with
 | false=>exact isTrue_or_nil e
 | true=>exact e
theorem O3 (ha:PT X a tA)(hb:PW X (.BoolOp .And (b :: rest) pos) tB'):PW X (.BoolOp .And (a :: b :: rest) pos) (aq4 tA tB'):=by
 intro wh pins s σ H Q I h
 refine isTrue_and (thn (ha pins s σ H _ I h) fun c s1 ⟨H1,I1,q1⟩=>?_)
 cases c with
 | true=>exact hb wh pins s1 σ H1 Q I1 q1
 | false=>exact⟨H1,I1,q1⟩
theorem Rb (ha:PT X a tA)(hb:PW X (.BoolOp .Or (b :: rest) pos) tB'):PW X (.BoolOp .Or (a :: b :: rest) pos) (tOr tA tB'):=by
 intro wh pins s σ H Q I h
 refine isTrue_or (thn (ha pins s σ H _ I h) fun c s1 ⟨H1,I1,q1⟩=>?_)
 cases c with
 | true=>exact⟨H1,I1,q1⟩
 | false=>exact hb wh pins s1 σ H1 Q I1 q1
theorem Gi (ha:PT X a tA):PT X (.UnaryOp .Not a pos) (ar7 tA):=by
 intro pins s σ H Q I h
 exact isTrue_not (ha pins s σ H (fun c H1=>Q (!c) H1) I h)
def ae0 (ta tb:TE):TE:=fun σ H Q=>ta σ H fun x H1=>∃ c,x = .bl c/\if c=true then tb σ H1 Q else Q (.bl false) H1
def ap4 (ta tb:TE):TE:=fun σ H Q=>ta σ H fun x H1=>∃ c,x = .bl c/\if c=true then Q (.bl true) H1 else tb σ H1 Q
theorem Yp {op}{t:TE}(h:PE X a t):PE X (.BoolOp op [a] pos) t:=fun pins s σ H Q I hw=>BoolOp_one (h pins s σ H Q I hw)
theorem a93 (ha:PE X a ta)(hb:PE X (.BoolOp .And (b :: rest) pos) tb):PE X (.BoolOp .And (a :: b :: rest) pos) (ae0 ta tb):=by
 intro pins s σ H Q I h
 refine BoolOp_and (thn (ha pins s σ H _ I h) fun v s1 ⟨x,H1,I1,r1,q1⟩=>?_)
 obtain⟨c,rfl,q1⟩:=q1
 cases r1
 refine wpAny_truthy_bool ?_
 cases c with
 | true=>exact hb pins s1 σ H1 Q I1 q1
 | false=>exact⟨.bl false,H1,I1,rfl,q1⟩
theorem ao3 (ha:PE X a ta)(hb:PE X (.BoolOp .Or (b :: rest) pos) tb):PE X (.BoolOp .Or (a :: b :: rest) pos) (ap4 ta tb):=by
 intro pins s σ H Q I h
 refine BoolOp_or (thn (ha pins s σ H _ I h) fun v s1 ⟨x,H1,I1,r1,q1⟩=>?_)
 obtain⟨c,rfl,q1⟩:=q1
 cases r1
 refine wpAny_truthy_bool ?_
 cases c with
 | false=>exact hb pins s1 σ H1 Q I1 q1
 | true=>exact⟨.bl true,H1,I1,rfl,q1⟩
def tIf (t:TT)(ta tb:TE):TE:=fun σ H Q=>t σ H fun c H1=>if c=true then ta σ H1 Q else tb σ H1 Q
theorem Vv {c:Expr}(hc:PT X c tA)(ha:PE X a ta)(hb:PE X b tb):PE X (.IfExp c a b pos) (tIf tA ta tb):=by
 intro pins s σ H Q I h
 refine wpAny_IfExp (thn (hc pins s σ H _ I h) fun d s1 ⟨H1,I1,q1⟩=>?_)
 cases d with
 | true=>exact ha pins s1 σ H1 Q I1 q1
 | false=>exact hb pins s1 σ H1 Q I1 q1
end
def SqL (K:PySem.W.Frag)(H:Hp)(a:Addr)(xs:List V):Prop:=
 Rd H a (.lst xs) \/
  ∃(o:Obj) (its:Array Value) (n:Nat),K.lookup a=some o/\o.cls = .type "list" /\ o.dict=none/\o.data = .seq its n/\its.size<=sizeLine/\Vals xs its.toList
def SqT (K:PySem.W.Frag)(H:Hp)(a:Addr)(xs:List V):Prop:=
 Rd H a (.tup xs) \/
  ∃(o:Obj) (its:Array Value) (n:Nat),K.lookup a=some o/\o.cls = .type "tuple" /\ o.data = .seq its n/\its.size<=sizeLine/\Vals xs its.toList/\o.dict=none
def absV:Value->Option V
 | .none=>some .non
 | .bool b=>some (.bl b)
 | .int i _=>some (.int i)
 | .str x _=>some (.str x)
 | .bytes b _=>some (.byt b)
 | .float b _=>some (.flt b)
 | .ref a=>some (.ref a)
 | .type n=>some (.ty n)
 | _=>none
theorem RelV.abs {x:V}{u:Value}(r:RelV x u):absV u=some x:=by
 cases x with
 | non=>cases r;rfl
 | bl _=>cases r;rfl
 | int _=>obtain⟨t,rfl⟩:=r;rfl
 | str _=>obtain⟨t,rfl⟩:=r;rfl
 | byt _=>obtain⟨t,rfl⟩:=r;rfl
 | flt _=>obtain⟨t,rfl⟩:=r;rfl
 | ref _=>cases r;rfl
 | ty _=>cases r;rfl
theorem RelV.inj {x y:V}{u:Value}(r:RelV x u)(q:RelV y u):x=y:=Option.some.inj (r.abs.symm.trans q.abs)
theorem Vals.inj:∀ {xs ys:List V} {us:List Value},Vals xs us->Vals ys us->xs=ys
 | _,_,_,.nil,.nil=>rfl
 | _,_,_,.cons r t,.cons r' t'=>by rw[r.inj r',Vals.inj t t']
section
variable {X:Cx}{pins:List (Addr×Obj)}{σ:St}{H:Hp}{s:Shared}{a:Addr}{xs ys:List V}
theorem SqL.of {K:PySem.W.Frag}(h:H a=some (.lst xs)):SqL K H a xs:=.inl (.inl h)
theorem SqT.of {K:PySem.W.Frag}(h:H a=some (.tup xs)):SqT K H a xs:=.inl (.inl h)
theorem Inv.list (I:Inv X pins σ H s)(h:SqL X.K H a xs):∃ its:List Value,Vals xs its/\PlainL s.heap a its.toArray/\xs.length<=sizeLine:=by
 rcases h with h | ⟨o,its,n,hk,hc,hd,hs,hz,r⟩
 . obtain⟨z,its,n,r,e⟩:=h.ok I.hok
   exact⟨its,r,⟨_,n,e,rfl,rfl,rfl⟩,z⟩
 refine⟨its.toList,r,⟨o,n,I.kIn a o hk,hc,hd,by simpa using hs⟩,?_⟩
 have e:=r.length
 simp only[Array.length_toList] at e
 omega
theorem Inv.tuple (I:Inv X pins σ H s)(h:SqT X.K H a xs):∃ its:List Value,Vals xs its/\IsTup s.heap a its.toArray/\xs.length<=sizeLine:=by
 rcases h with h | ⟨o,its,n,hk,hc,hs,hz,r,hn⟩
 . obtain⟨z,its,r,p⟩:=h.ok I.hok
   exact⟨its,r,p.tup,z⟩
 refine⟨its.toList,r,⟨o,I.kIn a o hk,hc,n,by simpa using hs⟩,?_⟩
 have e:=r.length
 simp only[Array.length_toList] at e
 omega
theorem Inv.tupleN (I:Inv X pins σ H s)(h:SqT X.K H a xs):∃ ob,s.heap.get? a=some ob/\ob.dict=none:=by
 rcases h with h | ⟨o,its,n,hk,hc,hs,hz,r,hn⟩
 . obtain⟨z,its,r,o,h1,_,_,h2⟩:=h.ok I.hok
   exact⟨o,h1,h2⟩
 exact⟨o,I.kIn a o hk,hn⟩
theorem Inv.list_inj (I:Inv X pins σ H s)(h:SqL X.K H a xs)(h':SqL X.K H a ys):xs=ys:=by
 obtain⟨its,r,⟨o,n,e,_,_,d⟩,_⟩:=I.list h
 obtain⟨its',r',⟨o',n',e',_,_,d'⟩,_⟩:=I.list h'
 rw[e] at e';cases e'
 rw[d] at d'
 injection d' with d1 _
 have:its=its':=by simpa using congrArg Array.toList d1
 subst this
 exact r.inj r'
theorem Inv.tuple_inj (I:Inv X pins σ H s)(h:SqT X.K H a xs)(h':SqT X.K H a ys):xs=ys:=by
 obtain⟨its,r,⟨o,e,_,n,d⟩,_⟩:=I.tuple h
 obtain⟨its',r',⟨o',e',_,n',d'⟩,_⟩:=I.tuple h'
 rw[e] at e';cases e'
 rw[d] at d'
 injection d' with d1 _
 have:its=its':=by simpa using congrArg Array.toList d1
 subst this
 exact r.inj r'
end
abbrev Cx.wish (X:Cx)(E:Value->Shared->Prop):Cx:={ X with xe:=E }
abbrev Cx.nox (X:Cx):Cx:=X.wish fun _ _=>False
theorem Cx.Ok.wish {X:Cx}(ok:X.Ok)(E:Value->Shared->Prop):(X.wish E).Ok:=
 ⟨ok.mod,ok.kind,ok.glob,ok.blt,ok.above,ok.inj,ok.has,ok.cab,ok.hd,ok.frames,ok.stk,ok.exf,ok.bs,ok.bsz,ok.noex,ok.exfs,ok.funs,ok.frf⟩
theorem Cx.Ok.unwish {X:Cx}{E:Value->Shared->Prop}(ok:(X.wish E).Ok):X.Ok:=
 ⟨ok.mod,ok.kind,ok.glob,ok.blt,ok.above,ok.inj,ok.has,ok.cab,ok.hd,ok.frames,ok.stk,ok.exf,ok.bs,ok.bsz,ok.noex,ok.exfs,ok.funs,ok.frf⟩
section
variable {X:Cx}{pins:List (Addr×Obj)}{σ:St}{H:Hp}{s:Shared}{E:Value->Shared->Prop}
theorem Inv.wish (I:Inv X pins σ H s)(E:Value->Shared->Prop):Inv (X.wish E) pins σ H s:=⟨I.ok.wish E,I.os,I.bare,I.base,I.loc,I.cell,I.free,I.freeC,I.pin,I.hok,I.len⟩
theorem Inv.unwish (I:Inv (X.wish E) pins σ H s):Inv X pins σ H s:=⟨I.ok.unwish,I.os,I.bare,I.base,I.loc,I.cell,I.free,I.freeC,I.pin,I.hok,I.len⟩
theorem SP.unwish {D:Ends}{f:Flow}{s':Shared}(h:SP (X.wish E) pins D f s'):SP X pins D f s':=by
 cases f with
 | next=>obtain⟨σ',H',I,q⟩:=h;exact⟨σ',H',I.unwish,q⟩
 | brk=>obtain⟨σ',H',I,q⟩:=h;exact⟨σ',H',I.unwish,q⟩
 | cont=>obtain⟨σ',H',I,q⟩:=h;exact⟨σ',H',I.unwish,q⟩
 | ret u=>obtain⟨v,σ',H',I,r,q⟩:=h;exact⟨v,σ',H',I.unwish,r,q⟩
theorem PSs.nox {st:List Stmt}{t:TS}(h:PSs X.nox st t):PSs X st t:=fun pins s σ H D I hw=>
 wpAny_mono (h pins s σ H D (I.wish _) hw) (fun _ _ q=>q.unwish) fun _ _ z=>False.elim z
end
section
variable {X:Cx}{st:Stmt}{rest:List Stmt}{t u:TS}{e:Expr}{te:TE}{pos:Pos}
def ah5:TS:=fun D σ H=>D.nx σ H
def aj7 (t u:TS):TS:=fun D σ H=>t { D with nx:=u D } σ H
theorem Ai:PSs X [] ah5:=fun _ _ σ H _ I h=>wpAny_execs_nil ⟨σ,H,I,h⟩
theorem A1 (h1:PS X st t) (h2:PSs X rest u):PSs X (st :: rest) (aj7 t u):=by
 intro pins s σ H D I h
 refine wpAny_execs_cons (thn (h1 pins s σ H { D with nx:=u D } I h) fun f s1 q=>?_)
 cases f with
 | next=>
   obtain⟨σ',H',I',q⟩:=q
   exact h2 pins s1 σ' H' D I' q
 | ret v=>exact q
 | brk=>exact q
 | cont=>exact q
theorem A3 (h1:PS X st t):PSs X [st] t:=by
 intro pins s σ H D I h
 refine wpAny_execs_cons (thn (h1 pins s σ H D I h) fun f s1 q=>?_)
 cases f with
 | next=>exact wpAny_execs_nil q
 | ret v=>exact q
 | brk=>exact q
 | cont=>exact q
theorem Inv.quiet {pins:List (Addr×Obj)}{σ:St}{H:Hp}{s:Shared}(I:Inv X pins σ H s):interactive X.env=false:=by simp[interactive,I.ok.kind]
def a86 (te:TE):TS:=fun D σ H=>te σ H fun _ H1=>D.nx σ H1
theorem Di (he:PE X e te)(hs:swapsWith e none pos.line X.env=pure false:=by ac_nf):PS X (.Expr e pos) (a86 te):=by
 intro pins s σ H D I h
 exact wpAny_Expr_any (thn (he pins s σ H _ I h) fun v s1 ⟨x,H1,I1,r1,q1⟩=>⟨σ,H1,I1,q1⟩) I.quiet hs
def ao7 (te:TE):TS:=fun D σ H=>te σ H D.rt
theorem Al (he:PE X e te):PS X (.Return (some e) pos) (ao7 te):=by
 intro pins s σ H D I h
 exact wpAny_Return_some (thn (he pins s σ H _ I h) fun v s1 ⟨x,H1,I1,r1,q1⟩=>⟨x,σ,H1,I1,r1,q1⟩)
def ar2 (c:TT)(t u:TS):TS:=fun D σ H=>c σ H fun b H1=>if b=true then t D σ H1 else u D σ H1
theorem Be {c:Expr}{a b:List Stmt}{tc:TT}(hc:PT X c tc)(ha:PSs X a t)(hb:PSs X b u):PS X (.If c a b pos) (ar2 tc t u):=by
 intro pins s σ H D I h
 refine wpAny_If (thn (hc pins s σ H _ I h) fun d s1 ⟨H1,I1,q1⟩=>?_)
 cases d with
 | true=>exact ha pins s1 σ H1 D I1 q1
 | false=>exact hb pins s1 σ H1 D I1 q1
def ac2:TS:=fun _ _ _=>False
theorem Q9:PS X st ac2:=fun _ _ _ _ _ _ h=>h.elim
end
abbrev TG:=V->St->Hp->(St->Hp->Prop)->Prop
abbrev TGs:=List V->St->Hp->(St->Hp->Prop)->Prop
def PG (X:Cx)(target:Expr)(t:TG):Prop:=
 ∀(pins:List (Addr×Obj)) (s:Shared) (σ:St) (H:Hp) (v:V) (u:Value) (Q:St->Hp->Prop),Inv X pins σ H s->RelV v u->t v σ H Q ->
  wpAny (model X.prog X.w) X.A (assign target X.env u) (fun _ s'=>∃ σ' H',Inv X pins σ' H' s'/\Q σ' H') X.xe s
def PGs (X:Cx)(ts:List Expr)(t:TGs):Prop:=
 ∀(pins:List (Addr×Obj)) (s:Shared) (σ:St) (H:Hp) (vs:List V) (us:List Value) (Q:St->Hp->Prop),Inv X pins σ H s->Vals vs us->t vs σ H Q ->
  wpAny (model X.prog X.w) X.A (assignInOrder ((assignEach ts X.env).map (·.2)) us) (fun _ s'=>∃ σ' H',Inv X pins σ' H' s'/\Q σ' H') X.xe s
abbrev ak1:=V->V->V->Hp->(Hp->Prop)->Prop
def aq6 (X:Cx)(t:ak1):Prop:=
 ∀(pins:List (Addr×Obj)) (s:Shared) (σ:St) (H:Hp) (o i v:V) (ov iv u:Value) (Q:Hp->Prop),Inv X pins σ H s->RelV o ov->RelV i iv->RelV v u->t o i v H Q ->
  wpAny (model X.prog X.w) X.A (setItem ov iv u) (fun _ s'=>∃ H',Inv X pins σ H' s'/\Q H') X.xe s
section
variable {X:Cx}{pos:Pos}
def Nc (i:Nat):TG:=fun v σ H Q=>Q (σ.set i (some v)) H
theorem Ae {i:Nat}{x:Str}(hN:X.N.Nodup)(hi:X.N[i]? = some x)(hx:Loc X.env.scope x)(hf:X.fn x=true\/X.env.scope.names.lookup x=some .local:=by with_unfolding_all (first | exact .inl rfl | exact .inr rfl | assumption)):PG X (.Name x pos) (Nc i):=by
 intro pins s σ H v u Q I r h
 exact wpAny_assign_Name (Iw I hN hi hx r (fun s' I'=>⟨_,H,I',h⟩) hf)
def aq2:TGs:=fun vs σ H Q=>vs=[]/\Q σ H
def a30 (t:TG)(u:TGs):TGs:=fun vs σ H Q=>∃ v r,vs=v :: r/\t v σ H fun σ' H'=>u r σ' H' Q
theorem Uw:PGs X [] aq2:=by
 intro pins s σ H vs us Q I r h
 obtain⟨e,h⟩:=h
 subst e
 cases r
 exact assignInOrder_nil ⟨σ,H,I,h⟩
theorem Ir {e:Expr}{es:List Expr}{t:TG}{u:TGs}(h1:PG X e t)(h2:PGs X es u)
  (hs:(assignEach (e :: es) X.env).map (·.2)=assign e X.env :: (assignEach es X.env).map (·.2):=by ac_nf):PGs X (e :: es) (a30 t u):=by
 intro pins s σ H vs us Q I r h
 obtain⟨v,vr,e1,h⟩:=h
 subst e1
 cases r with
 | cons r rr=>
   rw[hs]
   refine assignInOrder_cons (thn (h1 pins s σ H _ _ _ I r h) fun _ s1 ⟨σ1,H1,I1,q1⟩=>?_)
   exact h2 pins s1 σ1 H1 _ _ Q I1 rr q1
def al5 (K:PySem.W.Frag)(n:Nat)(t:TGs):TG:=fun v σ H Q=>∃ a xs,v = .ref a/\SqT K H a xs/\xs.length=n/\t xs σ H Q
theorem ai1 {es:List Expr}{k:Nat}{t:TGs}{n:Nat}(hc:X.calm=true)(h:PGs X es t)
  (hn:(assignEach es X.env).length=n:=by ac_nf) (hst:(assignEach es X.env).findIdx? (·.1)=none:=by ac_nf):PG X (.Tuple es k pos) (al5 X.K n t):=by
 intro pins s σ H v u Q I r hw
 obtain⟨a,xs,e1,hq,hl,hw⟩:=hw
 subst e1
 cases r
 obtain⟨its,rv,ht,hz⟩:=I.tuple hq
 refine assign_Tuple_tuple (I.ok.hd hc) ht (by simp[hn,<- hl,rv.length]) hst fun h' hx=>?_
 have I1:Inv X pins σ H { s with heap:=h' }:=I.kept (t':=s.toks) fun b o e=>hx b o (Nat.ne_of_lt (Heap.lt_size e)) e
 exact h pins _ σ H xs _ Q I1 (by simpa using rv) hw
def ap5 (to ti:TE)(t:ak1):TG:=fun v σ H Q=>to σ H fun o H1=>ti σ H1 fun i H2=>t o i v H2 fun H3=>Q σ H3
theorem Y1 {o i:Expr}{to ti:TE}{t:ak1}(ho:PE X o to)(hi:PE X i ti)(hs:aq6 X t)
  (ha:∀ v,assign (.Subscript o i pos) X.env v=(do
   let ov <- holding [v] (eval o X.env)
   let iv <- holding [v,ov] (eval i X.env)
   standAt pos
   holding [v,ov,iv] (setItem ov iv v)
   release [v,ov,iv] []):=by intro _;ac_nf):PG X (.Subscript o i pos) (ap5 to ti t):=by
 intro pins s σ H v u Q I r h
 rw[ha]
 refine wpAny_bind (wpAny_holding (thn (ho pins s σ H _ I h) fun ov s1 ⟨x,H1,I1,r1,q1⟩=>?_))
 refine wpAny_bind (wpAny_holding (thn (hi pins s1 σ H1 _ I1 q1) fun iv s2 ⟨y,H2,I2,r2,q2⟩=>?_))
 refine wpAny_bind (wpAny_standAt (wpAny_bind (wpAny_holding (thn (hs pins s2 σ H2 x y v ov iv u _ I2 r1 r2 r q2) fun _ s3 ⟨H3,I3,q3⟩=>?_))))
 exact wpAny_release ⟨σ,H3,I3,q3⟩
def a73 (te:TE)(g:TG):TS:=fun D σ H=>te σ H fun x H1=>g x σ H1 D.nx
theorem Xd {tg e:Expr}{te:TE}{g:TG}(he:PE X e te)(hg:PG X tg g)(hs:swapsWithSole [tg] e pos.line X.env=pure false:=by ac_nf)(hw:swappedStores [tg] e X.env=pure none:=by ac_nf)
  (h1:(assignEach [tg] X.env).map (·.2)=[assign tg X.env]:=by ac_nf):PS X (.Assign [tg] e pos) (a73 te g):=by
 intro pins s σ H D I h
 refine wpAny_Assign_stores (thn (he pins s σ H _ I h) fun v s1 ⟨x,H1,I1,r1,q1⟩=>?_) hs hw
 rw[h1]
 exact thn (hg pins s1 σ H1 x v _ I1 r1 q1) fun _ s2 q=>q
theorem A7 {i:Nat}{x:Str}{e:Expr}{te:TE}{pos':Pos}(hN:X.N.Nodup)(hi:X.N[i]? = some x)(hx:Loc X.env.scope x)(he:PE X e te)(hs:swapsWith e (some (.Name x pos')) pos.line X.env=pure false:=by ac_nf)(hf:X.fn x=true\/X.env.scope.names.lookup x=some .local:=by with_unfolding_all (first | exact .inl rfl | exact .inr rfl | assumption)) :
  PS X (.Assign [.Name x pos'] e pos) (a73 te (Nc i)):=by
 intro pins s σ H D I h
 refine wpAny_Assign_Name (thn (he pins s σ H _ I h) fun v s1 ⟨y,H1,I1,r1,q1⟩=>?_) hs
 exact Iw I1 hN hi hx r1 (fun s2 I2=>⟨_,H1,I2,q1⟩) hf
end
section
variable {X:Cx}{pos:Pos}
def Y6 (c:TT)(tb:TS):TS:=fun D σ H=>∃ W:Nat->St->Hp->Prop,(∃ m,W m σ H)/\∀ m σ H,W m σ H ->
 c σ H fun b H1=>if b=true then ∃ N:St->Hp->Prop,(∀ σ' H',N σ' H'->∃ m',m'<m/\W m' σ' H')/\tb { D with nx:=N,ct:=N,bk:=D.nx } σ H1 else D.nx σ H1
theorem Qd {c:Expr}{body:List Stmt}{tc:TT}{tb:TS}(hp:PassesOwn (model X.prog X.w) X.A X.env X.xe)(hc:PT X c tc)(hb:PSs X body tb):PS X (.While c body [] pos) (Y6 tc tb):=by
 intro pins s σ H D I h
 obtain⟨W,⟨m0,w0⟩,turn⟩:=h
 refine wpAny_While (codeAny_whileLoop (fun n s'=>∃ σ' H',Inv X pins σ' H' s'/\W n σ' H') ?_ m0 ⟨σ,H,I,w0⟩)
 rintro n s1 ⟨σ1,H1,I1,w1⟩
 refine wpAny_passesOwn hp (thn (hc pins s1 σ1 H1 _ I1 (turn n σ1 H1 w1)) fun b s2 ⟨H2,I2,q2⟩=>?_)
 cases b with
 | true=>
   obtain ⟨N,hN,q2⟩:=q2
   rw[if_pos rfl]
   refine wpAny_passesOwn hp (thn (hb pins s2 σ1 H2 _ I2 q2) fun f s3 q3=>?_)
   cases f with
   | next=>
     obtain⟨σ3,H3,I3,n3⟩:=q3
     obtain⟨m',hm,w3⟩:=hN σ3 H3 n3
     exact⟨m',hm,σ3,H3,I3,w3⟩
   | cont=>
     obtain⟨σ3,H3,I3,n3⟩:=q3
     obtain⟨m',hm,w3⟩:=hN σ3 H3 n3
     exact⟨m',hm,σ3,H3,I3,w3⟩
   | brk=>exact q3
   | ret v=>exact q3
 | false=>
   rw[if_neg Bool.false_ne_true]
   exact wpAny_execs_nil ⟨σ1,H2,I2,q2⟩
end
structure It where
 go:Nat->Hp->Prop
 yld:Nat->Hp->V->Hp->Prop
 stop:Nat->Hp->Prop
def R4 (X:Cx)(pins:List (Addr×Obj))(H:Hp)(b:Addr):Prop:=
 H b=none/\b≠X.env.locals/\b∉X.fs/\(b∈X.ex\/X.s₀.heap.objs.size<=b)/\(∀ x c,X.env.cells.lookup x=some c->c≠b)/\∀ p∈X.pn++pins,p.1≠b
theorem Inv.fpOk {X:Cx}{pins:List (Addr×Obj)}{σ:St}{H H':Hp}{s:Shared}{b:Addr}(I:Inv X pins σ H s)(hb:s.heap.objs.size<=b)(hn:H' b=none):R4 X pins H' b:=by
 refine⟨hn,Nat.ne_of_gt (Nat.lt_of_lt_of_le I.lt hb),I.nofs hb,.inr (Nat.le_trans I.sz hb),fun x c e z=>?_,fun p hp z=>?_⟩
 . obtain⟨v,q⟩:=I.cell x c e
   exact absurd (Nat.lt_of_lt_of_le q.lt (by rw[z];exact hb)) (Nat.lt_irrefl _)
 exact absurd (Nat.lt_of_lt_of_le (Heap.lt_size (I.pin p hp).1) (by rw[z];exact hb)) (Nat.lt_irrefl _)
structure Yq (P:Program)(w:World)(K:PySem.W.Frag)(tg:Expr)(J:It)(fp:List Addr)(it:Addr)(tn:Nat->Heap->Prop):Prop where
 mem:it∈fp
 obj:∀ i h,tn i h->∀ b∈fp,∃ o,h.get? b=some o/\∀ v,o.data ≠ .cell v
 keep:∀ i h h',tn i h->(∀ b∈fp,∀ o,h.get? b=some o->h'.get? b=some o)->tn i h'
 item:∀(X:Cx),X.prog=P->X.w=w->X.K=K->X.calm=true->∀(i:Nat) (pins:List (Addr×Obj)) (s:Shared) (σ:St) (H:Hp) (E:Value->Shared->Prop),Inv X pins σ H s->(∀ b∈fp,R4 X pins H b)->tn i s.heap->J.go i H ->
  wpAny (model P w) X.A (pyNext (.ref it)) (fun r s1=>∃ u,r=some u /\
   wpAny (model P w) X.A (letOwnedTupleGo tg (.ref it) u) (fun _ s2=>∃ x H',Inv X pins σ H' s2/\RelV x u/\J.yld i H x H'/\tn (i+1) s2.heap/\∀ b∈fp,H' b=none) E s1) E s
 done:∀(X:Cx),X.prog=P->X.w=w->X.K=K->X.calm=true->∀(i:Nat) (pins:List (Addr×Obj)) (s:Shared) (σ:St) (H:Hp) (E:Value->Shared->Prop),Inv X pins σ H s->(∀ b∈fp,R4 X pins H b)->tn i s.heap->J.stop i H ->
  wpAny (model P w) X.A (pyNext (.ref it)) (fun r s1=>r=none/\Inv X pins σ H s1) E s
 self:∀(A:Around) (i:Nat) (s:Shared) (Q:Value->Shared->Prop) (E:Value->Shared->Prop),tn i s.heap->Q (.ref it) s->wpAny (model P w) A (pyIter (.ref it)) Q E s
abbrev TI:=St->Hp->(It->Hp->Prop)->Prop
def PIE (X:Cx)(pins:List (Addr×Obj))(σ:St)(tg:Expr)(R:It->Hp->Prop)(itv:Value)(s2:Shared):Prop:=
 ∃(it:Addr) (fp:List Addr) (tn:Nat->Heap->Prop) (J:It) (H':Hp),itv = .ref it/\Inv X pins σ H' s2/\Yq X.prog X.w X.K tg J fp it tn/\tn 0 s2.heap/\(∀ b∈fp,R4 X pins H' b)/\R J H'
def PI (X:Cx)(tg iter:Expr)(wi:TI):Prop:=
 ∀(pins:List (Addr×Obj)) (s:Shared) (σ:St) (H:Hp) (R:It->Hp->Prop),Inv X pins σ H s->wi σ H R ->
  wpAny (model X.prog X.w) X.A (eval iter X.env) (fun v s1=>wpAny (model X.prog X.w) X.A (pyIter v) (PIE X pins σ tg R) X.xe s1) X.xe s
theorem Sg {M:Model}{A:Around}{E:Value->Shared->Prop}{s:Shared}{tg:Expr}{it:Addr}{u:Value}{o:Obj}{n:String}{vs:Array Value}{Q:Unit->Shared->Prop}(ho:s.heap.get? it=some o)(hc:o.cls = .type n)(hd:o.data = .fields vs)
  (hn:["enumerate","zip","dict_itemiterator","dict_reverseitemiterator","odict_iterator","itertools.zip_longest","itertools.pairwise"].contains n=false) (hQ:Q () s):wpAny M A (letOwnedTupleGo tg (.ref it) u) Q E s:=by
 unfold letOwnedTupleGo
 cases tg<;>first
  | exact wpAny_pure hQ
  | (cases u<;>first
    | exact wpAny_pure hQ
    | (refine wpAny_bind (wpAny_load ho ?_)
       rw[hc,hd]
       show wpAny M A (if(["enumerate","zip","dict_itemiterator","dict_reverseitemiterator","odict_iterator","itertools.zip_longest","itertools.pairwise"].contains n&&vs[0]? == some (rawInt _))=true then _ else _) Q E s
       rw[if_neg (by intro h;rw[hn,Bool.false_and] at h;cases h)]
       exact wpAny_pure hQ))
def Itl (K:PySem.W.Frag)(a:Addr):It:=
 ⟨fun i H=>∃ xs x,SqL K H a xs/\xs[i]? = some x,fun i H x H'=>H'=H/\∀ xs,SqL K H a xs->xs[i]? = some x,fun i H=>∃ xs,SqL K H a xs/\xs.length<=i⟩
def Itt (K:PySem.W.Frag)(a:Addr):It:=
 ⟨fun i H=>∃ xs x,SqT K H a xs/\xs[i]? = some x,fun i H x H'=>H'=H/\∀ xs,SqT K H a xs->xs[i]? = some x,fun i H=>∃ xs,SqT K H a xs/\xs.length<=i⟩
def Itr (lo:Int)(n:Nat):It:=⟨fun i _=>i<n,fun i H x H'=>H'=H/\x = .int (lo+i),fun i _=>n<=i⟩
theorem Te {P:Program}{w:World}{K:PySem.W.Frag}{tg:Expr}(a it:Addr):Yq P w K tg (Itl K a) [it] it (fun i h=>h.IsListIter it a i) where
 mem:=by simp
 obj:=fun i h st b hb=>by
  have e:b=it:=by simpa using hb
  subst e
  obtain⟨o,e,c,d⟩:=st
  exact⟨o,e,fun v z=>by rw[d] at z;cases z⟩
 keep:=fun i h h' st k=>st.at fun o e=>k it (by simp) o e
 item:=by
  intro X hP hw hK hc i pins s σ H E I hf st hg
  subst hP hw hK
  obtain⟨xs,x,hq,hx⟩:=hg
  obtain⟨its,rv,p,hz⟩:=I.list hq
  obtain⟨u,hu,ru⟩:=rv.get hx
  obtain⟨f0,f1,f2,f3,f4,f5⟩:=hf it (by simp)
  refine wpAny_pyNext_list_item st p.isList (x:=u) (by simpa using hu) fun h' st' sb=>?_
  have I1:Inv X pins σ H { s with heap:=h' }:=I.turned (t':=s.toks) (fun b o hb e=>(sb.2 b hb).trans e) f0 f1 f3 f4 f5
  obtain⟨o,e,c,d⟩:=id st'
  exact⟨u,rfl,Sg (s:={ s with heap:=h' }) e c d (by decide) ⟨x,H,I1,ru,⟨rfl,fun ys hy=>by rw[I.list_inj hy hq];exact hx⟩,st',fun b hb=>(hf b hb).1⟩⟩
 done:=by
  intro X hP hw hK hc i pins s σ H E I hf st hg
  subst hP hw hK
  obtain⟨xs,hq,hx⟩:=hg
  obtain⟨its,rv,p,hz⟩:=I.list hq
  obtain⟨f0,f1,f2,f3,f4,f5⟩:=hf it (by simp)
  have hl:=rv.length
  exact wpAny_pyNext_list_end (I.ok.hd hc) st p.isList (by simp;omega) fun h' eb=>⟨rfl,I.turned (t':=s.toks) (fun b o hb e=>eb b o hb e) f0 f1 f3 f4 f5⟩
 self:=fun _ _ _ _ _ st h=>wpAny_pyIter_listiter st h
theorem R9 {P:Program}{w:World}{K:PySem.W.Frag}{tg:Expr}(a it:Addr):Yq P w K tg (Itt K a) [it] it (fun i h=>h.IsTupleIter it a i) where
 mem:=by simp
 obj:=fun i h st b hb=>by
  have e:b=it:=by simpa using hb
  subst e
  obtain⟨o,e,c,d⟩:=st
  exact⟨o,e,fun v z=>by rw[d] at z;cases z⟩
 keep:=fun i h h' st k=>st.at fun o e=>k it (by simp) o e
 item:=by
  intro X hP hw hK hc i pins s σ H E I hf st hg
  subst hP hw hK
  obtain⟨xs,x,hq,hx⟩:=hg
  obtain⟨its,rv,p,hz⟩:=I.tuple hq
  obtain⟨u,hu,ru⟩:=rv.get hx
  obtain⟨f0,f1,f2,f3,f4,f5⟩:=hf it (by simp)
  refine wpAny_pyNext_tuple_item st (show s.heap.IsTuple a its.toArray from p) (x:=u) (by simpa using hu) fun h' st' sb=>?_
  have I1:Inv X pins σ H { s with heap:=h' }:=I.turned (t':=s.toks) (fun b o hb e=>(sb.2 b hb).trans e) f0 f1 f3 f4 f5
  obtain⟨o,e,c,d⟩:=id st'
  exact⟨u,rfl,Sg (s:={ s with heap:=h' }) e c d (by decide) ⟨x,H,I1,ru,⟨rfl,fun ys hy=>by rw[I.tuple_inj hy hq];exact hx⟩,st',fun b hb=>(hf b hb).1⟩⟩
 done:=by
  intro X hP hw hK hc i pins s σ H E I hf st hg
  subst hP hw hK
  obtain⟨xs,hq,hx⟩:=hg
  obtain⟨its,rv,p,hz⟩:=I.tuple hq
  obtain⟨f0,f1,f2,f3,f4,f5⟩:=hf it (by simp)
  have hl:=rv.length
  exact wpAny_pyNext_tuple_end (I.ok.hd hc) st (show s.heap.IsTuple a its.toArray from p) (by simp;omega) fun h' eb=>⟨rfl,I.turned (t':=s.toks) (fun b o hb e=>eb b o hb e) f0 f1 f3 f4 f5⟩
 self:=fun _ _ _ _ _ st h=>wpAny_pyIter_tupleiter st h
theorem R0 {P:Program}{w:World}{K:PySem.W.Frag}{tg:Expr}(it:Addr)(lo:Int)(n:Nat):Yq P w K tg (Itr lo n) [it] it (fun i h=>IsRangeIter h it (lo+(i:Nat)*1) ((n:Int)-(i:Nat)) 1) where
 mem:=by simp
 obj:=fun i h st b hb=>by
  have e:b=it:=by simpa using hb
  subst e
  exact⟨_,st,fun v z=>by
   have z':Data.fields _=Data.cell v:=z
   cases z'⟩
 keep:=fun i h h' st k=>k it (by simp) _ st
 item:=by
  intro X hP hw hK hc i pins s σ H E I hf st hg
  subst hP hw hK
  obtain⟨f0,f1,f2,f3,f4,f5⟩:=hf it (by simp)
  have W:=Walks.range (prog:=X.prog) (w:=X.w) (I.ok.hd hc) it lo 1 n
  refine W.item i s _ _ hg st fun v h' tk hv st' kk=>?_
  obtain⟨t,rfl⟩:=hv
  have I1:Inv X pins σ H { s with heap:=h',toks:=tk }:=I.turned (fun b o hb e=>kk b o (by simpa using hb) e) f0 f1 f3 f4 f5
  refine⟨_,rfl,Sg (s:={ s with heap:=h',toks:=tk }) (n:="range_iterator") st' rfl rfl (by decide) ⟨.int (lo+i),H,I1,⟨t,?_⟩,⟨rfl,rfl⟩,st',fun b hb=>(hf b hb).1⟩⟩
  rw[Int.mul_one]
 done:=by
  intro X hP hw hK hc i pins s σ H E I hf st hg
  subst hP hw hK
  obtain⟨f0,f1,f2,f3,f4,f5⟩:=hf it (by simp)
  exact wpAny_pyNext_range_end (I.ok.hd hc) st (by have:n<=i:=hg;omega) fun h' eb=>⟨rfl,I.turned (t':=s.toks) (fun b o hb e=>eb b o hb e) f0 f1 f3 f4 f5⟩
 self:=fun _ _ _ _ _ st h=>wpAny_pyIter_rangeiter st h
section
variable {X:Cx}{tg:Expr}
theorem Pg {pins:List (Addr×Obj)}{σ:St}{H:Hp}{s:Shared}{R:It->Hp->Prop}{E:Value->Shared->Prop}{lo hi:Int}{t u v:Tok}{tk:Nat}(I:Inv X pins σ H s)(h1:-(2 ^ 62)<=lo)(h2:lo<2 ^ 62)(h3:-(2 ^ 62)<=hi)(h4:hi<2 ^ 62)
  (q:R (Itr lo (hi-lo).toNat) H):wpAny (model X.prog X.w) X.A (pyIter (.ref s.heap.objs.size)) (PIE X pins σ tg R) E { s with heap:=s.heap.push { cls:=.type "range",data:=.fields #[.int lo t,.int hi u,.int 1 v] },toks:=tk }:=by
 refine wpAny_pyIter_range (IsRange.new ..) (small_one h1 h2 h3 h4) ?_
 have I1:Inv X pins σ H { s with heap:=s.heap.push { cls:=.type "range",data:=.fields #[.int lo t,.int hi u,.int 1 v] },toks:=tk }:=I.kept fun b o e=>Heap.get?_push_of_some _ e
 refine⟨(s.heap.push { cls:=.type "range",data:=.fields #[.int lo t,.int hi u,.int 1 v] }).objs.size,[(s.heap.push { cls:=.type "range",data:=.fields #[.int lo t,.int hi u,.int 1 v] }).objs.size],_,_,H,rfl,
  I1.kept (t':=tk) fun b o e=>Heap.get?_push_of_some _ e,R0 _ lo (hi-lo).toNat,?_,fun b hb=>?_,q⟩
 . have e1:lo+((0:Nat):Int)*1=lo:=by simp
   have e2:(((hi-lo).toNat:Nat):Int)-((0:Nat):Int)=Builtin.Range.rangeSize lo hi 1:=by rw[rangeSize_one];split<;>omega
   show IsRangeIter _ _ (lo+((0:Nat):Int)*1) ((((hi-lo).toNat:Nat):Int)-((0:Nat):Int)) 1
   rw[e1,e2]
   exact Heap.get?_push_size _ rfl
 have e:b=(s.heap.push { cls:=.type "range",data:=.fields #[.int lo t,.int hi u,.int 1 v] }).objs.size:=by simpa using hb
 subst e
 exact I1.fpOk (Nat.le_refl _) (I1.hok.fresh (Nat.le_refl _))
def ac6 (ta:TA):TI:=fun σ H R=>ta σ H fun vs H1=>∃ j:Int,vs=[.int j] /\ -(2 ^ 62)<=j/\j<2 ^ 62/\R (Itr 0 j.toNat) H1
def aa0 (ta:TA):TI:=fun σ H R=>ta σ H fun vs H1=>∃ i j:Int,vs=[.int i,.int j]/\(-(2 ^ 62)<=i/\i<2 ^ 62 /\ -(2 ^ 62)<=j/\j<2 ^ 62)/\R (Itr i (j-i).toNat) H1
theorem Cc {a:Expr}{ta:TA}{p pos:Pos}(hg:Gl X "range")(hm:X.mg "range" = none)(ha:PA X [a] ta)(hs:starEach [a] X.env=[(false,eval a X.env)]:=by ac_nf):PI X tg (.Call (.Name "range" p) [a] [] pos) (ac6 ta):=by
 intro pins s σ H R I h
 refine Call_ (J1 I hg hm boot_range (PyProof.Rows.callWith_type1 (thn (ha pos pins s σ H _ I h) fun us s1 ⟨vs,H1,I1,r1,q1⟩=>?_) hs rfl))
 obtain⟨j,e,q1,q2,q⟩:=q1
 subst e
 cases r1 with
 | cons r rr=>
   cases rr
   obtain⟨t,rfl⟩:=r
   exact call_range_1 (Pg I1 (by omega) (by omega) q1 q2 (by simpa using q))
theorem S0 {a b:Expr}{ta:TA}{p pos:Pos}(hg:Gl X "range")(hm:X.mg "range" = none)(ha:PA X [a,b] ta)(hs:starEach [a,b] X.env=[(false,eval a X.env),(false,eval b X.env)]:=by ac_nf)(hs2:starEach [b] X.env=[(false,eval b X.env)]:=by ac_nf) :
  PI X tg (.Call (.Name "range" p) [a,b] [] pos) (aa0 ta):=by
 intro pins s σ H R I h
 refine Call_ (J1 I hg hm boot_range (PyProof.Rows.callWith_type1 (thn (ha pos pins s σ H _ I h) fun us s1 ⟨vs,H1,I1,r1,q1⟩=>?_) (by rw[hs,hs2]) (by rw[hs2];rfl)))
 obtain⟨i,j,e,⟨q1,q2,q3,q4⟩,q⟩:=q1
 subst e
 cases r1 with
 | cons r rr=>
   cases rr with
   | cons r' rr=>
     cases rr
     obtain⟨t,rfl⟩:=r
     obtain⟨t',rfl⟩:=r'
     exact call_range_2 (Pg I1 q1 q2 q3 q4 q)
def aq8 (wi:TI)(g:TG)(tb:TS):TS:=fun D σ H=>wi σ H fun J H1=>∃ W:Nat->Nat->St->Hp->Prop,(∃ m,W 0 m σ H1)/\∀ i m σ H,W i m σ H ->
 (J.stop i H/\D.nx σ H)\/(J.go i H/\∃ N:St->Hp->Prop,(∀ σ' H',N σ' H'->∃ m',m'<m/\W (i+1) m' σ' H')/\∀ x H',J.yld i H x H'->g x σ H' fun σ2 H2=>tb { D with nx:=N,ct:=N,bk:=D.nx } σ2 H2)
def Ng (fp:List Addr)(h:Heap):List (Addr×Obj):=fp.filterMap fun b=>(h.get? b).map fun o=>(b,o)
theorem Fm {fp:List Addr}{h:Heap}{b:Addr}{o:Obj}(hb:b∈fp)(e:h.get? b=some o):(b,o)∈Ng fp h:=List.mem_filterMap.mpr ⟨b,hb,by rw[e];rfl⟩
theorem Sk {fp:List Addr} {h:Heap} {p:Addr×Obj} (hp:p∈Ng fp h):p.1∈fp/\h.get? p.1=some p.2:=by
 obtain⟨b,hb,e⟩:=List.mem_filterMap.mp hp
 cases q:h.get? b with
 | none=>rw[q] at e;cases e
 | some o=>
   rw[q] at e
   have e':(b,o)=p:=Option.some.inj e
   subst e'
   exact⟨hb,q⟩
theorem Inv.pinned {pins:List (Addr×Obj)}{σ:St}{H:Hp}{s:Shared}{fp:List Addr}(I:Inv X pins σ H s)(hf:∀ b∈fp,R4 X pins H b)(ho:∀ b∈fp,∃ o,s.heap.get? b=some o/\∀ v,o.data ≠ .cell v):Inv X (pins++Ng fp s.heap) σ H s:=
 I.pins_of fun p hp=>(List.mem_append.mp hp).elim (fun z=>I.pin p (List.mem_append_right _ z)) fun z=>by
  obtain⟨hb,e⟩:=Sk z
  obtain⟨f0,f1,f2,_⟩:=hf p.1 hb
  obtain⟨o,e',d⟩:=ho p.1 hb
  rw[e] at e';cases e'
  exact⟨e,f0,f1,f2,d⟩
theorem Inv.unpinned {pins pl:List (Addr×Obj)}{σ:St}{H:Hp}{s:Shared}(I:Inv X (pins++pl) σ H s):Inv X pins σ H s:=I.pins_of fun p hp=>I.pin p (List.mem_append_right _ (List.mem_append_left _ hp))
theorem Bv {iter:Expr}{body:List Stmt}{wi:TI}{g:TG}{tb:TS}{pos:Pos}(hp:PassesOwn (model X.prog X.w) X.A X.env X.xe)(hc:X.calm=true)(hi:PI X tg iter wi)(hg:PG X tg g)(hb:PSs X body tb)
  (hs:∀ x,foldedSetIterable iter X.env x=pure x:=by intro _;ac_nf):PS X (.For tg iter body [] pos) (aq8 wi g tb):=by
 intro pins s σ H D I h
 refine wpAny_For (thn (hi pins s σ H _ I h) fun v s1 h1=>thn h1 fun itv s2 h2=>?_) hs
 obtain⟨it,fp,tn,J,H2,e,I2,T,st2,f2,W,⟨m0,w0⟩,turn⟩:=h2
 subst e
 have stat:∀ {H':Hp},(∀ b∈fp,H' b=none)->∀ b∈fp,R4 X pins H' b:=fun hn b hb=>⟨hn b hb,(f2 b hb).2⟩
 refine codeAny_forLoop_any (fun n s'=>∃ i σ' H',Inv X pins σ' H' s'/\tn i s'.heap/\(∀ b∈fp,H' b=none)/\W i n σ' H') ?_ m0 ⟨0,σ,H2,I2,st2,fun b hb=>(f2 b hb).1,w0⟩
 rintro n s3 ⟨i,σ3,H3,I3,st3,fr3,w3⟩
 rcases turn i n σ3 H3 w3 with ⟨stop,qn⟩ | ⟨go,N,hN,step⟩
 . refine wpAny_passesOwn hp (thn (T.done X rfl rfl rfl hc i pins s3 σ3 H3 X.xe I3 (stat fr3) st3 stop) fun r s4 ⟨hr,I4⟩=>?_)
   subst hr
   exact wpAny_execs_nil ⟨σ3,H3,I4,qn⟩
 refine wpAny_passesOwn hp (thn (T.item X rfl rfl rfl hc i pins s3 σ3 H3 X.xe I3 (stat fr3) st3 go) fun r s4 ⟨u,hr,h4⟩=>?_)
 subst hr
 refine wpAny_passesOwn hp (thn h4 fun _ s5 ⟨x,H5,I5,r5,y5,st5,fr5⟩=>?_)
 have I5':=I5.pinned (stat fr5) (T.obj _ _ st5)
 refine wpAny_passesOwn hp (thn (hg _ s5 σ3 H5 x u _ I5' r5 (step x H5 y5)) fun _ s6 ⟨σ6,H6,I6,q6⟩=>?_)
 refine wpAny_passesOwn hp (thn (hb _ s6 σ6 H6 _ I6 q6) fun f s7 q7=>?_)
 have again:∀ {σ7:St} {H7:Hp},Inv X (pins++Ng fp s5.heap) σ7 H7 s7->N σ7 H7->∃ m,m<n/\∃ i σ' H',Inv X pins σ' H' s7/\tn i s7.heap/\(∀ b∈fp,H' b=none)/\W i m σ' H':=fun {σ7 H7} I7 n7=>by
  obtain⟨m',hm,w7⟩:=hN σ7 H7 n7
  refine⟨m',hm,i+1,σ7,H7,I7.unpinned,T.keep _ _ _ st5 fun b hb o e=>(I7.pin (b,o) (List.mem_append_right _ (List.mem_append_right _ (Fm hb e)))).1,fun b hb=>?_,w7⟩
  obtain⟨o,e,d⟩:=T.obj _ _ st5 b hb
  exact(I7.pin (b,o) (List.mem_append_right _ (List.mem_append_right _ (Fm hb e)))).2.1
 cases f with
 | next=>obtain⟨σ7,H7,I7,n7⟩:=q7;exact again I7 n7
 | cont=>obtain⟨σ7,H7,I7,n7⟩:=q7;exact again I7 n7
 | brk=>obtain⟨σ7,H7,I7,q7⟩:=q7;exact⟨σ7,H7,I7.unpinned,q7⟩
 | ret v=>obtain⟨x7,σ7,H7,I7,r7,q7⟩:=q7;exact⟨x7,σ7,H7,I7.unpinned,r7,q7⟩
end
abbrev R2:=V->V->Hp->VK->Prop
def OpR (X:Cx)(f:Value->Value->Sem Value)(r:R2):Prop:=
 ∀(pins:List (Addr×Obj)) (s:Shared) (σ:St) (H:Hp) (x y:V) (v u:Value) (Q:VK),Inv X pins σ H s->RelV x v->RelV y u->r x y H Q ->
  wpAny (model X.prog X.w) X.A (f v u) (EP X pins σ Q) X.xe s
def UnR (X:Cx)(f:Value->Sem Value)(r:V->Hp->VK->Prop):Prop:=
 ∀(pins:List (Addr×Obj)) (s:Shared) (σ:St) (H:Hp) (x:V) (v:Value) (Q:VK),Inv X pins σ H s->RelV x v->r x H Q ->
  wpAny (model X.prog X.w) X.A (f v) (EP X pins σ Q) X.xe s
def CallR (X:Cx)(f:Value)(r:List V->Hp->VK->Prop):Prop:=
 ∀(pins:List (Addr×Obj)) (s:Shared) (σ:St) (H:Hp) (xs:List V) (us:List Value) (Q:VK),Inv X pins σ H s->Vals xs us->r xs H Q ->
  wpAny (model X.prog X.w) X.A (call f us) (EP X pins σ Q) X.xe s
def TruR (X:Cx)(r:V->Hp->(Bool->Hp->Prop)->Prop):Prop:=
 ∀(pins:List (Addr×Obj)) (s:Shared) (σ:St) (H:Hp) (x:V) (v:Value) (Q:Bool->Hp->Prop),Inv X pins σ H s->RelV x v->r x H Q ->
  wpAny (model X.prog X.w) X.A (truthy v) (TP X pins σ Q) X.xe s
def tOp (r:R2)(ta tb:TE):TE:=fun σ H Q=>ta σ H fun x H1=>tb σ H1 fun y H2=>r x y H2 Q
def tUn (r:V->Hp->VK->Prop)(ta:TE):TE:=fun σ H Q=>ta σ H fun x H1=>r x H1 Q
def rI (C:Int->Int->Prop)(g:Int->Int->V):R2:=fun x y H Q=>∃ i j,x = .int i/\y = .int j/\C i j/\Q (g i j) H
def rI0 (g:Int->Int->V):R2:=fun x y H Q=>∃ i j,x = .int i/\y = .int j/\Q (g i j) H
def rU (g:Int->V):V->Hp->VK->Prop:=fun x H Q=>∃ i,x = .int i/\Q (g i) H
section
variable {X:Cx}{a b c:Expr}{ta tb tc:TE}{pos:Pos}
theorem am3 (ha:PE X a ta)(hb:PE X b tb){pins:List (Addr×Obj)}{s:Shared}{σ:St}{H:Hp}{R:V->V->Hp->Prop}(I:Inv X pins σ H s)
  (h:ta σ H fun x H1=>tb σ H1 fun y H2=>R x y H2) {Q:Value->Shared->Prop} {f:Value->Value->Sem Value}
  (hf:∀ v u s2 x y H2,Inv X pins σ H2 s2->RelV x v->RelV y u->R x y H2->wpAny (model X.prog X.w) X.A (f v u) Q X.xe s2) :
  wpAny (model X.prog X.w) X.A (eval a X.env) (fun v s₁=>wpAny (model X.prog X.w) X.A (eval b X.env) (fun u s₂=>wpAny (model X.prog X.w) X.A (f v u) Q X.xe s₂) X.xe s₁) X.xe s:=by
 refine thn (ha pins s σ H _ I h) fun v s1 ⟨x,H1,I1,r1,q1⟩=>?_
 refine thn (hb pins s1 σ H1 _ I1 q1) fun u s2 ⟨y,H2,I2,r2,q2⟩=>?_
 exact hf v u s2 x y H2 I2 r1 r2 q2
theorem Af {op:Operator}{r:R2}(ho:OpR X (binaryOp op) r)(ha:PE X a ta)(hb:PE X b tb):PE X (.BinOp a op b pos) (tOp r ta tb):=by
 intro pins s σ H Q I h
 exact wpAny_BinOp (am3 ha hb I h fun v u s2 x y H2 I2 rx ry q=>ho pins s2 σ H2 x y v u Q I2 rx ry q)
theorem Sa {op:UnaryOp}{r:V->Hp->VK->Prop}(ho:UnR X (unaryOp op) r)(ha:PE X a ta):PE X (.UnaryOp op a pos) (tUn r ta):=by
 intro pins s σ H Q I h
 exact UnaryOp_ (thn (ha pins s σ H _ I h) fun v s1 ⟨x,H1,I1,r1,q1⟩=>ho pins s1 σ H1 x v Q I1 r1 q1)
theorem opI {f:Value->Value->Sem Value}{C:Int->Int->Prop}{g:Int->Int->Int}
  (rule:∀(i j:Int) (t u:Tok) (s:Shared) (Q:Value->Shared->Prop) (E:Value->Shared->Prop),C i j->Q (.int (g i j) s.toks) { s with toks:=s.toks+1 }->wpAny (model X.prog X.w) X.A (f (.int i t) (.int j u)) Q E s) :
  OpR X f (rI C fun i j=>.int (g i j)):=by
 intro pins s σ H x y v u Q I rx ry h
 obtain⟨i,j,rfl,rfl,hc,q⟩:=h
 obtain⟨t,rfl⟩:=rx
 obtain⟨t',rfl⟩:=ry
 exact rule i j t t' s _ _ hc ⟨.int (g i j),H,I.tok _,⟨_,rfl⟩,q⟩
theorem am1 {f:Value->Value->Sem Value}{g:Int->Int->Int}
  (rule:∀(i j:Int) (t u:Tok) (s:Shared) (Q:Value->Shared->Prop) (E:Value->Shared->Prop),Q (.int (g i j) s.toks) { s with toks:=s.toks+1 }->wpAny (model X.prog X.w) X.A (f (.int i t) (.int j u)) Q E s) :
  OpR X f (rI0 fun i j=>.int (g i j)):=by
 intro pins s σ H x y v u Q I rx ry h
 obtain⟨i,j,rfl,rfl,q⟩:=h
 obtain⟨t,rfl⟩:=rx
 obtain⟨t',rfl⟩:=ry
 exact rule i j t t' s _ _ ⟨.int (g i j),H,I.tok _,⟨_,rfl⟩,q⟩
theorem aj8 {f:Value->Value->Sem Value}{g:Int->Int->Bool}
  (rule:∀(i j:Int) (t u:Tok) (s:Shared) (Q:Value->Shared->Prop) (E:Value->Shared->Prop),Q (.bool (g i j)) s->wpAny (model X.prog X.w) X.A (f (.int i t) (.int j u)) Q E s) :
  OpR X f (rI0 fun i j=>.bl (g i j)):=by
 intro pins s σ H x y v u Q I rx ry h
 obtain⟨i,j,rfl,rfl,q⟩:=h
 obtain⟨t,rfl⟩:=rx
 obtain⟨t',rfl⟩:=ry
 exact rule i j t t' s _ _ ⟨.bl (g i j),H,I,rfl,q⟩
def ak5 (i j:Int):Prop:=0<j/\j<1073741824
def al7 (i j:Int):Prop:=0<=j/\j<=1000000/\i.natAbs<2 ^ 64
def CMul (i j:Int):Prop:=(-(2 ^ 64)<i/\i<2 ^ 64)\/(-(2 ^ 64)<j/\j<2 ^ 64)
theorem CMul.ok {i j:Int}(h:CMul i j):IntMulOk i j:=by
 rcases h with ⟨h1,h2⟩ | ⟨h1,h2⟩
 . exact .of_left (intBits_le_64 h1 h2)
 exact .of_right (intBits_le_64 h1 h2)
theorem op_add:OpR X (binaryOp .Add) (rI0 fun i j=>.int (i+j)):=am1 fun _ _ _ _ _ _ _ q=>add_int q
theorem Dh:OpR X (binaryOp .Sub) (rI0 fun i j=>.int (i-j)):=am1 fun _ _ _ _ _ _ _ q=>sub_int q
theorem op_mul:OpR X (binaryOp .Mult) (rI CMul fun i j=>.int (i*j)):=opI fun _ _ _ _ _ _ _ hc q=>mul_int q hc.ok
theorem Yz:OpR X (binaryOp .FloorDiv) (rI ak5 fun i j=>.int (i / j)):=opI fun i j _ _ _ _ _ hc q=>by
 have h1:(0:Int)<j:=hc.1
 have h2:j<1073741824:=hc.2
 exact floordiv_int (by omega) (by rw[Int.fdiv_eq_ediv_of_nonneg i (by omega)];exact q) (.inl (PyProof.noPylong_small (by omega)))
theorem Fs:OpR X (binaryOp .Mod) (rI (fun _ j=>0<j) fun i j=>.int (i % j)):=opI fun i j _ _ _ _ _ hc q=>by
 have h1:(0:Int)<j:=hc
 exact mod_int' (by omega) (by rw[Int.fmod_eq_emod_of_nonneg i (by omega)];exact q)
theorem N6:OpR X (binaryOp .Pow) (rI al7 fun i j=>.int (i ^ j.toNat)):=opI fun _ _ _ _ _ _ _ hc q=>pow_int_small hc.1 hc.2.1 hc.2.2 q
theorem Xy:OpR X (binaryOp .BitAnd) (rI0 fun i j=>.int (Builtin.bitAnd i j)):=am1 fun _ _ _ _ _ _ _ q=>and_int q
theorem unI {f:Value->Sem Value}{g:Int->Int}
  (rule:∀(i:Int) (t:Tok) (s:Shared) (Q:Value->Shared->Prop) (E:Value->Shared->Prop),Q (.int (g i) s.toks) { s with toks:=s.toks+1 }->wpAny (model X.prog X.w) X.A (f (.int i t)) Q E s) :
  UnR X f (rU fun i=>.int (g i)):=by
 intro pins s σ H x v Q I rx h
 obtain⟨i,rfl,q⟩:=h
 obtain⟨t,rfl⟩:=rx
 exact rule i t s _ _ ⟨.int (g i),H,I.tok _,⟨_,rfl⟩,q⟩
theorem M8:UnR X (unaryOp .USub) (rU fun i=>.int (-i)):=unI fun _ _ _ _ _ q=>neg_int q
end
def aj9:V->V->Bool
 | .non,.non=>true | .non,.int _=>true | .int _,.non=>true | .non,.bl _=>true | .bl _,.non=>true | .non,.str _=>true | .str _,.non=>true
 | .int _,.int _=>true | .bl _,.bl _=>true | .str _,.str _=>true | .byt _,.byt _=>true
 | .int _,.str _=>true | .str _,.int _=>true | .bl _,.str _=>true | .str _,.bl _=>true
 | _,_=>false
def rEq:R2:=fun x y H Q=>aj9 x y=true/\Q (.bl (decide (x=y))) H
def rNe:R2:=fun x y H Q=>aj9 x y=true/\Q (.bl (!decide (x=y))) H
theorem Tk {i j:Int}:decide (V.int i=V.int j)=(i==j):=by
 rw[Bool.eq_iff_iff]
 simp
theorem X3 {i j:Bool}:decide (V.bl i=V.bl j)=(i==j):=by
 rw[Bool.eq_iff_iff]
 simp
theorem Ui {i j:Str}:decide (V.str i=V.str j)=(i==j):=by
 rw[Bool.eq_iff_iff]
 simp
theorem Sc {i j:Array UInt8}:decide (V.byt i=V.byt j)=(i.toList==j.toList):=by
 rw[Bool.eq_iff_iff]
 cases i
 cases j
 simp
section
variable {X:Cx}{a b c:Expr}{ta tb tc:TE}{pos:Pos}
theorem B4 {pins:List (Addr×Obj)}{σ:St}{H:Hp}{s:Shared}{Q:VK}{k k':Bool}(I:Inv X pins σ H s)(q:Q (.bl k) H)(e:k=k'):EP X pins σ Q (.bool k') s:=by
 subst e
 exact⟨.bl k,H,I,rfl,q⟩
theorem op_eq:OpR X (compareOp .Eq) rEq:=by
 intro pins s σ H x y v u Q I rx ry h
 obtain⟨hs,q⟩:=h
 cases x with
 | non=>
   cases rx
   cases y with
   | non=>cases ry;exact PySem.EqNone.eq_none_none (B4 I q (by simp))
   | bl j=>cases ry;exact PySem.EqNone.eq_none_bool (B4 I q (by simp))
   | int j=>obtain⟨t',rfl⟩:=ry;exact PySem.EqNone.eq_none_int (B4 I q (by simp))
   | str j=>obtain⟨t',rfl⟩:=ry;exact PySem.EqNone.eq_none_str (B4 I q (by simp))
   | _=>exact absurd (show false=true from hs) Bool.false_ne_true
 | bl i=>
   cases rx
   cases y with
   | non=>cases ry;exact PySem.EqNone.eq_bool_none (B4 I q (by simp))
   | bl j=>cases ry;exact eq_bool (B4 I q X3)
   | str j=>obtain⟨t',rfl⟩:=ry;exact PySem.EqMixed.eq_bool_str (B4 I q (by simp))
   | _=>exact absurd (show false=true from hs) Bool.false_ne_true
 | int i=>
   obtain⟨t,rfl⟩:=rx
   cases y with
   | non=>cases ry;exact PySem.EqNone.eq_int_none (B4 I q (by simp))
   | int j=>obtain⟨t',rfl⟩:=ry;exact eq_int (B4 I q Tk)
   | str j=>obtain⟨t',rfl⟩:=ry;exact PySem.EqMixed.eq_int_str (B4 I q (by simp))
   | _=>exact absurd (show false=true from hs) Bool.false_ne_true
 | str i=>
   obtain⟨t,rfl⟩:=rx
   cases y with
   | non=>cases ry;exact PySem.EqNone.eq_str_none (B4 I q (by simp))
   | bl j=>cases ry;exact PySem.EqMixed.eq_str_bool (B4 I q (by simp))
   | int j=>obtain⟨t',rfl⟩:=ry;exact PySem.EqMixed.eq_str_int (B4 I q (by simp))
   | str j=>obtain⟨t',rfl⟩:=ry;exact eq_str (B4 I q Ui)
   | _=>exact absurd (show false=true from hs) Bool.false_ne_true
 | byt i=>
   obtain⟨t,rfl⟩:=rx
   cases y with
   | byt j=>obtain⟨t',rfl⟩:=ry;exact PySem.W.eq_bytes (B4 I q Sc)
   | _=>exact absurd (show false=true from hs) Bool.false_ne_true
 | _=>cases y<;>exact absurd (show false=true from hs) Bool.false_ne_true
theorem op_ne:OpR X (compareOp .NotEq) rNe:=by
 intro pins s σ H x y v u Q I rx ry h
 obtain⟨hs,q⟩:=h
 cases x with
 | non=>
   cases rx
   cases y with
   | non=>cases ry;exact PySem.EqNone.ne_none_none (B4 I q (by simp))
   | bl j=>cases ry;exact PySem.EqNone.ne_none_bool (B4 I q (by simp))
   | int j=>obtain⟨t',rfl⟩:=ry;exact PySem.EqNone.ne_none_int (B4 I q (by simp))
   | str j=>obtain⟨t',rfl⟩:=ry;exact PySem.EqNone.ne_none_str (B4 I q (by simp))
   | _=>exact absurd (show false=true from hs) Bool.false_ne_true
 | bl i=>
   cases rx
   cases y with
   | non=>cases ry;exact PySem.EqNone.ne_bool_none (B4 I q (by simp))
   | bl j=>cases ry;exact ne_bool (B4 I q (congrArg not X3))
   | str j=>obtain⟨t',rfl⟩:=ry;exact PySem.EqMixed.ne_bool_str (B4 I q (by simp))
   | _=>exact absurd (show false=true from hs) Bool.false_ne_true
 | int i=>
   obtain⟨t,rfl⟩:=rx
   cases y with
   | non=>cases ry;exact PySem.EqNone.ne_int_none (B4 I q (by simp))
   | int j=>obtain⟨t',rfl⟩:=ry;exact ne_int (B4 I q (congrArg not Tk))
   | str j=>obtain⟨t',rfl⟩:=ry;exact PySem.EqMixed.ne_int_str (B4 I q (by simp))
   | _=>exact absurd (show false=true from hs) Bool.false_ne_true
 | str i=>
   obtain⟨t,rfl⟩:=rx
   cases y with
   | non=>cases ry;exact PySem.EqNone.ne_str_none (B4 I q (by simp))
   | bl j=>cases ry;exact PySem.EqMixed.ne_str_bool (B4 I q (by simp))
   | int j=>obtain⟨t',rfl⟩:=ry;exact PySem.EqMixed.ne_str_int (B4 I q (by simp))
   | str j=>obtain⟨t',rfl⟩:=ry;exact ne_str (B4 I q (congrArg not Ui))
   | _=>exact absurd (show false=true from hs) Bool.false_ne_true
 | byt i=>
   obtain⟨t,rfl⟩:=rx
   cases y with
   | byt j=>obtain⟨t',rfl⟩:=ry;exact PySem.W.ne_bytes (B4 I q (congrArg not Sc))
   | _=>exact absurd (show false=true from hs) Bool.false_ne_true
 | _=>cases y<;>exact absurd (show false=true from hs) Bool.false_ne_true
theorem Qw:OpR X (compareOp .Lt) (rI0 fun i j=>.bl (decide (i<j))):=aj8 fun _ _ _ _ _ _ _ q=>lt_int q
theorem ag2:OpR X (compareOp .LtE) (rI0 fun i j=>.bl (decide (i<=j))):=aj8 fun _ _ _ _ _ _ _ q=>le_int q
theorem W2:OpR X (compareOp .Gt) (rI0 fun i j=>.bl (decide (j<i))):=aj8 fun _ _ _ _ _ _ _ q=>gt_int q
theorem Zj:OpR X (compareOp .GtE) (rI0 fun i j=>.bl (decide (j<=i))):=aj8 fun _ _ _ _ _ _ _ q=>ge_int q
theorem op_in_str:OpR X (compareOp .In) (fun x y H Q=>∃ i j,x = .str i/\y = .str j/\Q (.bl (!(Builtin.Str.occurrences j i 0 j.length 1).isEmpty)) H):=by
 intro pins s σ H x y v u Q I rx ry h
 obtain⟨i,j,rfl,rfl,q⟩:=h
 obtain⟨t,rfl⟩:=rx
 obtain⟨t',rfl⟩:=ry
 exact in_str (B4 I q rfl)
theorem OpR.or {f:Value->Value->Sem Value}{r r':R2}(h:OpR X f r)(h':OpR X f r'):OpR X f (fun x y H Q=>r x y H Q\/r' x y H Q):=by
 intro pins s σ H x y v u Q I rx ry q
 rcases q with q | q
 . exact h pins s σ H x y v u Q I rx ry q
 exact h' pins s σ H x y v u Q I rx ry q
theorem Aj (b:Expr){op:CmpOp}(h:op ≠ .In:=by decide)(h2:op ≠ .NotIn:=by decide):behindInMarks op b=false:=by
 have e1:(op==CmpOp.In)=false:=by cases op<;>first | rfl | exact absurd rfl h
 have e2:(op==CmpOp.NotIn)=false:=by cases op<;>first | rfl | exact absurd rfl h2
 cases b<;>simp[behindInMarks,e1,e2]
theorem E3 {op:CmpOp}{r:R2}(ho:OpR X (compareOp op) r)(ha:PE X a ta)(hb:PE X b tb)(hm:behindInMarks op b=false):PE X (.Compare a [op] [b] pos) (tOp r ta tb):=by
 intro pins s σ H Q I h
 exact wpAny_Compare1 (am3 ha hb I h fun v u s2 x y H2 I2 rx ry q=>ho pins s2 σ H2 x y v u Q I2 rx ry q) hm
def ah1 (t:TE):TT:=fun σ H Q=>t σ H fun x H'=>∃ k,x = .bl k/\Q k H'
theorem Ac {op:CmpOp}{r:R2}(ho:OpR X (compareOp op) r)(ha:PE X a ta)(hb:PE X b tb)(hm:behindInMarks op b=false):PT X (.Compare a [op] [b] pos) (ah1 (tOp r ta tb)):=by
 intro pins s σ H Q I h
 refine wpAny_isTrue_Compare1 (thn (ha pins s σ H _ I h) fun v s1 ⟨x,H1,I1,r1,q1⟩=>thn (hb pins s1 σ H1 _ I1 q1) fun u s2 ⟨y,H2,I2,r2,q2⟩=>
  thn (ho pins s2 σ H2 x y v u _ I2 r1 r2 q2) fun c s3 ⟨z,H3,I3,r3,k,e,q3⟩=>?_) hm
 subst e
 cases r3
 exact wpAny_truthy_bool ⟨H3,I3,q3⟩
def Yf (r r':R2)(ta tb tc:TE):TE:=fun σ H Q=>ta σ H fun x H1=>tb σ H1 fun y H2=>r x y H2 fun z H3=>∃ k,z = .bl k /\
 (if k=true then tc σ H3 fun w' H4=>r' y w' H4 Q else Q (.bl false) H3)
theorem V6 {op op':CmpOp}{r r':R2}(ho:OpR X (compareOp op) r)(ho':OpR X (compareOp op') r')(ha:PE X a ta)(hb:PE X b tb)(hc:PE X c tc)
  (hm:lastMarks [op,op'] [b,c]=false:=by ac_nf):PE X (.Compare a [op,op'] [b,c] pos) (Yf r r' ta tb tc):=by
 intro pins s σ H Q I h
 refine Compare_chain (thn (ha pins s σ H _ I h) fun v s1 ⟨x,H1,I1,r1,q1⟩=>chain_link (thn (hb pins s1 σ H1 _ I1 q1) fun u s2 ⟨y,H2,I2,r2,q2⟩=>
  thn (ho pins s2 σ H2 x y v u _ I2 r1 r2 q2) fun d s3 ⟨z,H3,I3,r3,k,e,q3⟩=>?_)) hm
 subst e
 cases r3
 refine wpAny_truthy_bool ?_
 cases k with
 | false=>exact ite_ff ⟨.bl false,H3,I3,rfl,q3⟩
 | true=>exact ite_tt (chain_last (thn (hc pins s3 σ H3 _ I3 q3) fun w' s4 ⟨z',H4,I4,r4,q4⟩=>ho' pins s4 σ H4 y z' u w' Q I4 r2 r4 q4))
def TruV (K:PySem.W.Frag)(x:V)(H:Hp)(k:Bool):Prop:=
 match x with
 | .non=>k=false
 | .bl b=>k=b
 | .int i=>k=(i != 0)
 | .str y=>y.length<=sizeLine/\k=((y.length:Int) != 0)
 | .byt y=>y.size<=sizeLine/\k=((y.size:Int) != 0)
 | .ref p=>(∃ xs,SqL K H p xs/\k = !xs.isEmpty)\/(∃ xs,SqT K H p xs/\k = !xs.isEmpty)\/∃ kvs,H p=some (.dK kvs)/\k = !kvs.isEmpty
 | _=>False
theorem Rh {κ:Type}{kvs:List (κ×V)}{vs:List (κ×Value)}(r:KV kvs vs):(!vs.isEmpty) = !kvs.isEmpty:=by
 cases r<;>rfl
theorem Ki {xs:List V}{its:List Value}(r:Vals xs its):(!its.toArray.isEmpty) = !xs.isEmpty:=by
 cases r<;>simp
theorem Ko:(sizeLine:Nat)<2 ^ 63:=by rw[sizeLine_eq];decide
theorem ab0:TruR X (fun x H Q=>∃ k,TruV X.K x H k/\Q k H):=by
 intro pins s σ H x v Q I rx h
 obtain ⟨k,e,q⟩:=h
 have hl:=Ko
 have hs:sizeLine=16777216:=sizeLine_eq
 cases x with
 | non=>
   cases rx
   have e':k=false:=e
   subst e'
   exact truthy_none ⟨H,I,q⟩
 | bl b=>
   cases rx
   have e':k=b:=e
   subst e'
   exact wpAny_truthy_bool ⟨H,I,q⟩
 | int i=>
   obtain⟨t,rfl⟩:=rx
   have e':k=(i != 0):=e
   subst e'
   exact PySem.P.truthy_int ⟨H,I,q⟩
 | str y=>
   obtain⟨t,rfl⟩:=rx
   obtain⟨hy,e'⟩:y.length<=sizeLine/\k=((y.length:Int) != 0):=e
   subst e'
   exact PySem.P.truthy_str (by omega) ⟨H,I.tok _,q⟩
 | byt y=>
   obtain⟨t,rfl⟩:=rx
   obtain⟨hy,e'⟩:y.size<=sizeLine/\k=((y.size:Int) != 0):=e
   subst e'
   exact PySem.W.truthy_bytes (by omega) ⟨H,I.tok _,q⟩
 | ref p=>
   cases rx
   have e':(∃ xs,SqL X.K H p xs/\k = !xs.isEmpty)\/(∃ xs,SqT X.K H p xs/\k = !xs.isEmpty)\/∃ kvs,H p=some (.dK kvs)/\k = !kvs.isEmpty:=e
   rcases e' with ⟨xs,hx,e'⟩ | ⟨xs,hx,e'⟩ | ⟨kvs,hx,e'⟩
   . subst e'
     obtain⟨its,r,pl,hz⟩:=I.list hx
     have hlen:=r.length
     exact wpAny_truthy_list pl.isList (by simp only[List.size_toArray];omega) ⟨H,I.tok _,by rw[Ki r];exact q⟩
   . subst e'
     obtain⟨its,r,pl,hz⟩:=I.tuple hx
     have hlen:=r.length
     exact truthy_tuple pl (by simp only[List.size_toArray];omega) ⟨H,I.tok _,by rw[Ki r];exact q⟩
   subst e'
   obtain⟨hz,hS,vs,r,m⟩:kvs.length<=sizeLine/\(p==sysModules)=false/\∃ vs,KV kvs vs/\s.heap.DictOf (Az X.prog X.w) p vs:=I.hok p _ hx
   have hlen:kvs.length=vs.length:=Paired.length r
   exact wpAny_truthy_dict hS m (by omega) ⟨H,I.tok _,by rw[Rh r];exact q⟩
 | _=>exact(show False from e).elim
theorem op_add_str:OpR X (binaryOp .Add) (fun x y H Q=>∃ i j,x = .str i/\y = .str j/\i.length+j.length<=sizeLine/\Q (.str (i++j)) H):=by
 intro pins s σ H x y v u Q I rx ry h
 obtain⟨i,j,rfl,rfl,hz,q⟩:=h
 obtain⟨t,rfl⟩:=rx
 obtain⟨t',rfl⟩:=ry
 exact add_str (fun t' tk=>⟨.str (i++j),H,I.tok _,⟨_,rfl⟩,q⟩) hz
theorem G5 {x:V}{us:List Value}(r:Vals [x] us):∃ u,us=[u]/\RelV x u:=by
 cases r with
 | cons r1 r2=>cases r2;exact⟨_,rfl,r1⟩
theorem Qh {x y:V}{us:List Value}(r:Vals [x,y] us):∃ u w',us=[u,w']/\RelV x u/\RelV y w':=by
 cases r with
 | cons r1 r2=>
   cases r2 with
   | cons r3 r4=>cases r4;exact⟨_,_,rfl,r1,r3⟩
theorem To:CallR X (.type "int") (fun xs H Q=>(∃ i,xs=[.int i]/\Q (.int i) H)\/∃ k,xs=[.bl k]/\Q (.int (if k then 1 else 0)) H):=by
 intro pins s σ H xs us Q I r h
 rcases h with ⟨i,rfl,q⟩ | ⟨k,rfl,q⟩
 . obtain⟨u,rfl,t,rfl⟩:=G5 r
   exact call_int_int ⟨.int i,H,I,⟨_,rfl⟩,q⟩
 obtain⟨u,rfl,r1⟩:=G5 r
 cases r1
 exact call_int_bool ⟨.int (if k then 1 else 0),H,I.tok _,⟨_,rfl⟩,q⟩
def ap0 (K:PySem.W.Frag)(x:V)(H:Hp)(n:Nat):Prop:=
 match x with
 | .str y=>y.length<=sizeLine/\n=y.length
 | .byt y=>y.size<=sizeLine/\n=y.size
 | .ref p=>(∃ xs,SqL K H p xs/\n=xs.length)\/∃ xs,SqT K H p xs/\n=xs.length
 | _=>False
theorem call_len:CallR X (.builtin "len") (fun xs H Q=>∃ x n,xs=[x]/\ap0 X.K x H n/\Q (.int n) H):=by
 intro pins s σ H xs us Q I r h
 obtain⟨x,n,rfl,e,q⟩:=h
 obtain ⟨u,rfl,rx⟩:=G5 r
 have hl:=Ko
 have hs:sizeLine=16777216:=sizeLine_eq
 cases x with
 | str y=>
   obtain⟨t,rfl⟩:=rx
   obtain⟨hy,e'⟩:y.length<=sizeLine/\n=y.length:=e
   subst e'
   exact len_str (by omega) ⟨.int _,H,I.tok _,⟨_,rfl⟩,q⟩
 | byt y=>
   obtain⟨t,rfl⟩:=rx
   obtain⟨hy,e'⟩:y.size<=sizeLine/\n=y.size:=e
   subst e'
   exact PySem.W.len_bytes (by omega) ⟨.int _,H,I.tok _,⟨_,rfl⟩,q⟩
 | ref p=>
   cases rx
   have e':(∃ xs,SqL X.K H p xs/\n=xs.length)\/∃ xs,SqT X.K H p xs/\n=xs.length:=e
   rcases e' with ⟨xs,hx,e'⟩ | ⟨xs,hx,e'⟩
   . subst e'
     obtain⟨its,r',pl,hz⟩:=I.list hx
     have hlen:=r'.length
     exact Calls.call_len_list pl.isList (by simp only[List.size_toArray];omega) ⟨.int xs.length,H,I.tok _,⟨_,by simp only[List.size_toArray];rw[hlen]⟩,q⟩
   subst e'
   obtain⟨its,r',pl,hz⟩:=I.tuple hx
   have hlen:=r'.length
   exact len_tuple pl (by simp only[List.size_toArray];omega) ⟨.int xs.length,H,I.tok _,⟨_,by simp only[List.size_toArray];rw[hlen]⟩,q⟩
 | _=>exact(show False from e).elim
end
structure ObjM (h:Heap)(x dx C:Addr)(mA:Str->Option Value):Prop where
 obj:h.get? x=some (PySem.W.instObj C dx)
 ns:h.Ns1 dx mA
 ne:dx≠x
theorem Mo {h:Heap}{dx:Addr}{mA:Str->Option Value}(n:h.Ns1 dx mA):∃ od,h.get? dx=some od/\∀ name,PySem.W.lookIn name od=some (mA name):=by
 obtain⟨o,es,ep,ho,hd,hk,_,hm⟩:=n
 refine⟨o,ho,fun name=>?_⟩
 have e:=hm name
 unfold nsFind findBy at e
 rw[<- Array.find?_toList] at e
 unfold PySem.W.lookIn
 rw[hd]
 dsimp only
 split
 . rename_i y q
   rw[q] at e
   exact congrArg some e
 rename_i q
 rw[q] at e
 have a:es.toList.any (·.refKey)=false:=by
  rw[List.any_eq_false]
  intro y hy
  obtain⟨z,t,hkey⟩:=hk y (Array.mem_toList_iff.mp hy)
  simp[DictEntry.refKey,hkey]
 have a':¬ es.toList.any (·.refKey)=true:=by rw[a];exact Bool.false_ne_true
 rw[if_neg a']
 exact congrArg some e
theorem ObjM.look {h:Heap}{x dx C:Addr}{mA:Str->Option Value}(I:ObjM h x dx C mA):∃ od,PySem.W.InstAt h x (PySem.W.instObj C dx) C (some od)/\∀ name,PySem.W.lookIn name od=some (mA name):=
 let ⟨od,ho,hl⟩:=Mo I.ns
 ⟨od,⟨I.obj,rfl,rfl,ho⟩,hl⟩
section
variable {prog:Program}{w:World}{A:Around}{E:Value->Shared->Prop}{s:Shared}{K:PySem.W.Frag}{x dx C f:Addr}{mA:Str->Option Value}{name:Str}{v:Value}
theorem Z6 {expr:Bool}{Q:Value->Shared->Prop}(X:K.In s.heap)(I:ObjM s.heap x dx C mA)(hg:PySem.W.plainGet K C name=true)(hh:PySem.W.hasDictIn K C=true)
  (ha:PySem.W.findIn K (.ref C) name=some none) (hv:mA name=some v) (hv':PySem.W.handedIn v=true) (h:Q v { s with toks:=s.toks+1 }) :
  wpAny (model prog w) A (getAttr (.ref x) name expr) Q E s:=by
 obtain⟨od,J,hl⟩:=I.look
 exact PySem.W.get_value X J (PySem.W.plainGet_of hg).1 (PySem.W.findObj_own hh ha rfl (by rw[hl,hv])) hv' h
theorem X0 {pl:Sem Bool}{Q:Value×List Value->Shared->Prop}(X:K.In s.heap)(I:ObjM s.heap x dx C mA)(hg:PySem.W.plainGet K C name=true)
  (hf:PySem.W.findIn K (.ref C) name=some (some (.ref f))) (ht:PySem.W.isFn K (.ref f)=true) (hv:mA name=none) (h:Q (.ref f,[.ref x]) s) :
  wpAny (model prog w) A (getMethod (.ref x) name pl) Q E s:=by
 obtain⟨od,J,hl⟩:=I.look
 exact PySem.W.method_fn X J (PySem.W.plainGet_of hg).1 (PySem.W.plainGet_of hg).2 hf (beq_iff_eq.mp ht) (by show(PySem.W.lookIn name od).map (·.isSome)=some false;rw[hl,hv];rfl) h
theorem a46 {ns:List Str}{Q:Unit->Shared->Prop}(X:K.In s.heap)(I:ObjM s.heap x dx C mA)
  (hs:PySem.W.findIn K (.ref C) "__setattr__" = some (some (.builtin "object.__setattr__"))) (hp:PySem.W.plainOver K C=true) (ht:PySem.W.takerIn K C name=some none) (hh:PySem.W.hasDictIn K C=true)
  (hw:PySem.Within mA ns) (hsz:ns.length<=sizeLine)
  (h:∀ h',ObjM h' x dx C (fun y=>if y=name then some v else mA y)->Heap.SameBut dx s.heap h'->Q () { s with heap:=h',toks:=s.toks+2 }) :
  wpAny (model prog w) A (setAttr (.ref x) name v) Q E s:=by
 obtain⟨od,J,hl⟩:=I.look
 refine PySem.W.set_plain X J hs (PySem.W.osa_open (s:={ s with toks:=s.toks+1 }) (r:=none) X J hp ht fun b=>?_)
 obtain⟨cd,hc,hd'⟩:=PySem.W.any_some hh
 have hx:s.heap.get? x=some ⟨.ref C,some dx,.plain,#[]⟩:=I.obj
 refine wpAny_bind (wpAny_pure (wpAny_bind (wpAny_bind (wpAny_loadPart hx (wpAny_bind (PySem.W.Looks.here (s:={ s with toks:=s.toks+1 }) (PySem.W.looks_clsIn X hc) ?_))))))
 rw[hd']
 refine wpAny_pure (a:=some dx) (wpAny_bind (wpAny_pure (wpAny_bind ?_)))
 refine wpAny_nsSet1 (s:={ s with toks:=s.toks+1 }) I.ns fun h' hn2 hs2=>?_
 obtain⟨oD,esD,epD,hoD,hdD,hcD⟩:=hn2.count (PySem.Within.cons name v hw)
 refine wpAny_bind (wpAny_lookBehind hoD (by rw[hdD];exact pastItsLine_dict (Nat.le_trans hcD (by rw[List.length_cons];omega))) ?_)
 exact wpAny_pure (h _ ⟨(hs2.2 _ (Ne.symm I.ne)).trans I.obj,hn2,I.ne⟩ hs2)
theorem Wd {R:Result->Shared->Prop}{vs:List Value}{kw:List (Str×Value)}(X:K.In s.heap)(hm:PySem.W.makesIn K C=true)
  (hi:PySem.W.findIn K (.ref C) "__init__" = some (some (.ref f))) (hf:PySem.W.typeIn K (.ref f)=some (.type "function"))
  (h:codeAny (model prog w) (A.under (.builtin "type.__call__" ⟨.ref C :: vs,kw⟩)) (.call (.ref f) ⟨.ref (s.heap.objs.size+1) :: vs,kw⟩) (PySem.W.InitBack (s.heap.objs.size+1) R)
   { s with heap:=(s.heap.push PySem.W.emptyDict).push (PySem.W.instObj C s.heap.objs.size) }) :
  codeAny (model prog w) A (.call (.ref C) ⟨vs,kw⟩) R s:=by
 obtain⟨hh,g,d,t,os⟩:=s
 exact PySem.W.make_core (PySem.W.makes_of X hm) (PySem.W.looks_findIn X hi) (fun self=>PySem.W.bind_fn X self hf) (.inl rfl) h
end
def Ia (f:Str) (v:V):List (Str×V)->List (Str×V)
 | []=>[(f,v)]
 | (g,x) :: r=>if g=f then(g,v) :: r else(g,x) :: Ia f v r
theorem Fw (f g:Str)(v:V):∀ fs:List (Str×V),(Ia f v fs).lookup g=if g=f then some v else fs.lookup g
 | []=>by
   show List.lookup g [(f,v)]=_
   by_cases h:g=f
   . have hb:(g==f)=true:=beq_iff_eq.mpr h
     simp only[List.lookup,hb,if_pos h]
   have hb:(g==f)=false:=beq_eq_false_iff_ne.mpr h
   simp only[List.lookup,hb,if_neg h]
 | (k,x) :: r=>by
   have ih:=Fw f g v r
   rw[show Ia f v ((k,x) :: r)=(if k=f then(k,v) :: r else(k,x) :: Ia f v r) from rfl]
   by_cases hk:k=f
   . rw[if_pos hk]
     by_cases h:g=k
     . have hb:(g==k)=true:=beq_iff_eq.mpr h
       simp only[List.lookup,hb,if_pos (h.trans hk)]
     have hb:(g==k)=false:=beq_eq_false_iff_ne.mpr h
     simp only[List.lookup,hb,if_neg (fun e:g=f=>h (e.trans hk.symm))]
   rw[if_neg hk]
   by_cases h:g=k
   . have hb:(g==k)=true:=beq_iff_eq.mpr h
     simp only[List.lookup,hb,if_neg (fun e:g=f=>hk (h.symm.trans e))]
   have hb:(g==k)=false:=beq_eq_false_iff_ne.mpr h
   simp only[List.lookup,hb]
   exact ih
theorem Jq (f:Str)(v:V):∀ fs:List (Str×V),f∈(Ia f v fs).map (·.1)/\∀ g,g∈fs.map (·.1)->g∈(Ia f v fs).map (·.1)
 | []=>⟨by simp[Ia],fun g h=>by simp at h⟩
 | (k,x) :: r=>by
   obtain⟨i1,i2⟩:=Jq f v r
   rw[show Ia f v ((k,x) :: r)=(if k=f then(k,v) :: r else(k,x) :: Ia f v r) from rfl]
   by_cases hk:k=f
   . rw[if_pos hk]
     subst hk
     exact⟨by simp,fun g h=>by simpa using h⟩
   rw[if_neg hk]
   refine⟨?_,fun g h=>?_⟩
   . rw[List.map_cons]
     exact List.mem_cons_of_mem _ i1
   rw[List.map_cons] at h ⊢
   rcases List.mem_cons.mp h with e | e
   . exact List.mem_cons.mpr (.inl e)
   exact List.mem_cons_of_mem _ (i2 g e)
theorem J5 (f:Str)(v:V):∀ fs:List (Str×V),(Ia f v fs).length<=fs.length+1
 | []=>by simp[Ia]
 | (k,x) :: r=>by
   have ih:=J5 f v r
   rw[show Ia f v ((k,x) :: r)=(if k=f then(k,v) :: r else(k,x) :: Ia f v r) from rfl]
   by_cases hk:k=f
   . rw[if_pos hk,List.length_cons,List.length_cons];omega
   rw[if_neg hk,List.length_cons,List.length_cons];omega
theorem RelO.some_of {v:V}{o:Option Value}(r:RelO (some v) o):∃ u,o=some u/\RelV v u:=by
 cases o with
 | none=>exact(show False from r).elim
 | some u=>exact⟨u,rfl,r⟩
theorem RelO.none_of {o:Option Value}(r:RelO none o):o=none:=by
 cases o with
 | none=>rfl
 | some u=>exact(show False from r).elim
theorem Nn {v:V}{u:Value}(r:RelV v u):PySem.W.handedIn u=true:=by
 cases v with
 | non=>cases (show u=Value.none from r);rfl
 | bl b=>cases (show u=Value.bool b from r);rfl
 | int i=>obtain⟨t,e⟩:=(show ∃ t,u=Value.int i t from r);cases e;rfl
 | str x=>obtain⟨t,e⟩:=(show ∃ t,u=Value.str x t from r);cases e;rfl
 | byt b=>obtain⟨t,e⟩:=(show ∃ t,u=Value.bytes b t from r);cases e;rfl
 | flt b=>obtain⟨t,e⟩:=(show ∃ t,u=Value.float b t from r);cases e;rfl
 | ref a=>cases (show u=Value.ref a from r);rfl
 | ty n=>cases (show u=Value.type n from r);rfl
section
variable {P:Program}{w:World}{H H':Hp}{h h':Heap}{a C dx:Addr}{fs fs':List (Str×V)}
theorem Lp (hok:HOk P w H h)(e:H a=some (.ins C dx fs)):∃ mA,ObjM h a dx C mA/\(∀ f,RelO (fs.lookup f) (mA f))/\PySem.Within mA (fs.map (·.1))/\fs.length<=1000/\H dx=some (.own a):=by
 obtain⟨d,z,ne,ob,mA,n,r,q⟩:=(show ObjOk P w H h a (.ins C dx fs) from hok a _ e)
 exact⟨mA,⟨ob,n,ne⟩,r,q,z,d⟩
end
structure Cls (K:PySem.W.Frag)(C:Addr):Prop where
 pg:PySem.W.plainGet K C Str.empty=true
 hd:PySem.W.hasDictIn K C=true
 po:PySem.W.plainOver K C=true
 sa:PySem.W.findIn K (.ref C) "__setattr__" = some (some (.builtin "object.__setattr__"))
theorem Cls.get {K:PySem.W.Frag}{C:Addr}(c:Cls K C)(f:Str):PySem.W.plainGet K C f=true:=c.pg
def NoAttr (K:PySem.W.Frag)(C:Addr)(f:Str):Prop:=PySem.W.findIn K (.ref C) f=some none
theorem NoAttr.taker {K:PySem.W.Frag}{C:Addr}{f:Str}(n:NoAttr K C f):PySem.W.takerIn K C f=some none:=by
 unfold PySem.W.takerIn
 rw[show PySem.W.findIn K (.ref C) f=some none from n]
 rfl
structure aj5 (K:PySem.W.Frag)(C:Addr)(m:Str)(f:Addr):Prop where
 at_:PySem.W.findIn K (.ref C) m=some (some (.ref f))
 fn:PySem.W.isFn K (.ref f)=true
 kp:PySem.W.keepIn K (.ref f)=true
section
variable {X:Cx}{pins:List (Addr×Obj)}{σ:St}{H:Hp}{s:Shared}{a C dx:Addr}{fs:List (Str×V)}{f:Str}{v:V}{A:Around}{E:Value->Shared->Prop}
theorem Rl {b:Bool}{Q:Value->Shared->Prop}(I:Inv X pins σ H s)(e:H a=some (.ins C dx fs))(c:Cls X.K C)(n:NoAttr X.K C f)(l:fs.lookup f=some v)
  (h:∀ u s',Inv X pins σ H s'->RelV v u->Q u s'):wpAny (model X.prog X.w) A (getAttr (.ref a) f b) Q E s:=by
 obtain⟨mA,O,r,_,_,_⟩:=Lp I.hok e
 obtain⟨u,hu,ru⟩:=RelO.some_of (v:=v) (o:=mA f) (by rw[<- l];exact r f)
 exact Z6 I.kIn O (c.get f) c.hd n hu (Nn ru) (h u _ (I.tok _) ru)
theorem Qo {m:Str}{g:Addr}{pl:Sem Bool}{Q:Value×List Value->Shared->Prop}(I:Inv X pins σ H s)(e:H a=some (.ins C dx fs))(c:Cls X.K C)(k:aj5 X.K C m g)(l:fs.lookup m=none)
  (h:Q (.ref g,[.ref a]) s):wpAny (model X.prog X.w) A (getMethod (.ref a) m pl) Q E s:=by
 obtain⟨mA,O,r,_,_,_⟩:=Lp I.hok e
 have hn:mA m=none:=RelO.none_of (by rw[<- l];exact r m)
 exact X0 I.kIn O (c.get m) k.at_ k.fn hn h
theorem Ql {y:V}{u:Value}{Q:Unit->Shared->Prop}(I:Inv X pins σ H s)(e:H a=some (.ins C dx fs))(c:Cls X.K C)(n:NoAttr X.K C f)(hl:fs.length<1000)(ry:RelV y u)
  (h:∀ s',Inv X pins σ (upd H a (.ins C dx (Ia f y fs))) s'->Q () s'):wpAny (model X.prog X.w) A (setAttr (.ref a) f u) Q E s:=by
 obtain⟨mA,O,r,wi,_,ho⟩:=Lp I.hok e
 have hz:(fs.map (·.1)).length<=sizeLine:=by rw[List.length_map,sizeLine_eq];omega
 refine a46 I.kIn O c.sa c.po n.taker c.hd wi hz fun h' O' sb=>h _ ?_
 have hd:∃ o,h'.get? dx=some o:=let ⟨o,_,_,e',_⟩:=O'.ns;⟨o,e'⟩
 refine I.write (x:=a) (e:=dx) (by rw[e];exact True.intro) (.inr ho) (fun b q hb z=>(sb.2 b hb).trans z) hd ?_
 refine⟨by rw[Ap O.ne];exact ho,?_,O.ne,O'.obj,_,O'.ns,fun g=>?_,fun g hg=>?_⟩
 . have:=J5 f y fs;omega
 . show RelO ((Ia f y fs).lookup g) (if g=f then some u else mA g)
   rw[Fw]
   by_cases q:g=f
   . rw[if_pos q,if_pos q];exact ry
   rw[if_neg q,if_neg q];exact r g
 by_cases q:g=f
 . rw[q];exact(Jq f y fs).1
 refine(Jq f y fs).2 g (wi g fun z=>hg ?_)
 show(if g=f then some u else mA g)=none
 rw[if_neg q];exact z
theorem Inv.made (I:Inv X pins σ H s):Inv X pins σ (upd (upd H s.heap.objs.size (.own (s.heap.objs.size+1))) (s.heap.objs.size+1) (.ins C s.heap.objs.size []))
  { s with heap:=(s.heap.push PySem.W.emptyDict).push (PySem.W.instObj C s.heap.objs.size) }:=by
 have e1:(s.heap.push PySem.W.emptyDict).get? s.heap.objs.size=some PySem.W.emptyDict:=Heap.get?_push_size s.heap rfl
 have e2:((s.heap.push PySem.W.emptyDict).push (PySem.W.instObj C s.heap.objs.size)).get? (s.heap.objs.size+1)=some (PySem.W.instObj C s.heap.objs.size):=by
  have:=Heap.get?_push_size (s.heap.push PySem.W.emptyDict) (o:=PySem.W.instObj C s.heap.objs.size) rfl
  rwa[Heap.size_push] at this
 have e3:(s.heap.push PySem.W.emptyDict).Ns s.heap.objs.size (fun _=>none):=⟨PySem.W.emptyDict,#[],_,e1,rfl,(fun e he=>absurd he (by simp)),fun _=>rfl⟩
 have I1:=I.laid (a:=s.heap.objs.size) (o:=.own (s.heap.objs.size+1)) (h':=s.heap.push PySem.W.emptyDict) (t':=s.toks) (fun b u q=>Heap.get?_push_of_some _ q) (Nat.le_refl _) ⟨_,e1⟩
 refine I1.laid (a:=s.heap.objs.size+1) (o:=.ins C s.heap.objs.size []) (t':=s.toks) (fun b u q=>Heap.get?_push_of_some _ q) (Nat.le_of_eq (Heap.size_push _ _)) ?_
 have ne:s.heap.objs.size≠s.heap.objs.size+1:=Nat.ne_of_lt (Nat.lt_succ_self _)
 refine⟨by rw[Ap ne,A9],Nat.zero_le _,ne,e2,fun _=>none,(Heap.Ns1.of_empty e3).at fun o q=>Heap.get?_push_of_some _ q,fun _=>True.intro,fun y hy=>absurd rfl hy⟩
theorem Sd {prog:Program}{w:World}{env:Env}{e:Expr}{f:Str}{pos:Pos}{s:Shared}{Q:Value->Shared->Prop}(hb:attributeBase e f env (eval e env)=eval e env)
  (h:wpAny (model prog w) A (eval e env) (fun o s₁=>wpAny (model prog w) A (getAttr o f true) Q E s₁) E s):wpAny (model prog w) A (eval (.Attribute e f pos) env) Q E s:=
 Attribute_any_ h (by rw[arm_eval_Attribute,hb])
end
section
variable {X:Cx}{o e value:Expr}{f:Str}{pos pos' tpos:Pos}{ta tv:TE}
end
section
variable {X:Cx}{pins:List (Addr×Obj)}{σ:St}{H:Hp}{s:Shared}{A:Around}{E:Value->Shared->Prop}{Q:Value->Shared->Prop}{c:Value}{b:Bool}
inductive Jw (K:PySem.W.Frag)(H:Hp):V->Value->Prop where
 | non:Jw K H .non (.type "NoneType")
 | bl (x:Bool):Jw K H (.bl x) (.type "bool")
 | int (i:Int):Jw K H (.int i) (.type "int")
 | str (x:Str):Jw K H (.str x) (.type "str")
 | flt (x:UInt64):Jw K H (.flt x) (.type "float")
 | lst {a:Addr} {xs:List V} (e:H a=some (.lst xs)):Jw K H (.ref a) (.type "list")
 | frz {a:Addr} {o:Obj} {xs:List V} (e:H a=some (.frz o (.lst xs))):Jw K H (.ref a) (.type "list")
 | tup {a:Addr} {xs:List V} (e:H a=some (.tup xs)):Jw K H (.ref a) (.type "tuple")
 | dK {a:Addr} {kvs:List (Key×V)} (e:H a=some (.dK kvs)):Jw K H (.ref a) (.type "dict")
 | dT {a:Addr} {kvs:List (List Key×V)} (e:H a=some (.dT kvs)):Jw K H (.ref a) (.type "dict")
 | ins {a C dx:Addr} {fs:List (Str×V)} (e:H a=some (.ins C dx fs)) (cl:Cls K C) (ha:PySem.W.findIn K (.ref C) "__class__" = some (some (.builtin "object.__class__")))
   (hn:PySem.W.specialIn K (.builtin "object.__class__") "__get__" = some (some (.builtin "getset_descriptor.__get__"))) (htk:PySem.W.takesIn K (.builtin "object.__class__")=some true)
   (hm:PySem.W.mroIn K C (.type "object")=some true):Jw K H (.ref a) (.ref C)
theorem Mf {x:V}{u t:Value}(I:Inv X pins σ H s)(rx:RelV x u)(ty:Jw X.K H x t)(e:PySem.W.kitOne X.K t c=some b)(h:∀ tk,Q (.bool b) { s with toks:=tk }) :
  wpAny (model X.prog X.w) A (call (.builtin "isinstance") [u,c]) Q E s:=by
 cases ty with
 | non=>cases (show u=Value.none from rx);exact PySem.W.kia_one PySem.W.kitx_none I.kIn True.intro e (fun z=>nomatch z) h
 | bl y=>cases (show u=Value.bool y from rx);exact PySem.W.kia_one PySem.W.kitx_bool I.kIn True.intro e (fun z=>nomatch z) h
 | int i=>obtain⟨t,q⟩:=(show ∃ t,u=Value.int i t from rx);cases q;exact PySem.W.kia_one PySem.W.kitx_int I.kIn True.intro e (fun z=>nomatch z) h
 | str y=>obtain⟨t,q⟩:=(show ∃ t,u=Value.str y t from rx);cases q;exact PySem.W.kia_one PySem.W.kitx_str I.kIn True.intro e (fun z=>nomatch z) h
 | flt y=>obtain⟨t,q⟩:=(show ∃ t,u=Value.float y t from rx);cases q;exact PySem.W.kia_one PySem.W.kitx_float I.kIn True.intro e (fun z=>nomatch z) h
 | @lst a xs ea=>
   cases (show u=Value.ref a from rx)
   obtain⟨_,_,n,_,h1⟩:=(show ObjOk X.prog X.w H s.heap a (.lst xs) from I.hok a _ ea)
   exact PySem.W.kia_one PySem.W.kitx_list I.kIn ⟨_,h1,rfl⟩ e (fun z=>nomatch z) h
 | @frz a ob xs ea=>
   cases (show u=Value.ref a from rx)
   obtain⟨_,_,_,n,_,h1⟩:=(show ObjOk X.prog X.w H s.heap a (.frz ob (.lst xs)) from I.hok a _ ea)
   exact PySem.W.kia_one PySem.W.kitx_list I.kIn ⟨_,h1,rfl⟩ e (fun z=>nomatch z) h
 | @tup a xs ea=>
   cases (show u=Value.ref a from rx)
   obtain⟨_,_,_,p⟩:=(show ObjOk X.prog X.w H s.heap a (.tup xs) from I.hok a _ ea)
   obtain⟨o,h1,h2,_⟩:=p
   exact PySem.W.kia_one PySem.W.kitx_tuple I.kIn ⟨o,h1,h2⟩ e (fun z=>nomatch z) h
 | @dK a kvs ea=>
   cases (show u=Value.ref a from rx)
   obtain⟨_,_,vs,_,p⟩:=(show ObjOk X.prog X.w H s.heap a (.dK kvs) from I.hok a _ ea)
   obtain⟨o,es,ep,h1,h2,_⟩:=p
   exact PySem.W.kia_one PySem.W.kitx_dict I.kIn ⟨o,h1,h2.1⟩ e (fun z=>nomatch z) h
 | @dT a kvs ea=>
   cases (show u=Value.ref a from rx)
   obtain⟨_,_,xs,_,o,es,ep,h1,h2,_⟩:=(show ObjOk X.prog X.w H s.heap a (.dT kvs) from I.hok a _ ea)
   exact PySem.W.kia_one PySem.W.kitx_dict I.kIn ⟨o,h1,h2.1⟩ e (fun z=>nomatch z) h
 | @ins a C dx fs ea cl ha hn htk hm=>
   cases (show u=Value.ref a from rx)
   obtain⟨mA,O,_⟩:=Lp I.hok ea
   obtain⟨od,J,_⟩:=O.look
   exact PySem.W.kia_one (PySem.W.kitx_own (cl.get _) cl.hd ha hn htk hm) I.kIn J e (fun z=>nomatch z) h
end
structure Room (k:Nat)(A:Around):Prop where
 hd:A.handled=none
 dp:A.depth+3*k+5<recursionLimit
 un:A.units+16*k+200<cLine
 gd:A.guards=some []
theorem Room.mono {j k:Nat}{A:Around}(r:Room k A)(h:j<=k):Room j A:=⟨r.hd,by have:=r.dp;omega,by have:=r.un;omega,r.gd⟩
theorem Room.deeper {k:Nat}{A:Around}(r:Room (k+1) A)(env:Env):Room k (A.deeper env):=
 ⟨r.hd,by have:=r.dp;show A.depth+1+3*k+5<_;omega,by have:=r.un;show A.units+3+16*k+200<_;omega,r.gd⟩
theorem Qv {A:Around}{C:Addr}{us:List Value}{kw:List (Str×Value)}:(A.under (.builtin "type.__call__" ⟨.ref C :: us,kw⟩)).depth=A.depth+1:=by
 first | rfl | simp[Around.under,Code.weight,Code.isCreation,Code.isGuard,Code.isCaller,Code.frames,Code.isFrame,guardIds]
theorem R7 {A:Around}{C:Addr}{us:List Value}{kw:List (Str×Value)}:(A.under (.builtin "type.__call__" ⟨.ref C :: us,kw⟩)).units=A.units+1:=by
 first | rfl | simp[Around.under,Code.cUnits,Code.frames,Code.isFrame]
theorem Room.make {k:Nat}{A:Around}(r:Room (k+1) A)(C:Addr)(us:List Value)(kw:List (Str×Value)):Room k (A.under (.builtin "type.__call__" ⟨.ref C :: us,kw⟩)):=
 ⟨r.hd,by have:=r.dp;rw[Qv];omega,by have:=r.un;rw[R7];omega,(by first | exact r.gd | (simpa[Around.under,Code.isGuard,guardIds,pushGuards] using r.gd))⟩
theorem Room.depth {k:Nat}{A:Around}(r:Room k A):A.depth<recursionLimit:=by have:=r.dp;omega
theorem Room.units {k:Nat}{A:Around}(r:Room k A):A.units+64<cLine:=by have:=r.un;omega
def ap2:TA:=fun _ H Q=>Q [] H
def ah2 (ta:TE)(tr:TA):TA:=fun σ H Q=>ta σ H fun x H1=>tr σ H1 fun xs H2=>Q (x :: xs) H2
section
variable {X:Cx}{e:Expr}{es:List Expr}{te:TE}{t:TA}{pos:Pos}
theorem A2:PA X [] ap2:=fun _ _ _ _ H Q I h=>Calls.spliced_nil ⟨[],H,I,.nil,h⟩
theorem A0 (ha:PE X e te)(hr:PA X es t)(hs:starEach (e :: es) X.env=(false,eval e X.env) :: starEach es X.env:=by ac_nf):PA X (e :: es) (ah2 te t):=by
 intro pos pins s σ H Q I h
 rw[hs]
 show wpAny _ _ (spliced ((false,eval e X.env) :: backTo pos (starEach es X.env))) _ _ s
 refine Calls.spliced_cons (thn (ha pins s σ H _ I h) fun u s1 ⟨x,H1,I1,r1,q1⟩=>?_)
 exact thn (hr pos pins s1 σ H1 _ I1 q1) fun us s2 ⟨xs,H2,I2,r2,q2⟩=>⟨x :: xs,H2,I2,.cons r1 r2,q2⟩
def aq1 (t:TA):TE:=fun σ H Q=>t σ H fun xs H1=>xs.length<=sizeLine/\∀ p,H1 p=none->Q (.ref p) (upd H1 p (.tup xs))
def ap6 (t:TA):TE:=fun σ H Q=>t σ H fun xs H1=>xs.length<=sizeLine/\∀ p,H1 p=none->Q (.ref p) (upd H1 p (.lst xs))
theorem D8 {x1}(h:PA X es t):PE X (.Tuple es x1 pos) (aq1 t):=by
 intro pins s σ H Q I hq
 refine wpAny_Tuple_spliced (thn (h pos pins s σ H _ I hq) fun us s1 ⟨xs,H1,I1,r,z,q⟩=>⟨by rw[<- r.length];exact z,?_⟩)
 have hf:H1 s1.heap.objs.size=none:=I1.hok.fresh (Nat.le_refl _)
 refine⟨.ref s1.heap.objs.size,upd H1 s1.heap.objs.size (.tup xs),I1.laid (t':=s1.toks) (fun b u e=>Heap.get?_push_of_some _ e) (Nat.le_refl _) ?_,rfl,q _ hf⟩
 exact⟨z,us,r,⟨_,Heap.get?_push_size _ rfl,rfl,⟨_,rfl⟩,rfl⟩⟩
theorem B6 (h:PA X es t):PE X (.List es pos) (ap6 t):=by
 intro pins s σ H Q I hq
 refine wpAny_List_spliced (thn (h pos pins s σ H _ I hq) fun us s1 ⟨xs,H1,I1,r,z,q⟩=>⟨by rw[<- r.length];exact z,?_⟩)
 have hf:H1 s1.heap.objs.size=none:=I1.hok.fresh (Nat.le_refl _)
 refine⟨.ref s1.heap.objs.size,upd H1 s1.heap.objs.size (.lst xs),I1.laid (t':=s1.toks) (fun b u e=>Heap.get?_push_of_some _ e) (Nat.le_refl _) ?_,rfl,q _ hf⟩
 exact⟨z,us,0,r,Heap.get?_push_size _ rfl⟩
end
abbrev Sp:=List V->Hp->VK->XK->Prop
abbrev CXT:=List Env->Hp->Shared->XK->Value->Shared->Prop
structure Env0 (P:Program)(w:World)(K:PySem.W.Frag)(mg:Str->Option Value)(base:Heap)(A:Around)(outer:List Env)(s:Shared)(H:Hp):Prop where
 frames:A.frames=some outer
 mod:Mod K mg base
 bs:∀ b o,base.get? b=some o->s.heap.get? b=some o/\H b=none
 bsz:base.objs.size<=s.heap.objs.size
 funs:s.heap.FunFrames base outer
 frf:∀ b∈frs outer,H b=none
 hok:HOk P w H s.heap
 bare:AllBare s.gens
def CE (outer:List Env)(P:Program)(w:World)(H:Hp)(s:Shared)(Q:VK)(u:Value)(s':Shared):Prop:=
 ∃ v H',s'.os=s.os/\AllBare s'.gens/\Un (frs outer) [] H H' s.heap s'.heap/\HOk P w H' s'.heap/\RelV v u/\Q v H'
def CR (CX:CXT)(outer:List Env)(P:Program)(w:World)(H:Hp)(s:Shared)(Q:VK)(E:XK)(r:Result)(s':Shared):Prop:=
 match r with
 | .ok (.ret u)=>CE outer P w H s Q u s'
 | .ok _=>False
 | .error e=>CX outer H s E e s'
structure FnOk (P:Program)(w:World)(K:PySem.W.Frag)(mg:Str->Option Value)(base:Heap)(CX:CXT)(k:Nat)(f:Addr)(fd:FuncData)(ps:List Str)(sp:Sp):Prop where
 len:∀ vs H Q E,sp vs H Q E->vs.length=ps.length
 run:∀(A:Around) (outer:List Env) (s:Shared) (H:Hp) (args:Args) (us:List Value) (vs:List V) (Q:VK) (E:XK),Room k A->Env0 P w K mg base A outer s H->BindsTo s fd args (ps.zip us)->Vals vs us->sp vs H Q E ->
  codeAny (model P w) A (.call (.ref f) args) (CR CX outer P w H s Q E) s
theorem Env0.make {P:Program}{w:World}{K:PySem.W.Frag}{mg:Str->Option Value}{base:Heap}{A:Around}{outer:List Env}{s:Shared}{H:Hp}(e:Env0 P w K mg base A outer s H)(C:Addr)(us:List Value)(kw:List (Str×Value)) :
  Env0 P w K mg base (A.under (.builtin "type.__call__" ⟨.ref C :: us,kw⟩)) outer s H:=⟨by first | exact e.frames | (simpa[Around.under,Code.envs,Code.isFrame,pushEnvs] using e.frames),e.mod,e.bs,e.bsz,e.funs,e.frf,e.hok,e.bare⟩
section
variable {X:Cx}{pins:List (Addr×Obj)}{σ:St}{H:Hp}{s s':Shared}
theorem Inv.env0 (I:Inv X pins σ H s):Env0 X.prog X.w X.K X.mg X.base X.A X.stack s H:=
 ⟨I.ok.frames,I.ok.mod,I.bs,Nat.le_trans I.ok.bsz I.sz,I.stack,I.stkFree,I.hok,I.bare⟩
theorem Inv.after {Q:VK}{u:Value}(I:Inv X pins σ H s)(h:CE X.stack X.prog X.w H s Q u s'):EP X pins σ Q u s':=by
 obtain⟨v,H',os,bare,un,hok,r,q⟩:=h
 obtain⟨hh,g,d,t,os'⟩:=s'
 obtain rfl:os'=s.os:=os
 exact⟨v,H',I.call (h':=hh) (g':=g) (d':=d) (t':=t) (ch:=[]) un hok bare (fun b z=>absurd z (by simp)),r,q⟩
end
def V8 (sp:Sp)(dvs:List V)(E:XK)(t:TA):TE:=fun σ H Q=>t σ H fun vs H1=>sp (vs++dvs) H1 Q E
def al8 (C:Addr)(m:Str)(sp:Sp)(dvs:List V)(E:XK)(ta:TE)(t:TA):TE:=fun σ H Q=>ta σ H fun x H1=>∃ a dx fs,x = .ref a/\H1 a=some (.ins C dx fs)/\fs.lookup m=none /\
 t σ H1 fun vs H2=>sp (x :: (vs++dvs)) H2 Q E
def ao0 (C:Addr)(sp:Sp)(dvs:List V)(E:XK)(t:TA):TE:=fun σ H Q=>t σ H fun vs H1=>∀ x dx,H1 x=none->H1 dx=none->dx≠x ->
 sp (.ref x :: (vs++dvs)) (upd (upd H1 dx (.own x)) x (.ins C dx [])) (fun v H2=>v = .non/\Q (.ref x) H2) E
def Binds (K:PySem.W.Frag)(fd:FuncData)(ps:List Str)(ds:List Value):Prop:=
 ∀(s:Shared) (us:List Value),K.In s.heap->(us++ds).length=ps.length->BindsTo s fd ⟨us,[]⟩ (ps.zip (us++ds))
theorem Binds.all {K:PySem.W.Frag}{fd:FuncData}{ps:List Str}(h:∀ us:List Value,us.length=ps.length->bindArgs fd ⟨us,[]⟩=pure (ps.zip us)):Binds K fd ps []:=fun s us _ hl=>by
 rw[List.append_nil] at hl ⊢
 exact .of_eq (h us hl)
def Fu (CX:CXT)(X:Cx)(E:XK):Prop:=∀(pins:List (Addr×Obj)) (σ:St) (H:Hp) (s:Shared) (e:Value) (s':Shared),Inv X pins σ H s->CX X.stack H s E e s'->X.xe e s'
section
variable {X:Cx}{CX:CXT}{k:Nat}{f C:Addr}{fd:FuncData}{ps:List Str}{sp:Sp}{dvs:List V}{ds:List Value}{E:XK}{x m:Str}{p pos apos:Pos}{e o:Expr}{es:List Expr}{ta:TE}{t:TA}
theorem Xs {pins:List (Addr×Obj)}{σ:St}{H:Hp}{s:Shared}{Q:VK}{us:List Value}{vs:List V}(F:FnOk X.prog X.w X.K X.mg X.base CX k f fd ps sp)(hr:Room k X.A)(hb:Binds X.K fd ps ds)(hd:Vals dvs ds)(hx:Fu CX X E)
  (I:Inv X pins σ H s) (r:Vals vs us) (h:sp (vs++dvs) H Q E):wpAny (model X.prog X.w) X.A (call (.ref f) us) (EP X pins σ Q) X.xe s:=by
 have r2:Vals (vs++dvs) (us++ds):=r.append hd
 have hl:(us++ds).length=ps.length:=by rw[<- r2.length];exact F.len _ _ _ _ h
 refine wpAny_call (codeAny_mono (F.run X.A X.stack s H ⟨us,[]⟩ (us++ds) (vs++dvs) Q E hr I.env0 (hb s us I.kIn hl) r2 h) fun r s' hq=>?_)
 cases r with
 | error e=>exact hx pins σ H s e s' I hq
 | ok fl=>
   cases fl with
   | ret u=>exact I.after hq
   | next=>exact False.elim hq
   | brk=>exact False.elim hq
   | cont=>exact False.elim hq
theorem Ti (F:FnOk X.prog X.w X.K X.mg X.base CX k f fd ps sp)(hr:Room k X.A)(hg:Gl X x)(hm:X.mg x=some (.ref f))(hk:PySem.W.keepIn X.K (.ref f)=true)(hb:Binds X.K fd ps ds)(hd:Vals dvs ds)(hx:Fu CX X E)
  (ha:PA X (e :: es) t) (hdb:(x==("__debug__":Str))=false:=by decide) (he:starEach (e :: es) X.env=(false,eval e X.env) :: starEach es X.env:=by ac_nf) (hpl:(backTo pos (starEach es X.env)).any (·.1)=false:=by ac_nf) :
  PE X (.Call (.Name x p) (e :: es) [] pos) (V8 sp dvs E t):=by
 intro pins s σ H Q I h
 refine wpAny_Call_Name_kw (Hi I hg hm ?_ hdb)
 refine PySem.W.callWith_K (h₀:=X.base) I.ok.mod.kin hk (thn (ha pos pins s σ H _ I h) fun us s1 ⟨vs,H1,I1,r,q⟩=>⟨I1.kIn,?_⟩) he hpl
 exact Xs F hr hb hd hx I1 r q
theorem Yy {pl:Sem Bool}(he:PE X o ta)(c:Cls X.K C)(hm:aj5 X.K C m f)(F:FnOk X.prog X.w X.K X.mg X.base CX k f fd ps sp)(hr:Room k X.A)(hb:Binds X.K fd ps ds)(hd:Vals dvs ds)(hx:Fu CX X E)(ha:PA X (e :: es) t)
  (hst:starEach (e :: es) X.env=(false,eval e X.env) :: starEach es X.env:=by ac_nf) (hpl:(backTo pos (starEach es X.env)).any (·.1)=false:=by ac_nf)
  (ht:eval (.Call (.Attribute o m apos) (e :: es) [] pos) X.env=(do
   let ov <- eval o X.env
   standAt apos.atName
   let (f,first) <- holding [ov] (getMethod ov m pl)
   callWith pos f first (backTo pos (starEach (e :: es) X.env)) (backToKw pos (keywordEach [] X.env))):=by ac_nf) :
  PE X (.Call (.Attribute o m apos) (e :: es) [] pos) (al8 C m sp dvs E ta t):=by
 intro pins s σ H Q I h
 refine PySem.W.methodCall_KW (pl:=pl) (thn (he pins s σ H _ I h) fun u s1 ⟨x,H1,I1,rx,a,dx,fs,ex,ea,l,q⟩=>?_) ht
 subst ex
 obtain rfl:u=Value.ref a:=rx
 refine Qo I1 ea c hm l ?_
 refine PySem.W.callWith_K (first:=[.ref a]) (h₀:=X.base) I.ok.mod.kin hm.kp (thn (ha pos pins s1 σ H1 _ I1 q) fun us s2 ⟨vs,H2,I2,r,q2⟩=>⟨I2.kIn,?_⟩) hst hpl
 exact Xs (us:=.ref a :: us) (vs:=.ref a :: vs) F hr hb hd hx I2 (.cons rfl r) q2
structure Mk (K:PySem.W.Frag)(C f:Addr):Prop where
 makes:PySem.W.makesIn K C=true
 init:PySem.W.findIn K (.ref C) "__init__" = some (some (.ref f))
 fn:PySem.W.isFn K (.ref f)=true
 kp:PySem.W.keepIn K (.ref C)=true
theorem Vs {pins:List (Addr×Obj)}{σ:St}{H:Hp}{s:Shared}{Q:VK}{us:List Value}{vs:List V}(M:Mk X.K C f)(F:FnOk X.prog X.w X.K X.mg X.base CX k f fd ps sp)(hr:Room (k+1) X.A)(hb:Binds X.K fd ps ds)(hd:Vals dvs ds)
  (hx:Fu CX X E) (I:Inv X pins σ H s) (r:Vals vs us)
  (h:∀ x dx,H x=none->H dx=none->dx≠x->sp (.ref x :: (vs++dvs)) (upd (upd H dx (.own x)) x (.ins C dx [])) (fun v H2=>v = .non/\Q (.ref x) H2) E) :
  wpAny (model X.prog X.w) X.A (call (.ref C) us) (EP X pins σ Q) X.xe s:=by
 have hq:=h (s.heap.objs.size+1) s.heap.objs.size (I.hok.fresh (Nat.le_succ _)) (I.hok.fresh (Nat.le_refl _)) (Nat.ne_of_lt (Nat.lt_succ_self _))
 have I2:=Inv.made (C:=C) I
 have r2:Vals (V.ref (s.heap.objs.size+1) :: (vs++dvs)) (Value.ref (s.heap.objs.size+1) :: (us++ds)):=.cons rfl (r.append hd)
 have hl:(Value.ref (s.heap.objs.size+1) :: us++ds).length=ps.length:=by
  have e:=r2.length
  rw[F.len _ _ _ _ hq] at e
  exact e.symm
 refine wpAny_call (Wd (f:=f) I.kIn M.makes M.init (beq_iff_eq.mp M.fn) (codeAny_mono (F.run _ X.stack _ _ ⟨Value.ref (s.heap.objs.size+1) :: us,[]⟩ (Value.ref (s.heap.objs.size+1) :: (us++ds)) _ _ E (hr.make C us [])
  (I2.env0.make C us []) (hb _ (Value.ref (s.heap.objs.size+1) :: us) I2.kIn hl) r2 hq) fun r s' hq'=>?_))
 cases r with
 | error e=>exact hx pins σ _ _ e s' I2 hq'
 | ok fl=>
   cases fl with
   | ret u=>
     obtain⟨v,H',I3,rv,ev,q3⟩:=I2.after hq'
     subst ev
     exact⟨rv,⟨V.ref (s.heap.objs.size+1),H',I3,rfl,q3⟩⟩
   | next=>exact False.elim hq'
   | brk=>exact False.elim hq'
   | cont=>exact False.elim hq'
theorem a33 (M:Mk X.K C f)(F:FnOk X.prog X.w X.K X.mg X.base CX k f fd ps sp)(hr:Room (k+1) X.A)(hg:Gl X x)(hm:X.mg x=some (.ref C))(hb:Binds X.K fd ps ds)(hd:Vals dvs ds)(hx:Fu CX X E)
  (ha:PA X (e :: es) t) (hdb:(x==("__debug__":Str))=false:=by decide) (he:starEach (e :: es) X.env=(false,eval e X.env) :: starEach es X.env:=by ac_nf) (hpl:(backTo pos (starEach es X.env)).any (·.1)=false:=by ac_nf) :
  PE X (.Call (.Name x p) (e :: es) [] pos) (ao0 C sp dvs E t):=by
 intro pins s σ H Q I h
 refine wpAny_Call_Name_kw (Hi I hg hm ?_ hdb)
 refine PySem.W.callWith_K (h₀:=X.base) I.ok.mod.kin M.kp (thn (ha pos pins s σ H _ I h) fun us s1 ⟨vs,H1,I1,r,q⟩=>⟨I1.kIn,?_⟩) he hpl
 exact Vs M F hr hb hd hx I1 r q
end
section
variable {X:Cx}{CX:CXT}{k:Nat}{f C:Addr}{fd:FuncData}{ps ks:List Str}{sp:Sp}{E:XK}{x m:Str}{p pos apos kpos:Pos}{e o:Expr}{es:List Expr}{kws:List Keyword}{te ta:TE}{t tk:TA}{nm:Option Str}
variable {g:List Value->List Value->List Value}{gV:List V->List V->List V}
end
structure Aq (N P:List Str)(sc:Scope):Prop where
 kind:sc.kind = .function
 co:sc.isCoroutine=false
 gen:sc.isGenerator=false
 nd:N.Nodup
 pre:N.take P.length=P
 par:∀ x∈P,sc.names.lookup x=some .local\/sc.names.lookup x=some .cell
 nofree:∀ y∈sc.names,y.2 ≠ .free
theorem Nz {kindOf:Str->Option NameKind}{x:Str}:∀ {binds:List (Str×Value)} {m:Str->Option Value},(∀ v,(x,v)∉binds)->bindL kindOf binds m x=m x
 | [],_,_=>rfl
 | (n,v) :: r,m,h=>by
   unfold bindL
   rw[Nz fun w hw=>h w (List.mem_cons_of_mem _ hw)]
   split
   . have:x≠n:=by rintro rfl;exact h v List.mem_cons_self
     simp[this]
   rfl
theorem Nq {kindOf:Str->Option NameKind}{x:Str}:∀ {binds:List (Str×Value)} {m:Str->Option Value},(∀ v,(x,v)∉binds)->bindC kindOf binds m x=m x
 | [],_,_=>rfl
 | (n,v) :: r,m,h=>by
   unfold bindC
   rw[Nq fun w hw=>h w (List.mem_cons_of_mem _ hw)]
   split
   . rfl
   have:x≠n:=by rintro rfl;exact h v List.mem_cons_self
   simp[this]
theorem Mp {kindOf:Str->Option NameKind} {x:Str} {v:Value}:∀ {P:List Str} {vs:List Value} {i:Nat} {m:Str->Option Value},P.Nodup->P[i]? = some x->vs[i]? = some v->kindOf x=some .local ->
  bindL kindOf (P.zip vs) m x=some v
 | [],_,_,_,_,h,_,_=>by simp at h
 | _ :: _,[],_,_,_,_,h,_=>by simp at h
 | p :: P,w :: vs,0,m,nd,h1,h2,hk=>by
   simp at h1 h2;subst h1;subst h2
   show bindL kindOf ((p,w) :: P.zip vs) m p=_
   unfold bindL
   rw[Nz fun v hv=>(List.nodup_cons.mp nd).1 (List.of_mem_zip hv).1,if_pos hk]
   simp
 | p :: P,w :: vs,i+1,m,nd,h1,h2,hk=>by
   show bindL kindOf ((p,w) :: P.zip vs) m x=_
   unfold bindL
   exact Mp (i:=i) (List.nodup_cons.mp nd).2 (by simpa using h1) (by simpa using h2) hk
theorem N9 {kindOf:Str->Option NameKind} {x:Str} {v:Value}:∀ {P:List Str} {vs:List Value} {i:Nat} {m:Str->Option Value},P.Nodup->P[i]? = some x->vs[i]? = some v->kindOf x≠some .local ->
  bindC kindOf (P.zip vs) m x=some v
 | [],_,_,_,_,h,_,_=>by simp at h
 | _ :: _,[],_,_,_,_,h,_=>by simp at h
 | p :: P,w :: vs,0,m,nd,h1,h2,hk=>by
   simp at h1 h2;subst h1;subst h2
   show bindC kindOf ((p,w) :: P.zip vs) m p=_
   unfold bindC
   rw[Nq fun v hv=>(List.nodup_cons.mp nd).1 (List.of_mem_zip hv).1,if_neg hk]
   simp
 | p :: P,w :: vs,i+1,m,nd,h1,h2,hk=>by
   show bindC kindOf ((p,w) :: P.zip vs) m x=_
   unfold bindC
   exact N9 (i:=i) (List.nodup_cons.mp nd).2 (by simpa using h1) (by simpa using h2) hk
def Kx (N:List Str)(vs:List V):St:=vs.map some++List.replicate (N.length-vs.length) none
def Rp (CX:CXT)(P:Program)(w:World)(K:PySem.W.Frag)(mg:Str->Option Value)(base:Heap)(N:List Str)(qual:Str)(scope:Scope)(f:Addr)(cd:Value)(A:Around)(outer:List Env)(s:Shared)(H:Hp)(E:XK):Cx where
 prog:=P
 w:=w
 K:=K
 mg:=mg
 base:=base
 A:=A.deeper (envOfC qual scope s.heap.objs.size f cd)
 N:=N
 s₀:=s
 H₀:=H
 env:=envOfC qual scope s.heap.objs.size f cd
 outer:=outer
 stack:=envOfC qual scope s.heap.objs.size f cd :: outer
 ex:=[]
 calm:=true
 fn:=fun _=>true
 pn:=[]
 xe:=fun e s'=>wpAny (model P w) (A.deeper (envOfC qual scope s.heap.objs.size f cd)) (leaving (envOfC qual scope s.heap.objs.size f cd) e) (fun _ s''=>CX outer H s E e s'') (fun e' s''=>CX outer H s E e' s'') s'
theorem Pj {sc:Scope}{n:Nat}{x:Str}(h:sc.names.lookup x=some .cell):∃ c,(cellsFrom n sc.names []).lookup x=some c:=by
 have q:=PySem.W.cellsFrom_some sc.names n [] (.inl h)
 exact Option.isSome_iff_exists.mp q
theorem Ta {CX:CXT}{P:Program}{w:World}{K:PySem.W.Frag}{mg:Str->Option Value}{base:Heap}{N ps:List Str}{qual:Str}{scope:Scope}{f:Addr}{cd:Value}{A:Around}{outer:List Env}{s s1:Shared}{H:Hp}{E:XK}{us:List Value}{vs:List V}
  (S:Aq N ps scope) (hd:A.handled=none) (e0:Env0 P w K mg base A outer s H) (hl:vs.length=ps.length) (r:Vals vs us)
  (x:InCallC s s.heap.objs.size (bindL (envOfC qual scope s.heap.objs.size f cd).kindOf (ps.zip us) fun _=>none) (cellsFrom (s.heap.objs.size+1) scope.names []) (bindC (envOfC qual scope s.heap.objs.size f cd).kindOf (ps.zip us) fun _=>none) s1) :
  Inv (Rp CX P w K mg base N qual scope f cd A outer s H E) [] (Kx N vs) H s1:=by
 have hpl:ps.length<=N.length:=by have:=congrArg List.length S.pre;rw[List.length_take] at this;omega
 obtain⟨h1,tk,rfl,hk⟩:=x.done
 have noA:∀ b:Addr,b∉(Rp CX P w K mg base N qual scope f cd A outer s H E).ex:=fun b z=>absurd (show b∈([]:List Addr) from z) (by simp)
 refine⟨⟨e0.mod,S.kind,rfl,rfl,Nat.le_refl _,fun y z c h1 h2=>?_,fun y hy=>?_,fun y c _ h=>?_,fun _=>hd,Around.frames_deeper e0.frames,.inr ⟨rfl,rfl⟩,fun b z=>absurd z (noA b),e0.bs,e0.bsz,fun b _ _=>noA b,fun b z=>absurd z (noA b),e0.funs,e0.frf⟩,
  rfl,e0.bare,Un.kept hk,⟨_,x.toInCall.ns,fun i y v h1 h2 h3=>?_⟩,fun y c h=>⟨_,x.cell y c h⟩,e0.hok.fresh (Nat.le_refl _),fun y c h=>?_,fun p hp=>absurd (show p∈([]:List (Addr×Obj)) from hp) (by simp),e0.hok.kept hk,?_⟩
 . exact name_of_addr x.apart (PySem.mem_of_lookup h1) (PySem.mem_of_lookup h2)
 . have hy:scope.names.lookup y=some .cell\/scope.names.lookup y=some .free:=hy
   rcases hy with hy | hy
   . exact Pj hy
   exact absurd rfl (S.nofree _ (PySem.mem_of_lookup hy))
 . exact Nat.le_of_lt (x.above y c (PySem.mem_of_lookup h))
 . have hi:i<vs.length:=by
    unfold Kx at h2
    by_cases hi:i<vs.length
    . exact hi
    rw[List.getElem?_append_right (by simpa using hi)] at h2
    rw[List.getElem?_replicate] at h2
    split at h2<;>cases h2
   have ha:vs[i]? = some v:=by
    unfold Kx at h2
    rw[List.getElem?_append_left (by simpa using hi),List.getElem?_map] at h2
    cases e:vs[i]? with
    | none=>rw[e] at h2;cases h2
    | some a=>rw[e] at h2;cases h2;rfl
   obtain⟨u,hu,rv⟩:=r.get ha
   have hp:ps[i]? = some y:=by
    rw[<- S.pre,List.getElem?_take_of_lt (by omega)];exact h1
   have ndP:ps.Nodup:=by rw[<- S.pre];exact S.nd.sublist (List.take_sublist _ _)
   refine⟨u,rv,?_⟩
   rcases S.par y (List.mem_of_getElem? hp) with k | k
   . exact .inl ⟨k,Mp ndP hp hu k⟩
   obtain⟨c,e⟩:=Pj (n:=s.heap.objs.size+1) k
   refine .inr ⟨.inl k,c,e,?_⟩
   have q:=x.cell y c e
   rw[N9 ndP hp hu (by show scope.names.lookup y≠_;rw[k];decide)] at q
   exact q
 . exact e0.hok.fresh (Nat.le_of_lt (x.above y c (PySem.mem_of_lookup h)))
 unfold Kx
 show _=N.length
 rw[List.length_append,List.length_map,List.length_replicate]
 omega
theorem af5 {CX:CXT}{P:Program}{w:World}{K:PySem.W.Frag}{mg:Str->Option Value}{base:Heap}{k:Nat}{f:Addr}{name qual:Str}{params:Arguments}{body:List Stmt}{scope:Scope}{dV kV doc pm cdv ct oc:Value}{an od:Option Addr}
  {osl:Array (Option Value)} {N ps:List Str} {sp:Sp} (lk:K.lookup f=some ⟨oc,od,.func (PySem.W.fnOf name qual params body scope dV kV doc pm an cdv ct),osl⟩) (hcd:PySem.W.codeIn K cdv qual=true) (S:Aq N ps scope)
  (len:∀ vs H Q E,sp vs H Q E->vs.length=ps.length)
  (hbody:∀(A:Around) (outer:List Env) (s:Shared) (H:Hp) (vs:List V) (Q:VK) (E:XK),Room k (A.deeper (envOfC qual scope s.heap.objs.size f cdv))->sp vs H Q E ->
   ∃ t,PSs (Rp CX P w K mg base N qual scope f cdv A outer s H E) body t/\t { nx:=fun _ H'=>Q .non H',rt:=Q } (Kx N vs) H) :
  FnOk P w K mg base CX (k+1) f (PySem.W.fnOf name qual params body scope dV kV doc pm an cdv ct) ps sp:=by
 refine⟨len,fun A outer s H args us vs Q E hr e0 hb r hsp=>?_⟩
 have hl:=len _ _ _ _ hsp
 have KX:K.In s.heap:=e0.mod.kin.keeps fun b o e=>(e0.bs b o e).1
 have lim:s.heap.NoLimit:=e0.mod.nolimit.keeps fun b o e=>(e0.bs b o e).1
 have hkind:∀ y∈ps.zip us,scope.names.lookup y.1=some .local\/(scope.names.lookup y.1=some .cell/\((cellsFrom (s.heap.objs.size+1) scope.names []).lookup y.1).isSome=true):=fun⟨n,v⟩ hy=>by
  rcases S.par n (List.of_mem_zip hy).1 with q | q
  . exact .inl q
  exact .inr ⟨q,PySem.W.cellsFrom_some _ _ _ (.inl q)⟩
 refine codeAny_call_function hr.depth (KX _ _ lk) rfl S.co S.gen rfl (PySem.W.codeRec_of KX hcd) (hb _ _ _ _ ?_)
 refine wpAny_newFunctionEnv_cells S.kind hkind fun env he s1 x=>?_
 subst he
 refine⟨lim.keeps x.toInCall.keep,codeAny_func ?_⟩
 obtain⟨t,ht,hq⟩:=hbody A outer s H vs Q E (hr.deeper _) hsp
 have I:Inv (Rp CX P w K mg base N qual scope f cdv A outer s H E) [] (Kx N vs) H s1:=Ta S hr.hd e0 hl r x
 refine wpAny_mono (ht [] s1 (Kx N vs) H _ I hq) (fun fl s' hs=>?_) fun e s' hs=>hs
 have fin:∀ {σ':St} {H':Hp} {v:V} {u:Value},Inv (Rp CX P w K mg base N qual scope f cdv A outer s H E) [] σ' H' s'->RelV v u->Q v H'->CE outer P w H s Q u s':=
  fun {σ' H' v u} J rv q=>⟨v,H',J.os,J.bare,J.base,J.hok,rv,q⟩
 cases fl with
 | ret u=>
   obtain⟨v,σ',H',J,rv,q⟩:=hs
   exact fin J rv q
 | next=>
   obtain⟨σ',H',J,q⟩:=hs
   exact fin (v:=V.non) (u:=Value.none) J rfl q
 | brk=>
   obtain⟨_,_,_,q⟩:=hs
   exact False.elim q
 | cont=>
   obtain⟨_,_,_,q⟩:=hs
   exact False.elim q
section
variable {X:Cx}{x:Str}{p pos:Pos}{e:Expr}{es:List Expr}{t:TA}{id T:String}{r:List V->Hp->VK->Prop}
def tCB (r:List V->Hp->VK->Prop)(t:TA):TE:=fun σ H Q=>t σ H fun vs H1=>r vs H1 Q
theorem Aa (hc:CallR X (.builtin id) r)(hg:Gl X x)(hm:X.mg x=none)(hv:bootBuiltins x=some (.builtin id))(ha:PA X (e :: es) t)(hn:x ≠ "__name__":=by decide)(hdb:(x==("__debug__":Str))=false:=by decide)
  (he:starEach (e :: es) X.env=(false,eval e X.env) :: starEach es X.env:=by ac_nf) (hpl:(backTo pos (starEach es X.env)).any (·.1)=false:=by ac_nf):PE X (.Call (.Name x p) (e :: es) [] pos) (tCB r t):=by
 intro pins s σ H Q I h
 refine wpAny_Call_Name_kw (J1 I hg hm hv ?_ hn hdb)
 exact PyProof.Rows.callWith_builtin1 (thn (ha pos pins s σ H _ I h) fun us s1 ⟨vs,H1,I1,r1,q1⟩=>hc pins s1 σ H1 vs us Q I1 r1 q1) he hpl
theorem B9 (hc:CallR X (.type T) r)(hg:Gl X x)(hm:X.mg x=none)(hv:bootBuiltins x=some (.type T))(ha:PA X (e :: es) t)(hn:x ≠ "__name__":=by decide)(hdb:(x==("__debug__":Str))=false:=by decide)
  (he:starEach (e :: es) X.env=(false,eval e X.env) :: starEach es X.env:=by ac_nf) (hpl:(backTo pos (starEach es X.env)).any (·.1)=false:=by ac_nf):PE X (.Call (.Name x p) (e :: es) [] pos) (tCB r t):=by
 intro pins s σ H Q I h
 refine wpAny_Call_Name_kw (J1 I hg hm hv ?_ hn hdb)
 exact PyProof.Rows.callWith_type1 (thn (ha pos pins s σ H _ I h) fun us s1 ⟨vs,H1,I1,r1,q1⟩=>hc pins s1 σ H1 vs us Q I1 r1 q1) he hpl
end
end L2
namespace HT
open PySem PyProof.Rows
section
open PySem.SeqAt
open PySem.AutoSeq1 (wpAny_loadPart')
open PySem.MeetsSeq PySem.MeetsSeq2 PySem.MeetsSeq3
end
section
variable {prog:Program}{w:World}{A:Around}{E:Value->Shared->Prop}{s:Shared}
theorem cat_tup {t b:Addr}{vs ws:List Value}{Q:Value->Shared->Prop}(ht:IsTup s.heap t vs.toArray)(hb:IsTup s.heap b ws.toArray)(hv:vs≠[])
  (h1:ws=[]->Q (.ref t) s) (h2:ws≠[]->Q (.ref s.heap.objs.size) { s with heap:=s.heap.push { cls:=.type "tuple",data:=.seq (vs++ws).toArray } })
  (hsz:vs.length+ws.length<=sizeLine):wpAny (model prog w) A (binaryOp .Add (.ref t) (.ref b)) Q E s:=by
 obtain⟨⟨cls,dd,data,sl⟩,ho,hc,n,hd⟩:=id ht
 obtain⟨⟨cls2,dd2,data2,sl2⟩,ho2,hc2,n2,hd2⟩:=id hb
 simp only at hc hd hc2 hd2
 subst hc hd hc2 hd2
 have e:vs.toArray++ws.toArray=(vs++ws).toArray:=by simp
 by_cases hw:ws=[]
 . exact concat_meets ⟨_,ho,rfl⟩ ⟨_,ho2,rfl⟩ noFill_tuple_add seq_tuple_add PySem.F.slot_tuple_add PySem.F.entry_tuple_add (PySem.F.args_tuple_add_2 _ _)
    (tuple_addW1 t b vs.toArray ws.toArray n n2 dd dd2 sl sl2 (by simpa using hv) (by simp[hw])) ⟨ho,ho2,h1 hw⟩
 refine concat_meets ⟨_,ho,rfl⟩ ⟨_,ho2,rfl⟩ noFill_tuple_add seq_tuple_add PySem.F.slot_tuple_add PySem.F.entry_tuple_add (PySem.F.args_tuple_add_2 _ _)
  (tuple_addW2 t b vs.toArray ws.toArray n n2 dd dd2 sl sl2 (by simpa using hv) (by simpa using hw) (by rw[List.size_toArray,List.size_toArray];exact hsz)) ⟨ho,ho2,?_⟩
 rw[e]
 exact h2 hw
def sIx (n d:Nat):Option Int->Nat
 | none=>d
 | some v=>if v<0 then(v+(n:Int)).toNat else min v.toNat n
theorem ai2 (n d:Nat)(hd:d<=n)(o:Option Int):sIx n d o<=n:=by
 cases o with
 | none=>exact hd
 | some v=>
   show(if v<0 then(v+(n:Int)).toNat else min v.toNat n)<=n
   by_cases hv:v<0
   . rw[if_pos hv];omega
   rw[if_neg hv];exact Nat.min_le_right _ _
theorem Ub (v:Int)(n d:Nat):(if v<0 then max (v+(n:Int)) 0 else min v (n:Int))=((sIx n d (some v):Nat):Int):=by
 show(if v<0 then max (v+(n:Int)) 0 else min v (n:Int))=(((if v<0 then(v+(n:Int)).toNat else min v.toNat n):Nat):Int)
 by_cases hv:v<0
 . simp only[if_pos hv];omega
 simp only[if_neg hv];omega
theorem Qp (lo hi:Option Int)(n:Nat):Builtin.Slice.sliceAdjust lo hi 1 (n:Int)=(((sIx n 0 lo:Nat):Int),((sIx n n hi:Nat):Int)):=by
 have h1:¬ ((1:Int)<0):=by omega
 unfold Builtin.Slice.sliceAdjust
 simp only[h1,if_false]
 refine Prod.ext ?_ ?_
 . cases lo with
   | none=>rfl
   | some v=>exact Ub v n 0
 cases hi with
 | none=>rfl
 | some v=>exact Ub v n n
theorem Qt (i j:Nat):Builtin.Slice.slicePlaces (i:Int) (j:Int) 1=j-i:=by
 unfold Builtin.Slice.slicePlaces
 have h1:(1:Int)>0:=by omega
 simp only[h1,if_true,Int.ediv_one]
 split<;>omega
theorem Kc {v:Value}{o:Option Int}{Q:Option Int->Shared->Prop}(p:IsPart v o)(h:Q o s):wpAny (model prog w) A (Builtin.Slice.slicePartIndex v) Q E s:=by
 cases p with
 | none=>exact slicePart_none h
 | int i t=>exact slicePart_int h
theorem sliceApplied_gen {sl:Addr}{vl vu:Value}{lo hi:Option Int}{n:Nat}{Q:Int×Int×Nat->Shared->Prop}(hs:s.heap.IsSliceOf sl vl vu .none)(pl:IsPart vl lo)(pu:IsPart vu hi)
  (h:Q (((sIx n 0 lo:Nat):Int),1,sIx n n hi-sIx n 0 lo) s):wpAny (model prog w) A (Builtin.Slice.sliceApplied (.ref sl) (pure (n:Int))) Q E s:=by
 obtain⟨os,hos,hcs,hds⟩:=id hs
 unfold Builtin.Slice.sliceApplied Builtin.Slice.sliceFields
 refine wpAny_bind (wpAny_bind (wpAny_field hos hds (x:=vl) rfl (wpAny_bind (wpAny_field hos hds (x:=vu) rfl (wpAny_bind (wpAny_field hos hds (x:=.none) rfl (wpAny_pure ?_)))))))
 refine wpAny_bind (slicePart_none ?_)
 show wpAny _ _ (if((1:Int)==0)=true then _ else _) _ _ s
 rw[if_neg (by decide)]
 refine wpAny_bind (Kc pl (wpAny_bind (Kc pu (wpAny_bind (wpAny_pure ?_)))))
 show wpAny _ _ (match Builtin.Slice.sliceAdjust lo hi 1 (n:Int) with | (lo,hi)=>pure (lo,(1:Int),Builtin.Slice.slicePlaces lo hi 1)) _ _ s
 rw[Qp lo hi n]
 show wpAny _ _ (pure (((sIx n 0 lo:Nat):Int),(1:Int),Builtin.Slice.slicePlaces ((sIx n 0 lo:Nat):Int) ((sIx n n hi:Nat):Int) 1)) _ _ s
 rw[Qt]
 exact wpAny_pure h
theorem Wn (xs:Array Value)(i k:Nat):((List.range k).filterMap fun(m:Nat)=>xs[((i:Int)+(m:Int)*1).toNat]?).toArray=((xs.toList.drop i).take k).toArray:=by
 have e:(fun(m:Nat)=>xs[((i:Int)+(m:Int)*1).toNat]?)=fun m=>xs[i+m]?:=by
  funext m
  have:((i:Int)+(m:Int)*1).toNat=i+m:=by omega
  rw[this]
 rw[e]
 have:=pick_run xs i k
 rw[List.filterMap_map] at this
 have e2:((fun x=>xs[x]?)∘fun x=>i+x)=fun m=>xs[i+m]?:=rfl
 rw[e2] at this
 rw[this]
theorem getItem_tuple_cut {t sl:Addr}{items:Array Value}{vl vu:Value}{lo hi:Option Int}{Q:Value->Shared->Prop}(ht:IsTup s.heap t items)(hs:s.heap.IsSliceOf sl vl vu .none)(pl:IsPart vl lo)(pu:IsPart vu hi)
  (hw:¬ (sIx items.size 0 lo=0/\sIx items.size items.size hi=items.size))
  (h:Q (.ref s.heap.objs.size) { s with heap:=s.heap.push { cls:=.type "tuple",data:=.seq ((items.toList.drop (sIx items.size 0 lo)).take (sIx items.size items.size hi-sIx items.size 0 lo)).toArray } })
  (hsz:items.size<=sizeLine):wpAny (model prog w) A (getItem (.ref t) (.ref sl)) Q E s:=by
 have htake:sizeOk (.seq ((items.toList.drop (sIx items.size 0 lo)).take (sIx items.size items.size hi-sIx items.size 0 lo)).toArray):=by
  show((items.toList.drop (sIx items.size 0 lo)).take (sIx items.size items.size hi-sIx items.size 0 lo)).toArray.size<=sizeLine
  rw[List.size_toArray,List.length_take,List.length_drop,Array.length_toList]
  omega
 have hj:sIx items.size items.size hi<=items.size:=ai2 _ _ (Nat.le_refl _) hi
 obtain⟨os,hos,hcs,hds⟩:=id hs
 have hTs:s.TypeIs (.ref sl) "slice":=⟨os,hos,hcs⟩
 unfold getItem
 try with_reducible refine wpAny_holding ?_
 first | refine wpAny_bind (wpAny_pure ?_) | skip
 refine wpAny_bind (wpAny_sequenceKey ht.typeIs (by decide) ?_)
 refine wpAny_bind (wpAny_callSpecial?_slot (name:=Str.ofString "__getitem__") ht.typeIs PyProof.Rows.slot_tuple_getitem
  (wpAny_call_entry PyProof.Rows.slot_tuple_getitem ht.typeIs entry_tuple_getitem ?_ (args_tuple_getitem _ _)))
 show wpAny _ _ (Builtin.Tuple.tupleItemsOf (.ref t) >>= _) _ _ s
 refine wpAny_bind (tupleItemsOf_ ht ?_)
 refine wpAny_bind (wpAny_typeOf hTs ?_)
 rw[if_pos (by decide)]
 refine wpAny_bind (sliceApplied_gen hs pl pu ?_)
 have hno:¬ ((((sIx items.size 0 lo:Nat):Int)==0&&(1:Int)==1&&(sIx items.size items.size hi-sIx items.size 0 lo)==items.size)=true):=by
  intro q
  rw[Bool.and_eq_true,Bool.and_eq_true] at q
  have q1:((sIx items.size 0 lo:Nat):Int)=0:=eq_of_beq q.1.1
  have q2:sIx items.size items.size hi-sIx items.size 0 lo=items.size:=eq_of_beq q.2
  exact hw ⟨by omega,by omega⟩
 show wpAny _ _ (if(((sIx items.size 0 lo:Nat):Int)==0&&(1:Int)==1&&(sIx items.size items.size hi-sIx items.size 0 lo)==items.size)=true then _ else _) _ _ s
 rw[if_neg hno,Wn]
 first
  | exact wpAny_bind (m:=Builtin.Tuple.tupleExact _) (wpAny_newObj_type (wpAny_pure ⟨_,rfl,wpAny_pure h⟩) htake)
  | exact wpAny_bind (m:=Builtin.Tuple.tupleExact _) (wpAny_newObj_type (wpAny_bind (wpAny_pure (wpAny_pure ⟨_,rfl,wpAny_pure h⟩))) htake)
  | exact wpAny_bind (wpAny_bind (m:=Builtin.Tuple.tupleExact _) (wpAny_newObj_type (wpAny_pure (wpAny_pure ⟨_,rfl,wpAny_pure h⟩)) htake))
  | exact wpAny_bind (wpAny_bind (m:=Builtin.Tuple.tupleExact _) (wpAny_newObj_type (wpAny_pure ⟨_,rfl,wpAny_pure h⟩) htake))
end
end HT
namespace L2
open PySem PySem.Spec PyProof.Rows
abbrev TO:=St->Hp->(Option Int->Hp->Prop)->Prop
def PO (X:Cx)(e:Option Expr)(t:TO):Prop:=
 ∀(pins:List (Addr×Obj)) (s:Shared) (σ:St) (H:Hp) (Q:Option Int->Hp->Prop),Inv X pins σ H s->t σ H Q ->
  wpAny (model X.prog X.w) X.A (evalPart e X.env) (fun u s'=>∃ o H',Inv X pins σ H' s'/\IsPart u o/\Q o H') X.xe s
def Uv:TO:=fun _ H Q=>Q none H
def ae4 (t:TE):TO:=fun σ H Q=>t σ H fun x H1=>∃ i,x = .int i/\Q (some i) H1
section
variable {X:Cx}{e:Expr}{te:TE}{lo hi:Option Expr}{tl th:TO}{pos p2:Pos}
theorem Cg:PO X none Uv:=by
 intro pins s σ H Q I h
 rw[evalPart_none]
 exact wpAny_pure ⟨none,H,I,.none,h⟩
theorem Ay (h:PE X e te):PO X (some e) (ae4 te):=by
 intro pins s σ H Q I hw
 rw[evalPart_some]
 refine thn (h pins s σ H _ I hw) fun u s1 ⟨x,H1,I1,r1,q1⟩=>?_
 obtain⟨i,rfl,q⟩:=q1
 obtain⟨t,rfl⟩:=r1
 exact⟨some i,H1,I1,.int i t,q⟩
def SlR (X:Cx)(r:V->Option Int->Option Int->Hp->VK->Prop):Prop:=
 ∀(pins:List (Addr×Obj)) (s:Shared) (σ:St) (H:Hp) (x:V) (v vl vu:Value) (lo hi:Option Int) (sl:Addr) (Q:VK),Inv X pins σ H s->RelV x v->s.heap.IsSliceOf sl vl vu .none->IsPart vl lo->IsPart vu hi->r x lo hi H Q ->
  ∃ T id,typeLookup (.type T) "__getitem__" = pure (some (.builtin id))/\s.TypeIs v T/\wpAny (model X.prog X.w) X.A (getItem v (.ref sl)) (EP X pins σ Q) X.xe s
theorem SlR.or {r r':V->Option Int->Option Int->Hp->VK->Prop}(h:SlR X r)(h':SlR X r'):SlR X (fun x lo hi H Q=>r x lo hi H Q\/r' x lo hi H Q):=by
 intro pins s σ H x v vl vu lo hi sl Q I rx hs pl pu q
 rcases q with q | q
 . exact h pins s σ H x v vl vu lo hi sl Q I rx hs pl pu q
 exact h' pins s σ H x v vl vu lo hi sl Q I rx hs pl pu q
def tSl (r:V->Option Int->Option Int->Hp->VK->Prop)(te:TE)(tl th:TO):TE:=fun σ H Q=>te σ H fun x H1=>tl σ H1 fun l H2=>th σ H2 fun u H3=>r x l u H3 Q
theorem B1 {r:V->Option Int->Option Int->Hp->VK->Prop}(hr:SlR X r)(he:PE X e te)(hl:PO X lo tl)(hu:PO X hi th):PE X (.Subscript e (.Slice lo hi none p2) pos) (tSl r te tl th):=by
 intro pins s σ H Q I h
 refine Subscript_ (thn (he pins s σ H _ I h) fun v s1 ⟨x,H1,I1,r1,q1⟩=>?_)
 refine wpAny_Slice (thn (hl pins s1 σ H1 _ I1 q1) fun vl s2 ⟨l,H2,I2,pl,q2⟩=>thn (hu pins s2 σ H2 _ I2 q2) fun vu s3 ⟨u,H3,I3,pu,q3⟩=>?_)
 rw[evalPart_none]
 refine wpAny_pure ?_
 have I4:Inv X pins σ H3 { s3 with heap:=s3.heap.push { cls:=.type "slice",data:=.fields #[vl,vu,.none] } }:=I3.kept (t':=s3.toks) fun b ob q=>Heap.get?_push_of_some _ q
 obtain⟨T,id,hT,ht,hg⟩:=hr pins { s3 with heap:=s3.heap.push { cls:=.type "slice",data:=.fields #[vl,vu,.none] } } σ H3 x v vl vu l u s3.heap.objs.size Q I4 r1 (Heap.IsSliceOf.new ..) pl pu q3
 show wpAny (model X.prog X.w) X.A (subscriptTail e (.Slice lo hi none p2) v (.ref s3.heap.objs.size)) (EP X pins σ Q) X.xe { s3 with heap:=s3.heap.push { cls:=.type "slice",data:=.fields #[vl,vu,.none] } }
 exact tail_any (ops:=[.ref s3.heap.objs.size,v]) ht hT hg (by ac_nf)
def Kf (xs:List V)(lo hi:Option Int):List V:=(xs.drop (HT.sIx xs.length 0 lo)).take (HT.sIx xs.length xs.length hi-HT.sIx xs.length 0 lo)
theorem Bn (xs:List V)(lo hi:Option Int):(Kf xs lo hi).length<=xs.length:=by
 unfold Kf
 rw[List.length_take,List.length_drop]
 omega
def aq0 (K:PySem.W.Frag):V->Option Int->Option Int->Hp->VK->Prop:=fun x lo hi H Q=>∃ a xs,x = .ref a/\SqT K H a xs /\
 ¬ (HT.sIx xs.length 0 lo=0/\HT.sIx xs.length xs.length hi=xs.length)/\∀ p,H p=none->Q (.ref p) (upd H p (.tup (Kf xs lo hi)))
theorem sl_tup:SlR X (aq0 X.K):=by
 intro pins s σ H x v vl vu lo hi sl Q I rx hs pl pu h
 obtain⟨a,xs,rfl,hx,hw,q⟩:=h
 cases rx
 obtain⟨its,r,ht,hz⟩:=I.tuple hx
 have hlen:its.toArray.size=xs.length:=by rw[List.size_toArray];exact r.length.symm
 refine⟨"tuple",_,PyProof.Rows.slot_tuple_getitem.lookup,ht.typeIs,?_⟩
 refine HT.getItem_tuple_cut ht hs pl pu (by rw[hlen];exact hw) ?_ (by rw[hlen];exact hz)
 rw[hlen]
 refine⟨.ref s.heap.objs.size,_,I.laid (t':=s.toks) (o:=.tup (Kf xs lo hi)) (fun b ob q=>Heap.get?_push_of_some _ q) (Nat.le_refl _) ?_,rfl,q _ (I.hok.fresh (Nat.le_refl _))⟩
 exact⟨Nat.le_trans (Bn xs lo hi) hz,_,(r.drop (HT.sIx xs.length 0 lo)).take (HT.sIx xs.length xs.length hi-HT.sIx xs.length 0 lo),IsTupN.new _ _⟩
def ad6 (K:PySem.W.Frag):R2:=fun x y H Q=>∃ a b xs ys,x = .ref a/\y = .ref b/\SqT K H a xs/\SqT K H b ys/\xs≠[]/\xs.length+ys.length<=sizeLine /\
 (ys=[]->Q (.ref a) H)/\(ys≠[]->∀ p,H p=none->Q (.ref p) (upd H p (.tup (xs++ys))))
theorem Vals.nil_iff {xs:List V}{us:List Value}(r:Vals xs us):us=[]↔xs=[]:=by
 cases r with
 | nil=>simp
 | cons _ _=>simp
theorem op_catT:OpR X (binaryOp .Add) (ad6 X.K):=by
 intro pins s σ H x y v u Q I rx ry h
 obtain⟨a,b,xs,ys,rfl,rfl,ha,hb,hx,hz,q1,q2⟩:=h
 cases rx
 cases ry
 obtain⟨its,r1,p1,_⟩:=I.tuple ha
 obtain⟨its2,r2,p2,_⟩:=I.tuple hb
 refine HT.cat_tup p1 p2 (fun z=>hx (r1.nil_iff.mp z)) (fun z=>⟨.ref a,H,I,rfl,q1 (r2.nil_iff.mp z)⟩) (fun z=>?_) (by rw[<- r1.length,<- r2.length];exact hz)
 refine⟨.ref s.heap.objs.size,_,I.laid (t':=s.toks) (o:=.tup (xs++ys)) (fun b ob q=>Heap.get?_push_of_some _ q) (Nat.le_refl _) ?_,rfl,q2 (fun w=>z (r2.nil_iff.mpr w)) _ (I.hok.fresh (Nat.le_refl _))⟩
 exact⟨by rw[List.length_append];exact hz,_,r1.append r2,IsTupN.new _ _⟩
end
def ixN (n:Nat)(i:Int):Option Nat:=if 0<=i then(if i<n then some i.toNat else none) else if -(n:Int)<=i then some (i+n).toNat else none
def atI {α:Type}(xs:List α)(i:Int):Option α:=(ixN xs.length i).bind fun j=>xs[j]?
theorem S7 {n:Nat}{i:Int}{j:Nat}(h:ixN n i=some j):seqIndex? i n=some j/\j<n /\ -(n:Int)<=i/\i<n:=by
 unfold ixN at h
 by_cases h0:0<=i
 . rw[if_pos h0] at h
   by_cases h1:i<n
   . rw[if_pos h1] at h
     have e:i.toNat=j:=Option.some.inj h
     exact⟨by rw[seqIndex_of h0 h1,e],by omega,by omega,h1⟩
   rw[if_neg h1] at h;cases h
 rw[if_neg h0] at h
 by_cases h1:-(n:Int)<=i
 . rw[if_pos h1] at h
   have e:(i+n).toNat=j:=Option.some.inj h
   exact⟨by rw[seqIndex_neg (by omega) h1,e],by omega,h1,by omega⟩
 rw[if_neg h1] at h;cases h
theorem Kz {α:Type} {xs:List α} {i:Int} {v:α} (h:atI xs i=some v):∃ j,seqIndex? i xs.length=some j/\xs[j]? = some v/\j<xs.length /\ -(xs.length:Int)<=i/\i<xs.length:=by
 unfold atI at h
 cases e:ixN xs.length i with
 | none=>rw[e] at h;cases h
 | some j=>
   rw[e] at h
   obtain⟨h1,h2,h3,h4⟩:=S7 e
   exact⟨j,h1,h,h2,h3,h4⟩
theorem E4 {α:Type}{xs:List α}{j:Nat}{v:α}(h:xs[j]? = some v):atI xs (j:Int)=some v:=by
 have hj:j<xs.length:=(List.getElem?_eq_some_iff.mp h).1
 have e:ixN xs.length (j:Int)=some j:=by
  unfold ixN
  rw[if_pos (by omega),if_pos (by omega)];simp
 unfold atI;rw[e];exact h
def Zl (b:Expr):Prop:=∀ o i,subscripted b false o i=operate [o,i] (getItem o i)
def IxR (X:Cx)(r:R2):Prop:=
 ∀(value slice:Expr) (pins:List (Addr×Obj)) (s:Shared) (σ:St) (H:Hp) (x y:V) (v u:Value) (Q:VK),Inv X pins σ H s->RelV x v->RelV y u->r x y H Q ->
  subscripted slice false v u=operate [v,u] (getItem v u)->wpAny (model X.prog X.w) X.A (subscriptTail value slice v u) (EP X pins σ Q) X.xe s
def MtR (X:Cx)(id:String)(r:V->List V->Hp->VK->Prop):Prop:=
 ∀(pins:List (Addr×Obj)) (s:Shared) (σ:St) (H:Hp) (x:V) (xs:List V) (v:Value) (us:List Value) (Q:VK),Inv X pins σ H s->RelV x v->Vals xs us->r x xs H Q ->
  wpAny (model X.prog X.w) X.A (call (.builtin id) (v :: us)) (EP X pins σ Q) X.xe s
section
variable {X:Cx}{a b:Expr}{ta tb:TE}{pos:Pos}
theorem IxR.or {r r':R2}(h:IxR X r)(h':IxR X r'):IxR X (fun x y H Q=>r x y H Q\/r' x y H Q):=by
 intro value slice pins s σ H x y v u Q I rx ry q hs
 rcases q with q | q
 . exact h value slice pins s σ H x y v u Q I rx ry q hs
 exact h' value slice pins s σ H x y v u Q I rx ry q hs
theorem Am {r:R2}(hr:IxR X r)(ha:PE X a ta)(hb:PE X b tb)(hs:Zl b):PE X (.Subscript a b pos) (tOp r ta tb):=by
 intro pins s σ H Q I h
 exact Subscript_ (am3 ha hb I h fun v u s2 x y H2 I2 rx ry q=>hr a b pins s2 σ H2 x y v u Q I2 rx ry q (hs _ _))
def ao8 (K:PySem.W.Frag):R2:=fun x y H Q=>∃ p xs i v,x = .ref p/\y = .int i/\SqL K H p xs/\atI xs i=some v/\Q v H
def aq7 (K:PySem.W.Frag):R2:=fun x y H Q=>∃ p xs i v,x = .ref p/\y = .int i/\SqT K H p xs/\atI xs i=some v/\Q v H
def ap3:R2:=fun x y H Q=>∃ z i c,x = .str z/\y = .int i/\z.length<=sizeLine/\atI z.cps.toList i=some c/\Q (.str ⟨#[c]⟩) H
theorem ix_list:IxR X (ao8 X.K):=by
 intro value slice pins s σ H x y v u Q I rx ry h hs
 obtain⟨p,xs,i,z,rfl,rfl,hq,he,q⟩:=h
 cases rx
 obtain⟨t,rfl⟩:=ry
 obtain⟨its,r,pl,hz⟩:=I.list hq
 obtain⟨j,h1,h2,h3,h4,h5⟩:=Kz he
 obtain⟨w,ew,rw'⟩:=r.get h2
 have hl:=r.length
 have hn:=Ko
 have fin:EP X pins σ Q w s:=⟨z,H,I,rw',q⟩
 by_cases h0:0<=i
 . have hj:i.toNat=j:=by
    rw[seqIndex_of h0 h5] at h1
    exact Option.some.inj h1
   exact item_listR pl.isList h0 (by omega) (by rw[hj];simpa using ew) fin hs
 have hj:(i+(its.toArray.size:Int)).toNat=j:=by
  rw[seqIndex_neg (by omega) h4] at h1
  rw[List.size_toArray,<- hl]
  exact Option.some.inj h1
 exact subscriptTail_builtinR (x:=w) pl.isList.typeIs slot_list_getitem.lookup
  (wpAny_getItem_list_neg (Q:=fun r s'=>r=w/\EP X pins σ Q r s') pl.isList (by omega) (by rw[List.size_toArray]<;>omega) (by omega) (by rw[hj];simpa using ew) ⟨rfl,fin⟩) hs
theorem ix_tup:IxR X (aq7 X.K):=by
 intro value slice pins s σ H x y v u Q I rx ry h hs
 obtain⟨p,xs,i,z,rfl,rfl,hq,he,q⟩:=h
 cases rx
 obtain⟨t,rfl⟩:=ry
 obtain⟨its,r,pl,hz⟩:=I.tuple hq
 obtain⟨j,h1,h2,h3,h4,h5⟩:=Kz he
 obtain⟨w,ew,rw'⟩:=r.get h2
 have hl:=r.length
 have hn:=Ko
 have fin:EP X pins σ Q w s:=⟨z,H,I,rw',q⟩
 exact subscriptTail_builtinR (x:=w) pl.typeIs slot_tuple_getitem.lookup
  (getItem_tuple (j:=j) (Q:=fun r s'=>r=w/\EP X pins σ Q r s') pl (by omega) (by omega) (by rw[List.size_toArray,<- hl];exact h1) (by simpa using ew) ⟨rfl,fin⟩) hs
theorem a83:IxR X ap3:=by
 intro value slice pins s σ H x y v u Q I rx ry h hs
 obtain⟨z,i,c,rfl,rfl,hz,he,q⟩:=h
 obtain⟨t,rfl⟩:=rx
 obtain⟨t',rfl⟩:=ry
 obtain⟨j,h1,h2,h3,h4,h5⟩:=Kz he
 have hl:z.cps.toList.length=z.length:=by simp[Str.length]
 rw[hl] at h1 h4 h5
 have hn:=Ko
 exact tail_any (typeIs_str s z t) slot_str_getitem.lookup (getItem_str (c:=c) (by
  have e1:decide (i < -(2 ^ 63:Int))=false:=decide_eq_false (by omega)
  have e2:decide (i>=2 ^ 63)=false:=decide_eq_false (by omega)
  rw[e1,e2,Bool.or_false]) (by rw[h1];simpa using h2) ⟨.str ⟨#[c]⟩,H,I.tok _,⟨_,rfl⟩,q⟩) hs
def rIx (K:PySem.W.Frag):R2:=fun x y H Q=>ao8 K x y H Q\/aq7 K x y H Q\/ap3 x y H Q
theorem ix_seq:IxR X (rIx X.K):=ix_list.or (ix_tup.or a83)
theorem Ra (its:List Value)(n j:Nat)(u:Value):Obj.mapSeq (·.setIfInBounds j u) { cls:=.type "list",data:=.seq its.toArray n }={ cls:=.type "list",data:=.seq (its.set j u).toArray n }:=by
 simp[Obj.mapSeq]
theorem Inv.lst {pins:List (Addr×Obj)}{σ:St}{H:Hp}{s:Shared}{p:Addr}{xs:List V}(I:Inv X pins σ H s)(h:H p=some (.lst xs)) :
  ∃(its:List Value) (n:Nat),Vals xs its/\s.heap.get? p=some { cls:=.type "list",data:=.seq its.toArray n }/\xs.length<=sizeLine:=by
 obtain⟨z,its,n,r,e⟩:=I.hok p _ h
 exact⟨its,n,r,e,z⟩
theorem Inv.lstUpd {pins:List (Addr×Obj)}{σ:St}{H:Hp}{s:Shared}{p:Addr}{xs ys:List V}{its its':List Value}{n n':Nat}{f:Obj->Obj}(I:Inv X pins σ H s)(h:H p=some (.lst xs))
  (ho:s.heap.get? p=some { cls:=.type "list",data:=.seq its.toArray n }) (hf:f { cls:=.type "list",data:=.seq its.toArray n }={ cls:=.type "list",data:=.seq its'.toArray n' }) (r:Vals ys its') (hz:ys.length<=sizeLine) (t:Nat) :
  Inv X pins σ (upd H p (.lst ys)) { s with heap:=s.heap.update p f,toks:=t }:=by
 have e:(s.heap.update p f).get? p=some { cls:=.type "list",data:=.seq its'.toArray n' }:=by
  rw[Heap.get?_update_self f ho (by rw[hf]<;>rfl),hf]
 refine I.write (x:=p) (e:=p) (by rw[h];trivial) (.inl rfl) (fun b u hb q=>(Heap.get?_update_other _ _ (Ne.symm hb)).trans q) ⟨_,e⟩ ?_
 exact⟨hz,its',n',r,e⟩
def ab3:V->V->V->Hp->(Hp->Prop)->Prop:=fun o i v H Q=>∃ p xs k j,o = .ref p/\i = .int k/\H p=some (.lst xs)/\ixN xs.length k=some j/\Q (upd H p (.lst (xs.set j v)))
theorem Py:aq6 X ab3:=by
 intro pins s σ H o i v ov iv u Q I ro ri rv h
 obtain⟨p,xs,k,j,rfl,rfl,hp,hj,q⟩:=h
 cases ro
 obtain⟨t,rfl⟩:=ri
 obtain⟨its,n,r,ho,hz⟩:=I.lst hp
 obtain⟨h1,h2,h3,h4⟩:=S7 hj
 have hl:=r.length
 have hn:=Ko
 have I':Inv X pins σ (upd H p (.lst (xs.set j v))) { s with heap:=s.heap.update p (Obj.mapSeq (·.setIfInBounds j u)) }:=
  I.lstUpd hp ho (Ra its n j u) (r.set rv j) (by rw[List.length_set];exact hz) s.toks
 by_cases h0:0<=k
 . have hk:k.toNat=j:=by
    rw[seqIndex_of h0 h4] at h1
    exact Option.some.inj h1
   exact PySem.W.ki_setAt ho h0 (by omega) (by rw[List.size_toArray,<- hl];exact h4) (by rw[hk];exact⟨_,I',q⟩)
 have hk:(k+(its.toArray.size:Int)).toNat=j:=by
  rw[seqIndex_neg (by omega) h3] at h1
  rw[List.size_toArray,<- hl]
  exact Option.some.inj h1
 exact PySem.W.ki_setBack ho (by omega) (by rw[List.size_toArray,<- hl];exact h3) (by omega) (by rw[hk];exact⟨_,I',q⟩)
theorem Mn (lo hi:Option Int) (n:Nat):(sliceBounds lo hi none n).1=((HT.sIx n 0 lo:Nat):Int)/\(sliceBounds lo hi none n).2.1=((HT.sIx n n hi:Nat):Int)/\(sliceBounds lo hi none n).2.2=1:=by
 refine⟨?_,?_,rfl⟩
 . cases lo with
   | none=>simp[sliceBounds,HT.sIx]
   | some i=>
     simp only[sliceBounds,HT.sIx,Option.getD_none,show(1:Int)>0 by decide,if_true]
     by_cases h:i<0
     . simp only[h,if_true]<;>omega
     simp only[h,if_false]<;>omega
 cases hi with
 | none=>simp[sliceBounds,HT.sIx]
 | some i=>
   simp only[sliceBounds,HT.sIx,Option.getD_none,show(1:Int)>0 by decide,if_true]
   by_cases h:i<0
   . simp only[h,if_true]<;>omega
   simp only[h,if_false]<;>omega
theorem G4 (its:List Value)(lo hi:Option Int):slicePick its.toArray lo hi none=((its.drop (HT.sIx its.length 0 lo)).take (HT.sIx its.length its.length hi-HT.sIx its.length 0 lo)).toArray:=by
 obtain⟨h1,h2,h3⟩:=Mn lo hi its.toArray.size
 unfold slicePick
 rw[h1,h2,h3]
 simp only[sliceRange_one,pick_run,List.size_toArray]<;>rfl
def ar4 (K:PySem.W.Frag):V->Option Int->Option Int->Hp->VK->Prop:=fun x lo hi H Q=>∃ a xs,x = .ref a/\SqL K H a xs/\∀ p,H p=none->Q (.ref p) (upd H p (.lst (Kf xs lo hi)))
theorem sl_list:SlR X (ar4 X.K):=by
 intro pins s σ H x v vl vu lo hi sl Q I rx hs pl pu h
 obtain⟨a,xs,rfl,hx,q⟩:=h
 cases rx
 obtain⟨its,r,ht,hz⟩:=I.list hx
 have hlen:=r.length
 refine⟨"list",_,slot_list_getitem.lookup,ht.isList.typeIs,?_⟩
 refine wpAny_getItem_list_slice ht.isList hs pl pu .none (by simp) ?_ (by rw[List.size_toArray]<;>omega)
 rw[G4,<- hlen]
 refine⟨.ref s.heap.objs.size,_,I.laid (t':=s.toks) (o:=.lst (Kf xs lo hi)) (fun b ob q=>Heap.get?_push_of_some _ q) (Nat.le_refl _) ?_,rfl,q _ (I.hok.fresh (Nat.le_refl _))⟩
 exact⟨Nat.le_trans (Bn xs lo hi) hz,_,0,(r.drop (HT.sIx xs.length 0 lo)).take (HT.sIx xs.length xs.length hi-HT.sIx xs.length 0 lo),Heap.get?_push_size _ rfl⟩
def L9:V->Bool
 | .non=>true
 | .bl _=>true
 | .int _=>true
 | .str _=>true
 | _=>false
def eqV:V->V->Bool
 | .non,.non=>true
 | .bl a,.bl b=>a==b
 | .bl a,.int b=>(if a then 1 else 0)==b
 | .int a,.bl b=>a==(if b then 1 else 0)
 | .int a,.int b=>a==b
 | .str a,.str b=>a==b
 | _,_=>false
theorem ag9 {A:Around}{s:Shared}{y x:V}{u v:Value}(ry:RelV y u)(rx:RelV x v)(fy:L9 y=true)(fx:L9 x=true):SeqAt.EqAt A s u v (eqV y x):=by
 cases y with
 | non=>
   cases ry
   cases x with
   | non=>cases rx;exact SeqAt.EqAt.same _
   | bl b=>cases rx;exact SeqAt.EqAt.none_bool b
   | int b=>obtain⟨t,rfl⟩:=rx;exact SeqAt.EqAt.none_int b t
   | str b=>obtain⟨t,rfl⟩:=rx;exact SeqAt.EqAt.none_str b t
   | _=>exact absurd (show false=true from fx) Bool.false_ne_true
 | bl a=>
   cases ry
   cases x with
   | non=>cases rx;exact SeqAt.EqAt.bool_none a
   | bl b=>cases rx;exact SeqAt.EqAt.bool_bool a b
   | int b=>obtain⟨t,rfl⟩:=rx;exact SeqAt.EqAt.bool_int a b t
   | str b=>obtain⟨t,rfl⟩:=rx;exact SeqAt.EqAt.bool_str a b t
   | _=>exact absurd (show false=true from fx) Bool.false_ne_true
 | int a=>
   obtain⟨t',rfl⟩:=ry
   cases x with
   | non=>cases rx;exact SeqAt.EqAt.int_none a t'
   | bl b=>cases rx;exact SeqAt.EqAt.int_bool a t' b
   | int b=>obtain⟨t,rfl⟩:=rx;exact SeqAt.EqAt.int_int a t' b t
   | str b=>obtain⟨t,rfl⟩:=rx;exact SeqAt.EqAt.int_str a t' b t
   | _=>exact absurd (show false=true from fx) Bool.false_ne_true
 | str a=>
   obtain⟨t',rfl⟩:=ry
   cases x with
   | non=>cases rx;exact SeqAt.EqAt.str_none a t'
   | bl b=>cases rx;exact SeqAt.EqAt.str_bool a t' b
   | int b=>obtain⟨t,rfl⟩:=rx;exact SeqAt.EqAt.str_int a t' b t
   | str b=>obtain⟨t,rfl⟩:=rx;exact SeqAt.EqAt.str_str a t' b t
   | _=>exact absurd (show false=true from fx) Bool.false_ne_true
 | _=>exact absurd (show false=true from fy) Bool.false_ne_true
def eqU (x:V)(u:Value):Bool:=match u with
 | .none=>eqV .non x
 | .bool b=>eqV (.bl b) x
 | .int i _=>eqV (.int i) x
 | .str z _=>eqV (.str z) x
 | _=>false
theorem X8 {x y:V}{u:Value}(r:RelV y u)(f:L9 y=true):eqU x u=eqV y x:=by
 cases y with
 | non=>cases r;rfl
 | bl b=>cases r;rfl
 | int i=>obtain⟨t,rfl⟩:=r;rfl
 | str z=>obtain⟨t,rfl⟩:=r;rfl
 | _=>exact absurd (show false=true from f) Bool.false_ne_true
theorem Jd {x:V}:∀ {xs:List V} {us:List Value},Vals xs us->xs.all L9=true->us.any (eqU x)=xs.any fun y=>eqV y x
 | _,_,.nil,_=>rfl
 | y :: xs,u :: us,.cons r t,f=>by
   rw[List.all_cons,Bool.and_eq_true] at f
   rw[List.any_cons,List.any_cons,X8 r f.1,Jd t f.2]
theorem Ei {A:Around}{s:Shared}{x:V}{v:Value}(rx:RelV x v)(fx:L9 x=true):∀ {xs:List V} {us:List Value},Vals xs us->xs.all L9=true->∀ u∈us,SeqAt.EqAt A s u v (eqU x u)
 | _,_,.nil,_=>fun u hu=>by cases hu
 | y :: xs,u :: us,.cons r t,f=>fun u' hu=>by
   rw[List.all_cons,Bool.and_eq_true] at f
   rcases List.mem_cons.mp hu with rfl | hu
   . rw[X8 r f.1];exact ag9 r rx f.1 fx
   exact Ei rx fx t f.2 u' hu
def inV (x:V)(xs:List V):Bool:=xs.any fun y=>eqV y x
def rIn (K:PySem.W.Frag)(neg:Bool):R2:=fun x y H Q=>∃ p xs,y = .ref p/\(SqL K H p xs\/SqT K H p xs)/\L9 x=true/\xs.all L9=true/\Q (.bl (if neg then !inV x xs else inV x xs)) H
theorem op_in_seq:OpR X (compareOp .In) (rIn X.K false):=by
 intro pins s σ H x y v u Q I rx ry h
 obtain⟨p,xs,rfl,hq,fx,fs,q⟩:=h
 cases ry
 rcases hq with hq | hq
 . obtain⟨its,r,pl,hz⟩:=I.list hq
   refine SeqAt.in_listAt (eqU x) pl.isList (fun w hw=>Ei rx fx r fs w (by simpa using hw)) ⟨.bl _,H,I,rfl,?_⟩
   rw[show its.toArray.any (eqU x)=its.any (eqU x) by simp,Jd r fs]
   exact q
 obtain⟨its,r,pl,hz⟩:=I.tuple hq
 refine SeqAt.in_tupleAt (eqU x) pl (fun w hw=>Ei rx fx r fs w (by simpa using hw)) ⟨.bl _,H,I,rfl,?_⟩
 rw[show its.toArray.any (eqU x)=its.any (eqU x) by simp,Jd r fs]
 exact q
theorem op_notIn_seq:OpR X (compareOp .NotIn) (rIn X.K true):=by
 intro pins s σ H x y v u Q I rx ry h
 obtain⟨p,xs,rfl,hq,fx,fs,q⟩:=h
 cases ry
 rcases hq with hq | hq
 . obtain⟨its,r,pl,hz⟩:=I.list hq
   refine SeqAt.notIn_listAt (eqU x) pl.isList (fun w hw=>Ei rx fx r fs w (by simpa using hw)) ⟨.bl _,H,I,rfl,?_⟩
   rw[show its.toArray.any (eqU x)=its.any (eqU x) by simp,Jd r fs]
   exact q
 obtain⟨its,r,pl,hz⟩:=I.tuple hq
 refine SeqAt.notIn_tupleAt (eqU x) pl (fun w hw=>Ei rx fx r fs w (by simpa using hw)) ⟨.bl _,H,I,rfl,?_⟩
 rw[show its.toArray.any (eqU x)=its.any (eqU x) by simp,Jd r fs]
 exact q
theorem op_notIn_str:OpR X (compareOp .NotIn) (fun x y H Q=>∃ i j,x = .str i/\y = .str j/\Q (.bl (!(!(Builtin.Str.occurrences j i 0 j.length 1).isEmpty))) H):=by
 intro pins s σ H x y v u Q I rx ry h
 obtain⟨i,j,rfl,rfl,q⟩:=h
 obtain⟨t,rfl⟩:=rx
 obtain⟨t',rfl⟩:=ry
 exact notIn_str ⟨.bl _,H,I,rfl,q⟩
theorem CallR.or {f:Value}{r r':List V->Hp->VK->Prop}(h:CallR X f r)(h':CallR X f r'):CallR X f (fun xs H Q=>r xs H Q\/r' xs H Q):=by
 intro pins s σ H xs us Q I rs q
 rcases q with q | q
 . exact h pins s σ H xs us Q I rs q
 exact h' pins s σ H xs us Q I rs q
theorem Nw:CallR X (.type "list") (fun xs H Q=>∃ p ys,xs=[.ref p]/\(SqL X.K H p ys\/SqT X.K H p ys)/\∀ l,H l=none->Q (.ref l) (upd H l (.lst ys))):=by
 intro pins s σ H xs us Q I r h
 obtain⟨p,ys,rfl,hq,q⟩:=h
 obtain⟨u,rfl,rx⟩:=G5 r
 cases rx
 have fin:∀(its:List Value),Vals ys its->ys.length<=sizeLine->∀(h':Heap) (c':Nat),(∀ b o',s.heap.get? b=some o'->h'.get? b=some o') ->
   h'.get? s.heap.objs.size=some { cls:=.type "list",dict:=none,data:=.seq its.toArray c',slots:=#[] }->EP X pins σ Q (.ref s.heap.objs.size) { s with heap:=h' }:=fun its r' hz h' c' kp e=>
  ⟨.ref s.heap.objs.size,_,I.laid (t':=s.toks) kp (Nat.le_refl _) (show ObjOk X.prog X.w _ h' _ (.lst ys) from⟨hz,its,c',r',e⟩),rfl,q _ (I.hok.fresh (Nat.le_refl _))⟩
 rcases hq with hq | hq
 . obtain⟨its,r',pl,hz⟩:=I.list hq
   have hlen:=r'.length
   obtain⟨o,ho,hc,n,hd⟩:=pl.isList
   exact call_list_seq p (.inl rfl) ho hc hd (fun h' c' kp e=>fin its r' hz h' c' kp e) (by simp only[List.size_toArray]<;>omega)
 obtain⟨its,r',pl,hz⟩:=I.tuple hq
 have hlen:=r'.length
 obtain⟨o,ho,hc,n,hd⟩:=pl
 exact call_list_seq p (.inr rfl) ho hc hd (fun h' c' kp e=>fin its r' hz h' c' kp e) (by simp only[List.size_toArray]<;>omega)
theorem Lw:CallR X (.type "tuple") (fun xs H Q=>∃ p ys,xs=[.ref p]/\((SqL X.K H p ys/\∀ l,H l=none->Q (.ref l) (upd H l (.tup ys)))\/(SqT X.K H p ys/\Q (.ref p) H))):=by
 intro pins s σ H xs us Q I r h
 obtain⟨p,ys,rfl,h⟩:=h
 obtain⟨u,rfl,rx⟩:=G5 r
 cases rx
 rcases h with ⟨hq,q⟩ | ⟨hq,q⟩
 . obtain⟨its,r',pl,hz⟩:=I.list hq
   have hlen:=r'.length
   refine call_tuple_list pl.isList (fun h' kp=>?_) (by simp only[List.size_toArray]<;>omega)
   have I1:Inv X pins σ H { s with heap:=h' }:=I.kept (t':=s.toks) kp
   have I2:Inv X pins σ (upd H h'.objs.size (.tup ys)) { s with heap:=h'.push { cls:=.type "tuple",data:=.seq its.toArray } }:=
    I1.laid (t':=s.toks) (fun b o e=>Heap.get?_push_of_some _ e) (Nat.le_refl _) (show ObjOk X.prog X.w _ _ _ (.tup ys) from⟨hz,its,r',IsTupN.new _ _⟩)
   exact⟨.ref h'.objs.size,_,I2,rfl,q _ (I1.hok.fresh (Nat.le_refl _))⟩
 obtain⟨its,r',pl,hz⟩:=I.tuple hq
 exact call_tuple_same pl ⟨.ref p,H,I,rfl,q⟩
def tyV (K:PySem.W.Frag)(T:String)(x:V)(H:Hp):Prop:=match x with
 | .str _=>T = "str"
 | .int _=>T = "int"
 | .ref p=>(T = "list" /\ ∃ xs,SqL K H p xs)\/(T = "tuple" /\ ∃ o,K.lookup p=some o/\o.cls = .type "tuple" /\ o.dict=none) \/
   (T = "dict" /\ ((∃ kvs,H p=some (.dK kvs))\/∃ kvs,H p=some (.dT kvs)))\/(T = "set" /\ ∃ S n,H p=some (.set S n))
 | _=>False
theorem Xu {pins:List (Addr×Obj)}{σ:St}{H:Hp}{s:Shared}{T:String}{x:V}{v:Value}(I:Inv X pins σ H s)(r:RelV x v)(ty:tyV X.K T x H) :
  s.TypeIs v T/\∀ a,v = .ref a->∃ ob,s.heap.get? a=some ob/\ob.dict=none:=by
 cases x with
 | str z=>
   obtain⟨t,rfl⟩:=r
   cases (show T = "str" from ty)
   exact⟨typeIs_str s z t,fun _ e=>nomatch e⟩
 | int i=>
   obtain⟨t,rfl⟩:=r
   cases (show T = "int" from ty)
   exact⟨typeIs_int s i t,fun _ e=>nomatch e⟩
 | ref p=>
   cases r
   rcases ty with ⟨rfl,xs,hq⟩ | ⟨rfl,o,hk,hc,hd⟩ | ⟨rfl,hk⟩ | ⟨rfl,S,n,hk⟩
   . obtain⟨its,_,pl,_⟩:=I.list hq
     refine⟨pl.isList.typeIs,fun a e=>?_⟩
     cases e
     obtain⟨o,n,e,c,hd,_⟩:=pl
     exact⟨o,e,hd⟩
   . refine⟨⟨o,I.kIn p o hk,hc⟩,fun a e=>?_⟩
     cases e
     exact⟨o,I.kIn _ o hk,hd⟩
   . have z:∃ o,s.heap.get? p=some o/\o.ExactDict:=by
      rcases hk with ⟨kvs,hk⟩ | ⟨kvs,hk⟩
      . obtain⟨_,_,_,_,o,_,_,e,ex,_⟩:=I.hok p _ hk
        exact⟨o,e,ex⟩
      obtain⟨_,_,_,_,o,_,_,e,ex,_⟩:=I.hok p _ hk
      exact⟨o,e,ex⟩
     obtain⟨o,e,ex⟩:=z
     refine⟨⟨o,e,ex.1⟩,fun a e2=>?_⟩
     cases e2
     exact⟨o,e,ex.2.1⟩
   obtain⟨o,_,_,_,e,ex,_⟩:=I.hok p _ hk
   refine⟨⟨o,e,ex.1⟩,fun a e2=>?_⟩
   cases e2
   exact⟨o,e,ex.2.1⟩
 | _=>exact False.elim ty
def ak9 (K:PySem.W.Frag)(T:String)(r:V->List V->Hp->VK->Prop)(to:TE):TE:=fun σ H Q=>to σ H fun x H1=>tyV K T x H1/\r x [] H1 Q
def tBM (K:PySem.W.Frag)(T:String)(r:V->List V->Hp->VK->Prop)(to:TE)(t:TA):TE:=fun σ H Q=>to σ H fun x H1=>tyV K T x H1/\t σ H1 fun xs H2=>r x xs H2 Q
variable {o e:Expr}{es:List Expr}{to:TE}{t:TA}{name:Str}{apos cpos:Pos}{T id:String}{r:V->List V->Hp->VK->Prop}
theorem ad0 (pa:PlainAttrs T)(slot:Slot T name id)(hty:typeOf (.builtin id)=pure (.type "method_descriptor"))(hm:MtR X id r)(ho:PE X o to)
  (hbase:attributeBase o name X.env (eval o X.env)=eval o X.env:=by ac_nf) (hline:(apos.endLine==cpos.line)=true:=by ac_nf):PE X (.Call (.Attribute o name apos) [] [] cpos) (ak9 X.K T r to):=by
 intro pins s σ H Q I h
 refine wpAny_Call_method0_late hbase hline (thn (ho pins s σ H _ I h) fun v s1 ⟨x,H1,I1,r1,ty,q1⟩=>?_)
 obtain⟨h1,h2⟩:=Xu I1 r1 ty
 exact⟨T,id,pa,slot,hty,h1,h2,Calls.callWith_builtin rfl (PySem.evalArgs_none (hm pins s1 σ H1 x [] v [] Q I1 r1 .nil q1))⟩
theorem al6 (pa:PlainAttrs T)(slot:Slot T name id)(hty:typeOf (.builtin id)=pure (.type "method_descriptor"))(hm:MtR X id r)(ho:PE X o to)(ha:PA X (e :: es) t)
  (hbase:attributeBase o name X.env (eval o X.env)=eval o X.env:=by ac_nf)
  (hfew:((backTo cpos (starEach (e :: es) X.env)).all (fun x=>!x.1)&&(backToKw cpos (keywordEach [] X.env)).all (fun x=>x.1.isSome)
   && decide ((e :: es).length+([]:List Keyword).length+(if([]:List Keyword).isEmpty then 0 else 1)<30))=true:=by ac_nf)
  (hline:(apos.endLine==cpos.line)=true:=by ac_nf) (hs:starEach (e :: es) X.env=(false,eval e X.env) :: starEach es X.env:=by ac_nf) (hplain:(backTo cpos (starEach es X.env)).any (·.1)=false:=by ac_nf) :
  PE X (.Call (.Attribute o name apos) (e :: es) [] cpos) (tBM X.K T r to t):=by
 intro pins s σ H Q I h
 refine wpAny_Call_method_late hbase hfew hline rfl (thn (ho pins s σ H _ I h) fun v s1 ⟨x,H1,I1,r1,ty,q1⟩=>?_)
 obtain⟨h1,h2⟩:=Xu I1 r1 ty
 refine⟨T,id,pa,slot,hty,h1,h2,?_⟩
 have hA:=ha cpos pins s1 σ H1 _ I1 q1
 rw[hs] at hA ⊢
 refine Calls.callWith_builtin (by show(false||(backTo cpos (starEach es X.env)).any (·.1))=false;rw[hplain]<;>rfl) (Calls.evalArgs_plain ?_)
 exact thn hA fun us s2 ⟨vs,H2,I2,r2,q2⟩=>hm pins s2 σ H2 x vs v us Q I2 r1 r2 q2
/- xs.append(e),list.index on a module's tuple .. are MtR facts of 06m -/
end
def MtM (X:Cx)(id:String)(r:V->List V->Hp->VK->Prop):Prop:=
 ∀(pins:List (Addr×Obj)) (s:Shared) (σ:St) (H:Hp) (x:V) (xs:List V) (v:Value) (us:List Value) (Q:VK),Inv X pins σ H s->RelV x v->Vals xs us->r x xs H Q ->
  wpAny (model X.prog X.w) X.A (call (.builtin id) (v :: us)) (EP X pins σ Q) X.xe s
theorem Vals.one {x:V}{us:List Value}(h:Vals [x] us):∃ u,us=[u]/\RelV x u:=by
 cases h with
 | cons r q=>cases q;exact⟨_,rfl,r⟩
theorem Vals.two {x y:V}{us:List Value}(h:Vals [x,y] us):∃ u v,us=[u,v]/\RelV x u/\RelV y v:=by
 cases h with
 | cons r q=>obtain⟨u,rfl,q'⟩:=Vals.one q;exact⟨_,_,rfl,r,q'⟩
theorem Vals.eraseIdx:∀ {xs:List V} {us:List Value} (i:Nat),Vals xs us->Vals (xs.eraseIdx i) (us.eraseIdx i)
 | _,_,_,.nil=>.nil
 | _,_,0,.cons _ t=>t
 | _,_,i+1,.cons r t=>.cons r (Vals.eraseIdx i t)
theorem Vals.reverse {xs:List V}{us:List Value}(h:Vals xs us):Vals xs.reverse us.reverse:=by
 induction h with
 | nil=>exact .nil
 | cons r t ih=>rw[List.reverse_cons,List.reverse_cons];exact Vals.append ih (.cons r .nil)
theorem Vals.rep {xs:List V}{us:List Value}(h:Vals xs us):∀ k:Nat,Vals (List.replicate k xs).flatten (List.replicate k us).flatten
 | 0=>.nil
 | k+1=>by
   rw[List.replicate_succ,List.replicate_succ,List.flatten_cons,List.flatten_cons]
   exact Vals.append h (Vals.rep h k)
theorem Mc {α:Type}:∀(l:List α) (i:Nat),(l.eraseIdx i).length<=l.length
 | [],_=>Nat.le_refl _
 | _ :: _,0=>Nat.le_succ _
 | _ :: r,i+1=>Nat.succ_le_succ (Mc r i)
theorem Mq (its:List Value):∀(k:Nat) (acc:List Value),
  List.foldl (fun x1 x2=>x1++x2) acc.toArray (List.replicate k its.toArray)=(acc++(List.replicate k its).flatten).toArray
 | 0,acc=>by simp
 | k+1,acc=>by
   have e:acc.toArray++its.toArray=(acc++its).toArray:=by simp
   have e2:(acc++its)++(List.replicate k its).flatten=acc++(List.replicate (k+1) its).flatten:=by
    rw[List.replicate_succ,List.flatten_cons,List.append_assoc]
   rw[<- e2,<- Mq its k (acc++its),<- e,List.replicate_succ,List.foldl_cons]
section
variable {X:Cx}{pins:List (Addr×Obj)}{σ:St}{H:Hp}{s:Shared}{l b:Addr}{xs ys zs:List V}
theorem Inv.lset {its its':List Value}{n:Nat}{f:Array Value->Array Value}{t':Nat}(I:Inv X pins σ H s)(hH:H l=some (.lst xs))
  (e:s.heap.get? l=some { cls:=.type "list",data:=.seq its.toArray n }) (hf:f its.toArray=its'.toArray) (hv:Vals ys its') (hz:ys.length<=sizeLine) :
  Inv X pins σ (upd H l (.lst ys)) { s with heap:=s.heap.update l (Obj.mapSeq f),toks:=t' }:=by
 have q:=PySem.IsL.update e f
 rw[hf] at q
 refine I.write (x:=l) (e:=l) (by rw[hH];exact trivial) (.inl rfl) (fun b' u hb hu=>(Heap.get?_update_other s.heap (Obj.mapSeq f) (Ne.symm hb)).trans hu) ⟨_,q⟩ ?_
 exact⟨hz,its',_,hv,q⟩
theorem Inv.lnew {its:List Value}{t':Nat}(I:Inv X pins σ H s)(hv:Vals ys its)(hz:ys.length<=sizeLine) :
  Inv X pins σ (upd H s.heap.objs.size (.lst ys)) { s with heap:=s.heap.push { cls:=.type "list",data:=.seq its.toArray },toks:=t' }:=
 I.laid (fun _ _ q=>Heap.get?_push_of_some _ q) (Nat.le_refl _) ⟨hz,its,0,hv,Heap.get?_push_size _ rfl⟩
theorem Inv.fresh (I:Inv X pins σ H s):H s.heap.objs.size=none:=I.hok.fresh (Nat.le_refl _)
theorem Inv.lstM (I:Inv X pins σ H s)(hH:H l=some (.lst xs)):xs.length<=sizeLine/\∃(its:List Value) (n:Nat),Vals xs its/\xs.length=its.length/\s.heap.get? l=some { cls:=.type "list",data:=.seq its.toArray n }:=by
 obtain⟨z,its,n,r,e⟩:=I.hok l _ hH
 exact⟨z,its,n,r,r.length,e⟩
theorem L0 {n:Nat}(h:n<=sizeLine):Builtin.List.listTooLong n=false:=by
 unfold Builtin.List.listTooLong
 exact decide_eq_false (by omega)
end
section
variable {X:Cx}
def Rx:V->List V->Hp->VK->Prop:=fun x vs H Q=>∃ l xs y,x = .ref l/\vs=[y]/\H l=some (.lst xs)/\xs.length<sizeLine/\Q .non (upd H l (.lst (xs++[y])))
theorem Dg:MtM X "list.append" Rx:=by
 intro pins s σ H x vs v us Q I rx rv h
 obtain⟨l,xs,y,rfl,rfl,hH,hz,q⟩:=h
 cases rx
 obtain⟨u,rfl,ru⟩:=rv.one
 obtain⟨z,its,n,r,hl,e⟩:=I.lstM hH
 refine call_meets F.slot_list_append ⟨_,e,rfl⟩ F.entry_list_append (F.args_list_append_2 _ _) (PySem.list_append l its.toArray n u (by rw[List.size_toArray];omega)) ⟨e,?_⟩
 refine⟨.non,_,I.lset (its':=its++[u]) hH e (by simp) (r.append (.cons ru .nil)) ?_,rfl,q⟩
 rw[List.length_append,List.length_singleton]
 omega
def Yo:V->List V->Hp->VK->Prop:=fun x vs H Q=>∃ l xs i k y,x = .ref l/\vs=[.int i]/\H l=some (.lst xs) /\ -(2 ^ 63)<=i/\i<2 ^ 63/\seqIndex? i xs.length=some k/\xs[k]? = some y/\Q y (upd H l (.lst (xs.eraseIdx k)))
theorem Vx:MtM X "list.pop" Yo:=by
 intro pins s σ H x vs v us Q I rx rv h
 obtain⟨l,xs,i,k,y,rfl,rfl,hH,h1,h2,hk,hy,q⟩:=h
 cases rx
 obtain⟨u,rfl,ru⟩:=rv.one
 obtain⟨t,rfl⟩:=ru
 obtain⟨z,its,n,r,hl,e⟩:=I.lstM hH
 obtain⟨w,hw,rw'⟩:=r.get hy
 refine call_meets F.slot_list_pop ⟨_,e,rfl⟩ F.entry_list_pop (F.args_list_pop_2 _ _)
  (MeetsSeq.list_pop_at l its.toArray n i t k w (fitsIndex_both h1 h2) (by rw[List.size_toArray,<- hl];exact hk) (by rw[<- Array.getElem?_toList];exact hw) (by rw[List.size_toArray];omega)) ⟨e,?_⟩
 refine⟨y,_,I.lset (its':=its.eraseIdx k) hH e ?_ (r.eraseIdx k) ?_,rw',q⟩
 . show its.toArray.eraseIdxIfInBounds k=(its.eraseIdx k).toArray
   rw[List.eraseIdxIfInBounds_toArray]
 have:=Mc xs k
 omega
def ap8:R2:=fun x y H Q=>∃ l b xs zs,x = .ref l/\y = .ref b/\H l=some (.lst xs)/\H b=some (.lst zs)/\xs.length+zs.length<=sizeLine/\∀ p,H p=none->Q (.ref p) (upd H p (.lst (xs++zs)))
theorem op_cat:OpR X (binaryOp .Add) ap8:=by
 intro pins s σ H x y v u Q I rx ry h
 obtain⟨l,b,xs,zs,rfl,rfl,hH,hB,hz,q⟩:=h
 cases rx
 cases ry
 obtain⟨z,its,n,r,hl,e⟩:=I.lstM hH
 obtain⟨z2,its2,n2,r2,hl2,e2⟩:=I.lstM hB
 refine PySem.P.add_list e e2 ?_ (by rw[List.size_toArray,List.size_toArray];omega)
 have ea:its.toArray++its2.toArray=(its++its2).toArray:=by simp
 rw[ea]
 exact⟨.ref _,_,I.lnew (t':=s.toks) (r.append r2) (by rw[List.length_append];omega),rfl,q _ I.fresh⟩
def ao9:R2:=fun x y H Q=>∃ l k xs,x = .ref l/\y = .int k/\H l=some (.lst xs) /\ -(2 ^ 63)<=k/\k<2 ^ 63/\xs.length*k.toNat<=sizeLine /\
 ∀ p,H p=none->Q (.ref p) (upd H p (.lst (List.replicate k.toNat xs).flatten))
theorem a44 {α:Type}(xs:List α)(k:Nat):(List.replicate k xs).flatten.length=k*xs.length:=by
 induction k with
 | zero=>simp
 | succ k ih=>rw[List.replicate_succ,List.flatten_cons,List.length_append,ih,Nat.succ_mul,Nat.add_comm]
theorem ab6:OpR X (binaryOp .Mult) ao9:=by
 intro pins s σ H x y v u Q I rx ry h
 obtain⟨l,k,xs,rfl,rfl,hH,h1,h2,hz,q⟩:=h
 cases rx
 obtain⟨t,rfl⟩:=ry
 obtain⟨z,its,n,r,hl,e⟩:=I.lstM hH
 have hlen:its.toArray.size*k.toNat<=sizeLine:=by rw[List.size_toArray,<- hl];exact hz
 have hcap:¬ its.toArray.size*k.toNat>(2 ^ 63-1) / 8:=by
  have:(sizeLine:Nat)<=(2 ^ 63-1) / 8:=by decide
  omega
 have hfit:¬ (!Builtin.List.listFitsIndex k)=true:=by
  rw[fitsIndex_both h1 h2]
  exact Bool.false_ne_true
 have hlong:¬ Builtin.List.listTooLong (its.toArray.size*k.toNat)=true:=by
  rw[L0 hlen]
  exact Bool.false_ne_true
 have hnew:List.foldl (fun x1 x2=>x1++x2) #[] (List.replicate (if its.toArray.isEmpty=true then 0 else k.toNat) its.toArray)=(List.replicate k.toNat its).flatten.toArray:=by
  have f0:∀ m:Nat,List.foldl (fun x1 x2=>x1++x2) #[] (List.replicate m its.toArray)=(List.replicate m its).flatten.toArray:=fun m=>by
   have:=Mq its m []
   rw[List.nil_append] at this
   exact this
  rw[f0]
  cases its with
  | nil=>simp
  | cons a r'=>rw[if_neg (by simp)]
 refine wpAny_binaryOp_repeat_ref (T:="list") (U:="int") (by decide) ⟨_,e,rfl⟩ (fun s'=>typeIs_int s' k t) noFill_list_mul F.fills_int_mul F.slot_int_rmul repeat_list F.slot_int_index.lookup
  (call_meets F.slot_int_rmul (typeIs_int s k t) F.entry_int_rmul (F.args_int_rmul_2 _ _) (int___rmul___int_list k t l its.toArray n)
   ⟨e,rfl,⟨_,e,rfl⟩,call_meets F.slot_list_mul ⟨_,e,rfl⟩ F.entry_list_mul (F.args_list_mul_2 _ _) (AutoListH.list___mul___list_int_3 l its.toArray n k t hfit hcap hlong) ⟨e,?_⟩⟩)
 rw[hnew]
 exact⟨.ref _,_,I.lnew (t':=s.toks) (r.rep k.toNat) (by rw[a44,Nat.mul_comm];exact hz),rfl,q _ I.fresh⟩
end
section
variable {prog:Program} {w:World} {A:Around} {E:Value->Shared->Prop} {s:Shared}
theorem Um (its its2:List Value)(a c:Nat):its.toArray.extract 0 a++its2.toArray++its.toArray.extract c its.toArray.size=(its.take a++its2++its.drop c).toArray:=by
 apply Array.toList_inj.mp
 first
  | (simp
     exact List.take_of_length_le (by simp))
  | simp[List.take_of_length_le]
  | simp
set_option maxRecDepth 100000 in
end
section
variable {X:Cx}
end
section
variable {κ:Type}[DecidableEq κ]
def D3 (kvs:List (κ×V))(k:κ):Option V:=(kvs.find? fun kv=>decide (kv.1=k)).map (·.2)
def Db (kvs:List (κ×V))(k:κ)(v:V):List (κ×V):=
 if(kvs.any fun kv=>decide (kv.1=k))=true then kvs.map (fun kv=>if kv.1=k then(kv.1,v) else kv) else kvs++[(k,v)]
theorem W5 {k:κ}:D3 ([]:List (κ×V)) k=none:=rfl
theorem Bf {p:κ×V} {r:List (κ×V)} {k:κ} (e:p.1=k):D3 (p :: r) k=some p.2:=by simp[D3,List.find?_cons,e]
theorem Bg {p:κ×V}{r:List (κ×V)}{k:κ}(e:¬ p.1=k):D3 (p :: r) k=D3 r k:=by simp[D3,List.find?_cons,e]
theorem Es (k:κ):∀ kvs:List (κ×V),(kvs.any fun kv=>decide (kv.1=k))=(D3 kvs k).isSome
 | []=>rfl
 | p :: r=>by
   rw[List.any_cons]
   by_cases e:p.1=k
   . simp only[Bf e,decide_eq_true e,Bool.true_or,Option.isSome_some]
   rw[Bg e,decide_eq_false e,Bool.false_or];exact Es k r
theorem Pq (k j:κ)(y:V):∀ kvs:List (κ×V),D3 (kvs.map fun kv=>if kv.1=k then(kv.1,y) else kv) j=(D3 kvs j).map fun x=>if j=k then y else x
 | []=>rfl
 | p :: r=>by
   have ih:=Pq k j y r
   rw[List.map_cons]
   by_cases h:p.1=k
   . rw[if_pos h]
     by_cases e:p.1=j
     . rw[Bf (p:=(p.1,y)) e,Bf e,Option.map_some,if_pos (e.symm.trans h)]
     rw[Bg (p:=(p.1,y)) e,Bg e,ih]
   rw[if_neg h]
   by_cases e:p.1=j
   . rw[Bf (p:=p) e,Bf e,Option.map_some,if_neg (fun z=>h (e.trans z))]
   rw[Bg (p:=p) e,Bg e,ih]
theorem Mh (k j:κ)(y:V):∀ kvs:List (κ×V),D3 kvs k=none->D3 (kvs++[(k,y)]) j=if j=k then some y else D3 kvs j
 | [],_=>by
   by_cases e:k=j
   . rw[if_pos e.symm];exact Bf (p:=(k,y)) e
   rw[if_neg (fun z=>e z.symm)];exact Bg (p:=(k,y)) e
 | p :: r,hn=>by
   rw[List.cons_append]
   have hk:¬ p.1=k:=fun z=>by rw[Bf z] at hn;cases hn
   rw[Bg hk] at hn
   have ih:=Mh k j y r hn
   by_cases e:p.1=j
   . rw[Bf e,Bf e,if_neg (fun z=>hk (e.trans z))]
   rw[Bg e,Bg e,ih]
theorem Lu (kvs:List (κ×V))(k j:κ)(y:V):D3 (Db kvs k y) j=if j=k then some y else D3 kvs j:=by
 unfold Db
 by_cases a:(kvs.any fun kv=>decide (kv.1=k))=true
 . rw[if_pos a,Pq]
   rw[Es] at a
   by_cases e:j=k
   . obtain⟨x,hx⟩:=Option.isSome_iff_exists.mp a
     rw[if_pos e,e,hx,Option.map_some,if_pos rfl]
   rw[if_neg e]
   cases D3 kvs j with
   | none=>rfl
   | some x=>rw[Option.map_some,if_neg e]
 rw[if_neg a]
 refine Mh k j y kvs ?_
 rw[Es] at a
 cases q:D3 kvs k with
 | none=>rfl
 | some x=>rw[q] at a;exact(a rfl).elim
theorem Ec (kvs:List (κ×V))(k:κ)(v:V):(Db kvs k v).length<=kvs.length+1:=by
 unfold Db
 split
 . rw[List.length_map];omega
 rw[List.length_append,List.length_cons,List.length_nil];omega
theorem Iu {kvs:List (κ×V)}{k:κ}(v:V)(h:D3 kvs k=none):Db kvs k v=kvs++[(k,v)]:=by
 unfold Db
 rw [Es,h]
 exact if_neg (by decide)
theorem RelO.isSome_eq {o:Option V}{u:Option Value}(r:RelO o u):o.isSome=u.isSome:=by
 cases o with
 | none=>cases u with
   | none=>rfl
   | some _=>exact(show False from r).elim
 | some _=>cases u with
   | none=>exact(show False from r).elim
   | some _=>rfl
theorem KV.val {kvs:List (κ×V)} {vs:List (κ×Value)} (r:KV kvs vs) (k:κ):RelO (D3 kvs k) (valueAt vs k):=by
 unfold KV at r
 induction r with
 | nil=>exact True.intro
 | @cons p q ps qs h t ih=>
   obtain⟨h1,h2⟩:=h
   by_cases e:p.1=k
   . have e':q.1=k:=h1.symm.trans e
     have b:valueAt (q :: qs) k=some q.2:=by simp[valueAt,List.find?_cons,e']
     rw[Bf e,b];exact h2
   have e':¬ q.1=k:=fun z=>e (h1.trans z)
   have b:valueAt (q :: qs) k=valueAt qs k:=by simp[valueAt,List.find?_cons,e']
   rw[Bg e,b];exact ih
theorem KV.any {kvs:List (κ×V)}{vs:List (κ×Value)}(r:KV kvs vs)(k:κ):(kvs.any fun kv=>decide (kv.1=k))=vs.any fun kv=>decide (kv.1=k):=by
 unfold KV at r
 induction r with
 | nil=>rfl
 | cons h t ih=>rw[List.any_cons,List.any_cons,ih,h.1]
theorem KV.repl {kvs:List (κ×V)}{vs:List (κ×Value)}(r:KV kvs vs)(k:κ){y:V}{u:Value}(ry:RelV y u) :
  KV (kvs.map fun kv=>if kv.1=k then(kv.1,y) else kv) (vs.map fun kv=>if kv.1=k then(kv.1,u) else kv):=by
 unfold KV at r ⊢
 induction r with
 | nil=>exact .nil
 | @cons p q ps qs h t ih=>
   rw[List.map_cons,List.map_cons]
   refine .cons ?_ ih
   obtain⟨h1,h2⟩:=h
   by_cases e:p.1=k
   . rw[if_pos e,if_pos (h1.symm.trans e)];exact⟨h1,ry⟩
   rw[if_neg e,if_neg (fun z=>e (h1.trans z))];exact⟨h1,h2⟩
theorem KV.put {kvs:List (κ×V)}{vs:List (κ×Value)}(r:KV kvs vs)(k:κ){y:V}{u:Value}(ry:RelV y u):KV (Db kvs k y) (stored vs k u):=by
 unfold Db stored
 rw[r.any k]
 by_cases e:(vs.any fun kv=>decide (kv.1=k))=true
 . rw[if_pos e,if_pos e];exact r.repl k ry
 rw[if_neg e,if_neg e];exact Paired.snoc r ⟨rfl,ry⟩
theorem KV.length {kvs:List (κ×V)}{vs:List (κ×Value)}(r:KV kvs vs):kvs.length=vs.length:=Paired.length r
end
theorem O6 {P:Program}{w:World}{k:Key}{u:Value}(r:RelV (kV k) u):(Az P w).is k u=true:=by
 cases k with
 | inl i=>obtain⟨t,e⟩:=(show ∃ t,u=Value.int i t from r);subst e;exact Oy P w i t
 | inr x=>obtain⟨t,e⟩:=(show ∃ t,u=Value.str x t from r);subst e;exact Ox P w x t
theorem Np {P:Program}{w:World}:∀ {ks:List Key} {us:List Value},Vals (ks.map kV) us->ItemsAre (Az P w) ks us
 | [],_,r=>by rw[List.map_nil] at r;cases r;exact .nil
 | k :: ks,_,r=>by
   rw[List.map_cons] at r
   cases r with
   | cons h t=>exact .cons (O6 h) (Np t)
abbrev KT (H:Hp):List (List Key×V)->List (List Key×Addr×Value)->Prop:=Paired fun p q=>p.1=q.1/\H q.2.1=some (.tup (p.1.map kV))/\RelV p.2 q.2.2
theorem KT.val {H:Hp}{kvs:List (List Key×V)}{xs:List (List Key×Addr×Value)}(r:KT H kvs xs)(k:List Key):RelO (D3 kvs k) ((atKey xs k).map (·.2)):=by
 induction r with
 | nil=>exact True.intro
 | @cons p q ps qs h t ih=>
   obtain⟨h1,_,h2⟩:=h
   by_cases e:p.1=k
   . have e':q.1=k:=h1.symm.trans e
     have b:atKey (q :: qs) k=some q.2:=by simp[atKey,List.find?_cons,e']
     rw[Bf e,b];exact h2
   have e':¬ q.1=k:=fun z=>e (h1.trans z)
   have b:atKey (q :: qs) k=atKey qs k:=by simp[atKey,List.find?_cons,e']
   rw[Bg e,b];exact ih
theorem KT.repl {H:Hp} {kvs:List (List Key×V)} {xs:List (List Key×Addr×Value)} (r:KT H kvs xs) (k:List Key) {y:V} {u:Value} (ry:RelV y u) :
  KT H (kvs.map fun kv=>if kv.1=k then(kv.1,y) else kv) (xs.map (putAt k u)):=by
 induction r with
 | nil=>exact .nil
 | @cons p q ps qs h t ih=>
   rw[List.map_cons,List.map_cons]
   refine .cons ?_ ih
   obtain⟨h1,h2,h3⟩:=h
   unfold putAt
   by_cases e:p.1=k
   . rw[if_pos e,if_pos (h1.symm.trans e)];exact⟨h1,h2,ry⟩
   rw[if_neg e,if_neg (fun z=>e (h1.trans z))];exact⟨h1,h2,h3⟩
theorem KT.put {H:Hp}{kvs:List (List Key×V)}{xs:List (List Key×Addr×Value)}(r:KT H kvs xs)(k:List Key){b:Addr}{y:V}{u:Value}(hb:H b=some (.tup (k.map kV)))(ry:RelV y u) :
  KT H (Db kvs k y) (storedH xs k b u):=by
 have e:(kvs.any fun kv=>decide (kv.1=k))=(atKey xs k).isSome:=by
  rw[Es,(r.val k).isSome_eq,Option.isSome_map]
 unfold Db storedH
 rw[e]
 by_cases q:(atKey xs k).isSome=true
 . rw[if_pos q,if_pos q];exact r.repl k ry
 rw[if_neg q,if_neg q];exact Paired.snoc r ⟨rfl,hb,ry⟩
theorem KT.keeps {H H':Hp}{kvs:List (List Key×V)}{xs:List (List Key×Addr×Value)}(r:KT H kvs xs)(ht:∀ b ys,H b=some (.tup ys)->H' b=some (.tup ys)):KT H' kvs xs:=
 Paired.mapP r fun _ _ z=>⟨z.1,ht _ _ z.2.1,z.2.2⟩
section
variable {P:Program}{w:World}{H:Hp}{h:Heap}{a:Addr}
theorem ag3 {u:HO}(ok:HOk P w H h)(e:Rd H a u):ObjOk P w H h a u:=e.ok ok
theorem Re {kvs:List (Key×V)}(ok:HOk P w H h)(e:Rd H a (.dK kvs)):kvs.length<=sizeLine/\(a==sysModules)=false/\∃ vs,KV kvs vs/\h.DictOf (Az P w) a vs:=
 show ObjOk P w H h a (.dK kvs) from ag3 ok e
theorem P0 {kvs:List (Key×V)}(ok:HOk P w H h)(e:H a=some (.dK kvs)):kvs.length<=sizeLine/\(a==sysModules)=false/\∃ vs,KV kvs vs/\h.DictOf (Az P w) a vs:=Re ok (.inl e)
theorem Ma {ks:List Key}(ok:HOk P w H h)(e:H a=some (.tup (ks.map kV))):(tupleKind (Az P w)).is h ks a:=by
 obtain⟨_,its,r,o,h1,h2,⟨n,h3⟩,_⟩:=(show ObjOk P w H h a (.tup (ks.map kV)) from ok a _ e)
 exact⟨o,its.toArray,n,h1,h2,h3,by simpa using Np r⟩
theorem S4 {kvs:List (List Key×V)}(ok:HOk P w H h)(e:Rd H a (.dT kvs)):kvs.length<=sizeLine/\(a==sysModules)=false /\
  ∃ xs,KT H kvs xs/\h.DictOfH (tupleKind (Az P w)) a xs:=by
 obtain⟨z,y,xs,r,o,es,ep,h1,h2,h3,h4,h5⟩:=(show ObjOk P w H h a (.dT kvs) from ag3 ok e)
 refine⟨z,y,xs,r,o,es,ep,h1,h2,h3,h4,fun x hx=>?_,h5⟩
 have all:∀ {l:List (List Key×V)} {m:List (List Key×Addr×Value)},KT H l m->∀ x∈m,(tupleKind (Az P w)).is h x.1 x.2.1:=by
  intro l m q
  induction q with
  | nil=>intro x hx;exact nomatch hx
  | @cons p q ps qs hq t ih=>
    intro x hx
    rcases List.mem_cons.mp hx with e | hx
    . subst e
      exact Ma ok (by rw[<- hq.1];exact hq.2.1)
    exact ih x hx
 exact all r x hx
theorem am9 {kvs:List (List Key×V)}(ok:HOk P w H h)(e:H a=some (.dT kvs)):kvs.length<=sizeLine/\(a==sysModules)=false /\
  ∃ xs,KT H kvs xs/\h.DictOfH (tupleKind (Az P w)) a xs:=S4 ok (.inl e)
end
def DGet (H:Hp)(a:Addr)(y:V)(r:Option V):Prop:=
 (∃ kvs k,Rd H a (.dK kvs)/\y=kV k/\r=D3 kvs k)\/∃ kvs k b,Rd H a (.dT kvs)/\y = .ref b/\H b=some (.tup (k.map kV))/\r=D3 kvs k
def DPut (H:Hp)(a:Addr)(y v:V)(H':Hp):Prop:=
 (∃ kvs k,H a=some (.dK kvs)/\y=kV k/\kvs.length<sizeLine/\H'=upd H a (.dK (Db kvs k v))) \/
 ∃ kvs k b,H a=some (.dT kvs)/\y = .ref b/\H b=some (.tup (k.map kV))/\kvs.length<sizeLine/\H'=upd H a (.dT (Db kvs k v))
theorem DGet.k {H:Hp}{a:Addr}{kvs:List (Key×V)}{k:Key}(e:H a=some (.dK kvs)):DGet H a (kV k) (D3 kvs k):=.inl ⟨kvs,k,.inl e,rfl,rfl⟩
theorem DPut.k {H:Hp}{a:Addr}{kvs:List (Key×V)}{k:Key}{v:V}(e:H a=some (.dK kvs))(hl:kvs.length<sizeLine):DPut H a (kV k) v (upd H a (.dK (Db kvs k v))):=.inl ⟨kvs,k,e,rfl,hl,rfl⟩
theorem DPut.t {H:Hp}{a b:Addr}{kvs:List (List Key×V)}{k:List Key}{v:V}(e:H a=some (.dT kvs))(eb:H b=some (.tup (k.map kV)))(hl:kvs.length<sizeLine) :
  DPut H a (.ref b) v (upd H a (.dT (Db kvs k v))):=.inr ⟨kvs,k,b,e,rfl,eb,hl,rfl⟩
section
variable {X:Cx}{pins:List (Addr×Obj)}{σ:St}{H:Hp}{s:Shared}{a:Addr}{y v:V}{u r:Value}{o:Option V}{A:Around}{E:Value->Shared->Prop}
theorem Inv.big (I:Inv X pins σ H s):sysModules<s.heap.objs.size:=by
 have h:mainGlobals<s.heap.objs.size:=(I.mod.glob.keeps I.bk).lt
 exact Nat.lt_trans (by decide) h
theorem U0 {Q:Value->Shared->Prop}(hu:A.units+1<cLine)(I:Inv X pins σ H s)(g:DGet H a y (some v))(ry:RelV y u)(h:∀ w' s',Inv X pins σ H s'->RelV v w'->Q w' s') :
  wpAny (model X.prog X.w) A (getItem (.ref a) u) Q E s:=by
 rcases g with ⟨kvs,k,e,ey,l⟩ | ⟨kvs,k,b,e,ey,eb,l⟩
 . subst ey
   obtain⟨z,hd,vs,rel,dd⟩:=Re I.hok e
   obtain⟨w',hw,rw'⟩:=RelO.some_of (v:=v) (o:=valueAt vs k) (by rw[l];exact rel.val k)
   exact wpAny_getItem_of (O6 ry) dd.mapOf hw (h w' _ (I.tok _) rw')
 subst ey
 cases (show u=Value.ref b from ry)
 obtain⟨z,hd,xs,rel,dd⟩:=S4 I.hok e
 obtain⟨w',hw,rw'⟩:=RelO.some_of (v:=v) (o:=(atKey xs k).map (·.2)) (by rw[l];exact rel.val k)
 obtain⟨p,hp,hp2⟩:=Option.map_eq_some_iff.mp hw
 refine wpAny_getItem_heap (tupleKind_room_in1 hu) (Ma I.hok eb) dd hp ?_
 rw[hp2]
 exact h w' _ (I.tok _) rw'
theorem d_in {Q:Value->Shared->Prop}(hu:A.units+1<cLine)(I:Inv X pins σ H s)(g:DGet H a y o)(ry:RelV y u)(h:∀ s',Inv X pins σ H s'->Q (.bool o.isSome) s') :
  wpAny (model X.prog X.w) A (compareOp .In u (.ref a)) Q E s:=by
 rcases g with ⟨kvs,k,e,ey,l⟩ | ⟨kvs,k,b,e,ey,eb,l⟩
 . subst ey
   obtain⟨z,hd,vs,rel,dd⟩:=Re I.hok e
   refine wpAny_in_of (O6 ry) hd dd.mapOf ?_
   rw[<- (rel.val k).isSome_eq,<- l]
   exact h _ (I.tok _)
 subst ey
 cases (show u=Value.ref b from ry)
 obtain⟨z,hd,xs,rel,dd⟩:=S4 I.hok e
 refine wpAny_in_heap (tupleKind_room_in1 hu) (Ma I.hok eb) hd dd ?_
 have q:=(rel.val k).isSome_eq
 rw[Option.isSome_map] at q
 rw[<- q,<- l]
 exact h _ (I.tok _)
theorem a63 {Q:Value->Shared->Prop}(hu:A.units+1<cLine)(I:Inv X pins σ H s)(g:DGet H a y o)(ry:RelV y u)(h:∀ s',Inv X pins σ H s'->Q (.bool (!o.isSome)) s') :
  wpAny (model X.prog X.w) A (compareOp .NotIn u (.ref a)) Q E s:=by
 rcases g with ⟨kvs,k,e,ey,l⟩ | ⟨kvs,k,b,e,ey,eb,l⟩
 . subst ey
   obtain⟨z,hd,vs,rel,dd⟩:=Re I.hok e
   refine wpAny_notIn_of (O6 ry) hd dd.mapOf ?_
   rw[<- (rel.val k).isSome_eq,<- l]
   exact h _ (I.tok _)
 subst ey
 cases (show u=Value.ref b from ry)
 obtain⟨z,hd,xs,rel,dd⟩:=S4 I.hok e
 refine wpAny_notIn_heap (tupleKind_room_in1 hu) (Ma I.hok eb) hd dd ?_
 have q:=(rel.val k).isSome_eq
 rw[Option.isSome_map] at q
 rw[<- q,<- l]
 exact h _ (I.tok _)
theorem Lh {h':Heap}{t':Nat}{ob:HO}(I:Inv X pins σ H s)(mu:Mut (H a))(hs:Heap.SameBut a s.heap h')(he:∃ q,h'.get? a=some q)(new:ObjOk X.prog X.w (upd H a ob) h' a ob) :
  Inv X pins σ (upd H a ob) { s with heap:=h',toks:=t' }:=
 I.write (x:=a) (e:=a) mu (.inl rfl) (fun b q hb z=>(hs.2 b hb).trans z) he new
theorem Me {P:Program}{w:World}{H':Hp}{h':Heap}{kvs:List (Key×V)}{vs:List (Key×Value)}(z:kvs.length<=sizeLine)(hd:(a==sysModules)=false)(rel:KV kvs vs)(dd:h'.DictOf (Az P w) a vs) :
  ObjOk P w H' h' a (.dK kvs):=⟨z,hd,vs,rel,dd⟩
theorem Uq {H':Hp}{Q:Unit->Shared->Prop}(hu:A.units+1<cLine)(I:Inv X pins σ H s)(g:DPut H a y v H')(ry:RelV y u)(rv:RelV v r)(h:∀ s',Inv X pins σ H' s'->Q () s') :
  wpAny (model X.prog X.w) A (setItem (.ref a) u r) Q E s:=by
 rcases g with ⟨kvs,k,e,ey,l,eH⟩ | ⟨kvs,k,b,e,ey,eb,l,eH⟩
 . subst ey eH
   obtain⟨z,hd,vs,rel,dd⟩:=P0 I.hok e
   have hz:vs.length<=sizeLine:=by rw[<- rel.length];exact z
   have hl:(Db kvs k v).length<=sizeLine:=by have:=Ec kvs k v;omega
   refine wpAny_setItem_pairs (hsz:=hz) (O6 ry) dd fun h' dd' hs=>h _ ?_
   have he:∃ q,h'.get? a=some q:=let ⟨q,_,_,hq,_⟩:=dd';⟨q,hq⟩
   exact Lh I (by rw[e];exact True.intro) hs he (Me hl hd (rel.put k rv) dd')
 subst ey eH
 cases (show u=Value.ref b from ry)
 obtain⟨z,hd,xs,rel,dd⟩:=am9 I.hok e
 have hz:xs.length<=sizeLine:=by rw[<- Paired.length rel];exact z
 have hl:(Db kvs k v).length<=sizeLine:=by have:=Ec kvs k v;omega
 refine wpAny_setItem_heap (hsz:=hz) (tupleKind_room_in1 hu) (Ma I.hok eb) dd fun h' dd' hs=>h _ ?_
 obtain⟨q,es,ep,hq,h2,h3,h4,_,h5⟩:=dd'
 refine Lh I (by rw[e];exact True.intro) hs ⟨q,hq⟩ ⟨hl,hd,_,(rel.put k eb rv).keeps fun c ys ec=>?_,q,es,ep,hq,h2,h3,h4,h5⟩
 rw[Ap (ne_of ec e (fun z=>nomatch z))]
 exact ec
end
section
variable {X:Cx}{pins:List (Addr×Obj)}{σ:St}{H:Hp}{s:Shared}{a:Addr}{kvs:List (Key×V)}{k:Key}{u:Value}{A:Around}{E:Value->Shared->Prop}
theorem ao1 {Q:Value->Shared->Prop}(I:Inv X pins σ H s)(e:Rd H a (.dK kvs))(h:∀ t s',Inv X pins σ H s'->Q (.int kvs.length t) s'):wpAny (model X.prog X.w) A (call (.builtin "len") [.ref a]) Q E s:=by
 obtain⟨z,hd,vs,rel,dd⟩:=Re I.hok e
 refine call_len_dict hd dd (by rw[<- rel.length];rw[sizeLine_eq] at z;omega) ?_
 rw[<- rel.length]
 exact h _ _ (I.tok _)
end
theorem O8 {X:Cx}{pins:List (Addr×Obj)}{σ:St}{H:Hp}{s:Shared}{a:Addr}{y:V}{o:Option V}(I:Inv X pins σ H s)(g:DGet H a y o):s.TypeIs (.ref a) "dict":=by
 rcases g with ⟨kvs,k,e,_,_⟩ | ⟨kvs,k,b,e,_,_,_⟩
 . obtain⟨_,_,vs,_,dd⟩:=Re I.hok e
   exact dd.typeIs
 obtain⟨_,_,xs,_,dd⟩:=S4 I.hok e
 exact dd.typeIs
def ae5 (td ty tv:TE):TS:=fun D σ H=>tv σ H fun v H1=>td σ H1 fun x H2=>ty σ H2 fun y H3=>∃ a H4,x = .ref a/\DPut H3 a y v H4/\D.nx σ H4
section
variable {X:Cx}{o i e value:Expr}{pos pos' tpos:Pos}{td ty tv:TE}
theorem Dj (hu:X.A.units+1<cLine)(ho:PE X o td)(hi:PE X i ty)(hv:PE X value tv)(hs:swapsWith value (some (.Subscript o i pos')) pos.line X.env=pure false) :
  PS X (.Assign [.Subscript o i pos'] value pos) (ae5 td ty tv):=by
 intro pins s σ H D I h
 refine wpAny_Assign_Subscript (thn (hv pins s σ H _ I h) fun r s1 ⟨v,H1,I1,rv,q1⟩=>thn (ho pins s1 σ H1 _ I1 q1) fun u s2 ⟨x,H2,I2,rx,q2⟩=>thn (hi pins s2 σ H2 _ I2 q2) fun iv s3 ⟨y,H3,I3,ry,a,H4,ex,g,q3⟩=>?_) hs
 subst ex
 obtain rfl:u=Value.ref a:=rx
 exact Uq hu I3 g ry rv fun s4 I4=>⟨σ,H4,I4,q3⟩
end
theorem Qb {P:Program}{w:World}{H:Hp}(h:Heap)(hb:sysModules<h.objs.size):ObjOk P w H (h.push { cls:=.type "dict",data:=.dict #[] }) h.objs.size (.dK []):=
 ⟨Nat.zero_le _,beq_eq_false_iff_ne.mpr (Ne.symm (Nat.ne_of_lt hb)),[],.nil,Heap.DictOf.new h⟩
theorem Wu {P:Program}{w:World}{H:Hp}(h:Heap)(hb:sysModules<h.objs.size):ObjOk P w H (h.push { cls:=.type "dict",data:=.dict #[] }) h.objs.size (.dT []):=
 ⟨Nat.zero_le _,beq_eq_false_iff_ne.mpr (Ne.symm (Nat.ne_of_lt hb)),[],.nil,_,#[],0,Heap.get?_push_size _ rfl,⟨rfl,rfl,rfl⟩,rfl,rfl,List.nodup_nil⟩
def Xh:TE:=fun _ H Q=>∀ p,H p=none->Q (.ref p) (upd H p (.dK []))
def Yj:TE:=fun _ H Q=>∀ p,H p=none->Q (.ref p) (upd H p (.dT []))
section
variable {X:Cx}{pos:Pos}
theorem Ih:PE X (.Dict [] [] pos) Xh:=fun pins s σ H Q I h=>
 wpAny_Dict_empty ⟨.ref s.heap.objs.size,_,I.laid (a:=s.heap.objs.size) (o:=.dK []) (t':=s.toks) (fun _ _ q=>Heap.get?_push_of_some _ q) (Nat.le_refl _) (Qb s.heap I.big),rfl,h _ (I.hok.fresh (Nat.le_refl _))⟩
theorem Q4:PE X (.Dict [] [] pos) Yj:=fun pins s σ H Q I h=>
 wpAny_Dict_empty ⟨.ref s.heap.objs.size,_,I.laid (a:=s.heap.objs.size) (o:=.dT []) (t':=s.toks) (fun _ _ q=>Heap.get?_push_of_some _ q) (Nat.le_refl _) (Wu s.heap I.big),rfl,h _ (I.hok.fresh (Nat.le_refl _))⟩
end
def Ja:List (TE×TE)->St->Hp->(List (V×V)->Hp->Prop)->Prop
 | [],_,H,Q=>Q [] H
 | (tk,tv) :: r,σ,H,Q=>tk σ H fun x H1=>tv σ H1 fun y H2=>Ja r σ H2 fun ps H3=>Q ((x,y) :: ps) H3
abbrev VV:List (V×V)->List (Value×Value)->Prop:=Paired fun p q=>RelV p.1 q.1/\RelV p.2 q.2
def PPs (X:Cx)(pos:Pos)(keys:List (Option Expr))(values:List Expr)(trs:List (TE×TE)):Prop:=
 ∀(pins:List (Addr×Obj)) (s:Shared) (σ:St) (H:Hp) (Q:List (V×V)->Hp->Prop),Inv X pins σ H s->Ja trs σ H Q ->
  wpAny (model X.prog X.w) X.A (evalPairs (pairTrees keys values X.env pos)) (fun vs s'=>∃ ps H',Inv X pins σ H' s'/\VV ps vs/\Q ps H') X.xe s
theorem Ul {X:Cx}{pos:Pos}:PPs X pos [] [] []:=fun pins s σ H Q I h=>pairTrees_nil_walk ⟨[],H,I,.nil,h⟩
theorem Gh {X:Cx}{pos:Pos}{k v:Expr}{ks:List (Option Expr)}{vs:List Expr}{tk tv:TE}{trs:List (TE×TE)}(hk:PE X k tk)(hv:PE X v tv)(hr:PPs X pos ks vs trs) :
  PPs X pos (some k :: ks) (v :: vs) ((tk,tv) :: trs):=fun pins s σ H Q I h=>
 pairTrees_cons_walk (thn (hk pins s σ H _ I h) fun u s1 ⟨x,H1,I1,rx,q1⟩=>thn (hv pins s1 σ H1 _ I1 q1) fun w2 s2 ⟨y,H2,I2,ry,q2⟩=>
  thn (hr pins s2 σ H2 _ I2 q2) fun ws s3 ⟨ps,H3,I3,rel,q3⟩=>⟨(x,y) :: ps,H3,I3,.cons ⟨rx,ry⟩ rel,q3⟩)
def Ci (kvs more:List (Key×V)):List (Key×V):=more.foldl (fun acc kv=>Db acc kv.1 kv.2) kvs
theorem KV.merge:∀ {more:List (Key×V)} {rs:List (Key×Value)} {kvs:List (Key×V)} {vs:List (Key×Value)},KV more rs->KV kvs vs->KV (Ci kvs more) (merged vs rs):=by
 intro more rs kvs vs r
 unfold KV at r
 induction r generalizing kvs vs with
 | nil=>intro q;exact q
 | @cons p q ps qs h t ih=>
   intro r0
   have e:KV (Db kvs p.1 p.2) (stored vs q.1 q.2):=by
    have:=r0.put p.1 h.2
    rw[<- h.1];exact this
   exact ih e
theorem Cf:∀(more kvs:List (Key×V)),(Ci kvs more).length<=kvs.length+more.length
 | [],kvs=>by show kvs.length<=kvs.length+0;omega
 | p :: r,kvs=>by
   have h1:=Cf r (Db kvs p.1 p.2)
   have h2:=Ec kvs p.1 p.2
   show(Ci (Db kvs p.1 p.2) r).length<=_
   rw[List.length_cons];omega
theorem Ks {P:Program}{w:World}:∀ {kvs:List (Key×V)} {ws:List (Value×Value)},VV (kvs.map fun kv=>(kV kv.1,kv.2)) ws->∃ rs,Carries (Az P w) ws rs/\KV kvs rs
 | [], _,r=>by rw[List.map_nil] at r;cases r;exact⟨[],True.intro,.nil⟩
 | p :: kvs,_,r=>by
   rw[List.map_cons] at r
   cases r with
   | @cons a b as bs h t=>
     obtain⟨rs,c,q⟩:=Ks (P:=P) (w:=w) t
     obtain⟨b1,b2⟩:=b
     exact⟨(p.1,b2) :: rs,⟨O6 h.1,rfl,c⟩,.cons ⟨rfl,h.2⟩ q⟩
def ae9 (trs:List (TE×TE)):TE:=fun σ H Q=>∀ p,H p=none->Ja trs σ (upd H p (.dK [])) fun ps H2=>H2 p=some (.dK [])/\∃ kvs:List (Key×V),ps=kvs.map (fun kv=>(kV kv.1,kv.2))/\kvs.length<=15/\Q (.ref p) (upd H2 p (.dK (Ci [] kvs)))
theorem Ua {X:Cx}{pos:Pos}{keys:List (Option Expr)}{values:List Expr}{trs:List (TE×TE)}(h:PPs X pos keys values trs)(hall:keys.all (·.isSome)=true)(hl:keys.length=values.length)(h0:keys≠[])
  (h15:keys.length<=15):PE X (.Dict keys values pos) (ae9 trs):=by
 intro pins s σ H Q I q
 have hn:=I.hok.fresh (Nat.le_refl s.heap.objs.size)
 have I1:=I.laid (a:=s.heap.objs.size) (o:=.dK []) (h':=s.heap.push { cls:=.type "dict",data:=.dict #[] }) (t':=s.toks) (fun _ _ q=>Heap.get?_push_of_some _ q) (Nat.le_refl _) (Qb s.heap I.big)
 refine wpAny_Dict_walk (knd:=Az X.prog X.w) hall hl h0 h15 (thn (h pins _ σ _ _ I1 (q _ hn)) fun ws s2 ⟨ps,H2,I2,rel,e,kvs,ep,lk,q2⟩=>?_)
 subst ep
 obtain⟨rs,c,rk⟩:=Ks (P:=X.prog) (w:=X.w) rel
 obtain⟨z,hd,vs0,r0,dd⟩:=P0 I2.hok e
 cases r0
 refine⟨rs,c,dd,fun h' dd' hs=>⟨.ref s.heap.objs.size,_,?_,rfl,q2⟩⟩
 have hz:(Ci [] kvs).length<=sizeLine:=by
  have h1:=Cf kvs []
  rw[List.length_nil] at h1
  rw[sizeLine_eq];omega
 have he:∃ q,h'.get? s.heap.objs.size=some q:=let ⟨q,_,_,hq,_⟩:=dd';⟨q,hq⟩
 exact Lh I2 (by rw[e];exact True.intro) hs he (Me hz hd (rk.merge .nil) dd')
section
variable {X:Cx}{pins:List (Addr×Obj)}{σ:St}{H:Hp}{s:Shared}{a:Addr}{y d:V}{u r:Value}{o:Option V}{A:Around}{E:Value->Shared->Prop}
end
section
variable {X:Cx}{o e f:Expr}{apos cpos:Pos}{td ty tx:TE}
end
section
variable {X:Cx}{pins:List (Addr×Obj)}{σ:St}{H:Hp}{s:Shared}{a:Addr}{kvs:List (Key×V)}{A:Around}{E:Value->Shared->Prop}
end
section
variable {X:Cx}{pins:List (Addr×Obj)}{σ:St}{H:Hp}{s:Shared}{a:Addr}{y:V}{u:Value}{A:Around}{E:Value->Shared->Prop}
end
end L2
namespace Att
open PySem PySem.W PySem.Calls PyProof.Rows
theorem Ix {P:Params}{h:Heap}:∀(ns:List Int) (vs:List Value),WellAll P h vs (ns.map WData.int)->IntsAre vs ns:=by
 intro ns
 induction ns with
 | nil=>
   intro vs w
   rw[List.map_nil] at w
   cases w
   exact .nil
 | cons n ns ih=>
   intro vs w
   rw[List.map_cons] at w
   cases w with
   | cons a b=>
     cases a
     exact .cons _ _ (ih _ b)
theorem T4 {l:OpenLaw}{n:Nat}(hn:l.most=some n){P:Params}{h:Heap}{args:List WData}{vals:List Value}
  (hpre:l.row.toRowW.claim.pre args=true) (hwl:WellAll P h vals args) :
  ∃ a vs ns,vals=[Value.ref a]/\args=[WData.list (ns.map WData.int)]/\h.get? a=some { cls:=.type "list",data:=.seq vs.toArray }/\IntsAre vs ns/\ns.length<=n:=by
 have hsh:WShape.hasAll [] args [.list .int]=true:=(pre_splitW hpre).1
 have hc:l.pre.holds [] { args:=args }=true:=(pre_splitW hpre).2
 obtain⟨d,r,rfl,h1,h2⟩:=hasAllW_cons hsh
 obtain rfl:=hasAllW_nil h2
 obtain⟨xs,rfl,h3⟩:=hasW_list h1
 obtain⟨ns,rfl⟩:=items_int h3
 have hlen:ns.length<=n:=by
  unfold OpenLaw.pre at hc
  have h4:(WTm.not (.lt (.lit (.int (n:Int))) (.len (.arg 0)))).holds [] { args:=[.list (ns.map .int)] }=true:=by
   have h4:=(holds_andW hc).1
   rw[hn] at h4
   exact h4
  have h5:=condW_of h4 (w_not (w_lt w_lit (w_len_list (w_arg rfl))))
  rw[List.length_map] at h5
  refine Nat.le_of_not_lt fun q=>?_
  have q':(n:Int)<((ns.length:Nat):Int):=by omega
  first
   | (rw[decide_eq_true q'] at h5;exact absurd h5 (by decide))
   | (simp at h5;omega)
 cases hwl with
 | cons w1 w2=>
   cases w2
   cases w1 with
   | list ho hall=>exact⟨_,_,ns,rfl,rfl,ho,Ix ns _ hall,hlen⟩
theorem Rq (l:OpenLaw)(args:List WData):l.row.toRowW.claim.post args (.bool true) args=true:=
 postW_of (r:=l.row.toRowW) (X:=(true==true))
  (show WShape.has [] (.bool true) .bool=true by first | rfl | decide | simp[WShape.has,WShape.arms,WShape.armsAll])
  (show(WTm.eq .res (.lit (.bool true))).value [] { args:=args,res:=some (.bool true),after:=args }=some (.bool (true==true)) from w_eq_bool (w_res rfl) w_lit) rfl
theorem attach_call {l:OpenLaw}{n:Nat}{q:Program}{loose:List Str}{XP:(Str->Option Value)->Heap->Prop}{YP:World->Heap->Prop}{d:DefRec}
  (hn:l.most=some n) (hdf:d.params.defaults=[])
  (call:∀(w:World) (s₀ s₁:Shared) (mg mb:Str->Option Value) (fa:Addr) (o:Obj) (pm cd doc:Value) (a:Addr) (vs:List Value) (ns:List Int),
   Ground q loose [] XP w s₀ mg mb s₁.heap->YP w s₁.heap ->
   s₁.heap.get? fa=some o->o.data = .func (docDef d.name d.params d.body d.scope pm cd doc)->s₁.heap.CodeRec cd d.name->mg d.name=some (.ref fa) ->
   s₁.heap.get? a=some { cls:=.type "list",data:=.seq vs.toArray }->IntsAre vs ns->ns.length<=n->s₁.gens = #[] ->
   codeAny (model l.prog w) callerA (.call (.ref fa) ⟨[.ref a],[]⟩) (fun r s'=>r = .ok (.ret (.bool true))/\OldK s₁.heap s'.heap/\s'.os=s₁.os/\AllBare s'.gens) s₁) :
  WalkO q loose XP YP l.row.toRowW d [] (fun f vs=>PySem.call f vs):=by
 intro w s₀ s₁ mg mb G Y fa o pm cd doc dV kV ho hd hcd hD hmg hg args vals as hpre hlay hrd hwl hlo
 obtain rfl:dV = .none:=Dflts.none hD hdf
 obtain rfl:kV = .none:=Dflts.noKw hD
 obtain⟨a,vs,ns,rfl,rfl,hobj,hints,hlen⟩:=T4 hn hpre hwl
 refine enter_call (codeAny_mono (call w s₀ s₁ mg mb fa o pm cd doc a vs ns G Y ho (fd_plain hd) hcd hmg hobj hints hlen hg) fun r s' hq=>?_)
 obtain⟨rfl,h2,h3,h4⟩:=hq
 exact⟨.inl ⟨.bool true,.bool true,[],rfl,fun _=>rfl,.bool true,Rq l _,fun _=>⟨List.Pairwise.nil,fun _ hm=>(nomatch hm)⟩⟩,h2,h3,h4⟩
section
variable {prog:Program}{w:World}{A:Around}{E:Value->Shared->Prop}{s:Shared}{K:Frag}
end
end Att
namespace L2
open PySem PySem.Spec PyProof.Rows
theorem N8:∀ {vs:List Value} {ns:List Int},IntsAre vs ns->Vals (ns.map V.int) vs
 | _,_,.nil=>.nil
 | _,_,.cons n t h=>.cons ⟨t,rfl⟩ (N8 h)
def ao5 (H:Hp):Prop:=∀ b,H b=none\/∃ o xs,H b=some (.frz o (.lst xs))
theorem Wa {P:Program}{w:World}{K:PySem.W.Frag}{mg mb:Str->Option Value}{CX:CXT}{k:Nat}{fa a:Addr}{fd:FuncData}{x:Str}{sp:Sp}{s₁:Shared}{vs:List Value}{ns:List Int}
  (KX:K.In s₁.heap) (hns:s₁.heap.Ns mainGlobals mg) (hb:s₁.heap.Ns builtinsNs mb) (hbb:∀ x:Str,x ≠ "__name__" -> mb x=bootBuiltins x) (hlim:s₁.heap.NoLimit) (hg:s₁.gens = #[])
  (ha:s₁.heap.get? a=some { cls:=.type "list",data:=.seq vs.toArray }) (hi:IntsAre vs ns) (hl:ns.length<=sizeLine) (hr:Room k callerA)
  (F:∀ base:Heap,K.In base->base.Ns mainGlobals mg->FnOk P w K mg base CX k fa fd [x] sp) (hbind:∀(s:Shared) (u:Value),BindsTo s fd ⟨[u],[]⟩ [(x,u)])
  (hsp:∀ H:Hp,ao5 H->SqL K H a (ns.map V.int)->sp [.ref a] H (fun v _=>v = .bl true) fun _ _ _=>False)
  (hCX:∀ H e s',CX [] H s₁ (fun _ _ _=>False) e s'->False) :
  codeAny (model P w) callerA (.call (.ref fa) ⟨[.ref a],[]⟩) (fun r s'=>r = .ok (.ret (.bool true))/\OldK s₁.heap s'.heap/\s'.os=s₁.os/\AllBare s'.gens) s₁:=by
 have rv:=N8 hi
 have lenV:=hi.length
 have core:∀ H:Hp,ao5 H->SqL K H a (ns.map V.int)->HOk P w H s₁.heap->(∀ b,H b≠none->b=a)->(H a≠none->K.lookup a=none) ->
   codeAny (model P w) callerA (.call (.ref fa) ⟨[.ref a],[]⟩) (fun r s'=>r = .ok (.ret (.bool true))/\OldK s₁.heap s'.heap/\s'.os=s₁.os/\AllBare s'.gens) s₁:=by
  intro H hO hS hok hA hK
  have base_of:∀ {b:Addr} {o:Obj},s₁.heap.get? b=some o->H b=none->(W6 s₁.heap H).get? b=some o:=fun e n=>Vf e n
  have noA:∀ {b:Addr} {o:Obj} {es:Array DictEntry} {ep:Nat},s₁.heap.get? b=some o->o.data = .dict es ep->H b=none:=fun {b o es ep} e d=>by
   cases q:H b with
   | none=>rfl
   | some u=>
     have e':b=a:=hA b (by rw[q];simp)
     subst e'
     rw[ha] at e;cases e
     have d':Data.seq vs.toArray _=Data.dict es ep:=d
     cases d'
  have nsK:∀ {b:Addr} {m:Str->Option Value},s₁.heap.Ns b m->(W6 s₁.heap H).Ns b m:=fun {b m} ⟨o,es,ep,e,d,r⟩=>⟨o,es,ep,base_of e (noA e d),d,r⟩
  have hKb:K.In (W6 s₁.heap H):=fun b o e=>base_of (KX b o e) (by
   cases q:H b with
   | none=>rfl
   | some u=>
     have e':b=a:=hA b (by rw[q];simp)
     subst e'
     rw[hK (by rw[q];simp)] at e;cases e)
  have hM:Mod K mg (W6 s₁.heap H):=⟨hKb,nsK hns,⟨mb,nsK hb,hbb⟩,let ⟨mc,h1,h2⟩:=hlim;⟨mc,nsK h1,h2⟩⟩
  have e0:Env0 P w K mg (W6 s₁.heap H) callerA [] s₁ H:=⟨rfl,hM,fun b o e=>a04 e,Nat.le_of_eq (Sj _ _),trivial,fun b hb=>absurd (show b∈([]:List Addr) from hb) (by simp),hok,.of_eq hg⟩
  refine codeAny_mono ((F _ hKb (nsK hns)).run callerA [] s₁ H ⟨[.ref a],[]⟩ [.ref a] [.ref a] _ _ hr e0 (hbind s₁ (.ref a)) (.cons rfl .nil) (hsp H hO hS)) fun r s' h=>?_
  cases r with
  | error e=>exact(hCX H e s' h).elim
  | ok fl=>
    cases fl with
    | next=>exact False.elim h
    | brk=>exact False.elim h
    | cont=>exact False.elim h
    | ret u=>
      obtain⟨v,H',os,bare,un,hok',r',q⟩:=h
      have q':v = .bl true:=q
      subst q'
      obtain rfl:u=Value.bool true:=r'
      refine⟨rfl,OldK.of_keep fun b o e=>?_,os,bare⟩
      cases q:H b with
      | none=>exact un.keep b o e q (by intro z;exact absurd (show b∈([]:List Addr) from z) (by simp)) (by simp)
      | some u=>
        rcases hO b with z | ⟨ob,xs,z⟩
        . rw[q] at z;cases z
        have z2:=un.frzs b ob _ z
        obtain⟨e1,_⟩:=hok b _ z
        obtain⟨e2,_⟩:=hok' b _ z2
        rw[e] at e1;cases e1
        exact e2
 cases hk:K.lookup a with
 | some o=>
   have e:=KX a o hk
   rw[ha] at e
   cases e
   refine core (fun _=>none) (fun _=>.inl rfl) (.inr ⟨_,vs.toArray,_,hk,rfl,rfl,rfl,by rw[List.size_toArray,lenV];exact hl,by simpa using rv⟩) (fun b u z=>by have z':(none:Option HO)=some u:=z;cases z') (fun b z=>absurd rfl z) fun z=>absurd rfl z
 | none=>
   refine core (fun b=>if b=a then some (.frz { cls:=.type "list",data:=.seq vs.toArray } (.lst (ns.map V.int))) else none) (fun b=>?_) (.inl (.inr ⟨{ cls:=.type "list",data:=.seq vs.toArray },if_pos rfl⟩)) (fun b u z=>?_) (fun b z=>?_) fun _=>hk
   . by_cases hb:b=a
     . exact .inr ⟨_,_,if_pos hb⟩
     exact .inl (if_neg hb)
   . by_cases hb:b=a
     . have z':=(if_pos hb).symm.trans z
       cases z'
       subst hb
       exact⟨ha,by rw[List.length_map];exact hl,vs,_,rv,ha⟩
     have z':=(if_neg hb).symm.trans z
     cases z'
   by_cases hb:b=a
   . exact hb
   exact absurd (if_neg hb) z
theorem walk_of {l:PySem.W.OpenLaw}{n k:Nat}{q:Program}{loose:List Str}{XP:(Str->Option Value)->Heap->Prop}{YP:World->Heap->Prop}{d:DefRec}{K:Params->PySem.W.Frag}{CX:World->CXT}{sp:World->Sp}{x:Str}
  (hn:l.most=some n) (hn2:n<=sizeLine) (hdf:d.params.defaults=[]) (hr:Room k callerA)
  (hY:∀(w:World) (h:Heap),YP w h->(K w.params).In h)
  (F:∀(w:World) (mg:Str->Option Value) (fa:Addr) (h:Heap),(K w.params).In h->h.Ns mainGlobals mg->mg d.name=some (.ref fa) ->
   ∃ fd:FuncData,(∀(s:Shared) (u:Value),BindsTo s fd ⟨[u],[]⟩ [(x,u)]) /\
    ∀ base:Heap,(K w.params).In base->base.Ns mainGlobals mg->FnOk l.prog w (K w.params) mg base (CX w) k fa fd [x] (sp w))
  (hsp:∀(w:World) (H:Hp) (a:Addr) (ns:List Int),ns.length<=n->ao5 H->SqL (K w.params) H a (ns.map V.int)->sp w [.ref a] H (fun v _=>v = .bl true) fun _ _ _=>False)
  (hCX:∀(w:World) (H:Hp) (s:Shared) (e:Value) (s':Shared),CX w [] H s (fun _ _ _=>False) e s'->False) :
  PySem.W.WalkO q loose XP YP l.row.toRowW d [] (fun f vs=>PySem.call f vs):=by
 refine Att.attach_call hn hdf fun w s₀ s₁ mg mb fa o pm cd doc a vs ns G Y ho hd hcd hmg hobj hints hlen hg=>?_
 have KX:=hY w _ Y
 obtain⟨fd,hb,hF⟩:=F w mg fa _ KX G.T.g hmg
 exact Wa KX G.T.g G.T.b G.T.builtins G.T.nolimit hg hobj hints (Nat.le_trans hlen hn2) hr hF hb (fun H hO hS=>hsp w H a ns hlen hO hS) fun H e s'=>hCX w H s₁ e s'
def M0 (s:Stmt)(j:Nat):Stmt:=match s with
 | .ClassDef _ _ _ body _ _ _ _ _ _ _=>body.getD j (.Pass ⟨0,0,0,0⟩)
 | _=>.Pass ⟨0,0,0,0⟩
def Ag (s:Stmt):Arguments:=match s with
 | .FunctionDef _ a _ _ _ _ _ _ _ _=>a
 | _=>{ posonlyargs:=[],args:=[],vararg:=none,kwonlyargs:=[],kw_defaults:=[],kwarg:=none,defaults:=[] }
def Ad (s:Stmt):List Stmt:=match s with
 | .FunctionDef _ _ b _ _ _ _ _ _ _=>b
 | _=>[]
def A4 (s:Stmt):Scope:=match s with
 | .FunctionDef _ _ _ _ _ _ sc _ _ _=>sc
 | _=>{ kind:=.function,names:=[],isGenerator:=false,isCoroutine:=false }
abbrev CX0:CXT:=fun _ _ _ _ _ _=>False
abbrev E0:XK:=fun _ _ _=>False
theorem a55 {X:Cx}:Fu CX0 X E0:=fun _ _ _ _ _ _ _ h=>h.elim
structure Fun (K:PySem.W.Frag)(x qual:Str)(st:Stmt)(f:Addr)(fd:FuncData):Prop where
 ex:∃(oc:Value) (od:Option Addr) (kV doc pm:Value) (an:Option Addr) (cdv ct:Value) (osl:Array (Option Value)),
  fd=PySem.W.fnOf x qual (Ag st) (Ad st) (A4 st) .none kV doc pm an cdv ct/\K.lookup f=some ⟨oc,od,.func fd,osl⟩/\PySem.W.codeIn K cdv qual=true
 kp:PySem.W.keepIn K (.ref f)=true
section
variable {P:Program}{w:World}{K:PySem.W.Frag}{mg:Str->Option Value}{base:Heap}
theorem Fun.ok {x qual:Str}{st:Stmt}{f:Addr}{fd:FuncData}{N ps:List Str}{k:Nat}{sp:Sp}(F:Fun K x qual st f fd)(S:Aq N ps (A4 st))(len:∀ vs H Q E,sp vs H Q E->vs.length=ps.length)
  (hbody:∀(cdv:Value) (A:Around) (outer:List Env) (s:Shared) (H:Hp) (vs:List V) (Q:VK) (E:XK),Room k (A.deeper (envOfC qual (A4 st) s.heap.objs.size f cdv))->sp vs H Q E ->
   ∃ t,PSs (Rp CX0 P w K mg base N qual (A4 st) f cdv A outer s H E).nox (Ad st) t/\t { nx:=fun _ H'=>Q .non H',rt:=Q } (Kx N vs) H):FnOk P w K mg base CX0 (k+1) f fd ps sp:=by
 obtain⟨oc,od,kV,doc,pm,an,cdv,ct,osl,rfl,lk,hcd⟩:=F.ex
 refine af5 lk hcd S len fun A outer s H vs Q E hr hsp=>?_
 obtain⟨t,h,q⟩:=hbody cdv A outer s H vs Q E hr hsp
 exact⟨t,h.nox,q⟩
theorem Fun.binds {x qual:Str}{st:Stmt}{f:Addr}{fd:FuncData}{ps:List Str}(F:Fun K x qual st f fd)
  (h:∀(kV doc pm:Value) (an:Option Addr) (cdv ct:Value) (us:List Value),us.length=ps.length->bindArgs (PySem.W.fnOf x qual (Ag st) (Ad st) (A4 st) .none kV doc pm an cdv ct) ⟨us,[]⟩=pure (ps.zip us)):Binds K fd ps []:=by
 obtain⟨oc,od,kV,doc,pm,an,cdv,ct,osl,rfl,lk,hcd⟩:=F.ex
 exact .all (h kV doc pm an cdv ct)
theorem B5 {x qual:Str}{st:Stmt}{f:Addr}{oc:Value}{od an:Option Addr}{osl:Array (Option Value)}{kV doc pm cdv ct:Value}(l:K.lookup f=some ⟨oc,od,.func (PySem.W.fnOf x qual (Ag st) (Ad st) (A4 st) .none kV doc pm an cdv ct),osl⟩)
  (c:PySem.W.codeIn K cdv qual=true) (k:PySem.W.keepIn K (.ref f)=true):Fun K x qual st f (PySem.W.fnOf x qual (Ag st) (Ad st) (A4 st) .none kV doc pm an cdv ct):=⟨⟨oc,od,kV,doc,pm,an,cdv,ct,osl,rfl,l,c⟩,k⟩
end
theorem C2 {A:Around}{k:Nat}(hr:Room k A):A.units+1<cLine:=Nat.lt_of_le_of_lt (Nat.add_le_add_left (by decide:1<=64) _) hr.units
theorem Ru {n:Nat}(h:n<=1000):n<sizeLine:=Nat.lt_of_le_of_lt h (by decide)
section
variable {X:Cx}
theorem pv (i:Nat){x:Str}{pos:Pos}(hN:X.N[i]? = some x:=by ac_nf)(hv:Vis X.env.scope x:=by with_unfolding_all first | exact Or.inl rfl | exact Or.inr (Or.inl rfl) | exact Or.inr (Or.inr rfl))(hd:(x==("__debug__":Str))=false:=by decide)
  (hcd:(x==("__classdict__":Str))=false:=by decide):PE X (.Name x pos) (ak6 i):=ai3 hN hv hd hcd
end
theorem iteF {A B:Prop}(h:B):if false=true then A else B:=by
 rw[if_neg Bool.false_ne_true]
 exact h
theorem iteT {A B:Prop}(h:A):if true=true then A else B:=by
 rw[if_pos rfl]
 exact h
theorem ar6 {c A B:Prop}[Decidable c](h1:c->A)(h2:¬ c->B):if c then A else B:=by
 by_cases h:c
 . rw[if_pos h]
   exact h1 h
 rw[if_neg h]
 exact h2 h
def Same (H H':Hp):Prop:=∀ b o,H b=some o->H' b=some o
theorem Same.refl (H:Hp):Same H H:=fun _ _ h=>h
theorem Same.trans {H H1 H2:Hp} (a:Same H H1) (b:Same H1 H2):Same H H2:=fun c o h=>b c o (a c o h)
theorem Same.free {H H':Hp}(e:Same H H'){l:Addr}(h:H' l=Option.none):H l=Option.none:=by
 cases q:H l with
 | none=>rfl
 | some o=>
   rw[e l o q] at h
   cases h
theorem Same.seq {K:PySem.W.Frag}{H H':Hp}{a:Addr}{xs:List V}(e:Same H H')(h:SqL K H a xs):SqL K H' a xs:=by
 rcases h with (h | ⟨o,h⟩) | h
 . exact .inl (.inl (e _ _ h))
 . exact .inl (.inr ⟨o,e _ _ h⟩)
 exact .inr h
section
variable {X:Cx}
theorem Tf:CallR X (.builtin "len") (fun xs H Q=>∃ a kvs,xs=[V.ref a]/\H a=some (.dK kvs)/\Q (.int kvs.length) H):=by
 intro pins s σ H xs us Q I r h
 obtain⟨a,kvs,rfl,ha,q⟩:=h
 obtain⟨u,rfl,ru⟩:=G5 r
 cases ru
 exact ao1 I (.inl ha) fun t s' I'=>⟨.int kvs.length,H,I',⟨t,rfl⟩,q⟩
end
section
variable {κ:Type}[DecidableEq κ]
theorem Vb {kvs:List (κ×V)}{k:κ}(h:D3 kvs k=none):¬ k∈kvs.map (·.1):=by
 intro m
 obtain⟨p,hp,e⟩:=List.mem_map.mp m
 have q:(kvs.any fun kv=>decide (kv.1=k))=true:=List.any_eq_true.mpr ⟨p,hp,decide_eq_true e⟩
 rw [Es,h] at q
 exact absurd q (by simp)
theorem Sy:∀ {l:List κ} {k:κ},l.Nodup->¬ k∈l->(l++[k]).Nodup
 | [],k,_,_=>by simp
 | a :: r,k,h,hk=>by
   obtain⟨h1,h2⟩:=List.nodup_cons.mp h
   show(a :: (r++[k])).Nodup
   refine List.nodup_cons.mpr ⟨fun m=>?_,Sy h2 fun m=>hk (List.mem_cons.mpr (Or.inr m))⟩
   rcases List.mem_append.mp m with q | q
   . exact h1 q
   exact hk (List.mem_cons.mpr (Or.inl (List.mem_singleton.mp q).symm))
theorem Yu {kvs:List (κ×V)}{k:κ}(v:V)(hn:(kvs.map (·.1)).Nodup)(h:D3 kvs k=none):((Db kvs k v).map (·.1)).Nodup:=by
 rw[Iu v h,List.map_append]
 exact Sy hn (Vb h)
end
def Hw (env:Env)(names:List (Str×NameKind))(acc:List (Str×Addr)):List (Str×Addr):=
 names.foldl (fun acc y=>if y.2==NameKind.free then(y.1,(env.cells.lookup y.1).getD 0) :: acc else acc) acc
theorem Kt {env:Env}{scope:Scope}(h:∀ y∈scope.names,y.2=NameKind.free->∃ c,env.cells.lookup y.1=some c):closureFor scope env=pure (Hw env scope.names []):=by
 have all:∀(names:List (Str×NameKind)) (acc:List (Str×Addr)),(∀ y∈names,y.2=NameKind.free->∃ c,env.cells.lookup y.1=some c) ->
   (forIn names acc fun(y:Str×NameKind) (cs:List (Str×Addr))=>(match y with
    | (name,kind)=>if(kind==NameKind.free)=true then do let c <- cellOf env name;pure (ForInStep.yield ((name,c) :: cs)) else pure (ForInStep.yield cs):Sem (ForInStep (List (Str×Addr)))))=(pure (Hw env names acc):Sem (List (Str×Addr))):=by
  intro names
  induction names with
  | nil=>intro acc _;rfl
  | cons y r ih=>
    intro acc hy
    obtain⟨n,k⟩:=y
    rw[List.forIn_cons]
    by_cases hk:k=NameKind.free
    . subst hk
      obtain⟨c,hc⟩:=hy (n,.free) List.mem_cons_self rfl
      have e:cellOf env n=pure c:=by unfold cellOf;rw[show env.cells.lookup n=some c from hc]
      have e2:Hw env ((n,NameKind.free) :: r) acc=Hw env r ((n,c) :: acc):=by
       unfold Hw
       rw[List.foldl_cons]
       simp only[beq_self_eq_true,if_true]
       rw[show env.cells.lookup n=some c from hc]
       rfl
      rw[e2,<- ih ((n,c) :: acc) fun z hz=>hy z (List.mem_cons_of_mem _ hz)]
      simp only[beq_self_eq_true,if_true,e]
      rfl
    have hb:(k==NameKind.free)=false:=by simpa using hk
    have e2:Hw env ((n,k) :: r) acc=Hw env r acc:=by
     unfold Hw
     rw[List.foldl_cons]
     simp only[hb,Bool.false_eq_true,if_false]
    rw[e2,<- ih acc fun z hz=>hy z (List.mem_cons_of_mem _ hz)]
    simp only[hb,Bool.false_eq_true,if_false]
    rfl
 have q:=all scope.names [] h
 unfold closureFor
 first
  | exact q
  | (simp only[bind_pure];exact q)
  | (refine Eq.trans ?_ q;rfl)
theorem Qe {env:Env}{x:Str}{c:Addr}:∀ {names:List (Str×NameKind)} {acc:List (Str×Addr)},(∀ y∈names,y.2=NameKind.free->∃ c,env.cells.lookup y.1=some c)->(acc.lookup x=some c->env.cells.lookup x=some c) ->
  (Hw env names acc).lookup x=some c->env.cells.lookup x=some c
 | [],acc,_,ha,h=>ha h
 | (n,k) :: r,acc,hn,ha,h=>by
   have e:Hw env ((n,k) :: r) acc=Hw env r (if k==NameKind.free then(n,(env.cells.lookup n).getD 0) :: acc else acc):=rfl
   rw[e] at h
   refine Qe (fun y hy=>hn y (List.mem_cons_of_mem _ hy)) (fun q=>?_) h
   by_cases hk:k=NameKind.free
   . subst hk
     simp only[beq_self_eq_true,if_true,List.lookup_cons] at q
     obtain⟨d,hd⟩:=hn (n,.free) List.mem_cons_self rfl
     have hd':env.cells.lookup n=some d:=hd
     split at q
     . rename_i hx
       have hx':x=n:=beq_iff_eq.mp hx
       rw[hd'] at q
       rw[hx',hd']
       exact q
     exact ha q
   have hb:(k==NameKind.free)=false:=by simpa using hk
   simp only[hb,Bool.false_eq_true,if_false] at q
   exact ha q
theorem Li {env:Env}{x:Str}:∀ {names:List (Str×NameKind)} {acc:List (Str×Addr)},((∃ c,acc.lookup x=some c)\/(x,NameKind.free)∈names)->∃ c,(Hw env names acc).lookup x=some c
 | [],acc,h=>by
   rcases h with h | h
   . exact h
   cases h
 | (n,k) :: r,acc,h=>by
   have e:Hw env ((n,k) :: r) acc=Hw env r (if k==NameKind.free then(n,(env.cells.lookup n).getD 0) :: acc else acc):=rfl
   rw[e]
   refine Li ?_
   by_cases hk:k=NameKind.free
   . subst hk
     simp only[beq_self_eq_true,if_true,List.lookup_cons]
     by_cases hx:x=n
     . left
       have hb:(x==n)=true:=beq_iff_eq.mpr hx
       rw[hb]
       exact⟨_,rfl⟩
     have hb:(x==n)=false:=beq_eq_false_iff_ne.mpr hx
     rw[hb]
     rcases h with h | h
     . exact .inl h
     rcases List.mem_cons.mp h with q | q
     . cases q;exact absurd rfl hx
     exact .inr q
   have hb:(k==NameKind.free)=false:=by simpa using hk
   simp only[hb,Bool.false_eq_true,if_false]
   rcases h with h | h
   . exact .inl h
   rcases List.mem_cons.mp h with q | q
   . cases q;exact absurd rfl hk
   exact .inr q
theorem Ce:∀(names:List (Str×NameKind)) (n:Nat) (acc:List (Str×Addr)),cellsFrom n names acc=cellsFrom n names []++acc
 | [],_,_=>rfl
 | (x,k) :: r,n,acc=>by
   unfold cellsFrom
   split
   . rw[Ce r (n+1) ((x,n) :: acc),Ce r (n+1) [(x,n)],List.append_assoc]
     rfl
   exact Ce r n acc
theorem Hg {x:Str}{c:Addr}:∀ {names:List (Str×NameKind)} {n:Nat},(x,c)∈cellsFrom n names []->(x,NameKind.cell)∈names
 | [],_,h=>by cases h
 | (y,k) :: r,n,h=>by
   unfold cellsFrom at h
   split at h
   . rename_i hk
     rw[Ce] at h
     rcases List.mem_append.mp h with h | h
     . exact List.mem_cons_of_mem _ (Hg h)
     have e:=List.mem_singleton.mp h
     cases e
     rw[beq_iff_eq.mp hk]
     exact List.mem_cons_self
   exact List.mem_cons_of_mem _ (Hg h)
theorem Ji {α:Type}{x:Str}{c:α}:∀ {l:List (Str×α)},(x,c)∈l->∃ d,l.lookup x=some d
 | [],h=>by cases h
 | (y, d) :: r,h=>by
   rw[List.lookup_cons]
   cases e:x==y with
   | true=>exact⟨d,rfl⟩
   | false=>
     rcases List.mem_cons.mp h with q | q
     . cases q
       simp at e
     exact Ji q
theorem Gb {x:Str}:∀ {names:List (Str×NameKind)} {n:Nat},(x,NameKind.cell)∈names->∃ c,(x,c)∈cellsFrom n names []
 | [],_,h=>by cases h
 | (y,k) :: r,n,h=>by
   unfold cellsFrom
   split
   . rw[Ce]
     rcases List.mem_cons.mp h with q | q
     . cases q
       exact⟨n,List.mem_append_right _ (by simp)⟩
     obtain⟨c,hc⟩:=Gb (n:=n+1) q
     exact⟨c,List.mem_append_left _ hc⟩
   rename_i hk
   rcases List.mem_cons.mp h with q | q
   . cases q
     exact absurd rfl hk
   exact Gb q
def Q6 (outer scope:Scope)(xs fr:List Str):Bool:=
 (scope.kind == .function)&&(outer.kind == .function)&&decide (scope.names.map (·.1)).Nodup
 && (scope.names.all fun y=>y.2 != .local||scope.names.lookup y.1==some .local)
 && (scope.names.all fun y=>y.2 != .free||(outer.names.lookup y.1==some .cell||outer.names.lookup y.1==some .free))
 && (scope.names.all fun y=>y.2 != .free||scope.names.lookup y.1==some .free)
 && (xs.all fun x=>scope.names.lookup x==some .local||scope.names.lookup x==some .cell)&&(fr.all fun x=>scope.names.lookup x==some .free)&&decide (xs++fr).Nodup
theorem Cb {α:Type}{x:Str}{v:α}:∀ {l:List (Str×α)},l.lookup x=some v->(x,v)∈l
 | [],h=>by cases h
 | (n,k) :: r,h=>by
   rw[List.lookup_cons] at h
   split at h
   . rename_i hx
     have hx':x=n:=beq_iff_eq.mp hx
     cases h
     rw[hx']
     exact List.mem_cons_self
   exact List.mem_cons_of_mem _ (Cb h)
theorem Ft {scope:Scope}{env:Env}{x:Str}{k:NameKind}(hk:env.scope.kind = .function):∀ {names:List (Str×NameKind)},names.lookup x=some k ->
  (names.map fun(n,k)=>if(k==NameKind.free&&env.scope.kind == .function&&env.kindOf n==some .cell) then(n,NameKind.cell) else(n,k)).lookup x=some (if(k==NameKind.free&&env.kindOf x==some .cell) then .cell else k)
 | [],h=>by cases h
 | (n,j) :: r,h=>by
   have ih:=@Ft scope env x k hk r
   rw[List.map_cons]
   rw[List.lookup_cons] at h
   dsimp only
   split at h
   . rename_i hx
     have hx':x=n:=beq_iff_eq.mp hx
     cases h
     subst hx'
     by_cases hc:(k==NameKind.free&&env.scope.kind == .function&&env.kindOf x==some .cell)=true
     . have hc2:(k==NameKind.free&&env.kindOf x==some .cell)=true:=by
        rw[Bool.and_eq_true,Bool.and_eq_true] at hc
        rw[Bool.and_eq_true]
        exact⟨hc.1.1,hc.2⟩
       rw[if_pos hc,if_pos hc2,List.lookup_cons,beq_self_eq_true]
     have hc2:¬ (k==NameKind.free&&env.kindOf x==some .cell)=true:=fun q=>hc (by
      rw[Bool.and_eq_true] at q
      rw[Bool.and_eq_true,Bool.and_eq_true,hk]
      exact⟨⟨q.1,rfl⟩,q.2⟩)
     rw[if_neg hc,if_neg hc2,List.lookup_cons,beq_self_eq_true]
   rename_i hx
   have hx':(x==n)=false:=by simpa using hx
   by_cases hc:(j==NameKind.free&&env.scope.kind == .function&&env.kindOf n==some .cell)=true
   . rw[if_pos hc,List.lookup_cons,hx']
     exact ih h
   rw[if_neg hc,List.lookup_cons,hx']
   exact ih h
theorem E9 {env:Env} {x:Str} {k:NameKind}:∀ {names:List (Str×NameKind)},
  (names.map fun(n,k)=>if(k==NameKind.free&&env.scope.kind == .function&&env.kindOf n==some .cell) then(n,NameKind.cell) else(n,k)).lookup x=some k ->
  ∃ j,names.lookup x=some j/\(k=j\/(j = .free/\k = .cell))
 | [],h=>by cases h
 | (n,j) :: r,h=>by
   have ih:=@E9 env x k r
   rw[List.map_cons] at h
   dsimp only at h
   by_cases hc:(j==NameKind.free&&env.scope.kind == .function&&env.kindOf n==some .cell)=true
   . rw[if_pos hc,List.lookup_cons] at h
     have hj:j = .free:=by
      rw[Bool.and_eq_true,Bool.and_eq_true] at hc
      exact beq_iff_eq.mp hc.1.1
     rw[List.lookup_cons]
     split at h
     . rename_i hx
       cases h
       exact⟨j,rfl,.inr ⟨hj,rfl⟩⟩
     rename_i hx
     have hx':(x==n)=false:=by simpa using hx
     exact ih h
   rw[if_neg hc,List.lookup_cons] at h
   rw[List.lookup_cons]
   split at h
   . rename_i hx
     cases h
     exact⟨_,rfl,.inl rfl⟩
   rename_i hx
   have hx':(x==n)=false:=by simpa using hx
   exact ih h
structure CompS (X:Cx)(scope:Scope)(xs fr:List Str):Prop where
 kind:scope.kind = .function
 okind:X.env.scope.kind = .function
 uniq:(scope.names.map (·.1)).Nodup
 names:∀ y∈scope.names,y.2 = .local->scope.names.lookup y.1=some .local
 free:∀ y∈scope.names,y.2 = .free->X.env.kindOf y.1=some .cell\/X.env.kindOf y.1=some .free
 own:∀ x∈xs,scope.names.lookup x=some .local\/scope.names.lookup x=some .cell
 fre:∀ x∈fr,scope.names.lookup x=some .free
 nd:(xs++fr).Nodup
theorem Pz {X:Cx}{scope:Scope}{xs fr:List Str}(h:Q6 X.env.scope scope xs fr=true):CompS X scope xs fr:=by
 unfold Q6 at h
 simp only[Bool.and_eq_true,List.all_eq_true,bne_iff_ne,Bool.or_eq_true,beq_iff_eq,decide_eq_true_eq] at h
 obtain⟨⟨⟨⟨⟨⟨⟨⟨h1,h2⟩,h3⟩,h4⟩,h5⟩,h6⟩,h7⟩,h8⟩,h9⟩:=h
 exact⟨h1,h2,h3,fun y hy e=>(h4 y hy).resolve_left (fun q=>q e),fun y hy e=>(h5 y hy).resolve_left (fun q=>q e),h7,h8,h9⟩
def M5 (σ:St)(js:List Nat):St:=js.map fun j=>(σ[j]?).getD none
abbrev cxC (X:Cx)(scope:Scope)(xs fr:List Str)(C:Addr)(ex:List Addr)(s₀:Shared)(H₀:Hp):Cx:=
 { X with N:=xs++fr,env:=compEnvC scope (cellsFrom (C+1) scope.names (Hw X.env scope.names [])) C X.env,s₀:=s₀,H₀:=H₀,outer:=X.stack,ex:=ex,fn:=fun x=>scope.names.lookup x==some .cell,pn:=[],xe:=fun _ _=>False }
section
variable {X:Cx}{scope:Scope}{xs fr:List Str}{pins:List (Addr×Obj)}{σ:St}{H:Hp}{s:Shared}{js:List Nat}{fp:List Addr}
theorem Mg {α:Type}{x:Str}{v:α}:∀ {l:List (Str×α)},(l.map (·.1)).Nodup->(x,v)∈l->l.lookup x=some v
 | [],_,h=>by cases h
 | (y,d) :: r,hn,h=>by
   obtain⟨h1,h2⟩:=List.nodup_cons.mp hn
   rw[List.lookup_cons]
   rcases List.mem_cons.mp h with q | q
   . cases q
     rw[beq_self_eq_true]
   have hne:(x==y)=false:=beq_eq_false_iff_ne.mpr fun e=>h1 (e ▸ List.mem_map.mpr ⟨(x,v),q,rfl⟩)
   rw[hne]
   exact Mg h2 q
theorem CompS.cells (S:CompS X scope xs fr)(ok:X.Ok):∀ y∈scope.names,y.2=NameKind.free->∃ c,X.env.cells.lookup y.1=some c:=fun y hy e=>ok.has _ (S.free y hy e)
theorem Wh (S:CompS X scope xs fr)(hjs:js.map (fun j=>X.N[j]?)=fr.map some)(I:Inv X pins σ H s)(hfp:∀ b∈fp,R4 X pins H b)(hob:∀ b∈fp,∃ o,s.heap.get? b=some o){h':Heap}{t':Nat}
  (hn:h'.Ns s.heap.objs.size fun _=>none) (keep:∀ b o,s.heap.get? b=some o->h'.get? b=some o) (hcs:CellsOk h' (s.heap.objs.size+1) (cellsFrom (s.heap.objs.size+1) scope.names [])) :
  Inv (cxC X scope xs fr s.heap.objs.size fp s H) [] (List.replicate xs.length none++M5 σ js) H { s with heap:=h',toks:=t' }:=by
 have hcl:=S.cells I.ok
 have sub:∀ x c,(Hw X.env scope.names []).lookup x=some c->X.env.cells.lookup x=some c:=fun x c h=>Qe hcl (fun q=>by cases q) h
 have hl:js.length=fr.length:=by have:=congrArg List.length hjs;rwa[List.length_map,List.length_map] at this
 have two:∀ x c,(cellsFrom (s.heap.objs.size+1) scope.names (Hw X.env scope.names [])).lookup x=some c->(x,c)∈cellsFrom (s.heap.objs.size+1) scope.names []\/(Hw X.env scope.names []).lookup x=some c:=fun x c h=>by
  rw[Ce,List.lookup_append] at h
  cases e:(cellsFrom (s.heap.objs.size+1) scope.names []).lookup x with
  | some d=>
    rw[e] at h
    cases h
    exact .inl (Cb e)
  | none=>
    rw[e] at h
    exact .inr h
 have oldc:∀ x c,X.env.cells.lookup x=some c->c<s.heap.objs.size:=fun x c h=>let ⟨_,_,ho,_⟩:=I.cell x c h;Heap.lt_size ho
 have newc:∀ x c,(x,c)∈cellsFrom (s.heap.objs.size+1) scope.names []->s.heap.objs.size<c:=fun x c h=>(hcs.empty x c h).2
 refine⟨⟨I.ok.mod,S.kind,I.ok.glob,I.ok.blt,Nat.le_refl _,fun x y c h1 h2=>?_,fun x hx=>?_,fun x c hf h=>?_,I.ok.hd,I.ok.frames,.inl rfl,fun b hb=>?_,fun b o e=>I.bs b o e,Nat.le_trans I.ok.bsz I.sz,fun b o e hb=>?_,fun b hb hb2=>?_,I.stack,I.stkFree⟩,
  rfl,I.bare,Un.kept keep,⟨_,hn,fun i x v e1 e2 e3=>?_⟩,fun x c h=>?_,I.hok.fresh (Nat.le_refl _),fun x c h=>?_,fun p hp=>absurd (show p∈([]:List (Addr×Obj)) from hp) (by simp),I.hok.kept keep,?_⟩
 . rcases two x c h1 with g1 | g1
   . rcases two y c h2 with g2 | g2
     . exact name_of_addr hcs.apart g1 g2
     exact absurd (oldc y c (sub y c g2)) (Nat.not_lt.mpr (Nat.le_of_lt (newc x c g1)))
   rcases two y c h2 with g2 | g2
   . exact absurd (oldc x c (sub x c g1)) (Nat.not_lt.mpr (Nat.le_of_lt (newc y c g2)))
   exact I.ok.inj x y c (sub x c g1) (sub y c g2)
 . -- the names that are cells there have one
   have hx:(relabel scope X.env).names.lookup x=some .cell\/(relabel scope X.env).names.lookup x=some .free:=hx
   have app:∀ c,(Hw X.env scope.names []).lookup x=some c\/(x,c)∈cellsFrom (s.heap.objs.size+1) scope.names []->∃ c,(cellsFrom (s.heap.objs.size+1) scope.names (Hw X.env scope.names [])).lookup x=some c:=fun c h=>by
    rw[Ce,List.lookup_append]
    rcases h with h | h
    . cases (cellsFrom (s.heap.objs.size+1) scope.names []).lookup x with
      | some d=>exact⟨d,rfl⟩
      | none=>exact⟨c,h⟩
    obtain⟨d,hd⟩:=Ji h
    rw[hd]
    exact⟨d,rfl⟩
   have go:∀ k,(relabel scope X.env).names.lookup x=some k->(k = .cell\/k = .free)->∃ c,(cellsFrom (s.heap.objs.size+1) scope.names (Hw X.env scope.names [])).lookup x=some c:=fun k e hk=>by
    obtain⟨j,hj,q⟩:=E9 (env:=X.env) (names:=scope.names) e
    have hm:=Cb hj
    have hjf:j = .free\/j = .cell:=by
     rcases q with q | q
     . rcases hk with hk | hk
       . exact .inr (q ▸ hk)
       exact .inl (q ▸ hk)
     exact .inl q.1
    rcases hjf with hjf | hjf
    . subst hjf
      obtain⟨c,hc⟩:=Li (env:=X.env) (x:=x) (names:=scope.names) (acc:=[]) (.inr hm)
      exact app c (.inl hc)
    subst hjf
    obtain⟨c,hc⟩:=Gb (n:=s.heap.objs.size+1) hm
    exact app c (.inr hc)
   rcases hx with hx | hx
   . exact go _ hx (.inl rfl)
   exact go _ hx (.inr rfl)
 . rcases two x c h with g | g
   . exact Nat.le_of_lt (newc x c g)
   have hf':scope.names.lookup x=some .cell:=by simpa using hf
   obtain⟨d,hd⟩:=Gb (n:=s.heap.objs.size+1) (Cb hf')
   have h':=h
   obtain⟨e,he⟩:=Ji hd
   have h':(cellsFrom (s.heap.objs.size+1) scope.names (Hw X.env scope.names [])).lookup x=some c:=h
   rw[Ce,List.lookup_append,he] at h'
   cases h'
   exact Nat.le_of_lt (newc x _ (Cb he))
 . obtain⟨f0,f1,f2,f3,f4,f5⟩:=hfp b hb
   obtain⟨o,ho⟩:=hob b hb
   refine⟨Nat.ne_of_lt (Heap.lt_size ho),fun x c h z=>?_⟩
   rcases two x c h with g | g
   . have h1:=newc x c g
     have h2:=Heap.lt_size ho
     rw[<- z] at h2
     exact absurd h1 (Nat.not_lt.mpr (Nat.le_of_lt h2))
   exact f4 x c (sub x c g) z
 . obtain⟨f0,f1,f2,f3,f4,f5⟩:=hfp b hb
   rcases f3 with f3 | f3
   . exact I.ok.noex b o e f3
   exact absurd (Nat.lt_of_lt_of_le (Heap.lt_size (I.ok.bs b o e).1) f3) (Nat.lt_irrefl _)
 . obtain⟨f0,f1,f2,f3,f4,f5⟩:=hfp b hb
   rcases List.mem_cons.mp (I.stkSub b hb2) with z | z
   . exact f1 z
   exact f2 z
 . have e1:(xs++fr)[i]? = some x:=e1
   by_cases hi:i<xs.length
   . rw[List.getElem?_append_left (by rw[List.length_replicate];exact hi),List.getElem?_replicate,if_pos hi] at e2
     cases e2
   have hi':xs.length<=i:=Nat.le_of_not_lt hi
   rw[List.getElem?_append_right hi'] at e1
   rw[List.getElem?_append_right (by rw[List.length_replicate];exact hi'),List.length_replicate] at e2
   unfold M5 at e2
   rw[List.getElem?_map] at e2
   cases ej:js[i-xs.length]? with
   | none=>rw[ej] at e2;cases e2
   | some j=>
     rw[ej] at e2
     have e2':(σ[j]?).getD none=some v:=Option.some.inj e2
     have e4:σ[j]? = some (some v):=by
      cases q:σ[j]? with
      | none=>rw[q] at e2';cases e2'
      | some o=>rw[q] at e2';rw[show o=some v from e2']
     have e5:X.N[j]? = some x:=by
      have:=congrArg (fun l=>l[i-xs.length]?) hjs
      rw[List.getElem?_map,List.getElem?_map,ej,e1] at this
      exact Option.some.inj this
     have hf:=S.fre x (List.mem_of_getElem? e1)
     have hk:=S.free _ (Cb hf) rfl
     obtain⟨m,hm,hl'⟩:=I.loc
     obtain⟨u,r,lk⟩:=hl' j x v e5 e4 (.inr hk)
     refine⟨u,r,.inr ⟨?_,?_⟩⟩
     . have q:=Ft (scope:=scope) (env:=X.env) S.okind hf
       show(relabel scope X.env).names.lookup x=some .cell\/(relabel scope X.env).names.lookup x=some .free
       have q':(relabel scope X.env).names.lookup x=some (if(NameKind.free==NameKind.free&&X.env.kindOf x==some .cell) then .cell else .free):=q
       by_cases hc:(NameKind.free==NameKind.free&&X.env.kindOf x==some .cell)=true
       . rw[if_pos hc] at q';exact .inl q'
       rw[if_neg hc] at q';exact .inr q'
     obtain⟨c',hc'⟩:=Li (env:=X.env) (x:=x) (names:=scope.names) (acc:=[]) (.inr (Cb hf))
     rcases lk with ⟨z,_⟩ | ⟨_,c,hc,ob,ho,hd⟩
     . rcases hk with hk | hk
       . rw[z] at hk;cases hk
       rw[z] at hk;cases hk
     have e6:c=c':=by
      have:=sub x c' hc'
      rw[hc] at this
      exact Option.some.inj this
     subst e6
     refine⟨_,?_,ob,keep _ _ ho,hd⟩
     show(cellsFrom (s.heap.objs.size+1) scope.names (Hw X.env scope.names [])).lookup x=some c
     rw [Ce,List.lookup_append]
     have none':(cellsFrom (s.heap.objs.size+1) scope.names []).lookup x=none:=by
      cases e:(cellsFrom (s.heap.objs.size+1) scope.names []).lookup x with
      | none=>rfl
      | some d=>
        have:=Mg S.uniq (Hg (Cb e))
        rw[hf] at this
        cases this
     rw[none']
     exact hc'
 . rcases two x c h with g | g
   . exact⟨_,(hcs.empty x c g).1⟩
   obtain⟨v,ob,ho,hd⟩:=I.cell x c (sub x c g)
   exact⟨v,ob,keep _ _ ho,hd⟩
 . rcases two x c h with g | g
   . exact I.hok.fresh (Nat.le_of_lt (newc x c g))
   exact I.freeC x c (sub x c g)
 show _=(xs++fr).length
 unfold M5
 rw[List.length_append,List.length_append,List.length_replicate,List.length_map,hl]
theorem Sm {M:Model}{A:Around}{E:Value->Shared->Prop}{s:Shared}{scope:Scope}{globals:Addr}{cl:List (Str×Addr)}{qual:Str}{env:Env}{Q:Env->Shared->Prop}
  (hQ:∀ h',h'.Ns s.heap.objs.size (fun _=>none)->(∀ b o,s.heap.get? b=some o->h'.get? b=some o)->CellsOk h' (s.heap.objs.size+1) (cellsFrom (s.heap.objs.size+1) scope.names []) ->
   Q (newEnv scope s.heap.objs.size globals (cellsFrom (s.heap.objs.size+1) scope.names cl) qual none .none (some env) builtinsNs) { s with heap:=h' }) :
  wpAny M A (newFunctionEnv scope globals cl [] qual none .none (some env)) Q E s:=by
 simp only[newFunctionEnv,Option.isSome_some,if_true]
 refine wpAny_bind (wpAny_alloc ?_)
 refine wpAny_bind (wpAny_layCells _ (fun name kind cells=>by cases hkc:kind==NameKind.cell<;>simp[hkc]) _ _ _ _ ?_)
 have okc:=cellsFrom_ok scope.names (s.heap.push { cls:=.type "dict",data:=.dict #[] }) (s.heap.objs.size+1) [] ⟨fun _ _ hm=>(nomatch hm),List.Pairwise.nil⟩ (by rw[Heap.size_push];exact Nat.le_refl _)
 rw[Heap.size_push] at okc
 rw[show({ s with heap:=s.heap.push { cls:=.type "dict",data:=.dict #[] } }:Shared).heap.objs.size=s.heap.objs.size+1 from Heap.size_push ..]
 rw[List.forIn_nil]
 exact wpAny_bind (wpAny_pure (wpAny_pure (hQ _ ((Heap.Ns.new s.heap (.type "dict")).keeps (pushCells_keeps _ _)) (fun b o e=>pushCells_keeps _ _ b o (Heap.get?_push_of_some _ e)) okc)))
theorem T7 {σ':St}{H':Hp}{s':Shared}{h'':Heap}(I:Inv X pins σ H s)(hfp:∀ b∈fp,R4 X pins H b)(J:Inv (cxC X scope xs fr s.heap.objs.size fp s H) [] σ' H' s')(hs:Heap.SameBut s.heap.objs.size s'.heap h'') :
  Inv X pins σ H' { s' with heap:=h'' }:=by
 have old:∀ b o,s.heap.get? b=some o->b≠s.heap.objs.size:=fun b o e=>Nat.ne_of_lt (Heap.lt_size e)
 have ub:Un (frs X.stack) fp H H' s.heap s'.heap:=J.base
 refine I.call' (s':={ s' with heap:=h'' }) (ch:=fp) J.os ⟨fun b o e n hb hx=>(hs.2 b (old b o e)).trans (ub.keep b o e n hb hx),fun b o e n hb hx=>?_,ub.free,fun b o e hx=>?_,ub.tups,ub.frzs,ub.tbls⟩ (fun b o e=>?_) J.bare fun b hb=>?_
 . obtain⟨sl,e1⟩:=ub.slot b o e n hb hx
   exact⟨sl,(hs.2 b (old b o e)).trans e1⟩
 . obtain⟨o',e1⟩:=ub.there b o e hx
   exact⟨o',(hs.2 b (old b o e)).trans e1⟩
 . have hf:H' s.heap.objs.size=none:=J.free
   refine(J.hok b o e).stay (fun c v hc q=>(hs.2 c ?_).trans q) (fun _ q=>q) fun _ _ q=>q
   intro z
   rcases hc with hc | hc
   . rw[<- hc,z,hf] at e;cases e
   rw[z,hf] at hc;cases hc
 obtain⟨f0,f1,f2,f3,f4,f5⟩:=hfp b hb
 exact⟨f3,f1,f4,f5⟩
def PIf (X:Cx)(ifs:List Expr)(t:TT):Prop:=
 ∀(pins:List (Addr×Obj)) (s:Shared) (σ:St) (H:Hp) (Q:Bool->Hp->Prop) (E:Value->Shared->Prop),(∀ e s',X.xe e s'->E e s')->Inv X pins σ H s->t σ H Q ->
  wpAny (model X.prog X.w) X.A (forIn ifs true fun c r=>if r=true then do let ok <- isTrue c X.env (eval c X.env);pure (ForInStep.yield ok) else pure (ForInStep.yield r)) (TP X pins σ Q) E s
def Vw:TT:=fun _ H Q=>Q true H
theorem Cp:PIf X [] Vw:=fun _ _ _ H _ _ _ I h=>wpAny_tests_nil ⟨H,I,h⟩
theorem Er {c:Expr}{t:TT}(hc:PT X c t):PIf X [c] t:=fun pins s σ H Q _ hE I h=>wpAny_tests_one (wpAny_mono (hc pins s σ H Q I h) (fun _ _ z=>z) hE)
def Zc (k:Nat)(js:List Nat)(wi:TI)(g:TG)(tt:TT)(te:TE):TE:=fun σ H Q=>wi σ H fun J H1=>∀ p,H1 p=none ->
 ∃ W:Nat->Nat->Hp->Prop,(∃ m,W 0 m (upd H1 p (.lst [])))/\∀ i m H,W i m H ->
  (J.stop i H/\Q (.ref p) H)\/(J.go i H/\∃ N:Hp->Prop,(∀ H',N H'->∃ m',m'<m/\W (i+1) m' H') /\
   ∀ x H',J.yld i H x H'->g x (List.replicate k none++M5 σ js) H' fun σ2 H2=>tt σ2 H2 fun b H3=>
    if b=true then te σ2 H3 fun y H4=>∃ acc,H4 p=some (.lst acc)/\acc.length<sizeLine/\N (upd H4 p (.lst (acc++[y]))) else N H3)
theorem S6 {tg elt iter:Expr}{ifs:List Expr}{pos:Pos}{it acc:Value}{env:Env}{A:Around}{R:Result->Shared->Prop}{s:Shared}{P:Program}{w:World}(I:Nat->Shared->Prop)
  (turn:∀ n s,I n s->wpAny (model P w) A (pyNext it) (fun r s₁=>match r with
   | none=>R (.ok .next) s₁
   | some v=>wpAny (model P w) A (letOwnedTupleGo tg it v) (fun _ s₁'=>wpAny (model P w) A (assign tg env v) (fun _ s₂=>
     wpAny (model P w) A (forIn ifs true fun c r=>if r=true then do let ok <- isTrue c env (eval c env);pure (ForInStep.yield ok) else pure (ForInStep.yield r)) (fun ok s₃=>
      if ok=true then wpAny (model P w) A (eval elt env) (fun x s₄=>
       wpAny (model P w) A (call (.builtin "list.append") [acc,x]) (fun _ s₅=>∃ m,m<n/\I m s₅) (fun _ _=>False) s₄) (fun _ _=>False) s₃
      else ∃ m,m<n/\I m s₃) (fun _ _=>False) s₂) (fun _ _=>False) s₁') (fun _ _=>False) s₁) (fun _ _=>False) s)
  (n:Nat) (h:I n s):codeAny (model P w) A (.compLoop (.ListComp elt [⟨tg,iter,ifs,0⟩] scope pos) 0 it acc env) R s:=by
 refine codeAny_loop rfl I (fun n s hI=>?_) n h
 show wpAny _ A ((compTurn (.ListComp elt [⟨tg,iter,ifs,0⟩] scope pos) 0 it acc env).onRaise (fun x=>do noteFrame x env;theTreesLotGoes x)) _ _ s
 refine wpAny_noted ?_
 rw [compTurn_list]
 refine wpAny_bind (wpAny_standAt (wpAny_bind (wpAny_mono (turn n s hI) (fun r s₁ h₁=>?_) fun _ _ h'=>h'.elim)))
 cases r with
 | none=>exact wpAny_pure h₁
 | some v=>
   refine wpAny_bind (wpAny_mono h₁ (fun _ s₁' h₁'=>?_) fun _ _ h'=>h'.elim)
   refine wpAny_bind (wpAny_mono h₁' (fun _ s₂ h₂=>wpAny_bind (wpAny_mono h₂ (fun ok s₃ h₃=>?_) fun _ _ h'=>h'.elim)) fun _ _ h'=>h'.elim)
   cases ok with
   | false=>exact wpAny_pure ⟨rfl,h₃⟩
   | true=>
     exact wpAny_bind (wpAny_bind (wpAny_mono h₃ (fun x s₄ h₄=>wpAny_bind (wpAny_mono h₄ (fun _ s₅ h₅=>wpAny_pure (wpAny_pure ⟨rfl,h₅⟩)) fun _ _ h'=>h'.elim)) fun _ _ h'=>h'.elim))
def Vn (n:Nat)(g:TG):Prop:=∀ x σ H Q,g x σ H Q->g x σ H fun σ' H'=>(∀ k,n<=k->σ'[k]? = σ[k]?)/\Q σ' H'
theorem B7 {n i:Nat}(h:i<n):Vn n (Nc i):=fun x σ H Q q=>⟨fun k hk=>List.getElem?_set_ne (by omega),q⟩
theorem Q3 {tg elt iter:Expr}{ifs:List Expr}{pos:Pos}{g:TG}{tt:TT}{te:TE}(hc:X.calm=true)(S:CompS X scope xs fr)(hjs:js.map (fun j=>X.N[j]?)=fr.map some)
  (hg:∀ C ex s₀ H₀,PG (cxC X scope xs fr C ex s₀ H₀) tg g) (hk:Vn xs.length g) (hi:∀ C ex s₀ H₀,PIf (cxC X scope xs fr C ex s₀ H₀) ifs tt) (he:∀ C ex s₀ H₀,PE (cxC X scope xs fr C ex s₀ H₀) elt te)
  {s2:Shared} {H1:Hp} {R:Value->Addr->Result->Shared->Prop} {Q:VK} {it:Addr} {tn:Nat->Heap->Prop} {J:It} (I:Inv X pins σ H1 s2) (T:Yq X.prog X.w X.K tg J fp it tn) (st:tn 0 s2.heap) (hfp:∀ b∈fp,R4 X pins H1 b)
  (hq:∀ p,H1 p=none->∃ W:Nat->Nat->Hp->Prop,(∃ m,W 0 m (upd H1 p (.lst [])))/\∀ i m H,W i m H ->
   (J.stop i H/\Q (.ref p) H)\/(J.go i H/\∃ N:Hp->Prop,(∀ H',N H'->∃ m',m'<m/\W (i+1) m' H') /\
    ∀ x H',J.yld i H x H'->g x (List.replicate xs.length none++M5 σ js) H' fun σ2 H2=>tt σ2 H2 fun b H3=>
     if b=true then te σ2 H3 fun y H4=>∃ acc,H4 p=some (.lst acc)/\acc.length<sizeLine/\N (upd H4 p (.lst (acc++[y]))) else N H3))
  (hR:∀(p C:Addr) (s':Shared) (H':Hp),(∃ m,s'.heap.Ns C m)->R4 X pins H' C->Inv X pins σ H' s'->Q (.ref p) H'->R (.ref p) C (.ok .next) s') :
  wpAny (model X.prog X.w) X.A (newList []) (fun acc s₃=>wpAny (model X.prog X.w) X.A (newFunctionEnv scope X.env.globals (Hw X.env scope.names []) [] X.env.qual none .none (some X.env)) (fun cenv s₄=>
   codeAny (model X.prog X.w) X.A (.compStart (.ListComp elt [⟨tg,iter,ifs,0⟩] scope pos) 0 (.ref it) acc { cenv with scope:=relabel scope X.env }) (R acc cenv.locals) s₄) X.xe s₃) X.xe s2:=by
 refine wpAny_newObj_type ?_ (by show 0<=sizeLine;exact Nat.zero_le _)
 have hn0:H1 s2.heap.objs.size=none:=I.hok.fresh (Nat.le_refl _)
 have I3:Inv X pins σ (upd H1 s2.heap.objs.size (.lst [])) { s2 with heap:=s2.heap.push { cls:=.type "list",data:=.seq ([]:List Value).toArray } }:=I.laid (t':=s2.toks) (fun b u e=>Heap.get?_push_of_some _ e) (Nat.le_refl _) ⟨Nat.zero_le _,[],0,.nil,Heap.get?_push_size _ rfl⟩
 obtain⟨W,⟨m0,w0⟩,turn⟩:=hq _ hn0
 have hob:∀ b∈fp,∃ o,s2.heap.get? b=some o:=fun b hb=>let ⟨o,e,_⟩:=T.obj _ _ st b hb;⟨o,e⟩
 have hfp3:∀ b∈fp,R4 X pins (upd H1 s2.heap.objs.size (.lst [])) b:=fun b hb=>by
  obtain⟨f0,f⟩:=hfp b hb
  obtain⟨o,e⟩:=hob b hb
  exact⟨by rw[Ap (Nat.ne_of_lt (Heap.lt_size e))];exact f0,f⟩
 have hob3:∀ b∈fp,∃ o,(s2.heap.push { cls:=.type "list",data:=.seq ([]:List Value).toArray }).get? b=some o:=fun b hb=>let ⟨o,e⟩:=hob b hb;⟨o,Heap.get?_push_of_some _ e⟩
 have st3:tn 0 (s2.heap.push { cls:=.type "list",data:=.seq ([]:List Value).toArray }):=T.keep _ _ _ st fun b _ o e=>Heap.get?_push_of_some _ e
 generalize hs3:({ s2 with heap:=s2.heap.push { cls:=.type "list",data:=.seq ([]:List Value).toArray } }:Shared)=s3 at I3 ⊢
 have st3':tn 0 s3.heap:=by rw[<- hs3];exact st3
 have hob3':∀ b∈fp,∃ o,s3.heap.get? b=some o:=by rw[<- hs3];exact hob3
 generalize hH3:upd H1 s2.heap.objs.size (.lst [])=H3 at I3 hfp3 w0
 generalize hp0:s2.heap.objs.size=p0 at turn ⊢
 refine Sm fun h₁ hns₁ hkp₁ hco₁=>?_
 have I4:=Wh (t':=s3.toks) S hjs I3 hfp3 hob3' hns₁ hkp₁ hco₁
 have st4:tn 0 h₁:=T.keep _ _ _ st3' fun b hb o e=>hkp₁ b o e
 have loop:∀ s₄:Shared,Inv (cxC X scope xs fr s3.heap.objs.size fp s3 H3) [] (List.replicate xs.length none++M5 σ js) H3 s₄->tn 0 s₄.heap ->
   codeAny (model X.prog X.w) X.A (.compLoop (.ListComp elt [⟨tg,iter,ifs,0⟩] scope pos) 0 (.ref it) (.ref p0) (compEnvC scope (cellsFrom (s3.heap.objs.size+1) scope.names (Hw X.env scope.names [])) s3.heap.objs.size X.env)) (R (.ref p0) s3.heap.objs.size) s₄:=by
  intro s₄ I4 st4
  have stat:∀ {H':Hp},(∀ b∈fp,H' b=none)->∀ b∈fp,R4 (cxC X scope xs fr s3.heap.objs.size fp s3 H3) [] H' b:=fun {H'} hn b hb=>by
   obtain⟨f0,f1,f2,f3,f4,f5⟩:=hfp3 b hb
   obtain⟨o,e⟩:=hob3' b hb
   refine⟨hn b hb,Nat.ne_of_lt (Heap.lt_size e),I4.ok.exfs b hb,.inl hb,fun x c h=>(I4.ok.exf b hb).2 x c h,fun p hp=>absurd (show p∈([]:List (Addr×Obj)) from hp) (by simp)⟩
  refine S6 (fun n s'=>∃ i H',Inv (cxC X scope xs fr s3.heap.objs.size fp s3 H3) [] (List.replicate xs.length none++M5 σ js) H' s'/\tn i s'.heap/\(∀ b∈fp,H' b=none)/\W i n H') ?_ m0 ⟨0,H3,I4,st4,fun b hb=>(hfp3 b hb).1,w0⟩
  rintro n s5 ⟨i,H5,I5,st5,fr5,w5⟩
  rcases turn i n H5 w5 with ⟨stop,qn⟩ | ⟨go,N,hN,step⟩
  . refine thn (T.done (cxC X scope xs fr s3.heap.objs.size fp s3 H3) rfl rfl rfl hc i [] s5 _ H5 (fun _ _=>False) I5 (stat fr5) st5 stop) fun r s6 ⟨hr,I6⟩=>?_
    subst hr
    obtain⟨m6,n6,_⟩:=id I6.loc
    exact hR p0 s3.heap.objs.size s6 H5 ⟨m6,n6⟩ (I3.fpOk (Nat.le_refl _) I6.free) (T7 I3 hfp3 I6 (Heap.SameBut.refl ..)) qn
  refine thn (T.item (cxC X scope xs fr s3.heap.objs.size fp s3 H3) rfl rfl rfl hc i [] s5 _ H5 (fun _ _=>False) I5 (stat fr5) st5 go) fun r s6 ⟨u,hr,h6⟩=>?_
  subst hr
  refine thn h6 fun _ s7 ⟨x,H7,I7,r7,y7,st7,fr7⟩=>?_
  have I7':=I7.pinned (stat fr7) (T.obj _ _ st7)
  refine thn (hg _ _ _ _ _ s7 _ H7 x u _ I7' r7 (hk _ _ _ _ (step x H7 y7))) fun _ s8 ⟨σ8,H8,I8,kp8,q8⟩=>?_
  have again:∀ {s9:Shared} {H9:Hp},Inv (cxC X scope xs fr s3.heap.objs.size fp s3 H3) ([]++Ng fp s7.heap) σ8 H9 s9->N H9 ->
    ∃ m,m<n/\∃ i H',Inv (cxC X scope xs fr s3.heap.objs.size fp s3 H3) [] (List.replicate xs.length none++M5 σ js) H' s9/\tn i s9.heap/\(∀ b∈fp,H' b=none)/\W i m H':=fun {s9 H9} I9 n9=>by
   obtain⟨m',hm,w9⟩:=hN H9 n9
   refine⟨m',hm,i+1,H9,I9.unpinned.weak ?_ ?_,T.keep _ _ _ st7 fun b hb o e=>(I9.pin (b,o) (List.mem_append_right _ (List.mem_append_right _ (Fm hb e)))).1,fun b hb=>?_,w9⟩
   . rw[I9.len,I5.len]
   . intro k v hkv
     by_cases hx:k<xs.length
     . rw[List.getElem?_append_left (by rw[List.length_replicate];exact hx),List.getElem?_replicate,if_pos hx] at hkv
       cases hkv
     rw[kp8 k (Nat.le_of_not_lt hx)]
     exact hkv
   obtain ⟨o,e,d⟩:=T.obj _ _ st7 b hb
   exact(I9.pin (b,o) (List.mem_append_right _ (List.mem_append_right _ (Fm hb e)))).2.1
  refine wpAny_mono (hi _ _ _ _ _ s8 σ8 H8 _ (fun _ _=>False) (fun _ _ z=>z) I8 q8) (fun ok s9 ⟨H9,I9,q9⟩=>?_) fun _ _ z=>z
  cases ok with
  | false=>
    rw[if_neg Bool.false_ne_true]
    rw[if_neg Bool.false_ne_true] at q9
    exact again I9 q9
  | true=>
    rw[if_pos rfl]
    rw[if_pos rfl] at q9
    refine thn (he _ _ _ _ _ s9 σ8 H9 _ I9 q9) fun uy s10 ⟨y,H10,I10,r10,acc,hacc,hz,n10⟩=>?_
    refine thn (Dg _ s10 σ8 H10 (.ref p0) [y] (.ref p0) [uy] (fun _ H11=>N H11) I10 rfl (.cons r10 .nil) ⟨p0,acc,y,rfl,rfl,hacc,hz,n10⟩) fun _ s11 ⟨_,H11,I11,_,n11⟩=>?_
    exact again I11 n11
 exact codeAny_compStart_list (loop _ I4 st4) (T.self _ _ _ _ _ st4 (loop _ I4 st4))
theorem Inv.letgo {C:Addr}{h'':Heap}(I:Inv X pins σ H s)(f:R4 X pins H C)(hs:Heap.SameBut C s.heap h''):Inv X pins σ H { s with heap:=h'' }:=by
 obtain⟨f0,f1,f2,f3,f4,f5⟩:=f
 exact I.turned (t':=s.toks) (fun b o hb e=>(hs.2 b hb).trans e) f0 f1 f3 f4 f5
theorem Bt {tg elt iter:Expr}{ifs:List Expr}{pos:Pos}{wi:TI}{g:TG}{tt:TT}{te:TE}(xs fr:List Str)(js:List Nat)(hc:X.calm=true)(hS:Q6 X.env.scope scope xs fr=true)(hjs:js.map (fun j=>X.N[j]?)=fr.map some)(hw:PI X tg iter wi)
  (hg:∀ C ex s₀ H₀,PG (cxC X scope xs fr C ex s₀ H₀) tg g) (hk:Vn xs.length g) (hi:∀ C ex s₀ H₀,PIf (cxC X scope xs fr C ex s₀ H₀) ifs tt) (he:∀ C ex s₀ H₀,PE (cxC X scope xs fr C ex s₀ H₀) elt te)
  (hs:∀ x,foldedSetIterable iter X.env x=pure x:=by intro _;ac_nf) :
  PE X (.ListComp elt [⟨tg,iter,ifs,0⟩] scope pos) (Zc xs.length js wi g tt te):=by
 intro pins s σ H Q I h
 have S:=Pz hS
 rw[eval_ListComp]
 refine wpAny_comprehension_free (use:=none) rfl hs (Kt (S.cells I.ok)) S.kind S.names ?_
 refine thn (hw pins s σ H _ I h) fun v s1 h1=>thn h1 fun itv s2 h2=>?_
 obtain⟨it,fp,tn,J,H2,e,I2,T,st2,f2,q2⟩:=h2
 subst e
 refine Q3 (Q:=Q) (R:=fun acc C=>compPost (model X.prog X.w) X.A X.xe none (EP X pins σ Q) acc C) hc S hjs hg hk hi he I2 T st2 f2 q2 ?_
 intro p C s' H' ⟨m,hn⟩ fC hI q
 exact⟨m,hn,fun h'' hs''=>⟨.ref p,H',hI.letgo fC hs'',rfl,q⟩⟩
theorem Fq {tg elt iter:Expr}{ifs:List Expr}{pos spos py:Pos}{wi:TI}{g:TG}{tt:TT}{te:TE}{i:Nat}{y:Str}(xs fr:List Str)(js:List Nat)(hc:X.calm=true)(hS:Q6 X.env.scope scope xs fr=true)(hjs:js.map (fun j=>X.N[j]?)=fr.map some)
  (hN:X.N.Nodup) (hi':X.N[i]? = some y) (hy:X.env.scope.names.lookup y=some .local) (hw:PI X tg iter wi)
  (hg:∀ C ex s₀ H₀,PG (cxC X scope xs fr C ex s₀ H₀) tg g) (hk:Vn xs.length g) (hi:∀ C ex s₀ H₀,PIf (cxC X scope xs fr C ex s₀ H₀) ifs tt) (he:∀ C ex s₀ H₀,PE (cxC X scope xs fr C ex s₀ H₀) elt te)
  (hsw:swapsWith (.ListComp elt [⟨tg,iter,ifs,0⟩] scope pos) (some (.Name y py)) spos.line X.env=pure true:=by ac_nf)
  (hs:∀ x,foldedSetIterable iter X.env x=pure x:=by intro _;ac_nf) :
  PS X (.Assign [.Name y py] (.ListComp elt [⟨tg,iter,ifs,0⟩] scope pos) spos) (a73 (Zc xs.length js wi g tt te) (Nc i)):=by
 intro pins s σ H D I h
 have S:=Pz hS
 rw[exec_Assign_Name_used _ _ _ _ hsw]
 refine wpAny_bind (wpAny_standAt (wpAny_bind ?_))
 show wpAny _ X.A (do let _ <- comprehension (.ListComp elt [⟨tg,iter,ifs,0⟩] scope pos) scope X.env _ (newList []) false (eval iter X.env) (some (assign (.Name y py) X.env))) _ _ s
 refine wpAny_bind (wpAny_mono (wpAny_comprehension_free (use:=some (assign (.Name y py) X.env)) (Q:=fun _ s'=>SP X pins D .next s') rfl hs (Kt (S.cells I.ok)) S.kind S.names ?_) (fun _ s' hq=>wpAny_pure (wpAny_pure hq)) fun _ _ e=>e)
 refine thn (hw pins s σ H _ I h) fun v s1 h1=>thn h1 fun itv s2 h2=>?_
 obtain⟨it,fp,tn,J,H2,e,I2,T,st2,f2,q2⟩:=h2
 subst e
 refine Q3 (Q:=fun x H1=>Nc i x σ H1 D.nx) (R:=fun acc C=>compPost (model X.prog X.w) X.A X.xe (some (assign (.Name y py) X.env)) (fun _ s'=>SP X pins D .next s') acc C) hc S hjs hg hk hi he I2 T st2 f2 q2 ?_
 intro p C s' H' ⟨m,hn⟩ fC I' q
 show wpAny _ X.A (assign (.Name y py) X.env (.ref p)) _ _ s'
 refine wpAny_assign_Name (N4 I' hN hi' (.inl hy) (show RelV (.ref p) (.ref p) from rfl) (fun s'' I'' ⟨a,hs1,ha⟩=>?_) (.inr hy))
 have hne:C≠a:=by
  rcases ha with ha | ha
  . rw[ha];exact fC.2.1
  exact(fC.2.2.2.2.1 y a ha).symm
 exact⟨m,hn.sameBut hs1 hne,fun h'' hs''=>⟨_,H',I''.letgo fC hs'',q⟩⟩
end
def Its (x:Str):It:=⟨fun i _=>i<x.cps.size,fun i H v H'=>H'=H/\∃ c,x.cps[i]? = some c/\v = .str ⟨#[c]⟩,fun i _=>x.cps.size<=i⟩
section
variable {X:Cx}{tg:Expr}
theorem T2 {P:Program}{w:World}{K:PySem.W.Frag}{tg:Expr}{it:Addr}{n:Nat}{PV:Nat->Value->Prop}{val:Nat->V->Prop}{St:Nat->Heap->Prop}(W:∀ A:Around,A.handled=none->Walks P w A it [it] [it] n PV St)
  (hself:∀(A:Around) (i:Nat) (s:Shared) (Q:Value->Shared->Prop) (E:Value->Shared->Prop),St i s.heap->Q (.ref it) s->wpAny (model P w) A (pyIter (.ref it)) Q E s)
  (hv:∀ i u,PV i u->∃ v,RelV v u/\val i v) (hto:∀ i h,St i h->∃ o T vs,h.get? it=some o/\o.cls = .type T/\o.data = .fields vs/\["enumerate","zip","dict_itemiterator","dict_reverseitemiterator","odict_iterator","itertools.zip_longest","itertools.pairwise"].contains T=false) :
  Yq P w K tg ⟨fun i _=>i<n,fun i H v H'=>H'=H/\val i v,fun i _=>n<=i⟩ [it] it (fun i h=>St i h/\i<=n) where
 mem:=by simp
 obj:=fun i h st b hb=>by
  have e:b=it:=by simpa using hb
  subst e
  obtain⟨o,T,vs,e1,e2,e3,e4⟩:=hto i h st.1
  exact⟨o,e1,fun v z=>by rw[e3] at z;cases z⟩
 keep:=fun i h h' st k=>⟨(W { handled:=none } rfl).frame i h h' st.1 k,st.2⟩
 item:=by
  intro X hP hw hK hc i pins s σ H E I hf st hg
  subst hP hw hK
  obtain⟨f0,f1,f2,f3,f4,f5⟩:=hf it (by simp)
  refine(W X.A (I.ok.hd hc)).item i s _ _ hg st.1 fun u h' tk hp st' kk=>?_
  obtain⟨v,rv,vv⟩:=hv i u hp
  have I1:Inv X pins σ H { s with heap:=h',toks:=tk }:=I.turned (fun b o hb e=>kk b o (by simpa using hb) e) f0 f1 f3 f4 f5
  obtain⟨o,T,vs,e1,e2,e3,e4⟩:=hto _ _ st'
  exact⟨u,rfl,Sg (s:={ s with heap:=h',toks:=tk }) e1 e2 e3 e4 ⟨v,H,I1,rv,⟨rfl,vv⟩,⟨st',hg⟩,fun b hb=>(hf b hb).1⟩⟩
 done:=by
  intro X hP hw hK hc i pins s σ H E I hf st hg
  subst hP hw hK
  obtain⟨f0,f1,f2,f3,f4,f5⟩:=hf it (by simp)
  have e:i=n:=Nat.le_antisymm st.2 hg
  subst e
  exact(W X.A (I.ok.hd hc)).done s _ _ st.1 fun h' tk kk=>⟨rfl,I.turned (fun b o hb e=>kk b o (by simpa using hb) e) f0 f1 f3 f4 f5⟩
 self:=fun A i s Q E st h=>hself A i s Q E st.1 h
theorem ai5 {pins:List (Addr×Obj)}{σ:St}{H1:Hp}{s1:Shared}{R:It->Hp->Prop}{E:Value->Shared->Prop}{z:Str}{v:Value}(I1:Inv X pins σ H1 s1)(r1:RelV (.str z) v)(q:R (Its z) H1):wpAny (model X.prog X.w) X.A (pyIter v) (PIE X pins σ tg R) E s1:=by
 obtain⟨t,rfl⟩:=r1
 have sv:∀ i u,SignAt z i u->∃ v,RelV v u/\∃ c,z.cps[i]? = some c/\v = .str ⟨#[c]⟩:=fun i u ⟨c,tu,hc,hu⟩=>⟨.str ⟨#[c]⟩,⟨tu,hu⟩,c,hc,rfl⟩
 have fin:∀(o:Obj) (St:Nat->Heap->Prop) (n:Nat),St 0 (s1.heap.push o)->Yq X.prog X.w X.K tg (Its z) [s1.heap.objs.size] s1.heap.objs.size (fun i h=>St i h/\i<=z.cps.size)->PIE X pins σ tg R (.ref s1.heap.objs.size) { s1 with heap:=s1.heap.push o }:=fun o St n h0 T=>by
  refine⟨s1.heap.objs.size,[s1.heap.objs.size],_,_,H1,rfl,I1.kept (t':=s1.toks) fun b ob e=>Heap.get?_push_of_some _ e,T,⟨h0,Nat.zero_le _⟩,fun b hb=>?_,q⟩
  have e:b=s1.heap.objs.size:=by simpa using hb
  subst e
  exact I1.fpOk (Nat.le_refl _) (I1.hok.fresh (Nat.le_refl _))
 cases ha:z.cps.all (· < 128)
 . exact wpAny_pyIter_wide ha (fin _ _ 0 ⟨_,Heap.get?_push_size _ rfl,rfl,rfl⟩ (T2 (fun A hA=>Walks.strWide hA _ z t) (fun _ _ _ _ _ st hq=>wpAny_pyIter_striter_wide st hq) sv fun i h ⟨o,ho,hc,hd⟩=>⟨o,_,_,ho,hc,hd,by decide⟩))
 exact wpAny_pyIter_ascii ha (fin _ _ 0 ⟨_,Heap.get?_push_size _ rfl,rfl,rfl⟩ (T2 (fun A hA=>Walks.strAscii hA _ z t) (fun _ _ _ _ _ st hq=>wpAny_pyIter_striter_ascii st hq) sv fun i h ⟨o,ho,hc,hd⟩=>⟨o,_,_,ho,hc,hd,by decide⟩))
end
section
variable {X:Cx}
def aq5:V->Option Int->Option Int->Hp->VK->Prop:=fun x lo hi H Q=>∃ z,x = .str z/\z.length<=sizeLine/\Q (.str (Txt.slice z lo hi)) H
theorem sl_str:SlR X aq5:=by
 intro pins s σ H x v vl vu lo hi sl Q I rx hs pl pu h
 obtain⟨z,rfl,hz,q⟩:=h
 obtain⟨t,rfl⟩:=rx
 have fin:∀ t' k,EP X pins σ Q (.str (Txt.slice z lo hi) t') { s with toks:=k }:=fun t' k=>⟨.str _,H,I.tok _,⟨_,rfl⟩,q⟩
 have sz:=Nat.le_trans (Txt.slice_le z lo hi) hz
 refine⟨"str",_,F.slot_str_getitem.lookup,typeIs_str _ _ _,?_⟩
 cases pl with
 | none=>
   cases pu with
   | none=>exact wpAny_getItem_str_slice (l:=none) (u:=none) (st:=none) hs rfl (post_val_or_str ⟨sz,fin⟩)
   | int j uj=>exact wpAny_getItem_str_slice (l:=none) (u:=some (j,uj)) (st:=none) hs rfl (post_val_or_str ⟨sz,fin⟩)
 | int i ui=>
   cases pu with
   | none=>exact wpAny_getItem_str_slice (l:=some (i,ui)) (u:=none) (st:=none) hs rfl (post_val_or_str ⟨sz,fin⟩)
   | int j uj=>exact wpAny_getItem_str_slice (l:=some (i,ui)) (u:=some (j,uj)) (st:=none) hs rfl (post_val_or_str ⟨sz,fin⟩)
theorem Hf:∀ {ys:List Str} {us:List Value},Vals (ys.map V.str) us->StrsAre us ys
 | [],_,.nil=>.nil
 | y :: ys,_,.cons r t=>by
   obtain⟨tk,rfl⟩:=r
   exact .cons y tk (Hf t)
def Za (K:PySem.W.Frag):V->List V->Hp->VK->Prop:=fun x vs H Q=>∃(z:Str) (a:Addr) (ys:List Str),x = .str z/\vs=[.ref a]/\SqL K H a (ys.map V.str)/\(ys.map (·.length)).sum+ys.length*z.length<=16777216/\Q (.str (Txt.join z ys)) H
theorem a67:MtR X "str.join" (Za X.K):=by
 intro pins s σ H x vs v us Q I rx rv h
 obtain⟨z,a,ys,rfl,rfl,hl,hz,q⟩:=h
 obtain⟨t,rfl⟩:=rx
 obtain⟨u,rfl,ru⟩:=rv.one
 cases ru
 obtain⟨its,r,pl,_⟩:=I.list hl
 exact join_list pl.isList (by simpa using Hf r) hz fun t' k=>⟨.str _,H,I.tok _,⟨_,rfl⟩,q⟩
theorem Rf:CallR X (.builtin "repr") (fun xs H Q=>(∃ b,xs=[.bl b]/\Q (.str (if b then "True" else "False")) H)\/(xs=[.non]/\Q (.str "None") H)):=by
 intro pins s σ H xs us Q I r h
 rcases h with ⟨b,rfl,q⟩ | ⟨rfl,q⟩
 . obtain⟨u,rfl,ru⟩:=G5 r
   cases ru
   exact PySem.P.repr_of_bool ⟨.str _,H,I.tok _,⟨_,rfl⟩,q⟩
 obtain⟨u,rfl,ru⟩:=G5 r
 cases ru
 exact PySem.P.repr_of_none ⟨.str _,H,I.tok _,⟨_,rfl⟩,q⟩
theorem call_isinst:CallR X (.builtin "isinstance") (fun xs H Q=>∃ x c t b,xs=[x,.ty c]/\Jw X.K H x t/\PySem.W.kitOne X.K t (.type c)=some b/\Q (.bl b) H):=by
 intro pins s σ H xs us Q I r h
 obtain⟨x,c,t,b,rfl,ty,e,q⟩:=h
 obtain⟨u,w',rfl,r1,r2⟩:=Qh r
 cases r2
 exact Mf I r1 ty e fun tk=>⟨.bl _,H,I.tok _,rfl,q⟩
theorem call_isinstR:CallR X (.builtin "isinstance") (fun xs H Q=>∃ x c t b,xs=[x,.ref c]/\Jw X.K H x t/\PySem.W.kitOne X.K t (.ref c)=some b/\Q (.bl b) H):=by
 intro pins s σ H xs us Q I r h
 obtain⟨x,c,t,b,rfl,ty,e,q⟩:=h
 obtain⟨u,w',rfl,r1,r2⟩:=Qh r
 cases r2
 exact Mf I r1 ty e fun tk=>⟨.bl _,H,I.tok _,rfl,q⟩
theorem N5:CallR X (.builtin "isinstance") (fun xs H Q=>∃ a ys c b,xs=[V.ref a,.ty c]/\((SqT X.K H a ys/\PySem.W.kitOne X.K (.type "tuple") (.type c)=some b)\/(SqL X.K H a ys/\PySem.W.kitOne X.K (.type "list") (.type c)=some b))/\Q (.bl b) H):=by
 intro pins s σ H xs us Q I r h
 obtain⟨a,ys,c,b,rfl,ty,q⟩:=h
 obtain⟨u,w',rfl,r1,r2⟩:=Qh r
 cases r2
 cases r1
 rcases ty with ⟨ty,e⟩ | ⟨ty,e⟩
 . obtain⟨its,_,p,_⟩:=I.tuple ty
   obtain⟨o,h1,h2,_⟩:=p
   exact PySem.W.kia_one PySem.W.kitx_tuple I.kIn ⟨o,h1,h2⟩ e (fun z=>nomatch z) fun tk=>⟨.bl _,H,I.tok _,rfl,q⟩
 obtain⟨its,_,p,_⟩:=I.list ty
 obtain⟨o,h1,h2,_⟩:=p.isList
 exact PySem.W.kia_one PySem.W.kitx_list I.kIn ⟨o,h1,h2⟩ e (fun z=>nomatch z) fun tk=>⟨.bl _,H,I.tok _,rfl,q⟩
theorem Wm {bs:List Bool}{its:List Value}(r:Vals (bs.map V.bl) its)(i:Nat)(v:Value)(h:its[i]? = some v):∃ b,bs[i]? = some b/\v = .bool b:=by
 have hl:=r.length
 have hi:i<its.length:=(List.getElem?_eq_some_iff.mp h).1
 have hb:i<bs.length:=by rw[List.length_map] at hl;omega
 obtain⟨u,hu,ru⟩:=r.get (i:=i) (x:=.bl bs[i]) (by rw[List.getElem?_map,List.getElem?_eq_getElem hb];rfl)
 rw[h] at hu
 cases hu
 exact⟨bs[i],List.getElem?_eq_getElem hb,ru⟩
theorem T1 (bs:List Bool):(List.range bs.length).all (fun i=>(bs[i]?).getD false)=bs.all id:=by
 rw[Bool.eq_iff_iff,List.all_eq_true,List.all_eq_true]
 constructor
 . intro h b hb
   obtain⟨i,hi,e⟩:=List.mem_iff_getElem.mp hb
   have:=h i (List.mem_range.mpr hi)
   rw[List.getElem?_eq_getElem hi] at this
   rw[<- e]
   exact this
 intro h i hi
 rw[List.getElem?_eq_getElem (List.mem_range.mp hi)]
 exact h _ (List.getElem_mem _)
theorem W0 (hc:X.calm=true):CallR X (.builtin "all") (fun xs H Q=>∃(a:Addr) (bs:List Bool),xs=[.ref a]/\SqL X.K H a (bs.map V.bl)/\Q (.bl (bs.all id)) H):=by
 intro pins s σ H xs us Q I r h
 obtain⟨a,bs,rfl,hl,q⟩:=h
 obtain⟨u,rfl,ru⟩:=G5 r
 cases ru
 obtain⟨its,rv,pl,hz⟩:=I.list hl
 have hlen:=rv.length
 have hne:a≠s.heap.objs.size:=by obtain⟨o,n,ho,_⟩:=pl;exact Nat.ne_of_lt (Heap.lt_size ho)
 refine call_all_walk (wpAny_pyIter_list pl.isList ?_)
 refine⟨_,_,_,_,_,_,fun i=>(bs[i]?).getD false,rfl,Walks.list (A:=X.A.in1) (I.ok.hd hc) _ a hne its.toArray,⟨⟨_,Heap.get?_push_size _ rfl,rfl,rfl⟩,pl.isList.at fun o e=>Heap.get?_push_of_some _ e⟩,fun i v s' Q' E' hp hq=>?_,fun h' tk hk=>?_⟩
 . obtain⟨b,hb,rfl⟩:=Wm rv i v (by simpa using hp)
   dsimp only at hq;rw[hb] at hq
   exact wpAny_truthy_bool hq
 refine⟨.bl _,H,I.kept (t':=tk) fun b ob e=>hk b ob (fun hm=>absurd (Heap.lt_size e) (by rw[show b=s.heap.objs.size by simpa using hm];exact Nat.lt_irrefl _)) (Heap.get?_push_of_some _ e),?_,q⟩
 have e1:its.toArray.size=bs.length:=by rw[List.size_toArray,<- hlen,List.length_map]
 rw[e1,T1]
 rfl
end
section
variable {X:Cx}{x:Str}{pos:Pos}
theorem Ts {v:V}(hg:Gl X x)(hm:∃ u,X.mg x=some u/\RelV v u)(hd:(x==("__debug__":Str))=false:=by decide):PE X (.Name x pos) (tC v):=by
 obtain⟨u,h1,h2⟩:=hm
 exact Zk hg h1 h2 hd
end
section
variable {X:Cx}{K:PySem.W.Frag}
def a80 (K:PySem.W.Frag):R2:=fun x y H Q=>∃ a b ys,x = .ref a/\y = .ref b/\SqT K H a []/\SqT K H b ys/\Q (.ref b) H
theorem Z8:OpR X (binaryOp .Add) (a80 X.K):=by
 intro pins s σ H x y v u Q I rx ry h
 obtain⟨a,b,ys,rfl,rfl,ha,hb,q⟩:=h
 cases rx
 cases ry
 obtain⟨its,r1,p1,_⟩:=I.tuple ha
 obtain⟨its2,r2,p2,_⟩:=I.tuple hb
 cases r1
 obtain⟨⟨cls,dd,data,sl⟩,ho,hc,n,hd⟩:=id p1
 obtain⟨⟨cls2,dd2,data2,sl2⟩,ho2,hc2,n2,hd2⟩:=id p2
 simp only at hc hd hc2 hd2
 subst hc hd hc2 hd2
 exact concat_meets ⟨_,ho,rfl⟩ ⟨_,ho2,rfl⟩ noFill_tuple_add seq_tuple_add PySem.F.slot_tuple_add PySem.F.entry_tuple_add (PySem.F.args_tuple_add_2 _ _) (tuple_addW0 a b _ _ n n2 dd dd2 sl sl2 (by simp)) ⟨ho,ho2,⟨.ref b,H,I,rfl,q⟩⟩
def ap1 (K:PySem.W.Frag):V->Option Int->Option Int->Hp->VK->Prop:=fun x lo hi H Q=>∃ a xs,x = .ref a/\SqT K H a xs/\(HT.sIx xs.length 0 lo=0/\HT.sIx xs.length xs.length hi=xs.length)/\Q (.ref a) H
theorem W4:SlR X (ap1 X.K):=by
 intro pins s σ H x v vl vu lo hi sl Q I rx hs pl pu h
 obtain⟨a,xs,rfl,hx,hw,q⟩:=h
 cases rx
 obtain⟨its,r,ht,hz⟩:=I.tuple hx
 have hlen:its.toArray.size=xs.length:=by rw[List.size_toArray];exact r.length.symm
 refine⟨"tuple",_,PyProof.Rows.slot_tuple_getitem.lookup,ht.typeIs,?_⟩
 obtain⟨os,hos,hcs,hds⟩:=id hs
 have hTs:s.TypeIs (.ref sl) "slice":=⟨os,hos,hcs⟩
 unfold getItem
 try with_reducible refine wpAny_holding ?_
 first | refine wpAny_bind (wpAny_pure ?_) | skip
 refine wpAny_bind (wpAny_sequenceKey ht.typeIs (by decide) ?_)
 refine wpAny_bind (wpAny_callSpecial?_slot (name:=Str.ofString "__getitem__") ht.typeIs PyProof.Rows.slot_tuple_getitem (wpAny_call_entry PyProof.Rows.slot_tuple_getitem ht.typeIs entry_tuple_getitem ?_ (args_tuple_getitem _ _)))
 refine wpAny_bind (m:=Builtin.Tuple.tupleItemsOf (.ref a)) (tupleItemsOf_ ht ?_)
 refine wpAny_bind (wpAny_typeOf hTs ?_)
 rw[if_pos (by decide)]
 refine wpAny_bind (HT.sliceApplied_gen hs pl pu ?_)
 have yes:(((HT.sIx its.toArray.size 0 lo:Nat):Int)==0&&(1:Int)==1&&(HT.sIx its.toArray.size its.toArray.size hi-HT.sIx its.toArray.size 0 lo)==its.toArray.size)=true:=by
  rw[hlen,hw.1,hw.2]
  simp
 show wpAny _ _ (if(((HT.sIx its.toArray.size 0 lo:Nat):Int)==0&&(1:Int)==1&&(HT.sIx its.toArray.size its.toArray.size hi-HT.sIx its.toArray.size 0 lo)==its.toArray.size)=true then _ else _) _ _ s
 rw[if_pos yes]
 have fin:∀ s',s'=s->EP X pins σ Q (.ref a) s':=fun s' e=>by subst e;exact⟨.ref a,H,I,rfl,q⟩
 unfold Builtin.Tuple.tupleIsExact
 obtain⟨hp,g,d,tk,os⟩:=s
 have hT:=ht.typeIs
 repeat (any_goals (first | assumption | wp_step))
 exact⟨_,rfl,wpAny_pure (fin _ rfl)⟩
end
theorem Inv.freeze {X:Cx}{pins:List (Addr×Obj)}{σ:St}{H:Hp}{s:Shared}{d:Addr}{kvs:List (Key×V)}{o:Obj}(I:Inv X pins σ H s)(hd:H d=some (.dK kvs))(ho:s.heap.get? d=some o):Inv X pins σ (upd H d (.frz o (.dK kvs))) s:=by
 have nn:∀ b,H b=none->upd H d (.frz o (.dK kvs)) b=none:=fun b h=>by rw[Ap (Ne.symm (ne_of_none hd h))];exact h
 have other:∀ b u,H b=some u->u ≠ .dK kvs->upd H d (.frz o (.dK kvs)) b=some u:=fun b u h q=>by rw[Ap (ne_of h hd q)];exact h
 refine⟨I.ok,I.os,I.bare,⟨I.base.keep,I.base.slot,fun b ob q n hx=>nn b (I.base.free b ob q n hx),I.base.there,fun b xs q=>other b _ (I.base.tups b xs q) (by intro z;cases z),fun b ob u q=>other b _ (I.base.frzs b ob u q) (by intro z;cases z),fun b ps q=>?_⟩,I.loc,I.cell,nn _ I.free,fun x c q=>nn _ (I.freeC x c q),fun p hp=>?_,fun b u q=>?_,I.len⟩
 . obtain⟨more,h⟩:=I.base.tbls b ps q
   exact⟨more,other b _ h (by intro z;cases z)⟩
 . obtain⟨a1,a2,a3⟩:=I.pin p hp
   exact⟨a1,nn _ a2,a3⟩
 by_cases e:b=d
 . subst e
   rw[A9] at q
   cases q
   exact⟨ho,(I.hok b _ hd).stay (fun c v hc z=>z) (fun c z=>other c _ z (by intro w;cases w)) fun c xs z=>other c _ z (by intro w;cases w)⟩
 rw[Ap e] at q
 exact(I.hok b u q).stay (fun c v hc z=>z) (fun c z=>other c _ z (by intro w;cases w)) fun c xs z=>other c _ z (by intro w;cases w)
def Itd (a:Addr)(o:Obj)(kvs:List (Key×V)):It:=
 ⟨fun i H=>H a=some (.frz o (.dK kvs))/\i<kvs.length,fun i H x H'=>H'=H/\∃ kv,kvs[i]? = some kv/\x=kV kv.1,fun i H=>H a=some (.frz o (.dK kvs))/\kvs.length<=i⟩
theorem a06 {k:Key}{u:Value}(h:Ny k u=true):RelV (kV k) u:=by
 rcases Ba h with ⟨i,t,rfl,rfl⟩ | ⟨x,t,rfl,rfl⟩
 . exact⟨t,rfl⟩
 exact⟨t,rfl⟩
theorem U7 {X:Cx}{pins:List (Addr×Obj)}{σ:St}{H:Hp}{s:Shared}{a:Addr}{kvs:List (Key×V)}{o:Obj}{es:Array DictEntry}{ep:Nat}(I:Inv X pins σ H s)(h:H a=some (.frz o (.dK kvs)))(ho:o.data = .dict es ep):∃ vs,KV kvs vs/\s.heap.DictAt (Az X.prog X.w) a vs ep:=by
 obtain⟨h1,_,_,vs,r,o',es',ep',h2,c,hd,rest⟩:=I.hok a _ h
 rw[h1] at h2
 cases h2
 rw[ho] at hd
 cases hd
 exact⟨vs,r,o,es,h1,c,ho,rest⟩
theorem KV.get:∀ {kvs:List (Key×V)} {vs:List (Key×Value)} {i:Nat} {kv:Key×V},KV kvs vs->kvs[i]? = some kv->∃ u,vs[i]? = some (kv.1,u)/\RelV kv.2 u
 | _,_,_,_,.nil,e=>by simp at e
 | _,_,0,kv,.cons r _,e=>by
   simp at e
   subst e
   exact⟨_,congrArg some (Prod.ext r.1.symm rfl),r.2⟩
 | _,_,i+1,kv,.cons _ t,e=>by
   obtain⟨u,h1,h2⟩:=KV.get (i:=i) t (by simpa using e)
   exact⟨u,by simpa using h1,h2⟩
theorem Mt {P:Program}{w:World}{K:PySem.W.Frag}{tg:Expr}(a it:Addr)(o:Obj)(kvs:List (Key×V))(es:Array DictEntry)(ep:Nat)(hd:o.data = .dict es ep):Yq P w K tg (Itd a o kvs) [it] it (fun i h=>h.IsKeyIter it a i kvs.length ep) where
 mem:=by simp
 obj:=fun i h st b hb=>by
  have e:b=it:=by simpa using hb
  subst e
  obtain⟨o,e,c,d⟩:=st
  exact⟨o,e,fun v z=>by rw[d] at z;cases z⟩
 keep:=fun i h h' st k=>st.at fun o e=>k it (by simp) o e
 item:=by
  intro X hP hw hK hc i pins s σ H E I hf st hg
  subst hP hw hK
  obtain⟨hH,hi⟩:=hg
  obtain⟨vs,rv,hat⟩:=U7 I hH hd
  have hl:kvs.length=vs.length:=Paired.length rv
  obtain⟨kv,hkv⟩:∃ kv,kvs[i]? = some kv:=⟨kvs[i],List.getElem?_eq_getElem hi⟩
  obtain⟨u,hu,_⟩:=KV.get rv hkv
  obtain⟨f0,f1,f2,f3,f4,f5⟩:=hf it (by simp)
  rw[hl] at st
  refine wpAny_pyNext_dict_item st hat hu fun key h' hkey hit' hs'=>?_
  have I1:Inv X pins σ H { s with heap:=h' }:=I.turned (t':=s.toks) (fun b o hb e=>(hs'.2 b hb).trans e) f0 f1 f3 f4 f5
  obtain⟨o',e,c,d⟩:=id hit'
  exact⟨key,rfl,Sg (s:={ s with heap:=h' }) e c d (by decide) ⟨kV kv.1,H,I1,a06 hkey,⟨rfl,kv,hkv,rfl⟩,by rw[hl];exact hit',fun b hb=>(hf b hb).1⟩⟩
 done:=by
  intro X hP hw hK hc i pins s σ H E I hf st hg
  subst hP hw hK
  obtain⟨hH,hi⟩:=hg
  obtain⟨vs,rv,hat⟩:=U7 I hH hd
  have hl:kvs.length=vs.length:=Paired.length rv
  obtain⟨f0,f1,f2,f3,f4,f5⟩:=hf it (by simp)
  rw[hl] at st
  exact wpAny_pyNext_dict_end (I.ok.hd hc) st hat (List.getElem?_eq_none (by omega)) fun h' eb=>⟨rfl,I.turned (t':=s.toks) (fun b o hb e=>eb b o hb e) f0 f1 f3 f4 f5⟩
 self:=fun A i s Q E st hQ=>wpAny_pyIter_keyiter st hQ
theorem a37 {X:Cx}{tg:Expr}{pins:List (Addr×Obj)}{σ:St}{H:Hp}{s:Shared}{a:Addr}{kvs:List (Key×V)}{R:It->Hp->Prop}{E:Value->Shared->Prop}(I:Inv X pins σ H s)(h:H a=some (.dK kvs))(q:∀ o,R (Itd a o kvs) (upd H a (.frz o (.dK kvs)))) :
  wpAny (model X.prog X.w) X.A (pyIter (.ref a)) (PIE X pins σ tg R) E s:=by
 obtain⟨_,hs,vs,rv,o,es,ep,ho,c,hd,rest⟩:=I.hok a _ h
 have I1:=I.freeze h ho
 have hl:kvs.length=vs.length:=Paired.length rv
 refine wpAny_pyIter_dict (knd:=Az X.prog X.w) hs ⟨o,es,ho,c,hd,rest⟩ ?_
 rw[<- hl]
 refine⟨s.heap.objs.size,[s.heap.objs.size],_,_,_,rfl,I1.kept (t':=s.toks) fun b o e=>Heap.get?_push_of_some _ e,Mt a _ o kvs es ep hd,⟨_,Heap.get?_push_size _ rfl,rfl,rfl⟩,fun b hb=>?_,q o⟩
 have e:b=s.heap.objs.size:=by simpa using hb
 subst e
 exact I1.fpOk (Nat.le_refl _) (I1.hok.fresh (Nat.le_refl _))
theorem Wf {X:Cx}{tg:Expr}{pins:List (Addr×Obj)}{σ:St}{H:Hp}{s:Shared}{a:Addr}{kvs:List (Key×V)}{o:Obj}{R:It->Hp->Prop}{E:Value->Shared->Prop}(I:Inv X pins σ H s)(h:H a=some (.frz o (.dK kvs)))(q:R (Itd a o kvs) H) :
  wpAny (model X.prog X.w) X.A (pyIter (.ref a)) (PIE X pins σ tg R) E s:=by
 obtain⟨ho',_,hs,vs,rv,o',es,ep,ho,c,hd,rest⟩:=I.hok a _ h
 rw[ho'] at ho
 cases ho
 have hl:kvs.length=vs.length:=Paired.length rv
 refine wpAny_pyIter_dict (knd:=Az X.prog X.w) hs ⟨o,es,ho',c,hd,rest⟩ ?_
 rw[<- hl]
 refine⟨s.heap.objs.size,[s.heap.objs.size],_,_,_,rfl,I.kept (t':=s.toks) fun b o e=>Heap.get?_push_of_some _ e,Mt a _ o kvs es ep hd,⟨_,Heap.get?_push_size _ rfl,rfl,rfl⟩,fun b hb=>?_,q⟩
 have e:b=s.heap.objs.size:=by simpa using hb
 subst e
 exact I.fpOk (Nat.le_refl _) (I.hok.fresh (Nat.le_refl _))
theorem Same.seqT {K:PySem.W.Frag}{H H':Hp}{a:Addr}{xs:List V}(e:Same H H')(h:SqT K H a xs):SqT K H' a xs:=by
 rcases h with (h | ⟨o,h⟩) | h
 . exact .inl (.inl (e _ _ h))
 . exact .inl (.inr ⟨o,e _ _ h⟩)
 exact .inr h
mutual
def Is (K:PySem.W.Frag)(H:Hp):PyData->V->Prop
 | .none,v=>v = .non
 | .bool b,v=>v = .bl b
 | .int i,v=>v = .int i
 | .str x,v=>v = .str x
 | .list ds,v=>∃ a xs,v = .ref a/\SqL K H a xs/\IsL K H ds xs
 | .tuple ds,v=>∃ a xs,v = .ref a/\SqT K H a xs/\IsL K H ds xs
 | .dict _,_=>False
def IsL (K:PySem.W.Frag)(H:Hp):List PyData->List V->Prop
 | [],vs=>vs=[]
 | d :: ds,vs=>∃ v r,vs=v :: r/\Is K H d v/\IsL K H ds r
end
mutual
theorem Is.mono {K:PySem.W.Frag}{H H':Hp}(e:Same H H'):∀(d:PyData) (v:V),Is K H d v->Is K H' d v
 | .none,_,h=>by simp only[Is] at h ⊢;exact h
 | .bool _,_,h=>by simp only[Is] at h ⊢;exact h
 | .int _,_,h=>by simp only[Is] at h ⊢;exact h
 | .str _,_,h=>by simp only[Is] at h ⊢;exact h
 | .list ds,v,h=>by
   simp only[Is] at h ⊢
   obtain⟨a,xs,e1,e2,e3⟩:=h
   exact⟨a,xs,e1,e.seq e2,IsL.mono e ds xs e3⟩
 | .tuple ds,v,h=>by
   simp only[Is] at h ⊢
   obtain⟨a,xs,e1,e2,e3⟩:=h
   exact⟨a,xs,e1,e.seqT e2,IsL.mono e ds xs e3⟩
 | .dict _,_,h=>by simp only[Is] at h
theorem IsL.mono {K:PySem.W.Frag}{H H':Hp}(e:Same H H'):∀(ds:List PyData) (vs:List V),IsL K H ds vs->IsL K H' ds vs
 | [],_,h=>by simp only[IsL] at h ⊢;exact h
 | d :: ds,vs,h=>by
   simp only[IsL] at h ⊢
   obtain⟨v,r,e1,e2,e3⟩:=h
   exact⟨v,r,e1,Is.mono e d v e2,IsL.mono e ds r e3⟩
end
section
variable {X:Cx}{pins:List (Addr×Obj)}{σ:St}{H:Hp}{s:Shared}
mutual
theorem Is.reads (I:Inv X pins σ H s):∀(d:PyData) (v:V) (u:Value),Is X.K H d v->RelV v u->∃ as,Reads s.heap u d as
 | .none,v,u,i,r=>by
   simp only[Is] at i
   subst i
   cases r
   exact⟨_,.none⟩
 | .bool b,v,u,i,r=>by
   simp only[Is] at i
   subst i
   cases r
   exact⟨_,.bool b⟩
 | .int n,v,u,i,r=>by
   simp only[Is] at i
   subst i
   obtain⟨t,rfl⟩:=r
   exact⟨_,.int n t⟩
 | .str x,v,u,i,r=>by
   simp only[Is] at i
   subst i
   obtain⟨t,rfl⟩:=r
   exact⟨_,.str x t⟩
 | .list ds,v,u,i,r=>by
   simp only[Is] at i
   obtain⟨a,xs,rfl,e2,e3⟩:=i
   cases r
   obtain⟨its,rv,⟨o,n,e,hc,hd,hs⟩,_⟩:=I.list e2
   obtain⟨as,ra⟩:=IsL.reads I ds xs its e3 rv
   exact⟨_,.list e hc hs (by simpa using ra)⟩
 | .tuple ds,v,u,i,r=>by
   simp only[Is] at i
   obtain⟨a,xs,rfl,e2,e3⟩:=i
   cases r
   obtain⟨its,rv,⟨o,e,hc,n,hd⟩,_⟩:=I.tuple e2
   obtain⟨as,ra⟩:=IsL.reads I ds xs its e3 rv
   exact⟨_,.tuple e hc hd (by simpa using ra)⟩
 | .dict _,_,_,i,_=>by simp only[Is] at i
theorem IsL.reads (I:Inv X pins σ H s):∀(ds:List PyData) (vs:List V) (us:List Value),IsL X.K H ds vs->Vals vs us->∃ as,ReadsAll s.heap us ds as
 | [],vs,us,i,r=>by
   simp only[IsL] at i
   subst i
   cases r
   exact⟨_,.nil⟩
 | d :: ds,vs,us,i,r=>by
   simp only[IsL] at i
   obtain⟨v,rr,rfl,e2,e3⟩:=i
   cases r with
   | cons r1 r2=>
     obtain⟨a1,h1⟩:=Is.reads I d v _ e2 r1
     obtain⟨a2,h2⟩:=IsL.reads I ds rr _ e3 r2
     exact⟨_,.cons h1 h2⟩
end
end
theorem Tx {K:PySem.W.Frag}{H:Hp}:∀ ns:List Int,IsL K H (ns.map PyData.int) (ns.map V.int)
 | []=>by simp only[List.map_nil,IsL]
 | n :: r=>by
   simp only[List.map_cons,IsL]
   exact⟨_,_,rfl,by simp only[Is],Tx r⟩
theorem Gv {K:PySem.W.Frag}{H:Hp}:∀ ns:List Str,IsL K H (ns.map PyData.str) (ns.map V.str)
 | []=>by simp only[List.map_nil,IsL]
 | n :: r=>by
   simp only[List.map_cons,IsL]
   exact⟨_,_,rfl,by simp only[Is],Gv r⟩
theorem Pn {K:PySem.W.Frag}{H:Hp}{a:Addr}{ns:List Int}(h:SqL K H a (ns.map V.int)):Is K H (.list (ns.map PyData.int)) (.ref a):=by
 simp only[Is]
 exact⟨a,_,rfl,h,Tx ns⟩
structure QA (A:Around):Prop where
 un:A.units+150<cLine
 gd:A.guards=some []
theorem C1 {A:Around}{k:Nat}(hr:Room k A):QA A:=⟨by have:=hr.un;omega,hr.gd⟩
section
variable {X:Cx}
def Qi (K:PySem.W.Frag):R2:=fun x y H Q=>(∃ i j,x = .int i/\y = .int j/\Q (.int (i+j)) H)\/(∃ i j,x = .str i/\y = .str j/\i.length+j.length<=sizeLine/\Q (.str (i++j)) H)\/ap8 x y H Q\/ad6 K x y H Q\/a80 K x y H Q
theorem a50:OpR X (binaryOp .Add) (Qi X.K):=op_add.or (op_add_str.or (op_cat.or (op_catT.or Z8)))
def Z3:R2:=fun x y H Q=>(∃ i j,x = .int i/\y = .int j/\CMul i j/\Q (.int (i*j)) H)\/ao9 x y H Q
theorem op_mulA:OpR X (binaryOp .Mult) Z3:=op_mul.or ab6
theorem Gj:OpR X (binaryOp .FloorDiv) (rI ak5 fun i j=>.int (i / j)):=Yz
def aj2 (K:PySem.W.Frag)(neg:Bool):R2:=fun x y H Q=>∃ dx dy,Is K H dx x/\Is K H dy y/\SeqAt.shaped dx=true/\SeqAt.shaped dy=true/\Q (.bl (if neg then !PyData.eqv dx dy else PyData.eqv dx dy)) H
theorem a90 (hq:QA X.A):OpR X (compareOp .Eq) (aj2 X.K false):=by
 intro pins s σ H x y v u Q I rx ry h
 obtain⟨dx,dy,ix,iy,sx,sy,q⟩:=h
 obtain⟨as,ra⟩:=Is.reads I dx x v ix rx
 obtain⟨bs,rb⟩:=Is.reads I dy y u iy ry
 exact eq_dataH ra rb sx sy (by have:=hq.un;omega) ⟨.bl _,H,I,rfl,q⟩
theorem ac8 (hq:QA X.A):OpR X (compareOp .NotEq) (aj2 X.K true):=by
 intro pins s σ H x y v u Q I rx ry h
 obtain⟨dx,dy,ix,iy,sx,sy,q⟩:=h
 obtain⟨as,ra⟩:=Is.reads I dx x v ix rx
 obtain⟨bs,rb⟩:=Is.reads I dy y u iy ry
 exact ne_dataH ra rb sx sy (by have:=hq.un;omega) ⟨.bl _,H,I,rfl,q⟩
def aj6 (K:PySem.W.Frag):R2:=fun x y H Q=>rEq x y H Q\/aj2 K false x y H Q
def ak3 (K:PySem.W.Frag):R2:=fun x y H Q=>rNe x y H Q\/aj2 K true x y H Q
theorem ag1 (hq:QA X.A):OpR X (compareOp .Eq) (aj6 X.K):=op_eq.or (a90 hq)
theorem aa7 (hq:QA X.A):OpR X (compareOp .NotEq) (ak3 X.K):=op_ne.or (ac8 hq)
def rInT (neg:Bool):R2:=fun x y H Q=>∃ i j,x = .str i/\y = .str j/\Q (.bl (if neg then !(!(Builtin.Str.occurrences j i 0 j.length 1).isEmpty) else !(Builtin.Str.occurrences j i 0 j.length 1).isEmpty)) H
def ao4 (neg:Bool):R2:=fun x y H Q=>∃ a o,y = .ref a/\DGet H a x o/\Q (.bl (if neg then !o.isSome else o.isSome)) H
theorem a88 (hu:X.A.units+1<cLine):OpR X (compareOp .In) (ao4 false):=by
 intro pins s σ H x y v u Q I rx ry h
 obtain⟨a,o,rfl,g,q⟩:=h
 cases ry
 exact d_in hu I g rx fun s' I'=>⟨.bl _,H,I',rfl,q⟩
theorem Tq (hu:X.A.units+1<cLine):OpR X (compareOp .NotIn) (ao4 true):=by
 intro pins s σ H x y v u Q I rx ry h
 obtain⟨a,o,rfl,g,q⟩:=h
 cases ry
 exact a63 hu I g rx fun s' I'=>⟨.bl _,H,I',rfl,q⟩
def am2 (K:PySem.W.Frag)(neg:Bool):R2:=fun x y H Q=>∃ d ds,Is K H d x/\(Is K H (.list ds) y\/Is K H (.tuple ds) y)/\PyData.canLayAll0 ds=true/\d.canLay0=true/\d.depth<=100/\Q (.bl (if neg then !(ds.any fun e=>PyData.eqv e d) else ds.any fun e=>PyData.eqv e d)) H
theorem ah9 (hq:QA X.A):OpR X (compareOp .In) (am2 X.K false):=by
 intro pins s σ H x y v u Q I rx ry h
 obtain⟨d,ds,ix,iy,h1,h2,h3,q⟩:=h
 obtain⟨bs,rb⟩:=Is.reads I d x v ix rx
 rcases iy with iy | iy
 . obtain⟨as,ra⟩:=Is.reads I _ y u iy ry
   exact SeqAt.in_list_reads ra rb h1 h2 (by have:=hq.un;have:=Nat.min_le_right (PyData.depthAll ds) d.depth;omega) ⟨.bl _,H,I,rfl,q⟩
 obtain⟨as,ra⟩:=Is.reads I _ y u iy ry
 exact SeqAt.in_tuple_reads ra rb h1 h2 (by have:=hq.un;have:=Nat.min_le_right (PyData.depthAll ds) d.depth;omega) ⟨.bl _,H,I,rfl,q⟩
theorem S5 (hq:QA X.A):OpR X (compareOp .NotIn) (am2 X.K true):=by
 intro pins s σ H x y v u Q I rx ry h
 obtain⟨d,ds,ix,iy,h1,h2,h3,q⟩:=h
 obtain⟨bs,rb⟩:=Is.reads I d x v ix rx
 rcases iy with iy | iy
 . obtain⟨as,ra⟩:=Is.reads I _ y u iy ry
   exact SeqAt.notIn_list_reads ra rb h1 h2 (by have:=hq.un;have:=Nat.min_le_right (PyData.depthAll ds) d.depth;omega) ⟨.bl _,H,I,rfl,q⟩
 obtain⟨as,ra⟩:=Is.reads I _ y u iy ry
 exact SeqAt.notIn_tuple_reads ra rb h1 h2 (by have:=hq.un;have:=Nat.min_le_right (PyData.depthAll ds) d.depth;omega) ⟨.bl _,H,I,rfl,q⟩
def Wx (K:PySem.W.Frag)(neg:Bool):R2:=fun x y H Q=>rIn K neg x y H Q\/rInT neg x y H Q\/ao4 neg x y H Q\/am2 K neg x y H Q
theorem QA.hu {A:Around}(h:QA A):A.units+1<cLine:=by have:=h.un;omega
theorem a96 (hq:QA X.A):OpR X (compareOp .In) (Wx X.K false):=op_in_seq.or (op_in_str.or ((a88 hq.hu).or (ah9 hq)))
theorem Ud (hq:QA X.A):OpR X (compareOp .NotIn) (Wx X.K true):=op_notIn_seq.or (op_notIn_str.or ((Tq hq.hu).or (S5 hq)))
def a99 (K:PySem.W.Frag):V->Option Int->Option Int->Hp->VK->Prop:=fun x lo hi H Q=>ar4 K x lo hi H Q\/aq0 K x lo hi H Q\/aq5 x lo hi H Q\/ap1 K x lo hi H Q
theorem sl_A:SlR X (a99 X.K):=sl_list.or (sl_tup.or (sl_str.or W4))
def aq3:R2:=fun x y H Q=>∃ a v,x = .ref a/\DGet H a y (some v)/\Q v H
theorem Zw (hu:X.A.units+1<cLine):IxR X aq3:=by
 intro value slice pins s σ H x y v u Q I rx ry h hs
 obtain⟨a,z,rfl,g,q⟩:=h
 cases rx
 exact tail_any (O8 I g) PySem.F.slot_dict_getitem.lookup (U0 hu I g ry fun w' s' I' rw'=>⟨z,H,I',rw',q⟩) hs
def P3 (K:PySem.W.Frag):R2:=fun x y H Q=>rIx K x y H Q\/aq3 x y H Q
theorem a79 (hu:X.A.units+1<cLine):IxR X (P3 X.K):=ix_seq.or (Zw hu)
def Qn (K:PySem.W.Frag):List V->Hp->VK->Prop:=fun xs H Q=>(∃ x n,xs=[x]/\ap0 K x H n/\Q (.int n) H)\/∃ a kvs,xs=[V.ref a]/\H a=some (.dK kvs)/\Q (.int kvs.length) H
theorem Tu:CallR X (.builtin "len") (Qn X.K):=call_len.or Tf
def Jp (K:PySem.W.Frag):List V->Hp->VK->Prop:=fun xs H Q=>(∃ x c t b,xs=[x,.ty c]/\Jw K H x t/\PySem.W.kitOne K t (.type c)=some b/\Q (.bl b) H)\/(∃ x c t b,xs=[x,.ref c]/\Jw K H x t/\PySem.W.kitOne K t (.ref c)=some b/\Q (.bl b) H)\/∃ a ys c b,xs=[V.ref a,.ty c]/\((SqT K H a ys/\PySem.W.kitOne K (.type "tuple") (.type c)=some b)\/(SqL K H a ys/\PySem.W.kitOne K (.type "list") (.type c)=some b))/\Q (.bl b) H
theorem Mz:CallR X (.builtin "isinstance") (Jp X.K):=call_isinst.or (call_isinstR.or N5)
def Qa (K:PySem.W.Frag):List V->Hp->VK->Prop:=fun xs H Q=>∃ p ys,xs=[.ref p]/\(SqL K H p ys\/SqT K H p ys)/\∀ l,H l=none->Q (.ref l) (upd H l (.lst ys))
theorem Rk:CallR X (.type "list") (Qa X.K):=Nw
def O7 (K:PySem.W.Frag):List V->Hp->VK->Prop:=fun xs H Q=>∃ p ys,xs=[.ref p]/\((SqL K H p ys/\∀ l,H l=none->Q (.ref l) (upd H l (.tup ys)))\/(SqT K H p ys/\Q (.ref p) H))
theorem Oe:CallR X (.type "tuple") (O7 X.K):=Lw
def aa3:List V->Hp->VK->Prop:=fun xs H Q=>(∃ b,xs=[.bl b]/\Q (.str (if b then "True" else "False")) H)\/(xs=[.non]/\Q (.str "None") H)
theorem Km:CallR X (.builtin "repr") aa3:=Rf
def ag8:List V->Hp->VK->Prop:=fun xs H Q=>(∃ i,xs=[.int i]/\Q (.int i) H)\/∃ k,xs=[.bl k]/\Q (.int (if k then 1 else 0)) H
theorem Sn:CallR X (.type "int") ag8:=To
def Z7 (K:PySem.W.Frag):List V->Hp->VK->Prop:=fun xs H Q=>∃(a:Addr) (bs:List Bool),xs=[.ref a]/\SqL K H a (bs.map V.bl)/\Q (.bl (bs.all id)) H
theorem Rw (hc:X.calm=true):CallR X (.builtin "all") (Z7 X.K):=W0 hc
variable {tg:Expr}
def Gn (K:PySem.W.Frag)(x:V)(H1:Hp)(R:It->Hp->Prop):Prop:=(∃ a,x = .ref a/\(∃ xs,SqL K H1 a xs)/\R (Itl K a) H1)\/(∃ a,x = .ref a/\(∃ xs,SqT K H1 a xs)/\R (Itt K a) H1)\/(∃ z,x = .str z/\R (Its z) H1)\/∃ a kvs,x = .ref a/\((H1 a=some (.dK kvs)/\∀ o,R (Itd a o kvs) (upd H1 a (.frz o (.dK kvs))))\/∃ o,H1 a=some (.frz o (.dK kvs))/\R (Itd a o kvs) H1)
def ak8 (K:PySem.W.Frag)(tl:TE):TI:=fun σ H R=>tl σ H fun x H1=>Gn K x H1 R
theorem aa1 (hu:X.A.units+1<cLine){l:Expr}{tl:TE}(hl:PE X l tl):PI X tg l (ak8 X.K tl):=by
 intro pins s σ H R I h
 refine thn (hl pins s σ H _ I h) fun v s1 ⟨x,H1,I1,r1,q1⟩=>?_
 rcases q1 with ⟨a,e,⟨xs,hq⟩,q⟩ | ⟨a,e,⟨xs,hq⟩,q⟩ | ⟨z,e,q⟩ | ⟨a,kvs,e,q⟩
 . subst e
   cases r1
   obtain⟨its,rv,p,hz⟩:=I1.list hq
   refine wpAny_pyIter_list p.isList ?_
   refine⟨s1.heap.objs.size,[s1.heap.objs.size],_,_,H1,rfl,I1.kept (t':=s1.toks) fun b o e=>Heap.get?_push_of_some _ e,Te a _,⟨_,Heap.get?_push_size _ rfl,rfl,rfl⟩,fun b hb=>?_,q⟩
   have e:b=s1.heap.objs.size:=by simpa using hb
   subst e
   exact I1.fpOk (Nat.le_refl _) (I1.hok.fresh (Nat.le_refl _))
 . subst e
   cases r1
   obtain⟨its,rv,p,hz⟩:=I1.tuple hq
   refine wpAny_pyIter_tuple (show s1.heap.IsTuple a its.toArray from p) ?_
   refine⟨s1.heap.objs.size,[s1.heap.objs.size],_,_,H1,rfl,I1.kept (t':=s1.toks) fun b o e=>Heap.get?_push_of_some _ e,R9 a _,⟨_,Heap.get?_push_size _ rfl,rfl,rfl⟩,fun b hb=>?_,q⟩
   have e:b=s1.heap.objs.size:=by simpa using hb
   subst e
   exact I1.fpOk (Nat.le_refl _) (I1.hok.fresh (Nat.le_refl _))
 . subst e
   exact ai5 I1 r1 q
 subst e
 cases r1
 rcases q with ⟨hd,q⟩ | ⟨o,hd,q⟩
 . exact a37 I1 hd q
 exact Wf I1 hd q
end
def Fnd (P:Program)(w:World)(K:PySem.W.Frag)(mg:Str->Option Value)(base:Heap)(k:Nat)(x:Str)(ps:List Str)(sp:Sp):Prop:=
 ∃ f fd,FnOk P w K mg base CX0 k f fd ps sp/\mg x=some (.ref f)/\PySem.W.keepIn K (.ref f)=true/\Binds K fd ps []
section
variable {X:Cx}{k:Nat}{x:Str}{ps:List Str}{sp:Sp}{e:Expr}{es:List Expr}{t:TA}{p pos:Pos}
theorem B0 (F:Fnd X.prog X.w X.K X.mg X.base k x ps sp)(hr:Room k X.A)(hg:Gl X x)(ha:PA X (e :: es) t)(hdb:(x==("__debug__":Str))=false:=by decide)
  (he:starEach (e :: es) X.env=(false,eval e X.env) :: starEach es X.env:=by ac_nf) (hpl:(backTo pos (starEach es X.env)).any (·.1)=false:=by ac_nf):PE X (.Call (.Name x p) (e :: es) [] pos) (V8 sp [] E0 t):=by
 obtain⟨f,fd,h1,h2,h3,h4⟩:=F
 exact Ti h1 hr hg h2 h3 h4 .nil a55 ha hdb he hpl
end
def ExtBut (d:Addr)(H H':Hp):Prop:=∀ b o,b≠d->H b=some o->H' b=some o
theorem Same.lk {H H':Hp}{a:Addr}{o:HO}(e:Same H H')(h:H a=some o):H' a=some o:=e a o h
theorem Same.upd {H:Hp}{p:Addr}{o:HO}(h:H p=none):Same H (upd H p o):=fun b u e=>by rw[Ap (ne_of_none e h)];exact e
theorem ExtBut.upd {H:Hp}{p:Addr}{o:HO}:ExtBut p H (upd H p o):=fun b u n e=>by rw[Ap n];exact e
theorem Same.but {d:Addr}{H H':Hp}(e:Same H H'):ExtBut d H H':=fun b o _ h=>e b o h
theorem ExtBut.trans {d:Addr}{H H1 H2:Hp}(a:ExtBut d H H1)(b:ExtBut d H1 H2):ExtBut d H H2:=fun c o n h=>b c o n (a c o n h)
theorem ExtBut.same {d:Addr}{H H1 H2:Hp}(a:ExtBut d H H1)(b:Same H1 H2):ExtBut d H H2:=fun c o n h=>b c o (a c o n h)
theorem ExtBut.after {d:Addr}{H H1 H2:Hp}(a:Same H H1)(b:ExtBut d H1 H2):ExtBut d H H2:=fun c o n h=>b c o n (a c o h)
theorem ExtBut.refl {d:Addr}{H:Hp}:ExtBut d H H:=fun _ _ _ h=>h
def a82 (xs:List V)(H:Hp)(Q:VK):Prop:=xs.length<=sizeLine/\∀ p,H p=none->Q (.ref p) (upd H p (.tup xs))
def aj0 (xs:List V)(H:Hp)(Q:VK):Prop:=xs.length<=sizeLine/\∀ p,H p=none->Q (.ref p) (upd H p (.lst xs))
def ag6 (vs:List V)(H:Hp)(R:It->Hp->Prop):Prop:=∃ j:Int,vs=[.int j] /\ -(2 ^ 62)<=j/\j<2 ^ 62/\R (Itr 0 j.toNat) H
def af9 (vs:List V)(H:Hp)(R:It->Hp->Prop):Prop:=∃ i j:Int,vs=[.int i,.int j]/\(-(2 ^ 62)<=i/\i<2 ^ 62 /\ -(2 ^ 62)<=j/\j<2 ^ 62)/\R (Itr i (j-i).toNat) H
def aa6 (g:TG)(tb:TS)(D:Ends)(σ:St)(J:It)(H1:Hp):Prop:=∃ W:Nat->Nat->St->Hp->Prop,(∃ m,W 0 m σ H1)/\∀ i m σ H,W i m σ H ->
 (J.stop i H/\D.nx σ H)\/(J.go i H/\∃ N:St->Hp->Prop,(∀ σ' H',N σ' H'->∃ m',m'<m/\W (i+1) m' σ' H')/\∀ x H',J.yld i H x H'->g x σ H' fun σ2 H2=>tb { D with nx:=N,ct:=N,bk:=D.nx } σ2 H2)
def Nf (k:Nat)(js:List Nat)(g:TG)(tt:TT)(te:TE)(σ:St)(J:It)(H1:Hp)(Q:VK):Prop:=∀ p,H1 p=none ->
 ∃ W:Nat->Nat->Hp->Prop,(∃ m,W 0 m (upd H1 p (.lst [])))/\∀ i m H,W i m H ->
  (J.stop i H/\Q (.ref p) H)\/(J.go i H/\∃ N:Hp->Prop,(∀ H',N H'->∃ m',m'<m/\W (i+1) m' H') /\
   ∀ x H',J.yld i H x H'->g x (List.replicate k none++M5 σ js) H' fun σ2 H2=>tt σ2 H2 fun b H3=>
    if b=true then te σ2 H3 fun y H4=>∃ acc,H4 p=some (.lst acc)/\acc.length<sizeLine/\N (upd H4 p (.lst (acc++[y]))) else N H3)
def Ya (p:Addr)(ps:List (V×V))(H:Hp)(Q:VK):Prop:=H p=some (.dK [])/\∃ kvs:List (Key×V),ps=kvs.map (fun kv=>(kV kv.1,kv.2))/\kvs.length<=15/\Q (.ref p) (upd H p (.dK (Ci [] kvs)))
section
variable {K:PySem.W.Frag}{σ:St}{H:Hp}{Q:VK}{D:Ends}{ta tb te:TE}{c:TT}{t u:TS}{x y v:V}{i j:Int}
theorem i_var {n:Nat}(h:σ[n]? = some (some v))(k:Q v H):ak6 n σ H Q:=⟨v,h,k⟩
theorem i_c (k:Q v H):tC v σ H Q:=k
theorem i_next (k:D.nx σ H):ah5 D σ H:=k
theorem i_ret (k:te σ H D.rt):ao7 te D σ H:=k
theorem i_drop (k:te σ H fun _ H1=>D.nx σ H1):a86 te D σ H:=k
theorem i_asg {g:TG}(k:te σ H fun x H1=>g x σ H1 D.nx):a73 te g D σ H:=k
theorem i_gname {n:Nat}{R:St->Hp->Prop}(k:R (σ.set n (some v)) H):Nc n v σ H R:=k
theorem i_if (k:c σ H fun b H1=>if b=true then t D σ H1 else u D σ H1):ar2 c t u D σ H:=k
theorem i_op {r:R2}(k:ta σ H fun x H1=>tb σ H1 fun y H2=>r x y H2 Q):tOp r ta tb σ H Q:=k
theorem i_un {r:V->Hp->VK->Prop}(k:ta σ H fun x H1=>r x H1 Q):tUn r ta σ H Q:=k
theorem i_rU {g:Int->V}(k:Q (g i) H):rU g (.int i) H Q:=⟨i,rfl,k⟩
theorem i_rI0 {g:Int->Int->V}(k:Q (g i j) H):rI0 g (.int i) (.int j) H Q:=⟨i,j,rfl,rfl,k⟩
theorem i_rI {C:Int->Int->Prop}{g:Int->Int->V}(h:C i j)(k:Q (g i j) H):rI C g (.int i) (.int j) H Q:=⟨i,j,rfl,rfl,h,k⟩
theorem i_addI (k:Q (.int (i+j)) H):Qi K (.int i) (.int j) H Q:=.inl ⟨i,j,rfl,rfl,k⟩
theorem i_addS {a b:Str}(h:a.length+b.length<=sizeLine)(k:Q (.str (a++b)) H):Qi K (.str a) (.str b) H Q:=.inr (.inl ⟨a,b,rfl,rfl,h,k⟩)
theorem Fv {a b:Addr}{xs ys:List V}(h1:H a=some (.lst xs))(h2:H b=some (.lst ys))(h:xs.length+ys.length<=sizeLine)(k:∀ p H',H p=none->Same H H'->H' p=some (.lst (xs++ys))->Q (.ref p) H'):Qi K (.ref a) (.ref b) H Q:=
 .inr (.inr (.inl ⟨a,b,xs,ys,rfl,rfl,h1,h2,h,fun p hp=>k p _ hp (Same.upd hp) A9⟩))
theorem a92 (h:CMul i j)(k:Q (.int (i*j)) H):Z3 (.int i) (.int j) H Q:=.inl ⟨i,j,rfl,rfl,h,k⟩
theorem i_eqS (h:aj9 x y=true)(k:Q (.bl (decide (x=y))) H):aj6 K x y H Q:=.inl ⟨h,k⟩
theorem i_neS (h:aj9 x y=true)(k:Q (.bl (!decide (x=y))) H):ak3 K x y H Q:=.inl ⟨h,k⟩
theorem Rm {dx dy:PyData}(h1:Is K H dx x)(h2:Is K H dy y)(h3:SeqAt.shaped dx=true)(h4:SeqAt.shaped dy=true)(k:Q (.bl (PyData.eqv dx dy)) H):aj6 K x y H Q:=.inr ⟨dx,dy,h1,h2,h3,h4,k⟩
theorem Wb {dx dy:PyData}(h1:Is K H dx x)(h2:Is K H dy y)(h3:SeqAt.shaped dx=true)(h4:SeqAt.shaped dy=true)(k:Q (.bl (!PyData.eqv dx dy)) H):ak3 K x y H Q:=.inr ⟨dx,dy,h1,h2,h3,h4,k⟩
theorem i_true {R:Bool->Hp->Prop}(k:R true H):Vw σ H R:=k
theorem i_tTest {R:Bool->Hp->Prop}(k:te σ H fun x H'=>∃ b,x = .bl b/\R b H'):ah1 te σ H R:=k
theorem i_tB {R:Bool->Hp->Prop}(k:te σ H fun x H'=>∃ b,x = .bl b/\R b H'):tB te σ H R:=k
theorem i_bl {b:Bool}{R:Bool->Prop}(k:R b):∃ c,V.bl b = .bl c/\R c:=⟨b,rfl,k⟩
theorem i_not {R:Bool->Hp->Prop}(k:c σ H fun b H1=>R (!b) H1):ar7 c σ H R:=k
theorem i_and {c':TT}{R:Bool->Hp->Prop}(k:c σ H fun b H1=>if b=true then c' σ H1 R else R false H1):aq4 c c' σ H R:=k
theorem i_or {c':TT}{R:Bool->Hp->Prop}(k:c σ H fun b H1=>if b=true then R true H1 else c' σ H1 R):tOr c c' σ H R:=k
theorem K3 {a:Addr}{xs:List V}(h:H a=some (.lst xs))(e:atI xs i=some v)(k:Q v H):P3 K (.ref a) (.int i) H Q:=.inl (.inl ⟨a,xs,i,v,rfl,rfl,SqL.of h,e,k⟩)
theorem Yw {z:Str}{s:Nat}(h:z.length<=sizeLine)(e:atI z.cps.toList i=some s)(k:Q (.str ⟨#[s]⟩) H):P3 K (.str z) (.int i) H Q:=.inl (.inr (.inr ⟨z,i,s,rfl,rfl,h,e,k⟩))
theorem i_ixD {a:Addr}{kvs:List (Key×V)}{z:Str}(h:H a=some (.dK kvs))(e:D3 kvs (Sum.inr z:Key)=some v)(k:Q v H):P3 K (.ref a) (.str z) H Q:=.inr ⟨a,v,rfl,by rw[<- e];exact DGet.k (k:=Sum.inr z) h,k⟩
theorem i_lenL {a:Addr}{xs:List V}(h:H a=some (.lst xs))(k:Q (.int xs.length) H):Qn K [.ref a] H Q:=.inl ⟨.ref a,_,rfl,.inl ⟨xs,SqL.of h,rfl⟩,k⟩
theorem Vd {c:String}{t:Value}{b:Bool}(h:Jw K H x t)(e:PySem.W.kitOne K t (.type c)=some b)(k:Q (.bl b) H):Jp K [x,.ty c] H Q:=.inl ⟨x,c,t,b,rfl,h,e,k⟩
theorem Tp {c:String}{b:Bool}{a:Addr}{ys:List V}(h:SqT K H a ys)(e:PySem.W.kitOne K (.type "tuple") (.type c)=some b)(k:Q (.bl b) H):Jp K [.ref a,.ty c] H Q:=.inr (.inr ⟨a,ys,c,b,rfl,.inl ⟨h,e⟩,k⟩)
theorem a01 {a:Addr}{xs:List V}(h:SqL K H a xs)(k:∀ p H',H p=none->Same H H'->H' p=some (.lst xs)->Q (.ref p) H'):Qa K [.ref a] H Q:=⟨a,xs,rfl,.inl h,fun p hp=>k p _ hp (Same.upd hp) A9⟩
theorem Ea {a:Addr}{xs:List V}(h:SqL K H a xs)(k:∀ p H',H p=none->Same H H'->H' p=some (.tup xs)->Q (.ref p) H'):O7 K [.ref a] H Q:=⟨a,xs,rfl,.inl ⟨h,fun p hp=>k p _ hp (Same.upd hp) A9⟩⟩
theorem i_intB {b:Bool}(k:Q (.int (if b then 1 else 0)) H):ag8 [.bl b] H Q:=.inr ⟨b,rfl,k⟩
theorem a87 {a:Addr}{bs:List Bool}(h:SqL K H a (bs.map V.bl))(k:Q (.bl (bs.all id)) H):Z7 K [.ref a] H Q:=⟨a,bs,rfl,h,k⟩
theorem i_sl {r:V->Option Int->Option Int->Hp->VK->Prop}{tl th:TO}(k:te σ H fun x H1=>tl σ H1 fun l H2=>th σ H2 fun u H3=>r x l u H3 Q):tSl r te tl th σ H Q:=k
theorem i_noPart {R:Option Int->Hp->Prop}(k:R none H):Uv σ H R:=k
theorem i_part {R:Option Int->Hp->Prop}(k:te σ H fun x H1=>∃ i,x = .int i/\R (some i) H1):ae4 te σ H R:=k
theorem i_int {R:Int->Prop}(k:R i):∃ j,V.int i = .int j/\R j:=⟨i,rfl,k⟩
theorem i_slS {z:Str}{lo hi:Option Int}(h:z.length<=sizeLine)(k:Q (.str (Txt.slice z lo hi)) H):a99 K (.str z) lo hi H Q:=.inr (.inr (.inl ⟨z,rfl,h,k⟩))
theorem J8 {a:Addr}{xs:List V}{lo hi:Option Int}(h:SqL K H a xs)(k:∀ p H',H p=none->Same H H'->H' p=some (.lst (Kf xs lo hi))->Q (.ref p) H'):a99 K (.ref a) lo hi H Q:=.inl ⟨a,xs,rfl,h,fun p hp=>k p _ hp (Same.upd hp) A9⟩
theorem i_bm {T:String}{r:V->List V->Hp->VK->Prop}{ts:TA}(k:te σ H fun x H1=>tyV K T x H1/\ts σ H1 fun xs H2=>r x xs H2 Q):tBM K T r te ts σ H Q:=k
theorem i_tyS {z:Str}{B:Prop}(k:B):tyV K "str" (.str z) H/\B:=⟨rfl,k⟩
theorem ae6 {z:Str}{a:Addr}{ys:List Str}(h:SqL K H a (ys.map V.str))(hz:(ys.map (·.length)).sum+ys.length*z.length<=16777216)(k:Q (.str (Txt.join z ys)) H):Za K (.str z) [.ref a] H Q:=⟨z,a,ys,rfl,rfl,h,hz,k⟩
theorem i_bm0 {T:String}{r:V->List V->Hp->VK->Prop}(k:te σ H fun x H1=>tyV K T x H1/\r x [] H1 Q):ak9 K T r te σ H Q:=k
theorem i_call {sp:Sp}{E:XK}{ts:TA}(k:ts σ H fun vs H1=>sp (vs++[]) H1 Q E):V8 sp [] E ts σ H Q:=k
theorem i_cb {r:List V->Hp->VK->Prop}{ts:TA}(k:ts σ H fun vs H1=>r vs H1 Q):tCB r ts σ H Q:=k
theorem i_cons {tr:TA}{R:List V->Hp->Prop}(k:ta σ H fun x H1=>tr σ H1 fun xs H2=>R (x :: xs) H2):ah2 ta tr σ H R:=k
theorem i_nil {R:List V->Hp->Prop}(k:R [] H):ap2 σ H R:=k
theorem i_tup {ts:TA}(k:ts σ H fun xs H1=>a82 xs H1 Q):aq1 ts σ H Q:=k
theorem i_lst {ts:TA}(k:ts σ H fun xs H1=>aj0 xs H1 Q):ap6 ts σ H Q:=k
theorem D9 {xs:List V}(h:xs.length<=sizeLine)(k:∀ p H',H p=none->Same H H'->H' p=some (.tup xs)->Q (.ref p) H'):a82 xs H Q:=⟨h,fun p hp=>k p _ hp (Same.upd hp) A9⟩
theorem Ax {xs:List V}(h:xs.length<=sizeLine)(k:∀ p H',H p=none->Same H H'->H' p=some (.lst xs)->Q (.ref p) H'):aj0 xs H Q:=⟨h,fun p hp=>k p _ hp (Same.upd hp) A9⟩
theorem Q5 (k:∀ p H',H p=none->Same H H'->H' p=some (.dK [])->Q (.ref p) H'):Xh σ H Q:=fun p hp=>k p _ hp (Same.upd hp) A9
theorem i_put {td ty tv:TE}(k:tv σ H fun v H1=>td σ H1 fun x H2=>ty σ H2 fun y H3=>∃ a H4,x = .ref a/\DPut H3 a y v H4/\D.nx σ H4):ae5 td ty tv D σ H:=k
theorem Gg {a:Addr}{kvs:List (Key×V)}{z:Str}{R:Hp->Prop}(h:H a=some (.dK kvs))(hl:kvs.length<1000)(k:∀ H',ExtBut a H H'->H' a=some (.dK (Db kvs (Sum.inr z) v))->R H'):∃ b H4,V.ref a = .ref b/\DPut H b (.str z) v H4/\R H4:=
 ⟨a,_,rfl,DPut.k (k:=Sum.inr z) h (Ru (Nat.le_of_lt hl)),k _ ExtBut.upd A9⟩
theorem i_for {wi:TI}{g:TG}{tb:TS}(k:wi σ H fun J H1=>aa6 g tb D σ J H1):aq8 wi g tb D σ H:=k
theorem i_comp {m:Nat}{js:List Nat}{wi:TI}{g:TG}{tt:TT}(k:wi σ H fun J H1=>Nf m js g tt te σ J H1 Q):Zc m js wi g tt te σ H Q:=k
theorem Gr {a:Addr}{xs:List V}{R:It->Hp->Prop}(h:SqL K H a xs)(k:R (Itl K a) H):Gn K (.ref a) H R:=.inl ⟨a,rfl,⟨xs,h⟩,k⟩
theorem O5 {a:Addr}{xs:List V}{R:It->Hp->Prop}(h:SqT K H a xs)(k:R (Itt K a) H):Gn K (.ref a) H R:=.inr (.inl ⟨a,rfl,⟨xs,h⟩,k⟩)
theorem i_rng1 {ts:TA}{R:It->Hp->Prop}(k:ts σ H fun vs H1=>ag6 vs H1 R):ac6 ts σ H R:=k
theorem G7 {R:It->Hp->Prop}(h:-(2 ^ 62)<=i/\i<2 ^ 62)(k:R (Itr 0 i.toNat) H):ag6 [V.int i] H R:=⟨i,rfl,h.1,h.2,k⟩
theorem i_rng2 {ts:TA}{R:It->Hp->Prop}(k:ts σ H fun vs H1=>af9 vs H1 R):aa0 ts σ H R:=k
theorem a94 {R:It->Hp->Prop}(h:(-(2 ^ 62)<=i/\i<2 ^ 62) /\ -(2 ^ 62)<=j/\j<2 ^ 62)(k:R (Itr i (j-i).toNat) H):af9 [V.int i,V.int j] H R:=⟨i,j,rfl,⟨h.1.1,h.1.2,h.2.1,h.2.2⟩,k⟩
theorem i_iany {R:It->Hp->Prop}(k:te σ H fun x H1=>Gn K x H1 R):ak8 K te σ H R:=k
theorem Xj {trs:List (TE×TE)}(k:∀ p H1,H p=none->Same H H1->H1 p=some (.dK [])->Ja trs σ H1 fun ps H2=>Ya p ps H2 Q):ae9 trs σ H Q:=fun p hp=>k p _ hp (Same.upd hp) A9
theorem i_pair {tk tv:TE}{r:List (TE×TE)}{R:List (V×V)->Hp->Prop}(k:tk σ H fun x H1=>tv σ H1 fun y H2=>Ja r σ H2 fun ps H3=>R ((x,y) :: ps) H3):Ja ((tk,tv) :: r) σ H R:=k
theorem Rr {p:Addr}{ps:List (V×V)}(kvs:List (Key×V))(h:H p=some (.dK []))(e:ps=kvs.map (fun kv=>(kV kv.1,kv.2)))(hl:kvs.length<=15)(k:∀ H',ExtBut p H H'->H' p=some (.dK (Ci [] kvs))->Q (.ref p) H'):Ya p ps H Q:=⟨h,kvs,e,hl,k _ ExtBut.upd A9⟩
theorem i_pair0 {R:List (V×V)->Hp->Prop}(k:R [] H):Ja [] σ H R:=k
end
theorem Fr {c A B:Prop}[Decidable c](h1:c->A)(h2:¬ c->B):if decide c=true then A else B:=by
 by_cases h:c
 . rw[if_pos (decide_eq_true h)];exact h1 h
 rw[if_neg (by rw[decide_eq_false h];exact Bool.false_ne_true)];exact h2 h
theorem af2 {c A B:Prop}[Decidable c](h1:¬ c->A)(h2:c->B):if(!decide c)=true then A else B:=by
 by_cases h:c
 . rw[decide_eq_true h,if_neg (by decide)];exact h2 h
 rw[decide_eq_false h,if_pos (by decide)];exact h1 h
theorem a77 {b:Bool}{A B:Prop}(h1:b=true->A)(h2:b=false->B):if b=true then A else B:=by
 cases b
 . rw[if_neg Bool.false_ne_true];exact h2 rfl
 rw[if_pos rfl];exact h1 rfl
theorem Tz {b:Bool}{A B:Prop}(h1:b=false->A)(h2:b=true->B):if(!b)=true then A else B:=by
 cases b
 . exact h1 rfl
 exact h2 rfl
theorem iteNT {A B:Prop}(h:B):if(!true)=true then A else B:=h
theorem iteNF {A B:Prop}(h:A):if(!false)=true then A else B:=h
theorem A8 {n:Nat}(h:n<=1000000):n<=sizeLine:=by rw[sizeLine_eq];omega
def Fc (J:It)(xs:List V)(G:Hp->Prop):Prop:=
 ∀ i H,G H->(i<xs.length->J.go i H)/\(xs.length<=i->J.stop i H)/\∀ x H',i<xs.length->J.yld i H x H'->H'=H/\xs[i]? = some x
theorem Bk {K:PySem.W.Frag}{a:Addr}{xs:List V}:Fc (Itl K a) xs fun H=>SqL K H a xs:=by
 intro i H g
 refine⟨fun h=>⟨xs,xs[i],g,List.getElem?_eq_getElem h⟩,fun h=>⟨xs,g,h⟩,fun x H' _ h=>⟨h.1,h.2 xs g⟩⟩
theorem Et {K:PySem.W.Frag}{a:Addr}{xs:List V}:Fc (Itt K a) xs fun H=>SqT K H a xs:=by
 intro i H g
 refine⟨fun h=>⟨xs,xs[i],g,List.getElem?_eq_getElem h⟩,fun h=>⟨xs,g,h⟩,fun x H' _ h=>⟨h.1,h.2 xs g⟩⟩
theorem Bq {lo:Int}{n:Nat}:Fc (Itr lo n) ((List.range n).map fun(i:Nat)=>V.int (lo+(i:Int))) fun _=>True:=by
 intro i H _
 refine⟨fun h=>?_,fun h=>?_,fun x H' hi h=>?_⟩
 . show i<n
   simpa using h
 . show n<=i
   simpa using h
 obtain⟨e,hx⟩:=h
 refine⟨e,?_⟩
 have hi':i<n:=by simpa using hi
 rw[List.getElem?_map,List.getElem?_range hi',hx]
 rfl
theorem V3 {J:It}{xs:List V}{G:Hp->Prop}{g:TG}{tb:TS}{D:Ends}{σ:St}{H:Hp}(hw:Fc J xs G)(Pv:Nat->St->Hp->Prop)(h0:Pv 0 σ H)(hG:∀ i σ H,Pv i σ H->G H)
  (hs:∀ i x σ H,xs[i]? = some x->Pv i σ H->g x σ H fun σ2 H2=>tb { D with nx:=Pv (i+1),ct:=Pv (i+1),bk:=D.nx } σ2 H2) (hd:∀ σ H,Pv xs.length σ H->D.nx σ H) :
  ∃ W:Nat->Nat->St->Hp->Prop,(∃ m,W 0 m σ H)/\∀ i m σ H,W i m σ H ->
   (J.stop i H/\D.nx σ H)\/(J.go i H/\∃ N:St->Hp->Prop,(∀ σ' H',N σ' H'->∃ m',m'<m/\W (i+1) m' σ' H')/\∀ x H',J.yld i H x H'->g x σ H' fun σ2 H2=>tb { D with nx:=N,ct:=N,bk:=D.nx } σ2 H2):=by
 refine⟨fun i m σ H=>m=xs.length-i/\i<=xs.length/\Pv i σ H,⟨xs.length,by simp,Nat.zero_le _,h0⟩,?_⟩
 rintro i m σ H ⟨rfl,hi,p⟩
 obtain⟨w1,w2,w3⟩:=hw i H (hG i σ H p)
 by_cases hlt:i<xs.length
 . refine .inr ⟨w1 hlt,Pv (i+1),fun σ' H' p'=>⟨xs.length-(i+1),by omega,rfl,hlt,p'⟩,fun x H' y=>?_⟩
   obtain⟨e,hx⟩:=w3 x H' hlt y
   subst e
   exact hs i x σ _ hx p
 have e:i=xs.length:=by omega
 subst e
 exact .inl ⟨w2 (Nat.le_refl _),hd σ H p⟩
def CN (p:Addr)(n:Nat)(Pv:Nat->List V->Hp->Prop)(i:Nat):Hp->Prop:=fun H'=>i+1<=n/\∃ acc,H' p=some (.lst acc)/\acc.length<=i+1/\Pv (i+1) acc H'
theorem a34 {p:Addr}{n:Nat}{Pv:Nat->List V->Hp->Prop}{i:Nat}{H:Hp}{acc:List V}{y:V}(hn:n<=1000000)(hi:i<n)(hl:acc.length<=i)(e:H p=some (.lst acc))(k:∀ H',ExtBut p H H'->H' p=some (.lst (acc++[y]))->Pv (i+1) (acc++[y]) H') :
  ∃ acc,H p=some (.lst acc)/\acc.length<sizeLine/\CN p n Pv i (upd H p (.lst (acc++[y]))):=
 ⟨acc,e,by rw[sizeLine_eq];omega,hi,acc++[y],A9,by rw[List.length_append,List.length_singleton];omega,k _ ExtBut.upd A9⟩
theorem Uk {p:Addr}{n:Nat}{Pv:Nat->List V->Hp->Prop}{i:Nat}{H:Hp}{acc:List V}(hi:i<n)(hl:acc.length<=i)(e:H p=some (.lst acc))(k:Pv (i+1) acc H):CN p n Pv i H:=⟨hi,acc,e,by omega,k⟩
theorem U8 {J:It}{xs:List V}{G:Hp->Prop}{g:TG}{tt:TT}{te:TE}{σ:St}{H:Hp}{Q:VK}{p:Addr}{k:Nat}{js:List Nat}(hw:Fc J xs G)(hp:H p=none)(Pv:Nat->List V->Hp->Prop)
  (h0:∀ H',Same H H'->H' p=some (.lst [])->Pv 0 [] H') (hG:∀ i acc H,Pv i acc H->G H)
  (hs:∀ i x acc H,xs[i]? = some x->i<xs.length->acc.length<=i->H p=some (.lst acc)->Pv i acc H->g x (List.replicate k none++M5 σ js) H fun σ2 H2=>tt σ2 H2 fun b H3=>
   if b=true then te σ2 H3 fun y H4=>∃ acc,H4 p=some (.lst acc)/\acc.length<sizeLine/\CN p xs.length Pv i (upd H4 p (.lst (acc++[y]))) else CN p xs.length Pv i H3)
  (hd:∀ acc H,H p=some (.lst acc)->acc.length<=xs.length->Pv xs.length acc H->Q (.ref p) H) :
  ∃ W:Nat->Nat->Hp->Prop,(∃ m,W 0 m (upd H p (.lst [])))/\∀ i m H,W i m H ->
   (J.stop i H/\Q (.ref p) H)\/(J.go i H/\∃ N:Hp->Prop,(∀ H',N H'->∃ m',m'<m/\W (i+1) m' H') /\
    ∀ x H',J.yld i H x H'->g x (List.replicate k none++M5 σ js) H' fun σ2 H2=>tt σ2 H2 fun b H3=>
     if b=true then te σ2 H3 fun y H4=>∃ acc,H4 p=some (.lst acc)/\acc.length<sizeLine/\N (upd H4 p (.lst (acc++[y]))) else N H3):=by
 refine⟨fun i m H=>m=xs.length-i/\i<=xs.length/\∃ acc,H p=some (.lst acc)/\acc.length<=i/\Pv i acc H,⟨xs.length,by simp,Nat.zero_le _,[],A9,Nat.le_refl _,h0 _ (Same.upd hp) A9⟩,?_⟩
 rintro i m H ⟨rfl,hi,acc,hacc,hl,q⟩
 obtain⟨w1,w2,w3⟩:=hw i H (hG i acc H q)
 by_cases hlt:i<xs.length
 . refine .inr ⟨w1 hlt,CN p xs.length Pv i,fun H' ⟨h1,h2⟩=>⟨xs.length-(i+1),by omega,rfl,h1,h2⟩,fun x H' y=>?_⟩
   obtain⟨e,hx⟩:=w3 x H' hlt y
   subst e
   exact hs i x acc _ hx hlt hl hacc q
 have e:i=xs.length:=by omega
 subst e
 exact .inl ⟨w2 (Nat.le_refl _),hd acc H hacc hl q⟩
def ah6 (p:Addr)(N:Hp->Prop):VK:=fun y H4=>∃ acc,H4 p=some (.lst acc)/\acc.length<sizeLine/\N (upd H4 p (.lst (acc++[y])))
theorem Fi {J:It}{xs:List V}{G:Hp->Prop}{g:TG}{tt:TT}{te:TE}{σ:St}{H:Hp}{Q:VK}{k:Nat}{js:List Nat}(hw:Fc J xs G)(Pv:Addr->Nat->List V->Hp->Prop)
  (h0:∀ p H',H p=none->Same H H'->H' p=some (.lst [])->Pv p 0 [] H') (hG:∀ p i acc H,Pv p i acc H->G H)
  (hs:∀ p i x acc H1,H p=none->xs[i]? = some x->i<xs.length->acc.length<=i->H1 p=some (.lst acc)->Pv p i acc H1->g x (List.replicate k none++M5 σ js) H1 fun σ2 H2=>tt σ2 H2 fun b H3=>
   if b=true then te σ2 H3 (ah6 p (CN p xs.length (Pv p) i)) else CN p xs.length (Pv p) i H3)
  (hd:∀ p acc H1,H p=none->H1 p=some (.lst acc)->acc.length<=xs.length->Pv p xs.length acc H1->Q (.ref p) H1):Nf k js g tt te σ J H Q:=fun p hp=>
 U8 hw hp (Pv p) (fun H' e h=>h0 p H' hp e h) (hG p) (fun i x acc H1 h1 h2 h3 h4 h5=>hs p i x acc H1 hp h1 h2 h3 h4 h5) fun acc H1 h1 h2 h3=>hd p acc H1 hp h1 h2 h3
theorem Ho {p:Addr}{n:Nat}{Pv:Nat->List V->Hp->Prop}{i:Nat}{H:Hp}{acc:List V}{y:V}(hn:n<=1000000)(hi:i<n)(hl:acc.length<=i)(e:H p=some (.lst acc))(k:∀ H',ExtBut p H H'->H' p=some (.lst (acc++[y]))->Pv (i+1) (acc++[y]) H') :
  ah6 p (CN p n Pv i) y H:=a34 hn hi hl e k
theorem N7 {J:It}{xs:List V}{G:Hp->Prop}{g:TG}{tt:TT}{te:TE}{σ:St}{H:Hp}{Q:VK}{k:Nat}{js:List Nat}(hw:Fc J xs G)(t:V->Bool)(f:V->V)(hz:xs.length<=1000000)(hG:∀ H',Same H H'->G H')
  (hs:∀(i:Nat) x H1 (R:VK) (R':Hp->Prop),xs[i]? = some x->Same H H1->(t x=true->R (f x) H1)->(t x=false->R' H1)->g x (List.replicate k none++M5 σ js) H1 fun σ2 H2=>tt σ2 H2 fun b H3=>if b=true then te σ2 H3 R else R' H3)
  (hd:∀ p H',H p=none->Same H H'->H' p=some (.lst ((xs.filter t).map f))->Q (.ref p) H'):Nf k js g tt te σ J H Q:=by
 refine Fi hw (fun p i acc H1=>Same H H1/\acc=((xs.take i).filter t).map f) (fun p H' hp e h=>⟨e,by simp⟩) (fun p i acc H1 h=>hG H1 h.1) (fun p i x acc H1 hp hx hi hl ha ⟨e,hacc⟩=>?_) fun p acc H1 hp ha hl ⟨e,hacc⟩=>?_
 . have ht:xs.take (i+1)=xs.take i++[x]:=by rw[List.take_add_one,hx];rfl
   refine hs i x H1 _ _ hx e (fun h=>?_) fun h=>?_
   . refine Ho hz hi hl ha fun H' e' h'=>⟨fun b o hb=>e' b o (ne_of_none hb hp) (e b o hb),?_⟩
     rw[ht,List.filter_append,List.map_append,hacc]
     simp[h]
   refine Uk hi hl ha ⟨e,?_⟩
   rw[ht,List.filter_append,List.map_append,hacc]
   simp[h]
 refine hd p H1 hp e ?_
 rw[ha,hacc,List.take_length]
theorem Jh {α:Type}(xs:List α):xs.filter (fun _=>true)=xs:=by simp
theorem L3 {J:It}{xs:List V}{G:Hp->Prop}{g:TG}{te:TE}{σ:St}{H:Hp}{Q:VK}{k:Nat}{js:List Nat}(hw:Fc J xs G)(f:V->V)(hz:xs.length<=1000000)(hG:∀ H',Same H H'->G H')
  (hs:∀(i:Nat) x H1 (R:VK),xs[i]? = some x->Same H H1->R (f x) H1->g x (List.replicate k none++M5 σ js) H1 fun σ2 H2=>te σ2 H2 R)
  (hd:∀ p H',H p=none->Same H H'->H' p=some (.lst (xs.map f))->Q (.ref p) H'):Nf k js g Vw te σ J H Q:=
 N7 hw (fun _=>true) f hz hG (fun i x H1 R R' hx e h _=>by
  have:=hs i x H1 R hx e (h rfl)
  show g x _ H1 fun σ2 H2=>if true=true then te σ2 H2 R else R' H2
  simpa using this) fun p H' hp e h=>hd p H' hp e (by rw[h,Jh])
theorem Dq {J:It}{xs:List V}{G:Hp->Prop}{g:TG}{tb:TS}{D:Ends}{σ:St}{H:Hp}(hw:Fc J xs G)(Pv:Nat->St->Hp->Prop)(h0:Pv 0 σ H)(hG:∀ i σ H,Pv i σ H->G H)
  (hs:∀ i x σ H,xs[i]? = some x->i<xs.length->Pv i σ H->g x σ H fun σ2 H2=>tb { D with nx:=Pv (i+1),ct:=Pv (i+1),bk:=D.nx } σ2 H2) (hd:∀ σ H,Pv xs.length σ H->D.nx σ H):aa6 g tb D σ J H:=
 V3 hw Pv h0 hG (fun i x σ H hx=>hs i x σ H hx (List.getElem?_eq_some_iff.mp hx).1) hd
section
variable {X:Cx}{K:PySem.W.Frag}
theorem Ah (hK:X.K=K:=by ac_nf):OpR X (binaryOp .Add) (Qi K):=hK ▸ a50
theorem Bd (hq:QA X.A)(hK:X.K=K:=by ac_nf):OpR X (compareOp .Eq) (aj6 K):=hK ▸ ag1 hq
theorem Gk (hq:QA X.A)(hK:X.K=K:=by ac_nf):OpR X (compareOp .NotEq) (ak3 K):=hK ▸ aa7 hq
theorem Pf (hq:QA X.A)(hK:X.K=K:=by ac_nf):OpR X (compareOp .In) (Wx K false):=hK ▸ a96 hq
theorem Iy (hq:QA X.A)(hK:X.K=K:=by ac_nf):OpR X (compareOp .NotIn) (Wx K true):=hK ▸ Ud hq
theorem A6 (hu:X.A.units+1<cLine)(hK:X.K=K:=by ac_nf):IxR X (P3 K):=hK ▸ a79 hu
theorem Ln (hK:X.K=K:=by ac_nf):SlR X (a99 K):=hK ▸ sl_A
theorem Av (hK:X.K=K:=by ac_nf):CallR X (.builtin "len") (Qn K):=hK ▸ Tu
theorem Ey (hK:X.K=K:=by ac_nf):CallR X (.builtin "isinstance") (Jp K):=hK ▸ Mz
theorem Ha (hK:X.K=K:=by ac_nf):CallR X (.type "list") (Qa K):=hK ▸ Rk
theorem C6 (hK:X.K=K:=by ac_nf):CallR X (.type "tuple") (O7 K):=hK ▸ Oe
theorem Mw (hc:X.calm=true)(hK:X.K=K:=by ac_nf):CallR X (.builtin "all") (Z7 K):=hK ▸ Rw hc
theorem Va (hK:X.K=K:=by ac_nf):MtR X "str.join" (Za K):=hK ▸ a67
theorem An {tg:Expr}(hu:X.A.units+1<cLine){l:Expr}{tl:TE}(hl:PE X l tl)(hK:X.K=K:=by ac_nf):PI X tg l (ak8 K tl):=hK ▸ aa1 hu hl
theorem Sf {es:List Expr}{k:Nat}{t:TGs}{n:Nat}{pos:Pos}(hc:X.calm=true)(h:PGs X es t)(hK:X.K=K:=by ac_nf)
  (hn:(assignEach es X.env).length=n:=by ac_nf) (hst:(assignEach es X.env).findIdx? (·.1)=none:=by ac_nf):PG X (.Tuple es k pos) (al5 K n t):=hK ▸ ai1 hc h hn hst
variable {o e:Expr}{es:List Expr}{to:TE}{t:TA}{name:Str}{apos cpos:Pos}{T id:String}{r:V->List V->Hp->VK->Prop}
theorem a02 (pa:PlainAttrs T)(slot:Slot T name id)(hty:typeOf (.builtin id)=pure (.type "method_descriptor"))(hm:MtR X id r)(ho:PE X o to)(hK:X.K=K:=by ac_nf)
  (hbase:attributeBase o name X.env (eval o X.env)=eval o X.env:=by ac_nf) (hline:(apos.endLine==cpos.line)=true:=by ac_nf):PE X (.Call (.Attribute o name apos) [] [] cpos) (ak9 K T r to):=hK ▸ ad0 pa slot hty hm ho hbase hline
theorem Du (pa:PlainAttrs T)(slot:Slot T name id)(hty:typeOf (.builtin id)=pure (.type "method_descriptor"))(hm:MtR X id r)(ho:PE X o to)(ha:PA X (e :: es) t)(hK:X.K=K:=by ac_nf)
  (hbase:attributeBase o name X.env (eval o X.env)=eval o X.env:=by ac_nf)
  (hfew:((backTo cpos (starEach (e :: es) X.env)).all (fun x=>!x.1)&&(backToKw cpos (keywordEach [] X.env)).all (fun x=>x.1.isSome)
   && decide ((e :: es).length+([]:List Keyword).length+(if([]:List Keyword).isEmpty then 0 else 1)<30))=true:=by ac_nf)
  (hline:(apos.endLine==cpos.line)=true:=by ac_nf) (hs:starEach (e :: es) X.env=(false,eval e X.env) :: starEach es X.env:=by ac_nf) (hplain:(backTo cpos (starEach es X.env)).any (·.1)=false:=by ac_nf) :
  PE X (.Call (.Attribute o name apos) (e :: es) [] cpos) (tBM K T r to t):=hK ▸ al6 pa slot hty hm ho ha hbase hfew hline hs hplain
end
def Fz (H H':Hp):Prop:=∀ a xs,Rd H a (.tup xs)->Rd H' a (.tup xs)
theorem Fz.refl (H:Hp):Fz H H:=fun _ _ h=>h
theorem Fz.trans {H H1 H2:Hp}(a:Fz H H1)(b:Fz H1 H2):Fz H H2:=fun c xs h=>b c xs (a c xs h)
theorem Same.fz {H H':Hp}(e:Same H H'):Fz H H':=fun a xs h=>by
 rcases h with h | ⟨o,h⟩
 . exact .inl (e _ _ h)
 exact .inr ⟨o,e _ _ h⟩
theorem Md {p:Addr}{H H':Hp}(e:ExtBut p H H')(hp:∀ xs,¬ Rd H p (.tup xs)):Fz H H':=fun a xs h=>by
 have n:a≠p:=fun q=>hp xs (q ▸ h)
 rcases h with h | ⟨o,h⟩
 . exact .inl (e _ _ n h)
 exact .inr ⟨o,e _ _ n h⟩
theorem ExtBut.fzL {p:Addr}{H H':Hp}{l:List V}(e:ExtBut p H H')(hp:H p=some (.lst l)):Fz H H':=Md e fun xs h=>by
 rcases h with h | ⟨o,h⟩
 . rw[hp] at h;cases h
 rw[hp] at h;cases h
theorem ExtBut.fzD {p:Addr}{H H':Hp}{l:List (Key×V)}(e:ExtBut p H H')(hp:H p=some (.dK l)):Fz H H':=Md e fun xs h=>by
 rcases h with h | ⟨o,h⟩
 . rw[hp] at h;cases h
 rw[hp] at h;cases h
theorem Fz.seq {K:PySem.W.Frag}{H H':Hp}(e:Fz H H'){a:Addr}{xs:List V}(h:SqT K H a xs):SqT K H' a xs:=by
 rcases h with h | h
 . exact .inl (e _ _ h)
 exact .inr h
mutual
def frz:PyData->Bool
 | .tuple ds=>Qz ds
 | .list _=>false
 | .dict _=>false
 | _=>true
def Qz:List PyData->Bool
 | []=>true
 | d :: ds=>frz d&&Qz ds
end
mutual
theorem Is.fz {K:PySem.W.Frag}{H H':Hp}(e:Fz H H'):∀(d:PyData) (v:V),frz d=true->Is K H d v->Is K H' d v
 | .none,_,_,h=>by simp only[Is] at h ⊢;exact h
 | .bool _,_,_,h=>by simp only[Is] at h ⊢;exact h
 | .int _,_,_,h=>by simp only[Is] at h ⊢;exact h
 | .str _,_,_,h=>by simp only[Is] at h ⊢;exact h
 | .list ds,v,hf,_=>by simp[frz] at hf
 | .tuple ds,v,hf,h=>by
   simp only[Is] at h ⊢
   obtain⟨a,xs,e1,e2,e3⟩:=h
   exact⟨a,xs,e1,e.seq e2,IsL.fz e ds xs (by simpa only[frz] using hf) e3⟩
 | .dict _,_,_,h=>by simp only[Is] at h
theorem IsL.fz {K:PySem.W.Frag}{H H':Hp}(e:Fz H H'):∀(ds:List PyData) (vs:List V),Qz ds=true->IsL K H ds vs->IsL K H' ds vs
 | [],_,_,h=>by simp only[IsL] at h ⊢;exact h
 | d :: ds,vs,hf,h=>by
   simp only[IsL] at h ⊢
   simp only[Qz,Bool.and_eq_true] at hf
   obtain⟨v,r,e1,e2,e3⟩:=h
   exact⟨v,r,e1,Is.fz e d v hf.1 e2,IsL.fz e ds r hf.2 e3⟩
end
section
variable {K:PySem.W.Frag}{H H':Hp}
theorem IsL.length:∀ {ds:List PyData} {vs:List V},IsL K H ds vs->ds.length=vs.length
 | [],_,h=>by simp only[IsL] at h;subst h;rfl
 | d :: ds,vs,h=>by
   simp only[IsL] at h
   obtain⟨v,r,rfl,_,e3⟩:=h
   simp only[List.length_cons,IsL.length e3]
theorem IsL.get:∀ {ds:List PyData} {vs:List V} {i:Nat} {x:V},IsL K H ds vs->vs[i]? = some x->∃ d,ds[i]? = some d/\Is K H d x
 | [],_,_,_,h,e=>by simp only[IsL] at h;subst h;simp at e
 | d :: ds,vs,i,x,h,e=>by
   simp only[IsL] at h
   obtain⟨v,r,rfl,e2,e3⟩:=h
   cases i with
   | zero=>simp at e;subst e;exact⟨d,rfl,e2⟩
   | succ i=>
     obtain⟨d',h1,h2⟩:=IsL.get (i:=i) e3 (by simpa using e)
     exact⟨d',by simpa using h1,h2⟩
theorem IsL.append:∀ {ds es:List PyData} {vs us:List V},IsL K H ds vs->IsL K H es us->IsL K H (ds++es) (vs++us)
 | [],_,_,_,h,g=>by simp only[IsL] at h;subst h;exact g
 | d :: ds,es,vs,us,h,g=>by
   simp only[IsL] at h
   obtain⟨v,r,rfl,e2,e3⟩:=h
   simp only[List.cons_append,IsL]
   exact⟨v,_,rfl,e2,IsL.append e3 g⟩
theorem IsL.one {d:PyData}{v:V}(h:Is K H d v):IsL K H [d] [v]:=by simp only[IsL];exact⟨v,[],rfl,h,rfl⟩
theorem IsL.nil:IsL K H [] []:=by simp only[IsL]
theorem IsL.cons {d:PyData} {v:V} {ds:List PyData} {vs:List V} (h:Is K H d v) (g:IsL K H ds vs):IsL K H (d :: ds) (v :: vs):=by simp only[IsL];exact⟨v,vs,rfl,h,g⟩
theorem IsL.take:∀ {ds:List PyData} {vs:List V} (n:Nat),IsL K H ds vs->IsL K H (ds.take n) (vs.take n)
 | ds,vs,0,h=>by simp only[List.take_zero];exact .nil
 | [],vs,n+1,h=>by simp only[IsL] at h;subst h;exact .nil
 | d :: ds,vs,n+1,h=>by
   simp only[IsL] at h
   obtain⟨v,r,rfl,e2,e3⟩:=h
   exact .cons e2 (IsL.take n e3)
theorem IsL.drop:∀ {ds:List PyData} {vs:List V} (n:Nat),IsL K H ds vs->IsL K H (ds.drop n) (vs.drop n)
 | ds,vs,0,h=>h
 | [],vs,n+1,h=>by simp only[IsL] at h;subst h;exact .nil
 | d :: ds,vs,n+1,h=>by
   simp only[IsL] at h
   obtain⟨v,r,rfl,e2,e3⟩:=h
   exact IsL.drop n e3
theorem IsL.str_eq:∀ {ns:List Str} {vs:List V},IsL K H (ns.map PyData.str) vs->vs=ns.map V.str
 | [],vs,h=>by simp only[List.map_nil,IsL] at h;exact h
 | n :: ns,vs,h=>by
   simp only[List.map_cons,IsL,Is] at h
   obtain⟨v,r,rfl,rfl,e3⟩:=h
   rw[IsL.str_eq e3]
   rfl
theorem Is.tup {ds:List PyData}{v:V}(h:Is K H (.tuple ds) v):∃ a xs,v = .ref a/\SqT K H a xs/\IsL K H ds xs:=by simpa only[Is] using h
theorem Is.of_tup {ds:List PyData}{a:Addr}{xs:List V}(h:SqT K H a xs)(g:IsL K H ds xs):Is K H (.tuple ds) (.ref a):=by simp only[Is];exact⟨a,xs,rfl,h,g⟩
theorem Is.of_lst {ds:List PyData}{a:Addr}{xs:List V}(h:SqL K H a xs)(g:IsL K H ds xs):Is K H (.list ds) (.ref a):=by simp only[Is];exact⟨a,xs,rfl,h,g⟩
theorem Is.str {z:Str}{v:V}(h:Is K H (.str z) v):v = .str z:=by simpa only[Is] using h
theorem Hr {z:Str}:Is K H (.str z) (.str z):=by simp only[Is]
theorem N0 {z:Int}:Is K H (.int z) (.int z):=by simp only[Is]
theorem Ol {z:Bool}:Is K H (.bool z) (.bl z):=by simp only[Is]
end
def nmD (ns:List Str):PyData:=.tuple (ns.map PyData.str)
def prD (p:Str×Str):PyData:=.tuple [.str p.1,.str p.2]
def psD (ps:List (Str×Str)):PyData:=.tuple (ps.map prD)
def hfD (ns:List Str)(ps:List (Str×Str)):PyData:=.tuple [nmD ns,psD ps]
theorem J3:∀ ns:List Str,Qz (ns.map PyData.str)=true
 | []=>rfl
 | n :: ns=>by simp only[List.map_cons,Qz,frz,J3 ns,Bool.and_self]
theorem Xx (ns:List Str):frz (nmD ns)=true:=by simp only[nmD,frz,J3]
theorem Sq (p:Str×Str):frz (prD p)=true:=by simp[prD,frz,Qz]
theorem Ee:∀ ps:List (Str×Str),Qz (ps.map prD)=true
 | []=>rfl
 | n :: ns=>by simp only[List.map_cons,Qz,Sq,Ee ns,Bool.and_self]
theorem ac5 (ps:List (Str×Str)):frz (psD ps)=true:=by simp only[psD,frz,Ee]
theorem aa4 (ns:List Str)(ps:List (Str×Str)):frz (hfD ns ps)=true:=by simp only[hfD,frz,Qz,Xx,ac5,Bool.and_self]
section
variable {K:PySem.W.Frag}{H H':Hp}
theorem Is.nm {ns:List Str}{v:V}(h:Is K H (nmD ns) v):∃ a,v = .ref a/\SqT K H a (ns.map V.str):=by
 obtain⟨a,xs,rfl,h1,h2⟩:=Is.tup h
 exact⟨a,rfl,by rw[<- IsL.str_eq h2];exact h1⟩
theorem Gu {ns:List Str}{a:Addr}(h:SqT K H a (ns.map V.str)):Is K H (nmD ns) (.ref a):=Is.of_tup h (Gv ns)
theorem Is.pr {p:Str×Str}{v:V}(h:Is K H (prD p) v):∃ a,v = .ref a/\SqT K H a [.str p.1,.str p.2]:=by
 obtain⟨a,xs,rfl,h1,h2⟩:=Is.tup h
 simp only[IsL,Is] at h2
 obtain⟨_,_,rfl,rfl,_,_,rfl,rfl,rfl⟩:=h2
 exact⟨a,rfl,h1⟩
theorem am0 {x y:Str}{a:Addr}(h:SqT K H a [.str x,.str y]):Is K H (prD (x,y)) (.ref a):=Is.of_tup h (.cons Hr (.one Hr))
theorem Is.hf {ns:List Str}{ps:List (Str×Str)}{v:V}(h:Is K H (hfD ns ps) v):∃ a x y,v = .ref a/\SqT K H a [x,y]/\Is K H (nmD ns) x/\Is K H (psD ps) y:=by
 obtain⟨a,xs,rfl,h1,h2⟩:=Is.tup h
 simp only[IsL] at h2
 obtain⟨x,_,rfl,hx,y,_,rfl,hy,rfl⟩:=h2
 exact⟨a,x,y,rfl,h1,hx,hy⟩
theorem al3 {ns:List Str}{ps:List (Str×Str)}{a:Addr}{x y:V}(h:SqT K H a [x,y])(hx:Is K H (nmD ns) x)(hy:Is K H (psD ps) y):Is K H (hfD ns ps) (.ref a):=Is.of_tup h (.cons hx (.one hy))
theorem Is.nm_fz {ns:List Str}{v:V}(h:Is K H (nmD ns) v)(e:Fz H H'):Is K H' (nmD ns) v:=Is.fz e _ _ (Xx ns) h
theorem Is.pr_fz {p:Str×Str}{v:V}(h:Is K H (prD p) v)(e:Fz H H'):Is K H' (prD p) v:=Is.fz e _ _ (Sq p) h
theorem Is.hf_fz {ns:List Str}{ps:List (Str×Str)}{v:V}(h:Is K H (hfD ns ps) v)(e:Fz H H'):Is K H' (hfD ns ps) v:=Is.fz e _ _ (aa4 ns ps) h
variable {σ:St}{Q:VK}{x v:V}{i:Int}
theorem R5 {a:Addr}{xs:List V}(h:SqT K H a xs)(e:atI xs i=some v)(k:Q v H):P3 K (.ref a) (.int i) H Q:=.inl (.inr (.inl ⟨a,xs,i,v,rfl,rfl,h,e,k⟩))
theorem Y7 {a:Addr}{xs:List V}(h:SqL K H a xs)(e:atI xs i=some v)(k:Q v H):P3 K (.ref a) (.int i) H Q:=.inl (.inl ⟨a,xs,i,v,rfl,rfl,h,e,k⟩)
theorem E6 {ns:List Str}{ps:List (Str×Str)}(h:Is K H (hfD ns ps) x)(k:∀ v,Is K H (nmD ns) v->Q v H):P3 K x (.int 0) H Q:=by
 obtain⟨a,u,w,rfl,h1,h2,h3⟩:=h.hf
 exact R5 h1 rfl (k u h2)
theorem S9 {ns:List Str}{ps:List (Str×Str)}(h:Is K H (hfD ns ps) x)(k:∀ v,Is K H (psD ps) v->Q v H):P3 K x (.int 1) H Q:=by
 obtain⟨a,u,w,rfl,h1,h2,h3⟩:=h.hf
 exact R5 h1 rfl (k w h3)
theorem Xk {p:Str×Str}(h:Is K H (prD p) x)(k:Q (.str p.1) H):P3 K x (.int 0) H Q:=by
 obtain⟨a,rfl,h1⟩:=h.pr
 exact R5 h1 rfl k
theorem Y0 {p:Str×Str}(h:Is K H (prD p) x)(k:Q (.str p.2) H):P3 K x (.int 1) H Q:=by
 obtain⟨a,rfl,h1⟩:=h.pr
 exact R5 h1 rfl k
theorem ag7 {ds:List PyData}(h:Is K H (.tuple ds) x)(k:Q (.int ds.length) H):Qn K [x] H Q:=by
 obtain⟨a,xs,rfl,h1,h2⟩:=h.tup
 rw[IsL.length h2] at k
 exact .inl ⟨.ref a,_,rfl,.inr ⟨xs,h1,rfl⟩,k⟩
theorem O0 {ns:List Str}(h:Is K H (nmD ns) x)(k:Q (.int ns.length) H):Qn K [x] H Q:=ag7 h (by rw[List.length_map];exact k)
theorem Dm (ns:List Str):(ns.map V.str).all L9=true:=by
 rw[List.all_eq_true]
 intro v h
 obtain ⟨n,_,rfl⟩:=List.mem_map.mp h
 rfl
theorem Io (z:Str):∀ ns:List Str,inV (.str z) (ns.map V.str)=decide (z∈ns)
 | []=>rfl
 | n :: ns=>by
   have ih:=Io z ns
   unfold inV at ih ⊢
   rw[List.map_cons,List.any_cons,ih]
   have e:eqV (V.str n) (V.str z)=decide (n=z):=by
    show(n==z)=_
    by_cases h:n=z<;>simp[h]
   rw[e]
   by_cases h:n=z
   . subst h
     simp
   have h':¬ z=n:=fun q=>h q.symm
   by_cases g:z∈ns<;>simp[h,h',g]
theorem Yi {ns:List Str}{z:Str}{a:Addr}(h:SqL K H a (ns.map V.str))(k:Q (.bl (decide (z∈ns))) H):Wx K false (.str z) (.ref a) H Q:=
 .inl ⟨a,_,rfl,.inl h,rfl,Dm ns,by rw[Io];exact k⟩
theorem ah8 {ns:List Str}{z:Str}(h:Is K H (nmD ns) x)(k:Q (.bl (!decide (z∈ns))) H):Wx K true (.str z) x H Q:=by
 obtain⟨a,rfl,h1⟩:=h.nm
 exact .inl ⟨a,_,rfl,.inr h1,rfl,Dm ns,by rw[Io];exact k⟩
theorem a66 {ns:List Str}{z:Str}{a:Addr}(h:SqL K H a (ns.map V.str))(k:Q (.bl (!decide (z∈ns))) H):Wx K true (.str z) (.ref a) H Q:=
 .inl ⟨a,_,rfl,.inl h,rfl,Dm ns,by rw[Io];exact k⟩
theorem Zi {p:Str×Str}{n m:Nat}{R:St->Hp->Prop}(h:Is K H (prD p) x)(k:R ((σ.set n (some (.str p.1))).set m (some (.str p.2))) H):al5 K 2 (a30 (Nc n) (a30 (Nc m) aq2)) x σ H R:=by
 obtain⟨a,rfl,h1⟩:=h.pr
 exact⟨a,_,rfl,h1,rfl,.str p.1,[.str p.2],rfl,.str p.2,[],rfl,rfl,k⟩
theorem X6 {ds:List PyData}{g:TG}{tb:TS}{D:Ends}(h:Is K H (.tuple ds) x)(hf:Qz ds=true)(Pv:Nat->St->Hp->Prop)(h0:Pv 0 σ H)(hG:∀ i σ' H',Pv i σ' H'->Fz H H')
  (hs:∀ i d v σ' H',ds[i]? = some d->Is K H' d v->Pv i σ' H'->g v σ' H' fun σ2 H2=>tb { D with nx:=Pv (i+1),ct:=Pv (i+1),bk:=D.nx } σ2 H2) (hd:∀ σ' H',Pv ds.length σ' H'->D.nx σ' H') :
  Gn K x H fun J H1=>aa6 g tb D σ J H1:=by
 obtain⟨a,xs,rfl,h1,h2⟩:=h.tup
 refine O5 h1 (Dq Et Pv h0 (fun i σ' H' p=>(hG i σ' H' p).seq h1) (fun i v σ' H' hx hi p=>?_) fun σ' H' p=>hd σ' H' (by rw[IsL.length h2];exact p))
 obtain⟨d,e1,e2⟩:=IsL.get (IsL.fz (hG i σ' H' p) ds xs hf h2) hx
 exact hs i d v σ' H' e1 e2 p
theorem Kv {ns:List Str}{g:TG}{tb:TS}{D:Ends}(h:Is K H (nmD ns) x)(Pv:Nat->St->Hp->Prop)(h0:Pv 0 σ H)(hG:∀ i σ' H',Pv i σ' H'->Fz H H')
  (hs:∀ i z σ' H',ns[i]? = some z->Pv i σ' H'->g (.str z) σ' H' fun σ2 H2=>tb { D with nx:=Pv (i+1),ct:=Pv (i+1),bk:=D.nx } σ2 H2) (hd:∀ σ' H',Pv ns.length σ' H'->D.nx σ' H') :
  Gn K x H fun J H1=>aa6 g tb D σ J H1:=
 X6 h (J3 ns) Pv h0 hG (fun i d v σ' H' e h p=>by
  rw[List.getElem?_map] at e
  cases hn:ns[i]? with
  | none=>rw[hn] at e;cases e
  | some z=>
    rw[hn] at e
    cases e
    rw[h.str]
    exact hs i z σ' H' hn p) fun σ' H' p=>hd σ' H' (by rw[List.length_map] at p;exact p)
theorem Y5 {ps:List (Str×Str)}{g:TG}{tb:TS}{D:Ends}(h:Is K H (psD ps) x)(Pv:Nat->St->Hp->Prop)(h0:Pv 0 σ H)(hG:∀ i σ' H',Pv i σ' H'->Fz H H')
  (hs:∀ i p v σ' H',ps[i]? = some p->Is K H' (prD p) v->Pv i σ' H'->g v σ' H' fun σ2 H2=>tb { D with nx:=Pv (i+1),ct:=Pv (i+1),bk:=D.nx } σ2 H2) (hd:∀ σ' H',Pv ps.length σ' H'->D.nx σ' H') :
  Gn K x H fun J H1=>aa6 g tb D σ J H1:=
 X6 h (Ee ps) Pv h0 hG (fun i d v σ' H' e h p=>by
  rw[List.getElem?_map] at e
  cases hn:ps[i]? with
  | none=>rw[hn] at e;cases e
  | some z=>
    rw[hn] at e
    cases e
    exact hs i z v σ' H' hn h p) fun σ' H' p=>hd σ' H' (by rw[List.length_map] at p;exact p)
theorem Pd {α:Type}(f:α->PyData)(hf:∀ a,frz (f a)=true):∀ xs:List α,Qz (xs.map f)=true
 | []=>rfl
 | x :: xs=>by simp only[List.map_cons,Qz,hf,Pd f hf xs,Bool.and_self]
theorem Im {α:Type}{J:It}{xs:List V}{G:Hp->Prop}{g:TG}{tt:TT}{te:TE}{Q:VK}{k:Nat}{js:List Nat}(hw:Fc J xs G)(as:List α)(hl:as.length=xs.length)(t:α->Bool)(f:α->PyData)(hf:∀ a,frz (f a)=true)(hz:xs.length<=1000000)(hG:∀ H',Same H H'->G H')
  (hs:∀(i:Nat) a v H1 (R:VK) (R':Hp->Prop),as[i]? = some a->xs[i]? = some v->Same H H1->(t a=true->∀ y H2,Same H1 H2->Is K H2 (f a) y->R y H2)->(t a=false->∀ H2,Same H1 H2->R' H2) ->
   g v (List.replicate k none++M5 σ js) H1 fun σ2 H2=>tt σ2 H2 fun b H3=>if b=true then te σ2 H3 R else R' H3)
  (hd:∀ p ys H',H p=none->Same H H'->H' p=some (.lst ys)->IsL K H' ((as.filter t).map f) ys->Q (.ref p) H'):Nf k js g tt te σ J H Q:=by
 refine Fi hw (fun p i acc H1=>Same H H1/\IsL K H1 (((as.take i).filter t).map f) acc) (fun p H' hp e h=>⟨e,by simp only[List.take_zero,List.filter_nil,List.map_nil];exact .nil⟩) (fun p i acc H1 h=>hG H1 h.1) (fun p i x acc H1 hp hx hi hl1 ha ⟨e,hacc⟩=>?_) fun p acc H1 hp ha hl1 ⟨e,hacc⟩=>?_
 . have hi':i<as.length:=by omega
   obtain⟨a,hai⟩:∃ a,as[i]? = some a:=⟨as[i],List.getElem?_eq_getElem hi'⟩
   have ht:as.take (i+1)=as.take i++[a]:=by rw[List.take_add_one,hai];rfl
   refine hs i a x H1 _ _ hai hx e (fun h y H2 e2 hy=>?_) fun h H2 e2=>?_
   . refine Ho hz hi hl1 (e2 _ _ ha) fun H' e' h'=>⟨fun b o hb=>e' b o (ne_of_none hb hp) (e2 _ _ (e b o hb)),?_⟩
     rw[ht,List.filter_append,List.map_append]
     have fz:=e'.fzL (e2 _ _ ha)
     refine IsL.append (IsL.fz (e2.fz.trans fz) _ _ (Pd f hf _) hacc) ?_
     simp only[List.filter_cons,h,if_true,List.filter_nil,List.map_cons,List.map_nil]
     exact .one (Is.fz fz _ _ (hf a) hy)
   refine Uk hi hl1 (e2 _ _ ha) ⟨e.trans e2,?_⟩
   rw[ht,List.filter_append,List.map_append]
   simp only[List.filter_cons,h,Bool.false_eq_true,if_false,List.filter_nil,List.map_nil,List.append_nil]
   exact IsL.mono e2 _ _ hacc
 refine hd p acc H1 hp e ha ?_
 rw[<- hl,List.take_length] at hacc
 exact hacc
end
section
variable {X:Cx}{K:PySem.W.Frag}
def af8:PyData->Bool
 | .list _=>true
 | .tuple _=>true
 | _=>false
mutual
theorem Is.noDict {H:Hp}:∀(d:PyData) (v:V),Is K H d v->d.hasDict=false
 | .none,_,h=>by simp only[PyData.hasDict]
 | .bool _,_,h=>by simp only[PyData.hasDict]
 | .int _,_,h=>by simp only[PyData.hasDict]
 | .str _,_,h=>by simp only[PyData.hasDict]
 | .list ds,v,h=>by
   simp only[Is] at h
   obtain⟨a,xs,e1,e2,e3⟩:=h
   simp only[PyData.hasDict]
   exact IsL.noDict ds xs e3
 | .tuple ds,v,h=>by
   simp only[Is] at h
   obtain⟨a,xs,e1,e2,e3⟩:=h
   simp only[PyData.hasDict]
   exact IsL.noDict ds xs e3
 | .dict _,_,h=>by simp only[Is] at h
theorem IsL.noDict {H:Hp}:∀(ds:List PyData) (vs:List V),IsL K H ds vs->PyData.hasDictAll ds=false
 | [],_,h=>by simp only[PyData.hasDictAll]
 | d :: ds,vs,h=>by
   simp only[IsL] at h
   obtain⟨v,r,e1,e2,e3⟩:=h
   simp only[PyData.hasDictAll,Is.noDict d v e2,IsL.noDict ds r e3,Bool.or_self]
end
structure Sh (d:PyData):Prop where
 dp:af8 d=true
 sh:d.showable=true
 fits:d.shown.length<=sizeLine
 deep:d.depth<=100
theorem Kq (hq:QA X.A):CallR X (.builtin "repr") (fun xs H Q=>∃ x d,xs=[x]/\Is X.K H d x/\Sh d/\Q (.str d.shown) H):=by
 intro pins s σ H xs us Q I rv h
 obtain⟨x,d,rfl,i,S,q⟩:=h
 obtain⟨u,rfl,ru⟩:=rv.one
 obtain⟨as,ra⟩:=Is.reads I d x u i ru
 have href:∃ a,u = .ref a:=by
  have hd:=S.dp
  cases d with
  | list ds=>simp only[Is] at i;obtain⟨a,_,rfl,_⟩:=i;exact⟨a,ru⟩
  | tuple ds=>simp only[Is] at i;obtain⟨a,_,rfl,_⟩:=i;exact⟨a,ru⟩
  | _=>cases hd
 obtain⟨a,rfl⟩:=href
 refine repr_of_reads' ra S.sh (fun hx=>absurd hx (by rw[Is.noDict d x i];exact Bool.false_ne_true)) hq.gd (by have:=hq.un;have:=S.deep;omega) (fun _ _ e=>e) (fun h' t tk hk=>?_) S.fits
 exact⟨.str d.shown,H,I.kept hk,⟨t,rfl⟩,q⟩
def Q0 (z:Str)(n:Nat):Str:=⟨(List.replicate n z.cps).foldl (· ++ ·) #[]⟩
def a97:R2:=fun x y H Q=>∃ z n,x = .str z/\y = .int n/\2<=n/\n<=1000/\z.length<=1000/\0<z.length/\Q (.str (Q0 z n.toNat)) H
theorem a38:OpR X (binaryOp .Mult) a97:=by
 intro pins s σ H x y v u Q I rx ry h
 obtain⟨z,n,rfl,rfl,h1,h2,h3,h4,q⟩:=h
 obtain⟨t,rfl⟩:=rx
 obtain⟨t2,rfl⟩:=ry
 have a1:¬ n<1:=by omega
 have a2:(n==1||z.length==0)=false:=by
  have e1:(n==1)=false:=by simp;omega
  have e2:(z.length==0)=false:=by simp;omega
  rw[e1,e2];rfl
 have hz:z.length*n.toNat<=1000000:=by
  have:z.length*n.toNat<=1000*1000:=Nat.mul_le_mul h3 (by omega)
  omega
 have hlen:(Q0 z n.toNat).length<=sizeLine:=by
  have e:∀(m:Nat) (a:Array Nat),((List.replicate m z.cps).foldl (· ++ ·) a).size=a.size+m*z.cps.size:=by
   intro m
   induction m with
   | zero=>intro a;simp
   | succ m ih=>intro a;rw[List.replicate_succ,List.foldl_cons,ih,Array.size_append,Nat.succ_mul];omega
  show((List.replicate n.toNat z.cps).foldl (· ++ ·) #[]).size<=sizeLine
  rw[e]
  have e2:z.cps.size=z.length:=rfl
  rw[e2,sizeLine_eq,Nat.mul_comm]
  simp
  omega
 refine PySem.P.mul_str (by
   have b1:¬ n < -(2 ^ 63:Int):=by omega
   have b2:¬ n>=2 ^ 63:=by omega
   rw[decide_eq_false b1,decide_eq_false b2];rfl) (fun _ _=>?_) (fun _ _=>?_) ?_
 . have:(2 ^ 63-1:Int) / n>=1000:=by
    refine Int.le_ediv_of_mul_le (by omega) ?_
    have:1000*n<=1000*1000:=by omega
    omega
   omega
 . have hz2:z.length*n.toNat<=sizeLine:=A8 hz
   rw[sizeLine_eq] at hz2
   unfold Builtin.Str.tooLong
   simp[sizeLine_eq]
   omega
 rw[if_neg a1,a2,if_neg Bool.false_ne_true]
 exact⟨hlen,.str _,H,I.kept fun _ _ e=>e,⟨_,rfl⟩,q⟩
def Zm:R2:=fun x y H Q=>Z3 x y H Q\/a97 x y H Q
theorem D7:OpR X (binaryOp .Mult) Zm:=op_mulA.or a38
theorem i_mulBI {i j:Int}{H:Hp}{Q:VK}(h:CMul i j)(k:Q (.int (i*j)) H):Zm (.int i) (.int j) H Q:=.inl (a92 h k)
theorem a35 {z:Str}{n:Int}{H:Hp}{Q:VK}(h:2<=n/\n<=1000/\z.length<=1000/\0<z.length)(k:Q (.str (Q0 z n.toNat)) H):Zm (.str z) (.int n) H Q:=.inr ⟨z,n,rfl,rfl,h.1,h.2.1,h.2.2.1,h.2.2.2,k⟩
def aj3 (xs:List V)(i:Nat)(y:V):List V:=xs.take i++y :: xs.drop i
def V0:V->List V->Hp->VK->Prop:=fun x vs H Q=>∃ l xs i y,x = .ref l/\vs=[.int i,y]/\H l=some (.lst xs)/\0<=i/\i<=xs.length/\xs.length<sizeLine/\Q .non (upd H l (.lst (aj3 xs i.toNat y)))
theorem Nv:MtM X "list.insert" V0:=by
 intro pins s σ H x vs v us Q I rx rv h
 obtain⟨l,xs,i,y,rfl,rfl,hH,h0,h1,hz,q⟩:=h
 cases rx
 obtain⟨u,w,rfl,ru,rw'⟩:=Vals.two rv
 obtain⟨t,rfl⟩:=ru
 obtain⟨z,its,n,r,hl,e⟩:=I.lstM hH
 have hlen:=r.length
 refine call_meets F.slot_list_insert ⟨_,e,rfl⟩ F.entry_list_insert (F.args_list_insert_3 _ _ _)
  (AutoSeq1.list_insert_list_int_val_1 l its.toArray n i t w (by rw[fitsIndex_both (by omega) (by rw[sizeLine_eq] at hz;omega)];decide) (by rw[List.size_toArray];omega)) ⟨e,?_⟩
 refine⟨.non,_,I.lset (its':=its.take i.toNat++w :: its.drop i.toNat) hH e ?_ ((r.take i.toNat).append (.cons rw' (r.drop i.toNat))) ?_,rfl,q⟩
 . have hi:i.toNat<=its.length:=by omega
   show(have k:=if i<0 then(i+((its.toArray.size:Nat):Int)).toNat else min i.toNat its.toArray.size;(its.toArray.extract 0 k).push w++its.toArray.extract k)=_
   rw[if_neg (by omega),List.size_toArray,Nat.min_eq_left hi]
   simp[List.extract_eq_drop_take]
   exact List.take_of_length_le (by rw[List.length_drop];omega)
 rw[List.length_append,List.length_cons,List.length_take,List.length_drop]
 omega
section
variable {D:Ends}{σ:St}{H:Hp}{t u:TS}{te td ty tv:TE}{g:TG}
theorem K6 (M:St->Hp->Prop)(h1:∀ N:St->Hp->Prop,(∀ σ' H',M σ' H'->N σ' H')->t { D with nx:=N } σ H)(h2:∀ σ' H',M σ' H'->u D σ' H'):aj7 t u D σ H:=h1 (u D) h2
end
theorem T0 {a:Addr}{xs:List V}{H:Hp}{Q:VK}(h:SqL K H a xs\/SqT K H a xs)(k:∀ p H',H p=none->Same H H'->H' p=some (.lst xs)->Q (.ref p) H'):Qa K [.ref a] H Q:=⟨a,xs,rfl,h,fun p hp=>k p _ hp (Same.upd hp) A9⟩
theorem mm {id:String}{r:V->List V->Hp->VK->Prop}(h:MtM X id r):MtR X id r:=h
theorem i_tyLm {a:Addr}{xs:List V}{H:Hp}{B:Prop}(h:H a=some (.lst xs))(k:B):tyV K "list" (.ref a) H/\B:=⟨.inl ⟨rfl,xs,SqL.of h⟩,k⟩
theorem a89 {l:Addr}{xs:List V}{y:V}{i:Int}{H:Hp}{Q:VK}(h:H l=some (.lst xs))(h0:0<=i)(h1:i<=xs.length)(hz:xs.length<=1000000)(k:∀ H',ExtBut l H H'->H' l=some (.lst (aj3 xs i.toNat y))->Q .non H'):V0 (.ref l) [.int i,y] H Q:=
 ⟨l,xs,i,y,rfl,rfl,h,h0,h1,by rw[sizeLine_eq];omega,k _ ExtBut.upd A9⟩
theorem Nu {l:Addr}{xs:List V}{y:V}{H:Hp}{Q:VK}(h:H l=some (.lst xs))(hz:xs.length<=1000000)(k:∀ H',ExtBut l H H'->H' l=some (.lst (xs++[y]))->Q .non H'):Rx (.ref l) [y] H Q:=
 ⟨l,xs,y,rfl,rfl,h,by rw[sizeLine_eq];omega,k _ ExtBut.upd A9⟩
theorem Vg {l:Addr}{xs:List V}{y:V}{i:Int}{H:Hp}{Q:VK}(h:H l=some (.lst xs))(h0:0<=i)(h1:xs[i.toNat]? = some y)(k:∀ H',ExtBut l H H'->H' l=some (.lst (xs.eraseIdx i.toNat))->Q y H')(hz:xs.length<=1000000):Yo (.ref l) [.int i] H Q:=by
 have h2:=(List.getElem?_eq_some_iff.mp h1).1
 refine⟨l,xs,i,i.toNat,y,rfl,rfl,h,by omega,by omega,?_,h1,k _ ExtBut.upd A9⟩
 have e:=Kz (E4 (α:=V) h1)
 obtain⟨j,e1,e2,e3,_⟩:=e
 rw[Int.toNat_of_nonneg h0] at e1
 rw[e1]
 have e4:seqIndex? i xs.length=some i.toNat:=by
  unfold seqIndex? at e1 ⊢
  simp[show ¬ i<0 by omega] at e1 ⊢
  omega
 rw[<- e1,e4]
def Qr (xs:List V)(k:Int):List V:=if k=1 then xs else xs.reverse
def Uy (K:PySem.W.Frag):V->V->Hp->VK->Prop:=fun x y H Q=>∃ a xs k,x = .ref a/\y = .int k/\(k=1\/k = -1)/\SqL K H a xs/\∀ p,H p=none->Q (.ref p) (upd H p (.lst (Qr xs k)))
theorem Wv (items:Array Value):slicePick items none none (some 1)=items:=by
 have e:slicePick items none none (some 1)=slicePick items none none none:=rfl
 rw[e,G4]
 simp[HT.sIx]
 rw[show items.size=items.toList.length by simp,List.take_length]
theorem Hn {e st:Expr}{te ts:TE}{p2 pos:Pos}(he:PE X e te)(hst:PE X st ts)(hK:X.K=K:=by ac_nf):PE X (.Subscript e (.Slice none none (some st) p2) pos) (tOp (Uy K) te ts):=by
 subst hK
 intro pins s σ H Q I h
 refine Subscript_ (thn (he pins s σ H _ I h) fun v s1 ⟨x,H1,I1,r1,q1⟩=>?_)
 refine wpAny_Slice ?_
 rw[evalPart_none]
 refine wpAny_pure (wpAny_pure ?_)
 rw[evalPart_some]
 refine thn (hst pins s1 σ H1 _ I1 q1) fun u s2 ⟨y,H2,I2,r2,q2⟩=>?_
 obtain⟨a,xs,k,rfl,rfl,hk,hx,q⟩:=q2
 cases r1
 obtain⟨t,rfl⟩:=r2
 have I4:Inv X pins σ H2 { s2 with heap:=s2.heap.push { cls:=.type "slice",data:=.fields #[.none,.none,.int k t] } }:=I2.kept (t':=s2.toks) fun b ob q=>Heap.get?_push_of_some _ q
 obtain⟨its,r,ht,hz⟩:=I4.list hx
 have hlen:=r.length
 refine tail_any (ops:=[.ref a,.ref s2.heap.objs.size]) ht.isList.typeIs slot_list_getitem.lookup ?_ (by ac_nf)
 refine wpAny_getItem_list_slice ht.isList (Heap.IsSliceOf.new ..) .none .none (.int k t) (by rcases hk with rfl | rfl<;>decide) ?_ (by rw[List.size_toArray];omega)
 rcases hk with rfl | rfl
 . rw[Wv]
   refine⟨.ref _,_,I4.laid (t':=s2.toks) (o:=.lst (Qr xs 1)) (fun b ob q=>Heap.get?_push_of_some _ q) (Nat.le_refl _) ?_,rfl,q _ (I4.hok.fresh (Nat.le_refl _))⟩
   exact⟨hz,_,0,r,Heap.get?_push_size _ rfl⟩
 rw[PySem.W.krv_pick]
 refine⟨.ref _,_,I4.laid (t':=s2.toks) (o:=.lst (Qr xs (-1))) (fun b ob q=>Heap.get?_push_of_some _ q) (Nat.le_refl _) ?_,rfl,q _ (I4.hok.fresh (Nat.le_refl _))⟩
 exact⟨by show xs.reverse.length<=_;rw[List.length_reverse];exact hz,_,0,by show Vals xs.reverse _;exact r.reverse,Heap.get?_push_size _ rfl⟩
theorem Xf {a:Addr}{xs:List V}{k:Int}{H:Hp}{Q:VK}(h:SqL K H a xs)(hk:k=1\/k = -1)(c:∀ p H',H p=none->Same H H'->H' p=some (.lst (Qr xs k))->Q (.ref p) H'):Uy K (.ref a) (.int k) H Q:=
 ⟨a,xs,k,rfl,rfl,hk,h,fun p hp=>c p _ hp (Same.upd hp) A9⟩
end
def Hm (c:Nat):Bool:=decide (97<=c)&&decide (c<=122)
def M2 (x:Str):Bool:=decide (1<=x.length)&&decide (x.length<=8)&&x.cps.toList.all Hm
def Names (ns:List Str):Prop:=ns.Nodup/\∀ z∈ns,M2 z=true
def LL:Str:="abcdefghijklmnopqrstuvwxyzabcdefghijklmnopqrstuvwxyz"
theorem af1:Q0 "abcdefghijklmnopqrstuvwxyz" (2:Int).toNat=LL:=by decide +kernel
def LLn:List Nat:=LL.cps.toList
theorem ac1:LL.length=52:=by decide +kernel
theorem Gz:LLn.length=52:=by decide +kernel
theorem Pu:∀ c∈LLn,Hm c=true:=by decide +kernel
def txt (l:List Nat):Str:=⟨l.toArray⟩
theorem a65 {a b:List Nat}(h:txt a=txt b):a=b:=by
 have:a.toArray=b.toArray:=congrArg Str.cps h
 simpa using this
theorem Th (a b:List Nat):txt a++txt b=txt (a++b):=by
 show(⟨a.toArray++b.toArray⟩:Str)=⟨(a++b).toArray⟩
 simp
theorem G9 {l:List Nat}(h0:1<=l.length)(h1:l.length<=8)(h2:∀ c∈l,Hm c=true):M2 (txt l)=true:=by
 unfold M2
 have e:(txt l).length=l.length:=by show l.toArray.size=_;simp
 rw[e,decide_eq_true h0,decide_eq_true h1]
 show(true&&true&&l.all Hm)=true
 rw[List.all_eq_true.mpr h2]
 rfl
def K2 (a b:Nat):List Nat:=(LLn.drop a).take (b-a)
theorem Ij {a b:Nat}(h:a<=b)(h1:b<=52):(K2 a b).length=b-a:=by
 unfold K2
 rw[List.length_take,List.length_drop,Gz]
 omega
theorem Fn {a b:Nat}:∀ c∈K2 a b,Hm c=true:=fun c hc=>Pu c (List.mem_of_mem_drop (List.mem_of_mem_take hc))
theorem Qc {i j:Int}(h0:0<=i)(h1:i<=j)(h2:j<=52):Txt.slice LL (some i) (some j)=txt (K2 i.toNat j.toNat):=by
 have e:=StrLaws.sliceText_plain (x:=LL) (i:=i) (j:=j) ⟨h0,h1,by rw[show LL.cps.toList.length=52 by decide +kernel];omega⟩
 have e2:(j-i).toNat=j.toNat-i.toNat:=by omega
 rw[e2] at e
 exact e
def M3 (i:Nat):List Nat:=(LLn.drop i).take 1
theorem a56 {i:Int}(h0:0<=i)(h1:i<52):∃ c,atI LL.cps.toList i=some c/\(⟨#[c]⟩:Str)=txt (M3 i.toNat):=by
 have h2:i.toNat<LLn.length:=by rw[Gz];omega
 refine⟨LLn[i.toNat],?_,?_⟩
 . have:=E4 (List.getElem?_eq_getElem h2)
   rwa[Int.toNat_of_nonneg h0] at this
 unfold M3
 rw[List.drop_eq_getElem_cons h2]
 rfl
theorem La {i:Nat}(h:i<52):(M3 i).length=1:=by
 unfold M3
 rw[List.length_take,List.length_drop,Gz]
 omega
theorem Hk {i:Nat}:∀ c∈M3 i,Hm c=true:=fun c hc=>Pu c (List.mem_of_mem_drop (List.mem_of_mem_take hc))
theorem Cz {α β:Type}{f:α->β}:∀ {l:List α},l.Nodup->(∀ a∈l,∀ b∈l,f a=f b->a=b)->(l.map f).Nodup
 | [],_,_=>by simp
 | a :: l,h,hf=>by
   rw[List.map_cons,List.nodup_cons]
   rw[List.nodup_cons] at h
   refine⟨fun hm=>?_,Cz h.2 fun x hx y hy=>hf x (List.mem_cons_of_mem _ hx) y (List.mem_cons_of_mem _ hy)⟩
   obtain⟨b,hb,e⟩:=List.mem_map.mp hm
   have:=hf b (List.mem_cons_of_mem _ hb) a List.mem_cons_self e
   subst this
   exact h.1 hb
theorem Eu {α β:Type}{f:α->β}:∀ {l:List α},(l.map f).Nodup->∀ a∈l,∀ b∈l,f a=f b->a=b
 | [],_,a,ha,_,_,_=>by cases ha
 | c :: l,h,a,ha,b,hb,e=>by
   rw[List.map_cons,List.nodup_cons] at h
   rcases List.mem_cons.mp ha with q | ha'
   . rcases List.mem_cons.mp hb with q' | hb'
     . rw[q,q']
     exact absurd (List.mem_map.mpr ⟨b,hb',by rw[<- e,q]⟩) h.1
   rcases List.mem_cons.mp hb with q' | hb'
   . exact absurd (List.mem_map.mpr ⟨a,ha',by rw[e,q']⟩) h.1
   exact Eu h.2 a ha' b hb' e
theorem J9 {l:List (List Nat)}(h:l.Nodup):(l.map txt).Nodup:=Cz h fun a _ b _ e=>a65 e
theorem Names.perm {ns ms:List Str}(h:Names ns)(p:ms.Perm ns):Names ms:=⟨p.nodup_iff.mpr h.1,fun z hz=>h.2 z (p.mem_iff.mp hz)⟩
theorem Names.sublist {ns ms:List Str}(h:Names ns)(p:ms.Sublist ns):Names ms:=⟨h.1.sublist p,fun z hz=>h.2 z (p.subset hz)⟩
theorem Wz {xs:List V}{t:Int}(h0:0<=t)(h1:t<=xs.length):Kf xs (some t) none=xs.drop t.toNat:=by
 have e:HT.sIx xs.length 0 (some t)=t.toNat:=by unfold HT.sIx;simp[show ¬ t<0 by omega];omega
 unfold Kf
 rw[e]
 have e2:HT.sIx xs.length xs.length none=xs.length:=rfl
 rw[e2]
 exact List.take_of_length_le (by rw[List.length_drop];omega)
theorem Cd {xs:List V}{t:Int}(h0:0<=t):Kf xs none (some t)=xs.take t.toNat:=by
 have e:HT.sIx xs.length xs.length (some t)=min t.toNat xs.length:=by unfold HT.sIx;simp[show ¬ t<0 by omega]
 unfold Kf
 rw[e]
 have e2:HT.sIx xs.length 0 none=0:=rfl
 rw[e2,List.drop_zero,Nat.sub_zero,Nat.min_comm]
 rw[<- List.take_take]
 exact List.take_of_length_le (by rw[List.length_take];omega)
theorem Ek {lo:Int} {n i:Nat} {x:V} (h:((List.range n).map fun(i:Nat)=>V.int (lo+(i:Int)))[i]? = some x):x = .int (lo+(i:Int))/\i<n:=by
 rw[List.getElem?_map] at h
 cases e:(List.range n)[i]? with
 | none=>rw[e] at h;cases h
 | some j=>
   rw[e] at h
   cases h
   have e1:=List.getElem?_eq_some_iff.mp e
   obtain⟨h1,h2⟩:=e1
   rw[List.length_range] at h1
   rw[List.getElem_range] at h2
   subst h2
   exact⟨rfl,h1⟩
def fI (F:Int->V):V->V
 | .int k=>F k
 | v=>v
theorem Oj {lo:Int}{n:Nat}{F:Int->V}{G:Nat->Str}(h:∀ k<n,F (lo+(k:Int)) = .str (G k)):((List.range n).map fun(i:Nat)=>V.int (lo+(i:Int))).map (fI F)=((List.range n).map G).map V.str:=by
 rw[List.map_map,List.map_map]
 refine List.map_congr_left fun k hk=>?_
 exact h k (List.mem_range.mp hk)
theorem Om:LL.length<=sizeLine:=by rw[ac1,sizeLine_eq];omega
theorem ExtBut.off {d q:Addr}{H H1 H2:Hp}(e:ExtBut d H H1)(hq:H q=none)(e2:ExtBut q H1 H2):ExtBut d H H2:=fun b o n h=>e2 b o (ne_of_none h hq) (e b o n h)
theorem Same.off {q:Addr}{H H1 H2:Hp}(e:Same H H1)(hq:H q=none)(e2:ExtBut q H1 H2):Same H H2:=fun b o h=>e2 b o (ne_of_none h hq) (e b o h)
def Up (ls:List Str)(ps:List (Str×Str)):Prop:=∀ p∈ps,∃ i j:Nat,i<j/\ls[i]? = some p.1/\ls[j]? = some p.2
theorem Up.nil {ls:List Str}:Up ls []:=fun _ h=>by cases h
theorem Up.sub {ls:List Str}{ps qs:List (Str×Str)}(h:Up ls ps)(s:∀ p∈qs,p∈ps):Up ls qs:=fun p hp=>h p (s p hp)
theorem str_at? {ls:List Str}{i:Int}(h0:0<=i)(h1:i<ls.length):∃ z,ls[i.toNat]? = some z/\atI (ls.map V.str) i=some (.str z)/\atI ls i=some z:=by
 have h2:i.toNat<ls.length:=by omega
 refine⟨ls[i.toNat],List.getElem?_eq_getElem h2,?_,?_⟩
 . have:=E4 (xs:=ls.map V.str) (j:=i.toNat) (v:=.str ls[i.toNat]) (by rw[List.getElem?_map,List.getElem?_eq_getElem h2];rfl)
   rwa[Int.toNat_of_nonneg h0] at this
 have:=E4 (List.getElem?_eq_getElem h2)
 rwa[Int.toNat_of_nonneg h0] at this
theorem Kj {α:Type}:∀(us:List α) (k:Nat) (y:α),us[k]? = some y->(y :: us.eraseIdx k).Perm us
 | [],k,y,h=>by simp at h
 | u :: us,0,y,h=>by
   have:u=y:=by simpa using h
   subst this
   exact List.Perm.refl _
 | u :: us,k+1,y,h=>by
   have ih:=Kj us k y (by simpa using h)
   exact(List.Perm.swap u y _).trans (ih.cons u)
theorem Vm {α:Type}{us:List α}{k:Nat}{y:α}(h:us[k]? = some y)(vs:List α):(vs++[y]++us.eraseIdx k).Perm (vs++us):=by
 rw[List.append_assoc]
 exact List.Perm.append_left vs (Kj us k y h)
theorem Go {α:Type}{l:List α}{i:Nat}{y:α}(h:i<l.length):l[i]? = some (l.getD i y):=by rw[List.getD_eq_getElem?_getD,List.getElem?_eq_getElem h];rfl
inductive Way (ps:List (Str×Str)):Str->Str->Prop
 | one {x y:Str}:(x,y)∈ps->Way ps x y
 | cons {x z y:Str}:(x,z)∈ps->Way ps z y->Way ps x y
theorem Way.trans {ps:List (Str×Str)}{x y z:Str}(h:Way ps x y)(g:Way ps y z):Way ps x z:=by
 induction h with
 | one e=>exact .cons e g
 | cons e _ ih=>exact .cons e (ih g)
theorem Way.right {ps:List (Str×Str)}{x y:Str}(h:Way ps x y):y∈ps.map (·.2):=by
 induction h with
 | one e=>exact List.mem_map.mpr ⟨_,e,rfl⟩
 | cons _ _ ih=>exact ih
theorem Up.lt {ls:List Str}(hn:ls.Nodup){ps:List (Str×Str)}(h:Up ls ps){x y:Str}(g:Way ps x y):∃ i j:Nat,i<j/\ls[i]? = some x/\ls[j]? = some y:=by
 induction g with
 | one e=>exact h _ e
 | cons e _ ih=>
   obtain⟨i,j,h1,h2,h3⟩:=h _ e
   obtain⟨i',j',g1,g2,g3⟩:=ih
   have e:j=i':=by
    obtain⟨a,b⟩:=List.getElem?_eq_some_iff.mp h3
    obtain⟨c,d⟩:=List.getElem?_eq_some_iff.mp g2
    exact(List.getElem_inj hn).mp (b.trans d.symm)
   exact⟨i,j',by omega,h2,g3⟩
theorem Up.irrefl {ls:List Str}(hn:ls.Nodup){ps:List (Str×Str)}(h:Up ls ps){x:Str}:¬ Way ps x x:=fun g=>by
 obtain⟨i,j,h1,h2,h3⟩:=h.lt hn g
 obtain⟨a,b⟩:=List.getElem?_eq_some_iff.mp h2
 obtain⟨c,d⟩:=List.getElem?_eq_some_iff.mp h3
 have:=(List.getElem_inj hn).mp (b.trans d.symm)
 omega
theorem Up.mem {ls:List Str}{ps:List (Str×Str)}(h:Up ls ps){p:Str×Str}(hp:p∈ps):p.1∈ls/\p.2∈ls:=by
 obtain⟨i,j,_,h2,h3⟩:=h p hp
 exact⟨List.mem_of_getElem? h2,List.mem_of_getElem? h3⟩
structure Half (ns:List Str)(ps:List (Str×Str)):Prop where
 names:Names ns
 few:ns.length<=10
 le:ps.length<=60
 line:∃ ls:List Str,ls.Perm ns/\Up ls ps
theorem Half.irrefl {ns:List Str}{ps:List (Str×Str)}(h:Half ns ps){x:Str}:¬ Way ps x x:=by
 obtain⟨ls,h1,h2⟩:=h.line
 exact h2.irrefl (h1.nodup_iff.mpr h.names.1)
theorem Half.mem {ns:List Str}{ps:List (Str×Str)}(h:Half ns ps){p:Str×Str}(hp:p∈ps):p.1∈ns/\p.2∈ns:=by
 obtain⟨ls,h1,h2⟩:=h.line
 have:=h2.mem hp
 exact⟨h1.mem_iff.mp this.1,h1.mem_iff.mp this.2⟩
theorem Hs (ls:List Str):PyData.eqv (.list (ls.map PyData.str)) (.list [])=ls.isEmpty:=by
 cases ls<;>simp[PyData.eqv,PyData.eqvAll]
mutual
def Da:PyData->Bool
 | .none=>true
 | .bool _=>true
 | .str x=>PyData.strOk x
 | .list ds=>Hq ds
 | .tuple ds=>Hq ds
 | _=>false
def Hq:List PyData->Bool
 | []=>true
 | d :: ds=>Da d&&Hq ds
end
mutual
theorem Jo:∀ d:PyData,Da d=true->d.canLay0=true
 | .none,_=>by simp only[PyData.canLay0]
 | .bool _,_=>by simp only[PyData.canLay0]
 | .str x,h=>by simpa only[PyData.canLay0,Da] using h
 | .list ds,h=>by simp only[PyData.canLay0];exact Hj ds (by simpa only[Da] using h)
 | .tuple ds,h=>by simp only[PyData.canLay0];exact Hj ds (by simpa only[Da] using h)
 | .int _,h=>by simp[Da] at h
 | .dict _,h=>by simp[Da] at h
theorem Hj:∀ ds:List PyData,Hq ds=true->PyData.canLayAll0 ds=true
 | [],_=>by simp only[PyData.canLayAll0]
 | d :: ds,h=>by
   simp only[Hq,Bool.and_eq_true] at h
   simp only[PyData.canLayAll0,Jo d h.1,Hj ds h.2,Bool.and_self]
end
structure Fine (d:PyData):Prop where
 plain:Da d=true
 deep:d.depth<=60
 light:d.weight<=1000000
theorem Fine.shaped {d:PyData}(h:Fine d):SeqAt.shaped d=true:=by
 unfold SeqAt.shaped
 rw[Jo d h.plain,decide_eq_true (Nat.le_trans h.deep (by decide))]
 rfl
theorem Lo {z:Str}(h:M2 z=true):PyData.strOk z=true/\z.cps.size<=8:=by
 unfold M2 at h
 simp only[Bool.and_eq_true,decide_eq_true_eq] at h
 refine⟨?_,h.1.2⟩
 unfold PyData.strOk
 rw[<- Array.all_toList,List.all_eq_true]
 intro c hc
 have:=List.all_eq_true.mp h.2 c hc
 unfold Hm at this
 simp only[Bool.and_eq_true,decide_eq_true_eq] at this
 exact decide_eq_true (by omega)
theorem Fl {α:Type}(f:α->PyData):∀ xs:List α,(∀ a∈xs,Da (f a)=true)->Hq (xs.map f)=true
 | [],_=>by simp only[List.map_nil,Hq]
 | x :: xs,h=>by simp only[List.map_cons,Hq,h x List.mem_cons_self,Fl f xs fun a ha=>h a (List.mem_cons_of_mem _ ha),Bool.and_self]
theorem Ge {α:Type}(f:α->PyData)(n:Nat):∀ xs:List α,(∀ a∈xs,(f a).depth<=n)->PyData.depthAll (xs.map f)<=n
 | [],_=>by simp only[List.map_nil,PyData.depthAll];omega
 | x :: xs,h=>by
   have h1:=h x List.mem_cons_self
   have h2:=Ge f n xs fun a ha=>h a (List.mem_cons_of_mem _ ha)
   simp only[List.map_cons,PyData.depthAll]
   omega
theorem Gq {α:Type}(f:α->PyData)(n:Nat):∀ xs:List α,(∀ a∈xs,(f a).weight<=n)->PyData.weightAll (xs.map f)<=xs.length*(n+1)
 | [],_=>by simp only[List.map_nil,PyData.weightAll];omega
 | x :: xs,h=>by
   have h1:=h x List.mem_cons_self
   have h2:=Gq f n xs fun a ha=>h a (List.mem_cons_of_mem _ ha)
   simp only[List.map_cons,PyData.weightAll,List.length_cons,Nat.add_mul]
   omega
theorem Lm {ns:List Str}(h:∀ z∈ns,M2 z=true):Da (nmD ns)=true/\(nmD ns).depth<=1/\(nmD ns).weight<=ns.length*9:=by
 refine⟨by simp only[nmD,Da];exact Fl _ ns fun z hz=>by simp only[Da];exact(Lo (h z hz)).1,?_,?_⟩
 . simp only[nmD,PyData.depth]
   have:=Ge PyData.str 0 ns fun z hz=>by simp only[PyData.depth];omega
   omega
 simp only[nmD,PyData.weight]
 exact Gq PyData.str 8 ns fun z hz=>by simp only[PyData.weight];exact(Lo (h z hz)).2
theorem Ik {ns:List Str}(h:∀ z∈ns,PyData.strOk z=true):SeqAt.shaped (.list (ns.map PyData.str))=true:=by
 unfold SeqAt.shaped
 have e:(PyData.list (ns.map PyData.str)).canLay0=true:=Jo _ (by simp only[Da];exact Fl _ ns fun z hz=>by simp only[Da];exact h z hz)
 have e2:(PyData.list (ns.map PyData.str)).depth<=64:=by
  simp only[PyData.depth]
  have:=Ge PyData.str 0 ns fun z hz=>by simp only[PyData.depth];omega
  omega
 rw [e,decide_eq_true e2]
 rfl
theorem Ej {α:Type}[DecidableEq α]:∀ {xs ys:List α},xs.Nodup->(∀ x∈xs,x∈ys)->xs.length<=ys.length
 | [],_,_,_=>Nat.zero_le _
 | x :: xs,ys,h,hs=>by
   rw[List.nodup_cons] at h
   have hx:x∈ys:=hs x List.mem_cons_self
   have ih:=Ej (xs:=xs) (ys:=ys.erase x) h.2 fun z hz=>by
    refine(List.mem_erase_of_ne ?_).mpr (hs z (List.mem_cons_of_mem _ hz))
    intro e
    subst e
    exact h.1 hz
   rw[List.length_erase_of_mem hx] at ih
   have:0<ys.length:=List.length_pos_of_mem hx
   rw[List.length_cons]
   omega
section
variable {c:TT}{tb:TS}{D:Ends}{σ:St}{H:Hp}
theorem Sw (W:Nat->St->Hp->Prop)(m:Nat)(h0:W m σ H)
  (hs:∀ m σ H,W m σ H->c σ H fun b H1=>if b=true then ∃ N:St->Hp->Prop,(∀ σ' H',N σ' H'->∃ m',m'<m/\W m' σ' H')/\tb { D with nx:=N,ct:=N,bk:=D.nx } σ H1 else D.nx σ H1):Y6 c tb D σ H:=⟨W,⟨m,h0⟩,hs⟩
theorem Xo {W:Nat->St->Hp->Prop}{m:Nat}(h:tb { D with nx:=fun σ' H'=>∃ m',m'<m/\W m' σ' H',ct:=fun σ' H'=>∃ m',m'<m/\W m' σ' H',bk:=D.nx } σ H) :
  ∃ N:St->Hp->Prop,(∀ σ' H',N σ' H'->∃ m',m'<m/\W m' σ' H')/\tb { D with nx:=N,ct:=N,bk:=D.nx } σ H:=⟨_,fun _ _ h=>h,h⟩
end
section
variable {X:Cx}{K:PySem.W.Frag}
def Op:V->List V->Hp->VK->Prop:=fun x vs H Q=>∃ d o kvs more,x = .ref d/\vs=[.ref o]/\d≠o/\H d=some (.dK kvs)/\H o=some (.dK more)/\kvs.length+more.length<=1000000/\Q .non (upd H d (.dK (Ci kvs more)))
theorem Tn:MtM X "dict.update" Op:=by
 intro pins s σ H x vs v us Q I rx rv h
 obtain⟨d,o,kvs,more,rfl,rfl,hdo,hD,hO,hz,q⟩:=h
 cases rx
 obtain⟨u,rfl,ru⟩:=rv.one
 cases ru
 obtain⟨z1,hd1,vs1,rel1,dd1⟩:=P0 I.hok hD
 obtain⟨z2,hd2,vs2,rel2,dd2⟩:=P0 I.hok hO
 have l1:kvs.length=vs1.length:=rel1.length
 have l2:more.length=vs2.length:=rel2.length
 refine call_meetsIn F.slot_dict_update dd1.typeIs F.entry_dict_update (F.args_dict_update_2 _ _) (meets_dict_update (Az X.prog X.w) d o hdo hd2) ⟨vs1,vs2,dd1,dd2,A8 (by omega),fun h' dd' _ hs=>?_⟩
 have he:∃ q,h'.get? d=some q:=let ⟨q,_,_,hq,_⟩:=dd';⟨q,hq⟩
 refine⟨.non,_,Lh I (by rw[hD];exact True.intro) hs he (Me ?_ hd1 (KV.merge rel2 rel1) dd'),rfl,q⟩
 have:=Cf more kvs
 exact A8 (by omega)
end
theorem Ep:entryFor table "dict.update.loop" = some Builtin.«dict.update.loop»:=entryFor_of_tree (by kernel_rfl)
theorem Bw:plainId "dict.update.loop" = true:=by decide +kernel
theorem Nd:typeLookup (.type "list") "keys" = pure none:=by rw[typeLookup_type,builtinLookup_eq_fast];kernel_rfl
section
variable {prog:Program}{w:World}{κ:Type}[DecidableEq κ]{knd:KeyKind prog w κ}{A:Around}{E:Value->Shared->Prop}{s:Shared}
theorem Tm {a:Addr}{xs:Array Value}{k:Nat}{Q:Option Value->Shared->Prop}(hx:s.heap.get? a=some { cls:=.type "list",data:=.seq xs k })(hA:A.handled=none)
  (h:∀ h' tk,(∀ b o,s.heap.get? b=some o->h'.get? b=some o)->Q none { s with heap:=h',toks:=tk }):wpAny (model prog w) A (getAttr? (.ref a) "keys") Q E s:=by
 obtain⟨hp,g,d,tk,os⟩:=s
 have hT:∀ tk',(⟨hp,g,d,tk',os⟩:Shared).TypeIs (.ref a) "list":=fun _=>⟨_,hx,rfl⟩
 have f1:=sub_AttributeError
 have f3:=F.slot_list_getattribute.lookup
 have f4:=F.slot_list_getattribute.bind (.ref a)
 have f5:=am_list_getattr_none
 unfold getAttr? getAttrBy? getAttrBy
 repeat (any_goals (first | assumption | exact hT _ | ((with_reducible show wpAny _ _ (call (Value.builtin "list.__getattribute__") _ _) _ _ _);refine call_meets F.slot_list_getattribute (hT _) am_entry_list_getattribute (F.args_list_getattribute_2 _ _) (meets_getattribute_miss_list a xs k #[] "keys" _ Nd (by decide +kernel) (by rw[sizeLine_eq];decide +kernel)) ⟨hx,hA,fun h' tk' e hx'=>?_⟩) | wp_step))
 obtain⟨t',u',he⟩:=hx'.there
 show wpAny _ _ (getattributeRaised _ _ _ _ _ _ _) _ _ _
 unfold getattributeRaised
 repeat (any_goals (first | assumption | wp_step))
 exact h _ _ hx'.keeps
theorem Ku {t:Addr}{k v:Value}{Q:List Value->Shared->Prop}(ht:IsTup s.heap t #[k,v])(h:Q [k,v] s):wpAny (model prog w) A (Builtin.Dict.pairItems (.ref t)) Q E s:=by
 obtain⟨o,ho,hc,n,hd⟩:=ht
 unfold Builtin.Dict.pairItems
 refine wpAny_bind (wpAny_typeOf ⟨o,ho,hc⟩ ?_)
 rw[if_pos (by decide)]
 refine wpAny_bind (wpAny_seqItems ho hd ?_)
 exact wpAny_pure h
theorem So {I D l:Addr}{items:Array Value}(hh:A.in1.handled=none)(hne:l≠I)(hDI:D≠I)(hDl:D≠l)(pk:List (κ×Value×Addr×Value))(hlen:pk.length=items.size)(hz:items.size<=1000000) :
  ∀(j i:Nat) (s:Shared) (R:Result->Shared->Prop),items.size-i=j->i<=items.size->s.heap.IsListIter I l i->s.heap.IsList l items ->
   s.heap.DictOf knd D (merged [] ((pk.take i).map fun p=>(p.1,p.2.1))) ->
   (∀(n:Nat) (p:κ×Value×Addr×Value),pk[n]? = some p->items[n]? = some (Value.ref p.2.2.1)/\p.2.2.1≠I/\p.2.2.1≠D/\IsTup s.heap p.2.2.1 #[p.2.2.2,p.2.1]/\knd.is p.1 p.2.2.2=true) ->
   (∀ h' tk,h'.DictOf knd D (merged [] (pk.map fun p=>(p.1,p.2.1)))->(∀ b o,b≠D->b≠I->s.heap.get? b=some o->h'.get? b=some o)->R (.ok (.ret .none)) { s with heap:=h',toks:=tk }) ->
   codeAny (model prog w) A (.builtin "dict.update.loop" ⟨[.ref D,.ref I,.int i 0,.none],[]⟩) R s:=by
 have W:=Walks.list (prog:=prog) (w:=w) hh I l hne items
 intro j
 induction j with
 | zero=>
   intro i s R hj hi hI hL hD hP hR
   have hin:i=items.size:=by omega
   subst hin
   refine codeAny_builtin Ep ?_
   rw[Around.under_plainId Bw _]
   show wpAny _ A.in1 (pyNext (.ref I) >>= _) _ _ s
   refine wpAny_bind (W.done s _ _ ⟨hI,hL⟩ fun h' tk hm=>?_)
   show wpAny _ A.in1 (Builtin.Dict.addKeywords D [] >>= _) _ _ _
   refine wpAny_bind (wpAny_pure (wpAny_pure (hR h' tk ?_ fun b o hb hb' e=>hm b o (by simpa using hb') e)))
   rw[<- hlen,List.take_length] at hD
   obtain⟨o,es,ep,ho,r⟩:=hD
   exact⟨o,es,ep,hm D o (by simpa using hDI) ho,r⟩
 | succ j ih=>
   intro i s R hj hi hI hL hD hP hR
   have hlt:i<items.size:=by omega
   obtain⟨p,hp⟩:∃ p,pk[i]? = some p:=⟨pk[i]'(by omega),List.getElem?_eq_getElem _⟩
   obtain⟨q1,q2,q3,q4,q5⟩:=hP i p hp
   refine codeAny_builtin Ep ?_
   rw[Around.under_plainId Bw _]
   show wpAny _ A.in1 (pyNext (.ref I) >>= _) _ _ s
   refine wpAny_bind (W.item i s _ _ hlt ⟨hI,hL⟩ fun v h' tk hv hst hm=>?_)
   have hv':v = .ref p.2.2.1:=by
    have hv2:items[i]? = some v:=hv
    rw[q1] at hv2
    exact(Option.some.inj hv2).symm
   subst hv'
   have ht':IsTup h' p.2.2.1 #[p.2.2.2,p.2.1]:=by
    obtain⟨o,ho,r⟩:=q4
    exact⟨o,hm _ o (by simpa using q2) ho,r⟩
   have hD':h'.DictOf knd D (merged [] ((pk.take i).map fun p=>(p.1,p.2.1))):=by
    obtain⟨o,es,ep,ho,r⟩:=hD
    exact⟨o,es,ep,hm D o (by simpa using hDI) ho,r⟩
   show wpAny _ A.in1 (holding [Value.ref p.2.2.1] _ >>= _) _ _ _
   refine wpAny_bind (wpAny_holding ?_)
   refine wpAny_bind (wpAny_tryCatch (Ku ht' ?_))
   show wpAny _ A.in1 (holding [p.2.2.2,p.2.1] (dictSet D p.2.2.2 p.2.1)) _ _ _
   refine wpAny_holding (wpAny_dictSet_pairs q5 hD' (fun h'' hD'' hs=>?_) ?_)
   . refine wpAny_pure ⟨plainId_quiet Bw _,?_⟩
     have hkeep:∀ b o,b≠D->b≠I->s.heap.get? b=some o->h''.get? b=some o:=fun b o h1 h2 e=>(hs.2 b h1).trans (hm b o (by simpa using h2) e)
     refine ih (i+1) _ R (by omega) hlt ?_ ?_ ?_ (fun n p' hp'=>?_) fun h3 tk3 hD3 hk3=>hR h3 tk3 hD3 fun b o h1 h2 e=>hk3 b o h1 h2 (hkeep b o h1 h2 e)
     . exact hst.1.at fun o e=>(hs.2 I (Ne.symm hDI)).trans e
     . exact hst.2.at fun o e=>(hs.2 l (Ne.symm hDl)).trans e
     . have e:merged [] ((pk.take (i+1)).map fun p=>(p.1,p.2.1))=stored (merged [] ((pk.take i).map fun p=>(p.1,p.2.1))) p.1 p.2.1:=by
        rw[List.take_add_one,hp]
        unfold merged
        rw[List.map_append,List.foldl_append]
        rfl
       rw[e]
       exact hD''
     obtain⟨a1,a2,a3,⟨o,ho,r⟩,a5⟩:=hP n p' hp'
     exact⟨a1,a2,a3,⟨o,hkeep _ o a3 a2 ho,r⟩,a5⟩
   refine Nat.le_trans (merged_length_le _ _) (A8 ?_)
   rw[List.length_map,List.length_take]
   simp
   omega
theorem J0 {l:Addr}{items:Array Value}{n:Nat}{Q:Value->Shared->Prop}(hl:s.heap.get? l=some { cls:=.type "list",data:=.seq items n })(hA:A.handled=none)(pk:List (κ×Value×Addr×Value))(hlen:pk.length=items.size)(hz:items.size<=1000000)
  (hP:∀(n:Nat) (p:κ×Value×Addr×Value),pk[n]? = some p->items[n]? = some (Value.ref p.2.2.1)/\IsTup s.heap p.2.2.1 #[p.2.2.2,p.2.1]/\knd.is p.1 p.2.2.2=true)
  (h:∀ h' tk,h'.DictOf knd s.heap.objs.size (merged [] (pk.map fun p=>(p.1,p.2.1)))->(∀ b o,s.heap.get? b=some o->h'.get? b=some o)->Q (.ref s.heap.objs.size) { s with heap:=h',toks:=tk }) :
  wpAny (model prog w) A (call (.type "dict") [.ref l]) Q E s:=by
 refine callType_codes (Q₁:=fun obj s₁=>obj = .ref s.heap.objs.size/\s₁={ s with heap:=s.heap.push { cls:=.type "dict",data:=.dict #[] } }) F.kt_called_dict (F.kt_typeCall_dict_1 _) F.entry_dict_init (kt_code_dict_new _ ⟨rfl,rfl⟩) ?_
 rintro obj s₁ ⟨rfl,rfl⟩
 have hnew:(s.heap.push { cls:=.type "dict",data:=.dict #[] }).DictOf knd s.heap.objs.size []:=Heap.DictOf.new s.heap
 have hl':(s.heap.push { cls:=.type "dict",data:=.dict #[] }).get? l=some { cls:=.type "list",data:=.seq items n }:=Heap.get?_push_of_some _ hl
 have hll:l<s.heap.objs.size:=Heap.lt_size hl
 refine⟨hnew.typeIs,F.args_dict_init_2 _ _,?_⟩
 unfold Builtin.«dict.__init__»
 refine wpAny_bind ?_
 unfold Builtin.Dict.selfAndRest
 refine wpAny_bind (wpAny_notOrdered_dict hnew.typeIs ?_)
 show wpAny _ _ (pure (s.heap.objs.size,[Value.ref l])) _ _ _
 refine wpAny_pure ?_
 show wpAny _ _ (Builtin.Dict.updateFrom "dict.__init__" s.heap.objs.size (.ref l) [] .none) _ _ _
 unfold Builtin.Dict.updateFrom
 refine wpAny_bind (wpAny_typeOf ⟨_,hl',rfl⟩ ?_)
 rw[if_pos (by decide)]
 refine wpAny_bind (Tm hl' (by simpa using hA) fun h1 tk1 hk1=>?_)
 have hl1:h1.get? l=some { cls:=.type "list",data:=.seq items n }:=hk1 _ _ hl'
 rw[if_pos (show(none:Option Value).isNone=true from rfl)]
 have hD1:h1.DictOf knd s.heap.objs.size []:=by
  obtain⟨o,es,ep,ho,r⟩:=hnew
  exact⟨o,es,ep,hk1 _ _ ho,r⟩
 have hsz:s.heap.objs.size<h1.objs.size:=by
  obtain⟨o,es,ep,ho,r⟩:=hD1
  exact Heap.lt_size ho
 refine wpAny_bind (wpAny_rule ?_)
 have hL1:h1.IsList l items:=⟨_,hl1,rfl,n,rfl⟩
 refine wpAny_bind (wpAny_pyIter_list hL1 ?_)
 refine wpAny_pure ⟨plainId_quiet Bw _,?_⟩
 have kp:∀ b o,s.heap.get? b=some o->(h1.push { cls:=.type "list_iterator",data:=.fields #[.ref l,.int 0 0] }).get? b=some o:=fun b o e=>Heap.get?_push_of_some _ (hk1 _ _ (Heap.get?_push_of_some _ e))
 refine So (knd:=knd) (A:=A.in1) (I:=h1.objs.size) (D:=s.heap.objs.size) (l:=l) (items:=items) (by simpa using hA) (Nat.ne_of_lt (Nat.lt_trans hll hsz)) (Nat.ne_of_lt hsz) (Nat.ne_of_gt hll) pk hlen hz items.size 0 _ _ (Nat.sub_zero _) (Nat.zero_le _) ⟨_,Heap.get?_push_size _ rfl,rfl,rfl⟩ (hL1.push _) ?_ (fun m p hp=>?_) fun h' tk hD hk=>?_
 . exact hD1.push _
 . obtain⟨a1,⟨o,ho,r⟩,a3⟩:=hP m p hp
   have hlt:=Heap.lt_size ho
   exact⟨a1,Nat.ne_of_lt (Nat.lt_trans hlt hsz),Nat.ne_of_lt hlt,⟨o,kp _ _ ho,r⟩,a3⟩
 refine⟨rfl,h h' tk hD fun b o e=>?_⟩
 have hlt:=Heap.lt_size e
 exact hk b o (Nat.ne_of_lt hlt) (Nat.ne_of_lt (Nat.lt_trans hlt hsz)) (kp b o e)
end
def PrsK (K:PySem.W.Frag)(H:Hp):List (Key×V)->List V->Prop
 | [],ys=>ys=[]
 | kv :: r,ys=>∃ t ys',ys = .ref t :: ys'/\SqT K H t [kV kv.1,kv.2]/\PrsK K H r ys'
theorem PrsK.pk {X:Cx}{pins:List (Addr×Obj)}{σ:St}{H:Hp}{s:Shared}(I:Inv X pins σ H s):∀(kvs:List (Key×V)) (ys:List V) (its:List Value),PrsK X.K H kvs ys->Vals ys its ->
  ∃ pk:List (Key×Value×Addr×Value),pk.length=its.length/\KV kvs (pk.map fun p=>(p.1,p.2.1))/\∀(n:Nat) (p:Key×Value×Addr×Value),pk[n]? = some p->its[n]? = some (Value.ref p.2.2.1)/\IsTup s.heap p.2.2.1 #[p.2.2.2,p.2.1]/\(Az X.prog X.w).is p.1 p.2.2.2=true
 | [],ys,its,h,v=>by
   have h':ys=[]:=h
   subst h'
   cases v
   exact ⟨[],rfl,.nil,fun n p hp=>by simp at hp⟩
 | kv :: r,ys,its,h,v=>by
   obtain⟨t,ys',rfl,h2,h3⟩:=h
   cases v with
   | cons v1 v2=>
     obtain⟨pk,l1,l2,l3⟩:=PrsK.pk I r ys' _ h3 v2
     cases v1
     obtain ⟨its2,rv,ht,_⟩:=I.tuple h2
     obtain⟨key,val,rfl,a1,a3⟩:=Vals.two rv
     refine⟨(kv.1,val,t,key) :: pk,by simp[l1],.cons ⟨rfl,a3⟩ l2,fun n p hp=>?_⟩
     cases n with
     | zero=>
       have:p=(kv.1,val,t,key):=(Option.some.inj (by simpa using hp)).symm
       subst this
       exact⟨rfl,ht,O6 a1⟩
     | succ n=>exact l3 n p (by simpa using hp)
section
variable {X:Cx}{K:PySem.W.Frag}
def T5 (K:PySem.W.Frag):List V->Hp->VK->Prop:=fun xs H Q=>∃ l ys kvs,xs=[V.ref l]/\H l=some (.lst ys)/\PrsK K H kvs ys/\ys.length<=1000000/\kvs.length<=1000000/\∀ p,H p=none->Q (.ref p) (upd H p (.dK (Ci [] kvs)))
theorem Qq (hr:X.A.handled=none):CallR X (.type "dict") (T5 X.K):=by
 intro pins s σ H xs us Q I rv h
 obtain⟨l,ys,kvs,rfl,hl,hp,hz,hz2,q⟩:=h
 obtain⟨u,rfl,ru⟩:=rv.one
 cases ru
 obtain⟨z,its,n,r,hlen,e⟩:=I.lstM hl
 obtain⟨pk,l1,l2,l3⟩:=PrsK.pk I kvs ys its hp r
 refine J0 (knd:=Az X.prog X.w) e hr pk (by simpa using l1) (by simp;omega) (fun n p hp=>?_) fun h' tk hD hk=>?_
 . obtain⟨a1,a2,a3⟩:=l3 n p hp
   exact⟨by simpa using a1,a2,a3⟩
 refine⟨.ref s.heap.objs.size,_,I.laid hk (Nat.le_refl _) (Me ?_ ?_ (KV.merge l2 .nil) hD),rfl,q _ (I.hok.fresh (Nat.le_refl _))⟩
 . have:=Cf kvs []
   exact A8 (by simpa using Nat.le_trans this (by simpa using hz2))
 exact beq_eq_false_iff_ne.mpr (Nat.ne_of_gt I.big)
theorem K8 (hr:X.A.handled=none)(hK:X.K=K:=by ac_nf):CallR X (.type "dict") (T5 K):=hK ▸ Qq hr
end
def Ie (ns:List Str)(as:List Addr):List (Key×V):=(ns.zip as).map fun p=>(Sum.inr p.1,V.ref p.2)
def He (ks:List Str):List (Key×V):=ks.map fun y=>(Sum.inr y,V.bl true)
theorem En:∀ {ns:List Str} {as:List Addr} {i:Nat} {z:Str} {a:Addr},ns.Nodup->ns[i]? = some z->as[i]? = some a->D3 (Ie ns as) (Sum.inr z:Key)=some (.ref a)
 | [],_,i,_,_,_,h,_=>by simp at h
 | n :: ns,[],i,_,_,_,_,h=>by simp at h
 | n :: ns,b :: as,0,z,a,_,h,g=>by
   simp at h g
   subst h g
   exact Bf rfl
 | n :: ns,b :: as,i+1,z,a,hn,h,g=>by
   rw[List.nodup_cons] at hn
   have h':ns[i]? = some z:=by simpa using h
   have ne:¬ (Sum.inr n:Key)=Sum.inr z:=by
    intro e
    have e2:n=z:=by injection e
    subst e2
    exact hn.1 (List.mem_of_getElem? h')
   show D3 ((Sum.inr n,V.ref b) :: Ie ns as) _=_
   rw[Bg ne]
   exact En hn.2 h' (by simpa using g)
theorem Pw (y:Str):∀ ks:List Str,D3 (He ks) (Sum.inr y:Key)=if y∈ks then some (.bl true) else none
 | []=>by simp[He,W5]
 | k :: ks=>by
   show D3 ((Sum.inr k,V.bl true) :: He ks) _=_
   by_cases e:k=y
   . subst e
     rw[Bf rfl,if_pos List.mem_cons_self]
   rw[Bg (by intro q;injection q with q;exact e q),Pw y ks]
   have:(y∈k :: ks)↔y∈ks:=by simp[Ne.symm e]
   simp only[this]
def Yk (ks:List Str)(y:Str):List Str:=if y∈ks then ks else ks++[y]
theorem mem_addK {ks:List Str}{y z:Str}:z∈Yk ks y↔z∈ks\/z=y:=by
 unfold Yk
 split
 . constructor
   . exact .inl
   rintro(h | rfl)
   . exact h
   assumption
 simp
theorem Kb {ks:List Str}{y:Str}(h:ks.Nodup):(Yk ks y).Nodup:=by
 unfold Yk
 split
 . exact h
 rename_i hy
 rw[List.nodup_append]
 refine⟨h,by simp,fun a ha b hb e=>?_⟩
 have:b=y:=by simpa using hb
 subst this
 subst e
 exact hy ha
theorem a42 (y:Str)(ks:List Str):((He ks).any fun kv=>decide (kv.1=(Sum.inr y:Key)))=decide (y∈ks):=by
 induction ks with
 | nil=>simp[He]
 | cons k ks ih=>
   show(decide ((Sum.inr k:Key)=Sum.inr y)||(He ks).any _)=_
   rw[ih]
   by_cases e:k=y
   . subst e;simp
   have e':¬ (Sum.inr k:Key)=Sum.inr y:=by intro q;injection q with q;exact e q
   simp[e',Ne.symm e]
theorem U5 (ks:List Str)(y:Str):Db (He ks) (Sum.inr y:Key) (.bl true)=He (Yk ks y):=by
 unfold Db Yk
 rw[a42]
 by_cases h:y∈ks
 . rw[if_pos (decide_eq_true h),if_pos h]
   unfold He
   rw[List.map_map]
   refine List.map_congr_left fun k _=>?_
   show(if(Sum.inr k:Key)=Sum.inr y then(Sum.inr k,V.bl true) else(Sum.inr k,V.bl true))=_
   split<;>rfl
 rw[if_neg (by simpa using h),if_neg h]
 unfold He
 rw[List.map_append]
 rfl
def Jk (ks ms:List Str):List Str:=ms.foldl Yk ks
theorem Nh:∀(ms ks:List Str),Ci (He ks) (He ms)=He (Jk ks ms)
 | [],ks=>rfl
 | m :: ms,ks=>by
   show Ci (Db (He ks) (Sum.inr m) (.bl true)) (He ms)=_
   rw[U5,Nh ms]
   rfl
theorem mem_addAll:∀ {ms ks:List Str} {z:Str},z∈Jk ks ms↔z∈ks\/z∈ms
 | [],ks,z=>by simp[Jk]
 | m :: ms,ks,z=>by
   show z∈Jk (Yk ks m) ms↔_
   rw[mem_addAll,mem_addK,List.mem_cons,or_assoc]
theorem Ht:∀ {ms ks:List Str},ks.Nodup->(Jk ks ms).Nodup
 | [],ks,h=>h
 | m :: ms,ks,h=>Ht (ms:=ms) (Kb h)
theorem Ou (ks:List Str):(He ks).length=ks.length:=by simp[He]
theorem Gf:∀(kvs acc:List (Key×V)),(kvs.map (·.1)).Nodup->(∀ k∈kvs,∀ q∈acc,q.1≠k.1)->Ci acc kvs=acc++kvs
 | [],acc,_,_=>by simp[Ci]
 | k :: kvs,acc,hn,hd=>by
   show Ci (Db acc k.1 k.2) kvs=_
   have e:Db acc k.1 k.2=acc++[k]:=by
    unfold Db
    have:¬ (acc.any fun kv=>decide (kv.1=k.1))=true:=by
     rw[List.any_eq_true]
     rintro⟨q,hq,e⟩
     exact hd k List.mem_cons_self q hq (of_decide_eq_true e)
    rw[if_neg this]
   rw[List.map_cons,List.nodup_cons] at hn
   rw[e,Gf kvs (acc++[k]) hn.2 fun x hx q hq=>?_,List.append_assoc]
   . rfl
   rcases List.mem_append.mp hq with hq | hq
   . exact hd x (List.mem_cons_of_mem _ hx) q hq
   have:q=k:=by simpa using hq
   subst this
   intro e
   exact hn.1 (List.mem_map.mpr ⟨x,hx,e.symm⟩)
structure Tab (H:Hp)(r:Addr)(ns:List Str)(as:List Addr)(R:Str->Str->Prop):Prop where
 len:as.length=ns.length
 nd:as.Nodup
 nr:r∉as
 top:H r=some (.dK (Ie ns as))
 row:∀(i:Nat) (z:Str) (a:Addr),ns[i]? = some z->as[i]? = some a->∃ ks:List Str,H a=some (.dK (He ks))/\ks.Nodup/\(∀ y∈ks,y∈ns)/\∀ y,y∈ks↔R z y
theorem Tab.same {H H':Hp}{r:Addr}{ns:List Str}{as:List Addr}{R:Str->Str->Prop}(h:Tab H r ns as R)(e:Same H H'):Tab H' r ns as R:=
 ⟨h.len,h.nd,h.nr,e _ _ h.top,fun i z a hz ha=>let ⟨ks,h1,h2⟩:=h.row i z a hz ha;⟨ks,e _ _ h1,h2⟩⟩
theorem Tab.congr {H:Hp}{r:Addr}{ns:List Str}{as:List Addr}{R R':Str->Str->Prop}(h:Tab H r ns as R)(e:∀ z∈ns,∀ y,R z y↔R' z y):Tab H r ns as R':=
 ⟨h.len,h.nd,h.nr,h.top,fun i z a hz ha=>let ⟨ks,h1,h2,h3,h4⟩:=h.row i z a hz ha;⟨ks,h1,h2,h3,fun y=>(h4 y).trans (e z (List.mem_of_getElem? hz) y)⟩⟩
theorem Tab.put {H H':Hp}{r b:Addr}{ns:List Str}{as:List Addr}{R R':Str->Str->Prop}(h:Tab H r ns as R)(e:ExtBut b H H'){j:Nat}{x:Str}(hn:ns.Nodup)(hj:ns[j]? = some x)(hb:as[j]? = some b){ks:List Str}
  (hk:H' b=some (.dK (He ks))) (k1:ks.Nodup) (k2:∀ y∈ks,y∈ns) (k3:∀ y,y∈ks↔R' x y) (k4:∀ z∈ns,z≠x->∀ y,R z y↔R' z y):Tab H' r ns as R':=by
 refine⟨h.len,h.nd,h.nr,e _ _ (fun q=>h.nr (q ▸ List.mem_of_getElem? hb)) h.top,fun i z a hz ha=>?_⟩
 by_cases hij:i=j
 . subst hij
   rw[hz] at hj
   cases hj
   rw[ha] at hb
   cases hb
   exact⟨ks,hk,k1,k2,k3⟩
 obtain⟨ms,h1,h2,h3,h4⟩:=h.row i z a hz ha
 have hab:a≠b:=by
  intro q
  subst q
  obtain⟨p1,p2⟩:=List.getElem?_eq_some_iff.mp ha
  obtain⟨q1,q2⟩:=List.getElem?_eq_some_iff.mp hb
  exact hij ((List.getElem_inj h.nd).mp (p2.trans q2.symm))
 have hzx:z≠x:=by
  intro q
  subst q
  obtain⟨p1,p2⟩:=List.getElem?_eq_some_iff.mp hz
  obtain⟨q1,q2⟩:=List.getElem?_eq_some_iff.mp hj
  exact hij ((List.getElem_inj hn).mp (p2.trans q2.symm))
 exact⟨ms,e _ _ hab h1,h2,h3,fun y=>(h4 y).trans (k4 z (List.mem_of_getElem? hz) hzx y)⟩
theorem Tab.at {H:Hp}{r:Addr}{ns:List Str}{as:List Addr}{R:Str->Str->Prop}(h:Tab H r ns as R){x:Str}(hx:x∈ns):∃(i:Nat) (a:Addr),ns[i]? = some x/\as[i]? = some a:=by
 obtain⟨i,hi,e⟩:=List.getElem_of_mem hx
 have hi':i<as.length:=by rw[h.len];exact hi
 exact⟨i,as[i],by rw[List.getElem?_eq_getElem hi,e],List.getElem?_eq_getElem hi'⟩
section
variable {K:PySem.W.Frag}{H:Hp}{Q:VK}{r:Addr}{ns:List Str}{as:List Addr}{R:Str->Str->Prop}
theorem P5 {x:Str}{i:Nat}{a:Addr}(h:Tab H r ns as R)(hn:ns.Nodup)(hx:ns[i]? = some x)(ha:as[i]? = some a)(k:Q (.ref a) H):P3 K (.ref r) (.str x) H Q:=i_ixD h.top (En hn hx ha) k
theorem Rz {a:Addr}{ks:List Str}{y:Str}(h:H a=some (.dK (He ks)))(k:Q (.bl (decide (y∈ks))) H):Wx K false (.str y) (.ref a) H Q:=by
 refine .inr (.inr (.inl ⟨a,D3 (He ks) (Sum.inr y:Key),rfl,DGet.k (k:=Sum.inr y) h,?_⟩))
 rw[Pw]
 by_cases e:y∈ks
 . rw[if_pos e];simpa[e] using k
 rw[if_neg e];simpa[e] using k
theorem Z1 {a:Addr}{kvs:List (Key×V)}{B:Prop}(h:H a=some (.dK kvs))(k:B):tyV K "dict" (.ref a) H/\B:=⟨.inr (.inr (.inl ⟨rfl,.inl ⟨kvs,h⟩⟩)),k⟩
theorem am7 {d o:Addr}{ks ms:List Str}(hd:H d=some (.dK (He ks)))(ho:H o=some (.dK (He ms)))(hne:d≠o)(hz:ks.length+ms.length<=1000000)(k:∀ H',ExtBut d H H'->H' d=some (.dK (He (Jk ks ms)))->Q .non H'):Op (.ref d) [.ref o] H Q:=
 ⟨d,o,_,_,rfl,rfl,hne,hd,ho,by rw[Ou,Ou];exact hz,k _ ExtBut.upd (by rw[A9,Nh])⟩
end
structure HalfW (ns:List Str)(ps:List (Str×Str)):Prop where
 nd:ns.Nodup
 mem:∀ p∈ps,p.1∈ns/\p.2∈ns
 irr:∀ x,¬ Way ps x x
 few:ns.length<=100
 le:ps.length<=1000
theorem Half.w {ns:List Str}{ps:List (Str×Str)}(h:Half ns ps):HalfW ns ps:=⟨h.names.1,fun p hp=>h.mem hp,fun _=>h.irrefl,Nat.le_trans h.few (by decide),Nat.le_trans h.le (by decide)⟩
structure War (ns:List Str)(ps:List (Str×Str))(ms:List Str)(R:Str->Str->Prop):Prop where
 snd:∀ z y,R z y->Way ps z y
 edge:∀ z y,(z,y)∈ps->R z y
 shut:∀ m∈ms,∀ z y,R z m->R m y->R z y
def Y8 (R:Str->Str->Prop)(mid:Str)(ms:List Str)(z y:Str):Prop:=R z y\/(z∈ms/\R z mid/\R mid y)
theorem War.step {ns:List Str}{ps:List (Str×Str)}{ms:List Str}{R:Str->Str->Prop}(h:War ns ps ms R){mid:Str}:War ns ps (ms++[mid]) (fun z y=>R z y\/(R z mid/\R mid y)):=by
 refine⟨fun z y hz=>?_,fun z y hz=>.inl (h.edge z y hz),fun m hm z y h1 h2=>?_⟩
 . rcases hz with hz | ⟨h1,h2⟩
   . exact h.snd z y hz
   exact(h.snd _ _ h1).trans (h.snd _ _ h2)
 rcases List.mem_append.mp hm with hm | hm
 . rcases h1 with h1 | ⟨h1,h1'⟩
   . rcases h2 with h2 | ⟨h2,h2'⟩
     . exact .inl (h.shut m hm z y h1 h2)
     exact .inr ⟨h.shut m hm z mid h1 h2,h2'⟩
   rcases h2 with h2 | ⟨h2,h2'⟩
   . exact .inr ⟨h1,h.shut m hm mid y h1' h2⟩
   exact .inr ⟨h1,h2'⟩
 have e:m=mid:=by simpa using hm
 subst e
 rcases h1 with h1 | ⟨h1,h1'⟩
 . rcases h2 with h2 | ⟨h2,h2'⟩
   . exact .inr ⟨h1,h2⟩
   exact .inr ⟨h1,h2'⟩
 rcases h2 with h2 | ⟨h2,h2'⟩
 . exact .inr ⟨h1,h2⟩
 exact .inr ⟨h1,h2'⟩
theorem War.done {ns:List Str}{ps:List (Str×Str)}{R:Str->Str->Prop}(h:War ns ps ns R)(hm:∀ p∈ps,p.1∈ns/\p.2∈ns)(z y:Str):R z y↔Way ps z y:=by
 refine⟨h.snd z y,fun g=>?_⟩
 induction g with
 | one e=>exact h.edge _ _ e
 | cons e _ ih=>exact h.shut _ (hm _ e).2 _ _ (h.edge _ _ e) ih
theorem PrsK.fz {K:PySem.W.Frag} {H H':Hp} (e:Fz H H'):∀ {kvs:List (Key×V)} {ys:List V},PrsK K H kvs ys->PrsK K H' kvs ys
 | [],_,h=>h
 | kv :: r,ys,⟨t,ys',h1,h2,h3⟩=>⟨t,ys',h1,e.seq h2,PrsK.fz e h3⟩
theorem PrsK.snoc {K:PySem.W.Frag}{H:Hp}{kv:Key×V}{t:Addr}(h:SqT K H t [kV kv.1,kv.2]):∀ {kvs:List (Key×V)} {ys:List V},PrsK K H kvs ys->PrsK K H (kvs++[kv]) (ys++[.ref t])
 | [],ys,g=>by
   have g':ys=[]:=g
   subst g'
   exact⟨t,[],rfl,h,rfl⟩
 | k :: r,ys,⟨u,ys',h1,h2,h3⟩=>by
   subst h1
   exact⟨u,ys'++[.ref t],rfl,h2,PrsK.snoc h h3⟩
theorem PrsK.length {K:PySem.W.Frag}{H:Hp}:∀ {kvs:List (Key×V)} {ys:List V},PrsK K H kvs ys->ys.length=kvs.length
 | [],ys,g=>by
   have g':ys=[]:=g
   subst g'
   rfl
 | k :: r,ys,⟨u,ys',h1,h2,h3⟩=>by
   subst h1
   simp[PrsK.length h3]
theorem Xw {K:PySem.W.Frag}{H:Hp}{Q:VK}{l:Addr}{ys:List V}{kvs:List (Key×V)}(h:H l=some (.lst ys))(g:PrsK K H kvs ys)(hz:kvs.length<=1000000)(k:∀ p H',H p=none->Same H H'->H' p=some (.dK (Ci [] kvs))->Q (.ref p) H'):T5 K [.ref l] H Q:=
 ⟨l, ys,kvs,rfl,h,g,by rw[g.length];exact hz,hz,fun p hp=>k p _ hp (Same.upd hp) A9⟩
theorem Ip:∀ {ns:List Str} {as:List Addr},ns.Nodup->((Ie ns as).map (·.1)).Nodup
 | [],as,_=>by simp[Ie]
 | n :: ns,[],_=>by simp[Ie]
 | n :: ns,a :: as,h=>by
   rw[List.nodup_cons] at h
   show((Sum.inr n:Key) :: (Ie ns as).map (·.1)).Nodup
   rw[List.nodup_cons]
   refine⟨fun hm=>?_,Ip h.2⟩
   obtain⟨kv,hkv,e⟩:=List.mem_map.mp hm
   obtain⟨p,hp,rfl⟩:=List.mem_map.mp hkv
   have e':p.1=n:=by injection e
   exact h.1 (e' ▸ (List.of_mem_zip hp).1)
theorem P8 {ns:List Str}{as:List Addr}{z:Str}{a:Addr}(h:ns.length=as.length):Ie (ns++[z]) (as++[a])=Ie ns as++[(Sum.inr z,V.ref a)]:=by
 unfold Ie
 rw[List.zip_append h,List.map_append]
 rfl
end L2
namespace L2
open PySem PySem.Spec PyProof.Rows
open Classical in
def Ab (ps:List (Str×Str))(x y:Str):Bool:=decide (Way ps x y)
theorem wayB_iff {ps:List (Str×Str)} {x y:Str}:Ab ps x y=true↔Way ps x y:=by unfold Ab;simp
theorem a40 {ps:List (Str×Str)}{x y:Str}{b:Bool}(h:b=true↔Way ps x y):b=Ab ps x y:=by
 cases hb:Ab ps x y with
 | true=>exact h.mpr (wayB_iff.mp hb)
 | false=>
   cases b with
   | false=>rfl
   | true=>
     have:=wayB_iff.mpr (h.mp rfl)
     rw[hb] at this
     cases this
theorem Lx {ps:List (Str×Str)}{x y:Str}{p:Prop}[Decidable p](h:p↔Way ps x y):decide p=Ab ps x y:=a40 (by rw[decide_eq_true_iff];exact h)
theorem Ri {ps:List (Str×Str)}{x y:Str}(h:¬ Way ps x y):Ab ps x y=false:=by
 cases hb:Ab ps x y with
 | false=>rfl
 | true=>exact absurd (wayB_iff.mp hb) h
theorem iteR {α:Type}{a:α}{A B:Prop}[Decidable (a=a)](h:A):if decide (a=a)=true then A else B:=by rw[if_pos (by simp)];exact h
theorem iteNR {α:Type}{a:α}{A B:Prop}[Decidable (a=a)](h:B):if(!decide (a=a))=true then A else B:=by rw[if_neg (by simp)];exact h
section
variable {K:PySem.W.Frag}{H:Hp}{σ:St}{x:V}{Q:VK}
theorem Lg {ns:List Str}{g:TG}{tt:TT}{te:TE}{k:Nat}{js:List Nat}(h:Is K H (nmD ns) x)(t:Str->Bool)(f:Str->PyData)(hf:∀ a,frz (f a)=true)(hz:ns.length<=1000000)
  (hs:∀(i:Nat) a H1 (R:VK) (R':Hp->Prop),ns[i]? = some a->Same H H1->(t a=true->∀ y H2,Same H1 H2->Is K H2 (f a) y->R y H2)->(t a=false->∀ H2,Same H1 H2->R' H2) ->
   g (.str a) (List.replicate k none++M5 σ js) H1 fun σ2 H2=>tt σ2 H2 fun b H3=>if b=true then te σ2 H3 R else R' H3)
  (hd:∀ p ys H',H p=none->Same H H'->H' p=some (.lst ys)->IsL K H' ((ns.filter t).map f) ys->Q (.ref p) H'):Gn K x H fun J H1=>Nf k js g tt te σ J H1 Q:=by
 obtain⟨a,rfl,hS⟩:=h.nm
 refine O5 hS (Im (K:=K) (Et (xs:=ns.map V.str)) ns (by simp) t f hf (by simpa using hz) (fun H' e=>e.seqT hS) (fun i z v H1 R R' hz hv e hR hR'=>?_) hd)
 rw[List.getElem?_map,hz] at hv
 cases hv
 exact hs i z H1 R R' hz e hR hR'
theorem Il {ns:List Str}{a:Addr}{g:TG}{tt:TT}{te:TE}{k:Nat}{js:List Nat}(h:SqL K H a (ns.map V.str))(t:Str->Bool)(f:Str->PyData)(hf:∀ a,frz (f a)=true)(hz:ns.length<=1000000)
  (hs:∀(i:Nat) a H1 (R:VK) (R':Hp->Prop),ns[i]? = some a->Same H H1->(t a=true->∀ y H2,Same H1 H2->Is K H2 (f a) y->R y H2)->(t a=false->∀ H2,Same H1 H2->R' H2) ->
   g (.str a) (List.replicate k none++M5 σ js) H1 fun σ2 H2=>tt σ2 H2 fun b H3=>if b=true then te σ2 H3 R else R' H3)
  (hd:∀ p ys H',H p=none->Same H H'->H' p=some (.lst ys)->IsL K H' ((ns.filter t).map f) ys->Q (.ref p) H'):Gn K (.ref a) H fun J H1=>Nf k js g tt te σ J H1 Q:=by
 refine Gr h (Im (K:=K) (Bk (xs:=ns.map V.str)) ns (by simp) t f hf (by simpa using hz) (fun H' e=>e.seq h) (fun i z v H1 R R' hz hv e hR hR'=>?_) hd)
 rw[List.getElem?_map,hz] at hv
 cases hv
 exact hs i z H1 R R' hz e hR hR'
end
end L2
namespace L2
open PySem PySem.Spec PyProof.Rows
open AutoSeq1 (wpAny_loadPart')
section
variable {prog:Program}{w:World}{A:Around}{E:Value->Shared->Prop}{s:Shared}
end
section
variable {X:Cx}{K:PySem.W.Frag}
end
section
variable {K:PySem.W.Frag}{σ:St}{H:Hp}
end
end L2
namespace L2
open PySem PySem.Spec PyProof.Rows
section
variable {X:Cx}{K:PySem.W.Frag}
section
variable {H:Hp}{Q:VK}{lo hi:Option Int}
theorem Ni {a b:Addr}{xs ys:List V}(h1:SqT K H a xs)(h2:SqT K H b ys)(h:xs.length+ys.length<=sizeLine)(k:∀ p H',Same H H'->SqT K H' p (xs++ys)->Q (.ref p) H'):Qi K (.ref a) (.ref b) H Q:=by
 by_cases hx:xs=[]
 . subst hx
   exact .inr (.inr (.inr (.inr ⟨a,b,ys,rfl,rfl,h1,h2,k b H (Same.refl _) h2⟩)))
 refine .inr (.inr (.inr (.inl ⟨a,b,xs,ys,rfl,rfl,h1,h2,hx,h,fun e=>?_,fun _ p hp=>k p _ (Same.upd hp) (SqT.of A9)⟩)))
 subst e
 exact k a H (Same.refl _) (by rw[List.append_nil];exact h1)
theorem a51 {a:Addr}{xs:List V}(h:SqT K H a xs)(k:∀ p H',Same H H'->SqT K H' p (Kf xs lo hi)->Q (.ref p) H'):a99 K (.ref a) lo hi H Q:=by
 by_cases hw:HT.sIx xs.length 0 lo=0/\HT.sIx xs.length xs.length hi=xs.length
 . refine .inr (.inr (.inr ⟨a,xs,rfl,h,hw,k a H (Same.refl _) ?_⟩))
   have e:Kf xs lo hi=xs:=by
    unfold Kf
    rw[hw.1,hw.2,List.drop_zero,Nat.sub_zero,List.take_length]
   rw[e]
   exact h
 exact .inr (.inl ⟨a,xs,rfl,h,hw,fun p hp=>k p _ (Same.upd hp) (SqT.of A9)⟩)
end
end
section
variable {K:PySem.W.Frag}{σ:St}{H:Hp}{Q:VK}{td ty:TE}
theorem i_chain {r r':R2}{ta tb tc:TE}(k:ta σ H fun x H1=>tb σ H1 fun y H2=>r x y H2 fun z H3=>∃ k,z = .bl k/\(if k=true then tc σ H3 fun w' H4=>r' y w' H4 Q else Q (.bl false) H3)):Yf r r' ta tb tc σ H Q:=k
theorem i_andV {ta tb:TE}(k:ta σ H fun x H1=>∃ c,x = .bl c/\if c=true then tb σ H1 Q else Q (.bl false) H1):ae0 ta tb σ H Q:=k
theorem i_orV {ta tb:TE}(k:ta σ H fun x H1=>∃ c,x = .bl c/\if c=true then Q (.bl true) H1 else tb σ H1 Q):ap4 ta tb σ H Q:=k
end
structure TabL (K:PySem.W.Frag)(H:Hp)(r:Addr)(ns:List Str)(as:List Addr)(R:Str->Str->Prop):Prop where
 len:as.length=ns.length
 top:H r=some (.dK (Ie ns as))
 row:∀(i:Nat) (z:Str) (a:Addr),ns[i]? = some z->as[i]? = some a->∃ ks:List Str,H a=some (.lst (ks.map V.str))/\ks.Nodup/\∀ y,y∈ks↔R z y
theorem TabL.same {K:PySem.W.Frag}{H H':Hp}{r:Addr}{ns:List Str}{as:List Addr}{R:Str->Str->Prop}(h:TabL K H r ns as R)(e:Same H H'):TabL K H' r ns as R:=
 ⟨h.len,e _ _ h.top,fun i z a hz ha=>let ⟨ks,h1,h2⟩:=h.row i z a hz ha;⟨ks,e _ _ h1,h2⟩⟩
theorem TabL.at {K:PySem.W.Frag}{H:Hp}{r:Addr}{ns:List Str}{as:List Addr}{R:Str->Str->Prop}(h:TabL K H r ns as R){x:Str}(hx:x∈ns):∃(i:Nat) (a:Addr),ns[i]? = some x/\as[i]? = some a:=by
 obtain⟨i,hi,e⟩:=List.getElem_of_mem hx
 have hi':i<as.length:=by rw[h.len];exact hi
 exact⟨i,as[i],by rw[List.getElem?_eq_getElem hi,e],List.getElem?_eq_getElem hi'⟩
section
variable {K:PySem.W.Frag}{σ:St}{H:Hp}{Q:VK}{r:Addr}{ns:List Str}{as:List Addr}{R:Str->Str->Prop}
theorem Yd {x:Str}{i:Nat}{a:Addr}(h:TabL K H r ns as R)(hn:ns.Nodup)(hx:ns[i]? = some x)(ha:as[i]? = some a)(k:Q (.ref a) H):P3 K (.ref r) (.str x) H Q:=i_ixD h.top (En hn hx ha) k
end
section
variable {K:PySem.W.Frag}{H:Hp}{σ:St}
end
section
variable {prog:Program}{w:World}{A:Around}{E:Value->Shared->Prop}{s:Shared}
end
section
variable {X:Cx}{K:PySem.W.Frag}
end
section
variable {K:PySem.W.Frag}{σ:St}{H:Hp}
end
def lsD (Ls:List (List Str)):PyData:=.tuple (Ls.map nmD)
theorem Zd {Ls:List (List Str)}(h:∀ L∈Ls,L.length<=100/\∀ x∈L,M2 x=true)(hl:Ls.length<=1000):Fine (lsD Ls):=by
 refine⟨?_,?_,?_⟩
 . unfold lsD
   simp only[Da]
   exact Fl _ _ fun L hL=>(Lm (h L hL).2).1
 . unfold lsD
   simp only[PyData.depth]
   have:=Ge nmD 1 Ls fun L hL=>(Lm (h L hL).2).2.1
   omega
 unfold lsD
 simp only[PyData.weight]
 have:=Gq nmD 900 Ls fun L hL=>by
  have h1:=(Lm (h L hL).2).2.2
  have h2:=(h L hL).1
  omega
 have:=Nat.mul_le_mul hl (Nat.le_refl 901)
 omega
section
variable {K:PySem.W.Frag} {H:Hp} {Q:VK}
end
theorem IsL.bl_eq {α:Type}{K:PySem.W.Frag}{H:Hp}{f:α->Bool}:∀ {as:List α} {vs:List V},IsL K H (as.map fun a=>PyData.bool (f a)) vs->vs=(as.map f).map V.bl
 | [],vs,h=>by simp only[List.map_nil,IsL] at h;exact h
 | n :: ns,vs,h=>by
   simp only[List.map_cons,IsL,Is] at h
   obtain⟨v,r,rfl,rfl,e3⟩:=h
   rw[IsL.bl_eq e3]
   rfl
theorem Pm {α:Type}{K:PySem.W.Frag}{H:Hp}{σ:St}{J:It}{xs:List V}{G:Hp->Prop}{g:TG}{te:TE}{Q:VK}{k:Nat}{js:List Nat}(hw:Fc J xs G)(as:List α)(hl:as.length=xs.length)(f:α->Bool)(hz:xs.length<=1000000)(hG:∀ H',Same H H'->G H')
  (hs:∀(i:Nat) a v H1 (R:VK),as[i]? = some a->xs[i]? = some v->Same H H1->(∀ H2,Same H1 H2->R (.bl (f a)) H2)->g v (List.replicate k none++M5 σ js) H1 fun σ2 H2=>te σ2 H2 R)
  (hd:∀ p H',H p=none->Same H H'->SqL K H' p ((as.map f).map V.bl)->Q (.ref p) H'):Nf k js g Vw te σ J H Q:=by
 refine Im (K:=K) hw as hl (fun _=>true) (fun a=>PyData.bool (f a)) (fun _=>rfl) hz hG (fun i a v H1 R R' ha hv e hR hR'=>?_) (fun p ys H' hp e h hL=>?_)
 . exact hs i a v H1 R ha hv e fun H2 e2=>hR rfl _ H2 e2 Ol
 rw[Jh] at hL
 have:=IsL.bl_eq hL
 subst this
 exact hd p H' hp e (SqL.of h)
section
variable {P:Program}{w:World}{κ:Type}[DecidableEq κ]{knd:KeyKind P w κ}{A:Around}{E:Value->Shared->Prop}{s:Shared}
end
section
variable {X:Cx}{pins:List (Addr×Obj)}{σ:St}{H:Hp}{s:Shared}{A:Around}
end
section
variable {prog:Program}{w:World}{A:Around}{E:Value->Shared->Prop}{s:Shared}
end
section
variable {X:Cx}{K:PySem.W.Frag}
end
section
variable {P:Program}{w:World}{A:Around}{R:Result->Shared->Prop}{it:Addr}{fp wr:List Addr}{G:Array GenState->Array GenState->Prop}{n:Nat}{PV:Nat->Value->Prop}{St:Nat->Shared->Prop}
end
section
variable {prog:Program}{w:World}{A:Around}{E:Value->Shared->Prop}{s:Shared}
set_option maxHeartbeats 3200000 in
end
section
variable {X:Cx}{K:PySem.W.Frag}
end
theorem W1 (y:Str)(ws:List Str):Txt.join y ws=Str.join y ws:=StrLaws.glued_eq_join y ws
theorem Xr {a b:Str}(h1:PyData.strOk a=true)(h2:PyData.strOk b=true):PyData.strOk (a++b)=true:=by
 unfold PyData.strOk at h1 h2 ⊢
 show(a.cps++b.cps).all _=true
 rw[<- Array.all_toList,List.all_eq_true] at h1 h2 ⊢
 intro c hc
 rw[Array.toList_append] at hc
 rcases List.mem_append.mp hc with hc | hc
 . exact h1 c hc
 exact h2 c hc
theorem Yb {z:Str}(h:M2 z=true):z.length<=8:=(Lo h).2
section
variable {K:PySem.W.Frag} {H:Hp} {Q:VK}
end
theorem Dl (ns:List Int):∀ j ≤ ns.length,preSum (fun i=>ns.getD i 0) j=(ns.take j).sum
 | 0,_=>by simp[preSum]
 | j+1,h=>by
   rw[preSum,Dl ns j (by omega),List.take_add_one,Go (y:=0) (by omega:j<ns.length)]
   simp
theorem Jr:∀ {ns:List Int},(∀ n∈ns,0<=n/\n<=1000000000000)->0<=ns.sum/\ns.sum<=1000000000000*(ns.length:Int)
 | [],_=>by simp
 | n :: ns,h=>by
   have h1:=h n (by simp)
   have h2:=Jr fun m hm=>h m (List.mem_cons_of_mem _ hm)
   rw[List.sum_cons,List.length_cons]
   omega
section
variable {X:Cx}{K:PySem.W.Frag}
def ao2 (K:PySem.W.Frag):List V->Hp->VK->Prop:=fun xs H Q=>∃(a:Addr) (ns:List Int),xs=[.ref a]/\(SqL K H a (ns.map V.int)\/SqT K H a (ns.map V.int))/\(∀ n∈ns,0<=n/\n<=1000000000000)/\ns.length<=1000000/\Q (.int ns.sum) H
theorem Y3 {ns:List Int}{its:List Value}(r:Vals (ns.map V.int) its){i:Nat}{v:Value}(h:its.toArray[i]? = some v):∃ t,v = .int (ns.getD i 0) t:=by
 rw[List.getElem?_toArray] at h
 have hl:=r.length
 rw[List.length_map] at hl
 have hi:i<ns.length:=by
  have:=(List.getElem?_eq_some_iff.mp h).1
  omega
 obtain⟨u,hu,ru⟩:=r.get (i:=i) (x:=.int (ns.getD i 0)) (by rw[List.getElem?_map,Go (y:=0) hi];rfl)
 rw[h] at hu
 cases hu
 exact ru
theorem Ur (hc:X.calm=true):CallR X (.builtin "sum") (ao2 X.K):=by
 intro pins s σ H xs us Q I r h
 obtain⟨a,ns,rfl,hl,hb,hz,q⟩:=h
 obtain⟨u,rfl,ru⟩:=G5 r
 cases ru
 have fits:∀ j,j<ns.length->InLong (ns.getD j 0)/\InLong (preSum (fun i=>ns.getD i 0) (j+1)):=fun j hj=>by
  have h1:=hb _ (List.mem_of_getElem? (Go (y:=0) hj))
  have h2:=Jr (ns:=ns.take (j+1)) fun n hn=>hb n (List.mem_of_mem_take hn)
  rw[Dl ns (j+1) hj]
  rw[List.length_take] at h2
  unfold InLong
  omega
 have last:preSum (fun i=>ns.getD i 0) ns.length=ns.sum:=by rw[Dl ns _ (Nat.le_refl _),List.take_length]
 refine call_sum_walk ?_
 rcases hl with hl | hl
 . obtain⟨its,rv,pl,_⟩:=I.list hl
   have hlen:its.toArray.size=ns.length:=by rw[List.size_toArray,<- rv.length,List.length_map]
   have hlt:a<s.heap.objs.size:=let ⟨_,e,_⟩:=pl.isList;Heap.lt_size e
   refine wpAny_pyIter_list pl.isList ?_
   refine⟨_,_,_,_,_,_,fun i=>ns.getD i 0,rfl,Walks.list (by simpa using I.ok.hd hc) _ a (Nat.ne_of_lt hlt) its.toArray,⟨⟨_,Heap.get?_push_size _ rfl,rfl,rfl⟩,pl.isList.push _⟩,fun b hb'=>?_,fun i v hv=>Y3 rv hv,by rw[hlen];exact fits,fun h' tk t' hk=>?_⟩
   . rw[Heap.size_push]
     simp only[List.mem_cons,List.not_mem_nil,or_false] at hb'
     rcases hb' with rfl | rfl
     . exact Nat.lt_succ_self _
     exact Nat.lt_succ_of_lt hlt
   refine⟨.int ns.sum,H,I.kept (t':=tk) fun b o e=>hk b o (fun z=>?_) (Heap.get?_push_of_some _ e),⟨t',by rw[hlen,last]⟩,q⟩
   have:b=s.heap.objs.size:=by simpa using z
   subst this
   exact absurd (Heap.lt_size e) (Nat.lt_irrefl _)
 obtain⟨its,rv,pl,_⟩:=I.tuple hl
 have hlen:its.toArray.size=ns.length:=by rw[List.size_toArray,<- rv.length,List.length_map]
 have hlt:a<s.heap.objs.size:=let ⟨_,e,_⟩:=pl;Heap.lt_size e
 refine wpAny_pyIter_tuple pl ?_
 refine⟨_,_,_,_,_,_,fun i=>ns.getD i 0,rfl,Walks.tuple (by simpa using I.ok.hd hc) _ a (Nat.ne_of_lt hlt) its.toArray,⟨⟨_,Heap.get?_push_size _ rfl,rfl,rfl⟩,Heap.IsTuple.push pl _⟩,fun b hb'=>?_,fun i v hv=>Y3 rv hv,by rw[hlen];exact fits,fun h' tk t' hk=>?_⟩
 . rw[Heap.size_push]
   simp only[List.mem_cons,List.not_mem_nil,or_false] at hb'
   rcases hb' with rfl | rfl
   . exact Nat.lt_succ_self _
   exact Nat.lt_succ_of_lt hlt
 refine⟨.int ns.sum,H,I.kept (t':=tk) fun b o e=>hk b o (fun z=>?_) (Heap.get?_push_of_some _ e),⟨t',by rw[hlen,last]⟩,q⟩
 have:b=s.heap.objs.size:=by simpa using z
 subst this
 exact absurd (Heap.lt_size e) (Nat.lt_irrefl _)
theorem E5 (hc:X.calm=true)(hK:X.K=K:=by ac_nf):CallR X (.builtin "sum") (ao2 K):=hK ▸ Ur hc
def Xz:V->List V->Hp->VK->Prop:=fun x vs H Q=>∃(a:Addr) (ns:List Str) (z:Str) (j:Nat),x = .ref a/\vs=[.str z]/\H a=some (.lst (ns.map V.str))/\ns[j]? = some z/\(∀ m<j,ns[m]? ≠ some z)/\Q (.int (j:Nat)) H
theorem L5:MtM X "list.index" Xz:=by
 intro pins s σ H x vs v us Q I rx rv h
 obtain⟨a,ns,z,j,rfl,rfl,hH,hj,hno,q⟩:=h
 cases rx
 obtain⟨u,rfl,ru⟩:=rv.one
 obtain⟨hz,its,n,r,hl,e⟩:=I.lstM hH
 have hlen:=r.length
 rw[List.length_map] at hlen
 have hjn:=(List.getElem?_eq_some_iff.mp hj).1
 have hsz:=sizeLine_eq
 rw[List.length_map] at hz
 have at':∀ m (hm:m<its.toArray.size),∃ y t,ns[m]? = some y/\its.toArray[m] = .str y t:=fun m hm=>by
  have hm':m<ns.length:=by rw[List.size_toArray] at hm;omega
  obtain⟨w,hw,rw'⟩:=r.get (i:=m) (x:=.str ns[m]) (by rw[List.getElem?_map,List.getElem?_eq_getElem hm'];rfl)
  obtain⟨t,rfl⟩:=rw'
  refine⟨ns[m],t,List.getElem?_eq_getElem hm',?_⟩
  have h2:=(List.getElem?_eq_some_iff.mp hw).2
  simpa using h2
 have fs:=Dm ns
 have tell:∀ y t,eqU (.str z) (.str y t)=decide (y=z):=fun y t=>by
  show(y==z)=_
  by_cases h:y=z<;>simp[h]
 refine call_meets F.slot_list_index ⟨_,e,rfl⟩ F.entry_list_index (F.args_list_index_2 _ _) (SeqAt.list_indexAt a its.toArray n none #[] u (eqU (.str z)) j (by rw[List.size_toArray];omega) (by omega) ?_ fun m hm hmj=>?_) ⟨e,fun w hw=>Ei ru rfl r fs w (by simpa using hw),?_⟩
 . obtain⟨y,t,h1,h2⟩:=at' j (by rw[List.size_toArray];omega)
   rw[h2,tell]
   rw[hj] at h1
   exact decide_eq_true (Option.some.inj h1).symm
 . obtain⟨y,t,h1,h2⟩:=at' m hm
   rw[h2,tell]
   refine decide_eq_false fun e=>hno m hmj ?_
   rw[h1,e]
 exact⟨.int _,H,I.tok _,⟨_,rfl⟩,q⟩
theorem Tv {a:Addr}{ns:List Str}{z:Str}{j:Nat}{H:Hp}{Q:VK}(h:H a=some (.lst (ns.map V.str)))(hj:ns[j]? = some z)(hno:∀ m<j,ns[m]? ≠ some z)(k:Q (.int (j:Nat)) H):Xz (.ref a) [.str z] H Q:=⟨a,ns,z,j,rfl,rfl,h,hj,hno,k⟩
theorem Uh {a:Addr}{ns:List Int}{H:Hp}{Q:VK}(h:SqL K H a (ns.map V.int)\/SqT K H a (ns.map V.int))(hb:∀ n∈ns,0<=n/\n<=1000000000000)(hz:ns.length<=1000000)(k:Q (.int ns.sum) H):ao2 K [.ref a] H Q:=⟨a,ns,rfl,h,hb,hz,k⟩
end
section
variable {prog:Program}{w:World}{A:Around}{E:Value->Shared->Prop}{s:Shared}
theorem T9 {t:Addr}{items:Array Value}{x:Value}{e:Value->Bool}{j:Nat}{Q:Value->Shared->Prop}(ht:IsTup s.heap t items)(hj:j<items.size)(he:∀ y,y∈items->SeqAt.EqAt A.in1 s y x (e y))(hit:e items[j]=true)
  (hno:∀ m (hm:m<items.size),m<j->e items[m]=false) (h:Q (.int j s.toks) { s with toks:=s.toks+1 }):wpAny (model prog w) A (call (.builtin "tuple.index") [.ref t,x]) Q E s:=by
 refine wpAny_call_entry PySem.F.slot_tuple_index ht.typeIs PySem.F.entry_tuple_index ?_ (PySem.F.args_tuple_index_2 _ _)
 unfold Builtin.«tuple.index»
 refine wpAny_bind (wpAny_of_eq (a:=(Value.ref t,[x])) (by first | rfl | kernel_rfl) ?_)
 refine wpAny_bind (m:=Builtin.Tuple.tupleItemsOf _) (tupleItemsOf_ ht ?_)
 refine wpAny_bind (m:=pure 0) (wpAny_pure ?_)
 refine wpAny_bind (m:=pure items.size) (wpAny_pure ?_)
 dsimp only
 rw[Nat.min_self]
 refine wpAny_bind ?_
 rw[Std.Legacy.Range.forIn_eq_forIn_range',show Std.Legacy.Range.size [:items.size]=items.size by simp[Std.Legacy.Range.size]]
 refine wpAny_forIn_list _ (fun l q s'=>s'=s/\q=(none,())/\∃ i,i<=j/\l=List.range' i (items.size-i)) _ ?_ ?_ _ _ ⟨rfl,rfl,0,Nat.zero_le _,rfl⟩
 . rintro m l q s' ⟨rfl,rfl,i,hi,el⟩
   rw[show items.size-i=items.size-(i+1)+1 by omega,List.range'_succ] at el
   injection el with e1 e2
   subst e1
   have hm:m<items.size:=by omega
   rw[Array.getElem?_eq_getElem hm]
   refine wpAny_bind (he _ (Array.getElem_mem hm) prog w _ _ ?_)
   by_cases hmj:m=j
   . subst hmj
     rw[hit,if_pos rfl]
     refine wpAny_bind (m:=retInt _) ?_
     refine wpAny_bind (wpAny_mkInt ?_)
     exact wpAny_pure (wpAny_pure (wpAny_pure ⟨_,rfl,h⟩))
   rw[hno m hm (by omega),if_neg (by decide)]
   exact wpAny_pure ⟨rfl,rfl,m+1,by omega,e2⟩
 rintro q s' ⟨rfl,rfl,i,hi,el⟩
 exfalso
 rw[show items.size-i=items.size-(i+1)+1 by omega,List.range'_succ] at el
 cases el
end
section
variable {X:Cx}{K:PySem.W.Frag}
def Os (K:PySem.W.Frag):V->List V->Hp->VK->Prop:=fun x vs H Q=>∃(a:Addr) (ns:List Str) (z:Str) (j:Nat),x = .ref a/\vs=[.str z]/\SqT K H a (ns.map V.str)/\ns[j]? = some z/\(∀ m<j,ns[m]? ≠ some z)/\Q (.int (j:Nat)) H
theorem U4:MtR X "tuple.index" (Os X.K):=by
 intro pins s σ H x vs v us Q I rx rv h
 obtain⟨a,ns,z,j,rfl,rfl,hS,hj,hno,q⟩:=h
 cases rx
 obtain⟨u,rfl,ru⟩:=rv.one
 obtain⟨its,r,p,hz⟩:=I.tuple hS
 have hlen:=r.length
 rw[List.length_map] at hlen
 have hjn:=(List.getElem?_eq_some_iff.mp hj).1
 have at':∀ m (hm:m<its.toArray.size),∃ y t,ns[m]? = some y/\its.toArray[m] = .str y t:=fun m hm=>by
  have hm':m<ns.length:=by rw[List.size_toArray] at hm;omega
  obtain⟨w,hw,rw'⟩:=r.get (i:=m) (x:=.str ns[m]) (by rw[List.getElem?_map,List.getElem?_eq_getElem hm'];rfl)
  obtain⟨t,rfl⟩:=rw'
  refine⟨ns[m],t,List.getElem?_eq_getElem hm',?_⟩
  have h2:=(List.getElem?_eq_some_iff.mp hw).2
  simpa using h2
 have tell:∀ y t,eqU (.str z) (.str y t)=decide (y=z):=fun y t=>by
  show(y==z)=_
  by_cases h:y=z<;>simp[h]
 refine T9 (j:=j) (e:=eqU (.str z)) p (by rw[List.size_toArray];omega) (fun w hw=>Ei ru rfl r (Dm ns) w (by simpa using hw)) ?_ (fun m hm hmj=>?_) ⟨.int _,H,I.tok _,⟨_,rfl⟩,q⟩
 . obtain⟨y,t,h1,h2⟩:=at' j (by rw[List.size_toArray];omega)
   rw[h2,tell]
   rw[hj] at h1
   exact decide_eq_true (Option.some.inj h1).symm
 obtain⟨y,t,h1,h2⟩:=at' m hm
 rw[h2,tell]
 refine decide_eq_false fun e=>hno m hmj ?_
 rw[h1,e]
theorem Kg (hK:X.K=K:=by ac_nf):MtR X "tuple.index" (Os K):=hK ▸ U4
theorem Pb {a:Addr}{ns:List Str}{z:Str}{j:Nat}{H:Hp}{Q:VK}(h:SqT K H a (ns.map V.str))(hj:ns[j]? = some z)(hno:∀ m<j,ns[m]? ≠ some z)(k:Q (.int (j:Nat)) H):Os K (.ref a) [.str z] H Q:=⟨a,ns,z,j,rfl,rfl,h,hj,hno,k⟩
def ar3 (K:PySem.W.Frag)(r:V->List V->Hp->VK->Prop)(to:TE)(t:TA):TE:=fun σ H Q=>to σ H fun x H1=>(∃ a xs,x = .ref a/\SqT K H1 a xs)/\t σ H1 fun vs H2=>r x vs H2 Q
theorem Yh {o e:Expr}{es:List Expr}{to:TE}{t:TA}{name:Str}{apos cpos:Pos}{id:String}{r:V->List V->Hp->VK->Prop}(slot:Slot "tuple" name id)(hty:typeOf (.builtin id)=pure (.type "method_descriptor"))(hm:MtR X id r)(ho:PE X o to)(ha:PA X (e :: es) t)(hK:X.K=K:=by ac_nf)
  (hbase:attributeBase o name X.env (eval o X.env)=eval o X.env:=by ac_nf)
  (hfew:((backTo cpos (starEach (e :: es) X.env)).all (fun x=>!x.1)&&(backToKw cpos (keywordEach [] X.env)).all (fun x=>x.1.isSome)&&decide ((e :: es).length+([]:List Keyword).length+(if([]:List Keyword).isEmpty then 0 else 1)<30))=true:=by ac_nf)
  (hline:(apos.endLine==cpos.line)=true:=by ac_nf) (hs:starEach (e :: es) X.env=(false,eval e X.env) :: starEach es X.env:=by ac_nf) (hplain:(backTo cpos (starEach es X.env)).any (·.1)=false:=by ac_nf) :
  PE X (.Call (.Attribute o name apos) (e :: es) [] cpos) (ar3 K r to t):=by
 subst hK
 intro pins s σ H Q I h
 refine wpAny_Call_method_late hbase hfew hline rfl (thn (ho pins s σ H _ I h) fun v s1 ⟨x,H1,I1,r1,ty,q1⟩=>?_)
 obtain⟨a,xs,rfl,hS⟩:=ty
 cases r1
 obtain⟨its,_,p,_⟩:=I1.tuple hS
 refine⟨"tuple",id,PySem.F.plainAttrs_tuple,slot,hty,p.typeIs,(fun b e=>by cases e;exact I1.tupleN hS),?_⟩
 have hA:=ha cpos pins s1 σ H1 _ I1 q1
 rw[hs] at hA ⊢
 refine Calls.callWith_builtin (by show(false||(backTo cpos (starEach es X.env)).any (·.1))=false;rw[hplain];rfl) (Calls.evalArgs_plain ?_)
 exact thn hA fun us s2 ⟨vs,H2,I2,r2,q2⟩=>hm pins s2 σ H2 (.ref a) vs _ us Q I2 rfl r2 q2
theorem i_bmT {r:V->List V->Hp->VK->Prop}{te:TE}{ts:TA}{σ:St}{H:Hp}{Q:VK}(k:te σ H fun x H1=>(∃ a xs,x = .ref a/\SqT K H1 a xs)/\ts σ H1 fun xs H2=>r x xs H2 Q):ar3 K r te ts σ H Q:=k
theorem ab8 {a:Addr}{xs:List V}{H:Hp}{B:Prop}(h:SqT K H a xs)(k:B):(∃ a' xs',V.ref a = .ref a'/\SqT K H a' xs')/\B:=⟨⟨a,xs,rfl,h⟩,k⟩
end
section
variable {prog:Program}{w:World}{A:Around}{E:Value->Shared->Prop}{s:Shared}
theorem Na {t:Addr}{vs:List Value}{ss:List Str}{T:String}{n:Nat}{o:Obj}{Q:Value->Shared->Prop}(hT:T = "list" \/ T = "tuple")(ho:s.heap.get? t=some o)(hc:o.cls = .type T)(hd:o.data = .seq vs.toArray n)(hS:StrsAre vs ss)(h64:vs.length<64)
  (h:∀(h1 h':Heap) (out:List Value) (e:Nat) (ss':List Str),(∀ b ob,s.heap.get? b=some ob->h1.get? b=some ob)->(∀ b ob,h1.get? b=some ob->h'.get? b=some ob)->h'.get? h1.objs.size=some (seqObj "list" out.toArray e)->StrsAre out ss'->ss'.Perm ss->sortedS ss'=true->Q (.ref h1.objs.size) { s with heap:=h' }) :
  wpAny (model prog w) A (call (.builtin "sorted") [.ref t]) Q E s:=by
 refine Calls.call_function_entry kind_sorted plain_sorted entry_sorted (args_sorted1 _) ?_
 unfold Builtin.«sorted»
 refine wpAny_bind (m:=checkCount "sorted" 1 1 _) (wpAny_pure ?_)
 refine wpAny_bind (wpAny_collect_seq t hT ho hc hd (fun h1 k1=>?_) (by rw[List.size_toArray,sizeLine_eq];omega))
 refine wpAny_bind (wpAny_newList ?_ (by simp only[List.size_toArray];rw[sizeLine_eq];omega))
 have hnew:(h1.push (seqObj "list" vs.toArray 0)).get? h1.objs.size=some (seqObj "list" vs.toArray 0):=Heap.get?_push_size _ rfl
 show wpAny _ _ _ _ _ { s with heap:=h1.push (seqObj "list" vs.toArray 0) }
 refine wpAny_bind (wpAny_holding (wpAny_call_entry slot_list_sort ⟨_,hnew,rfl⟩ entry_list_sort (list_sort_treeK strKind_oneLt hnew hS.keysOf (fun v₁ v₂ r e=>keyKind_strs (by rw[<- e];exact hS)) h64 fun st' hp hs=>⟨_,rfl,?_⟩) (args_list_sort _)))
 obtain⟨ss',q1,q2,q3⟩:=sorted_out_str hS hp hs
 obtain⟨e,he⟩:=sortedHeap_at (out:=(arrOf st').map (·.2)) hnew
 refine wpAny_pure ⟨_,rfl,h h1 _ ((arrOf st').map (·.2)).toList e ss' k1 (fun b ob hb=>?_) (by rw[Array.toArray_toList];exact he) q1 q2 q3⟩
 have hlt:=Heap.lt_size hb
 rw[sortedHeap_old (Nat.ne_of_lt hlt) (by rw[size_push'];exact Nat.lt_succ_of_lt hlt)]
 exact Heap.get?_push_of_some _ hb
end
theorem O1:∀ {us:List Value} {ys:List Str},StrsAre us ys->Vals (ys.map V.str) us
 | _,_,.nil=>.nil
 | _,_,.cons y t h=>.cons ⟨t,rfl⟩ (O1 h)
section
variable {X:Cx}{K:PySem.W.Frag}
def Oi (K:PySem.W.Frag):List V->Hp->VK->Prop:=fun xs H Q=>∃(a:Addr) (ns:List Str),xs=[.ref a]/\(SqL K H a (ns.map V.str)\/SqT K H a (ns.map V.str))/\ns.length<64/\∀ p (ms:List Str),H p=none->ms.Perm ns->sortedS ms=true->Q (.ref p) (upd H p (.lst (ms.map V.str)))
theorem Mj:CallR X (.builtin "sorted") (Oi X.K):=by
 intro pins s σ H xs us Q I r h
 obtain⟨a,ns,rfl,hl,hz,q⟩:=h
 obtain⟨u,rfl,ru⟩:=G5 r
 cases ru
 have fin:∀(vs:List Value),Vals (ns.map V.str) vs->∀(h1 h':Heap) (out:List Value) (e:Nat) (ss':List Str),(∀ b ob,s.heap.get? b=some ob->h1.get? b=some ob)->(∀ b ob,h1.get? b=some ob->h'.get? b=some ob)->h'.get? h1.objs.size=some (seqObj "list" out.toArray e)->StrsAre out ss'->ss'.Perm ns->sortedS ss'=true->EP X pins σ Q (.ref h1.objs.size) { s with heap:=h' }:=fun vs rv h1 h' out e ss' k1 k2 he q1 q2 q3=>by
  have I1:Inv X pins σ H { s with heap:=h1 }:=I.kept (t':=s.toks) k1
  exact⟨.ref _,_,I1.laid (t':=s.toks) (o:=.lst (ss'.map V.str)) k2 (Nat.le_refl _) ⟨by rw[List.length_map,q2.length_eq,sizeLine_eq];omega,out,e,O1 q1,he⟩,rfl,q _ ss' (I1.hok.fresh (Nat.le_refl _)) q2 q3⟩
 rcases hl with hl | hl
 . obtain⟨its,rv,⟨o,n,h1,h2,_,h3⟩,_⟩:=I.list hl
   have hlen:=rv.length
   rw[List.length_map] at hlen
   exact Na (.inl rfl) h1 h2 h3 (Hf rv) (by omega) (fin its rv)
 obtain⟨its,rv,⟨o,h1,h2,n,h3⟩,_⟩:=I.tuple hl
 have hlen:=rv.length
 rw[List.length_map] at hlen
 exact Na (.inr rfl) h1 h2 h3 (Hf rv) (by omega) (fin its rv)
theorem Cw (hK:X.K=K:=by ac_nf):CallR X (.builtin "sorted") (Oi K):=hK ▸ Mj
theorem Gm {a:Addr}{ns:List Str}{H:Hp}{Q:VK}(h:SqL K H a (ns.map V.str)\/SqT K H a (ns.map V.str))(hz:ns.length<64)(k:∀ p (ms:List Str) H',H p=none->Same H H'->H' p=some (.lst (ms.map V.str))->ms.Perm ns->sortedS ms=true->Q (.ref p) H'):Oi K [.ref a] H Q:=
 ⟨a, ns,rfl,h,hz,fun p ms hp h1 h2=>k p ms _ hp (Same.upd hp) A9 h1 h2⟩
end
theorem Ga:∀(p:Str) (l:List Str),risingS p l=true->∀ y∈l,¬ y.cps.toList<p.cps.toList
 | p,[],_,y,h=>nomatch h
 | p,x :: r,h,y,hy=>by
   have h':(!ltCps x.cps.toList p.cps.toList&&risingS x r)=true:=h
   rw[Bool.and_eq_true,Bool.not_eq_true',ltCps_eq,decide_eq_false_iff_not] at h'
   rcases List.mem_cons.mp hy with rfl | hy
   . exact h'.1
   have ih:=Ga x r h'.2 y hy
   exact List.not_lt.mpr (List.le_trans (List.not_lt.mp h'.1) (List.not_lt.mp ih))
theorem G2 {x:Str}{r:List Str}(h:sortedS (x :: r)=true):sortedS r=true:=by
 cases r with
 | nil=>rfl
 | cons y r=>
   have h':(!ltCps y.cps.toList x.cps.toList&&risingS y r)=true:=h
   rw[Bool.and_eq_true] at h'
   exact h'.2
theorem Hb:∀ {a b:List Str},a.Perm b->sortedS a=true->sortedS b=true->a=b
 | [],b,p,_,_=>(List.nil_perm.mp p).symm
 | x :: a,[],p,_,_=>absurd p.length_eq (by simp)
 | x :: a,y :: b,p,ha,hb=>by
   have hxy:x=y:=by
    have h1:x=y\/x∈b:=by simpa using p.mem_iff.mp List.mem_cons_self
    have h2:y=x\/y∈a:=by simpa using p.symm.mem_iff.mp List.mem_cons_self
    rcases h1 with e | h1
    . exact e
    rcases h2 with e | h2
    . exact e.symm
    have q1:=Ga x a ha y h2
    have q2:=Ga y b hb x h1
    exact Str.ext' (Array.toList_inj.mp (List.le_antisymm (List.not_lt.mp q1) (List.not_lt.mp q2)))
   subst hxy
   rw[Hb (List.Perm.cons_inv p) (G2 ha) (G2 hb)]
section
variable {α:Type}[DecidableEq α]
def C0:List α->(α->Bool)->Nat
 | [],_=>0
 | x :: xs,p=>(p x).toNat+2*C0 xs p
def Cq:List α->α->Nat
 | [],_=>0
 | y :: ys,x=>if x=y then 1 else 2*Cq ys x
theorem Kd {p q:α->Bool}:∀ {ns:List α},(∀ x∈ns,p x=q x)->C0 ns p=C0 ns q
 | [],_=>rfl
 | x :: xs,h=>by
   unfold C0
   rw[h x (by simp),Kd (ns:=xs) fun y hy=>h y (by simp[hy])]
theorem V5 {a b:Bool} {m n:Nat} (h:a.toNat+2*m=b.toNat+2*n):a=b/\m=n:=by
 cases a<;>cases b<;>simp[Bool.toNat] at h ⊢ <;> omega
theorem Iv {p q:α->Bool}:∀ {ns:List α},C0 ns p=C0 ns q->∀ x∈ns,p x=q x
 | [],_,x,hx=>by cases hx
 | y :: ys,h,x,hx=>by
   unfold C0 at h
   obtain⟨h1,h2⟩:=V5 h
   rcases List.mem_cons.mp hx with rfl | hx
   . exact h1
   exact Iv h2 x hx
theorem Ve (a b:Bool)(m n:Nat):(a.toNat+2*m) &&& (b.toNat+2*n)=(a&&b).toNat+2*(m &&& n):=by
 apply Nat.eq_of_testBit_eq
 intro i
 rw [Nat.testBit_and]
 cases i with
 | zero=>
   cases a<;>cases b<;>simp[Nat.testBit_zero,Bool.toNat]<;>omega
 | succ i=>
   rw[Nat.testBit_succ,Nat.testBit_succ,Nat.testBit_succ]
   have e:∀(c:Bool) (k:Nat),(c.toNat+2*k) / 2=k:=fun c k=>by cases c<;>simp[Bool.toNat]<;>omega
   rw[e,e,e,Nat.testBit_and]
theorem Q2 (p q:α->Bool):∀ ns:List α,C0 ns p &&& C0 ns q=C0 ns (fun x=>p x&&q x)
 | []=>by simp[C0]
 | x :: xs=>by
   unfold C0
   rw[Ve,Q2 p q xs]
theorem binM_zero {p:α->Bool}:∀ {ns:List α},C0 ns p=0↔∀ x∈ns,p x=false
 | []=>by simp[C0]
 | x :: xs=>by
   unfold C0
   have:=binM_zero (p:=p) (ns:=xs)
   constructor
   . intro h y hy
     have h1:(p x).toNat=0:=by omega
     have h2:C0 xs p=0:=by omega
     rcases List.mem_cons.mp hy with rfl | hy
     . cases e:p y with
       | false=>rfl
       | true=>rw[e] at h1;cases h1
     exact this.mp h2 y hy
   intro h
   rw[h x (by simp),this.mpr fun y hy=>h y (by simp[hy])]
   rfl
theorem O4 (p:α->Bool):∀ ns:List α,C0 ns p<2 ^ ns.length
 | []=>by simp[C0]
 | x :: xs=>by
   have:=O4 p xs
   unfold C0
   rw[List.length_cons,Nat.pow_succ]
   have:(p x).toNat<=1:=by cases p x<;>simp[Bool.toNat]
   omega
theorem Sz:∀ {ns:List α},ns.Nodup->∀ {x:α},x∈ns->Cq ns x=C0 ns (fun y=>decide (y=x))
 | [],_,x,h=>by cases h
 | y :: ys,hn,x,h=>by
   obtain⟨h1,h2⟩:=List.nodup_cons.mp hn
   unfold Cq C0
   by_cases e:x=y
   . subst e
     rw[if_pos rfl,(binM_zero (p:=fun y=>decide (y=x)) (ns:=ys)).mpr fun z hz=>decide_eq_false fun q=>h1 (by rw[<- q];exact hz)]
     simp[Bool.toNat]
   rw[if_neg e,Sz h2 ((List.mem_cons.mp h).resolve_left e)]
   have:decide (y=x)=false:=decide_eq_false fun q=>e q.symm
   show _=(decide (y=x)).toNat+_
   rw[this]
   simp[Bool.toNat]
theorem Kw (f:α->Nat):∀ l:List α,(l.map fun x=>2*f x).sum=2*(l.map f).sum
 | []=>rfl
 | x :: xs=>by simp[Kw f xs,Nat.mul_add]
theorem Iq (p:α->Bool):∀ {ns:List α},ns.Nodup->((ns.filter p).map (Cq ns)).sum=C0 ns p
 | [],_=>rfl
 | y :: ys,hn=>by
   obtain⟨h1,h2⟩:=List.nodup_cons.mp hn
   have e:(ys.filter p).map (Cq (y :: ys))=(ys.filter p).map fun x=>2*Cq ys x:=by
    apply List.map_congr_left
    intro x hx
    have:x≠y:=fun q=>h1 (q ▸ (List.mem_filter.mp hx).1)
    show(if x=y then 1 else 2*Cq ys x)=_
    rw [if_neg this]
   unfold C0
   rw[List.filter_cons]
   cases hp:p y with
   | true=>
     rw[if_pos rfl,List.map_cons,List.sum_cons,e,Kw,Iq p h2]
     show(if y=y then 1 else _)+_=_
     rw[if_pos rfl]
     rfl
   | false=>
     rw[if_neg (by decide),e,Kw,Iq p h2]
     simp[Bool.toNat]
theorem Js {p:α->Bool}:∀ {ns:List α},ns.Nodup->∀ {x:α},x∈ns->p x=true->C0 ns p=C0 ns (fun y=>p y && !decide (y=x))+Cq ns x
 | [],_,x,h,_=>by cases h
 | y :: ys,hn,x,h,hp=>by
   obtain⟨h1,h2⟩:=List.nodup_cons.mp hn
   unfold Cq C0
   by_cases e:x=y
   . subst e
     rw[if_pos rfl,hp,Kd (ns:=ys) (p:=fun y=>p y && !decide (y=x)) (q:=p) fun z hz=>?_]
     . simp[Bool.toNat];omega
     have:decide (z=x)=false:=decide_eq_false fun q=>h1 (q ▸ hz)
     simp[this]
   rw[if_neg e,Js h2 ((List.mem_cons.mp h).resolve_left e) hp]
   have:decide (y=x)=false:=decide_eq_false fun q=>e q.symm
   show _=((p y && !decide (y=x)).toNat+_)+_
   rw[this]
   simp
   omega
def frF (b:α->α->Bool)(L:List α):List α:=L.filter fun x=>!(L.any fun y=>b y x)
def Ak (L:List α)(x:α):List α:=L.filter fun y=>!decide (y=x)
def ext (b:α->α->Bool):Nat->List α->List (List α)
 | 0,_=>[[]]
 | n+1,L=>(frF b L).flatMap fun x=>(ext b n (Ak L x)).map (x :: ·)
def cnt (b:α->α->Bool)(L:List α):Nat:=(ext b L.length L).length
theorem Z2 (b:α->α->Bool):cnt b []=1:=rfl
theorem mem_frF {b:α->α->Bool}{L:List α}{x:α}:x∈frF b L↔x∈L/\∀ y∈L,b y x=false:=by
 unfold frF
 rw[List.mem_filter]
 constructor
 . rintro ⟨h1,h2⟩
   refine⟨h1,fun y hy=>?_⟩
   cases e:b y x with
   | false=>rfl
   | true=>
     have:(L.any fun y=>b y x)=true:=List.any_eq_true.mpr ⟨y,hy,e⟩
     rw[this] at h2
     cases h2
 rintro⟨h1,h2⟩
 refine⟨h1,?_⟩
 have:(L.any fun y=>b y x)=false:=by
  rw[Bool.eq_false_iff]
  intro h
  obtain⟨y,hy,e⟩:=List.any_eq_true.mp h
  rw[h2 y hy] at e
  cases e
 rw[this]
 rfl
theorem mem_lessF {L:List α}{x y:α}:y∈Ak L x↔y∈L/\y≠x:=by
 unfold Ak
 rw[List.mem_filter]
 simp
theorem Bc {L:List α}(h:L.Nodup)(x:α):(Ak L x).Nodup:=List.Nodup.sublist (List.filter_sublist) h
theorem Pe:∀ {L:List α} {x:α},x∉L->Ak L x=L:=fun {L x} h=>by
 unfold Ak
 rw[List.filter_eq_self]
 intro y hy
 have:y≠x:=fun q=>h (q ▸ hy)
 simp[this]
theorem Au:∀ {L:List α} {x:α},L.Nodup->x∈L->(Ak L x).length+1=L.length
 | [],_,_,h=>by cases h
 | y :: ys,x,hn,h=>by
   obtain⟨h1,h2⟩:=List.nodup_cons.mp hn
   by_cases e:y=x
   . subst e
     have:Ak (y :: ys) y=Ak ys y:=by unfold Ak;rw[List.filter_cons,if_neg (by simp)]
     rw[this,Pe h1]
     rfl
   have:Ak (y :: ys) x=y :: Ak ys x:=by unfold Ak;rw[List.filter_cons,if_pos (by simp[e])]
   rw[this,List.length_cons,Au h2 ((List.mem_cons.mp h).resolve_left fun q=>e q.symm)]
   rfl
theorem Mr {b:α->α->Bool} {L:List α} (hn:L.Nodup) (hne:L≠[]):cnt b L=((frF b L).map fun x=>cnt b (Ak L x)).sum:=by
 unfold cnt
 cases hl:L.length with
 | zero=>exact absurd (List.length_eq_zero_iff.mp hl) hne
 | succ n=>
   show((frF b L).flatMap fun x=>(ext b n (Ak L x)).map (x :: ·)).length=_
   rw[List.length_flatMap]
   congr 1
   apply List.map_congr_left
   intro x hx
   have:=Au hn (mem_frF.mp hx).1
   have e:(Ak L x).length=n:=by omega
   rw[List.length_map,e]
def D5 (ns row:List α):List α:=ns.filter fun x=>!decide (x∈row)
theorem Kk (ns row:List α)(x:α):D5 ns (row++[x])=Ak (D5 ns row) x:=by
 unfold D5 Ak
 rw[List.filter_filter]
 apply List.filter_congr
 intro y _
 by_cases h:y∈row<;>by_cases e:y=x<;>simp[h,e]
theorem Nb (ns:List α):D5 ns []=ns:=by
 unfold D5
 rw[List.filter_eq_self]
 simp
def fac:Nat->Nat
 | 0=>1
 | n+1=>fac n*(n+1)
theorem Uz {f g:α->Nat}:∀ {l:List α},(∀ x∈l,f x<=g x)->(l.map f).sum<=(l.map g).sum
 | [],_=>Nat.le_refl _
 | x :: xs,h=>by
   have h1:=h x (by simp)
   have h2:=Uz (l:=xs) (f:=f) (g:=g) fun y hy=>h y (by simp[hy])
   simp
   omega
theorem Jg {p q:α->Bool}:∀ {l:List α},(∀ a∈l,p a=true->q a=true)->(∃ z∈l,q z=true/\p z=false)->(l.filter p).length<(l.filter q).length
 | [],_,h=>by obtain⟨z,hz,_⟩:=h;cases hz
 | y :: ys,h,hz=>by
   have le:∀ l:List α,(∀ a∈l,p a=true->q a=true)->(l.filter p).length<=(l.filter q).length:=by
    intro l
    induction l with
    | nil=>intro _;exact Nat.le_refl _
    | cons a l ih=>
      intro h
      have:=ih fun a ha=>h a (by simp[ha])
      rw[List.filter_cons,List.filter_cons]
      cases c:p a with
      | true=>rw[if_pos rfl,if_pos (h a (by simp) c)];simpa using this
      | false=>
        rw[if_neg (by simp)]
        split
        . simp;omega
        exact this
   rw[List.filter_cons,List.filter_cons]
   obtain⟨z,hz,hq,hp⟩:=hz
   rcases List.mem_cons.mp hz with rfl | hz
   . rw[hp,if_neg (by simp),if_pos hq,List.length_cons]
     have:=le ys fun a ha=>h a (by simp[ha])
     omega
   have ih:=Jg (l:=ys) (fun a ha=>h a (by simp[ha])) ⟨z,hz,hq,hp⟩
   cases c:p y with
   | true=>rw[if_pos rfl,if_pos (h y (by simp) c)];simpa using ih
   | false=>
     rw[if_neg (by simp)]
     split
     . simp;omega
     exact ih
theorem U6 {b:α->α->Bool}(irr:∀ x,b x x=false)(tr:∀ x y z,b x y=true->b y z=true->b x z=true){L:List α}:∀(m:Nat) (y:α),y∈L->(L.filter fun z=>b z y).length<=m->∃ x∈frF b L,x=y\/b x y=true
 | m,y,hy,hm=>by
   by_cases c:∃ z∈L,b z y=true
   . obtain ⟨z,hz,hzy⟩:=c
     have lt:(L.filter fun a=>b a z).length<(L.filter fun a=>b a y).length:=Jg (fun a _ h=>tr a z y h hzy) ⟨z,hz,hzy,irr z⟩
     cases m with
     | zero=>omega
     | succ m=>
       obtain⟨x,hx,h⟩:=U6 irr tr m z hz (by omega)
       refine⟨x,hx,.inr ?_⟩
       rcases h with rfl | h
       . exact hzy
       exact tr x z y h hzy
   refine⟨y,mem_frF.mpr ⟨hy,fun z hz=>?_⟩,.inl rfl⟩
   cases e:b z y with
   | false=>rfl
   | true=>exact absurd ⟨z,hz,e⟩ c
theorem Po {b:α->α->Bool}(irr:∀ x,b x x=false)(tr:∀ x y z,b x y=true->b y z=true->b x z=true){L:List α}(h:L≠[]):frF b L≠[]:=by
 cases L with
 | nil=>exact absurd rfl h
 | cons y ys=>
   obtain⟨x,hx,_⟩:=U6 irr tr (L:=y :: ys) _ y (by simp) (Nat.le_refl _)
   intro e
   rw[e] at hx
   cases hx
end
def Mtd (P:Program)(w:World)(K:PySem.W.Frag)(mg:Str->Option Value)(base:Heap)(k:Nat)(C:Addr)(m:Str)(ps:List Str)(sp:Sp):Prop:=
 ∃ f fd,FnOk P w K mg base CX0 k f fd ps sp/\aj5 K C m f/\Binds K fd ps []
def Mkd (P:Program)(w:World)(K:PySem.W.Frag)(mg:Str->Option Value)(base:Heap)(k:Nat)(C:Addr)(x:Str)(ps:List Str)(sp:Sp):Prop:=
 ∃ f fd,FnOk P w K mg base CX0 k f fd ps sp/\Mk K C f/\mg x=some (.ref C)/\Binds K fd ps []
theorem FnOk.void {P:Program}{w:World}{K:PySem.W.Frag}{mg:Str->Option Value}{base:Heap}{CX:CXT}{k:Nat}{f:Addr}{fd:FuncData}{ps:List Str}{sp:Sp}(h:∀ vs H Q E,¬ sp vs H Q E):FnOk P w K mg base CX k f fd ps sp:=
 ⟨fun vs H Q E q=>absurd q (h vs H Q E),fun A outer s H args us vs Q E _ _ _ _ hs=>absurd hs (h vs H Q E)⟩
def rAt (f:Str)(C:Addr):V->Hp->VK->Prop:=fun x H Q=>∃ a dx fs v,x = .ref a/\H a=some (.ins C dx fs)/\fs.lookup f=some v/\Q v H
def tAt (f:Str)(C:Addr)(ta:TE):TE:=fun σ H Q=>ta σ H fun x H1=>rAt f C x H1 Q
def rSt (f:Str)(C:Addr)(y:V):V->Hp->(Hp->Prop)->Prop:=fun x H R=>∃ a dx fs,x = .ref a/\H a=some (.ins C dx fs)/\fs.length<1000/\R (upd H a (.ins C dx (Ia f y fs)))
def sSt (f:Str)(C:Addr)(ta tv:TE):TS:=fun D σ H=>tv σ H fun y H1=>ta σ H1 fun x H2=>rSt f C y x H2 fun H3=>D.nx σ H3
def rMe (m:Str)(C:Addr)(sp:Sp)(t:TA)(σ:St):V->Hp->VK->Prop:=fun x H Q=>∃ a dx fs,x = .ref a/\H a=some (.ins C dx fs)/\fs.lookup m=none/\t σ H fun vs H2=>sp (x :: (vs++[])) H2 Q E0
def tMe (m:Str)(C:Addr)(sp:Sp)(ta:TE)(t:TA):TE:=fun σ H Q=>ta σ H fun x H1=>rMe m C sp t σ x H1 Q
def rMk (C:Addr)(sp:Sp):List V->Hp->VK->Prop:=fun vs H1 Q=>∀ x dx,H1 x=none->H1 dx=none->dx≠x ->
 sp (.ref x :: (vs++[])) (upd (upd H1 dx (.own x)) x (.ins C dx [])) (fun v H2=>v = .non/\Q (.ref x) H2) E0
def tMk (C:Addr)(sp:Sp)(t:TA):TE:=fun σ H Q=>t σ H fun vs H1=>rMk C sp vs H1 Q
def ao6 (ta:TE):TT:=fun σ H Q=>ta σ H fun x H1=>∃ i:Int,x = .int i/\Q (i != 0) H1
section
variable {X:Cx}{K:PySem.W.Frag}{k:Nat}{C:Addr}{f x m:Str}{ps:List Str}{sp:Sp}{e o value:Expr}{es:List Expr}{ta tv:TE}{t:TA}{p pos pos' apos:Pos}
theorem Dy (he:PE X e ta)(c:Cls X.K C)(n:NoAttr X.K C f)(hb:attributeBase e f X.env (eval e X.env)=eval e X.env):PE X (.Attribute e f pos) (tAt f C ta):=by
 intro pins s σ H Q I h
 refine Sd hb (thn (he pins s σ H _ I h) ?_)
 rintro u s1 ⟨x,H1,I1,rx,a,dx,fs,v,rfl,ea,l,q⟩
 cases rx
 exact Rl I1 ea c n l fun u' s2 I2 ru=>⟨v,H1,I2,ru,q⟩
theorem S3 (ha:PE X o ta)(hv:PE X value tv)(c:Cls X.K C)(n:NoAttr X.K C f)(hs:swapsWith value (some (.Attribute o f pos')) pos.line X.env=pure false):PS X (.Assign [.Attribute o f pos'] value pos) (sSt f C ta tv):=by
 intro pins s σ H D I h
 refine plainObj_wpAny_Assign_Attribute (thn (hv pins s σ H _ I h) ?_) hs
 rintro u s1 ⟨y,H1,I1,ry,q⟩
 refine thn (ha pins s1 σ H1 _ I1 q) ?_
 rintro ov s2 ⟨x,H2,I2,rx,a,dx,fs,rfl,ea,l,q2⟩
 cases rx
 exact Ql I2 ea c n l ry fun s3 I3=>⟨σ,_,I3,q2⟩
theorem Hv {pl:Sem Bool}(he:PE X o ta)(c:Cls X.K C)(F:Mtd X.prog X.w X.K X.mg X.base k C m ps sp)(hr:Room k X.A)(ha:PA X (e :: es) t)
  (hst:starEach (e :: es) X.env=(false,eval e X.env) :: starEach es X.env:=by ac_nf) (hpl:(backTo pos (starEach es X.env)).any (·.1)=false:=by ac_nf)
  (ht:eval (.Call (.Attribute o m apos) (e :: es) [] pos) X.env=(do
   let ov <- eval o X.env
   standAt apos.atName
   let (f,first) <- holding [ov] (getMethod ov m pl)
   callWith pos f first (backTo pos (starEach (e :: es) X.env)) (backToKw pos (keywordEach [] X.env))):=by ac_nf) :
  PE X (.Call (.Attribute o m apos) (e :: es) [] pos) (tMe m C sp ta t):=by
 obtain⟨f,fd,h1,h2,h3⟩:=F
 exact Yy (pl:=pl) he c h2 h1 hr h3 .nil a55 ha hst hpl ht
theorem Sb (F:Mkd X.prog X.w X.K X.mg X.base k C x ps sp)(hr:Room (k+1) X.A)(hg:Gl X x)(ha:PA X (e :: es) t)(hdb:(x==("__debug__":Str))=false:=by decide)
  (he:starEach (e :: es) X.env=(false,eval e X.env) :: starEach es X.env:=by ac_nf) (hpl:(backTo pos (starEach es X.env)).any (·.1)=false:=by ac_nf) :
  PE X (.Call (.Name x p) (e :: es) [] pos) (tMk C sp t):=by
 obtain⟨f,fd,h1,h2,h3,h4⟩:=F
 exact a33 h2 h1 hr hg h3 h4 .nil a55 ha hdb he hpl
theorem Yg (ha:PE X e ta)(he:∀ whole,isTrue e X.env whole=(do let v <- whole;standAt e.pos;holding [v] (truthy v)):=by intro _;ac_nf):PT X e (ao6 ta):=by
 intro pins s σ H Q I h
 refine isTrue_plain (thn (ha pins s σ H _ I h) ?_) (he _)
 rintro v s1 ⟨x,H1,I1,r1,i,rfl,q1⟩
 exact ab0 pins s1 σ H1 _ v Q I1 r1 ⟨_,rfl,q1⟩
end
section
variable {K:PySem.W.Frag}{C:Addr}{f m:Str}{sp:Sp}{ta tv:TE}{t:TA}{σ:St}{H:Hp}{Q:VK}{D:Ends}
theorem i_tAt (k:ta σ H fun x H1=>rAt f C x H1 Q):tAt f C ta σ H Q:=k
theorem M4 {a dx:Addr}{fs:List (Str×V)}{v:V}(h:H a=some (.ins C dx fs))(l:fs.lookup f=some v)(k:Q v H):rAt f C (.ref a) H Q:=⟨a,dx,fs,v,rfl,h,l,k⟩
theorem i_sSt (k:tv σ H fun y H1=>ta σ H1 fun x H2=>rSt f C y x H2 fun H3=>D.nx σ H3):sSt f C ta tv D σ H:=k
theorem aa9 {a dx:Addr}{fs:List (Str×V)}{y:V}{R:Hp->Prop}(h:H a=some (.ins C dx fs))(hl:fs.length<1000)(k:∀ H',ExtBut a H H'->H' a=some (.ins C dx (Ia f y fs))->R H'):rSt f C y (.ref a) H R:=
 ⟨a,dx,fs,rfl,h,hl,k _ ExtBut.upd A9⟩
theorem i_tMe (k:ta σ H fun x H1=>rMe m C sp t σ x H1 Q):tMe m C sp ta t σ H Q:=k
theorem V2 {a dx:Addr}{fs:List (Str×V)}(h:H a=some (.ins C dx fs))(l:fs.lookup m=none)(k:t σ H fun vs H2=>sp (.ref a :: (vs++[])) H2 Q E0):rMe m C sp t σ (.ref a) H Q:=⟨a,dx,fs,rfl,h,l,k⟩
theorem i_tMk (k:t σ H fun vs H1=>rMk C sp vs H1 Q):tMk C sp t σ H Q:=k
theorem ak2 {vs:List V}(k:∀ x dx H2,H x=none->Same H H2->H2 x=some (.ins C dx [])->sp (.ref x :: (vs++[])) H2 (fun v H3=>v = .non/\Q (.ref x) H3) E0):rMk C sp vs H Q:=fun x dx hx hd hne=>
 k x dx _ hx (fun b o e=>by rw[Ap (ne_of_none e hx),Ap (ne_of_none e hd)];exact e) A9
theorem i_tTru {R:Bool->Hp->Prop}(k:ta σ H fun x H1=>∃ i:Int,x = .int i/\R (i != 0) H1):ao6 ta σ H R:=k
theorem a00 {a:Addr}{kvs:List (Key×V)}{z:Int}{v:V}{R:Hp->Prop}(h:H a=some (.dK kvs))(hl:kvs.length<=1000000)(k:∀ H',ExtBut a H H'->H' a=some (.dK (Db kvs (Sum.inl z) v))->R H'):∃ b H4,V.ref a = .ref b/\DPut H b (.int z) v H4/\R H4:=
 ⟨a,_,rfl,DPut.k (k:=Sum.inl z) h (by rw[sizeLine_eq];omega),k _ ExtBut.upd A9⟩
theorem Xg {a:Addr}{kvs:List (Key×V)}{z:Int}{v:V}(h:H a=some (.dK kvs))(e:D3 kvs (Sum.inl z:Key)=some v)(k:Q v H):P3 K (.ref a) (.int z) H Q:=.inr ⟨a,v,rfl,by rw[<- e];exact DGet.k (k:=Sum.inl z) h,k⟩
theorem Yv {a:Addr}{kvs:List (Key×V)}{z:Int}(h:H a=some (.dK kvs))(k:Q (.bl (D3 kvs (Sum.inl z:Key)).isNone) H):Wx K true (.int z) (.ref a) H Q:=by
 refine .inr (.inr (.inl ⟨a,D3 kvs (Sum.inl z:Key),rfl,DGet.k (k:=Sum.inl z) h,?_⟩))
 cases e:D3 kvs (Sum.inl z:Key) with
 | none=>rw[e] at k;exact k
 | some v=>rw[e] at k;exact k
end
def a72 (d v:Addr):HO:=.ext fun h=>h.IsValuesView v d
def ae7:V->List V->Hp->VK->Prop:=fun x vs H Q=>∃ d kvs,x = .ref d/\vs=[]/\H d=some (.dK kvs)/\∀ v,H v=none->Q (.ref v) (upd H v (a72 d v))
def aa2:List V->Hp->VK->Prop:=fun xs H Q=>∃(v d:Addr) (kvs:List (Key×V)) (ns:List Int),xs=[.ref v]/\H v=some (a72 d v)/\H d=some (.dK kvs)/\kvs.map (·.2)=ns.map V.int/\(∀ n∈ns,0<=n/\n<=1000000000000)/\ns.length<=1000000/\Q (.int ns.sum) H
section
variable {X:Cx}{K:PySem.W.Frag}
theorem Td:MtM X "dict.values" ae7:=by
 intro pins s σ H x vs v us Q I rx rv h
 obtain⟨d,kvs,rfl,rfl,hD,q⟩:=h
 cases rx
 cases rv
 obtain⟨z1,hd1,vs1,rel1,dd1⟩:=P0 I.hok hD
 refine call_meetsIn F.slot_dict_values dd1.typeIs F.entry_dict_values (F.args_dict_values_1 _) (meets_dict_values (Az X.prog X.w) d hd1) ⟨⟨vs1,dd1⟩,?_⟩
 refine ⟨.ref s.heap.objs.size,upd H s.heap.objs.size (a72 d s.heap.objs.size),I.laid (t':=s.toks) (fun b u e=>Heap.get?_push_of_some _ e) (Nat.le_refl _) ⟨⟨_,Heap.get?_push_size _ rfl,rfl,rfl⟩,⟨_,Heap.get?_push_size _ rfl⟩,fun h1 h2 ⟨o,e,r⟩ hk=>⟨o,hk o e,r⟩⟩,rfl,q _ (I.hok.fresh (Nat.le_refl _))⟩
theorem M9 {α β:Type}{F:α->β->Prop}{l₁:List α}{l₂:List β}(h:Paired F l₁ l₂):∀ {i:Nat} {a:α},l₁[i]? = some a->∃ b,l₂[i]? = some b/\F a b:=by
 induction h with
 | nil=>intro i a e;cases e
 | cons r _ ih=>
   intro i a e
   cases i with
   | zero=>cases e;exact⟨_,rfl,r⟩
   | succ i=>exact ih e
theorem a03 {ns:List Int}{kvs:List (Key×V)}{vs:List (Key×Value)}(rel:KV kvs vs)(h:kvs.map (·.2)=ns.map V.int){i:Nat}{k:Key}{u:Value}(hx:vs[i]? = some (k,u)):∃ t,u = .int (ns.getD i 0) t:=by
 have hl:kvs.length=vs.length:=rel.length
 have hn:kvs.length=ns.length:=by have:=congrArg List.length h;rwa[List.length_map,List.length_map] at this
 have hi:i<vs.length:=(List.getElem?_eq_some_iff.mp hx).1
 have hk:kvs[i]? = some kvs[i]:=List.getElem?_eq_getElem (by omega)
 obtain⟨q,hq,r⟩:=M9 rel hk
 rw[hx] at hq
 cases hq
 have e:(kvs.map (·.2))[i]? = some kvs[i].2:=by rw[List.getElem?_map,hk];rfl
 rw[h,List.getElem?_map,Go (y:=0) (by omega:i<ns.length)] at e
 have e2:V.int (ns.getD i 0)=kvs[i].2:=Option.some.inj e
 have r2:=r.2
 rw[<- e2] at r2
 exact r2
theorem Uo (hc:X.calm=true):CallR X (.builtin "sum") aa2:=by
 intro pins s σ H xs us Q I r h
 obtain⟨v,d,kvs,ns,rfl,hv,hd,hns,hb,hz,q⟩:=h
 obtain⟨u,rfl,ru⟩:=G5 r
 cases ru
 have fits:∀ j,j<ns.length->InLong (ns.getD j 0)/\InLong (preSum (fun i=>ns.getD i 0) (j+1)):=fun j hj=>by
  have h1:=hb _ (List.mem_of_getElem? (Go (y:=0) hj))
  have h2:=Jr (ns:=ns.take (j+1)) fun n hn=>hb n (List.mem_of_mem_take hn)
  rw[Dl ns (j+1) hj]
  rw[List.length_take] at h2
  unfold InLong
  omega
 have last:preSum (fun i=>ns.getD i 0) ns.length=ns.sum:=by rw[Dl ns _ (Nat.le_refl _),List.take_length]
 obtain⟨_,hs,vs,rel,dd⟩:=P0 I.hok hd
 obtain⟨ep,hat⟩:=dd.dictAt
 have vv:s.heap.IsValuesView v d:=(show ObjOk X.prog X.w H s.heap v (a72 d v) from I.hok v _ hv).1
 have hlt:d<s.heap.objs.size:=I.hok.lt hd
 have hn:vs.length=ns.length:=by
  have:=congrArg List.length hns
  rw[List.length_map,List.length_map] at this
  have:=rel.length
  omega
 refine call_sum_walk ?_
 obtain⟨oI,St,hit,W,st⟩:=(PySem.W.kdl_values (knd:=Az X.prog X.w) (r:=v) (d:=d) (kvs:=vs) (ep:=ep)).iter X.A.in1 s (by simpa using I.ok.hd hc) ⟨vv,hat⟩
 refine hit _ _ ?_
 refine⟨s.heap.objs.size,_,_,_,_,_,fun i=>ns.getD i 0,rfl,W,st,?_,?_,by rw[hn];exact fits,?_⟩
 . intro b hb'
   rw[Heap.size_push]
   simp only[List.mem_cons,List.not_mem_nil,or_false] at hb'
   rcases hb' with rfl | rfl
   . exact Nat.lt_succ_self _
   exact Nat.lt_succ_of_lt hlt
 . rintro i u ⟨k,hx⟩
   exact a03 rel hns hx
 intro h' tk t' hk
 refine⟨.int ns.sum,H,I.kept (t':=tk) ?_,⟨t',by rw[hn,last]⟩,q⟩
 intro b o e
 refine hk b o (fun z=>?_) (Heap.get?_push_of_some _ e)
 have:b=s.heap.objs.size:=by simpa using z
 subst this
 exact absurd (Heap.lt_size e) (Nat.lt_irrefl _)
theorem ad9 {d:Addr}{kvs:List (Key×V)}{H:Hp}{Q:VK}(h:H d=some (.dK kvs))(k:∀ v H',H v=none->Same H H'->H' v=some (a72 d v)->Q (.ref v) H'):ae7 (.ref d) [] H Q:=⟨d,kvs,rfl,rfl,h,fun v hv=>k v _ hv (Same.upd hv) A9⟩
theorem ai9 {v d:Addr}{kvs:List (Key×V)}{ns:List Int}{H:Hp}{Q:VK}(hv:H v=some (a72 d v))(hd:H d=some (.dK kvs))(hns:kvs.map (·.2)=ns.map V.int)(hb:∀ n∈ns,0<=n/\n<=1000000000000)(hz:ns.length<=1000000)(k:Q (.int ns.sum) H):aa2 [.ref v] H Q:=
 ⟨v,d,kvs,ns,rfl,hv,hd,hns,hb,hz,k⟩
end
theorem Nr {α β:Type}{F:α->β->Prop}:∀ {l₁:List α} {l₂:List β},l₁.length=l₂.length->(∀(i:Nat) a b,l₁[i]? = some a->l₂[i]? = some b->F a b)->Paired F l₁ l₂
 | [],[],_,_=>.nil
 | a :: l₁,b :: l₂,hl,h=>.cons (h 0 a b rfl rfl) (Nr (by simpa using hl) fun i x y hx hy=>h (i+1) x y hx hy)
section
variable {X:Cx}
end
section
variable {α:Type}[DecidableEq α]
theorem Zx (a b:Nat):Builtin.bitAnd (a:Int) (b:Int)=((a &&& b:Nat):Int):=by
 rw[bitAnd_pp (Int.natCast_nonneg _) (Int.natCast_nonneg _)]
 simp
theorem Us (p q:α->Bool)(ns:List α):(Builtin.bitAnd (C0 ns p:Int) (C0 ns q:Int) != 0)=ns.any fun x=>p x&&q x:=by
 rw[Zx,Q2]
 cases e:ns.any fun x=>p x&&q x with
 | true=>
   obtain⟨x,hx,h⟩:=List.any_eq_true.mp e
   have:C0 ns (fun x=>p x&&q x)≠0:=fun z=>by
    have:=binM_zero.mp z x hx
    rw[this] at h
    cases h
   simp only[bne_iff_ne,ne_eq]
   omega
 | false=>
   have:C0 ns (fun x=>p x&&q x)=0:=binM_zero.mpr fun x hx=>by
    cases c:(p x&&q x) with
    | false=>rfl
    | true=>rw[List.any_eq_true.mpr ⟨x,hx,c⟩] at e;cases e
   rw[this]
   rfl
theorem Yt {ns:List α} (hn:ns.Nodup) {x:α} (hx:x∈ns) (q:α->Bool):(Builtin.bitAnd (Cq ns x:Int) (C0 ns q:Int) != 0)=q x:=by
 rw[Sz hn hx,Us]
 cases c:q x with
 | true=>exact List.any_eq_true.mpr ⟨x,hx,by simp[c]⟩
 | false=>
   rw[Bool.eq_false_iff]
   intro h
   obtain⟨y,_,hy⟩:=List.any_eq_true.mp h
   rw[Bool.and_eq_true,decide_eq_true_iff] at hy
   rw[hy.1,c] at hy
   cases hy.2
theorem Rn (ns:List α)(p q:α->Bool):(ns.any fun x=>p x&&q x)=(ns.filter q).any p:=by
 induction ns with
 | nil=>rfl
 | cons y ys ih=>
   rw[List.any_cons,ih,List.filter_cons]
   cases c:q y with
   | true=>rw[if_pos rfl,List.any_cons,Bool.and_true]
   | false=>rw[if_neg (by decide),Bool.and_false,Bool.false_or]
theorem U1 (b:α->α->Bool)(ns:List α)(q:α->Bool):(ns.filter fun x=>q x && !(ns.any fun y=>b y x&&q y))=frF b (ns.filter q):=by
 unfold frF
 rw[List.filter_filter]
 apply List.filter_congr
 intro x _
 rw[Rn,Bool.and_comm]
theorem Ao (ns:List α)(q:α->Bool)(x:α):(ns.filter fun y=>q y && !decide (y=x))=Ak (ns.filter q) x:=by
 unfold Ak
 rw[List.filter_filter]
 apply List.filter_congr
 intro y _
 rw[Bool.and_comm]
theorem ac7 {m n:Nat}(h:m<=n):fac m<=fac n:=by
 induction h with
 | refl=>exact Nat.le_refl _
 | @step k _ ih=>exact Nat.le_trans ih (Nat.le_mul_of_pos_right _ (Nat.succ_pos k))
theorem O2 (c:Nat):∀ l:List α,(l.map fun _=>c).sum=l.length*c
 | []=>by simp
 | x :: xs=>by rw[List.map_cons,List.sum_cons,O2 c xs,List.length_cons,Nat.add_mul,Nat.one_mul,Nat.add_comm]
theorem Xp (b:α->α->Bool):∀(n:Nat) (L:List α),L.length=n->L.Nodup->cnt b L<=fac n
 | 0,L,hl,_=>by
   have:=List.length_eq_zero_iff.mp hl
   subst this
   exact Nat.le_refl _
 | n+1,L,hl,hn=>by
   have hne:L≠[]:=by intro e;rw[e] at hl;cases hl
   rw[Mr hn hne]
   have h1:((frF b L).map fun x=>cnt b (Ak L x)).sum<=((frF b L).map fun _=>fac n).sum:=Uz fun x hx=>by
    have:=Au hn (mem_frF.mp hx).1
    exact Xp b n (Ak L x) (by omega) (Bc hn x)
   rw[O2] at h1
   refine Nat.le_trans h1 ?_
   show _<=fac n*(n+1)
   rw[Nat.mul_comm]
   refine Nat.mul_le_mul_left _ ?_
   rw[<- hl]
   exact List.length_filter_le _ _
theorem Jm {b:α->α->Bool}{L:List α}(hn:L.Nodup)(h:L.length<=10):cnt b L<=3628800:=Nat.le_trans (Xp b _ L rfl hn) (Nat.le_trans (ac7 h) (by decide))
end
def a78 (ns:List Str):List (Key×V):=ns.map fun x=>((Sum.inr x:Key),V.int ((Cq ns x:Nat):Int))
def ahK (ns:List Str)(ps:List (Str×Str)):List (Key×V):=ns.map fun x=>((Sum.inr x:Key),V.int ((C0 ns (fun y=>Ab ps y x):Nat):Int))
theorem Fd {f:Str->V}:∀ {ns:List Str} {x:Str},x∈ns->D3 (ns.map fun x=>((Sum.inr x:Key),f x)) (Sum.inr x:Key)=some (f x)
 | [],x,h=>by cases h
 | y :: ys,x,h=>by
   rw[List.map_cons]
   by_cases e:y=x
   . subst e
     exact Bf rfl
   rw[Bg fun q=>e (Sum.inr.inj q)]
   exact Fd ((List.mem_cons.mp h).resolve_left fun q=>e q.symm)
theorem Ez {f:Str->V}:∀ {ns:List Str} {x:Str},x∉ns->D3 (ns.map fun x=>((Sum.inr x:Key),f x)) (Sum.inr x:Key)=none
 | [],x,h=>rfl
 | y :: ys,x,h=>by
   rw[List.map_cons,Bg fun q=>h (by rw[<- Sum.inr.inj q];simp)]
   exact Ez fun q=>h (List.mem_cons_of_mem _ q)
theorem Je:∀ {ns:List Str} {i:Nat} {x:Str},ns.Nodup->ns[i]? = some x->Cq ns x=2 ^ i
 | [],i,x,_,h=>by cases h
 | y :: ys,0,x,_,h=>by
   cases h
   unfold Cq
   rw[if_pos rfl]
 | y :: ys,i+1,x,hn,h=>by
   obtain⟨h1,h2⟩:=List.nodup_cons.mp hn
   have hx:ys[i]? = some x:=h
   unfold Cq
   rw[if_neg fun q=>h1 (by rw[<- q];exact List.mem_of_getElem? hx),Je h2 hx,Nat.pow_succ,Nat.mul_comm]
theorem IsL.int_eq {K:PySem.W.Frag}{H:Hp}:∀ {ns:List Int} {vs:List V},IsL K H (ns.map PyData.int) vs->vs=ns.map V.int
 | [],vs,h=>by simp only[List.map_nil,IsL] at h;exact h
 | n :: ns,vs,h=>by
   simp only[List.map_cons,IsL,Is] at h
   obtain⟨v,r,rfl,rfl,e3⟩:=h
   rw[IsL.int_eq e3]
   rfl
theorem Eb {α:Type}(f:α->Nat):∀ l:List α,(l.map fun x=>((f x:Nat):Int)).sum=(((l.map f).sum:Nat):Int)
 | []=>rfl
 | x :: xs=>by rw[List.map_cons,List.sum_cons,Eb f xs,List.map_cons,List.sum_cons];omega
theorem ExtBut.fzI {p:Addr}{H H':Hp}{C dx:Addr}{fs:List (Str×V)}(e:ExtBut p H H')(hp:H p=some (.ins C dx fs)):Fz H H':=Md e fun xs h=>by
 rcases h with h | ⟨o,h⟩
 . rw[hp] at h;cases h
 rw[hp] at h;cases h
def Knw (ns:List Str) (ps:List (Str×Str)) (kvs:List (Key×V)):Prop:=(kvs.map (·.1)).Nodup /\
 (∀ kv∈kvs,∃ q:Str->Bool,kv.1=Sum.inl ((C0 ns q:Nat):Int)/\kv.2=V.int ((cnt (Ab ps) (ns.filter q):Nat):Int))/\D3 kvs (Sum.inl 0:Key)=some (.int 1)
theorem Pl {κ:Type}[DecidableEq κ]:∀ {kvs:List (κ×V)} {k:κ} {v:V},D3 kvs k=some v->(k,v)∈kvs
 | [],k,v,h=>by cases h
 | p :: r,k,v,h=>by
   by_cases e:p.1=k
   . rw[Bf e] at h
     cases h
     rw[<- e]
     exact List.mem_cons_self
   rw[Bg e] at h
   exact List.mem_cons_of_mem _ (Pl h)
theorem Knw.get {ns:List Str}{ps:List (Str×Str)}{kvs:List (Key×V)}(h:Knw ns ps kvs){q:Str->Bool}{v:V}(e:D3 kvs (Sum.inl ((C0 ns q:Nat):Int):Key)=some v):v = .int ((cnt (Ab ps) (ns.filter q):Nat):Int):=by
 obtain⟨q',h1,h2⟩:=h.2.1 _ (Pl e)
 have h3:C0 ns q'=C0 ns q:=by
  have:=Sum.inl.inj h1
  omega
 have h4:ns.filter q'=ns.filter q:=List.filter_congr fun x hx=>Iv h3 x hx
 rw[h4] at h2
 exact h2
theorem Knw.len {ns:List Str}{ps:List (Str×Str)}{kvs:List (Key×V)}(h:Knw ns ps kvs)(hf:ns.length<=10):kvs.length<=1024:=by
 have:=Ej (ys:=(List.range 1024).map fun i=>(Sum.inl ((i:Nat):Int):Key)) h.1 fun k hk=>by
  obtain⟨kv,hkv,rfl⟩:=List.mem_map.mp hk
  obtain⟨q,h1,_⟩:=h.2.1 kv hkv
  rw[h1]
  have h2:=O4 q ns
  have h3:(2:Nat) ^ ns.length<=2 ^ 10:=Nat.pow_le_pow_right (by decide) hf
  exact List.mem_map.mpr ⟨C0 ns q,List.mem_range.mpr (by omega),rfl⟩
 rwa [List.length_map,List.length_map,List.length_range] at this
theorem Knw.put {ns:List Str}{ps:List (Str×Str)}{kvs:List (Key×V)}(h:Knw ns ps kvs)(q:Str->Bool) :
  Knw ns ps (Db kvs (Sum.inl ((C0 ns q:Nat):Int)) (.int ((cnt (Ab ps) (ns.filter q):Nat):Int))):=by
 cases e:D3 kvs (Sum.inl ((C0 ns q:Nat):Int):Key) with
 | some v=>
   have hp:Db kvs (Sum.inl ((C0 ns q:Nat):Int):Key) (.int ((cnt (Ab ps) (ns.filter q):Nat):Int))=kvs:=by
    unfold Db
    rw[Es,e,if_pos (show(some v).isSome=true from rfl)]
    conv=>rhs;rw[<- List.map_id kvs]
    apply List.map_congr_left
    intro kv hkv
    by_cases c:kv.1=Sum.inl ((C0 ns q:Nat):Int)
    . rw[if_pos c]
      obtain⟨q',h1,h2⟩:=h.2.1 kv hkv
      rw[h1] at c
      have h3:C0 ns q'=C0 ns q:=by
       have:=Sum.inl.inj c
       omega
      have h4:ns.filter q'=ns.filter q:=List.filter_congr fun x hx=>Iv h3 x hx
      rw[<- h4,<- h2]
      rfl
    rw[if_neg c]
    rfl
   rw[hp]
   exact h
 | none=>
   refine⟨Yu _ h.1 e,fun kv hkv=>?_,?_⟩
   . rw[Iu _ e] at hkv
     rcases List.mem_append.mp hkv with hkv | hkv
     . exact h.2.1 kv hkv
     have:kv=(Sum.inl ((C0 ns q:Nat):Int),V.int ((cnt (Ab ps) (ns.filter q):Nat):Int)):=by simpa using hkv
     subst this
     exact⟨q,rfl,rfl⟩
   rw[Lu]
   by_cases c:(Sum.inl 0:Key)=Sum.inl ((C0 ns q:Nat):Int)
   . rw[<- c,h.2.2] at e
     cases e
   rw[if_neg c]
   exact h.2.2
theorem Knw.new (ns:List Str)(ps:List (Str×Str)):Knw ns ps [(Sum.inl 0,V.int 1)]:=by
 refine⟨by simp,fun kv hkv=>?_,Bf rfl⟩
 have:kv=(Sum.inl 0,V.int 1):=by simpa using hkv
 subst this
 refine⟨fun _=>false,?_,?_⟩
 . rw[binM_zero.mpr fun _ _=>rfl]
   rfl
 have:ns.filter (fun _=>false)=[]:=by simp
 rw[this,Z2]
 rfl
structure WaysAt (K:PySem.W.Frag)(C:Addr)(H:Hp)(p dx:Addr)(nv:V)(bd ad kd:Addr)(ns:List Str)(ps:List (Str×Str))(kvs:List (Key×V)):Prop where
 ob:H p=some (.ins C dx [("names",nv),("bits",.ref bd),("ahead",.ref ad),("full",.int ((C0 ns (fun _=>true):Nat):Int)),("known",.ref kd)])
 nm:Is K H (nmD ns) nv
 bt:H bd=some (.dK (a78 ns))
 ah:H ad=some (.dK (ahK ns ps))
 kn:H kd=some (.dK kvs)
 nb:bd≠kd
 na:ad≠kd
 ok:Knw ns ps kvs
section
variable {K:PySem.W.Frag}{C:Addr}{H H':Hp}{p dx:Addr}{nv:V}{bd ad kd:Addr}{ns:List Str}{ps:List (Str×Str)}{kvs kvs':List (Key×V)}
theorem WaysAt.same (h:WaysAt K C H p dx nv bd ad kd ns ps kvs)(e:Same H H'):WaysAt K C H' p dx nv bd ad kd ns ps kvs:=
 ⟨e _ _ h.ob,h.nm.nm_fz e.fz,e _ _ h.bt,e _ _ h.ah,e _ _ h.kn,h.nb,h.na,h.ok⟩
theorem WaysAt.pk (h:WaysAt K C H p dx nv bd ad kd ns ps kvs):p≠kd:=ne_of h.ob h.kn (by intro z;cases z)
theorem WaysAt.put (h:WaysAt K C H p dx nv bd ad kd ns ps kvs)(e:ExtBut kd H H')(hk:H' kd=some (.dK kvs'))(ok:Knw ns ps kvs'):WaysAt K C H' p dx nv bd ad kd ns ps kvs':=
 ⟨e _ _ h.pk h.ob,h.nm.nm_fz (e.fzD h.kn),e _ _ h.nb h.bt,e _ _ h.na h.ah,hk,h.nb,h.na,ok⟩
theorem WaysAt.list {l:Addr}{xs:List V}(h:WaysAt K C H p dx nv bd ad kd ns ps kvs)(e:ExtBut l H H')(hl:H l=some (.lst xs)):WaysAt K C H' p dx nv bd ad kd ns ps kvs:=
 ⟨e _ _ (ne_of h.ob hl (by intro z;cases z)) h.ob,h.nm.nm_fz (e.fzL hl),e _ _ (ne_of h.bt hl (by intro z;cases z)) h.bt,e _ _ (ne_of h.ah hl (by intro z;cases z)) h.ah,e _ _ (ne_of h.kn hl (by intro z;cases z)) h.kn,h.nb,h.na,h.ok⟩
end
theorem Vr {ns:List Str}{ps:List (Str×Str)}(h:HalfW ns ps)(x:Str):Ab ps x x=false:=Ri (h.irr x)
theorem a41 {ps:List (Str×Str)}(x y z:Str)(h:Ab ps x y=true)(g:Ab ps y z=true):Ab ps x z=true:=wayB_iff.mpr ((wayB_iff.mp h).trans (wayB_iff.mp g))
section
variable {α:Type} [DecidableEq α]
theorem Ow (l:List α)(p:α->Bool):(l.filter p).isEmpty = !(l.any p):=by
 induction l with
 | nil=>rfl
 | cons x xs ih=>
   rw[List.filter_cons,List.any_cons]
   cases c:p x with
   | true=>rw[if_pos rfl];rfl
   | false=>rw[if_neg (by decide),ih,Bool.false_or]
end
section
variable {α:Type}[DecidableEq α]
end
theorem a60 {p:Key×V}{r:List (Key×V)}{k:Key}{v:V}(h:¬ p.1=k):Db (p :: r) k v=p :: Db r k v:=by
 unfold Db
 rw[List.any_cons,decide_eq_false h,Bool.false_or]
 by_cases c:(r.any fun kv=>decide (kv.1=k))=true
 . rw[if_pos c,if_pos c,List.map_cons,if_neg h]
 rw[if_neg c,if_neg c]
 rfl
theorem Ze {p:Key×V}{r:List (Key×V)}{v:V}(h:p.1∉r.map (·.1)):Db (p :: r) p.1 v=(p.1,v) :: r:=by
 unfold Db
 rw[List.any_cons,decide_eq_true rfl,Bool.true_or,if_pos rfl,List.map_cons,if_pos rfl]
 congr 1
 conv=>rhs;rw[<- List.map_id r]
 apply List.map_congr_left
 intro kv hkv
 rw[if_neg fun q=>h (List.mem_map.mpr ⟨kv,hkv,q⟩)]
 rfl
section
variable {K:PySem.W.Frag}{σ:St}{H:Hp}{Q:VK}{td ty tx:TE}
end
section
variable {K:PySem.W.Frag}{C:Addr}{H H':Hp}{p dx:Addr}{nv:V}{bd ad kd:Addr}{ns:List Str}{ps:List (Str×Str)}{kvs:List (Key×V)}
end
section
variable {K:PySem.W.Frag}{σ:St}{H:Hp}{Q:VK}
end
theorem Jx {prog:Program}{w:World}{κ:Type}[DecidableEq κ](knd:KeyKind prog w κ)(d:Addr) :
  MeetsIn prog w (Builtin.«dict.update» ⟨[.ref d,.ref d],[]⟩) (fun _ R s=>(∃ kvs,s.heap.DictOf knd d kvs)/\R (.ok (.ret .none)) s):=
 .of_wp fun A R s hh=>by
  obtain⟨⟨kvs,hd⟩,h⟩:=hh
  unfold Builtin.«dict.update» Builtin.Dict.selfAndRest
  refine wpAny_bind (wpAny_bind (wpAny_notOrdered_dict hd.typeIs ?_))
  show wpAny _ _ (pure (d,[Value.ref d])) _ _ s
  refine wpAny_pure ?_
  show wpAny _ _ (Builtin.Dict.updateFrom "dict.update" d (.ref d) [] .none) _ _ s
  unfold Builtin.Dict.updateFrom Builtin.Dict.merge Builtin.Dict.readDirectly
  refine wpAny_bind (wpAny_typeOf hd.typeIs ?_)
  rw[if_neg (by decide)]
  refine wpAny_bind (wpAny_bind (wpAny_bind (wpAny_isInstance hd.typeIs isSubtype_dict_dict ?_)))
  simp only[Bool.not_true,Bool.false_eq_true,if_false]
  refine wpAny_bind (wpAny_specialOf hd.typeIs F.slot_dict_iter.lookup (wpAny_pure ?_))
  simp only[beq_self_eq_true,if_true]
  refine wpAny_bind (wpAny_pure ?_)
  unfold Builtin.Dict.mergeDict
  rw[if_pos (by simp)]
  refine wpAny_bind (wpAny_rule (wpAny_pure ?_))
  show wpAny _ _ (Builtin.Dict.addKeywords d [] >>= _) _ _ _
  exact wpAny_bind (wpAny_pure (wpAny_pure ⟨.none,rfl,h⟩))
def Pp:V->List V->Hp->VK->Prop:=fun x vs H Q=>∃ d kvs,x = .ref d/\vs=[.ref d]/\H d=some (.dK kvs)/\Q .non H
def Lk:V->List V->Hp->VK->Prop:=fun x vs H Q=>Op x vs H Q\/Pp x vs H Q
section
variable {X:Cx}{K:PySem.W.Frag}
theorem Qk:MtM X "dict.update" Pp:=by
 intro pins s σ H x vs v us Q I rx rv h
 obtain⟨d,kvs,rfl,rfl,hD,q⟩:=h
 cases rx
 obtain⟨u,rfl,ru⟩:=rv.one
 cases ru
 obtain⟨z1,hd1,vs1,rel1,dd1⟩:=P0 I.hok hD
 refine call_meetsIn F.slot_dict_update dd1.typeIs F.entry_dict_update (F.args_dict_update_2 _ _) (Jx (Az X.prog X.w) d) ⟨⟨vs1,dd1⟩,?_⟩
 exact⟨.non,H,I.tok s.toks,rfl,q⟩
theorem Qs:MtM X "dict.update" Lk:=by
 intro pins s σ H x vs v us Q I rx rv h
 rcases h with h | h
 . exact Tn pins s σ H x vs v us Q I rx rv h
 exact Qk pins s σ H x vs v us Q I rx rv h
end
theorem ai4 {d o:Addr}{ks ms:List Str}{H:Hp}{Q:VK}(hd:H d=some (.dK (He ks)))(ho:H o=some (.dK (He ms)))(hne:d≠o)(hz:ks.length+ms.length<=1000000)(k:∀ H',ExtBut d H H'->H' d=some (.dK (He (Jk ks ms)))->Q .non H'):Lk (.ref d) [.ref o] H Q:=.inl (am7 hd ho hne hz k)
theorem ab4 {d:Addr}{kvs:List (Key×V)}{H:Hp}{Q:VK}(hd:H d=some (.dK kvs))(k:Q .non H):Lk (.ref d) [.ref d] H Q:=.inr ⟨d,kvs,rfl,rfl,hd,k⟩
structure Mi (ns:List Str)(ps:List (Str×Str)):Prop where
 nd:ns.Nodup
 mem:∀ p∈ps,p.1∈ns/\p.2∈ns
 few:ns.length<=100
 le:ps.length<=1100
theorem HalfW.c {ns:List Str}{ps:List (Str×Str)}(h:HalfW ns ps):Mi ns ps:=⟨h.nd,h.mem,h.few,Nat.le_trans h.le (by decide)⟩
instance {ns:List Str} {ps:List (Str×Str)}:Coe (HalfW ns ps) (Mi ns ps):=⟨HalfW.c⟩
section
variable {α:Type}[DecidableEq α]
def okR (b:α->α->Bool) (r:List α):Prop:=(∀ u∈r,b u u=false)/\r.Pairwise fun u v=>b v u=false
theorem Mv {L:List α}(hn:L.Nodup){x:α}(hx:x∈L):(x :: Ak L x).Perm L:=by
 induction L with
 | nil=>cases hx
 | cons y ys ih=>
   obtain⟨h1,h2⟩:=List.nodup_cons.mp hn
   by_cases e:y=x
   . subst e
     have:Ak (y :: ys) y=ys:=by
      have e1:Ak (y :: ys) y=Ak ys y:=by unfold Ak;rw[List.filter_cons,if_neg (by simp)]
      rw[e1,Pe h1]
     rw[this]
   have e1:Ak (y :: ys) x=y :: Ak ys x:=by unfold Ak;rw[List.filter_cons,if_pos (by simp[e])]
   rw[e1]
   exact(List.Perm.swap y x _).trans ((ih h2 ((List.mem_cons.mp hx).resolve_left fun q=>e q.symm)).cons y)
theorem Dp (b:α->α->Bool):∀(n:Nat) (L r:List α),L.Nodup->L.length=n->(r∈ext b n L↔r.Perm L/\okR b r)
 | 0,L,r,_,hl=>by
   have:=List.length_eq_zero_iff.mp hl
   subst this
   constructor
   . intro h
     have:r=[]:=by simpa[ext] using h
     subst this
     exact⟨.refl _,(fun _ h=>by cases h),List.Pairwise.nil⟩
   rintro⟨h,_⟩
   have:r=[]:=List.perm_nil.mp h
   subst this
   simp[ext]
 | n+1,L,r,hn,hl=>by
   constructor
   . intro h
     obtain⟨x,hx,h⟩:=List.mem_flatMap.mp h
     obtain⟨t,ht,rfl⟩:=List.mem_map.mp h
     have hxL:=mem_frF.mp hx
     have hlen:=Au hn hxL.1
     obtain⟨h1,h2,h3⟩:=(Dp b n (Ak L x) t (Bc hn x) (by omega)).mp ht
     refine⟨(h1.cons x).trans (Mv hn hxL.1),fun u hu=>?_,List.pairwise_cons.mpr ⟨fun v hv=>hxL.2 v (mem_lessF.mp (h1.mem_iff.mp hv)).1,h3⟩⟩
     rcases List.mem_cons.mp hu with rfl | hu
     . exact hxL.2 u hxL.1
     exact h2 u hu
   rintro⟨hp,hd,hpw⟩
   cases r with
   | nil=>
     have:=hp.length_eq
     rw[hl] at this
     cases this
   | cons x t=>
     have hxL:x∈L:=hp.mem_iff.mp (by simp)
     have hlen:=Au hn hxL
     have hpt:t.Perm (Ak L x):=List.Perm.cons_inv (hp.trans (Mv hn hxL).symm)
     obtain⟨q1,q2⟩:=List.pairwise_cons.mp hpw
     refine List.mem_flatMap.mpr ⟨x,mem_frF.mpr ⟨hxL,fun y hy=>?_⟩,List.mem_map.mpr ⟨t,(Dp b n (Ak L x) t (Bc hn x) (by omega)).mpr ⟨hpt,fun u hu=>hd u (by simp[hu]),q2⟩,rfl⟩⟩
     by_cases e:y=x
     . rw[e]
       exact hd x (by simp)
     exact q1 y (hpt.mem_iff.mpr (mem_lessF.mpr ⟨hy,e⟩))
end
theorem Hu:∀ {r:List Str} {x:Str},x∈r->r[r.idxOf x]? = some x/\(∀ m<r.idxOf x,r[m]? ≠ some x)/\r.idxOf x<r.length
 | [],_,h=>by cases h
 | y :: ys,x,h=>by
   rw[List.idxOf_cons]
   by_cases e:y=x
   . subst e
     simp
   have hb:(y==x)=false:=by simpa using e
   obtain⟨h1,h2,h3⟩:=Hu ((List.mem_cons.mp h).resolve_left fun q=>e q.symm)
   rw[hb]
   refine⟨h1,fun m hm=>?_,by simpa using h3⟩
   cases m with
   | zero=>simpa using e
   | succ m=>exact h2 m (by simpa using hm)
theorem ac4 {ns r:List Str}{ps:List (Str×Str)}(hn:ns.Nodup)(hm:∀ p∈ps,p.1∈ns/\p.2∈ns)(hp:r.Perm ns):okR (Ab ps) r↔∀ p∈ps,r.idxOf p.1<r.idxOf p.2:=by
 have hrn:r.Nodup:=hp.nodup_iff.mpr hn
 constructor
 . rintro⟨h1,h2⟩ p hpp
   obtain⟨m1,m2⟩:=hm p hpp
   obtain⟨a1,_,a3⟩:=Hu (hp.mem_iff.mpr m1)
   obtain⟨b1,_,b3⟩:=Hu (hp.mem_iff.mpr m2)
   have hw:Ab ps p.1 p.2=true:=wayB_iff.mpr (.one hpp)
   have a4:=(List.getElem?_eq_some_iff.mp a1).2
   have b4:=(List.getElem?_eq_some_iff.mp b1).2
   rcases Nat.lt_trichotomy (r.idxOf p.1) (r.idxOf p.2) with h | h | h
   . exact h
   . have e:p.1=p.2:=by
      rw[h,b1] at a1
      exact(Option.some.inj a1).symm
     rw[e] at hw
     rw[h1 p.2 (hp.mem_iff.mpr m2)] at hw
     cases hw
   have:=List.pairwise_iff_getElem.mp h2 _ _ b3 a3 h
   rw[a4,b4] at this
   rw[this] at hw
   cases hw
 intro h
 have hw:∀ u v,Way ps u v->r.idxOf u<r.idxOf v:=fun u v g=>by
  induction g with
  | one e=>exact h _ e
  | cons e _ ih=>exact Nat.lt_trans (h _ e) ih
 refine⟨fun u hu=>?_,List.pairwise_iff_getElem.mpr fun i j hi hj hij=>?_⟩
 . cases c:Ab ps u u with
   | false=>rfl
   | true=>exact absurd (hw u u (wayB_iff.mp c)) (Nat.lt_irrefl _)
 cases c:Ab ps r[j] r[i] with
 | false=>rfl
 | true=>
   have g:=hw _ _ (wayB_iff.mp c)
   have ix:∀ k (hk:k<r.length),r.idxOf r[k]=k:=fun k hk=>by
    obtain⟨f1,_,f3⟩:=Hu (List.getElem_mem hk)
    exact(List.getElem_inj hrn).mp (List.getElem?_eq_some_iff.mp f1).2
   rw[ix j hj,ix i hi] at g
   omega
section
variable {prog:Program}{w:World}{A:Around}{E:Value->Shared->Prop}{I:Addr}{fp wr:List Addr}{n:Nat}{P:Nat->Value->Prop}{St:Nat->Heap->Prop}
end
section
variable {α:Type}[DecidableEq α]
end
theorem Q8 {β:Type}{f:β->Nat}{c:Nat}:∀ {l:List β},(∀ x∈l,f x=c)->(l.map f).sum=l.length*c
 | [],_=>by simp
 | x :: xs,h=>by rw[List.map_cons,List.sum_cons,h x (by simp),Q8 (l:=xs) fun y hy=>h y (by simp[hy]),List.length_cons,Nat.add_mul,Nat.one_mul,Nat.add_comm]
section
variable {prog:Program}{w:World}{A:Around}{E:Value->Shared->Prop}{s:Shared}
structure RawAt (h:Heap)(d:Addr)(es:Array DictEntry)(ep:Nat):Prop where
 at_:∃ o,h.get? d=some o/\o.cls = .type "dict" /\ o.data = .dict es ep
theorem RawAt.ty (x:RawAt s.heap d es ep):s.TypeIs (.ref d) "dict":=let ⟨o,h,c,_⟩:=x.at_;⟨o,h,c⟩
theorem Vq {d:Addr}{es:Array DictEntry}{ep:Nat}{Q:Value->Shared->Prop}(hs:(d==sysModules)=false)(x:RawAt s.heap d es ep)
  (q:Q (.ref s.heap.objs.size) { s with heap:=s.heap.push { cls:=.type "dict_keyiterator",data:=.fields #[.ref d,.int 0 0,.int es.size 0,.int ep 0] } }):wpAny (model prog w) A (pyIter (.ref d)) Q E s:=by
 obtain⟨o,h1,_,h3⟩:=x.at_
 refine wpAny_pyIter_slot x.ty F.slot_dict_iter (wpAny_call_entry F.slot_dict_iter x.ty F.entry_dict_iter ?_ (F.args_dict_iter_1 _))
 unfold Builtin.«dict.__iter__» Builtin.Dict.dictSlotNone
 refine wpAny_bind (wpAny_bind (wpAny_notOrdered_dict x.ty ?_))
 show wpAny _ _ (pure (Value.ref d)) _ _ s
 refine wpAny_pure ?_
 show wpAny _ _ (Builtin.Dict.showsAll d >>= _) _ _ s
 unfold Builtin.Dict.showsAll
 rw[if_neg (by rw[hs];decide)]
 refine wpAny_bind (wpAny_pure (wpAny_bind (wpAny_dictEntries h1 h3 (wpAny_bind (wpAny_dictEpoch h1 h3 ?_)))))
 refine wpAny_bind (wpAny_newObj_type (wpAny_pure ⟨_,rfl,"dict_keyiterator",_,⟨_,Heap.get?_push_size _ rfl,rfl⟩,F.slot_dict_keyiterator_next.lookup,?_⟩))
 simpa[rawInt] using q
theorem W7 {it d:Addr}{i ep:Nat}{es:Array DictEntry}{Q:Option Value->Shared->Prop}(hit:s.heap.IsKeyIter it d i es.size ep)(x:RawAt s.heap d es ep)(hi:i<es.size)
  (q:∀ h',h'.IsKeyIter it d (i+1) es.size ep->Heap.SameBut it s.heap h'->Q (some es[i].key) { s with heap:=h' }):wpAny (model prog w) A (pyNext (.ref it)) Q E s:=by
 obtain⟨o,h1,_,h3⟩:=x.at_
 obtain⟨oi,g1,g2,g3⟩:=id hit
 have hown:Builtin.Dict_items.ownsTuple "dict_keyiterator" = false:=by rfl
 unfold pyNext
 refine wpAny_bind (wpAny_attempt (wpAny_callSpecial?_slot (name:=Str.ofString "__next__") hit.typeIs F.slot_dict_keyiterator_next (wpAny_call_entry F.slot_dict_keyiterator_next hit.typeIs F.entry_dict_keyiterator_next ?_ (F.args_dict_keyiterator_next_1 _))))
 refine wpAny_bind (wpAny_pure (wpAny_bind (wpAny_bind ?_)))
 first | refine wpAny_bind (wpAny_typeNameOfWhole_keyiter hit.typeIs (wpAny_pure (wpAny_bind (wpAny_fieldsOf g1 g3 ?_)))) | refine wpAny_bind (wpAny_typeNameOf_keyiter hit.typeIs (wpAny_pure (wpAny_bind (wpAny_fieldsOf g1 g3 ?_))))
 simp only[hown,Bool.false_eq_true,if_false]
 show wpAny _ _ (if(Value.ref d==Value.none)=true then _ else _) _ _ s
 rw[if_neg (show ¬ ((Value.ref d==Value.none)=true) by exact Bool.false_ne_true)]
 refine wpAny_bind (wpAny_pure (wpAny_bind (wpAny_dictEntries h1 h3 ?_)))
 rw[if_neg (by simp only[bne_self_eq_false,Bool.false_eq_true,not_false_eq_true])]
 refine wpAny_bind (wpAny_pure (wpAny_bind (wpAny_dictEpoch h1 h3 ?_)))
 rw[if_neg (by simp only[bne_self_eq_false,Bool.false_eq_true,not_false_eq_true])]
 refine wpAny_pure ?_
 have hneg:¬ ((i:Int)<0):=by omega
 simp only[hneg,if_false,Int.toNat_natCast,Array.getElem?_eq_getElem hi]
 first | refine wpAny_bind (wpAny_bind (wpAny_typeNameOfWhole_keyiter hit.typeIs (wpAny_pure (wpAny_bind (wpAny_isOneOf_keyiter hit.typeIs ?_))))) | refine wpAny_bind (wpAny_bind (wpAny_typeNameOf_keyiter hit.typeIs (wpAny_pure (wpAny_bind (wpAny_isOneOf_keyiter hit.typeIs ?_)))))
 show wpAny _ _ (setField (.ref it) 1 (rawInt ((i:Int)+1)) >>= fun _=>_) _ _ s
 refine wpAny_bind (wpAny_setField g1 g3 (by simp) ?_)
 have hit2:(s.heap.update it (Obj.mapFields (·.setIfInBounds 1 (rawInt ((i:Int)+1))))).IsKeyIter it d (i+1) es.size ep:=by
  refine⟨_,Heap.get?_update_self _ g1 (Obj.isFreed_of_fields (Obj.data_mapFields g3 _)),(Obj.cls_mapFields ..).trans g2,?_⟩
  rw[Obj.data_mapFields g3]
  simp[rawInt]
 refine wpAny_bind (wpAny_holding (wpAny_bind ?_))
 refine wpAny_isOneOf_keyiter (s:={ s with heap:=s.heap.update it (Obj.mapFields (·.setIfInBounds 1 (rawInt ((i:Int)+1)))) }) hit2.typeIs ?_
 show wpAny _ _ (pure es[i].key) _ _ _
 exact wpAny_pure (wpAny_pure ⟨_,rfl,wpAny_pure (q _ hit2 (Heap.SameBut.update ..))⟩)
theorem Z5 {it d:Addr}{i ep:Nat}{es:Array DictEntry}{Q:Option Value->Shared->Prop}(hh:A.handled=none)(hit:s.heap.IsKeyIter it d i es.size ep)(x:RawAt s.heap d es ep)(hi:es.size<=i)
  (q:∀ h',Heap.ExtBut it s.heap h'->Q none { s with heap:=h' }):wpAny (model prog w) A (pyNext (.ref it)) Q E s:=by
 obtain⟨o,h1,_,h3⟩:=x.at_
 obtain⟨oi,g1,g2,g3⟩:=id hit
 have hown:Builtin.Dict_items.ownsTuple "dict_keyiterator" = false:=by rfl
 unfold pyNext
 refine wpAny_bind (wpAny_attempt (wpAny_callSpecial?_slot (name:=Str.ofString "__next__") hit.typeIs F.slot_dict_keyiterator_next (wpAny_call_entry F.slot_dict_keyiterator_next hit.typeIs F.entry_dict_keyiterator_next ?_ (F.args_dict_keyiterator_next_1 _))))
 refine wpAny_bind (wpAny_pure (wpAny_bind (wpAny_bind ?_)))
 first | refine wpAny_bind (wpAny_typeNameOfWhole_keyiter hit.typeIs (wpAny_pure (wpAny_bind (wpAny_fieldsOf g1 g3 ?_)))) | refine wpAny_bind (wpAny_typeNameOf_keyiter hit.typeIs (wpAny_pure (wpAny_bind (wpAny_fieldsOf g1 g3 ?_))))
 simp only[hown,Bool.false_eq_true,if_false]
 show wpAny _ _ (if(Value.ref d==Value.none)=true then _ else _) _ _ s
 rw[if_neg (show ¬ ((Value.ref d==Value.none)=true) by exact Bool.false_ne_true)]
 refine wpAny_bind (wpAny_pure (wpAny_bind (wpAny_dictEntries h1 h3 ?_)))
 rw[if_neg (by simp only[bne_self_eq_false,Bool.false_eq_true,not_false_eq_true])]
 refine wpAny_bind (wpAny_pure (wpAny_bind (wpAny_dictEpoch h1 h3 ?_)))
 rw[if_neg (by simp only[bne_self_eq_false,Bool.false_eq_true,not_false_eq_true])]
 refine wpAny_pure ?_
 have hneg:¬ ((i:Int)<0):=by omega
 simp only[hneg,if_false,Int.toNat_natCast,Array.getElem?_eq_none hi]
 first | refine wpAny_bind (wpAny_bind (wpAny_typeNameOfWhole_keyiter hit.typeIs (wpAny_pure ?_))) | refine wpAny_bind (wpAny_bind (wpAny_typeNameOf_keyiter hit.typeIs (wpAny_pure ?_)))
 show wpAny _ _ (setField (.ref it) 0 .none >>= fun _=>_) _ _ s
 refine wpAny_bind (wpAny_setField g1 g3 (by simp) ?_)
 show wpAny _ _ (newExc (.type "StopIteration") [] >>= fun _=>_) _ _ _
 simp only[newExc,newTuple]
 refine wpAny_bind (wpAny_bind (wpAny_newObj_type ?_ (by size_fits)))
 refine wpAny_bind (m:=firstArgMember _ _) (wpAny_of_eq (a:=Value.none) (by first | rfl | (simp only[firstArgMember];rfl)) (wpAny_newObj_type ?_ (by size_fits)))
 simp only[raiseNew]
 refine wpAny_bind (wpAny_handled ?_)
 rw[show(A.in1).handled=none by exact hh]
 refine wpAny_throw ?_
 refine wpAny_bind (wpAny_isInstance (b:=true) (T:="StopIteration") ⟨_,Heap.get?_push_size _ rfl,rfl⟩ isSubtype_stop ?_)
 exact wpAny_pure (q _ (((Heap.SameBut.update ..).extBut.push _).push _))
end
def ItT (a:Addr)(o:Obj)(kvs:List (List Key×V))(bs:List Addr):It:=
 ⟨fun i H=>H a=some (.frz o (.dT kvs))/\i<bs.length,fun i H x H'=>H'=H/\∃ b,bs[i]? = some b/\x = .ref b,fun i H=>H a=some (.frz o (.dT kvs))/\bs.length<=i⟩
theorem a08 {es:Array DictEntry}{bs:List Addr}(hk:es.toList.map (·.key)=bs.map Value.ref){i:Nat}(hi:i<es.size):∃ b,bs[i]? = some b/\es[i].key = .ref b:=by
 have h1:(es.toList.map (·.key))[i]? = some es[i].key:=by rw[List.getElem?_map,Array.getElem?_toList,Array.getElem?_eq_getElem hi];rfl
 rw[hk,List.getElem?_map] at h1
 cases e:bs[i]? with
 | none=>rw[e] at h1;cases h1
 | some b=>rw[e] at h1;exact⟨b,rfl,(Option.some.inj h1).symm⟩
def T8 (H:Hp)(kvs:List (List Key×V))(bs:List Addr):Prop:=bs.length=kvs.length/\∀(i:Nat) kv,kvs[i]? = some kv->∃ b,bs[i]? = some b/\H b=some (.tup (kv.1.map kV))
theorem Tb {σ:St}{H:Hp}{Q:VK}(k:∀ p H',H p=none->Same H H'->H' p=some (.dT [])->Q (.ref p) H'):Yj σ H Q:=fun p hp=>k p _ hp (Same.upd hp) A9
theorem Ut {a b:Addr}{kvs:List (List Key×V)}{key:List Key}{v:V}{H:Hp}{R:Hp->Prop}(h:H a=some (.dT kvs))(hb:H b=some (.tup (key.map kV)))(hl:kvs.length<=1000000)(k:∀ H',ExtBut a H H'->H' a=some (.dT (Db kvs key v))->R H'):∃ c H4,V.ref a = .ref c/\DPut H c (.ref b) v H4/\R H4:=
 ⟨a,_,rfl,DPut.t h hb (by rw[sizeLine_eq];omega),k _ ExtBut.upd A9⟩
theorem Tw {K:PySem.W.Frag}{a b:Addr}{kvs:List (List Key×V)}{key:List Key}{v:V}{H:Hp}{Q:VK}(h:Rd H a (.dT kvs))(hb:H b=some (.tup (key.map kV)))(e:D3 kvs key=some v)(k:Q v H):P3 K (.ref a) (.ref b) H Q:=.inr ⟨a,v,rfl,.inr ⟨kvs,key,b,h,rfl,hb,e.symm⟩,k⟩
def Cy (ns:List Str)(q:Str->Bool):List Key:=(ns.filter fun x=>!q x).map Sum.inr
def ak7 (ns:List Str)(ct:List ((Str->Bool)×Nat)):List (List Key×V):=ct.map fun e=>(Cy ns e.1,V.int ((e.2:Nat):Int))
def al2 (ns:List Str)(ct:List ((Str->Bool)×Nat)):Prop:=((ak7 ns ct).map (·.1)).Nodup
theorem Lc {ns:List Str}{p q:Str->Bool}(h:Cy ns p=Cy ns q):ns.filter p=ns.filter q:=by
 unfold Cy at h
 have h1:(ns.filter fun x=>!p x)=ns.filter fun x=>!q x:=by
  have:=congrArg (List.map fun k:Key=>match k with | .inr z=>z | .inl _=>"") h
  rw[List.map_map,List.map_map] at this
  have e:((fun k:Key=>match k with | .inr z=>z | .inl _=>("":Str))∘Sum.inr)=id:=rfl
  rwa[e,List.map_id,List.map_id] at this
 apply List.filter_congr
 intro x hx
 have h2:(x∈ns.filter fun x=>!p x)↔x∈ns.filter fun x=>!q x:=by rw[h1]
 rw[List.mem_filter,List.mem_filter] at h2
 cases c:p x<;>cases d:q x<;>simp[c,d,hx] at h2 ⊢
theorem Fp (ns:List Str)(q:Str->Bool):(Cy ns q).map kV=(ns.filter fun x=>!q x).map V.str:=by
 unfold Cy
 rw[List.map_map]
 rfl
section
variable {κ:Type}[DecidableEq κ]
end
theorem Wj {ns:List Str}{ct:List ((Str->Bool)×Nat)}(h:al2 ns ct)(hf:ns.length<=10):ct.length<=1024:=by
 have hc:((ct.map fun e=>C0 ns e.1)).Nodup:=by
  unfold al2 ak7 at h
  rw[List.map_map] at h
  refine List.Pairwise.map _ ?_ (List.pairwise_map.mp h)
  intro a b hne e
  exact hne (show Cy ns a.1=Cy ns b.1 by
   unfold Cy
   congr 1
   apply List.filter_congr
   intro x hx
   rw[Iv e x hx])
 have:=Ej (ys:=List.range 1024) hc fun k hk=>by
  obtain⟨e,_,rfl⟩:=List.mem_map.mp hk
  have h2:=O4 e.1 ns
  have h3:(2:Nat) ^ ns.length<=2 ^ 10:=Nat.pow_le_pow_right (by decide) hf
  exact List.mem_range.mpr (by omega)
 rwa[List.length_map,List.length_range] at this
section
variable {α β:Type}[DecidableEq α][DecidableEq β]
end
def a81 (s z a:Nat):List (List Nat):=(List.range 10).map fun k=>K2 s (s+a)++M3 (7*k % 26)++K2 s (s+z-a-1)
def ad7 (s:Nat):List (List Nat):=(List.range 8).map (fun k=>K2 s (s+1+k))++[M3 (s+9),M3 (s+11)]
def ad5 (s:Nat):List (List Nat):=(List.range 10).map fun k=>K2 (s+2*k) (s+2*k+1+5*k % 8)
def ar5:List Str:=["ahead","names","a","ab","name","row","ask","last","first","aheadahe"]
theorem nd41:∀ s<26,(ad7 s).Nodup:=by decide +kernel
theorem nd42:∀ s<26,(ad5 s).Nodup:=by decide +kernel
theorem ak4:((List.range 10).map fun k=>M3 (7*k % 26)).Nodup:=by decide +kernel
theorem a57:Names ar5:=⟨by decide +kernel,by decide +kernel⟩
theorem nd40 (s z a:Nat):(a81 s z a).Nodup:=by
 refine Cz List.nodup_range fun k hk j hj e=>?_
 have e1:M3 (7*k % 26)=M3 (7*j % 26):=List.append_cancel_left (List.append_cancel_right e)
 exact Eu (f:=fun k=>M3 (7*k % 26)) ak4 k hk j hj e1
theorem a45 {s z a:Nat}(hs:s<26)(ha:a<z)(hz:z<=8):Names ((a81 s z a).map txt):=by
 refine⟨J9 (nd40 s z a),fun y hy=>?_⟩
 obtain⟨l,hl,rfl⟩:=List.mem_map.mp hy
 obtain⟨k,hk,rfl⟩:=List.mem_map.mp hl
 have hm:7*k % 26<26:=Nat.mod_lt _ (by decide)
 have e1:=Ij (a:=s) (b:=s+a) (by omega) (by omega)
 have e2:=La (i:=7*k % 26) (by omega)
 have e3:=Ij (a:=s) (b:=s+z-a-1) (by omega) (by omega)
 refine G9 (by simp only[List.length_append];omega) (by simp only[List.length_append];omega) fun c hc=>?_
 rcases List.mem_append.mp hc with hc | hc
 . rcases List.mem_append.mp hc with hc | hc
   . exact Fn c hc
   exact Hk c hc
 exact Fn c hc
theorem a68 {s:Nat}(hs:s<26):Names ((ad7 s).map txt):=by
 refine⟨J9 (nd41 s hs),fun z hz=>?_⟩
 obtain⟨l,hl,rfl⟩:=List.mem_map.mp hz
 rcases List.mem_append.mp hl with h | h
 . obtain⟨k,hk,rfl⟩:=List.mem_map.mp h
   have hk:=List.mem_range.mp hk
   have e:=Ij (a:=s) (b:=s+1+k) (by omega) (by omega)
   exact G9 (by omega) (by omega) Fn
 simp only[List.mem_cons,List.not_mem_nil,or_false] at h
 rcases h with rfl | rfl
 . have e:=La (i:=s+9) (by omega)
   exact G9 (by omega) (by omega) Hk
 have e:=La (i:=s+11) (by omega)
 exact G9 (by omega) (by omega) Hk
theorem a64 {s:Nat}(hs:s<26):Names ((ad5 s).map txt):=by
 refine⟨J9 (nd42 s hs),fun z hz=>?_⟩
 obtain⟨l,hl,rfl⟩:=List.mem_map.mp hz
 obtain⟨k,hk,rfl⟩:=List.mem_map.mp hl
 have hk:=List.mem_range.mp hk
 have hm:5*k % 8<8:=Nat.mod_lt _ (by decide)
 have e:=Ij (a:=s+2*k) (b:=s+2*k+1+5*k % 8) (by omega) (by omega)
 exact G9 (by omega) (by omega) Fn
theorem V7 {ns ls:List Str}{ps:List (Str×Str)}(h:Names ns)(hl:ns.length<=10)(p:ls.Perm ns)(u:Up ls ps)(hp:ps.length<=60):Half ns ps:=⟨h,hl,hp,ls,p,u⟩
theorem Hc {ns:List Str}{ys:List V}(h:ys.Perm (ns.map V.str)):∃ ls:List Str,ys=ls.map V.str/\ls.Perm ns:=by
 refine⟨ys.map fun v=>match v with | .str z=>z | _=>"",?_,?_⟩
 . rw[List.map_map]
   have:∀ v∈ys,(V.str∘fun v=>match v with | .str z=>z | _=>"") v=v:=fun v hv=>by
    obtain⟨z,_,rfl⟩:=List.mem_map.mp (h.mem_iff.mp hv)
    rfl
   rw[List.map_congr_left this]
   simp
 have:=h.map fun v=>match v with | .str z=>z | _=>("":Str)
 rw[List.map_map] at this
 have e:ns.map ((fun v=>match v with | .str z=>z | _=>("":Str))∘V.str)=ns:=by
  rw[show((fun v=>match v with | .str z=>z | _=>("":Str))∘V.str)=id from rfl,List.map_id]
 rw[e] at this
 exact this
theorem Pi:∀ {ns:List Str} {as:List Addr} {i:Nat} {z:Str} {q:Addr},ns.Nodup->as.length=ns.length->ns[i]? = some z->Db (Ie ns as) (Sum.inr z:Key) (.ref q)=Ie ns (as.set i q)
 | [],_,i,_,_,_,_,h=>by simp at h
 | n :: ns,[],i,_,_,_,hl,_=>by simp at hl
 | n :: ns,b :: as,0,z,q,hn,hl,h=>by
   have hz:n=z:=by simpa using h
   subst hz
   have:(Sum.inr n:Key)∉(Ie ns as).map (·.1):=by
    have:=Ip (as:=b :: as) hn
    exact(List.nodup_cons.mp this).1
   exact Ze (p:=(Sum.inr n,V.ref b)) this
 | n :: ns,b :: as,i+1,z,q,hn,hl,h=>by
   have hz:ns[i]? = some z:=by simpa using h
   have hne:¬ n=z:=fun e=>(List.nodup_cons.mp hn).1 (e ▸ List.mem_of_getElem? hz)
   have h1:¬ ((Sum.inr n:Key)=Sum.inr z):=fun e=>hne (Sum.inr.inj e)
   show Db ((Sum.inr n,V.ref b) :: Ie ns as) _ _=(Sum.inr n,V.ref b) :: Ie ns (as.set i q)
   rw[a60 (p:=((Sum.inr n:Key),V.ref b)) h1,Pi (List.nodup_cons.mp hn).2 (by simpa using hl) hz]
structure Ovr (H:Hp)(r:Addr)(ns:List Str)(as:List Addr)(ov:Str->List Str):Prop where
 len:as.length=ns.length
 top:H r=some (.dK (Ie ns as))
 row:∀(i:Nat) (z:Str) (a:Addr),ns[i]? = some z->as[i]? = some a->H a=some (.lst ((ov z).map V.str))
theorem Ovr.same {H H':Hp}{r:Addr}{ns:List Str}{as:List Addr}{ov:Str->List Str}(h:Ovr H r ns as ov)(e:Same H H'):Ovr H' r ns as ov:=⟨h.len,e _ _ h.top,fun i z a hz ha=>e _ _ (h.row i z a hz ha)⟩
theorem Ovr.at {H:Hp}{r:Addr}{ns:List Str}{as:List Addr}{ov:Str->List Str}(h:Ovr H r ns as ov){x:Str}(hx:x∈ns):∃(i:Nat) (a:Addr),ns[i]? = some x/\as[i]? = some a:=by
 obtain⟨i,hi,e⟩:=List.getElem_of_mem hx
 have hi':i<as.length:=by rw[h.len];exact hi
 exact⟨i,as[i],by rw[List.getElem?_eq_getElem hi,e],List.getElem?_eq_getElem hi'⟩
def ovP (ov:Str->List Str)(x:Str)(fr:List Str):Str->List Str:=fun z=>if z=x then ov z++fr else ov z
theorem Ovr.put {H H':Hp}{r q:Addr}{ns:List Str}{as:List Addr}{ov:Str->List Str}(hn:ns.Nodup)(h:Ovr H r ns as ov){x:Str}{i:Nat}(hx:ns[i]? = some x){fr:List Str}(e:ExtBut r H H')(hq:H q=some (.lst ((ov x++fr).map V.str)))(ht:H' r=some (.dK (Db (Ie ns as) (Sum.inr x:Key) (.ref q)))):Ovr H' r ns (as.set i q) (ovP ov x fr):=by
 have hi:i<ns.length:=(List.getElem?_eq_some_iff.mp hx).1
 refine⟨by rw[List.length_set,h.len],by rw[ht,Pi hn h.len hx],fun j z a hz ha=>?_⟩
 by_cases c:i=j
 . subst c
   rw[hx] at hz
   cases hz
   rw[List.getElem?_set_self (by rw[h.len];exact hi)] at ha
   cases ha
   have:q≠r:=ne_of hq h.top (by intro z;cases z)
   rw[e _ _ this hq]
   unfold ovP
   rw[if_pos rfl]
 rw[List.getElem?_set_ne c] at ha
 have hzx:z≠x:=fun e=>by
  subst e
  obtain⟨a1,a2⟩:=List.getElem?_eq_some_iff.mp hx
  obtain⟨b1,b2⟩:=List.getElem?_eq_some_iff.mp hz
  exact c ((List.getElem_inj hn).mp (a2.trans b2.symm))
 have h0:=h.row j z a hz ha
 have:a≠r:=ne_of h0 h.top (by intro z;cases z)
 rw[e _ _ this h0]
 unfold ovP
 rw[if_neg hzx]
structure OvOk (ns:List Str)(ps:List (Str×Str))(ov:Str->List Str):Prop where
 nd:∀ z∈ns,(ov z).Nodup
 way:∀ z∈ns,∀ y∈ov z,Way ps z y
def K7 (ns:List Str)(ov:Str->List Str):Nat:=(ns.map fun z=>(ov z).length).sum
theorem Zf {ns:List Str} {ov:Str->List Str} {x:Str} (hn:ns.Nodup) (hx:x∈ns) (fr:List Str):K7 ns (ovP ov x fr)=K7 ns ov+fr.length:=by
 unfold K7
 induction ns with
 | nil=>cases hx
 | cons n ns ih=>
   obtain⟨h1,h2⟩:=List.nodup_cons.mp hn
   rw[List.map_cons,List.map_cons,List.sum_cons,List.sum_cons]
   by_cases c:n=x
   . subst c
     have e1:(ovP ov n fr n).length=(ov n).length+fr.length:=by unfold ovP;rw[if_pos rfl,List.length_append]
     have e2:(ns.map fun z=>(ovP ov n fr z).length)=ns.map fun z=>(ov z).length:=by
      apply List.map_congr_left
      intro z hz
      unfold ovP
      rw[if_neg fun(e:z=n)=>h1 (e ▸ hz)]
     rw[e1,e2]
     omega
   have e1:(ovP ov x fr n).length=(ov n).length:=by unfold ovP;rw[if_neg c]
   rw[e1,ih h2 ((List.mem_cons.mp hx).resolve_left fun e=>c e.symm)]
   omega
theorem OvOk.len {ns:List Str}{ps:List (Str×Str)}{ov:Str->List Str}(h:OvOk ns ps ov)(hm:∀ p∈ps,p.1∈ns/\p.2∈ns){z:Str}(hz:z∈ns):(ov z).length<=ns.length:=
 Ej (h.nd z hz) fun y hy=>by
  obtain⟨p,hp,e⟩:=List.mem_map.mp (h.way z hz y hy).right
  exact e ▸ (hm p hp).2
theorem OvOk.tot {ns:List Str}{ps:List (Str×Str)}{ov:Str->List Str}(h:OvOk ns ps ov)(hm:∀ p∈ps,p.1∈ns/\p.2∈ns):K7 ns ov<=ns.length*ns.length:=by
 have:K7 ns ov<=(ns.map fun _=>ns.length).sum:=Uz fun z hz=>h.len hm hz
 have e:(ns.map fun _=>ns.length).sum=ns.length*ns.length:=Q8 fun _ _=>rfl
 omega
def R6 (ov:Str->List Str)(p:Str×Str):List Str:=(p.2 :: ov p.2).filter fun z=>!decide (z∈ov p.1)
theorem OvOk.put {ns:List Str}{ps:List (Str×Str)}{ov:Str->List Str}(h:OvOk ns ps ov)(irr:∀ x,¬ Way ps x x){p:Str×Str}(hp:p∈ps)(hm:p.1∈ns/\p.2∈ns):OvOk ns ps (ovP ov p.1 (R6 ov p)):=by
 have hnd:(p.2 :: ov p.2).Nodup:=List.nodup_cons.mpr ⟨fun hi=>irr _ (h.way _ hm.2 _ hi),h.nd _ hm.2⟩
 refine⟨fun z hz=>?_,fun z hz y hy=>?_⟩
 . unfold ovP
   by_cases c:z=p.1
   . rw[if_pos c,List.nodup_append]
     refine⟨h.nd z hz,hnd.filter _,fun a ha b hb e=>?_⟩
     subst e
     have:=(List.mem_filter.mp hb).2
     rw[c] at ha
     rw[decide_eq_true ha] at this
     cases this
   rw[if_neg c]
   exact h.nd z hz
 unfold ovP at hy
 by_cases c:z=p.1
 . rw[if_pos c] at hy
   subst c
   rcases List.mem_append.mp hy with hy | hy
   . exact h.way _ hz y hy
   rcases List.mem_cons.mp (List.mem_filter.mp hy).1 with e | e
   . exact e ▸ .one hp
   exact .cons hp (h.way _ hm.2 _ e)
 rw[if_neg c] at hy
 exact h.way z hz y hy
theorem ab2 {ps:List (Str×Str)}{ov:Str->List Str}(h:∀ p∈ps,p.2∈ov p.1/\∀ y∈ov p.2,y∈ov p.1){x y:Str}(g:Way ps x y):y∈ov x:=by
 induction g with
 | one e=>exact(h _ e).1
 | cons e _ ih=>exact(h _ e).2 _ ih
theorem Vj {ov:Str->List Str}{p:Str×Str}(h:R6 ov p=[]):p.2∈ov p.1/\∀ y∈ov p.2,y∈ov p.1:=by
 have key:∀ y∈p.2 :: ov p.2,y∈ov p.1:=fun y hy=>by
  by_cases c:y∈ov p.1
  . exact c
  have:y∈R6 ov p:=List.mem_filter.mpr ⟨hy,by rw[decide_eq_false c];rfl⟩
  rw[h] at this
  cases this
 exact⟨key _ (by simp),fun y hy=>key y (by simp[hy])⟩
theorem a39 (ov:Str->List Str)(x:Str):ovP ov x []=ov:=by
 funext z
 unfold ovP
 split
 . rw[List.append_nil]
 rfl
theorem Ovr.tab {K:PySem.W.Frag}{H:Hp}{r:Addr}{ns:List Str}{as:List Addr}{ps:List (Str×Str)}{ov:Str->List Str}(h:Ovr H r ns as ov)(o:OvOk ns ps ov)(c:∀ p∈ps,p.2∈ov p.1/\∀ y∈ov p.2,y∈ov p.1):TabL K H r ns as (Way ps):=
 ⟨h.len,h.top,fun i z a hz ha=>⟨ov z,h.row i z a hz ha,o.nd z (List.mem_of_getElem? hz),fun y=>⟨o.way z (List.mem_of_getElem? hz) y,ab2 c⟩⟩⟩
theorem Rv {α:Type}[DecidableEq α]{b:α->α->Bool}(irr:∀ x,b x x=false)(tr:∀ x y z,b x y=true->b y z=true->b x z=true):∀(n:Nat) (L:List α),L.length=n->L.Nodup->0<cnt b L
 | 0,L,hl,_=>by
   have:=List.length_eq_zero_iff.mp hl
   subst this
   exact Nat.zero_lt_one
 | n+1,L,hl,hn=>by
   have hne:L≠[]:=by intro e;rw[e] at hl;cases hl
   rw[Mr hn hne]
   cases hf:frF b L with
   | nil=>exact absurd hf (Po irr tr hne)
   | cons x t=>
     have hx:x∈frF b L:=by rw[hf];simp
     have:=Au hn (mem_frF.mp hx).1
     have:=Rv irr tr n (Ak L x) (by omega) (Bc hn x)
     rw[List.map_cons,List.sum_cons]
     omega
theorem Uu {Ls:List (List Str)}(h:∀ L∈Ls,L.length<=100/\∀ x∈L,M2 x=true)(hl:Ls.length<=1000):Fine (.list (Ls.map nmD)):=by
 have g:=Zd h hl
 refine⟨?_,?_,?_⟩
 . have:=g.plain
   unfold lsD at this
   simp only[Da] at this ⊢
   exact this
 . have:=g.deep
   unfold lsD at this
   simp only[PyData.depth] at this ⊢
   exact this
 have:=g.light
 unfold lsD at this
 simp only[PyData.weight] at this ⊢
 exact this
theorem Gs:∀ {l:List Str},l.Pairwise (fun a b=>ltCps b.cps.toList a.cps.toList=false)->sortedS l=true
 | [],_=>rfl
 | [x],_=>rfl
 | x :: y :: r,h=>by
   obtain⟨h1,h2⟩:=List.pairwise_cons.mp h
   have ih:=Gs h2
   show(!ltCps y.cps.toList x.cps.toList&&risingS y r)=true
   rw[h1 y (by simp)]
   exact ih
theorem Kn:∀ {l:List Str},sortedS l=true->l.Pairwise (fun a b=>ltCps b.cps.toList a.cps.toList=false)
 | [],_=>.nil
 | x :: r,h=>by
   refine List.pairwise_cons.mpr ⟨fun y hy=>?_,Kn (G2 h)⟩
   rw[ltCps_eq,decide_eq_false_iff_not]
   exact Ga x r h y hy
theorem Tl (ns:List Str):∃ ms:List Str,ms.Perm ns/\sortedS ms=true:=by
 refine⟨ns.mergeSort fun a b=>!ltCps b.cps.toList a.cps.toList,List.mergeSort_perm _ _,Gs ?_⟩
 have:=List.pairwise_mergeSort (le:=fun a b:Str=>!ltCps b.cps.toList a.cps.toList) (fun a b c h1 h2=>?_) (fun a b=>?_) ns
 . exact this.imp fun h=>by simpa using h
 . simp only[ltCps_eq,Bool.not_eq_true',decide_eq_false_iff_not] at h1 h2 ⊢
   exact List.not_lt.mpr (List.le_trans (List.not_lt.mp h1) (List.not_lt.mp h2))
 simp only[ltCps_eq,Bool.or_eq_true,Bool.not_eq_true',decide_eq_false_iff_not]
 rcases List.le_total a.cps.toList b.cps.toList with h | h
 . exact .inl (List.not_lt.mpr h)
 exact .inr (List.not_lt.mpr h)
theorem L1 {ms:List Str}(h:sortedS ms=true)(p:Str->Bool):sortedS (ms.filter p)=true:=Gs (List.Pairwise.sublist List.filter_sublist (Kn h))
theorem G0 {ns ms:List Str}(hp:ms.Perm ns){q:Str->Bool}:D5 ns (ms.filter fun x=>!q x)=ns.filter q:=by
 unfold D5
 apply List.filter_congr
 intro x hx
 cases c:q x with
 | true=>
   have:x∉ms.filter fun x=>!q x:=fun h=>by
    have:=(List.mem_filter.mp h).2
    rw[c] at this
    cases this
   rw[decide_eq_false this]
   rfl
 | false=>
   have:x∈ms.filter fun x=>!q x:=List.mem_filter.mpr ⟨hp.mem_iff.mpr hx,by rw[c];rfl⟩
   rw[decide_eq_true this]
   rfl
theorem Fx {ms out:List Str}(hs:sortedS ms=true)(hn:ms.Nodup){q:Str->Bool}{z:Str}(hz:z∈ms.filter q)(hp:out.Perm ((ms.filter fun x=>!q x)++[z]))(ho:sortedS out=true):out=ms.filter fun x=>!(q x && !decide (x=z)):=by
 refine Hb (hp.trans ?_) ho (L1 hs _)
 obtain⟨hz1,hz2⟩:=List.mem_filter.mp hz
 have hA:((ms.filter fun x=>!q x)++[z]).Nodup:=by
  rw[List.nodup_append]
  refine⟨hn.filter _,by simp,fun a ha b hb e=>?_⟩
  have:b=z:=by simpa using hb
  subst this
  subst e
  have:=(List.mem_filter.mp ha).2
  rw[hz2] at this
  cases this
 refine(List.perm_ext_iff_of_nodup hA (hn.filter _)).mpr fun x=>?_
 rw[List.mem_append,List.mem_filter,List.mem_filter,List.mem_singleton]
 constructor
 . rintro(⟨h1,h2⟩ | rfl)
   . exact⟨h1,by cases c:q x<;>simp[c] at h2 ⊢⟩
   exact⟨hz1,by simp⟩
 rintro⟨h1,h2⟩
 by_cases e:x=z
 . exact .inr e
 exact .inl ⟨h1,by cases c:q x<;>simp[c,e] at h2 ⊢⟩
theorem Half.ok4 {ns:List Str}{ps:List (Str×Str)}(h:Half ns ps):∀ z∈ns,PyData.strOk z=true:=fun z hz=>(Lo (h.names.2 z hz)).1
section
variable {α:Type}[DecidableEq α]
def Fo (b:α->α->Bool)(L:List α)(xs:List α):List (List α):=xs.flatMap fun x=>(ext b (L.length-1) (Ak L x)).map (x :: ·)
theorem P7 (b:α->α->Bool){L:List α}(hne:L≠[]):Fo b L (frF b L)=ext b L.length L:=by
 cases L with
 | nil=>exact absurd rfl hne
 | cons y ys=>rfl
theorem Sl (b:α->α->Bool)(L xs:List α)(x:α):Fo b L (xs++[x])=Fo b L xs++(ext b (L.length-1) (Ak L x)).map (x :: ·):=by
 unfold Fo
 rw[List.flatMap_append]
 simp
end
section
variable {X:Cx}
end
section
variable {X:Cx}{K:PySem.W.Frag}
end
section
variable {K:PySem.W.Frag}{σ:St}{H:Hp}
end
end L2
namespace L2
open PySem PySem.Spec PyProof.Rows
open PySem PySem.W PyProof.Rows
section
variable {n:Nat}{r:Nat->Nat}
end
section
variable {prog:Program}{w:World}{A:Around}{E:Value->Shared->Prop}{z:Shared}
end
section
variable {prog:Program}{w:World}{A:Around}{E:Value->Shared->Prop}{z:Shared}
end
section
variable {X:Cx}{K:PySem.W.Frag}
end
end L2
namespace L2
open PySem PySem.Spec PyProof.Rows
theorem U3 (xs ys:List Str):PyData.eqvAll (xs.map PyData.str) (ys.map PyData.str)=decide (xs=ys):=by
 induction xs generalizing ys with
 | nil=>cases ys<;>simp[PyData.eqvAll]
 | cons x xs ih=>
   cases ys with
   | nil=>simp[PyData.eqvAll]
   | cons y ys=>
     simp only[List.map_cons,PyData.eqvAll,ih,PyData.eqv]
     by_cases c:x=y
     . subst c;simp
     simp[c]
theorem Wc (xs ys:List Str):PyData.eqv (.list (xs.map PyData.str)) (.list (ys.map PyData.str))=decide (xs=ys):=by simp only[PyData.eqv,U3]
theorem Rj {α:Type}[DecidableEq α]{a b:List α}(ha:a.Nodup)(hb:b.Nodup)(h:∀ z,z∈a↔z∈b):a.Perm b:=(List.perm_ext_iff_of_nodup ha hb).mpr h
section
variable {κ:Type}[DecidableEq κ]{P:Program}{w:World}{kd:KeyKind P w κ}{A:Around}{E:Value->Shared->Prop}{z:Shared}
end
section
variable {X:Cx}{K:PySem.W.Frag}
end
theorem Jv:typeLookup (.type "zip") "__getattr__" = pure none:=by rw[typeLookup_type,builtinLookup_eq_fast];kernel_rfl
theorem Og:typeLookup (.type "zip") "keys" = pure none:=by rw[typeLookup_type,builtinLookup_eq_fast];kernel_rfl
theorem Hd:entryFor table "zip.__getattribute__" = some Builtin.«object.__getattribute__»:=
 (entryFor_alias (id':="object.__getattribute__") (by kernel_rfl) (by decide +kernel) (by decide +kernel) (by kernel_rfl))
theorem Ib (c:Addr)(fs:Array Value)(tk0:Tok) :
  Meets (Builtin.«object.__getattribute__» ⟨[.ref c,.str "keys" tk0],[]⟩) (fun A R s=>s.heap.get? c=some { cls:=.type "zip",dict:=none,data:=.fields fs,slots:=#[] }/\raisesAttr (.ref c) "keys" A R s):=
 Meets.of_wp fun prog w A R s both=>by
  obtain⟨hp,g,d,tk,os⟩:=s
  obtain⟨hx,hs⟩:=both
  have hT:(⟨hp,g,d,tk,os⟩:Shared).TypeIs (.ref c) "zip":=⟨_,hx,rfl⟩
  have miss:=Og
  unfold Builtin.«object.__getattribute__»
  repeat (any_goals (first | assumption | wp_step))
  exact(wpAny_raiseAttrError hs.1 hs.2 (attrMsg_fits (by decide +kernel) (by rw[sizeLine_eq];decide +kernel)))
section
variable {P:Program}{w:World}{A:Around}{E:Value->Shared->Prop}{z:Shared}
theorem Le {c:Addr}{fs:Array Value}{Q:Option Value->Shared->Prop}(hx:z.heap.get? c=some { cls:=.type "zip",dict:=none,data:=.fields fs,slots:=#[] })(calm:A.handled=none)
  (go:∀ g tk,(∀ b o,z.heap.get? b=some o->g.get? b=some o)->Q none { z with heap:=g,toks:=tk }):wpAny (model P w) A (getAttr? (.ref c) "keys") Q E z:=by
 obtain⟨hp,g,d,tk,os⟩:=z
 have hT:∀ tk',(⟨hp,g,d,tk',os⟩:Shared).TypeIs (.ref c) "zip":=fun _=>⟨_,hx,rfl⟩
 have f1:=sub_AttributeError
 have g3:=(F.slot_zip_getattribute).lookup
 have g4:=(F.slot_zip_getattribute).bind (.ref c)
 have g5:=Jv
 unfold getAttr? getAttrBy? getAttrBy
 repeat (any_goals (first | assumption | exact hT _ | ((with_reducible show wpAny _ _ (call (Value.builtin "zip.__getattribute__") _ _) _ _ _);refine(call_meets F.slot_zip_getattribute (hT _) Hd (F.args_zip_getattribute_2 _ _) (Ib c fs _) ⟨hx,calm,fun h' tk' e hx'=>?_⟩)) | wp_step))
 obtain⟨t',u',he⟩:=hx'.there
 show wpAny _ _ (getattributeRaised _ _ _ _ _ _ _) _ _ _
 unfold getattributeRaised
 repeat (any_goals (first | assumption | wp_step))
 exact go _ _ hx'.keeps
end
def Ew (h:Heap)(c TI TO:Addr)(f0:Value)(f1:Bool):Prop:=h.get? c=some { cls:=.type "zip",dict:=none,data:=.fields #[f0,.bool f1,.bool false,.ref TI,.ref TO],slots:=#[] }
section
variable {P:Program}{w:World}{A:Around}{E:Value->Shared->Prop}{z:Shared}
theorem Pr {c TI TO T:Addr}{f1:Bool}{o:Obj}{Q:Bool->Shared->Prop}(hc:Ew z.heap c TI TO (rawInt T) f1)(hT:z.heap.get? T=some o)
  (go:∀ g0,Ew g0 c TI TO (rawInt T) true->(∀ b ob,b≠c->z.heap.get? b=some ob->g0.get? b=some ob)->g0.objs.size=z.heap.objs.size->Q false { z with heap:=g0 }):wpAny (model P w) A (Builtin.SmallTypes.ownedTupleIsFree (.ref c)) Q E z:=by
 unfold Builtin.SmallTypes.ownedTupleIsFree
 refine(wpAny_bind (wpAny_field hc rfl (x:=rawInt T) rfl ?_))
 show wpAny _ _ (loadIfAlive T >>= _) _ _ _
 refine (wpAny_bind (PySem.W.kdx_alive hT ?_))
 rw[if_neg (show ¬ ((some o).isNone=true) from fun q=>by cases q)]
 refine(wpAny_bind (wpAny_field hc rfl (x:=.bool f1) rfl ?_))
 cases f1 with
 | true=>
   rw[if_neg (by decide)]
   exact wpAny_pure (go _ hc (fun _ _ _ q=>q) rfl)
 | false=>
   rw[if_pos (by decide)]
   exact wpAny_bind (wpAny_setField_rec hc (by simp) fun g0 hc0 sb0=>wpAny_pure (go g0 hc0 (fun b ob hb q=>sb0.extBut b ob hb q) sb0.1))
theorem Vl {c TI TO i1 i2 T:Addr}{fp1 fp2:List Addr}{n i:Nat}{P1 P2:Nat->Value->Prop}{S1 S2:Nat->Heap->Prop}{f1:Bool}{o:Obj}{Q:Value->Shared->Prop}
  (D1:Draws P w A i1 fp1 n P1 S1) (D2:Draws P w A i2 fp2 n P2 S2) (hi:i<n) (hc:Ew z.heap c TI TO (rawInt T) f1) (hTI:IsPair z.heap TI (.ref i1) (.ref i2)) (hT:z.heap.get? T=some o)
  (h1:S1 i z.heap) (h2:S2 i z.heap) (c1:c∉fp1) (c2:c∉fp2) (x1:i1∉fp2) (x2:i2∉fp1) (y1:i1≠c) (y2:i2≠c)
  (go:∀ g tk (u:Addr) x y,P1 i x->P2 i y->Ew g c TI TO (rawInt T) true->IsTup g u #[x,y]->S1 (i+1) g->S2 (i+1) g->z.heap.objs.size<=u->(∀ b ob,b≠c->b≠i1->b≠i2->z.heap.get? b=some ob->g.get? b=some ob)->Q (.ref u) { z with heap:=g,toks:=tk }) :
  wpAny (model P w) A (Builtin.«zip.__next__» ⟨[.ref c],[]⟩) (fun fin s'=>∃ v,fin = .done (.ret v)/\Q v s') E z:=by
 show wpAny _ _ (field (.ref c) 2 >>= _) _ _ _
 refine(wpAny_bind (wpAny_field hc rfl (x:=.bool false) rfl ?_))
 show wpAny _ _ (field (.ref c) 3 >>= _) _ _ _
 refine(wpAny_bind (wpAny_field hc rfl (x:=.ref TI) rfl ?_))
 refine(wpAny_bind (wpAny_seqItems hTI rfl ?_))
 show wpAny _ _ (Builtin.SmallTypes.ownedTupleIsFree (.ref c) >>= _) _ _ _
 refine(wpAny_bind (Pr hc hT fun g0 hc0 k0 z0=>?_))
 simp only[Bool.false_eq_true,if_false]
 rw[<- Array.forIn_toList]
 simp only[List.forIn_cons,List.forIn_nil]
 refine(wpAny_bind (wpAny_bind (wpAny_bind (wpAny_holding ?_))))
 show wpAny _ _ (Builtin.SmallTypes.nextOf (.ref i1) >>= _) _ _ _
 have h1':S1 i g0:=D1.frame i _ _ h1 fun b hb ob q=>k0 b ob (fun e=>c1 (e ▸ hb)) q
 have h2':S2 i g0:=D2.frame i _ _ h2 fun b hb ob q=>k0 b ob (fun e=>c2 (e ▸ hb)) q
 refine(wpAny_bind (D1.item i _ _ _ hi h1' fun x g1 tk1 hx hS1 sb1=>wpAny_pure ?_))
 refine(wpAny_pure ?_)
 refine(wpAny_bind (wpAny_bind (wpAny_holding ?_)))
 show wpAny _ _ (Builtin.SmallTypes.nextOf (.ref i2) >>= _) _ _ _
 have h2'':S2 i g1:=D2.frame i _ _ h2' fun b hb ob q=>sb1.extBut b ob (fun e=>x1 (e ▸ hb)) q
 refine(wpAny_bind (D2.item i _ _ _ hi h2'' fun y g2 tk2 hy hS2 sb2=>wpAny_pure (wpAny_pure (wpAny_pure ?_))))
 refine(wpAny_bind (wpAny_newTuple (wpAny_pure ⟨_,rfl,?_⟩) (hsz:=by show(2:Nat)<=_;rw[sizeLine_eq];decide)))
 have hS1':S1 (i+1) g2:=D1.frame _ _ _ hS1 fun b hb ob q=>sb2.extBut b ob (fun e=>x2 (e ▸ hb)) q
 have kp:∀ b ob,b≠c->b≠i1->b≠i2->z.heap.get? b=some ob->g2.get? b=some ob:=fun b ob b1 b2 b3 q=>sb2.extBut b ob b3 (sb1.extBut b ob b2 (k0 b ob b1 q))
 have hsz:g2.objs.size=z.heap.objs.size:=(sb2.1.trans sb1.1).trans z0
 refine go (g2.push { cls:=.type "tuple",data:=.seq #[x,y] }) tk2 g2.objs.size x y hx hy ?_ ⟨_,Heap.get?_push_size _ rfl,rfl,_,rfl⟩ ?_ ?_ (by rw[hsz];exact Nat.le_refl _) fun b ob b1 b2 b3 q=>Heap.get?_push_of_some _ (kp b ob b1 b2 b3 q)
 . exact Heap.get?_push_of_some _ (sb2.extBut _ _ (Ne.symm y2) (sb1.extBut _ _ (Ne.symm y1) hc0))
 . exact D1.frame _ _ _ hS1' fun b _ ob q=>Heap.get?_push_of_some _ q
 exact D2.frame _ _ _ hS2 fun b _ ob q=>Heap.get?_push_of_some _ q
theorem Ww {c TI TO i1 i2 T:Addr}{fp1:List Addr}{n:Nat}{P1:Nat->Value->Prop}{S1:Nat->Heap->Prop}{f1:Bool}{o:Obj}{Q:PySem.Fin->Shared->Prop}
  (D1:Draws P w A i1 fp1 n P1 S1) (hc:Ew z.heap c TI TO (rawInt T) f1) (hTI:IsPair z.heap TI (.ref i1) (.ref i2)) (hT:z.heap.get? T=some o) (h1:S1 n z.heap) (c1:c∉fp1)
  (stop:∀ g e,(∀ b ob,b≠c->b≠i1->z.heap.get? b=some ob->g.get? b=some ob)->(∃ ob,g.get? e=some ob/\ob.cls = .type "StopIteration")->E (.ref e) { z with heap:=g }) :
  wpAny (model P w) A (Builtin.«zip.__next__» ⟨[.ref c],[]⟩) Q E z:=by
 show wpAny _ _ (field (.ref c) 2 >>= _) _ _ _
 refine(wpAny_bind (wpAny_field hc rfl (x:=.bool false) rfl ?_))
 show wpAny _ _ (field (.ref c) 3 >>= _) _ _ _
 refine(wpAny_bind (wpAny_field hc rfl (x:=.ref TI) rfl ?_))
 refine(wpAny_bind (wpAny_seqItems hTI rfl ?_))
 show wpAny _ _ (Builtin.SmallTypes.ownedTupleIsFree (.ref c) >>= _) _ _ _
 refine(wpAny_bind (Pr hc hT fun g0 hc0 k0 z0=>?_))
 simp only[Bool.false_eq_true,if_false]
 rw[<- Array.forIn_toList]
 simp only[List.forIn_cons,List.forIn_nil]
 refine(wpAny_bind (wpAny_bind (wpAny_bind (wpAny_holding ?_))))
 show wpAny _ _ (Builtin.SmallTypes.nextOf (.ref i1) >>= _) _ _ _
 have h1':S1 n g0:=D1.frame n _ _ h1 fun b hb ob q=>k0 b ob (fun e=>c1 (e ▸ hb)) q
 exact wpAny_bind (D1.done _ _ _ h1' fun g e sb he=>stop g e (fun b ob b1 b2 q=>sb b ob b2 (k0 b ob b1 q)) he)
theorem Ss {c TI TO i1 i2:Addr}{fp1 fp2:List Addr}{n i:Nat}{P1 P2:Nat->Value->Prop}{S1 S2:Nat->Heap->Prop}{u0 v0:Value}{Q:Value->Shared->Prop}
  (D1:Draws P w A i1 fp1 n P1 S1) (D2:Draws P w A i2 fp2 n P2 S2) (hi:i<n) (hc:Ew z.heap c TI TO .none false) (hTI:IsPair z.heap TI (.ref i1) (.ref i2)) (hTO:IsPair z.heap TO u0 v0)
  (h1:S1 i z.heap) (h2:S2 i z.heap) (c1:c∉fp1) (c2:c∉fp2) (o1:TO∉fp1) (o2:TO∉fp2) (x1:i1∉fp2) (x2:i2∉fp1) (y1:i1≠c) (y2:i2≠c) (oc:TO≠c) (oi1:TO≠i1) (oi2:TO≠i2)
  (go:∀ g tk (u:Addr) x y,P1 i x->P2 i y->Ew g c TI TO (rawInt u) false->IsPair g TO x y->IsTup g u #[x,y]->S1 (i+1) g->S2 (i+1) g->z.heap.objs.size<=u->(∀ b ob,b≠c->b≠i1->b≠i2->b≠TO->z.heap.get? b=some ob->g.get? b=some ob)->Q (.ref u) { z with heap:=g,toks:=tk }) :
  wpAny (model P w) A (Builtin.«zip.__next__» ⟨[.ref c],[]⟩) (fun fin s'=>∃ v,fin = .done (.ret v)/\Q v s') E z:=by
 show wpAny _ _ (field (.ref c) 2 >>= _) _ _ _
 refine(wpAny_bind (wpAny_field hc rfl (x:=.bool false) rfl ?_))
 show wpAny _ _ (field (.ref c) 3 >>= _) _ _ _
 refine(wpAny_bind (wpAny_field hc rfl (x:=.ref TI) rfl ?_))
 refine(wpAny_bind (wpAny_seqItems hTI rfl ?_))
 show wpAny _ _ (Builtin.SmallTypes.ownedTupleIsFree (.ref c) >>= _) _ _ _
 refine(wpAny_bind ?_)
 unfold Builtin.SmallTypes.ownedTupleIsFree
 refine(wpAny_bind (wpAny_field hc rfl (x:=.none) rfl (wpAny_pure ?_)))
 simp only[if_true]
 refine(wpAny_bind (wpAny_rule ?_))
 refine(wpAny_bind (wpAny_field hc rfl (x:=.ref TO) rfl ?_))
 refine(wpAny_bind (wpAny_setField_rec hc (by simp) fun g0 hc0 sb0=>?_))
 refine(wpAny_bind ?_)
 simp only[List.zipIdx_cons,List.zipIdx_nil,List.forIn_cons,List.forIn_nil]
 have h1':S1 i g0:=D1.frame i _ _ h1 fun b hb ob q=>sb0.extBut b ob (fun e=>c1 (e ▸ hb)) q
 have h2':S2 i g0:=D2.frame i _ _ h2 fun b hb ob q=>sb0.extBut b ob (fun e=>c2 (e ▸ hb)) q
 have hTO0:IsPair g0 TO u0 v0:=sb0.extBut _ _ oc hTO
 refine(wpAny_bind (wpAny_bind (wpAny_onRaise ?_)))
 show wpAny _ _ (Builtin.SmallTypes.nextOf (.ref i1) >>= _) _ _ _
 refine(wpAny_bind (D1.item i _ _ _ hi h1' fun x g1 tk1 hx hS1 sb1=>wpAny_pure ?_))
 have hTO1:IsPair g1 TO u0 v0:=sb1.extBut _ _ oi1 hTO0
 refine(wpAny_bind (wpAny_seqItems hTO1 rfl ?_))
 refine(wpAny_bind (wpAny_updateSeq_pair hTO1 fun g2 hTO2 sb2=>?_))
 refine(wpAny_bind (wpAny_letGo (wpAny_pure ?_)))
 have h2'':S2 i g2:=D2.frame i _ _ h2' fun b hb ob q=>sb2.extBut b ob (fun e=>o2 (e ▸ hb)) (sb1.extBut b ob (fun e=>x1 (e ▸ hb)) q)
 have hS1':S1 (i+1) g2:=D1.frame _ _ _ hS1 fun b hb ob q=>sb2.extBut b ob (fun e=>o1 (e ▸ hb)) q
 refine(wpAny_bind (wpAny_bind (wpAny_onRaise ?_)))
 show wpAny _ _ (Builtin.SmallTypes.nextOf (.ref i2) >>= _) _ _ _
 refine(wpAny_bind (D2.item i _ _ _ hi h2'' fun y g3 tk3 hy hS2 sb3=>wpAny_pure ?_))
 have hTO3:IsPair g3 TO x v0:=sb3.extBut _ _ oi2 hTO2
 refine(wpAny_bind (wpAny_seqItems hTO3 rfl ?_))
 refine(wpAny_bind (wpAny_updateSeq_pair hTO3 fun g4 hTO4 sb4=>?_))
 refine(wpAny_bind (wpAny_letGo (wpAny_pure (wpAny_pure ?_))))
 have hTO4':IsPair g4 TO x y:=hTO4
 refine(wpAny_bind (wpAny_seqItems hTO4' rfl ?_))
 refine(wpAny_bind (wpAny_newTuple ?_))
 have hsz:g4.objs.size=z.heap.objs.size:=by rw[sb4.1,sb3.1,sb2.1,sb1.1,sb0.1]
 have hc4:Ew g4 c TI TO .ellipsis false:=sb4.extBut _ _ (Ne.symm oc) (sb3.extBut _ _ (Ne.symm y2) (sb2.extBut _ _ (Ne.symm oc) (sb1.extBut _ _ (Ne.symm y1) hc0)))
 have hlt:c<g4.objs.size:=Heap.lt_size hc4
 show wpAny _ _ (Builtin.SmallTypes.ownedTupleHandOut (.ref c) (.ref g4.objs.size) >>= _) _ _ _
 refine(wpAny_bind ?_)
 unfold Builtin.SmallTypes.ownedTupleHandOut
 have hc5:Ew (g4.push { cls:=.type "tuple",data:=.seq #[x,y] }) c TI TO .ellipsis false:=Heap.get?_push_of_some _ hc4
 refine(wpAny_bind (wpAny_setField_rec hc5 (by simp) fun g6 hc6 sb6=>?_))
 refine(wpAny_setField_rec hc6 (by simp) fun g7 hc7 sb7=>?_)
 have up:∀ b ob,b≠c->g4.get? b=some ob->g7.get? b=some ob:=fun b ob b1 q=>sb7.extBut b ob b1 (sb6.extBut b ob b1 (Heap.get?_push_of_some _ q))
 refine(wpAny_pure ⟨_,rfl,?_⟩)
 have hS2':S2 (i+1) g4:=D2.frame _ _ _ hS2 fun b hb ob q=>sb4.extBut b ob (fun e=>o2 (e ▸ hb)) q
 have hS1'':S1 (i+1) g4:=D1.frame _ _ _ hS1' fun b hb ob q=>sb4.extBut b ob (fun e=>o1 (e ▸ hb)) (sb3.extBut b ob (fun e=>x2 (e ▸ hb)) q)
 refine go g7 tk3 g4.objs.size x y hx hy hc7 (up _ _ oc hTO4') ⟨_,sb7.extBut _ _ (Nat.ne_of_gt hlt) (sb6.extBut _ _ (Nat.ne_of_gt hlt) (Heap.get?_push_size _ rfl)),rfl,_,rfl⟩ ?_ ?_ (by rw[hsz];exact Nat.le_refl _) ?_
 . exact D1.frame _ _ _ hS1'' fun b hb ob q=>up b ob (fun e=>c1 (e ▸ hb)) q
 . exact D2.frame _ _ _ hS2' fun b hb ob q=>up b ob (fun e=>c2 (e ▸ hb)) q
 exact fun b ob b1 b2 b3 b4 q=>up b ob b1 (sb4.extBut b ob b4 (sb3.extBut b ob b3 (sb2.extBut b ob b4 (sb1.extBut b ob b2 (sb0.extBut b ob b1 q)))))
theorem Wr {c TI TO i1 i2:Addr}{fp1:List Addr}{n:Nat}{P1:Nat->Value->Prop}{S1:Nat->Heap->Prop}{Q:PySem.Fin->Shared->Prop}
  (D1:Draws P w A i1 fp1 n P1 S1) (hc:Ew z.heap c TI TO .none false) (hTI:IsPair z.heap TI (.ref i1) (.ref i2)) (h1:S1 n z.heap) (c1:c∉fp1) (y1:i1≠c)
  (stop:∀ g e,(∀ b ob,b≠c->b≠i1->z.heap.get? b=some ob->g.get? b=some ob)->(∃ ob,g.get? e=some ob/\ob.cls = .type "StopIteration")->E (.ref e) { z with heap:=g }) :
  wpAny (model P w) A (Builtin.«zip.__next__» ⟨[.ref c],[]⟩) Q E z:=by
 show wpAny _ _ (field (.ref c) 2 >>= _) _ _ _
 refine(wpAny_bind (wpAny_field hc rfl (x:=.bool false) rfl ?_))
 show wpAny _ _ (field (.ref c) 3 >>= _) _ _ _
 refine(wpAny_bind (wpAny_field hc rfl (x:=.ref TI) rfl ?_))
 refine(wpAny_bind (wpAny_seqItems hTI rfl ?_))
 show wpAny _ _ (Builtin.SmallTypes.ownedTupleIsFree (.ref c) >>= _) _ _ _
 refine(wpAny_bind ?_)
 unfold Builtin.SmallTypes.ownedTupleIsFree
 refine(wpAny_bind (wpAny_field hc rfl (x:=.none) rfl (wpAny_pure ?_)))
 simp only[if_true]
 refine(wpAny_bind (wpAny_rule ?_))
 refine(wpAny_bind (wpAny_field hc rfl (x:=.ref TO) rfl ?_))
 refine(wpAny_bind (wpAny_setField_rec hc (by simp) fun g0 hc0 sb0=>?_))
 refine(wpAny_bind ?_)
 simp only[List.zipIdx_cons,List.zipIdx_nil,List.forIn_cons,List.forIn_nil]
 have h1':S1 n g0:=D1.frame n _ _ h1 fun b hb ob q=>sb0.extBut b ob (fun e=>c1 (e ▸ hb)) q
 refine(wpAny_bind (wpAny_bind (wpAny_onRaise ?_)))
 show wpAny _ _ (Builtin.SmallTypes.nextOf (.ref i1) >>= _) _ _ _
 refine(wpAny_bind (D1.done _ _ _ h1' fun g1 e sb1 he=>?_))
 obtain⟨oe,hoe,hce⟩:=he
 have hc1:Ew g1 c TI TO .ellipsis false:=sb1 _ _ (Ne.symm y1) hc0
 have hez:e≠c:=fun q=>by subst q;rw[show g1.get? _=_ from hc1] at hoe;cases hoe;simp at hce
 refine(wpAny_setField_rec hc1 (by simp) fun g2 _ sb2=>stop g2 e (fun b ob b1 b2 q=>sb2.extBut b ob b1 (sb1 b ob b2 (sb0.extBut b ob b1 q))) ⟨oe,sb2.extBut _ _ hez hoe,hce⟩)
end
structure K9 (c TO i1 i2 D:Addr)(fp1 fp2:List Addr):Prop where
 c1:c∉fp1
 c2:c∉fp2
 o1:TO∉fp1
 o2:TO∉fp2
 x1:i1∉fp2
 x2:i2∉fp1
 y1:i1≠c
 y2:i2≠c
 oc:TO≠c
 oi1:TO≠i1
 oi2:TO≠i2
 d1:D∉fp1
 d2:D∉fp2
 dc:D≠c
 di1:D≠i1
 di2:D≠i2
 dTO:D≠TO
def Si (c TI TO i1 i2 D:Addr)(S1 S2:Nat->Heap->Prop)(i:Nat)(h:Heap):Prop:=
 IsPair h TI (.ref i1) (.ref i2)/\(∃ u v,IsPair h TO u v)/\S1 i h/\S2 i h/\TI≠c/\TI≠TO/\TI≠i1/\TI≠i2/\TI≠D /\
  (Ew h c TI TO .none false\/∃ T f o,Ew h c TI TO (rawInt (T:Addr)) f/\h.get? T=some o/\T≠c/\T≠i1/\T≠i2/\T≠D/\T≠TO)
section
variable {P:Program}{w:World}{A:Around}{E:Value->Shared->Prop}{z:Shared}{c TI TO i1 i2 D:Addr}{fp1 fp2:List Addr}{n:Nat}{P1 P2:Nat->Value->Prop}{S1 S2:Nat->Heap->Prop}
theorem Pt (h:Si c TI TO i1 i2 D S1 S2 n z.heap):z.TypeIs (.ref c) "zip":=by
 obtain⟨_,_,_,_,_,_,_,_,_,h | ⟨T,f,o,h,_⟩⟩:=h
 . exact⟨_,h,rfl⟩
 exact⟨_,h,rfl⟩
theorem Vz {i:Nat}{Q:Option Value->Shared->Prop}(O:K9 c TO i1 i2 D fp1 fp2)(D1:Draws P w A.in1 i1 fp1 n P1 S1)(D2:Draws P w A.in1 i2 fp2 n P2 S2)(hi:i<n)(hD:∃ o,z.heap.get? D=some o)(hs:Si c TI TO i1 i2 D S1 S2 i z.heap)
  (go:∀ g tk (u:Addr) x y,P1 i x->P2 i y->Si c TI TO i1 i2 D S1 S2 (i+1) g->IsTup g u #[x,y]->z.heap.objs.size<=u->(∀ b ob,b≠c->b≠i1->b≠i2->b≠TO->z.heap.get? b=some ob->g.get? b=some ob)->Q (some (.ref u)) { z with heap:=g,toks:=tk }) :
  wpAny (model P w) A (pyNext (.ref c)) Q E z:=by
 have hT:=Pt hs
 obtain⟨hTI,⟨u0,v0,hTO⟩,h1,h2,t1,t2,t3,t4,t5,hz⟩:=hs
 have lt1:∀ {b ob} {u:Addr},z.heap.get? b=some ob->z.heap.objs.size<=u->u≠b:=fun q hu e=>by subst e;exact absurd (Heap.lt_size q) (Nat.not_lt.mpr hu)
 obtain⟨oi1,hoi1⟩:=D1.live _ _ h1
 obtain⟨oi2,hoi2⟩:=D2.live _ _ h2
 obtain⟨od,hod⟩:=hD
 unfold pyNext
 rcases hz with hc | ⟨T,f,o,hc,hTT,a1,a2,a3,a4,a5⟩
 . refine(wpAny_bind (wpAny_attempt (wpAny_callSpecial?_slot (name:=Str.ofString "__next__") hT F.slot_zip_next (wpAny_call_entry F.slot_zip_next hT F.entry_zip_next
    (Ss D1 D2 hi hc hTI hTO h1 h2 O.c1 O.c2 O.o1 O.o2 O.x1 O.x2 O.y1 O.y2 O.oc O.oi1 O.oi2 fun g tk u x y px py gz gTO gu g1 g2 hu kp=>?_) (F.args_zip_next_1 _)))))
   obtain⟨ou,hou,ru⟩:=id gu
   exact(wpAny_pure (go g tk u x y px py ⟨kp _ _ t1 t3 t4 t2 hTI,⟨_,_,gTO⟩,g1,g2,t1,t2,t3,t4,t5,.inr ⟨u,_,ou,gz,hou,lt1 hc hu,lt1 hoi1 hu,lt1 hoi2 hu,lt1 hod hu,lt1 hTO hu⟩⟩ gu hu kp))
 refine(wpAny_bind (wpAny_attempt (wpAny_callSpecial?_slot (name:=Str.ofString "__next__") hT F.slot_zip_next (wpAny_call_entry F.slot_zip_next hT F.entry_zip_next
  (Vl D1 D2 hi hc hTI hTT h1 h2 O.c1 O.c2 O.x1 O.x2 O.y1 O.y2 fun g tk u x y px py gz gu g1 g2 hu kp=>?_) (F.args_zip_next_1 _)))))
 exact(wpAny_pure (go g tk u x y px py ⟨kp _ _ t1 t3 t4 hTI,⟨_,_,kp _ _ O.oc O.oi1 O.oi2 hTO⟩,g1,g2,t1,t2,t3,t4,t5,.inr ⟨T,_,o,gz,kp _ _ a1 a2 a3 hTT,a1,a2,a3,a4,a5⟩⟩ gu hu fun b ob b1 b2 b3 _ q=>kp b ob b1 b2 b3 q))
theorem a54 {Q:Option Value->Shared->Prop}(O:K9 c TO i1 i2 D fp1 fp2)(D1:Draws P w A.in1 i1 fp1 n P1 S1)(hs:Si c TI TO i1 i2 D S1 S2 n z.heap)
  (go:∀ g,(∀ b ob,b≠c->b≠i1->z.heap.get? b=some ob->g.get? b=some ob)->Q none { z with heap:=g }) :
  wpAny (model P w) A (pyNext (.ref c)) Q E z:=by
 have hT:=Pt hs
 obtain⟨hTI,⟨u0,v0,hTO⟩,h1,h2,t1,t2,t3,t4,t5,hz⟩:=hs
 unfold pyNext
 rcases hz with hc | ⟨T,f,o,hc,hTT,a1,a2,a3,a4,a5⟩
 . refine(wpAny_bind (wpAny_attempt (wpAny_callSpecial?_slot (name:=Str.ofString "__next__") hT F.slot_zip_next (wpAny_call_entry F.slot_zip_next hT F.entry_zip_next
    (Wr D1 hc hTI h1 O.c1 O.y1 fun g e kp he=>?_) (F.args_zip_next_1 _)))))
   obtain⟨ob,hob,hcl⟩:=he
   exact(wpAny_bind (wpAny_isInstance (T:="StopIteration") (b:=true) ⟨ob,hob,hcl⟩ isSubtype_stop (wpAny_pure (go g kp))))
 refine(wpAny_bind (wpAny_attempt (wpAny_callSpecial?_slot (name:=Str.ofString "__next__") hT F.slot_zip_next (wpAny_call_entry F.slot_zip_next hT F.entry_zip_next
  (Ww D1 hc hTI hTT h1 O.c1 fun g e kp he=>?_) (F.args_zip_next_1 _)))))
 obtain⟨ob,hob,hcl⟩:=he
 exact(wpAny_bind (wpAny_isInstance (T:="StopIteration") (b:=true) ⟨ob,hob,hcl⟩ isSubtype_stop (wpAny_pure (go g kp))))
end
section
variable {P:Program}{w:World}{κ:Type}[DecidableEq κ]{kd:KeyKind P w κ}{A:Around}{E:Value->Shared->Prop}{c TI TO i1 i2 D:Addr}{fp1 fp2:List Addr}{n:Nat}{P1 P2:Nat->Value->Prop}{S1 S2:Nat->Heap->Prop}
theorem Wg (O:K9 c TO i1 i2 D fp1 fp2)(D1:Draws P w A.in1.in1 i1 fp1 n P1 S1)(D2:Draws P w A.in1.in1 i2 fp2 n P2 S2)(al:List (κ×Value))(hl:al.length=n)(hz:n<=1000000)
  (ha:∀(i:Nat) (kv:κ×Value),al[i]? = some kv->∀ x y,P1 i x->P2 i y->kd.is kv.1 x=true/\y=kv.2) :
  ∀(j i:Nat) (s:Shared) (R:Result->Shared->Prop),n-i=j->i<=n->Si c TI TO i1 i2 D S1 S2 i s.heap->s.heap.DictOf kd D (merged [] (al.take i)) ->
   (∀ g tk,g.DictOf kd D (merged [] al)->(∀ b o,b≠D->b≠c->b≠i1->b≠i2->b≠TO->s.heap.get? b=some o->g.get? b=some o)->R (.ok (.ret .none)) { s with heap:=g,toks:=tk }) ->
   codeAny (model P w) A (.builtin "dict.update.loop" ⟨[.ref D,.ref c,.int i 0,.none],[]⟩) R s:=by
 intro j
 induction j with
 | zero=>
   intro i s R hj hi hS hD go
   have hin:i=n:=by omega
   subst hin
   refine(codeAny_builtin Ep ?_)
   rw[Around.under_plainId Bw _]
   show wpAny _ A.in1 (pyNext (.ref c) >>= _) _ _ s
   refine(wpAny_bind (a54 O D1 hS fun g kp=>?_))
   show wpAny _ A.in1 (Builtin.Dict.addKeywords D [] >>= _) _ _ _
   refine(wpAny_bind (wpAny_pure (wpAny_pure (go g s.toks ?_ fun b o h1 h2 h3 h4 h5 q=>kp b o h2 h3 q))))
   rw[<- hl,List.take_length] at hD
   obtain⟨o,es,ep,ho,r⟩:=hD
   exact⟨o,es,ep,kp D o O.dc O.di1 ho,r⟩
 | succ j ih=>
   intro i s R hj hi hS hD go
   have hlt:i<n:=by omega
   obtain⟨kv,hkv⟩:∃ kv,al[i]? = some kv:=⟨al[i]'(by omega),List.getElem?_eq_getElem _⟩
   refine(codeAny_builtin Ep ?_)
   rw[Around.under_plainId Bw _]
   show wpAny _ A.in1 (pyNext (.ref c) >>= _) _ _ s
   obtain⟨o,es,ep,ho,r⟩:=id hD
   refine(wpAny_bind (Vz O D1 D2 hlt ⟨o,ho⟩ hS fun g tk u x y px py gS gu hu kp=>?_))
   obtain⟨hk,rfl⟩:=ha i kv hkv x y px py
   have hD':g.DictOf kd D (merged [] (al.take i)):=⟨o,es,ep,kp D o O.dc O.di1 O.di2 O.dTO ho,r⟩
   show wpAny _ A.in1 (holding [Value.ref u] _ >>= _) _ _ _
   refine(wpAny_bind (wpAny_holding ?_))
   refine(wpAny_bind (wpAny_tryCatch (Ku gu ?_)))
   show wpAny _ A.in1 (holding [x,kv.2] (dictSet D x kv.2)) _ _ _
   refine(wpAny_holding (wpAny_dictSet_pairs hk hD' (fun g' hD'' sb=>?_) ?_))
   . refine(wpAny_pure ⟨plainId_quiet Bw _,?_⟩)
     have hkeep:∀ b ob,b≠D->b≠c->b≠i1->b≠i2->b≠TO->s.heap.get? b=some ob->g'.get? b=some ob:=fun b ob h1 h2 h3 h4 h5 q=>(sb.2 b h1).trans (kp b ob h2 h3 h4 h5 q)
     refine ih (i+1) _ R (by omega) hlt ?_ ?_ fun g3 tk3 hD3 hk3=>go g3 tk3 hD3 fun b ob h1 h2 h3 h4 h5 q=>hk3 b ob h1 h2 h3 h4 h5 (hkeep b ob h1 h2 h3 h4 h5 q)
     . obtain⟨q1,⟨p,q,q2⟩,q3,q4,t1,t2,t3,t4,t5,q5⟩:=gS
       have tr:∀ b ob,b≠D->g.get? b=some ob->g'.get? b=some ob:=fun b ob h1 q=>(sb.2 b h1).trans q
       refine⟨tr _ _ t5 q1,⟨p,q,tr _ _ (Ne.symm O.dTO) q2⟩,D1.frame _ _ _ q3 fun b hb ob q=>tr b ob (fun e=>O.d1 (e ▸ hb)) q,D2.frame _ _ _ q4 fun b hb ob q=>tr b ob (fun e=>O.d2 (e ▸ hb)) q,t1,t2,t3,t4,t5,?_⟩
       rcases q5 with q5 | ⟨T,f,ob,q5,q6,a1,a2,a3,a4,a5⟩
       . exact .inl (tr _ _ (Ne.symm O.dc) q5)
       exact .inr ⟨T,f,ob,tr _ _ (Ne.symm O.dc) q5,tr _ _ a4 q6,a1,a2,a3,a4,a5⟩
     have e:merged [] (al.take (i+1))=stored (merged [] (al.take i)) kv.1 kv.2:=by
      rw[List.take_add_one,hkv]
      unfold merged
      rw[List.foldl_append]
      rfl
     rw[e]
     exact hD''
   refine Nat.le_trans (merged_length_le _ _) (A8 ?_)
   rw[List.length_take]
   simp
   omega
theorem Ot {z:Shared}{Q:Value->Shared->Prop}(calm:A.handled=none)(O:K9 c TO i1 i2 z.heap.objs.size fp1 fp2)(D1:Draws P w A.in1.in1.in1 i1 fp1 n P1 S1)(D2:Draws P w A.in1.in1.in1 i2 fp2 n P2 S2)
  (al:List (κ×Value)) (hl:al.length=n) (hz:n<=1000000) (ha:∀(i:Nat) (kv:κ×Value),al[i]? = some kv->∀ x y,P1 i x->P2 i y->kd.is kv.1 x=true/\y=kv.2)
  (hc:Ew z.heap c TI TO .none false) (hTI:IsPair z.heap TI (.ref i1) (.ref i2)) (hTO:IsPair z.heap TO .none .none) (h1:S1 0 z.heap) (h2:S2 0 z.heap) (t1:TI≠c) (t2:TI≠TO) (t3:TI≠i1) (t4:TI≠i2)
  (go:∀ g tk,g.DictOf kd z.heap.objs.size (merged [] al)->(∀ b o,b≠c->b≠i1->b≠i2->b≠TO->z.heap.get? b=some o->g.get? b=some o)->Q (.ref z.heap.objs.size) { z with heap:=g,toks:=tk }) :
  wpAny (model P w) A (call (.type "dict") [.ref c]) Q E z:=by
 refine callType_codes (Q₁:=fun new s₁=>new = .ref z.heap.objs.size/\s₁={ z with heap:=z.heap.push { cls:=.type "dict",data:=.dict #[] } }) F.kt_called_dict (F.kt_typeCall_dict_1 _) F.entry_dict_init (kt_code_dict_new _ ⟨rfl,rfl⟩) ?_
 rintro new s₁ ⟨rfl,rfl⟩
 have hnew:(z.heap.push { cls:=.type "dict",data:=.dict #[] }).DictOf kd z.heap.objs.size []:=Heap.DictOf.new z.heap
 have hc':Ew (z.heap.push { cls:=.type "dict",data:=.dict #[] }) c TI TO .none false:=Heap.get?_push_of_some _ hc
 refine⟨hnew.typeIs,F.args_dict_init_2 _ _,?_⟩
 unfold Builtin.«dict.__init__»
 refine(wpAny_bind ?_)
 unfold Builtin.Dict.selfAndRest
 refine(wpAny_bind (wpAny_notOrdered_dict hnew.typeIs ?_))
 show wpAny _ _ (pure (z.heap.objs.size,[Value.ref c])) _ _ _
 refine(wpAny_pure ?_)
 show wpAny _ _ (Builtin.Dict.updateFrom "dict.__init__" z.heap.objs.size (.ref c) [] .none) _ _ _
 unfold Builtin.Dict.updateFrom
 refine(wpAny_bind (wpAny_typeOf (T:="zip") ⟨_,hc',rfl⟩ ?_))
 rw[if_pos (by decide)]
 refine(wpAny_bind (Le hc' (by simpa using calm) fun g1 tk1 hk1=>?_))
 rw[if_pos (show(none:Option Value).isNone=true from rfl)]
 have kp:∀ b o,z.heap.get? b=some o->g1.get? b=some o:=fun b o q=>hk1 _ _ (Heap.get?_push_of_some _ q)
 have hD1:g1.DictOf kd z.heap.objs.size []:=by
  obtain⟨o,es,ep,ho,r⟩:=hnew
  exact⟨o,es,ep,hk1 _ _ ho,r⟩
 refine(wpAny_bind (wpAny_rule ?_))
 refine(wpAny_bind (wpAny_pyIter_zip (TI:=TI) (TO:=TO) (f0:=.none) (kp _ _ hc) ?_))
 refine(wpAny_pure ⟨plainId_quiet Bw _,?_⟩)
 refine Wg (kd:=kd) (A:=A.in1) O D1 D2 al hl hz ha n 0 _ _ (Nat.sub_zero _) (Nat.zero_le _) ⟨kp _ _ hTI,⟨_,_,kp _ _ hTO⟩,D1.frame _ _ _ h1 fun b _ o q=>kp b o q,D2.frame _ _ _ h2 fun b _ o q=>kp b o q,t1,t2,t3,t4,Nat.ne_of_lt (Heap.lt_size hTI),.inl (kp _ _ hc)⟩ hD1 fun g tk hD hk=>⟨rfl,go g tk hD fun b o b1 b2 b3 b4 q=>hk b o (Nat.ne_of_lt (Heap.lt_size q)) b1 b2 b3 b4 (kp b o q)⟩
end
abbrev liO (l:Addr):Obj:={ cls:=.type "list_iterator",data:=.fields #[.ref l,.int 0 0] }
abbrev zp1 (h:Heap)(p q:Obj):Heap:=(h.push p).push q
abbrev zp2 (h:Heap)(p q:Obj):Heap:=(zp1 h p q).push { cls:=.type "tuple",data:=.seq #[.ref h.objs.size,.ref (h.push p).objs.size] }
abbrev zp3 (h:Heap)(p q:Obj):Heap:=(zp2 h p q).push { cls:=.type "tuple",data:=.seq #[.none,.none] }
abbrev zp4 (h:Heap)(p q:Obj):Heap:=(zp3 h p q).push { cls:=.type "zip",data:=.fields #[.none,.bool false,.bool false,.ref (zp1 h p q).objs.size,.ref (zp2 h p q).objs.size] }
section
variable {P:Program}{w:World}{A:Around}{E:Value->Shared->Prop}{z:Shared}
theorem Vt {h:Heap}{p q:Obj}{Q:Value->Shared->Prop}{s:Shared}(hs:s.heap=h)
  (go:∀ g,Ew g (h.objs.size+4) (h.objs.size+2) (h.objs.size+3) .none false->IsPair g (h.objs.size+2) (.ref h.objs.size) (.ref (h.objs.size+1))->IsPair g (h.objs.size+3) .none .none ->
   g.get? h.objs.size=some p->g.get? (h.objs.size+1)=some q->g.objs.size=h.objs.size+5->(∀ b o,h.get? b=some o->g.get? b=some o)->Q (.ref (h.objs.size+4)) { s with heap:=g }) (hp:p.isFreed=false) (hq:q.isFreed=false) :
  Q (.ref (zp3 h p q).objs.size) { s with heap:=zp4 h p q }:=by
 have z1:(h.push p).objs.size=h.objs.size+1:=Heap.size_push ..
 have z2:(zp1 h p q).objs.size=h.objs.size+2:=by rw[Heap.size_push,z1]
 have z3:(zp2 h p q).objs.size=h.objs.size+3:=by rw[Heap.size_push,z2]
 have z4:(zp3 h p q).objs.size=h.objs.size+4:=by rw[Heap.size_push,z3]
 have z5:(zp4 h p q).objs.size=h.objs.size+5:=by rw[Heap.size_push,z4]
 have g5:(zp4 h p q).get? (zp3 h p q).objs.size=some _:=Heap.get?_push_size _ rfl
 have g4:(zp4 h p q).get? (zp2 h p q).objs.size=some _:=Heap.get?_push_of_some _ (Heap.get?_push_size _ rfl)
 have g3:(zp4 h p q).get? (zp1 h p q).objs.size=some _:=Heap.get?_push_of_some _ (Heap.get?_push_of_some _ (Heap.get?_push_size _ rfl))
 have g2:(zp4 h p q).get? (h.push p).objs.size=some q:=Heap.get?_push_of_some _ (Heap.get?_push_of_some _ (Heap.get?_push_of_some _ (Heap.get?_push_size _ hq)))
 have g1:(zp4 h p q).get? h.objs.size=some p:=Heap.get?_push_of_some _ (Heap.get?_push_of_some _ (Heap.get?_push_of_some _ (Heap.get?_push_of_some _ (Heap.get?_push_size _ hp))))
 rw[z2,z3,z4] at g5
 rw[z1,z2] at g3
 rw[z3] at g4
 rw[z1] at g2
 rw[z4]
 exact go _ g5 g3 g4 g1 g2 z5 fun b o k=>Heap.get?_push_of_some _ (Heap.get?_push_of_some _ (Heap.get?_push_of_some _ (Heap.get?_push_of_some _ (Heap.get?_push_of_some _ k))))
end
def R8 (ns:List Str)(ys:List V):List (Key×V):=(ns.zip ys).map fun p=>(Sum.inr p.1,p.2)
section
variable {X:Cx}{K:PySem.W.Frag}
theorem Xq:∀ {ns:List Str} {ys:List V} {ks vs:List Value},Vals (ns.map V.str) ks->Vals ys vs->ys.length=ns.length ->
  ∃ al:List (Key×Value),al.length=ns.length/\KV (R8 ns ys) al/\∀(i:Nat) (kv:Key×Value),al[i]? = some kv->∀ x y,ks[i]? = some x->vs[i]? = some y->Ny kv.1 x=true/\y=kv.2
 | [],[],_,_,_,_,_=>⟨[],rfl,.nil,fun i kv h=>by simp at h⟩
 | [], _ :: _,_,_,_,_,h=>by simp at h
 | _ :: _,[],_,_,_,_,h=>by simp at h
 | n :: ns,y :: ys,ks,vs,hk,hv,h=>by
   cases hk with
   | cons r1 hk=>
     cases hv with
     | @cons _ v0 _ _ r2 hv=>
       obtain ⟨al,a1,a2,a3⟩:=Xq hk hv (by simpa using h)
       obtain⟨t,rfl⟩:=r1
       refine⟨(Sum.inr n,v0) :: al,by simp[a1],.cons ⟨rfl,r2⟩ a2,fun i kv hi x y hx hy=>?_⟩
       cases i with
       | zero=>
         simp at hi hx hy
         subst hi hx hy
         exact⟨Nx n t,rfl⟩
       | succ i=>exact a3 i kv (by simpa using hi) x y (by simpa using hx) (by simpa using hy)
theorem Zv (m a b:Nat)(ha:a<m)(hb:b<m):@K9 (m+4) (m+3) m (m+1) (m+5) [m,a] [m+1,b]:=by
 constructor<;>first
  | exact Nat.ne_of_lt (show(_:Nat)<_ by omega)
  | exact Nat.ne_of_gt (show(_:Nat)<_ by omega)
  | (intro q;rcases List.mem_cons.mp q with q | q<;>first
    | (exact absurd q (Nat.ne_of_lt (show(_:Nat)<_ by omega)))
    | (exact absurd q (Nat.ne_of_gt (show(_:Nat)<_ by omega)))
    | (exact absurd (List.mem_singleton.mp q) (Nat.ne_of_lt (show(_:Nat)<_ by omega)))
    | (exact absurd (List.mem_singleton.mp q) (Nat.ne_of_gt (show(_:Nat)<_ by omega))))
end
section
variable {K:PySem.W.Frag}{H:Hp}{Q:VK}
theorem My:∀ {ns:List Str} {ys:List V},ys.length=ns.length->(R8 ns ys).map (·.1)=ns.map fun n=>(Sum.inr n:Key)
 | [],[],_=>rfl
 | [],_ :: _,h=>by simp at h
 | _ :: _,[],h=>by simp at h
 | n :: ns,y :: ys,h=>by
   have ih:=My (ns:=ns) (ys:=ys) (by simpa using h)
   unfold R8 at ih ⊢
   rw[List.zip_cons_cons,List.map_cons,List.map_cons,ih]
   rfl
end
section
variable {K:PySem.W.Frag}{H:Hp}{Q:VK}
end
section
variable {ns ns':List Str}{ps ps' bs:List (Str×Str)}
end
theorem Z0 {xs:List V}{i j:Int}(h0:0<=i)(h1:i<=j)(h2:j<=xs.length):Kf xs (some i) (some j)=(xs.drop i.toNat).take (j.toNat-i.toNat):=by
 have e:HT.sIx xs.length 0 (some i)=i.toNat:=by unfold HT.sIx;simp[show ¬ i<0 by omega];omega
 have e2:HT.sIx xs.length xs.length (some j)=j.toNat:=by unfold HT.sIx;simp[show ¬ j<0 by omega];omega
 unfold Kf
 rw[e,e2]
section
variable {ns:List Str}{ps:List (Str×Str)}
end
section
variable {P:Program}{w:World}{A:Around}{E:Value->Shared->Prop}{z:Shared}
theorem RawAt.at {g g':Heap}{e:Addr}{es:Array DictEntry}{ep:Nat}(x:RawAt g e es ep)(k:∀ o,g.get? e=some o->g'.get? e=some o):RawAt g' e es ep:=let ⟨o,h,r⟩:=x.at_;⟨⟨o,k o h,r⟩⟩
theorem RawAt.low {g:Heap}{e:Addr}{es:Array DictEntry}{ep:Nat}(x:RawAt g e es ep):e<g.objs.size:=let ⟨_,h,_⟩:=x.at_;Heap.lt_size h
theorem V1 (calm:A.handled=none)(it e:Addr)(hne:e≠it)(es:Array DictEntry)(ep:Nat) :
  Walks P w A it [it,e] [it] es.size (fun i v=>∃ h:i<es.size,v=(es[i]).key) (fun i h=>h.IsKeyIter it e i es.size ep/\RawAt h e es ep) where
 sub:=fun b hb=>by
  have:b=it:=by simpa using hb
  simp[this]
 frame:=fun _ _ _ st hk=>⟨st.1.at fun o q=>hk it (by simp) o q,st.2.at fun o q=>hk e (by simp) o q⟩
 item:=fun i s Q E hi st hQ=>by
  refine(W7 st.1 st.2 hi fun g it' sb=>?_)
  exact hQ _ g s.toks ⟨hi,rfl⟩ ⟨it',st.2.at fun o q=>sb.extBut _ o hne q⟩ fun b o hb q=>sb.extBut b o (fun y=>hb (by simp[y])) q
 done:=fun s Q E st hQ=>(Z5 calm st.1 st.2 (Nat.le_refl _) fun g eb=>hQ g s.toks fun b o hb q=>eb b o (fun y=>hb (by simp[y])) q)
 self:=fun _ _ _ _ st hQ=>(wpAny_pyIter_keyiter st.1 hQ)
theorem Vi {e:Addr}{G:Bool->Shared->Prop}(ty:z.TypeIs (.ref e) "dict")(go:G false z):wpAny (model P w) A (Builtin.List.listLengthHint (.ref e)) G E z:=by
 unfold Builtin.List.listLengthHint
 refine(wpAny_bind (wpAny_specialOf ty (F.slot_dict_len).lookup ?_))
 generalize gid:("dict.__len__":String)=which
 wp_delta
 rw[show splitId which=some ("dict","__len__") from(by subst gid;decide +kernel)]
 subst gid
 refine(wpAny_bind (wpAny_isInstance (T:="dict") (b:=true) ty (by rw[isSubtype_type];kernel_rfl) ?_))
 refine(wpAny_ite_split (fun no=>absurd no (by decide)) (fun _=>?_))
 refine(wpAny_ite_split (fun _=>?_) (fun no=>absurd (by decide +kernel) no))
 refine(wpAny_bind (wpAny_typeOf (T:="dict") ty ?_))
 exact wpAny_pure go
theorem Qm {R:Result->Shared->Prop}{e:Addr}{es:Array DictEntry}{ep:Nat}(calm:A.handled=none)(nd:(e==sysModules)=false)(od:RawAt z.heap e es ep)(few:es.size<=2 ^ 24)
  (L:Addr) (res:Value) (c0:Nat) (hL:z.heap.get? L=some { cls:=.type "list",data:=.seq #[] c0 })
  (go:∀ g tk out c,(∀ b o,b≠L->z.heap.get? b=some o->g.get? b=some o)->g.get? L=some { cls:=.type "list",dict:=none,data:=.seq out c,slots:=#[] } ->
   ItemsOf (fun i v=>∃ h:i<es.size,v=(es[i]).key) out es.size->R (.ok (.ret res)) { z with heap:=g,toks:=tk }) :
  wpAny (model P w) A.in1 (Builtin.List.listExtendWith (.ref L) (.ref e) res)
   (fun fin s'=>match fin with | .done f=>R (.ok f) s' | .again c'=>c'.quiet=true/\codeAny (model P w) A c' R s') (fun e s'=>R (.error e) s') z:=by
 have tyd:z.TypeIs (.ref e) "dict":=od.ty
 have apart:L≠e:=fun q=>by
  obtain⟨o,h1,h2⟩:=tyd
  rw[<- q,hL] at h1
  cases h1
  simp at h2
 have off:L≠z.heap.objs.size:=Nat.ne_of_lt (Heap.lt_size hL)
 have W:=(V1 (P:=P) (w:=w) (A:=A.in1) calm z.heap.objs.size e (Nat.ne_of_lt od.low) es ep).toS
 have notin:L∉[z.heap.objs.size,e]:=fun q=>by
  simp only[List.mem_cons,List.not_mem_nil,or_false] at q
  rcases q with q | q
  . exact off q
  exact apart q
 have run:∀(g:Heap) (c1 tk:Nat),g.IsKeyIter z.heap.objs.size e 0 es.size ep->RawAt g e es ep->(∀ b o,b≠L->z.heap.get? b=some o->g.get? b=some o) ->
   g.get? L=some { cls:=.type "list",data:=.seq #[] c1 }->codeAny (model P w) A (.builtin "list.extend.loop" ⟨[.ref L,.ref z.heap.objs.size,res],[]⟩) R { z with heap:=g,toks:=tk }:=by
  intro g c1 tk it od1 keep hL1
  refine(codeAny_extend_loopS W (by rw[sizeLine_eq];omega) L notin res es.size 0 _ #[] c1 rfl (Nat.zero_le _) ⟨it,od1⟩ hL1 (ItemsOf.nil _) fun s' out c' mv hL' items=>?_)
  rw[Moved.eq_with mv]
  refine(go s'.heap s'.toks out c' (fun b o hb q=>mv.heap b o (fun m=>?_) (keep b o hb q)) hL' items)
  rcases List.mem_cons.mp m with q' | m
  . exact hb q'
  exact absurd (Heap.lt_size q) (by rw[List.mem_singleton.mp m];exact Nat.lt_irrefl _)
 unfold Builtin.List.listExtendWith
 refine(wpAny_bind (wpAny_typeOf (T:="dict") tyd ?_))
 have n1:Builtin.List.listSameRef (.ref L) (.ref e)=false:=by simp[Builtin.List.listSameRef,apart]
 have n2:(Value.type "dict" == Value.type "list")=false:=by decide
 have n3:(Value.type "dict" == Value.type "tuple")=false:=by decide
 simp only[n1,n2,n3,Bool.or_false,Bool.false_eq_true,if_false]
 refine(wpAny_bind (Vq nd od ?_))
 have od1:RawAt (z.heap.push { cls:=.type "dict_keyiterator",data:=.fields #[.ref e,.int 0 0,.int es.size 0,.int ep 0] }) e es ep:=od.at fun o q=>Heap.get?_push_of_some _ q
 refine(wpAny_bind (wpAny_holding (Vi od1.ty ?_)))
 have it1:(z.heap.push { cls:=.type "dict_keyiterator",data:=.fields #[.ref e,.int 0 0,.int es.size 0,.int ep 0] }).IsKeyIter z.heap.objs.size e 0 es.size ep:=⟨_,Heap.get?_push_size _ rfl,rfl,rfl⟩
 have hL1:=Heap.get?_push_of_some { cls:=.type "dict_keyiterator",data:=.fields #[.ref e,.int 0 0,.int es.size 0,.int ep 0] } hL
 refine(wpAny_ite_split (fun _=>?_) (fun _=>wpAny_pure ⟨plainId_quiet F.plain_extend_loop _,run _ c0 _ it1 od1 (fun b o _ q=>Heap.get?_push_of_some _ q) hL1⟩))
 refine(wpAny_bind (wpAny_rule ?_))
 refine(wpAny_bind ?_)
 show wpAny _ _ (updateSeq L (·.push .none) >>= fun _=>updateSeq L (·.pop)) _ _ _
 refine(wpAny_bind (wpAny_updateSeq hL1 rfl ?_))
 have hL2:=Heap.get?_update_self (Obj.mapSeq (·.push Value.none)) hL1 rfl
 refine(wpAny_updateSeq (hz:=by seq_fits) hL2 rfl ?_)
 have hL3:=Heap.get?_update_self (Obj.mapSeq (·.pop)) hL2 rfl
 have up:∀ b o,b≠L->(z.heap.push { cls:=.type "dict_keyiterator",data:=.fields #[.ref e,.int 0 0,.int es.size 0,.int ep 0] }).get? b=some o->_:=fun b o hb q=>
  (Heap.get?_update_other _ (Obj.mapSeq (·.pop)) (Ne.symm hb)).trans ((Heap.get?_update_other _ (Obj.mapSeq (·.push Value.none)) (Ne.symm hb)).trans q)
 exact wpAny_pure ⟨plainId_quiet F.plain_extend_loop _,run _ _ _ (it1.at fun o q=>up _ o (Ne.symm off) q) (od1.at fun o q=>up _ o (Ne.symm apart) q) (fun b o hb q=>up b o hb (Heap.get?_push_of_some _ q)) hL3⟩
theorem Lf {Q:Value->Shared->Prop}{e:Addr}{es:Array DictEntry}{ep:Nat}(calm:A.handled=none)(nd:(e==sysModules)=false)(od:RawAt z.heap e es ep)(few:es.size<=2 ^ 24)
  (go:∀ g tk out c,(∀ b o,z.heap.get? b=some o->g.get? b=some o)->g.get? z.heap.objs.size=some { cls:=.type "list",dict:=none,data:=.seq out c,slots:=#[] } ->
   ItemsOf (fun i v=>∃ h:i<es.size,v=(es[i]).key) out es.size->Q (.ref z.heap.objs.size) { z with heap:=g,toks:=tk }) :
  wpAny (model P w) A (call (.type "list") [.ref e]) Q E z:=by
 refine callType_codes (Q₁:=fun new s₁=>new = .ref z.heap.objs.size/\s₁={ z with heap:=z.heap.push { cls:=.type "list",data:=.seq #[] } }) F.called_list (F.typeCall_list_1 _) F.entry_list_init
  (code_list_new _ ⟨rfl,rfl⟩) fun new s₁ both=>?_
 obtain⟨rfl,rfl⟩:=both
 have hL:(z.heap.push { cls:=.type "list",data:=.seq #[] }).get? z.heap.objs.size=some { cls:=.type "list",data:=.seq #[] }:=Heap.get?_push_size _ rfl
 have od1:RawAt (z.heap.push { cls:=.type "list",data:=.seq #[] }) e es ep:=od.at fun o q=>Heap.get?_push_of_some _ q
 have apart:e≠z.heap.objs.size:=Nat.ne_of_lt od.low
 refine⟨⟨_,hL,rfl⟩,F.args_list_init_2 _ _,?_⟩
 show wpAny _ _ (do let was <- Builtin.List.listItems (.ref z.heap.objs.size);Builtin.List.listUpdate (.ref z.heap.objs.size) (fun _=>#[]);letGo was.toList.reverse;Builtin.List.listExtendWith (.ref z.heap.objs.size) (.ref e) .none) _ _ _
 refine(wpAny_bind ?_)
 unfold Builtin.List.listItems
 refine(wpAny_bind (wpAny_seqItems hL rfl (wpAny_pure ?_)))
 show wpAny _ _ (updateSeq z.heap.objs.size (fun _=>#[]) >>= fun _=>letGo (#[]:Array Value).toList.reverse >>= fun _=>Builtin.List.listExtendWith (.ref z.heap.objs.size) (.ref e) .none) _ _ _
 refine(wpAny_bind (wpAny_updateSeq hL rfl ?_))
 have hL2:=Heap.get?_update_self (Obj.mapSeq (fun _=>(#[]:Array Value))) hL rfl
 have up:∀ b o,b≠z.heap.objs.size->(z.heap.push { cls:=.type "list",data:=.seq #[] }).get? b=some o->((z.heap.push { cls:=.type "list",data:=.seq #[] }).update z.heap.objs.size (Obj.mapSeq (fun _=>(#[]:Array Value)))).get? b=some o:=
  fun b o hb q=>(Heap.get?_update_other _ _ (Ne.symm hb)).trans q
 refine(wpAny_bind (wpAny_letGo ?_))
 refine(Qm (A:=A.in1) calm nd (od1.at fun o q=>up e o apart q) few _ .none _ hL2 fun g tk out c keep hL' items=>?_)
 refine⟨rfl,go g tk out c (fun b o q=>keep b o (Nat.ne_of_lt (Heap.lt_size q)) (up b o (Nat.ne_of_lt (Heap.lt_size q)) (Heap.get?_push_of_some _ q))) hL' items⟩
end
section
variable {X:Cx}{K:PySem.W.Frag}
def Xb:List V->Hp->VK->Prop:=fun xs H Q=>∃(d:Addr) (kvs:List (List Key×V)),xs=[.ref d]/\H d=some (.dT kvs)/\kvs.length<=1000000/\∀ bs,T8 H kvs bs->∀ l,H l=none->Q (.ref l) (upd H l (.lst (bs.map V.ref)))
theorem Qx (hc:X.calm=true):CallR X (.type "list") Xb:=by
 intro pins s σ H xs us Q I r h
 obtain⟨d,kvs,rfl,hd,hz,q⟩:=h
 obtain⟨u,rfl,ru⟩:=G5 r
 cases ru
 obtain⟨_,hs,xs,rv,o,es,ep,ho,c,hdat,hes,_⟩:=(show ObjOk X.prog X.w H s.heap d (.dT kvs) from I.hok d _ hd)
 have hk:es.toList.map (·.key)=(xs.map fun x=>x.2.1).map Value.ref:=by
  rw[hes,List.map_map,List.map_map]
  rfl
 have hK:T8 H kvs (xs.map fun x=>x.2.1):=by
  refine⟨by rw[List.length_map];exact(Paired.length rv).symm,fun i kv hkv=>?_⟩
  obtain⟨x,hx,_,r2,_⟩:=M9 rv hkv
  exact⟨x.2.1,by rw[List.getElem?_map,hx];rfl,r2⟩
 have hlen:=Paired.length rv
 have hsz:es.size=xs.length:=by have:=congrArg List.length hk;rw[List.length_map,List.length_map,List.length_map,Array.length_toList] at this;exact this
 refine Lf (by simpa using I.ok.hd hc) hs ⟨⟨o,ho,c.1,hdat⟩⟩ (by omega) fun g tk out c' keep hL items=>?_
 refine⟨.ref s.heap.objs.size,_,I.laid (t':=tk) (o:=.lst ((xs.map fun x=>x.2.1).map V.ref)) keep (Nat.le_refl _) ⟨?_,out.toList,c',Nr ?_ ?_,by simpa using hL⟩,rfl,q _ hK _ (I.hok.fresh (Nat.le_refl _))⟩
 . rw[List.length_map,List.length_map,sizeLine_eq]
   omega
 . have e1:=items.1
   have e2:out.toList.length=out.size:=Array.length_toList
   have e3:((xs.map fun x=>x.2.1).map V.ref).length=xs.length:=by rw[List.length_map,List.length_map]
   omega
 intro i a b ha hb
 rw[Array.getElem?_toList] at hb
 obtain⟨hi,rfl⟩:=items.2 i b hb
 obtain⟨b',hb',hkey⟩:=a08 hk (i:=i) hi
 rw[List.getElem?_map,hb'] at ha
 cases ha
 rw[hkey]
 exact rfl
theorem Wl {d:Addr}{kvs:List (List Key×V)}{H:Hp}{Q:VK}(h:H d=some (.dT kvs))(hz:kvs.length<=1000000)(k:∀ bs l H',T8 H kvs bs->H l=none->Same H H'->H' l=some (.lst (bs.map V.ref))->Q (.ref l) H'):Xb [.ref d] H Q:=
 ⟨d,kvs,rfl,h,hz,fun bs hb l hl=>k bs l _ hb hl (Same.upd hl) A9⟩
end
section
variable {α:Type}[DecidableEq α]{b:α->α->Bool}{L:List α}
theorem Ph (xs ys:List α):Fo b L (xs++ys)=Fo b L xs++Fo b L ys:=by
 unfold Fo
 rw[List.flatMap_append]
theorem Vk (x:α):Fo b L [x]=(ext b (L.length-1) (Ak L x)).map (x :: ·):=by
 unfold Fo
 simp
theorem Xa (hne:L≠[]){m n:Nat}{x:α}{r:List α}(hm:(frF b L)[m]? = some x)(hn:(Fo b L ((frF b L).take m)).length<=n)
  (hr:(ext b (L.length-1) (Ak L x))[n-(Fo b L ((frF b L).take m)).length]? = some r):(ext b L.length L)[n]? = some (x :: r):=by
 rw[<- P7 b hne]
 have e:frF b L=(frF b L).take m++([x]++(frF b L).drop (m+1)):=by
  have hlt:m<(frF b L).length:=(List.getElem?_eq_some_iff.mp hm).1
  have h1:=List.drop_eq_getElem_cons hlt
  have h2:(frF b L)[m]=x:=(List.getElem?_eq_some_iff.mp hm).2
  rw[h2] at h1
  conv=>lhs;rw[<- List.take_append_drop m (frF b L),h1]
  rfl
 rw[e,Ph,Ph,Vk]
 rw[List.getElem?_append_right hn,List.getElem?_append_left (by rw[List.length_map];exact(List.getElem?_eq_some_iff.mp hr).1),List.getElem?_map,hr]
 rfl
def G3 (b:α->α->Bool):List α->List α->Nat
 | _,[]=>0
 | L,x :: r=>(Fo b L ((frF b L).take ((frF b L).idxOf x))).length+G3 b (Ak L x) r
theorem On:∀(n:Nat) (L r:List α),L.Nodup->L.length=n->r∈ext b n L->(ext b n L)[G3 b L r]? = some r/\G3 b L r<(ext b n L).length
 | 0,L,r,_,_,hr=>by
   have:r=[]:=by simpa[ext] using hr
   subst this
   exact⟨rfl,by simp[ext,G3]⟩
 | n+1,L,r,hn,hl,hr=>by
   have hne:L≠[]:=fun e=>by rw[e] at hl;simp at hl
   obtain⟨x,hx,hr'⟩:=List.mem_flatMap.mp (show r∈(frF b L).flatMap fun x=>(ext b n (Ak L x)).map (x :: ·) from hr)
   obtain⟨t,ht,rfl⟩:=List.mem_map.mp hr'
   have hxL:=(mem_frF.mp hx).1
   have hll:=Au hn hxL
   have ih:=On n (Ak L x) t (Bc hn x) (by omega) ht
   have hidx:(frF b L)[(frF b L).idxOf x]? = some x:=by
    have h1:=List.idxOf_lt_length_iff.mpr hx
    rw[List.getElem?_eq_getElem h1,List.getElem_idxOf]
   have key:=Xa (b:=b) hne (m:=(frF b L).idxOf x) (n:=G3 b L (x :: t)) (x:=x) (r:=t) hidx (Nat.le_add_right _ _) (by
    rw[show G3 b L (x :: t)=(Fo b L ((frF b L).take ((frF b L).idxOf x))).length+G3 b (Ak L x) t from rfl,Nat.add_sub_cancel_left,hl,Nat.add_sub_cancel]
    exact ih.1)
   rw[hl] at key
   exact⟨key,(List.getElem?_eq_some_iff.mp key).1⟩
end
inductive Rch (b:Str->Str->Bool)(ns:List Str):(Str->Bool)->Prop
 | all:Rch b ns fun _=>true
 | less {e:Str->Bool} {z:Str}:Rch b ns e->z∈frF b (ns.filter e)->Rch b ns fun y=>e y && !decide (y=z)
def a47 (b:Str->Str->Bool)(ns ms:List Str)(kvs:List (List Key×V)):Prop:=∀ e,Rch b ns e->D3 kvs (Cy ms e)=some (.int ((cnt b (ns.filter e):Nat):Int))
theorem Rg {ns ms row:List Str}{e:Str->Bool}{z:Str}(hp:(row).Perm (ms.filter fun x=>!e x))(hn:ms.Nodup)(hz:z∈ms.filter e):(row++[z]).Perm (ms.filter fun x=>!(e x && !decide (x=z))):=by
 have hzm:=(List.mem_filter.mp hz).1
 have hze:=(List.mem_filter.mp hz).2
 refine Rj ?_ (hn.filter _) fun y=>?_
 . rw[List.nodup_append]
   refine⟨hp.nodup_iff.mpr (hn.filter _),by simp,fun a ha c hc q=>?_⟩
   rw[List.mem_singleton.mp hc] at q
   subst q
   have:=(List.mem_filter.mp (hp.mem_iff.mp ha)).2
   rw[hze] at this
   cases this
 rw[List.mem_append,hp.mem_iff,List.mem_filter,List.mem_filter,List.mem_singleton]
 constructor
 . rintro(⟨a,c⟩ | rfl)
   . refine⟨a,?_⟩
     cases h:e y
     . rfl
     rw[h] at c;cases c
   exact⟨hzm,by simp⟩
 rintro⟨a,c⟩
 by_cases q:y=z
 . exact .inr q
 refine .inl ⟨a,?_⟩
 rw[decide_eq_false q] at c
 simpa using c
def LvA (H:Hp)(ms:List Str)(la:Addr)(es:List (Str->Bool)):Prop:=∃ bs:List Addr,H la=some (.lst (bs.map V.ref))/\bs.length=es.length/\∀(i:Nat) e,es[i]? = some e->∃ b,bs[i]? = some b/\H b=some (.tup ((Cy ms e).map kV))
theorem LvA.keep {H H':Hp}{ms:List Str}{la:Addr}{es:List (Str->Bool)}(h:LvA H ms la es)(h1:∀ xs,H la=some (.lst xs)->H' la=some (.lst xs))(h2:∀ b xs,H b=some (.tup xs)->H' b=some (.tup xs)):LvA H' ms la es:=by
 obtain⟨bs,a1,a2,a3⟩:=h
 exact⟨bs,h1 _ a1,a2,fun i e he=>let ⟨b,b1,b2⟩:=a3 i e he;⟨b,b1,h2 _ _ b2⟩⟩
structure Lvs (b:Str->Str->Bool)(ns ms:List Str)(levs:List (List (Str->Bool))):Prop where
 z0:levs[0]? = some [fun _=>true]
 sz:∀(j:Nat) es,levs[j]? = some es->es.length<=1024/\∀ e∈es,(ms.filter e).length+j=ms.length
 nx:∀(j:Nat) es es',levs[j]? = some es->levs[j+1]? = some es'->∀ e∈es,∀ z∈frF b (ns.filter e),∃ e'∈es',Cy ms e'=Cy ms (fun y=>e y && !decide (y=z))
def Lb (ms:List Str)(es:List (Str->Bool)):List (List Key×V):=es.map fun e=>(Cy ms e,V.bl true)
theorem a05 (ms:List Str)(es:List (Str->Bool))(e1:Str->Bool)(hn:((Lb ms es).map (·.1)).Nodup):∃ es',Db (Lb ms es) (Cy ms e1) (.bl true)=Lb ms es'/\((Lb ms es').map (·.1)).Nodup/\(∀ e∈es,e∈es')/\(∃ e'∈es',Cy ms e'=Cy ms e1)/\∀ e∈es',e∈es\/e=e1:=by
 by_cases hc:∃ e∈es,Cy ms e=Cy ms e1
 . obtain⟨e0,h0,hk⟩:=hc
   refine⟨es,?_,hn,fun _ h=>h,⟨e0,h0,hk⟩,fun e h=>.inl h⟩
   unfold Db
   have hany:((Lb ms es).any fun kv=>decide (kv.1=Cy ms e1))=true:=List.any_eq_true.mpr ⟨(Cy ms e0,V.bl true),List.mem_map.mpr ⟨e0,h0,rfl⟩,decide_eq_true hk⟩
   rw[if_pos hany]
   conv=>rhs;rw[<- List.map_id (Lb ms es)]
   apply List.map_congr_left
   intro kv hkv
   obtain⟨e,_,rfl⟩:=List.mem_map.mp hkv
   show(if Cy ms e=Cy ms e1 then(Cy ms e,V.bl true) else _)=_
   split<;>rfl
 refine⟨es++[e1],?_,?_,fun e h=>List.mem_append_left _ h,⟨e1,by simp,rfl⟩,fun e h=>by simpa using h⟩
 . unfold Db
   rw[if_neg ?_]
   . unfold Lb
     rw[List.map_append]
     rfl
   intro h
   obtain⟨kv,hkv,hk⟩:=List.any_eq_true.mp h
   obtain⟨e,he,rfl⟩:=List.mem_map.mp hkv
   exact hc ⟨e,he,of_decide_eq_true hk⟩
 unfold Lb at hn ⊢
 rw[List.map_append,List.map_append,List.nodup_append]
 refine⟨hn,by simp,fun a ha c hcc q=>?_⟩
 subst q
 obtain⟨kv,hkv,rfl⟩:=List.mem_map.mp ha
 obtain⟨e,he,rfl⟩:=List.mem_map.mp hkv
 have:Cy ms e=Cy ms e1:=by simpa using hcc
 exact hc ⟨e,he,this⟩
theorem Ty {ms:List Str}{es:List (Str->Bool)}(h:((Lb ms es).map (·.1)).Nodup)(hf:ms.length<=10):es.length<=1024:=by
 have:=Wj (ns:=ms) (ct:=es.map fun e=>(e,0)) (by
  unfold al2 ak7
  unfold Lb at h
  rw[List.map_map,List.map_map] at *
  exact h) hf
 rwa [List.length_map] at this
theorem Yx {b:Str->Str->Bool}{ns ms:List Str}{levs:List (List (Str->Bool))}(hpm:ms.Perm ns)(hn:ns.Nodup)(h:Lvs b ns ms levs)(hl:levs.length=ms.length+1){e:Str->Bool}(g:Rch b ns e):∃(j:Nat) (es:List (Str->Bool)) (e0:Str->Bool),levs[j]? = some es/\e0∈es/\Cy ms e0=Cy ms e:=by
 induction g with
 | all=>exact⟨0,_,_,h.z0,List.mem_singleton.mpr rfl,rfl⟩
 | @less e z g hz ih=>
   obtain⟨j,es,e0,h1,h2,h3⟩:=ih
   have hse:=Lc h3
   have hns:ns.filter e0=ns.filter e:=by
    apply List.filter_congr
    intro y hy
    have hm:y∈ms.filter e0↔y∈ms.filter e:=by rw[hse]
    rw[List.mem_filter,List.mem_filter] at hm
    have hym:=hpm.mem_iff.mpr hy
    cases c1:e0 y<;>cases c2:e y<;>simp_all
   have hj:j+1<levs.length:=by
    have s1:=(h.sz j es h1).2 e0 h2
    have hpos:0<(ms.filter e0).length:=by
     have hzn:=List.mem_filter.mp (mem_frF.mp hz).1
     have:z∈ms.filter e0:=by rw[hse];exact List.mem_filter.mpr ⟨hpm.mem_iff.mpr hzn.1,hzn.2⟩
     exact List.length_pos_of_mem this
    omega
   obtain⟨e',he',hk'⟩:=h.nx j es _ h1 (List.getElem?_eq_getElem hj) e0 h2 z (by rw[hns];exact hz)
   refine⟨j+1,_,e',List.getElem?_eq_getElem hj,he',hk'.trans ?_⟩
   unfold Cy
   congr 1
   apply List.filter_congr
   intro y hy
   have:e0 y=e y:=by
    have hm:y∈ms.filter e0↔y∈ms.filter e:=by rw[hse]
    rw[List.mem_filter,List.mem_filter] at hm
    cases c1:e0 y<;>cases c2:e y<;>simp_all
   show(!(e0 y && !decide (y=z))) = !(e y && !decide (y=z))
   rw[this]
def ag5:List V->Hp->VK->Prop:=fun xs H Q=>∃ i:Int,xs=[.int i]/\i.natAbs.log2<1920/\Q (.str (toString i)) H
theorem Qu {X:Cx}:CallR X (.builtin "repr") ag5:=by
 intro pins s σ H xs us Q I r h
 obtain⟨i,rfl,hz,q⟩:=h
 obtain ⟨u,rfl,t,rfl⟩:=G5 r
 exact PySem.P.repr_of_int hz ⟨.str _,H,I.tok _,⟨_,rfl⟩,q⟩
def xB:List Value:=[.type "ValueError",.type "Exception",.type "BaseException",.type "object"]
def Tt (K:PySem.W.Frag)(C:Addr):Bool:=match K.lookup C with
 | some ⟨.type "type",_,.cls cd,sl⟩=>(match cd.mro,sl.toList with
   | .ref D :: bm,[_,_,_,_,some (.builtin n),_]=>D==C&&n == "ValueError.__new__" && !cd.hasDel&&cd.hasDict&&PySem.W.tailIn K xB bm
   | _,_=>false)
 | _=>false
theorem Gc {K:PySem.W.Frag}{C:Addr}(q:Tt K C=true):∃(nm qn:Str) (N:Addr) (bs bm:List Value) (sn:List Str) (sub:List Value) (ab:Bool) (col:Option Bool) (dd:Option Addr) (k0 k1 k2 k3 k5:Option Value),
  K.lookup C=some (excClassObj nm qn C N bs bm true sn sub ab col dd k0 k1 k2 k3 k5 "ValueError.__new__")/\PySem.W.tailIn K xB bm=true:=by
 unfold Tt at q
 split at q
 . rename_i dd cd sl ho
   split at q
   . rename_i D bm k0 k1 k2 k3 n k5 hm hs
     simp only[Bool.and_eq_true,beq_iff_eq,Bool.not_eq_true'] at q
     obtain⟨⟨⟨⟨e1,e2⟩,hdel⟩,hdc⟩,ht⟩:=q
     subst e1 e2
     obtain⟨nm,bs,mro,ns,qn,hd,sn,sub,ab,col,del⟩:=cd
     dsimp only at hm hdel hdc
     subst hm hdel hdc
     have e3:sl = #[k0,k1,k2,k3,some (.builtin "ValueError.__new__"),k5]:=by
      obtain⟨l⟩:=sl
      simp only at hs
      rw[hs]
     subst e3
     exact⟨nm,qn,ns,bs,bm,sn,sub,ab,col,dd,k0,k1,k2,k3,k5,ho,ht⟩
   cases q
 cases q
theorem Uf (self:Value){h:Heap}{l:List Value}(T:OwnTail h xB l):refuseLoop self "__setattr__" l=pure ():=by
 induction T with
 | base=>exact PySem.F.store_ValueError.passes self
 | own _ _ _ _ ih=>rw[refuseLoop_ref];exact ih
theorem Y4 {h:Heap}{l:List Value}(T:OwnTail h xB l):l.contains (.type "BaseException")=true:=T.hasType (by decide +kernel)
abbrev a69 (rest:List Value):Obj:={ cls:=.type "tuple",data:=.seq rest.toArray }
abbrev Xc (C t:Addr):Obj:={ cls:=.ref C,data:=.fields #[.ref t,.none,.none,.none,.bool false,.none] }
section
variable {prog:Program}{w:World}{A:Around}{E:Value->Shared->Prop}{h:Heap}{g:Array GenState}{d:Drawn}{t:Nat}{os:OsState}{K:PySem.W.Frag}{C fI:Addr}{rest:List Value}
theorem We {Q:Fin->Shared->Prop}(X:K.In h)(q:Tt K C=true)(hi:PySem.W.findIn K (.ref C) "__init__" = some (some (.ref fI)))(ht:PySem.W.typeIn K (.ref fI)=some (.type "function"))(hr:rest.length<=sizeLine)
  (hq:wpAny (model prog w) A (call (.ref fI) (.ref (h.objs.size+1) :: rest)) (fun r s'=>r = .none/\Q (.done (.ret (.ref (h.objs.size+1)))) s') E ⟨(h.push (a69 rest)).push (Xc C h.objs.size),g,d,t,os⟩) :
  wpAny (model prog w) A (Builtin.«type.__call__» ⟨.ref C :: rest,[]⟩) Q E ⟨h,g,d,t,os⟩:=by
 obtain⟨nm,qn,N,bs,bm,sn,sub,ab,col,dd,k0,k1,k2,k3,k5,hl,htl⟩:=Gc q
 have F:=PySem.F.excBase_ValueError
 have T:OwnTail h xB bm:=PySem.W.tail_of_in X htl
 have hC:=X _ _ hl
 repeat (first | (with_reducible refine wpAny_loadPart_at hC ?_) | (with_reducible refine wpAny_madeBy_exc hC ?_) | wp_step)
 refine codeAny_call_builtin_code (Code.quiet_builtin _ F.quiet) (wpAny_check_new_subT F T hC (codeAny_exc_new_subT F T hC ?_ hr))
 show wpAny _ _ _ _ _ _
 have X1:K.In ((h.push (a69 rest)).push (Xc C h.objs.size)):=X.keeps fun b o e=>Heap.get?_push_of_some _ (Heap.get?_push_of_some _ e)
 have hC1:=X1 _ _ hl
 have hg1:((h.push (a69 rest)).push (Xc C h.objs.size)).get? (h.objs.size+1)=some (Xc C h.objs.size):=by heap_get
 have hcC:(Value.ref C :: bm).contains (.ref C)=true:=by simp
 unfold isInstance
 repeat (first | (with_reducible refine wpAny_loadPart_at hg1 ?_) | (with_reducible refine wpAny_isSubtype_exc hC1 ?_;rw[hcC]) | wp_step)
 show wpAny _ _ (typeLookup (.ref C) _) _ _ _
 refine(PySem.W.looks_findIn (M:=model prog w) X1 hi).at ?_
 refine wpAny_holding (wpAny_bind ((PySem.W.bind_fn X1 _ ht).at ?_))
 refine wpAny_bind (wpAny_mono hq (fun r s' hr'=>?_) fun _ _ x=>x)
 obtain⟨rfl,hQ⟩:=hr'
 wp_walk
 exact hQ
theorem a36 {Q:Value->Shared->Prop}(X:K.In h)(q:Tt K C=true)(hi:PySem.W.findIn K (.ref C) "__init__" = some (some (.ref fI)))(ht:PySem.W.typeIn K (.ref fI)=some (.type "function"))(hr:rest.length<=sizeLine)
  (hq:wpAny (model prog w) (A.under (.builtin "type.__call__" ⟨.ref C :: rest,[]⟩)) (call (.ref fI) (.ref (h.objs.size+1) :: rest)) (fun r s'=>r = .none/\Q (.ref (h.objs.size+1)) s') E ⟨(h.push (a69 rest)).push (Xc C h.objs.size),g,d,t,os⟩) :
  wpAny (model prog w) A (call (.ref C) rest) Q E ⟨h,g,d,t,os⟩:=by
 obtain⟨nm,qn,N,bs,bm,sn,sub,ab,col,dd,k0,k1,k2,k3,k5,hl,htl⟩:=Gc q
 have hC:=X _ _ hl
 have f1:=tc_lookup
 have f2:=tc_bind (.ref C)
 have tt:(⟨h,g,d,t,os⟩:Shared).TypeIs (.ref C) "type":=⟨_,hC,rfl⟩
 refine wpAny_call (codeAny_of_tree ?_)
 show wpAny _ _ (callAny (.ref C) _) _ _ _
 repeat (any_goals (first | assumption | (with_reducible refine wpAny_loadPart_at hC ?_) | wp_step))
 refine⟨rfl,codeAny_call_builtin_at (Code.quiet_builtin _ (by decide +kernel)) entry_typeCall (wpAny_check_type_call_sub hC (We X q hi ht hr ?_))⟩
 exact hq
end
end L2
namespace L2
open PySem PySem.Spec PyProof.Rows
open PySem PySem.Spec PyProof.Rows Builtin Builtin.ObjectAttr
structure XC (K:PySem.W.Frag)(C:Addr):Prop where
 ex:Tt K C=true
 sa:PySem.W.findIn K (.ref C) "__setattr__" = some (some (.builtin "object.__setattr__"))
 ga:PySem.W.findIn K (.ref C) "__getattribute__" = some (some (.builtin "BaseException.__getattribute__"))
 gt:PySem.W.findIn K (.ref C) "__getattr__" = some none
 cl:PySem.W.findIn K (.ref C) "__class__" = some (some (.builtin "object.__class__"))
 cg:PySem.W.specialIn K (.builtin "object.__class__") "__get__" = some (some (.builtin "getset_descriptor.__get__"))
 ct:PySem.W.takesIn K (.builtin "object.__class__")=some true
section
variable {prog:Program}{w:World}{A:Around}{E:Value->Shared->Prop}{s:Shared}{K:PySem.W.Frag}{C x:Addr}{name:Str}{v:Value}
theorem XC.cls (c:XC K C):∃ cd,PySem.W.clsIn K C=some cd/\cd.hasDict=true/\∃ bm,cd.mro = .ref C :: bm/\PySem.W.tailIn K xB bm=true:=by
 obtain⟨nm,qn,N,bs,bm,sn,sub,ab,col,dd,k0,k1,k2,k3,k5,hl,htl⟩:=Gc c.ex
 exact⟨_,by unfold PySem.W.clsIn;rw[hl],rfl,bm,rfl,htl⟩
theorem XC.mro (c:XC K C){h:Heap}(X:K.In h){T:String}(hT:xB.contains (.type T)=true):PySem.W.mroIn K C (.type T)=some true:=by
 obtain⟨cd,hc,_,bm,hm,ht⟩:=c.cls
 unfold PySem.W.mroIn
 rw[hc,Option.bind_some,hm,if_neg (by simp)]
 rw[List.contains_cons,(PySem.W.tail_of_in X ht).hasType hT,Bool.or_true]
theorem X9 {R:Result->Shared->Prop}{ox:Obj}{od:Option Obj}{tk:Tok}(c:XC K C)(X:K.In s.heap)(I:PySem.W.InstAt s.heap x ox C od)(ht:PySem.W.findIn K (.ref C) name=some none)
  (h:∀ b,wpAny (model prog w) A.in1 (storeInOwnDict (.ref x) (.ref C) (.str name tk) name v b)
   (fun fin s'=>match fin with | .done f=>R (.ok f) s' | .again c'=>c'.quiet=true/\codeAny (model prog w) A c' R s') (fun e s'=>R (.error e) s') s) :
  codeAny (model prog w) A (.call (.builtin "object.__setattr__") ⟨[.ref x,.str name tk,v],[]⟩) R s:=by
 have SF:=PySem.F.store_object
 obtain⟨cd,hc,hd,bm,hmr,htl⟩:=c.cls
 have T:=PySem.W.tail_of_in X htl
 have sub:PySem.W.Looks (model prog w) s.heap (isInstance (.ref x) (.type "object")) true:=I.type.andThen (PySem.W.looks_mroIn X (c.mro X (by decide +kernel)))
 refine codeAny_call_builtin SF.slot.plain SF.entry (@PySem.W.check_slot (model prog w) _ _ s "object.__setattr__" "object" "__setattr__" (.ref x) [.str name tk,v] [] _ SF.kind SF.split sub (SF.args (.ref x) (.str name tk) v) ?_)
 have hm:PySem.W.Looks (model prog w) s.heap (mroOf (.ref C)) cd.mro:=(PySem.W.looks_clsIn X hc).andThen .now
 have l3:PySem.W.Looks (model prog w) s.heap (storeTaker? none) none:=.now
 rw[PySem.W.osa_eq,refuse_eq]
 refine wpAny_bind (wpAny_bind (I.type.here (wpAny_bind (hm.here ?_))))
 rw[hmr,refuseLoop_ref,Uf _ T]
 refine wpAny_pure (wpAny_bind (I.type.here (wpAny_bind ((PySem.W.looks_findIn X ht).here (wpAny_bind (l3.here ?_))))))
 exact h _
theorem Zr {Q:Unit->Shared->Prop}{vs:Array Value}{sl:Array (Option Value)}(c:XC K C)(X:K.In s.heap)(hx:s.heap.get? x=some ⟨.ref C,none,.fields vs,sl⟩)(ht:PySem.W.findIn K (.ref C) name=some none)
  (hq:∀ h',h'.Ns1 s.heap.objs.size (fun y=>if y=name then some v else none)->h'.get? x=some ⟨.ref C,some s.heap.objs.size,.fields vs,sl⟩->(∀ b o,b≠x->s.heap.get? b=some o->h'.get? b=some o)->Q () { s with heap:=h',toks:=s.toks+2 }) :
  wpAny (model prog w) A (setAttr (.ref x) name v) Q E s:=by
 have J:PySem.W.InstAt s.heap x ⟨.ref C,none,.fields vs,sl⟩ C none:=⟨hx,rfl,rfl,True.intro⟩
 obtain⟨cd,hc,hd,bm,hmr,htl⟩:=c.cls
 refine PySem.W.set_plain X J c.sa (X9 (s:={ s with toks:=s.toks+1 }) c X J ht fun b=>?_)
 refine wpAny_bind (wpAny_pure (wpAny_bind (wpAny_bind (wpAny_loadPart hx (wpAny_bind (PySem.W.Looks.here (s:={ s with toks:=s.toks+1 }) (PySem.W.looks_clsIn X hc) ?_))))))
 rw[hd]
 have hx1:(s.heap.push { cls:=.type "dict",data:=.dict #[] }).get? x=some ⟨.ref C,none,.fields vs,sl⟩:=Heap.get?_push_of_some _ hx
 have hxs:x≠s.heap.objs.size:=Nat.ne_of_lt (Heap.lt_size hx)
 refine wpAny_bind (wpAny_alloc' ?_)
 refine wpAny_bind (wpAny_update' hx1 ?_)
 refine wpAny_pure ?_
 have hgd:((s.heap.push { cls:=.type "dict",data:=.dict #[] }).update x fun o=>{ o with dict:=some s.heap.objs.size }).get? s.heap.objs.size=some { cls:=.type "dict",data:=.dict #[] }:=
  (Heap.get?_update_ne _ _ _ _ hxs.symm).trans (Heap.get?_push_at rfl rfl)
 have hnd:((s.heap.push { cls:=.type "dict",data:=.dict #[] }).update x fun o=>{ o with dict:=some s.heap.objs.size }).Ns s.heap.objs.size (fun _=>none):=
  ⟨_,#[],_,hgd,rfl,fun e he=>absurd he (by simp),fun _=>rfl⟩
 show wpAny _ _ (storeInDict s.heap.objs.size (.str name _) name v) _ _ _
 unfold storeInDict newKeyGuard
 refine wpAny_bind (wpAny_pure (wpAny_bind (wpAny_nsSet1 (Heap.Ns1.of_empty hnd) fun h' hn' hs=>?_)))
 obtain⟨oD,esD,epD,hoD,hdD,hcD⟩:=hn'.count (Within.cons name v Within.nil)
 refine wpAny_bind (wpAny_lookBehind hoD (by rw[hdD];exact pastItsLine_dict (Nat.le_trans hcD (by rw[List.length_cons,List.length_nil,sizeLine_eq];omega))) ?_)
 refine wpAny_pure (hq h' hn' ((hs.2 x hxs).trans (Heap.get?_update_self _ hx1 rfl)) fun b o hb hbo=>?_)
 exact(hs.2 b (Nat.ne_of_lt (Heap.lt_size hbo))).trans ((Heap.get?_update_ne _ _ _ _ hb).trans (Heap.get?_push_of_some _ hbo))
theorem a07 {Q:Unit->Shared->Prop}{dx:Addr}{mA:Str->Option Value}{ns:List Str}{vs:Array Value}{sl:Array (Option Value)}(c:XC K C)(X:K.In s.heap)(hx:s.heap.get? x=some ⟨.ref C,some dx,.fields vs,sl⟩)(hn:s.heap.Ns1 dx mA)
  (hw:Within mA ns) (hz:ns.length<=sizeLine) (ht:PySem.W.findIn K (.ref C) name=some none)
  (hq:∀ h',h'.Ns1 dx (fun y=>if y=name then some v else mA y)->Heap.SameBut dx s.heap h'->Q () { s with heap:=h',toks:=s.toks+2 }) :
  wpAny (model prog w) A (setAttr (.ref x) name v) Q E s:=by
 obtain⟨od,_,_,hod,_⟩:=id hn
 have J:PySem.W.InstAt s.heap x ⟨.ref C,some dx,.fields vs,sl⟩ C (some od):=⟨hx,rfl,rfl,hod⟩
 obtain⟨cd,hc,hd,bm,hmr,htl⟩:=c.cls
 refine PySem.W.set_plain X J c.sa (X9 (s:={ s with toks:=s.toks+1 }) c X J ht fun b=>?_)
 refine wpAny_bind (wpAny_pure (wpAny_bind (wpAny_bind (wpAny_loadPart hx (wpAny_bind (PySem.W.Looks.here (s:={ s with toks:=s.toks+1 }) (PySem.W.looks_clsIn X hc) ?_))))))
 rw[hd]
 refine wpAny_pure (a:=some dx) (wpAny_bind (wpAny_pure (wpAny_bind ?_)))
 refine wpAny_nsSet1 (s:={ s with toks:=s.toks+1 }) hn fun h' hn2 hs2=>?_
 obtain⟨oD,esD,epD,hoD,hdD,hcD⟩:=hn2.count (Within.cons name v hw)
 refine wpAny_bind (wpAny_lookBehind hoD (by rw[hdD];exact pastItsLine_dict (Nat.le_trans hcD (by rw[List.length_cons];omega))) ?_)
 exact wpAny_pure (hq _ hn2 hs2)
theorem Wt {M:Model}{ox:Obj}{od:Option Obj}{nameV:Value}{Q:Unit->Shared->Prop}(c:XC K C)(X:K.In s.heap)(I:PySem.W.InstAt s.heap x ox C od)(hq:Q () s) :
  wpAny M A (checkBuiltinCall "BaseException.__getattribute__" ⟨[.ref x,nameV],[]⟩) Q E s:=by
 have sub:PySem.W.Looks M s.heap (isInstance (.ref x) (.type "BaseException")) true:=I.type.andThen (PySem.W.looks_mroIn X (c.mro X (by decide +kernel)))
 exact @PySem.W.check_slot M _ _ s "BaseException.__getattribute__" "BaseException" "__getattribute__" (.ref x) [nameV] [] _ (by decide +kernel) (by decide +kernel) sub (PySem.F.args_bexc_ga (.ref x) nameV) hq
theorem ab5 {fill expr:Bool}{tk:Tok}{Q:Value->Shared->Prop}{ox:Obj}{od:Option Obj}(c:XC K C)(X:K.In s.heap)(I:PySem.W.InstAt s.heap x ox C od)
  (h:wpAny (model prog w) A.in1 (Builtin.«object.__getattribute__» ⟨[.ref x,.str name tk],[]⟩)
   (fun fin s'=>match fin with | .done (.ret v)=>wpAny (model prog w) A (handedOut v) Q E s' | _=>False) (fun _ _=>False) s):wpAny (model prog w) A (getAttrBy (.ref x) (.str name tk) fill expr) Q E s:=by
 obtain⟨hh,g,d,t,os⟩:=s
 have l0:=I.type (M:=model prog w)
 have l1:=PySem.W.looks_findIn (M:=model prog w) X c.ga
 have l2:=PySem.W.looks_findIn (M:=model prog w) X c.gt
 have f3:=PySem.F.excAttr_ValueError.ga.bind (.ref x)
 have e2:(Value.builtin "BaseException.__getattribute__" == Value.builtin "object.__getattribute__")=false:=by decide +kernel
 unfold getAttrBy
 refine wpAny_holding (wpAny_bind (l0.at (wpAny_bind (l1.at ?_))))
 show wpAny _ _ (if(onTheHeap (Value.ref C)&&Value.builtin "BaseException.__getattribute__" == Value.builtin "object.__getattribute__")=true then _ else _) _ _ _
 rw[e2,Bool.and_false,if_neg (by decide)]
 unfold getAttrByItsOwn hookBefore
 rw[if_pos (show onTheHeap (Value.ref C)=true from rfl)]
 refine wpAny_bind (l2.at (wpAny_bind (wpAny_attempt (wpAny_holding ?_))))
 unfold callGetattribute
 rw[if_neg (by cases expr<;>decide)]
 unfold boundAndCalled
 rw[f3]
 refine wpAny_bind (wpAny_pure (wpAny_call (codeAny_call_builtin PySem.F.excAttr_ValueError.ga.plain PySem.F.entry_bexc_ga (Wt (s:=⟨hh,g,d,t,os⟩) c X I ?_))))
 refine wpAny_mono h (fun fin s' z=>?_) fun _ _ z=>z.elim
 rcases fin with (_ | _ | _ | _) | _<;>first | exact z | exact z.elim
theorem a95 {expr:Bool}{Q:Value->Shared->Prop}{ox od:Obj}(c:XC K C)(X:K.In s.heap)(I:PySem.W.InstAt s.heap x ox C (some od))(ht:PySem.W.findIn K (.ref C) name=some none)(hl:PySem.W.lookIn name od=some (some v))
  (hv:PySem.W.handedIn v=true) (h:Q v { s with toks:=s.toks+1 }):wpAny (model prog w) A (getAttr (.ref x) name expr) Q E s:=by
 obtain⟨hh,g,d,t,os⟩:=s
 obtain⟨cd,hc,hd,bm,hmr,htl⟩:=c.cls
 have l0:=I.type (M:=model prog w)
 have hf:PySem.W.findObj K C (some od) name=some (.value v):=by
  unfold PySem.W.findObj PySem.W.ownOf
  simp only[hc,ht,hd,hl,Option.bind_some,if_true]
 have l3:=PySem.W.looks_find (M:=model prog w) X I hf
 unfold getAttr
 refine wpAny_bind (wpAny_mkText (ab5 (s:=⟨hh,g,d,t+1,os⟩) c X I ?_))
 refine wpAny_bind (wpAny_pure (wpAny_bind (wpAny_pure (wpAny_bind (l0.at (wpAny_bind (l3.at ?_)))))))
 refine wpAny_pure ?_
 show wpAny _ _ (handedOut v) _ _ _
 rw[PySem.W.handedOut_of hv];exact wpAny_pure h
theorem W8 {Q:Option Value->Shared->Prop}{ox:Obj}{od:Option Obj}(c:XC K C)(X:K.In s.heap)(I:PySem.W.InstAt s.heap x ox C od)(h:Q (some (.ref C)) { s with toks:=s.toks+1 }) :
  wpAny (model prog w) A (getAttr? (.ref x) "__class__") Q E s:=by
 obtain⟨hh,g,d,t,os⟩:=s
 obtain⟨cd,hc,hd,bm,hmr,htl⟩:=c.cls
 have l0:=I.type (M:=model prog w)
 have hf:PySem.W.findObj K C od "__class__" = some (.bind (.builtin "getset_descriptor.__get__") (.builtin "object.__class__")):=by
  unfold PySem.W.findObj
  simp only[hc,c.cl,c.cg,c.ct,Option.bind_some]
 have l3:=PySem.W.looks_find (M:=model prog w) X I hf
 unfold getAttr? getAttrBy?
 refine wpAny_bind (wpAny_mkText (wpAny_bind (wpAny_attempt ?_)))
 refine ab5 (s:=⟨hh,g,d,t+1,os⟩) c X I ?_
 refine wpAny_bind (wpAny_pure (wpAny_bind (wpAny_pure (wpAny_bind (l0.at (wpAny_bind (l3.at ?_)))))))
 show wpAny _ _ (holding [Value.builtin "object.__class__"] (call (.builtin "getset_descriptor.__get__") [.builtin "object.__class__",.ref x,.ref C]) >>= ret) _ _ _
 refine wpAny_bind (wpAny_holding (wpAny_call (PySem.W.class_get (s:=⟨hh,g,d,t+1,os⟩) (ox:=ox) (od:=od) X I (c.mro X (by decide +kernel)) ?_)))
 refine wpAny_pure ?_
 show wpAny _ _ (handedOut (.ref C)) _ _ _
 rw[PySem.W.handedOut_of rfl]
 exact wpAny_pure (wpAny_pure h)
theorem Ux {od:Option Obj}{ox:Obj}(c:XC K C):PySem.W.KitX K (.ref x) (.ref C) (fun h=>PySem.W.InstAt h x ox C od) where
 ty:=fun _ _ _ I=>I.type
 it:=fun _ _ X _=>by
  obtain⟨nm,qn,N,bs,bm,sn,sub,ab,col,dd,k0,k1,k2,k3,k5,hl,htl⟩:=Gc c.ex
  intro A' Q' E' s' k q
  unfold isType loadHead
  exact wpAny_bind (wpAny_loadPart (k _ _ (X _ _ hl)) (wpAny_pure q))
 ne:=fun h tp dd its n sl X htp=>by
  obtain⟨nm,qn,N,bs,bm,sn,sub,ab,col,dd,k0,k1,k2,k3,k5,hl,htl⟩:=Gc c.ex
  refine Bool.eq_false_iff.mpr fun q=>?_
  have e:C=tp:=Value.ref.inj (beq_iff_eq.mp q)
  subst e
  have z:=congrArg Obj.cls (Option.some.inj ((X _ _ hl).symm.trans htp))
  exact absurd (Value.type.inj z) (by decide)
 ca:=fun X I k=>W8 c X I k
end
end L2
namespace L2
open PySem PySem.Spec PyProof.Rows
def exG (n:Bool)(a C:Addr)(od:Option Addr):HO:=.ext fun h=>∃ vs sl,h.get? a=some ⟨.ref C,od,.fields vs,sl⟩/\(n=true->vs[1]? = some .none)
abbrev exO (a C:Addr)(od:Option Addr):HO:=exG true a C od
def xdO (dx:Addr)(fs:List (Str×V)):HO:=.ext fun h=>∃ mA,h.Ns1 dx mA/\∀ f,RelO (fs.lookup f) (mA f)
section
variable {P:Program}{w:World}{H:Hp}{h:Heap}{a C dx:Addr}{od:Option Addr}{fs:List (Str×V)}
theorem exG_ok {n:Bool}:ObjOk P w H h a (exG n a C od)↔∃ vs sl,h.get? a=some ⟨.ref C,od,.fields vs,sl⟩/\(n=true->vs[1]? = some .none):=
 ⟨fun x=>x.1,fun⟨vs,sl,e,z⟩=>⟨⟨vs,sl,e,z⟩,⟨_,e⟩,fun h1 h2 ⟨vs,sl,e,z⟩ k=>⟨vs,sl,k _ e,z⟩⟩⟩
theorem exO_ok:ObjOk P w H h a (exO a C od)↔∃ vs sl,h.get? a=some ⟨.ref C,od,.fields vs,sl⟩/\(true=true->vs[1]? = some .none):=exG_ok
theorem xdO_ok:ObjOk P w H h dx (xdO dx fs)↔∃ mA,h.Ns1 dx mA/\∀ f,RelO (fs.lookup f) (mA f):=
 ⟨fun x=>x.1,fun⟨mA,n,r⟩=>⟨⟨mA,n,r⟩,(let ⟨o,_,_,e,_⟩:=n;⟨o,e⟩),fun h1 h2 ⟨mA,n,r⟩ k=>⟨mA,(let ⟨o,es,ep,e,z⟩:=n;⟨o,es,ep,k _ e,z⟩),r⟩⟩⟩
end
def G1 (K:PySem.W.Frag)(C B:Addr):Bool:=(PySem.W.clsIn K C).any fun cd=>cd.mro == .ref C :: .ref B :: xB
section
variable {K:PySem.W.Frag}{C B D:Addr}
theorem XC.ty (c:XC K C):PySem.W.typeIn K (.ref C)=some (.type "type"):=by
 obtain⟨nm,qn,N,bs,bm,sn,sub,ab,col,dd,k0,k1,k2,k3,k5,hl,htl⟩:=Gc c.ex
 show Option.map (fun x=>x.cls) (List.lookup C K)=_
 rw[hl]
 rfl
theorem Uj (c:XC K C)(hm:G1 K C B=true)(d:XC K D):PySem.W.kitOne K (.ref C) (.ref D)=some (C==D||D==B):=by
 unfold PySem.W.kitOne
 by_cases e:C=D
 . subst e;simp
 have e1:(Value.ref C==Value.ref D)=false:=beq_eq_false_iff_ne.mpr fun q=>e (Value.ref.inj q)
 have e2:(C==D)=false:=beq_eq_false_iff_ne.mpr e
 rw[if_neg (by rw[e1];decide),e2,Bool.false_or]
 unfold PySem.W.kitCls
 obtain⟨cd,hc,_⟩:=d.cls
 dsimp only
 rw[if_pos (by rw[hc,d.ty];rfl)]
 show PySem.W.mroIn K C (.ref D)=_
 obtain⟨cd,hc,hx⟩:=PySem.W.any_some hm
 unfold PySem.W.mroIn
 rw[hc,Option.bind_some,beq_iff_eq.mp hx,if_neg (by simp)]
 rw[List.contains_cons,List.contains_cons,show xB.contains (Value.ref D)=false from rfl,Bool.or_false]
 congr 1
 rw[show(Value.ref D==Value.ref C)=false from beq_eq_false_iff_ne.mpr fun q=>e (Value.ref.inj q).symm,Bool.false_or]
 by_cases eb:D=B
 . subst eb;simp
 rw[show(D==B)=false from beq_eq_false_iff_ne.mpr eb,beq_eq_false_iff_ne.mpr fun q=>eb (Value.ref.inj q)]
end
section
variable {X:Cx}{pins:List (Addr×Obj)}{σ:St}{H:Hp}{s:Shared}{a C dx:Addr}{fs:List (Str×V)}{f:Str}{v:V}{A:Around}{E:Value->Shared->Prop}
theorem Zq {n' b:Bool}{Q:Value->Shared->Prop}(I:Inv X pins σ H s)(e:H a=some (exG n' a C (some dx)))(ed:H dx=some (xdO dx fs))(c:XC X.K C)(n:NoAttr X.K C f)(l:fs.lookup f=some v)
  (h:∀ u s',Inv X pins σ H s'->RelV v u->Q u s'):wpAny (model X.prog X.w) A (getAttr (.ref a) f b) Q E s:=by
 obtain⟨vs,sl,e1,_⟩:=exG_ok.mp (I.hok a _ e)
 obtain⟨mA,hn,r⟩:=xdO_ok.mp (I.hok dx _ ed)
 obtain⟨u,hu,ru⟩:=RelO.some_of (v:=v) (o:=mA f) (by rw[<- l];exact r f)
 obtain⟨od,hod,hl⟩:=Mo hn
 exact a95 c I.kIn ⟨e1,rfl,rfl,hod⟩ n (by rw[hl,hu]) (Nn ru) (h u _ (I.tok _) ru)
theorem Sv {mA:Str->Option Value}(r:∀ f,RelO (fs.lookup f) (mA f)):PySem.Within mA (fs.map (·.1)):=fun g hg=>by
 cases q:fs.lookup g with
 | none=>exact absurd (RelO.none_of (by rw[<- q];exact r g)) hg
 | some v=>exact List.mem_map.mpr ⟨(g,v),PySem.mem_of_lookup q,rfl⟩
theorem W3 {y:V}{u:Value}{Q:Unit->Shared->Prop}(I:Inv X pins σ H s)(e:H a=some (exO a C none))(c:XC X.K C)(n:NoAttr X.K C f)(ry:RelV y u)
  (h:∀ dx s',H dx=none->dx≠a->Inv X pins σ (upd (upd H dx (xdO dx [(f,y)])) a (exO a C (some dx))) s'->Q () s'):wpAny (model X.prog X.w) A (setAttr (.ref a) f u) Q E s:=by
 obtain⟨vs,sl,e1,e1n⟩:=exO_ok.mp (I.hok a _ e)
 refine Zr c I.kIn e1 n fun h' hn he hk=>?_
 have hf:H s.heap.objs.size=none:=I.hok.fresh (Nat.le_refl _)
 have hne:s.heap.objs.size≠a:=Nat.ne_of_gt (Heap.lt_size e1)
 have na:∀ b,H b=none->b≠a:=fun b q z=>by rw[z,e] at q;cases q
 have nd:∀ b u,H b=some u->b≠s.heap.objs.size:=fun b u q z=>by rw[z,hf] at q;cases q
 have nb:∀ b o,s.heap.get? b=some o->b≠s.heap.objs.size:=fun b o q=>Nat.ne_of_lt (Heap.lt_size q)
 have hu:∀ b o,H b=some o->b≠a->upd (upd H s.heap.objs.size (xdO s.heap.objs.size [(f,y)])) a (exO a C (some s.heap.objs.size)) b=some o:=fun b o q z=>by rw[Ap z,Ap (nd b o q)];exact q
 refine h _ _ hf hne (I.un ⟨fun b o q z _ _=>hk b o (na b z) q,fun b o q z _ _=>⟨o.slots,hk b o (na b z) q⟩,fun b o q z _=>by rw[Ap (na b z),Ap (nb b o q)];exact z,fun b o q _=>?_,
  fun b xs q=>hu b _ q fun z=>?_,fun b o u q=>hu b _ q fun z=>?_,fun b ps q=>⟨#[],?_⟩⟩ fun b o q=>?_)
 . by_cases z:b=a
   . subst z;exact⟨_,he⟩
   exact⟨o,hk b o z q⟩
 . rw[z,e] at q;cases q
 . rw[z,e] at q;cases q
 . rw[Array.append_empty]
   exact hu b _ q fun z=>by rw[z,e] at q;cases q
 by_cases z:b=a
 . subst z
   rw[A9] at q;cases q
   exact exO_ok.mpr ⟨_,_,he,e1n⟩
 rw[Ap z] at q
 by_cases z2:b=s.heap.objs.size
 . subst z2
   rw[A9] at q;cases q
   refine xdO_ok.mpr ⟨_,hn,fun g=>?_⟩
   show RelO (List.lookup g [(f,y)]) (if g=f then some u else none)
   by_cases q:g=f
   . have hb:(g==f)=true:=beq_iff_eq.mpr q
     simp only[List.lookup,hb,if_pos q];exact ry
   have hb:(g==f)=false:=beq_eq_false_iff_ne.mpr q
   simp only[List.lookup,hb,if_neg q];exact True.intro
 rw[Ap z2] at q
 refine(I.hok b o q).stay (fun c v hc r=>hk c v (fun z3=>?_) r) (fun c r=>hu c _ r fun z3=>?_) fun c xs r=>hu c _ r fun z3=>?_
 . subst z3
   rcases hc with hc | hc
   . exact z hc.symm
   rw[e] at hc;cases hc
 . rw[z3,e] at r;cases r
 rw[z3,e] at r;cases r
theorem V9 {y:V}{u:Value}{Q:Unit->Shared->Prop}(I:Inv X pins σ H s)(e:H a=some (exO a C (some dx)))(ed:H dx=some (xdO dx fs))(c:XC X.K C)(n:NoAttr X.K C f)(hl:fs.length<1000)(ry:RelV y u)
  (h:∀ s',Inv X pins σ (upd H dx (xdO dx (Ia f y fs))) s'->Q () s'):wpAny (model X.prog X.w) A (setAttr (.ref a) f u) Q E s:=by
 obtain⟨vs,sl,e1,e1n⟩:=exO_ok.mp (I.hok a _ e)
 obtain⟨mA,hn,r⟩:=xdO_ok.mp (I.hok dx _ ed)
 refine a07 c I.kIn e1 hn (Sv r) (by rw[List.length_map,sizeLine_eq];omega) n fun h' hn' hs=>h _ ?_
 have hd:∃ o,h'.get? dx=some o:=let ⟨o,_,_,e',_⟩:=hn';⟨o,e'⟩
 refine I.write (x:=dx) (e:=dx) (by rw[ed];exact True.intro) (.inl rfl) (fun b q hb z=>(hs.2 b hb).trans z) hd (xdO_ok.mpr ⟨_,hn',fun g=>?_⟩)
 rw[Fw]
 by_cases q:g=f
 . rw[if_pos q]
   show RelO (some y) (if g=f then some u else mA g)
   rw[if_pos q];exact ry
 rw[if_neg q]
 show RelO _ (if g=f then some u else mA g)
 rw[if_neg q];exact r g
end
def Zb (K:PySem.W.Frag)(f:Str):V->Hp->VK->Prop:=fun x H1 Q=>∃ n a C dx fs v,x = .ref a/\H1 a=some (exG n a C (some dx))/\H1 dx=some (xdO dx fs)/\XC K C/\NoAttr K C f/\fs.lookup f=some v/\Q v H1
def Zs (K:PySem.W.Frag)(ta:TE)(f:Str):TE:=fun σ H Q=>ta σ H fun x H1=>Zb K f x H1 Q
def al1 (K:PySem.W.Frag)(f:Str)(y:V):V->Hp->(Hp->Prop)->Prop:=fun x H2 R=>∃ a C,x = .ref a/\XC K C/\NoAttr K C f /\
 ((H2 a=some (exO a C none)/\∀ dx,H2 dx=none->dx≠a->R (upd (upd H2 dx (xdO dx [(f,y)])) a (exO a C (some dx)))) \/
   ∃ dx fs,H2 a=some (exO a C (some dx))/\H2 dx=some (xdO dx fs)/\fs.length<1000/\R (upd H2 dx (xdO dx (Ia f y fs))))
def Zo (K:PySem.W.Frag)(ta tv:TE)(f:Str):TS:=fun D σ H=>tv σ H fun y H1=>ta σ H1 fun x H2=>al1 K f y x H2 fun H3=>D.nx σ H3
section
variable {X:Cx}{o e value:Expr}{f:Str}{pos pos' tpos:Pos}{ta tv:TE}
theorem Zu (he:PE X e ta)(hb:attributeBase e f X.env (eval e X.env)=eval e X.env):PE X (.Attribute e f pos) (Zs X.K ta f):=by
 intro pins s σ H Q I h
 refine Sd hb (thn (he pins s σ H _ I h) fun u s1 ⟨x,H1,I1,rx,n',a,C,dx,fs,v,ex,ea,ed,c,n,l,q⟩=>?_)
 subst ex
 obtain rfl:u=Value.ref a:=rx
 exact Zq I1 ea ed c n l fun u' s2 I2 ru=>⟨v,H1,I2,ru,q⟩
theorem a61 (ha:PE X o ta)(hv:PE X value tv)(hs:swapsWith value (some (.Attribute o f pos')) pos.line X.env=pure false):PS X (.Assign [.Attribute o f pos'] value pos) (Zo X.K ta tv f):=by
 intro pins s σ H D I h
 refine plainObj_wpAny_Assign_Attribute (thn (hv pins s σ H _ I h) fun u s1 ⟨y,H1,I1,ry,q⟩=>thn (ha pins s1 σ H1 _ I1 q) fun ov s2 ⟨x,H2,I2,rx,a,C,ex,c,n,q2⟩=>?_) hs
 subst ex
 obtain rfl:ov=Value.ref a:=rx
 rcases q2 with ⟨ea,q2⟩ | ⟨dx,fs,ea,ed,l,q2⟩
 . exact W3 I2 ea c n ry fun dx s3 h1 h2 I3=>⟨σ,_,I3,q2 dx h1 h2⟩
 exact V9 I2 ea ed c n l ry fun s3 I3=>⟨σ,_,I3,q2⟩
end
def ExB (n:Bool)(H:Hp)(a C:Addr)(fs:List (Str×V)):Prop:=(fs=[]/\H a=some (exG n a C none))\/∃ dx,dx≠a/\H a=some (exG n a C (some dx))/\H dx=some (xdO dx fs)
abbrev ExA (H:Hp)(a C:Addr)(fs:List (Str×V)):Prop:=ExB true H a C fs
theorem ExB.inst {n:Bool}{P:Program}{w:World}{H:Hp}{h:Heap}{a C:Addr}{fs:List (Str×V)}(e:ExB n H a C fs)(x:HOk P w H h):∃ ox od,PySem.W.InstAt h a ox C od:=by
 rcases e with ⟨_,e⟩ | ⟨dx,_,e,d⟩
 . obtain⟨vs,sl,q,_⟩:=exG_ok.mp (x a _ e)
   exact⟨_,none,q,rfl,rfl,True.intro⟩
 obtain⟨vs,sl,q,_⟩:=exG_ok.mp (x a _ e)
 obtain⟨mA,hn,_⟩:=xdO_ok.mp (x dx _ d)
 obtain⟨o,_,_,ho,_⟩:=hn
 exact⟨_,some o,q,rfl,rfl,ho⟩
theorem ExB.same {n:Bool}{H H':Hp}{a C:Addr}{fs:List (Str×V)}(e:ExB n H a C fs)(s:∀ b o,H b=some o->H' b=some o):ExB n H' a C fs:=by
 rcases e with ⟨e1,e⟩ | ⟨dx,ne,e,d⟩
 . exact .inl ⟨e1,s _ _ e⟩
 exact .inr ⟨dx,ne,s _ _ e,s _ _ d⟩
def aj1 (K:PySem.W.Frag):List V->Hp->VK->Prop:=fun xs H Q=>∃ n a C fs b,ExB n H a C fs/\XC K C /\
 ((∃ c,xs=[.ref a,.ref c]/\PySem.W.kitOne K (.ref C) (.ref c)=some b)\/(∃ c,xs=[.ref a,.ty c]/\PySem.W.kitOne K (.ref C) (.type c)=some b) \/
   ∃(p:Addr) (cs:List Addr),xs=[.ref a,.ref p]/\H p=some (.tup (cs.map V.ref))/\PySem.W.kitAny K (.ref C) (cs.map Value.ref)=some b)/\Q (.bl b) H
theorem N3:∀ {cs:List Addr} {us:List Value},Vals (cs.map V.ref) us->us=cs.map Value.ref
 | [], us,r=>by cases us with | nil=>rfl | cons _ _=>cases r
 | c :: cs,us,r=>by
   cases us with
   | nil=>cases r
   | cons u us=>
     cases r with
     | cons r1 r2=>rw[List.map_cons,N3 r2,show u=Value.ref c from r1]
theorem Vy {X:Cx}:CallR X (.builtin "isinstance") (aj1 X.K):=by
 intro pins s σ H xs us Q I r h
 obtain⟨n,a,C,fs,b,ea,c,hc,q⟩:=h
 obtain⟨ox,od,J⟩:=ea.inst I.hok
 rcases hc with ⟨c',rfl,e⟩ | ⟨c',rfl,e⟩ | ⟨p,cs,rfl,hp,e⟩
 . obtain⟨u,w',rfl,r1,r2⟩:=Qh r
   cases r1;cases r2
   exact PySem.W.kia_one (Ux c) I.kIn J e (fun z=>nomatch z) fun tk=>⟨.bl _,H,I.tok _,rfl,q⟩
 . obtain⟨u,w',rfl,r1,r2⟩:=Qh r
   cases r1;cases r2
   exact PySem.W.kia_one (Ux c) I.kIn J e (fun z=>nomatch z) fun tk=>⟨.bl _,H,I.tok _,rfl,q⟩
 obtain⟨u,w',rfl,r1,r2⟩:=Qh r
 cases r1;cases r2
 obtain⟨_,its,ri,ob,g1,g2,⟨n,g3⟩,g4⟩:=(show ObjOk X.prog X.w H s.heap p (.tup (cs.map V.ref)) from I.hok p _ hp)
 obtain rfl:=N3 ri
 obtain⟨oc,odd,oda,osl⟩:=ob
 dsimp only at g2 g3 g4
 subst g2 g3 g4
 exact PySem.W.kia_tup (Ux c) I.kIn J g1 e (fun z=>nomatch z) fun tk=>⟨.bl _,H,I.tok _,rfl,q⟩
theorem E7 {X:Cx}{K:PySem.W.Frag}(hK:X.K=K:=by ac_nf):CallR X (.builtin "isinstance") (aj1 K):=hK ▸ Vy
def Mkx (P:Program)(w:World)(K:PySem.W.Frag)(mg:Str->Option Value)(base:Heap)(k:Nat)(C:Addr)(x:Str)(ps:List Str)(sp:Sp):Prop:=
 ∃ f fd,FnOk P w K mg base CX0 k f fd ps sp/\XC K C/\PySem.W.findIn K (.ref C) "__init__" = some (some (.ref f))/\PySem.W.isFn K (.ref f)=true/\PySem.W.keepIn K (.ref C)=true/\mg x=some (.ref C)/\Binds K fd ps []
def Su (K:PySem.W.Frag)(C:Addr):Bool:=match K.lookup C with
 | some ⟨_,_,.cls cd,_⟩=>PySem.W.nsOkIn K cd.ns&&PySem.W.nsIn K cd.ns "__init__" == some none
 | _=>false
structure aa8 (K:PySem.W.Frag)(mg:Str->Option Value)(C:Addr)(x:Str):Prop where
 xc:XC K C
 no:Su K C=true
 kp:PySem.W.keepIn K (.ref C)=true
 gl:mg x=some (.ref C)
def al9 (C:Addr)(sp:Sp)(vs:List V)(H1:Hp)(Q:VK):Prop:=vs.length<=8/\∀ x,H1 x=none->sp (.ref x :: vs) (upd H1 x (exO x C none)) (fun v H2=>v = .non/\Q (.ref x) H2) E0
def ar0 (C:Addr)(sp:Sp)(t:TA):TE:=fun σ H Q=>t σ H fun vs H1=>al9 C sp vs H1 Q
def a59 (C:Addr)(vs:List V)(H1:Hp)(Q:VK):Prop:=vs.length<=8/\∀ x,H1 x=none->Q (.ref x) (upd H1 x (exO x C none))
def ae3 (C:Addr) (t:TA):TE:=fun σ H Q=>t σ H fun vs H1=>a59 C vs H1 Q
theorem Ov {P:Program}{w:World}{H:Hp}{h:Heap}{a:Addr}(x:HOk P w H h)(n:h.get? a=none):H a=none:=by
 cases q:H a with
 | none=>rfl
 | some o=>
   have t:∀ o,ObjOk P w H h a o->∃ u,h.get? a=some u:=fun o z=>by
    cases o with
    | lst xs=>obtain⟨_,_,_,_,e⟩:=z;exact⟨_,e⟩
    | tup xs=>obtain⟨_,_,_,_,e,_⟩:=z;exact⟨_,e⟩
    | dK kvs=>obtain⟨_,_,_,_,o,_,_,e,_⟩:=z;exact⟨_,e⟩
    | dT kvs=>obtain⟨_,_,_,_,o,_,_,e,_⟩:=z;exact⟨_,e⟩
    | set S n=>obtain⟨o,_,_,_,e,_⟩:=z;exact⟨_,e⟩
    | ins C dx fs=>obtain⟨_,_,_,e,_⟩:=z;exact⟨_,e⟩
    | own y=>obtain⟨_,e⟩:=z;exact⟨_,e⟩
    | xd fs=>obtain⟨_,⟨_,_,_,e,_⟩,_⟩:=z;exact⟨_,e⟩
    | rng lo hi=>obtain⟨_,_,_,e⟩:=z;exact⟨_,e⟩
    | frz ob u=>obtain⟨e,_⟩:=z;exact⟨_,e⟩
    | tbl ps=>exact⟨_,z⟩
    | met f y=>exact⟨_,z⟩
    | ext φ=>obtain⟨_,e,_⟩:=z;exact e
   obtain⟨u,e⟩:=t o (x a o q)
   rw[n] at e;cases e
theorem Inv.laidN {X:Cx}{pins:List (Addr×Obj)}{σ:St}{H:Hp}{s:Shared}{h':Heap}{a:Addr}{o:HO}{t':Nat}(I:Inv X pins σ H s)(k:∀ b u,s.heap.get? b=some u->h'.get? b=some u)(n:s.heap.get? a=none)
  (new:ObjOk X.prog X.w (upd H a o) h' a o):Inv X pins σ (upd H a o) { s with heap:=h',toks:=t' }:=by
 have hn:=Ov I.hok n
 have nb:∀ b u,s.heap.get? b=some u->b≠a:=fun b u q z=>by rw[z,n] at q;cases q
 have nh:∀ b u,H b=some u->upd H a o b=some u:=fun b u q=>by rw[Ap fun z=>by rw[z,hn] at q;cases q];exact q
 refine I.un ⟨fun b u q _ _ _=>k b u q,fun b u q _ _ _=>⟨u.slots,k b u q⟩,fun b u q z _=>by rw[Ap (nb b u q)];exact z,fun b u q _=>⟨u,k b u q⟩,fun b xs q=>nh b _ q,fun b ob u q=>nh b _ q,fun b ps q=>⟨#[],by rw[Array.append_empty];exact nh b _ q⟩⟩ fun b u q=>?_
 by_cases z:b=a
 . subst z;rw[A9] at q;cases q;exact new
 rw[Ap z] at q
 exact(I.hok b u q).stay (fun c v _ r=>k c v r) (fun c r=>nh c _ r) fun c xs r=>nh c _ r
section
variable {X:Cx}{k:Nat}{f C:Addr}{fd:FuncData}{ps:List Str}{sp:Sp}{x:Str}{p pos:Pos}{e:Expr}{es:List Expr}{t:TA}{pins:List (Addr×Obj)}{σ:St}{H:Hp}{s:Shared}{Q:VK}{us:List Value}{vs:List V}
theorem a32 (M:Mkx X.prog X.w X.K X.mg X.base k C x ps sp)(hr:Room (k+1) X.A)(I:Inv X pins σ H s)(r:Vals vs us)(hz:vs.length<=8)
  (h:∀ x,H x=none->sp (.ref x :: vs) (upd H x (exO x C none)) (fun v H2=>v = .non/\Q (.ref x) H2) E0) :
  wpAny (model X.prog X.w) X.A (call (.ref C) us) (EP X pins σ Q) X.xe s:=by
 obtain⟨f,fd,F,c,hi,hf,hk,hm,hb⟩:=M
 have hq:=h (s.heap.objs.size+1) (I.hok.fresh (Nat.le_succ _))
 have r2:Vals (V.ref (s.heap.objs.size+1) :: vs) (Value.ref (s.heap.objs.size+1) :: us):=.cons rfl r
 have hl:((Value.ref (s.heap.objs.size+1) :: us)++[]).length=ps.length:=by
  have e:=r2.length
  rw[F.len _ _ _ _ hq] at e
  rw[List.append_nil]
  exact e.symm
 have hg1:((s.heap.push (a69 us)).push (Xc C s.heap.objs.size)).get? (s.heap.objs.size+1)=some (Xc C s.heap.objs.size):=by heap_get
 have I2:Inv X pins σ (upd H (s.heap.objs.size+1) (exO (s.heap.objs.size+1) C none)) { s with heap:=(s.heap.push (a69 us)).push (Xc C s.heap.objs.size) }:=
  I.laid (a:=s.heap.objs.size+1) (t':=s.toks) (fun b u q=>Heap.get?_push_of_some _ (Heap.get?_push_of_some _ q)) (Nat.le_succ _) (exO_ok.mpr ⟨_,_,hg1,fun _=>rfl⟩)
 obtain⟨hh,g,d,tk,os⟩:=s
 refine a36 I.kIn c.ex hi (beq_iff_eq.mp hf) (by rw[<- r.length,sizeLine_eq];omega) (wpAny_call (codeAny_mono (F.run _ X.stack _ _ ⟨Value.ref (hh.objs.size+1) :: us,[]⟩ (Value.ref (hh.objs.size+1) :: us) _ _ E0 (hr.make C us [])
  (I2.env0.make C us []) (by have:=hb _ (Value.ref (hh.objs.size+1) :: us) I2.kIn hl;rw[List.append_nil] at this;exact this) r2 hq) fun r s' hq'=>?_))
 cases r with
 | error e=>exact False.elim hq'
 | ok fl=>
   cases fl with
   | ret u=>
     obtain⟨v,H',I3,rv,ev,q3⟩:=I2.after hq'
     subst ev
     exact⟨rv,⟨V.ref (hh.objs.size+1),H',I3,rfl,q3⟩⟩
   | next=>exact False.elim hq'
   | brk=>exact False.elim hq'
   | cont=>exact False.elim hq'
theorem ah0 (M:Mkx X.prog X.w X.K X.mg X.base k C x ps sp)(hr:Room (k+1) X.A)(hg:Gl X x)(ha:PA X (e :: es) t)(hdb:(x==("__debug__":Str))=false:=by decide)
  (he:starEach (e :: es) X.env=(false,eval e X.env) :: starEach es X.env:=by ac_nf) (hpl:(backTo pos (starEach es X.env)).any (·.1)=false:=by ac_nf) :
  PE X (.Call (.Name x p) (e :: es) [] pos) (ar0 C sp t):=by
 intro pins s σ H Q I h
 have M':=M
 obtain⟨f,fd,F,c,hi,hf,hk,hm,hb⟩:=M'
 refine wpAny_Call_Name_kw (Hi I hg hm ?_ hdb)
 refine PySem.W.callWith_K (h₀:=X.base) I.ok.mod.kin hk (thn (ha pos pins s σ H _ I h) fun us s1 ⟨vs,H1,I1,r,z,q⟩=>⟨I1.kIn,?_⟩) he hpl
 exact a32 M hr I1 r z q
theorem Vh (M:aa8 X.K X.mg C x)(I:Inv X pins σ H s)(r:Vals vs us)(hz:vs.length<=8)(h:∀ x,H x=none->Q (.ref x) (upd H x (exO x C none))) :
  wpAny (model X.prog X.w) X.A (call (.ref C) us) (EP X pins σ Q) X.xe s:=by
 obtain⟨nm,qn,N,bs,bm,sn,sub,ab,col,dd,k0,k1,k2,k3,k5,hl,htl⟩:=Gc M.xc.ex
 have hno:=M.no
 unfold Su at hno
 rw[hl] at hno
 simp only[Bool.and_eq_true,beq_iff_eq] at hno
 obtain⟨hh,g,d,tk,os⟩:=s
 have Xn:X.K.In hh:=I.kIn
 refine wpAny_call_exc_subT PySem.F.excBase_ValueError (PySem.W.tail_of_in Xn htl) (Xn _ _ hl) (.of_isNs (PySem.W.isNs_of_in Xn hno.1)) (PySem.W.nsMap_none_of_in Xn hno.1 hno.2) (fun h' e m=>?_) (by rw[<- r.length,sizeLine_eq];omega)
 obtain⟨t0,he,_⟩:=m.there
 exact⟨.ref e,upd H e (exO e C none),I.laidN (t':=tk) m.keeps m.new (exO_ok.mpr ⟨_,_,he,fun _=>rfl⟩),rfl,h e (Ov I.hok m.new)⟩
theorem Zn (M:aa8 X.K X.mg C x)(hg:Gl X x)(ha:PA X (e :: es) t)(hdb:(x==("__debug__":Str))=false:=by decide)
  (he:starEach (e :: es) X.env=(false,eval e X.env) :: starEach es X.env:=by ac_nf) (hpl:(backTo pos (starEach es X.env)).any (·.1)=false:=by ac_nf) :
  PE X (.Call (.Name x p) (e :: es) [] pos) (ae3 C t):=by
 intro pins s σ H Q I h
 refine wpAny_Call_Name_kw (Hi I hg M.gl ?_ hdb)
 refine PySem.W.callWith_K (h₀:=X.base) I.ok.mod.kin M.kp (thn (ha pos pins s σ H _ I h) fun us s1 ⟨vs,H1,I1,r,z,q⟩=>⟨I1.kIn,?_⟩) he hpl
 exact Vh M I1 r z q
end
def spX (C:Addr)(fs:List Str):Sp:=fun vs H Q _=>∃ a ws,vs = .ref a :: ws/\ws.length=fs.length/\H a=some (exO a C none) /\
 ∀ dx H',H dx=none->dx≠a->(∀ b,b≠a->b≠dx->H' b=H b)->H' a=some (exO a C (some dx))->H' dx=some (xdO dx (fs.zip ws))->Q .non H'
section
variable {X:Cx}{K:PySem.W.Frag}{o e value:Expr}{f:Str}{pos pos':Pos}{ta tv:TE}
theorem Wk (he:PE X e ta)(hb:attributeBase e f X.env (eval e X.env)=eval e X.env)(hK:X.K=K:=by ac_nf):PE X (.Attribute e f pos) (Zs K ta f):=hK ▸ Zu he hb
theorem Wi (ha:PE X o ta)(hv:PE X value tv)(hs:swapsWith value (some (.Attribute o f pos')) pos.line X.env=pure false)(hK:X.K=K:=by ac_nf):PS X (.Assign [.Attribute o f pos'] value pos) (Zo K ta tv f):=
 hK ▸ a61 ha hv hs
end
section
variable {K:PySem.W.Frag}{σ:St}{H:Hp}{Q:VK}{D:Ends}{f:Str}{ta tv:TE}{t:TA}{sp:Sp}{C a dx B G:Addr}{fs:List (Str×V)}{v y:V}{R:Hp->Prop}{vs:List V}
theorem a62 (k:ta σ H fun x H1=>Zb K f x H1 Q):Zs K ta f σ H Q:=k
theorem a98 {n':Bool}(h:ExB n' H a C fs)(c:XC K C)(n:NoAttr K C f)(l:fs.lookup f=some v)(k:Q v H):Zb K f (.ref a) H Q:=by
 rcases h with ⟨rfl,_⟩ | ⟨dx,_,h1,h2⟩
 . cases l
 exact⟨n',a,C,dx,fs,v,rfl,h1,h2,c,n,l,k⟩
theorem Zz (k:tv σ H fun y H1=>ta σ H1 fun x H2=>al1 K f y x H2 fun H3=>D.nx σ H3):Zo K ta tv f D σ H:=k
theorem ai6 (h:H a=some (exO a C none))(c:XC K C)(n:NoAttr K C f)(k:∀ dx H',H dx=none->dx≠a->(∀ b,b≠a->b≠dx->H' b=H b)->H' a=some (exO a C (some dx))->H' dx=some (xdO dx [(f,y)])->R H'):al1 K f y (.ref a) H R:=
 ⟨a,C,rfl,c,n,.inl ⟨h,fun dx h1 h2=>k dx _ h1 h2 (fun b hb hd=>by rw[Ap hb,Ap hd]) A9 (by rw[Ap h2,A9])⟩⟩
theorem ad2 (k:t σ H fun vs H1=>al9 C sp vs H1 Q):ar0 C sp t σ H Q:=k
theorem af0 {gs:List Str}(hl:vs.length=gs.length)(hz:gs.length<=8)(k:∀ x H',H x=none->Same H H'->ExA H' x C (gs.zip vs)->Q (.ref x) H'):al9 C (spX C gs) vs H Q:=by
 refine⟨by omega,fun x hx=>⟨x,vs,rfl,hl,A9,fun dx H' h1 h2 h3 h4 h5=>⟨rfl,k x H' hx (fun b u q=>?_) (.inr ⟨dx,h2,h4,h5⟩)⟩⟩⟩
 have b1:b≠x:=ne_of_none q hx
 rw[Ap h2] at h1
 rw[h3 b b1 (ne_of_none q h1),Ap b1]
 exact q
theorem Ys (k:t σ H fun vs H1=>a59 C vs H1 Q):ae3 C t σ H Q:=k
theorem ah7 (hz:vs.length<=8)(k:∀ x H',H x=none->Same H H'->ExA H' x C []->Q (.ref x) H'):a59 C vs H Q:=
 ⟨hz,fun x hx=>k x _ hx (fun b u q=>by rw[Ap (ne_of_none q hx)];exact q) (.inl ⟨rfl,A9⟩)⟩
theorem Jy {n' b:Bool}(h:ExB n' H a C fs)(c:XC K C)(e:PySem.W.kitOne K (.ref C) (.ref G)=some b)(k:Q (.bl b) H):aj1 K [.ref a,.ref G] H Q:=⟨n',a,C,fs,b,h,c,.inl ⟨G,rfl,e⟩,k⟩
theorem Yl {n' b:Bool}{T:String}(h:ExB n' H a C fs)(c:XC K C)(e:PySem.W.kitOne K (.ref C) (.type T)=some b)(k:Q (.bl b) H):aj1 K [.ref a,.ty T] H Q:=⟨n',a,C,fs,b,h,c,.inr (.inl ⟨T,rfl,e⟩),k⟩
end
theorem Rt {K:PySem.W.Frag}{C B:Addr}(hm:G1 K C B=true):PySem.W.kitOne K (.ref C) (.type "ValueError")=some true:=by
 obtain⟨cd,hc,hx⟩:=PySem.W.any_some hm
 unfold PySem.W.kitOne
 rw[if_neg (by rw[beq_eq_false_iff_ne.mpr (by intro q;cases q)];decide)]
 unfold PySem.W.kitCls
 dsimp only
 rw[if_pos (by decide +kernel)]
 show PySem.W.mroIn K C _=_
 unfold PySem.W.mroIn
 rw[hc,Option.bind_some,beq_iff_eq.mp hx,if_neg (by simp),List.contains_cons,List.contains_cons,show xB.contains (Value.type "ValueError")=true by decide +kernel,Bool.or_true,Bool.or_true]
structure Lft (fs:List Addr)(a:Addr)(oe:Obj)(old:List Addr)(h h':Heap):Prop where
 keep:∀ b o,b∉fs->b≠a->b∉old->h.get? b=some o->h'.get? b=some o
 slot:∀ b o,b∈fs->h.get? b=some o->∃ sl,h'.get? b=some { o with slots:=sl }
 there:∀ b o,h.get? b=some o->∃ o',h'.get? b=some o'
 tr:∃ oe' vs T oT ts,h'.get? a=some oe'/\oe'.cls=oe.cls/\oe'.dict=oe.dict/\oe'.slots=oe.slots/\oe'.data = .fields vs/\vs[1]? = some (.ref T)/\T≠a/\h.get? T=none/\h'.get? T=some oT/\oT.data = .fields ts/\ts[3]? = some .none
section
variable {M:Model}{A:Around}{E:Value->Shared->Prop}{s:Shared}{base:Heap}{env:Env}{outer:List Env}{L a:Addr}{oe:Obj}{vs:Array Value}{Q:Unit->Shared->Prop}
theorem Sr (o:Obj)(g:Array Value->Array Value):(o.mapFields g).dict=o.dict/\(o.mapFields g).slots=o.slots/\(o.mapFields g).cls=o.cls:=by
 obtain⟨c,d,dt,sl⟩:=o
 cases dt<;>exact⟨rfl,rfl,rfl⟩
theorem Ps {head:Value}{hadNext:Bool}(hfr:A.frames=some (env :: outer))(hl:s.heap.FunFrames base (env :: outer))(hf:env.frame=some L)(he:s.heap.get? a=some oe)(hd:oe.data = .fields vs)(hsz:1<vs.size)
  (h:∀ h',Lft (frs (env :: outer)) a oe [] s.heap h'->Q () { s with heap:=h' }) :
  wpAny M A (do let x <- frameOf env;let pl <- entryPlaceOf L hadNext;let b <- EntryCells.newEntry head x .none (rawInt L) .none pl;setField (.ref a) 1 b) (fun _ s'=>wpAny M A (setFlight (.ref a) none) Q E s') E s:=by
 have ha:a∉frs (env :: outer):=fun hm=>by
  obtain⟨_,o,ho,hnf⟩:=hl.mem hm
  rw[he] at ho;cases ho;exact hnf vs hd
 refine wpAny_bind (wpAny_frameOf_fun hfr hl hf fun h1 k1=>?_)
 refine wpAny_bind (wpAny_entryPlaceOf fun pl hpl=>?_)
 unfold EntryCells.newEntry newFields
 refine wpAny_bind (wpAny_newObj_type ?_ (hpl.sizeOk5 _ _ _ _ _))
 generalize hob:(Obj.mk (Value.type "traceback") none (Data.fields ([head,Value.ref L,Value.none,rawInt L,Value.none]++(if pl.isEmpty then List.replicate 6 Value.none else pl)).toArray) #[]:Obj)=ob
 have obd:ob.data = .fields ([head,Value.ref L,Value.none,rawInt L,Value.none]++(if pl.isEmpty then List.replicate 6 Value.none else pl)).toArray:=by rw[<- hob]
 have hob2:ob.isFreed=false:=Obj.isFreed_of_fields obd
 have he1:h1.get? a=some oe:=(k1.2.1 a ha).trans he
 have he2:=Heap.get?_push_of_some (h:=h1) ob he1
 refine wpAny_setField he2 hd hsz ?_
 have hTe:h1.objs.size≠a:=Nat.ne_of_gt (Heap.lt_size he1)
 have d3:=Obj.data_mapFields hd (·.setIfInBounds 1 (Value.ref h1.objs.size))
 have he3:=Heap.get?_update_self (Obj.mapFields (·.setIfInBounds 1 (Value.ref h1.objs.size))) he2 (Obj.isFreed_of_fields d3)
 have hT3:=(Heap.get?_update_other (h1.push ob) (Obj.mapFields (·.setIfInBounds 1 (Value.ref h1.objs.size))) (Ne.symm hTe)).trans (Heap.get?_push_size h1 hob2)
 unfold setFlight
 refine wpAny_bind (wpAny_field he3 d3 (x:=.ref h1.objs.size) (by simp[hsz]) ?_)
 rw[if_pos (show(Value.ref h1.objs.size != Value.none)=true from by simp)]
 refine wpAny_setField hT3 obd (by simp only[List.size_toArray,List.length_append,List.length_cons,List.length_nil]<;>omega) (h _ ?_)
 have kp:∀ b o,b≠a->h1.get? b=some o->(((h1.push ob).update a (Obj.mapFields (·.setIfInBounds 1 (Value.ref h1.objs.size)))).update h1.objs.size (Obj.mapFields (·.setIfInBounds 3 ((none:Option Addr).elim Value.none fun f=>rawInt f)))).get? b=some o:=fun b o hbe hb=>by
  rw[Heap.get?_update_other _ _ (Nat.ne_of_gt (Heap.lt_size hb)),Heap.get?_update_other _ _ (Ne.symm hbe)]
  exact Heap.get?_push_of_some _ hb
 have hea:=(Heap.get?_update_other _ (Obj.mapFields (·.setIfInBounds 3 ((none:Option Addr).elim Value.none fun f=>rawInt f))) hTe).trans he3
 refine⟨fun b o hb hba _ q=>kp b o hba ((k1.2.1 b hb).trans q),fun b o hb q=>?_,fun b o q=>?_,?_⟩
 . obtain⟨sl,z⟩:=k1.2.2 b o q
   exact⟨sl,kp b _ (fun w=>ha (w ▸ hb)) z⟩
 . by_cases w:b=a
   . subst w;exact⟨_,hea⟩
   obtain⟨sl,z⟩:=k1.2.2 b o q
   exact⟨_,kp b _ w z⟩
 obtain⟨m1,m2,m3⟩:=Sr oe (·.setIfInBounds 1 (Value.ref h1.objs.size))
 refine⟨_,_,h1.objs.size,_,_,hea,m3,m1,m2,d3,by simp[hsz],hTe,Heap.get?_none_of_le (by rw[k1.1];exact Nat.le_refl _),Heap.get?_update_self _ hT3 (Obj.isFreed_of_fields (Obj.data_mapFields obd _)),Obj.data_mapFields obd _,?_⟩
 rcases hpl with rfl | ⟨_,_,_,_,_,_,_,rfl⟩<;>simp
theorem V4 (hfr:A.frames=some (env :: outer))(hl:s.heap.FunFrames base (env :: outer))(hf:env.frame=some L)(he:s.heap.get? a=some oe)(hd:oe.data = .fields vs)(h1:vs[1]? = some .none)
  (h:∀ h',Lft (frs (env :: outer)) a oe [] s.heap h'->Q () { s with heap:=h' }):wpAny M A (leaving env (.ref a)) Q E s:=by
 unfold leaving noteFrame
 simp only[hf]
 refine wpAny_bind (wpAny_bind (wpAny_field he hd h1 ?_))
 rw[if_neg (by decide)]
 exact Ps hfr hl hf he hd (Array.getElem?_eq_some_iff.mp h1).1 h
theorem Px {T:Addr}{oT:Obj}{ts:Array Value}(hfr:A.frames=some (env :: outer))(hl:s.heap.FunFrames base (env :: outer))(hf:env.frame=some L)(he:s.heap.get? a=some oe)(hd:oe.data = .fields vs)(h1:vs[1]? = some (.ref T))
  (hTe:T≠a) (hT:s.heap.get? T=some oT) (hdT:oT.data = .fields ts) (h3:ts[3]? = some .none)
  (h:∀ h',Lft (frs (env :: outer)) a oe [T] s.heap h'->Q () { s with heap:=h' }):wpAny M A (noteFrame (.ref a) env) (fun _ s'=>wpAny M A (setFlight (.ref a) none) Q E s') E s:=by
 unfold noteFrame
 simp only[hf]
 refine wpAny_bind (wpAny_field he hd h1 ?_)
 rw[if_pos (show(Value.ref T != Value.none)=true from by simp)]
 refine wpAny_bind (wpAny_field hT hdT h3 ?_)
 rw[if_neg (show ¬ ((Value.none==rawInt L)=true) from by simp[rawInt])]
 refine wpAny_bind (wpAny_setField hT hdT (Array.getElem?_eq_some_iff.mp h3).1 ?_)
 have ot:∀ b,b≠T->(s.heap.update T (Obj.mapFields (·.setIfInBounds 3 Value.none))).get? b=s.heap.get? b:=fun b hb=>Heap.get?_update_other _ _ (Ne.symm hb)
 have tt:=Heap.get?_update_self (Obj.mapFields (·.setIfInBounds 3 Value.none)) hT (Obj.isFreed_of_fields (Obj.data_mapFields hdT _))
 have nT:∀ b o,s.heap.get? b=some o->(∀ us,o.data ≠ .fields us)->b≠T:=fun b o hb hnf q=>by
  rw[q,hT] at hb;cases hb;exact hnf ts hdT
 have fT:T∉frs (env :: outer):=fun hm=>by
  obtain⟨_,o,ho,hnf⟩:=hl.mem hm
  exact nT T o ho hnf rfl
 refine Ps (hl:=hl.of_keeps fun b o hb hnf=>⟨o,(ot b (nT b o hb hnf)).trans hb,rfl⟩) hfr hf ((ot a (Ne.symm hTe)).trans he) hd (Array.getElem?_eq_some_iff.mp h1).1 fun h' l=>h h' ?_
 obtain⟨x1,x2,x3,oe',us,T',oT',ts',q1,q2,q3,q4,q5,q6,q7,q8,q9⟩:=l
 refine⟨fun b o hb hba hbt q=>x1 b o hb hba (by simp) ((ot b fun z=>hbt (by simp[z])).trans q),fun b o hb q=>x2 b o hb ((ot b fun z=>fT (z ▸ hb)).trans q),fun b o q=>?_,oe',us,T',oT',ts',q1,q2,q3,q4,q5,q6,q7,?_,q9⟩
 . by_cases z:b=T
   . subst z;exact x3 _ _ tt
   exact x3 b o ((ot b z).trans q)
 by_cases z:T'=T
 . rw[z,tt] at q8;cases q8
 rw[<- ot T' z];exact q8
theorem a58 {T:Addr}{oT:Obj}{ts:Array Value}(hfr:A.frames=some (env :: outer))(hl:s.heap.FunFrames base (env :: outer))(hf:env.frame=some L)(he:s.heap.get? a=some oe)(hd:oe.data = .fields vs)(h1:vs[1]? = some (.ref T))
  (hTe:T≠a) (hT:s.heap.get? T=some oT) (hdT:oT.data = .fields ts) (h3:ts[3]? = some .none)
  (h:∀ h',Lft (frs (env :: outer)) a oe [T] s.heap h'->Q () { s with heap:=h' }):wpAny M A (leaving env (.ref a)) Q E s:=by
 unfold leaving
 exact wpAny_bind (Px hfr hl hf he hd h1 hTe hT hdT h3 h)
end
def Tra (a:Addr)(H':Hp)(h0 h:Heap):Prop:=∃ oe vs T oT ts,h.get? a=some oe/\oe.data = .fields vs/\vs[1]? = some (.ref T)/\T≠a/\h.get? T=some oT/\oT.data = .fields ts/\ts[3]? = some .none/\H' T=none/\h0.get? T=none
def CX1 (P:Program)(w:World):CXT:=fun outer H s E e s'=>∃ a C od H',e = .ref a/\s'.os=s.os/\AllBare s'.gens/\Un (frs outer) [] H H' s.heap s'.heap/\HOk P w H' s'.heap/\H' a=some (exG false a C od)/\s.heap.get? a=none/\Tra a H' s.heap s'.heap/\E (.ref a) none H'
section
variable {P:Program}{w:World}{fs:List Addr}{a C:Addr}{od:Option Addr}{oe:Obj}{old:List Addr}{h h':Heap}{H:Hp}{n:Bool}
theorem Lft.hok (l:Lft fs a oe old h h')(ok:HOk P w H h)(he:h.get? a=some oe)(ha:H a=some (exG n a C od))(hfs:∀ b∈fs,H b=none)(hold:∀ b∈old,H b=none):HOk P w (upd H a (exG false a C od)) h':=fun b u q=>by
 have hu:∀ c z,H c=some z->c≠a->upd H a (exG false a C od) c=some z:=fun c z r ne=>by rw[Ap ne];exact r
 by_cases hb:b=a
 . subst hb
   rw[A9] at q;cases q
   obtain⟨vs,sl,e1,_⟩:=exG_ok.mp (ok b _ ha)
   rw[he] at e1;cases e1
   obtain⟨oe',us,T,oT,ts,q1,q2,q3,q4,q5,_⟩:=l.tr
   obtain⟨c,d,dt,s4⟩:=oe'
   dsimp only at q2 q3 q4 q5
   subst q2 q3 q4 q5
   exact exG_ok.mpr ⟨us,_,q1,fun z=>Bool.noConfusion z⟩
 rw[Ap hb] at q
 refine(ok b u q).stay (fun c v hc r=>?_) (fun c r=>hu c _ r fun z=>?_) fun c xs r=>hu c _ r fun z=>?_
 . have hcn:∃ z,H c=some z:=by
    rcases hc with hc | hc
    . exact⟨u,hc ▸ q⟩
    exact⟨_,hc⟩
   obtain⟨z,hz⟩:=hcn
   refine l.keep c v (fun m=>by rw[hfs c m] at hz;cases hz) (fun e=>?_) (fun m=>by rw[hold c m] at hz;cases hz) r
   subst e
   rcases hc with hc | hc
   . exact hb hc.symm
   rw[ha] at hc;cases hc
 . rw[z,ha] at r;cases r
 rw[z,ha] at r;cases r
end
section
variable {P:Program}{w:World}{K:PySem.W.Frag}{mg:Str->Option Value}{base:Heap}{N:List Str}{qual:Str}{scope:Scope}{f:Addr}{cd:Value}{A:Around}{outer:List Env}{s₀:Shared}{H₀:Hp}{E:XK}
theorem Ug {h h':Heap}:∀ {l:List Env},h.FunFrames base l->(∀ b∈frs l,∀ o,h.get? b=some o->∃ sl,h'.get? b=some { o with slots:=sl })->h'.FunFrames base l
 | [],_,_=>True.intro
 | env :: r,hl,k=>by
   obtain⟨hk,⟨L,o,hf,hn,ho,hd⟩,hr⟩:=hl
   have e:frs (env :: r)=L :: frs r:=by unfold frs;rw[List.filterMap_cons,hf]
   obtain⟨sl,z⟩:=k L (by rw[e];exact List.mem_cons_self) o ho
   exact⟨hk,⟨L,_,hf,hn,z,hd⟩,Ug hr fun b hb=>k b (by rw[e];exact List.mem_cons_of_mem _ hb)⟩
theorem ad3 {CX:CXT}{pins:List (Addr×Obj)}{σ:St}{H1 H2:Hp}{s1 s2:Shared}{h3:Heap}{a C:Addr}{od:Option Addr}{oe:Obj}{old:List Addr}{n:Bool}(I:Inv (Rp CX P w K mg base N qual scope f cd A outer s₀ H₀ E) pins σ H1 s1)
  (os:s2.os=s1.os) (bare:AllBare s2.gens) (un:Un (frs (envOfC qual scope s₀.heap.objs.size f cd :: outer)) [] H1 H2 s1.heap s2.heap) (ok:HOk P w H2 s2.heap) (ha:H2 a=some (exG n a C od)) (he:s2.heap.get? a=some oe) (hn:s₀.heap.get? a=none) (hold:∀ b∈old,H2 b=none/\s₀.heap.get? b=none)
  (l:Lft (frs (envOfC qual scope s₀.heap.objs.size f cd :: outer)) a oe old s2.heap h3) (q:E (.ref a) none (upd H2 a (exG false a C od))) :
  CX1 P w outer H₀ s₀ E (.ref a) { s2 with heap:=h3 }:=by
 have stk:∀ b∈frs (envOfC qual scope s₀.heap.objs.size f cd :: outer),b=s₀.heap.objs.size\/b∈frs outer:=fun b hb=>by
  rcases List.mem_cons.mp (I.stkSub b hb) with z | z
  . exact .inl z
  exact .inr z
 have fr2:∀ b∈frs (envOfC qual scope s₀.heap.objs.size f cd :: outer),H2 b=none:=fun b hb=>by
  obtain⟨_,o,ho,_⟩:=I.stack.mem hb
  exact un.free b o ho (I.stkFree b hb) (by simp)
 obtain⟨oe',us,T,oT,ts,q1,q2,q3,q4,q5,q6,q7,q8,q9,q10,q11⟩:=l.tr
 have nl:∀ b o,s₀.heap.get? b=some o->b≠s₀.heap.objs.size:=fun b o z=>Nat.ne_of_lt (Heap.lt_size z)
 have na:∀ b o,s₀.heap.get? b=some o->b≠a:=fun b o z e=>by rw[e,hn] at z;cases z
 have no:∀ b o,s₀.heap.get? b=some o->b∉old:=fun b o z e=>by rw[(hold b e).2] at z;cases z
 have tn:H2 T=none:=Ov ok q8
 have t0:s₀.heap.get? T=none:=by
  cases z:s₀.heap.get? T with
  | none=>rfl
  | some o=>
    obtain⟨o1,z1⟩:=I.base.there T o z (by intro m;cases m)
    obtain⟨o2,z2⟩:=un.there T o1 z1 (by simp)
    rw[q8] at z2;cases z2
 have hu:∀ c z,H2 c=some z->z≠exG n a C od->upd H2 a (exG false a C od) c=some z:=fun c z r ne=>by rw[Ap fun e=>ne (by rw[e,ha] at r;exact(Option.some.inj r).symm)];exact r
 refine⟨a,C,od,upd H2 a (exG false a C od),rfl,os.trans I.os,bare,⟨fun b o z nz hb _=>?_,fun b o z nz hb _=>?_,fun b o z nz _=>?_,fun b o z _=>?_,fun b xs z=>?_,fun b o u z=>?_,fun b ps z=>?_⟩,l.hok ok he ha fr2 (fun b m=>(hold b m).1),A9,hn,⟨oe',us,T,oT,ts,q1,q5,q6,q7,q9,q10,q11,by rw[Ap q7];exact tn,t0⟩,q⟩
 . have z1:=I.base.keep b o z nz hb (by intro m;cases m)
   have n1:=I.base.free b o z nz (by intro m;cases m)
   have hb2:b∉frs (envOfC qual scope s₀.heap.objs.size f cd :: outer):=fun m=>(stk b m).elim (nl b o z) hb
   exact l.keep b o hb2 (na b o z) (no b o z) (un.keep b o z1 n1 hb2 (by simp))
 . obtain⟨sl,z1⟩:=I.base.slot b o z nz hb (by intro m;cases m)
   have n1:=I.base.free b o z nz (by intro m;cases m)
   obtain⟨sl2,z2⟩:=un.any z1 n1 (by simp)
   by_cases m:b∈frs (envOfC qual scope s₀.heap.objs.size f cd :: outer)
   . obtain⟨sl3,z3⟩:=l.slot b _ m z2
     exact⟨sl3,z3⟩
   exact⟨sl2,l.keep b _ m (na b o z) (no b o z) z2⟩
 . obtain⟨o1,z1⟩:=I.base.there b o z (by intro m;cases m)
   have n1:=I.base.free b o z nz (by intro m;cases m)
   show upd H2 a _ b=none
   rw[Ap (na b o z)]
   exact un.free b o1 z1 n1 (by simp)
 . obtain⟨o1,z1⟩:=I.base.there b o z (by intro m;cases m)
   obtain⟨o2,z2⟩:=un.there b o1 z1 (by simp)
   exact l.there b o2 z2
 . exact hu b _ (un.tups b xs (I.base.tups b xs z)) (fun e=>nomatch e)
 . exact hu b _ (un.frzs b o u (I.base.frzs b o u z)) (fun e=>nomatch e)
 obtain⟨m1,z1⟩:=I.base.tbls b ps z
 obtain⟨m2,z2⟩:=un.tbls b _ z1
 exact⟨m1++m2,by rw[<- Array.append_assoc];exact hu b _ z2 (fun e=>nomatch e)⟩
theorem al4 (hfr:scope.kind ≠ .module)(hE:∀ a H C od,H a=some (exG false a C od)->E (.ref a) none H->E (.ref a) none (upd H a (exG false a C od))):Fu (CX1 P w) (Rp (CX1 P w) P w K mg base N qual scope f cd A outer s₀ H₀ E) E:=by
 intro pins σ H1 s1 e s' I hq
 obtain ⟨a,C,od,H2,rfl,os,bare,un,ok,ha,hn,⟨oe,vs,T,oT,ts,t1,t2,t3,t4,t5,t6,t7,t8,t9⟩,q⟩:=hq
 have hn0:s₀.heap.get? a=none:=by
  cases z:s₀.heap.get? a with
  | none=>rfl
  | some o=>
    obtain⟨o1,z1⟩:=I.base.there a o z (by intro m;cases m)
    rw[hn] at z1;cases z1
 have hT0:s₀.heap.get? T=none:=by
  cases z:s₀.heap.get? T with
  | none=>rfl
  | some o=>
    obtain⟨o1,z1⟩:=I.base.there T o z (by intro m;cases m)
    rw[t9] at z1;cases z1
 have fun2:s'.heap.FunFrames base (envOfC qual scope s₀.heap.objs.size f cd :: outer):=Ug I.stack fun b hb o ho=>un.any ho (I.stkFree b hb) (by simp)
 refine a58 (base:=base) (L:=s₀.heap.objs.size) (I.ok.frames) fun2 rfl t1 t2 t3 t4 t5 t6 t7 fun h3 l=>?_
 exact ad3 I os bare un ok ha t1 hn0 (fun b hb=>by simp at hb;subst hb;exact⟨t8,hT0⟩) l (hE a H2 C od ha q)
theorem Qf {H:Hp}{a:Addr}{o:HO}(h:H a=some o):upd H a o=H:=by
 funext b
 unfold upd
 split
 . rename_i e;rw[e,h]
 rfl
theorem Ue:Fu (CX1 P w) (Rp (CX1 P w) P w K mg base N qual scope f cd A outer s₀ H₀ E) E:=by
 intro pins σ H1 s1 e s' I hq
 exact al4 (by have:=I.ok.kind;show scope.kind≠_;rw[show scope.kind = .function from this];decide) (fun a H C od h q=>by rw[Qf h];exact q) pins σ H1 s1 e s' I hq
def Q7 (K:PySem.W.Frag)(H0:Hp)(E:XK)(x:V)(H1:Hp):Prop:=∃ a C od,x = .ref a/\H1 a=some (exO a C od)/\XC K C/\H0 a=none/\E (.ref a) none (upd H1 a (exG false a C od))
def Xe (K:PySem.W.Frag)(H0:Hp)(E:XK)(t:TE):TS:=fun D σ H=>t σ H fun x H1=>Q7 K H0 E x H1
theorem Pk {ex:Expr}{t:TE}{pos:Pos}{X:Cx}(hX:X=Rp (CX1 P w) P w K mg base N qual scope f cd A outer s₀ H₀ E)(he:PE X ex t):PS X (.Raise (some ex) none pos) (Xe K H₀ E t):=by
 subst hX
 intro pins s σ H D I h
 rw[arm_exec_Raise]
 refine wpAny_bind (wpAny_standAt ?_)
 unfold raiseStmt
 simp only[evalOpt,Option.map]
 refine wpAny_bind (wpAny_bind (thn (he pins s σ H _ I h) fun v s1 ⟨x,H1,I1,rx,a,C,od,ex',ha,hc,h0,q⟩=>wpAny_bind (wpAny_standAt (wpAny_pure ?_))))
 subst ex'
 obtain rfl:v=Value.ref a:=rx
 obtain⟨vs,sl,hx,hv⟩:=exO_ok.mp (I1.hok a _ ha)
 have hv:=hv rfl
 obtain⟨nm,qn,N',bs,bm,sn,sub,ab,col,dd,k0,k1,k2,k3,k5,hl,htl⟩:=Gc hc.ex
 have hC:=I1.kIn _ _ hl
 have hcB:(Value.ref C :: bm).contains (.type "BaseException")=true:=by rw[List.contains_cons,Y4 (PySem.W.tail_of_in I1.kIn htl),Bool.or_true]
 have fin:(Rp (CX1 P w) P w K mg base N qual scope f cd A outer s₀ H₀ E).xe (.ref a) s1:=by
  refine V4 (base:=base) (L:=s₀.heap.objs.size) I1.ok.frames I1.stack rfl hx rfl hv fun h3 l=>?_
  have hn0:s₀.heap.get? a=none:=by
   cases z:s₀.heap.get? a with
   | none=>rfl
   | some o=>
     have:=I1.base.free a o z h0 (by intro m;cases m)
     rw[ha] at this;cases this
  exact ad3 I1 rfl I1.bare Un.refl I1.hok ha hx hn0 (by simp) l q
 obtain⟨hh,g,d,tk,os⟩:=s1
 repeat (first | (with_reducible refine wpAny_loadPart_at hx ?_) | (with_reducible refine wpAny_loadPart_at hC ?_) | (with_reducible refine wpAny_isSubtype_exc hC ?_;rw[hcB]) | (with_reducible refine wpAny_field hx rfl hv ?_) | wp_step)
 exact wpAny_raiseNew_none (I1.ok.hd rfl) fin
end
section
variable {X:Cx}{pins:List (Addr×Obj)}{σ:St}{H:Hp}{s:Shared}
theorem Ld {M:Model}{A:Around}{E:Value->Shared->Prop}{i:Nat}{x:Str}{pos:Pos}{Q:Unit->Shared->Prop}(I:Inv X pins σ H s)(hN:X.N.Nodup)(hi:X.N[i]? = some x)(hk:X.env.scope.names.lookup x=some .local)
  (h:∀ s',Inv X pins (σ.set i none) H s'->Q () s'):wpAny M A (do bindName X.env x .none;unbindBehindTheSuite X.env x pos) Q E s:=by
 refine wpAny_bind (wpAny_bindName (Iw (v:=.non) (u:=.none) I hN hi (.inl hk) rfl (fun s1 I1=>?_) (.inr hk)))
 unfold unbindBehindTheSuite
 refine wpAny_onRaise ?_
 obtain⟨m,hn,hl⟩:=id I1.loc
 have hcls:(X.env.scope.kind == .class||(X.env.scope.kind == .module&&X.env.locals != X.env.globals))=false:=by rw[I1.ok.kind];rfl
 have hiσ:i<σ.length:=by rw[I.len];exact(List.getElem?_eq_some_iff.mp hi).1
 obtain⟨u,ru,lu⟩:=hl i x .non hi (List.getElem?_set_self hiσ) (.inl hk)
 have hmx:m x=some u:=by
  rcases lu with ⟨_,z⟩ | ⟨z,_⟩
  . exact z
  have z':X.env.scope.names.lookup x=some .cell\/X.env.scope.names.lookup x=some .free:=z
  rw[hk] at z'
  rcases z' with z' | z'<;>cases z'
 refine wpAny_unbindName_local hk hn hmx hcls fun h' w hn' hs=>h _ ?_
 obtain⟨oL,_,_,hoL,_⟩:=id hn
 have cne:=I1.cne
 refine⟨I1.ok,I1.os,I1.bare,⟨fun b o e n hb hx=>?_,fun b o e n hb hx=>?_,I1.base.free,fun b o e hx=>?_,I1.base.tups,I1.base.frzs,I1.base.tbls⟩,⟨_,hn',fun j y v' e1 e2 e3=>?_⟩,fun y c e=>?_,I1.free,I1.freeC,fun p hp=>?_,fun b ob e=>?_,by simpa using I.len⟩
 . exact(hs.2 b (Nat.ne_of_lt (Nat.lt_of_lt_of_le (Heap.lt_size e) I1.ok.above))).trans (I1.base.keep b o e n hb hx)
 . obtain⟨sl,e1⟩:=I1.base.slot b o e n hb hx
   exact⟨sl,(hs.2 b (Nat.ne_of_lt (Nat.lt_of_lt_of_le (Heap.lt_size e) I1.ok.above))).trans e1⟩
 . obtain⟨o',e1⟩:=I1.base.there b o e hx
   exact⟨o',(hs.2 b (Nat.ne_of_lt (Nat.lt_of_lt_of_le (Heap.lt_size e) I1.ok.above))).trans e1⟩
 . by_cases hj:j=i
   . subst hj
     rw[List.getElem?_set_self hiσ] at e2
     cases e2
   rw[List.getElem?_set_ne (Ne.symm hj)] at e2
   obtain⟨u',r',q⟩:=hl j y v' e1 (by rw[List.getElem?_set_ne (Ne.symm hj)];exact e2) e3
   refine⟨u',r',?_⟩
   rcases q with ⟨k,e⟩ | ⟨k,c,e,z⟩
   . refine .inl ⟨k,?_⟩
     have ne:y≠x:=fun e=>hj (Lz hN e1 (e ▸ hi))
     simp[ne,e]
   exact .inr ⟨k,c,e,z.sameBut hs (cne y c e)⟩
 . obtain⟨w',z⟩:=I1.cell y c e
   exact⟨w',z.sameBut hs (cne y c e)⟩
 . obtain⟨e,n,ne,nf,d⟩:=I1.pin p hp
   exact⟨(hs.2 p.1 ne).trans e,n,ne,nf,d⟩
 refine(I1.hok b ob e).stay (fun c w' hc q=>(hs.2 c ?_).trans q) (fun _ q=>q) fun _ _ q=>q
 rintro rfl
 rcases hc with hc | hc
 . rw[<- hc] at e;rw[I1.free] at e;cases e
 rw[I1.free] at hc;cases hc
abbrev Cx.tri (X:Cx)(pins:List (Addr×Obj))(E:Value->Shared->Prop):Cx:={ X with xe:=E,pn:=X.pn++pins }
abbrev Cx.hnd (X:Cx)(a:Addr)(E:Value->Shared->Prop):Cx:={ X with A:=X.A.mark (some (.ref a)),calm:=false,xe:=E }
theorem Inv.tri (I:Inv X pins σ H s)(E:Value->Shared->Prop):Inv (X.tri pins E) [] σ H s:=
 ⟨⟨I.ok.mod,I.ok.kind,I.ok.glob,I.ok.blt,I.ok.above,I.ok.inj,I.ok.has,I.ok.cab,I.ok.hd,I.ok.frames,I.ok.stk,I.ok.exf,I.ok.bs,I.ok.bsz,I.ok.noex,I.ok.exfs,I.ok.funs,I.ok.frf⟩,I.os,I.bare,I.base,I.loc,I.cell,I.free,I.freeC,fun p hp=>I.pin p (by simpa using hp),I.hok,I.len⟩
theorem Inv.untri {E:Value->Shared->Prop}{more:List (Addr×Obj)}(I:Inv (X.tri pins E) more σ H s):Inv X pins σ H s:=
 ⟨⟨I.ok.mod,I.ok.kind,I.ok.glob,I.ok.blt,I.ok.above,I.ok.inj,I.ok.has,I.ok.cab,I.ok.hd,I.ok.frames,I.ok.stk,I.ok.exf,I.ok.bs,I.ok.bsz,I.ok.noex,I.ok.exfs,I.ok.funs,I.ok.frf⟩,I.os,I.bare,I.base,I.loc,I.cell,I.free,I.freeC,fun p hp=>I.pin p (List.mem_append_left _ hp),I.hok,I.len⟩
theorem Inv.hnd (I:Inv X pins σ H s)(a:Addr)(E:Value->Shared->Prop):Inv (X.hnd a E) pins σ H s:=
 ⟨⟨I.ok.mod,I.ok.kind,I.ok.glob,I.ok.blt,I.ok.above,I.ok.inj,I.ok.has,I.ok.cab,fun z=>Bool.noConfusion z,I.ok.frames,I.ok.stk,I.ok.exf,I.ok.bs,I.ok.bsz,I.ok.noex,I.ok.exfs,I.ok.funs,I.ok.frf⟩,I.os,I.bare,I.base,I.loc,I.cell,I.free,I.freeC,I.pin,I.hok,I.len⟩
theorem Inv.unhnd {a:Addr}{E:Value->Shared->Prop}(hd:X.calm=true->X.A.handled=none)(I:Inv (X.hnd a E) pins σ H s):Inv X pins σ H s:=
 ⟨⟨I.ok.mod,I.ok.kind,I.ok.glob,I.ok.blt,I.ok.above,I.ok.inj,I.ok.has,I.ok.cab,hd,I.ok.frames,I.ok.stk,I.ok.exf,I.ok.bs,I.ok.bsz,I.ok.noex,I.ok.exfs,I.ok.funs,I.ok.frf⟩,I.os,I.bare,I.base,I.loc,I.cell,I.free,I.freeC,I.pin,I.hok,I.len⟩
end
section
variable {M:Model}{A:Around}{E:Value->Shared->Prop}{s:Shared}{K:PySem.W.Frag}{C B a:Addr}{oe:Obj}{Q:Bool->Shared->Prop}
theorem Wq (X:K.In s.heap)(c:XC K C)(b:XC K B)(hm:PySem.W.mroIn K C (.ref B)=some true)(he:s.heap.get? a=some oe)(hc:oe.cls = .ref C)(hq:Q true s):wpAny M A (excMatches (.ref a) (.ref B)) Q E s:=by
 obtain⟨nm,qn,N,bs,bm,sn,sub,ab,col,dd,k0,k1,k2,k3,k5,hl,htl⟩:=Gc b.ex
 have hB:=X _ _ hl
 have hcB:(Value.ref B :: bm).contains (.type "BaseException")=true:=by rw[List.contains_cons,Y4 (PySem.W.tail_of_in X htl),Bool.or_true]
 have f:=tc_notTuple
 have l1:PySem.W.Looks M s.heap (isSubtype (.ref C) (.ref B)) true:=PySem.W.looks_mroIn X hm
 obtain⟨h,g,d,t,os⟩:=s
 unfold excMatches
 repeat (first | (with_reducible refine wpAny_loadPart_at he ?_;rw[hc]) | (with_reducible refine wpAny_loadPart_at hB ?_) | (with_reducible refine wpAny_isSubtype_exc hB ?_;rw[hcB]) | (with_reducible refine l1.at ?_) | wp_step)
 exact hq
end
def ak0 (G:Addr->Hp->Prop):XK:=fun v _ H'=>∃ a,v = .ref a/\G a H'
def sTry (K:PySem.W.Frag)(len i:Nat)(B:Addr)(G:Addr->Hp->Prop)(tb th:TS):TS:=fun D σ H=>tb D σ H/\∀(a:Addr) (H':Hp) (σ':St),σ'.length=len->G a H' ->
 (∃ C od,H' a=some (exG false a C od)/\XC K C/\PySem.W.mroIn K C (.ref B)=some true) /\
  th { nx:=fun σ2 H2=>D.nx (σ2.set i none) H2,rt:=D.rt,bk:=fun σ2 H2=>D.bk (σ2.set i none) H2,ct:=fun σ2 H2=>D.ct (σ2.set i none) H2 } (σ'.set i (some (.ref a))) H'
section
variable {X:Cx}{pins:List (Addr×Obj)}
theorem SP.untri {E:Value->Shared->Prop}{D:Ends}{f:Flow}{s':Shared}(h:SP (X.tri pins E) [] D f s'):SP X pins D f s':=by
 cases f with
 | next=>obtain⟨σ',H',I,q⟩:=h;exact⟨σ',H',I.untri,q⟩
 | brk=>obtain⟨σ',H',I,q⟩:=h;exact⟨σ',H',I.untri,q⟩
 | cont=>obtain⟨σ',H',I,q⟩:=h;exact⟨σ',H',I.untri,q⟩
 | ret u=>obtain⟨v,σ',H',I,r,q⟩:=h;exact⟨v,σ',H',I.untri,r,q⟩
theorem a31 {ts:Array Value}(h:ts[3]? = some .none):ts.setIfInBounds 3 .none=ts:=by
 obtain⟨h1,h2⟩:=Array.getElem?_eq_some_iff.mp h
 refine Array.ext (by simp) fun j j1 j2=>?_
 rw[Array.getElem_setIfInBounds]
 split
 . rename_i e;subst e;exact h2.symm
 rfl
theorem af4 {body suite:List Stmt}{b0:Stmt}{tb th:TS}{n bx:Str}{i:Nat}{B:Addr}{p1 p2 pos:Pos}(G:Addr->Hp->Prop)(hN:X.N.Nodup)(hi:X.N[i]? = some n)(hk:X.env.scope.names.lookup n=some .local)(hg:Gl X bx)(hm:X.mg bx=some (.ref B))(hB:XC X.K B)
  (hst:X.stack=X.env :: X.outer) (hf:X.env.frame=some X.env.locals) (hex:X.ex=[])
  (hb:∀ ps xe,Fu (CX1 X.prog X.w) (X.tri ps xe) (ak0 G)->PSs (X.tri ps xe) body tb) (hs:∀ a xe,PSs (X.hnd a xe) (b0 :: suite) th) (hd:(bx==("__debug__":Str))=false:=by decide) :
  PS X (.Try body [.ExceptHandler (some (.Name bx p1)) (some n) (b0 :: suite) p2] [] [] pos) (sTry X.K X.N.length i B G tb th):=by
 intro pins s σ H D I h
 refine wpAny_Try_except ?_
 refine wpAny_mono (hb pins _ ?_ [] s σ H D (I.tri _) h.1) (fun f s1 hs1=>?_) fun e s1 he=>he
 . intro pins2 σ2 H2 s2 e s3 I2 hq
   obtain⟨a,C',od',H3,rfl,os,bare,un,ok,ha',hn,⟨oe,vs,T,oT,ts,t1,t2,t3,t4,t5,t6,t7,t8,t9⟩,a',ea,q⟩:=hq
   cases ea
   have J2:Inv X pins σ2 H2 s2:=I2.untri
   obtain⟨⟨C,od,ha,hc,hmro⟩,q3⟩:=h.2 a H3 σ2 (by rw[J2.len]) q
   have un':Un (frs X.stack) [] H2 H3 s2.heap s3.heap:=un
   have fun3:s3.heap.FunFrames X.base (X.env :: X.outer):=by
    have:=Ug (h':=s3.heap) J2.stack fun b hb o ho=>un'.any ho (J2.stkFree b hb) (by simp)
    rwa[hst] at this
   have fr3:∀ b∈frs X.stack,H3 b=none:=fun b hb=>by
    obtain⟨_,o,ho,_⟩:=J2.stack.mem hb
    exact un'.free b o ho (J2.stkFree b hb) (by simp)
   refine Px (base:=X.base) (L:=X.env.locals) (by have:=J2.ok.frames;rwa[hst] at this) fun3 hf t1 t2 t3 t4 t5 t6 t7 fun h4 l=>?_
   rw[<- hst] at l
   have ok4:HOk X.prog X.w H3 h4:=by
    have:=l.hok ok t1 ha fr3 (fun b hb=>by simp at hb;subst hb;exact t8)
    rwa[Qf ha] at this
   have un4:Un (frs X.stack) [] H2 H3 s2.heap h4:=by
    have na:∀ b o,s2.heap.get? b=some o->b≠a:=fun b o z e=>by rw[e,hn] at z;cases z
    have nT:∀ b o,s2.heap.get? b=some o->b∉[T]:=fun b o z e=>by simp at e;rw[e,t9] at z;cases z
    refine⟨fun b o z nz hb hx=>l.keep b o hb (na b o z) (nT b o z) (un'.keep b o z nz hb hx),fun b o z nz hb hx=>?_,un'.free,fun b o z hx=>?_,un'.tups,un'.frzs,un'.tbls⟩
    . obtain⟨sl,z1⟩:=un'.slot b o z nz hb hx
      obtain⟨sl2,z2⟩:=l.slot b _ hb z1
      exact⟨sl2,z2⟩
    obtain⟨o1,z1⟩:=un'.there b o z hx
    exact l.there b o1 z1
   have I4:Inv X pins σ2 H3 { s3 with heap:=h4 }:=J2.call' (s':={ s3 with heap:=h4 }) (ch:=[]) os un4 ok4 bare (fun b z=>absurd z (by simp))
   obtain⟨us,sl4,he4,_⟩:=exG_ok.mp (ok4 a _ ha)
   obtain⟨oe',vs',T',oT',ts',q1,q2,q3',q4,q5,q6,q7,q8,q9,q10,q11⟩:=l.tr
   have hd4:X.calm=true->X.A.handled=none:=I.ok.hd
   refine wpAny_handleBy_cons (codeAny_handlers_test ?_) (by intro q;cases q)
   refine Hi (X:=X.hnd a fun _ _=>False) (I4.hnd a _) hg hm ?_ hd
   refine Wq (s:={ s3 with heap:=h4 }) I4.kIn hc hB hmro he4 rfl ?_
   refine codeAny_handlers_suite_as ?_
   have hz:3<ts'.size:=(Array.getElem?_eq_some_iff.mp q11).1
   refine wpAny_setFlight_none q1 q5 q6 q9 q10 hz ?_
   have same:∀ b u,h4.get? b=some u->(h4.update T' (Obj.mapFields (·.setIfInBounds 3 .none))).get? b=some u:=fun b u z=>by
    by_cases e:b=T'
    . subst e
      rw[q9] at z;cases z
      rw[Heap.get?_update_self _ q9 (Obj.isFreed_of_fields (Obj.data_mapFields q10 _))]
      obtain⟨c1,d1,dt1,s1'⟩:=oT'
      dsimp only at q10
      subst q10
      refine congrArg some ?_
      show Obj.mk c1 d1 (Data.fields (ts'.setIfInBounds 3 .none)) s1'=_
      rw[a31 q11]
    rw[Heap.get?_update_other _ _ (Ne.symm e)];exact z
   have I5:Inv X pins σ2 H3 { s3 with heap:=h4.update T' (Obj.mapFields (·.setIfInBounds 3 .none)) }:=I4.kept (t':=s3.toks) same
   refine Iw (X:=X) (v:=.ref a) I5 hN hi (.inl hk) rfl (fun s6 I6=>?_) (.inr hk)
   refine thn (hs a _ pins s6 _ H3 _ (I6.hnd a _) q3) fun f s7 h7=>?_
   cases f with
   | next=>obtain⟨σ7,H7,I7,q7'⟩:=h7;exact Ld (I7.unhnd hd4) hN hi hk fun s8 I8=>⟨_,_,I8,q7'⟩
   | brk=>obtain⟨σ7,H7,I7,q7'⟩:=h7;exact Ld (I7.unhnd hd4) hN hi hk fun s8 I8=>⟨_,_,I8,q7'⟩
   | cont=>obtain⟨σ7,H7,I7,q7'⟩:=h7;exact Ld (I7.unhnd hd4) hN hi hk fun s8 I8=>⟨_,_,I8,q7'⟩
   | ret u=>obtain⟨v,σ7,H7,I7,r7,q7'⟩:=h7;exact Ld (I7.unhnd hd4) hN hi hk fun s8 I8=>⟨v,_,_,I8,r7,q7'⟩
 have hs1:=hs1.untri
 cases f with
 | next=>exact wpAny_pure hs1
 | brk=>exact hs1
 | cont=>exact hs1
 | ret u=>exact hs1
end
def Fnd1 (P:Program)(w:World)(K:PySem.W.Frag)(mg:Str->Option Value)(base:Heap)(k:Nat)(x:Str)(ps:List Str)(sp:Sp):Prop:=
 ∃ f fd,FnOk P w K mg base (CX1 P w) k f fd ps sp/\mg x=some (.ref f)/\PySem.W.keepIn K (.ref f)=true/\Binds K fd ps []
section
variable {X:Cx}{k:Nat}{x:Str}{ps:List Str}{sp:Sp}{e:Expr}{es:List Expr}{t:TA}{p pos:Pos}{E:XK}
theorem Kr (F:Fnd1 X.prog X.w X.K X.mg X.base k x ps sp)(hr:Room k X.A)(hg:Gl X x)(hx:Fu (CX1 X.prog X.w) X E)(ha:PA X (e :: es) t)(hdb:(x==("__debug__":Str))=false:=by decide)
  (he:starEach (e :: es) X.env=(false,eval e X.env) :: starEach es X.env:=by ac_nf) (hpl:(backTo pos (starEach es X.env)).any (·.1)=false:=by ac_nf):PE X (.Call (.Name x p) (e :: es) [] pos) (V8 sp [] E t):=by
 obtain⟨f,fd,h1,h2,h3,h4⟩:=F
 exact Ti h1 hr hg h2 h3 h4 .nil hx ha hdb he hpl
end
section
variable {P:Program}{w:World}{K:PySem.W.Frag}{mg:Str->Option Value}{base:Heap}
theorem Fun.ok1 {x qual:Str}{st:Stmt}{f:Addr}{fd:FuncData}{N ps:List Str}{k:Nat}{sp:Sp}(F:Fun K x qual st f fd)(S:Aq N ps (A4 st))(len:∀ vs H Q E,sp vs H Q E->vs.length=ps.length)
  (hbody:∀(cdv:Value) (A:Around) (outer:List Env) (s:Shared) (H:Hp) (vs:List V) (Q:VK) (E:XK),Room k (A.deeper (envOfC qual (A4 st) s.heap.objs.size f cdv))->sp vs H Q E ->
   ∃ t,PSs (Rp (CX1 P w) P w K mg base N qual (A4 st) f cdv A outer s H E) (Ad st) t/\t { nx:=fun _ H'=>Q .non H',rt:=Q } (Kx N vs) H):FnOk P w K mg base (CX1 P w) (k+1) f fd ps sp:=by
 obtain⟨oc,od,kV,doc,pm,an,cdv,ct,osl,rfl,lk,hcd⟩:=F.ex
 exact af5 lk hcd S len fun A outer s H vs Q E hr hsp=>hbody cdv A outer s H vs Q E hr hsp
end
section
variable {K:PySem.W.Frag}{σ:St}{H H0:Hp}{D:Ends}{t:TE}{C a:Addr}{fs:List (Str×V)}{E:XK}
theorem i_sRaise (k:t σ H fun x H1=>Q7 K H0 E x H1):Xe K H0 E t D σ H:=k
theorem U2 (h:ExA H a C fs)(c:XC K C)(h0:H0 a=none)(k:∀ H2,(∀ b o,b≠a->H b=some o->H2 b=some o)->ExB false H2 a C fs->E (.ref a) none H2):Q7 K H0 E (.ref a) H:=by
 have kp:∀ od b o,b≠a->H b=some o->upd H a (exG false a C od) b=some o:=fun od b o hb q=>by rw[Ap hb];exact q
 rcases h with ⟨e1,h⟩ | ⟨dx,ne,h,g⟩
 . exact⟨a,C,none,rfl,h,c,h0,k _ (kp _) (.inl ⟨e1,A9⟩)⟩
 exact⟨a,C,some dx,rfl,h,c,h0,k _ (kp _) (.inr ⟨dx,ne,A9,kp _ _ _ ne g⟩)⟩
end
section
open Lean
def mWay (s:String):MacroM (TSyntax `tactic):=
 if s == "as" then `(tactic| assumption) else if s == "ar" then `(tactic| with_reducible assumption) else `(tactic| walk_at $(quote s))
def Sx (ts:Array (TSyntax `tactic)):MacroM (TSyntax `tactic):=do
 let ts <- ts.mapM fun t=>`(Lean.Parser.Tactic.tacticSeq| $t:tactic)
 `(tactic| first $[| $ts]*)
def mId (s:String):Ident:=mkIdent ((s.splitOn ".").foldl Name.mkStr Name.anonymous)
def mIs (s:String):MacroM Ident:=do return mkIdent (<- Macro.addMacroScope (.mkSimple s))
def Uc:List String->TSyntax `tactic->MacroM (TSyntax `tactic)
 | [],t=>pure t
 | s :: r,t=>do
   match s.splitOn "=" with
   | [x,y]=>let w <- mWay y;let i <- mIs x;Uc r (<- `(tactic| ($t:tactic;(case $i:ident=>$w:tactic))))
   | _=>Uc r t
def mRow (s:String):MacroM (TSyntax `tactic):=do
 match s.splitOn ": " with
 | [h,c]=>
   match h.splitOn " " with
   | f :: as=>
     let xs <- as.toArray.mapM fun a=>do if a == "_" then `(?_) else `(?$(<- mIs a))
     let u:=Syntax.mkApp (mId f) xs
     let t <- if as.contains "_" then `(tactic| with_reducible refine' $u) else `(tactic| refine' $u)
     Uc (c.splitOn " ") t
   | _=>Macro.throwUnsupported
 | _=>do
   if s == "as" then `(tactic| assumption)
   else if s == "no" then `(tactic| fail "no")
   else `(tactic| exact $(mId s))
def mRows (s:String):MacroM (TSyntax `tactic):=do Sx (<- (s.splitOn " | ").toArray.mapM mRow)
def mAlts (s:String):MacroM (TSyntax `tactic):=do
 let a <- Sx (<- (s.splitOn " ").toArray.mapM fun n=>`(tactic| refine $(mId n) ?_))
 `(tactic| with_reducible $a:tactic)
def mAltG (s:String):MacroM (TSyntax `tactic):=do
 let a <- Sx (<- (s.splitOn " ").toArray.mapM fun n=>`(tactic| refine $(mId n) fun N hN=>?_))
 `(tactic| with_reducible $a:tactic)
end
section
open PySem
theorem same_refl {H:Hp}:Same H H:=Same.refl _
theorem fz_refl {H:Hp}:Fz H H:=Fz.refl _
def Cut (N M:St->Hp->Prop):Prop:=∀ σ H,M σ H->N σ H
section
variable {t u:TS}{te td ty tv:TE}{g:TG}{D:Ends}{σ:St}{H:Hp}
theorem ag0 (k:∀ N:St->Hp->Prop,Cut N (u D)->t { D with nx:=N } σ H):aj7 t u D σ H:=k (u D) fun _ _ h=>h
theorem i_seqAG (k:∀ N:St->Hp->Prop,Cut N (u D)->a73 te g { D with nx:=N } σ H):aj7 (a73 te g) u D σ H:=k (u D) fun _ _ h=>h
theorem i_nxS {i:Nat}{rt:VK}{bk ct:St->Hp->Prop}(k:D.nx (σ.set i none) H):Ends.nx { nx:=fun σ2 H2=>D.nx (σ2.set i none) H2,rt:=rt,bk:=bk,ct:=ct } σ H:=k
theorem i_cutN {N M:St->Hp->Prop}(h:Cut N M)(k:M σ H):N σ H:=h _ _ k
end
theorem ac0 {α:Type}{P:List α->Prop}{us:List α}(hl:us.length=0)(h:P []):P us:=by
 rw[List.length_eq_zero_iff.mp hl];exact h
theorem Yn {α:Type}{P:List α->Prop}{us:List α}(hl:us.length=1)(h:∀ a0:α,P [a0]):P us:=by
 cases us with
 | nil=>cases hl
 | cons a r=>exact ac0 (P:=fun r=>P (a :: r)) (Nat.succ.inj hl) (h a)
theorem Ye {α:Type}{P:List α->Prop}{us:List α}(hl:us.length=2)(h:∀ a0 a1:α,P [a0,a1]):P us:=by
 cases us with
 | nil=>cases hl
 | cons a r=>exact Yn (P:=fun r=>P (a :: r)) (Nat.succ.inj hl) (h a)
theorem Xl {α:Type}{P:List α->Prop}{us:List α}(hl:us.length=3)(h:∀ a0 a1 a2:α,P [a0,a1,a2]):P us:=by
 cases us with
 | nil=>cases hl
 | cons a r=>exact Ye (P:=fun r=>P (a :: r)) (Nat.succ.inj hl) (h a)
theorem Ym {α:Type}{P:List α->Prop}{us:List α}(hl:us.length=4)(h:∀ a0 a1 a2 a3:α,P [a0,a1,a2,a3]):P us:=by
 cases us with
 | nil=>cases hl
 | cons a r=>exact Xl (P:=fun r=>P (a :: r)) (Nat.succ.inj hl) (h a)
theorem ab7 {α:Type}{P:List α->Prop}{us:List α}(hl:us.length=5)(h:∀ a0 a1 a2 a3 a4:α,P [a0,a1,a2,a3,a4]):P us:=by
 cases us with
 | nil=>cases hl
 | cons a r=>exact Ym (P:=fun r=>P (a :: r)) (Nat.succ.inj hl) (h a)
end
section
variable {K:PySem.W.Frag}{x qual:Str}{st:Stmt}{f:Addr}{fd:FuncData}
theorem Ka {p0:Str}(F:Fun K x qual st f fd)(h:∀(kV doc pm:Value) (an:Option Addr) (cdv ct:Value) (u0:Value),bindArgs (PySem.W.fnOf x qual (Ag st) (Ad st) (A4 st) .none kV doc pm an cdv ct) ⟨[u0],[]⟩=pure (([p0]:List Str).zip [u0])):Binds K fd [p0] []:=
 F.binds fun kV doc pm an cdv ct us hl=>Yn (P:=fun us=>bindArgs (PySem.W.fnOf x qual (Ag st) (Ad st) (A4 st) .none kV doc pm an cdv ct) ⟨us,[]⟩=pure (([p0]:List Str).zip us)) hl (h kV doc pm an cdv ct)
theorem Dr {p0 p1:Str}(F:Fun K x qual st f fd)(h:∀(kV doc pm:Value) (an:Option Addr) (cdv ct:Value) (u0 u1:Value),bindArgs (PySem.W.fnOf x qual (Ag st) (Ad st) (A4 st) .none kV doc pm an cdv ct) ⟨[u0,u1],[]⟩=pure (([p0,p1]:List Str).zip [u0,u1])):Binds K fd [p0,p1] []:=
 F.binds fun kV doc pm an cdv ct us hl=>Ye (P:=fun us=>bindArgs (PySem.W.fnOf x qual (Ag st) (Ad st) (A4 st) .none kV doc pm an cdv ct) ⟨us,[]⟩=pure (([p0,p1]:List Str).zip us)) hl (h kV doc pm an cdv ct)
theorem Kl {p0 p1 p2:Str}(F:Fun K x qual st f fd)(h:∀(kV doc pm:Value) (an:Option Addr) (cdv ct:Value) (u0 u1 u2:Value),bindArgs (PySem.W.fnOf x qual (Ag st) (Ad st) (A4 st) .none kV doc pm an cdv ct) ⟨[u0,u1,u2],[]⟩=pure (([p0,p1,p2]:List Str).zip [u0,u1,u2])):Binds K fd [p0,p1,p2] []:=
 F.binds fun kV doc pm an cdv ct us hl=>Xl (P:=fun us=>bindArgs (PySem.W.fnOf x qual (Ag st) (Ad st) (A4 st) .none kV doc pm an cdv ct) ⟨us,[]⟩=pure (([p0,p1,p2]:List Str).zip us)) hl (h kV doc pm an cdv ct)
theorem Y9 {p0 p1 p2 p3:Str}(F:Fun K x qual st f fd)(h:∀(kV doc pm:Value) (an:Option Addr) (cdv ct:Value) (u0 u1 u2 u3:Value),bindArgs (PySem.W.fnOf x qual (Ag st) (Ad st) (A4 st) .none kV doc pm an cdv ct) ⟨[u0,u1,u2,u3],[]⟩=pure (([p0,p1,p2,p3]:List Str).zip [u0,u1,u2,u3])):Binds K fd [p0,p1,p2,p3] []:=
 F.binds fun kV doc pm an cdv ct us hl=>Ym (P:=fun us=>bindArgs (PySem.W.fnOf x qual (Ag st) (Ad st) (A4 st) .none kV doc pm an cdv ct) ⟨us,[]⟩=pure (([p0,p1,p2,p3]:List Str).zip us)) hl (h kV doc pm an cdv ct)
theorem ae1 {p0 p1 p2 p3 p4:Str}(F:Fun K x qual st f fd)(h:∀(kV doc pm:Value) (an:Option Addr) (cdv ct:Value) (u0 u1 u2 u3 u4:Value),bindArgs (PySem.W.fnOf x qual (Ag st) (Ad st) (A4 st) .none kV doc pm an cdv ct) ⟨[u0,u1,u2,u3,u4],[]⟩=pure (([p0,p1,p2,p3,p4]:List Str).zip [u0,u1,u2,u3,u4])):Binds K fd [p0,p1,p2,p3,p4] []:=
 F.binds fun kV doc pm an cdv ct us hl=>ab7 (P:=fun us=>bindArgs (PySem.W.fnOf x qual (Ag st) (Ad st) (A4 st) .none kV doc pm an cdv ct) ⟨us,[]⟩=pure (([p0,p1,p2,p3,p4]:List Str).zip us)) hl (h kV doc pm an cdv ct)
end
def ae8 (K:PySem.W.Frag):R2:=fun x y H Q=>∃ a b xs,x = .ref a/\y = .ref b/\SqL K H a xs/\SqL K H b []/\Q (.bl (!xs.isEmpty)) H
theorem T6 {X:Cx}{K:PySem.W.Frag}(hq:QA X.A)(hK:X.K=K:=by ac_nf):OpR X (compareOp .NotEq) (ae8 K):=by
 subst hK
 intro pins s σ H x y v u Q I rx ry h
 obtain⟨a,b,xs,rfl,rfl,ha,hb,q⟩:=h
 cases rx
 cases ry
 obtain⟨its,rv,la,_⟩:=I.list ha
 obtain⟨its2,rv2,lb,_⟩:=I.list hb
 cases rv2
 have hu:X.A.units<cLine:=by have:=hq.un;omega
 have la':s.heap.IsList a its.toArray:=let ⟨o,n,e1,e2,e3,e4⟩:=la;⟨o,e1,e2,_,e4⟩
 have lb':s.heap.IsList b ([]:List Value).toArray:=let ⟨o,n,e1,e2,e3,e4⟩:=lb;⟨o,e1,e2,_,e4⟩
 cases xs with
 | nil=>
   cases rv
   have r:=SeqAt.RcNeAt.lists (A:=X.A) (s:=s) (e:=fun _=>true) la' lb' rfl hu (fun j h1=>absurd h1 (by simp))
   exact r _ _ _ _ ⟨.bl _,H,I,rfl,q⟩
 | cons x r=>
   cases rv with
   | cons r1 r2=>
     have r:=SeqAt.RcNeAt.lists_lengths (A:=X.A) (s:=s) la' lb' (by simp) hu
     exact r _ _ _ _ ⟨.bl _,H,I,rfl,q⟩
theorem X2 {K:PySem.W.Frag}{H:Hp}{Q:VK}{a b:Addr}{xs:List V}(h:SqL K H a xs)(h':SqL K H b [])(k:Q (.bl (!xs.isEmpty)) H):ae8 K (.ref a) (.ref b) H Q:=⟨a,b,xs,rfl,rfl,h,h',k⟩
section
open PySem.SeqAt PySem.MeetsSeq
variable {A:Around}{s:Shared}
theorem Ju (l:Addr)(es:Array DictEntry)(n:Nat)(dd:Option Addr)(sl:Array (Option Value))(b:Str)(u:Tok) :
  Meets (Builtin.«dict.__eq__» ⟨[.ref l,.str b u],[]⟩) (fun _ R s=>s.heap.get? l=some { cls:=.type "dict",dict:=dd,data:=.dict es n,slots:=sl }/\R (.ok (.ret .notImplemented)) s):=
 .of_wp fun prog w A R s h=>by obtain⟨hp,g,d,tk,os⟩:=s;obtain⟨hl,h⟩:=h;have f1:=F.sub_str_dict;wp_walk using wpAny_loadPart' hl;exact⟨_,rfl,h⟩
theorem K0 (b:Str)(u:Tok)(l:Addr)(c:Value)(es:Array DictEntry)(n:Nat)(dd:Option Addr)(sl:Array (Option Value)) :
  Meets (Builtin.«str.__eq__» ⟨[.str b u,.ref l],[]⟩) (fun _ R s=>s.heap.get? l=some { cls:=c,dict:=dd,data:=.dict es n,slots:=sl }/\R (.ok (.ret .notImplemented)) s):=
 .of_wp fun prog w A R s h=>by obtain⟨hp,g,d,tk,os⟩:=s;obtain⟨hl,h⟩:=h;wp_walk using wpAny_loadPart' hl,wpAny_load hl;exact⟨_,rfl,h⟩
theorem Ob {l:Addr}{es:Array DictEntry}{n:Nat}{dd:Option Addr}{sl:Array (Option Value)}(b:Str)(u:Tok)(ho:s.heap.get? l=some { cls:=.type "dict",dict:=dd,data:=.dict es n,slots:=sl })(hu:A.units<cLine):RcAt A s (.ref l) (.str b u) false:=fun prog w E Q h=>
 rc_eq_decline_or (k:=false) ⟨_,ho,rfl⟩ (typeIs_str s b u) (by decide) F.sub_str_dict F.slot_dict_eq F.slot_str_eq_refl
  (fun _ hq=>call_meets F.slot_dict_eq ⟨_,ho,rfl⟩ F.entry_dict_eq (F.args_dict_eq_2 _ _) (Ju l es n dd sl b u) ⟨ho,hq⟩)
  (fun _ hq=>call_meets F.slot_str_eq_refl (typeIs_str s b u) F.entry_str_eq (F.args_str_eq_2 _ _) (K0 b u l (.type "dict") es n dd sl) ⟨ho,hq⟩)
  (fun _ hq=>wpAny_of_eq (rfl:isSame (.ref l) (.str b u)=pure false) hq) (.inr hu) h
theorem Oc {l:Addr}{es:Array DictEntry}{n:Nat}{dd:Option Addr}{sl:Array (Option Value)}(b:Str)(u:Tok)(ho:s.heap.get? l=some { cls:=.type "dict",dict:=dd,data:=.dict es n,slots:=sl })(hu:A.units<cLine):EqAt A s (.ref l) (.str b u) false:=fun prog w E Q h=>by
 unfold eqBool
 refine wpAny_holding ?_
 refine wpAny_ite_split (fun hab=>absurd (eq_of_beq hab) nofun) (fun _=>?_)
 exact wpAny_bind (Ob b u ho hu prog w E _ (wpAny_truthy_bool h))
end
def ItM (K:PySem.W.Frag)(H:Hp)(e:V):Prop:=e = .non\/(∃ b,e = .bl b)\/(∃ i,e = .int i)\/(∃ z,e = .str z)\/(∃ a ys,e = .ref a/\(SqL K H a ys\/SqT K H a ys))\/∃ a kvs,e = .ref a/\H a=some (.dK kvs)
theorem ItM.same {K:PySem.W.Frag}{H H':Hp}{e:V}(h:ItM K H e)(s:Same H H'):ItM K H' e:=by
 rcases h with h | h | h | h | ⟨a,ys,h1,h2⟩ | ⟨a,kvs,h1,h2⟩
 . exact .inl h
 . exact .inr (.inl h)
 . exact .inr (.inr (.inl h))
 . exact .inr (.inr (.inr (.inl h)))
 . exact .inr (.inr (.inr (.inr (.inl ⟨a,ys,h1,h2.elim (fun h=>.inl (s.seq h)) fun h=>.inr (s.seqT h)⟩))))
 exact .inr (.inr (.inr (.inr (.inr ⟨a,kvs,h1,s _ _ h2⟩))))
def ap9 (K:PySem.W.Frag):R2:=fun x y H Q=>∃ z a xs,x = .str z/\y = .ref a/\SqT K H a xs/\(∀ e∈xs,ItM K H e)/\Q (.bl (decide (V.str z∈xs))) H
def eqS (z:Str):Value->Bool
 | .str b _=>b==z
 | _=>false
theorem a48 {z:Str}{xs:List V}{its:List Value}(r:Vals xs its):its.any (eqS z)=decide (V.str z∈xs):=by
 induction r with
 | nil=>rfl
 | cons r1 r2 ih=>
   rename_i x u xs us
   rw [List.any_cons,ih,Bool.eq_iff_iff]
   simp only[Bool.or_eq_true,decide_eq_true_eq,List.mem_cons]
   refine or_congr ?_ Iff.rfl
   cases x with
   | str b=>
     obtain⟨t,rfl⟩:=r1
     show(b==z)=true↔_
     rw[beq_iff_eq]
     exact⟨fun h=>by rw[h],fun h=>(V.str.inj h).symm⟩
   | non=>cases r1;simp[eqS]
   | bl b=>cases r1;simp[eqS]
   | int i=>obtain⟨t,rfl⟩:=r1;simp[eqS]
   | byt b=>obtain⟨t,rfl⟩:=r1;simp[eqS]
   | flt b=>obtain⟨t,rfl⟩:=r1;simp[eqS]
   | ref a=>cases r1;simp[eqS]
   | ty n=>cases r1;simp[eqS]
theorem ac9 {X:Cx}{K:PySem.W.Frag}(hq:QA X.A)(hK:X.K=K:=by ac_nf):OpR X (compareOp .In) (ap9 K):=by
 subst hK
 intro pins s σ H x y v u Q I rx ry h
 obtain⟨z,a,xs,rfl,rfl,hS,hI,q⟩:=h
 obtain⟨t,rfl⟩:=rx
 cases ry
 obtain⟨its,r,pl,hz⟩:=I.tuple hS
 have hu:X.A.in1.units<cLine:=by have:=hq.un;show X.A.units+1<_;omega
 have key:∀ {xs:List V} {its:List Value},Vals xs its->(∀ e∈xs,ItM X.K H e)->∀ w∈its,SeqAt.EqAt X.A.in1 s w (.str z t) (eqS z w):=by
  intro xs its r
  induction r with
  | nil=>intro _ w hw;cases hw
  | cons r1 r2 ih=>
    intro hI w hw
    rename_i x u xs us
    rcases List.mem_cons.mp hw with rfl | hw
    . rcases hI x (by simp) with rfl | ⟨b,rfl⟩ | ⟨i,rfl⟩ | ⟨b,rfl⟩ | ⟨a,ys,rfl,hl | ht⟩ | ⟨a,kvs,rfl,hd⟩
      . cases r1;exact SeqAt.EqAt.none_str z t
      . cases r1;exact SeqAt.EqAt.bool_str b z t
      . obtain⟨t',rfl⟩:=r1;exact SeqAt.EqAt.int_str i t' z t
      . obtain⟨t',rfl⟩:=r1;exact SeqAt.EqAt.str_str b t' z t
      . cases r1
        obtain⟨its',_,pl',_⟩:=I.list hl
        exact SeqAt.EqAt.list_str z t pl'.isList hu
      . cases r1
        obtain⟨its',_,pl',_⟩:=I.tuple ht
        exact SeqAt.EqAt.tuple_str z t pl' hu
      cases r1
      obtain⟨_,_,vs,_,o,es,ep,e1,⟨e2,e3⟩,e4,_⟩:=(show ObjOk X.prog X.w H s.heap a (.dK kvs) from I.hok a _ hd)
      obtain⟨c,dd,dt,sl⟩:=o
      dsimp only at e2 e4
      subst e2 e4
      exact Oc z t e1 hu
    exact ih (fun e he=>hI e (List.mem_cons_of_mem _ he)) w hw
 refine SeqAt.in_tupleAt (eqS z) pl (fun w hw=>key r hI w (by simpa using hw)) ⟨.bl _,H,I,rfl,?_⟩
 rw[show its.toArray.any (eqS z)=its.any (eqS z) by simp,a48 r]
 exact q
theorem am4 {K:PySem.W.Frag}{H:Hp}{Q:VK}{z:Str}{a:Addr}{xs:List V}(h:SqT K H a xs)(hI:∀ e∈xs,ItM K H e)(k:Q (.bl (decide (V.str z∈xs))) H):ap9 K (.str z) (.ref a) H Q:=⟨z,a,xs,rfl,rfl,h,hI,k⟩
section
variable {prog:Program}{w:World}{A:Around}{E:Value->Shared->Prop}{s:Shared}
theorem Oa {a c c' n:Nat}(hac:a<=c)(hcc:c=min c' n):sliceBounds (some (a:Int)) (some (c':Int)) none n=((a:Int),(c:Int),1):=by
 simp only[sliceBounds,Option.getD_none]
 have h1:¬ ((a:Int)<0):=by omega
 have h2:¬ ((c':Int)<0):=by omega
 simp only[h1,h2,if_false,show(1:Int)>0 by decide,if_true]
 congr 1
 . omega
 congr 1;omega
set_option maxRecDepth 100000 in
theorem K1 {l b sl:Addr}{items new:Array Value}{n n2:Nat}{vl vu:Value}{a c c':Nat}{Q:Unit->Shared->Prop}
  (e:s.heap.get? l=some { cls:=.type "list",data:=.seq items n }) (e2:s.heap.get? b=some { cls:=.type "list",data:=.seq new n2 }) (hne:l≠b)
  (hs:s.heap.IsSliceOf sl vl vu .none) (pl:IsPart vl (some (a:Int))) (pu:IsPart vu (some (c':Int))) (hac:a<=c) (hc:c<=items.size) (hcc:c=min c' items.size)
  (hsz:items.size+new.size<=sizeLine) (h:Q () { s with heap:=s.heap.update l (Obj.mapSeq fun xs=>xs.extract 0 a++new++xs.extract c xs.size) }) :
  wpAny (model prog w) A (setItem (.ref l) (.ref sl) (.ref b)) Q E s:=by
 have hl:s.heap.IsList l items:=PySem.IsL.isList e
 have hb:s.heap.IsList b new:=PySem.IsL.isList e2
 obtain⟨os,hos,hcs,hds⟩:=id hs
 have hTs:s.TypeIs (.ref sl) "slice":=⟨os,hos,hcs⟩
 have hstep:¬ ((rawPart none==rawInt 0)=true):=Bool.false_ne_true
 have hsame:Builtin.List.listSameRef (.ref l) (.ref b)=false:=by
  unfold Builtin.List.listSameRef
  exact beq_eq_false_iff_ne.mpr hne
 have hmax:(max (a:Int) (c:Int)).toNat=c:=by omega
 have hz':((fun xs:Array Value=>xs.extract 0 a++new++xs.extract c xs.size) items).size<=sizeLine+1:=by
  simp only[Array.size_append,Array.size_extract]
  omega
 unfold setItem
 try with_reducible refine wpAny_holding ?_
 first | refine wpAny_bind (wpAny_pure ?_) | skip
 refine wpAny_bind (wpAny_sequenceKey hl.typeIs (by decide) ?_)
 refine wpAny_bind (wpAny_callSpecial?_slot (name:=Str.ofString "__setitem__") hl.typeIs slot_list_setitem
  (wpAny_call_entry slot_list_setitem hl.typeIs entry_list_setitem ?_ (args_list_setitem _ _ _)))
 show wpAny _ _ (Builtin.List.listSubscript? (.ref sl) >>= _) _ _ s
 refine wpAny_bind ?_
 unfold Builtin.List.listSubscript?
 refine wpAny_bind (wpAny_specialOf hTs slice_no_index ?_)
 simp only[Option.isNone_none,if_true]
 refine wpAny_pure ?_
 show wpAny _ _ (typeOf (.ref sl) >>= _) _ _ s
 refine wpAny_bind (wpAny_typeOf hTs ?_)
 first
  | rw[if_neg (by decide)]
  | refine PySem.W.KFB.if_not (by decide) ?_
 rw[listSliceParts_eq]
 refine wpAny_bind (wpAny_bind (wpAny_field hos hds (x:=.none) rfl (wpAny_bind (wpAny_listPart .none ?_))))
 rw[if_neg hstep]
 refine wpAny_bind (wpAny_field hos hds (x:=vl) rfl (wpAny_bind (wpAny_listPart pl ?_)))
 refine wpAny_bind (wpAny_field hos hds (x:=vu) rfl (wpAny_bind (wpAny_listPart pu (wpAny_pure ?_))))
 first
  | simp only[hsame,Bool.false_eq_true,if_false]
  | refine PySem.W.KFB.if_not hsame ?_
  | (dsimp only
     rw[if_neg (by rw[hsame];exact Bool.false_ne_true)])
 refine wpAny_bind (m:=Builtin.List.listAllItems (.ref b) "must assign iterable to extended slice") ?_
 unfold Builtin.List.listAllItems
 refine wpAny_bind (wpAny_typeOf hb.typeIs ?_)
 first
  | refine PySem.W.KFB.if_so (by decide) ?_
  | rw[if_pos (by decide)]
  | simp only[beq_self_eq_true,Bool.true_or,if_true]
 unfold Builtin.List.listItems
 refine wpAny_bind (wpAny_seqItems e2 rfl (wpAny_pure ?_))
 refine wpAny_bind (wpAny_bind (wpAny_seqItems e rfl (wpAny_pure ?_)))
 refine wpAny_bind (wpAny_of_eq ((sliceIndices_raw (some (a:Int)) (some (c':Int)) none items.size (by simp)).trans (congrArg (pure:Int×Int×Int->Sem (Int×Int×Int)) (Oa hac hcc))) ?_)
 show wpAny _ _ (if((1:Int)==1)=true then _ else _) _ _ s
 rw[if_pos (by decide)]
 refine wpAny_bind (wpAny_rule ?_)
 first
  | simp only[L0 hsz,Bool.false_eq_true,if_false]
  | refine PySem.W.KFB.if_not (L0 hsz) ?_
 first | refine wpAny_bind (wpAny_pure ?_) | skip
 show wpAny _ _ (updateSeq l (fun xs=>xs.extract 0 ((a:Int)).toNat++new++xs.extract (max (a:Int) (c:Int)).toNat xs.size) >>= _) _ _ s
 rw[hmax,Int.toNat_natCast]
 refine wpAny_bind (wpAny_updateSeq (hz:=Nat.le_trans (Nat.le_add_right _ _) hsz) (_hz':=hz') e rfl ?_)
 refine wpAny_bind (wpAny_letGo ?_)
 first
  | exact wpAny_bind (wpAny_pure (wpAny_pure ⟨.none,rfl,wpAny_pure h⟩))
  | exact wpAny_pure ⟨.none,rfl,wpAny_pure h⟩
end
section
variable {X:Cx}{pos p2:Pos}
def aq9 (to:TE)(tl th:TO):TG:=fun v σ H Q=>to σ H fun o H1=>tl σ H1 fun l H2=>th σ H2 fun u H3=>∃ p b xs ys a c,o = .ref p/\v = .ref b/\l=some a/\u=some c/\H3 p=some (.lst xs)/\H3 b=some (.lst ys)/\p≠b/\0<=a/\a<=c/\a<=(xs.length:Int)/\xs.length+ys.length<=sizeLine/\Q σ (upd H3 p (.lst (xs.take a.toNat++ys++xs.drop c.toNat)))
theorem ad4 {o:Expr}{lo hi:Option Expr}{to:TE}{tl th:TO}(ho:PE X o to)(hl:PO X lo tl)(hh:PO X hi th)
  (ha:∀ v,assign (.Subscript o (.Slice lo hi none p2) pos) X.env v=(do
   let ov <- holding [v] (eval o X.env)
   let iv <- holding [v,ov] (eval (.Slice lo hi none p2) X.env)
   standAt pos
   holding [v,ov,iv] (setItem ov iv v)
   release [iv,v,ov] []):=by intro _;ac_nf):PG X (.Subscript o (.Slice lo hi none p2) pos) (aq9 to tl th):=by
 intro pins s σ H v u Q I r h
 rw[ha]
 refine wpAny_bind (wpAny_holding (thn (ho pins s σ H _ I h) fun ov s1 ⟨x,H1,I1,r1,q1⟩=>?_))
 refine wpAny_bind (wpAny_holding (wpAny_Slice (thn (hl pins s1 σ H1 _ I1 q1) fun vl s2 ⟨l,H2,I2,pl,q2⟩=>thn (hh pins s2 σ H2 _ I2 q2) fun vu s3 ⟨w,H3,I3,pu,q3⟩=>?_)))
 rw[evalPart_none]
 refine wpAny_pure ?_
 obtain⟨p,b,xs,ys,a,c,rfl,rfl,rfl,rfl,hp,hb,hne,h0,hac,hax,hz,q⟩:=q3
 cases r1
 cases r
 have I4:Inv X pins σ H3 { s3 with heap:=s3.heap.push { cls:=.type "slice",data:=.fields #[vl,vu,.none] } }:=I3.kept (t':=s3.toks) fun b ob q=>Heap.get?_push_of_some _ q
 refine wpAny_bind (wpAny_standAt (wpAny_bind (wpAny_holding ?_)))
 obtain⟨its,n,r4,e4,z4⟩:=I4.lst hp
 obtain⟨its2,n2,r5,e5,z5⟩:=I4.lst hb
 obtain⟨a',rfl⟩:=Int.eq_ofNat_of_zero_le h0
 obtain⟨c',rfl⟩:=Int.eq_ofNat_of_zero_le (Int.le_trans h0 hac)
 have l4:=r4.length
 have l5:=r5.length
 simp only[Int.toNat_natCast] at q
 refine K1 (a:=a') (c:=min c' its.length) (c':=c') e4 e5 hne (Heap.IsSliceOf.new ..) pl pu (by omega) (by rw[List.size_toArray];omega) (by rw[List.size_toArray]) (by rw[List.size_toArray,List.size_toArray];omega) (wpAny_release ⟨σ,_,?_,q⟩)
 have hd:xs.drop c'=xs.drop (min c' its.length):=by
  by_cases h:c'<=its.length
  . rw[Nat.min_eq_left h]
  rw[Nat.min_eq_right (by omega),List.drop_eq_nil_of_le (by omega),List.drop_eq_nil_of_le (by omega)]
 rw[hd]
 refine I4.lset (its':=its.take a'++its2++its.drop (min c' its.length)) (t':=s3.toks) hp e4 ?_ (Vals.append (Vals.append (r4.take _) r5) (r4.drop _)) ?_
 . exact Um its its2 a' (min c' its.length)
 rw[List.length_append,List.length_append,List.length_take,List.length_drop]
 omega
theorem i_gSlc {to:TE}{tl th:TO}{v:V}{σ:St}{H:Hp}{Q:St->Hp->Prop}(k:to σ H fun o H1=>tl σ H1 fun l H2=>th σ H2 fun u H3=>∃ p b xs ys a c,o = .ref p/\v = .ref b/\l=some a/\u=some c/\H3 p=some (.lst xs)/\H3 b=some (.lst ys)/\p≠b/\0<=a/\a<=c/\a<=(xs.length:Int)/\xs.length+ys.length<=sizeLine/\Q σ (upd H3 p (.lst (xs.take a.toNat++ys++xs.drop c.toNat)))):aq9 to tl th v σ H Q:=k
theorem am8 {p b:Addr}{xs ys:List V}{a c:Int}{σ:St}{H:Hp}{Q:St->Hp->Prop}(hp:H p=some (.lst xs))(hb:H b=some (.lst ys))(hne:p≠b)(h0:0<=a)(hac:a<=c)(hax:a<=(xs.length:Int))(hz:xs.length+ys.length<=sizeLine)
  (k:∀ H',ExtBut p H H'->H' p=some (.lst (xs.take a.toNat++ys++xs.drop c.toNat))->Q σ H') :
  ∃ p' b' xs' ys' a' c',V.ref p = .ref p'/\V.ref b = .ref b'/\some a=some a'/\some c=some c'/\H p'=some (.lst xs')/\H b'=some (.lst ys')/\p'≠b'/\0<=a'/\a'<=c'/\a'<=(xs'.length:Int)/\xs'.length+ys'.length<=sizeLine/\Q σ (upd H p' (.lst (xs'.take a'.toNat++ys'++xs'.drop c'.toNat))):=
 ⟨p,b,xs,ys,a,c,rfl,rfl,rfl,rfl,hp,hb,hne,h0,hac,hax,hz,k _ ExtBut.upd A9⟩
theorem i_gSub {to ti:TE}{t:ak1}{v:V}{σ:St}{H:Hp}{Q:St->Hp->Prop}(k:to σ H fun o H1=>ti σ H1 fun i H2=>t o i v H2 fun H3=>Q σ H3):ap5 to ti t v σ H Q:=k
theorem X4 {p:Addr}{xs:List V}{j:Nat}{v:V}{H:Hp}{Q:Hp->Prop}(hp:H p=some (.lst xs))(hj:j<xs.length)(hz:xs.length<=1000000)(k:∀ H',ExtBut p H H'->H' p=some (.lst (xs.set j v))->Q H'):ab3 (.ref p) (.int (j:Int)) v H Q:=
 ⟨p,xs,j,j,rfl,rfl,hp,by
  unfold ixN
  simp
  omega,k _ ExtBut.upd A9⟩
end
theorem Oh (a b:Addr)(xs ys:Array Value) :
  Meets (Builtin.«zip.__new__» ⟨[.type "zip",.ref a,.ref b],[]⟩) (fun _ R s=>s.heap.IsList a xs/\s.heap.IsList b ys/\R (.ok (.ret (.ref (zp3 s.heap (liO a) (liO b)).objs.size))) { s with heap:=zp4 s.heap (liO a) (liO b) }):=
 .of_wp fun prog w A R s both=>by
  obtain⟨hp,g,d,tk,os⟩:=s
  obtain⟨ha,hb,go⟩:=both
  have hsub:=sub_zip
  have hA:Heap.IsList (Shared.heap ⟨hp,g,d,tk,os⟩) a xs:=ha
  have hB:Heap.IsList (Shared.heap ⟨hp.push (liO a),g,d,tk,os⟩) b ys:=Heap.IsList.push hb _
  wp_walk using wpAny_pyIter_list hA,wpAny_pyIter_list hB
  exact⟨_,rfl,go⟩
section
variable {P:Program}{w:World}{A:Around}{E:Value->Shared->Prop}{z:Shared}
theorem R3 {a b:Addr}{xs ys:Array Value}{Q:Value->Shared->Prop}(ha:z.heap.IsList a xs)(hb:z.heap.IsList b ys)
  (go:∀ g,Ew g (z.heap.objs.size+4) (z.heap.objs.size+2) (z.heap.objs.size+3) .none false->IsPair g (z.heap.objs.size+2) (.ref z.heap.objs.size) (.ref (z.heap.objs.size+1))->IsPair g (z.heap.objs.size+3) .none .none ->
   g.get? z.heap.objs.size=some (liO a)->g.get? (z.heap.objs.size+1)=some (liO b)->g.objs.size=z.heap.objs.size+5->(∀ b o,z.heap.get? b=some o->g.get? b=some o)->Q (.ref (z.heap.objs.size+4)) { z with heap:=g }) :
  wpAny (model P w) A (call (.type "zip") [.ref a,.ref b]) Q E z:=by
 refine callType_new F.called_zip (by decide) (F.typeCall_zip_2 _ _) (F.newCall_zip_2 _ _) (fun obj=>F.args_object_init_3 obj _ _) F.entry_zip_new (Oh a b xs ys) ⟨ha,hb,?_⟩
 refine Vt (Q:=fun v s'=>s'.TypeIs v "zip" /\ Q v s') rfl (fun g g5 g3 g4 g1 g2 z5 kp=>⟨⟨_,g5,rfl⟩,go g g5 g3 g4 g1 g2 z5 kp⟩) rfl rfl
end
def Se (K:PySem.W.Frag):List V->Hp->VK->Prop:=fun xs H Q=>∃(a b:Addr) (ns:List Str) (ys:List V),xs=[.ref a,.ref b]/\SqL K H a (ns.map V.str)/\SqL K H b ys/\ys.length=ns.length/\ns.length<=1000000 /\
 ∀ p,H p=none->Q (.ref p) (upd H p (.dK (Ci [] (R8 ns ys))))
section
variable {X:Cx}{K:PySem.W.Frag}
theorem L7 {pins:List (Addr×Obj)}{σ:St}{H:Hp}{s:Shared}{Q:VK}(calm:X.A.handled=none)(I:Inv X pins σ H s){a b:Addr}{ns:List Str}{ys:List V}{g:Heap}{ks vs:List Value}{o2:Obj}{S2:Nat->Heap->Prop}
  (ha:s.heap.IsList a ks.toArray) (hb:b<s.heap.objs.size) (hk:Vals (ns.map V.str) ks) (hv:Vals ys vs) (hl:ys.length=ns.length) (hz:ns.length<=1000000)
  (D2:Draws X.prog X.w X.A.in1.in1.in1 (s.heap.objs.size+1) [s.heap.objs.size+1,b] vs.toArray.size (fun i v=>vs.toArray[i]? = some v) S2) (h2:S2 0 g)
  (g5:Ew g (s.heap.objs.size+4) (s.heap.objs.size+2) (s.heap.objs.size+3) .none false) (g3:IsPair g (s.heap.objs.size+2) (.ref s.heap.objs.size) (.ref (s.heap.objs.size+1))) (g4:IsPair g (s.heap.objs.size+3) .none .none)
  (g1:g.get? s.heap.objs.size=some (liO a)) (g2:g.get? (s.heap.objs.size+1)=some o2) (z5:g.objs.size=s.heap.objs.size+5) (kp:∀ b o,s.heap.get? b=some o->g.get? b=some o)
  (q:∀ p,H p=none->Q (.ref p) (upd H p (.dK (Ci [] (R8 ns ys))))) :
  wpAny (model X.prog X.w) X.A (call (.type "dict") [.ref (s.heap.objs.size+4)]) (EP X pins σ Q) X.xe { s with heap:=g }:=by
 have hal:a<s.heap.objs.size:=let ⟨o,ho,_⟩:=ha;Heap.lt_size ho
 have lk:=hk.length
 have lv:=hv.length
 rw[List.length_map] at lk
 obtain⟨al,a1,a2,a3⟩:=Xq hk hv hl
 have D1:=Draws.list (prog:=X.prog) (w:=X.w) (A:=X.A.in1.in1.in1) (by simpa using calm) s.heap.objs.size a (Nat.ne_of_lt hal) ks.toArray
 have n1:ks.toArray.size=ns.length:=by simp;omega
 have n2:vs.toArray.size=ns.length:=by simp;omega
 rw[n1] at D1
 rw[n2] at D2
 have O:K9 (s.heap.objs.size+4) (s.heap.objs.size+3) s.heap.objs.size (s.heap.objs.size+1) g.objs.size [s.heap.objs.size,a] [s.heap.objs.size+1,b]:=by
  rw[z5]
  exact Zv _ a b hal hb
 refine Ot (z:={ s with heap:=g }) (kd:=Az X.prog X.w) calm O D1 D2 al a1 hz (fun i kv hi x y hx hy=>a3 i kv hi x y (by simpa using hx) (by simpa using hy)) g5 g3 g4 ⟨⟨_,g1,rfl,rfl⟩,ha.at fun o e=>kp a o e⟩ h2 (Nat.ne_of_lt (show(_:Nat)<_ by omega)) (Nat.ne_of_lt (show(_:Nat)<_ by omega)) (Nat.ne_of_gt (show(_:Nat)<_ by omega)) (Nat.ne_of_gt (show(_:Nat)<_ by omega)) fun g' tk hD hk'=>?_
 have keep:∀ b o,s.heap.get? b=some o->g'.get? b=some o:=fun b o e=>by
  have lt:LT.lt (α:=Nat) b s.heap.objs.size:=Heap.lt_size e
  exact hk' b o (Nat.ne_of_lt (show LT.lt (α:=Nat) _ _ by omega)) (Nat.ne_of_lt (show LT.lt (α:=Nat) _ _ by omega)) (Nat.ne_of_lt (show LT.lt (α:=Nat) _ _ by omega)) (Nat.ne_of_lt (show LT.lt (α:=Nat) _ _ by omega)) (kp b o e)
 refine⟨.ref g.objs.size,_,I.laid (t':=tk) keep (by rw[z5];omega) (Me ?_ ?_ (KV.merge a2 .nil) hD),rfl,q _ (I.hok.fresh (by rw[z5];omega))⟩
 . have:=Cf (R8 ns ys) []
   have e:(R8 ns ys).length<=ns.length:=by unfold R8;rw[List.length_map,List.length_zip];omega
   exact A8 (by simp at this;omega)
 have:=I.big
 exact beq_eq_false_iff_ne.mpr (Nat.ne_of_gt (show LT.lt (α:=Nat) _ _ by rw[z5];exact Nat.lt_of_lt_of_le this (Nat.le_add_right _ _)))
theorem P6 {ea eb:Expr}{ta:TA}{p p2 pos pos2:Pos}(calm:X.A.handled=none)(hg:Gl X "dict")(hm:X.mg "dict" = none)(hg2:Gl X "zip")(hm2:X.mg "zip" = none)(ha:PA X [ea,eb] ta)(hK:X.K=K:=by ac_nf)
  (hs:starEach [.Call (.Name "zip" p2) [ea,eb] [] pos2] X.env=[(false,eval (.Call (.Name "zip" p2) [ea,eb] [] pos2) X.env)]:=by ac_nf)
  (hs2:starEach [ea,eb] X.env=(false,eval ea X.env) :: starEach [eb] X.env:=by ac_nf) (hpl:(backTo pos2 (starEach [eb] X.env)).any (·.1)=false:=by ac_nf) :
  PE X (.Call (.Name "dict" p) [.Call (.Name "zip" p2) [ea,eb] [] pos2] [] pos) (tCB (Se K) ta):=by
 subst hK
 intro pins s σ H Q I h
 refine wpAny_Call_Name_kw (J1 I hg hm PyProof.Rows.Boot.«dict» (PyProof.Rows.callWith_type1 ?_ hs rfl))
 rw[hs]
 show wpAny _ _ (spliced [(false,eval (.Call (.Name "zip" p2) [ea,eb] [] pos2) X.env)]) _ _ s
 refine Calls.spliced_cons ?_
 refine wpAny_Call_Name_kw (J1 I hg2 hm2 PyProof.Rows.Boot.«zip» (PyProof.Rows.callWith_type1 (thn (ha pos2 pins s σ H _ I h) fun us s1 ⟨vs,H1,I1,r1,q1⟩=>?_) hs2 hpl))
 obtain⟨a,b,ns,ys,rfl,hA,hB,hl,hz,q⟩:=q1
 obtain⟨u1,u2,rfl,ra,rb⟩:=Vals.two r1
 cases ra
 cases rb
 obtain⟨ks,rk,hta,_⟩:=I1.list hA
 obtain⟨vs,rv,htb,_⟩:=I1.list hB
 have hla:=hta.isList
 have hlb:=htb.isList
 have hbl:b<s1.heap.objs.size:=let ⟨_,q,_⟩:=hlb;Heap.lt_size q
 refine R3 hla hlb fun g g5 g3 g4 g1 g2 z5 kp=>Calls.spliced_nil ?_
 have D2:=Draws.list (prog:=X.prog) (w:=X.w) (A:=X.A.in1.in1.in1) (by simpa using calm) (s1.heap.objs.size+1) b (Nat.ne_of_lt (Nat.lt_succ_of_lt hbl)) vs.toArray
 exact L7 calm I1 hla hbl rk rv hl hz D2 ⟨⟨_,g2,rfl,rfl⟩,hlb.at fun o e=>kp b o e⟩ g5 g3 g4 g1 g2 z5 kp q
end
section
variable {K:PySem.W.Frag}{H:Hp}{Q:VK}
theorem Rc {a b:Addr}{ns:List Str}{ys:List V}(hA:SqL K H a (ns.map V.str))(hB:SqL K H b ys)(hl:ys.length=ns.length)(hn:ns.Nodup)(hz:ns.length<=1000000)
  (k:∀ p H',H p=none->Same H H'->H' p=some (.dK (R8 ns ys))->Q (.ref p) H'):Se K [.ref a,.ref b] H Q:=by
 refine⟨a,b,ns,ys,rfl,hA,hB,hl,hz,fun p hp=>?_⟩
 have e:Ci [] (R8 ns ys)=R8 ns ys:=by
  rw[Gf _ [] (by rw[My hl];exact Cz hn fun x _ y _ e=>by injection e) (fun _ _ _ h=>by cases h)]
  rfl
 rw[e]
 exact k p _ hp (Same.upd hp) A9
end
end L2
namespace L2
open PySem PySem.Spec PyProof.Rows
mutual
def ai8:PyData->Bool
 | .list _=>false
 | .dict _=>false
 | .tuple ds=>Vo ds
 | _=>true
def Vo:List PyData->Bool
 | []=>true
 | d :: ds=>ai8 d&&Vo ds
end
def dsK (rs:List (Str×Str)):List (Key×V):=rs.map fun p=>(Sum.inr p.1,.str p.2)
section
variable {X:Cx}{pins:List (Addr×Obj)}{σ:St}{H:Hp}{s:Shared}
end
end L2
namespace L2
open PySem PySem.Spec PyProof.Rows
def ah3 (K:PySem.W.Frag):R2:=fun x y H Q=>∃ a b xs,x = .ref a/\y = .ref b/\SqL K H a xs/\SqL K H b []/\Q (.bl xs.isEmpty) H
theorem Zp {X:Cx}{K:PySem.W.Frag}(hq:QA X.A)(hK:X.K=K:=by ac_nf):OpR X (compareOp .Eq) (ah3 K):=by
 subst hK
 intro pins s σ H x y v u Q I rx ry h
 obtain⟨a,b,xs,rfl,rfl,ha,hb,q⟩:=h
 cases rx
 cases ry
 obtain⟨its,rv,la,_⟩:=I.list ha
 obtain⟨its2,rv2,lb,_⟩:=I.list hb
 cases rv2
 have hu:X.A.units<cLine:=by have:=hq.un;omega
 have la':s.heap.IsList a its.toArray:=let ⟨o,n,e1,e2,e3,e4⟩:=la;⟨o,e1,e2,_,e4⟩
 have lb':s.heap.IsList b ([]:List Value).toArray:=let ⟨o,n,e1,e2,e3,e4⟩:=lb;⟨o,e1,e2,_,e4⟩
 cases xs with
 | nil=>
   cases rv
   exact SeqAt.eq_listAt (e:=fun _=>true) la' lb' rfl hu (fun j h1=>absurd h1 (by simp)) ⟨.bl _,H,I,rfl,q⟩
 | cons x r=>
   cases rv with
   | cons r1 r2=>exact SeqAt.eq_list_lengthsAt la' lb' (by simp) hu ⟨.bl _,H,I,rfl,q⟩
theorem ad1 {K:PySem.W.Frag}{H:Hp}{Q:VK}{a b:Addr}{xs:List V}(h:SqL K H a xs)(h':SqL K H b [])(k:Q (.bl xs.isEmpty) H):ah3 K (.ref a) (.ref b) H Q:=⟨a,b,xs,rfl,rfl,h,h',k⟩
mutual
def a71:PyData->Bool
 | .str z=>z.cps.toList.all fun c=>decide (c<128)
 | .list ds=>a76 ds
 | .tuple ds=>a76 ds
 | .dict _=>false
 | _=>true
def a76:List PyData->Bool
 | []=>true
 | d :: ds=>a71 d&&a76 ds
end
mutual
def a75:PyData->Nat
 | .list ds=>max ds.length (a70 ds)
 | .tuple ds=>max ds.length (a70 ds)
 | _=>0
def a70:List PyData->Nat
 | []=>0
 | d :: ds=>max (a75 d) (a70 ds)
end
structure Dk (p w W:Nat)(D:PyData):Prop where
 asc:a71 D=true
 lay:D.canLay0=true
 sh:D.showable=true
 lv:D.leavesShort 45=true
 dp:D.depth<=p
 wt:D.weight<=w
 wd:a75 D<=W
structure Els (p w W:Nat)(ds:List PyData):Prop where
 all:∀ e∈ds,∃ u,Dk p u W e
 wt : PyData.weightAll ds<=w
 len:ds.length<=W
theorem P4 {p W:Nat}:∀ {ds:List PyData},(∀ e∈ds,∃ u,Dk p u W e)->a76 ds=true/\PyData.canLayAll0 ds=true/\PyData.showableAll ds=true/\PyData.leavesShortAll 45 ds=true/\PyData.depthAll ds<=p/\a70 ds<=W
 | [],_=>⟨by simp only[a76],by simp only[PyData.canLayAll0],by simp only[PyData.showableAll],by simp only[PyData.leavesShortAll],by simp only[PyData.depthAll];omega,by simp only[a70];omega⟩
 | d :: ds,h=>by
   obtain⟨u,a⟩:=h d (by simp)
   obtain⟨b0,b1,b2,b3,b4,b5⟩:=P4 (ds:=ds) fun e he=>h e (by simp[he])
   have:=a.dp
   have:=a.wd
   exact⟨by simp only[a76,a.asc,b0,Bool.and_self],by simp only[PyData.canLayAll0,a.lay,b1,Bool.and_self],by simp only[PyData.showableAll,a.sh,b2,Bool.and_self],by simp only[PyData.leavesShortAll,a.lv,b3,Bool.and_self],by simp only[PyData.depthAll];omega,by simp only[a70];omega⟩
theorem ag4 {p w W:Nat}{ds:List PyData}(h:Els p w W ds):Dk (p+1) w W (.tuple ds):=by
 obtain⟨a0,a1,a2,a3,a4,a5⟩:=P4 h.all
 have:=h.len
 exact⟨by simpa only[a71] using a0,by simpa only[PyData.canLay0] using a1,by simpa only[PyData.showable] using a2,by simpa only[PyData.leavesShort] using a3,by simp only[PyData.depth];omega,by simpa only[PyData.weight] using h.wt,by simp only[a75];omega⟩
theorem aa5 {p w W:Nat}{ds:List PyData}(h:Els p w W ds):Dk (p+1) w W (.list ds):=by
 obtain⟨a0,a1,a2,a3,a4,a5⟩:=P4 h.all
 have:=h.len
 exact⟨by simpa only[a71] using a0,by simpa only[PyData.canLay0] using a1,by simpa only[PyData.showable] using a2,by simpa only[PyData.leavesShort] using a3,by simp only[PyData.depth];omega,by simpa only[PyData.weight] using h.wt,by simp only[a75];omega⟩
def Asc (z:Str):Prop:=∀ c∈z.cps.toList,c<128
theorem Asc.ok {z:Str}(h:Asc z):PyData.strOk z=true:=by
 unfold PyData.strOk
 rw[<- Array.all_toList,List.all_eq_true]
 intro c hc
 have:=h c hc
 exact decide_eq_true (by omega)
theorem a85 {p w W:Nat}{z:Str}(h:Asc z)(hl:z.length<=w):Dk p w W (.str z):=by
 refine⟨?_,by simpa only[PyData.canLay0] using h.ok,by simp only[PyData.showable],?_,by simp only[PyData.depth];omega,by simp only[PyData.weight];exact hl,by simp only[a75];omega⟩
 . simp only[a71]
   rw[List.all_eq_true]
   exact fun c hc=>decide_eq_true (h c hc)
 simp only[PyData.leavesShort]
 rw[List.all_eq_true]
 intro c hc
 have:=h c hc
 exact decide_eq_true (by omega)
theorem Dk.shaped {p w W:Nat}{D:PyData}(h:Dk p w W D)(hp:p<=64):SeqAt.shaped D=true:=by
 have:=h.dp
 unfold SeqAt.shaped
 rw[h.lay,decide_eq_true (by omega)]
 rfl
section
variable {X:Cx}{K:PySem.W.Frag}
end
section
variable {X:Cx}{K:PySem.W.Frag}
def Tc (K:PySem.W.Frag):List V->Hp->VK->Prop:=fun xs H Q=>∃ x d,xs=[x]/\Is K H d x/\d.showable=true/\d.shown.length<=sizeLine/\d.depth<=100/\Q (.str d.shown) H
theorem Ro (hq:QA X.A):CallR X (.builtin "repr") (Tc X.K):=by
 intro pins s σ H xs us Q I rv h
 obtain⟨x,d,rfl,i,hs,hf,hd,q⟩:=h
 cases d with
 | none=>
   simp only[Is] at i
   subst i
   exact Km pins s σ H _ us Q I rv (.inr ⟨rfl,q⟩)
 | bool b=>
   simp only[Is] at i
   subst i
   refine Km pins s σ H _ us Q I rv (.inl ⟨b,rfl,?_⟩)
   cases b<;>exact q
 | int n=>
   simp only[Is] at i
   subst i
   exact Qu pins s σ H _ us Q I rv ⟨n,rfl,of_decide_eq_true (by simpa only[PyData.showable] using hs),q⟩
 | str z=>
   simp only[Is] at i
   subst i
   obtain⟨u,rfl,ru⟩:=rv.one
   obtain⟨t,rfl⟩:=ru
   exact PySem.P.repr_of_str ⟨.str _,H,I.tok _,⟨_,rfl⟩,q⟩ hf
 | list ds=>exact Kq hq pins s σ H _ us Q I rv ⟨x,_,rfl,i,⟨rfl,hs,hf,hd⟩,q⟩
 | tuple ds=>exact Kq hq pins s σ H _ us Q I rv ⟨x,_,rfl,i,⟨rfl,hs,hf,hd⟩,q⟩
 | dict kvs=>simp only[Is] at i
theorem Eg (hq:QA X.A)(hK:X.K=K:=by ac_nf):CallR X (.builtin "repr") (Tc K):=hK ▸ Ro hq
theorem Lj {H:Hp}{Q:VK}{d:PyData}{x:V}(h:Is K H d x)(h1:d.showable=true)(h2:d.shown.length<=sizeLine)(h3:d.depth<=100)(k:Q (.str d.shown) H):Tc K [x] H Q:=⟨x,d,rfl,h,h1,h2,h3,k⟩
theorem Dk.told {p w W:Nat}{D:PyData}(h:Dk p w W D)(hp:p<=60)(hw:w<=100000):D.showable=true/\D.shown.length<=sizeLine/\D.depth<=100:=by
 have h2:=PyData.shown_le 45 (by decide) D h.lv
 have h3:=h.wt
 have h4:=h.dp
 refine⟨h.sh,?_,by omega⟩
 rw[sizeLine_eq]
 omega
end
section
variable {prog:Program}{w:World}{A:Around}{E:Value->Shared->Prop}{s:Shared}
end
section
variable {P:Program}{w:World}{A:Around}{R:Result->Shared->Prop}{it:Addr}{fp wr:List Addr}{G:Array GenState->Array GenState->Prop}{n:Nat}{PV:Nat->Value->Prop}{St:Nat->Shared->Prop}
end
section
variable {prog:Program}{w:World}{A:Around}{E:Value->Shared->Prop}{s:Shared}
set_option maxHeartbeats 3200000 in
end
section
variable {prog:Program}{w:World}{A:Around}{E:Value->Shared->Prop}{s:Shared}
end
section
variable {prog:Program}{w:World}{A:Around}{E:Value->Shared->Prop}{s:Shared}
end
section
variable {prog:Program}{w:World}{A:Around}{E:Value->Shared->Prop}{s:Shared}
end
section
variable {prog:Program}{w:World}{A:Around}{E:Value->Shared->Prop}{s:Shared}
end
section
variable {X:Cx}{K:PySem.W.Frag}
end
end L2
namespace L2
open PySem PySem.Spec PyProof.Rows
open Builtin
section
variable {X:Cx}{K:PySem.W.Frag}
end
end L2
namespace L2
open PySem PySem.Spec PyProof.Rows
section
variable {P:Program}{w:World}{K:PySem.W.Frag}{mg:Str->Option Value}{base:Heap}{k:Nat}{f:Addr}{fd:FuncData}{ps:List Str}{sp sp':Sp}
theorem FnOk.up (F:FnOk P w K mg base CX0 k f fd ps sp):FnOk P w K mg base (CX1 P w) k f fd ps sp:=
 ⟨F.len,fun A outer s H args us vs Q E hr he hb hv h=>codeAny_mono (F.run A outer s H args us vs Q E hr he hb hv h) fun r s' q=>by
  cases r with
  | ok v=>cases v<;>exact q
  | error e=>exact q.elim⟩
theorem FnOk.or {CX:CXT}(F:FnOk P w K mg base CX k f fd ps sp)(G:FnOk P w K mg base CX k f fd ps sp'):FnOk P w K mg base CX k f fd ps (fun vs H Q E=>sp vs H Q E\/sp' vs H Q E):=
 ⟨fun vs H Q E q=>q.elim (F.len vs H Q E) (G.len vs H Q E),fun A outer s H args us vs Q E hr he hb hv h=>h.elim (F.run A outer s H args us vs Q E hr he hb hv) (G.run A outer s H args us vs Q E hr he hb hv)⟩
theorem FnOk.down (F:FnOk P w K mg base (CX1 P w) k f fd ps sp) (h:∀ vs H Q E,sp' vs H Q E->sp vs H Q E0):FnOk P w K mg base CX0 k f fd ps sp':=
 ⟨fun vs H Q E q=>F.len vs H Q E0 (h _ _ _ _ q),fun A outer s H args us vs Q E hr he hb hv q=>codeAny_mono (F.run A outer s H args us vs Q E0 hr he hb hv (h _ _ _ _ q)) fun r s' z=>by
  cases r with
  | ok v=>cases v<;>exact z
  | error e=>
    obtain⟨_,_,_,_,_,_,_,_,_,_,_,_,z⟩:=z
    exact z⟩
theorem Fnd1.down {x:Str}(F:Fnd1 P w K mg base k x ps sp)(h:∀ vs H Q E,sp' vs H Q E->sp vs H Q E0):Fnd P w K mg base k x ps sp':=
 let ⟨f,fd,h1,h2,h3,h4⟩:=F
 ⟨f,fd,h1.down h,h2,h3,h4⟩
end
theorem a49 {A:Around}{x:Option Value}(h:A.units+1<cLine):(A.mark x).units+1<cLine:=h
theorem J4:∀(k fuel n:Nat) (ds:List Char),1<=k->n<10 ^ k->(Nat.toDigitsCore 10 fuel n ds).length<=ds.length+k
 | _,0,n,ds,_,_=>by simp[Nat.toDigitsCore]
 | k,fuel+1,n,ds,hk,hn=>by
   unfold Nat.toDigitsCore
   dsimp only
   split
   . simp;omega
   rename_i h0
   cases k with
   | zero=>omega
   | succ k=>
     have h1:n / 10<10 ^ k:=by
      rw[Nat.div_lt_iff_lt_mul (by omega)]
      rw[Nat.pow_succ] at hn
      exact hn
     have hk1:1<=k:=by
      cases k with
      | zero=>simp at h1;omega
      | succ _=>omega
     have:=J4 k fuel (n / 10) (Nat.digitChar (n % 10) :: ds) hk1 h1
     rw[List.length_cons] at this
     omega
theorem a43 (s:String):(s:Str).length=s.toList.length:=by
 show(Str.ofString s).cps.size=_
 rw[Str.ofString_eq_byList]
 unfold Str.ofStringByList
 simp
theorem Qg {n:Nat}(h:n<10 ^ 44):(Nat.repr n).toList.length<=44:=by
 unfold Nat.repr Nat.toDigits
 have:=J4 44 (n+1) n [] (by omega) h
 simpa using this
theorem S8 {m:Int} (h:m.natAbs<10 ^ 44):(PyData.int m).shown.length<=45:=by
 simp only[PyData.shown]
 rw[a43]
 cases m with
 | ofNat n=>
   have:(toString (Int.ofNat n):String)=Nat.repr n:=rfl
   rw[this]
   exact Nat.le_trans (Qg h) (by omega)
 | negSucc n=>
   have:(toString (Int.negSucc n):String) = "-" ++ Nat.repr (n+1):=rfl
   rw[this]
   have h2:=Qg (n:=n+1) h
   rw[String.toList_append,List.length_append]
   have:("-":String).toList.length=1:=by decide
   omega
theorem a53 {m:Int}(h:m.natAbs<10 ^ 44):m.natAbs.log2<147:=by
 by_cases h0:m.natAbs=0
 . rw[h0];decide
 exact(Nat.log2_lt h0).mpr (Nat.lt_trans h (by decide))
theorem Xt {p W:Nat}{m:Int}(h:m.natAbs<10 ^ 44):Dk p 150 W (.int m):=by
 have hl:=a53 h
 refine⟨by simp only[a71],by simp only[PyData.canLay0],?_,?_,by simp only[PyData.depth];omega,?_,by simp only[a75];omega⟩
 . simp only[PyData.showable]
   exact decide_eq_true (by omega)
 . simp only[PyData.leavesShort]
   exact decide_eq_true (S8 h)
 simp only[PyData.weight]
 split<;>omega
end L2
namespace K34
open PySem L2 PySem.Spec PyProof.Rows
def top (i:Nat):Stmt:=PySem.Challenge.pw_halforder_k34_numbers_and_orders_refused.main.body.getD i (.Pass ⟨0,0,0,0⟩)
abbrev Bz:Stmt:=top 8
theorem sc_behind_each:Aq ["half","names","reach","saying","middle","name"] ["half"] (A4 Bz):=⟨rfl,rfl,rfl,by decide +kernel,rfl,by decide +kernel,by decide +kernel⟩
abbrev E8:Stmt:=top 10
theorem sc_bits_of:Aq ["names","bits","bit","name"] ["names"] (A4 E8):=⟨rfl,rfl,rfl,by decide +kernel,rfl,by decide +kernel,by decide +kernel⟩
abbrev Ca:Stmt:=top 11
theorem sc_bits_ahead:Aq ["half","bits","reach","found","name"] ["half","bits"] (A4 Ca):=⟨rfl,rfl,rfl,by decide +kernel,rfl,by decide +kernel,by decide +kernel⟩
abbrev Gw:Stmt:=top 13
theorem sc_count:Aq ["half","ways"] ["half"] (A4 Gw):=⟨rfl,rfl,rfl,by decide +kernel,rfl,by decide +kernel,by decide +kernel⟩
abbrev De:Stmt:=top 15
theorem Oo:Aq ["half","thing"] ["half","thing"] (A4 De):=⟨rfl,rfl,rfl,by decide +kernel,rfl,by decide +kernel,by decide +kernel⟩
abbrev Aw:Stmt:=top 16
theorem Ds:Aq ["half","thing"] ["half","thing"] (A4 Aw):=⟨rfl,rfl,rfl,by decide +kernel,rfl,by decide +kernel,by decide +kernel⟩
abbrev Ck:Stmt:=top 17
theorem sc_order_on:Aq ["ways","left","number","still","name","rest"] ["ways","left","number"] (A4 Ck):=⟨rfl,rfl,rfl,by decide +kernel,rfl,by decide +kernel,by decide +kernel⟩
abbrev Ct:Stmt:=top 18
theorem sc_order_of:Aq ["half","number","ways"] ["half","number"] (A4 Ct):=⟨rfl,rfl,rfl,by decide +kernel,rfl,by decide +kernel,by decide +kernel⟩
abbrev C5:Stmt:=top 19
theorem sc_number_of:Aq ["half","order","ways","left","number","name","free","passed"] ["half","order"] (A4 C5):=⟨rfl,rfl,rfl,by decide +kernel,rfl,by decide +kernel,by decide +kernel⟩
abbrev C9:Stmt:=top 20
theorem sc_next_order:Aq ["half","order","number"] ["half","order"] (A4 C9):=⟨rfl,rfl,rfl,by decide +kernel,rfl,by decide +kernel,by decide +kernel⟩
abbrev Cl:Stmt:=top 22
theorem Ms:Aq ["_law_script"] ["_law_script"] (A4 Cl):=⟨rfl,rfl,rfl,by decide +kernel,rfl,by decide +kernel,by decide +kernel⟩
abbrev Cr:Stmt:=top 23
theorem sc__law_draw:Aq ["_law_feed_here","_law_many","_law_found","_law_cell","_law_mixed"] ["_law_feed_here","_law_many"] (A4 Cr):=⟨rfl,rfl,rfl,by decide +kernel,rfl,by decide +kernel,by decide +kernel⟩
abbrev Bh:Stmt:=top 24
theorem sc__law_shuffled:Aq ["_law_feed_here","_law_some","_law_left","_law_found","_law_k"] ["_law_feed_here","_law_some"] (A4 Bh):=⟨rfl,rfl,rfl,by decide +kernel,rfl,by decide +kernel,by decide +kernel⟩
abbrev C7:Stmt:=top 25
theorem sc__law_names:Aq ["_law_feed_here","_law_letters","_law_way","_law_start","_law_size","_law_at","_law_some","_law_head","_law_tail"] ["_law_feed_here"] (A4 C7):=⟨rfl,rfl,rfl,by decide +kernel,rfl,by decide +kernel,by decide +kernel⟩
abbrev Bs:Stmt:=top 26
theorem Jl:Aq ["_law_feed_here","_law_way","_law_j","_law_k","_law_many"] ["_law_feed_here","_law_way","_law_j","_law_k","_law_many"] (A4 Bs):=⟨rfl,rfl,rfl,by decide +kernel,rfl,by decide +kernel,by decide +kernel⟩
abbrev Co:Stmt:=top 27
theorem sc__law_half:Aq ["_law_feed_here","_law_many","_law_names_here","_law_line","_law_way","_law_sayings","_law_k","_law_j","_law_pair"] ["_law_feed_here","_law_many"] (A4 Co):=⟨rfl,rfl,rfl,by decide +kernel,rfl,by decide +kernel,by decide +kernel⟩
abbrev Cj:Stmt:=top 28
theorem sc__law_over:Aq ["_law_half_here","_law_found","_law_more","_law_one","_law_other","_law_fresh"] ["_law_half_here"] (A4 Cj):=⟨rfl,rfl,rfl,by decide +kernel,rfl,by decide +kernel,by decide +kernel⟩
abbrev B8:Stmt:=top 29
theorem sc__law_next_ones:Aq ["_law_half_here","_law_over_here","_law_begun","_law_left"] ["_law_half_here","_law_over_here","_law_begun"] (A4 B8):=⟨rfl,rfl,rfl,by decide +kernel,rfl,by decide +kernel,by decide +kernel⟩
abbrev Bi:Stmt:=top 30
theorem sc__law_an_order:Aq ["_law_feed_here","_law_half_here","_law_over_here","_law_found","_law_some"] ["_law_feed_here","_law_half_here","_law_over_here"] (A4 Bi):=⟨rfl,rfl,rfl,by decide +kernel,rfl,by decide +kernel,by decide +kernel⟩
abbrev Bj:Stmt:=top 31
theorem Ic:Aq ["_law_half_here","_law_over_here","_law_thing"] ["_law_half_here","_law_over_here","_law_thing"] (A4 Bj):=⟨rfl,rfl,rfl,by decide +kernel,rfl,by decide +kernel,by decide +kernel⟩
abbrev Cs:Stmt:=top 32
theorem sc__law_bent:Aq ["_law_feed_here","_law_half_here","_law_order","_law_row","_law_way","_law_at","_law_odd","_law_k","_law_j"] ["_law_feed_here","_law_half_here","_law_order"] (A4 Cs):=⟨rfl,rfl,rfl,by decide +kernel,rfl,by decide +kernel,by decide +kernel⟩
abbrev Cn:Stmt:=top 33
theorem sc__law_ways:Aq ["_law_half_here","_law_over_here","_law_levels","_law_turn","_law_further","_law_begun","_law_name","_law_ways_here","_law_level","_law_some"] ["_law_half_here","_law_over_here"] (A4 Cn):=⟨rfl,rfl,rfl,by decide +kernel,rfl,by decide +kernel,by decide +kernel⟩
abbrev By:Stmt:=top 34
theorem sc__law_number:Aq ["_law_half_here","_law_over_here","_law_ways_here","_law_order","_law_number_here","_law_k","_law_some","_law_less"] ["_law_half_here","_law_over_here","_law_ways_here","_law_order"] (A4 By):=⟨rfl,rfl,rfl,by decide +kernel,rfl,by decide +kernel,by decide +kernel⟩
abbrev Cv:Stmt:=top 35
theorem sc__law_told:Aq ["_law_word","_law_half_here","_law_thing","_law_found","_law_kinds","e"] ["_law_word","_law_half_here","_law_thing"] (A4 Cv):=⟨rfl,rfl,rfl,by decide +kernel,rfl,by decide +kernel,by decide +kernel⟩
abbrev C8:Stmt:=top 36
theorem sc__law_right:Aq ["_law_feed_here","_law_half_here","_law_over_here","_law_ways_here","_law_total","_law_order","_law_number_here","_law_far","_law_due","_law_k","_law_thing","_law_word","_law_found"] ["_law_feed_here","_law_half_here","_law_over_here","_law_ways_here"] (A4 C8):=⟨rfl,rfl,rfl,by decide +kernel,rfl,by decide +kernel,by decide +kernel⟩
abbrev Ky:Stmt:=top 37
theorem sc_law:Aq ["_law_script","_law_feed_here","_law_turn","_law_half_here","_law_over_here"] ["_law_script"] (A4 Ky):=⟨rfl,rfl,rfl,by decide +kernel,rfl,by decide +kernel,by decide +kernel⟩
abbrev Cu:Stmt:=M0 (top 12) 0
theorem Nl:Aq ["self","half"] ["self","half"] (A4 Cu):=⟨rfl,rfl,rfl,by decide +kernel,rfl,by decide +kernel,by decide +kernel⟩
abbrev B3:Stmt:=M0 (top 12) 1
theorem G8:Aq ["self","left"] ["self","left"] (A4 B3):=⟨rfl,rfl,rfl,by decide +kernel,rfl,by decide +kernel,by decide +kernel⟩
abbrev Bb:Stmt:=M0 (top 12) 2
theorem Jc:Aq ["self","left"] ["self","left"] (A4 Bb):=⟨rfl,rfl,rfl,by decide +kernel,rfl,by decide +kernel,by decide +kernel⟩
abbrev Br:Stmt:=M0 (top 4) 0
theorem Jn:Aq ["self","number"] ["self","number"] (A4 Br):=⟨rfl,rfl,rfl,by decide +kernel,rfl,by decide +kernel,by decide +kernel⟩
structure Ex (mg:Str->Option Value):Prop where
 b_ValueError:mg "ValueError" = none
 b_all:mg "all" = none
 b_dict:mg "dict" = none
 b_int:mg "int" = none
 b_isinstance:mg "isinstance" = none
 b_len:mg "len" = none
 b_list:mg "list" = none
 b_range:mg "range" = none
 b_repr:mg "repr" = none
 b_sorted:mg "sorted" = none
 b_str:mg "str" = none
 b_sum:mg "sum" = none
 b_tuple:mg "tuple" = none
 b_zip:mg "zip" = none
structure C3 (K:PySem.W.Frag)(C:Addr):Prop where
 cl:Cls K C
 n_names:NoAttr K C "names"
 n_bits:NoAttr K C "bits"
 n_ahead:NoAttr K C "ahead"
 n_full:NoAttr K C "full"
 n_known:NoAttr K C "known"
structure Bm (K:PySem.W.Frag)(mg:Str->Option Value)(C B:Addr):Prop where
 xc:XC K C
 gl:mg "HalfError" = some (.ref C)
 mk0:aa8 K mg C "HalfError"
structure Dd (K:PySem.W.Frag)(mg:Str->Option Value)(C B:Addr):Prop where
 xc:XC K C
 gl:mg "NoName" = some (.ref C)
 mr:G1 K C B=true
 n_name:NoAttr K C "name"
structure Jb (K:PySem.W.Frag)(mg:Str->Option Value)(C B:Addr):Prop where
 xc:XC K C
 gl:mg "NoCover" = some (.ref C)
 mr:G1 K C B=true
 mk0:aa8 K mg C "NoCover"
structure Dn (K:PySem.W.Frag)(mg:Str->Option Value)(C B:Addr):Prop where
 xc:XC K C
 gl:mg "NoPlace" = some (.ref C)
 mr:G1 K C B=true
 n_number:NoAttr K C "number"
structure Do (K:PySem.W.Frag)(mg:Str->Option Value)(C B:Addr):Prop where
 xc:XC K C
 gl:mg "NoOrder" = some (.ref C)
 mr:G1 K C B=true
 mk0:aa8 K mg C "NoOrder"
structure Kh (K:PySem.W.Frag)(mg:Str->Option Value)(C B:Addr):Prop where
 xc:XC K C
 gl:mg "NoJoin" = some (.ref C)
 mr:G1 K C B=true
 n_word:NoAttr K C "word"
section
variable {P:Program}{w:World}{K:PySem.W.Frag}{mg:Str->Option Value}{base:Heap}
local macro_rules | `(tactic| walk_at "lk") => L2.mRows "as | Same.lk e h: e=as h=lk | ExtBut.lk e h n: e=as n=ne h=lk | no"
local macro_rules | `(tactic| walk_at "ne") => L2.mRows "as | Ne.symm q: q=as | ne_of_none h g: g=as h=lk | ne_none2 h g: g=as h=lk | ne_of h g z: h=as g=as z=nc | no"
local macro_rules | `(tactic| walk_at "nc") => `(tactic| (intro z; cases z))
local macro_rules | `(tactic| walk_at "fr") => L2.mRows "ExtBut.refl | ExtBut.trans a b: b=as a=fr | ExtBut.same a b: b=as a=fr | ExtBut.off a q b: b=as q=as a=fr | no"
local macro_rules | `(tactic| walk_at "sm") => L2.mRows "same_refl | Same.trans a b: b=as a=sm | Same.off a q b: b=as q=as a=sm | no"
local macro_rules | `(tactic| walk_at "fd") => L2.mRows "as | Feed.same h e: e=as h=fd | Feed.off h e q f: e=as q=as f=as h=fd | no"
local macro_rules | `(tactic| walk_at "fz1") => L2.mRows "Same.fz b: b=as | ExtBut.fzL b l: b=as l=lk | ExtBut.fzD b l: b=as l=lk | Feed.fz f b: b=as f=fd | no"
local macro_rules | `(tactic| walk_at "fz") => L2.mRows "fz_refl | Fz.trans a x: x=fz1 a=fz | no"
local macro_rules | `(tactic| walk_at "sd") => `(tactic| first | omega | (show (0 : Int) < _; omega) | (unfold ak5; omega) | (unfold CMul; omega) | (unfold al7; omega) | (unfold al7; decide) | (refine ⟨?_, ?_⟩ <;> omega) | decide)
local macro_rules | `(tactic| walk_at "sz") => `(tactic| first | decide | exact A8 (by omega) | (rw [sizeLine_eq]; omega))
local macro_rules | `(tactic| walk_at "kv") => `(tactic| rfl)
local macro_rules | `(tactic| walk_at "rq1") => do
 let a <- L2.mAlts "i_asg i_gname i_ret i_drop i_if i_op i_un i_call i_cb i_cons i_nil i_c i_put i_tTest i_tB i_not i_and i_or i_tup i_lst i_next i_sl i_noPart i_part i_int i_for i_rng1 i_rng2 i_comp i_itS i_iany i_ienum i_ienumL i_irev i_chain i_andV i_orV i_notV i_dget1 i_tAt i_sSt i_tMe i_tMk i_tTru i_dget2 i_iDT i_bmT i_rU i_rI0 i_addI i_bl i_bm i_bm0 i_reprKB i_isN i_isNotN i_isB i_isNotB i_true i_tyS i_find i_intB i_inS i_pair i_pair0 iteR iteNR iteNbb itebb iteT iteF iteNT iteNF"
 let b <- L2.mRows "i_var w _: w=kv | i_rI w _: w=sd | i_mulBI w _: w=sd | i_tyLm w _: w=lk | i_ixD w v _: w=lk v=kv | i_eqS w _: w=kv | i_neS w _: w=kv | i_slS w _: w=sz | i_addS w _: w=sz | i_lenS w _: w=sz | i_lenL w _: w=lk | i_lenT w _: w=lk | i_cutN w _: w=ar"
 let c <- L2.mAltG "i_seqAG i_seqDG i_seqPG"
 `(tactic| first | $c:tactic | $a:tactic | $b:tactic)
local macro_rules | `(tactic| walk_at "rd1") => `(tactic| first | with_reducible refine ag0 fun N hN => ?_ | walk_at "rq1")
local macro_rules | `(tactic| walk_at "rq") => `(tactic| repeat (walk_at "rq1"))
local macro_rules | `(tactic| walk_at "rd") => `(tactic| repeat (walk_at "rd1"))
def Cm (l:Addr)(a t u:Int):List (Key×V):=[(Sum.inr "script",.ref l),(Sum.inr "at",.int a),(Sum.inr "left",.int t),(Sum.inr "turn",.int u)]
def Feed (H:Hp)(d l:Addr):Prop:=∃(a t u:Int) (ns:List Int),H d=some (.dK (Cm l a t u))/\H l=some (.lst (ns.map V.int))/\0<=ns.length/\ns.length<=64
def Fh (K:PySem.W.Frag):Sp:=fun vs H Q _=>∃(a:Addr) (ns:List Int),vs=[.ref a]/\SqL K H a (ns.map V.int)/\ns.length<=63/\∀ d l H',H d=none->H l=none->Same H H'->Feed H' d l->Q (.ref d) H'
def B2 (K:PySem.W.Frag):Sp:=fun vs H Q _=>∃ d l n,vs=[.ref d,.int n]/\Feed H d l/\0<n/\n<1073741824/\∀ r H',0<=r->r<n->ExtBut d H H'->Feed H' d l->Q (.int r) H'
theorem Tr {l:Addr}{a t u:Int}:D3 (Cm l a t u) (Sum.inr "script":Key)=some (.ref l):=by rfl
theorem am6 {l:Addr}{a t u:Int}:D3 (Cm l a t u) (Sum.inr "at":Key)=some (.int a):=by rfl
theorem Zy {l:Addr}{a t u:Int}:D3 (Cm l a t u) (Sum.inr "left":Key)=some (.int t):=by rfl
theorem Z9 {l:Addr}{a t u:Int}:D3 (Cm l a t u) (Sum.inr "turn":Key)=some (.int u):=by rfl
local macro_rules | `(tactic| walk_at "kv") => `(tactic| first | exact Tr | exact am6 | exact Zy | exact Z9 | rfl)
theorem Vp {l:Addr}{a t u x:Int}:Db (Cm l a t u) (Sum.inr "turn":Key) (.int x)=Cm l a t x:=by rfl
theorem ab1 {l:Addr}{a t u x:Int}:Db (Cm l a t u) (Sum.inr "at":Key) (.int x)=Cm l x t u:=by rfl
theorem Q1 {l:Addr}{a t u x:Int}:Db (Cm l a t u) (Sum.inr "left":Key) (.int x)=Cm l a x u:=by rfl
theorem Feed.same {H H':Hp}{d l:Addr}(h:Feed H d l)(e:Same H H'):Feed H' d l:=let ⟨a,t,u,ns,h1,h2,h3,h4⟩:=h;⟨a,t,u,ns,e _ _ h1,e _ _ h2,h3,h4⟩
theorem Feed.put {H H':Hp}{d l p:Addr}(h:Feed H d l)(e:ExtBut p H H')(hd:d≠p)(hl:l≠p):Feed H' d l:=let ⟨a,t,u,ns,h1,h2,h3,h4⟩:=h;⟨a,t,u,ns,e _ _ hd h1,e _ _ hl h2,h3,h4⟩
theorem Feed.nd {H:Hp}{d l p:Addr}(h:Feed H d l)(hp:H p=none):d≠p:=let ⟨_,_,_,_,h1,_⟩:=h;ne_of_none h1 hp
theorem Feed.nl {H:Hp}{d l p:Addr}(h:Feed H d l)(hp:H p=none):l≠p:=let ⟨_,_,_,_,_,h2,_⟩:=h;ne_of_none h2 hp
theorem Feed.lst {H:Hp}{d l b:Addr}{xs:List V}(h:Feed H d l)(hb:H b=some (.lst xs)):b≠d:=let ⟨_,_,_,_,h1,_⟩:=h;ne_of hb h1 (by intro z;cases z)
theorem Feed.tup {H:Hp} {d l b:Addr} {xs:List V} (h:Feed H d l) (hb:H b=some (.tup xs)):b≠d:=let ⟨_,_,_,_,h1,_⟩:=h;ne_of hb h1 (by intro z;cases z)
theorem Feed.free {H H':Hp}{d l p:Addr}(h:Feed H' d l)(e:ExtBut d H H')(hp:H' p=none):H p=none:=by
 cases hq:H p with
 | none=>rfl
 | some o=>
   obtain⟨_,_,_,_,h1,_⟩:=h
   have n:p≠d:=fun q=>by subst q;rw[hp] at h1;cases h1
   rw[e p o n hq] at hp
   cases hp
theorem Feed.fz {H H':Hp}{d l:Addr}(h:Feed H d l)(e:ExtBut d H H'):Fz H H':=let ⟨_,_,_,_,h1,_⟩:=h;e.fzD h1
theorem Feed.off {H H1 H2:Hp}{d l q:Addr}(h:Feed H1 d l)(e:ExtBut q H1 H2)(hq:H q=none)(hF:Feed H d l):Feed H2 d l:=h.put e (hF.nd hq) (hF.nl hq)
theorem Mx {f:Addr}{fd:FuncData}(F:Fun K "_law_draw" "_law_draw" Cr f fd)(T:Ex mg):FnOk P w K mg base CX0 1 f fd ["_law_feed_here","_law_many"] (B2 K):=by
 refine F.ok sc__law_draw (fun vs H Q E h=>?_) (fun cdv A outer s H vs Q E hr h=>?_)
 . obtain⟨d,l,n,rfl,_⟩:=h
   rfl
 obtain⟨d,l,n,rfl,⟨a,t,u,ns,hd,hl,h0,h64⟩,hn,hn2,k⟩:=h
 have hu:=C2 hr
 have hq:=C1 hr
 have hld:l≠d:=ne_of hl hd (by intro z;cases z)
 with_reducible refine⟨_,(A1 (Dj hu (pv 0) Ar (Af (Ah (K:=K)) (Am (A6 (K:=K) hu) (pv 0) Ar (by ac_rfl)) A5) (by ac_nf))
  (A1 (Be (Ac W2 (Am (A6 (K:=K) hu) (pv 0) Ar (by ac_rfl)) A5 (Aj _)) (A1 (A7 (i:=2) sc__law_draw.nd (by ac_nf) (by eq_refl) (Af Fs (Am (A6 (K:=K) hu) (pv 0) Ar (by ac_rfl)) (pv 1)))
  (A1 (Dj hu (pv 0) Ar (Af Gj (Am (A6 (K:=K) hu) (pv 0) Ar (by ac_rfl)) (pv 1)) (by ac_nf))
  (A3 (Al (pv 2))))) Ai)
  (A1 (A7 (i:=3) sc__law_draw.nd (by ac_nf) (by eq_refl) A5)
  (A1 (Be (Ac (Gk (K:=K) hq) (Am (A6 (K:=K) hu) (pv 0) Ar (by ac_rfl)) (B6 A2) (Aj _)) (A3 (A7 (i:=3) sc__law_draw.nd (by ac_nf) (by eq_refl) (Am (A6 (K:=K) hu) (Am (A6 (K:=K) hu) (pv 0) Ar (by ac_rfl)) (Af Fs (Am (A6 (K:=K) hu) (pv 0) Ar (by ac_rfl)) (Aa (Av (K:=K)) (by ac_nf) T.b_len PyProof.Rows.Boot.«len» (A0 (Am (A6 (K:=K) hu) (pv 0) Ar (by ac_rfl)) A2))) (by ac_rfl)))) Ai)
  (A1 (Dj hu (pv 0) Ar (Af (Ah (K:=K)) (Am (A6 (K:=K) hu) (pv 0) Ar (by ac_rfl)) A5) (by ac_nf))
  (A1 (Be (PW.pt (O3 (Ac Zj (pv 3) (Af N6 A5 A5) (Aj _)) (Jf (Ac ag2 (Am (A6 (K:=K) hu) (pv 0) Ar (by ac_rfl)) (Aa (Av (K:=K)) (by ac_nf) T.b_len PyProof.Rows.Boot.«len» (A0 (Am (A6 (K:=K) hu) (pv 0) Ar (by ac_rfl)) A2)) (Aj _))))) (A1 (Dj hu (pv 0) Ar (Af Gj (pv 3) (pv 1)) (by ac_nf))
  (A3 (Al (Af Fs (pv 3) (pv 1))))) Ai)
  (A1 (A7 (i:=4) sc__law_draw.nd (by ac_nf) (by eq_refl) (Af Fs (Af D7 (Af (Ah (K:=K)) (Af Fs (pv 3) A5) (Af D7 A5 (Am (A6 (K:=K) hu) (pv 0) Ar (by ac_rfl)))) A5) A5))
  (A1 (A7 (i:=4) sc__law_draw.nd (by ac_nf) (by eq_refl) (Af Fs (Af D7 (Af (Ah (K:=K)) (Af Gj (pv 4) A5) (Af D7 A5 (Am (A6 (K:=K) hu) (pv 0) Ar (by ac_rfl)))) A5) A5))
  (A3 (Al (Af Fs (Af Gj (pv 4) A5) (pv 1)))))))))))),?_⟩
 walk_at "rd"
 refine Gg hd (by show 4<1000;decide) fun H1 e1 hd1=>?_
 rw[Vp] at hd1
 have hl1:H1 l=some (.lst (ns.map V.int)):=e1 _ _ hld hl
 walk_at "rd"
 refine Fr (fun ht=>?_) (fun ht=>?_)
 . walk_at "rd"
   refine Gg hd1 (by show 4<1000;decide) fun H2 e2 hd2=>?_
   rw[Q1] at hd2
   have hl2:H2 l=some (.lst (ns.map V.int)):=e2 _ _ hld hl1
   walk_at "rd"
   exact k _ H2 (Int.emod_nonneg _ (by omega)) (Int.emod_lt_of_pos _ hn) (e1.trans e2) ⟨_,_,_,ns,hd2,hl2,h0,h64⟩
 walk_at "rq"
 with_reducible refine K6 (fun σ' H'=>∃ c:Int,σ'=[some (.ref d),some (.int n),none,some (.int c),none]/\Same H1 H') (fun N hN=>?_) (fun σ1 H2 hM=>?_)
 . walk_at "rq"
   refine Ax (by decide) fun y H2 hy2 e2 h2=>?_
   refine Wb (Pn (e2.seq (SqL.of hl1))) (Pn (ns:=[]) (SqL.of h2)) (PySem.W.ke_shaped_ints ns) (PySem.W.ke_shaped_ints []) ?_
   walk_at "rq"
   refine Tz (fun hc=>?_) (fun hc=>?_)
   . have hpos:0<ns.length:=by
      cases ns with
      | nil=>simp[PyData.eqv,PyData.eqvAll] at hc
      | cons=>simp
     have hl2:=e2 _ _ hl1
     have hd2:=e2 _ _ hd1
     walk_at "rq"
     have hlen:(0:Int)<((ns.map V.int).length:Nat):=by rw[List.length_map];omega
     refine i_rI hlen ?_
     have hm0:0<=a % (((ns.map V.int).length:Nat):Int):=Int.emod_nonneg _ (by omega)
     have hm1:=Int.emod_lt_of_pos a hlen
     obtain⟨c,hc⟩:∃ c,(ns.map V.int)[(a % (((ns.map V.int).length:Nat):Int)).toNat]? = some (V.int c):=by
      refine⟨ns[(a % (((ns.map V.int).length:Nat):Int)).toNat]'(by rw[List.length_map] at *;omega),?_⟩
      rw[List.getElem?_map,List.getElem?_eq_getElem]
      rfl
     refine K3 hl2 (by
      have:=E4 hc
      rwa[Int.toNat_of_nonneg hm0] at this) ?_
     walk_at "rq"
     exact hN _ _ ⟨c,rfl,e2⟩
   walk_at "rq"
   exact hN _ _ ⟨0,rfl,e2⟩
 obtain⟨c,rfl,e2⟩:=hM
 have hd2:=e2 _ _ hd1
 have hl2:=e2 _ _ hl1
 have e12:ExtBut d H H2:=e1.same e2
 walk_at "rd"
 refine Gg hd2 (by show 4<1000;decide) fun H3 e3 hd3=>?_
 rw[ab1] at hd3
 have hl3:H3 l=some (.lst (ns.map V.int)):=e3 _ _ hld hl2
 have fin:∀ r:Int,0<=r->r<n->Q (.int r) H3:=fun r h1 h2=>k r H3 h1 h2 (e12.trans e3) ⟨_,_,_,ns,hd3,hl3,h0,h64⟩
 have take:∀ r x:Int,0<=r->r<n->∀ H4,ExtBut d H3 H4->H4 d=some (.dK (Cm l (a+1) x (u+1)))->Q (.int r) H4:=fun r x h1 h2 H4 e4 h4=>k r H4 h1 h2 ((e12.trans e3).trans e4) ⟨_,_,_,ns,h4,e4 _ _ hld hl3,h0,h64⟩
 walk_at "rd"
 refine Fr (fun hc=>?_) (fun hc=>?_)
 . walk_at "rd"
   refine Fr (fun hc2=>?_) (fun hc2=>?_)
   . walk_at "rd"
     refine Gg hd3 (by show 4<1000;decide) fun H4 e4 hd4=>?_
     rw[Q1] at hd4
     walk_at "rd"
     exact take _ _ (Int.emod_nonneg _ (by omega)) (Int.emod_lt_of_pos _ hn) H4 e4 hd4
   walk_at "rd"
   exact fin _ (Int.emod_nonneg _ (by omega)) (Int.emod_lt_of_pos _ hn)
 walk_at "rd"
 exact fin _ (Int.emod_nonneg _ (by omega)) (Int.emod_lt_of_pos _ hn)
theorem Nm {f:Addr}{fd:FuncData}(F:Fun K "_law_feed" "_law_feed" Cl f fd)(T:Ex mg):FnOk P w K mg base CX0 1 f fd ["_law_script"] (Fh K):=by
 refine F.ok Ms (fun vs H Q E h=>?_) (fun cdv A outer s H vs Q E hr h=>?_)
 . obtain⟨a,ns,rfl,_⟩:=h
   rfl
 obtain⟨a,ns,rfl,hS,h63,k⟩:=h
 have hu:=C2 hr
 have hq:=C1 hr
 with_reducible refine⟨_,(A3 (Al (Ua (Gh Ar (B9 (Ha (K:=K)) (by ac_nf) T.b_list PyProof.Rows.Boot.«list» (A0 (B1 (Ln (K:=K)) (pv 0) Cg (Ay A5)) A2)) (Gh Ar A5 (Gh Ar A5 (Gh Ar A5 Ul)))) (by ac_nf) (by ac_nf) (by decide) (by decide)))),?_⟩
 walk_at "rd"
 refine Xj fun p H1 hp e1 hp1=>?_
 walk_at "rd"
 have hS1:=e1.seq hS
 refine J8 hS1 fun q H2 hq2 e2 hq2'=>?_
 rw[Cd (by decide),<- List.map_take] at hq2'
 walk_at "rd"
 refine a01 (SqL.of hq2') fun v H3 hv3 e3 hv3'=>?_
 walk_at "rd"
 refine Rr [(Sum.inr "script",.ref v),(Sum.inr "at",.int 0),(Sum.inr "left",.int 0),(Sum.inr "turn",.int 0)] (by walk_at "lk") (by rfl) (by show 4<=15;decide) fun H4 e4 h4=>?_
 have en:H4 p=some (.dK (Cm v 0 0 0)):=h4
 refine k p v H4 hp (e1.free (e2.free hv3)) (fun b o hb=>e4 b o (ne_of_none hb hp) (e3 _ _ (e2 _ _ (e1 _ _ hb)))) ⟨0,0,0,_,en,e4 _ _ (Ne.symm (ne_of_none (e2 _ _ hp1) hv3)) hv3',Nat.zero_le _,?_⟩
 rw[List.length_take]
 omega
def C4 (K:PySem.W.Frag):Sp:=fun vs H Q _=>∃ d l a xs,vs=[.ref d,.ref a]/\Feed H d l/\(SqL K H a xs\/SqT K H a xs)/\xs.length<=1000/\∀ p ys H',H p=none->ExtBut d H H'->Feed H' d l->H' p=some (.lst ys)->ys.Perm xs->Q (.ref p) H'
theorem Hy {f:Addr}{fd:FuncData}(F:Fun K "_law_shuffled" "_law_shuffled" Bh f fd)(T:Ex mg)(c__law_draw:Fnd P w K mg base 1 "_law_draw" ["_law_feed_here","_law_many"] (B2 K)):FnOk P w K mg base CX0 2 f fd ["_law_feed_here","_law_some"] (C4 K):=by
 refine F.ok sc__law_shuffled (fun vs H Q E h=>?_) (fun cdv A outer s H vs Q E hr h=>?_)
 . obtain⟨d,l,a,xs,rfl,_⟩:=h
   rfl
 obtain⟨d,l,a,xs,rfl,hF,hS,hx,k⟩:=h
 have hu:=C2 hr
 have hq:=C1 hr
 with_reducible refine⟨_,(A1 (A7 (i:=2) sc__law_shuffled.nd (by ac_nf) (by eq_refl) (B9 (Ha (K:=K)) (by ac_nf) T.b_list PyProof.Rows.Boot.«list» (A0 (pv 1) A2)))
  (A1 (A7 (i:=3) sc__law_shuffled.nd (by ac_nf) (by eq_refl) (B6 A2))
  (A1 (Bv PassesOwn.never (by ac_nf) (Cc (by ac_nf) T.b_range (A0 (Aa (Av (K:=K)) (by ac_nf) T.b_len PyProof.Rows.Boot.«len» (A0 (pv 2) A2)) A2)) (Ae (i:=4) sc__law_shuffled.nd (by ac_nf) (by eq_refl))
  (A3 (Di (Du (K:=K) PySem.F.plainAttrs_list PySem.F.slot_list_append PySem.F.type_list_append (mm Dg) (pv 3) (A0 (Du (K:=K) PySem.F.plainAttrs_list PySem.F.slot_list_pop PySem.F.type_list_pop (mm Vx) (pv 2) (A0 (B0 c__law_draw (hr.mono (by decide)) (by ac_nf) (A0 (pv 0) (A0 (Aa (Av (K:=K)) (by ac_nf) T.b_len PyProof.Rows.Boot.«len» (A0 (pv 2) A2)) A2))) A2)) A2)))))
  (A3 (Al (pv 3)))))),?_⟩
 walk_at "rd"
 refine T0 hS fun q H1 hq1 e1 h1=>?_
 walk_at "rd"
 refine Ax (by decide) fun p H2 hp2 e2 h2=>?_
 walk_at "rd"
 refine G7 (by omega) ?_
 have hp0:H p=none:=e1.free hp2
 have hpq:p≠q:=fun z=>by subst z;rw[h1] at hp2;cases hp2
 refine Dq Bq (fun i σ H3=>∃ us vs x4,σ=[some (.ref d),some (.ref a),some (.ref q),some (.ref p),x4]/\ExtBut d H H3/\Feed H3 d l/\H3 q=some (.lst us)/\H3 p=some (.lst vs)/\(vs++us).Perm xs/\us.length+i=xs.length/\vs.length=i)
  ⟨xs,[],none,rfl,by walk_at "fr",by walk_at "fd",by walk_at "lk",h2,by simp,rfl,rfl⟩ (fun _ _ _ _=>trivial) (fun i x σ H3 hx3 hi hP=>?_) (fun σ H3 hP=>?_)
 . obtain⟨us,vs,x4,rfl,e3,hF3,h3q,h3p,hperm,hlen,hvl⟩:=hP
   obtain⟨rfl,hi2⟩:=Ek hx3
   have hi3:i<xs.length:=by simpa using hi2
   walk_at "rd"
   refine⟨d,l,_,rfl,hF3,by omega,by omega,fun r H4 hr0 hr1 e4 hF4=>?_⟩
   have h4q:H4 q=some (.lst us):=e4 _ _ (hF3.lst h3q) h3q
   have h4p:H4 p=some (.lst vs):=e4 _ _ (hF3.lst h3p) h3p
   have hr2:r.toNat<us.length:=by omega
   walk_at "rd"
   refine Vg h4q hr0 (List.getElem?_eq_getElem hr2) (fun H5 e5 h5q=>?_) (by omega)
   have h5p:H5 p=some (.lst vs):=e5 _ _ hpq h4p
   walk_at "rd"
   refine Nu h5p (by omega) fun H6 e6 h6p=>?_
   walk_at "rd"
   refine⟨us.eraseIdx r.toNat,vs++[us[r.toNat]],_,rfl,by walk_at "fr",(hF4.put e5 (hF.nd hq1) (hF.nl hq1)).put e6 (hF.nd hp0) (hF.nl hp0),e6 _ _ (Ne.symm hpq) h5q,h6p,?_,?_,by simp[hvl]⟩
   . exact(Vm (List.getElem?_eq_getElem hr2) vs).trans hperm
   rw[List.length_eraseIdx,if_pos hr2]
   omega
 obtain⟨us,vs,x4,rfl,e3,hF3,h3q,h3p,hperm,hlen,hvl⟩:=hP
 walk_at "rd"
 have hu0:us=[]:=by
  rw[List.length_map,List.length_range] at hlen
  exact List.length_eq_zero_iff.mp (by omega)
 subst hu0
 rw[List.append_nil] at hperm
 exact k p vs H3 hp0 e3 hF3 h3p hperm
def Ef (K:PySem.W.Frag):Sp:=fun vs H Q _=>∃ d l,vs=[.ref d]/\Feed H d l/\∀ p ns H',H p=none->ExtBut d H H'->Feed H' d l->H' p=some (.lst (ns.map V.str))->Names ns->ns.length=10->Q (.ref p) H'
def MN (H:Hp)(d l:Addr)(way st sz at':Int):L2.St->Hp->Prop:=fun σ' H'=>∃ p ns x7 x8,σ'=[some (V.ref d),some (.str LL),some (.int way),some (.int st),some (.int (1+sz)),some (.int at'),some (.ref p),x7,x8]/\ExtBut d H H'/\Feed H' d l/\H' p=some (.lst (ns.map V.str))/\Names ns/\ns.length=10
theorem L8 {f:Addr}{fd:FuncData}(F:Fun K "_law_names" "_law_names" C7 f fd)(T:Ex mg)(c__law_draw:Fnd P w K mg base 1 "_law_draw" ["_law_feed_here","_law_many"] (B2 K))(c__law_shuffled:Fnd P w K mg base 2 "_law_shuffled" ["_law_feed_here","_law_some"] (C4 K)):FnOk P w K mg base CX0 3 f fd ["_law_feed_here"] (Ef K):=by
 refine F.ok sc__law_names (fun vs H Q E h=>?_) (fun cdv A outer s H vs Q E hr h=>?_)
 . obtain⟨d,l,rfl,_⟩:=h
   rfl
 obtain⟨d,l,rfl,hF,k⟩:=h
 have hu:=C2 hr
 have hq:=C1 hr
 with_reducible refine⟨_,(A1 (A7 (i:=1) sc__law_names.nd (by ac_nf) (by with_unfolding_all exact Or.inr rfl) (Af D7 Ar A5))
  (A1 (A7 (i:=2) sc__law_names.nd (by ac_nf) (by eq_refl) (B0 c__law_draw (hr.mono (by decide)) (by ac_nf) (A0 (pv 0) (A0 A5 A2))))
  (A1 (A7 (i:=3) sc__law_names.nd (by ac_nf) (by with_unfolding_all exact Or.inr rfl) (B0 c__law_draw (hr.mono (by decide)) (by ac_nf) (A0 (pv 0) (A0 A5 A2))))
  (A1 (A7 (i:=4) sc__law_names.nd (by ac_nf) (by eq_refl) (Af (Ah (K:=K)) A5 (B0 c__law_draw (hr.mono (by decide)) (by ac_nf) (A0 (pv 0) (A0 A5 A2)))))
  (A1 (A7 (i:=5) sc__law_names.nd (by ac_nf) (by eq_refl) (B0 c__law_draw (hr.mono (by decide)) (by ac_nf) (A0 (pv 0) (A0 (pv 4) A2))))
  (A1 (A7 (i:=6) sc__law_names.nd (by ac_nf) (by eq_refl) (B6 (A0 Ar (A0 Ar (A0 Ar (A0 Ar (A0 Ar (A0 Ar (A0 Ar (A0 Ar (A0 Ar (A0 Ar A2))))))))))))
  (A1 (Be (Ac (Bd (K:=K) hq) (pv 2) A5 (Aj _)) (A1 (A7 (i:=7) sc__law_names.nd (by ac_nf) (by with_unfolding_all exact Or.inr rfl) (B1 (Ln (K:=K)) (pv 1) (Ay (pv 3)) (Ay (Af (Ah (K:=K)) (pv 3) (pv 5)))))
  (A1 (A7 (i:=8) sc__law_names.nd (by ac_nf) (by with_unfolding_all exact Or.inr rfl) (B1 (Ln (K:=K)) (pv 1) (Ay (pv 3)) (Ay (Af Dh (Af Dh (Af (Ah (K:=K)) (pv 3) (pv 4)) (pv 5)) A5))))
  (A3 (Fq (i:=6) ["_law_k"] ["_law_head","_law_letters","_law_tail"] [7,1,8] (by ac_nf) (by ac_nf) (by ac_nf) sc__law_names.nd (by ac_nf) (by ac_nf) (Cc (by ac_nf) T.b_range (A0 A5 A2)) (fun _ _ _ _=>(Ae (i:=0) (by with_unfolding_all (show(["_law_k","_law_head","_law_letters","_law_tail"]:List Str).Nodup;decide +kernel)) (by ac_nf) (by eq_refl))) (B7 (by decide)) (fun _ _ _ _=>Cp) (fun _ _ _ _=>(Af (Ah (K:=K)) (Af (Ah (K:=K)) (pv 1) (Am (A6 (K:=K) hu) (pv 2) (Af Fs (Af D7 A5 (pv 0)) A5) (by ac_rfl))) (pv 3))))))) Ai)
  (A1 (Be (Ac (Bd (K:=K) hq) (pv 2) A5 (Aj _)) (A3 (A7 (i:=6) sc__law_names.nd (by ac_nf) (by eq_refl) (Af (Ah (K:=K)) (Bt ["_law_k"] ["_law_letters","_law_start"] [1,3] (by ac_nf) (by ac_nf) (by ac_nf) (Cc (by ac_nf) T.b_range (A0 A5 A2)) (fun _ _ _ _=>(Ae (i:=0) (by with_unfolding_all (show(["_law_k","_law_letters","_law_start"]:List Str).Nodup;decide +kernel)) (by ac_nf) (by eq_refl))) (B7 (by decide)) (fun _ _ _ _=>Cp) (fun _ _ _ _=>(B1 (Ln (K:=K)) (pv 1) (Ay (pv 2)) (Ay (Af (Ah (K:=K)) (Af (Ah (K:=K)) (pv 2) A5) (pv 0)))))) (B6 (A0 (Am (A6 (K:=K) hu) (pv 1) (Af (Ah (K:=K)) (pv 3) A5) (by ac_rfl)) (A0 (Am (A6 (K:=K) hu) (pv 1) (Af (Ah (K:=K)) (pv 3) A5) (by ac_rfl)) A2)))))) Ai)
  (A1 (Be (Ac (Bd (K:=K) hq) (pv 2) A5 (Aj _)) (A3 (Fq (i:=6) ["_law_k"] ["_law_letters","_law_start"] [1,3] (by ac_nf) (by ac_nf) (by ac_nf) sc__law_names.nd (by ac_nf) (by ac_nf) (Cc (by ac_nf) T.b_range (A0 A5 A2)) (fun _ _ _ _=>(Ae (i:=0) (by with_unfolding_all (show(["_law_k","_law_letters","_law_start"]:List Str).Nodup;decide +kernel)) (by ac_nf) (by eq_refl))) (B7 (by decide)) (fun _ _ _ _=>Cp) (fun _ _ _ _=>(B1 (Ln (K:=K)) (pv 1) (Ay (Af (Ah (K:=K)) (pv 2) (Af D7 A5 (pv 0)))) (Ay (Af (Ah (K:=K)) (Af (Ah (K:=K)) (Af (Ah (K:=K)) (pv 2) (Af D7 A5 (pv 0))) A5) (Af Fs (Af D7 A5 (pv 0)) A5))))))) Ai)
  (A3 (Al (B0 c__law_shuffled (hr.mono (by decide)) (by ac_nf) (A0 (pv 0) (A0 (pv 6) A2)))))))))))))),?_⟩
 walk_at "rd"
 refine a35 (by decide) ?_
 rw[af1]
 walk_at "rd"
 refine⟨d,l,_,rfl,hF,by omega,by omega,fun way H1 hw0 hw1 e1 hF1=>?_⟩
 walk_at "rd"
 refine⟨d,l,_,rfl,hF1,by omega,by omega,fun st H2 hs0 hs1 e2 hF2=>?_⟩
 walk_at "rd"
 refine⟨d,l,_,rfl,hF2,by omega,by omega,fun sz H3 hz0 hz1 e3 hF3=>?_⟩
 walk_at "rd"
 refine⟨d,l,_,rfl,hF3,by omega,by omega,fun at' H4 ha0 ha1 e4 hF4=>?_⟩
 walk_at "rd"
 refine Ax (by decide) fun p5 H5 hp5 e5 h5=>?_
 walk_at "rq"
 have fr4:ExtBut d H H4:=by walk_at "fr"
 have hF5:Feed H5 d l:=by walk_at "fd"
 with_reducible refine K6 (MN H d l way st sz at') (fun N hN=>?_) (fun σ1 H6 hM=>?_)
 . walk_at "rq"
   refine Fr (fun hw=>?_) (fun hw=>?_)
   . walk_at "rq"
     refine G7 (by omega) ?_
     have c1:=Qc (i:=st) (j:=st+at') hs0 (by omega) (by omega)
     have c2:=Qc (i:=st) (j:=st+(1+sz)-at'-1) (by omega) (by omega) (by omega)
     rw[c1,c2]
     refine L3 Bq (fI fun k=>.str (txt (K2 st.toNat (st+at').toNat)++txt (M3 (7*k % 26).toNat)++txt (K2 st.toNat (st+(1+sz)-at'-1).toNat))) (by simp) (fun _ _=>trivial) (fun i x H8 R hx e8 hR=>?_) (fun p8 H8 hp8 e8 h8=>?_)
     . obtain⟨rfl,hi⟩:=Ek hx
       have hm0:=Int.emod_nonneg (7*(0+(i:Int))) (show(26:Int)≠0 by decide)
       have hm1:=Int.emod_lt_of_pos (7*(0+(i:Int))) (show(0:Int)<26 by decide)
       obtain⟨c,hc,ec⟩:=a56 (i:=7*(0+(i:Int)) % 26) (by omega) (by omega)
       walk_at "rq"
       refine Yw Om hc ?_
       rw[ec]
       have l1:(txt (K2 st.toNat (st+at').toNat)).length<=52:=by show(K2 _ _).toArray.size<=_;unfold K2;simp[Gz];omega
       have l2:(txt (K2 st.toNat (st+(1+sz)-at'-1).toNat)).length<=52:=by show(K2 _ _).toArray.size<=_;unfold K2;simp[Gz];omega
       have l3:(txt (M3 (7*(0+(i:Int)) % 26).toNat)).length<=52:=by show(M3 _).toArray.size<=_;unfold M3;simp[Gz];omega
       refine i_addS (A8 (by omega)) ?_
       have l4:(txt (K2 st.toNat (st+at').toNat)++txt (M3 (7*(0+(i:Int)) % 26).toNat)).length<=104:=by rw[Str.length_append];omega
       walk_at "rq"
       exact hR
     rw[Oj (G:=fun k=>txt (K2 st.toNat (st.toNat+at'.toNat)++M3 (7*k % 26)++K2 st.toNat (st.toNat+(1+sz).toNat-at'.toNat-1))) (fun k hk=>by
      have q1:(st+at').toNat=st.toNat+at'.toNat:=by omega
      have q2:(7*(0+(k:Int)) % 26).toNat=7*k % 26:=by omega
      have q4:(st+(1+sz)-at'-1).toNat=st.toNat+(1+sz).toNat-at'.toNat-1:=by omega
      rw[q1,q2,q4,Th,Th])] at h8
     walk_at "rq"
     refine hN _ _ ⟨p8,(a81 st.toNat (1+sz).toNat at'.toNat).map txt,_,_,rfl,by walk_at "fr",by walk_at "fd",?_,a45 (by omega) (by omega) (by omega),by simp[a81]⟩
     rw[h8]
     simp[a81,Function.comp_def]
   walk_at "rq"
   refine hN _ _ ⟨p5,ar5,none,none,rfl,by walk_at "fr",hF5,h5,a57,rfl⟩
 obtain⟨p,ns,x7,x8,rfl,e6,hF6,h6,hN6,hl6⟩:=hM
 with_reducible refine K6 (MN H d l way st sz at') (fun N hN=>?_) (fun σ1 H7 hM=>?_)
 . walk_at "rq"
   refine Fr (fun hw=>?_) (fun hw=>?_)
   . walk_at "rq"
     refine G7 (by omega) ?_
     refine L3 Bq (fI fun k=>.str (Txt.slice LL (some st) (some (st+1+k)))) (by simp) (fun _ _=>trivial) (fun i x H6 R hx e6 hR=>?_) (fun p6 H7 hp6 e7 h7=>?_)
     . obtain⟨rfl,hi⟩:=Ek hx
       walk_at "rq"
       exact hR
     rw[Oj (G:=fun k=>txt (K2 st.toNat (st.toNat+1+k))) (fun k hk=>by
      have e:=Qc (i:=st) (j:=st+1+(0+(k:Int))) hs0 (by omega) (by have:((8:Int)).toNat=8:=rfl;omega)
      have e2:(st+1+(0+(k:Int))).toNat=st.toNat+1+k:=by omega
      rw[e2] at e
      rw[e])] at h7
     obtain⟨c9,hc9,e9⟩:=a56 (i:=st+9) (by omega) (by omega)
     obtain⟨c11,hc11,e11⟩:=a56 (i:=st+11) (by omega) (by omega)
     walk_at "rq"
     refine Yw Om hc9 ?_
     walk_at "rq"
     refine Yw Om hc11 ?_
     walk_at "rq"
     refine Ax (A8 (by simp)) fun p8 H8 hp8 e8 h8=>?_
     refine Fv (by walk_at "lk") h8 (by simp[sizeLine_eq]) fun p9 H9 hp9 e9' h9=>?_
     walk_at "rq"
     refine hN _ _ ⟨p9,(ad7 st.toNat).map txt,_,_,rfl,by walk_at "fr",by walk_at "fd",?_,a68 (by omega),by simp[ad7]⟩
     rw[h9,e9,e11]
     have q9:(st+9).toNat=st.toNat+9:=by omega
     have q10:(st+11).toNat=st.toNat+11:=by omega
     rw[q9,q10]
     simp[ad7,Function.comp_def]
   walk_at "rq"
   exact hN _ _ ⟨p,ns,x7,x8,rfl,e6,hF6,h6,hN6,hl6⟩
 obtain⟨p',ns',x7',x8',rfl,e7,hF7,h7,hN7,hl7⟩:=hM
 with_reducible refine K6 (MN H d l way st sz at') (fun N hN=>?_) (fun σ1 H8 hM=>?_)
 . walk_at "rq"
   refine Fr (fun hw=>?_) (fun hw=>?_)
   . walk_at "rq"
     refine G7 (by omega) ?_
     refine L3 Bq (fI fun k=>.str (Txt.slice LL (some (st+2*k)) (some (st+2*k+1+5*k % 8)))) (by simp) (fun _ _=>trivial) (fun i x H8 R hx e8 hR=>?_) (fun p8 H8 hp8 e8 h8=>?_)
     . obtain⟨rfl,hi⟩:=Ek hx
       walk_at "rq"
       exact hR
     rw[Oj (G:=fun k=>txt (K2 (st.toNat+2*k) (st.toNat+2*k+1+5*k % 8))) (fun k hk=>by
      have h10:((10:Int)).toNat=10:=rfl
      have e:=Qc (i:=st+2*(0+(k:Int))) (j:=st+2*(0+(k:Int))+1+5*(0+(k:Int)) % 8) (by omega) (by omega) (by omega)
      have q1:(st+2*(0+(k:Int))).toNat=st.toNat+2*k:=by omega
      have q2:(st+2*(0+(k:Int))+1+5*(0+(k:Int)) % 8).toNat=st.toNat+2*k+1+5*k % 8:=by omega
      rw[q1,q2] at e
      rw[e])] at h8
     walk_at "rq"
     refine hN _ _ ⟨p8,(ad5 st.toNat).map txt,_,_,rfl,by walk_at "fr",by walk_at "fd",?_,a64 (by omega),by simp[ad5]⟩
     rw[h8]
     simp[ad5,Function.comp_def]
   walk_at "rq"
   exact hN _ _ ⟨p',ns',x7',x8',rfl,e7,hF7,h7,hN7,hl7⟩
 obtain⟨p2,ms,y7,y8,rfl,e8,hF8,h8,hN8,hl8⟩:=hM
 walk_at "rd"
 refine⟨d,l,p2,_,rfl,hF8,.inl (SqL.of h8),by rw[List.length_map];omega,fun p9 ys9 H9 hp9 e9 hF9 h9 hperm=>?_⟩
 obtain⟨ls,rfl,hpm⟩:=Hc hperm
 exact k p9 ls H9 (hF8.free e8 hp9) (e8.trans e9) hF9 h9 (hN8.perm hpm) (by rw[hpm.length_eq,hl8])
def Df (K:PySem.W.Frag):Sp:=fun vs H Q _=>∃ d l way j k m,vs=[.ref d,.int way,.int j,.int k,.int m]/\Feed H d l/\0<=way/\way<7/\0<k/\k<=100/\∀ b H',ExtBut d H H'->Feed H' d l->Q (.bl b) H'
def Fk (K:PySem.W.Frag):Sp:=fun vs H Q _=>∃ d l n,vs=[.ref d,.int n]/\Feed H d l/\0<=n/\n<=10/\∀ v ns ps H',ExtBut d H H'->Feed H' d l->Is K H' (hfD ns ps) v->Half ns ps->ns.length=n.toNat->Q v H'
theorem Ws {K:PySem.W.Frag}{H:Hp}{ps:List (Str×Str)}{xs:List V}{p:Str×Str}{v:V}(n:Nat)(h:IsL K H (ps.map prD) xs)(hv:Is K H (prD p) v):IsL K H ((ps.take n++p :: ps.drop n).map prD) (aj3 xs n v):=by
 rw[List.map_append,List.map_cons,List.map_take,List.map_drop]
 exact(IsL.take n h).append (.cons hv (IsL.drop n h))
theorem Ig {K:PySem.W.Frag}{H:Hp}{ps:List (Str×Str)}{xs:List V}(h:IsL K H (ps.map prD) xs):xs.length=ps.length:=by rw[<- IsL.length h,List.length_map]
theorem ab9 {ls:List Str}{ps:List (Str×Str)}{p:Str×Str}(n:Nat)(h:Up ls ps)(hp:Up ls [p]):Up ls (ps.take n++p :: ps.drop n):=by
 intro z hz
 rcases List.mem_append.mp hz with hz | hz
 . exact h z (List.mem_of_mem_take hz)
 rcases List.mem_cons.mp hz with rfl | hz
 . exact hp _ (by simp)
 exact h z (List.mem_of_mem_drop hz)
theorem Jj {f:Addr}{fd:FuncData}(F:Fun K "_law_is_laid" "_law_is_laid" Bs f fd)(T:Ex mg)(c__law_draw:Fnd P w K mg base 1 "_law_draw" ["_law_feed_here","_law_many"] (B2 K)):FnOk P w K mg base CX0 2 f fd ["_law_feed_here","_law_way","_law_j","_law_k","_law_many"] (Df K):=by
 refine F.ok Jl (fun vs H Q E h=>?_) (fun cdv A outer s H vs Q E hr h=>?_)
 . obtain⟨d,l,way,j,kk,m,rfl,_⟩:=h
   rfl
 obtain⟨d,l,way,j,kk,m,rfl,hF,hw0,hw1,hk0,hk1,k⟩:=h
 have hu:=C2 hr
 have hq:=C1 hr
 with_reducible refine⟨_,(A1 (Be (PW.pt (Rb (Ac (Bd (K:=K) hq) (pv 1) A5 (Aj _)) (Kp (Ac (Bd (K:=K) hq) (pv 1) A5 (Aj _))))) (A3 (Al (E3 (Bd (K:=K) hq) (B0 c__law_draw (hr.mono (by decide)) (by ac_nf) (A0 (pv 0) (A0 (Af D7 A5 (pv 1)) A2))) A5 (Aj _)))) Ai)
  (A1 (Be (Ac (Bd (K:=K) hq) (pv 1) A5 (Aj _)) (A3 (Al (E3 W2 (B0 c__law_draw (hr.mono (by decide)) (by ac_nf) (A0 (pv 0) (A0 A5 A2))) A5 (Aj _)))) Ai)
  (A1 (Be (Ac (Bd (K:=K) hq) (pv 1) A5 (Aj _)) (A3 (Al (E3 (Bd (K:=K) hq) (Af Dh (pv 3) (pv 2)) (Af (Ah (K:=K)) A5 (Af Fs (pv 4) A5)) (Aj _)))) Ai)
  (A1 (Be (Ac (Bd (K:=K) hq) (pv 1) A5 (Aj _)) (A3 (Al (V6 Qw ag2 (pv 2) (Af Gj (pv 4) A5) (pv 3)))) Ai)
  (A3 (Al (a93 (E3 (Bd (K:=K) hq) (pv 1) A5 (Aj _)) (Yp (E3 (Bd (K:=K) hq) (pv 2) (B0 c__law_draw (hr.mono (by decide)) (by ac_nf) (A0 (pv 0) (A0 (pv 3) A2))) (Aj _)))))))))),?_⟩
 walk_at "rd"
 refine Fr (fun hw=>?_) (fun hw=>?_)
 . have hw':way=1:=by cases hw;rfl
   walk_at "rd"
   refine⟨d,l,_,rfl,hF,by omega,by omega,fun u H1 hu0 hu1 e1 hF1=>?_⟩
   walk_at "rd"
   exact k _ H1 e1 hF1
 walk_at "rd"
 refine Fr (fun hw2=>?_) (fun hw2=>?_)
 . have hw':way=2:=by cases hw2;rfl
   walk_at "rd"
   refine⟨d,l,_,rfl,hF,by omega,by omega,fun u H1 hu0 hu1 e1 hF1=>?_⟩
   walk_at "rd"
   exact k _ H1 e1 hF1
 walk_at "rd"
 refine Fr (fun hw3=>?_) (fun hw3=>?_)
 . walk_at "rd"
   refine⟨d,l,_,rfl,hF,by omega,by omega,fun u H1 hu0 hu1 e1 hF1=>?_⟩
   walk_at "rd"
   exact k _ H1 e1 hF1
 walk_at "rd"
 refine Fr (fun hw4=>?_) (fun hw4=>?_)
 . walk_at "rd"
   exact k _ H .refl hF
 walk_at "rd"
 refine Fr (fun hw5=>?_) (fun hw5=>?_)
 . walk_at "rd"
   refine Fr (fun h1=>?_) (fun h1=>?_)
   . walk_at "rd"
     exact k _ H .refl hF
   exact k _ H .refl hF
 walk_at "rd"
 refine Fr (fun h1=>?_) (fun h1=>?_)
 . walk_at "rd"
   refine⟨d,l,_,rfl,hF,by omega,by omega,fun u H1 hu0 hu1 e1 hF1=>?_⟩
   walk_at "rd"
   exact k _ H1 e1 hF1
 exact k _ H .refl hF
theorem N1 {f:Addr}{fd:FuncData}(F:Fun K "_law_half" "_law_half" Co f fd)(T:Ex mg)(c__law_draw:Fnd P w K mg base 1 "_law_draw" ["_law_feed_here","_law_many"] (B2 K))(c__law_shuffled:Fnd P w K mg base 2 "_law_shuffled" ["_law_feed_here","_law_some"] (C4 K))(c__law_names:Fnd P w K mg base 3 "_law_names" ["_law_feed_here"] (Ef K))(c__law_is_laid:Fnd P w K mg base 2 "_law_is_laid" ["_law_feed_here","_law_way","_law_j","_law_k","_law_many"] (Df K)):FnOk P w K mg base CX0 4 f fd ["_law_feed_here","_law_many"] (Fk K):=by
 refine F.ok sc__law_half (fun vs H Q E h=>?_) (fun cdv A outer s H vs Q E hr h=>?_)
 . obtain⟨d,l,n,rfl,_⟩:=h
   rfl
 obtain⟨d,l,n,rfl,hF,h0,h10,k⟩:=h
 have hu:=C2 hr
 have hq:=C1 hr
 with_reducible refine⟨_,(A1 (A7 (i:=2) sc__law_half.nd (by ac_nf) (by eq_refl) (B1 (Ln (K:=K)) (B0 c__law_names (hr.mono (by decide)) (by ac_nf) (A0 (pv 0) A2)) Cg (Ay (pv 1))))
  (A1 (A7 (i:=3) sc__law_half.nd (by ac_nf) (by eq_refl) (B0 c__law_shuffled (hr.mono (by decide)) (by ac_nf) (A0 (pv 0) (A0 (pv 2) A2))))
  (A1 (A7 (i:=4) sc__law_half.nd (by ac_nf) (by eq_refl) (B0 c__law_draw (hr.mono (by decide)) (by ac_nf) (A0 (pv 0) (A0 A5 A2))))
  (A1 (A7 (i:=5) sc__law_half.nd (by ac_nf) (by eq_refl) (B6 A2))
  (A1 (Bv PassesOwn.never (by ac_nf) (S0 (by ac_nf) T.b_range (A0 A5 (A0 (pv 1) A2))) (Ae (i:=6) sc__law_half.nd (by ac_nf) (by eq_refl))
  (A3 (Bv PassesOwn.never (by ac_nf) (Cc (by ac_nf) T.b_range (A0 (pv 6) A2)) (Ae (i:=7) sc__law_half.nd (by ac_nf) (by eq_refl))
  (A3 (Be (Ev (B0 c__law_is_laid (hr.mono (by decide)) (by ac_nf) (A0 (pv 0) (A0 (pv 4) (A0 (pv 7) (A0 (pv 6) (A0 (pv 1) A2))))))) (A3 (Di (Du (K:=K) PySem.F.plainAttrs_list PySem.F.slot_list_insert PySem.F.type_list_insert (mm Nv) (pv 5) (A0 (B0 c__law_draw (hr.mono (by decide)) (by ac_nf) (A0 (pv 0) (A0 (Af (Ah (K:=K)) (Aa (Av (K:=K)) (by ac_nf) T.b_len PyProof.Rows.Boot.«len» (A0 (pv 5) A2)) A5) A2))) (A0 (D8 (A0 (Am (A6 (K:=K) hu) (pv 3) (pv 7) (by ac_rfl)) (A0 (Am (A6 (K:=K) hu) (pv 3) (pv 6) (by ac_rfl)) A2))) A2))))) Ai)))))
  (A1 (Bv PassesOwn.never (by ac_nf) (An (K:=K) hu (B1 (Ln (K:=K)) (pv 5) Cg (Ay A5))) (Ae (i:=8) sc__law_half.nd (by ac_nf) (by eq_refl))
  (A3 (Be (Ac (Bd (K:=K) hq) (B0 c__law_draw (hr.mono (by decide)) (by ac_nf) (A0 (pv 0) (A0 A5 A2))) A5 (Aj _)) (A3 (A7 (i:=5) sc__law_half.nd (by ac_nf) (by eq_refl) (Af (Ah (K:=K)) (pv 5) (B6 (A0 (pv 8) A2))))) Ai)))
  (A3 (Al (D8 (A0 (B9 (C6 (K:=K)) (by ac_nf) T.b_tuple PyProof.Rows.Boot.«tuple» (A0 (pv 2) A2)) (A0 (B9 (C6 (K:=K)) (by ac_nf) T.b_tuple PyProof.Rows.Boot.«tuple» (A0 (B1 (Ln (K:=K)) (pv 5) Cg (Ay A5)) A2)) A2))))))))))),?_⟩
 walk_at "rd"
 refine⟨d,l,rfl,hF,fun p1 n1 H1 hp1 e1 hF1 h1 hN1 hl1=>?_⟩
 walk_at "rd"
 refine J8 (SqL.of h1) fun p2 H2 hp2 e2 h2=>?_
 rw[Cd h0,<- List.map_take] at h2
 have hN2:Names (n1.take n.toNat):=hN1.sublist (List.take_sublist _ _)
 have hl2:(n1.take n.toNat).length=n.toNat:=by rw[List.length_take];omega
 generalize n1.take n.toNat=ns at h2 hN2 hl2
 have hF2:=hF1.same e2
 walk_at "rd"
 refine⟨d,l,p2,_,rfl,hF2,.inl (SqL.of h2),by rw[List.length_map];omega,fun p3 ys3 H3 hp3 e3 hF3 h3 hperm=>?_⟩
 obtain⟨ls,rfl,hpm⟩:=Hc hperm
 have hll:=hpm.length_eq
 have h3n:H3 p2=some (.lst (ns.map V.str)):=e3 _ _ (hF2.lst h2) h2
 walk_at "rd"
 refine⟨d,l,_,rfl,hF3,by omega,by omega,fun way H4 hw0 hw1 e4 hF4=>?_⟩
 have h4n:=e4 _ _ (hF3.lst h3n) h3n
 have h4l:=e4 _ _ (hF3.lst h3) h3
 walk_at "rd"
 refine Ax (by decide) fun p5 H5 hp5 e5 h5=>?_
 have fr4:ExtBut d H H4:=by walk_at "fr"
 have hp50:H p5=none:=hF4.free fr4 hp5
 have hF5:=hF4.same e5
 have h5n:=e5 _ _ h4n
 have h5l:=e5 _ _ h4l
 have n5:p2≠p5:=ne_of_none h4n hp5
 have l5:p3≠p5:=ne_of_none h4l hp5
 have hp5d:p5≠d:=hF5.lst h5
 have hp2d:p2≠d:=hF5.lst h5n
 have hp3d:p3≠d:=hF5.lst h5l
 walk_at "rd"
 refine a94 (by omega) ?_
 refine Dq Bq (fun i σ H6=>∃ xs qs x6 x7 x8,σ=[some (.ref d),some (.int n),some (.ref p2),some (.ref p3),some (.int way),some (.ref p5),x6,x7,x8]/\ExtBut d H H6/\Feed H6 d l/\H6 p2=some (.lst (ns.map V.str))/\H6 p3=some (.lst (ls.map V.str))/\H6 p5=some (.lst xs)/\IsL K H6 (qs.map prD) xs/\Up ls qs/\qs.length<=i*10)
  ⟨[],[],_,_,_,rfl,by walk_at "fr",hF5,h5n,h5l,h5,.nil,.nil,by decide⟩ (fun _ _ _ _=>trivial) (fun i x σ H6 hx hi hP=>?_) (fun σ H6 hP=>?_)
 . obtain⟨xs,qs,x6,x7,x8,rfl,e6,hF6,h6n,h6l,h6,hI6,hU6,hq6⟩:=hP
   obtain⟨rfl,hi2⟩:=Ek hx
   walk_at "rd"
   refine G7 (by omega) ?_
   refine Dq Bq (fun j σ H7=>∃ ys rs x7 x8,σ=[some (.ref d),some (.int n),some (.ref p2),some (.ref p3),some (.int way),some (.ref p5),some (.int (1+(i:Int))),x7,x8]/\ExtBut d H H7/\Feed H7 d l/\H7 p2=some (.lst (ns.map V.str))/\H7 p3=some (.lst (ls.map V.str))/\H7 p5=some (.lst ys)/\IsL K H7 (rs.map prD) ys/\Up ls rs/\rs.length<=i*10+j)
    ⟨xs,qs,_,_,rfl,e6,hF6,h6n,h6l,h6,hI6,hU6,by omega⟩ (fun _ _ _ _=>trivial) (fun j x σ H7 hx7 hj hP=>?_) (fun σ H7 hP=>?_)
   . obtain⟨ys,rs,x7,x8,rfl,e7,hF7,h7n,h7l,h7,hI7,hU7,hq7⟩:=hP
     obtain⟨rfl,hj2⟩:=Ek hx7
     have hyl:=Ig hI7
     walk_at "rd"
     refine⟨d,l,way,_,_,n,rfl,hF7,hw0,hw1,by omega,by omega,fun b H8 e8 hF8=>?_⟩
     have h8n:=e8 _ _ hp2d h7n
     have h8l:=e8 _ _ hp3d h7l
     have h8:=e8 _ _ hp5d h7
     have hI8:=IsL.fz (hF7.fz e8) _ _ (Ee rs) hI7
     walk_at "rd"
     refine a77 (fun hb=>?_) (fun hb=>?_)
     . walk_at "rd"
       refine⟨d,l,_,rfl,hF8,by omega,by omega,fun u H9 hu0 hu1 e9 hF9=>?_⟩
       have h9n:=e9 _ _ hp2d h8n
       have h9l:=e9 _ _ hp3d h8l
       have h9:=e9 _ _ hp5d h8
       obtain⟨z1,hz1,hz1',_⟩:=str_at? (ls:=ls) (i:=0+(j:Int)) (by omega) (by omega)
       obtain⟨z2,hz2,hz2',_⟩:=str_at? (ls:=ls) (i:=1+(i:Int)) (by omega) (by omega)
       walk_at "rd"
       refine K3 h9l hz1' ?_
       walk_at "rd"
       refine K3 h9l hz2' ?_
       walk_at "rd"
       refine D9 (A8 (by simp)) fun t10 H10 ht10 e10 h10=>?_
       walk_at "rd"
       refine a89 (e10 _ _ h9) hu0 (by omega) (by omega) fun H11 e11 h11=>?_
       have fz9:=hF8.fz e9
       have fz11:Fz H10 H11:=e11.fzL (e10 _ _ h9)
       have hUp:Up ls [(z1,z2)]:=fun p hp=>by
        have:p=(z1,z2):=by simpa using hp
        rw[this]
        exact⟨(0+(j:Int)).toNat,(1+(i:Int)).toNat,by omega,hz1,hz2⟩
       walk_at "rd"
       refine⟨_,_,_,_,rfl,by walk_at "fr",by walk_at "fd",e11 _ _ n5 (e10 _ _ h9n),e11 _ _ l5 (e10 _ _ h9l),h11,Ws u.toNat (IsL.fz ((fz9.trans e10.fz).trans fz11) _ _ (Ee rs) hI8) ((am0 (SqT.of h10)).pr_fz fz11),ab9 _ hU7 hUp,?_⟩
       rw[List.length_append,List.length_cons,List.length_take,List.length_drop]
       omega
     walk_at "rd"
     exact⟨ys,rs,_,_,rfl,e7.trans e8,hF8,h8n,h8l,h8,hI8,hU7,by omega⟩
   obtain⟨ys,rs,x7,x8,rfl,e7,hF7,h7n,h7l,h7,hI7,hU7,hq7⟩:=hP
   rw[List.length_map,List.length_range] at hq7
   exact⟨ys,rs,_,_,_,rfl,e7,hF7,h7n,h7l,h7,hI7,hU7,by omega⟩
 obtain⟨xs,qs,x6,x7,x8,rfl,e6,hF6,h6n,h6l,h6,hI6,hU6,hq6⟩:=hP
 rw[List.length_map,List.length_range] at hq6
 have hxl:=Ig hI6
 walk_at "rd"
 refine J8 (SqL.of h6) fun p7 H7 hp7 e7 h7=>?_
 rw[Cd (by decide)] at h7
 have hI7:IsL K H7 ((qs.take 5).map prD) (xs.take 5):=by rw[List.map_take];exact IsL.take 5 (IsL.mono e7 _ _ hI6)
 have hp7d:p7≠d:=(hF6.same e7).lst h7
 refine Gr (SqL.of h7) ?_
 refine Dq (Bk (xs:=xs.take 5)) (fun i σ H8=>∃ p8 ys rs x6 x7 x8,σ=[some (.ref d),some (.int n),some (.ref p2),some (.ref p3),some (.int way),some (.ref p8),x6,x7,x8]/\ExtBut d H H8/\Feed H8 d l/\Fz H7 H8/\H8 p2=some (.lst (ns.map V.str))/\H8 p7=some (.lst (xs.take 5))/\H8 p8=some (.lst ys)/\IsL K H8 (rs.map prD) ys/\Up ls rs/\rs.length<=100+i)
  ⟨p5,xs,qs,_,_,_,rfl,by walk_at "fr",hF6.same e7,.refl _,e7 _ _ h6n,h7,e7 _ _ h6,IsL.mono e7 _ _ hI6,hU6,by omega⟩ (fun i σ' H' hP=>?_) (fun i x σ H8 hx8 hi hP=>?_) (fun σ H8 hP=>?_)
 . obtain⟨_,_,_,_,_,_,_,_,_,_,_,h,_⟩:=hP
   exact SqL.of h
 . obtain⟨p8,ys,rs,x6,x7,x8,rfl,e8,hF8,fz8,h8n,h87,h8,hI8,hU8,hq8⟩:=hP
   obtain⟨dp,hdp,hip⟩:=IsL.get hI7 hx8
   rw[List.getElem?_map] at hdp
   have hyl:=Ig hI8
   have hi5:i<5:=by rw[List.length_take] at hi;omega
   cases hpr:(qs.take 5)[i]? with
   | none=>rw[hpr] at hdp;cases hdp
   | some pr=>
     rw[hpr] at hdp
     cases hdp
     have hUp:Up ls [pr]:=hU6.sub fun z hz=>by
      have:z=pr:=by simpa using hz
      subst this
      exact List.mem_of_mem_take (List.mem_of_getElem? hpr)
     walk_at "rd"
     refine⟨d,l,_,rfl,hF8,by omega,by omega,fun u H9 hu0 hu1 e9 hF9=>?_⟩
     have h9n:=e9 _ _ hp2d h8n
     have h97:=e9 _ _ hp7d h87
     have h9:=e9 _ _ (hF8.lst h8) h8
     have fz9:=hF8.fz e9
     walk_at "rd"
     refine Fr (fun hu'=>?_) (fun hu'=>?_)
     . walk_at "rd"
       refine Ax (A8 (by simp)) fun q10 H10 hq10 e10 h10=>?_
       refine Fv (e10 _ _ h9) h10 (A8 (by simp;omega)) fun q11 H11 hq11 e11 h11=>?_
       walk_at "rd"
       have e911:Same H9 H11:=e10.trans e11
       refine⟨q11,_,rs++[pr],_,_,_,rfl,by walk_at "fr",hF9.same e911,(fz8.trans fz9).trans e911.fz,e911 _ _ h9n,e911 _ _ h97,h11,?_,?_,by rw[List.length_append,List.length_singleton];omega⟩
       . rw[List.map_append]
         exact IsL.append (IsL.fz (fz9.trans e911.fz) _ _ (Ee rs) hI8) (.one (Is.fz ((fz8.trans fz9).trans e911.fz) _ _ (Sq pr) hip))
       intro z hz
       rcases List.mem_append.mp hz with hz | hz
       . exact hU8 z hz
       exact hUp z hz
     walk_at "rd"
     exact⟨p8,ys,rs,_,_,_,rfl,e8.trans e9,hF9,fz8.trans fz9,h9n,h97,h9,IsL.fz fz9 _ _ (Ee rs) hI8,hU8,by omega⟩
 obtain⟨p8,ys,rs,x6,x7,x8,rfl,e8,hF8,fz8,h8n,h87,h8,hI8,hU8,hq8⟩:=hP
 have hyl:=Ig hI8
 walk_at "rd"
 refine Ea (SqL.of h8n) fun t9 H9 ht9 e9 h9=>?_
 walk_at "rd"
 refine J8 (SqL.of (e9 _ _ h8)) fun q10 H10 hq10 e10 h10=>?_
 rw[Cd (by decide)] at h10
 walk_at "rd"
 refine Ea (SqL.of h10) fun t11 H11 ht11 e11 h11=>?_
 walk_at "rd"
 refine D9 (A8 (by simp)) fun t12 H12 ht12 e12 h12=>?_
 have e912:Same H9 H12:=(e10.trans e11).trans e12
 have hI12:IsL K H12 ((rs.take 60).map prD) (ys.take 60):=by rw[List.map_take];exact IsL.take 60 (IsL.mono (e9.trans e912) _ _ hI8)
 refine k (.ref t12) ns (rs.take 60) H12 (by walk_at "fr") (by walk_at "fd") (al3 (SqT.of h12) ((Gu (SqT.of h9)).nm_fz e912.fz) (Is.of_tup (SqT.of (e12 _ _ h11)) hI12)) (V7 hN2 (by omega) hpm (hU8.sub fun z hz=>List.mem_of_mem_take hz) (by rw[List.length_take];omega)) hl2
def Ff (K:PySem.W.Frag):Sp:=fun vs H Q _=>∃ v ns ps,vs=[v]/\Is K H (hfD ns ps) v/\HalfW ns ps/\ns.length<=10/\(∀ z∈ns,PyData.strOk z=true)/\∀ r as H',H r=none->Same H H'->TabL K H' r ns as (Way ps)->Q (.ref r) H'
theorem Mm {f:Addr}{fd:FuncData}(F:Fun K "_law_over" "_law_over" Cj f fd)(T:Ex mg):FnOk P w K mg base CX0 1 f fd ["_law_half_here"] (Ff K):=by
 refine F.ok sc__law_over (fun vs H Q E h=>?_) (fun cdv A outer s H vs Q E hr h=>?_)
 . obtain⟨v,ns,ps,rfl,_⟩:=h
   rfl
 obtain⟨v,ns,ps,rfl,hI,hW,h10,hok1,k⟩:=h
 have hu:=C2 hr
 have hq:=C1 hr
 have hn:=hW.nd
 have hm:=hW.mem
 with_reducible refine⟨_,(A1 (A7 (i:=1) sc__law_over.nd (by ac_nf) (by with_unfolding_all exact Or.inr rfl) (B9 (K8 (K:=K) hr.hd) (by ac_nf) T.b_dict PyProof.Rows.Boot.«dict» (A0 (Bt ["_law_name"] [] [] (by ac_nf) (by ac_nf) (by ac_nf) (An (K:=K) hu (Am (A6 (K:=K) hu) (pv 0) A5 (by ac_rfl))) (fun _ _ _ _=>(Ae (i:=0) (by with_unfolding_all (show(["_law_name"]:List Str).Nodup;decide +kernel)) (by ac_nf) (by eq_refl))) (B7 (by decide)) (fun _ _ _ _=>Cp) (fun _ _ _ _=>(D8 (A0 (pv 0) (A0 (B6 A2) A2))))) A2)))
  (A1 (A7 (i:=2) sc__law_over.nd (by ac_nf) (by eq_refl) Ch)
  (A1 (Qd PassesOwn.never (Ev (pv 2))
  (A1 (A7 (i:=2) sc__law_over.nd (by ac_nf) (by eq_refl) Ch)
  (A3 (Bv PassesOwn.never (by ac_nf) (An (K:=K) hu (Am (A6 (K:=K) hu) (pv 0) A5 (by ac_rfl))) (Sf (K:=K) (n:=2) (by ac_nf) (Ir (Ae (i:=3) sc__law_over.nd (by ac_nf) (by with_unfolding_all exact Or.inr rfl)) (Ir (Ae (i:=4) sc__law_over.nd (by ac_nf) (by eq_refl)) Uw)))
  (A1 (Fq (i:=5) ["_law_name"] ["_law_found","_law_one"] [1,3] (by ac_nf) (by ac_nf) (by ac_nf) sc__law_over.nd (by ac_nf) (by ac_nf) (An (K:=K) hu (Af (Ah (K:=K)) (B6 (A0 (pv 4) A2)) (Am (A6 (K:=K) hu) (pv 1) (pv 4) (by ac_rfl)))) (fun _ _ _ _=>(Ae (i:=0) (by with_unfolding_all (show(["_law_name","_law_found","_law_one"]:List Str).Nodup;decide +kernel)) (by ac_nf) (by eq_refl))) (B7 (by decide)) (fun _ _ _ _=>(Er (Ac (Iy (K:=K) hq) (pv 0) (Am (A6 (K:=K) hu) (pv 1) (pv 2) (by ac_rfl)) (by ac_nf)))) (fun _ _ _ _=>(pv 0)))
  (A1 (A7 (i:=2) sc__law_over.nd (by ac_nf) (by eq_refl) (ao3 (pv 2) (Yp (E3 (Gk (K:=K) hq) (pv 5) (B6 A2) (Aj _)))))
  (A3 (Dj hu (pv 1) (pv 3) (Af (Ah (K:=K)) (Am (A6 (K:=K) hu) (pv 1) (pv 3) (by ac_rfl)) (pv 5)) (by ac_nf)))))))))
  (A3 (Al (pv 1)))))),?_⟩
 walk_at "rd"
 refine E6 hI fun nv hN=>?_
 obtain⟨na,rfl,hS⟩:=hN.nm
 refine O5 hS ?_
 refine Fi (Et (xs:=ns.map V.str)) (fun p i acc H1=>Same H H1/\∃ as:List Addr,as.length=i/\(∀(j:Nat) (z:Str) (a:Addr),ns[j]? = some z->as[j]? = some a->H1 a=some (.lst [])/\a≠p)/\PrsK K H1 (Ie (ns.take i) as) acc) (fun p H' hp e h=>⟨e,[],rfl,fun j z a _ h=>(by simp at h),by rfl⟩) (fun p i acc H1 hP=>hP.1.seqT hS) (fun p i x acc H1 hp hx hi hl ha hP=>?_) fun p acc H1 hp ha hl hP=>?_
 . obtain ⟨e1,as,hal,hrow,hpr⟩:=hP
   rw[List.getElem?_map] at hx
   cases hz:ns[i]? with
   | none=>rw[hz] at hx;cases hx
   | some z=>
     rw[hz] at hx
     cases hx
     have hin:i<ns.length:=(List.getElem?_eq_some_iff.mp hz).1
     walk_at "rd"
     refine Ax (by decide) fun b H2 hb2 e2 h2=>?_
     walk_at "rd"
     refine D9 (A8 (by simp)) fun t H3 ht3 e3 h3=>?_
     have h3p:H3 p=some (.lst acc):=e3 _ _ (e2 _ _ ha)
     refine Ho (by rw[List.length_map];omega) hi hl h3p fun H4 e4 h4=>?_
     have hbp:b≠p:=Ne.symm (ne_of_none ha hb2)
     refine⟨by walk_at "sm",as++[b],by simp[hal],fun j y a hj haj=>?_,?_⟩
     . by_cases hji:j<as.length
       . rw[List.getElem?_append_left hji] at haj
         obtain⟨q1,q2⟩:=hrow j y a hj haj
         exact⟨e4 _ _ q2 (e3 _ _ (e2 _ _ q1)),q2⟩
       have hj':j=as.length:=by
        have:=(List.getElem?_eq_some_iff.mp haj).1
        rw[List.length_append,List.length_singleton] at this
        omega
       subst hj'
       have:a=b:=by simpa using haj.symm
       subst this
       exact⟨e4 _ _ hbp (e3 _ _ h2),hbp⟩
     have ht:ns.take (i+1)=ns.take i++[z]:=by rw[List.take_add_one,hz];rfl
     have hlen:(ns.take i).length=as.length:=by rw[List.length_take,hal];omega
     rw[ht,P8 hlen]
     have fz4:=e4.fzL h3p
     exact PrsK.snoc (kv:=(Sum.inr z,V.ref b)) (fz4.seq (SqT.of h3)) (PrsK.fz ((e2.fz.trans e3.fz).trans fz4) hpr)
 obtain⟨e1,as,hal,hrow,hpr⟩:=hP
 rw[List.length_map] at hal
 rw[List.length_map,List.take_length] at hpr
 walk_at "rd"
 refine Xw ha hpr (by unfold Ie;rw[List.length_map,List.length_zip];omega) fun r H2 hr2 e2 h2=>?_
 rw[Gf _ _ (Ip hn) (fun _ _ _ h=>by cases h),List.nil_append] at h2
 have hr0:H r=none:=e1.free hr2
 have hO2:Ovr H2 r ns as (fun _=>[]):=⟨hal,h2,fun j z a hj haj=>e2 _ _ (hrow j z a hj haj).1⟩
 have hK0:OvOk ns ps (fun _=>[]):=⟨fun _ _=>List.nodup_nil,fun _ _ y hy=>by cases hy⟩
 have hE2:Same H H2:=e1.trans e2
 have hfull:∀ ov,OvOk ns ps ov->K7 ns ov<=100:=fun ov h=>Nat.le_trans (h.tot hm) (Nat.le_trans (Nat.mul_le_mul h10 h10) (by decide))
 walk_at "rd"
 refine Sw (fun m σ H3=>∃ b ov as x3 x4 x5,σ=[some v,some (.ref r),some (.bl b),x3,x4,x5]/\Same H H3/\Ovr H3 r ns as ov/\OvOk ns ps ov/\m=2*(100-K7 ns ov)+b.toNat/\(b=false->∀ p∈ps,p.2∈ov p.1/\∀ y∈ov p.2,y∈ov p.1))
  (2*(100-K7 ns fun _=>[])+1) ⟨true,_,as,_,_,_,rfl,hE2,hO2,hK0,rfl,fun h=>by cases h⟩ fun m σ H3 hP=>?_
 obtain⟨b,ov,as3,x3,x4,x5,rfl,e3,hO3,hK3,hm3,hc3⟩:=hP
 have hf3:=hfull ov hK3
 walk_at "rd"
 refine a77 (fun hb=>?_) (fun hb=>?_)
 . subst hb
   refine Xo ?_
   walk_at "rd"
   refine S9 (hI.hf_fz e3.fz) fun pv hP3=>?_
   refine Y5 hP3 (fun i σ H4=>∃ b ov4 as4 x3 x4 x5,σ=[some v,some (.ref r),some (.bl b),x3,x4,x5]/\Same H H4/\Fz H3 H4/\Ovr H4 r ns as4 ov4/\OvOk ns ps ov4/\K7 ns ov<=K7 ns ov4/\(b=true->K7 ns ov<K7 ns ov4)/\(b=false->ov4=ov/\∀ p∈ps.take i,p.2∈ov p.1/\∀ y∈ov p.2,y∈ov p.1))
    ⟨false,ov,as3,_,_,_,rfl,e3,.refl _,hO3,hK3,Nat.le_refl _,(fun h=>by cases h),fun _=>⟨rfl,fun p hp=>by simp at hp⟩⟩ (fun i σ' H' hP=>?_) (fun i p pv4 σ' H4 hp hpI hP=>?_) (fun σ' H4 hP=>?_)
   . obtain⟨_,_,_,_,_,_,_,_,fz,_⟩:=hP
     exact fz
   . obtain⟨b4,ov4,as4,y3,y4,y5,rfl,e4,fz4,hO4,hK4,ht1,ht2,ht3⟩:=hP
     have hpm:=hm p (List.mem_of_getElem? hp)
     obtain⟨i1,a1,hi1,ha1⟩:=hO4.at hpm.1
     obtain⟨i2,a2,hi2,ha2⟩:=hO4.at hpm.2
     have hr1:=hO4.row _ _ _ hi1 ha1
     have hr2':=hO4.row _ _ _ hi2 ha2
     have hl1:=hK4.len hm hpm.1
     have hl2:=hK4.len hm hpm.2
     refine Zi hpI ?_
     walk_at "rd"
     refine Ax (A8 (by simp)) fun q5 H5 hq5 e5 h5=>?_
     walk_at "rd"
     refine i_ixD (e5 _ _ hO4.top) (En hn hi2 ha2) ?_
     refine Fv h5 (e5 _ _ hr2') (A8 (by rw[List.length_map];simp;omega)) fun q6 H6 hq6 e6 h6=>?_
     have h6':H6 q6=some (.lst ((p.2 :: ov4 p.2).map V.str)):=h6
     have hO6:=(hO4.same e5).same e6
     refine Il (SqL.of h6') (fun z=>!decide (z∈ov4 p.1)) PyData.str (fun _=>rfl) (by simp;omega) (fun jj z H7 R R' hz e7 hR hR'=>?_) (fun q7 ys7 H7 hq7 e7 h7 hL7=>?_)
     . have hO7:=hO6.same e7
       walk_at "rd"
       refine i_ixD hO7.top (En hn hi1 ha1) ?_
       refine a66 (SqL.of (hO7.row _ _ _ hi1 ha1)) ?_
       walk_at "rd"
       refine Tz (fun hb=>?_) (fun hb=>?_)
       . walk_at "rd"
         exact hR (by rw[hb];rfl) _ _ (.refl _) Hr
       exact hR' (by rw[hb];rfl) _ (.refl _)
     have hy7:=IsL.str_eq hL7
     subst hy7
     have h7':H7 q7=some (.lst ((R6 ov4 p).map V.str)):=h7
     have hfl:(R6 ov4 p).length<=11:=Nat.le_trans (List.length_filter_le _ _) (by simp;omega)
     have hfok:SeqAt.shaped (.list ((R6 ov4 p).map PyData.str))=true:=Ik fun z hz=>by
      rcases List.mem_cons.mp (List.mem_filter.mp hz).1 with e | e
      . exact e ▸ hok1 _ hpm.2
      obtain⟨p',hp',e'⟩:=List.mem_map.mp (hK4.way _ hpm.2 z e).right
      exact hok1 _ (e' ▸ (hm p' hp').2)
     have hO7:=hO6.same e7
     have e47:Same H4 H7:=(e5.trans e6).trans e7
     walk_at "rd"
     have put:∀ H8,Same H7 H8->∀ b8,(b8=true->b4=true\/R6 ov4 p≠[])->(b8=false->b4=false/\R6 ov4 p=[]) ->
       ∀ H9,ExtBut r H8 H9->∀ q9,H8 q9=some (.lst ((ov4 p.1++R6 ov4 p).map V.str))->H9 r=some (.dK (Db (Ie ns as4) (Sum.inr p.1:Key) (.ref q9))) ->
       ∃ b ov5 as5 x3 x4 x5,([some v,some (.ref r),some (.bl b8),some (.str p.1),some (.str p.2),some (.ref q7)]:L2.St)=[some v,some (.ref r),some (.bl b),x3,x4,x5]/\Same H H9/\Fz H3 H9/\Ovr H9 r ns as5 ov5/\OvOk ns ps ov5/\K7 ns ov<=K7 ns ov5/\(b=true->K7 ns ov<K7 ns ov5)/\(b=false->ov5=ov/\∀ p∈ps.take (i+1),p.2∈ov p.1/\∀ y∈ov p.2,y∈ov p.1):=by
      intro H8 e8 b8 hb1 hb2 H9 e9 q9 h9 ht9
      have hO8:=hO7.same e8
      have htot:=Zf (ov:=ov4) hn hpm.1 (R6 ov4 p)
      refine⟨b8,_,_,_,_,_,rfl,(e4.trans (e47.trans e8)).off hr0 e9,(fz4.trans (e47.trans e8).fz).trans (e9.fzD hO8.top),hO8.put hn hi1 e9 h9 ht9,hK4.put hW.irr (List.mem_of_getElem? hp) hpm,by omega,fun h=>?_,fun h=>?_⟩
      . rcases hb1 h with h | h
        . have:=ht2 h
          omega
        have:0<(R6 ov4 p).length:=List.length_pos_iff.mpr h
        omega
      obtain⟨h1,h2⟩:=hb2 h
      obtain⟨g1,g2⟩:=ht3 h1
      rw[h2,a39]
      refine⟨g1,fun p' hp'=>?_⟩
      rw[List.take_add_one,hp] at hp'
      rcases List.mem_append.mp hp' with hp' | hp'
      . exact g2 p' hp'
      have:p'=p:=by simpa using hp'
      rw[this,<- g1]
      exact Vj h2
     refine a77 (fun hb4=>?_) (fun hb4=>?_)
     . walk_at "rd"
       refine i_ixD hO7.top (En hn hi1 ha1) ?_
       walk_at "rd"
       refine Fv (hO7.row _ _ _ hi1 ha1) h7' (A8 (by rw[List.length_map,List.length_map];omega)) fun q8 H8 hq8 e8 h8=>?_
       rw[<- List.map_append] at h8
       walk_at "rd"
       refine Gg (hO7.same e8).top (by unfold Ie;rw[List.length_map,List.length_zip];omega) fun H9 e9 h9=>?_
       walk_at "rd"
       exact put H8 e8 true (fun _=>.inl hb4) (fun h=>by cases h) H9 e9 q8 h8 h9
     walk_at "rd"
     refine Ax (by decide) fun q8 H8 hq8 e8 h8=>?_
     refine Wb (dx:=.list ((R6 ov4 p).map PyData.str)) (dy:=.list []) (Is.of_lst (SqL.of (e8 _ _ h7')) (Gv _)) (Is.of_lst (SqL.of h8) .nil) hfok (by rfl) ?_
     rw[Hs]
     have hO8:=hO7.same e8
     walk_at "rd"
     refine i_ixD hO8.top (En hn hi1 ha1) ?_
     walk_at "rd"
     refine Fv (hO8.row _ _ _ hi1 ha1) (e8 _ _ h7') (A8 (by rw[List.length_map,List.length_map];omega)) fun q9 H9 hq9 e9 h9=>?_
     rw[<- List.map_append] at h9
     walk_at "rd"
     refine Gg (hO8.same e9).top (by unfold Ie;rw[List.length_map,List.length_zip];omega) fun H10 e10 h10'=>?_
     walk_at "rd"
     refine put H9 (e8.trans e9) _ (fun h=>.inr fun e=>?_) (fun h=>⟨hb4,?_⟩) H10 e10 q9 h9 h10'
     . rw[e] at h
       cases h
     cases hfe:R6 ov4 p with
     | nil=>rfl
     | cons z t=>rw[hfe] at h;cases h
   obtain⟨b4,ov4,as4,y3,y4,y5,rfl,e4,fz4,hO4,hK4,ht1,ht2,ht3⟩:=hP
   have hf4:=hfull ov4 hK4
   have hm1:m=2*(100-K7 ns ov)+1:=hm3
   refine⟨2*(100-K7 ns ov4)+b4.toNat,?_,b4,ov4,as4,_,_,_,rfl,e4,hO4,hK4,rfl,fun h=>?_⟩
   . cases b4 with
     | true=>
       have:=ht2 rfl
       show 2*(100-K7 ns ov4)+1<m
       omega
     | false=>
       show 2*(100-K7 ns ov4)+0<m
       omega
   obtain⟨g1,g2⟩:=ht3 h
   rw[List.take_length] at g2
   rw[g1]
   exact g2
 subst hb
 walk_at "rd"
 exact k r as3 H3 hr0 e3 (hO3.tab hK3 (hc3 rfl))
def Bl (K:PySem.W.Frag):Sp:=fun vs H Q _=>∃ v u r as ns ps row,vs=[v,.ref r,u]/\Is K H (hfD ns ps) v/\TabL K H r ns as (Way ps)/\Is K H (nmD row) u/\ns.Nodup/\ns.length<=10/\(∀ z∈ns,PyData.strOk z=true)/\∀ l H',H l=none->Same H H'->H' l=some (.lst ((frF (Ab ps) (D5 ns row)).map V.str))->Q (.ref l) H'
theorem Hh {f:Addr}{fd:FuncData}(F:Fun K "_law_next_ones" "_law_next_ones" B8 f fd)(T:Ex mg):FnOk P w K mg base CX0 1 f fd ["_law_half_here","_law_over_here","_law_begun"] (Bl K):=by
 refine F.ok sc__law_next_ones (fun vs H Q E h=>?_) (fun cdv A outer s H vs Q E hr h=>?_)
 . obtain⟨v,u,r,as,ns,ps,row,rfl,_⟩:=h
   rfl
 obtain⟨v,u,r,as,ns,ps,row,rfl,hI,hT,hU,hn,h10,hok1,k⟩:=h
 have hu:=C2 hr
 have hq:=C1 hr
 with_reducible refine⟨_,(A1 (A7 (i:=3) sc__law_next_ones.nd (by ac_nf) (by with_unfolding_all exact Or.inr rfl) (Bt ["_law_name"] ["_law_begun"] [2] (by ac_nf) (by ac_nf) (by ac_nf) (An (K:=K) hu (Am (A6 (K:=K) hu) (pv 0) A5 (by ac_rfl))) (fun _ _ _ _=>(Ae (i:=0) (by with_unfolding_all (show(["_law_name","_law_begun"]:List Str).Nodup;decide +kernel)) (by ac_nf) (by eq_refl))) (B7 (by decide)) (fun _ _ _ _=>(Er (Ac (Iy (K:=K) hq) (pv 0) (pv 1) (by ac_nf)))) (fun _ _ _ _=>(pv 0))))
  (A3 (Al (Bt ["_law_name"] ["_law_left","_law_over_here"] [3,1] (by ac_nf) (by ac_nf) (by ac_nf) (An (K:=K) hu (pv 3)) (fun _ _ _ _=>(Ae (i:=0) (by with_unfolding_all (show(["_law_name","_law_left","_law_over_here"]:List Str).Nodup;decide +kernel)) (by ac_nf) (by with_unfolding_all exact Or.inr rfl))) (B7 (by decide)) (fun _ _ _ _=>(Er (Ac (Bd (K:=K) hq) (Bt ["_law_one"] ["_law_name","_law_over_here"] [0,2] (by ac_nf) (by ac_nf) (by ac_nf) (An (K:=K) hu (pv 1)) (fun _ _ _ _=>(Ae (i:=0) (by with_unfolding_all (show(["_law_one","_law_name","_law_over_here"]:List Str).Nodup;decide +kernel)) (by ac_nf) (by eq_refl))) (B7 (by decide)) (fun _ _ _ _=>(Er (Ac (Pf (K:=K) hq) (pv 1) (Am (A6 (K:=K) hu) (pv 2) (pv 0) (by ac_rfl)) (by ac_nf)))) (fun _ _ _ _=>(pv 0))) (B6 A2) (Aj _)))) (fun _ _ _ _=>(pv 0)))))),?_⟩
 walk_at "rd"
 refine E6 hI fun nv hN=>?_
 refine Lg hN (fun z=>!decide (z∈row)) PyData.str (fun _=>rfl) (by omega) (fun jj z H1 R R' hz e1 hR hR'=>?_) (fun lf ys1 H1 hlf e1 h1 hL1=>?_)
 . walk_at "rd"
   refine ah8 (hU.nm_fz e1.fz) ?_
   walk_at "rd"
   refine Tz (fun hb=>?_) (fun hb=>?_)
   . walk_at "rd"
     exact hR (by rw[hb];rfl) _ _ (.refl _) Hr
   exact hR' (by rw[hb];rfl) _ (.refl _)
 have hy1:=IsL.str_eq hL1
 subst hy1
 have h1':H1 lf=some (.lst ((D5 ns row).map V.str)):=h1
 have hlfl:(D5 ns row).length<=ns.length:=List.length_filter_le _ _
 have hlfn:∀ z∈D5 ns row,z∈ns:=fun z hz=>(List.mem_filter.mp hz).1
 walk_at "rd"
 refine Il (SqL.of h1') (fun z=>!((D5 ns row).any fun y=>Ab ps y z)) PyData.str (fun _=>rfl) (by omega) (fun jj z H2 R R' hz e2 hR hR'=>?_) (fun q2 ys2 H2 hq2 e2 h2 hL2=>?_)
 . walk_at "rd"
   refine Il (SqL.of (e2 _ _ h1')) (fun y=>Ab ps y z) PyData.str (fun _=>rfl) (by omega) (fun kk y H3 R2 R2' hy e3 hR2 hR2'=>?_) (fun q3 ys3 H3 hq3 e3 h3 hL3=>?_)
   . have hT3:=hT.same ((e1.trans e2).trans e3)
     obtain⟨iy,ay,hiy,hay⟩:=hT3.at (hlfn y (List.mem_of_getElem? hy))
     obtain⟨ms,hm1,hm2,hm3⟩:=hT3.row iy y ay hiy hay
     walk_at "rd"
     refine Yd hT3 hn hiy hay ?_
     refine Yi (SqL.of hm1) ?_
     rw[Lx (hm3 z)]
     walk_at "rd"
     refine a77 (fun hb=>?_) (fun hb=>?_)
     . walk_at "rd"
       exact hR2 hb _ _ (.refl _) Hr
     exact hR2' hb _ (.refl _)
   have hy3:=IsL.str_eq hL3
   subst hy3
   walk_at "rd"
   refine Ax (by decide) fun t4 H4 ht4 e4 h4=>?_
   refine Rm (dx:=.list (((D5 ns row).filter fun y=>Ab ps y z).map PyData.str)) (dy:=.list []) (Is.of_lst (SqL.of (e4 _ _ h3)) (Gv _)) (Is.of_lst (SqL.of h4) .nil) (Ik fun y hy=>hok1 y (hlfn y (List.mem_filter.mp hy).1)) (by rfl) ?_
   rw[Hs,Ow]
   walk_at "rd"
   have e34:Same H2 H4:=e3.trans e4
   refine Tz (fun hb=>?_) (fun hb=>?_)
   . walk_at "rd"
     exact hR (by rw[hb];rfl) _ _ e34 Hr
   exact hR' (by rw[hb];rfl) _ e34
 have hy2:=IsL.str_eq hL2
 subst hy2
 exact k q2 H2 (e1.free hq2) (e1.trans e2) h2
def D6 (K:PySem.W.Frag):Sp:=fun vs H Q _=>∃ d l v r as ns ps,vs=[.ref d,v,.ref r]/\Feed H d l/\Is K H (hfD ns ps) v/\Half ns ps/\TabL K H r ns as (Way ps)/\r≠d/\∀ u row H',ExtBut d H H'->Feed H' d l->TabL K H' r ns as (Way ps)->Is K H' (nmD row) u->row∈ext (Ab ps) ns.length ns->Q u H'
theorem Ii {K:PySem.W.Frag}{H H':Hp}{d l r:Addr}{ns:List Str}{as:List Addr}{R:Str->Str->Prop}(h:TabL K H r ns as R)(hF:Feed H d l)(hne:r≠d)(e:ExtBut d H H'):TabL K H' r ns as R:=
 ⟨h.len,e _ _ hne h.top,fun i z a hz ha=>let ⟨ks,h1,h2⟩:=h.row i z a hz ha;⟨ks,e _ _ (hF.lst h1) h1,h2⟩⟩
theorem W9 {b:Str->Str->Bool} {L t:List Str} {z:Str} (hn:L.Nodup) (hz:z∈frF b L) (h:t∈ext b (Ak L z).length (Ak L z)):z :: t∈ext b L.length L:=by
 have hll:=Au hn (mem_frF.mp hz).1
 cases hl:L.length with
 | zero=>omega
 | succ n=>
   rw[show(Ak L z).length=n by omega] at h
   exact List.mem_flatMap.mpr ⟨z,hz,List.mem_map.mpr ⟨t,h,rfl⟩⟩
theorem Po {ns:List Str}{ps:List (Str×Str)}(h:HalfW ns ps){L:List Str}(hn:L.Nodup)(hne:L≠[]):0<(frF (Ab ps) L).length:=by
 have hp:=Rv (b:=Ab ps) (Vr h) a41 L.length L rfl hn
 rw[Mr hn hne] at hp
 cases hf:frF (Ab ps) L with
 | nil=>rw[hf] at hp;simp at hp
 | cons _ _=>simp
theorem Zg {b:Str->Str->Bool}{L:List Str}(h:L.length=0):[]∈ext b L.length L:=by
 rw[h]
 exact List.mem_singleton.mpr rfl
theorem I0 {f:Addr}{fd:FuncData}(F:Fun K "_law_an_order" "_law_an_order" Bi f fd)(T:Ex mg)(c__law_draw:Fnd P w K mg base 1 "_law_draw" ["_law_feed_here","_law_many"] (B2 K))(c__law_next_ones:Fnd P w K mg base 1 "_law_next_ones" ["_law_half_here","_law_over_here","_law_begun"] (Bl K)):FnOk P w K mg base CX0 2 f fd ["_law_feed_here","_law_half_here","_law_over_here"] (D6 K):=by
 refine F.ok sc__law_an_order (fun vs H Q E h=>?_) (fun cdv A outer s H vs Q E hr h=>?_)
 . obtain⟨d,l,v,r,as,ns,ps,rfl,_⟩:=h
   rfl
 obtain⟨d,l,v,r,as,ns,ps,rfl,hF,hI,hH,hT,hrd,k⟩:=h
 have hu:=C2 hr
 have hq:=C1 hr
 have hfew:=hH.few
 with_reducible refine⟨_,(A1 (A7 (i:=3) sc__law_an_order.nd (by ac_nf) (by eq_refl) (D8 A2))
  (A1 (Qd PassesOwn.never (Ac Qw (Aa (Av (K:=K)) (by ac_nf) T.b_len PyProof.Rows.Boot.«len» (A0 (pv 3) A2)) (Aa (Av (K:=K)) (by ac_nf) T.b_len PyProof.Rows.Boot.«len» (A0 (Am (A6 (K:=K) hu) (pv 1) A5 (by ac_rfl)) A2)) (Aj _))
  (A1 (A7 (i:=4) sc__law_an_order.nd (by ac_nf) (by eq_refl) (B0 c__law_next_ones (hr.mono (by decide)) (by ac_nf) (A0 (pv 1) (A0 (pv 2) (A0 (pv 3) A2)))))
  (A3 (A7 (i:=3) sc__law_an_order.nd (by ac_nf) (by eq_refl) (Af (Ah (K:=K)) (pv 3) (D8 (A0 (Am (A6 (K:=K) hu) (pv 4) (B0 c__law_draw (hr.mono (by decide)) (by ac_nf) (A0 (pv 0) (A0 (Aa (Av (K:=K)) (by ac_nf) T.b_len PyProof.Rows.Boot.«len» (A0 (pv 4) A2)) A2))) (by ac_rfl)) A2)))))))
  (A3 (Al (pv 3))))),?_⟩
 walk_at "rd"
 refine D9 (by decide) fun t1 H1 ht1 e1 h1=>?_
 walk_at "rd"
 have hW:=hH.w
 refine Sw (fun m σ H2=>∃ u x4 row,σ=[some (.ref d),some v,some (.ref r),some u,x4]/\ExtBut d H H2/\Feed H2 d l/\TabL K H2 r ns as (Way ps)/\Is K H2 (nmD row) u/\(D5 ns row).length=m/\row.length+m=ns.length/\∀ t,t∈ext (Ab ps) (D5 ns row).length (D5 ns row)->row++t∈ext (Ab ps) ns.length ns) ns.length
  ⟨.ref t1,_,[],rfl,by walk_at "fr",hF.same e1,hT.same e1,Gu (SqT.of h1),by rw[Nb],by simp,fun t ht=>by rw[Nb] at ht;exact ht⟩ (fun m σ H2 hP=>?_)
 obtain⟨u,x4,row,rfl,fr2,hF2,hT2,hI2,hlm,hrm,hall⟩:=hP
 have hfz2:=hF.fz fr2
 have hLn:(D5 ns row).Nodup:=hW.nd.filter _
 walk_at "rd"
 refine O0 hI2 ?_
 walk_at "rd"
 refine E6 (hI.hf_fz hfz2) fun nv hN=>?_
 walk_at "rd"
 refine O0 hN ?_
 walk_at "rd"
 refine Fr (fun hc=>?_) (fun hc=>?_)
 . have hne:D5 ns row≠[]:=fun e=>by rw[e] at hlm;simp at hlm;omega
   have hpos:=Po hW hLn hne
   refine Xo ?_
   walk_at "rd"
   refine⟨v,u,r,as,ns,ps,row,rfl,hI.hf_fz hfz2,hT2,hI2,hW.nd,hfew,hH.ok4,fun l3 H3 hl3 e3 h3=>?_⟩
   have hF3:=hF2.same e3
   have hfl:(frF (Ab ps) (D5 ns row)).length<=(D5 ns row).length:=List.length_filter_le _ _
   walk_at "rd"
   refine⟨d,l,_,rfl,hF3,by rw[List.length_map];omega,by rw[List.length_map];omega,fun y H4 hy0 hy1 e4 hF4=>?_⟩
   rw[List.length_map] at hy1
   have h4:H4 l3=some (.lst ((frF (Ab ps) (D5 ns row)).map V.str)):=e4 _ _ (hF3.lst h3) h3
   obtain⟨z,hz1,hz2,_⟩:=str_at? (ls:=frF (Ab ps) (D5 ns row)) hy0 (by omega)
   have hzf:=List.mem_of_getElem? hz1
   have hzl:=Au hLn (mem_frF.mp hzf).1
   walk_at "rd"
   refine Y7 (SqL.of h4) hz2 ?_
   walk_at "rd"
   refine D9 (A8 (by simp)) fun t5 H5 ht5 e5 h5=>?_
   have fz25:Fz H2 H5:=(e3.fz.trans (hF3.fz e4)).trans e5.fz
   obtain⟨ua,rfl,hSu⟩:=(hI2.nm_fz fz25).nm
   refine Ni hSu (SqT.of h5) (A8 (by rw[List.length_map];simp;omega)) fun p6 H6 e6 h6=>?_
   walk_at "rd"
   refine⟨m-1,by omega,.ref p6,_,row++[z],rfl,by walk_at "fr",(hF4.same e5).same e6,?_,Gu (by rw[List.map_append];exact h6),by rw[Kk];omega,by rw[List.length_append,List.length_singleton];omega,fun t ht=>?_⟩
   . have hT3:=hT2.same e3
     exact(Ii hT3 hF3 hrd e4).same (e5.trans e6)
   rw[Kk] at ht
   rw[List.append_assoc]
   exact hall _ (W9 hLn hzf ht)
 walk_at "rd"
 have hm0:(D5 ns row).length=0:=by omega
 have:=hall [] (Zg hm0)
 rw[List.append_nil] at this
 exact k u row H2 fr2 hF2 hT2 hI2 this
inductive Tg where
 | row (xs:List V)
 | odd
def al0 (K:PySem.W.Frag)(H:Hp)(v:V):Prop:=∃ t,Jw K H v t/\PySem.W.kitOne K t (.type "tuple")=some false
def ItT (K:PySem.W.Frag)(H:Hp)(x:V):Prop:=ItM K H x/\((∃ z,x = .str z/\PyData.strOk z=true)\/(∃ t,Jw K H x t/\PySem.W.kitOne K t (.type "str")=some false)\/∃ a ys,x = .ref a/\SqT K H a ys)
def ThM (K:PySem.W.Frag)(H:Hp)(v:V):Tg->Prop
 | .row xs=>∃ a,v = .ref a/\SqT K H a xs/\xs.length<=30/\∀ x∈xs,ItT K H x
 | .odd=>al0 K H v
theorem Nk {K:PySem.W.Frag}{H H':Hp}{v:V}{t:Value}(h:Jw K H v t)(e:Same H H'):Jw K H' v t:=by
 cases h with
 | non=>exact .non
 | bl x=>exact .bl x
 | int i=>exact .int i
 | str x=>exact .str x
 | flt x=>exact .flt x
 | lst e1=>exact .lst (e _ _ e1)
 | frz e1=>exact .frz (e _ _ e1)
 | tup e1=>exact .tup (e _ _ e1)
 | dK e1=>exact .dK (e _ _ e1)
 | dT e1=>exact .dT (e _ _ e1)
 | ins e1 cl ha hn htk hm=>exact .ins (e _ _ e1) cl ha hn htk hm
theorem ItT.same {K:PySem.W.Frag}{H H':Hp}{x:V}(h:ItT K H x)(e:Same H H'):ItT K H' x:=⟨h.1.same e,by
 rcases h.2 with h | ⟨t,h1,h2⟩ | ⟨a,ys,h1,h2⟩
 . exact .inl h
 . exact .inr (.inl ⟨t,Nk h1 e,h2⟩)
 exact .inr (.inr ⟨a,ys,h1,e.seqT h2⟩)⟩
theorem ThM.same {K:PySem.W.Frag}{H H':Hp}{v:V}{g:Tg}(h:ThM K H v g)(e:Same H H'):ThM K H' v g:=by
 cases g with
 | row xs=>obtain⟨a,e1,e2,e3,e4⟩:=h;exact⟨a,e1,e.seqT e2,e3,fun x hx=>(e4 x hx).same e⟩
 | odd=>obtain⟨t,h1,h2⟩:=h;exact⟨t,Nk h1 e,h2⟩
def isT:V->Bool
 | .str _=>true
 | _=>false
theorem Wp {K:PySem.W.Frag}{H:Hp}{v:V}{Q:VK}(g:ItT K H v)(k:Q (.bl (isT v)) H):Jp K [v,.ty "str"] H Q:=by
 rcases g.2 with ⟨z,rfl,hz⟩ | ⟨t,h1,h2⟩ | ⟨a,ys,rfl,hS⟩
 . exact Vd (.str z) (b:=true) (by rfl) k
 . have e:isT v=false:=by
    cases h1 with
    | str x=>
      rw[show PySem.W.kitOne K (.type "str") (.type "str")=some true by rfl] at h2
      cases h2
    | _=>rfl
   rw[e] at k
   exact Vd h1 h2 k
 exact Tp hS (b:=false) (by rfl) k
theorem Hf {xs:List V}(h:∀ x∈xs,isT x=true):∃ row:List Str,xs=row.map V.str:=by
 induction xs with
 | nil=>exact⟨[],rfl⟩
 | cons x r ih=>
   obtain⟨row,rfl⟩:=ih fun y hy=>h y (List.mem_cons_of_mem _ hy)
   have:=h x (by simp)
   cases x with
   | str z=>exact⟨z :: row,rfl⟩
   | _=>cases this
def Oz (ns:List Str)(ps:List (Str×Str)):Tg->Prop
 | .row xs=>∃ r:List Str,xs=r.map V.str/\r∈ext (Ab ps) ns.length ns
 | .odd=>False
theorem a09 {K:PySem.W.Frag}{H:Hp}{Q:VK}{a:Addr}{xs:List V}(h:SqT K H a xs)(k:Q (.int xs.length) H):Qn K [.ref a] H Q:=.inl ⟨.ref a,_,rfl,.inr ⟨xs,h,rfl⟩,k⟩
theorem Pa {α:Type}[DecidableEq α]:∀ {as bs:List α},as.Nodup->(∀ z∈as,z∈bs)->bs.length<=as.length->as.Perm bs
 | [],bs,_,_,hl=>by rw[List.length_eq_zero_iff.mp (Nat.le_zero.mp hl)]
 | a :: as,bs,hn,hs,hl=>by
   have ha:a∈bs:=hs a (by simp)
   obtain⟨h1,h2⟩:=List.nodup_cons.mp hn
   have ih:=Pa (as:=as) (bs:=bs.erase a) h2 (fun z hz=>(List.mem_erase_of_ne (fun e:z=a=>h1 (by rw[<- e];exact hz))).mpr (hs z (by simp[hz]))) (by rw[List.length_erase_of_mem ha];simp at hl;omega)
   exact(List.Perm.cons a ih).trans (List.perm_cons_erase ha).symm
theorem Dt:∀ {as bs:List Str},as.map V.str=bs.map V.str->as=bs
 | [],[],_=>rfl
 | [],_ :: _,h=>by cases h
 | _ :: _,[],h=>by cases h
 | a :: as,b :: bs,h=>by
   rw[List.map_cons,List.map_cons] at h
   injection h with h1 h2
   rw[V.str.inj h1,Dt h2]
def Em (K:PySem.W.Frag):Sp:=fun vs H Q _=>∃ v u ns ps g,vs=[v,u]/\Is K H (hfD ns ps) v/\Half ns ps/\ThM K H u g/\∀ b H',Same H H'->(b=true↔Oz ns ps g)->Q (.bl b) H'
theorem Od {f:Addr}{fd:FuncData}(F:Fun K "is_order" "is_order" De f fd)(T:Ex mg):FnOk P w K mg base CX0 1 f fd ["half","thing"] (Em K):=by
 refine F.ok Oo (fun vs H Q E h=>?_) (fun cdv A outer s H vs Q E hr h=>?_)
 . obtain⟨v,u,ns,ps,g,rfl,_⟩:=h
   rfl
 obtain⟨v,u,ns,ps,g,rfl,hI,hH,hT,k⟩:=h
 have hu:=C2 hr
 have hq:=C1 hr
 have hW:=hH.w
 have hle:=hH.le
 have hfew:=hH.few
 with_reducible refine⟨_,(A1 (Be (PW.pt (Rb (Gi (Ev (Aa (Ey (K:=K)) (by ac_nf) T.b_isinstance PyProof.Rows.Boot.«isinstance» (A0 (pv 1) (A0 (L4 (v:=.ty "tuple") (by ac_nf) T.b_tuple PyProof.Rows.Boot.«tuple» (by ac_nf)) A2))))) (Kp (Ac (Gk (K:=K) hq) (Aa (Av (K:=K)) (by ac_nf) T.b_len PyProof.Rows.Boot.«len» (A0 (pv 1) A2)) (Aa (Av (K:=K)) (by ac_nf) T.b_len PyProof.Rows.Boot.«len» (A0 (Am (A6 (K:=K) hu) (pv 0) A5 (by ac_rfl)) A2)) (Aj _))))) (A3 (Al Ch)) Ai)
  (A1 (Be (Gi (Ev (Aa (Mw (K:=K) (by ac_nf)) (by ac_nf) T.b_all PyProof.Rows.Boot.«all» (A0 (Bt ["name"] ["thing"] [1] (by ac_nf) (by ac_nf) (by ac_nf) (An (K:=K) hu (Am (A6 (K:=K) hu) (pv 0) A5 (by ac_rfl))) (fun _ _ _ _=>(Ae (i:=0) (by with_unfolding_all (show(["name","thing"]:List Str).Nodup;decide +kernel)) (by ac_nf) (by eq_refl))) (B7 (by decide)) (fun _ _ _ _=>Cp) (fun _ _ _ _=>(E3 (ac9 (K:=K) hq) (pv 0) (pv 1) (by ac_nf)))) A2)))) (A3 (Al Ch)) Ai)
  (A3 (Al (Aa (Mw (K:=K) (by ac_nf)) (by ac_nf) T.b_all PyProof.Rows.Boot.«all» (A0 (Bt ["saying"] ["thing"] [1] (by ac_nf) (by ac_nf) (by ac_nf) (An (K:=K) hu (Am (A6 (K:=K) hu) (pv 0) A5 (by ac_rfl))) (fun _ _ _ _=>(Ae (i:=0) (by with_unfolding_all (show(["saying","thing"]:List Str).Nodup;decide +kernel)) (by ac_nf) (by eq_refl))) (B7 (by decide)) (fun _ _ _ _=>Cp) (fun _ _ _ _=>(E3 Qw (Yh (K:=K) PySem.F.slot_tuple_index PySem.F.type_tuple_index (Kg (K:=K)) (pv 1) (A0 (Am (A6 (K:=K) hu) (pv 0) A5 (by ac_rfl)) A2)) (Yh (K:=K) PySem.F.slot_tuple_index PySem.F.type_tuple_index (Kg (K:=K)) (pv 1) (A0 (Am (A6 (K:=K) hu) (pv 0) A5 (by ac_rfl)) A2)) (Aj _)))) A2)))))),?_⟩
 walk_at "rd"
 cases g with
 | odd=>
   obtain⟨t,h1,h2⟩:=hT
   refine Vd h1 h2 ?_
   walk_at "rd"
   exact k false H (.refl _) ⟨fun h=>Bool.noConfusion h,fun h=>h.elim⟩
 | row xs=>
   obtain⟨a,rfl,hS,h30,hG⟩:=hT
   have hlen:∀ r:List Str,r∈ext (Ab ps) ns.length ns->r.Perm ns:=fun r hr=>((Dp _ _ _ _ hW.nd rfl).mp hr).1
   refine Tp hS (b:=true) (by first | rfl | kernel_rfl) ?_
   walk_at "rd"
   refine a09 hS ?_
   walk_at "rd"
   refine E6 hI fun nv hN=>?_
   walk_at "rd"
   refine O0 hN ?_
   walk_at "rd"
   refine af2 (fun hc=>?_) (fun hc=>?_)
   . walk_at "rd"
     refine k false H (.refl _) ⟨fun h=>(by cases h),?_⟩
     rintro⟨r,rfl,hr⟩
     exact absurd (by rw[List.length_map,(hlen r hr).length_eq]) hc
   have hxl:xs.length=ns.length:=by have:=V.int.inj hc;omega
   walk_at "rd"
   refine E6 hI fun nv1 hN1=>?_
   obtain⟨n1,rfl,hS1⟩:=hN1.nm
   refine O5 hS1 ?_
   refine Pm (K:=K) (Et (xs:=ns.map V.str)) ns (by simp) (fun z=>decide (V.str z∈xs)) (by rw[List.length_map];omega) (fun H' e=>e.seqT hS1) (fun m z xv H1 R hz' hxv e1 hR1=>?_) (fun q H1 hq1 e1 h1=>?_)
   . rw[List.getElem?_map,hz'] at hxv
     cases hxv
     walk_at "rd"
     refine am4 (e1.seqT hS) (fun e he=>((hG e he).same e1).1) ?_
     exact hR1 H1 (.refl _)
   walk_at "rd"
   refine a87 h1 ?_
   cases hb:(ns.map fun z=>decide (V.str z∈xs)).all id with
   | false=>
     walk_at "rd"
     refine k false H1 e1 ⟨fun h=>(by cases h),?_⟩
     rintro⟨r,rfl,hr⟩
     have:(ns.map fun z=>decide (V.str z∈r.map V.str)).all id=true:=by
      rw[List.all_map,List.all_eq_true]
      intro z hz
      exact decide_eq_true (List.mem_map.mpr ⟨z,(hlen r hr).mem_iff.mpr hz,rfl⟩)
     rw[this] at hb
     cases hb
   | true=>
     have hsub:∀ x∈ns.map V.str,x∈xs:=fun x hx=>by
      obtain⟨z,hz,rfl⟩:=List.mem_map.mp hx
      rw[List.all_map,List.all_eq_true] at hb
      exact of_decide_eq_true (hb z hz)
     have hpm:xs.Perm (ns.map V.str):=(Pa (Cz hW.nd fun x _ y _ e=>V.str.inj e) hsub (by rw[List.length_map];omega)).symm
     obtain⟨r,rfl,hp⟩:=Hc hpm
     walk_at "rd"
     refine S9 (hI.hf_fz e1.fz) fun sv hP=>?_
     obtain⟨sa,sx,rfl,hSs,hLs⟩:=Is.tup hP
     have hsl:ps.length=sx.length:=by rw[<- IsL.length hLs,List.length_map]
     refine O5 hSs ?_
     refine Pm (K:=K) (Et (xs:=sx)) ps hsl (fun p=>decide (r.idxOf p.1<r.idxOf p.2)) (by omega) (fun H' e=>e.seqT hSs) (fun m p xv H2 R hp' hxv e2 hR2=>?_) (fun q2 H2 hq2 e2 h2=>?_)
     . obtain⟨dr,hdr,hIw⟩:=IsL.get (IsL.mono e2 _ _ hLs) hxv
       rw[List.getElem?_map,hp'] at hdr
       cases hdr
       have hpm:=hW.mem p (List.mem_of_getElem? hp')
       obtain⟨f1,f2,f3⟩:=Hu (hp.mem_iff.mpr hpm.1)
       obtain⟨g1,g2,g3⟩:=Hu (hp.mem_iff.mpr hpm.2)
       have hSw2:=(e1.trans e2).seqT hS
       walk_at "rd"
       refine ab8 hSw2 ?_
       walk_at "rd"
       refine Xk hIw ?_
       walk_at "rd"
       refine Pb hSw2 f1 f2 ?_
       walk_at "rd"
       refine ab8 hSw2 ?_
       walk_at "rd"
       refine Y0 hIw ?_
       walk_at "rd"
       refine Pb hSw2 g1 g2 ?_
       walk_at "rd"
       have e:decide ((r.idxOf p.1:Int)<(r.idxOf p.2:Int))=decide (r.idxOf p.1<r.idxOf p.2):=decide_eq_decide.mpr (by omega)
       rw[e]
       exact hR2 H2 (.refl _)
     walk_at "rd"
     refine a87 h2 ?_
     refine k _ H2 (e1.trans e2) ?_
     rw[List.all_map,List.all_eq_true]
     have ho:=ac4 hW.nd hW.mem hp
     constructor
     . intro h
       exact⟨r,rfl,(Dp _ _ _ _ hW.nd rfl).mpr ⟨hp,ho.mpr fun p hpp=>of_decide_eq_true (h p hpp)⟩⟩
     rintro⟨r',e',hr'⟩ p hpp
     have:=Dt e'
     subst this
     exact decide_eq_true (ho.mp ((Dp _ _ _ _ hW.nd rfl).mp hr').2 p hpp)
def vio (ps:List (Str×Str))(row:List Str)(k:Nat):Bool:=(row.take k).any fun y=>Ab ps (row.getD k "") y
theorem a84 {ns:List Str}{ps:List (Str×Str)}{row:List Str}(hn:ns.Nodup)(hirr:∀ x,¬ Way ps x x)(hp:row.Perm ns):((List.range row.length).filter (vio ps row)).isEmpty=true↔row∈ext (Ab ps) ns.length ns:=by
 rw[List.isEmpty_iff,List.filter_eq_nil_iff,Dp _ _ _ _ hn rfl]
 have hrn:row.Nodup:=hp.nodup_iff.mpr hn
 constructor
 . intro h
   refine⟨hp,fun u _=>Bool.eq_false_iff.mpr fun g=>hirr u (wayB_iff.mp g),List.pairwise_iff_getElem.mpr fun i j hi hj hij=>?_⟩
   have:=h j (List.mem_range.mpr hj)
   unfold vio at this
   rw[List.any_eq_true] at this
   cases hb:Ab ps row[j] row[i] with
   | false=>rfl
   | true=>exact absurd ⟨row[i],List.mem_take_iff_getElem.mpr ⟨i,by omega,rfl⟩,by rw[List.getD_eq_getElem?_getD,List.getElem?_eq_getElem hj,Option.getD_some];exact hb⟩ this
 rintro⟨_,_,h⟩ k hk hv
 unfold vio at hv
 rw[List.any_eq_true] at hv
 obtain⟨y,hy,hw⟩:=hv
 have hk:=List.mem_range.mp hk
 obtain⟨i,hi,rfl⟩:=List.mem_take_iff_getElem.mp hy
 rw[List.getD_eq_getElem?_getD,List.getElem?_eq_getElem hk,Option.getD_some] at hw
 have:=List.pairwise_iff_getElem.mp h i k (by omega) hk (by omega)
 rw[hw] at this
 cases this
def D4 (K:PySem.W.Frag):Sp:=fun vs H Q _=>∃ v u r as ns ps g,vs=[v,.ref r,u]/\Is K H (hfD ns ps) v/\Half ns ps/\TabL K H r ns as (Way ps)/\ThM K H u g/\∀ b H',Same H H'->(b=true↔Oz ns ps g)->Q (.bl b) H'
theorem Hx {f:Addr}{fd:FuncData}(F:Fun K "_law_is_order" "_law_is_order" Bj f fd)(T:Ex mg):FnOk P w K mg base CX0 1 f fd ["_law_half_here","_law_over_here","_law_thing"] (D4 K):=by
 refine F.ok Ic (fun vs H Q E h=>?_) (fun cdv A outer s H vs Q E hr h=>?_)
 . obtain⟨v,u,r,as,ns,ps,g,rfl,_⟩:=h
   rfl
 obtain⟨v,u,r,as,ns,ps,g,rfl,hI,hH,hT,hTh,k⟩:=h
 have hu:=C2 hr
 have hq:=C1 hr
 have hW:=hH.w
 have hfew:=hH.few
 with_reducible refine⟨_,(A1 (Be (PW.pt (Rb (Gi (Ev (Aa (Ey (K:=K)) (by ac_nf) T.b_isinstance PyProof.Rows.Boot.«isinstance» (A0 (pv 2) (A0 (L4 (v:=.ty "tuple") (by ac_nf) T.b_tuple PyProof.Rows.Boot.«tuple» (by ac_nf)) A2))))) (Kp (Ac (T6 (K:=K) hq) (Bt ["_law_one"] [] [] (by ac_nf) (by ac_nf) (by ac_nf) (An (K:=K) hu (pv 2)) (fun _ _ _ _=>(Ae (i:=0) (by with_unfolding_all (show(["_law_one"]:List Str).Nodup;decide +kernel)) (by ac_nf) (by eq_refl))) (B7 (by decide)) (fun _ _ _ _=>(Er (Gi (Ev (Aa (Ey (K:=K)) (by ac_nf) T.b_isinstance PyProof.Rows.Boot.«isinstance» (A0 (pv 0) (A0 (L4 (v:=.ty "str") (by ac_nf) T.b_str PyProof.Rows.Boot.«str» (by ac_nf)) A2))))))) (fun _ _ _ _=>(pv 0))) (B6 A2) (Aj _))))) (A3 (Al Ch)) Ai)
  (A1 (Be (Ac (Gk (K:=K) hq) (Aa (Cw (K:=K)) (by ac_nf) T.b_sorted PyProof.Rows.Boot.«sorted» (A0 (pv 2) A2)) (Aa (Cw (K:=K)) (by ac_nf) T.b_sorted PyProof.Rows.Boot.«sorted» (A0 (Am (A6 (K:=K) hu) (pv 0) A5 (by ac_rfl)) A2)) (Aj _)) (A3 (Al Ch)) Ai)
  (A3 (Al (E3 (Zp (K:=K) hq) (Bt ["_law_k"] ["_law_thing","_law_over_here"] [2,1] (by ac_nf) (by ac_nf) (by ac_nf) (Cc (by ac_nf) T.b_range (A0 (Aa (Av (K:=K)) (by ac_nf) T.b_len PyProof.Rows.Boot.«len» (A0 (pv 2) A2)) A2)) (fun _ _ _ _=>(Ae (i:=0) (by with_unfolding_all (show(["_law_k","_law_thing","_law_over_here"]:List Str).Nodup;decide +kernel)) (by ac_nf) (by with_unfolding_all exact Or.inr rfl))) (B7 (by decide)) (fun _ _ _ _=>(Er (Ac (T6 (K:=K) hq) (Bt ["_law_one"] ["_law_over_here","_law_thing","_law_k"] [2,1,0] (by ac_nf) (by ac_nf) (by ac_nf) (An (K:=K) hu (B1 (Ln (K:=K)) (pv 1) Cg (Ay (pv 0)))) (fun _ _ _ _=>(Ae (i:=0) (by with_unfolding_all (show(["_law_one","_law_over_here","_law_thing","_law_k"]:List Str).Nodup;decide +kernel)) (by ac_nf) (by eq_refl))) (B7 (by decide)) (fun _ _ _ _=>(Er (Ac (Pf (K:=K) hq) (pv 0) (Am (A6 (K:=K) hu) (pv 1) (Am (A6 (K:=K) hu) (pv 2) (pv 3) (by ac_rfl)) (by ac_rfl)) (by ac_nf)))) (fun _ _ _ _=>(pv 0))) (B6 A2) (Aj _)))) (fun _ _ _ _=>(pv 0))) (B6 A2) (Aj _)))))),?_⟩
 walk_at "rd"
 cases g with
 | odd=>
   obtain⟨t,h1,h2⟩:=hTh
   refine Vd h1 h2 ?_
   walk_at "rd"
   exact k false H (.refl _) ⟨fun h=>Bool.noConfusion h,fun h=>h.elim⟩
 | row xs=>
   obtain⟨a,rfl,hS,h30,hG⟩:=hTh
   refine Tp hS (b:=true) (by first | rfl | kernel_rfl) ?_
   walk_at "rd"
   refine O5 hS ?_
   refine N7 (Et (xs:=xs)) (fun x=>!isT x) id (by omega) (fun H' e=>e.seqT hS) (fun i x H1 R R' hx e1 hR hR'=>?_) (fun p1 H1 hp1 e1 h1=>?_)
   . walk_at "rd"
     refine Wp ((hG x (List.mem_of_getElem? hx)).same e1) ?_
     walk_at "rd"
     cases hb:isT x with
     | true=>
       walk_at "rd"
       exact hR' (by rw[hb];rfl)
     | false=>
       walk_at "rd"
       exact hR (by rw[hb];rfl)
   rw[List.map_id] at h1
   walk_at "rd"
   refine Ax (A8 (by simp)) fun q2 H2 hq2 e2 h2=>?_
   refine X2 (SqL.of (e2 _ _ h1)) (SqL.of h2) ?_
   have e02:=e1.trans e2
   cases hc1:xs.filter fun x=>!isT x with
   | cons z rr=>
     have hz:z∈xs.filter fun x=>!isT x:=by rw[hc1];simp
     obtain⟨hz1,hz2⟩:=List.mem_filter.mp hz
     rw[List.isEmpty_cons]
     walk_at "rd"
     refine k false H2 e02 ⟨fun h=>Bool.noConfusion h,?_⟩
     rintro⟨row,rfl,_⟩
     obtain⟨y,_,rfl⟩:=List.mem_map.mp hz1
     cases hz2
   | nil=>
     obtain⟨row,rfl⟩:∃ row:List Str,xs=row.map V.str:=Hf fun x hx=>by
      cases hb:isT x with
      | true=>rfl
      | false=>
        have:x∈xs.filter fun x=>!isT x:=List.mem_filter.mpr ⟨hx,by rw[hb];rfl⟩
        rw[hc1] at this
        cases this
     have hl:row.length<=30:=by simpa using h30
     have hok:∀ z∈row,PyData.strOk z=true:=fun z hz=>by
      rcases(hG _ (List.mem_map.mpr ⟨z,hz,rfl⟩)).2 with ⟨y,e,hy⟩ | ⟨t,h1,h2⟩ | ⟨a,ys,e,_⟩
      . cases e;exact hy
      . cases h1
        rw[show PySem.W.kitOne K (.type "str") (.type "str")=some true by rfl] at h2
        cases h2
      cases e
     rw[List.isEmpty_nil]
     walk_at "rd"
     refine Gm (.inr (e02.seqT hS)) (by omega) fun p3 m3 H3 hp3 e3 h3 hm3 hs3=>?_
     walk_at "rd"
     refine E6 (hI.hf_fz (e02.trans e3).fz) fun nv hN=>?_
     obtain⟨na,rfl,hSn⟩:=hN.nm
     walk_at "rd"
     refine Gm (.inr hSn) (by omega) fun p4 m4 H4 hp4 e4 h4 hm4 hs4=>?_
     have e04:=(e02.trans e3).trans e4
     have hsh3:SeqAt.shaped (.list (m3.map PyData.str))=true:=Ik fun z hz=>hok z (hm3.mem_iff.mp hz)
     have hsh4:SeqAt.shaped (.list (m4.map PyData.str))=true:=Ik fun z hz=>hH.ok4 z (hm4.mem_iff.mp hz)
     refine Wb (Is.of_lst (SqL.of (e4 _ _ h3)) (Gv m3)) (Is.of_lst (SqL.of h4) (Gv m4)) hsh3 hsh4 ?_
     rw[Wc]
     walk_at "rd"
     refine af2 (fun hc=>?_) (fun hc=>?_)
     . walk_at "rd"
       refine k false H4 e04 ⟨fun h=>Bool.noConfusion h,?_⟩
       rintro⟨row',e',hr'⟩
       have:=Dt e'
       subst this
       have hp:=((Dp _ _ _ _ hW.nd rfl).mp hr').1
       exact absurd (Hb ((hm3.trans hp).trans hm4.symm) hs3 hs4) hc
     subst hc
     have hp:row.Perm ns:=hm3.symm.trans hm4
     have hS4:=e04.seqT hS
     walk_at "rd"
     refine O0 (Gu hS4) ?_
     walk_at "rd"
     refine G7 (by omega) ?_
     refine Im (K:=K) (Bq (lo:=0) (n:=((row.length:Nat):Int).toNat)) (List.range row.length) (by simp) (vio ps row) (fun k=>.int (k:Int)) (fun _=>rfl) (by simp;omega) (fun _ _=>trivial) (fun i i' x H5 R R' hi' hx e5 hR hR'=>?_) (fun q ys H5 hq5 e5 h5 hL5=>?_)
     . obtain⟨hii,rfl⟩:i<row.length/\i'=i:=by
        have h1:=(List.getElem?_eq_some_iff.mp hi')
        obtain⟨h2,h3⟩:=h1
        simp at h2 h3
        exact⟨h2,h3.symm⟩
       obtain⟨rfl,hi2⟩:=Ek hx
       have hS5:=e5.seqT hS4
       obtain⟨z,hz1,hz2,_⟩:=str_at? (ls:=row) (i:=0+(i':Int)) (by omega) (by omega)
       have hzi:row[i']? = some z:=by
        rw[show(0+(i':Int)).toNat=i' by omega] at hz1
        exact hz1
       have hzn:z∈ns:=hp.mem_iff.mp (List.mem_of_getElem? hzi)
       have hgd:row.getD i' "" = z:=by rw[List.getD_eq_getElem?_getD,hzi];rfl
       walk_at "rd"
       refine a51 hS5 fun t6 H6 e6 h6=>?_
       rw[Cd (by omega),<- List.map_take,show(0+(i':Int)).toNat=i' by omega] at h6
       refine Lg (Gu h6) (fun y=>Ab ps z y) PyData.str (fun _=>by simp only[frz]) (by rw[List.length_take];omega) (fun j y H7 R1 R1' hy e7 hR1 hR1'=>?_) (fun q7 y7 H7 hq7 e7 h7 hL7=>?_)
       . have hT7:=hT.same (((e04.trans e5).trans e6).trans e7)
         obtain⟨i0,a0,hi0,ha0⟩:=hT7.at hzn
         obtain⟨ks,k1,k2,k3⟩:=hT7.row i0 z a0 hi0 ha0
         walk_at "rd"
         refine R5 ((e6.trans e7).seqT hS5) hz2 ?_
         refine Yd hT7 hW.nd hi0 ha0 ?_
         walk_at "rd"
         refine Yi (SqL.of k1) ?_
         rw[Lx (k3 y)]
         walk_at "rd"
         refine ar6 (fun hb=>?_) (fun hb=>?_)
         . walk_at "rd"
           exact hR1 hb _ _ (.refl _) Hr
         walk_at "rd"
         exact hR1' (Bool.eq_false_iff.mpr hb) _ (.refl _)
       obtain rfl:=IsL.str_eq hL7
       walk_at "rd"
       refine Ax (A8 (by simp)) fun q8 H8 hq8 e8 h8=>?_
       refine X2 (SqL.of (e8 _ _ h7)) (SqL.of h8) ?_
       have ev:(!(((row.take i').filter fun y=>Ab ps z y).map V.str).isEmpty)=vio ps row i':=by
        unfold vio
        rw[hgd,List.isEmpty_map,Bool.eq_iff_iff,Bool.not_eq_true',List.isEmpty_eq_false_iff,List.any_eq_true]
        constructor
        . intro h
          obtain⟨y,hy⟩:=List.exists_mem_of_ne_nil _ h
          exact⟨y,List.mem_filter.mp hy⟩
        rintro⟨y,hy⟩
        exact List.ne_nil_of_mem (List.mem_filter.mpr hy)
       rw[ev]
       have e58:=(e6.trans e7).trans e8
       walk_at "rd"
       refine ar6 (fun hb=>?_) (fun hb=>?_)
       . walk_at "rd"
         exact hR hb _ _ e58 (by rw[Int.zero_add];exact N0)
       walk_at "rd"
       exact hR' (Bool.eq_false_iff.mpr hb) _ e58
     have hys:ys=((List.range row.length).filter (vio ps row)).map fun(k:Nat)=>V.int (k:Int):=by
      have h:=IsL.int_eq (ns:=((List.range row.length).filter (vio ps row)).map fun(k:Nat)=>(k:Int)) (by rw[List.map_map];exact hL5)
      rw[h,List.map_map]
      rfl
     walk_at "rd"
     refine Ax (A8 (by simp)) fun q8 H8 hq8 e8 h8=>?_
     refine ad1 (SqL.of (e8 _ _ h5)) (SqL.of h8) ?_
     refine k _ H8 ((e04.trans e5).trans e8) ?_
     rw[hys,List.isEmpty_map,a84 hW.nd (fun _=>hH.irrefl) hp]
     exact⟨fun h=>⟨row,rfl,h⟩,fun⟨row',e',hr'⟩=>by rw[Dt e'];exact hr'⟩
def a74:List Str:=["a","zzzzzzzzz","","A"]
def OddM (H:Hp)(F:Addr->Prop)(o:V):Prop:=o = .non\/o = .int 1\/o = .bl true\/(∃ z∈a74,o = .str z)\/(∃ t,o = .ref t/\H t=some (.tup [.str "a"]))\/(∃ t,o = .ref t/\F t/\H t=some (.lst [.str "a"]))\/∃ t,o = .ref t/\F t/\H t=some (.dK [])
theorem OddM.off {H H':Hp}{F:Addr->Prop}{p:Addr}{o:V}(h:OddM H F o)(hp:∀ t,o = .ref t->t≠p)(e:ExtBut p H H'):OddM H' F o:=by
 rcases h with h | h | h | h | ⟨t,h1,h2⟩ | ⟨t,h1,h2,h3⟩ | ⟨t,h1,h2,h3⟩
 . exact .inl h
 . exact .inr (.inl h)
 . exact .inr (.inr (.inl h))
 . exact .inr (.inr (.inr (.inl h)))
 . exact .inr (.inr (.inr (.inr (.inl ⟨t,h1,e _ _ (hp t h1) h2⟩))))
 . exact .inr (.inr (.inr (.inr (.inr (.inl ⟨t,h1,h2,e _ _ (hp t h1) h3⟩)))))
 exact .inr (.inr (.inr (.inr (.inr (.inr ⟨t,h1,h2,e _ _ (hp t h1) h3⟩)))))
theorem OddM.put {H H':Hp}{F:Addr->Prop}{p:Addr}{o:V}(h:OddM H F o)(e:ExtBut p H H')(hf:∀ t,F t->t≠p)(ht:∀ t xs,H t=some (.tup xs)->t≠p):OddM H' F o:=
 h.off (fun t ht'=>by
  subst ht'
  rcases h with h | h | h | ⟨_,_,h⟩ | ⟨t,h1,h2⟩ | ⟨t,h1,h2,h3⟩ | ⟨t,h1,h2,h3⟩
  . cases h
  . cases h
  . cases h
  . cases h
  . cases h1;exact ht _ _ h2
  . cases h1;exact hf _ h2
  cases h1;exact hf _ h2) e
theorem OddM.same {H H':Hp}{F:Addr->Prop}{o:V}(h:OddM H F o)(e:Same H H'):OddM H' F o:=by
 rcases h with h | h | h | h | ⟨t,h1,h2⟩ | ⟨t,h1,h2,h3⟩ | ⟨t,h1,h2,h3⟩
 . exact .inl h
 . exact .inr (.inl h)
 . exact .inr (.inr (.inl h))
 . exact .inr (.inr (.inr (.inl h)))
 . exact .inr (.inr (.inr (.inr (.inl ⟨t,h1,e _ _ h2⟩))))
 . exact .inr (.inr (.inr (.inr (.inr (.inl ⟨t,h1,h2,e _ _ h3⟩)))))
 exact .inr (.inr (.inr (.inr (.inr (.inr ⟨t,h1,h2,e _ _ h3⟩)))))
def NmL (rs:List Str):Prop:=rs.length<=12/\∀ z∈rs,M2 z=true
def aj4 (odd:V)(xs:List V):Prop:=(∃ rs,xs=rs.map V.str/\NmL rs)\/∃ p q,xs=p.map V.str++odd :: q.map V.str/\NmL (p++q)
def ar1 (H:Hp)(F:Addr->Prop)(xs:List V):Prop:=∃ o,(aj4 o xs/\OddM H F o)\/∃ rs,xs=rs.map V.str/\NmL rs
def ThingK (K:PySem.W.Frag)(H:Hp)(F:Addr->Prop)(u:V):Prop:=
 (∃ a xs,u = .ref a/\SqT K H a xs/\ar1 H F xs)\/(∃ a rs,u = .ref a/\F a/\H a=some (.lst (rs.map V.str))/\NmL rs)\/OddM H F u\/(∃ z,u = .str z/\PyData.strOk z=true/\z.length<=100) \/
 (∃ a rs,u = .ref a/\F a/\H a=some (.dK (dsK rs))/\rs.length<=12/\∀ p∈rs,M2 p.1=true/\M2 p.2=true)\/∃ a b rs,u = .ref a/\SqT K H a [.ref b]/\SqT K H b (rs.map V.str)/\NmL rs
theorem OddM.ext {H H':Hp}{F:Addr->Prop}{d l:Addr}{o:V}(h:OddM H F o)(hf:∀ t,F t->t≠d)(hF:Feed H d l)(e:ExtBut d H H'):OddM H' F o:=
 h.put e hf fun _ _=>hF.tup
theorem ThingK.same {K:PySem.W.Frag}{H H':Hp}{F:Addr->Prop}{u:V}(h:ThingK K H F u)(e:Same H H'):ThingK K H' F u:=by
 rcases h with ⟨a,xs,h1,h2,h3⟩ | ⟨a,rs,h1,h2,h3⟩ | h | h | ⟨a,rs,h1,h2,h3,h4⟩ | ⟨a,b,rs,h1,h2,h3,h4⟩
 . refine .inl ⟨a,xs,h1,e.seqT h2,?_⟩
   obtain⟨o,⟨g1,g2⟩ | g⟩:=h3
   . exact⟨o,.inl ⟨g1,g2.same e⟩⟩
   exact⟨o,.inr g⟩
 . exact .inr (.inl ⟨a,rs,h1,h2,e _ _ h3.1,h3.2⟩)
 . exact .inr (.inr (.inl (h.same e)))
 . exact .inr (.inr (.inr (.inl h)))
 . exact .inr (.inr (.inr (.inr (.inl ⟨a,rs,h1,h2,e _ _ h3,h4⟩))))
 exact .inr (.inr (.inr (.inr (.inr ⟨a,b,rs,h1,e.seqT h2,e.seqT h3,h4⟩))))
theorem Zt:∀ z∈a74,PyData.strOk z=true/\z.length<=9:=by decide +kernel
theorem Lr {K:PySem.W.Frag}{H:Hp}{z:Str}(h:PyData.strOk z=true):ItT K H (.str z):=⟨.inr (.inr (.inr (.inl ⟨z,rfl⟩))),.inl ⟨z,rfl,h⟩⟩
theorem OddM.it {K:PySem.W.Frag}{H:Hp}{F:Addr->Prop}{o:V}(h:OddM H F o):ItT K H o:=by
 rcases h with rfl | rfl | rfl | ⟨z,hz,rfl⟩ | ⟨t,rfl,h2⟩ | ⟨t,rfl,h3,h2⟩ | ⟨t,rfl,h2,h3⟩
 . exact⟨.inl rfl,.inr (.inl ⟨_,.non,by rfl⟩)⟩
 . exact⟨.inr (.inr (.inl ⟨1,rfl⟩)),.inr (.inl ⟨_,.int 1,by rfl⟩)⟩
 . exact⟨.inr (.inl ⟨true,rfl⟩),.inr (.inl ⟨_,.bl true,by rfl⟩)⟩
 . exact Lr (Zt z hz).1
 . exact⟨.inr (.inr (.inr (.inr (.inl ⟨t,_,rfl,.inr (SqT.of h2)⟩)))),.inr (.inl ⟨_,.tup h2,by rfl⟩)⟩
 . exact⟨.inr (.inr (.inr (.inr (.inl ⟨t,_,rfl,.inl (SqL.of h2)⟩)))),.inr (.inl ⟨_,.lst h2,by rfl⟩)⟩
 exact⟨.inr (.inr (.inr (.inr (.inr ⟨t,_,rfl,h3⟩)))),.inr (.inl ⟨_,.dK h3,by rfl⟩)⟩
theorem a91 {K:PySem.W.Frag}{H:Hp}{F:Addr->Prop}{xs:List V}(h:ar1 H F xs):xs.length<=30/\∀ x∈xs,ItT K H x:=by
 have stA:∀ rs:List Str,(∀ z∈rs,M2 z=true)->∀ x∈rs.map V.str,ItT K H x:=fun rs hr x hx=>by
  obtain⟨z,hz,rfl⟩:=List.mem_map.mp hx
  exact Lr (Lo (hr z hz)).1
 have one:∀ rs:List Str,NmL rs->(rs.map V.str).length<=30/\∀ x∈rs.map V.str,ItT K H x:=fun rs h=>⟨by have:=h.1;simp;omega,stA rs h.2⟩
 obtain⟨o,⟨⟨rs,rfl,h⟩ | ⟨p,q,rfl,h⟩,ho⟩ | ⟨rs,rfl,h⟩⟩:=h
 . exact one rs h
 . refine⟨by have:=h.1;simp at this ⊢;omega,fun x hx=>?_⟩
   rcases List.mem_append.mp hx with hx | hx
   . exact stA p (fun z hz=>h.2 z (by simp[hz])) x hx
   rcases List.mem_cons.mp hx with rfl | hx
   . exact ho.it
   exact stA q (fun z hz=>h.2 z (by simp[hz])) x hx
 exact one rs h
theorem Wy {K:PySem.W.Frag}{H:Hp}{F:Addr->Prop}{u:V}(h:ThingK K H F u):∃ g,ThM K H u g:=by
 rcases h with ⟨a,xs,rfl,h2,h3⟩ | ⟨a,rs,rfl,h9,h2,h3⟩ | h | ⟨z,rfl,h⟩ | ⟨a,rs,rfl,h2,h3,h4⟩ | ⟨a,b,rs,rfl,h2,h3,h4⟩
 . obtain⟨l,it⟩:=a91 (K:=K) h3
   exact⟨.row xs,a,rfl,h2,l,it⟩
 . exact⟨.odd,_,.lst h2,by rfl⟩
 . rcases h with rfl | rfl | rfl | ⟨z,hz,rfl⟩ | ⟨t,rfl,h2⟩ | ⟨t,rfl,h3,h2⟩ | ⟨t,rfl,h2,h3⟩
   . exact⟨.odd,_,.non,by rfl⟩
   . exact⟨.odd,_,.int 1,by rfl⟩
   . exact⟨.odd,_,.bl true,by rfl⟩
   . exact⟨.odd,_,.str z,by rfl⟩
   . exact⟨.row [.str "a"],t,rfl,SqT.of h2,by decide,fun x hx=>by rw[List.mem_singleton.mp hx];exact Lr (by decide +kernel)⟩
   . exact⟨.odd,_,.lst h2,by rfl⟩
   exact⟨.odd,_,.dK h3,by rfl⟩
 . exact⟨.odd,_,.str z,by rfl⟩
 . exact⟨.odd,_,.dK h3,by rfl⟩
 exact⟨.row [.ref b],a,rfl,h2,by simp,fun x hx=>by rw[List.mem_singleton.mp hx];exact⟨.inr (.inr (.inr (.inr (.inl ⟨b,_,rfl,.inr h3⟩)))),.inr (.inr ⟨b,_,rfl,h3⟩)⟩⟩
theorem Dm:∀ rs:List Str,Vo (rs.map PyData.str)=true
 | []=>rfl
 | z :: rs=>by simp only[List.map_cons,Vo,ai8,Dm rs,Bool.and_self]
local macro_rules | `(tactic| walk_at "rq1") => L2.mAlts "i_gSlc i_gSub"
theorem NmL.sub {as bs:List Str}(h:NmL as)(hs:∀ z∈bs,z∈as)(hl:bs.length<=12):NmL bs:=⟨hl,fun z hz=>h.2 z (hs z hz)⟩
theorem Mb {xs:List V}{t:Int}(h0:0<=t):Kf xs (some t) none=xs.drop t.toNat:=by
 by_cases h:t<=xs.length
 . exact Wz h0 h
 have e:HT.sIx xs.length 0 (some t)=xs.length:=by unfold HT.sIx;simp[show ¬ t<0 by omega];omega
 unfold Kf
 rw[e,List.drop_length,List.take_nil,List.drop_eq_nil_of_le (by omega)]
theorem ad8 {xs:List V}{t:Int}(h0:0<=t)(h1:t<=xs.length):Kf xs (some t) (some (t+1))=(xs.drop t.toNat).take 1:=by
 by_cases h:t+1<=xs.length
 . rw[Z0 h0 (by omega) h]
   congr 1
   omega
 have e:HT.sIx xs.length 0 (some t)=xs.length:=by unfold HT.sIx;simp[show ¬ t<0 by omega];omega
 unfold Kf
 rw[e,List.drop_length,List.take_nil,List.drop_eq_nil_of_le (by omega),List.take_nil]
theorem Gy:∀ ys:List Str,(∀ z∈ys,z.length<=8)->(ys.map (·.length)).sum<=8*ys.length
 | [],_=>by simp
 | y :: ys,h=>by
   have:=Gy ys fun z hz=>h z (List.mem_cons_of_mem _ hz)
   have:=h y (by simp)
   simp only[List.map_cons,List.sum_cons,List.length_cons]
   omega
theorem M6 {r:List Str}(h:NmL r):(r.map (·.length)).sum+r.length*(("":Str).length)<=16777216:=by
 have:=Gy r fun z hz=>(Lo (h.2 z hz)).2
 have:=h.1
 have h3:r.length*(("":Str).length)=0:=Nat.mul_zero _
 omega
theorem Ke:∀(ws:List Str),(∀ z∈ws,PyData.strOk z=true)->PyData.strOk (Str.join "" ws)=true
 | [],_=>by decide +kernel
 | [x],h=>h x (by simp)
 | x :: y :: r,h=>Xr (Xr (h x (by simp)) (by decide +kernel)) (Ke (y :: r) fun z hz=>h z (List.mem_cons_of_mem _ hz))
theorem Tj {r:List Str}(h:NmL r):PyData.strOk (Txt.join "" r)=true/\(Txt.join "" r).length<=100:=by
 rw[W1]
 refine⟨Ke r fun z hz=>(Lo (h.2 z hz)).1,?_⟩
 have a:=StrLaws.join_length_le "" r
 have:=Gy r fun z hz=>(Lo (h.2 z hz)).2
 have:=h.1
 have h3:r.length*(("":Str).length)=0:=Nat.mul_zero _
 omega
theorem Pc:∀ r:List Str,R8 r (r.map V.str)=dsK (r.map fun z=>(z,z))
 | []=>rfl
 | z :: r=>by
   have ih:=Pc r
   unfold R8 dsK at ih ⊢
   simp only[List.map_cons,List.zip_cons_cons,ih]
def BM (H:Hp)(d l:Addr)(v u:V)(r:List Str)(way at':Int)(odd:V)(k:Int):L2.St->Hp->Prop:=fun σ' H'=>∃ p xs x7 x8,σ'=[some (V.ref d),some v,some u,some (.ref p),some (.int way),some (.int at'),some odd,x7,x8]/\H p=none/\ExtBut d H H'/\Feed H' d l/\Fz H H'/\H' p=some (.lst xs)/\OddM H' (fun t=>H t=none) odd/\(∀ t,odd = .ref t->t≠p)/\aj4 odd xs/\(k<=way->xs=r.map V.str)
def BS (H:Hp)(d l:Addr)(v u:V)(r:List Str)(way at':Int)(odd:V):L2.St->Hp->Prop:=fun σ' H'=>∃ p xs x7 x8,σ'=[some (V.ref d),some v,some u,some (.ref p),some (.int way),some (.int at'),some odd,x7,x8]/\H p=none/\ExtBut d H H'/\Feed H' d l/\Fz H H'/\H' p=some (.lst xs)/\OddM H' (fun t=>H t=none) odd/\aj4 odd xs/\(5<=way->way<=7->xs=r.map V.str)
def Fj (K:PySem.W.Frag):Sp:=fun vs H Q _=>∃ d l v u ns ps r,vs=[.ref d,v,u]/\Feed H d l/\Is K H (hfD ns ps) v/\Half ns ps/\Is K H (nmD r) u/\(∀ z∈r,M2 z=true)/\r.Nodup/\r.length<=10/\∀ w H',ExtBut d H H'->Feed H' d l->ThingK K H' (fun t=>H t=none) w->Q w H'
theorem U9 {H:Hp}{F:Addr->Prop}{p:Addr}{o:V}(h:OddM H F o)(hp:H p=none):∀ t,o = .ref t->t≠p:=by
 rcases h with rfl | rfl | rfl | ⟨z,hz,rfl⟩ | ⟨t,rfl,h2⟩ | ⟨t,rfl,h3,h2⟩ | ⟨t,rfl,h2,h3⟩
 . intro t e;cases e
 . intro t e;cases e
 . intro t e;cases e
 . intro t e;cases e
 . intro t' e;cases e;exact ne_of_none h2 hp
 . intro t' e;cases e;exact ne_of_none h2 hp
 intro t' e;cases e;exact ne_of_none h3 hp
theorem Iz {odd:V}{xs:List V}{rs:List Str}(e:xs=rs.map V.str)(h:NmL rs):aj4 odd xs:=.inl ⟨rs,e,h⟩
theorem M7 {f:Addr}{fd:FuncData}(F:Fun K "_law_bent" "_law_bent" Cs f fd)(T:Ex mg)(c__law_draw:Fnd P w K mg base 1 "_law_draw" ["_law_feed_here","_law_many"] (B2 K)):FnOk P w K mg base CX0 2 f fd ["_law_feed_here","_law_half_here","_law_order"] (Fj K):=by
 refine F.ok sc__law_bent (fun vs H Q E h=>?_) (fun cdv A outer s H vs Q E hr h=>?_)
 . obtain⟨d,l,v,u,ns,ps,r,rfl,_⟩:=h
   rfl
 obtain⟨d,l,v,u,ns,ps,r,rfl,hF,hI,hH,hR,hnm,hnd,h10,k⟩:=h
 have hu:=C2 hr
 have hq:=C1 hr
 have hrN:NmL r:=⟨by omega,hnm⟩
 obtain⟨ua,rfl,hSu⟩:=hR.nm
 with_reducible refine⟨_,(A1 (A7 (i:=3) sc__law_bent.nd (by ac_nf) (by eq_refl) (B9 (Ha (K:=K)) (by ac_nf) T.b_list PyProof.Rows.Boot.«list» (A0 (pv 2) A2)))
  (A1 (A7 (i:=4) sc__law_bent.nd (by ac_nf) (by eq_refl) (B0 c__law_draw (hr.mono (by decide)) (by ac_nf) (A0 (pv 0) (A0 A5 A2))))
  (A1 (A7 (i:=5) sc__law_bent.nd (by ac_nf) (by eq_refl) (B0 c__law_draw (hr.mono (by decide)) (by ac_nf) (A0 (pv 0) (A0 (Af (Ah (K:=K)) (Aa (Av (K:=K)) (by ac_nf) T.b_len PyProof.Rows.Boot.«len» (A0 (pv 3) A2)) A5) A2))))
  (A1 (A7 (i:=6) sc__law_bent.nd (by ac_nf) (by eq_refl) (Am (A6 (K:=K) hu) (B6 (A0 X5 (A0 A5 (A0 Ar (A0 Ar (A0 (D8 (A0 Ar A2)) (A0 (B6 (A0 Ar A2)) (A0 Ar (A0 Ch (A0 Ar (A0 Ih A2))))))))))) (B0 c__law_draw (hr.mono (by decide)) (by ac_nf) (A0 (pv 0) (A0 A5 A2))) (by ac_rfl)))
  (A1 (Be (Ac (Bd (K:=K) hq) (pv 4) A5 (Aj _)) (A3 (A7 (i:=3) sc__law_bent.nd (by ac_nf) (by eq_refl) (Af (Ah (K:=K)) (B1 (Ln (K:=K)) (pv 3) Cg (Ay (pv 5))) (B1 (Ln (K:=K)) (pv 3) (Ay (Af (Ah (K:=K)) (pv 5) A5)) Cg)))) Ai)
  (A1 (Be (Ac (Bd (K:=K) hq) (pv 4) A5 (Aj _)) (A3 (A7 (i:=3) sc__law_bent.nd (by ac_nf) (by eq_refl) (Af (Ah (K:=K)) (Af (Ah (K:=K)) (B1 (Ln (K:=K)) (pv 3) Cg (Ay (pv 5))) (B1 (Ln (K:=K)) (pv 3) (Ay (pv 5)) (Ay (Af (Ah (K:=K)) (pv 5) A5)))) (B1 (Ln (K:=K)) (pv 3) (Ay (pv 5)) Cg)))) Ai)
  (A1 (Be (Ac (Bd (K:=K) hq) (pv 4) A5 (Aj _)) (A3 (Di (Du (K:=K) PySem.F.plainAttrs_list PySem.F.slot_list_insert PySem.F.type_list_insert (mm Nv) (pv 3) (A0 (pv 5) (A0 (pv 6) A2))))) Ai)
  (A1 (Be (Ac (Bd (K:=K) hq) (pv 4) A5 (Aj _)) (A3 (Xd (B6 (A0 (pv 6) A2)) (ad4 (pv 3) (Ay (pv 5)) (Ay (Af (Ah (K:=K)) (pv 5) A5))))) Ai)
  (A1 (Be (Ac (Bd (K:=K) hq) (pv 4) A5 (Aj _)) (A3 (A7 (i:=3) sc__law_bent.nd (by ac_nf) (by eq_refl) (Hn (pv 3) (Sa M8 A5)))) Ai)
  (A1 (Be (PW.pt (O3 (Ac W2 (pv 4) A5 (Aj _)) (Jf (Ac W2 (Aa (Av (K:=K)) (by ac_nf) T.b_len PyProof.Rows.Boot.«len» (A0 (pv 3) A2)) A5 (Aj _))))) (A1 (A7 (i:=7) sc__law_bent.nd (by ac_nf) (by eq_refl) (B0 c__law_draw (hr.mono (by decide)) (by ac_nf) (A0 (pv 0) (A0 (Af Dh (Aa (Av (K:=K)) (by ac_nf) T.b_len PyProof.Rows.Boot.«len» (A0 (pv 3) A2)) A5) A2))))
  (A1 (A7 (i:=8) sc__law_bent.nd (by ac_nf) (by eq_refl) (Am (A6 (K:=K) hu) (B6 (A0 (Af (Ah (K:=K)) (pv 7) A5) (A0 (B0 c__law_draw (hr.mono (by decide)) (by ac_nf) (A0 (pv 0) (A0 (Aa (Av (K:=K)) (by ac_nf) T.b_len PyProof.Rows.Boot.«len» (A0 (pv 3) A2)) A2))) A2))) (Af Dh (pv 4) A5) (by ac_rfl)))
  (A3 (Xd (D8 (A0 (Am (A6 (K:=K) hu) (pv 3) (pv 8) (by ac_rfl)) (A0 (Am (A6 (K:=K) hu) (pv 3) (pv 7) (by ac_rfl)) A2))) (Sf (K:=K) (n:=2) (by ac_nf) (Ir (Y1 (pv 3) (pv 7) Py) (Ir (Y1 (pv 3) (pv 8) Py) Uw))))))) Ai)
  (A1 (Be (Ac (Bd (K:=K) hq) (pv 4) A5 (Aj _)) (A3 (Al (Am (A6 (K:=K) hu) (B6 (A0 (pv 3) (A0 (pv 6) (A0 (Du (K:=K) PySem.F.plainAttrs_str PySem.F.slot_str_join PySem.F.type_str_join (Va (K:=K)) Ar (A0 (pv 3) A2)) (A0 (P6 (K:=K) hr.hd (by ac_nf) T.b_dict (by ac_nf) T.b_zip (A0 (pv 3) (A0 (pv 3) A2))) A2))))) (B0 c__law_draw (hr.mono (by decide)) (by ac_nf) (A0 (pv 0) (A0 A5 A2))) (by ac_rfl)))) Ai)
  (A1 (Be (Ac (Bd (K:=K) hq) (pv 4) A5 (Aj _)) (A3 (Al (Am (A6 (K:=K) hu) (pv 1) A5 (by ac_rfl)))) Ai)
  (A1 (Be (Ac (Bd (K:=K) hq) (pv 4) A5 (Aj _)) (A3 (Al (D8 (A0 (B9 (C6 (K:=K)) (by ac_nf) T.b_tuple PyProof.Rows.Boot.«tuple» (A0 (pv 3) A2)) A2)))) Ai)
  (A3 (Al (B9 (C6 (K:=K)) (by ac_nf) T.b_tuple PyProof.Rows.Boot.«tuple» (A0 (pv 3) A2))))))))))))))))),?_⟩
 walk_at "rd"
 refine T0 (.inr hSu) fun p H1 hp1 e1 h1=>?_
 have hF1:=hF.same e1
 walk_at "rd"
 refine⟨d,l,10,rfl,hF1,by omega,by omega,fun way H2 hw0 hw1 e2 hF2=>?_⟩
 have h2:=e2 _ _ (hF1.lst h1) h1
 walk_at "rd"
 refine⟨d,l,_,rfl,hF2,by rw[List.length_map];omega,by rw[List.length_map];omega,fun at' H3 ha0 ha1 e3 hF3=>?_⟩
 rw[List.length_map] at ha1
 have h3:=e3 _ _ (hF2.lst h2) h2
 walk_at "rd"
 refine D9 (A8 (by simp)) fun t1 H4 ht1 e4 h4=>?_
 walk_at "rd"
 refine Ax (A8 (by simp)) fun l1 H5 hl1 e5 h5=>?_
 walk_at "rd"
 refine Q5 fun d1 H6 hd1 e6 h6=>?_
 walk_at "rd"
 refine Ax (A8 (by simp)) fun s1 H7 hs1 e7 h7=>?_
 have e37:=((e4.trans e5).trans e6).trans e7
 have hF7:=hF3.same e37
 have hnd':∀ t,H t=none->t≠d:=fun t h=>Ne.symm (hF.nd h)
 have fr3:ExtBut d H H3:=(ExtBut.after e1 e2).trans e3
 have hl0:H l1=none:=(hF3.same e4).free (fr3.same e4) hl1
 have hd0:H d1=none:=(hF3.same (e4.trans e5)).free (fr3.same (e4.trans e5)) hd1
 walk_at "rd"
 refine⟨d,l,10,rfl,hF7,by omega,by omega,fun b H8 hb0 hb1 e8 hF8=>?_⟩
 have h8:=e8 _ _ (hF7.lst h7) h7
 have h8p:=e8 _ _ (hF7.lst (e37 _ _ h3)) (e37 _ _ h3)
 have hp0:H p=none:=hp1
 have fr8:ExtBut d H H8:=(((ExtBut.after e1 e2).trans e3).same e37).trans e8
 have fz8:Fz H H8:=(((e1.fz.trans (hF1.fz e2)).trans (hF2.fz e3)).trans e37.fz).trans (hF7.fz e8)
 have hall:∀ x∈[V.non,.int 1,.str "a",.str "zzzzzzzzz",.ref t1,.ref l1,.str "",.bl true,.str "A",.ref d1],OddM H7 (fun t=>H t=none) x:=fun x hx=>by
  simp only[List.mem_cons,List.not_mem_nil,or_false] at hx
  rcases hx with rfl | rfl | rfl | rfl | rfl | rfl | rfl | rfl | rfl | rfl
  . exact .inl rfl
  . exact .inr (.inl rfl)
  . exact .inr (.inr (.inr (.inl ⟨"a",by simp[a74],rfl⟩)))
  . exact .inr (.inr (.inr (.inl ⟨"zzzzzzzzz",by simp[a74],rfl⟩)))
  . exact .inr (.inr (.inr (.inr (.inl ⟨t1,rfl,e7 _ _ (e6 _ _ (e5 _ _ h4))⟩))))
  . exact .inr (.inr (.inr (.inr (.inr (.inl ⟨l1,rfl,hl0,e7 _ _ (e6 _ _ h5)⟩)))))
  . exact .inr (.inr (.inr (.inl ⟨"",by simp[a74],rfl⟩)))
  . exact .inr (.inr (.inl rfl))
  . exact .inr (.inr (.inr (.inl ⟨"A",by simp[a74],rfl⟩)))
  exact .inr (.inr (.inr (.inr (.inr (.inr ⟨d1,rfl,hd0,e7 _ _ h6⟩)))))
 have hnp:∀ x∈[V.non,.int 1,.str "a",.str "zzzzzzzzz",.ref t1,.ref l1,.str "",.bl true,.str "A",.ref d1],∀ t,x = .ref t->t≠p:=fun x hx t e=>by
  subst e
  simp only[List.mem_cons,List.not_mem_nil,or_false] at hx
  rcases hx with h | h | h | h | h | h | h | h | h | h
  . cases h
  . cases h
  . cases h
  . cases h
  . cases h;exact Ne.symm (ne_of_none h3 ht1)
  . cases h;exact Ne.symm (ne_of_none (e4 _ _ h3) hl1)
  . cases h
  . cases h
  . cases h
  cases h;exact Ne.symm (ne_of_none (e5 _ _ (e4 _ _ h3)) hd1)
 generalize hits:[V.non,.int 1,.str "a",.str "zzzzzzzzz",.ref t1,.ref l1,.str "",.bl true,.str "A",.ref d1]=its at h8 hall hnp
 have hil:its.length=10:=by rw[<- hits];rfl
 have hbl:b.toNat<its.length:=by omega
 have hg:=List.getElem?_eq_getElem hbl
 have ho:=(hall _ (List.getElem_mem hbl)).ext hnd' hF7 e8
 have hop:=hnp _ (List.getElem_mem hbl)
 generalize its[b.toNat]'hbl=odd at hg ho hop
 clear hall hnp hits
 walk_at "rd"
 refine K3 h8 (show atI _ b=some odd from by have:=E4 hg;rwa[Int.toNat_of_nonneg hb0] at this) ?_
 walk_at "rq"
 clear h7 h6 h5 h4 hs1 hd1 hl1 ht1 h8 e8 e7 e6 e5 e4 e37 e3 e2 e1 h3 h2 h1 hF1 hF2 hF3 hF7 hl0 hd0 fr3
 with_reducible refine K6 (BM H d l v (.ref ua) r way at' odd 1) (fun N hN=>?_) (fun σ1 H9 hM=>?_)
 . walk_at "rq"
   refine Fr (fun hw=>?_) (fun hw=>?_)
   . have hw:=V.int.inj hw
     walk_at "rq"
     refine J8 (SqL.of h8p) fun q1 H9 hq1 e1 h1=>?_
     walk_at "rq"
     refine J8 (SqL.of (e1 _ _ h8p)) fun q2 H10 hq2 e2 h2=>?_
     refine Fv (e2 _ _ h1) h2 (A8 (by have a:=Bn (r.map V.str) none (some at');have b:=Bn (r.map V.str) (some (at'+1)) none;simp at a b;omega)) fun q3 H11 hq3 e3 h3=>?_
     rw[Cd ha0,Mb (by omega),<- List.map_take,<- List.map_drop,<- List.map_append] at h3
     have e13:=(e1.trans e2).trans e3
     walk_at "rq"
     refine hN _ _ ⟨q3,_,_,_,rfl,(hF8.same (e1.trans e2)).free (fr8.same (e1.trans e2)) hq3,fr8.same e13,hF8.same e13,fz8.trans e13.fz,h3,ho.same e13,U9 (ho.same (e1.trans e2)) hq3,Iz rfl (hrN.sub (fun z hz=>?_) ?_),fun h=>absurd h (by omega)⟩
     . rcases List.mem_append.mp hz with h | h
       . exact List.mem_of_mem_take h
       exact List.mem_of_mem_drop h
     rw[List.length_append,List.length_take,List.length_drop]
     omega
   walk_at "rq"
   exact hN _ _ ⟨p,_,_,_,rfl,hp0,fr8,hF8,fz8,h8p,ho,hop,Iz rfl hrN,fun _=>rfl⟩
 obtain⟨p,xs,x7,x8,rfl,hp0,fr,hFe,fz,hx,ho,hop,hW,hr⟩:=hM
 walk_at "rq"
 with_reducible refine K6 (BM H d l v (.ref ua) r way at' odd 2) (fun N hN=>?_) (fun σ1 H9 hM=>?_)
 . walk_at "rq"
   refine Fr (fun hw=>?_) (fun hw=>?_)
   . have hw:=V.int.inj hw
     obtain rfl:=hr (by omega)
     walk_at "rq"
     refine J8 (SqL.of hx) fun q1 H10 hq1 e1 h1=>?_
     walk_at "rq"
     refine J8 (SqL.of (e1 _ _ hx)) fun q2 H11 hq2 e2 h2=>?_
     refine Fv (e2 _ _ h1) h2 (A8 (by have a:=Bn (r.map V.str) none (some at');have b:=Bn (r.map V.str) (some at') (some (at'+1));simp at a b;omega)) fun q3 H12 hq3 e3 h3=>?_
     walk_at "rq"
     refine J8 (SqL.of (e3 _ _ (e2 _ _ (e1 _ _ hx)))) fun q4 H13 hq4 e4 h4=>?_
     refine Fv (e4 _ _ h3) h4 (A8 (by have a:=Bn (r.map V.str) none (some at');have b:=Bn (r.map V.str) (some at') (some (at'+1));have c:=Bn (r.map V.str) (some at') none;simp at a b c ⊢;omega)) fun q5 H14 hq5 e5 h5=>?_
     rw[Cd ha0,Mb (by omega),ad8 ha0 (by rw[List.length_map];omega),<- List.map_take,<- List.map_drop,<- List.map_take,<- List.map_append,<- List.map_append] at h5
     have e14:=((e1.trans e2).trans e3).trans e4
     have e15:=e14.trans e5
     walk_at "rq"
     refine hN _ _ ⟨q5,_,_,_,rfl,(hFe.same e14).free (fr.same e14) hq5,fr.same e15,hFe.same e15,fz.trans e15.fz,h5,ho.same e15,U9 (ho.same e14) hq5,Iz rfl (hrN.sub (fun z hz=>?_) ?_),fun h=>absurd h (by omega)⟩
     . rcases List.mem_append.mp hz with h | h
       . rcases List.mem_append.mp h with h | h
         . exact List.mem_of_mem_take h
         exact List.mem_of_mem_drop (List.mem_of_mem_take h)
       exact List.mem_of_mem_drop h
     rw[List.length_append,List.length_append,List.length_take,List.length_take,List.length_drop]
     omega
   walk_at "rq"
   exact hN _ _ ⟨p,xs,_,_,rfl,hp0,fr,hFe,fz,hx,ho,hop,hW,fun h=>hr (by omega)⟩
 obtain⟨p,xs,x7,x8,rfl,hp0,fr,hFe,fz,hx,ho,hop,hW,hr⟩:=hM
 walk_at "rq"
 with_reducible refine K6 (BM H d l v (.ref ua) r way at' odd 3) (fun N hN=>?_) (fun σ1 H9 hM=>?_)
 . walk_at "rq"
   refine Fr (fun hw=>?_) (fun hw=>?_)
   . have hw:=V.int.inj hw
     obtain rfl:=hr (by omega)
     walk_at "rq"
     refine a89 hx ha0 (by rw[List.length_map];omega) (by rw[List.length_map];omega) fun H10 e1 h1=>?_
     walk_at "rq"
     refine hN _ _ ⟨p,_,_,_,rfl,hp0,fr.off hp0 e1,hFe.off e1 hp0 hF,fz.trans (e1.fzL hx),h1,ho.off hop e1,hop,.inr ⟨r.take at'.toNat,r.drop at'.toNat,?_,hrN.sub (fun z hz=>?_) ?_⟩,fun h=>absurd h (by omega)⟩
     . rw[aj3,List.map_take,List.map_drop]
     . rwa[List.take_append_drop] at hz
     rw[List.take_append_drop]
     omega
   walk_at "rq"
   exact hN _ _ ⟨p,xs,_,_,rfl,hp0,fr,hFe,fz,hx,ho,hop,hW,fun h=>hr (by omega)⟩
 obtain⟨p,xs,x7,x8,rfl,hp0,fr,hFe,fz,hx,ho,hop,hW,hr⟩:=hM
 walk_at "rq"
 with_reducible refine K6 (BM H d l v (.ref ua) r way at' odd 4) (fun N hN=>?_) (fun σ1 H9 hM=>?_)
 . walk_at "rq"
   refine Fr (fun hw=>?_) (fun hw=>?_)
   . have hw:=V.int.inj hw
     obtain rfl:=hr (by omega)
     walk_at "rq"
     refine Ax (A8 (by simp)) fun q1 H10 hq1 e1 h1=>?_
     walk_at "rq1"
     walk_at "rq"
     refine am8 (c:=at'+1) (e1 _ _ hx) h1 (ne_of_none hx hq1) ha0 (by omega) (by rw[List.length_map];omega) (A8 (by simp;omega)) fun H11 e2 h2=>?_
     walk_at "rq"
     have hFe1:=hFe.same e1
     refine hN _ _ ⟨p,_,_,_,rfl,hp0,(fr.same e1).off hp0 e2,hFe1.off e2 hp0 hF,(fz.trans e1.fz).trans (e2.fzL (e1 _ _ hx)),h2,(ho.same e1).off hop e2,hop,.inr ⟨r.take at'.toNat,r.drop (at'+1).toNat,?_,hrN.sub (fun z hz=>?_) ?_⟩,fun h=>absurd h (by omega)⟩
     . rw[List.map_take,List.map_drop,List.append_assoc]
       rfl
     . rcases List.mem_append.mp hz with h | h
       . exact List.mem_of_mem_take h
       exact List.mem_of_mem_drop h
     rw[List.length_append,List.length_take,List.length_drop]
     omega
   walk_at "rq"
   exact hN _ _ ⟨p,xs,_,_,rfl,hp0,fr,hFe,fz,hx,ho,hop,hW,fun h=>hr (by omega)⟩
 obtain⟨p,xs,x7,x8,rfl,hp0,fr,hFe,fz,hx,ho,hop,hW,hr⟩:=hM
 walk_at "rq"
 with_reducible refine K6 (BM H d l v (.ref ua) r way at' odd 5) (fun N hN=>?_) (fun σ1 H9 hM=>?_)
 . walk_at "rq"
   refine Fr (fun hw=>?_) (fun hw=>?_)
   . have hw:=V.int.inj hw
     obtain rfl:=hr (by omega)
     walk_at "rq"
     refine Xf (SqL.of hx) (.inr rfl) fun q1 H10 hq1 e1 h1=>?_
     rw[Qr,if_neg (by omega),<- List.map_reverse] at h1
     walk_at "rq"
     exact hN _ _ ⟨q1,_,_,_,rfl,hFe.free fr hq1,fr.same e1,hFe.same e1,fz.trans e1.fz,h1,ho.same e1,U9 ho hq1,Iz rfl (hrN.sub (fun z hz=>List.mem_reverse.mp hz) (by rw[List.length_reverse];omega)),fun h=>absurd h (by omega)⟩
   walk_at "rq"
   exact hN _ _ ⟨p,xs,_,_,rfl,hp0,fr,hFe,fz,hx,ho,hop,hW,fun h=>hr (by omega)⟩
 obtain⟨p,xs,x7,x8,rfl,hp0,fr,hFe,fz,hx,ho,hop,hW,hr⟩:=hM
 walk_at "rq"
 with_reducible refine K6 (BS H d l v (.ref ua) r way at' odd) (fun N hN=>?_) (fun σ1 H10 hM=>?_)
 . have stay:∀ x7 x8,BS H d l v (.ref ua) r way at' odd [some (V.ref d),some v,some (.ref ua),some (.ref p),some (.int way),some (.int at'),some odd,x7,x8] H9:=fun x7 x8=>⟨p,xs,x7,x8,rfl,hp0,fr,hFe,fz,hx,ho,hW,fun h _=>hr h⟩
   walk_at "rq"
   refine Fr (fun hw=>?_) (fun hw=>?_)
   . obtain rfl:=hr (by omega)
     have hlm:(r.map V.str).length=r.length:=List.length_map ..
     walk_at "rq"
     refine Fr (fun hn=>?_) (fun hn=>?_)
     . walk_at "rq"
       refine⟨d,l,_,rfl,hFe,by omega,by omega,fun k1 H10 hk0 hk1 e1 hFk=>?_⟩
       have hx1:=e1 _ _ (hFe.lst hx) hx
       obtain⟨k1,rfl⟩:=Int.eq_ofNat_of_zero_le hk0
       walk_at "rq"
       refine⟨d,l,_,rfl,hFk,by omega,by omega,fun k2 H11 hj0 hj1 e2 hFj=>?_⟩
       have hx2:=e2 _ _ (hFk.lst hx1) hx1
       obtain⟨k2,rfl⟩:=Int.eq_ofNat_of_zero_le hj0
       walk_at "rq"
       refine Ax (A8 (by simp)) fun q1 H12 hq1 e3 h3=>?_
       walk_at "rq"
       have hj:∃ j:Nat,j<r.length/\atI [V.int ((k1:Int)+1),V.int (k2:Int)] (way-8)=some (.int (j:Int)):=by
        rcases(show way=8\/way=9 by omega) with rfl | rfl
        . exact⟨k1+1,by omega,rfl⟩
        exact⟨k2,by omega,rfl⟩
       obtain⟨j,hjl,hj⟩:=hj
       refine K3 h3 hj ?_
       walk_at "rq"
       have hx3:=e3 _ _ hx2
       have hk:k1<r.length:=by omega
       refine K3 hx3 (E4 (v:=.str r[j]) (by simp[hjl])) ?_
       walk_at "rq"
       refine K3 hx3 (E4 (v:=.str r[k1]) (by simp[hk])) ?_
       walk_at "rq"
       refine D9 (A8 (by simp)) fun q2 H13 hq2 e4 h4=>?_
       have hx4:=e4 _ _ hx3
       refine⟨q2,_,rfl,SqT.of h4,rfl,?_⟩
       refine⟨_,_,rfl,?_⟩
       walk_at "rq1"
       walk_at "rq"
       refine X4 hx4 (by omega) (by omega) fun H14 e5 h5=>?_
       refine⟨_,_,rfl,?_⟩
       walk_at "rq1"
       walk_at "rq"
       refine X4 h5 (by rw[List.length_set];omega) (by rw[List.length_set];omega) fun H15 e6 h6=>?_
       refine⟨rfl,?_⟩
       rw[<- List.map_set,<- List.map_set] at h6
       have hE:=(((fr.trans e1).trans e2).same (e3.trans e4))
       have hFx:=(hFj.same (e3.trans e4))
       have hfz:=((fz.trans (hFe.fz e1)).trans (hFk.fz e2)).trans (e3.trans e4).fz
       have hox:=((ho.ext hnd' hFe e1).ext hnd' hFk e2).same (e3.trans e4)
       refine hN _ _ ⟨p,_,_,_,rfl,hp0,(hE.off hp0 e5).off hp0 e6,(hFx.off e5 hp0 hF).off e6 hp0 hF,(hfz.trans (e5.fzL hx4)).trans (e6.fzL h5),h6,(hox.off hop e5).off hop e6,Iz rfl (hrN.sub (fun z hz=>?_) ?_),fun _ h=>absurd h (by omega)⟩
       . rcases List.mem_or_eq_of_mem_set hz with h | rfl
         . rcases List.mem_or_eq_of_mem_set h with h | rfl
           . exact h
           exact List.getElem_mem _
         exact List.getElem_mem _
       rw[List.length_set,List.length_set]
       omega
     walk_at "rq"
     exact hN _ _ (stay _ _)
   walk_at "rq"
   exact hN _ _ (stay _ _)
 clear ho hop hx hr hFe fz fr hW
 obtain⟨p,xs,x7,x8,rfl,hpe,fr,hFe,fz,hx,ho,hW,hr⟩:=hM
 walk_at "rd"
 refine Fr (fun hw=>?_) (fun hw=>?_)
 . have hw:=V.int.inj hw
   obtain rfl:=hr (by omega) (by omega)
   walk_at "rd"
   refine ae6 (SqL.of hx) (M6 hrN) ?_
   walk_at "rd"
   refine Rc (SqL.of hx) (SqL.of hx) (by rw[List.length_map]) hnd (by omega) fun q1 H11 hq1 e1 h1=>?_
   walk_at "rd"
   refine Ax (A8 (by simp)) fun q2 H12 hq2 e2 h2=>?_
   have e12:=e1.trans e2
   have hFe2:=hFe.same e12
   walk_at "rd"
   refine⟨d,l,4,rfl,hFe2,by omega,by omega,fun b H13 hb0 hb1 e3 hF3=>?_⟩
   have h3:=e3 _ _ (hFe2.lst h2) h2
   have hx2:=e12 _ _ hx
   have hth:∀ x∈[V.ref p,odd,.str (Txt.join "" r),.ref q1],ThingK K H13 (fun t=>H t=none) x:=fun x hx=>by
    simp only[List.mem_cons,List.not_mem_nil,or_false] at hx
    rcases hx with rfl | rfl | rfl | rfl
    . exact .inr (.inl ⟨p,r,rfl,hpe,e3 _ _ (hFe2.lst hx2) hx2,hrN⟩)
    . exact .inr (.inr (.inl ((ho.same e12).ext hnd' hFe2 e3)))
    . exact .inr (.inr (.inr (.inl ⟨_,rfl,Tj hrN⟩)))
    have hqd:q1≠d:=Ne.symm (hFe.nd hq1)
    refine .inr (.inr (.inr (.inr (.inl ⟨q1,r.map fun z=>(z,z),rfl,hFe.free fr hq1,?_,by rw[List.length_map];omega,fun p hp=>?_⟩))))
    . rw[<- Pc]
      exact e3 _ _ hqd (e2 _ _ h1)
    obtain⟨z,hz,rfl⟩:=List.mem_map.mp hp
    exact⟨hnm z hz,hnm z hz⟩
   generalize hits:[V.ref p,odd,.str (Txt.join "" r),.ref q1]=its at h3 hth
   have hil:its.length=4:=by rw[<- hits];rfl
   have hbl:b.toNat<its.length:=by omega
   have hg:=List.getElem?_eq_getElem hbl
   have hthb:=hth _ (List.getElem_mem hbl)
   generalize its[b.toNat]'hbl=w at hg hthb
   walk_at "rd"
   refine K3 h3 (show atI _ b=some w from by have:=E4 hg;rwa[Int.toNat_of_nonneg hb0] at this) ?_
   walk_at "rd"
   exact k _ _ ((fr.same e12).trans e3) hF3 hthb
 walk_at "rd"
 refine Fr (fun hw=>?_) (fun hw=>?_)
 . walk_at "rd"
   refine E6 (hI.hf_fz fz) fun nv hN=>?_
   walk_at "rd"
   obtain⟨a,rfl,hS⟩:=hN.nm
   exact k _ _ fr hFe (.inl ⟨a,_,rfl,hS,⟨.non,.inr ⟨ns,rfl,by have:=hH.few;omega,hH.names.2⟩⟩⟩)
 walk_at "rd"
 refine Fr (fun hw=>?_) (fun hw=>?_)
 . have hw:=V.int.inj hw
   obtain rfl:=hr (by omega) (by omega)
   walk_at "rd"
   refine Ea (SqL.of hx) fun q1 H11 hq1 e1 h1=>?_
   walk_at "rd"
   refine D9 (A8 (by simp)) fun q2 H12 hq2 e2 h2=>?_
   walk_at "rd"
   exact k _ _ (fr.same (e1.trans e2)) (hFe.same (e1.trans e2)) (.inr (.inr (.inr (.inr (.inr ⟨q2,q1,r,rfl,SqT.of h2,SqT.of (e2 _ _ h1),hrN⟩)))))
 walk_at "rd"
 refine Ea (SqL.of hx) fun q1 H11 hq1 e1 h1=>?_
 walk_at "rd"
 exact k _ _ (fr.same e1) (hFe.same e1) (.inl ⟨q1,_,rfl,SqT.of h1,⟨odd,.inl ⟨hW,ho.same e1⟩⟩⟩)
def Dz (K:PySem.W.Frag):Sp:=fun vs H Q _=>∃ v ns ps,vs=[v]/\Is K H (hfD ns ps) v/\Mi ns ps/\∀ r as H',H r=none->(∀ a∈as,H a=none)->Same H H'->Tab H' r ns as (Way ps)->Q (.ref r) H'
theorem Jz {f:Addr}{fd:FuncData}(F:Fun K "behind_each" "behind_each" Bz f fd)(T:Ex mg):FnOk P w K mg base CX0 1 f fd ["half"] (Dz K):=by
 refine F.ok sc_behind_each (fun vs H Q E h=>?_) (fun cdv A outer s H vs Q E hr h=>?_)
 . obtain⟨v,ns,ps,rfl,_⟩:=h
   rfl
 obtain⟨v,ns,ps,rfl,hI,hW,k⟩:=h
 have hu:=C2 hr
 have hq:=C1 hr
 have hn:=hW.nd
 have hfew:=hW.few
 with_reducible refine⟨_,(A1 (A7 (i:=1) sc_behind_each.nd (by ac_nf) (by eq_refl) (Am (A6 (K:=K) hu) (pv 0) A5 (by ac_rfl)))
  (A1 (A7 (i:=2) sc_behind_each.nd (by ac_nf) (by eq_refl) (B9 (K8 (K:=K) hr.hd) (by ac_nf) T.b_dict PyProof.Rows.Boot.«dict» (A0 (Bt ["name"] [] [] (by ac_nf) (by ac_nf) (by ac_nf) (An (K:=K) hu (pv 1)) (fun _ _ _ _=>(Ae (i:=0) (by with_unfolding_all (show(["name"]:List Str).Nodup;decide +kernel)) (by ac_nf) (by eq_refl))) (B7 (by decide)) (fun _ _ _ _=>Cp) (fun _ _ _ _=>(D8 (A0 (pv 0) (A0 Ih A2))))) A2)))
  (A1 (Bv PassesOwn.never (by ac_nf) (An (K:=K) hu (Am (A6 (K:=K) hu) (pv 0) A5 (by ac_rfl))) (Ae (i:=3) sc_behind_each.nd (by ac_nf) (by eq_refl))
  (A3 (Dj hu (Am (A6 (K:=K) hu) (pv 2) (Am (A6 (K:=K) hu) (pv 3) A5 (by ac_rfl)) (by ac_rfl)) (Am (A6 (K:=K) hu) (pv 3) A5 (by ac_rfl)) Ch (by ac_nf))))
  (A1 (Bv PassesOwn.never (by ac_nf) (An (K:=K) hu (pv 1)) (Ae (i:=4) sc_behind_each.nd (by ac_nf) (by eq_refl))
  (A3 (Bv PassesOwn.never (by ac_nf) (An (K:=K) hu (pv 1)) (Ae (i:=5) sc_behind_each.nd (by ac_nf) (by eq_refl))
  (A3 (Be (Ac (Pf (K:=K) hq) (pv 4) (Am (A6 (K:=K) hu) (pv 2) (pv 5) (by ac_rfl)) (by ac_nf)) (A3 (Di (Du (K:=K) PySem.F.plainAttrs_dict PySem.F.slot_dict_update PySem.F.type_dict_update (mm Qs) (Am (A6 (K:=K) hu) (pv 2) (pv 5) (by ac_rfl)) (A0 (Am (A6 (K:=K) hu) (pv 2) (pv 4) (by ac_rfl)) A2)))) Ai)))))
  (A3 (Al (pv 2))))))),?_⟩
 walk_at "rd"
 refine E6 hI fun nv hN=>?_
 walk_at "rd"
 obtain⟨na,rfl,hS⟩:=hN.nm
 refine O5 hS ?_
 refine Fi (Et (xs:=ns.map V.str)) (fun p i acc H1=>Same H H1/\∃ as:List Addr,as.length=i/\as.Nodup/\(∀ a∈as,H1 a=some (.dK [])/\H a=none)/\PrsK K H1 (Ie (ns.take i) as) acc) (fun p H' hp e h=>⟨e,[],rfl,by simp,fun _ h=>(by cases h),by rfl⟩) (fun p i acc H1 hP=>hP.1.seqT hS) (fun p i x acc H1 hp hx hi hl ha hP=>?_) fun p acc H1 hp ha hl hP=>?_
 . obtain ⟨e1,as,hal,had,haf,hpr⟩:=hP
   rw[List.getElem?_map] at hx
   cases hz:ns[i]? with
   | none=>rw[hz] at hx;cases hx
   | some z=>
     rw[hz] at hx
     cases hx
     have hin:i<ns.length:=(List.getElem?_eq_some_iff.mp hz).1
     walk_at "rd"
     refine Q5 fun b H2 hb2 e2 h2=>?_
     walk_at "rd"
     refine D9 (A8 (by simp)) fun t H3 ht3 e3 h3=>?_
     have h3p:H3 p=some (.lst acc):=e3 _ _ (e2 _ _ ha)
     refine Ho (by rw[List.length_map];omega) hi hl h3p fun H4 e4 h4=>?_
     have hbp:b≠p:=Ne.symm (ne_of_none ha hb2)
     refine⟨by walk_at "sm",as++[b],by simp[hal],?_,fun a ha'=>?_,?_⟩
     . rw[List.nodup_append]
       refine⟨had,by simp,fun a ha1 c hc e=>?_⟩
       have:c=b:=by simpa using hc
       subst this
       subst e
       have:=(haf _ ha1).1
       rw[hb2] at this
       cases this
     . rcases List.mem_append.mp ha' with ha' | ha'
       . obtain⟨q1,q2⟩:=haf a ha'
         exact⟨e4 _ _ (ne_of q1 ha (by intro z;cases z)) (e3 _ _ (e2 _ _ q1)),q2⟩
       have:a=b:=by simpa using ha'
       subst this
       exact⟨e4 _ _ hbp (e3 _ _ h2),e1.free hb2⟩
     have ht:ns.take (i+1)=ns.take i++[z]:=by rw[List.take_add_one,hz];rfl
     have hlen:(ns.take i).length=as.length:=by rw[List.length_take,hal];omega
     rw[ht,P8 hlen]
     have fz4:=e4.fzL h3p
     exact PrsK.snoc (kv:=(Sum.inr z,V.ref b)) (fz4.seq (SqT.of h3)) (PrsK.fz ((e2.fz.trans e3.fz).trans fz4) hpr)
 obtain⟨e1,as,hal,had,haf,hpr⟩:=hP
 rw[List.length_map] at hal
 rw[List.length_map,List.take_length] at hpr
 walk_at "rd"
 refine Xw ha hpr (by unfold Ie;rw[List.length_map,List.length_zip];omega) fun r H2 hr2 e2 h2=>?_
 rw[Gf _ _ (Ip hn) (fun _ _ _ h=>by cases h),List.nil_append] at h2
 have hr0:H r=none:=e1.free hr2
 have hra:r∉as:=fun hm=>by
  have:=(haf r hm).1
  rw[hr2] at this
  cases this
 have hT0:Tab H2 r ns as (fun z y=>(z,y)∈ps.take 0):=⟨hal,had,hra,h2,fun i z a hz ha'=>⟨[],e2 _ _ (haf a (List.mem_of_getElem? ha')).1,by simp,fun _ h=>(by cases h),fun y=>by simp⟩⟩
 walk_at "rd"
 refine S9 (hI.hf_fz (by walk_at "fz")) fun pv hP2=>?_
 refine Y5 hP2 (fun i σ H3=>∃ x3,σ=[some v,some (.ref na),some (.ref r),x3,none,none]/\Same H H3/\Fz H2 H3/\Tab H3 r ns as (fun z y=>(z,y)∈ps.take i))
  ⟨none,rfl,by walk_at "sm",.refl _,hT0⟩ (fun i σ' H' hP=>hP.choose_spec.2.2.1) (fun i pr w σ' H3 hpr hIp hP=>?_) (fun σ' H3 hP=>?_)
 . obtain⟨x3,rfl,e3,fz3,hT⟩:=hP
   have hpm:=hW.mem pr (List.mem_of_getElem? hpr)
   obtain⟨j,a,hj,haj⟩:=hT.at hpm.1
   obtain⟨ks,hk1,hk2,hk3,hk4⟩:=hT.row j _ a hj haj
   have hkl:ks.length<=ns.length:=Ej hk2 hk3
   walk_at "rd"
   refine Xk hIp ?_
   refine P5 hT hn hj haj ?_
   walk_at "rd"
   refine Y0 hIp ?_
   refine Gg hk1 (by rw[Ou];omega) fun H4 e4 h4=>?_
   rw[U5] at h4
   walk_at "rd"
   have ha0:H a=none:=(haf a (List.mem_of_getElem? haj)).2
   refine⟨_,rfl,by walk_at "sm",fz3.trans (e4.fzD hk1),hT.put e4 hn hj haj h4 (Kb hk2) (fun y hy=>?_) (fun y=>?_) (fun z hz hzx y=>?_)⟩
   . rcases mem_addK.mp hy with hy | rfl
     . exact hk3 y hy
     exact hpm.2
   . rw[mem_addK,hk4,List.take_add_one,hpr,List.mem_append]
     constructor
     . rintro(h | rfl)
       . exact .inl h
       exact .inr (by simp)
     rintro(h | h)
     . exact .inl h
     right
     have:(pr.1,y)=pr:=by simpa using h
     rw[<- this]
   rw[List.take_add_one,hpr,List.mem_append]
   constructor
   . exact .inl
   rintro(h | h)
   . exact h
   have:(z,y)=pr:=by simpa using h
   exact absurd (by rw[<- this]) hzx
 obtain⟨x3,rfl,e3,fz3,hT⟩:=hP
 rw[List.take_length] at hT
 have hW0:War ns ps [] (fun z y=>(z,y)∈ps):=⟨fun z y h=>.one h,fun z y h=>h,fun m hm=>by cases hm⟩
 walk_at "rd"
 have hN3:Is K H3 (nmD ns) (.ref na):=hN.nm_fz e3.fz
 refine Kv hN3 (fun i σ H4=>∃ x4 x5 R,σ=[some v,some (.ref na),some (.ref r),x3,x4,x5]/\Same H H4/\Fz H3 H4/\Tab H4 r ns as R/\War ns ps (ns.take i) R)
  ⟨_,_,_,rfl,e3,.refl _,hT,hW0⟩ (fun i σ' H' hP=>?_) (fun i mid σ' H4 hmid hP=>?_) (fun σ' H4 hP=>?_)
 . obtain⟨_,_,_,_,_,fz,_⟩:=hP
   exact fz
 . obtain⟨x4,x5,R,rfl,e4,fz4,hT4,hR⟩:=hP
   obtain⟨jm,am,hjm,ham⟩:=hT4.at (List.mem_of_getElem? hmid)
   have hN4:Is K H4 (nmD ns) (.ref na):=hN3.nm_fz fz4
   walk_at "rd"
   refine Kv hN4 (fun j σ H5=>∃ x5,σ=[some v,some (.ref na),some (.ref r),x3,some (.str mid),x5]/\Same H H5/\Fz H4 H5/\Tab H5 r ns as (Y8 R mid (ns.take j)))
    ⟨_,rfl,e4,.refl _,hT4.congr fun z _ y=>⟨.inl,fun h=>h.elim (fun q=>q) fun q=>absurd q.1 (by simp)⟩⟩ (fun i σ' H' hP=>hP.choose_spec.2.2.1) (fun j nm σ' H5 hnm hP=>?_) (fun σ' H5 hP=>?_)
   . obtain⟨x5',rfl,e5,fz5,hT5⟩:=hP
     obtain⟨jn,an,hjn,han⟩:=hT5.at (List.mem_of_getElem? hnm)
     obtain⟨ks,hk1,hk2,hk3,hk4⟩:=hT5.row jn nm an hjn han
     obtain⟨ms,hm1,hm2,hm3,hm4⟩:=hT5.row jm mid am hjm ham
     have hkl:ks.length<=ns.length:=Ej hk2 hk3
     have hml:ms.length<=ns.length:=Ej hm2 hm3
     have htj:ns.take (j+1)=ns.take j++[nm]:=by rw[List.take_add_one,hnm];rfl
     have hin:mid∈ks↔R nm mid:=(hk4 mid).trans ⟨fun h=>h.elim (fun q=>q) fun q=>q.2.1,.inl⟩
     have hmid2:∀ y,y∈ms↔R mid y:=fun y=>(hm4 y).trans ⟨fun h=>h.elim (fun q=>q) fun q=>q.2.2,.inl⟩
     have hother:∀ z∈ns,z≠nm->∀ y,Y8 R mid (ns.take j) z y↔Y8 R mid (ns.take (j+1)) z y:=fun z _ hz y=>by
      unfold Y8
      rw[htj,List.mem_append,List.mem_singleton]
      simp[hz]
     walk_at "rd"
     refine P5 hT5 hn hjn han ?_
     refine Rz hk1 ?_
     walk_at "rd"
     refine Fr (fun hc=>?_) (fun hc=>?_)
     . have hRn:=hin.mp hc
       by_cases hne:nm=mid
       . subst hne
         have hji:jn=jm:=by
          obtain⟨p1,p2⟩:=List.getElem?_eq_some_iff.mp hjn
          obtain⟨q1,q2⟩:=List.getElem?_eq_some_iff.mp hjm
          exact(List.getElem_inj hn).mp (p2.trans q2.symm)
         subst hji
         rw[han] at ham
         cases ham
         walk_at "rd"
         refine P5 hT5 hn hjn han ?_
         refine Z1 hk1 ?_
         walk_at "rd"
         refine P5 hT5 hn hjn han ?_
         walk_at "rd"
         refine ab4 hk1 ?_
         walk_at "rd"
         refine⟨_,rfl,e5,fz5,hT5.congr fun z hz y=>?_⟩
         by_cases hzn:z=nm
         . subst hzn
           unfold Y8
           constructor
           . exact fun h=>.inl (h.elim (fun q=>q) fun q=>q.2.2)
           exact fun h=>.inl (h.elim (fun q=>q) fun q=>q.2.2)
         exact hother z hz hzn y
       have hane:an≠am:=fun q=>by
        subst q
        obtain⟨p1,p2⟩:=List.getElem?_eq_some_iff.mp han
        obtain⟨q1,q2⟩:=List.getElem?_eq_some_iff.mp ham
        have:=(List.getElem_inj hT5.nd).mp (p2.trans q2.symm)
        subst this
        rw[hjn] at hjm
        exact hne (Option.some.inj hjm)
       walk_at "rd"
       refine P5 hT5 hn hjn han ?_
       refine Z1 hk1 ?_
       walk_at "rd"
       refine P5 hT5 hn hjm ham ?_
       walk_at "rd"
       refine ai4 hk1 hm1 hane (by omega) fun H6 e6 h6=>?_
       walk_at "rd"
       have ha0:H an=none:=(haf an (List.mem_of_getElem? han)).2
       refine⟨_,rfl,by walk_at "sm",fz5.trans (e6.fzD hk1),hT5.put e6 hn hjn han h6 (Ht hk2) (fun y hy=>?_) (fun y=>?_) hother⟩
       . rcases mem_addAll.mp hy with hy | hy
         . exact hk3 y hy
         exact hm3 y hy
       rw[mem_addAll,hk4,hmid2]
       unfold Y8
       rw[htj,List.mem_append,List.mem_singleton]
       constructor
       . rintro((h | h) | h)
         . exact .inl h
         . exact .inr ⟨.inl h.1,h.2⟩
         exact .inr ⟨.inr rfl,hRn,h⟩
       rintro(h | h)
       . exact .inl (.inl h)
       exact .inr h.2.2
     have hRn:¬ R nm mid:=fun q=>hc (hin.mpr q)
     walk_at "rd"
     refine⟨_,rfl,e5,fz5,hT5.congr fun z hz y=>?_⟩
     by_cases hzn:z=nm
     . subst hzn
       unfold Y8
       constructor
       . exact fun h=>.inl (h.elim (fun q=>q) fun q=>absurd q.2.1 hRn)
       exact fun h=>.inl (h.elim (fun q=>q) fun q=>absurd q.2.1 hRn)
     exact hother z hz hzn y
   obtain⟨x5',rfl,e5,fz5,hT5⟩:=hP
   rw[List.take_length] at hT5
   refine⟨_,_,_,rfl,e5,fz4.trans fz5,hT5.congr (R':=fun z y=>R z y\/(R z mid/\R mid y)) fun z hz y=>?_,?_⟩
   . unfold Y8
     simp[hz]
   have htj:ns.take (i+1)=ns.take i++[mid]:=by rw[List.take_add_one,hmid];rfl
   rw[htj]
   exact hR.step
 obtain⟨x4,x5,R,rfl,e4,fz4,hT4,hR⟩:=hP
 rw[List.take_length] at hR
 walk_at "rd"
 exact k r as H4 hr0 (fun a ha'=>(haf a ha').2) e4 (hT4.congr fun z _ y=>hR.done hW.mem z y)
def Gp (K:PySem.W.Frag):Sp:=fun vs H Q _=>∃ v ns,vs=[v]/\Is K H (nmD ns) v/\ns.Nodup/\ns.length<=10/\∀ d H',H d=none->Same H H'->H' d=some (.dK (a78 ns))->Q (.ref d) H'
def Ed (K:PySem.W.Frag):Sp:=fun vs H Q _=>∃ v bd ns ps,vs=[v,.ref bd]/\Is K H (hfD ns ps) v/\Mi ns ps/\ns.length<=10/\H bd=some (.dK (a78 ns))/\∀ d H',H d=none->Same H H'->H' d=some (.dK (ahK ns ps))->Q (.ref d) H'
def Bx (C:Addr)(K:PySem.W.Frag):Sp:=fun vs H Q _=>∃ p v dx ns ps,vs=[.ref p,v]/\H p=some (.ins C dx [])/\Is K H (hfD ns ps) v/\Mi ns ps/\ns.length<=10 /\
 ∀ nv bd ad kd kvs H',H kd=none->ExtBut p H H'->WaysAt K C H' p dx nv bd ad kd ns ps kvs->Q .non H'
def As (C:Addr)(K:PySem.W.Frag):Sp:=fun vs H Q _=>∃ p dx nv bd ad kd ns ps kvs q,vs=[.ref p,.int ((C0 ns q:Nat):Int)]/\WaysAt K C H p dx nv bd ad kd ns ps kvs/\Mi ns ps/\ns.length<=10 /\
 ∀ l H',H l=none->Same H H'->H' l=some (.lst ((frF (Ab ps) (ns.filter q)).map V.str))->Q (.ref l) H'
def Bp (C:Addr)(K:PySem.W.Frag)(n:Nat):Sp:=fun vs H Q _=>∃ p dx nv bd ad kd ns ps kvs q,vs=[.ref p,.int ((C0 ns q:Nat):Int)]/\WaysAt K C H p dx nv bd ad kd ns ps kvs/\Mi ns ps/\ns.length<=10/\(ns.filter q).length<n /\
 ∀ kvs' H',ExtBut kd H H'->WaysAt K C H' p dx nv bd ad kd ns ps kvs'->Q (.int ((cnt (Ab ps) (ns.filter q):Nat):Int)) H'
def At (C:Addr)(K:PySem.W.Frag):Sp:=Bp C K 11
theorem Fg {C:Addr}{K:PySem.W.Frag}:∀ vs H Q E,¬ Bp C K 0 vs H Q E:=by
 rintro vs H Q E ⟨_,_,_,_,_,_,_,_,_,_,_,_,_,_,h,_⟩
 exact absurd h (Nat.not_lt_zero _)
def Ll (K:PySem.W.Frag):Sp:=fun vs H Q _=>∃ v ns ps,vs=[v]/\Is K H (hfD ns ps) v/\Mi ns ps/\ns.length<=10/\∀ H',Same H H'->Q (.int ((cnt (Ab ps) ns:Nat):Int)) H'
theorem Yr {ns:List Str}(hn:ns.Nodup)(h:ns.length<=10){x:Str}(hx:x∈ns):Cq ns x<=1024:=by
 obtain⟨j,hj⟩:=List.mem_iff_getElem?.mp hx
 rw[Je hn hj]
 exact(Nat.pow_le_pow_right (by decide) (by have:=(List.getElem?_eq_some_iff.mp hj).1;omega):2 ^ j<=2 ^ 10)
theorem Dx {f g:Str}{v x:V}{r:List (Str×V)}(h:¬ g=f):Ia f v ((g,x) :: r)=(g,x) :: Ia f v r:=by
 show(if g=f then _ else _)=_
 rw[if_neg h]
theorem fld2 (a b:V):Ia "bits" b [("names",a)]=([("names",a),("bits",b)]:List (Str×V)):=by
 rw[Dx (by decide +kernel)]
 rfl
theorem fld3 (a b c:V):Ia "ahead" c [("names",a),("bits",b)]=([("names",a),("bits",b),("ahead",c)]:List (Str×V)):=by
 rw[Dx (by decide +kernel),Dx (by decide +kernel)]
 rfl
theorem fld4 (a b c d:V):Ia "full" d [("names",a),("bits",b),("ahead",c)]=([("names",a),("bits",b),("ahead",c),("full",d)]:List (Str×V)):=by
 rw[Dx (by decide +kernel),Dx (by decide +kernel),Dx (by decide +kernel)]
 rfl
theorem fld5 (a b c d e:V):Ia "known" e [("names",a),("bits",b),("ahead",c),("full",d)]=([("names",a),("bits",b),("ahead",c),("full",d),("known",e)]:List (Str×V)):=by
 rw[Dx (by decide +kernel),Dx (by decide +kernel),Dx (by decide +kernel),Dx (by decide +kernel)]
 rfl
theorem Qj {f:Addr}{fd:FuncData}(F:Fun K "bits_of" "bits_of" E8 f fd)(T:Ex mg):FnOk P w K mg base CX0 1 f fd ["names"] (Gp K):=by
 refine F.ok sc_bits_of (fun vs H Q E h=>?_) (fun cdv A outer s H vs Q E hr h=>?_)
 . obtain⟨v,ns,rfl,_⟩:=h
   rfl
 obtain⟨v,ns,rfl,hI,hn,h10,k⟩:=h
 have hu:=C2 hr
 have hq:=C1 hr
 with_reducible refine⟨_,(A1 (A7 (i:=1) sc_bits_of.nd (by ac_nf) (by eq_refl) Ih)
  (A1 (A7 (i:=2) sc_bits_of.nd (by ac_nf) (by eq_refl) A5)
  (A1 (Bv PassesOwn.never (by ac_nf) (An (K:=K) hu (pv 0)) (Ae (i:=3) sc_bits_of.nd (by ac_nf) (by eq_refl))
  (A1 (Dj hu (pv 1) (pv 3) (pv 2) (by ac_nf))
  (A3 (A7 (i:=2) sc_bits_of.nd (by ac_nf) (by eq_refl) (Af D7 (pv 2) A5)))))
  (A3 (Al (pv 1)))))),?_⟩
 walk_at "rd"
 refine Q5 fun d H1 hd1 e1 h1=>?_
 walk_at "rd"
 refine Kv (hI.nm_fz e1.fz) (fun i σ H2=>∃ x3,σ=[some v,some (.ref d),some (.int ((2 ^ i:Nat):Int)),x3]/\Same H H2/\Fz H1 H2/\H2 d=some (.dK ((ns.take i).map fun x=>((Sum.inr x:Key),V.int ((Cq ns x:Nat):Int)))))
  ⟨_,rfl,e1,.refl _,h1⟩ (fun i σ' H' hP=>hP.choose_spec.2.2.1) (fun i z σ' H2 hz hP=>?_) (fun σ' H2 hP=>?_)
 . obtain⟨x3,rfl,e2,fz2,h2⟩:=hP
   have hin:i<ns.length:=(List.getElem?_eq_some_iff.mp hz).1
   have hlt:2 ^ i<=2 ^ 10:=Nat.pow_le_pow_right (by decide) (by omega)
   have hno:z∉ns.take i:=fun hm=>by
    obtain⟨j,hj⟩:=List.mem_iff_getElem?.mp hm
    rw[List.getElem?_take] at hj
    split at hj
    . rename_i hji
      have a1:=List.getElem?_eq_some_iff.mp hj
      have a2:=List.getElem?_eq_some_iff.mp hz
      have:=(List.getElem_inj hn).mp (a1.2.trans a2.2.symm)
      omega
    cases hj
   walk_at "rd"
   refine Gg h2 (by rw[List.length_map,List.length_take];omega) fun H3 e3 h3=>?_
   rw[Iu _ (Ez hno)] at h3
   walk_at "rd"
   refine⟨some (.str z),?_,e2.off hd1 e3,fz2.trans (e3.fzD h2),?_⟩
   . have:((2 ^ i:Nat):Int)*2=((2 ^ (i+1):Nat):Int):=by rw[Nat.pow_succ];omega
     rw[this]
     rfl
   rw[h3,List.take_add_one,hz]
   have:((2 ^ i:Nat):Int)=((Cq ns z:Nat):Int):=by rw[Je hn hz]
   rw[this]
   simp
 obtain⟨x3,rfl,e2,fz2,h2⟩:=hP
 rw[List.take_length] at h2
 walk_at "rd"
 exact k d H2 hd1 e2 h2
theorem L6 {f:Addr}{fd:FuncData}(F:Fun K "bits_ahead" "bits_ahead" Ca f fd)(T:Ex mg)(c_behind_each:Fnd P w K mg base 1 "behind_each" ["half"] (Dz K)):FnOk P w K mg base CX0 2 f fd ["half","bits"] (Ed K):=by
 refine F.ok sc_bits_ahead (fun vs H Q E h=>?_) (fun cdv A outer s H vs Q E hr h=>?_)
 . obtain⟨v,bd,ns,ps,rfl,_⟩:=h
   rfl
 obtain⟨v,bd,ns,ps,rfl,hI,hW,h10,hB,k⟩:=h
 have hu:=C2 hr
 have hq:=C1 hr
 have hn:=hW.nd
 with_reducible refine⟨_,(A1 (A7 (i:=2) sc_bits_ahead.nd (by ac_nf) (by with_unfolding_all exact Or.inr rfl) (B0 c_behind_each (hr.mono (by decide)) (by ac_nf) (A0 (pv 0) A2)))
  (A1 (A7 (i:=3) sc_bits_ahead.nd (by ac_nf) (by eq_refl) Ih)
  (A1 (Bv PassesOwn.never (by ac_nf) (An (K:=K) hu (Am (A6 (K:=K) hu) (pv 0) A5 (by ac_rfl))) (Ae (i:=4) sc_bits_ahead.nd (by ac_nf) (by with_unfolding_all exact Or.inr rfl))
  (A3 (Dj hu (pv 3) (pv 4) (Aa (E5 (K:=K) (by ac_nf)) (by ac_nf) T.b_sum PyProof.Rows.Boot.«sum» (A0 (Bt ["one"] ["bits","name","reach"] [1,4,2] (by ac_nf) (by ac_nf) (by ac_nf) (An (K:=K) hu (Am (A6 (K:=K) hu) (pv 0) A5 (by ac_rfl))) (fun _ _ _ _=>(Ae (i:=0) (by with_unfolding_all (show(["one","bits","name","reach"]:List Str).Nodup;decide +kernel)) (by ac_nf) (by eq_refl))) (B7 (by decide)) (fun _ _ _ _=>(Er (Ac (Pf (K:=K) hq) (pv 2) (Am (A6 (K:=K) hu) (pv 3) (pv 0) (by ac_rfl)) (by ac_nf)))) (fun _ _ _ _=>(Am (A6 (K:=K) hu) (pv 1) (pv 0) (by ac_rfl)))) A2)) (by ac_nf))))
  (A3 (Al (pv 3)))))),?_⟩
 walk_at "rd"
 refine⟨v,ns,ps,rfl,hI,hW,fun r as H1 hr1 ha1 e1 hT=>?_⟩
 walk_at "rd"
 refine Q5 fun d H2 hd2 e2 h2=>?_
 walk_at "rd"
 have e12:=e1.trans e2
 refine E6 (hI.hf_fz e12.fz) fun nv hN=>?_
 refine Kv hN (fun i σ H3=>∃ x4,σ=[some v,some (.ref bd),some (.ref r),some (.ref d),x4]/\Same H1 H3/\Fz H2 H3/\H3 d=some (.dK ((ns.take i).map fun x=>((Sum.inr x:Key),V.int ((C0 ns (fun y=>Ab ps y x):Nat):Int)))))
  ⟨_,rfl,e2,.refl _,h2⟩ (fun i σ' H' hP=>hP.choose_spec.2.2.1) (fun i z σ' H3 hz hP=>?_) (fun σ' H3 hP=>?_)
 . obtain⟨x4,rfl,e3,fz3,h3⟩:=hP
   have hin:i<ns.length:=(List.getElem?_eq_some_iff.mp hz).1
   have hno:z∉ns.take i:=fun hm=>by
    obtain⟨j,hj⟩:=List.mem_iff_getElem?.mp hm
    rw[List.getElem?_take] at hj
    split at hj
    . rename_i hji
      have a1:=List.getElem?_eq_some_iff.mp hj
      have a2:=List.getElem?_eq_some_iff.mp hz
      have:=(List.getElem_inj hn).mp (a1.2.trans a2.2.symm)
      omega
    cases hj
   walk_at "rd"
   refine E6 (hI.hf_fz (e12.fz.trans fz3)) fun nv3 hN3=>?_
   refine Lg hN3 (fun y=>Ab ps y z) (fun y=>PyData.int ((Cq ns y:Nat):Int)) (fun _=>rfl) (by omega) (fun j y H4 R R' hy e4 hR hR'=>?_) (fun q ys H4 hq4 e4 h4 hL4=>?_)
   . have hT4:=hT.same (e3.trans e4)
     obtain⟨jy,ay,hjy,hay⟩:=hT4.at (List.mem_of_getElem? hy)
     obtain⟨ks,hk1,hk2,hk3,hk4⟩:=hT4.row jy y ay hjy hay
     walk_at "rd"
     refine P5 hT4 hn hjy hay ?_
     refine Rz hk1 ?_
     rw[Lx (hk4 z)]
     walk_at "rd"
     refine a77 (fun hb=>?_) (fun hb=>?_)
     . walk_at "rd"
       refine i_ixD (e4 _ _ (e3 _ _ (e1 _ _ hB))) (Fd (List.mem_of_getElem? hy)) ?_
       exact hR hb _ _ (.refl _) rfl
     exact hR' hb _ (.refl _)
   have hm:(ns.filter fun y=>Ab ps y z).map (fun y=>PyData.int ((Cq ns y:Nat):Int))=((ns.filter fun y=>Ab ps y z).map fun y=>((Cq ns y:Nat):Int)).map PyData.int:=by rw[List.map_map];rfl
   rw[hm] at hL4
   have hys:=IsL.int_eq hL4
   subst hys
   walk_at "rd"
   refine Uh (.inl (SqL.of h4)) (fun n hn'=>?_) (by rw[List.length_map];exact Nat.le_trans (List.length_filter_le _ _) (by omega)) ?_
   . obtain⟨y,hy,rfl⟩:=List.mem_map.mp hn'
     have hyn:=(List.mem_filter.mp hy).1
     have:=Yr hn h10 hyn
     omega
   rw[Eb,Iq _ hn]
   walk_at "rd"
   have h4d:H4 d=some _:=e4 _ _ h3
   refine Gg h4d (by rw[List.length_map,List.length_take];omega) fun H5 e5 h5=>?_
   rw[Iu _ (Ez hno)] at h5
   walk_at "rd"
   refine⟨_,rfl,(e3.trans e4).off hd2 e5,(fz3.trans e4.fz).trans (e5.fzD h4d),?_⟩
   rw[h5,List.take_add_one,hz]
   simp
 obtain⟨x4,rfl,e3,fz3,h3⟩:=hP
 rw[List.take_length] at h3
 walk_at "rd"
 exact k d H3 (e1.free hd2) (e1.trans e3) h3
theorem Mu {f:Addr}{fd:FuncData}(F:Fun K "__init__" "Ways.__init__" Cu f fd)(T:Ex mg){C_Ways:Addr}(k_Ways:C3 K C_Ways)(c_bits_of:Fnd P w K mg base 1 "bits_of" ["names"] (Gp K))(c_bits_ahead:Fnd P w K mg base 2 "bits_ahead" ["half","bits"] (Ed K)):FnOk P w K mg base CX0 3 f fd ["self","half"] (Bx C_Ways K):=by
 refine F.ok Nl (fun vs H Q E h=>?_) (fun cdv A outer s H vs Q E hr h=>?_)
 . obtain⟨p,v,dx,ns,ps,rfl,_⟩:=h
   rfl
 obtain⟨p,v,dx,ns,ps,rfl,hp,hI,hW,h10,k⟩:=h
 have hu:=C2 hr
 have hq:=C1 hr
 have hn:=hW.nd
 with_reducible refine⟨_,(A1 (S3 (C:=C_Ways) (pv 0) (Am (A6 (K:=K) hu) (pv 1) A5 (by ac_rfl)) k_Ways.cl k_Ways.n_names (by ac_nf))
  (A1 (S3 (C:=C_Ways) (pv 0) (B0 c_bits_of (hr.mono (by decide)) (by ac_nf) (A0 (Am (A6 (K:=K) hu) (pv 1) A5 (by ac_rfl)) A2)) k_Ways.cl k_Ways.n_bits (by ac_nf))
  (A1 (S3 (C:=C_Ways) (pv 0) (B0 c_bits_ahead (hr.mono (by decide)) (by ac_nf) (A0 (pv 1) (A0 (Dy (C:=C_Ways) (pv 0) k_Ways.cl k_Ways.n_bits (by ac_nf)) A2))) k_Ways.cl k_Ways.n_ahead (by ac_nf))
  (A1 (S3 (C:=C_Ways) (pv 0) (Aa (Uo (by ac_nf)) (by ac_nf) T.b_sum PyProof.Rows.Boot.«sum» (A0 (a02 (K:=K) PySem.F.plainAttrs_dict PySem.F.slot_dict_values PySem.F.type_dict_values (mm Td) (Dy (C:=C_Ways) (pv 0) k_Ways.cl k_Ways.n_bits (by ac_nf))) A2)) k_Ways.cl k_Ways.n_full (by ac_nf))
  (A3 (S3 (C:=C_Ways) (pv 0) (Ua (Gh A5 A5 Ul) (by ac_nf) (by ac_nf) (by decide) (by decide)) k_Ways.cl k_Ways.n_known (by ac_nf))))))),?_⟩
 walk_at "rd"
 refine E6 hI fun nv hN=>?_
 walk_at "rd"
 refine aa9 hp (by decide) fun H1 e1 h1=>?_
 replace h1:H1 p=some (.ins C_Ways dx [("names",nv)]):=h1
 have fz1:=e1.fzI hp
 walk_at "rd"
 refine E6 (hI.hf_fz fz1) fun nv1 hN1=>?_
 walk_at "rd"
 refine⟨nv1,ns,rfl,hN1,hn,h10,fun bd H2 hb2 e2 h2=>?_⟩
 walk_at "rd"
 refine aa9 (e2 _ _ h1) (by show 1<1000;decide) fun H3 e3 h3=>?_
 rw[fld2] at h3
 have fz3:=e3.fzI (e2 _ _ h1)
 have hbp:bd≠p:=(ne_of_none h1 hb2).symm
 have h3b:H3 bd=some (.dK (a78 ns)):=e3 _ _ hbp h2
 walk_at "rd"
 refine M4 h3 (by rfl) ?_
 walk_at "rd"
 refine⟨v,bd,ns,ps,rfl,hI.hf_fz ((fz1.trans e2.fz).trans fz3),hW,h10,h3b,fun ad H4 ha4 e4 h4=>?_⟩
 walk_at "rd"
 refine aa9 (e4 _ _ h3) (by show 2<1000;decide) fun H5 e5 h5=>?_
 rw[fld3] at h5
 have fz5:=e5.fzI (e4 _ _ h3)
 have hap:ad≠p:=(ne_of_none h3 ha4).symm
 have h5a:H5 ad=some (.dK (ahK ns ps)):=e5 _ _ hap h4
 have h5b:H5 bd=some (.dK (a78 ns)):=e5 _ _ hbp (e4 _ _ h3b)
 walk_at "rd"
 refine M4 h5 (by rfl) ?_
 walk_at "rd"
 refine Z1 h5b ?_
 walk_at "rd"
 refine ad9 h5b fun v6 H6 hv6 e6 h6=>?_
 walk_at "rd"
 have hbs:∀ n∈ns.map (fun x=>((Cq ns x:Nat):Int)),0<=n/\n<=1000000000000:=fun n hn'=>by
  obtain⟨y,hy,rfl⟩:=List.mem_map.mp hn'
  have:=Yr hn h10 hy
  omega
 refine ai9 h6 (e6 _ _ h5b) (ns:=ns.map fun x=>((Cq ns x:Nat):Int)) (by unfold a78;rw[List.map_map,List.map_map];rfl) hbs (by rw[List.length_map];omega) ?_
 have hsum:(ns.map (Cq ns)).sum=C0 ns (fun _=>true):=by
  have:=Iq (fun _=>true) hn
  rwa[show ns.filter (fun _=>true)=ns by simp] at this
 rw[Eb,hsum]
 walk_at "rd"
 have h6p:=e6 _ _ h5
 refine aa9 h6p (by show 3<1000;decide) fun H7 e7 h7=>?_
 rw[fld4] at h7
 have fz7:=e7.fzI h6p
 walk_at "rd"
 refine Xj fun kd H8 hk8 e8 h8=>?_
 walk_at "rd"
 refine Rr [(Sum.inl 0,V.int 1)] h8 rfl (by decide) fun H9 e9 h9=>?_
 walk_at "rd"
 have hkp:p≠kd:=ne_of_none h7 hk8
 have h9p:=e9 _ _ hkp (e8 _ _ h7)
 refine aa9 h9p (by show 4<1000;decide) fun H10 e10 h10'=>?_
 rw[fld5] at h10'
 have fz10:=e10.fzI h9p
 walk_at "rd"
 have hpb:bd≠p:=hbp
 have h7b:=e7 _ _ hbp (e6 _ _ h5b)
 have h7a:=e7 _ _ hap (e6 _ _ h5a)
 have hbk:bd≠kd:=ne_of_none h7b hk8
 have hak:ad≠kd:=ne_of_none h7a hk8
 have hE:ExtBut p H H7:=((((e1.same e2).trans e3).same e4).trans e5 |>.same e6).trans e7
 have hkH:H kd=none:=by
  cases c:H kd with
  | none=>rfl
  | some o=>rw[hE _ _ hkp.symm c] at hk8;cases hk8
 refine k nv bd ad kd [(Sum.inl 0,V.int 1)] H10 hkH ?_ ⟨h10',?_,?_,?_,?_,hbk,hak,Knw.new ns ps⟩
 . exact((hE.same e8).off hkH e9).trans e10
 . exact hN.nm_fz (((((((fz1.trans e2.fz).trans fz3).trans e4.fz).trans fz5).trans e6.fz).trans fz7).trans ((e8.fz.trans (e9.fzD h8)).trans fz10))
 . exact e10 _ _ hbp (e9 _ _ hbk (e8 _ _ h7b))
 . exact e10 _ _ hap (e9 _ _ hak (e8 _ _ h7a))
 exact e10 _ _ hkp.symm h9
theorem G6 {f:Addr}{fd:FuncData}(F:Fun K "free_names" "Ways.free_names" B3 f fd)(T:Ex mg){C_Ways:Addr}(k_Ways:C3 K C_Ways):FnOk P w K mg base CX0 1 f fd ["self","left"] (As C_Ways K):=by
 refine F.ok G8 (fun vs H Q E h=>?_) (fun cdv A outer s H vs Q E hr h=>?_)
 . obtain⟨p,dx,nv,bd,ad,kd,ns,ps,kvs,q,rfl,_⟩:=h
   rfl
 obtain⟨p,dx,nv,bd,ad,kd,ns,ps,kvs,q,rfl,hA,hW,h10,k⟩:=h
 have hu:=C2 hr
 have hq:=C1 hr
 have hn:=hW.nd
 with_reducible refine⟨_,(A3 (Al (Bt ["name"] ["self","left"] [0,1] (by ac_nf) (by ac_nf) (by ac_nf) (An (K:=K) hu (Dy (C:=C_Ways) (pv 0) k_Ways.cl k_Ways.n_names (by ac_nf))) (fun _ _ _ _=>(Ae (i:=0) (by with_unfolding_all (show(["name","self","left"]:List Str).Nodup;decide +kernel)) (by ac_nf) (by eq_refl))) (B7 (by decide)) (fun _ _ _ _=>(Er (PW.pt (O3 (Yg (Af Xy (Am (A6 (K:=K) hu) (Dy (C:=C_Ways) (pv 1) k_Ways.cl k_Ways.n_bits (by ac_nf)) (pv 0) (by ac_rfl)) (pv 2))) (Jf (Gi (Yg (Af Xy (Am (A6 (K:=K) hu) (Dy (C:=C_Ways) (pv 1) k_Ways.cl k_Ways.n_ahead (by ac_nf)) (pv 0) (by ac_rfl)) (pv 2))))))))) (fun _ _ _ _=>(pv 0))))),?_⟩
 walk_at "rd"
 refine M4 hA.ob (by rfl) ?_
 refine Lg hA.nm (fun x=>q x && !(ns.any fun y=>Ab ps y x&&q y)) PyData.str (fun _=>rfl) (by omega) (fun j x H1 R R' hx e1 hR hR'=>?_) (fun l ys H1 hl1 e1 h1 hL1=>?_)
 . have hA1:=hA.same e1
   have hxn:=List.mem_of_getElem? hx
   walk_at "rd"
   refine M4 hA1.ob (by rfl) ?_
   walk_at "rd"
   refine i_ixD hA1.bt (Fd hxn) ?_
   walk_at "rd"
   rw[Yt hn hxn]
   refine a77 (fun hb=>?_) (fun hb=>?_)
   . walk_at "rd"
     refine M4 hA1.ob (by rfl) ?_
     walk_at "rd"
     refine i_ixD hA1.ah (Fd hxn) ?_
     walk_at "rd"
     rw[Us]
     walk_at "rd"
     refine Tz (fun hc=>?_) (fun hc=>?_)
     . walk_at "rd"
       exact hR (by rw[hb,hc];rfl) _ _ (.refl _) Hr
     exact hR' (by rw[hb,hc];rfl) _ (.refl _)
   exact hR' (by rw[hb];rfl) _ (.refl _)
 rw[U1] at hL1
 have:=IsL.str_eq hL1
 subst this
 walk_at "rd"
 exact k l H1 hl1 e1 h1
theorem Hz {f:Addr}{fd:FuncData}(F:Fun K "ways_on" "Ways.ways_on" Bb f fd)(T:Ex mg){C_Ways:Addr}(k_Ways:C3 K C_Ways)(c_Ways_free_names:Mtd P w K mg base 1 C_Ways "free_names" ["self","left"] (As C_Ways K))(n:Nat)(c_Ways_ways_on:Mtd P w K mg base (2+n) C_Ways "ways_on" ["self","left"] (Bp C_Ways K n)):FnOk P w K mg base CX0 (2+n+1) f fd ["self","left"] (Bp C_Ways K (n+1)):=by
 refine F.ok Jc (fun vs H Q E h=>?_) (fun cdv A outer s H vs Q E hr h=>?_)
 . obtain⟨p,dx,nv,bd,ad,kd,ns,ps,kvs,q,rfl,_⟩:=h
   rfl
 obtain⟨p,dx,nv,bd,ad,kd,ns,ps,kvs,q,rfl,hA,hW,h10,hlt,k⟩:=h
 have hu:=C2 hr
 have hq:=C1 hr
 have hn:=hW.nd
 have hkl:=hA.ok.len h10
 have hLn:(ns.filter q).Nodup:=List.Nodup.sublist List.filter_sublist hn
 have hLl:(ns.filter q).length<=ns.length:=List.length_filter_le _ _
 with_reducible refine⟨_,(A1 (Be (Ac (Iy (K:=K) hq) (pv 1) (Dy (C:=C_Ways) (pv 0) k_Ways.cl k_Ways.n_known (by ac_nf)) (by ac_nf)) (A3 (Dj hu (Dy (C:=C_Ways) (pv 0) k_Ways.cl k_Ways.n_known (by ac_nf)) (pv 1) (Aa (E5 (K:=K) (by ac_nf)) (by ac_nf) T.b_sum PyProof.Rows.Boot.«sum» (A0 (Bt ["name"] ["self","left"] [0,1] (by ac_nf) (by ac_nf) (by ac_nf) (An (K:=K) hu (Hv (C:=C_Ways) (pv 0) k_Ways.cl c_Ways_free_names (hr.mono (by omega)) (A0 (pv 1) A2))) (fun _ _ _ _=>(Ae (i:=0) (by with_unfolding_all (show(["name","self","left"]:List Str).Nodup;decide +kernel)) (by ac_nf) (by eq_refl))) (B7 (by decide)) (fun _ _ _ _=>Cp) (fun _ _ _ _=>(Hv (C:=C_Ways) (pv 1) k_Ways.cl c_Ways_ways_on (hr.mono (by omega)) (A0 (Af Dh (pv 2) (Am (A6 (K:=K) hu) (Dy (C:=C_Ways) (pv 1) k_Ways.cl k_Ways.n_bits (by ac_nf)) (pv 0) (by ac_rfl))) A2)))) A2)) (by ac_nf))) Ai)
  (A3 (Al (Am (A6 (K:=K) hu) (Dy (C:=C_Ways) (pv 0) k_Ways.cl k_Ways.n_known (by ac_nf)) (pv 1) (by ac_rfl))))),?_⟩
 walk_at "rd"
 refine M4 hA.ob (by rfl) ?_
 refine Yv hA.kn ?_
 walk_at "rd"
 cases hv:D3 kvs (Sum.inl ((C0 ns q:Nat):Int):Key) with
 | some v=>
   have:=hA.ok.get hv
   subst this
   refine iteF ?_
   walk_at "rd"
   refine M4 hA.ob (by rfl) ?_
   walk_at "rd"
   refine Xg hA.kn hv ?_
   exact k kvs H .refl hA
 | none=>
   have hne:ns.filter q≠[]:=fun e=>by
    have h0:C0 ns q=0:=binM_zero.mpr fun x hx=>by
     cases c:q x with
     | false=>rfl
     | true=>
       have:x∈ns.filter q:=List.mem_filter.mpr ⟨hx,c⟩
       rw[e] at this
       cases this
    rw[h0] at hv
    rw[show((0:Nat):Int)=0 from rfl,hA.ok.2.2] at hv
    cases hv
   refine iteT ?_
   walk_at "rd"
   refine V2 hA.ob (by rfl) ?_
   walk_at "rd"
   refine⟨p,dx,nv,bd,ad,kd,ns,ps,kvs,q,rfl,hA,hW,h10,fun l H1 hl1 e1 h1=>?_⟩
   have hA1:=hA.same e1
   refine Gr (SqL.of h1) ?_
   refine Fi (Bk (xs:=(frF (Ab ps) (ns.filter q)).map V.str)) (fun pl i acc H2=>∃ kvs2,ExtBut kd H1 H2/\WaysAt K C_Ways H2 p dx nv bd ad kd ns ps kvs2/\acc=((frF (Ab ps) (ns.filter q)).take i).map fun x=>V.int ((cnt (Ab ps) (Ak (ns.filter q) x):Nat):Int))
    (fun pl H' hp' e' h'=>⟨kvs,e'.but,hA1.same e',rfl⟩) (fun pl i acc H2 hP=>?_) (fun pl i x acc H2 hpl hx hi hl hpa hP=>?_) (fun pl acc H2 hpl hpa hal hP=>?_)
   . obtain⟨kvs2,e2,_,_⟩:=hP
     exact SqL.of (e2 _ _ (ne_of h1 hA1.kn (by intro z;cases z)) h1)
   . obtain ⟨kvs2,e2,hA2,rfl⟩:=hP
     rw[List.getElem?_map] at hx
     cases hz:(frF (Ab ps) (ns.filter q))[i]? with
     | none=>rw[hz] at hx;cases hx
     | some z=>
       rw[hz] at hx
       cases hx
       have hzf:=List.mem_of_getElem? hz
       have hzL:=(mem_frF.mp hzf).1
       have hzn:=(List.mem_filter.mp hzL).1
       have hqz:=(List.mem_filter.mp hzL).2
       have hsub:=Js hn hzn hqz
       have hlen:=Au hLn hzL
       walk_at "rd"
       refine V2 hA2.ob (by rfl) ?_
       walk_at "rd"
       refine M4 hA2.ob (by rfl) ?_
       walk_at "rd"
       refine i_ixD hA2.bt (Fd hzn) ?_
       walk_at "rd"
       have hval:((C0 ns q:Nat):Int)-((Cq ns z:Nat):Int)=((C0 ns (fun y=>q y && !decide (y=z)):Nat):Int):=by omega
       rw[hval]
       refine⟨p,dx,nv,bd,ad,kd,ns,ps,kvs2,_,rfl,hA2,hW,h10,by rw[Ao];omega,fun kvs3 H3 e3 hA3=>?_⟩
       rw[Ao]
       have hplk:pl≠kd:=ne_of hpa hA2.kn (by intro z;cases z)
       have h3p:=e3 _ _ hplk hpa
       refine Ho (by rw[List.length_map];exact Nat.le_trans (List.length_filter_le _ _) (by omega)) hi hl h3p fun H4 e4 h4=>?_
       refine⟨kvs3,?_,hA3.list e4 h3p,?_⟩
       . exact(e2.trans e3).off hpl e4
       rw[List.take_add_one,hz]
       simp
   obtain⟨kvs2,e2,hA2,rfl⟩:=hP
   rw[List.length_map,List.take_length] at hpa
   have hmm:(frF (Ab ps) (ns.filter q)).map (fun x=>V.int ((cnt (Ab ps) (Ak (ns.filter q) x):Nat):Int))=((frF (Ab ps) (ns.filter q)).map fun x=>((cnt (Ab ps) (Ak (ns.filter q) x):Nat):Int)).map V.int:=by rw[List.map_map];rfl
   rw[hmm] at hpa
   walk_at "rd"
   refine Uh (.inl (SqL.of hpa)) (fun n' hn'=>?_) (by rw[List.length_map];exact Nat.le_trans (List.length_filter_le _ _) (by omega)) ?_
   . obtain⟨y,hy,rfl⟩:=List.mem_map.mp hn'
     have:=Au hLn (mem_frF.mp hy).1
     have:=Jm (b:=Ab ps) (Bc hLn y) (by omega)
     omega
   rw[Eb,<- Mr hLn hne]
   walk_at "rd"
   refine M4 hA2.ob (by rfl) ?_
   walk_at "rd"
   have hkl2:=hA2.ok.len h10
   refine a00 hA2.kn (by omega) fun H3 e3 h3=>?_
   have hA3:=hA2.put e3 h3 (hA2.ok.put q)
   walk_at "rd"
   refine M4 hA3.ob (by rfl) ?_
   walk_at "rd"
   refine Xg hA3.kn (by rw[Lu,if_pos rfl]) ?_
   exact k _ H3 (((e1.but (d:=kd)).trans e2).trans e3) hA3
theorem J7 {f:Addr}{fd:FuncData}(F:Fun K "ways_on" "Ways.ways_on" Bb f fd)(T:Ex mg){C_Ways:Addr}(k_Ways:C3 K C_Ways)(c_Ways_free_names:Mtd P w K mg base 1 C_Ways "free_names" ["self","left"] (As C_Ways K))(hm:aj5 K C_Ways "ways_on" f)(hb:Binds K fd ["self","left"] []):FnOk P w K mg base CX0 13 f fd ["self","left"] (At C_Ways K):=by
 have h:∀ n:Nat,FnOk P w K mg base CX0 (2+n) f fd ["self","left"] (Bp C_Ways K n):=fun n=>by
  induction n with
  | zero=>exact FnOk.void Fg
  | succ n ih=>exact Hz F T k_Ways c_Ways_free_names n ⟨f,fd,ih,hm,hb⟩
 exact h 11
theorem Vu {f:Addr}{fd:FuncData}(F:Fun K "count" "count" Gw f fd)(T:Ex mg){C_Ways:Addr}(k_Ways:C3 K C_Ways)(c_Ways_init:Mkd P w K mg base 3 C_Ways "Ways" ["self","half"] (Bx C_Ways K))(c_Ways_ways_on:Mtd P w K mg base 13 C_Ways "ways_on" ["self","left"] (At C_Ways K)):FnOk P w K mg base CX0 14 f fd ["half"] (Ll K):=by
 refine F.ok sc_count (fun vs H Q E h=>?_) (fun cdv A outer s H vs Q E hr h=>?_)
 . obtain⟨v,ns,ps,rfl,_⟩:=h
   rfl
 obtain⟨v,ns,ps,rfl,hI,hW,h10,k⟩:=h
 have hu:=C2 hr
 have hq:=C1 hr
 with_reducible refine⟨_,(A1 (A7 (i:=1) sc_count.nd (by ac_nf) (by eq_refl) (Sb c_Ways_init (hr.mono (by decide)) (by ac_nf) (A0 (pv 0) A2)))
  (A3 (Al (Hv (C:=C_Ways) (pv 1) k_Ways.cl c_Ways_ways_on (hr.mono (by decide)) (A0 (Dy (C:=C_Ways) (pv 1) k_Ways.cl k_Ways.n_full (by ac_nf)) A2))))),?_⟩
 walk_at "rd"
 refine ak2 fun p dx H1 hp1 e1 h1=>?_
 refine⟨p,v,dx,ns,ps,rfl,h1,hI.hf_fz e1.fz,hW,h10,fun nv bd ad kd kvs H2 hk2 e2 hA=>⟨rfl,?_⟩⟩
 walk_at "rd"
 refine V2 hA.ob (by rfl) ?_
 walk_at "rd"
 refine M4 hA.ob (by rfl) ?_
 walk_at "rd"
 have hfl:ns.filter (fun _=>true)=ns:=by simp
 refine⟨p,dx,nv,bd,ad,kd,ns,ps,kvs,fun _=>true,rfl,hA,hW,h10,by rw[hfl];omega,fun kvs' H3 e3 hA3=>?_⟩
 rw[hfl]
 exact k H3 ((e1.off hp1 e2).off (e1.free hk2) e3)
def D0 (C:Addr)(K:PySem.W.Frag)(n:Nat):Sp:=fun vs H Q _=>∃ p dx nv bd ad kd ns ps kvs q,∃ m:Nat,∃ r:List Str,vs=[.ref p,.int ((C0 ns q:Nat):Int),.int (m:Int)]/\WaysAt K C H p dx nv bd ad kd ns ps kvs/\HalfW ns ps/\ns.length<=10/\(ns.filter q).length<n/\(ext (Ab ps) (ns.filter q).length (ns.filter q))[m]? = some r /\
 ∀ u kvs' H',ExtBut kd H H'->WaysAt K C H' p dx nv bd ad kd ns ps kvs'->Is K H' (nmD r) u->Q u H'
def Eh (C:Addr)(K:PySem.W.Frag):Sp:=D0 C K 11
theorem Gx {C:Addr}{K:PySem.W.Frag}:∀ vs H Q E,¬ D0 C K 0 vs H Q E:=by
 rintro vs H Q E ⟨_,_,_,_,_,_,_,_,_,_,_,_,_,_,_,_,h,_⟩
 exact absurd h (Nat.not_lt_zero _)
def Eo (K:PySem.W.Frag):Sp:=fun vs H Q _=>∃ v ns ps,∃ m:Nat,∃ r:List Str,vs=[v,.int (m:Int)]/\Is K H (hfD ns ps) v/\HalfW ns ps/\ns.length<=10/\(ext (Ab ps) ns.length ns)[m]? = some r/\∀ u H',Same H H'->Is K H' (nmD r) u->Q u H'
theorem Ml {f:Addr}{fd:FuncData}(F:Fun K "order_on" "order_on" Ck f fd)(T:Ex mg){C_Ways:Addr}(k_Ways:C3 K C_Ways)(c_Ways_free_names:Mtd P w K mg base 1 C_Ways "free_names" ["self","left"] (As C_Ways K))(c_Ways_ways_on:Mtd P w K mg base 13 C_Ways "ways_on" ["self","left"] (At C_Ways K))(n:Nat)(c_order_on:Fnd P w K mg base (14+n) "order_on" ["ways","left","number"] (D0 C_Ways K n)):FnOk P w K mg base CX0 (14+n+1) f fd ["ways","left","number"] (D0 C_Ways K (n+1)):=by
 refine F.ok sc_order_on (fun vs H Q E h=>?_) (fun cdv A outer s H vs Q E hr h=>?_)
 . obtain⟨p,dx,nv,bd,ad,kd,ns,ps,kvs,q,m,r,rfl,_⟩:=h
   rfl
 obtain⟨p,dx,nv,bd,ad,kd,ns,ps,kvs,q,m,r,rfl,hA,hW,h10,hlt,hat,k⟩:=h
 have hu:=C2 hr
 have hq:=C1 hr
 have hn0:=hW.nd
 have hLn:(ns.filter q).Nodup:=hn0.filter _
 with_reducible refine⟨_,(A1 (Be (Ac (Bd (K:=K) hq) (pv 1) A5 (Aj _)) (A3 (Al (D8 A2))) Ai)
  (A1 (A7 (i:=3) sc_order_on.nd (by ac_nf) (by eq_refl) (pv 2))
  (A3 (Bv PassesOwn.never (by ac_nf) (An (K:=K) hu (Hv (C:=C_Ways) (pv 0) k_Ways.cl c_Ways_free_names (hr.mono (by omega)) (A0 (pv 1) A2))) (Ae (i:=4) sc_order_on.nd (by ac_nf) (by eq_refl))
  (A1 (A7 (i:=5) sc_order_on.nd (by ac_nf) (by eq_refl) (Af Dh (pv 1) (Am (A6 (K:=K) hu) (Dy (C:=C_Ways) (pv 0) k_Ways.cl k_Ways.n_bits (by ac_nf)) (pv 4) (by ac_rfl))))
  (A1 (Be (Ac Qw (pv 3) (Hv (C:=C_Ways) (pv 0) k_Ways.cl c_Ways_ways_on (hr.mono (by omega)) (A0 (pv 5) A2)) (Aj _)) (A3 (Al (Af (Ah (K:=K)) (D8 (A0 (pv 4) A2)) (B0 c_order_on (hr.mono (by omega)) (by ac_nf) (A0 (pv 0) (A0 (pv 5) (A0 (pv 3) A2))))))) Ai)
  (A3 (A7 (i:=3) sc_order_on.nd (by ac_nf) (by eq_refl) (Af Dh (pv 3) (Hv (C:=C_Ways) (pv 0) k_Ways.cl c_Ways_ways_on (hr.mono (by omega)) (A0 (pv 5) A2))))))))))),?_⟩
 walk_at "rd"
 refine Fr (fun hz=>?_) (fun hz=>?_)
 . have hb0:C0 ns q=0:=by
    injection hz with hz
    omega
   have hnil:ns.filter q=[]:=List.filter_eq_nil_iff.mpr fun x hx=>by rw[binM_zero.mp hb0 x hx];decide
   rw[hnil] at hat
   have hrn:r=[]:=by
    have:=List.mem_of_getElem? hat
    simpa[ext] using this
   subst hrn
   walk_at "rd"
   refine D9 (by decide) fun t1 H1 ht1 e1 h1=>?_
   exact k _ kvs H1 (by walk_at "fr") (hA.same e1) (Gu (ns:=[]) (SqT.of h1))
 have hne:ns.filter q≠[]:=fun e=>hz (by
  have:C0 ns q=0:=binM_zero.mpr fun x hx=>by
   cases c:q x with
   | false=>rfl
   | true=>
     have:x∈ns.filter q:=List.mem_filter.mpr ⟨hx,c⟩
     rw[e] at this
     cases this
  rw[this]
  rfl)
 walk_at "rd"
 refine V2 hA.ob (by rfl) ?_
 walk_at "rd"
 refine⟨p,dx,nv,bd,ad,kd,ns,ps,kvs,q,rfl,hA,hW.c,h10,fun l2 H2 hl2 e2 h2=>?_⟩
 refine Gr (SqL.of h2) ?_
 have hkl:l2≠kd:=Ne.symm (ne_of_none hA.kn hl2)
 refine Dq (Bk (xs:=(frF (Ab ps) (ns.filter q)).map V.str)) (fun i σ H3=>∃ x4 x5 kvs3,σ=[some (.ref p),some (.int ((C0 ns q:Nat):Int)),some (.int (m:Int)),some (.int ((m-(Fo (Ab ps) (ns.filter q) ((frF (Ab ps) (ns.filter q)).take i)).length:Nat):Int)),x4,x5]/\(Fo (Ab ps) (ns.filter q) ((frF (Ab ps) (ns.filter q)).take i)).length<=m/\ExtBut kd H H3/\WaysAt K C_Ways H3 p dx nv bd ad kd ns ps kvs3/\H3 l2=some (.lst ((frF (Ab ps) (ns.filter q)).map V.str)))
  ⟨_,_,kvs,rfl,Nat.zero_le _,by walk_at "fr",hA.same e2,h2⟩ (fun i σ' H' hP=>?_) (fun i x σ' H3 hx hi hP=>?_) (fun σ' H3 hP=>?_)
 . obtain⟨_,_,_,_,_,_,_,h⟩:=hP
   exact SqL.of h
 . obtain ⟨x4,x5,kvs3,rfl,hle,e3,hA3,h3l⟩:=hP
   rw[List.getElem?_map] at hx
   cases hz':(frF (Ab ps) (ns.filter q))[i]? with
   | none=>rw[hz'] at hx;cases hx
   | some z=>
     rw[hz'] at hx
     cases hx
     have hzf:=List.mem_of_getElem? hz'
     have hzL:=(mem_frF.mp hzf).1
     have hzn:=(List.mem_filter.mp hzL).1
     have hqz:=(List.mem_filter.mp hzL).2
     have hsub:=Js hn0 hzn hqz
     have hlen:=Au hLn hzL
     have hfl:=List.length_filter_le q ns
     have hl1:(Ak (ns.filter q) z).length=(ns.filter q).length-1:=by omega
     have hval:((C0 ns q:Nat):Int)-((Cq ns z:Nat):Int)=((C0 ns (fun y=>q y && !decide (y=z)):Nat):Int):=by omega
     have hcl:cnt (Ab ps) (Ak (ns.filter q) z)=(ext (Ab ps) ((ns.filter q).length-1) (Ak (ns.filter q) z)).length:=by
      show(ext (Ab ps) (Ak (ns.filter q) z).length (Ak (ns.filter q) z)).length=_
      rw[hl1]
     have hsn:(Fo (Ab ps) (ns.filter q) ((frF (Ab ps) (ns.filter q)).take (i+1))).length=(Fo (Ab ps) (ns.filter q) ((frF (Ab ps) (ns.filter q)).take i)).length+cnt (Ab ps) (Ak (ns.filter q) z):=by
      rw[List.take_add_one,hz']
      show(Fo (Ab ps) (ns.filter q) ((frF (Ab ps) (ns.filter q)).take i++[z])).length=_
      rw[Sl,List.length_append,List.length_map,hcl]
     walk_at "rd"
     refine M4 hA3.ob (by rfl) ?_
     walk_at "rd"
     refine i_ixD hA3.bt (Fd hzn) ?_
     walk_at "rd"
     rw[hval]
     refine V2 hA3.ob (by rfl) ?_
     walk_at "rd"
     refine⟨p,dx,nv,bd,ad,kd,ns,ps,kvs3,_,rfl,hA3,hW.c,h10,by rw[Ao];omega,fun kvs4 H4 e4 hA4=>?_⟩
     rw[Ao]
     have h4l:=e4 _ _ hkl h3l
     walk_at "rd"
     refine Fr (fun hc=>?_) (fun hc=>?_)
     . obtain⟨r',hr'⟩:∃ r',(ext (Ab ps) ((ns.filter q).length-1) (Ak (ns.filter q) z))[m-(Fo (Ab ps) (ns.filter q) ((frF (Ab ps) (ns.filter q)).take i)).length]? = some r':=⟨_,List.getElem?_eq_getElem (by omega)⟩
       have hrr:=Xa hne hz' hle hr'
       rw[hat] at hrr
       have hrr:=Option.some.inj hrr
       subst hrr
       walk_at "rd"
       refine D9 (A8 (by simp)) fun t5 H5 ht5 e5 h5=>?_
       walk_at "rd"
       refine⟨p,dx,nv,bd,ad,kd,ns,ps,kvs4,_,_,r',rfl,hA4.same e5,hW,h10,by rw[Ao];omega,by rw[Ao,hl1];exact hr',fun u6 kvs6 H6 e6 hA6 hIu=>?_⟩
       obtain⟨ua,rfl,hSu⟩:=hIu.nm
       have hrl:r'.length<=10:=by
        obtain⟨hp,_⟩:=(Dp _ _ _ _ (Bc hLn z) hl1).mp (List.mem_of_getElem? hr')
        have:=hp.length_eq
        omega
       have h6t:H6 t5=some (.tup [V.str z]):=e6 _ _ (fun e=>by subst e;rw[hA4.kn] at ht5;cases ht5) h5
       refine Ni (SqT.of h6t) hSu (A8 (by rw[List.length_map];simp;omega)) fun p7 H7 e7 h7=>?_
       exact k _ kvs6 H7 (by walk_at "fr") (hA6.same e7) (Gu h7)
     walk_at "rd"
     refine V2 hA4.ob (by rfl) ?_
     walk_at "rd"
     refine⟨p,dx,nv,bd,ad,kd,ns,ps,kvs4,_,rfl,hA4,hW.c,h10,by rw[Ao];omega,fun kvs5 H5 e5 hA5=>?_⟩
     rw[Ao]
     walk_at "rd"
     have hst:((m-(Fo (Ab ps) (ns.filter q) ((frF (Ab ps) (ns.filter q)).take i)).length:Nat):Int)-((cnt (Ab ps) (Ak (ns.filter q) z):Nat):Int)=((m-(Fo (Ab ps) (ns.filter q) ((frF (Ab ps) (ns.filter q)).take (i+1))).length:Nat):Int):=by rw[hsn];omega
     refine⟨some (.str z),some (.int ((C0 ns (fun y=>q y && !decide (y=z)):Nat):Int)),kvs5,by rw[<- hst];rfl,by rw[hsn];omega,by walk_at "fr",hA5,e5 _ _ hkl h4l⟩
 obtain⟨x4,x5,kvs3,rfl,hle,e3,hA3,h3l⟩:=hP
 rw[List.length_map,List.take_length,P7 _ hne] at hle
 exact absurd (List.getElem?_eq_some_iff.mp hat).1 (by omega)
theorem O9 {f:Addr}{fd:FuncData}(F:Fun K "order_on" "order_on" Ck f fd)(T:Ex mg){C_Ways:Addr}(k_Ways:C3 K C_Ways)(c_Ways_free_names:Mtd P w K mg base 1 C_Ways "free_names" ["self","left"] (As C_Ways K))(c_Ways_ways_on:Mtd P w K mg base 13 C_Ways "ways_on" ["self","left"] (At C_Ways K))(hm:mg "order_on" = some (.ref f))(hk:PySem.W.keepIn K (.ref f)=true)(hb:Binds K fd ["ways","left","number"] []):FnOk P w K mg base CX0 25 f fd ["ways","left","number"] (Eh C_Ways K):=by
 have h:∀ n:Nat,FnOk P w K mg base CX0 (14+n) f fd ["ways","left","number"] (D0 C_Ways K n):=fun n=>by
  induction n with
  | zero=>exact FnOk.void Gx
  | succ n ih=>exact Ml F T k_Ways c_Ways_free_names c_Ways_ways_on n ⟨f,fd,ih,hm,hk,hb⟩
 exact h 11
local macro_rules | `(tactic| walk_at "rq1") => `(tactic| with_reducible first | refine ad2 ?_ | refine Ys ?_ | refine a62 ?_ | refine Zz ?_)
theorem ap7 {ws:List V}{a:Str}(h:ws.length=[a].length):∃ v,ws=[v]:=by
 match ws,h with
 | [v],_=>exact⟨v,rfl⟩
theorem Jt {f:Addr}{fd:FuncData}(F:Fun K "__init__" "NoPlace.__init__" Br f fd)(T:Ex mg){C_HalfError:Addr}{C_NoPlace:Addr}(x_HalfError:Bm K mg C_HalfError C_HalfError)(x_NoPlace:Dn K mg C_NoPlace C_HalfError):FnOk P w K mg base CX0 1 f fd ["self","number"] (spX C_NoPlace ["number"]):=by
 refine F.ok Jn (fun vs H Q E h=>?_) (fun cdv A outer s H vs Q E hr h=>?_)
 . obtain⟨a,ws,rfl,hl,_⟩:=h
   obtain⟨v,rfl⟩:=ap7 hl
   rfl
 obtain⟨a,ws,rfl,hl,ha,k⟩:=h
 obtain⟨v,rfl⟩:=ap7 hl
 with_reducible refine⟨_,(A3 (Wi (K:=K) (pv 0) (pv 1) (by ac_nf))),?_⟩
 walk_at "rd"
 refine ai6 ha x_NoPlace.xc x_NoPlace.n_number fun dx H1 h1 h2 h3 h4 h5=>?_
 walk_at "rd"
 exact k dx H1 h1 h2 h3 h4 h5
local macro_rules | `(tactic| walk_at "rq1") => L2.mAlts "i_sRaise"
def RefN (H:Hp)(C:Addr)(E:XK):Prop:=∀ a H',Same H H'->ExB false H' a C []->E (.ref a) none H'
theorem RefN.mono {H H':Hp}{C:Addr}{E:XK}(h:RefN H C E)(e:Same H H'):RefN H' C E:=fun a H2 e2 hE=>h a H2 (e.trans e2) hE
def Bu (K:PySem.W.Frag):Sp:=fun vs H Q _=>∃ v u ns ps g,vs=[v,u]/\Is K H (hfD ns ps) v/\Half ns ps/\ThM K H u g/\Oz ns ps g/\∀ H',Same H H'->Q .non H'
def Bo (C:Addr)(K:PySem.W.Frag):Sp:=fun vs H Q E=>∃ v u ns ps g,vs=[v,u]/\Is K H (hfD ns ps) v/\Half ns ps/\ThM K H u g/\(Oz ns ps g->∀ H',Same H H'->Q .non H')/\(¬ Oz ns ps g->RefN H C E)
theorem af6 {K:PySem.W.Frag}{H:Hp}{u:V}{ns r:List Str}{ps:List (Str×Str)}(h:Is K H (nmD r) u)(hH:Half ns ps)(hr:r∈ext (Ab ps) ns.length ns):ThM K H u (.row (r.map V.str))/\Oz ns ps (.row (r.map V.str)):=by
 have hp:=((Dp _ _ _ _ hH.names.1 rfl).mp hr).1
 have hl:=hp.length_eq
 have:=hH.few
 obtain⟨a,rfl,hS⟩:=h.nm
 refine⟨⟨a,rfl,hS,by rw[List.length_map];omega,fun x hx=>?_⟩,r,rfl,hr⟩
 obtain⟨z,hz,rfl⟩:=List.mem_map.mp hx
 exact Lr (Lo (hH.names.2 z (hp.mem_iff.mp hz))).1
theorem Gd {f:Addr}{fd:FuncData}(F:Fun K "refuse_no_order" "refuse_no_order" Aw f fd)(T:Ex mg)(c_is_order:Fnd P w K mg base 1 "is_order" ["half","thing"] (Em K)):FnOk P w K mg base CX0 2 f fd ["half","thing"] (Bu K):=by
 refine F.ok Ds (fun vs H Q E h=>?_) (fun cdv A outer s H vs Q E hr h=>?_)
 . obtain⟨v,u,ns,ps,g,rfl,_⟩:=h
   rfl
 obtain⟨v,u,ns,ps,g,rfl,hI,hH,hg,hO,k⟩:=h
 have hu:=C2 hr
 have hq:=C1 hr
 with_reducible refine⟨_,(A3 (Be (Gi (Ev (B0 c_is_order (hr.mono (by decide)) (by ac_nf) (A0 (pv 0) (A0 (pv 1) A2))))) (A3 Q9) Ai)),?_⟩
 walk_at "rd"
 refine⟨v,u,ns,ps,g,rfl,hI,hH,hg,fun b H1 e1 hb=>?_⟩
 obtain rfl:=hb.mpr hO
 walk_at "rd"
 exact k H1 e1
theorem Fy {f:Addr}{fd:FuncData}(F:Fun K "refuse_no_order" "refuse_no_order" Aw f fd)(T:Ex mg){C_HalfError:Addr}{C_NoName:Addr}{C_NoOrder:Addr}(x_HalfError:Bm K mg C_HalfError C_HalfError)(x_NoName:Dd K mg C_NoName C_HalfError)(x_NoOrder:Do K mg C_NoOrder C_HalfError)(c_is_order:Fnd P w K mg base 1 "is_order" ["half","thing"] (Em K)):FnOk P w K mg base (CX1 P w) 2 f fd ["half","thing"] (Bo C_NoOrder K):=by
 refine F.ok1 Ds (fun vs H Q E h=>?_) (fun cdv A outer s H vs Q E hr h=>?_)
 . obtain⟨v,u,ns,ps,g,rfl,_⟩:=h
   rfl
 obtain⟨v,u,ns,ps,g,rfl,hI,hH,hg,k,kn⟩:=h
 have hu:=C2 hr
 have hq:=C1 hr
 with_reducible refine⟨_,(A3 (Be (Gi (Ev (B0 c_is_order (hr.mono (by decide)) (by ac_nf) (A0 (pv 0) (A0 (pv 1) A2))))) (A3 (Pk (by ac_nf) (Zn x_NoOrder.mk0 (by ac_nf) (A0 Ar A2)))) Ai)),?_⟩
 walk_at "rd"
 refine⟨v,u,ns,ps,g,rfl,hI,hH,hg,fun b H1 e1 hb=>?_⟩
 cases b with
 | true=>
   walk_at "rd"
   exact k (hb.mp rfl) H1 e1
 | false=>
   have kn:=(kn fun h=>by have:=hb.mpr h;cases this).mono e1
   walk_at "rd"
   refine ah7 (by decide) fun a H2 ha2 e2 hE=>?_
   walk_at "rd"
   exact U2 hE x_NoOrder.xc (e1.free ha2) fun H3 kp hE3=>kn a H3 (fun b o q=>kp b o (ne_of_none q ha2) (e2 _ _ q)) hE3
def Dw (K:PySem.W.Frag):Sp:=fun vs H Q _=>∃ v w ns ps,∃ r:List Str,vs=[v,w]/\Is K H (hfD ns ps) v/\Half ns ps/\Is K H (nmD r) w/\r∈ext (Ab ps) ns.length ns/\∀ H',Same H H'->Q (.int ((G3 (Ab ps) ns r:Nat):Int)) H'
theorem Lv {b:Str->Str->Bool}{L:List Str}(hn:L.Nodup):∀ {xs:List Str},(∀ x∈xs,x∈L)->(Fo b L xs).length=(xs.map fun x=>L2.cnt b (Ak L x)).sum
 | [],_=>rfl
 | x :: xs,h=>by
   have ih:=Lv (b:=b) hn (xs:=xs) fun y hy=>h y (by simp[hy])
   have hl:=Au hn (h x (by simp))
   have e:Fo b L (x :: xs)=(ext b (L.length-1) (Ak L x)).map (x :: ·)++Fo b L xs:=by unfold Fo;rw[List.flatMap_cons]
   rw[e,List.length_append,ih,List.length_map,List.map_cons,List.sum_cons,show L2.cnt b (Ak L x)=(ext b (Ak L x).length (Ak L x)).length from rfl,show(Ak L x).length=L.length-1 by omega]
theorem P9 {b:Str->Str->Bool}{L t:List Str}{z:Str}(hn:L.Nodup)(h:z :: t∈ext b L.length L):z∈frF b L/\t∈ext b (Ak L z).length (Ak L z):=by
 cases hl:L.length with
 | zero=>
   rw[hl] at h
   simp[ext] at h
 | succ n=>
   rw[hl] at h
   obtain⟨x,hx,hr⟩:=List.mem_flatMap.mp (show z :: t∈(frF b L).flatMap fun x=>(ext b n (Ak L x)).map (x :: ·) from h)
   obtain⟨t',ht,e⟩:=List.mem_map.mp hr
   cases e
   have hll:=Au hn (mem_frF.mp hx).1
   exact⟨hx,by rw[show(Ak L z).length=n by omega];exact ht⟩
theorem Hl {f:Addr}{fd:FuncData}(F:Fun K "number_of" "number_of" C5 f fd)(T:Ex mg){C_Ways:Addr}(k_Ways:C3 K C_Ways)(c_refuse_no_order:Fnd P w K mg base 2 "refuse_no_order" ["half","thing"] (Bu K))(c_Ways_init:Mkd P w K mg base 3 C_Ways "Ways" ["self","half"] (Bx C_Ways K))(c_Ways_free_names:Mtd P w K mg base 1 C_Ways "free_names" ["self","left"] (As C_Ways K))(c_Ways_ways_on:Mtd P w K mg base 13 C_Ways "ways_on" ["self","left"] (At C_Ways K)):FnOk P w K mg base CX0 14 f fd ["half","order"] (Dw K):=by
 refine F.ok sc_number_of (fun vs H Q E h=>?_) (fun cdv A outer s H vs Q E hr h=>?_)
 . obtain⟨v,w,ns,ps,r,rfl,_⟩:=h
   rfl
 obtain⟨v,w,ns,ps,r,rfl,hI,hH,hR,hmem,k⟩:=h
 have hW:=hH.w
 have h10:=hH.few
 obtain⟨g1,o1⟩:=af6 hR hH hmem
 have hu:=C2 hr
 have hq:=C1 hr
 with_reducible refine⟨_,(A1 (Di (B0 c_refuse_no_order (hr.mono (by decide)) (by ac_nf) (A0 (pv 0) (A0 (pv 1) A2))))
  (A1 (A7 (i:=2) sc_number_of.nd (by ac_nf) (by with_unfolding_all exact Or.inr rfl) (Sb c_Ways_init (hr.mono (by decide)) (by ac_nf) (A0 (pv 0) A2)))
  (A1 (A7 (i:=3) sc_number_of.nd (by ac_nf) (by with_unfolding_all exact Or.inr rfl) (Dy (C:=C_Ways) (pv 2) k_Ways.cl k_Ways.n_full (by ac_nf)))
  (A1 (A7 (i:=4) sc_number_of.nd (by ac_nf) (by eq_refl) A5)
  (A1 (Bv PassesOwn.never (by ac_nf) (An (K:=K) hu (pv 1)) (Ae (i:=5) sc_number_of.nd (by ac_nf) (by eq_refl))
  (A1 (A7 (i:=6) sc_number_of.nd (by ac_nf) (by eq_refl) (Hv (C:=C_Ways) (pv 2) k_Ways.cl c_Ways_free_names (hr.mono (by decide)) (A0 (pv 3) A2)))
  (A1 (A7 (i:=7) sc_number_of.nd (by ac_nf) (by eq_refl) (B1 (Ln (K:=K)) (pv 6) Cg (Ay (Du (K:=K) PySem.F.plainAttrs_list PySem.F.slot_list_index PySem.F.type_list_index (mm L5) (pv 6) (A0 (pv 5) A2)))))
  (A1 (A7 (i:=4) sc_number_of.nd (by ac_nf) (by eq_refl) (Af (Ah (K:=K)) (pv 4) (Aa (E5 (K:=K) (by ac_nf)) (by ac_nf) T.b_sum PyProof.Rows.Boot.«sum» (A0 (Bt ["other"] ["ways","left"] [2,3] (by ac_nf) (by ac_nf) (by ac_nf) (An (K:=K) hu (pv 7)) (fun _ _ _ _=>(Ae (i:=0) (by with_unfolding_all (show(["other","ways","left"]:List Str).Nodup;decide +kernel)) (by ac_nf) (by eq_refl))) (B7 (by decide)) (fun _ _ _ _=>Cp) (fun _ _ _ _=>(Hv (C:=C_Ways) (pv 1) k_Ways.cl c_Ways_ways_on (hr.mono (by decide)) (A0 (Af Dh (pv 2) (Am (A6 (K:=K) hu) (Dy (C:=C_Ways) (pv 1) k_Ways.cl k_Ways.n_bits (by ac_nf)) (pv 0) (by ac_rfl))) A2)))) A2))))
  (A3 (A7 (i:=3) sc_number_of.nd (by ac_nf) (by with_unfolding_all exact Or.inr rfl) (Af Dh (pv 3) (Am (A6 (K:=K) hu) (Dy (C:=C_Ways) (pv 2) k_Ways.cl k_Ways.n_bits (by ac_nf)) (pv 5) (by ac_rfl)))))))))
  (A3 (Al (pv 4)))))))),?_⟩
 walk_at "rd"
 refine⟨v,w,ns,ps,_,rfl,hI,hH,g1,o1,fun H0 e0=>?_⟩
 walk_at "rd"
 refine ak2 fun p dx H1 hp1 e1 h1=>?_
 refine⟨p,v,dx,ns,ps,rfl,h1,hI.hf_fz (e0.trans e1).fz,hW.c,h10,fun nv bd ad kd kvs H2 hk2 e2 hA=>⟨rfl,?_⟩⟩
 walk_at "rd"
 refine M4 hA.ob (by rfl) ?_
 walk_at "rd"
 have e02:Same H H2:=(e0.trans e1).off (e0.free hp1) e2
 have hfl:ns.filter (fun _=>true)=ns:=by simp
 have hk0:H0 kd=none:=e1.free hk2
 refine Kv (hR.nm_fz e02.fz) (fun i σ H3=>∃ x5 x6 x7 kvs3 q,∃ n:Nat,σ=[some v,some w,some (.ref p),some (.int ((C0 ns q:Nat):Int)),some (.int (n:Int)),x5,x6,x7]/\Same H H3/\Fz H2 H3/\WaysAt K C_Ways H3 p dx nv bd ad kd ns ps kvs3/\r.drop i∈ext (Ab ps) (ns.filter q).length (ns.filter q)/\n+G3 (Ab ps) (ns.filter q) (r.drop i)=G3 (Ab ps) ns r)
  ⟨_,_,_,kvs,fun _=>true,0,rfl,e02,.refl _,hA,by rw[hfl];exact hmem,by rw[hfl,List.drop_zero,Nat.zero_add]⟩ (fun i σ' H' hP=>?_) (fun i z σ' H3 hz hP=>?_) (fun σ' H3 hP=>?_)
 . obtain⟨_,_,_,_,_,_,_,_,fz,_⟩:=hP
   exact fz
 . obtain⟨x5,x6,x7,kvs3,q,n,rfl,e3,fz3,hA3,hin,hnum⟩:=hP
   have hLn:(ns.filter q).Nodup:=hW.nd.filter _
   have hd:r.drop i=z :: r.drop (i+1):=by
    have hlt:=(List.getElem?_eq_some_iff.mp hz).1
    rw[List.drop_eq_getElem_cons hlt,(List.getElem?_eq_some_iff.mp hz).2]
   rw[hd] at hin hnum
   obtain⟨hzf,hin'⟩:=P9 hLn hin
   have hzL:=(mem_frF.mp hzf).1
   have hzn:=(List.mem_filter.mp hzL).1
   have hqz:=(List.mem_filter.mp hzL).2
   have hsub:=Js hW.nd hzn hqz
   have hfl2:=List.length_filter_le q ns
   have hfrl:(frF (Ab ps) (ns.filter q)).length<=(ns.filter q).length:=List.length_filter_le _ _
   obtain⟨f1,f2,f3⟩:=Hu hzf
   walk_at "rd"
   refine V2 hA3.ob (by rfl) ?_
   walk_at "rd"
   refine⟨p,dx,nv,bd,ad,kd,ns,ps,kvs3,q,rfl,hA3,hW.c,h10,fun l4 H4 hl4 e4 h4=>?_⟩
   have hA4:=hA3.same e4
   walk_at "rd"
   refine Tv h4 f1 f2 ?_
   walk_at "rd"
   refine J8 (SqL.of h4) fun l5 H5 hl5 e5 h5=>?_
   rw[Cd (by omega),<- List.map_take,Int.toNat_natCast] at h5
   have hA5:=hA4.same e5
   have e35:=e3.trans (e4.trans e5)
   walk_at "rd"
   refine Gr (SqL.of h5) ?_
   refine Fi (Bk (xs:=((frF (Ab ps) (ns.filter q)).take ((frF (Ab ps) (ns.filter q)).idxOf z)).map V.str)) (fun pl j acc H6=>∃ kvs6,ExtBut kd H5 H6/\WaysAt K C_Ways H6 p dx nv bd ad kd ns ps kvs6/\acc=(((frF (Ab ps) (ns.filter q)).take ((frF (Ab ps) (ns.filter q)).idxOf z)).take j).map fun x=>V.int ((cnt (Ab ps) (Ak (ns.filter q) x):Nat):Int))
    (fun pl H' hp' e' h'=>⟨kvs3,e'.but,hA5.same e',rfl⟩) (fun pl j acc H6 hP=>?_) (fun pl j x acc H6 hpl hx hj hl hpa hP=>?_) (fun pl acc H6 hpl hpa hal hP=>?_)
   . obtain⟨kvs6,e6,_,_⟩:=hP
     exact SqL.of (e6 _ _ (ne_of h5 hA5.kn (by intro z;cases z)) h5)
   . obtain ⟨kvs6,e6,hA6,rfl⟩:=hP
     rw[List.getElem?_map] at hx
     cases hy:((frF (Ab ps) (ns.filter q)).take ((frF (Ab ps) (ns.filter q)).idxOf z))[j]? with
     | none=>rw[hy] at hx;cases hx
     | some y=>
       rw[hy] at hx
       cases hx
       have hyf:=List.mem_of_mem_take (List.mem_of_getElem? hy)
       have hyL:=(mem_frF.mp hyf).1
       have hyn:=(List.mem_filter.mp hyL).1
       have hqy:=(List.mem_filter.mp hyL).2
       have hsub2:=Js hW.nd hyn hqy
       have hlen:=Au hLn hyL
       walk_at "rd"
       refine V2 hA6.ob (by rfl) ?_
       walk_at "rd"
       refine M4 hA6.ob (by rfl) ?_
       walk_at "rd"
       refine i_ixD hA6.bt (Fd hyn) ?_
       walk_at "rd"
       have hval:((C0 ns q:Nat):Int)-((Cq ns y:Nat):Int)=((C0 ns (fun x=>q x && !decide (x=y)):Nat):Int):=by omega
       rw[hval]
       refine⟨p,dx,nv,bd,ad,kd,ns,ps,kvs6,_,rfl,hA6,hW.c,h10,by rw[Ao];omega,fun kvs7 H7 e7 hA7=>?_⟩
       rw[Ao]
       have hplk:pl≠kd:=ne_of hpa hA6.kn (by intro z;cases z)
       have h7p:=e7 _ _ hplk hpa
       refine Ho (by rw[List.length_map,List.length_take];omega) hj hl h7p fun H8 e8 h8=>?_
       refine⟨kvs7,(e6.trans e7).off hpl e8,hA7.list e8 h7p,?_⟩
       rw[List.take_add_one,hy]
       simp
   obtain⟨kvs6,e6,hA6,rfl⟩:=hP
   rw[List.length_map,List.take_length] at hpa
   have hmm:((frF (Ab ps) (ns.filter q)).take ((frF (Ab ps) (ns.filter q)).idxOf z)).map (fun x=>V.int ((cnt (Ab ps) (Ak (ns.filter q) x):Nat):Int))=(((frF (Ab ps) (ns.filter q)).take ((frF (Ab ps) (ns.filter q)).idxOf z)).map fun x=>((cnt (Ab ps) (Ak (ns.filter q) x):Nat):Int)).map V.int:=by rw[List.map_map];rfl
   rw[hmm] at hpa
   have hfr:((frF (Ab ps) (ns.filter q)).take ((frF (Ab ps) (ns.filter q)).idxOf z)).length<=10:=by
    rw[List.length_take]
    have:(frF (Ab ps) (ns.filter q)).length<=(ns.filter q).length:=List.length_filter_le _ _
    omega
   walk_at "rd"
   refine Uh (.inl (SqL.of hpa)) (fun n' hn'=>?_) (by rw[List.length_map];omega) ?_
   . obtain⟨y,hy,rfl⟩:=List.mem_map.mp hn'
     have:=Au hLn (mem_frF.mp (List.mem_of_mem_take hy)).1
     have:=Jm (b:=Ab ps) (Bc hLn y) (by omega)
     omega
   rw[Eb,<- Lv hLn fun x hx=>(mem_frF.mp (List.mem_of_mem_take hx)).1]
   walk_at "rd"
   refine M4 hA6.ob (by rfl) ?_
   walk_at "rd"
   refine i_ixD hA6.bt (Fd hzn) ?_
   have hval:((C0 ns q:Nat):Int)-((Cq ns z:Nat):Int)=((C0 ns (fun x=>q x && !decide (x=z)):Nat):Int):=by omega
   walk_at "rd"
   have hkH:H kd=none:=e0.free hk0
   have hst:(n:Int)+(((Fo (Ab ps) (ns.filter q) ((frF (Ab ps) (ns.filter q)).take ((frF (Ab ps) (ns.filter q)).idxOf z))).length:Nat):Int)=(((n+(Fo (Ab ps) (ns.filter q) ((frF (Ab ps) (ns.filter q)).take ((frF (Ab ps) (ns.filter q)).idxOf z))).length):Nat):Int):=by omega
   refine⟨some (.str z),some (.ref l4),some (.ref l5),kvs6,fun x=>q x && !decide (x=z),n+(Fo (Ab ps) (ns.filter q) ((frF (Ab ps) (ns.filter q)).take ((frF (Ab ps) (ns.filter q)).idxOf z))).length,by rw[<- hst,<- hval];rfl,e35.off hkH e6,(fz3.trans (e4.trans e5).fz).trans (Md e6 fun xs h=>by rcases h with h | ⟨o',h⟩<;>(rw[hA5.kn] at h;cases h)),hA6,by rw[Ao];exact hin',?_⟩
   rw[Ao,<- hnum]
   show _=n+((Fo (Ab ps) (ns.filter q) ((frF (Ab ps) (ns.filter q)).take ((frF (Ab ps) (ns.filter q)).idxOf z))).length+G3 (Ab ps) (Ak (ns.filter q) z) (r.drop (i+1)))
   omega
 obtain⟨x5,x6,x7,kvs3,q,n,rfl,e3,fz3,hA3,hin,hnum⟩:=hP
 rw[List.drop_length] at hnum
 have hn0:n=G3 (Ab ps) ns r:=by
  have:G3 (Ab ps) (ns.filter q) []=0:=rfl
  omega
 subst hn0
 walk_at "rd"
 exact k H3 e3
def Ly (K:PySem.W.Frag):Sp:=fun vs H Q _=>∃ v w ns ps,∃ r:List Str,vs=[v,w]/\Is K H (hfD ns ps) v/\Half ns ps/\Is K H (nmD r) w/\r∈ext (Ab ps) ns.length ns/\∀ u H',Same H H'->((G3 (Ab ps) ns r+1=cnt (Ab ps) ns/\u = .non)\/∃ r',(ext (Ab ps) ns.length ns)[G3 (Ab ps) ns r+1]? = some r'/\Is K H' (nmD r') u)->Q u H'
def Y2 (C:Addr)(K:PySem.W.Frag):Sp:=fun vs H _ E=>∃ v u ns ps g,vs=[v,u]/\Is K H (hfD ns ps) v/\Half ns ps/\ThM K H u g/\¬ Oz ns ps g/\RefN H C E
def Dc (C:Addr)(K:PySem.W.Frag):Sp:=fun vs H Q E=>Dw K vs H Q E\/Y2 C K vs H Q E
def E1 (C:Addr)(K:PySem.W.Frag):Sp:=fun vs H Q E=>Ly K vs H Q E\/Y2 C K vs H Q E
def RefP (H:Hp)(C:Addr)(m:Int)(E:XK):Prop:=∀ a H',Same H H'->ExB false H' a C [("number",.int m)]->E (.ref a) none H'
def FarX (C:Addr)(K:PySem.W.Frag):Sp:=fun vs H _ E=>∃ v ns ps,∃ m:Int,vs=[v,.int m]/\Is K H (hfD ns ps) v/\HalfW ns ps/\ns.length<=10/\(m<0\/((cnt (Ab ps) ns:Nat):Int)<=m)/\RefP H C m E
def Dv (C:Addr)(K:PySem.W.Frag):Sp:=fun vs H Q E=>Eo K vs H Q E\/FarX C K vs H Q E
theorem J6 {f:Addr}{fd:FuncData}(F:Fun K "order_of" "order_of" Ct f fd)(T:Ex mg){C_Ways:Addr}(k_Ways:C3 K C_Ways)(c_order_on:Fnd P w K mg base 25 "order_on" ["ways","left","number"] (Eh C_Ways K))(c_Ways_init:Mkd P w K mg base 3 C_Ways "Ways" ["self","half"] (Bx C_Ways K))(c_Ways_ways_on:Mtd P w K mg base 13 C_Ways "ways_on" ["self","left"] (At C_Ways K)):FnOk P w K mg base CX0 26 f fd ["half","number"] (Eo K):=by
 refine F.ok sc_order_of (fun vs H Q E h=>?_) (fun cdv A outer s H vs Q E hr h=>?_)
 . obtain⟨v,ns,ps,m,r,rfl,_⟩:=h
   rfl
 obtain⟨v,ns,ps,m,r,rfl,hI,hW,h10,hat,k⟩:=h
 have hu:=C2 hr
 have hq:=C1 hr
 have hfl:ns.filter (fun _=>true)=ns:=by simp
 have hlt:m<cnt (Ab ps) ns:=(List.getElem?_eq_some_iff.mp hat).1
 with_reducible refine⟨_,(A1 (A7 (i:=2) sc_order_of.nd (by ac_nf) (by eq_refl) (Sb c_Ways_init (hr.mono (by decide)) (by ac_nf) (A0 (pv 0) A2)))
  (A1 (Be (PW.pt (Rb (Ac Qw (pv 1) A5 (Aj _)) (Kp (Ac Zj (pv 1) (Hv (C:=C_Ways) (pv 2) k_Ways.cl c_Ways_ways_on (hr.mono (by decide)) (A0 (Dy (C:=C_Ways) (pv 2) k_Ways.cl k_Ways.n_full (by ac_nf)) A2)) (Aj _))))) (A3 Q9) Ai)
  (A3 (Al (B0 c_order_on (hr.mono (by decide)) (by ac_nf) (A0 (pv 2) (A0 (Dy (C:=C_Ways) (pv 2) k_Ways.cl k_Ways.n_full (by ac_nf)) (A0 (pv 1) A2)))))))),?_⟩
 walk_at "rd"
 refine ak2 fun p dx H1 hp1 e1 h1=>?_
 refine⟨p,v,dx,ns,ps,rfl,h1,hI.hf_fz e1.fz,hW.c,h10,fun nv bd ad kd kvs H2 hk2 e2 hA=>⟨rfl,?_⟩⟩
 walk_at "rd"
 refine Fr (fun hbad=>absurd hbad (by omega)) (fun _=>?_)
 walk_at "rd"
 refine V2 hA.ob (by rfl) ?_
 walk_at "rd"
 refine M4 hA.ob (by rfl) ?_
 walk_at "rd"
 refine⟨p,dx,nv,bd,ad,kd,ns,ps,kvs,fun _=>true,rfl,hA,hW.c,h10,by rw[hfl];omega,fun kvs' H3 e3 hA3=>?_⟩
 rw[hfl]
 walk_at "rd"
 refine Fr (fun hbad=>absurd hbad (by omega)) (fun _=>?_)
 walk_at "rd"
 refine M4 hA3.ob (by rfl) ?_
 walk_at "rd"
 refine⟨p,dx,nv,bd,ad,kd,ns,ps,kvs',fun _=>true,m,r,rfl,hA3,hW,h10,by rw[hfl];omega,by rw[hfl];exact hat,fun u kvs4 H4 e4 hA4 hIu=>?_⟩
 have e13:Same H H3:=(e1.off hp1 e2).off (e1.free hk2) e3
 exact k u H4 (e13.off (e1.free hk2) e4) hIu
theorem Nj {f:Addr}{fd:FuncData}(F:Fun K "order_of" "order_of" Ct f fd)(T:Ex mg){C_Ways:Addr}(k_Ways:C3 K C_Ways){C_HalfError:Addr}{C_NoName:Addr}{C_NoPlace:Addr}(x_HalfError:Bm K mg C_HalfError C_HalfError)(x_NoName:Dd K mg C_NoName C_HalfError)(x_NoPlace:Dn K mg C_NoPlace C_HalfError)(c_order_on:Fnd P w K mg base 25 "order_on" ["ways","left","number"] (Eh C_Ways K))(c_Ways_init:Mkd P w K mg base 3 C_Ways "Ways" ["self","half"] (Bx C_Ways K))(c_Ways_ways_on:Mtd P w K mg base 13 C_Ways "ways_on" ["self","left"] (At C_Ways K))(c_NoPlace_init:Mkx P w K mg base 1 C_NoPlace "NoPlace" ["self","number"] (spX C_NoPlace ["number"])):FnOk P w K mg base (CX1 P w) 26 f fd ["half","number"] (Dv C_NoPlace K):=by
 refine FnOk.or (FnOk.up (J6 F T k_Ways c_order_on c_Ways_init c_Ways_ways_on)) ?_
 refine F.ok1 sc_order_of (fun vs H Q E h=>?_) (fun cdv A outer s H vs Q E hr h=>?_)
 . obtain⟨v,ns,ps,m,rfl,_⟩:=h
   rfl
 obtain⟨v,ns,ps,m,rfl,hI,hW,h10,hfar,kn⟩:=h
 have hu:=C2 hr
 have hq:=C1 hr
 have hfl:ns.filter (fun _=>true)=ns:=by simp
 have fin:∀ a H3 H4,Same H H3->H3 a=none->Same H3 H4->ExA H4 a C_NoPlace ((["number"]:List Str).zip [V.int m])->Q7 K H E (.ref a) H4:=fun a H3 H4 e3 ha4 e4 hE=>U2 hE x_NoPlace.xc (e3.free ha4) fun H5 kp hE5=>kn a H5 (fun b o q=>kp b o (ne_of_none (e3 _ _ q) ha4) (e4 _ _ (e3 _ _ q))) hE5
 with_reducible refine⟨_,(A1 (A7 (i:=2) sc_order_of.nd (by ac_nf) (by eq_refl) (Sb c_Ways_init (hr.mono (by decide)) (by ac_nf) (A0 (pv 0) A2)))
  (A1 (Be (PW.pt (Rb (Ac Qw (pv 1) A5 (Aj _)) (Kp (Ac Zj (pv 1) (Hv (C:=C_Ways) (pv 2) k_Ways.cl c_Ways_ways_on (hr.mono (by decide)) (A0 (Dy (C:=C_Ways) (pv 2) k_Ways.cl k_Ways.n_full (by ac_nf)) A2)) (Aj _))))) (A3 (Pk (by ac_nf) (ah0 c_NoPlace_init (hr.mono (by decide)) (by ac_nf) (A0 (pv 1) A2)))) Ai)
  (A3 (Al (B0 c_order_on (hr.mono (by decide)) (by ac_nf) (A0 (pv 2) (A0 (Dy (C:=C_Ways) (pv 2) k_Ways.cl k_Ways.n_full (by ac_nf)) (A0 (pv 1) A2)))))))),?_⟩
 walk_at "rd"
 refine ak2 fun p dx H1 hp1 e1 h1=>?_
 refine⟨p,v,dx,ns,ps,rfl,h1,hI.hf_fz e1.fz,hW.c,h10,fun nv bd ad kd kvs H2 hk2 e2 hA=>⟨rfl,?_⟩⟩
 have e02:Same H H2:=e1.off hp1 e2
 walk_at "rd"
 refine Fr (fun hlt=>?_) (fun hge=>?_)
 . walk_at "rd"
   refine af0 (by rfl) (by decide) fun a H4 ha4 e4 hE=>?_
   walk_at "rd"
   exact fin a _ _ e02 ha4 e4 hE
 walk_at "rd"
 refine V2 hA.ob (by rfl) ?_
 walk_at "rd"
 refine M4 hA.ob (by rfl) ?_
 walk_at "rd"
 refine⟨p,dx,nv,bd,ad,kd,ns,ps,kvs,fun _=>true,rfl,hA,hW.c,h10,by rw[hfl];omega,fun kvs' H3 e3 hA3=>?_⟩
 rw[hfl]
 have e03:Same H H3:=e02.off (e1.free hk2) e3
 walk_at "rd"
 refine Fr (fun _=>?_) (fun hbad=>absurd (by omega) hbad)
 walk_at "rd"
 refine af0 (by rfl) (by decide) fun a H4 ha4 e4 hE=>?_
 walk_at "rd"
 exact fin a _ _ e03 ha4 e4 hE
theorem Vc {C:Addr}:∀ vs H Q E,Bu K vs H Q E->Bo C K vs H Q E0:=fun vs H Q E h=>by
 obtain⟨v,u,ns,ps,g,h1,h2,h3,h4,h5,h6⟩:=h
 exact⟨v,u,ns,ps,g,h1,h2,h3,h4,fun _=>h6,fun hn=>absurd h5 hn⟩
theorem M1 {f:Addr}{fd:FuncData}(F:Fun K "number_of" "number_of" C5 f fd)(T:Ex mg){C_Ways:Addr}(k_Ways:C3 K C_Ways){C_HalfError:Addr}{C_NoName:Addr}{C_NoOrder:Addr}(x_HalfError:Bm K mg C_HalfError C_HalfError)(x_NoName:Dd K mg C_NoName C_HalfError)(x_NoOrder:Do K mg C_NoOrder C_HalfError)(c_Ways_init:Mkd P w K mg base 3 C_Ways "Ways" ["self","half"] (Bx C_Ways K))(c_Ways_free_names:Mtd P w K mg base 1 C_Ways "free_names" ["self","left"] (As C_Ways K))(c_Ways_ways_on:Mtd P w K mg base 13 C_Ways "ways_on" ["self","left"] (At C_Ways K))(d_refuse_no_order:Fnd1 P w K mg base 2 "refuse_no_order" ["half","thing"] (Bo C_NoOrder K)):FnOk P w K mg base (CX1 P w) 14 f fd ["half","order"] (Dc C_NoOrder K):=by
 refine FnOk.or (FnOk.up (Hl F T k_Ways (d_refuse_no_order.down Vc) c_Ways_init c_Ways_free_names c_Ways_ways_on)) ?_
 refine F.ok1 sc_number_of (fun vs H Q E h=>?_) (fun cdv A outer s H vs Q E hr h=>?_)
 . obtain⟨v,u,ns,ps,g,rfl,_⟩:=h
   rfl
 obtain⟨v,u,ns,ps,g,rfl,hI,hH,hg,hno,kn⟩:=h
 have hu:=C2 hr
 have hq:=C1 hr
 with_reducible refine⟨_,(A1 (Di (Kr d_refuse_no_order (hr.mono (by decide)) (by ac_nf) Ue (A0 (pv 0) (A0 (pv 1) A2))))
  (A1 (A7 (i:=2) sc_number_of.nd (by ac_nf) (by with_unfolding_all exact Or.inr rfl) (Sb c_Ways_init (hr.mono (by decide)) (by ac_nf) (A0 (pv 0) A2)))
  (A1 (A7 (i:=3) sc_number_of.nd (by ac_nf) (by with_unfolding_all exact Or.inr rfl) (Dy (C:=C_Ways) (pv 2) k_Ways.cl k_Ways.n_full (by ac_nf)))
  (A1 (A7 (i:=4) sc_number_of.nd (by ac_nf) (by eq_refl) A5)
  (A1 (Bv PassesOwn.leaving (by ac_nf) (An (K:=K) hu (pv 1)) (Ae (i:=5) sc_number_of.nd (by ac_nf) (by eq_refl))
  (A1 (A7 (i:=6) sc_number_of.nd (by ac_nf) (by eq_refl) (Hv (C:=C_Ways) (pv 2) k_Ways.cl c_Ways_free_names (hr.mono (by decide)) (A0 (pv 3) A2)))
  (A1 (A7 (i:=7) sc_number_of.nd (by ac_nf) (by eq_refl) (B1 (Ln (K:=K)) (pv 6) Cg (Ay (Du (K:=K) PySem.F.plainAttrs_list PySem.F.slot_list_index PySem.F.type_list_index (mm L5) (pv 6) (A0 (pv 5) A2)))))
  (A1 (A7 (i:=4) sc_number_of.nd (by ac_nf) (by eq_refl) (Af (Ah (K:=K)) (pv 4) (Aa (E5 (K:=K) (by ac_nf)) (by ac_nf) T.b_sum PyProof.Rows.Boot.«sum» (A0 (Bt ["other"] ["ways","left"] [2,3] (by ac_nf) (by ac_nf) (by ac_nf) (An (K:=K) hu (pv 7)) (fun _ _ _ _=>(Ae (i:=0) (by with_unfolding_all (show(["other","ways","left"]:List Str).Nodup;decide +kernel)) (by ac_nf) (by eq_refl))) (B7 (by decide)) (fun _ _ _ _=>Cp) (fun _ _ _ _=>(Hv (C:=C_Ways) (pv 1) k_Ways.cl c_Ways_ways_on (hr.mono (by decide)) (A0 (Af Dh (pv 2) (Am (A6 (K:=K) hu) (Dy (C:=C_Ways) (pv 1) k_Ways.cl k_Ways.n_bits (by ac_nf)) (pv 0) (by ac_rfl))) A2)))) A2))))
  (A3 (A7 (i:=3) sc_number_of.nd (by ac_nf) (by with_unfolding_all exact Or.inr rfl) (Af Dh (pv 3) (Am (A6 (K:=K) hu) (Dy (C:=C_Ways) (pv 2) k_Ways.cl k_Ways.n_bits (by ac_nf)) (pv 5) (by ac_rfl)))))))))
  (A3 (Al (pv 4)))))))),?_⟩
 walk_at "rd"
 exact⟨v,u,ns,ps,g,rfl,hI,hH,hg,fun h=>absurd h hno,fun _=>kn⟩
theorem K5 {f:Addr}{fd:FuncData}(F:Fun K "next_order" "next_order" C9 f fd)(T:Ex mg){C_HalfError:Addr}{C_NoName:Addr}{C_NoPlace:Addr}{C_NoOrder:Addr}(x_HalfError:Bm K mg C_HalfError C_HalfError)(x_NoName:Dd K mg C_NoName C_HalfError)(x_NoPlace:Dn K mg C_NoPlace C_HalfError)(x_NoOrder:Do K mg C_NoOrder C_HalfError)(c_count:Fnd P w K mg base 14 "count" ["half"] (Ll K))(d_order_of:Fnd1 P w K mg base 26 "order_of" ["half","number"] (Dv C_NoPlace K))(d_number_of:Fnd1 P w K mg base 14 "number_of" ["half","order"] (Dc C_NoOrder K)):FnOk P w K mg base (CX1 P w) 27 f fd ["half","order"] (E1 C_NoOrder K):=by
 refine F.ok1 sc_next_order (fun vs H Q E h=>?_) (fun cdv A outer s H vs Q E hr h=>?_)
 . rcases h with ⟨v,w,ns,ps,r,rfl,_⟩ | ⟨v,u,ns,ps,g,rfl,_⟩
   . rfl
   rfl
 have hu:=C2 hr
 have hq:=C1 hr
 with_reducible refine⟨_,(A1 (A7 (i:=2) sc_next_order.nd (by ac_nf) (by eq_refl) (Af (Ah (K:=K)) (Kr d_number_of (hr.mono (by decide)) (by ac_nf) Ue (A0 (pv 0) (A0 (pv 1) A2))) A5))
  (A1 (Be (Ac (Bd (K:=K) hq) (pv 2) (B0 c_count (hr.mono (by decide)) (by ac_nf) (A0 (pv 0) A2)) (Aj _)) (A3 (Al X5)) Ai)
  (A3 (Al (Kr d_order_of (hr.mono (by decide)) (by ac_nf) Ue (A0 (pv 0) (A0 (pv 2) A2))))))),?_⟩
 rcases h with ⟨v,w,ns,ps,r,rfl,hI,hH,hR,hmem,k⟩ | ⟨v,u,ns,ps,g,rfl,hI,hH,hg,hno,kn⟩
 . have hW:=hH.w
   have h10:=hH.few
   obtain⟨hat,hlt⟩:=On (b:=Ab ps) _ ns r hW.nd rfl hmem
   have hlt':G3 (Ab ps) ns r<cnt (Ab ps) ns:=hlt
   walk_at "rd"
   refine .inl ⟨v,w,ns,ps,r,rfl,hI,hH,hR,hmem,fun H1 e1=>?_⟩
   walk_at "rd"
   refine⟨v,ns,ps,rfl,hI.hf_fz e1.fz,hW.c,h10,fun H2 e2=>?_⟩
   walk_at "rd"
   refine Fr (fun hc=>?_) (fun hc=>?_)
   . have hc':G3 (Ab ps) ns r+1=cnt (Ab ps) ns:=by
      injection hc with hc
      omega
     walk_at "rd"
     exact k _ H2 (e1.trans e2) (.inl ⟨hc',rfl⟩)
   have hne:G3 (Ab ps) ns r+1≠cnt (Ab ps) ns:=fun e=>hc (by rw[<- e];rfl)
   obtain⟨r',hr'⟩:∃ r',(ext (Ab ps) ns.length ns)[G3 (Ab ps) ns r+1]? = some r':=⟨_,List.getElem?_eq_getElem (show _<cnt (Ab ps) ns by omega)⟩
   walk_at "rd"
   refine .inl ⟨v,ns,ps,G3 (Ab ps) ns r+1,r',rfl,hI.hf_fz (e1.trans e2).fz,hW,h10,hr',fun u H3 e3 hIu=>?_⟩
   exact k u H3 ((e1.trans e2).trans e3) (.inr ⟨r',hr',hIu⟩)
 walk_at "rd"
 exact .inr ⟨v,u,ns,ps,g,rfl,hI,hH,hg,hno,kn⟩
def E2 (K:PySem.W.Frag):Sp:=fun vs H Q _=>∃ v u r w as ns ps ms kvs row,vs=[v,.ref r,.ref w,u]/\Is K H (hfD ns ps) v/\Half ns ps/\TabL K H r ns as (Way ps)/\ms.Perm ns/\sortedS ms=true/\H w=some (.dT kvs)/\a47 (Ab ps) ns ms kvs/\Is K H (nmD row) u/\row∈ext (Ab ps) ns.length ns/\∀ H',Same H H'->Q (.int ((G3 (Ab ps) ns row:Nat):Int)) H'
theorem K4 {f:Addr}{fd:FuncData}(F:Fun K "_law_number" "_law_number" By f fd)(T:Ex mg)(c__law_next_ones:Fnd P w K mg base 1 "_law_next_ones" ["_law_half_here","_law_over_here","_law_begun"] (Bl K)):FnOk P w K mg base CX0 2 f fd ["_law_half_here","_law_over_here","_law_ways_here","_law_order"] (E2 K):=by
 refine F.ok sc__law_number (fun vs H Q E h=>?_) (fun cdv A outer s H vs Q E hr h=>?_)
 . obtain⟨v,u,r,w,as,ns,ps,ms,kvs,row,rfl,_⟩:=h
   rfl
 obtain⟨v,u,r,w,as,ns,ps,ms,kvs,row,rfl,hI,hH,hT,hpm,hsm,hD,hok,hR,hmem,k⟩:=h
 have hu:=C2 hr
 have hq:=C1 hr
 have hfew:=hH.few
 have hW:=hH.w
 have hmn:ms.Nodup:=hpm.nodup_iff.mpr hW.nd
 have hml:=hpm.length_eq
 obtain⟨hp,_⟩:=(Dp _ _ _ _ hW.nd rfl).mp hmem
 have hrl:=hp.length_eq
 obtain⟨ua,rfl,hSu⟩:=hR.nm
 have hfl:ns.filter (fun _=>true)=ns:=by simp
 with_reducible refine⟨_,(A1 (A7 (i:=4) sc__law_number.nd (by ac_nf) (by eq_refl) A5)
  (A1 (Bv PassesOwn.never (by ac_nf) (Cc (by ac_nf) T.b_range (A0 (Aa (Av (K:=K)) (by ac_nf) T.b_len PyProof.Rows.Boot.«len» (A0 (pv 3) A2)) A2)) (Ae (i:=5) sc__law_number.nd (by ac_nf) (by with_unfolding_all exact Or.inr rfl))
  (A1 (A7 (i:=6) sc__law_number.nd (by ac_nf) (by eq_refl) (B0 c__law_next_ones (hr.mono (by decide)) (by ac_nf) (A0 (pv 0) (A0 (pv 1) (A0 (B1 (Ln (K:=K)) (pv 3) Cg (Ay (pv 5))) A2)))))
  (A1 (A7 (i:=7) sc__law_number.nd (by ac_nf) (by eq_refl) (B1 (Ln (K:=K)) (pv 6) Cg (Ay (Du (K:=K) PySem.F.plainAttrs_list PySem.F.slot_list_index PySem.F.type_list_index (mm L5) (pv 6) (A0 (Am (A6 (K:=K) hu) (pv 3) (pv 5) (by ac_rfl)) A2)))))
  (A3 (A7 (i:=4) sc__law_number.nd (by ac_nf) (by eq_refl) (Af (Ah (K:=K)) (pv 4) (Aa (E5 (K:=K) (by ac_nf)) (by ac_nf) T.b_sum PyProof.Rows.Boot.«sum» (A0 (Bt ["_law_name"] ["_law_ways_here","_law_order","_law_k"] [2,3,5] (by ac_nf) (by ac_nf) (by ac_nf) (An (K:=K) hu (pv 7)) (fun _ _ _ _=>(Ae (i:=0) (by with_unfolding_all (show(["_law_name","_law_ways_here","_law_order","_law_k"]:List Str).Nodup;decide +kernel)) (by ac_nf) (by eq_refl))) (B7 (by decide)) (fun _ _ _ _=>Cp) (fun _ _ _ _=>(Am (A6 (K:=K) hu) (pv 1) (B9 (C6 (K:=K)) (by ac_nf) T.b_tuple PyProof.Rows.Boot.«tuple» (A0 (Aa (Cw (K:=K)) (by ac_nf) T.b_sorted PyProof.Rows.Boot.«sorted» (A0 (Af (Ah (K:=K)) (B1 (Ln (K:=K)) (pv 2) Cg (Ay (pv 3))) (D8 (A0 (pv 0) A2))) A2)) A2)) (by ac_rfl)))) A2))))))))
  (A3 (Al (pv 4))))),?_⟩
 walk_at "rd"
 refine O0 hR ?_
 walk_at "rd"
 refine G7 (by omega) ?_
 refine Dq Bq (fun i σ H3=>∃ x5 x6 x7 e,∃ n:Nat,σ=[some v,some (.ref r),some (.ref w),some (.ref ua),some (.int (n:Int)),x5,x6,x7]/\Same H H3/\Rch (Ab ps) ns e/\(row.take i).Perm (ms.filter fun x=>!e x)/\row.drop i∈ext (Ab ps) (ns.filter e).length (ns.filter e)/\n+G3 (Ab ps) (ns.filter e) (row.drop i)=G3 (Ab ps) ns row)
  ⟨_,_,_,fun _=>true,0,rfl,.refl _,.all,by simp,by rw[hfl];exact hmem,by rw[hfl,List.drop_zero,Nat.zero_add]⟩ (fun _ _ _ _=>trivial) (fun i x σ' H3 hx hi hP=>?_) (fun σ' H3 hP=>?_)
 . obtain⟨x5,x6,x7,e,n,rfl,e3,hrc,htk,hin,hnum⟩:=hP
   obtain⟨rfl,hi2⟩:=Ek hx
   have hi3:i<row.length:=by simpa using hi2
   have hLn:(ns.filter e).Nodup:=hW.nd.filter _
   have hfl2:=List.length_filter_le e ns
   have hfrl:(frF (Ab ps) (ns.filter e)).length<=(ns.filter e).length:=List.length_filter_le _ _
   have hz:row[i]? = some row[i]:=List.getElem?_eq_getElem hi3
   have hd:row.drop i=row[i] :: row.drop (i+1):=List.drop_eq_getElem_cons hi3
   rw[hd] at hin hnum
   obtain⟨hzf,hin'⟩:=P9 hLn hin
   have hzL:=(mem_frF.mp hzf).1
   have hlf:D5 ns (row.take i)=ns.filter e:=by
    rw[<- G0 hpm]
    unfold D5
    apply List.filter_congr
    intro y _
    rw[decide_eq_decide.mpr htk.mem_iff]
   obtain⟨f1,f2,f3⟩:=Hu hzf
   have hS3:=e3.seqT hSu
   obtain⟨z',hz1,hz2,_⟩:=str_at? (ls:=row) (i:=0+(i:Int)) (by omega) (by omega)
   have hzz:z'=row[i]:=by
    rw[show(0+(i:Int)).toNat=i by omega,hz] at hz1
    exact(Option.some.inj hz1).symm
   subst hzz
   walk_at "rd"
   refine a51 hS3 fun t4 H4 e4 h4=>?_
   rw[Cd (by omega),<- List.map_take,show(0+(i:Int)).toNat=i by omega] at h4
   walk_at "rd"
   refine⟨v,.ref t4,r,as,ns,ps,row.take i,rfl,hI.hf_fz (e3.trans e4).fz,hT.same (e3.trans e4),Gu h4,hW.nd,hfew,hH.ok4,fun l5 H5 hl5 e5 h5=>?_⟩
   rw[hlf] at h5
   have e35:=e4.trans e5
   walk_at "rd"
   refine R5 (e35.seqT hS3) hz2 ?_
   walk_at "rd"
   refine Tv h5 f1 f2 ?_
   walk_at "rd"
   refine J8 (SqL.of h5) fun l6 H6 hl6 e6 h6=>?_
   rw[Cd (by omega),<- List.map_take,Int.toNat_natCast] at h6
   have e36:=e35.trans e6
   walk_at "rd"
   refine Il (SqL.of h6) (fun _=>true) (fun y=>.int ((cnt (Ab ps) (Ak (ns.filter e) y):Nat):Int)) (fun _=>by simp only[frz]) (by rw[List.length_take];omega) (fun j y H7 R R' hy e7 hR1 hR'=>?_) (fun q7 y7 H7 hq7 e7 h7 hL7=>?_)
   . have hyf:=List.mem_of_mem_take (List.mem_of_getElem? hy)
     have hyL:=(mem_frF.mp hyf).1
     have hym:y∈ms.filter e:=List.mem_filter.mpr ⟨hpm.mem_iff.mpr (List.mem_filter.mp hyL).1,(List.mem_filter.mp hyL).2⟩
     have e37:=e36.trans e7
     walk_at "rd"
     refine a51 (e37.seqT hS3) fun t8 H8 e8 h8=>?_
     rw[Cd (by omega),<- List.map_take,show(0+(i:Int)).toNat=i by omega] at h8
     walk_at "rd"
     refine D9 (A8 (by simp)) fun t9 H9 ht9 e9 h9=>?_
     refine Ni (e9.seqT h8) (SqT.of h9) (A8 (by rw[List.length_map,List.length_take];simp;omega)) fun p10 H10 e10 h10=>?_
     have h10':SqT K H10 p10 ((row.take i++[y]).map V.str):=by rw[List.map_append];exact h10
     walk_at "rd"
     refine Gm (.inr h10') (by rw[List.length_append,List.length_take,List.length_singleton];omega) fun q11 out H11 hq11 e11 h11 hp11 hs11=>?_
     have hout:=Fx hsm hmn hym (hp11.trans (htk.append_right _)) hs11
     subst hout
     walk_at "rd"
     refine Ea (SqL.of h11) fun t12 H12 ht12 e12 h12=>?_
     have e712:=(((e8.trans e9).trans e10).trans e11).trans e12
     have h12k:H12 t12=some (.tup ((Cy ms (fun x=>e x && !decide (x=y))).map kV)):=by rw[Fp];exact h12
     walk_at "rd"
     refine Tw (.inl ((e3.trans (e37.trans e712)) _ _ hD)) h12k (hok _ (hrc.less hyf)) ?_
     rw[Ao]
     exact hR1 rfl _ _ e712 N0
   have hft:((frF (Ab ps) (ns.filter e)).take ((frF (Ab ps) (ns.filter e)).idxOf row[i])).filter (fun _=>true)=(frF (Ab ps) (ns.filter e)).take ((frF (Ab ps) (ns.filter e)).idxOf row[i]):=by simp
   rw[hft] at hL7
   have hL7':IsL K H7 ((((frF (Ab ps) (ns.filter e)).take ((frF (Ab ps) (ns.filter e)).idxOf row[i])).map fun y=>((cnt (Ab ps) (Ak (ns.filter e) y):Nat):Int)).map PyData.int) y7:=by rw[List.map_map];exact hL7
   have hy7:=IsL.int_eq hL7'
   subst hy7
   walk_at "rd"
   refine Uh (.inl (SqL.of h7)) (fun n' hn'=>?_) (by rw[List.length_map,List.length_take];omega) ?_
   . obtain⟨y,hy,rfl⟩:=List.mem_map.mp hn'
     have:=Au hLn (mem_frF.mp (List.mem_of_mem_take hy)).1
     have:=Jm (b:=Ab ps) (Bc hLn y) (by omega)
     omega
   rw[Eb,<- Lv hLn fun x hx=>(mem_frF.mp (List.mem_of_mem_take hx)).1]
   walk_at "rd"
   have hst:(n:Int)+(((Fo (Ab ps) (ns.filter e) ((frF (Ab ps) (ns.filter e)).take ((frF (Ab ps) (ns.filter e)).idxOf row[i]))).length:Nat):Int)=(((n+(Fo (Ab ps) (ns.filter e) ((frF (Ab ps) (ns.filter e)).take ((frF (Ab ps) (ns.filter e)).idxOf row[i]))).length):Nat):Int):=by omega
   have hzm:row[i]∈ms.filter e:=List.mem_filter.mpr ⟨hpm.mem_iff.mpr (List.mem_filter.mp hzL).1,(List.mem_filter.mp hzL).2⟩
   refine⟨some (.int (0+(i:Int))),some (.ref l5),some (.ref l6),fun x=>e x && !decide (x=row[i]),n+(Fo (Ab ps) (ns.filter e) ((frF (Ab ps) (ns.filter e)).take ((frF (Ab ps) (ns.filter e)).idxOf row[i]))).length,by rw[<- hst];rfl,e3.trans (e36.trans e7),hrc.less hzf,?_,by rw[Ao];exact hin',?_⟩
   . rw[List.take_add_one,hz]
     exact Rg (ns:=ns) htk hmn hzm
   rw[Ao,<- hnum]
   show _=n+((Fo (Ab ps) (ns.filter e) ((frF (Ab ps) (ns.filter e)).take ((frF (Ab ps) (ns.filter e)).idxOf row[i]))).length+G3 (Ab ps) (Ak (ns.filter e) row[i]) (row.drop (i+1)))
   omega
 obtain⟨x5,x6,x7,e,n,rfl,e3,hrc,htk,hin,hnum⟩:=hP
 rw[List.length_map,List.length_range] at hnum
 rw[show((row.length:Nat):Int).toNat=row.length by omega,List.drop_length] at hnum
 have hn0:n=G3 (Ab ps) ns row:=by
  have:G3 (Ab ps) (ns.filter e) []=0:=rfl
  omega
 subst hn0
 walk_at "rd"
 exact k H3 e3
def Fa (K:PySem.W.Frag):Sp:=fun vs H Q _=>∃ v r as ns ps ms,vs=[v,.ref r]/\Is K H (hfD ns ps) v/\Half ns ps/\TabL K H r ns as (Way ps)/\ms.Perm ns/\sortedS ms=true/\∀ w kvs H',H w=none->Same H H'->H' w=some (.dT kvs)->a47 (Ab ps) ns ms kvs->Q (.ref w) H'
def LvS (H:Hp)(b:Str->Str->Bool)(ns ms:List Str)(pv:Addr)(n:Nat):Prop:=∃(las:List Addr) (levs:List (List (Str->Bool))),H pv=some (.lst (las.map V.ref))/\las.length=n/\levs.length=n/\pv∉las/\Lvs b ns ms levs/\∀(j:Nat) la es,las[j]? = some la->levs[j]? = some es->LvA H ms la es
theorem Xi {ns ms:List Str}(hpm:ms.Perm ns){p q:Str->Bool}(h:Cy ms p=Cy ms q):ns.filter p=ns.filter q:=by
 have hse:=Lc h
 apply List.filter_congr
 intro y hy
 have hm:y∈ms.filter p↔y∈ms.filter q:=by rw[hse]
 rw[List.mem_filter,List.mem_filter] at hm
 have hym:=hpm.mem_iff.mpr hy
 cases c1:p y<;>cases c2:q y<;>simp_all
theorem Yc {α:Type}{K:PySem.W.Frag}{H:Hp}{f:α->PyData}:∀ {as:List α} {vs:List V},as.length=vs.length->(∀(i:Nat) a v,as[i]? = some a->vs[i]? = some v->Is K H (f a) v)->IsL K H (as.map f) vs
 | [],[],_,_=>.nil
 | [],_ :: _,h,_=>by simp at h
 | _ :: _,[],h,_=>by simp at h
 | a :: as,v :: vs,h,g=>.cons (g 0 a v rfl rfl) (Yc (by simpa using h) fun i a' v' h1 h2=>g (i+1) a' v' (by simpa using h1) (by simpa using h2))
theorem Oq (rs:List (List Str)):PyData.eqv (.list (rs.map nmD)) (.list [])=rs.isEmpty:=by
 cases rs<;>simp[PyData.eqv,PyData.eqvAll]
theorem N2 {f:Addr}{fd:FuncData}(F:Fun K "_law_ways" "_law_ways" Cn f fd)(T:Ex mg)(c__law_next_ones:Fnd P w K mg base 1 "_law_next_ones" ["_law_half_here","_law_over_here","_law_begun"] (Bl K)):FnOk P w K mg base CX0 2 f fd ["_law_half_here","_law_over_here"] (Fa K):=by
 refine F.ok sc__law_ways (fun vs H Q E h=>?_) (fun cdv A outer s H vs Q E hr h=>?_)
 . obtain⟨v,r,as,ns,ps,ms,rfl,_⟩:=h
   rfl
 obtain⟨v,r,as,ns,ps,ms,rfl,hI,hH,hT,hpm,hsm,k⟩:=h
 have hu:=C2 hr
 have hq:=C1 hr
 have hfew:=hH.few
 have hW:=hH.w
 have hn:=hW.nd
 have hmn:ms.Nodup:=hpm.nodup_iff.mpr hn
 have hml:=hpm.length_eq
 have h10:ms.length<=10:=by omega
 with_reducible refine⟨_,(A1 (A7 (i:=2) sc__law_ways.nd (by ac_nf) (by eq_refl) (B6 (A0 (B6 (A0 (D8 A2) A2)) A2)))
  (A1 (Bv PassesOwn.never (by ac_nf) (An (K:=K) hu (Am (A6 (K:=K) hu) (pv 0) A5 (by ac_rfl))) (Ae (i:=3) sc__law_ways.nd (by ac_nf) (by eq_refl))
  (A1 (A7 (i:=4) sc__law_ways.nd (by ac_nf) (by eq_refl) Q4)
  (A1 (Bv PassesOwn.never (by ac_nf) (An (K:=K) hu (Am (A6 (K:=K) hu) (pv 2) (Af Dh (Aa (Av (K:=K)) (by ac_nf) T.b_len PyProof.Rows.Boot.«len» (A0 (pv 2) A2)) A5) (by ac_rfl))) (Ae (i:=5) sc__law_ways.nd (by ac_nf) (by with_unfolding_all exact Or.inr rfl))
  (A3 (Bv PassesOwn.never (by ac_nf) (An (K:=K) hu (B0 c__law_next_ones (hr.mono (by decide)) (by ac_nf) (A0 (pv 0) (A0 (pv 1) (A0 (pv 5) A2))))) (Ae (i:=6) sc__law_ways.nd (by ac_nf) (by eq_refl))
  (A3 (Dj hu (pv 4) (B9 (C6 (K:=K)) (by ac_nf) T.b_tuple PyProof.Rows.Boot.«tuple» (A0 (Aa (Cw (K:=K)) (by ac_nf) T.b_sorted PyProof.Rows.Boot.«sorted» (A0 (Af (Ah (K:=K)) (pv 5) (D8 (A0 (pv 6) A2))) A2)) A2)) Ch (by ac_nf))))))
  (A3 (Di (Du (K:=K) PySem.F.plainAttrs_list PySem.F.slot_list_append PySem.F.type_list_append (mm Dg) (pv 2) (A0 (B9 (Qx (by ac_nf)) (by ac_nf) T.b_list PyProof.Rows.Boot.«list» (A0 (pv 4) A2)) A2)))))))
  (A1 (A7 (i:=7) sc__law_ways.nd (by ac_nf) (by with_unfolding_all exact Or.inr rfl) Q4)
  (A1 (Bv PassesOwn.never (by ac_nf) (An (K:=K) hu (Hn (pv 2) (Sa M8 A5))) (Ae (i:=8) sc__law_ways.nd (by ac_nf) (by eq_refl))
  (A3 (Bv PassesOwn.never (by ac_nf) (An (K:=K) hu (pv 8)) (Ae (i:=5) sc__law_ways.nd (by ac_nf) (by with_unfolding_all exact Or.inr rfl))
  (A1 (Fq (i:=9) ["_law_name"] ["_law_begun"] [5] (by ac_nf) (by ac_nf) (by ac_nf) sc__law_ways.nd (by ac_nf) (by ac_nf) (An (K:=K) hu (B0 c__law_next_ones (hr.mono (by decide)) (by ac_nf) (A0 (pv 0) (A0 (pv 1) (A0 (pv 5) A2))))) (fun _ _ _ _=>(Ae (i:=0) (by with_unfolding_all (show(["_law_name","_law_begun"]:List Str).Nodup;decide +kernel)) (by ac_nf) (by eq_refl))) (B7 (by decide)) (fun _ _ _ _=>Cp) (fun _ _ _ _=>(B9 (C6 (K:=K)) (by ac_nf) T.b_tuple PyProof.Rows.Boot.«tuple» (A0 (Aa (Cw (K:=K)) (by ac_nf) T.b_sorted PyProof.Rows.Boot.«sorted» (A0 (Af (Ah (K:=K)) (pv 1) (D8 (A0 (pv 0) A2))) A2)) A2))))
  (A3 (Dj hu (pv 7) (pv 5) (Af (Ah (K:=K)) (Aa (E5 (K:=K) (by ac_nf)) (by ac_nf) T.b_sum PyProof.Rows.Boot.«sum» (A0 (Bt ["_law_one"] ["_law_ways_here"] [7] (by ac_nf) (by ac_nf) (by ac_nf) (An (K:=K) hu (pv 9)) (fun _ _ _ _=>(Ae (i:=0) (by with_unfolding_all (show(["_law_one","_law_ways_here"]:List Str).Nodup;decide +kernel)) (by ac_nf) (by eq_refl))) (B7 (by decide)) (fun _ _ _ _=>Cp) (fun _ _ _ _=>(Am (A6 (K:=K) hu) (pv 1) (pv 0) (by ac_rfl)))) A2)) (B9 Sn (by ac_nf) T.b_int PyProof.Rows.Boot.«int» (A0 (E3 (Bd (K:=K) hq) (pv 9) (B6 A2) (Aj _)) A2))) (by ac_nf)))))))
  (A3 (Al (pv 7))))))),?_⟩
 walk_at "rd"
 refine D9 (by decide) fun t1 H1 ht1 e1 h1=>?_
 walk_at "rd"
 refine Ax (A8 (by simp)) fun l2 H2 hl2 e2 h2=>?_
 walk_at "rd"
 refine Ax (A8 (by simp)) fun pv H3 hpv e3 h3=>?_
 have e03:=(e1.trans e2).trans e3
 have hk0:Cy ms (fun _=>true)=[]:=by unfold Cy;simp
 have hv0:H pv=none:=(e1.trans e2).free hpv
 walk_at "rd"
 refine E6 (hI.hf_fz e03.fz) fun nv hN=>?_
 refine Kv hN (fun i σ H4=>∃ x3 x4 x5 x6,σ=[some v,some (.ref r),some (.ref pv),x3,x4,x5,x6,none,none,none]/\Same H H4/\Fz H3 H4/\LvS H4 (Ab ps) ns ms pv (i+1))
  ⟨_,_,_,_,rfl,e03,.refl _,[l2],[[fun _=>true]],h3,rfl,rfl,?_,?_,?_⟩ (fun i σ' H' hP=>?_) (fun i z0 σ' H4 hz0 hP=>?_) (fun σ' H4 hP=>?_)
 . intro hm
   rw [List.mem_singleton.mp hm,h2] at hpv
   cases hpv
 . refine⟨rfl,fun j es hj=>?_,fun j es es' hj hj'=>?_⟩
   . cases j with
     | zero=>
       cases hj
       exact⟨by simp,fun e he=>by rw[List.mem_singleton.mp he];simp⟩
     | succ j=>simp at hj
   simp at hj'
 . intro j la es hj hj'
   cases j with
   | zero=>
     cases hj
     cases hj'
     exact⟨[t1],e3 _ _ h2,rfl,fun i e he=>by
      cases i with
      | zero=>cases he;exact⟨t1,rfl,by rw[hk0];exact e3 _ _ (e2 _ _ h1)⟩
      | succ i=>simp at he⟩
   | succ j=>simp at hj
 . obtain⟨_,_,_,_,_,_,fz,_⟩:=hP
   exact fz
 . obtain⟨x3,x4,x5,x6,rfl,e4,fz4,las,levs,h4v,hla,hle,hnv,hLv,hall⟩:=hP
   have hin:i<ns.length:=(List.getElem?_eq_some_iff.mp hz0).1
   obtain⟨la,hlai⟩:∃ la,las[i]? = some la:=⟨_,List.getElem?_eq_getElem (by omega)⟩
   obtain⟨es,hesi⟩:∃ es,levs[i]? = some es:=⟨_,List.getElem?_eq_getElem (by omega)⟩
   obtain⟨hes1,hes2⟩:=hLv.sz i es hesi
   walk_at "rd"
   refine Tb fun g H5 hg e5 h5=>?_
   have h5v:=e5 _ _ h4v
   walk_at "rd"
   have hidx:(((las.map V.ref).length:Nat):Int)-1=((i:Nat):Int):=by rw[List.length_map];omega
   rw[hidx]
   refine Y7 (SqL.of h5v) (E4 (j:=i) (v:=.ref la) (by rw[List.getElem?_map,hlai];rfl)) ?_
   obtain⟨bs,hb1,hb2,hb3⟩:=(hall i la es hlai hesi).keep (fun xs h=>e5 _ _ h) (fun b xs h=>e5 _ _ h)
   refine Gr (SqL.of hb1) ?_
   refine Dq (Bk (xs:=bs.map V.ref)) (fun j σ H6=>∃ y5 y6 es1,σ=[some v,some (.ref r),some (.ref pv),some (.str z0),some (.ref g),y5,y6,none,none,none]/\Same H4 H6/\Fz H5 H6/\(∀ a xs,H5 a=some (.lst xs)->H6 a=some (.lst xs))/\(∀ a xs,H5 a=some (.tup xs)->H6 a=some (.tup xs))/\H6 g=some (.dT (Lb ms es1))/\((Lb ms es1).map (·.1)).Nodup/\(∀ e∈es1,(ms.filter e).length+(i+1)=ms.length)/\∀ e∈es.take j,∀ z∈frF (Ab ps) (ns.filter e),∃ e'∈es1,Cy ms e'=Cy ms (fun y=>e y && !decide (y=z)))
    ⟨_,_,[],rfl,e5,.refl _,fun _ _ h=>h,fun _ _ h=>h,h5,by simp[Lb],(fun e he=>by cases he),(fun e he=>by simp at he)⟩ (fun j σ' H' hP=>?_) (fun j x σ' H6 hx hj hP=>?_) (fun σ' H6 hP=>?_)
   . obtain⟨_,_,_,_,_,_,kl,_⟩:=hP
     exact SqL.of (kl _ _ hb1)
   . obtain ⟨y5,y6,es1,rfl,e6,fz6,kl6,kt6,h6g,hnd6,hsz6,hnx6⟩:=hP
     rw[List.getElem?_map] at hx
     cases hbj:bs[j]? with
     | none=>rw[hbj] at hx;cases hx
     | some b=>
       rw[hbj] at hx
       cases hx
       have hjl:j<es.length:=by rw[<- hb2];exact(List.getElem?_eq_some_iff.mp hbj).1
       obtain⟨e,he⟩:∃ e,es[j]? = some e:=⟨_,List.getElem?_eq_getElem hjl⟩
       obtain⟨b',hb',hbt⟩:=hb3 j e he
       rw[hbj] at hb'
       cases hb'
       rw[Fp] at hbt
       have hem:=List.mem_of_getElem? he
       have hsze:=hes2 e hem
       have h6b:=kt6 _ _ hbt
       have hLn:(ns.filter e).Nodup:=hn.filter _
       have hfle:=List.length_filter_le (fun x=>!e x) ms
       walk_at "rd"
       refine⟨v,.ref b,r,as,ns,ps,_,rfl,hI.hf_fz (e4.trans e6).fz,hT.same (e4.trans e6),Gu (SqT.of h6b),hn,hfew,hH.ok4,fun lf H7 hlf e7 h7=>?_⟩
       rw[G0 hpm] at h7
       refine Gr (SqL.of h7) ?_
       have hg4:H4 g=none:=hg
       refine Dq (Bk (xs:=(frF (Ab ps) (ns.filter e)).map V.str)) (fun m σ H8=>∃ w6 es2,σ=[some v,some (.ref r),some (.ref pv),some (.str z0),some (.ref g),some (.ref b),w6,none,none,none]/\Same H4 H8/\Fz H7 H8/\(∀ a xs,H7 a=some (.lst xs)->H8 a=some (.lst xs))/\(∀ a xs,H7 a=some (.tup xs)->H8 a=some (.tup xs))/\H8 g=some (.dT (Lb ms es2))/\((Lb ms es2).map (·.1)).Nodup/\(∀ e∈es2,(ms.filter e).length+(i+1)=ms.length)/\(∀ e0∈es1,e0∈es2)/\∀ z∈(frF (Ab ps) (ns.filter e)).take m,∃ e'∈es2,Cy ms e'=Cy ms (fun y=>e y && !decide (y=z)))
        ⟨_,es1,rfl,e6.trans e7,.refl _,fun _ _ h=>h,fun _ _ h=>h,e7 _ _ h6g,hnd6,hsz6,fun _ h=>h,fun z hz=>by simp at hz⟩ (fun m σ' H' hP=>?_) (fun m x σ' H8 hx8 hm hP=>?_) (fun σ' H8 hP=>?_)
       . obtain⟨_,_,_,_,_,kl,_⟩:=hP
         exact SqL.of (kl _ _ h7)
       . obtain ⟨w6,es2,rfl,e8,fz8,kl8,kt8,h8g,hnd8,hsz8,hsub8,hnx8⟩:=hP
         rw[List.getElem?_map] at hx8
         cases hz:(frF (Ab ps) (ns.filter e))[m]? with
         | none=>rw[hz] at hx8;cases hx8
         | some z=>
           rw[hz] at hx8
           cases hx8
           have hzL:=(mem_frF.mp (List.mem_of_getElem? hz)).1
           have hzm:z∈ms.filter e:=List.mem_filter.mpr ⟨hpm.mem_iff.mpr (List.mem_filter.mp hzL).1,(List.mem_filter.mp hzL).2⟩
           have h8b:=kt8 _ _ (e7 _ _ h6b)
           walk_at "rd"
           refine D9 (A8 (by simp)) fun t9 H9 ht9 e9 h9=>?_
           refine Ni (SqT.of (e9 _ _ h8b)) (SqT.of h9) (A8 (by rw[List.length_map];simp;omega)) fun p10 H10 e10 h10'=>?_
           have h10s:SqT K H10 p10 (((ms.filter fun x=>!e x)++[z]).map V.str):=by rw[List.map_append];exact h10'
           walk_at "rd"
           refine Gm (.inr h10s) (by rw[List.length_append,List.length_singleton];omega) fun q11 out H11 hq11 e11 h11 hp11 hs11=>?_
           have hout:=Fx hsm hmn hzm hp11 hs11
           subst hout
           walk_at "rd"
           refine Ea (SqL.of h11) fun t12 H12 ht12 e12 h12=>?_
           have e812:=((e9.trans e10).trans e11).trans e12
           have h12k:H12 t12=some (.tup ((Cy ms (fun x=>e x && !decide (x=z))).map kV)):=by rw[Fp];exact h12
           have h12g:=e812 _ _ h8g
           obtain⟨es3,g1,g2,g3,g4,g5⟩:=a05 ms es2 (fun x=>e x && !decide (x=z)) hnd8
           have hl2:=Ty hnd8 h10
           walk_at "rd"
           refine Ut h12g h12k (by unfold Lb;rw[List.length_map];omega) fun H13 e13 h13=>?_
           rw[g1] at h13
           have k13:∀(a:Addr) (O:HO),a≠g->H8 a=some O->H13 a=some O:=fun a O hne h=>e13 _ _ hne (e812 _ _ h)
           walk_at "rd"
           refine⟨_,es3,rfl,(e8.trans e812).off hg4 e13,(fz8.trans e812.fz).trans (Md e13 fun xs h=>by rcases h with h | ⟨o',h⟩<;>(rw[h12g] at h;cases h)),(fun a xs h=>k13 _ _ (fun q=>by subst q;rw[kl8 _ _ h] at h8g;cases h8g) (kl8 a xs h)),(fun a xs h=>k13 _ _ (fun q=>by subst q;rw[kt8 _ _ h] at h8g;cases h8g) (kt8 a xs h)),h13,g2,fun e' he'=>?_,fun e0 h0=>g3 e0 (hsub8 e0 h0),fun y hy=>?_⟩
           . rcases g5 e' he' with q | q
             . exact hsz8 e' q
             subst q
             rw[Ao]
             have:=Au (hmn.filter e) hzm
             omega
           rw[List.take_add_one,hz] at hy
           rcases List.mem_append.mp hy with q | q
           . obtain⟨e',a1,a2⟩:=hnx8 y q
             exact⟨e',g3 e' a1,a2⟩
           have:y=z:=by simpa using q
           subst this
           exact g4
       obtain⟨w6,es2,rfl,e8,fz8,kl8,kt8,h8g,hnd8,hsz8,hsub8,hnx8⟩:=hP
       rw[List.length_map,List.take_length] at hnx8
       refine⟨_,_,es2,rfl,e8,(fz6.trans e7.fz).trans fz8,fun a xs h=>kl8 a xs (e7 _ _ (kl6 a xs h)),fun a xs h=>kt8 a xs (e7 _ _ (kt6 a xs h)),h8g,hnd8,hsz8,fun e' he' z hz=>?_⟩
       rw[List.take_add_one,he] at he'
       rcases List.mem_append.mp he' with q | q
       . obtain⟨e'',a1,a2⟩:=hnx6 e' q z hz
         exact⟨e'',hsub8 _ a1,a2⟩
       have:e'=e:=by simpa using q
       subst this
       exact hnx8 z hz
   obtain⟨y5,y6,es1,rfl,e6,fz6,kl6,kt6,h6g,hnd6,hsz6,hnx6⟩:=hP
   rw[List.length_map,hb2,List.take_length] at hnx6
   have hl2:=Ty hnd6 h10
   have h6v:=kl6 _ _ h5v
   walk_at "rd"
   refine Wl h6g (by unfold Lb;rw[List.length_map];omega) fun bs7 l7 H7 hK7 hl7 e7 h7=>?_
   walk_at "rd"
   refine Nu (e7 _ _ h6v) (by rw[List.length_map];omega) fun H8 e8 h8=>?_
   have fz8:=e8.fzL (e7 _ _ h6v)
   walk_at "rd"
   refine⟨_,_,_,_,rfl,((e4.trans e6).trans e7).off hv0 e8,((fz4.trans e5.fz).trans (fz6.trans e7.fz)).trans fz8,las++[l7],levs++[es1],?_,by rw[List.length_append,hla];rfl,by rw[List.length_append,hle];rfl,?_,?_,?_⟩
   . rw[h8,List.map_append]
     rfl
   . intro hm
     rcases List.mem_append.mp hm with q | q
     . exact hnv q
     have:pv=l7:=by simpa using q
     subst this
     rw[h6v] at hl7
     cases hl7
   . refine⟨?_,fun j es' hj=>?_,fun j ea eb hj hj'=>?_⟩
     . rw[List.getElem?_append_left (by omega)]
       exact hLv.z0
     . by_cases c:j<levs.length
       . rw[List.getElem?_append_left c] at hj
         exact hLv.sz j es' hj
       rw[List.getElem?_append_right (by omega)] at hj
       have hj0:j=levs.length:=by
        have:=(List.getElem?_eq_some_iff.mp hj).1
        simp at this
        omega
       subst hj0
       rw[Nat.sub_self] at hj
       cases hj
       exact⟨hl2,fun e he=>by have:=hsz6 e he;omega⟩
     by_cases c:j+1<levs.length
     . rw[List.getElem?_append_left (by omega)] at hj
       rw[List.getElem?_append_left c] at hj'
       exact hLv.nx j ea eb hj hj'
     rw[List.getElem?_append_right (by omega)] at hj'
     have hj0:j=i:=by
      have:=(List.getElem?_eq_some_iff.mp hj').1
      simp at this
      omega
     subst hj0
     rw[List.getElem?_append_left (by omega),hesi] at hj
     rw[show j+1-levs.length=0 by omega] at hj'
     cases hj
     cases hj'
     exact hnx6
   intro j a' es' hj hj'
   have up:∀(a:Addr) (O:HO),a≠pv->H7 a=some O->H8 a=some O:=fun a O hne h=>e8 _ _ hne h
   by_cases c:j<las.length
   . rw[List.getElem?_append_left c] at hj
     rw[List.getElem?_append_left (by omega)] at hj'
     have hne:a'≠pv:=fun q=>hnv (q ▸ List.mem_of_getElem? hj)
     exact((hall j a' es' hj hj').keep (fun xs h=>e5 _ _ h) (fun b xs h=>e5 _ _ h)).keep (fun xs h=>up _ _ hne (e7 _ _ (kl6 _ _ h))) (fun b xs h=>up _ _ (fun q=>by subst q;rw[h5v] at h;cases h) (e7 _ _ (kt6 _ _ h)))
   rw[List.getElem?_append_right (by omega)] at hj hj'
   have hj0:j=las.length:=by
    have:=(List.getElem?_eq_some_iff.mp hj).1
    simp at this
    omega
   subst hj0
   rw[Nat.sub_self] at hj
   rw[show las.length-levs.length=0 by omega] at hj'
   cases hj
   cases hj'
   have hne:l7≠pv:=fun q=>by subst q;rw[h6v] at hl7;cases hl7
   refine⟨bs7,up _ _ hne h7,by rw[hK7.1];unfold Lb;rw[List.length_map],fun m e hm=>?_⟩
   obtain⟨b,hb,hbk⟩:=hK7.2 m (Cy ms e,V.bl true) (by unfold Lb;rw[List.getElem?_map,hm];rfl)
   exact⟨b,hb,up _ _ (fun q=>by subst q;rw[h6v] at hbk;cases hbk) (e7 _ _ hbk)⟩
 obtain⟨x3,x4,x5,x6,rfl,e4,fz4,las,levs,h4v,hla,hle,hnv,hLv,hall⟩:=hP
 walk_at "rd"
 refine Tb fun w H5 hw e5 h5=>?_
 have h5v:=e5 _ _ h4v
 walk_at "rd"
 refine Xf (SqL.of h5v) (.inr rfl) fun pr H6 hpr e6 h6=>?_
 rw[show Qr (las.map V.ref) (-1)=(las.map V.ref).reverse from rfl] at h6
 have h6w:=e6 _ _ h5
 have hw4:H4 w=none:=hw
 have hall6:∀(j:Nat) la es,las[j]? = some la->levs[j]? = some es->LvA H6 ms la es:=fun j la es h1 h2=>(hall j la es h1 h2).keep (fun xs h=>(e5.trans e6) _ _ h) (fun b xs h=>(e5.trans e6) _ _ h)
 refine Gr (SqL.of h6) ?_
 refine Dq (Bk (xs:=(las.map V.ref).reverse)) (fun j σ H7=>∃ y5 y6 y8 y9 kvs,σ=[some v,some (.ref r),some (.ref pv),x3,x4,y5,y6,some (.ref w),y8,y9]/\Same H4 H7/\(∀ a xs,H6 a=some (.lst xs)->H7 a=some (.lst xs))/\(∀ a xs,H6 a=some (.tup xs)->H7 a=some (.tup xs))/\H7 w=some (.dT kvs)/\kvs.length<=j*1024/\∀(j':Nat) es,levs[j']? = some es->ns.length+1-j<=j'->∀ e∈es,D3 kvs (Cy ms e)=some (.int ((cnt (Ab ps) (ns.filter e):Nat):Int)))
  ⟨_,_,_,_,[],rfl,e5.trans e6,fun _ _ h=>h,fun _ _ h=>h,h6w,by simp,fun j' es hj' hle'=>absurd (List.getElem?_eq_some_iff.mp hj').1 (by omega)⟩ (fun j σ' H' hP=>?_) (fun j x σ' H7 hx hj hP=>?_) (fun σ' H7 hP=>?_)
 . obtain⟨_,_,_,_,_,_,_,kl,_⟩:=hP
   exact SqL.of (kl _ _ h6)
 . obtain⟨y5,y6,y8,y9,kvs,rfl,e7,kl7,kt7,h7w,hkl,hval⟩:=hP
   have hjl:j<ns.length+1:=by rw[List.length_reverse,List.length_map] at hj;omega
   obtain⟨la,hlai⟩:∃ la,las[ns.length-j]? = some la:=⟨_,List.getElem?_eq_getElem (by omega)⟩
   obtain⟨es,hesi⟩:∃ es,levs[ns.length-j]? = some es:=⟨_,List.getElem?_eq_getElem (by omega)⟩
   have hxl:x = .ref la:=by
    rw[List.getElem?_reverse (by rw[List.length_map];omega),List.length_map,List.getElem?_map,show las.length-1-j=ns.length-j by omega,hlai] at hx
    exact(Option.some.inj hx).symm
   subst hxl
   obtain⟨hes1,hes2⟩:=hLv.sz _ es hesi
   obtain⟨bs,hb1,hb2,hb3⟩:=hall6 _ la es hlai hesi
   walk_at "rd"
   refine Gr (SqL.of (kl7 _ _ hb1)) ?_
   refine Dq (Bk (xs:=bs.map V.ref)) (fun m σ H8=>∃ z5 z9 kvs2,σ=[some v,some (.ref r),some (.ref pv),x3,x4,z5,y6,some (.ref w),some (.ref la),z9]/\Same H4 H8/\(∀ a xs,H6 a=some (.lst xs)->H8 a=some (.lst xs))/\(∀ a xs,H6 a=some (.tup xs)->H8 a=some (.tup xs))/\H8 w=some (.dT kvs2)/\kvs2.length<=j*1024+m/\(∀(j':Nat) es,levs[j']? = some es->ns.length+1-j<=j'->∀ e∈es,D3 kvs2 (Cy ms e)=some (.int ((cnt (Ab ps) (ns.filter e):Nat):Int)))/\∀ e∈es.take m,D3 kvs2 (Cy ms e)=some (.int ((cnt (Ab ps) (ns.filter e):Nat):Int)))
    ⟨_,_,kvs,rfl,e7,kl7,kt7,h7w,by omega,hval,fun e he=>by simp at he⟩ (fun m σ' H' hP=>?_) (fun m x σ' H8 hx8 hm hP=>?_) (fun σ' H8 hP=>?_)
   . obtain⟨_,_,_,_,_,kl,_⟩:=hP
     exact SqL.of (kl _ _ hb1)
   . obtain ⟨z5,z9,kvs2,rfl,e8,kl8,kt8,h8w,hkl8,hval8,hnow8⟩:=hP
     rw[List.getElem?_map] at hx8
     cases hbj:bs[m]? with
     | none=>rw[hbj] at hx8;cases hx8
     | some b=>
       rw[hbj] at hx8
       cases hx8
       have hml2:m<es.length:=by rw[<- hb2];exact(List.getElem?_eq_some_iff.mp hbj).1
       obtain⟨e,he⟩:∃ e,es[m]? = some e:=⟨_,List.getElem?_eq_getElem hml2⟩
       obtain⟨b',hb',hbt⟩:=hb3 m e he
       rw[hbj] at hb'
       cases hb'
       have hem:=List.mem_of_getElem? he
       have hsze:=hes2 e hem
       have h8b:=kt8 _ _ hbt
       have h8bs:=h8b
       rw[Fp] at h8bs
       have hLn:(ns.filter e).Nodup:=hn.filter _
       walk_at "rd"
       refine⟨v,.ref b,r,as,ns,ps,_,rfl,hI.hf_fz (e4.trans e8).fz,hT.same (e4.trans e8),Gu (SqT.of h8bs),hn,hfew,hH.ok4,fun lf H9 hlf e9 h9=>?_⟩
       rw[G0 hpm] at h9
       have hfrl:(frF (Ab ps) (ns.filter e)).length<=(ns.filter e).length:=List.length_filter_le _ _
       have hfl2:=List.length_filter_le e ns
       have hfle:=List.length_filter_le (fun x=>!e x) ms
       have hzm:∀ {z},z∈frF (Ab ps) (ns.filter e)->z∈ms.filter e:=fun hz=>by
        have:=List.mem_filter.mp (mem_frF.mp hz).1
        exact List.mem_filter.mpr ⟨hpm.mem_iff.mpr this.1,this.2⟩
       refine Gr (SqL.of h9) ?_
       refine Fi (Bk (xs:=(frF (Ab ps) (ns.filter e)).map V.str)) (fun q t acc H10=>Same H9 H10/\∃ cs:List Addr,acc=cs.map V.ref/\cs.length=t/\∀(i:Nat) z,i<t->(frF (Ab ps) (ns.filter e))[i]? = some z->∃ c,cs[i]? = some c/\H10 c=some (.tup ((Cy ms (fun x=>e x && !decide (x=z))).map kV)))
        (fun q H' hq' e' h'=>⟨e',[],rfl,rfl,fun i z hi=>absurd hi (by omega)⟩) (fun q t acc H10 hP=>SqL.of (hP.1 _ _ h9)) (fun q t x acc H10 hq' hx10 ht hl hqa hP=>?_) (fun q acc H10 hq' hqa hal hP=>?_)
       . obtain ⟨e10,cs,rfl,hcl,hcs⟩:=hP
         rw[List.getElem?_map] at hx10
         cases hz:(frF (Ab ps) (ns.filter e))[t]? with
         | none=>rw[hz] at hx10;cases hx10
         | some z=>
           rw[hz] at hx10
           cases hx10
           have hzf:=List.mem_of_getElem? hz
           walk_at "rd"
           refine D9 (A8 (by simp)) fun t11 H11 ht11 e11 h11=>?_
           refine Ni (SqT.of ((e9.trans (e10.trans e11)) _ _ h8bs)) (SqT.of h11) (A8 (by rw[List.length_map];simp;omega)) fun p12 H12 e12 h12=>?_
           have h12s:SqT K H12 p12 (((ms.filter fun x=>!e x)++[z]).map V.str):=by rw[List.map_append];exact h12
           walk_at "rd"
           refine Gm (.inr h12s) (by rw[List.length_append,List.length_singleton];omega) fun q13 out H13 hq13 e13 h13 hp13 hs13=>?_
           have hout:=Fx hsm hmn (hzm hzf) hp13 hs13
           subst hout
           walk_at "rd"
           refine Ea (SqL.of h13) fun t14 H14 ht14 e14 h14=>?_
           have e1014:=((e11.trans e12).trans e13).trans e14
           have hqa14:=e1014 _ _ hqa
           refine Ho (by rw[List.length_map];omega) ht hl hqa14 fun H15 e15 h15=>?_
           refine⟨(e10.trans e1014).off hq' e15,cs++[t14],by rw[List.map_append];rfl,by rw[List.length_append,hcl];rfl,fun i z' hi hz'=>?_⟩
           by_cases c:i<t
           . obtain⟨c',hc1,hc2⟩:=hcs i z' c hz'
             refine⟨c',by rw[List.getElem?_append_left (by omega)];exact hc1,e15 _ _ (fun g=>by subst g;rw[hqa] at hc2;cases hc2) (e1014 _ _ hc2)⟩
           have hit:i=t:=by omega
           subst hit
           rw[hz] at hz'
           cases hz'
           refine⟨t14,by rw[List.getElem?_append_right (by omega),hcl,Nat.sub_self];rfl,e15 _ _ (fun g=>by subst g;rw[hqa14] at h14;cases h14) (by rw[Fp];exact h14)⟩
       obtain⟨e10,cs,rfl,hcl,hcs⟩:=hP
       rw[List.length_map] at hcl hcs
       have hcz:∀ {i:Nat} {c:Addr},cs[i]? = some c->∃ z,(frF (Ab ps) (ns.filter e))[i]? = some z/\H10 c=some (.tup ((Cy ms (fun x=>e x && !decide (x=z))).map kV)):=fun {i c} hc=>by
        have hi:i<(frF (Ab ps) (ns.filter e)).length:=by rw[<- hcl];exact(List.getElem?_eq_some_iff.mp hc).1
        obtain⟨c',h1,h2⟩:=hcs i _ hi (List.getElem?_eq_getElem hi)
        rw[hc] at h1
        cases h1
        exact⟨_,List.getElem?_eq_getElem hi,h2⟩
       have e810:=e9.trans e10
       walk_at "rd"
       refine Gr (SqL.of hqa) ?_
       refine Fi (Bk (xs:=cs.map V.ref)) (fun q2 t acc H11=>Same H10 H11/\acc=((frF (Ab ps) (ns.filter e)).take t).map fun z=>V.int ((cnt (Ab ps) (Ak (ns.filter e) z):Nat):Int))
        (fun q2 H' hq2 e' h'=>⟨e',rfl⟩) (fun q2 t acc H11 hP=>SqL.of (hP.1 _ _ hqa)) (fun q2 t x acc H11 hq2 hx11 ht hl hqa2 hP=>?_) (fun q2 acc H11 hq2 hqa2 hal2 hP=>?_)
       . obtain ⟨e11,rfl⟩:=hP
         rw[List.getElem?_map] at hx11
         cases hc:cs[t]? with
         | none=>rw[hc] at hx11;cases hx11
         | some c=>
           rw[hc] at hx11
           cases hx11
           obtain⟨z,hz,hck⟩:=hcz hc
           have hzf:=List.mem_of_getElem? hz
           have hpos:=List.length_pos_of_mem (hzm hzf)
           have hlt:ns.length-j+1<levs.length:=by omega
           obtain⟨e',he',hk'⟩:=hLv.nx _ es _ hesi (List.getElem?_eq_getElem hlt) e hem z hzf
           have hv:=hval8 _ _ (List.getElem?_eq_getElem hlt) (by omega) e' he'
           rw[hk',Xi hpm hk',Ao] at hv
           walk_at "rd"
           refine Tw (.inl ((e810.trans e11) _ _ h8w)) (e11 _ _ hck) hv ?_
           refine Ho (by rw[List.length_map];omega) ht hl hqa2 fun H12 e12 h12=>⟨e11.off hq2 e12,?_⟩
           rw[List.take_add_one,hz,List.map_append]
           rfl
       obtain⟨e11,rfl⟩:=hP
       rw[List.length_map,hcl,List.take_length] at hqa2
       have hmm:(frF (Ab ps) (ns.filter e)).map (fun x=>V.int ((cnt (Ab ps) (Ak (ns.filter e) x):Nat):Int))=((frF (Ab ps) (ns.filter e)).map fun x=>((cnt (Ab ps) (Ak (ns.filter e) x):Nat):Int)).map V.int:=by rw[List.map_map];rfl
       rw[hmm] at hqa2
       walk_at "rd"
       refine Uh (.inl (SqL.of hqa2)) (fun n' hn'=>?_) (by rw[List.length_map];omega) ?_
       . obtain⟨y,hy,rfl⟩:=List.mem_map.mp hn'
         have:=Au hLn (mem_frF.mp hy).1
         have:=Jm (b:=Ab ps) (Bc hLn y) (by omega)
         omega
       rw[Eb]
       walk_at "rd"
       refine Ax (A8 (by simp)) fun q12 H12 hq12 e12 h12=>?_
       have e1012:=e11.trans e12
       have hIs:Is K H12 (.list (((frF (Ab ps) (ns.filter e)).map fun z=>ms.filter fun x=>!(e x && !decide (x=z))).map nmD)) (.ref q):=by
        refine Is.of_lst (SqL.of (e1012 _ _ hqa)) ?_
        rw[List.map_map]
        refine Yc (by rw[List.length_map,hcl]) fun i z v' h1 h2=>?_
        rw[List.getElem?_map] at h2
        cases hc:cs[i]? with
        | none=>rw[hc] at h2;cases h2
        | some c=>
          rw[hc] at h2
          cases h2
          obtain⟨z',hz',hck⟩:=hcz hc
          rw[h1] at hz'
          cases hz'
          rw[Fp] at hck
          exact Gu (SqT.of (e1012 _ _ hck))
       have hshp:SeqAt.shaped (.list (((frF (Ab ps) (ns.filter e)).map fun z=>ms.filter fun x=>!(e x && !decide (x=z))).map nmD))=true:=(Uu (fun r' hr'=>by
        obtain⟨z,_,rfl⟩:=List.mem_map.mp hr'
        exact⟨Nat.le_trans (List.length_filter_le _ _) (by omega),fun x hx=>hH.names.2 x (hpm.mem_iff.mp (List.mem_filter.mp hx).1)⟩) (by rw[List.length_map];omega)).shaped
       refine Rm hIs (Is.of_lst (ds:=[]) (SqL.of h12) .nil) hshp (by rfl) ?_
       rw[Oq]
       walk_at "rd"
       have hcv:((((frF (Ab ps) (ns.filter e)).map fun x=>cnt (Ab ps) (Ak (ns.filter e) x)).sum:Nat):Int)+(if((frF (Ab ps) (ns.filter e)).map fun z=>ms.filter fun x=>!(e x && !decide (x=z))).isEmpty=true then 1 else 0)=((cnt (Ab ps) (ns.filter e):Nat):Int):=by
        by_cases hne:ns.filter e=[]
        . have hf0:frF (Ab ps) (ns.filter e)=[]:=by rw[hne];rfl
          rw[hf0,hne]
          rfl
        have hpos:=Po hW hLn hne
        have hie:((frF (Ab ps) (ns.filter e)).map fun z=>ms.filter fun x=>!(e x && !decide (x=z))).isEmpty=false:=by
         cases hf:frF (Ab ps) (ns.filter e) with
         | nil=>rw[hf] at hpos;simp at hpos
         | cons _ _=>rfl
        rw[hie,Mr hLn hne,if_neg (by decide),Int.add_zero]
       rw[hcv]
       have e812:=e810.trans e1012
       have h12w:=e812 _ _ h8w
       refine Ut h12w (e812 _ _ h8b) (by omega) fun H13 e13 h13=>?_
       walk_at "rd"
       have hput:∀ e',(D3 kvs2 (Cy ms e')=some (.int ((cnt (Ab ps) (ns.filter e'):Nat):Int)))\/e'=e->D3 (Db kvs2 (Cy ms e) (.int ((cnt (Ab ps) (ns.filter e):Nat):Int))) (Cy ms e')=some (.int ((cnt (Ab ps) (ns.filter e'):Nat):Int)):=fun e' h'=>by
        rw[Lu]
        by_cases c:Cy ms e'=Cy ms e
        . rw[if_pos c,Xi hpm c]
        rw[if_neg c]
        rcases h' with h' | h'
        . exact h'
        exact absurd (by rw[h']) c
       refine⟨_,_,_,rfl,(e8.trans e812).off hw4 e13,(fun a xs h=>e13 _ _ (fun g=>by subst g;rw[kl8 _ _ h] at h8w;cases h8w) (e812 _ _ (kl8 a xs h))),(fun a xs h=>e13 _ _ (fun g=>by subst g;rw[kt8 _ _ h] at h8w;cases h8w) (e812 _ _ (kt8 a xs h))),h13,by have:=Ec kvs2 (Cy ms e) (.int ((cnt (Ab ps) (ns.filter e):Nat):Int));omega,fun j' es' hj' hle' e' he'=>hput e' (.inl (hval8 j' es' hj' hle' e' he')),fun e' he'=>?_⟩
       rw[List.take_add_one,he] at he'
       rcases List.mem_append.mp he' with g | g
       . exact hput e' (.inl (hnow8 e' g))
       exact hput e' (.inr (by simpa using g))
   obtain⟨z5,z9,kvs2,rfl,e8,kl8,kt8,h8w,hkl8,hval8,hnow8⟩:=hP
   rw[List.length_map,hb2,List.take_length] at hnow8
   refine⟨_,_,_,_,kvs2,rfl,e8,kl8,kt8,h8w,by rw[List.length_map] at hkl8;omega,fun j' es' hj' hle'=>?_⟩
   by_cases c:j'=ns.length-j
   . subst c
     rw[hesi] at hj'
     cases hj'
     exact hnow8
   exact hval8 j' es' hj' (by omega)
 obtain⟨y5,y6,y8,y9,kvs,rfl,e7,kl7,kt7,h7w,hkl,hval⟩:=hP
 walk_at "rd"
 refine k w kvs H7 (e4.free hw4) (e4.trans e7) h7w fun e hrc=>?_
 obtain⟨j',es,e0,h1,h2,h3⟩:=Yx hpm hn hLv (by omega) hrc
 have:=hval j' es h1 (by rw[List.length_reverse,List.length_map];omega) e0 h2
 rw[h3] at this
 rw[this]
 have hns:ns.filter e0=ns.filter e:=by
  have hse:=Lc h3
  apply List.filter_congr
  intro y hy
  have hm:y∈ms.filter e0↔y∈ms.filter e:=by rw[hse]
  rw[List.mem_filter,List.mem_filter] at hm
  have hym:=hpm.mem_iff.mpr hy
  cases c1:e0 y<;>cases c2:e y<;>simp_all
 rw[hns]
local macro_rules | `(tactic| walk_at "rq1") => L2.mAlts "i_nxS"
def bD (m:Int):PyData:=.list [.bool true,.bool false,.bool true,.bool false,.bool false,.bool false,.int m]
def oD:PyData:=.list [.bool false,.bool true,.bool true,.bool false,.bool false,.bool false]
def am5 (K:PySem.W.Frag)(H:Hp)(w:Str)(v u:V)(Q:VK):Prop:=
 (w = "order" /\ ∃ ns ps,∃ m:Int,Is K H (hfD ns ps) v/\Half ns ps/\u = .int m/\m.natAbs<10 ^ 44/\(m<0\/((cnt (Ab ps) ns:Nat):Int)<=m)/\∀ q H',Same H H'->H' q=some (.lst [.bl true,.bl false,.bl true,.bl false,.bl false,.bl false,.int m])->Q (.ref q) H') \/
 ((w = "number" \/ w = "next")/\∃ ns ps g,Is K H (hfD ns ps) v/\Half ns ps/\ThM K H u g/\(¬ Oz ns ps g->∀ q H',Same H H'->H' q=some (.lst [.bl false,.bl true,.bl true,.bl false,.bl false,.bl false])->Q (.ref q) H')/\(Oz ns ps g->∀ q y H',Same H H'->H' q=some (.lst [y])->Q (.ref q) H'))
def Fe (K:PySem.W.Frag):Sp:=fun vs H Q _=>∃ w v u,vs=[.str w,v,u]/\am5 K H w v u Q
theorem Xv {K:PySem.W.Frag}{C B:Addr}(hm:G1 K C B=true):PySem.W.mroIn K C (.ref B)=some true:=by
 obtain⟨cd,hc,hx⟩:=PySem.W.any_some hm
 unfold PySem.W.mroIn
 rw[hc,Option.bind_some,beq_iff_eq.mp hx,if_neg (by simp),List.contains_cons,List.contains_cons,beq_self_eq_true,Bool.true_or,Bool.or_true]
theorem Fb {K:PySem.W.Frag}{C D B:Addr}(c:XC K C)(hm:G1 K C B=true)(d:XC K D)(h1:C≠D)(h2:D≠B):PySem.W.kitOne K (.ref C) (.ref D)=some false:=by
 rw[Uj c hm d,beq_eq_false_iff_ne.mpr h1,beq_eq_false_iff_ne.mpr h2]
 rfl
theorem T3 {K:PySem.W.Frag}{C B:Addr}(c:XC K C)(hm:G1 K C B=true):PySem.W.kitOne K (.ref C) (.ref C)=some true:=by
 rw[Uj c hm c,beq_self_eq_true,Bool.true_or]
theorem Wo {t:TT}{ta tb:TE}{σ:L2.St}{H:Hp}{Q:VK}(k:t σ H fun c H1=>if c=true then ta σ H1 Q else tb σ H1 Q):tIf t ta tb σ H Q:=k
theorem len6 {σ:L2.St}(h:σ.length=6):∃ a b c d e f,σ=[a,b,c,d,e,f]:=by
 match σ,h with
 | [a,b,c,d,e,f],_=>exact⟨a,b,c,d,e,f,rfl⟩
theorem X7 {d:PyData}{ds:List PyData}:PyData.eqv (.list (d :: ds)) (.list [])=false:=by simp[PyData.eqv,PyData.eqvAll]
theorem Rs {a b:Str}{A B:Prop}(h:a≠b)(k:B):if decide (V.str a=V.str b)=true then A else B:=by
 rw[if_neg (by rw[decide_eq_false fun e=>h (V.str.inj e)];exact Bool.false_ne_true)]
 exact k
def GT (H:Hp)(CP CO:Addr)(Q:VK)(a:Addr)(H':Hp):Prop:=Same H H'/\((∃ m:Int,m.natAbs<10 ^ 44/\ExB false H' a CP [("number",.int m)]/\∀ q H',Same H H'->H' q=some (.lst [.bl true,.bl false,.bl true,.bl false,.bl false,.bl false,.int m])->Q (.ref q) H')\/(ExB false H' a CO []/\∀ q H',Same H H'->H' q=some (.lst [.bl false,.bl true,.bl true,.bl false,.bl false,.bl false])->Q (.ref q) H'))
theorem Qy {K:PySem.W.Frag}{H:Hp}{b0 b1 b2 b3 b4 b5:Bool}:IsL K H [.bool b0,.bool b1,.bool b2,.bool b3,.bool b4,.bool b5] [.bl b0,.bl b1,.bl b2,.bl b3,.bl b4,.bl b5]:=.cons Ol (.cons Ol (.cons Ol (.cons Ol (.cons Ol (.one Ol)))))
theorem af7 {m:Int}(h:m.natAbs<10 ^ 44):Dk 2 200 7 (bD m):=by
 refine aa5 (p:=1) ⟨fun e he=>?_,?_,by simp⟩
 . simp only[List.mem_cons,List.not_mem_nil,or_false] at he
   rcases he with rfl | rfl | rfl | rfl | rfl | rfl | rfl
   . exact⟨0,by decide +kernel,by decide +kernel,by decide +kernel,by decide +kernel,by decide +kernel,by decide +kernel,by decide +kernel⟩
   . exact⟨0,by decide +kernel,by decide +kernel,by decide +kernel,by decide +kernel,by decide +kernel,by decide +kernel,by decide +kernel⟩
   . exact⟨0,by decide +kernel,by decide +kernel,by decide +kernel,by decide +kernel,by decide +kernel,by decide +kernel,by decide +kernel⟩
   . exact⟨0,by decide +kernel,by decide +kernel,by decide +kernel,by decide +kernel,by decide +kernel,by decide +kernel,by decide +kernel⟩
   . exact⟨0,by decide +kernel,by decide +kernel,by decide +kernel,by decide +kernel,by decide +kernel,by decide +kernel,by decide +kernel⟩
   . exact⟨0,by decide +kernel,by decide +kernel,by decide +kernel,by decide +kernel,by decide +kernel,by decide +kernel,by decide +kernel⟩
   exact⟨150,Xt h⟩
 have:=(Xt (p:=1) (W:=1) h).wt
 simp only[PyData.weightAll,PyData.weight] at this ⊢
 omega
theorem Nt {f:Addr}{fd:FuncData}(F:Fun K "_law_told" "_law_told" Cv f fd)(T:Ex mg){C_HalfError:Addr}{C_NoName:Addr}{C_NoCover:Addr}{C_NoPlace:Addr}{C_NoOrder:Addr}{C_NoJoin:Addr}(x_HalfError:Bm K mg C_HalfError C_HalfError)(x_NoName:Dd K mg C_NoName C_HalfError)(x_NoCover:Jb K mg C_NoCover C_HalfError)(x_NoPlace:Dn K mg C_NoPlace C_HalfError)(x_NoOrder:Do K mg C_NoOrder C_HalfError)(x_NoJoin:Kh K mg C_NoJoin C_HalfError)(ndX:([C_HalfError,C_NoCover,C_NoJoin,C_NoName,C_NoOrder,C_NoPlace]:List Addr).Nodup)(d_order_of:Fnd1 P w K mg base 26 "order_of" ["half","number"] (Dv C_NoPlace K))(d_number_of:Fnd1 P w K mg base 14 "number_of" ["half","order"] (Dc C_NoOrder K))(d_next_order:Fnd1 P w K mg base 27 "next_order" ["half","order"] (E1 C_NoOrder K)):FnOk P w K mg base CX0 28 f fd ["_law_word","_law_half_here","_law_thing"] (Fe K):=by
 refine F.ok sc__law_told (fun vs H Q E h=>?_) (fun cdv A outer s H vs Q E hr h=>?_)
 . obtain⟨w,v,u,rfl,_⟩:=h
   rfl
 obtain⟨w,v,u,rfl,hk⟩:=h
 have hu:=C2 hr
 have hq:=C1 hr
 have p1:C_NoPlace≠C_NoOrder:=fun e=>by subst e;simp at ndX
 have p2:C_NoPlace≠C_NoCover:=fun e=>by subst e;simp at ndX
 have p3:C_NoPlace≠C_NoJoin:=fun e=>by subst e;simp at ndX
 have p4:C_NoPlace≠C_NoName:=fun e=>by subst e;simp at ndX
 have o2:C_NoOrder≠C_NoCover:=fun e=>by subst e;simp at ndX
 have o3:C_NoOrder≠C_NoJoin:=fun e=>by subst e;simp at ndX
 have o4:C_NoOrder≠C_NoName:=fun e=>by subst e;simp at ndX
 have b1:C_NoPlace≠C_HalfError:=fun e=>by subst e;simp at ndX
 have b2:C_NoOrder≠C_HalfError:=fun e=>by subst e;simp at ndX
 have b3:C_NoCover≠C_HalfError:=fun e=>by subst e;simp at ndX
 have b4:C_NoJoin≠C_HalfError:=fun e=>by subst e;simp at ndX
 have b5:C_NoName≠C_HalfError:=fun e=>by subst e;simp at ndX
 clear ndX
 obtain⟨xG,hG⟩:∃ G:Addr->Hp->Prop,G=GT H C_NoPlace C_NoOrder Q:=⟨_,rfl⟩
 with_reducible refine⟨_,(A1 (A7 (i:=3) sc__law_told.nd (by ac_nf) (by eq_refl) (B6 A2))
  (A1 (A7 (i:=4) sc__law_told.nd (by ac_nf) (by eq_refl) (B6 A2))
  (A1 (af4 (i:=5) xG sc__law_told.nd (by ac_nf) (by ac_nf) (by ac_nf) x_HalfError.gl x_HalfError.xc (by ac_nf) (by ac_nf) (by ac_nf) (fun _ _ hps=>(A3 (Be (Ac (Bd (K:=K) hq) (pv 0) Ar (Aj _)) (A3 (Di (Du (K:=K) PySem.F.plainAttrs_list PySem.F.slot_list_append PySem.F.type_list_append (mm Dg) (pv 3) (A0 (Kr d_order_of (hr.mono (by decide)) (by ac_nf) hps (A0 (pv 1) (A0 (pv 2) A2))) A2)))) (A3 (Be (Ac (Bd (K:=K) hq) (pv 0) Ar (Aj _)) (A3 (Di (Du (K:=K) PySem.F.plainAttrs_list PySem.F.slot_list_append PySem.F.type_list_append (mm Dg) (pv 3) (A0 (Kr d_number_of (hr.mono (by decide)) (by ac_nf) hps (A0 (pv 1) (A0 (pv 2) A2))) A2)))) (A3 (Di (Du (K:=K) PySem.F.plainAttrs_list PySem.F.slot_list_append PySem.F.type_list_append (mm Dg) (pv 3) (A0 (Kr d_next_order (hr.mono (by decide)) (by ac_nf) hps (A0 (pv 1) (A0 (pv 2) A2))) A2)))))))))
  (fun _ _=>(A1 (A7 (i:=4) sc__law_told.nd (by ac_nf) (by eq_refl) (B6 (A0 (Aa (E7 (K:=K)) (by ac_nf) T.b_isinstance PyProof.Rows.Boot.«isinstance» (A0 (pv 5) (A0 (Ts (v:=.ref C_NoPlace) (by ac_nf) ⟨_,x_NoPlace.gl,(by ac_nf)⟩) A2))) (A0 (Aa (E7 (K:=K)) (by ac_nf) T.b_isinstance PyProof.Rows.Boot.«isinstance» (A0 (pv 5) (A0 (Ts (v:=.ref C_NoOrder) (by ac_nf) ⟨_,x_NoOrder.gl,(by ac_nf)⟩) A2))) (A0 (Aa (E7 (K:=K)) (by ac_nf) T.b_isinstance PyProof.Rows.Boot.«isinstance» (A0 (pv 5) (A0 (L4 (v:=.ty "ValueError") (by ac_nf) T.b_ValueError PyProof.Rows.Boot.«ValueError» (by ac_nf)) A2))) A2)))))
  (A1 (A7 (i:=4) sc__law_told.nd (by ac_nf) (by eq_refl) (Af (Ah (K:=K)) (pv 4) (B6 (A0 (Aa (E7 (K:=K)) (by ac_nf) T.b_isinstance PyProof.Rows.Boot.«isinstance» (A0 (pv 5) (A0 (Ts (v:=.ref C_NoCover) (by ac_nf) ⟨_,x_NoCover.gl,(by ac_nf)⟩) A2))) (A0 (Aa (E7 (K:=K)) (by ac_nf) T.b_isinstance PyProof.Rows.Boot.«isinstance» (A0 (pv 5) (A0 (Ts (v:=.ref C_NoJoin) (by ac_nf) ⟨_,x_NoJoin.gl,(by ac_nf)⟩) A2))) (A0 (Aa (E7 (K:=K)) (by ac_nf) T.b_isinstance PyProof.Rows.Boot.«isinstance» (A0 (pv 5) (A0 (Ts (v:=.ref C_NoName) (by ac_nf) ⟨_,x_NoName.gl,(by ac_nf)⟩) A2))) A2))))))
  (A3 (Be (Ev (Am (A6 (K:=K) (a49 hu)) (pv 4) A5 (by ac_rfl))) (A3 (Di (Du (K:=K) PySem.F.plainAttrs_list PySem.F.slot_list_append PySem.F.type_list_append (mm Dg) (pv 4) (A0 (Wk (K:=K) (pv 5) (by ac_nf)) A2)))) Ai))))))
  (A3 (Al (Vv (Ac (Bd (K:=K) hq) (pv 4) (B6 A2) (Aj _)) (pv 3) (pv 4))))))),?_⟩
 walk_at "rd"
 refine Ax (A8 (by simp)) fun pf H1 hp1 e1 h1=>?_
 walk_at "rd"
 refine Ax (A8 (by simp)) fun pk H2 hp2 e2 h2=>?_
 have e02:=e1.trans e2
 have h2f:=e2 _ _ h1
 have hfk:pf≠pk:=ne_of_none h1 hp2
 walk_at "rd"
 refine⟨?_,fun a H' σ' hl hg=>?_⟩
 . have fin:∀(y:V) (H3:Hp),Same H2 H3->(∀ q y H',Same H H'->H' q=some (.lst [y])->Q (.ref q) H')->True:=fun _ _ _ _=>trivial
   rcases hk with ⟨rfl,ns,ps,m,hI,hH,rfl,hm,hfar,k⟩ | ⟨hw,ns,ps,g,hI,hH,hg,k1,k2⟩
   . walk_at "rd"
     exact .inr ⟨v,ns,ps,m,rfl,hI.hf_fz e02.fz,hH.w,hH.few,hfar,fun a H3 e3 hE=>⟨a,rfl,by rw[hG];exact⟨e02.trans e3,.inl ⟨m,hm,hE,k⟩⟩⟩⟩
   have kn:RefN H2 C_NoOrder (ak0 xG)\/Oz ns ps g:=by
    rcases Classical.em (Oz ns ps g) with h | h
    . exact .inr h
    exact .inl fun a H3 e3 hE=>⟨a,rfl,by rw[hG];exact⟨e02.trans e3,.inr ⟨hE,k1 h⟩⟩⟩
   have neg:∀ {ns ps g},RefN H2 C_NoOrder (ak0 xG)\/Oz ns ps g->¬ Oz ns ps g->RefN H2 C_NoOrder (ak0 xG):=fun h hn=>h.resolve_right hn
   rcases hw with rfl | rfl
   . walk_at "rd"
     refine Rs (by decide +kernel) ?_
     walk_at "rd"
     rcases Classical.em (Oz ns ps g) with hO | hO
     . cases g with
       | odd=>exact hO.elim
       | row xs=>
         obtain⟨ua,rfl,hSu,_,_⟩:=hg
         obtain⟨r,rfl,hr⟩:=hO
         refine .inl ⟨v,_,ns,ps,r,rfl,hI.hf_fz e02.fz,hH,Gu (e02.seqT hSu),hr,fun H3 e3=>?_⟩
         walk_at "rd"
         refine Nu (e3 _ _ h2f) (by simp) fun H4 e4 h4=>?_
         walk_at "rd"
         refine Wo ?_
         walk_at "rd"
         refine Ax (A8 (by simp)) fun p5 H5 hp5 e5 h5=>?_
         have g5:H5 pk=some (.lst []):=e5 _ _ (e4 _ _ (Ne.symm hfk) (e3 _ _ h2))
         walk_at "rd"
         refine Rm (Is.of_lst (SqL.of g5) .nil) (Is.of_lst (SqL.of h5) .nil) (by decide +kernel) (by decide +kernel) ?_
         rw[show PyData.eqv (.list []) (.list [])=true by decide +kernel]
         refine⟨_,rfl,?_⟩
         walk_at "rd"
         exact k2 ⟨r,rfl,hr⟩ _ _ H5 (((e02.trans e3).off hp1 e4).trans e5) (e5 _ _ h4)
     exact .inr ⟨v,u,ns,ps,g,rfl,hI.hf_fz e02.fz,hH,hg.same e02,hO,kn.resolve_right hO⟩
   walk_at "rd"
   refine Rs (by decide +kernel) ?_
   walk_at "rd"
   refine Rs (by decide +kernel) ?_
   walk_at "rd"
   rcases Classical.em (Oz ns ps g) with hO | hO
   . cases g with
     | odd=>exact hO.elim
     | row xs=>
       obtain⟨ua,rfl,hSu,_,_⟩:=hg
       obtain⟨r,rfl,hr⟩:=hO
       refine .inl ⟨v,_,ns,ps,r,rfl,hI.hf_fz e02.fz,hH,Gu (e02.seqT hSu),hr,fun y H3 e3 _=>?_⟩
       walk_at "rd"
       refine Nu (e3 _ _ h2f) (by simp) fun H4 e4 h4=>?_
       walk_at "rd"
       refine Wo ?_
       walk_at "rd"
       refine Ax (A8 (by simp)) fun p5 H5 hp5 e5 h5=>?_
       have g5:H5 pk=some (.lst []):=e5 _ _ (e4 _ _ (Ne.symm hfk) (e3 _ _ h2))
       walk_at "rd"
       refine Rm (Is.of_lst (SqL.of g5) .nil) (Is.of_lst (SqL.of h5) .nil) (by decide +kernel) (by decide +kernel) ?_
       rw[show PyData.eqv (.list []) (.list [])=true by decide +kernel]
       refine⟨_,rfl,?_⟩
       walk_at "rd"
       exact k2 ⟨r,rfl,hr⟩ _ _ H5 (((e02.trans e3).off hp1 e4).trans e5) (e5 _ _ h4)
   exact .inr ⟨v,u,ns,ps,g,rfl,hI.hf_fz e02.fz,hH,hg.same e02,hO,kn.resolve_right hO⟩
 rw[hG] at hg
 obtain⟨e3,hg⟩:=hg
 obtain⟨y0,y1,y2,y3,y4,y5,rfl⟩:=len6 hl
 rcases hg with ⟨m,hm,hE,k⟩ | ⟨hE,k⟩
 . obtain⟨dx,ha⟩:∃ dx,H' a=some (exG false a C_NoPlace (some dx)):=by
    rcases hE with ⟨e,_⟩ | ⟨dx,_,h1,_⟩
    . cases e
    exact⟨dx,h1⟩
   refine⟨⟨C_NoPlace,some dx,ha,x_NoPlace.xc,Xv x_NoPlace.mr⟩,?_⟩
   walk_at "rd"
   refine Jy hE x_NoPlace.xc (T3 x_NoPlace.xc x_NoPlace.mr) ?_
   walk_at "rd"
   refine Jy hE x_NoPlace.xc (Fb x_NoPlace.xc x_NoPlace.mr x_NoOrder.xc p1 b2) ?_
   walk_at "rd"
   refine Yl hE x_NoPlace.xc (Rt x_NoPlace.mr) ?_
   walk_at "rd"
   refine Ax (A8 (by simp)) fun q1 I1 hq1 f1 g1=>?_
   have hE1:=hE.same f1
   walk_at "rd"
   refine Jy hE1 x_NoPlace.xc (Fb x_NoPlace.xc x_NoPlace.mr x_NoCover.xc p2 b3) ?_
   walk_at "rd"
   refine Jy hE1 x_NoPlace.xc (Fb x_NoPlace.xc x_NoPlace.mr x_NoJoin.xc p3 b4) ?_
   walk_at "rd"
   refine Jy hE1 x_NoPlace.xc (Fb x_NoPlace.xc x_NoPlace.mr x_NoName.xc p4 b5) ?_
   walk_at "rd"
   refine Ax (A8 (by simp)) fun q2 I2 hq2 f2 g2=>?_
   walk_at "rd"
   refine Fv (f2 _ _ g1) g2 (A8 (by simp)) fun q3 I3 hq3 f3 g3=>?_
   walk_at "rd"
   refine K3 g3 (show atI _ 0=some (.bl true) from rfl) ?_
   walk_at "rd"
   have f13:=(f1.trans f2).trans f3
   refine a98 (hE.same f13) x_NoPlace.xc x_NoPlace.n_number (show _=some (V.int m) from rfl) ?_
   walk_at "rd"
   refine Nu g3 (by simp) fun I4 f4 g4=>?_
   walk_at "rd"
   refine Wo ?_
   walk_at "rd"
   refine Ax (A8 (by simp)) fun q5 I5 hq5 f5 g5=>?_
   have g4':=f5 _ _ g4
   walk_at "rd"
   refine Rm (Is.of_lst (SqL.of g4') (IsL.append Qy (.one N0))) (Is.of_lst (SqL.of g5) .nil) ((af7 hm).shaped (by omega)) (by decide +kernel) ?_
   rw[show PyData.eqv (.list ([PyData.bool true,.bool false,.bool true,.bool false,.bool false,.bool false]++[.int m])) (.list [])=false from X7]
   refine⟨_,rfl,?_⟩
   walk_at "rd"
   exact k q3 I5 ((((e3.trans ((f1.trans f2))).trans f3).off ((e3.trans (f1.trans f2)).free hq3) f4).trans f5) g4'
 obtain⟨od,ha⟩:∃ od,H' a=some (exG false a C_NoOrder od):=by
  rcases hE with ⟨_,h1⟩ | ⟨dx,_,h1,_⟩
  . exact⟨none,h1⟩
  exact⟨some dx,h1⟩
 refine⟨⟨C_NoOrder,od,ha,x_NoOrder.xc,Xv x_NoOrder.mr⟩,?_⟩
 walk_at "rd"
 refine Jy hE x_NoOrder.xc (Fb x_NoOrder.xc x_NoOrder.mr x_NoPlace.xc (Ne.symm p1) b1) ?_
 walk_at "rd"
 refine Jy hE x_NoOrder.xc (T3 x_NoOrder.xc x_NoOrder.mr) ?_
 walk_at "rd"
 refine Yl hE x_NoOrder.xc (Rt x_NoOrder.mr) ?_
 walk_at "rd"
 refine Ax (A8 (by simp)) fun q1 I1 hq1 f1 g1=>?_
 have hE1:=hE.same f1
 walk_at "rd"
 refine Jy hE1 x_NoOrder.xc (Fb x_NoOrder.xc x_NoOrder.mr x_NoCover.xc o2 b3) ?_
 walk_at "rd"
 refine Jy hE1 x_NoOrder.xc (Fb x_NoOrder.xc x_NoOrder.mr x_NoJoin.xc o3 b4) ?_
 walk_at "rd"
 refine Jy hE1 x_NoOrder.xc (Fb x_NoOrder.xc x_NoOrder.mr x_NoName.xc o4 b5) ?_
 walk_at "rd"
 refine Ax (A8 (by simp)) fun q2 I2 hq2 f2 g2=>?_
 walk_at "rd"
 refine Fv (f2 _ _ g1) g2 (A8 (by simp)) fun q3 I3 hq3 f3 g3=>?_
 walk_at "rd"
 refine K3 g3 (show atI _ 0=some (.bl false) from rfl) ?_
 walk_at "rd"
 refine Wo ?_
 walk_at "rd"
 refine Ax (A8 (by simp)) fun q5 I5 hq5 f5 g5=>?_
 have g4':=f5 _ _ g3
 walk_at "rd"
 refine Rm (Is.of_lst (SqL.of g4') Qy) (Is.of_lst (SqL.of g5) .nil) (by decide +kernel) (by decide +kernel) ?_
 rw[show PyData.eqv (.list [PyData.bool false,.bool true,.bool true,.bool false,.bool false,.bool false]) (.list [])=false from X7]
 refine⟨_,rfl,?_⟩
 walk_at "rd"
 exact k q3 I5 ((e3.trans ((f1.trans f2).trans f3)).trans f5) g4'
theorem Xm {k:Nat}:∀ {ds:List PyData},(∀ e∈ds,e.weight<=k)->PyData.weightAll ds<=ds.length*(k+1)
 | [],_=>by simp only[PyData.weightAll];omega
 | d :: ds,h=>by
   have h1:=h d (by simp)
   have h2:=Xm (ds:=ds) fun e he=>h e (by simp[he])
   simp only[PyData.weightAll,List.length_cons,Nat.succ_mul]
   omega
theorem ae2 {z:Str}(h:M2 z=true):Asc z:=fun c hc=>by
 unfold M2 at h
 rw[Bool.and_eq_true,List.all_eq_true] at h
 have:=h.2 c hc
 unfold Hm at this
 rw[Bool.and_eq_true,decide_eq_true_eq,decide_eq_true_eq] at this
 omega
theorem Z4 {p W:Nat}{ns:List Str}(h:∀ z∈ns,M2 z=true)(hl:ns.length<=W):Els p (ns.length*9) W (ns.map PyData.str):=by
 refine⟨fun e he=>?_,?_,by simpa using hl⟩
 . obtain⟨z,hz,rfl⟩:=List.mem_map.mp he
   exact⟨8,a85 (ae2 (h z hz)) (Yb (h z hz))⟩
 have:=Xm (k:=8) (ds:=ns.map PyData.str) fun e he=>by
  obtain⟨z,hz,rfl⟩:=List.mem_map.mp he
  simp only[PyData.weight]
  exact Yb (h z hz)
 simpa using this
def spLaw (K:PySem.W.Frag):Sp:=fun vs H Q _=>∃(a:Addr) (ns:List Int),vs=[.ref a]/\SqL K H a (ns.map V.int)/\ns.length<=63/\∀ H',Q (.bl true) H'
def El (K:PySem.W.Frag):Sp:=fun vs H Q _=>∃ d l v r w as ns ps ms kvs,vs=[.ref d,v,.ref r,.ref w]/\Feed H d l/\Is K H (hfD ns ps) v/\Half ns ps/\TabL K H r ns as (Way ps)/\r≠d/\ms.Perm ns/\sortedS ms=true/\H w=some (.dT kvs)/\a47 (Ab ps) ns ms kvs/\∀ H',Feed H' d l->Q (.bl true) H'
theorem a52:oD.showable=true/\oD.shown.length<=sizeLine/\oD.depth<=100:=⟨by decide +kernel,by decide +kernel,by decide +kernel⟩
theorem Lq {f:Addr}{fd:FuncData}(F:Fun K "_law_right" "_law_right" C8 f fd)(T:Ex mg)(c_order_of:Fnd P w K mg base 26 "order_of" ["half","number"] (Eo K))(c_number_of:Fnd P w K mg base 14 "number_of" ["half","order"] (Dw K))(c__law_draw:Fnd P w K mg base 1 "_law_draw" ["_law_feed_here","_law_many"] (B2 K))(c__law_an_order:Fnd P w K mg base 2 "_law_an_order" ["_law_feed_here","_law_half_here","_law_over_here"] (D6 K))(c__law_is_order:Fnd P w K mg base 1 "_law_is_order" ["_law_half_here","_law_over_here","_law_thing"] (D4 K))(c__law_bent:Fnd P w K mg base 2 "_law_bent" ["_law_feed_here","_law_half_here","_law_order"] (Fj K))(c__law_number:Fnd P w K mg base 2 "_law_number" ["_law_half_here","_law_over_here","_law_ways_here","_law_order"] (E2 K))(c__law_told:Fnd P w K mg base 28 "_law_told" ["_law_word","_law_half_here","_law_thing"] (Fe K)):FnOk P w K mg base CX0 29 f fd ["_law_feed_here","_law_half_here","_law_over_here","_law_ways_here"] (El K):=by
 refine F.ok sc__law_right (fun vs H Q E h=>?_) (fun cdv A outer s H vs Q E hr h=>?_)
 . obtain⟨d,l,v,r,w,as,ns,ps,ms,kvs,rfl,_⟩:=h
   rfl
 obtain⟨d,l,v,r,w,as,ns,ps,ms,kvs,rfl,hF,hI,hH,hT,hrd,hpm,hsm,hw,hok,k⟩:=h
 have hu:=C2 hr
 have hq:=C1 hr
 have hfew:=hH.few
 have hW:=hH.w
 have hct:=Jm (b:=Ab ps) hW.nd hfew
 have hfl:ns.filter (fun _=>true)=ns:=by simp
 have hk0:Cy ms (fun _=>true)=[]:=by unfold Cy;simp
 have hv0:=hok _ .all
 rw[hk0,hfl] at hv0
 have hwd:w≠d:=by
  obtain⟨_,_,_,_,h1,_⟩:=hF
  exact ne_of hw h1 (by intro z;cases z)
 obtain⟨oD1,oD2,oD3⟩:=a52
 have h6:(10:Int) ^ Int.toNat 6=1000000:=by decide
 with_reducible refine⟨_,(A1 (A7 (i:=4) sc__law_right.nd (by ac_nf) (by eq_refl) (Am (A6 (K:=K) hu) (pv 3) (D8 A2) (by ac_rfl)))
  (A1 (A7 (i:=5) sc__law_right.nd (by ac_nf) (by eq_refl) (B0 c__law_an_order (hr.mono (by decide)) (by ac_nf) (A0 (pv 0) (A0 (pv 1) (A0 (pv 2) A2)))))
  (A1 (A7 (i:=6) sc__law_right.nd (by ac_nf) (by eq_refl) (B0 c__law_number (hr.mono (by decide)) (by ac_nf) (A0 (pv 1) (A0 (pv 2) (A0 (pv 3) (A0 (pv 5) A2))))))
  (A1 (Bv PassesOwn.never (by ac_nf) (An (K:=K) hu (B6 (A0 (Sa M8 A5) (A0 (pv 4) (A0 (Af (Ah (K:=K)) (Af (Ah (K:=K)) (pv 4) A5) (B0 c__law_draw (hr.mono (by decide)) (by ac_nf) (A0 (pv 0) (A0 (Af N6 A5 A5) A2)))) (A0 (Af Dh (Sa M8 A5) (B0 c__law_draw (hr.mono (by decide)) (by ac_nf) (A0 (pv 0) (A0 (Af N6 A5 A5) A2)))) (A0 (Af N6 A5 A5) (A0 (Sa M8 (Af N6 A5 A5)) A2)))))))) (Ae (i:=7) sc__law_right.nd (by ac_nf) (by eq_refl))
  (A1 (A7 (i:=8) sc__law_right.nd (by ac_nf) (by eq_refl) (B6 (A0 Ch (A0 Ch (A0 Ch (A0 Ch (A0 Ch (A0 Ch (A0 (pv 7) A2)))))))))
  (A3 (Be (PW.pt (Rb (Ac (Gk (K:=K) hq) (Aa (Eg (K:=K) hq) (by ac_nf) T.b_repr PyProof.Rows.Boot.«repr» (A0 (B0 c__law_told (hr.mono (by decide)) (by ac_nf) (A0 Ar (A0 (pv 1) (A0 (pv 7) A2)))) A2)) (Aa (Eg (K:=K) hq) (by ac_nf) T.b_repr PyProof.Rows.Boot.«repr» (A0 (pv 8) A2)) (Aj _)) (Kp (Ac (Gk (K:=K) hq) (B0 c_order_of (hr.mono (by decide)) (by ac_nf) (A0 (pv 1) (A0 (pv 6) A2))) (pv 5) (Aj _))))) (A3 (Al Ch)) Ai))))
  (A1 (Bv PassesOwn.never (by ac_nf) (Cc (by ac_nf) T.b_range (A0 A5 A2)) (Ae (i:=9) sc__law_right.nd (by ac_nf) (by eq_refl))
  (A1 (A7 (i:=10) sc__law_right.nd (by ac_nf) (by eq_refl) (B0 c__law_bent (hr.mono (by decide)) (by ac_nf) (A0 (pv 0) (A0 (pv 1) (A0 (pv 5) A2)))))
  (A1 (Bv PassesOwn.never (by ac_nf) (An (K:=K) hu (B6 (A0 Ar (A0 Ar A2)))) (Ae (i:=11) sc__law_right.nd (by ac_nf) (by eq_refl))
  (A1 (A7 (i:=12) sc__law_right.nd (by ac_nf) (by eq_refl) (B0 c__law_told (hr.mono (by decide)) (by ac_nf) (A0 (pv 11) (A0 (pv 1) (A0 (pv 10) A2)))))
  (A1 (Be (PW.pt (O3 (Gi (Ev (B0 c__law_is_order (hr.mono (by decide)) (by ac_nf) (A0 (pv 1) (A0 (pv 2) (A0 (pv 10) A2)))))) (Jf (Ac (Gk (K:=K) hq) (Aa (Eg (K:=K) hq) (by ac_nf) T.b_repr PyProof.Rows.Boot.«repr» (A0 (pv 12) A2)) (Aa (Eg (K:=K) hq) (by ac_nf) T.b_repr PyProof.Rows.Boot.«repr» (A0 (B6 (A0 Ch (A0 Ch (A0 Ch (A0 Ch (A0 Ch (A0 Ch A2))))))) A2)) (Aj _))))) (A3 (Al Ch)) Ai)
  (A3 (Be (PW.pt (O3 (Ev (B0 c__law_is_order (hr.mono (by decide)) (by ac_nf) (A0 (pv 1) (A0 (pv 2) (A0 (pv 10) A2))))) (Jf (Ac (Gk (K:=K) hq) (Aa (Av (K:=K)) (by ac_nf) T.b_len PyProof.Rows.Boot.«len» (A0 (pv 12) A2)) A5 (Aj _))))) (A3 (Al Ch)) Ai)))))
  (A3 (Be (Ac (Gk (K:=K) hq) (B0 c_number_of (hr.mono (by decide)) (by ac_nf) (A0 (pv 1) (A0 (pv 5) A2))) (pv 6) (Aj _)) (A3 (Al Ch)) Ai)))))
  (A3 (Al Ch))))))),?_⟩
 walk_at "rd"
 refine D9 (by decide) fun t1 H1 ht1 e1 h1=>?_
 refine Tw (.inl (e1 _ _ hw)) (key:=[]) h1 hv0 ?_
 have hF1:=hF.same e1
 walk_at "rd"
 refine⟨d,l,v,r,as,ns,ps,rfl,hF1,hI.hf_fz e1.fz,hH,hT.same e1,hrd,fun u row H2 e2 hF2 hT2 hIu hrow=>?_⟩
 have fz2:=e1.fz.trans (hF1.fz e2)
 have hI2:=hI.hf_fz fz2
 have h2w:H2 w=some (.dT kvs):=e2 _ _ hwd (e1 _ _ hw)
 obtain⟨hat,hlt⟩:=On (b:=Ab ps) _ ns row hW.nd rfl hrow
 have hlt':G3 (Ab ps) ns row<cnt (Ab ps) ns:=hlt
 obtain⟨hp,_⟩:=(Dp _ _ _ _ hW.nd rfl).mp hrow
 have hrn:∀ z∈row,M2 z=true:=fun z hz=>hH.names.2 z (hp.mem_iff.mp hz)
 have hrl:row.length<=10:=by rw[hp.length_eq];omega
 have hrd':row.Nodup:=hp.nodup_iff.mpr hH.names.1
 have hsr:SeqAt.shaped (nmD row)=true:=(ag4 (Z4 (p:=1) (W:=70) hrn (by omega))).shaped (by omega)
 walk_at "rd"
 refine⟨v,u,r,w,as,ns,ps,ms,kvs,row,rfl,hI2,hH,hT2,hpm,hsm,h2w,hok,hIu,hrow,fun H3 e3=>?_⟩
 have hF3:=hF2.same e3
 walk_at "rd"
 refine⟨d,l,_,rfl,hF3,by omega,by omega,fun r1 H4 ha0 ha1 e4 hF4=>?_⟩
 walk_at "rd"
 refine⟨d,l,_,rfl,hF4,by omega,by omega,fun r2 H5 hb0 hb1 e5 hF5=>?_⟩
 walk_at "rd"
 refine Ax (A8 (by simp)) fun q6 H6 hq6 e6 h6=>?_
 have hF6:=hF5.same e6
 have fz36:=((e3.fz.trans (hF3.fz e4)).trans (hF4.fz e5)).trans e6.fz
 have hI6:=hI2.hf_fz fz36
 have hIu6:=hIu.nm_fz fz36
 have hT6:=(Ii (Ii (hT2.same e3) hF3 hrd e4) hF4 hrd e5).same e6
 walk_at "rd"
 refine Gr (SqL.of h6) ?_
 refine Dq (Bk (xs:=[V.int (-1),.int ((cnt (Ab ps) ns:Nat):Int),.int (((cnt (Ab ps) ns:Nat):Int)+1+r1),.int (-1-r2),.int (10 ^ Int.toNat 39),.int (-(10 ^ Int.toNat 39))])) (fun i σ H7=>∃ x7 x8 x9 x10 x11 x12,σ=[some (.ref d),some v,some (.ref r),some (.ref w),some (.int ((cnt (Ab ps) ns:Nat):Int)),some u,some (.int ((G3 (Ab ps) ns row:Nat):Int)),x7,x8,x9,x10,x11,x12]/\Same H6 H7) ⟨_,_,_,_,_,_,rfl,.refl _⟩ (fun i σ' H' hP=>?_) (fun i x σ' H7 hx hi hP=>?_) (fun σ' H7 hP=>?_)
 . obtain⟨_,_,_,_,_,_,_,e⟩:=hP
   exact SqL.of (e _ _ h6)
 . obtain⟨x7,x8,x9,x10,x11,x12,rfl,e7⟩:=hP
   obtain⟨m,rfl,hm,hfar⟩:∃ m:Int,x = .int m/\m.natAbs<10 ^ 44/\(m<0\/((cnt (Ab ps) ns:Nat):Int)<=m):=by
    match i,hx with
    | 0,hx=>exact⟨_,by simpa using hx.symm,by decide,by omega⟩
    | 1,hx=>exact⟨_,by simpa using hx.symm,by omega,by omega⟩
    | 2,hx=>exact⟨_,by simpa using hx.symm,by omega,by omega⟩
    | 3,hx=>exact⟨_,by simpa using hx.symm,by omega,by omega⟩
    | 4,hx=>exact⟨_,by simpa using hx.symm,by decide,by omega⟩
    | 5,hx=>exact⟨_,by simpa using hx.symm,by decide,by omega⟩
    | n+6,hx=>simp at hx
   obtain⟨b1,b2,b3⟩:=(af7 hm).told (by omega) (by omega)
   have hI7:=hI6.hf_fz e7.fz
   walk_at "rd"
   refine Ax (A8 (by simp)) fun q8 H8 hq8 e8 h8=>?_
   walk_at "rd"
   refine⟨_,v,_,rfl,.inl ⟨rfl,ns,ps,m,hI7.hf_fz e8.fz,hH,rfl,hm,hfar,fun q9 H9 e9 h9=>?_⟩⟩
   walk_at "rd"
   refine Lj (d:=bD m) (Is.of_lst (SqL.of h9) (IsL.append Qy (.one N0))) b1 b2 b3 ?_
   walk_at "rd"
   refine Lj (d:=bD m) (Is.of_lst (SqL.of (e9 _ _ h8)) (IsL.append Qy (.one N0))) b1 b2 b3 ?_
   walk_at "rd"
   have e79:=e8.trans e9
   refine⟨v,ns,ps,_,row,rfl,hI7.hf_fz e79.fz,hW,hfew,hat,fun u10 H10 e10 hI10=>?_⟩
   walk_at "rd"
   refine Wb hI10 (hIu6.nm_fz ((e7.trans e79).trans e10).fz) hsr hsr ?_
   rw[show PyData.eqv (nmD row) (nmD row)=true from PySem.SeqAt.eqv_refl _ (Bool.and_eq_true_iff.mp hsr).1]
   refine⟨_,rfl,?_⟩
   walk_at "rd"
   exact⟨_,_,_,_,_,_,rfl,(e7.trans e79).trans e10⟩
 obtain⟨x7,x8,x9,x10,x11,x12,rfl,e7⟩:=hP
 have hF7:=hF6.same e7
 have hI7:=hI6.hf_fz e7.fz
 have hIu7:=hIu6.nm_fz e7.fz
 have hT7:=hT6.same e7
 walk_at "rd"
 refine G7 (by omega) ?_
 refine Dq Bq (fun i σ H8=>∃ x7 x8 x9 x10 x11 x12,σ=[some (.ref d),some v,some (.ref r),some (.ref w),some (.int ((cnt (Ab ps) ns:Nat):Int)),some u,some (.int ((G3 (Ab ps) ns row:Nat):Int)),x7,x8,x9,x10,x11,x12]/\Feed H8 d l/\Fz H7 H8/\TabL K H8 r ns as (Way ps)) ⟨_,_,_,_,_,_,rfl,hF7,.refl _,hT7⟩ (fun _ _ _ _=>trivial) (fun i x σ' H8 hx hi hP=>?_) (fun σ' H8 hP=>?_)
 . obtain⟨y7,y8,y9,y10,y11,y12,rfl,hF8,fz8,hT8⟩:=hP
   have hI8:=hI7.hf_fz fz8
   have hIu8:=hIu7.nm_fz fz8
   walk_at "rd"
   refine⟨d,l,v,u,ns,ps,row,rfl,hF8,hI8,hH,hIu8,hrn,hrd',hrl,fun th H9 e9 hF9 hTh9=>?_⟩
   have fz9:=hF8.fz e9
   have hI9:=hI8.hf_fz fz9
   have hT9:=Ii hT8 hF8 hrd e9
   walk_at "rd"
   refine Ax (A8 (by simp)) fun q10 H10 hq10 e10 h10=>?_
   walk_at "rd"
   refine Gr (SqL.of h10) ?_
   refine Dq (Bk (xs:=[V.str "number",.str "next"])) (fun j σ H11=>∃ z11 z12,σ=[some (.ref d),some v,some (.ref r),some (.ref w),some (.int ((cnt (Ab ps) ns:Nat):Int)),some u,some (.int ((G3 (Ab ps) ns row:Nat):Int)),y7,y8,some x,some th,z11,z12]/\Same H10 H11) ⟨_,_,rfl,.refl _⟩ (fun j σ' H' hP=>?_) (fun j y σ' H11 hy hj hP=>?_) (fun σ' H11 hP=>?_)
   . obtain⟨_,_,_,e⟩:=hP
     exact SqL.of (e _ _ h10)
   . obtain⟨z11,z12,rfl,e11⟩:=hP
     obtain⟨wd,rfl,hwd'⟩:∃ wd:Str,y = .str wd/\(wd = "number" \/ wd = "next"):=by
      match j,hy with
      | 0,hy=>exact⟨_,by simpa using hy.symm,.inl rfl⟩
      | 1,hy=>exact⟨_,by simpa using hy.symm,.inr rfl⟩
      | n+2,hy=>simp at hy
     have e911:=e10.trans e11
     have hTh:=hTh9.same e911
     obtain⟨g,hg⟩:=Wy hTh
     have hI11:=hI9.hf_fz e911.fz
     have hT11:=hT9.same e911
     walk_at "rd"
     refine⟨wd,v,th,rfl,.inr ⟨hwd',ns,ps,g,hI11,hH,hg,fun hno q12 H12 e12 h12=>?_,fun hO q12 yy H12 e12 h12=>?_⟩⟩
     . walk_at "rd"
       refine⟨v,th,r,as,ns,ps,g,rfl,hI11.hf_fz e12.fz,hH,hT11.same e12,hg.same e12,fun b H13 e13 hb=>?_⟩
       obtain rfl:b=false:=by
        cases b with
        | false=>rfl
        | true=>exact absurd (hb.mp rfl) hno
       walk_at "rd"
       refine Lj (d:=oD) (Is.of_lst (SqL.of (e13 _ _ h12)) Qy) oD1 oD2 oD3 ?_
       walk_at "rd"
       refine Ax (A8 (by simp)) fun q14 H14 hq14 e14 h14=>?_
       walk_at "rd"
       refine Lj (d:=oD) (Is.of_lst (SqL.of h14) Qy) oD1 oD2 oD3 ?_
       walk_at "rd"
       have e1214:=(e12.trans e13).trans e14
       refine⟨v,th,r,as,ns,ps,g,rfl,hI11.hf_fz e1214.fz,hH,hT11.same e1214,hg.same e1214,fun b H15 e15 hb=>?_⟩
       obtain rfl:b=false:=by
        cases b with
        | false=>rfl
        | true=>exact absurd (hb.mp rfl) hno
       walk_at "rd"
       exact⟨_,_,rfl,(e11.trans e1214).trans e15⟩
     walk_at "rd"
     refine⟨v,th,r,as,ns,ps,g,rfl,hI11.hf_fz e12.fz,hH,hT11.same e12,hg.same e12,fun b H13 e13 hb=>?_⟩
     obtain rfl:=hb.mpr hO
     walk_at "rd"
     have e1213:=e12.trans e13
     refine⟨v,th,r,as,ns,ps,g,rfl,hI11.hf_fz e1213.fz,hH,hT11.same e1213,hg.same e1213,fun b H15 e15 hb=>?_⟩
     obtain rfl:=hb.mpr hO
     have h15:=e15 _ _ (e13 _ _ h12)
     walk_at "rd"
     exact⟨_,_,rfl,(e11.trans e1213).trans e15⟩
   obtain⟨z11,z12,rfl,e11⟩:=hP
   have e911:=e10.trans e11
   walk_at "rd"
   refine⟨v,u,ns,ps,row,rfl,hI9.hf_fz e911.fz,hH,hIu8.nm_fz (fz9.trans e911.fz),hrow,fun H12 e12=>?_⟩
   walk_at "rd"
   have e912:=e911.trans e12
   exact⟨_,_,_,_,_,_,rfl,hF9.same e912,(fz8.trans fz9).trans e912.fz,hT9.same e912⟩
 obtain⟨y7,y8,y9,y10,y11,y12,rfl,hF8,fz8,hT8⟩:=hP
 walk_at "rd"
 exact k H8 hF8
theorem ai7 {f:Addr}{fd:FuncData}(F:Fun K "law" "law" Ky f fd)(T:Ex mg)(c__law_feed:Fnd P w K mg base 1 "_law_feed" ["_law_script"] (Fh K))(c__law_draw:Fnd P w K mg base 1 "_law_draw" ["_law_feed_here","_law_many"] (B2 K))(c__law_half:Fnd P w K mg base 4 "_law_half" ["_law_feed_here","_law_many"] (Fk K))(c__law_over:Fnd P w K mg base 1 "_law_over" ["_law_half_here"] (Ff K))(c__law_ways:Fnd P w K mg base 2 "_law_ways" ["_law_half_here","_law_over_here"] (Fa K))(c__law_right:Fnd P w K mg base 29 "_law_right" ["_law_feed_here","_law_half_here","_law_over_here","_law_ways_here"] (El K)):FnOk P w K mg base CX0 30 f fd ["_law_script"] (spLaw K):=by
 refine F.ok sc_law (fun vs H Q E h=>?_) (fun cdv A outer s H vs Q E hr h=>?_)
 . obtain⟨a,ns,rfl,_⟩:=h
   rfl
 obtain⟨a,ns,rfl,hS,h63,k⟩:=h
 have hu:=C2 hr
 have hq:=C1 hr
 with_reducible refine⟨_,(A1 (A7 (i:=1) sc_law.nd (by ac_nf) (by eq_refl) (B0 c__law_feed (hr.mono (by decide)) (by ac_nf) (A0 (pv 0) A2)))
  (A1 (Bv PassesOwn.never (by ac_nf) (Cc (by ac_nf) T.b_range (A0 A5 A2)) (Ae (i:=2) sc_law.nd (by ac_nf) (by eq_refl))
  (A1 (A7 (i:=3) sc_law.nd (by ac_nf) (by eq_refl) (B0 c__law_half (hr.mono (by decide)) (by ac_nf) (A0 (pv 1) (A0 (B0 c__law_draw (hr.mono (by decide)) (by ac_nf) (A0 (pv 1) (A0 (Af Dh A5 (Af D7 A5 (pv 2))) A2))) A2))))
  (A1 (A7 (i:=4) sc_law.nd (by ac_nf) (by eq_refl) (B0 c__law_over (hr.mono (by decide)) (by ac_nf) (A0 (pv 3) A2)))
  (A3 (Be (Gi (Ev (B0 c__law_right (hr.mono (by decide)) (by ac_nf) (A0 (pv 1) (A0 (pv 3) (A0 (pv 4) (A0 (B0 c__law_ways (hr.mono (by decide)) (by ac_nf) (A0 (pv 3) (A0 (pv 4) A2))) A2))))))) (A3 (Al Ch)) Ai)))))
  (A3 (Al Ch)))),?_⟩
 walk_at "rd"
 refine⟨a,ns,rfl,hS,h63,fun d l H1 hd hl e1 hF=>?_⟩
 walk_at "rd"
 refine G7 (by omega) ?_
 refine Dq Bq (fun i σ H2=>∃ x2 x3 x4,σ=[some (.ref a),some (.ref d),x2,x3,x4]/\Feed H2 d l) ⟨_,_,_,rfl,hF⟩ (fun _ _ _ _=>trivial) (fun i x σ H2 hx hi hP=>?_) (fun σ H2 hP=>?_)
 . obtain⟨x2,x3,x4,rfl,hF2⟩:=hP
   obtain⟨rfl,hi2⟩:=Ek hx
   have hi3:i<2:=by simpa using hi2
   walk_at "rd"
   refine⟨d,l,_,rfl,hF2,by omega,by omega,fun u H3 hu0 hu1 e3 hF3=>?_⟩
   walk_at "rd"
   refine⟨d,l,_,rfl,hF3,by omega,by omega,fun v n s H4 e4 hF4 hI4 hH hl4=>?_⟩
   obtain⟨ms,hpm,hsm⟩:=Tl n
   walk_at "rd"
   refine⟨v,n,s,rfl,hI4,hH.w,hH.few,hH.ok4,fun r as H5 hr5 e5 hT5=>?_⟩
   have hrd:r≠d:=Ne.symm (hF4.nd hr5)
   walk_at "rd"
   refine⟨v,r,as,n,s,ms,rfl,hI4.hf_fz e5.fz,hH,hT5,hpm,hsm,fun w kvs H6 hw e6 h6 hok=>?_⟩
   walk_at "rd"
   refine⟨d,l,v,r,w,as,n,s,ms,kvs,rfl,hF4.same (e5.trans e6),hI4.hf_fz (e5.trans e6).fz,hH,hT5.same e6,hrd,hpm,hsm,h6,hok,fun H7 hF7=>?_⟩
   walk_at "rd"
   exact⟨_,_,_,rfl,hF7⟩
 obtain⟨x2,x3,x4,rfl,hF2⟩:=hP
 walk_at "rd"
 exact k H2
end
theorem all_mk {l:PySem.W.OpenLaw}{w:World}{K:PySem.W.Frag}{h:Heap}{mg:Str->Option Value}{fa f0 f1 f2 f3 f4 f5 f6 f7 f8 f9 f10 f11 f12 f13 f14 f15 f16 f17 f18 f19 f20 f21 f22 f23 f24 f25 f26 f27 f28 f29 C_Ways C_HalfError C_NoName C_NoCover C_NoPlace C_NoOrder C_NoJoin:Addr}(X:K.In h)(G:h.Ns mainGlobals mg)(hfa:mg "law" = some (.ref fa))
  {od0 an0 od1 an1 od2 an2 od3 an3 od4 an4 od5 an5 od6 an6 od7 an7 od8 an8 od9 an9 od10 an10 od11 an11 od12 an12 od13 an13 od14 an14 od15 an15 od16 an16 od17 an17 od18 an18 od19 an19 od20 an20 od21 an21 od22 an22 od23 an23 od24 an24 od25 an25 od26 an26 od27 an27 od28 an28 od29 an29:Option Addr} {sl0 sl1 sl2 sl3 sl4 sl5 sl6 sl7 sl8 sl9 sl10 sl11 sl12 sl13 sl14 sl15 sl16 sl17 sl18 sl19 sl20 sl21 sl22 sl23 sl24 sl25 sl26 sl27 sl28 sl29:Array (Option Value)} {oc0 kV0 dc0 pm0 cd0 ct0 oc1 kV1 dc1 pm1 cd1 ct1 oc2 kV2 dc2 pm2 cd2 ct2 oc3 kV3 dc3 pm3 cd3 ct3 oc4 kV4 dc4 pm4 cd4 ct4 oc5 kV5 dc5 pm5 cd5 ct5 oc6 kV6 dc6 pm6 cd6 ct6 oc7 kV7 dc7 pm7 cd7 ct7 oc8 kV8 dc8 pm8 cd8 ct8 oc9 kV9 dc9 pm9 cd9 ct9 oc10 kV10 dc10 pm10 cd10 ct10 oc11 kV11 dc11 pm11 cd11 ct11 oc12 kV12 dc12 pm12 cd12 ct12 oc13 kV13 dc13 pm13 cd13 ct13 oc14 kV14 dc14 pm14 cd14 ct14 oc15 kV15 dc15 pm15 cd15 ct15 oc16 kV16 dc16 pm16 cd16 ct16 oc17 kV17 dc17 pm17 cd17 ct17 oc18 kV18 dc18 pm18 cd18 ct18 oc19 kV19 dc19 pm19 cd19 ct19 oc20 kV20 dc20 pm20 cd20 ct20 oc21 kV21 dc21 pm21 cd21 ct21 oc22 kV22 dc22 pm22 cd22 ct22 oc23 kV23 dc23 pm23 cd23 ct23 oc24 kV24 dc24 pm24 cd24 ct24 oc25 kV25 dc25 pm25 cd25 ct25 oc26 kV26 dc26 pm26 cd26 ct26 oc27 kV27 dc27 pm27 cd27 ct27 oc28 kV28 dc28 pm28 cd28 ct28 oc29 kV29 dc29 pm29 cd29 ct29:Value}
  (aC_Ways:PySem.W.nsIn K mainGlobals "Ways" = some (some (.ref C_Ways))) (pg_Ways:PySem.W.plainGet K C_Ways Str.empty=true) (hd_Ways:PySem.W.hasDictIn K C_Ways=true) (po_Ways:PySem.W.plainOver K C_Ways=true) (sa_Ways:PySem.W.findIn K (.ref C_Ways) "__setattr__" = some (some (.builtin "object.__setattr__"))) (mk_Ways:PySem.W.makesIn K C_Ways=true) (kc_Ways:PySem.W.keepIn K (.ref C_Ways)=true)
  (n_Ways_names:PySem.W.findIn K (.ref C_Ways) "names" = some none)
  (n_Ways_bits:PySem.W.findIn K (.ref C_Ways) "bits" = some none)
  (n_Ways_ahead:PySem.W.findIn K (.ref C_Ways) "ahead" = some none)
  (n_Ways_full:PySem.W.findIn K (.ref C_Ways) "full" = some none)
  (n_Ways_known:PySem.W.findIn K (.ref C_Ways) "known" = some none)
  (cg:PySem.W.specialIn K (.builtin "object.__class__") "__get__" = some (some (.builtin "getset_descriptor.__get__"))) (ct:PySem.W.takesIn K (.builtin "object.__class__")=some true)
  (aX_HalfError:PySem.W.nsIn K mainGlobals "HalfError" = some (some (.ref C_HalfError)))
  (aX_NoName:PySem.W.nsIn K mainGlobals "NoName" = some (some (.ref C_NoName)))
  (aX_NoCover:PySem.W.nsIn K mainGlobals "NoCover" = some (some (.ref C_NoCover)))
  (aX_NoPlace:PySem.W.nsIn K mainGlobals "NoPlace" = some (some (.ref C_NoPlace)))
  (aX_NoOrder:PySem.W.nsIn K mainGlobals "NoOrder" = some (some (.ref C_NoOrder)))
  (aX_NoJoin:PySem.W.nsIn K mainGlobals "NoJoin" = some (some (.ref C_NoJoin)))
  (ex_HalfError:Tt K C_HalfError=true) (sX_HalfError:PySem.W.findIn K (.ref C_HalfError) "__setattr__" = some (some (.builtin "object.__setattr__"))) (gX_HalfError:PySem.W.findIn K (.ref C_HalfError) "__getattribute__" = some (some (.builtin "BaseException.__getattribute__"))) (tX_HalfError:PySem.W.findIn K (.ref C_HalfError) "__getattr__" = some none) (lX_HalfError:PySem.W.findIn K (.ref C_HalfError) "__class__" = some (some (.builtin "object.__class__")))
  (no_HalfError:Su K C_HalfError=true)
  (kX_HalfError:PySem.W.keepIn K (.ref C_HalfError)=true)
  (ex_NoName:Tt K C_NoName=true) (sX_NoName:PySem.W.findIn K (.ref C_NoName) "__setattr__" = some (some (.builtin "object.__setattr__"))) (gX_NoName:PySem.W.findIn K (.ref C_NoName) "__getattribute__" = some (some (.builtin "BaseException.__getattribute__"))) (tX_NoName:PySem.W.findIn K (.ref C_NoName) "__getattr__" = some none) (lX_NoName:PySem.W.findIn K (.ref C_NoName) "__class__" = some (some (.builtin "object.__class__")))
  (mr_NoName:G1 K C_NoName C_HalfError=true)
  (kX_NoName:PySem.W.keepIn K (.ref C_NoName)=true)
  (nX_NoName_name:PySem.W.findIn K (.ref C_NoName) "name" = some none)
  (ex_NoCover:Tt K C_NoCover=true) (sX_NoCover:PySem.W.findIn K (.ref C_NoCover) "__setattr__" = some (some (.builtin "object.__setattr__"))) (gX_NoCover:PySem.W.findIn K (.ref C_NoCover) "__getattribute__" = some (some (.builtin "BaseException.__getattribute__"))) (tX_NoCover:PySem.W.findIn K (.ref C_NoCover) "__getattr__" = some none) (lX_NoCover:PySem.W.findIn K (.ref C_NoCover) "__class__" = some (some (.builtin "object.__class__")))
  (mr_NoCover:G1 K C_NoCover C_HalfError=true)
  (no_NoCover:Su K C_NoCover=true)
  (kX_NoCover:PySem.W.keepIn K (.ref C_NoCover)=true)
  (ex_NoPlace:Tt K C_NoPlace=true) (sX_NoPlace:PySem.W.findIn K (.ref C_NoPlace) "__setattr__" = some (some (.builtin "object.__setattr__"))) (gX_NoPlace:PySem.W.findIn K (.ref C_NoPlace) "__getattribute__" = some (some (.builtin "BaseException.__getattribute__"))) (tX_NoPlace:PySem.W.findIn K (.ref C_NoPlace) "__getattr__" = some none) (lX_NoPlace:PySem.W.findIn K (.ref C_NoPlace) "__class__" = some (some (.builtin "object.__class__")))
  (mr_NoPlace:G1 K C_NoPlace C_HalfError=true)
  (kX_NoPlace:PySem.W.keepIn K (.ref C_NoPlace)=true)
  (nX_NoPlace_number:PySem.W.findIn K (.ref C_NoPlace) "number" = some none)
  (ex_NoOrder:Tt K C_NoOrder=true) (sX_NoOrder:PySem.W.findIn K (.ref C_NoOrder) "__setattr__" = some (some (.builtin "object.__setattr__"))) (gX_NoOrder:PySem.W.findIn K (.ref C_NoOrder) "__getattribute__" = some (some (.builtin "BaseException.__getattribute__"))) (tX_NoOrder:PySem.W.findIn K (.ref C_NoOrder) "__getattr__" = some none) (lX_NoOrder:PySem.W.findIn K (.ref C_NoOrder) "__class__" = some (some (.builtin "object.__class__")))
  (mr_NoOrder:G1 K C_NoOrder C_HalfError=true)
  (no_NoOrder:Su K C_NoOrder=true)
  (kX_NoOrder:PySem.W.keepIn K (.ref C_NoOrder)=true)
  (ex_NoJoin:Tt K C_NoJoin=true) (sX_NoJoin:PySem.W.findIn K (.ref C_NoJoin) "__setattr__" = some (some (.builtin "object.__setattr__"))) (gX_NoJoin:PySem.W.findIn K (.ref C_NoJoin) "__getattribute__" = some (some (.builtin "BaseException.__getattribute__"))) (tX_NoJoin:PySem.W.findIn K (.ref C_NoJoin) "__getattr__" = some none) (lX_NoJoin:PySem.W.findIn K (.ref C_NoJoin) "__class__" = some (some (.builtin "object.__class__")))
  (mr_NoJoin:G1 K C_NoJoin C_HalfError=true)
  (kX_NoJoin:PySem.W.keepIn K (.ref C_NoJoin)=true)
  (nX_NoJoin_word:PySem.W.findIn K (.ref C_NoJoin) "word" = some none)
  (ndX:([C_HalfError,C_NoCover,C_NoJoin,C_NoName,C_NoOrder,C_NoPlace]:List Addr).Nodup)
  (a0:PySem.W.nsIn K mainGlobals "behind_each" = some (some (.ref f0))) (l0:K.lookup f0=some ⟨oc0,od0,.func (PySem.W.fnOf "behind_each" "behind_each" (Ag Bz) (Ad Bz) (A4 Bz) .none kV0 dc0 pm0 an0 cd0 ct0),sl0⟩) (c0:PySem.W.codeIn K cd0 "behind_each" = true) (k0:PySem.W.keepIn K (.ref f0)=true)
  (a1:PySem.W.nsIn K mainGlobals "bits_of" = some (some (.ref f1))) (l1:K.lookup f1=some ⟨oc1,od1,.func (PySem.W.fnOf "bits_of" "bits_of" (Ag E8) (Ad E8) (A4 E8) .none kV1 dc1 pm1 an1 cd1 ct1),sl1⟩) (c1:PySem.W.codeIn K cd1 "bits_of" = true) (k1:PySem.W.keepIn K (.ref f1)=true)
  (a2:PySem.W.nsIn K mainGlobals "bits_ahead" = some (some (.ref f2))) (l2:K.lookup f2=some ⟨oc2,od2,.func (PySem.W.fnOf "bits_ahead" "bits_ahead" (Ag Ca) (Ad Ca) (A4 Ca) .none kV2 dc2 pm2 an2 cd2 ct2),sl2⟩) (c2:PySem.W.codeIn K cd2 "bits_ahead" = true) (k2:PySem.W.keepIn K (.ref f2)=true)
  (a3:PySem.W.nsIn K mainGlobals "count" = some (some (.ref f3))) (l3:K.lookup f3=some ⟨oc3,od3,.func (PySem.W.fnOf "count" "count" (Ag Gw) (Ad Gw) (A4 Gw) .none kV3 dc3 pm3 an3 cd3 ct3),sl3⟩) (c3:PySem.W.codeIn K cd3 "count" = true) (k3:PySem.W.keepIn K (.ref f3)=true)
  (a4:PySem.W.nsIn K mainGlobals "is_order" = some (some (.ref f4))) (l4:K.lookup f4=some ⟨oc4,od4,.func (PySem.W.fnOf "is_order" "is_order" (Ag De) (Ad De) (A4 De) .none kV4 dc4 pm4 an4 cd4 ct4),sl4⟩) (c4:PySem.W.codeIn K cd4 "is_order" = true) (k4:PySem.W.keepIn K (.ref f4)=true)
  (a5:PySem.W.nsIn K mainGlobals "refuse_no_order" = some (some (.ref f5))) (l5:K.lookup f5=some ⟨oc5,od5,.func (PySem.W.fnOf "refuse_no_order" "refuse_no_order" (Ag Aw) (Ad Aw) (A4 Aw) .none kV5 dc5 pm5 an5 cd5 ct5),sl5⟩) (c5:PySem.W.codeIn K cd5 "refuse_no_order" = true) (k5:PySem.W.keepIn K (.ref f5)=true)
  (a6:PySem.W.nsIn K mainGlobals "order_on" = some (some (.ref f6))) (l6:K.lookup f6=some ⟨oc6,od6,.func (PySem.W.fnOf "order_on" "order_on" (Ag Ck) (Ad Ck) (A4 Ck) .none kV6 dc6 pm6 an6 cd6 ct6),sl6⟩) (c6:PySem.W.codeIn K cd6 "order_on" = true) (k6:PySem.W.keepIn K (.ref f6)=true)
  (a7:PySem.W.nsIn K mainGlobals "order_of" = some (some (.ref f7))) (l7:K.lookup f7=some ⟨oc7,od7,.func (PySem.W.fnOf "order_of" "order_of" (Ag Ct) (Ad Ct) (A4 Ct) .none kV7 dc7 pm7 an7 cd7 ct7),sl7⟩) (c7:PySem.W.codeIn K cd7 "order_of" = true) (k7:PySem.W.keepIn K (.ref f7)=true)
  (a8:PySem.W.nsIn K mainGlobals "number_of" = some (some (.ref f8))) (l8:K.lookup f8=some ⟨oc8,od8,.func (PySem.W.fnOf "number_of" "number_of" (Ag C5) (Ad C5) (A4 C5) .none kV8 dc8 pm8 an8 cd8 ct8),sl8⟩) (c8:PySem.W.codeIn K cd8 "number_of" = true) (k8:PySem.W.keepIn K (.ref f8)=true)
  (a9:PySem.W.nsIn K mainGlobals "next_order" = some (some (.ref f9))) (l9:K.lookup f9=some ⟨oc9,od9,.func (PySem.W.fnOf "next_order" "next_order" (Ag C9) (Ad C9) (A4 C9) .none kV9 dc9 pm9 an9 cd9 ct9),sl9⟩) (c9:PySem.W.codeIn K cd9 "next_order" = true) (k9:PySem.W.keepIn K (.ref f9)=true)
  (a10:PySem.W.nsIn K mainGlobals "_law_feed" = some (some (.ref f10))) (l10:K.lookup f10=some ⟨oc10,od10,.func (PySem.W.fnOf "_law_feed" "_law_feed" (Ag Cl) (Ad Cl) (A4 Cl) .none kV10 dc10 pm10 an10 cd10 ct10),sl10⟩) (c10:PySem.W.codeIn K cd10 "_law_feed" = true) (k10:PySem.W.keepIn K (.ref f10)=true)
  (a11:PySem.W.nsIn K mainGlobals "_law_draw" = some (some (.ref f11))) (l11:K.lookup f11=some ⟨oc11,od11,.func (PySem.W.fnOf "_law_draw" "_law_draw" (Ag Cr) (Ad Cr) (A4 Cr) .none kV11 dc11 pm11 an11 cd11 ct11),sl11⟩) (c11:PySem.W.codeIn K cd11 "_law_draw" = true) (k11:PySem.W.keepIn K (.ref f11)=true)
  (a12:PySem.W.nsIn K mainGlobals "_law_shuffled" = some (some (.ref f12))) (l12:K.lookup f12=some ⟨oc12,od12,.func (PySem.W.fnOf "_law_shuffled" "_law_shuffled" (Ag Bh) (Ad Bh) (A4 Bh) .none kV12 dc12 pm12 an12 cd12 ct12),sl12⟩) (c12:PySem.W.codeIn K cd12 "_law_shuffled" = true) (k12:PySem.W.keepIn K (.ref f12)=true)
  (a13:PySem.W.nsIn K mainGlobals "_law_names" = some (some (.ref f13))) (l13:K.lookup f13=some ⟨oc13,od13,.func (PySem.W.fnOf "_law_names" "_law_names" (Ag C7) (Ad C7) (A4 C7) .none kV13 dc13 pm13 an13 cd13 ct13),sl13⟩) (c13:PySem.W.codeIn K cd13 "_law_names" = true) (k13:PySem.W.keepIn K (.ref f13)=true)
  (a14:PySem.W.nsIn K mainGlobals "_law_is_laid" = some (some (.ref f14))) (l14:K.lookup f14=some ⟨oc14,od14,.func (PySem.W.fnOf "_law_is_laid" "_law_is_laid" (Ag Bs) (Ad Bs) (A4 Bs) .none kV14 dc14 pm14 an14 cd14 ct14),sl14⟩) (c14:PySem.W.codeIn K cd14 "_law_is_laid" = true) (k14:PySem.W.keepIn K (.ref f14)=true)
  (a15:PySem.W.nsIn K mainGlobals "_law_half" = some (some (.ref f15))) (l15:K.lookup f15=some ⟨oc15,od15,.func (PySem.W.fnOf "_law_half" "_law_half" (Ag Co) (Ad Co) (A4 Co) .none kV15 dc15 pm15 an15 cd15 ct15),sl15⟩) (c15:PySem.W.codeIn K cd15 "_law_half" = true) (k15:PySem.W.keepIn K (.ref f15)=true)
  (a16:PySem.W.nsIn K mainGlobals "_law_over" = some (some (.ref f16))) (l16:K.lookup f16=some ⟨oc16,od16,.func (PySem.W.fnOf "_law_over" "_law_over" (Ag Cj) (Ad Cj) (A4 Cj) .none kV16 dc16 pm16 an16 cd16 ct16),sl16⟩) (c16:PySem.W.codeIn K cd16 "_law_over" = true) (k16:PySem.W.keepIn K (.ref f16)=true)
  (a17:PySem.W.nsIn K mainGlobals "_law_next_ones" = some (some (.ref f17))) (l17:K.lookup f17=some ⟨oc17,od17,.func (PySem.W.fnOf "_law_next_ones" "_law_next_ones" (Ag B8) (Ad B8) (A4 B8) .none kV17 dc17 pm17 an17 cd17 ct17),sl17⟩) (c17:PySem.W.codeIn K cd17 "_law_next_ones" = true) (k17:PySem.W.keepIn K (.ref f17)=true)
  (a18:PySem.W.nsIn K mainGlobals "_law_an_order" = some (some (.ref f18))) (l18:K.lookup f18=some ⟨oc18,od18,.func (PySem.W.fnOf "_law_an_order" "_law_an_order" (Ag Bi) (Ad Bi) (A4 Bi) .none kV18 dc18 pm18 an18 cd18 ct18),sl18⟩) (c18:PySem.W.codeIn K cd18 "_law_an_order" = true) (k18:PySem.W.keepIn K (.ref f18)=true)
  (a19:PySem.W.nsIn K mainGlobals "_law_is_order" = some (some (.ref f19))) (l19:K.lookup f19=some ⟨oc19,od19,.func (PySem.W.fnOf "_law_is_order" "_law_is_order" (Ag Bj) (Ad Bj) (A4 Bj) .none kV19 dc19 pm19 an19 cd19 ct19),sl19⟩) (c19:PySem.W.codeIn K cd19 "_law_is_order" = true) (k19:PySem.W.keepIn K (.ref f19)=true)
  (a20:PySem.W.nsIn K mainGlobals "_law_bent" = some (some (.ref f20))) (l20:K.lookup f20=some ⟨oc20,od20,.func (PySem.W.fnOf "_law_bent" "_law_bent" (Ag Cs) (Ad Cs) (A4 Cs) .none kV20 dc20 pm20 an20 cd20 ct20),sl20⟩) (c20:PySem.W.codeIn K cd20 "_law_bent" = true) (k20:PySem.W.keepIn K (.ref f20)=true)
  (a21:PySem.W.nsIn K mainGlobals "_law_ways" = some (some (.ref f21))) (l21:K.lookup f21=some ⟨oc21,od21,.func (PySem.W.fnOf "_law_ways" "_law_ways" (Ag Cn) (Ad Cn) (A4 Cn) .none kV21 dc21 pm21 an21 cd21 ct21),sl21⟩) (c21:PySem.W.codeIn K cd21 "_law_ways" = true) (k21:PySem.W.keepIn K (.ref f21)=true)
  (a22:PySem.W.nsIn K mainGlobals "_law_number" = some (some (.ref f22))) (l22:K.lookup f22=some ⟨oc22,od22,.func (PySem.W.fnOf "_law_number" "_law_number" (Ag By) (Ad By) (A4 By) .none kV22 dc22 pm22 an22 cd22 ct22),sl22⟩) (c22:PySem.W.codeIn K cd22 "_law_number" = true) (k22:PySem.W.keepIn K (.ref f22)=true)
  (a23:PySem.W.nsIn K mainGlobals "_law_told" = some (some (.ref f23))) (l23:K.lookup f23=some ⟨oc23,od23,.func (PySem.W.fnOf "_law_told" "_law_told" (Ag Cv) (Ad Cv) (A4 Cv) .none kV23 dc23 pm23 an23 cd23 ct23),sl23⟩) (c23:PySem.W.codeIn K cd23 "_law_told" = true) (k23:PySem.W.keepIn K (.ref f23)=true)
  (a24:PySem.W.nsIn K mainGlobals "_law_right" = some (some (.ref f24))) (l24:K.lookup f24=some ⟨oc24,od24,.func (PySem.W.fnOf "_law_right" "_law_right" (Ag C8) (Ad C8) (A4 C8) .none kV24 dc24 pm24 an24 cd24 ct24),sl24⟩) (c24:PySem.W.codeIn K cd24 "_law_right" = true) (k24:PySem.W.keepIn K (.ref f24)=true)
  (a25:PySem.W.nsIn K mainGlobals "law" = some (some (.ref f25))) (l25:K.lookup f25=some ⟨oc25,od25,.func (PySem.W.fnOf "law" "law" (Ag Ky) (Ad Ky) (A4 Ky) .none kV25 dc25 pm25 an25 cd25 ct25),sl25⟩) (c25:PySem.W.codeIn K cd25 "law" = true) (k25:PySem.W.keepIn K (.ref f25)=true)
  (a26:PySem.W.findIn K (.ref C_Ways) "__init__" = some (some (.ref f26))) (i26:PySem.W.isFn K (.ref f26)=true) (l26:K.lookup f26=some ⟨oc26,od26,.func (PySem.W.fnOf "__init__" "Ways.__init__" (Ag Cu) (Ad Cu) (A4 Cu) .none kV26 dc26 pm26 an26 cd26 ct26),sl26⟩) (c26:PySem.W.codeIn K cd26 "Ways.__init__" = true) (k26:PySem.W.keepIn K (.ref f26)=true)
  (a27:PySem.W.findIn K (.ref C_Ways) "free_names" = some (some (.ref f27))) (i27:PySem.W.isFn K (.ref f27)=true) (l27:K.lookup f27=some ⟨oc27,od27,.func (PySem.W.fnOf "free_names" "Ways.free_names" (Ag B3) (Ad B3) (A4 B3) .none kV27 dc27 pm27 an27 cd27 ct27),sl27⟩) (c27:PySem.W.codeIn K cd27 "Ways.free_names" = true) (k27:PySem.W.keepIn K (.ref f27)=true)
  (a28:PySem.W.findIn K (.ref C_Ways) "ways_on" = some (some (.ref f28))) (i28:PySem.W.isFn K (.ref f28)=true) (l28:K.lookup f28=some ⟨oc28,od28,.func (PySem.W.fnOf "ways_on" "Ways.ways_on" (Ag Bb) (Ad Bb) (A4 Bb) .none kV28 dc28 pm28 an28 cd28 ct28),sl28⟩) (c28:PySem.W.codeIn K cd28 "Ways.ways_on" = true) (k28:PySem.W.keepIn K (.ref f28)=true)
  (a29:PySem.W.findIn K (.ref C_NoPlace) "__init__" = some (some (.ref f29))) (i29:PySem.W.isFn K (.ref f29)=true) (l29:K.lookup f29=some ⟨oc29,od29,.func (PySem.W.fnOf "__init__" "NoPlace.__init__" (Ag Br) (Ad Br) (A4 Br) .none kV29 dc29 pm29 an29 cd29 ct29),sl29⟩) (c29:PySem.W.codeIn K cd29 "NoPlace.__init__" = true) (k29:PySem.W.keepIn K (.ref f29)=true)
  (z0:PySem.W.nsIn K mainGlobals "ValueError" = some none)
  (z1:PySem.W.nsIn K mainGlobals "all" = some none)
  (z2:PySem.W.nsIn K mainGlobals "dict" = some none)
  (z3:PySem.W.nsIn K mainGlobals "int" = some none)
  (z4:PySem.W.nsIn K mainGlobals "isinstance" = some none)
  (z5:PySem.W.nsIn K mainGlobals "len" = some none)
  (z6:PySem.W.nsIn K mainGlobals "list" = some none)
  (z7:PySem.W.nsIn K mainGlobals "range" = some none)
  (z8:PySem.W.nsIn K mainGlobals "repr" = some none)
  (z9:PySem.W.nsIn K mainGlobals "sorted" = some none)
  (z10:PySem.W.nsIn K mainGlobals "str" = some none)
  (z11:PySem.W.nsIn K mainGlobals "sum" = some none)
  (z12:PySem.W.nsIn K mainGlobals "tuple" = some none)
  (z13:PySem.W.nsIn K mainGlobals "zip" = some none)
  : ∃ fd:FuncData,(∀(s:Shared) (v:Value),BindsTo s fd ⟨[v],[]⟩ [("_law_script",v)])/\∀ base:Heap,K.In base->base.Ns mainGlobals mg->FnOk l.prog w K mg base CX0 30 fa fd ["_law_script"] (spLaw K):=by
 have e:=hfa.symm.trans (PySem.W.mg_of X G a25)
 cases e
 have T:Ex mg:=⟨PySem.W.mg_none_of X G z0,PySem.W.mg_none_of X G z1,PySem.W.mg_none_of X G z2,PySem.W.mg_none_of X G z3,PySem.W.mg_none_of X G z4,PySem.W.mg_none_of X G z5,PySem.W.mg_none_of X G z6,PySem.W.mg_none_of X G z7,PySem.W.mg_none_of X G z8,PySem.W.mg_none_of X G z9,PySem.W.mg_none_of X G z10,PySem.W.mg_none_of X G z11,PySem.W.mg_none_of X G z12,PySem.W.mg_none_of X G z13⟩
 have F0:=B5 (st:=Bz) l0 c0 k0
 have b0:Binds K _ ["half"] []:=Ka F0 fun _ _ _ _ _ _ _=>rfl
 have F1:=B5 (st:=E8) l1 c1 k1
 have b1:Binds K _ ["names"] []:=Ka F1 fun _ _ _ _ _ _ _=>rfl
 have F2:=B5 (st:=Ca) l2 c2 k2
 have b2:Binds K _ ["half","bits"] []:=Dr F2 fun _ _ _ _ _ _ _ _=>rfl
 have F3:=B5 (st:=Gw) l3 c3 k3
 have b3:Binds K _ ["half"] []:=Ka F3 fun _ _ _ _ _ _ _=>rfl
 have F4:=B5 (st:=De) l4 c4 k4
 have b4:Binds K _ ["half","thing"] []:=Dr F4 fun _ _ _ _ _ _ _ _=>rfl
 have F5:=B5 (st:=Aw) l5 c5 k5
 have b5:Binds K _ ["half","thing"] []:=Dr F5 fun _ _ _ _ _ _ _ _=>rfl
 have F6:=B5 (st:=Ck) l6 c6 k6
 have b6:Binds K _ ["ways","left","number"] []:=Kl F6 fun _ _ _ _ _ _ _ _ _=>rfl
 have F7:=B5 (st:=Ct) l7 c7 k7
 have b7:Binds K _ ["half","number"] []:=Dr F7 fun _ _ _ _ _ _ _ _=>rfl
 have F8:=B5 (st:=C5) l8 c8 k8
 have b8:Binds K _ ["half","order"] []:=Dr F8 fun _ _ _ _ _ _ _ _=>rfl
 have F9:=B5 (st:=C9) l9 c9 k9
 have b9:Binds K _ ["half","order"] []:=Dr F9 fun _ _ _ _ _ _ _ _=>rfl
 have F10:=B5 (st:=Cl) l10 c10 k10
 have b10:Binds K _ ["_law_script"] []:=Ka F10 fun _ _ _ _ _ _ _=>rfl
 have F11:=B5 (st:=Cr) l11 c11 k11
 have b11:Binds K _ ["_law_feed_here","_law_many"] []:=Dr F11 fun _ _ _ _ _ _ _ _=>rfl
 have F12:=B5 (st:=Bh) l12 c12 k12
 have b12:Binds K _ ["_law_feed_here","_law_some"] []:=Dr F12 fun _ _ _ _ _ _ _ _=>rfl
 have F13:=B5 (st:=C7) l13 c13 k13
 have b13:Binds K _ ["_law_feed_here"] []:=Ka F13 fun _ _ _ _ _ _ _=>rfl
 have F14:=B5 (st:=Bs) l14 c14 k14
 have b14:Binds K _ ["_law_feed_here","_law_way","_law_j","_law_k","_law_many"] []:=ae1 F14 fun _ _ _ _ _ _ _ _ _ _ _=>rfl
 have F15:=B5 (st:=Co) l15 c15 k15
 have b15:Binds K _ ["_law_feed_here","_law_many"] []:=Dr F15 fun _ _ _ _ _ _ _ _=>rfl
 have F16:=B5 (st:=Cj) l16 c16 k16
 have b16:Binds K _ ["_law_half_here"] []:=Ka F16 fun _ _ _ _ _ _ _=>rfl
 have F17:=B5 (st:=B8) l17 c17 k17
 have b17:Binds K _ ["_law_half_here","_law_over_here","_law_begun"] []:=Kl F17 fun _ _ _ _ _ _ _ _ _=>rfl
 have F18:=B5 (st:=Bi) l18 c18 k18
 have b18:Binds K _ ["_law_feed_here","_law_half_here","_law_over_here"] []:=Kl F18 fun _ _ _ _ _ _ _ _ _=>rfl
 have F19:=B5 (st:=Bj) l19 c19 k19
 have b19:Binds K _ ["_law_half_here","_law_over_here","_law_thing"] []:=Kl F19 fun _ _ _ _ _ _ _ _ _=>rfl
 have F20:=B5 (st:=Cs) l20 c20 k20
 have b20:Binds K _ ["_law_feed_here","_law_half_here","_law_order"] []:=Kl F20 fun _ _ _ _ _ _ _ _ _=>rfl
 have F21:=B5 (st:=Cn) l21 c21 k21
 have b21:Binds K _ ["_law_half_here","_law_over_here"] []:=Dr F21 fun _ _ _ _ _ _ _ _=>rfl
 have F22:=B5 (st:=By) l22 c22 k22
 have b22:Binds K _ ["_law_half_here","_law_over_here","_law_ways_here","_law_order"] []:=Y9 F22 fun _ _ _ _ _ _ _ _ _ _=>rfl
 have F23:=B5 (st:=Cv) l23 c23 k23
 have b23:Binds K _ ["_law_word","_law_half_here","_law_thing"] []:=Kl F23 fun _ _ _ _ _ _ _ _ _=>rfl
 have F24:=B5 (st:=C8) l24 c24 k24
 have b24:Binds K _ ["_law_feed_here","_law_half_here","_law_over_here","_law_ways_here"] []:=Y9 F24 fun _ _ _ _ _ _ _ _ _ _=>rfl
 have F25:=B5 (st:=Ky) l25 c25 k25
 have F26:=B5 (st:=Cu) l26 c26 k26
 have b26:Binds K _ ["self","half"] []:=Dr F26 fun _ _ _ _ _ _ _ _=>rfl
 have F27:=B5 (st:=B3) l27 c27 k27
 have b27:Binds K _ ["self","left"] []:=Dr F27 fun _ _ _ _ _ _ _ _=>rfl
 have F28:=B5 (st:=Bb) l28 c28 k28
 have b28:Binds K _ ["self","left"] []:=Dr F28 fun _ _ _ _ _ _ _ _=>rfl
 have F29:=B5 (st:=Br) l29 c29 k29
 have b29:Binds K _ ["self","number"] []:=Dr F29 fun _ _ _ _ _ _ _ _=>rfl
 have k_Ways:C3 K C_Ways:=⟨⟨pg_Ways,hd_Ways,po_Ways,sa_Ways⟩,n_Ways_names,n_Ways_bits,n_Ways_ahead,n_Ways_full,n_Ways_known⟩
 have x_HalfError:Bm K mg C_HalfError C_HalfError:=⟨⟨ex_HalfError,sX_HalfError,gX_HalfError,tX_HalfError,lX_HalfError,cg,ct⟩,PySem.W.mg_of X G aX_HalfError,⟨⟨ex_HalfError,sX_HalfError,gX_HalfError,tX_HalfError,lX_HalfError,cg,ct⟩,no_HalfError,kX_HalfError,PySem.W.mg_of X G aX_HalfError⟩⟩
 have x_NoName:Dd K mg C_NoName C_HalfError:=⟨⟨ex_NoName,sX_NoName,gX_NoName,tX_NoName,lX_NoName,cg,ct⟩,PySem.W.mg_of X G aX_NoName,mr_NoName,nX_NoName_name⟩
 have x_NoCover:Jb K mg C_NoCover C_HalfError:=⟨⟨ex_NoCover,sX_NoCover,gX_NoCover,tX_NoCover,lX_NoCover,cg,ct⟩,PySem.W.mg_of X G aX_NoCover,mr_NoCover,⟨⟨ex_NoCover,sX_NoCover,gX_NoCover,tX_NoCover,lX_NoCover,cg,ct⟩,no_NoCover,kX_NoCover,PySem.W.mg_of X G aX_NoCover⟩⟩
 have x_NoPlace:Dn K mg C_NoPlace C_HalfError:=⟨⟨ex_NoPlace,sX_NoPlace,gX_NoPlace,tX_NoPlace,lX_NoPlace,cg,ct⟩,PySem.W.mg_of X G aX_NoPlace,mr_NoPlace,nX_NoPlace_number⟩
 have x_NoOrder:Do K mg C_NoOrder C_HalfError:=⟨⟨ex_NoOrder,sX_NoOrder,gX_NoOrder,tX_NoOrder,lX_NoOrder,cg,ct⟩,PySem.W.mg_of X G aX_NoOrder,mr_NoOrder,⟨⟨ex_NoOrder,sX_NoOrder,gX_NoOrder,tX_NoOrder,lX_NoOrder,cg,ct⟩,no_NoOrder,kX_NoOrder,PySem.W.mg_of X G aX_NoOrder⟩⟩
 have x_NoJoin:Kh K mg C_NoJoin C_HalfError:=⟨⟨ex_NoJoin,sX_NoJoin,gX_NoJoin,tX_NoJoin,lX_NoJoin,cg,ct⟩,PySem.W.mg_of X G aX_NoJoin,mr_NoJoin,nX_NoJoin_word⟩
 refine⟨PySem.W.fnOf "law" "law" (Ag Ky) (Ad Ky) (A4 Ky) .none kV25 dc25 pm25 an25 cd25 ct25,fun s v=>.of_eq rfl,fun base _ _=>?_⟩
 have c_behind_each:Fnd l.prog w K mg base 1 "behind_each" ["half"] (Dz K):=⟨_,_,Jz F0 T,PySem.W.mg_of X G a0,k0,b0⟩
 have c_bits_of:Fnd l.prog w K mg base 1 "bits_of" ["names"] (Gp K):=⟨_,_,Qj F1 T,PySem.W.mg_of X G a1,k1,b1⟩
 have c_is_order:Fnd l.prog w K mg base 1 "is_order" ["half","thing"] (Em K):=⟨_,_,Od F4 T,PySem.W.mg_of X G a4,k4,b4⟩
 have c__law_feed:Fnd l.prog w K mg base 1 "_law_feed" ["_law_script"] (Fh K):=⟨_,_,Nm F10 T,PySem.W.mg_of X G a10,k10,b10⟩
 have c__law_draw:Fnd l.prog w K mg base 1 "_law_draw" ["_law_feed_here","_law_many"] (B2 K):=⟨_,_,Mx F11 T,PySem.W.mg_of X G a11,k11,b11⟩
 have c__law_over:Fnd l.prog w K mg base 1 "_law_over" ["_law_half_here"] (Ff K):=⟨_,_,Mm F16 T,PySem.W.mg_of X G a16,k16,b16⟩
 have c__law_next_ones:Fnd l.prog w K mg base 1 "_law_next_ones" ["_law_half_here","_law_over_here","_law_begun"] (Bl K):=⟨_,_,Hh F17 T,PySem.W.mg_of X G a17,k17,b17⟩
 have c__law_is_order:Fnd l.prog w K mg base 1 "_law_is_order" ["_law_half_here","_law_over_here","_law_thing"] (D4 K):=⟨_,_,Hx F19 T,PySem.W.mg_of X G a19,k19,b19⟩
 have c_Ways_free_names:Mtd l.prog w K mg base 1 C_Ways "free_names" ["self","left"] (As C_Ways K):=⟨_,_,G6 F27 T k_Ways,⟨a27,i27,k27⟩,b27⟩
 have c_NoPlace_init:Mkx l.prog w K mg base 1 C_NoPlace "NoPlace" ["self","number"] (spX C_NoPlace ["number"]):=⟨_,_,Jt F29 T x_HalfError x_NoPlace,x_NoPlace.xc,a29,i29,kX_NoPlace,PySem.W.mg_of X G aX_NoPlace,b29⟩
 have c_bits_ahead:Fnd l.prog w K mg base 2 "bits_ahead" ["half","bits"] (Ed K):=⟨_,_,L6 F2 T c_behind_each,PySem.W.mg_of X G a2,k2,b2⟩
 have c_refuse_no_order:Fnd l.prog w K mg base 2 "refuse_no_order" ["half","thing"] (Bu K):=⟨_,_,Gd F5 T c_is_order,PySem.W.mg_of X G a5,k5,b5⟩
 have d_refuse_no_order:Fnd1 l.prog w K mg base 2 "refuse_no_order" ["half","thing"] (Bo C_NoOrder K):=⟨_,_,Fy F5 T x_HalfError x_NoName x_NoOrder c_is_order,PySem.W.mg_of X G a5,k5,b5⟩
 have c__law_shuffled:Fnd l.prog w K mg base 2 "_law_shuffled" ["_law_feed_here","_law_some"] (C4 K):=⟨_,_,Hy F12 T c__law_draw,PySem.W.mg_of X G a12,k12,b12⟩
 have c__law_is_laid:Fnd l.prog w K mg base 2 "_law_is_laid" ["_law_feed_here","_law_way","_law_j","_law_k","_law_many"] (Df K):=⟨_,_,Jj F14 T c__law_draw,PySem.W.mg_of X G a14,k14,b14⟩
 have c__law_an_order:Fnd l.prog w K mg base 2 "_law_an_order" ["_law_feed_here","_law_half_here","_law_over_here"] (D6 K):=⟨_,_,I0 F18 T c__law_draw c__law_next_ones,PySem.W.mg_of X G a18,k18,b18⟩
 have c__law_bent:Fnd l.prog w K mg base 2 "_law_bent" ["_law_feed_here","_law_half_here","_law_order"] (Fj K):=⟨_,_,M7 F20 T c__law_draw,PySem.W.mg_of X G a20,k20,b20⟩
 have c__law_ways:Fnd l.prog w K mg base 2 "_law_ways" ["_law_half_here","_law_over_here"] (Fa K):=⟨_,_,N2 F21 T c__law_next_ones,PySem.W.mg_of X G a21,k21,b21⟩
 have c__law_number:Fnd l.prog w K mg base 2 "_law_number" ["_law_half_here","_law_over_here","_law_ways_here","_law_order"] (E2 K):=⟨_,_,K4 F22 T c__law_next_ones,PySem.W.mg_of X G a22,k22,b22⟩
 have c__law_names:Fnd l.prog w K mg base 3 "_law_names" ["_law_feed_here"] (Ef K):=⟨_,_,L8 F13 T c__law_draw c__law_shuffled,PySem.W.mg_of X G a13,k13,b13⟩
 have c_Ways_init:Mkd l.prog w K mg base 3 C_Ways "Ways" ["self","half"] (Bx C_Ways K):=⟨_,_,Mu F26 T k_Ways c_bits_of c_bits_ahead,⟨mk_Ways,a26,i26,kc_Ways⟩,PySem.W.mg_of X G aC_Ways,b26⟩
 have c__law_half:Fnd l.prog w K mg base 4 "_law_half" ["_law_feed_here","_law_many"] (Fk K):=⟨_,_,N1 F15 T c__law_draw c__law_shuffled c__law_names c__law_is_laid,PySem.W.mg_of X G a15,k15,b15⟩
 have c_Ways_ways_on:Mtd l.prog w K mg base 13 C_Ways "ways_on" ["self","left"] (At C_Ways K):=⟨_,_,J7 F28 T k_Ways c_Ways_free_names ⟨a28,i28,k28⟩ b28,⟨a28,i28,k28⟩,b28⟩
 have c_count:Fnd l.prog w K mg base 14 "count" ["half"] (Ll K):=⟨_,_,Vu F3 T k_Ways c_Ways_init c_Ways_ways_on,PySem.W.mg_of X G a3,k3,b3⟩
 have c_number_of:Fnd l.prog w K mg base 14 "number_of" ["half","order"] (Dw K):=⟨_,_,Hl F8 T k_Ways c_refuse_no_order c_Ways_init c_Ways_free_names c_Ways_ways_on,PySem.W.mg_of X G a8,k8,b8⟩
 have d_number_of:Fnd1 l.prog w K mg base 14 "number_of" ["half","order"] (Dc C_NoOrder K):=⟨_,_,M1 F8 T k_Ways x_HalfError x_NoName x_NoOrder c_Ways_init c_Ways_free_names c_Ways_ways_on d_refuse_no_order,PySem.W.mg_of X G a8,k8,b8⟩
 have c_order_on:Fnd l.prog w K mg base 25 "order_on" ["ways","left","number"] (Eh C_Ways K):=⟨_,_,O9 F6 T k_Ways c_Ways_free_names c_Ways_ways_on (PySem.W.mg_of X G a6) k6 b6,PySem.W.mg_of X G a6,k6,b6⟩
 have c_order_of:Fnd l.prog w K mg base 26 "order_of" ["half","number"] (Eo K):=⟨_,_,J6 F7 T k_Ways c_order_on c_Ways_init c_Ways_ways_on,PySem.W.mg_of X G a7,k7,b7⟩
 have d_order_of:Fnd1 l.prog w K mg base 26 "order_of" ["half","number"] (Dv C_NoPlace K):=⟨_,_,Nj F7 T k_Ways x_HalfError x_NoName x_NoPlace c_order_on c_Ways_init c_Ways_ways_on c_NoPlace_init,PySem.W.mg_of X G a7,k7,b7⟩
 have d_next_order:Fnd1 l.prog w K mg base 27 "next_order" ["half","order"] (E1 C_NoOrder K):=⟨_,_,K5 F9 T x_HalfError x_NoName x_NoPlace x_NoOrder c_count d_order_of d_number_of,PySem.W.mg_of X G a9,k9,b9⟩
 have c__law_told:Fnd l.prog w K mg base 28 "_law_told" ["_law_word","_law_half_here","_law_thing"] (Fe K):=⟨_,_,Nt F23 T x_HalfError x_NoName x_NoCover x_NoPlace x_NoOrder x_NoJoin ndX d_order_of d_number_of d_next_order,PySem.W.mg_of X G a23,k23,b23⟩
 have c__law_right:Fnd l.prog w K mg base 29 "_law_right" ["_law_feed_here","_law_half_here","_law_over_here","_law_ways_here"] (El K):=⟨_,_,Lq F24 T c_order_of c_number_of c__law_draw c__law_an_order c__law_is_order c__law_bent c__law_number c__law_told,PySem.W.mg_of X G a24,k24,b24⟩
 exact ai7 F25 T c__law_feed c__law_draw c__law_half c__law_over c__law_ways c__law_right
theorem walk {l:PySem.W.OpenLaw}{q:Program}{loose:List Str}{XP:(Str->Option Value)->Heap->Prop}{YP:World->Heap->Prop}{d:DefRec}{K:Params->PySem.W.Frag}(hn:l.most=some 63)(hdf:d.params.defaults=[])
  (hY:∀(w:World) (h:Heap),YP w h->(K w.params).In h)
  (F:∀(w:World) (mg:Str->Option Value) (fa:Addr) (h:Heap),(K w.params).In h->h.Ns mainGlobals mg->mg d.name=some (.ref fa) ->
   ∃ fd:FuncData,(∀(s:Shared) (u:Value),BindsTo s fd ⟨[u],[]⟩ [("_law_script",u)])/\∀ base:Heap,(K w.params).In base->base.Ns mainGlobals mg->FnOk l.prog w (K w.params) mg base CX0 30 fa fd ["_law_script"] (spLaw (K w.params))) :
  PySem.W.WalkO q loose XP YP l.row.toRowW d [] (fun f vs=>PySem.call f vs):=
 L2.walk_of (n:=63) (k:=30) (x:="_law_script") (CX:=fun _=>CX0) (sp:=fun w=>spLaw (K w.params)) hn (by decide) hdf ⟨rfl,by decide,by decide,rfl⟩ hY F (fun _ _ a ns hl _ hS=>⟨a,ns,rfl,hS,hl,fun _=>rfl⟩) fun _ _ _ _ _ z=>z
end K34
theorem PySem.W.Fast.tw11409459929852187996 : True := trivial
theorem PySem.W.Fast.tw5391199373973858877 : True := trivial
theorem PySem.W.Fast.tw13977195012528658275 : True := trivial
theorem PySem.W.Fast.tw4437483660032890590 : True := trivial
theorem PySem.W.Fast.tw10971195826328000408 : True := trivial
theorem PySem.W.Fast.tw11486341281586693592 : True := trivial
theorem PySem.W.Fast.tw18102684188427319679 : True := trivial
theorem PySem.W.Fast.tw17885607133505291977 : True := trivial
theorem PySem.W.Fast.tw191286795187259984 : True := trivial
theorem PySem.W.Fast.tw11724286305208238746 : True := trivial
theorem PySem.W.Fast.tw5314402682951284317 : True := trivial
theorem PySem.W.Fast.tw8790730489162628448 : True := trivial
open PySem PySem.W PyProof.Rows
set_option maxRecDepth 100000 in
set_option maxHeartbeats 0 in
theorem PySem.Challenge.cw_halforder_k34_numbers_and_orders_refused_holds : PySem.Challenge.rw_halforder_k34_numbers_and_orders_refused.Holds := by
 w_on;o_law;k_head;(case hw=>w_witness2)
 k_fill
 refine K34.walk (l:=PySem.Challenge.rw_halforder_k34_numbers_and_orders_refused) rfl rfl (fun w h Y=>PySem.W.kIn_of Y) ?F
 case F=>
  intro w mg fa h KX G hmg
  refine' K34.all_mk KX G hmg ?q_aC_Ways ?q_pg_Ways ?q_hd_Ways ?q_po_Ways ?q_sa_Ways ?q_mk_Ways ?q_kc_Ways ?q_n_Ways_names ?q_n_Ways_bits ?q_n_Ways_ahead ?q_n_Ways_full ?q_n_Ways_known ?q_cg ?q_ct ?q_aX_HalfError ?q_aX_NoName ?q_aX_NoCover ?q_aX_NoPlace ?q_aX_NoOrder ?q_aX_NoJoin ?q_ex_HalfError ?q_sX_HalfError ?q_gX_HalfError ?q_tX_HalfError ?q_lX_HalfError ?q_no_HalfError ?q_kX_HalfError ?q_ex_NoName ?q_sX_NoName ?q_gX_NoName ?q_tX_NoName ?q_lX_NoName ?q_mr_NoName ?q_kX_NoName ?q_nX_NoName_name ?q_ex_NoCover ?q_sX_NoCover ?q_gX_NoCover ?q_tX_NoCover ?q_lX_NoCover ?q_mr_NoCover ?q_no_NoCover ?q_kX_NoCover ?q_ex_NoPlace ?q_sX_NoPlace ?q_gX_NoPlace ?q_tX_NoPlace ?q_lX_NoPlace ?q_mr_NoPlace ?q_kX_NoPlace ?q_nX_NoPlace_number ?q_ex_NoOrder ?q_sX_NoOrder ?q_gX_NoOrder ?q_tX_NoOrder ?q_lX_NoOrder ?q_mr_NoOrder ?q_no_NoOrder ?q_kX_NoOrder ?q_ex_NoJoin ?q_sX_NoJoin ?q_gX_NoJoin ?q_tX_NoJoin ?q_lX_NoJoin ?q_mr_NoJoin ?q_kX_NoJoin ?q_nX_NoJoin_word ?q_ndX ?q_a0 ?q_l0 ?q_c0 ?q_k0 ?q_a1 ?q_l1 ?q_c1 ?q_k1 ?q_a2 ?q_l2 ?q_c2 ?q_k2 ?q_a3 ?q_l3 ?q_c3 ?q_k3 ?q_a4 ?q_l4 ?q_c4 ?q_k4 ?q_a5 ?q_l5 ?q_c5 ?q_k5 ?q_a6 ?q_l6 ?q_c6 ?q_k6 ?q_a7 ?q_l7 ?q_c7 ?q_k7 ?q_a8 ?q_l8 ?q_c8 ?q_k8 ?q_a9 ?q_l9 ?q_c9 ?q_k9 ?q_a10 ?q_l10 ?q_c10 ?q_k10 ?q_a11 ?q_l11 ?q_c11 ?q_k11 ?q_a12 ?q_l12 ?q_c12 ?q_k12 ?q_a13 ?q_l13 ?q_c13 ?q_k13 ?q_a14 ?q_l14 ?q_c14 ?q_k14 ?q_a15 ?q_l15 ?q_c15 ?q_k15 ?q_a16 ?q_l16 ?q_c16 ?q_k16 ?q_a17 ?q_l17 ?q_c17 ?q_k17 ?q_a18 ?q_l18 ?q_c18 ?q_k18 ?q_a19 ?q_l19 ?q_c19 ?q_k19 ?q_a20 ?q_l20 ?q_c20 ?q_k20 ?q_a21 ?q_l21 ?q_c21 ?q_k21 ?q_a22 ?q_l22 ?q_c22 ?q_k22 ?q_a23 ?q_l23 ?q_c23 ?q_k23 ?q_a24 ?q_l24 ?q_c24 ?q_k24 ?q_a25 ?q_l25 ?q_c25 ?q_k25 ?q_a26 ?q_i26 ?q_l26 ?q_c26 ?q_k26 ?q_a27 ?q_i27 ?q_l27 ?q_c27 ?q_k27 ?q_a28 ?q_i28 ?q_l28 ?q_c28 ?q_k28 ?q_a29 ?q_i29 ?q_l29 ?q_c29 ?q_k29 ?q_z0 ?q_z1 ?q_z2 ?q_z3 ?q_z4 ?q_z5 ?q_z6 ?q_z7 ?q_z8 ?q_z9 ?q_z10 ?q_z11 ?q_z12 ?q_z13
  (case q_aC_Ways=>k_is)
  (case q_pg_Ways=>k_is)
  (case q_hd_Ways=>k_is)
  (case q_po_Ways=>k_is)
  (case q_sa_Ways=>k_is)
  (case q_mk_Ways=>k_is)
  (case q_kc_Ways=>k_is)
  (case q_n_Ways_names=>k_is)
  (case q_n_Ways_bits=>k_is)
  (case q_n_Ways_ahead=>k_is)
  (case q_n_Ways_full=>k_is)
  (case q_n_Ways_known=>k_is)
  (case q_cg=>k_is)
  (case q_ct=>k_is)
  (case q_aX_HalfError=>k_is)
  (case q_aX_NoName=>k_is)
  (case q_aX_NoCover=>k_is)
  (case q_aX_NoPlace=>k_is)
  (case q_aX_NoOrder=>k_is)
  (case q_aX_NoJoin=>k_is)
  (case q_ex_HalfError=>kernel_rfl)
  (case q_sX_HalfError=>k_is)
  (case q_gX_HalfError=>k_is)
  (case q_tX_HalfError=>k_is)
  (case q_lX_HalfError=>k_is)
  (case q_no_HalfError=>kernel_rfl)
  (case q_kX_HalfError=>k_is)
  (case q_ex_NoName=>kernel_rfl)
  (case q_sX_NoName=>k_is)
  (case q_gX_NoName=>k_is)
  (case q_tX_NoName=>k_is)
  (case q_lX_NoName=>k_is)
  (case q_mr_NoName=>kernel_rfl)
  (case q_kX_NoName=>k_is)
  (case q_nX_NoName_name=>k_is)
  (case q_ex_NoCover=>kernel_rfl)
  (case q_sX_NoCover=>k_is)
  (case q_gX_NoCover=>k_is)
  (case q_tX_NoCover=>k_is)
  (case q_lX_NoCover=>k_is)
  (case q_mr_NoCover=>kernel_rfl)
  (case q_no_NoCover=>kernel_rfl)
  (case q_kX_NoCover=>k_is)
  (case q_ex_NoPlace=>kernel_rfl)
  (case q_sX_NoPlace=>k_is)
  (case q_gX_NoPlace=>k_is)
  (case q_tX_NoPlace=>k_is)
  (case q_lX_NoPlace=>k_is)
  (case q_mr_NoPlace=>kernel_rfl)
  (case q_kX_NoPlace=>k_is)
  (case q_nX_NoPlace_number=>k_is)
  (case q_ex_NoOrder=>kernel_rfl)
  (case q_sX_NoOrder=>k_is)
  (case q_gX_NoOrder=>k_is)
  (case q_tX_NoOrder=>k_is)
  (case q_lX_NoOrder=>k_is)
  (case q_mr_NoOrder=>kernel_rfl)
  (case q_no_NoOrder=>kernel_rfl)
  (case q_kX_NoOrder=>k_is)
  (case q_ex_NoJoin=>kernel_rfl)
  (case q_sX_NoJoin=>k_is)
  (case q_gX_NoJoin=>k_is)
  (case q_tX_NoJoin=>k_is)
  (case q_lX_NoJoin=>k_is)
  (case q_mr_NoJoin=>kernel_rfl)
  (case q_kX_NoJoin=>k_is)
  (case q_nX_NoJoin_word=>k_is)
  (case q_ndX=>decide)
  (case q_a0=>k_is)
  (case q_l0=>k_is)
  (case q_c0=>k_is)
  (case q_k0=>k_is)
  (case q_a1=>k_is)
  (case q_l1=>k_is)
  (case q_c1=>k_is)
  (case q_k1=>k_is)
  (case q_a2=>k_is)
  (case q_l2=>k_is)
  (case q_c2=>k_is)
  (case q_k2=>k_is)
  (case q_a3=>k_is)
  (case q_l3=>k_is)
  (case q_c3=>k_is)
  (case q_k3=>k_is)
  (case q_a4=>k_is)
  (case q_l4=>k_is)
  (case q_c4=>k_is)
  (case q_k4=>k_is)
  (case q_a5=>k_is)
  (case q_l5=>k_is)
  (case q_c5=>k_is)
  (case q_k5=>k_is)
  (case q_a6=>k_is)
  (case q_l6=>k_is)
  (case q_c6=>k_is)
  (case q_k6=>k_is)
  (case q_a7=>k_is)
  (case q_l7=>k_is)
  (case q_c7=>k_is)
  (case q_k7=>k_is)
  (case q_a8=>k_is)
  (case q_l8=>k_is)
  (case q_c8=>k_is)
  (case q_k8=>k_is)
  (case q_a9=>k_is)
  (case q_l9=>k_is)
  (case q_c9=>k_is)
  (case q_k9=>k_is)
  (case q_a10=>k_is)
  (case q_l10=>k_is)
  (case q_c10=>k_is)
  (case q_k10=>k_is)
  (case q_a11=>k_is)
  (case q_l11=>k_is)
  (case q_c11=>k_is)
  (case q_k11=>k_is)
  (case q_a12=>k_is)
  (case q_l12=>k_is)
  (case q_c12=>k_is)
  (case q_k12=>k_is)
  (case q_a13=>k_is)
  (case q_l13=>k_is)
  (case q_c13=>k_is)
  (case q_k13=>k_is)
  (case q_a14=>k_is)
  (case q_l14=>k_is)
  (case q_c14=>k_is)
  (case q_k14=>k_is)
  (case q_a15=>k_is)
  (case q_l15=>k_is)
  (case q_c15=>k_is)
  (case q_k15=>k_is)
  (case q_a16=>k_is)
  (case q_l16=>k_is)
  (case q_c16=>k_is)
  (case q_k16=>k_is)
  (case q_a17=>k_is)
  (case q_l17=>k_is)
  (case q_c17=>k_is)
  (case q_k17=>k_is)
  (case q_a18=>k_is)
  (case q_l18=>k_is)
  (case q_c18=>k_is)
  (case q_k18=>k_is)
  (case q_a19=>k_is)
  (case q_l19=>k_is)
  (case q_c19=>k_is)
  (case q_k19=>k_is)
  (case q_a20=>k_is)
  (case q_l20=>k_is)
  (case q_c20=>k_is)
  (case q_k20=>k_is)
  (case q_a21=>k_is)
  (case q_l21=>k_is)
  (case q_c21=>k_is)
  (case q_k21=>k_is)
  (case q_a22=>k_is)
  (case q_l22=>k_is)
  (case q_c22=>k_is)
  (case q_k22=>k_is)
  (case q_a23=>k_is)
  (case q_l23=>k_is)
  (case q_c23=>k_is)
  (case q_k23=>k_is)
  (case q_a24=>k_is)
  (case q_l24=>k_is)
  (case q_c24=>k_is)
  (case q_k24=>k_is)
  (case q_a25=>k_is)
  (case q_l25=>k_is)
  (case q_c25=>k_is)
  (case q_k25=>k_is)
  (case q_a26=>k_is)
  (case q_i26=>k_is)
  (case q_l26=>k_is)
  (case q_c26=>k_is)
  (case q_k26=>k_is)
  (case q_a27=>k_is)
  (case q_i27=>k_is)
  (case q_l27=>k_is)
  (case q_c27=>k_is)
  (case q_k27=>k_is)
  (case q_a28=>k_is)
  (case q_i28=>k_is)
  (case q_l28=>k_is)
  (case q_c28=>k_is)
  (case q_k28=>k_is)
  (case q_a29=>k_is)
  (case q_i29=>k_is)
  (case q_l29=>k_is)
  (case q_c29=>k_is)
  (case q_k29=>k_is)
  (case q_z0=>k_is)
  (case q_z1=>k_is)
  (case q_z2=>k_is)
  (case q_z3=>k_is)
  (case q_z4=>k_is)
  (case q_z5=>k_is)
  (case q_z6=>k_is)
  (case q_z7=>k_is)
  (case q_z8=>k_is)
  (case q_z9=>k_is)
  (case q_z10=>k_is)
  (case q_z11=>k_is)
  (case q_z12=>k_is)
  (case q_z13=>k_is)
