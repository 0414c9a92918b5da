import PyProof.Rows.All
import Wide.All
import OpenK.AllK
import PySem.Challenge.RW_halforder_k65_answers
set_option linter.all false
local macro_rules|`(tactic|omega)=>`(tactic|first|lia|omega +splitDisjunctions)
set_option hygiene false
local macro_rules|`((2,$a))=>`(some (.lst $a))
local macro_rules|`((3,$a))=>`(some (.ref $a))
local macro_rules|`((4,$a))=>`(Inv X pins σ H $a)
local macro_rules|`((5,$a))=>`(Same H $a)
local macro_rules|`((6,$a))=>`(some (.dK $a))
local macro_rules|`((7,$a))=>`(A1 (pv $a) A2)
local macro_rules|`((8,$a))=>`(A1 $a A2)
local macro_rules|`((9,$a,$b))=>`(Is K H $a $b)
local macro_rules|`((c,$a))=>`(Ag $a x)
local macro_rules|`((e,$a))=>`(frF b $a)
local macro_rules|`((h,$a))=>`(ExtBut $a H H')
local macro_rules|`((l,$a))=>`(A6 (Ao $a))
local macro_rules|`((o,$a,$b,$c,$d))=>`(Fnd P w K mg base $a $b $c $d)
local macro_rules|`((r,$a))=>`(Ad (A5 (K:=K) hu) (pv $a) A4 'a')
local macro_rules|`((s,$a))=>`(eval $a X.env)
local macro_rules|`((t,$a))=>`(Q (.bl $a) H)
local macro_rules|`((u,$a))=>`(RelV $a u)
local macro_rules|`((v,$a,$b))=>`(Fu K $a $b f fd)
local macro_rules|`((w,$a,$b))=>`(Ad (A5 (K:=K) hu) (pv $a) $b 'a')
local macro_rules|`((A,$a))=>`(SqT K H a $a)
local macro_rules|`((B,$a,$b))=>`(upd H $a $b)
local macro_rules|`((C,$a,$b))=>`(Q (.ref $a) $b)
local macro_rules|`((D,$a))=>`(Q (.ref $a) H')
local macro_rules|`((E,$a))=>`(HalfW ns $a)
local macro_rules|`((F,$a,$b,$c))=>`(Am $a (pv $b) $c)
local macro_rules|`((G,$a))=>`(model prog $a)
local macro_rules|`((H,$a))=>`(model X.prog $a)
local macro_rules|`((I,$a,$b))=>`(IsL K H $a $b)
local macro_rules|`((J,$a))=>`(Feed $a d l)
local macro_rules|`((K,$a))=>`(some (.int $a))
local macro_rules|`((L,$a))=>`(ns.getD i $a)
local macro_rules|`((M,$a,$b,$c,$d,$e))=>`(wpAny $a $b $c $d $e s)
local macro_rules|`((N,$a))=>`(SqL K H $a xs)
local macro_rules|`((O,$a))=>`(unP $a ps)
local macro_rules|`((P,$a,$b,$c,$d))=>`(An $a $b ⋯ (A1 (pv $c) (A1 $d A2)))
local macro_rules|`((Q,$a,$b))=>`(W.findIn K (.ref $a) $b)
local macro_rules|`((R,$a))=>`(Vals $a us)
local macro_rules|`((S,$a,$b,$c))=>`(upd $a $b (.lst $c))
local macro_rules|`((T,$a,$b,$c,$d))=>`(Inv $a pins $b $c $d)
local macro_rules|`((U,$a))=>`(Way ps x $a)
local macro_rules|`((V,$a,$b))=>`(W.keepIn $a (.ref $b))
local macro_rules|`((W,$a,$b,$c))=>`(A1 $a (A1 $b $c))
local macro_rules|`((X,$a,$b))=>`(Q (.int $a) $b)
local macro_rules|`((Y,$a,$b))=>`(Is K H' $a $b)
local macro_rules|`((Z,$a))=>`(frF (Ac ps) (ns.filter $a))
local macro_rules|`((10,$a,$b,$c,$d))=>`(An $a $b ⋯ (A1 (pv $c) $d))
local macro_rules|`((11,$a,$b))=>`(A3 (Ch $a $b At))
local macro_rules|`((12,$a))=>`(BV $a rfl)
local macro_rules|`((13,$a))=>`(Ae (i:=0) $a ⋯ 'b')
local macro_rules|`((14,$a,$b,$c))=>`(An $a $b ⋯ $c)
local macro_rules|`((15,$a))=>`(Is K H (hfD ns ps) $a)
local macro_rules|`((16,$a))=>`(model $a w)
local macro_rules|`((17,$a,$b))=>`(Q (.str $a) $b)
local macro_rules|`((18,$a))=>`(some (some (.ref $a)))
local macro_rules|`((19,$a))=>`(AY (BC $a))
local macro_rules|`((20,$a))=>`(cnt (Ac $a) ns)
local macro_rules|`((21,$a,$b,$c,$d))=>`(Ak $a $b $c (Ax $d))
local macro_rules|`((22,$a,$b))=>`(A1 $a (A1 $b A2))
local macro_rules|`((23,$a))=>`(some (.tup $a))
local macro_rules|`((24,$a))=>`(Pv $a σ' H')
local macro_rules|`((25,$a,$b))=>`(Bg $a $b 'c')
local macro_rules|`((26,$a,$b))=>`(Ad (A5 (K:=K) hu) $a $b 'a')
local macro_rules|`((27,$a,$b))=>`(Aa (i:=2) $a ⋯ 'b' $b)
local macro_rules|`((28,$a,$b))=>`(Aa (i:=3) $a ⋯ 'b' $b)
local macro_rules|`((29,$a))=>`(starEach $a X.env)
local macro_rules|`((30,$a))=>`(List.replicate $a none)
local macro_rules|`((31,$a))=>`(.inr (.inr $a))
local macro_rules|`((32,$a,$b,$c))=>`(.cons $a (.cons $b $c))
local macro_rules|`((33,$a,$b,$c,$d))=>`(B8 $a (pv $b) $c $d)
local macro_rules|`((34,$a,$b,$c))=>`(Fo (C:=C_Ways) (pv $a) $b $c ⋯)
local macro_rules|`((35,$a,$b))=>`(wpAny (model X.prog X.w) X.A $a $b X.xe s)
local macro_rules|`((36,$a,$b))=>`(I.hok $a _ $b)
local macro_rules|`((37,$a,$b,$c))=>`(Binds $a fd $b $c)
local macro_rules|`((38,$a,$b))=>`(Ai $a ⋯ T.b_len PyProof.Rows.Boot.«len» (A1 (pv $b) A2))
local macro_rules|`((39,$a,$b))=>`(A1 (pv $a) (A1 (pv $b) A2))
local macro_rules|`((40,$a,$b,$c,$d,$e,$f,$g,$h))=>`(Bz $a $b $c ⋯ ⋯ ⋯ (Aq (K:=K) hu $d) $e $f $g $h)
local macro_rules|`((41,$a,$b))=>`(Ag (ns.filter $a) $b)
local macro_rules|`((42,$a,$b))=>`(cellsFrom $a scope.names $b)
local macro_rules|`((43,$a,$b,$c,$d,$e,$f,$g,$h,$i,$j,$k))=>`(W.fnOf $a $b $c $d $e .none $f $g $h $i $j $k)
local macro_rules|`((44,$a,$b))=>`(Is K H (nmD $a) $b)
local macro_rules|`((45,$a))=>`(absurd $a BX)
local macro_rules|`((46,$a))=>`(some (some (.builtin $a)))
local macro_rules|`((47,$a,$b,$c))=>`(some (.ins $a $b $c))
local macro_rules|`((48,$a,$b))=>`(NoAttr $a C $b)
local macro_rules|`((49,$a,$b,$c,$d,$e,$f,$g))=>`(cxC $a scope $b $c $d $e $f $g)
local macro_rules|`((50,$a,$b,$c,$d))=>`(Ak (D8 (K:=K) $a) $b $c $d)
local macro_rules|`((51,$a,$b,$c))=>`(C4 $a ⋯ (Aq (K:=K) hu $b) $c)
local macro_rules|`((52,$a,$b))=>`(ne_of $a $b 'd')
local macro_rules|`((53,$a,$b,$c))=>`(Am $a $b (pv $c))
local macro_rules|`((54,$a,$b))=>`(A1 (pv $a) (A1 $b A2))
local macro_rules|`((55,$a))=>`(backTo pos (starEach $a X.env))
local macro_rules|`((56,$a,$b))=>`(HT.sIx ds.length $a $b)
local macro_rules|`((57,$a,$b))=>`(frF (Ac $a) $b)
local macro_rules|`((58,$a,$b))=>`(i_ixD $a $b ?_)
local macro_rules|`((59,$a,$b))=>`(some (.frz $a $b))
local macro_rules|`((60,$a,$b,$c,$d,$e))=>`(.Call (.Name $a $b) $c $d $e)
local macro_rules|`((61,$a))=>`(I.hok.fresh (BE $a))
local macro_rules|`((62,$a,$b,$c))=>`(G3 $a (ind $b) $c)
local macro_rules|`((63,$a,$b,$c,$d,$e,$f))=>`(F1 (K:=K) $a $b $c (mm $d) $e $f)
local macro_rules|`((64,$a))=>`(some (.str $a))
local macro_rules|`((65,$a))=>`(absurd $a 'c')
local macro_rules|`((66,$a,$b))=>`(upd H $a (.tup $b))
local macro_rules|`((67,$a))=>`(List (List $a))
local macro_rules|`((68,$a))=>`(.lst (ls.map $a))
local macro_rules|`((69,$a,$b,$c,$d))=>`(A3 (Aa (i:=1) $a $b $c $d))
local macro_rules|`((70,$a,$b,$c,$d,$e))=>`(ObjOk X.prog $a $b $c $d $e)
local macro_rules|`((71,$a))=>`(absurd rfl $a)
local macro_rules|`((72,$a,$b,$c,$d,$e,$f,$g,$h,$i,$j,$k,$l,$m))=>`(Y1 $a $b $c $d $e base $f qual $g $h $i $j outer $k $l $m)
local macro_rules|`((73,$a,$b))=>`(W.codeIn K $a $b)
local macro_rules|`((74,$a,$b))=>`(W.nsIn $a mainGlobals $b)
local macro_rules|`((75,$a,$b,$c))=>`(Aa (i:=4) $a ⋯ $b $c)
local macro_rules|`((76,$a,$b,$c,$d,$e,$f))=>`(Fnd $a $b $c mg base $d "_law_draw" $e $f)
local macro_rules|`((77,$a,$b))=>`(absurd $a (DH $b))
local macro_rules|`((78,$a))=>`(B4 X.prog $a)
local macro_rules|`((79,$a,$b))=>`(HT.sIx xs.length $a $b)
local macro_rules|`((80,$a))=>`(backTo cpos (starEach $a X.env))
local macro_rules|`((81,$a,$b))=>`(M4 $a scope.names $b)
local macro_rules|`((82,$a,$b,$c))=>`(W.kitOne $a $b (.type $c))
local macro_rules|`((83,$a,$b,$c))=>`(SqL $a H $b (ns.map $c))
local macro_rules|`((84,$a,$b))=>`(.cons $a (.one $b))
local macro_rules|`((85,$a,$b,$c))=>`(exG false $a $b $c)
local macro_rules|`((86,$a,$b))=>`(.BoolOp $a $b pos)
local macro_rules|`((87,$a,$b))=>`(W.isFn $a (.ref $b))
local macro_rules|`((88,$a,$b,$c,$d,$e,$f))=>`(.Call (.Attribute $a $b $c) $d $e $f)
local macro_rules|`((89,$a,$b))=>`(AY (m:=Builtin.Tuple.tupleExact _) (DC $a $b))
local macro_rules|`((90,$a,$b,$c))=>`(IsL.mono $a _ $b $c)
local macro_rules|`((91,$a))=>`(List (Option $a))
local macro_rules|`((92,$a,$b,$c))=>`(I.base.there $a o $b $c)
local macro_rules|`((93,$a))=>`(.inl (.inl $a))
local macro_rules|`((94,$a,$b,$c,$d))=>`(Rs $a $b $c (.type $d))
local macro_rules|`((95,$a,$b))=>`(call (.builtin $a) $b)
local macro_rules|`((96,$a,$b,$c,$d))=>`(envOfC $a $b s.heap.objs.size $c $d)
local macro_rules|`((97,$a,$b))=>`(sIx items.size $a $b)
local macro_rules|`((98,$a))=>`(.inr (.inl $a))
local macro_rules|`((99,$a))=>`(h.Ns mainGlobals $a)
local macro_rules|`((100,$a,$b,$c,$d))=>`(A3 (Aa (i:=5) $a $b $c $d))
local macro_rules|`((101,$a,$b))=>`(Cu $a T.b_range $b)
local macro_rules|`((102,$a,$b))=>`(Ae (i:=4) $a ⋯ $b)
local macro_rules|`((103,$a,$b,$c))=>`(Az $a $b T.b_tuple PyProof.Rows.Boot.«tuple» $c)
local macro_rules|`((104,$a,$b,$c,$d,$e))=>`(Ot (C:=C_Ways) (pv $a) $b $c $d $e)
local macro_rules|`((105,$a,$b,$c,$d,$e))=>`(J1 (K:=K) $a $b $c (pv $d) $e)
local macro_rules|`((106,$a,$b))=>`(Ap (ne_of_none $a $b))
local macro_rules|`((107,$a,$b))=>`(σ.set $a (some $b))
local macro_rules|`((108,$a,$b,$c,$d,$e))=>`(I.turned (t':=s.toks) $a $b $c $d $e f5)
local macro_rules|`((109,$a))=>`(O.hok.fresh (BE $a))
local macro_rules|`((110,$a,$b,$c))=>`(DK $a $b (Ne.symm $c))
local macro_rules|`((111,$a))=>`(List.replicate k $a)
local macro_rules|`((112,$a))=>`(some (V.ref $a))
local macro_rules|`((113,$a,$b,$c))=>`(Aa (i:=7) $a ⋯ $b $c)
local macro_rules|`((114,$a,$b,$c,$d))=>`(Xo $a $b $c $d C_HalfError)
local macro_rules|`((115,$a,$b,$c))=>`(Xk $a $b $c C_HalfError)
local macro_rules|`((116,$a))=>`(.seq its.toArray $a)
local macro_rules|`((117,$a))=>`(W.instObj C $a)
local macro_rules|`((118,$a))=>`(assignEach $a X.env)
local macro_rules|`((119,$a,$b))=>`(W.findIn $a (.ref $b) "__init__")
local macro_rules|`((120,$a,$b))=>`(.Attribute $a f $b)
local macro_rules|`((121,$a))=>`(Array (Option $a))
local macro_rules|`((122,$a))=>`(sIx items.size items.size $a)
local macro_rules|`((123,$a))=>`(HT.sIx xs.length xs.length $a)
local macro_rules|`((124,$a,$b,$c))=>`(attributeBase $a $b X.env $c)
local macro_rules|`((125,$a,$b,$c))=>`(.ListComp $a $b scope $c)
local macro_rules|`((126,$a,$b))=>`(AY (HT.slicePart_ $a $b))
local macro_rules|`((127,$a,$b,$c))=>`(Aa (i:=6) $a ⋯ $b $c)
local macro_rules|`((128,$a,$b))=>`(Ae (i:=3) $a ⋯ $b)
local macro_rules|`((129,$a,$b,$c))=>`(P7 $a (ns.filter $b) $c)
local macro_rules|`((130,$a,$b,$c))=>`(Ai $a $b T.b_isinstance PyProof.Rows.Boot.«isinstance» $c)
set_option hygiene true
local macro_rules | `(tactic| eq_refl) => `(tactic| with_unfolding_all exact Or.inl rfl)
local macro_rules | `(tactic| ac_rfl) => `(tactic| with_unfolding_all exact fun _ _ => rfl)
local macro_rules | `(tactic| ac_nf) => `(tactic| with_unfolding_all rfl)
noncomputable section
local macro_rules | `(⟨⟩) => `(⟨rfl,rfl,rfl,by decide +kernel,rfl,by decide +kernel,by decide +kernel⟩)
local macro_rules | `('a') => `((by ac_rfl))
local macro_rules | `('b') => `((by eq_refl))
local macro_rules | `('c') => `((by simp))
local macro_rules | `('d') => `((by intro z;cases z))
local macro_rules | `('e') => `((by rfl))
local macro_rules | `('f') => `((by decide +kernel))
local macro_rules | `(⋯) => `(by ac_nf)
local macro_rules | `(∅) => `(by omega)
local macro_rules | `(nofun) => `(by decide)
local macro_rules | `(tactic| symm) => `(tactic| walk_at "rd")
namespace PX
variable{a b c d e f g i j l m n o q r z:Prop}{α β γ δ ε ζ η θ ι κ μ ν ξ ο π:Type}
theorem fp(h:a)(k:a->z):z:=k h
theorem A2(k:a->b->z)(h:a∧b):z:=k h.1 h.2
theorem A3(k:a->b->c->z)(h:a∧b∧c):z:=A2 (k h.1) h.2
theorem A4(k:a->b->c->d->z)(h:a∧b∧c∧d):z:=A3 (k h.1) h.2
theorem A5(k:a->b->c->d->e->z)(h:a∧b∧c∧d∧e):z:=A4 (k h.1) h.2
theorem A6(k:a->b->c->d->e->f->z)(h:a∧b∧c∧d∧e∧f):z:=A5 (k h.1) h.2
theorem A7(k:a->b->c->d->e->f->g->z)(h:a∧b∧c∧d∧e∧f∧g):z:=A6 (k h.1) h.2
theorem A8(k:a->b->c->d->e->f->g->i->z)(h:a∧b∧c∧d∧e∧f∧g∧i):z:=A7 (k h.1) h.2
theorem A9(k:a->b->c->d->e->f->g->i->j->z)(h:a∧b∧c∧d∧e∧f∧g∧i∧j):z:=A8 (k h.1) h.2
theorem A10(k:a->b->c->d->e->f->g->i->j->l->z)(h:a∧b∧c∧d∧e∧f∧g∧i∧j∧l):z:=A9 (k h.1) h.2
theorem A11(k:a->b->c->d->e->f->g->i->j->l->m->z)(h:a∧b∧c∧d∧e∧f∧g∧i∧j∧l∧m):z:=A10 (k h.1) h.2
theorem A12(k:a->b->c->d->e->f->g->i->j->l->m->n->z)(h:a∧b∧c∧d∧e∧f∧g∧i∧j∧l∧m∧n):z:=A11 (k h.1) h.2
theorem A13(k:a->b->c->d->e->f->g->i->j->l->m->n->o->z)(h:a∧b∧c∧d∧e∧f∧g∧i∧j∧l∧m∧n∧o):z:=A12 (k h.1) h.2
theorem A14(k:a->b->c->d->e->f->g->i->j->l->m->n->o->q->z)(h:a∧b∧c∧d∧e∧f∧g∧i∧j∧l∧m∧n∧o∧q):z:=A13 (k h.1) h.2
theorem A15(k:a->b->c->d->e->f->g->i->j->l->m->n->o->q->r->z)(h:a∧b∧c∧d∧e∧f∧g∧i∧j∧l∧m∧n∧o∧q∧r):z:=A14 (k h.1) h.2
theorem X1{p:α->Prop}(k:∀ a,p a->z)(h:∃ a,p a):z:=h.elim k
theorem X2{p:α->β->Prop}(k:∀ a b,p a b->z)(h:∃ a b,p a b):z:=h.elim λa=>X1 (k a)
theorem X3{p:α->β->γ->Prop}(k:∀ a b c,p a b c->z)(h:∃ a b c,p a b c):z:=h.elim λa=>X2 (k a)
theorem X4{p:α->β->γ->δ->Prop}(k:∀ a b c d,p a b c d->z)(h:∃ a b c d,p a b c d):z:=h.elim λa=>X3 (k a)
theorem X5{p:α->β->γ->δ->ε->Prop}(k:∀ a b c d e,p a b c d e->z)(h:∃ a b c d e,p a b c d e):z:=h.elim λa=>X4 (k a)
theorem X6{p:α->β->γ->δ->ε->ζ->Prop}(k:∀ a b c d e f,p a b c d e f->z)(h:∃ a b c d e f,p a b c d e f):z:=h.elim λa=>X5 (k a)
theorem X7{p:α->β->γ->δ->ε->ζ->η->Prop}(k:∀ a b c d e f g,p a b c d e f g->z)(h:∃ a b c d e f g,p a b c d e f g):z:=h.elim λa=>X6 (k a)
theorem X8{p:α->β->γ->δ->ε->ζ->η->θ->Prop}(k:∀ a b c d e f g i,p a b c d e f g i->z)(h:∃ a b c d e f g i,p a b c d e f g i):z:=h.elim λa=>X7 (k a)
theorem X9{p:α->β->γ->δ->ε->ζ->η->θ->ι->Prop}(k:∀ a b c d e f g i j,p a b c d e f g i j->z)(h:∃ a b c d e f g i j,p a b c d e f g i j):z:=h.elim λa=>X8 (k a)
theorem X10{p:α->β->γ->δ->ε->ζ->η->θ->ι->κ->Prop}(k:∀ a b c d e f g i j l,p a b c d e f g i j l->z)(h:∃ a b c d e f g i j l,p a b c d e f g i j l):z:=h.elim λa=>X9 (k a)
theorem X11{p:α->β->γ->δ->ε->ζ->η->θ->ι->κ->μ->Prop}(k:∀ a b c d e f g i j l m,p a b c d e f g i j l m->z)(h:∃ a b c d e f g i j l m,p a b c d e f g i j l m):z:=h.elim λa=>X10 (k a)
theorem X12{p:α->β->γ->δ->ε->ζ->η->θ->ι->κ->μ->ν->Prop}(k:∀ a b c d e f g i j l m n,p a b c d e f g i j l m n->z)(h:∃ a b c d e f g i j l m n,p a b c d e f g i j l m n):z:=h.elim λa=>X11 (k a)
theorem X13{p:α->β->γ->δ->ε->ζ->η->θ->ι->κ->μ->ν->ξ->Prop}(k:∀ a b c d e f g i j l m n o,p a b c d e f g i j l m n o->z)(h:∃ a b c d e f g i j l m n o,p a b c d e f g i j l m n o):z:=h.elim λa=>X12 (k a)
theorem X14{p:α->β->γ->δ->ε->ζ->η->θ->ι->κ->μ->ν->ξ->ο->Prop}(k:∀ a b c d e f g i j l m n o q,p a b c d e f g i j l m n o q->z)(h:∃ a b c d e f g i j l m n o q,p a b c d e f g i j l m n o q):z:=h.elim λa=>X13 (k a)
theorem X15{p:α->β->γ->δ->ε->ζ->η->θ->ι->κ->μ->ν->ξ->ο->π->Prop}(k:∀ a b c d e f g i j l m n o q r,p a b c d e f g i j l m n o q r->z)(h:∃ a b c d e f g i j l m n o q r,p a b c d e f g i j l m n o q r):z:=h.elim λa=>X14 (k a)
theorem Y12{p q:α->Prop}(k:∀ a,p a->q a->z)(h:∃ a,p a∧q a):z:=X1 (λa=>A2 (k a)) h
theorem Y13{p q r:α->Prop}(k:∀ a,p a->q a->r a->z)(h:∃ a,p a∧q a∧r a):z:=X1 (λa=>A3 (k a)) h
theorem Y14{p q r s:α->Prop}(k:∀ a,p a->q a->r a->s a->z)(h:∃ a,p a∧q a∧r a∧s a):z:=X1 (λa=>A4 (k a)) h
theorem Y15{p q r s t:α->Prop}(k:∀ a,p a->q a->r a->s a->t a->z)(h:∃ a,p a∧q a∧r a∧s a∧t a):z:=X1 (λa=>A5 (k a)) h
theorem Y22{p q:α->β->Prop}(k:∀ a b,p a b->q a b->z)(h:∃ a b,p a b∧q a b):z:=X2 (λa b=>A2 (k a b)) h
theorem Y23{p q r:α->β->Prop}(k:∀ a b,p a b->q a b->r a b->z)(h:∃ a b,p a b∧q a b∧r a b):z:=X2 (λa b=>A3 (k a b)) h
theorem Y24{p q r s:α->β->Prop}(k:∀ a b,p a b->q a b->r a b->s a b->z)(h:∃ a b,p a b∧q a b∧r a b∧s a b):z:=X2 (λa b=>A4 (k a b)) h
theorem Y25{p q r s t:α->β->Prop}(k:∀ a b,p a b->q a b->r a b->s a b->t a b->z)(h:∃ a b,p a b∧q a b∧r a b∧s a b∧t a b):z:=X2 (λa b=>A5 (k a b)) h
theorem Y32{p q:α->β->γ->Prop}(k:∀ a b c,p a b c->q a b c->z)(h:∃ a b c,p a b c∧q a b c):z:=X3 (λa b c=>A2 (k a b c)) h
theorem Y33{p q r:α->β->γ->Prop}(k:∀ a b c,p a b c->q a b c->r a b c->z)(h:∃ a b c,p a b c∧q a b c∧r a b c):z:=X3 (λa b c=>A3 (k a b c)) h
theorem Y34{p q r s:α->β->γ->Prop}(k:∀ a b c,p a b c->q a b c->r a b c->s a b c->z)(h:∃ a b c,p a b c∧q a b c∧r a b c∧s a b c):z:=X3 (λa b c=>A4 (k a b c)) h
theorem Y35{p q r s t:α->β->γ->Prop}(k:∀ a b c,p a b c->q a b c->r a b c->s a b c->t a b c->z)(h:∃ a b c,p a b c∧q a b c∧r a b c∧s a b c∧t a b c):z:=X3 (λa b c=>A5 (k a b c)) h
end PX
open Lean in
def PX.ob(ps:Array Syntax)(n:Nat)(h:Term):MacroM (TSyntax `Lean.Parser.Tactic.tacticSeq):=do
 let mut bs:Array Term:=#[]
 let mut ts:Array (TSyntax `tactic):=#[]
 for p in ps do
  let q:=p[0][0][0]
  let o:=p[0][0].getNumArgs==1
  if o&&q.getKind== ``Lean.Parser.Tactic.rcasesPat.one&&q[0].getId != `rfl then bs:=bs.push ⟨q[0]⟩
  else if o&&q.getKind== ``Lean.Parser.Tactic.rcasesPat.ignore then bs:=bs.push (<-`(_))
  else
   let x:=mkIdent (<-Macro.addMacroScope (.mkSimple s!"x{bs.size}"))
   bs:=bs.push x
   let m:TSyntax `Lean.Parser.Tactic.rcasesPatMed:=⟨p[0]⟩
   ts:=ts.push (<-`(tactic|obtain $m:rcasesPatMed:=$x))
 let f(a b:Nat)(t:Term):MacroM Term:=if a==b then pure t else `(fun $(bs.extract a b)*=>$t)
 let c(s:String)(k:Nat)(t:Term):MacroM Term:=`($(mkIdent (.str `PX (s++toString k))) $t)
 let rec go(fu m i:Nat)(e:Bool):MacroM Term:=do
  let r:=m%20
  match fu,m with
  |0,_=>`(?_)
  |_,0=>
   let t<-f i ps.size (<-`(?_))
   if ps.size-i<2 then pure t else c "A" (ps.size-i) t
  |fu+1,_=>
   let l:=ps.size-i-r
   if e&&m<4&&1<l&&l<6 then return <-c s!"Y{r}" l (<-f i ps.size (<-`(?_)))
   let t<-f i (i+r) (<-go fu (m/20) (i+r) (!e))
   if r==0 then pure t else if e then c "X" r t else c "A" (r+1) t
 let g<-go 9 n 0 true
 let u<-if h.raw.isIdent&&h.raw.getId.isAtomic then `(tactic|(revert $h:term;refine $g)) else `(tactic|refine PX.fp $h $g)
 `(tacticSeq|$(#[u]++ts);*)
open Lean in
local macro_rules(kind:=Lean.Parser.Tactic.obtain)|s=>do
 let some n:=s[2][1].isNatLit?|Macro.throwUnsupported
 `(tactic|($(<-PX.ob s[1][0][0][0][1].getSepArgs n ⟨s[3][1][0]⟩)))
def BA:=@List.length_map
def A01:=@List.getElem?_eq_some_iff
def AY:=@PySem.wpAny_bind
def BH:=@PySem.Heap.get?_push_of_some
def BJ:=@List.getElem?_eq_getElem
def BG:=@List.mem_of_getElem?
def BL:=@List.length_append
def BC:=@PySem.wpAny_pure
def BE:=@Nat.le_refl
def BK:=@List.getElem?_map
def A0A:=@List.mem_cons
def A0B:=@List.mem_append
def BP:=@List.mem_cons_of_mem
def A0D:=@List.mem_map
def BF:=@PySem.Heap.lt_size
def BO:=@List.length_cons
def BI:=@Nat.le_trans
def BM:=@List.map_cons
def BQ:=@List.mem_cons_self
def BZ:=@List.mem_append_left
def BV:=@PySem.Heap.get?_push_size
def BX:=@Bool.false_ne_true
def A0M:=@List.mem_filter
def AZ:=@if_neg
def CI:=@List.mem_append_right
def CB:=@List.size_toArray
def BR:=@Option.some.inj
def BN:=@Nat.ne_of_lt
def CC:=@List.take_add_one
def BS:=@decide_eq_false
def BU:=@List.map_append
def CA:=@Bool.and_eq_true
def A0W:=@List.nodup_cons
def BW:=@PySem.PassesOwn.never
def BB:=@if_pos
def CM:=@List.length_filter_le
def CD:=@List.length_take
def CF:=@List.take_length
def BY:=@decide_eq_true
def CP:=@List.map_congr_left
def CK:=@List.append_assoc
def CU:=@List.length_singleton
def CS:=@Nat.lt_of_lt_of_le
def CL:=@List.length_drop
def A18:=@List.length_eq_zero_iff
def DA:=@PySem.F.plainAttrs_list
def A1A:=@beq_eq_false_iff_ne
def CO:=@List.filter_cons
def A1C:=@List.mem_singleton
def A1D:=@List.nodup_append
def A1E:=@List.any_eq_true
def CG:=@List.map_map
def DL:=@PySem.F.slot_tuple_index
def DZ:=@PyProof.Rows.slot_tuple_getitem
def DK:=@PySem.Heap.get?_update_other
def CQ:=@PySem.W.mg_of
def DR:=@PySem.F.type_tuple_index
def CY:=@List.getElem_inj
def DC:=@PySem.wpAny_newObj_type
def A1N:=@List.all_eq_true
def CH:=@PySem.sizeLine_eq
def CZ:=@PySem.W.kia_one
def DD:=@List.flatMap_cons
def DG:=@List.filter_congr
def CV:=@List.sum_cons
def DE:=@List.append_nil
def A1U:=@List.mem_iff_getElem?
def DI:=@List.lookup_cons
def A1W:=@List.mem_range
def CW:=@PySem.wpAny_field
def DU:=@List.replicate_succ
def EA:=@PySem.Heap.get?_update_self
def DN:=@List.length_range
def EQ:=@PySem.F.slot_list_append
def EO:=@PySem.F.type_list_append
def DH:=@Nat.lt_irrefl
def DF:=@PySem.wpAny_holding
def FA:=@PyProof.Rows.callWith_type1
def DX:=@List.filter_append
def CT:=@True.intro
def ED:=@List.getElem_of_mem
def EF:=@List.filter_sublist
def FK:=@List.getElem?_append_left
def DQ:=@Bool.eq_iff_iff
def EG:=@List.Nodup.sublist
def EU:=@List.getElem?_set_ne
def ER:=@List.mem_of_mem_take
def FG:=@PySem.wpAny_callSpecial?_slot
def DO:=@PySem.Heap.size_push
def EH:=@PySem.wpAny_truthy_bool
def EL:=@Int.toNat_of_nonneg
def EM:=@List.flatMap_append
def FN:=@List.take_of_length_le
def GH:=@List.getD_eq_getElem?_getD
def A2M:=@Array.getElem?_eq_some_iff
def DB:=@PySem.wpAny_mono
def A2O:=@List.mem_flatMap
def DM:=@Nat.le_of_lt
def EK:=@PySem.wpAny_Call_Name_kw
def FS:=@List.length_replicate
def DP:=@List.any_cons
def FP:=@PySem.F.slot_dict_get
def FF:=@List.take_append_drop
def DJ:=@Nat.zero_le
def DW:=@Nat.mul_le_mul
def FQ:=@List.mem_of_mem_drop
def A2Y:=@beq_iff_eq
def EX:=@List.flatten_cons
def FR:=@PySem.mem_of_lookup
def FM:=@List.length_reverse
def ET:=@PySem.wpAny_call_entry
def GI:=@PySem.Calls.callWith_builtin
def FI:=@PySem.tupleKind_room_in1
def A35:=@List.pairwise_cons
def FL:=@List.getElem?_take
def EV:=@PySem.wpAny_passesOwn
def DT:=@PySem.wpAny_typeOf
def EW:=@List.length_set
def EI:=@PySem.Paired.length
def FJ:=@List.reverse_cons
def FE:=@Nat.lt_succ_of_lt
def HV:=@List.drop_eq_getElem_cons
def FO:=@Nat.lt_succ_self
def DV:=@Sum.inl.inj
def CJ:=@Or.inr
def HQ:=@PySem.F.slot_list_extend
def HY:=@PySem.F.type_list_extend
def GG:=@PySem.Calls.spliced_cons
def GV:=@PySem.F.plainAttrs_dict
def IH:=@PySem.wpAny_getItem_str_slice
def GK:=@PySem.wpAny_pyIter_tuple
def GJ:=@decide_eq_true_iff
def FZ:=@List.contains_cons
def FV:=@PySem.W.tail_of_in
def GO:=@Int.emod_lt_of_pos
def IB:=@List.getElem?_set_self
def GW:=@PySem.F.entry_dict_get
def GU:=@PySem.wpAny_pyIter_list
def GR:=@of_decide_eq_true
def EC:=@Nat.add_mul
def FX:=@decide_eq_true_eq
def EY:=@Nat.ne_of_gt
def EN:=@PySem.call_meetsIn
def ID:=@List.getElem?_toArray
def HH:=@PySem.Obj.isFreed_of_fields
def GQ:=@Nat.min_le_right
def HE:=@PySem.W.looks_findIn
def HZ:=@PySem.Calls.evalArgs_plain
def HC:=@Nat.pow_le_pow_right
def FU:=@List.map_drop
def FT:=@List.map_take
def IJ:=@PySem.W.looks_clsIn
def FW:=@List.of_mem_zip
def HD:=@Array.length_toList
def HI:=@PyProof.Rows.entry_tuple_getitem
def GP:=@List.nil_append
def A4C:=@List.filter_eq_self
def GN:=@Int.emod_nonneg
def JB:=@PySem.Calls.Name_function_global
def KH:=@List.getElem?_append_right
def A4G:=@List.mem_filterMap
def HW:=@PySem.W.callWith_K
def IA:=@PyProof.Rows.args_tuple_getitem
def IU:=@PySem.Heap.IsSliceOf.new
def FD:=@List.map_nil
def HM:=@List.lookup_append
def HF:=@PySem.Obj.data_mapFields
def HX:=@List.filter_filter
def A4O:=@Nat.eq_zero_or_pos
def HS:=@PySem.Calls.spliced_nil
def IR:=@List.take_sublist
def IL:=@PySem.wpAny_sequenceKey
def EJ:=@PySem.call_meets
def II:=@PySem.wpAny_pyIter_enum
def A4U:=@Bool.eq_false_iff
def HK:=@List.drop_sublist
def IE:=@PySem.wpAny_loadPart_at
def GL:=@PySem.wpAny_standAt
def EZ:=@Nat.le_succ
def JO:=@List.getElem?_replicate
def FY:=@PyProof.Rows.tupleItemsOf_
def GF:=@PySem.evalPart_none
def GC:=@Bool.false_or
def HP:=@PySem.W.any_some
def GY:=@beq_self_eq_true
def HA:=@List.getElem_mem
def A56:=@Option.map_eq_some_iff
def JF:=@List.length_pos_of_mem
def A58:=@List.filter_eq_nil_iff
def IT:=@PySem.wpAny_execs_nil
def GZ:=@List.foldl_cons
def GB:=@Nat.mul_comm
def IP:=@Option.map_some
def GA:=@Nat.lt_trans
def IG:=@PySem.post_val_or_str
def FH:=@PyProof.Rows.Subscript_
def JA:=@Nat.mul_le_mul_right
def IM:=@PySem.wpAny_loadPart
def HB:=@Bool.and_false
def IS:=@List.drop_zero
def HN:=@PySem.wpAny_seqItems
def JR:=@PySem.W.plainGet_of
def KC:=@List.length_flatMap
def IW:=@PySem.W.looks_mroIn
def A5O:=@List.length_pos_iff
def KI:=@PySem.W.Looks.here
def IV:=@PySem.evalPart_some
def IQ:=@PySem.plainId_quiet
def HL:=@Bool.and_comm
def HJ:=@List.cons.inj
def IC:=@PySem.Value.ref.inj
set_option maxRecDepth 100000
set_option maxHeartbeats 4000000
set_option Elab.async false
set_option compiler.extract_closed false
abbrev AA:=List PySem.Str
abbrev AB:=List (PySem.Str×PySem.Str)
abbrev AC:=List PySem.Value
abbrev AD:=List PySem.PyData
abbrev AE:=List Nat
abbrev AF:=List PySem.Addr
abbrev AG:=PySem.Value->PySem.Shared->Prop
abbrev AH:=PySem.Str->Option PySem.Value
abbrev AI:=List (PySem.Addr×PySem.Obj)
namespace L2
open PySem PySem.Spec PyProof.Rows
variable {a L C:Addr}{op:CmpOp}{e tg:Expr}{h g:Heap}{pins:AI}{kw:List (Str×Value)}{ch fp:AF}{body:List Stmt}{ps:AA}{us:AC}{M:Model}{t' i:Nat}{pos:Pos}{P:Program}{pl:Sem Bool}{s:Shared}{x:Str}{u:Value}{E Q:AG}{f:Value->Value->Sem Value}
noncomputable abbrev Key:=Sum Int Str
noncomputable def Ua:Key->Value->Bool
 |.inl k,v=>Value.isInt k v
 |.inr x,v=>Value.isStrOf x v
noncomputable def keyH (w:World):Key->Int
 |.inl k=>hashInt k
 |.inr x=>hashStr w x
theorem C1:∀ {k:Key} {v:Value},Ua k v=true->(∃ i t,k=Sum.inl i/\v=Value.int i t)\/(∃ x t,k=Sum.inr x/\v=Value.str x t)
 |.inl i,v,h=>by obtain⟨t,e⟩:=Value.isInt_shape (k:=i) (v:=v) h;exact .inl ⟨i,t,rfl,e⟩
 |.inr x,v,h=>by obtain⟨t,e⟩:=Value.isStrOf_shape (x:=x) (v:=v) h;exact .inr ⟨x,t,rfl,e⟩
theorem Zt (i:Int)(t:Tok):Ua (.inl i) (.int i t)=true:=by simp[Ua,Value.isInt]
theorem SR (x:Str)(t:Tok):Ua (.inr x) (.str x t)=true:=by simp[Ua,Value.isStrOf]
theorem YI (a b:Int):decide ((Sum.inl a:Key)=Sum.inl b)=(a==b):=by
 by_cases e:a=b
 . subst e;simp
 have h:¬ (Sum.inl a:Key)=Sum.inl b:=λq=>e (DV q);rw[BS h];exact(A1A.mpr e).symm
theorem OI (a b:Str):decide ((Sum.inr a:Key)=Sum.inr b)=decide (a=b):=by
 by_cases e:a=b
 . subst e;simp
 have h:¬ (Sum.inr a:Key)=Sum.inr b:=λq=>e (Sum.inr.inj q);rw[BS h,BS e]
theorem SH (a:Int)(b:Str):decide ((Sum.inl a:Key)=Sum.inr b)=false:=BS (λq=>nomatch q)
theorem ZO (a:Str)(b:Int):decide ((Sum.inr a:Key)=Sum.inl b)=false:=BS (λq=>nomatch q)
noncomputable def B4 (prog:Program)(w:World):PySem.KeyKind prog w Key where
 is:=Ua
 hash:=keyH w
 inj:=λv a b ha hb=>by
  rcases C1 ha with ⟨i,t,rfl,rfl⟩|⟨x,t,rfl,rfl⟩
  . rcases C1 hb with ⟨j,u,rfl,e⟩|⟨y,u,rfl,e⟩
    . injection e with e1 _;rw[e1]
    exact nomatch e
  rcases C1 hb with ⟨j,u,rfl,e⟩|⟨y,u,rfl,e⟩
  . exact nomatch e
  injection e with e1 _;rw[e1]
 byValue:=λk v h=>by rcases C1 h with ⟨i,t,rfl,rfl⟩|⟨x,t,rfl,rfl⟩<;>rfl
 pyHash:=λhv h=>by
  rcases C1 hv with ⟨i,t,rfl,rfl⟩|⟨x,t,rfl,rfl⟩
  . exact wpAny_pyHash_int h
  exact wpAny_pyHash_str h
 eqBool:=λhu hv h=>by
  rcases C1 hu with ⟨i,t,rfl,rfl⟩|⟨x,t,rfl,rfl⟩
  . rcases C1 hv with ⟨j,u,rfl,rfl⟩|⟨y,u,rfl,rfl⟩
    . rw[YI] at h;exact wpAny_eqBool_int h
    rw[SH] at h;exact SeqAt.EqAt.int_str i t y u _ _ _ _ h
  rcases C1 hv with ⟨j,u,rfl,rfl⟩|⟨y,u,rfl,rfl⟩
  . rw[ZO] at h;exact SeqAt.EqAt.str_int x t j u _ _ _ _ h
  rw[OI] at h;exact wpAny_eqBool_str h
 «strs»:=λk x t v h=>by
  rcases C1 h with ⟨i,u,rfl,e⟩|⟨y,u,rfl,e⟩
  . exact nomatch e
  injection e with e1 _;subst e1
  cases v<;>rfl
theorem Ug (prog:Program)(w:World)(i:Int)(t:Tok):(B4 prog w).is (.inl i) (.int i t)=true:=Zt i t
theorem Um (prog:Program)(w:World)(x:Str)(t:Tok):(B4 prog w).is (.inr x) (.str x t)=true:=SR x t
inductive V where
 |non | bl (b:Bool) | int (i:Int) | str (x:Str) | byt (b:Array UInt8) | flt (b:UInt64) | ref (a:Addr) | ty (n:String)
 deriving DecidableEq
variable {vs:List V}{v y:V}
noncomputable def RelV:V->Value->Prop
 |.non,u=>u=Value.none
 |.bl b,u=>u=Value.bool b
 |.int i,u=>∃ t,u=Value.int i t
 |.str x,u=>∃ t,u=Value.str x t
 |.byt b,u=>∃ t,u=Value.bytes b t
 |.flt b,u=>∃ t,u=Value.float b t
 |.ref a,u=>u=Value.ref a
 |.ty n,u=>u=Value.type n
noncomputable abbrev Vals:List V->AC->Prop:=Paired RelV
theorem Vals.length {xs:List V}  (r:(R,xs)):xs.length=us.length:=EI r
theorem Vals.get:∀ {xs:List V} {us:AC} {i:Nat} {x:V},(R,xs)->xs[i]? = some x->∃ u,us[i]? = some u/\(u,x)
 |_,_,_,_,.nil,e=>by simp at e
 |_,_,0,_,.cons r _,e=>by simp at e;subst e;exact⟨_,rfl,r⟩
 |_,_,i+1,x,.cons _ t,e=>by obtain⟨u,h1,h2⟩:1:=Vals.get (i:=i) (x:=x) t (by simpa using e);exact⟨u,by simpa using h1,h2⟩
theorem Vals.set {x:V}{u:Value}(r:(u,x)):∀ {xs:List V} {us:AC} (i:Nat),(R,xs)->Vals (xs.set i x) (us.set i u)
 |_,_,_,.nil=>.nil
 |_,_,0,.cons _ t=>.cons r t
 |_,_,i+1,.cons q t=>.cons q (Vals.set r i t)
theorem Vals.append:∀ {xs ys:List V} {us ws:AC},(R,xs)->Vals ys ws->Vals (xs++ys) (us++ws)
 |_,_,_,_,.nil,s=>s
 |_,_,_,_,.cons r t,s=>.cons r (Vals.append t s)
theorem Vals.take:∀ {xs:List V} {us:AC} (n:Nat),(R,xs)->Vals (xs.take n) (us.take n)
 |_,_,0,_=>.nil
 |_,_,_+1,.nil=>.nil
 |_,_,n+1,.cons r t=>.cons r (Vals.take n t)
theorem Vals.drop:∀ {xs:List V} {us:AC} (n:Nat),(R,xs)->Vals (xs.drop n) (us.drop n)
 |_,_,0,r=>r
 |_,_,_+1,.nil=>.nil
 |_,_,n+1,.cons _ t=>Vals.drop n t
noncomputable def RelO:Option V->Option Value->Prop
 |some v,some u=>(u,v)
 |none,none=>True
 |_,_=>False
noncomputable def KV {κ:Type}:List (κ×V)->List (κ×Value)->Prop:=Paired λ(p:κ×V) (q:κ×Value)=>p.1=q.1/\RelV p.2 q.2
noncomputable def kV:Key->V
 |.inl i=>.int i
 |.inr x=>.str x
noncomputable def IsTupN (h:Heap)(a:Addr)(items:Array Value):Prop:=∃ o,h.get? a=some o/\o.cls = .type "tuple" /\ (∃ n,o.data = .seq items n)/\o.dict=none
theorem IsTupN.tup {items:Array Value}(x:IsTupN h a items):IsTup h a items:=let ⟨o,h1,h2,⟨n,h3⟩,_⟩:=x;⟨o,h1,h2,n,h3⟩
theorem IsTupN.new (h:Heap)(its:Array Value):IsTupN (h.push {cls:=.type "tuple",data:=.seq its}) h.objs.size its:=⟨_,(12,_),rfl,⟨_,rfl⟩,rfl⟩
inductive HO where
 |lst (xs:List V)
 |tup (xs:List V)
 |dK (kvs:List (Key×V)) | dT (kvs:List (List Key×V))
 |set (S:Int->Bool) (n:Nat)
 |ins (C dx:Addr) (fs:List (Str×V))
 |own (x:Addr)
 |xd (fs:List (Str×V))
 |met (f x:Addr)
 |rng (lo hi:Int)
 |frz (o:Obj) (u:HO)
 |tbl (ps:Array Value)
 |ext (φ:Heap->Prop)
noncomputable abbrev Hp:=Addr->Option HO
variable {H:Hp}
noncomputable def upd (H:Hp)(a:Addr)(o:HO):Hp:=λb=>if b=a then some o else H b
theorem Ab {o:HO}:upd H a o a=some o:=by unfold upd;rw[if_pos rfl]
theorem Ap {b:Addr}{o:HO}(h:b≠a):upd H a o b=H b:=by unfold upd;rw[if_neg h]
theorem ne_of {b:Addr}{o u:HO}(h:H a=some o)(h':H b=some u)(d:o≠u):a≠b:=by intro e;subst e;rw[h] at h';exact d (BR h')
theorem ne_of_none {b:Addr}{o:HO}(h:H a=some o)(h':H b=none):a≠b:=by intro e;subst e;rw[h] at h';cases h'
section
variable (P:Program)(w:World)
noncomputable def ObjOk (H:Hp)(h:Heap)(a:Addr):HO->Prop
 |.lst xs=>xs.length<=sizeLine/\∃(its:AC) (n:Nat),Vals xs its/\h.get? a=some {cls:=.type "list",data:=(116,n)}
 |.tup xs=>xs.length<=sizeLine/\∃ its:AC,Vals xs its/\IsTupN h a its.toArray
 |.dK kvs=>kvs.length<=sizeLine/\(a==sysModules)=false/\∃ vs,KV kvs vs/\h.DictOf (B4 P w) a vs
 |.dT kvs=>kvs.length<=sizeLine/\(a==sysModules)=false/\∃ xs:List (List Key×Addr×Value),
  Paired (λ(p:List Key×V) (q:List Key×Addr×Value)=>p.1=q.1/\H q.2.1=(23,p.1.map kV)/\RelV p.2 q.2.2) kvs xs /\
  ∃ o es ep,h.get? a=some o/\o.ExactDict/\o.data = .dict es ep/\es.toList=xs.map (entryOfKey (tupleKind (B4 P w)))/\(xs.map (·.1)).Nodup
 |.set S n=>h.SetOf (intKind P w) a S n
 |.ins C dx fs=>H dx=some (.own a)/\fs.length<=1000/\dx≠a/\h.get? a=some (117,dx) /\
  ∃ mA,h.Ns1 dx mA/\(∀ f,RelO (fs.lookup f) (mA f))/\PySem.Within mA (fs.map (·.1))
 |.own _=>∃ o,h.get? a=some o
 |.xd fs=>∃ mA,h.Ns1 a mA/\∀ f,RelO (fs.lookup f) (mA f)
 |.rng lo hi=>∃ t u v,h.get? a=some {cls:=.type "range",data:=.fields #[.int lo t,.int hi u,.int 1 v]}
 |.frz o u=>h.get? a=some o/\ObjOk H h a u
 |.tbl ps=>h.get? a=some {cls:=.none,data:=.fields ps}
 |.met f x=>h.get? a=some (W.methodObj (.ref f) (.ref x))
 |.ext φ=>φ h/\(∃ o,h.get? a=some o)/\∀ h1 h2:Heap,φ h1->(∀ o,h1.get? a=some o->h2.get? a=some o)->φ h2
noncomputable def HOk (H:Hp)(h:Heap):Prop:=∀ a o,H a=some o->ObjOk P w H h a o
end
section
variable {w:World}{H':Hp}{h':Heap}{o:HO}
theorem ObjOk.lt (x:ObjOk P w H h a o):a<h.objs.size:=by
 cases o with
 |lst xs=>obtain⟨_,_,_,_,e⟩:820:=x;exact BF e
 |tup xs=>obtain⟨_,_,_,p⟩:420:=x;exact p.tup.lt
 |dK kvs=>obtain⟨_,_,_,_,o,_,_,e,_⟩:488440:=x;exact BF e
 |dT kvs=>obtain⟨_,_,_,_,o,_,_,e,_⟩:488440:=x;exact BF e
 |set S n=>obtain⟨o,_,_,_,e,_⟩:4:=x;exact BF e
 |ins C dx fs=>obtain⟨_,_,_,e,_⟩:0:=x;exact BF e
 |own y=>obtain⟨_,e⟩:=x;exact BF e
 |xd fs=>obtain⟨_,⟨_,_,_,e,_⟩,_⟩:1:=x;exact BF e
 |rng lo hi=>obtain⟨_,_,_,e⟩:3:=x;exact BF e
 |frz ob u=>obtain⟨e,_⟩:=x;exact BF e
 |tbl ps=>exact BF (show h.get? a=some _ from x)
 |met f y=>exact BF (show h.get? a=some _ from x)
 |ext φ=>obtain⟨_,⟨_,e⟩,_⟩:0:=x;exact BF e
theorem Paired.mapP {α β:Type}{F G:α->β->Prop}:∀ {O:List α} {U:List β},Paired F O U->(∀ a b,F a b->G a b)->Paired G O U
 |_,_,.nil,_=>.nil
 |_,_,.cons r t,f=>.cons (f _ _ r) (Paired.mapP t f)
theorem ObjOk.stay (x:ObjOk P w H h a o)(k:∀ b u,(b=a\/H b=some (.own a))->h.get? b=some u->h'.get? b=some u)
 (O:∀ b,H b=some (.own a)->H' b=some (.own a)) (U:∀ b xs,H b=(23,xs)->H' b=(23,xs)):ObjOk P w H' h' a o:=by
 induction o with
 |lst xs=>obtain⟨z,its,n,r,e⟩:820:=x;exact⟨z,its,n,r,k _ _ (.inl rfl) e⟩
 |tup xs=>obtain⟨z,its,r,ob,e,c⟩:168420:=x;exact⟨z,its,r,ob,k _ _ (.inl rfl) e,c⟩
 |dK kvs=>obtain⟨z,y,vs,r,ob,es,ep,e,c⟩:488440:=x;exact⟨z,y,vs,r,ob,es,ep,k _ _ (.inl rfl) e,c⟩
 |dT kvs=>obtain⟨z,y,xs,r,ob,es,ep,e,c⟩:488440:=x;exact⟨z,y,xs,Paired.mapP r λp q z=>⟨z.1,U _ _ z.2.1,z.2.2⟩,ob,es,ep,k _ _ (.inl rfl) e,c⟩
 |set S n=>obtain⟨ob,es,ep,t,e,c⟩:4:=x;exact⟨ob,es,ep,t,k _ _ (.inl rfl) e,c⟩
 |ins C dx fs=>obtain⟨d,z,ne,e,mA,⟨od,es,ep,F,c⟩,r⟩:480:=x;exact⟨O _ d,z,ne,k _ _ (.inl rfl) e,mA,⟨od,es,ep,k _ _ (.inr d) F,c⟩,r⟩
 |own y=>obtain⟨ob,e⟩:=x;exact⟨ob,k _ _ (.inl rfl) e⟩
 |xd fs=>obtain⟨mA,⟨od,es,ep,e,c⟩,r⟩:1:=x;exact⟨mA,⟨od,es,ep,k _ _ (.inl rfl) e,c⟩,r⟩
 |rng lo hi=>obtain⟨t,u,v,e⟩:3:=x;exact⟨t,u,v,k _ _ (.inl rfl) e⟩
 |frz ob u ih=>obtain⟨e,q⟩:=x;exact⟨k _ _ (.inl rfl) e,ih q⟩
 |tbl ps=>have e:h.get? a=some {cls:=.none,data:=.fields ps}:=x;show h'.get? a=some {cls:=.none,data:=.fields ps};exact k a _ (.inl rfl) e
 |met f y=>have e:h.get? a=some (W.methodObj (.ref f) (.ref y)):=x;show h'.get? a=some (W.methodObj (.ref f) (.ref y));exact k a _ (.inl rfl) e
 |ext φ=>obtain⟨p,⟨o,e⟩,st⟩:0:=x;exact⟨st _ _ p λo q=>k _ _ (.inl rfl) q,⟨o,k _ _ (.inl rfl) e⟩,st⟩
theorem HOk.lt (x:HOk P w H h)(e:H a=some o):a<h.objs.size:=(x a o e).lt
theorem HOk.fresh (x:HOk P w H h)(e:h.objs.size<=a):H a=none:=by
 cases q:H a with
 |none=>rfl
 |some u=>exact(77,CS (x.lt q) e,_)
theorem HOk.kept (x:HOk P w H h)(k:∀ b u,h.get? b=some u->h'.get? b=some u):HOk P w H h':=λa o e=>
 (x a o e).stay (λb u _ q=>k b u q) (λ_ q=>q) λ_ _ q=>q
theorem HOk.laid (x:HOk P w H h)(k:∀ b u,h.get? b=some u->h'.get? b=some u)(hp:h.objs.size<=a)(new:ObjOk P w (B,a,o) h' a o):HOk P w ((B,a,o)) h':=λb u e=>by
 have hn:=x.fresh hp
 by_cases hb:b=a
 . subst hb;rw[Ab] at e;cases e;exact new
 rw[Ap hb] at e;exact(x b u e).stay (λc v _ q=>k c v q) (λc q=>by rw[(106,q,hn)];exact q) λc xs q=>by rw[(106,q,hn)];exact q
end
noncomputable def Rd (H:Hp)(a:Addr)(u:HO):Prop:=H a=some u\/∃ o,H a=(59,o,u)
theorem Rd.ok {w:World}{u:HO}(r:Rd H a u)(x:HOk P w H h):ObjOk P w H h a u:=by
 rcases r with r|⟨o,r⟩
 . exact x a u r
 obtain⟨_,q⟩:=x a _ r;exact q
noncomputable def Mut:Option HO->Prop
 |some (.lst _)=>True
 |some (.dK _)=>True
 |some (.dT _)=>True
 |some (.set _ _)=>True
 |some (.ins _ _ _)=>True
 |some (.ext _)=>True
 |_=>False
section
variable {w:World}{h':Heap}{x e:Addr}{o':HO}
theorem HOk.write (ok:HOk P w H h)(U:Mut (H x))(he:e=x\/H e=some (.own x))(k:∀ b u,b≠e->h.get? b=some u->h'.get? b=some u)(a0:∃ u,h'.get? e=some u)
 (new:ObjOk P w (B,x,o') h' x o'):HOk P w ((B,x,o')) h':=λb u q=>by
 have Y:∀ c y,H c=some (.own y)->c≠x:=λc y r z=>by subst z;rw[r] at U;exact U
 have a1:∀ c xs,H c=(23,xs)->c≠x:=λc xs r z=>by subst z;rw[r] at U;exact U
 by_cases hb:b=x
 . subst hb;rw[Ab] at q;cases q;exact new
 rw[Ap hb] at q
 by_cases F:b=e
 . have Z:H b=some (.own x):=by
    rcases he with z|z
    . exact absurd (F.trans z) hb
    rw[F];exact z
   rw[q] at Z;cases Z;obtain⟨v,hv⟩:=a0;exact⟨v,by rw[F];exact hv⟩
 refine(ok b u q).stay (λc v O r=>k c v ?_ r) (λc r=>by rw[Ap (Y c b r)];exact r) λc xs r=>by rw[Ap (a1 c xs r)];exact r
 rcases O with rfl|O
 . exact F
 rintro rfl;rcases he with z|z
 . exact Y c b O z
 rw[O] at z;cases z;exact hb rfl
end
structure Un (fs ex:AF)(H H':Hp)(h h':Heap):Prop where
 keep:∀ b o,h.get? b=some o->H b=none->b∉fs->b∉ex->h'.get? b=some o
 slot:∀ b o,h.get? b=some o->H b=none->b∈fs->b∉ex->∃ sl,h'.get? b=some {o with slots:=sl}
 free:∀ b o,h.get? b=some o->H b=none->b∉ex->H' b=none
 there:∀ b o,h.get? b=some o->b∉ex->∃ o',h'.get? b=some o'
 tups:∀ b xs,H b=(23,xs)->H' b=(23,xs)
 frzs:∀ b o u,H b=(59,o,u)->H' b=(59,o,u)
 tbls:∀ b ps,H b=some (.tbl ps)->∃ more,H' b=some (.tbl (ps++more))
section
variable {fs fs' ex ex':AF}{H1 H2:Hp}{h1 h2 h':Heap}{x e:Addr}{o:HO}
theorem Un.any (u:Un fs ex H H1 h h1){b:Addr}{ob:Obj}(q:h.get? b=some ob)(n:H b=none)(F:b∉ex):∃ O,h1.get? b=some {ob with slots:=O}:=by
 by_cases hb:b∈fs
 . exact u.slot b ob q n hb F
 exact⟨ob.slots,u.keep b ob q n hb F⟩
theorem Un.kept (k:∀ b u,h.get? b=some u->h'.get? b=some u):Un fs ex H H h h':=
 ⟨λb ob q _ _ _=>k b ob q,λb ob q _ _ _=>⟨ob.slots,k b ob q⟩,λ_ _ _ n _=>n,λb ob q _=>⟨ob,k b ob q⟩,λ_ _ q=>q,λ_ _ _ q=>q,λ_ ps q=>⟨#[],by rw[q];simp⟩⟩
theorem Un.refl:Un fs ex H H h h:=Un.kept λ_ _ q=>q
theorem Un.laid (k:∀ b u,h.get? b=some u->h'.get? b=some u)(hp:h.objs.size<=a)(hn:H a=none):Un fs ex H (B,a,o) h h' where
 keep:=λb u q _ _ _=>k b u q
 slot:=λb u q _ _ _=>⟨u.slots,k b u q⟩
 free:=λb u q n _=>by rw[Ap (BN (CS (BF q) hp))];exact n
 there:=λb u q _=>⟨u,k b u q⟩
 tups:=λb xs q=>by rw[(106,q,hn)];exact q
 frzs:=λb u xs q=>by rw[(106,q,hn)];exact q
 tbls:=λb ps q=>⟨#[],by rw[(106,q,hn),q];simp⟩
theorem Un.write (F:Mut (H x))(he:e=x\/H e=some (.own x))(k:∀ b u,b≠e->h.get? b=some u->h'.get? b=some u)(Y:∃ u,h'.get? e=some u):Un fs ex H ((B,x,o)) h h':=by
 have U:∀ b,H b=none->b≠x:=λb n z=>by subst z;rw[n] at F;exact F
 have hb:∀ b,H b=none->b≠e:=λb n z=>by
  subst z;rcases he with r|r
  . exact U b n r
  rw[n] at r;cases r
 have hm:∀ b u,H b=some u->¬ Mut (some u)->b≠x:=λb u q nm z=>by subst z;rw[q] at F;exact nm F
 refine⟨λb u q n _ _=>k b u (hb b n) q,λb u q n _ _=>⟨u.slots,k b u (hb b n) q⟩,λb u q n _=>by rw[Ap (U b n)];exact n,λb u q _=>?_,
  λb xs q=>by rw[Ap (hm b _ q λz=>z)];exact q,λb u xs q=>by rw[Ap (hm b _ q λz=>z)];exact q,λb ps q=>⟨#[],by rw[Ap (hm b _ q λz=>z),q];simp⟩⟩
 by_cases O:b=e
 . subst O;exact Y
 exact⟨u,k b u O q⟩
end
noncomputable def trk (h:Heap)(H:Hp):AF:=(List.range h.objs.size).filter λa=>(H a).isSome
noncomputable def ab0 (h:Heap)(H:Hp):Heap:=W.hideAll h (trk h H)
theorem VF (h:Heap)(H:Hp):(ab0 h H).objs.size=h.objs.size:=W.hideAll_size _ _
theorem RQ {b:Addr}{o:Obj}(e:h.get? b=some o)(n:H b=none):(ab0 h H).get? b=some o:=
 W.hideAll_get _ e λhm=>by have q:(H b).isSome=true:=(A0M.mp hm).2;rw[n] at q;simp at q
theorem PP {b:Addr}{o:Obj}(e:(ab0 h H).get? b=some o):h.get? b=some o/\H b=none:=by
 have F:h.get? b=some o:=W.of_hideAll (trk h H) e;refine⟨F,?_⟩
 cases q:H b with
 |none=>rfl
 |some x=>have hm:b∈trk h H:=List.mem_filter.mpr ⟨List.mem_range.mpr (Heap.lt_size F),by simp[q]⟩;have z:(ab0 h H).get? b=none:=W.hideAll_none (trk h H) hm;rw[z] at e;cases e
noncomputable def Ht (g h:Heap)(L:Addr):AI:=(List.range h.objs.size).filterMap λa=>if a=L\/(g.get? a).isSome=true then none else(h.get? a).map λo=>(a,o)
theorem Uv {o:Obj}(h1:a≠L)(h2:g.get? a=none)(F:h.get? a=some o):(a,o)∈Ht g h L:=
 List.mem_filterMap.mpr ⟨a,List.mem_range.mpr (Heap.lt_size F),by simp[h1,h2,F]⟩
theorem Om {p:Addr×Obj}(hp:p∈Ht g h L):p.1≠L/\g.get? p.1=none/\h.get? p.1=some p.2:=by
 obtain⟨b,_,e⟩:1:=A4G.mp hp
 split at e
 . cases e
 rename_i hn
 cases q:h.get? b with
 |none=>rw[q] at e;simp at e
 |some u=>
   rw[q] at e;simp only[Option.map_some,Option.some.injEq] at e;subst e;refine⟨λz=>hn (.inl z),?_,q⟩;show g.get? b=none
   cases r:g.get? b with
   |none=>rfl
   |some v=>exact(hn (.inr (by simp[r]))).elim
noncomputable def rest (g h:Heap)(L d:Addr):AI:=(Ht g h L).filter λp=>decide (p.1≠d)
theorem WL:News g L h (Ht g h L):=λp hp=>let ⟨a,b,c⟩:=Om hp;⟨c,a,b⟩
structure Mod (K:W.Frag)(mg:AH)(base:Heap):Prop where
 kin:K.In base
 glob:base.Ns mainGlobals mg
 blt:∃ mb,base.Ns builtinsNs mb/\∀ x:Str,x ≠ "__name__" -> mb x=bootBuiltins x
 nolimit:base.NoLimit
/-- the context: a def's body (or a comprehension's block) running. base: fixed through the whole law;s₀,H₀: the entry;outer: the frames whose slots others may change (a def's callers);stack: all frames that run;
 ex: iterators that were made ahead of the entry and are walked here (a comprehension's);fn: the names whose cells were made at the entry (a def: all;a comprehension's block: its own);calm: not within an except suite;pn: pins that every state bears;xe: what is wanted of an exception that leaves the code -/
structure Cx where
 prog:Program
 w:World
 K:W.Frag
 mg:Str->Option Value
 base:Heap
 A:Around
 N:AA
 s₀:Shared
 H₀:Hp
 env:Env
 outer:List Env
 stack:List Env
 ex:AF
 fn:Str->Bool
 calm:Bool
 pn:AI
 xe:Value->Shared->Prop
variable {X:Cx}
noncomputable def frs (l:List Env):AF:=l.filterMap (·.frame)
noncomputable abbrev Cx.fs (X:Cx):AF:=frs X.outer
noncomputable def Vis (sc:Scope)(x:Str):Prop:=sc.names.lookup x=some .local\/sc.names.lookup x=some .cell\/sc.names.lookup x=some .free
noncomputable def Loc (sc:Scope)(x:Str):Prop:=sc.names.lookup x=some .local\/sc.names.lookup x=some .cell
noncomputable def aT1 (env:Env)(h:Heap)(m:AH)(x:Str)(u:Value):Prop:=
 (env.kindOf x=some .local/\m x=some u)\/((env.kindOf x=some .cell\/env.kindOf x=some .free)/\∃ c,env.cells.lookup x=some c/\h.IsCell c (some u))
structure Cx.Ok (X:Cx):Prop where
 mod:Mod X.K X.mg X.base
 kind:X.env.scope.kind = .function
 glob:X.env.globals=mainGlobals
 blt:X.env.builtins=builtinsNs
 above:X.s₀.heap.objs.size<=X.env.locals
 inj:∀ x y c,X.env.cells.lookup x=some c->X.env.cells.lookup y=some c->x=y
 has:∀ x,(X.env.kindOf x=some .cell\/X.env.kindOf x=some .free)->∃ c,X.env.cells.lookup x=some c
 cab:∀ x c,X.fn x=true->X.env.cells.lookup x=some c->X.s₀.heap.objs.size<=c
 hd:X.calm=true->X.A.handled=none
 frames:X.A.frames=some X.stack
 stk:X.stack=X.outer\/(X.stack=X.env :: X.outer/\X.env.frame=some X.env.locals)
 exf:∀ b∈X.ex,b≠X.env.locals/\∀ x c,X.env.cells.lookup x=some c->c≠b
 bs:∀ b o,X.base.get? b=some o->X.s₀.heap.get? b=some o/\X.H₀ b=none
 bsz:X.base.objs.size<=X.s₀.heap.objs.size
 noex:∀ b o,X.base.get? b=some o->b∉X.ex
 exfs:∀ b∈X.ex,b∉X.fs
 funs:X.s₀.heap.FunFrames X.base X.outer
 frf:∀ b∈X.fs,X.H₀ b=none
structure Inv (X:Cx)(pins:AI)(σ:(91,V))(H:Hp)(s:Shared):Prop where
 ok:X.Ok
 os:s.os=X.s₀.os
 bare:AllBare s.gens
 base:Un X.fs X.ex X.H₀ H X.s₀.heap s.heap
 loc:∃ m,s.heap.Ns X.env.locals m/\∀(i:Nat) (x:Str) (v:V),X.N[i]? = some x->σ[i]? = some (some v)->Vis X.env.scope x->∃ u,(u,v)/\aT1 X.env s.heap m x u
 cell:∀ x c,X.env.cells.lookup x=some c->∃ v,s.heap.IsCell c v
 free:H X.env.locals=none
 freeC:∀ x c,X.env.cells.lookup x=some c->H c=none
 pin:∀ p∈X.pn++pins,s.heap.get? p.1=some p.2/\H p.1=none/\p.1≠X.env.locals/\p.1∉X.fs/\∀ v,p.2.data ≠ .cell v
 hok:HOk X.prog X.w H s.heap
 len:σ.length=X.N.length
section
variable {σ:(91,V)}{H':Hp}{h':Heap}
theorem Cx.Ok.nofr (ok:X.Ok){b:Addr}{o:Obj}(e:X.base.get? b=some o):b∉X.fs:=λhb=>by have:=(ok.funs.mem hb).1;rw[e] at this;cases this
theorem Inv.bs (I:(4,s)):∀ b o,X.base.get? b=some o->s.heap.get? b=some o/\H b=none:=λb o e=>
 ⟨I.base.keep b o (I.ok.bs b o e).1 (I.ok.bs b o e).2 (I.ok.nofr e) (I.ok.noex b o e),I.base.free b o (I.ok.bs b o e).1 (I.ok.bs b o e).2 (I.ok.noex b o e)⟩
theorem Inv.bk (I:(4,s)):∀ b o,X.base.get? b=some o->s.heap.get? b=some o:=λb o e=>(I.bs b o e).1
theorem Inv.mod (I:(4,s)):Mod X.K X.mg X.base:=I.ok.mod
theorem Inv.kIn (I:(4,s)):X.K.In s.heap:=I.ok.mod.kin.keeps I.bk
theorem Inv.lt (I:(4,s)):X.env.locals<s.heap.objs.size:=let ⟨_,hn,_⟩:=I.loc;hn.lt
theorem Inv.sz (I:(4,s)):X.s₀.heap.objs.size<=s.heap.objs.size:=BI I.ok.above (DM I.lt)
theorem Inv.nofs (I:(4,s))(h:s.heap.objs.size<=a):a∉X.fs:=λhb=>by obtain⟨_,o,F,_⟩:420:=I.ok.funs.mem hb;exact(77,CS (BF F) (BI I.sz h),_)
theorem Inv.cne (I:(4,s)):∀ x c,X.env.cells.lookup x=some c->c≠X.env.locals:=λx c e z=>by obtain⟨v,o,F,hd⟩:2:=I.cell x c e;obtain⟨m,⟨o',es,ep,U,O,_⟩,_⟩:1:=I.loc;rw[z,U] at F;cases F;rw[O] at hd;cases hd
theorem Inv.funs (I:(4,s)):s.heap.FunFrames X.base X.outer:=by
 have all:∀(l:List Env),(∀ b∈frs l,b∈X.fs)->X.s₀.heap.FunFrames X.base l->s.heap.FunFrames X.base l:=by
  intro l
  induction l with
  |nil=>intro _ _;trivial
  |cons env r ih=>intro O hl;obtain⟨U,⟨L,o,hf,hn,Y,hd⟩,Z⟩:0:=hl;have F:L∈X.fs:=O L (by unfold frs;rw[List.filterMap_cons,hf];exact List.mem_cons_self);obtain⟨sl,e⟩:=I.base.slot L o Y (I.ok.frf L F) F λz=>I.ok.exfs L z F;exact⟨U,⟨L,_,hf,hn,e,hd⟩,ih (λb hb=>O b (by unfold frs;rw[List.filterMap_cons,hf];exact List.mem_cons_of_mem _ hb)) Z⟩
 exact all X.outer (λ_ hb=>hb) I.ok.funs
theorem Inv.stack (I:(4,s)):s.heap.FunFrames X.base X.stack:=by
 rcases I.ok.stk with e|⟨e,hf⟩
 . rw[e];exact I.funs
 rw[e];obtain⟨m,hn,_⟩:1:=I.loc;refine .cons (by rw[I.ok.kind];decide) hf hn ?_ I.funs;exact Heap.get?_none_of_le (BI I.ok.bsz I.ok.above)
theorem Inv.stkSub (I:(4,s)):∀ b∈frs X.stack,b∈X.env.locals :: X.fs:=λb hb=>by
 rcases I.ok.stk with e|⟨e,hf⟩
 . rw[e] at hb;exact BP _ hb
 rw[e] at hb;unfold frs at hb;rw[List.filterMap_cons,hf] at hb;exact hb
theorem Inv.stkFree (I:(4,s)):∀ b∈frs X.stack,H b=none:=λb hb=>by
 rcases A0A.mp (I.stkSub b hb) with e|hb
 . rw[e];exact I.free
 obtain⟨_,o,F,_⟩:420:=I.ok.funs.mem hb;exact I.base.free b o F (I.ok.frf b hb) λz=>I.ok.exfs b z hb
theorem Inv.step {g':Array GenState}{d':Drawn}(I:(4,s))
 (Z:∀ b∈ch,(b∈X.ex\/X.s₀.heap.objs.size<=b)/\b≠X.env.locals/\(∀ x c,X.env.cells.lookup x=some c->c≠b)/\∀ p∈X.pn++pins,p.1≠b)
 (keep:∀ b o,b≠X.env.locals->b∉X.fs->b∉ch->s.heap.get? b=some o->H b=none->h'.get? b=some o)
 (slot:∀ b o,b≠X.env.locals->b∈X.fs->b∉ch->s.heap.get? b=some o->H b=none->∃ sl,h'.get? b=some {o with slots:=sl}) (free:∀ b o,b∉ch->s.heap.get? b=some o->H b=none->H' b=none)
 (there:∀ b o,b∉ch->s.heap.get? b=some o->∃ o',h'.get? b=some o')
 (tups:∀ b xs,H b=(23,xs)->H' b=(23,xs)) (frzs:∀ b o u,H b=(59,o,u)->H' b=(59,o,u)) (tbls:∀ b ps,H b=some (.tbl ps)->∃ more,H' b=some (.tbl (ps++more)))
 (ns:∀ m,s.heap.Ns X.env.locals m->h'.Ns X.env.locals m) (hok:HOk X.prog X.w H' h') (hg:AllBare g') :
 Inv X pins σ H' {s with heap:=h',gens:=g',drawn:=d',toks:=t'}:=by
 have a3:∀ b o,X.s₀.heap.get? b=some o->b≠X.env.locals:=λb o e=>BN (CS (BF e) I.ok.above)
 have a1:∀ b o,X.s₀.heap.get? b=some o->b∉X.ex->b∉ch:=λb o e F hb=>by
  rcases(Z b hb).1 with z|z
  . exact F z
  exact(77,CS (BF e) z,_)
 have a2:∀ x c,X.env.cells.lookup x=some c->∀ v,s.heap.IsCell c v->h'.IsCell c v:=λx c e v ⟨o,U,hd⟩=>by
  have a0:c∉ch:=λz=>(Z c z).2.2.1 x c e rfl
  by_cases hc:c∈X.fs
  . obtain⟨sl,q⟩:=slot c o (I.cne x c e) hc a0 U (I.freeC x c e);exact⟨_,q,hd⟩
  exact⟨o,keep c o (I.cne x c e) hc a0 U (I.freeC x c e),hd⟩
 refine⟨I.ok,I.os,hg,⟨λb o e n hb F=>?_,λb o e n hb F=>?_,λb o e n F=>?_,λb o e F=>?_,λb xs e=>tups b xs (I.base.tups b xs e),λb o xs e=>frzs b o xs (I.base.frzs b o xs e),λb ps e=>?_⟩,?_,λx c e=>?_,?_,λx c e=>?_,λp hp=>?_,hok,I.len⟩
 . exact keep b o (a3 b o e) hb (a1 b o e F) (I.base.keep b o e n hb F) (I.base.free b o e n F)
 . obtain⟨sl,O⟩:=I.base.slot b o e n hb F;obtain⟨a4,Y⟩:=slot b _ (a3 b o e) hb (a1 b o e F) O (I.base.free b o e n F);exact⟨a4,Y⟩
 . obtain⟨o',O⟩:=(92,b,e,F);exact free b o' (a1 b o e F) O (I.base.free b o e n F)
 . obtain⟨o',O⟩:=(92,b,e,F);exact there b o' (a1 b o e F) O
 . obtain⟨m1,O⟩:=I.base.tbls b ps e;obtain⟨m2,Y⟩:=tbls b _ O;exact⟨m1++m2,by rw[Y,Array.append_assoc]⟩
 . obtain⟨m,hn,hl⟩:1:=I.loc;refine⟨m,ns m hn,λi x v O Y e3=>?_⟩;obtain⟨u,r,l⟩:1:=hl i x v O Y e3;refine⟨u,r,?_⟩;rcases l with l|⟨k,c,e,z⟩
   . exact .inl l
   exact .inr ⟨k,c,e,a2 x c e _ z⟩
 . obtain⟨v,z⟩:=I.cell x c e;exact⟨v,a2 x c e v z⟩
 . obtain⟨m,⟨o,_,_,U,_⟩,_⟩:1:=I.loc;exact free _ o (λz=>(Z _ z).2.1 rfl) U I.free
 . obtain⟨v,o,U,hd⟩:2:=I.cell x c e;exact free c o (λz=>(Z c z).2.2.1 x c e rfl) U (I.freeC x c e)
 obtain⟨e,n,ne,nf,d⟩:0:=I.pin p hp;have a0:p.1∉ch:=λz=>(Z p.1 z).2.2.2 p hp rfl;exact⟨keep p.1 p.2 ne nf a0 e n,free p.1 p.2 a0 e n,ne,nf,d⟩
theorem Inv.un (I:(4,s))(u:Un X.fs [] H H' s.heap h')(hok:HOk X.prog X.w H' h'):Inv X pins σ H' {s with heap:=h',toks:=t'}:=by
 obtain⟨m,⟨o,es,ep,F,r⟩,_⟩:1:=id I.loc;obtain⟨sl,Z⟩:=u.any F I.free 'c'
 exact I.step (g':=s.gens) (d':=s.drawn) (ch:=[]) (λ_ z=>nomatch z) (λb o _ hb _ e n=>u.keep b o e n hb 'c') (λb o _ hb _ e n=>u.slot b o e n hb 'c') (λb o _ e n=>u.free b o e n 'c') (λb o _ e=>u.there b o e 'c') u.tups u.frzs u.tbls (λm' hm=>by obtain⟨o',Y,U,O,r'⟩:3:=hm;rw[F] at O;cases O;exact⟨_,Y,U,Z,r'⟩) hok I.bare
theorem Inv.call {g':Array GenState}{d':Drawn}(I:(4,s))(u:Un (frs X.stack) ch H H' s.heap h')(hok:HOk X.prog X.w H' h')(hg:AllBare g')
 (U:∀ b∈ch,(b∈X.ex\/X.s₀.heap.objs.size<=b)/\b≠X.env.locals/\(∀ x c,X.env.cells.lookup x=some c->c≠b)/\∀ p∈X.pn++pins,p.1≠b) :
 Inv X pins σ H' {s with heap:=h',gens:=g',drawn:=d',toks:=t'}:=by
 obtain⟨m,⟨o,es,ep,Y,r⟩,_⟩:1:=id I.loc;obtain⟨sl,O⟩:=u.any Y I.free λz=>(U _ z).2.1 rfl
 exact I.step (ch:=ch) U (λb o O hb F e n=>u.keep b o e n (λz=>(A0A.mp (I.stkSub b z)).elim O hb) F) (λb o _ _ F e n=>u.any e n F) (λb o F e n=>u.free b o e n F) (λb o F e=>u.there b o e F) u.tups u.frzs u.tbls (λm' hm=>by obtain⟨o',a1,a0,Z,r'⟩:3:=hm;rw[Y] at Z;cases Z;exact⟨_,a1,a0,O,r'⟩) hok hg
theorem Inv.turned {it:Addr}(I:(4,s))(k:∀ b o,b≠it->s.heap.get? b=some o->h'.get? b=some o)(hn:H it=none)(O:it≠X.env.locals)
 (h1:it∈X.ex\/X.s₀.heap.objs.size<=it) (h2:∀ x c,X.env.cells.lookup x=some c->c≠it) (Y:∀ p∈X.pn++pins,p.1≠it):Inv X pins σ H {s with heap:=h',toks:=t'}:=by
 have U:∀ b u,H b=some u->b≠it:=λb u e z=>by rw[z,hn] at e;cases e
 refine I.step (g':=s.gens) (d':=s.drawn) (ch:=[it]) (λb hb=>?_) (λb o _ _ F e _=>k b o (λz=>F (by simp[z])) e) (λb o _ _ F e _=>⟨o.slots,k b o (λz=>F (by simp[z])) e⟩) (λ_ _ _ _ n=>n)
  (λb o F e=>⟨o,k b o (λz=>F (by simp[z])) e⟩) (λ_ _ e=>e) (λ_ _ _ e=>e) (λb ps e=>⟨#[],by rw[e];simp⟩) (λm hm=>?_) (λb u e=>?_) I.bare
 . have e:b=it:=by simpa using hb
   subst e;exact⟨h1,O,h2,Y⟩
 . obtain⟨o,es,ep,Z,r⟩:3:=hm;exact⟨o,es,ep,k _ o (Ne.symm O) Z,r⟩
 refine(I.hok b u e).stay (λc v F q=>k c v ?_ q) (λ_ q=>q) λ_ _ q=>q;rcases F with z|z
 . rw[z];exact U b u e
 exact U c _ z
theorem Inv.tok (I:(4,s))(t:Nat):Inv X pins σ H {s with toks:=t}:=I.un (h':=s.heap) (t':=t) Un.refl I.hok
theorem Inv.kept (I:(4,s))(k:∀ b u,s.heap.get? b=some u->h'.get? b=some u):Inv X pins σ H {s with heap:=h',toks:=t'}:=I.un (Un.kept k) (I.hok.kept k)
theorem Inv.laid {o:HO}(I:(4,s))(k:∀ b u,s.heap.get? b=some u->h'.get? b=some u)(hp:s.heap.objs.size<=a)(new:(70,X.w,(B,a,o),h',a,o)) :
 Inv X pins σ ((B,a,o)) {s with heap:=h',toks:=t'}:=I.un (Un.laid k hp (I.hok.fresh hp)) (I.hok.laid k hp new)
theorem Inv.write {x e:Addr}{o:HO}(I:(4,s))(O:Mut (H x))(he:e=x\/H e=some (.own x))(k:∀ b u,b≠e->s.heap.get? b=some u->h'.get? b=some u)(F:∃ u,h'.get? e=some u)
 (new:(70,X.w,(B,x,o),h',x,o)):Inv X pins σ ((B,x,o)) {s with heap:=h',toks:=t'}:=I.un (Un.write O he k F) (I.hok.write O he k F new)
theorem Inv.weak {σ':(91,V)}(I:(4,s))(hl:σ'.length=σ.length)(w:∀(i:Nat) v,σ'[i]? = some (some v)->σ[i]? = some (some v)):Inv X pins σ' H s:=
 ⟨I.ok,I.os,I.bare,I.base,let ⟨m,hn,hl'⟩:=I.loc;⟨m,hn,λi x v F O U=>hl' i x v F (w i v O) U⟩,I.cell,I.free,I.freeC,I.pin,I.hok,hl.trans I.len⟩
theorem Inv.pins_of {F:AI}(I:(4,s))(h:∀ p∈F,s.heap.get? p.1=some p.2/\H p.1=none/\p.1≠X.env.locals/\p.1∉X.fs/\∀ v,p.2.data ≠ .cell v):Inv X F σ H s:=
 ⟨I.ok,I.os,I.bare,I.base,I.loc,I.cell,I.free,I.freeC,λp hp=>(A0B.mp hp).elim (λz=>I.pin p (BZ _ z)) (h p),I.hok,I.len⟩
theorem Rf {N:AA}(U:N.Nodup){j:Nat}(a:N[i]? = some x)(b:N[j]? = some x):i=j:=by obtain⟨h1,F⟩:=A01.mp a;obtain⟨h2,O⟩:=A01.mp b;exact(CY U).mp (F.trans O.symm)
theorem Sc {A:Around}{Q:Unit->Shared->Prop}(I:(4,s))(hN:X.N.Nodup)(hi:X.N[i]? = some x)(Y:Loc X.env.scope x)(r:(u,v))
 (h:∀ s',(T,X,(107,i,v),H,s')->(∃ a,Heap.SameBut a s.heap s'.heap/\(a=X.env.locals\/X.env.cells.lookup x=some a))->Q () s') (hf:X.fn x=true\/X.env.scope.names.lookup x=some .local:=by with_unfolding_all (first | exact .inl rfl | exact .inr rfl | assumption)):wpAny M A (storeName X.env x u) Q E s:=by
 obtain⟨m,hn,hl⟩:1:=id I.loc;have a7:(X.env.scope.kind == .class||(X.env.scope.kind == .module&&X.env.locals != X.env.globals))=false:=by rw[I.ok.kind];rfl
 have a4:i<σ.length:=by rw[I.len];exact(A01.mp hi).1
 have cne:=I.cne
 have a6:∀ {a:Addr} {h':Heap},(∃ o,s.heap.get? a=some o/\H a=none)->Heap.SameBut a s.heap h'->HOk X.prog X.w H h':=fun {a h'} ha F b ob e=>by
  obtain⟨_,_,a3⟩:1:=ha;refine(I.hok b ob e).stay (λc w' U q=>(F.2 c ?_).trans q) (λ_ q=>q) λ_ _ q=>q;rintro rfl;rcases U with rfl|U
  . rw[a3] at e;cases e
  rw[a3] at U;cases U
 rcases Y with hk|hk
 . refine wpAny_storeName_local hk hn (λh' a8 F=>?_) a7;obtain⟨oL,_,_,a9,_⟩:3:=id hn;refine h _ ⟨I.ok,I.os,I.bare,⟨λb o e n hb Y=>?_,λb o e n hb Y=>?_,I.base.free,λb o e Y=>?_,I.base.tups,I.base.frzs,I.base.tbls⟩,⟨_,a8,λj y v' O Z e3=>?_⟩,λy c e=>?_,I.free,I.freeC,λp hp=>?_,a6 ⟨oL,a9,I.free⟩ F,by simpa using I.len⟩ ⟨_,F,.inl rfl⟩
   . exact(F.2 b (BN (CS (BF e) I.ok.above))).trans (I.base.keep b o e n hb Y)
   . obtain⟨sl,O⟩:=I.base.slot b o e n hb Y;exact⟨sl,(F.2 b (BN (CS (BF e) I.ok.above))).trans O⟩
   . obtain⟨o',O⟩:=(92,b,e,Y);exact⟨o',(F.2 b (BN (CS (BF e) I.ok.above))).trans O⟩
   . by_cases hj:j=i
     . subst hj;rw[hi] at O;cases O;rw[IB a4] at Z
       cases Z;exact⟨u,r,.inl ⟨hk,by simp⟩⟩
     rw[EU (Ne.symm hj)] at Z;obtain⟨u',r',q⟩:1:=hl j y v' O Z e3;refine⟨u',r',?_⟩;rcases q with ⟨k,e⟩|⟨k,c,e,z⟩
     . refine .inl ⟨k,?_⟩;have:y≠x:=λe=>hj (Rf hN O (e ▸ hi));simp[this,e]
     exact .inr ⟨k,c,e,z.sameBut F (cne y c e)⟩
   . obtain⟨w',z⟩:=I.cell y c e;exact⟨w',z.sameBut F (cne y c e)⟩
   obtain⟨e,n,ne,nf,d⟩:0:=I.pin p hp;exact⟨(F.2 p.1 ne).trans e,n,ne,nf,d⟩
 have a0:X.fn x=true:=by
  rcases hf with z|z
  . exact z
  rw[z] at hk;cases hk
 obtain⟨c,U⟩:=I.ok.has x (.inl hk);obtain⟨w',z⟩:=I.cell x c U;refine wpAny_storeName_cell I.ok.kind hk U z (λh' a1 F=>?_);obtain⟨oc,a5,aA⟩:1:=id z;refine h {s with heap:=h'} ⟨I.ok,I.os,I.bare,⟨λb o e n hb Y=>?_,λb o e n hb Y=>?_,I.base.free,λb o e Y=>?_,I.base.tups,I.base.frzs,I.base.tbls⟩,⟨m,hn.sameBut F (Ne.symm (cne x c U)),λj y v' O Z e3=>?_⟩,λy c' e=>?_,I.free,I.freeC,λp hp=>?_,a6 ⟨oc,a5,I.freeC x c U⟩ F,by simpa using I.len⟩ ⟨c,F,.inr U⟩
 . exact(F.2 b (BN (CS (BF e) (I.ok.cab x c a0 U)))).trans (I.base.keep b o e n hb Y)
 . obtain⟨sl,O⟩:=I.base.slot b o e n hb Y;exact⟨sl,(F.2 b (BN (CS (BF e) (I.ok.cab x c a0 U)))).trans O⟩
 . obtain⟨o',O⟩:=(92,b,e,Y);exact⟨o',(F.2 b (BN (CS (BF e) (I.ok.cab x c a0 U)))).trans O⟩
 . by_cases hj:j=i
   . subst hj;rw[hi] at O;cases O;rw[IB a4] at Z
     cases Z;exact⟨u,r,.inr ⟨.inl hk,c,U,a1⟩⟩
   rw[EU (Ne.symm hj)] at Z;obtain⟨u',r',q⟩:1:=hl j y v' O Z e3;refine⟨u',r',?_⟩;rcases q with q|⟨k,c',e,z'⟩
   . exact .inl q
   refine .inr ⟨k,c',e,z'.sameBut F ?_⟩;rintro rfl;exact hj (Rf hN O (I.ok.inj _ _ _ e U ▸ hi))
 . by_cases a2:c'=c
   . subst a2;exact⟨_,a1⟩
   obtain⟨w2,z2⟩:=I.cell y c' e;exact⟨w2,z2.sameBut F a2⟩
 obtain⟨e,n,ne,nf,d⟩:0:=I.pin p hp;refine⟨(F.2 p.1 ?_).trans e,n,ne,nf,d⟩;intro q;rw[q,a5] at e;have q':oc=p.2:=BR e;exact d w' (by rw[<- q'];exact aA)
theorem Mm {A:Around}{Q:Unit->Shared->Prop}(I:(4,s))(O:X.N.Nodup)(hi:X.N[i]? = some x)(U:Loc X.env.scope x)(r:(u,v))
 (h:∀ s',(T,X,(107,i,v),H,s')->Q () s') (hf:X.fn x=true\/X.env.scope.names.lookup x=some .local:=by with_unfolding_all (first | exact .inl rfl | exact .inr rfl | assumption)):wpAny M A (storeName X.env x u) Q E s:=
 Sc I O hi U r (λs' F _=>h s' F) hf
theorem Inv.call' {s':Shared}(I:(4,s))(U:s'.os=s.os)(u:Un (frs X.stack) ch H H' s.heap s'.heap)(hok:HOk X.prog X.w H' s'.heap)(O:AllBare s'.gens)
 (F:∀ b∈ch,(b∈X.ex\/X.s₀.heap.objs.size<=b)/\b≠X.env.locals/\(∀ x c,X.env.cells.lookup x=some c->c≠b)/\∀ p∈X.pn++pins,p.1≠b):Inv X pins σ H' s':=by
 obtain⟨h',g',d',t',o'⟩:=s';have e:o'=s.os:=U;subst e;exact I.call (g':=g') (t':=t') (d':=d') u hok O F
end
noncomputable abbrev XK:=Value->Option Addr->Hp->Prop
noncomputable abbrev St:=(91,V)
noncomputable abbrev VK:=V->Hp->Prop
noncomputable abbrev TE:=St->Hp->VK->Prop
noncomputable abbrev TT:=St->Hp->(Bool->Hp->Prop)->Prop
noncomputable abbrev TA:=St->Hp->(List V->Hp->Prop)->Prop
structure Ends where
 nx:St->Hp->Prop
 rt:VK
 bk:St->Hp->Prop:=λ_ _=>False
 ct:St->Hp->Prop:=λ_ _=>False
noncomputable abbrev TS:=Ends->St->Hp->Prop
noncomputable def EP (X:Cx)(pins:AI)(σ:St)(Q:VK)(u:Value)(s':Shared):Prop:=∃ v H',(T,X,σ,H',s')/\(u,v)/\Q v H'
noncomputable def TP (X:Cx)(pins:AI)(σ:St)(Q:Bool->Hp->Prop)(b:Bool)(s':Shared):Prop:=∃ H',(T,X,σ,H',s')/\Q b H'
noncomputable def AP (X:Cx)(pins:AI)(σ:St)(Q:List V->Hp->Prop)(us:AC)(s':Shared):Prop:=∃ vs H',(T,X,σ,H',s')/\(R,vs)/\Q vs H'
noncomputable def SP (X:Cx)(pins:AI)(D:Ends)(f:Flow)(s':Shared):Prop:=
 match f with
 |.next=>∃ σ' H',(T,X,σ',H',s')/\D.nx σ' H'
 |.brk=>∃ σ' H',(T,X,σ',H',s')/\D.bk σ' H'
 |.cont=>∃ σ' H',(T,X,σ',H',s')/\D.ct σ' H'
 |.ret u=>∃ v σ' H',(T,X,σ',H',s')/\(u,v)/\D.rt v H'
noncomputable def PE (X:Cx)(e:Expr)(t:TE):Prop:=
 ∀(pins:AI) (s:Shared) (σ:St) (H:Hp) (Q:VK),(4,s)->t σ H Q->(35,(s,e),EP X pins σ Q)
noncomputable def PT (X:Cx)(e:Expr)(t:TT):Prop:=
 ∀(pins:AI) (s:Shared) (σ:St) (H:Hp) (Q:Bool->Hp->Prop),(4,s)->t σ H Q->(35,isTrue e X.env (s,e),TP X pins σ Q)
noncomputable def PW (X:Cx)(e:Expr)(t:TT):Prop:=
 ∀(whole:Sem Value) (pins:AI) (s:Shared) (σ:St) (H:Hp) (Q:Bool->Hp->Prop),(4,s)->t σ H Q->(35,isTrue e X.env whole,TP X pins σ Q)
theorem PW.pt {t:TT}(h:PW X e t):PT X e t:=h _
noncomputable def PA (X:Cx)(es:List Expr)(t:TA):Prop:=
 ∀(pos:Pos) (pins:AI) (s:Shared) (σ:St) (H:Hp) (Q:List V->Hp->Prop),(4,s)->t σ H Q->(35,spliced (55,es),AP X pins σ Q)
noncomputable def PS (X:Cx)(st:Stmt)(t:TS):Prop:=
 ∀(pins:AI) (s:Shared) (σ:St) (H:Hp) (D:Ends),(4,s)->t D σ H->(35,exec st X.env,SP X pins D)
noncomputable def PSs (X:Cx)(st:List Stmt)(t:TS):Prop:=
 ∀(pins:AI) (s:Shared) (σ:St) (H:Hp) (D:Ends),(4,s)->t D σ H->(35,execs st X.env,SP X pins D)
theorem BD {α:Type}{t:Sem α}{Q F:α->Shared->Prop}{A:Around}(h:(M,M,A,t,Q,E))(O:∀ a s,Q a s->F a s):wpAny M A t F E s:=DB h O λ_ _ x=>x
section
noncomputable def aP9 (i:Nat):TE:=fun σ H Q=>∃ v,σ[i]? = some (some v)/\Q v H
noncomputable def tC (v:V):TE:=λ_ H Q=>Q v H
theorem TC (Y:X.N[i]? = some x)(hv:Vis X.env.scope x)(hd:(x==("__debug__":Str))=false:=by decide)(Z:(x==("__classdict__":Str))=false:=by decide):PE X (.Name x pos) (aP9 i):=by
 intro pins s σ H Q I h;obtain⟨v,e,h⟩:1:=h;obtain⟨m,hn,hl⟩:1:=I.loc;obtain⟨u,r,l⟩:1:=hl i x v Y e hv;have fin:EP X pins σ Q u s:=⟨v,H,I,r,h⟩;rcases l with ⟨F,hm⟩|⟨F,c,O,U⟩
 . exact wpAny_Name (wpAny_loadName_local I.ok.kind F hn hm fin) hd
 rcases F with F|F
 . exact wpAny_Name (wpAny_loadName_cell I.ok.kind F O U fin) hd
 exact wpAny_Name (wpAny_loadName_free I.ok.kind F O U fin Z) hd
theorem A4 {i j pos}:PE X (.Constant (.int i) j pos) (tC (.int i)):=λ_ _ _ H _ I h=>wpAny_Constant_int ⟨.int i,H,I.tok _,⟨_,rfl⟩,h⟩
theorem Og {b j pos}:PE X (.Constant (.bool b) j pos) (tC (.bl b)):=λ_ _ _ H _ I h=>Constant_bool ⟨.bl b,H,I,rfl,h⟩
theorem Tl {j pos}:PE X (.Constant .none j pos) (tC .non):=λ_ _ _ H _ I h=>Constant_none ⟨.non,H,I,rfl,h⟩
theorem Ar {x j pos}:PE X (.Constant (.str x) j pos) (tC (.str x)):=λ_ _ _ H _ I h=>Calls.Constant_str ⟨.str x,H,I.tok _,⟨_,rfl⟩,h⟩
noncomputable def Gl (X:Cx)(x:Str):Prop:=X.env.kindOf x=some .globalImplicit
theorem Mv {σ:St}(I:(4,s))(F:Gl X x)(hm:X.mg x=some u)(h:Q u s)
 (hd:(x==("__debug__":Str))=false:=by decide):wpAny ((H,X.w)) X.A ((s,.Name x pos)) Q E s:=
 JB I.ok.kind F (Calls.loadGlobal_global (by rw[I.ok.glob];exact I.mod.glob.keeps I.bk) hm h) hd
theorem Ka {σ:St}(I:(4,s))(F:Gl X x)(hm:X.mg x=none)(O:bootBuiltins x=some u)(h:Q u s)
 (hn:x ≠ "__name__":=by decide) (hd:(x==("__debug__":Str))=false:=by decide):wpAny ((H,X.w)) X.A ((s,.Name x pos)) Q E s:=by
 obtain⟨mb,h1,h2⟩:1:=I.mod.blt;exact JB I.ok.kind F (Calls.loadGlobal_builtin (by rw[I.ok.glob];exact I.mod.glob.keeps I.bk) hm (by rw[I.ok.blt];exact h1.keeps I.bk) ((h2 x hn).trans O) h) hd
theorem RX (F:Gl X x)(hm:X.mg x=some u)(r:(u,v))(hd:(x==("__debug__":Str))=false:=by decide):PE X (.Name x pos) (tC v):=
 λ_ _ _ H _ I h=>Mv I F hm ⟨v,H,I,r,h⟩ hd
theorem Nd (F:Gl X x)(hm:X.mg x=none)(O:bootBuiltins x=some u)(r:(u,v))(hn:x ≠ "__name__":=by decide)(hd:(x==("__debug__":Str))=false:=by decide):PE X (.Name x pos) (tC v):=
 λ_ _ _ H _ I h=>Ka I F hm O ⟨v,H,I,r,h⟩ hn hd
variable {a b:Expr}{ta tb:TE}
noncomputable def tB (t:TE):TT:=fun σ H Q=>t σ H λx H1=>∃ c,x = .bl c/\Q c H1
theorem Hw {t:TE}(h:PE X e t)(he:∀ F,isTrue e X.env F=(do let v <- F;standAt e.pos;holding [v] (truthy v)):=by intro _;ac_nf):PT X e (tB t):=by
 intro pins s σ H Q I U;refine isTrue_plain (BD (h pins s σ H _ I U) λv s1 ⟨x,H1,O,Z,Y⟩=>?_) (he _);obtain⟨d,rfl,q⟩:1:=Y
 cases Z;exact EH ⟨H1,O,q⟩
variable {tA tB':TT}{rest:List Expr}
noncomputable def aT6 (t u:TT):TT:=fun σ H Q=>t σ H λc H1=>if c=true then u σ H1 Q else Q false H1
noncomputable def tOr (t u:TT):TT:=fun σ H Q=>t σ H λc H1=>if c=true then Q true H1 else u σ H1 Q
noncomputable def aU0 (t:TT):TT:=fun σ H Q=>t σ H λc H1=>Q (!c) H1
theorem N8 (ha:PT X a tA):PW X ((86,.And,[a])) tA:=by
 intro O pins s σ H Q I h;refine isTrue_and (BD (ha pins s σ H Q I h) λc F e=>?_)
 cases c with
 |true=>exact isTrue_and_nil e
 |false=>exact e
theorem Wh (ha:PT X a tA):PW X ((86,.Or,[a])) tA:=by
 intro O pins s σ H Q I h;refine isTrue_or (BD (ha pins s σ H Q I h) λc F e=>?_)
 cases c with
 |false=>exact isTrue_or_nil e
 |true=>exact e
theorem Ro (ha:PT X a tA)(hb:PW X (86,.And,(b :: rest)) tB'):PW X ((86,.And,(a :: b :: rest))) (aT6 tA tB'):=by
 intro Y pins s σ H Q I h;refine isTrue_and (BD (ha pins s σ H _ I h) λc U ⟨H1,F,O⟩=>?_)
 cases c with
 |true=>exact hb Y pins U σ H1 Q F O
 |false=>exact⟨H1,F,O⟩
theorem Xh (ha:PT X a tA)(hb:PW X (86,.Or,(b :: rest)) tB'):PW X ((86,.Or,(a :: b :: rest))) (tOr tA tB'):=by
 intro Y pins s σ H Q I h;refine isTrue_or (BD (ha pins s σ H _ I h) λc U ⟨H1,F,O⟩=>?_)
 cases c with
 |true=>exact⟨H1,F,O⟩
 |false=>exact hb Y pins U σ H1 Q F O
theorem Ln (ha:PT X a tA):PT X (.UnaryOp .Not a pos) (aU0 tA):=by intro pins s σ H Q I h;exact isTrue_not (ha pins s σ H (λc H1=>Q (!c) H1) I h)
noncomputable def aJ6 (ta tb:TE):TE:=fun σ H Q=>ta σ H λx H1=>∃ c,x = .bl c/\if c=true then tb σ H1 Q else Q (.bl false) H1
noncomputable def aU5 (ta tb:TE):TE:=fun σ H Q=>ta σ H λx H1=>∃ c,x = .bl c/\if c=true then Q (.bl true) H1 else tb σ H1 Q
noncomputable def aM9 (ta:TE):TE:=fun σ H Q=>ta σ H λx H1=>∃ c,x = .bl c/\Q (.bl (!c)) H1
theorem MQ {op}{t:TE}(h:PE X a t):PE X ((86,op,[a])) t:=λpins s σ H Q I F=>BoolOp_one (h pins s σ H Q I F)
theorem VU (ha:PE X a ta)(hb:PE X (86,.And,(b :: rest)) tb):PE X ((86,.And,(a :: b :: rest))) (aJ6 ta tb):=by
 intro pins s σ H Q I h;refine BoolOp_and (BD (ha pins s σ H _ I h) λv Y ⟨x,H1,O,U,F⟩=>?_);obtain⟨c,rfl,F⟩:1:=F
 cases U;refine EH ?_
 cases c with
 |true=>exact hb pins Y σ H1 Q O F
 |false=>exact⟨.bl false,H1,O,rfl,F⟩
theorem MW (ha:PE X a ta)(hb:PE X (86,.Or,(b :: rest)) tb):PE X ((86,.Or,(a :: b :: rest))) (aU5 ta tb):=by
 intro pins s σ H Q I h;refine BoolOp_or (BD (ha pins s σ H _ I h) λv Y ⟨x,H1,O,U,F⟩=>?_);obtain⟨c,rfl,F⟩:1:=F
 cases U;refine EH ?_
 cases c with
 |false=>exact hb pins Y σ H1 Q O F
 |true=>exact⟨.bl true,H1,O,rfl,F⟩
theorem YB (ha:PE X a ta):PE X (.UnaryOp .Not a pos) (aM9 ta):=by
 intro pins s σ H Q I h;refine UnaryOp_ (BD (ha pins s σ H _ I h) λv Y ⟨x,H1,O,U,F⟩=>?_);obtain⟨c,rfl,F⟩:1:=F
 cases U;exact not_of (EH ⟨.bl (!c),H1,O,rfl,F⟩)
noncomputable def tIf (t:TT)(ta tb:TE):TE:=fun σ H Q=>t σ H λc H1=>if c=true then ta σ H1 Q else tb σ H1 Q
theorem Wa {c:Expr}(Y:PT X c tA)(ha:PE X a ta)(hb:PE X b tb):PE X (.IfExp c a b pos) (tIf tA ta tb):=by
 intro pins s σ H Q I h;refine wpAny_IfExp (BD (Y pins s σ H _ I h) λd U ⟨H1,F,O⟩=>?_)
 cases d with
 |true=>exact ha pins U σ H1 Q F O
 |false=>exact hb pins U σ H1 Q F O
end
noncomputable def SqL (K:W.Frag)(H:Hp)(a:Addr)(xs:List V):Prop:=
 Rd H a (.lst xs) \/
  ∃(o:Obj) (its:Array Value) (n:Nat),K.lookup a=some o/\o.cls = .type "list" /\ o.dict=none/\o.data = .seq its n/\its.size<=sizeLine/\Vals xs its.toList
noncomputable def SqT (K:W.Frag)(H:Hp)(a:Addr)(xs:List V):Prop:=
 Rd H a (.tup xs) \/
  ∃(o:Obj) (its:Array Value) (n:Nat),K.lookup a=some o/\o.cls = .type "tuple" /\ o.data = .seq its n/\its.size<=sizeLine/\Vals xs its.toList/\o.dict=none
noncomputable def absV:Value->Option V
 |.none=>some .non
 |.bool b=>some (.bl b)
 |.int i _=>(K,i)
 |.str x _=>(64,x)
 |.bytes b _=>some (.byt b)
 |.float b _=>some (.flt b)
 |.ref a=>(3,a)
 |.type n=>some (.ty n)
 |_=>none
theorem RelV.abs {x:V}(r:(u,x)):absV u=some x:=by
 cases x with
 |non=>cases r;rfl
 |bl _=>cases r;rfl
 |int _=>obtain⟨t,rfl⟩:=r;rfl
 |str _=>obtain⟨t,rfl⟩:=r;rfl
 |byt _=>obtain⟨t,rfl⟩:=r;rfl
 |flt _=>obtain⟨t,rfl⟩:=r;rfl
 |ref _=>cases r;rfl
 |ty _=>cases r;rfl
theorem RelV.inj {x:V}(r:(u,x))(q:(u,y)):x=y:=BR (r.abs.symm.trans q.abs)
theorem Vals.inj:∀ {xs ys:List V} {us:AC},(R,xs)->(R,ys)->xs=ys
 |_,_,_,.nil,.nil=>rfl
 |_,_,_,.cons r t,.cons r' t'=>by rw[r.inj r',Vals.inj t t']
section
variable {σ:St}{xs ys:List V}
theorem SqL.of {K:W.Frag}(h:H a=(2,xs)):SqL K H a xs:=(93,h)
def AJ:=@SqL.of
theorem SqT.of {K:W.Frag}(h:H a=(23,xs)):SqT K H a xs:=(93,h)
def AK:=@SqT.of
theorem Inv.list (I:(4,s))(h:SqL X.K H a xs):∃ its:AC,Vals xs its/\PlainL s.heap a its.toArray/\xs.length<=sizeLine:=by
 rcases h with h|⟨o,its,n,O,F,hd,U,hz,r⟩
 . obtain⟨z,its,n,r,e⟩:820:=h.ok I.hok;exact⟨its,r,⟨_,n,e,rfl,rfl,rfl⟩,z⟩
 refine⟨its.toList,r,⟨o,n,I.kIn a o O,F,hd,by simpa using U⟩,?_⟩;have e:=r.length;simp only[Array.length_toList] at e;omega
theorem Inv.tuple (I:(4,s))(h:SqT X.K H a xs):∃ its:AC,Vals xs its/\IsTup s.heap a its.toArray/\xs.length<=sizeLine:=by
 rcases h with h|⟨o,its,n,O,F,U,hz,r,hn⟩
 . obtain⟨z,its,r,p⟩:420:=h.ok I.hok;exact⟨its,r,p.tup,z⟩
 refine⟨its.toList,r,⟨o,I.kIn a o O,F,n,by simpa using U⟩,?_⟩;have e:=r.length;simp only[Array.length_toList] at e;omega
theorem Inv.tupleN (I:(4,s))(h:SqT X.K H a xs):∃ ob,s.heap.get? a=some ob/\ob.dict=none:=by
 rcases h with h|⟨o,its,n,F,O,U,hz,r,hn⟩
 . obtain⟨z,its,r,o,h1,_,_,h2⟩:168420:=h.ok I.hok;exact⟨o,h1,h2⟩
 exact⟨o,I.kIn a o F,hn⟩
theorem Inv.list_inj (I:(4,s))(h:SqL X.K H a xs)(h':SqL X.K H a ys):xs=ys:=by
 obtain⟨its,r,⟨o,n,e,_,_,d⟩,_⟩:1:=I.list h;obtain⟨its',O,⟨o',n',F,_,_,d'⟩,_⟩:1:=I.list h';rw[e] at F;cases F;rw[d] at d';injection d' with d1 _;have:its=its':=by simpa using congrArg Array.toList d1
 subst this;exact r.inj O
theorem Inv.tuple_inj (I:(4,s))(h:SqT X.K H a xs)(h':SqT X.K H a ys):xs=ys:=by
 obtain⟨its,r,⟨o,e,_,n,d⟩,_⟩:1:=I.tuple h;obtain⟨its',O,⟨o',F,_,n',d'⟩,_⟩:1:=I.tuple h';rw[e] at F;cases F;rw[d] at d';injection d' with d1 _;have:its=its':=by simpa using congrArg Array.toList d1
 subst this;exact r.inj O
end
noncomputable abbrev Cx.wish (X:Cx)(E:AG):Cx:={X with xe:=E}
noncomputable abbrev Cx.nox (X:Cx):Cx:=X.wish λ_ _=>False
theorem Cx.Ok.wish (ok:X.Ok)(E:AG):(X.wish E).Ok:=
 ⟨ok.mod,ok.kind,ok.glob,ok.blt,ok.above,ok.inj,ok.has,ok.cab,ok.hd,ok.frames,ok.stk,ok.exf,ok.bs,ok.bsz,ok.noex,ok.exfs,ok.funs,ok.frf⟩
theorem Cx.Ok.unwish (ok:(X.wish E).Ok):X.Ok:=
 ⟨ok.mod,ok.kind,ok.glob,ok.blt,ok.above,ok.inj,ok.has,ok.cab,ok.hd,ok.frames,ok.stk,ok.exf,ok.bs,ok.bsz,ok.noex,ok.exfs,ok.funs,ok.frf⟩
section
variable {σ:St}
theorem Inv.wish (I:(4,s))(E:AG):Inv (X.wish E) pins σ H s:=⟨I.ok.wish E,I.os,I.bare,I.base,I.loc,I.cell,I.free,I.freeC,I.pin,I.hok,I.len⟩
theorem Inv.unwish (I:(T,X.wish E,σ,H,s)):Inv X pins σ H s:=⟨I.ok.unwish,I.os,I.bare,I.base,I.loc,I.cell,I.free,I.freeC,I.pin,I.hok,I.len⟩
theorem SP.unwish {D:Ends}{f:Flow}{s':Shared}(h:SP (X.wish E) pins D f s'):SP X pins D f s':=by
 cases f with
 |next=>obtain⟨σ',H',I,q⟩:2:=h;exact⟨σ',H',I.unwish,q⟩
 |brk=>obtain⟨σ',H',I,q⟩:2:=h;exact⟨σ',H',I.unwish,q⟩
 |cont=>obtain⟨σ',H',I,q⟩:2:=h;exact⟨σ',H',I.unwish,q⟩
 |ret u=>obtain⟨v,σ',H',I,r,q⟩:3:=h;exact⟨v,σ',H',I.unwish,r,q⟩
theorem PSs.nox {st:List Stmt}{t:TS}(h:PSs X.nox st t):PSs X st t:=λpins s σ H D I F=>DB (h pins s σ H D (I.wish _) F) (λ_ _ q=>q.unwish) λ_ _ z=>False.elim z
end
section
variable {st:Stmt}{rest:List Stmt}{t u:TS}{te:TE}
noncomputable def aF1:TS:=λD σ H=>D.nx σ H
noncomputable def aO4 (t u:TS):TS:=λD σ H=>t {D with nx:=u D} σ H
theorem At:PSs X [] aF1:=λ_ _ σ H _ I h=>IT ⟨σ,H,I,h⟩
theorem A3 (h1:PS X st t) (h2:PSs X rest u):PSs X (st :: rest) (aO4 t u):=by
 intro pins s σ H D I h;refine wpAny_execs_cons (BD (h1 pins s σ H {D with nx:=u D} I h) λf O q=>?_)
 cases f with
 |next=>obtain⟨σ',H',F,q⟩:2:=q;exact h2 pins O σ' H' D F q
 |ret v=>exact q
 |brk=>exact q
 |cont=>exact q
theorem A6 (h1:PS X st t):PSs X [st] t:=by
 intro pins s σ H D I h;refine wpAny_execs_cons (BD (h1 pins s σ H D I h) λf F q=>?_)
 cases f with
 |next=>exact IT q
 |ret v=>exact q
 |brk=>exact q
 |cont=>exact q
theorem Inv.quiet {σ:St}(I:(4,s)):interactive X.env=false:=by simp[interactive,I.ok.kind]
noncomputable def aC0 (te:TE):TS:=λD σ H=>te σ H λ_ H1=>D.nx σ H1
theorem Cs (he:PE X e te)(O:swapsWith e none pos.line X.env=pure false:=by ac_nf):PS X (.Expr e pos) (aC0 te):=by intro pins s σ H D I h;exact wpAny_Expr_any (BD (he pins s σ H _ I h) λv Z ⟨x,H1,F,Y,U⟩=>⟨σ,H1,F,U⟩) I.quiet O
noncomputable def aS9 (te:TE):TS:=λD σ H=>te σ H D.rt
theorem Ao (he:PE X e te):PS X (.Return (some e) pos) (aS9 te):=by intro pins s σ H D I h;exact wpAny_Return_some (BD (he pins s σ H _ I h) λv Y ⟨x,H1,F,U,O⟩=>⟨x,σ,H1,F,U,O⟩)
noncomputable def aS2 (c:TT)(t u:TS):TS:=λD σ H=>c σ H λb H1=>if b=true then t D σ H1 else u D σ H1
theorem Ch {c:Expr}{a b:List Stmt}{tc:TT}(Y:PT X c tc)(ha:PSs X a t)(hb:PSs X b u):PS X (.If c a b pos) (aS2 tc t u):=by
 intro pins s σ H D I h;refine wpAny_If (BD (Y pins s σ H _ I h) λd U ⟨H1,F,O⟩=>?_)
 cases d with
 |true=>exact ha pins U σ H1 D F O
 |false=>exact hb pins U σ H1 D F O
noncomputable def aK8:TS:=λ_ _ _=>False
theorem M9:PS X st aK8:=λ_ _ _ _ _ _ h=>h.elim
end
noncomputable abbrev TG:=V->St->Hp->(St->Hp->Prop)->Prop
noncomputable abbrev TGs:=List V->St->Hp->(St->Hp->Prop)->Prop
noncomputable def PG (X:Cx)(target:Expr)(t:TG):Prop:=
 ∀(pins:AI) (s:Shared) (σ:St) (H:Hp) (v:V) (u:Value) (Q:St->Hp->Prop),(4,s)->(u,v)->t v σ H Q ->
  (35,assign target X.env u,(λ_ s'=>∃ σ' H',(T,X,σ',H',s')/\Q σ' H'))
noncomputable def PGs (X:Cx)(ts:List Expr)(t:TGs):Prop:=
 ∀(pins:AI) (s:Shared) (σ:St) (H:Hp) (vs:List V) (us:AC) (Q:St->Hp->Prop),(4,s)->(R,vs)->t vs σ H Q ->
  (35,assignInOrder (((118,ts)).map (·.2)) us,(λ_ s'=>∃ σ' H',(T,X,σ',H',s')/\Q σ' H'))
noncomputable abbrev aN8:=V->V->V->Hp->(Hp->Prop)->Prop
noncomputable def aS6 (X:Cx)(t:aN8):Prop:=
 ∀(pins:AI) (s:Shared) (σ:St) (H:Hp) (o i v:V) (ov iv u:Value) (Q:Hp->Prop),(4,s)->RelV o ov->RelV i iv->(u,v)->t o i v H Q ->
  (35,setItem ov iv u,(λ_ s'=>∃ H',(T,X,σ,H',s')/\Q H'))
noncomputable def Jf (i:Nat):TG:=λv σ H Q=>Q (107,i,v) H
theorem Ae (O:X.N.Nodup)(hi:X.N[i]? = some x)(U:Loc X.env.scope x)(hf:X.fn x=true\/X.env.scope.names.lookup x=some .local:=by with_unfolding_all (first | exact .inl rfl | exact .inr rfl | assumption)):PG X (.Name x pos) (Jf i):=by intro pins s σ H v u Q I r h;exact wpAny_assign_Name (Mm I O hi U r (λs' F=>⟨_,H,F,h⟩) hf)
noncomputable def aA4:TGs:=λvs σ H Q=>vs=[]/\Q σ H
noncomputable def Oi (t:TG)(u:TGs):TGs:=λvs σ H Q=>∃ v r,vs=v :: r/\t v σ H fun σ' H'=>u r σ' H' Q
theorem Na:PGs X [] aA4:=by
 intro pins s σ H vs us Q I r h;obtain⟨e,h⟩:=h;subst e
 cases r;exact assignInOrder_nil ⟨σ,H,I,h⟩
theorem E5 {es:List Expr}{t:TG}{u:TGs}(h1:PG X e t)(h2:PGs X es u)
 (U:((118,(e :: es))).map (·.2)=assign e X.env :: ((118,es)).map (·.2):=by ac_nf):PGs X (e :: es) (Oi t u):=by
 intro pins s σ H vs us Q I r h;obtain⟨v,vr,O,h⟩:2:=h;subst O
 cases r with
 |cons r rr=>rw[U];refine assignInOrder_cons (BD (h1 pins s σ H _ _ _ I r h) λ_ Z ⟨σ1,H1,F,Y⟩=>?_);exact h2 pins Z σ1 H1 _ _ Q F rr Y
noncomputable def ax6 (K:W.Frag)(n:Nat)(t:TGs):TG:=λv σ H Q=>∃ a xs,v = .ref a/\(A,xs)/\xs.length=n/\t xs σ H Q
theorem WA {es:List Expr}{k:Nat}{t:TGs}{n:Nat}(Z:X.calm=true)(h:PGs X es t)
 (hn:((118,es)).length=n:=by ac_nf) (a0:((118,es)).findIdx? (·.1)=none:=by ac_nf):PG X (.Tuple es k pos) (ax6 X.K n t):=by
 intro pins s σ H v u Q I r F;obtain⟨a,xs,Y,hq,hl,F⟩:2:=F;subst Y
 cases r;obtain⟨its,O,ht,hz⟩:1:=I.tuple hq;refine assign_Tuple_tuple (I.ok.hd Z) ht (by simp[hn,<- hl,O.length]) a0 λh' hx=>?_;have U:Inv X pins σ H {s with heap:=h'}:=I.kept (t':=s.toks) λb o e=>hx b o (BN (BF e)) e
 exact h pins _ σ H xs _ Q U (by simpa using O) F
noncomputable def aS4 (to ti:TE)(t:aN8):TG:=λv σ H Q=>to σ H λo H1=>ti σ H1 λi H2=>t o i v H2 λH3=>Q σ H3
theorem LS {o i:Expr}{to U:TE}{t:aN8}(ho:PE X o to)(hi:PE X i U)(hs:aS6 X t)
 (ha:∀ v,assign (.Subscript o i pos) X.env v=(do
  let F <- holding [v] (s,o)
  let O <- holding [v,F] (s,i)
  standAt pos
  holding [v,F,O] (setItem F O v)
  release [v,F,O] []):=by intro _;ac_nf):PG X (.Subscript o i pos) (aS4 to U t):=by
 intro pins s σ H v u Q I r h;rw[ha];refine AY (DF (BD (ho pins s σ H _ I h) λF s1 ⟨x,H1,Z,r1,q1⟩=>?_));refine AY (DF (BD (hi pins s1 σ H1 _ Z q1) λO s2 ⟨y,H2,I2,r2,q2⟩=>?_));refine AY (GL (AY (DF (BD (hs pins s2 σ H2 x y v F O u _ I2 r1 r2 r q2) λ_ s3 ⟨Y,I3,q3⟩=>?_))));exact wpAny_release ⟨σ,Y,I3,q3⟩
noncomputable def aA0 (te:TE)(g:TG):TS:=λD σ H=>te σ H λx H1=>g x σ H1 D.nx
theorem Vw {te:TE}{g:TG}(he:PE X e te)(O:PG X tg g)(U:swapsWithSole [tg] e pos.line X.env=pure false:=by ac_nf)(Y:swappedStores [tg] e X.env=pure none:=by ac_nf)
 (h1:((118,[tg])).map (·.2)=[assign tg X.env]:=by ac_nf):PS X (.Assign [tg] e pos) (aA0 te g):=by
 intro pins s σ H D I h;refine wpAny_Assign_stores (BD (he pins s σ H _ I h) λv s1 ⟨x,H1,F,r1,Z⟩=>?_) U Y;rw[h1];exact BD (O pins s1 σ H1 x v _ F r1 Z) λ_ s2 q=>q
theorem Aa {te:TE}{pos':Pos}(U:X.N.Nodup)(hi:X.N[i]? = some x)(Z:Loc X.env.scope x)(he:PE X e te)(Y:swapsWith e (some (.Name x pos')) pos.line X.env=pure false:=by ac_nf)(hf:X.fn x=true\/X.env.scope.names.lookup x=some .local:=by with_unfolding_all (first | exact .inl rfl | exact .inr rfl | assumption)) :
 PS X (.Assign [.Name x pos'] e pos) (aA0 te (Jf i)):=by
 intro pins s σ H D I h;refine wpAny_Assign_Name (BD (he pins s σ H _ I h) λv s1 ⟨y,H1,F,r1,q1⟩=>?_) Y;exact Mm F U hi Z r1 (λs2 O=>⟨_,H1,O,q1⟩) hf
noncomputable def ak9 (c:TT)(tb:TS):TS:=λD σ H=>∃ W:Nat->St->Hp->Prop,(∃ m,W m σ H)/\∀ m σ H,W m σ H ->
 c σ H λb H1=>if b=true then ∃ N:St->Hp->Prop,(∀ σ' H',N σ' H'->∃ m',m'<m/\W m' σ' H')/\tb {D with nx:=N,ct:=N,bk:=D.nx} σ H1 else D.nx σ H1
theorem Mc {c:Expr}{tc:TT}{tb:TS}(hp:PassesOwn (H,X.w) X.A X.env X.xe)(hc:PT X c tc)(hb:PSs X body tb):PS X (.While c body [] pos) (ak9 tc tb):=by
 intro pins s σ H D I h;obtain⟨W,⟨m0,w0⟩,turn⟩:1:=h;refine wpAny_While (codeAny_whileLoop (λn s'=>∃ σ' H',(T,X,σ',H',s')/\W n σ' H') ?_ m0 ⟨σ,H,I,w0⟩);rintro n s1 ⟨σ1,H1,I1,w1⟩;refine EV hp (BD (hc pins s1 σ1 H1 _ I1 (turn n σ1 H1 w1)) λb s2 ⟨H2,I2,O⟩=>?_)
 cases b with
 |true=>
   obtain ⟨N,hN,O⟩:1:=O;rw[BB rfl];refine EV hp (BD (hb pins s2 σ1 H2 _ I2 O) λf s3 U=>?_)
   cases f with
   |next=>obtain⟨σ3,F,Y,n3⟩:2:=U;obtain⟨Z,hm,w3⟩:1:=hN σ3 F n3;exact⟨Z,hm,σ3,F,Y,w3⟩
   |cont=>obtain⟨σ3,F,Y,n3⟩:2:=U;obtain⟨Z,hm,w3⟩:1:=hN σ3 F n3;exact⟨Z,hm,σ3,F,Y,w3⟩
   |brk=>exact U
   |ret v=>exact U
 |false=>rw[AZ BX];exact IT ⟨σ1,H2,I2,O⟩
structure It where
 go:Nat->Hp->Prop
 yld:Nat->Hp->V->Hp->Prop
 stop:Nat->Hp->Prop
noncomputable def Vo (X:Cx)(pins:AI)(H:Hp)(b:Addr):Prop:=
 H b=none/\b≠X.env.locals/\b∉X.fs/\(b∈X.ex\/X.s₀.heap.objs.size<=b)/\(∀ x c,X.env.cells.lookup x=some c->c≠b)/\∀ p∈X.pn++pins,p.1≠b
theorem Inv.fpOk {σ:St}{H':Hp}{b:Addr}(I:(4,s))(hb:s.heap.objs.size<=b)(hn:H' b=none):Vo X pins H' b:=by
 refine⟨hn,EY (CS I.lt hb),I.nofs hb,.inr (BI I.sz hb),λx c e z=>?_,λp hp z=>?_⟩
 . obtain⟨v,q⟩:=I.cell x c e;exact(77,CS q.lt (by rw[z];exact hb),_)
 exact(77,CS (BF (I.pin p hp).1) (by rw[z];exact hb),_)
structure Ye (P:Program)(w:World)(K:W.Frag)(tg:Expr)(J:It)(fp:AF)(it:Addr)(tn:Nat->Heap->Prop):Prop where
 mem:it∈fp
 obj:∀ i h,tn i h->∀ b∈fp,∃ o,h.get? b=some o/\∀ v,o.data ≠ .cell v
 keep:∀ i h h',tn i h->(∀ b∈fp,∀ o,h.get? b=some o->h'.get? b=some o)->tn i h'
 item:∀(X:Cx),X.prog=P->X.w=w->X.K=K->X.calm=true->∀(i:Nat) (pins:AI) (s:Shared) (σ:St) (H:Hp) (E:AG),(4,s)->(∀ b∈fp,Vo X pins H b)->tn i s.heap->J.go i H ->
  (M,(16,P),X.A,pyNext (.ref it),(λr s1=>∃ u,r=some u /\
   wpAny (16,P) X.A (letOwnedTupleGo tg (.ref it) u) (λ_ s2=>∃ x H',(T,X,σ,H',s2)/\(u,x)/\J.yld i H x H'/\tn (i+1) s2.heap/\∀ b∈fp,H' b=none) E s1),E)
 done:∀(X:Cx),X.prog=P->X.w=w->X.K=K->X.calm=true->∀(i:Nat) (pins:AI) (s:Shared) (σ:St) (H:Hp) (E:AG),(4,s)->(∀ b∈fp,Vo X pins H b)->tn i s.heap->J.stop i H ->
  (M,(16,P),X.A,pyNext (.ref it),(λr s1=>r=none/\(4,s1)),E)
 self:∀(A:Around) (i:Nat) (s:Shared) (Q:AG) (E:AG),tn i s.heap->(C,it,s)->(M,(16,P),A,pyIter (.ref it),Q,E)
noncomputable abbrev TI:=St->Hp->(It->Hp->Prop)->Prop
noncomputable def PIE (X:Cx)(pins:AI)(σ:St)(tg:Expr)(R:It->Hp->Prop)(itv:Value)(s2:Shared):Prop:=
 ∃(it:Addr) (fp:AF) (tn:Nat->Heap->Prop) (J:It) (H':Hp),itv = .ref it/\(T,X,σ,H',s2)/\Ye X.prog X.w X.K tg J fp it tn/\tn 0 s2.heap/\(∀ b∈fp,Vo X pins H' b)/\R J H'
noncomputable def PI (X:Cx)(tg iter:Expr)(wi:TI):Prop:=
 ∀(pins:AI) (s:Shared) (σ:St) (H:Hp) (R:It->Hp->Prop),(4,s)->wi σ H R ->
  (35,(s,iter),(λv s1=>wpAny (H,X.w) X.A (pyIter v) (PIE X pins σ tg R) X.xe s1))
theorem Y4 {A:Around}{it:Addr}{o:Obj}{n:String}{vs:Array Value}{Q:Unit->Shared->Prop}(U:s.heap.get? it=some o)(O:o.cls = .type n)(hd:o.data = .fields vs)
 (hn:["enumerate","zip","dict_itemiterator","dict_reverseitemiterator","odict_iterator","itertools.zip_longest","itertools.pairwise"].contains n=false) (F:Q () s):wpAny M A (letOwnedTupleGo tg (.ref it) u) Q E s:=by
 unfold letOwnedTupleGo
 cases tg<;>first
  |exact BC F
  | (cases u<;>first
   |exact BC F
   | (refine AY (wpAny_load U ?_)
      rw[O,hd];show(M,M,A,(if(["enumerate","zip","dict_itemiterator","dict_reverseitemiterator","odict_iterator","itertools.zip_longest","itertools.pairwise"].contains n&&vs[0]? == some (rawInt _))=true then _ else _),Q,E)
      rw[AZ (by intro h;rw[hn,Bool.false_and] at h;cases h)];exact BC F))
noncomputable def Itl (K:W.Frag)(a:Addr):It:=
 ⟨λi H=>∃ xs x,(N,a)/\xs[i]? = some x,λi H x H'=>H'=H/\∀ xs,(N,a)->xs[i]? = some x,λi H=>∃ xs,(N,a)/\xs.length<=i⟩
noncomputable def Itt (K:W.Frag)(a:Addr):It:=
 ⟨λi H=>∃ xs x,(A,xs)/\xs[i]? = some x,λi H x H'=>H'=H/\∀ xs,(A,xs)->xs[i]? = some x,λi H=>∃ xs,(A,xs)/\xs.length<=i⟩
noncomputable def Itr (lo:Int)(n:Nat):It:=⟨λi _=>i<n,λi H x H'=>H'=H/\x = .int (lo+i),λi _=>n<=i⟩
theorem TY {w:World}{K:W.Frag}(a it:Addr):Ye P w K tg (Itl K a) [it] it (λi h=>h.IsListIter it a i) where
 mem:=by simp
 obj:=λi h st b hb=>by
  have e:b=it:=by simpa using hb
  subst e;obtain⟨o,e,c,d⟩:1:=st;exact⟨o,e,λv z=>by rw[d] at z;cases z⟩
 keep:=λi h h' st k=>st.at λo e=>k it 'c' o e
 item:=by
  intro X hP hw hK hc i pins s σ H E I hf st hg;subst hP hw hK;obtain⟨xs,x,F,hx⟩:2:=hg;obtain⟨its,rv,p,hz⟩:1:=I.list F;obtain⟨u,hu,ru⟩:1:=rv.get hx;obtain⟨O,U,f2,Y,Z,f5⟩:0:=hf it 'c';refine wpAny_pyNext_list_item st p.isList (x:=u) (by simpa using hu) λh' a0 sb=>?_;have I1:Inv X pins σ H {s with heap:=h'}:=(108,(λb o hb e=>(sb.2 b hb).trans e),O,U,Y,Z)
  obtain⟨o,e,c,d⟩:1:=id a0;exact⟨u,rfl,Y4 (s:={s with heap:=h'}) e c d nofun ⟨x,H,I1,ru,⟨rfl,λys hy=>by rw[I.list_inj hy F];exact hx⟩,a0,λb hb=>(hf b hb).1⟩⟩
 done:=by intro X hP hw hK hc i pins s σ H E I hf st hg;subst hP hw hK;obtain⟨xs,F,hx⟩:1:=hg;obtain⟨its,rv,p,hz⟩:1:=I.list F;obtain⟨O,U,f2,Y,Z,f5⟩:0:=hf it 'c';have hl:=rv.length;exact wpAny_pyNext_list_end (I.ok.hd hc) st p.isList (by simp;omega) λh' eb=>⟨rfl,(108,(λb o hb e=>eb b o hb e),O,U,Y,Z)⟩
 self:=λ_ _ _ _ _ st h=>wpAny_pyIter_listiter st h
theorem X1 {w:World}{K:W.Frag}(a it:Addr):Ye P w K tg (Itt K a) [it] it (λi h=>h.IsTupleIter it a i) where
 mem:=by simp
 obj:=λi h st b hb=>by
  have e:b=it:=by simpa using hb
  subst e;obtain⟨o,e,c,d⟩:1:=st;exact⟨o,e,λv z=>by rw[d] at z;cases z⟩
 keep:=λi h h' st k=>st.at λo e=>k it 'c' o e
 item:=by
  intro X hP hw hK hc i pins s σ H E I hf st hg;subst hP hw hK;obtain⟨xs,x,F,hx⟩:2:=hg;obtain⟨its,rv,p,hz⟩:1:=I.tuple F;obtain⟨u,hu,ru⟩:1:=rv.get hx;obtain⟨O,U,f2,Y,Z,f5⟩:0:=hf it 'c';refine wpAny_pyNext_tuple_item st (show s.heap.IsTuple a its.toArray from p) (x:=u) (by simpa using hu) λh' a0 sb=>?_;have I1:Inv X pins σ H {s with heap:=h'}:=(108,(λb o hb e=>(sb.2 b hb).trans e),O,U,Y,Z)
  obtain⟨o,e,c,d⟩:1:=id a0;exact⟨u,rfl,Y4 (s:={s with heap:=h'}) e c d nofun ⟨x,H,I1,ru,⟨rfl,λys hy=>by rw[I.tuple_inj hy F];exact hx⟩,a0,λb hb=>(hf b hb).1⟩⟩
 done:=by intro X hP hw hK hc i pins s σ H E I hf st hg;subst hP hw hK;obtain⟨xs,F,hx⟩:1:=hg;obtain⟨its,rv,p,hz⟩:1:=I.tuple F;obtain⟨O,U,f2,Y,Z,f5⟩:0:=hf it 'c';have hl:=rv.length;exact wpAny_pyNext_tuple_end (I.ok.hd hc) st (show s.heap.IsTuple a its.toArray from p) (by simp;omega) λh' eb=>⟨rfl,(108,(λb o hb e=>eb b o hb e),O,U,Y,Z)⟩
 self:=λ_ _ _ _ _ st h=>wpAny_pyIter_tupleiter st h
theorem Xu {w:World}{K:PySem.W.Frag}(it:Addr)(lo:Int)(n:Nat):Ye P w K tg (Itr lo n) [it] it (λi h=>IsRangeIter h it (lo+(i:Nat)*1) ((n:Int)-(i:Nat)) 1) where
 mem:=by simp
 obj:=λi h st b hb=>by
  have e:b=it:=by simpa using hb
  subst e
  exact⟨_,st,λv z=>by
   have z':Data.fields _=Data.cell v:=z
   cases z'⟩
 keep:=λi h h' st k=>k it 'c' _ st
 item:=by
  intro X hP hw hK hc i pins s σ H E I hf st hg;subst hP hw hK;obtain⟨F,O,f2,U,Y,Z⟩:0:=hf it 'c';have W:=Walks.range (prog:=X.prog) (w:=X.w) (I.ok.hd hc) it lo 1 n;refine W.item i s _ _ hg st λv h' tk hv a0 kk=>?_;obtain⟨t,rfl⟩:=hv;have I1:Inv X pins σ H {s with heap:=h',toks:=tk}:=I.turned (λb o hb e=>kk b o (by simpa using hb) e) F O U Y Z
  refine⟨_,rfl,Y4 (s:={s with heap:=h',toks:=tk}) (n:="range_iterator") a0 rfl rfl nofun ⟨.int (lo+i),H,I1,⟨t,?_⟩,⟨rfl,rfl⟩,a0,λb hb=>(hf b hb).1⟩⟩
  rw[Int.mul_one]
 done:=by intro X hP hw hK hc i pins s σ H E I hf st hg;subst hP hw hK;obtain⟨F,O,f2,U,Y,Z⟩:0:=hf it 'c';exact wpAny_pyNext_range_end (I.ok.hd hc) st (by have:n<=i:=hg;omega) λh' eb=>⟨rfl,I.turned (t':=s.toks) (λb o hb e=>eb b o hb e) F O U Y Z⟩
 self:=λ_ _ _ _ _ st h=>wpAny_pyIter_rangeiter st h
theorem X0 {σ:St}{R:It->Hp->Prop}{lo hi:Int}{t u v:Tok}{tk:Nat}(I:(4,s))(h1:-(2 ^ 62)<=lo)(h2:lo<2 ^ 62)(Y:-(2 ^ 62)<=hi)(Z:hi<2 ^ 62)
 (q:R (Itr lo (hi-lo).toNat) H):wpAny ((H,X.w)) X.A (pyIter (.ref s.heap.objs.size)) (PIE X pins σ tg R) E {s with heap:=s.heap.push {cls:=.type "range",data:=.fields #[.int lo t,.int hi u,.int 1 v]},toks:=tk}:=by
 refine wpAny_pyIter_range (IsRange.new ..) (small_one h1 h2 Y Z) ?_;have F:Inv X pins σ H {s with heap:=s.heap.push {cls:=.type "range",data:=.fields #[.int lo t,.int hi u,.int 1 v]},toks:=tk}:=I.kept λb o e=>BH _ e
 refine⟨(s.heap.push {cls:=.type "range",data:=.fields #[.int lo t,.int hi u,.int 1 v]}).objs.size,[(s.heap.push {cls:=.type "range",data:=.fields #[.int lo t,.int hi u,.int 1 v]}).objs.size],_,_,H,rfl,
  F.kept (t':=tk) λb o e=>BH _ e,Xu _ lo (hi-lo).toNat,?_,λb hb=>?_,q⟩
 . have O:lo+((0:Nat):Int)*1=lo:=by simp
   have U:(((hi-lo).toNat:Nat):Int)-((0:Nat):Int)=Builtin.Range.rangeSize lo hi 1:=by rw[rangeSize_one];split<;>omega
   show IsRangeIter _ _ (lo+((0:Nat):Int)*1) ((((hi-lo).toNat:Nat):Int)-((0:Nat):Int)) 1;rw[O,U];exact(12,_)
 have e:b=(s.heap.push {cls:=.type "range",data:=.fields #[.int lo t,.int hi u,.int 1 v]}).objs.size:=by simpa using hb
 subst e;exact F.fpOk (BE _) (F.hok.fresh (BE _))
noncomputable def aD6 (ta:TA):TI:=fun σ H R=>ta σ H λvs H1=>∃ j:Int,vs=[.int j] /\ -(2 ^ 62)<=j/\j<2 ^ 62/\R (Itr 0 j.toNat) H1
noncomputable def aB9 (ta:TA):TI:=fun σ H R=>ta σ H λvs H1=>∃ i j:Int,vs=[.int i,.int j]/\(-(2 ^ 62)<=i/\i<2 ^ 62 /\ -(2 ^ 62)<=j/\j<2 ^ 62)/\R (Itr i (j-i).toNat) H1
theorem Cu {a:Expr}{ta:TA}{p:Pos}(U:Gl X "range")(hm:X.mg "range" = none)(ha:PA X [a] ta)(Y:(29,[a])=[(false,(s,a))]:=by ac_nf):PI X tg ((60,"range",p,[a],[],pos)) (aD6 ta):=by
 intro pins s σ H R I h;refine Call_ (Ka I U hm boot_range (FA (BD (ha pos pins s σ H _ I h) λus s1 ⟨vs,H1,O,r1,F⟩=>?_) Y rfl));obtain⟨j,e,F,Z,q⟩:1:=F;subst e
 cases r1 with
 |cons r rr=>cases rr;obtain⟨t,rfl⟩:=r;exact call_range_1 (X0 O ∅ ∅ F Z (by simpa using q))
theorem RZ {a b:Expr}{ta:TA}{p:Pos}(Y:Gl X "range")(hm:X.mg "range" = none)(ha:PA X [a,b] ta)(Z:(29,[a,b])=[(false,(s,a)),(false,(s,b))]:=by ac_nf)(O:(29,[b])=[(false,(s,b))]:=by ac_nf) :
 PI X tg ((60,"range",p,[a,b],[],pos)) (aB9 ta):=by
 intro pins s σ H R I h;refine Call_ (Ka I Y hm boot_range (FA (BD (ha pos pins s σ H _ I h) λus s1 ⟨vs,H1,U,r1,F⟩=>?_) (by rw[Z,O]) (by rw[O];rfl)));obtain⟨i,j,e,⟨F,q2,q3,q4⟩,q⟩:2:=F;subst e
 cases r1 with
 |cons r rr=>
   cases rr with
   |cons r' rr=>cases rr;obtain⟨t,rfl⟩:=r;obtain⟨t',rfl⟩:=r';exact call_range_2 (X0 U F q2 q3 q4 q)
noncomputable def aT5 (wi:TI)(g:TG)(tb:TS):TS:=λD σ H=>wi σ H λJ H1=>∃ W:Nat->Nat->St->Hp->Prop,(∃ m,W 0 m σ H1)/\∀ i m σ H,W i m σ H ->
 (J.stop i H/\D.nx σ H)\/(J.go i H/\∃ N:St->Hp->Prop,(∀ σ' H',N σ' H'->∃ m',m'<m/\W (i+1) m' σ' H')/\∀ x H',J.yld i H x H'->g x σ H' fun σ2 H2=>tb {D with nx:=N,ct:=N,bk:=D.nx} σ2 H2)
noncomputable def Si (fp:AF)(h:Heap):AI:=fp.filterMap λb=>(h.get? b).map λo=>(b,o)
theorem Ii {b:Addr}{o:Obj}(hb:b∈fp)(e:h.get? b=some o):(b,o)∈Si fp h:=A4G.mpr ⟨b,hb,by rw[e];rfl⟩
theorem Zd   {p:Addr×Obj} (hp:p∈Si fp h):p.1∈fp/\h.get? p.1=some p.2:=by
 obtain⟨b,hb,e⟩:1:=A4G.mp hp
 cases q:h.get? b with
 |none=>rw[q] at e;cases e
 |some o=>rw[q] at e;have F:(b,o)=p:=BR e;subst F;exact⟨hb,q⟩
theorem Inv.pinned {σ:St}(I:(4,s))(hf:∀ b∈fp,Vo X pins H b)(Z:∀ b∈fp,∃ o,s.heap.get? b=some o/\∀ v,o.data ≠ .cell v):Inv X (pins++Si fp s.heap) σ H s:=
 I.pins_of λp hp=>(A0B.mp hp).elim (λz=>I.pin p (CI _ z)) λz=>by obtain⟨hb,e⟩:=Zd z;obtain⟨O,U,Y,_⟩:0:=hf p.1 hb;obtain⟨o,F,d⟩:1:=Z p.1 hb;rw[e] at F;cases F;exact⟨e,O,U,Y,d⟩
theorem Inv.unpinned {pl:AI}{σ:St}(I:Inv X (pins++pl) σ H s):Inv X pins σ H s:=I.pins_of λp hp=>I.pin p (CI _ (BZ _ hp))
theorem C4 {iter:Expr}{wi:TI}{g:TG}{tb:TS}(hp:PassesOwn (H,X.w) X.A X.env X.xe)(hc:X.calm=true)(hi:PI X tg iter wi)(hg:PG X tg g)(hb:PSs X body tb)
 (hs:∀ x,foldedSetIterable iter X.env x=pure x:=by intro _;ac_nf):PS X (.For tg iter body [] pos) (aT5 wi g tb):=by
 intro pins s σ H D I h;refine wpAny_For (BD (hi pins s σ H _ I h) λv s1 h1=>BD h1 λa7 s2 h2=>?_) hs;obtain⟨it,fp,tn,J,H2,e,I2,T,a6,f2,W,⟨m0,w0⟩,turn⟩:505:=h2;subst e;have a1:∀ {H':Hp},(∀ b∈fp,H' b=none)->∀ b∈fp,Vo X pins H' b:=λhn b hb=>⟨hn b hb,(f2 b hb).2⟩;refine codeAny_forLoop_any (λn s'=>∃ i σ' H',(T,X,σ',H',s')/\tn i s'.heap/\(∀ b∈fp,H' b=none)/\W i n σ' H') ?_ m0 ⟨0,σ,H2,I2,a6,λb hb=>(f2 b hb).1,w0⟩;rintro n s3 ⟨i,σ3,Z,I3,a3,a2,w3⟩;rcases turn i n σ3 Z w3 with ⟨stop,qn⟩|⟨go,N,hN,step⟩
 . refine EV hp (BD (T.done X rfl rfl rfl hc i pins s3 σ3 Z X.xe I3 (a1 a2) a3 stop) λr s4 ⟨hr,I4⟩=>?_);subst hr;exact IT ⟨σ3,Z,I4,qn⟩
 refine EV hp (BD (T.item X rfl rfl rfl hc i pins s3 σ3 Z X.xe I3 (a1 a2) a3 go) λr s4 ⟨u,hr,h4⟩=>?_);subst hr;refine EV hp (BD h4 λ_ s5 ⟨x,H5,I5,r5,y5,a0,a5⟩=>?_);have a4:=I5.pinned (a1 a5) (T.obj _ _ a0);refine EV hp (BD (hg _ s5 σ3 H5 x u _ a4 r5 (step x H5 y5)) λ_ s6 ⟨σ6,H6,I6,q6⟩=>?_);refine EV hp (BD (hb _ s6 σ6 H6 _ I6 q6) λf s7 U=>?_)
 have again:∀ {σ7:St} {F:Hp},Inv X (pins++Si fp s5.heap) σ7 F s7->N σ7 F->∃ m,m<n/\∃ i σ' H',(T,X,σ',H',s7)/\tn i s7.heap/\(∀ b∈fp,H' b=none)/\W i m σ' H':=fun {σ7 F} O Y=>by obtain⟨m',hm,w7⟩:1:=hN σ7 F Y;refine⟨m',hm,i+1,σ7,F,O.unpinned,T.keep _ _ _ a0 λb hb o e=>(O.pin (b,o) (CI _ (CI _ (Ii hb e)))).1,λb hb=>?_,w7⟩;obtain⟨o,e,d⟩:1:=T.obj _ _ a0 b hb;exact(O.pin (b,o) (CI _ (CI _ (Ii hb e)))).2.1
 cases f with
 |next=>obtain⟨σ7,F,O,Y⟩:2:=U;exact again O Y
 |cont=>obtain⟨σ7,F,O,Y⟩:2:=U;exact again O Y
 |brk=>obtain⟨σ7,F,O,U⟩:2:=U;exact⟨σ7,F,O.unpinned,U⟩
 |ret v=>obtain⟨x7,σ7,F,O,r7,U⟩:3:=U;exact⟨x7,σ7,F,O.unpinned,r7,U⟩
noncomputable abbrev R2:=V->V->Hp->VK->Prop
variable {r:R2}
noncomputable def OpR (X:Cx)(f:Value->Value->Sem Value)(r:R2):Prop:=
 ∀(pins:AI) (s:Shared) (σ:St) (H:Hp) (x y:V) (v u:Value) (Q:VK),(4,s)->RelV x v->(u,y)->r x y H Q ->
  (35,f v u,EP X pins σ Q)
noncomputable def UnR (X:Cx)(f:Value->Sem Value)(r:V->Hp->VK->Prop):Prop:=
 ∀(pins:AI) (s:Shared) (σ:St) (H:Hp) (x:V) (v:Value) (Q:VK),(4,s)->RelV x v->r x H Q ->
  (35,f v,EP X pins σ Q)
noncomputable def CallR (X:Cx)(f:Value)(r:List V->Hp->VK->Prop):Prop:=
 ∀(pins:AI) (s:Shared) (σ:St) (H:Hp) (xs:List V) (us:AC) (Q:VK),(4,s)->(R,xs)->r xs H Q ->
  (35,call f us,EP X pins σ Q)
noncomputable def TruR (X:Cx)(r:V->Hp->(Bool->Hp->Prop)->Prop):Prop:=
 ∀(pins:AI) (s:Shared) (σ:St) (H:Hp) (x:V) (v:Value) (Q:Bool->Hp->Prop),(4,s)->RelV x v->r x H Q ->
  (35,truthy v,TP X pins σ Q)
noncomputable def tOp (r:R2)(ta tb:TE):TE:=fun σ H Q=>ta σ H λx H1=>tb σ H1 λy H2=>r x y H2 Q
noncomputable def tUn (r:V->Hp->VK->Prop)(ta:TE):TE:=fun σ H Q=>ta σ H λx H1=>r x H1 Q
noncomputable def rI (C:Int->Int->Prop)(g:Int->Int->V):R2:=λx y H Q=>∃ i j,x = .int i/\y = .int j/\C i j/\Q (g i j) H
noncomputable def rI0 (g:Int->Int->V):R2:=λx y H Q=>∃ i j,x = .int i/\y = .int j/\Q (g i j) H
noncomputable def rU (g:Int->V):V->Hp->VK->Prop:=λx H Q=>∃ i,x = .int i/\Q (g i) H
section
variable {a b c:Expr}{ta tb tc:TE}
theorem IZ (ha:PE X a ta)(hb:PE X b tb){σ:St}{R:V->V->Hp->Prop}(I:(4,s))
 (h:ta σ H λx H1=>tb σ H1 λy H2=>R x y H2)  
 (hf:∀ v u F x y H2,(T,X,σ,H2,F)->RelV x v->(u,y)->R x y H2->wpAny (H,X.w) X.A (f v u) Q X.xe F) :
 wpAny ((H,X.w)) X.A ((s,a)) (λv s₁=>wpAny (H,X.w) X.A (s,b) (λu s₂=>wpAny (H,X.w) X.A (f v u) Q X.xe s₂) X.xe s₁) X.xe s:=by
 refine BD (ha pins s σ H _ I h) λv s1 ⟨x,H1,O,r1,Y⟩=>?_;refine BD (hb pins s1 σ H1 _ O Y) λu F ⟨y,H2,U,r2,Z⟩=>?_;exact hf v u F x y H2 U r1 r2 Z
theorem Am {op:Operator}(O:OpR X (binaryOp op) r)(ha:PE X a ta)(hb:PE X b tb):PE X (.BinOp a op b pos) (tOp r ta tb):=by intro pins s σ H Q I h;exact wpAny_BinOp (IZ ha hb I h λv u Z x y H2 F U Y q=>O pins Z σ H2 x y v u Q F U Y q)
theorem Xx {op:UnaryOp}{r:V->Hp->VK->Prop}(O:UnR X (unaryOp op) r)(ha:PE X a ta):PE X (.UnaryOp op a pos) (tUn r ta):=by intro pins s σ H Q I h;exact UnaryOp_ (BD (ha pins s σ H _ I h) λv Z ⟨x,H1,F,Y,U⟩=>O pins Z σ H1 x v Q F Y U)
theorem IF {C:Int->Int->Prop}{g:Int->Int->Int}
 (rule:∀(i j:Int) (t u:Tok) (s:Shared) (Q:AG) (E:AG),C i j->Q (.int (g i j) s.toks) {s with toks:=s.toks+1}->(M,(H,X.w),X.A,f (.int i t) (.int j u),Q,E)) :
 OpR X f (rI C λi j=>.int (g i j)):=by
 intro pins s σ H x y v u Q I O U h;obtain⟨i,j,rfl,rfl,F,q⟩:2:=h;obtain⟨t,rfl⟩:=O;obtain⟨t',rfl⟩:=U;exact rule i j t t' s _ _ F ⟨.int (g i j),H,I.tok _,⟨_,rfl⟩,q⟩
theorem JS {g:Int->Int->Int}
 (rule:∀(i j:Int) (t u:Tok) (s:Shared) (Q:AG) (E:AG),Q (.int (g i j) s.toks) {s with toks:=s.toks+1}->(M,(H,X.w),X.A,f (.int i t) (.int j u),Q,E)) :
 OpR X f (rI0 λi j=>.int (g i j)):=by
 intro pins s σ H x y v u Q I F O h;obtain⟨i,j,rfl,rfl,q⟩:2:=h;obtain⟨t,rfl⟩:=F;obtain⟨t',rfl⟩:=O;exact rule i j t t' s _ _ ⟨.int (g i j),H,I.tok _,⟨_,rfl⟩,q⟩
theorem KD {g:Int->Int->Bool}
 (rule:∀(i j:Int) (t u:Tok) (s:Shared) (Q:AG) (E:AG),Q (.bool (g i j)) s->(M,(H,X.w),X.A,f (.int i t) (.int j u),Q,E)) :
 OpR X f (rI0 λi j=>.bl (g i j)):=by
 intro pins s σ H x y v u Q I F O h;obtain⟨i,j,rfl,rfl,q⟩:2:=h;obtain⟨t,rfl⟩:=F;obtain⟨t',rfl⟩:=O;exact rule i j t t' s _ _ ⟨.bl (g i j),H,I,rfl,q⟩
noncomputable def aR3 (i j:Int):Prop:=0<j/\j<1073741824
noncomputable def aQ5 (i j:Int):Prop:=0<=j/\j<=1000000/\i.natAbs<2 ^ 64
noncomputable def CMul (i j:Int):Prop:=(-(2 ^ 64)<i/\i<2 ^ 64)\/(-(2 ^ 64)<j/\j<2 ^ 64)
theorem CMul.ok {i j:Int}(h:CMul i j):IntMulOk i j:=by
 rcases h with ⟨h1,h2⟩|⟨h1,h2⟩
 . exact .of_left (intBits_le_64 h1 h2)
 exact .of_right (intBits_le_64 h1 h2)
theorem op_add:OpR X (binaryOp .Add) (rI0 λi j=>.int (i+j)):=JS λ_ _ _ _ _ _ _ q=>add_int q
theorem Hh:OpR X (binaryOp .Sub) (rI0 λi j=>.int (i-j)):=JS λ_ _ _ _ _ _ _ q=>sub_int q
theorem op_mul:OpR X (binaryOp .Mult) (rI CMul λi j=>.int (i*j)):=IF λ_ _ _ _ _ _ _ F q=>mul_int q F.ok
theorem WI:OpR X (binaryOp .FloorDiv) (rI aR3 λi j=>.int (i / j)):=IF λi j _ _ _ _ _ F q=>by have h1:(0:Int)<j:=F.1;have h2:j<1073741824:=F.2;exact floordiv_int ∅ (by rw[Int.fdiv_eq_ediv_of_nonneg i ∅];exact q) (.inl (PyProof.noPylong_small ∅))
theorem Lp:OpR X (binaryOp .Mod) (rI (λ_ j=>0<j) λi j=>.int (i % j)):=IF λi j _ _ _ _ _ F q=>by have h1:(0:Int)<j:=F;exact mod_int' ∅ (by rw[Int.fmod_eq_emod_of_nonneg i ∅];exact q)
theorem LC:OpR X (binaryOp .Pow) (rI aQ5 λi j=>.int (i ^ j.toNat)):=IF λ_ _ _ _ _ _ _ F q=>pow_int_small F.1 F.2.1 F.2.2 q
theorem Zg:OpR X (binaryOp .BitAnd) (rI0 λi j=>.int (Builtin.bitAnd i j)):=JS λ_ _ _ _ _ _ _ q=>and_int q
theorem WG {f:Value->Sem Value}{g:Int->Int}
 (rule:∀(i:Int) (t:Tok) (s:Shared) (Q:AG) (E:AG),Q (.int (g i) s.toks) {s with toks:=s.toks+1}->(M,(H,X.w),X.A,f (.int i t),Q,E)) :
 UnR X f (rU λi=>.int (g i)):=by
 intro pins s σ H x v Q I F h;obtain⟨i,rfl,q⟩:1:=h;obtain⟨t,rfl⟩:=F;exact rule i t s _ _ ⟨.int (g i),H,I.tok _,⟨_,rfl⟩,q⟩
theorem Pf:UnR X (unaryOp .USub) (rU λi=>.int (-i)):=WG λ_ _ _ _ _ q=>neg_int q
end
noncomputable def aN9:V->V->Bool
 |.non,.non=>true | .non,.int _=>true | .int _,.non=>true | .non,.bl _=>true | .bl _,.non=>true | .non,.str _=>true | .str _,.non=>true
 |.int _,.int _=>true | .bl _,.bl _=>true | .str _,.str _=>true | .byt _,.byt _=>true
 |.int _,.str _=>true | .str _,.int _=>true | .bl _,.str _=>true | .str _,.bl _=>true
 |_,_=>false
noncomputable def rEq:R2:=λx y H Q=>aN9 x y=true/\(t,(decide (x=y)))
noncomputable def rNe:R2:=λx y H Q=>aN9 x y=true/\(t,(!decide (x=y)))
theorem MO {i j:Int}:decide (V.int i=V.int j)=(i==j):=by rw[DQ];simp
theorem NL {i j:Bool}:decide (V.bl i=V.bl j)=(i==j):=by rw[DQ];simp
theorem LD {i j:Str}:decide (V.str i=V.str j)=(i==j):=by rw[DQ];simp
theorem LJ {i j:Array UInt8}:decide (V.byt i=V.byt j)=(i.toList==j.toList):=by
 rw[DQ]
 cases i
 cases j;simp
section
variable {a b c:Expr}{ta tb tc:TE}
theorem Bg {σ:St}{Q:VK}{k F:Bool}(I:(4,s))(q:(t,k))(e:k=F):EP X pins σ Q (.bool F) s:=by subst e;exact⟨.bl k,H,I,rfl,q⟩
theorem op_eq:OpR X (compareOp .Eq) rEq:=by
 intro pins s σ H x y v u Q I U F h;obtain⟨O,q⟩:=h
 cases x with
 |non=>
   cases U
   cases y with
   |non=>cases F;exact PySem.EqNone.eq_none_none (25,I,q)
   |bl j=>cases F;exact PySem.EqNone.eq_none_bool (25,I,q)
   |int j=>obtain⟨t',rfl⟩:=F;exact PySem.EqNone.eq_none_int (25,I,q)
   |str j=>obtain⟨t',rfl⟩:=F;exact PySem.EqNone.eq_none_str (25,I,q)
   |_=>exact(45,(show false=true from O))
 |bl i=>
   cases U
   cases y with
   |non=>cases F;exact PySem.EqNone.eq_bool_none (25,I,q)
   |bl j=>cases F;exact eq_bool (Bg I q NL)
   |str j=>obtain⟨t',rfl⟩:=F;exact PySem.EqMixed.eq_bool_str (25,I,q)
   |_=>exact(45,(show false=true from O))
 |int i=>
   obtain⟨t,rfl⟩:=U
   cases y with
   |non=>cases F;exact PySem.EqNone.eq_int_none (25,I,q)
   |int j=>obtain⟨t',rfl⟩:=F;exact eq_int (Bg I q MO)
   |str j=>obtain⟨t',rfl⟩:=F;exact PySem.EqMixed.eq_int_str (25,I,q)
   |_=>exact(45,(show false=true from O))
 |str i=>
   obtain⟨t,rfl⟩:=U
   cases y with
   |non=>cases F;exact PySem.EqNone.eq_str_none (25,I,q)
   |bl j=>cases F;exact PySem.EqMixed.eq_str_bool (25,I,q)
   |int j=>obtain⟨t',rfl⟩:=F;exact PySem.EqMixed.eq_str_int (25,I,q)
   |str j=>obtain⟨t',rfl⟩:=F;exact eq_str (Bg I q LD)
   |_=>exact(45,(show false=true from O))
 |byt i=>
   obtain⟨t,rfl⟩:=U
   cases y with
   |byt j=>obtain⟨t',rfl⟩:=F;exact W.eq_bytes (Bg I q LJ)
   |_=>exact(45,(show false=true from O))
 |_=>cases y<;>exact(45,(show false=true from O))
theorem op_ne:OpR X (compareOp .NotEq) rNe:=by
 intro pins s σ H x y v u Q I U F h;obtain⟨O,q⟩:=h
 cases x with
 |non=>
   cases U
   cases y with
   |non=>cases F;exact PySem.EqNone.ne_none_none (25,I,q)
   |bl j=>cases F;exact PySem.EqNone.ne_none_bool (25,I,q)
   |int j=>obtain⟨t',rfl⟩:=F;exact PySem.EqNone.ne_none_int (25,I,q)
   |str j=>obtain⟨t',rfl⟩:=F;exact PySem.EqNone.ne_none_str (25,I,q)
   |_=>exact(45,(show false=true from O))
 |bl i=>
   cases U
   cases y with
   |non=>cases F;exact PySem.EqNone.ne_bool_none (25,I,q)
   |bl j=>cases F;exact ne_bool (Bg I q (congrArg not NL))
   |str j=>obtain⟨t',rfl⟩:=F;exact PySem.EqMixed.ne_bool_str (25,I,q)
   |_=>exact(45,(show false=true from O))
 |int i=>
   obtain⟨t,rfl⟩:=U
   cases y with
   |non=>cases F;exact PySem.EqNone.ne_int_none (25,I,q)
   |int j=>obtain⟨t',rfl⟩:=F;exact ne_int (Bg I q (congrArg not MO))
   |str j=>obtain⟨t',rfl⟩:=F;exact PySem.EqMixed.ne_int_str (25,I,q)
   |_=>exact(45,(show false=true from O))
 |str i=>
   obtain⟨t,rfl⟩:=U
   cases y with
   |non=>cases F;exact PySem.EqNone.ne_str_none (25,I,q)
   |bl j=>cases F;exact PySem.EqMixed.ne_str_bool (25,I,q)
   |int j=>obtain⟨t',rfl⟩:=F;exact PySem.EqMixed.ne_str_int (25,I,q)
   |str j=>obtain⟨t',rfl⟩:=F;exact ne_str (Bg I q (congrArg not LD))
   |_=>exact(45,(show false=true from O))
 |byt i=>
   obtain⟨t,rfl⟩:=U
   cases y with
   |byt j=>obtain⟨t',rfl⟩:=F;exact W.ne_bytes (Bg I q (congrArg not LJ))
   |_=>exact(45,(show false=true from O))
 |_=>cases y<;>exact(45,(show false=true from O))
theorem Sa:OpR X (compareOp .Lt) (rI0 λi j=>.bl (decide (i<j))):=KD λ_ _ _ _ _ _ _ q=>lt_int q
theorem Ul:OpR X (compareOp .Gt) (rI0 λi j=>.bl (decide (j<i))):=KD λ_ _ _ _ _ _ _ q=>gt_int q
theorem PM:OpR X (compareOp .GtE) (rI0 λi j=>.bl (decide (j<=i))):=KD λ_ _ _ _ _ _ _ q=>ge_int q
theorem op_in_str:OpR X (compareOp .In) (λx y H Q=>∃ i j,x = .str i/\y = .str j/\(t,(!(Builtin.Str.occurrences j i 0 j.length 1).isEmpty))):=by intro pins s σ H x y v u Q I F O h;obtain⟨i,j,rfl,rfl,q⟩:2:=h;obtain⟨t,rfl⟩:=F;obtain⟨t',rfl⟩:=O;exact in_str (Bg I q rfl)
theorem QK:OpR X (compareOp .Is) (λx y H Q=>y = .non/\(t,(decide (x = .non)))):=by
 intro pins s σ H x y v u Q I F O h;obtain⟨rfl,q⟩:=h
 cases O;refine is_none_gen (Bg I q ?_)
 cases x<;>first
  | (cases F;rfl)
  | (obtain⟨t,rfl⟩:=F;rfl)
theorem WP:OpR X (compareOp .IsNot) (λx y H Q=>y = .non/\(t,(!decide (x = .non)))):=by
 intro pins s σ H x y v u Q I F O h;obtain⟨rfl,q⟩:=h
 cases O;refine isnot_none_gen (Bg I q ?_)
 cases x<;>first
  | (cases F;rfl)
  | (obtain⟨t,rfl⟩:=F;rfl)
theorem OpR.or {F:R2}(h:OpR X f r)(h':OpR X f F):OpR X f (λx y H Q=>r x y H Q\/F x y H Q):=by
 intro pins s σ H x y v u Q I O U q;rcases q with q|q
 . exact h pins s σ H x y v u Q I O U q
 exact h' pins s σ H x y v u Q I O U q
theorem Ax (b:Expr)(h:op ≠ .In:=by decide)(h2:op ≠ .NotIn:=by decide):behindInMarks op b=false:=by
 have F:(op==CmpOp.In)=false:=by cases op<;>first | rfl | exact(71,h)
 have O:(op==CmpOp.NotIn)=false:=by cases op<;>first | rfl | exact(71,h2)
 cases b<;>simp[behindInMarks,F,O]
theorem Ho (O:OpR X (compareOp op) r)(ha:PE X a ta)(hb:PE X b tb)(hm:behindInMarks op b=false):PE X (.Compare a [op] [b] pos) (tOp r ta tb):=by intro pins s σ H Q I h;exact wpAny_Compare1 (IZ ha hb I h λv u Z x y H2 F U Y q=>O pins Z σ H2 x y v u Q F U Y q) hm
noncomputable def aC5 (t:TE):TT:=fun σ H Q=>t σ H λx H'=>∃ k,x = .bl k/\Q k H'
theorem Ak (Z:OpR X (compareOp op) r)(ha:PE X a ta)(hb:PE X b tb)(hm:behindInMarks op b=false):PT X (.Compare a [op] [b] pos) (aC5 (tOp r ta tb)):=by
 intro pins s σ H Q I h
 refine wpAny_isTrue_Compare1 (BD (ha pins s σ H _ I h) λv s1 ⟨x,H1,O,r1,q1⟩=>BD (hb pins s1 σ H1 _ O q1) λu s2 ⟨y,H2,U,r2,q2⟩=>BD (Z pins s2 σ H2 x y v u _ U r1 r2 q2) λc s3 ⟨z,F,Y,r3,k,e,q3⟩=>?_) hm
 subst e
 cases r3;exact EH ⟨F,Y,q3⟩
noncomputable def TruV (K:W.Frag)(x:V)(H:Hp)(k:Bool):Prop:=
 match x with
 |.non=>k=false
 |.bl b=>k=b
 |.int i=>k=(i != 0)
 |.str y=>y.length<=sizeLine/\k=((y.length:Int) != 0)
 |.byt y=>y.size<=sizeLine/\k=((y.size:Int) != 0)
 |.ref p=>(∃ xs,(N,p)/\k = !xs.isEmpty)\/(∃ xs,SqT K H p xs/\k = !xs.isEmpty)\/∃ kvs,H p=(6,kvs)/\k = !kvs.isEmpty
 |_=>False
theorem Y0 {κ:Type}{kvs:List (κ×V)}{vs:List (κ×Value)}(r:KV kvs vs):(!vs.isEmpty) = !kvs.isEmpty:=by cases r<;>rfl
theorem P0 {xs:List V}{its:AC}(r:Vals xs its):(!its.toArray.isEmpty) = !xs.isEmpty:=by cases r<;>simp
theorem Ly:(sizeLine:Nat)<2 ^ 63:=by rw[CH];decide
theorem OZ:TruR X (λx H Q=>∃ k,TruV X.K x H k/\Q k H):=by
 intro pins s σ H x v Q I O h;obtain ⟨k,e,q⟩:1:=h;have hl:=Ly;have Z:sizeLine=16777216:=CH
 cases x with
 |non=>cases O;have F:k=false:=e;subst F;exact truthy_none ⟨H,I,q⟩
 |bl b=>cases O;have F:k=b:=e;subst F;exact EH ⟨H,I,q⟩
 |int i=>obtain⟨t,rfl⟩:=O;have F:k=(i != 0):=e;subst F;exact PySem.P.truthy_int ⟨H,I,q⟩
 |str y=>obtain⟨t,rfl⟩:=O;obtain⟨hy,F⟩:y.length<=sizeLine/\k=((y.length:Int) != 0):=e;subst F;exact PySem.P.truthy_str ∅ ⟨H,I.tok _,q⟩
 |byt y=>obtain⟨t,rfl⟩:=O;obtain⟨hy,F⟩:y.size<=sizeLine/\k=((y.size:Int) != 0):=e;subst F;exact W.truthy_bytes ∅ ⟨H,I.tok _,q⟩
 |ref p=>
   cases O;have F:(∃ xs,SqL X.K H p xs/\k = !xs.isEmpty)\/(∃ xs,SqT X.K H p xs/\k = !xs.isEmpty)\/∃ kvs,H p=(6,kvs)/\k = !kvs.isEmpty:=e;rcases F with ⟨xs,U,F⟩|⟨xs,U,F⟩|⟨kvs,U,F⟩
   . subst F;obtain⟨its,r,pl,hz⟩:1:=I.list U;have Y:=r.length;exact wpAny_truthy_list pl.isList (by simp only[List.size_toArray];omega) ⟨H,I.tok _,by rw[P0 r];exact q⟩
   . subst F;obtain⟨its,r,pl,hz⟩:1:=I.tuple U;have Y:=r.length;exact truthy_tuple pl (by simp only[List.size_toArray];omega) ⟨H,I.tok _,by rw[P0 r];exact q⟩
   subst F;obtain⟨hz,hS,vs,r,m⟩:kvs.length<=sizeLine/\(p==sysModules)=false/\∃ vs,KV kvs vs/\s.heap.DictOf ((78,X.w)) p vs:=(36,p,U);have Y:kvs.length=vs.length:=EI r;exact wpAny_truthy_dict hS m ∅ ⟨H,I.tok _,by rw[Y0 r];exact q⟩
 |_=>exact(show False from e).elim
theorem op_add_str:OpR X (binaryOp .Add) (λx y H Q=>∃ i j,x = .str i/\y = .str j/\i.length+j.length<=sizeLine/\(17,(i++j),H)):=by intro pins s σ H x y v u Q I F O h;obtain⟨i,j,rfl,rfl,hz,q⟩:2:=h;obtain⟨t,rfl⟩:=F;obtain⟨t',rfl⟩:=O;exact add_str (λt' tk=>⟨.str (i++j),H,I.tok _,⟨_,rfl⟩,q⟩) hz
theorem Jx {x:V}(r:(R,[x])):∃ u,us=[u]/\RelV x u:=by
 cases r with
 |cons r1 r2=>cases r2;exact⟨_,rfl,r1⟩
theorem Uc {x:V}(r:(R,[x,y])):∃ u F,us=[u,F]/\(u,x)/\RelV y F:=by
 cases r with
 |cons r1 r2=>
   cases r2 with
   |cons r3 r4=>cases r4;exact⟨_,_,rfl,r1,r3⟩
theorem UA (O:X.calm=true):CallR X (.builtin "min") (λxs H Q=>∃ i j,xs=[.int i,.int j]/\(X,(if j<i then j else i),H)):=by
 intro pins s σ H xs us Q I r h;obtain⟨i,j,rfl,q⟩:2:=h;obtain⟨u,U,rfl,⟨t,rfl⟩,⟨t',rfl⟩⟩:2:=Uc r;refine min_two_ints (I.ok.hd O) λh' tk k=>⟨_,H,I.kept k,?_,q⟩
 by_cases F:j<i
 . rw[BB F,BB F];exact⟨_,rfl⟩
 rw[AZ F,AZ F];exact⟨_,rfl⟩
theorem PH:CallR X (.type "int") (λxs H Q=>(∃ i,xs=[.int i]/\(X,i,H))\/∃ k,xs=[.bl k]/\(X,(if k then 1 else 0),H)):=by
 intro pins s σ H xs us Q I r h;rcases h with ⟨i,rfl,q⟩|⟨k,rfl,q⟩
 . obtain⟨u,rfl,t,rfl⟩:421:=Jx r;exact call_int_int ⟨.int i,H,I,⟨_,rfl⟩,q⟩
 obtain⟨u,rfl,F⟩:1:=Jx r
 cases F;exact call_int_bool ⟨.int (if k then 1 else 0),H,I.tok _,⟨_,rfl⟩,q⟩
noncomputable def aT4 (K:W.Frag)(x:V)(H:Hp)(n:Nat):Prop:=
 match x with
 |.str y=>y.length<=sizeLine/\n=y.length
 |.byt y=>y.size<=sizeLine/\n=y.size
 |.ref p=>(∃ xs,(N,p)/\n=xs.length)\/∃ xs,SqT K H p xs/\n=xs.length
 |_=>False
theorem call_len:CallR X (.builtin "len") (λxs H Q=>∃ x n,xs=[x]/\aT4 X.K x H n/\(X,n,H)):=by
 intro pins s σ H xs us Q I r h;obtain⟨x,n,rfl,e,q⟩:2:=h;obtain ⟨u,rfl,Z⟩:1:=Jx r;have hl:=Ly;have hs:sizeLine=16777216:=CH
 cases x with
 |str y=>obtain⟨t,rfl⟩:=Z;obtain⟨hy,F⟩:y.length<=sizeLine/\n=y.length:=e;subst F;exact len_str ∅ ⟨.int _,H,I.tok _,⟨_,rfl⟩,q⟩
 |byt y=>obtain⟨t,rfl⟩:=Z;obtain⟨hy,F⟩:y.size<=sizeLine/\n=y.size:=e;subst F;exact W.len_bytes ∅ ⟨.int _,H,I.tok _,⟨_,rfl⟩,q⟩
 |ref p=>
   cases Z;have F:(∃ xs,SqL X.K H p xs/\n=xs.length)\/∃ xs,SqT X.K H p xs/\n=xs.length:=e;rcases F with ⟨xs,U,F⟩|⟨xs,U,F⟩
   . subst F;obtain⟨its,Y,pl,hz⟩:1:=I.list U;have O:=Y.length;exact Calls.call_len_list pl.isList (by simp only[List.size_toArray];omega) ⟨.int xs.length,H,I.tok _,⟨_,by simp only[List.size_toArray];rw[O]⟩,q⟩
   subst F;obtain⟨its,Y,pl,hz⟩:1:=I.tuple U;have O:=Y.length;exact len_tuple pl (by simp only[List.size_toArray];omega) ⟨.int xs.length,H,I.tok _,⟨_,by simp only[List.size_toArray];rw[O]⟩,q⟩
 |_=>exact(show False from e).elim
end
structure ObjM (h:Heap)(x dx C:Addr)(mA:AH):Prop where
 obj:h.get? x=some (117,dx)
 ns:h.Ns1 dx mA
 ne:dx≠x
theorem Zb {dx:Addr}{mA:AH}(n:h.Ns1 dx mA):∃ od,h.get? dx=some od/\∀ name,W.lookIn name od=some (mA name):=by
 obtain⟨o,es,ep,Y,hd,O,_,hm⟩:3:=n;refine⟨o,Y,λname=>?_⟩;have e:=hm name;unfold nsFind findBy at e;rw[<- Array.find?_toList] at e;unfold W.lookIn;rw[hd];dsimp only
 split
 . rename_i y q;rw[q] at e;exact congrArg some e
 rename_i q;rw[q] at e
 have a:es.toList.any (·.refKey)=false:=by rw[List.any_eq_false];intro y Z;obtain⟨z,t,U⟩:=O y (Array.mem_toList_iff.mp Z);simp[DictEntry.refKey,U]
 have F:¬ es.toList.any (·.refKey)=true:=by rw[a];exact BX
 rw[AZ F];exact congrArg some e
theorem ObjM.look {x dx:Addr}{mA:AH}(I:ObjM h x dx C mA):∃ od,W.InstAt h x (117,dx) C (some od)/\∀ name,W.lookIn name od=some (mA name):=
 let ⟨od,ho,hl⟩:=Zb I.ns
 ⟨od,⟨I.obj,rfl,rfl,ho⟩,hl⟩
section
variable {prog:Program}{w:World}{A:Around}{K:W.Frag}{x dx f:Addr}{mA:AH}{name:Str}{v:Value}
theorem QU {F:Bool}(X:K.In s.heap)(I:ObjM s.heap x dx C mA)(O:W.plainGet K C name=true)(U:W.hasDictIn K C=true)
 (ha:(Q,C,name)=some none) (Y:mA name=some v) (Z:W.handedIn v=true) (h:Q v {s with toks:=s.toks+1}) :
 wpAny ((G,w)) A (getAttr (.ref x) name F) Q E s:=by
 obtain⟨od,J,hl⟩:1:=I.look;exact W.get_value X J (JR O).1 (W.findObj_own U ha rfl (by rw[hl,Y])) Z h
theorem ZK {Q:Value×AC->Shared->Prop}(X:K.In s.heap)(I:ObjM s.heap x dx C mA)(F:W.plainGet K C name=true)
 (hf:(Q,C,name)=(18,f)) (O:(87,K,f)=true) (U:mA name=none) (h:Q (.ref f,[.ref x]) s) :
 wpAny ((G,w)) A (getMethod (.ref x) name pl) Q E s:=by
 obtain⟨od,J,hl⟩:1:=I.look;exact W.method_fn X J (JR F).1 (JR F).2 hf (A2Y.mp O) (by show(W.lookIn name od).map (·.isSome)=some false;rw[hl,U];rfl) h
theorem UH {ns:AA}{Q:Unit->Shared->Prop}(X:K.In s.heap)(I:ObjM s.heap x dx C mA)
 (hs:(Q,C,"__setattr__") = (46,"object.__setattr__")) (hp:W.plainOver K C=true) (ht:W.takerIn K C name=some none) (hh:W.hasDictIn K C=true)
 (hw:PySem.Within mA ns) (hsz:ns.length<=sizeLine)
 (h:∀ h',ObjM h' x dx C (λy=>if y=name then some v else mA y)->Heap.SameBut dx s.heap h'->Q () {s with heap:=h',toks:=s.toks+2}) :
 wpAny ((G,w)) A (setAttr (.ref x) name v) Q E s:=by
 obtain⟨od,J,hl⟩:1:=I.look;refine W.set_plain X J hs (W.osa_open (s:={s with toks:=s.toks+1}) (r:=none) X J hp ht λb=>?_)
 obtain⟨cd,U,Z⟩:1:=HP hh;have hx:s.heap.get? x=some ⟨.ref C,some dx,.plain,#[]⟩:=I.obj;refine(19,AY (AY (IM hx (AY (KI (s:={s with toks:=s.toks+1}) (IJ X U) ?_)))))
 rw[Z];refine BC (a:=some dx) (19,AY ?_);refine wpAny_nsSet1 (s:={s with toks:=s.toks+1}) I.ns λh' F O=>?_
 obtain⟨oD,a3,a2,a1,a0,Y⟩:3:=F.count (PySem.Within.cons name v hw);refine AY (wpAny_lookBehind a1 (by rw[a0];exact pastItsLine_dict (BI Y (by rw[BO];omega))) ?_);exact BC (h _ ⟨(O.2 _ (Ne.symm I.ne)).trans I.obj,F,I.ne⟩ O)
theorem RY {R:Result->Shared->Prop}{vs:AC}(X:K.In s.heap)(hm:W.makesIn K C=true)
 (hi:(119,K,C) = (18,f)) (hf:W.typeIn K (.ref f)=some (.type "function"))
 (h:codeAny (G,w) (A.under (.builtin "type.__call__" ⟨.ref C :: vs,kw⟩)) (.call (.ref f) ⟨.ref (s.heap.objs.size+1) :: vs,kw⟩) (W.InitBack (s.heap.objs.size+1) R)
  {s with heap:=(s.heap.push W.emptyDict).push (117,s.heap.objs.size)}) :
 codeAny ((G,w)) A (.call (.ref C) ⟨vs,kw⟩) R s:=by
 obtain⟨F,g,d,t,os⟩:=s;exact W.make_core (W.makes_of X hm) (HE X hi) (λself=>W.bind_fn X self hf) (.inl rfl) h
end
noncomputable def M3 (f:Str) (v:V):List (Str×V)->List (Str×V)
 | []=>[(f,v)]
 | (g,x) :: r=>if g=f then(g,v) :: r else(g,x) :: M3 f v r
theorem Jc (f g:Str)(v:V):∀ fs:List (Str×V),(M3 f v fs).lookup g=if g=f then some v else fs.lookup g
 | []=>by
   show List.lookup g [(f,v)]=_
   by_cases h:g=f
   . have hb:(g==f)=true:=A2Y.mpr h;simp only[List.lookup,hb,if_pos h]
   have hb:(g==f)=false:=A1A.mpr h;simp only[List.lookup,hb,if_neg h]
 | (k,x) :: r=>by
   have O:=Jc f g v r;rw[show M3 f v ((k,x) :: r)=(if k=f then(k,v) :: r else(k,x) :: M3 f v r) from rfl]
   by_cases F:k=f
   . rw[BB F]
     by_cases h:g=k
     . have hb:(g==k)=true:=A2Y.mpr h;simp only[List.lookup,hb,if_pos (h.trans F)]
     have hb:(g==k)=false:=A1A.mpr h;simp only[List.lookup,hb,if_neg (λe:g=f=>h (e.trans F.symm))]
   rw[AZ F]
   by_cases h:g=k
   . have hb:(g==k)=true:=A2Y.mpr h;simp only[List.lookup,hb,if_neg (λe:g=f=>F (h.symm.trans e))]
   have hb:(g==k)=false:=A1A.mpr h;simp only[List.lookup,hb];exact O
theorem N7 (f:Str)(v:V):∀ fs:List (Str×V),f∈(M3 f v fs).map (·.1)/\∀ g,g∈fs.map (·.1)->g∈(M3 f v fs).map (·.1)
 | []=>⟨by simp[M3],λg h=>by simp at h⟩
 | (k,x) :: r=>by
   obtain⟨i1,i2⟩:=N7 f v r;rw[show M3 f v ((k,x) :: r)=(if k=f then(k,v) :: r else(k,x) :: M3 f v r) from rfl]
   by_cases F:k=f
   . rw[BB F];subst F;exact⟨by simp,λg h=>by simpa using h⟩
   rw[AZ F];refine⟨?_,λg h=>?_⟩
   . rw[BM];exact BP _ i1
   rw[BM] at h ⊢;rcases A0A.mp h with e|e
   . exact A0A.mpr (.inl e)
   exact BP _ (i2 g e)
theorem Oa (f:Str)(v:V):∀ fs:List (Str×V),(M3 f v fs).length<=fs.length+1
 | []=>by simp[M3]
 | (k,x) :: r=>by
   have O:=Oa f v r;rw[show M3 f v ((k,x) :: r)=(if k=f then(k,v) :: r else(k,x) :: M3 f v r) from rfl]
   by_cases F:k=f
   . rw[BB F,BO,BO];omega
   rw[AZ F,BO,BO];omega
theorem RelO.some_of {o:Option Value}(r:RelO (some v) o):∃ u,o=some u/\RelV v u:=by
 cases o with
 |none=>exact(show False from r).elim
 |some u=>exact⟨u,rfl,r⟩
theorem RelO.none_of {o:Option Value}(r:RelO none o):o=none:=by
 cases o with
 |none=>rfl
 |some u=>exact(show False from r).elim
theorem RD (r:(u,v)):W.handedIn u=true:=by
 cases v with
 |non=>cases (show u=Value.none from r);rfl
 |bl b=>cases (show u=Value.bool b from r);rfl
 |int i=>obtain⟨t,e⟩:=(show ∃ t,u=Value.int i t from r);cases e;rfl
 |str x=>obtain⟨t,e⟩:=(show ∃ t,u=Value.str x t from r);cases e;rfl
 |byt b=>obtain⟨t,e⟩:=(show ∃ t,u=Value.bytes b t from r);cases e;rfl
 |flt b=>obtain⟨t,e⟩:=(show ∃ t,u=Value.float b t from r);cases e;rfl
 |ref a=>cases (show u=Value.ref a from r);rfl
 |ty n=>cases (show u=Value.type n from r);rfl
section
variable {w:World}{H':Hp}{h':Heap}{dx:Addr}{fs fs':List (Str×V)}
theorem Q5 (hok:HOk P w H h)(e:H a=(47,C,dx,fs)):∃ mA,ObjM h a dx C mA/\(∀ f,RelO (fs.lookup f) (mA f))/\PySem.Within mA (fs.map (·.1))/\fs.length<=1000/\H dx=some (.own a):=by obtain⟨d,z,ne,ob,mA,n,r,q⟩:480:=(show ObjOk P w H h a (.ins C dx fs) from hok a _ e);exact⟨mA,⟨ob,n,ne⟩,r,q,z,d⟩
end
structure Cls (K:W.Frag)(C:Addr):Prop where
 pg:W.plainGet K C Str.empty=true
 hd:W.hasDictIn K C=true
 po:W.plainOver K C=true
 sa:(Q,C,"__setattr__") = (46,"object.__setattr__")
theorem Cls.get {K:W.Frag}(c:Cls K C)(f:Str):W.plainGet K C f=true:=c.pg
noncomputable def NoAttr (K:W.Frag)(C:Addr)(f:Str):Prop:=(Q,C,f)=some none
theorem NoAttr.taker {K:W.Frag}{f:Str}(n:(48,K,f)):W.takerIn K C f=some none:=by unfold W.takerIn;rw[show(Q,C,f)=some none from n];rfl
structure IK (K:W.Frag)(C:Addr)(m:Str)(f:Addr):Prop where
 at_:(Q,C,m)=(18,f)
 fn:(87,K,f)=true
 kp:(V,K,f)=true
section
variable {σ:St}{dx:Addr}{fs:List (Str×V)}{f:Str}{A:Around}
theorem Xj {b:Bool}(I:(4,s))(e:H a=(47,C,dx,fs))(c:Cls X.K C)(n:(48,X.K,f))(l:fs.lookup f=some v)
 (h:∀ u s',(4,s')->(u,v)->Q u s'):wpAny ((H,X.w)) A (getAttr (.ref a) f b) Q E s:=by
 obtain⟨mA,O,r,_,_,_⟩:1:=Q5 I.hok e;obtain⟨u,hu,F⟩:1:=RelO.some_of (v:=v) (o:=mA f) (by rw[<- l];exact r f);exact QU I.kIn O (c.get f) c.hd n hu (RD F) (h u _ (I.tok _) F)
theorem Xt {m:Str}{g:Addr}{Q:Value×AC->Shared->Prop}(I:(4,s))(e:H a=(47,C,dx,fs))(c:Cls X.K C)(k:IK X.K C m g)(l:fs.lookup m=none)
 (h:Q (.ref g,[.ref a]) s):wpAny ((H,X.w)) A (getMethod (.ref a) m pl) Q E s:=by
 obtain⟨mA,O,r,_,_,_⟩:1:=Q5 I.hok e;have hn:mA m=none:=RelO.none_of (by rw[<- l];exact r m);exact ZK I.kIn O (c.get m) k.at_ k.fn hn h
theorem Xp {Q:Unit->Shared->Prop}(I:(4,s))(e:H a=(47,C,dx,fs))(c:Cls X.K C)(n:(48,X.K,f))(hl:fs.length<1000)(Z:(u,y))
 (h:∀ s',(T,X,σ,(B,a,.ins C dx (M3 f y fs)),s')->Q () s'):wpAny ((H,X.w)) A (setAttr (.ref a) f u) Q E s:=by
 obtain⟨mA,O,r,wi,_,U⟩:1:=Q5 I.hok e;have hz:(fs.map (·.1)).length<=sizeLine:=by rw[BA,CH];omega
 refine UH I.kIn O c.sa c.po n.taker c.hd wi hz λh' F sb=>h _ ?_;have hd:∃ o,h'.get? dx=some o:=let ⟨o,_,_,e',_⟩:=F.ns;⟨o,e'⟩;refine I.write (x:=a) (e:=dx) (by rw[e];exact CT) (.inr U) (λb q hb z=>(sb.2 b hb).trans z) hd ?_;refine⟨by rw[Ap O.ne];exact U,?_,O.ne,F.obj,_,F.ns,λg=>?_,λg Y=>?_⟩
 . have:=Oa f y fs;omega
 . show RelO ((M3 f y fs).lookup g) (if g=f then some u else mA g)
   rw[Jc]
   by_cases q:g=f
   . rw[BB q,BB q];exact Z
   rw[AZ q,AZ q];exact r g
 by_cases q:g=f
 . rw[q];exact(N7 f y fs).1
 refine(N7 f y fs).2 g (wi g λz=>Y ?_);show(if g=f then some u else mA g)=none
 rw[AZ q];exact z
theorem Inv.made (I:(4,s)):Inv X pins σ (upd (B,s.heap.objs.size,.own (s.heap.objs.size+1)) (s.heap.objs.size+1) (.ins C s.heap.objs.size []))
 {s with heap:=(s.heap.push W.emptyDict).push (117,s.heap.objs.size)}:=by
 have F:(s.heap.push W.emptyDict).get? s.heap.objs.size=some W.emptyDict:=(12,s.heap)
 have U:((s.heap.push W.emptyDict).push (117,s.heap.objs.size)).get? (s.heap.objs.size+1)=some ((117,s.heap.objs.size)):=by have:=BV (s.heap.push W.emptyDict) (o:=(117,s.heap.objs.size)) rfl;rwa[DO] at this
 have Y:(s.heap.push W.emptyDict).Ns s.heap.objs.size (λ_=>none):=⟨W.emptyDict,#[],_,F,rfl,(λe he=>(65,he)),λ_=>rfl⟩;have O:=I.laid (a:=s.heap.objs.size) (o:=.own (s.heap.objs.size+1)) (h':=s.heap.push W.emptyDict) (t':=s.toks) (λb u q=>BH _ q) (BE _) ⟨_,F⟩;refine O.laid (a:=s.heap.objs.size+1) (o:=.ins C s.heap.objs.size []) (t':=s.toks) (λb u q=>BH _ q) (Nat.le_of_eq (DO _ _)) ?_;have ne:s.heap.objs.size≠s.heap.objs.size+1:=BN (FO _);refine⟨by rw[Ap ne,Ab],DJ _,ne,U,λ_=>none,(Heap.Ns1.of_empty Y).at λo q=>BH _ q,λ_=>CT,λy Z=>(71,Z)⟩
theorem QX {prog:Program}{w:World}{env:Env}(hb:attributeBase e f env (eval e env)=eval e env)
 (h:(M,(G,w),A,eval e env,(λo F=>wpAny (G,w) A (getAttr o f true) Q E F),E)):wpAny ((G,w)) A (eval (120,e,pos) env) Q E s:=
 Attribute_any_ h (by rw[arm_eval_Attribute,hb])
end
section
variable {σ:St}{A:Around}{c:Value}{b:Bool}
inductive Rs (K:W.Frag)(H:Hp):V->Value->Prop where
 |non:(94,K,H,.non,"NoneType")
 |bl (x:Bool):(94,K,H,.bl x,"bool")
 |int (i:Int):(94,K,H,.int i,"int")
 |str (x:Str):(94,K,H,.str x,"str")
 |flt (x:UInt64):(94,K,H,.flt x,"float")
 |lst {a:Addr} {xs:List V} (e:H a=(2,xs)):(94,K,H,.ref a,"list")
 |frz {a:Addr} {o:Obj} {xs:List V} (e:H a=(59,o,.lst xs)):(94,K,H,.ref a,"list")
 |tup {a:Addr} {xs:List V} (e:H a=(23,xs)):(94,K,H,.ref a,"tuple")
 |dK {a:Addr} {kvs:List (Key×V)} (e:H a=(6,kvs)):(94,K,H,.ref a,"dict")
 |dT {a:Addr} {kvs:List (List Key×V)} (e:H a=some (.dT kvs)):(94,K,H,.ref a,"dict")
 |ins {a C dx:Addr} {fs:List (Str×V)} (e:H a=(47,C,dx,fs)) (cl:Cls K C) (ha:(Q,C,"__class__") = (46,"object.__class__"))
  (hn:W.specialIn K (.builtin "object.__class__") "__get__" = (46,"getset_descriptor.__get__")) (htk:W.takesIn K (.builtin "object.__class__")=some true)
  (hm:W.mroIn K C (.type "object")=some true):Rs K H (.ref a) (.ref C)
theorem Rw {x:V}{t:Value}(I:(4,s))(F:(u,x))(ty:Rs X.K H x t)(e:W.kitOne X.K t c=some b)(h:∀ tk,Q (.bool b) {s with toks:=tk}) :
 wpAny ((H,X.w)) A ((95,"isinstance",[u,c])) Q E s:=by
 cases ty with
 |non=>cases (show u=Value.none from F);exact CZ W.kitx_none I.kIn CT e (λz=>nomatch z) h
 |bl y=>cases (show u=Value.bool y from F);exact CZ W.kitx_bool I.kIn CT e (λz=>nomatch z) h
 |int i=>obtain⟨t,q⟩:=(show ∃ t,u=Value.int i t from F);cases q;exact CZ W.kitx_int I.kIn CT e (λz=>nomatch z) h
 |str y=>obtain⟨t,q⟩:=(show ∃ t,u=Value.str y t from F);cases q;exact CZ W.kitx_str I.kIn CT e (λz=>nomatch z) h
 |flt y=>obtain⟨t,q⟩:=(show ∃ t,u=Value.float y t from F);cases q;exact CZ W.kitx_float I.kIn CT e (λz=>nomatch z) h
 |@lst a xs ea=>cases (show u=Value.ref a from F);obtain⟨_,_,n,_,h1⟩:820:=(show(70,X.w,H,s.heap,a,.lst xs) from(36,a,ea));exact CZ W.kitx_list I.kIn ⟨_,h1,rfl⟩ e (λz=>nomatch z) h
 |@frz a ob xs ea=>cases (show u=Value.ref a from F);obtain⟨_,_,_,n,_,h1⟩:840:=(show(70,X.w,H,s.heap,a,.frz ob (.lst xs)) from(36,a,ea));exact CZ W.kitx_list I.kIn ⟨_,h1,rfl⟩ e (λz=>nomatch z) h
 |@tup a xs ea=>cases (show u=Value.ref a from F);obtain⟨_,_,_,p⟩:420:=(show(70,X.w,H,s.heap,a,.tup xs) from(36,a,ea));obtain⟨o,h1,h2,_⟩:1:=p;exact CZ W.kitx_tuple I.kIn ⟨o,h1,h2⟩ e (λz=>nomatch z) h
 |@dK a kvs ea=>cases (show u=Value.ref a from F);obtain⟨_,_,vs,_,p⟩:440:=(show(70,X.w,H,s.heap,a,.dK kvs) from(36,a,ea));obtain⟨o,es,ep,h1,h2,_⟩:3:=p;exact CZ W.kitx_dict I.kIn ⟨o,h1,h2.1⟩ e (λz=>nomatch z) h
 |@dT a kvs ea=>cases (show u=Value.ref a from F);obtain⟨_,_,xs,_,o,es,ep,h1,h2,_⟩:488440:=(show(70,X.w,H,s.heap,a,.dT kvs) from(36,a,ea));exact CZ W.kitx_dict I.kIn ⟨o,h1,h2.1⟩ e (λz=>nomatch z) h
 |@ins a C dx fs ea cl ha hn htk hm=>cases (show u=Value.ref a from F);obtain⟨mA,O,_⟩:1:=Q5 I.hok ea;obtain⟨od,J,_⟩:1:=O.look;exact CZ (W.kitx_own (cl.get _) cl.hd ha hn htk hm) I.kIn J e (λz=>nomatch z) h
end
structure Room (k:Nat)(A:Around):Prop where
 hd:A.handled=none
 dp:A.depth+3*k+5<recursionLimit
 un:A.units+16*k+200<cLine
 gd:A.guards=some []
theorem Room.mono {j k:Nat}{A:Around}(r:Room k A)(h:j<=k):Room j A:=⟨r.hd,by have:=r.dp;omega,by have:=r.un;omega,r.gd⟩
theorem Room.deeper {k:Nat}{A:Around}(r:Room (k+1) A)(env:Env):Room k (A.deeper env):=
 ⟨r.hd,by have:=r.dp;show A.depth+1+3*k+5<_;omega,by have:=r.un;show A.units+3+16*k+200<_;omega,r.gd⟩
theorem Xq {A:Around}:(A.under (.builtin "type.__call__" ⟨.ref C :: us,kw⟩)).depth=A.depth+1:=by first | rfl | simp[Around.under,Code.weight,Code.isCreation,Code.isGuard,Code.isCaller,Code.frames,Code.isFrame,guardIds]
theorem Xe {A:Around}:(A.under (.builtin "type.__call__" ⟨.ref C :: us,kw⟩)).units=A.units+1:=by first | rfl | simp[Around.under,Code.cUnits,Code.frames,Code.isFrame]
theorem Room.make {k:Nat}{A:Around}(r:Room (k+1) A)(C:Addr)(us:AC)(kw:List (Str×Value)):Room k (A.under (.builtin "type.__call__" ⟨.ref C :: us,kw⟩)):=
 ⟨r.hd,by have:=r.dp;rw[Xq];omega,by have:=r.un;rw[Xe];omega,(by first | exact r.gd | (simpa[Around.under,Code.isGuard,guardIds,pushGuards] using r.gd))⟩
theorem Room.depth {k:Nat}{A:Around}(r:Room k A):A.depth<recursionLimit:=by have:=r.dp;omega
theorem Room.units {k:Nat}{A:Around}(r:Room k A):A.units+64<cLine:=by have:=r.un;omega
noncomputable def aN5:TA:=λ_ H Q=>Q [] H
noncomputable def ah1 (ta:TE)(tr:TA):TA:=fun σ H Q=>ta σ H λx H1=>tr σ H1 λxs H2=>Q (x :: xs) H2
section
variable {es:List Expr}{te:TE}{t:TA}
theorem A2:PA X [] aN5:=λ_ _ _ _ H Q I h=>HS ⟨[],H,I,.nil,h⟩
theorem A1 (ha:PE X e te)(U:PA X es t)(Y:(29,(e :: es))=(false,(s,e)) :: starEach es X.env:=by ac_nf):PA X (e :: es) (ah1 te t):=by intro pos pins s σ H Q I h;rw[Y];show(M,_,_,spliced ((false,(s,e)) :: (55,es)),_,_);refine GG (BD (ha pins s σ H _ I h) λu s1 ⟨x,H1,F,r1,Z⟩=>?_);exact BD (U pos pins s1 σ H1 _ F Z) λus s2 ⟨xs,H2,O,r2,q2⟩=>⟨x :: xs,H2,O,.cons r1 r2,q2⟩
noncomputable def aU8 (t:TA):TE:=fun σ H Q=>t σ H λxs H1=>xs.length<=sizeLine/\∀ p,H1 p=none->(C,p,upd H1 p (.tup xs))
noncomputable def aS5 (t:TA):TE:=fun σ H Q=>t σ H λxs H1=>xs.length<=sizeLine/\∀ p,H1 p=none->(C,p,(S,H1,p,xs))
theorem Ay {x1}(h:PA X es t):PE X (.Tuple es x1 pos) (aU8 t):=by intro pins s σ H Q I U;refine wpAny_Tuple_spliced (BD (h pos pins s σ H _ I U) λus F ⟨xs,H1,O,r,z,q⟩=>⟨by rw[<- r.length];exact z,?_⟩);have hf:H1 F.heap.objs.size=none:=(109,_);refine⟨.ref F.heap.objs.size,upd H1 F.heap.objs.size (.tup xs),O.laid (t':=F.toks) (λb u e=>BH _ e) (BE _) ?_,rfl,q _ hf⟩;exact⟨z,us,r,⟨_,(12,_),rfl,⟨_,rfl⟩,rfl⟩⟩
theorem Bi (h:PA X es t):PE X (.List es pos) (aS5 t):=by intro pins s σ H Q I U;refine wpAny_List_spliced (BD (h pos pins s σ H _ I U) λus F ⟨xs,H1,O,r,z,q⟩=>⟨by rw[<- r.length];exact z,?_⟩);have hf:H1 F.heap.objs.size=none:=(109,_);refine⟨.ref F.heap.objs.size,(S,H1,F.heap.objs.size,xs),O.laid (t':=F.toks) (λb u e=>BH _ e) (BE _) ?_,rfl,q _ hf⟩;exact⟨z,us,0,r,(12,_)⟩
end
noncomputable abbrev Sp:=List V->Hp->VK->XK->Prop
noncomputable abbrev CXT:=List Env->Hp->Shared->XK->Value->Shared->Prop
structure Env0 (P:Program)(w:World)(K:W.Frag)(mg:AH)(base:Heap)(A:Around)(outer:List Env)(s:Shared)(H:Hp):Prop where
 frames:A.frames=some outer
 mod:Mod K mg base
 bs:∀ b o,base.get? b=some o->s.heap.get? b=some o/\H b=none
 bsz:base.objs.size<=s.heap.objs.size
 funs:s.heap.FunFrames base outer
 frf:∀ b∈frs outer,H b=none
 hok:HOk P w H s.heap
 bare:AllBare s.gens
noncomputable def CE (outer:List Env)(P:Program)(w:World)(H:Hp)(s:Shared)(Q:VK)(u:Value)(s':Shared):Prop:=
 ∃ v H',s'.os=s.os/\AllBare s'.gens/\Un (frs outer) [] H H' s.heap s'.heap/\HOk P w H' s'.heap/\(u,v)/\Q v H'
noncomputable def CR (CX:CXT)(outer:List Env)(P:Program)(w:World)(H:Hp)(s:Shared)(Q:VK)(E:XK)(r:Result)(s':Shared):Prop:=
 match r with
 |.ok (.ret u)=>CE outer P w H s Q u s'
 |.ok _=>False
 |.error e=>CX outer H s E e s'
structure FnOk (P:Program)(w:World)(K:W.Frag)(mg:AH)(base:Heap)(CX:CXT)(k:Nat)(f:Addr)(fd:FuncData)(ps:AA)(sp:Sp):Prop where
 len:∀ vs H Q E,sp vs H Q E->vs.length=ps.length
 run:∀(A:Around) (outer:List Env) (s:Shared) (H:Hp) (args:Args) (us:AC) (vs:List V) (Q:VK) (E:XK),Room k A->Env0 P w K mg base A outer s H->BindsTo s fd args (ps.zip us)->(R,vs)->sp vs H Q E ->
  codeAny (16,P) A (.call (.ref f) args) (CR CX outer P w H s Q E) s
theorem Env0.make {w:World}{K:W.Frag}{mg:AH}{base:Heap}{A:Around}{outer:List Env}(e:Env0 P w K mg base A outer s H)(C:Addr)(us:AC)(kw:List (Str×Value)) :
 Env0 P w K mg base (A.under (.builtin "type.__call__" ⟨.ref C :: us,kw⟩)) outer s H:=⟨by first | exact e.frames | (simpa[Around.under,Code.envs,Code.isFrame,pushEnvs] using e.frames),e.mod,e.bs,e.bsz,e.funs,e.frf,e.hok,e.bare⟩
section
variable {σ:St}{s':Shared}
theorem Inv.env0 (I:(4,s)):Env0 X.prog X.w X.K X.mg X.base X.A X.stack s H:=
 ⟨I.ok.frames,I.ok.mod,I.bs,BI I.ok.bsz I.sz,I.stack,I.stkFree,I.hok,I.bare⟩
theorem Inv.after {Q:VK}(I:(4,s))(h:CE X.stack X.prog X.w H s Q u s'):EP X pins σ Q u s':=by obtain⟨v,H',os,bare,un,hok,r,q⟩:2:=h;obtain⟨F,g,d,t,O⟩:=s';obtain rfl:O=s.os:=os;exact⟨v,H',I.call (h':=F) (g':=g) (d':=d) (t':=t) (ch:=[]) un hok bare (λb z=>(65,z)),r,q⟩
end
noncomputable def ah0 (sp:Sp)(dvs:List V)(E:XK)(t:TA):TE:=fun σ H Q=>t σ H λvs H1=>sp (vs++dvs) H1 Q E
noncomputable def aP3 (C:Addr)(m:Str)(sp:Sp)(dvs:List V)(E:XK)(ta:TE)(t:TA):TE:=fun σ H Q=>ta σ H λx H1=>∃ a dx fs,x = .ref a/\H1 a=(47,C,dx,fs)/\fs.lookup m=none /\
 t σ H1 λvs H2=>sp (x :: (vs++dvs)) H2 Q E
noncomputable def aP1 (C:Addr)(sp:Sp)(dvs:List V)(E:XK)(t:TA):TE:=fun σ H Q=>t σ H λvs H1=>∀ x dx,H1 x=none->H1 dx=none->dx≠x ->
 sp (.ref x :: (vs++dvs)) (upd (upd H1 dx (.own x)) x (.ins C dx [])) (λv H2=>v = .non/\(C,x,H2)) E
noncomputable def Binds (K:W.Frag)(fd:FuncData)(ps:AA)(ds:AC):Prop:=
 ∀(s:Shared) (us:AC),K.In s.heap->(us++ds).length=ps.length->BindsTo s fd ⟨us,[]⟩ (ps.zip (us++ds))
theorem Binds.all {K:W.Frag}{fd:FuncData}(h:∀ us:AC,us.length=ps.length->bindArgs fd ⟨us,[]⟩=pure (ps.zip us)):Binds K fd ps []:=λs us _ hl=>by rw[DE] at hl ⊢;exact .of_eq (h us hl)
noncomputable def J6 (CX:CXT)(X:Cx)(E:XK):Prop:=∀(pins:AI) (σ:St) (H:Hp) (s:Shared) (e:Value) (s':Shared),(4,s)->CX X.stack H s E e s'->X.xe e s'
section
variable {CX:CXT}{k:Nat}{f:Addr}{fd:FuncData}{sp:Sp}{dvs:List V}{ds:AC}{E:XK}{m:Str}{p apos:Pos}{o:Expr}{es:List Expr}{ta:TE}{t:TA}
theorem MK {σ:St}{Q:VK}(F:FnOk X.prog X.w X.K X.mg X.base CX k f fd ps sp)(Y:Room k X.A)(hb:(37,X.K,ps,ds))(hd:Vals dvs ds)(Z:J6 CX X E)
 (I:(4,s)) (r:(R,vs)) (h:sp (vs++dvs) H Q E):wpAny ((H,X.w)) X.A (call (.ref f) us) (EP X pins σ Q) X.xe s:=by
 have U:Vals (vs++dvs) (us++ds):=r.append hd;have hl:(us++ds).length=ps.length:=by rw[<- U.length];exact F.len _ _ _ _ h
 refine wpAny_call (codeAny_mono (F.run X.A X.stack s H ⟨us,[]⟩ (us++ds) (vs++dvs) Q E Y I.env0 (hb s us I.kIn hl) U h) λr s' O=>?_)
 cases r with
 |error e=>exact Z pins σ H s e s' I O
 |ok fl=>
   cases fl with
   |ret u=>exact I.after O
   |next=>exact False.elim O
   |brk=>exact False.elim O
   |cont=>exact False.elim O
theorem Zv (F:FnOk X.prog X.w X.K X.mg X.base CX k f fd ps sp)(hr:Room k X.A)(Y:Gl X x)(hm:X.mg x=(3,f))(Z:(V,X.K,f)=true)(hb:(37,X.K,ps,ds))(hd:Vals dvs ds)(hx:J6 CX X E)
 (ha:PA X (e :: es) t) (U:(x==("__debug__":Str))=false:=by decide) (he:(29,(e :: es))=(false,(s,e)) :: starEach es X.env:=by ac_nf) (a0:((55,es)).any (·.1)=false:=by ac_nf) :
 PE X ((60,x,p,(e :: es),[],pos)) (ah0 sp dvs E t):=by
 intro pins s σ H Q I h;refine EK (Mv I Y hm ?_ U);refine HW (h₀:=X.base) I.ok.mod.kin Z (BD (ha pos pins s σ H _ I h) λus s1 ⟨vs,H1,O,r,q⟩=>⟨O.kIn,?_⟩) he a0;exact MK F hr hb hd hx O r q
theorem SN (he:PE X o ta)(c:Cls X.K C)(hm:IK X.K C m f)(F:FnOk X.prog X.w X.K X.mg X.base CX k f fd ps sp)(hr:Room k X.A)(hb:(37,X.K,ps,ds))(hd:Vals dvs ds)(hx:J6 CX X E)(ha:PA X (e :: es) t)
 (a0:(29,(e :: es))=(false,(s,e)) :: starEach es X.env:=by ac_nf) (Z:((55,es)).any (·.1)=false:=by ac_nf)
 (ht:(s,(88,o,m,apos,(e :: es),[],pos))=(do
  let ov <- (s,o)
  standAt apos.atName
  let (f,first) <- holding [ov] (getMethod ov m pl)
  callWith pos f first ((55,(e :: es))) (backToKw pos (keywordEach [] X.env))):=by ac_nf) :
 PE X ((88,o,m,apos,(e :: es),[],pos)) (aP3 C m sp dvs E ta t):=by
 intro pins s σ H Q I h;refine W.methodCall_KW (pl:=pl) (BD (he pins s σ H _ I h) λu s1 ⟨x,H1,O,rx,a,dx,fs,ex,Y,l,q⟩=>?_) ht;subst ex;obtain rfl:u=Value.ref a:=rx;refine Xt O Y c hm l ?_;refine HW (first:=[.ref a]) (h₀:=X.base) I.ok.mod.kin hm.kp (BD (ha pos pins s1 σ H1 _ O q) λus s2 ⟨vs,H2,U,r,q2⟩=>⟨U.kIn,?_⟩) a0 Z
 exact MK (us:=.ref a :: us) (vs:=.ref a :: vs) F hr hb hd hx U (.cons rfl r) q2
structure Mk (K:W.Frag)(C f:Addr):Prop where
 makes:W.makesIn K C=true
 init:(119,K,C) = (18,f)
 fn:(87,K,f)=true
 kp:(V,K,C)=true
theorem TQ {σ:St}{Q:VK}(M:Mk X.K C f)(F:FnOk X.prog X.w X.K X.mg X.base CX k f fd ps sp)(hr:Room (k+1) X.A)(hb:(37,X.K,ps,ds))(hd:Vals dvs ds)
 (hx:J6 CX X E) (I:(4,s)) (r:(R,vs))
 (h:∀ x dx,H x=none->H dx=none->dx≠x->sp (.ref x :: (vs++dvs)) (upd (B,dx,.own x) x (.ins C dx [])) (λv H2=>v = .non/\(C,x,H2)) E) :
 wpAny ((H,X.w)) X.A (call (.ref C) us) (EP X pins σ Q) X.xe s:=by
 have Y:=h (s.heap.objs.size+1) s.heap.objs.size (I.hok.fresh (EZ _)) (61,_) (BN (FO _));have U:=Inv.made (C:=C) I;have Z:Vals (V.ref (s.heap.objs.size+1) :: (vs++dvs)) (Value.ref (s.heap.objs.size+1) :: (us++ds)):=.cons rfl (r.append hd)
 have hl:(Value.ref (s.heap.objs.size+1) :: us++ds).length=ps.length:=by have e:=Z.length;rw[F.len _ _ _ _ Y] at e;exact e.symm
 refine wpAny_call (RY (f:=f) I.kIn M.makes M.init (A2Y.mp M.fn) (codeAny_mono (F.run _ X.stack _ _ ⟨Value.ref (s.heap.objs.size+1) :: us,[]⟩ (Value.ref (s.heap.objs.size+1) :: (us++ds)) _ _ E (hr.make C us [])
  (U.env0.make C us []) (hb _ (Value.ref (s.heap.objs.size+1) :: us) U.kIn hl) Z Y) λr s' O=>?_))
 cases r with
 |error e=>exact hx pins σ _ _ e s' U O
 |ok fl=>
   cases fl with
   |ret u=>obtain⟨v,H',I3,rv,ev,q3⟩:2:=U.after O;subst ev;exact⟨rv,⟨V.ref (s.heap.objs.size+1),H',I3,rfl,q3⟩⟩
   |next=>exact False.elim O
   |brk=>exact False.elim O
   |cont=>exact False.elim O
theorem RU (M:Mk X.K C f)(F:FnOk X.prog X.w X.K X.mg X.base CX k f fd ps sp)(hr:Room (k+1) X.A)(Y:Gl X x)(hm:X.mg x=(3,C))(hb:(37,X.K,ps,ds))(hd:Vals dvs ds)(hx:J6 CX X E)
 (ha:PA X (e :: es) t) (U:(x==("__debug__":Str))=false:=by decide) (he:(29,(e :: es))=(false,(s,e)) :: starEach es X.env:=by ac_nf) (Z:((55,es)).any (·.1)=false:=by ac_nf) :
 PE X ((60,x,p,(e :: es),[],pos)) (aP1 C sp dvs E t):=by
 intro pins s σ H Q I h;refine EK (Mv I Y hm ?_ U);refine HW (h₀:=X.base) I.ok.mod.kin M.kp (BD (ha pos pins s σ H _ I h) λus s1 ⟨vs,H1,O,r,q⟩=>⟨O.kIn,?_⟩) he Z;exact TQ M F hr hb hd hx O r q
end
structure Ah (N P:AA)(sc:Scope):Prop where
 kind:sc.kind = .function
 co:sc.isCoroutine=false
 gen:sc.isGenerator=false
 nd:N.Nodup
 pre:N.take P.length=P
 par:∀ x∈P,sc.names.lookup x=some .local\/sc.names.lookup x=some .cell
 nofree:∀ y∈sc.names,y.2 ≠ .free
theorem Sd {kindOf:Str->Option NameKind}{x:Str}:∀ {binds:List (Str×Value)} {m:AH},(∀ v,(x,v)∉binds)->bindL kindOf binds m x=m x
 | [],_,_=>rfl
 | (n,v) :: r,m,h=>by
   unfold bindL;rw[Sd λw F=>h w (BP _ F)]
   split
   . have:x≠n:=by rintro rfl;exact h v BQ
     simp[this]
   rfl
theorem Ts {kindOf:Str->Option NameKind}{x:Str}:∀ {binds:List (Str×Value)} {m:AH},(∀ v,(x,v)∉binds)->bindC kindOf binds m x=m x
 | [],_,_=>rfl
 | (n,v) :: r,m,h=>by
   unfold bindC;rw[Ts λw F=>h w (BP _ F)]
   split
   . rfl
   have:x≠n:=by rintro rfl;exact h v BQ
   simp[this]
theorem Sl {kindOf:Str->Option NameKind} {x:Str} {v:Value}:∀ {P:AA} {vs:AC} {i:Nat} {m:AH},P.Nodup->P[i]? = some x->vs[i]? = some v->kindOf x=some .local ->
 bindL kindOf (P.zip vs) m x=some v
 | [],_,_,_,_,h,_,_=>by simp at h
 |_ :: _,[],_,_,_,_,h,_=>by simp at h
 |p :: P,w :: vs,0,m,nd,h1,h2,hk=>by simp at h1 h2;subst h1;subst h2;show bindL kindOf ((p,w) :: P.zip vs) m p=_;unfold bindL;rw[Sd λv F=>(A0W.mp nd).1 (FW F).1,BB hk];simp
 |p :: P,w :: vs,i+1,m,nd,h1,h2,hk=>by show bindL kindOf ((p,w) :: P.zip vs) m x=_;unfold bindL;exact Sl (i:=i) (List.nodup_cons.mp nd).2 (by simpa using h1) (by simpa using h2) hk
theorem Td {kindOf:Str->Option NameKind} {x:Str} {v:Value}:∀ {P:AA} {vs:AC} {i:Nat} {m:AH},P.Nodup->P[i]? = some x->vs[i]? = some v->kindOf x≠some .local ->
 bindC kindOf (P.zip vs) m x=some v
 | [],_,_,_,_,h,_,_=>by simp at h
 |_ :: _,[],_,_,_,_,h,_=>by simp at h
 |p :: P,w :: vs,0,m,nd,h1,h2,hk=>by simp at h1 h2;subst h1;subst h2;show bindC kindOf ((p,w) :: P.zip vs) m p=_;unfold bindC;rw[Ts λv F=>(A0W.mp nd).1 (FW F).1,AZ hk];simp
 |p :: P,w :: vs,i+1,m,nd,h1,h2,hk=>by show bindC kindOf ((p,w) :: P.zip vs) m x=_;unfold bindC;exact Td (i:=i) (List.nodup_cons.mp nd).2 (by simpa using h1) (by simpa using h2) hk
noncomputable def start (N:AA)(vs:List V):St:=vs.map some++(30,(N.length-vs.length))
noncomputable def Y1 (CX:CXT)(P:Program)(w:World)(K:W.Frag)(mg:AH)(base:Heap)(N:AA)(qual:Str)(scope:Scope)(f:Addr)(cd:Value)(A:Around)(outer:List Env)(s:Shared)(H:Hp)(E:XK):Cx where
 prog:=P
 w:=w
 K:=K
 mg:=mg
 base:=base
 A:=A.deeper (96,qual,scope,f,cd)
 N:=N
 s₀:=s
 H₀:=H
 env:=(96,qual,scope,f,cd)
 outer:=outer
 stack:=envOfC qual scope s.heap.objs.size f cd :: outer
 ex:=[]
 calm:=true
 fn:=λ_=>true
 pn:=[]
 xe:=λe s'=>wpAny (16,P) (A.deeper (96,qual,scope,f,cd)) (leaving (96,qual,scope,f,cd) e) (λ_ s''=>CX outer H s E e s'') (λe' s''=>CX outer H s E e' s'') s'
theorem Vi {sc:Scope}{n:Nat}(h:sc.names.lookup x=some .cell):∃ c,(cellsFrom n sc.names []).lookup x=some c:=by have q:=W.cellsFrom_some sc.names n [] (.inl h);exact Option.isSome_iff_exists.mp q
theorem Z1 {CX:CXT}{w:World}{K:W.Frag}{mg:AH}{base:Heap}{N:AA}{qual:Str}{scope:Scope}{f:Addr}{cd:Value}{A:Around}{outer:List Env}{s1:Shared}{E:XK}
 (S:Ah N ps scope) (hd:A.handled=none) (F:Env0 P w K mg base A outer s H) (hl:vs.length=ps.length) (r:(R,vs))
 (x:InCallC s s.heap.objs.size (bindL ((96,qual,scope,f,cd)).kindOf (ps.zip us) λ_=>none) (42,(s.heap.objs.size+1),[]) (bindC ((96,qual,scope,f,cd)).kindOf (ps.zip us) λ_=>none) s1) :
 Inv ((72,CX,P,w,K,mg,N,scope,f,cd,A,s,H,E)) [] (start N vs) H s1:=by
 have a0:ps.length<=N.length:=by have:=congrArg List.length S.pre;rw[CD] at this;omega
 obtain⟨h1,tk,rfl,Y⟩:2:=x.done;have U:∀ b:Addr,b∉((72,CX,P,w,K,mg,N,scope,f,cd,A,s,H,E)).ex:=λb z=>(65,(show b∈([]:AF) from z))
 refine⟨⟨F.mod,S.kind,rfl,rfl,BE _,λy z c h1 h2=>?_,λy O=>?_,λy c _ h=>?_,λ_=>hd,Around.frames_deeper F.frames,.inr ⟨rfl,rfl⟩,λb z=>absurd z (U b),F.bs,F.bsz,λb _ _=>U b,λb z=>absurd z (U b),F.funs,F.frf⟩,
  rfl,F.bare,Un.kept Y,⟨_,x.toInCall.ns,λi y v h1 h2 h3=>?_⟩,λy c h=>⟨_,x.cell y c h⟩,F.hok.fresh (Nat.le_refl _),λy c h=>?_,λp hp=>(65,(show p∈([]:AI) from hp)),F.hok.kept Y,?_⟩
 . exact name_of_addr x.apart (FR h1) (FR h2)
 . have O:scope.names.lookup y=some .cell\/scope.names.lookup y=some .free:=O;rcases O with O|O
   . exact Vi O
   exact(71,S.nofree _ (FR O))
 . exact DM (x.above y c (FR h))
 . have hi:i<vs.length:=by
    unfold start at h2
    by_cases hi:i<vs.length
    . exact hi
    rw[List.getElem?_append_right (by simpa using hi)] at h2;rw[JO] at h2
    split at h2<;>cases h2
   have ha:vs[i]? = some v:=by
    unfold start at h2;rw[List.getElem?_append_left (by simpa using hi),List.getElem?_map] at h2
    cases e:vs[i]? with
    |none=>rw[e] at h2;cases h2
    |some a=>rw[e] at h2;cases h2;rfl
   obtain⟨u,hu,rv⟩:1:=r.get ha
   have hp:ps[i]? = some y:=by rw[<- S.pre,List.getElem?_take_of_lt ∅];exact h1
   have Z:ps.Nodup:=by rw[<- S.pre];exact S.nd.sublist (IR _ _)
   refine⟨u,rv,?_⟩;rcases S.par y (BG hp) with k|k
   . exact .inl ⟨k,Sl Z hp hu k⟩
   obtain⟨c,e⟩:=Vi (n:=s.heap.objs.size+1) k;refine .inr ⟨.inl k,c,e,?_⟩;have q:=x.cell y c e;rw[Td Z hp hu (by show scope.names.lookup y≠_;rw[k];decide)] at q;exact q
 . exact F.hok.fresh (DM (x.above y c (FR h)))
 unfold start;show _=N.length;rw[BL,BA,FS];omega
theorem JQ {CX:CXT}{w:World}{K:W.Frag}{mg:AH}{base:Heap}{k:Nat}{f:Addr}{name qual:Str}{a2:Arguments}{scope:Scope}{dV kV a0 pm F ct oc:Value}{an od:Option Addr}
 {osl:(121,Value)} {N:AA} {sp:Sp} (lk:K.lookup f=some ⟨oc,od,.func (W.fnOf name qual a2 body scope dV kV a0 pm an F ct),osl⟩) (a4:(73,F,qual)=true) (S:Ah N ps scope)
 (len:∀ vs H Q E,sp vs H Q E->vs.length=ps.length)
 (a3:∀(A:Around) (outer:List Env) (s:Shared) (H:Hp) (vs:List V) (Q:VK) (E:XK),Room k (A.deeper (96,qual,scope,f,F))->sp vs H Q E ->
  ∃ t,PSs (72,CX,P,w,K,mg,N,scope,f,F,A,s,H,E) body t/\t {nx:=λ_ H'=>Q .non H',rt:=Q} (start N vs) H) :
 FnOk P w K mg base CX (k+1) f (W.fnOf name qual a2 body scope dV kV a0 pm an F ct) ps sp:=by
 refine⟨len,λA outer s H args us vs Q E Y U hb r a1=>?_⟩;have hl:=len _ _ _ _ a1;have KX:K.In s.heap:=U.mod.kin.keeps λb o e=>(U.bs b o e).1;have a6:s.heap.NoLimit:=U.mod.nolimit.keeps λb o e=>(U.bs b o e).1
 have a5:∀ y∈ps.zip us,scope.names.lookup y.1=some .local\/(scope.names.lookup y.1=some .cell/\(((42,(s.heap.objs.size+1),[])).lookup y.1).isSome=true):=λ⟨n,v⟩ hy=>by
  rcases S.par n (FW hy).1 with q|q
  . exact .inl q
  exact .inr ⟨q,W.cellsFrom_some _ _ _ (.inl q)⟩
 refine codeAny_call_function Y.depth (KX _ _ lk) rfl S.co S.gen rfl (W.codeRec_of KX a4) (hb _ _ _ _ ?_);refine wpAny_newFunctionEnv_cells S.kind a5 λenv he s1 x=>?_;subst he;refine⟨a6.keeps x.toInCall.keep,codeAny_func ?_⟩;obtain⟨t,ht,hq⟩:1:=a3 A outer s H vs Q E (Y.deeper _) a1;have I:Inv ((72,CX,P,w,K,mg,N,scope,f,F,A,s,H,E)) [] (start N vs) H s1:=Z1 S Y.hd U hl r x;refine DB (ht [] s1 (start N vs) H _ I hq) (λfl s' O=>?_) λe s' O=>O
 have fin:∀ {σ':St} {H':Hp} {v:V} {u:Value},Inv (72,CX,P,w,K,mg,N,scope,f,F,A,s,H,E) [] σ' H' s'->(u,v)->Q v H'->CE outer P w H s Q u s':=
  fun {σ' H' v u} J Z q=>⟨v,H',J.os,J.bare,J.base,J.hok,Z,q⟩
 cases fl with
 |ret u=>obtain⟨v,σ',H',J,Z,q⟩:3:=O;exact fin J Z q
 |next=>obtain⟨σ',H',J,q⟩:2:=O;exact fin (v:=V.non) (u:=Value.none) J rfl q
 |brk=>obtain⟨_,_,_,q⟩:2:=O;exact False.elim q
 |cont=>obtain⟨_,_,_,q⟩:2:=O;exact False.elim q
section
variable {p:Pos}{es:List Expr}{t:TA}{id T:String}{r:List V->Hp->VK->Prop}
noncomputable def tCB (r:List V->Hp->VK->Prop)(t:TA):TE:=fun σ H Q=>t σ H λvs H1=>r vs H1 Q
theorem Ai (O:CallR X (.builtin id) r)(Y:Gl X x)(hm:X.mg x=none)(hv:bootBuiltins x=some (.builtin id))(ha:PA X (e :: es) t)(hn:x ≠ "__name__":=by decide)(U:(x==("__debug__":Str))=false:=by decide)
 (he:(29,(e :: es))=(false,(s,e)) :: starEach es X.env:=by ac_nf) (Z:((55,es)).any (·.1)=false:=by ac_nf):PE X ((60,x,p,(e :: es),[],pos)) (tCB r t):=by
 intro pins s σ H Q I h;refine EK (Ka I Y hm hv ?_ hn U);exact PyProof.Rows.callWith_builtin1 (BD (ha pos pins s σ H _ I h) λus s1 ⟨vs,H1,F,r1,q1⟩=>O pins s1 σ H1 vs us Q F r1 q1) he Z
theorem Az (O:CallR X (.type T) r)(Y:Gl X x)(hm:X.mg x=none)(hv:bootBuiltins x=some (.type T))(ha:PA X (e :: es) t)(hn:x ≠ "__name__":=by decide)(U:(x==("__debug__":Str))=false:=by decide)
 (he:(29,(e :: es))=(false,(s,e)) :: starEach es X.env:=by ac_nf) (Z:((55,es)).any (·.1)=false:=by ac_nf):PE X ((60,x,p,(e :: es),[],pos)) (tCB r t):=by
 intro pins s σ H Q I h;refine EK (Ka I Y hm hv ?_ hn U);exact FA (BD (ha pos pins s σ H _ I h) λus s1 ⟨vs,H1,F,r1,q1⟩=>O pins s1 σ H1 vs us Q F r1 q1) he Z
end
end L2
namespace HT
open PySem PyProof.Rows
section
open PySem.SeqAt
open PySem.AutoSeq1 (wpAny_loadPart')
open PySem.MeetsSeq PySem.MeetsSeq2 PySem.MeetsSeq3
end
section
variable {prog:Program}{w:World}{A:Around}{E:AG}{s:Shared}
theorem cat_tup {t b:Addr}{vs ws:AC}{Q:AG}(ht:IsTup s.heap t vs.toArray)(hb:IsTup s.heap b ws.toArray)(hv:vs≠[])
 (h1:ws=[]->(C,t,s)) (h2:ws≠[]->Q (.ref s.heap.objs.size) {s with heap:=s.heap.push {cls:=.type "tuple",data:=.seq (vs++ws).toArray}})
 (hsz:vs.length+ws.length<=sizeLine):wpAny ((G,w)) A (binaryOp .Add (.ref t) (.ref b)) Q E s:=by
 obtain⟨⟨cls,Z,data,sl⟩,O,hc,n,hd⟩:441:=id ht;obtain⟨⟨a4,a0,data2,a3⟩,U,a1,n2,a2⟩:441:=id hb;simp only at hc hd a1 a2;subst hc hd a1 a2;have e:vs.toArray++ws.toArray=(vs++ws).toArray:=by simp
 by_cases Y:ws=[]
 . exact concat_meets ⟨_,O,rfl⟩ ⟨_,U,rfl⟩ noFill_tuple_add seq_tuple_add PySem.F.slot_tuple_add PySem.F.entry_tuple_add (PySem.F.args_tuple_add_2 _ _)
    (tuple_addW1 t b vs.toArray ws.toArray n n2 Z a0 sl a3 (by simpa using hv) (by simp[Y])) ⟨O,U,h1 Y⟩
 refine concat_meets ⟨_,O,rfl⟩ ⟨_,U,rfl⟩ noFill_tuple_add seq_tuple_add PySem.F.slot_tuple_add PySem.F.entry_tuple_add (PySem.F.args_tuple_add_2 _ _)
  (tuple_addW2 t b vs.toArray ws.toArray n n2 Z a0 sl a3 (by simpa using hv) (by simpa using Y) (by rw[List.size_toArray,List.size_toArray];exact hsz)) ⟨O,U,?_⟩
 rw[e];exact h2 Y
noncomputable def sIx (n d:Nat):Option Int->Nat
 |none=>d
 |some v=>if v<0 then(v+(n:Int)).toNat else min v.toNat n
theorem sIx_none (n d:Nat):sIx n d none=d:=rfl
theorem sIx_nat (n d k:Nat):sIx n d (some (k:Int))=min k n:=by
 show(if(k:Int)<0 then((k:Int)+(n:Int)).toNat else min (k:Int).toNat n)=min k n
 rw [AZ ∅,Int.toNat_natCast]
theorem QS (n d:Nat)(hd:d<=n)(o:Option Int):sIx n d o<=n:=by
 cases o with
 |none=>exact hd
 |some v=>
   show(if v<0 then(v+(n:Int)).toNat else min v.toNat n)<=n
   by_cases F:v<0
   . rw[BB F];omega
   rw[AZ F];exact GQ _ _
theorem OD (v:Int)(n d:Nat):(if v<0 then max (v+(n:Int)) 0 else min v (n:Int))=((sIx n d (some v):Nat):Int):=by
 show(if v<0 then max (v+(n:Int)) 0 else min v (n:Int))=(((if v<0 then(v+(n:Int)).toNat else min v.toNat n):Nat):Int)
 by_cases F:v<0
 . simp only[if_pos F];omega
 simp only[if_neg F];omega
theorem Xw (lo hi:Option Int)(n:Nat):Builtin.Slice.sliceAdjust lo hi 1 (n:Int)=(((sIx n 0 lo:Nat):Int),((sIx n n hi:Nat):Int)):=by
 have h1:¬ ((1:Int)<0):=by omega
 unfold Builtin.Slice.sliceAdjust;simp only[h1,if_false];refine Prod.ext ?_ ?_
 . cases lo with
   |none=>rfl
   |some v=>exact OD v n 0
 cases hi with
 |none=>rfl
 |some v=>exact OD v n n
theorem Xc (i j:Nat):Builtin.Slice.slicePlaces (i:Int) (j:Int) 1=j-i:=by
 unfold Builtin.Slice.slicePlaces;have h1:(1:Int)>0:=by omega
 simp only[h1,if_true,Int.ediv_one]
 split<;>omega
theorem slicePart_ {v:Value}{o:Option Int}{Q:Option Int->Shared->Prop}(p:IsPart v o)(h:Q o s):wpAny ((G,w)) A (Builtin.Slice.slicePartIndex v) Q E s:=by
 cases p with
 |none=>exact slicePart_none h
 |int i t=>exact slicePart_int h
theorem sliceApplied_gen {Z:Addr}{U Y:Value}{lo hi:Option Int}{n:Nat}{Q:Int×Int×Nat->Shared->Prop}(hs:s.heap.IsSliceOf Z U Y .none)(pl:IsPart U lo)(pu:IsPart Y hi)
 (h:Q (((sIx n 0 lo:Nat):Int),1,sIx n n hi-sIx n 0 lo) s):wpAny ((G,w)) A (Builtin.Slice.sliceApplied (.ref Z) (pure (n:Int))) Q E s:=by
 obtain⟨os,O,a0,F⟩:1:=id hs;unfold Builtin.Slice.sliceApplied Builtin.Slice.sliceFields;refine AY (AY (CW O F (x:=U) rfl (AY (CW O F (x:=Y) rfl (AY (CW O F (x:=.none) rfl (BC ?_)))))));refine AY (slicePart_none ?_);show(M,_,_,(if((1:Int)==0)=true then _ else _),_,_)
 rw[AZ nofun];refine AY (slicePart_ pl (AY (slicePart_ pu (19,?_))));show(M,_,_,(match Builtin.Slice.sliceAdjust lo hi 1 (n:Int) with | (lo,hi)=>pure (lo,(1:Int),Builtin.Slice.slicePlaces lo hi 1)),_,_)
 rw[Xw lo hi n];show(M,_,_,pure (((sIx n 0 lo:Nat):Int),(1:Int),Builtin.Slice.slicePlaces ((sIx n 0 lo:Nat):Int) ((sIx n n hi:Nat):Int) 1),_,_);rw[Xc];exact BC h
theorem XV (xs:Array Value)(i k:Nat):((List.range k).filterMap λ(m:Nat)=>xs[((i:Int)+(m:Int)*1).toNat]?).toArray=((xs.toList.drop i).take k).toArray:=by
 have e:(λ(m:Nat)=>xs[((i:Int)+(m:Int)*1).toNat]?)=λm=>xs[i+m]?:=by
  funext m;have:((i:Int)+(m:Int)*1).toNat=i+m:=by omega
  rw[this]
 rw[e];have:=pick_run xs i k;rw[List.filterMap_map] at this;have F:((λx=>xs[x]?)∘λx=>i+x)=λm=>xs[i+m]?:=rfl;rw[F] at this;rw[this]
theorem getItem_tuple_cut {t U:Addr}{items:Array Value}{Z vu:Value}{lo hi:Option Int}{Q:AG}(F:IsTup s.heap t items)(Y:s.heap.IsSliceOf U Z vu .none)(pl:IsPart Z lo)(pu:IsPart vu hi)
 (hw:¬ ((97,0,lo)=0/\(122,hi)=items.size))
 (h:Q (.ref s.heap.objs.size) {s with heap:=s.heap.push {cls:=.type "tuple",data:=.seq ((items.toList.drop (97,0,lo)).take ((122,hi)-(97,0,lo))).toArray}})
 (hsz:items.size<=sizeLine):wpAny ((G,w)) A (getItem (.ref t) (.ref U)) Q E s:=by
 have O:sizeOk (.seq ((items.toList.drop (97,0,lo)).take ((122,hi)-(97,0,lo))).toArray):=by show((items.toList.drop (97,0,lo)).take ((122,hi)-(97,0,lo))).toArray.size<=sizeLine;rw[CB,CD,CL,HD];omega
 have hj:(122,hi)<=items.size:=QS _ _ (BE _) hi;obtain⟨os,a3,a1,a4⟩:1:=id Y;have a0:s.TypeIs (.ref U) "slice":=⟨os,a3,a1⟩;unfold getItem
 try with_reducible refine DF ?_
 first | refine(19,?_) | skip
 refine AY (IL F.typeIs nofun ?_)
 refine AY (FG (name:=Str.ofString "__getitem__") F.typeIs DZ
  (ET DZ F.typeIs HI ?_ (IA _ _)))
 show(M,_,_,(Builtin.Tuple.tupleItemsOf (.ref t) >>= _),_,_);refine AY (FY F ?_);refine AY (DT a0 ?_);rw[BB nofun];refine AY (sliceApplied_gen Y pl pu ?_)
 have a2:¬ ((((sIx items.size 0 lo:Nat):Int)==0&&(1:Int)==1&&((122,hi)-(97,0,lo))==items.size)=true):=by intro q;rw[CA,CA] at q;have q1:((sIx items.size 0 lo:Nat):Int)=0:=eq_of_beq q.1.1;have q2:(122,hi)-(97,0,lo)=items.size:=eq_of_beq q.2;exact hw ⟨by omega,by omega⟩
 show(M,_,_,(if(((sIx items.size 0 lo:Nat):Int)==0&&(1:Int)==1&&((122,hi)-(97,0,lo))==items.size)=true then _ else _),_,_)
 rw[AZ a2,XV]
 first
  |exact(89,BC ⟨_,rfl,BC h⟩,O)
  |exact(89,(19,BC ⟨_,rfl,BC h⟩),O)
  |exact AY (89,BC (BC ⟨_,rfl,BC h⟩),O)
  |exact AY (89,BC ⟨_,rfl,BC h⟩,O)
end
end HT
namespace L2
open PySem PySem.Spec PyProof.Rows
variable {a:Addr}{X:Cx}{H H':Hp}{pins:AI}{kvs:List (List Key×V)}{xs:List V}{us its:AC}{t':Nat}{pos:Pos}{P:Program}{s:Shared}{y x:V}{u:Value}{Q:AG}
noncomputable abbrev TO:=St->Hp->(Option Int->Hp->Prop)->Prop
noncomputable def PO (X:Cx)(e:Option Expr)(t:TO):Prop:=
 ∀(pins:AI) (s:Shared) (σ:St) (H:Hp) (Q:Option Int->Hp->Prop),(4,s)->t σ H Q ->
  (35,evalPart e X.env,(λu s'=>∃ o H',(T,X,σ,H',s')/\IsPart u o/\Q o H'))
noncomputable def a07:TO:=λ_ H Q=>Q none H
noncomputable def aG8 (t:TE):TO:=fun σ H Q=>t σ H λx H1=>∃ i,x = .int i/\Q (some i) H1
section
variable {e:Expr}{te:TE}{lo hi:Option Expr}{tl th:TO}{p2:Pos}
theorem Ck:PO X none a07:=by intro pins s σ H Q I h;rw[GF];exact BC ⟨none,H,I,.none,h⟩
theorem Bd (h:PE X e te):PO X (some e) (aG8 te):=by intro pins s σ H Q I O;rw[IV];refine BD (h pins s σ H _ I O) λu Z ⟨x,H1,F,Y,U⟩=>?_;obtain⟨i,rfl,q⟩:1:=U;obtain⟨t,rfl⟩:=Y;exact⟨some i,H1,F,.int i t,q⟩
noncomputable def SlR (X:Cx)(r:V->Option Int->Option Int->Hp->VK->Prop):Prop:=
 ∀(pins:AI) (s:Shared) (σ:St) (H:Hp) (x:V) (v vl vu:Value) (lo hi:Option Int) (sl:Addr) (Q:VK),(4,s)->RelV x v->s.heap.IsSliceOf sl vl vu .none->IsPart vl lo->IsPart vu hi->r x lo hi H Q ->
  ∃ T id,typeLookup (.type T) "__getitem__" = pure (some (.builtin id))/\s.TypeIs v T/\(35,getItem v (.ref sl),EP X pins σ Q)
theorem SlR.or {r U:V->Option Int->Option Int->Hp->VK->Prop}(h:SlR X r)(h':SlR X U):SlR X (λx lo hi H Q=>r x lo hi H Q\/U x lo hi H Q):=by
 intro pins s σ H x v vl vu lo hi Z Q I Y F pl O q;rcases q with q|q
 . exact h pins s σ H x v vl vu lo hi Z Q I Y F pl O q
 exact h' pins s σ H x v vl vu lo hi Z Q I Y F pl O q
noncomputable def tSl (r:V->Option Int->Option Int->Hp->VK->Prop)(te:TE)(tl th:TO):TE:=fun σ H Q=>te σ H λx H1=>tl σ H1 λl H2=>th σ H2 λu H3=>r x l u H3 Q
theorem B8 {r:V->Option Int->Option Int->Hp->VK->Prop}(hr:SlR X r)(he:PE X e te)(hl:PO X lo tl)(hu:PO X hi th):PE X (.Subscript e (.Slice lo hi none p2) pos) (tSl r te tl th):=by
 intro pins s σ H Q I h;refine FH (BD (he pins s σ H _ I h) λv s1 ⟨x,H1,Z,r1,q1⟩=>?_);refine wpAny_Slice (BD (hl pins s1 σ H1 _ Z q1) λO s2 ⟨l,H2,I2,pl,q2⟩=>BD (hu pins s2 σ H2 _ I2 q2) λU F ⟨u,Y,I3,pu,q3⟩=>?_);rw[GF];refine BC ?_;have I4:Inv X pins σ Y {F with heap:=F.heap.push {cls:=.type "slice",data:=.fields #[O,U,.none]}}:=I3.kept (t':=F.toks) λb ob q=>BH _ q
 obtain⟨T,id,hT,ht,hg⟩:2:=hr pins {F with heap:=F.heap.push {cls:=.type "slice",data:=.fields #[O,U,.none]}} σ Y x v O U l u F.heap.objs.size Q I4 r1 (IU ..) pl pu q3
 show wpAny ((H,X.w)) X.A (subscriptTail e (.Slice lo hi none p2) v (.ref F.heap.objs.size)) (EP X pins σ Q) X.xe {F with heap:=F.heap.push {cls:=.type "slice",data:=.fields #[O,U,.none]}}
 exact tail_any (ops:=[.ref F.heap.objs.size,v]) ht hT hg ⋯
noncomputable def Mi (xs:List V)(lo hi:Option Int):List V:=(xs.drop (79,0,lo)).take ((123,hi)-(79,0,lo))
theorem Ga (xs:List V)(lo hi:Option Int):(Mi xs lo hi).length<=xs.length:=by unfold Mi;rw[CD,CL];omega
noncomputable def aU2 (K:W.Frag):V->Option Int->Option Int->Hp->VK->Prop:=λx lo hi H Q=>∃ a xs,x = .ref a/\(A,xs) /\
 ¬ ((79,0,lo)=0/\(123,hi)=xs.length)/\∀ p,H p=none->(C,p,(66,p,Mi xs lo hi))
theorem sl_tup:SlR X (aU2 X.K):=by
 intro pins s σ H x v vl vu lo hi sl Q I rx U pl pu h;obtain⟨a,xs,rfl,Z,Y,q⟩:2:=h
 cases rx;obtain⟨its,r,O,hz⟩:1:=I.tuple Z;have F:its.toArray.size=xs.length:=by rw[CB];exact r.length.symm
 refine⟨"tuple",_,PyProof.Rows.slot_tuple_getitem.lookup,O.typeIs,?_⟩;refine HT.getItem_tuple_cut O U pl pu (by rw[F];exact Y) ?_ (by rw[F];exact hz);rw[F];refine⟨.ref s.heap.objs.size,_,I.laid (t':=s.toks) (o:=.tup (Mi xs lo hi)) (λb ob q=>BH _ q) (BE _) ?_,rfl,q _ (61,_)⟩;exact⟨BI (Ga xs lo hi) hz,_,(r.drop (79,0,lo)).take ((123,hi)-(79,0,lo)),IsTupN.new _ _⟩
noncomputable def aD3 (K:W.Frag):R2:=λx y H Q=>∃ a b xs ys,x = .ref a/\y = .ref b/\(A,xs)/\SqT K H b ys/\xs≠[]/\xs.length+ys.length<=sizeLine /\
 (ys=[]->(C,a,H))/\(ys≠[]->∀ p,H p=none->(C,p,(66,p,(xs++ys))))
theorem Vals.nil_iff (r:(R,xs)):us=[]↔xs=[]:=by
 cases r with
 |nil=>simp
 |cons _ _=>simp
theorem op_catT:OpR X (binaryOp .Add) (aD3 X.K):=by
 intro pins s σ H x y v u Q I rx ry h;obtain⟨a,b,xs,ys,rfl,rfl,ha,hb,U,hz,Y,Z⟩:4:=h
 cases rx
 cases ry;obtain⟨its,O,p1,_⟩:1:=I.tuple ha;obtain⟨a0,F,p2,_⟩:1:=I.tuple hb;refine HT.cat_tup p1 p2 (λz=>U (O.nil_iff.mp z)) (λz=>⟨.ref a,H,I,rfl,Y (F.nil_iff.mp z)⟩) (λz=>?_) (by rw[<- O.length,<- F.length];exact hz);refine⟨.ref s.heap.objs.size,_,I.laid (t':=s.toks) (o:=.tup (xs++ys)) (λb ob q=>BH _ q) (BE _) ?_,rfl,Z (λw=>z (F.nil_iff.mpr w)) _ (61,_)⟩;exact⟨by rw[BL];exact hz,_,O.append F,IsTupN.new _ _⟩
end
noncomputable def ixN (n:Nat)(i:Int):Option Nat:=if 0<=i then(if i<n then some i.toNat else none) else if -(n:Int)<=i then some (i+n).toNat else none
noncomputable def atI {α:Type}(xs:List α)(i:Int):Option α:=(ixN xs.length i).bind λj=>xs[j]?
theorem Zj {n:Nat}{i:Int}{j:Nat}(h:ixN n i=some j):seqIndex? i n=some j/\j<n /\ -(n:Int)<=i/\i<n:=by
 unfold ixN at h
 by_cases F:0<=i
 . rw[BB F] at h
   by_cases h1:i<n
   . rw[BB h1] at h;have e:i.toNat=j:=BR h;exact⟨by rw[seqIndex_of F h1,e],by omega,by omega,h1⟩
   rw[AZ h1] at h;cases h
 rw[AZ F] at h
 by_cases h1:-(n:Int)<=i
 . rw[BB h1] at h;have e:(i+n).toNat=j:=BR h;exact⟨by rw[seqIndex_neg ∅ h1,e],by omega,h1,by omega⟩
 rw[AZ h1] at h;cases h
theorem Rg {α:Type} {xs:List α} {i:Int} {v:α} (h:atI xs i=some v):∃ j,seqIndex? i xs.length=some j/\xs[j]? = some v/\j<xs.length /\ -(xs.length:Int)<=i/\i<xs.length:=by
 unfold atI at h
 cases e:ixN xs.length i with
 |none=>rw[e] at h;cases h
 |some j=>rw[e] at h;obtain⟨h1,h2,F,O⟩:0:=Zj e;exact⟨j,h1,h,h2,F,O⟩
theorem Ci {α:Type}{xs:List α}{j:Nat}{v:α}(h:xs[j]? = some v):atI xs (j:Int)=some v:=by
 have F:j<xs.length:=(A01.mp h).1
 have e:ixN xs.length (j:Int)=some j:=by unfold ixN;rw[if_pos ∅,if_pos ∅];simp
 unfold atI;rw[e];exact h
noncomputable def ap4 (b:Expr):Prop:=∀ o i,subscripted b false o i=operate [o,i] (getItem o i)
noncomputable def IxR (X:Cx)(r:R2):Prop:=
 ∀(value slice:Expr) (pins:AI) (s:Shared) (σ:St) (H:Hp) (x y:V) (v u:Value) (Q:VK),(4,s)->RelV x v->(u,y)->r x y H Q ->
  subscripted slice false v u=operate [v,u] (getItem v u)->(35,subscriptTail value slice v u,EP X pins σ Q)
noncomputable def MtR (X:Cx)(id:String)(r:V->List V->Hp->VK->Prop):Prop:=
 ∀(pins:AI) (s:Shared) (σ:St) (H:Hp) (x:V) (xs:List V) (v:Value) (us:AC) (Q:VK),(4,s)->RelV x v->(R,xs)->r x xs H Q ->
  (35,(95,id,(v :: us)),EP X pins σ Q)
section
variable {a b:Expr}{ta tb:TE}
theorem IxR.or {r O:R2}(h:IxR X r)(h':IxR X O):IxR X (λx y H Q=>r x y H Q\/O x y H Q):=by
 intro value Z pins s σ H x y v u Q I U Y q F;rcases q with q|q
 . exact h value Z pins s σ H x y v u Q I U Y q F
 exact h' value Z pins s σ H x y v u Q I U Y q F
theorem Ad {r:R2}(O:IxR X r)(ha:PE X a ta)(hb:PE X b tb)(U:ap4 b):PE X (.Subscript a b pos) (tOp r ta tb):=by intro pins s σ H Q I h;exact FH (IZ ha hb I h λv u s2 x y H2 F Y Z q=>O a b pins s2 σ H2 x y v u Q F Y Z q (U _ _))
noncomputable def aU7 (K:W.Frag):R2:=λx y H Q=>∃ p xs i v,x = .ref p/\y = .int i/\(N,p)/\atI xs i=some v/\Q v H
noncomputable def aS8 (K:W.Frag):R2:=λx y H Q=>∃ p xs i v,x = .ref p/\y = .int i/\SqT K H p xs/\atI xs i=some v/\Q v H
noncomputable def aT7:R2:=λx y H Q=>∃ z i c,x = .str z/\y = .int i/\z.length<=sizeLine/\atI z.cps.toList i=some c/\(17,⟨#[c]⟩,H)
theorem ix_list:IxR X (aU7 X.K):=by
 intro value a1 pins s σ H x y v u Q I rx ry h Y;obtain⟨p,xs,i,z,rfl,rfl,hq,he,q⟩:4:=h
 cases rx;obtain⟨t,rfl⟩:=ry;obtain⟨its,r,pl,hz⟩:1:=I.list hq;obtain⟨j,h1,h2,h3,Z,h5⟩:1:=Rg he;obtain⟨w,O,a0⟩:1:=r.get h2;have hl:=r.length;have hn:=Ly;have fin:EP X pins σ Q w s:=⟨z,H,I,a0,q⟩
 by_cases U:0<=i
 . have F:i.toNat=j:=by rw[seqIndex_of U h5] at h1;exact BR h1
   exact item_listR pl.isList U ∅ (by rw[F];simpa using O) fin Y
 have F:(i+(its.toArray.size:Int)).toNat=j:=by rw[seqIndex_neg ∅ Z] at h1;rw[CB,<- hl];exact BR h1
 exact subscriptTail_builtinR (x:=w) pl.isList.typeIs slot_list_getitem.lookup
  (wpAny_getItem_list_neg (Q:=λr s'=>r=w/\EP X pins σ Q r s') pl.isList ∅ (by rw[List.size_toArray]<;>omega) ∅ (by rw[F];simpa using O) ⟨rfl,fin⟩) Y
theorem ix_tup:IxR X (aS8 X.K):=by
 intro value a0 pins s σ H x y v u Q I Z ry h U;obtain⟨p,xs,i,z,rfl,rfl,O,he,q⟩:4:=h
 cases Z;obtain⟨t,rfl⟩:=ry;obtain⟨its,r,pl,hz⟩:1:=I.tuple O;obtain⟨j,h1,h2,h3,h4,h5⟩:1:=Rg he;obtain⟨w,F,Y⟩:1:=r.get h2;have hl:=r.length;have hn:=Ly;have fin:EP X pins σ Q w s:=⟨z,H,I,Y,q⟩
 exact subscriptTail_builtinR (x:=w) pl.typeIs slot_tuple_getitem.lookup
  (getItem_tuple (j:=j) (Q:=λr s'=>r=w/\EP X pins σ Q r s') pl ∅ ∅ (by rw[List.size_toArray,<- hl];exact h1) (by simpa using F) ⟨rfl,fin⟩) U
theorem SO:IxR X aT7:=by
 intro value a0 pins s σ H x y v u Q I rx ry h Z;obtain⟨z,i,c,rfl,rfl,hz,he,q⟩:3:=h;obtain⟨t,rfl⟩:=rx;obtain⟨t',rfl⟩:=ry;obtain⟨j,h1,h2,h3,U,Y⟩:1:=Rg he;have hl:z.cps.toList.length=z.length:=by simp[Str.length]
 rw[hl] at h1 U Y;have hn:=Ly
 exact tail_any (typeIs_str s z t) slot_str_getitem.lookup (getItem_str (c:=c) (by have F:decide (i < -(2 ^ 63:Int))=false:=BS ∅;have O:decide (i>=2 ^ 63)=false:=BS ∅;rw[F,O,Bool.or_false]) (by rw[h1];simpa using h2) ⟨.str ⟨#[c]⟩,H,I.tok _,⟨_,rfl⟩,q⟩) Z
noncomputable def rIx (K:W.Frag):R2:=λx y H Q=>aU7 K x y H Q\/aS8 K x y H Q\/aT7 x y H Q
theorem ix_seq:IxR X (rIx X.K):=ix_list.or (ix_tup.or SO)
theorem X9 (its:AC)(n j:Nat)(u:Value):Obj.mapSeq (·.setIfInBounds j u) {cls:=.type "list",data:=(116,n)}={cls:=.type "list",data:=.seq (its.set j u).toArray n}:=by simp[Obj.mapSeq]
theorem Inv.lst {σ:St}{p:Addr}(I:(4,s))(h:H p=(2,xs)) :
 ∃(its:AC) (n:Nat),Vals xs its/\s.heap.get? p=some {cls:=.type "list",data:=(116,n)}/\xs.length<=sizeLine:=by
 obtain⟨z,its,n,r,e⟩:820:=(36,p,h);exact⟨its,n,r,e,z⟩
theorem Inv.lstUpd {σ:St}{p:Addr}{ys:List V}{its':AC}{n n':Nat}{f:Obj->Obj}(I:(4,s))(h:H p=(2,xs))
 (F:s.heap.get? p=some {cls:=.type "list",data:=(116,n)}) (hf:f {cls:=.type "list",data:=(116,n)}={cls:=.type "list",data:=.seq its'.toArray n'}) (r:Vals ys its') (hz:ys.length<=sizeLine) (t:Nat) :
 Inv X pins σ ((S,H,p,ys)) {s with heap:=s.heap.update p f,toks:=t}:=by
 have e:(s.heap.update p f).get? p=some {cls:=.type "list",data:=.seq its'.toArray n'}:=by rw[EA f F (by rw[hf]<;>rfl),hf]
 refine I.write (x:=p) (e:=p) (by rw[h];trivial) (.inl rfl) (λb u hb q=>((110,_,_,hb)).trans q) ⟨_,e⟩ ?_;exact⟨hz,its',n',r,e⟩
noncomputable def aJ7:V->V->V->Hp->(Hp->Prop)->Prop:=λo i v H Q=>∃ p xs k j,o = .ref p/\i = .int k/\H p=(2,xs)/\ixN xs.length k=some j/\Q (S,H,p,xs.set j v)
theorem W6:aS6 X aJ7:=by
 intro pins s σ H o i v ov iv u Q I ro ri rv h;obtain⟨p,xs,k,j,rfl,rfl,hp,hj,q⟩:4:=h
 cases ro;obtain⟨t,rfl⟩:=ri;obtain⟨its,n,r,O,hz⟩:2:=I.lst hp;obtain⟨h1,h2,Z,h4⟩:0:=Zj hj;have hl:=r.length;have hn:=Ly
 have U:Inv X pins σ ((S,H,p,xs.set j v)) {s with heap:=s.heap.update p (Obj.mapSeq (·.setIfInBounds j u))}:=
  I.lstUpd hp O (X9 its n j u) (r.set rv j) (by rw[EW];exact hz) s.toks
 by_cases Y:0<=k
 . have F:k.toNat=j:=by rw[seqIndex_of Y h4] at h1;exact BR h1
   exact W.ki_setAt O Y ∅ (by rw[CB,<- hl];exact h4) (by rw[F];exact⟨_,U,q⟩)
 have F:(k+(its.toArray.size:Int)).toNat=j:=by rw[seqIndex_neg ∅ Z] at h1;rw[CB,<- hl];exact BR h1
 exact W.ki_setBack O ∅ (by rw[CB,<- hl];exact Z) ∅ (by rw[F];exact⟨_,U,q⟩)
theorem S5 (lo hi:Option Int) (n:Nat):(sliceBounds lo hi none n).1=((HT.sIx n 0 lo:Nat):Int)/\(sliceBounds lo hi none n).2.1=((HT.sIx n n hi:Nat):Int)/\(sliceBounds lo hi none n).2.2=1:=by
 refine⟨?_,?_,rfl⟩
 . cases lo with
   |none=>simp[sliceBounds,HT.sIx]
   |some i=>
     simp only[sliceBounds,HT.sIx,Option.getD_none,show(1:Int)>0 by decide,if_true]
     by_cases h:i<0
     . simp only[h,if_true]<;>omega
     simp only[h,if_false]<;>omega
 cases hi with
 |none=>simp[sliceBounds,HT.sIx]
 |some i=>
   simp only[sliceBounds,HT.sIx,Option.getD_none,show(1:Int)>0 by decide,if_true]
   by_cases h:i<0
   . simp only[h,if_true]<;>omega
   simp only[h,if_false]<;>omega
theorem Kn (its:AC)(lo hi:Option Int):slicePick its.toArray lo hi none=((its.drop (HT.sIx its.length 0 lo)).take (HT.sIx its.length its.length hi-HT.sIx its.length 0 lo)).toArray:=by obtain⟨h1,h2,F⟩:0:=S5 lo hi its.toArray.size;unfold slicePick;rw[h1,h2,F];simp only[sliceRange_one,pick_run,List.size_toArray]<;>rfl
noncomputable def aU6 (K:W.Frag):V->Option Int->Option Int->Hp->VK->Prop:=λx lo hi H Q=>∃ a xs,x = .ref a/\(N,a)/\∀ p,H p=none->(C,p,(S,H,p,Mi xs lo hi))
theorem sl_list:SlR X (aU6 X.K):=by
 intro pins s σ H x v vl vu lo hi sl Q I rx U pl Z h;obtain⟨a,xs,rfl,Y,q⟩:2:=h
 cases rx;obtain⟨its,r,F,hz⟩:1:=I.list Y;have O:=r.length;refine⟨"list",_,slot_list_getitem.lookup,F.isList.typeIs,?_⟩;refine wpAny_getItem_list_slice F.isList U pl Z .none 'c' ?_ (by rw[List.size_toArray]<;>omega)
 rw[Kn,<- O];refine⟨.ref s.heap.objs.size,_,I.laid (t':=s.toks) (o:=.lst (Mi xs lo hi)) (λb ob q=>BH _ q) (BE _) ?_,rfl,q _ (61,_)⟩;exact⟨BI (Ga xs lo hi) hz,_,0,(r.drop (79,0,lo)).take ((123,hi)-(79,0,lo)),(12,_)⟩
noncomputable def Qg:V->Bool
 |.non=>true
 |.bl _=>true
 |.int _=>true
 |.str _=>true
 |_=>false
noncomputable def eqV:V->V->Bool
 |.non,.non=>true
 |.bl a,.bl b=>a==b
 |.bl a,.int b=>(if a then 1 else 0)==b
 |.int a,.bl b=>a==(if b then 1 else 0)
 |.int a,.int b=>a==b
 |.str a,.str b=>a==b
 |_,_=>false
theorem XT {A:Around}{v:Value}(U:(u,y))(F:RelV x v)(Y:Qg y=true)(O:Qg x=true):SeqAt.EqAt A s u v (eqV y x):=by
 cases y with
 |non=>
   cases U
   cases x with
   |non=>cases F;exact SeqAt.EqAt.same _
   |bl b=>cases F;exact SeqAt.EqAt.none_bool b
   |int b=>obtain⟨t,rfl⟩:=F;exact SeqAt.EqAt.none_int b t
   |str b=>obtain⟨t,rfl⟩:=F;exact SeqAt.EqAt.none_str b t
   |_=>exact(45,(show false=true from O))
 |bl a=>
   cases U
   cases x with
   |non=>cases F;exact SeqAt.EqAt.bool_none a
   |bl b=>cases F;exact SeqAt.EqAt.bool_bool a b
   |int b=>obtain⟨t,rfl⟩:=F;exact SeqAt.EqAt.bool_int a b t
   |str b=>obtain⟨t,rfl⟩:=F;exact SeqAt.EqAt.bool_str a b t
   |_=>exact(45,(show false=true from O))
 |int a=>
   obtain⟨t',rfl⟩:=U
   cases x with
   |non=>cases F;exact SeqAt.EqAt.int_none a t'
   |bl b=>cases F;exact SeqAt.EqAt.int_bool a t' b
   |int b=>obtain⟨t,rfl⟩:=F;exact SeqAt.EqAt.int_int a t' b t
   |str b=>obtain⟨t,rfl⟩:=F;exact SeqAt.EqAt.int_str a t' b t
   |_=>exact(45,(show false=true from O))
 |str a=>
   obtain⟨t',rfl⟩:=U
   cases x with
   |non=>cases F;exact SeqAt.EqAt.str_none a t'
   |bl b=>cases F;exact SeqAt.EqAt.str_bool a t' b
   |int b=>obtain⟨t,rfl⟩:=F;exact SeqAt.EqAt.str_int a t' b t
   |str b=>obtain⟨t,rfl⟩:=F;exact SeqAt.EqAt.str_str a t' b t
   |_=>exact(45,(show false=true from O))
 |_=>exact(45,(show false=true from Y))
noncomputable def eqU (x:V)(u:Value):Bool:=match u with
 |.none=>eqV .non x
 |.bool b=>eqV (.bl b) x
 |.int i _=>eqV (.int i) x
 |.str z _=>eqV (.str z) x
 |_=>false
theorem NM (r:(u,y))(f:Qg y=true):eqU x u=eqV y x:=by
 cases y with
 |non=>cases r;rfl
 |bl b=>cases r;rfl
 |int i=>obtain⟨t,rfl⟩:=r;rfl
 |str z=>obtain⟨t,rfl⟩:=r;rfl
 |_=>exact(45,(show false=true from f))
theorem N9 {x:V}:∀ {xs:List V} {us:AC},(R,xs)->xs.all Qg=true->us.any (eqU x)=xs.any λy=>eqV y x
 |_,_,.nil,_=>rfl
 |y :: xs,u :: us,.cons r t,f=>by rw[List.all_cons,CA] at f;rw[DP,DP,NM r f.1,N9 t f.2]
theorem Il {A:Around}{s:Shared}{x:V}{v:Value}(O:RelV x v)(F:Qg x=true):∀ {xs:List V} {us:AC},(R,xs)->xs.all Qg=true->∀ u∈us,SeqAt.EqAt A s u v (eqU x u)
 |_,_,.nil,_=>λu hu=>by cases hu
 |y :: xs,u :: us,.cons r t,f=>λU hu=>by
   rw[List.all_cons,CA] at f;rcases A0A.mp hu with rfl|hu
   . rw[NM r f.1];exact XT r O f.1 F
   exact Il O F t f.2 U hu
noncomputable def inV (x:V)(xs:List V):Bool:=xs.any λy=>eqV y x
noncomputable def rIn (K:W.Frag)(neg:Bool):R2:=λx y H Q=>∃ p xs,y = .ref p/\((N,p)\/SqT K H p xs)/\Qg x=true/\xs.all Qg=true/\(t,(if neg then !inV x xs else inV x xs))
theorem op_in_seq:OpR X (compareOp .In) (rIn X.K false):=by
 intro pins s σ H x y v u Q I Y Z h;obtain⟨p,xs,rfl,F,U,fs,q⟩:2:=h
 cases Z;rcases F with F|F
 . obtain⟨its,r,pl,hz⟩:1:=I.list F;refine SeqAt.in_listAt (eqU x) pl.isList (λw O=>Il Y U r fs w (by simpa using O)) ⟨.bl _,H,I,rfl,?_⟩;rw[show its.toArray.any (eqU x)=its.any (eqU x) by simp,N9 r fs];exact q
 obtain⟨its,r,pl,hz⟩:1:=I.tuple F;refine SeqAt.in_tupleAt (eqU x) pl (λw O=>Il Y U r fs w (by simpa using O)) ⟨.bl _,H,I,rfl,?_⟩;rw[show its.toArray.any (eqU x)=its.any (eqU x) by simp,N9 r fs];exact q
theorem op_notIn_seq:OpR X (compareOp .NotIn) (rIn X.K true):=by
 intro pins s σ H x y v u Q I Y Z h;obtain⟨p,xs,rfl,F,U,fs,q⟩:2:=h
 cases Z;rcases F with F|F
 . obtain⟨its,r,pl,hz⟩:1:=I.list F;refine SeqAt.notIn_listAt (eqU x) pl.isList (λw O=>Il Y U r fs w (by simpa using O)) ⟨.bl _,H,I,rfl,?_⟩;rw[show its.toArray.any (eqU x)=its.any (eqU x) by simp,N9 r fs];exact q
 obtain⟨its,r,pl,hz⟩:1:=I.tuple F;refine SeqAt.notIn_tupleAt (eqU x) pl (λw O=>Il Y U r fs w (by simpa using O)) ⟨.bl _,H,I,rfl,?_⟩;rw[show its.toArray.any (eqU x)=its.any (eqU x) by simp,N9 r fs];exact q
theorem op_notIn_str:OpR X (compareOp .NotIn) (λx y H Q=>∃ i j,x = .str i/\y = .str j/\(t,(!(!(Builtin.Str.occurrences j i 0 j.length 1).isEmpty)))):=by intro pins s σ H x y v u Q I F O h;obtain⟨i,j,rfl,rfl,q⟩:2:=h;obtain⟨t,rfl⟩:=F;obtain⟨t',rfl⟩:=O;exact notIn_str ⟨.bl _,H,I,rfl,q⟩
theorem CallR.or {f:Value}{r F:List V->Hp->VK->Prop}(h:CallR X f r)(h':CallR X f F):CallR X f (λxs H Q=>r xs H Q\/F xs H Q):=by
 intro pins s σ H xs us Q I rs q;rcases q with q|q
 . exact h pins s σ H xs us Q I rs q
 exact h' pins s σ H xs us Q I rs q
theorem T7:CallR X (.type "list") (λxs H Q=>∃ p ys,xs=[.ref p]/\(SqL X.K H p ys\/SqT X.K H p ys)/\∀ l,H l=none->(C,l,(S,H,l,ys))):=by
 intro pins s σ H xs us Q I r h;obtain⟨p,ys,rfl,O,q⟩:2:=h;obtain⟨u,rfl,rx⟩:1:=Jx r
 cases rx
 have fin:∀(its:AC),Vals ys its->ys.length<=sizeLine->∀(h':Heap) (c':Nat),(∀ b o',s.heap.get? b=some o'->h'.get? b=some o') ->
  h'.get? s.heap.objs.size=some {cls:=.type "list",dict:=none,data:=(116,c'),slots:=#[]}->EP X pins σ Q (.ref s.heap.objs.size) {s with heap:=h'}:=λits F hz h' c' kp e=>
  ⟨.ref s.heap.objs.size,_,I.laid (t':=s.toks) kp (BE _) (show(70,X.w,_,h',_,.lst ys) from⟨hz,its,c',F,e⟩),rfl,q _ (61,_)⟩
 rcases O with O|O
 . obtain⟨its,F,pl,hz⟩:1:=I.list O;have Z:=F.length;obtain⟨o,Y,U,n,hd⟩:441:=pl.isList;exact call_list_seq p (.inl rfl) Y U hd (λh' c' kp e=>fin its F hz h' c' kp e) (by simp only[List.size_toArray]<;>omega)
 obtain⟨its,F,pl,hz⟩:1:=I.tuple O;have Z:=F.length;obtain⟨o,Y,U,n,hd⟩:441:=pl;exact call_list_seq p (.inr rfl) Y U hd (λh' c' kp e=>fin its F hz h' c' kp e) (by simp only[List.size_toArray]<;>omega)
theorem Ri:CallR X (.type "tuple") (λxs H Q=>∃ p ys,xs=[.ref p]/\((SqL X.K H p ys/\∀ l,H l=none->(C,l,(66,l,ys)))\/(SqT X.K H p ys/\(C,p,H)))):=by
 intro pins s σ H xs us Q I r h;obtain⟨p,ys,rfl,h⟩:2:=h;obtain⟨u,rfl,Z⟩:1:=Jx r
 cases Z;rcases h with ⟨F,q⟩|⟨F,q⟩
 . obtain⟨its,O,pl,hz⟩:1:=I.list F;have a0:=O.length;refine call_tuple_list pl.isList (λh' kp=>?_) (by simp only[List.size_toArray]<;>omega)
   have U:Inv X pins σ H {s with heap:=h'}:=I.kept (t':=s.toks) kp
   have Y:Inv X pins σ ((66,h'.objs.size,ys)) {s with heap:=h'.push {cls:=.type "tuple",data:=.seq its.toArray}}:=
    U.laid (t':=s.toks) (λb o e=>BH _ e) (BE _) (show(70,X.w,_,_,_,.tup ys) from⟨hz,its,O,IsTupN.new _ _⟩)
   exact⟨.ref h'.objs.size,_,Y,rfl,q _ (U.hok.fresh (BE _))⟩
 obtain⟨its,O,pl,hz⟩:1:=I.tuple F;exact call_tuple_same pl ⟨.ref p,H,I,rfl,q⟩
noncomputable def tyV (K:W.Frag)(T:String)(x:V)(H:Hp):Prop:=match x with
 |.str _=>T = "str"
 |.int _=>T = "int"
 |.ref p=>(T = "list" /\ ∃ xs,(N,p))\/(T = "tuple" /\ ∃ o,K.lookup p=some o/\o.cls = .type "tuple" /\ o.dict=none) \/
  (T = "dict" /\ ((∃ kvs,H p=(6,kvs))\/∃ kvs,H p=some (.dT kvs)))\/(T = "set" /\ ∃ S n,H p=some (.set S n))
 |_=>False
theorem LP {σ:St}{T:String}{v:Value}(I:(4,s))(r:RelV x v)(ty:tyV X.K T x H) :
 s.TypeIs v T/\∀ a,v = .ref a->∃ ob,s.heap.get? a=some ob/\ob.dict=none:=by
 cases x with
 |str z=>
   obtain⟨t,rfl⟩:=r
   cases (show T = "str" from ty);exact⟨typeIs_str s z t,λ_ e=>nomatch e⟩
 |int i=>
   obtain⟨t,rfl⟩:=r
   cases (show T = "int" from ty);exact⟨typeIs_int s i t,λ_ e=>nomatch e⟩
 |ref p=>
   cases r;rcases ty with ⟨rfl,xs,Y⟩|⟨rfl,o,F,U,hd⟩|⟨rfl,F⟩|⟨rfl,S,n,F⟩
   . obtain⟨its,_,pl,_⟩:1:=I.list Y;refine⟨pl.isList.typeIs,λa e=>?_⟩
     cases e;obtain⟨o,n,e,c,hd,_⟩:2:=pl;exact⟨o,e,hd⟩
   . refine⟨⟨o,I.kIn p o F,U⟩,λa e=>?_⟩
     cases e;exact⟨o,I.kIn _ o F,hd⟩
   . have z:∃ o,s.heap.get? p=some o/\o.ExactDict:=by
      rcases F with ⟨kvs,F⟩|⟨kvs,F⟩
      . obtain⟨_,_,_,_,o,_,_,e,ex,_⟩:488440:=(36,p,F);exact⟨o,e,ex⟩
      obtain⟨_,_,_,_,o,_,_,e,ex,_⟩:488440:=(36,p,F);exact⟨o,e,ex⟩
     obtain⟨o,e,ex⟩:1:=z;refine⟨⟨o,e,ex.1⟩,λa O=>?_⟩
     cases O;exact⟨o,e,ex.2.1⟩
   obtain⟨o,_,_,_,e,ex,_⟩:4:=(36,p,F);refine⟨⟨o,e,ex.1⟩,λa O=>?_⟩
   cases O;exact⟨o,e,ex.2.1⟩
 |_=>exact False.elim ty
noncomputable def aR1 (K:W.Frag)(T:String)(r:V->List V->Hp->VK->Prop)(to:TE):TE:=fun σ H Q=>to σ H λx H1=>tyV K T x H1/\r x [] H1 Q
noncomputable def tBM (K:W.Frag)(T:String)(r:V->List V->Hp->VK->Prop)(to:TE)(t:TA):TE:=fun σ H Q=>to σ H λx H1=>tyV K T x H1/\t σ H1 λxs H2=>r x xs H2 Q
variable {o e:Expr}{es:List Expr}{to:TE}{t:TA}{name:Str}{apos cpos:Pos}{T id:String}{r:V->List V->Hp->VK->Prop}
theorem XO (pa:PlainAttrs T)(slot:Slot T name id)(a0:typeOf (.builtin id)=pure (.type "method_descriptor"))(hm:MtR X id r)(Z:PE X o to)
 (U:(124,o,name,(s,o))=eval o X.env:=by ac_nf) (Y:(apos.endLine==cpos.line)=true:=by ac_nf):PE X ((88,o,name,apos,[],[],cpos)) (aR1 X.K T r to):=by
 intro pins s σ H Q I h;refine wpAny_Call_method0_late U Y (BD (Z pins s σ H _ I h) λv s1 ⟨x,H1,F,O,ty,q1⟩=>?_);obtain⟨h1,h2⟩:=LP F O ty;exact⟨T,id,pa,slot,a0,h1,h2,GI rfl (PySem.evalArgs_none (hm pins s1 σ H1 x [] v [] Q F O .nil q1))⟩
theorem TW (pa:PlainAttrs T)(slot:Slot T name id)(a3:typeOf (.builtin id)=pure (.type "method_descriptor"))(hm:MtR X id r)(ho:PE X o to)(ha:PA X (e :: es) t)
 (Z:(124,o,name,(s,o))=eval o X.env:=by ac_nf)
 (a0:(((80,(e :: es))).all (λx=>!x.1)&&(backToKw cpos (keywordEach [] X.env)).all (λx=>x.1.isSome)
  && decide ((e :: es).length+([]:List Keyword).length+(if([]:List Keyword).isEmpty then 0 else 1)<30))=true:=by ac_nf)
 (a1:(apos.endLine==cpos.line)=true:=by ac_nf) (hs:(29,(e :: es))=(false,(s,e)) :: starEach es X.env:=by ac_nf) (a2:((80,es)).any (·.1)=false:=by ac_nf) :
 PE X ((88,o,name,apos,(e :: es),[],cpos)) (tBM X.K T r to t):=by
 intro pins s σ H Q I h;refine wpAny_Call_method_late Z a0 a1 rfl (BD (ho pins s σ H _ I h) λv s1 ⟨x,H1,F,U,ty,q1⟩=>?_);obtain⟨h1,h2⟩:=LP F U ty;refine⟨T,id,pa,slot,a3,h1,h2,?_⟩;have O:=ha cpos pins s1 σ H1 _ F q1;rw[hs] at O ⊢;refine GI (by show(false||((80,es)).any (·.1))=false;rw[a2]<;>rfl) (HZ ?_)
 exact BD O λus s2 ⟨vs,H2,Y,r2,q2⟩=>hm pins s2 σ H2 x vs v us Q Y U r2 q2
/- xs.append(e),list.index on a module's tuple .. are MtR facts of 06m -/
end
noncomputable def MtM (X:Cx)(id:String)(r:V->List V->Hp->VK->Prop):Prop:=
 ∀(pins:AI) (s:Shared) (σ:St) (H:Hp) (x:V) (xs:List V) (v:Value) (us:AC) (Q:VK),(4,s)->RelV x v->(R,xs)->r x xs H Q ->
  (35,(95,id,(v :: us)),EP X pins σ Q)
theorem Vals.one (h:(R,[x])):∃ u,us=[u]/\RelV x u:=by
 cases h with
 |cons r q=>cases q;exact⟨_,rfl,r⟩
theorem Vals.two (h:(R,[x,y])):∃ u v,us=[u,v]/\(u,x)/\RelV y v:=by
 cases h with
 |cons r q=>obtain⟨u,rfl,F⟩:1:=Vals.one q;exact⟨_,_,rfl,r,F⟩
theorem Vals.zero:∀ {us:AC},(R,[])->us=[]
 |_,.nil=>rfl
theorem Vals.eraseIdx:∀ {xs:List V} {us:AC} (i:Nat),(R,xs)->Vals (xs.eraseIdx i) (us.eraseIdx i)
 |_,_,_,.nil=>.nil
 |_,_,0,.cons _ t=>t
 |_,_,i+1,.cons r t=>.cons r (Vals.eraseIdx i t)
theorem Vals.reverse (h:(R,xs)):Vals xs.reverse us.reverse:=by
 induction h with
 |nil=>exact .nil
 |cons r t ih=>rw[FJ,FJ];exact Vals.append ih (.cons r .nil)
theorem Vals.rep {xs:List V}{us:AC}(h:(R,xs)):∀ k:Nat,Vals ((111,xs)).flatten ((111,us)).flatten
 |0=>.nil
 |k+1=>by rw[DU,DU,EX,EX];exact Vals.append h (Vals.rep h k)
theorem Sy {α:Type}:∀(l:List α) (i:Nat),(l.eraseIdx i).length<=l.length
 | [],_=>BE _
 |_ :: _,0=>EZ _
 |_ :: r,i+1=>Nat.succ_le_succ (Sy r i)
theorem Sr (its:AC):∀(k:Nat) (acc:AC),
 List.foldl (λO U=>O++U) acc.toArray (111,its.toArray)=(acc++((111,its)).flatten).toArray
 |0,acc=>by simp
 |k+1,acc=>by
   have e:acc.toArray++its.toArray=(acc++its).toArray:=by simp
   have F:(acc++its)++((111,its)).flatten=acc++(List.replicate (k+1) its).flatten:=by rw[DU,EX,CK]
   rw[<- F,<- Sr its k (acc++its),<- e,DU,GZ]
section
variable {σ:St}{l b:Addr}{ys zs:List V}
theorem Inv.lset {its':AC}{n:Nat}{f:Array Value->Array Value}(I:(4,s))(F:H l=(2,xs))
 (e:s.heap.get? l=some {cls:=.type "list",data:=(116,n)}) (hf:f its.toArray=its'.toArray) (O:Vals ys its') (hz:ys.length<=sizeLine) :
 Inv X pins σ ((S,H,l,ys)) {s with heap:=s.heap.update l (Obj.mapSeq f),toks:=t'}:=by
 have q:=PySem.IsL.update e f;rw[hf] at q;refine I.write (x:=l) (e:=l) (by rw[F];exact trivial) (.inl rfl) (λU u hb hu=>((110,s.heap,Obj.mapSeq f,hb)).trans hu) ⟨_,q⟩ ?_;exact⟨hz,its',_,O,q⟩
theorem Inv.lnew (I:(4,s))(F:Vals ys its)(hz:ys.length<=sizeLine) :
 Inv X pins σ ((S,H,s.heap.objs.size,ys)) {s with heap:=s.heap.push {cls:=.type "list",data:=.seq its.toArray},toks:=t'}:=
 I.laid (λ_ _ q=>BH _ q) (BE _) ⟨hz,its,0,F,(12,_)⟩
theorem Inv.fresh (I:(4,s)):H s.heap.objs.size=none:=(61,_)
theorem Inv.lstM (I:(4,s))(F:H l=(2,xs)):xs.length<=sizeLine/\∃(its:AC) (n:Nat),Vals xs its/\xs.length=its.length/\s.heap.get? l=some {cls:=.type "list",data:=(116,n)}:=by obtain⟨z,its,n,r,e⟩:820:=(36,l,F);exact⟨z,its,n,r,r.length,e⟩
theorem Vj {n:Nat}(h:n<=sizeLine):Builtin.List.listTooLong n=false:=by unfold Builtin.List.listTooLong;exact BS ∅
end
noncomputable def Yw:V->List V->Hp->VK->Prop:=λx vs H Q=>∃ l xs y,x = .ref l/\vs=[y]/\H l=(2,xs)/\xs.length<sizeLine/\Q .non (S,H,l,(xs++[y]))
theorem Eb:MtM X "list.append" Yw:=by
 intro pins s σ H x vs v us Q I Z Y h;obtain⟨l,xs,y,rfl,rfl,O,hz,q⟩:3:=h
 cases Z;obtain⟨u,rfl,U⟩:1:=Y.one;obtain⟨z,its,n,r,hl,e⟩:820:=I.lstM O;refine EJ F.slot_list_append ⟨_,e,rfl⟩ F.entry_list_append (F.args_list_append_2 _ _) (PySem.list_append l its.toArray n u (by rw[CB];omega)) ⟨e,?_⟩;refine⟨.non,_,I.lset (its':=its++[u]) O e 'c' (r.append (.cons U .nil)) ?_,rfl,q⟩;rw[BL,CU];omega
noncomputable def a65:V->List V->Hp->VK->Prop:=λx vs H Q=>∃ l b xs zs,x = .ref l/\vs=[.ref b]/\H l=(2,xs)/\H b=(2,zs)/\xs.length+zs.length<=sizeLine/\Q .non (S,H,l,(xs++zs))
theorem Kc:MtM X "list.extend" a65:=by
 intro pins s σ H x vs v us Q I rx rv h;obtain⟨l,b,xs,zs,rfl,rfl,U,Z,hz,q⟩:4:=h
 cases rx;obtain⟨u,rfl,ru⟩:1:=rv.one
 cases ru;obtain⟨z,its,n,r,hl,e⟩:820:=I.lstM U;obtain⟨z2,O,n2,r2,a1,Y⟩:820:=I.lstM Z;have hsz:its.toArray.size+O.toArray.size<=sizeLine:=by rw[CB,CB];omega
 have a0:¬ (!its.toArray.isEmpty&&Builtin.List.listTooLong (its.toArray.size+O.toArray.size))=true:=by rw[Vj hsz,HB];exact BX
 refine EJ F.slot_list_extend ⟨_,e,rfl⟩ F.entry_list_extend (F.args_list_extend_2 _ _)
  (AutoSeq1.list_extend_list_list_0 l its.toArray n b O.toArray n2 a0 (by rw[CB];omega) ∅) ⟨e,Y,?_⟩
 refine⟨.non,_,I.lset (its':=its++O) U e 'c' (r.append r2) ?_,rfl,q⟩;rw[BL];omega
noncomputable def am2:V->List V->Hp->VK->Prop:=λx vs H Q=>∃ l xs i k y,x = .ref l/\vs=[.int i]/\H l=(2,xs) /\ -(2 ^ 63)<=i/\i<2 ^ 63/\seqIndex? i xs.length=some k/\xs[k]? = some y/\Q y (S,H,l,xs.eraseIdx k)
theorem Ws:MtM X "list.pop" am2:=by
 intro pins s σ H x vs v us Q I rx rv h;obtain⟨l,xs,i,k,y,rfl,rfl,O,h1,h2,U,Z,q⟩:5:=h
 cases rx;obtain⟨u,rfl,ru⟩:1:=rv.one;obtain⟨t,rfl⟩:=ru;obtain⟨z,its,n,r,hl,e⟩:820:=I.lstM O;obtain⟨w,Y,a0⟩:1:=r.get Z
 refine EJ F.slot_list_pop ⟨_,e,rfl⟩ F.entry_list_pop (F.args_list_pop_2 _ _)
  (MeetsSeq.list_pop_at l its.toArray n i t k w (fitsIndex_both h1 h2) (by rw[CB,<- hl];exact U) (by rw[<- Array.getElem?_toList];exact Y) (by rw[CB];omega)) ⟨e,?_⟩
 refine⟨y,_,I.lset (its':=its.eraseIdx k) O e ?_ (r.eraseIdx k) ?_,a0,q⟩
 . show its.toArray.eraseIdxIfInBounds k=(its.eraseIdx k).toArray;rw[List.eraseIdxIfInBounds_toArray]
 have:=Sy xs k;omega
noncomputable def aT9:R2:=λx y H Q=>∃ l b xs zs,x = .ref l/\y = .ref b/\H l=(2,xs)/\H b=(2,zs)/\xs.length+zs.length<=sizeLine/\∀ p,H p=none->(C,p,(S,H,p,(xs++zs)))
theorem op_cat:OpR X (binaryOp .Add) aT9:=by
 intro pins s σ H x y v u Q I rx ry h;obtain⟨l,b,xs,zs,rfl,rfl,Z,Y,hz,q⟩:4:=h
 cases rx
 cases ry;obtain⟨z,its,n,r,hl,e⟩:820:=I.lstM Z;obtain⟨z2,F,n2,r2,a0,O⟩:820:=I.lstM Y;refine PySem.P.add_list e O ?_ (by rw[CB,CB];omega);have U:its.toArray++F.toArray=(its++F).toArray:=by simp
 rw[U];exact⟨.ref _,_,I.lnew (t':=s.toks) (r.append r2) (by rw[BL];omega),rfl,q _ I.fresh⟩
noncomputable def aU1:R2:=λx y H Q=>∃ l k xs,x = .ref l/\y = .int k/\H l=(2,xs) /\ -(2 ^ 63)<=k/\k<2 ^ 63/\xs.length*k.toNat<=sizeLine /\
 ∀ p,H p=none->(C,p,(B,p,(.lst (List.replicate k.toNat xs).flatten)))
theorem O8 {α:Type}(xs:List α)(k:Nat):((111,xs)).flatten.length=k*xs.length:=by
 induction k with
 |zero=>simp
 |succ k ih=>rw[DU,EX,BL,ih,Nat.succ_mul,Nat.add_comm]
theorem OF:OpR X (binaryOp .Mult) aU1:=by
 intro pins s σ H x y v u Q I rx ry h;obtain⟨l,k,xs,rfl,rfl,hH,h1,h2,hz,q⟩:3:=h
 cases rx;obtain⟨t,rfl⟩:=ry;obtain⟨z,its,n,r,hl,e⟩:820:=I.lstM hH;have a2:its.toArray.size*k.toNat<=sizeLine:=by rw[CB,<- hl];exact hz
 have a0:¬ its.toArray.size*k.toNat>(2 ^ 63-1) / 8:=by
  have:(sizeLine:Nat)<=(2 ^ 63-1) / 8:=by decide
  omega
 have a1:¬ (!Builtin.List.listFitsIndex k)=true:=by rw[fitsIndex_both h1 h2];exact BX
 have a3:¬ Builtin.List.listTooLong (its.toArray.size*k.toNat)=true:=by rw[Vj a2];exact BX
 have a4:List.foldl (λO Y=>O++Y) #[] (List.replicate (if its.toArray.isEmpty=true then 0 else k.toNat) its.toArray)=(List.replicate k.toNat its).flatten.toArray:=by
  have Z:∀ m:Nat,List.foldl (λO Y=>O++Y) #[] (List.replicate m its.toArray)=(List.replicate m its).flatten.toArray:=λm=>by have:=Sr its m [];rw[GP] at this;exact this
  rw[Z]
  cases its with
  |nil=>simp
  |cons a r'=>rw[if_neg 'c']
 refine wpAny_binaryOp_repeat_ref (T:="list") (U:="int") nofun ⟨_,e,rfl⟩ (λs'=>typeIs_int s' k t) noFill_list_mul F.fills_int_mul F.slot_int_rmul repeat_list F.slot_int_index.lookup
  (EJ F.slot_int_rmul (typeIs_int s k t) F.entry_int_rmul (F.args_int_rmul_2 _ _) (int___rmul___int_list k t l its.toArray n)
   ⟨e,rfl,⟨_,e,rfl⟩,EJ F.slot_list_mul ⟨_,e,rfl⟩ F.entry_list_mul (F.args_list_mul_2 _ _) (AutoListH.list___mul___list_int_3 l its.toArray n k t a1 a0 a3) ⟨e,?_⟩⟩)
 rw[a4];exact⟨.ref _,_,I.lnew (t':=s.toks) (r.rep k.toNat) (by rw[O8,GB];exact hz),rfl,q _ I.fresh⟩
section
variable {prog:Program}{w:World}{A:Around}{E:AG}
set_option maxRecDepth 100000 in
end
section
variable {κ:Type}[DecidableEq κ]
noncomputable def Cr (kvs:List (κ×V))(k:κ):Option V:=(kvs.find? λkv=>decide (kv.1=k)).map (·.2)
noncomputable def Eo (kvs:List (κ×V))(k:κ)(v:V):List (κ×V):=
 if(kvs.any λkv=>decide (kv.1=k))=true then kvs.map (λkv=>if kv.1=k then(kv.1,v) else kv) else kvs++[(k,v)]
theorem QB {k:κ}:Cr ([]:List (κ×V)) k=none:=rfl
theorem Bc {p:κ×V} {r:List (κ×V)} {k:κ} (e:p.1=k):Cr (p :: r) k=some p.2:=by simp[Cr,List.find?_cons,e]
theorem B9 {p:κ×V}{r:List (κ×V)}{k:κ}(e:¬ p.1=k):Cr (p :: r) k=Cr r k:=by simp[Cr,List.find?_cons,e]
theorem Gk (k:κ):∀ kvs:List (κ×V),(kvs.any λkv=>decide (kv.1=k))=(Cr kvs k).isSome
 | []=>rfl
 |p :: r=>by
   rw[DP]
   by_cases e:p.1=k
   . simp only[Bc e,decide_eq_true e,Bool.true_or,Option.isSome_some]
   rw[B9 e,BS e,GC];exact Gk k r
theorem Vc (k j:κ)(y:V):∀ kvs:List (κ×V),Cr (kvs.map λkv=>if kv.1=k then(kv.1,y) else kv) j=(Cr kvs j).map λx=>if j=k then y else x
 | []=>rfl
 |p :: r=>by
   have F:=Vc k j y r;rw[BM]
   by_cases h:p.1=k
   . rw[BB h]
     by_cases e:p.1=j
     . rw[Bc (p:=(p.1,y)) e,Bc e,IP,BB (e.symm.trans h)]
     rw[B9 (p:=(p.1,y)) e,B9 e,F]
   rw[AZ h]
   by_cases e:p.1=j
   . rw[Bc (p:=p) e,Bc e,IP,AZ (λz=>h (e.trans z))]
   rw[B9 (p:=p) e,B9 e,F]
theorem Sn (k j:κ)(y:V):∀ kvs:List (κ×V),Cr kvs k=none->Cr (kvs++[(k,y)]) j=if j=k then some y else Cr kvs j
 | [],_=>by
   by_cases e:k=j
   . rw[BB e.symm];exact Bc (p:=(k,y)) e
   rw[AZ (λz=>e z.symm)];exact B9 (p:=(k,y)) e
 |p :: r,hn=>by
   rw[List.cons_append];have F:¬ p.1=k:=λz=>by rw[Bc z] at hn;cases hn
   rw[B9 F] at hn;have O:=Sn k j y r hn
   by_cases e:p.1=j
   . rw[Bc e,Bc e,AZ (λz=>F (e.trans z))]
   rw[B9 e,B9 e,O]
theorem YW (kvs:List (κ×V))(k j:κ)(y:V):Cr (Eo kvs k y) j=if j=k then some y else Cr kvs j:=by
 unfold Eo
 by_cases a:(kvs.any λkv=>decide (kv.1=k))=true
 . rw[BB a,Vc];rw[Gk] at a
   by_cases e:j=k
   . obtain⟨x,F⟩:=Option.isSome_iff_exists.mp a;rw[BB e,e,F,IP,BB rfl]
   rw[AZ e]
   cases Cr kvs j with
   |none=>rfl
   |some x=>rw[IP,AZ e]
 rw[AZ a];refine Sn k j y kvs ?_;rw[Gk] at a
 cases q:Cr kvs k with
 |none=>rfl
 |some x=>rw[q] at a;exact(a rfl).elim
theorem Jy (kvs:List (κ×V))(k:κ)(v:V):(Eo kvs k v).length<=kvs.length+1:=by
 unfold Eo
 split
 . rw[BA];omega
 rw[BL,BO,List.length_nil];omega
theorem Kk {kvs:List (κ×V)}{k:κ}(v:V)(h:Cr kvs k=none):Eo kvs k v=kvs++[(k,v)]:=by unfold Eo;rw [Gk,h];exact AZ nofun
theorem RelO.isSome_eq {o:Option V}{u:Option Value}(r:RelO o u):o.isSome=u.isSome:=by
 cases o with
 |none=>cases u with
   |none=>rfl
   |some _=>exact(show False from r).elim
 |some _=>cases u with
   |none=>exact(show False from r).elim
   |some _=>rfl
theorem RelO.getD {o:Option V}{u:Option Value}{d:V}{d':Value}(r:RelO o u)(rd:RelV d d'):RelV (o.getD d) (u.getD d'):=by
 cases o with
 |none=>cases u with
   |none=>exact rd
   |some _=>exact(show False from r).elim
 |some _=>cases u with
   |none=>exact(show False from r).elim
   |some _=>exact r
theorem KV.val {kvs:List (κ×V)} {vs:List (κ×Value)} (r:KV kvs vs) (k:κ):RelO (Cr kvs k) (valueAt vs k):=by
 unfold KV at r
 induction r with
 |nil=>exact CT
 |@cons p q ps qs h t ih=>
   obtain⟨h1,h2⟩:=h
   by_cases e:p.1=k
   . have F:q.1=k:=h1.symm.trans e;have b:valueAt (q :: qs) k=some q.2:=by simp[valueAt,List.find?_cons,F]
     rw[Bc e,b];exact h2
   have F:¬ q.1=k:=λz=>e (h1.trans z);have b:valueAt (q :: qs) k=valueAt qs k:=by simp[valueAt,List.find?_cons,F]
   rw[B9 e,b];exact ih
theorem KV.any {kvs:List (κ×V)}{vs:List (κ×Value)}(r:KV kvs vs)(k:κ):(kvs.any λkv=>decide (kv.1=k))=vs.any λkv=>decide (kv.1=k):=by
 unfold KV at r
 induction r with
 |nil=>rfl
 |cons h t ih=>rw[DP,DP,ih,h.1]
theorem KV.repl {kvs:List (κ×V)}{vs:List (κ×Value)}(r:KV kvs vs)(k:κ)(F:(u,y)) :
 KV (kvs.map λkv=>if kv.1=k then(kv.1,y) else kv) (vs.map λkv=>if kv.1=k then(kv.1,u) else kv):=by
 unfold KV at r ⊢
 induction r with
 |nil=>exact .nil
 |@cons p q ps qs h t ih=>
   rw[BM,BM];refine .cons ?_ ih;obtain⟨h1,h2⟩:=h
   by_cases e:p.1=k
   . rw[BB e,BB (h1.symm.trans e)];exact⟨h1,F⟩
   rw[AZ e,AZ (λz=>e (h1.trans z))];exact⟨h1,h2⟩
theorem KV.put {kvs:List (κ×V)}{vs:List (κ×Value)}(r:KV kvs vs)(k:κ)(F:(u,y)):KV (Eo kvs k y) (stored vs k u):=by
 unfold Eo stored;rw[r.any k]
 by_cases e:(vs.any λkv=>decide (kv.1=k))=true
 . rw[BB e,BB e];exact r.repl k F
 rw[AZ e,AZ e];exact Paired.snoc r ⟨rfl,F⟩
theorem KV.keys {kvs:List (κ×V)}{vs:List (κ×Value)}(r:KV kvs vs):kvs.map (·.1)=vs.map (·.1):=by
 unfold KV at r
 induction r with
 |nil=>rfl
 |cons h t ih=>rw[BM,BM,ih,h.1]
theorem KV.length {kvs:List (κ×V)}{vs:List (κ×Value)}(r:KV kvs vs):kvs.length=vs.length:=EI r
end
theorem R5 {w:World}{k:Key}(r:(u,kV k)):(B4 P w).is k u=true:=by
 cases k with
 |inl i=>obtain⟨t,e⟩:=(show ∃ t,u=Value.int i t from r);subst e;exact Ug P w i t
 |inr x=>obtain⟨t,e⟩:=(show ∃ t,u=Value.str x t from r);subst e;exact Um P w x t
theorem Tq {P:Program}{w:World}:∀ {ks:List Key} {us:AC},(R,ks.map kV)->ItemsAre (B4 P w) ks us
 | [],_,r=>by rw[FD] at r;cases r;exact .nil
 |k :: ks,_,r=>by
   rw[BM] at r
   cases r with
   |cons h t=>exact .cons (R5 h) (Tq t)
noncomputable abbrev KT (H:Hp):List (List Key×V)->List (List Key×Addr×Value)->Prop:=Paired λp q=>p.1=q.1/\H q.2.1=(23,p.1.map kV)/\RelV p.2 q.2.2
theorem KT.val {xs:List (List Key×Addr×Value)}(r:KT H kvs xs)(k:List Key):RelO (Cr kvs k) ((atKey xs k).map (·.2)):=by
 induction r with
 |nil=>exact CT
 |@cons p q ps qs h t ih=>
   obtain⟨h1,_,h2⟩:0:=h
   by_cases e:p.1=k
   . have F:q.1=k:=h1.symm.trans e;have b:atKey (q :: qs) k=some q.2:=by simp[atKey,List.find?_cons,F]
     rw[Bc e,b];exact h2
   have F:¬ q.1=k:=λz=>e (h1.trans z);have b:atKey (q :: qs) k=atKey qs k:=by simp[atKey,List.find?_cons,F]
   rw[B9 e,b];exact ih
theorem KT.repl   {xs:List (List Key×Addr×Value)} (r:KT H kvs xs) (k:List Key)   (O:(u,y)) :
 KT H (kvs.map λkv=>if kv.1=k then(kv.1,y) else kv) (xs.map (putAt k u)):=by
 induction r with
 |nil=>exact .nil
 |@cons p q ps qs h t ih=>
   rw[BM,BM];refine .cons ?_ ih;obtain⟨h1,h2,F⟩:0:=h;unfold putAt
   by_cases e:p.1=k
   . rw[BB e,BB (h1.symm.trans e)];exact⟨h1,h2,O⟩
   rw[AZ e,AZ (λz=>e (h1.trans z))];exact⟨h1,h2,F⟩
theorem KT.put {xs:List (List Key×Addr×Value)}(r:KT H kvs xs)(k:List Key){b:Addr}(hb:H b=(23,k.map kV))(F:(u,y)) :
 KT H (Eo kvs k y) (storedH xs k b u):=by
 have e:(kvs.any λkv=>decide (kv.1=k))=(atKey xs k).isSome:=by rw[Gk,(r.val k).isSome_eq,Option.isSome_map]
 unfold Eo storedH;rw[e]
 by_cases q:(atKey xs k).isSome=true
 . rw[BB q,BB q];exact r.repl k F
 rw[AZ q,AZ q];exact Paired.snoc r ⟨rfl,hb,F⟩
theorem KT.keeps {xs:List (List Key×Addr×Value)}(r:KT H kvs xs)(F:∀ b ys,H b=(23,ys)->H' b=(23,ys)):KT H' kvs xs:=
 Paired.mapP r λ_ _ z=>⟨z.1,F _ _ z.2.1,z.2.2⟩
section
variable {w:World}{h:Heap}
theorem NN {u:HO}(ok:HOk P w H h)(e:Rd H a u):ObjOk P w H h a u:=e.ok ok
theorem Qt {kvs:List (Key×V)}(ok:HOk P w H h)(e:Rd H a (.dK kvs)):kvs.length<=sizeLine/\(a==sysModules)=false/\∃ vs,KV kvs vs/\h.DictOf (B4 P w) a vs:=
 show ObjOk P w H h a (.dK kvs) from NN ok e
theorem Tt {kvs:List (Key×V)}(ok:HOk P w H h)(e:H a=(6,kvs)):kvs.length<=sizeLine/\(a==sysModules)=false/\∃ vs,KV kvs vs/\h.DictOf (B4 P w) a vs:=Qt ok (.inl e)
theorem Ng {ks:List Key}(ok:HOk P w H h)(e:H a=(23,ks.map kV)):(tupleKind (B4 P w)).is h ks a:=by obtain⟨_,its,r,o,h1,h2,⟨n,F⟩,_⟩:168420:=(show ObjOk P w H h a (.tup (ks.map kV)) from ok a _ e);exact⟨o,its.toArray,n,h1,h2,F,by simpa using Tq r⟩
theorem Su (ok:HOk P w H h)(e:Rd H a (.dT kvs)):kvs.length<=sizeLine/\(a==sysModules)=false /\
 ∃ xs,KT H kvs xs/\h.DictOfH (tupleKind (B4 P w)) a xs:=by
 obtain⟨z,y,xs,r,o,es,ep,h1,h2,O,U,Y⟩:488440:=(show ObjOk P w H h a (.dT kvs) from NN ok e);refine⟨z,y,xs,r,o,es,ep,h1,h2,O,U,λx F=>?_,Y⟩
 have all:∀ {l:List (List Key×V)} {m:List (List Key×Addr×Value)},KT H l m->∀ x∈m,(tupleKind (B4 P w)).is h x.1 x.2.1:=by
  intro l m q
  induction q with
  |nil=>intro x F;exact nomatch F
  |@cons p q ps qs hq t ih=>
    intro x F;rcases A0A.mp F with e|F
    . subst e;exact Ng ok (by rw[<- hq.1];exact hq.2.1)
    exact ih x F
 exact all r x F
theorem RL (ok:HOk P w H h)(e:H a=some (.dT kvs)):kvs.length<=sizeLine/\(a==sysModules)=false /\
 ∃ xs,KT H kvs xs/\h.DictOfH (tupleKind (B4 P w)) a xs:=Su ok (.inl e)
end
noncomputable def DGet (H:Hp)(a:Addr)(y:V)(r:Option V):Prop:=
 (∃ kvs k,Rd H a (.dK kvs)/\y=kV k/\r=Cr kvs k)\/∃ kvs k b,Rd H a (.dT kvs)/\y = .ref b/\H b=(23,k.map kV)/\r=Cr kvs k
noncomputable def DPut (H:Hp)(a:Addr)(y v:V)(H':Hp):Prop:=
 (∃ kvs k,H a=(6,kvs)/\y=kV k/\kvs.length<sizeLine/\H'=(B,a,.dK (Eo kvs k v))) \/
 ∃ kvs k b,H a=some (.dT kvs)/\y = .ref b/\H b=(23,k.map kV)/\kvs.length<sizeLine/\H'=(B,a,.dT (Eo kvs k v))
theorem DGet.k {kvs:List (Key×V)}{k:Key}(e:H a=(6,kvs)):DGet H a (kV k) (Cr kvs k):=.inl ⟨kvs,k,.inl e,rfl,rfl⟩
theorem DPut.k {kvs:List (Key×V)}{k:Key}{v:V}(e:H a=(6,kvs))(hl:kvs.length<sizeLine):DPut H a (kV k) v ((B,a,.dK (Eo kvs k v))):=.inl ⟨kvs,k,e,rfl,hl,rfl⟩
section
variable {σ:St}{v:V}{r:Value}{o:Option V}{A:Around}{E:AG}
theorem Inv.big (I:(4,s)):sysModules<s.heap.objs.size:=by have h:mainGlobals<s.heap.objs.size:=(I.mod.glob.keeps I.bk).lt;exact GA nofun h
theorem Yz (hu:A.units+1<cLine)(I:(4,s))(g:DGet H a y (some v))(ry:(u,y))(h:∀ F s',(4,s')->RelV v F->Q F s') :
 wpAny ((H,X.w)) A (getItem (.ref a) u) Q E s:=by
 rcases g with ⟨kvs,k,e,U,l⟩|⟨kvs,k,b,e,U,eb,l⟩
 . subst U;obtain⟨z,hd,vs,Z,O⟩:440:=Qt I.hok e;obtain⟨F,Y,a0⟩:1:=RelO.some_of (v:=v) (o:=valueAt vs k) (by rw[l];exact Z.val k);exact wpAny_getItem_of (R5 ry) O.mapOf Y (h F _ (I.tok _) a0)
 subst U
 cases (show u=Value.ref b from ry);obtain⟨z,hd,xs,Z,O⟩:440:=Su I.hok e;obtain⟨F,Y,a0⟩:1:=RelO.some_of (v:=v) (o:=(atKey xs k).map (·.2)) (by rw[l];exact Z.val k);obtain⟨p,hp,a1⟩:1:=A56.mp Y;refine wpAny_getItem_heap (FI hu) (Ng I.hok eb) O hp ?_;rw[a1];exact h F _ (I.tok _) a0
theorem d_in (hu:A.units+1<cLine)(I:(4,s))(g:DGet H a y o)(Y:(u,y))(h:∀ s',(4,s')->Q (.bool o.isSome) s') :
 wpAny ((H,X.w)) A (compareOp .In u (.ref a)) Q E s:=by
 rcases g with ⟨kvs,k,e,O,l⟩|⟨kvs,k,b,e,O,Z,l⟩
 . subst O;obtain⟨z,hd,vs,U,F⟩:440:=Qt I.hok e;refine wpAny_in_of (R5 Y) hd F.mapOf ?_;rw[<- (U.val k).isSome_eq,<- l];exact h _ (I.tok _)
 subst O
 cases (show u=Value.ref b from Y);obtain⟨z,hd,xs,U,F⟩:440:=Su I.hok e;refine wpAny_in_heap (FI hu) (Ng I.hok Z) hd F ?_;have q:=(U.val k).isSome_eq;rw[Option.isSome_map] at q;rw[<- q,<- l];exact h _ (I.tok _)
theorem au7 (hu:A.units+1<cLine)(I:(4,s))(g:DGet H a y o)(Y:(u,y))(h:∀ s',(4,s')->Q (.bool (!o.isSome)) s') :
 wpAny ((H,X.w)) A (compareOp .NotIn u (.ref a)) Q E s:=by
 rcases g with ⟨kvs,k,e,O,l⟩|⟨kvs,k,b,e,O,Z,l⟩
 . subst O;obtain⟨z,hd,vs,U,F⟩:440:=Qt I.hok e;refine wpAny_notIn_of (R5 Y) hd F.mapOf ?_;rw[<- (U.val k).isSome_eq,<- l];exact h _ (I.tok _)
 subst O
 cases (show u=Value.ref b from Y);obtain⟨z,hd,xs,U,F⟩:440:=Su I.hok e;refine wpAny_notIn_heap (FI hu) (Ng I.hok Z) hd F ?_;have q:=(U.val k).isSome_eq;rw[Option.isSome_map] at q;rw[<- q,<- l];exact h _ (I.tok _)
theorem Q2 {h':Heap}{ob:HO}(I:(4,s))(O:Mut (H a))(F:Heap.SameBut a s.heap h')(he:∃ q,h'.get? a=some q)(new:(70,X.w,(B,a,ob),h',a,ob)) :
 Inv X pins σ ((B,a,ob)) {s with heap:=h',toks:=t'}:=
 I.write (x:=a) (e:=a) O (.inl rfl) (λb q hb z=>(F.2 b hb).trans z) he new
theorem W0 {w:World}{h':Heap}{kvs:List (Key×V)}{vs:List (Key×Value)}(z:kvs.length<=sizeLine)(hd:(a==sysModules)=false)(O:KV kvs vs)(F:h'.DictOf (B4 P w) a vs) :
 ObjOk P w H' h' a (.dK kvs):=⟨z,hd,vs,O,F⟩
theorem WB {Q:Unit->Shared->Prop}(hu:A.units+1<cLine)(I:(4,s))(g:DPut H a y v H')(ry:(u,y))(rv:RelV v r)(h:∀ s',(T,X,σ,H',s')->Q () s') :
 wpAny ((H,X.w)) A (setItem (.ref a) u r) Q E s:=by
 rcases g with ⟨kvs,k,e,ey,l,Z⟩|⟨kvs,k,b,e,ey,eb,l,Z⟩
 . subst ey Z;obtain⟨z,hd,vs,F,Y⟩:440:=Tt I.hok e;have hz:vs.length<=sizeLine:=by rw[<- F.length];exact z
   have hl:(Eo kvs k v).length<=sizeLine:=by have:=Jy kvs k v;omega
   refine wpAny_setItem_pairs (hsz:=hz) (R5 ry) Y λh' O hs=>h _ ?_;have he:∃ q,h'.get? a=some q:=let ⟨q,_,_,U,_⟩:=O;⟨q,U⟩;exact Q2 I (by rw[e];exact CT) hs he (W0 hl hd (F.put k rv) O)
 subst ey Z
 cases (show u=Value.ref b from ry);obtain⟨z,hd,xs,F,Y⟩:440:=RL I.hok e;have hz:xs.length<=sizeLine:=by rw[<- EI F];exact z
 have hl:(Eo kvs k v).length<=sizeLine:=by have:=Jy kvs k v;omega
 refine wpAny_setItem_heap (hsz:=hz) (FI hu) (Ng I.hok eb) Y λh' O hs=>h _ ?_;obtain⟨q,es,ep,U,h2,h3,h4,_,h5⟩:3:=O;refine Q2 I (by rw[e];exact CT) hs ⟨q,U⟩ ⟨hl,hd,_,(F.put k eb rv).keeps λc ys ec=>?_,q,es,ep,U,h2,h3,h4,h5⟩;rw[Ap (ne_of ec e (λz=>nomatch z))];exact ec
end
section
variable {σ:St}{kvs:List (Key×V)}{k:Key}{A:Around}{E:AG}
theorem PQ (I:(4,s))(e:Rd H a (.dK kvs))(h:∀ t s',(4,s')->Q (.int kvs.length t) s'):wpAny ((H,X.w)) A ((95,"len",[.ref a])) Q E s:=by obtain⟨z,hd,vs,F,O⟩:440:=Qt I.hok e;refine call_len_dict hd O (by rw[<- F.length];rw[CH] at z;omega) ?_;rw[<- F.length];exact h _ _ (I.tok _)
end
theorem Uy {σ:St}{o:Option V}(I:(4,s))(g:DGet H a y o):s.TypeIs (.ref a) "dict":=by
 rcases g with ⟨kvs,k,e,_,_⟩|⟨kvs,k,b,e,_,_,_⟩
 . obtain⟨_,_,vs,_,F⟩:440:=Qt I.hok e;exact F.typeIs
 obtain⟨_,_,xs,_,F⟩:440:=Su I.hok e;exact F.typeIs
noncomputable def aF7 (td ty tv:TE):TS:=λD σ H=>tv σ H λv H1=>td σ H1 λx H2=>ty σ H2 λy H3=>∃ a H4,x = .ref a/\DPut H3 a y v H4/\D.nx σ H4
section
variable {o i e value:Expr}{pos' tpos:Pos}{td ty tv:TE}
theorem F7 (hu:X.A.units+1<cLine)(ho:PE X o td)(hi:PE X i ty)(hv:PE X value tv)(hs:swapsWith value (some (.Subscript o i pos')) pos.line X.env=pure false) :
 PS X (.Assign [.Subscript o i pos'] value pos) (aF7 td ty tv):=by
 intro pins s σ H D I h;refine wpAny_Assign_Subscript (BD (hv pins s σ H _ I h) λr s1 ⟨v,H1,O,rv,q1⟩=>BD (ho pins s1 σ H1 _ O q1) λu s2 ⟨x,H2,U,rx,q2⟩=>BD (hi pins s2 σ H2 _ U q2) λiv s3 ⟨y,H3,Y,ry,a,F,ex,g,q3⟩=>?_) hs;subst ex;obtain rfl:u=Value.ref a:=rx;exact WB hu Y g ry rv λs4 Z=>⟨σ,F,Z,q3⟩
end
theorem Wn {w:World}(h:Heap)(hb:sysModules<h.objs.size):ObjOk P w H (h.push {cls:=.type "dict",data:=.dict #[]}) h.objs.size (.dK []):=
 ⟨DJ _,A1A.mpr (Ne.symm (BN hb)),[],.nil,Heap.DictOf.new h⟩
noncomputable def aj6:TE:=λ_ H Q=>∀ p,H p=none->(C,p,(B,p,.dK []))
theorem Q1:PE X (.Dict [] [] pos) aj6:=λpins s σ H Q I h=>wpAny_Dict_empty ⟨.ref s.heap.objs.size,_,I.laid (a:=s.heap.objs.size) (o:=.dK []) (t':=s.toks) (λ_ _ q=>BH _ q) (BE _) (Wn s.heap I.big),rfl,h _ (61,_)⟩
noncomputable def Np:List (TE×TE)->St->Hp->(List (V×V)->Hp->Prop)->Prop
 | [],_,H,Q=>Q [] H
 | (tk,tv) :: r,σ,H,Q=>tk σ H λx H1=>tv σ H1 λy H2=>Np r σ H2 λps H3=>Q ((x,y) :: ps) H3
noncomputable abbrev VV:List (V×V)->List (Value×Value)->Prop:=Paired λp q=>RelV p.1 q.1/\RelV p.2 q.2
noncomputable def PPs (X:Cx)(pos:Pos)(keys:(91,Expr))(values:List Expr)(trs:List (TE×TE)):Prop:=
 ∀(pins:AI) (s:Shared) (σ:St) (H:Hp) (Q:List (V×V)->Hp->Prop),(4,s)->Np trs σ H Q ->
  (35,evalPairs (pairTrees keys values X.env pos),(λvs s'=>∃ ps H',(T,X,σ,H',s')/\VV ps vs/\Q ps H'))
theorem R0:PPs X pos [] [] []:=λpins s σ H Q I h=>pairTrees_nil_walk ⟨[],H,I,.nil,h⟩
theorem Go {k v:Expr}{ks:(91,Expr)}{vs:List Expr}{tk tv:TE}{F:List (TE×TE)}(hk:PE X k tk)(hv:PE X v tv)(hr:PPs X pos ks vs F) :
 PPs X pos (some k :: ks) (v :: vs) ((tk,tv) :: F):=λpins s σ H Q I h=>
 pairTrees_cons_walk (BD (hk pins s σ H _ I h) λu s1 ⟨x,H1,U,rx,q1⟩=>BD (hv pins s1 σ H1 _ U q1) λw2 s2 ⟨y,H2,Y,ry,q2⟩=>BD (hr pins s2 σ H2 _ Y q2) λws s3 ⟨ps,O,Z,a0,q3⟩=>⟨(x,y) :: ps,O,Z,.cons ⟨rx,ry⟩ a0,q3⟩)
noncomputable def Ez (kvs more:List (Key×V)):List (Key×V):=more.foldl (λacc kv=>Eo acc kv.1 kv.2) kvs
theorem KV.merge:∀ {more:List (Key×V)} {rs:List (Key×Value)} {kvs:List (Key×V)} {vs:List (Key×Value)},KV more rs->KV kvs vs->KV (Ez kvs more) (merged vs rs):=by
 intro more rs kvs vs r;unfold KV at r
 induction r generalizing kvs vs with
 |nil=>intro q;exact q
 |@cons p q ps qs h t ih=>
   intro F
   have e:KV (Eo kvs p.1 p.2) (stored vs q.1 q.2):=by have:=F.put p.1 h.2;rw[<- h.1];exact this
   exact ih e
theorem Em:∀(more kvs:List (Key×V)),(Ez kvs more).length<=kvs.length+more.length
 | [],kvs=>by show kvs.length<=kvs.length+0;omega
 |p :: r,kvs=>by have h1:=Em r (Eo kvs p.1 p.2);have h2:=Jy kvs p.1 p.2;show(Ez (Eo kvs p.1 p.2) r).length<=_;rw[BO];omega
theorem Oy {P:Program}{w:World}:∀ {kvs:List (Key×V)} {ws:List (Value×Value)},VV (kvs.map λkv=>(kV kv.1,kv.2)) ws->∃ rs,Carries (B4 P w) ws rs/\KV kvs rs
 | [], _,r=>by rw[FD] at r;cases r;exact⟨[],CT,.nil⟩
 |p :: kvs,_,r=>by
   rw[BM] at r
   cases r with
   |@cons a b as bs h t=>obtain⟨rs,c,q⟩:1:=Oy (P:=P) (w:=w) t;obtain⟨O,F⟩:=b;exact⟨(p.1,F) :: rs,⟨R5 h.1,rfl,c⟩,.cons ⟨rfl,h.2⟩ q⟩
noncomputable def aF4 (trs:List (TE×TE)):TE:=fun σ H Q=>∀ p,H p=none->Np trs σ ((B,p,.dK [])) λps H2=>H2 p=(6,[])/\∃ kvs:List (Key×V),ps=kvs.map (λkv=>(kV kv.1,kv.2))/\kvs.length<=15/\(C,p,upd H2 p (.dK (Ez [] kvs)))
theorem Q0 {keys:(91,Expr)}{F:List Expr}{Y:List (TE×TE)}(h:PPs X pos keys F Y)(a1:keys.all (·.isSome)=true)(hl:keys.length=F.length)(h0:keys≠[])
 (a0:keys.length<=15):PE X (.Dict keys F pos) (aF4 Y):=by
 intro pins s σ H Q I q;have hn:=(61,s.heap.objs.size);have Z:=I.laid (a:=s.heap.objs.size) (o:=.dK []) (h':=s.heap.push {cls:=.type "dict",data:=.dict #[]}) (t':=s.toks) (λ_ _ q=>BH _ q) (BE _) (Wn s.heap I.big);refine wpAny_Dict_walk (knd:=B4 X.prog X.w) a1 hl h0 a0 (BD (h pins _ σ _ _ Z (q _ hn)) λws s2 ⟨ps,H2,O,a2,e,kvs,ep,lk,q2⟩=>?_);subst ep;obtain⟨rs,c,rk⟩:1:=Oy (P:=X.prog) (w:=X.w) a2;obtain⟨z,hd,a3,r0,dd⟩:440:=Tt O.hok e
 cases r0;refine⟨rs,c,dd,λh' U hs=>⟨.ref s.heap.objs.size,_,?_,rfl,q2⟩⟩
 have hz:(Ez [] kvs).length<=sizeLine:=by have h1:=Em kvs [];rw[List.length_nil] at h1;rw[CH];omega
 have he:∃ q,h'.get? s.heap.objs.size=some q:=let ⟨q,_,_,hq,_⟩:=U;⟨q,hq⟩;exact Q2 O (by rw[e];exact CT) hs he (W0 hz hd (rk.merge .nil) U)
structure M1 (X:Cx)(o:Expr)(m:Str)(apos:Pos)(e:Expr)(cpos:Pos):Prop where
 base:(124,o,m,(s,o))=(s,o)
 few:(((80,[e])).all (λx=>!x.1)&&(backToKw cpos (keywordEach [] X.env)).all (λx=>x.1.isSome)
  && decide (([e]:List Expr).length+([]:List Keyword).length+(if([]:List Keyword).isEmpty then 0 else 1)<30))=true
 line:(apos.endLine==cpos.line)=true
 trees:(80,[e])=[(false,(s,e))]
structure M2 (X:Cx)(o:Expr)(m:Str)(apos:Pos)(e f:Expr)(cpos:Pos):Prop where
 base:(124,o,m,(s,o))=(s,o)
 few:(((80,[e,f])).all (λx=>!x.1)&&(backToKw cpos (keywordEach [] X.env)).all (λx=>x.1.isSome)
  && decide (([e,f]:List Expr).length+([]:List Keyword).length+(if([]:List Keyword).isEmpty then 0 else 1)<30))=true
 line:(apos.endLine==cpos.line)=true
 trees:(80,[e,f])=[(false,(s,e)),(false,(s,f))]
noncomputable def IsD (H:Hp)(a:Addr):Prop:=(∃ kvs,Rd H a (.dK kvs))\/∃ kvs,Rd H a (.dT kvs)
theorem MC {σ:St}(I:(4,s))(d:IsD H a) :
 s.TypeIs (.ref a) "dict" /\ (∀ b,Value.ref a = .ref b->∃ ob,s.heap.get? b=some ob/\ob.dict=none)/\(a==sysModules)=false:=by
 rcases d with ⟨kvs,e⟩|⟨kvs,e⟩
 . obtain⟨_,hd,vs,_,F⟩:440:=Qt I.hok e;refine⟨F.typeIs,λb q=>?_,hd⟩
   cases q;obtain⟨ob,_,_,h1,h2,_⟩:3:=F;exact⟨ob,h1,h2.2.1⟩
 obtain⟨_,hd,xs,_,F⟩:440:=Su I.hok e;refine⟨F.typeIs,λb q=>?_,hd⟩
 cases q;obtain⟨ob,_,_,h1,h2,_⟩:3:=F;exact⟨ob,h1,h2.2.1⟩
section
variable {σ:St}{d:V}{r:Value}{o:Option V}{A:Around}{E:AG}
theorem OY (hu:A.units+1<cLine)(I:(4,s))(g:DGet H a y o)(Z:(u,y))(h:∀ w' s',(4,s')->RelV (o.getD .non) w'->Q w' s') :
 wpAny ((H,X.w)) A ((95,"dict.get",[.ref a,u])) Q E s:=by
 rcases g with ⟨kvs,k,e,U,l⟩|⟨kvs,k,b,e,U,eb,l⟩
 . subst U;obtain⟨z,hd,vs,Y,O⟩:440:=Qt I.hok e;refine EN FP O.typeIs GW (PySem.F.args_dict_get_2 _ _) (meets_dict_get (78,X.w) a (R5 Z) hd) ⟨_,O.mapOf,h _ _ (I.tok _) ?_⟩;rw[l];exact(Y.val k).getD rfl
 subst U
 cases (show u=Value.ref b from Z);obtain⟨z,hd,xs,Y,O⟩:440:=Su I.hok e;refine EN FP O.typeIs GW (PySem.F.args_dict_get_2 _ _) (meetsH_dict_get (tupleKind (78,X.w)) a b hd) ⟨FI hu,k,xs,Ng I.hok eb,O,h _ _ (I.tok _) ?_⟩;rw[l];exact(Y.val k).getD rfl
theorem QR (hu:A.units+1<cLine)(I:(4,s))(g:DGet H a y o)(Z:(u,y))(rd:RelV d r)(h:∀ w' s',(4,s')->RelV (o.getD d) w'->Q w' s') :
 wpAny ((H,X.w)) A ((95,"dict.get",[.ref a,u,r])) Q E s:=by
 rcases g with ⟨kvs,k,e,U,l⟩|⟨kvs,k,b,e,U,eb,l⟩
 . subst U;obtain⟨z,hd,vs,Y,O⟩:440:=Qt I.hok e;refine EN FP O.typeIs GW (PySem.F.args_dict_get_3 _ _ _) (meets_dict_get_default (78,X.w) a (R5 Z) hd r) ⟨_,O.mapOf,h _ _ (I.tok _) ?_⟩;rw[l];exact(Y.val k).getD rd
 subst U
 cases (show u=Value.ref b from Z);obtain⟨z,hd,xs,Y,O⟩:440:=Su I.hok e;refine EN FP O.typeIs GW (PySem.F.args_dict_get_3 _ _ _) (meetsH_dict_get_default (tupleKind (78,X.w)) a b hd r) ⟨FI hu,k,xs,Ng I.hok eb,O,h _ _ (I.tok _) ?_⟩;rw[l];exact(Y.val k).getD rd
end
noncomputable def aj9 (td ty:TE):TE:=fun σ H Q=>td σ H λx H1=>∃ a,x = .ref a/\IsD H1 a/\ty σ H1 λy H2=>∃ o,DGet H2 a y o/\Q (o.getD .non) H2
noncomputable def ao2 (td ty tx:TE):TE:=fun σ H Q=>td σ H λx H1=>∃ a,x = .ref a/\IsD H1 a/\ty σ H1 λy H2=>tx σ H2 λz H3=>∃ o,DGet H3 a y o/\Q (o.getD z) H3
section
variable {o e f:Expr}{apos cpos:Pos}{td ty tx:TE}
theorem OR (hu:X.A.units+1<cLine)(Z:PE X o td)(he:PE X e ty)(m:M1 X o "get" apos e cpos):PE X ((88,o,"get",apos,[e],[],cpos)) (aj9 td ty):=by intro pins s σ H Q I h;refine wpAny_Call_method m.base m.few m.line GV FP PySem.F.type_dict_get (BD (Z pins s σ H _ I h) λu s1 ⟨x,H1,O,rx,a,ex,d,q1⟩=>?_);subst ex;obtain rfl:u=Value.ref a:=rx;obtain⟨t1,t2,_⟩:0:=MC O d;refine⟨t1,t2,?_⟩;rw[m.trees];refine GI rfl (HZ (GG (BD (he pins s1 σ H1 _ O q1) λiv s2 ⟨y,H2,U,ry,ov,g,q2⟩=>HS ?_)));exact OY hu U g ry λw' s3 Y a0=>⟨_,H2,Y,a0,q2⟩
theorem TM (hu:X.A.units+1<cLine)(ho:PE X o td)(he:PE X e ty)(hf:PE X f tx)(m:M2 X o "get" apos e f cpos):PE X ((88,o,"get",apos,[e,f],[],cpos)) (ao2 td ty tx):=by
 intro pins s σ H Q I h;refine wpAny_Call_method m.base m.few m.line GV FP PySem.F.type_dict_get (BD (ho pins s σ H _ I h) λu s1 ⟨x,H1,O,rx,a,ex,d,q1⟩=>?_);subst ex;obtain rfl:u=Value.ref a:=rx;obtain⟨t1,t2,_⟩:0:=MC O d;refine⟨t1,t2,?_⟩;rw[m.trees]
 refine GI rfl (HZ (GG (BD (he pins s1 σ H1 _ O q1) λiv s2 ⟨y,H2,Y,ry,q2⟩=>GG (BD (hf pins s2 σ H2 _ Y q2) λfv s3 ⟨z,U,Z,rz,ov,g,q3⟩=>HS ?_))))
 exact QR hu Z g ry rz λw' s4 I4 a0=>⟨_,U,I4,a0,q3⟩
end
end L2
namespace Att
open PySem PySem.W PySem.Calls PyProof.Rows
theorem O5 {P:Params}{h:Heap}:∀(ns:List Int) (vs:AC),WellAll P h vs (ns.map WData.int)->IntsAre vs ns:=by
 intro ns
 induction ns with
 |nil=>
   intro vs w;rw[FD] at w
   cases w;exact .nil
 |cons n ns ih=>
   intro vs w;rw[BM] at w
   cases w with
   |cons a b=>cases a;exact .cons _ _ (ih _ b)
theorem WY {l:OpenLaw}{n:Nat}(hn:l.most=some n){P:Params}{h:Heap}{args:List WData}{Z:AC}
 (Y:l.row.toRowW.claim.pre args=true) (a2:WellAll P h Z args) :
 ∃ a vs ns,Z=[Value.ref a]/\args=[WData.list (ns.map WData.int)]/\h.get? a=some {cls:=.type "list",data:=.seq vs.toArray}/\IntsAre vs ns/\ns.length<=n:=by
 have a1:WShape.hasAll [] args [.list .int]=true:=(pre_splitW Y).1;have U:l.pre.holds [] {args:=args}=true:=(pre_splitW Y).2;obtain⟨d,r,rfl,h1,h2⟩:2:=hasAllW_cons a1;obtain rfl:=hasAllW_nil h2;obtain⟨xs,rfl,h3⟩:1:=hasW_list h1;obtain⟨ns,rfl⟩:=items_int h3
 have a0:ns.length<=n:=by
  unfold OpenLaw.pre at U
  have F:(WTm.not (.lt (.lit (.int (n:Int))) (.len (.arg 0)))).holds [] {args:=[.list (ns.map .int)]}=true:=by have F:=(holds_andW U).1;rw[hn] at F;exact F
  have O:=condW_of F (w_not (w_lt w_lit (w_len_list (w_arg rfl))));rw[BA] at O;refine Nat.le_of_not_lt λq=>?_;have q':(n:Int)<((ns.length:Nat):Int):=by omega
  first
   | (rw[BY q'] at O;exact absurd O nofun)
   | (simp at O;omega)
 cases a2 with
 |cons w1 w2=>
   cases w2
   cases w1 with
   |list ho hall=>exact⟨_,_,ns,rfl,rfl,ho,O5 ns _ hall,a0⟩
theorem Zm (l:OpenLaw)(args:List WData):l.row.toRowW.claim.post args (.bool true) args=true:=
 postW_of (r:=l.row.toRowW) (X:=(true==true))
  (show WShape.has [] (.bool true) .bool=true by first | rfl | decide | simp[WShape.has,WShape.arms,WShape.armsAll])
  (show(WTm.eq .res (.lit (.bool true))).value [] {args:=args,res:=some (.bool true),after:=args}=some (.bool (true==true)) from w_eq_bool (w_res rfl) w_lit) rfl
theorem attach_call {l:OpenLaw}{n:Nat}{q:Program}{a0:AA}{Z:(Str->Option Value)->Heap->Prop}{YP:World->Heap->Prop}{d:DefRec}
 (hn:l.most=some n) (hdf:d.params.defaults=[])
 (call:∀(w:World) (s₀ F:Shared) (mg mb:AH) (O:Addr) (o:Obj) (pm cd U:Value) (a:Addr) (vs:AC) (ns:List Int),
  Ground q a0 [] Z w s₀ mg mb F.heap->YP w F.heap ->
  F.heap.get? O=some o->o.data = .func (docDef d.name d.params d.body d.scope pm cd U)->F.heap.CodeRec cd d.name->mg d.name=(3,O) ->
  F.heap.get? a=some {cls:=.type "list",data:=.seq vs.toArray}->IntsAre vs ns->ns.length<=n->F.gens = #[] ->
  codeAny (16,l.prog) callerA (.call (.ref O) ⟨[.ref a],[]⟩) (λr s'=>r = .ok (.ret (.bool true))/\OldK F.heap s'.heap/\s'.os=F.os/\AllBare s'.gens) F) :
 WalkO q a0 Z YP l.row.toRowW d [] (λf vs=>PySem.call f vs):=by
 intro w s₀ F mg mb G Y O o pm cd U dV kV ho hd hcd hD hmg hg args vals as hpre hlay hrd hwl hlo;obtain rfl:dV = .none:=Dflts.none hD hdf;obtain rfl:kV = .none:=Dflts.noKw hD;obtain⟨a,vs,ns,rfl,rfl,hobj,hints,hlen⟩:3:=WY hn hpre hwl;refine enter_call (codeAny_mono (call w s₀ F mg mb O o pm cd U a vs ns G Y ho (fd_plain hd) hcd hmg hobj hints hlen hg) λr s' hq=>?_);obtain⟨rfl,h2,h3,h4⟩:0:=hq;exact⟨.inl ⟨.bool true,.bool true,[],rfl,λ_=>rfl,.bool true,Zm l _,λ_=>⟨List.Pairwise.nil,λ_ hm=>(nomatch hm)⟩⟩,h2,h3,h4⟩
end Att
namespace L2
open PySem PySem.Spec PyProof.Rows
variable {f l a d r:Addr}{X:Cx}{D:Ends}{tg elt iter:Expr}{H H1 H2 H':Hp}{G:Hp->Prop}{lo:Int}{J:It}{R:It->Hp->Prop}{pins:AI}{kvs:List (Key×V)}{ps qs:AB}{as:AF}{ifs:List Expr}{js:AE}{ds:AD}{ms ls:AA}{xs ys acc:List V}{i m:Nat}{Pv:Nat->List V->Hp->Prop}{pos:Pos}{P:Program}{B:Prop}{scope:Scope}{s:Shared}{st:Stmt}{x qual y z:Str}{ts:TA}{te:TE}{g:TG}{wi:TI}{v:V}{Q:VK}{E:AG}
theorem Ta:∀ {vs:AC} {ns:List Int},IntsAre vs ns->Vals (ns.map V.int) vs
 |_,_,.nil=>.nil
 |_,_,.cons n t h=>.cons ⟨t,rfl⟩ (Ta h)
noncomputable def Jn (s:Stmt)(j:Nat):Stmt:=match s with
 |.ClassDef _ _ _ body _ _ _ _ _ _ _=>body.getD j (.Pass ⟨0,0,0,0⟩)
 |_=>.Pass ⟨0,0,0,0⟩
noncomputable def Br (s:Stmt):Arguments:=match s with
 |.FunctionDef _ a _ _ _ _ _ _ _ _=>a
 |_=>{posonlyargs:=[],args:=[],vararg:=none,kwonlyargs:=[],kw_defaults:=[],kwarg:=none,defaults:=[]}
noncomputable def Bb (s:Stmt):List Stmt:=match s with
 |.FunctionDef _ _ b _ _ _ _ _ _ _=>b
 |_=>[]
noncomputable def A8 (s:Stmt):Scope:=match s with
 |.FunctionDef _ _ _ _ _ _ sc _ _ _=>sc
 |_=>{kind:=.function,names:=[],isGenerator:=false,isCoroutine:=false}
noncomputable abbrev CX0:CXT:=λ_ _ _ _ _ _=>False
noncomputable abbrev E0:XK:=λ_ _ _=>False
theorem JY:J6 CX0 X E0:=λ_ _ _ _ _ _ _ h=>h.elim
structure Fun (K:W.Frag)(x qual:Str)(st:Stmt)(f:Addr)(fd:FuncData):Prop where
 ex:∃(oc:Value) (od:Option Addr) (kV doc pm:Value) (an:Option Addr) (cdv ct:Value) (osl:(121,Value)),
  fd=(43,x,qual,Br st,Bb st,A8 st,kV,doc,pm,an,cdv,ct)/\K.lookup f=some ⟨oc,od,.func fd,osl⟩/\(73,cdv,qual)=true
 kp:(V,K,f)=true
section
variable {w:World}{K:W.Frag}{mg:AH}{base:Heap}
theorem Fun.ok {fd:FuncData}{N ps:AA}{k:Nat}{sp:Sp}(F:Fun K x qual st f fd)(S:Ah N ps (A8 st))(len:∀ vs H Q E,sp vs H Q E->vs.length=ps.length)
 (U:∀(O:Value) (A:Around) (outer:List Env) (s:Shared) (H:Hp) (vs:List V) (Q:VK) (E:XK),Room k (A.deeper (96,qual,A8 st,f,O))->sp vs H Q E ->
  ∃ t,PSs ((72,CX0,P,w,K,mg,N,A8 st,f,O,A,s,H,E)).nox (Bb st) t/\t {nx:=λ_ H'=>Q .non H',rt:=Q} (start N vs) H):FnOk P w K mg base CX0 (k+1) f fd ps sp:=by
 obtain⟨oc,od,kV,a1,pm,an,O,ct,osl,rfl,lk,Y⟩:9:=F.ex;refine JQ lk Y S len λA outer s H vs Q E Z a0=>?_;obtain⟨t,h,q⟩:1:=U O A outer s H vs Q E Z a0;exact⟨t,h.nox,q⟩
theorem Fun.binds {fd:FuncData}{ps:AA}(F:Fun K x qual st f fd)
 (h:∀(kV U pm:Value) (an:Option Addr) (O ct:Value) (us:AC),us.length=ps.length->bindArgs (43,x,qual,Br st,Bb st,A8 st,kV,U,pm,an,O,ct) ⟨us,[]⟩=pure (ps.zip us)):Binds K fd ps []:=by
 obtain⟨oc,od,kV,U,pm,an,O,ct,osl,rfl,lk,Y⟩:9:=F.ex;exact .all (h kV U pm an O ct)
theorem J4 {oc:Value}{od an:Option Addr}{osl:(121,Value)}{kV O pm F ct:Value}(l:K.lookup f=some ⟨oc,od,.func (43,x,qual,Br st,Bb st,A8 st,kV,O,pm,an,F,ct),osl⟩)
 (c:(73,F,qual)=true) (k:(V,K,f)=true):Fun K x qual st f ((43,x,qual,Br st,Bb st,A8 st,kV,O,pm,an,F,ct)):=⟨⟨oc,od,kV,O,pm,an,F,ct,osl,rfl,l,c⟩,k⟩
end
theorem Bp {A:Around}{k:Nat}(F:Room k A):A.units+1<cLine:=Nat.lt_of_le_of_lt (Nat.add_le_add_left (by decide:1<=64) _) F.units
theorem Z4 {n:Nat}(h:n<=1000):n<sizeLine:=Nat.lt_of_le_of_lt h nofun
theorem pv (i:Nat)(F:X.N[i]? = some x:=by ac_nf)(U:Vis X.env.scope x:=by with_unfolding_all first | exact Or.inl rfl | exact CJ (Or.inl rfl) | exact CJ (CJ rfl))(hd:(x==("__debug__":Str))=false:=by decide)
 (O:(x==("__classdict__":Str))=false:=by decide):PE X (.Name x pos) (aP9 i):=TC F U hd O
theorem iteF {A:Prop}(h:B):if false=true then A else B:=by rw[AZ BX];exact h
theorem iteT {A B:Prop}(h:A):if true=true then A else B:=by rw[BB rfl];exact h
theorem KS {c A:Prop}[Decidable c](h1:c->A)(h2:¬ c->B):if c then A else B:=by
 by_cases h:c
 . rw[BB h];exact h1 h
 rw[AZ h];exact h2 h
noncomputable def Same (H H':Hp):Prop:=∀ b o,H b=some o->H' b=some o
theorem Same.refl (H:Hp):Same H H:=λ_ _ h=>h
theorem Same.trans  (a:(5,H1)) (b:Same H1 H2):Same H H2:=λc o h=>b c o (a c o h)
theorem Same.free (e:(5,H'))(h:H' l=Option.none):H l=Option.none:=by
 cases q:H l with
 |none=>rfl
 |some o=>
   rw[e l o q] at h
   cases h
theorem Same.seq {K:W.Frag}(e:(5,H'))(h:(N,a)):SqL K H' a xs:=by
 rcases h with (h|⟨o,h⟩)|h
 . exact(93,e _ _ h)
 . exact .inl (.inr ⟨o,e _ _ h⟩)
 exact .inr h
theorem YE:CallR X (.builtin "len") (λxs H Q=>∃ a kvs,xs=[V.ref a]/\H a=(6,kvs)/\(X,kvs.length,H)):=by
 intro pins s σ H xs us Q I r h;obtain⟨a,kvs,rfl,ha,q⟩:2:=h;obtain⟨u,rfl,O⟩:1:=Jx r
 cases O;exact PQ I (.inl ha) λt s' F=>⟨.int kvs.length,H,F,⟨t,rfl⟩,q⟩
section
variable {κ:Type}[DecidableEq κ]
theorem YJ {kvs:List (κ×V)}{k:κ}(h:Cr kvs k=none):¬ k∈kvs.map (·.1):=by intro m;obtain⟨p,hp,e⟩:1:=A0D.mp m;have q:(kvs.any λkv=>decide (kv.1=k))=true:=A1E.mpr ⟨p,hp,BY e⟩;rw [Gk,h] at q;exact(65,q)
theorem MX:∀ {l:List κ} {k:κ},l.Nodup->¬ k∈l->(l++[k]).Nodup
 | [],k,_,_=>by simp
 |a :: r,k,h,hk=>by
   obtain⟨h1,h2⟩:=A0W.mp h;show(a :: (r++[k])).Nodup;refine A0W.mpr ⟨λm=>?_,MX h2 λm=>hk (A0A.mpr (CJ m))⟩;rcases A0B.mp m with q|q
   . exact h1 q
   exact hk (A0A.mpr (Or.inl (A1C.mp q).symm))
theorem ZN {kvs:List (κ×V)}{k:κ}(v:V)(hn:(kvs.map (·.1)).Nodup)(h:Cr kvs k=none):((Eo kvs k v).map (·.1)).Nodup:=by rw[Kk v h,BU];exact MX hn (YJ h)
end
noncomputable def M4 (env:Env)(names:List (Str×NameKind))(acc:List (Str×Addr)):List (Str×Addr):=
 names.foldl (λacc y=>if y.2==NameKind.free then(y.1,(env.cells.lookup y.1).getD 0) :: acc else acc) acc
theorem Pd {env:Env}(h:∀ y∈scope.names,y.2=NameKind.free->∃ c,env.cells.lookup y.1=some c):closureFor scope env=pure ((81,env,[])):=by
 have all:∀(names:List (Str×NameKind)) (acc:List (Str×Addr)),(∀ y∈names,y.2=NameKind.free->∃ c,env.cells.lookup y.1=some c) ->
  (forIn names acc λ(y:Str×NameKind) (cs:List (Str×Addr))=>(match y with
   | (name,kind)=>if(kind==NameKind.free)=true then do let c <- cellOf env name;pure (ForInStep.yield ((name,c) :: cs)) else pure (ForInStep.yield cs):Sem (ForInStep (List (Str×Addr)))))=(pure (M4 env names acc):Sem (List (Str×Addr))):=by
  intro names
  induction names with
  |nil=>intro acc _;rfl
  |cons y r ih=>
    intro acc O;obtain⟨n,k⟩:=y;rw[List.forIn_cons]
    by_cases Y:k=NameKind.free
    . subst Y;obtain⟨c,U⟩:=O (n,.free) BQ rfl;have e:cellOf env n=pure c:=by unfold cellOf;rw[show env.cells.lookup n=some c from U]
      have F:M4 env ((n,NameKind.free) :: r) acc=M4 env r ((n,c) :: acc):=by unfold M4;rw[GZ];simp only[beq_self_eq_true,if_true];rw[show env.cells.lookup n=some c from U];rfl
      rw[F,<- ih ((n,c) :: acc) λz hz=>O z (BP _ hz)];simp only[beq_self_eq_true,if_true,e];rfl
    have hb:(k==NameKind.free)=false:=by simpa using Y
    have F:M4 env ((n,k) :: r) acc=M4 env r acc:=by unfold M4;rw[GZ];simp only[hb,Bool.false_eq_true,if_false]
    rw[F,<- ih acc λz hz=>O z (BP _ hz)];simp only[hb,Bool.false_eq_true,if_false];rfl
 have q:=all scope.names [] h;unfold closureFor
 first
  |exact q
  | (simp only[bind_pure];exact q)
  | (refine Eq.trans ?_ q;rfl)
theorem Vq {env:Env}{x:Str}{c:Addr}:∀ {names:List (Str×NameKind)} {acc:List (Str×Addr)},(∀ y∈names,y.2=NameKind.free->∃ c,env.cells.lookup y.1=some c)->(acc.lookup x=some c->env.cells.lookup x=some c) ->
 (M4 env names acc).lookup x=some c->env.cells.lookup x=some c
 | [],acc,_,ha,h=>ha h
 | (n,k) :: r,acc,hn,ha,h=>by
   have e:M4 env ((n,k) :: r) acc=M4 env r (if k==NameKind.free then(n,(env.cells.lookup n).getD 0) :: acc else acc):=rfl
   rw[e] at h;refine Vq (λy Y=>hn y (BP _ Y)) (λq=>?_) h
   by_cases O:k=NameKind.free
   . subst O;simp only[beq_self_eq_true,if_true,List.lookup_cons] at q;obtain⟨d,hd⟩:=hn (n,.free) BQ rfl;have F:env.cells.lookup n=some d:=hd
     split at q
     . rename_i hx;have U:x=n:=A2Y.mp hx;rw[F] at q;rw[U,F];exact q
     exact ha q
   have hb:(k==NameKind.free)=false:=by simpa using O
   simp only[hb,Bool.false_eq_true,if_false] at q;exact ha q
theorem Qy {env:Env}{x:Str}:∀ {names:List (Str×NameKind)} {acc:List (Str×Addr)},((∃ c,acc.lookup x=some c)\/(x,NameKind.free)∈names)->∃ c,(M4 env names acc).lookup x=some c
 | [],acc,h=>by
   rcases h with h|h
   . exact h
   cases h
 | (n,k) :: r,acc,h=>by
   have e:M4 env ((n,k) :: r) acc=M4 env r (if k==NameKind.free then(n,(env.cells.lookup n).getD 0) :: acc else acc):=rfl
   rw[e];refine Qy ?_
   by_cases F:k=NameKind.free
   . subst F;simp only[beq_self_eq_true,if_true,List.lookup_cons]
     by_cases O:x=n
     . left;have hb:(x==n)=true:=A2Y.mpr O;rw[hb];exact⟨_,rfl⟩
     have hb:(x==n)=false:=A1A.mpr O;rw[hb];rcases h with h|h
     . exact .inl h
     rcases A0A.mp h with q|q
     . cases q;exact(71,O)
     exact .inr q
   have hb:(k==NameKind.free)=false:=by simpa using F
   simp only[hb,Bool.false_eq_true,if_false];rcases h with h|h
   . exact .inl h
   rcases A0A.mp h with q|q
   . cases q;exact(71,F)
   exact .inr q
theorem Dm:∀(names:List (Str×NameKind)) (n:Nat) (acc:List (Str×Addr)),cellsFrom n names acc=cellsFrom n names []++acc
 | [],_,_=>rfl
 | (x,k) :: r,n,acc=>by
   unfold cellsFrom
   split
   . rw[Dm r (n+1) ((x,n) :: acc),Dm r (n+1) [(x,n)],CK];rfl
   exact Dm r n acc
theorem Kv {x:Str}{c:Addr}:∀ {names:List (Str×NameKind)} {n:Nat},(x,c)∈cellsFrom n names []->(x,NameKind.cell)∈names
 | [],_,h=>by cases h
 | (y,k) :: r,n,h=>by
   unfold cellsFrom at h
   split at h
   . rename_i hk;rw[Dm] at h;rcases A0B.mp h with h|h
     . exact BP _ (Kv h)
     have e:=A1C.mp h
     cases e;rw[A2Y.mp hk];exact BQ
   exact BP _ (Kv h)
theorem Ms {α:Type}{x:Str}{c:α}:∀ {l:List (Str×α)},(x,c)∈l->∃ d,l.lookup x=some d
 | [],h=>by cases h
 | (y, d) :: r,h=>by
   rw[DI]
   cases e:x==y with
   |true=>exact⟨d,rfl⟩
   |false=>
     rcases A0A.mp h with q|q
     . cases q;simp at e
     exact Ms q
theorem K4 {x:Str}:∀ {names:List (Str×NameKind)} {n:Nat},(x,NameKind.cell)∈names->∃ c,(x,c)∈cellsFrom n names []
 | [],_,h=>by cases h
 | (y,k) :: r,n,h=>by
   unfold cellsFrom
   split
   . rw[Dm];rcases A0A.mp h with q|q
     . cases q;exact⟨n,List.mem_append_right _ 'c'⟩
     obtain⟨c,F⟩:=K4 (n:=n+1) q;exact⟨c,BZ _ F⟩
   rename_i hk;rcases A0A.mp h with q|q
   . cases q;exact(71,hk)
   exact K4 q
noncomputable def Vz (outer scope:Scope)(xs fr:AA):Bool:=
 (scope.kind == .function)&&(outer.kind == .function)&&decide (scope.names.map (·.1)).Nodup
 && (scope.names.all λy=>y.2 != .local||scope.names.lookup y.1==some .local)
 && (scope.names.all λy=>y.2 != .free||(outer.names.lookup y.1==some .cell||outer.names.lookup y.1==some .free))
 && (scope.names.all λy=>y.2 != .free||scope.names.lookup y.1==some .free)
 && (xs.all λx=>scope.names.lookup x==some .local||scope.names.lookup x==some .cell)&&(fr.all λx=>scope.names.lookup x==some .free)&&decide (xs++fr).Nodup
theorem Dc {α:Type}{x:Str}{v:α}:∀ {l:List (Str×α)},l.lookup x=some v->(x,v)∈l
 | [],h=>by cases h
 | (n,k) :: r,h=>by
   rw[DI] at h
   split at h
   . rename_i hx;have F:x=n:=A2Y.mp hx
     cases h;rw[F];exact BQ
   exact BP _ (Dc h)
theorem J5 {scope:Scope}{env:Env}{x:Str}{k:NameKind}(Y:env.scope.kind = .function):∀ {names:List (Str×NameKind)},names.lookup x=some k ->
 (names.map λ(n,k)=>if(k==NameKind.free&&env.scope.kind == .function&&env.kindOf n==some .cell) then(n,NameKind.cell) else(n,k)).lookup x=some (if(k==NameKind.free&&env.kindOf x==some .cell) then .cell else k)
 | [],h=>by cases h
 | (n,j) :: r,h=>by
   have Z:=@J5 scope env x k Y r;rw[BM];rw[DI] at h;dsimp only
   split at h
   . rename_i hx;have O:x=n:=A2Y.mp hx
     cases h;subst O
     by_cases F:(k==NameKind.free&&env.scope.kind == .function&&env.kindOf x==some .cell)=true
     . have U:(k==NameKind.free&&env.kindOf x==some .cell)=true:=by rw[CA,CA] at F;rw[CA];exact⟨F.1.1,F.2⟩
       rw[BB F,BB U,DI,GY]
     have U:¬ (k==NameKind.free&&env.kindOf x==some .cell)=true:=λq=>F (by rw[CA] at q;rw[CA,CA,Y];exact⟨⟨q.1,rfl⟩,q.2⟩)
     rw[AZ F,AZ U,DI,GY]
   rename_i hx;have O:(x==n)=false:=by simpa using hx
   by_cases F:(j==NameKind.free&&env.scope.kind == .function&&env.kindOf n==some .cell)=true
   . rw[BB F,DI,O];exact Z h
   rw[AZ F,DI,O];exact Z h
theorem Fx {env:Env} {x:Str} {k:NameKind}:∀ {names:List (Str×NameKind)},
 (names.map λ(n,k)=>if(k==NameKind.free&&env.scope.kind == .function&&env.kindOf n==some .cell) then(n,NameKind.cell) else(n,k)).lookup x=some k ->
 ∃ j,names.lookup x=some j/\(k=j\/(j = .free/\k = .cell))
 | [],h=>by cases h
 | (n,j) :: r,h=>by
   have O:=@Fx env x k r;rw[BM] at h;dsimp only at h
   by_cases F:(j==NameKind.free&&env.scope.kind == .function&&env.kindOf n==some .cell)=true
   . rw[BB F,DI] at h
     have U:j = .free:=by rw[CA,CA] at F;exact A2Y.mp F.1.1
     rw[DI]
     split at h
     . rename_i hx
       cases h;exact⟨j,rfl,.inr ⟨U,rfl⟩⟩
     rename_i hx;have Y:(x==n)=false:=by simpa using hx
     exact O h
   rw[AZ F,DI] at h;rw[DI]
   split at h
   . rename_i hx
     cases h;exact⟨_,rfl,.inl rfl⟩
   rename_i hx;have Y:(x==n)=false:=by simpa using hx
   exact O h
structure CompS (X:Cx)(scope:Scope)(xs fr:AA):Prop where
 kind:scope.kind = .function
 okind:X.env.scope.kind = .function
 uniq:(scope.names.map (·.1)).Nodup
 names:∀ y∈scope.names,y.2 = .local->scope.names.lookup y.1=some .local
 free:∀ y∈scope.names,y.2 = .free->X.env.kindOf y.1=some .cell\/X.env.kindOf y.1=some .free
 own:∀ x∈xs,scope.names.lookup x=some .local\/scope.names.lookup x=some .cell
 fre:∀ x∈fr,scope.names.lookup x=some .free
 nd:(xs++fr).Nodup
theorem Vu {xs fr:AA}(h:Vz X.env.scope scope xs fr=true):CompS X scope xs fr:=by unfold Vz at h;simp only[Bool.and_eq_true,List.all_eq_true,bne_iff_ne,Bool.or_eq_true,beq_iff_eq,decide_eq_true_eq] at h;obtain⟨⟨⟨⟨⟨⟨⟨⟨h1,h2⟩,O⟩,U⟩,Y⟩,h6⟩,Z⟩,h8⟩,h9⟩:=h;exact⟨h1,h2,O,λy F e=>(U y F).resolve_left (λq=>q e),λy F e=>(Y y F).resolve_left (λq=>q e),Z,h8,h9⟩
noncomputable def Ob (σ:St)(js:AE):St:=js.map λj=>(σ[j]?).getD none
noncomputable abbrev cxC (X:Cx)(scope:Scope)(xs fr:AA)(C:Addr)(ex:AF)(s₀:Shared)(H₀:Hp):Cx:=
 {X with N:=xs++fr,env:=compEnvC scope (42,(C+1),(81,X.env,[])) C X.env,s₀:=s₀,H₀:=H₀,outer:=X.stack,ex:=ex,fn:=λx=>scope.names.lookup x==some .cell,pn:=[],xe:=λ_ _=>False}
section
variable {xs fr:AA}{σ:St}{fp:AF}
theorem Sq {α:Type}{x:Str}{v:α}:∀ {l:List (Str×α)},(l.map (·.1)).Nodup->(x,v)∈l->l.lookup x=some v
 | [],_,h=>by cases h
 | (y,d) :: r,hn,h=>by
   obtain⟨h1,h2⟩:=A0W.mp hn;rw[DI];rcases A0A.mp h with q|q
   . cases q;rw[GY]
   have F:(x==y)=false:=A1A.mpr λe=>h1 (e ▸ A0D.mpr ⟨(x,v),q,rfl⟩);rw[F];exact Sq h2 q
theorem CompS.cells (S:CompS X scope xs fr)(ok:X.Ok):∀ y∈scope.names,y.2=NameKind.free->∃ c,X.env.cells.lookup y.1=some c:=λy F e=>ok.has _ (S.free y F e)
theorem ZV (S:CompS X scope xs fr)(a7:js.map (λj=>X.N[j]?)=fr.map some)(I:(4,s))(a4:∀ b∈fp,Vo X pins H b)(aD:∀ b∈fp,∃ o,s.heap.get? b=some o){h':Heap}{t':Nat}
 (hn:h'.Ns s.heap.objs.size λ_=>none) (keep:∀ b o,s.heap.get? b=some o->h'.get? b=some o) (a3:CellsOk h' (s.heap.objs.size+1) (42,(s.heap.objs.size+1),[])) :
 Inv ((49,X,xs,fr,s.heap.objs.size,fp,s,H)) [] ((30,xs.length)++Ob σ js) H {s with heap:=h',toks:=t'}:=by
 have aA:=S.cells I.ok;have sub:∀ x c,((81,X.env,[])).lookup x=some c->X.env.cells.lookup x=some c:=λx c h=>Vq aA (λq=>by cases q) h;have hl:js.length=fr.length:=by have:=congrArg List.length a7;rwa[BA,BA] at this
 have two:∀ x c,((42,(s.heap.objs.size+1),(81,X.env,[]))).lookup x=some c->(x,c)∈(42,(s.heap.objs.size+1),[])\/((81,X.env,[])).lookup x=some c:=λx c h=>by
  rw[Dm,HM] at h
  cases e:((42,(s.heap.objs.size+1),[])).lookup x with
  |some d=>
    rw[e] at h
    cases h;exact .inl (Dc e)
  |none=>rw[e] at h;exact .inr h
 have a8:∀ x c,X.env.cells.lookup x=some c->c<s.heap.objs.size:=λx c h=>let ⟨_,_,Y,_⟩:=I.cell x c h;BF Y;have a0:∀ x c,(x,c)∈(42,(s.heap.objs.size+1),[])->s.heap.objs.size<c:=λx c h=>(a3.empty x c h).2
 refine⟨⟨I.ok.mod,S.kind,I.ok.glob,I.ok.blt,BE _,λx y c h1 h2=>?_,λx hx=>?_,λx c hf h=>?_,I.ok.hd,I.ok.frames,.inl rfl,λb hb=>?_,λb o e=>I.bs b o e,BI I.ok.bsz I.sz,λb o e hb=>?_,λb hb a9=>?_,I.stack,I.stkFree⟩,
  rfl,I.bare,Un.kept keep,⟨_,hn,λi x v e1 O e3=>?_⟩,λx c h=>?_,I.hok.fresh (Nat.le_refl _),λx c h=>?_,λp hp=>(65,(show p∈([]:AI) from hp)),I.hok.kept keep,?_⟩
 . rcases two x c h1 with g1|g1
   . rcases two y c h2 with g2|g2
     . exact name_of_addr a3.apart g1 g2
     exact absurd (a8 y c (sub y c g2)) (Nat.not_lt.mpr (DM (a0 x c g1)))
   rcases two y c h2 with g2|g2
   . exact absurd (a8 x c (sub x c g1)) (Nat.not_lt.mpr (DM (a0 y c g2)))
   exact I.ok.inj x y c (sub x c g1) (sub y c g2)
 . -- the names that are cells there have one
   have hx:(relabel scope X.env).names.lookup x=some .cell\/(relabel scope X.env).names.lookup x=some .free:=hx
   have app:∀ c,((81,X.env,[])).lookup x=some c\/(x,c)∈(42,(s.heap.objs.size+1),[])->∃ c,((42,(s.heap.objs.size+1),(81,X.env,[]))).lookup x=some c:=λc h=>by
    rw[Dm,HM];rcases h with h|h
    . cases ((42,(s.heap.objs.size+1),[])).lookup x with
      |some d=>exact⟨d,rfl⟩
      |none=>exact⟨c,h⟩
    obtain⟨d,hd⟩:=Ms h;rw[hd];exact⟨d,rfl⟩
   have go:∀ k,(relabel scope X.env).names.lookup x=some k->(k = .cell\/k = .free)->∃ c,((42,(s.heap.objs.size+1),(81,X.env,[]))).lookup x=some c:=λk e F=>by
    obtain⟨j,hj,q⟩:1:=Fx (env:=X.env) (names:=scope.names) e;have hm:=Dc hj
    have a1:j = .free\/j = .cell:=by
     rcases q with q|q
     . rcases F with F|F
       . exact .inr (q ▸ F)
       exact .inl (q ▸ F)
     exact .inl q.1
    rcases a1 with a1|a1
    . subst a1;obtain⟨c,U⟩:=Qy (env:=X.env) (x:=x) (names:=scope.names) (acc:=[]) (.inr hm);exact app c (.inl U)
    subst a1;obtain⟨c,U⟩:=K4 (n:=s.heap.objs.size+1) hm;exact app c (.inr U)
   rcases hx with hx|hx
   . exact go _ hx (.inl rfl)
   exact go _ hx (.inr rfl)
 . rcases two x c h with g|g
   . exact DM (a0 x c g)
   have aB:scope.names.lookup x=some .cell:=by simpa using hf
   obtain⟨d,hd⟩:=K4 (n:=s.heap.objs.size+1) (Dc aB);have h':=h;obtain⟨e,he⟩:=Ms hd;have h':((42,(s.heap.objs.size+1),(81,X.env,[]))).lookup x=some c:=h;rw[Dm,HM,he] at h'
   cases h';exact DM (a0 x _ (Dc he))
 . obtain⟨f0,f1,f2,Z,f4,f5⟩:0:=a4 b hb;obtain⟨o,Y⟩:=aD b hb;refine⟨BN (BF Y),λx c h z=>?_⟩;rcases two x c h with g|g
   . have h1:=a0 x c g;have h2:=BF Y;rw[<- z] at h2;exact absurd h1 (Nat.not_lt.mpr (DM h2))
   exact f4 x c (sub x c g) z
 . obtain⟨f0,f1,f2,Z,f4,f5⟩:0:=a4 b hb;rcases Z with Z|Z
   . exact I.ok.noex b o e Z
   exact(77,CS (BF (I.ok.bs b o e).1) Z,_)
 . obtain⟨f0,f1,f2,Z,f4,f5⟩:0:=a4 b hb;rcases A0A.mp (I.stkSub b a9) with z|z
   . exact f1 z
   exact f2 z
 . have e1:(xs++fr)[i]? = some x:=e1
   by_cases hi:i<xs.length
   . rw[FK (by rw[FS];exact hi),JO,BB hi] at O
     cases O
   have a6:xs.length<=i:=Nat.le_of_not_lt hi;rw[KH a6] at e1;rw[KH (by rw[FS];exact a6),FS] at O;unfold Ob at O;rw[BK] at O
   cases ej:js[i-xs.length]? with
   |none=>rw[ej] at O;cases O
   |some j=>
     rw[ej] at O;have a2:(σ[j]?).getD none=some v:=BR O
     have e4:σ[j]? = some (some v):=by
      cases q:σ[j]? with
      |none=>rw[q] at a2;cases a2
      |some o=>rw[q] at a2;rw[show o=some v from a2]
     have e5:X.N[j]? = some x:=by have:=congrArg (λl=>l[i-xs.length]?) a7;rw[BK,BK,ej,e1] at this;exact BR this
     have hf:=S.fre x (BG e1);have F:=S.free _ (Dc hf) rfl;obtain⟨m,hm,aC⟩:1:=I.loc;obtain⟨u,r,lk⟩:1:=aC j x v e5 e4 (.inr F);refine⟨u,r,.inr ⟨?_,?_⟩⟩
     . have q:=J5 (scope:=scope) (env:=X.env) S.okind hf;show(relabel scope X.env).names.lookup x=some .cell\/(relabel scope X.env).names.lookup x=some .free;have q':(relabel scope X.env).names.lookup x=some (if(NameKind.free==NameKind.free&&X.env.kindOf x==some .cell) then .cell else .free):=q
       by_cases U:(NameKind.free==NameKind.free&&X.env.kindOf x==some .cell)=true
       . rw[BB U] at q';exact .inl q'
       rw[AZ U] at q';exact .inr q'
     obtain⟨c',a5⟩:=Qy (env:=X.env) (x:=x) (names:=scope.names) (acc:=[]) (.inr (Dc hf));rcases lk with ⟨z,_⟩|⟨_,c,U,ob,Y,hd⟩
     . rcases F with F|F
       . rw[z] at F;cases F
       rw[z] at F;cases F
     have e6:c=c':=by have:=sub x c' a5;rw[U] at this;exact BR this
     subst e6;refine⟨_,?_,ob,keep _ _ Y,hd⟩;show((42,(s.heap.objs.size+1),(81,X.env,[]))).lookup x=some c;rw [Dm,HM]
     have aE:((42,(s.heap.objs.size+1),[])).lookup x=none:=by
      cases e:((42,(s.heap.objs.size+1),[])).lookup x with
      |none=>rfl
      |some d=>
        have:=Sq S.uniq (Kv (Dc e));rw[hf] at this
        cases this
     rw[aE];exact a5
 . rcases two x c h with g|g
   . exact⟨_,(a3.empty x c g).1⟩
   obtain⟨v,ob,Y,hd⟩:2:=I.cell x c (sub x c g);exact⟨v,ob,keep _ _ Y,hd⟩
 . rcases two x c h with g|g
   . exact I.hok.fresh (DM (a0 x c g))
   exact I.freeC x c (sub x c g)
 show _=(xs++fr).length;unfold Ob;rw[BL,BL,FS,BA,hl]
theorem XZ {M:Model}{A:Around}{F:Addr}{cl:List (Str×Addr)}{env:Env}{Q:Env->Shared->Prop}
 (U:∀ h',h'.Ns s.heap.objs.size (λ_=>none)->(∀ b o,s.heap.get? b=some o->h'.get? b=some o)->CellsOk h' (s.heap.objs.size+1) (42,(s.heap.objs.size+1),[]) ->
  Q (newEnv scope s.heap.objs.size F (42,(s.heap.objs.size+1),cl) qual none .none (some env) builtinsNs) {s with heap:=h'}) :
 wpAny M A (newFunctionEnv scope F cl [] qual none .none (some env)) Q E s:=by
 simp only[newFunctionEnv,Option.isSome_some,if_true];refine AY (wpAny_alloc ?_);refine wpAny_bind (wpAny_layCells _ (λname kind cells=>by cases hkc:kind==NameKind.cell<;>simp[hkc]) _ _ _ _ ?_)
 have O:=cellsFrom_ok scope.names (s.heap.push {cls:=.type "dict",data:=.dict #[]}) (s.heap.objs.size+1) [] ⟨λ_ _ hm=>(nomatch hm),List.Pairwise.nil⟩ (by rw[DO];exact BE _);rw[DO] at O;rw[show({s with heap:=s.heap.push {cls:=.type "dict",data:=.dict #[]}}:Shared).heap.objs.size=s.heap.objs.size+1 from DO ..]
 rw[List.forIn_nil];exact(19,BC (U _ ((Heap.Ns.new s.heap (.type "dict")).keeps (pushCells_keeps _ _)) (λb o e=>pushCells_keeps _ _ b o (BH _ e)) O))
theorem SX {σ':St}{s':Shared}{a0:Heap}(I:(4,s))(a1:∀ b∈fp,Vo X pins H b)(J:Inv (49,X,xs,fr,s.heap.objs.size,fp,s,H) [] σ' H' s')(Y:Heap.SameBut s.heap.objs.size s'.heap a0) :
 Inv X pins σ H' {s' with heap:=a0}:=by
 have old:∀ b o,s.heap.get? b=some o->b≠s.heap.objs.size:=λb o e=>BN (BF e);have F:Un (frs X.stack) fp H H' s.heap s'.heap:=J.base;refine I.call' (s':={s' with heap:=a0}) (ch:=fp) J.os ⟨λb o e n hb U=>(Y.2 b (old b o e)).trans (F.keep b o e n hb U),λb o e n hb U=>?_,F.free,λb o e U=>?_,F.tups,F.frzs,F.tbls⟩ (λb o e=>?_) J.bare λb hb=>?_
 . obtain⟨sl,Z⟩:=F.slot b o e n hb U;exact⟨sl,(Y.2 b (old b o e)).trans Z⟩
 . obtain⟨o',Z⟩:=F.there b o e U;exact⟨o',(Y.2 b (old b o e)).trans Z⟩
 . have hf:H' s.heap.objs.size=none:=J.free;refine(J.hok b o e).stay (λc v O q=>(Y.2 c ?_).trans q) (λ_ q=>q) λ_ _ q=>q;intro z;rcases O with O|O
   . rw[<- O,z,hf] at e;cases e
   rw[z,hf] at O;cases O
 obtain⟨f0,f1,f2,f3,f4,f5⟩:0:=a1 b hb;exact⟨f3,f1,f4,f5⟩
noncomputable def PIf (X:Cx)(ifs:List Expr)(t:TT):Prop:=
 ∀(pins:AI) (s:Shared) (σ:St) (H:Hp) (Q:Bool->Hp->Prop) (E:AG),(∀ e s',X.xe e s'->E e s')->(4,s)->t σ H Q ->
  (M,(H,X.w),X.A,(forIn ifs true λc r=>if r=true then do let ok <- isTrue c X.env (s,c);pure (ForInStep.yield ok) else pure (ForInStep.yield r)),TP X pins σ Q,E)
noncomputable def ad8:TT:=λ_ H Q=>Q true H
theorem Df:PIf X [] ad8:=λ_ _ _ H _ _ _ I h=>wpAny_tests_nil ⟨H,I,h⟩
theorem Eh {c:Expr}{t:TT}(O:PT X c t):PIf X [c] t:=λpins s σ H Q _ F I h=>wpAny_tests_one (DB (O pins s σ H Q I h) (λ_ _ z=>z) F)
noncomputable def at9 (k:Nat)(js:AE)(wi:TI)(g:TG)(tt:TT)(te:TE):TE:=fun σ H Q=>wi σ H λJ H1=>∀ p,H1 p=none ->
 ∃ W:Nat->Nat->Hp->Prop,(∃ m,W 0 m (S,H1,p,[]))/\∀ i m H,W i m H ->
  (J.stop i H/\(C,p,H))\/(J.go i H/\∃ N:Hp->Prop,(∀ H',N H'->∃ m',m'<m/\W (i+1) m' H') /\
   ∀ x H',J.yld i H x H'->g x ((30,k)++Ob σ js) H' fun σ2 H2=>tt σ2 H2 λb H3=>if b=true then te σ2 H3 λy H4=>∃ acc,H4 p=(2,acc)/\acc.length<sizeLine/\N (S,H4,p,(acc++[y])) else N H3)
theorem UO {it acc:Value}{env:Env}{A:Around}{R:Result->Shared->Prop}{w:World}(I:Nat->Shared->Prop)
 (turn:∀ n s,I n s->(M,(16,P),A,pyNext it,(λr F=>match r with
  |none=>R (.ok .next) F
  |some v=>wpAny (16,P) A (letOwnedTupleGo tg it v) (λ_ Z=>wpAny (16,P) A (assign tg env v) (λ_ s₂=>
   wpAny (16,P) A (forIn ifs true λc r=>if r=true then do let ok <- isTrue c env (eval c env);pure (ForInStep.yield ok) else pure (ForInStep.yield r)) (λok O=>
    if ok=true then wpAny (16,P) A (eval elt env) (λx s₄=>wpAny (16,P) A (95,"list.append",[acc,x]) (λ_ s₅=>∃ m,m<n/\I m s₅) (λ_ _=>False) s₄) (λ_ _=>False) O
    else ∃ m,m<n/\I m O) (λ_ _=>False) s₂) (λ_ _=>False) Z) (λ_ _=>False) F),(λ_ _=>False)))
 (n:Nat) (h:I n s):codeAny ((16,P)) A (.compLoop (125,elt,[⟨tg,iter,ifs,0⟩],pos) 0 it acc env) R s:=by
 refine codeAny_loop rfl I (λn s hI=>?_) n h;show(M,_,A,((compTurn (125,elt,[⟨tg,iter,ifs,0⟩],pos) 0 it acc env).onRaise (λx=>do noteFrame x env;theTreesLotGoes x)),_,_)
 refine wpAny_noted ?_;rw [compTurn_list];refine AY (GL (AY (DB (turn n s hI) (λr F U=>?_) λ_ _ h'=>h'.elim)))
 cases r with
 |none=>exact BC U
 |some v=>
   refine AY (DB U (λ_ Z a0=>?_) λ_ _ h'=>h'.elim);refine AY (DB a0 (λ_ s₂ h₂=>AY (DB h₂ (λok O Y=>?_) λ_ _ h'=>h'.elim)) λ_ _ h'=>h'.elim)
   cases ok with
   |false=>exact BC ⟨rfl,Y⟩
   |true=>exact AY (AY (DB Y (λx s₄ h₄=>AY (DB h₄ (λ_ s₅ h₅=>BC (BC ⟨rfl,h₅⟩)) λ_ _ h'=>h'.elim)) λ_ _ h'=>h'.elim))
noncomputable def Z3 (n:Nat)(g:TG):Prop:=∀ x σ H Q,g x σ H Q->g x σ H fun σ' H'=>(∀ k,n<=k->σ'[k]? = σ[k]?)/\Q σ' H'
noncomputable def Vh (n:Nat)(g:TGs):Prop:=∀ vs σ H Q,g vs σ H Q->g vs σ H fun σ' H'=>(∀ k,n<=k->σ'[k]? = σ[k]?)/\Q σ' H'
theorem Be {n:Nat}(h:i<n):Z3 n (Jf i):=λx σ H Q q=>⟨λk F=>EU ∅,q⟩
theorem YX {n:Nat}:Vh n aA4:=λvs σ H Q ⟨e,q⟩=>⟨e,λ_ _=>rfl,q⟩
theorem NT {n:Nat}{u:TGs}(h:i<n)(hu:Vh n u):Vh n (Oi (Jf i) u):=λvs σ H Q ⟨v,r,e,q⟩=>by
 refine⟨v,r,e,?_⟩;have Y:u r ((107,i,v)) H Q:=q;show u r (107,i,v) H _;have z:=hu _ _ _ _ Y
 have O:(λ(σ':St) (H':Hp)=>(∀ k,n<=k->σ'[k]? = ((107,i,v))[k]?)/\Q σ' H')=fun σ' H'=>(∀ k,n<=k->σ'[k]? = σ[k]?)/\Q σ' H':=by
  funext σ' H'
  have U:(∀ k,n<=k->σ'[k]? = ((107,i,v))[k]?) = ∀ k,n<=k->σ'[k]? = σ[k]?:=by
   refine propext ⟨λf k F=>?_,λf k F=>?_⟩
   . rw[f k F,EU ∅]
   rw[f k F,EU ∅]
  rw[U]
 rw[O] at z;exact z
theorem QJ {K:W.Frag}{n:Nat}{u:TGs}(hu:Vh n u):Z3 n (ax6 K m u):=λx σ H Q ⟨a,xs,e,F,hl,q⟩=>⟨a,xs,e,F,hl,hu _ _ _ _ q⟩
theorem Wr {tt:TT}(hc:X.calm=true)(S:CompS X scope xs fr)(aM:js.map (λj=>X.N[j]?)=fr.map some)
 (hg:∀ C ex s₀ H₀,PG (49,X,xs,fr,C,ex,s₀,H₀) tg g) (hk:Z3 xs.length g) (hi:∀ C ex s₀ H₀,PIf (49,X,xs,fr,C,ex,s₀,H₀) ifs tt) (he:∀ C ex s₀ H₀,PE (49,X,xs,fr,C,ex,s₀,H₀) elt te)
 {F:Shared}  {R:Value->Addr->Result->Shared->Prop}  {it:Addr} {tn:Nat->Heap->Prop}  (I:(T,X,σ,H1,F)) (T:Ye X.prog X.w X.K tg J fp it tn) (st:tn 0 F.heap) (aL:∀ b∈fp,Vo X pins H1 b)
 (hq:∀ p,H1 p=none->∃ W:Nat->Nat->Hp->Prop,(∃ m,W 0 m (S,H1,p,[]))/\∀ i m H,W i m H ->
  (J.stop i H/\(C,p,H))\/(J.go i H/\∃ N:Hp->Prop,(∀ H',N H'->∃ m',m'<m/\W (i+1) m' H') /\
   ∀ x H',J.yld i H x H'->g x ((30,xs.length)++Ob σ js) H' fun σ2 H2=>tt σ2 H2 λb O=>if b=true then te σ2 O λy H4=>∃ acc,H4 p=(2,acc)/\acc.length<sizeLine/\N (S,H4,p,(acc++[y])) else N O))
 (hR:∀(p C:Addr) (s':Shared) (H':Hp),(∃ m,s'.heap.Ns C m)->Vo X pins H' C->(T,X,σ,H',s')->(D,p)->R (.ref p) C (.ok .next) s') :
 wpAny ((H,X.w)) X.A (newList []) (λacc s₃=>wpAny (H,X.w) X.A (newFunctionEnv scope X.env.globals (81,X.env,[]) [] X.env.qual none .none (some X.env)) (λa6 s₄=>
  codeAny (H,X.w) X.A (.compStart ((125,elt,[⟨tg,iter,ifs,0⟩],pos)) 0 (.ref it) acc {a6 with scope:=relabel scope X.env}) (R acc a6.locals) s₄) X.xe s₃) X.xe F:=by
 refine DC ?_ (by show 0<=sizeLine;exact DJ _);have aN:H1 F.heap.objs.size=none:=(61,_);have I3:Inv X pins σ ((S,H1,F.heap.objs.size,[])) {F with heap:=F.heap.push {cls:=.type "list",data:=.seq ([]:AC).toArray}}:=I.laid (t':=F.toks) (λb u e=>BH _ e) (BE _) ⟨DJ _,[],0,.nil,(12,_)⟩
 obtain⟨W,⟨m0,w0⟩,turn⟩:1:=hq _ aN;have a9:∀ b∈fp,∃ o,F.heap.get? b=some o:=λb hb=>let ⟨o,e,_⟩:=T.obj _ _ st b hb;⟨o,e⟩
 have a0:∀ b∈fp,Vo X pins ((S,H1,F.heap.objs.size,[])) b:=λb hb=>by obtain⟨f0,f⟩:=aL b hb;obtain⟨o,e⟩:=a9 b hb;exact⟨by rw[Ap (BN (BF e))];exact f0,f⟩
 have aP:∀ b∈fp,∃ o,(F.heap.push {cls:=.type "list",data:=.seq ([]:AC).toArray}).get? b=some o:=λb hb=>let ⟨o,e⟩:=a9 b hb;⟨o,BH _ e⟩;have aV:tn 0 (F.heap.push {cls:=.type "list",data:=.seq ([]:AC).toArray}):=T.keep _ _ _ st λb _ o e=>BH _ e;generalize aB:({F with heap:=F.heap.push {cls:=.type "list",data:=.seq ([]:AC).toArray}}:Shared)=s3 at I3 ⊢;have aW:tn 0 s3.heap:=by rw[<- aB];exact aV
 have aA:∀ b∈fp,∃ o,s3.heap.get? b=some o:=by rw[<- aB];exact aP
 generalize aX:(S,H1,F.heap.objs.size,[])=O at I3 a0 w0;generalize aY:F.heap.objs.size=p0 at turn ⊢;refine XZ λh₁ aO a8 aK=>?_;have Z:=ZV (t':=s3.toks) S aM I3 a0 aA aO a8 aK;have a1:tn 0 h₁:=T.keep _ _ _ aW λb hb o e=>a8 b o e
 have aC:∀ s₄:Shared,Inv (49,X,xs,fr,s3.heap.objs.size,fp,s3,O) [] ((30,xs.length)++Ob σ js) O s₄->tn 0 s₄.heap ->
  codeAny ((H,X.w)) X.A (.compLoop (125,elt,[⟨tg,iter,ifs,0⟩],pos) 0 (.ref it) (.ref p0) (compEnvC scope (42,(s3.heap.objs.size+1),(81,X.env,[])) s3.heap.objs.size X.env)) (R (.ref p0) s3.heap.objs.size) s₄:=by
  intro s₄ Z a1
  have a4:∀ {H':Hp},(∀ b∈fp,H' b=none)->∀ b∈fp,Vo ((49,X,xs,fr,s3.heap.objs.size,fp,s3,O)) [] H' b:=fun {H'} hn b hb=>by obtain⟨f0,f1,f2,f3,f4,f5⟩:0:=a0 b hb;obtain⟨o,e⟩:=aA b hb;refine⟨hn b hb,Nat.ne_of_lt (Heap.lt_size e),Z.ok.exfs b hb,.inl hb,λx c h=>(Z.ok.exf b hb).2 x c h,λp hp=>(65,(show p∈([]:AI) from hp))⟩
  refine UO (λn s'=>∃ i H',Inv (49,X,xs,fr,s3.heap.objs.size,fp,s3,O) [] ((30,xs.length)++Ob σ js) H' s'/\tn i s'.heap/\(∀ b∈fp,H' b=none)/\W i n H') ?_ m0 ⟨0,O,Z,a1,λb hb=>(a0 b hb).1,w0⟩;rintro n s5 ⟨i,H5,I5,aD,a7,w5⟩;rcases turn i n H5 w5 with ⟨stop,qn⟩|⟨go,N,hN,step⟩
  . refine BD (T.done (49,X,xs,fr,s3.heap.objs.size,fp,s3,O) rfl rfl rfl hc i [] s5 _ H5 (λ_ _=>False) I5 (a4 a7) aD stop) λr s6 ⟨hr,I6⟩=>?_;subst hr;obtain⟨m6,n6,_⟩:1:=id I6.loc;exact hR p0 s3.heap.objs.size s6 H5 ⟨m6,n6⟩ (I3.fpOk (BE _) I6.free) (SX I3 a0 I6 (Heap.SameBut.refl ..)) qn
  refine BD (T.item (49,X,xs,fr,s3.heap.objs.size,fp,s3,O) rfl rfl rfl hc i [] s5 _ H5 (λ_ _=>False) I5 (a4 a7) aD go) λr s6 ⟨u,hr,h6⟩=>?_;subst hr;refine BD h6 λ_ s7 ⟨x,H7,I7,r7,y7,a3,aI⟩=>?_;have aH:=I7.pinned (a4 aI) (T.obj _ _ a3);refine BD (hg _ _ _ _ _ s7 _ H7 x u _ aH r7 (hk _ _ _ _ (step x H7 y7))) λ_ s8 ⟨σ8,H8,I8,aQ,q8⟩=>?_
  have again:∀ {s9:Shared} {U:Hp},Inv (49,X,xs,fr,s3.heap.objs.size,fp,s3,O) ([]++Si fp s7.heap) σ8 U s9->N U ->
   ∃ m,m<n/\∃ i H',Inv (49,X,xs,fr,s3.heap.objs.size,fp,s3,O) [] ((30,xs.length)++Ob σ js) H' s9/\tn i s9.heap/\(∀ b∈fp,H' b=none)/\W i m H':=fun {s9 U} Y n9=>by
   obtain⟨m',hm,w9⟩:1:=hN U n9;refine⟨m',hm,i+1,U,Y.unpinned.weak ?_ ?_,T.keep _ _ _ a3 λb hb o e=>(Y.pin (b,o) (CI _ (CI _ (Ii hb e)))).1,λb hb=>?_,w9⟩
   . rw[Y.len,I5.len]
   . intro k v a2
     by_cases hx:k<xs.length
     . rw[FK (by rw[FS];exact hx),JO,BB hx] at a2
       cases a2
     rw[aQ k (Nat.le_of_not_lt hx)];exact a2
   obtain ⟨o,e,d⟩:1:=T.obj _ _ a3 b hb;exact(Y.pin (b,o) (CI _ (CI _ (Ii hb e)))).2.1
  refine DB (hi _ _ _ _ _ s8 σ8 H8 _ (λ_ _=>False) (λ_ _ z=>z) I8 q8) (λok s9 ⟨U,Y,q9⟩=>?_) λ_ _ z=>z
  cases ok with
  |false=>rw[AZ BX];rw[AZ BX] at q9;exact again Y q9
  |true=>rw[BB rfl];rw[BB rfl] at q9;refine BD (he _ _ _ _ _ s9 σ8 U _ Y q9) λuy aU ⟨y,aE,aF,aT,acc,aJ,hz,aR⟩=>?_;refine BD (Eb _ aU σ8 aE (.ref p0) [y] (.ref p0) [uy] (λ_ a5=>N a5) aF rfl (.cons aT .nil) ⟨p0,acc,y,rfl,rfl,aJ,hz,aR⟩) λ_ aZ ⟨_,a5,aG,_,aS⟩=>?_;exact again aG aS
 exact codeAny_compStart_list (aC _ Z a1) (T.self _ _ _ _ _ a1 (aC _ Z a1))
theorem Inv.letgo {C:Addr}{F:Heap}(I:(4,s))(f:Vo X pins H C)(hs:Heap.SameBut C s.heap F):Inv X pins σ H {s with heap:=F}:=by obtain⟨O,U,f2,Y,Z,f5⟩:0:=f;exact(108,(λb o hb e=>(hs.2 b hb).trans e),O,U,Y,Z)
theorem Bz {tt:TT}(xs fr:AA)(js:AE)(hc:X.calm=true)(Z:Vz X.env.scope scope xs fr=true)(a0:js.map (λj=>X.N[j]?)=fr.map some)(hw:PI X tg iter wi)
 (hg:∀ C ex s₀ H₀,PG (49,X,xs,fr,C,ex,s₀,H₀) tg g) (hk:Z3 xs.length g) (hi:∀ C ex s₀ H₀,PIf (49,X,xs,fr,C,ex,s₀,H₀) ifs tt) (he:∀ C ex s₀ H₀,PE (49,X,xs,fr,C,ex,s₀,H₀) elt te)
 (hs:∀ x,foldedSetIterable iter X.env x=pure x:=by intro _;ac_nf) :
 PE X ((125,elt,[⟨tg,iter,ifs,0⟩],pos)) (at9 xs.length js wi g tt te):=by
 intro pins s σ H Q I h;have S:=Vu Z;rw[eval_ListComp];refine wpAny_comprehension_free (use:=none) rfl hs (Pd (S.cells I.ok)) S.kind S.names ?_;refine BD (hw pins s σ H _ I h) λv s1 h1=>BD h1 λa4 s2 h2=>?_;obtain⟨it,fp,tn,J,H2,e,F,T,a2,O,q2⟩:5:=h2;subst e;refine Wr (Q:=Q) (R:=λacc C=>compPost (model X.prog X.w) X.A X.xe none (EP X pins σ Q) acc C) hc S a0 hg hk hi he F T a2 O q2 ?_;intro p C s' H' ⟨m,hn⟩ U Y q;exact⟨m,hn,λa3 a1=>⟨.ref p,H',Y.letgo U a1,rfl,q⟩⟩
theorem Fs {Y F:Pos}{tt:TT}(xs fr:AA)(js:AE)(hc:X.calm=true)(hS:Vz X.env.scope scope xs fr=true)(a2:js.map (λj=>X.N[j]?)=fr.map some)
 (hN:X.N.Nodup) (a1:X.N[i]? = some y) (U:X.env.scope.names.lookup y=some .local) (hw:PI X tg iter wi)
 (hg:∀ C ex s₀ H₀,PG (49,X,xs,fr,C,ex,s₀,H₀) tg g) (hk:Z3 xs.length g) (hi:∀ C ex s₀ H₀,PIf (49,X,xs,fr,C,ex,s₀,H₀) ifs tt) (he:∀ C ex s₀ H₀,PE (49,X,xs,fr,C,ex,s₀,H₀) elt te)
 (a6:swapsWith (125,elt,[⟨tg,iter,ifs,0⟩],pos) (some (.Name y F)) Y.line X.env=pure true:=by ac_nf)
 (hs:∀ x,foldedSetIterable iter X.env x=pure x:=by intro _;ac_nf) :
 PS X (.Assign [.Name y F] (125,elt,[⟨tg,iter,ifs,0⟩],pos) Y) (aA0 (at9 xs.length js wi g tt te) (Jf i)):=by
 intro pins s σ H D I h;have S:=Vu hS;rw[exec_Assign_Name_used _ _ _ _ a6];refine AY (GL (AY ?_));show(M,_,X.A,(do let _ <- comprehension (125,elt,[⟨tg,iter,ifs,0⟩],pos) scope X.env _ (newList []) false (s,iter) (some (assign (.Name y F) X.env))),_,_)
 refine AY (DB (wpAny_comprehension_free (use:=some (assign (.Name y F) X.env)) (Q:=λ_ s'=>SP X pins D .next s') rfl hs (Pd (S.cells I.ok)) S.kind S.names ?_) (λ_ s' hq=>BC (BC hq)) λ_ _ e=>e);refine BD (hw pins s σ H _ I h) λv s1 h1=>BD h1 λa9 s2 h2=>?_;obtain⟨it,fp,tn,J,H2,e,I2,T,a7,f2,q2⟩:5:=h2;subst e;refine Wr (Q:=λx H1=>Jf i x σ H1 D.nx) (R:=λacc C=>compPost (model X.prog X.w) X.A X.xe (some (assign (.Name y F) X.env)) (λ_ s'=>SP X pins D .next s') acc C) hc S a2 hg hk hi he I2 T a7 f2 q2 ?_;intro p C s' H' ⟨m,hn⟩ O Z q;show wpAny _ X.A (assign (.Name y F) X.env (.ref p)) _ _ s';refine wpAny_assign_Name (Sc Z hN a1 (.inl U) (show RelV (.ref p) (.ref p) from rfl) (λaA a0 ⟨a,a5,ha⟩=>?_) (.inr U))
 have a3:C≠a:=by
  rcases ha with ha|ha
  . rw[ha];exact O.2.1
  exact(O.2.2.2.2.1 y a ha).symm
 exact⟨m,hn.sameBut a5 a3,λa8 a4=>⟨_,H',a0.letgo O a4,q⟩⟩
end
noncomputable def Its (x:Str):It:=⟨λi _=>i<x.cps.size,λi H v H'=>H'=H/\∃ c,x.cps[i]? = some c/\v = .str ⟨#[c]⟩,λi _=>x.cps.size<=i⟩
theorem NC {w:World}{K:PySem.W.Frag}{it:Addr}{n:Nat}{PV:Nat->Value->Prop}{val:Nat->V->Prop}{St:Nat->Heap->Prop}(W:∀ A:Around,A.handled=none->Walks P w A it [it] [it] n PV St)
 (a2:∀(A:Around) (i:Nat) (s:Shared) (Q:AG) (E:AG),St i s.heap->(C,it,s)->(M,(16,P),A,pyIter (.ref it),Q,E))
 (hv:∀ i u,PV i u->∃ v,(u,v)/\val i v) (a0:∀ i h,St i h->∃ o T vs,h.get? it=some o/\o.cls = .type T/\o.data = .fields vs/\["enumerate","zip","dict_itemiterator","dict_reverseitemiterator","odict_iterator","itertools.zip_longest","itertools.pairwise"].contains T=false) :
 Ye P w K tg ⟨λi _=>i<n,λi H v H'=>H'=H/\val i v,λi _=>n<=i⟩ [it] it (λi h=>St i h/\i<=n) where
 mem:=by simp
 obj:=λi h st b hb=>by
  have e:b=it:=by simpa using hb
  subst e;obtain⟨o,T,vs,O,e2,U,e4⟩:3:=a0 i h st.1;exact⟨o,O,λv z=>by rw[U] at z;cases z⟩
 keep:=λi h h' st k=>⟨(W {handled:=none} rfl).frame i h h' st.1 k,st.2⟩
 item:=by
  intro X hP hw hK hc i pins s σ H E I hf st F;subst hP hw hK;obtain⟨Y,Z,f2,f3,f4,f5⟩:0:=hf it 'c';refine(W X.A (I.ok.hd hc)).item i s _ _ F st.1 λu h' tk hp a1 kk=>?_;obtain⟨v,rv,vv⟩:1:=hv i u hp;have I1:Inv X pins σ H {s with heap:=h',toks:=tk}:=I.turned (λb o hb e=>kk b o (by simpa using hb) e) Y Z f3 f4 f5
  obtain⟨o,T,vs,O,e2,U,e4⟩:3:=a0 _ _ a1;exact⟨u,rfl,Y4 (s:={s with heap:=h',toks:=tk}) O e2 U e4 ⟨v,H,I1,rv,⟨rfl,vv⟩,⟨a1,F⟩,λb hb=>(hf b hb).1⟩⟩
 done:=by intro X hP hw hK hc i pins s σ H E I hf st F;subst hP hw hK;obtain⟨Y,Z,f2,f3,f4,f5⟩:0:=hf it 'c';have e:i=n:=Nat.le_antisymm st.2 F;subst e;exact(W X.A (I.ok.hd hc)).done s _ _ st.1 λh' tk kk=>⟨rfl,I.turned (λb o hb e=>kk b o (by simpa using hb) e) Y Z f3 f4 f5⟩
 self:=λA i s Q E st h=>a2 A i s Q E st.1 h
theorem WO {σ:St}{F:Shared}{v:Value}(U:(T,X,σ,H1,F))(r1:RelV (.str z) v)(q:R (Its z) H1):wpAny ((H,X.w)) X.A (pyIter v) (PIE X pins σ tg R) E F:=by
 obtain⟨t,rfl⟩:=r1;have sv:∀ i u,SignAt z i u->∃ v,(u,v)/\∃ c,z.cps[i]? = some c/\v = .str ⟨#[c]⟩:=λi u ⟨c,tu,O,hu⟩=>⟨.str ⟨#[c]⟩,⟨tu,hu⟩,c,O,rfl⟩
 have fin:∀(o:Obj) (St:Nat->Heap->Prop) (n:Nat),St 0 (F.heap.push o)->Ye X.prog X.w X.K tg (Its z) [F.heap.objs.size] F.heap.objs.size (λi h=>St i h/\i<=z.cps.size)->PIE X pins σ tg R (.ref F.heap.objs.size) {F with heap:=F.heap.push o}:=λo St n h0 T=>by
  refine⟨F.heap.objs.size,[F.heap.objs.size],_,_,H1,rfl,U.kept (t':=F.toks) λb ob e=>BH _ e,T,⟨h0,DJ _⟩,λb hb=>?_,q⟩;have e:b=F.heap.objs.size:=by simpa using hb
  subst e;exact U.fpOk (BE _) (U.hok.fresh (BE _))
 cases ha:z.cps.all (· < 128)
 . exact wpAny_pyIter_wide ha (fin _ _ 0 ⟨_,(12,_),rfl,rfl⟩ (NC (λA Y=>Walks.strWide Y _ z t) (λ_ _ _ _ _ st hq=>wpAny_pyIter_striter_wide st hq) sv λi h ⟨o,Z,O,hd⟩=>⟨o,_,_,Z,O,hd,by decide⟩))
 exact wpAny_pyIter_ascii ha (fin _ _ 0 ⟨_,(12,_),rfl,rfl⟩ (NC (λA Y=>Walks.strAscii Y _ z t) (λ_ _ _ _ _ st hq=>wpAny_pyIter_striter_ascii st hq) sv λi h ⟨o,Z,O,hd⟩=>⟨o,_,_,Z,O,hd,by decide⟩))
noncomputable def aT8:V->Option Int->Option Int->Hp->VK->Prop:=λx lo hi H Q=>∃ z,x = .str z/\z.length<=sizeLine/\(17,Txt.slice z lo hi,H)
theorem sl_str:SlR X aT8:=by
 intro pins s σ H x v vl vu lo hi Z Q I Y O pl U h;obtain⟨z,rfl,hz,q⟩:1:=h;obtain⟨t,rfl⟩:=Y;have fin:∀ t' k,EP X pins σ Q (.str (Txt.slice z lo hi) t') {s with toks:=k}:=λt' k=>⟨.str _,H,I.tok _,⟨_,rfl⟩,q⟩
 have sz:=BI (Txt.slice_le z lo hi) hz;refine⟨"str",_,F.slot_str_getitem.lookup,typeIs_str _ _ _,?_⟩
 cases pl with
 |none=>
   cases U with
   |none=>exact IH (l:=none) (u:=none) (st:=none) O rfl (IG ⟨sz,fin⟩)
   |int j uj=>exact IH (l:=none) (u:=some (j,uj)) (st:=none) O rfl (IG ⟨sz,fin⟩)
 |int i ui=>
   cases U with
   |none=>exact IH (l:=some (i,ui)) (u:=none) (st:=none) O rfl (IG ⟨sz,fin⟩)
   |int j uj=>exact IH (l:=some (i,ui)) (u:=some (j,uj)) (st:=none) O rfl (IG ⟨sz,fin⟩)
noncomputable def am0:V->List V->Hp->VK->Prop:=λx vs H Q=>∃ z,x = .str z/\vs=[]/\(Txt.upper z).length<=16777216/\(17,Txt.upper z,H)
theorem ZY:MtR X "str.upper" am0:=by intro pins s σ H x vs v us Q I O F h;obtain⟨z,rfl,rfl,hz,q⟩:1:=h;obtain⟨t,rfl⟩:=O;obtain rfl:=F.zero;exact SC.upper (by unfold Builtin.Str.tooLong;exact decide_eq_false (by rw[sizeLine_eq];omega)) ⟨.str _,H,I.tok _,⟨_,rfl⟩,q⟩
theorem Y3:CallR X (.builtin "repr") (λxs H Q=>(∃ b,xs=[.bl b]/\(17,(if b then "True" else "False"),H))\/(xs=[.non]/\(17,"None",H))):=by
 intro pins s σ H xs us Q I r h;rcases h with ⟨b,rfl,q⟩|⟨rfl,q⟩
 . obtain⟨u,rfl,F⟩:1:=Jx r
   cases F;exact PySem.P.repr_of_bool ⟨.str _,H,I.tok _,⟨_,rfl⟩,q⟩
 obtain⟨u,rfl,F⟩:1:=Jx r
 cases F;exact PySem.P.repr_of_none ⟨.str _,H,I.tok _,⟨_,rfl⟩,q⟩
theorem call_isinst:CallR X (.builtin "isinstance") (λxs H Q=>∃ x c t b,xs=[x,.ty c]/\Rs X.K H x t/\(82,X.K,t,c)=some b/\(t,b)):=by
 intro pins s σ H xs us Q I r h;obtain⟨x,c,t,b,rfl,ty,e,q⟩:4:=h;obtain⟨u,U,rfl,F,O⟩:2:=Uc r
 cases O;exact Rw I F ty e λtk=>⟨.bl _,H,I.tok _,rfl,q⟩
theorem call_isinstR:CallR X (.builtin "isinstance") (λxs H Q=>∃ x c t b,xs=[x,.ref c]/\Rs X.K H x t/\W.kitOne X.K t (.ref c)=some b/\(t,b)):=by
 intro pins s σ H xs us Q I r h;obtain⟨x,c,t,b,rfl,ty,e,q⟩:4:=h;obtain⟨u,U,rfl,F,O⟩:2:=Uc r
 cases O;exact Rw I F ty e λtk=>⟨.bl _,H,I.tok _,rfl,q⟩
theorem Tr:CallR X (.builtin "isinstance") (λxs H Q=>∃ a ys c b,xs=[V.ref a,.ty c]/\((SqT X.K H a ys/\(82,X.K,.type "tuple",c)=some b)\/(SqL X.K H a ys/\(82,X.K,.type "list",c)=some b))/\(t,b)):=by
 intro pins s σ H xs us Q I r h;obtain⟨a,ys,c,b,rfl,ty,q⟩:4:=h;obtain⟨u,U,rfl,F,O⟩:2:=Uc r
 cases O
 cases F;rcases ty with ⟨ty,e⟩|⟨ty,e⟩
 . obtain⟨its,_,p,_⟩:1:=I.tuple ty;obtain⟨o,h1,h2,_⟩:1:=p;exact CZ W.kitx_tuple I.kIn ⟨o,h1,h2⟩ e (λz=>nomatch z) λtk=>⟨.bl _,H,I.tok _,rfl,q⟩
 obtain⟨its,_,p,_⟩:1:=I.list ty;obtain⟨o,h1,h2,_⟩:1:=p.isList;exact CZ W.kitx_list I.kIn ⟨o,h1,h2⟩ e (λz=>nomatch z) λtk=>⟨.bl _,H,I.tok _,rfl,q⟩
theorem Vx {bs:List Bool}{its:AC}(r:Vals (bs.map V.bl) its)(i:Nat)(v:Value)(h:its[i]? = some v):∃ b,bs[i]? = some b/\v = .bool b:=by
 have hl:=r.length;have hi:i<its.length:=(A01.mp h).1;have hb:i<bs.length:=by rw[BA] at hl;omega
 obtain⟨u,hu,F⟩:1:=r.get (i:=i) (x:=.bl bs[i]) (by rw[BK,BJ hb];rfl);rw[h] at hu
 cases hu;exact⟨bs[i],BJ hb,F⟩
theorem Z7 (bs:List Bool):(List.range bs.length).all (λi=>(bs[i]?).getD false)=bs.all id:=by
 rw[DQ,A1N,A1N];constructor
 . intro h b hb;obtain⟨i,hi,e⟩:=List.mem_iff_getElem.mp hb;have:=h i (A1W.mpr hi);rw[BJ hi] at this;rw[<- e];exact this
 intro h i hi;rw[BJ (A1W.mp hi)];exact h _ (HA _)
theorem OL (bs:List Bool):(List.range bs.length).any (λi=>(bs[i]?).getD false)=bs.any id:=by
 rw[DQ,A1E,A1E];constructor
 . rintro⟨i,hi,h⟩;rw[BJ (A1W.mp hi)] at h;exact⟨_,HA _,h⟩
 rintro⟨b,hb,h⟩;obtain⟨i,hi,e⟩:=List.mem_iff_getElem.mp hb;refine⟨i,A1W.mpr hi,?_⟩;rw[BJ hi,e];exact h
theorem XW (Y:X.calm=true):CallR X (.builtin "all") (λxs H Q=>∃(a:Addr) (bs:List Bool),xs=[.ref a]/\SqL X.K H a (bs.map V.bl)/\(t,bs.all id)):=by
 intro pins s σ H xs us Q I r h;obtain⟨a,bs,rfl,hl,q⟩:2:=h;obtain⟨u,rfl,ru⟩:1:=Jx r
 cases ru;obtain⟨its,O,pl,hz⟩:1:=I.list hl;have a0:=O.length;have a1:a≠s.heap.objs.size:=by obtain⟨o,n,ho,_⟩:2:=pl;exact BN (BF ho)
 refine call_all_walk (GU pl.isList ?_);refine⟨_,_,_,_,_,_,λi=>(bs[i]?).getD false,rfl,Walks.list (A:=X.A.in1) (I.ok.hd Y) _ a a1 its.toArray,⟨⟨_,(12,_),rfl,rfl⟩,pl.isList.at λo e=>BH _ e⟩,λi v s' Q' E' hp F=>?_,λh' tk Z=>?_⟩
 . obtain⟨b,hb,rfl⟩:1:=Vx O i v (by simpa using hp);dsimp only at F;rw[hb] at F;exact EH F
 refine⟨.bl _,H,I.kept (t':=tk) λb ob e=>Z b ob (λhm=>absurd (Heap.lt_size e) (by rw[show b=s.heap.objs.size by simpa using hm];exact Nat.lt_irrefl _)) (Heap.get?_push_of_some _ e),?_,q⟩;have U:its.toArray.size=bs.length:=by rw[CB,<- a0,BA]
 rw[U,Z7];rfl
theorem UR (Y:X.calm=true):CallR X (.builtin "any") (λxs H Q=>∃(a:Addr) (bs:List Bool),xs=[.ref a]/\SqL X.K H a (bs.map V.bl)/\(t,bs.any id)):=by
 intro pins s σ H xs us Q I r h;obtain⟨a,bs,rfl,hl,q⟩:2:=h;obtain⟨u,rfl,ru⟩:1:=Jx r
 cases ru;obtain⟨its,O,pl,hz⟩:1:=I.list hl;have a0:=O.length;have a1:a≠s.heap.objs.size:=by obtain⟨o,n,ho,_⟩:2:=pl;exact BN (BF ho)
 refine call_any_walk (GU pl.isList ?_);refine⟨_,_,_,_,_,_,λi=>(bs[i]?).getD false,rfl,Walks.list (A:=X.A.in1) (I.ok.hd Y) _ a a1 its.toArray,⟨⟨_,(12,_),rfl,rfl⟩,pl.isList.at λo e=>BH _ e⟩,λi v s' Q' E' hp F=>?_,λh' tk Z=>?_⟩
 . obtain⟨b,hb,rfl⟩:1:=Vx O i v (by simpa using hp);dsimp only at F;rw[hb] at F;exact EH F
 refine⟨.bl _,H,I.kept (t':=tk) λb ob e=>Z b ob (λhm=>absurd (Heap.lt_size e) (by rw[show b=s.heap.objs.size by simpa using hm];exact Nat.lt_irrefl _)) (Heap.get?_push_of_some _ e),?_,q⟩;have U:its.toArray.size=bs.length:=by rw[CB,<- a0,BA]
 rw[U,OL];rfl
theorem J9 (F:Gl X x)(hm:∃ u,X.mg x=some u/\(u,v))(hd:(x==("__debug__":Str))=false:=by decide):PE X (.Name x pos) (tC v):=by obtain⟨u,h1,h2⟩:1:=hm;exact RX F h1 h2 hd
section
variable {K:W.Frag}
noncomputable def aK7 (K:W.Frag):R2:=λx y H Q=>∃ a b ys,x = .ref a/\y = .ref b/\(A,[])/\SqT K H b ys/\(C,b,H)
theorem YU:OpR X (binaryOp .Add) (aK7 X.K):=by
 intro pins s σ H x y v u Q I rx ry h;obtain⟨a,b,ys,rfl,rfl,ha,hb,q⟩:3:=h
 cases rx
 cases ry;obtain⟨its,r1,p1,_⟩:1:=I.tuple ha;obtain⟨a4,r2,p2,_⟩:1:=I.tuple hb
 cases r1;obtain⟨⟨cls,dd,data,sl⟩,Z,O,n,hd⟩:441:=id p1;obtain⟨⟨a3,a1,data2,a2⟩,a0,U,n2,Y⟩:441:=id p2;simp only at O hd U Y;subst O hd U Y;exact concat_meets ⟨_,Z,rfl⟩ ⟨_,a0,rfl⟩ noFill_tuple_add seq_tuple_add PySem.F.slot_tuple_add PySem.F.entry_tuple_add (PySem.F.args_tuple_add_2 _ _) (tuple_addW0 a b _ _ n n2 dd a1 sl a2 'c') ⟨Z,a0,⟨.ref b,H,I,rfl,q⟩⟩
noncomputable def aT0 (K:W.Frag):V->Option Int->Option Int->Hp->VK->Prop:=λx lo hi H Q=>∃ a xs,x = .ref a/\(A,xs)/\((79,0,lo)=0/\(123,hi)=xs.length)/\(C,a,H)
theorem OO:SlR X (aT0 X.K):=by
 intro pins s σ H x v vl vu lo hi sl Q I rx O pl pu h;obtain⟨a,xs,rfl,hx,U,q⟩:2:=h
 cases rx;obtain⟨its,r,F,hz⟩:1:=I.tuple hx;have a0:its.toArray.size=xs.length:=by rw[CB];exact r.length.symm
 refine⟨"tuple",_,PyProof.Rows.slot_tuple_getitem.lookup,F.typeIs,?_⟩;obtain⟨os,a1,Z,a3⟩:1:=id O;have Y:s.TypeIs (.ref sl) "slice":=⟨os,a1,Z⟩;unfold getItem
 try with_reducible refine DF ?_
 first | refine(19,?_) | skip
 refine AY (IL F.typeIs nofun ?_);refine AY (FG (name:=Str.ofString "__getitem__") F.typeIs DZ (ET DZ F.typeIs HI ?_ (IA _ _)));refine AY (m:=Builtin.Tuple.tupleItemsOf (.ref a)) (FY F ?_);refine AY (DT Y ?_);rw[BB nofun];refine AY (HT.sliceApplied_gen O pl pu ?_)
 have a2:(((HT.sIx its.toArray.size 0 lo:Nat):Int)==0&&(1:Int)==1&&(HT.sIx its.toArray.size its.toArray.size hi-HT.sIx its.toArray.size 0 lo)==its.toArray.size)=true:=by rw[a0,U.1,U.2];simp
 show(M,_,_,(if(((HT.sIx its.toArray.size 0 lo:Nat):Int)==0&&(1:Int)==1&&(HT.sIx its.toArray.size its.toArray.size hi-HT.sIx its.toArray.size 0 lo)==its.toArray.size)=true then _ else _),_,_)
 rw[BB a2];have fin:∀ s',s'=s->EP X pins σ Q (.ref a) s':=λs' e=>by subst e;exact⟨.ref a,H,I,rfl,q⟩
 unfold Builtin.Tuple.tupleIsExact;obtain⟨hp,g,d,tk,os⟩:=s;have hT:=F.typeIs
 repeat (any_goals (first | assumption | wp_step))
 exact⟨_,rfl,BC (fin _ rfl)⟩
end
theorem Inv.freeze {σ:St}{o:Obj}(I:(4,s))(hd:H d=(6,kvs))(ho:s.heap.get? d=some o):Inv X pins σ ((B,d,.frz o (.dK kvs))) s:=by
 have O:∀ b,H b=none->upd H d (.frz o (.dK kvs)) b=none:=λb h=>by rw[Ap (Ne.symm (ne_of_none hd h))];exact h
 have F:∀ b u,H b=some u->u ≠ .dK kvs->upd H d (.frz o (.dK kvs)) b=some u:=λb u h q=>by rw[Ap (ne_of h hd q)];exact h
 refine⟨I.ok,I.os,I.bare,⟨I.base.keep,I.base.slot,λb ob q n hx=>O b (I.base.free b ob q n hx),I.base.there,λb xs q=>F b _ (I.base.tups b xs q) 'd',λb ob u q=>F b _ (I.base.frzs b ob u q) 'd',λb ps q=>?_⟩,I.loc,I.cell,O _ I.free,λx c q=>O _ (I.freeC x c q),λp hp=>?_,λb u q=>?_,I.len⟩
 . obtain⟨more,h⟩:=I.base.tbls b ps q;exact⟨more,F b _ h 'd'⟩
 . obtain⟨U,Y,Z⟩:0:=I.pin p hp;exact⟨U,O _ Y,Z⟩
 by_cases e:b=d
 . subst e;rw[Ab] at q
   cases q;exact⟨ho,((36,b,hd)).stay (λc v hc z=>z) (λc z=>F c _ z (by intro w;cases w)) λc xs z=>F c _ z (by intro w;cases w)⟩
 rw[Ap e] at q;exact(I.hok b u q).stay (λc v hc z=>z) (λc z=>F c _ z (by intro w;cases w)) λc xs z=>F c _ z (by intro w;cases w)
noncomputable def Itd (a:Addr)(o:Obj)(kvs:List (Key×V)):It:=
 ⟨λi H=>H a=(59,o,.dK kvs)/\i<kvs.length,λi H x H'=>H'=H/\∃ kv,kvs[i]? = some kv/\x=kV kv.1,λi H=>H a=(59,o,.dK kvs)/\kvs.length<=i⟩
theorem Yh {k:Key}{u:Value}(h:Ua k u=true):RelV (kV k) u:=by
 rcases C1 h with ⟨i,t,rfl,rfl⟩|⟨x,t,rfl,rfl⟩
 . exact⟨t,rfl⟩
 exact⟨t,rfl⟩
theorem Yq {σ:St}{o:Obj}{es:Array DictEntry}{ep:Nat}(I:(4,s))(h:H a=(59,o,.dK kvs))(F:o.data = .dict es ep):∃ vs,KV kvs vs/\s.heap.DictAt ((78,X.w)) a vs ep:=by
 obtain⟨h1,_,_,vs,r,o',U,O,h2,c,hd,rest⟩:488460:=(36,a,h);rw[h1] at h2
 cases h2;rw[F] at hd
 cases hd;exact⟨vs,r,o,es,h1,c,F,rest⟩
theorem KV.get:∀ {kvs:List (Key×V)} {vs:List (Key×Value)} {i:Nat} {kv:Key×V},KV kvs vs->kvs[i]? = some kv->∃ u,vs[i]? = some (kv.1,u)/\(u,kv.2)
 |_,_,_,_,.nil,e=>by simp at e
 |_,_,0,kv,.cons r _,e=>by simp at e;subst e;exact⟨_,congrArg some (Prod.ext r.1.symm rfl),r.2⟩
 |_,_,i+1,kv,.cons _ t,e=>by obtain⟨u,h1,h2⟩:1:=KV.get (i:=i) t (by simpa using e);exact⟨u,by simpa using h1,h2⟩
theorem S6 {w:World}{K:W.Frag}(a it:Addr)(o:Obj)(kvs:List (Key×V))(es:Array DictEntry)(ep:Nat)(hd:o.data = .dict es ep):Ye P w K tg (Itd a o kvs) [it] it (λi h=>h.IsKeyIter it a i kvs.length ep) where
 mem:=by simp
 obj:=λi h st b hb=>by
  have e:b=it:=by simpa using hb
  subst e;obtain⟨o,e,c,d⟩:1:=st;exact⟨o,e,λv z=>by rw[d] at z;cases z⟩
 keep:=λi h h' st k=>st.at λo e=>k it 'c' o e
 item:=by
  intro X hP hw hK hc i pins s σ H E I hf st hg;subst hP hw hK;obtain⟨hH,hi⟩:=hg;obtain⟨vs,F,a0⟩:1:=Yq I hH hd;have hl:kvs.length=vs.length:=EI F;obtain⟨kv,hkv⟩:∃ kv,kvs[i]? = some kv:=⟨kvs[i],BJ hi⟩;obtain⟨u,hu,_⟩:1:=KV.get F hkv;obtain⟨O,U,f2,Y,Z,f5⟩:0:=hf it 'c';rw[hl] at st;refine wpAny_pyNext_dict_item st a0 hu λa4 h' a2 a1 a3=>?_;have I1:Inv X pins σ H {s with heap:=h'}:=(108,(λb o hb e=>(a3.2 b hb).trans e),O,U,Y,Z)
  obtain⟨o',e,c,d⟩:1:=id a1;exact⟨a4,rfl,Y4 (s:={s with heap:=h'}) e c d nofun ⟨kV kv.1,H,I1,Yh a2,⟨rfl,kv,hkv,rfl⟩,by rw[hl];exact a1,λb hb=>(hf b hb).1⟩⟩
 done:=by intro X hP hw hK hc i pins s σ H E I hf st hg;subst hP hw hK;obtain⟨hH,hi⟩:=hg;obtain⟨vs,F,a0⟩:1:=Yq I hH hd;have hl:kvs.length=vs.length:=EI F;obtain⟨O,U,f2,Y,Z,f5⟩:0:=hf it 'c';rw[hl] at st;exact wpAny_pyNext_dict_end (I.ok.hd hc) st a0 (List.getElem?_eq_none ∅) λh' eb=>⟨rfl,(108,(λb o hb e=>eb b o hb e),O,U,Y,Z)⟩
 self:=λA i s Q E st hQ=>wpAny_pyIter_keyiter st hQ
theorem TN {σ:St}(I:(4,s))(h:H a=(6,kvs))(q:∀ o,R (Itd a o kvs) (B,a,.frz o (.dK kvs))) :
 wpAny ((H,X.w)) X.A (pyIter (.ref a)) (PIE X pins σ tg R) E s:=by
 obtain⟨_,U,vs,Y,o,es,ep,O,c,hd,rest⟩:488440:=(36,a,h);have F:=I.freeze h O;have hl:kvs.length=vs.length:=EI Y;refine wpAny_pyIter_dict (knd:=B4 X.prog X.w) U ⟨o,es,O,c,hd,rest⟩ ?_;rw[<- hl];refine⟨s.heap.objs.size,[s.heap.objs.size],_,_,_,rfl,F.kept (t':=s.toks) λb o e=>BH _ e,S6 a _ o kvs es ep hd,⟨_,(12,_),rfl,rfl⟩,λb hb=>?_,q o⟩;have e:b=s.heap.objs.size:=by simpa using hb
 subst e;exact F.fpOk (BE _) (F.hok.fresh (BE _))
theorem YL {σ:St}{o:Obj}(I:(4,s))(h:H a=(59,o,.dK kvs))(q:R (Itd a o kvs) H) :
 wpAny ((H,X.w)) X.A (pyIter (.ref a)) (PIE X pins σ tg R) E s:=by
 obtain⟨O,_,U,vs,Y,o',es,ep,F,c,hd,rest⟩:488460:=(36,a,h);rw[O] at F
 cases F;have hl:kvs.length=vs.length:=EI Y;refine wpAny_pyIter_dict (knd:=B4 X.prog X.w) U ⟨o,es,O,c,hd,rest⟩ ?_;rw[<- hl];refine⟨s.heap.objs.size,[s.heap.objs.size],_,_,_,rfl,I.kept (t':=s.toks) λb o e=>BH _ e,S6 a _ o kvs es ep hd,⟨_,(12,_),rfl,rfl⟩,λb hb=>?_,q⟩;have e:b=s.heap.objs.size:=by simpa using hb
 subst e;exact I.fpOk (BE _) (61,_)
theorem Same.seqT {K:W.Frag}(e:(5,H'))(h:(A,xs)):SqT K H' a xs:=by
 rcases h with (h|⟨o,h⟩)|h
 . exact(93,e _ _ h)
 . exact .inl (.inr ⟨o,e _ _ h⟩)
 exact .inr h
mutual
def Is (K:W.Frag)(H:Hp):PyData->V->Prop
 |.none,v=>v = .non
 |.bool b,v=>v = .bl b
 |.int i,v=>v = .int i
 |.str x,v=>v = .str x
 |.list ds,v=>∃ a xs,v = .ref a/\(N,a)/\(I,ds,xs)
 |.tuple ds,v=>∃ a xs,v = .ref a/\(A,xs)/\(I,ds,xs)
 |.dict _,_=>False
def IsL (K:W.Frag)(H:Hp):AD->List V->Prop
 | [],vs=>vs=[]
 |d :: ds,vs=>∃ v r,vs=v :: r/\(9,d,v)/\(I,ds,r)
end
mutual
theorem Is.mono {K:W.Frag}{H H':Hp}(e:(5,H')):∀(d:PyData) (v:V),(9,d,v)->(Y,d,v)
 |.none,_,h=>by simp only[Is] at h ⊢;exact h
 |.bool _,_,h=>by simp only[Is] at h ⊢;exact h
 |.int _,_,h=>by simp only[Is] at h ⊢;exact h
 |.str _,_,h=>by simp only[Is] at h ⊢;exact h
 |.list ds,v,h=>by simp only[Is] at h ⊢;obtain⟨a,xs,F,O,U⟩:2:=h;exact⟨a,xs,F,e.seq O,IsL.mono e ds xs U⟩
 |.tuple ds,v,h=>by simp only[Is] at h ⊢;obtain⟨a,xs,F,O,U⟩:2:=h;exact⟨a,xs,F,e.seqT O,IsL.mono e ds xs U⟩
 |.dict _,_,h=>by simp only[Is] at h
theorem IsL.mono {K:W.Frag}{H H':Hp}(e:(5,H')):∀(ds:AD) (vs:List V),(I,ds,vs)->IsL K H' ds vs
 | [],_,h=>by simp only[IsL] at h ⊢;exact h
 |d :: ds,vs,h=>by simp only[IsL] at h ⊢;obtain⟨v,r,F,O,U⟩:2:=h;exact⟨v,r,F,Is.mono e d v O,IsL.mono e ds r U⟩
end
def AQ:=@IsL.mono
def AT:=@Is.mono
section
variable {σ:St}
mutual
theorem Is.reads (I:(4,s)):∀(d:PyData) (v:V) (u:Value),Is X.K H d v->(u,v)->∃ as,Reads s.heap u d as
 |.none,v,u,i,r=>by
   simp only[Is] at i;subst i
   cases r;exact⟨_,.none⟩
 |.bool b,v,u,i,r=>by
   simp only[Is] at i;subst i
   cases r;exact⟨_,.bool b⟩
 |.int n,v,u,i,r=>by simp only[Is] at i;subst i;obtain⟨t,rfl⟩:=r;exact⟨_,.int n t⟩
 |.str x,v,u,i,r=>by simp only[Is] at i;subst i;obtain⟨t,rfl⟩:=r;exact⟨_,.str x t⟩
 |.list ds,v,u,i,r=>by
   simp only[Is] at i;obtain⟨a,xs,rfl,F,O⟩:2:=i
   cases r;obtain⟨its,Z,⟨o,n,e,U,hd,hs⟩,_⟩:1:=I.list F;obtain⟨as,Y⟩:=IsL.reads I ds xs its O Z;exact⟨_,.list e U hs (by simpa using Y)⟩
 |.tuple ds,v,u,i,r=>by
   simp only[Is] at i;obtain⟨a,xs,rfl,F,O⟩:2:=i
   cases r;obtain⟨its,Z,⟨o,e,U,n,hd⟩,_⟩:1:=I.tuple F;obtain⟨as,Y⟩:=IsL.reads I ds xs its O Z;exact⟨_,.tuple e U hd (by simpa using Y)⟩
 |.dict _,_,_,i,_=>by simp only[Is] at i
theorem IsL.reads (I:(4,s)):∀(ds:AD) (vs:List V) (us:AC),IsL X.K H ds vs->(R,vs)->∃ as,ReadsAll s.heap us ds as
 | [],vs,us,i,r=>by
   simp only[IsL] at i;subst i
   cases r;exact⟨_,.nil⟩
 |d :: ds,vs,us,i,r=>by
   simp only[IsL] at i;obtain⟨v,U,rfl,F,O⟩:2:=i
   cases r with
   |cons r1 r2=>obtain⟨Y,h1⟩:=Is.reads I d v _ F r1;obtain⟨Z,h2⟩:=IsL.reads I ds U _ O r2;exact⟨_,.cons h1 h2⟩
end
def AU:=@Is.reads
end
theorem Zl {K:W.Frag}{H:Hp}:∀ ns:List Int,(I,ns.map PyData.int,ns.map V.int)
 | []=>by simp only[List.map_nil,IsL]
 |n :: r=>by simp only[List.map_cons,IsL];exact⟨_,_,rfl,by simp only[Is],Zl r⟩
theorem Nc {K:W.Frag}{H:Hp}:∀ ns:AA,(I,ns.map PyData.str,ns.map V.str)
 | []=>by simp only[List.map_nil,IsL]
 |n :: r=>by simp only[List.map_cons,IsL];exact⟨_,_,rfl,by simp only[Is],Nc r⟩
theorem Wm {K:W.Frag}{ns:List Int}(h:(83,K,a,V.int)):Is K H (.list (ns.map PyData.int)) (.ref a):=by simp only[Is];exact⟨a,_,rfl,h,Zl ns⟩
structure QA (A:Around):Prop where
 un:A.units+150<cLine
 gd:A.guards=some []
theorem Bs {A:Around}{k:Nat}(F:Room k A):QA A:=⟨by have:=F.un;omega,F.gd⟩
noncomputable def X5 (K:W.Frag):R2:=λx y H Q=>(∃ i j,x = .int i/\y = .int j/\(X,(i+j),H))\/(∃ i j,x = .str i/\y = .str j/\i.length+j.length<=sizeLine/\(17,(i++j),H))\/aT9 x y H Q\/aD3 K x y H Q\/aK7 K x y H Q
theorem WX:OpR X (binaryOp .Add) (X5 X.K):=op_add.or (op_add_str.or (op_cat.or (op_catT.or YU)))
noncomputable def ag1:R2:=λx y H Q=>(∃ i j,x = .int i/\y = .int j/\CMul i j/\(X,(i*j),H))\/aU1 x y H Q
theorem op_mulA:OpR X (binaryOp .Mult) ag1:=op_mul.or OF
theorem Mf:OpR X (binaryOp .FloorDiv) (rI aR3 λi j=>.int (i / j)):=WI
noncomputable def aO1 (K:W.Frag)(neg:Bool):R2:=λx y H Q=>∃ dx dy,(9,dx,x)/\(9,dy,y)/\SeqAt.shaped dx=true/\SeqAt.shaped dy=true/\(t,(if neg then !PyData.eqv dx dy else PyData.eqv dx dy))
theorem UY (F:QA X.A):OpR X (compareOp .Eq) (aO1 X.K false):=by intro pins s σ H x y v u Q I rx ry h;obtain⟨dx,dy,O,U,sx,sy,q⟩:2:=h;obtain⟨as,Y⟩:=AU I dx x v O rx;obtain⟨bs,Z⟩:=AU I dy y u U ry;exact eq_dataH Y Z sx sy (by have:=F.un;omega) ⟨.bl _,H,I,rfl,q⟩
theorem RA (F:QA X.A):OpR X (compareOp .NotEq) (aO1 X.K true):=by intro pins s σ H x y v u Q I rx ry h;obtain⟨dx,dy,O,U,sx,sy,q⟩:2:=h;obtain⟨as,Y⟩:=AU I dx x v O rx;obtain⟨bs,Z⟩:=AU I dy y u U ry;exact ne_dataH Y Z sx sy (by have:=F.un;omega) ⟨.bl _,H,I,rfl,q⟩
noncomputable def aN7 (K:W.Frag):R2:=λx y H Q=>rEq x y H Q\/aO1 K false x y H Q
noncomputable def aN6 (K:W.Frag):R2:=λx y H Q=>rNe x y H Q\/aO1 K true x y H Q
theorem QZ (F:QA X.A):OpR X (compareOp .Eq) (aN7 X.K):=op_eq.or (UY F)
theorem YZ (F:QA X.A):OpR X (compareOp .NotEq) (aN6 X.K):=op_ne.or (RA F)
noncomputable def rInT (neg:Bool):R2:=λx y H Q=>∃ i j,x = .str i/\y = .str j/\(t,(if neg then !(!(Builtin.Str.occurrences j i 0 j.length 1).isEmpty) else !(Builtin.Str.occurrences j i 0 j.length 1).isEmpty))
noncomputable def aP8 (neg:Bool):R2:=λx y H Q=>∃ a o,y = .ref a/\DGet H a x o/\(t,(if neg then !o.isSome else o.isSome))
theorem PL (hu:X.A.units+1<cLine):OpR X (compareOp .In) (aP8 false):=by
 intro pins s σ H x y v u Q I O U h;obtain⟨a,o,rfl,g,q⟩:2:=h
 cases U;exact d_in hu I g O λs' F=>⟨.bl _,H,F,rfl,q⟩
theorem Yg (hu:X.A.units+1<cLine):OpR X (compareOp .NotIn) (aP8 true):=by
 intro pins s σ H x y v u Q I O U h;obtain⟨a,o,rfl,g,q⟩:2:=h
 cases U;exact au7 hu I g O λs' F=>⟨.bl _,H,F,rfl,q⟩
noncomputable def aP7 (K:W.Frag)(neg:Bool):R2:=λx y H Q=>∃ d ds,(9,d,x)/\((9,.list ds,y)\/(9,.tuple ds,y))/\PyData.canLayAll0 ds=true/\d.canLay0=true/\d.depth<=100/\(t,(if neg then !(ds.any λe=>PyData.eqv e d) else ds.any λe=>PyData.eqv e d))
theorem UU (U:QA X.A):OpR X (compareOp .In) (aP7 X.K false):=by
 intro pins s σ H x y v u Q I rx Z h;obtain⟨d,ds,ix,F,h1,h2,h3,q⟩:2:=h;obtain⟨bs,Y⟩:=AU I d x v ix rx;rcases F with F|F
 . obtain⟨as,O⟩:=AU I _ y u F Z;exact SeqAt.in_list_reads O Y h1 h2 (by have:=U.un;have:=GQ (PyData.depthAll ds) d.depth;omega) ⟨.bl _,H,I,rfl,q⟩
 obtain⟨as,O⟩:=AU I _ y u F Z;exact SeqAt.in_tuple_reads O Y h1 h2 (by have:=U.un;have:=GQ (PyData.depthAll ds) d.depth;omega) ⟨.bl _,H,I,rfl,q⟩
theorem QI (U:QA X.A):OpR X (compareOp .NotIn) (aP7 X.K true):=by
 intro pins s σ H x y v u Q I rx Z h;obtain⟨d,ds,ix,F,h1,h2,h3,q⟩:2:=h;obtain⟨bs,Y⟩:=AU I d x v ix rx;rcases F with F|F
 . obtain⟨as,O⟩:=AU I _ y u F Z;exact SeqAt.notIn_list_reads O Y h1 h2 (by have:=U.un;have:=GQ (PyData.depthAll ds) d.depth;omega) ⟨.bl _,H,I,rfl,q⟩
 obtain⟨as,O⟩:=AU I _ y u F Z;exact SeqAt.notIn_tuple_reads O Y h1 h2 (by have:=U.un;have:=GQ (PyData.depthAll ds) d.depth;omega) ⟨.bl _,H,I,rfl,q⟩
noncomputable def Xb (K:W.Frag)(neg:Bool):R2:=λx y H Q=>rIn K neg x y H Q\/rInT neg x y H Q\/aP8 neg x y H Q\/aP7 K neg x y H Q
theorem QA.hu {A:Around}(h:QA A):A.units+1<cLine:=by have:=h.un;omega
theorem SU (F:QA X.A):OpR X (compareOp .In) (Xb X.K false):=op_in_seq.or (op_in_str.or ((PL F.hu).or (UU F)))
theorem SD (F:QA X.A):OpR X (compareOp .NotIn) (Xb X.K true):=op_notIn_seq.or (op_notIn_str.or ((Yg F.hu).or (QI F)))
noncomputable def az9 (K:W.Frag):V->Option Int->Option Int->Hp->VK->Prop:=λx lo hi H Q=>aU6 K x lo hi H Q\/aU2 K x lo hi H Q\/aT8 x lo hi H Q\/aT0 K x lo hi H Q
theorem sl_A:SlR X (az9 X.K):=sl_list.or (sl_tup.or (sl_str.or OO))
noncomputable def aU4:R2:=λx y H Q=>∃ a v,x = .ref a/\DGet H a y (some v)/\Q v H
theorem OQ (hu:X.A.units+1<cLine):IxR X aU4:=by
 intro value a0 pins s σ H x y v u Q I Z ry h U;obtain⟨a,z,rfl,g,q⟩:2:=h
 cases Z;exact tail_any (Uy I g) PySem.F.slot_dict_getitem.lookup (Yz hu I g ry λw' s' O Y=>⟨z,H,O,Y,q⟩) U
noncomputable def Pk (K:W.Frag):R2:=λx y H Q=>rIx K x y H Q\/aU4 x y H Q
theorem WD (hu:X.A.units+1<cLine):IxR X (Pk X.K):=ix_seq.or (OQ hu)
noncomputable def Uj (K:W.Frag):List V->Hp->VK->Prop:=λxs H Q=>(∃ x n,xs=[x]/\aT4 K x H n/\(X,n,H))\/∃ a kvs,xs=[V.ref a]/\H a=(6,kvs)/\(X,kvs.length,H)
theorem Z6:CallR X (.builtin "len") (Uj X.K):=call_len.or YE
noncomputable def Jb (K:W.Frag):List V->Hp->VK->Prop:=λxs H Q=>(∃ x c t b,xs=[x,.ty c]/\Rs K H x t/\(82,K,t,c)=some b/\(t,b))\/(∃ x c t b,xs=[x,.ref c]/\Rs K H x t/\W.kitOne K t (.ref c)=some b/\(t,b))\/∃ a ys c b,xs=[V.ref a,.ty c]/\(((A,ys)/\(82,K,.type "tuple",c)=some b)\/(SqL K H a ys/\(82,K,.type "list",c)=some b))/\(t,b)
theorem Sg:CallR X (.builtin "isinstance") (Jb X.K):=call_isinst.or (call_isinstR.or Tr)
noncomputable def Wo (K:W.Frag):List V->Hp->VK->Prop:=λxs H Q=>∃ p ys,xs=[.ref p]/\(SqL K H p ys\/SqT K H p ys)/\∀ l,H l=none->(C,l,(S,H,l,ys))
theorem Xi:CallR X (.type "list") (Wo X.K):=T7
noncomputable def Nj (K:W.Frag):List V->Hp->VK->Prop:=λxs H Q=>∃ p ys,xs=[.ref p]/\((SqL K H p ys/\∀ l,H l=none->(C,l,(66,l,ys)))\/(SqT K H p ys/\(C,p,H)))
theorem Uk:CallR X (.type "tuple") (Nj X.K):=Ri
noncomputable def aL1:List V->Hp->VK->Prop:=λxs H Q=>(∃ b,xs=[.bl b]/\(17,(if b then "True" else "False"),H))\/(xs=[.non]/\(17,"None",H))
theorem Ph:CallR X (.builtin "repr") aL1:=Y3
noncomputable def aM3:List V->Hp->VK->Prop:=λxs H Q=>(∃ i,xs=[.int i]/\(X,i,H))\/∃ k,xs=[.bl k]/\(X,(if k then 1 else 0),H)
theorem N5:CallR X (.type "int") aM3:=PH
noncomputable def ax8 (K:W.Frag):List V->Hp->VK->Prop:=λxs H Q=>∃(a:Addr) (bs:List Bool),xs=[.ref a]/\SqL K H a (bs.map V.bl)/\(t,bs.all id)
theorem TR (F:X.calm=true):CallR X (.builtin "all") (ax8 X.K):=XW F
noncomputable def ar9 (K:W.Frag):List V->Hp->VK->Prop:=λxs H Q=>∃(a:Addr) (bs:List Bool),xs=[.ref a]/\SqL K H a (bs.map V.bl)/\(t,bs.any id)
theorem YK (F:X.calm=true):CallR X (.builtin "any") (ar9 X.K):=UR F
noncomputable def Ej (K:W.Frag)(x:V)(H1:Hp)(R:It->Hp->Prop):Prop:=(∃ a,x = .ref a/\(∃ xs,SqL K H1 a xs)/\R (Itl K a) H1)\/(∃ a,x = .ref a/\(∃ xs,SqT K H1 a xs)/\R (Itt K a) H1)\/(∃ z,x = .str z/\R (Its z) H1)\/∃ a kvs,x = .ref a/\((H1 a=(6,kvs)/\∀ o,R (Itd a o kvs) (upd H1 a (.frz o (.dK kvs))))\/∃ o,H1 a=(59,o,.dK kvs)/\R (Itd a o kvs) H1)
noncomputable def aR0 (K:W.Frag)(tl:TE):TI:=fun σ H R=>tl σ H λx H1=>Ej K x H1 R
theorem UZ (hu:X.A.units+1<cLine){l:Expr}{tl:TE}(hl:PE X l tl):PI X tg l (aR0 X.K tl):=by
 intro pins s σ H R I h;refine BD (hl pins s σ H _ I h) λv O ⟨x,H1,F,U,Z⟩=>?_;rcases Z with ⟨a,e,⟨xs,Y⟩,q⟩|⟨a,e,⟨xs,Y⟩,q⟩|⟨z,e,q⟩|⟨a,kvs,e,q⟩
 . subst e
   cases U;obtain⟨its,rv,p,hz⟩:1:=F.list Y;refine GU p.isList ?_;refine⟨O.heap.objs.size,[O.heap.objs.size],_,_,H1,rfl,F.kept (t':=O.toks) λb o e=>BH _ e,TY a _,⟨_,(12,_),rfl,rfl⟩,λb hb=>?_,q⟩;have e:b=O.heap.objs.size:=by simpa using hb
   subst e;exact F.fpOk (BE _) (F.hok.fresh (BE _))
 . subst e
   cases U;obtain⟨its,rv,p,hz⟩:1:=F.tuple Y;refine GK (show O.heap.IsTuple a its.toArray from p) ?_;refine⟨O.heap.objs.size,[O.heap.objs.size],_,_,H1,rfl,F.kept (t':=O.toks) λb o e=>BH _ e,X1 a _,⟨_,(12,_),rfl,rfl⟩,λb hb=>?_,q⟩;have e:b=O.heap.objs.size:=by simpa using hb
   subst e;exact F.fpOk (BE _) (F.hok.fresh (BE _))
 . subst e;exact WO F U q
 subst e
 cases U;rcases q with ⟨hd,q⟩|⟨o,hd,q⟩
 . exact TN F hd q
 exact YL F hd q
noncomputable def Fnd (P:Program)(w:World)(K:W.Frag)(mg:AH)(base:Heap)(k:Nat)(x:Str)(ps:AA)(sp:Sp):Prop:=
 ∃ f fd,FnOk P w K mg base CX0 k f fd ps sp/\mg x=(3,f)/\(V,K,f)=true/\(37,K,ps,[])
section
variable {k:Nat}{ps:AA}{sp:Sp}{e:Expr}{es:List Expr}{t:TA}{p:Pos}
theorem An (F:Fnd X.prog X.w X.K X.mg X.base k x ps sp)(hr:Room k X.A)(Z:Gl X x)(ha:PA X (e :: es) t)(Y:(x==("__debug__":Str))=false:=by decide)
 (he:(29,(e :: es))=(false,(s,e)) :: starEach es X.env:=by ac_nf) (a0:((55,es)).any (·.1)=false:=by ac_nf):PE X ((60,x,p,(e :: es),[],pos)) (ah0 sp [] E0 t):=by
 obtain⟨f,fd,h1,h2,O,U⟩:2:=F;exact Zv h1 hr Z h2 O U .nil JY ha Y he a0
end
noncomputable def ExtBut (d:Addr)(H H':Hp):Prop:=∀ b o,b≠d->H b=some o->H' b=some o
theorem Same.lk {o:HO}(e:(5,H'))(h:H a=some o):H' a=some o:=e a o h
theorem ExtBut.lk {o:HO}(e:(h,d))(h:H a=some o)(n:a≠d):H' a=some o:=e a o n h
theorem Same.upd {p:Addr}{o:HO}(h:H p=none):Same H ((B,p,o)):=λb u e=>by rw[(106,e,h)];exact e
def AO:=@Same.upd
theorem ExtBut.upd {p:Addr}{o:HO}:ExtBut p H ((B,p,o)):=λb u n e=>by rw[Ap n];exact e
def AV:=@ExtBut.upd
theorem Same.but (e:(5,H')):ExtBut d H H':=λb o _ h=>e b o h
theorem ExtBut.trans (a:ExtBut d H H1)(b:ExtBut d H1 H2):ExtBut d H H2:=λc o n h=>b c o n (a c o n h)
theorem ExtBut.same (a:ExtBut d H H1)(b:Same H1 H2):ExtBut d H H2:=λc o n h=>b c o (a c o n h)
theorem ExtBut.after (a:(5,H1))(b:ExtBut d H1 H2):ExtBut d H H2:=λc o n h=>b c o n (a c o h)
theorem ExtBut.refl:ExtBut d H H:=λ_ _ _ h=>h
theorem ExtBut.seq {K:W.Frag}(e:(h,d))(n:a≠d)(h:(N,a)):SqL K H' a xs:=by
 rcases h with (h|⟨o,h⟩)|h
 . exact(93,e _ _ n h)
 . exact .inl (.inr ⟨o,e _ _ n h⟩)
 exact .inr h
noncomputable def aD1 (xs:List V)(H:Hp)(Q:VK):Prop:=xs.length<=sizeLine/\∀ p,H p=none->(C,p,(66,p,xs))
noncomputable def aK2 (xs:List V)(H:Hp)(Q:VK):Prop:=xs.length<=sizeLine/\∀ p,H p=none->(C,p,(S,H,p,xs))
noncomputable def aM0 (vs:List V)(H:Hp)(R:It->Hp->Prop):Prop:=∃ j:Int,vs=[.int j] /\ -(2 ^ 62)<=j/\j<2 ^ 62/\R (Itr 0 j.toNat) H
noncomputable def aB4 (vs:List V)(H:Hp)(R:It->Hp->Prop):Prop:=∃ i j:Int,vs=[.int i,.int j]/\(-(2 ^ 62)<=i/\i<2 ^ 62 /\ -(2 ^ 62)<=j/\j<2 ^ 62)/\R (Itr i (j-i).toNat) H
noncomputable def ae9 (g:TG)(tb:TS)(D:Ends)(σ:St)(J:It)(H1:Hp):Prop:=∃ W:Nat->Nat->St->Hp->Prop,(∃ m,W 0 m σ H1)/\∀ i m σ H,W i m σ H ->
 (J.stop i H/\D.nx σ H)\/(J.go i H/\∃ N:St->Hp->Prop,(∀ σ' H',N σ' H'->∃ m',m'<m/\W (i+1) m' σ' H')/\∀ x H',J.yld i H x H'->g x σ H' fun σ2 H2=>tb {D with nx:=N,ct:=N,bk:=D.nx} σ2 H2)
noncomputable def M7 (k:Nat)(js:AE)(g:TG)(tt:TT)(te:TE)(σ:St)(J:It)(H1:Hp)(Q:VK):Prop:=∀ p,H1 p=none ->
 ∃ W:Nat->Nat->Hp->Prop,(∃ m,W 0 m (S,H1,p,[]))/\∀ i m H,W i m H ->
  (J.stop i H/\(C,p,H))\/(J.go i H/\∃ N:Hp->Prop,(∀ H',N H'->∃ m',m'<m/\W (i+1) m' H') /\
   ∀ x H',J.yld i H x H'->g x ((30,k)++Ob σ js) H' fun σ2 H2=>tt σ2 H2 λb H3=>if b=true then te σ2 H3 λy H4=>∃ acc,H4 p=(2,acc)/\acc.length<sizeLine/\N (S,H4,p,(acc++[y])) else N H3)
noncomputable def ak4 (p:Addr)(ps:List (V×V))(H:Hp)(Q:VK):Prop:=H p=(6,[])/\∃ kvs:List (Key×V),ps=kvs.map (λkv=>(kV kv.1,kv.2))/\kvs.length<=15/\(C,p,(B,p,.dK (Ez [] kvs)))
section
variable {K:W.Frag}{σ:St}{ta tb:TE}{c:TT}{t u:TS}{x y:V}{i j:Int}
theorem i_var {n:Nat}(h:σ[n]? = some (some v))(k:Q v H):aP9 n σ H Q:=⟨v,h,k⟩
theorem i_c (k:Q v H):tC v σ H Q:=k
theorem i_next (k:D.nx σ H):aF1 D σ H:=k
theorem i_ret (k:te σ H D.rt):aS9 te D σ H:=k
theorem i_drop (k:te σ H λ_ H1=>D.nx σ H1):aC0 te D σ H:=k
theorem i_asg (k:te σ H λx H1=>g x σ H1 D.nx):aA0 te g D σ H:=k
theorem i_gname {n:Nat}{R:St->Hp->Prop}(k:R (107,n,v) H):Jf n v σ H R:=k
theorem i_if (k:c σ H λb H1=>if b=true then t D σ H1 else u D σ H1):aS2 c t u D σ H:=k
theorem i_op {r:R2}(k:ta σ H λx H1=>tb σ H1 λy H2=>r x y H2 Q):tOp r ta tb σ H Q:=k
theorem i_un {r:V->Hp->VK->Prop}(k:ta σ H λx H1=>r x H1 Q):tUn r ta σ H Q:=k
theorem i_rU {g:Int->V}(k:Q (g i) H):rU g (.int i) H Q:=⟨i,rfl,k⟩
theorem i_rI0 {g:Int->Int->V}(k:Q (g i j) H):rI0 g (.int i) (.int j) H Q:=⟨i,j,rfl,rfl,k⟩
theorem i_rI {C:Int->Int->Prop}{g:Int->Int->V}(h:C i j)(k:Q (g i j) H):rI C g (.int i) (.int j) H Q:=⟨i,j,rfl,rfl,h,k⟩
theorem i_addI (k:(X,(i+j),H)):X5 K (.int i) (.int j) H Q:=.inl ⟨i,j,rfl,rfl,k⟩
theorem i_addS {a b:Str}(h:a.length+b.length<=sizeLine)(k:(17,(a++b),H)):X5 K (.str a) (.str b) H Q:=(98,⟨a,b,rfl,rfl,h,k⟩)
theorem Pb {b:Addr}(h1:H a=(2,xs))(h2:H b=(2,ys))(h:xs.length+ys.length<=sizeLine)(k:∀ p H',H p=none->(5,H')->H' p=(2,(xs++ys))->(D,p)):X5 K (.ref a) (.ref b) H Q:=
 (31,.inl ⟨a,b,xs,ys,rfl,rfl,h1,h2,h,λp hp=>k p _ hp (AO hp) Ab⟩)
theorem UF (h:CMul i j)(k:(X,(i*j),H)):ag1 (.int i) (.int j) H Q:=.inl ⟨i,j,rfl,rfl,h,k⟩
theorem Z5 (h1:H a=(2,xs))(h2:-(2 ^ 63)<=i/\i<2 ^ 63)(F:xs.length*i.toNat<=sizeLine)(k:∀ p H',H p=none->(5,H')->H' p=some (.lst (List.replicate i.toNat xs).flatten)->(D,p)):ag1 (.ref a) (.int i) H Q:=
 .inr ⟨a,i,xs,rfl,rfl,h1,h2.1,h2.2,F,λp hp=>k p _ hp (AO hp) Ab⟩
theorem i_eqS (h:aN9 x y=true)(k:(t,(decide (x=y)))):aN7 K x y H Q:=.inl ⟨h,k⟩
theorem i_neS (h:aN9 x y=true)(k:(t,(!decide (x=y)))):aN6 K x y H Q:=.inl ⟨h,k⟩
theorem UI {dx dy:PyData}(h1:(9,dx,x))(h2:(9,dy,y))(F:SeqAt.shaped dx=true)(O:SeqAt.shaped dy=true)(k:(t,PyData.eqv dx dy)):aN7 K x y H Q:=.inr ⟨dx,dy,h1,h2,F,O,k⟩
theorem MA {dx dy:PyData}(h1:(9,dx,x))(h2:(9,dy,y))(F:SeqAt.shaped dx=true)(O:SeqAt.shaped dy=true)(k:(t,(!PyData.eqv dx dy))):aN6 K x y H Q:=.inr ⟨dx,dy,h1,h2,F,O,k⟩
theorem i_true {R:Bool->Hp->Prop}(k:R true H):ad8 σ H R:=k
theorem i_tTest {R:Bool->Hp->Prop}(k:te σ H λx H'=>∃ b,x = .bl b/\R b H'):aC5 te σ H R:=k
theorem i_tB {R:Bool->Hp->Prop}(k:te σ H λx H'=>∃ b,x = .bl b/\R b H'):tB te σ H R:=k
theorem i_bl {b:Bool}{R:Bool->Prop}(k:R b):∃ c,V.bl b = .bl c/\R c:=⟨b,rfl,k⟩
theorem i_not {R:Bool->Hp->Prop}(k:c σ H λb H1=>R (!b) H1):aU0 c σ H R:=k
theorem i_and {c':TT}{R:Bool->Hp->Prop}(k:c σ H λb H1=>if b=true then c' σ H1 R else R false H1):aT6 c c' σ H R:=k
theorem i_or {c':TT}{R:Bool->Hp->Prop}(k:c σ H λb H1=>if b=true then R true H1 else c' σ H1 R):tOr c c' σ H R:=k
theorem Fv (h:H a=(2,xs))(e:atI xs i=some v)(k:Q v H):Pk K (.ref a) (.int i) H Q:=(93,⟨a,xs,i,v,rfl,rfl,AJ h,e,k⟩)
theorem KE {s:Nat}(h:z.length<=sizeLine)(e:atI z.cps.toList i=some s)(k:(17,⟨#[s]⟩,H)):Pk K (.str z) (.int i) H Q:=.inl (31,⟨z,i,s,rfl,rfl,h,e,k⟩)
theorem i_ixD (h:H a=(6,kvs))(e:Cr kvs (Sum.inr z:Key)=some v)(k:Q v H):Pk K (.ref a) (.str z) H Q:=.inr ⟨a,v,rfl,by rw[<- e];exact DGet.k (k:=Sum.inr z) h,k⟩
theorem i_lenL (h:H a=(2,xs))(k:(X,xs.length,H)):Uj K [.ref a] H Q:=.inl ⟨.ref a,_,rfl,.inl ⟨xs,AJ h,rfl⟩,k⟩
theorem Sm {c:String}{t:Value}{b:Bool}(h:Rs K H x t)(e:(82,K,t,c)=some b)(k:(t,b)):Jb K [x,.ty c] H Q:=.inl ⟨x,c,t,b,rfl,h,e,k⟩
theorem KL {c:String}{b:Bool}(h:(A,ys))(e:(82,K,.type "tuple",c)=some b)(k:(t,b)):Jb K [.ref a,.ty c] H Q:=(31,⟨a,ys,c,b,rfl,.inl ⟨h,e⟩,k⟩)
theorem LA {c:String}{b:Bool}(h:SqL K H a ys)(e:(82,K,.type "list",c)=some b)(k:(t,b)):Jb K [.ref a,.ty c] H Q:=(31,⟨a,ys,c,b,rfl,.inr ⟨h,e⟩,k⟩)
theorem YY (h:(N,a))(k:∀ p H',H p=none->(5,H')->H' p=(2,xs)->(D,p)):Wo K [.ref a] H Q:=⟨a,xs,rfl,.inl h,λp hp=>k p _ hp (AO hp) Ab⟩
theorem Mg (h:(N,a))(k:∀ p H',H p=none->(5,H')->H' p=(23,xs)->(D,p)):Nj K [.ref a] H Q:=⟨a,xs,rfl,.inl ⟨h,λp hp=>k p _ hp (AO hp) Ab⟩⟩
theorem i_intB {b:Bool}(k:(X,(if b then 1 else 0),H)):aM3 [.bl b] H Q:=.inr ⟨b,rfl,k⟩
theorem MV {bs:List Bool}(h:SqL K H a (bs.map V.bl))(k:(t,bs.all id)):ax8 K [.ref a] H Q:=⟨a,bs,rfl,h,k⟩
theorem OM {bs:List Bool}(h:SqL K H a (bs.map V.bl))(k:(t,bs.any id)):ar9 K [.ref a] H Q:=⟨a,bs,rfl,h,k⟩
theorem i_sl {r:V->Option Int->Option Int->Hp->VK->Prop}{tl th:TO}(k:te σ H λx H1=>tl σ H1 λl H2=>th σ H2 λu F=>r x l u F Q):tSl r te tl th σ H Q:=k
theorem i_noPart {R:Option Int->Hp->Prop}(k:R none H):a07 σ H R:=k
theorem i_part {R:Option Int->Hp->Prop}(k:te σ H λx H1=>∃ i,x = .int i/\R (some i) H1):aG8 te σ H R:=k
theorem i_int {R:Int->Prop}(k:R i):∃ j,V.int i = .int j/\R j:=⟨i,rfl,k⟩
theorem i_slS {lo hi:Option Int}(h:z.length<=sizeLine)(k:(17,Txt.slice z lo hi,H)):az9 K (.str z) lo hi H Q:=(31,.inl ⟨z,rfl,h,k⟩)
theorem O3 {lo hi:Option Int}(h:(N,a))(k:∀ p H',H p=none->(5,H')->H' p=(2,Mi xs lo hi)->(D,p)):az9 K (.ref a) lo hi H Q:=.inl ⟨a,xs,rfl,h,λp hp=>k p _ hp (AO hp) Ab⟩
theorem i_bm {T:String}{r:V->List V->Hp->VK->Prop}(k:te σ H λx H1=>tyV K T x H1/\ts σ H1 λxs H2=>r x xs H2 Q):tBM K T r te ts σ H Q:=k
theorem i_tyS (k:B):tyV K "str" (.str z) H/\B:=⟨rfl,k⟩
theorem YV (h:(Txt.upper z).length<=16777216)(k:(17,Txt.upper z,H)):am0 (.str z) [] H Q:=⟨z,rfl,rfl,h,k⟩
theorem i_bm0 {T:String}{r:V->List V->Hp->VK->Prop}(k:te σ H λx H1=>tyV K T x H1/\r x [] H1 Q):aR1 K T r te σ H Q:=k
theorem i_call {sp:Sp}{E:XK}(k:ts σ H λvs H1=>sp (vs++[]) H1 Q E):ah0 sp [] E ts σ H Q:=k
theorem i_cb {r:List V->Hp->VK->Prop}(k:ts σ H λvs H1=>r vs H1 Q):tCB r ts σ H Q:=k
theorem i_cons {tr:TA}{R:List V->Hp->Prop}(k:ta σ H λx H1=>tr σ H1 λxs H2=>R (x :: xs) H2):ah1 ta tr σ H R:=k
theorem i_nil {R:List V->Hp->Prop}(k:R [] H):aN5 σ H R:=k
theorem i_tup (k:ts σ H λxs H1=>aD1 xs H1 Q):aU8 ts σ H Q:=k
theorem i_lst (k:ts σ H λxs H1=>aK2 xs H1 Q):aS5 ts σ H Q:=k
theorem Aw (h:xs.length<=sizeLine)(k:∀ p H',H p=none->(5,H')->H' p=(23,xs)->(D,p)):aD1 xs H Q:=⟨h,λp hp=>k p _ hp (AO hp) Ab⟩
theorem Bk (h:xs.length<=sizeLine)(k:∀ p H',H p=none->(5,H')->H' p=(2,xs)->(D,p)):aK2 xs H Q:=⟨h,λp hp=>k p _ hp (AO hp) Ab⟩
theorem JU (k:∀ p H',H p=none->(5,H')->H' p=(6,[])->(D,p)):aj6 σ H Q:=λp hp=>k p _ hp (AO hp) Ab
theorem i_put {td ty tv:TE}(k:tv σ H λv H1=>td σ H1 λx H2=>ty σ H2 λy O=>∃ a F,x = .ref a/\DPut O a y v F/\D.nx σ F):aF7 td ty tv D σ H:=k
theorem Ix {R:Hp->Prop}(h:H a=(6,kvs))(hl:kvs.length<1000)(k:∀ H',(h,a)->H' a=(6,Eo kvs (Sum.inr z) v)->R H'):∃ b F,V.ref a = .ref b/\DPut H b (.str z) v F/\R F:=
 ⟨a,_,rfl,DPut.k (k:=Sum.inr z) h (Z4 (DM hl)),k _ AV Ab⟩
theorem i_for {tb:TS}(k:wi σ H λJ H1=>ae9 g tb D σ J H1):aT5 wi g tb D σ H:=k
theorem i_comp {tt:TT}(k:wi σ H λJ H1=>M7 m js g tt te σ J H1 Q):at9 m js wi g tt te σ H Q:=k
theorem Jk (h:(N,a))(k:R (Itl K a) H):Ej K (.ref a) H R:=.inl ⟨a,rfl,⟨xs,h⟩,k⟩
theorem Rb (h:(A,xs))(k:R (Itt K a) H):Ej K (.ref a) H R:=(98,⟨a,rfl,⟨xs,h⟩,k⟩)
theorem ZD (h:H a=(6,kvs))(k:∀ o,R (Itd a o kvs) (B,a,.frz o (.dK kvs))):Ej K (.ref a) H R:=.inr (31,⟨a,kvs,rfl,.inl ⟨h,k⟩⟩)
theorem ZT {o:Obj}(h:H a=(59,o,.dK kvs))(k:R (Itd a o kvs) H):Ej K (.ref a) H R:=.inr (31,⟨a,kvs,rfl,.inr ⟨o,h,k⟩⟩)
theorem i_rng1 (k:ts σ H λvs H1=>aM0 vs H1 R):aD6 ts σ H R:=k
theorem J0 (h:-(2 ^ 62)<=i/\i<2 ^ 62)(k:R (Itr 0 i.toNat) H):aM0 [V.int i] H R:=⟨i,rfl,h.1,h.2,k⟩
theorem i_rng2 (k:ts σ H λvs H1=>aB4 vs H1 R):aB9 ts σ H R:=k
theorem YN (h:(-(2 ^ 62)<=i/\i<2 ^ 62) /\ -(2 ^ 62)<=j/\j<2 ^ 62)(k:R (Itr i (j-i).toNat) H):aB4 [V.int i,V.int j] H R:=⟨i,j,rfl,⟨h.1.1,h.1.2,h.2.1,h.2.2⟩,k⟩
theorem i_iany (k:te σ H λx H1=>Ej K x H1 R):aR0 K te σ H R:=k
theorem W8 {F:List (TE×TE)}(k:∀ p H1,H p=none->(5,H1)->H1 p=(6,[])->Np F σ H1 λps H2=>ak4 p ps H2 Q):aF4 F σ H Q:=λp hp=>k p _ hp (AO hp) Ab
theorem i_pair {tk tv:TE}{r:List (TE×TE)}{R:List (V×V)->Hp->Prop}(k:tk σ H λx H1=>tv σ H1 λy H2=>Np r σ H2 λps F=>R ((x,y) :: ps) F):Np ((tk,tv) :: r) σ H R:=k
theorem Qz {p:Addr}{ps:List (V×V)}(kvs:List (Key×V))(h:H p=(6,[]))(e:ps=kvs.map (λkv=>(kV kv.1,kv.2)))(hl:kvs.length<=15)(k:∀ H',(h,p)->H' p=(6,Ez [] kvs)->(D,p)):ak4 p ps H Q:=⟨h,kvs,e,hl,k _ AV Ab⟩
theorem i_pair0 {R:List (V×V)->Hp->Prop}(k:R [] H):Np [] σ H R:=k
end
theorem Iy {c A:Prop}[Decidable c](h1:c->A)(h2:¬ c->B):if decide c=true then A else B:=by
 by_cases h:c
 . rw[BB (BY h)];exact h1 h
 rw[AZ (by rw[BS h];exact BX)];exact h2 h
theorem HU {c A:Prop}[Decidable c](h1:¬ c->A)(h2:c->B):if(!decide c)=true then A else B:=by
 by_cases h:c
 . rw[BY h,AZ nofun];exact h2 h
 rw[BS h,BB nofun];exact h1 h
theorem GS {b:Bool}{A:Prop}(h1:b=true->A)(h2:b=false->B):if b=true then A else B:=by
 cases b
 . rw[AZ BX];exact h2 rfl
 rw[BB rfl];exact h1 rfl
theorem T2 {b:Bool}{A:Prop}(h1:b=false->A)(h2:b=true->B):if(!b)=true then A else B:=by
 cases b
 . exact h1 rfl
 exact h2 rfl
theorem iteNT {A:Prop}(h:B):if(!true)=true then A else B:=h
theorem iteNF {A B:Prop}(h:A):if(!false)=true then A else B:=h
theorem A9 {n:Nat}(h:n<=1000000):n<=sizeLine:=by rw[CH];omega
noncomputable def Fg (J:It)(xs:List V)(G:Hp->Prop):Prop:=
 ∀ i H,G H->(i<xs.length->J.go i H)/\(xs.length<=i->J.stop i H)/\∀ x H',i<xs.length->J.yld i H x H'->H'=H/\xs[i]? = some x
theorem Bq {K:W.Frag}:Fg (Itl K a) xs λH=>SqL K H a xs:=by intro i H g;refine⟨λh=>⟨xs,xs[i],g,BJ h⟩,λh=>⟨xs,g,h⟩,λx H' _ h=>⟨h.1,h.2 xs g⟩⟩
theorem Et {K:W.Frag}:Fg (Itt K a) xs λH=>SqT K H a xs:=by intro i H g;refine⟨λh=>⟨xs,xs[i],g,BJ h⟩,λh=>⟨xs,g,h⟩,λx H' _ h=>⟨h.1,h.2 xs g⟩⟩
theorem S7 {o:Obj}:Fg (Itd a o kvs) (kvs.map λkv=>kV kv.1) λH=>H a=some (.frz o (.dK kvs)):=by intro i H g;rw[BA];refine⟨λh=>⟨g,h⟩,λh=>⟨g,h⟩,λx H' _ h=>?_⟩;obtain⟨e,kv,h1,h2⟩:420:=h;exact⟨e,by rw[BK,h1,h2];rfl⟩
theorem C5 {n:Nat}:Fg (Itr lo n) ((List.range n).map λ(i:Nat)=>V.int (lo+(i:Int))) λ_=>True:=by
 intro i H _;refine⟨λh=>?_,λh=>?_,λx H' hi h=>?_⟩
 . show i<n;simpa using h
 . show n<=i;simpa using h
 obtain⟨e,O⟩:=h;refine⟨e,?_⟩;have F:i<n:=by simpa using hi
 rw[BK,List.getElem?_range F,O];rfl
theorem TF {tb:TS}{σ:St}(hw:Fg J xs G)(Pv:Nat->St->Hp->Prop)(U:Pv 0 σ H)(Y:∀ i σ H,Pv i σ H->G H)
 (Z:∀ i x σ H,xs[i]? = some x->Pv i σ H->g x σ H fun σ2 H2=>tb {D with nx:=Pv (i+1),ct:=Pv (i+1),bk:=D.nx} σ2 H2) (hd:∀ σ H,Pv xs.length σ H->D.nx σ H) :
 ∃ W:Nat->Nat->St->Hp->Prop,(∃ m,W 0 m σ H)/\∀ i m σ H,W i m σ H ->
  (J.stop i H/\D.nx σ H)\/(J.go i H/\∃ N:St->Hp->Prop,(∀ σ' H',N σ' H'->∃ O,O<m/\W (i+1) O σ' H')/\∀ x H',J.yld i H x H'->g x σ H' fun σ2 H2=>tb {D with nx:=N,ct:=N,bk:=D.nx} σ2 H2):=by
 refine⟨λi m σ H=>m=xs.length-i/\i<=xs.length/\Pv i σ H,⟨xs.length,by simp,Nat.zero_le _,U⟩,?_⟩;rintro i m σ H ⟨rfl,hi,p⟩;obtain⟨w1,w2,w3⟩:0:=hw i H (Y i σ H p)
 by_cases F:i<xs.length
 . refine .inr ⟨w1 F,Pv (i+1),fun σ' H' p'=>⟨xs.length-(i+1),by omega,rfl,F,p'⟩,λx H' y=>?_⟩;obtain⟨e,hx⟩:=w3 x H' F y;subst e;exact Z i x σ _ hx p
 have e:i=xs.length:=by omega
 subst e;exact .inl ⟨w2 (BE _),hd σ H p⟩
noncomputable def CN (p:Addr)(n:Nat)(Pv:Nat->List V->Hp->Prop)(i:Nat):Hp->Prop:=λH'=>i+1<=n/\∃ acc,H' p=(2,acc)/\acc.length<=i+1/\Pv (i+1) acc H'
theorem VX {p:Addr}{n:Nat}{y:V}(hn:n<=1000000)(hi:i<n)(hl:acc.length<=i)(e:H p=(2,acc))(k:∀ H',(h,p)->H' p=(2,(acc++[y]))->Pv (i+1) (acc++[y]) H') :
 ∃ acc,H p=(2,acc)/\acc.length<sizeLine/\CN p n Pv i ((S,H,p,(acc++[y]))):=
 ⟨acc,e,by rw[CH];omega,hi,acc++[y],Ab,by rw[BL,CU];omega,k _ AV Ab⟩
theorem Rc {p:Addr}{n:Nat}(hi:i<n)(hl:acc.length<=i)(e:H p=(2,acc))(k:Pv (i+1) acc H):CN p n Pv i H:=⟨hi,acc,e,by omega,k⟩
theorem UP {tt:TT}{σ:St}{p:Addr}{k:Nat}(hw:Fg J xs G)(hp:H p=none)(Pv:Nat->List V->Hp->Prop)
 (h0:∀ H',(5,H')->H' p=(2,[])->Pv 0 [] H') (hG:∀ i acc H,Pv i acc H->G H)
 (hs:∀ i x acc H,xs[i]? = some x->i<xs.length->acc.length<=i->H p=(2,acc)->Pv i acc H->g x ((30,k)++Ob σ js) H fun σ2 H2=>tt σ2 H2 λb F=>if b=true then te σ2 F λy O=>∃ acc,O p=(2,acc)/\acc.length<sizeLine/\CN p xs.length Pv i (S,O,p,(acc++[y])) else CN p xs.length Pv i F)
 (hd:∀ acc H,H p=(2,acc)->acc.length<=xs.length->Pv xs.length acc H->(C,p,H)) :
 ∃ W:Nat->Nat->Hp->Prop,(∃ m,W 0 m (S,H,p,[]))/\∀ i m H,W i m H ->
  (J.stop i H/\(C,p,H))\/(J.go i H/\∃ N:Hp->Prop,(∀ H',N H'->∃ Z,Z<m/\W (i+1) Z H') /\
   ∀ x H',J.yld i H x H'->g x ((30,k)++Ob σ js) H' fun σ2 H2=>tt σ2 H2 λb F=>
    if b=true then te σ2 F λy O=>∃ acc,O p=(2,acc)/\acc.length<sizeLine/\N (S,O,p,(acc++[y])) else N F):=by
 refine⟨λi m H=>m=xs.length-i/\i<=xs.length/\∃ acc,H p=(2,acc)/\acc.length<=i/\Pv i acc H,⟨xs.length,by simp,Nat.zero_le _,[],Ab,Nat.le_refl _,h0 _ (Same.upd hp) Ab⟩,?_⟩;rintro i m H ⟨rfl,hi,acc,Y,hl,q⟩;obtain⟨w1,w2,w3⟩:0:=hw i H (hG i acc H q)
 by_cases U:i<xs.length
 . refine .inr ⟨w1 U,CN p xs.length Pv i,λH' ⟨h1,h2⟩=>⟨xs.length-(i+1),by omega,rfl,h1,h2⟩,λx H' y=>?_⟩;obtain⟨e,hx⟩:=w3 x H' U y;subst e;exact hs i x acc _ hx U hl Y q
 have e:i=xs.length:=by omega
 subst e;exact .inl ⟨w2 (BE _),hd acc H Y hl q⟩
noncomputable def aE9 (p:Addr)(N:Hp->Prop):VK:=λy H4=>∃ acc,H4 p=(2,acc)/\acc.length<sizeLine/\N (S,H4,p,(acc++[y]))
theorem Hi {tt:TT}{σ:St}{k:Nat}(hw:Fg J xs G)(Pv:Addr->Nat->List V->Hp->Prop)
 (U:∀ p H',H p=none->(5,H')->H' p=(2,[])->Pv p 0 [] H') (hG:∀ p i acc H,Pv p i acc H->G H)
 (hs:∀ p i x acc H1,H p=none->xs[i]? = some x->i<xs.length->acc.length<=i->H1 p=(2,acc)->Pv p i acc H1->g x ((30,k)++Ob σ js) H1 fun σ2 H2=>tt σ2 H2 λb O=>if b=true then te σ2 O (aE9 p (CN p xs.length (Pv p) i)) else CN p xs.length (Pv p) i O)
 (hd:∀ p acc H1,H p=none->H1 p=(2,acc)->acc.length<=xs.length->Pv p xs.length acc H1->(C,p,H1)):M7 k js g tt te σ J H Q:=λp hp=>
 UP hw hp (Pv p) (λH' e h=>U p H' hp e h) (hG p) (λi x acc H1 h1 h2 F Y Z=>hs p i x acc H1 hp h1 h2 F Y Z) λacc H1 h1 h2 F=>hd p acc H1 hp h1 h2 F
theorem Lw {p:Addr}{n:Nat}{y:V}(hn:n<=1000000)(hi:i<n)(hl:acc.length<=i)(e:H p=(2,acc))(k:∀ H',(h,p)->H' p=(2,(acc++[y]))->Pv (i+1) (acc++[y]) H') :
 aE9 p (CN p n Pv i) y H:=VX hn hi hl e k
theorem QT {tt:TT}{σ:St}{k:Nat}(hw:Fg J xs G)(t:V->Bool)(f:V->V)(hz:xs.length<=1000000)(hG:∀ H',(5,H')->G H')
 (hs:∀(i:Nat) x H1 (R:VK) (R':Hp->Prop),xs[i]? = some x->(5,H1)->(t x=true->R (f x) H1)->(t x=false->R' H1)->g x ((30,k)++Ob σ js) H1 fun σ2 H2=>tt σ2 H2 λb O=>if b=true then te σ2 O R else R' O)
 (hd:∀ p H',H p=none->(5,H')->H' p=(2,((xs.filter t).map f))->(D,p)):M7 k js g tt te σ J H Q:=by
 refine Hi hw (λp i acc H1=>(5,H1)/\acc=((xs.take i).filter t).map f) (λp H' hp e h=>⟨e,by simp⟩) (λp i acc H1 h=>hG H1 h.1) (λp i x acc H1 hp Y hi hl ha ⟨e,F⟩=>?_) λp acc H1 hp ha hl ⟨e,F⟩=>?_
 . have U:xs.take (i+1)=xs.take i++[x]:=by rw[CC,Y];rfl
   refine hs i x H1 _ _ Y e (λh=>?_) λh=>?_
   . refine Lw hz hi hl ha λH' Z h'=>⟨λb o hb=>Z b o (ne_of_none hb hp) (e b o hb),?_⟩;rw[U,DX,BU,F];simp[h]
   refine Rc hi hl ha ⟨e,?_⟩;rw[U,DX,BU,F];simp[h]
 refine hd p H1 hp e ?_;rw[ha,F,CF]
theorem Dy {α:Type}(xs:List α):xs.filter (λ_=>true)=xs:=by simp
theorem Mh {σ:St}{k:Nat}(U:Fg J xs G)(f:V->V)(hz:xs.length<=1000000)(F:∀ H',(5,H')->G H')
 (O:∀(i:Nat) x H1 (R:VK),xs[i]? = some x->(5,H1)->R (f x) H1->g x ((30,k)++Ob σ js) H1 fun σ2 H2=>te σ2 H2 R)
 (hd:∀ p H',H p=none->(5,H')->H' p=(2,xs.map f)->(D,p)):M7 k js g ad8 te σ J H Q:=
 QT U (λ_=>true) f hz F (λi x H1 R R' Y e h _=>by
  have:=O i x H1 R Y e (h rfl);show g x _ H1 fun σ2 H2=>if true=true then te σ2 H2 R else R' H2
  simpa using this) λp H' hp e h=>hd p H' hp e (by rw[h,Dy])
theorem Dq {tb:TS}{σ:St}(Z:Fg J xs G)(Pv:Nat->St->Hp->Prop)(O:Pv 0 σ H)(U:∀ i σ H,Pv i σ H->G H)
 (Y:∀ i x σ H,xs[i]? = some x->i<xs.length->Pv i σ H->g x σ H fun σ2 H2=>tb {D with nx:=Pv (i+1),ct:=Pv (i+1),bk:=D.nx} σ2 H2) (hd:∀ σ H,Pv xs.length σ H->D.nx σ H):ae9 g tb D σ J H:=
 TF Z Pv O U (λi x σ H F=>Y i x σ H F (A01.mp F).1) hd
section
variable {K:W.Frag}
theorem Aj (F:X.K=K:=by ac_nf):OpR X (binaryOp .Add) (X5 K):=F ▸ WX
theorem D8 (O:QA X.A)(F:X.K=K:=by ac_nf):OpR X (compareOp .Eq) (aN7 K):=F ▸ QZ O
theorem Pg (O:QA X.A)(F:X.K=K:=by ac_nf):OpR X (compareOp .NotEq) (aN6 K):=F ▸ YZ O
theorem My (O:QA X.A)(F:X.K=K:=by ac_nf):OpR X (compareOp .In) (Xb K false):=F ▸ SU O
theorem F2 (O:QA X.A)(F:X.K=K:=by ac_nf):OpR X (compareOp .NotIn) (Xb K true):=F ▸ SD O
theorem A5 (hu:X.A.units+1<cLine)(F:X.K=K:=by ac_nf):IxR X (Pk K):=F ▸ WD hu
theorem Oe (F:X.K=K:=by ac_nf):SlR X (az9 K):=F ▸ sl_A
theorem Au (F:X.K=K:=by ac_nf):CallR X (.builtin "len") (Uj K):=F ▸ Z6
theorem Fi (F:X.K=K:=by ac_nf):CallR X (.builtin "isinstance") (Jb K):=F ▸ Sg
theorem Ip (F:X.K=K:=by ac_nf):CallR X (.type "list") (Wo K):=F ▸ Xi
theorem C0 (F:X.K=K:=by ac_nf):CallR X (.type "tuple") (Nj K):=F ▸ Uk
theorem Tk (O:X.calm=true)(F:X.K=K:=by ac_nf):CallR X (.builtin "all") (ax8 K):=F ▸ TR O
theorem Ys (O:X.calm=true)(F:X.K=K:=by ac_nf):CallR X (.builtin "any") (ar9 K):=F ▸ YK O
theorem Aq (hu:X.A.units+1<cLine){l:Expr}{tl:TE}(hl:PE X l tl)(F:X.K=K:=by ac_nf):PI X tg l (aR0 K tl):=F ▸ UZ hu hl
theorem Mw {es:List Expr}{k:Nat}{t:TGs}{n:Nat}(O:X.calm=true)(h:PGs X es t)(F:X.K=K:=by ac_nf)
 (hn:((118,es)).length=n:=by ac_nf) (U:((118,es)).findIdx? (·.1)=none:=by ac_nf):PG X (.Tuple es k pos) (ax6 K n t):=F ▸ WA O h hn U
variable {o e:Expr}{es:List Expr}{to:TE}{t:TA}{name:Str}{apos cpos:Pos}{T id:String}{r:V->List V->Hp->VK->Prop}
theorem Zp (pa:PlainAttrs T)(slot:Slot T name id)(Z:typeOf (.builtin id)=pure (.type "method_descriptor"))(hm:MtR X id r)(Y:PE X o to)(F:X.K=K:=by ac_nf)
 (O:(124,o,name,(s,o))=eval o X.env:=by ac_nf) (U:(apos.endLine==cpos.line)=true:=by ac_nf):PE X ((88,o,name,apos,[],[],cpos)) (aR1 K T r to):=F ▸ XO pa slot Z hm Y O U
theorem F1 (pa:PlainAttrs T)(slot:Slot T name id)(a1:typeOf (.builtin id)=pure (.type "method_descriptor"))(hm:MtR X id r)(Z:PE X o to)(ha:PA X (e :: es) t)(F:X.K=K:=by ac_nf)
 (O:(124,o,name,(s,o))=eval o X.env:=by ac_nf)
 (U:(((80,(e :: es))).all (λx=>!x.1)&&(backToKw cpos (keywordEach [] X.env)).all (λx=>x.1.isSome)
  && decide ((e :: es).length+([]:List Keyword).length+(if([]:List Keyword).isEmpty then 0 else 1)<30))=true:=by ac_nf)
 (Y:(apos.endLine==cpos.line)=true:=by ac_nf) (hs:(29,(e :: es))=(false,(s,e)) :: starEach es X.env:=by ac_nf) (a0:((80,es)).any (·.1)=false:=by ac_nf) :
 PE X ((88,o,name,apos,(e :: es),[],cpos)) (tBM K T r to t):=F ▸ TW pa slot a1 hm Z ha O U Y hs a0
end
noncomputable def Fz (H H':Hp):Prop:=∀ a xs,Rd H a (.tup xs)->Rd H' a (.tup xs)
theorem Fz.refl (H:Hp):Fz H H:=λ_ _ h=>h
theorem Fz.trans (a:Fz H H1)(b:Fz H1 H2):Fz H H2:=λc xs h=>b c xs (a c xs h)
theorem Same.fz (e:(5,H')):Fz H H':=λa xs h=>by
 rcases h with h|⟨o,h⟩
 . exact .inl (e _ _ h)
 exact .inr ⟨o,e _ _ h⟩
theorem W1 {p:Addr}(e:(h,p))(hp:∀ xs,¬ Rd H p (.tup xs)):Fz H H':=λa xs h=>by
 have n:a≠p:=λq=>hp xs (q ▸ h);rcases h with h|⟨o,h⟩
 . exact .inl (e _ _ n h)
 exact .inr ⟨o,e _ _ n h⟩
theorem ExtBut.fzL {p:Addr}{l:List V}(e:(h,p))(hp:H p=(2,l)):Fz H H':=W1 e λxs h=>by
 rcases h with h|⟨o,h⟩
 . rw[hp] at h;cases h
 rw[hp] at h;cases h
theorem ExtBut.fzD {p:Addr}{l:List (Key×V)}(e:(h,p))(hp:H p=(6,l)):Fz H H':=W1 e λxs h=>by
 rcases h with h|⟨o,h⟩
 . rw[hp] at h;cases h
 rw[hp] at h;cases h
theorem Fz.seq {K:W.Frag}(e:Fz H H')(h:(A,xs)):SqT K H' a xs:=by
 rcases h with h|h
 . exact .inl (e _ _ h)
 exact .inr h
mutual
def frz:PyData->Bool
 |.tuple ds=>Li ds
 |.list _=>false
 |.dict _=>false
 |_=>true
def Li:AD->Bool
 | []=>true
 |d :: ds=>frz d&&Li ds
end
mutual
theorem Is.fz {K:W.Frag}{H H':Hp}(e:Fz H H'):∀(d:PyData) (v:V),frz d=true->(9,d,v)->(Y,d,v)
 |.none,_,_,h=>by simp only[Is] at h ⊢;exact h
 |.bool _,_,_,h=>by simp only[Is] at h ⊢;exact h
 |.int _,_,_,h=>by simp only[Is] at h ⊢;exact h
 |.str _,_,_,h=>by simp only[Is] at h ⊢;exact h
 |.list ds,v,hf,_=>by simp[frz] at hf
 |.tuple ds,v,hf,h=>by simp only[Is] at h ⊢;obtain⟨a,xs,F,O,U⟩:2:=h;exact⟨a,xs,F,e.seq O,IsL.fz e ds xs (by simpa only[frz] using hf) U⟩
 |.dict _,_,_,h=>by simp only[Is] at h
theorem IsL.fz {K:W.Frag}{H H':Hp}(e:Fz H H'):∀(ds:AD) (vs:List V),Li ds=true->(I,ds,vs)->IsL K H' ds vs
 | [],_,_,h=>by simp only[IsL] at h ⊢;exact h
 |d :: ds,vs,hf,h=>by simp only[IsL] at h ⊢;simp only[Li,Bool.and_eq_true] at hf;obtain⟨v,r,F,O,U⟩:2:=h;exact⟨v,r,F,Is.fz e d v hf.1 O,IsL.fz e ds r hf.2 U⟩
end
def AM:=@IsL.fz
def AR:=@Is.fz
section
variable {K:W.Frag}
theorem IsL.length:∀ {ds:AD} {vs:List V},(I,ds,vs)->ds.length=vs.length
 | [],_,h=>by simp only[IsL] at h;subst h;rfl
 |d :: ds,vs,h=>by simp only[IsL] at h;obtain⟨v,r,rfl,_,F⟩:2:=h;simp only[List.length_cons,IsL.length F]
def AL:=@IsL.length
theorem IsL.get:∀ {ds:AD} {vs:List V} {i:Nat} {x:V},(I,ds,vs)->vs[i]? = some x->∃ d,ds[i]? = some d/\(9,d,x)
 | [],_,_,_,h,e=>by simp only[IsL] at h;subst h;simp at e
 |d :: ds,vs,i,x,h,e=>by
   simp only[IsL] at h;obtain⟨v,r,rfl,F,O⟩:2:=h
   cases i with
   |zero=>simp at e;subst e;exact⟨d,rfl,F⟩
   |succ i=>obtain⟨d',h1,h2⟩:1:=IsL.get (i:=i) O (by simpa using e);exact⟨d',by simpa using h1,h2⟩
theorem IsL.at:∀ {ds:AD} {vs:List V} {i:Nat} {d:PyData},(I,ds,vs)->ds[i]? = some d->∃ x,vs[i]? = some x/\(9,d,x)
 | [],_,_,_,h,e=>by simp at e
 |d :: ds,vs,i,d',h,e=>by
   simp only[IsL] at h;obtain⟨v,r,rfl,F,O⟩:2:=h
   cases i with
   |zero=>simp at e;subst e;exact⟨v,rfl,F⟩
   |succ i=>obtain⟨x,h1,h2⟩:1:=IsL.at (i:=i) O (by simpa using e);exact⟨x,by simpa using h1,h2⟩
theorem IsL.append:∀ {ds es:AD} {vs us:List V},(I,ds,vs)->(I,es,us)->(I,(ds++es),(vs++us))
 | [],_,_,_,h,g=>by simp only[IsL] at h;subst h;exact g
 |d :: ds,es,vs,us,h,g=>by simp only[IsL] at h;obtain⟨v,r,rfl,F,O⟩:2:=h;simp only[List.cons_append,IsL];exact⟨v,_,rfl,F,IsL.append O g⟩
def AW:=@IsL.append
theorem IsL.one {d:PyData}(h:(9,d,v)):IsL K H [d] [v]:=by simp only[IsL];exact⟨v,[],rfl,h,rfl⟩
theorem IsL.nil:IsL K H [] []:=by simp only[IsL]
theorem IsL.cons {d:PyData}   {vs:List V} (h:(9,d,v)) (g:(I,ds,vs)):IsL K H (d :: ds) (v :: vs):=by simp only[IsL];exact⟨v,vs,rfl,h,g⟩
theorem IsL.take:∀ {ds:AD} {vs:List V} (n:Nat),(I,ds,vs)->(I,ds.take n,vs.take n)
 |ds,vs,0,h=>by simp only[List.take_zero];exact .nil
 | [],vs,n+1,h=>by simp only[IsL] at h;subst h;exact .nil
 |d :: ds,vs,n+1,h=>by simp only[IsL] at h;obtain⟨v,r,rfl,F,O⟩:2:=h;exact .cons F (IsL.take n O)
theorem IsL.drop:∀ {ds:AD} {vs:List V} (n:Nat),(I,ds,vs)->(I,ds.drop n,vs.drop n)
 |ds,vs,0,h=>h
 | [],vs,n+1,h=>by simp only[IsL] at h;subst h;exact .nil
 |d :: ds,vs,n+1,h=>by simp only[IsL] at h;obtain⟨v,r,rfl,O,F⟩:2:=h;exact IsL.drop n F
theorem IsL.str_eq:∀ {ns:AA} {vs:List V},(I,ns.map PyData.str,vs)->vs=ns.map V.str
 | [],vs,h=>by simp only[List.map_nil,IsL] at h;exact h
 |n :: ns,vs,h=>by simp only[List.map_cons,IsL,Is] at h;obtain⟨v,r,rfl,rfl,F⟩:2:=h;rw[IsL.str_eq F];rfl
def AX:=@IsL.str_eq
theorem Is.tup (h:(9,.tuple ds,v)):∃ a xs,v = .ref a/\(A,xs)/\IsL K H ds xs:=by simpa only[Is] using h
def AS:=@Is.tup
theorem Is.of_tup (h:(A,xs))(g:(I,ds,xs)):Is K H (.tuple ds) (.ref a):=by simp only[Is];exact⟨a,xs,rfl,h,g⟩
def AN:=@Is.of_tup
theorem Is.of_lst (h:(N,a))(g:(I,ds,xs)):Is K H (.list ds) (.ref a):=by simp only[Is];exact⟨a,xs,rfl,h,g⟩
theorem Is.str (h:(9,.str z,v)):v = .str z:=by simpa only[Is] using h
theorem Bf:Is K H (.str z) (.str z):=by simp only[Is]
theorem Kq {z:Int}:Is K H (.int z) (.int z):=by simp only[Is]
theorem IY {z:Bool}:Is K H (.bool z) (.bl z):=by simp only[Is]
end
noncomputable def nmD (ns:AA):PyData:=.tuple (ns.map PyData.str)
noncomputable def prD (p:Str×Str):PyData:=.tuple [.str p.1,.str p.2]
noncomputable def psD (ps:AB):PyData:=.tuple (ps.map prD)
noncomputable def hfD (ns:AA)(ps:AB):PyData:=.tuple [nmD ns,psD ps]
theorem Nk:∀ ns:AA,Li (ns.map PyData.str)=true
 | []=>rfl
 |n :: ns=>by simp only[List.map_cons,Li,frz,Nk ns,Bool.and_self]
theorem Ks (ns:AA):frz (nmD ns)=true:=by simp only[nmD,frz,Nk]
theorem Fe (p:Str×Str):frz (prD p)=true:=by simp[prD,frz,Li]
theorem Bv:∀ ps:AB,Li (ps.map prD)=true
 | []=>rfl
 |n :: ns=>by simp only[List.map_cons,Li,Fe,Bv ns,Bool.and_self]
theorem MJ (ps:AB):frz (psD ps)=true:=by simp only[psD,frz,Bv]
theorem UX (ns:AA)(ps:AB):frz (hfD ns ps)=true:=by simp only[hfD,frz,Li,Ks,MJ,Bool.and_self]
section
variable {K:W.Frag}
theorem Is.nm {ns:AA}(h:(44,ns,v)):∃ a,v = .ref a/\SqT K H a (ns.map V.str):=by obtain⟨a,xs,rfl,h1,h2⟩:2:=AS h;exact⟨a,rfl,by rw[<- AX h2];exact h1⟩
theorem Mp {ns:AA}(h:(A,ns.map V.str)):Is K H (nmD ns) (.ref a):=AN h (Nc ns)
theorem Is.pr {p:Str×Str}(h:(9,prD p,v)):∃ a,v = .ref a/\SqT K H a [.str p.1,.str p.2]:=by obtain⟨a,xs,rfl,h1,h2⟩:2:=Is.tup h;simp only[IsL,Is] at h2;obtain⟨_,_,rfl,rfl,_,_,rfl,rfl,rfl⟩:842:=h2;exact⟨a,rfl,h1⟩
theorem Rt (h:(A,[.str x,.str y])):Is K H (prD (x,y)) (.ref a):=AN h (84,Bf,Bf)
theorem Is.hf {ns:AA}(h:(15,v)):∃ a x y,v = .ref a/\(A,[x,y])/\(44,ns,x)/\Is K H (psD ps) y:=by obtain⟨a,xs,rfl,h1,h2⟩:2:=Is.tup h;simp only[IsL] at h2;obtain⟨x,_,rfl,F,y,_,rfl,O,rfl⟩:842:=h2;exact⟨a,x,y,rfl,h1,F,O⟩
theorem HG {ns:AA}{x y:V}(h:(A,[x,y]))(F:(44,ns,x))(O:(9,psD ps,y)):Is K H (hfD ns ps) (.ref a):=AN h (84,F,O)
theorem Is.nm_fz {ns:AA}(h:(44,ns,v))(e:Fz H H'):Is K H' (nmD ns) v:=AR e _ _ (Ks ns) h
theorem Is.pr_fz {p:Str×Str}(h:(9,prD p,v))(e:Fz H H'):Is K H' (prD p) v:=AR e _ _ (Fe p) h
theorem Is.ps_fz (h:(9,psD ps,v))(e:Fz H H'):Is K H' (psD ps) v:=AR e _ _ (MJ ps) h
theorem Is.hf_fz {ns:AA}(h:(15,v))(e:Fz H H'):Is K H' (hfD ns ps) v:=AR e _ _ (UX ns ps) h
variable {σ:St}{x:V}{i:Int}
theorem D5 (h:(A,xs))(e:atI xs i=some v)(k:Q v H):Pk K (.ref a) (.int i) H Q:=.inl (98,⟨a,xs,i,v,rfl,rfl,h,e,k⟩)
theorem QD (h:(N,a))(e:atI xs i=some v)(k:Q v H):Pk K (.ref a) (.int i) H Q:=(93,⟨a,xs,i,v,rfl,rfl,h,e,k⟩)
theorem JP {ns:AA}(h:(44,ns,x))(e:atI ns i=some z)(k:(17,z,H)):Pk K x (.int i) H Q:=by
 obtain⟨a,rfl,h1⟩:1:=h.nm;refine D5 h1 ?_ k;unfold atI at e ⊢;rw[BA]
 cases hj:ixN ns.length i with
 |none=>rw[hj] at e;cases e
 |some j=>rw[hj] at e;show(ns.map V.str)[j]? = _;rw[BK,show ns[j]? = some z from e];rfl
theorem Ek {ns:AA}(h:(15,x))(k:∀ v,(44,ns,v)->Q v H):Pk K x (.int 0) H Q:=by obtain⟨a,u,w,rfl,h1,h2,F⟩:3:=h.hf;exact D5 h1 rfl (k u h2)
theorem T9 {ns:AA}(h:(15,x))(k:∀ v,(9,psD ps,v)->Q v H):Pk K x (.int 1) H Q:=by obtain⟨a,u,w,rfl,h1,h2,F⟩:3:=h.hf;exact D5 h1 rfl (k w F)
theorem P4 {p:Str×Str}(h:(9,prD p,x))(k:(17,p.1,H)):Pk K x (.int 0) H Q:=by obtain⟨a,rfl,h1⟩:1:=h.pr;exact D5 h1 rfl k
theorem Lz {p:Str×Str}(h:(9,prD p,x))(k:(17,p.2,H)):Pk K x (.int 1) H Q:=by obtain⟨a,rfl,h1⟩:1:=h.pr;exact D5 h1 rfl k
theorem NV (h:(9,.tuple ds,x))(k:(X,ds.length,H)):Uj K [x] H Q:=by obtain⟨a,xs,rfl,h1,h2⟩:2:=h.tup;rw[AL h2] at k;exact .inl ⟨.ref a,_,rfl,.inr ⟨xs,h1,rfl⟩,k⟩
theorem Tc {ns:AA}(h:(44,ns,x))(k:(X,ns.length,H)):Uj K [x] H Q:=NV h (by rw[BA];exact k)
theorem Kf (ns:AA):(ns.map V.str).all Qg=true:=by rw[A1N];intro v h;obtain ⟨n,_,rfl⟩:1:=A0D.mp h;rfl
theorem Md (z:Str):∀ ns:AA,inV (.str z) (ns.map V.str)=decide (z∈ns)
 | []=>rfl
 |n :: ns=>by
   have F:=Md z ns;unfold inV at F ⊢;rw[BM,DP,F]
   have e:eqV (V.str n) (V.str z)=decide (n=z):=by
    show(n==z)=_
    by_cases h:n=z<;>simp[h]
   rw[e]
   by_cases h:n=z
   . subst h;simp
   have h':¬ z=n:=λq=>h q.symm
   by_cases g:z∈ns<;>simp[h,h',g]
theorem NW {ns:AA}(h:(83,K,a,V.str))(k:(t,(decide (z∈ns)))):Xb K false (.str z) (.ref a) H Q:=
 .inl ⟨a,_,rfl,.inl h,rfl,Kf ns,by rw[Md];exact k⟩
theorem NA {ns:AA}(h:(44,ns,x))(k:(t,(!decide (z∈ns)))):Xb K true (.str z) x H Q:=by obtain⟨a,rfl,h1⟩:1:=h.nm;exact .inl ⟨a,_,rfl,.inr h1,rfl,Kf ns,by rw[Md];exact k⟩
theorem XY {ns:AA}(h:(83,K,a,V.str))(k:(t,(!decide (z∈ns)))):Xb K true (.str z) (.ref a) H Q:=
 .inl ⟨a,_,rfl,.inl h,rfl,Kf ns,by rw[Md];exact k⟩
theorem JH {u w:V}{n:Nat}{R:St->Hp->Prop}(h:(A,[u,w]))(k:R (((107,n,u)).set m (some w)) H):ax6 K 2 (Oi (Jf n) (Oi (Jf m) aA4)) (.ref a) σ H R:=
 ⟨a,_,rfl,h,rfl,u,[w],rfl,w,[],rfl,rfl,k⟩
theorem ME {tb:TS}(h:(9,.tuple ds,x))(hf:Li ds=true)(Pv:Nat->St->Hp->Prop)(Y:Pv 0 σ H)(F:∀ i σ' H',(24,i)->Fz H H')
 (Z:∀ i d v σ' H',ds[i]? = some d->(Y,d,v)->(24,i)->g v σ' H' fun σ2 H2=>tb {D with nx:=Pv (i+1),ct:=Pv (i+1),bk:=D.nx} σ2 H2) (hd:∀ σ' H',(24,ds.length)->D.nx σ' H') :
 Ej K x H λJ H1=>ae9 g tb D σ J H1:=by
 obtain⟨a,xs,rfl,h1,h2⟩:2:=h.tup;refine Rb h1 (Dq Et Pv Y (λi σ' H' p=>(F i σ' H' p).seq h1) (λi v σ' H' hx hi p=>?_) fun σ' H' p=>hd σ' H' (by rw[AL h2];exact p));obtain⟨d,O,U⟩:1:=IsL.get (AM (F i σ' H' p) ds xs hf h2) hx;exact Z i d v σ' H' O U p
theorem Lj {ns:AA}{tb:TS}(h:(44,ns,x))(Pv:Nat->St->Hp->Prop)(F:Pv 0 σ H)(O:∀ i σ' H',(24,i)->Fz H H')
 (U:∀ i z σ' H',ns[i]? = some z->(24,i)->g (.str z) σ' H' fun σ2 H2=>tb {D with nx:=Pv (i+1),ct:=Pv (i+1),bk:=D.nx} σ2 H2) (hd:∀ σ' H',(24,ns.length)->D.nx σ' H') :
 Ej K x H λJ H1=>ae9 g tb D σ J H1:=
 ME h (Nk ns) Pv F O (λi d v σ' H' e h p=>by
  rw[BK] at e
  cases hn:ns[i]? with
  |none=>rw[hn] at e;cases e
  |some z=>
    rw[hn] at e
    cases e;rw[h.str];exact U i z σ' H' hn p) fun σ' H' p=>hd σ' H' (by rw[BA] at p;exact p)
theorem RJ {tb:TS}(h:(9,psD ps,x))(Pv:Nat->St->Hp->Prop)(F:Pv 0 σ H)(O:∀ i σ' H',(24,i)->Fz H H')
 (U:∀ i p v σ' H',ps[i]? = some p->(Y,prD p,v)->(24,i)->g v σ' H' fun σ2 H2=>tb {D with nx:=Pv (i+1),ct:=Pv (i+1),bk:=D.nx} σ2 H2) (hd:∀ σ' H',(24,ps.length)->D.nx σ' H') :
 Ej K x H λJ H1=>ae9 g tb D σ J H1:=
 ME h (Bv ps) Pv F O (λi d v σ' H' e h p=>by
  rw[BK] at e
  cases hn:ps[i]? with
  |none=>rw[hn] at e;cases e
  |some z=>
    rw[hn] at e
    cases e;exact U i z v σ' H' hn h p) fun σ' H' p=>hd σ' H' (by rw[BA] at p;exact p)
theorem C7 {α:Type}(f:α->PyData)(hf:∀ a,frz (f a)=true):∀ xs:List α,Li (xs.map f)=true
 | []=>rfl
 |x :: xs=>by simp only[List.map_cons,Li,hf,C7 f hf xs,Bool.and_self]
theorem Ep {α:Type}{tt:TT}{k:Nat}(hw:Fg J xs G)(as:List α)(hl:as.length=xs.length)(t:α->Bool)(f:α->PyData)(hf:∀ a,frz (f a)=true)(hz:xs.length<=1000000)(hG:∀ H',(5,H')->G H')
 (hs:∀(i:Nat) a v H1 (R:VK) (R':Hp->Prop),as[i]? = some a->xs[i]? = some v->(5,H1)->(t a=true->∀ y H2,Same H1 H2->Is K H2 (f a) y->R y H2)->(t a=false->∀ H2,Same H1 H2->R' H2) ->
  g v ((30,k)++Ob σ js) H1 fun σ2 H2=>tt σ2 H2 λb Y=>if b=true then te σ2 Y R else R' Y)
 (hd:∀ p ys H',H p=none->(5,H')->H' p=(2,ys)->IsL K H' ((as.filter t).map f) ys->(D,p)):M7 k js g tt te σ J H Q:=by
 refine Hi hw (λp i acc H1=>(5,H1)/\IsL K H1 (((as.take i).filter t).map f) acc) (λp H' hp e h=>⟨e,by simp only[List.take_zero,List.filter_nil,List.map_nil];exact .nil⟩) (λp i acc H1 h=>hG H1 h.1) (λp i x acc H1 hp hx hi U ha ⟨e,O⟩=>?_) λp acc H1 hp ha U ⟨e,O⟩=>?_
 . have a0:i<as.length:=by omega
   obtain⟨a,hai⟩:∃ a,as[i]? = some a:=⟨as[i],BJ a0⟩;have ht:as.take (i+1)=as.take i++[a]:=by rw[CC,hai];rfl
   refine hs i a x H1 _ _ hai hx e (λh y H2 F hy=>?_) λh H2 F=>?_
   . refine Lw hz hi U (F _ _ ha) λH' Z h'=>⟨λb o hb=>Z b o (ne_of_none hb hp) (F _ _ (e b o hb)),?_⟩;rw[ht,DX,BU];have fz:=Z.fzL (F _ _ ha);refine IsL.append (IsL.fz (F.fz.trans fz) _ _ (C7 f hf _) O) ?_;simp only[List.filter_cons,h,if_true,List.filter_nil,List.map_cons,List.map_nil];exact .one (Is.fz fz _ _ (hf a) hy)
   refine Rc hi U (F _ _ ha) ⟨e.trans F,?_⟩;rw[ht,DX,BU];simp only[List.filter_cons,h,Bool.false_eq_true,if_false,List.filter_nil,List.map_nil,List.append_nil];exact(90,F,_,O)
 refine hd p acc H1 hp e ha ?_;rw[<- hl,CF] at O;exact O
end
section
variable {K:W.Frag}
noncomputable def aD7:PyData->Bool
 |.list _=>true
 |.tuple _=>true
 |_=>false
mutual
theorem Is.noDict {H:Hp}:∀(d:PyData) (v:V),(9,d,v)->d.hasDict=false
 |.none,_,h=>by simp only[PyData.hasDict]
 |.bool _,_,h=>by simp only[PyData.hasDict]
 |.int _,_,h=>by simp only[PyData.hasDict]
 |.str _,_,h=>by simp only[PyData.hasDict]
 |.list ds,v,h=>by simp only[Is] at h;obtain⟨a,xs,O,U,F⟩:2:=h;simp only[PyData.hasDict];exact IsL.noDict ds xs F
 |.tuple ds,v,h=>by simp only[Is] at h;obtain⟨a,xs,O,U,F⟩:2:=h;simp only[PyData.hasDict];exact IsL.noDict ds xs F
 |.dict _,_,h=>by simp only[Is] at h
theorem IsL.noDict {H:Hp}:∀(ds:AD) (vs:List V),(I,ds,vs)->PyData.hasDictAll ds=false
 | [],_,h=>by simp only[PyData.hasDictAll]
 |d :: ds,vs,h=>by simp only[IsL] at h;obtain⟨v,r,U,F,O⟩:2:=h;simp only[PyData.hasDictAll,Is.noDict d v F,IsL.noDict ds r O,Bool.or_self]
end
structure Sh (d:PyData):Prop where
 dp:aD7 d=true
 sh:d.showable=true
 fits:d.shown.length<=sizeLine
 deep:d.depth<=100
theorem P6 (O:QA X.A):CallR X (.builtin "repr") (λxs H Q=>∃ x d,xs=[x]/\Is X.K H d x/\Sh d/\(17,d.shown,H)):=by
 intro pins s σ H xs us Q I rv h;obtain⟨x,d,rfl,i,S,q⟩:2:=h;obtain⟨u,rfl,F⟩:1:=rv.one;obtain⟨as,ra⟩:=AU I d x u i F
 have Y:∃ a,u = .ref a:=by
  have hd:=S.dp
  cases d with
  |list ds=>simp only[Is] at i;obtain⟨a,_,rfl,_⟩:2:=i;exact⟨a,F⟩
  |tuple ds=>simp only[Is] at i;obtain⟨a,_,rfl,_⟩:2:=i;exact⟨a,F⟩
  |_=>cases hd
 obtain⟨a,rfl⟩:=Y;refine repr_of_reads' ra S.sh (λZ=>absurd Z (by rw[Is.noDict d x i];exact BX)) O.gd (by have:=O.un;have:=S.deep;omega) (λ_ _ e=>e) (λh' t tk U=>?_) S.fits;exact⟨.str d.shown,H,I.kept U,⟨t,rfl⟩,q⟩
noncomputable def Vn (z:Str)(n:Nat):Str:=⟨(List.replicate n z.cps).foldl (· ++ ·) #[]⟩
noncomputable def aK5:R2:=λx y H Q=>∃ z n,x = .str z/\y = .int n/\2<=n/\n<=1000/\z.length<=1000/\0<z.length/\(17,Vn z n.toNat,H)
theorem VZ:OpR X (binaryOp .Mult) aK5:=by
 intro pins s σ H x y v u Q I rx ry h;obtain⟨z,n,rfl,rfl,h1,h2,h3,h4,q⟩:2:=h;obtain⟨t,rfl⟩:=rx;obtain⟨t2,rfl⟩:=ry;have O:¬ n<1:=by omega
 have U:(n==1||z.length==0)=false:=by
  have e1:(n==1)=false:=by simp;omega
  have F:(z.length==0)=false:=by simp;omega
  rw[e1,F];rfl
 have hz:z.length*n.toNat<=1000000:=by have:z.length*n.toNat<=1000*1000:=DW h3 ∅;omega
 have a0:(Vn z n.toNat).length<=sizeLine:=by
  have e:∀(m:Nat) (a:Array Nat),((List.replicate m z.cps).foldl (· ++ ·) a).size=a.size+m*z.cps.size:=by
   intro m
   induction m with
   |zero=>intro a;simp
   |succ m ih=>intro a;rw[DU,GZ,ih,Array.size_append,Nat.succ_mul];omega
  show((List.replicate n.toNat z.cps).foldl (· ++ ·) #[]).size<=sizeLine;rw[e];have F:z.cps.size=z.length:=rfl;rw[F,CH,GB];simp;omega
 refine PySem.P.mul_str (by
  have Y:¬ n < -(2 ^ 63:Int):=by omega
  have Z:¬ n>=2 ^ 63:=by omega
  rw[BS Y,BS Z];rfl) (λ_ _=>?_) (λ_ _=>?_) ?_
 . have:(2 ^ 63-1:Int) / n>=1000:=by
    refine Int.le_ediv_of_mul_le ∅ ?_;have:1000*n<=1000*1000:=by omega
    omega
   omega
 . have a3:z.length*n.toNat<=sizeLine:=A9 hz;rw[CH] at a3;unfold Builtin.Str.tooLong;simp[sizeLine_eq];omega
 rw[AZ O,U,AZ BX];exact⟨a0,.str _,H,I.kept λ_ _ e=>e,⟨_,rfl⟩,q⟩
noncomputable def ae0:R2:=λx y H Q=>ag1 x y H Q\/aK5 x y H Q
theorem D3:OpR X (binaryOp .Mult) ae0:=op_mulA.or VZ
theorem i_mulBI {i j:Int}(h:CMul i j)(k:(X,(i*j),H)):ae0 (.int i) (.int j) H Q:=.inl (UF h k)
theorem RC {n:Int}(h:2<=n/\n<=1000/\z.length<=1000/\0<z.length)(k:(17,Vn z n.toNat,H)):ae0 (.str z) (.int n) H Q:=.inr ⟨z,n,rfl,rfl,h.1,h.2.1,h.2.2.1,h.2.2.2,k⟩
theorem ZQ {i:Int}(h1:H a=(2,xs))(h2:-(2 ^ 63)<=i/\i<2 ^ 63)(F:xs.length*i.toNat<=sizeLine)(k:∀ p H',H p=none->(5,H')->H' p=some (.lst (List.replicate i.toNat xs).flatten)->(D,p)):ae0 (.ref a) (.int i) H Q:=.inl (Z5 h1 h2 F k)
noncomputable def rIs (neg:Bool):R2:=λx y H Q=>(y = .non/\(t,(if neg then !decide (x = .non) else decide (x = .non))))\/∃ a b,x = .bl a/\y = .bl b/\(t,(if neg then !(a==b) else a==b))
theorem VQ:OpR X (compareOp .Is) (rIs false):=by
 intro pins s σ H x y v u Q I F O h;rcases h with ⟨rfl,q⟩|⟨a,b,rfl,rfl,q⟩
 . exact QK pins s σ H x .non v u Q I F O ⟨rfl,q⟩
 cases F
 cases O;refine wpAny_is_plain rfl ?_;refine⟨.bl _,H,I,?_,q⟩;show Value.bool (Value.bool a==Value.bool b)=Value.bool (a==b)
 cases a<;>cases b<;>rfl
theorem Yo:OpR X (compareOp .IsNot) (rIs true):=by
 intro pins s σ H x y v u Q I F O h;rcases h with ⟨rfl,q⟩|⟨a,b,rfl,rfl,q⟩
 . exact WP pins s σ H x .non v u Q I F O ⟨rfl,q⟩
 cases F
 cases O;refine wpAny_isNot_plain rfl ?_;refine⟨.bl _,H,I,?_,q⟩;show Value.bool (!(Value.bool a==Value.bool b))=Value.bool (!(a==b))
 cases a<;>cases b<;>rfl
theorem i_isN {x:V}(k:(t,(decide (x = .non)))):rIs false x .non H Q:=.inl ⟨rfl,k⟩
theorem i_isNotN {x:V}(k:(t,(!decide (x = .non)))):rIs true x .non H Q:=.inl ⟨rfl,k⟩
noncomputable def aR2 (xs:List V)(i:Nat)(y:V):List V:=xs.take i++y :: xs.drop i
noncomputable def a29:V->List V->Hp->VK->Prop:=λx vs H Q=>∃ l xs i y,x = .ref l/\vs=[.int i,y]/\H l=(2,xs)/\0<=i/\i<=xs.length/\xs.length<sizeLine/\Q .non (S,H,l,aR2 xs i.toNat y)
theorem TU:MtM X "list.insert" a29:=by
 intro pins s σ H x vs v us Q I rx Y h;obtain⟨l,xs,i,y,rfl,rfl,O,h0,h1,hz,q⟩:4:=h
 cases rx;obtain⟨u,w,rfl,U,Z⟩:2:=Vals.two Y;obtain⟨t,rfl⟩:=U;obtain⟨z,its,n,r,hl,e⟩:820:=I.lstM O;have a0:=r.length
 refine EJ F.slot_list_insert ⟨_,e,rfl⟩ F.entry_list_insert (F.args_list_insert_3 _ _ _)
  (AutoSeq1.list_insert_list_int_val_1 l its.toArray n i t w (by rw[fitsIndex_both ∅ (by rw[CH] at hz;omega)];decide) (by rw[CB];omega)) ⟨e,?_⟩
 refine⟨.non,_,I.lset (its':=its.take i.toNat++w :: its.drop i.toNat) O e ?_ ((r.take i.toNat).append (.cons Z (r.drop i.toNat))) ?_,rfl,q⟩
 . have hi:i.toNat<=its.length:=by omega
   show(have k:=if i<0 then(i+((its.toArray.size:Nat):Int)).toNat else min i.toNat its.toArray.size;(its.toArray.extract 0 k).push w++its.toArray.extract k)=_
   rw[AZ ∅,CB,Nat.min_eq_left hi];simp[List.extract_eq_drop_take];exact FN (by rw[CL];omega)
 rw[BL,BO,CD,CL];omega
section
variable {σ:St}{t u:TS}{td ty tv:TE}
theorem Ow (M:St->Hp->Prop)(h1:∀ N:St->Hp->Prop,(∀ σ' H',M σ' H'->N σ' H')->t {D with nx:=N} σ H)(h2:∀ σ' H',M σ' H'->u D σ' H'):aO4 t u D σ H:=h1 (u D) h2
end
theorem V3 (h:(N,a)\/(A,xs))(k:∀ p H',H p=none->(5,H')->H' p=(2,xs)->(D,p)):Wo K [.ref a] H Q:=⟨a,xs,rfl,h,λp hp=>k p _ hp (AO hp) Ab⟩
theorem mm {id:String}{r:V->List V->Hp->VK->Prop}(h:MtM X id r):MtR X id r:=h
theorem i_tyLm (h:H a=(2,xs))(k:B):tyV K "list" (.ref a) H/\B:=⟨.inl ⟨rfl,xs,AJ h⟩,k⟩
theorem XR {y:V}{i:Int}(h:H l=(2,xs))(F:0<=i)(h1:i<=xs.length)(hz:xs.length<=1000000)(k:∀ H',(h,l)->H' l=(2,aR2 xs i.toNat y)->Q .non H'):a29 (.ref l) [.int i,y] H Q:=
 ⟨l,xs,i,y,rfl,rfl,h,F,h1,by rw[CH];omega,k _ AV Ab⟩
theorem Lx {y:V}(h:H l=(2,xs))(hz:xs.length<=1000000)(k:∀ H',(h,l)->H' l=(2,(xs++[y]))->Q .non H'):Yw (.ref l) [y] H Q:=
 ⟨l,xs,y,rfl,rfl,h,by rw[CH];omega,k _ AV Ab⟩
theorem Wt {b:Addr}{zs:List V}(h:H l=(2,xs))(hb:H b=(2,zs))(hz:xs.length+zs.length<=1000000)(k:∀ H',(h,l)->H' l=(2,(xs++zs))->Q .non H'):a65 (.ref l) [.ref b] H Q:=
 ⟨l,b,xs,zs,rfl,rfl,h,hb,A9 hz,k _ AV Ab⟩
theorem W3 {y:V}{i:Int}(h:H l=(2,xs))(U:0<=i)(h1:xs[i.toNat]? = some y)(k:∀ H',(h,l)->H' l=(2,xs.eraseIdx i.toNat)->Q y H')(hz:xs.length<=1000000):am2 (.ref l) [.int i] H Q:=by
 have h2:=(A01.mp h1).1;refine⟨l,xs,i,i.toNat,y,rfl,rfl,h,by omega,by omega,?_,h1,k _ AV Ab⟩;have e:=Rg (Ci (α:=V) h1);obtain⟨j,F,Y,Z,_⟩:1:=e;rw[EL U] at F;rw[F]
 have O:seqIndex? i xs.length=some i.toNat:=by unfold seqIndex? at F ⊢;simp[show ¬ i<0 by omega] at F ⊢;omega
 rw[<- F,O]
noncomputable def Y6 (xs:List V)(k:Int):List V:=if k=1 then xs else xs.reverse
noncomputable def a51 (K:W.Frag):V->V->Hp->VK->Prop:=λx y H Q=>∃ a xs k,x = .ref a/\y = .int k/\(k=1\/k = -1)/\(N,a)/\∀ p,H p=none->(C,p,(S,H,p,Y6 xs k))
theorem YC (items:Array Value):slicePick items none none (some 1)=items:=by have e:slicePick items none none (some 1)=slicePick items none none none:=rfl;rw[e,Kn];simp[HT.sIx];rw[show items.size=items.toList.length by simp,List.take_length]
theorem Tj {e st:Expr}{ts:TE}{p2:Pos}(he:PE X e te)(a0:PE X st ts)(hK:X.K=K:=by ac_nf):PE X (.Subscript e (.Slice none none (some st) p2) pos) (tOp (a51 K) te ts):=by
 subst hK;intro pins s σ H Q I h;refine FH (BD (he pins s σ H _ I h) λv s1 ⟨x,H1,Z,r1,q1⟩=>?_);refine wpAny_Slice ?_;rw[GF];refine BC (BC ?_);rw[IV];refine BD (a0 pins s1 σ H1 _ Z q1) λu F ⟨y,H2,I2,r2,q2⟩=>?_;obtain⟨a,xs,k,rfl,rfl,U,hx,q⟩:3:=q2
 cases r1;obtain⟨t,rfl⟩:=r2;have O:Inv X pins σ H2 {F with heap:=F.heap.push {cls:=.type "slice",data:=.fields #[.none,.none,.int k t]}}:=I2.kept (t':=F.toks) λb ob q=>BH _ q
 obtain⟨its,r,Y,hz⟩:1:=O.list hx;have a1:=r.length;refine tail_any (ops:=[.ref a,.ref F.heap.objs.size]) Y.isList.typeIs slot_list_getitem.lookup ?_ ⋯;refine wpAny_getItem_list_slice Y.isList (IU ..) .none .none (.int k t) (by rcases U with rfl|rfl<;>decide) ?_ (by rw[CB];omega)
 rcases U with rfl|rfl
 . rw[YC];refine⟨.ref _,_,O.laid (t':=F.toks) (o:=.lst (Y6 xs 1)) (λb ob q=>BH _ q) (BE _) ?_,rfl,q _ (109,_)⟩;exact⟨hz,_,0,r,(12,_)⟩
 rw[W.krv_pick];refine⟨.ref _,_,O.laid (t':=F.toks) (o:=.lst (Y6 xs (-1))) (λb ob q=>BH _ q) (BE _) ?_,rfl,q _ (109,_)⟩;exact⟨by show xs.reverse.length<=_;rw[FM];exact hz,_,0,by show Vals xs.reverse _;exact r.reverse,(12,_)⟩
theorem OT {k:Int}(h:(N,a))(F:k=1\/k = -1)(c:∀ p H',H p=none->(5,H')->H' p=(2,Y6 xs k)->(D,p)):a51 K (.ref a) (.int k) H Q:=
 ⟨a,xs,k,rfl,rfl,F,h,λp hp=>c p _ hp (AO hp) Ab⟩
end
noncomputable def Kl (c:Nat):Bool:=decide (97<=c)&&decide (c<=122)
noncomputable def Kj (x:Str):Bool:=decide (1<=x.length)&&decide (x.length<=8)&&x.cps.toList.all Kl
noncomputable def Names (ns:AA):Prop:=ns.Nodup/\∀ z∈ns,Kj z=true
noncomputable def LL:Str:="abcdefghijklmnopqrstuvwxyzabcdefghijklmnopqrstuvwxyz"
theorem PB:Vn "abcdefghijklmnopqrstuvwxyz" (2:Int).toNat=LL:=by decide +kernel
noncomputable def LLn:AE:=LL.cps.toList
theorem SW:LL.length=52:=by decide +kernel
theorem L8:LLn.length=52:=by decide +kernel
theorem Wc:∀ c∈LLn,Kl c=true:=by decide +kernel
noncomputable def txt (l:AE):Str:=⟨l.toArray⟩
theorem VP {a b:AE}(h:txt a=txt b):a=b:=by have:a.toArray=b.toArray:=congrArg Str.cps h;simpa using this
theorem NY (a b:AE):txt a++txt b=txt (a++b):=by show(⟨a.toArray++b.toArray⟩:Str)=⟨(a++b).toArray⟩;simp
theorem Km {l:AE}(F:1<=l.length)(h1:l.length<=8)(h2:∀ c∈l,Kl c=true):Kj (txt l)=true:=by
 unfold Kj;have e:(txt l).length=l.length:=by show l.toArray.size=_;simp
 rw[e,BY F,BY h1];show(true&&true&&l.all Kl)=true;rw[A1N.mpr h2];rfl
noncomputable def Oh (a b:Nat):AE:=(LLn.drop a).take (b-a)
theorem Mb {a b:Nat}(h:a<=b)(h1:b<=52):(Oh a b).length=b-a:=by unfold Oh;rw[CD,CL,L8];omega
theorem Io {a b:Nat}:∀ c∈Oh a b,Kl c=true:=λc F=>Wc c (FQ (ER F))
theorem Wy {i j:Int}(O:0<=i)(h1:i<=j)(h2:j<=52):Txt.slice LL (some i) (some j)=txt (Oh i.toNat j.toNat):=by
 have e:=StrLaws.sliceText_plain (x:=LL) (i:=i) (j:=j) ⟨O,h1,by rw[show LL.cps.toList.length=52 by decide +kernel];omega⟩;have F:(j-i).toNat=j.toNat-i.toNat:=by omega
 rw[F] at e;exact e
noncomputable def Rl (i:Nat):AE:=(LLn.drop i).take 1
theorem JW {i:Int}(F:0<=i)(h1:i<52):∃ c,atI LL.cps.toList i=some c/\(⟨#[c]⟩:Str)=txt (Rl i.toNat):=by
 have h2:i.toNat<LLn.length:=by rw[L8];omega
 refine⟨LLn[i.toNat],?_,?_⟩
 . have:=Ci (BJ h2);rwa[EL F] at this
 unfold Rl;rw[HV h2];rfl
theorem Qc (h:i<52):(Rl i).length=1:=by unfold Rl;rw[CD,CL,L8];omega
theorem Kx:∀ c∈Rl i,Kl c=true:=λc F=>Wc c (FQ (ER F))
noncomputable def nm0 (s:Nat):List AE:=(List.range 8).map (λk=>Oh s (s+1+k))++[Rl (s+9),Rl (s+10)]
noncomputable def nm1 (s z a:Nat):List AE:=(List.range 10).map λk=>Oh s (s+a)++Rl (s+5*k % 26)++Oh (s+a+1) (s+z)
noncomputable def nm2 (s:Nat):List AE:=(List.range 10).map λk=>Oh (s+k) (s+k+1+3*k % 8)
theorem OG:∀ s<26,(nm0 s).Nodup:=by decide +kernel
theorem nd2:∀ s<26,(nm2 s).Nodup:=by decide +kernel
theorem nd1':∀ s<26,((List.range 10).map λk=>Rl (s+5*k % 26)).Nodup:=by decide +kernel
theorem Fa {α β:Type}{f:α->β}:∀ {l:List α},l.Nodup->(∀ a∈l,∀ b∈l,f a=f b->a=b)->(l.map f).Nodup
 | [],_,_=>by simp
 |a :: l,h,hf=>by rw[BM,A0W];rw[A0W] at h;refine⟨λhm=>?_,Fa h.2 λx F y O=>hf x (BP _ F) y (BP _ O)⟩;obtain⟨b,hb,e⟩:1:=A0D.mp hm;have:=hf b (BP _ hb) a BQ e;subst this;exact h.1 hb
theorem Gx {α β:Type}{f:α->β}:∀ {l:List α},(l.map f).Nodup->∀ a∈l,∀ b∈l,f a=f b->a=b
 | [],_,a,ha,_,_,_=>by cases ha
 |c :: l,h,a,ha,b,hb,e=>by
   rw[BM,A0W] at h;rcases A0A.mp ha with q|ha'
   . rcases A0A.mp hb with q'|hb'
     . rw[q,q']
     exact absurd (A0D.mpr ⟨b,hb',by rw[<- e,q]⟩) h.1
   rcases A0A.mp hb with q'|hb'
   . exact absurd (A0D.mpr ⟨a,ha',by rw[e,q']⟩) h.1
   exact Gx h.2 a ha' b hb' e
theorem N4 {l:List AE}(h:l.Nodup):(l.map txt).Nodup:=Fa h λa _ b _ e=>VP e
theorem VJ {s z a:Nat}(Y:s<26):(nm1 s z a).Nodup:=by refine Fa List.nodup_range λk U j O e=>?_;have F:Rl (s+5*k % 26)=Rl (s+5*j % 26):=List.append_cancel_left (List.append_cancel_right e);exact Gx (f:=λk=>Rl (s+5*k % 26)) (nd1' s Y) k U j O F
theorem UN {s:Nat}(O:s<26):Names ((nm0 s).map txt):=by
 refine⟨N4 (OG s O),λz hz=>?_⟩;obtain⟨l,hl,rfl⟩:1:=A0D.mp hz;rcases A0B.mp hl with h|h
 . obtain⟨k,F,rfl⟩:1:=A0D.mp h;have F:=A1W.mp F;have e:=Mb (a:=s) (b:=s+1+k) ∅ ∅;exact Km ∅ ∅ Io
 simp only[List.mem_cons,List.not_mem_nil,or_false] at h;rcases h with rfl|rfl
 . have e:=Qc (i:=s+9) ∅;exact Km ∅ ∅ Kx
 have e:=Qc (i:=s+10) ∅;exact Km ∅ ∅ Kx
theorem VB {s z a:Nat}(O:s<26)(ha:a<z)(hz:z<=8):Names ((nm1 s z a).map txt):=by
 refine⟨N4 (VJ O),λy U=>?_⟩;obtain⟨l,hl,rfl⟩:1:=A0D.mp U;obtain⟨k,hk,rfl⟩:1:=A0D.mp hl;have hm:5*k % 26<26:=Nat.mod_lt _ nofun;have Y:=Mb (a:=s) (b:=s+a) ∅ ∅;have Z:=Qc (i:=s+5*k % 26) ∅;have e3:=Mb (a:=s+a+1) (b:=s+z) ∅ ∅;refine Km (by simp only[List.length_append];omega) (by simp only[List.length_append];omega) λc F=>?_;rcases A0B.mp F with F|F
 . rcases A0B.mp F with F|F
   . exact Io c F
   exact Kx c F
 exact Io c F
theorem PU {s:Nat}(O:s<26):Names ((nm2 s).map txt):=by refine⟨N4 (nd2 s O),λz hz=>?_⟩;obtain⟨l,hl,rfl⟩:1:=A0D.mp hz;obtain⟨k,F,rfl⟩:1:=A0D.mp hl;have F:=A1W.mp F;have hm:3*k % 8<8:=Nat.mod_lt _ nofun;have e:=Mb (a:=s+k) (b:=s+k+1+3*k % 8) ∅ ∅;exact Km ∅ ∅ Io
noncomputable def nm3:AA:=["names","ahead","name","a","ab","aheads","last","ask","row","end"]
theorem WN:Names nm3:=⟨by decide +kernel,by decide +kernel⟩
theorem Names.perm {ns:AA}(h:Names ns)(p:ms.Perm ns):Names ms:=⟨p.nodup_iff.mpr h.1,λz hz=>h.2 z (p.mem_iff.mp hz)⟩
theorem Names.sublist {ns:AA}(h:Names ns)(p:ms.Sublist ns):Names ms:=⟨h.1.sublist p,λz hz=>h.2 z (p.subset hz)⟩
theorem Names.reverse {ns:AA}(h:Names ns):Names ns.reverse:=h.perm (List.reverse_perm _)
theorem Names.turn {ns:AA}(h:Names ns)(t n:Nat):Names ((ns.drop t++ns.take t).take n):=
 Names.sublist (ns:=ns.drop t++ns.take t) (h.perm (List.perm_append_comm.trans (by rw[FF]))) (IR _ _)
theorem Ih {t:Int}(O:0<=t)(h1:t<=xs.length):Mi xs (some t) none=xs.drop t.toNat:=by
 have e:(79,0,some t)=t.toNat:=by unfold HT.sIx;simp[show ¬ t<0 by omega];omega
 unfold Mi;rw[e];have F:(123,none)=xs.length:=rfl;rw[F];exact FN (by rw[CL];omega)
theorem Gh {t:Int}(O:0<=t):Mi xs none (some t)=xs.take t.toNat:=by
 have e:(123,some t)=min t.toNat xs.length:=by unfold HT.sIx;simp[show ¬ t<0 by omega]
 unfold Mi;rw[e];have F:(79,0,none)=0:=rfl;rw[F,IS,Nat.sub_zero,Nat.min_comm];rw[<- List.take_take];exact FN (by rw[CD];omega)
theorem Fp  {n:Nat} {x:V} (h:((List.range n).map λ(i:Nat)=>V.int (lo+(i:Int)))[i]? = some x):x = .int (lo+(i:Int))/\i<n:=by
 rw[BK] at h
 cases e:(List.range n)[i]? with
 |none=>rw[e] at h;cases h
 |some j=>
   rw[e] at h
   cases h;have F:=A01.mp e;obtain⟨h1,h2⟩:=F;rw[DN] at h1;rw[List.getElem_range] at h2;subst h2;exact⟨rfl,h1⟩
noncomputable def fI (F:Int->V):V->V
 |.int k=>F k
 |v=>v
theorem Us {n:Nat}{F:Int->V}{G:Nat->Str}(h:∀ k<n,F (lo+(k:Int)) = .str (G k)):((List.range n).map λ(i:Nat)=>V.int (lo+(i:Int))).map (fI F)=((List.range n).map G).map V.str:=by rw[CG,CG];refine CP λk O=>?_;exact h k (A1W.mp O)
theorem Uo:LL.length<=sizeLine:=by rw[SW,CH];omega
theorem Xf {ns:AA}(h:Names ns){k:Int}:∃ ms,Y6 (ns.map V.str) k=ms.map V.str/\Names ms/\ms.length=ns.length:=by
 unfold Y6
 split
 . exact⟨ns,rfl,h,rfl⟩
 exact⟨ns.reverse,by rw[List.map_reverse],h.reverse,FM ..⟩
theorem ExtBut.off {q:Addr}(e:ExtBut d H H1)(O:H q=none)(F:ExtBut q H1 H2):ExtBut d H H2:=λb o n h=>F b o (ne_of_none h O) (e b o n h)
theorem Same.off {q:Addr}(e:(5,H1))(O:H q=none)(F:ExtBut q H1 H2):Same H H2:=λb o h=>F b o (ne_of_none h O) (e b o h)
noncomputable def Up (ls:AA)(ps:AB):Prop:=∀ p∈ps,∃ i j:Nat,i<j/\ls[i]? = some p.1/\ls[j]? = some p.2
theorem Up.nil:Up ls []:=λ_ h=>by cases h
theorem Up.append (h:Up ls ps)(g:Up ls qs):Up ls (ps++qs):=λp hp=>by
 rcases A0B.mp hp with hp|hp
 . exact h p hp
 exact g p hp
theorem Up.one {j:Nat}(h:i<j)(F:ls[i]? = some x)(O:ls[j]? = some y):Up ls [(x,y)]:=λp hp=>by
 have:p=(x,y):=by simpa using hp
 subst this;exact⟨i,j,h,F,O⟩
theorem Up.sub (h:Up ls ps)(s:∀ p∈qs,p∈ps):Up ls qs:=λp hp=>h p (s p hp)
theorem str_at? {i:Int}(F:0<=i)(h1:i<ls.length):∃ z,ls[i.toNat]? = some z/\atI (ls.map V.str) i=(64,z)/\atI ls i=some z:=by
 have h2:i.toNat<ls.length:=by omega
 refine⟨ls[i.toNat],BJ h2,?_,?_⟩
 . have:=Ci (xs:=ls.map V.str) (j:=i.toNat) (v:=.str ls[i.toNat]) (by rw[BK,BJ h2];rfl);rwa[EL F] at this
 have:=Ci (BJ h2);rwa[EL F] at this
theorem Oz {α:Type}:∀(us:List α) (k:Nat) (y:α),us[k]? = some y->(y :: us.eraseIdx k).Perm us
 | [],k,y,h=>by simp at h
 |u :: us,0,y,h=>by
   have:u=y:=by simpa using h
   subst this;exact List.Perm.refl _
 |u :: us,k+1,y,h=>by have F:=Oz us k y (by simpa using h);exact(List.Perm.swap u y _).trans (F.cons u)
theorem QQ {α:Type}{us:List α}{k:Nat}{y:α}(h:us[k]? = some y)(vs:List α):(vs++[y]++us.eraseIdx k).Perm (vs++us):=by rw[CK];exact List.Perm.append_left vs (Oz us k y h)
theorem Ub {α:Type}{l:List α}{x y:α}(h:l[i]? = some x):l.getD i y=x:=by rw[GH,h];rfl
theorem MM {α:Type}(as:List α)(f:α->Str×Str):as.map (λa=>prD (f a))=(as.map f).map prD:=by rw[CG];rfl
theorem Fb {α:Type}{l:List α}{y:α}(h:i<l.length):l[i]? = some (l.getD i y):=by rw[GH,BJ h];rfl
inductive Way (ps:AB):Str->Str->Prop
 |one {x y:Str}:(x,y)∈ps->(U,y)
 |cons {x z y:Str}:(x,z)∈ps->Way ps z y->(U,y)
theorem Way.trans (h:(U,y))(g:Way ps y z):Way ps x z:=by
 induction h with
 |one e=>exact .cons e g
 |cons e _ ih=>exact .cons e (ih g)
theorem Way.snoc (h:(U,y))(g:(y,z)∈ps):Way ps x z:=h.trans (.one g)
theorem Way.left (h:(U,y)):x∈ps.map (·.1):=by
 cases h with
 |one e=>exact A0D.mpr ⟨_,e,rfl⟩
 |cons e _=>exact A0D.mpr ⟨_,e,rfl⟩
theorem Way.right (h:(U,y)):y∈ps.map (·.2):=by
 induction h with
 |one e=>exact A0D.mpr ⟨_,e,rfl⟩
 |cons _ _ ih=>exact ih
theorem Way.mono (h:∀ p∈ps,p∈qs)(g:(U,y)):Way qs x y:=by
 induction g with
 |one e=>exact .one (h _ e)
 |cons e _ ih=>exact .cons (h _ e) ih
theorem Way.shut {S:Str->Prop}(F:∀ y,(x,y)∈ps->S y)(h1:∀ z y,S z->(z,y)∈ps->S y)(g:(U,y)):S y:=by
 induction g with
 |one e=>exact F _ e
 |cons e _ ih=>exact ih λy O=>h1 _ _ (F _ e) O
theorem Up.lt (hn:ls.Nodup)(h:Up ls ps)(g:(U,y)):∃ i j:Nat,i<j/\ls[i]? = some x/\ls[j]? = some y:=by
 induction g with
 |one e=>exact h _ e
 |cons e _ ih=>
   obtain⟨i,j,h1,h2,U⟩:2:=h _ e;obtain⟨Y,Z,g1,F,O⟩:2:=ih
   have e:j=Y:=by obtain⟨a,b⟩:=A01.mp U;obtain⟨c,d⟩:=A01.mp F;exact(CY hn).mp (b.trans d.symm)
   exact⟨i,Z,by omega,h2,O⟩
theorem Up.irrefl (hn:ls.Nodup)(h:Up ls ps):¬ Way ps x x:=λg=>by obtain⟨i,j,h1,h2,F⟩:2:=h.lt hn g;obtain⟨a,b⟩:=A01.mp h2;obtain⟨c,d⟩:=A01.mp F;have:=(CY hn).mp (b.trans d.symm);omega
theorem Up.mem (h:Up ls ps){p:Str×Str}(hp:p∈ps):p.1∈ls/\p.2∈ls:=by obtain⟨i,j,_,h2,F⟩:2:=h p hp;exact⟨BG h2,BG F⟩
structure Half (ns:AA)(ps:AB):Prop where
 names:Names ns
 few:ns.length<=10
 le:ps.length<=60
 line:∃ ls:AA,ls.Perm ns/\Up ls ps
theorem Half.irrefl {ns:AA}(h:Half ns ps):¬ Way ps x x:=by obtain⟨ls,h1,h2⟩:1:=h.line;exact h2.irrefl (h1.nodup_iff.mpr h.names.1)
theorem Half.mem {ns:AA}(h:Half ns ps){p:Str×Str}(hp:p∈ps):p.1∈ns/\p.2∈ns:=by obtain⟨ls,h1,h2⟩:1:=h.line;have:=h2.mem hp;exact⟨h1.mem_iff.mp this.1,h1.mem_iff.mp this.2⟩
theorem T3 (ls:AA):PyData.eqv (.list (ls.map PyData.str)) (.list [])=ls.isEmpty:=by cases ls<;>simp[PyData.eqv,PyData.eqvAll]
mutual
def Iw:PyData->Bool
 |.none=>true
 |.bool _=>true
 |.str x=>PyData.strOk x
 |.list ds=>Lu ds
 |.tuple ds=>Lu ds
 |_=>false
def Lu:AD->Bool
 | []=>true
 |d :: ds=>Iw d&&Lu ds
end
mutual
theorem Tp:∀ d:PyData,Iw d=true->d.canLay0=true
 |.none,_=>by simp only[PyData.canLay0]
 |.bool _,_=>by simp only[PyData.canLay0]
 |.str x,h=>by simpa only[PyData.canLay0,Iw] using h
 |.list ds,h=>by simp only[PyData.canLay0];exact Ld ds (by simpa only[Iw] using h)
 |.tuple ds,h=>by simp only[PyData.canLay0];exact Ld ds (by simpa only[Iw] using h)
 |.int _,h=>by simp[Iw] at h
 |.dict _,h=>by simp[Iw] at h
theorem Ld:∀ ds:AD,Lu ds=true->PyData.canLayAll0 ds=true
 | [],_=>by simp only[PyData.canLayAll0]
 |d :: ds,h=>by simp only[Lu,Bool.and_eq_true] at h;simp only[PyData.canLayAll0,Tp d h.1,Ld ds h.2,Bool.and_self]
end
theorem JC (h:Kj z=true):PyData.strOk z=true/\z.cps.size<=8:=by unfold Kj at h;simp only[Bool.and_eq_true,decide_eq_true_eq] at h;refine⟨?_,h.1.2⟩;unfold PyData.strOk;rw[<- Array.all_toList,A1N];intro c F;have:=A1N.mp h.2 c F;unfold Kl at this;simp only[Bool.and_eq_true,decide_eq_true_eq] at this;exact BY ∅
theorem Pj {α:Type}(f:α->PyData):∀ xs:List α,(∀ a∈xs,Iw (f a)=true)->Lu (xs.map f)=true
 | [],_=>by simp only[List.map_nil,Lu]
 |x :: xs,h=>by simp only[List.map_cons,Lu,h x List.mem_cons_self,Pj f xs λa ha=>h a (List.mem_cons_of_mem _ ha),Bool.and_self]
theorem T1 {α:Type}(f:α->PyData)(n:Nat):∀ xs:List α,(∀ a∈xs,(f a).depth<=n)->PyData.depthAll (xs.map f)<=n
 | [],_=>by simp only[List.map_nil,PyData.depthAll];omega
 |x :: xs,h=>by have h1:=h x BQ;have h2:=T1 f n xs λa ha=>h a (BP _ ha);simp only[List.map_cons,PyData.depthAll];omega
noncomputable def NmP (ps:AB):Prop:=∀ p∈ps,Kj p.1=true/\Kj p.2=true
theorem RP {ns:AA}(h:∀ z∈ns,PyData.strOk z=true):SeqAt.shaped (.list (ns.map PyData.str))=true:=by
 unfold SeqAt.shaped;have e:(PyData.list (ns.map PyData.str)).canLay0=true:=Tp _ (by simp only[Iw];exact Pj _ ns λz hz=>by simp only[Iw];exact h z hz)
 have F:(PyData.list (ns.map PyData.str)).depth<=64:=by
  simp only[PyData.depth];have:=T1 PyData.str 0 ns λz hz=>by simp only[PyData.depth];omega
  omega
 rw [e,BY F];rfl
theorem Co {α:Type}[DecidableEq α]:∀ {xs ys:List α},xs.Nodup->(∀ x∈xs,x∈ys)->xs.length<=ys.length
 | [],_,_,_=>DJ _
 |x :: xs,ys,h,hs=>by
   rw[A0W] at h;have F:x∈ys:=hs x BQ
   have O:=Co (xs:=xs) (ys:=ys.erase x) h.2 λz hz=>by refine(List.mem_erase_of_ne ?_).mpr (hs z (BP _ hz));intro e;subst e;exact h.1 hz
   rw[List.length_erase_of_mem F] at O;have:0<ys.length:=JF F;rw[BO];omega
section
variable {c:TT}{tb:TS}{σ:St}
theorem Pq (W:Nat->St->Hp->Prop)(m:Nat)(O:W m σ H)
 (U:∀ m σ H,W m σ H->c σ H λb H1=>if b=true then ∃ N:St->Hp->Prop,(∀ σ' H',N σ' H'->∃ F,F<m/\W F σ' H')/\tb {D with nx:=N,ct:=N,bk:=D.nx} σ H1 else D.nx σ H1):ak9 c tb D σ H:=⟨W,⟨m,O⟩,U⟩
theorem Vm {W:Nat->St->Hp->Prop}(h:tb {D with nx:=fun σ' H'=>∃ F,F<m/\W F σ' H',ct:=fun σ' H'=>∃ F,F<m/\W F σ' H',bk:=D.nx} σ H) :
 ∃ N:St->Hp->Prop,(∀ σ' H',N σ' H'->∃ F,F<m/\W F σ' H')/\tb {D with nx:=N,ct:=N,bk:=D.nx} σ H:=⟨_,λ_ _ h=>h,h⟩
end
section
variable {K:W.Frag}
noncomputable def Uz:V->List V->Hp->VK->Prop:=λx vs H Q=>∃ d o kvs more,x = .ref d/\vs=[.ref o]/\d≠o/\H d=(6,kvs)/\H o=(6,more)/\kvs.length+more.length<=1000000/\Q .non (B,d,.dK (Ez kvs more))
theorem QP:MtM X "dict.update" Uz:=by
 intro pins s σ H x vs v us Q I rx rv h;obtain⟨d,o,kvs,more,rfl,rfl,a6,Y,hO,hz,q⟩:4:=h
 cases rx;obtain⟨u,rfl,ru⟩:1:=rv.one
 cases ru;obtain⟨z1,a4,a1,Z,U⟩:440:=Tt I.hok Y;obtain⟨z2,a5,a2,a0,a3⟩:440:=Tt I.hok hO;have l1:kvs.length=a1.length:=Z.length;have l2:more.length=a2.length:=a0.length;refine EN F.slot_dict_update U.typeIs F.entry_dict_update (F.args_dict_update_2 _ _) (meets_dict_update (78,X.w) d o a6 a5) ⟨a1,a2,U,a3,A9 ∅,λh' O _ hs=>?_⟩;have he:∃ q,h'.get? d=some q:=let ⟨q,_,_,hq,_⟩:=O;⟨q,hq⟩;refine⟨.non,_,Q2 I (by rw[Y];exact CT) hs he (W0 ?_ a4 (KV.merge a0 Z) O),rfl,q⟩;have:=Em more kvs;exact A9 ∅
end
theorem O1:entryFor table "dict.update.loop" = some Builtin.«dict.update.loop»:=entryFor_of_tree (by kernel_rfl)
theorem Gd:plainId "dict.update.loop" = true:=by decide +kernel
theorem Te:typeLookup (.type "list") "keys" = pure none:=by rw[typeLookup_type,builtinLookup_eq_fast];kernel_rfl
section
variable {prog:Program}{w:World}{κ:Type}[DecidableEq κ]{knd:KeyKind prog w κ}{A:Around}
theorem Yj {xs:Array Value}{k:Nat}{Q:Option Value->Shared->Prop}(U:s.heap.get? a=some {cls:=.type "list",data:=.seq xs k})(hA:A.handled=none)
 (h:∀ h' tk,(∀ b o,s.heap.get? b=some o->h'.get? b=some o)->Q none {s with heap:=h',toks:=tk}):wpAny ((G,w)) A (getAttr? (.ref a) "keys") Q E s:=by
 obtain⟨hp,g,d,tk,os⟩:=s;have O:∀ Z,(⟨hp,g,d,Z,os⟩:Shared).TypeIs (.ref a) "list":=λ_=>⟨_,U,rfl⟩;have f1:=sub_AttributeError;have f3:=F.slot_list_getattribute.lookup;have f4:=F.slot_list_getattribute.bind (.ref a);have f5:=am_list_getattr_none;unfold getAttr? getAttrBy? getAttrBy
 repeat (any_goals (first | assumption | exact O _ | ((with_reducible show wpAny _ _ (call (Value.builtin "list.__getattribute__") _ _) _ _ _);refine EJ F.slot_list_getattribute (O _) am_entry_list_getattribute (F.args_list_getattribute_2 _ _) (meets_getattribute_miss_list a xs k #[] "keys" _ Te 'f' (by rw[CH];decide +kernel)) ⟨U,hA,λh' Z e Y=>?_⟩) | wp_step))
 obtain⟨t',u',he⟩:=Y.there;show wpAny _ _ (getattributeRaised _ _ _ _ _ _ _) _ _ _;unfold getattributeRaised
 repeat (any_goals (first | assumption | wp_step))
 exact h _ _ Y.keeps
theorem X6 {t:Addr}{k v:Value}{Q:AC->Shared->Prop}(U:IsTup s.heap t #[k,v])(h:Q [k,v] s):wpAny ((G,w)) A (Builtin.Dict.pairItems (.ref t)) Q E s:=by obtain⟨o,F,O,n,hd⟩:441:=U;unfold Builtin.Dict.pairItems;refine AY (DT ⟨o,F,O⟩ ?_);rw[BB nofun];refine AY (HN F hd ?_);exact BC h
theorem Zh {I D:Addr}{items:Array Value}(hh:A.in1.handled=none)(aH:l≠I)(U:D≠I)(aC:D≠l)(pk:List (κ×Value×Addr×Value))(aG:pk.length=items.size)(hz:items.size<=1000000) :
 ∀(j i:Nat) (s:Shared) (R:Result->Shared->Prop),items.size-i=j->i<=items.size->s.heap.IsListIter I l i->s.heap.IsList l items ->
  s.heap.DictOf knd D (merged [] ((pk.take i).map λp=>(p.1,p.2.1))) ->
  (∀(n:Nat) (p:κ×Value×Addr×Value),pk[n]? = some p->items[n]? = some (Value.ref p.2.2.1)/\p.2.2.1≠I/\p.2.2.1≠D/\IsTup s.heap p.2.2.1 #[p.2.2.2,p.2.1]/\knd.is p.1 p.2.2.2=true) ->
  (∀ h' tk,h'.DictOf knd D (merged [] (pk.map λp=>(p.1,p.2.1)))->(∀ b o,b≠D->b≠I->s.heap.get? b=some o->h'.get? b=some o)->R (.ok (.ret .none)) {s with heap:=h',toks:=tk}) ->
  codeAny ((G,w)) A (.builtin "dict.update.loop" ⟨[.ref D,.ref I,.int i 0,.none],[]⟩) R s:=by
 have W:=Walks.list (prog:=prog) (w:=w) hh I l aH items;intro j
 induction j with
 |zero=>
   intro i s R hj hi Y Z O hP hR;have aE:i=items.size:=by omega
   subst aE;refine codeAny_builtin O1 ?_;rw[Around.under_plainId Gd _];show(M,_,A.in1,(pyNext (.ref I) >>= _),_,_);refine AY (W.done s _ _ ⟨Y,Z⟩ λh' tk hm=>?_);show wpAny _ A.in1 (Builtin.Dict.addKeywords D [] >>= _) _ _ _;refine wpAny_bind (wpAny_pure (wpAny_pure (hR h' tk ?_ λb o hb aD e=>hm b o (by simpa using aD) e)));rw[<- aG,CF] at O;obtain⟨o,es,ep,F,r⟩:3:=O;exact⟨o,es,ep,hm D o (by simpa using U) F,r⟩
 |succ j ih=>
   intro i s R hj hi Y Z O hP hR;have a4:i<items.size:=by omega
   obtain⟨p,hp⟩:∃ p,pk[i]? = some p:=⟨pk[i]'∅,BJ _⟩;obtain⟨q1,q2,q3,q4,q5⟩:0:=hP i p hp;refine codeAny_builtin O1 ?_;rw[Around.under_plainId Gd _];show(M,_,A.in1,(pyNext (.ref I) >>= _),_,_);refine AY (W.item i s _ _ a4 ⟨Y,Z⟩ λv h' tk hv a6 hm=>?_)
   have aK:v = .ref p.2.2.1:=by have a7:items[i]? = some v:=hv;rw[q1] at a7;exact(BR a7).symm
   subst aK
   have aJ:IsTup h' p.2.2.1 #[p.2.2.2,p.2.1]:=by obtain⟨o,F,r⟩:1:=q4;exact⟨o,hm _ o (by simpa using q2) F,r⟩
   have a9:h'.DictOf knd D (merged [] ((pk.take i).map λp=>(p.1,p.2.1))):=by obtain⟨o,es,ep,F,r⟩:3:=O;exact⟨o,es,ep,hm D o (by simpa using U) F,r⟩
   show wpAny _ A.in1 (holding [Value.ref p.2.2.1] _ >>= _) _ _ _;refine AY (DF ?_);refine AY (wpAny_tryCatch (X6 aJ ?_));show wpAny _ A.in1 (holding [p.2.2.2,p.2.1] (dictSet D p.2.2.2 p.2.1)) _ _ _;refine DF (wpAny_dictSet_pairs q5 a9 (λa8 aA hs=>?_) ?_)
   . refine BC ⟨IQ Gd _,?_⟩;have a0:∀ b o,b≠D->b≠I->s.heap.get? b=some o->a8.get? b=some o:=λb o h1 h2 e=>(hs.2 b h1).trans (hm b o (by simpa using h2) e);refine ih (i+1) _ R ∅ a4 ?_ ?_ ?_ (λn p' aI=>?_) λh3 aL aB aF=>hR h3 aL aB λb o h1 h2 e=>aF b o h1 h2 (a0 b o h1 h2 e)
     . exact a6.1.at λo e=>(hs.2 I (Ne.symm U)).trans e
     . exact a6.2.at λo e=>(hs.2 l (Ne.symm aC)).trans e
     . have e:merged [] ((pk.take (i+1)).map λp=>(p.1,p.2.1))=stored (merged [] ((pk.take i).map λp=>(p.1,p.2.1))) p.1 p.2.1:=by rw[CC,hp];unfold merged;rw[BU,List.foldl_append];rfl
       rw[e];exact aA
     obtain⟨a1,a2,a3,⟨o,F,r⟩,a5⟩:0:=hP n p' aI;exact⟨a1,a2,a3,⟨o,a0 _ o a3 a2 F,r⟩,a5⟩
   refine BI (merged_length_le _ _) (A9 ?_);rw[BA,CD];simp;omega
theorem Ny {items:Array Value}{n:Nat}{Q:AG}(hl:s.heap.get? l=some {cls:=.type "list",data:=.seq items n})(hA:A.handled=none)(pk:List (κ×Value×Addr×Value))(a7:pk.length=items.size)(hz:items.size<=1000000)
 (hP:∀(n:Nat) (p:κ×Value×Addr×Value),pk[n]? = some p->items[n]? = some (Value.ref p.2.2.1)/\IsTup s.heap p.2.2.1 #[p.2.2.2,p.2.1]/\knd.is p.1 p.2.2.2=true)
 (h:∀ h' tk,h'.DictOf knd s.heap.objs.size (merged [] (pk.map λp=>(p.1,p.2.1)))->(∀ b o,s.heap.get? b=some o->h'.get? b=some o)->Q (.ref s.heap.objs.size) {s with heap:=h',toks:=tk}) :
 wpAny ((G,w)) A (call (.type "dict") [.ref l]) Q E s:=by
 refine callType_codes (Q₁:=λobj s₁=>obj = .ref s.heap.objs.size/\s₁={s with heap:=s.heap.push {cls:=.type "dict",data:=.dict #[]}}) F.kt_called_dict (F.kt_typeCall_dict_1 _) F.entry_dict_init (kt_code_dict_new _ ⟨rfl,rfl⟩) ?_
 rintro obj s₁ ⟨rfl,rfl⟩;have a0:(s.heap.push {cls:=.type "dict",data:=.dict #[]}).DictOf knd s.heap.objs.size []:=Heap.DictOf.new s.heap;have Z:(s.heap.push {cls:=.type "dict",data:=.dict #[]}).get? l=some {cls:=.type "list",data:=.seq items n}:=BH _ hl;have a5:l<s.heap.objs.size:=BF hl;refine⟨a0.typeIs,F.args_dict_init_2 _ _,?_⟩;unfold Builtin.«dict.__init__»;refine AY ?_;unfold Builtin.Dict.selfAndRest;refine AY (wpAny_notOrdered_dict a0.typeIs ?_);show wpAny _ _ (pure (s.heap.objs.size,[Value.ref l])) _ _ _;refine BC ?_;show wpAny _ _ (Builtin.Dict.updateFrom "dict.__init__" s.heap.objs.size (.ref l) [] .none) _ _ _;unfold Builtin.Dict.updateFrom;refine AY (DT ⟨_,Z,rfl⟩ ?_);rw[BB nofun];refine wpAny_bind (Yj Z (by simpa using hA) λh1 a8 Y=>?_);have a6:h1.get? l=some {cls:=.type "list",data:=.seq items n}:=Y _ _ Z;rw[BB (show(none:Option Value).isNone=true from rfl)]
 have a2:h1.DictOf knd s.heap.objs.size []:=by obtain⟨o,es,ep,O,r⟩:3:=a0;exact⟨o,es,ep,Y _ _ O,r⟩
 have hsz:s.heap.objs.size<h1.objs.size:=by obtain⟨o,es,ep,O,r⟩:3:=a2;exact BF O
 refine AY (wpAny_rule ?_);have a4:h1.IsList l items:=⟨_,a6,rfl,n,rfl⟩;refine AY (GU a4 ?_);refine BC ⟨IQ Gd _,?_⟩;have kp:∀ b o,s.heap.get? b=some o->(h1.push {cls:=.type "list_iterator",data:=.fields #[.ref l,.int 0 0]}).get? b=some o:=λb o e=>BH _ (Y _ _ (BH _ e));refine Zh (knd:=knd) (A:=A.in1) (I:=h1.objs.size) (D:=s.heap.objs.size) (l:=l) (items:=items) (by simpa using hA) (Nat.ne_of_lt (Nat.lt_trans a5 hsz)) (Nat.ne_of_lt hsz) (Nat.ne_of_gt a5) pk a7 hz items.size 0 _ _ (Nat.sub_zero _) (Nat.zero_le _) ⟨_,Heap.get?_push_size _ rfl,rfl,rfl⟩ (a4.push _) ?_ (λm p hp=>?_) λh' tk hD hk=>?_
 . exact a2.push _
 . obtain⟨a1,⟨o,O,r⟩,a3⟩:0:=hP m p hp;have U:=BF O;exact⟨a1,BN (GA U hsz),BN U,⟨o,kp _ _ O,r⟩,a3⟩
 refine⟨rfl,h h' tk hD λb o e=>?_⟩;have U:=BF e;exact hk b o (BN U) (BN (GA U hsz)) (kp b o e)
end
noncomputable def PrsK (K:W.Frag)(H:Hp):List (Key×V)->List V->Prop
 | [],ys=>ys=[]
 |kv :: r,ys=>∃ t ys',ys = .ref t :: ys'/\SqT K H t [kV kv.1,kv.2]/\PrsK K H r ys'
theorem PrsK.pk {X:Cx}{pins:AI}{σ:St}{H:Hp}{s:Shared}(I:(4,s)):∀(kvs:List (Key×V)) (ys:List V) (its:AC),PrsK X.K H kvs ys->Vals ys its ->
 ∃ pk:List (Key×Value×Addr×Value),pk.length=its.length/\KV kvs (pk.map λp=>(p.1,p.2.1))/\∀(n:Nat) (p:Key×Value×Addr×Value),pk[n]? = some p->its[n]? = some (Value.ref p.2.2.1)/\IsTup s.heap p.2.2.1 #[p.2.2.2,p.2.1]/\((78,X.w)).is p.1 p.2.2.2=true
 | [],ys,its,h,v=>by
   have h':ys=[]:=h;subst h'
   cases v;exact ⟨[],rfl,.nil,λn p hp=>by simp at hp⟩
 |kv :: r,ys,its,h,v=>by
   obtain⟨t,a0,rfl,h2,Y⟩:2:=h
   cases v with
   |cons v1 v2=>
     obtain⟨pk,l1,l2,l3⟩:1:=PrsK.pk I r a0 _ Y v2
     cases v1;obtain ⟨a2,rv,Z,_⟩:1:=I.tuple h2;obtain⟨F,val,rfl,O,U⟩:2:=Vals.two rv;refine⟨(kv.1,val,t,F) :: pk,by simp[l1],.cons ⟨rfl,U⟩ l2,λn p hp=>?_⟩
     cases n with
     |zero=>have:p=(kv.1,val,t,F):=(Option.some.inj (by simpa using hp)).symm;subst this;exact⟨rfl,Z,R5 O⟩
     |succ n=>exact l3 n p (by simpa using hp)
section
variable {K:W.Frag}
noncomputable def aa2 (K:W.Frag):List V->Hp->VK->Prop:=λxs H Q=>∃ l ys kvs,xs=[V.ref l]/\H l=(2,ys)/\PrsK K H kvs ys/\ys.length<=1000000/\kvs.length<=1000000/\∀ p,H p=none->(C,p,(B,p,.dK (Ez [] kvs)))
theorem Xy (hr:X.A.handled=none):CallR X (.type "dict") (aa2 X.K):=by
 intro pins s σ H xs us Q I rv h;obtain⟨l,ys,kvs,rfl,hl,hp,hz,a0,q⟩:3:=h;obtain⟨u,rfl,ru⟩:1:=rv.one
 cases ru;obtain⟨z,its,n,r,a4,e⟩:820:=I.lstM hl;obtain⟨pk,l1,l2,l3⟩:1:=PrsK.pk I kvs ys its hp r;refine Ny (knd:=(78,X.w)) e hr pk (by simpa using l1) (by simp;omega) (λn p hp=>?_) λh' tk Y Z=>?_
 . obtain⟨F,O,U⟩:0:=l3 n p hp;exact⟨by simpa using F,O,U⟩
 refine⟨.ref s.heap.objs.size,_,I.laid Z (BE _) (W0 ?_ ?_ (KV.merge l2 .nil) Y),rfl,q _ (61,_)⟩
 . have:=Em kvs [];exact A9 (by simpa using Nat.le_trans this (by simpa using a0))
 exact A1A.mpr (EY I.big)
theorem L6 (O:X.A.handled=none)(F:X.K=K:=by ac_nf):CallR X (.type "dict") (aa2 K):=F ▸ Xy O
end
noncomputable def Iq (ns:AA)(as:AF):List (Key×V):=(ns.zip as).map λp=>(Sum.inr p.1,V.ref p.2)
noncomputable def Hf (ks:AA):List (Key×V):=ks.map λy=>(Sum.inr y,V.bl true)
theorem Ew:∀ {ns:AA} {as:AF} {i:Nat} {z:Str} {a:Addr},ns.Nodup->ns[i]? = some z->as[i]? = some a->Cr (Iq ns as) (Sum.inr z:Key)=(3,a)
 | [],_,i,_,_,_,h,_=>by simp at h
 |n :: ns,[],i,_,_,_,_,h=>by simp at h
 |n :: ns,b :: as,0,z,a,_,h,g=>by simp at h g;subst h g;exact Bc rfl
 |n :: ns,b :: as,i+1,z,a,hn,h,g=>by
   rw[A0W] at hn;have h':ns[i]? = some z:=by simpa using h
   have ne:¬ (Sum.inr n:Key)=Sum.inr z:=by
    intro e;have F:n=z:=by injection e
    subst F;exact hn.1 (BG h')
   show Cr ((Sum.inr n,V.ref b) :: Iq ns as) _=_;rw[B9 ne];exact Ew hn.2 h' (by simpa using g)
theorem Me (y:Str):∀ ks:AA,Cr (Hf ks) (Sum.inr y:Key)=if y∈ks then some (.bl true) else none
 | []=>by simp[Hf,QB]
 |k :: ks=>by
   show Cr ((Sum.inr k,V.bl true) :: Hf ks) _=_
   by_cases e:k=y
   . subst e;rw[Bc rfl,BB BQ]
   rw[B9 (by intro q;injection q with q;exact e q),Me y ks]
   have:(y∈k :: ks)↔y∈ks:=by simp[Ne.symm e]
   simp only[this]
noncomputable def an5 (ks:AA)(y:Str):AA:=if y∈ks then ks else ks++[y]
theorem mem_addK {ks:AA}:z∈an5 ks y↔z∈ks\/z=y:=by
 unfold an5
 split
 . constructor
   . exact .inl
   rintro(h|rfl)
   . exact h
   assumption
 simp
theorem Pm {ks:AA}(h:ks.Nodup):(an5 ks y).Nodup:=by
 unfold an5
 split
 . exact h
 rename_i hy;rw[A1D];refine⟨h,by simp,λa ha b hb e=>?_⟩;have:b=y:=by simpa using hb
 subst this;subst e;exact hy ha
theorem SA (y:Str)(ks:AA):((Hf ks).any λkv=>decide (kv.1=(Sum.inr y:Key)))=decide (y∈ks):=by
 induction ks with
 |nil=>simp[Hf]
 |cons k ks ih=>
   show(decide ((Sum.inr k:Key)=Sum.inr y)||(Hf ks).any _)=_
   rw[ih]
   by_cases e:k=y
   . subst e;simp
   have F:¬ (Sum.inr k:Key)=Sum.inr y:=by intro q;injection q with q;exact e q
   simp[F,Ne.symm e]
theorem Yf (ks:AA)(y:Str):Eo (Hf ks) (Sum.inr y:Key) (.bl true)=Hf (an5 ks y):=by
 unfold Eo an5;rw[SA]
 by_cases h:y∈ks
 . rw[BB (BY h),BB h];unfold Hf;rw[CG];refine CP λk _=>?_;show(if(Sum.inr k:Key)=Sum.inr y then(Sum.inr k,V.bl true) else(Sum.inr k,V.bl true))=_
   split<;>rfl
 rw[if_neg (by simpa using h),if_neg h];unfold Hf;rw[BU];rfl
noncomputable def O4 (ks ms:AA):AA:=ms.foldl an5 ks
theorem T0:∀(ms ks:AA),Ez (Hf ks) (Hf ms)=Hf (O4 ks ms)
 | [],ks=>rfl
 |m :: ms,ks=>by show Ez (Eo (Hf ks) (Sum.inr m) (.bl true)) (Hf ms)=_;rw[Yf,T0 ms];rfl
theorem mem_addAll:∀ {ms ks:AA} {z:Str},z∈O4 ks ms↔z∈ks\/z∈ms
 | [],ks,z=>by simp[O4]
 |m :: ms,ks,z=>by show z∈O4 (an5 ks m) ms↔_;rw[mem_addAll,mem_addK,A0A,or_assoc]
theorem Ll:∀ {ms ks:AA},ks.Nodup->(O4 ks ms).Nodup
 | [],ks,h=>h
 |m :: ms,ks,h=>Ll (ms:=ms) (Pm h)
theorem Pr (ks:AA):(Hf ks).length=ks.length:=by simp[Hf]
theorem Ke:∀(kvs acc:List (Key×V)),(kvs.map (·.1)).Nodup->(∀ k∈kvs,∀ q∈acc,q.1≠k.1)->Ez acc kvs=acc++kvs
 | [],acc,_,_=>by simp[Ez]
 |k :: kvs,acc,hn,hd=>by
   show Ez (Eo acc k.1 k.2) kvs=_
   have e:Eo acc k.1 k.2=acc++[k]:=by
    unfold Eo
    have:¬ (acc.any λkv=>decide (kv.1=k.1))=true:=by rw[A1E];rintro⟨q,F,e⟩;exact hd k BQ q F (GR e)
    rw[AZ this]
   rw[BM,A0W] at hn;rw[e,Ke kvs (acc++[k]) hn.2 λx O q F=>?_,CK]
   . rfl
   rcases A0B.mp F with F|F
   . exact hd x (BP _ O) q F
   have:q=k:=by simpa using F
   subst this;intro e;exact hn.1 (A0D.mpr ⟨x,O,e.symm⟩)
structure Tab (H:Hp)(r:Addr)(ns:AA)(as:AF)(R:Str->Str->Prop):Prop where
 len:as.length=ns.length
 nd:as.Nodup
 nr:r∉as
 top:H r=(6,Iq ns as)
 row:∀(i:Nat) (z:Str) (a:Addr),ns[i]? = some z->as[i]? = some a->∃ ks:AA,H a=(6,Hf ks)/\ks.Nodup/\(∀ y∈ks,y∈ns)/\∀ y,y∈ks↔R z y
theorem Tab.same {ns:AA}{R:Str->Str->Prop}(h:Tab H r ns as R)(e:(5,H')):Tab H' r ns as R:=
 ⟨h.len,h.nd,h.nr,e _ _ h.top,λi z a hz ha=>let ⟨ks,h1,h2⟩:=h.row i z a hz ha;⟨ks,e _ _ h1,h2⟩⟩
theorem Tab.congr {ns:AA}{R R':Str->Str->Prop}(h:Tab H r ns as R)(e:∀ z∈ns,∀ y,R z y↔R' z y):Tab H r ns as R':=
 ⟨h.len,h.nd,h.nr,h.top,λi z a hz ha=>let ⟨ks,h1,h2,h3,h4⟩:=h.row i z a hz ha;⟨ks,h1,h2,h3,λy=>(h4 y).trans (e z (BG hz) y)⟩⟩
theorem Tab.put {b:Addr}{ns:AA}{R R':Str->Str->Prop}(h:Tab H r ns as R)(e:(h,b)){j:Nat}(hn:ns.Nodup)(O:ns[j]? = some x)(hb:as[j]? = some b){ks:AA}
 (hk:H' b=(6,Hf ks)) (k1:ks.Nodup) (k2:∀ y∈ks,y∈ns) (k3:∀ y,y∈ks↔R' x y) (k4:∀ z∈ns,z≠x->∀ y,R z y↔R' z y):Tab H' r ns as R':=by
 refine⟨h.len,h.nd,h.nr,e _ _ (λq=>h.nr (q ▸ BG hb)) h.top,λi z a hz ha=>?_⟩
 by_cases F:i=j
 . subst F;rw[hz] at O
   cases O;rw[ha] at hb
   cases hb;exact⟨ks,hk,k1,k2,k3⟩
 obtain⟨ms,h1,h2,Y,Z⟩:1:=h.row i z a hz ha
 have a0:a≠b:=by intro q;subst q;obtain⟨p1,p2⟩:=A01.mp ha;obtain⟨q1,U⟩:=A01.mp hb;exact F ((CY h.nd).mp (p2.trans U.symm))
 have a1:z≠x:=by intro q;subst q;obtain⟨p1,p2⟩:=A01.mp hz;obtain⟨q1,U⟩:=A01.mp O;exact F ((CY hn).mp (p2.trans U.symm))
 exact⟨ms,e _ _ a0 h1,h2,Y,λy=>(Z y).trans (k4 z (BG hz) a1 y)⟩
theorem Tab.at {ns:AA}{R:Str->Str->Prop}(h:Tab H r ns as R)(O:x∈ns):∃(i:Nat) (a:Addr),ns[i]? = some x/\as[i]? = some a:=by
 obtain⟨i,hi,e⟩:=ED O;have F:i<as.length:=by rw[h.len];exact hi
 exact⟨i,as[i],by rw[BJ hi,e],BJ F⟩
section
variable {K:W.Frag}{ns:AA}{R:Str->Str->Prop}
theorem Rn (h:Tab H r ns as R)(hn:ns.Nodup)(F:ns[i]? = some x)(ha:as[i]? = some a)(k:(C,a,H)):Pk K (.ref r) (.str x) H Q:=i_ixD h.top (Ew hn F ha) k
theorem Va {ks:AA}(h:H a=(6,Hf ks))(k:(t,(decide (y∈ks)))):Xb K false (.str y) (.ref a) H Q:=by
 refine(31,.inl ⟨a,Cr (Hf ks) (Sum.inr y:Key),rfl,DGet.k (k:=Sum.inr y) h,?_⟩);rw[Me]
 by_cases e:y∈ks
 . rw[if_pos e];simpa[e] using k
 rw[if_neg e];simpa[e] using k
theorem IX (h:H a=(6,kvs))(k:B):tyV K "dict" (.ref a) H/\B:=⟨(31,.inl ⟨rfl,.inl ⟨kvs,h⟩⟩),k⟩
theorem VG {o:Addr}{ks:AA}(hd:H d=(6,Hf ks))(O:H o=(6,Hf ms))(F:d≠o)(hz:ks.length+ms.length<=1000000)(k:∀ H',(h,d)->H' d=(6,Hf (O4 ks ms))->Q .non H'):Uz (.ref d) [.ref o] H Q:=
 ⟨d,o,_,_,rfl,rfl,F,hd,O,by rw[Pr,Pr];exact hz,k _ AV (by rw[Ab,T0])⟩
end
structure HalfW (ns:AA)(ps:AB):Prop where
 nd:ns.Nodup
 mem:∀ p∈ps,p.1∈ns/\p.2∈ns
 irr:∀ x,¬ (U,x)
 few:ns.length<=100
 le:ps.length<=1000
theorem Half.w {ns:AA}(h:Half ns ps):HalfW ns ps:=⟨h.names.1,λp hp=>h.mem hp,λ_=>h.irrefl,BI h.few nofun,BI h.le nofun⟩
structure War (ns:AA)(ps:AB)(ms:AA)(R:Str->Str->Prop):Prop where
 snd:∀ z y,R z y->Way ps z y
 edge:∀ z y,(z,y)∈ps->R z y
 shut:∀ m∈ms,∀ z y,R z m->R m y->R z y
noncomputable def al2 (R:Str->Str->Prop)(mid:Str)(ms:AA)(z y:Str):Prop:=R z y\/(z∈ms/\R z mid/\R mid y)
theorem War.step {ns:AA}{R:Str->Str->Prop}(h:War ns ps ms R){O:Str}:War ns ps (ms++[O]) (λz y=>R z y\/(R z O/\R O y)):=by
 refine⟨λz y hz=>?_,λz y hz=>.inl (h.edge z y hz),λm hm z y h1 h2=>?_⟩
 . rcases hz with hz|⟨h1,h2⟩
   . exact h.snd z y hz
   exact(h.snd _ _ h1).trans (h.snd _ _ h2)
 rcases A0B.mp hm with hm|hm
 . rcases h1 with h1|⟨h1,U⟩
   . rcases h2 with h2|⟨h2,F⟩
     . exact .inl (h.shut m hm z y h1 h2)
     exact .inr ⟨h.shut m hm z O h1 h2,F⟩
   rcases h2 with h2|⟨h2,F⟩
   . exact .inr ⟨h1,h.shut m hm O y U h2⟩
   exact .inr ⟨h1,F⟩
 have e:m=O:=by simpa using hm
 subst e;rcases h1 with h1|⟨h1,U⟩
 . rcases h2 with h2|⟨h2,F⟩
   . exact .inr ⟨h1,h2⟩
   exact .inr ⟨h1,F⟩
 rcases h2 with h2|⟨h2,F⟩
 . exact .inr ⟨h1,h2⟩
 exact .inr ⟨h1,F⟩
theorem War.done {ns:AA}{R:Str->Str->Prop}(h:War ns ps ns R)(hm:∀ p∈ps,p.1∈ns/\p.2∈ns)(z y:Str):R z y↔Way ps z y:=by
 refine⟨h.snd z y,λg=>?_⟩
 induction g with
 |one e=>exact h.edge _ _ e
 |cons e _ ih=>exact h.shut _ (hm _ e).2 _ _ (h.edge _ _ e) ih
theorem PrsK.fz {K:W.Frag} {H H':Hp} (e:Fz H H'):∀ {kvs:List (Key×V)} {ys:List V},PrsK K H kvs ys->PrsK K H' kvs ys
 | [],_,h=>h
 |kv :: r,ys,⟨t,ys',h1,h2,h3⟩=>⟨t,ys',h1,e.seq h2,PrsK.fz e h3⟩
theorem PrsK.snoc {K:W.Frag}{H:Hp}{kv:Key×V}{t:Addr}(h:SqT K H t [kV kv.1,kv.2]):∀ {kvs:List (Key×V)} {ys:List V},PrsK K H kvs ys->PrsK K H (kvs++[kv]) (ys++[.ref t])
 | [],ys,g=>by have g':ys=[]:=g;subst g';exact⟨t,[],rfl,h,rfl⟩
 |k :: r,ys,⟨u,ys',h1,h2,h3⟩=>by subst h1;exact⟨u,ys'++[.ref t],rfl,h2,PrsK.snoc h h3⟩
theorem PrsK.length {K:W.Frag}{H:Hp}:∀ {kvs:List (Key×V)} {ys:List V},PrsK K H kvs ys->ys.length=kvs.length
 | [],ys,g=>by have g':ys=[]:=g;subst g';rfl
 |k :: r,ys,⟨u,ys',h1,h2,h3⟩=>by subst h1;simp[PrsK.length h3]
theorem JV {K:W.Frag}(h:H l=(2,ys))(g:PrsK K H kvs ys)(hz:kvs.length<=1000000)(k:∀ p H',H p=none->(5,H')->H' p=(6,Ez [] kvs)->(D,p)):aa2 K [.ref l] H Q:=
 ⟨l, ys,kvs,rfl,h,g,by rw[g.length];exact hz,hz,λp hp=>k p _ hp (AO hp) Ab⟩
theorem Q7:∀ {ns:AA} {as:AF},ns.Nodup->((Iq ns as).map (·.1)).Nodup
 | [],as,_=>by simp[Iq]
 |n :: ns,[],_=>by simp[Iq]
 |n :: ns,a :: as,h=>by
   rw[A0W] at h;show((Sum.inr n:Key) :: (Iq ns as).map (·.1)).Nodup;rw[A0W];refine⟨λhm=>?_,Q7 h.2⟩;obtain⟨kv,O,e⟩:1:=A0D.mp hm;obtain⟨p,hp,rfl⟩:1:=A0D.mp O;have F:p.1=n:=by injection e
   exact h.1 (F ▸ (FW hp).1)
theorem Pw {ns:AA}(h:ns.length=as.length):Iq (ns++[z]) (as++[a])=Iq ns as++[(Sum.inr z,V.ref a)]:=by unfold Iq;rw[List.zip_append h,BU];rfl
end L2
namespace L2
open PySem PySem.Spec PyProof.Rows
open Classical in
noncomputable def Ac (ps:AB)(x y:Str):Bool:=decide ((U,y))
variable {a:Addr}{ps:AB}{js:AE}{x y:Str}{te:TE}{g:TG}
theorem wayB_iff:Ac ps x y=true↔Way ps x y:=by unfold Ac;simp
theorem Z2 {b:Bool}(h:b=true↔(U,y)):b=Ac ps x y:=by
 cases hb:Ac ps x y with
 |true=>exact h.mpr (wayB_iff.mp hb)
 |false=>
   cases b with
   |false=>rfl
   |true=>
     have:=wayB_iff.mpr (h.mp rfl);rw[hb] at this
     cases this
theorem Kg {p:Prop}[Decidable p](h:p↔(U,y)):decide p=Ac ps x y:=Z2 (by rw[GJ];exact h)
theorem Ig (h:¬ (U,y)):Ac ps x y=false:=by
 cases hb:Ac ps x y with
 |false=>rfl
 |true=>exact absurd (wayB_iff.mp hb) h
theorem iteR {α:Type}{a:α}{A B:Prop}[Decidable (a=a)](h:A):if decide (a=a)=true then A else B:=by rw[if_pos 'c'];exact h
theorem iteNR {α:Type}{a:α}{A B:Prop}[Decidable (a=a)](h:B):if(!decide (a=a))=true then A else B:=by rw[if_neg 'c'];exact h
section
variable {K:W.Frag}{H:Hp}{σ:St}{x:V}{Q:VK}
theorem Rj {ns:AA}{tt:TT}{k:Nat}(h:(44,ns,x))(t:Str->Bool)(f:Str->PyData)(hf:∀ a,frz (f a)=true)(hz:ns.length<=1000000)
 (hs:∀(i:Nat) a H1 (R:VK) (R':Hp->Prop),ns[i]? = some a->(5,H1)->(t a=true->∀ y H2,Same H1 H2->Is K H2 (f a) y->R y H2)->(t a=false->∀ H2,Same H1 H2->R' H2) ->
  g (.str a) ((30,k)++Ob σ js) H1 fun σ2 H2=>tt σ2 H2 λb F=>if b=true then te σ2 F R else R' F)
 (hd:∀ p ys H',H p=none->(5,H')->H' p=(2,ys)->IsL K H' ((ns.filter t).map f) ys->(D,p)):Ej K x H λJ H1=>M7 k js g tt te σ J H1 Q:=by
 obtain⟨a,rfl,O⟩:1:=h.nm;refine Rb O (Ep (K:=K) (Et (xs:=ns.map V.str)) ns 'c' t f hf (by simpa using hz) (λH' e=>e.seqT O) (λi z v H1 R R' hz U e Y Z=>?_) hd);rw[BK,hz] at U
 cases U;exact hs i z H1 R R' hz e Y Z
theorem Ra {ns:AA}{tt:TT}{k:Nat}(h:(83,K,a,V.str))(t:Str->Bool)(f:Str->PyData)(hf:∀ a,frz (f a)=true)(hz:ns.length<=1000000)
 (Z:∀(i:Nat) a H1 (R:VK) (R':Hp->Prop),ns[i]? = some a->(5,H1)->(t a=true->∀ y H2,Same H1 H2->Is K H2 (f a) y->R y H2)->(t a=false->∀ H2,Same H1 H2->R' H2) ->
  g (.str a) ((30,k)++Ob σ js) H1 fun σ2 H2=>tt σ2 H2 λb F=>if b=true then te σ2 F R else R' F)
 (hd:∀ p ys H',H p=none->(5,H')->H' p=(2,ys)->IsL K H' ((ns.filter t).map f) ys->(D,p)):Ej K (.ref a) H λJ H1=>M7 k js g tt te σ J H1 Q:=by
 refine Jk h (Ep (K:=K) (Bq (xs:=ns.map V.str)) ns 'c' t f hf (by simpa using hz) (λH' e=>e.seq h) (λi z v H1 R R' hz O e U Y=>?_) hd);rw[BK,hz] at O
 cases O;exact Z i z H1 R R' hz e U Y
theorem Zo {tt:TT}{k:Nat}(h:(9,psD ps,x))(t:Str×Str->Bool)(f:Str×Str->PyData)(hf:∀ a,frz (f a)=true)(hz:ps.length<=1000000)
 (hs:∀(i:Nat) a v H1 (R:VK) (R':Hp->Prop),ps[i]? = some a->Is K H1 (prD a) v->(5,H1)->(t a=true->∀ y H2,Same H1 H2->Is K H2 (f a) y->R y H2)->(t a=false->∀ H2,Same H1 H2->R' H2) ->
  g v ((30,k)++Ob σ js) H1 fun σ2 H2=>tt σ2 H2 λb F=>if b=true then te σ2 F R else R' F)
 (hd:∀ p ys H',H p=none->(5,H')->H' p=(2,ys)->IsL K H' ((ps.filter t).map f) ys->(D,p)):Ej K x H λJ H1=>M7 k js g tt te σ J H1 Q:=by
 obtain⟨a,xs,rfl,Y,U⟩:2:=AS h;have hl:ps.length=xs.length:=by rw[<- AL U,BA]
 refine Rb Y (Ep (K:=K) (Et (xs:=xs)) ps hl t f hf ∅ (λH' e=>e.seqT Y) (λi z v H1 R R' hz hv e hR a0=>?_) hd);obtain⟨d,O,Z⟩:1:=IsL.get (AQ e _ _ U) hv;rw[BK,hz] at O
 cases O;exact hs i z v H1 R R' hz Z e hR a0
theorem LH {ns:AA}{ys:List V}(h:H a=(2,ys))(g:(I,ns.map PyData.str,ys))(k:∀ v H',(5,H')->(Y,nmD ns,v)->Q v H'):Nj K [.ref a] H Q:=by have e:=AX g;subst e;exact Mg (AJ h) λp H' hp e h'=>k _ H' e (Mp (AK h'))
theorem Lb {ys:List V}(h:H a=(2,ys))(g:(I,ps.map prD,ys))(k:∀ v H',(5,H')->(Y,psD ps,v)->Q v H'):Nj K [.ref a] H Q:=
 Mg (AJ h) λp H' hp e h'=>k _ H' e (AN (AK h') (AQ e _ _ g))
end
end L2
namespace L2
open PySem PySem.Spec PyProof.Rows
open AutoSeq1 (wpAny_loadPart')
variable {items:Array Value}{Q:AG}
section
variable {prog:Program}{w:World}{A:Around}{E:AG}{s:Shared}
theorem ZH {it t:Addr}{i:Nat}{x:Value}(Y:s.heap.IsTupleIter it t i)(ht:s.heap.IsTuple t items)(hx:items[i]? = some x)
 (Z:∀ h',h'.IsTupleIter it t (i+1)->Heap.SameBut it s.heap h'->Q x {s with heap:=h'}):wpAny ((G,w)) A (Builtin.SmallTypes.nextOf (.ref it)) Q E s:=by
 obtain⟨o,U,o2,O⟩:1:=id Y;obtain⟨u,u1,_,n,u2⟩:441:=ht;unfold Builtin.SmallTypes.nextOf;refine AY (FG (name:=Str.ofString "__next__") Y.typeIs F.slot_tuple_iterator_next (ET F.slot_tuple_iterator_next Y.typeIs F.entry_tuple_iterator_next ?_ (F.args_tuple_iterator_next_1 _)));refine AY (m:=field (.ref it) 0) (CW U O (x:=.ref t) rfl ?_);rw[AZ (show ¬ ((Value.ref t==Value.none)=true) by intro h;cases h)];refine AY (m:=field (.ref it) 1) (CW U O (x:=.int i 0) rfl ?_);refine AY (m:=seqItems? (.ref t)) (HN u1 u2 ?_);simp only[Int.toNat_natCast,hx];refine wpAny_bind (wpAny_setField U O 'c' (wpAny_pure ⟨x,rfl,wpAny_pure (Z _ ⟨_,Heap.get?_update_self _ U (Obj.isFreed_of_fields (Obj.data_mapFields O _)),(Obj.cls_mapFields ..).trans o2,?_⟩ (Heap.SameBut.update ..))⟩));rw[HF O];simp[rawInt]
theorem XQ {it t:Addr}{i:Nat}(Z:A.handled=none)(O:s.heap.IsTupleIter it t i)(ht:s.heap.IsTuple t items)(hx:items[i]? = none)
 (hE:∀ h' e,Heap.ExtBut it s.heap h'->(∃ o,h'.get? e=some o/\o.cls = .type "StopIteration")->E (.ref e) {s with heap:=h'}):wpAny ((G,w)) A (Builtin.SmallTypes.nextOf (.ref it)) Q E s:=by
 obtain⟨o,U,o2,Y⟩:1:=id O;obtain⟨u,u1,_,n,u2⟩:441:=ht;unfold Builtin.SmallTypes.nextOf;refine AY (FG (name:=Str.ofString "__next__") O.typeIs F.slot_tuple_iterator_next (ET F.slot_tuple_iterator_next O.typeIs F.entry_tuple_iterator_next ?_ (F.args_tuple_iterator_next_1 _)));refine AY (m:=field (.ref it) 0) (CW U Y (x:=.ref t) rfl ?_);rw[AZ (show ¬ ((Value.ref t==Value.none)=true) by intro h;cases h)];refine AY (m:=field (.ref it) 1) (CW U Y (x:=.int i 0) rfl ?_);refine AY (m:=seqItems? (.ref t)) (HN u1 u2 ?_);simp only[Int.toNat_natCast,hx];refine wpAny_bind (wpAny_rule (wpAny_bind (wpAny_setField U Y 'c' ?_)));refine AY (m:=newExc (.type "StopIteration") []) ?_;simp only[newExc,newTuple];refine AY (DC ?_ (by size_fits));refine wpAny_bind (m:=firstArgMember _ _) (wpAny_of_eq (a:=Value.none) (by first | rfl | (simp only[firstArgMember];rfl)) (wpAny_newObj_type ?_ (by size_fits)))
 simp only[raiseNew];refine AY (wpAny_handled ?_)
 first | rw[show A.in1.handled=none from Z] | rw[Z]
 refine(19,wpAny_throw (hE _ _ (((Heap.SameBut.update ..).extBut.push _).push _) ⟨_,(12,_),rfl⟩))
theorem LV (Y:A.handled=none)(it t:Addr)(Z:t≠it)(items:Array Value):Draws prog w A it [it,t] items.size (λi v=>items[i]? = some v) (λi h=>h.IsTupleIter it t i/\h.IsTuple t items) where
 live:=λ_ _ q=>let ⟨o,ho,_⟩:=q.1;⟨o,ho⟩
 frame:=λ_ _ _ q F=>⟨q.1.at λo e=>F it 'c' o e,let ⟨o,ho,r⟩:=q.2;⟨o,F t 'c' o ho,r⟩⟩
 item:=λi s Q E hi q U=>ZH q.1 q.2 (x:=items[i]) (by simp[hi]) λh' a b=>U _ h' s.toks (by simp[hi]) ⟨a,q.2.extBut b.extBut Z⟩ b
 done:=λs Q E q O=>XQ Y q.1 q.2 'c' O
theorem U5 (l:Addr)(items:Array Value)(n:Nat)(O:Option Addr)(U:(121,Value)) :
 Meets (Builtin.«enumerate.__new__» ⟨[.type "enumerate",.ref l],[]⟩) (λ_ R s=>s.heap.get? l=some {cls:=.type "tuple",dict:=O,data:=.seq items n,slots:=U} /\
  R (.ok (.ret (.ref (s.heap.push {cls:=.type "tuple_iterator",data:=.fields #[.ref l,.int 0 0]}).objs.size)))
   {s with heap:=(s.heap.push {cls:=.type "tuple_iterator",data:=.fields #[.ref l,.int 0 0]}).push {cls:=.type "enumerate",data:=.fields #[.none,.bool false,.ref s.heap.objs.size,rawInt 0,.none,.none]}}):=
 .of_wp λprog w A R s h=>by
  obtain⟨hp,g,d,tk,os⟩:=s;obtain⟨hl,h⟩:=h;have Y:=sub_enumerate;have F:Heap.IsTuple (Shared.heap ⟨hp,g,d,tk,os⟩) l items:=⟨_,hl,rfl,n,rfl⟩
  wp_walk using wpAny_loadPart' hl
  refine wpAny_stack_any λst=>BC ?_
  split
  . rename_i c _ _ _ _ _
    cases (c==Value.type "enumerate")<;>(wp_walk using wpAny_loadPart' hl,GK F;exact⟨_,rfl,h⟩)
  wp_walk using wpAny_loadPart' hl,GK F
  exact⟨_,rfl,h⟩
theorem Xz {l:Addr}(Z:s.heap.IsTuple l items)
 (h:∀ h',IsEnum h' (s.heap.objs.size+1) s.heap.objs.size 0 .none->h'.IsTupleIter s.heap.objs.size l 0->(∀ b o,s.heap.get? b=some o->h'.get? b=some o)->Q (.ref (s.heap.objs.size+1)) {s with heap:=h'}) :
 wpAny ((G,w)) A (call (.type "enumerate") [.ref l]) Q E s:=by
 obtain⟨⟨c,U,Y,sl⟩,hl,O,n,hd⟩:441:=Z;replace O:c = .type "tuple":=O;replace hd:Y = .seq items n:=hd;subst O hd;refine callType_new F.called_enumerate nofun (F.typeCall_enumerate_1 _) (F.newCall_enumerate_1 _) (λobj=>F.args_object_init_2 obj _) F.entry_enumerate_new (U5 l items n U sl) ⟨hl,?_⟩;have hz:(s.heap.push {cls:=.type "tuple_iterator",data:=.fields #[.ref l,.int 0 0]}).objs.size=s.heap.objs.size+1:=DO ..;show _/\_;have he:=BV (s.heap.push {cls:=.type "tuple_iterator",data:=.fields #[.ref l,.int 0 0]}) (o:={cls:=.type "enumerate",data:=.fields #[.none,.bool false,.ref s.heap.objs.size,rawInt 0,.none,.none]}) rfl;rw[hz] at he ⊢;exact⟨⟨_,he,rfl⟩,h _ he ⟨_,BH _ (12,_),rfl,rfl⟩ λb o x=>BH _ (BH _ x)⟩
end
theorem Inv.turnedL {X:Cx}{pins:AI}{σ:St}{H:Hp}{s:Shared}{h':Heap}{t':Nat}{ch:AF}(I:(4,s))(k:∀ b o,b∉ch->s.heap.get? b=some o->h'.get? b=some o)(hf:∀ b∈ch,Vo X pins H b):Inv X pins σ H {s with heap:=h',toks:=t'}:=by
 have O:∀ b u,H b=some u->b∉ch:=λb u e z=>by rw[(hf b z).1] at e;cases e
 refine I.step (g':=s.gens) (d':=s.drawn) (ch:=ch) (λb hb=>?_) (λb o _ _ F e _=>k b o F e) (λb o _ _ F e _=>⟨o.slots,k b o F e⟩) (λ_ _ _ _ n=>n)
  (λb o F e=>⟨o,k b o F e⟩) (λ_ _ e=>e) (λ_ _ _ e=>e) (λb ps e=>⟨#[],by rw[e];simp⟩) (λm hm=>?_) (λb u e=>?_) I.bare
 . obtain⟨_,h2,_,U,Y,Z⟩:0:=hf b hb;exact⟨U,h2,Y,Z⟩
 . obtain⟨o,es,ep,ho,r⟩:3:=hm;exact⟨o,es,ep,k _ o (λz=>(hf _ z).2.1 rfl) ho,r⟩
 refine(I.hok b u e).stay (λc v F q=>k c v ?_ q) (λ_ q=>q) λ_ _ q=>q;rcases F with z|z
 . rw[z];exact O b u e
 exact O c _ z
noncomputable def Ite (K:W.Frag)(a:Addr):It:=
 ⟨λi H=>∃ xs x,(A,xs)/\xs[i]? = some x,λi H v H'=>∃ t x,H t=none/\H'=(66,t,[.int i,x])/\v = .ref t/\∀ xs,(A,xs)->xs[i]? = some x,λi H=>∃ xs,(A,xs)/\xs.length=i⟩
theorem SV {P:Program}{w:World}{K:W.Frag}{a6:List Expr}{ek:Nat}{a7:Pos}(a it e:Addr)(a0:e≠it)(a2:a≠it)(aA:a≠e):Ye P w K (.Tuple a6 ek a7) (Ite K a) [e,it] e (λi h=>(∃ old,IsEnum h e it i old)/\h.IsTupleIter it a i) where
 mem:=by simp
 obj:=λi h st b hb=>by
  obtain⟨⟨old,h1⟩,o,h2,h3,h4⟩:420:=st;rcases A0A.mp hb with rfl|hb
  . exact⟨_,h1,λv z=>by cases z⟩
  have q:b=it:=by simpa using hb
  subst q;exact⟨o,h2,λv z=>by rw[h4] at z;cases z⟩
 keep:=λi h h' st k=>by obtain⟨⟨old,h1⟩,h2⟩:=st;exact⟨⟨old,k e 'c' _ h1⟩,h2.at λo q=>k it 'c' o q⟩
 item:=by
  intro X hP hw Z hc i pins s σ H E I hf st hg;subst hP hw Z;obtain⟨xs,x,U,F⟩:2:=hg;obtain⟨its,Y,p,hz⟩:1:=I.tuple U
  have aD:i<its.length:=by have:=(A01.mp F).1;rw[<- Y.length];exact this
  have D:=LV (prog:=X.prog) (w:=X.w) (A:=X.A.in1) (by simpa using I.ok.hd hc) it a a2 its.toArray;obtain⟨⟨old,he⟩,O⟩:=st;have a4:e<s.heap.objs.size:=BF he;have aE:it<s.heap.objs.size:=let ⟨_,q,_⟩:=O;BF q;refine wpAny_pyNext_enum_itemD D he ⟨O,p⟩ (by simpa using aD) a0 (by simp[a0,Ne.symm aA]) λv h1 tk hv ho aG hT hsz hk=>?_;obtain⟨u,hu,ru⟩:1:=Y.get F
  have aH:v=u:=by have a5:its.toArray[i]? = some v:=hv;rw[ID,hu] at a5;exact(BR a5).symm
  subst aH;refine⟨_,rfl,wpAny_letOwnedTupleGo_enum ho λh2 aC a1=>?_⟩;have a9:H s.heap.objs.size=none:=(61,_);have a8:h2.get? s.heap.objs.size=some {cls:=.type "tuple",data:=.seq #[.int i tk,v]}:=(a1.2 _ (EY a4)).trans hT
  have I1:Inv X pins σ ((66,s.heap.objs.size,[.int i,x])) {s with heap:=s.heap.push {cls:=.type "tuple",data:=.seq #[.int i tk,v]}}:=
   I.laid (t':=s.toks) (λb ob q=>Heap.get?_push_of_some _ q) (Nat.le_refl _) ⟨by simp[sizeLine_eq],[.int i tk,v],(32,⟨tk,rfl⟩,ru,.nil),_,Heap.get?_push_size _ rfl,rfl,⟨_,rfl⟩,rfl⟩
  have nT:∀ b∈[e,it],b≠s.heap.objs.size:=λb hb=>by
   rcases A0A.mp hb with rfl|hb
   . exact BN a4
   have q:b=it:=by simpa using hb
   subst q;exact BN aE
  have I2:Inv X pins σ ((66,s.heap.objs.size,[.int i,x])) {s with heap:=h2,toks:=tk+1}:=Inv.turnedL (s:={s with heap:=s.heap.push {cls:=.type "tuple",data:=.seq #[.int i tk,v]}}) (ch:=[e,it]) I1 (λb ob hb q=>?_) (λb hb=>?_)
  . refine⟨.ref s.heap.objs.size,_,I2,rfl,⟨_,x,a9,rfl,rfl,λys hy=>by rw[I.tuple_inj hy U];exact F⟩,⟨⟨_,by simpa using aC⟩,aG.1.at λo q=>(a1.2 it (Ne.symm a0)).trans q⟩,λb hb=>?_⟩;rw[Ap (nT b hb)];exact(hf b hb).1
  . have a3:b≠e:=λz=>hb (by simp[z]);have aB:b≠it:=λz=>hb (by simp[z]);rcases Heap.get?_push_cases q with ⟨rfl,rfl⟩|q
    . exact a8
    exact(a1.2 b a3).trans (hk b ob a3 aB q)
  obtain⟨f0,f1,f2,f3,f4,f5⟩:0:=hf b hb;exact⟨by rw[Ap (nT b hb)];exact f0,f1,f2,f3,f4,f5⟩
 done:=by
  intro X hP hw Z hc i pins s σ H E I hf st hg;subst hP hw Z;obtain⟨xs,U,F⟩:1:=hg;obtain⟨its,Y,p,hz⟩:1:=I.tuple U;obtain⟨⟨old,he⟩,O⟩:=st;have aF:its.toArray.size=i:=by rw[CB,<- Y.length];exact F
  have D:=LV (prog:=X.prog) (w:=X.w) (A:=X.A.in1) (by simpa using I.ok.hd hc) it a a2 its.toArray;rw[aF] at D;refine wpAny_pyNext_enum_endD D he ⟨O,p⟩ λh' hk=>⟨rfl,I.turnedL (t':=s.toks) (ch:=[e,it]) (λb o hb q=>hk b o (λz=>hb (by simp[z])) q) hf⟩
 self:=by intro A i s Q E st hQ;obtain⟨⟨old,he⟩,_⟩:=st;exact II he hQ
section
variable {X:Cx}{K:W.Frag}
noncomputable def ae3 (K:W.Frag)(vs:List V)(H:Hp)(R:It->Hp->Prop):Prop:=∃ a xs,vs=[.ref a]/\(A,xs)/\R (Ite K a) H
noncomputable def aM8 (K:W.Frag)(ta:TA):TI:=fun σ H R=>ta σ H λvs H1=>ae3 K vs H1 R
theorem J3:bootBuiltins "enumerate" = some (.type "enumerate"):=PyProof.Rows.Boot.«enumerate»
theorem ZG {e:Expr}{ta:TA}{p pos:Pos}{a0:List Expr}{Z:Nat}{a1:Pos}(hg:Gl X "enumerate")(hm:X.mg "enumerate" = none)(ha:PA X [e] ta)(hK:X.K=K:=by ac_nf)(hs:(29,[e])=[(false,(s,e))]:=by ac_nf) :
 PI X (.Tuple a0 Z a1) ((60,"enumerate",p,[e],[],pos)) (aM8 K ta):=by
 subst hK;intro pins s σ H R I h;refine Call_ (Ka I hg hm J3 (FA (BD (ha pos pins s σ H _ I h) λus F ⟨vs,H1,O,r1,q1⟩=>?_) hs rfl));obtain⟨a,xs,rfl,hq,q⟩:2:=q1;obtain⟨u,rfl,ru⟩:1:=Vals.one r1
 cases ru;obtain⟨its,rv,Y,hz⟩:1:=O.tuple hq;have U:a<F.heap.objs.size:=let ⟨_,q,_⟩:=Y;BF q;refine Xz Y λh' he a2 hk=>?_;refine II he ?_;refine⟨F.heap.objs.size+1,[F.heap.objs.size+1,F.heap.objs.size],_,_,H1,rfl,O.kept (t':=F.toks) hk,SV a F.heap.objs.size (F.heap.objs.size+1) (Nat.succ_ne_self _) (BN U) (BN (FE U)),⟨⟨_,he⟩,a2⟩,λb hb=>?_,q⟩;rcases A0A.mp hb with rfl|hb
 . exact O.fpOk (EZ _) (O.hok.fresh (EZ _))
 have e:b=F.heap.objs.size:=by simpa using hb
 subst e;exact O.fpOk (BE _) (109,_)
end
section
variable {K:W.Frag}{σ:St}{H:Hp}
theorem i_ienum {ts:TA}{R:It->Hp->Prop}(k:ts σ H λvs H1=>ae3 K vs H1 R):aM8 K ts σ H R:=k
theorem ZX {xs:List V}{a:Addr}{n m:Nat}{tb:TS}{D:Ends}(h:(A,xs))(Pv:Nat->St->Hp->Prop)(O:Pv 0 σ H)(U:∀ i σ' H',(24,i)->SqT K H' a xs)
 (Y:∀ i x σ' H' H2,xs[i]? = some x->(24,i)->Same H' H2->tb {D with nx:=Pv (i+1),ct:=Pv (i+1),bk:=D.nx} ((σ'.set n (K,i)).set m (some x)) H2) (hd:∀ σ' H',(24,xs.length)->D.nx σ' H') :
 ae3 K [.ref a] H λJ H1=>ae9 (ax6 K 2 (Oi (Jf n) (Oi (Jf m) aA4))) tb D σ J H1:=by
 refine⟨a,xs,rfl,h,λi k σ' H'=>k=xs.length-i/\i<=xs.length/\(24,i),⟨xs.length,by simp,Nat.zero_le _,O⟩,?_⟩;rintro i k σ' H' ⟨rfl,hi,p⟩;have g:=U i σ' H' p
 by_cases F:i<xs.length
 . refine .inr ⟨⟨xs,xs[i],g,BJ F⟩,Pv (i+1),fun σ2 H2 p2=>⟨xs.length-(i+1),by omega,rfl,F,p2⟩,λv H2 y=>?_⟩;obtain⟨t,x,Z,rfl,rfl,hx⟩:2:=y;exact⟨t,_,rfl,AK Ab,rfl,.int i,[x],rfl,x,[],rfl,rfl,Y i x σ' H' _ (hx xs g) p (AO Z)⟩
 have e:i=xs.length:=by omega
 subst e;exact .inl ⟨⟨xs,g,rfl⟩,hd σ' H' p⟩
theorem VH {ps:AB}{x:V}{n m:Nat}{tb:TS}{D:Ends}(h:(9,psD ps,x))(Pv:Nat->St->Hp->Prop)(h0:Pv 0 σ H)(O:∀ i σ' H',(24,i)->Fz H H')
 (hs:∀ i p v σ' H' H2,ps[i]? = some p->Is K H2 (prD p) v->(24,i)->Same H' H2->tb {D with nx:=Pv (i+1),ct:=Pv (i+1),bk:=D.nx} ((σ'.set n (K,i)).set m (some v)) H2) (hd:∀ σ' H',(24,ps.length)->D.nx σ' H') :
 ae3 K [x] H λJ H1=>ae9 (ax6 K 2 (Oi (Jf n) (Oi (Jf m) aA4))) tb D σ J H1:=by
 obtain⟨a,xs,rfl,Y,U⟩:2:=AS h;have hl:ps.length=xs.length:=by rw[<- AL U,BA]
 refine ZX Y Pv h0 (λi σ' H' p=>(O i σ' H' p).seq Y) (λi v σ' H' H2 hv p e=>?_) fun σ' H' p=>hd σ' H' (by rw[<- hl] at p;exact p);obtain ⟨d,F,Z⟩:1:=IsL.get (AM ((O i σ' H' p).trans e.fz) _ _ (Bv ps) U) hv;rw[BK] at F
 cases hn:ps[i]? with
 |none=>rw[hn] at F;cases F
 |some z=>
   rw[hn] at F
   cases F;exact hs i z v σ' H' H2 hn Z p e
end
end L2
namespace L2
open PySem PySem.Spec PyProof.Rows
variable {a r dx d:Addr}{e:Expr}{u:HO}{H H' H1 H2:Hp}{kvs:List (Key×V)}{ps:AB}{fs:List (Str×V)}{as:AF}{js:AE}{ws gs ms:AA}{xs:List V}{j i m:Nat}{x y z here:Str}{R:Str->Str->Prop}{ta te:TE}{g:TG}{v:V}{Q:VK}
section
variable {X:Cx}{K:W.Frag}
section
variable {lo hi:Option Int}
theorem K6 {b:Addr}{ys:List V}(h1:(A,xs))(h2:SqT K H b ys)(h:xs.length+ys.length<=sizeLine)(k:∀ p H',(5,H')->SqT K H' p (xs++ys)->(D,p)):X5 K (.ref a) (.ref b) H Q:=by
 by_cases F:xs=[]
 . subst F;exact(31,(31,⟨a,b,ys,rfl,rfl,h1,h2,k b H (Same.refl _) h2⟩))
 refine .inr (31,.inl ⟨a,b,xs,ys,rfl,rfl,h1,h2,F,h,λe=>?_,λ_ p hp=>k p _ (AO hp) (AK Ab)⟩);subst e;exact k a H (Same.refl _) (by rw[DE];exact h1)
theorem X8 (h:(A,xs))(k:∀ p H',(5,H')->SqT K H' p (Mi xs lo hi)->(D,p)):az9 K (.ref a) lo hi H Q:=by
 by_cases F:(79,0,lo)=0/\(123,hi)=xs.length
 . refine .inr (31,⟨a,xs,rfl,h,F,k a H (Same.refl _) ?_⟩)
   have e:Mi xs lo hi=xs:=by unfold Mi;rw[F.1,F.2,IS,Nat.sub_zero,CF]
   rw[e];exact h
 exact(98,⟨a,xs,rfl,h,F,λp hp=>k p _ (AO hp) (AK Ab)⟩)
theorem RI {x y:V}{d:PyData}{ds:AD}(O:(9,d,x))(U:(9,.list ds,y)\/(9,.tuple ds,y))(h1:PyData.canLayAll0 ds=true)(h2:d.canLay0=true)(F:d.depth<=100)(k:(t,(ds.any λe=>PyData.eqv e d))):Xb K false x y H Q:=.inr (31,⟨d,ds,O,U,h1,h2,F,k⟩)
end
theorem L7 {ds:AD}(h:(I,ds,xs))(lo hi:Option Int):IsL K H ((ds.drop (56,0,lo)).take ((56,ds.length,hi)-(56,0,lo))) (Mi xs lo hi):=by unfold Mi;rw[AL h];exact IsL.take _ (IsL.drop _ h)
end
noncomputable def jsD (js:AE):PyData:=.tuple (js.map λ(j:Nat)=>PyData.int (j:Int))
theorem MB (js:AE):frz (jsD js)=true:=by unfold jsD;simp only[frz];exact C7 _ (λ_=>by simp[frz]) js
structure Trl (ps:AB)(x:Str)(js:AE)(y:Str)(os:AA):Prop where
 len:os.length=js.length
 hd:(os++[y])[0]? = some x
 ed:∀(i j:Nat),js[i]? = some j->∃ a b,(os++[y])[i]? = some a/\(os++[y])[i+1]? = some b/\ps[j]? = some (a,b)
 nd:(os++[y]).Nodup
theorem Trl.nil (ps:AB)(x:Str):Trl ps x [] x []:=⟨rfl,rfl,λi j h=>by simp at h,by simp⟩
theorem Trl.snoc {os:AA}(h:Trl ps x js y os)(Y:ps[j]? = some (y,z))(hz:z∉os++[y]):Trl ps x (js++[j]) z (os++[y]):=by
 refine⟨by simp[h.len],?_,λi k F=>?_,?_⟩
 . rw[List.getElem?_append_left 'c'];exact h.hd
 . by_cases hi:i<js.length
   . rw[FK hi] at F;obtain⟨a,b,h1,h2,O⟩:2:=h.ed i k F;have l:=h.len;refine⟨a,b,?_,?_,O⟩
     . rw[List.getElem?_append_left (by simp;omega)];exact h1
     rw[List.getElem?_append_left (by simp;omega)];exact h2
   have U:i=js.length:=by have:=(A01.mp F).1;rw[BL,CU] at this;omega
   subst U;have e:k=j:=by simpa using F.symm
   subst e;have l:=h.len;refine⟨y,z,?_,?_,Y⟩
   . rw[List.getElem?_append_left (by simp;omega),<- l];simp
   rw[<- l];simp
 rw[A1D];refine⟨h.nd,by simp,λa ha b hb e=>?_⟩;have:b=z:=by simpa using hb
 subst this;subst e;exact hz ha
theorem Trl.way:∀ {js:AE} {x y:Str} {os:AA},Trl ps x js y os->x=y\/Way ps x y:=by
 intro js x y os h;have l:=h.len
 suffices g:∀ i,i<=js.length->∀ z,(os++[y])[i]? = some z->z=x\/Way ps x z by
  rcases g js.length (Nat.le_refl _) y (by rw[<- l];simp) with e|e
  . exact .inl e.symm
  exact .inr e
 intro i
 induction i with
 |zero=>intro _ z hz;rw[h.hd] at hz;exact .inl (BR hz).symm
 |succ i ih=>
   intro hi z hz;obtain⟨j,hj⟩:∃ j,js[i]? = some j:=⟨js[i]'∅,BJ _⟩;obtain⟨a,b,h1,h2,F⟩:2:=h.ed i j hj;rw[hz] at h2
   cases h2;rcases ih ∅ a h1 with e|e
   . subst e;exact .inr (.one (BG F))
   exact .inr (e.snoc (BG F))
theorem Way.more {p:Str×Str}(h:Way (ps++[p]) x y):(U,y)\/((x=p.1\/(U,p.1))/\(y=p.2\/Way ps p.2 y)):=by
 induction h with
 |@one a b e=>
   rcases A0B.mp e with e|e
   . exact .inl (.one e)
   have:(a,b)=p:=by simpa using e
   subst this;exact .inr ⟨.inl rfl,.inl rfl⟩
 |@cons a c b e _ ih=>
   rcases A0B.mp e with e|e
   . rcases ih with g|⟨F,O⟩
     . exact .inl (.cons e g)
     refine .inr ⟨.inr ?_,O⟩;rcases F with rfl|F
     . exact .one e
     exact .cons e F
   have:(a,c)=p:=by simpa using e
   subst this;rcases ih with g|⟨F,O⟩
   . exact .inr ⟨.inl rfl,.inr g⟩
   exact .inr ⟨.inl rfl,O⟩
theorem S4 {p:Str×Str}(h:∀ x,¬ (U,x))(h1:¬ p.2=p.1)(h2:¬ Way ps p.2 p.1):∀ x,¬ Way (ps++[p]) x x:=λx g=>by
 rcases g.more with g|⟨O,F⟩
 . exact h x g
 rcases O with rfl|O
 . rcases F with F|F
   . exact h1 F.symm
   exact h2 F
 rcases F with rfl|F
 . exact h2 O
 exact h2 (F.trans O)
structure WyI (ps:AB)(x:Str)(ks ws:AA):Prop where
 nd:ks.Nodup
 has:x∈ks
 way:∀ y∈ks,y=x\/(U,y)
 line:∀ z∈ws,z∈ks
 shut:∀ z∈ks,z∉ws->∀ y,(z,y)∈ps->y∈ks
 few:ws.length<=ks.length
theorem WyI.le {ks:AA}(h:WyI ps x ks ws):ks.length<=ps.length+1:=by
 have:=Co (ys:=x :: ps.map (·.2)) h.nd λy F=>by
  rcases h.way y F with e|e
  . exact e ▸ BQ
  exact BP _ e.right
 rwa[BO,BA] at this
structure WyJ (ps:AB)(x here:Str)(ks ws gs ms:AA)(i:Nat):Prop where
 nd:gs.Nodup
 way:∀ y∈gs,y=x\/(U,y)
 line:∀ z∈ms,z∈gs
 keep:∀ z∈ks,z∈gs
 keepL:∀ z∈ws,z∈ms
 new:∀ z∈gs,z∈ks\/z∈ms
 seen:∀ j<i,∀ y,ps[j]? = some (here,y)->y∈gs
 len:gs.length+ws.length=ks.length+ms.length
theorem WyJ.le {ks:AA}(h:WyJ ps x here ks ws gs ms i):gs.length<=ps.length+1:=by
 have:=Co (ys:=x :: ps.map (·.2)) h.nd λy F=>by
  rcases h.way y F with e|e
  . exact e ▸ BQ
  exact BP _ e.right
 rwa[BO,BA] at this
theorem WyJ.step {ks:AA}{p:Str×Str}(h:WyJ ps x here ks ws gs ms i)(O:here∈gs)(hp:ps[i]? = some p)(h1:p.1=here)(h2:p.2∉gs):WyJ ps x here ks ws (gs++[p.2]) (ms++[p.2]) (i+1):=by
 have hm:(here,p.2)∈ps:=by rw[<- h1];exact BG hp
 refine⟨?_,λy F=>?_,λz hz=>?_,λz hz=>BZ _ (h.keep z hz),λz hz=>BZ _ (h.keepL z hz),λz hz=>?_,λj Y y e=>?_,?_⟩
 . rw[A1D];refine⟨h.nd,by simp,λa ha b hb e=>?_⟩;have:b=p.2:=by simpa using hb
   subst this;subst e;exact h2 ha
 . rcases A0B.mp F with F|F
   . exact h.way y F
   have:y=p.2:=by simpa using F
   subst this;rcases h.way here O with rfl|hw
   . exact .inr (.one hm)
   exact .inr (hw.snoc hm)
 . rcases A0B.mp hz with hz|hz
   . exact BZ _ (h.line z hz)
   exact CI _ hz
 . rcases A0B.mp hz with hz|hz
   . rcases h.new z hz with e|e
     . exact .inl e
     exact .inr (BZ _ e)
   exact .inr (CI _ hz)
 . by_cases U:j=i
   . subst U;rw[hp] at e
     cases e;exact List.mem_append_right _ 'c'
   exact BZ _ (h.seen j ∅ y e)
 rw[BL,BL,CU];have:=h.len;omega
theorem WyJ.skip {ks:AA}{p:Str×Str}(h:WyJ ps x here ks ws gs ms i)(hp:ps[i]? = some p)(h1:p.1=here->p.2∈gs):WyJ ps x here ks ws gs ms (i+1):=by
 refine⟨h.nd,h.way,h.line,h.keep,h.keepL,h.new,λj O y e=>?_,h.len⟩
 by_cases F:j=i
 . subst F;rw[hp] at e
   cases e;exact h1 rfl
 exact h.seen j ∅ y e
theorem WyJ.done {ks:AA}(I:WyI ps x ks (here :: ws))(h:WyJ ps x here ks ws gs ms ps.length):WyI ps x gs ms:=by
 refine⟨h.nd,h.keep x I.has,h.way,h.line,λz hz hm y O=>?_,?_⟩
 . by_cases e:z=here
   . subst e;obtain⟨j,F,U⟩:=ED O;exact h.seen j F y (by rw[BJ F,U])
   have Y:z∈ks:=by
    rcases h.new z hz with q|q
    . exact q
    exact absurd q hm
   refine h.keep y (I.shut z Y (λq=>?_) y O);rcases A0A.mp q with q|q
   . exact e q
   exact hm (h.keepL z q)
 have:=h.len;have:=I.few;rw[BO] at this;omega
theorem WyI.all {ks:AA}(h:WyI ps x ks [])(g:(U,y)):y∈ks:=
 Way.shut (S:=λy=>y∈ks) (λy F=>h.shut x h.has 'c' y F) (λz y hz F=>h.shut z hz 'c' y F) g
theorem XX {ns:AA}(hz:z∉ns)(h:ns.length=as.length):Eo (Iq ns as) (Sum.inr z:Key) (.ref a)=Iq (ns++[z]) (as++[a]):=by
 rw[Pw h];unfold Eo;rw[AZ];rw[A1E];rintro⟨kv,U,e⟩;obtain⟨p,hp,rfl⟩:1:=A0D.mp U;have F:(Sum.inr p.1:Key)=Sum.inr z:=GR e;have O:p.1=z:=by injection F
 exact hz (O ▸ (FW hp).1)
theorem Gb:∀ {ns:AA} {as:AF} {z:Str},z∉ns->Cr (Iq ns as) (Sum.inr z:Key)=none
 | [],_,_,_=>rfl
 |n :: ns,[],_,_=>rfl
 |n :: ns,a :: as,z,h=>by
   show Cr ((Sum.inr n,V.ref a) :: Iq ns as) _=_;rw[B9 (by intro q;injection q with q;exact h (q ▸ BQ))]
   exact Gb λq=>h (BP _ q)
section
variable {K:W.Frag}{σ:St}{td ty:TE}
noncomputable def ao0 (ty:TE)(σ:St)(x:V)(H1:Hp)(Q:VK):Prop:=∃ a,x = .ref a/\IsD H1 a/\ty σ H1 λy H2=>∃ o,DGet H2 a y o/\Q (o.getD .non) H2
theorem i_dget1 (k:td σ H λx H1=>ao0 ty σ x H1 Q):aj9 td ty σ H Q:=k
theorem UL (h:H a=(6,kvs))(k:ty σ H λy H2=>∃ o,DGet H2 a y o/\Q (o.getD .non) H2):ao0 ty σ (.ref a) H Q:=⟨a,rfl,.inl ⟨kvs,.inl h⟩,k⟩
theorem TV (h:H a=(6,kvs))(k:Q ((Cr kvs (Sum.inr z:Key)).getD .non) H):∃ o,DGet H a (.str z) o/\Q (o.getD .non) H:=⟨_,DGet.k (k:=Sum.inr z) h,k⟩
theorem QE {ks:AA}{ts:AF}(h:H r=(6,Iq ks ts))(hl:ts.length=ks.length)(k:(t,(!decide (z∈ks)))):Xb K true (.str z) (.ref r) H Q:=by
 refine(31,.inl ⟨r,Cr (Iq ks ts) (Sum.inr z:Key),rfl,DGet.k (k:=Sum.inr z) h,?_⟩)
 by_cases e:z∈ks
 . obtain⟨i,hi,O⟩:=ED e
   have:(Cr (Iq ks ts) (Sum.inr z:Key)).isSome=true:=by
    suffices g:∀(ks:AA) (ts:AF),ts.length=ks.length->z∈ks->(Cr (Iq ks ts) (Sum.inr z:Key)).isSome=true from g ks ts hl e
    intro ks
    induction ks with
    |nil=>intro ts _ h;cases h
    |cons c ks ih=>
      intro ts hl hm
      cases ts with
      |nil=>cases hl
      |cons t ts=>
        by_cases F:c=z
        . subst F;show(Cr ((Sum.inr c,V.ref t) :: Iq ks ts) _).isSome=true;rw[Bc rfl];rfl
        show(Cr ((Sum.inr c,V.ref t) :: Iq ks ts) _).isSome=true;rw[B9 (by intro q;injection q with q;exact F q)]
        refine ih ts (by simpa using hl) ?_;rcases A0A.mp hm with q|q
        . exact absurd q.symm F
        exact q
   rw[this];simpa[e] using k
 rw[Gb e];simpa[e] using k
theorem i_andV {tb:TE}(k:ta σ H λx H1=>∃ c,x = .bl c/\if c=true then tb σ H1 Q else Q (.bl false) H1):aJ6 ta tb σ H Q:=k
theorem i_orV {tb:TE}(k:ta σ H λx H1=>∃ c,x = .bl c/\if c=true then Q (.bl true) H1 else tb σ H1 Q):aU5 ta tb σ H Q:=k
theorem i_notV (k:ta σ H λx H1=>∃ c,x = .bl c/\Q (.bl (!c)) H1):aM9 ta σ H Q:=k
end
theorem Same.rd (e:(5,H'))(h:Rd H a u):Rd H' a u:=by
 rcases h with h|⟨o,h⟩
 . exact .inl (e _ _ h)
 exact .inr ⟨o,e _ _ h⟩
noncomputable def Keep (as:AF)(H H':Hp):Prop:=(∀ b o,b∉as->H b=some o->H' b=some o)/\∀ a∈as,∀ u,Rd H a u->Rd H' a u
theorem Keep.refl (as:AF)(H:Hp):Keep as H H:=⟨λ_ _ _ h=>h,λ_ _ _ h=>h⟩
theorem Keep.trans (a:Keep as H H1)(b:Keep as H1 H2):Keep as H H2:=⟨λc o n h=>b.1 c o n (a.1 c o n h),λc F u h=>b.2 c F u (a.2 c F u h)⟩
theorem Same.keep (e:(5,H'))(as:AF):Keep as H H':=⟨λb o _ h=>e b o h,λa _ u h=>e.rd h⟩
theorem Keep.freeze {o:Obj}(ha:a∈as)(h:H a=some u)(hu:∀ o' U,u ≠ .frz o' U):Keep as H ((B,a,.frz o u)):=by
 refine⟨λb q hb e=>?_,λb hb w e=>?_⟩
 . have O:b≠a:=λz=>by subst z;exact hb ha
   rw[Ap O];exact e
 by_cases F:b=a
 . subst F;rcases e with e|⟨o',e⟩
   . rw[h] at e
     cases e;exact .inr ⟨o,Ab⟩
   rw[h] at e
   cases e;exact(71,hu _ _)
 rcases e with e|⟨o',e⟩
 . exact .inl (by rw[Ap F];exact e)
 exact .inr ⟨o',by rw[Ap F];exact e⟩
theorem Keep.rd (k:Keep as H H')(h:Rd H a u):Rd H' a u:=by
 by_cases ha:a∈as
 . exact k.2 a ha u h
 rcases h with h|⟨o,h⟩
 . exact .inl (k.1 _ _ ha h)
 exact .inr ⟨o,k.1 _ _ ha h⟩
theorem Keep.fz (k:Keep as H H'):Fz H H':=λa xs h=>k.rd h
theorem Same.then (e:(5,H1))(ha:∀ a∈as,H a=none)(k:Keep as H1 H2):Same H H2:=λb o h=>k.1 b o (λhb=>by rw[ha b hb] at h;cases h) (e b o h)
theorem Keep.lst {p:Addr}(k:Keep as H H1)(e:ExtBut p H1 H2)(hp:H p=none)(O:p∉as):Keep as H H2:=by
 refine⟨λb o hb h=>e b o (λz=>?_) (k.1 b o hb h),λa ha u h=>?_⟩
 . subst z;rw[hp] at h
   cases h
 have F:a≠p:=λz=>O (z ▸ ha);rcases k.2 a ha u h with g|⟨o,g⟩
 . exact .inl (e _ _ F g)
 exact .inr ⟨o,e _ _ F g⟩
structure TabR (H:Hp)(r:Addr)(ns:AA)(as:AF)(R:Str->Str->Prop):Prop where
 len:as.length=ns.length
 top:Rd H r (.dK (Iq ns as))
 row:∀(i:Nat) (z:Str) (a:Addr),ns[i]? = some z->as[i]? = some a->∃ ks:AA,Rd H a (.dK (Hf ks))/\ks.Nodup/\(∀ y∈ks,y∈ns)/\∀ y,y∈ks↔R z y
theorem Tab.toR {ns:AA}(h:Tab H r ns as R):TabR H r ns as R:=
 ⟨h.len,.inl h.top,λi z a hz ha=>let ⟨ks,h1,h2⟩:=h.row i z a hz ha;⟨ks,.inl h1,h2⟩⟩
theorem TabR.keep {bs:AF}{ns:AA}(h:TabR H r ns as R)(k:Keep bs H H'):TabR H' r ns as R:=
 ⟨h.len,k.rd h.top,λi z a hz ha=>let ⟨ks,h1,h2⟩:=h.row i z a hz ha;⟨ks,k.rd h1,h2⟩⟩
theorem TabR.same {ns:AA}(h:TabR H r ns as R)(e:(5,H')):TabR H' r ns as R:=h.keep (e.keep [])
theorem TabR.at {ns:AA}(h:TabR H r ns as R)(O:x∈ns):∃(i:Nat) (a:Addr),ns[i]? = some x/\as[i]? = some a:=by
 obtain⟨i,hi,e⟩:=ED O;have F:i<as.length:=by rw[h.len];exact hi
 exact⟨i,as[i],by rw[BJ hi,e],BJ F⟩
section
variable {K:W.Frag}{σ:St}{ns:AA}
theorem PX (h:Rd H a (.dK kvs))(e:Cr kvs (Sum.inr z:Key)=some v)(k:Q v H):Pk K (.ref a) (.str z) H Q:=.inr ⟨a,v,rfl,.inl ⟨kvs,Sum.inr z,h,rfl,e.symm⟩,k⟩
theorem Wv (h:TabR H r ns as R)(hn:ns.Nodup)(F:ns[i]? = some x)(ha:as[i]? = some a)(k:(C,a,H)):Pk K (.ref r) (.str x) H Q:=PX h.top (Ew hn F ha) k
theorem ZR {ks:AA}(h:Rd H a (.dK (Hf ks)))(k:(t,(decide (y∈ks)))):Xb K false (.str y) (.ref a) H Q:=by
 refine(31,.inl ⟨a,Cr (Hf ks) (Sum.inr y:Key),rfl,.inl ⟨_,Sum.inr y,h,rfl,rfl⟩,?_⟩);rw[Me]
 by_cases e:y∈ks
 . simpa[e] using k
 simpa[e] using k
theorem Rz {ks:AA}(h:Rd H a (.dK (Hf ks)))(k:(t,(!decide (y∈ks)))):Xb K true (.str y) (.ref a) H Q:=by
 refine(31,.inl ⟨a,Cr (Hf ks) (Sum.inr y:Key),rfl,.inl ⟨_,Sum.inr y,h,rfl,rfl⟩,?_⟩);rw[Me]
 by_cases e:y∈ks
 . simpa[e] using k
 simpa[e] using k
theorem Zs {R:It->Hp->Prop}(h:Rd H a (.dK kvs))(ha:a∈as)(k:∀ o H',Keep as H H'->H' a=(59,o,.dK kvs)->R (Itd a o kvs) H'):Ej K (.ref a) H R:=by
 rcases h with h|⟨o,h⟩
 . exact ZD h λo=>k o _ (Keep.freeze ha h λ_ _ z=>by cases z) Ab
 exact ZT h (k o H (Keep.refl _ _) h)
end
noncomputable def clR (ns:AA)(ps:AB)(x:Str):AB:=(ns.filter λy=>Ac ps x y).map λy=>(x,y)
noncomputable def clP (ns:AA)(ps:AB):AB:=ns.flatMap (clR ns ps)
noncomputable def thB (ns:AA)(ps:AB)(p:Str×Str):Bool:=ns.any λz=>Ac ps p.1 z&&Ac ps z p.2
noncomputable def baP (ns:AA)(ps:AB):AB:=(clP ns ps).filter λp=>!thB ns ps p
noncomputable def unB (ps:AB)(x y:Str):Bool:=!Ac ps x y && !Ac ps y x
noncomputable def unR (ns:AA)(ps:AB)(i:Nat):AB:=((ns.drop (i+1)).filter λy=>unB ps (L,"") y).map λy=>((L,""),y)
noncomputable def unK (ns:AA)(ps:AB)(k:Nat):AB:=(List.range k).flatMap (unR ns ps)
noncomputable def unP (ns:AA)(ps:AB):AB:=unK ns ps ns.length
theorem mem_clR {ns:AA}{p:Str×Str}:p∈clR ns ps x↔p.1=x/\p.2∈ns/\Way ps x p.2:=by
 unfold clR;rw[A0D];constructor
 . rintro⟨y,F,rfl⟩;rw[A0M,wayB_iff] at F;exact⟨rfl,F⟩
 rintro⟨h1,h2⟩;refine⟨p.2,?_,by rw[<- h1]⟩;rw[A0M,wayB_iff];exact h2
theorem mem_clP {ns:AA}{p:Str×Str}:p∈clP ns ps↔p.1∈ns/\p.2∈ns/\Way ps p.1 p.2:=by
 unfold clP;rw[A2O];constructor
 . rintro⟨x,F,hp⟩;obtain⟨rfl,h⟩:=mem_clR.mp hp;exact⟨F,h⟩
 rintro⟨h1,h⟩;exact⟨p.1,h1,mem_clR.mpr ⟨rfl,h⟩⟩
theorem VN (ns:AA)(ps:AB)(x:Str):(clR ns ps x).length<=ns.length:=by unfold clR;rw [BA];exact CM _ _
theorem R3 {α β:Type}(f:α->List β)(n:Nat)(h:∀ a,(f a).length<=n):∀ l:List α,(l.flatMap f).length<=l.length*n
 | []=>by simp
 |a :: l=>by rw[DD,BL,BO,EC];have:=R3 f n h l;have:=h a;omega
theorem SI (ns:AA)(ps:AB):(clP ns ps).length<=ns.length*ns.length:=R3 _ _ (VN ns ps) ns
theorem RE (ns:AA)(ps:AB)(i:Nat):(unR ns ps i).length<=ns.length:=by unfold unR;rw[BA];exact BI (CM _ _) (by rw[CL];omega)
theorem XA (ns:AA)(ps:AB)(k:Nat):(unK ns ps k).length<=k*ns.length:=by have:=R3 (unR ns ps) ns.length (RE ns ps) (List.range k);rwa[DN] at this
theorem ag8 (ns:AA)(ps:AB)(k:Nat):unK ns ps (k+1)=unK ns ps k++unR ns ps k:=by unfold unK;rw[List.range_succ,EM];simp
theorem TJ {ns:AA}{k:Nat}{p:Str×Str}(O:k<=ns.length)(h:p∈unK ns ps k):p.1∈ns/\p.2∈ns/\unB ps p.1 p.2=true:=by unfold unK at h;rw[A2O] at h;obtain⟨i,hi,h⟩:1:=h;have hi:=A1W.mp hi;unfold unR at h;obtain⟨y,F,rfl⟩:1:=A0D.mp h;rw[A0M] at F;refine⟨?_,FQ F.1,F.2⟩;exact BG (Fb (i:=i) ∅)
theorem Px {ns:AA}{p:Str×Str}(h:p∈(O,ns)):p.1∈ns/\p.2∈ns/\unB ps p.1 p.2=true:=TJ (BE _) h
theorem QV {ns ks:AA}{p:Str×Str}(h1:∀ y∈ks,y∈ns)(h2:∀ y,y∈ks↔Way ps p.1 y):((ks.map λz=>Ac ps z p.2).any id)=thB ns ps p:=by
 unfold thB;rw[DQ,A1E,A1E];constructor
 . rintro⟨b,hb,e⟩;obtain⟨z,hz,rfl⟩:1:=A0D.mp hb;exact⟨z,h1 z hz,by rw[CA];exact⟨wayB_iff.mpr ((h2 z).mp hz),e⟩⟩
 rintro⟨z,hz,e⟩;rw[CA] at e;exact⟨_,A0D.mpr ⟨z,(h2 z).mpr (wayB_iff.mp e.1),rfl⟩,e.2⟩
section
variable {K:W.Frag}{σ:St}
theorem UQ {α:Type}{J:It}{G:Hp->Prop}{tt:TT}{k:Nat}(hw:Fg J xs G)(bs:AF)(hb:∀ a∈bs,H a≠none)(as:List α)(hl:as.length=xs.length)(t:α->Bool)(f:α->PyData)(hf:∀ a,frz (f a)=true)(hz:xs.length<=1000000)(hG:∀ H',Keep bs H H'->G H')
 (hs:∀(i:Nat) a v H1 (R:VK) (R':Hp->Prop),as[i]? = some a->xs[i]? = some v->Keep bs H H1->(t a=true->∀ y H2,Keep bs H1 H2->Is K H2 (f a) y->R y H2)->(t a=false->∀ H2,Keep bs H1 H2->R' H2) ->
  g v ((30,k)++Ob σ js) H1 fun σ2 H2=>tt σ2 H2 λb Z=>if b=true then te σ2 Z R else R' Z)
 (hd:∀ p ys H',H p=none->Keep bs H H'->H' p=(2,ys)->IsL K H' ((as.filter t).map f) ys->(D,p)):M7 k js g tt te σ J H Q:=by
 have Y:∀ p,H p=none->p∉bs:=λp hp hm=>hb p hm hp;refine Hi hw (λp i acc H1=>Keep bs H H1/\IsL K H1 (((as.take i).filter t).map f) acc) (λp H' hp e h=>⟨e.keep bs,by simp only[List.take_zero,List.filter_nil,List.map_nil];exact .nil⟩) (λp i acc H1 h=>hG H1 h.1) (λp i x acc H1 hp hx hi U ha ⟨e,O⟩=>?_) λp acc H1 hp ha U ⟨e,O⟩=>?_
 . have a0:i<as.length:=by omega
   obtain⟨a,hai⟩:∃ a,as[i]? = some a:=⟨as[i],BJ a0⟩;have ht:as.take (i+1)=as.take i++[a]:=by rw[CC,hai];rfl
   refine hs i a x H1 _ _ hai hx e (λh y H2 F hy=>?_) λh H2 F=>?_
   . have h2:=F.1 _ _ (Y p hp) ha;refine Lw hz hi U h2 λH' e' h'=>⟨(e.trans F).lst e' hp (Y p hp),?_⟩;rw[ht,DX,BU];have fz:=e'.fzL h2;refine IsL.append (IsL.fz (F.fz.trans fz) _ _ (C7 f hf _) O) ?_;simp only[List.filter_cons,h,if_true,List.filter_nil,List.map_cons,List.map_nil];exact .one (Is.fz fz _ _ (hf a) hy)
   refine Rc hi U (F.1 _ _ (Y p hp) ha) ⟨e.trans F,?_⟩;rw[ht,DX,BU];simp only[List.filter_cons,h,Bool.false_eq_true,if_false,List.filter_nil,List.map_nil,List.append_nil];exact IsL.fz F.fz _ _ (C7 f hf _) O
 refine hd p acc H1 hp e ha ?_;rw[<- hl,CF] at O;exact O
theorem QF {tt:TT}{k:Nat}{x:V}(h:(9,psD ps,x))(bs:AF)(hb:∀ a∈bs,H a≠none)(t:Str×Str->Bool)(f:Str×Str->PyData)(hf:∀ a,frz (f a)=true)(hz:ps.length<=1000000)
 (hs:∀(i:Nat) a v H1 (R:VK) (R':Hp->Prop),ps[i]? = some a->Is K H1 (prD a) v->Keep bs H H1->(t a=true->∀ y H2,Keep bs H1 H2->Is K H2 (f a) y->R y H2)->(t a=false->∀ H2,Keep bs H1 H2->R' H2) ->
  g v ((30,k)++Ob σ js) H1 fun σ2 H2=>tt σ2 H2 λb F=>if b=true then te σ2 F R else R' F)
 (hd:∀ p ys H',H p=none->Keep bs H H'->H' p=(2,ys)->IsL K H' ((ps.filter t).map f) ys->(D,p)):Ej K x H λJ H1=>M7 k js g tt te σ J H1 Q:=by
 obtain⟨a,xs,rfl,Y,U⟩:2:=AS h;have hl:ps.length=xs.length:=by rw[<- AL U,BA]
 refine Rb Y (UQ (K:=K) (Et (xs:=xs)) bs hb ps hl t f hf ∅ (λH' e=>e.fz.seq Y) (λi z v H1 R R' hz hv e hR a0=>?_) hd);obtain⟨d,O,Z⟩:1:=IsL.get (AM e.fz _ _ (Bv ps) U) hv;rw[BK,hz] at O
 cases O;exact hs i z v H1 R R' hz Z e hR a0
theorem Tab.some {ns:AA}(h:Tab H r ns as R):∀ a∈as,H a≠none:=λa ha e=>by
 obtain⟨i,hi,O⟩:=ED ha;have F:i<ns.length:=by rw[<- h.len];exact hi
 obtain⟨ks,h1,_⟩:1:=h.row i ns[i] a (BJ F) (by rw[BJ hi,O]);rw[e] at h1
 cases h1
theorem YO {ns:AA}(h:i<=ns.length):Mi (ns.map V.str) (some ((i:Nat):Int)) none=(ns.drop i).map V.str:=by rw[Ih ∅ (by rw[BA];omega),FU];rfl
end
theorem Sj {α:Type}{p:α->Bool}:∀ {l:List α} {x:α},x∈l->p x=false->(l.filter p).length<l.length
 |a :: l,x,hx,h=>by
   rcases A0A.mp hx with rfl|hx
   . rw[CO,h];exact Nat.lt_succ_of_le (CM _ _)
   rw[CO];have:=Sj hx h
   split
   . rw[BO,BO];omega
   rw[BO];omega
theorem Ma (Ls:List AA):Li (Ls.map nmD)=true:=C7 _ Ks Ls
theorem IsL.bl_eq {α:Type}{K:W.Frag}{H:Hp}{f:α->Bool}:∀ {as:List α} {vs:List V},(I,(as.map λa=>PyData.bool (f a)),vs)->vs=(as.map f).map V.bl
 | [],vs,h=>by simp only[List.map_nil,IsL] at h;exact h
 |n :: ns,vs,h=>by simp only[List.map_cons,IsL,Is] at h;obtain⟨v,r,rfl,rfl,F⟩:2:=h;rw[IsL.bl_eq F];rfl
theorem Vp {α:Type}{K:W.Frag}{σ:St}{J:It}{G:Hp->Prop}{k:Nat}(hw:Fg J xs G)(as:List α)(hl:as.length=xs.length)(f:α->Bool)(hz:xs.length<=1000000)(U:∀ H',(5,H')->G H')
 (Z:∀(i:Nat) a v H1 (R:VK),as[i]? = some a->xs[i]? = some v->(5,H1)->(∀ H2,Same H1 H2->R (.bl (f a)) H2)->g v ((30,k)++Ob σ js) H1 fun σ2 H2=>te σ2 H2 R)
 (hd:∀ p H',H p=none->(5,H')->SqL K H' p ((as.map f).map V.bl)->(D,p)):M7 k js g ad8 te σ J H Q:=by
 refine Ep (K:=K) hw as hl (λ_=>true) (λa=>PyData.bool (f a)) (λ_=>rfl) hz U (λi a v H1 R R' ha hv e Y a0=>?_) (λp ys H' hp e h F=>?_)
 . exact Z i a v H1 R ha hv e λH2 O=>Y rfl _ H2 O IY
 rw[Dy] at F;have:=IsL.bl_eq F;subst this;exact hd p H' hp e (AJ h)
section
variable {prog:Program}{w:World}{A:Around}{E:AG}{s:Shared}
theorem Yl (xs:Array Value):((List.range xs.size).filterMap λ(m:Nat)=>xs[(((xs.size:Int)-1)+(m:Int)*(-1)).toNat]?).toArray=xs.toList.reverse.toArray:=by
 congr 1;simp only[<- Array.getElem?_toList,<- Array.length_toList];generalize xs.toList=l
 have e:∀ k ≤ l.length,(List.range k).filterMap (λ(m:Nat)=>l[(((l.length:Nat):Int)-1+(m:Int)*(-1)).toNat]?)=l.reverse.take k:=by
  intro k
  induction k with
  |zero=>intro _;rfl
  |succ k ih=>
    intro O;rw[List.range_succ,List.filterMap_append,ih ∅,CC];congr 1;have F:(((l.length:Nat):Int)-1+(k:Int)*(-1)).toNat=l.length-1-k:=by omega
    rw[List.filterMap_cons,F,List.getElem?_reverse ∅,BJ ∅];rfl
 rw[e _ (BE _),FN (by rw[FM];omega)]
theorem Th {U:Addr}{tk:Tok}{n:Nat}{Q:Int×Int×Nat->Shared->Prop}(hs:s.heap.IsSliceOf U .none .none (.int (-1) tk))(h:Q ((n:Int)-1,-1,n) s):wpAny ((G,w)) A (Builtin.Slice.sliceApplied (.ref U) (pure (n:Int))) Q E s:=by
 obtain⟨os,F,_,O⟩:1:=id hs;unfold Builtin.Slice.sliceApplied Builtin.Slice.sliceFields;refine AY (AY (CW F O (x:=.none) rfl ?_));refine AY (CW F O (x:=.none) rfl ?_);refine AY (CW F O (x:=.int (-1) tk) rfl (BC ?_));refine(126,.int (-1) tk,?_);show(M,_,_,(if((-1:Int)==0)=true then _ else _),_,_)
 rw[AZ nofun];refine(126,.none,?_);refine(126,.none,?_);refine(19,?_)
 have Y:Builtin.Slice.sliceAdjust none none (-1) (n:Int)=((n:Int)-1,-1):=by unfold Builtin.Slice.sliceAdjust;simp
 have Z:Builtin.Slice.slicePlaces ((n:Int)-1) (-1) (-1)=n:=by
  unfold Builtin.Slice.slicePlaces;simp
  try omega
 show(M,_,_,(match Builtin.Slice.sliceAdjust none none (-1) (n:Int) with | (lo,hi)=>pure (lo,(-1:Int),Builtin.Slice.slicePlaces lo hi (-1))),_,_)
 rw[Y];show(M,_,_,pure ((n:Int)-1,(-1:Int),Builtin.Slice.slicePlaces ((n:Int)-1) (-1) (-1)),_,_);rw[Z];exact BC h
theorem PR {t O:Addr}{items:Array Value}{tk:Tok}{Q:AG}(F:IsTup s.heap t items)(U:s.heap.IsSliceOf O .none .none (.int (-1) tk))
 (h:Q (.ref s.heap.objs.size) {s with heap:=s.heap.push {cls:=.type "tuple",data:=.seq items.toList.reverse.toArray}}) (hz:items.size<=sizeLine):wpAny ((G,w)) A (getItem (.ref t) (.ref O)) Q E s:=by
 obtain⟨os,Y,Z,g3⟩:1:=id U;have a0:s.TypeIs (.ref O) "slice":=⟨os,Y,Z⟩
 have hok:sizeOk (.seq items.toList.reverse.toArray):=by show items.toList.reverse.toArray.size<=sizeLine;simpa using hz
 unfold getItem
 try with_reducible refine DF ?_
 first | refine(19,?_) | skip
 refine AY (IL F.typeIs nofun ?_);refine AY (FG (name:=Str.ofString "__getitem__") F.typeIs DZ (ET DZ F.typeIs HI ?_ (IA _ _)));show(M,_,_,(Builtin.Tuple.tupleItemsOf (.ref t) >>= _),_,_);refine AY (FY F ?_);refine AY (DT a0 ?_);rw[BB nofun];refine AY (Th U ?_);show(M,_,_,(if((((items.size:Nat):Int)-1)==0&&(-1:Int)==1&&items.size==items.size)=true then _ else _),_,_)
 rw[if_neg 'c',Yl]
 first
  |exact(89,BC ⟨_,rfl,BC h⟩,hok)
  |exact AY (89,BC (BC ⟨_,rfl,BC h⟩),hok)
  |exact AY (89,BC ⟨_,rfl,BC h⟩,hok)
  |exact(89,(19,BC ⟨_,rfl,BC h⟩),hok)
end
section
variable {X:Cx}{K:W.Frag}
noncomputable def am4 (K:W.Frag):V->V->Hp->VK->Prop:=λx y H Q=>∃ a xs,x = .ref a/\y = .int (-1)/\(A,xs)/\∀ p,H p=none->(C,p,(66,p,xs.reverse))
theorem TH {st:Expr}{ts:TE}{p2 pos:Pos}(he:PE X e te)(a0:PE X st ts)(hK:X.K=K:=by ac_nf):PE X (.Subscript e (.Slice none none (some st) p2) pos) (tOp (am4 K) te ts):=by
 subst hK;intro pins s σ H Q I h;refine FH (BD (he pins s σ H _ I h) λv s1 ⟨x,H1,Y,r1,q1⟩=>wpAny_Slice ?_);rw[GF];refine BC (BC ?_);rw[IV];refine BD (a0 pins s1 σ H1 _ Y q1) λu F ⟨y,H2,Z,r2,q2⟩=>?_;obtain⟨a,xs,rfl,rfl,hx,q⟩:2:=q2
 cases r1;obtain⟨t,rfl⟩:=r2;have O:Inv X pins σ H2 {F with heap:=F.heap.push {cls:=.type "slice",data:=.fields #[.none,.none,.int (-1) t]}}:=Z.kept (t':=F.toks) λb ob q=>BH _ q
 obtain⟨its,r,U,hz⟩:1:=O.tuple hx;have a1:=r.length;refine tail_any (ops:=[.ref a,.ref F.heap.objs.size]) U.typeIs PyProof.Rows.slot_tuple_getitem.lookup ?_ ⋯;refine PR U (IU ..) ?_ (by rw[CB];omega);refine⟨.ref _,_,O.laid (t':=F.toks) (o:=.tup xs.reverse) (λb ob q=>BH _ q) (BE _) ?_,rfl,q _ (109,_)⟩;exact⟨by rw[FM];exact hz,_,r.reverse,IsTupN.new _ _⟩
theorem XI (h:(A,xs))(c:∀ p H',H p=none->(5,H')->H' p=(23,xs.reverse)->(D,p)):am4 K (.ref a) (.int (-1)) H Q:=
 ⟨a,xs,rfl,rfl,h,λp hp=>c p _ hp (AO hp) Ab⟩
end
theorem Way.mem {ns:AA}(hm:∀ p∈ps,p.1∈ns/\p.2∈ns)(h:(U,y)):x∈ns/\y∈ns:=by obtain⟨p,hp,e⟩:1:=A0D.mp h.left;obtain⟨q,O,F⟩:1:=A0D.mp h.right;exact⟨e ▸ (hm p hp).1,F ▸ (hm q O).2⟩
theorem XN {ns:AA}(hm:∀ p∈ps,p.1∈ns/\p.2∈ns):Way (clP ns ps) x y↔Way ps x y:=by
 constructor
 . intro h
   induction h with
   |one e=>exact(mem_clP.mp e).2.2
   |cons e _ ih=>exact(mem_clP.mp e).2.2.trans ih
 intro h;have:=h.mem hm;exact .one (mem_clP.mpr ⟨this.1,this.2,h⟩)
theorem SG {ns:AA}{p:Str×Str}:thB ns ps p=true↔∃ z∈ns,Way ps p.1 z/\Way ps z p.2:=by
 unfold thB;rw[A1E];constructor
 . rintro⟨z,hz,e⟩;rw[CA] at e;exact⟨z,hz,wayB_iff.mp e.1,wayB_iff.mp e.2⟩
 rintro⟨z,hz,F,O⟩;exact⟨z,hz,by rw[CA];exact⟨wayB_iff.mpr F,wayB_iff.mpr O⟩⟩
theorem mem_baP {ns:AA}{p:Str×Str}:p∈baP ns ps↔p∈clP ns ps/\¬ ∃ z∈ns,Way ps p.1 z/\Way ps z p.2:=by unfold baP;rw[A0M,Bool.not_eq_true',<- Bool.not_eq_true,SG]
theorem P8 {α:Type}{p q:α->Bool}{l:List α}(h:∀ a∈l,p a=true->q a=true){x:α}(F:x∈l)(h1:q x=true)(h2:p x=false):(l.filter p).length<(l.filter q).length:=by
 have e:l.filter p=(l.filter q).filter p:=by
  rw[HX];refine DG λa ha=>?_
  cases hp:p a with
  |false=>rfl
  |true=>rw[h a ha hp];rfl
 rw[e];exact Sj (A0M.mpr ⟨F,h1⟩) h2
theorem LO {ns:AA}(hm:∀ p∈ps,p.1∈ns/\p.2∈ns)(irr:∀ x,¬ (U,x)):Way (baP ns ps) x y↔Way ps x y:=by
 constructor
 . exact λh=>(XN hm).mp (h.mono λp hp=>(mem_baP.mp hp).1)
 suffices g:∀ n x y,(ns.filter λz=>Ac ps x z&&Ac ps z y).length<=n->(U,y)->Way (baP ns ps) x y from λh=>g _ x y (BE _) h
 intro n
 induction n with
 |zero=>
   intro x y hn h;have F:=h.mem hm;refine .one (mem_baP.mpr ⟨mem_clP.mpr ⟨F.1,F.2,h⟩,?_⟩);rintro⟨z,hz,h1,h2⟩;have:z∈ns.filter λz=>Ac ps x z&&Ac ps z y:=A0M.mpr ⟨hz,by rw[CA];exact⟨wayB_iff.mpr h1,wayB_iff.mpr h2⟩⟩;rw[A18.mp (Nat.le_zero.mp hn)] at this
   cases this
 |succ n ih=>
   intro x y hn h;have F:=h.mem hm
   by_cases U:∃ z∈ns,(U,z)/\Way ps z y
   . obtain⟨z,hz,h1,h2⟩:1:=U;have O:(Ac ps x z&&Ac ps z y)=true:=by rw[CA];exact⟨wayB_iff.mpr h1,wayB_iff.mpr h2⟩
     have Y:=P8 (p:=λu=>Ac ps x u&&Ac ps u z) (q:=λu=>Ac ps x u&&Ac ps u y) (l:=ns) (λu _ hu=>by rw[CA] at hu ⊢;exact⟨hu.1,wayB_iff.mpr ((wayB_iff.mp hu.2).trans h2)⟩) hz O (by rw[Ig (irr z),HB])
     have Z:=P8 (p:=λu=>Ac ps z u&&Ac ps u y) (q:=λu=>Ac ps x u&&Ac ps u y) (l:=ns) (λu _ hu=>by rw[CA] at hu ⊢;exact⟨wayB_iff.mpr (h1.trans (wayB_iff.mp hu.1)),hu.2⟩) hz O (by rw[Ig (irr z),Bool.false_and])
     exact(ih x z ∅ h1).trans (ih z y ∅ h2)
   exact .one (mem_baP.mpr ⟨mem_clP.mpr ⟨F.1,F.2,h⟩,U⟩)
theorem Yd (ps:AB)(a:Str)(m:AA):∀ t:AA,(t.flatMap (clR (a :: m) ps)).length=(t.flatMap (clR m ps)).length+(t.filter λx=>Ac ps x a).length
 | []=>by simp
 |x :: t=>by
   rw[DD,DD,BL,BL,Yd ps a m t,CO]
   have e:(clR (a :: m) ps x).length=(clR m ps x).length+(if Ac ps x a=true then 1 else 0):=by
    unfold clR;rw[BA,BA,CO]
    split
    . rw[BO]
    rfl
   rw[e]
   split
   . rw[BO];omega
   omega
theorem S0 {ps:AB}(irr:∀ x,¬ (U,x))(a:Str):∀ t:AA,(t.filter λy=>Ac ps a y).length+(t.filter λy=>Ac ps y a).length+(t.filter λy=>unB ps a y).length=t.length
 | []=>rfl
 |y :: t=>by
   have F:=S0 irr a t;rw[CO,CO,CO,BO];unfold unB at F ⊢
   cases h1:Ac ps a y<;>cases h2:Ac ps y a
   . simp;omega
   . simp;omega
   . simp;omega
   exact absurd ((wayB_iff.mp h1).trans (wayB_iff.mp h2)) (irr a)
theorem G7 (ps:AB)(a:Str)(t:AA):((O,(a :: t))).length=(t.filter λy=>unB ps a y).length+((O,t)).length:=by
 have e:∀ i,unR (a :: t) ps (i+1)=unR t ps i:=λi=>by unfold unR;rw[List.getD_cons_succ,List.drop_succ_cons]
 unfold unP unK;rw[BO,List.range_succ_eq_map,DD,BL,List.flatMap_map]
 have F:(unR (a :: t) ps 0).length=(t.filter λy=>unB ps a y).length:=by unfold unR;rw[BA];rfl
 rw[F];have O:(λi=>unR (a :: t) ps (Nat.succ i))=unR t ps:=funext e;rw[show((List.range t.length).flatMap λi=>unR (a :: t) ps i.succ)=(List.range t.length).flatMap (unR t ps) from by rw[O]]
theorem Vf {ps:AB}(irr:∀ x,¬ (U,x)):∀ l:AA,2*(((l.flatMap (clR l ps)).length:Int)+(((O,l)).length:Int))=(l.length:Int)*((l.length:Int)-1)
 | []=>by rfl
 |a :: t=>by
   have O:=Vf irr t;have U:=S0 irr a t;rw[DD,BL,Yd,G7]
   have e:(clR (a :: t) ps a).length=(t.filter λy=>Ac ps a y).length:=by unfold clR;rw[BA,CO,Ig (irr a)];rfl
   rw[e,BO]
   have F:(((t.length+1:Nat):Int))*((((t.length+1:Nat):Int))-1)=(t.length:Int)*((t.length:Int)-1)+2*(t.length:Int):=by rw[Int.natCast_add,show((1:Nat):Int)=1 from rfl,Int.add_sub_cancel,Int.add_mul,Int.mul_sub];omega
   rw[F,<- O];omega
theorem V1 {ns:AA}(irr:∀ x,¬ (U,x)):2*(((clP ns ps).length:Int)+(((O,ns)).length:Int))=(ns.length:Int)*((ns.length:Int)-1):=Vf irr ns
theorem HalfW.ba {ns:AA}(h:(E,ps))(hl:(baP ns ps).length<=1000):HalfW ns (baP ns ps):=
 ⟨h.nd,λp hp=>let ⟨a,b,_⟩:=mem_clP.mp (mem_baP.mp hp).1;⟨a,b⟩,λx g=>h.irr x ((LO h.mem h.irr).mp g),h.few,hl⟩
section
variable {prog:Program}{w:World}{A:Around}{E:AG}{s:Shared}
set_option maxHeartbeats 3200000 in
end
theorem QY (a b:Str):(a++b).length=a.length+b.length:=by show(a.cps++b.cps).size=_;rw[Array.size_append];rfl
theorem NZ (h:Kj z=true):z.length<=8:=(JC h).2
theorem F9 (ns:List Int):∀ j ≤ ns.length,preSum (λi=>(L,0)) j=(ns.take j).sum
 |0,_=>by simp[preSum]
 |j+1,h=>by rw[preSum,F9 ns j ∅,CC,Fb (y:=0) (by omega:j<ns.length)];simp
theorem Nm:∀ {ns:List Int},(∀ n∈ns,0<=n/\n<=1000000000000)->0<=ns.sum/\ns.sum<=1000000000000*(ns.length:Int)
 | [],_=>by simp
 |n :: ns,h=>by have h1:=h n 'c';have h2:=Nm λm hm=>h m (BP _ hm);rw[CV,BO];omega
section
variable {X:Cx}{K:W.Frag}
noncomputable def aP4 (K:W.Frag):List V->Hp->VK->Prop:=λxs H Q=>∃(a:Addr) (ns:List Int),xs=[.ref a]/\((83,K,a,V.int)\/(A,ns.map V.int))/\(∀ n∈ns,0<=n/\n<=1000000000000)/\ns.length<=1000000/\(X,ns.sum,H)
theorem KY {ns:List Int}{its:AC}(r:Vals (ns.map V.int) its){v:Value}(h:its.toArray[i]? = some v):∃ t,v = .int ((L,0)) t:=by
 rw[ID] at h;have hl:=r.length;rw[BA] at hl
 have hi:i<ns.length:=by have:=(A01.mp h).1;omega
 obtain⟨u,hu,F⟩:1:=r.get (i:=i) (x:=.int (ns.getD i 0)) (by rw[BK,Fb (y:=0) hi];rfl);rw[h] at hu
 cases hu;exact F
theorem Ya (hc:X.calm=true):CallR X (.builtin "sum") (aP4 X.K):=by
 intro pins s σ H xs us Q I r h;obtain⟨a,ns,rfl,hl,hb,hz,q⟩:2:=h;obtain⟨u,rfl,ru⟩:1:=Jx r
 cases ru
 have fits:∀ j,j<ns.length->InLong (ns.getD j 0)/\InLong (preSum (λi=>(L,0)) (j+1)):=λj hj=>by have h1:=hb _ (BG (Fb (y:=0) hj));have h2:=Nm (ns:=ns.take (j+1)) λn hn=>hb n (ER hn);rw[F9 ns (j+1) hj];rw[CD] at h2;unfold InLong;omega
 have last:preSum (λi=>(L,0)) ns.length=ns.sum:=by rw[F9 ns _ (BE _),CF]
 refine call_sum_walk ?_;rcases hl with hl|hl
 . obtain⟨its,Y,pl,_⟩:1:=I.list hl;have O:its.toArray.size=ns.length:=by rw[CB,<- Y.length,BA]
   have U:a<s.heap.objs.size:=let ⟨_,e,_⟩:=pl.isList;BF e;refine GU pl.isList ?_;refine⟨_,_,_,_,_,_,λi=>(L,0),rfl,Walks.list (by simpa using I.ok.hd hc) _ a (Nat.ne_of_lt U) its.toArray,⟨⟨_,Heap.get?_push_size _ rfl,rfl,rfl⟩,pl.isList.push _⟩,λb F=>?_,λi v hv=>KY Y hv,by rw[O];exact fits,λh' tk t' Z=>?_⟩
   . rw[DO];simp only[List.mem_cons,List.not_mem_nil,or_false] at F;rcases F with rfl|rfl
     . exact FO _
     exact FE U
   refine⟨.int ns.sum,H,I.kept (t':=tk) λb o e=>Z b o (λz=>?_) (BH _ e),⟨t',by rw[O,last]⟩,q⟩;have:b=s.heap.objs.size:=by simpa using z
   subst this;exact(77,BF e,_)
 obtain⟨its,Y,pl,_⟩:1:=I.tuple hl;have O:its.toArray.size=ns.length:=by rw[CB,<- Y.length,BA]
 have U:a<s.heap.objs.size:=let ⟨_,e,_⟩:=pl;BF e;refine GK pl ?_;refine⟨_,_,_,_,_,_,λi=>(L,0),rfl,Walks.tuple (by simpa using I.ok.hd hc) _ a (Nat.ne_of_lt U) its.toArray,⟨⟨_,Heap.get?_push_size _ rfl,rfl,rfl⟩,Heap.IsTuple.push pl _⟩,λb F=>?_,λi v hv=>KY Y hv,by rw[O];exact fits,λh' tk t' Z=>?_⟩
 . rw[DO];simp only[List.mem_cons,List.not_mem_nil,or_false] at F;rcases F with rfl|rfl
   . exact FO _
   exact FE U
 refine⟨.int ns.sum,H,I.kept (t':=tk) λb o e=>Z b o (λz=>?_) (BH _ e),⟨t',by rw[O,last]⟩,q⟩;have:b=s.heap.objs.size:=by simpa using z
 subst this;exact(77,BF e,_)
theorem T5 (O:X.calm=true)(F:X.K=K:=by ac_nf):CallR X (.builtin "sum") (aP4 K):=F ▸ Ya O
theorem MF {ns:List Int}(h:(83,K,a,V.int)\/(A,ns.map V.int))(hb:∀ n∈ns,0<=n/\n<=1000000000000)(hz:ns.length<=1000000)(k:(X,ns.sum,H)):aP4 K [.ref a] H Q:=⟨a,ns,rfl,h,hb,hz,k⟩
end
section
variable {prog:Program}{w:World}{A:Around}{E:AG}{s:Shared}
theorem ZM {t:Addr}{items:Array Value}{x:Value}{e:Value->Bool}{Q:AG}(U:IsTup s.heap t items)(hj:j<items.size)(he:∀ y,y∈items->SeqAt.EqAt A.in1 s y x (e y))(Y:e items[j]=true)
 (a0:∀ m (hm:m<items.size),m<j->e items[m]=false) (h:Q (.int j s.toks) {s with toks:=s.toks+1}):wpAny ((G,w)) A ((95,"tuple.index",[.ref t,x])) Q E s:=by
 refine ET DL U.typeIs PySem.F.entry_tuple_index ?_ (PySem.F.args_tuple_index_2 _ _);unfold Builtin.«tuple.index»;refine AY (wpAny_of_eq (a:=(Value.ref t,[x])) (by first | rfl | kernel_rfl) ?_)
 refine AY (m:=Builtin.Tuple.tupleItemsOf _) (FY U ?_);refine AY (m:=pure 0) (BC ?_);refine AY (m:=pure items.size) (BC ?_);dsimp only;rw[Nat.min_self];refine AY ?_;rw[Std.Legacy.Range.forIn_eq_forIn_range',show Std.Legacy.Range.size [:items.size]=items.size by simp[Std.Legacy.Range.size]];refine wpAny_forIn_list _ (λl q s'=>s'=s/\q=(none,())/\∃ i,i<=j/\l=List.range' i (items.size-i)) _ ?_ ?_ _ _ ⟨rfl,rfl,0,DJ _,rfl⟩
 . rintro m l q s' ⟨rfl,rfl,i,hi,O⟩;rw[show items.size-i=items.size-(i+1)+1 by omega,List.range'_succ] at O;injection O with e1 e2;subst e1;have hm:m<items.size:=by omega
   rw[Array.getElem?_eq_getElem hm];refine AY (he _ (Array.getElem_mem hm) prog w _ _ ?_)
   by_cases Z:m=j
   . subst Z;rw[Y,BB rfl];refine AY (m:=retInt _) ?_;refine AY (wpAny_mkInt ?_);exact BC (BC (BC ⟨_,rfl,h⟩))
   rw[a0 m hm ∅,AZ nofun];exact BC ⟨rfl,rfl,m+1,by omega,e2⟩
 rintro q s' ⟨rfl,rfl,i,hi,O⟩;exfalso;rw[show items.size-i=items.size-(i+1)+1 by omega,List.range'_succ] at O
 cases O
end
section
variable {X:Cx}{K:W.Frag}
noncomputable def U6 (K:W.Frag):V->List V->Hp->VK->Prop:=λx vs H Q=>∃(a:Addr) (ns:AA) (z:Str) (j:Nat),x = .ref a/\vs=[.str z]/\(A,ns.map V.str)/\ns[j]? = some z/\(∀ m<j,ns[m]? ≠ some z)/\(X,(j:Nat),H)
theorem TB:MtR X "tuple.index" (U6 X.K):=by
 intro pins s σ H x vs v us Q I rx rv h;obtain⟨a,ns,z,j,rfl,rfl,hS,U,a2,q⟩:4:=h
 cases rx;obtain⟨u,rfl,ru⟩:1:=rv.one;obtain⟨its,r,p,hz⟩:1:=I.tuple hS;have a0:=r.length;rw[BA] at a0;have a4:=(A01.mp U).1
 have O:∀ m (hm:m<its.toArray.size),∃ y t,ns[m]? = some y/\its.toArray[m] = .str y t:=λm hm=>by
  have Y:m<ns.length:=by rw[CB] at hm;omega
  obtain⟨w,F,a3⟩:1:=r.get (i:=m) (x:=.str ns[m]) (by rw[BK,BJ Y];rfl);obtain⟨t,rfl⟩:=a3;refine⟨ns[m],t,BJ Y,?_⟩;have h2:=(A01.mp F).2;simpa using h2
 have Z:∀ y t,eqU (.str z) (.str y t)=decide (y=z):=λy t=>by
  show(y==z)=_
  by_cases h:y=z<;>simp[h]
 refine ZM (j:=j) (e:=eqU (.str z)) p (by rw[List.size_toArray];omega) (λw F=>Il ru rfl r (Kf ns) w (by simpa using F)) ?_ (λm hm a1=>?_) ⟨.int _,H,I.tok _,⟨_,rfl⟩,q⟩
 . obtain⟨y,t,h1,h2⟩:2:=O j (by rw[CB];omega);rw[h2,Z];rw[U] at h1;exact BY (BR h1).symm
 obtain⟨y,t,h1,h2⟩:2:=O m hm;rw[h2,Z];refine BS λe=>a2 m a1 ?_;rw[h1,e]
theorem Cf (F:X.K=K:=by ac_nf):MtR X "tuple.index" (U6 K):=F ▸ TB
theorem E4 {ns:AA}(h:(A,ns.map V.str))(F:ns[j]? = some z)(O:∀ m<j,ns[m]? ≠ some z)(k:(X,(j:Nat),H)):U6 K (.ref a) [.str z] H Q:=⟨a,ns,z,j,rfl,rfl,h,F,O,k⟩
noncomputable def aT2 (K:W.Frag)(r:V->List V->Hp->VK->Prop)(to:TE)(t:TA):TE:=fun σ H Q=>to σ H λx H1=>(∃ a xs,x = .ref a/\SqT K H1 a xs)/\t σ H1 λvs H2=>r x vs H2 Q
theorem J1 {o:Expr}{es:List Expr}{to:TE}{t:TA}{name:Str}{apos cpos:Pos}{id:String}{r:V->List V->Hp->VK->Prop}(slot:Slot "tuple" name id)(a4:typeOf (.builtin id)=pure (.type "method_descriptor"))(hm:MtR X id r)(ho:PE X o to)(ha:PA X (e :: es) t)(hK:X.K=K:=by ac_nf)
 (a0:(124,o,name,(s,o))=eval o X.env:=by ac_nf)
 (a1:(((80,(e :: es))).all (λx=>!x.1)&&(backToKw cpos (keywordEach [] X.env)).all (λx=>x.1.isSome)&&decide ((e :: es).length+([]:List Keyword).length+(if([]:List Keyword).isEmpty then 0 else 1)<30))=true:=by ac_nf)
 (a2:(apos.endLine==cpos.line)=true:=by ac_nf) (hs:(29,(e :: es))=(false,(s,e)) :: starEach es X.env:=by ac_nf) (a3:((80,es)).any (·.1)=false:=by ac_nf) :
 PE X ((88,o,name,apos,(e :: es),[],cpos)) (aT2 K r to t):=by
 subst hK;intro pins s σ H Q I h;refine wpAny_Call_method_late a0 a1 a2 rfl (BD (ho pins s σ H _ I h) λv s1 ⟨x,H1,O,r1,ty,q1⟩=>?_);obtain⟨a,xs,rfl,Y⟩:2:=ty
 cases r1;obtain⟨its,_,p,_⟩:1:=O.tuple Y;refine⟨"tuple",id,PySem.F.plainAttrs_tuple,slot,a4,p.typeIs,(λb e=>by cases e;exact O.tupleN Y),?_⟩;have U:=ha cpos pins s1 σ H1 _ O q1;rw[hs] at U ⊢;refine GI (by show(false||((80,es)).any (·.1))=false;rw[a3];rfl) (HZ ?_)
 exact BD U λus s2 ⟨vs,H2,Z,r2,q2⟩=>hm pins s2 σ H2 (.ref a) vs _ us Q Z rfl r2 q2
theorem i_bmT {r:V->List V->Hp->VK->Prop}{ts:TA}{σ:St}(k:te σ H λx H1=>(∃ a xs,x = .ref a/\SqT K H1 a xs)/\ts σ H1 λxs H2=>r x xs H2 Q):aT2 K r te ts σ H Q:=k
theorem On {B:Prop}(h:(A,xs))(k:B):(∃ F O,V.ref a = .ref F/\SqT K H F O)/\B:=⟨⟨a,xs,rfl,h⟩,k⟩
end
section
variable {α:Type}[DecidableEq α]
noncomputable def B2:List α->(α->Bool)->Nat
 | [],_=>0
 |x :: xs,p=>(p x).toNat+2*B2 xs p
noncomputable def E3:List α->α->Nat
 | [],_=>0
 |y :: ys,x=>if x=y then 1 else 2*E3 ys x
theorem Ky {p q:α->Bool}:∀ {ns:List α},(∀ x∈ns,p x=q x)->B2 ns p=B2 ns q
 | [],_=>rfl
 |x :: xs,h=>by unfold B2;rw[h x 'c',Ky (ns:=xs) λy F=>h y (by simp[F])]
theorem VW {a b:Bool} {n:Nat} (h:a.toNat+2*m=b.toNat+2*n):a=b/\m=n:=by cases a<;>cases b<;>simp[Bool.toNat] at h ⊢ <;> omega
theorem Kb {p q:α->Bool}:∀ {ns:List α},B2 ns p=B2 ns q->∀ x∈ns,p x=q x
 | [],_,x,hx=>by cases hx
 |y :: ys,h,x,hx=>by
   unfold B2 at h;obtain⟨h1,h2⟩:=VW h;rcases A0A.mp hx with rfl|hx
   . exact h1
   exact Kb h2 x hx
theorem UK (a b:Bool)(m n:Nat):(a.toNat+2*m) &&& (b.toNat+2*n)=(a&&b).toNat+2*(m &&& n):=by
 apply Nat.eq_of_testBit_eq;intro i;rw [Nat.testBit_and]
 cases i with
 |zero=>cases a<;>cases b<;>simp[Nat.testBit_zero,Bool.toNat]<;>omega
 |succ i=>
   rw[Nat.testBit_succ,Nat.testBit_succ,Nat.testBit_succ];have e:∀(c:Bool) (k:Nat),(c.toNat+2*k) / 2=k:=λc k=>by cases c<;>simp[Bool.toNat]<;>omega
   rw[e,e,e,Nat.testBit_and]
theorem Vd (p q:α->Bool):∀ ns:List α,B2 ns p &&& B2 ns q=B2 ns (λx=>p x&&q x)
 | []=>by simp[B2]
 |x :: xs=>by unfold B2;rw[UK,Vd p q xs]
theorem binM_zero {p:α->Bool}:∀ {ns:List α},B2 ns p=0↔∀ x∈ns,p x=false
 | []=>by simp[B2]
 |x :: xs=>by
   unfold B2;have:=binM_zero (p:=p) (ns:=xs);constructor
   . intro h y F;have h1:(p x).toNat=0:=by omega
     have h2:B2 xs p=0:=by omega
     rcases A0A.mp F with rfl|F
     . cases e:p y with
       |false=>rfl
       |true=>rw[e] at h1;cases h1
     exact this.mp h2 y F
   intro h;rw[h x 'c',this.mpr λy F=>h y (by simp[F])];rfl
theorem V4 (p:α->Bool):∀ ns:List α,B2 ns p<2 ^ ns.length
 | []=>by simp[B2]
 |x :: xs=>by
   have:=V4 p xs;unfold B2;rw[BO,Nat.pow_succ];have:(p x).toNat<=1:=by cases p x<;>simp[Bool.toNat]
   omega
theorem KO:∀ {ns:List α},ns.Nodup->∀ {x:α},x∈ns->E3 ns x=B2 ns (λy=>decide (y=x))
 | [],_,x,h=>by cases h
 |y :: ys,hn,x,h=>by
   obtain⟨h1,h2⟩:=A0W.mp hn;unfold E3 B2
   by_cases e:x=y
   . subst e;rw[BB rfl,(binM_zero (p:=λy=>decide (y=x)) (ns:=ys)).mpr λz hz=>BS λq=>h1 (by rw[<- q];exact hz)];simp[Bool.toNat]
   rw[AZ e,KO h2 ((A0A.mp h).resolve_left e)];have:decide (y=x)=false:=BS λq=>e q.symm;show _=(decide (y=x)).toNat+_;rw[this];simp[Bool.toNat]
theorem Re (f:α->Nat):∀ l:List α,(l.map λx=>2*f x).sum=2*(l.map f).sum
 | []=>rfl
 |x :: xs=>by simp[Re f xs,Nat.mul_add]
theorem Mj (p:α->Bool):∀ {ns:List α},ns.Nodup->((ns.filter p).map (E3 ns)).sum=B2 ns p
 | [],_=>rfl
 |y :: ys,hn=>by
   obtain⟨h1,h2⟩:=A0W.mp hn
   have e:(ys.filter p).map (E3 (y :: ys))=(ys.filter p).map λx=>2*E3 ys x:=by
    apply CP;intro x F;have:x≠y:=λq=>h1 (q ▸ (A0M.mp F).1);show(if x=y then 1 else 2*E3 ys x)=_
    rw [AZ this]
   unfold B2;rw[CO]
   cases hp:p y with
   |true=>
     rw[BB rfl,BM,CV,e,Re,Mj p h2];show(if y=y then 1 else _)+_=_
     rw[BB rfl];rfl
   |false=>rw[AZ nofun,e,Re,Mj p h2];simp[Bool.toNat]
theorem O7 {p:α->Bool}:∀ {ns:List α},ns.Nodup->∀ {x:α},x∈ns->p x=true->B2 ns p=B2 ns (λy=>p y && !decide (y=x))+E3 ns x
 | [],_,x,h,_=>by cases h
 |y :: ys,hn,x,h,hp=>by
   obtain⟨h1,h2⟩:=A0W.mp hn;unfold E3 B2
   by_cases e:x=y
   . subst e;rw[BB rfl,hp,Ky (ns:=ys) (p:=λy=>p y && !decide (y=x)) (q:=p) λz hz=>?_]
     . simp[Bool.toNat];omega
     have:decide (z=x)=false:=BS λq=>h1 (q ▸ hz);simp[this]
   rw[AZ e,O7 h2 ((A0A.mp h).resolve_left e) hp];have:decide (y=x)=false:=BS λq=>e q.symm;show _=((p y && !decide (y=x)).toNat+_)+_;rw[this];simp;omega
noncomputable def frF (b:α->α->Bool)(L:List α):List α:=L.filter λx=>!(L.any λy=>b y x)
noncomputable def Ag (L:List α)(x:α):List α:=L.filter λy=>!decide (y=x)
noncomputable def ext (b:α->α->Bool):Nat->List α->(67,α)
 |0,_=>[[]]
 |n+1,L=>((e,L)).flatMap λx=>(ext b n (c,L)).map (x :: ·)
noncomputable def cnt (b:α->α->Bool)(L:List α):Nat:=(ext b L.length L).length
theorem cnt_nil (b:α->α->Bool):cnt b []=1:=rfl
theorem mem_frF {b:α->α->Bool}{L:List α}{x:α}:x∈(e,L)↔x∈L/\∀ y∈L,b y x=false:=by
 unfold frF;rw[A0M];constructor
 . rintro ⟨h1,h2⟩;refine⟨h1,λy F=>?_⟩
   cases e:b y x with
   |false=>rfl
   |true=>
     have:(L.any λy=>b y x)=true:=A1E.mpr ⟨y,F,e⟩;rw[this] at h2
     cases h2
 rintro⟨h1,h2⟩;refine⟨h1,?_⟩
 have:(L.any λy=>b y x)=false:=by
  rw[A4U];intro h;obtain⟨y,F,e⟩:1:=A1E.mp h;rw[h2 y F] at e
  cases e
 rw[this];rfl
theorem mem_lessF {L:List α}{x y:α}:y∈(c,L)↔y∈L/\y≠x:=by unfold Ag;rw[A0M];simp
theorem B6 {L:List α}(h:L.Nodup)(x:α):((c,L)).Nodup:=EG (EF) h
theorem Qa:∀ {L:List α} {x:α},x∉L->(c,L)=L:=fun {L x} h=>by unfold Ag;rw[A4C];intro y F;have:y≠x:=λq=>h (q ▸ F);simp[this]
theorem Ba:∀ {L:List α} {x:α},L.Nodup->x∈L->((c,L)).length+1=L.length
 | [],_,_,h=>by cases h
 |y :: ys,x,hn,h=>by
   obtain⟨h1,h2⟩:=A0W.mp hn
   by_cases e:y=x
   . subst e;have:Ag (y :: ys) y=Ag ys y:=by unfold Ag;rw[List.filter_cons,if_neg (by simp)]
     rw[this,Qa h1];rfl
   have:(c,(y :: ys))=y :: Ag ys x:=by unfold Ag;rw[List.filter_cons,if_pos (by simp[e])]
   rw[this,BO,Ba h2 ((A0A.mp h).resolve_left λq=>e q.symm)];rfl
theorem Ki {b:α->α->Bool} {L:List α} (hn:L.Nodup) (F:L≠[]):cnt b L=(((e,L)).map λx=>cnt b (c,L)).sum:=by
 unfold cnt
 cases hl:L.length with
 |zero=>exact absurd (A18.mp hl) F
 |succ n=>
   show(((e,L)).flatMap λx=>(ext b n (c,L)).map (x :: ·)).length=_;rw[KC];congr 1;apply CP;intro x O;have:=Ba hn (mem_frF.mp O).1;have e:((c,L)).length=n:=by omega
   rw[BA,e]
noncomputable def En (ns row:List α):List α:=ns.filter λx=>!decide (x∈row)
noncomputable def F6 (b:α->α->Bool)(ns:List α)(rows:(67,α)):List (List α):=rows.flatMap λrow=>((e,En ns row)).map λx=>row++[x]
noncomputable def Ds (b:α->α->Bool)(ns:List α):Nat->(67,α)->(67,α)
 |0,r=>r
 |k+1,r=>Ds b ns k (F6 b ns r)
theorem Fy (b:α->α->Bool)(ns:List α):∀(k:Nat) (r:(67,α)),Ds b ns (k+1) r=F6 b ns (Ds b ns k r)
 |0,r=>rfl
 |k+1,r=>Fy b ns k (F6 b ns r)
theorem Lq (b:α->α->Bool)(ns:List α):∀(k:Nat) (r t:(67,α)),Ds b ns k (r++t)=Ds b ns k r++Ds b ns k t
 |0,r,t=>rfl
 |k+1,r,t=>by
   show Ds b ns k (F6 b ns (r++t))=_;have:F6 b ns (r++t)=F6 b ns r++F6 b ns t:=by unfold F6;rw[List.flatMap_append]
   rw[this,Lq b ns k];rfl
theorem Tf (b:α->α->Bool)(ns:List α):∀ k:Nat,Ds b ns k []=[]
 |0=>rfl
 |k+1=>Tf b ns k
theorem Tn (b:α->α->Bool)(ns:List α)(k:Nat)(f:α->List α):∀ l:List α,Ds b ns k (l.map f)=l.flatMap λx=>Ds b ns k [f x]
 | []=>Tf b ns k
 |x :: xs=>by rw[BM,DD,<- Tn b ns k f xs,<- Lq];rfl
theorem X7 (ns row:List α)(x:α):En ns (row++[x])=Ag (En ns row) x:=by
 unfold En Ag;rw[HX];apply DG;intro y _
 by_cases h:y∈row<;>by_cases e:y=x<;>simp[h,e]
theorem Vv (b:α->α->Bool)(ns:List α):∀(k:Nat) (row:List α),Ds b ns k [row]=(ext b k (En ns row)).map (row ++ ·)
 |0,row=>by simp[Ds,ext]
 |k+1,row=>by
   show Ds b ns k (F6 b ns [row])=_;have e:F6 b ns [row]=((e,En ns row)).map λx=>row++[x]:=by unfold F6;simp
   rw[e,Tn];show _=(((e,En ns row)).flatMap λx=>(ext b k (c,En ns row)).map (x :: ·)).map (row ++ ·);rw[List.map_flatMap];congr 1;funext x;rw[Vv b ns k,X7,CG];congr 1;funext r;simp
theorem SS (ns:List α):En ns []=ns:=by unfold En;rw[A4C];simp
noncomputable def fac:Nat->Nat
 |0=>1
 |n+1=>fac n*(n+1)
theorem Vr {f g:α->Nat}:∀ {l:List α},(∀ x∈l,f x<=g x)->(l.map f).sum<=(l.map g).sum
 | [],_=>BE _
 |x :: xs,h=>by have h1:=h x 'c';have h2:=Vr (l:=xs) (f:=f) (g:=g) λy F=>h y (by simp[F]);simp;omega
theorem W5 (c:Nat)(f:α->Nat):∀ l:List α,(l.map λx=>f x*c).sum=(l.map f).sum*c
 | []=>by simp
 |x :: xs=>by simp[W5 c f xs,Nat.add_mul]
theorem Gj {p q:α->Bool}:∀ {l:List α},(∀ a∈l,p a=true->q a=true)->(∃ z∈l,q z=true/\p z=false)->(l.filter p).length<(l.filter q).length
 | [],_,h=>by obtain⟨z,hz,_⟩:1:=h;cases hz
 |y :: ys,h,hz=>by
   have le:∀ l:List α,(∀ a∈l,p a=true->q a=true)->(l.filter p).length<=(l.filter q).length:=by
    intro l
    induction l with
    |nil=>intro _;exact BE _
    |cons a l F=>
      intro h;have:=F λa ha=>h a (by simp[ha]);rw[CO,CO]
      cases c:p a with
      |true=>rw[if_pos rfl,if_pos (h a 'c' c)];simpa using this
      |false=>
        rw[if_neg 'c']
        split
        . simp;omega
        exact this
   rw[CO,CO];obtain⟨z,hz,O,hp⟩:1:=hz;rcases A0A.mp hz with rfl|hz
   . rw[hp,if_neg 'c',if_pos O,List.length_cons];have:=le ys λa ha=>h a (by simp[ha]);omega
   have F:=Gj (l:=ys) (λa ha=>h a (by simp[ha])) ⟨z,hz,O,hp⟩
   cases c:p y with
   |true=>rw[if_pos rfl,if_pos (h y 'c' c)];simpa using F
   |false=>
     rw[if_neg 'c']
     split
     . simp;omega
     exact F
theorem KZ {b:α->α->Bool}(irr:∀ x,b x x=false)(tr:∀ x y z,b x y=true->b y z=true->b x z=true){L:List α}:∀(m:Nat) (y:α),y∈L->(L.filter λz=>b z y).length<=m->∃ x∈(e,L),x=y\/b x y=true
 |m,y,hy,hm=>by
   by_cases c:∃ z∈L,b z y=true
   . obtain ⟨z,hz,F⟩:1:=c;have lt:(L.filter λa=>b a z).length<(L.filter λa=>b a y).length:=Gj (λa _ h=>tr a z y h F) ⟨z,hz,F,irr z⟩
     cases m with
     |zero=>omega
     |succ m=>
       obtain⟨x,O,h⟩:1:=KZ irr tr m z hz ∅;refine⟨x,O,.inr ?_⟩;rcases h with rfl|h
       . exact F
       exact tr x z y h F
   refine⟨y,mem_frF.mpr ⟨hy,λz hz=>?_⟩,.inl rfl⟩
   cases e:b z y with
   |false=>rfl
   |true=>exact absurd ⟨z,hz,e⟩ c
theorem Yi {b:α->α->Bool} {L:List α} (h:L.Nodup):((e,L)).Nodup:=EG EF h
theorem PC {b:α->α->Bool}(irr:∀ x,b x x=false)(tr:∀ x y z,b x y=true->b y z=true->b x z=true){L:List α}(h:L≠[]):(e,L)≠[]:=by
 cases L with
 |nil=>exact(71,h)
 |cons y ys=>
   obtain⟨x,F,_⟩:1:=KZ irr tr (L:=y :: ys) _ y 'c' (Nat.le_refl _);intro e;rw[e] at F
   cases F
theorem Tw {f g:α->Nat}{l:List α}(h:∀ x∈l,f x=g x):(l.map f).sum=(l.map g).sum:=by rw[CP h]
end
noncomputable def Mtd (P:Program)(w:World)(K:W.Frag)(mg:AH)(base:Heap)(k:Nat)(C:Addr)(m:Str)(ps:AA)(sp:Sp):Prop:=
 ∃ f fd,FnOk P w K mg base CX0 k f fd ps sp/\IK K C m f/\(37,K,ps,[])
noncomputable def Mkd (P:Program)(w:World)(K:W.Frag)(mg:AH)(base:Heap)(k:Nat)(C:Addr)(x:Str)(ps:AA)(sp:Sp):Prop:=
 ∃ f fd,FnOk P w K mg base CX0 k f fd ps sp/\Mk K C f/\mg x=(3,C)/\(37,K,ps,[])
theorem FnOk.void {P:Program}{w:World}{K:W.Frag}{mg:AH}{base:Heap}{CX:CXT}{k:Nat}{f:Addr}{fd:FuncData}{ps:AA}{sp:Sp}(h:∀ vs H Q E,¬ sp vs H Q E):FnOk P w K mg base CX k f fd ps sp:=
 ⟨λvs H Q E q=>absurd q (h vs H Q E),λA outer s H args us vs Q E _ _ _ _ F=>absurd F (h vs H Q E)⟩
noncomputable def rAt (f:Str)(C:Addr):V->Hp->VK->Prop:=λx H Q=>∃ a dx fs v,x = .ref a/\H a=(47,C,dx,fs)/\fs.lookup f=some v/\Q v H
noncomputable def tAt (f:Str)(C:Addr)(ta:TE):TE:=fun σ H Q=>ta σ H λx H1=>rAt f C x H1 Q
noncomputable def rSt (f:Str)(C:Addr)(y:V):V->Hp->(Hp->Prop)->Prop:=λx H R=>∃ a dx fs,x = .ref a/\H a=(47,C,dx,fs)/\fs.length<1000/\R (B,a,.ins C dx (M3 f y fs))
noncomputable def sSt (f:Str)(C:Addr)(ta tv:TE):TS:=λD σ H=>tv σ H λy H1=>ta σ H1 λx H2=>rSt f C y x H2 λH3=>D.nx σ H3
noncomputable def rMe (m:Str)(C:Addr)(sp:Sp)(t:TA)(σ:St):V->Hp->VK->Prop:=λx H Q=>∃ a dx fs,x = .ref a/\H a=(47,C,dx,fs)/\fs.lookup m=none/\t σ H λvs H2=>sp (x :: (vs++[])) H2 Q E0
noncomputable def tMe (m:Str)(C:Addr)(sp:Sp)(ta:TE)(t:TA):TE:=fun σ H Q=>ta σ H λx H1=>rMe m C sp t σ x H1 Q
noncomputable def rMk (C:Addr)(sp:Sp):List V->Hp->VK->Prop:=λvs H1 Q=>∀ x dx,H1 x=none->H1 dx=none->dx≠x ->
 sp (.ref x :: (vs++[])) (upd (upd H1 dx (.own x)) x (.ins C dx [])) (λv H2=>v = .non/\(C,x,H2)) E0
noncomputable def tMk (C:Addr)(sp:Sp)(t:TA):TE:=fun σ H Q=>t σ H λvs H1=>rMk C sp vs H1 Q
noncomputable def aS3 (ta:TE):TT:=fun σ H Q=>ta σ H λx H1=>∃ i:Int,x = .int i/\Q (i != 0) H1
section
variable {X:Cx}{K:W.Frag}{k:Nat}{C:Addr}{f m:Str}{ps:AA}{sp:Sp}{o value:Expr}{es:List Expr}{tv:TE}{t:TA}{p pos pos' apos:Pos}
theorem Fo (he:PE X e ta)(c:Cls X.K C)(n:(48,X.K,f))(hb:(124,e,f,(s,e))=(s,e)):PE X ((120,e,pos)) (tAt f C ta):=by
 intro pins s σ H Q I h;refine QX hb (BD (he pins s σ H _ I h) ?_);rintro u s1 ⟨x,H1,F,Z,a,dx,fs,v,rfl,U,l,q⟩
 cases Z;exact Xj F U c n l λu' s2 O Y=>⟨v,H1,O,Y,q⟩
theorem Z9 (ha:PE X o ta)(hv:PE X value tv)(c:Cls X.K C)(n:(48,X.K,f))(Z:swapsWith value (some (120,o,pos')) pos.line X.env=pure false):PS X (.Assign [(120,o,pos')] value pos) (sSt f C ta tv):=by
 intro pins s σ H D I h;refine plainObj_wpAny_Assign_Attribute (BD (hv pins s σ H _ I h) ?_) Z;rintro u s1 ⟨y,H1,F,ry,q⟩;refine BD (ha pins s1 σ H1 _ F q) ?_;rintro ov s2 ⟨x,H2,O,rx,a,dx,fs,rfl,Y,l,q2⟩
 cases rx;exact Xp O Y c n l ry λs3 U=>⟨σ,_,U,q2⟩
theorem Ot {pl:Sem Bool}(he:PE X o ta)(c:Cls X.K C)(F:Mtd X.prog X.w X.K X.mg X.base k C m ps sp)(Y:Room k X.A)(ha:PA X (e :: es) t)
 (Z:(29,(e :: es))=(false,(s,e)) :: starEach es X.env:=by ac_nf) (U:((55,es)).any (·.1)=false:=by ac_nf)
 (ht:(s,(88,o,m,apos,(e :: es),[],pos))=(do
  let ov <- (s,o)
  standAt apos.atName
  let (f,first) <- holding [ov] (getMethod ov m pl)
  callWith pos f first ((55,(e :: es))) (backToKw pos (keywordEach [] X.env))):=by ac_nf) :
 PE X ((88,o,m,apos,(e :: es),[],pos)) (tMe m C sp ta t):=by
 obtain⟨f,fd,h1,h2,O⟩:2:=F;exact SN (pl:=pl) he c h2 h1 Y O .nil JY ha Z U ht
theorem JN (F:Mkd X.prog X.w X.K X.mg X.base k C x ps sp)(hr:Room (k+1) X.A)(Z:Gl X x)(ha:PA X (e :: es) t)(Y:(x==("__debug__":Str))=false:=by decide)
 (he:(29,(e :: es))=(false,(s,e)) :: starEach es X.env:=by ac_nf) (a0:((55,es)).any (·.1)=false:=by ac_nf) :
 PE X ((60,x,p,(e :: es),[],pos)) (tMk C sp t):=by
 obtain⟨f,fd,h1,h2,O,U⟩:2:=F;exact RU h2 h1 hr Z O U .nil JY ha Y he a0
theorem JD (ha:PE X e ta)(he:∀ F,isTrue e X.env F=(do let v <- F;standAt e.pos;holding [v] (truthy v)):=by intro _;ac_nf):PT X e (aS3 ta):=by intro pins s σ H Q I h;refine isTrue_plain (BD (ha pins s σ H _ I h) ?_) (he _);rintro v Z ⟨x,H1,O,Y,i,rfl,U⟩;exact OZ pins Z σ H1 _ v Q O Y ⟨_,rfl,U⟩
end
section
variable {K:W.Frag}{C:Addr}{f m:Str}{sp:Sp}{tv:TE}{t:TA}{σ:St}{D:Ends}
theorem i_tAt (k:ta σ H λx H1=>rAt f C x H1 Q):tAt f C ta σ H Q:=k
theorem Oc (h:H a=(47,C,dx,fs))(l:fs.lookup f=some v)(k:Q v H):rAt f C (.ref a) H Q:=⟨a,dx,fs,v,rfl,h,l,k⟩
theorem i_sSt (k:tv σ H λy H1=>ta σ H1 λx H2=>rSt f C y x H2 λF=>D.nx σ F):sSt f C ta tv D σ H:=k
theorem GD {y:V}{R:Hp->Prop}(h:H a=(47,C,dx,fs))(hl:fs.length<1000)(k:∀ H',(h,a)->H' a=(47,C,dx,M3 f y fs)->R H'):rSt f C y (.ref a) H R:=
 ⟨a,dx,fs,rfl,h,hl,k _ AV Ab⟩
theorem i_tMe (k:ta σ H λx H1=>rMe m C sp t σ x H1 Q):tMe m C sp ta t σ H Q:=k
theorem DS (h:H a=(47,C,dx,fs))(l:fs.lookup m=none)(k:t σ H λvs H2=>sp (.ref a :: (vs++[])) H2 Q E0):rMe m C sp t σ (.ref a) H Q:=⟨a,dx,fs,rfl,h,l,k⟩
theorem i_tMk (k:t σ H λvs H1=>rMk C sp vs H1 Q):tMk C sp t σ H Q:=k
theorem JG {vs:List V}(k:∀ x dx H2,H x=none->(5,H2)->H2 x=(47,C,dx,[])->sp (.ref x :: (vs++[])) H2 (λv O=>v = .non/\(C,x,O)) E0):rMk C sp vs H Q:=λx dx F hd U=>k x dx _ F (λb o e=>by rw[(106,e,F),(106,e,hd)];exact e) Ab
theorem i_tTru {R:Bool->Hp->Prop}(k:ta σ H λx H1=>∃ i:Int,x = .int i/\R (i != 0) H1):aS3 ta σ H R:=k
theorem NI {z:Int}{R:Hp->Prop}(h:H a=(6,kvs))(hl:kvs.length<=1000000)(k:∀ H',(h,a)->H' a=(6,Eo kvs (Sum.inl z) v)->R H'):∃ b F,V.ref a = .ref b/\DPut H b (.int z) v F/\R F:=
 ⟨a,_,rfl,DPut.k (k:=Sum.inl z) h (by rw[CH];omega),k _ AV Ab⟩
theorem Wi {z:Int}(h:H a=(6,kvs))(e:Cr kvs (Sum.inl z:Key)=some v)(k:Q v H):Pk K (.ref a) (.int z) H Q:=.inr ⟨a,v,rfl,by rw[<- e];exact DGet.k (k:=Sum.inl z) h,k⟩
theorem RV {z:Int}(h:H a=(6,kvs))(k:Q (.bl (Cr kvs (Sum.inl z:Key)).isNone) H):Xb K true (.int z) (.ref a) H Q:=by
 refine(31,.inl ⟨a,Cr kvs (Sum.inl z:Key),rfl,DGet.k (k:=Sum.inl z) h,?_⟩)
 cases e:Cr kvs (Sum.inl z:Key) with
 |none=>rw[e] at k;exact k
 |some v=>rw[e] at k;exact k
end
noncomputable def az8 (d v:Addr):HO:=.ext λh=>h.IsValuesView v d
noncomputable def aG9:V->List V->Hp->VK->Prop:=λx vs H Q=>∃ d kvs,x = .ref d/\vs=[]/\H d=(6,kvs)/\∀ v,H v=none->(C,v,(B,v,az8 d v))
noncomputable def aG3:List V->Hp->VK->Prop:=λxs H Q=>∃(v d:Addr) (kvs:List (Key×V)) (ns:List Int),xs=[.ref v]/\H v=some (az8 d v)/\H d=(6,kvs)/\kvs.map (·.2)=ns.map V.int/\(∀ n∈ns,0<=n/\n<=1000000000000)/\ns.length<=1000000/\(X,ns.sum,H)
section
variable {X:Cx}{K:W.Frag}
theorem YG:MtM X "dict.values" aG9:=by
 intro pins s σ H x vs v us Q I rx rv h;obtain⟨d,kvs,rfl,rfl,U,q⟩:2:=h
 cases rx
 cases rv;obtain⟨z1,Y,a0,a1,O⟩:440:=Tt I.hok U;refine EN F.slot_dict_values O.typeIs F.entry_dict_values (F.args_dict_values_1 _) (meets_dict_values (78,X.w) d Y) ⟨⟨a0,O⟩,?_⟩;refine ⟨.ref s.heap.objs.size,(B,s.heap.objs.size,az8 d s.heap.objs.size),I.laid (t':=s.toks) (λb u e=>BH _ e) (BE _) ⟨⟨_,(12,_),rfl,rfl⟩,⟨_,(12,_)⟩,λh1 h2 ⟨o,e,r⟩ Z=>⟨o,Z o e,r⟩⟩,rfl,q _ (61,_)⟩
theorem WM {α β:Type}{F:α->β->Prop}{O:List α}{U:List β}(h:Paired F O U):∀ {i:Nat} {a:α},O[i]? = some a->∃ b,U[i]? = some b/\F a b:=by
 induction h with
 |nil=>intro i a e;cases e
 |cons r _ ih=>
   intro i a e
   cases i with
   |zero=>cases e;exact⟨_,rfl,r⟩
   |succ i=>exact ih e
theorem US {ns:List Int}{vs:List (Key×Value)}(Z:KV kvs vs)(h:kvs.map (·.2)=ns.map V.int){k:Key}{u:Value}(U:vs[i]? = some (k,u)):∃ t,u = .int ((L,0)) t:=by
 have hl:kvs.length=vs.length:=Z.length;have hn:kvs.length=ns.length:=by have:=congrArg List.length h;rwa[BA,BA] at this
 have hi:i<vs.length:=(A01.mp U).1;have F:kvs[i]? = some kvs[i]:=BJ ∅;obtain⟨q,O,r⟩:1:=WM Z F;rw[U] at O
 cases O;have e:(kvs.map (·.2))[i]? = some kvs[i].2:=by rw[BK,F];rfl
 rw[h,BK,Fb (y:=0) (by omega:i<ns.length)] at e;have e2:V.int (L,0)=kvs[i].2:=BR e;have Y:=r.2;rw[<- e2] at Y;exact Y
theorem VC (hc:X.calm=true):CallR X (.builtin "sum") aG3:=by
 intro pins s σ H xs us Q I r h;obtain⟨v,d,kvs,ns,rfl,hv,hd,U,hb,hz,q⟩:4:=h;obtain⟨u,rfl,ru⟩:1:=Jx r
 cases ru
 have fits:∀ j,j<ns.length->InLong (ns.getD j 0)/\InLong (preSum (λi=>(L,0)) (j+1)):=λj O=>by have h1:=hb _ (BG (Fb (y:=0) O));have h2:=Nm (ns:=ns.take (j+1)) λn hn=>hb n (ER hn);rw[F9 ns (j+1) O];rw[CD] at h2;unfold InLong;omega
 have last:preSum (λi=>(L,0)) ns.length=ns.sum:=by rw[F9 ns _ (BE _),CF]
 obtain⟨_,hs,vs,Y,Z⟩:440:=Tt I.hok hd;obtain⟨ep,a0⟩:=Z.dictAt;have vv:s.heap.IsValuesView v d:=(show(70,X.w,H,s.heap,v,az8 d v) from(36,v,hv)).1;have a2:d<s.heap.objs.size:=I.hok.lt hd
 have hn:vs.length=ns.length:=by have:=congrArg List.length U;rw[BA,BA] at this;have:=Y.length;omega
 refine call_sum_walk ?_;obtain⟨oI,St,a1,W,st⟩:2:=(PySem.W.kdl_values (knd:=(78,X.w)) (r:=v) (d:=d) (kvs:=vs) (ep:=ep)).iter X.A.in1 s (by simpa using I.ok.hd hc) ⟨vv,a0⟩;refine a1 _ _ ?_;refine⟨s.heap.objs.size,_,_,_,_,_,λi=>(L,0),rfl,W,st,?_,?_,by rw[hn];exact fits,?_⟩
 . intro b F;rw[DO];simp only[List.mem_cons,List.not_mem_nil,or_false] at F;rcases F with rfl|rfl
   . exact FO _
   exact FE a2
 . rintro i u ⟨k,hx⟩;exact US Y U hx
 intro h' tk t' hk;refine⟨.int ns.sum,H,I.kept (t':=tk) ?_,⟨t',by rw[hn,last]⟩,q⟩;intro b o e;refine hk b o (λz=>?_) (BH _ e);have:b=s.heap.objs.size:=by simpa using z
 subst this;exact(77,BF e,_)
theorem TK (h:H d=(6,kvs))(k:∀ v H',H v=none->(5,H')->H' v=some (az8 d v)->(D,v)):aG9 (.ref d) [] H Q:=⟨d,kvs,rfl,rfl,h,λv F=>k v _ F (AO F) Ab⟩
theorem VI {v:Addr}{ns:List Int}(O:H v=some (az8 d v))(hd:H d=(6,kvs))(F:kvs.map (·.2)=ns.map V.int)(hb:∀ n∈ns,0<=n/\n<=1000000000000)(hz:ns.length<=1000000)(k:(X,ns.sum,H)):aG3 [.ref v] H Q:=
 ⟨v,d,kvs,ns,rfl,O,hd,F,hb,hz,k⟩
end
theorem T6 {α β:Type}{F:α->β->Prop}:∀ {O:List α} {U:List β},O.length=U.length->(∀(i:Nat) a b,O[i]? = some a->U[i]? = some b->F a b)->Paired F O U
 | [],[],_,_=>.nil
 |a :: O,b :: U,hl,h=>.cons (h 0 a b rfl rfl) (T6 (by simpa using hl) λi x y Y Z=>h (i+1) x y Y Z)
section
variable {α:Type}[DecidableEq α]
theorem YH (a b:Nat):Builtin.bitAnd (a:Int) (b:Int)=((a &&& b:Nat):Int):=by rw[bitAnd_pp (Int.natCast_nonneg _) (Int.natCast_nonneg _)];simp
theorem LF (p q:α->Bool)(ns:List α):(Builtin.bitAnd (B2 ns p:Int) (B2 ns q:Int) != 0)=ns.any λx=>p x&&q x:=by
 rw[YH,Vd]
 cases e:ns.any λx=>p x&&q x with
 |true=>
   obtain⟨x,F,h⟩:1:=A1E.mp e
   have:B2 ns (λx=>p x&&q x)≠0:=λz=>by
    have:=binM_zero.mp z x F;rw[this] at h
    cases h
   simp only[bne_iff_ne,ne_eq];omega
 |false=>
   have:B2 ns (λx=>p x&&q x)=0:=binM_zero.mpr λx F=>by
    cases c:(p x&&q x) with
    |false=>rfl
    |true=>rw[A1E.mpr ⟨x,F,c⟩] at e;cases e
   rw[this];rfl
theorem OC {ns:List α} (hn:ns.Nodup) {x:α} (O:x∈ns) (q:α->Bool):(Builtin.bitAnd (E3 ns x:Int) (B2 ns q:Int) != 0)=q x:=by
 rw[KO hn O,LF]
 cases c:q x with
 |true=>exact List.any_eq_true.mpr ⟨x,O,by simp[c]⟩
 |false=>
   rw[A4U];intro h;obtain⟨y,_,F⟩:1:=A1E.mp h;rw[CA,GJ] at F;rw[F.1,c] at F
   cases F.2
theorem Xm (ns:List α)(p q:α->Bool):(ns.any λx=>p x&&q x)=(ns.filter q).any p:=by
 induction ns with
 |nil=>rfl
 |cons y ys ih=>
   rw[DP,ih,CO]
   cases c:q y with
   |true=>rw[BB rfl,DP,Bool.and_true]
   |false=>rw[AZ nofun,HB,GC]
theorem WW (b:α->α->Bool)(ns:List α)(q:α->Bool):(ns.filter λx=>q x && !(ns.any λy=>b y x&&q y))=frF b (ns.filter q):=by unfold frF;rw[HX];apply DG;intro x _;rw[Xm,HL]
theorem B7 (ns:List α)(q:α->Bool)(x:α):(ns.filter λy=>q y && !decide (y=x))=Ag (ns.filter q) x:=by unfold Ag;rw[HX];apply DG;intro y _;rw[HL]
theorem KU {n:Nat}(h:m<=n):fac m<=fac n:=by
 induction h with
 |refl=>exact BE _
 |@step k _ ih=>exact BI ih (Nat.le_mul_of_pos_right _ (Nat.succ_pos k))
theorem To (c:Nat):∀ l:List α,(l.map λ_=>c).sum=l.length*c
 | []=>by simp
 |x :: xs=>by rw[BM,CV,To c xs,BO,EC,Nat.one_mul,Nat.add_comm]
theorem NP (b:α->α->Bool):∀(n:Nat) (L:List α),L.length=n->L.Nodup->cnt b L<=fac n
 |0,L,hl,_=>by have:=A18.mp hl;subst this;exact BE _
 |n+1,L,hl,hn=>by
   have F:L≠[]:=by intro e;rw[e] at hl;cases hl
   rw[Ki hn F]
   have h1:(((e,L)).map λx=>cnt b (c,L)).sum<=(((e,L)).map λ_=>fac n).sum:=Vr λx O=>by have:=Ba hn (mem_frF.mp O).1;exact NP b n (c,L) ∅ (B6 hn x)
   rw[To] at h1;refine BI h1 ?_;show _<=fac n*(n+1);rw[GB];refine Nat.mul_le_mul_left _ ?_;rw[<- hl];exact CM _ _
theorem XE {b:α->α->Bool}{L:List α}(hn:L.Nodup)(h:L.length<=10):cnt b L<=3628800:=BI (NP b _ L rfl hn) (BI (KU h) nofun)
end
noncomputable def av3 (ns:AA):List (Key×V):=ns.map λx=>((Sum.inr x:Key),V.int ((E3 ns x:Nat):Int))
noncomputable def ahK (ns:AA)(ps:AB):List (Key×V):=ns.map λx=>((Sum.inr x:Key),V.int ((B2 ns (λy=>Ac ps y x):Nat):Int))
theorem Ed {f:Str->V}:∀ {ns:AA} {x:Str},x∈ns->Cr (ns.map λx=>((Sum.inr x:Key),f x)) (Sum.inr x:Key)=some (f x)
 | [],x,h=>by cases h
 |y :: ys,x,h=>by
   rw[BM]
   by_cases e:y=x
   . subst e;exact Bc rfl
   rw[B9 λq=>e (Sum.inr.inj q)];exact Ed ((A0A.mp h).resolve_left λq=>e q.symm)
theorem Hy {f:Str->V}:∀ {ns:AA} {x:Str},x∉ns->Cr (ns.map λx=>((Sum.inr x:Key),f x)) (Sum.inr x:Key)=none
 | [],x,h=>rfl
 |y :: ys,x,h=>by rw[List.map_cons,B9 λq=>h (by rw[<- Sum.inr.inj q];simp)];exact Hy λq=>h (BP _ q)
theorem Nz:∀ {ns:AA} {i:Nat} {x:Str},ns.Nodup->ns[i]? = some x->E3 ns x=2 ^ i
 | [],i,x,_,h=>by cases h
 |y :: ys,0,x,_,h=>by cases h;unfold E3;rw[BB rfl]
 |y :: ys,i+1,x,hn,h=>by obtain⟨h1,h2⟩:=A0W.mp hn;have F:ys[i]? = some x:=h;unfold E3;rw[AZ λq=>h1 (by rw[<- q];exact BG F),Nz h2 F,Nat.pow_succ,GB]
theorem IsL.int_eq {K:W.Frag}{H:Hp}:∀ {ns:List Int} {vs:List V},(I,ns.map PyData.int,vs)->vs=ns.map V.int
 | [],vs,h=>by simp only[List.map_nil,IsL] at h;exact h
 |n :: ns,vs,h=>by simp only[List.map_cons,IsL,Is] at h;obtain⟨v,r,rfl,rfl,F⟩:2:=h;rw[IsL.int_eq F];rfl
theorem Ml {α:Type}(f:α->Nat):∀ l:List α,(l.map λx=>((f x:Nat):Int)).sum=(((l.map f).sum:Nat):Int)
 | []=>rfl
 |x :: xs=>by rw[BM,CV,Ml f xs,BM,CV];omega
theorem ExtBut.fzI {p:Addr}{C:Addr}(e:(h,p))(hp:H p=(47,C,dx,fs)):Fz H H':=W1 e λxs h=>by
 rcases h with h|⟨o,h⟩
 . rw[hp] at h;cases h
 rw[hp] at h;cases h
noncomputable def Knw (ns:AA) (ps:AB) (kvs:List (Key×V)):Prop:=(kvs.map (·.1)).Nodup /\
 (∀ kv∈kvs,∃ q:Str->Bool,kv.1=Sum.inl ((B2 ns q:Nat):Int)/\kv.2=V.int ((cnt (Ac ps) (ns.filter q):Nat):Int))/\Cr kvs (Sum.inl 0:Key)=(K,1)
theorem Ps {κ:Type}[DecidableEq κ]:∀ {kvs:List (κ×V)} {k:κ} {v:V},Cr kvs k=some v->(k,v)∈kvs
 | [],k,v,h=>by cases h
 |p :: r,k,v,h=>by
   by_cases e:p.1=k
   . rw[Bc e] at h
     cases h;rw[<- e];exact BQ
   rw[B9 e] at h;exact BP _ (Ps h)
theorem Knw.get {ns:AA}(h:Knw ns ps kvs){q:Str->Bool}(e:Cr kvs (Sum.inl ((B2 ns q:Nat):Int):Key)=some v):v = .int ((cnt (Ac ps) (ns.filter q):Nat):Int):=by
 obtain⟨F,h1,h2⟩:1:=h.2.1 _ (Ps e)
 have O:B2 ns F=B2 ns q:=by have:=DV h1;omega
 have U:ns.filter F=ns.filter q:=DG λx Y=>Kb O x Y;rw[U] at h2;exact h2
theorem Knw.len {ns:AA}(h:Knw ns ps kvs)(hf:ns.length<=10):kvs.length<=1024:=by
 have:=Co (ys:=(List.range 1024).map λi=>(Sum.inl ((i:Nat):Int):Key)) h.1 λk F=>by obtain⟨kv,O,rfl⟩:1:=A0D.mp F;obtain⟨q,h1,_⟩:1:=h.2.1 kv O;rw[h1];have h2:=V4 q ns;have U:(2:Nat) ^ ns.length<=2 ^ 10:=HC nofun hf;exact A0D.mpr ⟨B2 ns q,A1W.mpr ∅,rfl⟩
 rwa [BA,BA,DN] at this
theorem Knw.put {ns:AA}(h:Knw ns ps kvs)(q:Str->Bool) :
 Knw ns ps (Eo kvs (Sum.inl ((B2 ns q:Nat):Int)) (.int ((cnt (Ac ps) (ns.filter q):Nat):Int))):=by
 cases e:Cr kvs (Sum.inl ((B2 ns q:Nat):Int):Key) with
 |some v=>
   have hp:Eo kvs (Sum.inl ((B2 ns q:Nat):Int):Key) (.int ((cnt (Ac ps) (ns.filter q):Nat):Int))=kvs:=by
    unfold Eo;rw[Gk,e,BB (show(some v).isSome=true from rfl)]
    conv=>rhs;rw[<- List.map_id kvs]
    apply CP;intro kv F
    by_cases c:kv.1=Sum.inl ((B2 ns q:Nat):Int)
    . rw[BB c];obtain⟨O,h1,h2⟩:1:=h.2.1 kv F;rw[h1] at c
      have U:B2 ns O=B2 ns q:=by have:=DV c;omega
      have Y:ns.filter O=ns.filter q:=DG λx Z=>Kb U x Z;rw[<- Y,<- h2];rfl
    rw[AZ c];rfl
   rw[hp];exact h
 |none=>
   refine⟨ZN _ h.1 e,λkv F=>?_,?_⟩
   . rw[Kk _ e] at F;rcases A0B.mp F with F|F
     . exact h.2.1 kv F
     have:kv=(Sum.inl ((B2 ns q:Nat):Int),V.int ((cnt (Ac ps) (ns.filter q):Nat):Int)):=by simpa using F
     subst this;exact⟨q,rfl,rfl⟩
   rw[YW]
   by_cases c:(Sum.inl 0:Key)=Sum.inl ((B2 ns q:Nat):Int)
   . rw[<- c,h.2.2] at e
     cases e
   rw[AZ c];exact h.2.2
theorem Knw.new (ns:AA)(ps:AB):Knw ns ps [(Sum.inl 0,V.int 1)]:=by
 refine⟨by simp,λkv F=>?_,Bc rfl⟩;have:kv=(Sum.inl 0,V.int 1):=by simpa using F
 subst this;refine⟨λ_=>false,?_,?_⟩
 . rw[binM_zero.mpr λ_ _=>rfl];rfl
 have:ns.filter (λ_=>false)=[]:=by simp
 rw[this,cnt_nil];rfl
structure WaysAt (K:W.Frag)(C:Addr)(H:Hp)(p dx:Addr)(nv:V)(bd ad kd:Addr)(ns:AA)(ps:AB)(kvs:List (Key×V)):Prop where
 ob:H p=(47,C,dx,[("names",nv),("bits",.ref bd),("ahead",.ref ad),("full",.int ((B2 ns (λ_=>true):Nat):Int)),("known",.ref kd)])
 nm:(44,ns,nv)
 bt:H bd=(6,av3 ns)
 ah:H ad=(6,ahK ns ps)
 kn:H kd=(6,kvs)
 nb:bd≠kd
 na:ad≠kd
 ok:Knw ns ps kvs
section
variable {K:W.Frag}{C:Addr}{p:Addr}{nv:V}{bd ad kd:Addr}{ns:AA}{kvs':List (Key×V)}
theorem WaysAt.same (h:WaysAt K C H p dx nv bd ad kd ns ps kvs)(e:(5,H')):WaysAt K C H' p dx nv bd ad kd ns ps kvs:=
 ⟨e _ _ h.ob,h.nm.nm_fz e.fz,e _ _ h.bt,e _ _ h.ah,e _ _ h.kn,h.nb,h.na,h.ok⟩
theorem WaysAt.pk (h:WaysAt K C H p dx nv bd ad kd ns ps kvs):p≠kd:=(52,h.ob,h.kn)
theorem WaysAt.put (h:WaysAt K C H p dx nv bd ad kd ns ps kvs)(e:(h,kd))(F:H' kd=(6,kvs'))(ok:Knw ns ps kvs'):WaysAt K C H' p dx nv bd ad kd ns ps kvs':=
 ⟨e _ _ h.pk h.ob,h.nm.nm_fz (e.fzD h.kn),e _ _ h.nb h.bt,e _ _ h.na h.ah,F,h.nb,h.na,ok⟩
theorem WaysAt.list {l:Addr}(h:WaysAt K C H p dx nv bd ad kd ns ps kvs)(e:(h,l))(hl:H l=(2,xs)):WaysAt K C H' p dx nv bd ad kd ns ps kvs:=
 ⟨e _ _ (52,h.ob,hl) h.ob,h.nm.nm_fz (e.fzL hl),e _ _ (52,h.bt,hl) h.bt,e _ _ (52,h.ah,hl) h.ah,e _ _ (52,h.kn,hl) h.kn,h.nb,h.na,h.ok⟩
end
theorem TL (x y z:Str)(h:Ac ps x y=true)(g:Ac ps y z=true):Ac ps x z=true:=wayB_iff.mpr ((wayB_iff.mp h).trans (wayB_iff.mp g))
section
variable {α:Type}[DecidableEq α]
theorem Xl (b:α->α->Bool)(ns:List α){rows:(67,α)}{row:List α}(h:rows[j]? = some row):F6 b ns (rows.take (j+1))=F6 b ns (rows.take j)++((e,En ns row)).map λx=>row++[x]:=by rw[CC,h];unfold F6;rw[EM];simp
theorem Tv (b:α->α->Bool)(ns:List α):∀(i:Nat) (row:List α),row∈Ds b ns i [[]]->row.length=i
 |0,row,h=>by
   have:row=[]:=by simpa[Ds] using h
   subst this;rfl
 |i+1,row,h=>by rw[Fy] at h;unfold F6 at h;obtain⟨r,F,O⟩:1:=A2O.mp h;obtain⟨x,_,rfl⟩:1:=A0D.mp O;rw[BL,Tv b ns i r F];rfl
end
theorem Way.last (h:(U,y)):∃ m,(m,y)∈ps/\(x=m\/(U,m)):=by
 induction h with
 |one e=>exact⟨_,e,.inl rfl⟩
 |cons e _ ih=>
   obtain⟨m,h1,h2⟩:1:=ih;refine⟨m,h1,.inr ?_⟩;rcases h2 with rfl|h2
   . exact .one e
   exact .cons e h2
noncomputable def Gy (ns:AA)(ct:List ((Str->Bool)×Nat)):List (Key×V):=ct.map λe=>((Sum.inl ((B2 ns e.1:Nat):Int):Key),V.int ((e.2:Nat):Int))
noncomputable def G3 (ns:AA)(F:AA->Nat)(ct:List ((Str->Bool)×Nat)):Nat:=(ct.map λe=>e.2*F (ns.filter e.1)).sum
noncomputable def Qb (ns:AA)(ct:List ((Str->Bool)×Nat)):Prop:=((Gy ns ct).map (·.1)).Nodup
theorem C2 (ns:AA)(F:AA->Nat)(e:(Str->Bool)×Nat)(r:List ((Str->Bool)×Nat)):G3 ns F (e :: r)=e.2*F (ns.filter e.1)+G3 ns F r:=by unfold G3;rw[List.map_cons,List.sum_cons]
theorem QM {p:Key×V}{r:List (Key×V)}{k:Key}(h:¬ p.1=k):Eo (p :: r) k v=p :: Eo r k v:=by
 unfold Eo;rw[DP,BS h,GC]
 by_cases c:(r.any λkv=>decide (kv.1=k))=true
 . rw[BB c,BB c,BM,AZ h]
 rw[AZ c,AZ c];rfl
theorem SM {p:Key×V}{r:List (Key×V)}(h:p.1∉r.map (·.1)):Eo (p :: r) p.1 v=(p.1,v) :: r:=by
 unfold Eo;rw[DP,BY rfl,Bool.true_or,BB rfl,BM,BB rfl];congr 1
 conv=>rhs;rw[<- List.map_id r]
 apply CP;intro kv F;rw[AZ λq=>h (A0D.mpr ⟨kv,F,q⟩)];rfl
theorem Zr (ns:AA) (q:Str->Bool) (c:Nat):∀ {ct:List ((Str->Bool)×Nat)},Qb ns ct->∃(Y:Nat) (O:List ((Str->Bool)×Nat)),
 (Cr (Gy ns ct) (Sum.inl ((B2 ns q:Nat):Int):Key)).getD (.int 0) = .int ((Y:Nat):Int)/\Gy ns O=Eo (Gy ns ct) (Sum.inl ((B2 ns q:Nat):Int)) (.int (((Y+c:Nat)):Int)) /\
 (∀ k,k∈(Gy ns O).map (·.1)↔k∈(Gy ns ct).map (·.1)\/k=Sum.inl ((B2 ns q:Nat):Int))/\Qb ns O/\∀ F,G3 ns F O=G3 ns F ct+c*F (ns.filter q)
 | [],_=>⟨0,[(q,c)],rfl,by rw[Nat.zero_add];rfl,λk=>by simp[Gy],by unfold Qb Gy;simp,λF=>by unfold G3;simp⟩
 |e :: r,h=>by
   have h:((Sum.inl ((B2 ns e.1:Nat):Int):Key) :: (Gy ns r).map (·.1)).Nodup:=h;obtain⟨h1,h2⟩:=A0W.mp h
   by_cases U:B2 ns e.1=B2 ns q
   . have hf:ns.filter e.1=ns.filter q:=DG λx hx=>Kb U x hx;refine⟨e.2,(e.1,e.2+c) :: r,?_,?_,λk=>?_,h,λF=>?_⟩
     . show(Cr ((Sum.inl ((B2 ns e.1:Nat):Int),V.int ((e.2:Nat):Int)) :: Gy ns r) _).getD _=_;rw[Bc (by rw[U])];rfl
     . show(Sum.inl ((B2 ns e.1:Nat):Int),V.int ((e.2+c:Nat):Int)) :: Gy ns r=Eo ((Sum.inl ((B2 ns e.1:Nat):Int),V.int ((e.2:Nat):Int)) :: Gy ns r) _ _;rw[<- U,SM (p:=(Sum.inl ((B2 ns e.1:Nat):Int),V.int ((e.2:Nat):Int))) h1]
     . show k∈(Sum.inl ((B2 ns e.1:Nat):Int):Key) :: (Gy ns r).map (·.1)↔k∈(Sum.inl ((B2 ns e.1:Nat):Int):Key) :: (Gy ns r).map (·.1)\/_;constructor
       . exact .inl
       rintro(h|h)
       . exact h
       rw[h,U];simp
     rw[C2,C2];show(e.2+c)*F (ns.filter e.1)+_=_;rw[hf,EC];omega
   have Z:¬ (Sum.inl ((B2 ns e.1:Nat):Int):Key)=Sum.inl ((B2 ns q:Nat):Int):=λz=>U (by have:=DV z;omega);obtain⟨Y,O,g1,g2,g3,g4,g5⟩:2:=Zr ns q c h2;refine⟨Y,e :: O,?_,?_,λk=>?_,?_,λF=>?_⟩
   . show(Cr ((Sum.inl ((B2 ns e.1:Nat):Int),V.int ((e.2:Nat):Int)) :: Gy ns r) _).getD _=_;rw[B9 Z];exact g1
   . show(Sum.inl ((B2 ns e.1:Nat):Int),V.int ((e.2:Nat):Int)) :: Gy ns O=Eo ((Sum.inl ((B2 ns e.1:Nat):Int),V.int ((e.2:Nat):Int)) :: Gy ns r) _ _;rw[QM Z,g2]
   . show k∈(Sum.inl ((B2 ns e.1:Nat):Int):Key) :: (Gy ns O).map (·.1)↔k∈(Sum.inl ((B2 ns e.1:Nat):Int):Key) :: (Gy ns r).map (·.1)\/_;rw[A0A,A0A,g3];constructor
     . rintro(h|h|h)
       . exact(93,h)
       . exact .inl (.inr h)
       exact .inr h
     rintro((h|h)|h)
     . exact .inl h
     . exact(98,h)
     exact(31,h)
   . show((Sum.inl ((B2 ns e.1:Nat):Int):Key) :: (Gy ns O).map (·.1)).Nodup;refine A0W.mpr ⟨λhm=>?_,g4⟩;rcases(g3 _).mp hm with hm|hm
     . exact h1 hm
     exact Z hm
   rw[C2,C2,g5];omega
theorem VY {ns:AA}{ct:List ((Str->Bool)×Nat)}(h:Qb ns ct)(hf:ns.length<=10):ct.length<=1024:=by
 have:=Co (ys:=(List.range 1024).map λi=>(Sum.inl ((i:Nat):Int):Key)) h λk F=>by obtain⟨kv,O,rfl⟩:1:=A0D.mp F;obtain⟨e,_,rfl⟩:1:=A0D.mp O;have h2:=V4 e.1 ns;have U:(2:Nat) ^ ns.length<=2 ^ 10:=HC nofun hf;exact A0D.mpr ⟨B2 ns e.1,A1W.mpr ∅,rfl⟩
 unfold Gy at this;rwa[BA,BA,BA,DN] at this
section
variable {K:W.Frag}{σ:St}{td ty tx:TE}
noncomputable def am5 (ty tx:TE)(σ:St):V->Hp->VK->Prop:=λx H1 Q=>∃ a,x = .ref a/\IsD H1 a/\ty σ H1 λy H2=>tx σ H2 λz H3=>∃ o,DGet H3 a y o/\Q (o.getD z) H3
theorem i_dget2 (k:td σ H λx H1=>am5 ty tx σ x H1 Q):ao2 td ty tx σ H Q:=k
theorem WC (h:H a=(6,kvs))(k:ty σ H λy H2=>tx σ H2 λz F=>∃ o,DGet F a y o/\Q (o.getD z) F):am5 ty tx σ (.ref a) H Q:=⟨a,rfl,.inl ⟨kvs,.inl h⟩,k⟩
theorem VO {z:Int}(h:Rd H a (.dK kvs))(e:Cr kvs (Sum.inl z:Key)=some v)(k:Q v H):Pk K (.ref a) (.int z) H Q:=.inr ⟨a,v,rfl,.inl ⟨kvs,Sum.inl z,h,rfl,e.symm⟩,k⟩
end
theorem Ou {prog:Program}{w:World}{κ:Type}[DecidableEq κ](knd:KeyKind prog w κ)(d:Addr) :
 MeetsIn prog w (Builtin.«dict.update» ⟨[.ref d,.ref d],[]⟩) (λ_ R s=>(∃ kvs,s.heap.DictOf knd d kvs)/\R (.ok (.ret .none)) s):=
 .of_wp λA R s O=>by obtain⟨⟨kvs,hd⟩,h⟩:=O;unfold Builtin.«dict.update» Builtin.Dict.selfAndRest;refine AY (AY (wpAny_notOrdered_dict hd.typeIs ?_));show(M,_,_,pure (d,[Value.ref d]),_,_);refine BC ?_;show(M,_,_,Builtin.Dict.updateFrom "dict.update" d (.ref d) [] .none,_,_);unfold Builtin.Dict.updateFrom Builtin.Dict.merge Builtin.Dict.readDirectly;refine AY (DT hd.typeIs ?_);rw[AZ nofun];refine AY (AY (AY (wpAny_isInstance hd.typeIs isSubtype_dict_dict ?_)));simp only[Bool.not_true,Bool.false_eq_true,if_false];refine AY (wpAny_specialOf hd.typeIs F.slot_dict_iter.lookup (BC ?_));simp only[beq_self_eq_true,if_true];refine(19,?_);unfold Builtin.Dict.mergeDict;rw[if_pos 'c'];refine AY (wpAny_rule (BC ?_));show wpAny _ _ (Builtin.Dict.addKeywords d [] >>= _) _ _ _;exact(19,BC ⟨.none,rfl,h⟩)
noncomputable def Ww:V->List V->Hp->VK->Prop:=λx vs H Q=>∃ d kvs,x = .ref d/\vs=[.ref d]/\H d=(6,kvs)/\Q .non H
noncomputable def Po:V->List V->Hp->VK->Prop:=λx vs H Q=>Uz x vs H Q\/Ww x vs H Q
section
variable {X:Cx}{K:W.Frag}
theorem Y5:MtM X "dict.update" Ww:=by
 intro pins s σ H x vs v us Q I rx Z h;obtain⟨d,kvs,rfl,rfl,U,q⟩:2:=h
 cases rx;obtain⟨u,rfl,Y⟩:1:=Z.one
 cases Y;obtain⟨z1,a1,a0,a2,O⟩:440:=Tt I.hok U;refine EN F.slot_dict_update O.typeIs F.entry_dict_update (F.args_dict_update_2 _ _) (Ou (78,X.w) d) ⟨⟨a0,O⟩,?_⟩;exact⟨.non,H,I.tok s.toks,rfl,q⟩
theorem Xr:MtM X "dict.update" Po:=by
 intro pins s σ H x vs v us Q I O F h;rcases h with h|h
 . exact QP pins s σ H x vs v us Q I O F h
 exact Y5 pins s σ H x vs v us Q I O F h
end
theorem ZC {o:Addr}{ks:AA}(hd:H d=(6,Hf ks))(O:H o=(6,Hf ms))(F:d≠o)(hz:ks.length+ms.length<=1000000)(k:∀ H',(h,d)->H' d=(6,Hf (O4 ks ms))->Q .non H'):Po (.ref d) [.ref o] H Q:=.inl (VG hd O F hz k)
theorem QO (hd:H d=(6,kvs))(k:Q .non H):Po (.ref d) [.ref d] H Q:=.inr ⟨d,kvs,rfl,rfl,hd,k⟩
structure Od (ns:AA)(ps:AB):Prop where
 nd:ns.Nodup
 mem:∀ p∈ps,p.1∈ns/\p.2∈ns
 few:ns.length<=100
 le:ps.length<=1100
theorem HalfW.c {ns:AA}(h:(E,ps)):Od ns ps:=⟨h.nd,h.mem,h.few,BI h.le nofun⟩
instance {ns:AA} {ps:AB}:Coe ((E,ps)) (Od ns ps):=⟨HalfW.c⟩
theorem HalfW.more {ns:AA}(h:(E,ps))(F:x∈ns)(O:y∈ns):Od ns (ps++[(x,y)]):=by
 refine⟨h.nd,λp hp=>?_,h.few,?_⟩
 . rcases A0B.mp hp with hp|hp
   . exact h.mem p hp
   have:p=(x,y):=by simpa using hp
   rw[this];exact⟨F,O⟩
 have:=h.le;rw[BL,CU];omega
section
variable {α:Type}[DecidableEq α]
noncomputable def okR (b:α->α->Bool) (r:List α):Prop:=(∀ u∈r,b u u=false)/\r.Pairwise λu v=>b v u=false
theorem Sk {L:List α}(hn:L.Nodup){x:α}(O:x∈L):(x :: (c,L)).Perm L:=by
 induction L with
 |nil=>cases O
 |cons y ys ih=>
   obtain⟨h1,h2⟩:=A0W.mp hn
   by_cases e:y=x
   . subst e
     have:Ag (y :: ys) y=ys:=by
      have F:Ag (y :: ys) y=Ag ys y:=by unfold Ag;rw[List.filter_cons,if_neg 'c']
      rw[F,Qa h1]
     rw[this]
   have F:(c,(y :: ys))=y :: Ag ys x:=by unfold Ag;rw[List.filter_cons,if_pos (by simp[e])]
   rw[F];exact(List.Perm.swap y x _).trans ((ih h2 ((A0A.mp O).resolve_left λq=>e q.symm)).cons y)
theorem C3 (b:α->α->Bool):∀(n:Nat) (L r:List α),L.Nodup->L.length=n->(r∈ext b n L↔r.Perm L/\okR b r)
 |0,L,r,_,hl=>by
   have:=A18.mp hl;subst this;constructor
   . intro h;have:r=[]:=by simpa[ext] using h
     subst this;exact⟨.refl _,(λ_ h=>by cases h),List.Pairwise.nil⟩
   rintro⟨h,_⟩;have:r=[]:=List.perm_nil.mp h;subst this;simp[ext]
 |n+1,L,r,hn,hl=>by
   constructor
   . intro h;obtain⟨x,hx,h⟩:1:=A2O.mp h;obtain⟨t,ht,rfl⟩:1:=A0D.mp h;have F:=mem_frF.mp hx;have Y:=Ba hn F.1;obtain⟨h1,h2,U⟩:0:=(C3 b n (c,L) t (B6 hn x) ∅).mp ht;refine⟨(h1.cons x).trans (Sk hn F.1),λu hu=>?_,A35.mpr ⟨λv hv=>F.2 v (mem_lessF.mp (h1.mem_iff.mp hv)).1,U⟩⟩;rcases A0A.mp hu with rfl|hu
     . exact F.2 u F.1
     exact h2 u hu
   rintro⟨hp,hd,Z⟩
   cases r with
   |nil=>
     have:=hp.length_eq;rw[hl] at this
     cases this
   |cons x t=>
     have F:x∈L:=hp.mem_iff.mp 'c';have Y:=Ba hn F;have O:t.Perm ((c,L)):=List.Perm.cons_inv (hp.trans (Sk hn F).symm);obtain⟨q1,q2⟩:=A35.mp Z;refine List.mem_flatMap.mpr ⟨x,mem_frF.mpr ⟨F,λy hy=>?_⟩,List.mem_map.mpr ⟨t,(C3 b n (c,L) t (B6 hn x) ∅).mpr ⟨O,λu hu=>hd u (by simp[hu]),q2⟩,rfl⟩⟩
     by_cases e:y=x
     . rw[e];exact hd x 'c'
     exact q1 y (O.mem_iff.mpr (mem_lessF.mpr ⟨hy,e⟩))
theorem E9 (b:α->α->Bool):∀(n:Nat) (L:List α),L.Nodup->(ext b n L).Nodup
 |0,L,_=>by simp[ext]
 |n+1,L,hn=>by
   show(((e,L)).flatMap λx=>(ext b n (c,L)).map (x :: ·)).Nodup
   have Y:∀ l:List α,l.Nodup->(l.flatMap λx=>(ext b n (c,L)).map (x :: ·)).Nodup:=by
    intro l
    induction l with
    |nil=>intro _;simp
    |cons y ys ih=>
      intro hl;obtain⟨h1,h2⟩:=A0W.mp hl;rw[DD,A1D];refine⟨?_,ih h2,?_⟩
      . have hi:=E9 b n (Ag L y) (B6 hn y);exact List.pairwise_map.mpr (hi.imp λO e=>O (HJ e).2)
      intro r U t F e;obtain⟨Z,_,rfl⟩:1:=A0D.mp U;obtain⟨z,hz,F⟩:1:=A2O.mp F;obtain⟨t',_,rfl⟩:1:=A0D.mp F;have:y=z:=(HJ e).1;exact h1 (this ▸ hz)
   exact Y _ (Yi hn)
theorem Pe {β:Type}[DecidableEq β]{xs ys:List β}(h1:xs.Nodup)(h2:ys.Nodup)(h:∀ z,z∈xs↔z∈ys):xs.length=ys.length:=
 Nat.le_antisymm (Co h1 λz hz=>(h z).mp hz) (Co h2 λz hz=>(h z).mpr hz)
end
theorem El:∀ {r:AA} {x:Str},x∈r->r[r.idxOf x]? = some x/\(∀ m<r.idxOf x,r[m]? ≠ some x)/\r.idxOf x<r.length
 | [],_,h=>by cases h
 |y :: ys,x,h=>by
   rw[List.idxOf_cons]
   by_cases e:y=x
   . subst e;simp
   have hb:(y==x)=false:=by simpa using e
   obtain⟨h1,h2,F⟩:0:=El ((A0A.mp h).resolve_left λq=>e q.symm);rw[hb];refine⟨h1,λm hm=>?_,by simpa using F⟩
   cases m with
   |zero=>simpa using e
   |succ m=>exact h2 m (by simpa using hm)
theorem Iv {ns r:AA}(hn:ns.Nodup)(hm:∀ p∈ps,p.1∈ns/\p.2∈ns)(hp:r.Perm ns):okR (Ac ps) r↔∀ p∈ps,r.idxOf p.1<r.idxOf p.2:=by
 have a0:r.Nodup:=hp.nodup_iff.mpr hn;constructor
 . rintro⟨h1,h2⟩ p Z;obtain⟨m1,m2⟩:=hm p Z;obtain⟨O,_,a3⟩:0:=El (hp.mem_iff.mpr m1);obtain⟨U,_,b3⟩:0:=El (hp.mem_iff.mpr m2);have F:Ac ps p.1 p.2=true:=wayB_iff.mpr (.one Z);have a4:=(A01.mp O).2;have b4:=(A01.mp U).2;rcases Nat.lt_trichotomy (r.idxOf p.1) (r.idxOf p.2) with h|h|h
   . exact h
   . have e:p.1=p.2:=by rw[h,U] at O;exact(BR O).symm
     rw[e] at F;rw[h1 p.2 (hp.mem_iff.mpr m2)] at F
     cases F
   have:=List.pairwise_iff_getElem.mp h2 _ _ b3 a3 h;rw[a4,b4] at this;rw[this] at F
   cases F
 intro h
 have F:∀ u v,Way ps u v->r.idxOf u<r.idxOf v:=λu v g=>by
  induction g with
  |one e=>exact h _ e
  |cons e _ ih=>exact GA (h _ e) ih
 refine⟨λu hu=>?_,List.pairwise_iff_getElem.mpr λi j hi hj a2=>?_⟩
 . cases c:Ac ps u u with
   |false=>rfl
   |true=>exact(77,F u u (wayB_iff.mp c),_)
 cases c:Ac ps r[j] r[i] with
 |false=>rfl
 |true=>
   have g:=F _ _ (wayB_iff.mp c)
   have ix:∀ k (Y:k<r.length),r.idxOf r[k]=k:=λk Y=>by obtain⟨f1,_,f3⟩:0:=El (HA Y);exact(CY a0).mp (A01.mp f1).2
   rw[ix j hj,ix i hi] at g;omega
theorem Ik {ns:AA}(h:(E,ps))(hx:x∈ns)(hy:y∈ns):(20,(ps++[(x,y)]))=((ext (Ac ps) ns.length ns).filter λr=>decide (r.idxOf x<r.idxOf y)).length:=by
 refine Pe (E9 _ _ _ h.nd) (EG EF (E9 _ _ _ h.nd)) λr=>?_;rw[A0M,C3 _ _ _ _ h.nd rfl,C3 _ _ _ _ h.nd rfl,GJ]
 have U:∀ hp:r.Perm ns,okR (Ac (ps++[(x,y)])) r↔okR (Ac ps) r/\r.idxOf x<r.idxOf y:=λhp=>by
  rw[Iv h.nd (h.more hx hy).mem hp,Iv h.nd h.mem hp];constructor
  . intro g;exact⟨λp F=>g p (List.mem_append_left _ F),g (x,y) 'c'⟩
  rintro⟨Y,Z⟩ p F;rcases A0B.mp F with F|F
  . exact Y p F
  have:p=(x,y):=by simpa using F
  rw[this];exact Z
 constructor
 . rintro⟨hp,O⟩;exact⟨⟨hp,((U hp).mp O).1⟩,((U hp).mp O).2⟩
 rintro⟨⟨hp,O⟩,hi⟩;exact⟨hp,(U hp).mpr ⟨O,hi⟩⟩
theorem MG {ns:AA}(h:(E,ps))(F:x∈ns)(O:y∈ns)(a0:x≠y):(20,(ps++[(x,y)]))+(20,(ps++[(y,x)]))=cnt (Ac ps) ns:=by
 rw[Ik h F O,Ik h O F]
 have a2:∀ l:List AA,(∀ r∈l,r.idxOf x≠r.idxOf y)->(l.filter λr=>decide (r.idxOf x<r.idxOf y)).length+(l.filter λr=>decide (r.idxOf y<r.idxOf x)).length=l.length:=by
  intro l
  induction l with
  |nil=>intro _;rfl
  |cons r rs ih=>
    intro g;have Z:=g r 'c';have g2:=ih λt ht=>g t (by simp[ht]);rw[CO,CO,BO];rcases Nat.lt_or_gt_of_ne Z with c|c
    . rw[BB (BY c),AZ (by rw[BS ∅];decide),BO];omega
    rw[AZ (by rw[BS ∅];decide),BB (BY c),BO];omega
 refine a2 _ λr hr e=>a0 ?_;obtain⟨hp,_⟩:=(C3 _ _ _ _ h.nd rfl).mp hr;obtain⟨U,_,_⟩:0:=El (hp.mem_iff.mpr F);obtain⟨Y,_,_⟩:0:=El (hp.mem_iff.mpr O);rw[e,Y] at U;exact(BR U).symm
section
variable {α:Type}[DecidableEq α]
theorem QW {b:α->α->Bool}{L M:List α}(hn:L.Nodup)(hp:M.Perm L):cnt b M=cnt b L:=by
 have hm:M.Nodup:=hp.nodup_iff.mpr hn;unfold cnt;refine Pe (E9 _ _ _ hm) (E9 _ _ _ hn) λr=>?_;rw[C3 _ _ _ _ hm rfl,C3 _ _ _ _ hn rfl];constructor
 . rintro⟨h1,h2⟩;exact⟨h1.trans hp,h2⟩
 rintro⟨h1,h2⟩;exact⟨h1.trans hp.symm,h2⟩
theorem VT {b c:α->α->Bool}{L:List α}(h:∀ x∈L,∀ y∈L,b x y=c x y):(e,L)=frF c L:=by
 unfold frF;apply DG;intro x O
 have:(L.any λy=>b y x)=L.any λy=>c y x:=by
  rw[DQ,A1E,A1E];constructor
  . rintro⟨y,F,e⟩;exact⟨y,F,by rw[<- h y F x O];exact e⟩
  rintro ⟨y,F,e⟩;exact⟨y,F,by rw[h y F x O];exact e⟩
 rw[this]
theorem Tu {b c:α->α->Bool}:∀(n:Nat) {L:List α},L.length=n->L.Nodup->(∀ x∈L,∀ y∈L,b x y=c x y)->cnt b L=cnt c L
 |0,L,hl,_,_=>by have:=A18.mp hl;subst this;rfl
 |n+1,L,hl,hn,h=>by
   have F:L≠[]:=by intro e;rw[e] at hl;cases hl
   rw[Ki hn F,Ki hn F,VT h];apply Tw;intro x U;have:=Ba hn (mem_frF.mp U).1;exact Tu n ∅ (B6 hn x) λu hu v O=>h u (mem_lessF.mp hu).1 v (mem_lessF.mp O).1
theorem Tz (A B:List α)(x:α):(c,(A++B))=(c,A)++Ag B x:=by unfold Ag;rw[List.filter_append]
theorem XJ {l:List α}{p:α->Bool}(h:∀ x∈l,p x=false):l.any p=false:=by
 rw[A4U];intro e;obtain ⟨x,F,hp⟩:1:=A1E.mp e;rw[h x F] at hp
 cases hp
theorem Sf {b:α->α->Bool}:∀(n:Nat) {A B:List α},A.length=n->(A++B).Nodup->(∀ x∈A,∀ y∈B,b x y=true/\b y x=false)->cnt b (A++B)=cnt b A*cnt b B
 |0,A,B,hl,_,_=>by have:=A18.mp hl;subst this;rw[GP,cnt_nil,Nat.one_mul]
 |n+1,A,B,hl,hn,h=>by
   obtain⟨F,hB,a0⟩:0:=A1D.mp hn;have O:A≠[]:=by intro e;rw[e] at hl;cases hl
   have a3:A++B≠[]:=by simp[O]
   have a2:(e,(A++B))=frF b A:=by
    unfold frF;rw[DX]
    have e1:(A.filter λx=>!((A++B).any λy=>b y x))=A.filter λx=>!(A.any λy=>b y x):=by apply DG;intro x Y;rw[List.any_append,XJ (l:=B) λy Z=>(h x Y y Z).2,Bool.or_false]
    have e2:(B.filter λx=>!((A++B).any λy=>b y x))=[]:=by
     rw [A58];intro y Z
     cases A with
     |nil=>exact(71,O)
     |cons a A=>have:((a :: A++B).any λz=>b z y)=true:=List.any_eq_true.mpr ⟨a,by simp,(h a 'c' y Z).1⟩;rw[this];decide
    rw[e1,e2,DE]
   rw[Ki hn a3,a2,Ki F O,<- W5];apply Tw;intro x Y;have a1:=(mem_frF.mp Y).1;have a4:x∉B:=λhb=>a0 x a1 x hb rfl;have a5:=Ba F a1;rw[Tz,Qa a4];refine Sf n ∅ ?_ λu hu v U=>h u (mem_lessF.mp hu).1 v U;rw[A1D];exact⟨B6 F x,hB,λu hu v U=>a0 u (mem_lessF.mp hu).1 v U⟩
end
theorem K1 {α:Type}[DecidableEq α]{b:α->α->Bool}(irr:∀ x,b x x=false)(tr:∀ x y z,b x y=true->b y z=true->b x z=true):∀(n:Nat) (L:List α),L.length=n->L.Nodup->0<cnt b L
 |0,L,hl,_=>by have:=A18.mp hl;subst this;exact Nat.zero_lt_one
 |n+1,L,hl,hn=>by
   have F:L≠[]:=by intro e;rw[e] at hl;cases hl
   rw[Ki hn F]
   cases hf:frF b L with
   |nil=>exact absurd hf (PC irr tr F)
   |cons x t=>
     have O:x∈frF b L:=by rw[hf];simp
     have:=Ba hn (mem_frF.mp O).1;have:=K1 irr tr n (c,L) ∅ (B6 hn x);rw[BM,CV];omega
theorem LB {α:Type}[DecidableEq α]{b:α->α->Bool}(irr:∀ x,b x x=false)(tr:∀ x y z,b x y=true->b y z=true->b x z=true):∀(i:Nat) (L:List α),L.Nodup->i<=L.length->(ext b i L).length<=cnt b L
 |0,L,hn,_=>K1 irr tr _ L rfl hn
 |i+1,L,hn,hi=>by
   have F:L≠[]:=by intro e;rw[e] at hi;simp at hi
   rw[Ki hn F]
   have e:(ext b (i+1) L).length=(((e,L)).map λx=>(ext b i (c,L)).length).sum:=by show(((e,L)).flatMap λx=>(ext b i (c,L)).map (x :: ·)).length=_;rw[KC];congr 1;apply CP;intro x _;rw[BA]
   rw[e];apply Vr;intro x O;have:=Ba hn (mem_frF.mp O).1;exact LB irr tr i (c,L) (B6 hn x) ∅
theorem Se {α:Type}[DecidableEq α](b:α->α->Bool)(ns:List α)(k:Nat):Ds b ns k [[]]=ext b k ns:=by rw[Vv,SS];simp
theorem OU {α:Type}[DecidableEq α]{b:α->α->Bool}(irr:∀ x,b x x=false)(tr:∀ x y z,b x y=true->b y z=true->b x z=true){ns:List α}(hn:ns.Nodup)(hi:i<=ns.length):(Ds b ns i [[]]).length<=cnt b ns:=by rw[Se];exact LB irr tr i ns hn hi
theorem Qe {α:Type}[DecidableEq α](b:α->α->Bool)(ns:List α)(rows:(67,α))(j:Nat):(F6 b ns (rows.take j)).length<=(F6 b ns rows).length:=by
 have:F6 b ns rows=F6 b ns (rows.take j)++F6 b ns (rows.drop j):=by unfold F6;rw[<- EM,FF]
 rw[this,BL];omega
section
variable {α:Type}[DecidableEq α]
noncomputable def P7 (b:α->α->Bool)(L:List α)(xs:List α):List (List α):=xs.flatMap λx=>(ext b (L.length-1) (c,L)).map (x :: ·)
theorem Wd (b:α->α->Bool){L:List α}(F:L≠[]):P7 b L (e,L)=ext b L.length L:=by
 cases L with
 |nil=>exact(71,F)
 |cons y ys=>rfl
theorem YT (b:α->α->Bool)(L xs:List α)(x:α):P7 b L (xs++[x])=P7 b L xs++(ext b (L.length-1) (c,L)).map (x :: ·):=by unfold P7;rw[EM];simp
end
theorem a18 {a b:Str}(g:Way (ps++[(x,y)]) a b):Way ps a b\/((a=x\/Way ps a x)/\(y=b\/Way ps y b)):=by
 induction g with
 |one e=>
   rcases A0B.mp e with e|e
   . exact .inl (.one e)
   have e:=A1C.mp e
   cases e;exact .inr ⟨.inl rfl,.inl rfl⟩
 |cons e _ F=>
   rcases A0B.mp e with e'|e'
   . rcases F with F|⟨h1,h2⟩
     . exact .inl (.cons e' F)
     refine .inr ⟨.inr ?_,h2⟩;rcases h1 with h1|h1
     . exact .one (h1 ▸ e')
     exact .cons e' h1
   have O:=A1C.mp e'
   cases O;rcases F with F|⟨_,h2⟩
   . exact .inr ⟨.inl rfl,.inr F⟩
   exact .inr ⟨.inl rfl,h2⟩
theorem HalfW.said {ns:AA}(h:(E,ps))(Z:x∈ns)(hy:y∈ns)(Y:x≠y)(U:¬ Way ps y x)(hl:ps.length+1<=1000):HalfW ns (ps++[(x,y)]):=by
 refine⟨h.nd,(h.more Z hy).mem,λz g=>?_,h.few,by rw[BL,CU];exact hl⟩;rcases a18 g with g|⟨O,F⟩
 . exact h.irr z g
 rcases O with rfl|O
 . rcases F with F|F
   . exact Y F.symm
   exact U F
 rcases F with rfl|F
 . exact U O
 exact U (F.trans O)
noncomputable def ItE (K:W.Frag)(a:Addr):It:=
 ⟨λi H=>∃ xs x,(N,a)/\xs[i]? = some x,λi H v H'=>∃ t x,H t=none/\H'=(66,t,[.int i,x])/\v = .ref t/\∀ xs,(N,a)->xs[i]? = some x,λi H=>∃ xs,(N,a)/\xs.length=i⟩
theorem Xg {P:Program}{w:World}{K:W.Frag}{a6:List Expr}{ek:Nat}{a7:Pos}(a it e:Addr)(a0:e≠it)(a2:a≠it)(aA:a≠e):Ye P w K (.Tuple a6 ek a7) (ItE K a) [e,it] e (λi h=>(∃ old,IsEnum h e it i old)/\h.IsListIter it a i) where
 mem:=by simp
 obj:=λi h st b hb=>by
  obtain⟨⟨old,h1⟩,o,h2,h3,h4⟩:420:=st;rcases A0A.mp hb with rfl|hb
  . exact⟨_,h1,λv z=>by cases z⟩
  have q:b=it:=by simpa using hb
  subst q;exact⟨o,h2,λv z=>by rw[h4] at z;cases z⟩
 keep:=λi h h' st k=>by obtain⟨⟨old,h1⟩,h2⟩:=st;exact⟨⟨old,k e 'c' _ h1⟩,h2.at λo q=>k it 'c' o q⟩
 item:=by
  intro X hP hw Z hc i pins s σ H E I hf st hg;subst hP hw Z;obtain⟨xs,x,U,F⟩:2:=hg;obtain⟨its,Y,p,hz⟩:1:=I.list U
  have aD:i<its.length:=by have:=(A01.mp F).1;rw[<- Y.length];exact this
  have D:=Draws.list (prog:=X.prog) (w:=X.w) (A:=X.A.in1) (by simpa using I.ok.hd hc) it a a2 its.toArray;obtain⟨⟨old,he⟩,O⟩:=st;have a4:e<s.heap.objs.size:=BF he;have aE:it<s.heap.objs.size:=let ⟨_,q,_⟩:=O;BF q;refine wpAny_pyNext_enum_itemD D he ⟨O,(PlainL.isList p)⟩ (by simpa using aD) a0 (by simp[a0,Ne.symm aA]) λv h1 tk hv ho aG hT hsz hk=>?_;obtain⟨u,hu,ru⟩:1:=Y.get F
  have aH:v=u:=by have a5:its.toArray[i]? = some v:=hv;rw[ID,hu] at a5;exact(BR a5).symm
  subst aH;refine⟨_,rfl,wpAny_letOwnedTupleGo_enum ho λh2 aC a1=>?_⟩;have a9:H s.heap.objs.size=none:=(61,_);have a8:h2.get? s.heap.objs.size=some {cls:=.type "tuple",data:=.seq #[.int i tk,v]}:=(a1.2 _ (EY a4)).trans hT
  have I1:Inv X pins σ ((66,s.heap.objs.size,[.int i,x])) {s with heap:=s.heap.push {cls:=.type "tuple",data:=.seq #[.int i tk,v]}}:=
   I.laid (t':=s.toks) (λb ob q=>Heap.get?_push_of_some _ q) (Nat.le_refl _) ⟨by simp[sizeLine_eq],[.int i tk,v],(32,⟨tk,rfl⟩,ru,.nil),_,Heap.get?_push_size _ rfl,rfl,⟨_,rfl⟩,rfl⟩
  have nT:∀ b∈[e,it],b≠s.heap.objs.size:=λb hb=>by
   rcases A0A.mp hb with rfl|hb
   . exact BN a4
   have q:b=it:=by simpa using hb
   subst q;exact BN aE
  have I2:Inv X pins σ ((66,s.heap.objs.size,[.int i,x])) {s with heap:=h2,toks:=tk+1}:=Inv.turnedL (s:={s with heap:=s.heap.push {cls:=.type "tuple",data:=.seq #[.int i tk,v]}}) (ch:=[e,it]) I1 (λb ob hb q=>?_) (λb hb=>?_)
  . refine⟨.ref s.heap.objs.size,_,I2,rfl,⟨_,x,a9,rfl,rfl,λys hy=>by rw[I.list_inj hy U];exact F⟩,⟨⟨_,by simpa using aC⟩,aG.1.at λo q=>(a1.2 it (Ne.symm a0)).trans q⟩,λb hb=>?_⟩;rw[Ap (nT b hb)];exact(hf b hb).1
  . have a3:b≠e:=λz=>hb (by simp[z]);have aB:b≠it:=λz=>hb (by simp[z]);rcases Heap.get?_push_cases q with ⟨rfl,rfl⟩|q
    . exact a8
    exact(a1.2 b a3).trans (hk b ob a3 aB q)
  obtain⟨f0,f1,f2,f3,f4,f5⟩:0:=hf b hb;exact⟨by rw[Ap (nT b hb)];exact f0,f1,f2,f3,f4,f5⟩
 done:=by
  intro X hP hw Z hc i pins s σ H E I hf st hg;subst hP hw Z;obtain⟨xs,U,F⟩:1:=hg;obtain⟨its,Y,p,hz⟩:1:=I.list U;obtain⟨⟨old,he⟩,O⟩:=st;have aF:its.toArray.size=i:=by rw[CB,<- Y.length];exact F
  have D:=Draws.list (prog:=X.prog) (w:=X.w) (A:=X.A.in1) (by simpa using I.ok.hd hc) it a a2 its.toArray;rw[aF] at D;refine wpAny_pyNext_enum_endD D he ⟨O,(PlainL.isList p)⟩ λh' hk=>⟨rfl,I.turnedL (t':=s.toks) (ch:=[e,it]) (λb o hb q=>hk b o (λz=>hb (by simp[z])) q) hf⟩
 self:=by intro A i s Q E st hQ;obtain⟨⟨old,he⟩,_⟩:=st;exact II he hQ
section
variable {X:Cx}{K:W.Frag}
noncomputable def a68 (K:W.Frag)(vs:List V)(H:Hp)(R:It->Hp->Prop):Prop:=∃ a xs,vs=[.ref a]/\(N,a)/\R (ItE K a) H
noncomputable def al7 (K:W.Frag)(ta:TA):TI:=fun σ H R=>ta σ H λvs H1=>a68 K vs H1 R
theorem TX {ta:TA}{p pos:Pos}{a0:List Expr}{Z:Nat}{a1:Pos}(hg:Gl X "enumerate")(hm:X.mg "enumerate" = none)(ha:PA X [e] ta)(hK:X.K=K:=by ac_nf)(hs:(29,[e])=[(false,(s,e))]:=by ac_nf) :
 PI X (.Tuple a0 Z a1) ((60,"enumerate",p,[e],[],pos)) (al7 K ta):=by
 subst hK;intro pins s σ H R I h;refine Call_ (Ka I hg hm J3 (FA (BD (ha pos pins s σ H _ I h) λus F ⟨vs,H1,O,r1,q1⟩=>?_) hs rfl));obtain⟨a,xs,rfl,hq,q⟩:2:=q1;obtain⟨u,rfl,ru⟩:1:=Vals.one r1
 cases ru;obtain⟨its,rv,Y,hz⟩:1:=O.list hq;have U:a<F.heap.objs.size:=let ⟨_,q,_⟩:=(PlainL.isList Y);BF q;refine call_enumerate_list (PlainL.isList Y) λh' he a2 _ hk=>?_;refine II he ?_;refine⟨F.heap.objs.size+1,[F.heap.objs.size+1,F.heap.objs.size],_,_,H1,rfl,O.kept (t':=F.toks) hk,Xg a F.heap.objs.size (F.heap.objs.size+1) (Nat.succ_ne_self _) (BN U) (BN (FE U)),⟨⟨_,he⟩,a2⟩,λb hb=>?_,q⟩;rcases A0A.mp hb with rfl|hb
 . exact O.fpOk (EZ _) (O.hok.fresh (EZ _))
 have e:b=F.heap.objs.size:=by simpa using hb
 subst e;exact O.fpOk (BE _) (109,_)
end
section
variable {K:W.Frag}{σ:St}
theorem i_ienumL {ts:TA}{R:It->Hp->Prop}(k:ts σ H λvs H1=>a68 K vs H1 R):al7 K ts σ H R:=k
theorem YA {n:Nat}{tb:TS}{D:Ends}(h:(N,a))(Pv:Nat->St->Hp->Prop)(O:Pv 0 σ H)(U:∀ i σ' H',(24,i)->SqL K H' a xs)
 (Y:∀ i x σ' H' H2,xs[i]? = some x->(24,i)->Same H' H2->tb {D with nx:=Pv (i+1),ct:=Pv (i+1),bk:=D.nx} ((σ'.set n (K,i)).set m (some x)) H2) (hd:∀ σ' H',(24,xs.length)->D.nx σ' H') :
 a68 K [.ref a] H λJ H1=>ae9 (ax6 K 2 (Oi (Jf n) (Oi (Jf m) aA4))) tb D σ J H1:=by
 refine⟨a,xs,rfl,h,λi k σ' H'=>k=xs.length-i/\i<=xs.length/\(24,i),⟨xs.length,by simp,Nat.zero_le _,O⟩,?_⟩;rintro i k σ' H' ⟨rfl,hi,p⟩;have g:=U i σ' H' p
 by_cases F:i<xs.length
 . refine .inr ⟨⟨xs,xs[i],g,BJ F⟩,Pv (i+1),fun σ2 H2 p2=>⟨xs.length-(i+1),by omega,rfl,F,p2⟩,λv H2 y=>?_⟩;obtain⟨t,x,Z,rfl,rfl,hx⟩:2:=y;exact⟨t,_,rfl,AK Ab,rfl,.int i,[x],rfl,x,[],rfl,rfl,Y i x σ' H' _ (hx xs g) p (AO Z)⟩
 have e:i=xs.length:=by omega
 subst e;exact .inl ⟨⟨xs,g,rfl⟩,hd σ' H' p⟩
end
end L2
namespace L2
open PySem PySem.Spec PyProof.Rows
open PySem PySem.W PyProof.Rows
end L2
namespace L2
open PySem PySem.Spec PyProof.Rows
variable {e:Addr}{ep:Nat}
theorem Wg {ns:AA}{ps:AB}(hn:ns.Nodup){p:Str×Str}(h:p∈(O,ns)):p.1≠p.2:=by
 unfold unP unK at h;rw[A2O] at h;obtain⟨i,hi,h⟩:1:=h;have O:=A1W.mp hi;unfold unR at h;obtain⟨y,Y,rfl⟩:1:=A0D.mp h;have Z:=(A0M.mp Y).1;intro (e:(L,"") = y);have U:(L,"") = ns[i]:=by simp[O]
 have F:(ns.drop i).Nodup:=hn.sublist (HK _ _);rw[HV O] at F;exact(A0W.mp F).1 (by rw[<- U,e];exact Z)
section
variable {κ:Type}[DecidableEq κ]{P:Program}{w:World}{kd:KeyKind P w κ}{A:Around}{E:AG}{z:Shared}
theorem ZP {U:List (κ×Value)}{G:Bool->Shared->Prop}(nd:(e==sysModules)=false)(od:z.heap.DictOf kd e U)(go:G false z) :
 wpAny ((16,P)) A (Builtin.List.listLengthHint (.ref e)) G E z:=by
 unfold Builtin.List.listLengthHint;refine(AY (wpAny_specialOf od.typeIs (F.slot_dict_len).lookup ?_));generalize O:("dict.__len__":String)=which
 wp_delta
 rw[show splitId which=some ("dict","__len__") from(by subst O;decide +kernel)];subst O;refine(AY (wpAny_isInstance (T:="dict") (b:=true) od.typeIs (by rw[isSubtype_type];kernel_rfl) ?_));refine(wpAny_ite_split (λno=>absurd no nofun) (λ_=>?_));refine(wpAny_ite_split (λ_=>?_) (λno=>absurd 'f' no));refine(AY (DT (T:="dict") od.typeIs ?_));exact BC go
theorem U1 {R:Result->Shared->Prop}{O:List (κ×Value)}(calm:A.handled=none)(nd:(e==sysModules)=false)(od:z.heap.DictAt kd e O ep)(few:O.length<=2 ^ 24)
 (L:Addr) (res:Value) (c0:Nat) (hL:z.heap.get? L=some {cls:=.type "list",data:=.seq #[] c0})
 (go:∀ g tk out c,(∀ b o,b≠L->z.heap.get? b=some o->g.get? b=some o)->g.get? L=some {cls:=.type "list",dict:=none,data:=.seq out c,slots:=#[]} ->
  ItemsOf (λi v=>∃ k x,O[i]? = some (k,x)/\kd.is k v=true) out O.length->R (.ok (.ret res)) {z with heap:=g,toks:=tk}) :
 wpAny (16,P) A.in1 (Builtin.List.listExtendWith (.ref L) (.ref e) res)
  (λfin s'=>match fin with | .done f=>R (.ok f) s' | .again c'=>c'.quiet=true/\codeAny (16,P) A c' R s') (λe s'=>R (.error e) s') z:=by
 have a2:z.TypeIs (.ref e) "dict":=od.dictOf.typeIs
 have Z:L≠e:=λq=>by
  obtain⟨o,h1,h2⟩:1:=a2;rw[<- q,hL] at h1
  cases h1;simp at h2
 have a5:L<z.heap.objs.size:=BF hL;have a6:e<z.heap.objs.size:=od.lt_size;have off:L≠z.heap.objs.size:=BN a5;have W:=(Walks.dictKeys (knd:=kd) (prog:=P) (w:=w) (A:=A.in1) calm z.heap.objs.size e (BN a6) O ep).toS
 have a7:L∉[z.heap.objs.size,e]:=λq=>by
  simp only[List.mem_cons,List.not_mem_nil,or_false] at q;rcases q with q|q
  . exact off q
  exact Z q
 have run:∀(g:Heap) (c1 tk:Nat),g.IsKeyIter z.heap.objs.size e 0 O.length ep->g.DictAt kd e O ep->(∀ b o,b≠L->z.heap.get? b=some o->g.get? b=some o) ->
  g.get? L=some {cls:=.type "list",data:=.seq #[] c1}->codeAny ((16,P)) A (.builtin "list.extend.loop" ⟨[.ref L,.ref z.heap.objs.size,res],[]⟩) R {z with heap:=g,toks:=tk}:=by
  intro g c1 tk it Y keep U;refine(codeAny_extend_loopS W (by rw[CH];omega) L a7 res O.length 0 _ #[] c1 rfl (DJ _) ⟨it,Y⟩ U (ItemsOf.nil _) λs' out c' mv a3 items=>?_);rw[Moved.eq_with mv];refine(go s'.heap s'.toks out c' (λb o hb q=>mv.heap b o (λm=>?_) (keep b o hb q)) a3 items);rcases A0A.mp m with q'|m
  . exact hb q'
  exact absurd (BF q) (by rw[A1C.mp m];exact DH _)
 unfold Builtin.List.listExtendWith;refine(AY (DT (T:="dict") a2 ?_));have n1:Builtin.List.listSameRef (.ref L) (.ref e)=false:=by simp[Builtin.List.listSameRef,Z]
 have n2:(Value.type "dict" == Value.type "list")=false:=by decide
 have n3:(Value.type "dict" == Value.type "tuple")=false:=by decide
 simp only[n1,n2,n3,Bool.or_false,Bool.false_eq_true,if_false];refine(AY (wpAny_pyIter_dict nd od ?_));have Y:=od.push {cls:=.type "dict_keyiterator",data:=.fields #[.ref e,.int 0 0,.int O.length 0,.int ep 0]};refine(AY (DF (ZP nd Y.dictOf ?_)));have a1:(z.heap.push {cls:=.type "dict_keyiterator",data:=.fields #[.ref e,.int 0 0,.int O.length 0,.int ep 0]}).IsKeyIter z.heap.objs.size e 0 O.length ep:=⟨_,(12,_),rfl,rfl⟩;have U:=BH {cls:=.type "dict_keyiterator",data:=.fields #[.ref e,.int 0 0,.int O.length 0,.int ep 0]} hL;refine(wpAny_ite_split (λ_=>?_) (λ_=>BC ⟨IQ F.plain_extend_loop _,run _ c0 _ a1 Y (λb o _ q=>BH _ q) U⟩));refine(AY (wpAny_rule ?_));refine(AY ?_);show wpAny _ _ (updateSeq L (·.push .none) >>= λ_=>updateSeq L (·.pop)) _ _ _;refine(AY (wpAny_updateSeq U rfl ?_));have a0:=EA (Obj.mapSeq (·.push Value.none)) U rfl;refine(wpAny_updateSeq (hz:=by seq_fits) a0 rfl ?_);have a4:=EA (Obj.mapSeq (·.pop)) a0 rfl
 have up:∀ b o,b≠L->(z.heap.push {cls:=.type "dict_keyiterator",data:=.fields #[.ref e,.int 0 0,.int O.length 0,.int ep 0]}).get? b=some o->_:=λb o hb q=>
  ((110,_,Obj.mapSeq (·.pop),hb)).trans (((110,_,Obj.mapSeq (·.push Value.none),hb)).trans q)
 exact BC ⟨IQ F.plain_extend_loop _,run _ _ _ (a1.at λo q=>up _ o (Ne.symm off) q) (Y.at' λo q=>up _ o (Ne.symm Z) q) (λb o hb q=>up b o hb (BH _ q)) a4⟩
theorem Yy {R:Result->Shared->Prop}{F:List (κ×Value)}(calm:A.handled=none)(nd:(e==sysModules)=false)(od:z.heap.DictAt kd e F ep)(few:F.length<=2 ^ 24)
 (L:Addr) (O:z.heap.get? L=some {cls:=.type "list",data:=.seq #[]})
 (go:∀ g tk out c,(∀ b o,b≠L->z.heap.get? b=some o->g.get? b=some o)->g.get? L=some {cls:=.type "list",dict:=none,data:=.seq out c,slots:=#[]} ->
  ItemsOf (λi v=>∃ k x,F[i]? = some (k,x)/\kd.is k v=true) out F.length->R (.ok (.ret .none)) {z with heap:=g,toks:=tk}) :
 wpAny (16,P) A.in1 (Builtin.«list.__init__» ⟨[.ref L,.ref e],[]⟩)
  (λfin s'=>match fin with | .done f=>R (.ok f) s' | .again c'=>c'.quiet=true/\codeAny (16,P) A c' R s') (λe s'=>R (.error e) s') z:=by
 have U:e≠L:=λq=>by
  obtain⟨o,h1,h2⟩:1:=od.dictOf.typeIs (s:=z);rw[q,O] at h1
  cases h1;simp at h2
 show wpAny _ _ (do let was <- Builtin.List.listItems (.ref L);Builtin.List.listUpdate (.ref L) (λ_=>#[]);letGo was.toList.reverse;Builtin.List.listExtendWith (.ref L) (.ref e) .none) _ _ z
 refine(AY ?_);unfold Builtin.List.listItems;refine(AY (HN O rfl (BC ?_)));show wpAny _ _ (updateSeq L (λ_=>#[]) >>= λ_=>letGo (#[]:Array Value).toList.reverse >>= λ_=>Builtin.List.listExtendWith (.ref L) (.ref e) .none) _ _ z;refine(AY (wpAny_updateSeq O rfl ?_));have Z:=EA (Obj.mapSeq (λ_=>(#[]:Array Value))) O rfl
 have up:∀ b o,b≠L->z.heap.get? b=some o->(z.heap.update L (Obj.mapSeq (λ_=>(#[]:Array Value)))).get? b=some o:=
  λb o hb q=>((110,_,_,hb)).trans q
 refine(AY (wpAny_letGo ?_));refine(U1 calm nd (od.at' λo q=>up e o U q) few L .none _ Z λg tk out c keep Y items=>?_);exact go g tk out c (λb o hb q=>keep b o hb (up b o hb q)) Y items
theorem Op {Q:AG}{O:List (κ×Value)}(calm:A.handled=none)(nd:(e==sysModules)=false)(od:z.heap.DictAt kd e O ep)(few:O.length<=2 ^ 24)
 (go:∀ g tk out c,(∀ b o,z.heap.get? b=some o->g.get? b=some o)->g.get? z.heap.objs.size=some {cls:=.type "list",dict:=none,data:=.seq out c,slots:=#[]} ->
  ItemsOf (λi v=>∃ k x,O[i]? = some (k,x)/\kd.is k v=true) out O.length->Q (.ref z.heap.objs.size) {z with heap:=g,toks:=tk}) :
 wpAny ((16,P)) A (call (.type "list") [.ref e]) Q E z:=by
 refine callType_codes (Q₁:=λnew Y=>new = .ref z.heap.objs.size/\Y={z with heap:=z.heap.push {cls:=.type "list",data:=.seq #[]}}) F.called_list (F.typeCall_list_1 _) F.entry_list_init
  (code_list_new _ ⟨rfl,rfl⟩) λnew Y Z=>?_
 obtain⟨rfl,rfl⟩:=Z;have U:(z.heap.push {cls:=.type "list",data:=.seq #[]}).get? z.heap.objs.size=some {cls:=.type "list",data:=.seq #[]}:=(12,_);refine⟨⟨_,U,rfl⟩,F.args_list_init_2 _ _,Yy (A:=A.in1) calm nd (od.push _) few _ U λg tk out c keep a0 items=>?_⟩;exact⟨rfl,go g tk out c (λb o q=>keep b o (BN (BF q)) (BH _ q)) a0 items⟩
end
section
variable {X:Cx}{K:W.Frag}
noncomputable def am1:List V->Hp->VK->Prop:=λxs H Q=>∃(d:Addr) (kvs:List (Key×V)),xs=[.ref d]/\H d=(6,kvs)/\kvs.length<=1000000/\∀ l,H l=none->(C,l,(S,H,l,(kvs.map λkv=>kV kv.1)))
theorem Pc (hc:X.calm=true):CallR X (.type "list") am1:=by
 intro pins s σ H xs us Q I r h;obtain⟨d,kvs,rfl,hd,hz,q⟩:2:=h;obtain⟨u,rfl,ru⟩:1:=Jx r
 cases ru;obtain⟨_,hs,vs,O,U⟩:440:=Tt I.hok hd;obtain⟨ep,Z⟩:=U.dictAt;have a1:=O.length;refine Op (by simpa using I.ok.hd hc) hs Z ∅ λg tk out c keep Y items=>?_;refine⟨.ref s.heap.objs.size,_,I.laid (t':=tk) (o:=.lst (kvs.map λkv=>kV kv.1)) keep (Nat.le_refl _) ⟨?_,out.toList,c,T6 ?_ ?_,by simpa using Y⟩,rfl,q _ (I.hok.fresh (Nat.le_refl _))⟩
 . rw[BA,CH];omega
 . have e1:=items.1;have e2:out.toList.length=out.size:=HD;have e3:(kvs.map λkv=>kV kv.1).length=kvs.length:=BA ..;omega
 intro i a b ha hb;rw[Array.getElem?_toList] at hb;obtain⟨k,x,a0,hk⟩:2:=items.2 i b hb
 have F:kvs[i]?.map (·.1)=some k:=by rw[<- BK,O.keys,BK,a0];rfl
 rw[BK] at ha
 cases g:kvs[i]? with
 |none=>rw[g] at ha;cases ha
 |some kv=>
   rw[g] at ha F
   cases ha;have e:kv.1=k:=BR F;subst e;exact Yh hk
theorem Yc {d:Addr}{kvs:List (Key×V)}{H:Hp}{Q:VK}(h:H d=(6,kvs))(hz:kvs.length<=1000000)(k:∀ l H',H l=none->(5,H')->H' l=(2,(kvs.map λkv=>kV kv.1))->(D,l)):am1 [.ref d] H Q:=
 ⟨d,kvs,rfl,h,hz,λl hl=>k l _ hl (AO hl) Ab⟩
end
theorem HalfW.cl_few {ns:AA}{ps:AB}(h:(E,ps))(F:ns.length<=10):(clP ns ps).length+((O,ns)).length<=45:=by
 have h1:=V1 (ns:=ns) (ps:=ps) h.irr
 have O:(ns.length:Int)*((ns.length:Int)-1)<=10*9:=by
  have a:(ns.length:Int)<=10:=by omega
  rcases A4O ns.length with e|e
  . rw[e];decide
  exact Int.mul_le_mul a ∅ ∅ ∅
 omega
section
variable {ns ns':AA}{ps ps' bs:AB}
theorem MY (h:(E,ps))(F:ns.length<=10):(baP ns ps).length<=45:=by have:=h.cl_few F;have:(baP ns ps).length<=(clP ns ps).length:=CM _ _;omega
theorem XS (h:(E,ps))(F:ns.length<=10):HalfW ns (baP ns ps):=h.ba (BI (MY h F) nofun)
end
section
variable {α:Type}[DecidableEq α]{b:α->α->Bool}{L:List α}
theorem Wq (xs ys:List α):P7 b L (xs++ys)=P7 b L xs++P7 b L ys:=by unfold P7;rw[EM]
theorem ad3 (x:α):P7 b L [x]=(ext b (L.length-1) (c,L)).map (x :: ·):=by unfold P7;simp
theorem UC (U:L≠[]){m n:Nat}{x:α}{r:List α}(hm:((e,L))[m]? = some x)(hn:(P7 b L (((e,L)).take m)).length<=n)
 (F:(ext b (L.length-1) (c,L))[n-(P7 b L (((e,L)).take m)).length]? = some r):(ext b L.length L)[n]? = some (x :: r):=by
 rw[<- Wd b U]
 have e:(e,L)=((e,L)).take m++([x]++((e,L)).drop (m+1)):=by
  have O:m<((e,L)).length:=(A01.mp hm).1;have h1:=HV O;have h2:((e,L))[m]=x:=(A01.mp hm).2;rw[h2] at h1
  conv=>lhs;rw[<- List.take_append_drop m (e,L),h1]
  rfl
 rw[e,Wq,Wq,ad3];rw[KH hn,FK (by rw[BA];exact(A01.mp F).1),BK,F];rfl
end
noncomputable def aH9:List V->Hp->VK->Prop:=λxs H Q=>∃ i:Int,xs=[.int i]/\i.natAbs.log2<1920/\(17,toString i,H)
theorem Y2 {X:Cx}:CallR X (.builtin "repr") aH9:=by intro pins s σ H xs us Q I r h;obtain⟨i,rfl,hz,q⟩:1:=h;obtain ⟨u,rfl,t,rfl⟩:421:=Jx r;exact PySem.P.repr_of_int hz ⟨.str _,H,I.tok _,⟨_,rfl⟩,q⟩
noncomputable def xB:AC:=[.type "ValueError",.type "Exception",.type "BaseException",.type "object"]
noncomputable def aJ8 (K:W.Frag)(C:Addr):Bool:=match K.lookup C with
 |some ⟨.type "type",_,.cls cd,sl⟩=>(match cd.mro,sl.toList with
   |.ref D :: bm,[_,_,_,_,some (.builtin n),_]=>D==C&&n == "ValueError.__new__" && !cd.hasDel&&cd.hasDict&&W.tailIn K xB bm
   |_,_=>false)
 |_=>false
theorem Mx {K:W.Frag}{C:Addr}(q:aJ8 K C=true):∃(nm qn:Str) (N:Addr) (bs F:AC) (sn:AA) (sub:AC) (Y:Bool) (col:Option Bool) (Z:Option Addr) (O k1 k2 k3 U:Option Value),
 K.lookup C=some (excClassObj nm qn C N bs F true sn sub Y col Z O k1 k2 k3 U "ValueError.__new__")/\W.tailIn K xB F=true:=by
 unfold aJ8 at q
 split at q
 . rename_i Z cd sl ho
   split at q
   . rename_i D F O k1 k2 k3 n U hm hs;simp only[Bool.and_eq_true,beq_iff_eq,Bool.not_eq_true'] at q;obtain⟨⟨⟨⟨e1,e2⟩,a1⟩,a0⟩,ht⟩:=q;subst e1 e2;obtain⟨nm,bs,mro,ns,qn,hd,sn,sub,Y,col,a2⟩:=cd;dsimp only at hm a1 a0;subst hm a1 a0
     have e3:sl = #[O,k1,k2,k3,some (.builtin "ValueError.__new__"),U]:=by obtain⟨l⟩:=sl;simp only at hs;rw[hs]
     subst e3;exact⟨nm,qn,ns,bs,F,sn,sub,Y,col,Z,O,k1,k2,k3,U,ho,ht⟩
   cases q
 cases q
theorem Yx (self:Value){h:Heap}{l:AC}(T:OwnTail h xB l):refuseLoop self "__setattr__" l=pure ():=by
 induction T with
 |base=>exact PySem.F.store_ValueError.passes self
 |own _ _ _ _ ih=>rw[refuseLoop_ref];exact ih
theorem NO {h:Heap}{l:AC}(T:OwnTail h xB l):l.contains (.type "BaseException")=true:=T.hasType 'f'
end L2
namespace L2
open PySem PySem.Spec PyProof.Rows
open PySem PySem.Spec PyProof.Rows Builtin Builtin.ObjectAttr
variable {ox:Obj}{od:Option Obj}{Q:Unit->Shared->Prop}
structure XC (K:W.Frag)(C:Addr):Prop where
 ex:aJ8 K C=true
 sa:(Q,C,"__setattr__") = (46,"object.__setattr__")
 ga:(Q,C,"__getattribute__") = (46,"BaseException.__getattribute__")
 gt:(Q,C,"__getattr__") = some none
 cl:(Q,C,"__class__") = (46,"object.__class__")
 cg:W.specialIn K (.builtin "object.__class__") "__get__" = (46,"getset_descriptor.__get__")
 ct:W.takesIn K (.builtin "object.__class__")=some true
section
variable {prog:Program}{w:World}{A:Around}{E:AG}{s:Shared}{K:W.Frag}{C x:Addr}{name:Str}{v:Value}
theorem XC.cls (c:XC K C):∃ cd,W.clsIn K C=some cd/\cd.hasDict=true/\∃ F,cd.mro = .ref C :: F/\W.tailIn K xB F=true:=by obtain⟨nm,qn,N,bs,F,sn,sub,U,col,Y,Z,k1,k2,k3,k5,hl,O⟩:15:=Mx c.ex;exact⟨_,by unfold W.clsIn;rw[hl],rfl,F,rfl,O⟩
theorem XC.mro (c:XC K C){h:Heap}(X:K.In h){T:String}(F:xB.contains (.type T)=true):W.mroIn K C (.type T)=some true:=by obtain⟨cd,O,_,Y,hm,U⟩:441:=c.cls;unfold W.mroIn;rw[O,Option.bind_some,hm,if_neg 'c'];rw[FZ,(FV X U).hasType F,Bool.or_true]
theorem KN {R:Result->Shared->Prop}{tk:Tok}(c:XC K C)(X:K.In s.heap)(I:W.InstAt s.heap x ox C od)(Z:(Q,C,name)=some none)
 (h:∀ b,wpAny (G,w) A.in1 (storeInOwnDict (.ref x) (.ref C) (.str name tk) name v b)
  (λfin s'=>match fin with | .done f=>R (.ok f) s' | .again c'=>c'.quiet=true/\codeAny (G,w) A c' R s') (λe s'=>R (.error e) s') s) :
 codeAny ((G,w)) A (.call (.builtin "object.__setattr__") ⟨[.ref x,.str name tk,v],[]⟩) R s:=by
 have O:=PySem.F.store_object;obtain⟨cd,U,hd,bm,Y,a0⟩:441:=c.cls;have T:=FV X a0;have sub:W.Looks ((G,w)) s.heap (isInstance (.ref x) (.type "object")) true:=I.type.andThen (IW X (c.mro X 'f'));refine codeAny_call_builtin O.slot.plain O.entry (@PySem.W.check_slot (G,w) _ _ s "object.__setattr__" "object" "__setattr__" (.ref x) [.str name tk,v] [] _ O.kind O.split sub (O.args (.ref x) (.str name tk) v) ?_);have hm:W.Looks ((G,w)) s.heap (mroOf (.ref C)) cd.mro:=(IJ X U).andThen .now;have l3:W.Looks ((G,w)) s.heap (storeTaker? none) none:=.now;rw[W.osa_eq,refuse_eq];refine AY (AY (I.type.here (AY (hm.here ?_))));rw[Y,refuseLoop_ref,Yx _ T];refine BC (AY (I.type.here (AY ((HE X Z).here (AY (l3.here ?_))))));exact h _
theorem QL {vs:Array Value}{O:(121,Value)}(c:XC K C)(X:K.In s.heap)(F:s.heap.get? x=some ⟨.ref C,none,.fields vs,O⟩)(ht:(Q,C,name)=some none)
 (hq:∀ h',h'.Ns1 s.heap.objs.size (λy=>if y=name then some v else none)->h'.get? x=some ⟨.ref C,some s.heap.objs.size,.fields vs,O⟩->(∀ b o,b≠x->s.heap.get? b=some o->h'.get? b=some o)->Q () {s with heap:=h',toks:=s.toks+2}) :
 wpAny ((G,w)) A (setAttr (.ref x) name v) Q E s:=by
 have J:W.InstAt s.heap x ⟨.ref C,none,.fields vs,O⟩ C none:=⟨F,rfl,rfl,CT⟩;obtain⟨cd,hc,hd,bm,a8,a9⟩:441:=c.cls;refine W.set_plain X J c.sa (KN (s:={s with toks:=s.toks+1}) c X J ht λb=>?_)
 refine(19,AY (AY (IM F (AY (KI (s:={s with toks:=s.toks+1}) (IJ X hc) ?_)))))
 rw[hd];have a0:(s.heap.push {cls:=.type "dict",data:=.dict #[]}).get? x=some ⟨.ref C,none,.fields vs,O⟩:=BH _ F;have a1:x≠s.heap.objs.size:=BN (BF F);refine AY (wpAny_alloc' ?_);refine AY (wpAny_update' a0 ?_);refine BC ?_
 have a4:((s.heap.push {cls:=.type "dict",data:=.dict #[]}).update x λo=>{o with dict:=some s.heap.objs.size}).get? s.heap.objs.size=some {cls:=.type "dict",data:=.dict #[]}:=
  (Heap.get?_update_ne _ _ _ _ a1.symm).trans (Heap.get?_push_at rfl rfl)
 have hnd:((s.heap.push {cls:=.type "dict",data:=.dict #[]}).update x λo=>{o with dict:=some s.heap.objs.size}).Ns s.heap.objs.size (λ_=>none):=
  ⟨_,#[],_,a4,rfl,λe he=>(65,he),λ_=>rfl⟩
 show wpAny _ _ (storeInDict s.heap.objs.size (.str name _) name v) _ _ _;unfold storeInDict newKeyGuard;refine(19,AY (wpAny_nsSet1 (Heap.Ns1.of_empty hnd) λh' Y Z=>?_));obtain⟨oD,a7,a6,a5,a3,a2⟩:3:=Y.count (Within.cons name v Within.nil);refine AY (wpAny_lookBehind a5 (by rw[a3];exact pastItsLine_dict (BI a2 (by rw[BO,List.length_nil,CH];omega))) ?_);refine BC (hq h' Y ((Z.2 x a1).trans (EA _ a0 rfl)) λb o hb U=>?_);exact(Z.2 b (BN (BF U))).trans ((Heap.get?_update_ne _ _ _ _ hb).trans (BH _ U))
theorem ZI {dx:Addr}{mA:AH}{ns:AA}{vs:Array Value}{U:(121,Value)}(c:XC K C)(X:K.In s.heap)(O:s.heap.get? x=some ⟨.ref C,some dx,.fields vs,U⟩)(hn:s.heap.Ns1 dx mA)
 (hw:Within mA ns) (hz:ns.length<=sizeLine) (ht:(Q,C,name)=some none)
 (hq:∀ h',h'.Ns1 dx (λy=>if y=name then some v else mA y)->Heap.SameBut dx s.heap h'->Q () {s with heap:=h',toks:=s.toks+2}) :
 wpAny ((G,w)) A (setAttr (.ref x) name v) Q E s:=by
 obtain⟨od,_,_,a2,_⟩:3:=id hn;have J:W.InstAt s.heap x ⟨.ref C,some dx,.fields vs,U⟩ C (some od):=⟨O,rfl,rfl,a2⟩;obtain⟨cd,Y,hd,bm,a6,a7⟩:441:=c.cls;refine W.set_plain X J c.sa (KN (s:={s with toks:=s.toks+1}) c X J ht λb=>?_)
 refine(19,AY (AY (IM O (AY (KI (s:={s with toks:=s.toks+1}) (IJ X Y) ?_)))))
 rw[hd];refine BC (a:=some dx) (19,AY ?_);refine wpAny_nsSet1 (s:={s with toks:=s.toks+1}) hn λh' F a3=>?_
 obtain⟨oD,a5,a4,a1,a0,Z⟩:3:=F.count (Within.cons name v hw);refine AY (wpAny_lookBehind a1 (by rw[a0];exact pastItsLine_dict (BI Z (by rw[BO];omega))) ?_);exact BC (hq _ F a3)
theorem RS {M:Model}{O:Value}(c:XC K C)(X:K.In s.heap)(I:W.InstAt s.heap x ox C od)(U:Q () s) :
 wpAny M A (checkBuiltinCall "BaseException.__getattribute__" ⟨[.ref x,O],[]⟩) Q E s:=by
 have sub:W.Looks M s.heap (isInstance (.ref x) (.type "BaseException")) true:=I.type.andThen (IW X (c.mro X 'f'));exact @PySem.W.check_slot M _ _ s "BaseException.__getattribute__" "BaseException" "__getattribute__" (.ref x) [O] [] _ 'f' 'f' sub (PySem.F.args_bexc_ga (.ref x) O) U
theorem RF {fill O:Bool}{tk:Tok}{Q:AG}(c:XC K C)(X:K.In s.heap)(I:W.InstAt s.heap x ox C od)
 (h:wpAny (G,w) A.in1 (Builtin.«object.__getattribute__» ⟨[.ref x,.str name tk],[]⟩)
  (λfin s'=>match fin with | .done (.ret v)=>wpAny (G,w) A (handedOut v) Q E s' | _=>False) (λ_ _=>False) s):wpAny ((G,w)) A (getAttrBy (.ref x) (.str name tk) fill O) Q E s:=by
 obtain⟨Z,g,d,t,os⟩:=s;have l0:=I.type (M:=(G,w));have l1:=HE (M:=model prog w) X c.ga;have l2:=HE (M:=model prog w) X c.gt;have Y:=PySem.F.excAttr_ValueError.ga.bind (.ref x);have U:(Value.builtin "BaseException.__getattribute__" == Value.builtin "object.__getattribute__")=false:=by decide +kernel
 unfold getAttrBy;refine DF (AY (l0.at (AY (l1.at ?_))));show wpAny _ _ (if(onTheHeap (Value.ref C)&&Value.builtin "BaseException.__getattribute__" == Value.builtin "object.__getattribute__")=true then _ else _) _ _ _
 rw[U,HB,AZ nofun];unfold getAttrByItsOwn hookBefore;rw[BB (show onTheHeap (Value.ref C)=true from rfl)];refine AY (l2.at (AY (wpAny_attempt (DF ?_))));unfold callGetattribute;rw[AZ (by cases O<;>decide)]
 unfold boundAndCalled;rw[Y];refine(19,wpAny_call (codeAny_call_builtin PySem.F.excAttr_ValueError.ga.plain PySem.F.entry_bexc_ga (RS (s:=⟨Z,g,d,t,os⟩) c X I ?_)));refine DB h (λfin s' z=>?_) λ_ _ z=>z.elim;rcases fin with (_ | _ | _ | _) | _<;>first | exact z | exact z.elim
theorem YR {Q:Option Value->Shared->Prop}(c:XC K C)(X:K.In s.heap)(I:W.InstAt s.heap x ox C od)(h:Q ((3,C)) {s with toks:=s.toks+1}) :
 wpAny ((G,w)) A (getAttr? (.ref x) "__class__") Q E s:=by
 obtain⟨F,g,d,t,os⟩:=s;obtain⟨cd,O,hd,Z,a0,a1⟩:441:=c.cls;have U:=I.type (M:=(G,w))
 have hf:W.findObj K C od "__class__" = some (.bind (.builtin "getset_descriptor.__get__") (.builtin "object.__class__")):=by unfold W.findObj;simp only[O,c.cl,c.cg,c.ct,Option.bind_some]
 have Y:=W.looks_find (M:=model prog w) X I hf;unfold getAttr? getAttrBy?;refine AY (wpAny_mkText (AY (wpAny_attempt ?_)));refine RF (s:=⟨F,g,d,t+1,os⟩) c X I ?_;refine(19,(19,AY (U.at (AY (Y.at ?_)))));show wpAny _ _ (holding [Value.builtin "object.__class__"] (95,"getset_descriptor.__get__",[.builtin "object.__class__",.ref x,.ref C]) >>= ret) _ _ _;refine AY (DF (wpAny_call (W.class_get (s:=⟨F,g,d,t+1,os⟩) (ox:=ox) (od:=od) X I (c.mro X 'f') ?_)));refine BC ?_;show wpAny _ _ (handedOut (.ref C)) _ _ _;rw[W.handedOut_of rfl];exact BC (BC h)
theorem JL (c:XC K C):W.KitX K (.ref x) (.ref C) (λh=>W.InstAt h x ox C od) where
 ty:=λ_ _ _ I=>I.type
 it:=λ_ _ X _=>by obtain⟨nm,qn,N,bs,U,sn,sub,O,col,F,k0,k1,k2,k3,k5,hl,Y⟩:15:=Mx c.ex;intro A' Q' E' s' k q;unfold isType loadHead;exact AY (IM (k _ _ (X _ _ hl)) (BC q))
 ne:=λh tp F its n sl X Z=>by obtain⟨nm,qn,N,bs,U,sn,sub,O,col,F,k0,k1,k2,k3,k5,hl,Y⟩:15:=Mx c.ex;refine A4U.mpr λq=>?_;have e:C=tp:=IC (A2Y.mp q);subst e;have z:=congrArg Obj.cls (BR ((X _ _ hl).symm.trans Z));exact absurd (Value.type.inj z) nofun
 ca:=λX I k=>YR c X I k
end
end L2
namespace L2
open PySem PySem.Spec PyProof.Rows
variable {a C:Addr}{ts:Array Value}{n':Bool}{X:Cx}{H:Hp}{ds:AD}{xs:List V}{i:Nat}{pos:Pos}{D:PyData}{p0 p1 z:Str}{Q:Unit->Shared->Prop}{E:AG}
noncomputable def exG (n:Bool)(a C:Addr)(od:Option Addr):HO:=.ext λh=>∃ vs sl,h.get? a=some ⟨.ref C,od,.fields vs,sl⟩/\(n=true->vs[1]? = some .none)
noncomputable abbrev exO (a C:Addr)(od:Option Addr):HO:=exG true a C od
noncomputable def xdO (dx:Addr)(fs:List (Str×V)):HO:=.ext λh=>∃ mA,h.Ns1 dx mA/\∀ f,RelO (fs.lookup f) (mA f)
section
variable {P:Program}{w:World}{h:Heap}{dx:Addr}{od:Option Addr}{fs:List (Str×V)}
theorem exG_ok {n:Bool}:ObjOk P w H h a (exG n a C od)↔∃ vs F,h.get? a=some ⟨.ref C,od,.fields vs,F⟩/\(n=true->vs[1]? = some .none):=
 ⟨λx=>x.1,λ⟨vs,F,e,z⟩=>⟨⟨vs,F,e,z⟩,⟨_,e⟩,λh1 h2 ⟨vs,F,e,z⟩ k=>⟨vs,F,k _ e,z⟩⟩⟩
theorem exO_ok:ObjOk P w H h a (exO a C od)↔∃ vs F,h.get? a=some ⟨.ref C,od,.fields vs,F⟩/\(true=true->vs[1]? = some .none):=exG_ok
theorem xdO_ok:ObjOk P w H h dx (xdO dx fs)↔∃ mA,h.Ns1 dx mA/\∀ f,RelO (fs.lookup f) (mA f):=
 ⟨λx=>x.1,λ⟨mA,n,r⟩=>⟨⟨mA,n,r⟩,(let ⟨o,_,_,e,_⟩:=n;⟨o,e⟩),λh1 h2 ⟨mA,n,r⟩ k=>⟨mA,(let ⟨o,es,ep,e,z⟩:=n;⟨o,es,ep,k _ e,z⟩),r⟩⟩⟩
end
noncomputable def Ko (K:W.Frag)(C B:Addr):Bool:=(W.clsIn K C).any λcd=>cd.mro == .ref C :: .ref B :: xB
section
variable {K:W.Frag}{B D:Addr}
theorem XC.ty (c:XC K C):W.typeIn K (.ref C)=some (.type "type"):=by obtain⟨nm,qn,N,bs,O,sn,sub,F,col,U,Z,k1,k2,k3,k5,hl,Y⟩:15:=Mx c.ex;show Option.map (λx=>x.cls) (List.lookup C K)=_;rw[hl];rfl
theorem NK (c:XC K C)(hm:Ko K C B=true)(d:XC K D):W.kitOne K (.ref C) (.ref D)=some (C==D||D==B):=by
 unfold W.kitOne
 by_cases e:C=D
 . subst e;simp
 have U:(Value.ref C==Value.ref D)=false:=A1A.mpr λq=>e (IC q);have Y:(C==D)=false:=A1A.mpr e;rw[AZ (by rw[U];decide),Y,GC];unfold W.kitCls;obtain⟨cd,O,_⟩:1:=d.cls;dsimp only;rw[BB (by rw[O,d.ty];rfl)];show W.mroIn K C (.ref D)=_;obtain⟨cd,O,Z⟩:1:=HP hm;unfold W.mroIn;rw[O,Option.bind_some,beq_iff_eq.mp Z,if_neg 'c'];rw[FZ,FZ,show xB.contains (Value.ref D)=false from rfl,Bool.or_false];congr 1;rw[show(Value.ref D==Value.ref C)=false from A1A.mpr λq=>e (IC q).symm,GC]
 by_cases F:D=B
 . subst F;simp
 rw[show(D==B)=false from A1A.mpr F,A1A.mpr λq=>F (IC q)]
end
section
variable {pins:AI}{σ:St}{s:Shared}{dx:Addr}{fs:List (Str×V)}{f:Str}{v:V}{A:Around}
theorem Ym {mA:AH}(r:∀ f,RelO (fs.lookup f) (mA f)):PySem.Within mA (fs.map (·.1)):=λg F=>by
 cases q:fs.lookup g with
 |none=>exact absurd (RelO.none_of (by rw[<- q];exact r g)) F
 |some v=>exact A0D.mpr ⟨(g,v),FR q,rfl⟩
theorem OP {y:V}{u:Value}(I:(4,s))(e:H a=some (exO a C none))(c:XC X.K C)(n:(48,X.K,f))(ry:(u,y))
 (h:∀ dx s',H dx=none->dx≠a->(T,X,σ,upd (B,dx,xdO dx [(f,y)]) a (exO a C (some dx)),s')->Q () s'):wpAny ((H,X.w)) A (setAttr (.ref a) f u) Q E s:=by
 obtain⟨vs,sl,Y,a0⟩:2:=exO_ok.mp (36,a,e);refine QL c I.kIn Y n λh' hn he U=>?_;have hf:H s.heap.objs.size=none:=(61,_);have a1:s.heap.objs.size≠a:=EY (BF Y);have na:∀ b,H b=none->b≠a:=λb q z=>by rw[z,e] at q;cases q
 have nd:∀ b u,H b=some u->b≠s.heap.objs.size:=λb u q z=>by rw[z,hf] at q;cases q
 have nb:∀ b o,s.heap.get? b=some o->b≠s.heap.objs.size:=λb o q=>BN (BF q);have hu:∀ b o,H b=some o->b≠a->upd (B,s.heap.objs.size,xdO s.heap.objs.size [(f,y)]) a (exO a C (some s.heap.objs.size)) b=some o:=λb o q z=>by rw[Ap z,Ap (nd b o q)];exact q
 refine h _ _ hf a1 (I.un ⟨λb o q z _ _=>U b o (na b z) q,λb o q z _ _=>⟨o.slots,U b o (na b z) q⟩,λb o q z _=>by rw[Ap (na b z),Ap (nb b o q)];exact z,λb o q _=>?_,
  λb xs q=>hu b _ q λz=>?_,λb o u q=>hu b _ q λz=>?_,λb ps q=>⟨#[],?_⟩⟩ λb o q=>?_)
 . by_cases z:b=a
   . subst z;exact⟨_,he⟩
   exact⟨o,U b o z q⟩
 . rw[z,e] at q;cases q
 . rw[z,e] at q;cases q
 . rw[Array.append_empty];exact hu b _ q λz=>by rw[z,e] at q;cases q
 by_cases z:b=a
 . subst z;rw[Ab] at q;cases q;exact exO_ok.mpr ⟨_,_,he,a0⟩
 rw[Ap z] at q
 by_cases Z:b=s.heap.objs.size
 . subst Z;rw[Ab] at q;cases q;refine xdO_ok.mpr ⟨_,hn,λg=>?_⟩;show RelO (List.lookup g [(f,y)]) (if g=f then some u else none)
   by_cases q:g=f
   . have hb:(g==f)=true:=A2Y.mpr q;simp only[List.lookup,hb,if_pos q];exact ry
   have hb:(g==f)=false:=A1A.mpr q;simp only[List.lookup,hb,if_neg q];exact True.intro
 rw[Ap Z] at q;refine(I.hok b o q).stay (λc v F r=>U c v (λO=>?_) r) (λc r=>hu c _ r λO=>?_) λc xs r=>hu c _ r λO=>?_
 . subst O;rcases F with F|F
   . exact z F.symm
   rw[e] at F;cases F
 . rw[O,e] at r;cases r
 rw[O,e] at r;cases r
theorem SE {y:V}{u:Value}(I:(4,s))(e:H a=some (exO a C (some dx)))(ed:H dx=some (xdO dx fs))(c:XC X.K C)(n:(48,X.K,f))(hl:fs.length<1000)(Y:(u,y))
 (h:∀ s',(T,X,σ,(B,dx,xdO dx (M3 f y fs)),s')->Q () s'):wpAny ((H,X.w)) A (setAttr (.ref a) f u) Q E s:=by
 obtain⟨vs,sl,O,Z⟩:2:=exO_ok.mp (36,a,e);obtain⟨mA,hn,r⟩:1:=xdO_ok.mp (36,dx,ed);refine ZI c I.kIn O hn (Ym r) (by rw[BA,CH];omega) n λh' F U=>h _ ?_;have hd:∃ o,h'.get? dx=some o:=let ⟨o,_,_,e',_⟩:=F;⟨o,e'⟩;refine I.write (x:=dx) (e:=dx) (by rw[ed];exact CT) (.inl rfl) (λb q hb z=>(U.2 b hb).trans z) hd (xdO_ok.mpr ⟨_,F,λg=>?_⟩);rw[Jc]
 by_cases q:g=f
 . rw[BB q];show RelO (some y) (if g=f then some u else mA g)
   rw[BB q];exact Y
 rw[AZ q];show RelO _ (if g=f then some u else mA g)
 rw[AZ q];exact r g
end
noncomputable def aP0 (K:W.Frag)(f:Str)(y:V):V->Hp->(Hp->Prop)->Prop:=λx H2 R=>∃ a C,x = .ref a/\XC K C/\(48,K,f) /\
 ((H2 a=some (exO a C none)/\∀ dx,H2 dx=none->dx≠a->R (upd (upd H2 dx (xdO dx [(f,y)])) a (exO a C (some dx)))) \/
   ∃ dx fs,H2 a=some (exO a C (some dx))/\H2 dx=some (xdO dx fs)/\fs.length<1000/\R (upd H2 dx (xdO dx (M3 f y fs))))
noncomputable def ay3 (K:W.Frag)(ta tv:TE)(f:Str):TS:=λD σ H=>tv σ H λy H1=>ta σ H1 λx H2=>aP0 K f y x H2 λH3=>D.nx σ H3
section
variable {o e value:Expr}{f:Str}{pos' tpos:Pos}{ta tv:TE}
theorem XU (ha:PE X o ta)(hv:PE X value tv)(hs:swapsWith value (some (120,o,pos')) pos.line X.env=pure false):PS X (.Assign [(120,o,pos')] value pos) (ay3 X.K ta tv f):=by
 intro pins s σ H D I h;refine plainObj_wpAny_Assign_Attribute (BD (hv pins s σ H _ I h) λu s1 ⟨y,H1,I1,Z,q⟩=>BD (ha pins s1 σ H1 _ I1 q) λov s2 ⟨x,H2,Y,rx,a,C,ex,c,n,F⟩=>?_) hs;subst ex;obtain rfl:ov=Value.ref a:=rx;rcases F with ⟨U,F⟩|⟨dx,fs,U,ed,l,F⟩
 . exact OP Y U c n Z λdx s3 h1 h2 O=>⟨σ,_,O,F dx h1 h2⟩
 exact SE Y U ed c n l Z λs3 O=>⟨σ,_,O,F⟩
end
noncomputable def ExB (n:Bool)(H:Hp)(a C:Addr)(fs:List (Str×V)):Prop:=(fs=[]/\H a=some (exG n a C none))\/∃ dx,dx≠a/\H a=some (exG n a C (some dx))/\H dx=some (xdO dx fs)
noncomputable abbrev ExA (H:Hp)(a C:Addr)(fs:List (Str×V)):Prop:=ExB true H a C fs
theorem ExB.inst {n:Bool}{P:Program}{w:World}{h:Heap}{fs:List (Str×V)}(e:ExB n H a C fs)(x:HOk P w H h):∃ ox od,W.InstAt h a ox C od:=by
 rcases e with ⟨_,e⟩|⟨dx,_,e,d⟩
 . obtain⟨vs,O,q,_⟩:2:=exG_ok.mp (x a _ e);exact⟨_,none,q,rfl,rfl,CT⟩
 obtain⟨vs,O,q,_⟩:2:=exG_ok.mp (x a _ e);obtain⟨mA,hn,_⟩:1:=xdO_ok.mp (x dx _ d);obtain⟨o,_,_,F,_⟩:3:=hn;exact⟨_,some o,q,rfl,rfl,F⟩
theorem ExB.same {n:Bool}{H':Hp}{fs:List (Str×V)}(e:ExB n H a C fs)(s:∀ b o,H b=some o->H' b=some o):ExB n H' a C fs:=by
 rcases e with ⟨F,e⟩|⟨dx,ne,e,d⟩
 . exact .inl ⟨F,s _ _ e⟩
 exact .inr ⟨dx,ne,s _ _ e,s _ _ d⟩
noncomputable def aA6 (K:W.Frag):List V->Hp->VK->Prop:=λxs H Q=>∃ n a C fs b,ExB n H a C fs/\XC K C /\
 ((∃ c,xs=[.ref a,.ref c]/\W.kitOne K (.ref C) (.ref c)=some b)\/(∃ c,xs=[.ref a,.ty c]/\(82,K,.ref C,c)=some b) \/
   ∃(p:Addr) (cs:AF),xs=[.ref a,.ref p]/\H p=(23,cs.map V.ref)/\W.kitAny K (.ref C) (cs.map Value.ref)=some b)/\(t,b)
theorem Sv:∀ {cs:AF} {us:AC},(R,cs.map V.ref)->us=cs.map Value.ref
 | [], us,r=>by cases us with | nil=>rfl | cons _ _=>cases r
 |c :: cs,us,r=>by
   cases us with
   |nil=>cases r
   |cons u us=>
     cases r with
     |cons r1 r2=>rw[BM,Sv r2,show u=Value.ref c from r1]
theorem VS:CallR X (.builtin "isinstance") (aA6 X.K):=by
 intro pins s σ H xs us Q I r h;obtain⟨n,a,C,fs,b,ea,c,hc,q⟩:5:=h;obtain⟨ox,od,J⟩:=ea.inst I.hok;rcases hc with ⟨c',rfl,e⟩|⟨c',rfl,e⟩|⟨p,cs,rfl,hp,e⟩
 . obtain⟨u,w',rfl,F,O⟩:2:=Uc r
   cases F;cases O;exact CZ (JL c) I.kIn J e (λz=>nomatch z) λtk=>⟨.bl _,H,I.tok _,rfl,q⟩
 . obtain⟨u,w',rfl,F,O⟩:2:=Uc r
   cases F;cases O;exact CZ (JL c) I.kIn J e (λz=>nomatch z) λtk=>⟨.bl _,H,I.tok _,rfl,q⟩
 obtain⟨u,w',rfl,F,O⟩:2:=Uc r
 cases F;cases O;obtain⟨_,its,ri,ob,g1,U,⟨n,Y⟩,Z⟩:168420:=(show(70,X.w,H,s.heap,p,.tup (cs.map V.ref)) from(36,p,hp));obtain rfl:=Sv ri;obtain⟨oc,a1,a0,osl⟩:=ob;dsimp only at U Y Z;subst U Y Z;exact W.kia_tup (JL c) I.kIn J g1 e (λz=>nomatch z) λtk=>⟨.bl _,H,I.tok _,rfl,q⟩
theorem K7 {K:W.Frag}(F:X.K=K:=by ac_nf):CallR X (.builtin "isinstance") (aA6 K):=F ▸ VS
noncomputable def Mkx (P:Program)(w:World)(K:W.Frag)(mg:AH)(base:Heap)(k:Nat)(C:Addr)(x:Str)(ps:AA)(sp:Sp):Prop:=
 ∃ f fd,FnOk P w K mg base CX0 k f fd ps sp/\XC K C/\(119,K,C) = (18,f)/\(87,K,f)=true/\(V,K,C)=true/\mg x=(3,C)/\(37,K,ps,[])
noncomputable def Yb (K:W.Frag)(C:Addr):Bool:=match K.lookup C with
 |some ⟨_,_,.cls cd,_⟩=>W.nsOkIn K cd.ns&&W.nsIn K cd.ns "__init__" == some none
 |_=>false
structure GX (K:W.Frag)(mg:AH)(C:Addr)(x:Str):Prop where
 xc:XC K C
 no:Yb K C=true
 kp:(V,K,C)=true
 gl:mg x=(3,C)
noncomputable def ar8 (C:Addr)(vs:List V)(H1:Hp)(Q:VK):Prop:=vs.length<=8/\∀ x,H1 x=none->(C,x,upd H1 x (exO x C none))
noncomputable def aH8 (C:Addr) (t:TA):TE:=fun σ H Q=>t σ H λvs H1=>ar8 C vs H1 Q
theorem U8 {P:Program}{w:World}{h:Heap}(x:HOk P w H h)(n:h.get? a=none):H a=none:=by
 cases q:H a with
 |none=>rfl
 |some o=>
   have t:∀ o,ObjOk P w H h a o->∃ u,h.get? a=some u:=λo z=>by
    cases o with
    |lst xs=>obtain⟨_,_,_,_,e⟩:820:=z;exact⟨_,e⟩
    |tup xs=>obtain⟨_,_,_,_,e,_⟩:168420:=z;exact⟨_,e⟩
    |dK kvs=>obtain⟨_,_,_,_,o,_,_,e,_⟩:488440:=z;exact⟨_,e⟩
    |dT kvs=>obtain⟨_,_,_,_,o,_,_,e,_⟩:488440:=z;exact⟨_,e⟩
    |set S n=>obtain⟨o,_,_,_,e,_⟩:4:=z;exact⟨_,e⟩
    |ins C dx fs=>obtain⟨_,_,_,e,_⟩:0:=z;exact⟨_,e⟩
    |own y=>obtain⟨_,e⟩:=z;exact⟨_,e⟩
    |xd fs=>obtain⟨_,⟨_,_,_,e,_⟩,_⟩:1:=z;exact⟨_,e⟩
    |rng lo hi=>obtain⟨_,_,_,e⟩:3:=z;exact⟨_,e⟩
    |frz ob u=>obtain⟨e,_⟩:=z;exact⟨_,e⟩
    |tbl ps=>exact⟨_,z⟩
    |met f y=>exact⟨_,z⟩
    |ext φ=>obtain⟨_,e,_⟩:0:=z;exact e
   obtain⟨u,e⟩:=t o (x a o q);rw[n] at e;cases e
theorem Inv.laidN {pins:AI}{σ:St}{s:Shared}{h':Heap}{o:HO}{t':Nat}(I:(4,s))(k:∀ b u,s.heap.get? b=some u->h'.get? b=some u)(n:s.heap.get? a=none)
 (new:(70,X.w,(B,a,o),h',a,o)):Inv X pins σ ((B,a,o)) {s with heap:=h',toks:=t'}:=by
 have hn:=U8 I.hok n;have nb:∀ b u,s.heap.get? b=some u->b≠a:=λb u q z=>by rw[z,n] at q;cases q
 have F:∀ b u,H b=some u->upd H a o b=some u:=λb u q=>by rw[Ap λz=>by rw[z,hn] at q;cases q];exact q
 refine I.un ⟨λb u q _ _ _=>k b u q,λb u q _ _ _=>⟨u.slots,k b u q⟩,λb u q z _=>by rw[Ap (nb b u q)];exact z,λb u q _=>⟨u,k b u q⟩,λb xs q=>F b _ q,λb ob u q=>F b _ q,λb ps q=>⟨#[],by rw[Array.append_empty];exact F b _ q⟩⟩ λb u q=>?_
 by_cases z:b=a
 . subst z;rw[Ab] at q;cases q;exact new
 rw[Ap z] at q;exact(I.hok b u q).stay (λc v _ r=>k c v r) (λc r=>F c _ r) λc xs r=>F c _ r
section
variable {k:Nat}{f:Addr}{fd:FuncData}{ps:AA}{sp:Sp}{x:Str}{p:Pos}{e:Expr}{es:List Expr}{t:TA}{pins:AI}{σ:St}{s:Shared}{Q:VK}{us:AC}{vs:List V}
theorem OX (M:GX X.K X.mg C x)(I:(4,s))(r:(R,vs))(hz:vs.length<=8)(h:∀ x,H x=none->(C,x,(B,x,exO x C none))) :
 wpAny ((H,X.w)) X.A (call (.ref C) us) (EP X pins σ Q) X.xe s:=by
 obtain⟨nm,qn,N,bs,bm,sn,sub,Z,col,dd,k0,k1,k2,k3,k5,hl,Y⟩:15:=Mx M.xc.ex;have O:=M.no;unfold Yb at O;rw[hl] at O;simp only[Bool.and_eq_true,beq_iff_eq] at O;obtain⟨U,g,d,tk,os⟩:=s;have Xn:X.K.In U:=I.kIn;refine wpAny_call_exc_subT PySem.F.excBase_ValueError (FV Xn Y) (Xn _ _ hl) (.of_isNs (W.isNs_of_in Xn O.1)) (W.nsMap_none_of_in Xn O.1 O.2) (λh' e m=>?_) (by rw[<- r.length,CH];omega);obtain⟨t0,he,_⟩:1:=m.there;exact⟨.ref e,(B,e,exO e C none),I.laidN (t':=tk) m.keeps m.new (exO_ok.mpr ⟨_,_,he,λ_=>rfl⟩),rfl,h e (U8 I.hok m.new)⟩
theorem ZJ (M:GX X.K X.mg C x)(U:Gl X x)(ha:PA X (e :: es) t)(O:(x==("__debug__":Str))=false:=by decide)
 (he:(29,(e :: es))=(false,(s,e)) :: starEach es X.env:=by ac_nf) (Y:((55,es)).any (·.1)=false:=by ac_nf) :
 PE X ((60,x,p,(e :: es),[],pos)) (aH8 C t):=by
 intro pins s σ H Q I h;refine EK (Mv I U M.gl ?_ O);refine HW (h₀:=X.base) I.ok.mod.kin M.kp (BD (ha pos pins s σ H _ I h) λus Z ⟨vs,H1,F,r,z,q⟩=>⟨F.kIn,?_⟩) he Y;exact OX M F r z q
end
noncomputable def spX (C:Addr)(fs:AA):Sp:=λvs H Q _=>∃ a ws,vs = .ref a :: ws/\ws.length=fs.length/\H a=some (exO a C none) /\
 ∀ dx H',H dx=none->dx≠a->(∀ b,b≠a->b≠dx->H' b=H b)->H' a=some (exO a C (some dx))->H' dx=some (xdO dx (fs.zip ws))->Q .non H'
section
variable {K:W.Frag}{o e value:Expr}{f:Str}{pos':Pos}{ta tv:TE}
theorem M8 (ha:PE X o ta)(U:PE X value tv)(O:swapsWith value (some (120,o,pos')) pos.line X.env=pure false)(F:X.K=K:=by ac_nf):PS X (.Assign [(120,o,pos')] value pos) (ay3 K ta tv f):=
 F ▸ XU ha U O
end
section
variable {K:W.Frag}{σ:St}{Q:VK}{D:Ends}{f:Str}{ta tv:TE}{t:TA}{sp:Sp}{dx B G:Addr}{fs:List (Str×V)}{v y:V}{R:Hp->Prop}{vs:List V}
theorem aq7 (k:tv σ H λy H1=>ta σ H1 λx H2=>aP0 K f y x H2 λF=>D.nx σ F):ay3 K ta tv f D σ H:=k
theorem Vl (h:H a=some (exO a C none))(c:XC K C)(n:(48,K,f))(k:∀ dx H',H dx=none->dx≠a->(∀ b,b≠a->b≠dx->H' b=H b)->H' a=some (exO a C (some dx))->H' dx=some (xdO dx [(f,y)])->R H'):aP0 K f y (.ref a) H R:=
 ⟨a,C,rfl,c,n,.inl ⟨h,λdx h1 h2=>k dx _ h1 h2 (λb hb hd=>by rw[Ap hb,Ap hd]) Ab (by rw[Ap h2,Ab])⟩⟩
theorem au5 (k:t σ H λvs H1=>ar8 C vs H1 Q):aH8 C t σ H Q:=k
theorem WZ (hz:vs.length<=8)(k:∀ x H',H x=none->(5,H')->ExA H' x C []->(D,x)):ar8 C vs H Q:=
 ⟨hz,λx F=>k x _ F (λb u q=>by rw[(106,q,F)];exact q) (.inl ⟨rfl,Ab⟩)⟩
theorem OW {b:Bool}(h:ExB n' H a C fs)(c:XC K C)(e:W.kitOne K (.ref C) (.ref G)=some b)(k:(t,b)):aA6 K [.ref a,.ref G] H Q:=⟨n',a,C,fs,b,h,c,.inl ⟨G,rfl,e⟩,k⟩
theorem PJ {b:Bool}{T:String}(h:ExB n' H a C fs)(c:XC K C)(e:(82,K,.ref C,T)=some b)(k:(t,b)):aA6 K [.ref a,.ty T] H Q:=⟨n',a,C,fs,b,h,c,(98,⟨T,rfl,e⟩),k⟩
theorem LW {b:Bool}{p:Addr}{cs:AF}(h:ExB n' H a C fs)(c:XC K C)(hp:H p=(23,cs.map V.ref))(e:W.kitAny K (.ref C) (cs.map Value.ref)=some b)(k:(t,b)):aA6 K [.ref a,.ref p] H Q:=
 ⟨n',a,C,fs,b,h,c,(31,⟨p,cs,rfl,hp,e⟩),k⟩
end
theorem RM {K:W.Frag}{B:Addr}(hm:Ko K C B=true):(82,K,.ref C,"ValueError")=some true:=by obtain⟨cd,F,O⟩:1:=HP hm;unfold W.kitOne;rw[AZ (by rw[A1A.mpr (by intro q;cases q)];decide)];unfold W.kitCls;dsimp only;rw[BB 'f'];show W.mroIn K C _=_;unfold W.mroIn;rw[F,Option.bind_some,beq_iff_eq.mp O,if_neg 'c',List.contains_cons,List.contains_cons,show xB.contains (Value.type "ValueError")=true by decide +kernel,Bool.or_true,Bool.or_true]
structure Lft (fs:AF)(a:Addr)(oe:Obj)(old:AF)(h h':Heap):Prop where
 keep:∀ b o,b∉fs->b≠a->b∉old->h.get? b=some o->h'.get? b=some o
 slot:∀ b o,b∈fs->h.get? b=some o->∃ sl,h'.get? b=some {o with slots:=sl}
 there:∀ b o,h.get? b=some o->∃ o',h'.get? b=some o'
 tr:∃ oe' vs T oT ts,h'.get? a=some oe'/\oe'.cls=oe.cls/\oe'.dict=oe.dict/\oe'.slots=oe.slots/\oe'.data = .fields vs/\vs[1]? = (3,T)/\T≠a/\h.get? T=none/\h'.get? T=some oT/\oT.data = .fields ts/\ts[3]? = some .none
section
variable {M:Model}{A:Around}{s:Shared}{base:Heap}{env:Env}{outer:List Env}{L:Addr}{oe:Obj}{vs:Array Value}
theorem Ze (o:Obj)(g:Array Value->Array Value):(o.mapFields g).dict=o.dict/\(o.mapFields g).slots=o.slots/\(o.mapFields g).cls=o.cls:=by
 obtain⟨c,d,F,O⟩:=o
 cases F<;>exact⟨rfl,rfl,rfl⟩
theorem Vk {Y:Value}{a5:Bool}(a8:A.frames=some (env :: outer))(hl:s.heap.FunFrames base (env :: outer))(hf:env.frame=some L)(he:s.heap.get? a=some oe)(hd:oe.data = .fields vs)(hsz:1<vs.size)
 (h:∀ h',Lft (frs (env :: outer)) a oe [] s.heap h'->Q () {s with heap:=h'}) :
 wpAny M A (do let x <- frameOf env;let pl <- entryPlaceOf L a5;let b <- EntryCells.newEntry Y x .none (rawInt L) .none pl;setField (.ref a) 1 b) (λ_ s'=>wpAny M A (setFlight (.ref a) none) Q E s') E s:=by
 have ha:a∉frs (env :: outer):=λhm=>by obtain⟨_,o,ho,a9⟩:420:=hl.mem hm;rw[he] at ho;cases ho;exact a9 vs hd
 refine AY (wpAny_frameOf_fun a8 hl hf λh1 k1=>?_);refine AY (wpAny_entryPlaceOf λpl a4=>?_);unfold EntryCells.newEntry newFields;refine AY (DC ?_ (a4.sizeOk5 _ _ _ _ _));generalize aA:(Obj.mk (Value.type "traceback") none (Data.fields ([Y,Value.ref L,Value.none,rawInt L,Value.none]++(if pl.isEmpty then List.replicate 6 Value.none else pl)).toArray) #[]:Obj)=ob
 have F:ob.data = .fields ([Y,Value.ref L,Value.none,rawInt L,Value.none]++(if pl.isEmpty then List.replicate 6 Value.none else pl)).toArray:=by rw[<- aA]
 have aB:ob.isFreed=false:=HH F;have a0:h1.get? a=some oe:=(k1.2.1 a ha).trans he;have a1:=BH (h:=h1) ob a0;refine wpAny_setField a1 hd hsz ?_;have U:h1.objs.size≠a:=EY (BF a0);have O:=HF hd (·.setIfInBounds 1 (Value.ref h1.objs.size));have a2:=EA (Obj.mapFields (·.setIfInBounds 1 (Value.ref h1.objs.size))) a1 (HH O);have Z:=((110,h1.push ob,Obj.mapFields (·.setIfInBounds 1 (Value.ref h1.objs.size)),U)).trans (BV h1 aB);unfold setFlight;refine wpAny_bind (wpAny_field a2 O (x:=.ref h1.objs.size) (by simp[hsz]) ?_);rw[if_pos (show(Value.ref h1.objs.size != Value.none)=true from by simp)];refine wpAny_setField Z F (by simp only[List.size_toArray,List.length_append,List.length_cons,List.length_nil]<;>omega) (h _ ?_)
 have kp:∀ b o,b≠a->h1.get? b=some o->(((h1.push ob).update a (Obj.mapFields (·.setIfInBounds 1 (Value.ref h1.objs.size)))).update h1.objs.size (Obj.mapFields (·.setIfInBounds 3 ((none:Option Addr).elim Value.none λf=>rawInt f)))).get? b=some o:=λb o a7 hb=>by rw[DK _ _ (EY (BF hb)),(110,_,_,a7)];exact BH _ hb
 have a3:=(DK _ (Obj.mapFields (·.setIfInBounds 3 ((none:Option Addr).elim Value.none λf=>rawInt f))) U).trans a2;refine⟨λb o hb a6 _ q=>kp b o a6 ((k1.2.1 b hb).trans q),λb o hb q=>?_,λb o q=>?_,?_⟩
 . obtain⟨sl,z⟩:=k1.2.2 b o q;exact⟨sl,kp b _ (λw=>ha (w ▸ hb)) z⟩
 . by_cases w:b=a
   . subst w;exact⟨_,a3⟩
   obtain⟨sl,z⟩:=k1.2.2 b o q;exact⟨_,kp b _ w z⟩
 obtain⟨m1,m2,m3⟩:0:=Ze oe (·.setIfInBounds 1 (Value.ref h1.objs.size));refine⟨_,_,h1.objs.size,_,_,a3,m3,m1,m2,O,by simp[hsz],U,Heap.get?_none_of_le (by rw[k1.1];exact Nat.le_refl _),Heap.get?_update_self _ Z (Obj.isFreed_of_fields (Obj.data_mapFields F _)),Obj.data_mapFields F _,?_⟩;rcases a4 with rfl|⟨_,_,_,_,_,_,_,rfl⟩<;>simp
theorem ZS (F:A.frames=some (env :: outer))(hl:s.heap.FunFrames base (env :: outer))(hf:env.frame=some L)(he:s.heap.get? a=some oe)(hd:oe.data = .fields vs)(h1:vs[1]? = some .none)
 (h:∀ h',Lft (frs (env :: outer)) a oe [] s.heap h'->Q () {s with heap:=h'}):wpAny M A (leaving env (.ref a)) Q E s:=by
 unfold leaving noteFrame;simp only[hf];refine AY (AY (CW he hd h1 ?_));rw[AZ nofun];exact Vk F hl hf he hd (A2M.mp h1).1 h
theorem Ve {T:Addr}{oT:Obj}(a3:A.frames=some (env :: outer))(hl:s.heap.FunFrames base (env :: outer))(hf:env.frame=some L)(he:s.heap.get? a=some oe)(hd:oe.data = .fields vs)(h1:vs[1]? = (3,T))
 (a0:T≠a) (U:s.heap.get? T=some oT) (Y:oT.data = .fields ts) (h3:ts[3]? = some .none)
 (h:∀ h',Lft (frs (env :: outer)) a oe [T] s.heap h'->Q () {s with heap:=h'}):wpAny M A (noteFrame (.ref a) env) (λ_ s'=>wpAny M A (setFlight (.ref a) none) Q E s') E s:=by
 unfold noteFrame;simp only[hf];refine AY (CW he hd h1 ?_);rw[if_pos (show(Value.ref T != Value.none)=true from by simp)];refine AY (CW U Y h3 ?_);rw[if_neg (show ¬ ((Value.none==rawInt L)=true) from by simp[rawInt])];refine AY (wpAny_setField U Y (A2M.mp h3).1 ?_);have F:∀ b,b≠T->(s.heap.update T (Obj.mapFields (·.setIfInBounds 3 Value.none))).get? b=s.heap.get? b:=λb hb=>(110,_,_,hb);have tt:=EA (Obj.mapFields (·.setIfInBounds 3 Value.none)) U (HH (HF Y _))
 have nT:∀ b o,s.heap.get? b=some o->(∀ us,o.data ≠ .fields us)->b≠T:=λb o hb O q=>by rw[q,U] at hb;cases hb;exact O ts Y
 have fT:T∉frs (env :: outer):=λhm=>by obtain⟨_,o,ho,O⟩:420:=hl.mem hm;exact nT T o ho O rfl
 refine Vk (hl:=hl.of_keeps λb o hb O=>⟨o,(F b (nT b o hb O)).trans hb,rfl⟩) a3 hf ((F a (Ne.symm a0)).trans he) hd (A2M.mp h1).1 λh' l=>h h' ?_;obtain⟨x1,x2,x3,a5,us,Z,a4,a6,q1,q2,q3,q4,q5,q6,q7,q8,q9⟩:=l;refine⟨λb o hb a1 a2 q=>x1 b o hb a1 'c' ((F b λz=>a2 (by simp[z])).trans q),λb o hb q=>x2 b o hb ((F b λz=>fT (z ▸ hb)).trans q),λb o q=>?_,a5,us,Z,a4,a6,q1,q2,q3,q4,q5,q6,q7,?_,q9⟩
 . by_cases z:b=T
   . subst z;exact x3 _ _ tt
   exact x3 b o ((F b z).trans q)
 by_cases z:Z=T
 . rw[z,tt] at q8;cases q8
 rw[<- F Z z];exact q8
theorem WJ {T:Addr}{F:Obj}(a0:A.frames=some (env :: outer))(hl:s.heap.FunFrames base (env :: outer))(hf:env.frame=some L)(he:s.heap.get? a=some oe)(hd:oe.data = .fields vs)(h1:vs[1]? = (3,T))
 (Y:T≠a) (U:s.heap.get? T=some F) (Z:F.data = .fields ts) (O:ts[3]? = some .none)
 (h:∀ h',Lft (frs (env :: outer)) a oe [T] s.heap h'->Q () {s with heap:=h'}):wpAny M A (leaving env (.ref a)) Q E s:=by
 unfold leaving;exact AY (Ve a0 hl hf he hd h1 Y U Z O h)
end
noncomputable def Tra (a:Addr)(H':Hp)(h0 h:Heap):Prop:=∃ oe vs T oT ts,h.get? a=some oe/\oe.data = .fields vs/\vs[1]? = (3,T)/\T≠a/\h.get? T=some oT/\oT.data = .fields ts/\ts[3]? = some .none/\H' T=none/\h0.get? T=none
noncomputable def CX1 (P:Program)(w:World):CXT:=λouter H s E e s'=>∃ a C od H',e = .ref a/\s'.os=s.os/\AllBare s'.gens/\Un (frs outer) [] H H' s.heap s'.heap/\HOk P w H' s'.heap/\H' a=some (85,a,C,od)/\s.heap.get? a=none/\Tra a H' s.heap s'.heap/\E (.ref a) none H'
section
variable {P:Program}{w:World}{fs:AF}{od:Option Addr}{oe:Obj}{old:AF}{h h':Heap}{n:Bool}
theorem Lft.hok (l:Lft fs a oe old h h')(ok:HOk P w H h)(he:h.get? a=some oe)(ha:H a=some (exG n a C od))(a1:∀ b∈fs,H b=none)(a2:∀ b∈old,H b=none):HOk P w ((B,a,(85,a,C,od))) h':=λb u q=>by
 have hu:∀ c z,H c=some z->c≠a->upd H a (85,a,C,od) c=some z:=λc z r ne=>by rw[Ap ne];exact r
 by_cases hb:b=a
 . subst hb;rw[Ab] at q;cases q;obtain⟨vs,sl,O,_⟩:2:=exG_ok.mp (ok b _ ha);rw[he] at O;cases O;obtain⟨a3,us,T,oT,ts,q1,U,Y,Z,q5,_⟩:5:=l.tr;obtain⟨c,d,dt,s4⟩:=a3;dsimp only at U Y Z q5;subst U Y Z q5;exact exG_ok.mpr ⟨us,_,q1,λz=>Bool.noConfusion z⟩
 rw[Ap hb] at q;refine(ok b u q).stay (λc v F r=>?_) (λc r=>hu c _ r λz=>?_) λc xs r=>hu c _ r λz=>?_
 . have a0:∃ z,H c=some z:=by
    rcases F with F|F
    . exact⟨u,F ▸ q⟩
    exact⟨_,F⟩
   obtain⟨z,hz⟩:=a0;refine l.keep c v (λm=>by rw[a1 c m] at hz;cases hz) (λe=>?_) (λm=>by rw[a2 c m] at hz;cases hz) r;subst e;rcases F with F|F
   . exact hb F.symm
   rw[ha] at F;cases F
 . rw[z,ha] at r;cases r
 rw[z,ha] at r;cases r
end
section
variable {P:Program}{w:World}{K:W.Frag}{mg:AH}{base:Heap}{N:AA}{qual:Str}{scope:Scope}{f:Addr}{cd:Value}{A:Around}{outer:List Env}{s₀:Shared}{H₀:Hp}{E:XK}
theorem JI {h h':Heap}:∀ {l:List Env},h.FunFrames base l->(∀ b∈frs l,∀ o,h.get? b=some o->∃ F,h'.get? b=some {o with slots:=F})->h'.FunFrames base l
 | [],_,_=>CT
 |env :: r,hl,k=>by
   obtain⟨O,⟨L,o,hf,hn,U,hd⟩,Y⟩:0:=hl;have e:frs (env :: r)=L :: frs r:=by unfold frs;rw[List.filterMap_cons,hf]
   obtain⟨F,z⟩:=k L (by rw[e];exact BQ) o U;exact⟨O,⟨L,_,hf,hn,z,hd⟩,JI Y λb hb=>k b (by rw[e];exact BP _ hb)⟩
theorem KR {CX:CXT}{pins:AI}{σ:St}{H1 H2:Hp}{s1 Y:Shared}{h3:Heap}{od:Option Addr}{oe:Obj}{old:AF}{n:Bool}(I:(T,(72,CX,P,w,K,mg,N,scope,f,cd,A,s₀,H₀,E),σ,H1,s1))
 (os:Y.os=s1.os) (bare:AllBare Y.gens) (un:Un (frs (envOfC qual scope s₀.heap.objs.size f cd :: outer)) [] H1 H2 s1.heap Y.heap) (ok:HOk P w H2 Y.heap) (ha:H2 a=some (exG n a C od)) (he:Y.heap.get? a=some oe) (hn:s₀.heap.get? a=none) (a1:∀ b∈old,H2 b=none/\s₀.heap.get? b=none)
 (l:Lft (frs (envOfC qual scope s₀.heap.objs.size f cd :: outer)) a oe old Y.heap h3) (q:E (.ref a) none (upd H2 a (85,a,C,od))) :
 CX1 P w outer H₀ s₀ E (.ref a) {Y with heap:=h3}:=by
 have stk:∀ b∈frs (envOfC qual scope s₀.heap.objs.size f cd :: outer),b=s₀.heap.objs.size\/b∈frs outer:=λb hb=>by
  rcases A0A.mp (I.stkSub b hb) with z|z
  . exact .inl z
  exact .inr z
 have a2:∀ b∈frs (envOfC qual scope s₀.heap.objs.size f cd :: outer),H2 b=none:=λb hb=>by obtain⟨_,o,ho,_⟩:420:=I.stack.mem hb;exact un.free b o ho (I.stkFree b hb) 'c'
 obtain⟨a3,us,T,oT,ts,q1,q2,q3,q4,q5,q6,q7,q8,q9,a4,a5⟩:5:=l.tr;have nl:∀ b o,s₀.heap.get? b=some o->b≠s₀.heap.objs.size:=λb o z=>BN (BF z);have na:∀ b o,s₀.heap.get? b=some o->b≠a:=λb o z e=>by rw[e,hn] at z;cases z
 have no:∀ b o,s₀.heap.get? b=some o->b∉old:=λb o z e=>by rw[(a1 b e).2] at z;cases z
 have tn:H2 T=none:=U8 ok q8
 have t0:s₀.heap.get? T=none:=by
  cases z:s₀.heap.get? T with
  |none=>rfl
  |some o=>obtain⟨o1,F⟩:=(92,T,z,(by intro m;cases m));obtain⟨o2,O⟩:=un.there T o1 F 'c';rw[q8] at O;cases O
 have hu:∀ c z,H2 c=some z->z≠exG n a C od->upd H2 a (85,a,C,od) c=some z:=λc z r ne=>by rw[Ap λe=>ne (by rw[e,ha] at r;exact(BR r).symm)];exact r
 refine⟨a,C,od,upd H2 a (85,a,C,od),rfl,os.trans I.os,bare,⟨λb o z U hb _=>?_,λb o z U hb _=>?_,λb o z U _=>?_,λb o z _=>?_,λb xs z=>?_,λb o u z=>?_,λb ps z=>?_⟩,l.hok ok he ha a2 (λb m=>(a1 b m).1),Ab,hn,⟨a3,us,T,oT,ts,q1,q5,q6,q7,q9,a4,a5,by rw[Ap q7];exact tn,t0⟩,q⟩
 . have F:=I.base.keep b o z U hb (by intro m;cases m);have Z:=I.base.free b o z U (by intro m;cases m);have a0:b∉frs (envOfC qual scope s₀.heap.objs.size f cd :: outer):=λm=>(stk b m).elim (nl b o z) hb;exact l.keep b o a0 (na b o z) (no b o z) (un.keep b o F Z a0 'c')
 . obtain⟨sl,F⟩:=I.base.slot b o z U hb (by intro m;cases m);have Z:=I.base.free b o z U (by intro m;cases m);obtain⟨a6,O⟩:=un.any F Z (by simp)
   by_cases m:b∈frs (envOfC qual scope s₀.heap.objs.size f cd :: outer)
   . obtain⟨a7,z3⟩:=l.slot b _ m O;exact⟨a7,z3⟩
   exact⟨a6,l.keep b _ m (na b o z) (no b o z) O⟩
 . obtain⟨o1,F⟩:=(92,b,z,(by intro m;cases m));have Z:=I.base.free b o z U (by intro m;cases m);show upd H2 a _ b=none;rw[Ap (na b o z)];exact un.free b o1 F Z 'c'
 . obtain⟨o1,F⟩:=(92,b,z,(by intro m;cases m));obtain⟨o2,O⟩:=un.there b o1 F 'c';exact l.there b o2 O
 . exact hu b _ (un.tups b xs (I.base.tups b xs z)) (λe=>nomatch e)
 . exact hu b _ (un.frzs b o u (I.base.frzs b o u z)) (λe=>nomatch e)
 obtain⟨m1,F⟩:=I.base.tbls b ps z;obtain⟨m2,O⟩:=un.tbls b _ F;exact⟨m1++m2,by rw[<- Array.append_assoc];exact hu b _ O (λe=>nomatch e)⟩
theorem XF (a0:scope.kind ≠ .module)(U:∀ a H C od,H a=some (85,a,C,od)->E (.ref a) none H->E (.ref a) none (B,a,(85,a,C,od))):J6 (CX1 P w) ((72,CX1 P w,P,w,K,mg,N,scope,f,cd,A,s₀,H₀,E)) E:=by
 intro pins σ H1 s1 e s' I hq;obtain ⟨a,C,od,H2,rfl,os,bare,un,ok,ha,hn,⟨oe,vs,T,oT,ts,t1,t2,t3,t4,t5,t6,t7,t8,t9⟩,q⟩:4:=hq
 have Z:s₀.heap.get? a=none:=by
  cases z:s₀.heap.get? a with
  |none=>rfl
  |some o=>obtain⟨o1,F⟩:=(92,a,z,(by intro m;cases m));rw[hn] at F;cases F
 have Y:s₀.heap.get? T=none:=by
  cases z:s₀.heap.get? T with
  |none=>rfl
  |some o=>obtain⟨o1,F⟩:=(92,T,z,(by intro m;cases m));rw[t9] at F;cases F
 have O:s'.heap.FunFrames base (envOfC qual scope s₀.heap.objs.size f cd :: outer):=JI I.stack λb hb o ho=>un.any ho (I.stkFree b hb) 'c';refine WJ (base:=base) (L:=s₀.heap.objs.size) (I.ok.frames) O rfl t1 t2 t3 t4 t5 t6 t7 λh3 l=>?_;exact KR I os bare un ok ha t1 Z (λb hb=>by simp at hb;subst hb;exact⟨t8,Y⟩) l (U a H2 C od ha q)
theorem Wl {o:HO}(h:H a=some o):(B,a,o)=H:=by
 funext b;unfold upd
 split
 . rename_i e;rw[e,h]
 rfl
theorem ZZ:J6 (CX1 P w) ((72,CX1 P w,P,w,K,mg,N,scope,f,cd,A,s₀,H₀,E)) E:=by intro pins σ H1 O e s' I F;exact XF (by have:=I.ok.kind;show scope.kind≠_;rw[show scope.kind = .function from this];decide) (λa H C od h q=>by rw[Wl h];exact q) pins σ H1 O e s' I F
noncomputable def aa8 (K:W.Frag)(H0:Hp)(E:XK)(x:V)(H1:Hp):Prop:=∃ a C od,x = .ref a/\H1 a=some (exO a C od)/\XC K C/\H0 a=none/\E (.ref a) none (upd H1 a (85,a,C,od))
noncomputable def aj3 (K:W.Frag)(H0:Hp)(E:XK)(t:TE):TS:=λD σ H=>t σ H λx H1=>aa8 K H0 E x H1
theorem RW {ex:Expr}{t:TE}(hX:X=(72,CX1 P w,P,w,K,mg,N,scope,f,cd,A,s₀,H₀,E))(he:PE X ex t):PS X (.Raise (some ex) none pos) (aj3 K H₀ E t):=by
 subst hX;intro pins s σ H D I h;rw[arm_exec_Raise];refine AY (GL ?_);unfold raiseStmt;simp only[evalOpt,Option.map];refine AY (AY (BD (he pins s σ H _ I h) λv Z ⟨x,H1,F,rx,a,C,od,ex',ha,hc,h0,q⟩=>AY (GL (BC ?_))));subst ex';obtain rfl:v=Value.ref a:=rx;obtain⟨vs,sl,U,O⟩:2:=exO_ok.mp (F.hok a _ ha);have O:=O rfl;obtain⟨nm,qn,N',bs,bm,sn,sub,ab,col,dd,k0,k1,k2,k3,k5,hl,a2⟩:15:=Mx hc.ex;have Y:=F.kIn _ _ hl;have a0:(Value.ref C :: bm).contains (.type "BaseException")=true:=by rw[FZ,NO (FV F.kIn a2),Bool.or_true]
 have fin:((72,CX1 P w,P,w,K,mg,N,scope,f,cd,A,s₀,H₀,E)).xe (.ref a) Z:=by
  refine ZS (base:=base) (L:=s₀.heap.objs.size) F.ok.frames F.stack rfl U rfl O λh3 l=>?_
  have a1:s₀.heap.get? a=none:=by
   cases z:s₀.heap.get? a with
   |none=>rfl
   |some o=>have:=F.base.free a o z h0 (by intro m;cases m);rw[ha] at this;cases this
  exact KR F rfl F.bare Un.refl F.hok ha U a1 'c' l q
 obtain⟨hh,g,d,tk,os⟩:=Z
 repeat (first | (with_reducible refine IE U ?_) | (with_reducible refine IE Y ?_) | (with_reducible refine wpAny_isSubtype_exc Y ?_;rw[a0]) | (with_reducible refine CW U rfl O ?_) | wp_step)
 exact wpAny_raiseNew_none (F.ok.hd rfl) fin
end
section
variable {pins:AI}{σ:St}{s:Shared}
theorem Qh {M:Model}{A:Around}{x:Str}(I:(4,s))(hN:X.N.Nodup)(hi:X.N[i]? = some x)(Z:X.env.scope.names.lookup x=some .local)
 (h:∀ s',(T,X,σ.set i none,H,s')->Q () s'):wpAny M A (do bindName X.env x .none;unbindBehindTheSuite X.env x pos) Q E s:=by
 refine AY (wpAny_bindName (Mm (v:=.non) (u:=.none) I hN hi (.inl Z) rfl (λs1 F=>?_) (.inr Z)));unfold unbindBehindTheSuite;refine wpAny_onRaise ?_;obtain⟨m,hn,hl⟩:1:=id F.loc;have a1:(X.env.scope.kind == .class||(X.env.scope.kind == .module&&X.env.locals != X.env.globals))=false:=by rw[F.ok.kind];rfl
 have a0:i<σ.length:=by rw[I.len];exact(A01.mp hi).1
 obtain⟨u,ru,lu⟩:1:=hl i x .non hi (IB a0) (.inl Z)
 have a2:m x=some u:=by
  rcases lu with ⟨_,z⟩|⟨z,_⟩
  . exact z
  have z':X.env.scope.names.lookup x=some .cell\/X.env.scope.names.lookup x=some .free:=z;rw[Z] at z';rcases z' with z'|z'<;>cases z'
 refine wpAny_unbindName_local Z hn a2 a1 λh' w a3 O=>h _ ?_;obtain⟨oL,_,_,a4,_⟩:3:=id hn;have cne:=F.cne;refine⟨F.ok,F.os,F.bare,⟨λb o e n hb hx=>?_,λb o e n hb hx=>?_,F.base.free,λb o e hx=>?_,F.base.tups,F.base.frzs,F.base.tbls⟩,⟨_,a3,λj y v' U e2 e3=>?_⟩,λy c e=>?_,F.free,F.freeC,λp hp=>?_,λb ob e=>?_,by simpa using I.len⟩
 . exact(O.2 b (BN (CS (BF e) F.ok.above))).trans (F.base.keep b o e n hb hx)
 . obtain⟨sl,U⟩:=F.base.slot b o e n hb hx;exact⟨sl,(O.2 b (BN (CS (BF e) F.ok.above))).trans U⟩
 . obtain⟨o',U⟩:=F.base.there b o e hx;exact⟨o',(O.2 b (BN (CS (BF e) F.ok.above))).trans U⟩
 . by_cases hj:j=i
   . subst hj;rw[IB a0] at e2
     cases e2
   rw[EU (Ne.symm hj)] at e2;obtain⟨u',r',q⟩:1:=hl j y v' U (by rw[EU (Ne.symm hj)];exact e2) e3;refine⟨u',r',?_⟩;rcases q with ⟨k,e⟩|⟨k,c,e,z⟩
   . refine .inl ⟨k,?_⟩;have ne:y≠x:=λe=>hj (Rf hN U (e ▸ hi));simp[ne,e]
   exact .inr ⟨k,c,e,z.sameBut O (cne y c e)⟩
 . obtain⟨w',z⟩:=F.cell y c e;exact⟨w',z.sameBut O (cne y c e)⟩
 . obtain⟨e,n,ne,nf,d⟩:0:=F.pin p hp;exact⟨(O.2 p.1 ne).trans e,n,ne,nf,d⟩
 refine(F.hok b ob e).stay (λc w' Y q=>(O.2 c ?_).trans q) (λ_ q=>q) λ_ _ q=>q;rintro rfl;rcases Y with Y|Y
 . rw[<- Y] at e;rw[F.free] at e;cases e
 rw[F.free] at Y;cases Y
noncomputable abbrev Cx.tri (X:Cx)(pins:AI)(E:AG):Cx:={X with xe:=E,pn:=X.pn++pins}
noncomputable abbrev Cx.hnd (X:Cx)(a:Addr)(E:AG):Cx:={X with A:=X.A.mark (3,a),calm:=false,xe:=E}
theorem Inv.tri (I:(4,s))(E:AG):Inv (X.tri pins E) [] σ H s:=
 ⟨⟨I.ok.mod,I.ok.kind,I.ok.glob,I.ok.blt,I.ok.above,I.ok.inj,I.ok.has,I.ok.cab,I.ok.hd,I.ok.frames,I.ok.stk,I.ok.exf,I.ok.bs,I.ok.bsz,I.ok.noex,I.ok.exfs,I.ok.funs,I.ok.frf⟩,I.os,I.bare,I.base,I.loc,I.cell,I.free,I.freeC,λp hp=>I.pin p (by simpa using hp),I.hok,I.len⟩
theorem Inv.untri {more:AI}(I:Inv (X.tri pins E) more σ H s):Inv X pins σ H s:=
 ⟨⟨I.ok.mod,I.ok.kind,I.ok.glob,I.ok.blt,I.ok.above,I.ok.inj,I.ok.has,I.ok.cab,I.ok.hd,I.ok.frames,I.ok.stk,I.ok.exf,I.ok.bs,I.ok.bsz,I.ok.noex,I.ok.exfs,I.ok.funs,I.ok.frf⟩,I.os,I.bare,I.base,I.loc,I.cell,I.free,I.freeC,λp hp=>I.pin p (BZ _ hp),I.hok,I.len⟩
theorem Inv.hnd (I:(4,s))(a:Addr)(E:AG):Inv (X.hnd a E) pins σ H s:=
 ⟨⟨I.ok.mod,I.ok.kind,I.ok.glob,I.ok.blt,I.ok.above,I.ok.inj,I.ok.has,I.ok.cab,λz=>Bool.noConfusion z,I.ok.frames,I.ok.stk,I.ok.exf,I.ok.bs,I.ok.bsz,I.ok.noex,I.ok.exfs,I.ok.funs,I.ok.frf⟩,I.os,I.bare,I.base,I.loc,I.cell,I.free,I.freeC,I.pin,I.hok,I.len⟩
theorem Inv.unhnd (hd:X.calm=true->X.A.handled=none)(I:(T,X.hnd a E,σ,H,s)):Inv X pins σ H s:=
 ⟨⟨I.ok.mod,I.ok.kind,I.ok.glob,I.ok.blt,I.ok.above,I.ok.inj,I.ok.has,I.ok.cab,hd,I.ok.frames,I.ok.stk,I.ok.exf,I.ok.bs,I.ok.bsz,I.ok.noex,I.ok.exfs,I.ok.funs,I.ok.frf⟩,I.os,I.bare,I.base,I.loc,I.cell,I.free,I.freeC,I.pin,I.hok,I.len⟩
end
section
variable {M:Model}{A:Around}{s:Shared}{K:W.Frag}{B:Addr}{oe:Obj}{Q:Bool->Shared->Prop}
theorem SJ (X:K.In s.heap)(c:XC K C)(b:XC K B)(hm:W.mroIn K C (.ref B)=some true)(he:s.heap.get? a=some oe)(U:oe.cls = .ref C)(Z:Q true s):wpAny M A (excMatches (.ref a) (.ref B)) Q E s:=by
 obtain⟨nm,qn,N,bs,O,sn,sub,ab,col,dd,k0,k1,k2,k3,k5,hl,a0⟩:15:=Mx b.ex;have F:=X _ _ hl;have Y:(Value.ref B :: O).contains (.type "BaseException")=true:=by rw[FZ,NO (FV X a0),Bool.or_true]
 have f:=tc_notTuple;have l1:W.Looks M s.heap (isSubtype (.ref C) (.ref B)) true:=IW X hm;obtain⟨h,g,d,t,os⟩:=s;unfold excMatches
 repeat (first | (with_reducible refine IE he ?_;rw[U]) | (with_reducible refine IE F ?_) | (with_reducible refine wpAny_isSubtype_exc F ?_;rw[Y]) | (with_reducible refine l1.at ?_) | wp_step)
 exact Z
end
noncomputable def tryE (G:Addr->Hp->Prop):XK:=λv _ H'=>∃ a,v = .ref a/\G a H'
noncomputable def sTry (K:W.Frag)(len i:Nat)(B:Addr)(G:Addr->Hp->Prop)(tb th:TS):TS:=λD σ H=>tb D σ H/\∀(a:Addr) (H':Hp) (σ':St),σ'.length=len->G a H' ->
 (∃ C od,H' a=some (85,a,C,od)/\XC K C/\W.mroIn K C (.ref B)=some true) /\
  th {nx:=fun σ2 H2=>D.nx (σ2.set i none) H2,rt:=D.rt,bk:=fun σ2 H2=>D.bk (σ2.set i none) H2,ct:=fun σ2 H2=>D.ct (σ2.set i none) H2} (σ'.set i (3,a)) H'
section
variable {pins:AI}
theorem SP.untri {D:Ends}{f:Flow}{s':Shared}(h:SP (X.tri pins E) [] D f s'):SP X pins D f s':=by
 cases f with
 |next=>obtain⟨σ',H',I,q⟩:2:=h;exact⟨σ',H',I.untri,q⟩
 |brk=>obtain⟨σ',H',I,q⟩:2:=h;exact⟨σ',H',I.untri,q⟩
 |cont=>obtain⟨σ',H',I,q⟩:2:=h;exact⟨σ',H',I.untri,q⟩
 |ret u=>obtain⟨v,σ',H',I,r,q⟩:3:=h;exact⟨v,σ',H',I.untri,r,q⟩
theorem YQ (h:ts[3]? = some .none):ts.setIfInBounds 3 .none=ts:=by
 obtain⟨h1,h2⟩:=A2M.mp h;refine Array.ext 'c' λj F O=>?_;rw[Array.getElem_setIfInBounds]
 split
 . rename_i e;subst e;exact h2.symm
 rfl
theorem XG {body a7:List Stmt}{b0:Stmt}{tb th:TS}{n bx:Str}{B:Addr}{p1 p2:Pos}(G:Addr->Hp->Prop)(hN:X.N.Nodup)(hi:X.N[i]? = some n)(hk:X.env.scope.names.lookup n=some .local)(hg:Gl X bx)(hm:X.mg bx=(3,B))(hB:XC X.K B)
 (a4:X.stack=X.env :: X.outer) (hf:X.env.frame=some X.env.locals) (aJ:X.ex=[])
 (hb:∀ ps xe,J6 (CX1 X.prog X.w) (X.tri ps xe) (tryE G)->PSs (X.tri ps xe) body tb) (hs:∀ a xe,PSs (X.hnd a xe) (b0 :: a7) th) (hd:(bx==("__debug__":Str))=false:=by decide) :
 PS X (.Try body [.ExceptHandler (some (.Name bx p1)) (some n) (b0 :: a7) p2] [] [] pos) (sTry X.K X.N.length i B G tb th):=by
 intro pins s σ H D I h;refine wpAny_Try_except ?_;refine DB (hb pins _ ?_ [] s σ H D (I.tri _) h.1) (λf s1 a1=>?_) λe s1 he=>he
 . intro aM σ2 H2 s2 e Y I2 hq;obtain⟨a,C',aK,O,rfl,os,bare,un,ok,aI,hn,⟨oe,vs,T,oT,ts,t1,t2,t3,t4,t5,t6,t7,t8,t9⟩,a',ea,q⟩:564:=hq
   cases ea;have J2:Inv X pins σ2 H2 s2:=I2.untri;obtain⟨⟨C,od,ha,hc,aC⟩,q3⟩:=h.2 a O σ2 (by rw[J2.len]) q;have F:Un (frs X.stack) [] H2 O s2.heap Y.heap:=un
   have aA:Y.heap.FunFrames X.base (X.env :: X.outer):=by have:=JI (h':=Y.heap) J2.stack λb hb o ho=>F.any ho (J2.stkFree b hb) 'c';rwa[a4] at this
   have a9:∀ b∈frs X.stack,O b=none:=λb hb=>by obtain⟨_,o,ho,_⟩:420:=J2.stack.mem hb;exact F.free b o ho (J2.stkFree b hb) 'c'
   refine Ve (base:=X.base) (L:=X.env.locals) (by have:=J2.ok.frames;rwa[a4] at this) aA hf t1 t2 t3 t4 t5 t6 t7 λU l=>?_;rw[<- a4] at l
   have a5:HOk X.prog X.w O U:=by have:=l.hok ok t1 ha a9 (λb hb=>by simp at hb;subst hb;exact t8);rwa[Wl ha] at this
   have aG:Un (frs X.stack) [] H2 O s2.heap U:=by
    have na:∀ b o,s2.heap.get? b=some o->b≠a:=λb o z e=>by rw[e,hn] at z;cases z
    have nT:∀ b o,s2.heap.get? b=some o->b∉[T]:=λb o z e=>by simp at e;rw[e,t9] at z;cases z
    refine⟨λb o z nz hb hx=>l.keep b o hb (na b o z) (nT b o z) (F.keep b o z nz hb hx),λb o z nz hb hx=>?_,F.free,λb o z hx=>?_,F.tups,F.frzs,F.tbls⟩
    . obtain⟨sl,z1⟩:=F.slot b o z nz hb hx;obtain⟨aF,z2⟩:=l.slot b _ hb z1;exact⟨aF,z2⟩
    obtain⟨o1,z1⟩:=F.there b o z hx;exact l.there b o1 z1
   have I4:Inv X pins σ2 O {Y with heap:=U}:=J2.call' (s':={Y with heap:=U}) (ch:=[]) os aG a5 bare (λb z=>(65,z))
   obtain⟨us,aO,aB,_⟩:2:=exG_ok.mp (a5 a _ ha);obtain⟨aL,aP,T',aD,a8,q1,q2,aN,q4,q5,q6,q7,q8,q9,a3,a6⟩:5:=l.tr;have a2:X.calm=true->X.A.handled=none:=I.ok.hd;refine wpAny_handleBy_cons (codeAny_handlers_test ?_) (by intro q;cases q);refine Mv (X:=X.hnd a λ_ _=>False) (I4.hnd a _) hg hm ?_ hd;refine SJ (s:={Y with heap:=U}) I4.kIn hc hB aC aB rfl ?_
   refine codeAny_handlers_suite_as ?_;have hz:3<a8.size:=(A2M.mp a6).1;refine wpAny_setFlight_none q1 q5 q6 q9 a3 hz ?_
   have same:∀ b u,U.get? b=some u->(U.update T' (Obj.mapFields (·.setIfInBounds 3 .none))).get? b=some u:=λb u z=>by
    by_cases e:b=T'
    . subst e;rw[q9] at z;cases z;rw[EA _ q9 (HH (HF a3 _))];obtain⟨c1,d1,aH,aE⟩:=aD;dsimp only at a3;subst a3;refine congrArg some ?_;show Obj.mk c1 d1 (Data.fields (a8.setIfInBounds 3 .none)) aE=_;rw[YQ a6]
    rw[(110,_,_,e)];exact z
   have I5:Inv X pins σ2 O {Y with heap:=U.update T' (Obj.mapFields (·.setIfInBounds 3 .none))}:=I4.kept (t':=Y.toks) same
   refine Mm (X:=X) (v:=.ref a) I5 hN hi (.inl hk) rfl (λs6 I6=>?_) (.inr hk);refine BD (hs a _ pins s6 _ O _ (I6.hnd a _) q3) λf s7 h7=>?_
   cases f with
   |next=>obtain⟨σ7,H7,Z,a0⟩:2:=h7;exact Qh (Z.unhnd a2) hN hi hk λs8 I8=>⟨_,_,I8,a0⟩
   |brk=>obtain⟨σ7,H7,Z,a0⟩:2:=h7;exact Qh (Z.unhnd a2) hN hi hk λs8 I8=>⟨_,_,I8,a0⟩
   |cont=>obtain⟨σ7,H7,Z,a0⟩:2:=h7;exact Qh (Z.unhnd a2) hN hi hk λs8 I8=>⟨_,_,I8,a0⟩
   |ret u=>obtain⟨v,σ7,H7,Z,r7,a0⟩:3:=h7;exact Qh (Z.unhnd a2) hN hi hk λs8 I8=>⟨v,_,_,I8,r7,a0⟩
 have a1:=a1.untri
 cases f with
 |next=>exact BC a1
 |brk=>exact a1
 |cont=>exact a1
 |ret u=>exact a1
end
noncomputable def aw7 (P:Program)(w:World)(K:W.Frag)(mg:AH)(base:Heap)(k:Nat)(x:Str)(ps:AA)(sp:Sp):Prop:=
 ∃ f fd,FnOk P w K mg base (CX1 P w) k f fd ps sp/\mg x=(3,f)/\(V,K,f)=true/\(37,K,ps,[])
section
variable {k:Nat}{x:Str}{ps:AA}{sp:Sp}{e:Expr}{es:List Expr}{t:TA}{p:Pos}{E:XK}
theorem MR (F:aw7 X.prog X.w X.K X.mg X.base k x ps sp)(hr:Room k X.A)(Z:Gl X x)(hx:J6 (CX1 X.prog X.w) X E)(ha:PA X (e :: es) t)(Y:(x==("__debug__":Str))=false:=by decide)
 (he:(29,(e :: es))=(false,(s,e)) :: starEach es X.env:=by ac_nf) (a0:((55,es)).any (·.1)=false:=by ac_nf):PE X ((60,x,p,(e :: es),[],pos)) (ah0 sp [] E t):=by
 obtain⟨f,fd,h1,h2,O,U⟩:2:=F;exact Zv h1 hr Z h2 O U .nil hx ha Y he a0
end
section
variable {P:Program}{w:World}{K:W.Frag}{mg:AH}{base:Heap}
theorem Fun.ok1 {x qual:Str}{st:Stmt}{f:Addr}{fd:FuncData}{N ps:AA}{k:Nat}{sp:Sp}(F:Fun K x qual st f fd)(S:Ah N ps (A8 st))(len:∀ vs H Q E,sp vs H Q E->vs.length=ps.length)
 (U:∀(O:Value) (A:Around) (outer:List Env) (s:Shared) (H:Hp) (vs:List V) (Q:VK) (E:XK),Room k (A.deeper (96,qual,A8 st,f,O))->sp vs H Q E ->
  ∃ t,PSs (72,CX1 P w,P,w,K,mg,N,A8 st,f,O,A,s,H,E) (Bb st) t/\t {nx:=λ_ H'=>Q .non H',rt:=Q} (start N vs) H):FnOk P w K mg base (CX1 P w) (k+1) f fd ps sp:=by
 obtain⟨oc,od,kV,doc,pm,an,O,ct,osl,rfl,lk,Y⟩:9:=F.ex;exact JQ lk Y S len λA outer s H vs Q E Z a0=>U O A outer s H vs Q E Z a0
end
section
variable {K:W.Frag}{σ:St}{H0:Hp}{D:Ends}{t:TE}{fs:List (Str×V)}{E:XK}
theorem i_sRaise (k:t σ H λx H1=>aa8 K H0 E x H1):aj3 K H0 E t D σ H:=k
theorem SY (h:ExA H a C fs)(c:XC K C)(F:H0 a=none)(k:∀ H2,(∀ b o,b≠a->H b=some o->H2 b=some o)->ExB false H2 a C fs->E (.ref a) none H2):aa8 K H0 E (.ref a) H:=by
 have kp:∀ od b o,b≠a->H b=some o->upd H a (85,a,C,od) b=some o:=λod b o hb q=>by rw[Ap hb];exact q
 rcases h with ⟨O,h⟩|⟨dx,ne,h,g⟩
 . exact⟨a,C,none,rfl,h,c,F,k _ (kp _) (.inl ⟨O,Ab⟩)⟩
 exact⟨a,C,some dx,rfl,h,c,F,k _ (kp _) (.inr ⟨dx,ne,Ab,kp _ _ _ ne g⟩)⟩
end
section
open Lean
def mWay (s:String):MacroM (TSyntax `tactic):=
 if s == "as" then `(tactic| assumption) else if s == "ar" then `(tactic| with_reducible assumption) else `(tactic| walk_at $(quote s))
def Yn (ts:Array (TSyntax `tactic)):MacroM (TSyntax `tactic):=do
 let ts <- ts.mapM λt=>`(Lean.Parser.Tactic.tacticSeq| $t:tactic)
 `(tactic| first $[| $ts]*)
def IN (s:String):Ident:=mkIdent ((s.splitOn ".").foldl Name.mkStr Name.anonymous)
def KP (s:String):MacroM Ident:=do return mkIdent (<- Macro.addMacroScope (.mkSimple s))
def Z8:List String->TSyntax `tactic->MacroM (TSyntax `tactic)
 | [],t=>pure t
 |s :: r,t=>do
   match s.splitOn "=" with
   | [x,y]=>let w <- mWay y;let i <- KP x;Z8 r (<- `(tactic| ($t:tactic;(case $i:ident=>$w:tactic))))
   |_=>Z8 r t
def mRow (s:String):MacroM (TSyntax `tactic):=do
 match s.splitOn ": " with
 | [h,c]=>
   match h.splitOn " " with
   |f :: as=>
     let xs <- as.toArray.mapM λa=>do if a == "_" then `(?_) else `(?$(<- KP a))
     let u:=Syntax.mkApp (IN f) xs
     let t <- if as.contains "_" then `(tactic| with_reducible refine' $u) else `(tactic| refine' $u)
     Z8 (c.splitOn " ") t
   |_=>Macro.throwUnsupported
 |_=>do
   if s == "as" then `(tactic| assumption)
   else if s == "no" then `(tactic| fail "no")
   else `(tactic| exact $(IN s))
def mRows (s:String):MacroM (TSyntax `tactic):=do Yn (<- (s.splitOn " | ").toArray.mapM mRow)
def mAlts (s:String):MacroM (TSyntax `tactic):=do
 let a <- Yn (<- (s.splitOn " ").toArray.mapM λn=>`(tactic| refine $(IN n) ?_))
 `(tactic| with_reducible $a:tactic)
def mAltG (s:String):MacroM (TSyntax `tactic):=do
 let a <- Yn (<- (s.splitOn " ").toArray.mapM λn=>`(tactic| refine $(IN n) λN F=>?_))
 `(tactic| with_reducible $a:tactic)
end
section
open PySem
theorem same_refl:Same H H:=Same.refl _
theorem fz_refl:Fz H H:=Fz.refl _
theorem ne_none2 {a b:PySem.Addr}{o:HO}(h:H a=some o)(g:H b=none):b≠a:=Ne.symm (ne_of_none h g)
noncomputable def Cut (N M:St->Hp->Prop):Prop:=∀ σ H,M σ H->N σ H
section
variable {t u:TS}{te td ty tv:TE}{g:TG}{D:Ends}{σ:St}
theorem aL0 (k:∀ N:St->Hp->Prop,Cut N (u D)->t {D with nx:=N} σ H):aO4 t u D σ H:=k (u D) λ_ _ h=>h
theorem i_seqAG (k:∀ N:St->Hp->Prop,Cut N (u D)->aA0 te g {D with nx:=N} σ H):aO4 (aA0 te g) u D σ H:=k (u D) λ_ _ h=>h
theorem i_nxS {rt:VK}{bk ct:St->Hp->Prop}(k:D.nx (σ.set i none) H):Ends.nx {nx:=fun σ2 H2=>D.nx (σ2.set i none) H2,rt:=rt,bk:=bk,ct:=ct} σ H:=k
theorem i_cutN {N M:St->Hp->Prop}(h:Cut N M)(k:M σ H):N σ H:=h _ _ k
end
theorem WF {α:Type}{P:List α->Prop}{us:List α}(hl:us.length=0)(h:P []):P us:=by rw[A18.mp hl];exact h
theorem MZ {α:Type}{P:List α->Prop}{us:List α}(hl:us.length=1)(h:∀ F:α,P [F]):P us:=by
 cases us with
 |nil=>cases hl
 |cons a r=>exact WF (P:=λr=>P (a :: r)) (Nat.succ.inj hl) (h a)
theorem MS {α:Type}{P:List α->Prop}{us:List α}(hl:us.length=2)(h:∀ F O:α,P [F,O]):P us:=by
 cases us with
 |nil=>cases hl
 |cons a r=>exact MZ (P:=λr=>P (a :: r)) (Nat.succ.inj hl) (h a)
theorem LQ {α:Type}{P:List α->Prop}{us:List α}(hl:us.length=3)(h:∀ F O U:α,P [F,O,U]):P us:=by
 cases us with
 |nil=>cases hl
 |cons a r=>exact MS (P:=λr=>P (a :: r)) (Nat.succ.inj hl) (h a)
theorem PD {α:Type}{P:List α->Prop}{us:List α}(hl:us.length=4)(h:∀ F O U Y:α,P [F,O,U,Y]):P us:=by
 cases us with
 |nil=>cases hl
 |cons a r=>exact LQ (P:=λr=>P (a :: r)) (Nat.succ.inj hl) (h a)
end
section
variable {K:W.Frag}{x qual:Str}{st:Stmt}{f:Addr}{fd:FuncData}
theorem Wf (F:Fun K x qual st f fd)(h:∀(kV U pm:Value) (an:Option Addr) (O ct:Value) (Y:Value),bindArgs (43,x,qual,Br st,Bb st,A8 st,kV,U,pm,an,O,ct) ⟨[Y],[]⟩=pure (([p0]:AA).zip [Y])):Binds K fd [p0] []:=
 F.binds λkV U pm an O ct us hl=>MZ (P:=λus=>bindArgs (W.fnOf x qual (Br st) (Bb st) (A8 st) .none kV U pm an O ct) ⟨us,[]⟩=pure (([p0]:AA).zip us)) hl (h kV U pm an O ct)
theorem Iz (F:Fun K x qual st f fd)(h:∀(kV U pm:Value) (an:Option Addr) (O ct:Value) (Y Z:Value),bindArgs (43,x,qual,Br st,Bb st,A8 st,kV,U,pm,an,O,ct) ⟨[Y,Z],[]⟩=pure (([p0,p1]:AA).zip [Y,Z])):Binds K fd [p0,p1] []:=
 F.binds λkV U pm an O ct us hl=>MS (P:=λus=>bindArgs (W.fnOf x qual (Br st) (Bb st) (A8 st) .none kV U pm an O ct) ⟨us,[]⟩=pure (([p0,p1]:AA).zip us)) hl (h kV U pm an O ct)
theorem JK {p2:Str}(F:Fun K x qual st f fd)(h:∀(kV U pm:Value) (an:Option Addr) (O ct:Value) (Y Z u2:Value),bindArgs (43,x,qual,Br st,Bb st,A8 st,kV,U,pm,an,O,ct) ⟨[Y,Z,u2],[]⟩=pure (([p0,p1,p2]:AA).zip [Y,Z,u2])):Binds K fd [p0,p1,p2] []:=
 F.binds λkV U pm an O ct us hl=>LQ (P:=λus=>bindArgs (W.fnOf x qual (Br st) (Bb st) (A8 st) .none kV U pm an O ct) ⟨us,[]⟩=pure (([p0,p1,p2]:AA).zip us)) hl (h kV U pm an O ct)
theorem JM {p2 p3:Str}(F:Fun K x qual st f fd)(h:∀(kV U pm:Value) (an:Option Addr) (O ct:Value) (Y Z u2 u3:Value),bindArgs (43,x,qual,Br st,Bb st,A8 st,kV,U,pm,an,O,ct) ⟨[Y,Z,u2,u3],[]⟩=pure (([p0,p1,p2,p3]:AA).zip [Y,Z,u2,u3])):Binds K fd [p0,p1,p2,p3] []:=
 F.binds λkV U pm an O ct us hl=>PD (P:=λus=>bindArgs (W.fnOf x qual (Br st) (Bb st) (A8 st) .none kV U pm an O ct) ⟨us,[]⟩=pure (([p0,p1,p2,p3]:AA).zip us)) hl (h kV U pm an O ct)
end
noncomputable def aI4 (K:W.Frag):R2:=λx y H Q=>∃ a b xs,x = .ref a/\y = .ref b/\(N,a)/\SqL K H b []/\(t,(!xs.isEmpty))
theorem Yp {K:W.Frag}(Z:QA X.A)(Y:X.K=K:=by ac_nf):OpR X (compareOp .NotEq) (aI4 K):=by
 subst Y;intro pins s σ H x y v u Q I rx ry h;obtain⟨a,b,xs,rfl,rfl,ha,hb,q⟩:3:=h
 cases rx
 cases ry;obtain⟨its,U,la,_⟩:1:=I.list ha;obtain⟨a1,a0,lb,_⟩:1:=I.list hb
 cases a0;have hu:X.A.units<cLine:=by have:=Z.un;omega
 have F:s.heap.IsList a its.toArray:=let ⟨o,n,e1,e2,e3,e4⟩:=la;⟨o,e1,e2,_,e4⟩;have O:s.heap.IsList b ([]:AC).toArray:=let ⟨o,n,e1,e2,e3,e4⟩:=lb;⟨o,e1,e2,_,e4⟩
 cases xs with
 |nil=>cases U;have r:=SeqAt.RcNeAt.lists (A:=X.A) (s:=s) (e:=λ_=>true) F O rfl hu (λj h1=>(65,h1));exact r _ _ _ _ ⟨.bl _,H,I,rfl,q⟩
 |cons x r=>
   cases U with
   |cons r1 r2=>have r:=SeqAt.RcNeAt.lists_lengths (A:=X.A) (s:=s) F O 'c' hu;exact r _ _ _ _ ⟨.bl _,H,I,rfl,q⟩
theorem NU {K:W.Frag}{Q:VK}{b:Addr}(h:(N,a))(h':SqL K H b [])(k:(t,(!xs.isEmpty))):aI4 K (.ref a) (.ref b) H Q:=⟨a,b,xs,rfl,rfl,h,h',k⟩
section
open PySem.SeqAt PySem.MeetsSeq
variable {A:Around}{s:Shared}
end
section
variable {prog:Program}{w:World}{A:Around}{s:Shared}
set_option maxRecDepth 100000 in
end
section
variable {p2:Pos}
theorem i_gSub {to F:TE}{t:aN8}{v:V}{σ:St}{Q:St->Hp->Prop}(k:to σ H λo H1=>F σ H1 λi H2=>t o i v H2 λO=>Q σ O):aS4 to F t v σ H Q:=k
theorem MI {p:Addr}{j:Nat}{v:V}{Q:Hp->Prop}(hp:H p=(2,xs))(F:j<xs.length)(hz:xs.length<=1000000)(k:∀ H',(h,p)->H' p=(2,xs.set j v)->Q H'):aJ7 (.ref p) (.int (j:Int)) v H Q:=
 ⟨p,xs,j,j,rfl,rfl,hp,by unfold ixN;simp;omega,k _ ExtBut.upd Ab⟩
end
theorem OJ {K:W.Frag}{H':Hp}{d:Addr}{kvs:List (Key×V)}(hd:H d=(6,kvs))(e:(h,d))(h:(N,a)):SqL K H' a xs:=by
 rcases h with h|h
 . refine e.seq (λz=>?_) (.inl h);subst z;rcases h with h|⟨o,h⟩
   . rw[hd] at h;cases h
   rw[hd] at h;cases h
 exact .inr h
mutual
theorem Is.off {K:W.Frag}{H H':Hp}{d:Addr}{kvs:List (Key×V)}(hd:H d=(6,kvs))(e:(h,d)):∀(D:PyData) (v:V),(9,D,v)->(Y,D,v)
 |.none,_,h=>by simp only[Is] at h ⊢;exact h
 |.bool _,_,h=>by simp only[Is] at h ⊢;exact h
 |.int _,_,h=>by simp only[Is] at h ⊢;exact h
 |.str _,_,h=>by simp only[Is] at h ⊢;exact h
 |.list ds,v,h=>by simp only[Is] at h ⊢;obtain⟨a,xs,F,O,U⟩:2:=h;exact⟨a,xs,F,OJ hd e O,IsL.off hd e ds xs U⟩
 |.tuple ds,v,h=>by simp only[Is] at h ⊢;obtain⟨a,xs,F,O,U⟩:2:=h;exact⟨a,xs,F,(e.fzD hd).seq O,IsL.off hd e ds xs U⟩
 |.dict _,_,h=>by simp only[Is] at h
theorem IsL.off {K:W.Frag}{H H':Hp}{d:Addr}{kvs:List (Key×V)}(hd:H d=(6,kvs))(e:(h,d)):∀(ds:AD) (vs:List V),(I,ds,vs)->IsL K H' ds vs
 | [],_,h=>by simp only[IsL] at h ⊢;exact h
 |D :: ds,vs,h=>by simp only[IsL] at h ⊢;obtain⟨v,r,F,O,U⟩:2:=h;exact⟨v,r,F,Is.off hd e D v O,IsL.off hd e ds r U⟩
end
mutual
def ES:PyData->Bool
 |.str z=>z.cps.toList.all λc=>decide (c<128)
 |.list ds=>EB ds
 |.tuple ds=>EB ds
 |.dict _=>false
 |_=>true
def EB:AD->Bool
 | []=>true
 |d :: ds=>ES d&&EB ds
end
mutual
def FC:PyData->Nat
 |.list ds=>max ds.length (DY ds)
 |.tuple ds=>max ds.length (DY ds)
 |_=>0
def DY:AD->Nat
 | []=>0
 |d :: ds=>max (FC d) (DY ds)
end
structure Dk (p w W:Nat)(D:PyData):Prop where
 asc:ES D=true
 lay:D.canLay0=true
 sh:D.showable=true
 lv:D.leavesShort 45=true
 dp:D.depth<=p
 wt:D.weight<=w
 wd:FC D<=W
structure Els (p w W:Nat)(ds:AD):Prop where
 all:∀ e∈ds,∃ u,Dk p u W e
 wt:PyData.weightAll ds<=w
 len:ds.length<=W
theorem Dk.le {p w W F O W':Nat}(h:Dk p w W D)(h1:p<=F)(h2:w<=O)(U:W<=W':=by omega):Dk F O W' D:=⟨h.asc,h.lay,h.sh,h.lv,BI h.dp h1,BI h.wt h2,BI h.wd U⟩
theorem V9 {p W:Nat}:∀ {ds:AD},(∀ e∈ds,∃ u,Dk p u W e)->EB ds=true/\PyData.canLayAll0 ds=true/\PyData.showableAll ds=true/\PyData.leavesShortAll 45 ds=true/\PyData.depthAll ds<=p/\DY ds<=W
 | [],_=>⟨by simp only[EB],by simp only[PyData.canLayAll0],by simp only[PyData.showableAll],by simp only[PyData.leavesShortAll],by simp only[PyData.depthAll];omega,by simp only[DY];omega⟩
 |d :: ds,h=>by obtain⟨u,a⟩:=h d 'c';obtain⟨F,O,U,Y,Z,b5⟩:0:=V9 (ds:=ds) λe he=>h e (by simp[he]);have:=a.dp;have:=a.wd;exact⟨by simp only[EB,a.asc,F,Bool.and_self],by simp only[PyData.canLayAll0,a.lay,O,Bool.and_self],by simp only[PyData.showableAll,a.sh,U,Bool.and_self],by simp only[PyData.leavesShortAll,a.lv,Y,Bool.and_self],by simp only[PyData.depthAll];omega,by simp only[DY];omega⟩
theorem MT {p W:Nat}:∀ {ds:AD},EB ds=true->PyData.canLayAll0 ds=true->PyData.showableAll ds=true->PyData.leavesShortAll 45 ds=true->PyData.depthAll ds<=p->DY ds<=W->∀ e∈ds,∃ u,Dk p u W e
 | [],_,_,_,_,_,_=>λe he=>by cases he
 |d :: ds,h0,h1,h2,h3,h4,h5=>λe he=>by
   simp only[EB,PyData.canLayAll0,PyData.showableAll,PyData.leavesShortAll,PyData.depthAll,DY,Bool.and_eq_true] at h0 h1 h2 h3 h4 h5;rcases A0A.mp he with rfl|he
   . exact⟨_,h0.1,h1.1,h2.1,h3.1,by omega,BE _,by omega⟩
   exact MT h0.2 h1.2 h2.2 h3.2 ∅ ∅ e he
theorem Gw {p w W:Nat}(h:Els p w W ds):Dk (p+1) w W (.tuple ds):=by obtain⟨F,O,U,Y,Z,a5⟩:0:=V9 h.all;have:=h.len;exact⟨by simpa only[ES] using F,by simpa only[PyData.canLay0] using O,by simpa only[PyData.showable] using U,by simpa only[PyData.leavesShort] using Y,by simp only[PyData.depth];omega,by simpa only[PyData.weight] using h.wt,by simp only[FC];omega⟩
theorem LI {p w W:Nat}(h:Els p w W ds):Dk (p+1) w W (.list ds):=by obtain⟨F,O,U,Y,Z,a5⟩:0:=V9 h.all;have:=h.len;exact⟨by simpa only[ES] using F,by simpa only[PyData.canLay0] using O,by simpa only[PyData.showable] using U,by simpa only[PyData.leavesShort] using Y,by simp only[PyData.depth];omega,by simpa only[PyData.weight] using h.wt,by simp only[FC];omega⟩
theorem Dk.els {p w W:Nat}(h:Dk (p+1) w W (.tuple ds)):Els p w W ds:=by obtain⟨F,O,U,Y,a4,Z,a6⟩:=h;simp only[FC,ES,PyData.canLay0,PyData.showable,PyData.leavesShort,PyData.depth,PyData.weight] at F O U Y a4 Z a6;exact⟨MT F O U Y ∅ ∅,Z,by omega⟩
theorem Lr:∀ as bs:AD,PyData.weightAll (as++bs)=PyData.weightAll as+PyData.weightAll bs
 | [],bs=>by simp only[List.nil_append,PyData.weightAll];omega
 |a :: as,bs=>by have:=Lr as bs;simp only[List.cons_append,PyData.weightAll];omega
theorem LU:∀ as:AD,PyData.weightAll as.reverse=PyData.weightAll as
 | []=>rfl
 |a :: as=>by have:=LU as;rw[FJ,Lr,this];simp only[PyData.weightAll];omega
theorem Els.app {p w F W:Nat}{as bs:AD}(h:Els p w W as)(g:Els p F W bs){W':Nat}(hl:as.length+bs.length<=W')(O:W<=W'):Els p (w+F) W' (as++bs):=
 ⟨λe he=>let ⟨u,k⟩:=(A0B.mp he).elim (h.all e) (g.all e);⟨u,k.le (BE _) (BE _) O⟩,by rw[Lr];exact Nat.add_le_add h.wt g.wt,by rw[BL];exact hl⟩
theorem Els.sub {p w W:Nat}{es:AD}(h:Els p w W ds)(F:∀ e∈es,e∈ds)(O:PyData.weightAll es<=PyData.weightAll ds)(hl:es.length<=ds.length):Els p w W es:=⟨λe he=>h.all e (F e he),BI O h.wt,BI hl h.len⟩
theorem VR (ds:AD)(n:Nat):PyData.weightAll (ds.drop n)<=PyData.weightAll ds:=by have:=Lr (ds.take n) (ds.drop n);rw[FF] at this;omega
theorem Zx (ds:AD)(n:Nat):PyData.weightAll (ds.take n)<=PyData.weightAll ds:=by have:=Lr (ds.take n) (ds.drop n);rw[FF] at this;omega
theorem Els.take {p w W:Nat}(h:Els p w W ds)(n:Nat):Els p w W (ds.take n):=h.sub (λe he=>ER he) (Zx ds n) (by rw[CD];omega)
theorem Els.drop {p w W:Nat}(h:Els p w W ds)(n:Nat):Els p w W (ds.drop n):=h.sub (λe he=>FQ he) (VR ds n) (by rw[CL];omega)
theorem Els.rev {p w W:Nat}(h:Els p w W ds):Els p w W ds.reverse:=h.sub (λe he=>List.mem_reverse.mp he) (Nat.le_of_eq (LU ds)) (by rw[FM];omega)
theorem Els.one {p w W:Nat}(h:Dk p w W D)(F:1<=W):Els p (w+1) W [D]:=⟨λe he=>by rw[List.mem_singleton.mp he];exact⟨w,h⟩,by simp only[PyData.weightAll];have:=h.wt;omega,by simpa using F⟩
noncomputable def Asc (z:Str):Prop:=∀ c∈z.cps.toList,c<128
theorem Asc.ok (h:Asc z):PyData.strOk z=true:=by unfold PyData.strOk;rw[<- Array.all_toList,A1N];intro c F;have:=h c F;exact BY ∅
theorem M0 {p w W:Nat}(h:Asc z)(hl:z.length<=w):Dk p w W (.str z):=by
 refine⟨?_,by simpa only[PyData.canLay0] using h.ok,by simp only[PyData.showable],?_,by simp only[PyData.depth];omega,by simp only[PyData.weight];exact hl,by simp only[FC];omega⟩
 . simp only[ES];rw[A1N];exact λc F=>BY (h c F)
 simp only[PyData.leavesShort];rw[A1N];intro c F;have:=h c F;exact BY ∅
theorem Dk.str {p w W:Nat}(h:Dk p w W (.str z)):Asc z/\z.length<=w:=by obtain⟨F,_,_,_,_,O,_⟩:=h;simp only[ES,List.all_eq_true] at F;simp only[PyData.weight] at O;exact⟨λc U=>GR (F c U),O⟩
theorem Asc.app {a b:Str}(h:Asc a)(g:Asc b):Asc (a++b):=λc F=>by have F:c∈(a.cps++b.cps).toList:=F;rw[Array.toList_append] at F;exact(A0B.mp F).elim (h c) (g c)
theorem RR (p q:Str):Txt.upper (p++q)=Txt.upper p++Txt.upper q:=by show(⟨PySem.placed (p++q) _⟩:Str)=⟨PySem.placed p _++PySem.placed q _⟩;congr 1;unfold PySem.placed;rw[Str.cps_append];rw[Array.mapIdx_append];rw [Array.flatten_append]
theorem PZ:∀ c,c<128->(Txt.upper ⟨#[c]⟩).cps.toList=[if 97<=c/\c<=122 then c-32 else c]:=by decide +kernel
theorem Pa:∀ l:AE,(∀ c∈l,c<128)->(Txt.upper ⟨l.toArray⟩).cps.toList=l.map λc=>if 97<=c/\c<=122 then c-32 else c
 | [],_=>by decide +kernel
 |c :: l,h=>by
   have O:=Pa l λx F=>h x (BP _ F)
   have e:(⟨(c :: l).toArray⟩:Str)=⟨#[c]⟩++⟨l.toArray⟩:=by show(⟨(c :: l).toArray⟩:Str)=⟨#[c]++l.toArray⟩;simp
   rw[e,RR];show((Txt.upper ⟨#[c]⟩).cps++(Txt.upper ⟨l.toArray⟩).cps).toList=_;rw[Array.toList_append,O,PZ c (h c 'c')];rfl
theorem Yv (h:Asc z):Asc (Txt.upper z)/\(Txt.upper z).length=z.length:=by
 have e:=Pa z.cps.toList h;rw[Array.toArray_toList] at e;refine⟨λc F=>?_,?_⟩
 . have F:c∈(Txt.upper ⟨z.cps⟩).cps.toList:=F;rw[e] at F;obtain⟨b,hb,rfl⟩:1:=A0D.mp F;have:=h b hb
   split<;>omega
 show(Txt.upper ⟨z.cps⟩).cps.size=z.cps.size;rw[<- HD,e,BA,HD]
theorem Dk.shaped {p w W:Nat}(h:Dk p w W D)(hp:p<=64):SeqAt.shaped D=true:=by have:=h.dp;unfold SeqAt.shaped;rw[h.lay,BY ∅];rfl
theorem YD {t:Int}(F:0<=t):Mi xs (some t) none=xs.drop t.toNat:=by
 by_cases h:t<=xs.length
 . exact Ih F h
 have e:(79,0,some t)=xs.length:=by unfold HT.sIx;simp[show ¬ t<0 by omega];omega
 unfold Mi;rw[e,List.drop_length,List.take_nil,List.drop_eq_nil_of_le ∅]
section
variable {K:W.Frag}
noncomputable def aa5 (K:W.Frag):List V->Hp->VK->Prop:=λxs H Q=>∃ x d,xs=[x]/\(9,d,x)/\d.showable=true/\d.shown.length<=sizeLine/\d.depth<=100/\(17,d.shown,H)
theorem X3 (U:QA X.A):CallR X (.builtin "repr") (aa5 X.K):=by
 intro pins s σ H xs us Q I F h;obtain⟨x,d,rfl,i,O,hf,hd,q⟩:2:=h
 cases d with
 |none=>simp only[Is] at i;subst i;exact Ph pins s σ H _ us Q I F (.inr ⟨rfl,q⟩)
 |bool b=>
   simp only[Is] at i;subst i;refine Ph pins s σ H _ us Q I F (.inl ⟨b,rfl,?_⟩)
   cases b<;>exact q
 |int n=>simp only[Is] at i;subst i;exact Y2 pins s σ H _ us Q I F ⟨n,rfl,of_decide_eq_true (by simpa only[PyData.showable] using O),q⟩
 |str z=>simp only[Is] at i;subst i;obtain⟨u,rfl,Y⟩:1:=F.one;obtain⟨t,rfl⟩:=Y;exact PySem.P.repr_of_str ⟨.str _,H,I.tok _,⟨_,rfl⟩,q⟩ hf
 |list ds=>exact P6 U pins s σ H _ us Q I F ⟨x,_,rfl,i,⟨rfl,O,hf,hd⟩,q⟩
 |tuple ds=>exact P6 U pins s σ H _ us Q I F ⟨x,_,rfl,i,⟨rfl,O,hf,hd⟩,q⟩
 |dict kvs=>simp only[Is] at i
theorem E1 (O:QA X.A)(F:X.K=K:=by ac_nf):CallR X (.builtin "repr") (aa5 K):=F ▸ X3 O
theorem Hd {Q:VK}{d:PyData}{x:V}(h:(9,d,x))(h1:d.showable=true)(h2:d.shown.length<=sizeLine)(F:d.depth<=100)(k:(17,d.shown,H)):aa5 K [x] H Q:=⟨x,d,rfl,h,h1,h2,F,k⟩
theorem Dk.told {p w W:Nat}(h:Dk p w W D)(hp:p<=60)(U:w<=100000):D.showable=true/\D.shown.length<=sizeLine/\D.depth<=100:=by have h2:=PyData.shown_le 45 nofun D h.lv;have F:=h.wt;have O:=h.dp;refine⟨h.sh,?_,by omega⟩;rw[CH];omega
end
section
variable {prog:Program}{w:World}{A:Around}{s:Shared}
set_option maxHeartbeats 3200000 in
end
end L2
namespace L2
open PySem PySem.Spec PyProof.Rows
open Builtin
end L2
namespace L2
open PySem PySem.Spec PyProof.Rows
variable {C dx bd ad kd P a r c':Addr}{H H':Hp}{ct1 ct2:List ((Str->Bool)×Nat)}{D T:List AA}{qs qs2:List (Str->Bool)}{ps:AB}{as:AF}{L M:AA}{xs:List V}{i m col:Nat}{pos p1 p2 p3 p4 p5:Pos}{z x y qual:Str}{q:Str->Bool}{f:Str->Str->Nat}{nv:V}
theorem eqv_str_iff {e:PyData}:PyData.eqv e (.str z)=true↔e = .str z:=by
 cases e with
 |str y=>simp only[PyData.eqv,PyData.str.injEq];simp
 |_=>simp only[PyData.eqv];simp
theorem P5:∀ {ds:AD} {row:AA},PyData.eqvAll ds (row.map PyData.str)=true↔ds=row.map PyData.str
 | [],[]=>by simp[PyData.eqvAll]
 | [],_ :: _=>by simp[PyData.eqvAll]
 |_ :: _,[]=>by simp[PyData.eqvAll]
 |d :: ds,z :: row=>by simp only[List.map_cons,PyData.eqvAll,Bool.and_eq_true,eqv_str_iff,P5,List.cons.injEq]
theorem eqv_row {ds:AD}{row:AA}:PyData.eqv (.tuple ds) (nmD row)=true↔ds=row.map PyData.str:=by unfold nmD;simp only[PyData.eqv];exact P5
section
variable {X:Cx}{pins:AI}{σ:(91,V)}{s:Shared}{h':Heap}
theorem Inv.nsed {t':Nat}(I:(4,s))(k:∀ b u,b≠X.env.locals->s.heap.get? b=some u->h'.get? b=some u){m:AH}(a0:∀(i:Nat) (x:Str) (v:V),X.N[i]? = some x->σ[i]? = some (some v)->Vis X.env.scope x->∃ u,(u,v)/\aT1 X.env s.heap m x u)(a1:h'.Ns X.env.locals m):Inv X pins σ H {s with heap:=h',toks:=t'}:=by
 have Y:∀ b o,X.s₀.heap.get? b=some o->b≠X.env.locals:=λb o q e=>by have h1:=BF q;have h2:=I.ok.above;rw[e] at h1;exact(77,CS h1 h2,_)
 refine⟨I.ok,I.os,I.bare,⟨λb o q n hf F=>k b o (Y b o q) (I.base.keep b o q n hf F),λb o q n hf F=>?_,I.base.free,λb o q F=>?_,I.base.tups,I.base.frzs,I.base.tbls⟩,?_,λx c e=>?_,I.free,I.freeC,λp hp=>?_,λa o e=>?_,I.len⟩
 . obtain⟨sl,e⟩:=I.base.slot b o q n hf F;exact⟨sl,k b _ (Y b o q) e⟩
 . obtain⟨o',e⟩:=(92,b,q,F);exact⟨o',k b _ (Y b o q) e⟩
 . refine⟨m,a1,λi x v a b c=>?_⟩;obtain⟨u,r,l⟩:1:=a0 i x v a b c;refine⟨u,r,?_⟩;rcases l with l|⟨l1,c,l2,l3⟩
   . exact .inl l
   obtain⟨o,O,U⟩:1:=l3;exact .inr ⟨l1,c,l2,o,k c o (I.cne x c l2) O,U⟩
 . obtain⟨v,o,O,U⟩:2:=I.cell x c e;exact⟨v,o,k c o (I.cne x c e) O,U⟩
 . obtain⟨h1,h2,Z,h4,h5⟩:0:=I.pin p hp;exact⟨k _ _ Z h1,h2,Z,h4,h5⟩
 refine(I.hok a o e).stay (λb u hb q=>k b u (λz=>?_) q) (λ_ q=>q) λ_ _ q=>q;have:=I.free;rcases hb with rfl|hb
 . rw[z] at e;rw[e] at this
   cases this
 rw [z,this] at hb
 cases hb
theorem Rq {g h:Heap}{L:Addr}(hb:∀ b o,g.get? b=some o->h.get? b=some o)(F:∀ b o,g.get? b=some o->h'.get? b=some o){more:AI}(N:News g L h' (Ht g h L++more)):∀ b u,b≠L->h.get? b=some u->h'.get? b=some u:=λb u n e=>by
 cases hc:g.get? b with
 |some o=>
   have:=hb b o hc;rw[e] at this
   cases this;exact F b u hc
 |none=>exact(N (b,u) (BZ _ (Uv n hc e))).1
variable {K:W.Frag}
end
theorem Nv {qs:AB}(h:(U,y)↔Way qs x y):Ac ps x y=Ac qs x y:=Z2 (by rw[wayB_iff];exact h)
section
variable {ns ns':AA}{ps':AB}
theorem HalfW.ba10 (h:(E,ps))(F:ns.length<=10):(E,baP ns ps)/\(baP ns ps).length<=60/\∀ x y,Way (baP ns ps) x y↔Way ps x y:=⟨XS h F,BI (MY h F) nofun,λ_ _=>LO h.mem h.irr⟩
variable {qs:AB}
end
section
variable {α:Type}[DecidableEq α]{b:α->α->Bool}
noncomputable def Grow (b:α->α->Bool)(R:List α->Prop):(67,α)->(67,α)->Prop
 |_,[]=>True
 |T,M :: B=>(∀ x∈(e,M),(c,M)∈T)/\(R M\/∃ N∈B,∃ x∈(e,N),M=(c,N))/\Grow b R (T++[M]) B
theorem Grow.mono {R R':List α->Prop}(h:∀ M,R M->R' M):∀ {T A:(67,α)},Grow b R T A->Grow b R' T A
 |_,[],_=>trivial
 |T,M :: B,⟨h1,h2,h3⟩=>⟨h1,h2.imp (h M) id,Grow.mono h h3⟩
theorem Grow.app {R:List α->Prop}:∀ {T A B:(67,α)},Grow b R T A->Grow b R (T++A) B->Grow b R T (A++B)
 |T,[],B,_,h=>by simpa using h
 |T,M :: A,B,⟨h1,h2,h3⟩,h=>⟨h1,h2.imp id (λ⟨N,F,r⟩=>⟨N,List.mem_append_left _ F,r⟩),Grow.app h3 (by simpa using h)⟩
theorem Grow.close {L:List α}:∀ {T A:(67,α)},Grow b (λM=>∃ x∈(e,L),M=(c,L)) T A->(∀ x∈(e,L),(c,L)∈T++A)->Grow b (· = L) T (A++[L])
 |T,[],_,h=>⟨by simpa using h,.inl rfl,trivial⟩
 |T,M :: A,⟨h1,h2,h3⟩,h=>⟨h1,.inr (by
  rcases h2 with ⟨x,O,e⟩|⟨N,F,r⟩
  . exact⟨L,by simp,x,O,e⟩
  exact⟨N,List.mem_append_left _ F,r⟩),Grow.close h3 (by simpa using h)⟩
theorem Grow.at {R:List α->Prop}:∀ {T A D:(67,α)} {M:List α},Grow b R T (A++M :: D)->(∀ x∈(e,M),(c,M)∈T++A)/\(R M\/∃ N∈D,∃ x∈(e,N),M=(c,N))
 |T,[],D,M,⟨h1,h2,h3⟩=>⟨by simpa using h1,h2⟩
 |T,N :: A,D,M,⟨h1,h2,h3⟩=>by have:=Grow.at (T:=T++[N]) (A:=A) h3;simpa using this
end
noncomputable def ind (L:AA):AA->Nat:=λM=>if M=L then 1 else 0
theorem Qp {ns:AA}{p:Str->Bool}(h:ns.filter p=ns.filter q):B2 ns p=B2 ns q:=Ky λx F=>by
 have h1:x∈ns.filter p↔x∈ns.filter q:=by rw[h]
 rw[A0M,A0M] at h1
 cases hp:p x<;>cases hq:q x<;>simp_all
theorem O9 {ns:AA}{p:Str->Bool}(h:B2 ns p=B2 ns q):ns.filter p=ns.filter q:=DG λx F=>Kb h x F
theorem Xs {ns:AA}{F G:AA->Nat}{ct:List ((Str->Bool)×Nat)}(h:∀ e∈ct,F (ns.filter e.1)=G (ns.filter e.1)):G3 ns F ct=G3 ns G ct:=by unfold G3;congr 1;exact CP λe he=>by rw[h e he]
noncomputable def G2 (ns:AA)(ct:List ((Str->Bool)×Nat)):List AA:=ct.map λe=>ns.filter e.1
theorem com_keys {ns:AA}{ct:List ((Str->Bool)×Nat)}:(Sum.inl ((B2 ns q:Nat):Int):Key)∈(Gy ns ct).map (·.1)↔ns.filter q∈G2 ns ct:=by
 unfold Gy G2;rw[CG,A0D,A0D];constructor
 . rintro⟨e,he,h⟩;refine⟨e,he,O9 ?_⟩;have:=DV h;omega
 rintro ⟨e,he,h⟩;exact⟨e,he,by show(Sum.inl ((B2 ns e.1:Nat):Int):Key)=_;rw[Qp h]⟩
theorem Wu {ns:AA}{L:AA}:∀ {ct:List ((Str->Bool)×Nat)},L∉G2 ns ct->(62,ns,L,ct)=0
 | [],_=>rfl
 |e :: r,h=>by have h:L∉(ns.filter e.1) :: G2 ns r:=h;rw[A0A,not_or] at h;rw[C2,Wu h.2];unfold ind;rw[AZ (λz=>h.1 z.symm)];rfl
theorem U4 {ns:AA}{q:Str->Bool}:∀ {ct:List ((Str->Bool)×Nat)},Qb ns ct->ns.filter q∈G2 ns ct->Cr (Gy ns ct) (Sum.inl ((B2 ns q:Nat):Int):Key)=(K,((G3 ns (ind (ns.filter q)) ct:Nat):Int))
 | [],_,h=>by cases h
 |e :: r,hO,h=>by
   have F:((Sum.inl ((B2 ns e.1:Nat):Int):Key) :: (Gy ns r).map (·.1)).Nodup:=hO;obtain⟨h1,h2⟩:=A0W.mp F;have O:ns.filter e.1∉G2 ns r:=λz=>h1 (com_keys.mpr z);have h:ns.filter q∈(ns.filter e.1) :: G2 ns r:=h
   by_cases c:ns.filter e.1=ns.filter q
   . show Cr ((Sum.inl ((B2 ns e.1:Nat):Int),V.int ((e.2:Nat):Int)) :: Gy ns r) _=_;rw[Bc (by rw[Qp c]),C2,Wu (c ▸ O)];unfold ind;rw[BB c,Nat.mul_one,Nat.add_zero]
   rcases A0A.mp h with h|h
   . exact absurd h.symm c
   have U:¬ (Sum.inl ((B2 ns e.1:Nat):Int):Key)=Sum.inl ((B2 ns q:Nat):Int):=λz=>c (O9 (by have:=DV z;omega));show Cr ((Sum.inl ((B2 ns e.1:Nat):Int),V.int ((e.2:Nat):Int)) :: Gy ns r) _=_;rw[B9 U,U4 h2 h,C2];unfold ind;rw[AZ c,Nat.mul_zero,Nat.zero_add]
theorem TD {ns:AA}{F F':AA->Nat}(h:∀ M,M≠L->F M=F' M)(ct:List ((Str->Bool)×Nat)):G3 ns F ct+(62,ns,L,ct)*F' L=G3 ns F' ct+(62,ns,L,ct)*F L:=by
 induction ct with
 |nil=>simp[G3]
 |cons e r ih=>
   rw[C2,C2,C2,EC,EC]
   by_cases c:ns.filter e.1=L
   . rw[c];unfold ind at ih ⊢;rw[BB rfl,Nat.mul_one];omega
   rw[h _ c];unfold ind at ih ⊢;rw[AZ c,Nat.mul_zero,Nat.zero_mul,Nat.zero_mul];omega
theorem Jp {β:Type}(f g:β->Nat):∀ l:List β,(l.map λx=>f x+g x).sum=(l.map f).sum+(l.map g).sum
 | []=>rfl
 |x :: r=>by rw[BM,CV,Jp f g r,BM,CV,BM,CV];omega
theorem MD {β:Type}(f:β->Nat)(c:Nat):∀ l:List β,(l.map λx=>c*f x).sum=c*(l.map f).sum
 | []=>rfl
 |x :: r=>by rw[BM,CV,MD f c r,BM,CV,Nat.mul_add]
theorem Zy {L:AA}{F:AA->Nat}:∀ {all:List AA},all.Nodup->L∈all->(all.map λM=>ind M L*F M).sum=F L
 | [],_,h=>by cases h
 |M :: r,hn,h=>by
   obtain⟨h1,h2⟩:=A0W.mp hn;rw[BM,CV]
   by_cases c:L=M
   . subst c
     have:(r.map λM=>ind M L*F M).sum=0:=by
      rw[show(r.map λM=>ind M L*F M)=r.map λ_=>0 from CP λM O=>by unfold ind;rw[AZ (λz:L=M=>h1 (z ▸ O)),Nat.zero_mul]]
      clear h h1 h2 hn
      induction r with
      |nil=>rfl
      |cons x r ih=>simpa using ih
     rw[this];unfold ind;rw[BB rfl];omega
   rcases A0A.mp h with h|h
   . exact absurd h c
   rw[Zy h2 h];unfold ind;rw[AZ c];omega
theorem W7 {ns:AA}{F:AA->Nat}{all:List AA}(hn:all.Nodup):∀ {ct:List ((Str->Bool)×Nat)},(∀ L∈G2 ns ct,L∈all)->(all.map λL=>(62,ns,L,ct)*F L).sum=G3 ns F ct
 | [],h=>by
   show(all.map λL=>0*F L).sum=0;clear hn h
   induction all with
   |nil=>rfl
   |cons x r ih=>rw[BM,CV,ih,Nat.zero_mul]
 |e :: r,h=>by have h1:ns.filter e.1∈all:=h _ (BQ ..);rw[C2,<- W7 hn (ct:=r) (λL O=>h L (BP _ O)),<- Zy hn h1 (F:=F)];rw[<- MD,<- Jp];congr 1;refine CP λL _=>?_;rw[C2,EC,Nat.mul_assoc]
noncomputable def Ji (D:List AA)(W loc:AA->Nat):AA->Nat:=λL=>if L∈D then loc L else W L
noncomputable def Rec (b:Str->Str->Bool)(W loc:AA->Nat):Prop:=∀ L,L.Nodup->W L=loc L+(((e,L)).map λx=>W (c,L)).sum
theorem tele {b:Str->Str->Bool}{ns:AA}{W loc:AA->Nat}{ct O:List ((Str->Bool)×Nat)}{w:Nat}(hR:Rec b W loc)(hM:M.Nodup)(hD:M∉D)(hn:∀ x∈(e,M),(c,M)∉M :: D)(U:G3 ns (Ji D W loc) ct=w)
 (h:∀ F,G3 ns F O=G3 ns F ct+(62,ns,M,ct)*(((e,M)).map λx=>F (c,M)).sum):G3 ns (Ji (M :: D) W loc) O=w:=by
 rw[h]
 have h1:(((e,M)).map λx=>Ji (M :: D) W loc (c,M))=((e,M)).map λx=>W ((c,M)):=CP λx hx=>by unfold Ji;rw[AZ (hn x hx)]
 rw[h1]
 have h2:=TD (ns:=ns) (F:=Ji D W loc) (F':=Ji (M :: D) W loc) (L:=M) (λN hN=>by
  unfold Ji
  by_cases c:N∈D
  . rw[BB c,BB (BP _ c)]
  rw[AZ c,AZ (λz=>by rcases A0A.mp z with z|z;exact hN z;exact c z)]) ct
 have Y:Ji (M :: D) W loc M=loc M:=by unfold Ji;rw[if_pos (List.mem_cons_self ..)]
 have Z:Ji D W loc M=W M:=by unfold Ji;rw[if_neg hD]
 rw[Y,Z,hR M hM,Nat.mul_add,U] at h2;omega
theorem Ue {a:Str}{r:AA}(h:a≠x):(a :: r).idxOf x=r.idxOf x+1:=by
 rw[List.idxOf_cons];have:(a==x)=false:=by simpa using h
 rw[this];rfl
noncomputable def ahN (b:Str->Str->Bool)(x y:Str)(L:AA):Nat:=if x∈L/\y∈L then((ext b L.length L).filter λr=>decide (r.idxOf x<r.idxOf y)).length else 0
noncomputable def aj0 (b:Str->Str->Bool)(x y:Str)(L:AA):Nat:=if x∈(e,L)/\y∈(c,L) then cnt b (c,L) else 0
theorem Sb {α β:Type}(f:α->List β):∀ l:List α,(l.flatMap f).length=(l.map λx=>(f x).length).sum
 | []=>rfl
 |x :: r=>by rw[DD,BL,Sb f r,BM,CV]
theorem Wj {α β:Type}(f:α->List β)(p:β->Bool):∀ l:List α,(l.flatMap f).filter p=l.flatMap λx=>(f x).filter p
 | []=>rfl
 |x :: r=>by rw[DD,DX,Wj f p r,DD]
theorem V6 {α:Type}{p:α->Bool}{l:List α}(h:∀ x∈l,p x=true):(l.filter p).length=l.length:=by rw[A4C.mpr h]
theorem Lo {α:Type}{p:α->Bool}{l:List α}(h:∀ x∈l,p x=false):(l.filter p).length=0:=by rw[A58.mpr λx F=>by rw[h x F];decide];rfl
theorem VE {b:Str->Str->Bool}{y:Str}(hn:L.Nodup)(c:Nat):(((e,L)).map λz=>if z=x then c else 0).sum=if x∈(e,L) then c else 0:=by
 have U:((e,L)).Nodup:=EG EF hn;generalize frF b L=l at U ⊢
 induction l with
 |nil=>rfl
 |cons z r ih=>
   obtain⟨h1,h2⟩:=A0W.mp U;rw[BM,CV,ih h2]
   by_cases O:z=x
   . subst O;rw[BB rfl,AZ h1,BB (BQ ..)];rfl
   rw[AZ O,Nat.zero_add]
   by_cases F:x∈r
   . rw[BB F,BB (BP _ F)]
   rw[AZ F,AZ (λz=>by rcases A0A.mp z with z|z;exact O z.symm;exact F z)]
theorem WU {b:Str->Str->Bool}(Z:x≠y):Rec b (ahN b x y) (aj0 b x y):=λL hn=>by
 by_cases hm:x∈L/\y∈L
 . have a1:L≠[]:=λz=>by rw[z] at hm;cases hm.1
   obtain⟨n,hl⟩:∃ n,L.length=n+1:=⟨L.length-1,by have:=A5O.mpr a1;omega⟩
   have h1:ahN b x y L=(((e,L)).map λz=>(if z=x then cnt b (c,L) else 0)+ahN b x y (Ag L z)).sum:=by
    unfold ahN;rw[BB hm,hl];show((((e,L)).flatMap λz=>(ext b n (Ag L z)).map (z :: ·)).filter _).length=_;rw[Wj,Sb];congr 1;refine CP λz hz=>?_;have a2:=(mem_frF.mp hz).1;have Y:(Ag L z).length=n:=by have:=Ba hn a2;omega
    have a0:∀ r∈ext b n (Ag L z),r.Perm (Ag L z):=λr F=>((C3 b n (Ag L z) r (B6 hn z) Y).mp F).1;rw[List.filter_map,BA]
    by_cases O:z=x
    . subst O;rw[BB rfl,AZ (λq=>(mem_lessF.mp q.1).2 rfl),Nat.add_zero,V6]
      . unfold cnt;rw[Y]
      intro r F;have hy:y∈r:=(a0 r F).mem_iff.mpr (mem_lessF.mpr ⟨hm.2,Z.symm⟩);refine BY ?_;show(z :: r).idxOf z<(z :: r).idxOf y;rw[List.idxOf_cons_self,Ue Z];omega
    rw[AZ O,Nat.zero_add]
    by_cases U:z=y
    . subst U;rw[AZ (λq=>(mem_lessF.mp q.2).2 rfl),Lo];intro r F;refine BS ?_;show ¬ (z :: r).idxOf x<(z :: r).idxOf z;rw[List.idxOf_cons_self];omega
    rw[BB ⟨mem_lessF.mpr ⟨hm.1,λq=>O q.symm⟩,mem_lessF.mpr ⟨hm.2,λq=>U q.symm⟩⟩,Y];congr 1;refine DG λr F=>?_;show decide ((z :: r).idxOf x<(z :: r).idxOf y)=_;rw[Ue O,Ue U]
    by_cases q:r.idxOf x<r.idxOf y
    . rw[BY q,BY ∅]
    rw[BS q,BS ∅]
   rw[h1,Jp,VE (y:=y) hn];congr 1;unfold aj0
   by_cases c:x∈(e,L)
   . rw[BB c,BB ⟨c,mem_lessF.mpr ⟨hm.2,Z.symm⟩⟩]
   rw[AZ c,AZ (λq=>c q.1)]
 have h1:ahN b x y L=0:=by unfold ahN;rw[if_neg hm]
 have h2:aj0 b x y L=0:=by unfold aj0;rw[AZ (λq=>hm ⟨(mem_frF.mp q.1).1,(mem_lessF.mp q.2).1⟩)]
 have h3:(((e,L)).map λz=>ahN b x y (Ag L z))=((e,L)).map λ_=>0:=CP λz _=>by unfold ahN;rw[AZ (λq=>hm ⟨(mem_lessF.mp q.1).1,(mem_lessF.mp q.2).1⟩)]
 rw[h1,h2,h3];generalize frF b L=l
 induction l with
 |nil=>rfl
 |cons z r ih=>simpa using ih
noncomputable def knK (ns:AA)(ps:AB)(qs:List (Str->Bool)):List (Key×V):=qs.map λq=>((Sum.inl ((B2 ns q:Nat):Int):Key),V.int ((cnt (Ac ps) (ns.filter q):Nat):Int))
noncomputable def Bu (ns:AA)(qs:List (Str->Bool)):List AA:=qs.map λq=>ns.filter q
theorem Cj (ns:AA)(a b:List (Str->Bool)):Bu ns (a++b)=Bu ns a++Bu ns b:=BU
theorem OB {ns:AA}{v:V}(h:Cr (knK ns ps qs) (Sum.inl ((B2 ns q:Nat):Int):Key)=some v):ns.filter q∈Bu ns qs:=by obtain⟨e,he,h1⟩:1:=A0D.mp (Ps h);refine A0D.mpr ⟨e,he,O9 ?_⟩;have:=DV (Prod.mk.inj h1).1;omega
theorem YS {ns:AA}(h:ns.filter q∉Bu ns qs):Cr (knK ns ps qs) (Sum.inl ((B2 ns q:Nat):Int):Key)=none:=by
 cases e:Cr (knK ns ps qs) (Sum.inl ((B2 ns q:Nat):Int):Key) with
 |none=>rfl
 |some v=>exact absurd (OB e) h
theorem OK {ns:AA}(h:ns.filter q∉Bu ns qs):Eo (knK ns ps qs) (Sum.inl ((B2 ns q:Nat):Int)) (.int ((cnt (Ac ps) (ns.filter q):Nat):Int))=knK ns ps (qs++[q]):=by rw[Kk _ (YS h)];unfold knK;rw[BU];rfl
theorem LK (ns:AA)(ps:AB):([(Sum.inl 0,V.int 1)]:List (Key×V))=knK ns ps [λ_=>false]:=by unfold knK;rw [List.map_cons,List.map_nil,binM_zero.mpr λ_ _=>rfl,List.filter_eq_nil_iff.mpr 'c'];rfl
theorem Vs {ns:AA}{ps:AB}:∀ {qs:List (Str->Bool)} {q:Str->Bool},ns.filter q∈Bu ns qs->Cr (knK ns ps qs) (Sum.inl ((B2 ns q:Nat):Int):Key)=(K,((cnt (Ac ps) (ns.filter q):Nat):Int))
 | [],_,h=>by cases h
 |e :: r,q,h=>by
   show Cr ((Sum.inl ((B2 ns e:Nat):Int),V.int ((cnt (Ac ps) (ns.filter e):Nat):Int)) :: knK ns ps r) _=_
   by_cases c:ns.filter e=ns.filter q
   . rw[Bc (by rw[Qp c]),c]
   have F:¬ (Sum.inl ((B2 ns e:Nat):Int):Key)=Sum.inl ((B2 ns q:Nat):Int):=λz=>c (O9 (by have:=DV z;omega));rw[B9 F];rcases A0A.mp (show ns.filter q∈ns.filter e :: Bu ns r from h) with z|z
   . exact absurd z.symm c
   exact Vs z
theorem Knw.tt {ns:AA}(h:Knw ns ps (knK ns ps qs)):(Bu ns qs).Nodup:=by have h1:=h.1;unfold knK at h1;rw[CG] at h1;unfold Bu;unfold List.Nodup at h1 ⊢;rw[List.pairwise_map] at h1 ⊢;exact h1.imp fun {a b} F z=>F (by show(Sum.inl ((B2 ns a:Nat):Int):Key)=Sum.inl ((B2 ns b:Nat):Int);rw[Qp z])
noncomputable def Gr (ns:AA)(ps:AB)(qs qs':List (Str->Bool))(q:Str->Bool):Prop:=∃ new,qs'=qs++new/\Grow (Ac ps) (· = ns.filter q) (Bu ns qs) (Bu ns new)/\(∀ M∈Bu ns new,M.length<=(ns.filter q).length)/\ns.filter q∈Bu ns qs'
noncomputable def GrC (ns:AA)(ps:AB)(qs qs':List (Str->Bool))(L:AA)(i:Nat):Prop:=∃ new,qs'=qs++new/\Grow (Ac ps) (λM=>∃ x∈(57,ps,L),M=(c,L)) (Bu ns qs) (Bu ns new)/\(∀ M∈Bu ns new,M.length<L.length)/\∀ x∈((57,ps,L)).take i,(c,L)∈Bu ns qs'
theorem GrC.zero (ns:AA)(ps:AB)(qs:List (Str->Bool))(L:AA):GrC ns ps qs qs L 0:=⟨[],by simp,trivial,λM F=>(by cases F),λx O=>(by cases O)⟩
theorem GrC.step {ns:AA}{a1:List (Str->Bool)}(hL:L.Nodup)(h:GrC ns ps qs qs2 L i)(hz:((57,ps,L))[i]? = some z)(hq:ns.filter q=Ag L z)(g:Gr ns ps qs2 a1 q):GrC ns ps qs a1 L (i+1):=by
 obtain⟨n1,rfl,h1,h2,h3⟩:1:=h;obtain⟨n2,rfl,U,Y,Z⟩:1:=g;have a0:=BG hz;have a2:=Ba hL (mem_frF.mp a0).1;rw[hq] at U Y Z;refine⟨n1++n2,by rw[CK],?_,λM F=>?_,λx O=>?_⟩
 . rw[Cj];rw[Cj] at U;exact h1.app (U.mono λM F=>⟨z,a0,F⟩)
 . rw[Cj] at F;rcases A0B.mp F with F|F
   . exact h2 M F
   have:=Y M F;omega
 rw[CC,hz] at O;rcases A0B.mp O with O|O
 . rw[Cj];exact BZ _ (h3 x O)
 have:x=z:=by simpa using O
 rw[this];exact Z
theorem GrC.no {ns:AA}(h:GrC ns ps qs qs2 (ns.filter q) i)(F:ns.filter q∉Bu ns qs):ns.filter q∉Bu ns qs2:=by
 obtain⟨U,rfl,h1,h2,O⟩:1:=h;intro z;rw[Cj] at z;rcases A0B.mp z with z|z
 . exact F z
 have:=h2 _ z;omega
theorem GrC.close {ns:AA}(h:GrC ns ps qs qs2 (ns.filter q) ((Z,q)).length):Gr ns ps qs (qs2++[q]) q:=by
 obtain⟨Y,rfl,h1,h2,O⟩:1:=h;rw[CF] at O;refine⟨Y++[q],by rw[CK],?_,λM F=>?_,?_⟩
 . rw[Cj];exact h1.close λx U=>by rw[<- Cj];exact O x U
 . rw[Cj] at F;rcases A0B.mp F with F|F
   . exact DM (h2 M F)
   have:M=ns.filter q:=by simpa[Bu] using F
   rw[this];exact BE _
 rw[Cj];exact List.mem_append_right _ (by simp[Bu])
structure WaysB (K:W.Frag)(C:Addr)(H:Hp)(p dx:Addr)(nv:V)(bd ad kd:Addr)(ns:AA)(ps:AB):Prop where
 ob:H p=(47,C,dx,[("names",nv),("bits",.ref bd),("ahead",.ref ad),("full",.int ((B2 ns (λ_=>true):Nat):Int)),("known",.ref kd)])
 nm:(44,ns,nv)
 bt:H bd=(6,av3 ns)
 ah:H ad=(6,ahK ns ps)
theorem WaysAt.b {K:W.Frag}{p:Addr}{ns:AA}{kvs:List (Key×V)}(h:WaysAt K C H p dx nv bd ad kd ns ps kvs):WaysB K C H p dx nv bd ad kd ns ps:=⟨h.ob,h.nm,h.bt,h.ah⟩
theorem WaysB.of {K:W.Frag}{p:Addr}{ns:AA}(h:WaysB K C H p dx nv bd ad kd ns ps)(f:Fz H H')(e:∀ b o,b=p\/b=bd\/b=ad->H b=some o->H' b=some o):WaysB K C H' p dx nv bd ad kd ns ps:=⟨e _ _ (.inl rfl) h.ob,h.nm.nm_fz f,e _ _ (98,rfl) h.bt,e _ _ (31,rfl) h.ah⟩
theorem WaysB.same {K:W.Frag}{p:Addr}{ns:AA}(h:WaysB K C H p dx nv bd ad kd ns ps)(e:(5,H')):WaysB K C H' p dx nv bd ad kd ns ps:=h.of e.fz λb o _=>e b o
noncomputable def aN3 (K:W.Frag)(a:Addr)(n:Nat):It:=
 ⟨λi H=>i<n/\∃ xs,(N,a)/\xs.length=n,λi H v H'=>H'=H/\∀ xs,(N,a)->xs[n-1-i]? = some v,λi H=>n<=i⟩
theorem PN {P:Program}{w:World}{K:W.Frag}{tg:Expr}(a it:Addr)(n:Nat)(a4:a≠it):Ye P w K tg (aN3 K a n) [it] it (λi h=>i<=n/\h.IsRevIter it a ((n:Int)-1-(i:Int))) where
 mem:=by simp
 obj:=λi h st b hb=>by
  have q:b=it:=by simpa using hb
  subst q;obtain⟨_,o,h2,h3,h4⟩:420:=st;exact⟨o,h2,λv z=>by rw[h4] at z;cases z⟩
 keep:=λi h h' st k=>⟨st.1,st.2.at λo q=>k it 'c' o q⟩
 item:=by
  intro X hP hw hK hc i pins s σ H E I hf st hg;subst hP hw hK;obtain⟨a2,xs,hq,a5⟩:420:=hg;obtain⟨its,rv,p,hz⟩:1:=I.list hq;have hl:=rv.length;have hn:=Ly;obtain⟨O,U,f2,Y,Z,f5⟩:0:=hf it 'c';have e:(n:Int)-1-(i:Int)=((n-1-i:Nat):Int):=by omega
  have F:=st.2;rw[e] at F;obtain⟨x,hx⟩:∃ x,xs[n-1-i]? = some x:=⟨xs[n-1-i]'∅,BJ _⟩;obtain⟨u,hu,ru⟩:1:=rv.get hx;refine wpAny_pyNext_rev_item F p.isList (x:=u) (by rw[ID];exact hu) λh' a0 a3=>?_;have I1:Inv X pins σ H {s with heap:=h'}:=(108,(λb o hb e=>a3.extBut b o (by simpa using hb) e),O,U,Y,Z)
  obtain⟨o,q1,q2,q3⟩:1:=id a0;have e2:((n-1-i:Nat):Int)-1=(n:Int)-1-((i+1:Nat):Int):=by omega
  rw[e2] at a0;refine⟨u,rfl,Y4 (s:={s with heap:=h'}) q1 q2 q3 'f' ⟨x,H,I1,ru,⟨rfl,λys hy=>by rw[I.list_inj hy hq];exact hx⟩,⟨a2,a0⟩,λb hb=>(hf b hb).1⟩⟩
 done:=by intro X hP hw hK hc i pins s σ H E I hf st hg;subst hP hw hK;obtain⟨O,U,f2,Y,Z,f5⟩:0:=hf it 'c';have a1:n<=i:=hg;have hi:i=n:=Nat.le_antisymm st.1 a1;subst hi;have F:=st.2;rw[show(i:Int)-1-(i:Int) = -1 by omega] at F;refine wpAny_pyNext_rev_end (by simpa using I.ok.hd hc) F λh' hk=>⟨rfl,(108,(λb o hb e=>hk b o (by simpa using hb) e),O,U,Y,Z)⟩
 self:=by intro A i s Q E st hQ;exact wpAny_pyIter_revIter st.2 hQ
section
variable {X:Cx}{K:W.Frag}
noncomputable def as1 (K:W.Frag)(vs:List V)(H:Hp)(R:It->Hp->Prop):Prop:=∃ a xs,vs=[.ref a]/\(N,a)/\R (aN3 K a xs.length) H
noncomputable def aA7 (K:W.Frag)(ta:TA):TI:=fun σ H R=>ta σ H λvs H1=>as1 K vs H1 R
theorem WK {e:Expr}{ta:TA}{p:Pos}{tg:Expr}(hg:Gl X "reversed")(hm:X.mg "reversed" = none)(ha:PA X [e] ta)(Z:X.K=K:=by ac_nf)(hs:(29,[e])=[(false,(s,e))]:=by ac_nf) :
 PI X tg ((60,"reversed",p,[e],[],pos)) (aA7 K ta):=by
 subst Z;intro pins s σ H R I h;refine Call_ (Ka I hg hm boot_reversed (FA (BD (ha pos pins s σ H _ I h) λus F ⟨vs,H1,O,r1,q1⟩=>?_) hs rfl));obtain⟨a,xs,rfl,hq,q⟩:2:=q1;obtain⟨u,rfl,ru⟩:1:=Vals.one r1
 cases ru;obtain⟨its,rv,Y,hz⟩:1:=O.list hq;have a0:a<F.heap.objs.size:=let ⟨_,q,_⟩:=Y.isList;BF q;have hl:=rv.length;have hn:=Ly;refine call_reversed_list Y.isList ?_;have U:(F.heap.push (revObj a ((its.toArray.size:Int)-1))).IsRevIter F.heap.objs.size a ((xs.length:Int)-1-((0:Nat):Int)):=⟨_,Heap.get?_push_size _ rfl,rfl,by rw[List.size_toArray,<- hl];simp[revObj]⟩;refine wpAny_pyIter_revIter U ?_;refine⟨F.heap.objs.size,[F.heap.objs.size],_,_,H1,rfl,O.kept (t':=F.toks) (λb o e=>BH _ e),PN a F.heap.objs.size xs.length (BN a0),⟨DJ _,U⟩,λb hb=>?_,q⟩;have e:b=F.heap.objs.size:=by simpa using hb
 subst e;exact O.fpOk (BE _) (109,_)
end
section
variable {K:W.Frag}{σ:St}
theorem ZW {ts:TA}{R:It->Hp->Prop}(k:ts σ H λvs H1=>as1 K vs H1 R):aA7 K ts σ H R:=k
theorem Yr:Fg (aN3 K a xs.length) xs.reverse λH=>SqL K H a xs:=by intro i H g;rw[FM];refine⟨λh=>⟨h,xs,g,rfl⟩,λh=>h,λx H' hi h=>?_⟩;obtain⟨e,h2⟩:=h;refine⟨e,?_⟩;rw[List.getElem?_reverse hi];exact h2 xs g
theorem UE {R:It->Hp->Prop}(h:(N,a))(k:R (aN3 K a xs.length) H):as1 K [.ref a] H R:=⟨a,xs,rfl,h,k⟩
end
theorem YF {α:Type}{xs:List α}{M:α}(h:xs.reverse[i]? = some M):∃ A,xs=A++M :: (xs.reverse.take i).reverse:=by
 obtain⟨hi,F⟩:=A01.mp h;refine⟨(xs.reverse.drop (i+1)).reverse,?_⟩
 have h1:xs.reverse=xs.reverse.take i++M :: xs.reverse.drop (i+1):=by conv=>lhs;rw[<- List.take_append_drop i xs.reverse,List.drop_eq_getElem_cons hi,F]
 have h2:=congrArg List.reverse h1;rw[List.reverse_reverse,List.reverse_append,FJ,CK] at h2;exact h2
theorem RO {α:Type}{xs:List α}{M:α}(h:xs[i]? = some M):(xs.take (i+1)).reverse=M :: (xs.take i).reverse:=by rw[CC,h];simp
theorem SK (b:Str->Str->Bool):(e,([]:AA))=[]:=rfl
theorem NE {ns:AA}{A:List AA}(h:Gr ns ps [λ_=>false] qs (λ_=>true))(e:Bu ns qs=A++M :: D) :
 (57,ps,M)=[]\/((∀ x∈(57,ps,M),(c,M)∈A)/\(M=ns\/∃ N∈D,∃ x∈(57,ps,N),M=(c,N))):=by
 obtain⟨new,rfl,h1,h2,h3⟩:1:=h;have U:Bu ns [λ_=>false]=[[]]:=by unfold Bu;simp
 rw[Cj,U] at e;rw[U] at h1
 cases A with
 |nil=>left;have:([]:AA)=M:=(HJ e).1;rw[<- this];exact SK _
 |cons B A=>
   right
   obtain⟨Y,O⟩:=HJ e;subst Y;have O:Bu ns new=A++M :: D:=O;rw[O] at h1;obtain⟨Z,F⟩:=h1.at;refine⟨λx hx=>by simpa using Z x hx,?_⟩;rcases F with F|F
   . left;rw[F];simp
   exact .inr F
structure CmI (ns:AA)(ps:AB)(T D:List AA)(ct:List ((Str->Bool)×Nat)):Prop where
 k1:∀ L∈G2 ns ct,L∈T
 k2:ns∈G2 ns ct
 k3:∀ M∈D,∀ x∈(57,ps,M),(c,M)∈G2 ns ct
 sm:∀ W loc,Rec (Ac ps) W loc->G3 ns (Ji D W loc) ct=W ns
theorem CmI.start {ns:AA}(h:ns∈T):CmI ns ps T [] [(λ_=>true,1)]:=by
 have F:ns.filter (λ_=>true)=ns:=by simp
 refine⟨λL O=>?_,?_,λM U=>(by cases U),λW loc _=>?_⟩
 . have:L=ns:=by simpa[G2,F] using O
   rw[this];exact h
 . rw[show G2 ns [((λ_=>true:Str->Bool),1)]=[ns.filter λ_=>true] from rfl,F];exact BQ ..
 rw[C2];show 1*Ji [] W loc (ns.filter λ_=>true)+0=_;rw[F];unfold Ji;rw[if_neg 'c'];omega
structure CmJ (ns:AA)(ps:AB)(M:AA)(m:Nat)(ct1 ct2:List ((Str->Bool)×Nat)):Prop where
 ks:∀ L,L∈G2 ns ct2↔L∈G2 ns ct1\/∃ x∈((57,ps,M)).take m,L=(c,M)
 sm:∀ F,G3 ns F ct2=G3 ns F ct1+(62,ns,M,ct1)*((((57,ps,M)).take m).map λx=>F (c,M)).sum
theorem CmJ.zero (ns:AA)(ps:AB)(M:AA)(ct:List ((Str->Bool)×Nat)):CmJ ns ps M 0 ct ct:=⟨λL=>by simp,λF=>by simp⟩
theorem TZ (h:x∈L):(c,L)≠L:=λz=>by rw[<- z] at h;exact(mem_lessF.mp h).2 rfl
theorem CmJ.same {ns:AA}(h:CmJ ns ps M m ct1 ct2):(62,ns,M,ct2)=G3 ns (ind M) ct1:=by
 rw[h.sm]
 have:(((57,ps,M)).take m).map (λx=>ind M (c,M))=(((57,ps,M)).take m).map λ_=>0:=CP λx F=>by unfold ind;rw[AZ (TZ (mem_frF.mp ((IR _ _).subset F)).1)]
 rw[this];generalize ((57,ps,M)).take m=l
 have:(l.map λ_=>0).sum=0:=by
  induction l with
  |nil=>rfl
  |cons z r ih=>simpa using ih
 rw[this];omega
theorem CmJ.step {ns:AA}{Y:List ((Str->Bool)×Nat)}(h:CmJ ns ps M m ct1 ct2)(hz:((57,ps,M))[m]? = some z)(hq:ns.filter q=Ag M z)
 (Z:∀ k,k∈(Gy ns Y).map (·.1)↔k∈(Gy ns ct2).map (·.1)\/k=Sum.inl ((B2 ns q:Nat):Int)) (g5:∀ F,G3 ns F Y=G3 ns F ct2+(62,ns,M,ct2)*F (ns.filter q)):CmJ ns ps M (m+1) ct1 Y:=by
 refine⟨λL=>?_,λF=>?_⟩
 . have a0:L∈G2 ns Y↔L∈G2 ns ct2\/L=Ag M z:=by
    constructor
    . intro U;obtain⟨e,he,rfl⟩:1:=A0D.mp U;rcases(Z _).mp (com_keys.mpr U) with g|g
      . exact .inl (com_keys.mp g)
      right
      rw[<- hq];exact O9 (by have:=DV g;omega)
    rintro(U|rfl)
    . obtain⟨e,he,rfl⟩:1:=A0D.mp U;exact com_keys.mp ((Z _).mpr (.inl (com_keys.mpr U)))
    rw[<- hq];exact com_keys.mp ((Z _).mpr (.inr rfl))
   rw[a0,h.ks,CC,hz];constructor
   . rintro((a|⟨x,O,e⟩)|e)
     . exact .inl a
     . exact .inr ⟨x,BZ _ O,e⟩
     exact .inr ⟨z,by simp,e⟩
   rintro(a|⟨x,O,e⟩)
   . exact(93,a)
   rcases A0B.mp O with O|O
   . exact .inl (.inr ⟨x,O,e⟩)
   have:x=z:=by simpa using O
   exact .inr (this ▸ e)
 rw[g5,h.same,h.sm,hq,CC,hz,BU,List.sum_append,Nat.mul_add];simp;omega
theorem CmI.step {ns:AA}{A:List AA}(h:CmI ns ps T D ct1)(hT:T=A++M :: D)(hn:T.Nodup)(hM:M.Nodup)(a0:∀ x∈(57,ps,M),(c,M)∈A)(g:CmJ ns ps M ((57,ps,M)).length ct1 ct2):CmI ns ps T (M :: D) ct2:=by
 have O:=g.ks;have Y:=g.sm;rw[CF] at O Y;rw[hT] at hn;obtain⟨n1,n2,n3⟩:0:=A1D.mp hn;refine⟨λL hL=>?_,(O _).mpr (.inl h.k2),λN U x F=>?_,λW loc Z=>?_⟩
 . rcases(O L).mp hL with q|⟨x,F,rfl⟩
   . exact h.k1 L q
   rw[hT];exact BZ _ (a0 x F)
 . rcases A0A.mp U with rfl|U
   . exact(O _).mpr (.inr ⟨x,F,rfl⟩)
   exact(O _).mpr (.inl (h.k3 N U x F))
 exact tele Z hM (A0W.mp n2).1 (λx F z=>n3 _ (a0 x F) _ z rfl) (h.sm W loc Z) Y
noncomputable def wof (b:Str->Str->Bool)(loc:AA->Nat):Nat->AA->Nat
 |0,L=>loc L
 |n+1,L=>loc L+(((e,L)).map λx=>wof b loc n (c,L)).sum
theorem OS {b:Str->Str->Bool}(loc:AA->Nat):Rec b (λL=>wof b loc L.length L) loc:=λL hn=>by
 show wof b loc L.length L=_
 cases hl:L.length with
 |zero=>have:L=[]:=A18.mp hl;subst this;rfl
 |succ n=>show loc L+_=loc L+_;congr 2;refine CP λx F=>?_;have:=Ba hn (mem_frF.mp F).1;show _=wof b loc ((c,L)).length (c,L);rw[show((c,L)).length=n by omega]
theorem L4 {α:Type}{f:α->Nat}{c:Nat}:∀ {l:List α},(∀ x∈l,f x<=c)->(l.map f).sum<=l.length*c
 | [],_=>by simp
 |x :: r,h=>by have h1:=h x (BQ ..);have h2:=L4 (l:=r) λy F=>h y (BP _ F);rw[BM,CV,BO,EC];omega
theorem N6 {α:Type}{f:α->Nat}:∀ {l:List α},(∀ x∈l,f x=0)->(l.map f).sum=0
 | [],_=>rfl
 |x :: r,h=>by rw[BM,CV,h x (BQ ..),N6 (l:=r) λy F=>h y (BP _ F)]
theorem LX {b:Str->Str->Bool}{F:AA}:∀(n:Nat) (L:AA),L.Nodup->L.length=n->wof b (ind F) n L<=fac n/\(n<F.length->wof b (ind F) n L=0)
 |0,L,_,hl=>by
   have:L=[]:=A18.mp hl;subst this;refine⟨?_,λh=>?_⟩
   . show ind F []<=1;unfold ind
     split<;>omega
   show ind F []=0;unfold ind;rw[AZ (λz:([]:AA)=F=>by rw[<- z] at h;cases h)]
 |n+1,L,hn,hl=>by
   have sub:∀ x∈(e,L),wof b (ind F) n (c,L)<=fac n/\(n<F.length->wof b (ind F) n (c,L)=0):=λx O=>LX n ((c,L)) (B6 hn x) (by have:=Ba hn (mem_frF.mp O).1;omega)
   have U:((e,L)).length<=n+1:=hl ▸ CM _ _;refine⟨?_,λh=>?_⟩
   . show ind F L+(((e,L)).map λx=>wof b (ind F) n (c,L)).sum<=fac (n+1);rw[show fac (n+1)=(n+1)*fac n by simp[fac,Nat.mul_comm]]
     by_cases c:L=F
     . have hz:(((e,L)).map λx=>wof b (ind F) n (c,L)).sum=0:=N6 λx O=>(sub x O).2 (by rw[<- c,hl];omega);rw[hz]
       have:1<=fac n:=by
        clear hz sub U hl c
        induction n with
        |zero=>exact BE _
        |succ n ih=>rw[show fac (n+1)=(n+1)*fac n by simp[fac,Nat.mul_comm]];exact Nat.le_trans ih (Nat.le_mul_of_pos_left _ ∅)
       unfold ind;rw[BB c];have:=Nat.le_mul_of_pos_left (fac n) (show 0<n+1 by omega);omega
     have h1:=L4 λx O=>(sub x O).1;have h2:=JA (fac n) U;unfold ind at h1 ⊢;rw[AZ c];omega
   show ind F L+_=0;rw[N6 λx O=>(sub x O).2 ∅];unfold ind;rw[AZ (λz=>by rw[<- z] at h;omega)]
theorem CmI.sum {ns:AA}{ct:List ((Str->Bool)×Nat)}(h:CmI ns ps T T ct){W loc:AA->Nat}(F:Rec (Ac ps) W loc):G3 ns loc ct=W ns:=by rw[<- h.sm W loc F];refine Xs λe he=>?_;unfold Ji;rw[BB (h.k1 _ (A0D.mpr ⟨e,he,rfl⟩))]
theorem CmI.le {ns:AA}{ct:List ((Str->Bool)×Nat)}(h:CmI ns ps T T ct)(hn:ns.Nodup)(F:ns.length<=10)(L:AA):(62,ns,L,ct)<=3628800:=by rw[h.sum (OS (ind L))];exact BI (LX _ ns hn rfl).1 (BI (KU F) nofun)
theorem CmI.share {ns:AA}{ct:List ((Str->Bool)×Nat)}(h:CmI ns ps T T ct)(hn:T.Nodup)(U:(E,ps))(F:x∈ns)(O:y∈ns)(Y:x≠y) :
 (T.map λL=>(62,ns,L,ct)*aj0 (Ac ps) x y L).sum=cnt (Ac (ps++[(x,y)])) ns:=by
 rw[W7 hn h.k1,h.sum (WU Y),Ik U F O];unfold ahN;rw[BB ⟨F,O⟩]
noncomputable def U0 (ns:AA)(g:Str->Nat):List (Key×V):=ns.map λy=>((Sum.inr y:Key),V.int ((g y:Nat):Int))
structure TabN (H:Hp)(r:Addr)(ns:AA)(as:AF)(f:Str->Str->Nat):Prop where
 len:as.length=ns.length
 nd:as.Nodup
 no:r∉as
 top:H r=(6,Iq ns as)
 row:∀(j:Nat) x a,ns[j]? = some x->as[j]? = some a->H a=(6,U0 ns (f x))
theorem TabN.of {ns:AA}(h:TabN H r ns as f)(e:∀ b o,b=r\/b∈as->H b=some o->H' b=some o):TabN H' r ns as f:=
 ⟨h.len,h.nd,h.no,e _ _ (.inl rfl) h.top,λj x a F ha=>e _ _ (.inr (BG ha)) (h.row j x a F ha)⟩
theorem TabN.same {ns:AA}(h:TabN H r ns as f)(e:(5,H')):TabN H' r ns as f:=h.of λb o _=>e b o
theorem TabN.at {ns:AA}(h:TabN H r ns as f)(O:x∈ns):∃(j:Nat) (a:Addr),ns[j]? = some x/\as[j]? = some a:=by obtain⟨j,F⟩:=A1U.mp O;have hl:=(A01.mp F).1;exact⟨j,as[j]'(by rw[h.len];exact hl),F,BJ _⟩
theorem QH {ns:AA}(hn:ns.Nodup){g:Str->Nat}(hz:z∈ns):Eo (U0 ns g) (Sum.inr z:Key) (.int ((m:Nat):Int))=U0 ns λy=>if y=z then m else g y:=by
 unfold Eo
 have F:((U0 ns g).any λkv=>decide (kv.1=(Sum.inr z:Key)))=true:=by rw[A1E];exact⟨_,List.mem_map.mpr ⟨z,hz,rfl⟩,by simp⟩
 rw[BB F];unfold U0;rw[CG];refine CP λy _=>?_
 by_cases c:y=z
 . subst c;simp
 have:(Sum.inr y:Key)≠Sum.inr z:=λq=>c (by injection q);simp[c,this]
theorem TabN.put {ns:AA}(h:TabN H r ns as f)(hn:ns.Nodup){j:Nat}(hj:ns[j]? = some x)(ha:as[j]? = some a)(hz:z∈ns)(e:(h,a))(h':H' a=(6,Eo (U0 ns (f x)) (Sum.inr z:Key) (.int ((m:Nat):Int)))) :
 TabN H' r ns as λF y=>if F=x/\y=z then m else f F y:=by
 have a0:=BG ha;refine⟨h.len,h.nd,h.no,e _ _ (λq=>h.no (q ▸ a0)) h.top,λi F Z hi O=>?_⟩
 by_cases c:i=j
 . subst c;rw[hj] at hi
   cases hi;rw[ha] at O
   cases O;rw[h',QH hn hz];congr 2;exact List.map_congr_left λy _=>by by_cases q:y=z<;>simp[q]
 have a1:Z≠a:=λq=>by subst q;obtain⟨l1,U⟩:=A01.mp ha;obtain⟨l2,Y⟩:=A01.mp O;exact c ((CY h.nd).mp (Y.trans U.symm))
 have hx:F≠x:=λq=>by subst q;obtain⟨l1,U⟩:=A01.mp hj;obtain⟨l2,Y⟩:=A01.mp hi;exact c ((CY hn).mp (Y.trans U.symm))
 rw[e _ _ a1 (h.row i F Z hi O)];congr 2;exact List.map_congr_left λy _=>by simp[hx]
theorem UW {ns:AA}(hn:ns.Nodup)(g:Str->Nat):((U0 ns g).map (·.1)).Nodup:=by unfold U0;rw[CG];exact List.Pairwise.map _ (λa b h z=>h (by injection z)) hn
section
variable {K:W.Frag}{x:V}{ns:AA}{σ:St}{Q:VK}
noncomputable def NmS (K:W.Frag)(H:Hp)(x:V)(ns:AA):Prop:=∃ a,x = .ref a/\((83,K,a,V.str)\/(A,ns.map V.str))
theorem NmS.same (h:NmS K H x ns)(e:(5,H')):NmS K H' x ns:=by obtain⟨a,rfl,h⟩:1:=h;exact⟨a,rfl,h.imp e.seq e.seqT⟩
theorem NmS.of (h:(44,ns,x)):NmS K H x ns:=by obtain⟨a,rfl,g⟩:1:=h.nm;exact⟨a,rfl,.inr g⟩
theorem LM (h:NmS K H x ns)(k:(X,ns.length,H)):Uj K [x] H Q:=by
 obtain⟨a,rfl,h | h⟩:1:=h
 . exact .inl ⟨.ref a,_,rfl,.inl ⟨_,h,rfl⟩,by rw[BA];exact k⟩
 exact Tc (Mp h) k
theorem KW {i:Int}(h:NmS K H x ns)(e:atI ns i=some z)(k:(17,z,H)):Pk K x (.int i) H Q:=by
 obtain⟨a,rfl,h | h⟩:1:=h
 . refine QD h ?_ k;unfold atI at e ⊢;rw[BA]
   cases c:ixN ns.length i with
   |none=>rw[c] at e;cases e
   |some j=>rw[c] at e;show(ns.map V.str)[j]? = _;rw[BK,show ns[j]? = some z from e];rfl
 exact JP (Mp h) e k
theorem W2 {g:TG}{tt:TT}{te:TE}{k:Nat}{js:AE}(h:NmS K H x ns)(t:Str->Bool)(f:Str->PyData)(hf:∀ a,frz (f a)=true)(hz:ns.length<=1000000)
 (O:∀(i:Nat) a H1 (R:VK) (R':Hp->Prop),ns[i]? = some a->(5,H1)->(t a=true->∀ y H2,Same H1 H2->Is K H2 (f a) y->R y H2)->(t a=false->∀ H2,Same H1 H2->R' H2) ->
  g (.str a) ((30,k)++Ob σ js) H1 fun σ2 H2=>tt σ2 H2 λb F=>if b=true then te σ2 F R else R' F)
 (hd:∀ p ys H',H p=none->(5,H')->H' p=(2,ys)->IsL K H' ((ns.filter t).map f) ys->(D,p)):Ej K x H λJ H1=>M7 k js g tt te σ J H1 Q:=by
 obtain⟨a,rfl,h | h⟩:1:=h
 . exact Ra h t f hf hz O hd
 exact Rj (Mp h) t f hf hz O hd
noncomputable def NmX (K:W.Frag)(H:Hp)(q:Addr)(x:V)(ns:AA):Prop:=∃ p,x = .ref p/\((p≠q/\H p=(2,ns.map V.str))\/SqT K H p (ns.map V.str))
theorem PY {q:Addr}{o:HO}{t:Int}(U:H q=some o)(h:NmS K H x ns)(O:0<=t)(h1:t<=ns.length)(k:∀ y H',(5,H')->NmX K H' q y (ns.drop t.toNat)->Q y H'):az9 K x (some t) none H Q:=by
 have F:Mi (ns.map V.str) (some t) none=(ns.drop t.toNat).map V.str:=by rw[Ih O (by rw[BA];exact h1),FU]
 obtain⟨a,rfl,h | h⟩:1:=h
 . exact O3 h λp H' hp e g=>k _ _ e ⟨p,rfl,.inl ⟨(ne_of_none U hp).symm,by rw[<- F];exact g⟩⟩
 exact X8 h λp H' e g=>k _ _ e ⟨p,rfl,.inr (by rw[<- F];exact g)⟩
theorem WQ {q:Addr}{g:TG}{tb:TS}{D:Ends}(h:NmX K H q x ns)(Pv:Nat->St->Hp->Prop)(O:Pv 0 σ H)(U:∀ i σ' H',(24,i)->(h,q)/\Fz H H')
 (Y:∀ i z σ' H',ns[i]? = some z->(24,i)->g (.str z) σ' H' fun σ2 H2=>tb {D with nx:=Pv (i+1),ct:=Pv (i+1),bk:=D.nx} σ2 H2) (hd:∀ σ' H',(24,ns.length)->D.nx σ' H') :
 Ej K x H λJ H1=>ae9 g tb D σ J H1:=by
 obtain⟨a,rfl,⟨Z,h⟩ | h⟩:1:=h
 . refine Jk (SqL.of h) (Dq Bq Pv O (λi σ' H' p=>SqL.of ((U i σ' H' p).1 _ _ Z h)) (λi v σ' H' F hi p=>?_) fun σ' H' p=>hd σ' H' (by rw[BA] at p;exact p));rw[BK] at F
   cases hn:ns[i]? with
   |none=>rw[hn] at F;cases F
   |some z=>
     rw[hn] at F
     cases F;exact Y i z σ' H' hn p
 exact Lj (Mp h) Pv O (λi σ' H' p=>(U i σ' H' p).2) Y hd
noncomputable def HfS (K:W.Frag)(H:Hp)(x:V)(ns:AA)(ps:AB):Prop:=∃ a nv pv,x = .ref a/\(A,[nv,pv])/\NmS K H nv ns/\(9,psD ps,pv)
theorem HfS.same (h:HfS K H x ns ps)(e:(5,H')):HfS K H' x ns ps:=by obtain⟨a,nv,pv,rfl,h1,h2,F⟩:3:=h;exact⟨a,nv,pv,rfl,e.seqT h1,h2.same e,AT e _ _ F⟩
theorem HfS.of (h:(15,x)):HfS K H x ns ps:=by
 obtain⟨a,xs,rfl,h1,h2⟩:2:=AS h;obtain ⟨v1,F,U⟩:1:=h2.at (i:=0) rfl;obtain⟨v2,O,Y⟩:1:=h2.at (i:=1) rfl;have Z:=h2.length
 match xs,F,O,Z with
 | [y1,y2],F,O,_=>
   cases F
   cases O;exact⟨a,v1,v2,rfl,h1,.of U,Y⟩
theorem NR (h:HfS K H x ns ps)(k:∀ v,NmS K H v ns->Q v H):Pk K x (.int 0) H Q:=by obtain⟨a,nv,pv,rfl,h1,h2,F⟩:3:=h;exact .inl (98,⟨a,_,_,_,rfl,rfl,h1,Ci (j:=0) rfl,k _ h2⟩)
theorem XH (h:HfS K H x ns ps)(k:∀ v,(9,psD ps,v)->Q v H):Pk K x (.int 1) H Q:=by obtain ⟨a,nv,pv,rfl,h1,h2,F⟩:3:=h;exact .inl (98,⟨a,_,_,_,rfl,rfl,h1,Ci (j:=1) rfl,k _ F⟩)
end
theorem NB {ns:AA}{ps:AB}:∀(i:Nat) (row:AA),row∈Ds (Ac ps) ns i [[]]->∀ y∈En ns row,∀ z∈ns,Ac ps y z=true->z∈En ns row
 |0,row,h,y,hy,z,hz,g=>by
   have:row=[]:=by simpa[Ds] using h
   subst this;exact List.mem_filter.mpr ⟨hz,by simp⟩
 |i+1,row,h,y,hy,z,hz,g=>by
   rw[Fy] at h;obtain⟨r,U,h⟩:1:=A2O.mp h;obtain⟨w,Y,rfl⟩:1:=A0D.mp h;obtain⟨y1,y2⟩:=A0M.mp hy;have O:y∉r++[w]:=by simpa using y2
   rw[A0B,not_or] at O;have F:y∈En ns r:=List.mem_filter.mpr ⟨y1,by simpa using O.1⟩;have Z:=NB i r U y F z hz g;refine A0M.mpr ⟨hz,?_⟩;have a0:z∉r:=by simpa using (List.mem_filter.mp Z).2
   have a1:z≠w:=λq=>by
    subst q;rw[(mem_frF.mp Y).2 y F] at g
    cases g
   simp[a0,a1]
theorem RH {ns:AA}(hm:∀ p∈ps,p.1∈ns/\p.2∈ns){row:AA}(h:row∈Ds (Ac ps) ns i [[]]) :
 ((En ns row).filter λz=>!decide (z∈(ps.filter λp=>decide (p.1∈En ns row)).map (·.2)))=frF (Ac ps) (En ns row):=by
 unfold frF;refine DG λz hz=>?_;congr 1;rw[DQ,GJ,A1E];constructor
 . intro q;obtain⟨p,hp,rfl⟩:1:=A0D.mp q;obtain⟨p1,p2⟩:=A0M.mp hp;exact⟨p.1,GR p2,wayB_iff.mpr (.one p1)⟩
 rintro⟨y,U,g⟩;obtain⟨m,O,F⟩:1:=Way.last (wayB_iff.mp g);refine A0D.mpr ⟨(m,z),A0M.mpr ⟨O,BY ?_⟩,rfl⟩;rcases F with rfl|F
 . exact U
 exact NB i row h y U m (hm _ O).1 (wayB_iff.mpr F)
theorem Lv {ns:AA}(h:(E,ps))(Y:x∈ns)(Z:y∈ns)(a2:x≠y):(20,(ps++[(x,y)]))=0↔Ac ps y x=true:=by
 constructor
 . intro g
   cases c:Ac ps y x with
   |true=>rfl
   |false=>
     have c':¬ Way ps y x:=λq=>by rw[wayB_iff.mpr q] at c;cases c
     have a0:=S4 h.irr (p:=(x,y)) (λq=>a2 q.symm) c';have:=K1 (b:=Ac (ps++[(x,y)])) (λz=>Ig (a0 z)) TL ns.length ns rfl h.nd;omega
 intro g;rw[Ik h Y Z];refine Lo λr hr=>?_;refine BS λq=>?_;obtain⟨hp,U⟩:=(C3 _ _ _ _ h.nd rfl).mp hr
 have h1:okR (Ac (ps++[(x,y)])) r:=by
  rw[Iv h.nd (h.more Y Z).mem hp];intro p F;rcases A0B.mp F with F|F
  . exact(Iv h.nd h.mem hp).mp U p F
  have:p=(x,y):=by simpa using F
  rw[this];exact q
 have h2:r∈ext (Ac (ps++[(x,y)])) ns.length ns:=(C3 _ _ _ _ h.nd rfl).mpr ⟨hp,h1⟩;have O:=(Iv h.nd h.mem hp).mp U
 have a1:∀ a b,Way ps a b->r.idxOf a<r.idxOf b:=λa b g=>by
  induction g with
  |one e=>exact O _ e
  |cons e _ ih=>exact GA (O _ e) ih
 have:=a1 y x (wayB_iff.mp g);omega
noncomputable def qsD (p:Str×Str)(m n:Nat):PyData:=.tuple [prD p,.tuple [.int ((m:Nat):Int),.int ((n:Nat):Int)]]
theorem So (p:Str×Str)(m n:Nat):frz (qsD p m n)=true:=by simp[qsD,frz,Li,Fe]
noncomputable def quR (ns:AA)(A:Str->Str->Nat)(i m:Nat):AD:=(((ns.drop (i+1)).take m).filter λy=>decide (A (L,"") y≠0/\A y (L,"")≠0)).map λy=>qsD ((L,""),y) (A (L,"") y) (A y (L,""))
noncomputable def quK (ns:AA)(A:Str->Str->Nat)(k:Nat):AD:=(List.range k).flatMap λi=>quR ns A i ns.length
noncomputable def quP (ns:AA)(ps:AB):AD:=((O,ns)).map λp=>qsD p (20,(ps++[(p.1,p.2)])) (20,(ps++[(p.2,p.1)]))
theorem OV {ns:AA}(h:(E,ps)){A:Str->Str->Nat}(O:∀ x∈ns,∀ y∈ns,x≠y->(A x y≠0/\A y x≠0↔unB ps x y=true)/\(unB ps x y=true->A x y=(20,(ps++[(x,y)])))):quK ns A ns.length=quP ns ps:=by
 unfold quP unP unK quK;rw[List.map_flatMap];rw[List.flatMap_def,List.flatMap_def];congr 1;refine CP λi hi=>?_;have hi:i<ns.length:=A1W.mp hi;have hx:(L,"") = ns[i]:=by simp[List.getD,List.getElem?_eq_getElem hi]
 have U:ns[i]∈ns:=HA hi;unfold quR unR;rw[CG,hx,FN (by rw[CL];omega)]
 have Z:∀ y∈ns.drop (i+1),y∈ns/\ns[i]≠y:=λy F=>by refine⟨(HK _ _).subset F,λq=>?_⟩;obtain⟨j,Y⟩:=A1U.mp F;rw[List.getElem?_drop] at Y;obtain⟨h1,h2⟩:=A01.mp Y;have:=(CY h.nd).mp (h2.trans q.symm);omega
 have hf:((ns.drop (i+1)).filter λy=>decide (A ns[i] y≠0/\A y ns[i]≠0))=(ns.drop (i+1)).filter λy=>unB ps ns[i] y:=DG λy F=>by obtain⟨h1,h2⟩:=Z y F;rw[DQ,GJ];exact(O _ U y h1 h2).1
 rw[hf];refine CP λy F=>?_;obtain⟨y1,y2⟩:=A0M.mp F;obtain⟨h1,h2⟩:=Z y y1
 have hs:unB ps y ns[i]=true:=by have:=y2;unfold unB at this ⊢;rw[HL];exact this
 show qsD (ns[i],y) _ _=qsD (ns[i],y) _ _;rw[(O _ U y h1 h2).2 y2,(O y h1 _ U h2.symm).2 hs]
theorem KG {ns:AA}(h:(E,ps))(F:x∈ns)(U:y∈ns)(O:x≠y):((20,(ps++[(x,y)]))≠0/\(20,(ps++[(y,x)]))≠0)↔unB ps x y=true:=by
 rw[Ne,Ne,Lv h F U O,Lv h U F O.symm];unfold unB
 cases Ac ps x y<;>cases Ac ps y x<;>simp
theorem YM {ns:AA}(h:(E,ps)):quK ns (λx y=>((ext (Ac ps) ns.length ns).filter λr=>decide (r.idxOf x<r.idxOf y)).length) ns.length=quP ns ps:=by refine OV h λx F y O U=>?_;rw[<- Ik h F O,<- Ik h O F];exact⟨KG h F O U,λ_=>rfl⟩
theorem Qj (ns:AA)(A:Str->Str->Nat)(k:Nat):quK ns A (k+1)=quK ns A k++quR ns A k ns.length:=by unfold quK;rw[List.range_succ,EM];simp
theorem We {ns:AA}{A:Str->Str->Nat}(h:(ns.drop (i+1))[m]? = some y):quR ns A i (m+1)=quR ns A i m++if A (L,"") y≠0/\A y (L,"")≠0 then [qsD ((L,""),y) (A (L,"") y) (A y (L,""))] else []:=by
 unfold quR;rw[CC,h,DX,BU];congr 1
 by_cases c:A (L,"") y≠0/\A y (L,"")≠0
 . rw[BB c];show(([y].filter λy=>decide (A (L,"") y≠0/\A y (L,"")≠0)).map _)=_;rw[CO,BB (by rw[BY c])];rfl
 rw[AZ c]
 have:([y].filter λy=>decide (A (L,"") y≠0/\A y (L,"")≠0))=[]:=by rw[CO,AZ (by rw[BS c];decide)];rfl
 show(([y].filter λy=>decide (A (L,"") y≠0/\A y (L,"")≠0)).map _)=_;rw[this];rfl
theorem Bh {K:W.Frag}{d:PyData}{ds:AD}{vs:List V}(h:(I,(d :: ds),vs)):∃ v r,vs=v :: r/\(9,d,v)/\IsL K H ds r:=by simpa only[IsL] using h
theorem Za {α:Type}{K:W.Frag}{f:α->PyData}{ys:List V}(hp:ys.Perm xs):∀ {S:List α},(I,S.map f,xs)->∃ F:List α,F.Perm S/\IsL K H (F.map f) ys:=by
 induction hp with
 |nil=>intro S h;exact⟨S,.refl _,h⟩
 |@cons x l1 l2 _ ih=>
   intro S h
   match S,h with
   | [],h=>simp only[List.map_nil,IsL] at h;cases h
   |s :: S,h=>
     obtain⟨v,r,e,h1,h2⟩:2:=Bh h
     cases e;obtain⟨F,O,U⟩:1:=ih h2;exact⟨s :: F,O.cons _,.cons h1 U⟩
 |@swap x y l=>
   intro S h
   match S,h with
   | [],h=>simp only[List.map_nil,IsL] at h;cases h
   | [s],h=>
     obtain⟨v,r,e,h1,h2⟩:2:=Bh h
     cases e;simp only[List.map_nil,IsL] at h2
     cases h2
   |s :: s2 :: S,h=>
     obtain⟨v,r,e,h1,h2⟩:2:=Bh h
     cases e;obtain⟨v',r',Y,Z,a0⟩:2:=Bh h2
     cases Y;exact⟨s2 :: s :: S,.swap ..,(32,Z,h1,a0)⟩
 |trans p1 p2 ih1 ih2=>intro S h;obtain⟨S2,O,U⟩:1:=ih2 h;obtain⟨S1,q3,q4⟩:1:=ih1 U;exact⟨S1,q3.trans O,q4⟩
noncomputable def crs (A B:AA):AB:=A.flatMap λx=>B.map λy=>(x,y)
theorem mem_crs {A B:AA}{p:Str×Str}:p∈crs A B↔p.1∈A/\p.2∈B:=by
 unfold crs;rw[A2O];constructor
 . rintro⟨x,F,h⟩;obtain⟨y,O,rfl⟩:1:=A0D.mp h;exact⟨F,O⟩
 rintro⟨h1,h2⟩;exact⟨p.1,h1,A0D.mpr ⟨p.2,h2,rfl⟩⟩
theorem Zq (A B:AA):(crs A B).length=A.length*B.length:=by
 unfold crs
 induction A with
 |nil=>simp
 |cons a A ih=>rw[DD,BL,ih,BA,BO,Nat.succ_mul];omega
section
variable {ns A B:AA}{pA pB S:AB}
noncomputable def Rm (rows:List AA)(x y:Str):Nat:=(rows.filter λr=>decide (r.idxOf x<r.idxOf y)).length
end
section
variable {prog:Program}{w:World}{A:Around}{E:AG}{s:Shared}{Q:AG}
theorem SF {t:Addr}{m n:Int}{t1 t2:Tok}(hh:A.handled=none)(Y:s.heap.IsTuple t #[.int m t1,.int n t2])
 (h:∀ u h' tk,(∀ b o,s.heap.get? b=some o->h'.get? b=some o)->Q (.int (if n<m then n else m) u) {s with heap:=h',toks:=tk}) :
 wpAny ((G,w)) A ((95,"min",[.ref t])) Q E s:=by
 have a0:t<s.heap.objs.size:=by obtain⟨_,e,_⟩:1:=Y;exact BF e
 refine call_min_walk (GK Y ?_);have a1:t≠s.heap.objs.size:=BN a0;refine⟨_,_,_,_,_,_,_,rfl,Walks.tuple (A:=A.in1) hh s.heap.objs.size t a1 #[.int m t1,.int n t2],⟨⟨_,(12,_),rfl,rfl⟩,?_⟩,λb hb=>?_,(by show 0<2;decide),CmpOf.ints_lt (λi=>if i=0 then m else n) (λi v O=>?_),λv h' tk F hk=>?_⟩
 . obtain⟨o,e,r⟩:1:=Y;exact⟨o,BH _ e,r⟩
 . show b<(s.heap.push _).objs.size;rw[DO];simp only[List.mem_cons,List.not_mem_nil,or_false] at hb;rcases hb with rfl|rfl
   . exact FO _
   exact FE a0
 . match i,O with
   |0,O=>cases O;exact⟨t1,rfl⟩
   |1,O=>cases O;exact⟨t2,rfl⟩
   |i+2,O=>simp at O
 have keep:∀ b o,s.heap.get? b=some o->h'.get? b=some o:=λb o e=>hk b o (λz=>by
  have z':b=s.heap.objs.size:=by simpa using z
  have Z:=BF e;rw[z'] at Z;exact(77,Z,_)) (BH _ e)
 by_cases c:n<m
 . have F:(#[Value.int m t1,.int n t2])[argBest (λi j=>decide ((if i=0 then m else n)<(if j=0 then m else n))) (2-1)]? = some v:=F
   have U:argBest (λi j=>decide ((if i=0 then m else n)<(if j=0 then m else n))) (2-1)=1:=by
    show(if decide ((if 0+1=0 then m else n)<(if 0=0 then m else n)) then 0+1 else 0)=1
    simp[c]
   rw[U] at F
   cases F;have:=h t2 h' tk keep;rwa[BB c] at this
 have F:(#[Value.int m t1,.int n t2])[argBest (λi j=>decide ((if i=0 then m else n)<(if j=0 then m else n))) (2-1)]? = some v:=F
 have U:argBest (λi j=>decide ((if i=0 then m else n)<(if j=0 then m else n))) (2-1)=0:=by
  show(if decide ((if 0+1=0 then m else n)<(if 0=0 then m else n)) then 0+1 else 0)=0
  simp[c]
 rw[U] at F
 cases F;have:=h t1 h' tk keep;rwa[AZ c] at this
end
noncomputable abbrev aA2 (p:Pos):Arguments:={posonlyargs:=[],args:=[{arg:="question",annotation:=none,pos:=p}],vararg:=none,kwonlyargs:=[],kw_defaults:=[],kwarg:=none,defaults:=[]}
noncomputable abbrev aA3 (p1 p2 p3 p4 p5:Pos):Expr:=(60,"min",p1,[.Subscript (.Name "question" p2) (.Constant (.int 1) 0 p3) p4],[],p5)
noncomputable abbrev aA5:Scope:={kind:=.function,names:=[("question",.local),("min",.globalImplicit)],isGenerator:=false,isCoroutine:=false,more:=[]}
section
variable {prog:Program}{w:World}{A:Around}{E:AG}{s:Shared}{Q:AG}
theorem ON {q b:Addr}{pm U x:Value}{p:Pos}{m n:Int}{t1 t2:Tok}{mg mb:AH}(hh:A.handled=none)(a3:A.depth<recursionLimit)
 (ho:s.heap.get? q=some (W.kla_obj "<lambda>" qual (aA2 p) (aA3 p1 p2 p3 p4 p5) aA5 [] pm c' U)) (a0:s.heap.CodeRec (.ref c') qual) (a6:s.heap.NoLimit)
 (hg:s.heap.Ns mainGlobals mg) (hm:mg "min" = none) (hb:s.heap.Ns builtinsNs mb) (a1:mb "min" = some (.builtin "min"))
 (Z:IsTup s.heap a #[x,.ref b]) (a4:s.heap.IsTuple b #[.int m t1,.int n t2])
 (h:∀ u h' tk,(∀ b o,s.heap.get? b=some o->h'.get? b=some o)->Q (.int (if n<m then n else m) u) {s with heap:=h',toks:=tk}) :
 wpAny ((G,w)) A (call (.ref q) [.ref a]) Q E s:=by
 refine wpAny_call (W.kla_callFunE a3 ho rfl rfl rfl rfl a0 ?_);rw[show bindArgs (W.kla_fn "<lambda>" qual (aA2 p) (aA3 p1 p2 p3 p4 p5) aA5 [] pm (.ref c') U) ⟨[.ref a],[]⟩=(pure [(("question":Str),Value.ref a)]:Sem (List (Str×Value))) from rfl];refine BC (wpAny_newFunctionEnv (λy O=>?_) (λy O=>?_) (λh₁ a2 Y=>⟨a6.fresh _ Y,?_⟩) rfl)
 . simp only[List.mem_cons,List.not_mem_nil,or_false] at O;rcases O with rfl|rfl<;>simp
 . have:y=(("question":Str),Value.ref a):=by simpa using O
   rw[this];rfl
 have F:∀ b o,s.heap.get? b=some o->h₁.get? b=some o:=λb o e=>Y.extBut b o (BN (BF e)) (BH _ e);refine W.kla_codeExpr ?_;refine EK (JB rfl rfl (Calls.loadGlobal_builtin (hg.keeps F) hm (hb.keeps F) a1 ?_) rfl);refine PyProof.Rows.callWith_builtin1 ?_ rfl rfl;refine GG (FH (wpAny_Name (wpAny_loadName_local rfl rfl a2 rfl (wpAny_Constant_int ?_)) rfl));refine subscriptTail_builtin (IsTup.typeIs (s:=_) (Z.keeps F)) slot_tuple_getitem.lookup (getItem_tuple (j:=1) (Z.keeps F) nofun nofun rfl rfl ?_);refine HS ?_
 have a5:h₁.IsTuple b #[.int m t1,.int n t2]:=by obtain⟨o,e,r⟩:1:=a4;exact⟨o,F _ _ e,r⟩
 exact SF (t:=b) hh a5 λu h' tk hk=>h u h' tk λb o e=>hk b o (F b o e)
end
section
variable {X:Cx}{pins:AI}{σ:(91,V)}{s:Shared}{h':Heap}
noncomputable def as7 (K:W.Frag):List V->Hp->VK->Prop:=λvs H Q=>∃ l xs,∃ kf:Nat->Int,vs=[.ref l]/\(N,l)/\0<xs.length/\(∀(i:Nat) v,xs[i]? = some v->∃ a b x m n,v = .ref a/\(A,[x,.ref b])/\SqT K H b [.int m,.int n]/\kf i=if n<m then n else m) /\
 ∀(i:Nat) v,xs[i]? = some v->(∀ j,j<xs.length->kf i>=kf j/\(j<i->kf i>kf j))->Q v H
theorem NG {Q:VK}{u:AC}{q:Addr}{pm a4:Value}{p:Pos}(hc:X.calm=true)(aD:X.A.in1.depth<recursionLimit)(aC:X.mg "min" = none)(I:(4,s)){vs:List V}(r:Vals vs u)
 (ho:s.heap.get? q=some (W.kla_obj "<lambda>" qual (aA2 p) (aA3 p1 p2 p3 p4 p5) aA5 [] pm c' a4)) (a9:s.heap.CodeRec (.ref c') qual) (h:as7 X.K vs H Q) :
 wpAny ((H,X.w)) X.A (call (.builtin "max") u [(Str.ofString "key",.ref q)]) (EP X pins σ Q) X.xe s:=by
 obtain⟨l,xs,kf,rfl,hl,a3,aA,hq⟩:3:=h;obtain⟨v,rfl,rv⟩:1:=Jx r
 cases rv;obtain⟨its,r1,pl,_⟩:1:=I.list hl;have a2:=r1.length;obtain⟨m,hn,aB⟩:1:=I.loc;have F:Fr X.base X.env.locals s.heap m:=⟨hn,I.bk,BI I.ok.bsz I.ok.above⟩;have keep:∀ {h:Heap} {more:AI},Fr X.base X.env.locals h m->News X.base X.env.locals h (Ht X.base s.heap X.env.locals++more)->∀ b u,b≠X.env.locals->s.heap.get? b=some u->h.get? b=some u:=λF' O=>Rq I.bk F'.keep O
 have a0:∀ {c:Addr} {o:Obj},s.heap.get? c=some o->(∀ es ep,o.data ≠ .dict es ep)->c≠X.env.locals:=fun {c o} U Y z=>by
  obtain⟨oL,es,ep,e4,e5⟩:3:=hn;rw[z,e4] at U
  cases U;exact Y es ep e5.1
 have aF:∀ {c:Addr} {zs:Array Value},IsTup s.heap c zs->c≠X.env.locals:=fun {c zs} p=>by obtain⟨o,U,Y,n,Z⟩:441:=p;exact a0 U λes ep z=>by rw[Z] at z;cases z
 have aE:l≠X.env.locals:=by obtain⟨o,U,Y,n,Z⟩:441:=pl.isList;exact a0 U λes ep z=>by rw[Z] at z;cases z
 have fin:∀ {h:Heap} {t':Nat},Fr X.base X.env.locals h m->News X.base X.env.locals h (Ht X.base s.heap X.env.locals)->Inv X pins σ H {s with heap:=h,toks:=t'}:=fun {h t'} F' O=>I.nsed (keep (more:=[]) F' (by rw[DE];exact O)) aB F'.ns
 have tupK:∀ {h:Heap} {more:AI} {c:Addr} {zs:Array Value},Fr X.base X.env.locals h m->News X.base X.env.locals h (Ht X.base s.heap X.env.locals++more)->IsTup s.heap c zs->IsTup h c zs:=λF' O p=>by have a3:=aF p;obtain⟨o,U,Y⟩:1:=p;exact⟨o,keep F' O _ _ a3 U,Y⟩
 refine kmk_max kf (vs:=its) (I.ok.hd hc) F WL (λh F' O=>?_) ∅ (λi v hv h tk own F' O=>?_) (λi v h tk hv hb F' O=>?_)
 . obtain⟨o,U,Y⟩:1:=pl.isList;exact⟨o,keep (more:=[]) F' (by rw[DE];exact O) _ _ aE U,Y⟩
 . obtain⟨x,hx,rx⟩:∃ x,xs[i]? = some x/\RelV x v:=by
    have hi:i<xs.length:=by rw[a2];exact(A01.mp hv).1
    obtain⟨u,hu,ru⟩:1:=r1.get (BJ hi);rw[hv] at hu
    cases hu;exact⟨_,BJ hi,ru⟩
   obtain⟨a,b,y,m',n',rfl,a5,a6,hk⟩:5:=aA i x hx
   cases rx;obtain⟨i1,w1,pa,_⟩:1:=I.tuple a5;obtain⟨i2,w2,pb,_⟩:1:=I.tuple a6;obtain⟨y1,y2,rfl,aL,aG⟩:2:=Vals.two w1
   cases aG;obtain⟨z1,z2,rfl,aH,aI⟩:2:=Vals.two w2;obtain⟨aJ,rfl⟩:=aH;obtain⟨aK,rfl⟩:=aI;obtain⟨mb,a7,a8⟩:1:=I.mod.blt;refine ON (s:={s with heap:=h,toks:=tk}) (m:=m') (n:=n') (t1:=aJ) (t2:=aK) (mg:=X.mg) (mb:=mb) (I.ok.hd hc) aD (keep F' O _ _ (a0 ho λes ep z=>by cases z) ho) ?_ (I.mod.nolimit.keeps F'.keep) (I.mod.glob.keeps F'.keep) aC (a7.keeps F'.keep) ((a8 "min" nofun).trans PyProof.Rows.boot_min) (tupK F' O pa) ?_ λu h2 aM a1=>?_
   . obtain⟨c,oc,vs,tq,e0,U,Y,Z⟩:4:=a9
     cases e0;exact⟨c',oc,vs,tq,rfl,keep F' O _ _ (a0 U λes ep z=>by rw[Y] at z;cases z) U,Y,Z⟩
   . have:=tupK F' O pb;exact this
   rw[hk];exact KskEnd.intro ⟨F'.ns.keeps a1,λb o e=>a1 b o (F'.keep b o e),F'.above⟩ (λp hp=>⟨a1 _ _ (O p hp).1,(O p hp).2⟩) λp hp=>hp
 obtain⟨x,hx,rx⟩:∃ x,xs[i]? = some x/\RelV x v:=by
  have hi:i<xs.length:=by rw[a2];exact(A01.mp hv).1
  obtain⟨u,hu,ru⟩:1:=r1.get (BJ hi);rw[hv] at hu
  cases hu;exact⟨_,BJ hi,ru⟩
 exact⟨x,H,fin F' O,rx,hq i x hx λj hj=>hb j ∅⟩
end
noncomputable def Vy (c':Addr)(qual:Str):HO:=.ext λh=>h.CodeRec (.ref c') qual
noncomputable def LamT (P:Addr)(line col:Nat)(qual:Str)(H:Hp):Prop:=H P=some (.tbl #[])\/∃ c',H P=some (.tbl #[rawInt line,rawInt col,.ref c'])/\H c'=some (Vy c' qual)
structure PF (X:Cx)(c P:Addr):Prop where
 code:X.env.code = .ref c
 hd:W.CodeHd X.base c P
 bi:X.base.BuiltinsAt X.mg P
 gP:mainGlobals≠P
section
variable {X:Cx}{pins:AI}{σ:(91,V)}{s:Shared}{h':Heap}
theorem K8 {h1 h2:Heap}(x:h1.CodeRec (.ref c') qual)(k:∀ o,h1.get? c'=some o->h2.get? c'=some o):h2.CodeRec (.ref c') qual:=by
 obtain⟨c,oc,vs,Z,F,O,U,Y⟩:4:=x
 cases F;exact⟨c',oc,vs,Z,rfl,k _ O,U,Y⟩
theorem Inv.grown {ps more:Array Value}{t':Nat}(I:(4,s))(F:H P=some (.tbl ps))(k:∀ b u,b≠P->s.heap.get? b=some u->h'.get? b=some u)(a0:h'.get? P=some (W.tabObj (ps++more)))(hc:s.heap.objs.size<=c')(hr:h'.CodeRec (.ref c') qual) :
 Inv X pins σ (upd (B,P,.tbl (ps++more)) c' (Vy c' qual)) {s with heap:=h',toks:=t'}:=by
 have U:H c'=none:=I.hok.fresh hc;have a1:c'≠P:=λz=>by rw[z,F] at U;cases U
 have Z:(upd (B,P,.tbl (ps++more)) c' (Vy c' qual)) P=some (.tbl (ps++more)):=by rw[Ap a1.symm,Ab]
 have O:∀ b,b≠P->b≠c'->(upd (B,P,.tbl (ps++more)) c' (Vy c' qual)) b=H b:=λb h1 h2=>by rw[Ap h2,Ap h1]
 have trk:∀ b o,H b=some o->b≠c':=λb o e z=>by rw[z,U] at e;cases e
 refine I.call (ch:=[]) ⟨λb o e n _ _=>k b o (λz=>by rw[z,F] at n;cases n) e,λb o e n _ _=>⟨o.slots,k b o (λz=>by rw[z,F] at n;cases n) e⟩,λb o e n _=>?_,λb o e _=>?_,λb xs e=>?_,λb o u e=>?_,λb qs e=>?_⟩ (λb o e=>?_) I.bare (λb z=>(65,z))
 . rw[O b (λz=>by rw[z,F] at n;cases n) (λz=>by rw[z] at e;exact absurd (BF e) (Nat.not_lt_of_le hc))];exact n
 . by_cases z:b=P
   . rw[z];exact⟨_,a0⟩
   exact⟨o,k b o z e⟩
 . rw[O b (λz=>by rw[z,F] at e;cases e) (trk b _ e)];exact e
 . rw[O b (λz=>by rw[z,F] at e;cases e) (trk b _ e)];exact e
 . by_cases z:b=P
   . subst z;rw[F] at e
     cases e;exact⟨more,Z⟩
   exact⟨#[],by rw[O b z (trk b _ e),e];simp⟩
 by_cases z:b=c'
 . subst z;rw[Ab] at e
   cases e;refine⟨hr,?_,λh1 h2 x y=>K8 x y⟩;obtain⟨c,oc,vs,tq,e0,e1,_⟩:4:=hr
   cases e0;exact⟨oc,e1⟩
 by_cases Y:b=P
 . subst Y;rw[Z] at e
   cases e;exact a0
 rw[O b Y z] at e;refine(I.hok b o e).stay (λd u hd q=>k d u (λy=>?_) q) (λd q=>?_) λd xs q=>?_
 . rcases hd with rfl|hd
   . exact Y y
   rw[y,F] at hd;cases hd
 . rw[O d (λy=>by rw[y,F] at q;cases q) (trk d _ q)];exact q
 rw[O d (λy=>by rw[y,F] at q;cases q) (trk d _ q)];exact q
noncomputable def aF8 (K:W.Frag)(P:Addr)(line col:Nat)(qual:Str)(t:TA):TE:=fun σ H Q=>t σ H λvs H1=>LamT P line col qual H1/\∀ H2,ExtBut P H1 H2->LamT P line col qual H2->as7 K vs H2 Q
theorem Yk {K:W.Frag}{c:Addr}{U:Expr}{t:TE}{p p0 pl p7:Pos}(L:PF X c P)(hc:X.calm=true)(a4:X.A.in1.depth<recursionLimit)(hg:Gl X "max")(hm:X.mg "max" = none)(a3:X.mg "min" = none)(ha:PA X [U] (ah1 t aN5))(hK:X.K=K:=by ac_nf)
 (he:(55,[U])=(false,(s,U)) :: backTo pos ((29,[])):=by ac_nf) (a6:((55,[U])).any (·.1)=false:=by ac_nf) :
 PE X ((60,"max",p,[U],[⟨some "key",.Lambda (aA2 p0) (aA3 p1 p2 p3 p4 p5) aA5 pl,p7⟩],pos)) (aF8 K P pl.line pl.col (X.env.qual ++ "<lambda>") (ah1 t aN5)):=by
 subst hK;intro pins s σ H Q I h;refine EK (Ka I hg hm PyProof.Rows.Boot.«max» ?_);refine callWith_kw (BD (ha pos pins s σ H _ I h) λus s1 ⟨vs,H1,F,r1,q1⟩=>?_) he a6 rfl rfl;obtain⟨O,q1⟩:=q1;refine kws_cons (W.kla_eval rfl ?_)
 have a2:s1.heap.BuiltinsAt X.mg P:=by obtain⟨bm,ob,b1,b2,b3,b4,b5,b6⟩:2:=L.bi;exact⟨bm,ob,b1,b2,b3,b4,F.bk _ _ b5,b6⟩
 rcases O with O|⟨c',O,hC⟩
 . have hP:=F.hok P _ O;refine W.kla_makeFunction (mg:=X.mg) rfl F.ok.glob (F.mod.glob.keeps F.bk) L.code (L.hd.keeps F.bk) hP trivial rfl L.gP a2 λc' a0 h2 tk hx a1 a8 Z a7=>kws_nil ?_;have I2:=Inv.grown (t':=tk) (h':=h2.push (W.kla_obj "<lambda>" (X.env.qual ++ "<lambda>") (aA2 p0) (aA3 p1 p2 p3 p4 p5) aA5 [] ((X.mg "__name__").getD .none) c' a0)) F O (λb u hb e=>BH _ (hx b u hb e)) (BH _ a7) a1 (K8 Z λo e=>BH _ e);refine NG hc a4 a3 I2 r1 (12,_) (K8 Z λo e=>BH _ e) (q1 _ ?_ ?_)
   . intro b o hb e;have Y:H1 c'=none:=F.hok.fresh a1;rw[Ap (λz=>by rw[z,Y] at e;cases e),Ap hb];exact e
   have Y:H1 c'=none:=F.hok.fresh a1;have a5:P≠c':=λz=>by rw[<- z,O] at Y;cases Y
   exact .inr ⟨c',by rw[Ap a5,Ab];rfl,Ab⟩
 have hP:=F.hok P _ O;obtain⟨Z,_,_⟩:0:=F.hok c' _ hC;refine W.kla_makeFunctionHit (mg:=X.mg) rfl F.ok.glob (F.mod.glob.keeps F.bk) L.code (L.hd.keeps F.bk) hP trivial (cv:=.ref c') (by simp[codeAmong,rawInt]) a2 λa0 h2 tk hk hsz=>kws_nil ?_;have I2:Inv X pins σ H1 {s1 with heap:=h2.push {cls:=.type "function",data:=.func (W.kla_fn "<lambda>" (X.env.qual ++ "<lambda>") (aA2 p0) (aA3 p1 p2 p3 p4 p5) aA5 [] ((X.mg "__name__").getD .none) (.ref c') a0)},toks:=tk}:=F.kept λb u e=>BH _ (hk b u e)
 exact NG hc a4 a3 I2 r1 (12,_) (K8 Z λo e=>BH _ (hk _ o e)) (q1 H1 .refl (.inr ⟨c',O,hC⟩))
end
noncomputable def at5 (P:Addr)(H:Hp):Prop:=H P=some (.tbl #[])/\∀ b,b≠P->H b=none\/∃ o xs,H b=(59,o,.lst xs)
theorem VM {P:Program}{w:World}{K:W.Frag}{mg mb:AH}{CX:CXT}{k:Nat}{fa c Pt:Addr}{fd:FuncData}{sp:Sp}{O:Shared}{vs:AC}{ns:List Int}
 (KX:K.In O.heap) (a7:O.heap.Ns mainGlobals mg) (hb:O.heap.Ns builtinsNs mb) (aF:∀ x:Str,x ≠ "__name__" -> mb x=bootBuiltins x) (aH:O.heap.NoLimit) (hg:O.gens = #[])
 (ha:O.heap.get? a=some {cls:=.type "list",data:=.seq vs.toArray}) (hi:IntsAre vs ns) (hl:ns.length<=sizeLine) (hr:Room k callerA)
 (Z:O.heap.get? Pt=some (W.tabObj #[])) (aD:W.CodeHd O.heap c Pt) (aE:K.lookup Pt=none) (aA:O.heap.BuiltinsAt mg Pt)
 (F:∀ base:Heap,K.In base->base.Ns mainGlobals mg->base.BuiltinsAt mg Pt->FnOk P w K mg base CX k fa fd [x] sp) (aG:∀(s:Shared) (u:Value),BindsTo s fd ⟨[u],[]⟩ [(x,u)])
 (aI:∀ H:Hp,at5 Pt H->(83,K,a,V.int)->sp [.ref a] H (λv _=>v = .bl true) λ_ _ _=>False)
 (aC:∀ H e s',CX [] H O (λ_ _ _=>False) e s'->False) :
 codeAny ((16,P)) callerA (.call (.ref fa) ⟨[.ref a],[]⟩) (λr s'=>r = .ok (.ret (.bool true))/\OldK O.heap s'.heap/\s'.os=O.os/\AllBare s'.gens) O:=by
 have rv:=Ta hi;have aJ:=hi.length;have a6:a≠Pt:=λz=>by rw[z,Z] at ha;cases ha
 have a4:∀ H:Hp,at5 Pt H->(83,K,a,V.int)->HOk P w H O.heap->(∀ b,H b≠none->b=a\/b=Pt)->(H a≠none->K.lookup a=none) ->
  codeAny ((16,P)) callerA (.call (.ref fa) ⟨[.ref a],[]⟩) (λr s'=>r = .ok (.ret (.bool true))/\OldK O.heap s'.heap/\s'.os=O.os/\AllBare s'.gens) O:=by
  intro H hO hS hok hA hK;have a1:∀ {b:Addr} {o:Obj},O.heap.get? b=some o->H b=none->(ab0 O.heap H).get? b=some o:=λe n=>RQ e n
  have a9:∀ {b:Addr} {o:Obj},O.heap.get? b=some o->(∀ zs n,o.data ≠ .seq zs n)->(∀ zs,o.data ≠ .fields zs)->H b=none:=fun {b o} e d1 d2=>by
   cases q:H b with
   |none=>rfl
   |some u=>
     rcases hA b (by rw[q];simp) with e'|e'
     . subst e';rw[ha] at e;cases e;exact(71,d1 _ _)
     subst e';rw[Z] at e;cases e;exact(71,d2 _)
  have a0:∀ {b:Addr} {m:AH},O.heap.Ns b m->(ab0 O.heap H).Ns b m:=fun {b m} ⟨o,es,ep,e,d,r⟩=>⟨o,es,ep,a1 e (a9 e (λ_ _ z=>by rw[d] at z;cases z) λ_ z=>by rw[d] at z;cases z),d,r⟩
  have a5:K.In (ab0 O.heap H):=λb o e=>a1 (KX b o e) (by
   cases q:H b with
   |none=>rfl
   |some u=>
     rcases hA b (by rw[q];simp) with e'|e'
     . subst e';rw[hK (by rw[q];simp)] at e;cases e
     subst e';rw[aE] at e;cases e)
  have hM:Mod K mg (ab0 O.heap H):=⟨a5,a0 a7,⟨mb,a0 hb,aF⟩,let ⟨mc,h1,h2⟩:=aH;⟨mc,a0 h1,h2⟩⟩
  have aB:(ab0 O.heap H).BuiltinsAt mg Pt:=by obtain⟨bm,ob,b1,b2,b3,b4,b5,b6,b7,b8⟩:2:=aA;exact⟨bm,ob,b1,b2,b3,b4,a1 b5 (a9 b5 (λ_ _ z=>by rw[b8] at z;cases z) λ_ z=>by rw[b8] at z;cases z),b6,b7,b8⟩
  have e0:Env0 P w K mg (ab0 O.heap H) callerA [] O H:=⟨rfl,hM,λb o e=>PP e,Nat.le_of_eq (VF _ _),trivial,λb hb=>(65,(show b∈([]:AF) from hb)),hok,.of_eq hg⟩;refine codeAny_mono ((F _ a5 (a0 a7) aB).run callerA [] O H ⟨[.ref a],[]⟩ [.ref a] [.ref a] _ _ hr e0 (aG O (.ref a)) (.cons rfl .nil) (aI H hO hS)) λr s' h=>?_
  cases r with
  |error e=>exact(aC H e s' h).elim
  |ok fl=>
    cases fl with
    |next=>exact False.elim h
    |brk=>exact False.elim h
    |cont=>exact False.elim h
    |ret u=>
      obtain⟨v,H',os,bare,un,a8,r',q⟩:2:=h;have q':v = .bl true:=q;subst q';obtain rfl:u=Value.bool true:=r'
      have a3:∃ ps,s'.heap.get? Pt=some (W.tabObj ps):=by obtain⟨more,z⟩:=un.tbls Pt _ hO.1;exact ⟨_,a8 Pt _ z⟩
      have keep:∀ b o,b≠Pt->O.heap.get? b=some o->s'.heap.get? b=some o:=λb o hb e=>by
       cases q:H b with
       |none=>exact un.keep b o e q (by intro z;exact(65,(show b∈([]:AF) from z))) 'c'
       |some u=>
         rcases hO.2 b hb with z|⟨ob,xs,z⟩
         . rw[q] at z;cases z
         have z2:=un.frzs b ob _ z;obtain⟨e1,_⟩:=hok b _ z;obtain⟨e2,_⟩:=a8 b _ z2;rw[e] at e1;cases e1;exact e2
      refine⟨rfl,⟨λb o e=>?_,λb o e=>?_⟩,os,bare⟩
      . by_cases hb:b=Pt
        . subst hb;obtain⟨ps,hp⟩:=a3;rw[Z] at e
          cases e;exact(98,⟨(aD.tab Z).isCodeTable,rfl,#[],ps,rfl,by rw[Array.empty_append];exact hp⟩)
        exact .inl (keep b o hb e)
      by_cases hb:b=Pt
      . subst hb;obtain⟨ps,hp⟩:=a3;exact⟨_,hp⟩
      exact⟨o,keep b o hb e⟩
 cases hk:K.lookup a with
 |some o=>
   have e:=KX a o hk;rw[ha] at e
   cases e;refine a4 (λb=>if b=Pt then some (.tbl #[]) else none) ⟨if_pos rfl,λb hb=>.inl (if_neg hb)⟩ (.inr ⟨_,vs.toArray,_,hk,rfl,rfl,rfl,by rw[List.size_toArray,aJ];exact hl,by simpa using rv⟩) (λb u z=>?_) (λb z=>?_) λz=>?_
   . by_cases hb:b=Pt
     . have Y:=(BB hb).symm.trans z
       cases Y;subst hb;exact Z
     have Y:=(AZ hb).symm.trans z
     cases Y
   . by_cases hb:b=Pt
     . exact .inr hb
     exact absurd (AZ hb) z
   exact absurd (AZ a6) z
 |none=>
   refine a4 (λb=>if b=a then some (.frz {cls:=.type "list",data:=.seq vs.toArray} (.lst (ns.map V.int))) else if b=Pt then some (.tbl #[]) else none) ⟨(AZ a6.symm).trans (BB rfl),λb hb=>?_⟩ (.inl (.inr ⟨{cls:=.type "list",data:=.seq vs.toArray},BB rfl⟩)) (λb u z=>?_) (λb z=>?_) λ_=>hk
   . by_cases U:b=a
     . exact .inr ⟨_,_,BB U⟩
     exact .inl ((AZ U).trans (AZ hb))
   . by_cases U:b=a
     . have Y:=(BB U).symm.trans z
       cases Y;subst U;exact⟨ha,by rw[BA];exact hl,vs,_,rv,ha⟩
     have Y:=(AZ U).symm.trans z
     by_cases hb:b=Pt
     . have a2:=(BB hb).symm.trans Y
       cases a2;subst hb;exact Z
     have a2:=(AZ hb).symm.trans Y
     cases a2
   by_cases U:b=a
   . exact .inl U
   by_cases hb:b=Pt
   . exact .inr hb
   exact absurd ((AZ U).trans (AZ hb)) z
theorem walk_ofT {l:W.OpenLaw}{n k:Nat}{q:Program}{loose:AA}{XP:(Str->Option Value)->Heap->Prop}{YP:World->Heap->Prop}{d:DefRec}{K:Params->W.Frag}{CX:World->CXT}{sp:World->Sp}{Pt:Addr}
 (hn:l.most=some n) (hn2:n<=sizeLine) (hdf:d.params.defaults=[]) (hr:Room k callerA)
 (hY:∀(w:World) (h:Heap),YP w h->(K w.params).In h) (hYT:∀(w:World) (h:Heap),YP w h->h.get? Pt=some (W.tabObj #[])) (hKP:∀(w:World),(K w.params).lookup Pt=none)
 (F:∀(w:World) (mg:AH) (U:Addr) (h:Heap),(K w.params).In h->(99,mg)->mg d.name=(3,U) ->
  ∃ fd:FuncData,(∃ c,W.codeHdIn (K w.params) c Pt=true)/\(∀(s:Shared) (u:Value),BindsTo s fd ⟨[u],[]⟩ [(x,u)]) /\
   ∀ base:Heap,(K w.params).In base->base.Ns mainGlobals mg->base.BuiltinsAt mg Pt->FnOk l.prog w (K w.params) mg base (CX w) k U fd [x] (sp w))
 (hsp:∀(w:World) (H:Hp) (a:Addr) (ns:List Int),ns.length<=n->at5 Pt H->(83,K w.params,a,V.int)->sp w [.ref a] H (λv _=>v = .bl true) λ_ _ _=>False)
 (hCX:∀(w:World) (H:Hp) (s:Shared) (e:Value) (s':Shared),CX w [] H s (λ_ _ _=>False) e s'->False) :
 W.WalkO q loose XP YP l.row.toRowW d [] (λf vs=>PySem.call f vs):=by
 refine Att.attach_call hn hdf λw s₀ s₁ mg mb U o pm cd doc a vs ns G Y ho hd hcd hmg hobj hints hlen hg=>?_;have Z:=hY w _ Y;have hPt:=hYT w _ Y
 have hBi:s₁.heap.BuiltinsAt mg Pt:=by
  obtain⟨bm,ob,b1,b2,O,b4,b5,b6⟩:2:=G.T.bmain;refine⟨bm,ob,b1,b2,λz=>?_,λz=>?_,O,b4,b5,b6⟩
  . obtain⟨o',es,ep,e,hd',_⟩:3:=G.T.g;rw[z,e] at O
    cases O;rw[hd'] at b6
    cases b6
  rw[z,hPt] at O
  cases O
  cases b4
 obtain⟨fd,⟨c,hC⟩,hb,hF⟩:1:=F w mg U _ Z G.T.g hmg;have hCd:=W.codeHd_of_K Z hC;exact VM Z G.T.g G.T.b G.T.builtins G.T.nolimit hg hobj hints (BI hlen hn2) hr hPt hCd (hKP w) hBi hF hb (λH hO hS=>hsp w H a ns hlen hO hS) λH e s'=>hCX w H s₁ e s'
theorem Fun.okC {P:Program}{w:World}{K:W.Frag}{mg:AH}{base:Heap}{st:Stmt}{f c:Addr}{fd:FuncData}{N ps:AA}{k:Nat}{sp:Sp}(F:Fun K x qual st f fd)(Y:fd.code = .ref c)(S:Ah N ps (A8 st))(len:∀ vs H Q E,sp vs H Q E->vs.length=ps.length)
 (U:∀(A:Around) (outer:List Env) (s:Shared) (H:Hp) (vs:List V) (Q:VK) (E:XK),Room k (A.deeper (96,qual,A8 st,f,.ref c))->sp vs H Q E ->
  ∃ t,PSs ((72,CX0,P,w,K,mg,N,A8 st,f,.ref c,A,s,H,E)).nox (Bb st) t/\t {nx:=λ_ H'=>Q .non H',rt:=Q} (start N vs) H):FnOk P w K mg base CX0 (k+1) f fd ps sp:=by
 obtain⟨oc,od,kV,a1,pm,an,O,ct,osl,rfl,lk,Z⟩:9:=F.ex;obtain rfl:O = .ref c:=Y;refine JQ lk Z S len λA outer s H vs Q E hr a0=>?_;obtain⟨t,h,q⟩:1:=U A outer s H vs Q E hr a0;exact⟨t,h.nox,q⟩
structure MH (K:W.Frag)(mg:AH)(base:Heap)(c P:Addr):Prop where
 hd:W.CodeHd base c P
 bi:base.BuiltinsAt mg P
 gP:mainGlobals≠P
theorem LamT.of {line:Nat}(h:LamT P line col qual H)(e:∀ b,(∃ ps,H b=some (.tbl ps))\/(∃ φ,H b=some (.ext φ))->∀ o,H b=some o->H' b=some o):LamT P line col qual H':=by
 rcases h with h|⟨c',h1,h2⟩
 . exact .inl (e P (.inl ⟨_,h⟩) _ h)
 exact .inr ⟨c',e P (.inl ⟨_,h1⟩) _ h1,e c' (.inr ⟨_,h2⟩) _ h2⟩
theorem LamT.same {line:Nat}(h:LamT P line col qual H)(e:(5,H')):LamT P line col qual H':=h.of λb _ o q=>e b o q
theorem LamT.but {d:Addr}{line:Nat}{u:HO}(h:LamT P line col qual H)(e:(h,d))(hd:H d=some u)(h1:∀ ps,u ≠ .tbl ps)(h2:∀ φ,u ≠ .ext φ):LamT P line col qual H':=h.of λb hb o q=>e b o (λz=>by
 subst z;rw[hd] at hb;rcases hb with ⟨ps,hb⟩|⟨φ,hb⟩
 . exact h1 ps (BR hb)
 exact h2 φ (BR hb)) q
theorem way_said {a b:Str}:Way (ps++[(x,y)]) a b↔Way ps a b\/((a=x\/Way ps a x)/\(y=b\/Way ps y b)):=by
 have up:∀ {u v:Str},Way ps u v->Way (ps++[(x,y)]) u v:=fun {u v} h=>by
  induction h with
  |one e=>exact .one (BZ _ e)
  |cons e _ ih=>exact .cons (BZ _ e) ih
 have F:Way (ps++[(x,y)]) x y:=.one (CI _ (A1C.mpr rfl));constructor
 . exact a18
 rintro(h|⟨h1,h2⟩)
 . exact up h
 have O:Way (ps++[(x,y)]) a y:=by
  rcases h1 with rfl|h1
  . exact F
  exact(up h1).trans F
 rcases h2 with rfl|h2
 . exact O
 exact O.trans (up h2)
section
variable {ns row:AA}
theorem O2 (h:(E,ps))(x:Str):Ac ps x x=false:=by
 cases e:Ac ps x x with
 |false=>rfl
 |true=>exact absurd (wayB_iff.mp e) (h.irr x)
end
inductive PlanP (ns:AA):AB->PyData->Nat->Prop
 |fin {ps:AB} {row:AA}:ext (Ac ps) ns.length ns=[row]->PlanP ns ps (.tuple [.str "end",nmD row]) 0
 |ask {ps:AB} {x y:Str} {D E:PyData} {m n:Nat}:x∈ns->y∈ns->x≠y->unB ps x y=true->PlanP ns (ps++[(x,y)]) D m->PlanP ns (ps++[(y,x)]) E n->PlanP ns ps (.tuple [.str "ask",.str x,.str y,D,E]) (1+max m n)
theorem HalfW.saidP {ns:AA}(h:(E,ps))(hl:ps.length<1000)(O:x∈ns)(Y:y∈ns)(U:x≠y)(hu:unB ps x y=true):HalfW ns (ps++[(x,y)]):=by have F:=h.more O Y;refine⟨h.nd,F.mem,S4 h.irr (λz=>U z.symm) λg=>?_,h.few,by rw[BL,CU];omega⟩;unfold unB at hu;rw[wayB_iff.mpr g] at hu;simp at hu
theorem Mn (hu:unB ps x y=true):unB ps y x=true:=by unfold unB at hu ⊢;rw[HL];exact hu
section
variable {prog:Program}{w:World}{A:Around}{E:AG}{s:Shared}
theorem U7 {U:Addr}{k:Int}{tk:Tok}{Q:Int×Int×Nat->Shared->Prop}(Z:s.heap.IsSliceOf U .none .none (.int k tk))(Y:k=1\/k = -1)(h:Q (if k=1 then(0,1,2) else(1,-1,2)) s) :
 wpAny ((G,w)) A (Builtin.Slice.sliceApplied (.ref U) (pure ((2:Nat):Int))) Q E s:=by
 obtain⟨os,O,a0,F⟩:1:=id Z;unfold Builtin.Slice.sliceApplied Builtin.Slice.sliceFields;refine AY (AY (CW O F (x:=.none) rfl (AY (CW O F (x:=.none) rfl (AY (CW O F (x:=.int k tk) rfl (BC ?_)))))));refine(126,.int k tk,?_);rcases Y with rfl|rfl
 . show(M,_,_,(if((1:Int)==0)=true then _ else _),_,_)
   rw[AZ nofun];refine(126,.none,(126,.none,(19,?_)));exact BC h
 show(M,_,_,(if((-1:Int)==0)=true then _ else _),_,_)
 rw[AZ nofun];refine(126,.none,(126,.none,(19,?_)));exact BC h
theorem Ut {t U:Addr}{x y:Value}{k:Int}{tk:Tok}{Q:AG}(F:IsTup s.heap t #[x,y])(Z:s.heap.IsSliceOf U .none .none (.int k tk))(Y:k=1\/k = -1)(h1:k=1->(C,t,s))
 (h2:k = -1->Q (.ref s.heap.objs.size) {s with heap:=s.heap.push {cls:=.type "tuple",data:=.seq #[y,x]}}):wpAny ((G,w)) A (getItem (.ref t) (.ref U)) Q E s:=by
 obtain⟨os,a2,a1,a3⟩:1:=id Z;have a0:s.TypeIs (.ref U) "slice":=⟨os,a2,a1⟩;unfold getItem
 try with_reducible refine DF ?_
 first | refine(19,?_) | skip
 refine AY (IL F.typeIs nofun ?_)
 refine AY (FG (name:=Str.ofString "__getitem__") F.typeIs DZ
  (ET DZ F.typeIs HI ?_ (IA _ _)))
 show(M,_,_,(Builtin.Tuple.tupleItemsOf (.ref t) >>= _),_,_);refine AY (FY F ?_);refine AY (DT a0 ?_);rw[BB nofun];refine AY (U7 Z Y ?_);rcases Y with rfl|rfl
 . show(M,_,_,(if(((0:Int)==0&&(1:Int)==1&&(2:Nat)==2))=true then _ else _),_,_)
   rw[BB nofun];have fin:∀ s',s'=s->Q (.ref t) s':=λs' e=>by subst e;exact h1 rfl
   clear h1 h2;unfold Builtin.Tuple.tupleIsExact;obtain⟨hp,g,d,a5,a4⟩:=s;have hT:=F.typeIs
   repeat (any_goals (first | assumption | wp_step))
   exact⟨_,rfl,BC (fin _ rfl)⟩
 show(M,_,_,(if(((1:Int)==0&&(-1:Int)==1&&(2:Nat)==2))=true then _ else _),_,_)
 rw[AZ nofun];have e:(((List.range 2).filterMap λ(m:Nat)=>(#[x,y]:Array Value)[((1:Int)+(m:Int)*(-1)).toNat]?).toArray) = #[y,x]:=rfl
 have O:sizeOk (.seq (#[y,x]:Array Value)):=by show(#[y,x]:Array Value).size<=sizeLine;rw[CH];exact Nat.le_of_ble_eq_true rfl
 have h:=h2 rfl;show(M,_,_,(Builtin.Tuple.tupleExact (((List.range 2).filterMap λ(m:Nat)=>(#[x,y]:Array Value)[((1:Int)+(m:Int)*(-1)).toNat]?).toArray) >>= _),_,_);rw[e]
 first
  |exact(89,BC ⟨_,rfl,BC h⟩,O)
  |exact(89,(19,BC ⟨_,rfl,BC h⟩),O)
  |exact AY (89,BC (BC ⟨_,rfl,BC h⟩),O)
end
section
variable {X:Cx}{K:W.Frag}
noncomputable def Wz (K:W.Frag):V->V->Hp->VK->Prop:=λx y H Q=>∃ a p q k,x = .ref a/\y = .int k/\(k=1\/k = -1)/\(A,[p,q])/\(k=1->(C,a,H))/\(k = -1->∀ b,H b=none->(C,b,(66,b,[q,p])))
theorem Pz {e st:Expr}{te ts:TE}(he:PE X e te)(a0:PE X st ts)(hK:X.K=K:=by ac_nf):PE X (.Subscript e (.Slice none none (some st) p2) pos) (tOp (Wz K) te ts):=by
 subst hK;intro pins s σ H Q I h;refine FH (BD (he pins s σ H _ I h) λv s1 ⟨x,H1,Y,r1,q1⟩=>?_);refine wpAny_Slice ?_;rw[GF];refine BC (BC ?_);rw[IV];refine BD (a0 pins s1 σ H1 _ Y q1) λu F ⟨y,H2,Z,r2,q2⟩=>?_;obtain⟨a,p,q,k,rfl,rfl,hk,hx,c1,c2⟩:4:=q2
 cases r1;obtain⟨t,rfl⟩:=r2;have O:Inv X pins σ H2 {F with heap:=F.heap.push {cls:=.type "slice",data:=.fields #[.none,.none,.int k t]}}:=Z.kept (t':=F.toks) λb ob q=>BH _ q
 obtain⟨its,r,U,hz⟩:1:=O.tuple hx;obtain⟨x1,x2,rfl,a1,a2⟩:2:=Vals.two r;refine tail_any (ops:=[.ref a,.ref F.heap.objs.size]) U.typeIs PyProof.Rows.slot_tuple_getitem.lookup ?_ ⋯;refine Ut U (IU ..) hk (λe=>⟨.ref a,H2,O,rfl,c1 e⟩) λe=>?_;refine⟨.ref _,_,O.laid (t':=F.toks) (o:=.tup [q,p]) (λb ob q=>BH _ q) (BE _) ?_,rfl,c2 e _ (109,_)⟩;exact⟨by rw[sizeLine_eq];simp,[x2,x1],(32,a2,a1,.nil),IsTupN.new _ _⟩
theorem RN {p q:V}{k:Int}{Q:VK}(h:(A,[p,q]))(F:k=1\/k = -1)(c:∀ b H',(5,H')->SqT K H' b (if k=1 then [p,q] else [q,p])->(D,b)):Wz K (.ref a) (.int k) H Q:=
 ⟨a, p,q,k,rfl,rfl,F,h,λe=>c a H (.refl _) (by rw[BB e];exact h),λe b hb=>c b _ (AO hb) (by rw[AZ ∅];exact AK Ab)⟩
end
theorem Zn {α:Type}{p q:α->Bool}:∀ {l:List α},(∀ a∈l,p a=true->q a=true)->(l.filter p).length<=(l.filter q).length
 | [],_=>BE _
 |a :: l,h=>by
   have O:=Zn (l:=l) λb hb=>h b (BP _ hb);have ha:=h a (BQ ..);rw[CO,CO]
   by_cases hp:p a=true
   . rw[BB hp,BB (ha hp),BO,BO];omega
   rw[AZ hp]
   by_cases F:q a=true
   . rw[BB F,BO];omega
   rw[AZ F];exact O
section
variable {ps':AB}
theorem MU (h:∀ x y,unB ps' x y=true->unB ps x y=true):∀ ns:AA,(unP ns ps').length<=((O,ns)).length
 | []=>by rw[show unP [] ps'=[] from rfl];exact DJ _
 |a :: t=>by rw[G7,G7];have h1:=MU h t;have h2:=Zn (l:=t) (p:=λy=>unB ps' a y) (q:=λy=>unB ps a y) λy _=>h a y;omega
theorem JE (h:∀ x y,unB ps' x y=true->unB ps x y=true){x y:Str}(O:x≠y)(h1:unB ps x y=true)(h2:unB ps' x y=false):∀ {ns:AA},x∈ns->y∈ns->(unP ns ps').length<((O,ns)).length
 | [],hx,_=>by cases hx
 |a :: t,hx,hy=>by
   have U:∀ qs:AB,unB qs y x=unB qs x y:=λqs=>by unfold unB;rw[Bool.and_comm]
   rw[G7,G7];have Y:=MU h t;have Z:=Zn (l:=t) (p:=λz=>unB ps' a z) (q:=λz=>unB ps a z) λz _=>h a z;rcases A0A.mp hx with e|hx'
   . subst e;have F:y∈t:=(A0A.mp hy).resolve_left (Ne.symm O);have:=Gj (p:=λz=>unB ps' x z) (q:=λz=>unB ps x z) (l:=t) (λz _=>h x z) ⟨y,F,h1,h2⟩;omega
   rcases A0A.mp hy with e|F
   . subst e;have:=Gj (p:=λz=>unB ps' y z) (q:=λz=>unB ps y z) (l:=t) (λz _=>h y z) ⟨x,hx',by rw[U];exact h1,by rw[U];exact h2⟩;omega
   have:=JE h O h1 h2 hx' F;omega
theorem Yu:∀ ns:AA,2*((O,ns)).length<=ns.length*(ns.length-1)
 | []=>BE _
 |a :: t=>by
   rw [G7,BO,Nat.add_sub_cancel];have h1:=Yu t;have h2:(t.filter λy=>unB ps a y).length<=t.length:=CM _ _
   cases ht:t.length with
   |zero=>rw[ht] at h1 h2;omega
   |succ n=>rw[ht,Nat.add_sub_cancel] at h1;rw[ht] at h2;simp only[Nat.add_mul,Nat.mul_add] at h1 ⊢;omega
end
theorem Qf:(∀ a b,unB (ps++[(x,y)]) a b=true->unB ps a b=true)/\unB (ps++[(x,y)]) x y=false:=by
 constructor
 . intro a b h;unfold unB at h ⊢;rw[CA,Bool.not_eq_true',Bool.not_eq_true'] at h ⊢;refine⟨?_,?_⟩
   . cases e:Ac ps a b with
     |false=>rfl
     |true=>rw[wayB_iff.mpr (way_said.mpr (.inl (wayB_iff.mp e)))] at h;cases h.1
   cases e:Ac ps b a with
   |false=>rfl
   |true=>rw[wayB_iff.mpr (way_said.mpr (.inl (wayB_iff.mp e)))] at h;cases h.2
 unfold unB;rw[wayB_iff.mpr (way_said.mpr (.inr ⟨.inl rfl,.inl rfl⟩))];rfl
theorem PlanP.le_un {ns:AA}{D:PyData}(p:PlanP ns ps D m):m<=((O,ns)).length:=by
 induction p with
 |fin e=>exact DJ _
 |@ask ps x y D E m n hx hy hxy hu _ _ i1 i2=>have F:=JE (Qf (ps:=ps) (x:=x) (y:=y)).1 hxy hu Qf.2 hx hy;have O:=JE (Qf (ps:=ps) (x:=y) (y:=x)).1 (Ne.symm hxy) (Mn hu) Qf.2 hy hx;omega
theorem PlanP.le45 {ns:AA}{D:PyData}(p:PlanP ns ps D m)(h:ns.length<=10):m<=45:=by have h1:=p.le_un;have h2:=Yu (ps:=ps) ns;have F:ns.length*(ns.length-1)<=10*9:=DW h ∅;omega
noncomputable def xF (K:W.Frag)(C B:Addr)(hf i0:Bool)(fs:AA):Bool:=
 aJ8 K C&&((Q,C,"__setattr__") == (46,"object.__setattr__"))&&((Q,C,"__getattribute__") == (46,"BaseException.__getattribute__")) &&
 ((Q,C,"__getattr__") == some none)&&((Q,C,"__class__") == (46,"object.__class__"))&&(hf||Ko K C B)&&(V,K,C)&&(!i0||Yb K C)&&fs.all λf=>(Q,C,f)==some none
section
variable {K:W.Frag}{B:Addr}{hf i0:Bool}{fs:AA}
theorem Ti (h:xF K C B hf i0 fs=true):aJ8 K C=true/\(Q,C,"__setattr__") = (46,"object.__setattr__")/\(Q,C,"__getattribute__") = (46,"BaseException.__getattribute__")/\(Q,C,"__getattr__") = some none/\(Q,C,"__class__") = (46,"object.__class__")/\(hf=true\/Ko K C B=true)/\(V,K,C)=true/\(i0=true->Yb K C=true)/\∀ f∈fs,(Q,C,f)=some none:=by unfold xF at h;simp only[Bool.and_eq_true,beq_iff_eq,Bool.or_eq_true,List.all_eq_true] at h;obtain⟨⟨⟨⟨⟨⟨⟨⟨h1,h2⟩,O⟩,U⟩,Y⟩,Z⟩,h7⟩,F⟩,h9⟩:=h;exact⟨h1,h2,O,U,Y,Z,h7,λz=>by rw[z] at F;simpa using F,h9⟩
theorem xF.xc (h:xF K C B hf i0 fs=true)(cg:W.specialIn K (.builtin "object.__class__") "__get__" = (46,"getset_descriptor.__get__"))(ct:W.takesIn K (.builtin "object.__class__")=some true):XC K C:=
 let ⟨h1,h2,h3,h4,h5,_⟩:=Ti h;⟨h1,h2,h3,h4,h5,cg,ct⟩
theorem xF.mr (h:xF K C B false i0 fs=true):Ko K C B=true:=(Ti h).2.2.2.2.2.1.resolve_left (λz=>by cases z)
theorem xF.kp (h:xF K C B hf i0 fs=true):(V,K,C)=true:=(Ti h).2.2.2.2.2.2.1
theorem xF.no (h:xF K C B hf true fs=true):Yb K C=true:=(Ti h).2.2.2.2.2.2.2.1 rfl
theorem xF.n (h:xF K C B hf i0 fs=true){f:Str}(hf:f∈fs):NoAttr K C f:=(Ti h).2.2.2.2.2.2.2.2 f hf
end
noncomputable def drop (H:Hp)(a:Addr):Hp:=λb=>if b=a then none else H b
end L2
namespace L2
open PySem PySem.Spec PyProof.Rows
open Builtin
end L2
namespace L2
open PySem PySem.Spec PyProof.Rows
noncomputable def Fk (K:W.Frag)(g x qual:Str)(st:Stmt):Prop:=∃ f fd,(74,K,g)=(18,f)/\Fun K x qual st f fd
section
variable {P:Program}{w:World}{K:W.Frag}{mg:AH}{base h:Heap}{g x qual:Str}{st:Stmt}{k:Nat}{ps:AA}{sp:Sp}
theorem fk_mk {f:Addr}{oc:Value}{od an:Option Addr}{osl:(121,Value)}{kV O pm F ct:Value}(a:(74,K,g)=(18,f))(l:K.lookup f=some ⟨oc,od,.func (43,x,qual,Br st,Bb st,A8 st,kV,O,pm,an,F,ct),osl⟩)(c:(73,F,qual)=true)(e:(V,K,f)=true):Fk K g x qual st:=⟨f,_,a,J4 l c e⟩
theorem Fk.fnd (j:Fk K g x qual st)(X:K.In h)(G:(99,mg))(hb:∀ {f fd},Fun K x qual st f fd->(37,K,ps,[]))(o:∀ {f fd},Fun K x qual st f fd->mg g=(3,f)->(V,K,f)=true->(37,K,ps,[])->FnOk P w K mg base CX0 k f fd ps sp):Fnd P w K mg base k g ps sp:=
 let ⟨_,_,a,F⟩:=j
 ⟨_,_,o F (CQ X G a) F.kp (hb F),CQ X G a,F.kp,hb F⟩
theorem Fk.fnd1 (j:Fk K g x qual st)(X:K.In h)(G:(99,mg))(hb:∀ {f fd},Fun K x qual st f fd->(37,K,ps,[]))(o:∀ {f fd},Fun K x qual st f fd->mg g=(3,f)->(V,K,f)=true->(37,K,ps,[])->FnOk P w K mg base (CX1 P w) k f fd ps sp):aw7 P w K mg base k g ps sp:=
 let ⟨_,_,a,F⟩:=j
 ⟨_,_,o F (CQ X G a) F.kp (hb F),CQ X G a,F.kp,hb F⟩
noncomputable abbrev Fu (K:W.Frag)(x:Str)(st:Stmt)(f:Addr)(fd:FuncData):Prop:=Fun K x x st f fd
noncomputable def Fj (K:W.Frag)(x:Str)(st:Stmt):Prop:=Fk K x x x st
theorem Fj.fnd (j:Fj K x st)(X:K.In h)(G:(99,mg))(o:∀ {f fd},Fun K x x st f fd->FnOk P w K mg base CX0 k f fd ps sp)(hb:∀ {f fd},Fun K x x st f fd->Binds K fd ps []:=by intro _ _ F;first | exact Wf F (by intros;rfl) | exact Iz F (by intros;rfl) | exact JK F (by intros;rfl) | exact JM F (by intros;rfl) | exact binds5 F (by intros;rfl) | exact binds0 F (by intros;rfl)):Fnd P w K mg base k x ps sp:=Fk.fnd j X G hb λF _ _ _=>o F
theorem Fj.fndR (j:Fj K x st)(X:K.In h)(G:(99,mg))(o:∀ {f fd},Fun K x x st f fd->mg x=(3,f)->(V,K,f)=true->(37,K,ps,[])->FnOk P w K mg base CX0 k f fd ps sp)(hb:∀ {f fd},Fun K x x st f fd->Binds K fd ps []:=by intro _ _ F;first | exact Wf F (by intros;rfl) | exact Iz F (by intros;rfl) | exact JK F (by intros;rfl) | exact JM F (by intros;rfl) | exact binds5 F (by intros;rfl) | exact binds0 F (by intros;rfl)):Fnd P w K mg base k x ps sp:=Fk.fnd j X G hb λF=>o F
theorem Fj.fnd1 (j:Fj K x st)(X:K.In h)(G:(99,mg))(o:∀ {f fd},Fun K x x st f fd->FnOk P w K mg base (CX1 P w) k f fd ps sp)(hb:∀ {f fd},Fun K x x st f fd->Binds K fd ps []:=by intro _ _ F;first | exact Wf F (by intros;rfl) | exact Iz F (by intros;rfl) | exact JK F (by intros;rfl) | exact JM F (by intros;rfl)):aw7 P w K mg base k x ps sp:=Fk.fnd1 j X G hb λF _ _ _=>o F
structure Xo (K:W.Frag)(mg:AH)(nm:Str)(C B:Addr):Prop where
 xc:XC K C
 gl:mg nm=(3,C)
 mr:Ko K C B=true
noncomputable def Xk (K:W.Frag)(nm:Str)(C B:Addr):Prop:=(74,K,nm)=(18,C)/\xF K C B false false []=true
theorem Xk.o {nm:Str}{C B:Addr}(j:Xk K nm C B)(X:K.In h)(G:(99,mg))(cg:W.specialIn K (.builtin "object.__class__") "__get__" = (46,"getset_descriptor.__get__"))(ct:W.takesIn K (.builtin "object.__class__")=some true):Xo K mg nm C B:=⟨xF.xc j.2 cg ct,CQ X G j.1,xF.mr j.2⟩
noncomputable def zIn (K:W.Frag)(ns:AA):Bool:=ns.all λn=>match W.nsIn K mainGlobals n with
 |some none=>true
 |_=>false
theorem Sz {ns:AA}(z:zIn K ns=true)(X:K.In h)(G:(99,mg)){n:Str}(hn:n∈ns):mg n=none:=by
 have:=A1N.mp z n hn
 split at this
 . rename_i e;exact W.mg_none_of X G e
 cases this
end
end L2
namespace K65
open PySem L2 PySem.Spec PyProof.Rows
variable {l d f C_HalfError C_Clash C_NoName C_NoPlace C_TooMany C C_Ways P P_best C_NoOrder B:Addr}{fd:FuncData}{H H':Hp}{a t u:Int}{ps S qs:AB}{as:AF}{ds:AD}{r:AA}{xs:List V}{m:Nat}{D:PyData}{x y z:Str}{v:V}{Q:VK}
noncomputable def top (i:Nat):Stmt:=PySem.Challenge.pw_halforder_k65_answers.main.body.getD i (.Pass ⟨0,0,0,0⟩)
noncomputable abbrev Di:Stmt:=top 17
theorem F5:Ah ["half","asked","name"] ["half","asked"] (A8 Di):=⟨⟩
noncomputable abbrev Gs:Stmt:=top 18
theorem Cc:Ah ["half","names","reach","saying","middle","name"] ["half"] (A8 Gs):=⟨⟩
noncomputable abbrev Py:Stmt:=top 19
theorem Kd:Ah ["half","reach","pairs","one"] ["half"] (A8 Py):=⟨⟩
noncomputable abbrev Cz:Stmt:=top 20
theorem Iu:Ah ["reach","pair"] ["reach","pair"] (A8 Cz):=⟨⟩
noncomputable abbrev a83:Stmt:=top 21
theorem a02:Ah ["half","reach"] ["half"] (A8 a83):=⟨⟩
noncomputable abbrev Hg:Stmt:=top 22
theorem Q6:Ah ["reach","one","other"] ["reach","one","other"] (A8 Hg):=⟨⟩
noncomputable abbrev Jo:Stmt:=top 23
theorem E8:Ah ["reach","names","pairs","place","one"] ["reach"] (A8 Jo):=⟨⟩
noncomputable abbrev R6:Stmt:=top 24
theorem Zf:Ah ["half"] ["half"] (A8 R6):=⟨⟩
noncomputable abbrev Nh:Stmt:=top 26
theorem G1:Ah ["names","bits","bit","name"] ["names"] (A8 Nh):=⟨⟩
noncomputable abbrev Hu:Stmt:=top 27
theorem Ex:Ah ["half","bits","reach","found","name"] ["half","bits"] (A8 Hu):=⟨⟩
noncomputable abbrev V0:Stmt:=top 29
theorem Wp:Ah ["half","ways"] ["half"] (A8 V0):=⟨⟩
noncomputable abbrev Ef:Stmt:=top 31
theorem Bn:Ah ["sayings","start","goal","ways","waiting","name","number","saying"] ["sayings","start","goal"] (A8 Ef):=⟨⟩
noncomputable abbrev Mo:Stmt:=top 33
theorem Xv:Ah ["names","sayings"] ["names","sayings"] (A8 Mo):=⟨⟩
noncomputable abbrev a55:Stmt:=top 34
theorem a26:Ah ["half","name","other","back"] ["half","name","other"] (A8 a55):=⟨⟩
noncomputable abbrev L1:Stmt:=top 37
theorem U3:Ah ["half","thing"] ["half","thing"] (A8 L1):=⟨⟩
noncomputable abbrev Dw:Stmt:=top 38
theorem Kh:Ah ["half","thing"] ["half","thing"] (A8 Dw):=⟨⟩
noncomputable abbrev Ij:Stmt:=top 39
theorem Ey:Ah ["ways","left","number","still","name","rest"] ["ways","left","number"] (A8 Ij):=⟨⟩
noncomputable abbrev Kw:Stmt:=top 40
theorem Nw:Ah ["half","number","ways"] ["half","number"] (A8 Kw):=⟨⟩
noncomputable abbrev Hz:Stmt:=top 42
theorem Dl:Ah ["ways","comings","left","name","rest"] ["ways"] (A8 Hz):=⟨⟩
noncomputable abbrev Jl:Stmt:=top 43
theorem Bx:Ah ["half","ways","comings","found","left","name","rest","many","other"] ["half"] (A8 Jl):=⟨⟩
noncomputable abbrev Je:Stmt:=top 44
theorem Lk:Ah ["half","shares"] ["half"] (A8 Je):=⟨⟩
noncomputable abbrev P9:Stmt:=top 45
theorem aa1:Ah ["half","found"] ["half"] (A8 P9):=⟨⟩
noncomputable abbrev Nr:Stmt:=top 47
theorem Dr:Ah ["half","plan","order","told","here","one","other"] ["half","plan","order"] (A8 Nr):=⟨⟩
noncomputable abbrev Ff:Stmt:=top 48
theorem Er:Ah ["half","question","one","other"] ["half"] (A8 Ff):=⟨⟩
noncomputable abbrev N2:Stmt:=top 49
theorem X4:Ah ["half"] ["half"] (A8 N2):=⟨⟩
noncomputable abbrev J7:Stmt:=top 51
theorem Rr:Ah ["_law_script"] ["_law_script"] (A8 J7):=⟨⟩
noncomputable abbrev K0:Stmt:=top 52
theorem E7:Ah ["_law_feed_here","_law_many","_law_cell","_law_mixed","_law_found"] ["_law_feed_here","_law_many"] (A8 K0):=⟨⟩
noncomputable abbrev Ha:Stmt:=top 53
theorem As:Ah ["_law_feed_here","_law_many","_law_letters","_law_start","_law_way","_law_size","_law_at","_law_names_here","_law_head","_law_tail","_law_turn"] ["_law_feed_here","_law_many"] (A8 Ha):=⟨⟩
noncomputable abbrev F8:Stmt:=top 54
theorem Cy:Ah ["_law_feed_here","_law_some","_law_left","_law_found","_law_k"] ["_law_feed_here","_law_some"] (A8 F8):=⟨⟩
noncomputable abbrev Hq:Stmt:=top 55
theorem B3:Ah ["_law_feed_here","_law_line","_law_many","_law_way","_law_found","_law_k","_law_at","_law_cut","_law_one"] ["_law_feed_here","_law_line"] (A8 Hq):=⟨⟩
noncomputable abbrev Fn:Stmt:=top 56
theorem Dh:Ah ["_law_feed_here","_law_line","_law_found","_law_pair","_law_turn"] ["_law_feed_here","_law_line"] (A8 Fn):=⟨⟩
noncomputable abbrev Jd:Stmt:=top 57
theorem Lm:Ah ["_law_feed_here","_law_most","_law_names_here"] ["_law_feed_here","_law_most"] (A8 Jd):=⟨⟩
noncomputable abbrev Gp:Stmt:=top 58
theorem Bj:Ah ["_law_half_here","_law_rows","_law_k","_law_longer","_law_row","_law_left","_law_later"] ["_law_half_here"] (A8 Gp):=⟨⟩
noncomputable abbrev Ib:Stmt:=top 59
theorem K5:Ah ["_law_orders_here","_law_one","_law_other_here","_law_ahead"] ["_law_orders_here","_law_one","_law_other_here"] (A8 Ib):=⟨⟩
noncomputable abbrev Ee:Stmt:=top 60
theorem Bl:Ah ["_law_names_here","_law_orders_here","_law_found","_law_k","_law_other_here","_law_ahead","_law_hind"] ["_law_names_here","_law_orders_here"] (A8 Ee):=⟨⟩
noncomputable abbrev Lc:Stmt:=top 61
theorem B5:Ah ["_law_feed_here","_law_names_here","_law_left","_law_level","_law_sayings_here","_law_many","_law_size","_law_fresh","_law_one"] ["_law_feed_here"] (A8 Lc):=⟨⟩
noncomputable abbrev Gv:Stmt:=top 62
theorem D9:Ah ["_law_feed_here","_law_names_here","_law_orders_here","_law_some","_law_pair","_law_ahead","_law_hind","_law_first"] ["_law_feed_here","_law_names_here","_law_orders_here"] (A8 Gv):=⟨⟩
noncomputable abbrev L5:Stmt:=top 63
theorem G5:Ah ["_law_feed_here","_law_part","_law_some"] ["_law_feed_here","_law_part"] (A8 L5):=⟨⟩
noncomputable abbrev Gn:Stmt:=top 64
theorem Lh:Ah ["_law_feed_here","_law_part","_law_deep","_law_at"] ["_law_feed_here","_law_part","_law_deep"] (A8 Gn):=⟨⟩
noncomputable abbrev Jh:Stmt:=top 65
theorem Fh:Ah ["_law_plan_here","_law_order","_law_found","_law_back"] ["_law_plan_here","_law_order"] (A8 Jh):=⟨⟩
noncomputable abbrev Jr:Stmt:=top 66
theorem Cm:Ah ["_law_half_here","_law_plan_here","_law_order","_law_found","e","_law_strange"] ["_law_half_here","_law_plan_here","_law_order"] (A8 Jr):=⟨⟩
noncomputable abbrev Hc:Stmt:=top 67
theorem Eu:Ah ["_law_feed_here","_law_order","_law_found","_law_one","_law_other_here"] ["_law_feed_here","_law_order"] (A8 Hc):=⟨⟩
noncomputable abbrev Ie:Stmt:=top 68
theorem Cn:Ah ["_law_feed_here","_law_half_here","_law_plan_here","_law_orders_here","_law_turn","_law_order","_law_found","_law_thing","_law_due"] ["_law_feed_here","_law_half_here","_law_plan_here","_law_orders_here"] (A8 Ie):=⟨⟩
noncomputable abbrev R9:Stmt:=top 69
theorem Ru:Ah ["_law_script","_law_feed_here","_law_halves","_law_half_here","_law_orders_here"] ["_law_script"] (A8 R9):=⟨⟩
noncomputable abbrev Dz:Stmt:=Jn (top 28) 0
theorem S3:Ah ["self","half"] ["self","half"] (A8 Dz):=⟨⟩
noncomputable abbrev Bm:Stmt:=Jn (top 28) 1
theorem Kt:Ah ["self","left"] ["self","left"] (A8 Bm):=⟨⟩
noncomputable abbrev By:Stmt:=Jn (top 28) 2
theorem O6:Ah ["self","left"] ["self","left"] (A8 By):=⟨⟩
noncomputable abbrev Cp:Stmt:=Jn (top 4) 0
theorem Oo:Ah ["self","name"] ["self","name"] (A8 Cp):=⟨⟩
noncomputable abbrev Cg:Stmt:=Jn (top 5) 0
theorem Nu:Ah ["self","word"] ["self","word"] (A8 Cg):=⟨⟩
noncomputable abbrev Ce:Stmt:=Jn (top 7) 0
theorem Mu:Ah ["self","number"] ["self","number"] (A8 Ce):=⟨⟩
noncomputable abbrev Dd:Stmt:=Jn (top 10) 0
theorem Qu:Ah ["self","way"] ["self","way"] (A8 Dd):=⟨⟩
structure Dp (mg:AH):Prop where
 g_MOST_LISTED:∃ u,mg "MOST_LISTED" = some u/\(u,.int 720)
 b_ValueError:mg "ValueError" = none
 b_all:mg "all" = none
 b_any:mg "any" = none
 b_dict:mg "dict" = none
 b_enumerate:mg "enumerate" = none
 b_int:mg "int" = none
 b_isinstance:mg "isinstance" = none
 b_len:mg "len" = none
 b_list:mg "list" = none
 b_max:mg "max" = none
 b_min:mg "min" = none
 b_range:mg "range" = none
 b_repr:mg "repr" = none
 b_reversed:mg "reversed" = none
 b_str:mg "str" = none
 b_sum:mg "sum" = none
 b_tuple:mg "tuple" = none
structure De (K:W.Frag)(C:Addr):Prop where
 cl:Cls K C
 n_names:(48,K,"names")
 n_bits:(48,K,"bits")
 n_ahead:(48,K,"ahead")
 n_full:(48,K,"full")
 n_known:(48,K,"known")
structure Bw (K:W.Frag)(mg:AH)(C B:Addr):Prop where
 xc:XC K C
 gl:mg "HalfError" = (3,C)
 mk0:GX K mg C "HalfError"
structure G0 (K:W.Frag)(mg:AH)(C B:Addr):Prop where
 xc:XC K C
 gl:mg "NoName" = (3,C)
 mr:Ko K C B=true
 n_name:(48,K,"name")
structure Ja (K:W.Frag)(mg:AH)(C B:Addr):Prop where
 xc:XC K C
 gl:mg "TooMany" = (3,C)
 mr:Ko K C B=true
 n_word:(48,K,"word")
structure K2 (K:W.Frag)(mg:AH)(C B:Addr):Prop where
 xc:XC K C
 gl:mg "NoPlace" = (3,C)
 mr:Ko K C B=true
 n_number:(48,K,"number")
structure Gg (K:W.Frag)(mg:AH)(C B:Addr):Prop where
 xc:XC K C
 gl:mg "NoOrder" = (3,C)
 mr:Ko K C B=true
 mk0:GX K mg C "NoOrder"
structure Mz (K:W.Frag)(mg:AH)(C B:Addr):Prop where
 xc:XC K C
 gl:mg "Clash" = (3,C)
 mr:Ko K C B=true
 n_way:(48,K,"way")
section
variable {P:Program}{w:World}{K:W.Frag}{mg:AH}{base:Heap}
local macro_rules | `(tactic| walk_at "lk") => L2.mRows "as | Same.lk e h: e=as h=lk | ExtBut.lk e h n: e=as n=ne h=lk | no"
local macro_rules | `(tactic| walk_at "ne") => L2.mRows "as | Ne.symm q: q=as | ne_of_none h g: g=as h=lk | ne_none2 h g: g=as h=lk | ne_of h g z: h=as g=as z=nc | no"
local macro_rules | `(tactic| walk_at "nc") => `(tactic| (intro z; cases z))
local macro_rules | `(tactic| walk_at "fr") => L2.mRows "ExtBut.refl | ExtBut.trans a b: b=as a=fr | ExtBut.same a b: b=as a=fr | ExtBut.off a q b: b=as q=as a=fr | no"
local macro_rules | `(tactic| walk_at "sm") => L2.mRows "same_refl | Same.trans a b: b=as a=sm | Same.off a q b: b=as q=as a=sm | no"
local macro_rules | `(tactic| walk_at "fd") => L2.mRows "as | Feed.same h e: e=as h=fd | Feed.off h e q f: e=as q=as f=as h=fd | no"
local macro_rules | `(tactic| walk_at "fz1") => L2.mRows "Same.fz b: b=as | ExtBut.fzL b l: b=as l=lk | ExtBut.fzD b l: b=as l=lk | Feed.fz f b: b=as f=fd | no"
local macro_rules | `(tactic| walk_at "fz") => L2.mRows "fz_refl | Fz.trans a x: x=fz1 a=fz | no"
local macro_rules | `(tactic| walk_at "sd") => `(tactic| first | omega | (show(0 : Int) < _; omega) | (unfold aR3; omega) | (unfold CMul; omega) | (unfold aQ5; omega) | (unfold aQ5; decide) | (refine ⟨?_, ?_⟩ <;> omega) | decide)
local macro_rules | `(tactic| walk_at "sz") => `(tactic| first | decide | exact A9 (by omega) | (rw [sizeLine_eq]; omega))
local macro_rules | `(tactic| walk_at "kv") => `(tactic| rfl)
local macro_rules | `(tactic| walk_at "rq1") => do
 let a <- L2.mAlts "i_asg i_gname i_ret i_drop i_if i_op i_un i_call i_cb i_cons i_nil i_c i_put i_tTest i_tB i_not i_and i_or i_tup i_lst i_next i_sl i_noPart i_part i_int i_for i_rng1 i_rng2 i_comp i_itS i_iany i_ienum i_ienumL i_irev i_chain i_andV i_orV i_notV i_dget1 i_tAt i_sSt i_tMe i_tMk i_tTru i_dget2 i_iDT i_bmT i_rU i_rI0 i_addI i_bl i_bm i_bm0 i_reprKB i_isN i_isNotN i_isB i_isNotB i_true i_tyS i_find i_intB i_inS i_pair i_pair0 iteR iteNR iteNbb itebb iteT iteF iteNT iteNF"
 let b <- L2.mRows "i_var w _: w=kv | i_rI w _: w=sd | i_mulBI w _: w=sd | i_tyLm w _: w=lk | i_ixD w v _: w=lk v=kv | i_eqS w _: w=kv | i_neS w _: w=kv | i_slS w _: w=sz | i_addS w _: w=sz | i_lenS w _: w=sz | i_lenL w _: w=lk | i_lenT w _: w=lk | i_cutN w _: w=ar"
 let c <- L2.mAltG "i_seqAG i_seqDG i_seqPG"
 `(tactic| first | $c:tactic | $a:tactic | $b:tactic)
local macro_rules | `(tactic| walk_at "rd1") => `(tactic| first | with_reducible refine aL0 fun N hN => ?_ | walk_at "rq1")
local macro_rules | `(tactic| walk_at "rq") => `(tactic| repeat (walk_at "rq1"))
local macro_rules | `(tactic| walk_at "rd") => `(tactic| repeat (walk_at "rd1"))
noncomputable def Ei (l:Addr)(a t u:Int):List (Key×V):=[(Sum.inr "cells",.ref l),(Sum.inr "at",.int a),(Sum.inr "left",.int t),(Sum.inr "turn",.int u)]
noncomputable def Feed (H:Hp)(d l:Addr):Prop:=∃(a t u:Int) (ns:List Int),H d=(6,Ei l a t u)/\H l=(2,ns.map V.int)/\0<ns.length/\ns.length<=64
noncomputable def Hv (K:W.Frag):Sp:=λvs H Q _=>∃(a:Addr) (ns:List Int),vs=[.ref a]/\(83,K,a,V.int)/\ns.length<=63/\∀ d l H',H d=none->H l=none->(5,H')->(J,H')->(D,d)
noncomputable def Av (K:W.Frag):Sp:=λvs H Q _=>∃ d l n,vs=[.ref d,.int n]/\(J,H)/\0<n/\n<1073741824/\∀ r H',0<=r->r<n->(h,d)->(J,H')->(X,r,H')
theorem ae7:Cr (Ei l a t u) (Sum.inr "cells":Key)=some (.ref l):=by rfl
theorem aS1:Cr (Ei l a t u) (Sum.inr "at":Key)=some (.int a):=by rfl
theorem aw2:Cr (Ei l a t u) (Sum.inr "left":Key)=some (.int t):=by rfl
theorem ay8:Cr (Ei l a t u) (Sum.inr "turn":Key)=some (.int u):=by rfl
local macro_rules | `(tactic| walk_at "kv") => `(tactic| first | exact ae7 | exact aS1 | exact aw2 | exact ay8 | rfl)
theorem WV {x:Int}:Eo (Ei l a t u) (Sum.inr "turn":Key) (.int x)=Ei l a t x:=by rfl
theorem XD {x:Int}:Eo (Ei l a t u) (Sum.inr "at":Key) (.int x)=Ei l x t u:=by rfl
theorem Q8 {x:Int}:Eo (Ei l a t u) (Sum.inr "left":Key) (.int x)=Ei l a x u:=by rfl
theorem Feed.same (h:(J,H))(e:(5,H')):Feed H' d l:=let ⟨a,t,u,ns,h1,h2,h3,h4⟩:=h;⟨a,t,u,ns,e _ _ h1,e _ _ h2,h3,h4⟩
theorem Feed.put {p:Addr}(h:(J,H))(e:(h,p))(hd:d≠p)(hl:l≠p):Feed H' d l:=let ⟨a,t,u,ns,h1,h2,h3,h4⟩:=h;⟨a,t,u,ns,e _ _ hd h1,e _ _ hl h2,h3,h4⟩
theorem Feed.nd {p:Addr}(h:(J,H))(hp:H p=none):d≠p:=let ⟨_,_,_,_,h1,_⟩:=h;ne_of_none h1 hp
theorem Feed.nl {p:Addr}(h:(J,H))(hp:H p=none):l≠p:=let ⟨_,_,_,_,_,h2,_⟩:=h;ne_of_none h2 hp
theorem Feed.lst  {b:Addr}  (h:(J,H)) (hb:H b=(2,xs)):b≠d:=let ⟨_,_,_,_,h1,_⟩:=h;(52,hb,h1)
theorem Feed.free {p:Addr}(h:(J,H'))(e:(h,d))(hp:H' p=none):H p=none:=by
 cases hq:H p with
 |none=>rfl
 |some o=>
   obtain⟨_,_,_,_,h1,_⟩:4:=h;have n:p≠d:=λq=>by subst q;rw[hp] at h1;cases h1
   rw[e p o n hq] at hp
   cases hp
theorem Feed.fz (h:(J,H))(e:(h,d)):Fz H H':=let ⟨_,_,_,_,h1,_⟩:=h;e.fzD h1
theorem Feed.off {H1 H2:Hp}{q:Addr}(h:(J,H1))(e:ExtBut q H1 H2)(O:H q=none)(F:(J,H)):Feed H2 d l:=h.put e (F.nd O) (F.nl O)
theorem Sw (F:(v,"_law_draw",K0))(T:Dp mg):FnOk P w K mg base CX0 1 f fd ["_law_feed_here","_law_many"] (Av K):=by
 refine F.ok E7 (λvs H Q E h=>?_) (λaB A outer s H vs Q E hr h=>?_)
 . obtain⟨d,l,n,rfl,_⟩:3:=h;rfl
 obtain⟨d,l,n,rfl,⟨a,t,u,ns,hd,hl,h0,a1⟩,hn,aD,k⟩:3:=h;have hu:=Bp hr;have hq:=Bs hr;have Y:l≠d:=(52,hl,hd)
 with_reducible refine⟨_,(A3 (F7 hu (pv 0) Ar (Am (Aj (K:=K)) (w,0,Ar) A4) ⋯)
  ((11,(50,hq,(w,0,Ar),A4,Ax _),(A3 (27,E7.nd,(26,(w,0,Ar),Am Lp (w,0,Ar) (Ai (Au (K:=K)) ⋯ T.b_len PyProof.Rows.Boot.«len» (8,(w,0,Ar)))))
  (A3 (F7 hu (pv 0) Ar (Am (Aj (K:=K)) (w,0,Ar) A4) ⋯)
  ((11,(21,Sa,pv 2,Am LC A4 A4,_),(A3 (28,E7.nd,Am Lp (Am D3 (Am (Aj (K:=K)) (F,Lp,2,A4) (Am D3 A4 (w,0,Ar))) A4) A4)
  (A3 (28,E7.nd,Am Lp (Am D3 (Am (Aj (K:=K)) (F,Mf,3,A4) (Am D3 A4 (w,0,Ar))) A4) A4)
  ((l,(53,Lp,(F,Mf,3,A4),1))))))
  (A6 (F7 hu (pv 0) Ar (pv 2) ⋯))))))
  (A3 (75,E7.nd,'b',(53,Lp,(w,0,Ar),1))
  (A3 (F7 hu (pv 0) Ar (53,Mf,(w,0,Ar),1) ⋯)
  ((l,pv 4)))))),?_⟩
 symm;refine Ix hd (by show 4<1000;decide) λH1 Z a2=>?_;rw[WV] at a2;have a3:H1 l=some (.lst (ns.map V.int)):=Z _ _ Y hl;symm;refine KS (λht=>?_) (λht=>?_)
 . symm;have a6:(0:Int)<((ns.map V.int).length:Nat):=by rw[BA];omega
   refine i_rI a6 ?_;have aA:0<=a % (((ns.map V.int).length:Nat):Int):=GN _ ∅;have aC:=GO a a6
   obtain⟨c,hc⟩:∃ c,(ns.map V.int)[(a % (((ns.map V.int).length:Nat):Int)).toNat]? = some (V.int c):=by refine⟨ns[(a % (((ns.map V.int).length:Nat):Int)).toNat]'(by rw[BA] at *;omega),?_⟩;rw[BK,BJ];rfl
   refine Fv a3 (by have:=Ci hc;rwa[EL aA] at this) ?_
   symm;refine Ix a2 (by show 4<1000;decide) λH2 O U=>?_;rw[XD] at U;have a0:H2 l=some (.lst (ns.map V.int)):=O _ _ Y a3;symm;refine KS (λa7=>?_) (λa7=>?_)
   . symm;exact k _ H2 (GN _ ∅) (GO _ hn) (Z.trans O) ⟨_,_,_,ns,U,a0,h0,a1⟩
   symm;refine Ix U (by show 4<1000;decide) λH3 e3 a4=>?_;rw[Q8] at a4;have a8:H3 l=some (.lst (ns.map V.int)):=e3 _ _ Y a0;symm;refine Ix a4 (by show 4<1000;decide) λH4 e4 a5=>?_;rw[Q8] at a5;have a9:H4 l=some (.lst (ns.map V.int)):=e4 _ _ Y a8;symm;exact k _ H4 (GN _ ∅) (GO _ hn) (((Z.trans O).trans e3).trans e4) ⟨_,_,_,ns,a5,a9,h0,a1⟩
 symm;refine Ix a2 (by show 4<1000;decide) λH2 O U=>?_;rw[Q8] at U;have a0:H2 l=some (.lst (ns.map V.int)):=O _ _ Y a3;symm;exact k _ H2 (GN _ ∅) (GO _ hn) (Z.trans O) ⟨_,_,_,ns,U,a0,h0,a1⟩
theorem Y8 (ns:List Int)(h:ns.length<=63):∃ ms:List Int,Mi (ns.map V.int) none (some 63)++(List.replicate (if(PyData.list (ns.map PyData.int)).eqv (PyData.list (([]:List Int).map PyData.int))=true then(1:Int) else 0).toNat [V.int 0]).flatten=ms.map V.int/\0<ms.length/\ms.length<=64:=by
 have F:Mi (ns.map V.int) none (some 63)=ns.map V.int:=by
  unfold Mi
  have e:HT.sIx (ns.map V.int).length (ns.map V.int).length (some 63)=(ns.map V.int).length:=by have:=HT.sIx_nat (ns.map V.int).length (ns.map V.int).length 63;rw[BA] at *;rw[show((63:Nat):Int)=(63:Int) from rfl] at this;rw[this];omega
  rw[HT.sIx_none,e,IS,Nat.sub_zero,CF]
 rw[F]
 cases ns with
 |nil=>exact⟨[0],by simp[PyData.eqv,PyData.eqvAll],by decide,by decide⟩
 |cons n r=>exact⟨n :: r,by simp[PyData.eqv,PyData.eqvAll],by simp,by omega⟩
theorem T8 (F:(v,"_law_feed",J7))(T:Dp mg):FnOk P w K mg base CX0 1 f fd ["_law_script"] (Hv K):=by
 refine F.ok Rr (λvs H Q E h=>?_) (λa7 A outer s H vs Q E hr h=>?_)
 . obtain⟨a,ns,rfl,_⟩:2:=h;rfl
 obtain⟨a,ns,rfl,hS,a0,k⟩:2:=h;have hu:=Bp hr;have hq:=Bs hr
 with_reducible refine⟨_,((l,(Q0 (Go Ar (Am (Aj (K:=K)) (Az (Ip (K:=K)) ⋯ T.b_list PyProof.Rows.Boot.«list» (8,(33,(Oe (K:=K)),0,Ck,Bd A4))) (Am D3 (Bi (8,A4)) (Az N5 ⋯ T.b_int PyProof.Rows.Boot.«int» (8,Ho (D8 (K:=K) hq) (pv 0) (Bi A2) (Ax _))))) (Go Ar A4 (Go Ar A4 (Go Ar A4 R0)))) ⋯ ⋯ nofun nofun))),?_⟩
 symm;refine W8 λp H1 hp O a8=>?_;symm;have a1:=O.seq hS;refine O3 a1 λq H2 a9 U a2=>?_;symm;refine YY (AJ a2) λr H3 aA Y aB=>?_;symm;refine Bk nofun λz H4 aE Z aF=>?_;symm;refine Bk nofun λy H5 aD e5 a6=>?_;refine UI (Wm (e5.seq (Z.seq (Y.seq (U.seq a1))))) (Wm (ns:=[]) (AJ a6)) (W.ke_shaped_ints ns) (W.ke_shaped_ints []) ?_;symm;refine ZQ (xs:=[V.int 0]) (by walk_at "lk") ?_ ?_ λx H6 aC e6 a5=>?_
 . split<;>omega
 . split<;>decide
 refine Pb (xs:=Mi (ns.map V.int) none (some 63)) (by walk_at "lk") a5 ?_ λv H7 a3 e7 a4=>?_
 . obtain⟨ms,e,h1,h2⟩:1:=Y8 ns a0;rw[<- BL,e,BA];exact BI h2 nofun
 symm;refine Qz [(Sum.inr "cells",.ref v),(Sum.inr "at",.int 0),(Sum.inr "left",.int 0),(Sum.inr "turn",.int 0)] (by walk_at "lk") 'e' (by show 4<=15;decide) λH8 e8 h8=>?_;have en:H8 p=some (.dK (Ei v 0 0 0)):=h8;refine k p v H8 hp ?_ ?_ ⟨0,0,0,?_⟩
 . exact O.free (U.free (Y.free (Z.free (e5.free (e6.free a3)))))
 . exact λb o hb=>e8 b o (ne_of_none hb hp) (e7 _ _ (e6 _ _ (e5 _ _ (Z _ _ (Y _ _ (U _ _ (O _ _ hb)))))))
 obtain⟨ms,e,h1,h2⟩:1:=Y8 ns a0;rw[e] at a4;exact⟨ms,en,by walk_at "lk",h1,h2⟩
noncomputable def Es (K:W.Frag):Sp:=λvs H Q _=>∃ d l n,vs=[.ref d,.int n]/\(J,H)/\0<=n/\n<=10/\∀ p ns H',H p=none->(h,d)->(J,H')->H' p=(2,ns.map V.str)->Names ns->ns.length=n.toNat->(D,p)
noncomputable def MN (H:Hp)(d l:Addr)(n st way sz at':Int):L2.St->Hp->Prop:=fun σ' H'=>∃ p ns x8 x9,σ'=[(112,d),(K,n),(64,LL),(K,st),(K,way),(K,(1+sz)),(K,at'),(3,p),x8,x9,none]/\H p=none/\(h,d)/\(J,H')/\H' p=(2,ns.map V.str)/\Names ns/\ns.length=10
theorem Qs (F:(v,"_law_names",Ha))(T:Dp mg)(A7:(76,P,w,K,1,["_law_feed_here","_law_many"],Av K)):FnOk P w K mg base CX0 2 f fd ["_law_feed_here","_law_many"] (Es K):=by
 refine F.ok As (λvs H Q E h=>?_) (λbJ A outer s H vs Q E Z h=>?_)
 . obtain⟨d,l,n,rfl,_⟩:3:=h;rfl
 obtain⟨d,l,n,rfl,hF,b2,bV,k⟩:3:=h;have hu:=Bp Z;have hq:=Bs Z
 with_reducible refine⟨_,(A3 (Aa (i:=2) As.nd ⋯ (by with_unfolding_all exact CJ rfl) (Am D3 Ar A4))
  (A3 (Aa (i:=3) As.nd ⋯ (by with_unfolding_all exact CJ rfl) (P,A7,(Z.mono nofun),0,A4))
  (A3 (75,As.nd,'b',(P,A7,(Z.mono nofun),0,A4))
  ((100,As.nd,⋯,'b',Am (Aj (K:=K)) A4 (P,A7,(Z.mono nofun),0,A4))
  (A3 (127,As.nd,'b',(10,A7,(Z.mono nofun),0,(7,5)))
  (A3 (113,As.nd,'b',Bi (W,Ar,Ar,(W,Ar,Ar,(W,Ar,Ar,(W,Ar,Ar,(W,Ar,Ar,A2))))))
  ((11,(50,hq,pv 4,A4,Ax _),A6 (113,As.nd,'b',Am (Aj (K:=K)) (Bz ["_law_k"] ["_law_letters","_law_start"] [2,3] ⋯ ⋯ ⋯ (101,⋯,(8,A4)) (λ_ _ _ _=>((13,(by with_unfolding_all (show(["_law_k","_law_letters","_law_start"]:AA).Nodup;decide +kernel))))) (Be nofun) (λ_ _ _ _=>Df) (λ_ _ _ _=>((33,(Oe (K:=K)),1,Bd (pv 2),Bd (53,(Aj (K:=K)),(F,(Aj (K:=K)),2,A4),0))))) (Bi (22,(w,2,(F,(Aj (K:=K)),3,A4)),(w,2,(F,(Aj (K:=K)),3,A4))))))
  ((11,(50,hq,pv 4,A4,Ax _),(A3 (Aa (i:=8) As.nd ⋯ (by with_unfolding_all exact CJ rfl) (33,(Oe (K:=K)),2,Bd (pv 3),Bd (F,(Aj (K:=K)),3,pv 6)))
  (A3 (Aa (i:=9) As.nd ⋯ (by with_unfolding_all exact CJ rfl) (33,(Oe (K:=K)),2,Bd (Am (Aj (K:=K)) (F,(Aj (K:=K)),3,pv 6) A4),Bd (F,(Aj (K:=K)),3,pv 5)))
  (A6 (Fs (i:=7) ["_law_k"] ["_law_head","_law_letters","_law_start","_law_tail"] [8,2,3,9] ⋯ ⋯ ⋯ As.nd ⋯ ⋯ (101,⋯,(8,A4)) (λ_ _ _ _=>((13,(by with_unfolding_all (show(["_law_k","_law_head","_law_letters","_law_start","_law_tail"]:AA).Nodup;decide +kernel))))) (Be nofun) (λ_ _ _ _=>Df) (λ_ _ _ _=>((53,(Aj (K:=K)),(F,(Aj (K:=K)),1,(w,2,(F,(Aj (K:=K)),3,Am Lp (53,D3,A4,0) A4))),4))))))))
  ((11,(50,hq,pv 4,A4,Ax _),A6 (Fs (i:=7) ["_law_k"] ["_law_letters","_law_start"] [2,3] ⋯ ⋯ ⋯ As.nd ⋯ ⋯ (101,⋯,(8,A4)) (λ_ _ _ _=>((13,(by with_unfolding_all (show(["_law_k","_law_letters","_law_start"]:AA).Nodup;decide +kernel))))) (Be nofun) (λ_ _ _ _=>Df) (λ_ _ _ _=>((33,(Oe (K:=K)),1,Bd (F,(Aj (K:=K)),2,pv 0),Bd (Am (Aj (K:=K)) (Am (Aj (K:=K)) (F,(Aj (K:=K)),2,pv 0) A4) (Am Lp (53,D3,A4,0) A4)))))))
  (A3 (Aa (i:=10) As.nd ⋯ 'b' (P,A7,(Z.mono nofun),0,A4))
  (A3 (113,As.nd,'b',Am (Aj (K:=K)) (33,(Oe (K:=K)),7,Bd (pv 10),Ck) (33,(Oe (K:=K)),7,Ck,Bd (pv 10)))
  ((l,Tj (33,(Oe (K:=K)),7,Ck,Bd (pv 1)) (26,Bi (22,A4,Xx Pf A4),(P,A7,(Z.mono nofun),0,A4))))))))))))))),?_⟩
 symm;refine RC nofun ?_;rw[PB];symm;refine⟨d,l,_,rfl,hF,by omega,by omega,λst H1 aB c6 e1 aN=>?_⟩;symm;refine⟨d,l,_,rfl,aN,by omega,by omega,λway H2 c8 cA e2 aP=>?_⟩;symm;refine⟨d,l,_,rfl,aP,by omega,by omega,λsz H3 cB cC e3 aQ=>?_⟩;symm;refine⟨d,l,_,rfl,aQ,by omega,by omega,λO H4 bQ bR e4 aR=>?_⟩;symm;refine Bk nofun λp5 H5 b6 e5 h5=>?_;walk_at "rq";have aI:ExtBut d H H4:=by walk_at "fr"
 have aS:Feed H5 d l:=by walk_at "fd"
 with_reducible refine Ow (MN H d l n st way sz O) (λN Y=>?_) (fun σ1 H6 hM=>?_)
 . walk_at "rq";refine Iy (λhw=>?_) (λhw=>?_)
   . walk_at "rq";refine J0 ∅ ?_;refine Mh C5 (fI λk=>.str (Txt.slice LL (some st) (some (st+1+k)))) (by simp) (λ_ _=>trivial) (λi x H6 R hx e6 hR=>?_) (λp6 H6 bX e6 h6=>?_)
     . obtain⟨rfl,hi⟩:=Fp hx;walk_at "rq";exact hR
     rw[Us (G:=λk=>txt (Oh st.toNat (st.toNat+1+k))) (λk hk=>by
      have e:=Wy (i:=st) (j:=st+1+(0+(k:Int))) aB ∅ (by have:((8:Int)).toNat=8:=rfl;omega);have e2:(st+1+(0+(k:Int))).toNat=st.toNat+1+k:=by omega
      rw[e2] at e;rw[e])] at h6
     obtain⟨c9,aX,e9⟩:1:=JW (i:=st+9) ∅ ∅;obtain⟨bI,aW,a2⟩:1:=JW (i:=st+10) ∅ ∅;walk_at "rq";refine KE Uo aX ?_;walk_at "rq";refine KE Uo aW ?_;walk_at "rq";refine Bk (A9 'c') λp7 H7 bY e7 h7=>?_;refine Pb (by walk_at "lk") h7 (by simp[sizeLine_eq]) λp8 H8 a0 e8 U=>?_;walk_at "rq";have f5:ExtBut d H H5:=by walk_at "fr"
     refine Y _ _ ⟨p8,(nm0 st.toNat).map txt,none,none,rfl,Feed.free (l:=l) (H':=H7) (by walk_at "fd") (by walk_at "fr") a0,by walk_at "fr",by walk_at "fd",?_,UN ∅,by simp[nm0]⟩;rw[U,e9,a2];have q9:(st+9).toNat=st.toNat+9:=by omega
     have bD:(st+10).toNat=st.toNat+10:=by omega
     rw[q9,bD];simp[nm0,Function.comp_def]
   walk_at "rq";refine Y _ _ ⟨p5,nm3,none,none,rfl,aR.free aI b6,by walk_at "fr",aS,h5,WN,rfl⟩
 obtain⟨p,ns,x8,x9,rfl,hp,e6,a8,h6,aT,b0⟩:4:=hM
 with_reducible refine Ow (MN H d l n st way sz O) (λN Y=>?_) (fun σ1 H7 hM=>?_)
 . walk_at "rq";refine Iy (λhw=>?_) (λhw=>?_)
   . walk_at "rq";refine J0 ∅ ?_;have c1:=Wy (i:=st) (j:=st+O) aB ∅ ∅;have c2:=Wy (i:=st+O+1) (j:=st+(1+sz)) ∅ ∅ ∅;rw[c1,c2];refine Mh C5 (fI λk=>.str (txt (Oh st.toNat (st+O).toNat)++txt (Rl (st+5*k % 26).toNat)++txt (Oh (st+O+1).toNat (st+(1+sz)).toNat))) (by simp) (λ_ _=>trivial) (λi x H8 R hx e8 hR=>?_) (λp8 H8 a0 e8 U=>?_)
     . obtain⟨rfl,hi⟩:=Fp hx;have bT:=GN (5*(0+(i:Int))) (show(26:Int)≠0 by decide);have bU:=GO (5*(0+(i:Int))) (show(0:Int)<26 by decide);obtain⟨c,hc,ec⟩:1:=JW (i:=st+5*(0+(i:Int)) % 26) ∅ ∅;walk_at "rq";refine KE Uo hc ?_;rw[ec];have l1:(txt (Oh st.toNat (st+O).toNat)).length<=52:=by show(Oh _ _).toArray.size<=_;unfold Oh;simp[L8];omega
       have l2:(txt (Oh (st+O+1).toNat (st+(1+sz)).toNat)).length<=52:=by show(Oh _ _).toArray.size<=_;unfold Oh;simp[L8];omega
       have l3:(txt (Rl (st+5*(0+(i:Int)) % 26).toNat)).length<=52:=by show(Rl _).toArray.size<=_;unfold Rl;simp[L8];omega
       refine i_addS (A9 ∅) ?_;have l4:(txt (Oh st.toNat (st+O).toNat)++txt (Rl (st+5*(0+(i:Int)) % 26).toNat)).length<=104:=by rw[Str.length_append];omega
       walk_at "rq";exact hR
     rw[Us (G:=λk=>txt (Oh st.toNat (st.toNat+O.toNat)++Rl (st.toNat+5*k % 26)++Oh (st.toNat+O.toNat+1) (st.toNat+(1+sz).toNat))) (λk hk=>by
      have q1:(st+O).toNat=st.toNat+O.toNat:=by omega
      have q2:(st+5*(0+(k:Int)) % 26).toNat=st.toNat+5*k % 26:=by omega
      have q3:(st+O+1).toNat=st.toNat+O.toNat+1:=by omega
      have q4:(st+(1+sz)).toNat=st.toNat+(1+sz).toNat:=by omega
      rw[q1,q2,q3,q4,NY,NY])] at U
     walk_at "rq";refine Y _ _ ⟨p8,(nm1 st.toNat (1+sz).toNat O.toNat).map txt,_,_,rfl,a8.free e6 a0,by walk_at "fr",by walk_at "fd",?_,VB ∅ ∅ ∅,by simp[nm1]⟩;rw[U];simp[nm1,Function.comp_def]
   walk_at "rq";exact Y _ _ ⟨p,ns,x8,x9,rfl,hp,e6,a8,h6,aT,b0⟩
 obtain⟨p',ns',bE,bF,rfl,b5,e7,a9,h7,aU,b1⟩:4:=hM
 with_reducible refine Ow (MN H d l n st way sz O) (λN Y=>?_) (fun σ1 H8 hM=>?_)
 . walk_at "rq";refine Iy (λhw=>?_) (λhw=>?_)
   . walk_at "rq";refine J0 ∅ ?_;refine Mh C5 (fI λk=>.str (Txt.slice LL (some (st+k)) (some (st+k+1+3*k % 8)))) (by simp) (λ_ _=>trivial) (λi x H8 R hx e8 hR=>?_) (λp8 H8 a0 e8 U=>?_)
     . obtain⟨rfl,hi⟩:=Fp hx;walk_at "rq";exact hR
     rw[Us (G:=λk=>txt (Oh (st.toNat+k) (st.toNat+k+1+3*k % 8))) (λk hk=>by
      have a4:((10:Int)).toNat=10:=rfl;have e:=Wy (i:=st+(0+(k:Int))) (j:=st+(0+(k:Int))+1+3*(0+(k:Int)) % 8) ∅ ∅ ∅;have q1:(st+(0+(k:Int))).toNat=st.toNat+k:=by omega
      have q2:(st+(0+(k:Int))+1+3*(0+(k:Int)) % 8).toNat=st.toNat+k+1+3*k % 8:=by omega
      rw[q1,q2] at e;rw[e])] at U
     walk_at "rq";refine Y _ _ ⟨p8,(nm2 st.toNat).map txt,_,_,rfl,a9.free e7 a0,by walk_at "fr",by walk_at "fd",?_,PU ∅,by simp[nm2]⟩;rw[U];simp[nm2,Function.comp_def]
   walk_at "rq";exact Y _ _ ⟨p',ns',bE,bF,rfl,b5,e7,a9,h7,aU,b1⟩
 obtain⟨p2,ms,y8,y9,rfl,bW,e8,aA,U,aV,bS⟩:4:=hM;symm;refine⟨d,l,_,rfl,aA,by omega,by omega,λtn H9 aC c7 e9 bP=>?_⟩;have nd2:p2≠d:=aA.lst U;symm;have h9:H9 p2=some (.lst (ms.map V.str)):=e9 _ _ nd2 U;refine O3 (SqL.of h9) λq1 aD bZ a2 a4=>?_;symm;refine O3 (SqL.of (show aD p2=some (.lst (ms.map V.str)) by walk_at "lk")) λq2 bG c0 bK a5=>?_;symm;rw[Ih aC (by rw[BA];omega)] at a4;rw[Gh aC] at a5;refine Pb (by walk_at "lk") a5 (A9 (by simp;omega)) λq3 aE c3 bL a6=>?_;symm;rw[<- FU,<- FT,<- BU] at a6;refine O3 (SqL.of a6) λq4 aF b7 bM aK=>?_;symm;rw[Gh b2,<- FT] at aK;refine Bk nofun λq5 bH b9 bN aL=>?_;symm;refine⟨d,l,2,rfl,by walk_at "fd",by omega,by omega,λr a1 c4 c5 a3 aO=>?_⟩;have bA:q5≠d:=Ne.symm (Feed.nd (H:=aF) (l:=l) (by walk_at "fd") b9);have b8:q4≠d:=Ne.symm (Feed.nd (H:=aE) (l:=l) (by walk_at "fd") b7);have aM:a1 q4=some (.lst (((ms.drop tn.toNat++ms.take tn.toNat).take n.toNat).map V.str)):=a3 _ _ b8 (by walk_at "lk");have aJ:a1 q5=some (.lst [V.int 1,V.int (-1)]):=a3 _ _ bA aL
 have bC:∃ k,atI [V.int 1,V.int (-1)] r=some (V.int k)/\(k=1\/k = -1):=by
  rcases(by omega:r=0\/r=1) with rfl|rfl
  . exact⟨1,rfl,.inl rfl⟩
  exact⟨-1,rfl,.inr rfl⟩
 obtain⟨kk,aY,aZ⟩:1:=bC;refine Fv aJ aY ?_;refine OT (AJ aM) aZ λq6 aG bB bO a7=>?_;obtain⟨os,eo,b3,b4⟩:1:=Xf (k:=kk) (aV.turn tn.toNat n.toNat);rw[eo] at a7;have aH:ExtBut d H a1:=by walk_at "fr"
 refine k q6 os aG (aO.free aH bB) (by walk_at "fr") (by walk_at "fd") a7 b3 ?_;rw[b4,CD,BL,CL,CD];omega
noncomputable def Cw (K:W.Frag):Sp:=λvs H Q _=>∃ d l a xs,vs=[.ref d,.ref a]/\(J,H)/\((N,a)\/(A,xs))/\xs.length<=1000/\∀ p ys H',H p=none->(h,d)->(J,H')->H' p=(2,ys)->ys.Perm xs->(D,p)
theorem M5 (F:(v,"_law_shuffled",F8))(T:Dp mg)(A7:(76,P,w,K,1,["_law_feed_here","_law_many"],Av K)):FnOk P w K mg base CX0 2 f fd ["_law_feed_here","_law_some"] (Cw K):=by
 refine F.ok Cy (λvs H Q E h=>?_) (λaJ A outer s H vs Q E hr h=>?_)
 . obtain⟨d,l,a,xs,rfl,_⟩:4:=h;rfl
 obtain⟨d,l,a,xs,rfl,Z,hS,hx,k⟩:4:=h;have hu:=Bp hr;have hq:=Bs hr
 with_reducible refine⟨_,(A3 (27,Cy.nd,Az (Ip (K:=K)) ⋯ T.b_list PyProof.Rows.Boot.«list» (7,1))
  (A3 (28,Cy.nd,Bi A2)
  (A3 (C4 BW ⋯ (101,⋯,(8,(38,(Au (K:=K)),2))) (102,Cy.nd,'b')
  (A6 (Cs (63,DA,EQ,EO,Eb,pv 3,(8,(63,DA,PySem.F.slot_list_pop,PySem.F.type_list_pop,Ws,pv 2,(8,(P,A7,(hr.mono nofun),0,(38,(Au (K:=K)),2)))))))))
  ((l,pv 3))))),?_⟩
 symm;refine V3 hS λq H1 a7 e1 h1=>?_;symm;refine Bk nofun λp H2 a3 e2 h2=>?_;symm;refine J0 ∅ ?_;have a2:H p=none:=e1.free a3;have a6:p≠q:=λz=>by subst z;rw[h1] at a3;cases a3
 refine Dq C5 (λi σ O=>∃ us vs x4,σ=[(3,d),(3,a),(3,q),(3,p),x4]/\ExtBut d H O/\(J,O)/\O q=(2,us)/\O p=(2,vs)/\(vs++us).Perm xs/\us.length+i=xs.length/\vs.length=i)
  ⟨xs,[],none,rfl,by walk_at "fr",by walk_at "fd",by walk_at "lk",h2,by simp,rfl,rfl⟩ (λ_ _ _ _=>trivial) (λi x σ O aI hi hP=>?_) (fun σ O hP=>?_)
 . obtain⟨us,vs,x4,rfl,e3,U,a1,Y,a0,a5,a8⟩:3:=hP;obtain⟨rfl,aF⟩:=Fp aI;have aK:i<xs.length:=by simpa using aF
   symm;refine⟨d,l,_,rfl,U,by omega,by omega,λr H4 aG aL e4 aE=>?_⟩;have aA:H4 q=some (.lst us):=e4 _ _ (U.lst a1) a1;have a9:H4 p=some (.lst vs):=e4 _ _ (U.lst Y) Y;have a4:r.toNat<us.length:=by omega
   symm;refine W3 aA aG (BJ a4) (λH5 e5 aC=>?_) ∅;have aB:H5 p=some (.lst vs):=e5 _ _ a6 a9;symm;refine Lx aB ∅ λH6 e6 aD=>?_;symm;refine⟨us.eraseIdx r.toNat,vs++[us[r.toNat]],_,rfl,by walk_at "fr",(aE.put e5 (Z.nd a7) (Z.nl a7)).put e6 (Z.nd a2) (Z.nl a2),e6 _ _ (Ne.symm a6) aC,aD,?_,?_,by simp[a8]⟩
   . exact(QQ (BJ a4) vs).trans a0
   rw[List.length_eraseIdx,BB a4];omega
 obtain⟨us,vs,x4,rfl,e3,U,a1,Y,a0,a5,a8⟩:3:=hP;symm
 have aH:us=[]:=by rw[BA,DN] at a5;exact A18.mp ∅
 subst aH;rw[DE] at a0;exact k p vs O a2 e3 U Y a0
noncomputable def G4 (K:W.Frag):Sp:=λvs H Q _=>∃ d l a ls,vs=[.ref d,.ref a]/\(J,H)/\H a=(2,ls.map V.str)/\ls.length<=10/\∀ p xs ps H',H p=none->(h,d)->(J,H')->H' p=(2,xs)->IsL K H' (ps.map prD) xs->Up ls ps->ps.length<=100->(D,p)
noncomputable def MP (K:W.Frag)(H:Hp)(d l a:Addr)(ls:AA)(way:Int)(E:Prop):L2.St->Hp->Prop:=fun σ' H'=>∃ p xs ps x5 x6 x7 x8,σ'=[(112,d),(3,a),(K,(ls.length:Nat)),(K,way),(3,p),x5,x6,x7,x8]/\H p=none/\(h,d)/\(J,H')/\H' p=(2,xs)/\IsL K H' (ps.map prD) xs/\Up ls ps/\ps.length<=100/\(E->ps=[])
theorem Qi (h:(I,ps.map prD,xs)):xs.length=ps.length:=by rw[<- AL h,BA]
theorem R7 (F:(v,"_law_pairs",Hq))(T:Dp mg)(A7:(76,P,w,K,1,["_law_feed_here","_law_many"],Av K)):FnOk P w K mg base CX0 2 f fd ["_law_feed_here","_law_line"] (G4 K):=by
 refine F.ok B3 (λvs H Q E h=>?_) (λcL A outer s H vs Q E hr h=>?_)
 . obtain⟨d,l,a,xs,rfl,_⟩:4:=h;rfl
 obtain⟨d,l,a,ls,rfl,hF,hA,hl,k⟩:4:=h;have hu:=Bp hr;have hq:=Bs hr
 with_reducible refine⟨_,(A3 (27,B3.nd,(38,(Au (K:=K)),1))
  (A3 (28,B3.nd,(P,A7,(hr.mono nofun),0,A4))
  (A3 (75,B3.nd,'b',Bi A2)
  ((11,PW.pt (Ro (21,Sa,pv 3,A4,_) (N8 (21,Ul,pv 2,A4,_))),A6 (C4 BW ⋯ (101,⋯,(8,(26,Bi (A1 (F,Mf,2,A4) (54,2,(53,D3,A4,2))),pv 3))) (Ae (i:=5) B3.nd ⋯ 'b')
  (A3 (127,B3.nd,'b',(P,A7,(hr.mono nofun),0,(F,Hh,2,A4)))
  (A6 (Cs (63,DA,EQ,EO,Eb,pv 4,(8,Ay (22,(w,1,pv 6),(w,1,Am (Aj (K:=K)) (F,(Aj (K:=K)),6,A4) (P,A7,(hr.mono nofun),0,(53,Hh,(F,Hh,2,A4),6)))))))))))
  ((11,(50,hq,pv 3,A4,Ax _),(A3 (113,B3.nd,(by with_unfolding_all exact CJ rfl),(P,A7,(hr.mono nofun),0,(F,(Aj (K:=K)),2,A4)))
  (A6 (Fs (i:=4) ["_law_k"] ["_law_line","_law_cut"] [1,7] ⋯ ⋯ ⋯ B3.nd ⋯ ⋯ (101,⋯,(8,(F,Hh,2,A4))) (λ_ _ _ _=>((13,(by with_unfolding_all (show(["_law_k","_law_line","_law_cut"]:AA).Nodup;decide +kernel))))) (Be nofun) (λ_ _ _ _=>(Eh (21,Pg (K:=K) hq,(F,(Aj (K:=K)),0,A4),pv 2,_))) (λ_ _ _ _=>(Ay (22,(w,1,pv 0),(w,1,(F,(Aj (K:=K)),0,A4)))))))))
  ((11,(50,hq,pv 3,A4,Ax _),A6 (Fs (i:=4) ["_law_k"] ["_law_line","_law_feed_here"] [1,0] ⋯ ⋯ ⋯ B3.nd ⋯ ⋯ (RZ ⋯ T.b_range (A1 A4 (7,2))) (λ_ _ _ _=>((13,(by with_unfolding_all (show(["_law_k","_law_line","_law_feed_here"]:AA).Nodup;decide +kernel))))) (Be nofun) (λ_ _ _ _=>(Eh (21,Ul,(P,A7,(hr.mono nofun),2,A4),A4,_))) (λ_ _ _ _=>(Ay (22,(w,1,(10,A7,(hr.mono nofun),2,(7,0))),(w,1,pv 0))))))
  ((11,(50,hq,pv 3,A4,Ax _),(A3 (113,B3.nd,(by with_unfolding_all exact CJ rfl),(P,A7,(hr.mono nofun),0,(F,(Aj (K:=K)),2,A4)))
  (A6 ((51,BW,(33,(Oe (K:=K)),1,Ck,Bd (pv 7)),Ae (i:=8) B3.nd ⋯ (by with_unfolding_all exact CJ rfl))
  (A6 (Cs (63,DA,HQ,HY,Kc,pv 4,(8,(40,["_law_other_here"],["_law_one"],[8],(33,(Oe (K:=K)),1,Bd (pv 7),Ck),(λ_ _ _ _=>((13,(by with_unfolding_all (show(["_law_other_here","_law_one"]:AA).Nodup;decide +kernel))))),(Be nofun),(λ_ _ _ _=>Df),(λ_ _ _ _=>(Ay (39,1,0))))))))))))
  ((l,pv 4))))))))),?_⟩
 symm;rw[BA];refine⟨d,l,_,rfl,hF,by omega,by omega,λway H1 d0 d1 e1 bN=>?_⟩;have a3:a≠d:=hF.lst hA;symm;refine Bk nofun λp H2 c2 e2 h2=>?_;walk_at "rq";have bA:H p=none:=bN.free e1 c2;have bO:Feed H2 d l:=by walk_at "fd"
 have cM:H2 a=some ((68,V.str)):=by walk_at "lk"
 with_reducible refine Ow (MP K H d l a ls way (way=5)) (λN hN=>?_) (fun σ1 H3 hM=>?_)
 . walk_at "rq";have aY:N [(112,d),(3,a),(K,(ls.length:Nat)),(K,way),(3,p),none,none,none,none] H2:=hN _ _ ⟨p,[],[],none,none,none,none,rfl,bA,by walk_at "fr",bO,h2,.nil,.nil,by decide,λ_=>rfl⟩;refine Iy (λhw=>?_) (λhw=>?_)
   . walk_at "rq";refine Iy (λhm=>?_) (λhm=>?_)
     . walk_at "rq";refine Bk (A9 (by simp)) λq H3 cU e3 h3=>?_
       have b9:∃ m,atI [V.int ((ls.length:Nat) / 2),V.int (ls.length:Nat),V.int (3*(ls.length:Nat))] way=some (V.int m)/\0<=m/\m<=30:=by
        rcases(by omega:way=0\/way=1\/way=2) with rfl|rfl|rfl
        . exact⟨_,rfl,by omega,by omega⟩
        . exact⟨_,rfl,by omega,by omega⟩
        exact⟨_,rfl,by omega,by omega⟩
       obtain⟨m,c0,cR,b9⟩:1:=b9;walk_at "rq";refine Fv h3 c0 ?_;walk_at "rq";refine J0 ∅ ?_
       refine Dq C5 (λi σ H4=>∃ xs ps x5 x6,σ=[(112,d),(3,a),(K,(ls.length:Nat)),(K,way),(3,p),x5,x6,none,none]/\ExtBut d H H4/\(J,H4)/\H4 p=(2,xs)/\IsL K H4 (ps.map prD) xs/\Up ls ps/\ps.length=i)
        ⟨[],[],none,none,rfl,by walk_at "fr",by walk_at "fd",by walk_at "lk",.nil,.nil,rfl⟩ (λ_ _ _ _=>trivial) (λi x σ H4 cC hi hP=>?_) (fun σ H4 hP=>?_)
       . obtain⟨xs,ps,x5,x6,rfl,e4,a2,h4,a7,hU,aT⟩:4:=hP;obtain⟨rfl,b7⟩:=Fp cC;have aK:H4 a=some ((68,V.str)):=e4 _ _ a3 hA;symm;refine⟨d,l,_,rfl,a2,by omega,by omega,λu U bE c9 Z a0=>?_⟩;obtain⟨z1,a9,aE,_⟩:1:=str_at? (ls:=ls) (i:=u) bE ∅;have a6:U a=some ((68,V.str)):=Z _ _ a3 aK;have h5:U p=some (.lst xs):=Z _ _ (a2.lst h4) h4;symm;refine Fv a6 aE ?_;symm;refine⟨d,l,_,rfl,a0,by omega,by omega,λu2 H6 bF cA Y a5=>?_⟩;obtain⟨z2,aA,aF,_⟩:1:=str_at? (ls:=ls) (i:=u+1+u2) ∅ ∅;have aB:H6 a=some ((68,V.str)):=Y _ _ a3 a6;have h6:H6 p=some (.lst xs):=Y _ _ (a0.lst h5) h5;symm;refine Fv aB aF ?_;symm;refine Aw (A9 (by simp)) λt H7 cY e7 h7=>?_;have b2:H7 p=some (.lst xs):=e7 _ _ h6;have cD:=Qi a7;symm;refine Lx b2 ∅ λO e8 h8=>?_;symm;have aJ:Fz H7 O:=e8.fzL b2;have bH:Fz H4 H7:=((a2.fz Z).trans (a0.fz Y)).trans e7.fz;refine⟨xs++[.ref t],ps++[(z1,z2)],_,_,rfl,by walk_at "fr",by walk_at "fd",h8,?_,?_,by simp[aT]⟩
         . rw[BU];exact(AM (bH.trans aJ) _ _ (Bv ps) a7).append (.one ((Rt (AK h7)).pr_fz aJ))
         exact hU.append (.one ∅ a9 aA)
       obtain⟨xs,ps,x5,x6,rfl,e4,a2,h4,a7,hU,aT⟩:4:=hP;rw[BA,DN] at aT;exact hN _ _ ⟨p,xs,ps,_,_,_,_,rfl,bA,e4,a2,h4,a7,hU,by omega,λq=>by omega⟩
     walk_at "rq";exact aY
   walk_at "rq";exact aY
 obtain⟨p3,cI,cF,x5,x6,x7,x8,rfl,c3,e3,b5,h3,bP,bR,bX,bK⟩:7:=hM;have bJ:H3 a=some ((68,V.str)):=e3 _ _ a3 hA
 with_reducible refine Ow (MP K H d l a ls way (way=5)) (λN hN=>?_) (fun σ1 H4 hM=>?_)
 . walk_at "rq";refine Iy (λhw=>?_) (λhw=>?_)
   . symm;refine⟨d,l,_,rfl,b5,by omega,by omega,λa1 H4 aS bU e4 a2=>?_⟩;have aK:H4 a=some ((68,V.str)):=e4 _ _ a3 bJ;symm;refine J0 ∅ ?_;refine Ep (K:=K) C5 (List.range ((ls.length:Nat)-1:Int).toNat) (by simp) (λk=>!decide (V.int ((0:Int)+(k:Nat)+1)=V.int a1)) (λk=>prD (ls.getD k "",ls.getD (k+1) "")) (λ_=>Fe _) (by simp;omega) (λ_ _=>trivial) (λi k v U R R' hk hv Z hR b6=>?_) (λp5 ys U aM Z h5 a4=>?_)
     . obtain⟨rfl,b7⟩:=Fp hv
       have bW:i=k:=by obtain⟨_,h2⟩:=A01.mp hk;rw[List.getElem_range] at h2;exact h2
       subst bW;have a6:U a=some ((68,V.str)):=Z _ _ aK;symm;refine HU (λhc=>?_) (λhc=>?_)
       . obtain⟨z1,a9,aE,_⟩:1:=str_at? (ls:=ls) (i:=0+(i:Int)) ∅ ∅;obtain⟨z2,aA,aF,_⟩:1:=str_at? (ls:=ls) (i:=0+(i:Int)+1) ∅ ∅;symm;refine Fv a6 aE ?_;symm;refine Fv a6 aF ?_;symm;refine Aw (A9 (by simp)) λt H6 cX Y h6=>?_;have q1:(0+(i:Int)).toNat=i:=by omega
         have q2:(0+(i:Int)+1).toNat=i+1:=by omega
         rw[q1] at a9;rw[q2] at aA;refine hR (by rw[BS hc];rfl) _ _ Y ?_;rw[Ub a9,Ub aA];exact Rt (AK h6)
       exact b6 (by rw[BY hc];rfl) _ (Same.refl _)
     symm;rw[MM] at a4;have bB:H p5=none:=a2.free (by walk_at "fr") aM;refine hN _ _ ⟨p5,ys,_,_,_,_,_,rfl,bB,by walk_at "fr",by walk_at "fd",h5,a4,λpr aV=>?_,?_,λq=>by cases hw;cases q⟩
     . obtain⟨j,hj,rfl⟩:1:=A0D.mp aV;have hj:=A1W.mp (A0M.mp hj).1;exact⟨j,j+1,by omega,Fb ∅,Fb ∅⟩
     rw[BA];refine BI (CM _ _) ?_;rw[DN];omega
   walk_at "rq";exact hN _ _ ⟨p3,cI,cF,x5,x6,x7,x8,rfl,c3,e3,b5,h3,bP,bR,bX,bK⟩
 obtain⟨p4,cJ,cG,y5,y6,y7,y8,rfl,c4,e4,a2,h4,a7,bS,bY,bL⟩:7:=hM;have aK:H4 a=some ((68,V.str)):=e4 _ _ a3 hA
 with_reducible refine Ow (MP K H d l a ls way (way=5)) (λN hN=>?_) (fun σ1 U hM=>?_)
 . walk_at "rq";refine Iy (λhw=>?_) (λhw=>?_)
   . symm;refine YN ∅ ?_;refine Hi C5 (λp i acc U=>∃ ps,ExtBut d H U/\(J,U)/\IsL K U (ps.map prD) acc/\Up ls ps/\ps.length<=i) (λp U hp Z h5=>⟨[],by walk_at "fr",by walk_at "fd",.nil,.nil,BE _⟩) (λ_ _ _ _ _=>trivial) (λp i x acc U hp hx hi aC ha hP=>?_) λp acc U hp ha aC hP=>?_
     . obtain⟨ps,Z,a0,a4,a8,aU⟩:1:=hP;obtain⟨rfl,b7⟩:=Fp hx;have bB:H p=none:=a2.free e4 hp;have bC:p≠d:=Ne.symm (a2.nd hp);symm;refine⟨d,l,_,rfl,a0,by omega,by omega,λu H6 bE c9 Y a5=>?_⟩;symm;have h6:H6 p=some (.lst acc):=Y _ _ bC ha;have aB:H6 a=some ((68,V.str)):=Y _ _ a3 (Z _ _ a3 hA);refine Iy (λhc=>?_) (λhc=>?_)
       . symm;refine⟨d,l,_,rfl,a5,by omega,by omega,λu2 H7 bF cA e7 cO=>?_⟩;have h7:H7 p=some (.lst acc):=e7 _ _ bC h6;have b4:H7 a=some ((68,V.str)):=e7 _ _ a3 aB;obtain⟨z1,a9,aE,_⟩:1:=str_at? (ls:=ls) (i:=u2) bF ∅;obtain⟨z2,aA,aF,_⟩:1:=str_at? (ls:=ls) (i:=1+(i:Int)) ∅ ∅;symm;refine Fv b4 aE ?_;symm;refine Fv b4 aF ?_;symm;refine Aw (A9 'c') λt O cZ e8 h8=>?_;have b3:O p=some (.lst acc):=e8 _ _ h7;refine Lw (by simp;omega) hi aC b3 λH9 e9 h9=>?_;have b0:Fz O H9:=e9.fzL b3;have aJ:Fz U O:=((a0.fz Y).trans (a5.fz e7)).trans e8.fz;refine⟨ps++[(z1,z2)],by walk_at "fr",by walk_at "fd",?_,a8.append (.one ∅ a9 aA),by simp[aU]⟩;rw[BU];exact(IsL.fz (aJ.trans b0) _ _ (Bv ps) a4).append (.one ((Rt (SqT.of h8)).pr_fz b0))
       refine Rc hi aC h6 ⟨ps,by walk_at "fr",a5,AM (a0.fz Y) _ _ (Bv ps) a4,a8,by omega⟩
     obtain⟨ps,Z,a0,a4,a8,aU⟩:1:=hP;rw[BA,DN] at aU;symm;exact hN _ _ ⟨p,acc,ps,_,_,_,_,rfl,a2.free e4 hp,Z,a0,ha,a4,a8,by omega,λq=>by cases hw;cases q⟩
   walk_at "rq";exact hN _ _ ⟨p4,cJ,cG,_,_,_,_,rfl,c4,e4,a2,h4,a7,bS,bY,bL⟩
 obtain⟨p5,aW,bG,z5,z6,z7,z8,rfl,aM,Z,a0,h5,a4,a8,aC,bM⟩:7:=hM;have a6:U a=some ((68,V.str)):=Z _ _ a3 hA
 with_reducible refine Ow (MP K H d l a ls way False) (λN hN=>?_) (fun σ1 H6 hM=>?_)
 . walk_at "rq";refine Iy (λhw=>?_) (λhw=>?_)
   . symm;refine⟨d,l,_,rfl,a0,by omega,by omega,λa1 H6 aS bU Y a5=>?_⟩;have aB:H6 a=some ((68,V.str)):=Y _ _ a3 a6;have h6:H6 p5=some (.lst aW):=Y _ _ (a0.lst h5) h5;symm;refine O3 (SqL.of aB) λq H7 bD e7 h7=>?_;rw[Gh aS,<- FT] at h7;have cT:H q=none:=a5.free (by walk_at "fr") bD;have c5:p5≠q:=ne_of_none h6 bD;refine Jk (SqL.of h7) ?_
     have cB:way=5:=by cases hw;rfl
     have c7:bG=[]:=bM cB;subst c7;have cE:aW=[]:=by simpa only[List.map_nil,L2.IsL] using a4
     subst cE;have bV:∀ O,ExtBut d H O->O a=some ((68,V.str)):=λO e8=>e8 _ _ a3 hA
     refine Dq (Bq (xs:=(ls.take a1.toNat).map V.str)) (λi σ O=>∃ xs ps x8,σ=[(112,d),(3,a),(K,(ls.length:Nat)),(K,way),(3,p5),z5,z6,(K,a1),x8]/\ExtBut d H O/\(J,O)/\O q=(2,((ls.take a1.toNat).map V.str))/\O p5=(2,xs)/\IsL K O (ps.map prD) xs/\Up ls ps/\ps.length<=i*10)
      ⟨[],[],_,rfl,by walk_at "fr",by walk_at "fd",h7,by walk_at "lk",.nil,.nil,by decide⟩ (λi σ O hP=>?_) (λi x σ O aD hi hP=>?_) (fun σ O hP=>?_)
     . obtain⟨xs,ps,x8,rfl,e8,aP,aN,_⟩:3:=hP;exact AJ aN
     . obtain ⟨xs,ps,x8,rfl,e8,aP,aN,h8,aL,aR,b8⟩:3:=hP;rw[BK] at aD
       cases hz:(ls.take a1.toNat)[i]? with
       |none=>rw[hz] at aD;cases aD
       |some one=>
         rw[hz] at aD
         cases aD
         have cP:i<10:=by have:=A01.mp hz;obtain⟨h1,_⟩:=this;rw[CD] at h1;omega
         have c1:ls[i]? = some one:=by
          rw[FL] at hz
          split at hz
          . exact hz
          cases hz
         have cQ:i<a1.toNat:=by
          rw[FL] at hz
          split at hz
          . assumption
          cases hz
         symm;refine O3 (SqL.of (bV O e8)) λq9 H9 cV e9 h9=>?_;rw[Ih aS (by rw[BA];omega),<- FU] at h9;refine Jk (SqL.of h9) ?_;refine Ep (K:=K) (Bq (xs:=(ls.drop a1.toNat).map V.str)) (ls.drop a1.toNat) 'c' (λ_=>true) (λo=>prD (one,o)) (λ_=>Fe _) (by simp;omega) (λH' e'=>SqL.of (e' _ _ h9)) (λj o v aG R R' ho hv aH hR b6=>?_) (λd2 ys aG cS aH bI aQ=>?_)
         . rw[BK,ho] at hv
           cases hv;symm;refine Aw (A9 'c') λt aX cW aI aO=>?_;exact hR rfl _ _ aI (Rt (AK aO))
         symm;have b1:aG p5=some (.lst xs):=aH _ _ (e9 _ _ h8)
         have hy:ys.length<=10:=by have:=AL aQ;rw[BA,Dy,CL] at this;omega
         have cD:=Qi aL;refine Wt b1 bI ∅ λaX aI aO=>?_;symm;have c8:aG q=some (.lst ((ls.take a1.toNat).map V.str)):=aH _ _ (e9 _ _ aN);have aZ:Fz aG aX:=aI.fzL b1;rw[Dy,MM] at aQ;refine⟨xs++ys,ps++(ls.drop a1.toNat).map (λo=>(one,o)),_,rfl,by walk_at "fr",by walk_at "fd",aI _ _ (Ne.symm c5) c8,aO,?_,aR.append λpr aV=>?_,?_⟩
         . rw[BU];exact(AM ((e9.fz.trans aH.fz).trans aZ) _ _ (Bv ps) aL).append (AM aZ _ _ (Bv _) aQ)
         . obtain⟨o,ho,rfl⟩:1:=A0D.mp aV;obtain⟨j,hj,ej⟩:=ED ho;refine⟨i,a1.toNat+j,by omega,c1,?_⟩;rw[<- List.getElem?_drop,BJ hj,ej]
         rw[BL,BA,CL,EC];omega
     obtain⟨xs,ps,x8,rfl,e8,aP,aN,h8,aL,aR,b8⟩:3:=hP;rw[BA,CD] at b8;exact hN _ _ ⟨p5,xs,ps,_,_,_,_,rfl,aM,e8,aP,h8,aL,aR,by omega,False.elim⟩
   walk_at "rq";exact hN _ _ ⟨p5,aW,bG,_,_,_,_,rfl,aM,Z,a0,h5,a4,a8,aC,False.elim⟩
 obtain⟨p6,cK,cH,w5,w6,w7,w8,rfl,c6,Y,a5,h6,bQ,bT,bZ,cN⟩:7:=hM;symm;exact k p6 cK cH H6 c6 Y a5 h6 bQ bT bZ
noncomputable def F3 (K:W.Frag):Sp:=λvs H Q _=>∃ d l a ls,vs=[.ref d,.ref a]/\(J,H)/\H a=(2,ls.map V.str)/\ls.length<=10/\∀ v ps H',(h,d)->(J,H')->(Y,psD ps,v)->Up ls ps->ps.length<=60->Q v H'
theorem ZF {p:Str×Str}(n:Nat)(h:(I,ps.map prD,xs))(F:(9,prD p,v)):IsL K H ((ps.take n++p :: ps.drop n).map prD) (aR2 xs n v):=by rw[BU,BM,FT,FU];exact(IsL.take n h).append (.cons F (IsL.drop n h))
theorem Mq (F:(v,"_law_sayings",Fn))(T:Dp mg)(A7:(76,P,w,K,1,["_law_feed_here","_law_many"],Av K))(Hs:(o,2,"_law_pairs",["_law_feed_here","_law_line"],G4 K)):FnOk P w K mg base CX0 3 f fd ["_law_feed_here","_law_line"] (F3 K):=by
 refine F.ok Dh (λvs H Q E h=>?_) (λb6 A outer s H vs Q E hr h=>?_)
 . obtain⟨d,l,a,xs,rfl,_⟩:4:=h;rfl
 obtain⟨d,l,a,ls,rfl,hF,hA,hl,k⟩:4:=h;have hu:=Bp hr;have hq:=Bs hr
 with_reducible refine⟨_,(A3 (27,Dh.nd,Bi A2)
  (A3 ((51,BW,(10,Hs,(hr.mono nofun),0,(7,1)),(128,Dh.nd,'b'))
  (A6 (C4 BW ⋯ (101,⋯,(8,Am (Aj (K:=K)) A4 (Az N5 ⋯ T.b_int PyProof.Rows.Boot.«int» (8,Ho (D8 (K:=K) hq) (P,A7,(hr.mono nofun),0,A4) A4 (Ax _))))) (102,Dh.nd,'b')
  (A6 (Cs (63,DA,PySem.F.slot_list_insert,PySem.F.type_list_insert,TU,pv 2,A1 (P,A7,(hr.mono nofun),0,Am (Aj (K:=K)) (38,(Au (K:=K)),2) A4) (7,3)))))))
  ((l,(103,(C0 (K:=K)),⋯,(8,(33,(Oe (K:=K)),2,Ck,Bd A4))))))),?_⟩
 symm;refine Bk nofun λp H1 b0 e1 h1=>?_;have aQ:H1 a=some ((68,V.str)):=e1 _ _ hA;have aR:Feed H1 d l:=hF.same e1;symm;refine⟨d,l,a,ls,rfl,aR,aQ,hl,λq xs ps H2 aJ e2 aS h2 aH aV bA=>?_⟩;have aE:p≠d:=Ne.symm (hF.nd b0);have aL:H2 p=some (.lst []):=e2 _ _ aE h1;have b1:p≠q:=ne_of_none h1 aJ;have bB:H q=none:=e1.free aJ;have bH:=Qi aH;refine Jk (AJ h2) ?_
 refine Dq (Bq (xs:=xs)) (λi σ U=>∃ ys qs x3 x4,σ=[(112,d),(3,a),(3,p),x3,x4]/\ExtBut d H U/\(J,U)/\U q=(2,xs)/\Fz H2 U/\U p=(2,ys)/\IsL K U (qs.map prD) ys/\Up ls qs/\qs.length<=i*2)
  ⟨[],[],_,_,rfl,by walk_at "fr",aS,h2,.refl _,aL,.nil,.nil,by decide⟩ (λi σ U Y=>?_) (λi x σ U b3 hi Y=>?_) (fun σ U Y=>?_)
 . obtain⟨ys,qs,x3,x4,rfl,e3,a0,a4,_⟩:4:=Y;exact AJ a4
 . obtain⟨ys,qs,x3,x4,rfl,e3,a0,a4,aF,aA,aC,aD,aZ⟩:4:=Y;obtain ⟨dp,a3,aX⟩:1:=IsL.get aH b3;rw[BK] at a3
   cases hpr:ps[i]? with
   |none=>rw[hpr] at a3;cases a3
   |some pr=>
     rw[hpr] at a3
     cases a3
     have aW:Up ls [pr]:=aV.sub λz hz=>by
      have:z=pr:=by simpa using hz
      subst this;exact BG hpr
     have b8:i<100:=by omega
     symm;refine⟨d,l,_,rfl,a0,by omega,by omega,λu H4 bE bF Z aT=>?_⟩;have aM:H4 p=some (.lst ys):=Z _ _ aE aA;have aN:H4 q=some (.lst xs):=Z _ _ (a0.lst a4) a4;have aK:Fz H2 H4:=aF.trans (a0.fz Z);have aU:IsL K H4 (qs.map prD) ys:=AM (a0.fz Z) _ _ (Bv qs) aC;symm;refine J0 (by split<;>omega) ?_
     refine Dq C5 (λj σ O=>∃ zs rs x4,σ=[(112,d),(3,a),(3,p),some x,x4]/\ExtBut d H O/\(J,O)/\O q=(2,xs)/\Fz H2 O/\O p=(2,zs)/\IsL K O (rs.map prD) zs/\Up ls rs/\rs.length=qs.length+j)
      ⟨ys,qs,_,rfl,by walk_at "fr",aT,aN,aK,aM,aU,aD,rfl⟩ (λ_ _ _ _=>trivial) (λj x' σ O b4 hj Y=>?_) (fun σ O Y=>?_)
     . obtain⟨zs,rs,b5,rfl,e5,a2,a7,a5,aB,a1,a6,aI⟩:3:=Y;obtain⟨rfl,b9⟩:=Fp b4;have bI:=Qi a1
       have aY:j<2:=by
        have:(1+if decide (V.int u=V.int 0)=true then(1:Int) else 0).toNat<=2:=by split<;>omega
        omega
       symm;refine⟨d,l,_,rfl,a2,by omega,by omega,λu2 H6 b2 bG e6 b7=>?_⟩;have aG:H6 p=some (.lst zs):=e6 _ _ aE aB;have aO:H6 q=some (.lst xs):=e6 _ _ (a2.lst a7) a7;symm;refine XR aG b2 ∅ ∅ λH7 e7 aP=>?_;have a8:Fz O H6:=a2.fz e6;have a9:Fz H6 H7:=e7.fzL aG;symm;refine⟨_,_,_,rfl,by walk_at "fr",by walk_at "fd",e7 _ _ (Ne.symm b1) aO,(a5.trans a8).trans a9,aP,ZF u2.toNat (AM (a8.trans a9) _ _ (Bv rs) a1) (AR ((a5.trans a8).trans a9) _ _ (Fe pr) aX),?_,?_⟩
       . intro z hz;rcases A0B.mp hz with hz|hz
         . exact a6 z (ER hz)
         rcases A0A.mp hz with rfl|hz
         . exact aW _ 'c'
         exact a6 z (FQ hz)
       rw[BL,BO,CD,CL];omega
     obtain⟨zs,rs,b5,rfl,e5,a2,a7,a5,aB,a1,a6,aI⟩:3:=Y;rw[BA,DN] at aI;have aY:(1+if decide (V.int u=V.int 0)=true then(1:Int) else 0).toNat<=2:=by split<;>omega
     exact⟨zs,rs,_,_,rfl,e5,a2,a7,a5,aB,a1,a6,by omega⟩
 obtain⟨ys,qs,x3,x4,rfl,e3,a0,a4,aF,aA,aC,aD,aZ⟩:4:=Y;symm;refine O3 (AJ aA) λt H4 bC Z h4=>?_;symm;rw[Gh nofun] at h4;refine Mg (AJ h4) λt2 O bD e5 h5=>?_;have a1:IsL K O (qs.map prD) ys:=AQ e5 _ _ (AQ Z _ _ aC);refine k (.ref t2) (qs.take 60) O (by walk_at "fr") (by walk_at "fd") (AN (AK h5) ?_) (aD.sub λz hz=>ER hz) ?_
 . rw[FT];exact IsL.take 60 a1
 rw[CD];omega
noncomputable def Fc (K:W.Frag):Sp:=λvs H Q _=>∃ d l n,vs=[.ref d,.int n]/\(J,H)/\0<=n/\n<=10/\∀ v ns ps H',(h,d)->(J,H')->(Y,hfD ns ps,v)->Half ns ps->ns.length<=n.toNat->Q v H'
theorem ZE {ns ls:AA}(h:Names ns)(hl:ns.length<=10)(p:ls.Perm ns)(u:Up ls ps)(hp:ps.length<=60):Half ns ps:=⟨h,hl,hp,ls,p,u⟩
theorem Ss {ns:AA}{ys:List V}(h:ys.Perm (ns.map V.str)):∃ ls:AA,ys=ls.map V.str/\ls.Perm ns:=by
 refine⟨ys.map λv=>match v with | .str z=>z | _=>"",?_,?_⟩
 . rw[CG]
   have:∀ v∈ys,(V.str∘λv=>match v with | .str z=>z | _=>"") v=v:=λv F=>by obtain⟨z,_,rfl⟩:1:=A0D.mp (h.mem_iff.mp F);rfl
   rw[CP this];simp
 have:=h.map λv=>match v with | .str z=>z | _=>("":Str)
 rw[CG] at this
 have e:ns.map ((λv=>match v with | .str z=>z | _=>("":Str))∘V.str)=ns:=by rw[show((λv=>match v with | .str z=>z | _=>("":Str))∘V.str)=id from rfl,List.map_id]
 rw[e] at this;exact this
theorem Rp (F:(v,"_law_half",Jd))(T:Dp mg)(A7:(76,P,w,K,1,["_law_feed_here","_law_many"],Av K))(Db:(o,2,"_law_names",["_law_feed_here","_law_many"],Es K))(Bo:(o,2,"_law_shuffled",["_law_feed_here","_law_some"],Cw K))(Fl:(o,3,"_law_sayings",["_law_feed_here","_law_line"],F3 K)):FnOk P w K mg base CX0 4 f fd ["_law_feed_here","_law_most"] (Fc K):=by
 refine F.ok Lm (λvs H Q E h=>?_) (λaA A outer s H vs Q E O h=>?_)
 . obtain⟨d,l,n,rfl,_⟩:3:=h;rfl
 obtain⟨d,l,n,rfl,hF,h0,aB,k⟩:3:=h;have hu:=Bp O;have hq:=Bs O
 with_reducible refine⟨_,(A3 (27,Lm.nd,(P,Db,(O.mono nofun),0,(P,A7,(O.mono nofun),0,(F,(Aj (K:=K)),1,A4))))
  ((l,Ay (22,(103,(C0 (K:=K)),⋯,(7,2)),(P,Fl,(O.mono nofun),0,(10,Bo,(O.mono nofun),0,(7,2))))))),?_⟩
 symm;refine⟨d,l,_,rfl,hF,by omega,by omega,λu H1 aH aI e1 a4=>?_⟩;symm;refine⟨d,l,_,rfl,a4,by omega,by omega,λp2 ns H2 aD e2 a5 h2 hN hl=>?_⟩;symm;refine Mg (AJ h2) λt3 H3 aF U h3=>?_;have Z:=a5.same U;have a6:Is K H3 (nmD ns) (.ref t3):=Mp (AK h3);symm;refine⟨d,l,p2,_,rfl,Z,.inl (AJ (U _ _ h2)),by rw[BA];omega,λp4 aJ H4 aE e4 a0 h4 a9=>?_⟩;obtain⟨ls,rfl,a1⟩:1:=Ss a9;have a2:=Z.fz e4;symm;refine⟨d,l,p4,ls,rfl,a0,h4,by rw[a1.length_eq];omega,λv5 ps H5 e5 aC a7 hU a8=>?_⟩;have a3:=a0.fz e5;symm;refine Aw (A9 'c') λt6 H6 aG Y h6=>?_;exact k (.ref t6) ns ps H6 (by walk_at "fr") (by walk_at "fd") (HG (AK h6) (a6.nm_fz ((a2.trans a3).trans Y.fz)) (a7.ps_fz Y.fz)) (ZE hN ∅ a1 hU a8) ∅
noncomputable def Cd (K:W.Frag):Sp:=λvs H Q _=>∃ v ns ps,vs=[v]/\(15,v)/\Od ns ps/\∀ r as H',H r=none->(∀ a∈as,H a=none)->(5,H')->Tab H' r ns as (Way ps)->(D,r)
theorem Ov (F:(v,"behind_each",Gs))(T:Dp mg):FnOk P w K mg base CX0 1 f fd ["half"] (Cd K):=by
 refine F.ok Cc (λvs H Q E h=>?_) (λbG A outer s H vs Q E hr h=>?_)
 . obtain⟨v,ns,ps,rfl,_⟩:3:=h;rfl
 obtain⟨v,ns,ps,rfl,hI,hW,k⟩:3:=h;have hu:=Bp hr;have hq:=Bs hr;have hn:=hW.nd;have bH:=hW.few
 with_reducible refine⟨_,((69,Cc.nd,⋯,'b',(r,0))
  (A3 (27,Cc.nd,Az (L6 (K:=K) hr.hd) ⋯ T.b_dict PyProof.Rows.Boot.«dict» (8,(40,["name"],[],[],pv 1,(λ_ _ _ _=>((13,(by with_unfolding_all (show(["name"]:AA).Nodup;decide +kernel))))),(Be nofun),(λ_ _ _ _=>Df),(λ_ _ _ _=>(Ay (54,0,Q1))))))
  (A3 ((51,BW,(r,0),(128,Cc.nd,'b'))
  (A6 (F7 hu (w,2,(r,3)) (r,3) Og ⋯)))
  (A3 ((51,BW,pv 1,(102,Cc.nd,'b'))
  (A6 ((51,BW,pv 1,Ae (i:=5) Cc.nd ⋯ 'b')
  (A6 (Ch (Ak (My (K:=K) hq) (pv 4) (w,2,pv 5) ⋯) (A6 (Cs (63,GV,PySem.F.slot_dict_update,PySem.F.type_dict_update,Xr,(w,2,pv 5),(8,(w,2,pv 4))))) At)))))
  ((l,pv 2)))))),?_⟩
 symm;refine Ek hI λnv hN=>?_;symm;obtain⟨na,rfl,hS⟩:1:=hN.nm;refine Rb hS ?_;refine Hi (Et (xs:=ns.map V.str)) (λp i acc H1=>(5,H1)/\∃ as:AF,as.length=i/\as.Nodup/\(∀ a∈as,H1 a=(6,[])/\H a=none)/\PrsK K H1 (Iq (ns.take i) as) acc) (λp H' hp e h=>⟨e,[],rfl,by simp,λ_ h=>(by cases h),by rfl⟩) (λp i acc H1 O=>O.1.seqT hS) (λp i x acc H1 hp hx hi hl ha O=>?_) λp acc H1 hp ha hl O=>?_
 . obtain ⟨e1,as,a8,aJ,a3,a5⟩:420:=O;rw[BK] at hx
   cases hz:ns[i]? with
   |none=>rw[hz] at hx;cases hx
   |some z=>
     rw[hz] at hx
     cases hx;have aL:i<ns.length:=(A01.mp hz).1;symm;refine JU λb H2 aK e2 h2=>?_;symm;refine Aw (A9 'c') λt H3 bJ e3 h3=>?_;have aO:H3 p=some (.lst acc):=e3 _ _ (e2 _ _ ha);refine Lw (by rw[BA];omega) hi hl aO λZ e4 h4=>?_;have b4:b≠p:=Ne.symm (ne_of_none ha aK);refine⟨by walk_at "sm",as++[b],by simp[a8],?_,λa a0=>?_,?_⟩
     . rw[A1D];refine⟨aJ,by simp,λa b2 c hc e=>?_⟩;have:c=b:=by simpa using hc
       subst this;subst e;have:=(a3 _ b2).1;rw[aK] at this
       cases this
     . rcases A0B.mp a0 with a0|a0
       . obtain⟨q1,q2⟩:=a3 a a0;exact⟨e4 _ _ (52,q1,ha) (e3 _ _ (e2 _ _ q1)),q2⟩
       have:a=b:=by simpa using a0
       subst this;exact⟨e4 _ _ b4 (e3 _ _ h2),e1.free aK⟩
     have ht:ns.take (i+1)=ns.take i++[z]:=by rw[CC,hz];rfl
     have b7:(ns.take i).length=as.length:=by rw[CD,a8];omega
     rw[ht,Pw b7];have a6:=e4.fzL aO;exact PrsK.snoc (kv:=(Sum.inr z,V.ref b)) (a6.seq (AK h3)) (PrsK.fz ((e2.fz.trans e3.fz).trans a6) a5)
 obtain⟨e1,as,a8,aJ,a3,a5⟩:420:=O;rw[BA] at a8;rw[BA,CF] at a5;symm;refine JV ha a5 (by unfold Iq;rw[List.length_map,List.length_zip];omega) λr H2 aW e2 h2=>?_;rw[Ke _ _ (Q7 hn) (λ_ _ _ h=>by cases h),GP] at h2;have bC:H r=none:=e1.free aW
 have bD:r∉as:=λhm=>by
  have:=(a3 r hm).1;rw[aW] at this
  cases this
 have aZ:Tab H2 r ns as (λz y=>(z,y)∈ps.take 0):=⟨a8,aJ,bD,h2,λi z a hz a0=>⟨[],e2 _ _ (a3 a (List.mem_of_getElem? a0)).1,by simp,λ_ h=>(by cases h),λy=>by simp⟩⟩;symm;refine T9 (hI.hf_fz (by walk_at "fz")) λpv aY=>?_
 refine RJ aY (λi σ H3=>∃ x3,σ=[some v,(3,na),(3,r),x3,none,none]/\(5,H3)/\Fz H2 H3/\Tab H3 r ns as (λz y=>(z,y)∈ps.take i))
  ⟨none,rfl,by walk_at "sm",.refl _,aZ⟩ (λi σ' H' O=>O.choose_spec.2.2.1) (λi pr w σ' H3 a5 aP O=>?_) (fun σ' H3 O=>?_)
 . obtain⟨x3,rfl,e3,aN,hT⟩:1:=O;have aV:=hW.mem pr (BG a5);obtain⟨j,a,hj,aG⟩:2:=hT.at aV.1;obtain⟨ks,a2,aB,aC,aH⟩:1:=hT.row j _ a hj aG;have b6:ks.length<=ns.length:=Co aB aC;symm;refine P4 aP ?_;refine Rn hT hn hj aG ?_;symm;refine Lz aP ?_;refine Ix a2 (by rw[Pr];omega) λZ e4 h4=>?_;rw[Yf] at h4;symm;have b1:H a=none:=(a3 a (BG aG)).2;refine⟨_,rfl,by walk_at "sm",aN.trans (e4.fzD a2),hT.put e4 hn hj aG h4 (Pm aB) (λy hy=>?_) (λy=>?_) (λz hz bE y=>?_)⟩
   . rcases mem_addK.mp hy with hy|rfl
     . exact aC y hy
     exact aV.2
   . rw[mem_addK,aH,CC,a5,A0B];constructor
     . rintro(h|rfl)
       . exact .inl h
       exact .inr 'c'
     rintro(h|h)
     . exact .inl h
     right
     have:(pr.1,y)=pr:=by simpa using h
     rw[<- this]
   rw[CC,a5,A0B];constructor
   . exact .inl
   rintro(h|h)
   . exact h
   have:(z,y)=pr:=by simpa using h
   exact absurd (by rw[<- this]) bE
 obtain⟨x3,rfl,e3,aN,hT⟩:1:=O;rw[CF] at hT;have b0:War ns ps [] (λz y=>(z,y)∈ps):=⟨λz y h=>.one h,λz y h=>h,λm hm=>by cases hm⟩;symm;have aQ:Is K H3 (nmD ns) (.ref na):=hN.nm_fz e3.fz
 refine Lj aQ (λi σ Z=>∃ x4 x5 R,σ=[some v,(3,na),(3,r),x3,x4,x5]/\(5,Z)/\Fz H3 Z/\Tab Z r ns as R/\War ns ps (ns.take i) R)
  ⟨_,_,_,rfl,e3,.refl _,hT,b0⟩ (λi σ' H' O=>?_) (λi Y σ' Z aS O=>?_) (fun σ' Z O=>?_)
 . obtain⟨_,_,_,_,_,fz,_⟩:3:=O;exact fz
 . obtain⟨x4,x5,R,rfl,e4,a6,aF,hR⟩:3:=O;obtain⟨jm,am,aA,a9⟩:2:=aF.at (BG aS);have aX:Is K Z (nmD ns) (.ref na):=aQ.nm_fz a6;symm
   refine Lj aX (λj σ H5=>∃ x5,σ=[some v,(3,na),(3,r),x3,(64,Y),x5]/\(5,H5)/\Fz Z H5/\Tab H5 r ns as (al2 R Y (ns.take j)))
    ⟨_,rfl,e4,.refl _,aF.congr λz _ y=>⟨.inl,λh=>h.elim (λq=>q) λq=>(65,q.1)⟩⟩ (λi σ' H' O=>O.choose_spec.2.2.1) (λj nm σ' H5 aU O=>?_) (fun σ' H5 O=>?_)
   . obtain⟨bF,rfl,e5,a7,U⟩:1:=O;obtain⟨jn,an,a4,a1⟩:2:=U.at (BG aU);obtain⟨ks,a2,aB,aC,aH⟩:1:=U.row jn nm an a4 a1;obtain⟨ms,b8,b9,aR,bA⟩:1:=U.row jm Y am aA a9;have b6:ks.length<=ns.length:=Co aB aC;have bI:ms.length<=ns.length:=Co b9 aR;have aI:ns.take (j+1)=ns.take j++[nm]:=by rw[CC,aU];rfl
     have aL:Y∈ks↔R nm Y:=(aH Y).trans ⟨λh=>h.elim (λq=>q) λq=>q.2.1,.inl⟩;have bB:∀ y,y∈ms↔R Y y:=λy=>(bA y).trans ⟨λh=>h.elim (λq=>q) λq=>q.2.2,.inl⟩
     have aM:∀ z∈ns,z≠nm->∀ y,al2 R Y (ns.take j) z y↔al2 R Y (ns.take (j+1)) z y:=λz _ hz y=>by unfold al2;rw[aI,A0B,A1C];simp[hz]
     symm;refine Rn U hn a4 a1 ?_;refine Va a2 ?_;symm;refine Iy (λhc=>?_) (λhc=>?_)
     . have aE:=aL.mp hc
       by_cases aT:nm=Y
       . subst aT
         have b5:jn=jm:=by obtain⟨p1,p2⟩:=A01.mp a4;obtain⟨q1,q2⟩:=A01.mp aA;exact(CY hn).mp (p2.trans q2.symm)
         subst b5;rw[a1] at a9
         cases a9;symm;refine Rn U hn a4 a1 ?_;refine IX a2 ?_;symm;refine Rn U hn a4 a1 ?_;symm;refine QO a2 ?_;symm;refine⟨_,rfl,e5,a7,U.congr λz hz y=>?_⟩
         by_cases aD:z=nm
         . subst aD;unfold al2;constructor
           . exact λh=>.inl (h.elim (λq=>q) λq=>q.2.2)
           exact λh=>.inl (h.elim (λq=>q) λq=>q.2.2)
         exact aM z hz aD y
       have b3:an≠am:=λq=>by subst q;obtain⟨p1,p2⟩:=A01.mp a1;obtain⟨q1,q2⟩:=A01.mp a9;have:=(CY U.nd).mp (p2.trans q2.symm);subst this;rw[a4] at aA;exact aT (BR aA)
       symm;refine Rn U hn a4 a1 ?_;refine IX a2 ?_;symm;refine Rn U hn aA a9 ?_;symm;refine ZC a2 b8 b3 ∅ λH6 e6 h6=>?_;symm;have b1:H an=none:=(a3 an (BG a1)).2;refine⟨_,rfl,by walk_at "sm",a7.trans (e6.fzD a2),U.put e6 hn a4 a1 h6 (Ll aB) (λy hy=>?_) (λy=>?_) aM⟩
       . rcases mem_addAll.mp hy with hy|hy
         . exact aC y hy
         exact aR y hy
       rw[mem_addAll,aH,bB];unfold al2;rw[aI,A0B,A1C];constructor
       . rintro((h|h)|h)
         . exact .inl h
         . exact .inr ⟨.inl h.1,h.2⟩
         exact .inr ⟨.inr rfl,aE,h⟩
       rintro(h|h)
       . exact(93,h)
       exact .inr h.2.2
     have aE:¬ R nm Y:=λq=>hc (aL.mpr q);symm;refine⟨_,rfl,e5,a7,U.congr λz hz y=>?_⟩
     by_cases aD:z=nm
     . subst aD;unfold al2;constructor
       . exact λh=>.inl (h.elim (λq=>q) λq=>absurd q.2.1 aE)
       exact λh=>.inl (h.elim (λq=>q) λq=>absurd q.2.1 aE)
     exact aM z hz aD y
   obtain⟨bF,rfl,e5,a7,U⟩:1:=O;rw[CF] at U;refine⟨_,_,_,rfl,e5,a6.trans a7,U.congr (R':=λz y=>R z y\/(R z Y/\R Y y)) λz hz y=>?_,?_⟩
   . unfold al2;simp[hz]
   have aI:ns.take (i+1)=ns.take i++[Y]:=by rw[CC,aS];rfl
   rw[aI];exact hR.step
 obtain⟨x4,x5,R,rfl,e4,a6,aF,hR⟩:3:=O;rw[CF] at hR;symm;exact k r as Z bC (λa a0=>(a3 a a0).2) e4 (aF.congr λz _ y=>hR.done hW.mem z y)
noncomputable def D6 (K:W.Frag):Sp:=λvs H Q _=>∃ v u ns ps xs,vs=[v,u]/\(15,v)/\(44,xs,u)/\(∀ x∈xs,x∈ns)/\Q .non H
theorem Jq (F:(v,"refuse_strangers",Di))(T:Dp mg):FnOk P w K mg base CX0 1 f fd ["half","asked"] (D6 K):=by
 refine F.ok F5 (λvs H Q E h=>?_) (λa0 A outer s H vs Q E Z h=>?_)
 . obtain⟨v,u,ns,ps,xs,rfl,_⟩:5:=h;rfl
 obtain⟨v,u,ns,ps,xs,rfl,hI,hU,hx,k⟩:5:=h;have hu:=Bp Z;have hq:=Bs Z
 with_reducible refine⟨_,(A6 ((51,BW,pv 1,Ae (i:=2) F5.nd ⋯ 'b')
  (A6 (Ch (Ak (F2 (K:=K) hq) (pv 2) (r,0) ⋯) (A6 M9) At)))),?_⟩
 symm;refine Lj hU (λi σ H1=>∃ U,σ=[some v,some u,U]/\H1=H) ⟨_,rfl,rfl⟩ (λi σ' H' O=>?_) (λi z σ' H1 hz O=>?_) (fun σ' H1 O=>?_)
 . obtain⟨_,_,rfl⟩:1:=O;exact .refl _
 . obtain⟨U,rfl,rfl⟩:1:=O;symm;refine Ek hI λnv hN=>?_;refine NA hN ?_;symm;refine HU (λY=>absurd (hx z (BG hz)) Y) (λY=>?_);symm;exact⟨_,rfl,rfl⟩
 obtain⟨U,rfl,rfl⟩:1:=O;exact k
theorem WH {ns:AA}(F:x∈ns)(O:y∈ns):∀ z∈[x,y],z∈ns:=λz hz=>by
 rcases A0A.mp hz with rfl|hz
 . exact F
 have:z=y:=by simpa using hz
 subst this;exact O
noncomputable def Mt (K:W.Frag):Sp:=λvs H Q _=>∃ v ns ps,vs=[v]/\(15,v)/\(E,ps)/\∀ u H',(5,H')->(Y,psD (clP ns ps),u)->Q u H'
noncomputable def Ct (K:W.Frag):Sp:=λvs H Q _=>∃ r v ns ps as p,vs=[.ref r,v]/\TabR H r ns as (Way ps)/\ns.Nodup/\ns.length<=100/\(∀ q∈ps,q.1∈ns/\q.2∈ns)/\(9,prD p,v)/\p.1∈ns/\∀ H',Keep as H H'->Q (.bl (thB ns ps p)) H'
theorem Zi (F:(v,"closed",Py))(T:Dp mg)(B1:(o,1,"behind_each",["half"],Cd K)):FnOk P w K mg base CX0 2 f fd ["half"] (Mt K):=by
 refine F.ok Kd (λvs H Q E h=>?_) (λaH A outer s H vs Q E hr h=>?_)
 . obtain⟨v,ns,ps,rfl,_⟩:3:=h;rfl
 obtain⟨v,ns,ps,rfl,hI,hW,k⟩:3:=h;have hu:=Bp hr;have hq:=Bs hr;have aJ:=hW.few
 with_reducible refine⟨_,((69,Kd.nd,⋯,(by with_unfolding_all exact CJ rfl),(14,B1,(hr.mono nofun),(7,0)))
  (A3 (27,Kd.nd,Bi A2)
  (A3 ((51,BW,(r,0),(128,Kd.nd,(by with_unfolding_all exact CJ rfl)))
  (A6 (Cs (63,DA,HQ,HY,Kc,pv 2,(8,(40,["other"],["one","reach"],[3,1],(r,0),(λ_ _ _ _=>((13,(by with_unfolding_all (show(["other","one","reach"]:AA).Nodup;decide +kernel))))),(Be nofun),(λ_ _ _ _=>(Eh (Ak (My (K:=K) hq) (pv 0) (w,2,pv 1) ⋯))),(λ_ _ _ _=>(Ay (39,1,0)))))))))
  ((l,(103,(C0 (K:=K)),⋯,(7,2))))))),?_⟩
 symm;refine⟨v,ns,ps,rfl,hI,hW,λr as H1 aP aI e1 hT=>?_⟩;symm;refine Bk (A9 'c') λp H2 aE e2 h2=>?_;symm;refine Ek (hI.hf_fz (by walk_at "fz")) λnv hN=>?_
 refine Lj hN (λi σ U=>∃ x3,σ=[some v,(3,r),(3,p),x3]/\Same H1 U/\Fz H2 U/\∃ ys,U p=(2,ys)/\IsL K U (((ns.take i).flatMap (clR ns ps)).map prD) ys/\ys.length<=i*100)
  ⟨none,rfl,e2,.refl _,[],h2,by simp only[List.take_zero,List.flatMap_nil,List.map_nil];exact .nil,by simp⟩ (λi σ' H' hP=>?_) (λi z σ' U hz hP=>?_) (fun σ' U hP=>?_)
 . obtain⟨_,_,_,fz,_⟩:1:=hP;exact fz
 . obtain⟨x3,rfl,Z,a3,ys,h3,hL,aD⟩:461:=hP;have a8:Is K U (hfD ns ps) v:=hI.hf_fz (e1.fz.trans Z.fz);have aG:=BG hz;have aK:i<ns.length:=(A01.mp hz).1;symm;refine Ek a8 λaR a9=>?_;refine Rj a9 (λy=>Ac ps z y) (λy=>prD (z,y)) (λ_=>Fe _) ∅ (λj y Y R R' hy O hR aA=>?_) (λq zs Y aO O h4 a5=>?_)
   . have a2:=hT.same (Z.trans O);obtain⟨a0,b0,a6,a7⟩:2:=a2.at aG;obtain⟨ks,aB,aL,aM,aC⟩:1:=a2.row a0 z b0 a6 a7;symm;refine Rn a2 hW.nd a6 a7 ?_;refine Va aB ?_;rw[Kg (aC y)];symm;refine GS (λhc=>?_) (λhc=>?_)
     . symm;refine Aw (A9 'c') λt H5 aQ e5 h5=>?_;exact hR hc _ _ e5 (Rt (AK h5))
     exact aA hc _ (Same.refl _)
   symm;have a4:=O _ _ h3
   have aN:zs.length<=ns.length:=by rw[<- AL a5,BA];exact CM _ _
   refine Wt a4 h4 ∅ λH5 e5 h5=>?_;symm;have a1:Fz Y H5:=e5.fzL a4;refine⟨_,rfl,?_,(a3.trans O.fz).trans a1,_,h5,?_,?_⟩
   . refine Same.off (q:=p) (H1:=Y) (Z.trans O) ?_ e5;exact aE
   . have ht:ns.take (i+1)=ns.take i++[z]:=by rw[CC,hz];rfl
     rw[ht,EM,BU];refine AW (AM (O.fz.trans a1) _ _ (Bv _) hL) ?_
     have e:([z].flatMap (clR ns ps)).map prD=(ns.filter λy=>Ac ps z y).map λy=>prD (z,y):=by simp[clR,Function.comp_def]
     rw[e];exact AM a1 _ _ (C7 _ (λ_=>Fe _) _) a5
   rw[BL];omega
 obtain⟨x3,rfl,Z,a3,ys,h3,hL,aD⟩:461:=hP;rw[CF] at hL;symm;exact Lb h3 hL λu Y O aF=>k u Y ((e1.trans Z).trans O) aF
theorem Ir (F:(v,"has_third_between",Cz))(T:Dp mg):FnOk P w K mg base CX0 1 f fd ["reach","pair"] (Ct K):=by
 refine F.ok Iu (λvs H Q E h=>?_) (λaD A outer s H vs Q E hr h=>?_)
 . obtain⟨r,v,ns,ps,as,p,rfl,_⟩:6:=h;rfl
 obtain⟨r,v,ns,ps,as,p,rfl,Y,hn,aE,aI,hI,aC,k⟩:6:=h;have hu:=Bp hr;have hq:=Bs hr;obtain⟨i,a,hi,a0⟩:2:=Y.at aC;obtain⟨ks,a7,a8,a1,a9⟩:1:=Y.row i p.1 a hi a0;have aF:ks.length<=ns.length:=Co a8 a1
 with_reducible refine⟨_,((l,Ai (Ys (K:=K) ⋯) ⋯ T.b_any PyProof.Rows.Boot.«any» (8,(40,["third"],["pair","reach"],[1,0],(w,0,(r,1)),(λ_ _ _ _=>((13,(by with_unfolding_all (show(["third","pair","reach"]:AA).Nodup;decide +kernel))))),(Be nofun),(λ_ _ _ _=>Df),(λ_ _ _ _=>(Ho (My (K:=K) hq) (r,1) (w,2,pv 0) ⋯)))))),?_⟩
 symm;refine P4 hI ?_;refine Wv Y hn hi a0 ?_;refine Zs a7 (BG a0) λo H1 k1 h1=>?_;have a5:=hI.pr_fz k1.fz;have a6:=Y.keep k1;refine Mh S7 (λx=>match x with | .str z=>.bl (Ac ps z p.2) | w=>w) (by rw[BA,Pr];omega) (λH' e=>e _ _ h1) (λj x H2 R O U hR=>?_) (λq H2 aJ U h2=>?_)
 . obtain⟨z,hz,rfl⟩:∃ z,z∈ks/\x = .str z:=by
    unfold Hf at O;rw[CG,BK] at O
    cases hz:ks[j]? with
    |none=>rw[hz] at O;cases O
    |some z=>
      rw[hz] at O
      cases O;exact⟨z,BG hz,rfl⟩
   have Z:=a6.same U;obtain⟨i2,a2,a4,a3⟩:2:=Z.at (a1 z hz);obtain⟨ms,aA,aG,aH,aB⟩:1:=Z.row i2 z a2 a4 a3;symm;refine Lz (a5.pr_fz U.fz) ?_;symm;refine Wv Z hn a4 a3 ?_;refine ZR aA ?_;rw[Kg (aB p.2)];exact hR
 symm
 have e:((Hf ks).map λkv=>kV kv.1).map (λx=>match x with | .str z=>.bl (Ac ps z p.2) | w=>w)=(ks.map λz=>Ac ps z p.2).map V.bl:=by unfold Hf;rw[CG,CG,CG];rfl
 rw[e] at h2;refine OM (AJ h2) ?_;rw[QV a1 a9];exact k H2 (k1.trans (U.keep as))
noncomputable def V8 (K:W.Frag):Sp:=λvs H Q _=>∃ v ns ps,vs=[v]/\(15,v)/\(E,ps)/\∀ u H',(5,H')->(Y,psD (baP ns ps),u)->Q u H'
noncomputable def Gm (K:W.Frag):Sp:=λvs H Q _=>∃ r x y ns ps as,vs=[.ref r,.str x,.str y]/\TabR H r ns as (Way ps)/\ns.Nodup/\x∈ns/\y∈ns/\(t,unB ps x y)
noncomputable def Ia (K:W.Frag):Sp:=λvs H Q _=>∃ r ns ps as,vs=[.ref r]/\Tab H r ns as (Way ps)/\ns.Nodup/\ns.length<=100/\∀ u H',(5,H')->(Y,psD (O,ns),u)->Q u H'
theorem Vg:∀ {ns:AA} {as:AF},as.length=ns.length->(Iq ns as).map (λkv=>kV kv.1)=ns.map V.str
 | [],[],_=>rfl
 | [],_ :: _,h=>by simp at h
 |_ :: _,[],h=>by simp at h
 |n :: ns,a :: as,h=>by have F:=Vg (ns:=ns) (as:=as) (by simpa using h);unfold Iq at F ⊢;rw[List.zip_cons_cons,BM,BM,F];rfl
noncomputable def Nl (K:W.Frag):Sp:=λvs H Q _=>∃ v ns ps,vs=[v]/\(15,v)/\(E,ps)/\∀ u H',(5,H')->(Y,psD (O,ns),u)->Q u H'
theorem QC (F:(v,"bare",a83))(T:Dp mg)(B1:(o,1,"behind_each",["half"],Cd K))(Q4:(o,2,"closed",["half"],Mt K))(D4:(o,1,"has_third_between",["reach","pair"],Ct K)):FnOk P w K mg base CX0 3 f fd ["half"] (V8 K):=by
 refine F.ok a02 (λvs H Q E h=>?_) (λa6 A outer s H vs Q E U h=>?_)
 . obtain⟨v,ns,ps,rfl,_⟩:3:=h;rfl
 obtain⟨v,ns,ps,rfl,hI,O,k⟩:3:=h;have hu:=Bp U;have hq:=Bs U;have Z:=O.few;have a7:(clP ns ps).length<=10000:=BI (SI ns ps) (DW Z Z)
 with_reducible refine⟨_,((69,a02.nd,⋯,(by with_unfolding_all exact CJ rfl),(14,B1,(U.mono nofun),(7,0)))
  ((l,(103,(C0 (K:=K)),⋯,(8,(40,["pair"],["reach"],[1],(14,Q4,(U.mono nofun),(7,0)),(λ_ _ _ _=>((13,(by with_unfolding_all (show(["pair","reach"]:AA).Nodup;decide +kernel))))),(Be nofun),(λ_ _ _ _=>(Eh (Ln (Hw (10,D4,(U.mono nofun),1,(7,0)))))),(λ_ _ _ _=>(pv 0)))))))),?_⟩
 symm;refine⟨v,ns,ps,rfl,hI,O,λr as H1 a9 a4 e1 hT=>?_⟩;symm;refine⟨v,ns,ps,rfl,hI.hf_fz e1.fz,O,λu H2 e2 hU=>?_⟩;have a1:=hT.same e2;refine QF hU as a1.some (λp=>!thB ns ps p) prD Fe ∅ (λi p w H3 R R' hp a0 k3 hR a3=>?_) (λq ys H3 a8 k3 h3 a2=>?_)
 . symm;refine⟨r,w,ns,ps,as,p,rfl,a1.toR.keep k3,O.nd,Z,O.mem,a0,(mem_clP.mp (BG hp)).1,λH4 k4=>?_⟩;symm;refine T2 (λY=>?_) (λY=>?_)
   . symm;exact hR (by rw[Y];rfl) _ _ k4 (a0.pr_fz k4.fz)
   exact a3 (by rw[Y];rfl) _ k4
 symm;exact Lb h3 a2 λu H4 e4 a5=>k u H4 (((e1.trans e2).then a4 k3).trans e4) a5
theorem Rk (F:(v,"are_untold",Hg))(T:Dp mg):FnOk P w K mg base CX0 1 f fd ["reach","one","other"] (Gm K):=by
 refine F.ok Q6 (λvs H Q E h=>?_) (λa4 A outer s H vs Q E hr h=>?_)
 . obtain⟨r,x,y,ns,ps,as,rfl,_⟩:6:=h;rfl
 obtain⟨r,x,y,ns,ps,as,rfl,O,hn,hx,hy,k⟩:6:=h;have hu:=Bp hr;have hq:=Bs hr;obtain⟨i,a,hi,Y⟩:2:=O.at hx;obtain⟨ks,a0,a5,a6,a1⟩:1:=O.row i x a hi Y;obtain⟨j,b,hj,Z⟩:2:=O.at hy;obtain⟨ms,a2,a7,a8,a3⟩:1:=O.row j y b hj Z
 with_reducible refine⟨_,((l,VU (Ho (F2 (K:=K) hq) (pv 2) (w,0,pv 1) ⋯) (MQ (Ho (F2 (K:=K) hq) (pv 1) (w,0,pv 2) ⋯)))),?_⟩
 symm;refine Wv O hn hi Y ?_;refine Rz a0 ?_;rw[Kg (a1 y)];symm;refine T2 (λU=>?_) (λU=>?_)
 . symm;refine Wv O hn hj Z ?_;refine Rz a2 ?_;rw[Kg (a3 x)];unfold unB at k;rw[U] at k;exact k
 unfold unB at k;rw[U] at k;exact k
theorem Tb (F:(v,"untold_of",Jo))(T:Dp mg)(Hn:(o,1,"are_untold",["reach","one","other"],Gm K)):FnOk P w K mg base CX0 2 f fd ["reach"] (Ia K):=by
 refine F.ok E8 (λvs H Q E h=>?_) (λaG A outer s H vs Q E hr h=>?_)
 . obtain⟨r,ns,ps,as,rfl,_⟩:4:=h;rfl
 obtain⟨r,ns,ps,as,rfl,hT,hnd,aC,k⟩:4:=h;have hu:=Bp hr;have hq:=Bs hr
 with_reducible refine⟨_,((69,E8.nd,⋯,'b',Az (Pc ⋯) ⋯ T.b_list PyProof.Rows.Boot.«list» (7,0))
  (A3 (27,E8.nd,Bi A2)
  (A3 (C4 BW ⋯ (TX (K:=K) ⋯ T.b_enumerate (7,1)) (Mw (K:=K) (n:=2) ⋯ (E5 (128,E8.nd,'b') (E5 (102,E8.nd,(by with_unfolding_all exact CJ rfl)) Na)))
  (A6 (Cs (63,DA,HQ,HY,Kc,pv 2,(8,(40,["other"],["one","reach"],[4,0],(33,(Oe (K:=K)),1,Bd (F,(Aj (K:=K)),3,A4),Ck),(λ_ _ _ _=>((13,(by with_unfolding_all (show(["other","one","reach"]:AA).Nodup;decide +kernel))))),(Be nofun),(λ_ _ _ _=>(Eh (Hw (10,Hn,(hr.mono nofun),2,(39,1,0))))),(λ_ _ _ _=>(Ay (39,1,0)))))))))
  ((l,(103,(C0 (K:=K)),⋯,(7,2))))))),?_⟩
 symm;refine Yc hT.top (by unfold Iq;rw[List.length_map,List.length_zip];omega) λq H1 aM e1 h1=>?_;rw[Vg hT.len] at h1;symm;refine Bk (A9 'c') λp H2 a5 e2 h2=>?_;have aL:q≠p:=ne_of_none h1 a5;symm
 refine YA (AJ (e2 _ _ h1)) (λi σ U=>∃ x3 x4,σ=[(3,r),(3,q),(3,p),x3,x4]/\Same H1 U/\Fz H2 U/\∃ ys,U p=(2,ys)/\IsL K U ((unK ns ps i).map prD) ys)
  ⟨none,none,rfl,e2,.refl _,[],h2,.nil⟩ (λi σ' H' hP=>?_) (λi x σ' aF U hx hP a0=>?_) (fun σ' U hP=>?_)
 . obtain⟨_,_,_,es,_⟩:2:=hP;exact AJ (es _ _ h1)
 . obtain⟨x3,x4,rfl,a6,a7,ys,a8,a9⟩:462:=hP
   obtain⟨z,hz,rfl⟩:∃ z,ns[i]? = some z/\x = .str z:=by
    rw[BK] at hx
    cases g:ns[i]? with
    |none=>rw[g] at hx;cases hx
    |some z=>rw[g] at hx;cases hx;exact⟨z,rfl,rfl⟩
   have Z:=a6.trans a0;have a2:=a7.trans a0.fz;have h3:=a0 _ _ a8;have hL:=AQ a0 _ _ a9;have aE:=BG hz;have aH:i<ns.length:=(A01.mp hz).1
   have aI:ys.length<=i*ns.length:=by rw[<- AL hL,BA];exact XA ns ps i
   have aJ:i*ns.length<=100*100:=DW ∅ aC;symm;refine O3 (AJ (Z _ _ h1)) λt H4 aO O h4=>?_;rw[show((i:Int)+1)=(((i+1:Nat)):Int) from rfl,YO ∅] at h4;refine Ra (AJ h4) (λy=>unB ps z y) (λy=>prD (z,y)) (λ_=>Fe _) (by rw[CL];omega) (λj y H5 R R' hy Y hR aA=>?_) (λq5 zs H5 aN Y h5 a4=>?_)
   . have aB:=hT.same (((e1.trans Z).trans O).trans Y);symm;refine⟨r,z,y,ns,ps,as,rfl,aB.toR,hnd,aE,FQ (BG hy),?_⟩;symm;refine GS (λhc=>?_) (λhc=>?_)
     . symm;refine Aw (A9 'c') λt H6 aP e6 h6=>?_;exact hR hc _ _ e6 (Rt (AK h6))
     exact aA hc _ (Same.refl _)
   symm;have a3:=Y _ _ (O _ _ h3)
   have aK:zs.length<=ns.length:=by rw[<- AL a4,BA];exact BI (CM _ _) (by rw[CL];omega)
   refine Wt a3 h5 ∅ λH6 e6 h6=>?_;symm;have a1:Fz H5 H6:=e6.fzL a3;refine⟨_,_,rfl,?_,((a2.trans O.fz).trans Y.fz).trans a1,_,h6,?_⟩
   . exact Same.off (q:=p) (H1:=H5) ((Z.trans O).trans Y) a5 e6
   rw[ag8,BU];refine AW (AM ((O.fz.trans Y.fz).trans a1) _ _ (Bv _) hL) ?_
   have e:(unR ns ps i).map prD=((ns.drop (i+1)).filter λy=>unB ps z y).map λy=>prD (z,y):=by unfold unR;rw[Ub hz,CG];rfl
   rw[e];exact AM a1 _ _ (C7 _ (λ_=>Fe _) _) a4
 obtain⟨x3,x4,rfl,Z,a2,ys,h3,hL⟩:462:=hP;rw[BA] at hL;symm;exact Lb h3 hL λu H4 O aD=>k u H4 ((e1.trans Z).trans O) aD
theorem Zc (F:(v,"untold",R6))(T:Dp mg)(Y:(o,1,"behind_each",["half"],Cd K))(Jv:(o,2,"untold_of",["reach"],Ia K)):FnOk P w K mg base CX0 3 f fd ["half"] (Nl K):=by
 refine F.ok Zf (λvs H Q E h=>?_) (λa0 A outer s H vs Q E O h=>?_)
 . obtain⟨v,ns,ps,rfl,_⟩:3:=h;rfl
 obtain⟨v,ns,ps,rfl,hI,U,k⟩:3:=h;have hu:=Bp O;have hq:=Bs O
 with_reducible refine⟨_,((l,(14,Jv,(O.mono nofun),(8,(14,Y,(O.mono nofun),(7,0)))))),?_⟩
 symm;refine⟨v,ns,ps,rfl,hI,U.c,λr as H1 a2 a1 Z hT=>?_⟩;symm;exact⟨r,ns,ps,as,rfl,hT,U.nd,U.few,λu H2 e2 hU=>k u H2 (Z.trans e2) hU⟩
noncomputable def WyT (K:W.Frag)(H:Hp)(ps:AB)(x:Str)(ks:AA)(ts:AF):Prop:=ts.length=ks.length/\∀(i:Nat) (z:Str) (t:Addr),ks[i]? = some z->ts[i]? = some t->∃ js os,(9,jsD js,.ref t)/\js.length<=1000/\Trl ps x js z os/\∀ o∈os,o∈ks
theorem WyT.fz {ks:AA}{ts:AF}(h:WyT K H ps x ks ts)(e:Fz H H'):WyT K H' ps x ks ts:=
 ⟨h.1,λi z t hz F=>let ⟨js,os,h1,h2⟩:=h.2 i z t hz F;⟨js,os,AR e _ _ (MB js) h1,h2⟩⟩
theorem WyT.snoc {ks:AA}{ts:AF}(h:WyT K H ps x ks ts){t:Addr}{js:AE}{os:AA}(h1:(9,jsD js,.ref t))(h2:js.length<=1000)(h3:Trl ps x js z os)(h4:∀ o∈os,o∈ks):WyT K H ps x (ks++[z]) (ts++[t]):=by
 refine⟨by simp[h.1],λi y u F hu=>?_⟩
 by_cases hi:i<ks.length
 . rw[FK hi] at F;rw[FK (by rw[h.1];exact hi)] at hu;obtain⟨a1,a2,Z,g2,g3,g4⟩:2:=h.2 i y u F hu;exact⟨a1,a2,Z,g2,g3,λo O=>BZ _ (g4 o O)⟩
 have a0:i=ks.length:=by have:=(A01.mp F).1;rw[BL,CU] at this;omega
 subst a0;have U:y=z:=by simpa using F.symm
 have Y:u=t:=by rw[<- h.1] at hu;simpa using hu.symm
 subst U Y;exact⟨js,os,h1,h2,h3,λo O=>BZ _ (h4 o O)⟩
noncomputable def Dv (K:W.Frag):Sp:=λvs H Q _=>∃ v x y ps,vs=[v,.str x,.str y]/\(9,psD ps,v)/\ps.length<=100/\∀ u H',(5,H')->((u = .non/\¬ x=y/\¬ (U,y))\/∃ js os,(Y,jsD js,u)/\js.length<=1000/\Trl ps x js y os)->Q u H'
theorem Lf (F:(v,"way_by_sayings",Ef))(T:Dp mg):FnOk P w K mg base CX0 1 f fd ["sayings","start","goal"] (Dv K):=by
 refine F.ok Bn (λvs H Q E h=>?_) (λbS A outer s H vs Q E hr h=>?_)
 . obtain⟨v,x,y,ps,rfl,_⟩:4:=h;rfl
 obtain⟨v,x,y,ps,rfl,hI,hl,k⟩:4:=h;have hu:=Bp hr;have hq:=Bs hr
 with_reducible refine⟨_,(A3 (28,Bn.nd,(Q0 (Go (pv 1) (Ay A2) R0) ⋯ ⋯ nofun nofun))
  (A3 (75,Bn.nd,'b',Bi (7,1))
  (A3 (Mc BW (21,Ul,(38,(Au (K:=K)),4),A4,_)
  ((100,Bn.nd,⋯,'b',(63,DA,PySem.F.slot_list_pop,PySem.F.type_list_pop,Ws,pv 4,(8,A4)))
  (A6 (C4 BW ⋯ (ZG (K:=K) ⋯ T.b_enumerate (7,0)) (Mw (K:=K) (n:=2) ⋯ (E5 (Ae (i:=6) Bn.nd ⋯ 'b') (E5 (Ae (i:=7) Bn.nd ⋯ 'b') Na)))
  (A6 (Ch (PW.pt (Ro (50,hq,(r,7),pv 5,Ax _) (N8 (Ak (F2 (K:=K) hq) (r,7) (pv 3) ⋯)))) (A3 (F7 hu (pv 3) (r,7) (Am (Aj (K:=K)) (w,3,pv 5) (Ay (7,6))) ⋯)
  (A6 (Cs (63,DA,EQ,EO,Eb,pv 4,(8,(r,7)))))) At))))))
  ((l,OR hu (pv 3) (pv 2) (by with_unfolding_all exact⟨rfl,rfl,rfl,rfl⟩)))))),?_⟩
 symm;refine W8 λr H1 bY e1 h1=>?_;symm;refine Aw nofun λt0 H2 bZ e2 h2=>?_;symm;refine Qz [(Sum.inr x,.ref t0)] (by walk_at "lk") 'e' 'c' λH3 e3 h3=>?_;have aW:H3 r=some (.dK (Iq [x] [t0])):=h3;symm;refine Bk (A9 'c') λq H4 b2 e4 h4=>?_;have bA:H2 r=some (.dK []):=e2 _ _ h1;have bN:H3 t0=some (.tup []):=e3 _ _ (52,h2,bA) h2;have aI:r≠q:=ne_of_none aW b2;have b3:Same H H4:=by walk_at "sm"
 have bX:H q=none:=Same.free (by walk_at "sm":(5,H3)) b2
 have bH:WyT K H4 ps x [x] [t0]:=⟨rfl,λi z t hz ht=>by
  have hi:i=0:=by have:=(A01.mp hz).1;simpa using this
  subst hi;have e1:z=x:=by simpa using hz.symm
  have e2:t=t0:=by simpa using ht.symm
  subst e1 e2;exact⟨[],[],AN (AK (e4 _ _ bN)) .nil,by decide,Trl.nil ps _,λ_ h=>by cases h⟩⟩
 symm
 refine Pq (λm σ Y=>∃ ks ws ts x5 x6 x7,σ=[some v,(64,x),(64,y),(3,r),(3,q),x5,x6,x7]/\(5,Y)/\Y r=(6,Iq ks ts)/\Y q=(2,ws.map V.str)/\WyT K Y ps x ks ts/\WyI ps x ks ws/\m=2*(ps.length+1-ks.length)+ws.length)
  (2*(ps.length+1-[x].length)+[x].length) ⟨[x],[x],[t0],_,_,_,rfl,b3,e4 _ _ aW,h4,bH,⟨by simp,by simp,λy hy=>.inl (by simpa using hy),λz hz=>hz,λz hz hn=>absurd hz hn,by simp⟩,rfl⟩ λm σ Y hP=>?_
 obtain⟨ks,ws,ts,x5,x6,x7,rfl,e5,aB,aX,aF,O,rfl⟩:6:=hP;symm;refine Iy (λhE=>?_) (λhE=>?_)
 . cases ws with
   |nil=>simp at hE
   |cons here ws=>
   refine Vm ?_;symm;refine W3 (y:=.str here) aX nofun 'e' (λH6 e6 bB=>?_) (by have:=O.le;have:=O.few;rw[BA];omega);have bC:H6 q=some (.lst (ws.map V.str)):=bB;have bD:H6 r=some (.dK (Iq ks ts)):=e6 _ _ aI aB;have b6:Fz Y H6:=e6.fzL aX;have aN:Same H H6:=by walk_at "sm"
   have bV:=O.le;have bJ:=O.few;rw[BO] at bJ;symm
   refine VH (hI.ps_fz aN.fz) (λi σ H7=>∃ gs ms us x6 x7,σ=[some v,(64,x),(64,y),(3,r),(3,q),(64,here),x6,x7]/\(5,H7)/\Fz H6 H7/\H7 r=(6,Iq gs us)/\H7 q=(2,ms.map V.str)/\WyT K H7 ps x gs us/\WyJ ps x here ks ws gs ms i)
    ⟨ks,ws,ts,_,_,rfl,aN,.refl _,bD,bC,aF.fz b6,⟨O.nd,O.way,λz hz=>O.line z (BP _ hz),λ_ h=>h,λ_ h=>h,λ_ h=>.inl h,λj hj=>absurd hj (Nat.not_lt_zero _),rfl⟩⟩ (λi σ' H' hP=>?_) (λi pr w σ' H7 H8 a9 a6 hP e8=>?_) (fun σ' H7 hP=>?_)
   . obtain⟨_,_,_,_,_,_,_,fz,_⟩:5:=hP;exact fz
   . obtain⟨gs,ms,us,bO,bP,rfl,e7,a5,aD,aC,aG,U⟩:5:=hP;have bK:=U.le;have bL:=U.len;have a2:=e8 _ _ aD;have aE:=e8 _ _ aC;have a1:=aG.fz e8.fz;have a7:here∈gs:=U.keep here (O.line here BQ);symm;refine P4 a6 ?_;symm;refine Iy (λh1=>?_) (λh1=>?_)
     . have aS:pr.1=here:=by injection h1
       symm;refine Lz a6 ?_;symm;refine QE a2 a1.1 ?_;symm;refine HU (λh2=>?_) (λh2=>?_)
       . obtain⟨ih,aZ,b4⟩:=ED a7;have aQ:gs[ih]? = some here:=by rw[BJ aZ,b4]
         obtain⟨th,gth⟩:∃ th,us[ih]? = some th:=⟨us[ih]'(by rw[a1.1];exact aZ),BJ _⟩;obtain⟨js,os,aH,b1,a3,a8⟩:2:=a1.2 ih here th aQ gth;obtain⟨bR,bQ,bI,bF,aY⟩:2:=AS aH
         cases bI;have bW:bQ.length=js.length:=by rw[<- AL aY,BA]
         have bM:=a3.nd
         have bU:js.length<=ps.length+1:=by have:=Co (A1D.mp bM).1 (ys:=gs) a8;rw[a3.len] at this;omega
         symm;refine(58,a2,Ew U.nd aQ gth);symm;refine Aw (A9 'c') λt9 H9 c0 Z h9=>?_;refine K6 (Z.seqT bF) (SqT.of h9) (A9 (by simp;omega)) λaJ aK a0 b7=>?_
         have bE:Is K aK (jsD (js++[i])) (.ref aJ):=by unfold jsD;rw[BU];exact AN b7 ((AQ a0 _ _ (AQ Z _ _ aY)).append (.one Kq))
         symm;refine Lz ((a6.pr_fz Z.fz).pr_fz a0.fz) ?_;have aT:=a0 _ _ (Z _ _ a2);have b8:=a0 _ _ (Z _ _ aE);refine Ix aT (by unfold Iq;rw[List.length_map,List.length_zip];omega) λaL aO aV=>?_;rw[XX h2 a1.1.symm] at aV;have a4:Fz aK aL:=aO.fzD aT;have aU:=aO _ _ (Ne.symm aI) b8;symm;refine Lz (((a6.pr_fz Z.fz).pr_fz a0.fz).pr_fz a4) ?_;symm;refine Lx aU (by rw[BA];omega) λaM aP b9=>?_;symm;have aA:Fz aL aM:=aP.fzL aU
         have bG:WyT K aM ps x (gs++[pr.2]) (us++[aJ]):=WyT.snoc (a1.fz (((Z.fz.trans a0.fz).trans a4).trans aA)) (Is.fz (a4.trans aA) _ _ (MB _) bE) (by simp;omega) (a3.snoc (by rw[<- aS];exact a9) (λhm=>by
          rcases A0B.mp hm with hm|hm
          . exact h2 (a8 _ hm)
          . have:pr.2=here:=by simpa using hm
            exact h2 (this ▸ a7))) (λo ho=>by
          rcases A0B.mp ho with ho|ho
          . exact a8 o ho
          have:o=here:=by simpa using ho
          exact this ▸ a7)
         refine⟨gs++[pr.2],ms++[pr.2],us++[aJ],_,_,rfl,by walk_at "sm",(((a5.trans e8.fz).trans (Z.fz.trans a0.fz)).trans a4).trans aA,aP _ _ aI aV,?_,bG,U.step a7 a9 aS h2⟩;rw[b9,BU];rfl
       exact⟨gs,ms,us,_,_,rfl,by walk_at "sm",a5.trans e8.fz,a2,aE,a1,U.skip a9 λ_=>h2⟩
     exact⟨gs,ms,us,_,_,rfl,by walk_at "sm",a5.trans e8.fz,a2,aE,a1,U.skip a9 λe=>absurd (by rw[e]) h1⟩
   obtain⟨gs,ms,us,bO,bP,rfl,e7,a5,aD,aC,aG,U⟩:5:=hP;have bK:=U.le;have bL:=U.len;have bT:=Co O.nd U.keep;refine⟨_,?_,gs,ms,us,_,_,_,rfl,e7,aD,aC,aG,WyJ.done O U,rfl⟩;rw[BO];omega
 have hn:ws=[]:=by
  cases ws with
  |nil=>rfl
  |cons _ _=>simp at hE
 subst hn;symm;refine UL aB ?_;symm;refine TV aB ?_
 by_cases hy:y∈ks
 . obtain⟨iy,b0,b5⟩:=ED hy;have aR:ks[iy]? = some y:=by rw[BJ b0,b5]
   obtain⟨ty,gty⟩:∃ ty,ts[iy]? = some ty:=⟨ts[iy]'(by rw[aF.1];exact b0),BJ _⟩;obtain⟨js,os,aH,b1,a3,a8⟩:2:=aF.2 iy y ty aR gty;rw[Ew O.nd aR gty];exact k _ Y e5 (.inr ⟨js,os,aH,b1,a3⟩)
 rw[Gb hy];exact k _ Y e5 (.inl ⟨rfl,λe=>hy (e ▸ O.has),λg=>hy (O.all g)⟩)
local macro_rules | `(tactic| walk_at "rq1") => `(tactic| with_reducible first | refine i_tMkX ?_ | refine au5 ?_ | refine i_tFldX ?_ | refine aq7 ?_)
theorem EE {ws:List V}{a:Str}(h:ws.length=[a].length):∃ v,ws=[v]:=by
 cases ws with
 |nil=>cases h
 |cons v r=>
   cases r with
   |nil=>exact⟨v,rfl⟩
   |cons c r=>simp at h
theorem R1 (F:Fun K "__init__" "Clash.__init__" Dd f fd)(T:Dp mg)(a1:Bw K mg C_HalfError C_HalfError)(O:Mz K mg C_Clash C_HalfError):FnOk P w K mg base CX0 1 f fd ["self","way"] (spX C_Clash ["way"]):=by
 refine F.ok Qu (λvs H Q E h=>?_) (λa0 A outer s H vs Q E hr h=>?_)
 . obtain⟨a,ws,rfl,hl,_⟩:2:=h;obtain⟨v,rfl⟩:=EE hl;rfl
 obtain⟨a,ws,rfl,hl,ha,k⟩:2:=h;obtain⟨v,rfl⟩:=EE hl
 with_reducible refine⟨_,(A6 (M8 (K:=K) (pv 0) (pv 1) ⋯)),?_⟩
 symm;refine Vl ha O.xc O.n_way λdx H1 h1 h2 U Y Z=>?_;symm;exact k dx H1 h1 h2 U Y Z
theorem Ol (F:Fun K "__init__" "NoName.__init__" Cp f fd)(T:Dp mg)(a1:Bw K mg C_HalfError C_HalfError)(O:G0 K mg C_NoName C_HalfError):FnOk P w K mg base CX0 1 f fd ["self","name"] (spX C_NoName ["name"]):=by
 refine F.ok Oo (λvs H Q E h=>?_) (λa0 A outer s H vs Q E hr h=>?_)
 . obtain⟨a,ws,rfl,hl,_⟩:2:=h;obtain⟨v,rfl⟩:=EE hl;rfl
 obtain⟨a,ws,rfl,hl,ha,k⟩:2:=h;obtain⟨v,rfl⟩:=EE hl
 with_reducible refine⟨_,(A6 (M8 (K:=K) (pv 0) (pv 1) ⋯)),?_⟩
 symm;refine Vl ha O.xc O.n_name λdx H1 h1 h2 U Y Z=>?_;symm;exact k dx H1 h1 h2 U Y Z
theorem Nx (F:Fun K "__init__" "NoPlace.__init__" Ce f fd)(T:Dp mg)(a1:Bw K mg C_HalfError C_HalfError)(O:K2 K mg C_NoPlace C_HalfError):FnOk P w K mg base CX0 1 f fd ["self","number"] (spX C_NoPlace ["number"]):=by
 refine F.ok Mu (λvs H Q E h=>?_) (λa0 A outer s H vs Q E hr h=>?_)
 . obtain⟨a,ws,rfl,hl,_⟩:2:=h;obtain⟨v,rfl⟩:=EE hl;rfl
 obtain⟨a,ws,rfl,hl,ha,k⟩:2:=h;obtain⟨v,rfl⟩:=EE hl
 with_reducible refine⟨_,(A6 (M8 (K:=K) (pv 0) (pv 1) ⋯)),?_⟩
 symm;refine Vl ha O.xc O.n_number λdx H1 h1 h2 U Y Z=>?_;symm;exact k dx H1 h1 h2 U Y Z
theorem Ni (F:Fun K "__init__" "TooMany.__init__" Cg f fd)(T:Dp mg)(a1:Bw K mg C_HalfError C_HalfError)(O:Ja K mg C_TooMany C_HalfError):FnOk P w K mg base CX0 1 f fd ["self","word"] (spX C_TooMany ["word"]):=by
 refine F.ok Nu (λvs H Q E h=>?_) (λa0 A outer s H vs Q E hr h=>?_)
 . obtain⟨a,ws,rfl,hl,_⟩:2:=h;obtain⟨v,rfl⟩:=EE hl;rfl
 obtain⟨a,ws,rfl,hl,ha,k⟩:2:=h;obtain⟨v,rfl⟩:=EE hl
 with_reducible refine⟨_,(A6 (M8 (K:=K) (pv 0) (pv 1) ⋯)),?_⟩
 symm;refine Vl ha O.xc O.n_word λdx H1 h1 h2 U Y Z=>?_;symm;exact k dx H1 h1 h2 U Y Z
noncomputable def Lg (K:W.Frag):Sp:=λvs H Q _=>∃ v ns,vs=[v]/\(44,ns,v)/\ns.Nodup/\ns.length<=10/\∀ d H',H d=none->(5,H')->H' d=(6,av3 ns)->(D,d)
noncomputable def Gc (K:W.Frag):Sp:=λvs H Q _=>∃ v bd ns ps,vs=[v,.ref bd]/\(15,v)/\Od ns ps/\ns.length<=10/\H bd=(6,av3 ns)/\∀ d H',H d=none->(5,H')->H' d=(6,ahK ns ps)->(D,d)
noncomputable def Ec (C:Addr)(K:W.Frag):Sp:=λvs H Q _=>∃ p v dx ns ps,vs=[.ref p,v]/\H p=(47,C,dx,[])/\(15,v)/\Od ns ps/\ns.length<=10 /\
 ∀ nv bd ad kd H',H kd=none->(h,p)->WaysAt K C H' p dx nv bd ad kd ns ps (knK ns ps [λ_=>false])->Q .non H'
noncomputable def B0 (C:Addr)(K:W.Frag):Sp:=λvs H Q _=>∃ p dx nv bd ad kd ns ps q,vs=[.ref p,.int ((B2 ns q:Nat):Int)]/\WaysB K C H p dx nv bd ad kd ns ps/\Od ns ps/\ns.length<=10 /\
 ∀ l H',H l=none->(5,H')->H' l=(2,(((Z,q)).map V.str))->(D,l)
noncomputable def Ca (C:Addr)(K:W.Frag)(n:Nat):Sp:=λvs H Q _=>∃ p dx nv bd ad kd ns ps qs q,vs=[.ref p,.int ((B2 ns q:Nat):Int)]/\WaysAt K C H p dx nv bd ad kd ns ps (knK ns ps qs)/\Od ns ps/\ns.length<=10/\(ns.filter q).length<n /\
 ∀ qs' H',(h,kd)->WaysAt K C H' p dx nv bd ad kd ns ps (knK ns ps qs')->Gr ns ps qs qs' q->(X,((cnt (Ac ps) (ns.filter q):Nat):Int),H')
noncomputable def Bt (C:Addr)(K:W.Frag):Sp:=Ca C K 11
theorem Hj:∀ vs H Q E,¬ Ca C K 0 vs H Q E:=by rintro vs H Q E ⟨_,_,_,_,_,_,_,_,_,_,_,_,_,_,h,_⟩;exact absurd h (Nat.not_lt_zero _)
noncomputable def Qd (K:W.Frag):Sp:=λvs H Q _=>∃ v ns ps,vs=[v]/\(15,v)/\Od ns ps/\ns.length<=10/\∀ H',(5,H')->(X,((cnt (Ac ps) ns:Nat):Int),H')
theorem OA {ns:AA}(hn:ns.Nodup)(h:ns.length<=10)(O:x∈ns):E3 ns x<=1024:=by obtain⟨j,F⟩:=A1U.mp O;rw[Nz hn F];exact(HC nofun (by have:=(A01.mp F).1;omega):2 ^ j<=2 ^ 10)
theorem Fm {f g:Str}{x:V}{r:List (Str×V)}(h:¬ g=f):M3 f v ((g,x) :: r)=(g,x) :: M3 f v r:=by
 show(if g=f then _ else _)=_
 rw[AZ h]
theorem fld2 (a b:V):M3 "bits" b [("names",a)]=([("names",a),("bits",b)]:List (Str×V)):=by rw[Fm 'f'];rfl
theorem fld3 (a b c:V):M3 "ahead" c [("names",a),("bits",b)]=([("names",a),("bits",b),("ahead",c)]:List (Str×V)):=by rw[Fm 'f',Fm 'f'];rfl
theorem fld4 (a b c d:V):M3 "full" d [("names",a),("bits",b),("ahead",c)]=([("names",a),("bits",b),("ahead",c),("full",d)]:List (Str×V)):=by rw[Fm 'f',Fm 'f',Fm 'f'];rfl
theorem fld5 (a b c d e:V):M3 "known" e [("names",a),("bits",b),("ahead",c),("full",d)]=([("names",a),("bits",b),("ahead",c),("full",d),("known",e)]:List (Str×V)):=by rw[Fm 'f',Fm 'f',Fm 'f',Fm 'f'];rfl
theorem Xd (F:(v,"bits_of",Nh))(T:Dp mg):FnOk P w K mg base CX0 1 f fd ["names"] (Lg K):=by
 refine F.ok G1 (λvs H Q E h=>?_) (λa5 A outer s H vs Q E hr h=>?_)
 . obtain⟨v,ns,rfl,_⟩:2:=h;rfl
 obtain⟨v,ns,rfl,hI,hn,a6,k⟩:2:=h;have hu:=Bp hr;have hq:=Bs hr
 with_reducible refine⟨_,((69,G1.nd,⋯,'b',Q1)
  (A3 (27,G1.nd,A4)
  (A3 ((51,BW,pv 0,(128,G1.nd,'b'))
  (A3 (F7 hu (pv 1) (pv 3) (pv 2) ⋯)
  (A6 (27,G1.nd,(F,D3,2,A4)))))
  ((l,pv 1))))),?_⟩
 symm;refine JU λd H1 a3 e1 h1=>?_;symm
 refine Lj (hI.nm_fz e1.fz) (λi σ H2=>∃ Z,σ=[some v,(3,d),(K,((2 ^ i:Nat):Int)),Z]/\(5,H2)/\Fz H1 H2/\H2 d=(6,((ns.take i).map λx=>((Sum.inr x:Key),V.int ((E3 ns x:Nat):Int)))))
  ⟨_,rfl,e1,.refl _,h1⟩ (λi σ' H' O=>O.choose_spec.2.2.1) (λi z σ' H2 hz O=>?_) (fun σ' H2 O=>?_)
 . obtain⟨Z,rfl,Y,a0,h2⟩:1:=O;have a7:i<ns.length:=(A01.mp hz).1;have a8:2 ^ i<=2 ^ 10:=HC nofun ∅
   have a4:z∉ns.take i:=λhm=>by
    obtain⟨j,U⟩:=A1U.mp hm;rw[FL] at U
    split at U
    . rename_i hji;have a1:=A01.mp U;have a2:=A01.mp hz;have:=(CY hn).mp (a1.2.trans a2.2.symm);omega
    cases U
   symm;refine Ix h2 (by rw[BA,CD];omega) λH3 e3 h3=>?_;rw[Kk _ (Hy a4)] at h3;symm;refine⟨(64,z),?_,Y.off a3 e3,a0.trans (e3.fzD h2),?_⟩
   . have:((2 ^ i:Nat):Int)*2=((2 ^ (i+1):Nat):Int):=by rw[Nat.pow_succ];omega
     rw[this];rfl
   rw[h3,CC,hz];have:((2 ^ i:Nat):Int)=((E3 ns z:Nat):Int):=by rw[Nz hn hz]
   rw[this];simp
 obtain⟨Z,rfl,Y,a0,h2⟩:1:=O;rw[CF] at h2;symm;exact k d H2 a3 Y h2
theorem Rh (F:(v,"bits_ahead",Hu))(T:Dp mg)(B1:(o,1,"behind_each",["half"],Cd K)):FnOk P w K mg base CX0 2 f fd ["half","bits"] (Gc K):=by
 refine F.ok Ex (λvs H Q E h=>?_) (λaJ A outer s H vs Q E hr h=>?_)
 . obtain⟨v,bd,ns,ps,rfl,_⟩:4:=h;rfl
 obtain⟨v,bd,ns,ps,rfl,hI,hW,aA,hB,k⟩:4:=h;have hu:=Bp hr;have hq:=Bs hr;have hn:=hW.nd
 with_reducible refine⟨_,(A3 (Aa (i:=2) Ex.nd ⋯ (by with_unfolding_all exact CJ rfl) (14,B1,(hr.mono nofun),(7,0)))
  (A3 (28,Ex.nd,Q1)
  (A3 ((51,BW,(r,0),(102,Ex.nd,(by with_unfolding_all exact CJ rfl)))
  (A6 (F7 hu (pv 3) (pv 4) (Ai (T5 (K:=K) ⋯) ⋯ T.b_sum PyProof.Rows.Boot.«sum» (8,(40,["one"],["bits","name","reach"],[1,4,2],(r,0),(λ_ _ _ _=>((13,(by with_unfolding_all (show(["one","bits","name","reach"]:AA).Nodup;decide +kernel))))),(Be nofun),(λ_ _ _ _=>(Eh (Ak (My (K:=K) hq) (pv 2) (w,3,pv 0) ⋯))),(λ_ _ _ _=>((w,1,pv 0)))))) ⋯)))
  ((l,pv 3))))),?_⟩
 symm;refine⟨v,ns,ps,rfl,hI,hW,λr as H1 aP aK e1 hT=>?_⟩;symm;refine JU λd H2 a8 e2 h2=>?_;symm;have a4:=e1.trans e2;refine Ek (hI.hf_fz a4.fz) λnv hN=>?_
 refine Lj hN (λi σ O=>∃ x4,σ=[some v,(3,bd),(3,r),(3,d),x4]/\Same H1 O/\Fz H2 O/\O d=(6,((ns.take i).map λx=>((Sum.inr x:Key),V.int ((B2 ns (λy=>Ac ps y x):Nat):Int)))))
  ⟨_,rfl,e2,.refl _,h2⟩ (λi σ' H' Z=>Z.choose_spec.2.2.1) (λi z σ' O hz Z=>?_) (fun σ' O Z=>?_)
 . obtain⟨x4,rfl,Y,a0,h3⟩:1:=Z;have aL:i<ns.length:=(A01.mp hz).1
   have aG:z∉ns.take i:=λhm=>by
    obtain⟨j,hj⟩:=A1U.mp hm;rw[FL] at hj
    split at hj
    . rename_i hji;have a1:=A01.mp hj;have a2:=A01.mp hz;have:=(CY hn).mp (a1.2.trans a2.2.symm);omega
    cases hj
   symm;refine Ek (hI.hf_fz (a4.fz.trans a0)) λaQ aB=>?_;refine Rj aB (λy=>Ac ps y z) (λy=>PyData.int ((E3 ns y:Nat):Int)) (λ_=>rfl) ∅ (λj y H4 R R' hy U hR aC=>?_) (λq ys H4 aO U h4 a6=>?_)
   . have a3:=hT.same (Y.trans U);obtain⟨jy,ay,a9,a7⟩:2:=a3.at (BG hy);obtain⟨ks,aD,aM,aN,aE⟩:1:=a3.row jy y ay a9 a7;symm;refine Rn a3 hn a9 a7 ?_;refine Va aD ?_;rw[Kg (aE z)];symm;refine GS (λhb=>?_) (λhb=>?_)
     . symm;refine(58,U _ _ (Y _ _ (e1 _ _ hB)),Ed (BG hy));exact hR hb _ _ (.refl _) rfl
     exact aC hb _ (.refl _)
   have hm:(ns.filter λy=>Ac ps y z).map (λy=>PyData.int ((E3 ns y:Nat):Int))=((ns.filter λy=>Ac ps y z).map λy=>((E3 ns y:Nat):Int)).map PyData.int:=by rw[CG];rfl
   rw[hm] at a6;have aI:=IsL.int_eq a6;subst aI;symm;refine MF (.inl (AJ h4)) (λn aF=>?_) (by rw[BA];exact BI (CM _ _) ∅) ?_
   . obtain⟨y,hy,rfl⟩:1:=A0D.mp aF;have aH:=(A0M.mp hy).1;have:=OA hn aA aH;omega
   rw[Ml,Mj _ hn];symm;have a5:H4 d=some _:=U _ _ h3;refine Ix a5 (by rw[BA,CD];omega) λH5 e5 h5=>?_;rw[Kk _ (Hy aG)] at h5;symm;refine⟨_,rfl,(Y.trans U).off a8 e5,(a0.trans U.fz).trans (e5.fzD a5),?_⟩;rw[h5,CC,hz];simp
 obtain⟨x4,rfl,Y,a0,h3⟩:1:=Z;rw[CF] at h3;symm;exact k d O (e1.free a8) (e1.trans Y) h3
theorem S9 (F:Fun K "__init__" "Ways.__init__" Dz f fd)(T:Dp mg)(O:De K C_Ways)(O0:(o,1,"bits_of",["names"],Lg K))(Ic:(o,2,"bits_ahead",["half","bits"],Gc K)):FnOk P w K mg base CX0 3 f fd ["self","half"] (Ec C_Ways K):=by
 refine F.ok S3 (λvs H Q E h=>?_) (λaT A outer s H vs Q E hr h=>?_)
 . obtain⟨p,v,dx,ns,ps,rfl,_⟩:5:=h;rfl
 obtain⟨p,v,dx,ns,ps,rfl,hp,hI,hW,a4,k⟩:5:=h;have hu:=Bp hr;have hq:=Bs hr;have hn:=hW.nd
 with_reducible refine⟨_,(A3 (Z9 (C:=C_Ways) (pv 0) (r,1) O.cl O.n_names ⋯)
  (A3 (Z9 (C:=C_Ways) (pv 0) (14,O0,(hr.mono nofun),(8,(r,1))) O.cl O.n_bits ⋯)
  (A3 (Z9 (C:=C_Ways) (pv 0) (P,Ic,(hr.mono nofun),1,(34,0,O.cl,O.n_bits)) O.cl O.n_ahead ⋯)
  (A3 (Z9 (C:=C_Ways) (pv 0) (Ai (VC ⋯) ⋯ T.b_sum PyProof.Rows.Boot.«sum» (8,Zp (K:=K) GV PySem.F.slot_dict_values PySem.F.type_dict_values (mm YG) (34,0,O.cl,O.n_bits))) O.cl O.n_full ⋯)
  (A6 (Z9 (C:=C_Ways) (pv 0) (Q0 (Go A4 A4 R0) ⋯ ⋯ nofun nofun) O.cl O.n_known ⋯)))))),?_⟩
 symm;refine Ek hI λnv hN=>?_;symm;refine GD hp nofun λH1 e1 h1=>?_;replace h1:H1 p=some (.ins C_Ways dx [("names",nv)]):=h1;have a3:=e1.fzI hp;symm;refine Ek (hI.hf_fz a3) λaS aM=>?_;symm;refine⟨aS,ns,rfl,aM,hn,a4,λbd H2 aO Z h2=>?_⟩;symm;refine GD (Z _ _ h1) (by show 1<1000;decide) λH3 e3 h3=>?_;rw[fld2] at h3;have a7:=e3.fzI (Z _ _ h1);have a0:bd≠p:=(ne_of_none h1 aO).symm;have a9:H3 bd=some (.dK (av3 ns)):=e3 _ _ a0 h2;symm;refine Oc h3 'e' ?_;symm;refine⟨v,bd,ns,ps,rfl,hI.hf_fz ((a3.trans Z.fz).trans a7),hW,a4,a9,λad H4 aN e4 h4=>?_⟩;symm;refine GD (e4 _ _ h3) (by show 2<1000;decide) λH5 e5 h5=>?_;rw[fld3] at h5;have aJ:=e5.fzI (e4 _ _ h3);have a5:ad≠p:=(ne_of_none h3 aN).symm;have aL:H5 ad=some (.dK (ahK ns ps)):=e5 _ _ a5 h4;have a2:H5 bd=some (.dK (av3 ns)):=e5 _ _ a0 (e4 _ _ a9);symm;refine Oc h5 'e' ?_;symm;refine IX a2 ?_;symm;refine TK a2 λv6 H6 aV U h6=>?_;symm
 have aP:∀ n∈ns.map (λx=>((E3 ns x:Nat):Int)),0<=n/\n<=1000000000000:=λn aQ=>by obtain⟨y,hy,rfl⟩:1:=A0D.mp aQ;have:=OA hn a4 hy;omega
 refine VI h6 (U _ _ a2) (ns:=ns.map λx=>((E3 ns x:Nat):Int)) (by unfold av3;rw[List.map_map,List.map_map];rfl) aP (by rw[List.length_map];omega) ?_
 have aR:(ns.map (E3 ns)).sum=B2 ns (λ_=>true):=by have:=Mj (λ_=>true) hn;rwa[show ns.filter (λ_=>true)=ns by simp] at this
 rw[Ml,aR];symm;have aA:=U _ _ h5;refine GD aA (by show 3<1000;decide) λH7 e7 h7=>?_;rw[fld4] at h7;have aK:=e7.fzI aA;symm;refine W8 λkd H8 a1 e8 h8=>?_;symm;refine Qz [(Sum.inl 0,V.int 1)] h8 rfl nofun λH9 e9 h9=>?_;symm;have a6:p≠kd:=ne_of_none h7 a1;have aD:=e9 _ _ a6 (e8 _ _ h7);refine GD aD (by show 4<1000;decide) λaH Y a8=>?_;rw[fld5] at a8;have aI:=Y.fzI aD;symm;have aU:bd≠p:=a0;have aC:=e7 _ _ a0 (U _ _ a2);have aB:=e7 _ _ a5 (U _ _ aL);have aF:bd≠kd:=ne_of_none aC a1;have aE:ad≠kd:=ne_of_none aB a1;have hE:ExtBut p H H7:=((((e1.same Z).trans e3).same e4).trans e5 |>.same U).trans e7
 have aG:H kd=none:=by
  cases c:H kd with
  |none=>rfl
  |some o=>rw[hE _ _ a6.symm c] at a1;cases a1
 rw[LK ns ps] at h9;refine k nv bd ad kd aH aG ?_ ⟨a8,?_,?_,?_,?_,aF,aE,LK ns ps ▸ Knw.new ns ps⟩
 . exact((hE.same e8).off aG e9).trans Y
 . exact hN.nm_fz (((((((a3.trans Z.fz).trans a7).trans e4.fz).trans aJ).trans U.fz).trans aK).trans ((e8.fz.trans (e9.fzD h8)).trans aI))
 . exact Y _ _ a0 (e9 _ _ aF (e8 _ _ aC))
 . exact Y _ _ a5 (e9 _ _ aE (e8 _ _ aB))
 exact Y _ _ a6.symm h9
theorem Kp (F:Fun K "free_names" "Ways.free_names" Bm f fd)(T:Dp mg)(O:De K C_Ways):FnOk P w K mg base CX0 1 f fd ["self","left"] (B0 C_Ways K):=by
 refine F.ok Kt (λvs H Q E h=>?_) (λa4 A outer s H vs Q E hr h=>?_)
 . obtain⟨p,dx,nv,bd,ad,kd,ns,ps,q,rfl,_⟩:9:=h;rfl
 obtain⟨p,dx,nv,bd,ad,kd,ns,ps,q,rfl,Z,hW,a5,k⟩:9:=h;have hu:=Bp hr;have hq:=Bs hr;have hn:=hW.nd
 with_reducible refine⟨_,((l,(40,["name"],["self","left"],[0,1],(34,0,O.cl,O.n_names),(λ_ _ _ _=>((13,(by with_unfolding_all (show(["name","self","left"]:AA).Nodup;decide +kernel))))),(Be nofun),(λ_ _ _ _=>(Eh (PW.pt (Ro (JD (53,Zg,(26,(34,1,O.cl,O.n_bits),pv 0),2)) (N8 (Ln (JD (53,Zg,(26,(34,1,O.cl,O.n_ahead),pv 0),2)))))))),(λ_ _ _ _=>(pv 0))))),?_⟩
 symm;refine Oc Z.ob 'e' ?_;refine Rj Z.nm (λx=>q x && !(ns.any λy=>Ac ps y x&&q y)) PyData.str (λ_=>rfl) ∅ (λj x H1 R R' hx Y hR a2=>?_) (λl ys H1 a3 Y h1 a1=>?_)
 . have U:=Z.same Y;have a0:=BG hx;symm;refine Oc U.ob (by rfl) ?_;symm;refine(58,U.bt,Ed a0);symm;rw[OC hn a0];refine GS (λhb=>?_) (λhb=>?_)
   . symm;refine Oc U.ob (by rfl) ?_;symm;refine(58,U.ah,Ed a0);symm;rw[LF];symm;refine T2 (λhc=>?_) (λhc=>?_)
     . symm;exact hR (by rw[hb,hc];rfl) _ _ (.refl _) Bf
     exact a2 (by rw[hb,hc];rfl) _ (.refl _)
   exact a2 (by rw[hb];rfl) _ (.refl _)
 rw[WW] at a1;have:=AX a1;subst this;symm;exact k l H1 a3 Y h1
theorem M6 (F:Fun K "ways_on" "Ways.ways_on" By f fd)(T:Dp mg)(Y:De K C_Ways)(Af:Mtd P w K mg base 1 C_Ways "free_names" ["self","left"] (B0 C_Ways K))(n:Nat)(Al:Mtd P w K mg base (2+n) C_Ways "ways_on" ["self","left"] (Ca C_Ways K n)):FnOk P w K mg base CX0 (2+n+1) f fd ["self","left"] (Ca C_Ways K (n+1)):=by
 refine F.ok O6 (λvs H Q E h=>?_) (λaK A outer s H vs Q E hr h=>?_)
 . obtain⟨p,dx,nv,bd,ad,kd,ns,ps,qs,q,rfl,_⟩:10:=h;rfl
 obtain⟨p,dx,nv,bd,ad,kd,ns,ps,qs,q,rfl,O,hW,a4,aR,k⟩:10:=h;have hu:=Bp hr;have hq:=Bs hr;have hn:=hW.nd;have aN:=O.ok.len a4;have a3:(ns.filter q).Nodup:=EG EF hn;have aL:(ns.filter q).length<=ns.length:=CM _ _
 with_reducible refine⟨_,((11,Ak (F2 (K:=K) hq) (pv 1) (34,0,Y.cl,Y.n_known) ⋯,A6 (F7 hu (34,0,Y.cl,Y.n_known) (pv 1) (Ai (T5 (K:=K) ⋯) ⋯ T.b_sum PyProof.Rows.Boot.«sum» (8,(40,["name"],["self","left"],[0,1],(104,0,Y.cl,Af,hr.mono ∅,(7,1)),(λ_ _ _ _=>((13,(by with_unfolding_all (show(["name","self","left"]:AA).Nodup;decide +kernel))))),(Be nofun),(λ_ _ _ _=>Df),(λ_ _ _ _=>((104,1,Y.cl,Al,hr.mono ∅,(8,(F,Hh,2,(26,(34,1,Y.cl,Y.n_bits),pv 0))))))))) ⋯))
  ((l,(26,(34,0,Y.cl,Y.n_known),pv 1)))),?_⟩
 symm;refine Oc O.ob 'e' ?_;refine RV O.kn ?_;symm
 cases hv:Cr (knK ns ps qs) (Sum.inl ((B2 ns q:Nat):Int):Key) with
 |some v=>have:=O.ok.get hv;subst this;refine iteF ?_;symm;refine Oc O.ob 'e' ?_;symm;refine Wi O.kn hv ?_;exact k qs H .refl O ⟨[],by simp,trivial,λM hM=>(by cases hM),OB hv⟩
 |none=>
   have aD:ns.filter q≠[]:=λe=>by
    have h0:B2 ns q=0:=binM_zero.mpr λx Z=>by
     cases c:q x with
     |false=>rfl
     |true=>
       have:x∈ns.filter q:=A0M.mpr ⟨Z,c⟩;rw[e] at this
       cases this
    rw[h0] at hv;rw[show((0:Nat):Int)=0 from rfl,O.ok.2.2] at hv
    cases hv
   refine iteT ?_;symm;refine DS O.ob 'e' ?_;symm;refine⟨p,dx,nv,bd,ad,kd,ns,ps,q,rfl,O.b,hW,a4,λl H1 aP e1 h1=>?_⟩;have a7:=O.same e1;refine Jk (AJ h1) ?_
   refine Hi (Bq (xs:=((Z,q)).map V.str)) (λpl i acc H2=>∃ qs2,ExtBut kd H1 H2/\WaysAt K C_Ways H2 p dx nv bd ad kd ns ps (knK ns ps qs2)/\GrC ns ps qs qs2 (ns.filter q) i/\acc=(((Z,q)).take i).map λx=>V.int ((cnt (Ac ps) ((41,q,x)):Nat):Int))
    (λpl H' aS e' h'=>⟨qs,e'.but,a7.same e',.zero ..,rfl⟩) (λpl i acc H2 hP=>?_) (λpl i x acc H2 a8 Z hi hl a1 hP=>?_) (λpl acc H2 a8 a1 aM hP=>?_)
   . obtain⟨qs2,e2,_⟩:1:=hP;exact AJ (e2 _ _ (52,h1,a7.kn) h1)
   . obtain ⟨qs2,e2,U,a2,rfl⟩:1:=hP;rw[BK] at Z
     cases hz:((Z,q))[i]? with
     |none=>rw[hz] at Z;cases Z
     |some z=>
       rw[hz] at Z
       cases Z;have aI:=BG hz;have a5:=(mem_frF.mp aI).1;have a9:=(A0M.mp a5).1;have aG:=(A0M.mp a5).2;have aT:=O7 hn a9 aG;have aQ:=Ba a3 a5;symm;refine DS U.ob 'e' ?_;symm;refine Oc U.ob 'e' ?_;symm;refine(58,U.bt,Ed a9);symm;have aH:((B2 ns q:Nat):Int)-((E3 ns z:Nat):Int)=((B2 ns (λy=>q y && !decide (y=z)):Nat):Int):=by omega
       rw[aH];refine⟨p,dx,nv,bd,ad,kd,ns,ps,qs2,_,rfl,U,hW,a4,by rw[B7];omega,λaJ H3 e3 a0 aA=>?_⟩;rw[B7];have aF:pl≠kd:=(52,a1,U.kn);have a6:=e3 _ _ aF a1;refine Lw (by rw[BA];exact BI (CM _ _) ∅) hi hl a6 λH4 e4 h4=>?_;refine⟨aJ,?_,a0.list e4 a6,a2.step a3 hz (B7 ..) aA,?_⟩
       . exact(e2.trans e3).off a8 e4
       rw[CC,hz];simp
   obtain⟨qs2,e2,U,a2,rfl⟩:1:=hP;rw[BA,CF] at a1;have aB:((Z,q)).map (λx=>V.int ((cnt (Ac ps) ((41,q,x)):Nat):Int))=(((Z,q)).map λx=>((cnt (Ac ps) ((41,q,x)):Nat):Int)).map V.int:=by rw[CG];rfl
   rw[aB] at a1;symm;refine MF (.inl (AJ a1)) (λn' aC=>?_) (by rw[BA];exact BI (CM _ _) ∅) ?_
   . obtain⟨y,hy,rfl⟩:1:=A0D.mp aC;have:=Ba a3 (mem_frF.mp hy).1;have:=XE (b:=Ac ps) (B6 a3 y) ∅;omega
   rw[Ml,<- Ki a3 aD];symm;refine Oc U.ob 'e' ?_;symm;have aO:=U.ok.len a4;refine NI U.kn ∅ λH3 e3 h3=>?_;have aE:=a2.no (λz=>by rw[Vs z] at hv;cases hv);have a0:=U.put e3 h3 (U.ok.put q);rw[OK aE] at a0;symm;refine Oc a0.ob 'e' ?_;symm;refine Wi a0.kn (Vs (by rw[Cj];simp[Bu])) ?_;rw[BA] at a2;exact k _ H3 (((e1.but (d:=kd)).trans e2).trans e3) a0 a2.close
theorem Mr (F:Fun K "ways_on" "Ways.ways_on" By f fd)(T:Dp mg)(O:De K C_Ways)(Af:Mtd P w K mg base 1 C_Ways "free_names" ["self","left"] (B0 C_Ways K))(hm:IK K C_Ways "ways_on" f)(hb:(37,K,["self","left"],[])):FnOk P w K mg base CX0 13 f fd ["self","left"] (Bt C_Ways K):=by
 have h:∀ n:Nat,FnOk P w K mg base CX0 (2+n) f fd ["self","left"] (Ca C_Ways K n):=λn=>by
  induction n with
  |zero=>exact FnOk.void Hj
  |succ n ih=>exact M6 F T O Af n ⟨f,fd,ih,hm,hb⟩
 exact h 11
theorem WT (F:(v,"count",V0))(T:Dp mg)(Z:De K C_Ways)(C8:Mkd P w K mg base 3 C_Ways "Ways" ["self","half"] (Ec C_Ways K))(Al:Mtd P w K mg base 13 C_Ways "ways_on" ["self","left"] (Bt C_Ways K)):FnOk P w K mg base CX0 14 f fd ["half"] (Qd K):=by
 refine F.ok Wp (λvs H Q E h=>?_) (λa4 A outer s H vs Q E O h=>?_)
 . obtain⟨v,ns,ps,rfl,_⟩:3:=h;rfl
 obtain⟨v,ns,ps,rfl,hI,hW,a0,k⟩:3:=h;have hu:=Bp O;have hq:=Bs O
 with_reducible refine⟨_,((69,Wp.nd,⋯,'b',JN C8 (O.mono nofun) ⋯ (7,0))
  ((l,(104,1,Z.cl,Al,(O.mono nofun),(8,(34,1,Z.cl,Z.n_full)))))),?_⟩
 symm;refine JG λp dx H1 a3 U h1=>?_;refine⟨p,v,dx,ns,ps,rfl,h1,hI.hf_fz U.fz,hW,a0,λnv bd ad kd H2 a2 e2 Y=>⟨rfl,?_⟩⟩;symm;refine DS Y.ob 'e' ?_;symm;refine Oc Y.ob 'e' ?_;symm;have a1:ns.filter (λ_=>true)=ns:=by simp
 refine⟨p,dx,nv,bd,ad,kd,ns,ps,_,λ_=>true,rfl,Y,hW,a0,by rw[a1];omega,λa6 H3 e3 a5 _=>?_⟩;rw[a1];exact k H3 ((U.off a3 e2).off (U.free a2) e3)
noncomputable def L3 (K:W.Frag):Sp:=λvs H Q _=>∃ nv pv ns ps,vs=[nv,pv]/\(44,ns,nv)/\(9,psD ps,pv)/\(E,ps)/\∀ u H',(5,H')->(Y,hfD ns (baP ns ps),u)->Q u H'
noncomputable def Qo (K:W.Frag):Sp:=λvs H Q _=>∃ v x y ns ps,vs=[v,.str x,.str y]/\(15,v)/\(E,ps)/\ps.length<=90/\x∈ns/\y∈ns/\x≠y/\¬ Way ps y x/\∀ u H',(5,H')->(Y,hfD ns (baP ns (ps++[(x,y)])),u)->Q u H'
theorem X2 (F:(v,"thinned",Mo))(T:Dp mg)(a0:(o,3,"bare",["half"],V8 K)):FnOk P w K mg base CX0 4 f fd ["names","sayings"] (L3 K):=by
 refine F.ok Xv (λvs H Q E h=>?_) (λa2 A outer s H vs Q E Y h=>?_)
 . obtain⟨nv,sv,ns,ps,rfl,_⟩:4:=h;rfl
 obtain⟨nv,sv,ns,ps,rfl,hN,hP,hW,k⟩:4:=h;have hu:=Bp Y;have hq:=Bs Y
 with_reducible refine⟨_,((l,Ay (54,0,(14,a0,(Y.mono nofun),(8,Ay (39,0,1)))))),?_⟩
 symm;refine Aw (A9 'c') λt1 H1 a3 O h1=>?_;symm;refine⟨.ref t1,ns,ps,rfl,HG (AK h1) (hN.nm_fz O.fz) (hP.ps_fz O.fz),hW,λu2 H2 Z a1=>?_⟩;symm;refine Aw (A9 'c') λt3 H3 a4 U h3=>?_;exact k _ H3 ((O.trans Z).trans U) (HG (AK h3) (hN.nm_fz ((O.trans Z).trans U).fz) (a1.ps_fz U.fz))
theorem XB (F:(v,"said",a55))(T:Dp mg)(Dn:(o,1,"refuse_strangers",["half","asked"],D6 K))(Eg:(o,1,"way_by_sayings",["sayings","start","goal"],Dv K))(Nf:(o,4,"thinned",["names","sayings"],L3 K)):FnOk P w K mg base CX0 5 f fd ["half","name","other"] (Qo K):=by
 refine F.ok a26 (λvs H Q E h=>?_) (λaD A outer s H vs Q E O h=>?_)
 . obtain⟨v,x,y,ns,ps,rfl,_⟩:5:=h;rfl
 obtain⟨v,x,y,ns,ps,rfl,Z,hW,hl,hx,hy,a2,a3,k⟩:5:=h;have hu:=Bp O;have hq:=Bs O
 with_reducible refine⟨_,(A3 (Cs (P,Dn,(O.mono nofun),0,Ay (39,1,2)))
  (A3 (28,a26.nd,(14,Eg,(O.mono nofun),A1 (r,0) (39,2,1)))
  ((11,(21,Yo,pv 3,Tl,_),A6 M9)
  ((l,(14,Nf,(O.mono nofun),(22,(r,0),Am (Aj (K:=K)) (r,0) (Ay (8,Ay (39,1,2)))))))))),?_⟩
 symm;refine Aw (A9 'c') λt1 H1 aE e1 h1=>?_;symm;refine⟨v,.ref t1,ns,ps,[x,y],rfl,Z.hf_fz e1.fz,Mp (AK h1),WH hx hy,?_⟩;symm;refine T9 (Z.hf_fz e1.fz) λaC a4=>?_;symm;refine⟨aC,y,x,ps,rfl,a4,by omega,λu2 H2 e2 a8=>?_⟩
 have aA:u2 = .non:=by
  rcases a8 with ⟨h,_⟩|⟨js,os,_,_,aB⟩
  . exact h
  rcases aB.way with h|h
  . exact absurd h.symm a2
  exact absurd h a3
 subst aA;have a0:=e1.trans e2;symm;refine Ek (Z.hf_fz a0.fz) λnv hN=>?_;symm;refine T9 (Z.hf_fz a0.fz) λpv hP=>?_;symm;refine Aw (A9 'c') λt3 H3 aF e3 h3=>?_;symm;refine Aw (A9 'c') λt4 H4 aG U h4=>?_;have a5:=hP.ps_fz (e3.trans U).fz;obtain⟨pa,xs,rfl,a7,a1⟩:2:=AS a5;have aH:ps.length=xs.length:=by rw[<- AL a1,BA]
 refine K6 a7 (SqT.of h4) (A9 (by simp;omega)) λp5 H5 Y h5=>?_
 have a6:Is K H5 (psD (ps++[(x,y)])) (.ref p5):=by refine AN h5 ?_;rw[BU];exact AW (AQ Y _ _ a1) (.one ((Rt (AK (U _ _ h3))).pr_fz Y.fz))
 symm;refine⟨nv,.ref p5,ns,ps++[(x,y)],rfl,hN.nm_fz ((e3.trans U).trans Y).fz,a6,hW.said hx hy a2 a3 ∅,λu6 H6 e6 a9=>?_⟩;exact k u6 H6 (((a0.trans e3).trans (U.trans Y)).trans e6) a9
noncomputable def Ea (C:Addr)(K:W.Frag)(n:Nat):Sp:=λvs H Q _=>∃ p dx nv bd ad kd ns ps kvs q,∃ m:Nat,∃ r:AA,vs=[.ref p,.int ((B2 ns q:Nat):Int),.int (m:Int)]/\WaysAt K C H p dx nv bd ad kd ns ps (knK ns ps kvs)/\(E,ps)/\ns.length<=10/\(ns.filter q).length<n/\(ext (Ac ps) (ns.filter q).length (ns.filter q))[m]? = some r /\
 ∀ u kvs' H',(h,kd)->WaysAt K C H' p dx nv bd ad kd ns ps (knK ns ps kvs')->(Y,nmD r,u)->Q u H'
noncomputable def Jz (C:Addr)(K:W.Frag):Sp:=Ea C K 11
theorem Kz:∀ vs H Q E,¬ Ea C K 0 vs H Q E:=by rintro vs H Q E ⟨_,_,_,_,_,_,_,_,_,_,_,_,_,_,_,_,h,_⟩;exact absurd h (Nat.not_lt_zero _)
noncomputable def Ge (K:W.Frag):Sp:=λvs H Q _=>∃ v ns ps,∃ m:Nat,∃ r:AA,vs=[v,.int (m:Int)]/\(15,v)/\(E,ps)/\ns.length<=10/\(ext (Ac ps) ns.length ns)[m]? = some r/\∀ u H',(5,H')->(Y,nmD r,u)->Q u H'
theorem Tg (F:(v,"order_on",Ij))(T:Dp mg)(a1:De K C_Ways)(Af:Mtd P w K mg base 1 C_Ways "free_names" ["self","left"] (B0 C_Ways K))(Al:Mtd P w K mg base 13 C_Ways "ways_on" ["self","left"] (Bt C_Ways K))(n:Nat)(Ft:(o,(14+n),"order_on",["ways","left","number"],Ea C_Ways K n)):FnOk P w K mg base CX0 (14+n+1) f fd ["ways","left","number"] (Ea C_Ways K (n+1)):=by
 refine F.ok Ey (λvs H Q E h=>?_) (λb0 A outer s H vs Q E U h=>?_)
 . obtain⟨p,dx,nv,bd,ad,kd,ns,ps,kvs,q,m,r,rfl,_⟩:12:=h;rfl
 obtain⟨p,dx,nv,bd,ad,kd,ns,ps,kvs,q,m,r,rfl,Z,hW,a2,b3,a4,k⟩:12:=h;have hu:=Bp U;have hq:=Bs U;have aD:=hW.nd;have aB:(ns.filter q).Nodup:=aD.filter _
 with_reducible refine⟨_,((11,(50,hq,pv 1,A4,Ax _),(l,Ay A2))
  (A3 (28,Ey.nd,pv 2)
  (A6 ((51,BW,(104,0,a1.cl,Af,U.mono ∅,(7,1)),(102,Ey.nd,'b'))
  ((100,Ey.nd,⋯,'b',(F,Hh,1,(26,(34,0,a1.cl,a1.n_bits),pv 4)))
  ((11,(21,Sa,pv 3,(104,0,a1.cl,Al,U.mono ∅,(7,5)),_),(l,Am (Aj (K:=K)) (Ay (7,4)) (10,Ft,U.mono ∅,0,(39,5,3))))
  (A6 (28,Ey.nd,(F,Hh,3,(104,0,a1.cl,Al,U.mono ∅,(7,5))))))))))),?_⟩
 symm;refine Iy (λhz=>?_) (λhz=>?_)
 . have aP:B2 ns q=0:=by injection hz with hz;omega
   have aS:ns.filter q=[]:=A58.mpr λx O=>by rw[binM_zero.mp aP x O];decide
   rw[aS] at a4
   have aU:r=[]:=by have:=BG a4;simpa[ext] using this
   subst aU;symm;refine Aw nofun λt1 H1 b6 e1 h1=>?_;exact k _ kvs H1 (by walk_at "fr") (Z.same e1) (Mp (ns:=[]) (AK h1))
 have aE:ns.filter q≠[]:=λe=>hz (by
  have:B2 ns q=0:=binM_zero.mpr λx O=>by
   cases c:q x with
   |false=>rfl
   |true=>
     have:x∈ns.filter q:=A0M.mpr ⟨O,c⟩;rw[e] at this
     cases this
  rw[this];rfl)
 symm;refine DS Z.ob 'e' ?_;symm;refine⟨p,dx,nv,bd,ad,kd,ns,ps,q,rfl,Z.b,hW.c,a2,λl2 H2 aR e2 h2=>?_⟩;refine Jk (AJ h2) ?_;have aC:l2≠kd:=Ne.symm (ne_of_none Z.kn aR)
 refine Dq (Bq (xs:=((Z,q)).map V.str)) (λi σ Y=>∃ x4 x5 a6,σ=[(3,p),(K,((B2 ns q:Nat):Int)),(K,(m:Int)),(K,((m-((129,Ac ps,q,(((Z,q)).take i))).length:Nat):Int)),x4,x5]/\((129,Ac ps,q,(((Z,q)).take i))).length<=m/\ExtBut kd H Y/\WaysAt K C_Ways Y p dx nv bd ad kd ns ps (knK ns ps a6)/\Y l2=(2,(((Z,q)).map V.str)))
  ⟨_,_,kvs,rfl,DJ _,by walk_at "fr",Z.same e2,h2⟩ (λi σ' H' hP=>?_) (λi x σ' Y O hi hP=>?_) (fun σ' Y hP=>?_)
 . obtain⟨_,_,_,_,_,_,_,h⟩:3:=hP;exact AJ h
 . obtain ⟨x4,x5,a6,rfl,a8,e3,a0,aA⟩:3:=hP;rw[BK] at O
   cases hz':((Z,q))[i]? with
   |none=>rw[hz'] at O;cases O
   |some z=>
     rw[hz'] at O
     cases O;have aX:=BG hz';have a9:=(mem_frF.mp aX).1;have aH:=(A0M.mp a9).1;have aT:=(A0M.mp a9).2;have b5:=O7 aD aH aT;have b2:=Ba aB a9;have b1:=CM q ns;have a7:((41,q,z)).length=(ns.filter q).length-1:=by omega
     have aW:((B2 ns q:Nat):Int)-((E3 ns z:Nat):Int)=((B2 ns (λy=>q y && !decide (y=z)):Nat):Int):=by omega
     have aQ:cnt (Ac ps) (41,q,z)=(ext (Ac ps) ((ns.filter q).length-1) ((41,q,z))).length:=by show(ext (Ac ps) ((41,q,z)).length (41,q,z)).length=_;rw[a7]
     have aF:((129,Ac ps,q,(((Z,q)).take (i+1)))).length=((129,Ac ps,q,(((Z,q)).take i))).length+cnt (Ac ps) ((41,q,z)):=by rw[CC,hz'];show((129,Ac ps,q,(((Z,q)).take i++[z]))).length=_;rw[YT,BL,BA,aQ]
     symm;refine Oc a0.ob 'e' ?_;symm;refine(58,a0.bt,Ed aH);symm;rw[aW];refine DS a0.ob 'e' ?_;symm;refine⟨p,dx,nv,bd,ad,kd,ns,ps,a6,_,rfl,a0,hW.c,a2,by rw[B7];omega,λaI H4 e4 a3 _=>?_⟩;rw[B7];have aJ:=e4 _ _ aC aA;symm;refine Iy (λhc=>?_) (λhc=>?_)
     . obtain⟨r',hr'⟩:∃ r',(ext (Ac ps) ((ns.filter q).length-1) ((41,q,z)))[m-((129,Ac ps,q,(((Z,q)).take i))).length]? = some r':=⟨_,BJ ∅⟩;have a5:=UC aE hz' a8 hr';rw[a4] at a5;have a5:=BR a5;subst a5;symm;refine Aw (A9 (by simp)) λt5 H5 aG e5 h5=>?_;symm;refine⟨p,dx,nv,bd,ad,kd,ns,ps,aI,_,_,r',rfl,a3.same e5,hW,a2,by rw[B7];omega,by rw[B7,a7];exact hr',λu6 aZ H6 e6 aM aN=>?_⟩;obtain⟨ua,rfl,aO⟩:1:=aN.nm
       have b4:r'.length<=10:=by obtain⟨hp,_⟩:=(C3 _ _ _ _ (B6 aB z) a7).mp (BG hr');have:=hp.length_eq;omega
       have aK:H6 t5=some (.tup [V.str z]):=e6 _ _ (λe=>by subst e;rw[a3.kn] at aG;cases aG) h5;refine K6 (SqT.of aK) aO (A9 (by rw[List.length_map];simp;omega)) λp7 H7 e7 h7=>?_;exact k _ aZ H7 (by walk_at "fr") (aM.same e7) (Mp h7)
     symm;refine DS a3.ob 'e' ?_;symm;refine⟨p,dx,nv,bd,ad,kd,ns,ps,aI,_,rfl,a3,hW.c,a2,by rw[B7];omega,λaY H5 e5 aL _=>?_⟩;rw[B7];symm;have aV:((m-((129,Ac ps,q,(((Z,q)).take i))).length:Nat):Int)-((cnt (Ac ps) ((41,q,z)):Nat):Int)=((m-((129,Ac ps,q,(((Z,q)).take (i+1)))).length:Nat):Int):=by rw[aF];omega
     refine⟨(64,z),(K,((B2 ns (λy=>q y && !decide (y=z)):Nat):Int)),aY,by rw[<- aV];rfl,by rw[aF];omega,by walk_at "fr",aL,e5 _ _ aC aJ⟩
 obtain⟨x4,x5,a6,rfl,a8,e3,a0,aA⟩:3:=hP;rw[BA,CF,Wd _ aE] at a8;exact absurd (A01.mp a4).1 ∅
theorem Ux (F:(v,"order_on",Ij))(T:Dp mg)(U:De K C_Ways)(Af:Mtd P w K mg base 1 C_Ways "free_names" ["self","left"] (B0 C_Ways K))(Al:Mtd P w K mg base 13 C_Ways "ways_on" ["self","left"] (Bt C_Ways K))(hm:mg "order_on" = (3,f))(O:(V,K,f)=true)(hb:(37,K,["ways","left","number"],[])):FnOk P w K mg base CX0 25 f fd ["ways","left","number"] (Jz C_Ways K):=by
 have h:∀ n:Nat,FnOk P w K mg base CX0 (14+n) f fd ["ways","left","number"] (Ea C_Ways K n):=λn=>by
  induction n with
  |zero=>exact FnOk.void Kz
  |succ n ih=>exact Tg F T U Af Al n ⟨f,fd,ih,hm,O,hb⟩
 exact h 11
theorem U9 (F:(v,"order_of",Kw))(T:Dp mg)(U:De K C_Ways)(Ft:(o,25,"order_on",["ways","left","number"],Jz C_Ways K))(C8:Mkd P w K mg base 3 C_Ways "Ways" ["self","half"] (Ec C_Ways K))(Al:Mtd P w K mg base 13 C_Ways "ways_on" ["self","left"] (Bt C_Ways K)):FnOk P w K mg base CX0 26 f fd ["half","number"] (Ge K):=by
 refine F.ok Nw (λvs H Q E h=>?_) (λa8 A outer s H vs Q E O h=>?_)
 . obtain⟨v,ns,ps,m,r,rfl,_⟩:5:=h;rfl
 obtain⟨v,ns,ps,m,r,rfl,hI,hW,a0,a3,k⟩:5:=h;have hu:=Bp O;have hq:=Bs O;have Z:ns.filter (λ_=>true)=ns:=by simp
 have aA:m<cnt (Ac ps) ns:=(A01.mp a3).1
 with_reducible refine⟨_,(A3 (27,Nw.nd,JN C8 (O.mono nofun) ⋯ (7,0))
  ((11,PW.pt (Xh (21,Sa,pv 1,A4,_) (Wh (21,PM,pv 1,(104,2,U.cl,Al,(O.mono nofun),(8,(34,2,U.cl,U.n_full))),_))),A6 M9)
  ((l,(10,Ft,(O.mono nofun),2,A1 (34,2,U.cl,U.n_full) (7,1)))))),?_⟩
 symm;refine JG λp dx H1 a7 Y h1=>?_;refine⟨p,v,dx,ns,ps,rfl,h1,hI.hf_fz Y.fz,hW.c,a0,λnv bd ad kd H2 a4 e2 hA=>⟨rfl,?_⟩⟩;symm;refine Iy (λa1=>absurd a1 ∅) (λ_=>?_);symm;refine DS hA.ob 'e' ?_;symm;refine Oc hA.ob 'e' ?_;symm;refine⟨p,dx,nv,bd,ad,kd,ns,ps,_,λ_=>true,rfl,hA,hW.c,a0,by rw[Z];omega,λkvs' H3 e3 a2 _=>?_⟩;rw[Z];symm;refine Iy (λa1=>absurd a1 ∅) (λ_=>?_);symm;refine Oc a2.ob 'e' ?_;symm;refine⟨p,dx,nv,bd,ad,kd,ns,ps,kvs',λ_=>true,m,r,rfl,a2,hW,a0,by rw[Z];omega,by rw[Z];exact a3,λu aB H4 e4 a9 a6=>?_⟩;have a5:Same H H3:=(Y.off a7 e2).off (Y.free a4) e3;exact k u H4 (a5.off (Y.free a4) e4) a6
noncomputable def Gf (C:Addr)(K:W.Frag):Sp:=λvs H Q _=>∃ p dx nv bd ad kd ns ps qs,vs=[.ref p]/\WaysAt K C H p dx nv bd ad kd ns ps (knK ns ps qs)/\Od ns ps/\ns.length<=10/\Gr ns ps [λ_=>false] qs (λ_=>true) /\
 ∀ d ct H',H d=none->(5,H')->H' d=(6,Gy ns ct)->Qb ns ct->CmI ns ps (Bu ns qs) (Bu ns qs) ct->(D,d)
theorem Qw (F:(v,"comings_of",Hz))(T:Dp mg)(a1:De K C_Ways)(Af:Mtd P w K mg base 1 C_Ways "free_names" ["self","left"] (B0 C_Ways K)):FnOk P w K mg base CX0 2 f fd ["ways"] (Gf C_Ways K):=by
 refine F.ok Dl (λvs H Q E h=>?_) (λb0 A outer s H vs Q E hr h=>?_)
 . obtain⟨p,dx,nv,bd,ad,kd,ns,ps,qs,rfl,_⟩:9:=h;rfl
 obtain⟨p,dx,nv,bd,ad,kd,ns,ps,qs,rfl,hA,hW,aA,hG,k⟩:9:=h;have hu:=Bp hr;have hq:=Bs hr;have hn:=hW.nd;have hnd:=hA.ok.tt;have b1:=hA.ok.len aA
 have aR:ns∈Bu ns qs:=by obtain⟨new,_,_,_,h⟩:1:=hG;rwa[show ns.filter (λ_=>true)=ns by simp] at h
 with_reducible refine⟨_,((69,Dl.nd,⋯,'b',(Q0 (Go (34,0,a1.cl,a1.n_full) A4 R0) ⋯ ⋯ nofun nofun))
  (A3 (C4 BW ⋯ (WK (K:=K) ⋯ T.b_reversed (8,Az (Pc ⋯) ⋯ T.b_list PyProof.Rows.Boot.«list» (8,(34,0,a1.cl,a1.n_known)))) (Ae (i:=2) Dl.nd ⋯ 'b')
  (A6 ((51,BW,(104,0,a1.cl,Af,(hr.mono nofun),(7,2)),(128,Dl.nd,'b'))
  (A3 (75,Dl.nd,'b',(F,Hh,2,(26,(34,0,a1.cl,a1.n_bits),pv 3)))
  (A6 (F7 hu (pv 1) (pv 4) (Am (Aj (K:=K)) (TM hu (pv 1) (pv 4) A4 (by with_unfolding_all exact⟨rfl,rfl,rfl,rfl⟩)) (w,1,pv 2)) ⋯))))))
  ((l,pv 1)))),?_⟩
 symm;refine W8 λd H1 a3 e1 h1=>?_;have aN:=hA.same e1;symm;refine Oc aN.ob 'e' ?_;symm;refine Qz [(Sum.inl ((B2 ns (λ_=>true):Nat):Int),V.int 1)] h1 rfl (by show 1<=15;decide) λH2 e2 h2=>?_;have aF:Same H H2:=e1.off a3 e2;have aC:=hA.same aF;symm;refine ZW ?_;symm;refine Oc aC.ob 'e' ?_;symm;refine Yc aC.kn ∅ λl H3 aV e3 h3=>?_
 have hl:((knK ns ps qs).map λkv=>kV kv.1)=qs.map λq=>V.int ((B2 ns q:Nat):Int):=by unfold knK;rw[CG];rfl
 rw[hl] at h3;symm;refine UE (AJ h3) ?_;have aT:bd≠d:=ne_of_none hA.bt a3;have aS:ad≠d:=ne_of_none hA.ah a3;have aU:p≠d:=ne_of_none hA.ob a3;have aY:l≠d:=(ne_of_none h2 aV).symm
 refine Dq Yr (λi σ Y=>∃ x2 x3 x4 ct,σ=[(3,p),(3,d),x2,x3,x4]/\(5,Y)/\Y l=(2,(qs.map λq=>V.int ((B2 ns q:Nat):Int)))/\WaysB K C_Ways Y p dx nv bd ad kd ns ps/\Y d=(6,Gy ns ct)/\Qb ns ct/\CmI ns ps (Bu ns qs) ((Bu ns qs).reverse.take i).reverse ct)
  ⟨_,_,_,[(λ_=>true,1)],rfl,aF.trans e3,h3,(aC.same e3).b,e3 _ _ h2,by unfold Qb Gy;simp,by rw[List.take_zero,List.reverse_nil];exact .start aR⟩ (λi σ' H' O=>?_) (λi x σ' Y U hi O=>?_) (fun σ' Y O=>?_)
 . obtain⟨_,_,_,_,_,_,h,_⟩:4:=O;exact AJ h
 . obtain ⟨x2,x3,x4,ct1,rfl,e4,aG,a9,a8,aD,a2⟩:4:=O;rw[<- List.map_reverse,BK] at U
   cases he:qs.reverse[i]? with
   |none=>rw[he] at U;cases U
   |some e=>
     rw[he] at U
     cases U
     have hM:(Bu ns qs).reverse[i]? = some (ns.filter e):=by unfold Bu;rw[<- List.map_reverse,BK,he];rfl
     obtain⟨A0,aJ⟩:=YF hM;have aI:=NE hG aJ;have aO:(ns.filter e).Nodup:=EG EF hn;symm;refine DS a9.ob 'e' ?_;symm;refine⟨p,dx,nv,bd,ad,kd,ns,ps,e,rfl,a9,hW,aA,λl5 H5 aW e5 h5=>?_⟩;refine Jk (AJ h5) ?_;have aX:l5≠d:=(ne_of_none a8 aW).symm
     refine Dq (Bq (xs:=((Z,e)).map V.str)) (λm σ Z=>∃ y3 y4 ct2,σ=[(3,p),(3,d),(K,((B2 ns e:Nat):Int)),y3,y4]/\(5,Z)/\Z l=(2,(qs.map λq=>V.int ((B2 ns q:Nat):Int)))/\Z l5=(2,(((Z,e)).map V.str))/\WaysB K C_Ways Z p dx nv bd ad kd ns ps/\Z d=(6,Gy ns ct2)/\Qb ns ct2/\CmJ ns ps (ns.filter e) m ct1 ct2)
      ⟨_,_,ct1,rfl,e4.trans e5,e5 _ _ aG,h5,a9.same e5,e5 _ _ a8,aD,.zero ..⟩ (λm σ' H' O=>?_) (λm x6 σ' Z a7 hm O=>?_) (fun σ' Z O=>?_)
     . obtain⟨_,_,_,_,_,_,h,_⟩:3:=O;exact AJ h
     . obtain ⟨y3,y4,ct2,rfl,e6,aB,aH,a4,a0,a6,a5⟩:3:=O;rw[BK] at a7
       cases hz:((Z,e))[m]? with
       |none=>rw[hz] at a7;cases a7
       |some z=>
         rw[hz] at a7
         cases a7;have aE:=BG hz;have aK:=(mem_frF.mp aE).1;have aL:=(A0M.mp aK).1;have b3:=O7 hn aL (A0M.mp aK).2;have aZ:((B2 ns e:Nat):Int)-((E3 ns z:Nat):Int)=((B2 ns (λy=>e y && !decide (y=z)):Nat):Int):=by omega
         have aP:ns.filter e∈G2 ns ct1:=by
          rcases aI with q|⟨_,q|⟨N,hN,x,U,q⟩⟩
          . rw[q] at aE;cases aE
          . rw[q];exact a2.k2
          rw[q];exact a2.k3 N hN x U
         have aQ:ns.filter e∈G2 ns ct2:=(a5.ks _).mpr (.inl aP);obtain⟨k0,aM,g1,g2,g3,g4,g5⟩:2:=Zr ns (λy=>e y && !decide (y=z)) (62,ns,ns.filter e,ct2) a6;have b2:=VY a6 aA;symm;refine Oc a4.ob 'e' ?_;symm;refine(58,a4.bt,Ed aL);symm;rw[aZ];refine WC a0 ?_;symm;refine⟨_,DGet.k (k:=Sum.inl _) a0,?_⟩;rw[g1];symm;refine Wi a0 (U4 a6 aQ) ?_;symm;refine NI a0 (by unfold Gy;rw[List.length_map];omega) λH7 e7 h7=>?_;symm;refine⟨_,_,aM,rfl,e6.off a3 e7,e7 _ _ aY aB,e7 _ _ aX aH,a4.of (e7.fzD a0) (λb o hb q=>e7 _ _ (by rcases hb with rfl|rfl|rfl;exact aU;exact aT;exact aS) q),?_,g4,a5.step hz (B7 ..) g3 g5⟩
         rw[h7,g2];rfl
     obtain⟨y3,y4,ct2,rfl,e6,aB,aH,a4,a0,a6,a5⟩:3:=O;rw[BA] at a5;refine⟨_,_,_,ct2,rfl,e6,aB,a4,a0,a6,?_⟩;rw[RO hM];refine a2.step aJ hnd aO ?_ a5;rcases aI with q|⟨q,_⟩
     . rw[q];intro x U
       cases U
     exact q
 obtain⟨x2,x3,x4,ct1,rfl,e4,aG,a9,a8,aD,a2⟩:4:=O;rw[List.length_reverse,List.length_map,show qs.length=(Bu ns qs).reverse.length by unfold Bu;rw[List.length_reverse,List.length_map],List.take_length,List.reverse_reverse] at a2;symm;exact k d ct1 Y a3 e4 a8 aD a2
structure Shr (K:W.Frag)(C:Addr)(H0 H:Hp)(o:Obj)(p dx:Addr)(nv:V)(bd ad kd cd fd:Addr)(ns:AA)(ps:AB)(qs:List (Str->Bool))(ct:List ((Str->Bool)×Nat))(as:AF)(f:Str->Str->Nat):Prop where
 sm:Same H0 H
 kn:H kd=(59,o,.dK (knK ns ps qs))
 wb:WaysB K C H p dx nv bd ad kd ns ps
 cm:H cd=(6,Gy ns ct)
 tb:TabN H fd ns as f
 fr:∀ a∈as,H0 a=none
 ne:∀ a∈as,a≠kd/\a≠p/\a≠bd/\a≠ad/\a≠cd
theorem Shr.same {H0:Hp}{o:Obj}{p dx:Addr}{nv:V}{bd ad kd cd fd:Addr}{ns:AA}{qs:List (Str->Bool)}{ct:List ((Str->Bool)×Nat)}{f:Str->Str->Nat}(h:Shr K C H0 H o p dx nv bd ad kd cd fd ns ps qs ct as f)(e:(5,H')):Shr K C H0 H' o p dx nv bd ad kd cd fd ns ps qs ct as f:=
 ⟨h.sm.trans e,e _ _ h.kn,h.wb.same e,e _ _ h.cm,h.tb.same e,h.fr,h.ne⟩
theorem Shr.put {H0:Hp}{o:Obj}{p dx:Addr}{nv:V}{bd ad kd cd fd:Addr}{ns:AA}{qs:List (Str->Bool)}{ct:List ((Str->Bool)×Nat)}{f:Str->Str->Nat}(h:Shr K C H0 H o p dx nv bd ad kd cd fd ns ps qs ct as f)(hn:ns.Nodup){j:Nat}{a:Addr}(O:ns[j]? = some x)(ha:as[j]? = some a)(hz:z∈ns)(e:(h,a))(h':H' a=(6,Eo (U0 ns (f x)) (Sum.inr z:Key) (.int ((m:Nat):Int)))) :
 Shr K C H0 H' o p dx nv bd ad kd cd fd ns ps qs ct as λU y=>if U=x/\y=z then m else f U y:=by
 have F:=BG ha;obtain⟨Y,Z,n3,n4,n5⟩:0:=h.ne a F;exact⟨h.sm.off (h.fr a F) e,e _ _ Y.symm h.kn,h.wb.of (e.fzD (h.tb.row j x a O ha)) (λb o' hb q=>e _ _ (by rcases hb with rfl|rfl|rfl;exact Z.symm;exact n3.symm;exact n4.symm) q),e _ _ n5.symm h.cm,h.tb.put hn O ha hz e h',h.fr,h.ne⟩
noncomputable def Gz (K:W.Frag):Sp:=λvs H Q _=>∃ v ns ps,vs=[v]/\(15,v)/\(E,ps)/\ns.length<=10/\∀ fd as f H',(5,H')->TabN H' fd ns as f->(∀ x∈ns,∀ y∈ns,x≠y->f x y=(20,(ps++[(x,y)])))->(D,fd)
theorem Rv (F:(v,"shares_of",Jl))(T:Dp mg)(a0:De K C_Ways)(Hb:(o,2,"comings_of",["ways"],Gf C_Ways K))(C8:Mkd P w K mg base 3 C_Ways "Ways" ["self","half"] (Ec C_Ways K))(Af:Mtd P w K mg base 1 C_Ways "free_names" ["self","left"] (B0 C_Ways K))(Al:Mtd P w K mg base 13 C_Ways "ways_on" ["self","left"] (Bt C_Ways K)):FnOk P w K mg base CX0 14 f fd ["half"] (Gz K):=by
 refine F.ok Bx (λvs H Q E h=>?_) (λcU A outer s H vs Q E hr h=>?_)
 . obtain⟨v,ns,ps,rfl,_⟩:3:=h;rfl
 obtain⟨v,ns,ps,rfl,hI,hW,aA,k⟩:3:=h;have hu:=Bp hr;have hq:=Bs hr;have hn:=hW.nd
 with_reducible refine⟨_,((69,Bx.nd,⋯,'b',JN C8 (hr.mono nofun) ⋯ (7,0))
  (A3 (Cs (104,1,a0.cl,Al,(hr.mono nofun),(8,(34,1,a0.cl,a0.n_full))))
  (A3 (27,Bx.nd,(14,Hb,(hr.mono nofun),(7,1)))
  (A3 (28,Bx.nd,Az (L6 (K:=K) hr.hd) ⋯ T.b_dict PyProof.Rows.Boot.«dict» (8,(40,["one"],["half"],[0],(r,0),(λ_ _ _ _=>((13,(by with_unfolding_all (show(["one","half"]:AA).Nodup;decide +kernel))))),(Be nofun),(λ_ _ _ _=>Df),(λ_ _ _ _=>(Ay (54,0,Az (L6 (K:=K) hr.hd) ⋯ T.b_dict PyProof.Rows.Boot.«dict» (8,(40,["other"],[],[],(r,1),(λ_ _ _ _=>((13,(by with_unfolding_all (show(["other"]:AA).Nodup;decide +kernel))))),(Be nofun),(λ_ _ _ _=>Df),(λ_ _ _ _=>(Ay (54,0,A4)))))))))))
  (A3 ((51,BW,(34,1,a0.cl,a0.n_known),(102,Bx.nd,'b'))
  (A6 ((51,BW,(104,1,a0.cl,Af,(hr.mono nofun),(7,4)),Ae (i:=5) Bx.nd ⋯ 'b')
  (A3 (127,Bx.nd,'b',(F,Hh,4,(26,(34,1,a0.cl,a0.n_bits),pv 5)))
  (A3 (113,Bx.nd,'b',Am D3 (w,2,pv 4) (26,(34,1,a0.cl,a0.n_known),pv 6))
  (A6 ((51,BW,(r,0),Ae (i:=8) Bx.nd ⋯ 'b')
  (A6 (Ch (JD (53,Zg,(26,(34,1,a0.cl,a0.n_bits),pv 8),6)) (A6 (F7 hu (w,3,pv 5) (pv 8) (53,(Aj (K:=K)),(26,(w,3,pv 5),pv 8),7) ⋯)) At)))))))))
  ((l,pv 3))))))),?_⟩
 symm;refine JG λp dx H1 cM e1 h1=>?_;refine⟨p,v,dx,ns,ps,rfl,h1,hI.hf_fz e1.fz,hW,aA,λnv bd ad kd H2 cF e2 hA=>⟨rfl,?_⟩⟩;symm;refine DS hA.ob 'e' ?_;symm;refine Oc hA.ob 'e' ?_;symm;have cB:ns.filter (λ_=>true)=ns:=by simp
 refine⟨p,dx,nv,bd,ad,kd,ns,ps,_,λ_=>true,rfl,hA,hW,aA,by rw[cB];omega,λqs H3 e3 aP hG=>?_⟩;symm;refine⟨p,dx,nv,bd,ad,kd,ns,ps,qs,rfl,aP,hW,aA,hG,λcd ct H4 bJ e4 h4 hO hC=>?_⟩;have bM:H kd=none:=e1.free cF;have b3:Same H H3:=(e1.off cM e2).off bM e3;have aL:=b3.trans e4;have a3:=aP.same e4;have hnd:=a3.ok.tt;have d1:=a3.ok.len aA;have cX:H cd=none:=b3.free bJ;have c9:cd≠kd:=(ne_of_none aP.kn bJ).symm;clear e3 hA e2 h1 aP;symm;refine Ek (hI.hf_fz aL.fz) λd7 bX=>?_;obtain⟨na,rfl,hS⟩:1:=bX.nm;refine Rb hS ?_
 refine Hi (Et (xs:=ns.map V.str)) (λq i acc H5=>Same H4 H5/\∃ as:AF,as.length=i/\as.Nodup/\(∀ a∈as,H5 a=(6,(U0 ns λ_=>0))/\H4 a=none)/\PrsK K H5 (Iq (ns.take i) as) acc)
  (λq H' hp e h=>⟨e,[],rfl,by simp,λ_ h=>(by cases h),by rfl⟩) (λq i acc H5 O=>O.1.seqT hS) (λq i x acc H5 bO U hi hl ha O=>?_) (λq acc H5 bO ha aW O=>?_)
 . obtain ⟨e5,as,aW,aV,a5,aH⟩:420:=O;rw[BK] at U
   cases hz:ns[i]? with
   |none=>rw[hz] at U;cases U
   |some z=>
     rw[hz] at U
     cases U;have d0:i<ns.length:=(A01.mp hz).1;symm;refine Ek (hI.hf_fz (aL.trans e5).fz) λd8 bY=>?_;obtain⟨d5,rfl,bE⟩:1:=bY.nm;refine Rb bE ?_
     refine Hi (Et (xs:=ns.map V.str)) (λq6 i6 aE H6=>Same H5 H6/\PrsK K H6 (U0 (ns.take i6) λ_=>0) aE)
      (λq6 H' hp e h=>⟨e,by rfl⟩) (λq6 i6 aE H6 O=>O.1.seqT bE) (λq6 i6 x6 aE H6 bP aK cD cG aU O=>?_) (λq6 aE H6 bP aU cW O=>?_)
     . obtain ⟨e6,aQ⟩:=O;rw[BK] at aK
       cases hz6:ns[i6]? with
       |none=>rw[hz6] at aK;cases aK
       |some z6=>
         rw[hz6] at aK
         cases aK;symm;refine Aw (A9 'c') λt H7 d3 e7 h7=>?_;have bC:H7 q6=some (.lst aE):=e7 _ _ aU;refine Lw (by rw[BA];omega) cD cG bC λH8 e8 h8=>?_;have b5:=e8.fzL bC;refine⟨(e6.trans e7).off bP e8,?_⟩;rw[show U0 (ns.take (i6+1)) (λ_=>0)=U0 (ns.take i6) (λ_=>0)++[(Sum.inr z6,V.int 0)] by unfold U0;rw[List.take_add_one,hz6,List.map_append];rfl];exact PrsK.snoc (kv:=(Sum.inr z6,V.int 0)) (b5.seq (AK h7)) (PrsK.fz (e7.fz.trans b5) aQ)
     obtain⟨e6,aQ⟩:=O;rw[BA,CF] at aQ;symm;refine JV aU aQ (by unfold U0;rw[List.length_map];omega) λb H7 aY e7 h7=>?_;rw[Ke _ _ (UW hn _) (λ_ _ _ h=>by cases h),GP] at h7;symm;refine Aw (A9 'c') λt H8 d4 e8 h8=>?_;have aM:=(e6.trans e7).trans e8;have bD:H8 q=some (.lst acc):=aM _ _ ha;refine Lw (by rw[BA];omega) hi hl bD λH9 e9 h9=>?_;have c8:b≠q:=Ne.symm (ne_of_none (e6 _ _ ha) aY);have b6:=e9.fzL bD;refine⟨(e5.trans aM).off bO e9,as++[b],by simp[aW],?_,λa a9=>?_,?_⟩
     . rw[A1D];refine⟨aV,by simp,λa c7 c hc e=>?_⟩;have:c=b:=by simpa using hc
       subst this;subst e;have:=e6 _ _ (a5 _ c7).1;rw[aY] at this
       cases this
     . rcases A0B.mp a9 with a9|a9
       . obtain⟨q1,q2⟩:=a5 a a9;exact⟨e9 _ _ (52,q1,ha) (aM _ _ q1),q2⟩
       have:a=b:=by simpa using a9
       subst this;exact⟨e9 _ _ c8 (e8 _ _ h7),e5.free (e6.free aY)⟩
     have ht:ns.take (i+1)=ns.take i++[z]:=by rw[CC,hz];rfl
     have cJ:(ns.take i).length=as.length:=by rw[CD,aW];omega
     rw[ht,Pw cJ];exact PrsK.snoc (kv:=(Sum.inr z,V.ref b)) (b6.seq (AK h8)) (PrsK.fz (aM.fz.trans b6) aH)
 obtain⟨e5,as,aX,aV,a5,aH⟩:420:=O;rw[BA] at aX;rw[BA,CF] at aH;symm;refine JV ha aH (by unfold Iq;rw[List.length_map,List.length_zip];omega) λfd H6 bL e6 h6=>?_;rw[Ke _ _ (Q7 hn) (λ_ _ _ h=>by cases h),GP] at h6;have bK:H4 fd=none:=e5.free bL
 have cA:fd∉as:=λhm=>by
  have:=(a5 fd hm).1;rw[bL] at this
  cases this
 have bF:TabN H6 fd ns as (λ_ _=>0):=⟨aX,aV,cA,h6,λj x a _ a9=>e6 _ _ (a5 a (BG a9)).1⟩
 have cL:∀ b,b=fd\/b∈as->H4 b=none:=λb hb=>by
  rcases hb with rfl|hb
  . exact bK
  exact(a5 b hb).2
 have aS:=e5.trans e6;have a7:=a3.same aS;have b9:=aS _ _ h4;symm;refine Oc a7.ob 'e' ?_;refine Zs (as:=[kd]) (.inl a7.kn) 'c' λo H7 k7 bB=>?_;have cN:p≠kd:=(52,a7.ob,a7.kn);have bH:WaysB K C_Ways H7 p dx nv bd ad kd ns ps:=a7.b.of k7.fz λb o' hb q=>k7.1 b o' (by rcases hb with rfl|rfl|rfl<;>simp[cN,a7.nb,a7.na]) q
 have bN:∀ b,b=fd\/b∈as->b≠kd:=λb hb z=>by
  have:=cL b hb;rw[z,a3.kn] at this
  cases this
 have bG:TabN H7 fd ns as (λ_ _=>0):=bF.of λb o' hb q=>k7.1 b o' (by simpa using bN b hb) q;have bA:H7 cd=some (.dK (Gy ns ct)):=k7.1 _ _ (by simpa using c9) b9;have b4:Same H H7:=λb o' q=>k7.1 b o' (by simpa using ne_of_none q bM) (aS _ _ (aL _ _ q));have cY:cd≠fd/\cd∉as:=⟨λz=>(by rw[z,bK] at h4;cases h4),λz=>(by rw[(a5 cd z).2] at h4;cases h4)⟩
 have cV:∀ b,b=p\/b=bd\/b=ad->∃ o',H4 b=some o':=λb hb=>by
  rcases hb with rfl|rfl|rfl
  . exact⟨_,a3.ob⟩
  . exact⟨_,a3.bt⟩
  exact⟨_,a3.ah⟩
 have c6:Shr K C_Ways H H7 o p dx nv bd ad kd cd fd ns ps qs ct as (λ_ _=>0):=⟨b4,bB,bH,bA,bG,λa ha=>aL.free (a5 a ha).2,λa ha=>by have aO:=(a5 a ha).2;exact⟨bN a (.inr ha),(ne_of_none a3.ob aO).symm,(ne_of_none a3.bt aO).symm,(ne_of_none a3.ah aO).symm,(ne_of_none h4 aO).symm⟩⟩
 have hl:((knK ns ps qs).map λkv=>kV kv.1)=qs.map λq=>V.int ((B2 ns q:Nat):Int):=by unfold knK;rw[CG];rfl
 clear bH bG bB bA b4 a7 bF h6 b9 a5 aH
 refine Dq S7 (λi σ H8=>∃ x4 x5 x6 x7 x8 f,σ=[some v,(3,p),(3,cd),(3,fd),x4,x5,x6,x7,x8]/\Shr K C_Ways H H8 o p dx nv bd ad kd cd fd ns ps qs ct as f/\∀ x∈ns,∀ y∈ns,f x y=(((Bu ns qs).take i).map λL=>(62,ns,L,ct)*aj0 (Ac ps) x y L).sum)
  ⟨_,_,_,_,_,_,rfl,c6,λx _ y _=>rfl⟩ (λi σ' H' O=>?_) (λi x σ' H8 U hi O=>?_) (fun σ' H8 O=>?_)
 . obtain⟨_,_,_,_,_,_,_,h,_⟩:6:=O;exact h.kn
 . obtain ⟨x4,x5,x6,x7,x8,f,rfl,a8,b0⟩:6:=O;rw[hl,BK] at U
   cases he:qs[i]? with
   |none=>rw[he] at U;cases U
   |some e=>
     rw[he] at U
     cases U
     have hM:(Bu ns qs)[i]? = some (ns.filter e):=by unfold Bu;rw[BK,he];rfl
     have cO:Bu ns qs=(Bu ns qs).take i++ns.filter e :: (Bu ns qs).drop (i+1):=by
      obtain⟨cC,bU⟩:=A01.mp hM
      conv=>lhs;rw[<- List.take_append_drop i (Bu ns qs),List.drop_eq_getElem_cons cC,bU]
     have bI:=NE hG cO;have bT:(ns.filter e).Nodup:=EG EF hn;have bS:((Z,e)).Nodup:=EG EF bT;symm;refine DS a8.wb.ob 'e' ?_;symm;refine⟨p,dx,nv,bd,ad,kd,ns,ps,e,rfl,a8.wb,hW,aA,λl9 H9 cH e9 h9=>?_⟩;refine Jk (AJ h9) ?_
     have cI:l9∉as:=λz=>by
      obtain⟨j,Z⟩:=A1U.mp z;have cE:=(A01.mp Z).1;have:=a8.tb.row j (ns[j]'(by rw[<- aX];exact cE)) l9 (BJ _) Z;rw[cH] at this
      cases this
     refine Dq (Bq (xs:=((Z,e)).map V.str)) (λm σ aC=>∃ y5 y6 y7 y8 f2,σ=[some v,(3,p),(3,cd),(3,fd),(K,((B2 ns e:Nat):Int)),y5,y6,y7,y8]/\aC l9=(2,(((Z,e)).map V.str))/\Shr K C_Ways H aC o p dx nv bd ad kd cd fd ns ps qs ct as f2/\∀ x∈ns,∀ y∈ns,f2 x y=f x y+if x∈((Z,e)).take m/\y∈(41,e,x) then (62,ns,ns.filter e,ct)*cnt (Ac ps) (41,e,x) else 0)
      ⟨_,_,_,_,_,rfl,h9,a8.same e9,λx _ y _=>by simp⟩ (λm σ' H' O=>?_) (λm d9 σ' aC aJ hm O=>?_) (fun σ' aC O=>?_)
     . obtain⟨_,_,_,_,_,_,h,_⟩:5:=O;exact AJ h
     . obtain ⟨y5,y6,y7,y8,f2,rfl,b7,a6,aZ⟩:5:=O;rw[BK] at aJ
       cases hz:((Z,e))[m]? with
       |none=>rw[hz] at aJ;cases aJ
       |some z=>
         rw[hz] at aJ
         cases aJ;have aB:=BG hz;have bR:=(mem_frF.mp aB).1;have b2:=(A0M.mp bR).1;have d2:=O7 hn b2 (A0M.mp bR).2;have cP:((B2 ns e:Nat):Int)-((E3 ns z:Nat):Int)=((B2 ns (λy=>e y && !decide (y=z)):Nat):Int):=by omega
         have bV:ns.filter e∈G2 ns ct:=by
          rcases bI with q|⟨_,q|⟨N,hN,x,U,q⟩⟩
          . rw[q] at aB;cases aB
          . rw[q];exact hC.k2
          rw[q];exact hC.k3 N ((HK _ _).subset hN) x U
         have bZ:ns.filter (λy=>e y && !decide (y=z))∈Bu ns qs:=by
          rw[B7];rcases bI with q|⟨q,_⟩
          . rw[q] at aB;cases aB
          exact(IR _ _).subset (q z aB)
         have cZ:=hC.le hn aA (ns.filter e);symm;refine Oc a6.wb.ob 'e' ?_;symm;refine(58,a6.wb.bt,Ed b2);symm;rw[cP];refine Wi a6.cm (U4 hO bV) ?_;symm;refine Oc a6.wb.ob 'e' ?_;symm;refine VO (.inr ⟨o,a6.kn⟩) (Vs bZ) ?_;symm;rw[<- Int.natCast_mul,B7];refine Ek (hI.hf_fz a6.sm.fz) λd6 bW=>?_;generalize cK:(62,ns,ns.filter e,ct)*cnt (Ac ps) (41,e,z)=many
         refine Lj bW (λk' σ aD=>∃ z8 f3,σ=[some v,(3,p),(3,cd),(3,fd),(K,((B2 ns e:Nat):Int)),(64,z),(K,((B2 ns (λy=>e y && !decide (y=z)):Nat):Int)),(K,((many:Nat):Int)),z8]/\Fz aC aD/\aD l9=(2,(((Z,e)).map V.str))/\Shr K C_Ways H aD o p dx nv bd ad kd cd fd ns ps qs ct as f3/\∀ x∈ns,∀ y∈ns,f3 x y=f2 x y+if x=z/\y∈ns.take k'/\y∈(41,e,z) then many else 0)
          ⟨_,f2,rfl,.refl _,b7,a6,λx _ y _=>by simp⟩ (λk' σ' H' O=>?_) (λk' w σ' aD hw O=>?_) (fun σ' aD O=>?_)
         . obtain⟨_,_,_,h,_⟩:2:=O;exact h
         . obtain⟨z8,f3,rfl,aT,aN,a4,aG⟩:2:=O;have aI:=BG hw;symm;refine Oc a4.wb.ob (by rfl) ?_;symm;refine(58,a4.wb.bt,Ed aI);symm;rw[OC hn aI]
           have cQ:w∉ns.take k':=λhm=>by
            obtain⟨j,Z⟩:=A1U.mp hm;rw[FL] at Z
            split at Z
            . rename_i hji;have a1:=A01.mp Z;have a2:=A01.mp hw;have:=(CY hn).mp (a1.2.trans a2.2.symm);omega
            cases Z
           have bQ:w∈(41,e,z)↔(e w && !decide (w=z))=true:=by rw[<- B7,A0M];exact⟨λq=>q.2,λq=>⟨aI,q⟩⟩
           have htk:ns.take (k'+1)=ns.take k'++[w]:=by rw[CC,hw];rfl
           refine GS (λhb=>?_) (λhb=>?_)
           . obtain⟨j,a,Z,aF⟩:2:=a4.tb.at b2;have b1:=a4.tb.row j z a Z aF;symm;refine(58,a4.tb.top,Ew hn Z aF);symm;refine(58,b1,Ed aI);symm;refine(58,a4.tb.top,Ew hn Z aF);symm;refine Ix b1 (by unfold U0;rw[List.length_map];omega) λcT aR b8=>?_;rw[<- Int.natCast_add] at b8;have c0:=a4.put hn Z aF aI aR b8;symm;refine⟨_,_,rfl,aT.trans (aR.fzD b1),aR _ _ (λz=>cI (z ▸ BG aF)) aN,c0,λx U y hy=>?_⟩;show(if x=z/\y=w then f3 z w+many else f3 x y)=_
             rw[htk]
             by_cases c:x=z/\y=w
             . obtain⟨rfl,rfl⟩:=c;rw[if_pos ⟨rfl,rfl⟩,aG x U y hy,if_neg (λq=>cQ q.2.1),if_pos ⟨rfl,by simp,bQ.mpr hb⟩];rfl
             rw[AZ c,aG x U y hy];congr 1
             by_cases Y:x=z/\y∈ns.take k'/\y∈(41,e,z)
             . rw[BB Y,BB ⟨Y.1,BZ _ Y.2.1,Y.2.2⟩]
             rw[AZ Y,AZ];rintro⟨c3,c4,c5⟩;rcases A0B.mp c4 with c4|c4
             . exact Y ⟨c3,c4,c5⟩
             exact c ⟨c3,by simpa using c4⟩
           symm;refine⟨_,f3,rfl,aT,aN,a4,λx U y hy=>?_⟩;rw[aG x U y hy,htk];congr 1
           by_cases c:x=z/\y∈ns.take k'/\y∈(41,e,z)
           . rw[BB c,BB ⟨c.1,BZ _ c.2.1,c.2.2⟩]
           rw[AZ c,AZ];rintro⟨c1,Y,c3⟩;rcases A0B.mp Y with Y|Y
           . exact c ⟨c1,Y,c3⟩
           have:y=w:=by simpa using Y
           subst this;rw[bQ.mp c3] at hb
           cases hb
         obtain⟨z8,f3,rfl,aT,aN,a4,aG⟩:2:=O;refine⟨_,_,_,_,f3,rfl,aN,a4,λx U y hy=>?_⟩;rw[aG x U y hy,aZ x U y hy,CF,CC,hz,Nat.add_assoc];congr 1
         have cS:z∉((Z,e)).take m:=λhm=>by
          obtain⟨j,Z⟩:=A1U.mp hm;rw[FL] at Z
          split at Z
          . rename_i hji;have a1:=A01.mp Z;have a2:=A01.mp hz;have:=(CY bS).mp (a1.2.trans a2.2.symm);omega
          cases Z
         by_cases c:x=z
         . subst c
           by_cases Y:y∈(41,e,x)
           . rw[if_neg (λq=>cS q.1),if_pos ⟨rfl,hy,Y⟩,if_pos ⟨by simp,Y⟩,cK,Nat.zero_add]
           rw[AZ (λq=>Y q.2),AZ (λq=>Y q.2.2),AZ (λq=>Y q.2)]
         rw[AZ (λq:x=z/\_=>c q.1),Nat.add_zero]
         by_cases Y:x∈((Z,e)).take m/\y∈(41,e,x)
         . rw[BB Y,BB ⟨BZ _ Y.1,Y.2⟩]
         rw[AZ Y,AZ];rintro⟨q1,q2⟩;rcases A0B.mp q1 with q1|q1
         . exact Y ⟨q1,q2⟩
         exact c (by simpa using q1)
     obtain⟨y5,y6,y7,y8,f2,rfl,b7,a6,aZ⟩:5:=O;refine⟨_,_,_,_,_,f2,rfl,a6,λx U y hy=>?_⟩;rw[aZ x U y hy,b0 x U y hy,BA,CF,CC,hM,BU,List.sum_append];congr 1;show _=(62,ns,ns.filter e,ct)*aj0 (Ac ps) x y (ns.filter e)+0;unfold aj0
     split
     . rfl
     rfl
 obtain⟨x4,x5,x6,x7,x8,f,rfl,a8,b0⟩:6:=O;symm;refine k fd as f H8 a8.sm a8.tb λx U y hy cR=>?_;rw[b0 x U y hy,hl,List.length_map,show qs.length=(Bu ns qs).length by unfold Bu;rw[List.length_map],List.take_length];exact hC.share hnd hW U hy cR
noncomputable def I0 (K:W.Frag):Sp:=λvs H Q _=>∃ v ns ps,vs=[v]/\(15,v)/\(E,ps)/\ns.length<=10/\∀ l ys H',H l=none->(5,H')->H' l=(2,ys)->IsL K H' (quP ns ps) ys->(D,l)
theorem OE {ns:AA}(h:ns.length<=10):((O,ns)).length<=100:=by unfold unP unK;rw[KC];refine BI (L4 (c:=10) λi _=>?_) (by rw[DN];omega);unfold unR;rw[BA];exact BI (CM _ _) (by rw[CL];omega)
theorem Ry (F:(v,"questions",Je))(T:Dp mg)(Qr:(o,3,"untold",["half"],Nl K))(Jw:(o,14,"shares_of",["half"],Gz K)):FnOk P w K mg base CX0 15 f fd ["half"] (I0 K):=by
 refine F.ok Lk (λvs H Q E h=>?_) (λaA A outer s H vs Q E Y h=>?_)
 . obtain⟨v,ns,ps,rfl,_⟩:3:=h;rfl
 obtain⟨v,ns,ps,rfl,hI,hW,a0,k⟩:3:=h;have hu:=Bp Y;have hq:=Bs Y;have hn:=hW.nd
 with_reducible refine⟨_,((69,Lk.nd,⋯,(by with_unfolding_all exact CJ rfl),(14,Jw,(Y.mono nofun),(7,0)))
  ((l,(40,["pair"],["shares"],[1],(14,Qr,(Y.mono nofun),(7,0)),(λ_ _ _ _=>((13,(by with_unfolding_all (show(["pair","shares"]:AA).Nodup;decide +kernel))))),(Be nofun),(λ_ _ _ _=>Df),(λ_ _ _ _=>(Ay (54,0,Ay (22,(26,(w,1,(r,0)),(r,0)),(26,(w,1,(r,0)),(r,0)))))))))),?_⟩
 symm;refine⟨v,ns,ps,rfl,hI,hW,a0,λfd as f H1 e1 hT hf=>?_⟩;symm;refine⟨v,ns,ps,rfl,hI.hf_fz e1.fz,hW,λu H2 e2 a9=>?_⟩;symm;have aE:=OE (ps:=ps) a0;refine Zo a9 (λ_=>true) (λp=>qsD p (20,(ps++[(p.1,p.2)])) (20,(ps++[(p.2,p.1)]))) (λ_=>So ..) ∅ (λi p w H3 R R' hp U e3 hR aB=>?_) (λl ys H3 hl e3 h3 hL=>?_)
 . have a8:=BG hp;obtain⟨Z,m2,_⟩:0:=Px a8;have a7:=Wg hn a8;have O:=hT.same (e2.trans e3);obtain⟨j1,a1,a5,a3⟩:2:=O.at Z;obtain⟨j2,a2,a6,a4⟩:2:=O.at m2;symm;refine P4 U ?_;symm;refine(58,O.top,Ew hn a5 a3);symm;refine Lz U ?_;symm;refine(58,O.row j1 p.1 a1 a5 a3,Ed m2);symm;refine Lz U ?_;symm;refine(58,O.top,Ew hn a6 a4);symm;refine P4 U ?_;symm;refine(58,O.row j2 p.2 a2 a6 a4,Ed Z);rw[hf p.1 Z p.2 m2 a7,hf p.2 m2 p.1 Z a7.symm];symm;refine Aw (A9 'c') λt4 H4 aC e4 h4=>?_;symm;refine Aw (A9 'c') λt5 H5 aD e5 h5=>?_;exact hR rfl _ _ (e4.trans e5) (AN (AK h5) (84,AT (e4.trans e5) _ _ U,AN (AK (e5 _ _ h4)) (84,Kq,Kq)))
 rw[Dy] at hL;symm;exact k l ys H3 (e1.free (e2.free hl)) ((e1.trans e2).trans e3) h3 hL
noncomputable def lamQ:Str:=("best":Str) ++ ".<locals>." ++ "<lambda>"
noncomputable abbrev LmT (P:Addr)(H:Hp):Prop:=LamT P 200 26 lamQ H
noncomputable def qA (ns:AA)(ps:AB)(p:Str×Str):Nat:=(20,(ps++[(p.1,p.2)]))
noncomputable def qB (ns:AA)(ps:AB)(p:Str×Str):Nat:=(20,(ps++[(p.2,p.1)]))
noncomputable def qMn (ns:AA)(ps:AB)(p:Str×Str):Int:=if((qB ns ps p:Nat):Int)<((qA ns ps p:Nat):Int) then((qB ns ps p:Nat):Int) else((qA ns ps p:Nat):Int)
theorem UD (ns:AA)(ps:AB):Li (quP ns ps)=true:=C7 _ (λ_=>So ..) _
theorem NH (ns:AA)(ps:AB):quP ns ps=((O,ns)).map λp=>qsD p (qA ns ps p) (qB ns ps p):=rfl
noncomputable def aO8 (K:W.Frag)(H:Hp)(ns:AA)(ps:AB)(u:V):Prop:=(u = .non/\(O,ns)=[])\/∃ p∈(O,ns),(9,qsD p (qA ns ps p) (qB ns ps p),u)/\∀ p'∈(O,ns),qMn ns ps p'<=qMn ns ps p
noncomputable def R8 (P:Addr)(K:W.Frag):Sp:=λvs H Q _=>∃ v ns ps,vs=[v]/\(15,v)/\(E,ps)/\ns.length<=10/\LmT P H/\∀ u H',(h,P)->LmT P H'->aO8 K H' ns ps u->Q u H'
theorem UG {p:Str×Str}{n:Nat}(h:(9,qsD p m n,v)):∃ a b x,v = .ref a/\(A,[x,.ref b])/\SqT K H b [.int ((m:Nat):Int),.int ((n:Nat):Int)]:=by
 obtain⟨a,xs,rfl,h1,h2⟩:2:=Is.tup h;obtain⟨Y,Z,rfl,i1,h2⟩:=Bh h2;obtain⟨v2,U,rfl,i2,h2⟩:=Bh h2;have e:U=[]:=by simpa only[L2.IsL] using h2
 subst e;obtain⟨b,ys,rfl,F,O⟩:2:=AS i2;have:=IsL.int_eq (ns:=[((m:Nat):Int),((n:Nat):Int)]) O;subst this;exact⟨a,b,Y,rfl,h1,F⟩
theorem Zk {P:Addr}{ps:Array Value}(e:(h,P))(h:H P=some (.tbl ps)):Fz H H':=W1 e λxs q=>by
 rcases q with q|⟨o,q⟩
 . rw[h] at q;cases q
 rw[h] at q;cases q
theorem Nt {P:Addr}{a b:Nat}{q:Str}(h:LamT P a b q H):∃ ps,H P=some (.tbl ps):=by
 rcases h with h|⟨c,h,_⟩
 . exact⟨_,h⟩
 exact⟨_,h⟩
theorem ZL {P:Addr}{line col:Nat}{qual:Str}{t:TA}{σ:L2.St}(k:t σ H λvs H1=>LamT P line col qual H1/\∀ H2,ExtBut P H1 H2->LamT P line col qual H2->as7 K vs H2 Q):aF8 K P line col qual t σ H Q:=k
theorem QN (F:(v,"best",P9))(T:Dp mg){V2:Addr}(lb:MH K mg base V2 P_best)(a8:fd.code = .ref V2)(J8:(o,15,"questions",["half"],I0 K)):FnOk P w K mg base CX0 16 f fd ["half"] (R8 P_best K):=by
 refine Fun.okC F a8 aa1 (λvs H Q E h=>?_) (λA outer s H vs Q E Z h=>?_)
 . obtain⟨v,ns,ps,rfl,_⟩:3:=h;rfl
 obtain⟨v,ns,ps,rfl,hI,hW,a5,hT,k⟩:3:=h;have hu:=Bp Z;have hq:=Bs Z
 with_reducible refine⟨_,((69,aa1.nd,⋯,'b',(14,J8,(Z.mono nofun),(7,0)))
  ((11,(50,hq,(38,(Au (K:=K)),1),A4,Ax _),(l,Tl))
  ((l,Yk (K:=K) ⟨⋯,lb.hd,lb.bi,lb.gP⟩ ⋯ Z.depth ⋯ T.b_max T.b_min (7,1))))),?_⟩
 symm;refine⟨v,ns,ps,rfl,hI,hW,a5,λl ys H1 hl O h1 a0=>?_⟩;have aD:=AL a0;rw[NH,BA] at aD;symm;refine Iy (λhc=>?_) (λhc=>?_)
 . symm;have h0:(O,ns)=[]:=A18.mp (by have:=V.int.inj hc;omega);exact k .non H1 O.but (hT.same O) (.inl ⟨rfl,h0⟩)
 have aC:0<ys.length:=by
  rcases A4O ys.length with z|z
  . exact absurd (by rw[z];rfl) hc
  exact z
 symm;refine ZL ?_;symm;refine⟨hT.same O,λH2 e2 a7=>?_⟩;obtain⟨aF,a2⟩:=Nt (hT.same O);have a4:=Zk e2 a2;have a9:l≠_:=(52,h1,a2);have a6:=AM a4 _ _ (UD ns ps) a0
 have a3:∀(i:Nat) u,ys[i]? = some u->∃ p,((O,ns))[i]? = some p/\Is K H2 (qsD p (qA ns ps p) (qB ns ps p)) u:=λi u Y=>by
  obtain ⟨dd,hd,U⟩:1:=IsL.get a6 Y;rw[NH,BK] at hd
  cases hp:((O,ns))[i]? with
  |none=>rw[hp] at hd;cases hd
  |some p=>
    rw[hp] at hd
    cases hd;exact⟨p,rfl,U⟩
 refine⟨l,ys,λi=>qMn ns ps (((O,ns)).getD i ("","")),rfl,AJ (e2 _ _ a9 h1),aC,λi u Y=>?_,λi u Y aA=>?_⟩
 . obtain⟨p,hp,U⟩:1:=a3 i u Y;obtain⟨a,b,x,rfl,g1,g2⟩:3:=UG U;refine⟨a,b,x,_,_,rfl,g1,g2,?_⟩;show qMn ns ps (((O,ns)).getD i ("",""))=_;rw[GH,hp];rfl
 obtain⟨p,hp,U⟩:1:=a3 i u Y;refine k u H2 (λb o hb q=>e2 _ _ hb (O _ _ q)) a7 (.inr ⟨p,BG hp,U,λp' aB=>?_⟩);obtain⟨j,hj⟩:=A1U.mp aB;have aE:=(A01.mp hj).1;have hm:=(aA j ∅).1;have g1:((O,ns)).getD i ("","")=p:=by rw[GH,hp];rfl
 have g2:((O,ns)).getD j ("","")=p':=by rw[GH,hj];rfl
 have a1:qMn ns ps (((O,ns)).getD i ("",""))>=qMn ns ps (((O,ns)).getD j ("","")):=hm;rw[g1,g2] at a1;exact a1
noncomputable def aN2:PyData->Bool
 |.tuple _=>true
 |_=>false
noncomputable def aU3:PyData->Bool
 |.str _=>true
 |_=>false
theorem JT (h:(9,D,v))(k:(t,aN2 D)):Jb K [v,.ty "tuple"] H Q:=by
 cases D with
 |none=>simp only[Is] at h;subst h;exact Sm .non (b:=false) 'e' k
 |bool b=>simp only[Is] at h;subst h;exact Sm (.bl b) (b:=false) 'e' k
 |int b=>simp only[Is] at h;subst h;exact Sm (.int b) (b:=false) 'e' k
 |str b=>simp only[Is] at h;subst h;exact Sm (.str b) (b:=false) 'e' k
 |list ds=>simp only[Is] at h;obtain⟨a,xs,rfl,h1,_⟩:2:=h;exact LA h1 (b:=false) 'e' k
 |tuple ds=>simp only[Is] at h;obtain⟨a,xs,rfl,h1,_⟩:2:=h;exact KL h1 (b:=true) 'e' k
 |dict _=>simp only[Is] at h
theorem WE (h:(9,D,v))(k:(t,aU3 D)):Jb K [v,.ty "str"] H Q:=by
 cases D with
 |none=>simp only[Is] at h;subst h;exact Sm .non (b:=false) 'e' k
 |bool b=>simp only[Is] at h;subst h;exact Sm (.bl b) (b:=false) 'e' k
 |int b=>simp only[Is] at h;subst h;exact Sm (.int b) (b:=false) 'e' k
 |str b=>simp only[Is] at h;subst h;exact Sm (.str b) (b:=true) 'e' k
 |list ds=>simp only[Is] at h;obtain⟨a,xs,rfl,h1,_⟩:2:=h;exact LA h1 (b:=false) 'e' k
 |tuple ds=>simp only[Is] at h;obtain⟨a,xs,rfl,h1,_⟩:2:=h;exact KL h1 (b:=false) 'e' k
 |dict _=>simp only[Is] at h
noncomputable def OddL (K:PySem.W.Frag)(H:Hp)(p:Addr)(n w W N0:Nat):Prop:=∃ ys es,H p=(2,ys)/\(I,es,ys)/\(∀ e∈es,Dk n w W e)/\es≠[]/\es.length<=N0
theorem OddL.le {K:PySem.W.Frag}{p:Addr}{n w W F O:Nat}(h:OddL K H p n w W F)(h1:F<=O):OddL K H p n w W O:=let ⟨ys,es,a,b,c,d,e⟩:=h;⟨ys,es,a,b,c,d,BI e h1⟩
noncomputable def Gu (K:PySem.W.Frag):Sp:=λvs H Q _=>∃ d l v D n w W,vs=[.ref d,v]/\(J,H)/\(9,D,v)/\Dk n w W D/\n<=50/\w<=100000/\2<=W/\∀ v' D' H',(h,d)->(J,H')->(Y,D',v')->Dk (n+2) (2*w+200) (W+1) D'->Q v' H'
theorem UV:∀ e∈[PyData.none,.bool true,.bool false,.int (-1),.int 0,.int 1,.int (10 ^ 39),.str "",.str "a",.str "A",.str "abcdefghi",.str "a b",.str "a{",.tuple [],.list [],.tuple [.str "a"],.tuple [.str "a",.str "b"]],Dk 2 200 2 e:=by intro e he;simp only[List.mem_cons,List.not_mem_nil,or_false] at he;rcases he with rfl|rfl|rfl|rfl|rfl|rfl|rfl|rfl|rfl|rfl|rfl|rfl|rfl|rfl|rfl|rfl|rfl<;>exact⟨by decide +kernel,by decide +kernel,by decide +kernel,by decide +kernel,by decide +kernel,by decide +kernel,by decide +kernel⟩
theorem KA:∀ ds:AD,ds.length<=PyData.weightAll ds
 | []=>by simp
 |d :: ds=>by have:=KA ds;simp only[List.length_cons,PyData.weightAll];omega
theorem V5 {α:Type}{es:List α}{e:α}:∀ {k:Nat},e∈((111,es)).flatten->e∈es
 |0,h=>by cases h
 |k+1,h=>by rw[DU,EX] at h;exact(A0B.mp h).elim id λh=>V5 h
theorem Uq {K:W.Frag}{H:Hp}{es:AD}{ys:List V}(h:(I,es,ys)):∀ k:Nat,IsL K H ((111,es)).flatten ((111,ys)).flatten
 |0=>.nil
 |k+1=>by rw[DU,EX,DU,EX];exact AW h (Uq h k)
noncomputable def ag0 (ds:AD)(lo hi:Option Int):AD:=(ds.drop (56,0,lo)).take ((56,ds.length,hi)-(56,0,lo))
theorem NF {K:W.Frag}{H:Hp}:∀ {es:AD} {ys:List V},(I,es,ys)->(I,es.reverse,ys.reverse)
 | [],ys,h=>by simp only[L2.IsL] at h;subst h;exact .nil
 |e :: es,ys,h=>by simp only[L2.IsL] at h;obtain⟨v,r,rfl,h1,h2⟩:2:=h;rw[FJ,FJ];exact IsL.append (NF h2) (.one h1)
theorem OH (h:Asc z):Asc (Txt.slice z none (some (-1)))/\(Txt.slice z none (some (-1))).length<=z.length:=by
 refine⟨λc F=>?_,Txt.slice_le ..⟩;unfold Txt.slice at F
 split at F
 . exact h c F
 rw[List.toList_toArray] at F;obtain⟨i,_,hi⟩:1:=A4G.mp F;exact h c (Array.mem_toList_iff.mpr (Array.mem_of_getElem? hi))
theorem Uf (F:(v,"_law_odd",L5))(T:Dp mg)(A7:(76,P,w,K,1,["_law_feed_here","_law_many"],Av K)):FnOk P w K mg base CX0 2 f fd ["_law_feed_here","_law_part"] (Gu K):=by
 refine F.ok G5 (λvs H Q E h=>?_) (λbC A outer s H vs Q E hr h=>?_)
 . obtain⟨d,l,v,D,n,w,W,rfl,_⟩:7:=h;rfl
 obtain⟨d,l,v,D,n,w,W,rfl,hF,hI,hD,hn,hw,bE,k⟩:7:=h;have hu:=Bp hr;have hq:=Bs hr
 with_reducible refine⟨_,(A3 (27,G5.nd,Bi (A1 Tl (W,Og,Og,(W,Xx Pf A4,A4,(W,A4,Am LC A4 A4,(W,Ar,Ar,(W,Ar,Ar,(W,Ar,Ar,(W,Ay A2,Bi A2,(W,Ay (8,Ar),Ay (22,Ar,Ar),A2))))))))))
  ((11,Hw (130,(Fi (K:=K)),⋯,(54,1,Nd (v:=.ty "tuple") ⋯ T.b_tuple PyProof.Rows.Boot.«tuple» ⋯)),A6 (27,G5.nd,(F,(Aj (K:=K)),2,Am D3 (Bi (A1 (Az (Ip (K:=K)) ⋯ T.b_list PyProof.Rows.Boot.«list» (7,1)) (W,(F,(Aj (K:=K)),1,Ay (8,Ar)),(33,(Oe (K:=K)),1,Ck,Bd (Xx Pf A4)),(W,(33,(Oe (K:=K)),1,Bd A4,Ck),(F,(Aj (K:=K)),1,(33,(Oe (K:=K)),1,Ck,Bd A4)),(W,Ay (7,1),TH (K:=K) (pv 1) (Xx Pf A4),A2))))) A4)))
  ((11,Hw (130,(Fi (K:=K)),⋯,(54,1,Nd (v:=.ty "str") ⋯ T.b_str PyProof.Rows.Boot.«str» ⋯)),A6 (27,G5.nd,(F,(Aj (K:=K)),2,Am D3 (Bi (A1 (F,(Aj (K:=K)),1,Ar) (W,(33,(Oe (K:=K)),1,Ck,Bd (Xx Pf A4)),Zp (K:=K) PySem.F.plainAttrs_str PySem.F.slot_str_upper PySem.F.type_str_upper ZY (pv 1),(W,Ay (7,1),(F,(Aj (K:=K)),1,Ar),A2)))) A4)))
  ((l,(w,2,(P,A7,(hr.mono nofun),0,(38,(Au (K:=K)),2)))))))),?_⟩
 symm;refine Aw (A9 'c') λt1 H1 bP e1 h1=>?_;symm;refine Bk (A9 'c') λt2 H2 bQ e2 h2=>?_;symm;refine Aw (A9 'c') λt3 H3 bR e3 h3=>?_;symm;refine Aw (A9 'c') λt4 H4 bS e4 h4=>?_;symm;refine Bk (A9 'c') λp H5 hp e5 h5=>?_;have a7:=(((e1.trans e2).trans e3).trans e4).trans e5
 have aL:OddL K H5 p (n+2) (2*w+200) (W+1) 17:=by refine⟨_,_,h5,?_,λe he=>(UV e he).le ∅ ∅,by simp,by simp⟩;have a1:=((((e2.trans e3).trans e4).trans e5)) _ _ h1;have a2:=((e3.trans e4).trans e5) _ _ h2;have a3:=(e4.trans e5) _ _ h3;have a4:=e5 _ _ h4;exact(32,(by simp only[Is]),IY,(32,IY,Kq,(32,Kq,Kq,(32,Kq,Bf,(32,Bf,Bf,(32,Bf,Bf,(32,Bf,Is.of_tup (SqT.of a1) .nil,(32,Is.of_lst (SqL.of a2) .nil,Is.of_tup (SqT.of a3) (.one Bf),.one (Is.of_tup (SqT.of a4) (84,Bf,Bf))))))))))
 have aJ:=AT a7 _ _ hI;clear h1 h2 h3 h4 h5;walk_at "rq"
 with_reducible refine Ow (fun σ' H'=>∃ p,σ'=[(112,d),some v,(3,p)]/\(5,H')/\OddL K H' p (n+2) (2*w+200) (W+1) 52) (λN hN=>?_) (fun σ1 H6 hM=>?_)
 . walk_at "rq";refine JT aJ ⟨_,rfl,?_⟩
   cases hT:aN2 D with
   |false=>walk_at "rq";exact hN _ _ ⟨p,rfl,a7,aL.le nofun⟩
   |true=>
     obtain⟨ds,rfl⟩:∃ ds,D = .tuple ds:=by cases D<;>first | exact⟨_,rfl⟩ | cases hT
     obtain⟨va,xs,rfl,U,hX⟩:2:=aJ.tup;obtain⟨m,rfl⟩:∃ m,n=m+1:=⟨n-1,by have:=hD.dp;simp only[PyData.depth] at this;omega⟩;have O:=hD.els;have bU:=IsL.length hX;have bT:ds.length<=w:=BI (KA ds) O.wt;obtain⟨ys,es,h5,Z,a5,a9,aN⟩:2:=aL;have a6:=IsL.length Z;walk_at "rq";refine V3 (.inr U) λq1 H6 b1 f1 g1=>?_;walk_at "rq";refine Aw (A9 'c') λq2 H7 b2 f2 g2=>?_;have aD:=f1.trans f2;refine K6 (aD.seqT U) (SqT.of g2) (A9 (by simp;omega)) λq3 H8 f3 g3=>?_;walk_at "rq";have a0:=aD.trans f3;refine X8 (a0.seqT U) λq4 H9 f4 g4=>?_;have aF:=a0.trans f4;walk_at "rq";refine X8 (aF.seqT U) λq5 aP f5 g5=>?_;have aG:=aF.trans f5;walk_at "rq";refine X8 (aG.seqT U) λq6 b5 f6 g6=>?_;have aH:=aG.trans f6;rw[Gh ∅] at g6;refine K6 (aH.seqT U) g6 (A9 (by simp;omega)) λq7 b6 f7 g7=>?_;have aR:=aH.trans f7;walk_at "rq";refine Aw (A9 'c') λq8 b7 bN f8 g8=>?_;have aI:=aR.trans f8;walk_at "rq";refine XI (aI.seqT U) λq9 b8 bO f9 g9=>?_;have aS:=aI.trans f9;walk_at "rq";refine Bk (A9 'c') λbX b9 bI aA aT=>?_;have aQ:=aS.trans aA;walk_at "rq";refine .inl (Z5 aT ⟨by decide,by decide⟩ (A9 'c') λbY bA bJ aB aU=>?_);have aC:=aQ.trans aB;refine Pb (aC _ _ h5) aU (A9 (by rw[O8,<- a6];simp;omega)) λb4 bB bK aE aV=>?_;have fin:=aC.trans aE;walk_at "rq";refine hN _ _ ⟨b4,rfl,a7.trans fin,_,es++(List.replicate 5 [.list ds,.tuple (ds++[.str "zz"]),.tuple (ag0 ds none (some (-1))),.tuple (ag0 ds (some 1) none),.tuple (ds++ds.take 1),.tuple [.tuple ds],.tuple ds.reverse]).flatten,aV,IsL.append (90,fin,_,Z) (Uq ?_ 5),λe he=>?_,?_,?_⟩
     . have Y:=AQ fin _ _ hX;have s9:=(aA.trans aB).trans aE;have s8:=f9.trans s9;have s7:=f8.trans s8;have s6:=f7.trans s7;have s5:=f6.trans s6;have s4:=f5.trans s5;have s3:=f4.trans s4;have s1:=(f2.trans f3).trans s3;refine(32,Is.of_lst (AJ (s1 _ _ g1)) Y,AN (s3.seqT g3) (AW Y (.one Bf)),(32,AN (s4.seqT g4) (L7 Y _ _),AN (s5.seqT g5) (L7 Y _ _),(32,AN (s7.seqT g7) (AW Y (IsL.take 1 Y)),AN (AK (s8 _ _ g8)) (.one (AN (fin.seqT U) Y)),.one (AN (AK (s9 _ _ g9)) (NF Y)))))
     . rcases A0B.mp he with he|he
       . exact a5 e he
       have he:=V5 he;have zz:Dk m 2 W (.str "zz"):=M0 (by unfold Asc;decide +kernel) 'f';simp only[List.mem_cons,List.not_mem_nil,or_false] at he;rcases he with rfl|rfl|rfl|rfl|rfl|rfl|rfl
       . exact(LI O).le ∅ ∅
       . exact(Gw (O.app (.one zz ∅) (W':=W+1) (by have:=O.len;simp;omega) ∅)).le ∅ ∅
       . exact(Gw ((O.drop _).take _)).le ∅ ∅
       . exact(Gw ((O.drop _).take _)).le ∅ ∅
       . exact(Gw (O.app (O.take 1) (W':=W+1) (by have:=O.len;rw[CD];omega) ∅)).le ∅ ∅
       . exact(Gw (.one hD ∅)).le ∅ ∅
       exact(Gw O.rev).le ∅ ∅
     . simp
     rw[BL,O8];simp;omega
 obtain⟨p,rfl,e6,aM⟩:1:=hM;have aK:=AT e6 _ _ hI;walk_at "rq"
 with_reducible refine Ow (fun σ' H'=>∃ p,σ'=[(112,d),some v,(3,p)]/\(5,H')/\OddL K H' p (n+2) (2*w+200) (W+1) 72) (λN hN=>?_) (fun σ1 H7 hM=>?_)
 . walk_at "rq";refine WE aK ⟨_,rfl,?_⟩
   cases hT:aU3 D with
   |false=>walk_at "rq";exact hN _ _ ⟨p,rfl,e6,aM.le nofun⟩
   |true=>
     obtain⟨z,rfl⟩:∃ z,D = .str z:=by cases D<;>first | exact⟨_,rfl⟩ | cases hT
     have hv:v = .str z:=by simpa only[Is] using aK
     subst hv;obtain⟨hz,bW⟩:=hD.str;obtain⟨b3,bV⟩:=Yv hz;obtain⟨b0,bG⟩:=OH hz;have ha:Asc "a":=by unfold Asc;decide +kernel
     have ht:Asc "~":=by unfold Asc;decide +kernel
     have aO:∀ c:Str,c.length=1->(z++c).length<=w+1:=λc hc=>by rw[QY];omega
     obtain⟨ys,es,h5,Z,a5,a9,aN⟩:2:=aM;have a6:=IsL.length Z;walk_at "rq";refine i_addS (A9 (by rw[show(("a":Str)).length=1 by decide +kernel];omega)) ?_;walk_at "rq";refine YV ∅ ?_;walk_at "rq";refine Aw (A9 'c') λq1 H7 b1 f1 g1=>?_;walk_at "rq";refine i_addS (A9 (by rw[show(("~":Str)).length=1 by decide +kernel];omega)) ?_;walk_at "rq";refine Bk (A9 'c') λq2 H8 b2 f2 g2=>?_;walk_at "rq";refine .inl (Z5 g2 ⟨by decide,by decide⟩ (A9 'c') λq3 H9 bL f3 g3=>?_);have a0:=(f1.trans f2).trans f3;refine Pb (a0 _ _ h5) g3 (A9 (by rw[O8,<- a6];simp;omega)) λq4 aP bM f4 g4=>?_;have fin:=a0.trans f4;walk_at "rq";refine hN _ _ ⟨q4,rfl,e6.trans fin,_,es++(List.replicate 4 [.str (z ++ "a"),.str (Txt.slice z none (some (-1))),.str (Txt.upper z),.tuple [.str z],.str (z ++ "~")]).flatten,g4,IsL.append (90,fin,_,Z) (Uq (32,Bf,Bf,(32,Bf,Is.of_tup (SqT.of (((f2.trans f3).trans f4) _ _ g1)) (.one Bf),.one Bf)) 4),λe he=>?_,?_,?_⟩
     . rcases A0B.mp he with he|he
       . exact a5 e he
       have he:=V5 he;simp only[List.mem_cons,List.not_mem_nil,or_false] at he;rcases he with rfl|rfl|rfl|rfl|rfl
       . exact M0 (hz.app ha) (BI (aO _ 'f') ∅)
       . exact M0 b0 ∅
       . exact M0 b3 ∅
       . exact(Gw (.one (M0 (p:=n) (W:=W) hz (BE _)) ∅)).le ∅ ∅
       exact M0 (hz.app ht) (BI (aO _ 'f') ∅)
     . simp
     rw[BL,O8];simp;omega
 obtain⟨p,rfl,e7,ys,es,h7,Z,a5,a9,aN⟩:841:=hM;have a6:=AL Z;have bH:0<es.length:=A5O.mpr a9;have a8:=hF.same e7;symm;refine⟨d,l,_,rfl,a8,by omega,by omega,λb H8 aZ bF e8 aX=>?_⟩;have h8:=e8 _ _ (a8.lst h7) h7;obtain⟨fa,ft,fu,bD,fd,_⟩:4:=a8;have hbl:b.toNat<ys.length:=by omega
 have hg:=BJ hbl;generalize ys[b.toNat]'hbl=x at hg;obtain⟨D',aW,aY⟩:1:=IsL.get Z hg;symm;refine Fv h8 (show atI _ b=some x from by have:=Ci hg;rwa[EL aZ] at this) ?_;symm;exact k _ D' _ (ExtBut.after e7 e8) aX (Is.off fd e8 _ _ aY) (a5 D' (BG aW))
theorem LR {a:Addr}(h:(A,xs))(k:(X,xs.length,H)):Uj K [.ref a] H Q:=.inl ⟨.ref a,_,rfl,.inr ⟨xs,h,rfl⟩,k⟩
theorem ND:∀ {ds:AD} {e:PyData},e∈ds->e.weight<=PyData.weightAll ds
 |d :: ds,e,h=>by
   simp only[PyData.weightAll];rcases A0A.mp h with rfl|h
   . omega
   have:=ND h;omega
theorem ZB (h:0<=t)(F:ds[t.toNat]? = some D):PyData.weightAll (ag0 ds none (some t))+(D.weight+1)+PyData.weightAll (ag0 ds (some (t+1)) none)<=PyData.weightAll ds:=by
 have hl:t.toNat<ds.length:=(A01.mp F).1;have O:(56,ds.length,some t)=t.toNat:=by unfold HT.sIx;simp[show ¬ t<0 by omega];omega
 have U:(56,0,some (t+1))=t.toNat+1:=by unfold HT.sIx;simp[show ¬ t+1<0 by omega];omega
 have Y:(56,0,none)=0:=rfl;unfold ag0;rw[O,U,Y,IS,Nat.sub_zero];have a:=Lr (ds.take t.toNat) (ds.drop t.toNat);rw[FF] at a
 have Z:ds.drop t.toNat=D :: ds.drop (t.toNat+1):=by rw[HV hl];congr 1;have:=BJ hl;rw[F] at this;exact(BR this).symm
 rw[Z] at a;simp only[PyData.weightAll] at a;have c:=Zx (ds.drop (t.toNat+1)) ((56,ds.length,none)-(t.toNat+1));omega
noncomputable def Dj (K:PySem.W.Frag)(m:Nat):Sp:=λvs H Q _=>∃(d l:Addr) (v:V) (D:PyData) (n w W j:Nat),vs=[.ref d,v,.int (j:Int)]/\(J,H)/\(9,D,v)/\Dk n w W D/\n<=50/\w<=100000/\2<=W/\j<m/\∀ v' D' H',(h,d)->(J,H')->(Y,D',v')->Dk (n+2) (2*w+200) (W+1) D'->Q v' H'
theorem K9 {K:PySem.W.Frag}:∀ vs H Q E,¬ Dj K 0 vs H Q E:=λvs H Q E h=>by obtain⟨d,l,v,D,n,w,W,j,_,_,_,_,_,_,_,h,_⟩:8:=h;omega
noncomputable def Hk (K:W.Frag):Sp:=Dj K 11
theorem R4 (F:(v,"_law_bent",Gn))(T:Dp mg)(A7:(76,P,w,K,1,["_law_feed_here","_law_many"],Av K))(Fq:(o,2,"_law_odd",["_law_feed_here","_law_part"],Gu K))(n:Nat)(F4:(o,(3+n),"_law_bent",["_law_feed_here","_law_part","_law_deep"],Dj K n)):FnOk P w K mg base CX0 (3+n+1) f fd ["_law_feed_here","_law_part","_law_deep"] (Dj K (n+1)):=by
 refine F.ok Lh (λvs H Q E h=>?_) (λaQ A outer s H vs Q E hr h=>?_)
 . obtain⟨d,l,v,D,n',w,W,j,rfl,_⟩:8:=h;rfl
 obtain⟨d,l,v,D,n',w,W,j,rfl,hF,hI,hD,hn,hw,a4,hj,k⟩:8:=h;have hu:=Bp hr;have hq:=Bs hr
 with_reducible refine⟨_,((11,PW.pt (Xh (Ln (Hw (130,(Fi (K:=K)),⋯,(54,1,Nd (v:=.ty "tuple") ⋯ T.b_tuple PyProof.Rows.Boot.«tuple» ⋯)))) (Xh (50,hq,(38,(Au (K:=K)),1),A4,Ax _) (Xh (50,hq,pv 2,A4,Ax _) (Wh (50,hq,(P,A7,hr.mono ∅,0,A4),A4,Ax _))))),(l,(10,Fq,hr.mono ∅,0,(7,1))))
  (A3 (28,Lh.nd,(P,A7,hr.mono ∅,0,(38,(Au (K:=K)),1)))
  ((l,Am (Aj (K:=K)) (Am (Aj (K:=K)) (33,(Oe (K:=K)),1,Ck,Bd (pv 3)) (Ay (8,(10,F4,hr.mono ∅,0,(22,(w,1,pv 3),(F,Hh,2,A4)))))) (33,(Oe (K:=K)),1,Bd (F,(Aj (K:=K)),3,A4),Ck))))),?_⟩
 symm;refine JT hI ⟨_,rfl,?_⟩
 cases hT:aN2 D with
 |false=>symm;exact⟨d,l,v,D,n',w,W,rfl,hF,hI,hD,hn,hw,a4,λY U H' Z a1 a2 a0=>k Y U H' Z a1 a2 (a0.le (BE _) ∅)⟩
 |true=>
   obtain⟨ds,rfl⟩:∃ ds,D = .tuple ds:=by cases D<;>first | exact⟨_,rfl⟩ | cases hT
   obtain⟨va,xs,rfl,hS,hX⟩:2:=hI.tup;obtain⟨m,rfl⟩:∃ m,n'=m+1:=⟨n'-1,by have:=hD.dp;simp only[PyData.depth] at this;omega⟩;have hE:=hD.els;have aZ:=IsL.length hX;have aY:ds.length<=w:=BI (KA ds) hE.wt;symm;refine LR hS ?_;symm;refine Iy (λhc=>?_) (λhc=>?_)
   . symm;exact⟨d,l,_,_,m+1,w,W,rfl,hF,hI,hD,hn,hw,a4,λY U H' Z a1 a2 a0=>k Y U H' Z a1 a2 (a0.le (BE _) ∅)⟩
   have aW:0<xs.length:=by
    rcases A4O xs.length with h|h
    . exact absurd (by rw[h];rfl) hc
    exact h
   symm;refine Iy (λhc=>?_) (λhc=>?_)
   . symm;exact⟨d,l,_,_,m+1,w,W,rfl,hF,hI,hD,hn,hw,a4,λY U H' Z a1 a2 a0=>k Y U H' Z a1 a2 (a0.le (BE _) ∅)⟩
   have aV:0<j:=by
    rcases A4O j with h|h
    . exact absurd (by rw[h];rfl) hc
    exact h
   symm;refine⟨d,l,6,rfl,hF,by omega,by omega,λb H1 aS aT e1 aF=>?_⟩;have a7:∃ kvs,H d=some (.dK kvs):=let ⟨_,_,_,_,h1,_⟩:=hF;⟨_,h1⟩;obtain⟨kvs,a7⟩:=a7;have aL:=Is.off a7 e1 _ _ hI;symm;refine Iy (λhc=>?_) (λhc=>?_)
   . symm;exact⟨d,l,_,_,m+1,w,W,rfl,aF,aL,hD,hn,hw,a4,λY U H' Z a1 a2 a0=>k Y U H' (e1.trans Z) a1 a2 (a0.le (BE _) ∅)⟩
   have aO:=(hF.fz e1).seq hS;symm;refine LR aO ?_;symm;refine⟨d,l,_,rfl,aF,by omega,by omega,λO H2 aB aR e2 aJ=>?_⟩;have a8:=e1.trans e2;have aG:=(hF.fz a8).seq hS;symm;refine X8 aG λq3 H3 e3 h3=>?_;have aA:=aJ.same e3;have aI:=AQ e3 _ _ (IsL.off a7 a8 _ _ hX);have aH:=e3.seqT aG;have hal:O.toNat<xs.length:=by omega
   have hg:=BJ hal;generalize xs[O.toNat]'hal=x at hg;obtain⟨Dx,a9,aN⟩:1:=IsL.get aI hg;obtain⟨ux,a3⟩:=hE.all Dx (BG a9);have aP:Dx.weight<=w:=BI (ND (BG a9)) hE.wt;symm;refine D5 aH (show atI _ O=some x from by have:=Ci hg;rwa[EL aB] at this) ?_;symm;refine⟨d,l,x,Dx,m,Dx.weight,W,j-1,by rw[show((j-1:Nat):Int)=(j:Int)-1 by omega];rfl,aA,aN,⟨a3.asc,a3.lay,a3.sh,a3.lv,a3.dp,BE _,a3.wd⟩,by omega,BI aP hw,a4,by omega,λY U H4 e4 aK aM aE=>?_⟩;symm;refine Aw (A9 'c') λq5 H5 aX e5 h5=>?_;have aD:Fz H3 H5:=(aA.fz e4).trans e5.fz;have c3:=Ga xs none (some O);have c6:=Ga xs (some (O+1)) none;refine K6 (aD.seq h3) (SqT.of h5) (A9 (by simp;omega)) λq6 H6 e6 h6=>?_;symm;refine X8 ((aD.trans e6.fz).seq aH) λq7 H7 e7 h7=>?_;refine K6 (e7.seqT h6) h7 (A9 (by simp;omega)) λq8 H8 e8 h8=>?_;symm;have a5:=((e5.trans e6).trans e7).trans e8;have aC:∃ kvs,H3 d=some (.dK kvs):=let ⟨_,_,_,_,h1,_⟩:=aA;⟨_,h1⟩;obtain⟨b0,aC⟩:=aC;have a6:=(90,a5,_,IsL.off aC e4 _ _ aI);refine k _ (.tuple (ag0 ds none (some O)++[U]++ag0 ds (some (O+1)) none)) _ (((a8.same e3).trans e4).same a5) (aK.same a5) (Is.of_tup h8 (IsL.append (IsL.append (L7 a6 _ _) (.one (Is.mono a5 _ _ aM))) (L7 a6 _ _))) ?_;have aU:=BI (ZB aB a9) hE.wt;have r1:=(hE.drop (56,0,none)).take ((56,ds.length,some O)-(56,0,none));have r2:=(hE.drop (56,0,some (O+1))).take ((56,ds.length,none)-(56,0,some (O+1)));refine Gw ⟨λe he=>?_,?_,?_⟩
   . rcases A0B.mp he with he|he
     . rcases A0B.mp he with he|he
       . obtain⟨u,hu⟩:=r1.all e he;exact⟨u,hu.le ∅ (BE _)⟩
       rw[A1C.mp he];exact⟨_,aE⟩
     obtain⟨u,hu⟩:=r2.all e he;exact⟨u,hu.le ∅ (BE _)⟩
   . have:=aE.wt;rw[Lr,Lr];simp only[PyData.weightAll];omega
   have:=hE.len;have l1:=AL (L7 a6 none (some O));have l2:=AL (L7 a6 (some (O+1)) none);have l1:(ag0 ds none (some O)).length=_:=l1;have l2:(ag0 ds (some (O+1)) none).length=_:=l2;rw[Gh aB,CD] at l1;rw[YD ∅,CL] at l2;rw[BL,BL,l1,l2,CU];omega
theorem S8 (F:(v,"_law_bent",Gn))(T:Dp mg)(O:(76,P,w,K,1,["_law_feed_here","_law_many"],Av K))(Fq:(o,2,"_law_odd",["_law_feed_here","_law_part"],Gu K))(hm:mg "_law_bent" = (3,f))(U:(V,K,f)=true)(hb:(37,K,["_law_feed_here","_law_part","_law_deep"],[])):FnOk P w K mg base CX0 14 f fd ["_law_feed_here","_law_part","_law_deep"] (Hk K):=by
 have h:∀ n:Nat,FnOk P w K mg base CX0 (3+n) f fd ["_law_feed_here","_law_part","_law_deep"] (Dj K n):=λn=>by
  induction n with
  |zero=>exact FnOk.void K9
  |succ n ih=>exact R4 F T O Fq n ⟨f,fd,ih,hm,U,hb⟩
 exact h 11
noncomputable def E6 (K:W.Frag):Sp:=λvs H Q _=>∃ v ns ps,vs=[v]/\HfS K H v ns ps/\(E,ps)/\ns.length<=10/\(20,ps)<=1000/\∀ l ys H',H l=none->(5,H')->H' l=(2,ys)->IsL K H' ((ext (Ac ps) ns.length ns).map nmD) ys->(D,l)
theorem Oq (F:(v,"_law_orders",Gp))(T:Dp mg):FnOk P w K mg base CX0 1 f fd ["_law_half_here"] (E6 K):=by
 refine F.ok Bj (λvs H Q E h=>?_) (λb7 A outer s H vs Q E hr h=>?_)
 . obtain⟨v,ns,ps,rfl,_⟩:3:=h;rfl
 obtain⟨v,ns,ps,rfl,hI,hW,h6,aX,k⟩:3:=h;have aG:∀ i,i<=ns.length->(Ds (Ac ps) ns i [[]]).length<=1000:=λi hi=>BI (OU (λx=>O2 hW x) (λx y z a b=>wayB_iff.mpr ((wayB_iff.mp a).trans (wayB_iff.mp b))) hW.nd hi) aX;have hu:=Bp hr;have hq:=Bs hr;have hn:=hW.nd
 with_reducible refine⟨_,((69,Bj.nd,⋯,'b',Bi (8,Ay A2))
  (A3 (C4 BW ⋯ (101,⋯,(8,Ai (Au (K:=K)) ⋯ T.b_len PyProof.Rows.Boot.«len» (8,(r,0)))) (Ae (i:=2) Bj.nd ⋯ 'b')
  (A3 (28,Bj.nd,Bi A2)
  (A3 ((51,BW,pv 1,(102,Bj.nd,(by with_unfolding_all exact CJ rfl)))
  ((100,Bj.nd,⋯,(by with_unfolding_all exact CJ rfl),(40,["_law_name"],["_law_row"],[4],(r,0),(λ_ _ _ _=>((13,(by with_unfolding_all (show(["_law_name","_law_row"]:AA).Nodup;decide +kernel))))),(Be nofun),(λ_ _ _ _=>(Eh (Ak (F2 (K:=K) hq) (pv 0) (pv 1) ⋯))),(λ_ _ _ _=>(pv 0))))
  (A3 (127,Bj.nd,(by with_unfolding_all exact CJ rfl),(40,["_law_one","_law_other_here"],["_law_left"],[5],(r,0),(λ_ _ _ _=>(Mw (K:=K) (n:=2) ⋯ (E5 (13,(by with_unfolding_all (show(["_law_one","_law_other_here","_law_left"]:AA).Nodup;decide +kernel))) (E5 (Ae (i:=1) (by with_unfolding_all (show(["_law_one","_law_other_here","_law_left"]:AA).Nodup;decide +kernel)) ⋯ 'b') Na)))),QJ (NT nofun (NT nofun YX)),(λ_ _ _ _=>(Eh (Ak (My (K:=K) hq) (pv 0) (pv 2) ⋯))),(λ_ _ _ _=>(pv 1))))
  (A6 (Cs (63,DA,HQ,HY,Kc,pv 3,(8,(40,["_law_name"],["_law_row","_law_later"],[4,6],pv 5,(λ_ _ _ _=>((13,(by with_unfolding_all (show(["_law_name","_law_row","_law_later"]:AA).Nodup;decide +kernel))))),(Be nofun),(λ_ _ _ _=>(Eh (Ak (F2 (K:=K) hq) (pv 0) (pv 2) ⋯))),(λ_ _ _ _=>((F,(Aj (K:=K)),1,Ay (7,0))))))))))))
  (A6 (Aa (i:=1) Bj.nd ⋯ 'b' (pv 3))))))
  ((l,pv 1)))),?_⟩
 symm;refine Aw nofun λt2 H2 bJ e2 h2=>?_;symm;refine Bk (A9 'c') λl3 H3 aY e3 h3=>?_;symm;have a9:Same H H3:=e2.trans e3;refine NR (hI.same a9) λnv hN=>?_;symm;refine LM hN ?_;symm;refine J0 ∅ ?_
 refine Dq C5 (λi σ U=>∃ l x2 x3 x4 x5 x6 ys,σ=[some v,(3,l),x2,x3,x4,x5,x6]/\(5,U)/\H l=none/\U l=(2,ys)/\IsL K U ((Ds (Ac ps) ns i [[]]).map nmD) ys)
  ⟨l3,_,_,_,_,_,[.ref t2],rfl,a9,e2.free aY,h3,.one (Mp (AK (e3 _ _ h2)))⟩ (λ_ _ _ _=>trivial) (λi x σ U hx hi O=>?_) (fun σ U O=>?_)
 . obtain⟨l,x2,x3,x4,x5,x6,ys,rfl,e4,aH,h4,a4⟩:7:=O;obtain⟨rfl,bB⟩:=Fp hx;have bH:(Ds (Ac ps) ns i [[]]).length<=1000:=aG i ∅;have b1:ys.length=(Ds (Ac ps) ns i [[]]).length:=by rw[<- IsL.length a4,BA]
   symm;refine Bk nofun λg H5 a6 e5 h5=>?_;symm;have bD:l≠g:=ne_of_none h4 a6;refine Jk (AJ (e5 _ _ h4)) ?_
   refine Dq (Bq (xs:=ys)) (λj σ H6=>∃ y4 y5 y6 zs,σ=[some v,(3,l),(K,(0+(i:Int))),(3,g),y4,y5,y6]/\Same U H6/\H6 g=(2,zs)/\IsL K H6 ((F6 (Ac ps) ns ((Ds (Ac ps) ns i [[]]).take j)).map nmD) zs)
    ⟨_,_,_,[],rfl,e5,h5,.nil⟩ (λj σ' H' O=>?_) (λj x σ' H6 b0 hj O=>?_) (fun σ' H6 O=>?_)
   . obtain⟨_,_,_,_,_,e,_⟩:4:=O;exact AJ (e _ _ h4)
   . obtain⟨y4,y5,y6,zs,rfl,e6,a3,a0⟩:4:=O;obtain ⟨dr,a2,aD⟩:1:=IsL.get (90,e6,_,a4) b0;rw[BK] at a2
     cases hro:(Ds (Ac ps) ns i [[]])[j]? with
     |none=>rw[hro] at a2;cases a2
     |some row=>
       rw[hro] at a2
       cases a2;have aI:=BG hro;have bG:=Tv _ _ _ _ aI;have aA:Same H H6:=e4.trans e6;symm;refine NR (hI.same aA) λbK aT=>?_;refine W2 aT (λz=>!decide (z∈row)) PyData.str (λ_=>rfl) ∅ (λjj z H7 R R' hz Y hR a1=>?_) (λlf bO H7 aZ Y h7 aQ=>?_)
       . symm;refine NA (aD.nm_fz Y.fz) ?_;symm;refine T2 (λhb=>?_) (λhb=>?_)
         . symm;exact hR (by rw[hb];rfl) _ _ (.refl _) Bf
         exact a1 (by rw[hb];rfl) _ (.refl _)
       have aR:=AX aQ;subst aR;have aC:H7 lf=some (.lst ((En ns row).map V.str)):=h7;have bC:(En ns row).length<=ns.length:=CM _ _;have bA:g≠lf:=ne_of_none a3 aZ;symm;refine XH ((hI.same aA).same Y) λbM aU=>?_;refine Zo aU (λp=>decide (p.1∈En ns row)) (λp=>PyData.str p.2) (λ_=>rfl) (by have:=hW.le;omega) (λjj p w H8 R R' hp aP Z hR a1=>?_) (λlt bP H8 bE Z h8 aE=>?_)
       . obtain⟨wa,rfl,aW⟩:1:=aP.pr;symm;refine JH aW ?_;symm;refine NW (Z.seq (SqL.of aC)) ?_;symm;refine Iy (λhb=>?_) (λhb=>?_)
         . symm;exact hR (BY hb) _ _ (.refl _) Bf
         exact a1 (BS hb) _ (.refl _)
       rw[show((ps.filter λp=>decide (p.1∈En ns row)).map λp=>PyData.str p.2)=((ps.filter λp=>decide (p.1∈En ns row)).map (·.2)).map PyData.str by rw[CG];rfl] at aE;have aS:=AX aE;subst aS;symm;have aN:=Z _ _ aC;have aO:=aD.nm_fz (Y.trans Z).fz;refine Ra (AJ aN) (λz=>!decide (z∈(ps.filter λp=>decide (p.1∈En ns row)).map (·.2))) (λz=>nmD (row++[z])) (λ_=>Ks _) ∅ (λjj z H9 R R' hz e9 hR a1=>?_) (λq9 bQ H9 bF e9 h9 a5=>?_)
       . symm;refine XY (e9.seq (SqL.of h8)) ?_;symm;refine T2 (λhb=>?_) (λhb=>?_)
         . symm;refine Aw (A9 'c') λbN b5 bI a8 aL=>?_;obtain⟨ra,rfl,aV⟩:1:=(aO.nm_fz (e9.trans a8).fz).nm;refine K6 aV (SqT.of aL) (A9 (by rw[List.length_map];simp;omega)) λbL b6 aJ aM=>?_;exact hR (by rw[hb];rfl) _ _ (a8.trans aJ) (Mp (by rw[BU];exact aM))
         exact a1 (by rw[hb];rfl) _ (.refl _)
       rw[RH hW.mem aI] at a5;have aF:=(((Y.trans Z).trans e9) _ _ a3);have b2:=AL a5;have b3:=AL a0;rw[BA] at b2 b3;have b8:((57,ps,En ns row)).length<=10:=BI (CM _ _) ∅;have b9:(F6 (Ac ps) ns ((Ds (Ac ps) ns i [[]]).take j)).length<=1000:=BI (Qe _ _ _ _) (by rw[<- Fy];exact aG (i+1) ∅);symm;refine Wt aF h9 ∅ λb4 a7 aK=>?_;have aB:=a7.fzL aF;symm;refine⟨_,_,_,_,rfl,((e6.trans ((Y.trans Z).trans e9))).off a6 a7,aK,?_⟩;rw[Xl _ _ hro,BU,CG];exact AW (AM (((Y.trans Z).trans e9).fz.trans aB) _ _ (Ma _) a0) (AM aB _ _ (C7 _ (λ_=>Ks _) _) a5)
   obtain⟨y4,y5,y6,zs,rfl,e6,a3,a0⟩:4:=O;rw[b1,CF] at a0;symm;refine⟨g,_,_,_,_,_,zs,rfl,e4.trans e6,e4.free a6,a3,?_⟩;rw[Fy];exact a0
 obtain⟨l,x2,x3,x4,x5,x6,ys,rfl,e4,aH,h4,a4⟩:7:=O;symm;refine k l ys U aH e4 h4 ?_;have:((ns.length:Nat):Int).toNat=ns.length:=by omega
 rw[<- Se];simpa using a4
noncomputable def Do (K:W.Frag):Sp:=λvs H Q _=>∃ l x y rows ys,vs=[.ref l,.str x,.str y]/\SqL K H l ys/\(I,rows.map nmD,ys)/\(∀ r∈rows,x∈r/\y∈r)/\rows.length<=1000000 /\
 ∀ t la lb ya yb H',(5,H')->SqT K H' t [.ref la,.ref lb]->H' la=(2,ya)->ya.length=Rm rows x y->H' lb=(2,yb)->yb.length=Rm rows y x->IsL K H' ((rows.filter λr=>decide (r.idxOf x<r.idxOf y)).map nmD) ya->IsL K H' ((rows.filter λr=>decide (r.idxOf y<r.idxOf x)).map nmD) yb->H la=none->H lb=none->(D,t)
theorem Qm (F:(v,"_law_parts",Ib))(T:Dp mg):FnOk P w K mg base CX0 1 f fd ["_law_orders_here","_law_one","_law_other_here"] (Do K):=by
 refine F.ok K5 (λvs H Q E h=>?_) (λaB A outer s H vs Q E hr h=>?_)
 . obtain⟨l,x,y,rows,ys,rfl,_⟩:5:=h;rfl
 obtain⟨l,x,y,rows,ys,rfl,hl,hL,hm,hz,k⟩:5:=h;have hu:=Bp hr;have hq:=Bs hr;have a2:=AL hL;rw[BA] at a2
 with_reducible refine⟨_,(A3 (Fs (i:=3) ["_law_order"] ["_law_one","_law_other_here"] [1,2] ⋯ ⋯ ⋯ K5.nd ⋯ ⋯ (Aq (K:=K) hu (pv 0)) (λ_ _ _ _=>((13,(by with_unfolding_all (show(["_law_order","_law_one","_law_other_here"]:AA).Nodup;decide +kernel))))) (Be nofun) (λ_ _ _ _=>(Eh (21,Sa,(105,DL,DR,(Cf (K:=K)),0,(7,1)),(105,DL,DR,(Cf (K:=K)),0,(7,2)),_))) (λ_ _ _ _=>(pv 0)))
  ((l,Ay (54,3,(40,["_law_order"],["_law_one","_law_other_here"],[1,2],pv 0,(λ_ _ _ _=>((13,(by with_unfolding_all (show(["_law_order","_law_one","_law_other_here"]:AA).Nodup;decide +kernel))))),(Be nofun),(λ_ _ _ _=>(Eh (21,Ul,(105,DL,DR,(Cf (K:=K)),0,(7,1)),(105,DL,DR,(Cf (K:=K)),0,(7,2)),_))),(λ_ _ _ _=>(pv 0))))))),?_⟩
 symm;refine Jk hl (Ep (K:=K) (Bq (xs:=ys)) rows a2 (λr=>decide (r.idxOf x<r.idxOf y)) nmD (λ_=>Ks _) ∅ (λH' e=>e.seq hl) (λi r v H1 R R' a0 hv U hR a1=>?_) (λla ya H1 a9 U h1 a3=>?_))
 . obtain⟨dd,hd,hI⟩:1:=IsL.get (90,U,_,hL) hv;rw[BK,a0] at hd
   cases hd;obtain⟨ra,rfl,O⟩:1:=hI.nm;obtain⟨m1,m2⟩:=hm r (BG a0);obtain⟨f1,f2,_⟩:0:=El m1;obtain⟨g1,g2,_⟩:0:=El m2;symm;refine On O ?_;symm;refine E4 O f1 f2 ?_;symm;refine On O ?_;symm;refine E4 O g1 g2 ?_;symm;refine Iy (λhb=>?_) (λhb=>?_)
   . symm;exact hR (BY ∅) _ _ (.refl _) hI
   exact a1 (BS ∅) _ (.refl _)
 have a6:=AL a3;rw[BA] at a6;have a5:=U.seq hl;have a8:=AQ U _ _ hL;symm;refine Jk a5 (Ep (K:=K) (Bq (xs:=ys)) rows a2 (λr=>decide (r.idxOf y<r.idxOf x)) nmD (λ_=>Ks _) ∅ (λH' e=>e.seq a5) (λi r v H2 R R' a0 hv Y hR a1=>?_) (λlb yb H2 aA Y h2 a4=>?_))
 . obtain⟨dd,hd,hI⟩:1:=IsL.get (90,Y,_,a8) hv;rw[BK,a0] at hd
   cases hd;obtain⟨ra,rfl,O⟩:1:=hI.nm;obtain⟨m1,m2⟩:=hm r (BG a0);obtain⟨f1,f2,_⟩:0:=El m1;obtain⟨g1,g2,_⟩:0:=El m2;symm;refine On O ?_;symm;refine E4 O f1 f2 ?_;symm;refine On O ?_;symm;refine E4 O g1 g2 ?_;symm;refine Iy (λhb=>?_) (λhb=>?_)
   . symm;exact hR (BY ∅) _ _ (.refl _) hI
   exact a1 (BS ∅) _ (.refl _)
 have a7:=AL a4;rw[BA] at a7;symm;refine Aw (A9 'c') λt H3 ht Z h3=>?_;exact k t la lb ya yb H3 ((U.trans Y).trans Z) (AK h3) ((Y.trans Z) _ _ h1) a6.symm (Z _ _ h2) a7.symm (AQ (Y.trans Z) _ _ a3) (AQ Z _ _ a4) a9 (U.free aA)
noncomputable def Cq (K:W.Frag):Sp:=λvs H Q _=>∃ v l ns rows ys,vs=[v,.ref l]/\NmS K H v ns/\SqL K H l ys/\(I,rows.map nmD,ys)/\(∀ r∈rows,∀ x∈ns,x∈r)/\ns.length<=10/\rows.length<=1000000 /\
 ∀ q zs H',H q=none->(5,H')->H' q=(2,zs)->IsL K H' (quK ns (Rm rows) ns.length) zs->(D,q)
theorem Zz (ns:AA)(A:Str->Str->Nat)(i m:Nat):Li (quR ns A i m)=true:=C7 _ (λ_=>So ..) _
theorem Qv:∀ {a b:AD},Li a=true->Li b=true->Li (a++b)=true
 | [],b,_,h=>h
 |x :: a,b,h,g=>by have h:(frz x&&Li a)=true:=h;rw[CA] at h;show(frz x&&Li (a++b))=true;rw[h.1,Qv h.2 g];rfl
theorem Zu (ns:AA)(A:Str->Str->Nat):∀ k,Li (quK ns A k)=true
 |0=>rfl
 |k+1=>by rw[Qj];exact Qv (Zu ns A k) (Zz ..)
theorem Yt (ns:AA)(A:Str->Str->Nat)(i m:Nat):(quR ns A i m).length<=ns.length:=by unfold quR;rw[BA];refine BI (CM _ _) ?_;rw [CD,CL];omega
theorem Uu (ns:AA)(A:Str->Str->Nat):∀ k,(quK ns A k).length<=k*ns.length
 |0=>by simp[quK]
 |k+1=>by rw[Qj,BL,Nat.succ_mul];have:=Uu ns A k;have:=Yt ns A k ns.length;omega
theorem Le (F:(v,"_law_questions",Ee))(T:Dp mg)(C6:(o,1,"_law_parts",["_law_orders_here","_law_one","_law_other_here"],Do K)):FnOk P w K mg base CX0 2 f fd ["_law_names_here","_law_orders_here"] (Cq K):=by
 refine F.ok Bl (λvs H Q E h=>?_) (λaT A outer s H vs Q E hr h=>?_)
 . obtain⟨v,l,ns,rows,ys,rfl,_⟩:5:=h;rfl
 obtain⟨v,l,ns,rows,ys,rfl,hN,hl,hL,hm,aK,hz,k⟩:5:=h;have hu:=Bp hr;have hq:=Bs hr
 with_reducible refine⟨_,(A3 (27,Bl.nd,Bi A2)
  (A3 (C4 BW ⋯ (101,⋯,(8,(38,(Au (K:=K)),0))) (128,Bl.nd,'b')
  (A6 ((51,BW,(33,(Oe (K:=K)),0,Bd (F,(Aj (K:=K)),3,A4),Ck),(102,Bl.nd,'b'))
  (A3 (Vw (10,C6,(hr.mono nofun),1,A1 (w,0,pv 3) (7,4)) (Mw (K:=K) (n:=2) ⋯ (E5 (Ae (i:=5) Bl.nd ⋯ 'b') (E5 (Ae (i:=6) Bl.nd ⋯ 'b') Na))))
  (A6 (Ch (PW.pt (Ro (21,Yp (K:=K) hq,pv 5,Bi A2,_) (N8 (21,Yp (K:=K) hq,pv 6,Bi A2,_)))) (A6 (Cs (63,DA,EQ,EO,Eb,pv 2,(8,Ay (22,Ay (A1 (w,0,pv 3) (7,4)),Ay (22,(38,(Au (K:=K)),5),(38,(Au (K:=K)),6))))))) At))))))
  ((l,pv 2)))),?_⟩
 symm;refine Bk nofun λq H1 aI e1 h1=>?_;symm;refine LM (hN.same e1) ?_;symm;refine J0 ∅ ?_
 refine Dq C5 (λi σ H2=>∃ x3 x4 x5 x6 zs,σ=[some v,(3,l),(3,q),x3,x4,x5,x6]/\(5,H2)/\H2 q=(2,zs)/\IsL K H2 (quK ns (Rm rows) i) zs)
  ⟨_,_,_,_,[],rfl,e1,h1,.nil⟩ (λ_ _ _ _=>trivial) (λi x σ H2 hx hi U=>?_) (fun σ H2 U=>?_)
 . obtain⟨x3,x4,x5,x6,zs,rfl,e2,h2,a3⟩:5:=U;obtain⟨rfl,aU⟩:=Fp hx;have aN:i<ns.length:=by omega
   have aC:ns[i]? = some ((L,"")):=by simp[List.getD,List.getElem?_eq_getElem aN]
   have aO:=BG aC;have b3:=AL a3;have aW:=Uu ns (Rm rows) i;have aV:i*ns.length<=100:=BI (DW (by omega:i<=10) aK) nofun;symm;refine PY h2 (hN.same e2) ∅ ∅ λsv H3 e3 aF=>?_;rw[show(0+(i:Int)+1).toNat=i+1 by omega] at aF;have h3:=e3 _ _ h2
   refine WQ aF (λm σ Y=>∃ y4 y5 y6 a0,σ=[some v,(3,l),(3,q),(K,(0+(i:Int))),y4,y5,y6]/\ExtBut q H3 Y/\Fz H3 Y/\(5,Y)/\Y q=(2,a0)/\IsL K Y (quK ns (Rm rows) i++quR ns (Rm rows) i m) a0)
    ⟨_,_,_,zs,rfl,.refl,.refl _,e2.trans e3,h3,by simpa[quR] using (90,e3,_,a3)⟩ (λm σ' H' U=>?_) (λm y σ' Y hy U=>?_) (fun σ' Y U=>?_)
   . obtain⟨_,_,_,_,_,h,h',_⟩:4:=U;exact⟨h,h'⟩
   . obtain⟨y4,y5,y6,a0,rfl,b4,a8,e4,h4,a2⟩:4:=U;have aP:y∈ns:=(HK _ _).subset (BG hy);have aQ:=IsL.length a2;rw[BL] at aQ;have aZ:=Yt ns (Rm rows) i m;symm;refine KW (hN.same e4) (by rw[Int.zero_add];exact Ci aC) ?_;symm;refine⟨l,(L,""),y,rows,ys,rfl,e4.seq hl,(90,e4,_,hL),λr hr=>⟨hm r hr _ aO,hm r hr _ aP⟩,hz,λt la lb ya yb H5 e5 ht aG aA aH aB _ _ _ _=>?_⟩;refine JH ht ?_;symm;refine Bk nofun λn6 H6 aX e6 h6=>?_;symm;refine NU (SqL.of (e6 _ _ aG)) (SqL.of h6) ?_;symm;have aD:=e5.trans e6
     have zero:∀ {ys:List V} {n:Nat},ys.length=n->ys.isEmpty=true->n=0:=fun {ys n} h g=>by
      cases ys with
      |nil=>exact h.symm
      |cons a r=>cases g
     have pos:∀ {ys:List V} {n:Nat},ys.length=n->ys.isEmpty=false->n≠0:=fun {ys n} h g=>by
      cases ys with
      |nil=>cases g
      |cons a r=>rw[BO] at h;omega
     have aJ:¬ (Rm rows (L,"") y≠0/\Rm rows y (L,"")≠0)->∀ {Z},Same Y Z->ExtBut q H3 Z/\Fz H3 Z/\(5,Z)/\Z q=(2,a0)/\IsL K Z (quK ns (Rm rows) i++quR ns (Rm rows) i (m+1)) a0:=λc {Z} O=>by refine⟨b4.same O,a8.trans O.fz,e4.trans O,O _ _ h4,?_⟩;rw[We hy,AZ c,DE];exact AQ O _ _ a2
     refine T2 (λhb=>?_) (λhb=>?_)
     . symm;refine Bk nofun λn7 Z aY O h7=>?_;symm;refine NU (SqL.of ((e6.trans O) _ _ aH)) (SqL.of h7) ?_;symm;have a6:=aD.trans O;refine T2 (λa9=>?_) (λa9=>?_)
       . symm;refine KW ((hN.same e4).same a6) (by rw[Int.zero_add];exact Ci aC) ?_;symm;refine Aw (A9 'c') λt8 H8 b1 e8 h8=>?_;symm;refine i_lenL (((e6.trans O).trans e8) _ _ aG) ?_;symm;refine i_lenL (((e6.trans O).trans e8) _ _ aH) ?_;symm;refine Aw (A9 'c') λt9 H9 b2 e9 h9=>?_;symm;refine Aw (A9 'c') λb5 aR b0 a4 aL=>?_;symm;have a1:=((a6.trans e8).trans e9).trans a4;have aE:=a1 _ _ h4;refine Lx aE ∅ λaS a5 aM=>?_;have a7:=a5.fzL aE;symm;refine⟨_,_,_,_,rfl,(b4.same a1).trans a5,(a8.trans a1.fz).trans a7,(e4.trans a1).off aI a5,aM,?_⟩;rw[We hy,BB ⟨pos aA hb,pos aB a9⟩,<- CK];refine AW (AM (a1.fz.trans a7) _ _ (Qv (Zu ..) (Zz ..)) a2) (.one ?_);rw[aA,aB] at h9;refine AR a7 _ _ (So ..) (AN (AK aL) (84,AT (e9.trans a4) _ _ (Rt (AK h8)),AN (a4.seqT (AK h9)) (84,Kq,Kq)))
       symm;exact⟨_,_,_,_,rfl,aJ (λc=>c.2 (zero aB a9)) a6⟩
     symm;exact⟨_,_,_,_,rfl,aJ (λc=>c.1 (zero aA hb)) aD⟩
   obtain⟨y4,y5,y6,a0,rfl,b4,a8,e4,h4,a2⟩:4:=U;refine⟨_,_,_,_,a0,rfl,e4,h4,?_⟩;rw[Qj]
   have:quR ns (Rm rows) i (ns.drop (i+1)).length=quR ns (Rm rows) i ns.length:=by unfold quR;rw[CF,FN (by rw[CL];omega)]
   rw[<- this];exact a2
 obtain⟨x3,x4,x5,x6,zs,rfl,e2,h2,a3⟩:5:=U;symm;refine k q zs H2 aI e2 h2 ?_;simpa using a3
noncomputable def Y7 (row:AA):PyData:=.tuple [.str "end",nmD row]
noncomputable def Ql (x y:Str)(D E:PyData):PyData:=.tuple [.str "ask",.str x,.str y,D,E]
theorem Ev {ns:AA}(p:PlanP ns ps D m):frz D=true:=by
 induction p with
 |@fin ps row e=>simp[frz,Li,Ks]
 |ask _ _ _ _ _ _ i1 i2=>simp[frz,Li,i1,i2]
theorem ML {row:AA}(h:(9,Y7 row,v)):∃ a F,v = .ref a/\(A,[.str "end",F])/\Is K H (nmD row) F:=by
 obtain⟨a,xs,rfl,h1,h2⟩:2:=Is.tup h;obtain⟨Z,Y,rfl,i1,h2⟩:=Bh h2;obtain⟨U,O,rfl,i2,h2⟩:=Bh h2;have e:O=[]:=by simpa only[L2.IsL] using h2
 subst e;have:=Is.str i1;subst this;exact⟨a,U,rfl,h1,i2⟩
theorem KJ {E:PyData}(h:(9,Ql x y D E,v)):∃ a d e,v = .ref a/\(A,[.str "ask",.str x,.str y,d,e])/\(9,D,d)/\Is K H E e:=by
 obtain⟨a,xs,rfl,h1,h2⟩:2:=Is.tup h;obtain⟨v1,r1,rfl,i1,h2⟩:=Bh h2;obtain⟨v2,r2,rfl,i2,h2⟩:=Bh h2;obtain⟨v3,r3,rfl,Y,h2⟩:=Bh h2;obtain⟨v4,r4,rfl,Z,h2⟩:=Bh h2;obtain⟨v5,r5,rfl,i5,h2⟩:=Bh h2;have e:r5=[]:=by simpa only[L2.IsL] using h2
 subst e;have F:=Is.str i1;have O:=Is.str i2;have U:=Is.str Y;subst F;subst O;subst U;exact⟨a,v4,v5,rfl,h1,Z,i5⟩
noncomputable def Rows (ns:AA)(ps:AB)(rows:List AA):Prop:=rows.Perm (ext (Ac ps) ns.length ns)
theorem SQ {rows F:List AA} (h:rows.Perm F) (x y:Str):Rm rows x y=Rm F x y:=(h.filter _).length_eq
theorem Wb {b:Str->Str->Bool}:∀ {r F:AA},r.Perm F->r.Pairwise (λu v=>b v u=false)->F.Pairwise (λu v=>b v u=false)->(∀ u∈r,∀ v∈r,u≠v->b u v=true\/b v u=true)->r.Nodup->r=F
 | [],F,h,_,_,_,_=>(List.nil_perm.mp h).symm
 |a :: t,[],h,_,_,_,_=>by cases h.length_eq
 |a :: t,c :: t',h,h1,h2,tot,nd=>by
   have Y:a=c:=by
    by_cases e:a=c
    . exact e
    exfalso;have ha:a∈c :: t':=h.mem_iff.mp (BQ ..);have O:c∈a :: t:=h.mem_iff.mpr (BQ ..);have U:a∈t':=(A0A.mp ha).resolve_left e;have Z:c∈t:=(A0A.mp O).resolve_left λz=>e z.symm;have q1:=(A35.mp h1).1 c Z;have q2:=(A35.mp h2).1 a U;rcases tot a (BQ ..) c O e with q|q
    . rw[q2] at q;cases q
    rw[q1] at q;cases q
   subst Y;rw[Wb (List.Perm.cons_inv h) (A35.mp h1).2 (A35.mp h2).2 (λu hu v hv=>tot u (BP _ hu) v (BP _ hv)) (A0W.mp nd).2]
theorem LN {ns:AA}(h:(E,ps))(O:2<=(20,ps)):∃ x∈ns,∃ y∈ns,x≠y/\unB ps x y=true:=by
 false_or_by_contra
 rename_i hno
 have a0:∀ x∈ns,∀ y∈ns,x≠y->Ac ps x y=true\/Ac ps y x=true:=λx Y y hy Z=>by
  cases e1:Ac ps x y with
  |true=>exact .inl rfl
  |false=>
    cases e2:Ac ps y x with
    |true=>exact .inr rfl
    |false=>exact absurd ⟨x,Y,y,hy,Z,by unfold unB;rw[e1,e2];rfl⟩ hno
 unfold L2.cnt at O;have nd:=E9 (Ac ps) ns.length ns h.nd;have F:=λr=>C3 (Ac ps) ns.length ns r h.nd rfl
 match hE:ext (Ac ps) ns.length ns,O,nd,F with
 |r :: r' :: rest,_,nd,F=>obtain⟨p1,k1⟩:=(F r).mp (BQ ..);obtain⟨p2,k2⟩:=(F r').mp (BP _ (BQ ..));have:r=r':=Wb (p1.trans p2.symm) k1.2 k2.2 (λu hu v U=>a0 u (p1.mem_iff.mp hu) v (p1.mem_iff.mp U)) (p1.nodup_iff.mpr h.nd);exact(A0W.mp nd).1 (this ▸ BQ ..)
theorem Y9 {ps:AB}{x y:Str}(F:x≠y)(hu:unB ps x y=true):∀ {ns:AA},x∈ns->y∈ns->0<((O,ns)).length
 | [],h,_=>by cases h
 |a :: t,hx,hy=>by
   rw[G7];rcases A0A.mp hx with rfl|hx'
   . have:y∈t.filter λz=>unB ps x z:=A0M.mpr ⟨(A0A.mp hy).resolve_left (Ne.symm F),hu⟩;have:=JF this;omega
   rcases A0A.mp hy with rfl|hy'
   . have:x∈t.filter λz=>unB ps y z:=A0M.mpr ⟨hx',Mn hu⟩;have:=JF this;omega
   have:=Y9 F hu hx' hy';omega
theorem Nq {ns:AA}{rows:List AA}(h:(E,ps))(U:Rows ns ps rows)(Y:x∈ns)(Z:y∈ns):Rows ns (ps++[(x,y)]) (rows.filter λr=>decide (r.idxOf x<r.idxOf y)):=by
 refine(U.filter _).trans ?_;refine(List.perm_ext_iff_of_nodup ((E9 (Ac ps) ns.length ns h.nd).filter _) (E9 (Ac (ps++[(x,y)])) ns.length ns h.nd)).mpr λr=>?_;have hm:=(h.more Y Z).mem;rw[A0M,C3 _ _ _ _ h.nd rfl,C3 _ _ _ _ h.nd rfl,FX];constructor
 . rintro⟨⟨hp,F⟩,hi⟩;refine⟨hp,(Iv h.nd hm hp).mpr λp O=>?_⟩;rcases A0B.mp O with q|q
   . exact(Iv h.nd h.mem hp).mp F p q
   rw[A1C.mp q];exact hi
 rintro⟨hp,F⟩;have:=(Iv h.nd hm hp).mp F;exact⟨⟨hp,(Iv h.nd h.mem hp).mpr λp O=>this p (BZ _ O)⟩,this (x,y) (CI _ (A1C.mpr rfl))⟩
noncomputable def Dg (K:W.Frag)(n:Nat):Sp:=λvs H Q _=>∃ f l v ol ns ps rows ys,vs=[.ref f,v,.ref ol]/\Feed H f l/\(44,ns,v)/\H ol=(2,ys)/\(I,rows.map nmD,ys)/\(E,ps)/\ns.length<=10/\Rows ns ps rows/\ps.length+rows.length<=900/\0<rows.length/\rows.length<=n/\n<=125/\∀ u D m H',(h,f)->Feed H' f l->PlanP ns ps D m->m<rows.length->(Y,D,u)->Q u H'
noncomputable def He (K:W.Frag):Sp:=Dg K 125
theorem Kr:∀ vs H Q E,¬ Dg K 0 vs H Q E:=by rintro vs H Q E ⟨f,l,v,F,ns,ps,rows,ys,_,_,_,_,_,_,_,_,_,h1,h2,_⟩;omega
theorem Pu (F:(v,"_law_plan",Gv))(T:Dp mg)(A7:(76,P,w,K,1,["_law_feed_here","_law_many"],Av K))(C6:(o,1,"_law_parts",["_law_orders_here","_law_one","_law_other_here"],Do K))(Cb:(o,2,"_law_questions",["_law_names_here","_law_orders_here"],Cq K))(n:Nat)(Dt:(o,(3+n),"_law_plan",["_law_feed_here","_law_names_here","_law_orders_here"],Dg K n)):FnOk P w K mg base CX0 (3+n+1) f fd ["_law_feed_here","_law_names_here","_law_orders_here"] (Dg K (n+1)):=by
 refine F.ok D9 (λvs H Q E h=>?_) (λbP A outer s H vs Q E O h=>?_)
 . obtain⟨f,l,v,ol,ns,ps,rows,ys,rfl,_⟩:8:=h;rfl
 obtain⟨f,l,v,ol,ns,ps,rows,ys,rfl,hF,hN,hO,hL,Y,a1,hR,bW,bX,bY,hn,k⟩:8:=h;have hu:=Bp O;have hq:=Bs O;have bO:=AL hL;rw[BA] at bO
 with_reducible refine⟨_,((11,(50,hq,(38,(Au (K:=K)),2),A4,Ax _),(l,Ay (22,Ar,(r,2))))
  (A3 (28,D9.nd,(10,Cb,O.mono ∅,1,(7,2)))
  (A3 (75,D9.nd,'b',Pz (K:=K) (26,(w,3,(P,A7,O.mono ∅,0,(38,(Au (K:=K)),3))),A4) (26,Bi (22,A4,Xx Pf A4),(P,A7,O.mono ∅,0,A4)))
  (A3 (Vw (10,C6,O.mono ∅,2,(22,(r,4),(r,4))) (Mw (K:=K) (n:=2) ⋯ (E5 (Ae (i:=5) D9.nd ⋯ 'b') (E5 (Ae (i:=6) D9.nd ⋯ 'b') Na))))
  (A3 (113,D9.nd,'b',(10,Dt,O.mono ∅,0,(39,1,5)))
  ((l,Ay (A1 Ar (W,(r,4),(r,4),(54,7,(10,Dt,O.mono ∅,0,(39,1,6)))))))))))),?_⟩
 symm;refine Iy (λhc=>?_) (λhc=>?_)
 . have h1:rows.length=1:=by have:=V.int.inj hc;omega
   obtain⟨row,rfl⟩:=List.length_eq_one_iff.mp h1;have he:ext (Ac ps) ns.length ns=[row]:=List.perm_singleton.mp hR.symm;obtain⟨y0,r0,rfl,aX,bH⟩:2:=Bh hL;have:r0=[]:=by simpa only[List.map_nil,L2.IsL] using bH
   subst this;symm;refine Fv hO 'e' ?_;symm;refine Aw (A9 'c') λt H1 ht e1 h1=>?_;symm;exact k (.ref t) _ 0 H1 e1.but (hF.same e1) (.fin he) 'c' (AN (AK h1) (84,Bf,aX.nm_fz e1.fz))
 have h2:2<=rows.length:=by
  rcases Nat.lt_or_ge 1 rows.length with q|q
  . exact q
  exact absurd (by rw[show ys.length=1 by omega];rfl) hc
 have a4:∀ r∈rows,∀ x∈ns,x∈r:=λr O x U=>((C3 (Ac ps) ns.length ns r Y.nd rfl).mp (hR.mem_iff.mp O)).1.mem_iff.mpr U;have b7:(20,ps)=rows.length:=hR.length_eq.symm
 have hQ:quK ns (Rm rows) ns.length=quP ns ps:=by rw[<- YM Y];refine congrArg (λA=>quK ns A ns.length) (funext λx=>funext λy=>?_);exact SQ hR x y
 symm;refine⟨v,ol,ns,rows,ys,rfl,.of hN,AJ hO,hL,a4,a1,by omega,λq zs H1 bF e1 h1 a3=>?_⟩;rw[hQ] at a3;have aM:=AL a3;unfold quP at aM;rw[BA] at aM
 have c3:0<((O,ns)).length:=by obtain⟨x,U,y,Z,bN,a0⟩:421:=LN Y ∅;exact Y9 bN a0 U Z
 have c2:((O,ns)).length<=1000:=by have h1:=Uu ns (Rm rows) ns.length;rw[hQ] at h1;unfold quP at h1;rw[BA] at h1;exact BI h1 (BI (DW a1 a1) nofun)
 have aR:Feed H1 f l:=hF.same e1;symm;refine⟨f,l,_,rfl,aR,by omega,by omega,λu H2 c0 c1 e2 a8=>?_⟩;have a5:Fz H1 H2:=by walk_at "fz"
 have bG:q≠f:=Ne.symm (hF.nd bF);have aO:=e2 _ _ bG h1;have b6:=AM a5 _ _ (C7 _ (λ_=>So ..) _) a3;have aL:u.toNat<zs.length:=by omega
 obtain⟨dd,hd,b1⟩:1:=IsL.get b6 (BJ aL);rw[BK] at hd;obtain⟨pr,aJ,rfl⟩:1:=A56.mp hd;obtain⟨aE,aF,aK⟩:0:=Px (BG aJ);have aI:=Wg Y.nd (BG aJ);symm;refine Fv aO (by have:=Ci (BJ aL);rwa[show((u.toNat:Nat):Int)=u by omega] at this) ?_;obtain⟨ua,ux,bK,bM,bL⟩:2:=AS b1;obtain⟨pv,u1,rfl,b0,_⟩:2:=Bh bL;rw[bK];symm;refine D5 bM (show atI (pv :: u1) ((0:Nat):Int)=some pv from Ci rfl) ?_;obtain⟨pa,px,rfl,bD,bC⟩:2:=AS b0;have bE:=AX (ns:=[pr.1,pr.2]) bC;subst bE;symm;refine Bk (A9 'c') λl3 H3 b9 e3 h3=>?_;have aS:Feed H3 f l:=a8.same e3;symm;refine⟨f,l,_,rfl,aS,by omega,by omega,λw H4 c4 c5 e4 aT=>?_⟩;have a6:Fz H3 H4:=by walk_at "fz"
 have aP:=e4 _ _ (Ne.symm (a8.nd b9)) h3;symm
 obtain⟨kk,hkk,hat⟩:∃ kk:Int,(kk=1\/kk = -1)/\atI [V.int 1,V.int (-1)] w=some (V.int kk):=by
  rcases(show w=0\/w=1 by omega) with rfl|rfl
  . exact⟨1,.inl rfl,rfl⟩
  exact⟨-1,.inr rfl,rfl⟩
 refine Fv aP hat ?_;symm;refine RN ((e3.fz.trans a6).seq bD) hkk λpb H5 e5 aG=>?_
 obtain⟨x,y,hxy',U,Z,a0,hpb'⟩:∃ x y:Str,x≠y/\x∈ns/\y∈ns/\unB ps x y=true/\SqT K H5 pb [.str x,.str y]:=by
  rcases hkk with rfl|rfl
  . exact⟨pr.1,pr.2,aI,aE,aF,aK,aG⟩
  exact⟨pr.2,pr.1,Ne.symm aI,aF,aE,Mn aK,aG⟩
 have b5:ExtBut f H H5:=((ExtBut.same (ExtBut.after e1 e2) e3).trans e4).same e5;have aU:=aT.same e5;have a7:Fz H H5:=(((e1.fz.trans a5).trans e3.fz).trans a6).trans e5.fz;have aQ:=b5 _ _ (hF.lst hO) hO;have b2:=AM a7 _ _ (Ma rows) hL;have aA:=hN.nm_fz a7;have aB:=Nq Y hR U Z;have aC:=Nq Y hR Z U;have bQ:=aB.length_eq;have bR:=aC.length_eq;have b8:=MG Y U Z hxy';obtain⟨bI,bJ⟩:=(KG Y U Z hxy').mpr a0;unfold L2.cnt at b8 bI bJ b7;symm;refine D5 hpb' 'e' ?_;symm;refine D5 hpb' 'e' ?_;symm;refine⟨ol,x,y,rows,ys,rfl,AJ aQ,b2,λr O=>⟨a4 r O _ U,a4 r O _ Z⟩,by omega,λt la lb ya yb H6 e6 ht bA c6 aD c7 b3 b4 bU bV=>?_⟩;have a9:=aU.same e6;have bB:=e6.seqT hpb';refine JH ht ?_;symm;refine⟨f,l,v,la,ns,ps++[(x,y)],_,ya,rfl,a9,aA.nm_fz e6.fz,bA,b3,Y.saidP ∅ U Z hxy' a0,a1,aB,by rw[BL,CU];omega,by omega,by omega,by omega,λu1 D1 m1 H7 e7 aV p1 bS aY=>?_⟩;have a2:Fz H6 H7:=by walk_at "fz"
 have aH:=a2.seq bB;symm;refine D5 aH 'e' ?_;symm;refine D5 aH 'e' ?_;symm;refine⟨f,l,v,lb,ns,ps++[(y,x)],_,yb,rfl,aV,(aA.nm_fz e6.fz).nm_fz a2,e7 _ _ (a9.lst aD) aD,AM a2 _ _ (Ma _) b4,Y.saidP ∅ Z U (Ne.symm hxy') (Mn a0),a1,aC,by rw[BL,CU];omega,by omega,by omega,by omega,λu2 D2 m2 H8 e8 aW p2 bT aZ=>?_⟩;have aN:Fz H7 H8:=by walk_at "fz"
 symm;refine Aw (A9 'c') λt9 H9 bZ e9 h9=>?_;symm;refine k (.ref t9) _ _ H9 ((((ExtBut.same b5 e6).trans e7).trans e8).same e9) (aW.same e9) (.ask U Z hxy' a0 p1 p2) ∅ (AN (AK h9) (32,Bf,Bf,(32,Bf,AR (aN.trans e9.fz) _ _ (Ev p1) aY,.one (AR e9.fz _ _ (Ev p2) aZ))))
theorem Rx (F:(v,"_law_plan",Gv))(T:Dp mg)(O:(76,P,w,K,1,["_law_feed_here","_law_many"],Av K))(U:(o,1,"_law_parts",["_law_orders_here","_law_one","_law_other_here"],Do K))(Cb:(o,2,"_law_questions",["_law_names_here","_law_orders_here"],Cq K))(hm:mg "_law_plan" = (3,f))(Y:(V,K,f)=true)(hb:(37,K,["_law_feed_here","_law_names_here","_law_orders_here"],[])):FnOk P w K mg base CX0 128 f fd ["_law_feed_here","_law_names_here","_law_orders_here"] (He K):=by
 have h:∀ n:Nat,FnOk P w K mg base CX0 (3+n) f fd ["_law_feed_here","_law_names_here","_law_orders_here"] (Dg K n):=λn=>by
  induction n with
  |zero=>exact FnOk.void Kr
  |succ n ih=>exact Pu F T O U Cb n ⟨f,fd,ih,hm,Y,hb⟩
 exact h 125
theorem Zw {k:Nat}:∀ {ds:AD},(∀ e∈ds,e.weight<=k)->PyData.weightAll ds<=ds.length*(k+1)
 | [],_=>by simp only[PyData.weightAll];omega
 |d :: ds,h=>by have h1:=h d 'c';have h2:=Zw (ds:=ds) λe he=>h e (by simp[he]);simp only[PyData.weightAll,List.length_cons,Nat.succ_mul];omega
theorem NX (h:Kj z=true):Asc z:=λc F=>by unfold Kj at h;rw[CA,A1N] at h;have:=h.2 c F;unfold Kl at this;rw[CA,FX,FX] at this;omega
theorem KQ {p W:Nat}{ns:AA}(h:∀ z∈ns,Kj z=true)(hl:ns.length<=W):Els p (ns.length*9) W (ns.map PyData.str):=by
 refine⟨λe he=>?_,?_,by simpa using hl⟩
 . obtain⟨z,hz,rfl⟩:1:=A0D.mp he;exact⟨8,M0 (NX (h z hz)) (NZ (h z hz))⟩
 have:=Zw (k:=8) (ds:=ns.map PyData.str) λe he=>by obtain⟨z,hz,rfl⟩:1:=A0D.mp he;simp only[PyData.weight];exact NZ (h z hz)
 simpa using this
theorem LG {p W:Nat}{q:Str×Str}(h1:Kj q.1=true)(h2:Kj q.2=true)(F:2<=W):Dk (p+1) 18 W (prD q):=by
 have:=KQ (p:=p) (W:=W) (ns:=[q.1,q.2]) (λz hz=>by
  simp only[List.mem_cons,List.not_mem_nil,or_false] at hz;rcases hz with rfl|rfl
  . exact h1
  exact h2) F
 exact Gw this
theorem LY {p W:Nat}(h:NmP ps)(hl:ps.length<=W)(O:2<=W):Els (p+1) (ps.length*19) W (ps.map prD):=by
 refine⟨λe he=>?_,?_,by simpa using hl⟩
 . obtain⟨q,F,rfl⟩:1:=A0D.mp he;exact⟨18,LG (h q F).1 (h q F).2 O⟩
 have:=Zw (k:=18) (ds:=ps.map prD) λe he=>by obtain⟨q,F,rfl⟩:1:=A0D.mp he;exact(LG (p:=0) (h q F).1 (h q F).2 O).wt
 simpa using this
structure HR (ns:AA)(ps:AB):Prop where
 w:(E,ps)
 nm:∀ z∈ns,Kj z=true
 few:ns.length<=10
 le:ps.length<=60
 cn:(20,ps)<=120
theorem Nn {ps':AB}(h:∀ p,p∈ps'->p∈ps)(g:Way ps' x y):Way ps x y:=by
 induction g with
 |one e=>exact .one (h _ e)
 |cons e _ ih=>exact .cons (h _ e) ih
theorem Ur {b:Str->Str->Bool}:∀(n:Nat) (L:AA),L.length=n->L.Nodup->cnt b L<=fac n
 |0,L,h,_=>by rw[A18.mp h,L2.cnt_nil];exact BE _
 |n+1,L,h,hn=>by
   rw[Ki hn (by intro z;rw[z] at h;cases h)];have h1:(((e,L)).map λx=>cnt b (c,L)).sum<=(((e,L)).map λ_=>fac n).sum:=Vr λx O=>Ur n ((c,L)) (by have:=Ba hn (mem_frF.mp O).1;omega) (B6 hn x);have h2:(((e,L)).map λ_=>fac n).sum=((e,L)).length*fac n:=by rw[List.map_const',List.sum_replicate_nat]
   have F:((e,L)).length<=n+1:=by rw[<- h];exact CM _ _
   have U:=JA (fac n) F;have Y:fac (n+1)=(n+1)*fac n:=by first | rfl | (show fac n*(n+1)=_;exact GB _ _)
   omega
theorem NQ {ns:AA}(h:Half ns ps)(F:ns.length<=5):HR ns ps:=by refine⟨h.w,h.names.2,by omega,h.le,BI (Ur _ ns rfl h.w.nd) ?_⟩;rcases(show ns.length=0\/ns.length=1\/ns.length=2\/ns.length=3\/ns.length=4\/ns.length=5 by omega) with e|e|e|e|e|e<;>rw[e]<;>decide
structure Lev (done lev:AA)(S:AB)(many:Nat):Prop where
 mem:∀ p∈S,p.1∈done/\p.2∈done
 sub:∀ e∈lev,e∈done
 up:∀ d∈done,d∈lev\/∀ e∈lev,Way S d e
 ne:lev=[]->done=[]
 irr:∀ x,¬ Way S x x
 cn:cnt (Ac S) done<=many
 three:lev.length<=3
 len:S.length<=3*done.length
theorem Qn {done:AA}(h:∀ p∈S,p.1∈done/\p.2∈done)(g:Way S x y):x∈done/\y∈done:=by
 induction g with
 |one e=>exact h _ e
 |cons e _ ih=>exact⟨(h _ e).1,ih.2⟩
theorem VL:Lev [] [] [] 1:=⟨λp h=>(by cases h),λe h=>(by cases h),λd h=>(by cases h),λ_=>rfl,λx g=>(by have:=(Qn (done:=[]) (λp h=>(by cases h)) g).1;cases this),Nat.le_refl _,by simp,by simp⟩
theorem RK {done lev fresh:AA}{many:Nat}(h:Lev done lev S many)(hn:(done++fresh).Nodup):Way (S++crs lev fresh) x y↔Way S x y\/(x∈done/\y∈fresh):=by
 have F:∀ z,z∈done->z∈fresh->False:=λz h1 h2=>(A1D.mp hn).2.2 z h1 z h2 rfl;constructor
 . intro g
   induction g with
   |one e=>
     rcases A0B.mp e with e|e
     . exact .inl (.one e)
     obtain⟨h1,h2⟩:=mem_crs.mp e;exact .inr ⟨h.sub _ h1,h2⟩
   |cons e _ ih=>
     rcases A0B.mp e with e|e
     . rcases ih with ih|ih
       . exact .inl (.cons e ih)
       exact .inr ⟨(h.mem _ e).1,ih.2⟩
     obtain⟨h1,h2⟩:=mem_crs.mp e;rcases ih with ih|ih
     . exact(F _ (Qn h.mem ih).1 h2).elim
     exact(F _ ih.1 h2).elim
 rintro(g|⟨h1,h2⟩)
 . exact Nn (λp hp=>BZ _ hp) g
 rcases h.up x h1 with q|q
 . exact .one (CI _ (mem_crs.mpr ⟨q,h2⟩))
 cases hl:lev with
 |nil=>
   rw[h.ne hl] at h1
   cases h1
 |cons e es=>
   have he:e∈lev:=by rw[hl];exact BQ ..
   rw[<- hl];exact(Nn (λp hp=>BZ _ hp) (q e he)).trans (.one (CI _ (mem_crs.mpr ⟨he,h2⟩)))
theorem Lev.step {done lev fresh:AA}{many:Nat}(h:Lev done lev S many)(hn:(done++fresh).Nodup)(h0:fresh≠[])(h3:fresh.length<=3):Lev (done++fresh) fresh (S++crs lev fresh) (many*fac fresh.length):=by
 have U:=λx y=>RK h hn (x:=x) (y:=y);have O:∀ z,z∈done->z∈fresh->False:=λz h1 h2=>(A1D.mp hn).2.2 z h1 z h2 rfl;refine⟨λp hp=>?_,λe he=>CI _ he,λd hd=>?_,λz=>absurd z h0,λx g=>?_,?_,h3,?_⟩
 . rcases A0B.mp hp with hp|hp
   . exact⟨BZ _ (h.mem p hp).1,BZ _ (h.mem p hp).2⟩
   obtain⟨a,b⟩:=mem_crs.mp hp;exact⟨BZ _ (h.sub _ a),CI _ b⟩
 . rcases A0B.mp hd with hd|hd
   . exact .inr λe he=>(U d e).mpr (.inr ⟨hd,he⟩)
   exact .inl hd
 . rcases(U x x).mp g with g|g
   . exact h.irr x g
   exact O x g.1 g.2
 . have hb:∀ {x y:Str},Ac (S++crs lev fresh) x y=true↔Way S x y\/(x∈done/\y∈fresh):=wayB_iff.trans (U _ _);rw [Sf done.length rfl hn λx Y y F=>⟨hb.mpr (.inr ⟨Y,F⟩),?_⟩]
   . have Z:cnt (Ac (S++crs lev fresh)) done=cnt (Ac S) done:=Tu done.length rfl (A1D.mp hn).1 λx Y y F=>by
      cases e:Ac S x y with
      |true=>exact hb.mpr (.inl (wayB_iff.mp e))
      |false=>
        cases e':Ac (S++crs lev fresh) x y with
        |false=>rfl
        |true=>
          rcases hb.mp e' with g|g
          . rw[wayB_iff.mpr g] at e;cases e
          exact(O y F g.2).elim
     rw[Z];exact DW h.cn (Ur _ fresh rfl (A1D.mp hn).2.1)
   cases e:Ac (S++crs lev fresh) y x with
   |false=>rfl
   |true=>
     rcases hb.mp e with g|g
     . exact(O y (Qn h.mem g).1 F).elim
     exact(O y g.1 F).elim
 have:=h.len;have h4:=JA fresh.length h.three;rw[BL,Zq,BL];omega
noncomputable def Jj (K:W.Frag):Sp:=λvs H Q _=>∃ f l,vs=[.ref f]/\Feed H f l/\∀ v ns ps H',(h,f)->Feed H' f l->(Y,hfD ns ps,v)->HR ns ps->Q v H'
theorem Ud (F:(v,"_law_few",Lc))(T:Dp mg)(A7:(76,P,w,K,1,["_law_feed_here","_law_many"],Av K))(Db:(o,2,"_law_names",["_law_feed_here","_law_many"],Es K))(Bo:(o,2,"_law_shuffled",["_law_feed_here","_law_some"],Cw K))(Du:(o,4,"_law_half",["_law_feed_here","_law_most"],Fc K)):FnOk P w K mg base CX0 5 f fd ["_law_feed_here"] (Jj K):=by
 refine F.ok B5 (λvs H Q E h=>?_) (λcF A outer s H vs Q E Y h=>?_)
 . obtain⟨f,l,rfl,_⟩:2:=h;rfl
 obtain⟨f,l,rfl,hF,k⟩:2:=h;have hu:=Bp Y;have hq:=Bs Y
 with_reducible refine⟨_,((11,(50,hq,(P,A7,(Y.mono nofun),0,A4),A4,Ax _),(l,(P,Du,(Y.mono nofun),0,A4)))
  ((69,B5.nd,⋯,'b',(P,Db,(Y.mono nofun),0,(P,A7,(Y.mono nofun),0,A4)))
  (A3 (27,B5.nd,(10,Bo,(Y.mono nofun),0,(7,1)))
  (A3 (28,B5.nd,Bi A2)
  (A3 (75,B5.nd,'b',Bi A2)
  ((100,B5.nd,⋯,'b',A4)
  (A3 (Mc BW (21,Pg (K:=K) hq,pv 2,Bi A2,_)
  (A3 (127,B5.nd,'b',Ai (UA ⋯) ⋯ T.b_min PyProof.Rows.Boot.«min» (22,(38,(Au (K:=K)),2),(26,Bi (W,A4,A4,(W,A4,A4,A2)),(P,A7,(Y.mono nofun),0,A4))))
  ((11,(21,Ul,(F,D3,5,(26,Bi (W,A4,A4,(W,A4,A4,A2)),pv 6)),A4,_),A6 (127,B5.nd,'b',A4))
  ((100,B5.nd,⋯,'b',(F,D3,5,(26,Bi (W,A4,A4,(W,A4,A4,A2)),pv 6)))
  (A3 (113,B5.nd,'b',(33,(Oe (K:=K)),2,Ck,Bd (pv 6)))
  (A3 (27,B5.nd,(33,(Oe (K:=K)),2,Bd (pv 6),Ck))
  (A3 ((51,BW,pv 3,Ae (i:=8) B5.nd ⋯ (by with_unfolding_all exact CJ rfl))
  (A6 (75,B5.nd,'b',(F,(Aj (K:=K)),4,(40,["_law_other_here"],["_law_one"],[8],pv 7,(λ_ _ _ _=>((13,(by with_unfolding_all (show(["_law_other_here","_law_one"]:AA).Nodup;decide +kernel))))),(Be nofun),(λ_ _ _ _=>Df),(λ_ _ _ _=>(Ay (39,1,0))))))))
  (A6 (28,B5.nd,pv 7)))))))))
  ((l,Ay (22,(103,(C0 (K:=K)),⋯,(7,1)),(103,(C0 (K:=K)),⋯,(8,(10,Bo,(Y.mono nofun),0,(7,4)))))))))))))),?_⟩
 symm;refine⟨f,l,_,rfl,hF,by omega,by omega,λu H1 d8 d9 e1 b9=>?_⟩;symm;refine Iy (λhc=>?_) (λhc=>?_)
 . symm;refine⟨f,l,_,rfl,b9,by omega,by omega,λv ns ps H2 e2 aQ hI hH hl=>?_⟩;exact k v ns ps H2 (e1.trans e2) aQ hI (NQ hH ∅)
 symm;refine⟨f,l,_,rfl,b9,by omega,by omega,λu2 H2 dA dB e2 aQ=>?_⟩;symm;refine⟨f,l,_,rfl,aQ,by omega,by omega,λp3 ns H3 cY e3 bA h3 hN cR=>?_⟩;symm;refine⟨f,l,p3,_,rfl,bA,.inl (AJ h3),by rw[BA];omega,λp4 dK H4 cZ e4 bB h4 c6=>?_⟩;obtain⟨sh,rfl,a6⟩:1:=Ss c6;have b6:=e4 _ _ (bA.lst h3) h3;have bG:sh.Nodup:=a6.nodup_iff.mpr hN.1;have d4:=a6.length_eq;symm;refine Bk (A9 'c') λp5 H5 d0 e5 h5=>?_;symm;refine Bk (A9 'c') λp6 H6 d1 e6 h6=>?_;symm;have aI:=e5.trans e6
 refine Pq (λmm σ H'=>∃ lf lv sy rest done lev S,∃ many:Nat,∃ x6 x7 x8,∃ zs,σ=[(3,f),(3,p3),(3,lf),(3,lv),(3,sy),(K,((many:Nat):Int)),x6,x7,x8]/\ExtBut f H4 H'/\Feed H' f l/\H' lf=(2,rest.map V.str)/\H' lv=(2,lev.map V.str)/\H' sy=(2,zs)/\IsL K H' (S.map prD) zs/\sh=done++rest/\Lev done lev S many/\1<=many/\many<=24/\mm=rest.length) sh.length
  ⟨p4,p5,p6,sh,[],[],[],1,_,_,_,[],rfl,aI.but,bB.same aI,aI _ _ h4,e6 _ _ h5,h6,.nil,rfl,VL,BE _,by omega,rfl⟩ (λmm σ' H7 hP=>?_)
 obtain⟨lf,lv,sy,rest,done,lev,S,many,x6,x7,x8,zs,rfl,b7,bC,aO,b8,aP,aS,aC,hV,c4,cP,rfl⟩:12:=hP;have c9:∀ z∈rest,z∈ns:=λz hz=>a6.mem_iff.mp (by rw[aC];exact CI _ hz);have cO:done.length+rest.length=sh.length:=by rw[aC,BL]
 symm;refine Bk nofun λt8 H8 d7 U h8=>?_;refine MA (dx:=.list (rest.map PyData.str)) (dy:=.list []) (Is.of_lst (AJ (U _ _ aO)) (Nc rest)) (Is.of_lst (AJ h8) .nil) (RP λz hz=>(JC (hN.2 z (c9 z hz))).1) 'e' ?_;rw[T3];symm;refine T2 (λhE=>?_) (λhE=>?_)
 . have c5:rest≠[]:=by
    intro e;subst e
    cases hE
   have d3:=A5O.mpr c5;have a3:=bC.same U;refine Vm ?_;symm;refine Bk (A9 'c') λp9 H9 d2 e9 h9=>?_;have a4:=a3.same e9;symm;refine⟨f,l,_,rfl,a4,by omega,by omega,λw bI dC dD a1 aG=>?_⟩;have aF:=a4.fz a1;have bP:=a1 _ _ (a4.lst h9) h9
   obtain⟨c,hc3,hat⟩:∃ c:Int,(1<=c/\c<=3)/\atI [V.int 1,V.int 1,V.int 2,V.int 3] w=some (V.int c):=by
    rcases(show w=0\/w=1\/w=2\/w=3 by omega) with rfl|rfl|rfl|rfl
    . exact⟨1,by omega,rfl⟩
    . exact⟨1,by omega,rfl⟩
    . exact⟨2,by omega,rfl⟩
    exact⟨3,by omega,rfl⟩
   symm;refine Fv bP hat ?_;symm;refine⟨_,_,rfl,?_⟩
   obtain⟨O,hs0,hs1⟩:∃ O:Nat,(1<=O/\O<=3/\O<=rest.length)/\(if c<((rest.map V.str).length:Int) then c else((rest.map V.str).length:Int))=(O:Int):=by
    rw[BA]
    split
    . exact⟨c.toNat,by omega,by omega⟩
    exact⟨rest.length,by omega,rfl⟩
   walk_at "rq";rw[hs1];refine Ow (fun σ' H'=>∃ sz:Nat,σ'=[(3,f),(3,p3),(3,lf),(3,lv),(3,sy),(K,((many:Nat):Int)),(K,((sz:Nat):Int)),x7,x8]/\ExtBut f H8 H'/\Feed H' f l/\Fz H8 H'/\1<=sz/\sz<=3/\sz<=rest.length/\many*fac sz<=24) (λN bD=>?_) (fun σ' H' hM=>?_)
   . have aT:atI [V.int 1,V.int 1,V.int 2,V.int 6] (O:Int)=some (V.int ((fac O:Nat):Int)):=by rcases(show O=1\/O=2\/O=3 by omega) with rfl|rfl|rfl<;>rfl
     have cL:fac O<=6:=by rcases(show O=1\/O=2\/O=3 by omega) with rfl|rfl|rfl<;>decide
     symm;refine Bk (A9 'c') λdH aX cT Z bQ=>?_;symm;refine Fv bQ aT ?_;symm;have b1:ExtBut f H8 aX:=(ExtBut.after e9 a1).same Z;have b2:=(e9.fz.trans aF).trans Z.fz;refine Iy (λhb=>?_) (λhb=>?_)
     . symm;exact bD _ _ ⟨1,rfl,b1,aG.same Z,b2,by omega,by omega,by omega,by show many*1<=24;omega⟩
     symm;exact bD _ _ ⟨O,rfl,b1,aG.same Z,b2,by omega,by omega,by omega,by rw[<- Int.natCast_mul] at hb;omega⟩
   obtain⟨sz,rfl,aD,bV,bN,dE,cA,dF,cB⟩:1:=hM
   have aT:atI [V.int 1,V.int 1,V.int 2,V.int 6] (sz:Int)=some (V.int ((fac sz:Nat):Int)):=by rcases(show sz=1\/sz=2\/sz=3 by omega) with rfl|rfl|rfl<;>rfl
   have b3:=aD _ _ (a3.lst (U _ _ aO)) (U _ _ aO);have b4:=aD _ _ (a3.lst (U _ _ b8)) (U _ _ b8);have bR:=aD _ _ (a3.lst (U _ _ aP)) (U _ _ aP);symm;refine Bk (A9 'c') λdI aY cU a0 aK=>?_;symm;refine Fv aK aT ?_;symm;refine O3 (AJ (a0 _ _ b3)) λaW cE cV b0 aL=>?_;symm;refine O3 (AJ (b0 _ _ (a0 _ _ b3))) λbH bJ cW aH b5=>?_;rw[Gh ∅,Int.toNat_natCast,<- FT] at aL;rw[Ih ∅ (by rw[BA];omega),Int.toNat_natCast,<- FU] at b5;have a9:=(a0.trans b0).trans aH;symm;refine Jk (AJ (a9 _ _ b4)) ?_
   refine Dq (Bq (xs:=lev.map V.str)) (λj σ' H'=>∃ a7 a8 y8,σ'=[(3,f),(3,p3),(3,bH),(3,lv),(3,a7),(K,(((many*fac sz:Nat)):Int)),(K,((sz:Nat):Int)),(3,aW),y8]/\Same bJ H'/\H' a7=(2,a8)/\IsL K H' ((S++crs (lev.take j) (rest.take sz)).map prD) a8)
    ⟨sy,zs,_,by rw[Int.natCast_mul];rfl,.refl _,a9 _ _ bR,?_⟩ (λj σ' H' hP=>?_) (λj x σ' bK hx hj hP=>?_) (fun σ' bK hP=>?_)
   . rw[List.take_zero,show crs [] (rest.take sz)=[] from rfl,DE];exact AM ((U.fz.trans bN).trans a9.fz) _ _ (Bv S) aS
   . obtain⟨a7,a8,y8,_,e,_⟩:3:=hP;exact AJ (e _ _ (a9 _ _ b4))
   . obtain⟨a7,a8,y8,rfl,a2,aM,aB⟩:3:=hP;rw[BK] at hx;obtain⟨z,hz,rfl⟩:1:=A56.mp hx;have bS:=a2 _ _ (aH _ _ aL);have aV:=IsL.length aB;rw[BA,BL,Zq] at aV;have cI:=DW (List.length_take_le j lev) (List.length_take_le sz rest);have cJ:=Nat.mul_le_mul_left j cA;have cM:j<=3:=by rw[BA] at hj;have:=hV.three;omega
     have bZ:=hV.len;symm;refine W2 (ns:=rest.take sz) ⟨aW,rfl,.inl (AJ bS)⟩ (λ_=>true) (λo=>prD (z,o)) (λ_=>Fe _) (by rw[CD];omega) (λjj o bL R R' ho aE hR cG=>?_) (λlc yc bL cN aE bT aR=>?_)
     . symm;refine Aw (A9 'c') λdJ bM d6 aA aN=>?_;exact hR rfl _ _ aA (AN (AK aN) (84,Bf,Bf))
     have c3:(rest.take sz).filter (λ_=>true)=rest.take sz:=A4C.mpr λ_ _=>rfl;rw[c3] at aR;have c0:=AL aR;rw[BA,CD] at c0;symm;refine Pb (aE _ _ aM) bT (A9 ∅) λcC bM cX aA aN=>?_;symm;refine⟨cC,_,_,rfl,(a2.trans aE).trans aA,aN,?_⟩
     have c1:S++crs (lev.take (j+1)) (rest.take sz)=(S++crs (lev.take j) (rest.take sz))++(rest.take sz).map λo=>(z,o):=by rw[CC,hz];unfold crs;simp[List.flatMap_append]
     rw[c1,BU,CG];exact AW (AM (aE.trans aA).fz _ _ (Bv _) aB) (AM aA.fz _ _ (C7 _ (λ_=>Fe _) _) aR)
   obtain⟨a7,a8,y8,rfl,a2,aM,aB⟩:3:=hP;rw[BA,CF] at aB;have bF:sh=(done++rest.take sz)++rest.drop sz:=by rw[CK,FF];exact aC
   have aU:(rest.take sz).length=sz:=by rw[CD];omega
   have hnd:(done++rest.take sz).Nodup:=by rw[bF] at bG;exact(A1D.mp bG).1
   have bE:=hV.step hnd (λq=>by rw[q] at aU;simp at aU;omega) ∅;rw[aU] at bE;have c2:1<=fac sz:=by rcases(show sz=1\/sz=2\/sz=3 by omega) with rfl|rfl|rfl<;>decide
   have cQ:=DW c4 c2;have aZ:=a9.trans a2;symm;exact⟨(rest.drop sz).length,by rw[CL];omega,bH,aW,a7,rest.drop sz,done++rest.take sz,rest.take sz,S++crs lev (rest.take sz),many*fac sz,_,_,_,a8,rfl,(((b7.same U).trans aD).same aZ),bV.same aZ,a2 _ _ b5,a2 _ _ (aH _ _ aL),aM,aB,bF,bE,by omega,cB,rfl⟩
 have c8:rest=[]:=by
  cases rest with
  |nil=>rfl
  |cons z zs=>cases hE
 subst c8;rw[DE] at aC;subst aC;have a3:=bC.same U;have bU:H8 p3=some (.lst (ns.map V.str)):=U _ _ (b7 _ _ (bB.lst b6) b6);symm;refine LH bU (Nc ns) λtv H9 e9 bW=>?_;have a4:=a3.same e9;have aJ:=U.trans e9;have aV:=AL aS;rw[BA] at aV;have bZ:=hV.len;symm;refine⟨f,l,sy,zs,rfl,a4,.inl (AJ (aJ _ _ aP)),by omega,λdG ys bI cS a1 aG bO c7=>?_⟩;have aF:=a4.fz a1;obtain⟨S',a5,bX⟩:1:=Za c7 (AM (aJ.fz.trans aF) _ _ (Bv S) aS);symm;refine Lb bO bX λpv aX Z bY=>?_;symm;refine Aw (A9 'c') λcD aY d5 a0 aK=>?_;symm
 have hw:Ac S'=Ac S:=funext λx=>funext λy=>by
  cases e:Ac S x y with
  |true=>exact wayB_iff.mpr (Nn (λp hp=>a5.mem_iff.mpr hp) (wayB_iff.mp e))
  |false=>
    cases e':Ac S' x y with
    |false=>rfl
    |true=>rw[wayB_iff.mpr (Nn (λp hp=>a5.mem_iff.mp hp) (wayB_iff.mp e'))] at e;cases e
 have cH:=a5.length_eq
 have cK:(20,S')<=many:=by rw[hw,<- QW hN.1 a6];exact hV.cn
 exact k (.ref cD) ns S' aY (((((((e1.trans e2).trans e3).trans e4).trans b7).same aJ).trans a1).same (Z.trans a0)) (aG.same (Z.trans a0)) (HG (AK aK) (bW.nm_fz (aF.trans (Z.trans a0).fz)) (bY.ps_fz a0.fz))
  ⟨⟨hN.1,λp hp=>⟨a6.mem_iff.mp (hV.mem p (a5.mem_iff.mp hp)).1,a6.mem_iff.mp (hV.mem p (a5.mem_iff.mp hp)).2⟩,λx g=>hV.irr x (Nn (λp hp=>a5.mem_iff.mp hp) g),by omega,by omega⟩,hN.2,by omega,by omega,by omega⟩
theorem Qx (h:Ac ps=Ac qs)(p:Str×Str):Ac (ps++[p])=Ac (qs++[p]):=by
 have F:∀ a b,Way ps a b↔Way qs a b:=λa b=>by rw[<- wayB_iff,<- wayB_iff,h]
 funext a b;exact Nv (by rw[show p=(p.1,p.2) from rfl,way_said,way_said,F,F,F])
theorem VD (h:Ac ps=Ac qs)(ns:AA):(O,ns)=unP ns qs:=by unfold unP unK unR unB;rw[h]
theorem NJ (h:Ac ps=Ac qs)(ns:AA)(p:Str×Str):qMn ns ps p=qMn ns qs p:=by unfold qMn qA qB;rw[Qx h,Qx h]
inductive PlanB (ns:AA):AB->PyData->Nat->Prop
 |fin {ps:AB} {row:AA} (he:ext (Ac ps) ns.length ns=[row]):PlanB ns ps (Y7 row) 0
 |ask {ps:AB} {x y:Str} {D1 D2:PyData} {m1 m2:Nat} (hp:(x,y)∈(O,ns)) (hb:∀ p'∈(O,ns),qMn ns ps p'<=qMn ns ps (x,y)) (p1:PlanB ns (ps++[(x,y)]) D1 m1) (p2:PlanB ns (ps++[(y,x)]) D2 m2):PlanB ns ps (Ql x y D1 D2) (1+max m1 m2)
theorem PlanB.congr {ns:AA}(h:PlanB ns ps D m):∀ {qs:AB},Ac ps=Ac qs->PlanB ns qs D m:=by
 induction h with
 |fin he=>intro qs e;exact .fin (by rw[<- e];exact he)
 |@ask ps x y D1 D2 m1 m2 hp hb _ _ i1 i2=>intro qs e;have hu:=VD e ns;exact .ask (by rw[<- hu];exact hp) (λO F=>by rw[<- NJ e,<- NJ e];exact hb O (by rw[hu];exact F)) (i1 (Qx e _)) (i2 (Qx e _))
theorem PlanB.p {ns:AA}(hn:ns.Nodup)(h:PlanB ns ps D m):PlanP ns ps D m:=by
 induction h with
 |fin he=>exact .fin he
 |ask hp _ _ _ i1 i2=>obtain⟨h1,h2,F⟩:0:=Px hp;exact .ask h1 h2 (Wg hn hp) F i1 i2
theorem UM {ns:AA}(h:(E,ps))(hu:(O,ns)=[]):∃ row,ext (Ac ps) ns.length ns=[row]:=by
 have F:(20,ps)=1:=by
  have a0:=K1 (b:=Ac ps) (λx=>O2 h x) (λx y z a b=>wayB_iff.mpr ((wayB_iff.mp a).trans (wayB_iff.mp b))) ns.length ns rfl h.nd;rcases Nat.lt_or_ge 1 ((20,ps)) with q|q
  . obtain⟨x,U,y,Z,Y,O⟩:421:=LN h q;have:=Y9 Y O U Z;rw[hu] at this;simp at this
  omega
 exact List.length_eq_one_iff.mp F
noncomputable def Cv (P:Addr)(K:W.Frag)(n:Nat):Sp:=λvs H Q _=>∃ v ns ps,vs=[v]/\(15,v)/\(E,ps)/\ns.length<=10/\ps.length<=60/\(20,ps)<=n/\LmT P H/\∀ u D m H',(h,P)->LmT P H'->PlanB ns ps D m->(Y,D,u)->Q u H'
noncomputable def G8 (P:Addr)(K:W.Frag):Sp:=Cv P K 125
theorem Jg {P:Addr}:∀ vs H Q E,¬ Cv P K 0 vs H Q E:=by rintro vs H Q E ⟨v,ns,ps,_,_,h,_,_,F,_⟩;have O:=K1 (b:=Ac ps) (λx=>O2 h x) (λx y z a b=>wayB_iff.mpr ((wayB_iff.mp a).trans (wayB_iff.mp b))) ns.length ns rfl h.nd;omega
theorem JJ {P:Addr}(F:LmT P H)(e:(h,P)):Fz H H':=by obtain⟨ps,O⟩:=Nt F;exact Zk e O
theorem Oj (F:(v,"planned_on",Ff))(T:Dp mg)(Ox:(o,5,"said",["half","name","other"],Qo K))(Fw:(o,26,"order_of",["half","number"],Ge K))(Tx:(o,16,"best",["half"],R8 P_best K))(n:Nat)(D7:(o,(27+n),"planned_on",["half"],Cv P_best K n)):FnOk P w K mg base CX0 (27+n+1) f fd ["half"] (Cv P_best K (n+1)):=by
 refine F.ok Er (λvs H Q E h=>?_) (λaS A outer s H vs Q E U h=>?_)
 . obtain⟨v,ns,ps,rfl,_⟩:3:=h;rfl
 obtain⟨v,ns,ps,rfl,hI,O,Z,aT,aU,hT,k⟩:3:=h;have hu:=Bp U;have hq:=Bs U
 with_reducible refine⟨_,((69,Er.nd,⋯,'b',(14,Tx,U.mono ∅,(7,0)))
  ((11,(21,VQ,pv 1,Tl,_),(l,Ay (22,Ar,(P,Fw,U.mono ∅,0,A4))))
  (A3 (27,Er.nd,(26,(r,1),A4))
  (A3 (28,Er.nd,(26,(r,1),A4))
  ((l,Ay (A1 Ar (A1 (pv 2) (A1 (pv 3) (22,(14,D7,U.mono ∅,(8,(10,Ox,U.mono ∅,0,(39,2,3)))),(14,D7,U.mono ∅,(8,(10,Ox,U.mono ∅,0,(39,3,2)))))))))))))),?_⟩
 symm;refine⟨v,ns,ps,rfl,hI,O,Z,hT,λu1 H1 e1 a4 hB=>?_⟩;have aC:=JJ hT e1;have a1:=hI.hf_fz aC;rcases hB with ⟨rfl,aR⟩|⟨p,hp,aK,aN⟩
 . obtain⟨row,a9⟩:=UM O aR;symm;refine⟨v,ns,ps,0,row,rfl,a1,O,Z,by rw[a9];rfl,λu2 H2 e2 a2=>?_⟩;symm;refine Aw (A9 'c') λt3 H3 aW e3 h3=>?_;have a3:=e2.trans e3;exact k _ _ 0 H3 (ExtBut.same e1 a3) (a4.same a3) (.fin a9) (AN (AK h3) (84,Bf,a2.nm_fz e3.fz))
 obtain⟨hx,hy,Y⟩:0:=Px hp;have a0:=Wg O.nd hp;obtain⟨qa,qx,rfl,a8,aQ⟩:2:=AS aK;obtain⟨pv,q1,rfl,aJ,_⟩:2:=Bh aQ;obtain⟨pa,px,rfl,a7,aO⟩:2:=AS aJ;have aP:=AX (ns:=[p.1,p.2]) aO;subst aP;symm;refine Iy (λz=>by cases z) (λ_=>?_);symm;refine D5 a8 (show atI (V.ref pa :: q1) ((0:Nat):Int)=(3,pa) from Ci rfl) ?_;symm;refine D5 a7 (show atI _ 0=(64,p.1) from rfl) ?_;symm;refine D5 a8 (show atI (V.ref pa :: q1) ((0:Nat):Int)=(3,pa) from Ci rfl) ?_;symm;refine D5 a7 (show atI _ 1=(64,p.2) from rfl) ?_;have aV:=MG O hx hy a0;obtain⟨aY,aZ⟩:=(KG O hx hy a0).mpr Y
 have aA:¬ Way ps p.2 p.1:=λz=>by have:=wayB_iff.mpr z;unfold unB at Y;rw[this] at Y;simp at Y
 have aB:¬ Way ps p.1 p.2:=λz=>by have:=wayB_iff.mpr z;unfold unB at Y;rw[this] at Y;simp at Y
 obtain⟨b1,l1,w1⟩:0:=(O.said hx hy a0 aA ∅).ba10 Z;obtain⟨b2,l2,w2⟩:0:=(O.said hy hx (Ne.symm a0) aB ∅).ba10 Z;have c1:Ac (baP ns (ps++[(p.1,p.2)]))=Ac (ps++[(p.1,p.2)]):=funext λa=>funext λb=>Nv (w1 a b);have c2:Ac (baP ns (ps++[(p.2,p.1)]))=Ac (ps++[(p.2,p.1)]):=funext λa=>funext λb=>Nv (w2 a b);symm;refine⟨v,p.1,p.2,ns,ps,rfl,a1,O,by omega,hx,hy,a0,aA,λu2 H2 e2 a2=>?_⟩;have a5:=a4.same e2;symm;refine⟨u2,ns,_,rfl,a2,b1,Z,l1,by rw[c1];omega,a5,λu3 D1 m1 H3 e3 aL p1 aG=>?_⟩;have aD:=JJ a5 e3;have aF:=(a1.hf_fz e2.fz).hf_fz aD;symm;refine⟨v,p.2,p.1,ns,ps,rfl,aF,O,by omega,hy,hx,Ne.symm a0,aB,λu4 H4 e4 aH=>?_⟩;have a6:=aL.same e4;symm;refine⟨u4,ns,_,rfl,aH,b2,Z,l2,by rw[c2];omega,a6,λu5 D2 m2 H5 e5 aM p2 aI=>?_⟩;have aE:=JJ a6 e5;symm;refine Aw (A9 'c') λt6 H6 aX e6 h6=>?_;have q1:=p1.congr c1;have q2:=p2.congr c2;refine k _ _ _ H6 (((ExtBut.same e1 e2).trans e3).same e4 |>.trans e5 |>.same e6) (aM.same e6) (.ask hp aN q1 q2) (AN (AK h6) (32,Bf,Bf,(32,Bf,?_,.one ?_)))
 . exact AR ((e4.fz.trans aE).trans e6.fz) _ _ (Ev (q1.p O.nd)) aG
 exact AR e6.fz _ _ (Ev (q2.p O.nd)) aI
theorem Qk (F:(v,"planned_on",Ff))(T:Dp mg)(Ox:(o,5,"said",["half","name","other"],Qo K))(Fw:(o,26,"order_of",["half","number"],Ge K))(Tx:(o,16,"best",["half"],R8 P_best K))(hm:mg "planned_on" = (3,f))(O:(V,K,f)=true)(hb:(37,K,["half"],[])):FnOk P w K mg base CX0 152 f fd ["half"] (G8 P_best K):=by
 have h:∀ n:Nat,FnOk P w K mg base CX0 (27+n) f fd ["half"] (Cv P_best K n):=λn=>by
  induction n with
  |zero=>exact FnOk.void Jg
  |succ n ih=>exact Oj F T Ox Fw Tx n ⟨f,fd,ih,hm,O,hb⟩
 exact h 125
noncomputable def La (P:Addr)(K:W.Frag):Sp:=λvs H Q _=>∃ v ns ps,vs=[v]/\(15,v)/\(E,ps)/\ns.length<=10/\ps.length<=60/\(20,ps)<=125/\LmT P H/\∀ u D m H',(h,P)->LmT P H'->PlanB ns ps D m->(Y,D,u)->Q u H'
theorem Xa (F:(v,"planned",N2))(T:Dp mg)(U2:(o,14,"count",["half"],Qd K))(D7:(o,152,"planned_on",["half"],G8 P_best K)):FnOk P w K mg base CX0 153 f fd ["half"] (La P_best K):=by
 refine F.ok X4 (λvs H Q E h=>?_) (λa4 A outer s H vs Q E O h=>?_)
 . obtain⟨v,ns,ps,rfl,_⟩:3:=h;rfl
 obtain⟨v,ns,ps,rfl,Z,hW,Y,a0,a3,hT,k⟩:3:=h;have hu:=Bp O;have hq:=Bs O
 with_reducible refine⟨_,((11,(21,Ul,(14,U2,(O.mono nofun),(7,0)),J9 ⋯ T.g_MOST_LISTED,_),A6 M9)
  ((l,(14,D7,(O.mono nofun),(7,0))))),?_⟩
 symm;refine⟨v,ns,ps,rfl,Z,hW.c,Y,λH1 U=>?_⟩;symm;refine Iy (λhc=>absurd hc ∅) (λ_=>?_);symm;exact ⟨v,ns,ps,rfl,Z.hf_fz U.fz,hW,Y,a0,a3,hT.same U,λu D m H2 e2 a2 hB a1=>k u D m H2 (λb o hb z=>e2 _ _ hb (U _ _ z)) a2 hB a1⟩
noncomputable def ap7 (ns:AA)(ps:AB)(D:PyData):Prop:=∃ r,D=nmD r/\r∈ext (Ac ps) ns.length ns
theorem W4 {α:Type}[DecidableEq α]:∀ {as bs:List α},as.Nodup->(∀ z∈as,z∈bs)->bs.length<=as.length->as.Perm bs
 | [],bs,_,_,hl=>by rw[A18.mp (Nat.le_zero.mp hl)]
 |a :: as,bs,hn,hs,hl=>by have ha:a∈bs:=hs a 'c';obtain⟨h1,h2⟩:=A0W.mp hn;have F:=W4 (as:=as) (bs:=bs.erase a) h2 (λz hz=>(List.mem_erase_of_ne (λe:z=a=>h1 (by rw[<- e];exact hz))).mpr (hs z (by simp[hz]))) (by rw[List.length_erase_of_mem ha];simp at hl;omega);exact(List.Perm.cons a F).trans (List.perm_cons_erase ha).symm
theorem ZA (h:∀ d∈ds,∃ z,d = .str z):∃ r:AA,ds=r.map PyData.str:=by
 induction ds with
 |nil=>exact⟨[],rfl⟩
 |cons d ds ih=>obtain⟨z,rfl⟩:=h d 'c';obtain⟨r,rfl⟩:=ih λe he=>h e (by simp[he]);exact⟨z :: r,rfl⟩
noncomputable def aN4:PyData->Option Str
 |.str z=>some z
 |_=>none
theorem QG {d:PyData}(h:aN4 d=some z):d = .str z:=by
 cases d<;>simp[aN4] at h
 rw[h]
noncomputable def aO0 (ds:AD)(z:Str):Bool:=ds.any λe=>PyData.eqv e (.str z)
theorem hasZ_iff:aO0 ds z=true↔PyData.str z∈ds:=by unfold aO0;rw[A1E];exact⟨λ⟨e,he,h⟩=>eqv_str_iff.mp h ▸ he,λh=>⟨_,h,eqv_str_iff.mpr rfl⟩⟩
theorem Z0 {ns:AA}(hn:ns.Nodup)(hl:ds.length=ns.length)(h:∀ z∈ns,PyData.str z∈ds):∃ r:AA,ds=r.map PyData.str/\r.Perm ns:=by
 have hp:(ns.map some).Perm (ds.map aN4):=W4 (Fa hn λx _ y _ e=>BR e) (λz hz=>by obtain⟨x,F,rfl⟩:1:=A0D.mp hz;exact A0D.mpr ⟨_,h x F,rfl⟩) (by rw[BA,BA,hl];exact BE _)
 obtain⟨r,rfl⟩:=ZA (ds:=ds) λd hd=>by obtain⟨z,_,e⟩:1:=A0D.mp (hp.mem_iff.mpr (A0D.mpr ⟨d,hd,rfl⟩));exact⟨z,QG e.symm⟩
 refine⟨r,rfl,?_⟩;have:=hp.filterMap id;rw[CG] at this;simpa[List.filterMap_map,Function.comp_def,aN4] using this.symm
theorem Vb {a b:AA}(h:nmD a=nmD b):a=b:=by simp only[nmD,PyData.tuple.injEq] at h;exact(List.map_inj_right λx y e=>by injection e).mp h
noncomputable def Js (K:PySem.W.Frag):Sp:=λvs H Q _=>∃ v u ns ps D n w W,vs=[v,u]/\(15,v)/\(E,ps)/\(∀ z∈ns,Kj z=true)/\ns.length<=10/\(9,D,u)/\Dk n w W D/\n<=60/\∀ b H',(5,H')->(b=true↔ap7 ns ps D)->Q (.bl b) H'
theorem Uw (F:(v,"is_order",L1))(T:Dp mg):FnOk P w K mg base CX0 1 f fd ["half","thing"] (Js K):=by
 refine F.ok U3 (λvs H Q E h=>?_) (λaJ A outer s H vs Q E U h=>?_)
 . obtain⟨v,u,ns,ps,D,n,w,W,rfl,_⟩:8:=h;rfl
 obtain⟨v,u,ns,ps,D,n,w,W,rfl,hI,O,aC,aK,Z,hD,hn,k⟩:8:=h;have hu:=Bp U;have hq:=Bs U;have aL:=O.le;have a7:∀ r:AA,r∈ext (Ac ps) ns.length ns->r.Perm ns:=λr U=>((C3 _ _ _ _ O.nd rfl).mp U).1
 with_reducible refine⟨_,((11,PW.pt (Xh (Ln (Hw (130,(Fi (K:=K)),⋯,(54,1,Nd (v:=.ty "tuple") ⋯ T.b_tuple PyProof.Rows.Boot.«tuple» ⋯)))) (Wh (21,Pg (K:=K) hq,(38,(Au (K:=K)),1),Ai (Au (K:=K)) ⋯ T.b_len PyProof.Rows.Boot.«len» (8,(r,0)),_))),(l,Og))
  ((11,Ln (Hw (Ai (Tk (K:=K) ⋯) ⋯ T.b_all PyProof.Rows.Boot.«all» (8,(40,["name"],["thing"],[1],(r,0),(λ_ _ _ _=>((13,(by with_unfolding_all (show(["name","thing"]:AA).Nodup;decide +kernel))))),(Be nofun),(λ_ _ _ _=>Df),(λ_ _ _ _=>(Ho (My (K:=K) hq) (pv 0) (pv 1) ⋯)))))),(l,Og))
  ((l,Ai (Tk (K:=K) ⋯) ⋯ T.b_all PyProof.Rows.Boot.«all» (8,(40,["saying"],["thing"],[1],(r,0),(λ_ _ _ _=>((13,(by with_unfolding_all (show(["saying","thing"]:AA).Nodup;decide +kernel))))),(Be nofun),(λ_ _ _ _=>Df),(λ_ _ _ _=>(Ho Sa (105,DL,DR,(Cf (K:=K)),1,(8,(r,0))) (105,DL,DR,(Cf (K:=K)),1,(8,(r,0))) (Ax _))))))))),?_⟩
 symm;refine JT Z ⟨_,rfl,?_⟩
 cases hT:aN2 D with
 |false=>
   symm;refine k false H (.refl _) ⟨λh=>(by cases h),?_⟩;rintro⟨r,rfl,_⟩
   cases hT
 |true=>
   obtain⟨ds,rfl⟩:∃ ds,D = .tuple ds:=by cases D<;>first | exact⟨_,rfl⟩ | cases hT
   obtain⟨ta,xs,rfl,hS,hL⟩:2:=Z.tup;have aO:=AL hL;rw[AZ (show ¬ ((!true)=true) by decide)];symm;refine NV Z ?_;symm;refine Ek hI λnv hN=>?_;symm;refine Tc hN ?_;symm;refine HU (λhc=>?_) (λhc=>?_)
   . symm;refine k false H (.refl _) ⟨λh=>(by cases h),?_⟩;rintro⟨r,e,U⟩;simp only[nmD,PyData.tuple.injEq] at e;exact absurd (by rw[e,BA,(a7 r U).length_eq]) hc
   have aF:ds.length=ns.length:=by have:=V.int.inj hc;omega
   obtain⟨m,rfl⟩:∃ m,n=m+1:=⟨n-1,by have:=hD.dp;simp only[PyData.depth] at this;omega⟩;symm;refine Ek hI λaP aB=>?_;obtain⟨n1,rfl,a4⟩:1:=aB.nm;refine Rb a4 ?_;have aG:PyData.canLayAll0 ds=true:=by have:=hD.lay;simpa only[PyData.canLay0] using this
   refine Vp (K:=K) (Et (xs:=ns.map V.str)) ns 'c' (λz=>aO0 ds z) (by rw[List.length_map];omega) (λH' e=>e.seqT a4) (λj z xv H1 R aA a1 Y aD=>?_) (λq H1 aM Y h1=>?_)
   . rw[BK,aA] at a1
     cases a1;symm;refine RI (d:=.str z) (by simp only[Is]) (.inr (Is.mono Y _ _ Z)) aG (JC (aC z (List.mem_of_getElem? aA))).1 (by simp[PyData.depth]) ?_;exact aD H1 (.refl _)
   symm;refine MV h1 ?_
   cases hb:(ns.map λz=>aO0 ds z).all id with
   |false=>symm;refine k false H1 Y ⟨λh=>(by cases h),?_⟩;rintro⟨r,e,U⟩;simp only[nmD,PyData.tuple.injEq] at e;subst e;rw[<- hb,List.all_map,A1N];intro z hz;exact hasZ_iff.mpr (A0D.mpr ⟨z,(a7 r U).mem_iff.mpr hz,rfl⟩)
   |true=>
     rw[List.all_map,A1N] at hb;obtain⟨r,rfl,hp⟩:1:=Z0 O.nd aF λz hz=>hasZ_iff.mp (hb z hz);obtain⟨aQ,e,hS⟩:1:=Is.nm (ns:=r) Z
     cases e;symm;refine T9 (hI.hf_fz Y.fz) λsv hP=>?_;obtain⟨sa,sx,rfl,a5,a3⟩:2:=AS hP;have aI:ps.length=sx.length:=by rw[<- AL a3,BA]
     refine Rb a5 ?_;refine Vp (K:=K) (Et (xs:=sx)) ps aI (λp=>decide (r.idxOf p.1<r.idxOf p.2)) ∅ (λH' e=>e.seqT a5) (λm p xv H2 R a8 a1 e2 aE=>?_) (λq2 H2 aN e2 h2=>?_)
     . obtain⟨dr,a6,a2⟩:1:=IsL.get (90,e2,_,a3) a1;rw[BK,a8] at a6
       cases a6;have a9:=O.mem p (BG a8);obtain⟨f1,f2,f3⟩:0:=El (hp.mem_iff.mpr a9.1);obtain⟨g1,g2,g3⟩:0:=El (hp.mem_iff.mpr a9.2);have a0:=(Y.trans e2).seqT hS;symm;refine On a0 ?_;symm;refine P4 a2 ?_;symm;refine E4 a0 f1 f2 ?_;symm;refine On a0 ?_;symm;refine Lz a2 ?_;symm;refine E4 a0 g1 g2 ?_;symm;have e:decide ((r.idxOf p.1:Int)<(r.idxOf p.2:Int))=decide (r.idxOf p.1<r.idxOf p.2):=decide_eq_decide.mpr ∅;rw[e];exact aE H2 (.refl _)
     symm;refine MV h2 ?_;refine k _ H2 (Y.trans e2) ?_;rw[List.all_map,A1N];have ho:=Iv O.nd O.mem hp;constructor
     . intro h;exact⟨r,rfl,(C3 _ _ _ _ O.nd rfl).mpr ⟨hp,ho.mpr λp hp=>GR (h p hp)⟩⟩
     rintro⟨r',e,aH⟩ p hp;have:r=r':=Vb e;subst this;exact BY (ho.mp ((C3 _ _ _ _ O.nd rfl).mp aH).2 p hp)
local macro_rules | `(tactic| walk_at "rq1") => L2.mAlts "i_sRaise"
noncomputable def RefN (H:Hp)(C:Addr)(E:XK):Prop:=∀ a H',(5,H')->ExB false H' a C []->E (.ref a) none H'
theorem RefN.mono {E:XK}(h:RefN H C E)(e:(5,H')):RefN H' C E:=λa H2 F O=>h a H2 (e.trans F) O
noncomputable def D0 (C:Addr)(K:PySem.W.Frag):Sp:=λvs H Q E=>∃ v u ns ps D n w W,vs=[v,u]/\(15,v)/\(E,ps)/\(∀ z∈ns,Kj z=true)/\ns.length<=10/\(9,D,u)/\Dk n w W D/\n<=60/\(ap7 ns ps D->∀ H',(5,H')->Q .non H')/\(¬ ap7 ns ps D->RefN H C E)
theorem Jt (F:(v,"refuse_no_order",Dw))(T:Dp mg)(a4:Bw K mg C_HalfError C_HalfError)(a5:G0 K mg C_NoName C_HalfError)(Z:Gg K mg C_NoOrder C_HalfError)(Ku:(o,1,"is_order",["half","thing"],Js K)):FnOk P w K mg base (CX1 P w) 2 f fd ["half","thing"] (D0 C_NoOrder K):=by
 refine F.ok1 Kh (λvs H Q E h=>?_) (λa3 A outer s H vs Q E U h=>?_)
 . obtain⟨v,u,ns,ps,D,n,w,W,rfl,_⟩:8:=h;rfl
 obtain⟨v,u,ns,ps,D,n,w,W,rfl,hI,hW,a2,a0,hU,hD,hn,k,kn⟩:8:=h;have hu:=Bp U;have hq:=Bs U
 with_reducible refine⟨_,(A6 (Ch (Ln (Hw (10,Ku,(U.mono nofun),0,(7,1)))) (A6 (RW ⋯ (ZJ Z.mk0 ⋯ (8,Ar)))) At)),?_⟩
 symm;refine⟨v,u,ns,ps,D,n,w,W,rfl,hI,hW,a2,a0,hU,hD,hn,λb H1 O hb=>?_⟩
 cases b with
 |true=>symm;exact k (hb.mp rfl) H1 O
 |false=>have kn:=(kn λh=>by have:=hb.mpr h;cases this).mono O;symm;refine WZ nofun λa H2 Y e2 hE=>?_;symm;exact SY hE Z.xc (O.free Y) λH3 kp a1=>kn a H3 (λb o q=>kp b o (ne_of_none q Y) (e2 _ _ q)) a1
inductive Wk (r:AA):PyData->AB->Prop
 |fin {row:AA}:Wk r (Y7 row) []
 |one {x y:Str} {D1 D2:PyData} {qs:AB} (h:r.idxOf x<r.idxOf y) (w:Wk r D1 qs):Wk r (Ql x y D1 D2) ((x,y) :: qs)
 |two {x y:Str} {D1 D2:PyData} {qs:AB} (h:r.idxOf y<r.idxOf x) (w:Wk r D2 qs):Wk r (Ql x y D1 D2) ((y,x) :: qs)
theorem Hx {U Y:Str}{E F O:PyData}(h:Ql x y D E=Ql U Y F O):x=U/\y=Y/\D=F/\E=O:=by simp only[Ql,PyData.tuple.injEq,List.cons.injEq,PyData.str.injEq,and_true,true_and] at h;exact h
theorem Wk.det (h:Wk r D qs):∀ {O:AB},Wk r D O->O=qs:=by
 induction h with
 |@fin row=>
   intro O g;generalize F:Y7 row=E at g
   cases g with
   |fin=>rfl
   |one _ _=>simp[Y7,Ql] at F
   |two _ _=>simp[Y7,Ql] at F
 |@one x y D1 D2 qs h w ih=>
   intro O g;generalize F:Ql x y D1 D2=E at g
   cases g with
   |fin=>simp[Y7,Ql] at F
   |one h' w'=>obtain⟨rfl,rfl,rfl,rfl⟩:0:=Hx F;rw[ih w']
   |two h' w'=>obtain⟨rfl,rfl,rfl,rfl⟩:0:=Hx F;omega
 |@two x y D1 D2 qs h w ih=>
   intro O g;generalize F:Ql x y D1 D2=E at g
   cases g with
   |fin=>simp[Y7,Ql] at F
   |one h' w'=>obtain⟨rfl,rfl,rfl,rfl⟩:0:=Hx F;omega
   |two h' w'=>obtain⟨rfl,rfl,rfl,rfl⟩:0:=Hx F;rw[ih w']
theorem Pn {O F U:Hp}{t:Addr}{ys:List V}(hL:IsL K O (qs.map prD) ys)(e4:Same O F)(Z:F l=(2,ys))(h4:F t=(23,[.str x,.str y]))(Y:ExtBut l F U):IsL K U ((qs++[(x,y)]).map prD) (ys++[.ref t]):=by rw[BU];exact(IsL.fz (e4.fz.trans (Y.fzL Z)) _ _ (C7 _ (λ_=>Fe _) _) hL).append (.one (Is.of_tup ((Y.fzL Z).seq (SqT.of h4)) (84,(by simp only[Is]),(by simp only[Is]))))
noncomputable def Ju (C:Addr)(K:PySem.W.Frag):Sp:=λvs H Q E=>∃ hv bv u ns ps B m D n w W,vs=[hv,bv,u]/\(15,hv)/\(E,ps)/\(∀ z∈ns,Kj z=true)/\ns.length<=10/\(9,B,bv)/\PlanP ns ps B m/\m<=1000/\(9,D,u)/\Dk n w W D/\n<=60/\(∀ r,D=nmD r->r∈ext (Ac ps) ns.length ns->∀ qs x H',Wk r B qs->(5,H')->(Y,psD qs,x)->Q x H')/\(¬ ap7 ns ps D->RefN H C E)
theorem V7 (F:(v,"answers",Nr))(T:Dp mg)(aI:Bw K mg C_HalfError C_HalfError)(aJ:G0 K mg C_NoName C_HalfError)(aK:Gg K mg C_NoOrder C_HalfError)(E2:aw7 P w K mg base 2 "refuse_no_order" ["half","thing"] (D0 C_NoOrder K)):FnOk P w K mg base (CX1 P w) 3 f fd ["half","plan","order"] (Ju C_NoOrder K):=by
 refine F.ok1 Dr (λvs H Q E h=>?_) (λaE A outer s H vs Q E hr h=>?_)
 . obtain⟨hv,bv,u,ns,ps,B,m,D,n,w,W,rfl,_⟩:11:=h;rfl
 obtain⟨hv,bv,u,ns,ps,B,m,D,n,w,W,rfl,hI,hW,a8,a7,hP,aC,hm,hU,hD,hn,k,kn⟩:11:=h;have hu:=Bp hr;have hq:=Bs hr
 with_reducible refine⟨_,(A3 (Cs (MR E2 (hr.mono nofun) ⋯ ZZ (39,0,2)))
  (A3 (28,Dr.nd,Bi A2)
  (A3 (75,Dr.nd,'b',pv 1)
  (A3 (Mc PassesOwn.leaving (50,hq,(r,4),Ar,Ax _)
  ((100,Dr.nd,⋯,'b',(r,4))
  (A3 (127,Dr.nd,'b',(r,4))
  (A6 (Ch (21,Sa,(105,DL,DR,(Cf (K:=K)),2,(7,5)),(105,DL,DR,(Cf (K:=K)),2,(7,6)),_) (A3 (Cs (63,DA,EQ,EO,Eb,pv 3,(8,Ay (39,5,6))))
  (A6 (75,Dr.nd,'b',(r,4)))) (A3 (Cs (63,DA,EQ,EO,Eb,pv 3,(8,Ay (39,6,5))))
  (A6 (75,Dr.nd,'b',(r,4)))))))))
  ((l,(103,(C0 (K:=K)),⋯,(7,3)))))))),?_⟩
 symm;refine⟨hv,u,ns,ps,D,n,w,W,rfl,hI,hW,a8,a7,hU,hD,hn,λhO H1 e1=>?_,kn⟩;obtain⟨r,rfl,hr⟩:1:=hO;have k:=k r rfl hr;symm;refine Bk (A9 'c') λl H2 hl e2 h2=>?_;symm;have a6:∀ z∈ns,z∈r:=λz hz=>((C3 _ _ _ _ hW.nd rfl).mp hr).1.mem_iff.mpr hz;obtain⟨ta,rfl,hS⟩:1:=hU.nm;have a4:=e1.trans e2;refine Pq (λm' σ Z=>∃ hb B' ps' qs ys x5 x6,σ=[some hv,some bv,(3,ta),(3,l),some hb,x5,x6]/\(5,Z)/\Is K Z B' hb/\PlanP ns ps' B' m'/\Z l=(2,ys)/\IsL K Z (qs.map prD) ys/\qs.length+m'<=m/\∀ a1,Wk r B' a1->Wk r B (qs++a1)) m ⟨bv,B,ps,[],[],none,none,rfl,a4,Is.mono a4 _ _ hP,aC,h2,by simp only[List.map_nil,L2.IsL],by simp,λ_ h=>h⟩ (λm' σ Z hw=>?_);obtain⟨hb,B',ps',qs,ys,x5,x6,rfl,e3,hB,aB,h3,hL,aF,a3⟩:7:=hw;have a5:H l=none:=e1.free hl
 cases aB with
 |@fin _ row he=>obtain⟨a,rv,rfl,hA,_⟩:2:=ML (show Is K Z (Y7 row) hb from hB);symm;refine D5 hA 'e' ?_;symm;rw[AZ (show ¬ (decide (V.str "end" = V.str "ask")=true) by decide)];symm;refine Lb h3 hL λx H4 O hx=>?_;symm;have:=a3 [] .fin;rw[DE] at this;exact k qs x H4 this (e3.trans O) hx
 |@ask _ x y D1 D2 m1 m2 hx hy hxy hun p1 p2=>
   obtain⟨a,d1,d2,rfl,hA,a9,aA⟩:3:=KJ (show Is K Z (Ql x y D1 D2) hb from hB);obtain⟨f1,f2,f3⟩:0:=El (a6 x hx);obtain⟨g1,g2,g3⟩:0:=El (a6 y hy);have a0:=e3.seqT hS;have aG:r.idxOf x≠r.idxOf y:=λz=>by rw[z,g1] at f1;exact hxy (BR f1).symm
   symm;refine D5 hA 'e' ?_;symm;refine Vm ?_;symm;refine D5 hA 'e' ?_;symm;refine D5 hA 'e' ?_;symm;refine On a0 ?_;symm;refine E4 a0 f1 f2 ?_;symm;refine On a0 ?_;symm;refine E4 a0 g1 g2 ?_;symm;have aH:ys.length<=m:=by rw[<- AL hL,BA];omega
   refine Iy (λhc=>?_) (λhc=>?_)
   . symm;refine Aw (A9 'c') λt H4 aD O h4=>?_;have Y:=O _ _ h3;symm;refine Lx Y ∅ λH5 U h5=>?_;have a2:=(U.fzL Y).seq (O.seqT hA);symm;refine D5 a2 'e' ?_;symm;have fz:=O.fz.trans (U.fzL Y);exact⟨m1,by omega,d1,D1,_,qs++[(x,y)],_,_,_,rfl,(e3.trans O).off a5 U,AR fz _ _ (Ev p1) a9,p1,h5,Pn hL O Y h4 U,by rw[BL,CU];omega,λa1 w=>by rw[CK];exact a3 _ (.one ∅ w)⟩
   symm;refine Aw (A9 'c') λt H4 aD O h4=>?_;have Y:=O _ _ h3;symm;refine Lx Y ∅ λH5 U h5=>?_;have a2:=(U.fzL Y).seq (O.seqT hA);symm;refine D5 a2 'e' ?_;symm;have fz:=O.fz.trans (U.fzL Y);exact⟨m2,by omega,d2,D2,_,qs++[(y,x)],_,_,_,rfl,(e3.trans O).off a5 U,AR fz _ _ (Ev p2) aA,p2,h5,Pn hL O Y h4 U,by rw[BL,CU];omega,λa1 w=>by rw[CK];exact a3 _ (.two ∅ w)⟩
noncomputable def Hm (K:W.Frag):Sp:=λvs H Q _=>∃ bv u ns ps B m r,vs=[bv,u]/\(9,B,bv)/\PlanP ns ps B m/\m<=1000/\(44,r,u)/\(∀ z∈ns,z∈r)/\∀ qs x H',Wk r B qs->(5,H')->(Y,psD qs,x)->Q x H'
theorem T4 (F:(v,"_law_walk",Jh))(T:Dp mg):FnOk P w K mg base CX0 1 f fd ["_law_plan_here","_law_order"] (Hm K):=by
 refine F.ok Fh (λvs H Q E h=>?_) (λaA A outer s H vs Q E hr h=>?_)
 . obtain⟨bv,u,ns,ps,B,m,r,rfl,_⟩:7:=h;rfl
 obtain⟨bv,u,ns,ps,B,m,r,rfl,hP,a8,hm,hU,a4,k⟩:7:=h;have hu:=Bp hr;have hq:=Bs hr
 with_reducible refine⟨_,(A3 (27,Fh.nd,Bi A2)
  (A3 (Mc BW (50,hq,(r,0),Ar,Ax _)
  (A3 (28,Fh.nd,Az N5 ⋯ T.b_int PyProof.Rows.Boot.«int» (8,Ho Ul (105,DL,DR,(Cf (K:=K)),1,(8,(r,0))) (105,DL,DR,(Cf (K:=K)),1,(8,(r,0))) (Ax _)))
  (A3 (Cs (63,DA,EQ,EO,Eb,pv 2,(8,Ay (22,(w,0,(53,(Aj (K:=K)),A4,3)),(w,0,(53,Hh,A4,3))))))
  (A6 (Aa (i:=0) Fh.nd ⋯ 'b' (w,0,(53,(Aj (K:=K)),A4,3)))))))
  ((l,(103,(C0 (K:=K)),⋯,(7,2)))))),?_⟩
 obtain⟨ta,rfl,hS⟩:1:=hU.nm;symm;refine Bk (A9 'c') λl H2 hl e2 h2=>?_;symm;refine Pq (λm' σ H3=>∃ hb B' ps' qs ys x3,σ=[some hb,(3,ta),(3,l),x3]/\(5,H3)/\Is K H3 B' hb/\PlanP ns ps' B' m'/\H3 l=(2,ys)/\IsL K H3 (qs.map prD) ys/\qs.length+m'<=m/\∀ a1,Wk r B' a1->Wk r B (qs++a1)) m ⟨bv,B,ps,[],[],none,rfl,e2,Is.mono e2 _ _ hP,a8,h2,by simp only[List.map_nil,L2.IsL],by simp,λ_ h=>h⟩ (λm' σ H3 hw=>?_);obtain⟨hb,B',ps',qs,ys,x3,rfl,e3,hB,a7,h3,hL,aB,a3⟩:6:=hw
 cases a7 with
 |@fin _ row he=>obtain⟨a,rv,rfl,U,_⟩:2:=ML (show Is K H3 (Y7 row) hb from hB);symm;refine D5 U 'e' ?_;symm;rw[AZ (show ¬ (decide (V.str "end" = V.str "ask")=true) by decide)];symm;refine Lb h3 hL λx H4 O hx=>?_;symm;have:=a3 [] .fin;rw[DE] at this;exact k qs x H4 this (e3.trans O) hx
 |@ask _ x y D1 D2 m1 m2 hx hy hxy hun p1 p2=>
   obtain⟨a,d1,d2,rfl,U,a5,a6⟩:3:=KJ (show Is K H3 (Ql x y D1 D2) hb from hB);obtain⟨f1,f2,f3⟩:0:=El (a4 x hx);obtain⟨g1,g2,g3⟩:0:=El (a4 y hy);have a0:=e3.seqT hS;have aC:r.idxOf x≠r.idxOf y:=λz=>by rw[z,g1] at f1;exact hxy (BR f1).symm
   have aD:ys.length<=m:=by rw[<- AL hL,BA];omega
   symm;refine D5 U 'e' ?_;symm;refine Vm ?_;symm;refine On a0 ?_;symm;refine D5 U 'e' ?_;symm;refine E4 a0 f1 f2 ?_;symm;refine On a0 ?_;symm;refine D5 U 'e' ?_;symm;refine E4 a0 g1 g2 ?_;symm
   by_cases hc:(r.idxOf y:Int)<(r.idxOf x:Int)
   . rw[BB (BY hc)];symm;refine D5 U 'e' ?_;symm;refine D5 U 'e' ?_;symm;refine Aw (A9 'c') λt H4 a9 O h4=>?_;have Z:=O _ _ h3;symm;refine Lx Z ∅ λH5 Y h5=>?_;have a2:=(Y.fzL Z).seq (O.seqT U);symm;refine D5 a2 'e' ?_;symm;have fz:=O.fz.trans (Y.fzL Z);exact⟨m2,by omega,d2,D2,_,qs++[(y,x)],_,_,rfl,(e3.trans O).off hl Y,AR fz _ _ (Ev p2) a6,p2,h5,Pn hL O Z h4 Y,by rw[BL,CU];omega,λa1 w=>by rw[CK];exact a3 _ (.two ∅ w)⟩
   rw[AZ (by rw[BS hc];decide)];symm;refine D5 U 'e' ?_;symm;refine D5 U 'e' ?_;symm;refine Aw (A9 'c') λt H4 a9 O h4=>?_;have Z:=O _ _ h3;symm;refine Lx Z ∅ λH5 Y h5=>?_;have a2:=(Y.fzL Z).seq (O.seqT U);symm;refine D5 a2 'e' ?_;symm;have fz:=O.fz.trans (Y.fzL Z);exact⟨m1,by omega,d1,D1,_,qs++[(x,y)],_,_,rfl,(e3.trans O).off hl Y,AR fz _ _ (Ev p1) a5,p1,h5,Pn hL O Z h4 Y,by rw[BL,CU];omega,λa1 w=>by rw[CK];exact a3 _ (.one ∅ w)⟩
local macro_rules | `(tactic| walk_at "rq1") => L2.mAlts "i_nxS"
theorem RG (c:XC K C)(hm:Ko K C B=true):W.kitOne K (.ref C) (.ref C)=some true:=by rw[NK c hm c,GY,Bool.true_or]
noncomputable def XCs (K:W.Frag):AF->Prop
 | []=>True
 |c :: cs=>XC K c/\XCs K cs
theorem Q3 {K:W.Frag}{C B:Addr}(c:XC K C)(hm:Ko K C B=true):∀ cs:AF,XCs K cs->(∀ D∈cs,C≠D/\B≠D)->W.kitAny K (.ref C) (cs.map Value.ref)=some false
 | [],_,_=>rfl
 |D :: cs,x,h=>by obtain⟨h1,h2⟩:=h D (BQ ..);rw[BM];unfold W.kitAny;rw[NK c hm x.1,A1A.mpr h1,A1A.mpr (Ne.symm h2)];exact Q3 c hm cs x.2 λE F=>h E (BP _ F)
theorem UJ {bs:AF}(h:([B]++(as++([C]++bs))).Nodup):∀ D,D∈as\/D∈bs->C≠D/\B≠D:=by
 obtain⟨_,h2,O⟩:0:=A1D.mp h;obtain⟨_,U,hp⟩:0:=A1D.mp h2;obtain⟨_,_,Y⟩:0:=A1D.mp U;rintro D (F|F)
 . exact⟨Ne.symm (hp D F C (BZ _ (A1C.mpr rfl))),O B (A1C.mpr rfl) D (BZ _ F)⟩
 exact⟨Y C (A1C.mpr rfl) D F,O B (A1C.mpr rfl) D (CI _ (CI _ F))⟩
theorem VA {a:Addr}{fs:List (Str×V)}(h:ExB false H a C fs):∃ od,H a=some ((85,a,C,od)):=by
 rcases h with ⟨_,h⟩|⟨dx,_,h,_⟩
 . exact⟨_,h⟩
 exact⟨_,h⟩
theorem PK (hm:Ko K C B=true):W.mroIn K C (.ref B)=some true:=by obtain⟨cd,F,O⟩:1:=HP hm;unfold W.mroIn;rw[F,Option.bind_some,beq_iff_eq.mp O,if_neg 'c',List.contains_cons,List.contains_cons,beq_self_eq_true,Bool.true_or,Bool.or_true]
theorem NS {t:TT}{ta tb:TE}{σ:L2.St}(k:t σ H λc H1=>if c=true then ta σ H1 Q else tb σ H1 Q):tIf t ta tb σ H Q:=k
theorem len6 {σ:L2.St}(h:σ.length=6):∃ a b c d e f,σ=[a,b,c,d,e,f]:=by
 match σ,h with
 | [a,b,c,d,e,f],_=>exact⟨a,b,c,d,e,f,rfl⟩
noncomputable def Hl (K:PySem.W.Frag):Sp:=λvs H Q _=>∃ hv bv u ns ps B m D n w W,vs=[hv,bv,u]/\(15,hv)/\(E,ps)/\(∀ z∈ns,Kj z=true)/\ns.length<=10/\(9,B,bv)/\PlanP ns ps B m/\m<=1000/\(9,D,u)/\Dk n w W D/\n<=60/\(∀ r,D=nmD r->r∈ext (Ac ps) ns.length ns->∀ qs x H',Wk r B qs->(5,H')->(Y,psD qs,x)->Q x H')/\(¬ ap7 ns ps D->∀ H',(5,H')->(17,"none",H'))
theorem Sx (F:(v,"_law_told",Jr))(T:Dp mg){Z:Addr}{a5:Addr}{Y:Addr}{a0:Addr}{a2:Addr}{a3:Addr}{U:Addr}{a4:Addr}{a1:Addr}(aB:Bw K mg C_HalfError C_HalfError)(aE:(114,K,mg,"NoHalf",Z))(aM:(114,K,mg,"NoText",a5))(aH:G0 K mg C_NoName C_HalfError)(aN:Ja K mg C_TooMany C_HalfError)(aD:(114,K,mg,"NoCover",Y))(aJ:K2 K mg C_NoPlace C_HalfError)(O:Gg K mg C_NoOrder C_HalfError)(aF:(114,K,mg,"NoJoin",a0))(aA:Mz K mg C_Clash C_HalfError)(aI:(114,K,mg,"NoPaper",a2))(aK:(114,K,mg,"NoPlan",a3))(aC:(114,K,mg,"NoBound",U))(aL:(114,K,mg,"NoSaying",a4))(aG:(114,K,mg,"NoMore",a1))(a9:([C_HalfError,C_Clash,U,Y,Z,a0,a1,C_NoName,C_NoOrder,a2,C_NoPlace,a3,a4,a5,C_TooMany]:AF).Nodup)(Nb:aw7 P w K mg base 3 "answers" ["half","plan","order"] (Ju C_NoOrder K)):FnOk P w K mg base CX0 4 f fd ["_law_half_here","_law_plan_here","_law_order"] (Hl K):=by
 refine F.ok Cm (λvs H Q E h=>?_) (λaU A outer s H vs Q E hr h=>?_)
 . obtain⟨hv,bv,u,ns,ps,B,m,D,n,w,W,rfl,_⟩:11:=h;rfl
 obtain⟨hv,bv,u,ns,ps,B,m,D,n,w,W,rfl,hI,hW,aP,aO,hP,aQ,hm,hU,hD,hn,k,kn⟩:11:=h;have hu:=Bp hr;have hq:=Bs hr;have nd:=UJ (B:=C_HalfError) (C:=C_NoOrder) (as:=[C_Clash,U,Y,Z,a0,a1,C_NoName]) (bs:=[a2,C_NoPlace,a3]++[a4,a5,C_TooMany]) a9;clear a9;obtain⟨xG,hG⟩:∃ G:Addr->Hp->Prop,G=λa H'=>¬ ap7 ns ps D/\(5,H')/\ExB false H' a C_NoOrder []:=⟨_,rfl⟩
 with_reducible refine⟨_,(A3 (28,Cm.nd,Tl)
  (A3 (XG (i:=4) xG Cm.nd ⋯ ⋯ ⋯ aB.gl aB.xc ⋯ ⋯ ⋯ (λ_ _ aR=>(A6 (28,Cm.nd,MR Nb (hr.mono nofun) ⋯ aR (A1 (pv 0) (39,1,2)))))
  (λ_ _=>((100,Cm.nd,⋯,'b',(130,(K7 (K:=K)),⋯,(54,4,Ay (W,J9 (v:=.ref C_Clash) ⋯ ⟨_,aA.gl,⋯⟩,J9 (v:=.ref U) ⋯ ⟨_,aC.gl,⋯⟩,(W,J9 (v:=.ref Y) ⋯ ⟨_,aD.gl,⋯⟩,J9 (v:=.ref Z) ⋯ ⟨_,aE.gl,⋯⟩,(W,J9 (v:=.ref a0) ⋯ ⟨_,aF.gl,⋯⟩,J9 (v:=.ref a1) ⋯ ⟨_,aG.gl,⋯⟩,(W,J9 (v:=.ref C_NoName) ⋯ ⟨_,aH.gl,⋯⟩,J9 (v:=.ref a2) ⋯ ⟨_,aI.gl,⋯⟩,(W,J9 (v:=.ref C_NoPlace) ⋯ ⟨_,aJ.gl,⋯⟩,J9 (v:=.ref a3) ⋯ ⟨_,aK.gl,⋯⟩,A2))))))))
  ((100,Cm.nd,⋯,'b',MW (pv 5) (MW (130,(K7 (K:=K)),⋯,(54,4,Ay (A1 (J9 (v:=.ref a4) ⋯ ⟨_,aL.gl,⋯⟩) (22,J9 (v:=.ref a5) ⋯ ⟨_,aM.gl,⋯⟩,J9 (v:=.ref C_TooMany) ⋯ ⟨_,aN.gl,⋯⟩)))) (MQ (YB (130,(K7 (K:=K)),⋯,(54,4,Nd (v:=.ty "ValueError") ⋯ T.b_ValueError PyProof.Rows.Boot.«ValueError» ⋯))))))
  (A6 (28,Cm.nd,Wa (PW.pt (Ro (Hw (130,(K7 (K:=K)),⋯,(54,4,J9 (v:=.ref C_NoOrder) ⋯ ⟨_,O.gl,⋯⟩))) (N8 (Ln (Hw (pv 5)))))) Ar Ar))))))
  ((l,pv 3)))),?_⟩
 symm;refine⟨?_,λa H' σ' hl hg=>?_⟩
 . symm;refine⟨hv,bv,u,ns,ps,B,m,D,n,w,W,rfl,hI,hW,aP,aO,hP,aQ,hm,hU,hD,hn,λr aS aT qs x H1 hw e1 hx=>?_,λa7 a H1 e1 hE=>⟨a,rfl,by rw[hG];exact⟨a7,e1,hE⟩⟩⟩;symm;exact k r aS aT qs x H1 hw e1 hx
 rw[hG] at hg;obtain⟨a7,e1,hE⟩:0:=hg;obtain⟨y0,y1,y2,y3,y4,y5,rfl⟩:6:=len6 hl;obtain⟨od,ha⟩:=VA hE;refine⟨⟨C_NoOrder,od,ha,O.xc,PK O.mr⟩,?_⟩;symm;refine Aw (A9 'c') λt1 H1 aV e2 h1=>?_;have a8:=hE.same e2;symm;refine LW (cs:=[C_Clash,U,Y,Z,a0,a1,C_NoName]++[a2,C_NoPlace,a3]) a8 O.xc h1 (Q3 O.xc O.mr _ ⟨aA.xc,aC.xc,aD.xc,aE.xc,aF.xc,aG.xc,aH.xc,aI.xc,aJ.xc,aK.xc,trivial⟩ λD hD=>nd D ((A0B.mp hD).imp id (BZ _))) ?_;symm;refine Aw (A9 'c') λt2 H2 aW e3 h2=>?_;have a6:=a8.same e3;symm;refine LW (cs:=[a4,a5,C_TooMany]) a6 O.xc h2 (Q3 O.xc O.mr _ ⟨aL.xc,aM.xc,aN.xc,trivial⟩ λD hD=>nd D (.inr (CI _ hD))) ?_;symm;refine PJ a6 O.xc (RM O.mr) ?_;symm;refine NS ?_;symm;refine OW a6 O.xc (RG O.xc O.mr) ?_;symm;rw[BB (show(!!true)=true by decide)];symm;exact kn a7 H2 ((e1.trans e2).trans e3)
noncomputable def shC (D:PyData):AE:=D.shown.cps.toList
theorem F0 (a b:Str):(a++b).cps.toList=a.cps.toList++b.cps.toList:=by show(a.cps++b.cps).toList=_;rw[Array.toList_append]
theorem Q9 (x:Str):(reprText x).cps.toList=reprQuote x :: (x.cps.toList.flatMap (Builtin.Str.reprChar (reprQuote x))++[reprQuote x]):=by
 unfold reprText;rw[Array.toList_push,<- Array.foldl_toList]
 have go:∀(l:AE) (acc:Array Nat),(l.foldl (λout c=>out++(Builtin.Str.reprChar (reprQuote x) c).toArray) acc).toList=acc.toList++l.flatMap (Builtin.Str.reprChar (reprQuote x)):=by
  intro l
  induction l with
  |nil=>intro acc;simp
  |cons c l ih=>intro acc;rw[List.foldl_cons,ih];simp
 rw[go];rfl
theorem aL4 (q c:Nat):(Builtin.Str.reprChar q c=[c]/\c≠q)\/∃ t,Builtin.Str.reprChar q c=92 :: t:=by
 unfold Builtin.Str.reprChar;dsimp only
 by_cases h:(c==q||c==92)=true
 . rw[BB h];exact .inr ⟨_,rfl⟩
 rw[AZ h];have F:c≠q:=λe=>h (by rw[e];simp)
 repeat' split
 all_goals first | exact .inl ⟨rfl,F⟩ | exact .inr ⟨_,rfl⟩
theorem WS {c:Nat}(h:97<=c/\c<=122):Builtin.Str.reprChar 39 c=[c]:=by
 have:∀ c<123,97<=c->Builtin.Str.reprChar 39 c=[c]:=by decide +kernel
 exact this c ∅ h.1
theorem XM {F s s':AE}(hz:∀ c∈F,97<=c/\c<=122):∀ {l:AE},l.flatMap (Builtin.Str.reprChar 39)++39 :: s=F++39 :: s'->l=F/\s=s':=by
 induction F with
 |nil=>
   intro l h
   cases l with
   |nil=>exact⟨rfl,by simpa using h⟩
   |cons c l=>
     exfalso;rcases aL4 39 c with ⟨e,O⟩|⟨t,e⟩<;>rw[List.flatMap_cons,e] at h<;>simp at h
     exact O h.1
 |cons a F ih=>
   intro l h;have ha:=hz a 'c'
   cases l with
   |nil=>exfalso;simp at h;omega
   |cons c l=>
     rcases aL4 39 c with ⟨e,O⟩|⟨t,e⟩
     . rw[DD,e] at h;simp only[List.cons_append,List.nil_append,List.cons.injEq] at h;obtain⟨h1,h2⟩:=ih (λc O=>hz c (by simp[O])) h.2;rw[h.1,h1];exact⟨rfl,h2⟩
     exfalso;rw[DD,e] at h;simp at h;omega
theorem UT (i:Int):∃ c t,(Str.ofString (toString i)).cps.toList=c :: t/\(c=45\/48<=c/\c<=57):=by
 rw [Str.ofString_eq_toList];show ∃ c t,((Int.repr i).toList.map Char.toNat).toArray.toList=c :: t/\_;rw[List.toList_toArray]
 cases i with
 |ofNat m=>
   show ∃ c t,(m.repr.toList.map Char.toNat)=c :: t/\_;rw[Nat.toList_repr]
   cases h:Nat.toDigits 10 m with
   |nil=>exact absurd h Nat.toDigits_ne_nil
   |cons c t=>have:=Nat.isDigit_of_mem_toDigits (b:=10) (n:=m) nofun nofun (by rw[h];exact BQ ..);refine⟨_,_,rfl,.inr ?_⟩;unfold Char.isDigit at this;rw[CA,FX,FX] at this;exact⟨this.1,this.2⟩
 |negSucc m=>exact⟨45,_,by show((("-":String)++m.succ.repr).toList.map Char.toNat)=_;rw [String.toList_append,BU];rfl,.inl rfl⟩
theorem W9:∀(ts:AA) (k:Nat) (acc:Str),∃ w:AE,(textFrom k acc ts).cps.toList=acc.cps.toList++w
 | [],_,acc=>⟨[],by rw[DE];rfl⟩
 |t :: ts,k,acc=>by
   obtain⟨w,h⟩:=W9 ts (k+1) (acc++(if k>0 then ", " else "":String)++t)
   unfold textFrom;rw[h,F0,F0,CK,CK];exact⟨_,rfl⟩
theorem Uh (h:Kj z=true):∀ c∈z.cps.toList,97<=c/\c<=122:=λc F=>by unfold Kj at h;rw[CA,A1N] at h;have:=h.2 c F;unfold Kl at this;simp only[Bool.and_eq_true,decide_eq_true_eq] at this;omega
theorem UB (h:Kj z=true):reprQuote z=39:=by unfold reprQuote;rw[AZ];intro g;rw[CA] at g;have:=Uh h 39 (by simpa using g.1);omega
theorem JX (h:Kj z=true):shC (.str z)=39 :: (z.cps.toList++[39]):=by
 unfold shC;simp only[PyData.shown];rw[Q9,UB h]
 have:∀ l:AE,(∀ c∈l,97<=c/\c<=122)->l.flatMap (Builtin.Str.reprChar 39)=l:=λl hl=>by
  induction l with
  |nil=>rfl
  |cons c l ih=>rw[List.flatMap_cons,WS (hl c 'c'),ih λc F=>hl c (by simp[F])];rfl
 rw[this _ (Uh h)]
theorem JZ:∀(D:PyData),∃ c t,shC D=c :: t/\c≠41/\c≠44/\(c=39->∃ x,D = .str x)/\(c=40->∃ ds,D = .tuple ds)
 |.none=>⟨78,_,rfl,by decide,by decide,λh=>absurd h nofun,λh=>absurd h nofun⟩
 |.bool true=>⟨84,_,rfl,by decide,by decide,λh=>absurd h nofun,λh=>absurd h nofun⟩
 |.bool false=>⟨70,_,rfl,by decide,by decide,λh=>absurd h nofun,λh=>absurd h nofun⟩
 |.int i=>by obtain⟨c,t,h,F⟩:2:=UT i;exact⟨c,t,by unfold shC;simp only[PyData.shown];exact h,by omega,by omega,λh=>by omega,λh=>by omega⟩
 |.str x=>by refine⟨reprQuote x,_,by unfold shC;simp only[PyData.shown];exact Q9 x,?_,?_,λ_=>⟨x,rfl⟩,λh=>?_⟩<;>unfold reprQuote at * <;> split at * <;> omega
 |.list ds=>by
   obtain⟨w,h⟩:=W9 (PyData.shownAll ds) 0 "["
   exact⟨91,_,by unfold shC;simp only[PyData.shown];unfold listText;rw[F0,h];rfl,by decide,by decide,λh=>absurd h nofun,λh=>absurd h nofun⟩
 |.tuple ds=>⟨40,_,by unfold shC;simp only[PyData.shown];unfold tupleText;rw[F0,F0];rfl,by decide,by decide,λh=>absurd h nofun,λ_=>⟨ds,rfl⟩⟩
 |.dict kvs=>⟨123,_,by unfold shC;simp only[PyData.shown];unfold dictText;rw[F0,F0];rfl,by decide,by decide,λh=>absurd h nofun,λh=>absurd h nofun⟩
theorem Vt {s s':AE}(hz:Kj z=true)(h:shC D++s=shC (.str z)++s'):D = .str z/\s=s':=by
 rw[JX hz] at h;obtain⟨c,t,Y,_,_,F,_⟩:2:=JZ D;have O:c=39:=by rw[Y] at h;simp at h;exact h.1
 obtain⟨x,rfl⟩:=F O;unfold shC at h;simp only[PyData.shown] at h;rw[Q9] at h;have U:reprQuote x=39:=by simp at h;exact h.1
 rw[U] at h;simp only[List.cons_append,List.append_assoc,List.nil_append,List.cons.injEq,true_and] at h;obtain⟨h1,h2⟩:=XM (Uh hz) h
 exact⟨by
  congr 1
  cases x;cases z;congr 1;exact Array.toList_inj.mp h1,h2⟩
noncomputable def jnC (ds:AD):AE:=(Str.join ", " (PyData.shownAll ds)).cps.toList
theorem L9 (d d':PyData)(ds:AD):jnC (d :: d' :: ds)=shC d++44 :: 32 :: jnC (d' :: ds):=by unfold jnC shC;simp only[PyData.shownAll,Str.join];rw[F0,F0,CK];rfl
theorem Pl (d:PyData):jnC [d]=shC d:=rfl
theorem LZ {u v:AE}(hu:u=[41]\/u=[44,41])(F:v=[41]\/v=[44,41]):∀ {ds:AD} {r:AA},(∀ z∈r,Kj z=true)->jnC ds++u=jnC (r.map PyData.str)++v->ds=r.map PyData.str
 | [],[],_,_=>rfl
 | [],z :: r,hr,h=>by
   exfalso
   have:∃ t,jnC ((z :: r).map PyData.str)=39 :: t:=by
    cases r with
    |nil=>exact⟨_,by rw[List.map_cons,List.map_nil,Pl,JX (hr z 'c')]⟩
    |cons y r=>exact⟨_,by rw[List.map_cons,List.map_cons,L9,JX (hr z 'c')];rfl⟩
   obtain⟨t,e⟩:=this;rw[e] at h;rcases hu with rfl|rfl<;>simp[jnC,PyData.shownAll,Str.join,Str.empty] at h
 |d :: ds,[],hr,h=>by
   exfalso
   have:∃ c t,jnC (d :: ds)=c :: t/\c≠41/\c≠44:=by
    obtain⟨c,t,e,h1,h2,_⟩:2:=JZ d
    cases ds with
    |nil=>exact⟨c,_,by rw[Pl,e],h1,h2⟩
    |cons d' ds=>exact⟨c,_,by rw[L9,e];rfl,h1,h2⟩
   obtain⟨c,t,e,h1,h2⟩:2:=this;rw[e] at h;rcases F with rfl|rfl<;>simp[jnC,PyData.shownAll,Str.join,Str.empty] at h
   . exact h1 h.1
   exact h2 h.1
 |d :: ds,z :: r,hr,h=>by
   have hz:=hr z 'c'
   cases ds with
   |nil=>
     cases r with
     |nil=>rw[BM,FD,Pl,Pl] at h;rw[(Vt hz h).1];rfl
     |cons y r=>exfalso;rw[BM,BM,Pl,L9,CK] at h;have:=(Vt hz h).2;rcases hu with rfl|rfl<;>simp at this
   |cons d' ds=>
     cases r with
     |nil=>exfalso;rw[BM,FD,Pl,L9,CK] at h;have:=(Vt hz h).2;rcases F with rfl|rfl<;>simp at this
     |cons y r=>rw[BM,BM,L9,L9,CK,CK] at h;obtain⟨e,h2⟩:=Vt hz h;simp only[List.cons_append,List.cons.injEq,true_and] at h2;have O:=LZ hu F (ds:=d' :: ds) (r:=y :: r) (λz hz=>hr z (by simp[hz])) (by rw[List.map_cons];exact h2);rw[e,O];rfl
theorem WR (hr:∀ z∈r,Kj z=true)(h:D.shown=(nmD r).shown):D=nmD r:=by
 have h:shC D=shC (nmD r):=by unfold shC;rw[h]
 have F:∀ ds:AD,∃ u,(u=[41]\/u=[44,41])/\shC (.tuple ds)=40 :: (jnC ds++u):=λds=>by
  unfold shC jnC;simp only[PyData.shown];unfold tupleText;rw[F0,F0]
  split
  . exact⟨[44,41],.inr rfl,rfl⟩
  exact⟨[41],.inl rfl,rfl⟩
 obtain⟨u,hu,O⟩:1:=F (r.map PyData.str);obtain⟨c,t,hs,_,_,_,Y⟩:2:=JZ D;have Z:c=40:=by rw[hs] at h;unfold nmD at h;rw[O] at h;simp at h;exact h.1
 obtain⟨ds,rfl⟩:=Y Z;obtain⟨v,hv,U⟩:1:=F ds;unfold nmD at h;rw[O,U] at h;simp only[List.cons.injEq,true_and] at h;unfold nmD;rw[LZ hv hu hr h]
local macro_rules | `(tactic| walk_at "rq1") => L2.mAlts "i_gSlc i_gSub"
theorem Ui (h:∀ z∈r,Kj z=true)(hl:r.length<=10):Dk 1 (r.length*9) 10 (nmD r):=Gw (KQ (p:=0) (W:=10) h hl)
noncomputable def G9 (K:PySem.W.Frag):Sp:=λvs H Q _=>∃ d l u r,vs=[.ref d,u]/\(J,H)/\(44,r,u)/\(∀ z∈r,Kj z=true)/\r.length<=10/\∀ x D n w W H',(h,d)->(J,H')->(Y,D,x)->Dk n w W D->n<=60->w<=100000->Q x H'
theorem Pp (F:(v,"_law_other",Hc))(T:Dp mg)(Y:(76,P,w,K,1,["_law_feed_here","_law_many"],Av K))(F4:(o,14,"_law_bent",["_law_feed_here","_law_part","_law_deep"],Hk K)):FnOk P w K mg base CX0 15 f fd ["_law_feed_here","_law_order"] (G9 K):=by
 refine F.ok Eu (λvs H Q E h=>?_) (λaL A outer s H vs Q E U h=>?_)
 . obtain⟨d,l,u,r,rfl,_⟩:4:=h;rfl
 obtain⟨d,l,u,r,rfl,hF,hU,a8,a2,k⟩:4:=h;have hu:=Bp U;have hq:=Bs U
 with_reducible refine⟨_,((11,PW.pt (Xh (21,Sa,(38,(Au (K:=K)),1),A4,_) (Wh (50,hq,(P,Y,(U.mono nofun),0,A4),A4,Ax _))),(l,(10,F4,(U.mono nofun),0,(54,1,A4))))
  (A3 (27,Eu.nd,Az (Ip (K:=K)) ⋯ T.b_list PyProof.Rows.Boot.«list» (7,1))
  (A3 (28,Eu.nd,(P,Y,(U.mono nofun),0,(38,(Au (K:=K)),1)))
  (A3 (75,Eu.nd,'b',(P,Y,(U.mono nofun),0,(38,(Au (K:=K)),1)))
  (A3 (Vw (w,1,pv 4) (LS (pv 2) (pv 3) W6))
  (A3 (Vw (w,1,pv 3) (LS (pv 2) (pv 4) W6))
  ((l,(103,(C0 (K:=K)),⋯,(7,2)))))))))),?_⟩
 symm;refine Tc hU ?_;symm;refine Iy (λhc=>?_) (λhc=>?_)
 . symm;exact⟨d,l,u,nmD r,1,_,10,2,rfl,hF,hU,Ui a8 a2,by omega,by omega,by omega,by omega,λv' Z H' e' a4 a6 a3=>k v' Z _ _ _ H' e' a4 a6 a3 ∅ ∅⟩
 symm;refine⟨d,l,_,rfl,hF,by omega,by omega,λj H1 j0 j1 e1 O=>?_⟩;have a7:=hU.nm_fz (hF.fz e1);symm;refine Iy (λaK=>?_) (λaK=>?_)
 . symm;exact⟨d,l,u,nmD r,1,_,10,2,rfl,O,a7,Ui a8 a2,by omega,by omega,by omega,by omega,λv' Z H' e' a4 a6 a3=>k v' Z _ _ _ H' (e1.trans e') a4 a6 a3 ∅ ∅⟩
 obtain⟨ua,rfl,aI⟩:1:=a7.nm;symm;refine V3 (.inr aI) λp H2 hp e2 h2=>?_;have a5:=O.same e2;have aA:=a7.nm_fz e2.fz;symm;refine Tc aA ?_;symm;refine⟨d,l,_,rfl,a5,by omega,by omega,λa H3 a0 a1 e3 a9=>?_⟩;have aB:=aA.nm_fz (a5.fz e3);symm;refine Tc aB ?_;symm;refine⟨d,l,_,rfl,a9,by omega,by omega,λb H4 b0 b1 e4 aF=>?_⟩;have aC:=aB.nm_fz (a9.fz e4);obtain⟨a,rfl⟩:∃ n:Nat,a=(n:Int):=⟨a.toNat,by omega⟩;obtain⟨b,rfl⟩:∃ n:Nat,b=(n:Int):=⟨b.toNat,by omega⟩;have ha:=BJ (show a<r.length by omega);have hb:=BJ (show b<r.length by omega);generalize r[a]=za at ha;generalize r[b]=zb at hb
 have aE:p≠d:=λz=>by
  obtain⟨_,_,_,_,g,_⟩:4:=a5;rw[<- z,h2] at g
  cases g
 have h4:H4 p=some (.lst (r.map V.str)):=e4 _ _ aE (e3 _ _ aE h2);symm;refine JP aC (Ci hb) ?_;symm;refine MI h4 (by rw[BA];omega) (by rw[BA];omega) λH5 e5 h5=>?_;have aG:=aF.put e5 (O.nd hp) (O.nl hp);have aJ:=aC.nm_fz (e5.fzL h4);symm;refine JP aJ (Ci ha) ?_;symm;refine MI h5 (by rw[EW,BA];omega) (by rw[EW,BA];omega) λH6 e6 h6=>?_;rw[<- List.map_set,<- List.map_set] at h6
 have hm:∀ z∈(r.set a zb).set b za,z∈r:=λz hz=>by
  rcases List.mem_or_eq_of_mem_set hz with g|g
  . rcases List.mem_or_eq_of_mem_set g with g|g
    . exact g
    exact g ▸ BG hb
  exact g ▸ BG ha
 symm;refine LH h6 (Nc _) λx H7 e7 hx=>?_;have aH:=(aG.put e6 (O.nd hp) (O.nl hp)).same e7;symm
 refine k x _ _ _ _ H7 (λb o hb h=>have g:=e1 b o hb h
  have aD:=ne_of_none g hp
  e7 _ _ (e6 b o aD (e5 b o aD (e4 b o hb (e3 b o hb (e2 _ _ g)))))) aH hx (Ui (λz hz=>a8 z (hm z hz)) (by rw[EW,EW];exact a2)) ∅ (by rw[EW,EW];omega)
theorem Wk.named {ns:AA}{B:PyData}(hp:PlanP ns ps B m):∀ {qs},Wk r B qs->(∀ p∈qs,p.1∈ns/\p.2∈ns)/\qs.length<=m:=by
 induction hp with
 |@fin ps row he=>
   intro qs w;generalize F:PyData.tuple [PyData.str "end",nmD row]=E at w
   cases w with
   |fin=>exact⟨λp hp=>(by cases hp),by simp⟩
   |one _ _=>simp[Ql] at F
   |two _ _=>simp[Ql] at F
 |@ask ps x y D1 D2 m1 m2 hx hy hxy hun p1 p2 i1 i2=>
   intro qs w;generalize F:PyData.tuple [PyData.str "ask",PyData.str x,PyData.str y,D1,D2]=E at w
   cases w with
   |fin=>simp[Y7] at F
   |one h w'=>obtain⟨rfl,rfl,rfl,rfl⟩:0:=Hx F;obtain⟨O,U⟩:=i1 w';exact⟨λp hp=>(A0A.mp hp).elim (λe=>by rw[e];exact⟨hx,hy⟩) (O p),by rw[BO];omega⟩
   |two h w'=>obtain⟨rfl,rfl,rfl,rfl⟩:0:=Hx F;obtain⟨O,U⟩:=i2 w';exact⟨λp hp=>(A0A.mp hp).elim (λe=>by rw[e];exact⟨hy,hx⟩) (O p),by rw[BO];omega⟩
theorem Wx {ns:AA}  (h:(E,ps))  (O:x∈ns) (U:y∈ns) (F:r∈ext (Ac ps) ns.length ns) (hi:r.idxOf x<r.idxOf y):r∈ext (Ac (ps++[(x,y)])) ns.length ns:=
 (Nq (rows:=ext (Ac ps) ns.length ns) h (List.Perm.refl _) O U).mem_iff.mp (A0M.mpr ⟨F,BY hi⟩)
theorem Wk.ends {ns:AA}{B:PyData}(hp:PlanP ns ps B m):∀ {qs},Wk r B qs->(E,ps)->ps.length+m<=900->r∈ext (Ac ps) ns.length ns->(E,(ps++qs))/\ext (Ac (ps++qs)) ns.length ns=[r]:=by
 induction hp with
 |@fin ps row he=>
   intro qs w O hl U;generalize F:PyData.tuple [PyData.str "end",nmD row]=E at w
   cases w with
   |fin=>rw[DE];refine⟨O,?_⟩;rw[he] at U ⊢;rw[A1C.mp U]
   |one _ _=>simp[Ql] at F
   |two _ _=>simp[Ql] at F
 |@ask ps x y D1 D2 m1 m2 hx hy hxy hun p1 p2 i1 i2=>
   intro qs w O hl U;generalize F:PyData.tuple [PyData.str "ask",PyData.str x,PyData.str y,D1,D2]=E at w
   cases w with
   |fin=>simp[Y7] at F
   |one h w'=>obtain⟨rfl,rfl,rfl,rfl⟩:0:=Hx F;have:=i1 w' (O.saidP ∅ hx hy hxy hun) (by rw[BL,CU];omega) (Wx O hx hy U h);rwa[CK] at this
   |two h w'=>obtain⟨rfl,rfl,rfl,rfl⟩:0:=Hx F;have:=i2 w' (O.saidP ∅ hy hx (Ne.symm hxy) (Mn hun)) (by rw[BL,CU];omega) (Wx O hy hx U h);rwa[CK] at this
theorem cutI {t:TT}{ta tb:TE}{σ:L2.St}(M:V->Hp->Prop)(h1:(∀ u H',M u H'->Q u H')->tIf t ta tb σ H Q)(h2:∀ u H',M u H'->Q u H'):tIf t ta tb σ H Q:=h1 h2
noncomputable def Gq (K:W.Frag):Sp:=λvs H Q _=>∃ d l hv bv ol ns ps B m rows ys,vs=[.ref d,hv,bv,.ref ol]/\(J,H)/\(15,hv)/\(E,ps)/\(∀ z∈ns,Kj z=true)/\ns.length<=10/\(9,B,bv)/\PlanP ns ps B m/\ps.length+m<=600/\H ol=(2,ys)/\(I,rows.map nmD,ys)/\Rows ns ps rows/\0<rows.length/\rows.length<=1000/\∀ H',(h,d)->(J,H')->Q (.bl true) H'
theorem Qq (F:(v,"_law_right",Ie))(T:Dp mg)(A7:(76,P,w,K,1,["_law_feed_here","_law_many"],Av K))(C9:(o,1,"_law_orders",["_law_half_here"],E6 K))(G6:(o,1,"_law_walk",["_law_plan_here","_law_order"],Hm K))(Gi:(o,4,"_law_told",["_law_half_here","_law_plan_here","_law_order"],Hl K))(Hr:(o,15,"_law_other",["_law_feed_here","_law_order"],G9 K)):FnOk P w K mg base CX0 16 f fd ["_law_feed_here","_law_half_here","_law_plan_here","_law_orders_here"] (Gq K):=by
 refine F.ok Cn (λvs H Q E h=>?_) (λcB A outer s H vs Q E Y h=>?_)
 . obtain⟨d,l,hv,bv,ol,ns,ps,B,m,rows,ys,rfl,_⟩:11:=h;rfl
 obtain⟨d,l,hv,bv,ol,ns,ps,B,m,rows,ys,rfl,hF,hI,hW,a0,a5,hB,hP,cN,bA,hL,b4,h0,cC,k⟩:11:=h;have hu:=Bp Y;have Z:=Bs Y
 with_reducible refine⟨_,(A3 (C4 BW ⋯ (101,⋯,(8,A4)) (102,Cn.nd,'b')
  ((100,Cn.nd,⋯,'b',(w,3,(P,A7,(Y.mono nofun),0,(38,(Au (K:=K)),3))))
  (A3 (127,Cn.nd,'b',(10,Gi,(Y.mono nofun),1,(39,2,5)))
  ((11,(21,Pg (K:=K) Z,Ai (E1 (K:=K) Z) ⋯ T.b_repr PyProof.Rows.Boot.«repr» (7,6),Ai (E1 (K:=K) Z) ⋯ T.b_repr PyProof.Rows.Boot.«repr» (8,(10,G6,(Y.mono nofun),2,(7,5))),_),(l,Og))
  ((11,(21,Pg (K:=K) Z,(14,C9,(Y.mono nofun),(8,Ay (22,(r,1),(53,(Aj (K:=K)),(r,1),6)))),Bi (7,5),_),(l,Og))
  (A3 (113,Cn.nd,'b',(10,Hr,(Y.mono nofun),0,(7,5)))
  (A3 (Aa (i:=8) Cn.nd ⋯ 'b' (Wa (Ak (My (K:=K) Z) (Ai (E1 (K:=K) Z) ⋯ T.b_repr PyProof.Rows.Boot.«repr» (7,7)) (40,["_law_one"],[],[],pv 3,(λ_ _ _ _=>((13,(by with_unfolding_all (show(["_law_one"]:AA).Nodup;decide +kernel))))),(Be nofun),(λ_ _ _ _=>Df),(λ_ _ _ _=>(Ai (E1 (K:=K) Z) ⋯ T.b_repr PyProof.Rows.Boot.«repr» (7,0)))) ⋯) (10,G6,(Y.mono nofun),2,(7,7)) Ar))
  (A6 (Ch (21,Pg (K:=K) Z,Ai (E1 (K:=K) Z) ⋯ T.b_repr PyProof.Rows.Boot.«repr» (8,(10,Gi,(Y.mono nofun),1,(39,2,7))),Ai (E1 (K:=K) Z) ⋯ T.b_repr PyProof.Rows.Boot.«repr» (7,8),_) (l,Og) At)))))))))
  ((l,Og))),?_⟩
 have cA:rows.length=ys.length:=by rw[<- AL hL,BA]
 have a9:∀ r∈rows,r∈ext (Ac ps) ns.length ns:=λr Y=>b4.mem_iff.mp Y;have a2:∀ r∈rows,r.Perm ns:=λr Y=>((C3 _ _ _ _ hW.nd rfl).mp (a9 r Y)).1;have bY:Li (rows.map nmD)=true:=C7 _ (λ_=>Ks _) _;symm;refine J0 ∅ ?_;refine Dq C5 (λi σ H1=>∃ x4 x5 x6 x7 x8,σ=[(3,d),some hv,some bv,(3,ol),x4,x5,x6,x7,x8]/\ExtBut d H H1/\(J,H1)) ⟨_,_,_,_,_,rfl,.refl,hF⟩ (λ_ _ _ _=>trivial) (λi x σ H1 hx hi aJ=>?_) (fun σ H1 aJ=>?_)
 . obtain⟨x4,x5,x6,x7,x8,rfl,e1,aI⟩:5:=aJ
   have keep:∀ {H2:Hp},ExtBut d H H2->Is K H2 (hfD ns ps) hv/\Is K H2 B bv/\H2 ol=(2,ys)/\IsL K H2 (rows.map nmD) ys:=fun {H2} e=>by have fz:=hF.fz e;exact⟨hI.hf_fz fz,AR fz _ _ (Ev hP) hB,e _ _ (hF.lst bA) bA,AM fz _ _ bY hL⟩
   obtain⟨cF,cD,cK,cG⟩:0:=keep e1;symm;refine⟨d,l,_,rfl,aI,by omega,by omega,λj H2 j0 j1 e2 bJ=>?_⟩;have aO:=e1.trans e2;obtain⟨bN,aS,c1,bQ⟩:0:=keep aO;obtain⟨j,rfl⟩:∃ n:Nat,j=(n:Int):=⟨j.toNat,by omega⟩;obtain⟨r,hr'⟩:∃ r,rows[j]? = some r:=⟨_,BJ ∅⟩;have a7:=BG hr';obtain⟨ov,c2,b1⟩:1:=IsL.at bQ (show(rows.map nmD)[j]? = some (nmD r) by rw[BK,hr'];rfl);have aA:r.length<=10:=by rw[(a2 r a7).length_eq];exact a5
   have aB:∀ z∈r,Kj z=true:=λz hz=>a0 z ((a2 r a7).mem_iff.mp hz);have c0:∀ z∈ns,z∈r:=λz hz=>(a2 r a7).mem_iff.mpr hz;symm;refine Fv c1 (Ci c2) ?_;symm;refine⟨hv,bv,ov,ns,ps,B,m,nmD r,1,_,10,rfl,bN,hW,a0,a5,aS,hP,by omega,b1,Ui aB aA,by omega,λr1 bG cR qs fv H3 hw e3 b7=>?_,λa6=>absurd ⟨r,rfl,a9 r a7⟩ a6⟩;obtain rfl:=Vb bG;obtain⟨bC,cP⟩:=hw.named hP;obtain⟨bW,b6⟩:=hw.ends hP hW ∅ (a9 _ a7);have c3:Dk 2 (qs.length*19) 1000 (psD qs):=Gw (LY (p:=0) (W:=1000) (λp hp=>⟨a0 _ (bC p hp).1,a0 _ (bC p hp).2⟩) ∅ ∅);obtain⟨t1,t2,t3⟩:0:=c3.told ∅ ∅;have b2:=b1.nm_fz e3.fz;symm;refine Hd b7 t1 t2 t3 ?_;symm;refine⟨bv,ov,ns,ps,B,m,_,rfl,AT e3 _ _ aS,hP,by omega,b2,c0,λaN x4 H4 c7 e4 c9=>?_⟩;obtain rfl:=hw.det c7;symm;refine Hd c9 t1 t2 t3 ?_;symm;have aQ:=e3.trans e4;have aP:ExtBut d H H4:=λb o hb h=>aQ _ _ (aO b o hb h);obtain⟨aW,cE,cL,cH⟩:0:=keep aP;have bK:=bJ.same aQ;have bZ:=b7.ps_fz e4.fz;refine Ek aW λnv hN=>?_;symm;refine T9 aW λsv bS=>?_;obtain⟨sa,sx,rfl,bV,b0⟩:2:=AS bS;obtain⟨fa,fx,rfl,bU,aZ⟩:2:=AS bZ;have c6:=AL b0;have bX:=AL aZ;rw[BA] at c6 bX;symm;refine K6 bV bU (A9 ∅) λq5 H5 e5 h5=>?_
   have bT:Is K H5 (psD (ps++aN)) (.ref q5):=AN h5 (by rw[BU];exact(AQ e5 _ _ b0).append (AQ e5 _ _ aZ))
   symm;refine Aw (A9 'c') λq6 H6 cO e6 h6=>?_;have bM:Is K H6 (hfD ns (ps++aN)) (.ref q6):=Is.of_tup (SqT.of h6) (84,Is.mono (e5.trans e6) _ _ hN,Is.mono e6 _ _ bT);symm;refine⟨_,ns,ps++aN,rfl,HfS.of bM,bW,a5,by unfold L2.cnt;rw[b6];simp,λl7 cU H7 cJ e7 h7 aY=>?_⟩;rw[b6,BM,FD] at aY;symm;refine Bk (A9 'c') λp8 H8 cM e8 h8=>?_;have aH:=((e5.trans e6).trans e7).trans e8;have b3:=(b2.nm_fz e4.fz).nm_fz aH.fz
   have b8:Dk 2 (r.length*9+1) 10 (.list [nmD r]):=LI (p:=1) ⟨λe he=>by
    rw[A1C.mp he];exact⟨_,Ui aB aA⟩,by
    have:=(Ui aB aA).wt;simp only[PyData.weightAll];omega,by simp⟩
   symm;refine MA (Is.of_lst (AJ (e8 _ _ h7)) (AQ e8 _ _ aY)) (Is.of_lst (AJ h8) (.one b3)) (b8.shaped ∅) (b8.shaped ∅) ?_
   rw[show PyData.eqv (.list [nmD r]) (.list [nmD r])=true by simp only[PyData.eqv,PyData.eqvAll,Bool.and_true];exact eqv_row.mpr rfl]
   symm;have bL:=bK.same aH;refine⟨d,l,ov,_,rfl,bL,b3,aB,aA,λtv D n w W H9 e9 aV hT aU hn c8=>?_⟩;have aG:ExtBut d H H9:=λb o hb h=>e9 b o hb (aH _ _ (aP b o hb h));obtain⟨bO,aT,b9,bR⟩:0:=keep aG;obtain⟨u1,u2,u3⟩:0:=aU.told hn c8;symm;refine cutI (λu H'=>Same H9 H'/\((∃ U q2,D=nmD U/\U∈ext (Ac ps) ns.length ns/\Wk U B q2/\(Y,psD q2,u))\/(¬ ap7 ns ps D/\u = .str "none"))) (λrest=>?_) (λu aE a8=>?_)
   . refine NS ?_;symm;refine Hd hT u1 u2 u3 ?_;symm;refine Jk (SqL.of b9) (Ep (K:=K) (Bq (xs:=ys)) rows cA (λ_=>true) (λq=>PyData.str (nmD q).shown) (λ_=>rfl) ∅ (λH' e=>e.seq (SqL.of b9)) (λi q w2 aE R R' bB aD O hR cI=>?_) (λrl cT aE cS O bH aX=>?_))
     . have aL:=BG bB;obtain⟨dq,b5,bP⟩:1:=IsL.get (90,O,_,bR) aD;rw[BK,bB] at b5
       cases b5;obtain⟨s1,s2,s3⟩:0:=(Ui (λz hz=>a0 z ((a2 q aL).mem_iff.mp hz)) (by rw[(a2 q aL).length_eq];exact a5)).told ∅ (by rw[(a2 q aL).length_eq];omega);symm;refine Hd bP s1 s2 s3 ?_;exact hR rfl _ _ (.refl _) Bf
     rw[Dy,show rows.map (λq=>PyData.str (nmD q).shown)=(rows.map λq=>(nmD q).shown).map PyData.str by rw[CG];rfl] at aX;have c5:=AX aX;subst c5;symm;refine NW (AJ bH) ?_;symm;refine Iy (λaK=>?_) (λaK=>?_)
     . obtain⟨U,a3,a4⟩:1:=A0D.mp aK;have bI:=WR (λz hz=>a0 z ((a2 U a3).mem_iff.mp hz)) a4.symm;subst bI;symm;refine⟨bv,tv,ns,ps,B,m,U,rfl,AT O _ _ aT,hP,by omega,AT O _ _ hT,λz hz=>(a2 U a3).mem_iff.mpr hz,λq2 bF aF aC a1 aM=>?_⟩;exact rest bF aF ⟨O.trans a1,.inl ⟨U,q2,rfl,a9 U a3,aC,aM⟩⟩
     exact rest (.str "none") aE ⟨O,.inr ⟨λ⟨U,a4,a3⟩=>aK (A0D.mpr ⟨U,b4.mem_iff.mpr a3,by rw[a4]⟩),rfl⟩⟩
   obtain⟨O,a8⟩:=a8;symm;refine⟨hv,bv,tv,ns,ps,B,m,D,n,w,W,rfl,AT O _ _ bO,hW,a0,a5,AT O _ _ aT,hP,by omega,AT O _ _ hT,aU,hn,λr3 aR c4 q3 bF aF aC a1 aM=>?_,λa6 aF a1=>?_⟩
   . rcases a8 with ⟨U,q2,a4,a3,aD,bE⟩|⟨a6,_⟩
     . subst a4;obtain rfl:=Vb aR;obtain rfl:=aD.det aC;obtain⟨bD,cQ⟩:=aC.named hP;obtain⟨s1,s2,s3⟩:0:=(show Dk 2 (q3.length*19) 1000 (psD q3) from Gw (LY (p:=0) (W:=1000) (λp hp=>⟨a0 _ (bD p hp).1,a0 _ (bD p hp).2⟩) ∅ ∅)).told ∅ ∅;symm;refine Hd aM s1 s2 s3 ?_;symm;refine Hd (AT a1 _ _ bE) s1 s2 s3 ?_;symm;exact⟨_,_,_,_,_,rfl,λb o hb h=>(O.trans a1) _ _ (aG b o hb h),aV.same (O.trans a1)⟩
     exact absurd ⟨r3,aR,c4⟩ a6
   rcases a8 with ⟨U,q2,a4,a3,aD,bE⟩|⟨_,rfl⟩
   . exact absurd ⟨U,a4,a3⟩ a6
   obtain⟨s1,s2,s3⟩:0:=(show Dk 0 4 1 (.str "none") from M0 (NX 'f') 'f').told ∅ ∅;symm;refine Hd (d:=.str "none") Bf s1 s2 s3 ?_;symm;refine Hd (d:=.str "none") Bf s1 s2 s3 ?_;symm;exact⟨_,_,_,_,_,rfl,λb o hb h=>(O.trans a1) _ _ (aG b o hb h),aV.same (O.trans a1)⟩
 obtain⟨x4,x5,x6,x7,x8,rfl,e1,aI⟩:5:=aJ;symm;exact k H1 e1 aI
noncomputable def spLaw (P:Addr)(K:W.Frag):Sp:=λvs H Q _=>∃(a:Addr) (ns:List Int),vs=[.ref a]/\(83,K,a,V.int)/\ns.length<=63/\LmT P H/\∀ H',Q (.bl true) H'
theorem K3 {P:Addr}(h:LmT P H)(F:Feed H f l)(e:(h,f)):LmT P H':=by obtain⟨_,_,_,_,h1,_⟩:4:=F;exact LamT.but h e h1 (λ_ z=>by cases z) (λ_ z=>by cases z)
theorem RB {P:Addr}(Z:LmT P H)(Y:Feed H f l)(e:(h,P)):Feed H' f l:=by obtain⟨ps,F⟩:=Nt Z;obtain⟨a,t,u,cs,h1,h2,O,U⟩:4:=Y;exact⟨a,t,u,cs,e _ _ (52,h1,F) h1,e _ _ (52,h2,F) h2,O,U⟩
theorem ZU {P b:Addr}(F:LmT P H)(e:(h,P))(h:H b=(2,xs)):H' b=some (.lst xs):=by obtain⟨ps,O⟩:=Nt F;exact e _ _ (52,h,O) h
theorem fz_P {P:Addr}(F:LmT P H)(e:(h,P)):Fz H H':=by obtain⟨ps,O⟩:=Nt F;exact Zk e O
theorem RT (F:(v,"law",R9))(T:Dp mg)(N3:(o,153,"planned",["half"],La P_best K))(Jm:(o,1,"_law_feed",["_law_script"],Hv K))(Du:(o,4,"_law_half",["_law_feed_here","_law_most"],Fc K))(C9:(o,1,"_law_orders",["_law_half_here"],E6 K))(Im:(o,5,"_law_few",["_law_feed_here"],Jj K))(Dt:(o,128,"_law_plan",["_law_feed_here","_law_names_here","_law_orders_here"],He K))(Fd:(o,16,"_law_right",["_law_feed_here","_law_half_here","_law_plan_here","_law_orders_here"],Gq K)):FnOk P w K mg base CX0 154 f fd ["_law_script"] (spLaw P_best K):=by
 refine F.ok Ru (λvs H Q E h=>?_) (λbM A outer s H vs Q E Y h=>?_)
 . obtain⟨a,ns,rfl,_⟩:2:=h;rfl
 obtain⟨a,cs,rfl,hS,b0,hT,k⟩:2:=h;have hu:=Bp Y;have hq:=Bs Y
 with_reducible refine⟨_,((69,Ru.nd,⋯,'b',(14,Jm,(Y.mono nofun),(7,0)))
  (A3 (27,Ru.nd,Bi (A1 (14,Im,(Y.mono nofun),(7,1)) (22,(14,Im,(Y.mono nofun),(7,1)),(P,Du,(Y.mono nofun),1,A4))))
  (A3 ((51,BW,pv 2,(128,Ru.nd,'b'))
  (A3 (75,Ru.nd,'b',(14,C9,(Y.mono nofun),(7,3)))
  (A6 (Ch (Ln (Hw (10,Fd,(Y.mono nofun),1,A1 (pv 3) (A1 (10,Dt,(Y.mono nofun),1,A1 (r,3) (7,4)) (7,4))))) (l,Og) At))))
  ((l,(10,Fd,(Y.mono nofun),1,A1 (r,2) (22,(14,N3,(Y.mono nofun),(8,(r,2))),(14,C9,(Y.mono nofun),(8,(r,2)))))))))),?_⟩
 symm;refine⟨a,cs,rfl,hS,b0,λf l H1 hf hl e1 hF=>?_⟩;have aS:=hT.same e1;symm;refine⟨f,l,rfl,hF,λZ a0 a1 H2 e2 a8 aL O=>?_⟩;have aT:=K3 aS hF e2;symm;refine⟨f,l,rfl,a8,λv1 bI bJ H3 e3 a9 aA aJ=>?_⟩;have aU:=K3 aT a8 e3;symm;refine⟨f,l,_,rfl,a9,by omega,by omega,λv2 aX bK H4 e4 aI aO aK bE=>?_⟩;have aV:=K3 aU a9 e4;symm;refine Bk (A9 'c') λaW H5 bP e5 h5=>?_;have b3:=aI.same e5;have b8:=aV.same e5;have aE:=a9.fz e4;have aY:=a8.fz e3;have aM:=aL.hf_fz ((aY.trans aE).trans e5.fz);have aN:=aA.hf_fz (aE.trans e5.fz);have aP:=aO.hf_fz e5.fz
 have bH:∀(i:Nat) v,[Z,v1,v2][i]? = some v->∃ e:AA×AB,Is K H5 (hfD e.1 e.2) v/\HR e.1 e.2:=λi v hv=>by
  match i,hv with
  |0,hv=>cases hv;exact⟨(a0,a1),aM,O⟩
  |1,hv=>cases hv;exact⟨(bI,bJ),aN,aJ⟩
  |2,hv=>cases hv;exact⟨(aX,bK),aP,NQ aK (by show aX.length<=5;omega)⟩
  |n+3,hv=>cases hv
 clear aL aA aO aN aP aJ aK bE e2 e3 e4 a8 a9 aI aS aT aU aV;symm;refine Jk (AJ h5) ?_;refine Dq (Bq (xs:=[Z,v1,v2])) (λi σ H'=>∃ x3 x4,σ=[(3,a),(3,f),(3,aW),x3,x4]/\Feed H' f l/\Fz H5 H'/\H' aW=(2,[Z,v1,v2])/\LmT P_best H') ⟨_,_,rfl,b3,.refl _,h5,b8⟩ (λi σ' H' hP=>?_) (λi v σ' H6 hv hi hP=>?_) (fun σ' H6 hP=>?_)
 . obtain⟨_,_,_,_,_,h,_⟩:2:=hP;exact AJ h
 . obtain⟨x3,x4,rfl,aD,a7,h6,a2⟩:2:=hP;obtain⟨⟨ns,ps⟩,hI,U⟩:1:=bH i v hv;replace U:HR ns ps:=U;replace hI:Is K H5 (hfD ns ps) v:=hI;have a5:=hI.hf_fz a7;have bC:=U.cn;have aF:=U.le;have bD:=K1 (b:=Ac ps) (λx=>O2 U.w x) (λx y z a b=>wayB_iff.mpr ((wayB_iff.mp a).trans (wayB_iff.mp b))) ns.length ns rfl U.w.nd;symm;refine⟨v,ns,ps,rfl,.of a5,U.w,U.few,by omega,λol ys H8 bF e8 h8 a6=>?_⟩;have bB:(20,ps)=(ext (Ac ps) ns.length ns).length:=rfl;have bG:=AL a6;rw[BA] at bG;have a3:=aD.same e8;have b9:=a2.same e8;have aG:=e8 _ _ h6;have aR:=a5.hf_fz e8.fz;symm;refine Ek aR λnv hN=>?_;symm;refine⟨f,l,nv,ol,ns,ps,ext (Ac ps) ns.length ns,ys,rfl,a3,hN,h8,a6,U.w,U.few,.refl _,by omega,by omega,by omega,by omega,λp1 D1 m1 H9 e9 a4 b7 bQ aA=>?_⟩;have bA:=K3 b9 a3 e9;have aC:=a3.fz e9;have b5:=aR.hf_fz aC;have aH:=e9 _ _ (a3.lst aG) aG;have b1:=e9 _ _ (a3.lst h8) h8;symm;refine⟨f,l,v,p1,ol,ns,ps,D1,m1,ext (Ac ps) ns.length ns,ys,rfl,a4,b5,U.w,U.nm,U.few,aA,b7,by omega,b1,AM aC _ _ (Ma _) a6,.refl _,by omega,by omega,λbL aB b2=>?_⟩;symm;exact⟨_,_,rfl,b2,(((a7.trans e8.fz).trans aC).trans (a4.fz aB)),aB _ _ (a4.lst aH) aH,K3 bA a4 aB⟩
 obtain⟨x3,x4,rfl,aD,a7,h6,a2⟩:2:=hP;have bC:=O.cn;have aF:=O.le;have bD:=K1 (b:=Ac a1) (λx=>O2 O.w x) (λx y z a b=>wayB_iff.mpr ((wayB_iff.mp a).trans (wayB_iff.mp b))) a0.length a0 rfl O.w.nd;have a5:=aM.hf_fz a7;symm;refine Fv h6 (show atI [Z,v1,v2] 0=some Z from rfl) ?_;symm;refine Fv h6 (show atI [Z,v1,v2] 0=some Z from rfl) ?_;symm;refine⟨Z,a0,a1,rfl,a5,O.w,O.few,aF,by omega,a2,λu D m H7 e7 bO hB b6=>?_⟩;have hP:=hB.p O.w.nd;have bN:=hP.le45 O.few;have aZ:=fz_P a2 e7;have h7:=ZU a2 e7 h6;have b4:=RB a2 aD e7;have aQ:=a5.hf_fz aZ;symm;refine Fv h7 (show atI [Z,v1,v2] 0=some Z from rfl) ?_;symm;refine⟨Z,a0,a1,rfl,.of aQ,O.w,O.few,by omega,λol ys H8 bF e8 h8 a6=>?_⟩;have bB:cnt (Ac a1) a0=(ext (Ac a1) a0.length a0).length:=rfl;symm;refine⟨f,l,Z,u,ol,a0,a1,D,m,ext (Ac a1) a0.length a0,ys,rfl,b4.same e8,aQ.hf_fz e8.fz,O.w,O.nm,O.few,AT e8 _ _ b6,hP,by omega,h8,a6,.refl _,by omega,by omega,λH9 e9 a4=>?_⟩;symm;exact k H9
end
theorem all_mk {l:W.OpenLaw}{w:World}{K:W.Frag}{h:Heap}{mg:AH}{fa aG aH a7 a8 a9 aA aB aC aD aP aV aO aQ aS aT aN aU aR V2:Addr}(X:K.In h)(G:(99,mg))(eF:mg "law" = (3,fa))
 {bR c9 bS b5 bT cA bU cB bV cC bW cD bX cE bY cF bZ cG:Option Addr} {cY cZ d0 d1 d2 d3 d4 d5 d6:(121,Value)} {cH dF c0 cQ aE d7 cI bF aW b6 aF bE cJ dG c1 cR b7 d8 cK dH c2 cS b8 d9 cL dI c3 cT b9 dA cM dJ c4 cU bA dB cN dK c5 cV bB dC cO dL c6 cW bC dD cP dM c7 cX bD dE:Value}
 (dW:(74,K,"Ways") = (18,C_Ways)) (g7:W.plainGet K C_Ways Str.empty=true) (eE:W.hasDictIn K C_Ways=true) (g8:W.plainOver K C_Ways=true) (g9:(Q,C_Ways,"__setattr__") = (46,"object.__setattr__")) (fZ:W.makesIn K C_Ways=true) (fP:(V,K,C_Ways)=true)
 (g5:(Q,C_Ways,"names") = some none)
 (g2:(Q,C_Ways,"bits") = some none)
 (g1:(Q,C_Ways,"ahead") = some none)
 (g3:(Q,C_Ways,"full") = some none)
 (g4:(Q,C_Ways,"known") = some none)
 (cg:W.specialIn K (.builtin "object.__class__") "__get__" = (46,"getset_descriptor.__get__")) (ct:W.takesIn K (.builtin "object.__class__")=some true)
 (bI:(74,K,"HalfError") = (18,C_HalfError))
 (bJ:(74,K,"NoName") = (18,C_NoName))
 (bM:(74,K,"TooMany") = (18,C_TooMany))
 (bL:(74,K,"NoPlace") = (18,C_NoPlace))
 (bK:(74,K,"NoOrder") = (18,C_NoOrder))
 (bH:(74,K,"Clash") = (18,C_Clash))
 (a3:xF K C_HalfError C_HalfError true true []=true)
 (gL:(115,K,"NoHalf",aP))
 (gR:(115,K,"NoText",aV))
 (a4:xF K C_NoName C_HalfError false false ["name"]=true)
 (a6:xF K C_TooMany C_HalfError false false ["word"]=true)
 (gK:(115,K,"NoCover",aO))
 (a5:xF K C_NoPlace C_HalfError false false ["number"]=true)
 (a0:xF K C_NoOrder C_HalfError false true []=true)
 (gM:(115,K,"NoJoin",aQ))
 (a2:xF K C_Clash C_HalfError false false ["way"]=true)
 (gO:(115,K,"NoPaper",aS))
 (gP:(115,K,"NoPlan",aT))
 (gJ:(115,K,"NoBound",aN))
 (gQ:(115,K,"NoSaying",aU))
 (gN:(115,K,"NoMore",aR))
 (g6:([C_HalfError,C_Clash,aN,aO,aP,aQ,aR,C_NoName,C_NoOrder,aS,C_NoPlace,aT,aU,aV,C_TooMany]:AF).Nodup)
 (j0:Fj K "refuse_strangers" Di)
 (j1:Fj K "behind_each" Gs)
 (j2:Fj K "closed" Py)
 (j3:Fj K "has_third_between" Cz)
 (j4:Fj K "bare" a83)
 (j5:Fj K "are_untold" Hg)
 (j6:Fj K "untold_of" Jo)
 (j7:Fj K "untold" R6)
 (j8:Fj K "bits_of" Nh)
 (j9:Fj K "bits_ahead" Hu)
 (eM:Fj K "count" V0)
 (eN:Fj K "way_by_sayings" Ef)
 (eO:Fj K "thinned" Mo)
 (eP:Fj K "said" a55)
 (eQ:Fj K "is_order" L1)
 (eR:Fj K "refuse_no_order" Dw)
 (eS:Fj K "order_on" Ij)
 (eT:Fj K "order_of" Kw)
 (eU:Fj K "comings_of" Hz)
 (eV:Fj K "shares_of" Jl)
 (eW:Fj K "questions" Je)
 (dN:(74,K,"best") = (18,aG)) (fQ:K.lookup aG=some ⟨cH,bR,.func (43,"best","best",Br P9,Bb P9,A8 P9,dF,c0,cQ,c9,aE,d7),cY⟩) (e4:(73,aE,"best") = true) (bP:(V,K,aG)=true)
 (eX:Fj K "answers" Nr)
 (eY:Fj K "planned_on" Ff)
 (eZ:Fj K "planned" N2)
 (f0:Fj K "_law_feed" J7)
 (f1:Fj K "_law_draw" K0)
 (f2:Fj K "_law_names" Ha)
 (f3:Fj K "_law_shuffled" F8)
 (f4:Fj K "_law_pairs" Hq)
 (f5:Fj K "_law_sayings" Fn)
 (f6:Fj K "_law_half" Jd)
 (f7:Fj K "_law_orders" Gp)
 (f8:Fj K "_law_parts" Ib)
 (f9:Fj K "_law_questions" Ee)
 (fA:Fj K "_law_few" Lc)
 (fB:Fj K "_law_plan" Gv)
 (fC:Fj K "_law_odd" L5)
 (fD:Fj K "_law_bent" Gn)
 (fE:Fj K "_law_walk" Jh)
 (fF:Fj K "_law_told" Jr)
 (fG:Fj K "_law_other" Hc)
 (fH:Fj K "_law_right" Ie)
 (dO:(74,K,"law") = (18,aH)) (fR:K.lookup aH=some ⟨cI,bS,.func (43,"law","law",Br R9,Bb R9,A8 R9,bF,aW,b6,b5,aF,bE),cZ⟩) (e5:(73,aF,"law") = true) (fJ:(V,K,aH)=true)
 (dP:(119,K,C_Ways) = (18,a7)) (eG:(87,K,a7)=true) (fS:K.lookup a7=some ⟨cJ,bT,.func (43,"__init__","Ways.__init__",Br Dz,Bb Dz,A8 Dz,dG,c1,cR,cA,b7,d8),d0⟩) (e6:(73,b7,"Ways.__init__") = true) (fK:(V,K,a7)=true)
 (dQ:(Q,C_Ways,"free_names") = (18,a8)) (eH:(87,K,a8)=true) (fT:K.lookup a8=some ⟨cK,bU,.func (43,"free_names","Ways.free_names",Br Bm,Bb Bm,A8 Bm,dH,c2,cS,cB,b8,d9),d1⟩) (e7:(73,b8,"Ways.free_names") = true) (bQ:(V,K,a8)=true)
 (bG:(Q,C_Ways,"ways_on") = (18,a9)) (bO:(87,K,a9)=true) (fU:K.lookup a9=some ⟨cL,bV,.func (43,"ways_on","Ways.ways_on",Br By,Bb By,A8 By,dI,c3,cT,cC,b9,dA),d2⟩) (e8:(73,b9,"Ways.ways_on") = true) (aI:(V,K,a9)=true)
 (dR:(119,K,C_NoName) = (18,aA)) (eI:(87,K,aA)=true) (fV:K.lookup aA=some ⟨cM,bW,.func (43,"__init__","NoName.__init__",Br Cp,Bb Cp,A8 Cp,dJ,c4,cU,cD,bA,dB),d3⟩) (e9:(73,bA,"NoName.__init__") = true) (fL:(V,K,aA)=true)
 (dS:(119,K,C_TooMany) = (18,aB)) (eJ:(87,K,aB)=true) (fW:K.lookup aB=some ⟨cN,bX,.func (43,"__init__","TooMany.__init__",Br Cg,Bb Cg,A8 Cg,dK,c5,cV,cE,bB,dC),d4⟩) (eA:(73,bB,"TooMany.__init__") = true) (fM:(V,K,aB)=true)
 (dT:(119,K,C_NoPlace) = (18,aC)) (eK:(87,K,aC)=true) (fX:K.lookup aC=some ⟨cO,bY,.func (43,"__init__","NoPlace.__init__",Br Ce,Bb Ce,A8 Ce,dL,c6,cW,cF,bC,dD),d5⟩) (eB:(73,bC,"NoPlace.__init__") = true) (fN:(V,K,aC)=true)
 (dU:(119,K,C_Clash) = (18,aD)) (eL:(87,K,aD)=true) (fY:K.lookup aD=some ⟨cP,bZ,.func (43,"__init__","Clash.__init__",Br Dd,Bb Dd,A8 Dd,dM,c7,cX,cG,bD,dE),d6⟩) (eC:(73,bD,"Clash.__init__") = true) (fO:(V,K,aD)=true)
 (lc:aE = .ref V2) (lh:W.codeHdIn K V2 P_best=true) (lg:mainGlobals≠P_best)
 {t0:Tok} (g0:(74,K,"MOST_LISTED") = some (some (.int 720 t0)))
 (O:zIn K ["ValueError","all","any","dict","enumerate","int","isinstance","len","list","max","min","range","repr","reversed","str","sum","tuple"]=true)
 : ∃ fd:FuncData,(∃ c,W.codeHdIn K c P_best=true)/\(∀(s:Shared) (v:Value),BindsTo s fd ⟨[v],[]⟩ [("_law_script",v)])/\∀ base:Heap,K.In base->base.Ns mainGlobals mg->base.BuiltinsAt mg P_best->FnOk l.prog w K mg base CX0 154 fa fd ["_law_script"] (spLaw P_best K):=by
 have e:=eF.symm.trans (CQ X G dO)
 cases e;have T:Dp mg:=⟨⟨_,W.mg_of X G g0,⟨_,rfl⟩⟩,Sz O X G 'c',Sz O X G 'c',Sz O X G 'c',Sz O X G 'c',Sz O X G 'c',Sz O X G 'c',Sz O X G 'c',Sz O X G 'c',Sz O X G 'c',Sz O X G 'c',Sz O X G 'c',Sz O X G 'c',Sz O X G 'c',Sz O X G 'c',Sz O X G 'c',Sz O X G 'c',Sz O X G 'c'⟩;have aX:=J4 (st:=P9) fQ e4 bP;have dX:Binds K _ ["half"] []:=Wf aX λ_ _ _ _ _ _ _=>rfl;have c8:=J4 (st:=R9) fR e5 fJ;have aY:=J4 (st:=Dz) fS e6 fK;have dY:Binds K _ ["self","half"] []:=Iz aY λ_ _ _ _ _ _ _ _=>rfl;have aZ:=J4 (st:=Bm) fT e7 bQ;have dZ:Binds K _ ["self","left"] []:=Iz aZ λ_ _ _ _ _ _ _ _=>rfl;have b0:=J4 (st:=By) fU e8 aI;have bN:Binds K _ ["self","left"] []:=Iz b0 λ_ _ _ _ _ _ _ _=>rfl;have b1:=J4 (st:=Cp) fV e9 fL;have e0:Binds K _ ["self","name"] []:=Iz b1 λ_ _ _ _ _ _ _ _=>rfl;have b2:=J4 (st:=Cg) fW eA fM;have e1:Binds K _ ["self","word"] []:=Iz b2 λ_ _ _ _ _ _ _ _=>rfl;have b3:=J4 (st:=Ce) fX eB fN;have e2:Binds K _ ["self","number"] []:=Iz b3 λ_ _ _ _ _ _ _ _=>rfl;have b4:=J4 (st:=Dd) fY eC fO;have e3:Binds K _ ["self","way"] []:=Iz b4 λ_ _ _ _ _ _ _ _=>rfl;have Y:De K C_Ways:=⟨⟨g7,eE,g8,g9⟩,g5,g2,g1,g3,g4⟩;have Z:Bw K mg C_HalfError C_HalfError:=⟨xF.xc a3 cg ct,CQ X G bI,⟨xF.xc a3 cg ct,xF.no a3,xF.kp a3,CQ X G bI⟩⟩;have gC:=gL.o X G cg ct;have gI:=gR.o X G cg ct;have a1:G0 K mg C_NoName C_HalfError:=⟨xF.xc a4 cg ct,CQ X G bJ,xF.mr a4,xF.n a4 nofun⟩;have aM:Ja K mg C_TooMany C_HalfError:=⟨xF.xc a6 cg ct,CQ X G bM,xF.mr a6,xF.n a6 nofun⟩;have gB:=gK.o X G cg ct;have aL:K2 K mg C_NoPlace C_HalfError:=⟨xF.xc a5 cg ct,CQ X G bL,xF.mr a5,xF.n a5 nofun⟩;have aK:Gg K mg C_NoOrder C_HalfError:=⟨xF.xc a0 cg ct,CQ X G bK,xF.mr a0,⟨xF.xc a0 cg ct,xF.no a0,xF.kp a0,CQ X G bK⟩⟩;have gD:=gM.o X G cg ct;have aJ:Mz K mg C_Clash C_HalfError:=⟨xF.xc a2 cg ct,CQ X G bH,xF.mr a2,xF.n a2 nofun⟩;have gF:=gO.o X G cg ct;have gG:=gP.o X G cg ct;have gA:=gJ.o X G cg ct;have gH:=gQ.o X G cg ct;have gE:=gN.o X G cg ct;refine⟨(43,"law","law",Br R9,Bb R9,A8 R9,bF,aW,b6,b5,aF,bE),⟨V2,lh⟩,λs v=>.of_eq rfl,λbase KB _ eD=>?_⟩;have lb:MH K mg base V2 P_best:=⟨W.codeHd_of_K KB lh,eD,lg⟩;have Dn:Fnd l.prog w K mg base 1 "refuse_strangers" ["half","asked"] (D6 K):=j0.fnd X G λF=>Jq F T;have B1:Fnd l.prog w K mg base 1 "behind_each" ["half"] (Cd K):=j1.fnd X G λF=>Ov F T;have D4:Fnd l.prog w K mg base 1 "has_third_between" ["reach","pair"] (Ct K):=j3.fnd X G λF=>Ir F T;have Hn:Fnd l.prog w K mg base 1 "are_untold" ["reach","one","other"] (Gm K):=j5.fnd X G λF=>Rk F T;have O0:Fnd l.prog w K mg base 1 "bits_of" ["names"] (Lg K):=j8.fnd X G λF=>Xd F T;have Eg:Fnd l.prog w K mg base 1 "way_by_sayings" ["sayings","start","goal"] (Dv K):=eN.fnd X G λF=>Lf F T;have Ku:Fnd l.prog w K mg base 1 "is_order" ["half","thing"] (Js K):=eQ.fnd X G λF=>Uw F T;have Jm:Fnd l.prog w K mg base 1 "_law_feed" ["_law_script"] (Hv K):=f0.fnd X G λF=>T8 F T;have U:Fnd l.prog w K mg base 1 "_law_draw" ["_law_feed_here","_law_many"] (Av K):=f1.fnd X G λF=>Sw F T;have C9:Fnd l.prog w K mg base 1 "_law_orders" ["_law_half_here"] (E6 K):=f7.fnd X G λF=>Oq F T;have C6:Fnd l.prog w K mg base 1 "_law_parts" ["_law_orders_here","_law_one","_law_other_here"] (Do K):=f8.fnd X G λF=>Qm F T;have G6:Fnd l.prog w K mg base 1 "_law_walk" ["_law_plan_here","_law_order"] (Hm K):=fE.fnd X G λF=>T4 F T;have Af:Mtd l.prog w K mg base 1 C_Ways "free_names" ["self","left"] (B0 C_Ways K):=⟨_,_,Kp aZ T Y,⟨dQ,eH,bQ⟩,dZ⟩;have gU:Mkx l.prog w K mg base 1 C_NoName "NoName" ["self","name"] (spX C_NoName ["name"]):=⟨_,_,Ol b1 T Z a1,a1.xc,dR,eI,xF.kp a4,CQ X G bJ,e0⟩;have gT:Mkx l.prog w K mg base 1 C_TooMany "TooMany" ["self","word"] (spX C_TooMany ["word"]):=⟨_,_,Ni b2 T Z aM,aM.xc,dS,eJ,xF.kp a6,CQ X G bM,e1⟩;have gS:Mkx l.prog w K mg base 1 C_NoPlace "NoPlace" ["self","number"] (spX C_NoPlace ["number"]):=⟨_,_,Nx b3 T Z aL,aL.xc,dT,eK,xF.kp a5,CQ X G bL,e2⟩;have gW:Mkx l.prog w K mg base 1 C_Clash "Clash" ["self","way"] (spX C_Clash ["way"]):=⟨_,_,R1 b4 T Z aJ,aJ.xc,dU,eL,xF.kp a2,CQ X G bH,e3⟩;have Q4:Fnd l.prog w K mg base 2 "closed" ["half"] (Mt K):=j2.fnd X G λF=>Zi F T B1;have Jv:Fnd l.prog w K mg base 2 "untold_of" ["reach"] (Ia K):=j6.fnd X G λF=>Tb F T Hn;have Ic:Fnd l.prog w K mg base 2 "bits_ahead" ["half","bits"] (Gc K):=j9.fnd X G λF=>Rh F T B1;have E2:aw7 l.prog w K mg base 2 "refuse_no_order" ["half","thing"] (D0 C_NoOrder K):=eR.fnd1 X G λF=>Jt F T Z a1 aK Ku;have Hb:Fnd l.prog w K mg base 2 "comings_of" ["ways"] (Gf C_Ways K):=eU.fnd X G λF=>Qw F T Y Af;have Db:Fnd l.prog w K mg base 2 "_law_names" ["_law_feed_here","_law_many"] (Es K):=f2.fnd X G λF=>Qs F T U;have Bo:Fnd l.prog w K mg base 2 "_law_shuffled" ["_law_feed_here","_law_some"] (Cw K):=f3.fnd X G λF=>M5 F T U;have Hs:Fnd l.prog w K mg base 2 "_law_pairs" ["_law_feed_here","_law_line"] (G4 K):=f4.fnd X G λF=>R7 F T U;have Cb:Fnd l.prog w K mg base 2 "_law_questions" ["_law_names_here","_law_orders_here"] (Cq K):=f9.fnd X G λF=>Le F T C6;have Fq:Fnd l.prog w K mg base 2 "_law_odd" ["_law_feed_here","_law_part"] (Gu K):=fC.fnd X G λF=>Uf F T U;have dV:Fnd l.prog w K mg base 3 "bare" ["half"] (V8 K):=j4.fnd X G λF=>QC F T B1 Q4 D4;have Qr:Fnd l.prog w K mg base 3 "untold" ["half"] (Nl K):=j7.fnd X G λF=>Zc F T B1 Jv;have Nb:aw7 l.prog w K mg base 3 "answers" ["half","plan","order"] (Ju C_NoOrder K):=eX.fnd1 X G λF=>V7 F T Z a1 aK E2;have Fl:Fnd l.prog w K mg base 3 "_law_sayings" ["_law_feed_here","_law_line"] (F3 K):=f5.fnd X G λF=>Mq F T U Hs;have C8:Mkd l.prog w K mg base 3 C_Ways "Ways" ["self","half"] (Ec C_Ways K):=⟨_,_,S9 aY T Y O0 Ic,⟨fZ,dP,eG,fP⟩,CQ X G dW,dY⟩;have Nf:Fnd l.prog w K mg base 4 "thinned" ["names","sayings"] (L3 K):=eO.fnd X G λF=>X2 F T dV;have Du:Fnd l.prog w K mg base 4 "_law_half" ["_law_feed_here","_law_most"] (Fc K):=f6.fnd X G λF=>Rp F T U Db Bo Fl;have Gi:Fnd l.prog w K mg base 4 "_law_told" ["_law_half_here","_law_plan_here","_law_order"] (Hl K):=fF.fnd X G λF=>Sx F T Z gC gI a1 aM gB aL aK gD aJ gF gG gA gH gE g6 Nb;have Ox:Fnd l.prog w K mg base 5 "said" ["half","name","other"] (Qo K):=eP.fnd X G λF=>XB F T Dn Eg Nf;have Im:Fnd l.prog w K mg base 5 "_law_few" ["_law_feed_here"] (Jj K):=fA.fnd X G λF=>Ud F T U Db Bo Du;have Al:Mtd l.prog w K mg base 13 C_Ways "ways_on" ["self","left"] (Bt C_Ways K):=⟨_,_,Mr b0 T Y Af ⟨bG,bO,aI⟩ bN,⟨bG,bO,aI⟩,bN⟩;have U2:Fnd l.prog w K mg base 14 "count" ["half"] (Qd K):=eM.fnd X G λF=>WT F T Y C8 Al;have Jw:Fnd l.prog w K mg base 14 "shares_of" ["half"] (Gz K):=eV.fnd X G λF=>Rv F T Y Hb C8 Af Al;have F4:Fnd l.prog w K mg base 14 "_law_bent" ["_law_feed_here","_law_part","_law_deep"] (Hk K):=fD.fndR X G λF m k b=>S8 F T U Fq m k b;have J8:Fnd l.prog w K mg base 15 "questions" ["half"] (I0 K):=eW.fnd X G λF=>Ry F T Qr Jw;have Hr:Fnd l.prog w K mg base 15 "_law_other" ["_law_feed_here","_law_order"] (G9 K):=fG.fnd X G λF=>Pp F T U F4;have Tx:Fnd l.prog w K mg base 16 "best" ["half"] (R8 P_best K):=⟨_,_,QN aX T lb lc J8,CQ X G dN,bP,dX⟩;have Fd:Fnd l.prog w K mg base 16 "_law_right" ["_law_feed_here","_law_half_here","_law_plan_here","_law_orders_here"] (Gq K):=fH.fnd X G λF=>Qq F T U C9 G6 Gi Hr;have Ft:Fnd l.prog w K mg base 25 "order_on" ["ways","left","number"] (Jz C_Ways K):=eS.fndR X G λF m k b=>Ux F T Y Af Al m k b;have Fw:Fnd l.prog w K mg base 26 "order_of" ["half","number"] (Ge K):=eT.fnd X G λF=>U9 F T Y Ft C8 Al;have Dt:Fnd l.prog w K mg base 128 "_law_plan" ["_law_feed_here","_law_names_here","_law_orders_here"] (He K):=fB.fndR X G λF m k b=>Rx F T U C6 Cb m k b;have D7:Fnd l.prog w K mg base 152 "planned_on" ["half"] (G8 P_best K):=eY.fndR X G λF m k b=>Qk F T Ox Fw Tx m k b;have N3:Fnd l.prog w K mg base 153 "planned" ["half"] (La P_best K):=eZ.fnd X G λF=>Xa F T U2 D7;exact RT c8 T N3 Jm Du C9 Im Dt Fd
theorem walk {l:W.OpenLaw}{q:Program}{a2:AA}{Y:(Str->Option Value)->Heap->Prop}{O:World->Heap->Prop}{d:DefRec}{K:Params->W.Frag}(hn:l.most=some 63)(a1:d.params.defaults=[])
 (hY:∀(w:World) (h:Heap),O w h->(K w.params).In h) (a0:∀(w:World) (h:Heap),O w h->h.get? P_best=some (W.tabObj #[])) (Z:∀(w:World),(K w.params).lookup P_best=none)
 (F:∀(w:World) (mg:AH) (U:Addr) (h:Heap),(K w.params).In h->(99,mg)->mg d.name=(3,U) ->
  ∃ fd:FuncData,(∃ c,W.codeHdIn (K w.params) c P_best=true)/\(∀(s:Shared) (u:Value),BindsTo s fd ⟨[u],[]⟩ [("_law_script",u)])/\∀ base:Heap,(K w.params).In base->base.Ns mainGlobals mg->base.BuiltinsAt mg P_best->FnOk l.prog w (K w.params) mg base CX0 154 U fd ["_law_script"] (spLaw P_best (K w.params))) :
 W.WalkO q a2 Y O l.row.toRowW d [] (λf vs=>PySem.call f vs):=
 L2.walk_ofT (n:=63) (k:=154) (x:="_law_script") (CX:=λ_=>CX0) (sp:=λw=>spLaw P_best (K w.params)) hn nofun a1 ⟨rfl,by decide,by decide,rfl⟩ hY a0 Z F (λ_ _ a ns hl hO hS=>⟨a,ns,rfl,hS,hl,.inl hO.1,λ_=>rfl⟩) λ_ _ _ _ _ z=>z
end K65
namespace PySem.W.Fast
def tw970091873307549235:=0
def tw11014957275601822224:=0
def tw5240859455148869903:=0
def tw14244560067604557391:=0
def tw15728768014976883122:=0
def tw3950638107454707150:=0
def tw15458000354690214666:=0
def tw16910055713108041175:=0
def tw10664207968980837530:=0
def tw15321675834895099386:=0
def tw16118233218421600433:=0
def tw429856226713860153:=0
def tw12067050905769181591:=0
def tw11072736927605675020:=0
def tw5787621715651681392:=0
def tw7601989141117088670:=0
def tw3258994337675176142:=0
def tw156755253295635422:=0
def tw16707572768562569407:=0
def tw17059765082419880149:=0
def tw265344504083102999:=0
def tw18384770928657025461:=0
def tw11310759797104848725:=0
def tw6802922003997502344:=0
def tw7080193064562799886:=0
def tw13943064763544995780:=0
def tw1449679836405262404:=0
def tw15923858270786874336:=0
def tw205724847132338927:=0
def tw3340099963137220356:=0
def tw2939714932353467532:=0
def tw417086503621984249:=0
def tw10429350303474661128:=0
def tw12784592828043662444:=0
def tw18076625820223670101:=0
def tw2707794170087652053:=0
def tw10297735924066203658:=0
def tw16346184008774074692:=0
def tw751689785390976501:=0
def tw3710002529953175565:=0
def tw9564788328598448541:=0
def tw6601286027142399000:=0
def tw12095436632345857155:=0
def tw616390994867881973:=0
def tw16789831952871764626:=0
def tw1978598199482538680:=0
def tw142207831262737069:=0
def tw2559619319744356413:=0
def tw11837018274903359244:=0
def tw17816501666958137517:=0
def tw5988232438113898522:=0
def tw16407629969603303373:=0
def tw3590348137878301390:=0
def tw802738583031905346:=0
def tw4764799731640569211:=0
def tw1813016993682686051:=0
def tw15302918657122070701:=0
def tw11146175855533634490:=0
def tw2901188906750756284:=0
def tw10776904762209109279:=0
def tw9756746794472778333:=0
def tw6484997373471027204:=0
def tw10227142540851171783:=0
def tw1966109713662816195:=0
def tw3778529550758128377:=0
def tw10934803907957946437:=0
def tw6588258040124857346:=0
def tw15956408055147081872:=0
def tw10664727161442198729:=0
def tw4701518277069308110:=0
def tw16323599039967293624:=0
def tw11912290191971908764:=0
def tw6697254654425185109:=0
def tw15355777578106826705:=0
def tw9579259962820917966:=0
def tw17297429034853120083:=0
def tw3112269471816915583:=0
def tw13199729173349743025:=0
def tw17342293357407745421:=0
def tw7522350746166639424:=0
def tw12836221260326131256:=0
def tw5339586260181039765:=0
def tw1573821067931671698:=0
def tw4554541269919799881:=0
def tw1971652052360889124:=0
def tw16568256058281167135:=0
def tw786987067843217418:=0
def tw11499338601970063620:=0
def tw17696141651464551851:=0
def tw13224858587941235882:=0
def tw11333637597267387830:=0
def tw12487521342262148604:=0
def tw252480192942452171:=0
def tw9580015112496907962:=0
def tw3506422964727253681:=0
def tw16324473027445981260:=0
def tw9640406003189652878:=0
def tw16418665591625822951:=0
def tw12265663493239077005:=0
def tw7248838854168786602:=0
def tw5469237023225278267:=0
def tw4161863375252586706:=0
def tw3734327125052322791:=0
def tw358038798052719042:=0
def tw14257231853656235568:=0
def tw17381617261101976343:=0
def tw6069995387437671893:=0
def tw12723047137744408730:=0
def tw5478826099181211433:=0
def tw14345677873855365994:=0
def tw4407807729647296456:=0
def tw13199954382513408925:=0
def tw3224417507686758362:=0
def tw16508418995252814089:=0
def tw6482025529218356235:=0
def tw13126150562525836464:=0
def tw18149777434241218296:=0
def tw6149489118808843235:=0
def tw5545773608505834473:=0
def tw624512937505981059:=0
def tw12297104987175941212:=0
def tw18059755833072781012:=0
def tw18103113511677405723:=0
def tw12569474915314100631:=0
def tw6427895753669023440:=0
def tw7787034917914418406:=0
def tw6643703905280535763:=0
def tw7295876054442763715:=0
def tw9724288412622281608:=0
def tw13281462636325114742:=0
def tw17488487536311808426:=0
def tw14237421283190865282:=0
def tw11179876436536220946:=0
def tw13862475209802185578:=0
def tw862731715359091565:=0
def tw9663882367567074719:=0
def tw13358473722480831243:=0
def tw5121406821982242699:=0
def tw14972427256279175676:=0
def tw2436668493078822060:=0
def tw13826857828522090916:=0
def tw8577365778580196697:=0
def tw16555473402401277345:=0
def tw16041209231194260770:=0
def tw10914366831763657372:=0
def tw16689325413132884830:=0
def tw16680032426625355821:=0
def tw15531912550969094919:=0
def tw9408788259800217880:=0
def tw16145567991045439125:=0
def tw15865983723960585461:=0
def tw6460843478257347896:=0
def tw13811088905378481250:=0
def tw14179246859480518838:=0
def tw3228951673230579368:=0
def tw12239302377544096807:=0
def tw14179070264514405023:=0
def tw11089880703536054396:=0
def tw2043688457283357663:=0
def tw18201736093736069600:=0
def tw18382917432772029346:=0
def tw16013898514599654163:=0
def tw3260588911011142587:=0
def tw15137881836923306471:=0
def tw7562268974435120745:=0
def tw11916854825040715471:=0
def tw1728403651592960703:=0
def tw2794363016038476335:=0
def tw13492606190586217565:=0
def tw13903669731772114737:=0
def tw13858606837251843347:=0
def tw13993506671766510370:=0
def tw5279659814379937387:=0
def tw6916935502262558247:=0
def tw12480467885195333795:=0
def tw2311174957317901918:=0
def tw6802982465169398495:=0
def tw13577293305608506652:=0
def tw10169198483171999395:=0
def tw2900259745825151161:=0
def tw1264950132275740654:=0
def tw4887904962162695186:=0
def tw4728266652286790945:=0
def tw7525433295521162998:=0
def tw14946890787812077076:=0
def tw15689177286795637717:=0
def tw3786344725055249378:=0
def tw17850200170201567497:=0
def tw4918221271080602011:=0
def tw6750479792377895385:=0
def tw1723605183959373457:=0
def tw17563922137166876984:=0
def tw5007130006189409832:=0
def tw257050024118823891:=0
def tw8907547466656732523:=0
def tw16000142823979549835:=0
def tw10064049827240010135:=0
def tw2184078403082377216:=0
def tw2090890382577830757:=0
def tw15999687919118441896:=0
def tw1418256304054019101:=0
def tw14418425992349604227:=0
def tw5290585582864470600:=0
def tw2620046121203929425:=0
def tw5876686731802242066:=0
def tw9690339791598473900:=0
def tw5171606617019245071:=0
def tw2848130412775831628:=0
def tw1879312584977266800:=0
def tw17847720621312820787:=0
def tw12663449972717219357:=0
def tw5528192558715071042:=0
def tw5974693531174272507:=0
def tw4189044337279428507:=0
def tw6844335119264894572:=0
def tw3824621738338372079:=0
def tw9185000039629192161:=0
def tw17969139216809804615:=0
def tw6218783700695425924:=0
def tw5569845112709863875:=0
end PySem.W.Fast
open PySem PySem.W PyProof.Rows
set_option maxRecDepth 100000 in
set_option maxHeartbeats 0 in
theorem PySem.Challenge.cw_halforder_k65_answers_holds : PySem.Challenge.rw_halforder_k65_answers.Holds := by
 w_on;o_law;k_head;(case hw=>w_witness2)
 k_fill
 refine K65.walk (l:=PySem.Challenge.rw_halforder_k65_answers) rfl rfl (λw h Y=>PySem.W.km_in_of Y) (λw h Y=>PySem.W.km_tabs_of Y _ (BQ ..)) (λw=>by kernel_rfl) ?F
 case F=>
  intro w mg fa h KX G hmg;refine' K65.all_mk KX G hmg ..
  any_goals first | k_is | exact L2.fk_mk (by k_is) (by k_is) (by k_is) (by k_is) | exact⟨by k_is,by kernel_rfl⟩ | fail
  any_goals rfl
  any_goals kernel_rfl
  any_goals decide
