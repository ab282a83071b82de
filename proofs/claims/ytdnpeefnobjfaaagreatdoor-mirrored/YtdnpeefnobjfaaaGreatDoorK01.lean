import GoSem.Step
import Derived.Test.YtdnpeefnobjfaaaGreatDoorK00
set_option maxRecDepth 100000
set_option maxHeartbeats 4000000
set_option linter.all false
section
namespace Go.Mir
def aH(f:Nat->Nat)(a:ap):ap:={a with block:=f a.block}
def jt(f:Nat->Nat):Fn->Fn
 | .yield l=>.yield (f l)
 |x=>x
def ak(f:Nat->Nat):af->af
 | .pointer a=>.pointer (a.map (aH f))
 | .slice a l c=>.slice (a.map (aH f)) l c
 | .map r=>.map (r.map f)
 | .chan r=>.chan (r.map f)
 | .func e first d=>.func (jt f e) (first.attach.map λ⟨v,_⟩=>ak f v) (d.attach.map λ⟨v,_⟩=>ak f v)
 | .iface t v=>.iface t (ak f v)
 | .agg g=>.agg (g.attach.map λ⟨v,_⟩=>ak f v)
 | .tuple h=>.tuple (h.attach.map λ⟨v,_⟩=>ak f v)
 | .bool b=>.bool b
 | .int k n=>.int k n
 | .float k b=>.float k b
 | .complex k a b=>.complex k a b
 | .string s=>.string s
 | .nilFunc=>.nilFunc
 | .nilIface=>.nilIface
termination_by v=>SizeOf.sizeOf v
variable{f:Nat->Nat}
@[simp] theorem bh(a):ak f (.pointer a)=.pointer (a.map (aH f)):=by rw[ak]
@[simp] theorem bg(a l c):ak f (.slice a l c)=.slice (a.map (aH f)) l c:=by rw[ak]
@[simp] theorem cg(r):ak f (.map r)=.map (r.map f):=by rw[ak]
@[simp] theorem bY(r):ak f (.chan r)=.chan (r.map f):=by rw[ak]
@[simp] theorem bz(fn a b):ak f (.func fn a b)=.func (jt f fn) (a.map (ak f)) (b.map (ak f)):=by rw[ak];simp
@[simp] theorem bm(t v):ak f (.iface t v)=.iface t (ak f v):=by rw[ak]
@[simp] theorem bk(cs):ak f (.agg cs)=.agg (cs.map (ak f)):=by rw[ak];simp
@[simp] theorem bE(cs):ak f (.tuple cs)=.tuple (cs.map (ak f)):=by rw[ak];simp
@[simp] theorem bQ(b):ak f (.bool b)=.bool b:=by rw[ak]
@[simp] theorem bj(k n):ak f (.int k n)=.int k n:=by rw[ak]
@[simp] theorem bJ(k n):ak f (.float k n)=.float k n:=by rw[ak]
@[simp] theorem bZ(k n m):ak f (.complex k n m)=.complex k n m:=by rw[ak]
@[simp] theorem bD(s):ak f (.string s)=.string s:=by rw[ak]
@[simp] theorem cj:ak f .nilFunc=.nilFunc:=by rw[ak]
@[simp] theorem bV:ak f .nilIface=.nilIface:=by rw[ak]
def iI(f:Nat->Nat):Target->Target
 | .fn b a=>.fn (jt f b) (a.map (ak f))
 | .collected r=>.collected (f r)
 | .coroexit c=>.coroexit (f c)
 |t=>t
def dJ(f:Nat->Nat)(d:Deferred):Deferred:={target:=iI f d.target,args:=d.args.map (ak f)}
def oV(f:Nat->Nat)(e:MapEntry):MapEntry:={e with key:=ak f e.key,val:=ak f e.val}
def nJ(f:Nat->Nat)(l:Loop):Loop:={l with tmps:=l.tmps.map (ak f),defers:=f l.defers}
def ct(f:Nat->Nat):Obj->Obj
 | .cells c e h=>.cells (c.map (ak f)) e h
 | .pending c e=>.pending (c.map (ak f)) e
 | .view a t=>.view (aH f a) t
 | .number a l=>.number (aH f a) l
 | .map i c=>.map (i.map (oV f)) c
 | .chan d g j s r t=>.chan d (g.map (ak f)) j s r t
 | .stringIter s p=>.stringIter s p
 | .mapIter m a b c=>.mapIter (m.map f) a b c
 | .loop l=>.loop (nJ f l)
 | .deferred k=>.deferred (k.map (·.map (dJ f)))
 | .coro p=>.coro p
 | .finalizers n r=>.finalizers (n.map λx=>(f x.1,dJ f x.2)) r
def jU(f:Nat->Nat):Mark->Mark
 | .acquire a=>.acquire (aH f a)
 | .release a=>.release (aH f a)
 | .releaseMerge a=>.releaseMerge (aH f a)
 | .read a=>.read (aH f a)
 | .write a=>.write (aH f a)
 |m=>m
def cX(f:Nat->Nat):Loc->Loc
 | .cell a=>.cell (aH f a)
 | .obj r=>.obj (f r)
 | .mark m=>.mark (jU f m)
 |l=>l
def cz(f:Nat->Nat)(e:aJ):aJ:={e with loc:=cX f e.loc}
def bu:af->Bool
 | .pointer a=>a.isNone
 | .slice a _ _=>a.isNone
 | .map r=>r.isNone
 | .chan r=>r.isNone
 | .func (.yield _) _ _=>false
 | .func _ first b=>(first.attach.all λ⟨v,_⟩=>bu v)&&(b.attach.all λ⟨v,_⟩=>bu v)
 | .iface _ v=>bu v
 | .agg c=>c.attach.all λ⟨v,_⟩=>bu v
 | .tuple d=>d.attach.all λ⟨v,_⟩=>bu v
 |_=>true
termination_by v=>SizeOf.sizeOf v
def iF{α:Type}{g}{a:Array α}(h:∀x∈a,g x=x):a.map g=a:=by apply Array.ext (by simp);intro i b c;simp;exact h _ (by simp)
def vZ{α:Type}{p:α->Bool}{a:Array α}(h:∀i (x:i<a.size),p a[i]=true):∀x∈a,p x=true:=by intro x b;obtain⟨i,c,rfl⟩:=fI.1 b;exact h i c
theorem lq(f):∀v,bu v=true->ak f v=v
 | .pointer a,h=>by cases a<;>simp_all [bu]
 | .slice a _ _,h=>by cases a<;>simp_all [bu]
 | .map r,h=>by cases r<;>simp_all [bu]
 | .chan r,h=>by cases r<;>simp_all [bu]
 | .func e a b,h=>by
  have c:jt f e=e/\(∀x∈a,bu x=true)/\∀x∈b,bu x=true:=by cases e<;>simp_all [bu,jt]<;>exact⟨vZ h.1,vZ h.2⟩
  rw[bz,c.1,iF λx d=>lq f x (c.2.1 x d),iF λx d=>lq f x (c.2.2 x d)]
 | .iface t v,h=>by rw[bu]at h;rw[bm,lq f v h]
 | .agg g,h=>by
  have c:∀x∈g,bu x=true:=by simp[bu]at h;exact vZ h
  rw[bk,iF λx d=>lq f x (c x d)]
 | .tuple g,h=>by
  have c:∀x∈g,bu x=true:=by simp[bu]at h;exact vZ h
  rw[bE,iF λx d=>lq f x (c x d)]
 | .bool _,_=>by simp
 | .int _ _,_=>by simp
 | .float _ _,_=>by simp
 | .complex _ _ _,_=>by simp
 | .string _,_=>by simp
 | .nilFunc,_=>by simp
 | .nilIface,_=>by simp
termination_by v=>SizeOf.sizeOf v
def rq(v):(ak f v).cells=v.cells.map (ak f):=by cases v<;>simp[Value.cells]
def jS(G:Nat):Operand->Bool
 | .const v=>bu v
 | .global g=>decide (g<G)
 |_=>true
def GU:Fn->Bool
 | .yield _=>false
 |_=>true
def okB:Builtin->Bool
 | .append| .cap| .clear| .copy| .len| .min=>true
 |_=>false
def GS(c:Call):Bool:=match c.callee with
 | .builtin b=>okB b
 |_=>true
def sN:af->Bool
 | .pointer none| .nilIface| .slice none _ _| .nilFunc| .map none=>true
 |_=>false
def wA:Operand->Bool
 | .const v=>sN v
 |_=>false
def zg:List aA:=[2,3,4,5,6,7,8,9,10,11,12,13,14,21,30,31,32,41,42,51,52,63,64,102,104,105,106,107,108,109,111,124,136,137,149,150,161,162,185,202,203,230,237,253,254,255,256,257,258,281,312,329,344,361,364,365,370,371,374,375,377,378,379]
def vO:List aA:=[2,3,5,6,12,21,30,102,124,185,230,237,254,281,312,329,344,361,364,365,377]
def C2:List (aA×aA):=[(311,112),(302,112),(316,112),(112,54),(54,112),(226,9)]
def AS(s d:aA):Bool:=(vO.contains s&&vO.contains d)||C2.contains (s,d)
def ij(G:Nat)(o:Op):Bool:=
 o.operands.all (jS G)&&(match o with
  | .makeFunc b _ _=>GU b
  | .call c| .defer c=>GS c
  | .binOp a t x y _=>(a !=.eql&&a !=.neq)||zg.contains t||wA x||wA y
  | .convert s d _=>AS s d
  | .insert .. | .ready _| .waits _| .makeMap .. | .makeChan .. | .lookup .. | .mapUpdate .. | .mapEntry .. | .entryStore .. | .range .. | .next .. | .entry .. | .go _| .send .. | .recv .. | .select .. | .sliceToArrayPointer .. =>false
  |_=>true)
def fG:Target->Bool
 | .builtin b _ _ _=>okB b
 | .coroexit _=>false
 |_=>true
def ep:Code->Bool
 | .region _ c _=>c.all λo=>match o.op with| .defer _=>false|_=>true
 | .seq a b=>ep a&&ep b
 | .cond _ a b=>ep a&&ep b
 | .block _ a=>ep a
 | .loop a=>ep a
 | .scope a=>ep a
 | .rangeFunc _ _ a b=>ep a&&ep b
 |_=>true
def cV(G:Nat):Code->Bool
 | .region _ d _=>d.all λo=>ij G o.op
 | .seq a b=>cV G a&&cV G b
 | .cond c a b=>jS G c&&cV G a&&cV G b
 | .block _ a=>cV G a
 | .loop a=>cV G a
 | .scope a=>cV G a
 | .rangeFunc g _ a b=>jS G g&&cV G a&&cV G b&&ep a&&ep b
 | .goto _=>false
 |_=>true
def eM(G:Nat):Obj->Prop
 | .loop l=>(cV G l.assign=true/\ep l.assign=true)/\(cV G l.body=true/\ep l.body=true)/\∀c,l.pending=some c->cV G c=true/\ep c=true
 | .deferred (some a)=> ∀d∈a,fG d.target=true
 |_=>True
def dead:Obj:=.stringIter ⟨#[]⟩ 0
def wD(G:Nat)(o:Obj):Prop:=eM G o/\o≠dead
def p6:Obj->Prop
 | .cells .. | .view .. | .number .. | .chan .. | .pending .. =>False
 |_=>True
def eO:Halt->Bool
 | .stuck _=>true
 | .unsupported _=>true
 |_=>false
def qW(f:Nat->Nat){β:Type}:Halt->Sem β->Prop
 | .panic v,s=>s=.halt (.panic (ak f v))
 |h,_=>eO h=true
def oU:Mark->Bool
 | .noRoom| .extern _=>true
 |_=>false
def aE(P Q:ay)(f:Nat->Nat){α β:Type}(R:α->β->Prop):Sem α->Sem β->Prop
 | .pure a,.pure b=>R a b
 | .load m a k,.load g e d=>g=m/\e=aH f a/\∀v,aE P Q f R (k v) (d (ak f v))
 | .store m a v k,.store g e v' d=>g=m/\e=aH f a/\v'=ak f v/\aE P Q f R k d
 | .new o k,.new j d=>j=ct f o/\wD P.globals.size o/\∀r,aE P Q f R (k r) (d (f r))
 | .shape r k,.shape i d=>i=f r/\∀s,aE P Q f R (k s) (d s)
 | .freeze a n k,.freeze e l d=>e=aH f a/\l=n/\aE P Q f R k d
 | .frozen a k,.frozen e d=>e=aH f a/\∀b,aE P Q f R (k b) (d b)
 | .getObj r k,.getObj i d=>i=f r/\(∀o,eM P.globals.size o->aE P Q f R (k o) (d (ct f o)))/\∀o,p6 o->aE P Q f R (k dead) (d o)
 | .setObj r o k,.setObj i j d=>i=f r/\j=ct f o/\wD P.globals.size o/\aE P Q f R k d
 | .choose q k,.choose p d=>p=q/\∀n,aE P Q f R (k n) (d n)
 | .program k,.program d=>aE P Q f R (k P) (d Q)
 | .mark m k,.mark g d=>(g=jU f m/\oU m=true)/\aE P Q f R k d
 | .sys c k,.sys t d=>c=.env/\t=.env/\∀r,aE P Q f R (k r) (d r)
 | .halt h,s=>qW f h s
 |_,_=>False
section
variable{P Q:ay}{f:Nat->Nat}{α β γ δ:Type}{R:α->β->Prop}{S:γ->δ->Prop}
def aE.pure{a b}(h:R a b):aE P Q f R (Pure.pure a) (Pure.pure b):=h
def pb(h s):aE P Q f R (.halt h) s=qW f h s:=by cases s<;>rfl
def jZ{h}(a:eO h=true)(s):aE P Q f R (.halt h) s:=by rw[pb];cases h<;>first|exact a|simp[eO]at a
def aD(h s):aE P Q f R (stuck h) s:=jZ (h:=.stuck h) rfl s
def aX(h:Unsupported)(s:Sem β)(a:eO (.unsupported h)=true:=by rfl):aE P Q f R (unsupported h) s:=jZ a s
def a0M(v):aE P Q f R (.halt (.panic v)) (.halt (.panic (ak f v)):Sem β):=by rw[pb];rfl
def aE.mono{g}(j:∀a b,R a b->g a b):∀{s} {s'},aE P Q f R s s'->aE P Q f g s s':=by
 intro s;induction s with
 |pure a=>intro s' h;cases s'<;>simp only[aE]at h⊢ <;>first|exact j _ _ h|exact h
 |load m a k d=>intro s' h;cases s'<;>simp only[aE]at h⊢;exact⟨h.1,h.2.1,λv=>d v (h.2.2 v)⟩
 |store m a v k d=>intro s' h;cases s'<;>simp only[aE]at h⊢;exact⟨h.1,h.2.1,h.2.2.1,d h.2.2.2⟩
 |new o k d=>intro s' h;cases s'<;>simp only[aE]at h⊢;exact⟨h.1,h.2.1,λv=>d v (h.2.2 v)⟩
 |shape r k d=>intro s' h;cases s'<;>simp only[aE]at h⊢;exact⟨h.1,λv=>d v (h.2 v)⟩
 |freeze a n k d=>intro s' h;cases s'<;>simp only[aE]at h⊢;exact⟨h.1,h.2.1,d h.2.2⟩
 |frozen a k d=>intro s' h;cases s'<;>simp only[aE]at h⊢;exact⟨h.1,λv=>d v (h.2 v)⟩
 |getObj r k d=>intro s' h;cases s'<;>simp only[aE]at h⊢;exact⟨h.1,λv e=>d v (h.2.1 v e),λv e=>d _ (h.2.2 v e)⟩
 |setObj r o k d=>intro s' h;cases s'<;>simp only[aE]at h⊢;exact⟨h.1,h.2.1,h.2.2.1,d h.2.2.2⟩
 |choose q k d=>intro s' h;cases s'<;>simp only[aE]at h⊢;exact⟨h.1,λv=>d v (h.2 v)⟩
 |sys c k d=>intro s' h;cases s'<;>simp only[aE]at h⊢;exact⟨h.1,h.2.1,λr=>d r (h.2.2 r)⟩
 |program k d=>intro s' h;cases s'<;>simp only[aE]at h⊢;exact d _ h
 |mark m k d=>intro s' h;cases s'<;>simp only[aE]at h⊢;exact⟨h.1,d h.2⟩
 |halt h=>intro s' i;rw[pb]at i⊢;exact i
def aE.bind'{g g'}(j:∀a b,R a b->aE P Q f S (g a) (g' b)):∀{s} {s'},aE P Q f R s s'->aE P Q f S (s.bind g) (s'.bind g'):=by
 intro s;induction s with
 |pure a=>intro s' h;cases s'<;>simp only[aE]at h;exact j _ _ h
 |load m a k d=>intro s' h;cases s'<;>simp only[aE]at h;exact⟨h.1,h.2.1,λv=>d v (h.2.2 v)⟩
 |store m a v k d=>intro s' h;cases s'<;>simp only[aE]at h;exact⟨h.1,h.2.1,h.2.2.1,d h.2.2.2⟩
 |new o k d=>intro s' h;cases s'<;>simp only[aE]at h;exact⟨h.1,h.2.1,λv=>d v (h.2.2 v)⟩
 |shape r k d=>intro s' h;cases s'<;>simp only[aE]at h;exact⟨h.1,λv=>d v (h.2 v)⟩
 |freeze a n k d=>intro s' h;cases s'<;>simp only[aE]at h;exact⟨h.1,h.2.1,d h.2.2⟩
 |frozen a k d=>intro s' h;cases s'<;>simp only[aE]at h;exact⟨h.1,λv=>d v (h.2 v)⟩
 |getObj r k d=>intro s' h;cases s'<;>simp only[aE]at h;exact⟨h.1,λv i=>d v (h.2.1 v i),λv i=>d _ (h.2.2 v i)⟩
 |setObj r o k d=>intro s' h;cases s'<;>simp only[aE]at h;exact⟨h.1,h.2.1,h.2.2.1,d h.2.2.2⟩
 |choose q k d=>intro s' h;cases s'<;>simp only[aE]at h;exact⟨h.1,λv=>d v (h.2 v)⟩
 |sys c k d=>intro s' h;cases s'<;>simp only[aE]at h;exact⟨h.1,h.2.1,λr=>d r (h.2.2 r)⟩
 |program k d=>intro s' h;cases s'<;>simp only[aE]at h;exact d _ h
 |mark m k d=>intro s' h;cases s'<;>simp only[aE]at h;exact⟨h.1,d h.2⟩
 |halt h=>intro s' e;rw[pb]at e;change aE P Q f S (.halt h) _;rw[pb];cases h<;>first|exact e|(simp only[qW]at e⊢;rw[e];rfl)
def aE.bind{g g' s s'}(h:aE P Q f R s s')(c:∀a b,R a b->aE P Q f S (g a) (g' b)):aE P Q f S (s>>=g) (s'>>=g'):=aE.bind' c h
end
structure aQ (D:Nat->Prop) (aj:Nat->Nat) (f:Nat->Nat):Prop where
 on:∀b,D b->f b=aj b
 inj:∀a b,f a=f b->a=b
structure cL (u:Prop) (lz:Nat->Obj->Prop) (G:Nat) (D:Nat->Prop) (aj:Nat->Nat) (w v:aa):Prop where
 mL:∀b,D b->u\/b<w.heap.size
 mQ:∀b,D b->u\/aj b<v.heap.size
 inj:∀a b,D a->D b->aj a=aj b->a=b
 jn:∀f,aQ D aj f->∀b,D b->v.heap[aj b]?=(w.heap[b]?).map (ct f)/\(∀o,lz b o->w.heap[b]? ≠some dead)\/w.heap[b]?=some dead/\∃o,v.heap[aj b]?=some o/\p6 o/\lz b o
 ok:∀b o,D b->w.heap[b]?=some o->eM G o
 iK:u->(∀b,D b/\aj b=b)/\v.heap.size=w.heap.size
abbrev wB:Nat->Obj->Prop:=λ_ _=>False
abbrev dh:=cL False wB
section
variable{u:Prop}{lz:Nat->Obj->Prop}{G:Nat}{D:Nat->Prop}{aj:Nat->Nat}{w v w' v':aa}
def cL.lt(h:dh G D aj w v)(b)(a:D b):b<w.heap.size:=(h.mL b a).resolve_left id
def cL.fO(h:dh G D aj w v)(b)(a:D b):aj b<v.heap.size:=(h.mQ b a).resolve_left id
def cL.obj(h:dh G D aj w v)(f)(a:aQ D aj f)(b)(c:D b):v.heap[aj b]?=(w.heap[b]?).map (ct f):=((h.jn f a b c).resolve_right λ⟨_,_,_,_,h⟩=>h).1
def dh.mk(d:∀b,D b->b<w.heap.size)(e:∀b,D b->aj b<v.heap.size)(g:∀a b,D a->D b->aj a=aj b->a=b)(i:∀f,aQ D aj f->∀b,D b->v.heap[aj b]?=(w.heap[b]?).map (ct f))(j:∀b o,D b->w.heap[b]?=some o->eM G o):dh G D aj w v:=
 ⟨λb c=>.inr (d b c),λb c=>.inr (e b c),g,λf k b c=>.inl ⟨i f k b c,λ_ h=>h.elim⟩,j,False.elim⟩
def cL.live(h:cL u lz G D aj w v)(f)(a:aQ D aj f){b}(c:D b)(d:w.heap[b]? ≠some dead):v.heap[aj b]?=(w.heap[b]?).map (ct f):=((h.jn f a b c).resolve_right λh=>d h.1).1
def cL.same(h:cL u lz G D aj w v)(a:w'.heap=w.heap)(b:v'.heap=v.heap):cL u lz G D aj w' v':=
 ⟨by rw[a];exact h.mL,by rw[b];exact h.mQ,h.inj,by rw[a,b];exact h.jn,by rw[a];exact h.ok,by rw[a,b];exact h.iK⟩
open Classical in
def aN(h:cL u lz G D aj w v)(k):aQ D aj (λb=>if D b then aj b else v.heap.size+k+b):=by
 refine⟨λb d=>by simp[d],λa b c=>?_⟩;by_cases e:u
 .simpa[((h.iK e).1 _).1,((h.iK e).1 _).2]using c
 by_cases g:D a<;>by_cases d:D b<;>simp[g,d]at c
 .exact h.inj a b g d c
 .have:=(h.mQ a g).resolve_left e;omega
 .have:=(h.mQ b d).resolve_left e;omega
 .omega
def k7(h:cL u lz G D aj w v){b c}(a:∀f,aQ D aj f->c=f b):D b:=by
 by_cases d:u
 .exact((h.iK d).1 b).1
 refine fx λe=>?_;have g:=a _ (aN h 0);have i:=a _ (aN h 1);simp[e]at g i;omega
end
section
variable{F:Prop}{lz:Nat->Obj->Prop}{G:Nat}{D:Nat->Prop}{aj f:Nat->Nat}{w v:aa}{a:ap}
def CC(h:cL F lz G D aj w v)(b:aQ D aj f)(c:D a.block):v.cell? (aH f a)=(w.cell? a).map (ak f):=by
 have e:(aH f a).block=aj a.block:=b.on _ c;obtain⟨d,_⟩|⟨g,o,i,j,_⟩:=h.jn f b a.block c
 .simp only[World.cell?,e,d];cases k:w.heap[a.block]? with
  |none=>simp
  |some o=>cases o<;>simp[ct,aH];split<;>simp
 .simp only[World.cell?,e,g,i,dead];cases o<;>first|exact j.elim|rfl
def a1a(h:cL F lz G D aj w v)(b:aQ D aj f){r}(c:D r):v.shape? (f r)=w.shape? r:=by
 rw[World.shape?,b.on _ c];obtain⟨d,_⟩|⟨e,o,g,i,_⟩:=h.jn f b r c
 .simp only[World.shape?,d];cases j:w.heap[r]? with
  |none=>simp
  |some o=>cases o<;>simp[ct]
 .simp only[World.shape?,e,g,dead];cases o<;>first|exact i.elim|rfl
def EZ(h:cL F lz G D aj w v)(b:aQ D aj f)(c:D a.block):v.frozen? (aH f a)=w.frozen? a:=by
 have e:(aH f a).block=aj a.block:=b.on _ c;obtain⟨d,_⟩|⟨g,o,i,j,_⟩:=h.jn f b a.block c
 .simp only[World.frozen?,e,d];cases k:w.heap[a.block]? with
  |none=>simp
  |some o=>cases o<;>simp[ct,aH]<;>rfl
 .simp only[World.frozen?,e,g,i,dead];cases o<;>first|exact j.elim|rfl
def cL.Jf(h:cL F lz G D aj w v){b c}(k:D b)(t:c=aj b){x y}(u:∀f,aQ D aj f->∀o,w.heap[b]?=some o->y (ct f o)=ct f (x o))(A:∀o,eM G o->w.heap[b]?=some o->eM G (x o))(r:w.heap[b]?=some dead->x dead=dead/\∀o,p6 o->y o=o)(l:∀o,w.heap[b]?=some o->o≠dead->x o≠dead):cL F lz G D aj {w with heap:=w.heap.modify b x} {v with heap:=v.heap.modify c y}:=by
 subst t;refine⟨by simpa using h.mL,by simpa using h.mQ,h.inj,λf m z i=>?_,λz o i g=>?_,by simpa using h.iK⟩
 .simp only[j7];by_cases e:b=z
  .subst e;obtain⟨h0,n⟩|⟨p,o,B,s,C⟩:=h.jn f m b k
   .refine .inl ⟨?_,λj q=>?_⟩
    .simp only[if_true,h0];cases d:w.heap[b]? with
     |none=>simp
     |some o=>simp[u f m o d]
    .cases d:w.heap[b]? with
     |none=>simp
     |some o=>simp only[if_true,Option.map_some,ne_eq,cw];exact l o d λe=>n j q (by rw[d,e])
   .exact .inr ⟨by simp[p,(r p).1],o,by simp[B,(r p).2 o s],s,C⟩
  .have:aj b≠aj z:=λE=>e (h.inj _ _ k i E);simp only[e,this,if_false];exact h.jn f m z i
 .simp only[j7]at g;by_cases e:b=z
  .subst e;simp only[if_true]at g;cases d:w.heap[b]? with
   |none=>simp[d]at g
   |some j=>simp[d]at g;subst g;exact A j (h.ok b j k d) d
  .simp only[e,if_false]at g;exact h.ok z o i g
def a5K(g:af->af)(c:Array af)(i x):(c.setIfInBounds i x).map g=(c.map g).setIfInBounds i (g x):=by
 apply a6C;intro j;by_cases e:i=j
 .subst e;by_cases b:i<c.size<;>simp[b]
 .simp[di e]
def cL.setCell(h:cL F lz G D aj w v)(d:D a.block){b x x'}(g:∀f,aQ D aj f->b=aH f a)(i:∀f,aQ D aj f->x'=ak f x):cL F lz G D aj (w.setCell a x) (v.setCell b x'):=by
 have e:=g _ (aN h 0);have j:b.block=aj a.block:=by rw[e];exact(aN h 0).on _ d
 have c:b.off=a.off/\b.spot=a.spot:=by rw[e];exact⟨rfl,rfl⟩
 refine h.Jf d j (λf k o _=>?_) (λo c _=>?_) (λ_=>⟨rfl,λo c=>?_⟩) (λo _ l=>?_);rotate_left 3
 .cases o<;>first|exact l|(intro h;cases h)
 .cases o<;>simp[ct];rw[c.1,c.2,i f k];split
  .rfl
  .rw[a5K]
 .cases o<;>simp_all [eM]
 .cases o<;>first|exact c.elim|rfl
def cL.freeze(h:cL F lz G D aj w v)(d:D a.block){b}(n)(g:∀f,aQ D aj f->b=aH f a):cL F lz G D aj (w.freeze a n) (v.freeze b n):=by
 have e:=g _ (aN h 0);have i:b.block=aj a.block:=by rw[e];exact(aN h 0).on _ d
 have c:b.off=a.off/\b.spot=a.spot:=by rw[e];exact⟨rfl,rfl⟩
 unfold World.freeze;split
 .exact h
 .refine h.Jf d i (λf k o _=>?_) (λo c _=>?_) (λ_=>⟨rfl,λo c=>?_⟩) (λo _ j=>?_);rotate_left 3
  .cases o<;>first|exact j|(intro h;cases h)
  .cases o<;>simp[ct];rw[c.1]
  .cases o<;>simp_all [eM]
  .cases o<;>first|exact c.elim|rfl
def cL.setObj(h:cL F lz G D aj w v){r j}(d:D r){o k}(p:∀f,aQ D aj f->j=f r)(s:∀f,aQ D aj f->k=ct f o)(l:wD G o):cL F lz G D aj {w with heap:=w.heap.setIfInBounds r o} {v with heap:=v.heap.setIfInBounds j k}:=by
 have t:j=aj r:=by rw[p _ (aN h 0)];exact(aN h 0).on _ d
 subst t;have m:r<w.heap.size↔aj r<v.heap.size:=by
  by_cases g:F
  .rw[((h.iK g).1 r).2,(h.iK g).2]
  .simp[(h.mL r d).resolve_left g,(h.mQ r d).resolve_left g]
 refine⟨by simpa using h.mL,by simpa using h.mQ,h.inj,λf n z i=>?_,λz u i c=>?_,by simpa using h.iK⟩
 .by_cases e:r=z
  .subst e;by_cases b:r<w.heap.size
   .exact .inl ⟨by simp[b,m.1 b,<-s f n],λ_ _=>by simp[b,l.2]⟩
   .have x: ¬aj r<v.heap.size:=λq=>b (m.2 q);exact .inl ⟨by simp[b,x],λ_ _=>by simp[b]⟩
  .have:aj r≠aj z:=λy=>e (h.inj _ _ d i y);simp only[di e,di this];exact h.jn f n z i
 .by_cases e:r=z
  .subst e;by_cases b:r<w.heap.size
   .simp[b]at c;exact c▸l.1
   .simp[b]at c
  .rw[di e]at c;exact h.ok z u i c
def rh(D:Nat->Prop)(r:Nat):Nat->Prop:=λb=>D b\/b=r
def jJ(aj:Nat->Nat)(r c:Nat):Nat->Nat:=λb=>if b=r then c else aj b
def aQ.less{d c}(h:aQ d c f)(e:∀b,D b->d b/\c b=aj b):aQ D aj f:=⟨λb g=>by rw[h.on b (e b g).1,(e b g).2],h.inj⟩
def cL.kept(h:cL F lz G D aj w v)(b)(d:D b):jJ aj w.heap.size v.heap.size b=aj b:=by
 unfold jJ;split
 .rename_i e;obtain c|g:=h.mL b d
  .rw[((h.iK c).1 b).2,(h.iK c).2,e]
  .omega
 .rfl
def cL.new(h:cL F lz G D aj w v){o q}(u:∀f,aQ D aj f->q=ct f o)(r:wD G o):cL F lz G (rh D w.heap.size) (jJ aj w.heap.size v.heap.size) {w with heap:=w.heap.push o} {v with heap:=v.heap.push q}:=by
 have i:=h.kept;have d:∀f,aQ (rh D w.heap.size) (jJ aj w.heap.size v.heap.size) f->aQ D aj f:=λf l=>l.less λb c=>⟨.inl c,i b c⟩;have m:∀b,rh D w.heap.size b->b=w.heap.size\/b≠w.heap.size/\D b:=λb c=>by
  by_cases e:b=w.heap.size
  .exact .inl e
  .exact .inr ⟨e,c.resolve_right e⟩
 have s:jJ aj w.heap.size v.heap.size w.heap.size=v.heap.size:=by simp[jJ]
 have p:∀b,b≠w.heap.size->D b->aj b≠v.heap.size:=λb e c=>by
  obtain g|t:=h.mQ b c
  .rw[((h.iK g).1 b).2,(h.iK g).2];exact e
  .omega
 refine⟨?_,?_,?_,?_,?_,λg=>⟨λb=>⟨.inl ((h.iK g).1 b).1,by rw[i b ((h.iK g).1 b).1];exact((h.iK g).1 b).2⟩,by simp[(h.iK g).2]⟩⟩
 .rintro b (c|rfl)
  .rcases h.mL b c with g|t
   .exact .inl g
   .exact .inr (by simp;omega)
  .exact .inr (by simp)
 .rintro b (c|rfl)
  .rcases h.mQ b c with g|t
   .exact .inl g
   .exact .inr (by rw[i b c];simp;omega)
  .exact .inr (by simp[jJ])
 .intro a b j c e;obtain rfl|⟨x,j⟩:=m a j<;>obtain rfl|⟨k,c⟩:=m b c
  .rfl
  .rw[s,i b c]at e;exact absurd e.symm (p b k c)
  .rw[s,i a j]at e;exact absurd e (p a x j)
  .rw[i a j,i b c]at e;exact h.inj a b j c e
 .intro f l b c;obtain rfl|⟨k,c⟩:=m b c
  .exact .inl ⟨by simp[jJ,<-u f (d f l)],λ_ _=>by simp[r.2]⟩
  .rw[i b c,fe,fe,if_neg k,if_neg (p b k c)];exact h.jn f (d f l) b c
 .intro b y c n;obtain rfl|⟨k,c⟩:=m b c
  .simp at n;exact n▸r.1
  .rw[fe,if_neg k]at n;exact h.ok b y c n
end
variable{T:Tables}{F F':Array Func}{f:Nat->Nat}
def un(d):∀t off,byteOfCell ⟨T,F'⟩ d t off=byteOfCell ⟨T,F⟩ d t off:=by
 induction d with
 |zero=>intros;rfl
 |succ d a=>
  intro t off;unfold byteOfCell;change (match Program.underlying ⟨T,F⟩ t with|some (.struct b)=>_|some (.array _ e)=>_|_=>_)=_;cases Program.underlying ⟨T,F⟩ t with
  |none=>rfl
  |some x=>cases x<;>simp only[a]<;>rfl
def MW(d):∀t off,cellHolding ⟨T,F'⟩ d t off=cellHolding ⟨T,F⟩ d t off:=by
 induction d with
 |zero=>intros;rfl
 |succ d a=>
  intro t off;unfold cellHolding;change (match Program.underlying ⟨T,F⟩ t with|some (.struct b)=>_|some (.array _ e)=>_|_=>_)=_;cases Program.underlying ⟨T,F⟩ t with
  |none=>rfl
  |some x=>cases x<;>simp only[a]<;>rfl
def Yy(d):∀t off,plainCell ⟨T,F'⟩ d t off=plainCell ⟨T,F⟩ d t off:=by
 induction d with
 |zero=>intros;rfl
 |succ d a=>
  intro t off;unfold plainCell;rw[show Program.underlying ⟨T,F'⟩ t=Program.underlying ⟨T,F⟩ t from rfl];cases Program.underlying ⟨T,F⟩ t with
  |none=>rfl
  |some x=>cases x<;>simp only[a]<;>rfl
def a2m(d):∀t,tight ⟨T,F'⟩ d t=tight ⟨T,F⟩ d t:=by
 induction d with
 |zero=>intros;rfl
 |succ d a=>
  intro t;unfold tight;rw[show Program.underlying ⟨T,F'⟩ t=Program.underlying ⟨T,F⟩ t from rfl];cases Program.underlying ⟨T,F⟩ t with
  |none=>rfl
  |some x=>cases x<;>simp only[a]<;>rfl
def Cu(v):(ak f v).bytes?=v.bytes? :=by cases v<;>simp[Value.bytes?]
def XG(v bs):(ak f v).ofBytes bs=(v.ofBytes bs).map (ak f):=by cases v<;>simp[Value.ofBytes]<;>split<;>simp
def XF{v x:af}{bs}(h:v.ofBytes bs=some x):ak f x=x:=by
 cases v<;>simp[Value.ofBytes]at h
 .split at h<;>simp at h<;>subst h<;>simp
 .obtain⟨_,rfl⟩:=h;simp
 .obtain⟨_,rfl⟩:=h;simp
 .obtain⟨_,rfl⟩:=h;simp
def a0G(c e):∀n x stop,seenCells ⟨T,F'⟩ (c.map (ak f)) e n x stop=seenCells ⟨T,F⟩ c e n x stop:=by
 intro n;induction n with
 |zero=>intros;rfl
 |succ n b=>
  intro x stop;unfold seenCells;dsimp only;rw[MW (F:=F) (F':=F')];simp only[show∀t,Program.bytesOf ⟨T,F'⟩ t=Program.bytesOf ⟨T,F⟩ t from λ_=>rfl,show∀t,Program.cellsOf ⟨T,F'⟩ t=Program.cellsOf ⟨T,F⟩ t from λ_=>rfl,show Program.depth ⟨T,F'⟩=Program.depth ⟨T,F⟩from rfl,b,fp];split
  .rfl
  .split
   .rfl
   .cases Option.map (λa:Nat×Nat=>match a with|(i,s)=>(x / Program.bytesOf ⟨T,F⟩ e*Program.cellsOf ⟨T,F⟩ e+i,x / Program.bytesOf ⟨T,F⟩ e*Program.bytesOf ⟨T,F⟩ e+s)) (cellHolding ⟨T,F⟩ (Program.depth ⟨T,F⟩) e (x%Program.bytesOf ⟨T,F⟩ e))with
    |none=>rfl
    |some p=>
     obtain⟨i,s⟩:=p;dsimp only;cases c[i]? with
     |none=>rfl
     |some y=>simp only[Option.map_some,Cu]
def pa{P}{w:aa}{at_}(h:∀c e z,w.heap[at_.block]? ≠some (.cells c e z))(t k b):∃x,w.seen P at_ t k b=.error x:=by
 cases a:w.heap[at_.block]? with
 |none=>
  unfold World.seen;rw[a];simp only[bind,Except.bind]
  (repeat' split)<;>exact⟨_,rfl⟩
 |some o=>
  cases o with
  |cells c e z=>exact absurd a (h c e z)
  |_=>
   unfold World.seen;rw[a];simp only[bind,Except.bind]
   (repeat' split)<;>exact⟨_,rfl⟩
def Ic{P}{w:aa}{at_ k}(h:w.heap[at_.block]?=some dead)(t b):∃x,w.seen P at_ t k b=.error x:=pa (λ_ _ _ a=>by rw[h]at a;cases a) t k b
section
variable{lk:Prop}{lz:Nat->Obj->Prop}{D:Nat->Prop}{aj:Nat->Nat}{w v:aa}
def If(
         h:cL lk lz T.globals.size D aj w v) (j:aQ D aj f) {at_ k} (m:D at_.block) (q:w.heap[at_.block]? ≠some dead) (u b):v.seen ⟨T,F'⟩ (aH f at_) u (aH f k) b=(w.seen ⟨T,F⟩ at_ u k b).map λx=>(x.1.map (ak f),x.2):=by
 have r:=h.live f j m q;have y:(aH f at_).block=aj at_.block:=j.on _ m;unfold World.seen;dsimp only;rw[Yy (F:=F) (F':=F'),y,r];simp only[un (F:=F) (F':=F'),show(aH f k).spot=k.spot from rfl,show(aH f at_).spot=at_.spot from rfl,show(aH f k).off=k.off from rfl,show(aH f at_).off=at_.off from rfl,show Program.depth ⟨T,F'⟩=Program.depth ⟨T,F⟩from rfl,
  show∀t,Program.bytesOf ⟨T,F'⟩ t=Program.bytesOf ⟨T,F⟩ t from λ_=>rfl,show∀t,Program.cellsOf ⟨T,F'⟩ t=Program.cellsOf ⟨T,F⟩ t from λ_=>rfl]
 cases (k.spot.isSome||at_.spot.isSome)with
 |true=>rfl
 |false=>
  simp only[dj,if_false];cases plainCell ⟨T,F⟩ (Program.depth ⟨T,F⟩) u k.off with
  |none=>rfl
  |some g=>
   dsimp only;cases g.bytes?.map (·.length)with
   |none=>rfl
   |some a=>
    dsimp only;cases byteOfCell ⟨T,F⟩ (Program.depth ⟨T,F⟩) u k.off with
    |none=>rfl
    |some β=>
     dsimp only;cases w.heap[at_.block]? with
     |none=>rfl
     |some o=>
      cases o<;>try rfl
      rename_i c e z;simp only[Option.map_some,ct];by_cases n:Program.cellsOf ⟨T,F⟩ e=0
      .simp only[n,if_true];rfl
      .simp only[n,if_false];cases byteOfCell ⟨T,F⟩ (Program.depth ⟨T,F⟩) e (at_.off%Program.cellsOf ⟨T,F⟩ e)with
       |none=>rfl
       |some p=>
        dsimp only;rw[a0G (F:=F) (F':=F')];cases seenCells ⟨T,F⟩ c e (a+1) (at_.off / Program.cellsOf ⟨T,F⟩ e*Program.bytesOf ⟨T,F⟩ e+p+β) (at_.off / Program.cellsOf ⟨T,F⟩ e*Program.bytesOf ⟨T,F⟩ e+p+β+a)with
        |error _=>rfl
        |ok d=>
         cases b with
         |false=>rfl
         |true=>
          obtain _|⟨⟨i,s,A⟩,_|⟨x,l⟩⟩:=d
          .rfl
          .simp only[bind,Except.bind,if_true];split<;>rfl
          .rfl
def a3h(h:cL lk lz T.globals.size D aj w v)(l:aQ D aj f){at_ k}(m:D at_.block){u b x t}(a:w.viewLoad ⟨T,F⟩ at_ u k b=.ok (x,t)):v.viewLoad ⟨T,F'⟩ (aH f at_) u (aH f k) b=.ok (x,t.map (aH f))/\ak f x=x:=by
 unfold World.viewLoad at a⊢;have n:w.heap[at_.block]? ≠some dead:=λo=>by obtain⟨e,p⟩:=Ic (P:=⟨T,F⟩) (k:=k) o u b;rw[p]at a;cases a
 rw[If (F:=F) (F':=F') h l m n];cases j:w.seen ⟨T,F⟩ at_ u k b with
 |error e=>rw[j]at a;cases a
 |ok q=>
  obtain⟨c,e,r,first,d,g⟩:=q;rw[j]at a;simp only[Except.map,bind,Except.bind]at a⊢;cases i:d.ofBytes (g.flatMap λx=>(x.2.2.drop (first - x.2.1)).take (first+(d.bytes?.map (·.length)).getD 0 - max first x.2.1))with
  |none=>simp only[i]at a;cases a
  |some y=>simp only[i]at a⊢;cases a;exact⟨by simp[pure,Except.pure,aH],XF i⟩
def a5R{P at_ k u e b c h first g d}(a:w.seen P at_ u k b=.ok (c,e,h,first,g,d)):w.heap[at_.block]?=some (.cells c e h):=by
 unfold World.seen at a;simp only[bind,Except.bind]at a;split at a
 .cases a
 .split at a
  .split at a
   .split at a
    .split at a
     .rename_i l m j i;split at a
      .cases a
      .split at a
       .split at a
        .cases a
        .split at a
         .split at a
          .split at a
           .cases a
           .cases a;exact i
          .cases a
         .cases a;exact i
       .cases a
     .cases a
    .cases a
   .cases a
  .cases a
def zC{α:Type}{g:Array af->α->Except String (Array af)}(a:∀c x,g (c.map (ak f)) x=(g c x).map (Array.map (ak f))):∀(l:List α) (c),l.foldlM g (c.map (ak f))=(l.foldlM g c).map (Array.map (ak f)):=by
 intro l;induction l with
 |nil=>intro c;rfl
 |cons y l b=>
  intro c;simp only[a7i,a];cases g c y with
  |error e=>rfl
  |ok d=>exact b d
def a3k(h:cL lk lz T.globals.size D aj w v){at_ k l M}(z:D at_.block){u b x x' w' t}(a:w.viewStore ⟨T,F⟩ at_ u k x b=.ok (w',t))(n:∀f,aQ D aj f->l=aH f at_)(S:∀f,aQ D aj f->M=aH f k)(U:∀f,aQ D aj f->x'=ak f x):∃A N,v.viewStore ⟨T,F'⟩ l u M x' b=.ok (A,N)/\cL lk lz T.globals.size D aj w' A/\(∀f,aQ D aj f->N=t.map (aH f))/\(∃o,w'={w with heap:=w.heap.setIfInBounds at_.block o})/\∃o,A={v with heap:=v.heap.setIfInBounds l.block o}:=by
 have d:=aN h 0;unfold World.viewStore at a⊢;have B:w.heap[at_.block]? ≠some dead:=λV=>by obtain⟨e,W⟩:=Ic (P:=⟨T,F⟩) (k:=k) V u b;rw[W]at a;simp only[bind,Except.bind]at a;split at a<;>cases a
 rw[n _ d,S _ d,If (F:=F) (F':=F') h d z B,a2m (F:=F) (F':=F'),show Program.depth ⟨T,F'⟩=Program.depth ⟨T,F⟩from rfl];cases O:tight ⟨T,F⟩ (Program.depth ⟨T,F⟩) u with
 |false=>rw[O]at a;cases a
 |true=>
  rw[O]at a;simp only[a6O,dj,if_false]at a⊢;cases C:w.seen ⟨T,F⟩ at_ u k b with
  |error e=>rw[C]at a;cases a
  |ok q=>
   obtain⟨c,e,E,first,Q,i⟩:=q;rw[C]at a;have X:x'.bytes?=x.bytes? :=by rw[U _ d,Cu]
   simp only[Except.map,bind,Except.bind,X]at a⊢;cases R:x.bytes? with
   |none=>rw[R]at a;cases a
   |some bytes=>
    rw[R]at a;dsimp only at a⊢;split at a
    .cases a
    .rename_i p;simp only[p,if_false];have Y:=a5R C;revert a;generalize r:(λ(Z:Array af) (x:Nat×Nat×List UInt8)=>(_:Except String (Array af)))=g;have H:∀f c x,g (c.map (ak f)) x=(g c x).map (Array.map (ak f)):=by
      intro f c y;rw[<-r];simp only[fp];cases (decide (y.2.1<first)||decide (y.2.1+y.2.2.length>first+bytes.length))with
      |true=>rfl
      |false=>
       simp only[dj,if_false];cases (decide (E.1<=y.1)&&decide (y.1<E.2))with
       |true=>rfl
       |false=>
        simp only[dj,if_false];cases c[y.1]? with
        |none=>rfl
        |some I=>
         simp only[Option.map_some,XG];cases I.ofBytes ((bytes.drop (y.2.1 - first)).take y.2.2.length)with
         |none=>rfl
         |some ab=>simp only[Option.map_some,pure,Except.pure,Except.map];rw[<-a5K]
     clear r;intro a;rw[zC (λc x=>H _ c x)];cases j:i.foldlM g c with
     |error e=>rw[j]at a;cases a
     |ok J=>
      rw[j]at a;dsimp only at a;cases a;have s:∀f,aQ D aj f->J.map (ak f)=J.map (ak (λb=> @ite _ (D b) (Classical.propDecidable _) (aj b) (v.heap.size+0+b))):=by intro f m;have e1:=h.live f m z B;have K:=h.live _ d z B;rw[e1,Y]at K;simp only[Option.map_some,ct,cw,Obj.cells.injEq]at K;have L:=zC (H f) i c;have f2:=zC (H (λb=> @ite _ (D b) (Classical.propDecidable _) (aj b) (v.heap.size+0+b))) i c;rw[K.1,f2,j]at L;simp only[Except.map,a6t]at L;exact L.symm
      refine⟨_,_,rfl,?_,?_,⟨_,rfl⟩,⟨_,rfl⟩⟩
      .refine h.setObj (o:=.cells J e E) z (λf m=>?_) (λf m=>?_) ⟨trivial,by simp[dead]⟩
       .rw[<-n _ d,n f m];rfl
       .simp only[ct,s f m]
      .intro f m;simp only[a7l];congr 1;funext y;simp only[Function.comp];rw[<-n _ d,n f m];rfl
end
def mK(B:Nat)(e:aJ):Prop:=match e.loc with
 | .cell a=>a.block<B
 | .obj r=>r<B
 |_=>True
def mK.mono{B a e}(h:mK B e)(b:B<=a):mK a e:=by unfold mK at h⊢;split<;>simp_all<;>omega
def CB{w:aa}{a x}(h:w.cell? a=some x):a.block<w.heap.size:=by
 unfold World.cell? at h;cases b:w.heap[a.block]? with
 |none=>simp[b]at h
 |some o=>exact(bW.1 b).1
def a3g{P}{w:aa}{at_ k u b x t}(h:w.viewLoad P at_ u k b=.ok (x,t)):∀a∈t,a.block<w.heap.size:=by
 unfold World.viewLoad at h;cases d:w.seen P at_ u k b with
 |error e=>rw[d]at h;cases h
 |ok q=>
  obtain⟨c,e,m,first,i,g⟩:=q;have j:=a5R d;rw[d]at h;simp only[bind,Except.bind]at h;split at h
  .simp only[pure,Except.pure,a6t,gQ]at h;rw[<-h.2];intro a l;obtain⟨q,_,rfl⟩:=eS.1 l;exact(bW.1 j).1
  .cases h
def a3j{P}{w w':aa}{at_ k u b x t}(h:w.viewStore P at_ u k x b=.ok (w',t)):∀a∈t,a.block<w.heap.size:=by
 unfold World.viewStore at h;cases d:w.seen P at_ u k b with
 |error e=>rw[d]at h;simp only[bind,Except.bind]at h;split at h<;>cases h
 |ok q=>
  obtain⟨c,e,m,first,i,g⟩:=q;have j:=a5R d;rw[d]at h;simp only[bind,Except.bind]at h;split at h
  .cases h
  split at h;rotate_left
  .cases h
  split at h
  .cases h
  split at h
  .cases h
  simp only[pure,Except.pure,a6t,gQ]at h;rw[<-h.2];intro a l;obtain⟨q,_,rfl⟩:=eS.1 l;exact(bW.1 j).1
end Go.Mir
end
