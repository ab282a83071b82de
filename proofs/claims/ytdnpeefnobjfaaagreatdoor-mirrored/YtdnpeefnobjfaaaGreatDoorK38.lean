import Derived.Test.YtdnpeefnobjfaaaGreatDoorK35
import Derived.Test.YtdnpeefnobjfaaaGreatDoorK37
set_option maxRecDepth 100000
set_option maxHeartbeats 4000000
set_option linter.all false
section
namespace Go.Mir
open Go Go.Conc
def aI.nh(C:aI)(l:Loc):Prop:=l=.cell ⟨C.r,1,none⟩\/l=.cell ⟨C.r,2,none⟩\/l=.cell ⟨C.r,4,none⟩\/l=.cell ⟨C.r,5,none⟩
def aI.lJ(C:aI)(l:Loc):Prop:=C.nh l\/l=.obj C.dc
structure aI.d9 (C:aI) (e:aJ):Prop where
 touch:∀x,(MemAct.ofEvent e).touch?=some x->x.loc.isMemory=true->(C.common x.loc/\x.write=false)\/(C.lJ x.loc/\x.kind=.said)
 low:(MemAct.ofEvent e).low (C.r+1)
 norel:e.loc≠.mark (.release ⟨C.r,4,none⟩)
def jH(e:aJ):Prop:=Event.mute e=true
def jT(C:aI)(o:Nat):aJ:=⟨.cell ⟨C.r,o,none⟩,false,true⟩
def jD(C:aI)(o:Nat):aJ:=⟨.cell ⟨C.r,o,none⟩,true,true⟩
def aI.ca(C:aI)(o:Nat):ap:=⟨C.r,o,none⟩
structure cC (C:aI) where
 tv:af
 zS:af
 zT:af
 zD:af
 MK:Nat->aw->Prop
 GO:Nat->Nat->aw->Prop
 SN:Nat->Nat->aw->Prop
 LW:Nat->aw->Prop
 CA:Nat->Nat->aw->Prop
 SA:Nat->aw->Prop
 LD:Nat->aw->Prop
 AQ:Nat->aw->Prop
 CL:aw->Prop
 FN:aw->Prop
 S1:Nat->Nat->aw->Prop
 AD:Nat->Nat->Nat->aw->Prop
 LA:Nat->Nat->Nat->aw->Prop
 LB:Nat->Nat->Nat->aw->Prop
 LC:Nat->Nat->Nat->aw->Prop
 S2:Nat->Nat->aw->Prop
 RL:Nat->Nat->aw->Prop
 TD:Nat->(Nat->Prop)->aa->Prop
section
variable{C:aI}(p:cC C)
def cC.cases(c:Nat):Array CommCase:=#[rcase c p.zT,rcase C.dc p.zD]
def cC.xY(i c:Nat):i7:=λ_ d g _=>p.S1 i c g/\d=0
def cC.uc(i c:Nat):i7:=λO d g v=>p.AD 1 i c g/\d=1/\p.TD i O v
def cC.ud(i c:Nat):i7:=λO d g v=>p.S2 i c g/\d=0/\p.TD i O v
def cC.xX(i c:Nat):i7:=λO d g v=>p.RL i c g/\d=0/\p.TD i O v
structure cC.Ok:Prop where
 td:∀i O v v',p.TD i O v->C.Fr i O v v'->p.TD i O v'
 sI:∀k g,p.MK k g->g.status=.running/\∃g1:Nat->aw,(∀v,C.Shape v->stepG C.P true g v=.go (g1 v.heap.size) {v with heap:=v.heap.push (.chan 1 #[] false 0 0 false)} #[])/\∀c,(g1 c).status=.running/\C.To true C.d9 0 (g1 c) 0 (p.GO k c)
 go:∀k c g,p.GO k c g->g.status=.running/\∃g1 g2,(∀v,stepG C.P true g v=.spawn g1 g2 v #[])/\C.To true C.d9 0 g1 0 (p.SN k c)/\∀v,C.Shape v->C.fh k (p.xY k c) (λ_=>False) 0 g2 v
 sn:∀k c g,p.SN k c g->g.status=.running/\(∀v,stepG C.P true g v=.comm g #[scase c p.tv p.zS] true .send v #[])/\(k+1<C.n->C.To true C.d9 0 (g.finishComm C.P #[scase c p.tv p.zS] .send 0 undef false) 0 (p.MK (k+1)))/\(k+1=C.n->C.To true C.d9 0 (g.finishComm C.P #[scase c p.tv p.zS] .send 0 undef false) 1 (p.LW 1))
 lw:∀o g,p.LW o g->g.status=.running/\∃g1:Int->aw,(∀v s,v.cell? (C.ca o)=some (.int .u64 s)->stepG C.P true g v=.go (g1 s) v #[jT C o])/\(g1 0).status=.running/\C.To true C.d9 1 (g1 0) 0 (p.AQ o)/\∀m:Nat,1<=m->m<=8->(g1 (m*KK)).status=.running/\C.To true C.d9 1 (g1 (m*KK)) 1 (p.CA o m)
 ca:∀o m g,p.CA o m g->g.status=.running/\∃g2 g3,(∀v,v.cell? (C.ca o)=some (.int .u64 (m*KK))->v.frozen? (C.ca o)=false->stepG C.P true g v=.go g2 (v.setCell (C.ca o) (.int .u64 (m*KK+1))) #[jT C o,jD C o])/\
  (∀v x,v.cell? (C.ca o)=some (.int .u64 x)->v.frozen? (C.ca o)=false->¬x=m*KK->stepG C.P true g v=.go g3 v #[jT C o])/\(g2.status=.running/\C.To true C.d9 1 g2 1 (p.SA o))/\(g3.status=.running/\C.To true C.d9 1 g3 1 (p.LW o))
 sa:∀o g,p.SA o g->g.status=.running/\g.offers=none/\∃g4,(∀v x,v.cell? (C.ca (o+1))=some (.int .u32 x)->x≠0->v.frozen? (C.ca (o+1))=false->stepG C.P true g v=.go g4 (v.setCell (C.ca (o+1)) (.int .u32 (x - 1))) (semEvents (C.ca (o+1))))/\
  (∀v,v.cell? (C.ca (o+1))=some (.int .u32 0)->stepG C.P true g v=.go {g with status:=.blocked} v #[])/\g4.status=.running/\C.To true C.d9 1 g4 1 (p.LD o)
 ld:∀o g,p.LD o g->g.status=.running/\∃g5,(∀v,v.cell? (C.ca o)=some (.int .u64 0)->stepG C.P true g v=.go g5 v #[jT C o])/\g5.status=.running/\C.To true C.d9 1 g5 0 (p.AQ o)
 aq:∀o g,p.AQ o g->g.status=.running/\∃g6,(∀v,C.Shape v->stepG C.P true g v=.go g6 v #[⟨.mark (.acquire (C.ca o)),false,true⟩])/\g6.status=.running/\(o=1->C.To true C.d9 0 g6 0 p.CL)/\(o=4->p.FN g6)
 cl:∀g,p.CL g->g.status=.running/\mayWake C.P g=true/\∃g7,g7.status=.running/\(∀v,v.heap[C.dc]?=some (.chan 0 #[] false 0 0 false)->stepG C.P true g v=.go g7 (v.setChan C.dc 0 #[] true 0 0 false) #[⟨.obj C.dc,false,true⟩,⟨.obj C.dc,true,true⟩])/\C.To true C.d9 0 g7 1 (p.LW 4)
 s1:∀i c g,p.S1 i c g->g.status=.running/\(∀v,stepG C.P false g v=.comm g (p.cases c) true .select v #[])/\∀O v,C.Shape v->C.Own O v->C.fh i (p.uc i c) O 0 (g.finishComm C.P (p.cases c) .select 0 p.tv true) v
 ad:∀o i c g,p.AD o i c g->g.status=.running/\∃g1:Int->aw,(∀v s,v.cell? (C.ca o)=some (.int .u64 s)->v.frozen? (C.ca o)=false->stepG C.P false g v=.go (g1 (IntKind.u64.wrap (s+18446744069414584320))) (v.setCell (C.ca o) (.int .u64 (IntKind.u64.wrap (s+18446744069414584320)))) #[jT C o,jD C o])/\
  ((g1 1).status=.running/\C.To false jH 1 (g1 1) 1 (p.LA o i c))/\(o=1->∀m b:Nat,m<=7->b<=1->¬(m=0/\b=1)->(g1 (m*KK+b)).status=.running/\∀O v,C.Shape v->C.Own O v->p.TD i O v->C.fh i (p.ud i c) O 1 (g1 (m*KK+b)) v)/\(o=4->∀m b:Nat,m<=7->b<=1->¬(m=0/\b=1)->(g1 (m*KK+b)).status=.running/\∃q,QuitsD C.P q 1 (g1 (m*KK+b)))
 la:∀o i c g,p.LA o i c g->g.status=.running/\∃g1,(∀v,v.cell? (C.ca o)=some (.int .u64 1)->stepG C.P false g v=.go g1 v #[jT C o])/\g1.status=.running/\C.To false jH 1 g1 1 (p.LB o i c)
 lb:∀o i c g,p.LB o i c g->g.status=.running/\∃g1,(∀v x,v.cell? (C.ca o)=some x->v.frozen? (C.ca o)=false->stepG C.P false g v=.go g1 (v.setCell (C.ca o) (.int .u64 0)) #[jD C o])/\g1.status=.running/\C.To false jH 1 g1 1 (p.LC o i c)
 lc:∀o i c g,p.LC o i c g->g.status=.running/\mayWake C.P g=true/\∃g1,g1.status=.running/\(∀v x,v.cell? (C.ca (o+1))=some (.int .u32 x)->v.frozen? (C.ca (o+1))=false->stepG C.P false g v=.go g1 (v.setCell (C.ca (o+1)) (.int .u32 (IntKind.u32.wrap (x+1)))) (semEvents (C.ca (o+1))))/\
  (o=1->∀O v,C.Shape v->C.Own O v->p.TD i O v->C.fh i (p.ud i c) O 1 g1 v)/\(o=4->∃q,QuitsD C.P q 1 g1)
 s2:∀i c g,p.S2 i c g->g.status=.running/\(∀v,stepG C.P false g v=.comm g (p.cases c) true .select v #[])/\∀O v,C.Shape v->C.Own O v->p.TD i O v->C.fh i (p.xX i c) O 0 (g.finishComm C.P (p.cases c) .select 1 p.zD false) v
 rl:∀i c g,p.RL i c g->g.status=.running/\∃g1,(∀v,stepG C.P false g v=.go g1 v #[⟨.mark (.releaseMerge (C.ca 4)),false,true⟩])/\g1.status=.running/\C.To false jH 0 g1 1 (p.AD 4 i c)
end
inductive Ph|unborn|ready|park1|work|la1|lb1|lc1|dX|park2|wok2|fin|hush|la2|lb2|lc2|leave
 deriving DecidableEq
inductive SP|mk (k:Nat)|go (k:Nat)|snd (k:Nat)|lw (b:Bool)|ca (b:Bool) (m:Nat)|sa (b:Bool)|sb (b:Bool)|ld (b:Bool)|aq (b:Bool)|cl
 deriving DecidableEq
inductive Gp|idle|reg|la (i:Nat)|lb (i:Nat)|lc (i:Nat)|rel|over
 deriving DecidableEq
inductive Cl|old|sh|wk (i:Nat)|ch (i:Nat)|free
 deriving DecidableEq
def Ph.num:Ph->Nat
 | .unborn=>15| .ready=>14| .park1=>13| .work=>12| .la1=>11| .lb1=>10| .lc1=>9| .dX=>8| .park2=>7| .wok2=>6| .fin=>5| .hush=>4| .la2=>3| .lb2=>2| .lc2=>1| .leave=>0
def Ph.dm(p:Ph):Bool:=decide (12<=p.num)
def Ph.dn(p:Ph):Bool:=decide (4<=p.num)
def Ph.cD(p:Ph):Bool:=decide (p.num<=12)
def Ph.said(p:Ph):Bool:=decide (p.num<=4)
def o4(b:Bool):Nat:=cond b 4 1
def SP.aW(n:Nat):SP->Nat
 | .mk k=>k| .go k=>k| .snd k=>k+1|_=>n
def SP.cM(n:Nat):SP->Nat
 | .mk k=>k| .go k=>k| .snd k=>k|_=>n
def SP.made(n:Nat):SP->Nat
 | .mk k=>k| .go k=>k+1| .snd k=>k+1|_=>n
def SP.closed:SP->Bool
 | .lw b| .ca b _| .sa b| .sb b| .ld b| .aq b=>b
 |_=>false
def SP.deaf:SP->Nat
 | .lw _| .ca _ _| .sa _| .sb _| .ld _=>1
 |_=>0
def Gp.st(G:Gp)(a:Nat):Int:=match G with
 | .idle=>a*KK| .reg=>a*KK+1| .la _| .lb _=>1|_=>0
def Gp.sm:Gp->Int
 | .rel=>1|_=>0
def Gp.zz(G:Gp)(a:Nat):Prop:=match G with
 | .idle=>True| .reg=>0<a|_=>a=0
def SP.jo(sp:SP)(G:Gp):Prop:=match sp with
 | .mk _| .go _| .snd _| .lw false| .ca false _=>G=.idle
 | .sa false=>G≠.idle/\G≠.over
 | .sb false=>G≠.idle/\G≠.over/\G≠.rel
 |_=>G=.over
def SP.kv(sp:SP)(G:Gp):Prop:=match sp with
 | .sa true=>G≠.idle/\G≠.over
 | .sb true=>G≠.idle/\G≠.over/\G≠.rel
 | .ld true| .aq true=>G=.over
 |_=>G=.idle
def cnt(f:Nat->Bool):Nat->Nat
 |0=>0
 |n+1=>cnt f n+(f n).toNat
structure St where
 sp:SP
 m0:Nat
 ph:Nat->Ph
 rk:Nat->Rk
 q:Nat->Nat
 cb:Nat->Nat
 cls:Nat->Cl
 G1:Gp
 G2:Gp
def St.own(s:St)(i:Nat):Nat->Prop:=λc=>s.cls c=.wk i
def aI.a1(C:aI)(s:St):Nat:=cnt (λi=>(s.ph i).dm) C.n
def aI.a2(C:aI)(s:St):Nat:=cnt (λi=>(s.ph i).dn) C.n
section
variable{C:aI}(p:cC C)
def cC.pt(s:St):SP->aw->Prop
 | .mk k=>p.MK k| .go k=>p.GO k (s.cb k)| .snd k=>p.SN k (s.cb k)| .lw b=>p.LW (o4 b)| .ca b m=>p.CA (o4 b) m| .sa b=>p.SA (o4 b)| .sb b=>p.SA (o4 b)| .ld b=>p.LD (o4 b)| .aq b=>p.AQ (o4 b)| .cl=>p.CL
def cC.fT(s:St)(d:Nat)(g:aw):Prop:=match s.sp with
 | .sb b=>d=1/\∃a,p.SA (o4 b) a/\g={a with status:=.blocked}
 |sp=> ∃a,C.Quiet true C.d9 s.m0 d g sp.deaf a/\p.pt s sp a
def cC.eU(i c:Nat)(ph:Ph)(ρ:Rk)(m:Nat)(O:Nat->Prop)(d:Nat)(g:aw)(v:aa):Prop:=match ph with
 | .unborn=>False
 | .ready=>C.Way i (p.xY i c) ρ O d g v
 | .park1=> ∃a,p.S1 i c a/\g=parked a (p.cases c) .select/\d=0
 | .work=>C.Way i (p.uc i c) ρ O d g v
 | .la1=>p.TD i O v/\∃a,C.Quiet false jH m d g 1 a/\p.LA 1 i c a
 | .lb1=>p.TD i O v/\∃a,C.Quiet false jH m d g 1 a/\p.LB 1 i c a
 | .lc1=>p.TD i O v/\∃a,C.Quiet false jH m d g 1 a/\p.LC 1 i c a
 | .dX=>C.Way i (p.ud i c) ρ O d g v
 | .park2=>p.TD i O v/\∃a,p.S2 i c a/\g=parked a (p.cases c) .select/\d=0
 | .wok2=>p.TD i O v/\∃a,p.S2 i c a/\g={parked a (p.cases c) .select with status:=.running}/\d=0
 | .fin=>C.Way i (p.xX i c) ρ O d g v
 | .hush=>p.TD i O v/\∃a,C.Quiet false jH m d g 1 a/\p.AD 4 i c a
 | .la2=>p.TD i O v/\∃a,C.Quiet false jH m d g 1 a/\p.LA 4 i c a
 | .lb2=>p.TD i O v/\∃a,C.Quiet false jH m d g 1 a/\p.LB 4 i c a
 | .lc2=>p.TD i O v/\∃a,C.Quiet false jH m d g 1 a/\p.LC 4 i c a
 | .leave=>p.TD i O v/\QuitsD C.P m d g
structure aI.dQ (C:aI) (s:St):Prop where
 n8:C.n<=8
 kI:match s.sp with| .mk k| .go k| .snd k=>k<C.n|_=>True
 born:∀i,i<C.n->(s.ph i=.unborn↔s.sp.aW C.n<=i)
 ll:∀i,i<C.n->s.ph i=.park1->s.sp.cM C.n<=i
 cD:∀i,i<C.n->(s.ph i).cD=true->i<s.sp.cM C.n
 opened:s.sp.closed=false->∀i,i<C.n->7<=(s.ph i).num
 shut:s.sp.closed=true->∀i,i<C.n->(s.ph i).num<=8/\s.ph i≠.park2
 g1:∀i,i<C.n->(s.ph i=.la1↔s.G1=.la i)/\(s.ph i=.lb1↔s.G1=.lb i)/\(s.ph i=.lc1↔s.G1=.lc i)
 ee:∀i,s.G1=.la i\/s.G1=.lb i\/s.G1=.lc i->i<C.n
 g2:∀i,i<C.n->(s.ph i=.la2↔s.G2=.la i)/\(s.ph i=.lb2↔s.G2=.lb i)/\(s.ph i=.lc2↔s.G2=.lc i)
 ef:∀i,s.G2=.la i\/s.G2=.lb i\/s.G2=.lc i->i<C.n
 z1:s.G1.zz (C.a1 s)
 z2:s.G2.zz (C.a2 s)
 s1:s.sp.jo s.G1
 s2:s.sp.kv s.G2
 ni:∀b m,s.sp=.ca b m->1<=m/\m<=8
structure aI.dL (C:aI) (s:St) (B:Nat):Prop where
 old:∀c,c<C.B0->s.cls c=.old
 sh:s.cls C.r=.sh/\s.cls C.tb=.sh/\s.cls C.dc=.sh
 free:∀c,B<=c->s.cls c=.free
 ch:∀i,i<s.sp.made C.n->s.cls (s.cb i)=.ch i
 wk:∀c i,s.cls c=.wk i->i<s.sp.aW C.n
 ge:C.B0<=C.r/\C.B0<=C.tb/\C.B0<=C.dc/\C.r≠C.tb/\C.r≠C.dc/\C.tb≠C.dc
structure cC.Hp (s:St) (v:aa):Prop where
 rb:v.heap[C.r]?=some (C.fc (s.G1.st (C.a1 s)) s.G1.sm (s.G2.st (C.a2 s)) s.G2.sm)
 tb:∃tc,v.heap[C.tb]?=some (.cells tc C.tt)/\tc.size=C.n
 dc:v.heap[C.dc]?=some (.chan 0 #[] s.sp.closed 0 0 false)
 old:∀c,c<C.B0->v.heap[c]?=C.v0.heap[c]?
 os:oo v=oo C.v0
 ch:∀i,i<s.sp.made C.n->v.heap[s.cb i]?=some (if i<s.sp.cM C.n then (if (s.ph i).cD then .chan 1 #[] false 1 1 false else .chan 1 #[p.tv] false 1 0 false)else .chan 1 #[] false 0 0 false)
def aI.places(C:aI)(s:St):mn:=
 {own:=λg l=> ∃i,g=C.N0+i/\C.mine i (s.own i) l
  old:=C.common
  lJ:=C.lJ}
def aI.mem(C:aI)(s:St)(j:Nat):Prop:=j=0\/(C.N0<=j/\j<C.N0+s.sp.aW C.n)
def aI.Rel(C:aI)(t:aY)(i:Nat):Prop:=∃x,ConcN.RelBy (C.ca 4) t (C.N0+i) x/\∀k b a,x<k->t[k]?=some b->b.g=C.N0+i->b.act.touch?=some a->C.nh a.loc
structure aI.fU (C:aI) (s:St) (t0 t:aY) (B:Nat):Prop where
 pre:∃u,t=t0++u
 qI:gz (C.places s) (cK C.SB) t0.size (C.mem s) t
 elder:∀i op,t0.size<=i->t[i]?=some op->0<op.g->op.g<C.N0->op.act.touch?=none
 born:∀i op,t0.size<=i->t[i]?=some op->op.g<C.N0+s.sp.aW C.n
 norel:NoRelease (C.ca 4) t
 low:∀op∈t,op.act.low B
 rel:∀i,i<C.n->(s.ph i).said=true->C.Rel t i
structure cC.Inv (t0:aY) (s:St) (gs:Array aw) (v:aa) (t:aY):Prop where
 pos:0<C.N0
 size:gs.size=C.N0+s.sp.aW C.n
 start:∃g,gs[0]?=some g/\p.fT s (Deaf t 0) g
 elder:∀j g,0<j->j<C.N0->gs[j]?=some g->QuitsD C.P (s.q j) (Deaf t j) g
 work:∀i g,i<s.sp.aW C.n->gs[C.N0+i]?=some g->p.eU i (s.cb i) (s.ph i) (s.rk i) (s.q (C.N0+i)) (s.own i) (Deaf t (C.N0+i)) g v
 above:∀j,gs.size<=j->Deaf t j=0
 hp:p.Hp s v
 cls:C.dL s v.heap.size
 ctl:C.dQ s
 f8:C.fU s t0 t v.heap.size
end
abbrev lI:=Nat×Rk×Nat
inductive mh:lI->lI->Prop
 |num {a b:Nat} {ρ ρ':Rk} {m m':Nat} (h:a<b):mh (a,ρ,m) (b,ρ',m')
 |tree {a:Nat} {f:aa->Rk} (x:aa) {m m':Nat}:mh (a,f x,m) (a,.node f,m')
 |step {a:Nat} {ρ:Rk} {m m':Nat} (h:m<m'):mh (a,ρ,m) (a,ρ,m')
def Ul:∀x:lI,Acc mh x:=by
 rintro⟨a,ρ,m⟩;induction a using Nat.strongRecOn generalizing ρ m with
 |_ a c=>
  induction ρ generalizing m with
  |leaf=>
   induction m using Nat.strongRecOn with
   |_ m b=>
    refine⟨_,λy d=>?_⟩;cases d with
    |num h=>exact c _ h _ _
    |step h=>exact b _ h
  |node f e=>
   induction m using Nat.strongRecOn with
   |_ m b=>
    refine⟨_,λy d=>?_⟩;cases d with
    |num h=>exact c _ h _ _
    |tree x=>exact e x _
    |step h=>exact b _ h
abbrev mf(n:Nat):=Relation.TransGen (tY mh n)
def QP(n:Nat)(f:Nat->lI):Acc (mf n) f:=Acc.transGen (LG n f λi _=>Ul _)
def pT{n i:Nat}{g f:Nat->lI}(a:i<n)(h:mh (g i) (f i))(b:∀j,j≠i->g j=f j):mf n g f:=.single ⟨i,a,h,b⟩
def QQ:∀(n:Nat) (g f:Nat->lI),(∀j,j<n->g j=f j\/mh (g j) (f j))->(∀j,n<=j->g j=f j)->g=f\/mf n g f:=by
 have b:∀(N k:Nat) (g f:Nat->lI),k<=N->(∀j,j<k->g j=f j\/mh (g j) (f j))->(∀j,k<=j->g j=f j)->g=f\/mf N g f:=by
  intro N k;induction k with
  |zero=>intro g f _ _ h;exact .inl (funext λj=>h j (m8 _))
  |succ k r=>
   intro g f x o u;let m:Nat->lI:=λj=>if j=k then f k else g j
   have l:m=f\/mf N m f:=r m f (by omega) (λj a=>by
    have:j≠k:=by omega
    simp only[m,this,if_false];exact o j (by omega)) (λj a=>by
    by_cases e:j=k
    .simp[m,e]
    .simp only[m,e,if_false];exact u j (by omega))
   have c:∀j,j≠k->g j=m j:=λj a=>by simp[m,a]
   have d:m k=f k:=by simp[m]
   obtain e|w:=o k (by omega)
   .have:g=m:=funext λj=>by
     by_cases a:j=k
     .subst a;rw[e,d]
     .exact c j a
    rw[this];exact l
   .have q:mf N g m:=pT (i:=k) (by omega) (by rw[d];exact w) c;obtain e|l:=l
    .exact .inr (e▸q)
    .exact .inr (.trans q l)
 exact λn g f=>b n n g f (aF _)
def aI.dV(C:aI)(s:St)(j:Nat):lI:=if j<C.N0 then (0,.leaf,s.q j)else ((s.ph (j - C.N0)).num,s.rk (j - C.N0),s.q j)
def aI.stage(C:aI)(s:St):Nat:=match s.sp with
 | .mk k=>30+3*(C.n - k)| .go k=>29+3*(C.n - k)| .snd k=>28+3*(C.n - k)
 | .lw false=>21| .ca false m=>if (m:Int)*KK=s.G1.st (C.a1 s)then 20 else 22| .sa false=>19| .sb false=>18| .ld false=>17| .aq false=>16| .cl=>15
 | .lw true=>13| .ca true m=>if (m:Int)*KK=s.G2.st (C.a2 s)then 12 else 14| .sa true=>11| .sb true=>10| .ld true=>9| .aq true=>8
def aI.Down(C:aI)(s' s:St):Prop:=mf (C.N0+C.n) (C.dV s') (C.dV s)\/(C.dV s'=C.dV s/\(C.stage s'<C.stage s\/(C.stage s'=C.stage s/\s'.m0<s.m0)))
def Om(C:aI):∀s,Acc C.Down s:=by
 have c:∀(f:Nat->lI),Acc (mf (C.N0+C.n)) f->∀(a:Nat) (b:Nat) (s:St),C.dV s=f->C.stage s=a->s.m0=b->Acc C.Down s:=by
  intro f m;induction m with
  |intro f _ d=>
   intro a;induction a using Nat.strongRecOn with
   |_ a e=>
    intro b;induction b using Nat.strongRecOn with
    |_ b g=>
     intro s i l o;refine⟨_,λy q=>?_⟩;obtain h|⟨h,j|⟨j,k⟩⟩:=q
     .exact d _ (i▸h) _ _ y rfl rfl rfl
     .exact e _ (l▸j) _ y (h.trans i) rfl rfl
     .exact g _ (o▸k) y (h.trans i) (j.trans l) rfl
 exact λs=>c _ (QP _ _) _ _ s rfl rfl rfl
def NO{P:ay}{σ:Type}{r:σ->σ->Prop}(k:∀s,Acc r s){Inv:σ->Array aw->aa->aY->Prop}{Goal:Array aw->aa->aY->Prop}(f:∀m gs v t,Inv m gs v t->(∀g∈gs,awake g)/\∃(i:Nat) (g:aw),gs[i]?=some g/\g.status=.running)(e:∀m gs v t,Inv m gs v t->∀(i:Nat) (g:aw) (d:Nat) (sl:Option (Nat×Nat)),gs[i]?=some g->g.status=.running->∃a v' b,runT P (crowd gs (v.at d) sl) i=(.next (crowd a v' sl),b)/\(Goal a v' (t++b)\/∃l,Inv l a v' (t++b)/\r l m)):∀(m:σ) (gs:Array aw) (v:aa) (t:aY) (sl:Option (Nat×Nat)),Inv m gs v t->∃N a v' c t',runNT P N (crowd gs v sl) t=(.next (crowd a v' c),t')/\Goal a v' t':=by
 intro m gs v t sl hI;have A:=k m;induction A generalizing gs v t sl with
 |intro m _ B=>
  obtain⟨n,h⟩:=f m gs v t hI;obtain⟨i,g,d,c,D,E,j⟩:=crowd_pick (P:=P) (w:=v) (sl:=sl) n h;obtain⟨a,v',b,k,F⟩:=e m gs v t hI i g d c D E;obtain o|⟨l,q,u⟩:=F
  .exact⟨1,a,v',c,t++b,by simp only[runNT,j,k],o⟩
  .obtain⟨N,x,H,y,I,z,o⟩:=B l u a v' (t++b) c q;exact⟨N+1,x,H,y,I,by simp only[runNT,j,k];exact z,o⟩
theorem nn{f g:Nat->Bool}:∀{n:Nat},(∀i,i<n->f i=g i)->cnt f n=cnt g n
 |0,_=>rfl
 |n+1,h=>by simp only[cnt,h n (kj n),nn λi a=>h i (a6I a)]
theorem ut{f:Nat->Bool}:∀{n:Nat},cnt f n=0↔∀i,i<n->f i=false
 |0=>by simp[cnt]
 |n+1=>by
  simp only[cnt,Nat.add_eq_zero_iff,ut (n:=n)];constructor
  .rintro⟨a,c⟩ i b;by_cases e:i=n
   .subst e;cases h:f i<;>simp_all
   .exact a i (by omega)
  .intro h;exact⟨λi b=>h i (by omega),by simp[h n (kj n)]⟩
def CW{f:Nat->Bool}{n:Nat}(h:0<cnt f n):∃i,i<n/\f i=true:=by
 apply fx;intro a;have:cnt f n=0:=ut.2 λi b=>by
  cases e:f i with
  |false=>rfl
  |true=>exact absurd ⟨i,b,e⟩ a
 omega
theorem rr(f:Nat->Bool):∀n:Nat,cnt f n<=n
 |0=>aF _
 |n+1=>by have:=rr f n;cases h:f n<;>simp[cnt,h]<;>omega
theorem yw{f g:Nat->Bool}{i:Nat}(b:f i=true)(c:g i=false)(a:∀j,j≠i->g j=f j):∀{n:Nat},i<n->cnt f n=cnt g n+1
 |0,h=>absurd h (a6u _)
 |n+1,h=>by
  by_cases e:i=n
  .subst e;have:=nn (f:=f) (g:=g) (n:=i) λj d=>(a j (by omega)).symm;simp[cnt,b,c,this]
  .have:=yw b c a (n:=n) (by omega);simp only[cnt,a n (λx=>e x.symm)];omega
section
variable{C:aI}{p:cC C}{s:St}{v v':aa}{J t:aY}{gs:Array aw}
def gq(h:p.Hp s v):C.Shape v:=⟨⟨_,_,_,_,h.rb⟩,h.tb,h.old,h.os,(bW.1 h.dc).1⟩
def a5L{b:Nat}{c:Array af}{e:aA}{z:Nat×Nat}(h:v.heap[b]?=some (.cells c e z))(o:Nat):v.cell? ⟨b,o,none⟩=c[o]? :=by simp[World.cell?,h]
def rZ{b:Nat}{c:Array af}{e:aA}(h:v.heap[b]?=some (.cells c e))(o:Nat):v.frozen? ⟨b,o,none⟩=false:=by simp[World.frozen?,h]
def gp{b:Nat}{c:Array af}{e:aA}(h:v.heap[b]?=some (.cells c e))(o:Nat)(x:af):(v.setCell ⟨b,o,none⟩ x).heap[b]?=some (.cells (c.setIfInBounds o x) e):=by simp[World.setCell,j7,h]
def pc{b c o:Nat}{x:af}(h:c≠b):(v.setCell ⟨b,o,none⟩ x).heap[c]?=v.heap[c]? :=by have:b≠c:=λe=>h e.symm;simp[World.setCell,j7,this]
def Hp.og(h:p.Hp s v):v.cell? (C.ca 1)=some (.int .u64 (s.G1.st (C.a1 s))):=(a5L h.rb 1).trans rfl
def Hp.yq(h:p.Hp s v):v.cell? (C.ca 2)=some (.int .u32 s.G1.sm):=(a5L h.rb 2).trans rfl
def Hp.oh(h:p.Hp s v):v.cell? (C.ca 4)=some (.int .u64 (s.G2.st (C.a2 s))):=(a5L h.rb 4).trans rfl
def Hp.yr(h:p.Hp s v):v.cell? (C.ca 5)=some (.int .u32 s.G2.sm):=(a5L h.rb 5).trans rfl
def Hp.thaw(h:p.Hp s v)(o:Nat):v.frozen? (C.ca o)=false:=rZ h.rb o
def vr(b:C.Shape v')(d:v.heap.size<=v'.heap.size){i:Nat}{O:Nat->Prop}(e:∀c,O c->v'.heap[c]?=v.heap[c]?)(f:v'.heap[C.tb]?=v.heap[C.tb]?):C.Fr i O v v':=
 ⟨d,e,λj g h a=>by rw[f,h]at a;cases a;rfl,b⟩
def pn(b:p.Ok){i c:Nat}{ph:Ph}{ρ:Rk}{m d:Nat}{O:Nat->Prop}{g:aw}(h:p.eU i c ph ρ m O d g v)(a:C.Fr i O v v'):p.eU i c ph ρ m O d g v':=by
 have e:C.qV i (p.xY i c):=λ_ _ _ _ _ h _=>h;have f:C.qV i (p.uc i c):=λ_ _ _ _ _ h a=>⟨h.1,h.2.1,b.td _ _ _ _ h.2.2 a⟩;have j:C.qV i (p.ud i c):=λ_ _ _ _ _ h a=>⟨h.1,h.2.1,b.td _ _ _ _ h.2.2 a⟩;have k:C.qV i (p.xX i c):=λ_ _ _ _ _ h a=>⟨h.1,h.2.1,b.td _ _ _ _ h.2.2 a⟩;cases ph with
 |unborn=>exact h
 |ready=>exact xD e h a
 |park1=>exact h
 |work=>exact xD f h a
 |dX=>exact xD j h a
 |fin=>exact xD k h a
 |_=>exact⟨b.td _ _ _ _ h.1 a,h.2⟩
def xG{i:Nat}{A:i7}{ρ:Rk}{O:Nat->Prop}{d:Nat}{g:aw}(a:∀O d g v,A O d g v->g.status=.running)(h:C.Way i A ρ O d g v):g.status=.running:=by
 cases ρ with
 |leaf=>exact a _ _ _ _ h
 |node f=>exact h.1
def lS{main:Bool}{E:aJ->Prop}{m d a:Nat}{g g':aw}(h:C.Quiet main E m d g a g')(b:g'.status=.running):g.status=.running:=by
 cases h with
 |nil=>exact b
 |cons e c _ _ _=>exact c
def nQ(b:p.Ok){i c:Nat}{ph:Ph}{ρ:Rk}{m d:Nat}{O:Nat->Prop}{g:aw}(h:p.eU i c ph ρ m O d g v):((ph=.park1\/ph=.park2)/\∃a,g=parked a (p.cases c) .select)\/((ph≠.park1/\ph≠.park2)/\(g.status=.running\/(ph=.leave/\g.status=.finished))):=by
 cases ph with
 |unborn=>exact h.elim
 |park1=>obtain⟨a,_,h,_⟩:=h;exact .inl ⟨.inl rfl,a,h⟩
 |park2=>obtain⟨_,a,_,h,_⟩:=h;exact .inl ⟨.inr rfl,a,h⟩
 |ready=>exact .inr ⟨by decide,.inl (xG (λ_ _ _ _ h=>(b.s1 _ _ _ h.1).1) h)⟩
 |work=>exact .inr ⟨by decide,.inl (xG (λ_ _ _ _ h=>(b.ad _ _ _ _ h.1).1) h)⟩
 |dX=>exact .inr ⟨by decide,.inl (xG (λ_ _ _ _ h=>(b.s2 _ _ _ h.1).1) h)⟩
 |fin=>exact .inr ⟨by decide,.inl (xG (λ_ _ _ _ h=>(b.rl _ _ _ h.1).1) h)⟩
 |wok2=>obtain⟨_,a,_,h,_⟩:=h;exact .inr ⟨by decide,.inl (by rw[h])⟩
 |la1=>obtain⟨_,a,h,k⟩:=h;exact .inr ⟨by decide,.inl (lS h (b.la _ _ _ _ k).1)⟩
 |lb1=>obtain⟨_,a,h,k⟩:=h;exact .inr ⟨by decide,.inl (lS h (b.lb _ _ _ _ k).1)⟩
 |lc1=>obtain⟨_,a,h,k⟩:=h;exact .inr ⟨by decide,.inl (lS h (b.lc _ _ _ _ k).1)⟩
 |hush=>obtain⟨_,a,h,k⟩:=h;exact .inr ⟨by decide,.inl (lS h (b.ad _ _ _ _ k).1)⟩
 |la2=>obtain⟨_,a,h,k⟩:=h;exact .inr ⟨by decide,.inl (lS h (b.la _ _ _ _ k).1)⟩
 |lb2=>obtain⟨_,a,h,k⟩:=h;exact .inr ⟨by decide,.inl (lS h (b.lb _ _ _ _ k).1)⟩
 |lc2=>obtain⟨_,a,h,k⟩:=h;exact .inr ⟨by decide,.inl (lS h (b.lc _ _ _ _ k).1)⟩
 |leave=>exact .inr ⟨by decide,h.2.status.imp id λx=>⟨rfl,x⟩⟩
def Hg{c:Nat}{g g' x:aw}{b d:Array af}{e f s1 s2 r1 h:Nat}{i j:Bool}(k:v.heap[c]?=some (.chan e b false s1 r1 i))(l:v.heap[C.dc]?=some (.chan f d false s2 h j)):woken C.P g g' v (parked x (p.cases c) .select)=parked x (p.cases c) .select:=by
 unfold woken;split
 .refine again_all_open λm a=>?_;simp only[cC.cases,dK,cm,dP,or_false]at a;obtain rfl|rfl:=a
  .exact⟨_,_,_,_,_,_,_,rfl,k⟩
  .exact⟨_,_,_,_,_,_,_,rfl,l⟩
 .rfl
def CH(h:p.Hp s v){i:Nat}(a:i<s.sp.made C.n):∃b c d,v.heap[s.cb i]?=some (.chan 1 b false c d false):=by
 rw[h.ch i a];split
 .split
  .exact⟨_,_,_,rfl⟩
  .exact⟨_,_,_,rfl⟩
 .exact⟨_,_,_,rfl⟩
end
def gz.mono{p m c n e d t}(h:gz p c n e t)(o:∀g a,p.may g a->m.may g a)(q:∀i,d i->e i):gz m c n d t:=
 ⟨h.clean,λk a f j b i r=>h.first k a f j b i (q i r),λk w a f l j b=>o _ _ (h.later k w a f l j b)⟩
def gz.still{p g z n t u}(h:gz p g z n t)(O:z<=t.size)(l:∀A∈u,A.act.touch?=none):gz p g z n (t++u):=by
 refine⟨λo J=>?_,λi a y k c j I=>?_,λi A a y D k c=>?_⟩
 .obtain⟨i,j,E,⟨a,b,k,K,L⟩,M,N⟩:=J;obtain⟨P,F,d⟩:=touch_of k;obtain⟨Q,H,f⟩:=touch_of K;obtain⟨y,q⟩|⟨_,m⟩:=getElem?_append_cases F
  .rcases getElem?_append_cases H with⟨I,r⟩|⟨_,m⟩
   .exact h.clean o ⟨i,j,E,⟨a,b,by simp[Trace.act?,q,d],by simp[Trace.act?,r,f],L⟩,λe=>M (hb_app _ e),λe=>N (hb_app _ e)⟩
   .rw[l _ m]at f;cases f
  .rw[l _ m]at d;cases d
 .rw[touchAt_old (by omega)]at k;exact(h.first i a y k c j I).imp (·.app _) id
 .rcases getElem?_append_cases D with⟨_,w⟩|⟨_,x⟩
  .exact h.later i A a y w k c
  .rw[l _ x]at k;cases k
def ry{t u g}(h:∀a∈u,a.act≠.mark .disable/\a.act≠.mark .enable):Deaf (t++u) g=Deaf t g:=by
 obtain⟨l,rfl⟩:∃l:List MemOp,u=l.toArray:=⟨u.toList,by simp⟩;rw[Deaf_append];have:∀(l:List MemOp) (d:Nat),(∀a∈l,a.act≠.mark .disable/\a.act≠.mark .enable)->l.foldl (deafStep g) d=d:=by
  intro l;induction l with
  |nil=>intro d _;rfl
  |cons x l c=>
   intro d h;have e:=h x (by simp);have:deafStep g d x=d:=by unfold deafStep;split<;>simp_all
   rw[a6D,this];exact c d λa b=>h a (by simp[b])
 exact this l _ λa b=>h a (by simpa using b)
section
variable{C:aI}{p:cC C}{s s':St}{v v':aa}{R t u:aY}{gs:Array aw}{B B':Nat}
def A3(h:C.dL s B)(w:∀c,C.SB c->c<C.B0):(C.places s).Ok (cK C.SB):=by
 obtain⟨q,x,A⟩:=h.sh;have E:=h.ge;have n:∀{c i:Nat},s.cls c=.wk i->C.B0<=c:=fun {c i} z=>by apply fx;intro F;rw[h.old c (by omega)]at z;cases z
 have d:∀{i:Nat} {l:Loc},C.mine i (s.own i) l->¬C.common l/\¬C.lJ l/\¬cK C.SB l:=by
  intro i l f;cases l with
  |cell a=>
   obtain f|rfl:=f
   .have:=n f;refine⟨?_,?_,λm=>by have:=w _ m;omega⟩
    .rintro(⟨r,_⟩|rfl|rfl)
     .omega
     .simp only[St.own,q]at f;cases f
     .simp only[St.own,q]at f;cases f
    .rintro((e|e|e|e)|e)
     .cases e;simp only[St.own,q]at f;cases f
     .cases e;simp only[St.own,q]at f;cases f
     .cases e;simp only[St.own,q]at f;cases f
     .cases e;simp only[St.own,q]at f;cases f
     .cases e
   .refine⟨?_,?_,λm=>by have:=w _ m;simp only at this;omega⟩
    .rintro(⟨r,_⟩|e|e)
     .simp only at r;omega
     .simp only[Addr.mk.injEq]at e;omega
     .simp only[Addr.mk.injEq]at e;omega
    .rintro((e|e|e|e)|e)
     .simp only[Loc.cell.injEq,Addr.mk.injEq]at e;omega
     .simp only[Loc.cell.injEq,Addr.mk.injEq]at e;omega
     .simp only[Loc.cell.injEq,Addr.mk.injEq]at e;omega
     .simp only[Loc.cell.injEq,Addr.mk.injEq]at e;omega
     .cases e
  |obj b=>
   have:=n f;refine⟨λz=>?_,?_,id⟩
   .have:=z.1;omega
   .rintro((e|e|e|e)|e)
    .cases e
    .cases e
    .cases e
    .cases e
    .cases e;simp only[aI.mine,St.own,A]at f;cases f
  |_=>exact f.elim
 refine⟨?_,?_,?_,?_,?_,?_,?_⟩
 .rintro i j l ⟨D,rfl,g⟩ ⟨H,rfl,k⟩;cases l with
  |cell a=>
   obtain g|rfl:=g
   .rcases k with k|rfl
    .simp only[St.own]at g k;rw[g]at k;cases k;rfl
    .simp only[St.own,x]at g;cases g
   .rcases k with k|e
    .simp only[St.own,x]at k;cases k
    .simp only[Addr.mk.injEq,true_and,and_true]at e;rw[e]
  |obj b=>simp only[aI.mine,St.own]at g k;rw[g]at k;cases k;rfl
  |_=>exact g.elim
 .rintro i l ⟨D,_,g⟩;exact(d g).1
 .rintro i l ⟨D,_,g⟩;exact(d g).2.1
 .intro l y o;obtain o|rfl:=o
  .rcases o with rfl|rfl|rfl|rfl<;>(obtain⟨r,_⟩|e|e:=y<;>first|(simp only at r;omega)|(simp only[Addr.mk.injEq]at e;omega))
  .have:=y.1;omega
 .rintro i l ⟨D,_,g⟩;exact(d g).2.2
 .intro l y m;cases l with
  |cell a=>
   obtain⟨_,r⟩|rfl|rfl:=y
   .exact r m
   .have:=w _ m;simp only at this;omega
   .have:=w _ m;simp only at this;omega
  |obj b=>exact m
  |_=>exact y
 .intro l o m;obtain o|rfl:=o
  .rcases o with rfl|rfl|rfl|rfl<;>(have:=w _ m;simp only at this;omega)
  .exact m
def FM(h:∀i c,s.own i c->s'.own i c){g a}(d:(C.places s).may g a):(C.places s').may g a:=by
 obtain⟨i,e,d⟩|d|d:=d
 .refine .inl ⟨i,e,?_⟩;revert d;cases a.loc with
  |cell a=>exact Or.imp (h _ _) id
  |obj b=>exact h _ _
  |_=>exact id
 .exact .inr (.inl d)
 .exact .inr (.inr d)
def A5(h:C.fU s R t B):R.size<=t.size:=by obtain⟨u,rfl⟩:=h.pre;simp
def BK(I:0<C.N0)(h:C.fU s R t B)(z:(C.places s').Ok (cK C.SB))(A:B<=B')(k:s'.sp.aW C.n=s.sp.aW C.n)(m:∀i c,s.own i c->s'.own i c){j}(o:C.mem s j)(q:∀b∈u,b.g=j)(D:∀b∈u,∀a,b.act.touch?=some a->a.loc.isMemory=true->(C.places s').may j a)(E:∀b∈u,b.act.low B')(F:∀b∈u,b.act≠.mark (.release (C.ca 4)))(hrel:∀i,i<C.n->(s'.ph i).said=true->C.Rel (t++u) i):C.fU s' R (t++u) B':=by
 have r:=A5 h;refine⟨?_,?_,?_,?_,?_,?_,hrel⟩
 .obtain⟨w,rfl⟩:=h.pre;exact⟨w++u,by simp[fQ]⟩
 .refine gz.app z (h.qI.mono (λg a=>FM m) (λi l=>?_)) r (by simpa[aI.mem,k]using o) q D;simpa[aI.mem,k]using l
 .intro i b l f h0 x;obtain⟨_,d⟩|⟨_,e⟩:=getElem?_append_cases f
  .exact h.elder i b l d h0 x
  .rw[q b e]at h0 x;obtain rfl|o:=o
   .omega
   .omega
 .intro i b l f;rw[k];obtain⟨_,d⟩|⟨_,e⟩:=getElem?_append_cases f
  .exact h.born i b l d
  .rw[q b e];obtain rfl|o:=o
   .omega
   .omega
 .intro i l;obtain⟨b,H,y⟩:=fA.1 l;obtain⟨_,d⟩|⟨_,e⟩:=getElem?_append_cases H
  .exact h.norel i (by rw[Trace.act?,d];simp[y])
  .exact F b e y
 .exact seen_app (λb f=>MemAct.low_mono A (h.low b f)) E
end
section
variable{C:aI}{p:cC C}{s s':St}{v v':aa}{t0 t u:aY}{gs:Array aw}{B B':Nat}
def qJ(h:C.fU s t0 t B)(r:B<=B')(k:s'.sp.aW C.n=s.sp.aW C.n)(l:∀i c,s.own i c->s'.own i c)(m:∀b∈u,b.act.touch?=none)(x:∀b∈u,b.g<C.N0+s.sp.aW C.n)(y:∀b∈u,b.act.low B')(z:∀b∈u,b.act≠.mark (.release (C.ca 4)))(hrel:∀i,i<C.n->(s'.ph i).said=true->C.Rel (t++u) i):C.fU s' t0 (t++u) B':=by
 have o:=A5 h;refine⟨?_,?_,?_,?_,?_,?_,hrel⟩
 .obtain⟨w,rfl⟩:=h.pre;exact⟨w++u,by simp[fQ]⟩
 .refine gz.still (h.qI.mono (λg a=>FM l) (λi j=>?_)) o m;simpa[aI.mem,k]using j
 .intro i b j f h0 A;obtain⟨_,d⟩|⟨_,e⟩:=getElem?_append_cases f
  .exact h.elder i b j d h0 A
  .exact m b e
 .intro i b j f;rw[k];obtain⟨_,d⟩|⟨_,e⟩:=getElem?_append_cases f
  .exact h.born i b j d
  .exact x b e
 .intro i j;obtain⟨b,D,q⟩:=fA.1 j;obtain⟨_,d⟩|⟨_,e⟩:=getElem?_append_cases D
  .exact h.norel i (by rw[Trace.act?,d];simp[q])
  .exact z b e q
 .exact seen_app (λb f=>MemAct.low_mono r (h.low b f)) y
def lT(h:C.fU s t0 t B){i}(D:i<C.n)(E:(s.ph i).said=true)(q:∀b∈u,b.g=C.N0+i->b.act.touch?=none):C.Rel (t++u) i:=by
 obtain⟨x,F,j⟩:=h.rel i D E;refine⟨x,F.app λk r f H=>?_,λk b a r l f m=>?_⟩;rotate_left
 .rcases getElem?_append_cases l with⟨_,d⟩|⟨_,c⟩
  .exact j k b a r d f m
  .rw[q b c f]at m;cases m
 obtain⟨b,w,o⟩:=fA.1 f;obtain⟨I,_⟩|⟨_,c⟩:=getElem?_append_cases w
 .omega
 .obtain⟨y,J,_⟩:=H;obtain⟨z,A,e⟩:=touch_of J;rw[w]at A;cases A;rw[q b c o]at e;cases e
def xU(sp cR:SP):Prop:=cR=sp\/∃b,sp=.sb b/\cR=.sa b
def xU.fns{sp cR}(h:xU sp cR)(n):cR.aW n=sp.aW n/\cR.cM n=sp.cM n/\cR.made n=sp.made n/\cR.closed=sp.closed/\cR.deaf=sp.deaf:=by
 obtain rfl|⟨b,rfl,rfl⟩:=h
 .exact⟨rfl,rfl,rfl,rfl,rfl⟩
 .exact⟨rfl,rfl,rfl,rfl,rfl⟩
def St.cR(s:St)(b:Bool):St:={s with sp:=.sa b,m0:=0}
def uw{b}(h:C.dQ s)(n:s.sp=.sb b):C.dQ (s.cR b):=by
 obtain⟨o,j,c,d,f,a,g,q,k,r,l,w,x,i,s2,y⟩:=h;simp only[n,SP.aW,SP.cM,SP.closed]at j c d f a g i s2;refine⟨o,trivial,c,d,f,a,g,q,k,r,l,w,x,?_,?_,λb m e=>by cases e⟩
 .cases b
  .exact⟨i.1,i.2.1⟩
  .exact i
 .cases b
  .exact s2
  .exact⟨s2.1,s2.2.1⟩
def Fc{b}(h:p.Hp s v)(e:s.sp=.sb b):p.Hp (s.cR b) v:=by obtain⟨f,g,c,a,i,d⟩:=h;simp only[e,SP.made,SP.cM,SP.closed]at c d;exact⟨f,g,c,a,i,d⟩
def CP{b}(h:C.dL s B)(f:s.sp=.sb b):C.dL (s.cR b) B:=by obtain⟨c,sh,a,d,e,g⟩:=h;simp only[f,SP.made,SP.aW]at d e;exact⟨c,sh,a,d,e,g⟩
def a2q{b}(h:C.fU s t0 t B)(j:s.sp=.sb b):C.fU (s.cR b) t0 t B:=by obtain⟨f,e,c,a,d,g,rel⟩:=h;simp only[j,SP.aW]at a;refine⟨f,e.mono (λ_ _ h=>h) (λi k=>?_),c,a,d,g,rel⟩;simpa[aI.mem,j,SP.aW,St.cR]using k
def IY(a:p.Ok){d e}(h:p.fT s d e)(x x' w'):(woken C.P x x' w' e=e/\((∃b,s.sp=.sb b)->¬(mayWake C.P x=true/\x'.status=.running)))\/∃b,s.sp=.sb b/\d=1/\p.SA (o4 b) (woken C.P x x' w' e):=by
 unfold cC.fT at h;split at h
 .rename_i b j;obtain⟨w,g',g,rfl⟩:=h;obtain⟨q,r,_⟩:=a.sa _ _ g;by_cases l:(mayWake C.P x&&x'.status !=.blocked&&x'.status !=.waiting)=true
  .refine .inr ⟨b,j,w,?_⟩;have:woken C.P x x' w' {g' with status:=.blocked}=g':=by unfold woken;rw[if_pos l];obtain⟨f,c,D,E,of⟩:=g';simp only at q r;subst q r;rfl
   rw[this];exact g
  .refine .inl ⟨by unfold woken;rw[if_neg l],λ_ ⟨y,h2⟩=>l ?_⟩;rw[y,h2];rfl
 .rename_i n;obtain⟨g',z,o⟩:=h;have i:e.status=.running:=by
   refine lS z ?_;revert o;cases A:s.sp with
   |mk k=>exact λh=>(a.sI _ _ h).1
   |go k=>exact λh=>(a.go _ _ _ h).1
   |snd k=>exact λh=>(a.sn _ _ _ h).1
   |lw b=>exact λh=>(a.lw _ _ h).1
   |ca b m=>exact λh=>(a.ca _ _ _ h).1
   |sa b=>exact λh=>(a.sa _ _ h).1
   |sb b=>exact λh=>(a.sa _ _ h).1
   |ld b=>exact λh=>(a.ld _ _ h).1
   |aq b=>exact λh=>(a.aq _ _ h).1
   |cl=>exact λh=>(a.cl _ h).1
  exact .inl ⟨woken_run i,λ⟨b,j⟩=>absurd j (n b)⟩
def BF{d g0}(c:s'.sp=s.sp)(e:s'.m0=s.m0)(f:s'.cb=s.cb)(h:p.fT s d g0):p.fT s' d g0:=by
 unfold cC.fT at h⊢;rw[c,e];revert h;have b:∀a g,p.pt s a g->p.pt s' a g:=by intro a g;cases a<;>simp[cC.pt,f]
 split
 .exact id
 .rintro⟨i,j,h⟩;exact⟨i,j,b _ _ h⟩
def Jq(y:p.Ok)(z:C.dQ s)(q:p.Hp s' v')(c:xU s.sp s'.sp)(f:s'.cb=s.cb){k}(i:k<s.sp.aW C.n)(b:k<C.n){ρ m d O x w}(h:p.eU k (s.cb k) (s.ph k) ρ m O d x w)(g g'):woken C.P g g' v' x=x:=by
 obtain⟨j,H,rfl⟩|⟨_,A|⟨_,D⟩⟩:=nQ y h
 .have l:s.sp.closed=false:=by
   cases e:s.sp.closed with
   |false=>rfl
   |true=>
    have:=z.shut e k b;obtain o|o:=j
    .rw[o]at this;simp[Ph.num]at this
    .exact absurd o this.2
  obtain⟨_,_,E,F,_⟩:=c.fns C.n;have a:k<s'.sp.made C.n:=by rw[E];revert i;cases s.sp<;>simp[SP.aW,SP.made]<;>omega
  obtain⟨I,J,K,r⟩:=CH q a;rw[f]at r;exact Hg r (by have:=q.dc;rw[F,l]at this;exact this)
 .exact woken_run A
 .unfold woken;split
  .exact again_running _ (.inr D)
  .rfl
def gM(a:C.dQ s):s.sp.aW C.n<=C.n:=by have:=a.kI;cases h:s.sp<;>rw[h]at this<;>simp[SP.aW]at this⊢ <;>omega
def vR(hp:p.Ok)(I:p.Inv t0 s gs v t){i}(hi:i<s.sp.aW C.n){g g' es sl}(hg:gs[C.N0+i]?=some g)(ad:stepG C.P false g v=.go g' v' es)(N:∀k,k≠i->s'.ph k=s.ph k/\s'.rk k=s.rk k)(hq:∀j,j≠C.N0+i->s'.q j=s.q j)(A:s'.cb=s.cb)(U:∀k,k≠i->s'.own k=s.own k)(l:s'.sp=s.sp)(ae:s'.m0=s.m0)(hw:p.eU i (s.cb i) (s'.ph i) (s'.rk i) (s'.q (C.N0+i)) (s'.own i) (deafBehind (Deaf t (C.N0+i)) es) g' v')(ag:∀k,k≠i->C.Fr k (s.own k) v v')(O:p.Hp s' v')(H:C.dL s' v'.heap.size)(J:C.dQ s'\/(mayWake C.P g=true/\g'.status=.running/\∃b,s.sp=.sb b/\C.dQ (s'.cR b)))(V:C.fU s' t0 (t++MemOp.ofEvents (C.N0+i) g.frame.fn g.frame.place es) v'.heap.size)(Q:mh (C.dV s' (C.N0+i)) (C.dV s (C.N0+i))):∃m o a,runT C.P (crowd gs v sl) (C.N0+i)=(.next (crowd m v' sl),o)/\p.Inv t0 a m v' (t++o)/\C.Down a s:=by
 have W:=I.pos;have aP:i<C.n:=cG hi (gM I.ctl);have al:(C.N0+i==0)=false:=by simp;omega
 have ao:C.N0+i<gs.size:=(bW.1 hg).1;have r:=runT_crowd_go (P:=C.P) (sl:=sl) (i:=C.N0+i) hg (by rw[al];exact ad);have X:((gs.map (woken C.P g g' v')).setIfInBounds (C.N0+i) g').size=gs.size:=by simp
 have D:∀j,j≠C.N0+i->Deaf (t++MemOp.ofEvents (C.N0+i) g.frame.fn g.frame.place es) j=Deaf t j:=λj E=>Deaf_other t (g':=C.N0+i) (λe=>E e.symm) _ (λop aq=>by obtain⟨e,_,rfl⟩:=Go.Conc.mem_ofEvents aq;rfl);have c:∀j x,j≠C.N0+i->((gs.map (woken C.P g g' v')).setIfInBounds (C.N0+i) g')[j]?=some x->∃y,gs[j]?=some y/\x=woken C.P g g' v' y:=by intro j x E K;rw[di (λe=>E e.symm),fp]at K;obtain⟨y,Y,rfl⟩:=fA.1 K;exact⟨y,Y,rfl⟩
 obtain⟨g0,ar,Z⟩:=I.start;have L:∀a:St,a.ph=s'.ph->a.rk=s'.rk->a.q=s'.q->a.cb=s'.cb->a.cls=s'.cls->a.sp.aW C.n=s.sp.aW C.n->p.Hp a v'->C.dL a v'.heap.size->C.dQ a->C.fU a t0 (t++MemOp.ofEvents (C.N0+i) g.frame.fn g.frame.place es) v'.heap.size->
   p.fT a (Deaf t 0) (woken C.P g g' v' g0)->p.Inv t0 a ((gs.map (woken C.P g g' v')).setIfInBounds (C.N0+i) g') v' (t++MemOp.ofEvents (C.N0+i) g.frame.fn g.frame.place es):=by
  intro a e1 e2 e3 e4 e5 e6 h1 h2 h3 h4 h5;refine⟨W,by rw[X,e6];exact I.size,⟨woken C.P g g' v' g0,?_,by rw[D 0 (by omega)];exact h5⟩,?_,?_,?_,h1,h2,h3,h4⟩
  .rw[di (by omega),fp,ar];rfl
  .intro j x ab F K;obtain⟨y,Y,rfl⟩:=c j x (by omega) K;have hQ:=I.elder j y ab F Y;rw[woken_quitsD hQ,D j (by omega),e3,hq j (by omega)];exact hQ
  .intro k x hk K;rw[e6]at hk;have au:k<C.n:=cG hk (gM I.ctl);have w:a.own k=s'.own k:=by unfold St.own;rw[e5]
   by_cases z:k=i
   .subst z;rw[j8 (by simpa using ao)]at K;obtain rfl:=dk K;rw[e1,e2,e3,e4,w,A,Deaf_own];exact hw
   .obtain⟨y,Y,rfl⟩:=c (C.N0+k) x (by omega) K;have hW:=I.work k y hk Y;rw[Jq hp I.ctl O (.inl l) A hk au hW g g',D _ (by omega),e1,e2,e3,e4,w,A,(N k z).1,(N k z).2,hq _ (by omega),U k z];exact pn hp hW (ag k z)
  .intro j E;rw[X]at E;rw[D j (by omega)];exact I.above j E
 have d:∀a:St,a.ph=s'.ph->a.rk=s'.rk->a.q=s'.q->C.Down a s:=by
  intro a e1 e2 e3;have er:C.dV a=C.dV s':=by funext j;simp[aI.dV,e1,e2,e3]
  refine .inl (pT (i:=C.N0+i) (by omega) (by rw[er];exact Q) λj E=>?_);rw[er];unfold aI.dV;by_cases F:j<C.N0
  .simp only[F,if_true,hq j E]
  .have:=N (j - C.N0) (by omega);simp only[F,if_false,this.1,this.2,hq j E]
 have R:∀b,s.sp=.sb b->C.dQ (s'.cR b)->Deaf t 0=1->p.SA (o4 b) (woken C.P g g' v' g0)->∃m o a,runT C.P (crowd gs v sl) (C.N0+i)=(.next (crowd m v' sl),o)/\p.Inv t0 a m v' (t++o)/\C.Down a s:=by
  intro b M hc hd S;have f:s'.sp=.sb b:=by rw[l,M]
  refine⟨_,_,s'.cR b,r,L (s'.cR b) rfl rfl rfl rfl rfl (by simp[St.cR,SP.aW,M]) (Fc O f) (CP H f) hc (a2q V f) ?_,d _ rfl rfl rfl⟩;exact⟨_,by rw[hd];exact .nil,S⟩
 obtain⟨T,av⟩|⟨b,M,hd,S⟩:=IY hp Z g g' v'
 .have hc:C.dQ s':=by
   obtain h|⟨h1,h2,b,M,_⟩:=J
   .exact h
   .exact absurd ⟨h1,h2⟩ (av ⟨b,M⟩)
  exact⟨_,_,s',r,L s' rfl rfl rfl rfl rfl (by rw[l]) O H hc V (by rw[T];exact BF l ae A Z),d s' rfl rfl rfl⟩
 .refine R b M ?_ hd S;obtain h|⟨_,_,b',f,h⟩:=J
  .exact uw h (by rw[l,M])
  .rw[M]at f;cases f;exact h
end
end Go.Mir
end
