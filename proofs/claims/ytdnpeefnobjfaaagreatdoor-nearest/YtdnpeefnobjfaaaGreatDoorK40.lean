import Derived.Test.YtdnpeefnobjfaaaGreatDoorK35
import Derived.Test.YtdnpeefnobjfaaaGreatDoorK39
set_option maxRecDepth 100000
set_option maxHeartbeats 4000000
set_option linter.all false
section
namespace Go.Mir
open Go Go.Conc
def aI.oH(C:aI)(l:Loc):Prop:=l=.cell ⟨C.r,1,none⟩\/l=.cell ⟨C.r,2,none⟩\/l=.cell ⟨C.r,4,none⟩\/l=.cell ⟨C.r,5,none⟩
def aI.mD(C:aI)(l:Loc):Prop:=C.oH l\/l=.obj C.dc
structure aI.dS (C:aI) (e:aT):Prop where
 touch:∀x,(MemAct.ofEvent e).touch?=some x->x.loc.isMemory=true->(C.common x.loc/\x.write=false)\/(C.mD x.loc/\x.kind=.said)
 low:(MemAct.ofEvent e).low (C.r+1)
 norel:e.loc≠.mark (.release ⟨C.r,4,none⟩)
def j5(e:aT):Prop:=Event.mute e=true
def kn(C:aI)(o:Nat):aT:=⟨.cell ⟨C.r,o,none⟩,false,true⟩
def jU(C:aI)(o:Nat):aT:=⟨.cell ⟨C.r,o,none⟩,true,true⟩
def aI.ca(C:aI)(o:Nat):aF:=⟨C.r,o,none⟩
structure ci (C:aI) where
 tv:aj
 zS:aj
 zT:aj
 zD:aj
 MK:Nat->aw->Prop
 GO:Nat->Nat->aw->Prop
 SN:Nat->Nat->aw->Prop
 LW:Nat->aw->Prop
 CA:Nat->Nat->aw->Prop
 SA:Nat->aw->Prop
 LD:Nat->aw->Prop
 AQ:Nat->aw->Prop
 CL:aw->Prop
 FN:aw->Prop
 S1:Nat->Nat->aw->Prop
 AD:Nat->Nat->Nat->aw->Prop
 LA:Nat->Nat->Nat->aw->Prop
 LB:Nat->Nat->Nat->aw->Prop
 LC:Nat->Nat->Nat->aw->Prop
 S2:Nat->Nat->aw->Prop
 RL:Nat->Nat->aw->Prop
 TD:Nat->(Nat->Prop)->aa->Prop
section
variable{C:aI}(p:ci C)
def ci.cases(c:Nat):Array CommCase:=#[rcase c p.zT,rcase C.dc p.zD]
def ci.Au(i c:Nat):kP:=λ_ d g _=>p.S1 i c g/\d=0
def ci.wQ(i c:Nat):kP:=λO d g v=>p.AD 1 i c g/\d=1/\p.TD i O v
def ci.wR(i c:Nat):kP:=λO d g v=>p.S2 i c g/\d=0/\p.TD i O v
def ci.As(i c:Nat):kP:=λO d g v=>p.RL i c g/\d=0/\p.TD i O v
structure ci.Ok:Prop where
 td:∀i O v v',p.TD i O v->C.Fr i O v v'->p.TD i O v'
 vD:∀k g,p.MK k g->g.status=.running/\∃g1:Nat->aw,(∀v,C.Shape v->stepG C.P true g v=.go (g1 v.heap.size) {v with heap:=v.heap.push (.chan 1 #[] false 0 0 false)} #[])/\∀c,(g1 c).status=.running/\C.To true C.dS 0 (g1 c) 0 (p.GO k c)
 go:∀k c g,p.GO k c g->g.status=.running/\∃g1 g2,(∀v,stepG C.P true g v=.spawn g1 g2 v #[])/\C.To true C.dS 0 g1 0 (p.SN k c)/\∀v,C.Shape v->C.fk k (p.Au k c) (λ_=>False) 0 g2 v
 sn:∀k c g,p.SN k c g->g.status=.running/\(∀v,stepG C.P true g v=.comm g #[scase c p.tv p.zS] true .send v #[])/\(k+1<C.n->C.To true C.dS 0 (g.finishComm C.P #[scase c p.tv p.zS] .send 0 undef false) 0 (p.MK (k+1)))/\(k+1=C.n->C.To true C.dS 0 (g.finishComm C.P #[scase c p.tv p.zS] .send 0 undef false) 1 (p.LW 1))
 lw:∀o g,p.LW o g->g.status=.running/\∃g1:Int->aw,(∀v s,v.cell? (C.ca o)=some (.int .u64 s)->stepG C.P true g v=.go (g1 s) v #[kn C o])/\(g1 0).status=.running/\C.To true C.dS 1 (g1 0) 0 (p.AQ o)/\∀m:Nat,1<=m->m<=8->(g1 (m*KK)).status=.running/\C.To true C.dS 1 (g1 (m*KK)) 1 (p.CA o m)
 ca:∀o m g,p.CA o m g->g.status=.running/\∃g2 g3,(∀v,v.cell? (C.ca o)=some (.int .u64 (m*KK))->v.frozen? (C.ca o)=false->stepG C.P true g v=.go g2 (v.setCell (C.ca o) (.int .u64 (m*KK+1))) #[kn C o,jU C o])/\
  (∀v x,v.cell? (C.ca o)=some (.int .u64 x)->v.frozen? (C.ca o)=false->¬x=m*KK->stepG C.P true g v=.go g3 v #[kn C o])/\(g2.status=.running/\C.To true C.dS 1 g2 1 (p.SA o))/\(g3.status=.running/\C.To true C.dS 1 g3 1 (p.LW o))
 sa:∀o g,p.SA o g->g.status=.running/\g.offers=none/\∃g4,(∀v x,v.cell? (C.ca (o+1))=some (.int .u32 x)->x≠0->v.frozen? (C.ca (o+1))=false->stepG C.P true g v=.go g4 (v.setCell (C.ca (o+1)) (.int .u32 (x - 1))) (semEvents (C.ca (o+1))))/\
  (∀v,v.cell? (C.ca (o+1))=some (.int .u32 0)->stepG C.P true g v=.go {g with status:=.blocked} v #[])/\g4.status=.running/\C.To true C.dS 1 g4 1 (p.LD o)
 ld:∀o g,p.LD o g->g.status=.running/\∃g5,(∀v,v.cell? (C.ca o)=some (.int .u64 0)->stepG C.P true g v=.go g5 v #[kn C o])/\g5.status=.running/\C.To true C.dS 1 g5 0 (p.AQ o)
 aq:∀o g,p.AQ o g->g.status=.running/\∃g6,(∀v,C.Shape v->stepG C.P true g v=.go g6 v #[⟨.mark (.acquire (C.ca o)),false,true⟩])/\g6.status=.running/\(o=1->C.To true C.dS 0 g6 0 p.CL)/\(o=4->p.FN g6)
 cl:∀g,p.CL g->g.status=.running/\mayWake C.P g=true/\∃g7,g7.status=.running/\(∀v,v.heap[C.dc]?=some (.chan 0 #[] false 0 0 false)->stepG C.P true g v=.go g7 (v.setChan C.dc 0 #[] true 0 0 false) #[⟨.obj C.dc,false,true⟩,⟨.obj C.dc,true,true⟩])/\C.To true C.dS 0 g7 1 (p.LW 4)
 s1:∀i c g,p.S1 i c g->g.status=.running/\(∀v,stepG C.P false g v=.comm g (p.cases c) true .select v #[])/\∀O v,C.Shape v->C.Own O v->C.fk i (p.wQ i c) O 0 (g.finishComm C.P (p.cases c) .select 0 p.tv true) v
 ad:∀o i c g,p.AD o i c g->g.status=.running/\∃g1:Int->aw,(∀v s,v.cell? (C.ca o)=some (.int .u64 s)->v.frozen? (C.ca o)=false->stepG C.P false g v=.go (g1 (IntKind.u64.wrap (s+18446744069414584320))) (v.setCell (C.ca o) (.int .u64 (IntKind.u64.wrap (s+18446744069414584320)))) #[kn C o,jU C o])/\
  ((g1 1).status=.running/\C.To false j5 1 (g1 1) 1 (p.LA o i c))/\(o=1->∀m b:Nat,m<=7->b<=1->¬(m=0/\b=1)->(g1 (m*KK+b)).status=.running/\∀O v,C.Shape v->C.Own O v->p.TD i O v->C.fk i (p.wR i c) O 1 (g1 (m*KK+b)) v)/\(o=4->∀m b:Nat,m<=7->b<=1->¬(m=0/\b=1)->(g1 (m*KK+b)).status=.running/\∃q,QuitsD C.P q 1 (g1 (m*KK+b)))
 la:∀o i c g,p.LA o i c g->g.status=.running/\∃g1,(∀v,v.cell? (C.ca o)=some (.int .u64 1)->stepG C.P false g v=.go g1 v #[kn C o])/\g1.status=.running/\C.To false j5 1 g1 1 (p.LB o i c)
 lb:∀o i c g,p.LB o i c g->g.status=.running/\∃g1,(∀v x,v.cell? (C.ca o)=some x->v.frozen? (C.ca o)=false->stepG C.P false g v=.go g1 (v.setCell (C.ca o) (.int .u64 0)) #[jU C o])/\g1.status=.running/\C.To false j5 1 g1 1 (p.LC o i c)
 lc:∀o i c g,p.LC o i c g->g.status=.running/\mayWake C.P g=true/\∃g1,g1.status=.running/\(∀v x,v.cell? (C.ca (o+1))=some (.int .u32 x)->v.frozen? (C.ca (o+1))=false->stepG C.P false g v=.go g1 (v.setCell (C.ca (o+1)) (.int .u32 (IntKind.u32.wrap (x+1)))) (semEvents (C.ca (o+1))))/\
  (o=1->∀O v,C.Shape v->C.Own O v->p.TD i O v->C.fk i (p.wR i c) O 1 g1 v)/\(o=4->∃q,QuitsD C.P q 1 g1)
 s2:∀i c g,p.S2 i c g->g.status=.running/\(∀v,stepG C.P false g v=.comm g (p.cases c) true .select v #[])/\∀O v,C.Shape v->C.Own O v->p.TD i O v->C.fk i (p.As i c) O 0 (g.finishComm C.P (p.cases c) .select 1 p.zD false) v
 rl:∀i c g,p.RL i c g->g.status=.running/\∃g1,(∀v,stepG C.P false g v=.go g1 v #[⟨.mark (.releaseMerge (C.ca 4)),false,true⟩])/\g1.status=.running/\C.To false j5 0 g1 1 (p.AD 4 i c)
end
inductive Ph|unborn|ready|park1|work|la1|lb1|lc1|dP|park2|wok2|fin|hush|la2|lb2|lc2|leave
 deriving DecidableEq
inductive SP|mk (k:Nat)|go (k:Nat)|snd (k:Nat)|lw (b:Bool)|ca (b:Bool) (m:Nat)|sa (b:Bool)|sb (b:Bool)|ld (b:Bool)|aq (b:Bool)|cl
 deriving DecidableEq
inductive Gp|idle|reg|la (i:Nat)|lb (i:Nat)|lc (i:Nat)|rel|over
 deriving DecidableEq
inductive Cl|old|sh|wk (i:Nat)|ch (i:Nat)|free
 deriving DecidableEq
def Ph.num:Ph->Nat
 | .unborn=>15| .ready=>14| .park1=>13| .work=>12| .la1=>11| .lb1=>10| .lc1=>9| .dP=>8| .park2=>7| .wok2=>6| .fin=>5| .hush=>4| .la2=>3| .lb2=>2| .lc2=>1| .leave=>0
def Ph.cX(p:Ph):Bool:=decide (12<=p.num)
def Ph.cY(p:Ph):Bool:=decide (4<=p.num)
def Ph.cC(p:Ph):Bool:=decide (p.num<=12)
def Ph.said(p:Ph):Bool:=decide (p.num<=4)
def o4(b:Bool):Nat:=cond b 4 1
def SP.aU(n:Nat):SP->Nat
 | .mk k=>k| .go k=>k| .snd k=>k+1|_=>n
def SP.cB(n:Nat):SP->Nat
 | .mk k=>k| .go k=>k| .snd k=>k|_=>n
def SP.made(n:Nat):SP->Nat
 | .mk k=>k| .go k=>k+1| .snd k=>k+1|_=>n
def SP.closed:SP->Bool
 | .lw b| .ca b _| .sa b| .sb b| .ld b| .aq b=>b
 |_=>false
def SP.deaf:SP->Nat
 | .lw _| .ca _ _| .sa _| .sb _| .ld _=>1
 |_=>0
def Gp.st(G:Gp)(a:Nat):Int:=match G with
 | .idle=>a*KK| .reg=>a*KK+1| .la _| .lb _=>1|_=>0
def Gp.sm:Gp->Int
 | .rel=>1|_=>0
def Gp.zz(G:Gp)(a:Nat):Prop:=match G with
 | .idle=>True| .reg=>0<a|_=>a=0
def SP.jH(sp:SP)(G:Gp):Prop:=match sp with
 | .mk _| .go _| .snd _| .lw false| .ca false _=>G=.idle
 | .sa false=>G≠.idle/\G≠.over
 | .sb false=>G≠.idle/\G≠.over/\G≠.rel
 |_=>G=.over
def SP.lj(sp:SP)(G:Gp):Prop:=match sp with
 | .sa true=>G≠.idle/\G≠.over
 | .sb true=>G≠.idle/\G≠.over/\G≠.rel
 | .ld true| .aq true=>G=.over
 |_=>G=.idle
def cnt(f:Nat->Bool):Nat->Nat
 |0=>0
 |n+1=>cnt f n+(f n).toNat
structure St where
 sp:SP
 m0:Nat
 ph:Nat->Ph
 rk:Nat->Rk
 q:Nat->Nat
 cb:Nat->Nat
 cls:Nat->Cl
 G1:Gp
 G2:Gp
def St.own(s:St)(i:Nat):Nat->Prop:=λc=>s.cls c=.wk i
def aI.a1(C:aI)(s:St):Nat:=cnt (λi=>(s.ph i).cX) C.n
def aI.a2(C:aI)(s:St):Nat:=cnt (λi=>(s.ph i).cY) C.n
section
variable{C:aI}(p:ci C)
def ci.pt(s:St):SP->aw->Prop
 | .mk k=>p.MK k| .go k=>p.GO k (s.cb k)| .snd k=>p.SN k (s.cb k)| .lw b=>p.LW (o4 b)| .ca b m=>p.CA (o4 b) m| .sa b=>p.SA (o4 b)| .sb b=>p.SA (o4 b)| .ld b=>p.LD (o4 b)| .aq b=>p.AQ (o4 b)| .cl=>p.CL
def ci.fX(s:St)(d:Nat)(g:aw):Prop:=match s.sp with
 | .sb b=>d=1/\∃a,p.SA (o4 b) a/\g={a with status:=.blocked}
 |sp=> ∃a,C.Quiet true C.dS s.m0 d g sp.deaf a/\p.pt s sp a
def ci.fa(i c:Nat)(ph:Ph)(ρ:Rk)(m:Nat)(O:Nat->Prop)(d:Nat)(g:aw)(v:aa):Prop:=match ph with
 | .unborn=>False
 | .ready=>C.Way i (p.Au i c) ρ O d g v
 | .park1=> ∃a,p.S1 i c a/\g=parked a (p.cases c) .select/\d=0
 | .work=>C.Way i (p.wQ i c) ρ O d g v
 | .la1=>p.TD i O v/\∃a,C.Quiet false j5 m d g 1 a/\p.LA 1 i c a
 | .lb1=>p.TD i O v/\∃a,C.Quiet false j5 m d g 1 a/\p.LB 1 i c a
 | .lc1=>p.TD i O v/\∃a,C.Quiet false j5 m d g 1 a/\p.LC 1 i c a
 | .dP=>C.Way i (p.wR i c) ρ O d g v
 | .park2=>p.TD i O v/\∃a,p.S2 i c a/\g=parked a (p.cases c) .select/\d=0
 | .wok2=>p.TD i O v/\∃a,p.S2 i c a/\g={parked a (p.cases c) .select with status:=.running}/\d=0
 | .fin=>C.Way i (p.As i c) ρ O d g v
 | .hush=>p.TD i O v/\∃a,C.Quiet false j5 m d g 1 a/\p.AD 4 i c a
 | .la2=>p.TD i O v/\∃a,C.Quiet false j5 m d g 1 a/\p.LA 4 i c a
 | .lb2=>p.TD i O v/\∃a,C.Quiet false j5 m d g 1 a/\p.LB 4 i c a
 | .lc2=>p.TD i O v/\∃a,C.Quiet false j5 m d g 1 a/\p.LC 4 i c a
 | .leave=>p.TD i O v/\QuitsD C.P m d g
structure aI.dJ (C:aI) (s:St):Prop where
 n8:C.n<=8
 lF:match s.sp with| .mk k| .go k| .snd k=>k<C.n|_=>True
 born:∀i,i<C.n->(s.ph i=.unborn↔s.sp.aU C.n<=i)
 l9:∀i,i<C.n->s.ph i=.park1->s.sp.cB C.n<=i
 cC:∀i,i<C.n->(s.ph i).cC=true->i<s.sp.cB C.n
 opened:s.sp.closed=false->∀i,i<C.n->7<=(s.ph i).num
 shut:s.sp.closed=true->∀i,i<C.n->(s.ph i).num<=8/\s.ph i≠.park2
 g1:∀i,i<C.n->(s.ph i=.la1↔s.G1=.la i)/\(s.ph i=.lb1↔s.G1=.lb i)/\(s.ph i=.lc1↔s.G1=.lc i)
 eI:∀i,s.G1=.la i\/s.G1=.lb i\/s.G1=.lc i->i<C.n
 g2:∀i,i<C.n->(s.ph i=.la2↔s.G2=.la i)/\(s.ph i=.lb2↔s.G2=.lb i)/\(s.ph i=.lc2↔s.G2=.lc i)
 eJ:∀i,s.G2=.la i\/s.G2=.lb i\/s.G2=.lc i->i<C.n
 z1:s.G1.zz (C.a1 s)
 z2:s.G2.zz (C.a2 s)
 s1:s.sp.jH s.G1
 s2:s.sp.lj s.G2
 oI:∀b m,s.sp=.ca b m->1<=m/\m<=8
structure aI.dx (C:aI) (s:St) (B:Nat):Prop where
 old:∀c,c<C.B0->s.cls c=.old
 sh:s.cls C.r=.sh/\s.cls C.tb=.sh/\s.cls C.dc=.sh
 free:∀c,B<=c->s.cls c=.free
 ch:∀i,i<s.sp.made C.n->s.cls (s.cb i)=.ch i
 wk:∀c i,s.cls c=.wk i->i<s.sp.aU C.n
 ge:C.B0<=C.r/\C.B0<=C.tb/\C.B0<=C.dc/\C.r≠C.tb/\C.r≠C.dc/\C.tb≠C.dc
structure ci.Hp (s:St) (v:aa):Prop where
 rb:v.heap[C.r]?=some (C.fg (s.G1.st (C.a1 s)) s.G1.sm (s.G2.st (C.a2 s)) s.G2.sm)
 tb:∃tc,v.heap[C.tb]?=some (.cells tc C.tt)/\tc.size=C.n
 dc:v.heap[C.dc]?=some (.chan 0 #[] s.sp.closed 0 0 false)
 old:∀c,c<C.B0->v.heap[c]?=C.v0.heap[c]?
 os:oo v=oo C.v0
 ch:∀i,i<s.sp.made C.n->v.heap[s.cb i]?=some (if i<s.sp.cB C.n then (if (s.ph i).cC then .chan 1 #[] false 1 1 false else .chan 1 #[p.tv] false 1 0 false)else .chan 1 #[] false 0 0 false)
def aI.places(C:aI)(s:St):pO:=
 {own:=λg l=> ∃i,g=C.N0+i/\C.mine i (s.own i) l
  old:=C.common
  mD:=C.mD}
def aI.mem(C:aI)(s:St)(j:Nat):Prop:=j=0\/(C.N0<=j/\j<C.N0+s.sp.aU C.n)
def aI.Rel(C:aI)(t:bm)(i:Nat):Prop:=∃x,ConcN.RelBy (C.ca 4) t (C.N0+i) x/\∀k b a,x<k->t[k]?=some b->b.g=C.N0+i->b.act.touch?=some a->C.oH a.loc
structure aI.fY (C:aI) (s:St) (t0 t:bm) (B:Nat):Prop where
 pre:∃u,t=t0++u
 tF:gI (C.places s) (cn C.SB) t0.size (C.mem s) t
 elder:∀i op,t0.size<=i->t[i]?=some op->0<op.g->op.g<C.N0->op.act.touch?=none
 born:∀i op,t0.size<=i->t[i]?=some op->op.g<C.N0+s.sp.aU C.n
 norel:NoRelease (C.ca 4) t
 low:∀op∈t,op.act.low B
 rel:∀i,i<C.n->(s.ph i).said=true->C.Rel t i
structure ci.Inv (t0:bm) (s:St) (gs:Array aw) (v:aa) (t:bm):Prop where
 pos:0<C.N0
 size:gs.size=C.N0+s.sp.aU C.n
 start:∃g,gs[0]?=some g/\p.fX s (Deaf t 0) g
 elder:∀j g,0<j->j<C.N0->gs[j]?=some g->QuitsD C.P (s.q j) (Deaf t j) g
 work:∀i g,i<s.sp.aU C.n->gs[C.N0+i]?=some g->p.fa i (s.cb i) (s.ph i) (s.rk i) (s.q (C.N0+i)) (s.own i) (Deaf t (C.N0+i)) g v
 above:∀j,gs.size<=j->Deaf t j=0
 hp:p.Hp s v
 cls:C.dx s v.heap.size
 ctl:C.dJ s
 gi:C.fY s t0 t v.heap.size
end
abbrev mA:=Nat×Rk×Nat
inductive ns:mA->mA->Prop
 |num {a b:Nat} {ρ ρ':Rk} {m m':Nat} (h:a<b):ns (a,ρ,m) (b,ρ',m')
 |tree {a:Nat} {f:aa->Rk} (x:aa) {m m':Nat}:ns (a,f x,m) (a,.node f,m')
 |step {a:Nat} {ρ:Rk} {m m':Nat} (h:m<m'):ns (a,ρ,m) (a,ρ,m')
def W5:∀x:mA,Acc ns x:=by
 rintro⟨a,ρ,m⟩;induction a using Nat.strongRecOn generalizing ρ m with
 |_ a d=>
  induction ρ generalizing m with
  |leaf=>
   induction m using Nat.strongRecOn with
   |_ m b=>
    refine⟨_,λy c=>?_⟩;cases c with
    |num h=>simp_all
    |step h=>simp_all
  |node f e=>
   induction m using Nat.strongRecOn with
   |_ m b=>
    refine⟨_,λy c=>?_⟩;cases c with
    |num h=>simp_all
    |tree x=>simp_all
    |step h=>simp_all
abbrev nn(n:Nat):=Relation.TransGen (wJ ns n)
def Tz(n:Nat)(f:Nat->mA):Acc (nn n) f:=Acc.transGen (Of n f λi _=>W5 _)
def sj{n i:Nat}{g f:Nat->mA}(a:i<n)(h:ns (g i) (f i))(b:∀j,j≠i->g j=f j):nn n g f:=.single ⟨i,a,h,b⟩
def TA:∀(n:Nat) (g f:Nat->mA),(∀j,j<n->g j=f j\/ns (g j) (f j))->(∀j,n<=j->g j=f j)->g=f\/nn n g f:=by
 have a:∀(N k:Nat) (g f:Nat->mA),k<=N->(∀j,j<k->g j=f j\/ns (g j) (f j))->(∀j,k<=j->g j=f j)->g=f\/nn N g f:=by
  intro N k;induction k with
  |zero=>grind
  |succ k l=>
   intro g f u o w;let m:Nat->mA:=λj=>if j=k then f k else g j
   have b:m=f\/nn N m f:=l m f a9h (λj h=>by
    grind) (λj h=>by
    grind)
   have c:∀j,j≠k->g j=m j:=λj h=>by grind
   have d:m k=f k:=by simp[m]
   obtain e|q:=o k a9h
   .have:g=m:=funext λj=>by
     grind
    rw[this];exact b
   .have r:nn N g m:=sj (i:=k) a9h (by rw[d];exact q) c;obtain e|b:=b
    .simp_all
    .exact .inr (.trans r b)
 exact λn g f=>a n n g f (az _)
def aI.dM(C:aI)(s:St)(j:Nat):mA:=if j<C.N0 then (0,.leaf,s.q j)else ((s.ph (j - C.N0)).num,s.rk (j - C.N0),s.q j)
def aI.stage(C:aI)(s:St):Nat:=match s.sp with
 | .mk k=>30+3*(C.n - k)| .go k=>29+3*(C.n - k)| .snd k=>28+3*(C.n - k)
 | .lw false=>21| .ca false m=>if (m:Int)*KK=s.G1.st (C.a1 s)then 20 else 22| .sa false=>19| .sb false=>18| .ld false=>17| .aq false=>16| .cl=>15
 | .lw true=>13| .ca true m=>if (m:Int)*KK=s.G2.st (C.a2 s)then 12 else 14| .sa true=>11| .sb true=>10| .ld true=>9| .aq true=>8
def aI.Down(C:aI)(s' s:St):Prop:=nn (C.N0+C.n) (C.dM s') (C.dM s)\/(C.dM s'=C.dM s/\(C.stage s'<C.stage s\/(C.stage s'=C.stage s/\s'.m0<s.m0)))
def QG(C:aI):∀s,Acc C.Down s:=by
 have c:∀(f:Nat->mA),Acc (nn (C.N0+C.n)) f->∀(a:Nat) (b:Nat) (s:St),C.dM s=f->C.stage s=a->s.m0=b->Acc C.Down s:=by
  intro f d;induction d with
  |intro f _ e=>
   intro a;induction a using Nat.strongRecOn with
   |_ a g=>
    intro b;induction b using Nat.strongRecOn with
    |_ b i=>
     intro s o q r;refine⟨_,λy j=>?_⟩;obtain h|⟨h,k|⟨k,l⟩⟩:=j
     all_goals grind
 exact λs=>c _ (Tz _ _) _ _ s rfl rfl rfl
def Qn{P:aA}{σ:Type}{r:σ->σ->Prop}(n:∀s,Acc r s){Inv:σ->Array aw->aa->bm->Prop}{Goal:Array aw->aa->bm->Prop}(f:∀m gs v t,Inv m gs v t->(∀g∈gs,awake g)/\∃(i:Nat) (g:aw),gs[i]?=some g/\g.status=.running)(e:∀m gs v t,Inv m gs v t->∀(i:Nat) (g:aw) (d:Nat) (sl:Option (Nat×Nat)),gs[i]?=some g->g.status=.running->∃a v' b,runT P (crowd gs (v.at d) sl) i=(.next (crowd a v' sl),b)/\(Goal a v' (t++b)\/∃h,Inv h a v' (t++b)/\r h m)):∀(m:σ) (gs:Array aw) (v:aa) (t:bm) (sl:Option (Nat×Nat)),Inv m gs v t->∃N a v' c t',runNT P N (crowd gs v sl) t=(.next (crowd a v' c),t')/\Goal a v' t':=by
 intro m gs v t sl hI;have o:=n m;induction o generalizing gs v t sl with
 |intro m _ q=>
  let ⟨haw,hrun⟩:=f m gs v t hI;let ⟨i,g,d,c,hi,hg,hst⟩:=crowd_pick (P:=P) (w:=v) (sl:=sl) haw hrun;let ⟨a,v',b,n,u⟩:=e m gs v t hI i g d c hi hg;obtain j|⟨h,k,l⟩:=u
  .exact⟨1,a,v',c,t++b,by grind[runNT],j⟩
  .let ⟨N,gs2,v2,sl2,t2,hr2,j⟩:=q h l a v' (t++b) c k;exact⟨N+1,gs2,v2,sl2,t2,by grind[runNT],j⟩
theorem oM{f g:Nat->Bool}:∀{n:Nat},(∀i,i<n->f i=g i)->cnt f n=cnt g n
 |0,_=>rfl
 |n+1,h=>by simp[cnt,h n (lK n),oM λi a=>h i (b0m a)]
theorem xj{f:Nat->Bool}:∀{n:Nat},cnt f n=0↔∀i,i<n->f i=false
 |0=>by simp[cnt]
 |n+1=>by
  simp only[cnt,Nat.add_eq_zero_iff,xj (n:=n)]
  grind
def E5{f:Nat->Bool}{n:Nat}(h:0<cnt f n):∃i,i<n/\f i=true:=by
 apply eQ
 grind[xj]
theorem ul(f:Nat->Bool):∀n:Nat,cnt f n<=n
 |0=>az _
 |n+1=>by have:=ul f n;cases h:f n<;>simp[cnt,h]<;>omega
theorem AU{f g:Nat->Bool}{i:Nat}(a:f i=true)(b:g i=false)(c:∀j,j≠i->g j=f j):∀{n:Nat},i<n->cnt f n=cnt g n+1
 |0,h=>absurd h (lL _)
 |n+1,h=>by
  by_cases e:i=n
  .grind[oM,cnt]
  .have:=AU a b c (n:=n) a9h
   grind[cnt]
section
variable{C:aI}{p:ci C}{s:St}{v v':aa}{B t:bm}{gs:Array aw}
def gA(h:p.Hp s v):C.Shape v:=⟨⟨_,_,_,_,h.rb⟩,h.tb,h.old,h.os,(bz.1 h.dc).1⟩
def a9p{b:Nat}{c:Array aj}{e:bD}{z:Nat×Nat}(h:v.heap[b]?=some (.cells c e z))(o:Nat):v.cell? ⟨b,o,none⟩=c[o]? :=by simp[World.cell?,h]
def uP{b:Nat}{c:Array aj}{e:bD}(h:v.heap[b]?=some (.cells c e))(o:Nat):v.frozen? ⟨b,o,none⟩=false:=by simp[World.frozen?,h]
def gz{b:Nat}{c:Array aj}{e:bD}(h:v.heap[b]?=some (.cells c e))(o:Nat)(x:aj):(v.setCell ⟨b,o,none⟩ x).heap[b]?=some (.cells (c.setIfInBounds o x) e):=by simp[World.setCell,kD,h]
def qW{b c o:Nat}{x:aj}(h:c≠b):(v.setCell ⟨b,o,none⟩ x).heap[c]?=v.heap[c]? :=by have:b≠c:=λe=>h e.symm;simp[World.setCell,kD,this]
def Hp.pV(h:p.Hp s v):v.cell? (C.ca 1)=some (.int .u64 (s.G1.st (C.a1 s))):=(a9p h.rb 1).trans rfl
def Hp.AP(h:p.Hp s v):v.cell? (C.ca 2)=some (.int .u32 s.G1.sm):=(a9p h.rb 2).trans rfl
def Hp.pW(h:p.Hp s v):v.cell? (C.ca 4)=some (.int .u64 (s.G2.st (C.a2 s))):=(a9p h.rb 4).trans rfl
def Hp.AR(h:p.Hp s v):v.cell? (C.ca 5)=some (.int .u32 s.G2.sm):=(a9p h.rb 5).trans rfl
def Hp.thaw(h:p.Hp s v)(o:Nat):v.frozen? (C.ca o)=false:=uP h.rb o
def yb(a:C.Shape v')(b:v.heap.size<=v'.heap.size){i:Nat}{O:Nat->Prop}(d:∀c,O c->v'.heap[c]?=v.heap[c]?)(e:v'.heap[C.tb]?=v.heap[C.tb]?):C.Fr i O v v':=
 ⟨b,d,λj f g h=>by rw[e,g]at h;simp_all,a⟩
theorem rn(b:p.Ok){i c:Nat}{ph:Ph}{ρ:Rk}{m d:Nat}{O:Nat->Prop}{g:aw}(h:p.fa i c ph ρ m O d g v)(a:C.Fr i O v v'):p.fa i c ph ρ m O d g v':=by
 have e:C.tW i (p.Au i c):=λ_ _ _ _ _ h _=>h;have f:C.tW i (p.wQ i c):=λ_ _ _ _ _ h a=>⟨h.1,h.2.1,b.td _ _ _ _ h.2.2 a⟩;have j:C.tW i (p.wR i c):=λ_ _ _ _ _ h a=>⟨h.1,h.2.1,b.td _ _ _ _ h.2.2 a⟩;have k:C.tW i (p.As i c):=λ_ _ _ _ _ h a=>⟨h.1,h.2.1,b.td _ _ _ _ h.2.2 a⟩;cases ph with
 |unborn=>exact h
 |ready=>exact z7 e h a
 |park1=>exact h
 |work=>exact z7 f h a
 |dP=>exact z7 j h a
 |fin=>exact z7 k h a
 |_=>exact⟨b.td _ _ _ _ h.1 a,h.2⟩
def Aa{i:Nat}{A:kP}{ρ:Rk}{O:Nat->Prop}{d:Nat}{g:aw}(a:∀O d g v,A O d g v->g.status=.running)(h:C.Way i A ρ O d g v):g.status=.running:=by
 cases ρ with
 |leaf=>exact a _ _ _ _ h
 |node f=>exact h.1
def mP{main:Bool}{E:aT->Prop}{m d a:Nat}{g g':aw}(h:C.Quiet main E m d g a g')(b:g'.status=.running):g.status=.running:=by
 cases h with
 |nil=>exact b
 |cons e c _ _ _=>exact c
theorem pz(a:p.Ok){i c:Nat}{ph:Ph}{ρ:Rk}{m d:Nat}{O:Nat->Prop}{g:aw}(h:p.fa i c ph ρ m O d g v):((ph=.park1\/ph=.park2)/\∃b,g=parked b (p.cases c) .select)\/((ph≠.park1/\ph≠.park2)/\(g.status=.running\/(ph=.leave/\g.status=.finished))):=by
 cases ph with
 |unborn=>exact h.elim
 |park1=>obtain⟨b,_,h,_⟩:=h;grind
 |park2=>obtain⟨_,b,_,h,_⟩:=h;grind
 |ready=>exact .inr ⟨a9j,.inl (Aa (λ_ _ _ _ h=>(a.s1 _ _ _ h.1).1) h)⟩
 |work=>exact .inr ⟨a9j,.inl (Aa (λ_ _ _ _ h=>(a.ad _ _ _ _ h.1).1) h)⟩
 |dP=>exact .inr ⟨a9j,.inl (Aa (λ_ _ _ _ h=>(a.s2 _ _ _ h.1).1) h)⟩
 |fin=>exact .inr ⟨a9j,.inl (Aa (λ_ _ _ _ h=>(a.rl _ _ _ h.1).1) h)⟩
 |wok2=>obtain⟨_,b,_,h,_⟩:=h;simp_all
 |la1=>obtain⟨_,b,h,k⟩:=h;exact .inr ⟨a9j,.inl (mP h (a.la _ _ _ _ k).1)⟩
 |lb1=>obtain⟨_,b,h,k⟩:=h;exact .inr ⟨a9j,.inl (mP h (a.lb _ _ _ _ k).1)⟩
 |lc1=>obtain⟨_,b,h,k⟩:=h;exact .inr ⟨a9j,.inl (mP h (a.lc _ _ _ _ k).1)⟩
 |hush=>obtain⟨_,b,h,k⟩:=h;exact .inr ⟨a9j,.inl (mP h (a.ad _ _ _ _ k).1)⟩
 |la2=>obtain⟨_,b,h,k⟩:=h;exact .inr ⟨a9j,.inl (mP h (a.la _ _ _ _ k).1)⟩
 |lb2=>obtain⟨_,b,h,k⟩:=h;exact .inr ⟨a9j,.inl (mP h (a.lb _ _ _ _ k).1)⟩
 |lc2=>obtain⟨_,b,h,k⟩:=h;exact .inr ⟨a9j,.inl (mP h (a.lc _ _ _ _ k).1)⟩
 |leave=>exact .inr ⟨a9j,h.2.status.imp id λx=>⟨rfl,x⟩⟩
theorem Jz{c:Nat}{g g' x:aw}{a b2:Array aj}{b d s1 s2 r1 e:Nat}{f h:Bool}(i:v.heap[c]?=some (.chan b a false s1 r1 f))(j:v.heap[C.dc]?=some (.chan d b2 false s2 e h)):woken C.P g g' v (parked x (p.cases c) .select)=parked x (p.cases c) .select:=by
 grind[woken,again_all_open,ci.cases]
def EX(h:p.Hp s v){i:Nat}(a:i<s.sp.made C.n):∃b c d,v.heap[s.cb i]?=some (.chan 1 b false c d false):=by
 rw[h.ch i a];split
 .split
  all_goals simp_all
 simp_all
end
def gI.mono{p n c o e d t}(h:gI p c o e t)(q:∀g a,p.may g a->n.may g a)(r:∀i,d i->e i):gI n c o d t:=
 ⟨h.clean,λk a f j b i w=>h.first k a f j b i (r i w),λk x a f l j b=>q _ _ (h.later k x a f l j b)⟩
def gI.still{p d o g t u}(h:gI p d o g t)(P:o<=t.size)(J:∀q∈u,q.act.touch?=none):gI p d o g (t++u):=by
 refine⟨λk K=>?_,λi a n f c j A=>?_,λi q a n r f c=>?_⟩
 .obtain⟨i,j,w,⟨a,b,f,L,M⟩,N,O⟩:=K;obtain⟨Q,x,D⟩:=touch_of f;obtain⟨R,y,E⟩:=touch_of L;obtain⟨n,F⟩|⟨_,z⟩:=getElem?_append_cases x
  .rcases getElem?_append_cases y with⟨A,H⟩|⟨_,z⟩
   .exact h.clean k ⟨i,j,w,⟨a,b,by grind[Trace.act?],by grind[Trace.act?],M⟩,λe=>N (hb_app _ e),λe=>O (hb_app _ e)⟩
   simp_all
  simp_all
 .rw[touchAt_old a9h]at f;exact(h.first i a n f c j A).imp (·.app _) id
 .rcases getElem?_append_cases r with⟨_,l⟩|⟨_,I⟩
  .exact h.later i q a n l f c
  simp_all
def up{t u g}(h:∀a∈u,a.act≠.mark .disable/\a.act≠.mark .enable):Deaf (t++u) g=Deaf t g:=by
 obtain⟨l,rfl⟩:∃l:List MemOp,u=l.toArray:=⟨u.toList,a9i⟩;rw[Deaf_append];have:∀(l:List MemOp) (d:Nat),(∀a∈l,a.act≠.mark .disable/\a.act≠.mark .enable)->l.foldl (deafStep g) d=d:=by
  intro l;induction l with
  |nil=>simp_all
  |cons x l b=>
   grind[deafStep]
 simp_all
section
variable{C:aI}{p:ci C}{s s':St}{v v':aa}{m t u:bm}{gs:Array aw}{B B':Nat}
def C4(h:C.dx s B)(o:∀c,C.SB c->c<C.B0):(C.places s).Ok (cn C.SB):=by
 obtain⟨F,A,D⟩:=h.sh;have E:=h.ge;have g:∀{c i:Nat},s.cls c=.wk i->C.B0<=c:=fun {c i} x=>by apply eQ;intro H;rw[h.old c a9h]at x;cases x
 have d:∀{i:Nat} {l:Loc},C.mine i (s.own i) l->¬C.common l/\¬C.mD l/\¬cn C.SB l:=by
  intro i l q;cases l with
  |cell a=>
   obtain q|rfl:=q
   .have:=g q;refine⟨?_,?_,λf=>by have:=o _ f;omega⟩
    .rintro(⟨r,_⟩|rfl|rfl)
     all_goals grind[St.own]
    .rintro((e|e|e|e)|e)
     .grind[St.own]
     .grind[St.own]
     all_goals grind[St.own]
   .refine⟨?_,?_,λf=>by have:=o _ f;grind⟩
    .rintro(⟨r,_⟩|e|e)
     all_goals grind
    .rintro((e|e|e|e)|e)
     .simp_all
     .simp_all
     all_goals simp_all
  |obj b=>
   have:=g q;refine⟨λx=>?_,?_,id⟩
   .have:=x.1;omega
   .rintro((e|e|e|e)|e)
    .cases e
    .cases e
    all_goals grind[aI.mine,St.own]
  |_=>exact q.elim
 refine⟨?_,?_,?_,?_,?_,?_,?_⟩
 .rintro i j l ⟨z,rfl,k⟩ ⟨I,rfl,y⟩;cases l with
  |cell a=>
   obtain k|rfl:=k
   .rcases y with y|rfl
    all_goals grind[St.own]
   .rcases y with y|e
    all_goals simp_all[St.own]
  |obj b=>grind[aI.mine,St.own]
  |_=>exact k.elim
 .rintro i l ⟨z,_,k⟩;exact(d k).1
 .rintro i l ⟨z,_,k⟩;exact(d k).2.1
 .intro l w n;obtain n|rfl:=n
  .rcases n with rfl|rfl|rfl|rfl<;>(obtain⟨r,_⟩|e|e:=w<;>first|(simp only at r;omega)|(simp only[Addr.mk.injEq]at e;omega))
  .have:=w.1;omega
 .rintro i l ⟨z,_,k⟩;grind
 .intro l w f;cases l with
  |cell a=>
   obtain⟨_,r⟩|rfl|rfl:=w
   .exact r f
   .have:=o _ f;grind
   .have:=o _ f;grind
  |obj b=>exact f
  |_=>exact w
 .intro l n f;obtain n|rfl:=n
  .rcases n with rfl|rfl|rfl|rfl<;>(have:=o _ f;grind)
  .exact f
def Iw(h:∀i c,s.own i c->s'.own i c){g a}(d:(C.places s).may g a):(C.places s').may g a:=by
 obtain⟨i,e,d⟩|d|d:=d
 .refine .inl ⟨i,e,?_⟩;revert d;cases a.loc with
  |cell a=>exact Or.imp (h _ _) id
  |obj b=>exact h _ _
  |_=>exact id
 .exact .inr (.inl d)
 .exact .inr (.inr d)
def C6(h:C.fY s m t B):m.size<=t.size:=by obtain⟨u,rfl⟩:=h.pre;simp
def DT(I:0<C.N0)(h:C.fY s m t B)(z:(C.places s').Ok (cn C.SB))(A:B<=B')(q:s'.sp.aU C.n=s.sp.aU C.n)(l:∀i c,s.own i c->s'.own i c){j}(o:C.mem s j)(r:∀d∈u,d.g=j)(D:∀d∈u,∀a,d.act.touch?=some a->a.loc.isMemory=true->(C.places s').may j a)(E:∀d∈u,d.act.low B')(J:∀d∈u,d.act≠.mark (.release (C.ca 4)))(hrel:∀i,i<C.n->(s'.ph i).said=true->C.Rel (t++u) i):C.fY s' m (t++u) B':=by
 have x:=C6 h;refine⟨?_,?_,?_,?_,?_,?_,hrel⟩
 .obtain⟨w,rfl⟩:=h.pre
  grind
 .refine gI.app z (h.tF.mono (λg a=>Iw l) (λi k=>?_)) x (by grind[aI.mem]) r D
  grind[aI.mem]
 .intro i d k f h0 y;obtain⟨_,b⟩|⟨_,e⟩:=getElem?_append_cases f
  .exact h.elder i d k b h0 y
  .rw[r d e]at h0 y;obtain rfl|o:=o
   .omega
   .omega
 .intro i d k f;rw[q];obtain⟨_,b⟩|⟨_,e⟩:=getElem?_append_cases f
  .exact h.born i d k b
  .rw[r d e];obtain rfl|o:=o
   .omega
   .omega
 .intro i k;obtain⟨d,F,H⟩:=gn.1 k;obtain⟨_,b⟩|⟨_,e⟩:=getElem?_append_cases F
  .exact h.norel i (by rw[Trace.act?,b];simp[H])
  simp_all
 .exact seen_app (λd f=>MemAct.low_mono A (h.low d f)) E
end
section
variable{C:aI}{p:ci C}{s s':St}{v v':aa}{t0 t u:bm}{gs:Array aw}{B B':Nat}
def tJ(h:C.fY s t0 t B)(r:B<=B')(l:s'.sp.aU C.n=s.sp.aU C.n)(k:∀i c,s.own i c->s'.own i c)(o:∀d∈u,d.act.touch?=none)(D:∀d∈u,d.g<C.N0+s.sp.aU C.n)(x:∀d∈u,d.act.low B')(E:∀d∈u,d.act≠.mark (.release (C.ca 4)))(hrel:∀i,i<C.n->(s'.ph i).said=true->C.Rel (t++u) i):C.fY s' t0 (t++u) B':=by
 have q:=C6 h;refine⟨?_,?_,?_,?_,?_,?_,hrel⟩
 .obtain⟨w,rfl⟩:=h.pre
  grind
 .refine gI.still (h.tF.mono (λg a=>Iw k) (λi j=>?_)) q o
  grind[aI.mem]
 .intro i d j e h0 y;obtain⟨_,b⟩|⟨_,f⟩:=getElem?_append_cases e
  .exact h.elder i d j b h0 y
  simp_all
 .intro i d j e;rw[l];obtain⟨_,b⟩|⟨_,f⟩:=getElem?_append_cases e
  .exact h.born i d j b
  simp_all
 .intro i j;obtain⟨d,z,A⟩:=gn.1 j;obtain⟨_,b⟩|⟨_,f⟩:=getElem?_append_cases z
  .exact h.norel i (by rw[Trace.act?,b];simp[A])
  simp_all
 .exact seen_app (λd e=>MemAct.low_mono r (h.low d e)) x
def mR(h:C.fY s t0 t B){i}(d:i<C.n)(e:(s.ph i).said=true)(D:∀b∈u,b.g=C.N0+i->b.act.touch?=none):C.Rel (t++u) i:=by
 obtain⟨x,f,j⟩:=h.rel i d e;refine⟨x,f.app λk l c o=>?_,λk b a l q c E=>?_⟩;rotate_left
 .grind
 obtain⟨b,r,w⟩:=gn.1 c;obtain⟨z,_⟩|⟨_,A⟩:=getElem?_append_cases r
 .omega
 .obtain⟨y,F,_⟩:=o
  grind[touch_of]
def Ap(sp cD:SP):Prop:=cD=sp\/∃b,sp=.sb b/\cD=.sa b
def Ap.fns{sp cD}(h:Ap sp cD)(n):cD.aU n=sp.aU n/\cD.cB n=sp.cB n/\cD.made n=sp.made n/\cD.closed=sp.closed/\cD.deaf=sp.deaf:=by
 obtain rfl|⟨b,rfl,rfl⟩:=h
 .simp_all
 .exact⟨rfl,rfl,rfl,rfl,rfl⟩
def St.cD(s:St)(b:Bool):St:={s with sp:=.sa b,m0:=0}
theorem xl{b}(h:C.dJ s)(n:s.sp=.sb b):C.dJ (s.cD b):=by
 obtain⟨o,j,c,d,f,a,g,q,k,r,l,w,x,i,s2,y⟩:=h;simp only[n,SP.aU,SP.cB,SP.closed]at j c d f a g i s2;refine⟨o,trivial,c,d,f,a,g,q,k,r,l,w,x,?_,?_,λb m e=>by cases e⟩
 .cases b
  .exact⟨i.1,i.2.1⟩
  .exact i
 .cases b
  .exact s2
  .exact⟨s2.1,s2.2.1⟩
def Hr{b}(h:p.Hp s v)(e:s.sp=.sb b):p.Hp (s.cD b) v:=by obtain⟨f,g,c,a,i,d⟩:=h;simp[e,SP.made,SP.cB,SP.closed]at c d;exact⟨f,g,c,a,i,d⟩
def E1{b}(h:C.dx s B)(f:s.sp=.sb b):C.dx (s.cD b) B:=by obtain⟨c,sh,a,d,e,g⟩:=h;simp[f,SP.made,SP.aU]at d e;exact⟨c,sh,a,d,e,g⟩
def a5b{b}(h:C.fY s t0 t B)(j:s.sp=.sb b):C.fY (s.cD b) t0 t B:=by
 obtain⟨f,e,c,a,d,g,rel⟩:=h;simp[j,SP.aU]at a;refine⟨f,e.mono (λ_ _ h=>h) (λi k=>?_),c,a,d,g,rel⟩
 grind[aI.mem,SP.aU,St.cD]
def Lg(a:p.Ok){d e}(h:p.fX s d e)(x x' w'):(woken C.P x x' w' e=e/\((∃b,s.sp=.sb b)->¬(mayWake C.P x=true/\x'.status=.running)))\/∃b,s.sp=.sb b/\d=1/\p.SA (o4 b) (woken C.P x x' w' e):=by
 unfold ci.fX at h;split at h
 .rename_i b q;obtain⟨r,g',g,rfl⟩:=h;obtain⟨j,l,_⟩:=a.sa _ _ g;by_cases n:(mayWake C.P x&&x'.status !=.blocked&&x'.status !=.waiting)=true
  .refine .inr ⟨b,q,r,?_⟩;have:woken C.P x x' w' {g' with status:=.blocked}=g':=by unfold woken;rw[if_pos n];obtain⟨f,c,D,E,of⟩:=g';simp at j l;subst j l;rfl
   rw[this];exact g
  .refine .inl ⟨by simp_all[woken],λ_ ⟨w,h2⟩=>n ?_⟩;rw[w,h2];rfl
 .rename_i y;obtain⟨g',z,i⟩:=h;have o:e.status=.running:=by
   apply mP z;revert i;cases A:s.sp with
   |mk k=>exact λh=>(a.vD _ _ h).1
   |go k=>exact λh=>(a.go _ _ _ h).1
   |snd k=>exact λh=>(a.sn _ _ _ h).1
   |lw b=>exact λh=>(a.lw _ _ h).1
   |ca b m=>exact λh=>(a.ca _ _ _ h).1
   |sa b=>exact λh=>(a.sa _ _ h).1
   |sb b=>simp_all
   |ld b=>exact λh=>(a.ld _ _ h).1
   |aq b=>exact λh=>(a.aq _ _ h).1
   |cl=>exact λh=>(a.cl _ h).1
  grind[woken_run]
def DJ{d g0}(a:s'.sp=s.sp)(b:s'.m0=s.m0)(c:s'.cb=s.cb)(h:p.fX s d g0):p.fX s' d g0:=by simp_all[ci.fX,ci.pt]
def LX(o:p.Ok)(q:C.dJ s)(l:p.Hp s' v')(c:Ap s.sp s'.sp)(f:s'.cb=s.cb){k}(i:k<s.sp.aU C.n)(b:k<C.n){ρ m d O x w}(h:p.fa k (s.cb k) (s.ph k) ρ m O d x w)(g g'):woken C.P g g' v' x=x:=by
 obtain⟨r,y,rfl⟩|⟨_,z|⟨_,A⟩⟩:=pz o h
 .have j:s.sp.closed=false:=by
   cases e:s.sp.closed with
   |false=>rfl
   |true=>
    have:=q.shut e k b
    grind[Ph.num]
  let ⟨_,_,f3,f4,_⟩:=c.fns C.n;have a:k<s'.sp.made C.n:=by rw[f3];revert i;cases s.sp<;>simp[SP.aU,SP.made]<;>omega
  let ⟨b1,s1,r1,h1⟩:=EX l a;rw[f]at h1;exact Jz h1 (by have:=l.dc;rw[f4,j]at this;exact this)
 all_goals grind[woken,again_running]
def gV(a:C.dJ s):s.sp.aU C.n<=C.n:=by have:=a.lF;cases h:s.sp<;>rw[h]at this<;>simp[SP.aU]at this⊢ <;>omega
def yx(hp:p.Ok)(I:p.Inv t0 s gs v t){i}(hi:i<s.sp.aU C.n){g g' es sl}(hg:gs[C.N0+i]?=some g)(ab:stepG C.P false g v=.go g' v' es)(J:∀k,k≠i->s'.ph k=s.ph k/\s'.rk k=s.rk k)(hq:∀j,j≠C.N0+i->s'.q j=s.q j)(z:s'.cb=s.cb)(R:∀k,k≠i->s'.own k=s.own k)(K:s'.sp=s.sp)(ad:s'.m0=s.m0)(hw:p.fa i (s.cb i) (s'.ph i) (s'.rk i) (s'.q (C.N0+i)) (s'.own i) (deafBehind (Deaf t (C.N0+i)) es) g' v')(ae:∀k,k≠i->C.Fr k (s.own k) v v')(L:p.Hp s' v')(E:C.dx s' v'.heap.size)(S:C.dJ s'\/(mayWake C.P g=true/\g'.status=.running/\∃b,s.sp=.sb b/\C.dJ (s'.cD b)))(T:C.fY s' t0 (t++MemOp.ofEvents (C.N0+i) g.frame.fn g.frame.place es) v'.heap.size)(M:ns (C.dM s' (C.N0+i)) (C.dM s (C.N0+i))):∃f l a,runT C.P (crowd gs v sl) (C.N0+i)=(.next (crowd f v' sl),l)/\p.Inv t0 a f v' (t++l)/\C.Down a s:=by
 have U:=I.pos;have ba:i<C.n:=bL hi (gV I.ctl);have ao:(C.N0+i==0)=false:=a9l
 have ap:C.N0+i<gs.size:=(bz.1 hg).1;have o:=runT_crowd_go (P:=C.P) (sl:=sl) (i:=C.N0+i) hg (by rw[ao];exact ab);have aq:((gs.map (woken C.P g g' v')).setIfInBounds (C.N0+i) g').size=gs.size:=a9i
 have A:∀j,j≠C.N0+i->Deaf (t++MemOp.ofEvents (C.N0+i) g.frame.fn g.frame.place es) j=Deaf t j:=λj D=>Deaf_other t (g':=C.N0+i) (λe=>D e.symm) _ (λop ar=>by obtain⟨e,_,rfl⟩:=Go.Conc.mem_ofEvents ar;rfl);have c:∀j x,j≠C.N0+i->((gs.map (woken C.P g g' v')).setIfInBounds (C.N0+i) g')[j]?=some x->∃y,gs[j]?=some y/\x=woken C.P g g' v' y:=by intro j x D F;rw[dw (λe=>D e.symm),ip]at F;obtain⟨y,V,rfl⟩:=gn.1 F;exact⟨y,V,rfl⟩
 let ⟨g0,hg0,W⟩:=I.start;have H:∀a:St,a.ph=s'.ph->a.rk=s'.rk->a.q=s'.q->a.cb=s'.cb->a.cls=s'.cls->a.sp.aU C.n=s.sp.aU C.n->p.Hp a v'->C.dx a v'.heap.size->C.dJ a->C.fY a t0 (t++MemOp.ofEvents (C.N0+i) g.frame.fn g.frame.place es) v'.heap.size->
   p.fX a (Deaf t 0) (woken C.P g g' v' g0)->p.Inv t0 a ((gs.map (woken C.P g g' v')).setIfInBounds (C.N0+i) g') v' (t++MemOp.ofEvents (C.N0+i) g.frame.fn g.frame.place es):=by
  intro a e1 e2 X e4 e5 e6 h1 h2 h3 h4 h5;refine⟨U,by rw[aq,e6];exact I.size,⟨woken C.P g g' v' g0,?_,by rw[A 0 a9h];exact h5⟩,?_,?_,?_,h1,h2,h3,h4⟩
  .rw[dw a9h,ip,hg0];rfl
  .intro j x Y N F;obtain⟨y,V,rfl⟩:=c j x a9h F;have hQ:=I.elder j y Y N V;rw[woken_quitsD hQ,A j a9h,X,hq j a9h];exact hQ
  .intro k x hk F;rw[e6]at hk;have au:k<C.n:=bL hk (gV I.ctl);have r:a.own k=s'.own k:=by unfold St.own;rw[e5]
   by_cases w:k=i
   .subst w;rw[lG (by simpa using ap)]at F;obtain rfl:=db F;rw[e1,e2,X,e4,r,z,Deaf_own];exact hw
   .obtain⟨y,V,rfl⟩:=c (C.N0+k) x a9h F;have hW:=I.work k y hk V;rw[LX hp I.ctl L (.inl K) z hk au hW g g',A _ a9h,e1,e2,X,e4,r,z,(J k w).1,(J k w).2,hq _ a9h,R k w];exact rn hp hW (ae k w)
  .intro j D;simp at D;rw[A j a9h];exact I.above j D
 have d:∀a:St,a.ph=s'.ph->a.rk=s'.rk->a.q=s'.q->C.Down a s:=by
  intro a e1 e2 X;have er:C.dM a=C.dM s':=by funext j;simp[aI.dM,e1,e2,X]
  refine .inl (sj (i:=C.N0+i) a9h (by rw[er];exact M) λj D=>?_);rw[er];unfold aI.dM;by_cases N:j<C.N0
  .simp[N,hq j D]
  .have:=J (j - C.N0) a9h;simp[this.1,this.2,hq j D]
 have av:∀b,s.sp=.sb b->C.dJ (s'.cD b)->Deaf t 0=1->p.SA (o4 b) (woken C.P g g' v' g0)->∃f l a,runT C.P (crowd gs v sl) (C.N0+i)=(.next (crowd f v' sl),l)/\p.Inv t0 a f v' (t++l)/\C.Down a s:=by
  intro b hb hc hd Z;have O:s'.sp=.sb b:=by simp_all
  refine⟨_,_,s'.cD b,o,H (s'.cD b) rfl rfl rfl rfl rfl (by simp[St.cD,SP.aU,hb]) (Hr L O) (E1 E O) hc (a5b T O) ?_,d _ rfl rfl rfl⟩;exact⟨_,by rw[hd];exact .nil,Z⟩
 obtain⟨Q,aP⟩|⟨b,hb,hd,Z⟩:=Lg hp W g g' v'
 .have hc:C.dJ s':=by
   obtain h|⟨h1,h2,b,hb,_⟩:=S
   .exact h
   .exact absurd ⟨h1,h2⟩ (aP ⟨b,hb⟩)
  exact⟨_,_,s',o,H s' rfl rfl rfl rfl rfl (by rw[K]) L E hc T (by rw[Q];exact DJ K ad z W),d s' rfl rfl rfl⟩
 grind[xl]
end
end Go.Mir
end
section
namespace Go.Mir
open Go Go.Conc
open Go.ConcN (upd upd_ne upd_same)
section
variable{C:aI}{p:ci C}{s s':St}{v v':aa}{t0 t u:bm}{gs:Array aw}{B B':Nat}
def rP(h:C.dJ s)(a:s'.sp=s.sp)(c:s'.ph=s.ph)(i:s'.G1=s.G1)(j:s'.G2=s.G2):C.dJ s':=by
 have q:C.a1 s'=C.a1 s:=by grind[aI.a1]
 have r:C.a2 s'=C.a2 s:=by grind[aI.a2]
 obtain⟨w,k,d,e,f,b,g,x,l,y,n,z,A,D,s2,o⟩:=h;exact⟨w,by rw[a];exact k,by rw[a,c];exact d,by rw[a,c];exact e,by rw[a,c];exact f,by rw[a,c];exact b,by rw[a,c];exact g,by rw[c,i];exact x,by rw[i];exact l,by rw[c,j];exact y,by rw[j];exact n,by rw[i,q];exact z,by rw[j,r];exact A,by rw[a,i];exact D,by rw[a,j];exact s2,by rw[a];exact o⟩
def vf(h:p.Hp s v)(b:s'.sp=s.sp)(c:s'.ph=s.ph)(d:s'.G1=s.G1)(e:s'.G2=s.G2)(f:s'.cb=s.cb):p.Hp s' v:=by
 have g:C.a1 s'=C.a1 s:=by grind[aI.a1]
 have i:C.a2 s'=C.a2 s:=by grind[aI.a2]
 obtain⟨j,k,l,a,n,o⟩:=h;exact⟨by rw[d,e,g,i];exact j,k,by rw[b];exact l,a,n,by rw[b,c,f];exact o⟩
def nC(h:C.dx s B)(d:s'.sp=s.sp)(e:s'.cb=s.cb)(a:s'.cls=s.cls):C.dx s' B:=by obtain⟨c,sh,b,f,g,i⟩:=h;exact⟨by rw[a];exact c,by rw[a];exact sh,by rw[a];exact b,by rw[d,e,a];exact f,by rw[d,a];exact g,i⟩
def cV{b o}(h:v.heap[b]?=some o):b<v.heap.size:=(bz.1 h).1
def AF(h:p.Hp s v)(a:C.dx s v.heap.size):C.B0<=v.heap.size:=dt a.ge.1 (b0q (cV h.rb))
def vQ(a:C.dx s v.heap.size)(j:v'.heap.size=v.heap.size)(i):C.Own (s.own i) v':=by
 obtain⟨f,b,d⟩:=a.sh;intro c h;have h:s.cls c=.wk i:=h;refine⟨?_,λe=>?_,λe=>?_,λe=>?_,?_⟩
 .apply eQ;intro g;rw[a.old c a9h]at h;cases h
 .rw[e,f]at h;cases h
 .rw[e,b]at h;cases h
 .rw[e,d]at h;cases h
 .apply eQ;intro g;rw[a.free c a9h]at h;cases h
def nB(f:Nat->Cl)(a b i:Nat):Nat->Cl:=λc=>if a<=c/\c<b then .wk i else f c
def Z4(a:C.dx s v.heap.size){b i}:(λc=>nB s.cls v.heap.size b i c=.wk i)=a9s (s.own i) v.heap.size b:=by
 grind[nB,a9s,St.own]
def Z5(a:C.dx s v.heap.size){b i k}(h:k≠i):(λc=>nB s.cls v.heap.size b i c=.wk k)=s.own k:=by
 funext c;unfold nB St.own;by_cases d:v.heap.size<=c/\c<b
 .have f:s.cls c=.free:=a.free c d.1;have g: ¬i=k:=λe=>h e.symm;simp_all
 grind
def SX(h:p.Hp s v)(f:C.dx s v.heap.size){i es}(g:C.Eff i (s.own i) v v' es):p.Hp s v'/\∀k,k≠i->C.Fr k (s.own k) v v':=by
 obtain⟨A,w,x⟩:=f.sh;have j:=f.ge;have a:∀c,c<v.heap.size->s.cls c≠.wk i->c≠C.tb->v'.heap[c]?=v.heap[c]? :=λc b n o=>g.kept c b n o;have l:p.Hp s v':=by
  refine⟨?_,?_,?_,?_,?_,?_⟩
  .rw[a C.r (cV h.rb) (by rw[A];simp) j.2.2.2.1];exact h.rb
  .obtain⟨D,y,b,n,o,_⟩:=g.told;obtain⟨E,z,F⟩:=h.tb;rw[b]at z;simp_all
  .rw[a C.dc (cV h.dc) (by rw[x];simp) (λe=>j.2.2.2.2.2 e.symm)];exact h.dc
  .intro c d;rw[a c (bL d (AF h f)) (by rw[f.old c d];simp) a9h];exact h.old c d
  .exact g.os.trans h.os
  .intro k q;have b:=h.ch k q;rw[a (s.cb k) (cV b) (by rw[f.ch k q];simp) (λe=>by have:=f.ch k q;rw[e,w]at this;cases this)];exact b
 refine⟨l,λk q=>⟨g.size,λc d=>?_,λD y b n=>?_,gA l⟩⟩
 .have b:s.cls c=.wk k:=d;have H:c<v.heap.size:=by apply eQ;intro I;rw[f.free c a9h]at b;cases b
  grind
 .obtain⟨J,K,o,z,_,F⟩:=g.told;rw[b]at o;rw[n]at z;simp_all
def z9(Z:p.Ok)(hS:∀c,C.SB c->c<C.B0)(I:p.Inv t0 s gs v t){i}(N:i<s.sp.aU C.n){g sl}(hg:gs[C.N0+i]?=some g){A f}(Q:s.rk i=.node f)(hW:C.Way i A (.node f) (s.own i) (Deaf t (C.N0+i)) g v)(R:∀ρ O d g v,C.Way i A ρ O d g v->p.fa i (s.cb i) (s.ph i) ρ (s.q (C.N0+i)) O d g v)(ab:(s.ph i).said=false):∃J v' K L,runT C.P (crowd gs v sl) (C.N0+i)=(.next (crowd J v' sl),K)/\p.Inv t0 L J v' (t++K)/\C.Down L s:=by
 have ad:i<C.n:=bL N (gV I.ctl);let ⟨g1,z,X,hst,H,hW'⟩:=hW.2 v (.refl (gA I.hp));let ⟨hHp,hfr⟩:=SX I.hp I.cls H;have ae:=AF I.hp I.cls;have S:=I.cls.ge;let ⟨hr,htb,hdc⟩:=I.cls.sh;let s':St:={s with rk:=upd s.rk i (f v),cls:=nB s.cls v.heap.size z.heap.size i};have j:s'.own i=a9s (s.own i) v.heap.size z.heap.size:=Z4 I.cls;have l:∀k,k≠i->s'.own k=s.own k:=λk r=>Z5 I.cls r;have D:∀k c,s.own k c->s'.own k c:=λk c h=>by
  by_cases r:k=i
  .subst r;rw[j];exact .inl h
  simp_all
 have x:C.dx s' z.heap.size:=by
  have hz:=H.size;have w:∀{c:Nat},c<v.heap.size->nB s.cls v.heap.size z.heap.size i c=s.cls c:=fun {c} h=>by
   grind[nB]
  refine⟨λc M=>?_,⟨?_,?_,?_⟩,λc M=>?_,λk r=>?_,λc k M=>?_,S⟩
  .exact(w a9h).trans (I.cls.old c M)
  .exact(w (cV I.hp.rb)).trans hr
  .obtain⟨tc,h1,_⟩:=I.hp.tb
   grind
  .exact(w (cV I.hp.dc)).trans hdc
  .have: ¬(v.heap.size<=c/\c<z.heap.size):=a9h
   show nB s.cls v.heap.size z.heap.size i c=.free;simp[nB,this];exact I.cls.free c a9h
  .exact(w (cV (I.hp.ch k r))).trans (I.cls.ch k r)
  .by_cases E:k=i
   .subst E;exact N
   .have:s.own k c:=by rw[<-l k E];exact M
    exact I.cls.wk c k this
 have y:∀F∈MemOp.ofEvents (C.N0+i) g.frame.fn g.frame.place X,F.g=C.N0+i:=λF b=>by obtain⟨e,_,rfl⟩:=Go.Conc.mem_ofEvents b;rfl
 have T:C.fY s' t0 (t++MemOp.ofEvents (C.N0+i) g.frame.fn g.frame.place X) z.heap.size:=by
  refine DT I.pos I.gi (C4 x hS) H.size rfl D (.inr ⟨a9h,a9h⟩) y (λF b a ha hm=>?_) (λF b=>?_) (λF b=>?_) (λk r U=>?_)
  .obtain⟨e,o,rfl⟩:=Go.Conc.mem_ofEvents b;obtain h|h:=(H.Bt e o).touch a ha hm
   .exact .inl ⟨i,rfl,by rw[j];exact h⟩
   .exact .inr (.inl h)
  .obtain⟨e,o,rfl⟩:=Go.Conc.mem_ofEvents b;exact(H.Bt e o).low
  .obtain⟨e,o,rfl⟩:=Go.Conc.mem_ofEvents b;intro hx;apply(H.Bt e o).norel;obtain⟨V,wr,sy⟩:=e;cases V<;>simp only[MemAct.ofEvent,reduceCtorEq]at hx⊢
   all_goals grind[aI.ca]
  .have E:k≠i:=λe=>by
    grind
   exact mR I.gi r U λF b ao=>by have:=y F b;omega
 have ap:=yx (s':=s') (sl:=sl) Z I N hg hst (λk r=>⟨rfl,upd_ne _ _ r⟩) (λ_ _=>rfl) rfl l rfl rfl
  (by rw[j];grind[upd_same]) hfr (vf hHp rfl rfl rfl rfl rfl) x (.inl (rP I.ctl rfl rfl rfl rfl)) T ?_
 .grind
 .have W: ¬(C.N0+i<C.N0):=a9h
  have Y:C.N0+i - C.N0=i:=a9h
  simp[aI.dM,W,s',upd_same,Q];exact .tree v
def JP(J:p.Ok)(Q:∀c,C.SB c->c<C.B0)(I:p.Inv t0 s gs v t){i}(K:i<s.sp.aU C.n){g g' sl}(L:gs[C.N0+i]?=some g){m es}(M:s.q (C.N0+i)=m+1)(x:stepG C.P false g v=.go g' v es)(f:∀e∈es,Event.mute e=true)(l:p.fa i (s.cb i) (s.ph i) (s.rk i) m (s.own i) (deafBehind (Deaf t (C.N0+i)) es) g' v):∃o v' r w,runT C.P (crowd gs v sl) (C.N0+i)=(.next (crowd o v' sl),r)/\p.Inv t0 w o v' (t++r)/\C.Down w s:=by
 let s':St:={s with q:=upd s.q (C.N0+i) m};have b:∀d∈MemOp.ofEvents (C.N0+i) g.frame.fn g.frame.place es,d.g=C.N0+i/\d.act.touch?=none/\(∀B,d.act.low B)/\d.act≠.mark (.release (C.ca 4)):=λd a=>by obtain⟨e,y,rfl⟩:=Go.Conc.mem_ofEvents a;refine⟨rfl,touch_mute (f e y),λB=>low_mute (f e y) B,λR=>?_⟩;have:=f e y;obtain⟨z,wr,S⟩:=e;cases z<;>simp_all [Event.mute,MemAct.ofEvent]
 have A:C.fY s' t0 (t++MemOp.ofEvents (C.N0+i) g.frame.fn g.frame.place es) v.heap.size:=
  tJ I.gi (az _) rfl (λ_ _ h=>h) (λd a=>(b d a).2.1) (λd a=>by rw[(b d a).1];omega) (λd a=>(b d a).2.2.1 _) (λd a=>(b d a).2.2.2) (λk D E=>mR I.gi D E λd a _=>(b d a).2.1)
 have N:=yx (s':=s') (v':=v) (sl:=sl) J I K L x (λk D=>⟨rfl,rfl⟩) (λj O=>upd_ne _ _ O) rfl (λ_ _=>rfl) rfl rfl (by show p.fa i (s.cb i) (s.ph i) (s.rk i) (upd s.q (C.N0+i) m (C.N0+i)) _ _ _ _;rw[upd_same];exact l) (λk D=>.refl (gA I.hp)) (vf I.hp rfl rfl rfl rfl rfl) (nC I.cls rfl rfl rfl) (.inl (rP I.ctl rfl rfl rfl rfl)) A ?_
 .grind
 .have F: ¬(C.N0+i<C.N0):=a9h
  have H:C.N0+i - C.N0=i:=a9h
  simp[aI.dM,F,s',upd_same,M];exact .step a9h
end
section
variable{C:aI}{p:ci C}{s s':St}{v v':aa}{m t u:bm}{gs:Array aw}{B W:Nat}
def oD(C:aI)(es:Array aT):Prop:=∃o,(o=1\/o=2\/o=4\/o=5)/\(es=#[kn C o,jU C o]\/es=#[kn C o]\/es=#[jU C o]\/es=semEvents (C.ca o))
def OL{es}(h:oD C es):deafBehind 1 es=1:=by obtain⟨o,_,rfl|rfl|rfl|rfl⟩:=h<;>rfl
theorem EB{o}(a:o=1\/o=2\/o=4\/o=5):C.oH (.cell (C.ca o)):=by obtain rfl|rfl|rfl|rfl:=a<;>simp[aI.oH,aI.ca]
def EC{o}(a:o=1\/o=2\/o=4\/o=5):C.mD (.cell (C.ca o)):=.inl (EB a)
def AE{es}(h:oD C es):∀e∈es,((MemAct.ofEvent e).touch?=none/\∀B,(MemAct.ofEvent e).low B)\/∃o wr,(o=1\/o=2\/o=4\/o=5)/\e=⟨.cell (C.ca o),wr,true⟩:=by
 obtain⟨o,b,rfl|rfl|rfl|rfl⟩:=h<;>intro e a
 .simp at a;obtain rfl|rfl:=a
  .exact .inr ⟨o,false,b,rfl⟩
  .exact .inr ⟨o,true,b,rfl⟩
 .simp at a;subst a;exact .inr ⟨o,false,b,rfl⟩
 .simp at a;subst a;exact .inr ⟨o,true,b,rfl⟩
 .simp[semEvents]at a;obtain rfl|rfl|rfl|rfl:=a
  .exact .inl ⟨rfl,λB=>trivial⟩
  .grind
  .grind
  .exact .inl ⟨rfl,λB=>trivial⟩
theorem EF{es}(h:oD C es):∀e∈es,MemAct.ofEvent e≠.mark (.release (C.ca 4)):=by
 obtain⟨o,b,rfl|rfl|rfl|rfl⟩:=h<;>intro e a<;>simp[semEvents]at a
 .rcases a with rfl|rfl<;>simp[kn,jU,MemAct.ofEvent]
 .grind[kn,MemAct.ofEvent]
 .grind[jU,MemAct.ofEvent]
 .rcases a with rfl|rfl|rfl|rfl<;>simp[MemAct.ofEvent]
theorem EE{es}(h:oD C es){e}(c:e∈es){a}(b:(MemAct.ofEvent e).touch?=some a)(g):(C.places s).may g a:=by
 obtain⟨d,_⟩|⟨o,wr,f,rfl⟩:=AE h e c
 .rw[d]at b;cases b
 .refine .inr (.inr ?_);cases wr<;>(simp[MemAct.ofEvent,MemAct.touch?]at b;subst b;exact⟨EC f,a9i,a9i⟩)
def ED{es}(h:oD C es)(a:C.r<B):∀e∈es,(MemAct.ofEvent e).low B:=by
 intro e b;obtain⟨_,c⟩|⟨o,wr,d,rfl⟩:=AE h e b
 .grind
 .cases wr<;>exact a
def a5a(M:∀c,C.SB c->c<C.B0)(I:p.Inv m s gs v t){i}(T:i<s.sp.aU C.n){es}(q:oD C es)(N:Deaf t (C.N0+i)=1)(w:s'.sp=s.sp)(y:s'.cls=s.cls)(E:s'.cb=s.cb)(z:∀k,k<C.n->(s'.ph k).said=true->(s.ph k).said=true)(fn pos):C.fY s' m (t++MemOp.ofEvents (C.N0+i) fn pos es) v.heap.size:=by
 have f:∀l∈MemOp.ofEvents (C.N0+i) fn pos es,l.g=C.N0+i:=λl d=>by obtain⟨e,_,rfl⟩:=Go.Conc.mem_ofEvents d;rfl
 refine DT I.pos I.gi (C4 (nC I.cls w E y) M) (az _) (by rw[w]) (λk c h=>by grind[St.own]) (.inr ⟨a9h,a9h⟩) f (λl d a A U=>?_) (λl d=>?_) (λl d=>?_) (λk D K=>?_)
 .obtain⟨e,r,rfl⟩:=Go.Conc.mem_ofEvents d
  grind[EE]
 .obtain⟨e,r,rfl⟩:=Go.Conc.mem_ofEvents d;exact ED q (cV I.hp.rb) e r
 .obtain⟨e,r,rfl⟩:=Go.Conc.mem_ofEvents d
  grind[EF]
 .by_cases F:k=i
  .subst F;obtain⟨x,H,O⟩:=I.gi.rel k D (z k D K);refine⟨x,H.appOwn fn pos es λj e b=>?_,λj l a V d P A=>?_⟩;rotate_left
   .rcases getElem?_append_cases d with⟨_,L⟩|⟨_,J⟩
    .grind
    .obtain⟨e,b,rfl⟩:=Go.Conc.mem_ofEvents J;obtain⟨Q,_⟩|⟨o,wr,R,rfl⟩:=AE q e b
     .rw[Q]at A;cases A
     .cases wr<;>(simp[MemAct.ofEvent,MemAct.touch?]at A;grind[EB])
   rw[N];obtain⟨o,R,rfl|rfl|rfl|rfl⟩:=q
   .match j,b with
    |0,b=>simp at b;subst b;exact .inr ⟨⟨_,_,rfl⟩,by simp[deafBehind]⟩
    |1,b=>simp at b;subst b;exact .inr ⟨⟨_,_,rfl⟩,by simp[deafBehind,kn]⟩
    |n+2,b=>grind
   .match j,b with
    |0,b=>simp at b;subst b;exact .inr ⟨⟨_,_,rfl⟩,by simp[deafBehind]⟩
    |n+1,b=>grind
   .match j,b with
    |0,b=>simp at b;subst b;exact .inr ⟨⟨_,_,rfl⟩,by simp[deafBehind]⟩
    |n+1,b=>grind
   .match j,b with
    |0,b=>simp[semEvents]at b;subst b;exact .inl rfl
    |1,b=>simp[semEvents]at b;subst b;exact .inr ⟨⟨_,_,rfl⟩,by simp[deafBehind,semEvents]⟩
    |2,b=>simp[semEvents]at b;subst b;exact .inr ⟨⟨_,_,rfl⟩,by simp[deafBehind,semEvents]⟩
    |3,b=>simp[semEvents]at b;subst b;exact .inl rfl
    |n+4,b=>grind[semEvents]
  .exact mR I.gi D (z k D K) λl d S=>by have:=f l d;omega
def ya(f:C.dx s v.heap.size)(b:C.Shape v')(j:v'.heap.size=v.heap.size)(a:∀c,c≠C.r->v'.heap[c]?=v.heap[c]?)(k):C.Fr k (s.own k) v v':=by obtain⟨g,h,i⟩:=f.sh;refine yb b a9h (λc d=>a c λe=>?_) (a _ λe=>f.ge.2.2.2.1 e.symm);have:s.cls c=.wk k:=d;rw[e,g]at this;cases this
def Hq(h:p.Hp s v)(b:C.dx s v.heap.size)(f:v'.heap[C.r]?=some (C.fg (s'.G1.st (C.a1 s')) s'.G1.sm (s'.G2.st (C.a2 s')) s'.G2.sm))(a:∀c,c≠C.r->v'.heap[c]?=v.heap[c]?)(g:oo v'=oo v)(i:s'.sp.closed=s.sp.closed)(j:s'.sp.made C.n=s.sp.made C.n)(l:s'.sp.cB C.n=s.sp.cB C.n)(o:s'.cb=s.cb)(q:∀k,k<C.n->(s'.ph k).cC=(s.ph k).cC)(x:s.sp.made C.n<=C.n):p.Hp s' v':=by
 obtain⟨y,z,A⟩:=b.sh;refine⟨f,?_,?_,?_,g.trans h.os,?_⟩
 .rw[a _ λe=>b.ge.2.2.2.1 e.symm];exact h.tb
 .rw[a _ λe=>b.ge.2.2.2.2.1 e.symm,i];exact h.dc
 .intro c d;rw[a c (by have:=b.ge.1;omega)];exact h.old c d
 .intro k w;rw[j]at w;rw[l,o,q k a9h,a _ λe=>by have:=b.ch k w;rw[e,y]at this;cases this];exact h.ch k w
def Im(a:C.dJ s):s.sp.made C.n<=C.n:=by have:=a.lF;cases h:s.sp<;>rw[h]at this<;>simp[SP.made]at this⊢ <;>omega
def lU(h:C.dJ s){i}(E:i<C.n){X G1 G2 rk q cls}(h0:s.ph i≠.unborn)(F:X≠.unborn)(g:X=.park1->s.sp.cB C.n<=i)(j:X.cC=true->i<s.sp.cB C.n)(l:s.sp.closed=false->7<=X.num)(o:s.sp.closed=true->X.num<=8/\X≠.park2)(r:∀k,k<C.n->(upd s.ph i X k=.la1↔G1=.la k)/\(upd s.ph i X k=.lb1↔G1=.lb k)/\(upd s.ph i X k=.lc1↔G1=.lc k))(b:∀k,G1=.la k\/G1=.lb k\/G1=.lc k->k<C.n)(w:∀k,k<C.n->(upd s.ph i X k=.la2↔G2=.la k)/\(upd s.ph i X k=.lb2↔G2=.lb k)/\(upd s.ph i X k=.lc2↔G2=.lc k))(c:∀k,G2=.la k\/G2=.lb k\/G2=.lc k->k<C.n)(y:G1.zz (cnt (λk=>(upd s.ph i X k).cX) C.n))(z:G2.zz (cnt (λk=>(upd s.ph i X k).cY) C.n))(A:s.sp.jH G1)(D:s.sp.lj G2):C.dJ {s with ph:=upd s.ph i X,rk:=rk,q:=q,cls:=cls,G1:=G1,G2:=G2}:=by
 have d:∀{Q:Nat->Ph->Prop},(∀k,k<C.n->k≠i->Q k (s.ph k))->Q i X->∀k,k<C.n->Q k (upd s.ph i X k):=by
  grind[upd_same,upd_ne]
 refine⟨h.n8,h.lF,?_,?_,?_,λf=>?_,λf=>?_,r,b,w,c,y,z,A,D,h.oI⟩
 .refine d (Q:=λk x=>x=.unborn↔s.sp.aU C.n<=k) (λk a _=>h.born k a) ⟨λe=>absurd e F,λe=>absurd ((h.born i E).2 e) h0⟩
 .exact d (Q:=λk x=>x=.park1->s.sp.cB C.n<=k) (λk a _=>h.l9 k a) g
 .exact d (Q:=λk x=>x.cC=true->k<s.sp.cB C.n) (λk a _=>h.cC k a) j
 .exact d (Q:=λk x=>7<=x.num) (λk a _=>h.opened f k a) (l f)
 .exact d (Q:=λk x=>x.num<=8/\x≠.park2) (λk a _=>h.shut f k a) (o f)
def oZ{i}{X:Ph}{G:Gp}{n ph}(h:∀k,k<n->(ph k=.la1↔G=.la k)/\(ph k=.lb1↔G=.lb k)/\(ph k=.lc1↔G=.lc k))(h0:ph i≠.la1/\ph i≠.lb1/\ph i≠.lc1)(a:X≠.la1/\X≠.lb1/\X≠.lc1):∀k,k<n->(upd ph i X k=.la1↔G=.la k)/\(upd ph i X k=.lb1↔G=.lb k)/\(upd ph i X k=.lc1↔G=.lc k):=by
 grind[upd_same,upd_ne]
def o5{i}{X:Ph}{G:Gp}{n ph}(h:∀k,k<n->(ph k=.la2↔G=.la k)/\(ph k=.lb2↔G=.lb k)/\(ph k=.lc2↔G=.lc k))(h0:ph i≠.la2/\ph i≠.lb2/\ph i≠.lc2)(a:X≠.la2/\X≠.lb2/\X≠.lc2):∀k,k<n->(upd ph i X k=.la2↔G=.la k)/\(upd ph i X k=.lb2↔G=.lb k)/\(upd ph i X k=.lc2↔G=.lc k):=by
 grind[upd_same,upd_ne]
end
def L8(a b:Nat)(e:1<=a)(f:a<=8)(g:b<=1):IntKind.u64.wrap ((a:Int)*KK+b+18446744069414584320)=((a - 1:Nat):Int)*KK+b:=by
 have c:b=0\/b=1:=a9h
 have d:a=1\/a=2\/a=3\/a=4\/a=5\/a=6\/a=7\/a=8:=a9h
 obtain rfl|rfl:=c<;>obtain rfl|rfl|rfl|rfl|rfl|rfl|rfl|rfl:=d<;>decide
section
variable{C:aI}{p:ci C}{s:St}{v v1:aa}{Y t u:bm}{gs:Array aw}{B Z:Nat}
def cJ{o:Nat}{x:aj}:(∀c,c≠C.r->(v.setCell (C.ca o) x).heap[c]?=v.heap[c]?)/\(v.setCell (C.ca o) x).heap.size=v.heap.size/\oo (v.setCell (C.ca o) x)=oo v:=
 ⟨λc a=>qW a,a9i,rfl⟩
def mS(N:p.Ok)(O:∀c,C.SB c->c<C.B0)(I:p.Inv Y s gs v t){i:Nat}(J:i<s.sp.aU C.n){g g':aw}{es:Array aT}{sl:Option (Nat×Nat)}(Q:gs[C.N0+i]?=some g)(y:stepG C.P false g v=.go g' v1 es)(a:oD C es)(K:Deaf t (C.N0+i)=1)(X:Ph)(ρ:Rk)(m:Nat)(G1 G2:Gp)(d:∀c,c≠C.r->v1.heap[c]?=v.heap[c]?)(z:v1.heap.size=v.heap.size)(A:oo v1=oo v)(D:v1.heap[C.r]?=some (C.fg (G1.st (cnt (λk=>(upd s.ph i X k).cX) C.n)) G1.sm (G2.st (cnt (λk=>(upd s.ph i X k).cY) C.n)) G2.sm))(R:X.cC=(s.ph i).cC)(S:X.said=true->(s.ph i).said=true)(e:X.num<(s.ph i).num)(V:C.Fr i (s.own i) v v1->p.fa i (s.cb i) X ρ m (s.own i) 1 g' v1)(f:C.dJ {s with ph:=upd s.ph i X,rk:=upd s.rk i ρ,q:=upd s.q (C.N0+i) m,G1:=G1,G2:=G2}\/(mayWake C.P g=true/\g'.status=.running/\∃b,s.sp=.sb b/\C.dJ (St.cD {s with ph:=upd s.ph i X,rk:=upd s.rk i ρ,q:=upd s.q (C.N0+i) m,G1:=G1,G2:=G2} b))):∃h L l o,runT C.P (crowd gs v sl) (C.N0+i)=(.next (crowd h L sl),l)/\p.Inv Y o h L (t++l)/\C.Down o s:=by
 let s':St:={s with ph:=upd s.ph i X,rk:=upd s.rk i ρ,q:=upd s.q (C.N0+i) m,G1:=G1,G2:=G2};have w:p.Hp s' v1:=Hq I.hp I.cls D d A rfl rfl rfl rfl (λk x=>by
  grind[upd_same,upd_ne]) (Im I.ctl)
 have E:=ya I.cls (gA w) z d;have F:C.fY s' Y (t++MemOp.ofEvents (C.N0+i) g.frame.fn g.frame.place es) v1.heap.size:=by
  rw[z];refine a5a (s':=s') O I J a K rfl rfl rfl (λk x W=>?_) _ _
  grind[upd_same,upd_ne]
 have T:=yx (s':=s') (sl:=sl) N I J Q y (λk x=>⟨upd_ne _ _ x,upd_ne _ _ x⟩) (λj U=>upd_ne _ _ U) rfl (λ_ _=>rfl) rfl rfl
  (by
   rw[K,OL a];show p.fa i (s.cb i) (upd s.ph i X i) (upd s.rk i ρ i) (upd s.q (C.N0+i) m (C.N0+i)) (s.own i) 1 g' v1;rw[upd_same,upd_same,upd_same];simp_all) (λk _=>E k) w (by rw[z];exact nC I.cls rfl rfl rfl) f F ?_
 .grind
 .have H: ¬(C.N0+i<C.N0):=a9h
  have M:C.N0+i - C.N0=i:=a9h
  simp[aI.dM,H,s',upd_same];exact .num e
def CG{sp:SP}{G G':Gp}(h:sp.jH G)(a:G≠.idle)(b:G≠.over)(c:G'≠.idle)(d:G'≠.over)(e:G'≠.rel):sp.jH G':=by unfold SP.jH at h⊢;split at h<;>first|exact absurd h a|exact absurd h b|simp_all|simp_all
def CH{sp:SP}{G G':Gp}(h:sp.lj G)(a:G≠.idle)(b:G≠.over)(c:G'≠.idle)(d:G'≠.over)(e:G'≠.rel):sp.lj G':=by unfold SP.lj at h⊢;split at h<;>first|exact absurd h a|exact absurd h b|simp_all|simp_all
def Oa{i:Nat}(a:i<C.n){X:Ph}(h:(s.ph i).cX=true)(b:X.cX=false):C.a1 s=cnt (λk=>(upd s.ph i X k).cX) C.n+1:=
 AU (f:=λk=>(s.ph k).cX) (g:=λk=>(upd s.ph i X k).cX) h (by grind[upd_same]) (λj c=>by grind[upd_ne]) a
def Ob{i:Nat}(a:i<C.n){X:Ph}(h:(s.ph i).cY=true)(b:X.cY=false):C.a2 s=cnt (λk=>(upd s.ph i X k).cY) C.n+1:=
 AU (f:=λk=>(s.ph k).cY) (g:=λk=>(upd s.ph i X k).cY) h (by grind[upd_same]) (λj c=>by grind[upd_ne]) a
def lN{i:Nat}{X:Ph}(h:X.cX=(s.ph i).cX):cnt (λk=>(upd s.ph i X k).cX) C.n=C.a1 s:=
 oM λk _=>by
  grind[upd_same,upd_ne]
def lO{i:Nat}{X:Ph}(h:X.cY=(s.ph i).cY):cnt (λk=>(upd s.ph i X k).cY) C.n=C.a2 s:=
 oM λk _=>by
  grind[upd_same,upd_ne]
def Hi{i n:Nat}{X:Ph}{G a:Gp}{ph:Nat->Ph}(h:∀k,k<n->(ph k=.la1↔G=.la k)/\(ph k=.lb1↔G=.lb k)/\(ph k=.lc1↔G=.lc k))(d:∀k,k≠i->G≠.la k/\G≠.lb k/\G≠.lc k)(g:(X=.la1/\a=.la i)\/(X=.lb1/\a=.lb i)\/(X=.lc1/\a=.lc i)\/((X≠.la1/\X≠.lb1/\X≠.lc1)/\∀k,a≠.la k/\a≠.lb k/\a≠.lc k)):∀k,k<n->(upd ph i X k=.la1↔a=.la k)/\(upd ph i X k=.lb1↔a=.lb k)/\(upd ph i X k=.lc1↔a=.lc k):=by
 intro k f;by_cases e:k=i
 .subst e;rw[upd_same]
  grind
 .rw[upd_ne _ _ e];have b:=h k f;have c:=d k e;have j:ph k≠.la1:=λx=>c.1 (b.1.1 x);have l:ph k≠.lb1:=λx=>c.2.1 (b.2.1.1 x);have o:ph k≠.lc1:=λx=>c.2.2 (b.2.2.1 x);have q: ¬i=k:=λx=>e x.symm
  grind
def Hj{i n:Nat}{X:Ph}{G a:Gp}{ph:Nat->Ph}(h:∀k,k<n->(ph k=.la2↔G=.la k)/\(ph k=.lb2↔G=.lb k)/\(ph k=.lc2↔G=.lc k))(d:∀k,k≠i->G≠.la k/\G≠.lb k/\G≠.lc k)(g:(X=.la2/\a=.la i)\/(X=.lb2/\a=.lb i)\/(X=.lc2/\a=.lc i)\/((X≠.la2/\X≠.lb2/\X≠.lc2)/\∀k,a≠.la k/\a≠.lb k/\a≠.lc k)):∀k,k<n->(upd ph i X k=.la2↔a=.la k)/\(upd ph i X k=.lb2↔a=.lb k)/\(upd ph i X k=.lc2↔a=.lc k):=by
 intro k f;by_cases e:k=i
 .subst e;rw[upd_same]
  grind
 .rw[upd_ne _ _ e];have b:=h k f;have c:=d k e;have j:ph k≠.la2:=λx=>c.1 (b.1.1 x);have l:ph k≠.lb2:=λx=>c.2.1 (b.2.1.1 x);have o:ph k≠.lc2:=λx=>c.2.2 (b.2.2.1 x);have q: ¬i=k:=λx=>e x.symm
  grind
end
section
variable{C:aI}{p:ci C}{s:St}{v v1:aa}{t0 t u:bm}{gs:Array aw}{B B':Nat}
abbrev ci.Goes(p:ci C)(t0:bm)(s:St)(gs:Array aw)(v:aa)(t:bm)(j:Nat)(sl:Option (Nat×Nat)):Prop:=
 ∃a d b c,runT C.P (crowd gs v sl) j=(.next (crowd a d sl),b)/\p.Inv t0 c a d (t++b)/\C.Down c s
def Lb(h:p.Hp s v)(g:C.dx s v.heap.size){o x}(i:∃a b c d,(v.setCell (C.ca o) x).heap[C.r]?=some (C.fg a b c d)):C.Shape (v.setCell (C.ca o) x):=
 ⟨i,by rw[cJ.1 _ λe=>g.ge.2.2.2.1 e.symm];exact h.tb,λc f=>by rw[cJ.1 c (by have:=g.ge.1;omega)];exact h.old c f,h.os,by rw[cJ.2.1];exact cV h.dc⟩
def a3H(h:p.Hp s v)(a:C.dx s v.heap.size)(x):C.Shape (v.setCell (C.ca 1) (.int .u64 x)):=Lb h a ⟨x,s.G1.sm,s.G2.st (C.a2 s),s.G2.sm,by rw[show(C.ca 1)=⟨C.r,1,none⟩from rfl,gz h.rb];simp[aI.fg]⟩
def La(h:p.Hp s v)(a:C.dx s v.heap.size)(x):C.Shape (v.setCell (C.ca 2) (.int .u32 x)):=Lb h a ⟨s.G1.st (C.a1 s),x,s.G2.st (C.a2 s),s.G2.sm,by rw[show(C.ca 2)=⟨C.r,2,none⟩from rfl,gz h.rb];simp[aI.fg]⟩
def a9M(E:p.Ok)(Y:∀c,C.SB c->c<C.B0)(I:p.Inv t0 s gs v t){i}(R:i<s.sp.aU C.n){g sl}(Z:gs[C.N0+i]?=some g)(d:s.ph i=.work)(hA:p.AD 1 i (s.cb i) g)(hd:Deaf t (C.N0+i)=1)(hT:p.TD i (s.own i) v):p.Goes t0 s gs v t (C.N0+i) sl:=by
 have j:i<C.n:=bL R (gV I.ctl);obtain⟨_,g1,A,⟨ae,S⟩,F,T⟩:=E.ad _ _ _ _ hA;have hb:(s.ph i).cX=true:=by rw[d];rfl
 have U:C.a1 s<=8:=dt (ul _ _) I.ctl.n8;have h7:s.ph i≠.unborn:=by rw[d];decide
 have o:i<s.sp.cB C.n:=I.ctl.cC i j (by rw[d];rfl);have l:=A v _ (Hp.pV I.hp) (Hp.thaw I.hp 1);have f:∀X:Ph,X.cX=false->C.a1 s=cnt (λk=>(upd s.ph i X k).cX) C.n+1:=λX hX=>Oa j hb hX;have H:0<C.a1 s:=by have:=f .dP rfl;omega
 have J:s.G1=.idle\/s.G1=.reg:=by have:=I.ctl.z1;cases h:s.G1<;>rw[h]at this<;>first|exact .inl rfl|exact .inr rfl|(simp only[Gp.zz]at this;omega)
 have q:∀k,s.G1≠.la k/\s.G1≠.lb k/\s.G1≠.lc k:=λk=>by obtain h|h:=J<;>rw[h]<;>simp
 have K:s.ph i≠.la2/\s.ph i≠.lb2/\s.ph i≠.lc2:=by rw[d];decide
 have V:s.ph i≠.la1/\s.ph i≠.lb1/\s.ph i≠.lc1:=by rw[d];decide
 have ab:s.sp.closed=false->8<=(s.ph i).num:=λh=>by have:=I.ctl.opened h i j;rw[d]at this⊢;simp[Ph.num]at this⊢
 have D:s.sp.closed=true->(s.ph i).num<=8:=λh=>(I.ctl.shut h i j).1;by_cases a:s.G1=.reg/\C.a1 s=1
 .
  have w:IntKind.u64.wrap (s.G1.st (C.a1 s)+18446744069414584320)=1:=by rw[a.1,a.2];decide
  rw[w]at l;have L:cnt (λk=>(upd s.ph i .la1 k).cX) C.n=0:=by have:=f .la1 rfl;omega
  have x:cnt (λk=>(upd s.ph i .la1 k).cY) C.n=C.a2 s:=lO (by rw[d];rfl);obtain⟨m,g',hQ,hL⟩:=S;refine mS E Y I R Z l ⟨1,a9i,.inl rfl⟩ hd .la1 .leaf m (.la i) s.G2 cJ.1 cJ.2.1 cJ.2.2 ?_ (by rw[d];rfl) (by intro h;cases h) (by rw[d];decide) (λQ=>⟨E.td _ _ _ _ hT Q,g',hQ,hL⟩) (.inl ?_)
  .rw[show(C.ca 1)=⟨C.r,1,none⟩from rfl,gz I.hp.rb,L,x];simp[aI.fg,Gp.st,Gp.sm,a.1]
  .refine lU I.ctl j h7 a9j (λe=>by cases e) (λ_=>o) (λh=>?_) (λh=>?_) ?_ ?_ ?_ ?_ ?_ ?_ ?_ ?_
   .decide
   .have:=D h;rw[d]at this;exact absurd this a9j
   .exact Hi I.ctl.g1 (λk _=>q k) (.inl ⟨rfl,rfl⟩)
   .exact λk hk=>by obtain e|e|e:=hk<;>cases e;exact j
   .exact o5 I.ctl.g2 K a9j
   .exact I.ctl.eJ
   .show cnt _ _=0;exact L
   .rw[x];exact I.ctl.z2
   .exact CG I.ctl.s1 (by rw[a.1];simp) (by rw[a.1];simp) a9i a9i a9i
   .exact I.ctl.s2
 .
  obtain⟨b,M,y⟩:∃b:Nat,b<=1/\s.G1.st (C.a1 s)=(C.a1 s:Int)*KK+b/\(b=1->s.G1=.reg)/\(b=0->s.G1=.idle):=by
   obtain h|h:=J
   .exact⟨0,a9h,by rw[h];simp[Gp.st],λe=>a9h,λ_=>h⟩
   .exact⟨1,a9h,by rw[h];simp[Gp.st],λ_=>h,λe=>a9h⟩
  have w:IntKind.u64.wrap (s.G1.st (C.a1 s)+18446744069414584320)=((C.a1 s - 1:Nat):Int)*KK+b:=by rw[y.1];exact L8 _ _ H U M
  rw[w]at l;have N:cnt (λk=>(upd s.ph i .dP k).cX) C.n=C.a1 s - 1:=by have:=f .dP rfl;omega
  have x:cnt (λk=>(upd s.ph i .dP k).cY) C.n=C.a2 s:=lO (by rw[d];rfl);have O: ¬(C.a1 s - 1=0/\b=1):=λ⟨h1,h2⟩=>a ⟨y.2.1 h2,a9h⟩;have hw:=λ(Q:C.Fr i (s.own i) v (v.setCell (C.ca 1) (.int .u64 (((C.a1 s - 1:Nat):Int)*KK+b))))=>(F rfl (C.a1 s - 1) b a9h M O).2 (s.own i) _ Q.shape (vQ I.cls cJ.2.1 i) (E.td _ _ _ _ hT Q);have z:=a3H I.hp I.cls (((C.a1 s - 1:Nat):Int)*KK+b);obtain⟨ρ,hρ⟩:=hw (ya I.cls z cJ.2.1 cJ.1 i);refine mS E Y I R Z l ⟨1,a9i,.inl rfl⟩ hd .dP ρ 0 s.G1 s.G2 cJ.1 cJ.2.1 cJ.2.2 ?_ (by rw[d];rfl) (by intro h;cases h) (by rw[d];decide) (λ_=>hρ) (.inl ?_)
  .rw[show(C.ca 1)=⟨C.r,1,none⟩from rfl,gz I.hp.rb,N,x];have ao:s.G1.sm=0:=by obtain h|h:=J<;>rw[h]<;>rfl
   have P:s.G1.st (C.a1 s - 1)=((C.a1 s - 1:Nat):Int)*KK+b:=by
    obtain h|h:=J
    .have:b=0:=by apply eQ;intro W;have:=y.2.1 a9h;rw[h]at this;cases this
     subst this;rw[h];simp[Gp.st]
    .have:b=1:=by apply eQ;intro W;have:=y.2.2 a9h;rw[h]at this;cases this
     subst this;rw[h];simp[Gp.st]
   rw[P];simp[aI.fg]
  .refine lU I.ctl j h7 a9j (λe=>by cases e) (λ_=>o) (λh=>?_) (λh=>?_) ?_ ?_ ?_ ?_ ?_ ?_ ?_ ?_
   .decide
   .decide
   .exact oZ I.ctl.g1 V a9j
   .exact I.ctl.eI
   .exact o5 I.ctl.g2 K a9j
   .exact I.ctl.eJ
   .rw[N];obtain h|h:=J
    .rw[h];trivial
    .rw[h];show 0<_;have:C.a1 s≠1:=λe=>a ⟨h,e⟩;omega
   .rw[x];exact I.ctl.z2
   .exact I.ctl.s1
   .exact I.ctl.s2
def Og(F:p.Ok)(Z:∀c,C.SB c->c<C.B0)(I:p.Inv t0 s gs v t){i}(Q:i<s.sp.aU C.n){g sl}(hg:gs[C.N0+i]?=some g)(a:s.ph i=.hush)(hA:p.AD 4 i (s.cb i) g)(hd:Deaf t (C.N0+i)=1)(hT:p.TD i (s.own i) v):p.Goes t0 s gs v t (C.N0+i) sl:=by
 have j:i<C.n:=bL Q (gV I.ctl);obtain⟨_,g1,D,⟨ae,R⟩,ab,E⟩:=F.ad _ _ _ _ hA;have hb:(s.ph i).cY=true:=by rw[a];rfl
 have S:C.a2 s<=8:=dt (ul _ _) I.ctl.n8;have h7:s.ph i≠.unborn:=by rw[a];decide
 have o:i<s.sp.cB C.n:=I.ctl.cC i j (by rw[a];rfl);have l:=D v _ (Hp.pW I.hp) (Hp.thaw I.hp 4);have f:∀X:Ph,X.cY=false->C.a2 s=cnt (λk=>(upd s.ph i X k).cY) C.n+1:=λX hX=>Ob j hb hX;have H:0<C.a2 s:=by have:=f .leave rfl;omega
 have J:s.G2=.idle\/s.G2=.reg:=by have:=I.ctl.z2;cases h:s.G2<;>rw[h]at this<;>first|exact .inl rfl|exact .inr rfl|(simp only[Gp.zz]at this;omega)
 have w:∀k,s.G2≠.la k/\s.G2≠.lb k/\s.G2≠.lc k:=λk=>by obtain h|h:=J<;>rw[h]<;>simp
 have K:s.ph i≠.la1/\s.ph i≠.lb1/\s.ph i≠.lc1:=by rw[a];decide
 have T:s.ph i≠.la2/\s.ph i≠.lb2/\s.ph i≠.lc2:=by rw[a];decide
 have A:s.sp.closed=false->8<=(s.ph i).num:=λh=>by have:=I.ctl.opened h i j;rw[a]at this⊢;simp[Ph.num]at this⊢
 have U:s.sp.closed=true->(s.ph i).num<=8:=λh=>(I.ctl.shut h i j).1;by_cases d:s.G2=.reg/\C.a2 s=1
 .
  have x:IntKind.u64.wrap (s.G2.st (C.a2 s)+18446744069414584320)=1:=by rw[d.1,d.2];decide
  rw[x]at l;have L:cnt (λk=>(upd s.ph i .la2 k).cY) C.n=0:=by have:=f .la2 rfl;omega
  have y:cnt (λk=>(upd s.ph i .la2 k).cX) C.n=C.a1 s:=lN (by rw[a];rfl);obtain⟨m,g',V,hL⟩:=R;refine mS F Z I Q hg l ⟨4,a9i,.inl rfl⟩ hd .la2 .leaf m s.G1 (.la i) cJ.1 cJ.2.1 cJ.2.2 ?_ (by rw[a];rfl) (by intro _;rw[a];rfl) (by rw[a];decide) (λW=>⟨F.td _ _ _ _ hT W,g',V,hL⟩) (.inl ?_)
  .rw[show(C.ca 4)=⟨C.r,4,none⟩from rfl,gz I.hp.rb,L,y];simp[aI.fg,Gp.st,Gp.sm,d.1]
  .refine lU I.ctl j h7 a9j (λe=>by cases e) (λ_=>o) (λh=>?_) (λh=>?_) ?_ ?_ ?_ ?_ ?_ ?_ ?_ ?_
   .have:=A h;rw[a]at this;exact absurd this a9j
   .decide
   .exact oZ I.ctl.g1 K a9j
   .exact I.ctl.eI
   .exact Hj I.ctl.g2 (λk _=>w k) (.inl ⟨rfl,rfl⟩)
   .exact λk hk=>by obtain e|e|e:=hk<;>cases e;exact j
   .rw[y];exact I.ctl.z1
   .show cnt _ _=0;exact L
   .exact I.ctl.s1
   .exact CH I.ctl.s2 (by rw[d.1];simp) (by rw[d.1];simp) a9i a9i a9i
 .
  obtain⟨b,M,z⟩:∃b:Nat,b<=1/\s.G2.st (C.a2 s)=(C.a2 s:Int)*KK+b/\(b=1->s.G2=.reg)/\(b=0->s.G2=.idle):=by
   obtain h|h:=J
   .exact⟨0,a9h,by rw[h];simp[Gp.st],λe=>a9h,λ_=>h⟩
   .exact⟨1,a9h,by rw[h];simp[Gp.st],λ_=>h,λe=>a9h⟩
  have x:IntKind.u64.wrap (s.G2.st (C.a2 s)+18446744069414584320)=((C.a2 s - 1:Nat):Int)*KK+b:=by rw[z.1];exact L8 _ _ H S M
  rw[x]at l;have N:cnt (λk=>(upd s.ph i .leave k).cY) C.n=C.a2 s - 1:=by have:=f .leave rfl;omega
  have y:cnt (λk=>(upd s.ph i .leave k).cX) C.n=C.a1 s:=lN (by rw[a];rfl);have O: ¬(C.a2 s - 1=0/\b=1):=λ⟨h1,h2⟩=>d ⟨z.2.1 h2,a9h⟩;obtain⟨_,q,V⟩:=E rfl (C.a2 s - 1) b a9h M O;refine mS F Z I Q hg l ⟨4,a9i,.inl rfl⟩ hd .leave .leaf q s.G1 s.G2 cJ.1 cJ.2.1 cJ.2.2 ?_ (by rw[a];rfl) (λ_=>by rw[a];rfl) (by rw[a];decide) (λW=>⟨F.td _ _ _ _ hT W,V⟩) (.inl ?_)
  .rw[show(C.ca 4)=⟨C.r,4,none⟩from rfl,gz I.hp.rb,N,y];have ao:s.G2.sm=0:=by obtain h|h:=J<;>rw[h]<;>rfl
   have P:s.G2.st (C.a2 s - 1)=((C.a2 s - 1:Nat):Int)*KK+b:=by
    obtain h|h:=J
    .have:b=0:=by apply eQ;intro Y;have:=z.2.1 a9h;rw[h]at this;cases this
     subst this;rw[h];simp[Gp.st]
    .have:b=1:=by apply eQ;intro Y;have:=z.2.2 a9h;rw[h]at this;cases this
     subst this;rw[h];simp[Gp.st]
   rw[P];simp[aI.fg]
  .refine lU I.ctl j h7 a9j (λe=>by cases e) (λ_=>o) (λh=>?_) (λh=>?_) ?_ ?_ ?_ ?_ ?_ ?_ ?_ ?_
   .have:=A h;rw[a]at this;exact absurd this a9j
   .decide
   .exact oZ I.ctl.g1 K a9j
   .exact I.ctl.eI
   .exact o5 I.ctl.g2 T a9j
   .exact I.ctl.eJ
   .rw[y];exact I.ctl.z1
   .rw[N];obtain h|h:=J
    .rw[h];trivial
    .rw[h];show 0<_;have:C.a2 s≠1:=λe=>d ⟨h,e⟩;omega
   .exact I.ctl.s1
   .exact I.ctl.s2
end
end Go.Mir
end
