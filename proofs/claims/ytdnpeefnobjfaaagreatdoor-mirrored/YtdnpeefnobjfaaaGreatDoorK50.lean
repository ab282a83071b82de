import Derived.Test.YtdnpeefnobjfaaaGreatDoorK13
import Derived.Test.YtdnpeefnobjfaaaGreatDoorK27
import Derived.Test.YtdnpeefnobjfaaaGreatDoorK44
import Derived.Test.YtdnpeefnobjfaaaGreatDoorK48
import Derived.Test.YtdnpeefnobjfaaaGreatDoorK49
set_option maxRecDepth 100000
set_option maxHeartbeats 4000000
set_option linter.all false
section
namespace Go.Proofs.Each
open Go.Conc Go.Mir
theorem f205:Tryz.prog.funcs[205]?=some Tryz.f205:=by kernel_rfl
theorem QL:(Tryz.f205.name== "runtime.NumGoroutine")=false:=by kernel_rfl
theorem QJ:Tryz.f205.body.isNone=true:=by kernel_rfl
theorem QM:Extern.findNext Tryz.f205=none:=by kernel_rfl
theorem QK:Extern.find Tryz.f205=some Extern.Sync.semrelease:=by kernel_rfl
noncomputable def Zb(a:Bool)(b o:Nat)(cs:List ah):Array Operand:=match (cI (kU a b o cs)).op with
 | .call c=>c.args
 |_=> #[]
def Da{a b o cs w x}(c:w.cell? ⟨b,o+1,none⟩=some (.int .u32 x))(d:w.frozen? ⟨b,o+1,none⟩=false):stepG Tryz.prog false (kU a b o cs) w=.go (pG a b o cs) (w.setCell ⟨b,o+1,none⟩ (.int .u32 (IntKind.u32.wrap (x+1)))) (semEvents ⟨b,o+1,none⟩):=
 a0P (Oe a b o cs) (show(cI (kU a b o cs)).op=.call {callee:=.value (.func 205),args:=Zb a b o cs,argTypes:=#[316,4,3]}by cases a<;>kernel_rfl) f205 QL QJ QM QK (by cases a<;>kernel_rfl) c d
def Dc{a b o cs}:mayWake Tryz.prog (kU a b o cs)=true:=by cases a<;>kernel_rfl
def NA{w c}(h:w.heap[c]?=some (.chan 0 #[] false 0 0 false)):(do pure (Next.value (<-Builtin.close_ #[252] 0 #[.chan (some c)])):Sem Next).runT Tryz.prog w #[]=(.ok (.value (.tuple #[])) (w.setChan c 0 #[] true 0 0 false),#[⟨.obj c,false,true⟩,⟨.obj c,true,true⟩]):=by
 have a:=run_close_open (P:=Tryz.prog) (w:=w) #[252] 0 h;have b:=events_close_open (P:=Tryz.prog) (w:=w) (es:=#[]) #[252] 0 h;refine km ?_ ?_
 .rw[Sem.runT_fst,Sem.run_bind,a];rfl
 .show Sem.events Tryz.prog _ w #[]=_;rw[Sem.events_bind,a,b];rfl
section
variable{C:aI}{K:Bool}{bx:Nat}{L:List af}{cs:List ah}{D:Nat->Prop}{aj:Nat->Nat}{y:aa}{l ao:Option ap}{len cap np:Nat}{vals:Nat->List af}
def UG(a:C.P=⟨Tryz.progTables,Tryz.funcs⟩){o cf u}(c:Cf C K bx L o cf):C.To true C.d9 1 (j6 C.r o (cf::cs) u 0) 0 ((gZ C K bx L cs ao len cap np vals).AQ o):=by have d:=xP (b:=C.r) (o:=o) (cs:=cf::cs) (u:=u);refine dE a (a4v C.r o (cf::cs) u) (lX a #[⟨.mark .enable,false,true⟩] d.2.1 (λv _=>a4t C.r o (cf::cs) u v) (zk rfl trivial (by simp)) ?_);refine dE a (a4w C.r o (cf::cs) u) (lX a #[] d.2.2.1 (λv e=>?_) (by simp) (gN ⟨cf,u,c,.inl rfl⟩));obtain⟨x,f⟩:=xn e o (by obtain h|h:=uq c<;>omega);exact a4s C.r o (cf::cs) u f
def UE(c:C.P=⟨Tryz.progTables,Tryz.funcs⟩){o cf u}(d:Cf C K bx L o cf)(m:Nat)(a:1<=m)(b:m<=8):C.To true C.d9 1 (j6 C.r o (cf::cs) u ((m:Int)*KK)) 1 ((gZ C K bx L cs ao len cap np vals).CA o m):=
 dE c (tK C.r o (cf::cs) u m a b).s1 (gN ⟨cf,u,d,⟨a,b⟩,rfl⟩)
def UB(a:C.P=⟨Tryz.progTables,Tryz.funcs⟩){o cf u}(v s)(h:v.cell? (C.ca o)=some (.int .u64 s)):stepG C.P true (mW C.r o (cf::cs) u) v=.go (j6 C.r o (cf::cs) u s) v #[jT C o]:=by rw[a];exact a3Q C.r o (cf::cs) u h
def UD(J:na C D aj y l ao len cap np vals):∀o g,(gZ C K bx L cs ao len cap np vals).LW o g->g.status=.running/\∃c:Int->aw,(∀v s,v.cell? (C.ca o)=some (.int .u64 s)->stepG C.P true g v=.go (c s) v #[jT C o])/\(c 0).status=.running/\C.To true C.d9 1 (c 0) 0 ((gZ C K bx L cs ao len cap np vals).AQ o)/\∀m:Nat,1<=m->m<=8->(c (m*KK)).status=.running/\C.To true C.d9 1 (c (m*KK)) 1 ((gZ C K bx L cs ao len cap np vals).CA o m):=by rintro o g ⟨cf,u,j,e⟩;rw[e];refine⟨(xP (b:=C.r) (o:=o) (cs:=cf::cs) (u:=u)).1,?_⟩;have f:=UB (cs:=cs) (cf:=cf) (u:=u) (o:=o) J.P;have h:=UG (cs:=cs) (ao:=ao) (len:=len) (cap:=cap) (np:=np) (vals:=vals) (u:=u) J.P j;have i:=UE (cs:=cs) (ao:=ao) (len:=len) (cap:=cap) (np:=np) (vals:=vals) (u:=u) J.P j;have d:∀s:Int,(j6 C.r o (cf::cs) u s).status=.running:=λs=>a3O;revert f h i d;generalize j6 C.r o (cf::cs) u=G;intro f h i d;exact⟨G,f,d 0,h,λm a b=>⟨d _,i m a b⟩⟩
def YA(J:na C D aj y l ao len cap np vals)(hn:C.n<=8)(hbx:C.v0.heap[bx]?=some (.cells #[.slice ao len cap] 120))(hb0:bx<C.B0)(hsb: ¬C.SB bx):(gZ C K bx L cs ao len cap np vals).Ok where
 td:=λi O v v' h hf=>qH h hf
 sI:=by rintro k g ⟨hk,u,hgo⟩;rw[hgo];refine⟨rfl,λc=>fin (an (or K bx C.r C.n k u L) cs) (.chan (some c)),λv _=>by rw[J.P];exact OR K bx C.r C.n k u L cs v,λc=>⟨rfl,?_⟩⟩;obtain⟨u1,h1⟩:=OQ K bx C.r C.n k u L cs c;exact dE J.P h1 (gN ⟨hk,u1,rfl⟩)
 go:=by
  rintro k c g ⟨hk,u,hgo⟩;rw[hgo];refine⟨rfl,_,_,λv=>by rw[J.P];exact OG K bx C.r C.n k u L cs v c,?_,λv hv=>?_⟩
  .obtain⟨u1,h1⟩:=OF K bx C.r C.n k u L cs c;obtain⟨u2,h2⟩:=OO K bx C.r C.n k u1 L cs c ao len cap;refine dE J.P h1 (lX J.P #[⟨.cell ⟨bx,0,none⟩,false,false⟩] rfl (λv hv=>?_) (Er (.inl ⟨hb0,hsb⟩) (by have:=J.ge.1;simp only;omega)) (gN ⟨hk,u2,h2⟩));have hc:v.cell? ⟨bx,0,none⟩=some (.slice ao len cap):=(a5L ((hv.old bx hb0).trans hbx) 0).trans rfl;have:=i9 (v:=.agg #[.slice ao len cap]) (ON K bx C.r C.n k u1 L cs v c) (by rw[oK hc];rfl) (OP K bx C.r C.n k u1 L cs c);exact this.trans (congrArg (λx=>GStep.go _ v x) (by kernel_rfl))
  .refine jB (by rw[J.P];exact M8 C.r k c) (λv' hf=>Y6 J.P hf.shape λv''=>⟨⟨hk,rfl⟩,rfl⟩) hv
 sn:=by
  rintro k c g ⟨hk,u,hgo⟩;rw[hgo];have hwrap:IntKind.i64.wrap ((k:Int)+1)=((k+1:Nat):Int):=by
   have:k=0\/k=1\/k=2\/k=3\/k=4\/k=5\/k=6\/k=7:=by omega
   obtain rfl|rfl|rfl|rfl|rfl|rfl|rfl|rfl:=this<;>decide
  obtain⟨u1,h1⟩:=O7 K bx C.r C.n k u L cs c ao len cap;rw[hwrap]at h1;obtain⟨u2,h2⟩:=Do K bx C.r C.n (k+1) u1 L cs;refine⟨rfl,λv=>by rw[J.P];exact O8 K bx C.r C.n k u L cs v c ao len cap,λhlt=>?_,λhe=>?_⟩
  .have hd:decide (((k+1:Nat):Int)<(C.n:Int))=true:=by simp;omega
   rw[hd]at h2;obtain⟨u3,h3⟩:=Dm K bx C.r C.n (k+1) u2 L cs;rw[J.P];exact dE J.P h1 (dE J.P h2 (dE J.P h3 (gN ⟨hlt,u3,rfl⟩)))
  .have hd:decide (((k+1:Nat):Int)<(C.n:Int))=false:=by simp;omega
   rw[hd]at h2;obtain⟨u3,h3⟩:=Dl K bx C.r C.n (k+1) u2 L cs;rw[J.P];exact dE J.P h1 (dE J.P h2 (dE J.P h3 (BQ J.P (.inl ⟨rfl,u3,rfl⟩))))
 lw:=UD J
 ca:=by
  rintro o m g ⟨cf,u,hc,hm,hgo⟩;rw[hgo];have F:=tK C.r o (cf::cs) u m hm.1 hm.2;obtain⟨r1,r2,rm,r3,r4,r6,r7,r8,r9,rA,rC,rD,rE⟩:=F.run;refine⟨r1,pp C.r o (cf::cs) u (m*KK),pm C.r o (cf::cs) u (m*KK),λv h1 h2=>by rw[J.P];exact F.sA v h1 h2,λv x h1 h2 h3=>by rw[J.P];exact F.FO v x h1 h2 h3,⟨r2,?_⟩,⟨rm,?_⟩⟩
  .refine dE J.P F.s2 (lX J.P #[] r3 (λv hv=>?_) (by simp) (lX J.P #[⟨.mark (.write ⟨C.r,o+1,none⟩),false,true⟩] r4 (λv _=>F.wr v) (Qz (by obtain h|h:=uq hc<;>subst h<;>simp)) (dE J.P F.s5 (gN ⟨cf,u,m,hc,hm,rfl⟩))));obtain⟨x,hx⟩:=xn hv (o+1) (by obtain h|h:=uq hc<;>omega);exact F.conv v x hx
  .obtain⟨u',h'⟩:=F.again;exact dE J.P h' (UF J.P hc)
 sa:=by rintro o g ⟨cf,u,m,hc,hm,hgo⟩;rw[hgo];have F:=tK C.r o (cf::cs) u m hm.1 hm.2;obtain⟨r1,r2,rm,r3,r4,r6,r7,r8,r9,rA,rC,rD,rE⟩:=F.run;exact⟨r6.1,r6.2,qS C.r o (cf::cs) u (m*KK),λv x h1 h2 h3=>by rw[J.P];exact F.E5 v x h1 h2 h3,λv h1=>by rw[J.P];exact F.wait v h1,r7,dE J.P F.s7 (gN ⟨cf,u,m,hc,hm,rfl⟩)⟩
 ld:=by rintro o g ⟨cf,u,m,hc,hm,hgo⟩;rw[hgo];have F:=tK C.r o (cf::cs) u m hm.1 hm.2;obtain⟨r1,r2,rm,r3,r4,r6,r7,r8,r9,rA,rC,rD,rE⟩:=F.run;refine⟨r8,pq C.r o (cf::cs) u (m*KK),λv h1=>by rw[J.P];exact F.ld v h1,r9,?_⟩;refine dE J.P F.s9 (lX J.P #[⟨.mark .enable,false,true⟩] rA (λv _=>F.en v) (zk rfl trivial (by simp)) (dE J.P F.sB (lX J.P #[] rC (λv hv=>?_) (by simp) (gN ⟨cf,u,hc,.inr ⟨m,hm,rfl⟩⟩))));obtain⟨x,hx⟩:=xn hv o (by obtain h|h:=uq hc<;>omega);exact F.C0 v x hx
 aq:=by
  rintro o g ⟨cf,u,hc,hgo|⟨m,hm,hgo⟩⟩<;>rw[hgo]
  .exact⟨xP.2.2.2.1,xO C.r o (cf::cs) u,λv _=>by rw[J.P];exact a4r C.r o (cf::cs) u v,xP.2.2.2.2.1,Ca J.P hc (a4u C.r o cs u cf)⟩
  .have F:=tK C.r o (cf::cs) u m hm.1 hm.2;obtain⟨r1,r2,rm,r3,r4,r6,r7,r8,r9,rA,rC,rD,rE⟩:=F.run;exact⟨rD,jD C.r o (cf::cs) u (m*KK),λv _=>by rw[J.P];exact F.acq v,rE,Ca J.P hc (F.ret cf cs rfl)⟩
 cl:=by
  rintro g ⟨u,hgo⟩;rw[hgo];refine⟨rfl,by rw[J.P];exact OC K bx C.r C.n u L cs C.dc,fin (an (mB K bx C.r C.n u L C.dc) cs) (.tuple #[]),rfl,λv hv=>?_,?_⟩
  .have:=i9 (v:=.tuple #[]) (Oz K bx C.r C.n u L cs v C.dc) (NA hv) (OA K bx C.r C.n u L cs C.dc);rw[J.P];exact this.trans (congrArg (λx=>GStep.go _ _ x) (by kernel_rfl))
  .obtain⟨u1,h1⟩:=OB K bx C.r C.n u L cs C.dc;exact dE J.P h1 (BQ J.P (.inr ⟨rfl,u1,rfl⟩))
 s1:=by rintro i c g ⟨hi,hgo⟩;rw[hgo];refine⟨by kernel_rfl,λv=>by rw[J.P];exact a3D C.r i c C.dc v,λO v hv hO=>?_⟩;rw[J.P];exact a3J (A:=(gZ C K bx L cs ao len cap np vals).uc i c) J hi hv hO λO v S hT=>⟨.inl ⟨rfl,S,rfl⟩,rfl,hT⟩
 ad:=by
  rintro o i c g (⟨rfl,S,hgo⟩|⟨rfl,S,hgo⟩)<;>rw[hgo]
  .refine⟨ol.2.2.2,λs=>mA false C.r 1 [lZ C.r i c C.dc S,bf] s,λv s h1 h2=>by rw[J.P];exact Dd false C.r 1 _ h1 h2,⟨iC.2.2.2.2.2.2.2,dE J.P (C6 false C.r 1 _) (gN (.inl ⟨rfl,S,rfl⟩))⟩,λ_ m b h1 h2 h3=>⟨(uy C.r 1 _ false h1 h2 h3).run.1,λO v hv hO hT=>?_⟩,λh=>(by cases h)⟩;have F:=uy C.r 1 [lZ C.r i c C.dc S,bf] false h1 h2 h3;exact Eg J.P F.s1 F.run.2 F.en (Oq C.r 1 [bf] (lZ C.r i c C.dc S) h1 h2 h3) hv λv' hf=>⟨⟨S,rfl⟩,rfl,qH hT hf⟩
  .refine⟨ol.2.2.2,λs=>mA true C.r 4 [lC C.r i c C.dc S,bf] s,λv s h1 h2=>by rw[J.P];exact Dd true C.r 4 _ h1 h2,⟨iC.2.2.2.2.2.2.2,dE J.P (C6 true C.r 4 _) (gN (.inr ⟨rfl,S,rfl⟩))⟩,λh=>(by cases h),λ_ m b h1 h2 h3=>⟨(uy C.r 4 _ true h1 h2 h3).run.1,?_⟩⟩;have F:=uy C.r 4 [lC C.r i c C.dc S,bf] true h1 h2 h3;obtain⟨g,hg,hf⟩:=On C.r i c C.dc S h1 h2 h3;rw[J.P];exact⟨_,Hu (n:=0) F.s1 F.run.2 F.en hg hf⟩
 la:=by
  rintro o i c g (⟨rfl,S,hgo⟩|⟨rfl,S,hgo⟩)<;>rw[hgo]
  .exact⟨iC.1,_,λv h=>by rw[J.P];exact C5 false C.r 1 _ h,iC.2.1,dE J.P (C7 false C.r 1 _) (gN (.inl ⟨rfl,S,rfl⟩))⟩
  .exact⟨iC.1,_,λv h=>by rw[J.P];exact C5 true C.r 4 _ h,iC.2.1,dE J.P (C7 true C.r 4 _) (gN (.inr ⟨rfl,S,rfl⟩))⟩
 lb:=by
  rintro o i c g (⟨rfl,S,hgo⟩|⟨rfl,S,hgo⟩)<;>rw[hgo]
  .exact⟨iC.2.2.1,_,λv x h1 h2=>by rw[J.P];exact Db false C.r 1 _ h1 h2,iC.2.2.2.1,dE J.P (C8 false C.r 1 _) (gN (.inl ⟨rfl,S,rfl⟩))⟩
  .exact⟨iC.2.2.1,_,λv x h1 h2=>by rw[J.P];exact Db true C.r 4 _ h1 h2,iC.2.2.2.1,dE J.P (C8 true C.r 4 _) (gN (.inr ⟨rfl,S,rfl⟩))⟩
 lc:=by
  rintro o i c g (⟨rfl,S,hgo⟩|⟨rfl,S,hgo⟩)<;>rw[hgo]
  .refine⟨iC.2.2.2.2.1,by rw[J.P];exact Dc,pG false C.r 1 [lZ C.r i c C.dc S,bf],iC.2.2.2.2.2.1,λv x h1 h2=>by rw[J.P];exact Da h1 h2,λ_ O v hv hO hT=>?_,λh=>(by cases h)⟩;exact Eg J.P (C9 false C.r 1 _) iC.2.2.2.2.2.2.1 (C4 false C.r 1 _) (Of C.r 1 [bf] (lZ C.r i c C.dc S)) hv λv' hf=>⟨⟨S,rfl⟩,rfl,qH hT hf⟩
  .refine⟨iC.2.2.2.2.1,by rw[J.P];exact Dc,pG true C.r 4 [lC C.r i c C.dc S,bf],iC.2.2.2.2.2.1,λv x h1 h2=>by rw[J.P];exact Da h1 h2,λh=>(by cases h),λ_=>?_⟩;obtain⟨g,hg,hf⟩:=YH C.r i c C.dc S.ao S.len S.k S.n S.x0 S.x1 S.x2 S.x3 S.x4 S.x5 S.x6 S.x7 S.x8;rw[J.P];exact⟨_,Hu (n:=0) (C9 true C.r 4 _) iC.2.2.2.2.2.2.1 (C4 true C.r 4 _) hg hf⟩
 s2:=by rintro i c g ⟨S,hgo⟩;rw[hgo];refine⟨a3r ..,λv=>by rw[J.P];exact a3s ..,λO v hv hO hT=>?_⟩;rw[J.P];refine jB (by rw[J.P];exact a3w C.r i c C.dc S.ao S.len S.k S.n S.x0 S.x1 S.x2 S.x3 S.x4 S.x5 S.x6 S.x7 S.x8) (λv1 hf1=>?_) hv;exact Dj J.P (by omega) hf1.shape λv2 hf2=>xE ⟨⟨S,rfl⟩,rfl,qH hT (hf1.trans hf2)⟩
 rl:=by rintro i c g ⟨S,hgo⟩;rw[hgo];refine⟨ol.2.1,rB true C.r 4 [lC C.r i c C.dc S,bf],λv=>by rw[J.P];exact Df true C.r 4 _ v,by kernel_rfl,?_⟩;exact dE J.P (Dg true C.r 4 _) (lX J.P #[⟨.mark .disable,false,true⟩] ol.2.2.1 (λv _=>De true C.r 4 _ v) (λe he=>by rw[lg he];rfl) (dE J.P (Dh true C.r 4 _) (gN (.inr ⟨rfl,S,rfl⟩))))
end
theorem yv:∀n,cnt (λ_=>true) n=n
 |0=>rfl
 |n+1=>by rw[cnt,yv n];rfl
noncomputable def gg(n N0 r tb dc B0:Nat)(SB:Nat->Prop)(v0:aa):aI:={P:=⟨Tryz.progTables,Tryz.funcs⟩,n,N0,r,tb,dc,B0,SB,tr:=260,tt:=46,v0}
noncomputable def tE(C:aI)(sp:SP)(m0:Nat)(q:Nat->Nat):St:=
 {sp,m0,ph:=λ_=>.unborn,rk:=λ_=>.leaf,q,cb:=λ_=>0,cls:=λc=>if c<C.B0 then .old else if c=C.r\/c=C.tb\/c=C.dc then .sh else .free,G1:=.idle,G2:=.idle}
section
variable{C:aI}{p:cC C}{sp:SP}{m0:Nat}{q:Nat->Nat}{gs:Array aw}{v:aa}{t:aY}{g:aw}
def TI(e:(∃h:0<C.n,sp=.mk 0)\/(C.n=0/\sp=.lw false))(S:C.n<=8)(h0:gs[0]?=some g)(M:gs.size=C.N0)(T:p.fT (tE C sp m0 q) (Deaf t 0) g)(N:Leavers C.P t gs q)(E:Past (cK C.SB) v.heap.size t)(hrel:NoRelease (C.ca 4) t)(O:C.v0=v)(Q:v.heap[C.r]?=some (C.fc ((C.n:Int)*KK) 0 ((C.n:Int)*KK) 0))(l:∃B,v.heap[C.tb]?=some (.cells B C.tt)/\B.size=C.n)(w:v.heap[C.dc]?=some (.chan 0 #[] false 0 0 false))(F:C.B0<=C.r/\C.B0<=C.tb/\C.B0<=C.dc/\C.r≠C.tb/\C.r≠C.dc/\C.tb≠C.dc)(Z:C.B0<=v.heap.size):p.Inv t (tE C sp m0 q) gs v t:=by
 have o:sp.aW C.n=0:=by obtain⟨_,rfl⟩|⟨h,rfl⟩:=e<;>first|rfl|exact h
 have z:sp.made C.n=0:=by obtain⟨_,rfl⟩|⟨h,rfl⟩:=e<;>first|rfl|exact h
 have A:sp.closed=false:=by obtain⟨_,rfl⟩|⟨h,rfl⟩:=e<;>rfl
 have a1:C.a1 (tE C sp m0 q)=C.n:=yv _;have a2:C.a2 (tE C sp m0 q)=C.n:=yv _;have lr:=(bW.1 Q).1;obtain⟨B,l,H⟩:=l;have lt:=(bW.1 l).1;have ld:=(bW.1 w).1;refine⟨?_,?_,⟨g,h0,T⟩,λj x U _ V=>N.old j x U V,λi x d=>?_,N.above,?_,?_,?_,?_⟩
 .rw[<-M];exact(bW.1 h0).1
 .show gs.size=C.N0+sp.aW C.n;rw[o,M];rfl
 .have d:i<sp.aW C.n:=d;rw[o]at d;exact absurd d (a6u _)
 .refine⟨?_,⟨B,l,H⟩,?_,λc _=>by rw[O],by rw[O],λi d=>?_⟩
  .rw[a1,a2];exact Q
  .show v.heap[C.dc]?=some (.chan 0 #[] sp.closed 0 0 false);rw[A];exact w
  .have d:i<sp.made C.n:=d;rw[z]at d;exact absurd d (a6u _)
 .refine⟨λc R=>if_pos R,⟨?_,?_,?_⟩,λc R=>?_,λi d=>?_,λc i h=>?_,F⟩
  .show(if C.r<C.B0 then Cl.old else _)=_;rw[if_neg (by omega),if_pos (.inl rfl)]
  .show(if C.tb<C.B0 then Cl.old else _)=_;rw[if_neg (by omega),if_pos (.inr (.inl rfl))]
  .show(if C.dc<C.B0 then Cl.old else _)=_;rw[if_neg (by omega),if_pos (.inr (.inr rfl))]
  .show(if c<C.B0 then Cl.old else _)=_;rw[if_neg (by omega),if_neg (by omega)]
  .have d:i<sp.made C.n:=d;rw[z]at d;exact absurd d (a6u _)
  .have h:(if c<C.B0 then Cl.old else if c=C.r\/c=C.tb\/c=C.dc then .sh else .free)=.wk i:=h;split at h
   .cases h
   .split at h<;>cases h
 .refine⟨S,?_,λi d=>?_,λi _ h=>(by cases h),λi _ h=>(by cases h),λ_ i _=>(by show 7<=Ph.unborn.num;decide),λh=>?_,λi _=>⟨⟨λh=>(by cases h),λh=>(by cases h)⟩,⟨λh=>(by cases h),λh=>(by cases h)⟩,⟨λh=>(by cases h),λh=>(by cases h)⟩⟩,λi h=>?_,λi _=>⟨⟨λh=>(by cases h),λh=>(by cases h)⟩,⟨λh=>(by cases h),λh=>(by cases h)⟩,⟨λh=>(by cases h),λh=>(by cases h)⟩⟩,λi h=>?_,trivial,trivial,?_,?_,λb m h=>?_⟩
  .rcases e with⟨h,rfl⟩|⟨_,rfl⟩
   .exact h
   .trivial
  .show(Ph.unborn=.unborn↔sp.aW C.n<=i);rw[o];exact⟨λ_=>m8 _,λ_=>rfl⟩
  .have h:sp.closed=true:=h;rw[A]at h;cases h
  .rcases h with h|h|h<;>cases h
  .rcases h with h|h|h<;>cases h
  .rcases e with⟨_,rfl⟩|⟨_,rfl⟩<;>exact rfl
  .rcases e with⟨_,rfl⟩|⟨_,rfl⟩<;>exact rfl
  .rcases e with⟨_,rfl⟩|⟨_,rfl⟩<;>cases h
 .have I:∀i (s:MemOp),t.size<=i->t[i]?=some s->False:=λi s d f=>by have:=(bW.1 f).1;omega
  refine⟨⟨#[],by simp⟩,⟨E.clean,λk a _ W X i d=>?_,λk s a Y f=>(I k s Y f).elim⟩,λi s d f=>(I i s d f).elim,λi s d f=>(I i s d f).elim,hrel,E.seen,λi _ h=>(by cases h)⟩;obtain rfl|⟨h1,J⟩:=d
  .exact E.known k a W X
  .have J:i<C.N0+sp.aW C.n:=J;rw[o]at J;omega
end
section
variable{K:Bool}{n:Nat}{L:List af}{cs:List ah}{ao ar:Option ap}{len cap np:Nat}{vals:Nat->List af}{SB D:Nat->Prop}{aj:Nat->Nat}{y v:aa}{u:Nat->af}
def Ql(H:n<=8)(s:∀c,SB c->c<v.heap.size)(hJ:∀N0 r a b k,v.heap.size<r/\v.heap.size<a/\v.heap.size<b/\r≠a/\r≠b/\a≠b->(∀c,c<v.heap.size->k.heap[c]?=v.heap[c]?)->oo k=oo v->na (gg n N0 r a b (v.heap.size+1) SB k) D aj y ar ao len cap np vals){gs t q}(sl)(h0:gs[0]?=some (an (rH K n u L ao len cap) cs))(hL:Leavers Tryz.prog t gs q)(O:Past (cK SB) v.heap.size t):∃N f w l x,runNT Tryz.prog N (crowd gs v sl) t=(.next (crowd f w l),x)/\∃r a b k z g',(v.heap.size<r/\v.heap.size<a/\v.heap.size<b/\r≠a/\r≠b/\a≠b)/\(∀c,c<v.heap.size->k.heap[c]?=v.heap[c]?)/\oo k=oo v/\(gZ (gg n gs.size r a b (v.heap.size+1) SB k) K v.heap.size L cs ao len cap np vals).End f w x z g':=by
 obtain⟨N,Q,A,t1,q1,R,e,d1,B,S,U,V,W,o,X,r,a,b,u1,E⟩:=YD (K:=K) (L:=L) (cs:=cs) (ao:=ao) (len:=len) (cap:=cap) (u:=u) (SB:=SB) (v:=v) H gs t q sl v.drawn h0 hL (dO.of O) O.hears;have hg:=E.g;have hd:=E.d;subst hd;have J:=hJ gs.size r a b e E.ge E.old E.os;have Y:=YA (K:=K) (bx:=v.heap.size) (L:=L) (cs:=cs) J H E.box (kj _) (λh=>a7h _ (s _ h));have hrel:NoRelease (⟨r,4,none⟩:ap) t1:=X _ λi hi=>by obtain⟨op,ho,ha⟩:=fA.1 hi;have:=O.seen op (a6i ho);rw[ha]at this;have h:r<v.heap.size:=this;have:=E.ge.1;omega
 have P1:=W.aj o;have fin:∀(sp:SP) (m0:Nat),((∃h:0<n,sp=.mk 0)\/(n=0/\sp=.lw false))->(gZ (gg n gs.size r a b (v.heap.size+1) SB e) K v.heap.size L cs ao len cap np vals).fT (tE (gg n gs.size r a b (v.heap.size+1) SB e) sp m0 q1) (Deaf t1 0) R->_:=λsp m0 Z hS=>by have I:=TI (C:=gg n gs.size r a b (v.heap.size+1) SB e) (p:=gZ (gg n gs.size r a b (v.heap.size+1) SB e) K v.heap.size L cs ao len cap np vals) Z H U S hS V P1 hrel rfl E.rF ⟨_,E.a2e,by simp;rfl⟩ E.NU ⟨E.ge.1,E.ge.2.1,E.ge.2.2.1,E.ge.2.2.2⟩ (by show v.heap.size+1<=e.heap.size;rw[E.size];omega);exact NQ Y (λc hc=>a6I (s c hc)) P1.over I A
 have ab:∃N f w l x,runNT Tryz.prog N (crowd Q e A) t1=(.next (crowd f w l),x)/\∃z g',(gZ (gg n gs.size r a b (v.heap.size+1) SB e) K v.heap.size L cs ao len cap np vals).End f w x z g':=by
  obtain⟨u2,F⟩:=Do K v.heap.size r n 0 u1 L cs;obtain hz|j:=kh n
  .have hb:decide (((0:Nat):Int)<(n:Int))=false:=by rw[hz];rfl
   rw[hb]at F;obtain⟨u3,hC⟩:=Dl K v.heap.size r n 0 u2 L cs;have T:(gg n gs.size r a b (v.heap.size+1) SB e).To true (gg n gs.size r a b (v.heap.size+1) SB e).d9 0 R 1 ((gZ (gg n gs.size r a b (v.heap.size+1) SB e) K v.heap.size L cs ao len cap np vals).LW 1):=by rw[hg];exact dE J.P F (dE J.P hC (BQ J.P (.inl ⟨rfl,u3,rfl⟩)))
   obtain⟨m,g2,hQ,ad⟩:=T;exact fin (.lw false) m (.inr ⟨hz,rfl⟩) ⟨g2,by rw[o];exact hQ,ad⟩
  .have hb:decide (((0:Nat):Int)<(n:Int))=true:=by simpa using j
   rw[hb]at F;obtain⟨u3,hC⟩:=Dm K v.heap.size r n 0 u2 L cs;have T:(gg n gs.size r a b (v.heap.size+1) SB e).To true (gg n gs.size r a b (v.heap.size+1) SB e).d9 0 R 0 ((gZ (gg n gs.size r a b (v.heap.size+1) SB e) K v.heap.size L cs ao len cap np vals).MK 0):=by rw[hg];exact dE J.P F (dE J.P hC (gN ⟨j,u3,rfl⟩))
   obtain⟨m,g2,hQ,ae⟩:=T;exact fin (.mk 0) m (.inl ⟨j,rfl⟩) ⟨g2,by rw[o];exact hQ,ae⟩
 obtain⟨M,ag,v2,al,t2,aq,z,g',hE⟩:=ab;exact⟨N+M,ag,v2,al,t2,o9 B aq,r,a,b,e,z,g',E.ge,E.old,E.os,hE⟩
end
noncomputable def qE:aw:=an ((qD.callers.headD default).finish (.tuple #[])) []
noncomputable def a1P:List Item:=(aG Tryz.prog true 6 qE).frame.todo
noncomputable def YF:aw:=fin (aG Tryz.prog true 6 qE) (.slice (some ⟨4,0,none⟩) 2 2)
noncomputable def a1K:List Item:=((aG Tryz.prog true 1 YF).callers.headD default).todo
section
variable(K:Bool)(bx r n:Nat)(u:Nat->af)(L:List af)(cs:List ah)
noncomputable def pI:ah:=az K (.int .i64 n::u 1::u 2:: .pointer (some ⟨bx,0,none⟩)::u 4:: .pointer (some ⟨r,0,none⟩)::sq u 6 42 (.pointer (some ⟨r,0,none⟩)::u 49::u 50::L)) a1P
noncomputable def om:ah:=az K (.int .i64 n::u 1::u 2:: .pointer (some ⟨bx,0,none⟩)::u 4:: .pointer (some ⟨r,0,none⟩)::sq u 6 45 L) a1K
variable(w:aa)(tb:Nat)(x:af)
def Pb:∃a,aS Tryz.prog true 6 (an ((rI K bx r n u L).finish (.tuple #[])) cs) (an (pI K bx r n a L) cs):=⟨uo (aG Tryz.prog true 6 (an ((rI K bx r n u L).finish (.tuple #[])) cs)),by cases K<;>exact eN (λw=>by kernel_rfl) (by kernel_rfl) (by kernel_rfl)⟩
def OH:stepG Tryz.prog true (an (pI K bx r n u L) cs) w=stepG.apply Tryz.prog true (an (pI K bx r n u L) cs).frame cs none (.load .plain ⟨r,0,none⟩ λv=>.pure (.value v)) w:=by cases K<;>kernel_rfl
def OI:((an (pI K bx r n u L) cs).frame.kind==.early)=false:=by cases K<;>kernel_rfl
def OJ:∃a,aS Tryz.prog true 1 (fin (an (pI K bx r n u L) cs) (.slice (some ⟨tb,0,none⟩) n n)) (an (Frame.enter Tryz.prog 156 #[.slice (some ⟨tb,0,none⟩) n n] .normal) (om K bx r n a L::cs)):=⟨uo (an ((aG Tryz.prog true 1 (fin (an (pI K bx r n u L) cs) (.slice (some ⟨tb,0,none⟩) n n))).callers.headD default) []),by cases K<;>exact eN (λw=>by kernel_rfl) (by kernel_rfl) (by kernel_rfl)⟩
end
section
variable{K:Bool}{n:Nat}{L:List af}{cs:List ah}{ao ag:Option ap}{len cap np:Nat}{vals:Nat->List af}{SB D:Nat->Prop}{aj:Nat->Nat}{y v:aa}{u:Nat->af}
def Tq{C}{p:cC C}{s v}(h:p.Hp s v)(c):p.Hp s (v.at c):=⟨h.rb,h.tb,h.dc,h.old,h.os,h.ch⟩
def a2f{C np vals i O v}(h:Td C np vals i O v)(c):Td C np vals i O (v.at c):=by obtain⟨b,x,d,e,a⟩:=h;exact⟨b,x,d,e,sU a (λ_ _=>rfl) a.2.2.1 λ_ h=>h⟩
structure J1 (C:aI) (p:cC C) (s:St) (gs:Array aw) (v:aa) (t:aY) (q:Nat->Nat):Prop where
 size:gs.size=C.N0+C.n
 iV:Leavers C.P t gs q
 aj:Past (cK λc=>C.SB c\/c=C.r) v.heap.size t
 hp:p.Hp s v
 cls:C.dL s v.heap.size
 told:∀i,i<C.n->p.TD i (s.own i) v
def Qk(hn:n<=8)(k:∀c,SB c->c<v.heap.size)(hJ:∀N0 r tb b d,v.heap.size<r/\v.heap.size<tb/\v.heap.size<b/\r≠tb/\r≠b/\tb≠b->(∀c,c<v.heap.size->d.heap[c]?=v.heap[c]?)->oo d=oo v->na (gg n N0 r tb b (v.heap.size+1) SB d) D aj y ag ao len cap np vals){gs t q}(sl)(h0:gs[0]?=some (an (rH K n u L ao len cap) cs))(hL:Leavers Tryz.prog t gs q)(hP:Past (cK SB) v.heap.size t):∃N f B C t' q',runNT Tryz.prog N (crowd gs v sl) t=(.next (crowd f B C),t')/\∃r tb b d s' u',(v.heap.size<r/\v.heap.size<tb/\v.heap.size<b/\r≠tb/\r≠b/\tb≠b)/\(∀c,c<v.heap.size->d.heap[c]?=v.heap[c]?)/\oo d=oo v/\f[0]?=some (an (Frame.enter Tryz.prog 156 #[.slice (some ⟨tb,0,none⟩) n n] .normal) (om K v.heap.size r n u' L::cs))/\J1 (gg n gs.size r tb b (v.heap.size+1) SB d) (gZ (gg n gs.size r tb b (v.heap.size+1) SB d) K v.heap.size L cs ao len cap np vals) s' f B t' q':=by
 obtain⟨N,F,j,H,t1,I,r,tb,b,d,s,g,o,p,J,E⟩:=Ql (K:=K) (L:=L) (cs:=cs) (u:=u) hn k hJ sl h0 hL hP;obtain⟨m,u1,z⟩:=E.fn;obtain⟨u2,O⟩:=Pb K v.heap.size r n u1 L cs;obtain⟨u3,P⟩:=OJ K v.heap.size r n u2 L cs tb;have G:jG Tryz.prog (λl=>cK SB l\/(gg n gs.size r tb b (v.heap.size+1) SB d).nh l) g j 0 λg' B d'=>g'=an (Frame.enter Tryz.prog 156 #[.slice (some ⟨tb,0,none⟩) n n] .normal) (om K v.heap.size r n u3 L::cs)/\d'=0/\∃c,B=j.at c:=by
  refine gV z λc1=>gV O λc2=>eZ rfl λQ=>⟨_,((j.at c1).at c2).at Q,#[⟨.cell ⟨r,0,none⟩,false,false⟩],?_,aF _,?_,gV P λc4=>sr λc5=>⟨rfl,rfl,c5,rfl⟩⟩
  .have R:(((j.at c1).at c2).at Q).cell? ⟨r,0,none⟩=some (.slice (some ⟨tb,0,none⟩) n n):=(a5L E.hp.rb 0).trans rfl;have:=i9 (v:=.slice (some ⟨tb,0,none⟩) n n) (OH K v.heap.size r n u2 L cs (((j.at c1).at c2).at Q)) (by rw[oK R];rfl) (OI K v.heap.size r n u2 L cs);exact this.trans (congrArg (λx=>GStep.go _ _ x) (by kernel_rfl))
  .intro e he;simp only[dK,ft]at he;subst he;refine⟨⟨λx hx S=>?_,(bW.1 E.hp.rb).1⟩,λa=>by simp[MemAct.ofEvent]⟩;simp only[MemAct.ofEvent,MemAct.touch?,cw]at hx;subst hx;obtain h|h:=S
   .have h1:r<v.heap.size:=k r h;have:=o.1;omega
   .rcases h with h|h|h|h<;>cases h
 obtain⟨M,T,U,t2,q2,g2,v2,d2,V,W,A,X,Y,Z,_,ab,hd,c,ad⟩:=G F t1 s.q H j.drawn E.zero E.iV (dO.of E.aj) E.aj.hears;rw[ab]at A;subst hd;have ae:=Y.aj Z;subst ad;refine⟨N+M,T,_,U,t2,q2,o9 I V,r,tb,b,d,s,u3,o,p,J,A,⟨W.trans E.size,X,Hk ae λl R=>?_,Tq E.hp c,E.cls,λi hi=>a2f (E.told i hi) c⟩⟩;obtain h|h:=R
 .cases l with
  |cell a=>exact .inl h
  |_=>exact h
 .rcases h with h|h|h|h<;>(rw[h];exact .inr rfl)
end
end Go.Proofs.Each
end
section
namespace Go.Proofs.Each
open Go.Conc Go.Mir Go.RowKit Go.Proofs.q
def pD(n np:Nat)(τ:Nat->Question->Nat)(d:Nat):Nat:=(Question.appendCap (n*np) 0 64).cut (τ d (.appendCap (n*np) 0 64))
def tT(n np:Nat)(vals:Nat->List af)(a B:Nat)(w':aa)(x:af):Prop:=
 (n*np=0/\x=.slice none 0 0)\/(0<n*np/\x=.slice (some ⟨B,0,none⟩) (n*np) a/\w'.heap[B]?=some (.cells (ic np n a vals n) 64))
def CY.{u}(n np bt base:Nat)(tv:Nat->af)(vals:Nat->List af)(W:aa)(q:n<=8)(g:np<=100)(k:∀i,i<n->W.cell? ⟨bt,i,none⟩=some (tv i))(l:∀i,i<n->W.ownsRow base 64 2 (tv i) np (vals i))(o:∀i,i<n->∀u∈vals i,u.oneCell'=true):Calls Gh.prog.{u} 156 #[.slice (some ⟨bt,0,none⟩) n n] W λe w'=> ∃x,e=.returned x/\tT n np vals (pD n np W.tape W.drawn) W.heap.size w' x/\dM W.heap.size W w':=by
 by_cases h0:0<n/\0<np
 .refine(NJ.{u} n np bt n base tv vals W h0.1 (by omega) h0.2 g k l o).mono ?_;rintro e w' ⟨rfl,d,_,j⟩;exact⟨_,rfl,.inr ⟨a7Q h0.1 h0.2,rfl,d⟩,dM.of j⟩
 .have p:n*np=0:=by
   obtain h|h:=kh n
   .simp[h]
   .rcases kh np with b|b
    .simp[b]
    .exact absurd ⟨h,b⟩ h0
  refine(CZ.{u} n bt n W (by omega) (λi m=>?_)).mono ?_
  .have d:=k i m;obtain⟨a,c,e⟩:=dA (l i m);have:np=0:=by
    obtain b|b:=kh np
    .exact b
    .exact absurd ⟨by omega,b⟩ h0
   rw[e,this]at d;exact⟨a,c,d⟩
  .rintro e w' ⟨rfl,j⟩;exact⟨_,rfl,.inl ⟨p,rfl⟩,dM.of j⟩
def QI:∃c,Tryz.f156.body=some c:=⟨_,rfl⟩
def vk:Gh.funcs.{1}[156]?=some Tryz.f156:=Gh.func156.{1}
theorem Ew:Tryz.funcs[156]?=some Tryz.f156:=by kernel_rfl
theorem a6d:Tryz.progTables.inits.idxOf? 156=none:=by kernel_rfl
section
variable{S:Nat->Prop}{V:aa}{n np tb base:Nat}{tv:Nat->af}{vals:Nat->List af}{SB2:Nat->Prop}{f:ah}{cs:List ah}
def J6(n np:Nat)(vals:Nat->List af)(U:aa)(x:af)(w':aa):Prop:=(∃τ d,tT n np vals (pD n np τ d) U.heap.size w' x)/\dM U.heap.size U w'
def MV(hn:n<=8)(aP:np<=100)(v:iw Tryz.progTables.globals.size S V)(ab:∀b,b<Tryz.progTables.globals.size+1->S b)(M:S tb)(ba:∀c,S c->¬SB2 c)(ad:∀c,SB2 c->c<V.heap.size)(C:∀i,i<n->V.cell? ⟨tb,i,none⟩=some (tv i))(ho:∀i,i<n->V.ownsRow base 64 2 (tv i) np (vals i))(hb:∀i,i<n->∀a m m',tv i=.slice (some a) m m'->S a.block)(hv:∀i,i<n->∀u∈vals i,u.oneCell'=true)(N:∀g cp,(ic np n cp vals n).map (ak g)=ic np n cp vals n):iv Tryz.prog SB2 (an (Frame.enter Tryz.prog 156 #[.slice (some ⟨tb,0,none⟩) n n] .normal) (f::cs)) V 0 λg' v' d'=>d'=0/\∃x rb τ d,g'=an (f.finish x) cs/\dM V.heap.size V v'/\V.heap.size<=rb/\tT n np vals (pD n np τ d) rb v' x:=by
 let G:=Tryz.progTables.globals.size;have z:(cZ S V).heap.size=V.heap.size:=by simp[cZ]
 have hrel:dh G S id (cZ S V) V:=by
  refine dh.mk (λb h=>by rw[z];exact v.lt b h) (λb h=>v.lt b h) (λa b _ _ h=>h) (λg D b h=>?_) λb o h ho=>?_
  .rw[gK h];cases y:V.heap[b]? with
   |none=>simp[y]
   |some o=>have:=v.aZ g (λa b h=>D.inj a b h) (λc C=>D.on c C) b o h y;simp[y,this]
  .rw[gK h]at ho;exact(v.ok b o h ho).1
 have p:∀b o,(cZ S V).heap[b]?=some o->(S b/\V.heap[b]?=some o)\/o=.cells #[] 0:=λb o h=>by
  by_cases K:S b
  .rw[gK K]at h;exact .inl ⟨K,h⟩
  .rw[sH K]at h;obtain⟨_,_,rfl⟩:=fA.1 h;exact .inr rfl
 have L:cO G (cZ S V):=λb o h=>by
  obtain⟨E,A⟩|rfl:=p b o h
  .exact(v.ok b o E A).1
  .trivial
 have O:∀(b:Nat) o,(cZ S V).heap[b]?=some o->thin o:=λb o h=>by
  obtain⟨E,A⟩|rfl:=p b o h
  .exact(v.ok b o E A).2
  .rfl
 have B:∀g:Nat->Nat,g tb=tb->(#[.slice (some ⟨tb,0,none⟩) n n]:Array af).map (ak g)=#[.slice (some ⟨tb,0,none⟩) n n]:=λg D=>by simp[aH,D]
 have P:Mir.Shut (cZ S V) #[.slice (some ⟨tb,0,none⟩) n n]:=by
  intro g Y D;refine⟨B g (D tb (by rw[z];exact v.lt tb M)),λb o h=>?_⟩;obtain⟨E,A⟩|rfl:=p b o h
  .exact v.aZ g Y (λc C=>D c (by rw[z];exact v.lt c C)) b o E A
  .simp[ct]
 have Q:∀i,i<n->(cZ S V).cell? ⟨tb,i,none⟩=some (tv i):=λi Y=>by have:=C i Y;unfold World.cell? at this⊢;rw[gK M];exact this
 have ae:∀i,i<n->(cZ S V).ownsRow base 64 2 (tv i) np (vals i):=λi Y=>by
  have h:=ho i Y;refine⟨h.1,?_⟩;obtain q1|⟨g,bb,bd,q1,q2,q3,q4⟩:=h.2
  .exact .inl q1
  .exact .inr ⟨g,bb,bd,q1,q2,by rw[gK (hb i Y _ _ _ q1)];exact q3,q4⟩
 obtain⟨cc,r⟩:=QI;have ag:=EM (T:=Tryz.progTables) (F:=Gh.funcs.{1}) (f:=156) (k:=2) (U:=cZ S V) (args:=#[.slice (some ⟨tb,0,none⟩) n n]) (Rr:=J6 n np vals (cZ S V)) g9.{1} sO.{1} vk r Tryz.results156 (by
   rw[z];have:=v.lt _ (ab Tryz.progTables.globals.size (kj _));omega) P L (λx w τ d h=>⟨h.1,⟨h.2.os,h.2.size,h.2.block⟩⟩) (λτ=>by
   refine(CY.{1} n np tb base tv vals (re (cZ S V) τ 0) hn aP Q ae hv).mono ?_;rintro e w' ⟨x,rfl,E,A⟩;exact⟨⟨τ,0,E⟩,⟨A.os,A.size,A.block⟩⟩)
 have R:dS Tryz.progTables (λ_=>False) (λ_=>dead) (f::cs) S id (cZ S V) V (Frame.enter ⟨Tryz.progTables,Gh.funcs.{1}⟩ 156 #[.slice (some ⟨tb,0,none⟩) n n] .normal) [] (Frame.enter Tryz.prog 156 #[.slice (some ⟨tb,0,none⟩) n n] .normal) (f::cs):=by
  refine⟨cZ S V,⟨rfl,rfl,rfl,rfl,rfl,λb _=>rfl,λb h=>h.elim,O⟩,hrel,rfl,λb h=>⟨ab b h,rfl⟩,L,sP g9.{1} vk r _,λx y=>(by cases y),λg D=>⟨?_,rfl⟩⟩;have H:Frame.enter Tryz.prog 156 #[.slice (some ⟨tb,0,none⟩) n n] .normal=Frame.enter ⟨Tryz.progTables,Gh.funcs.{1}⟩ 156 #[.slice (some ⟨tb,0,none⟩) n n] .normal:=by have e1:Tryz.prog.funcs[156]?=some Tryz.f156:=Ew;simp only[Frame.enter,vk,e1]
  rw[H];exact Bc vk r g (B g (D.on tb M)).symm
 refine RP (a2s (Z:=λ_=>False) (SB:=SB2) lB.{1} g9.{1} cT.{1} Ab (λfr fs w h=>h.2.2.1) ag S id V _ _ R (λb h=>h.elim) ba ad) ?_;rintro g1 v1 d1 ⟨rfl,al,bo,w',D',j,I,ao,J⟩;obtain⟨rfl,E,A,h3,h4,⟨τ,d,aq⟩,W⟩:=J.stop;obtain⟨x',bl,Rr⟩:=J.rel;have ar:∀b:Nat,x'.heap[b]?=w'.heap[b]? :=λb=>(bl.other b (λh=>h)).symm;have l:=aN Rr.heap 0;generalize (λb=> @ite _ (D' b) (Classical.propDecidable _) (j b) (v1.heap.size+0+b))=g at l;have e0:=Rr.aZ g l;have au:ao=f::cs:=by simpa using e0.2
 have s:∀q,aQ D' j q->I.tmps.getD 2 undef=ak q (al.tmps.getD 2 undef):=λq hq=>by rw[(Rr.aZ q hq).1];simp only[aR,fR,fp];cases al.tmps[2]? <;>simp[undef]
 have t:dM V.heap.size V v1:=by
  refine⟨J.os,J.size,λc C=>?_⟩
  .by_cases K:S c
   .obtain⟨hD,hp⟩:=J.more c K;have hp:j c=c:=hp;have h5:=Rr.heap.obj g l c hD;rw[hp,ar,W.block c (by rw[z];exact C),gK K]at h5;rw[h5];cases y:V.heap[c]? with
    |none=>rfl
    |some o=>
     have:=v.aZ g (λa b h=>l.inj a b h) (λc C=>by
      obtain⟨q1,q2⟩:=J.more c C;rw[l.on c q1];exact q2) c o K y
     simp[this]
   .exact J.old c C λb hb X=>absurd (by have X:b=c:=X;rw[<-X];exact hb) K
 rw[J.g,au];refine eZ rfl λc=>⟨an (f.finish (I.tmps.getD 2 undef)) cs,v1.at c,#[],HJ Ew Tryz.results156 a6d (by rw[e0.1];exact E) (by rw[e0.1];simp[aR,A,eB]) (by rw[e0.1];simp[aR,h3]) (by rw[e0.1];exact h4) (v1.at c),aF _,by simp,sr λc'=>⟨rfl,?_⟩⟩;obtain⟨hz,y⟩|⟨hz,y,av⟩:=aq
 .refine⟨I.tmps.getD 2 undef,V.heap.size,τ,d,rfl,⟨t.os,t.size,t.block⟩,aF _,.inl ⟨hz,?_⟩⟩;rw[s g l,y];simp
 .have hD:=qh Rr.heap (b:=(cZ S V).heap.size) (c:=g (cZ S V).heap.size) (λq hq=>by
   have e1:=s q hq;have e2:=s g l;rw[e1,y]at e2;simp only[bg,Option.map_some,Value.slice.injEq,cw,aH,Addr.mk.injEq,and_true]at e2;exact e2.symm)
  have bn:V.heap.size<=j (cZ S V).heap.size:=by
   obtain h|h:=J.new _ hD.1
   .have:=v.lt _ h;omega
   .exact h
  refine⟨I.tmps.getD 2 undef,j (cZ S V).heap.size,τ,d,rfl,⟨t.os,t.size,t.block⟩,bn,.inr ⟨hz,?_,?_⟩⟩
  .rw[s g l,y];simp only[bg,Option.map_some,aH,hD.2]
  .have h5:=Rr.heap.obj g l _ hD.1;rw[ar,av]at h5;refine h5.trans ?_;simp only[Option.map_some,ct,N]
end
def od(k:Bool)(cf:ah)(x:af):ah:=cond k cf (cf.finish x)
def Hz{P}(k){fr cf cs w x}(a:fr.kind=kd k)(d:∀b,cf.mode=.panicking b->∀e∈b,e.recovered=false):doReturn P true fr (cf::cs) none x w=.go (an (od k cf x) cs) w #[]:=by
 cases k with
 |false=>have a:fr.kind=.normal:=a;simp only[doReturn,a];rfl
 |true=>
  have a:fr.kind=.deferred:=a;simp only[doReturn,a];cases f:cf.mode with
  |panicking b=>
   cases b with
   |nil=>rfl
   |cons e b=>have:=d _ f e (by simp);obtain⟨v,r,g⟩:=e;simp only at this;subst this;rfl
  |_=>rfl
def xW(w:aa)(base tb n k np:Nat)(vals:Nat->List af):Prop:=
 ∃a:Array af,w.heap[tb]?=some (.cells a 46 (0,0))/\a.size=n/\∀j,j<k->∃v,a[j]?=some v/\w.ownsRow base 64 2 v np (vals j)
theorem a2U:PG.underlying 80=some (.slice 46):=by kernel_rfl
def a1h:∀w,(Go.sizeOf 46).run PG w=.ok 1 w:=λw=>by kernel_rfl
def Hi{m}(h:m<=100):aV m<=100:=by unfold aV;omega
def Hb(R i):∀u∈fa R i,u.oneCell'=true:=Ha _ _ _
section
variable{Stop:ah->List ah->aa->Prop}(b0:xR Stop){c:ah}{fs:List ah}{K:Bool}{L:List af}{ao:Option ap}{cap n tb base:Nat}{R:List Rw}
include b0
def RF(a:(c::fs)≠[])(hn:n<=8)(hR:R.length<=100)(B:fY R):∀m k u w,n - k=m->k<=n->base<=w.heap.size->base<=tb->fP w ao R->(∀b t,0<R.length->ao=some ⟨b,t,none⟩->b≠tb)->xW w base tb n k (aV R.length) (fa R)->iP Stop (gJ K u L n k tb ao R.length cap) (c::fs) w->∃u' w',xW w' base tb n n (aV R.length) (fa R)/\dM base w w'/\iP Stop (nB K u' L n tb) (c::fs) w'/\oa Stop (gJ K u L n k tb ao R.length cap) (c::fs) w (nB K u' L n tb) (c::fs) w':=by
 have s:=st1 b0;intro m;induction m with
 |zero=>
  intro k u w hm hk F H W C X hF;obtain rfl:k=n:=by omega
  obtain⟨u1,Y⟩:=B6 K k k tb ao R.length cap u L ((c::fs)++[aB PG]);obtain⟨I,J⟩:=cU s a Y hF;rw[decide_eq_false (by omega)]at I J;obtain⟨u2,s2⟩:=KS K k k tb ao R.length cap u1 L ((c::fs)++[aB PG]);obtain⟨Z,r2⟩:=cU s a s2 I;exact⟨u2,w,X,dM.refl _ _,Z,J.trans r2⟩
 |succ m ih=>
  intro k u w hm hk F H W C X hF;have ab:k<n:=by omega
  obtain⟨u1,Y⟩:=B6 K n k tb ao R.length cap u L ((c::fs)++[aB PG]);obtain⟨I,J⟩:=cU s a Y hF;rw[decide_eq_true (by omega)]at I J;obtain⟨u2,s2⟩:=KT K n k tb ao R.length cap u1 L ((c::fs)++[aB PG]);obtain⟨Z,r2⟩:=cU s a s2 I;obtain⟨F3,r3⟩:=oD (fr1:=Frame.enter PG 43 #[.int .i64 k,.agg #[.slice ao R.length cap]] .normal) (gs1:=sj K u2 L n k tb ao R.length cap::c::fs) (oR b0) Z (K3 K n k tb ao R.length cap u2 L ((c::fs)++[aB PG]) w);obtain⟨x,r,V,F4,r4⟩:=zy AL b0 a (τ:=w.tape) (d:=w.drawn) (BJ.{0} (k:Int) ao cap R w (by omega) B W) (λe w' ⟨v,h,_⟩=>⟨v,h⟩) F3;obtain⟨x',hx,z,f⟩:=V;cases hx;obtain⟨i,l,rfl⟩:=dA z;obtain⟨u3,s3⟩:=K2 K n k tb ao R.length cap u2 L ((c::fs)++[aB PG]) (.slice i (aV R.length) l);obtain⟨F5,r5⟩:=cU s a s3 F4;have ix:=Fs r 80 46 1 a2U a1h ⟨tb,0,none⟩ k n n ab;obtain⟨y,w',M,F6,r6⟩:=rX s a F5 (KU K n k tb ao R.length cap u3 L ((c::fs)++[aB PG]) (.slice i (aV R.length) l)) (KV K n k tb ao R.length cap u3 L (.slice i (aV R.length) l)) (.inl ⟨_,_,ix⟩);rw[ix]at M;cases M;obtain⟨u4,s4⟩:=KW K n k tb ao ((⟨tb,0,none⟩:ap).add (k*1)) R.length cap u3 L ((c::fs)++[aB PG]) (.slice i (aV R.length) l);obtain⟨F7,r7⟩:=cU s a s4 F6;obtain⟨N,O,ad,ae⟩:=X;have P:tb<w.heap.size:=(bW.1 O).1;have p:r.heap[tb]?=some (.cells N 46 (0,0)):=by rw[f.block tb P];exact O
  have D:((⟨tb,0,none⟩:ap).add (k*1)).add 0=⟨tb,k,none⟩:=by
   unfold Addr.add;by_cases Q:k=0
   .subst Q;rfl
   .simp[Q]
  have E:r.cell? ⟨tb,k,none⟩=some (N.getD k undef):=by unfold World.cell?;rw[p];simp[Array.getD,show k<N.size by omega]
  have S:r.frozen? ⟨tb,k,none⟩=false:=by simp[World.frozen?,p]
  have T:=KZ K n k tb ao ((⟨tb,0,none⟩:ap).add (k*1)) R.length cap u4 L ((c::fs)++[aB PG]) i (aV R.length) l r;rw[D]at T;have ag:=yc (g:=an (oH K u4 L n k tb ao ((⟨tb,0,none⟩:ap).add (k*1)) R.length cap (.slice i (aV R.length) l)) ((c::fs)++[aB PG])) T (by rw[BH (by simp) (by simp) E S];rfl) (K0 K n k tb ao _ R.length cap u4 L (.slice i (aV R.length) l));obtain⟨F8,r8⟩:=oD (fr1:=(oH K u4 L n k tb ao ((⟨tb,0,none⟩:ap).add (k*1)) R.length cap (.slice i (aV R.length) l)).finish undef) (gs1:=c::fs) (oR b0) F7 ag;obtain⟨u5,s5⟩:=K1 K n k tb ao ((⟨tb,0,none⟩:ap).add (k*1)) R.length cap u4 L ((c::fs)++[aB PG]) (.slice i (aV R.length) l);rw[JA (by omega)]at s5;obtain⟨F9,r9⟩:=cU (fr':=gJ K u5 L n (k+1) tb ao R.length cap) s a s5 F8;have A:aK r tb N 46:=p;have al:dM base w (r.setCell ⟨tb,k,none⟩ (.slice i (aV R.length) l)):=by refine⟨km f.os f.output,by simpa[World.setCell]using f.size,λq V=>?_⟩;rw[pc (by omega),f.block q (by omega)]
  have aq:fP (r.setCell ⟨tb,k,none⟩ (.slice i (aV R.length) l)) ao R:=by
   obtain h|⟨b,t,M,h2⟩:=jx W f
   .exact .inl h
   .by_cases h0:0<R.length
    .refine .inr ⟨b,t,M,λq V=>?_⟩;have ar:=C b t h0 M;have au:∀o,(r.setCell ⟨tb,k,none⟩ (.slice i (aV R.length) l)).cell? ⟨b,o,none⟩=r.cell? ⟨b,o,none⟩:=λo=>by unfold World.cell?;rw[pc (v:=r) ar]
     simp only[au];exact h2 q V
    .exact .inl (fq (by omega))
  have av:xW (r.setCell ⟨tb,k,none⟩ (.slice i (aV R.length) l)) base tb n (k+1) (aV R.length) (fa R):=by
   refine⟨N.setIfInBounds k (.slice i (aV R.length) l),gp p k _,by simpa using ad,λj hj=>?_⟩;by_cases U:j=k
   .subst U;exact⟨_,by rw[j8 (by omega)],cW (eA z F) A (by decide)⟩
   .obtain⟨v,aP,ba⟩:=ae j (by omega);exact⟨v,by rw[di (Ne.symm U)];exact aP,cW (da ba f (aF _)) A (by decide)⟩
  obtain⟨u6,w6,t6,k6,bb,bd⟩:=ih (k+1) u5 (r.setCell ⟨tb,k,none⟩ (.slice i (aV R.length) l)) (by omega) (by omega) (by have:=f.size;simp[World.setCell];omega) H aq C av F9;exact⟨u6,w6,t6,al.trans k6,bb,J.trans (r2.trans (r3.trans (r4.trans (r5.trans (r6.trans (r7.trans (r8.trans (r9.trans bd))))))))⟩
def RE(S:∀J,c.mode=.panicking J->∀e∈J,e.recovered=false)(t:n<=8)(M:R.length<=100)(g:fY R){u w}(N:fP w ao R)(hF:iP Stop (nC K u L n ao R.length cap) (c::fs) w)(τ d):∃x B w2,w.heap.size<=B/\tT n (aV R.length) (fa R) (pD n (aV R.length) τ d) B w2 x/\dM w.heap.size w w2/\oa Stop (nC K u L n ao R.length cap) (c::fs) w (od K c x) fs w2:=by
 have s:=st1 b0;have a:(c::fs)≠[]:=by simp
 obtain⟨u1,T⟩:=Lx K n ao R.length cap u L ((c::fs)++[aB PG]);obtain⟨U,V⟩:=cU s a T hF;obtain⟨W,X⟩:=oD (fr1:=(fE K u1 L n ao R.length cap).finish (.slice (some ⟨w.heap.size,0,none⟩) n n)) (gs1:=c::fs) (oR b0) U (Lj K n ao R.length cap u1 L ((c::fs)++[aB PG]) w t);obtain⟨u2,s2⟩:=Li K n w.heap.size ao R.length cap u1 L ((c::fs)++[aB PG]);obtain⟨Y,Z⟩:=cU s a s2 W;have f:Below w.heap.size w {w with heap:=w.heap.push (.cells (Array.replicate n (.slice none 0 0)) 46)}:=bH w _;have y:=jx N f;have z:({w with heap:=w.heap.push (.cells (Array.replicate n (.slice none 0 0)) 46)}:aa).heap[w.heap.size]?=some (.cells (Array.replicate n (.slice none 0 0)) 46 (0,0)):=by show(w.heap.push _)[w.heap.size]?=_;simp
 generalize ({w with heap:=w.heap.push (.cells (Array.replicate n (.slice none 0 0)) 46)}:aa)=w0 at*;obtain⟨u3,m,⟨o,A,ab,C⟩,D,F4,r4⟩:=RF b0 (base:=w.heap.size) (tb:=w.heap.size) a t M g (n - 0) 0 u2 w0 rfl (m8 _) f.size (aF _) y (λb ad h0 e=>by
  obtain h|⟨b',O,E,F⟩:=N
  .rw[h]at h0;cases h0
  .rw[e]at E;simp only[cw,Addr.mk.injEq,and_true]at E;obtain⟨rfl,rfl⟩:=E;exact a7a (qz F h0)) ⟨_,z,by simp,λj hj=>(by cases hj)⟩ Y
 obtain⟨F5,r5⟩:=oD (fr1:=Frame.enter PG 156 #[.slice (some ⟨w.heap.size,0,none⟩) n n] .normal) (gs1:=nB K u3 L n w.heap.size::c::fs) (oR b0) F4 (KY K n w.heap.size u3 L ((c::fs)++[aB PG]) m);have k:∀i,i<n->m.cell? ⟨w.heap.size,i,none⟩=some (o.getD i undef):=λi P=>by unfold World.cell?;rw[A];simp[Array.getD,show i<o.size by omega]
 have p:∀i,i<n->m.ownsRow w.heap.size 64 2 (o.getD i undef) (aV R.length) (fa R i):=λi P=>by
  obtain⟨v,h1,h2⟩:=C i P;have:o.getD i undef=v:=by simp[fR,h1]
  rw[this];exact h2
 obtain⟨x,Q,H,F6,r6⟩:=zy AL b0 a (τ:=τ) (d:=d) (CY.{0} n (aV R.length) w.heap.size w.heap.size (λi=>o.getD i undef) (fa R) (re m τ d) t (Hi M) k p (λi _=>Hb R i)) (λe w' ⟨v,h,_⟩=>⟨v,h⟩) F5;obtain⟨x',hx,r,l⟩:=H;cases hx;obtain⟨F7,r7⟩:=cU s a (KX K n w.heap.size u3 L ((c::fs)++[aB PG]) x) F6;have I:=(RH K n w.heap.size u3 L (fs++[aB PG]) x c Q).trans (Hz K (RG K n w.heap.size u3 L x) S);obtain⟨F8,r8⟩:=oD (fr1:=od K c x) (gs1:=fs) (oR b0) F7 I;refine⟨x,m.heap.size,Q,?_,r,?_,V.trans (X.trans (Z.trans (r4.trans (r5.trans (r6.trans (r7.trans r8))))))⟩
 .exact dF f.size D.size
 .exact(dM.of f).trans (D.trans ⟨l.os,l.size,λq H=>l.block q (cG H (dF f.size D.size))⟩)
end
end Go.Proofs.Each
end
