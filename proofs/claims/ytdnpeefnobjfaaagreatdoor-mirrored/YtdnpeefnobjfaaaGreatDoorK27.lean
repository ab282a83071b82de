import Derived.Conc.MuLone
import Derived.Lib.Overlaps
import Derived.Test.YtdnpeefnobjfaaaGreatDoorK25
set_option maxRecDepth 100000
set_option maxHeartbeats 4000000
set_option linter.all false
section
namespace Go.Proofs.q
open Go.RowKit Go.Shelf Go.Lib
section
attribute [local go_sem ↓] Go.wp_at_zero Go.wp_at_succ
def Ha(to l k):∀u∈lP to l k,u.oneCell'=true:=by intro u a;simp only[lP,a7H,a6K,cm,dP,or_false]at a;obtain⟨j,_,rfl|rfl⟩:=a<;>rfl
def fa(L:List Rw)(i:Nat):List af:=lP (i:Int) (dz (i:Int) L) (aV L.length)
def gm(N:Nat)(L:List Rw):List af:=(List.range N).flatMap (fa L)
theorem Gh.Jl:Gh.prog.{0}.underlying 80=some (.slice 46):=by kernel_rfl
theorem Gh.TA:(Gh.prog.{0}.info? 46).map (λi=>(i.zero,i.size,i.bytes))=some (some (.slice none 0 0),1,24):=by kernel_rfl
def UO(N j)(h:j<N):(madeCells (Value.slice none 0 0).cells (N*1))[j]?=some (.slice none 0 0):=by simp[madeCells,Value.cells,h,Nat.mod_one]
def a5X(b w:aa)(bt N k n:Nat)(vals:Nat->List af):Prop:=
 ∃a:Array af,aK w bt a 46/\a.size=N/\(∀j,j<k->∃v,a[j]?=some v/\w.ownsRow b.heap.size 64 2 v n (vals j))/\∀j,k<=j->j<N->a[j]?=some (.slice none 0 0)
def uk{P α β s}{f:α->Sem β}{w w' y}(h:s.run P w=.ok y w'):(s>>=f).run P w=(f y).run P w':=by simp[h]
theorem Rm(x w):(Instr.field 120 (.agg #[x]) 0).run Gh.prog.{0} w=.ok (x) w:=by kernel_rfl
theorem MG(x w):(Instr.build 120 #[(0,.agg #[x])]).run Gh.prog.{0} w=.ok (.agg #[x]) w:=by kernel_rfl
theorem Rb(a x1 b x3 c d e w):(Instr.field 137 (.agg #[a,x1,b,x3,c,d,e]) 0).run Gh.prog.{0} w=.ok (.agg #[a,x1,b,x3,c]) w:=by kernel_rfl
theorem Rc(b x1 c x3 d a e w):(Instr.field 137 (.agg #[b,x1,c,x3,d,a,e]) 1).run Gh.prog.{0} w=.ok (a) w:=by kernel_rfl
theorem Re(b x1 c x3 d e a w):(Instr.field 137 (.agg #[b,x1,c,x3,d,e,a]) 2).run Gh.prog.{0} w=.ok (a) w:=by kernel_rfl
theorem Rf(a x1 b x3 c w):(Instr.field 52 (.agg #[a,x1,b,x3,c]) 0).run Gh.prog.{0} w=.ok (.agg #[a,x1]) w:=by kernel_rfl
theorem Rg(b x1 a x3 c w):(Instr.field 52 (.agg #[b,x1,a,x3,c]) 1).run Gh.prog.{0} w=.ok (a) w:=by kernel_rfl
theorem Rh(a x1 b x3 c w):(Instr.field 52 (.agg #[a,x1,b,x3,c]) 2).run Gh.prog.{0} w=.ok (x3) w:=by kernel_rfl
theorem Ri(b x1 c x3 a w):(Instr.field 52 (.agg #[b,x1,c,x3,a]) 3).run Gh.prog.{0} w=.ok (a) w:=by kernel_rfl
theorem Rj(a x1 w):(Instr.field 32 (.agg #[a,x1]) 0).run Gh.prog.{0} w=.ok (a) w:=by kernel_rfl
theorem Rl(a x1 w):(Instr.field 32 (.agg #[a,x1]) 1).run Gh.prog.{0} w=.ok (x1) w:=by kernel_rfl
theorem a6b(a n c w):(binOp .eql 118 (.slice (some a) n c) (.slice none 0 0)).run Gh.prog.{0} w=.ok (.bool false) w:=by kernel_rfl
def X0(w g cur ao cap L)(i:aK w g cur 46)(n:cur.size=1)(j:fP w ao L)(k:∀b d,0<L.length->ao=some ⟨b,d,none⟩->b≠g):(callFunc 194 #[.slice (some ⟨g,0,none⟩) 1 1,.slice ao L.length cap]).run Gh.prog.{0} w=.ok (.value (.bool false)) w:=by
 rw[run_callFunc_extern Gh.func194 (by kernel_rfl) (by kernel_rfl) (by kernel_rfl) (e:=Extern.SlicesOverlaps.overlaps #[118,118] #[4]) (by kernel_rfl)];by_cases h0:0<L.length
 .rcases j with j|⟨b,d,rfl,p⟩
  .rw[j]at h0;simp at h0
  .have q:=k b d h0 rfl;have f:=(p 0 h0).1;obtain⟨c,e,z,r,s⟩:∃c e z,w.heap[b]?=some (.cells c e z)/\c.size≠0:=by
    simp only[World.cell?]at f;cases m:w.heap[b]? with
    |none=>rw[m]at f;cases f
    |some o=>
     rw[m]at f;cases o with
     |cells c e z=>refine⟨c,e,z,rfl,λh=>?_⟩;have:c=#[]:=a7s h;rw[this]at f;simp at f
     |_=>cases f
   have l:w.heap[g]?=some (.cells cur 46 (0,0)):=i;rw[Lib.run_overlaps_apart w 118 4 137 Gh.underlying118 7 Gh.sizeOf137 ⟨g,0,none⟩ ⟨b,d,none⟩ 1 1 L.length cap (Ne.symm q) 46 e 1 c.size (by simp[World.shape?,l,n]) (by simp[World.shape?,r]) s (i.frozen 0) (i.frozen 1)];rfl
 .have t:L.length=0:=by omega
  rw[t];have u:(Extern.SlicesOverlaps.overlaps #[118,118] #[4] #[.slice (some ⟨g,0,none⟩) 1 1,.slice ao 0 cap]).run Gh.prog.{0} w=.ok (.bool false) w:=by
   cases ao with
   |none=>exact(uk (run_underlying Gh.underlying118 w)).trans (uk (Gh.sizeOf137 w))
   |some a=>exact(uk (run_underlying Gh.underlying118 w)).trans (uk (Gh.sizeOf137 w))
  rw[u];rfl
def Ef(N:Nat)(ao cap L w)(hN:N<=8)(hn:L.length<=100)(q:fY L)(hs:fP w ao L):Calls Gh.prog.{0} 106 #[.int .i64 N,.agg #[.slice ao L.length cap]] w λe w'=> ∃v,e=.returned v/\w'.ownsRow w.heap.size 64 2 v (N*aV L.length) (gm N L)/\Below w.heap.size w w':=by
 obtain⟨iS,P,Q,R,S⟩:=info_parts Gh.TA;have HS:=am hs;have HF:=am q;clear hs q;have j0:(N:Int)<9:=by omega
 have j1:(-1:Int)<(N:Int):=by omega
 have j2:(L.length:Int)<101:=by omega
 have q1:=Rm (.slice ao L.length cap);have q2:=MG (.slice ao L.length cap);go_enter Gh.func106,Gh.ntmps106;simp only[Gh.iD]
 go_wp2_with (at_make;go_loud (refine wpList_make_full _ rfl _ _ 80 rfl w.heap.size 46 iS (.slice none 0 0) 1 Gh.Jl P Q R _ _ _ _ 1 rfl rfl rfl rfl (by rw[S];omega) (by unfold maxLen;omega) (aF _) ?_;intro w0 r T;have H:Below w.heap.size w w0:=(Below.refl _ _).grown T (aF _) (by simp);have aq:(callFunc 194 #[.slice (some ⟨w.heap.size,0,none⟩) 1 1,.slice ao L.length cap]).run Gh.prog.{0} w0=.ok (.value (.bool false)) w0:=(by
  obtain⟨A,_⟩|⟨g',U,s,A,_,hg,_,_,m,M⟩:=r.2
  .simp at A
  .simp at A;obtain⟨rfl,rfl⟩:=A;exact X0 w0 _ s ao cap L hg (by simpa using m) (jx (ai HS) H) λb V h0 e=>by
    obtain h|⟨b',bd,e',hc⟩:=ai HS
    .rw[h]at h0;simp at h0
    .rw[e]at e';simp at e';obtain⟨rfl,rfl⟩:=e';exact a7a (qz hc h0));clear r T))
 clear aq q1 q2
 go_loopw [25] (λi wr=> ∃k:Nat,k<=L.length/\i=.int .i64 k/\Below w.heap.size w wr) (λi _=>L.length - (intOf i).toNat)
 case atStart=>exact⟨0,by omega,rfl,H⟩
 case round=>
 obtain⟨k,hk,rfl,o⟩:=hrel;by_cases p:k<L.length
 .rcases jx (ai HS) o with h0|⟨g,V,rfl,W⟩
  .rw[h0]at p;simp at p
  .obtain⟨c0,c1,c2,c3,c4,c5,c6⟩:=W k p;obtain⟨⟨f0,f1⟩,f2,f3,f4⟩:=ai HF L[k] (i5 p);simp only[f7,dZ,dW,decide_eq_true_eq]at f3 f4;have t:=am o;clear o W;have i0:(0:Int)<=(k:Int):=by omega
   have i1:(k:Int)<(L.length:Int):=by omega
   generalize L[k]=E at*;have e0:(-1:Int)<E.addr:=by omega
   have e2:(-1:Int)<E.tag:=by omega
   have e3:E.tag<65536:=by omega
   have e4:(0:Int)<E.met:=by omega
   have e5:E.met<17:=by omega
   have hI:∀w',Calls Gh.prog.{0} 77 #[.agg #[.int .u32 E.addr,.int .i64 E.len]] w' λe w''=>e=.returned (.bool true)/\Below w'.heap.size w' w'':=λw'=>(nY.{0} E.addr E.len w' f0 f1).mono λe w'' h=>by rw[f2]at h;exact h
   have HI:=am hI;clear hI;clear f2 f3 f4;have r9:=a6b ⟨g,V,none⟩ L.length cap;have r0:=Rb (.int .u32 E.addr) (.int .i64 E.len) (.int .i64 E.tag) (.int .i64 E.met) (.int .i64 E.az) (.int .i64 E.bM) (.bool E.ci);have r1:=Rc (.int .u32 E.addr) (.int .i64 E.len) (.int .i64 E.tag) (.int .i64 E.met) (.int .i64 E.az) (.int .i64 E.bM) (.bool E.ci);have r2:=Re (.int .u32 E.addr) (.int .i64 E.len) (.int .i64 E.tag) (.int .i64 E.met) (.int .i64 E.az) (.int .i64 E.bM) (.bool E.ci);have r3:=Rf (.int .u32 E.addr) (.int .i64 E.len) (.int .i64 E.tag) (.int .i64 E.met) (.int .i64 E.az);have r4:=Rg (.int .u32 E.addr) (.int .i64 E.len) (.int .i64 E.tag) (.int .i64 E.met) (.int .i64 E.az);have r5:=Rh (.int .u32 E.addr) (.int .i64 E.len) (.int .i64 E.tag) (.int .i64 E.met) (.int .i64 E.az);have r6:=Ri (.int .u32 E.addr) (.int .i64 E.len) (.int .i64 E.tag) (.int .i64 E.met) (.int .i64 E.az);have r7:=Rj (.int .u32 E.addr) (.int .i64 E.len);have r8:=Rl (.int .u32 E.addr) (.int .i64 E.len);go_wp2_with (go_at_call 77;refine(ai HI _).mono ?_;rintro e w4 ⟨rfl,ar⟩)
   go_roundw
   case rel=>exact⟨k+1,by omega,by go_num,(ai t).trans (ar.mono (ai t).size)⟩
   case measure=>simp[intOf];omega
 obtain⟨wc,rfl⟩:∃wc:aa,wc=wr:=⟨_,rfl⟩;have X:w.heap.size<=wc.heap.size:=o.size;have I:=am o;clear o H;go_wp2_with (at_make;go_loud (refine wpList_make_full _ rfl _ _ 80 rfl w.heap.size 46 iS (.slice none 0 0) 1 Gh.Jl P Q R _ _ _ _ N rfl rfl rfl rfl (by rw[S];omega) (by unfold maxLen;omega) (ai I).size ?_;intro w1 u Y));have au:Below w.heap.size w w1:=(ai I).grown Y (ai I).size (by simp);have av:a5X w w1 wc.heap.size N 0 (aV L.length) (fa L):=by
  obtain⟨A,_⟩|⟨g',U,s,A,_,hg,_,_,m,M⟩:=u.2
  .simp at A
  .simp at A;obtain⟨rfl,rfl⟩:=A;refine⟨s,hg,by simpa using m,λj hj=>by omega,λj _ hj=>?_⟩;have f:s.toList=(madeCells (Value.slice none 0 0).cells (N*1)).toList:=by rw[<-M,mZ (by rw[a6m,m];omega)]
   have J:s=madeCells (Value.slice none 0 0).cells (N*1):=Array.ext' f;rw[J];exact UO N j hj
 clear u Y
 go_loopw [6,11] (λ_ i wr=> ∃k:Nat,k<=N/\i=.int .i64 k/\a5X w wr wc.heap.size N k (aV L.length) (fa L)/\Below w.heap.size w wr) (λ_ i _=>N - (intOf i).toNat)
 case atStart=>exact⟨0,by omega,rfl,av,au⟩
 case round=>
  obtain⟨k,hk,rfl,ht,Z⟩:=hrel;by_cases p:k<N
  .have hT:=BJ.{0} (k:Int) ao cap L wr (by omega) (ai HF) (jx (ai HS) Z);obtain⟨cs,O,m,d,y⟩:=ht;have ab:wc.heap.size<wr.heap.size:=O.lt;have k0:(0:Int)<=(k:Int):=by omega
   have k1:(k:Int)<(N:Int):=by omega
   have HD:=am d;have ad:=am y;have t:=am Z;have aP:=am O;clear d y Z O;go_wp2_with (go_at_call 43;refine hT.mono ?_;rintro e w2 ⟨v2,rfl,a,n⟩;obtain⟨a2,c2,rfl⟩:=dA a;have B:=(ai aP).below n ab;have c0:=(B.cell k).trans (ai ad k (aF _) p);have z0:=B.frozen k;have ae:=am a;have ag:=am n;have z:=am B;clear a n B)
   go_roundw
   case rel=>
    refine⟨k+1,by omega,by go_num,⟨cs.setIfInBounds k _,(ai z).set k _,by simpa using m,λj hj=>?_,λj hj ba=>?_⟩,?_⟩
    .by_cases al:j=k
     .subst al;refine⟨_,by rw[j8 (by omega)],?_⟩;exact cW (eA (ai ae) (by omega)) (ai z) (by decide)
     .obtain⟨v,C,K⟩:=ai HD j (by omega);refine⟨v,by rw[di (Ne.symm al)];exact C,?_⟩;exact cW (da K (ai ag) (aF _)) (ai z) (by decide)
    .rw[di (by omega)];exact ai ad j (by omega) ba
    .exact((ai t).trans ((ai ag).mono (ai t).size)).setCell X _
   case measure=>simp[intOf];omega
  .obtain rfl:k=N:=by omega
   obtain⟨cs,O,m,d,_⟩:=ht;have F:∀i,i<k->∃v,wr.cell? ⟨wc.heap.size,i,none⟩=some v/\cs.getD i undef=v/\wr.ownsRow w.heap.size 64 2 v (aV L.length) (fa L i):=λi D=>by obtain⟨v,C,K⟩:=d i D;exact⟨v,(O.cell i).trans C,by simp[fR,C],K⟩
   have bb:aV L.length<=100:=by unfold aV;omega
   have HG:=am F;have t:=am Z;clear O d F Z;by_cases h0:0<k/\0<aV L.length
   .have hC:=NK.{0} k (aV L.length) wc.heap.size k w.heap.size (λi=>cs.getD i undef) (fa L) wr h0.1 (by omega) h0.2 bb (λi D=>by obtain⟨v,h1,f,_⟩:=ai HG i D;rw[f];exact h1) (λi D=>by obtain⟨v,_,f,J⟩:=ai HG i D;rw[f];exact J) (λi _=>Ha _ _ _);go_wp2_with (go_at_call 156;refine hC.mono ?_;rintro e w2 ⟨v2,rfl,a,n⟩;obtain⟨a2,c2,rfl⟩:=dA a);go_ret;exact⟨_,rfl,eA a (ai t).size,(ai t).trans (n.mono (ai t).size)⟩
   .have hz:k*aV L.length=0:=by
     obtain h|h:=kh k
     .simp[h]
     .rcases kh (aV L.length)with f|f
      .simp[f]
      .exact absurd ⟨h,f⟩ h0
    have hC:=CZ.{0} k wc.heap.size k wr (by omega) (λi D=>by
     obtain⟨v,h1,_,J⟩:=ai HG i D;obtain⟨ao,c,rfl⟩:=dA J;have:aV L.length=0:=by
      obtain f|f:=kh (aV L.length)
      .exact f
      .exact absurd ⟨by omega,f⟩ h0
     rw[this]at h1;exact⟨ao,c,h1⟩)
    go_wp2_with (go_at_call 156;refine hC.mono ?_;rintro e w2 ⟨rfl,n⟩);go_ret;refine⟨_,rfl,⟨?_,.inl ⟨rfl,hz⟩⟩,(ai t).trans (n.mono (ai t).size)⟩;rw[hz];have:∀l:List Nat,(∀i∈l,i<k)->l.flatMap (fa L)=[]:=by
     intro l M;induction l with
     |nil=>rfl
     |cons i l ih=>
      obtain⟨v,_,_,J⟩:=ai HG i (M i (by simp));have h4:=J.1;have hk:0<k:=Nat.lt_of_le_of_lt (m8 _) (M i (by simp));have h5:aV L.length=0:=by
       obtain f|f:=kh (aV L.length)
       .exact f
       .exact absurd ⟨hk,f⟩ h0
      rw[h5]at h4;have h6:fa L i=[]:=fq (by simpa using h4);rw[jF,h6,ih λx hx=>M x (by simp[hx])];rfl
    simp[gm,this (List.range k) (λi D=>a6K.1 D)]
end
end Go.Proofs.q
end
section
namespace Go.Proofs
def Gh.ilock_free(a w)(c:w.cell? a=some (.int .i32 0))(f:w.frozen? a=false):Calls Gh.prog.{0} 144 #[.pointer (some a)] w λe g=>e=.returned (.tuple #[])/\g=w.setCell a (.int .i32 1):=by
 have d:=run_call_cas_hit (P:=Gh.prog.{0}) Gh.func185 (by kernel_rfl) (by kernel_rfl) (by kernel_rfl) .i32 (by kernel_rfl) (y:=1) c f;have b:(w.setCell a (.int .i32 1)).cell? a=some (.int .i32 1):=by simp[go_sem,c]
 have h:=run_convert_to_unsafe (P:=Gh.prog.{0}) (src:=302) (dst:=112) Gh.underlying302 Gh.underlying112 (by kernel_rfl) b;go_enter Gh.func144,Gh.ntmps144;simp only[Gh.mH];go_wp2
 first|go_end0|(simp only[Exit.inBlock,Exit.then];refine bodyPost_ret (results_none rfl _ _ _) rfl ?_)|refine bodyPost_ret (results_none rfl _ _ _) rfl ?_
 exact⟨rfl,rfl⟩
def Gh.iunlock_held(a w)(b:w.cell? a=some (.int .i32 1))(d:w.frozen? a=false):Calls Gh.prog.{0} 145 #[.pointer (some a)] w λe f=>e=.returned (.tuple #[])/\f=w.setCell a (.int .i32 0):=by
 have c:=run_call_add (P:=Gh.prog.{0}) Gh.func190 (by kernel_rfl) (by kernel_rfl) (by kernel_rfl) .i32 (by kernel_rfl) (y:= -1) (s:=0) b d (by simp[go_sem];rfl);have g:=run_convert_to_unsafe (P:=Gh.prog.{0}) (src:=302) (dst:=112) Gh.underlying302 Gh.underlying112 (by kernel_rfl) b;go_enter Gh.func145,Gh.ntmps145;simp only[Gh.mI];go_wp2
 first|go_end0|(simp only[Exit.inBlock,Exit.then];refine bodyPost_ret (results_none rfl _ _ _) rfl ?_)|refine bodyPost_ret (results_none rfl _ _ _) rfl ?_
 exact⟨rfl,rfl⟩
def Gh.lock_free(a w)(c:w.cell? a=some (.int .i32 0))(d:w.frozen? a=false):Calls Gh.prog.{0} 93 #[.pointer (some a)] w λe b=>e=.returned (.tuple #[])/\b=w.setCell a (.int .i32 1):=by go_enter Gh.func93,Tryz.ntmps93;go_wp2_with (go_at_call 144;refine(Gh.ilock_free a _ c d).mono ?_;rintro e b ⟨rfl,rfl⟩);go_end0;exact⟨rfl,rfl⟩
def Gh.unlock_deferred(a u w)(c:w.cell? a=some (.int .i32 1))(d:w.frozen? a=false):CallsD Gh.prog.{0} 94 #[.pointer (some a)] u w λe f b=>f=u/\(e=.returned (.tuple #[])/\b=w.setCell a (.int .i32 0)):=by
 go_enter_d Gh.func94,Tryz.ntmps94
 go_wp2_with (go_at_call 145;refine(Gh.iunlock_held a _ c d).mono ?_;rintro e b ⟨rfl,rfl⟩);go_end0;exact⟨rfl,rfl⟩
end Go.Proofs
end
section
namespace Go.Proofs.q
open Go.RowKit Go.Shelf Go.Lib
section
attribute [local go_sem ↓] Go.wp_at_zero Go.wp_at_succ
def tM{P:ay}{c:Code}{Q:Exit->Act->aa->Prop}{a:Act}{w:aa}(h:c.wp P (λe a w=>match e with| .normal=>Q .normal a w|_=>False) a w):c.wp P Q a w:=Code.wp_mono (λe a w h=>by cases e<;>first|exact h|exact h.elim) h
def a5B(J R V base a L q cv r w)(d:ed w base R a L V cv r)(z:base<=w.heap.size)(j:∀W,Below w.heap.size (w.setCell ⟨R,1,none⟩ (.int .i32 1)) W->Calls Gh.prog.{0} 47 #[.agg #[r],.pointer (some ⟨J,0,none⟩)] W λe K=> ∃l,e=.returned (.agg #[l])/\K.ownsRow W.heap.size 137 7 l q.length (aM q)/\Below W.heap.size W K):Calls Gh.prog.{0} 44 #[.pointer (some ⟨R,0,none⟩),.func (.func 47) #[] #[.pointer (some ⟨J,0,none⟩)]] w λe A=>e=.returned (.tuple #[])/\∃M s,ed A base R a q M cv s/\w.grownBy A (some R)/\w.heap.size<=M/\A.ownsRow w.heap.size 137 7 s q.length (aM q):=by
 have B:V≠R:=λe=>by have t:=d.blk;have y:=d.view;rw[e]at y;unfold aK at t y;rw[t]at y;simp at y
 have t:=(d.blk.cell 1).trans (show _=some (.int .i32 0)from rfl);have N:=d.blk.frozen 1;have m:aK (w.setCell ⟨R,1,none⟩ (.int .i32 1)) R #[cv,.int .i32 1,.int .u32 0,.pointer (some ⟨V,0,none⟩)] 116:=d.blk.set 1 (.int .i32 1);have u:aK (w.setCell ⟨R,1,none⟩ (.int .i32 1)) V #[r] 122:=d.view.other (p:=⟨R,1,none⟩) (λe=>B e.symm) _;have c1:(w.setCell ⟨R,1,none⟩ (.int .i32 1)).ownsRow base 3 1 cv a.length (dq a):=cW d.aO d.blk (by decide);have O:w.grownBy (w.setCell ⟨R,1,none⟩ (.int .i32 1)) (some R):=⟨rfl,rfl,rfl,by simp,λk _ C=>Below.heap_setCell _ _ _ _ (λe=>C (by rw[e]))⟩;have P:(w.setCell ⟨R,1,none⟩ (.int .i32 1)).heap.size=w.heap.size:=by simp
 have D:base<=R:=d.new.1;have S:R<w.heap.size:=d.blk.lt;have T:V<w.heap.size:=d.view.lt;have E:=am c1;have F:=am O;have H:=am P;clear d c1 O P
 go_enter_defers Gh.func44,Tryz.ntmps44
 go_wp2_with (go_at_call 93;refine(Gh.lock_free ⟨R,1,none⟩ _ t N).mono ?_;rintro e Y ⟨rfl,rfl⟩);generalize w.setCell ⟨R,1,none⟩ (.int .i32 1)=W0 at*;have Z:=(u.cell 0).trans (show _=some r from rfl);clear t N;have Q:=jq.{0};refine tM ?_
 go_region_with_o (first|(go_at_call 49;refine(vV R 3 V r W0.drew ((m.cell 3).trans rfl) u).mono ?_;rintro e w2 ⟨rfl,rfl⟩)|(go_at_call 47;refine(j W0.drew (Below.refl _ W0).drew).mono ?_;rintro e g ⟨l,rfl,h,v⟩;have n:=am (show Below W0.heap.size W0 g from Below.trans ((Below.refl _ W0).drew) v);have x:=am h;have b:=m.below (ai n) m.lt;have r0:=(b.cell 0).trans (show _=some cv from rfl);clear h v)|(go_at_call 37;refine(xy R 3 g.heap.size l (.pointer (some ⟨V,0,none⟩)) _ (((b.alloc (.cells #[l] 122)).cell 3).trans rfl) ((b.alloc _).frozen 3) (aK.new g _ _)).mono ?_;rintro e w4 ⟨rfl,rfl⟩))
 dsimp only;go_wp2;refine leaves_cons (f:=94) (args:=#[.pointer (some ⟨R,1,none⟩)]) (by simp) (by simp[go_sem]) ?_;have c:=(b.alloc (.cells #[l] 122)).set 3 (.pointer (some ⟨g.heap.size,0,none⟩));refine(Gh.unlock_deferred ⟨R,1,none⟩ .returning _ ((c.cell 1).trans rfl) (c.frozen 1)).mono ?_;rintro e u' U ⟨rfl,rfl,rfl⟩;have X:W0.heap.size=w.heap.size:=ai H;have I:w.heap.size<=g.heap.size:=by have:=(ai n).size;omega
 have i:g.heap.size≠R:=by omega
 have o:=ai n;refine⟨_,results_none rfl _ _ _,rfl,g.heap.size,l,⟨?_,?_,?_,?_,D,by omega⟩,?_,I,?_⟩
 .exact c.set 1 _
 .exact((aK.new g _ _).other (p:=⟨R,3,none⟩) i.symm _).other (p:=⟨R,1,none⟩) i.symm _
 .exact cW (cW (da (da (ai E) o (aF _)) (bH g _) (aF _)) (b.alloc _) (by decide)) c (by decide)
 .exact cW (cW (da (eA (ai x) (show base<=W0.heap.size by omega)) (bH g _) (aF _)) (b.alloc _) (by decide)) c (by decide)
 .exact dg (ai F) (dg (jj ⟨o.os,o.tape,o.output,o.size,λk C _=>o.block k C⟩) (dg (jj (World.grownBy_alloc g _ none)) (dg (gj _ _ _ _) (gj _ _ _ _))))
 .exact cW (cW (da (eA (ai x) (show w.heap.size<=W0.heap.size by omega)) (bH g _) (aF _)) (b.alloc _) (by decide)) c (by decide)
def M6(bf J K R V base a L q cv r w)(d:ed w base R a L V cv r)(z:base<=w.heap.size)(j:∀W,Below w.heap.size (w.setCell ⟨R,1,none⟩ (.int .i32 1)) W->Calls Gh.prog.{0} 45 #[.agg #[r],.pointer (some ⟨bf,0,none⟩),.pointer (some ⟨J,0,none⟩),.pointer (some ⟨K,0,none⟩)] W λe M=> ∃l,e=.returned (.agg #[l])/\M.ownsRow W.heap.size 137 7 l q.length (aM q)/\Below W.heap.size W M):Calls Gh.prog.{0} 44 #[.pointer (some ⟨R,0,none⟩),.func (.func 45) #[] #[.pointer (some ⟨bf,0,none⟩),.pointer (some ⟨J,0,none⟩),.pointer (some ⟨K,0,none⟩)]] w λe A=>e=.returned (.tuple #[])/\∃N s,ed A base R a q N cv s/\w.grownBy A (some R)/\w.heap.size<=N/\A.ownsRow w.heap.size 137 7 s q.length (aM q):=by
 have B:V≠R:=λe=>by have t:=d.blk;have y:=d.view;rw[e]at y;unfold aK at t y;rw[t]at y;simp at y
 have t:=(d.blk.cell 1).trans (show _=some (.int .i32 0)from rfl);have O:=d.blk.frozen 1;have m:aK (w.setCell ⟨R,1,none⟩ (.int .i32 1)) R #[cv,.int .i32 1,.int .u32 0,.pointer (some ⟨V,0,none⟩)] 116:=d.blk.set 1 (.int .i32 1);have u:aK (w.setCell ⟨R,1,none⟩ (.int .i32 1)) V #[r] 122:=d.view.other (p:=⟨R,1,none⟩) (λe=>B e.symm) _;have c1:(w.setCell ⟨R,1,none⟩ (.int .i32 1)).ownsRow base 3 1 cv a.length (dq a):=cW d.aO d.blk (by decide);have P:w.grownBy (w.setCell ⟨R,1,none⟩ (.int .i32 1)) (some R):=⟨rfl,rfl,rfl,by simp,λk _ C=>Below.heap_setCell _ _ _ _ (λe=>C (by rw[e]))⟩;have Q:(w.setCell ⟨R,1,none⟩ (.int .i32 1)).heap.size=w.heap.size:=by simp
 have D:base<=R:=d.new.1;have T:R<w.heap.size:=d.blk.lt;have U:V<w.heap.size:=d.view.lt;have E:=am c1;have F:=am P;have H:=am Q;clear d c1 P Q
 go_enter_defers Gh.func44,Tryz.ntmps44
 go_wp2_with (go_at_call 93;refine(Gh.lock_free ⟨R,1,none⟩ _ t O).mono ?_;rintro e Z ⟨rfl,rfl⟩);generalize w.setCell ⟨R,1,none⟩ (.int .i32 1)=W0 at*;have v0:=(u.cell 0).trans (show _=some r from rfl);clear t O;have S:=jq.{0};refine tM ?_
 go_region_with_o (first|(go_at_call 49;refine(vV R 3 V r W0.drew ((m.cell 3).trans rfl) u).mono ?_;rintro e w2 ⟨rfl,rfl⟩)|(go_at_call 45;refine(j W0.drew (Below.refl _ W0).drew).mono ?_;rintro e g ⟨l,rfl,h,v⟩;have n:=am (show Below W0.heap.size W0 g from Below.trans ((Below.refl _ W0).drew) v);have x:=am h;have b:=m.below (ai n) m.lt;have r0:=(b.cell 0).trans (show _=some cv from rfl);clear h v)|(go_at_call 37;refine(xy R 3 g.heap.size l (.pointer (some ⟨V,0,none⟩)) _ (((b.alloc (.cells #[l] 122)).cell 3).trans rfl) ((b.alloc _).frozen 3) (aK.new g _ _)).mono ?_;rintro e w4 ⟨rfl,rfl⟩))
 dsimp only;go_wp2;refine leaves_cons (f:=94) (args:=#[.pointer (some ⟨R,1,none⟩)]) (by simp) (by simp[go_sem]) ?_;have c:=(b.alloc (.cells #[l] 122)).set 3 (.pointer (some ⟨g.heap.size,0,none⟩));refine(Gh.unlock_deferred ⟨R,1,none⟩ .returning _ ((c.cell 1).trans rfl) (c.frozen 1)).mono ?_;rintro e u' X ⟨rfl,rfl,rfl⟩;have Y:W0.heap.size=w.heap.size:=ai H;have I:w.heap.size<=g.heap.size:=by have:=(ai n).size;omega
 have i:g.heap.size≠R:=by omega
 have o:=ai n;refine⟨_,results_none rfl _ _ _,rfl,g.heap.size,l,⟨?_,?_,?_,?_,D,by omega⟩,?_,I,?_⟩
 .exact c.set 1 _
 .exact((aK.new g _ _).other (p:=⟨R,3,none⟩) i.symm _).other (p:=⟨R,1,none⟩) i.symm _
 .exact cW (cW (da (da (ai E) o (aF _)) (bH g _) (aF _)) (b.alloc _) (by decide)) c (by decide)
 .exact cW (cW (da (eA (ai x) (show base<=W0.heap.size by omega)) (bH g _) (aF _)) (b.alloc _) (by decide)) c (by decide)
 .exact dg (ai F) (dg (jj ⟨o.os,o.tape,o.output,o.size,λk C _=>o.block k C⟩) (dg (jj (World.grownBy_alloc g _ none)) (dg (gj _ _ _ _) (gj _ _ _ _))))
 .exact cW (cW (da (eA (ai x) (show w.heap.size<=W0.heap.size by omega)) (bH g _) (aF _)) (b.alloc _) (by decide)) c (by decide)
end
end Go.Proofs.q
end
section
namespace Go.Proofs.q
open Go.RowKit
attribute [local go_sem ↓] Go.wp_at_zero Go.wp_at_succ
def jX(r:Rw):Bool:= !r.ci
def H9(r w):Calls Gh.prog.{0} 108 #[.agg #[.int .u32 r.addr,.int .i64 r.len,.int .i64 r.tag,.int .i64 r.met,.int .i64 r.az,.int .i64 r.bM,.bool r.ci]] w λe w'=>e=.returned (.bool (jX r))/\aL w w':=by go_enter Gh.func108,Tryz.ntmps108;go_wp2;go_ret;exact⟨rfl,(aL.refl w).alloc _⟩
namespace Tld
def Fh(ao n cap L w)(u:L.length=n)(J:n<=1000000)(v:fP w ao L):Calls Gh.prog.{0} 151 #[.slice ao n cap,.func (.func 108) #[] #[]] w λe w'=>((e=.returned (.int .i64 (-1))/\∀x∈L,jX x=false)\/(∃i,∃K:i<L.length,e=.returned (.int .i64 i)/\jX L[i]=true/\∀j,(d:j<L.length)->j<i->jX L[j]=false))/\aL w w':=by
 have y:=am u;have C:=am v;clear u v;go_enter Gh.func151,Tryz.ntmps151;go_wp2
 go_loopw [8] (λi wr=> ∃k:Nat,k<=n/\i=.int .i64 k/\aL w wr/\∀j,(d:j<L.length)->j<k->jX L[j]=false) (λi _=>n - (intOf i).toNat)
 case atStart=>exact⟨0,by omega,rfl,aL.refl _,λj d h=>by omega⟩
 case round=>
  obtain⟨k,M,rfl,o,c⟩:=hrel;have q:=am c;have l:=am o;clear c;by_cases r:k<n
  .have a:k<L.length:=by rw[ai y];exact r
   obtain h0|⟨b,D,rfl,z⟩:=jx (ai C) o.below
   .rw[h0]at a;simp at a
   .obtain⟨N,c1,c2,O,P,Q,R⟩:=z k a;have S:(0:Int)<=(k:Int):=by omega
    have T:(k:Int)<(n:Int):=by omega
    have p:=λW=>H9 L[k] W;generalize A:L[k]=E at*;have B:=am A;clear A z o;cases g:jX E with
    |true=>have s:=am g;simp only[g]at p;clear g;go_wp2_with (go_at_call 108;refine(p _).mono ?_;rintro e F ⟨rfl,f⟩);go_ret;exact⟨.inr ⟨k,a,rfl,by rw[ai B];exact ai s,ai q⟩,(ai l).trans f⟩
    |false=>
     have s:=am g;simp only[g]at p;clear g;go_wp2_with (go_at_call 108;refine(p _).mono ?_;rintro e F ⟨rfl,f⟩)
     go_roundw
     case rel=>
      refine⟨k+1,by omega,by go_num,(ai l).trans f,λj d H=>?_⟩;by_cases m:j=k
      .subst m;rw[ai B];exact ai s
      .exact ai q j d (by omega)
     case measure=>simp[intOf];omega
  .have t:k=n:=by omega
   subst t;go_wp2;go_ret;refine⟨.inl ⟨rfl,λx I=>?_⟩,o⟩;obtain⟨j,d,rfl⟩:=nV I;exact ai q j d (by rw[<-ai y];exact d)
def gG(L:List Rw):List Rw:=L.filter λr=> !(jX r)
def Ft{L}(h:∀x∈L,jX x=false):gG L=L:=List.filter_eq_self.2 λx a=>by simp[h x a]
def Fu{L:List Rw}{j}(a:j<L.length)(h:jX L[j]=true):gG (L.take (j+1))=gG (L.take j):=by unfold gG;rw[kL a,List.filter_append];simp only[List.filter_cons,List.filter_nil,h,a6O,dj,if_false,a6W]
def TN{L:List Rw}{j}(a:j<L.length)(h:jX L[j]=false):gG (L.take (j+1))=gG (L.take j)++[L[j]]:=by unfold gG;rw[kL a,List.filter_append];simp only[List.filter_cons,List.filter_nil,h,Bool.not_false,if_true]
def xk(M i):(aM M).take (i*7)=aM (M.take i):=by
 induction M generalizing i with
 |nil=>simp[aM]
 |cons x R a=>
  cases i with
  |zero=>simp[aM]
  |succ i=>have:=a i;simp only[aM,jF,List.take_succ_cons]at this⊢;rw[<-this,List.take_append,show(cQ x).length=7 from rfl,show(i+1)*7 - 7=i*7 by omega,mZ (show(cQ x).length<=(i+1)*7 by rw[show(cQ x).length=7 from rfl];omega)]
def Ye{w:aa}{base g n cap i M}(h:w.ownsRow base 137 7 (.slice (some ⟨g,0,none⟩) n cap) n (aM M))(f:i<=n):w.ownsRow base 137 7 (.slice (some ⟨g,0,none⟩) i cap) i (aM (M.take i)):=by
 obtain⟨j,⟨a,_⟩|⟨o,p,b,a,c,k,l,d,e,m⟩⟩:=h
 .simp at a
 .simp at a;obtain⟨rfl,rfl⟩:=a;rw[jw]at j;refine⟨by rw[jw,it];omega,.inr ⟨g,cap,b,rfl,c,k,by omega,d,e,?_⟩⟩;rw[<-xk,<-m,a7Y,a7r (a6p 7 f)]
def Yd{w:aa}{base g n cap o xs}(h:w.ownsRow base 137 7 (.slice (some ⟨g,0,none⟩) n cap) n xs)(i:n*7<=o)(v):(w.setCell ⟨g,o,none⟩ v).ownsRow base 137 7 (.slice (some ⟨g,0,none⟩) n cap) n xs:=by
 obtain⟨j,⟨b,_⟩|⟨m,p,a,b,c,k,d,e,f,l⟩⟩:=h
 .simp at b
 .simp at b;obtain⟨rfl,rfl⟩:=b;refine⟨j,.inr ⟨g,cap,a.setIfInBounds o v,rfl,c,(show aK w g a 137 from k).set o v,d,e,by simpa using f,?_⟩⟩;rw[a7C,List.take_set_of_le i,l]
theorem Hd{base g n cap a}:∀b o (w:aa),w.ownsRow base 137 7 (.slice (some ⟨g,0,none⟩) n cap) n a->n*7<=o->(w.setCells g o b).ownsRow base 137 7 (.slice (some ⟨g,0,none⟩) n cap) n a
 |[],_,_,h,_=>h
 |v::r,o,w,h,c=>Hd r (o+1) (w.setCell ⟨g,o,none⟩ v) (Yd h c v) (by omega)
theorem E9{g}:∀a o (w:aa),w.grownBy (w.setCells g o a) (some g)
 |[],_,_=>⟨rfl,rfl,rfl,aF _,λ_ _ _=>rfl⟩
 |v::r,o,w=>dg (gj _ _ _ _) (E9 r (o+1) (w.setCell ⟨g,o,none⟩ v))
def a5z(n):(Builtin.zeroCells #[.int .u32 0,.int .i64 0,.int .i64 0,.int .i64 0,.int .i64 0,.int .i64 0,.bool false] n).toList.length=n*7/\∀v∈(Builtin.zeroCells #[.int .u32 0,.int .i64 0,.int .i64 0,.int .i64 0,.int .i64 0,.int .i64 0,.bool false] n).toList,v.oneCell'=true:=by
 constructor
 .simp[Builtin.zeroCells]
 .intro v a;simp only[Builtin.zeroCells,iZ,eS]at a;obtain⟨i,_,rfl⟩:=a;have:i%7<7:=Nat.mod_lt _ (by decide);show(#[Value.int .u32 0,.int .i64 0,.int .i64 0,.int .i64 0,.int .i64 0,.int .i64 0,.bool false][i%7]!).oneCell'=true;obtain h|h|h|h|h|h|h:=(by omega:i%7=0\/i%7=1\/i%7=2\/i%7=3\/i%7=4\/i%7=5\/i%7=6)<;>rw[h]<;>rfl
def a0l(w d g o n c)(k:0<n)(e:∀j,j<n*7->(w.cell? ⟨g,o+j,none⟩).isSome=true)(f:∀j,j<n*7->w.frozen? ⟨g,o+j,none⟩=false):(Builtin.clear_ #[118] d #[.slice (some ⟨g,o,none⟩) n c]).run Gh.prog.{0} w=.ok (.tuple #[]) (w.setCells g o (Builtin.zeroCells #[.int .u32 0,.int .i64 0,.int .i64 0,.int .i64 0,.int .i64 0,.int .i64 0,.bool false] n).toList):=by obtain⟨b,h⟩:=a5z n;have a:=run_storeCells_cells (P:=Gh.prog.{0}) g o _ 0 w (by rw[b];simpa using e) (by rw[b];simpa using f) h;simp only[m6]at a;have i:=Gh.zeroValue137.{0};obtain⟨m,rfl⟩:∃m,n=m+1:=⟨n - 1,by omega⟩;simp[Builtin.clear_,run_underlying Gh.underlying118,i,Value.cells,a]
def a2d{α:Type}(M:List α)(i x)(a:i<M.length):(M.set i x).take (i+1)=M.take i++[x]:=by rw[kL (by simpa using a),List.getElem_set_self];congr 1;rw[List.take_set_of_le (aF _)]
def NY(base g n cap L w)(hL:L.length=n)(hn:n<=1000000)(a:w.ownsRow base 137 7 (.slice (some ⟨g,0,none⟩) n cap) n (aM L)):Calls Gh.prog.{0} 99 #[.slice (some ⟨g,0,none⟩) n cap,.func (.func 108) #[] #[]] w λe w'=>e=.returned (.slice (some ⟨g,0,none⟩) (gG L).length cap)/\w'.ownsRow base 137 7 (.slice (some ⟨g,0,none⟩) (gG L).length cap) (gG L).length (aM (gG L))/\w.grownBy w' (some g):=by
 have hI:=Fh (some ⟨g,0,none⟩) n cap L w hL hn (nM a);have O:=am hL;have HO:=am a;have aP:n<=cap/\cap<=maxLen:=by
  obtain⟨_,⟨hv,_⟩|⟨g',c',P,hv,_,_,h1,h2,_⟩⟩:=a
  .simp at hv
  .simp at hv;omega
 clear hL a;go_enter Gh.func99,Tryz.ntmps99;go_wp2_with fail;refine hI.mono ?_;rintro e w1 ⟨⟨rfl,Q⟩|⟨R,S,rfl,T,y⟩,m⟩
 .have U:=am (Ft Q);clear Q;go_wp2;go_ret;rw[ai U,ai O];exact⟨rfl,lj (ai HO) (m.below.block _ (iH (ai HO))),jj m.grownBy⟩
 .have o:=lj (ai HO) (m.below.block _ (iH (ai HO)));have al:=am m;have ba:((R:Int)== -1)=false:=by simp
  have bb:R<n:=by rw[<-ai O];exact S
  have HB:=am y;have ao:=am T;clear y T m hI;go_wp2_with fail
  go_loopw [5,6] (λvi vj wr=> ∃(i j:Nat) (M:List Rw),i<j/\j<=n/\vi=.int .i64 i/\vj=.int .i64 j/\M.length=n/\M.take i=gG (L.take j)/\M.drop j=L.drop j/\wr.ownsRow base 137 7 (.slice (some ⟨g,0,none⟩) n cap) n (aM M)/\w1.grownBy wr (some g)) (λ_ vj _=>n - (intOf vj).toNat)
  case atStart=>
   refine⟨R,R+1,L,by omega,by omega,rfl,by go_num,ai O,?_,rfl,o,World.grownBy.refl _ _⟩;rw[Fu S (ai ao)];refine(Ft λx hx=>?_).symm;obtain⟨j,hj,rfl⟩:=nV hx;rw[a7d];have V:j<R/\j<L.length:=by rw[it]at hj;omega
   exact ai HB j V.2 V.1
  case round=>
   obtain⟨i,j,M,bl,bn,rfl,rfl,hM,s,t,a,u⟩:=hrel;clear o;by_cases aq:j<n
   .have C:j<M.length:=by omega
    have D:j<L.length:=by rw[ai O];exact aq
    have F:M[j]=L[j]:=by have h1:=a6h C;have h2:=a6h D;rw[t,h2]at h1;exact(a7B h1).1.symm
    have z:M.drop (j+1)=L.drop (j+1):=by have:=congrArg (List.drop 1) t;simpa[List.drop_drop]using this
    obtain⟨_,X⟩:=sX a C;have A:=X j C;simp only[dG]at A;obtain⟨c0,c1,c2,c3,c4,c5,c6⟩:=A;have Y:=λW=>H9 M[j] W;have bo:=am F;have Z:=am s;have ab:=am z;have l:=am a;have v:=am u;have H:=am (λh=>Fu (L:=L) (j:=j) D h);have I:=am (λh=>TN (L:=L) (j:=j) D h);rw[F]at c0 c1 c2 c3 c4 c5 c6 Y;have j0:(0:Int)<=(j:Int):=by omega
    have j1:(j:Int)<(n:Int):=by omega
    clear F s t z a u X;generalize L[j]=E at*;cases J:jX E with
    |true=>
     have U:=am (ai H J);simp only[J]at Y;clear J H I;go_wp2_with (go_at_call 108;refine(Y _).mono ?_;rintro e w4 ⟨rfl,p⟩);have ad:=((aL.refl wr).alloc (.cells #[.int .u32 E.addr,.int .i64 E.len,.int .i64 E.tag,.int .i64 E.met,.int .i64 E.az,.int .i64 E.bM,.bool E.ci] 137)).trans p
     go_roundw
     case rel=>exact⟨i,j+1,M,by omega,by omega,rfl,by go_num,hM,by rw[ai U];exact ai Z,ai ab,lj (ai l) (ad.below.block _ (iH (ai l))),dg (ai v) (jj ad.grownBy)⟩
     case measure=>simp[intOf];omega
    |false=>
     have U:=am (ai I J);simp only[J]at Y;clear J H I;have K:i<M.length:=by omega
     have d:i<n:=by omega
     have k0:(0:Int)<=(i:Int):=by omega
     have k1:(i:Int)<(n:Int):=by omega
     have bp:IntKind.i64.wrap ((i:Int)+1)=(i:Int)+1:=wrap_small _ (by omega) (by omega);have br:IntKind.i64.wrap ((j:Int)+1)=(j:Int)+1:=wrap_small _ (by omega) (by omega);go_wp2_with (go_at_call 108;refine(Y _).mono ?_;rintro e w4 ⟨rfl,p⟩;have B:=(aK.new wr #[.int .u32 E.addr,.int .i64 E.len,.int .i64 E.tag,.int .i64 E.met,.int .i64 E.az,.int .i64 E.bM,.bool E.ci] 137).dY p;have x0:=B.cell 0;have x1:=B.cell 1;have x2:=B.cell 2;have x3:=B.cell 3;have x4:=B.cell 4;have x5:=B.cell 5;have x6:=B.cell 6;have r:=((aL.refl wr).alloc _).trans p;have f:=lj (ai l) (r.below.block _ (iH (ai l)));obtain⟨⟨P,c,b⟩,_⟩:=sX f K;obtain⟨u0,s0⟩:=jc c b d 0 (by decide);obtain⟨u1,s1⟩:=jc c b d 1 (by decide);obtain⟨u2,s2⟩:=jc c b d 2 (by decide);obtain⟨u3,s3⟩:=jc c b d 3 (by decide);obtain⟨u4,s4⟩:=jc c b d 4 (by decide);obtain⟨u5,s5⟩:=jc c b d 5 (by decide);obtain⟨u6,s6⟩:=jc c b d 6 (by decide);rw[m6]at s0;have z0:=c.frozen (i*7);have z1:=c.frozen (i*7+1);have z2:=c.frozen (i*7+2);have z3:=c.frozen (i*7+3);have z4:=c.frozen (i*7+4);have z5:=c.frozen (i*7+5);have z6:=c.frozen (i*7+6);have ar:=am f;have au:=am r;clear f p r b c B)
     go_roundw
     case rel=>
      refine⟨i+1,j+1,M.set i E,by omega,by omega,by go_num,by go_num,by rw[a6Y];exact hM,?_,?_,He (ai ar) K E,?_⟩
      .rw[a2d M i E K,ai Z,ai U]
      .rw[List.drop_set_of_lt (by omega)];exact ai ab
      .exact dg (ai v) (dg (jj (ai au).grownBy) (dg (dg (dg (dg (dg (dg (gj _ _ _ _) (gj _ _ _ _)) (gj _ _ _ _)) (gj _ _ _ _)) (gj _ _ _ _)) (gj _ _ _ _)) (gj _ _ _ _)))
     case measure=>simp[intOf];omega
   .have ae:j=n:=by omega
    subst ae;have N:gG L=M.take i:=by rw[s,<-ai O,nX]
    have ag:(gG L).length=i:=by rw[N,it];omega
    obtain⟨⟨P,c,b⟩,_⟩:=sX a (show i<M.length by omega);have bd:=λty=>a0l wr ty g (i*7) (j - i) (cap - i) (by omega) (λq J=>by rw[c.cell,eF (by omega)];rfl) (λq _=>c.frozen _);have k:=Ye a (show i<=j by omega);rw[<-N]at k;have HH:=am k;have v:=am u;have av:=am ag;have k0:(0:Int)<=(i:Int):=by omega
    have k1:(i:Int)<=(j:Int):=by omega
    have k2:(i:Int)<=(cap:Int):=by omega
    have k3:(j:Int)<=(cap:Int):=by omega
    have bs: ¬cap=i:=by omega
    have bw:decide ((j:Int)<(j:Int))=false:=by simp
    clear N ag k a u b c s t;go_wp2;go_ret;rw[ai av];exact⟨rfl,Hd _ _ _ (ai HH) (aF _),dg (jj (ai al).grownBy) (dg (ai v) (E9 _ _ _))⟩
def NX(ao cap w):Calls Gh.prog.{0} 99 #[.slice ao 0 cap,.func (.func 108) #[] #[]] w λe w'=>e=.returned (.slice ao 0 cap)/\aL w w':=by
 have hI:=Fh ao 0 cap [] w rfl (by omega) (.inl rfl);go_enter Gh.func99,Tryz.ntmps99;go_wp2_with fail;refine hI.mono ?_;rintro e d ⟨⟨rfl,a⟩|⟨f,b,_⟩,c⟩
 .clear a;go_wp2;go_ret;exact⟨rfl,c⟩
 .simp at b
def NW(base v L w)(h:L.length<=1000000)(a:w.ownsRow base 137 7 v L.length (aM L)):Calls Gh.prog.{0} 99 #[v,.func (.func 108) #[] #[]] w λe c=> ∃f,e=.returned f/\c.ownsRow base 137 7 f (gG L).length (aM (gG L))/\w.grownBy c v.ownBlock:=by
 have b:=a;obtain⟨_,⟨rfl,h0⟩|⟨g,d,i,rfl,_⟩⟩:=b
 .have:L=[]:=fq h0;subst this;refine(NX none 0 w).mono ?_;rintro e c ⟨rfl,j⟩;exact⟨_,rfl,World.ownsRow_nil _ _ _ _,j.grownBy⟩
 .refine(NY base g L.length d L w rfl h a).mono ?_;rintro e c ⟨rfl,k,l⟩;exact⟨_,rfl,k,l⟩
end Tld
end Go.Proofs.q
end
section
namespace Go.Proofs.q
open Go.RowKit Go.Shelf Go.Lib
section
attribute [local go_sem ↓] Go.wp_at_zero Go.wp_at_succ
def lu(r:Rw):Rw:={r with ci:=false}
def a1y(r w):Calls Gh.prog.{0} 158 #[.agg #[.int .u32 r.addr,.int .i64 r.len,.int .i64 r.tag,.int .i64 r.met,.int .i64 r.az,.int .i64 r.bM,.bool r.ci]] w λe w'=>e=.returned (.agg #[.int .u32 (lu r).addr,.int .i64 (lu r).len,.int .i64 (lu r).tag,.int .i64 (lu r).met,.int .i64 (lu r).az,.int .i64 (lu r).bM,.bool (lu r).ci])/\aL w w':=by
 go_enter Gh.func158,Tryz.ntmps158;refine wp_seq (wp_mono (Q:=λe f W=>e=.normal/\f=⟨#[.agg #[.int .u32 r.addr,.int .i64 r.len,.int .i64 r.tag,.int .i64 r.met,.int .i64 r.az,.int .i64 r.bM,.bool r.ci],.pointer (some ⟨w.heap.size,0,none⟩),.pointer (some ⟨w.heap.size+1,0,none⟩),undef,undef],[]⟩/\aK W w.heap.size #[.int .u32 r.addr,.int .i64 r.len,.int .i64 r.tag,.int .i64 r.met,.int .i64 r.az,.int .i64 r.bM,.bool r.ci] 137/\aK W (w.heap.size+1) #[.int .u32 0,.int .i64 0,.int .i64 0,.int .i64 0,.int .i64 0,.int .i64 0,.bool false] 137/\aL w W) ?_ ?_)
 .go_wp2;exact⟨(aK.new w _ _).alloc _,lh w _ _ _ _,((aL.refl w).alloc _).alloc _⟩
 .rintro e f W ⟨rfl,rfl,d,g,h⟩;show Code.wp _ _ _ _ _;have b:=d.set 6 (.bool false);have a:=g.other (p:=⟨w.heap.size,6,none⟩) (by simp) (.bool false);have u:=d.frozen 6;have s:=d.cell 6;have a0:=b.cell 0;have a1:=b.cell 1;have a2:=b.cell 2;have a3:=b.cell 3;have a4:=b.cell 4;have a5:=b.cell 5;have a6:=b.cell 6;simp at a0 a1 a2 a3 a4 a5 a6 s;have s0:=a.cell 0;have x:=a.frozen 0;have y:=a.cell 1;have z:=a.frozen 1;have s2:=a.cell 2;have A:=a.frozen 2;have B:=a.cell 3;have C:=a.frozen 3;have s4:=a.cell 4;have D:=a.frozen 4;have E:=a.cell 5;have F:=a.frozen 5;have H:=a.cell 6;have I:=a.frozen 6;have i:=((((((a.set 0 (.int .u32 r.addr)).set 1 (.int .i64 r.len)).set 2 (.int .i64 r.tag)).set 3 (.int .i64 r.met)).set 4 (.int .i64 r.az)).set 5 (.int .i64 r.bM)).set 6 (.bool false);have c:=am i;have t:=am (h.setCell (p:=⟨w.heap.size,6,none⟩) (by simp) (.bool false));clear i d g b a h;go_wp2;have j:=(ai c).cell 0;have k:=(ai c).cell 1;have l:=(ai c).cell 2;have m:=(ai c).cell 3;have n:=(ai c).cell 4;have o:=(ai c).cell 5;have q:=(ai c).cell 6;simp at j k l m n o q;refine bodyPost_ret (v:=.agg #[.int .u32 r.addr,.int .i64 r.len,.int .i64 r.tag,.int .i64 r.met,.int .i64 r.az,.int .i64 r.bM,.bool false]) (by simp[results,Tryz.results158,go_sem,j,k,l,m,n,o,q]) rfl ⟨rfl,?_⟩;exact((((((((ai t).setCell (by simp) _).setCell (by simp) _).setCell (by simp) _).setCell (by simp) _).setCell (by simp) _).setCell (by simp) _).setCell (by simp) _)
def dp(L:List Rw):List Rw:=L.map lu
def qG(L):(dp L).length=L.length:=by simp[dp]
def a1x(L:List Rw)(k)(h:k<L.length):aM (dp (L.take (k+1)))=aM (dp (L.take k))++cQ (lu L[k]):=by rw[kL h];simp only[dp,nW,cA,d7];rw[xj];simp[aM]
def a4l(ao cap L w)(N:L.length<=1000000)(B:fP w ao L):Calls Gh.prog.{0} 157 #[.agg #[.slice ao L.length cap],.func (.func 158) #[] #[]] w λe w'=> ∃g,e=.returned (.slice (some ⟨g,0,none⟩) L.length L.length)/\w'.ownsRow w.heap.size 137 7 (.slice (some ⟨g,0,none⟩) L.length L.length) L.length (aM (dp L))/\Below w.heap.size w w':=by
 obtain⟨C,n,s,o,t⟩:=info_parts Gh.p8.{0};have I:=am B;have J:=am (aK.new w #[.slice ao L.length cap] 120);clear B;go_enter Gh.func157,Tryz.ntmps157;go_wp2_with (at_make;go_loud (refine wpList_make_own _ rfl _ _ 118 rfl w.heap.size 137 C (.agg #[.int .u32 0,.int .i64 0,.int .i64 0,.int .i64 0,.int .i64 0,.int .i64 0,.bool false]) 7 Gh.underlying118 n s o _ _ _ L.length rfl rfl (by omega) (by rw[t];omega) (by unfold maxLen;omega) (by simp) ?_);intro w2 a j;have D:=(((ai J).below ((Below.refl _ _).grown j (aF _) (by simp)) (by simp)).cell 0).trans (show _=some (.slice ao L.length cap)from rfl));simp only[World.size_alloc]at a;have K:w.heap.size+2<=w2.heap.size:=iH a;have u:Below w.heap.size w w2:=(bH w _).trans ((Below.refl _ _).grown j (by simp) (by simp));clear j D
 go_loopw [5,15] (λd i wr=> ∃k:Nat,k<=L.length/\i=.int .i64 k/\d=.slice (some ⟨w.heap.size+1,0,none⟩) k L.length/\wr.ownsRow w.heap.size 137 7 (.slice (some ⟨w.heap.size+1,0,none⟩) k L.length) k (aM (dp (L.take k)))/\Below w.heap.size w wr) (λ_ i _=>L.length - (intOf i).toNat)
 case atStart=>exact⟨0,by omega,rfl,rfl,by simpa[aM,dp]using a,u⟩
 case round=>
  obtain⟨k,O,rfl,rfl,b,r⟩:=hrel;by_cases f:k<L.length
  .rcases jx (ai I) r with h0|⟨g,M,rfl,p⟩
   .rw[h0]at f;simp at f
   .obtain⟨D,c1,c2,P,Q,R,S⟩:=p k f;have v:=am (a1x L k f);have F:=am r;clear r p;have T:(0:Int)<=(k:Int):=by omega
    have U:(k:Int)<(L.length:Int):=by omega
    generalize L[k]=E at*;go_wp2_with (first|(go_at_call 158;refine(a1y E _).mono ?_;rintro e H ⟨rfl,q⟩;have c:=((aL.refl wr).alloc _).trans q;have l:=lj b (c.below.block _ (iH b));have x:=am c;clear q c)|(at_builtin;go_loud (refine wpList_append_fits _ rfl (.tmp 19) (.tmp 23) 118 rfl w.heap.size 137 C 7 Gh.underlying118 n o (w.heap.size+1) k L.length _ rfl (l.alloc _) ⟨H.heap.size,0,none⟩ 1 1 (cQ (lu E)) rfl rfl (by exact World.news_of_block (heap_alloc_new H _)) (qC _) (by omega) ?_;intro V m y)))
    go_roundw
    case rel=>refine⟨k+1,by omega,by go_num,rfl,by rw[ai v];exact m,?_⟩;have z:=(ai F).trans ((ai x).below.mono (ai F).size);exact(z.alloc z.size _).grown y (by have:=z.size;simp;omega) (by simp)
    case measure=>simp[intOf];omega
  .have A:k=L.length:=by omega
   subst A;have h:=am b;rw[nX]at h;clear b;go_wp2;go_ret;exact⟨_,rfl,ai h,r⟩
def Je(base ao cap L w)(q:L.length<=1000000)(c:w.ownsRow base 137 7 (.slice ao L.length cap) L.length (aM L)):Calls Gh.prog.{0} 107 #[.agg #[.slice ao L.length cap]] w λe w'=> ∃v,e=.returned (.agg #[v])/\w'.ownsRow w.heap.size 137 7 v (dp L).length (aM (dp L))/\Below w.heap.size w w':=by
 have m:=lh w #[.slice ao L.length cap] 120 #[.slice none 0 0] 120;have f:=(((aL.refl w).alloc (.cells #[.slice ao L.length cap] 120)).alloc (.cells #[.slice none 0 0] 120)).below;have g:((w.alloc (.cells #[.slice ao L.length cap] 120)).alloc (.cells #[.slice none 0 0] 120)).heap.size=w.heap.size+2:=by simp
 have r:=a4l ao cap L ((w.alloc (.cells #[.slice ao L.length cap] 120)).alloc (.cells #[.slice none 0 0] 120)) q (jx (nM c) ((((aL.refl w).alloc _).alloc _).below));clear c;have s:=am m;have i:=am f;have h:=am g;clear m f g;go_enter Gh.func107,Tryz.ntmps107;go_wp2_with (go_at_call 157;refine r.mono ?_;rintro e t ⟨n,rfl,a,d⟩;have b:=(ai s).below d (by rw[ai h];omega);have s0:=b.cell 0;have u:=b.frozen 0;have j:=am a;have k:=am d;clear a d);have l:=b.set 0 (.slice (some ⟨n,0,none⟩) L.length L.length);have o:=l.cell 0;simp at o;have x:=ai h;refine bodyPost_ret (v:=.agg #[.slice (some ⟨n,0,none⟩) L.length L.length]) (by simp[results,Tryz.results107,go_sem,o]) rfl ⟨_,rfl,?_,?_⟩
 .rw[qG];exact eA (cW (ai j) b (by decide)) (by omega)
 .exact((ai i).trans ((ai k).mono (by omega))).setCell (p:=⟨w.heap.size+1,0,none⟩) (by simp) _
def LO(ao n cap w):Calls Gh.prog.{0} 55 #[.agg #[.slice ao n cap]] w λe w'=>e=.returned (.agg #[.slice ao n cap])/\aL w w':=by
 go_enter Gh.func55,Tryz.ntmps55;refine wp_seq (wp_mono (Q:=λe b W=>e=.normal/\b=⟨#[.agg #[.slice ao n cap],.pointer (some ⟨w.heap.size,0,none⟩),.pointer (some ⟨w.heap.size+1,0,none⟩),undef],[]⟩/\aK W w.heap.size #[.slice ao n cap] 120/\aK W (w.heap.size+1) #[.slice none 0 0] 120/\aL w W) ?_ ?_)
 .go_wp2;exact⟨(aK.new w _ _).alloc _,lh w _ _ _ _,((aL.refl w).alloc _).alloc _⟩
 .rintro e b W ⟨rfl,rfl,c,a,d⟩;show Code.wp _ _ _ _ _;have a0:=c.cell 0;simp at a0;have s0:=a.cell 0;have i:=a.frozen 0;have f:=a.set 0 (.slice ao n cap);have g:=f.cell 0;simp at g;have h:=am (d.setCell (p:=⟨w.heap.size+1,0,none⟩) (by simp) (.slice ao n cap));clear f c a d;go_wp2;refine bodyPost_ret (v:=.agg #[.slice ao n cap]) (by simp[results,Tryz.results55,go_sem,g]) rfl ⟨rfl,ai h⟩
abbrev fN(L:List Rw):List Rw:=Tld.gG L
def M7(base ao cap L w)(H:L.length<=1000000)(g:w.ownsRow base 137 7 (.slice ao L.length cap) L.length (aM L)):Calls Gh.prog.{0} 54 #[.agg #[.slice ao L.length cap]] w λe w'=> ∃v,e=.returned (.agg #[v])/\w'.ownsRow w.heap.size 137 7 v (fN L).length (aM (fN L))/\Below w.heap.size w w':=by
 have I:=lh w #[.slice ao L.length cap] 120 #[.slice none 0 0] 120;have h:=(((aL.refl w).alloc (.cells #[.slice ao L.length cap] 120)).alloc (.cells #[.slice none 0 0] 120)).below;have k:((w.alloc (.cells #[.slice ao L.length cap] 120)).alloc (.cells #[.slice none 0 0] 120)).heap.size=w.heap.size+2:=by simp
 have l:=CO.{0} base (.slice ao L.length cap) L ((w.alloc (.cells #[.slice ao L.length cap] 120)).alloc (.cells #[.slice none 0 0] 120)) H (da g h (aF _));have M:=am I;have x:=am h;have y:=am k;clear I h g k;go_enter Gh.func54,Tryz.ntmps54;go_wp2_with fail;refine l.mono ?_;rintro e z ⟨N,rfl,a,d⟩;rw[ai y]at a d;have m:=Tld.NW (w.heap.size+2) N L z H a;have f:=a;obtain⟨A,n,rfl⟩:=dA f;have i:=(ai M).below d (by omega);have J:w.heap.size+1<z.heap.size:=i.lt;have o:∀q,(Value.slice A L.length n).ownBlock=some q->w.heap.size+2<=q:=λq B=>(sY a q B).1;have C:=am d;have r:=am i;have D:=am o;clear l d i o a;go_wp2_with fail;refine m.mono ?_;rintro e w2 ⟨O,rfl,b,s⟩;obtain⟨a2,c2,rfl⟩:=dA b;have j:Below (w.heap.size+2) z w2:=(Below.refl _ _).grown s (by omega) (λq B=>ai D q B);have c:=(ai r).below j (by omega);have s0:=c.cell 0;have P:=c.frozen 0;have t:=c.set 0 (.slice a2 (Tld.gG L).length c2);have K:=t.cell 0;simp at K;have E:=am b;have F:=am j;have u:=am c;clear m b s j c t;go_wp2;refine bodyPost_ret (v:=.agg #[.slice a2 (Tld.gG L).length c2]) (by simp[results,Tryz.results54,go_sem,K]) rfl ⟨_,rfl,?_,?_⟩
 .exact eA (cW (ai E) (ai u) (by decide)) (by omega)
 .exact((ai x).trans (((ai C).trans (ai F)).mono (by omega))).setCell (p:=⟨w.heap.size+1,0,none⟩) (by simp) _
end
end Go.Proofs.q
end
