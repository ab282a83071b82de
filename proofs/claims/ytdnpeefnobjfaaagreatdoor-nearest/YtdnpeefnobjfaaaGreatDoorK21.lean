import Derived.Conc.MuLone
import Derived.Lib.Overlaps
import Derived.Test.YtdnpeefnobjfaaaGreatDoorK19
set_option maxRecDepth 100000
set_option maxHeartbeats 4000000
set_option linter.all false
section
namespace Go.Proofs.q
open Go.RowKit Go.Shelf Go.Lib
attribute [local go_sem ↓] Go.wp_at_zero Go.wp_at_succ
def Jq(to l k):∀u∈mL to l k,u.oneCell'=true:=by intro u a;simp only[mL,b1o,pK,dj,a9V,or_false]at a;obtain⟨j,_,rfl|rfl⟩:=a<;>rfl
def ft(L:List Rw)(i:Nat):List aj:=mL (i:Int) (cT (i:Int) L) (aY L.length)
def jI(N:Nat)(L:List Rw):List aj:=(List.range N).flatMap (ft L)
theorem Gh.LP:Gh.prog.{0}.underlying 80=some (.slice 46):=by kernel_rfl
theorem Gh.V9:(Gh.prog.{0}.info? 46).map (λi=>(i.zero,i.size,i.bytes))=some (some (.slice none 0 0),1,24):=by kernel_rfl
def XE(N j)(h:j<N):(madeCells (Value.slice none 0 0).cells (N*1))[j]?=some (.slice none 0 0):=by simp[madeCells,Value.cells,h,b1z]
def a9G(b w:aa)(bt N k n:Nat)(vals:Nat->List aj):Prop:=
 ∃a:Array aj,aE w bt a 46/\a.size=N/\(∀j,j<k->∃v,a[j]?=some v/\w.ownsRow b.heap.size 64 2 v n (vals j))/\∀j,k<=j->j<N->a[j]?=some (.slice none 0 0)
def wW{P α β s}{f:α->Sem β}{w w' y}(h:s.run P w=.ok y w'):(s>>=f).run P w=(f y).run P w':=by simp[h]
theorem Ui(x w):(Instr.field 120 (.agg #[x]) 0).run Gh.prog.{0} w=.ok (x) w:=by kernel_rfl
theorem Pl(x w):(Instr.build 120 #[(0,.agg #[x])]).run Gh.prog.{0} w=.ok (.agg #[x]) w:=by kernel_rfl
theorem T9(a x1 b x3 c d e w):(Instr.field 137 (.agg #[a,x1,b,x3,c,d,e]) 0).run Gh.prog.{0} w=.ok (.agg #[a,x1,b,x3,c]) w:=by kernel_rfl
theorem Ua(b x1 c x3 d a e w):(Instr.field 137 (.agg #[b,x1,c,x3,d,a,e]) 1).run Gh.prog.{0} w=.ok (a) w:=by kernel_rfl
theorem Ub(b x1 c x3 d e a w):(Instr.field 137 (.agg #[b,x1,c,x3,d,e,a]) 2).run Gh.prog.{0} w=.ok (a) w:=by kernel_rfl
theorem Uc(a x1 b x3 c w):(Instr.field 52 (.agg #[a,x1,b,x3,c]) 0).run Gh.prog.{0} w=.ok (.agg #[a,x1]) w:=by kernel_rfl
theorem Ud(b x1 a x3 c w):(Instr.field 52 (.agg #[b,x1,a,x3,c]) 1).run Gh.prog.{0} w=.ok (a) w:=by kernel_rfl
theorem Ue(a x1 b x3 c w):(Instr.field 52 (.agg #[a,x1,b,x3,c]) 2).run Gh.prog.{0} w=.ok (x3) w:=by kernel_rfl
theorem Uf(b x1 c x3 a w):(Instr.field 52 (.agg #[b,x1,c,x3,a]) 3).run Gh.prog.{0} w=.ok (a) w:=by kernel_rfl
theorem Ug(a x1 w):(Instr.field 32 (.agg #[a,x1]) 0).run Gh.prog.{0} w=.ok (a) w:=by kernel_rfl
theorem Uh(a x1 w):(Instr.field 32 (.agg #[a,x1]) 1).run Gh.prog.{0} w=.ok (x1) w:=by kernel_rfl
theorem a9K(a n c w):(binOp .eql 118 (.slice (some a) n c) (.slice none 0 0)).run Gh.prog.{0} w=.ok (.bool false) w:=by kernel_rfl
def Z2(w g cur ao cap L)(i:aE w g cur 46)(p:cur.size=1)(j:gy w ao L)(k:∀b d,0<L.length->ao=some ⟨b,d,none⟩->b≠g):(callFunc 194 #[.slice (some ⟨g,0,none⟩) 1 1,.slice ao L.length cap]).run Gh.prog.{0} w=.ok (.value (.bool false)) w:=by
 rw[run_callFunc_extern Gh.func194 a9k a9k a9k (e:=Extern.SlicesOverlaps.overlaps #[118,118] #[4]) a9k];by_cases h0:0<L.length
 .rcases j with j|⟨b,d,rfl,q⟩
  .rw[j]at h0;simp at h0
  .have r:=k b d h0 rfl;have f:=(q 0 h0).1;obtain⟨c,e,z,s,t⟩:∃c e z,w.heap[b]?=some (.cells c e z)/\c.size≠0:=by
    simp only[World.cell?]at f;cases n:w.heap[b]? with
    |none=>rw[n]at f;cases f
    |some o=>
     rw[n]at f;cases o with
     |cells c e z=>refine⟨c,e,z,rfl,λh=>?_⟩;have:c=#[]:=Array.eq_empty_of_size_eq_zero h;rw[this]at f;simp at f
     |_=>cases f
   have l:w.heap[g]?=some (.cells cur 46 (0,0)):=i;rw[Lib.run_overlaps_apart w 118 4 137 Gh.underlying118 7 Gh.sizeOf137 ⟨g,0,none⟩ ⟨b,d,none⟩ 1 1 L.length cap (b1F r) 46 e 1 c.size (by simp[World.shape?,l,p]) (by simp[World.shape?,s]) t (i.frozen 0) (i.frozen 1)];rfl
 .have u:L.length=0:=a9h
  rw[u];have v:(Extern.SlicesOverlaps.overlaps #[118,118] #[4] #[.slice (some ⟨g,0,none⟩) 1 1,.slice ao 0 cap]).run Gh.prog.{0} w=.ok (.bool false) w:=by
   cases ao with
   |none=>exact(wW (run_underlying Gh.underlying118 w)).trans (wW (Gh.sizeOf137 w))
   |some a=>exact(wW (run_underlying Gh.underlying118 w)).trans (wW (Gh.sizeOf137 w))
  rw[v];rfl
def SS(N:Nat)(ao cap L w)(hN:N<=8)(hn:L.length<=100)(r:jb L)(hs:gy w ao L):Calls Gh.prog.{0} 106 #[.int .i64 N,.agg #[.slice ao L.length cap]] w λe w'=> ∃v,e=.returned v/\w'.ownsRow w.heap.size 64 2 v (N*aY L.length) (jI N L)/\Below w.heap.size w w':=by
 obtain⟨iS,Q,R,S,T⟩:=info_parts Gh.V9;have HS:=ak hs;have HF:=ak r;clear hs r;have j0:(N:Int)<9:=a9h
 have j1:(-1:Int)<(N:Int):=a9h
 have j2:(L.length:Int)<101:=a9h
 have q1:=Ui (.slice ao L.length cap);have q2:=Pl (.slice ao L.length cap);go_enter Gh.func106,Gh.ntmps106;simp only[Gh.iY]
 go_wp2_with (at_make;go_loud (refine wpList_make_full _ rfl _ _ 80 rfl w.heap.size 46 iS (.slice none 0 0) 1 Gh.LP Q R S _ _ _ _ 1 rfl rfl rfl rfl (by rw[T];omega) (by unfold maxLen;omega) (az _) ?_;intro w0 s U;have I:Below w.heap.size w w0:=(Below.refl _ _).grown U (az _) a9i;have ar:(callFunc 194 #[.slice (some ⟨w.heap.size,0,none⟩) 1 1,.slice ao L.length cap]).run Gh.prog.{0} w0=.ok (.value (.bool false)) w0:=(by
  obtain⟨B,_⟩|⟨g',V,t,B,_,hg,_,_,n,O⟩:=s.2
  .simp at B
  .simp at B;obtain⟨rfl,rfl⟩:=B;exact Z2 w0 _ t ao cap L hg (by simpa using n) (ku (af HS) I) λb W h0 e=>by
    obtain h|⟨b',bd,e',hc⟩:=af HS
    .rw[h]at h0;simp at h0
    .rw[e]at e';simp at e';obtain⟨rfl,rfl⟩:=e';exact b0W (tn hc h0));clear s U))
 clear ar q1 q2
 go_loopw [25] (λi wr=> ∃k:Nat,k<=L.length/\i=.int .i64 k/\Below w.heap.size w wr) (λi _=>L.length - (RowKit.intOf i).toNat)
 case atStart=>exact⟨0,a9h,rfl,I⟩
 case round=>
 obtain⟨k,hk,rfl,p⟩:=hrel;by_cases q:k<L.length
 .rcases ku (af HS) p with h0|⟨g,W,rfl,X⟩
  .rw[h0]at q;simp at q
  .obtain⟨c0,c1,c2,c3,c4,c5,c6⟩:=X k q;obtain⟨⟨f0,f1⟩,f2,f3,f4⟩:=af HF L[k] (kK q);simp only[kz,fH,eO,decide_eq_true_eq]at f3 f4;have u:=ak p;clear p X;have i0:(0:Int)<=(k:Int):=a9h
   have i1:(k:Int)<(L.length:Int):=a9h
   generalize L[k]=E at*;have e0:(-1:Int)<E.addr:=a9h
   have e2:(-1:Int)<E.tag:=a9h
   have e3:E.tag<65536:=a9h
   have e4:(0:Int)<E.met:=a9h
   have e5:E.met<17:=a9h
   have hI:∀w',Calls Gh.prog.{0} 77 #[.agg #[.int .u32 E.addr,.int .i64 E.len]] w' λe w''=>e=.returned (.bool true)/\Below w'.heap.size w' w'':=λw'=>(An.{0} E.addr E.len w' f0 f1).mono λe w'' h=>by rw[f2]at h;exact h
   have HI:=ak hI;clear hI;clear f2 f3 f4;have r9:=a9K ⟨g,W,none⟩ L.length cap;have r0:=T9 (.int .u32 E.addr) (.int .i64 E.len) (.int .i64 E.tag) (.int .i64 E.met) (.int .i64 E.an) (.int .i64 E.bi) (.bool E.bM);have r1:=Ua (.int .u32 E.addr) (.int .i64 E.len) (.int .i64 E.tag) (.int .i64 E.met) (.int .i64 E.an) (.int .i64 E.bi) (.bool E.bM);have r2:=Ub (.int .u32 E.addr) (.int .i64 E.len) (.int .i64 E.tag) (.int .i64 E.met) (.int .i64 E.an) (.int .i64 E.bi) (.bool E.bM);have r3:=Uc (.int .u32 E.addr) (.int .i64 E.len) (.int .i64 E.tag) (.int .i64 E.met) (.int .i64 E.an);have r4:=Ud (.int .u32 E.addr) (.int .i64 E.len) (.int .i64 E.tag) (.int .i64 E.met) (.int .i64 E.an);have r5:=Ue (.int .u32 E.addr) (.int .i64 E.len) (.int .i64 E.tag) (.int .i64 E.met) (.int .i64 E.an);have r6:=Uf (.int .u32 E.addr) (.int .i64 E.len) (.int .i64 E.tag) (.int .i64 E.met) (.int .i64 E.an);have r7:=Ug (.int .u32 E.addr) (.int .i64 E.len);have r8:=Uh (.int .u32 E.addr) (.int .i64 E.len);go_wp2_with (go_at_call 77;refine(af HI _).mono ?_;rintro e w4 ⟨rfl,au⟩)
   go_roundw
   case rel=>exact⟨k+1,a9h,by go_num,(af u).trans (au.mono (af u).size)⟩
   case measure=>simp[RowKit.intOf];omega
 obtain⟨wc,rfl⟩:∃wc:aa,wc=wr:=⟨_,rfl⟩;have Y:w.heap.size<=wc.heap.size:=p.size;have J:=ak p;clear p I;go_wp2_with (at_make;go_loud (refine wpList_make_full _ rfl _ _ 80 rfl w.heap.size 46 iS (.slice none 0 0) 1 Gh.LP Q R S _ _ _ _ N rfl rfl rfl rfl (by rw[T];omega) (by unfold maxLen;omega) (af J).size ?_;intro w1 y Z));have av:Below w.heap.size w w1:=(af J).grown Z (af J).size a9i;have aP:a9G w w1 wc.heap.size N 0 (aY L.length) (ft L):=by
  obtain⟨B,_⟩|⟨g',V,t,B,_,hg,_,_,n,O⟩:=y.2
  .simp at B
  .simp at B;obtain⟨rfl,rfl⟩:=B;refine⟨t,hg,by simpa using n,λj hj=>a9h,λj _ hj=>?_⟩;have f:t.toList=(madeCells (Value.slice none 0 0).cells (N*1)).toList:=by rw[<-O,a9R (by rw[pD,n];omega)]
   have K:t=madeCells (Value.slice none 0 0).cells (N*1):=Array.ext' f;rw[K];exact XE N j hj
 clear y Z
 go_loopw [6,11] (λ_ i wr=> ∃k:Nat,k<=N/\i=.int .i64 k/\a9G w wr wc.heap.size N k (aY L.length) (ft L)/\Below w.heap.size w wr) (λ_ i _=>N - (RowKit.intOf i).toNat)
 case atStart=>exact⟨0,a9h,rfl,aP,av⟩
 case round=>
  obtain⟨k,hk,rfl,ht,hb⟩:=hrel;by_cases q:k<N
  .have hT:=DS.{0} (k:Int) ao cap L wr a9h (af HF) (ku (af HS) hb);obtain⟨cs,P,n,d,z⟩:=ht;have ab:wc.heap.size<wr.heap.size:=P.lt;have k0:(0:Int)<=(k:Int):=a9h
   have k1:(k:Int)<(N:Int):=a9h
   have HD:=ak d;have ad:=ak z;have u:=ak hb;have ba:=ak P;clear d z hb P;go_wp2_with (go_at_call 43;refine hT.mono ?_;rintro e w2 ⟨v2,rfl,a,o⟩;obtain⟨a2,c2,rfl⟩:=dH a;have C:=(af ba).below o ab;have c0:=(C.cell k).trans (af ad k (az _) q);have z0:=C.frozen k;have ae:=ak a;have ap:=ak o;have A:=ak C;clear a o C)
   go_roundw
   case rel=>
    refine⟨k+1,a9h,by go_num,⟨cs.setIfInBounds k _,(af A).set k _,by simpa using n,λj hj=>?_,λj hj bb=>?_⟩,?_⟩
    .by_cases aq:j=k
     .subst aq;refine⟨_,by rw[lG a9h],?_⟩;exact cz (dY (af ae) a9h) (af A) a9j
     .obtain⟨v,D,M⟩:=af HD j a9h;refine⟨v,by rw[dw (b1F aq)];exact D,?_⟩;exact cz (cP M (af ap) (az _)) (af A) a9j
    .rw[dw a9h];exact af ad j a9h bb
    .exact((af u).trans ((af ap).mono (af u).size)).setCell Y _
   case measure=>simp[RowKit.intOf];omega
  .obtain rfl:k=N:=a9h
   obtain⟨cs,P,n,d,_⟩:=ht;have H:∀i,i<k->∃v,wr.cell? ⟨wc.heap.size,i,none⟩=some v/\cs.getD i undef=v/\wr.ownsRow w.heap.size 64 2 v (aY L.length) (ft L i):=λi F=>by obtain⟨v,D,M⟩:=d i F;exact⟨v,(P.cell i).trans D,by simp[io,D],M⟩
   have bc:aY L.length<=100:=by unfold aY;omega
   have HG:=ak H;have u:=ak hb;clear P d H hb;by_cases h0:0<k/\0<aY L.length
   .have hC:=Qj.{0} k (aY L.length) wc.heap.size k w.heap.size (λi=>cs.getD i undef) (ft L) wr h0.1 a9h h0.2 bc (λi F=>by obtain⟨v,h1,f,_⟩:=af HG i F;rw[f];exact h1) (λi F=>by obtain⟨v,_,f,K⟩:=af HG i F;rw[f];exact K) (λi _=>Jq _ _ _);go_wp2_with (go_at_call 156;refine hC.mono ?_;rintro e w2 ⟨v2,rfl,a,o⟩;obtain⟨a2,c2,rfl⟩:=dH a);go_ret;exact⟨_,rfl,dY a (af u).size,(af u).trans (o.mono (af u).size)⟩
   .have hz:k*aY L.length=0:=by
     obtain h|h:=kN k
     .simp[h]
     .rcases kN (aY L.length)with f|f
      .simp[f]
      .exact absurd ⟨h,f⟩ h0
    have hC:=E8.{0} k wc.heap.size k wr a9h (λi F=>by
     obtain⟨v,h1,_,K⟩:=af HG i F;obtain⟨ao,c,rfl⟩:=dH K;have:aY L.length=0:=by
      obtain f|f:=kN (aY L.length)
      .exact f
      .exact absurd ⟨a9h,f⟩ h0
     rw[this]at h1;exact⟨ao,c,h1⟩)
    go_wp2_with (go_at_call 156;refine hC.mono ?_;rintro e w2 ⟨rfl,o⟩);go_ret;refine⟨_,rfl,⟨?_,.inl ⟨rfl,hz⟩⟩,(af u).trans (o.mono (af u).size)⟩;rw[hz];have:∀l:List Nat,(∀i∈l,i<k)->l.flatMap (ft L)=[]:=by
     intro l O;induction l with
     |nil=>rfl
     |cons i l ih=>
      obtain⟨v,_,_,K⟩:=af HG i (O i a9i);have h4:=K.1;have hk:0<k:=Nat.lt_of_le_of_lt (iP _) (O i a9i);have h5:aY L.length=0:=by
       obtain f|f:=kN (aY L.length)
       .exact f
       .exact absurd ⟨hk,f⟩ h0
      rw[h5]at h4;have h6:ft L i=[]:=gj (by simpa using h4);rw[kJ,h6,ih λx hx=>O x (by simp[hx])];rfl
    simp[jI,this (List.range k) (λi F=>pK.1 F)]
end Go.Proofs.q
end
section
namespace Go.Proofs
def Gh.ilock_free(a w)(c:w.cell? a=some (.int .i32 0))(f:w.frozen? a=false):Calls Gh.prog.{0} 144 #[.pointer (some a)] w λe g=>e=.returned (.tuple #[])/\g=w.setCell a (.int .i32 1):=by
 have d:=run_call_cas_hit (P:=Gh.prog.{0}) Gh.func185 a9k a9k a9k .i32 a9k (y:=1) c f;have b:(w.setCell a (.int .i32 1)).cell? a=some (.int .i32 1):=by simp[go_sem,c]
 have h:=run_convert_to_unsafe (P:=Gh.prog.{0}) (src:=302) (dst:=112) Gh.underlying302 Gh.underlying112 a9k b;go_enter Gh.func144,Gh.ntmps144;simp only[Gh.nQ];go_wp2
 first|go_end0|(simp only[Exit.inBlock,Exit.then];refine bodyPost_ret (results_none rfl _ _ _) rfl ?_)|refine bodyPost_ret (results_none rfl _ _ _) rfl ?_
 exact⟨rfl,rfl⟩
def Gh.iunlock_held(a w)(b:w.cell? a=some (.int .i32 1))(d:w.frozen? a=false):Calls Gh.prog.{0} 145 #[.pointer (some a)] w λe f=>e=.returned (.tuple #[])/\f=w.setCell a (.int .i32 0):=by
 have c:=run_call_add (P:=Gh.prog.{0}) Gh.func190 a9k a9k a9k .i32 a9k (y:= -1) (s:=0) b d (by simp[go_sem];rfl);have g:=run_convert_to_unsafe (P:=Gh.prog.{0}) (src:=302) (dst:=112) Gh.underlying302 Gh.underlying112 a9k b;go_enter Gh.func145,Gh.ntmps145;simp only[Gh.nS];go_wp2
 first|go_end0|(simp only[Exit.inBlock,Exit.then];refine bodyPost_ret (results_none rfl _ _ _) rfl ?_)|refine bodyPost_ret (results_none rfl _ _ _) rfl ?_
 exact⟨rfl,rfl⟩
def Gh.lock_free(a w)(c:w.cell? a=some (.int .i32 0))(d:w.frozen? a=false):Calls Gh.prog.{0} 93 #[.pointer (some a)] w λe b=>e=.returned (.tuple #[])/\b=w.setCell a (.int .i32 1):=by go_enter Gh.func93,Tryz.ntmps93;go_wp2_with (go_at_call 144;refine(Gh.ilock_free a _ c d).mono ?_;rintro e b ⟨rfl,rfl⟩);go_end0;exact⟨rfl,rfl⟩
def Gh.unlock_deferred(a u w)(c:w.cell? a=some (.int .i32 1))(d:w.frozen? a=false):CallsD Gh.prog.{0} 94 #[.pointer (some a)] u w λe f b=>f=u/\(e=.returned (.tuple #[])/\b=w.setCell a (.int .i32 0)):=by
 go_enter_d Gh.func94,Tryz.ntmps94
 go_wp2_with (go_at_call 145;refine(Gh.iunlock_held a _ c d).mono ?_;rintro e b ⟨rfl,rfl⟩);go_end0;exact⟨rfl,rfl⟩
end Go.Proofs
end
section
namespace Go.Proofs.q
open Go.RowKit Go.Shelf Go.Lib
attribute [local go_sem ↓] Go.wp_at_zero Go.wp_at_succ
def oi{P:aA}{c:Code}{Q:Exit->Act->aa->Prop}{a:Act}{w:aa}(h:c.wp P (λe a w=>match e with| .normal=>Q .normal a w|_=>False) a w):c.wp P Q a w:=Code.wp_mono (λe a w h=>by cases e<;>first|exact h|exact h.elim) h
def a8c(K R V base a L r cv s w)(d:dK w base R a L V cv s)(A:base<=w.heap.size)(j:∀W,Below w.heap.size (w.setCell ⟨R,1,none⟩ (.int .i32 1)) W->Calls Gh.prog.{0} 47 #[.agg #[s],.pointer (some ⟨K,0,none⟩)] W λe M=> ∃l,e=.returned (.agg #[l])/\M.ownsRow W.heap.size 137 7 l r.length (aK r)/\Below W.heap.size W M):Calls Gh.prog.{0} 44 #[.pointer (some ⟨R,0,none⟩),.func (.func 47) #[] #[.pointer (some ⟨K,0,none⟩)]] w λe B=>e=.returned (.tuple #[])/\∃N t,dK B base R a r N cv t/\w.grownBy B (some R)/\w.heap.size<=N/\B.ownsRow w.heap.size 137 7 t r.length (aK r):=by
 have C:V≠R:=λe=>by have u:=d.blk;have z:=d.view;rw[e]at z;unfold aE at u z;rw[u]at z;simp at z
 have u:=(d.blk.cell 1).trans (show _=some (.int .i32 0)from rfl);have O:=d.blk.frozen 1;have n:aE (w.setCell ⟨R,1,none⟩ (.int .i32 1)) R #[cv,.int .i32 1,.int .u32 0,.pointer (some ⟨V,0,none⟩)] 116:=d.blk.set 1 (.int .i32 1);have v:aE (w.setCell ⟨R,1,none⟩ (.int .i32 1)) V #[s] 122:=d.view.other (p:=⟨R,1,none⟩) (λe=>C e.symm) _;have c1:(w.setCell ⟨R,1,none⟩ (.int .i32 1)).ownsRow base 3 1 cv a.length (cW a):=cz d.aH d.blk a9j;have P:w.grownBy (w.setCell ⟨R,1,none⟩ (.int .i32 1)) (some R):=⟨rfl,rfl,rfl,a9i,λk _ D=>Below.heap_setCell _ _ _ _ (λe=>D (by rw[e]))⟩;have Q:(w.setCell ⟨R,1,none⟩ (.int .i32 1)).heap.size=w.heap.size:=a9i
 have E:base<=R:=d.new.1;have T:R<w.heap.size:=d.blk.lt;have U:V<w.heap.size:=d.view.lt;have F:=ak c1;have H:=ak P;have I:=ak Q;clear d c1 P Q
 go_enter_defers Gh.func44,Tryz.ntmps44
 go_wp2_with (go_at_call 93;refine(Gh.lock_free ⟨R,1,none⟩ _ u O).mono ?_;rintro e Z ⟨rfl,rfl⟩);generalize w.setCell ⟨R,1,none⟩ (.int .i32 1)=W0 at*;have v0:=(v.cell 0).trans (show _=some s from rfl);clear u O;have S:=gQ.{0};refine oi ?_
 go_region_with_o (first|(go_at_call 49;refine(vn R 3 V s W0.drew ((n.cell 3).trans rfl) v).mono ?_;rintro e w2 ⟨rfl,rfl⟩)|(go_at_call 47;refine(j W0.drew (Below.refl _ W0).drew).mono ?_;rintro e g ⟨l,rfl,h,x⟩;have o:=ak (show Below W0.heap.size W0 g from Below.trans ((Below.refl _ W0).drew) x);have y:=ak h;have b:=n.below (af o) n.lt;have r0:=(b.cell 0).trans (show _=some cv from rfl);clear h x)|(go_at_call 37;refine(we R 3 g.heap.size l (.pointer (some ⟨V,0,none⟩)) _ (((b.alloc (.cells #[l] 122)).cell 3).trans rfl) ((b.alloc _).frozen 3) (aE.new g _ _)).mono ?_;rintro e w4 ⟨rfl,rfl⟩))
 dsimp only;go_wp2;refine leaves_cons (f:=94) (args:=#[.pointer (some ⟨R,1,none⟩)]) a9i (by simp[go_sem]) ?_;have c:=(b.alloc (.cells #[l] 122)).set 3 (.pointer (some ⟨g.heap.size,0,none⟩));refine(Gh.unlock_deferred ⟨R,1,none⟩ .returning _ ((c.cell 1).trans rfl) (c.frozen 1)).mono ?_;rintro e u' X ⟨rfl,rfl,rfl⟩;have Y:W0.heap.size=w.heap.size:=af I;have J:w.heap.size<=g.heap.size:=by have:=(af o).size;omega
 have i:g.heap.size≠R:=a9h
 have q:=af o;refine⟨_,results_none rfl _ _ _,rfl,g.heap.size,l,⟨?_,?_,?_,?_,E,a9h⟩,?_,J,?_⟩
 .exact c.set 1 _
 .exact((aE.new g _ _).other (p:=⟨R,3,none⟩) i.symm _).other (p:=⟨R,1,none⟩) i.symm _
 .exact cz (cz (cP (cP (af F) q (az _)) (bZ g _) (az _)) (b.alloc _) a9j) c a9j
 .exact cz (cz (cP (dY (af y) (show base<=W0.heap.size by omega)) (bZ g _) (az _)) (b.alloc _) a9j) c a9j
 .exact du (af H) (du (k7 ⟨q.os,q.tape,q.output,q.size,λk D _=>q.block k D⟩) (du (k7 (World.grownBy_alloc g _ none)) (du (kZ _ _ _ _) (kZ _ _ _ _))))
 .exact cz (cz (cP (dY (af y) (show w.heap.size<=W0.heap.size by omega)) (bZ g _) (az _)) (b.alloc _) a9j) c a9j
def PN(bf K M R V base a L r cv s w)(d:dK w base R a L V cv s)(A:base<=w.heap.size)(j:∀W,Below w.heap.size (w.setCell ⟨R,1,none⟩ (.int .i32 1)) W->Calls Gh.prog.{0} 45 #[.agg #[s],.pointer (some ⟨bf,0,none⟩),.pointer (some ⟨K,0,none⟩),.pointer (some ⟨M,0,none⟩)] W λe N=> ∃l,e=.returned (.agg #[l])/\N.ownsRow W.heap.size 137 7 l r.length (aK r)/\Below W.heap.size W N):Calls Gh.prog.{0} 44 #[.pointer (some ⟨R,0,none⟩),.func (.func 45) #[] #[.pointer (some ⟨bf,0,none⟩),.pointer (some ⟨K,0,none⟩),.pointer (some ⟨M,0,none⟩)]] w λe B=>e=.returned (.tuple #[])/\∃O t,dK B base R a r O cv t/\w.grownBy B (some R)/\w.heap.size<=O/\B.ownsRow w.heap.size 137 7 t r.length (aK r):=by
 have C:V≠R:=λe=>by have u:=d.blk;have z:=d.view;rw[e]at z;unfold aE at u z;rw[u]at z;simp at z
 have u:=(d.blk.cell 1).trans (show _=some (.int .i32 0)from rfl);have P:=d.blk.frozen 1;have n:aE (w.setCell ⟨R,1,none⟩ (.int .i32 1)) R #[cv,.int .i32 1,.int .u32 0,.pointer (some ⟨V,0,none⟩)] 116:=d.blk.set 1 (.int .i32 1);have v:aE (w.setCell ⟨R,1,none⟩ (.int .i32 1)) V #[s] 122:=d.view.other (p:=⟨R,1,none⟩) (λe=>C e.symm) _;have c1:(w.setCell ⟨R,1,none⟩ (.int .i32 1)).ownsRow base 3 1 cv a.length (cW a):=cz d.aH d.blk a9j;have Q:w.grownBy (w.setCell ⟨R,1,none⟩ (.int .i32 1)) (some R):=⟨rfl,rfl,rfl,a9i,λk _ D=>Below.heap_setCell _ _ _ _ (λe=>D (by rw[e]))⟩;have S:(w.setCell ⟨R,1,none⟩ (.int .i32 1)).heap.size=w.heap.size:=a9i
 have E:base<=R:=d.new.1;have U:R<w.heap.size:=d.blk.lt;have X:V<w.heap.size:=d.view.lt;have F:=ak c1;have H:=ak Q;have I:=ak S;clear d c1 Q S
 go_enter_defers Gh.func44,Tryz.ntmps44
 go_wp2_with (go_at_call 93;refine(Gh.lock_free ⟨R,1,none⟩ _ u P).mono ?_;rintro e w1 ⟨rfl,rfl⟩);generalize w.setCell ⟨R,1,none⟩ (.int .i32 1)=W0 at*;have v0:=(v.cell 0).trans (show _=some s from rfl);clear u P;have T:=gQ.{0};refine oi ?_
 go_region_with_o (first|(go_at_call 49;refine(vn R 3 V s W0.drew ((n.cell 3).trans rfl) v).mono ?_;rintro e w2 ⟨rfl,rfl⟩)|(go_at_call 45;refine(j W0.drew (Below.refl _ W0).drew).mono ?_;rintro e g ⟨l,rfl,h,x⟩;have o:=ak (show Below W0.heap.size W0 g from Below.trans ((Below.refl _ W0).drew) x);have y:=ak h;have b:=n.below (af o) n.lt;have r0:=(b.cell 0).trans (show _=some cv from rfl);clear h x)|(go_at_call 37;refine(we R 3 g.heap.size l (.pointer (some ⟨V,0,none⟩)) _ (((b.alloc (.cells #[l] 122)).cell 3).trans rfl) ((b.alloc _).frozen 3) (aE.new g _ _)).mono ?_;rintro e w4 ⟨rfl,rfl⟩))
 dsimp only;go_wp2;refine leaves_cons (f:=94) (args:=#[.pointer (some ⟨R,1,none⟩)]) a9i (by simp[go_sem]) ?_;have c:=(b.alloc (.cells #[l] 122)).set 3 (.pointer (some ⟨g.heap.size,0,none⟩));refine(Gh.unlock_deferred ⟨R,1,none⟩ .returning _ ((c.cell 1).trans rfl) (c.frozen 1)).mono ?_;rintro e u' Y ⟨rfl,rfl,rfl⟩;have Z:W0.heap.size=w.heap.size:=af I;have J:w.heap.size<=g.heap.size:=by have:=(af o).size;omega
 have i:g.heap.size≠R:=a9h
 have q:=af o;refine⟨_,results_none rfl _ _ _,rfl,g.heap.size,l,⟨?_,?_,?_,?_,E,a9h⟩,?_,J,?_⟩
 .exact c.set 1 _
 .exact((aE.new g _ _).other (p:=⟨R,3,none⟩) i.symm _).other (p:=⟨R,1,none⟩) i.symm _
 .exact cz (cz (cP (cP (af F) q (az _)) (bZ g _) (az _)) (b.alloc _) a9j) c a9j
 .exact cz (cz (cP (dY (af y) (show base<=W0.heap.size by omega)) (bZ g _) (az _)) (b.alloc _) a9j) c a9j
 .exact du (af H) (du (k7 ⟨q.os,q.tape,q.output,q.size,λk D _=>q.block k D⟩) (du (k7 (World.grownBy_alloc g _ none)) (du (kZ _ _ _ _) (kZ _ _ _ _))))
 .exact cz (cz (cP (dY (af y) (show w.heap.size<=W0.heap.size by omega)) (bZ g _) (az _)) (b.alloc _) a9j) c a9j
def PM(K R V base a L r cv s w)(d:dK w base R a L V cv s)(A:base<=w.heap.size)(j:∀W,Below w.heap.size (w.setCell ⟨R,1,none⟩ (.int .i32 1)) W->Calls Gh.prog.{0} 59 #[.agg #[s],.pointer (some ⟨K,0,none⟩)] W λe M=> ∃l,e=.returned (.agg #[l])/\M.ownsRow W.heap.size 137 7 l r.length (aK r)/\Below W.heap.size W M):Calls Gh.prog.{0} 44 #[.pointer (some ⟨R,0,none⟩),.func (.func 59) #[] #[.pointer (some ⟨K,0,none⟩)]] w λe B=>e=.returned (.tuple #[])/\∃N t,dK B base R a r N cv t/\w.grownBy B (some R)/\w.heap.size<=N/\B.ownsRow w.heap.size 137 7 t r.length (aK r):=by
 have C:V≠R:=λe=>by have u:=d.blk;have z:=d.view;rw[e]at z;unfold aE at u z;rw[u]at z;simp at z
 have u:=(d.blk.cell 1).trans (show _=some (.int .i32 0)from rfl);have O:=d.blk.frozen 1;have n:aE (w.setCell ⟨R,1,none⟩ (.int .i32 1)) R #[cv,.int .i32 1,.int .u32 0,.pointer (some ⟨V,0,none⟩)] 116:=d.blk.set 1 (.int .i32 1);have v:aE (w.setCell ⟨R,1,none⟩ (.int .i32 1)) V #[s] 122:=d.view.other (p:=⟨R,1,none⟩) (λe=>C e.symm) _;have c1:(w.setCell ⟨R,1,none⟩ (.int .i32 1)).ownsRow base 3 1 cv a.length (cW a):=cz d.aH d.blk a9j;have P:w.grownBy (w.setCell ⟨R,1,none⟩ (.int .i32 1)) (some R):=⟨rfl,rfl,rfl,a9i,λk _ D=>Below.heap_setCell _ _ _ _ (λe=>D (by rw[e]))⟩;have Q:(w.setCell ⟨R,1,none⟩ (.int .i32 1)).heap.size=w.heap.size:=a9i
 have E:base<=R:=d.new.1;have T:R<w.heap.size:=d.blk.lt;have U:V<w.heap.size:=d.view.lt;have F:=ak c1;have H:=ak P;have I:=ak Q;clear d c1 P Q
 go_enter_defers Gh.func44,Tryz.ntmps44
 go_wp2_with (go_at_call 93;refine(Gh.lock_free ⟨R,1,none⟩ _ u O).mono ?_;rintro e Z ⟨rfl,rfl⟩);generalize w.setCell ⟨R,1,none⟩ (.int .i32 1)=W0 at*;have v0:=(v.cell 0).trans (show _=some s from rfl);clear u O;have S:=gQ.{0};refine oi ?_
 go_region_with_o (first|(go_at_call 49;refine(vn R 3 V s W0.drew ((n.cell 3).trans rfl) v).mono ?_;rintro e w2 ⟨rfl,rfl⟩)|(go_at_call 59;refine(j W0.drew (Below.refl _ W0).drew).mono ?_;rintro e g ⟨l,rfl,h,x⟩;have o:=ak (show Below W0.heap.size W0 g from Below.trans ((Below.refl _ W0).drew) x);have y:=ak h;have b:=n.below (af o) n.lt;have r0:=(b.cell 0).trans (show _=some cv from rfl);clear h x)|(go_at_call 37;refine(we R 3 g.heap.size l (.pointer (some ⟨V,0,none⟩)) _ (((b.alloc (.cells #[l] 122)).cell 3).trans rfl) ((b.alloc _).frozen 3) (aE.new g _ _)).mono ?_;rintro e w4 ⟨rfl,rfl⟩))
 dsimp only;go_wp2;refine leaves_cons (f:=94) (args:=#[.pointer (some ⟨R,1,none⟩)]) a9i (by simp[go_sem]) ?_;have c:=(b.alloc (.cells #[l] 122)).set 3 (.pointer (some ⟨g.heap.size,0,none⟩));refine(Gh.unlock_deferred ⟨R,1,none⟩ .returning _ ((c.cell 1).trans rfl) (c.frozen 1)).mono ?_;rintro e u' X ⟨rfl,rfl,rfl⟩;have Y:W0.heap.size=w.heap.size:=af I;have J:w.heap.size<=g.heap.size:=by have:=(af o).size;omega
 have i:g.heap.size≠R:=a9h
 have q:=af o;refine⟨_,results_none rfl _ _ _,rfl,g.heap.size,l,⟨?_,?_,?_,?_,E,a9h⟩,?_,J,?_⟩
 .exact c.set 1 _
 .exact((aE.new g _ _).other (p:=⟨R,3,none⟩) i.symm _).other (p:=⟨R,1,none⟩) i.symm _
 .exact cz (cz (cP (cP (af F) q (az _)) (bZ g _) (az _)) (b.alloc _) a9j) c a9j
 .exact cz (cz (cP (dY (af y) (show base<=W0.heap.size by omega)) (bZ g _) (az _)) (b.alloc _) a9j) c a9j
 .exact du (af H) (du (k7 ⟨q.os,q.tape,q.output,q.size,λk D _=>q.block k D⟩) (du (k7 (World.grownBy_alloc g _ none)) (du (kZ _ _ _ _) (kZ _ _ _ _))))
 .exact cz (cz (cP (dY (af y) (show w.heap.size<=W0.heap.size by omega)) (bZ g _) (az _)) (b.alloc _) a9j) c a9j
def jP(r:Rw):Rw:={r with bM:=false}
def a4g(r w):Calls Gh.prog.{0} 158 #[.agg #[.int .u32 r.addr,.int .i64 r.len,.int .i64 r.tag,.int .i64 r.met,.int .i64 r.an,.int .i64 r.bi,.bool r.bM]] w λe w'=>e=.returned (.agg #[.int .u32 (jP r).addr,.int .i64 (jP r).len,.int .i64 (jP r).tag,.int .i64 (jP r).met,.int .i64 (jP r).an,.int .i64 (jP r).bi,.bool (jP r).bM])/\aJ w w':=by
 go_enter Gh.func158,Tryz.ntmps158;refine wp_seq (wp_mono (Q:=λe f W=>e=.normal/\f=⟨#[.agg #[.int .u32 r.addr,.int .i64 r.len,.int .i64 r.tag,.int .i64 r.met,.int .i64 r.an,.int .i64 r.bi,.bool r.bM],.pointer (some ⟨w.heap.size,0,none⟩),.pointer (some ⟨w.heap.size+1,0,none⟩),undef,undef],[]⟩/\aE W w.heap.size #[.int .u32 r.addr,.int .i64 r.len,.int .i64 r.tag,.int .i64 r.met,.int .i64 r.an,.int .i64 r.bi,.bool r.bM] 137/\aE W (w.heap.size+1) #[.int .u32 0,.int .i64 0,.int .i64 0,.int .i64 0,.int .i64 0,.int .i64 0,.bool false] 137/\aJ w W) ?_ ?_)
 .go_wp2;exact⟨(aE.new w _ _).alloc _,mK w _ _ _ _,((aJ.refl w).alloc _).alloc _⟩
 .rintro e f W ⟨rfl,rfl,d,g,h⟩;show Code.wp _ _ _ _ _;have b:=d.set 6 (.bool false);have a:=g.other (p:=⟨w.heap.size,6,none⟩) a9i (.bool false);have x:=d.frozen 6;have t:=d.cell 6;have a0:=b.cell 0;have a1:=b.cell 1;have a2:=b.cell 2;have a3:=b.cell 3;have a4:=b.cell 4;have a5:=b.cell 5;have a6:=b.cell 6;simp at a0 a1 a2 a3 a4 a5 a6 t;have s0:=a.cell 0;have y:=a.frozen 0;have z:=a.cell 1;have A:=a.frozen 1;have s2:=a.cell 2;have B:=a.frozen 2;have C:=a.cell 3;have D:=a.frozen 3;have s4:=a.cell 4;have E:=a.frozen 4;have F:=a.cell 5;have H:=a.frozen 5;have I:=a.cell 6;have J:=a.frozen 6;have i:=((((((a.set 0 (.int .u32 r.addr)).set 1 (.int .i64 r.len)).set 2 (.int .i64 r.tag)).set 3 (.int .i64 r.met)).set 4 (.int .i64 r.an)).set 5 (.int .i64 r.bi)).set 6 (.bool false);have c:=ak i;have u:=ak (h.setCell (p:=⟨w.heap.size,6,none⟩) a9i (.bool false));clear i d g b a h;go_wp2;have j:=(af c).cell 0;have k:=(af c).cell 1;have l:=(af c).cell 2;have n:=(af c).cell 3;have o:=(af c).cell 4;have q:=(af c).cell 5;have s:=(af c).cell 6;simp at j k l n o q s;refine bodyPost_ret (v:=.agg #[.int .u32 r.addr,.int .i64 r.len,.int .i64 r.tag,.int .i64 r.met,.int .i64 r.an,.int .i64 r.bi,.bool false]) (by simp[results,Tryz.results158,go_sem,j,k,l,n,o,q,s]) rfl ⟨rfl,?_⟩;exact((((((((af u).setCell a9i _).setCell a9i _).setCell a9i _).setCell a9i _).setCell a9i _).setCell a9i _).setCell a9i _)
def d7(L:List Rw):List Rw:=L.map jP
def a4e(L):(d7 L).length=L.length:=by simp[d7]
def a4f(L:List Rw)(k)(h:k<L.length):aK (d7 (L.take (k+1)))=aK (d7 (L.take k))++cI (jP L[k]):=by rw[oA h];simp only[d7,nj,dq,lH];rw[zG];simp[aK]
def a6Z(ao cap L w)(O:L.length<=1000000)(C:gy w ao L):Calls Gh.prog.{0} 157 #[.agg #[.slice ao L.length cap],.func (.func 158) #[] #[]] w λe w'=> ∃g,e=.returned (.slice (some ⟨g,0,none⟩) L.length L.length)/\w'.ownsRow w.heap.size 137 7 (.slice (some ⟨g,0,none⟩) L.length L.length) L.length (aK (d7 L))/\Below w.heap.size w w':=by
 obtain⟨D,o,t,p,u⟩:=info_parts Gh.sG.{0};have J:=ak C;have K:=ak (aE.new w #[.slice ao L.length cap] 120);clear C;go_enter Gh.func157,Tryz.ntmps157;go_wp2_with (at_make;go_loud (refine wpList_make_own _ rfl _ _ 118 rfl w.heap.size 137 D (.agg #[.int .u32 0,.int .i64 0,.int .i64 0,.int .i64 0,.int .i64 0,.int .i64 0,.bool false]) 7 Gh.underlying118 o t p _ _ _ L.length rfl rfl a9h (by rw[u];omega) (by unfold maxLen;omega) a9i ?_);intro w2 a j;have F:=(((af K).below ((Below.refl _ _).grown j (az _) a9i) a9i).cell 0).trans (show _=some (.slice ao L.length cap)from rfl));simp only[World.size_alloc]at a;have M:w.heap.size+2<=w2.heap.size:=kj a;have v:Below w.heap.size w w2:=(bZ w _).trans ((Below.refl _ _).grown j a9i a9i);clear j F
 go_loopw [5,15] (λd i wr=> ∃k:Nat,k<=L.length/\i=.int .i64 k/\d=.slice (some ⟨w.heap.size+1,0,none⟩) k L.length/\wr.ownsRow w.heap.size 137 7 (.slice (some ⟨w.heap.size+1,0,none⟩) k L.length) k (aK (d7 (L.take k)))/\Below w.heap.size w wr) (λ_ i _=>L.length - (RowKit.intOf i).toNat)
 case atStart=>exact⟨0,a9h,rfl,rfl,by simpa[aK,d7]using a,v⟩
 case round=>
  obtain⟨k,P,rfl,rfl,b,s⟩:=hrel;by_cases f:k<L.length
  .rcases ku (af J) s with h0|⟨g,N,rfl,q⟩
   .rw[h0]at f;simp at f
   .obtain⟨F,c1,c2,Q,R,S,T⟩:=q k f;have x:=ak (a4f L k f);have H:=ak s;clear s q;have U:(0:Int)<=(k:Int):=a9h
    have V:(k:Int)<(L.length:Int):=a9h
    generalize L[k]=E at*;go_wp2_with (first|(go_at_call 158;refine(a4g E _).mono ?_;rintro e I ⟨rfl,r⟩;have c:=((aJ.refl wr).alloc _).trans r;have l:=pa b (c.below.block _ (kj b));have y:=ak c;clear r c)|(at_builtin;go_loud (refine wpList_append_fits _ rfl (.tmp 19) (.tmp 23) 118 rfl w.heap.size 137 D 7 Gh.underlying118 o p (w.heap.size+1) k L.length _ rfl (l.alloc _) ⟨I.heap.size,0,none⟩ 1 1 (cI (jP E)) rfl rfl (by exact World.news_of_block (heap_alloc_new I _)) (tu _) a9h ?_;intro W n z)))
    go_roundw
    case rel=>refine⟨k+1,a9h,by go_num,rfl,by rw[af x];exact n,?_⟩;have A:=(af H).trans ((af y).below.mono (af H).size);exact(A.alloc A.size _).grown z (by have:=A.size;simp;omega) a9i
    case measure=>simp[RowKit.intOf];omega
  .have B:k=L.length:=a9h
   subst B;have h:=ak b;rw[pN]at h;clear b;go_wp2;go_ret;exact⟨_,rfl,af h,s⟩
def a4X(base ao cap L w)(r:L.length<=1000000)(c:w.ownsRow base 137 7 (.slice ao L.length cap) L.length (aK L)):Calls Gh.prog.{0} 107 #[.agg #[.slice ao L.length cap]] w λe w'=> ∃v,e=.returned (.agg #[v])/\w'.ownsRow w.heap.size 137 7 v (d7 L).length (aK (d7 L))/\Below w.heap.size w w':=by
 have n:=mK w #[.slice ao L.length cap] 120 #[.slice none 0 0] 120;have f:=(((aJ.refl w).alloc (.cells #[.slice ao L.length cap] 120)).alloc (.cells #[.slice none 0 0] 120)).below;have g:((w.alloc (.cells #[.slice ao L.length cap] 120)).alloc (.cells #[.slice none 0 0] 120)).heap.size=w.heap.size+2:=a9i
 have s:=a6Z ao cap L ((w.alloc (.cells #[.slice ao L.length cap] 120)).alloc (.cells #[.slice none 0 0] 120)) r (ku (tq c) ((((aJ.refl w).alloc _).alloc _).below));clear c;have t:=ak n;have i:=ak f;have h:=ak g;clear n f g;go_enter Gh.func107,Tryz.ntmps107;go_wp2_with (go_at_call 157;refine s.mono ?_;rintro e u ⟨o,rfl,a,d⟩;have b:=(af t).below d (by rw[af h];omega);have s0:=b.cell 0;have x:=b.frozen 0;have j:=ak a;have k:=ak d;clear a d);have l:=b.set 0 (.slice (some ⟨o,0,none⟩) L.length L.length);have q:=l.cell 0;simp at q;have y:=af h;refine bodyPost_ret (v:=.agg #[.slice (some ⟨o,0,none⟩) L.length L.length]) (by simp[results,Tryz.results107,go_sem,q]) rfl ⟨_,rfl,?_,?_⟩
 .rw[a4e];exact dY (cz (af j) b a9j) a9h
 .exact((af i).trans ((af k).mono a9h)).setCell (p:=⟨w.heap.size+1,0,none⟩) a9i _
def Oq(ao n cap w):Calls Gh.prog.{0} 55 #[.agg #[.slice ao n cap]] w λe w'=>e=.returned (.agg #[.slice ao n cap])/\aJ w w':=by
 go_enter Gh.func55,Tryz.ntmps55;refine wp_seq (wp_mono (Q:=λe b W=>e=.normal/\b=⟨#[.agg #[.slice ao n cap],.pointer (some ⟨w.heap.size,0,none⟩),.pointer (some ⟨w.heap.size+1,0,none⟩),undef],[]⟩/\aE W w.heap.size #[.slice ao n cap] 120/\aE W (w.heap.size+1) #[.slice none 0 0] 120/\aJ w W) ?_ ?_)
 .go_wp2;exact⟨(aE.new w _ _).alloc _,mK w _ _ _ _,((aJ.refl w).alloc _).alloc _⟩
 .rintro e b W ⟨rfl,rfl,c,a,d⟩;show Code.wp _ _ _ _ _;have a0:=c.cell 0;simp at a0;have s0:=a.cell 0;have i:=a.frozen 0;have f:=a.set 0 (.slice ao n cap);have g:=f.cell 0;simp at g;have h:=ak (d.setCell (p:=⟨w.heap.size+1,0,none⟩) a9i (.slice ao n cap));clear f c a d;go_wp2;refine bodyPost_ret (v:=.agg #[.slice ao n cap]) (by simp[results,Tryz.results55,go_sem,g]) rfl ⟨rfl,af h⟩
def PL(Z bw b m R V base y vals a L z cv A w)(g:dK w base R a L V cv A)(M:base<=w.heap.size)(B:aE w b #[y] 46)(q:∀W,Below w.heap.size (w.setCell ⟨R,1,none⟩ (.int .i32 1)) W->Calls Gh.prog.{0} 105 #[.agg #[A],.pointer (some ⟨Z,0,none⟩),.pointer (some ⟨bw,0,none⟩),.pointer (some ⟨b,0,none⟩)] W λe N=> ∃r u,e=.returned (.agg #[r])/\N.ownsRow W.heap.size 137 7 r z.length (aK z)/\Below W.heap.size (W.setCell ⟨b,0,none⟩ u) N/\N.ownsRow W.heap.size 64 2 u m vals):Calls Gh.prog.{0} 44 #[.pointer (some ⟨R,0,none⟩),.func (.func 105) #[] #[.pointer (some ⟨Z,0,none⟩),.pointer (some ⟨bw,0,none⟩),.pointer (some ⟨b,0,none⟩)]] w λe K=>e=.returned (.tuple #[])/\∃V' C u,dK K base R a z V' cv C/\(w.setCell ⟨b,0,none⟩ u).grownBy K (some R)/\w.heap.size<=V'/\K.ownsRow w.heap.size 137 7 C z.length (aK z)/\K.ownsRow w.heap.size 64 2 u m vals:=by
 have D:b≠R:=λe=>by have j:=g.blk;have h:=B;rw[e]at h;unfold aE at j h;rw[j]at h;simp at h
 have ae:b≠V:=λe=>by have j:=g.view;have h:=B;rw[e]at h;unfold aE at j h;rw[j]at h;simp at h
 have ab:b<w.heap.size:=B.lt;have E:aE (w.setCell ⟨R,1,none⟩ (.int .i32 1)) b #[y] 46:=B.other (p:=⟨R,1,none⟩) (λe=>D e.symm) _;have O:V≠R:=λe=>by have j:=g.blk;have h:=g.view;rw[e]at h;unfold aE at j h;rw[j]at h;simp at h
 have j:=(g.blk.cell 1).trans (show _=some (.int .i32 0)from rfl);have f1:=g.blk.frozen 1;have s:aE (w.setCell ⟨R,1,none⟩ (.int .i32 1)) R #[cv,.int .i32 1,.int .u32 0,.pointer (some ⟨V,0,none⟩)] 116:=g.blk.set 1 (.int .i32 1);have F:aE (w.setCell ⟨R,1,none⟩ (.int .i32 1)) V #[A] 122:=g.view.other (p:=⟨R,1,none⟩) (λe=>O e.symm) _;have c1:(w.setCell ⟨R,1,none⟩ (.int .i32 1)).ownsRow base 3 1 cv a.length (cW a):=cz g.aH g.blk a9j;have g1:w.grownBy (w.setCell ⟨R,1,none⟩ (.int .i32 1)) (some R):=⟨rfl,rfl,rfl,a9i,λk _ H=>Below.heap_setCell _ _ _ _ (λe=>H (by rw[e]))⟩;have s1:(w.setCell ⟨R,1,none⟩ (.int .i32 1)).heap.size=w.heap.size:=a9i
 have P:base<=R:=g.new.1;have ao:R<w.heap.size:=g.blk.lt;have ap:V<w.heap.size:=g.view.lt;have Q:=ak c1;have S:=ak g1;have T:=ak s1;clear g c1 g1 s1
 go_enter_defers Gh.func44,Tryz.ntmps44
 go_wp2_with (go_at_call 93;refine(Gh.lock_free ⟨R,1,none⟩ _ j f1).mono ?_;rintro e w1 ⟨rfl,rfl⟩);generalize w.setCell ⟨R,1,none⟩ (.int .i32 1)=W0 at*;have v0:=(F.cell 0).trans (show _=some A from rfl);clear j f1;have ad:=gQ.{0};refine oi ?_
 go_region_with_o (first|(go_at_call 49;refine(vn R 3 V A W0.drew ((s.cell 3).trans rfl) F).mono ?_;rintro e w2 ⟨rfl,rfl⟩)|(go_at_call 105;refine(q W0.drew (Below.refl _ W0).drew).mono ?_;rintro e i ⟨r,u,rfl,l,I,n⟩;have t:=ak (show Below W0.heap.size (W0.setCell ⟨b,0,none⟩ u) i from Below.trans (show Below W0.heap.size (W0.setCell ⟨b,0,none⟩ u) (W0.drew.setCell ⟨b,0,none⟩ u)from(Below.refl _ (W0.setCell ⟨b,0,none⟩ u)).drew) I);have J:=ak l;have U:=ak n;have c:=(s.other (p:=⟨b,0,none⟩) (λe=>D e) u).below (af t) s.lt;have r0:=(c.cell 0).trans (show _=some cv from rfl);clear l I n)|(go_at_call 37;refine(we R 3 i.heap.size r (.pointer (some ⟨V,0,none⟩)) _ (((c.alloc (.cells #[r] 122)).cell 3).trans rfl) ((c.alloc _).frozen 3) (aE.new i _ _)).mono ?_;rintro e w4 ⟨rfl,rfl⟩))
 dsimp only;go_wp2;refine leaves_cons (f:=94) (args:=#[.pointer (some ⟨R,1,none⟩)]) a9i (by simp[go_sem]) ?_;have d:=(c.alloc (.cells #[r] 122)).set 3 (.pointer (some ⟨i.heap.size,0,none⟩));refine(Gh.unlock_deferred ⟨R,1,none⟩ .returning _ ((d.cell 1).trans rfl) (d.frozen 1)).mono ?_;rintro e u' aq ⟨rfl,rfl,rfl⟩;have ar:W0.heap.size=w.heap.size:=af T;have X:w.heap.size<=i.heap.size:=by have:=(af t).size;simp at this;omega
 have o:i.heap.size≠R:=a9h
 have x:=af t;have hG:=af S;have gS:(w.setCell ⟨b,0,none⟩ u).grownBy (W0.setCell ⟨b,0,none⟩ u) (some R):=by
  obtain⟨q1,q2,q3,q4,q5⟩:=hG;refine⟨q1,q2,q3,by simpa using q4,λk H Y=>?_⟩;by_cases v:k=b
  .subst v;exact(E.set 0 u).trans (B.set 0 u).symm
  .rw[Below.heap_setCell _ _ _ _ v,Below.heap_setCell _ _ _ _ v];exact q5 k (by simpa using H) Y
 refine⟨_,results_none rfl _ _ _,rfl,i.heap.size,r,u,⟨?_,?_,?_,?_,P,a9h⟩,?_,X,?_,?_⟩
 .exact d.set 1 _
 .exact((aE.new i _ _).other (p:=⟨R,3,none⟩) o.symm _).other (p:=⟨R,1,none⟩) o.symm _
 .exact cz (cz (cP (cP (cz (af Q) E a9j) x a9i) (bZ i _) (az _)) (c.alloc _) a9j) d a9j
 .exact cz (cz (cP (dY (af J) (show base<=W0.heap.size by omega)) (bZ i _) (az _)) (c.alloc _) a9j) d a9j
 .exact du gS (du (k7 ⟨x.os,x.tape,x.output,x.size,λk H _=>x.block k (by simpa using H)⟩) (du (k7 (World.grownBy_alloc i _ none)) (du (kZ _ _ _ _) (kZ _ _ _ _))))
 .exact cz (cz (cP (dY (af J) (show w.heap.size<=W0.heap.size by omega)) (bZ i _) (az _)) (c.alloc _) a9j) d a9j
 .exact cz (cz (cP (dY (af U) (show w.heap.size<=W0.heap.size by omega)) (bZ i _) (az _)) (c.alloc _) a9j) d a9j
structure NS (fn:bW) (sel:List Rw->List Rw):Prop where
 any:∀(base:Nat) (ao:Option aF) (cap:Nat) (L:List Rw) (w:aa),L.length<=1000000->w.ownsRow base 137 7 (.slice ao L.length cap) L.length (aK L)->
  Calls Gh.prog.{0} fn #[.agg #[.slice ao L.length cap]] w λe w'=> ∃v,e=.returned (.agg #[v])/\(∃b,w'.ownsRow b 137 7 v (sel L).length (aK (sel L)))/\Below w.heap.size w w'
 less:∀L,(sel L).length<=L.length
 uL:∀L,jb L->jb (sel L)
def C3:NS 55 id where
 any base ao cap L w _ hown:=(Oq ao L.length cap w).mono λe w' ⟨he,hg⟩=>⟨_,he,⟨base,cP hown hg.below (az _)⟩,hg.below⟩
 less L:=az _
 uL L h:=h
def Ox(B J d R base r c1 c2 c3 cv rv a L W)(hr:W.cell? ⟨B,0,none⟩=some (.pointer (some ⟨R,0,none⟩)))(hw:W.cell? ⟨J,0,none⟩=some (.func (.func 55) #[] #[]))(K:aE W d #[r] 46)(hR:aE W R #[cv,c1,c2,c3] 116)(hc:W.ownsRow base 3 1 cv a.length (cW a))(bb:a.length<=8)(hn:L.length<=100)(hf:jb L)(l:W.ownsRow base 137 7 rv L.length (aK L)):Calls Gh.prog.{0} 105 #[.agg #[rv],.pointer (some ⟨B,0,none⟩),.pointer (some ⟨J,0,none⟩),.pointer (some ⟨d,0,none⟩)] W λe W'=> ∃v' u,e=.returned (.agg #[v'])/\W'.ownsRow W.heap.size 137 7 v' (d7 L).length (aK (d7 L))/\Below W.heap.size (W.setCell ⟨d,0,none⟩ u) W'/\W'.ownsRow W.heap.size 64 2 u (a.length*aY (id L).length) (jI a.length (id L)):=by
 obtain⟨w,f,rfl⟩:=dH l;obtain⟨M,x,rfl⟩:=dH hc;go_enter Gh.func105,Tryz.ntmps105;refine wp_seq (wp_mono (Q:=λe N X=>e=.normal/\N=⟨#[.agg #[.slice w L.length f],.pointer (some ⟨B,0,none⟩),.pointer (some ⟨J,0,none⟩),.pointer (some ⟨d,0,none⟩),.pointer (some ⟨W.heap.size,0,none⟩),.pointer (some ⟨W.heap.size+1,0,none⟩),undef,undef,undef,undef,undef,undef,undef,undef,undef,undef,undef],[]⟩/\aE X W.heap.size #[.slice w L.length f] 120/\aE X (W.heap.size+1) #[.slice none 0 0] 120/\aJ W X) ?_ ?_)
 .go_wp2;exact⟨(aE.new W _ _).alloc _,mK W _ _ _ _,((aJ.refl W).alloc _).alloc _⟩
 .rintro e N X ⟨rfl,rfl,bT,bU,C⟩;show Code.wp _ _ _ _ _;have xr:=(C.below.cell (p:=⟨B,0,none⟩) (World.block_lt_of_cell? W _ hr)).trans hr;have xw:=(C.below.cell (p:=⟨J,0,none⟩) (World.block_lt_of_cell? W _ hw)).trans hw;have O:=hR.below C.below hR.lt;have xc:=(O.cell 0).trans (show _=some (.slice M a.length x)from rfl);have P:=K.below C.below K.lt;have xt:=(bT.cell 0).trans (show _=some (.slice w L.length f)from rfl);have n:=cP l C.below (az _);have bA:W.heap.size+2<=X.heap.size:=by have:=bU.lt;omega
  have S:d<W.heap.size:=K.lt;have HG:=ak C;have T:=ak n;have V:=ak bU;have bc:=ak P;have Z:=ak bT;have bd:=ak K;clear hr hw K hR hc l O P n bU bT C;refine wp_seq (wp_mono (Q:=λe N Y=>e=.normal/\∃a2 c2 a3 c3 w3,N=⟨#[.agg #[.slice w L.length f],.pointer (some ⟨B,0,none⟩),.pointer (some ⟨J,0,none⟩),.pointer (some ⟨d,0,none⟩),.pointer (some ⟨W.heap.size,0,none⟩),.pointer (some ⟨W.heap.size+1,0,none⟩),.pointer (some ⟨R,0,none⟩),.pointer (some ⟨R,0,none⟩),.pointer (some ⟨R,0,none⟩),.slice M a.length x,.int .i64 a.length,.func (.func 55) #[] #[],.agg #[.slice w L.length f],.agg #[.slice a2 (id L).length c2],.slice a3 (a.length*aY (id L).length) c3,undef,undef],[]⟩/\Y=w3.setCell ⟨d,0,none⟩ (.slice a3 (a.length*aY (id L).length) c3)/\Below X.heap.size X w3/\w3.ownsRow X.heap.size 64 2 (.slice a3 (a.length*aY (id L).length) c3) (a.length*aY (id L).length) (jI a.length (id L))/\aE w3 d #[r] 46) ?_ ?_)
  .have hP:=C3.any base w f L X.drew a9h (af T);have bB:=gQ.{0};go_wp2_with fail;refine oi ?_
   go_region_with_o (first|(go_at_call 55;refine hP.mono ?_;rintro e w2 ⟨v2,rfl,⟨b2,g⟩,s⟩;obtain⟨a2,c2,rfl⟩:=dH g;have bF:=(s.cell (p:=⟨B,0,none⟩) (World.block_lt_of_cell? X _ xr)).trans (show X.drew.cell? ⟨B,0,none⟩=_ from xr);have bG:=(s.cell (p:=⟨R,0,none⟩) (World.block_lt_of_cell? X _ xc)).trans (show X.drew.cell? ⟨R,0,none⟩=_ from xc);have bl:=ak g;have ab:=ak s;clear g s)|(go_at_call 106;refine(SS a.length a2 c2 (id L) w2 bb (by have:=C3.less L;omega) (C3.uL L hf) (tq (af bl))).mono ?_;rintro e w3 ⟨v3,rfl,b,D⟩;obtain⟨a3,c3,rfl⟩:=dH b;have E:=(show aE X.drew d #[r] 46 from af bc).below (af ab) a9l;have c:=E.below D E.lt;have o0:=(c.cell 0).trans (show _=some r from rfl);have oz:=c.frozen 0;have bn:=ak b;have bp:=ak D;have ad:=ak c;clear b D E c))
   all_goals
    dsimp only;have h2:=af ab;have h3:=af bp;have h:Below X.heap.size X w3:=Below.trans ((Below.refl _ X).drew) (h2.trans (h3.mono h2.size));exact⟨rfl,a2,c2,a3,c3,w3,rfl,rfl,h,dY (af bn) h2.size,af ad⟩
  .rintro e N Y ⟨rfl,a2,c2,a3,c3,w3,rfl,rfl,h,b,c⟩;show Code.wp _ _ _ _ _;have hX:=af HG;have o:Below W.heap.size W w3:=hX.below.trans (h.mono hX.below.size);have ae:=(af Z).below h (af Z).lt;have F:=(af V).below h (af V).lt;obtain⟨U,hU⟩:∃U,U=Value.slice a3 (a.length*aY (id L).length) c3:=⟨_,rfl⟩;rw[<-hU]at b⊢;have ap:=ae.other (p:=⟨d,0,none⟩) (b0W S) U;have aq:=F.other (p:=⟨d,0,none⟩) (show d≠W.heap.size+1 by omega) U;have y:=cz (i:=0) (u:=U) (cP (af T) h (az _)) c a9j;have z:=cz (i:=0) (u:=U) b c a9j;have A:Below W.heap.size (W.setCell ⟨d,0,none⟩ U) (w3.setCell ⟨d,0,none⟩ U):=by
    refine⟨o.os,o.tape,o.output,by simpa using o.size,λk hk=>?_⟩;by_cases H:k=d
    .subst H;exact(c.set 0 U).trans ((af bd).set 0 U).symm
    .rw[Below.heap_setCell _ _ _ _ H,Below.heap_setCell _ _ _ _ H];exact o.block k hk
   have bC:W.heap.size+1<w3.heap.size:=F.lt;have hT:=a4X base w f L (w3.setCell ⟨d,0,none⟩ U) a9h y;have t4:=(ap.cell 0).trans (show _=some (.slice w L.length f)from rfl);have ar:=ak z;have au:=ak A;have av:=ak aq;clear y z A ae F ap aq b c h hU;generalize w3.setCell ⟨d,0,none⟩ U=w4 at*;have aP:W.heap.size+1<w4.heap.size:=(af av).lt;go_wp2_with (go_at_call 107;refine hT.mono ?_;rintro e w5 ⟨v5,rfl,j,I⟩;obtain⟨a5,c5,rfl⟩:=dH j;have t:=(af av).below I aP;have s5:=t.cell 0;have z5:=t.frozen 0;have bs:=ak j;have ba:=ak I;have q:=ak t;clear j I t);have bx:=(af q).set 0 (.slice a5 (d7 L).length c5);have t0:=bx.cell 0;simp at t0;refine bodyPost_ret (v:=.agg #[.slice a5 (d7 L).length c5]) (by simp[results,Tryz.results105,go_sem,t0]) rfl ⟨_,U,rfl,?_,?_,?_⟩
   .exact dY (cz (af bs) (af q) a9j) a9h
   .exact((af au).trans ((af ba).mono a9h)).setCell (p:=⟨W.heap.size+1,0,none⟩) a9i _
   .exact cz (dY (cP (af ar) (af ba) (az _)) a9h) (af q) a9j
end Go.Proofs.q
end
