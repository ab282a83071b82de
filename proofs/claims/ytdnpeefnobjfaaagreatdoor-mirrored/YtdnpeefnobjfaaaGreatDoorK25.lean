import Derived.ArgAppend
import Derived.Test.YtdnpeefnobjfaaaGreatDoorK24
set_option maxRecDepth 100000
set_option maxHeartbeats 4000000
set_option linter.all false
section
namespace Go.Proofs.q
section
universe u
open Go.RowKit Go.Shelf
attribute [local go_sem ↓] Go.wp_at_zero Go.wp_at_succ
def lP(to:Int)(l:List aT)(k:Nat):List af:=(List.range k).flatMap λj=> [.int .i64 to,io l j]
def XX(to l k):lP to l (k+1)=lP to l k++[.int .i64 to,io l k]:=by simp[lP,a6w]
theorem Gh.qa:(Gh.prog.{u}.info? 64).map (λi=>(i.zero,i.size,i.bytes))=some (some (.agg #[.int .i64 0,.string ⟨#[]⟩]),2,24):=by kernel_rfl
def fY(L:List Rw):Prop:=∀r∈L,(0<=r.addr/\r.addr<4294967296)/\db r.addr r.len=true/\f7 r.tag=true/\dZ r.met=true
def Ta{L}(h:fY L)(to):ig (dz to L)/\∀e∈dz to L,dw e=0:=by
 constructor
 .intro e a;obtain⟨r,b,rfl⟩:=eS.1 a;exact(h r b).1
 .intro e a;obtain⟨r,b,rfl⟩:=eS.1 a;obtain⟨_,d,f,g⟩:=h r b;unfold dw jP;simp only[d,f];by_cases c:r.az=to
  .simp[c,dZ]
  .simp[c,g]
def BJ(to ao cap L w)(Z:L.length<=1000)(h:fY L)(Q:fP w ao L):Calls Gh.prog.{u} 43 #[.int .i64 to,.agg #[.slice ao L.length cap]] w λe w'=> ∃v,e=.returned v/\w'.ownsRow w.heap.size 64 2 v (aV L.length) (lP to (dz to L) (aV L.length))/\Below w.heap.size w w':=by
 obtain⟨iO,C,D,E,F⟩:=info_parts Gh.qa.{u};obtain⟨y,R⟩:=Ta h to;have m:(dz to L).length=L.length:=by simp[dz]
 have S:=a4k.{u} to ao cap L (w.alloc (.cells #[.slice ao L.length cap] 120)) (by omega) (jx Q (bH _ _));have z:=am y;have T:=am R;have U:=am m;clear Q h y R m;go_enter Gh.func43,Tryz.ntmps43;go_wp2_with (go_at_call 90;refine S.mono ?_;rintro e H ⟨g1,rfl,j,A⟩);have V:=Zm.{u} g1 L.length (dz to L) _ H (ai U) Z (ai z) (ai T) j;have l:=am ((bH w (.cells #[.slice ao L.length cap] 120)).trans (A.mono (by simp)));clear A j S z T U;refine V.mono ?_;rintro e x ⟨v2,rfl,a,o⟩;obtain⟨a2,c2,rfl⟩:=dA a;have n:=(ai l).trans (o.mono (ai l).size);have I:aV L.length<=1000:=by unfold aV;omega
 obtain⟨N,J⟩:∃N,aV L.length=N:=⟨_,rfl⟩;rw[J]at a I⊢;have HN:=am J;clear J;have r:=am a;have ab:H.heap.size<=x.heap.size:=o.size;have ae:w.heap.size<=H.heap.size:=(ai l).size;clear o V a l;go_wp2_with fail
 go_loopw [6,16] (λd i wr=> ∃k:Nat,k<=N/\i=.int .i64 k/\wr.ownsRow x.heap.size 64 2 d k (lP to (dz to L) k)/\Below x.heap.size x wr) (λ_ i _=>N - (intOf i).toNat)
 case atStart=>exact⟨0,by omega,rfl,World.ownsRow_nil _ _ _ _,Below.refl _ _⟩
 case round=>
  obtain⟨k,hk,rfl,b,B⟩:=hrel;by_cases K:k<N
  .obtain⟨g2,rfl⟩:∃g,a2=some ⟨g,0,none⟩:=by
    obtain⟨_,h0⟩|⟨g,c,ag,W,_⟩:=(ai r).2
    .omega
    .simp at W;exact⟨g,W.1⟩
   have M:=oT (ai r) k (io (dz to L) k) (by simp[K]);rw[Addr.add_lit,dG]at M;have m3:=(B.cell (p:=⟨g2,k,none⟩) (iH (ai r))).trans M;obtain⟨ad,cd,rfl⟩:=dA b;have f:=am b;have X:=am B;have al:x.heap.size<=wr.heap.size:=B.size;have j0:(0:Int)<=(k:Int):=by omega
   have j1:(k:Int)<(N:Int):=by omega
   clear b B M;obtain⟨sb,s⟩:∃sb,io (dz to L) k=.string sb:=⟨_,rfl⟩;rw[s]at m3;have O:=am s;clear s;go_wp2_with (at_builtin;go_loud (refine wpList_append_own _ rfl (.tmp 20) (.tmp 24) 46 rfl x.heap.size 64 iO (.agg #[.int .i64 0,.string ⟨#[]⟩]) 2 24 Gh.underlying46 C D E F rfl (by decide) _ _ _ rfl ((ai f).alloc _) ⟨wr.heap.size,0,none⟩ 1 1 [.int .i64 to,.string sb] rfl rfl (by exact World.news_of_block (heap_alloc_new wr _)) (by intro u Y;simp at Y;obtain rfl|rfl:=Y<;>rfl) (by unfold maxLen;omega) (by omega) (by simp;omega) ?_;intro v' w5 t P _))
   go_roundw
   case rel=>refine⟨k+1,by omega,by go_num,by rw[XX,ai O];exact t,?_⟩;exact((ai X).alloc (ai X).size _).grown P (by simp;omega) (λq hq=>(sY (ai f) q hq).1)
   case measure=>simp[intOf];omega
  .obtain rfl:k=N:=by omega
   have f:=am b;clear b;go_wp2;go_ret;exact⟨_,rfl,by rw[ai HN];exact eA (ai f) (by omega),n.trans (B.mono n.size)⟩
end
section
universe u
open Go.RowKit Go.Shelf Go.Lib
attribute [local go_sem ↓] Go.wp_at_zero Go.wp_at_succ
def Sq(n:Nat)(w)(h0:0<n)(t:n<=100000):Calls Gh.prog.{u} 211 #[.slice none 0 0,.int .i64 n] w λe w'=> ∃c,e=.returned (.slice (some ⟨w.heap.size,0,none⟩) 0 c)/\n<=c/\w'.ownsRow w.heap.size 64 2 (.slice (some ⟨w.heap.size,0,none⟩) 0 c) 0 []/\Below w.heap.size w w':=by
 obtain⟨q,i,j,k,f⟩:=info_parts Gh.qa.{u};have g:(Builtin.firstCells q.size 0 (.slice none 0 0)).run Gh.prog.{u} w.drew=.ok ([]:List af).toArray w.drew:=run_firstCells_none _ _ _ _ _;have d:∀l,(Builtin.append_ #[46,3] l #[.slice none 0 0,.int .i64 n]).run Gh.prog.{u} w=
   .ok (.slice (some ⟨w.heap.size,0,none⟩) (0+n) (grownCap w (0+n) 0 64)) (w.drew.alloc (.cells (([]:List af).toArray++Builtin.zeroCells (Value.agg #[.int .i64 0,.string ⟨#[]⟩]).cells n++Builtin.zeroCells (Value.agg #[.int .i64 0,.string ⟨#[]⟩]).cells (grownCap w (0+n) 0 64 - (0+n))) 64)):=λl=>
  Lib.run_append_grow_zeros w 46 3 l 64 q _ .i64 .i64 Gh.underlying46 Gh.underlying3 i j none 0 0 [] g n h0 (by rw[k];omega) (by omega) (by omega) (by rw[f];omega) (by rw[f];exact growslice_fits (by omega) (by omega))
 simp only[dG]at d;have m:n<=grownCap w n 0 64:=grownCap_ge w _ _ _;have o:=grownCap_le_maxLen w n 0 64 (by unfold maxLen;omega);generalize grownCap w n 0 64=G at*;obtain⟨a,b⟩:∃a:Array af,a=([]:List af).toArray++Builtin.zeroCells (Value.agg #[.int .i64 0,.string ⟨#[]⟩]).cells n++Builtin.zeroCells (Value.agg #[.int .i64 0,.string ⟨#[]⟩]).cells (G - n):=⟨_,rfl⟩;rw[<-b]at d;have h:a.size=G*2:=by rw[b];simp only[a6J,fS,gv,Builtin.zeroCells,Value.cells,kK,a7J];show 0+n*2+(G - n)*2=G*2;omega
 have r:(w.drew.alloc (.cells a 64)).heap[w.heap.size]?=some (.cells a 64 (0,0)):=World.alloc_heap_new w.drew _;have s:=am r;have p:=am h;clear b r h;have v: ¬((n:Int)<0):=by omega
 have x:(n:Int)>0:=by omega
 go_enter Gh.func211,Tryz.ntmps211;go_wp2_with (at_builtin;refine Lib.wpList_append_run _ rfl _ _ _ _ rfl _ _ rfl rfl _ _ (d _) ?_);go_ret;refine⟨G,rfl,m,⟨by simp,.inr ⟨_,_,a,rfl,aF _,ai s,by omega,o,ai p,by simp⟩⟩,?_⟩;exact((Below.refl _ _).drew).alloc (aF _) _
def Sp(w):Calls Gh.prog.{u} 211 #[.slice none 0 0,.int .i64 0] w λe a=>e=.returned (.slice none 0 0)/\a=w:=by go_enter Gh.func211,Tryz.ntmps211;go_wp2;go_ret;exact⟨rfl,rfl⟩
def Ra(vals:Nat->List af)(k):(List.range (k+1)).flatMap vals=(List.range k).flatMap vals++vals k:=by simp[a6w]
def NK(N n bt cap base)(tv:Nat->af)(vals w)(H:0<N)(hN:N<=100)(I:0<n)(hn:n<=100)(W:∀i,i<N->w.cell? ⟨bt,i,none⟩=some (tv i))(J:∀i,i<N->w.ownsRow base 64 2 (tv i) n (vals i))(E:∀i,i<N->∀u∈vals i,u.oneCell'=true):Calls Gh.prog.{u} 156 #[.slice (some ⟨bt,0,none⟩) N cap] w λe w'=> ∃v,e=.returned v/\w'.ownsRow w.heap.size 64 2 v (N*n) ((List.range N).flatMap vals)/\Below w.heap.size w w':=by
 obtain⟨iO,K,ab,L,ad⟩:=info_parts Gh.qa.{u};have t:∀i,i<N->∃g c,tv i=.slice (some ⟨g,0,none⟩) n c/\g<w.heap.size:=by
  intro i M;have h:=J i M;obtain⟨_,h0⟩|⟨g,c,ae,E,_,F,_⟩:=h.2
  .omega
  .exact⟨g,c,E,(bW.1 F).1⟩
 have o:∀k,k<=N->k*n<=10000:=λk O=>dF (Nat.mul_le_mul (dF O hN) hn) (by omega);have x:=am t;have X:=am W;have HO:=am J;have HV:=am E;clear t W J E;go_enter Gh.func156,Tryz.ntmps156;go_wp2_with fail
 go_loopw [3,11] (λs i wr=> ∃k:Nat,k<=N/\i=.int .i64 k/\s=.int .i64 (k*n:Nat)/\wr=w) (λ_ i _=>N - (intOf i).toNat)
 case atStart=>exact⟨0,by omega,rfl,by simp,rfl⟩
 case round=>
  obtain⟨k,O,rfl,rfl,Y⟩:=hrel;have P:=Y.symm;subst P;clear Y;by_cases y:k<N
  .obtain⟨g,c,l,F⟩:=ai x k y;have z:=ai X k y;rw[l]at z;have j0:(0:Int)<=(k:Int):=by omega
   have j1:(k:Int)<(N:Int):=by omega
   have b1:=o k O;have j2: ¬(((k*n:Nat):Int)+(n:Int)<0):=by omega
   have j3:IntKind.i64.wrap (((k*n:Nat):Int)+(n:Int))=((k*n:Nat):Int)+(n:Int):=wrap_small _ (by omega) (by omega);go_wp2
   go_roundw
   case rel=>exact⟨k+1,by omega,by go_num,by rw[a6L];simp,trivial⟩
   case measure=>simp[intOf];omega
  .obtain rfl:k=N:=by omega
   have Q:0<k*n:=a7Q H I;have b1:=o k (aF _);go_wp2_with (go_at_call 211;refine(Sq (k*n) _ Q (by omega)).mono ?_;rintro e w1 ⟨cp,rfl,ag,q,R⟩)
   go_loopw [6,27] (λd i Z=> ∃j:Nat,j<=k/\i=.int .i64 j/\d=.slice (some ⟨w.heap.size,0,none⟩) (j*n) cp/\Z.ownsRow w.heap.size 64 2 (.slice (some ⟨w.heap.size,0,none⟩) (j*n) cp) (j*n) ((List.range j).flatMap vals)/\Below w.heap.size w Z) (λ_ i _=>k - (intOf i).toNat)
   case atStart=>exact⟨0,by omega,rfl,by simp,by simpa using q,R⟩
   case round=>
    obtain⟨j,hj,rfl,rfl,b,A⟩:=hrel;by_cases a:j<k
    .obtain⟨g,c,l,F⟩:=ai x j a;have z:=ai X j a;rw[l]at z;have S:bt<w.heap.size:=World.block_lt_of_cell? w _ z;have c1:=(A.cell (p:=⟨bt,j,none⟩) S).trans z;have m:=ai HO j a;rw[l]at m;have hl:=m.1;have B:∀i u,(vals j)[i]?=some u->wr.cell? ((⟨g,0,none⟩:ap).add i)=some u:=λi u M=>by have:=oT m i u M;rw[Addr.add_lit,dG]at this⊢;exact(A.cell (p:=⟨g,i,none⟩) F).trans this
     have C:=ai HV j a;have D:j*n+n<=cp:=by have:(j+1)*n<=k*n:=a6p _ a;rw[a6L]at this;omega
     have HL:=am hl;have T:=am B;have U:=am C;have f:=am b;have HB:=am A;clear hl B C b A m;have j0:(0:Int)<=(j:Int):=by omega
     have j1:(j:Int)<(k:Int):=by omega
     go_wp2_with (at_builtin;go_loud (refine wpList_append_fits _ rfl (.tmp 31) (.tmp 32) 46 rfl w.heap.size 64 iO 2 Gh.underlying46 K L w.heap.size (j*n) cp _ rfl (ai f) ⟨g,0,none⟩ n c (vals j) rfl (ai HL) (ai T) (ai U) D ?_;intro w3 r V))
     go_roundw
     case rel=>
      refine⟨j+1,by omega,by go_num,by rw[a6L],?_,?_⟩
      .rw[a6L,Ra];exact r
      .exact(ai HB).grown V (ai HB).size (by simp)
     case measure=>simp[intOf];omega
    .obtain rfl:j=k:=by omega
     have f:=am b;clear b;go_wp2;go_ret;exact⟨_,rfl,ai f,A⟩
def CZ(N bt cap w)(C:N<=100)(p:∀i,i<N->∃b c,w.cell? ⟨bt,i,none⟩=some (.slice b 0 c)):Calls Gh.prog.{u} 156 #[.slice (some ⟨bt,0,none⟩) N cap] w λe w'=>e=.returned (.slice none 0 0)/\Below w.heap.size w w':=by
 have q:=am p;clear p;go_enter Gh.func156,Tryz.ntmps156;go_wp2_with fail
 go_loopw [3,11] (λs i wr=> ∃k:Nat,k<=N/\i=.int .i64 k/\s=.int .i64 0/\wr=w) (λ_ i _=>N - (intOf i).toNat)
 case atStart=>exact⟨0,by omega,rfl,rfl,rfl⟩
 case round=>
  obtain⟨k,D,rfl,rfl,f⟩:=hrel;have a:=f.symm;subst a;clear f;by_cases m:k<N
  .obtain⟨b,c,t⟩:=ai q k m;have v:(0:Int)<=(k:Int):=by omega
   have x:(k:Int)<(N:Int):=by omega
   go_wp2
   go_roundw
   case rel=>exact⟨k+1,by omega,by go_num,rfl,trivial⟩
   case measure=>simp[intOf];omega
  .obtain rfl:k=N:=by omega
   go_wp2_with (go_at_call 211;refine(Sp _).mono ?_;rintro e E ⟨rfl,g⟩;have h:=g.symm;subst h;clear g)
   go_loopw [6,27] (λd i y=> ∃j:Nat,j<=k/\i=.int .i64 j/\d=.slice none 0 0/\y=w) (λ_ i _=>k - (intOf i).toNat)
   case atStart=>exact⟨0,by omega,rfl,rfl,rfl⟩
   case round=>
    obtain⟨j,F,rfl,rfl,f⟩:=hrel;have a:=f.symm;subst a;clear f;by_cases l:j<k
    .obtain⟨b,c,t⟩:=ai q j l;have v:(0:Int)<=(j:Int):=by omega
     have x:(j:Int)<(k:Int):=by omega
     have n:∀r,(Builtin.append_ #[46,46] r #[.slice none 0 0,.slice b 0 c]).run Gh.prog.{u} w=.ok (.slice none 0 0) w:=λr=>by obtain⟨H,o,z,A,B⟩:=info_parts Gh.qa.{u};cases b<;>simp[Builtin.append_,run_underlying Gh.underlying46,sizeOf,typeInfo,o,Builtin.lenOf,Builtin.firstCells,loadCells,loadCellsFrom,Result.andThen]
     go_wp2_with (at_builtin;refine Lib.wpList_append_run _ rfl _ _ _ _ rfl _ _ rfl rfl _ _ (n _) ?_)
     go_roundw
     case rel=>exact⟨j+1,by omega,by go_num,rfl,trivial⟩
     case measure=>simp[intOf];omega
    .obtain rfl:j=k:=by omega
     go_wp2;go_ret;exact⟨rfl,Below.refl _ _⟩
end
section
universe u
open Go.RowKit Go.Shelf Go.Lib
attribute [local go_sem ↓] Go.wp_at_zero Go.wp_at_succ
def k9(a:Array af):Nat->List af->Array af
 |_,[]=>a
 |o,v::r=>k9 (a.setIfInBounds o v) (o+1) r
theorem Fx:∀b a o,(k9 a o b).size=a.size
 |[],_,_=>rfl
 |v::r,a,o=>by rw[k9,Fx r];simp
def a0S{w:aa}{b o a e v}(h:w.heap[b]?=some (.cells a e)):(w.setCell ⟨b,o,none⟩ v).heap[b]?=some (.cells (a.setIfInBounds o v) e):=by simp[World.setCell,j7,h]
theorem Fy{b e}:∀c o (w:aa) (a),w.heap[b]?=some (.cells a e)->(w.setCells b o c).heap[b]?=some (.cells (k9 a o c) e)
 |[],_,_,_,h=>h
 |v::r,o,w,a,h=>Fy r (o+1) _ _ (a0S h)
theorem FA{b}:∀a o (w:aa),(w.setCells b o a).heap.size=w.heap.size
 |[],_,_=>rfl
 |v::r,o,w=>by rw[World.setCells,FA r];simp[World.setCell]
def nU(n G:Nat):Array af:=([]:List af).toArray++Builtin.zeroCells (Value.agg #[.int .i64 0,.string ⟨#[]⟩]).cells n++Builtin.zeroCells (Value.agg #[.int .i64 0,.string ⟨#[]⟩]).cells (G - n)
def a5y{n G}(h:n<=G):(nU n G).size=G*2:=by unfold nU;simp only[a6J,fS,gv,Builtin.zeroCells,Value.cells,kK,a7J];show 0+n*2+(G - n)*2=G*2;omega
def ic(n N G:Nat)(vals:Nat->List af):Nat->Array af
 |0=>nU (N*n) G
 |j+1=>k9 (ic n N G vals j) (j*n*2) (vals j)
theorem Cx{n N G vals}(h:N*n<=G):∀j,(ic n N G vals j).size=G*2
 |0=>a5y h
 |j+1=>by rw[ic,Fx,Cx h j]
def Sn(n:Nat)(w)(h0:0<n)(q:n<=100000):Calls Gh.prog.{u} 211 #[.slice none 0 0,.int .i64 n] w λe m=>e=.returned (.slice (some ⟨w.heap.size,0,none⟩) 0 (grownCap w n 0 64))/\m=w.drew.alloc (.cells (nU n (grownCap w n 0 64)) 64):=by
 obtain⟨l,i,j,k,f⟩:=info_parts Gh.qa.{u};have g:(Builtin.firstCells l.size 0 (.slice none 0 0)).run Gh.prog.{u} w.drew=.ok ([]:List af).toArray w.drew:=run_firstCells_none _ _ _ _ _;have b:∀c,(Builtin.append_ #[46,3] c #[.slice none 0 0,.int .i64 n]).run Gh.prog.{u} w=
   .ok (.slice (some ⟨w.heap.size,0,none⟩) (0+n) (grownCap w (0+n) 0 64)) (w.drew.alloc (.cells (([]:List af).toArray++Builtin.zeroCells (Value.agg #[.int .i64 0,.string ⟨#[]⟩]).cells n++Builtin.zeroCells (Value.agg #[.int .i64 0,.string ⟨#[]⟩]).cells (grownCap w (0+n) 0 64 - (0+n))) 64)):=λc=>
  Lib.run_append_grow_zeros w 46 3 c 64 l _ .i64 .i64 Gh.underlying46 Gh.underlying3 i j none 0 0 [] g n h0 (by rw[k];omega) (by omega) (by omega) (by rw[f];omega) (by rw[f];exact growslice_fits (by omega) (by omega))
 simp only[dG]at b;have o:n<=grownCap w n 0 64:=grownCap_ge w _ _ _;have p:=grownCap_le_maxLen w n 0 64 (by unfold maxLen;omega);generalize grownCap w n 0 64=G at*;obtain⟨d,a⟩:∃d:Array af,d=nU n G:=⟨_,rfl⟩;rw[<-a];have h:∀c,(Builtin.append_ #[46,3] c #[.slice none 0 0,.int .i64 n]).run Gh.prog.{u} w=.ok (.slice (some ⟨w.heap.size,0,none⟩) n G) (w.drew.alloc (.cells d 64)):=λc=>by rw[a];exact b c
 clear b a;have r: ¬((n:Int)<0):=by omega
 have s:(n:Int)>0:=by omega
 go_enter Gh.func211,Tryz.ntmps211;go_wp2_with (at_builtin;refine Lib.wpList_append_run _ rfl _ _ _ _ rfl _ _ rfl rfl _ _ (h _) ?_);go_ret;exact⟨rfl,rfl⟩
def NJ(N n bt cap base)(tv:Nat->af)(vals w)(z:0<N)(hN:N<=100)(A:0<n)(hn:n<=100)(hc:∀i,i<N->w.cell? ⟨bt,i,none⟩=some (tv i))(S:∀i,i<N->w.ownsRow base 64 2 (tv i) n (vals i))(Q:∀i,i<N->∀u∈vals i,u.oneCell'=true):Calls Gh.prog.{u} 156 #[.slice (some ⟨bt,0,none⟩) N cap] w λe w'=>e=.returned (.slice (some ⟨w.heap.size,0,none⟩) (N*n) (grownCap w (N*n) 0 64))/\w'.heap[w.heap.size]?=some (.cells (ic n N (grownCap w (N*n) 0 64) vals N) 64)/\w'.heap.size=w.heap.size+1/\Below w.heap.size w w':=by
 obtain⟨iO,T,ae,v,ag⟩:=info_parts Gh.qa.{u};have B:∀i,i<N->∃g c,tv i=.slice (some ⟨g,0,none⟩) n c/\g<w.heap.size:=by
  intro i y;have h:=S i y;obtain⟨_,h0⟩|⟨g,c,al,Q,_,R,_⟩:=h.2
  .omega
  .exact⟨g,c,Q,(bW.1 R).1⟩
 have m:∀k,k<=N->k*n<=10000:=λk U=>dF (Nat.mul_le_mul (dF U hN) hn) (by omega);have b:=Sn.{u} (N*n) w (a7Q z A) (dF (m N (aF _)) (by omega));have V:N*n<=grownCap w (N*n) 0 64:=grownCap_ge w _ _ _;generalize grownCap w (N*n) 0 64=cp at*;have l:Calls Gh.prog.{u} 211 #[.slice none 0 0,.int .i64 (N*n:Nat)] w λe w1=>e=.returned (.slice (some ⟨w.heap.size,0,none⟩) 0 cp)/\w1.heap[w.heap.size]?=some (.cells (ic n N cp vals 0) 64)/\w1.heap.size=w.heap.size+1/\Below w.heap.size w w1:=by refine b.mono ?_;rintro e w1 ⟨rfl,rfl⟩;refine⟨rfl,World.alloc_heap_new w.drew _,?_,((Below.refl _ _).drew).alloc (aF _) _⟩;show(w.heap.push _).size=_;simp
 have x:=am l;clear b l;have C:=am B;have HC:=am hc;have HO:=am S;have HV:=am Q;clear B hc S Q;go_enter Gh.func156,Tryz.ntmps156;go_wp2_with fail
 go_loopw [3,11] (λs i wr=> ∃k:Nat,k<=N/\i=.int .i64 k/\s=.int .i64 (k*n:Nat)/\wr=w) (λ_ i _=>N - (intOf i).toNat)
 case atStart=>exact⟨0,by omega,rfl,by simp,rfl⟩
 case round=>
  obtain⟨k,U,rfl,rfl,hw⟩:=hrel;have W:=hw.symm;subst W;clear hw;by_cases D:k<N
  .obtain⟨g,c,q,R⟩:=ai C k D;have E:=ai HC k D;rw[q]at E;have j0:(0:Int)<=(k:Int):=by omega
   have j1:(k:Int)<(N:Int):=by omega
   have b1:=m k U;have j2: ¬(((k*n:Nat):Int)+(n:Int)<0):=by omega
   have j3:IntKind.i64.wrap (((k*n:Nat):Int)+(n:Int))=((k*n:Nat):Int)+(n:Int):=wrap_small _ (by omega) (by omega);go_wp2
   go_roundw
   case rel=>exact⟨k+1,by omega,by go_num,by rw[a6L];simp,trivial⟩
   case measure=>simp[intOf];omega
  .obtain rfl:k=N:=by omega
   have ao:0<k*n:=a7Q z A;have b1:=m k (aF _);have b:=ai x;go_wp2_with (go_at_call 211;refine b.mono ?_;rintro e w1 ⟨rfl,X,Y,Z⟩)
   go_loopw [6,27] (λd i w2=> ∃j:Nat,j<=k/\i=.int .i64 j/\d=.slice (some ⟨w.heap.size,0,none⟩) (j*n) cp/\w2.heap[w.heap.size]?=some (.cells (ic n k cp vals j) 64)/\w2.heap.size=w.heap.size+1/\Below w.heap.size w w2) (λ_ i _=>k - (intOf i).toNat)
   case atStart=>exact⟨0,by omega,rfl,by simp,X,Y,Z⟩
   case round=>
    obtain⟨j,hj,rfl,rfl,a,F,H⟩:=hrel;by_cases f:j<k
    .obtain⟨g,c,q,R⟩:=ai C j f;have E:=ai HC j f;rw[q]at E;have ab:bt<w.heap.size:=World.block_lt_of_cell? w _ E;have c1:=(H.cell (p:=⟨bt,j,none⟩) ab).trans E;have r:=ai HO j f;rw[q]at r;have hl:=r.1;have I:∀i u,(vals j)[i]?=some u->wr.cell? ((⟨g,0,none⟩:ap).add i)=some u:=λi u y=>by have:=oT r i u y;rw[Addr.add_lit,dG]at this⊢;exact(H.cell (p:=⟨g,i,none⟩) R).trans this
     have J:=ai HV j f;have K:j*n+n<=cp:=by have:(j+1)*n<=k*n:=a6p _ f;rw[a6L]at this;omega
     have ad:∀ty,(Builtin.append_ #[46,46] ty #[.slice (some ⟨w.heap.size,0,none⟩) (j*n) cp,.slice (some ⟨g,0,none⟩) n c]).run Gh.prog.{u} wr=.ok (.slice (some ⟨w.heap.size,0,none⟩) (j*n+n) cp) (wr.setCells w.heap.size (j*n*2) (vals j)):=λty=>by
      have h:=run_append_room_cells (P:=Gh.prog.{u}) wr 46 ty 64 iO Gh.underlying46 T w.heap.size 0 (j*n) cp ⟨g,0,none⟩ n c (vals j) (by rw[v];exact hl) I J K (λi y=>by
       have L:=Cx (vals:=vals) V j;have:i<n*2:=by rw[<-hl];exact y
       have M:j*n*iO.size+i<(ic n k cp vals j).size:=by rw[L,v];omega
       simp[World.cell?,a,M]) (λi y=>by simp[World.frozen?,a])
      rw[v,dG]at h;exact h
     have o:(wr.setCells w.heap.size (j*n*2) (vals j)).heap[w.heap.size]?=some (.cells (ic n k cp vals (j+1)) 64):=Fy _ _ _ _ a;have t:(wr.setCells w.heap.size (j*n*2) (vals j)).heap.size=w.heap.size+1:=(FA _ _ _).trans F;have O:Below w.heap.size w (wr.setCells w.heap.size (j*n*2) (vals j)):=below_setCells (aF _) _ _ _ H;generalize wr.setCells w.heap.size (j*n*2) (vals j)=w3 at*;have HB:=am O;have HR:=am o;have HZ:=am t;clear hl I J a H r O o t;have j0:(0:Int)<=(j:Int):=by omega
     have j1:(j:Int)<(k:Int):=by omega
     go_wp2_with (at_builtin;refine Lib.wpList_append_run _ rfl _ _ _ _ rfl _ _ rfl rfl _ _ (ad _) ?_)
     go_roundw
     case rel=>exact⟨j+1,by omega,by go_num,by rw[a6L],ai HR,ai HZ,ai HB⟩
     case measure=>simp[intOf];omega
    .obtain rfl:j=k:=by omega
     have HR:=am a;clear a;go_wp2;go_ret;exact⟨rfl,ai HR,F,H⟩
end
end Go.Proofs.q
end
section
namespace Go.Proofs.q
open Go.RowKit Go.Shelf Go.Lib
section
attribute [local go_sem ↓] Go.wp_at_zero Go.wp_at_succ
def Tj(r n)(h:bL r=bL n):bL (eQ r n)=bL r:=by
 unfold eQ gn fZ jv;split
 .rfl
 .split
  .split
   .split<;>rfl
   .exact h.symm
  .split
   .exact h.symm
   .rfl
def Yq{a b}(h: ¬fk a b)(c:a≠b):fk b a:=by unfold fk at*;have: ¬(a.addr=b.addr/\a.len=b.len):=λe=>c (by cases a;cases b;simp at e;simp[e]);omega
def Yx{L p}(d:jy L):a5S L p (fF L p):=by
 induction L with
 |nil=>exact⟨aF _,λj a=>by simp at a,λj a=>by simp at a⟩
 |cons r R g=>
  have b:=List.pairwise_cons.1 d;obtain⟨i,k,l⟩:=g b.2;by_cases h:fk (bL r) p
  .have e:fF (r::R) p=fF R p+1:=by unfold fF;rw[a6T,if_pos (by simpa using (wL r p).1 h)];rfl
   rw[e];refine⟨by simpa using i,λj a c=>?_,λj a c=>?_⟩
   .cases j with
    |zero=>exact h
    |succ j=>exact k j (by simpa using a) (by omega)
   .cases j with
    |zero=>omega
    |succ j=>exact l j (by simpa using a) (by omega)
  .have e:fF (r::R) p=0:=by unfold fF;rw[a6T,if_neg (by simpa using λx=>h ((wL r p).2 x))];rfl
   rw[e];refine⟨by simp,λj a c=>by omega,λj a c=>?_⟩;cases j with
   |zero=>exact h
   |succ j=>
    have m:j<R.length:=by simpa using a
    exact λf=>h (AZ (b.1 R[j] (i5 _)) f)
def Jc{L}(n)(c:jy L):jy (gt L n):=by
 have A:=Yx (p:=bL n) c;have l:∀(_:((L[fF L (bL n)]?.map bL)==some (bL n))=false),jy (L.take (fF L (bL n))++jv n::L.drop (fF L (bL n))):=λo=>by
  generalize fF L (bL n)=i at*;obtain⟨D,B,y⟩:=A;have f:∀j,(u:j<L.length)->i<=j->fk (bL n) (bL L[j]):=λj u v=>by
   refine Yq (y j u v) λe=>?_;by_cases w:j=i
   .subst w;rw[lF u]at o;simp[e]at o
   .have q:i<L.length:=by omega
    have:=tu c q u (by omega);rw[e]at this;exact y i q (aF _) this
  refine List.pairwise_append.2 ⟨c.sublist (List.take_sublist _ _),List.pairwise_cons.2 ⟨λb d=>?_,c.sublist (List.drop_sublist _ _)⟩,λa r b d=>?_⟩
  .obtain⟨k,s,rfl⟩:=nV d;rw[List.getElem_drop];exact f _ _ (by omega)
  .obtain⟨k,s,rfl⟩:=nV r;rw[it]at s;rw[a7d];obtain rfl|d:=cm.1 d
   .exact B k (by omega) (by omega)
   .obtain⟨m,C,rfl⟩:=nV d;rw[mc]at C;rw[List.getElem_drop];exact tu c (by omega) (by omega) (by omega)
 cases g:((L[fF L (bL n)]?.map bL)==some (bL n))with
 |true=>
  have q:fF L (bL n)<L.length:=by refine Nat.lt_of_not_le λh=>?_;rw[a6x h]at g;simp at g
  have t:bL L[fF L (bL n)]=bL n:=by rw[lF q]at g;simpa using g
  rw[I9 q rfl t];refine a6X.2 λa b r d x=>?_;rw[a6Y]at r d;have h0:=tu c r d x;have z:∀k,(s:k<L.length)->bL ((L.set (fF L (bL n)) (eQ L[fF L (bL n)] n))[k]'(by rw[a6Y];exact s))=bL L[k]:=λk s=>by
   rw[List.getElem_set];split
   .rename_i e;subst e;exact Tj _ _ t
   .rfl
  rw[z a r,z b d];exact h0
 |false=>
  rw[Jb rfl g];split
  .exact l g
  .exact c
def Ja(L n)(h:L.length<=60):(gt L n).length<=60:=by
 have a:=TM L (bL n);unfold gt pi;split
 .split
  .simpa using h
  .split
   .simp;omega
   .exact h
 .split
  .simp;omega
  .exact h
def eK(L:List Rw)(az a:Int):List aT->List Rw
 |[]=>L
 |e::b=>eK (gt L (iG e az a)) az a b
def Te(L az a es e):eK L az a (es++[e])=gt (eK L az a es) (iG e az a):=by
 induction es generalizing L with
 |nil=>rfl
 |cons x es b=>exact b _
def Tf{L}(az a es)(b:jy L):jy (eK L az a es):=by
 induction es generalizing L with
 |nil=>exact b
 |cons e es c=>exact c (Jc _ b)
def Tc{L}(az a es)(h:L.length<=60):(eK L az a es).length<=60:=by
 induction es generalizing L with
 |nil=>exact h
 |cons e es b=>exact b (Ja _ _ h)
def a2b(base ao ae cap ne ce L es az a w)(R:L.length<=60)(x:jy L)(y:es.length=ne)(au:ne<=1000000)(l:∀e∈es,0<=e.met/\e.met<=16)(S:0<=a)(T:a<=15)(z:je w ae es)(c:w.ownsRow base 137 7 (.slice ao L.length cap) L.length (aM L)):Calls Gh.prog.{0} 46 #[.agg #[.slice ao L.length cap],.int .i64 az,.int .i64 a,.slice ae ne ce] w λe w'=> ∃v,e=.returned (.agg #[v])/\w'.ownsRow w.heap.size 137 7 v (eK L az a es).length (aM (eK L az a es))/\Below w.heap.size w w':=by
 have bT:=lh w #[.slice ao L.length cap] 120 #[.slice none 0 0] 120;have q:=(((aL.refl w).alloc (.cells #[.slice ao L.length cap] 120)).alloc (.cells #[.slice none 0 0] 120)).below;have A:((w.alloc (.cells #[.slice ao L.length cap] 120)).alloc (.cells #[.slice none 0 0] 120)).heap.size=w.heap.size+2:=by simp
 have B:=CO.{0} base (.slice ao L.length cap) L ((w.alloc (.cells #[.slice ao L.length cap] 120)).alloc (.cells #[.slice none 0 0] 120)) (by omega) (da c q (aF _));have HT:=am bT;have C:=am q;have D:=am A;have U:=am z;have V:=am x;have F:=am l;have H:=am y;clear bT q c A x l z y;go_enter Gh.func46,Tryz.ntmps46;go_wp2_with fail;refine B.mono ?_;rintro e w1 ⟨v',rfl,f,g⟩;rw[ai D]at f g;obtain⟨ba,av,rfl⟩:=dA f;have I:=am g;have bb:w.heap.size+2<=w1.heap.size:=by have:=g.size;rw[ai D]at this;exact this
 have W:=(ai HT).below g (by omega);clear B g;go_wp2_with fail
 go_loopw [9,17] (λd i wr=> ∃t:Nat,t<=ne/\i=.int .i64 t/\wr.ownsRow (w.heap.size+2) 137 7 d (eK L az a (es.take t)).length (aM (eK L az a (es.take t)))/\Below (w.heap.size+2) w1 wr) (λ_ i _=>ne - (intOf i).toNat)
 case atStart=>exact⟨0,by omega,rfl,f,Below.refl _ _⟩
 case round=>
  obtain⟨t,ht,rfl,c,u⟩:=hrel;clear f;by_cases X:t<ne
  .have j:t<es.length:=by rw[ai H];exact X
   have J:Below w.heap.size w wr:=(ai C).trans (((ai I).mono (by omega)).trans (u.mono (by omega)));obtain h0|⟨b,bd,rfl,r⟩:=ai U
   .rw[h0]at j;simp at j
   .obtain⟨d0,d1,d2,d3⟩:=rT r J (uY r (by omega)) t j;obtain⟨Y,Z⟩:=ai F es[t] (i5 _);have ab:=am (show eK L az a (es.take (t+1))=gt (eK L az a (es.take t)) (iG es[t] az a)by rw[kL j,Te]);have aP:=Tc az a (es.take t) R;have m:=Tf az a (es.take t) (ai V);generalize eK L az a (es.take t)=M at*;generalize es[t]=E at*;have j0:(0:Int)<=(t:Int):=by omega
    have j1:(t:Int)<(ne:Int):=by omega
    have HO:=am c;have Q:=am u;have ad:=am m;clear c u r J m;go_wp2_with (first|(go_at_call 97;refine(Vh E az a _ Y Z S T).mono ?_;rintro e w4 ⟨rfl,K⟩;have h:=((aL.refl wr).alloc _).trans K;have ag:=am (da (ai HO) h.below (aF _));have N:=am ((ai Q).trans (h.below.mono (by have:=(ai Q).size;omega)));clear K h)|(go_at_call 96;refine(a2c (w.heap.size+2) _ M (iG E az a) w4 (by omega) (ai ad) (by have:=(ai N).size;omega) (ai ag)).mono ?_;rintro e w5 ⟨v5,rfl,s,al⟩))
    go_roundw
    case rel=>exact⟨t+1,by omega,by go_num,by rw[ai ab];exact s,(ai N).trans al⟩
    case measure=>simp[intOf];omega
  .have aq:t=ne:=by omega
   subst aq;have k:=W.below u (by omega);have s0:=k.cell 0;have z0:=k.frozen 0;have n:es.take t=es:=mZ (by rw[ai H];omega);rw[n]at c;obtain⟨O,o,hd⟩:=dA c;have P:=am c;have Q:=am u;clear c u n;subst hd;go_wp2;have ar:=k.set 0 (.slice O (eK L az a es).length o);have t0:=ar.cell 0;simp at t0;refine bodyPost_ret (v:=.agg #[.slice O (eK L az a es).length o]) (by simp[results,Tryz.results46,go_sem,t0]) rfl ⟨_,rfl,?_,?_⟩
   .exact eA (cW (ai P) k (by decide)) (by omega)
   .exact((ai C).trans (((ai I).mono (by omega)).trans ((ai Q).mono (by omega)))).setCell (p:=⟨w.heap.size+1,0,none⟩) (by simp) _
end
end Go.Proofs.q
end
