import Derived.Test.YtdnpeefnobjfaaaGreatDoorK15
set_option maxRecDepth 100000
set_option maxHeartbeats 4000000
set_option linter.all false
section
namespace Go.Proofs.q
def Pr(x):((byteOf x).toNat:Int)=x%256:=by unfold byteOf;have h0:0<=x%256:=Int.emod_nonneg _ a9j;have a:x%256<256:=Int.emod_lt_of_pos _ a9j;rw[UInt8.toNat_ofNat'];omega
theorem O4(x):be 2 x=[byteOf (x / 256),byteOf x]:=rfl
theorem O6(x):be 4 x=[byteOf (x / 256 / 256 / 256),byteOf (x / 256 / 256),byteOf (x / 256),byteOf x]:=rfl
def Bi(t a m e:Int):List Int:=[0,2,t / 256%256,t%256,a / 256 / 256 / 256%256,a / 256 / 256%256,a / 256%256,a%256,m / 256 / 256 / 256%256,m / 256 / 256%256,m / 256%256,m%256,0,0,0,0,e / 256 / 256 / 256%256,e / 256 / 256%256,e / 256%256,e%256]
def Gn(e j)(b:j<20):bt (cj e) j=(Bi e.tag e.addr (4294967296 - 2^(32 - e.len).toNat) e.met).getD j 0:=by
 generalize c:(4294967296 - 2^(32 - e.len).toNat:Int)=m;have d:(cj e).map (λu=>((u.toNat:Nat):Int))=Bi e.tag e.addr m e.met:=by unfold cj;rw[c];simp only[O4,O6,fU,iu,dq,lH,Pr];rfl
 rw[<-d];unfold bt;rw[jt,jt,b0I];have a:j<(cj e).length:=by rw[Bj];exact b
 simp[iM a]
def S6{e}(h:fE e=0)(h0:0<=e.addr)(S:e.addr<4294967296):fw (cj e) 0=e/\fF (cj e) 0=0:=by
 obtain⟨s,x,t⟩:=Gs h;obtain⟨y,z⟩:=C1 s;have u:=nZ (32 - e.len).toNat;have A:=nY (32 - e.len).toNat a9h;have a:gN (4294967296 - 2^(32 - e.len).toNat)=e.len:=by have:=yB e.len.toNat a9h;rw[show(32 - e.len).toNat=32 - e.len.toNat by omega,this];omega
 have B:=λj (C:j<20)=>Gn e j C;have c:=s;simp[kz]at x;have D:1<=e.met/\e.met<=16:=by simpa[fH]using t
 generalize E:(4294967296 - 2^(32 - e.len).toNat:Int)=m at*;have F:bt (cj e) 0=0:=B 0 a9j;have H:bt (cj e) 1=2:=B 1 a9j;have I:bt (cj e) 2=e.tag / 256%256:=B 2 a9j;have J:bt (cj e) 3=e.tag%256:=B 3 a9j;have K:bt (cj e) 4=e.addr / 256 / 256 / 256%256:=B 4 a9j;have L:bt (cj e) 5=e.addr / 256 / 256%256:=B 5 a9j;have M:bt (cj e) 6=e.addr / 256%256:=B 6 a9j;have N:bt (cj e) 7=e.addr%256:=B 7 a9j;have O:bt (cj e) 8=m / 256 / 256 / 256%256:=B 8 a9j;have P:bt (cj e) 9=m / 256 / 256%256:=B 9 a9j;have d:bt (cj e) 10=m / 256%256:=B 10 a9j;have f:bt (cj e) 11=m%256:=B 11 a9j;have g:bt (cj e) 12=0:=B 12 a9j;have i:bt (cj e) 13=0:=B 13 a9j;have k:bt (cj e) 14=0:=B 14 a9j;have l:bt (cj e) 15=0:=B 15 a9j;have n:bt (cj e) 16=e.met / 256 / 256 / 256%256:=B 16 a9j;have o:bt (cj e) 17=e.met / 256 / 256%256:=B 17 a9j;have p:bt (cj e) 18=e.met / 256%256:=B 18 a9j;have q:bt (cj e) 19=e.met%256:=B 19 a9j;clear B;have Q:sh (cj e) 0=2:=by simp only[sh,dC,F,H];omega
 have R:sh (cj e) (0+2)=e.tag:=by simp only[sh,dC,Nat.reduceAdd,I,J];omega
 have v:wd (cj e) (0+4)=e.addr:=by simp only[wd,sh,dC,Nat.reduceAdd,K,L,M,N];omega
 have w:wd (cj e) (0+8)=m:=by simp only[wd,sh,dC,Nat.reduceAdd,O,P,d,f];omega
 have r:wd (cj e) (0+12)=0:=by simp only[wd,sh,dC,Nat.reduceAdd,g,i,k,l];omega
 have b:wd (cj e) (0+16)=e.met:=by simp only[wd,sh,dC,Nat.reduceAdd,n,o,p,q];omega
 refine⟨?_,?_⟩
 .unfold fw;rw[v,w,R,b,a]
 .unfold fF;rw[Q,v,w,r,b,a,if_neg a9j,if_neg (by rw[c];decide),if_neg a9j,if_neg (by rw[t];decide)]
def T7(l:List cR)(k)(a:k<l.length)(j)(d:j<20):bt (l.flatMap cj) (k*20+j)=bt (cj l[k]) j:=by
 induction l generalizing k with
 |nil=>simp at a
 |cons e r b=>
  have c:=Bj e;cases k with
  |zero=>simp only[kJ,b1P,dC,a9Q,bt];rw[jt,a9S a9h,<-jt]
  |succ k=>have h:=b k (by simpa using a);simp only[kJ,b0K];rw[<-h];unfold bt;rw[jt,a9P a9h,<-jt,c];congr 3;omega
def Gm(l:List cR)(k)(a:k<l.length)(j)(b:j<20):bt ([2,2,0,0]++l.flatMap cj) (4+k*20+j)=bt (cj l[k]) j:=by rw[<-T7 l k a j b];unfold bt;rw[jt,a9P a9l,<-jt];congr 3;simp;omega
def Po{b c}(d:b.length=c.length)(h:∀i,i<b.length->bt b i=bt c i):b=c:=b1n d λi a e=>by have:=h i a;simp[bt,jt,a,e]at this;exact UInt8.toNat_inj.1 a9h
def a9L{a l}(h:oR a l=none)(d:∀e∈l,0<=e.addr/\e.addr<4294967296):f9 (eF a l)=none/\gK (eF a l)=a/\eE (eF a l)=l:=by
 unfold oR at h;split at h
 .simp at h
 .rename_i u;split at h
  .simp at h
  .rename_i o;by_cases v:a=1
   .subst v;obtain rfl:l=[]:=gj a9h;have c:f9 lR=none:=a9j
    have e:eF 1 []=lR:=rfl;rw[e];refine⟨c,?_,?_⟩
    .unfold gK;rw[c,if_neg a9i,if_pos rfl]
    .unfold eE;rw[c,if_neg a9i,if_pos rfl]
   .obtain rfl:a=2:=a9h
    have f:=G9 h;have e:eF 2 l=[2,2,0,0]++l.flatMap cj:=by unfold eF;rw[if_neg a9j]
    have b:(eF 2 l).length=4+20*l.length:=by rw[e,iN,xY];rfl
    have p:∀k,(g:k<l.length)->fw (eF 2 l) (4+k*20)=l[k]/\fF (eF 2 l) (4+k*20)=0:=λk g=>by
     have i:l[k]∈l:=kK g;obtain⟨w,x⟩:=S6 (f _ i) (d _ i).1 (d _ i).2;have r:∀j,j<20->bt (cj l[k]) j=bt (eF 2 l) (4+k*20+j):=λj s=>by rw[e];exact(Gm l k g j s).symm
     rw[<-Ll r,<-zV r];exact⟨w,x⟩
    have n:eF 2 l≠lR:=λq=>by
     have h0:(eF 2 l).head?=some 2:=by rw[e];rfl
     rw[q]at h0;revert h0;decide
    have t:((eF 2 l).length - 4) / 20=l.length:=by rw[b];omega
    have c:f9 (eF 2 l)=none:=by
     unfold f9;have y:jR (eF 2 l).length=true:=by rw[b];simp[jR];omega
     rw[y,if_neg a9i,if_neg n,if_neg (by rw[e];simp),t];exact Kq (λj _ s=>(p j a9h).2)
    refine⟨c,?_,?_⟩
    .unfold gK;rw[c,if_neg a9i,if_neg n]
    .unfold eE;rw[c,if_neg a9i,if_neg n];unfold kW;rw[t];refine b1n a9i λk u o=>?_;simp only[b0t,List.getElem_range];exact(p k o).1
def a3e{b n k}(h:kv b n k=none):∀j,k<=j->j<k+n->fF b (4+j*20)=0:=by
 induction n generalizing k with
 |zero=>intro j a c;omega
 |succ n d=>
  unfold kv at h;split at h
  .rename_i h0;intro j a c;by_cases e:j=k
   .subst e;exact h0
   .exact d h j a9h a9h
  .simp at h
def Gw{b i}(h:fF b i=0):sh b i=2/\dn (wd b (i+4)) (gN (wd b (i+8)))=true/\wd b (i+12)=0/\fH (wd b (i+16))=true:=by
 unfold fF at h;by_cases a:sh b i=2
 .rw[if_neg (by simpa using a)]at h;cases d:dn (wd b (i+4)) (gN (wd b (i+8)))
  .rw[if_pos d]at h;simp at h
  .rw[if_neg (by simp[d])]at h;by_cases c:wd b (i+12)=0
   .rw[if_neg (by simpa using c)]at h;cases e:fH (wd b (i+16))
    .rw[if_pos e]at h;simp at h
    .exact⟨a,rfl,c,rfl⟩
   .rw[if_pos c]at h;simp at h
 .rw[if_pos a]at h;simp at h
def S7{b i}(h:fF b i=0)(j)(n:j<20):bt (cj (fw b i)) j=bt b (i+j):=by
 obtain⟨o,c,p,q⟩:=Gw h;rw[Gn _ j n];have a:(4294967296 - 2^(32 - gN (wd b (i+8))).toNat:Int)=wd b (i+8):=by
  obtain⟨k,r,e⟩|s:=Is (wd b (i+8))
  .rw[e,yB k r,show((32:Int) - k).toNat=32 - k by omega]
  .rw[Cn s]at c;have:=(C1 c).1;omega
 have d:(fw b i).tag=sh b (i+2):=rfl;have f:(fw b i).addr=wd b (i+4):=rfl;have g:(fw b i).met=wd b (i+16):=rfl;have l:(fw b i).len=gN (wd b (i+8)):=rfl;rw[d,f,g,l,a];have R:=λj=>uh b (i+j);have t:=R 0;have F:=R 1;have H:=R 2;have I:=R 3;have J:=R 4;have K:=R 5;have L:=R 6;have M:=R 7;have N:=R 8;have O:=R 9;have u:=R 10;have v:=R 11;have w:=R 12;have x:=R 13;have y:=R 14;have z:=R 15;have A:=R 16;have B:=R 17;have C:=R 18;have D:=R 19;clear R d f g l a c q h;simp only[sh,wd,lJ,Nat.reduceAdd]at o p⊢;simp only[oB]at t;have E:j=0\/j=1\/j=2\/j=3\/j=4\/j=5\/j=6\/j=7\/j=8\/j=9\/j=10\/j=11\/j=12\/j=13\/j=14\/j=15\/j=16\/j=17\/j=18\/j=19:=a9h
 obtain rfl|rfl|rfl|rfl|rfl|rfl|rfl|rfl|rfl|rfl|rfl|rfl|rfl|rfl|rfl|rfl|rfl|rfl|rfl|rfl:=E
 all_goals
  simp only[Bi,List.getD_cons_zero,List.getD_cons_succ,oB];omega
def a9I{b}(h:f9 b=none):oR (gK b) (eE b)=none/\eF (gK b) (eE b)=b/\∀e∈eE b,0<=e.addr/\e.addr<4294967296:=by
 by_cases g:b=lR
 .have o:gK b=1:=by unfold gK;rw[h,if_neg a9i,if_pos g]
  have p:eE b=[]:=by unfold eE;rw[h,if_neg a9i,if_pos g]
  rw[o,p];exact⟨rfl,g.symm,a9i⟩
 .have o:gK b=2:=by unfold gK;rw[h,if_neg a9i,if_neg g]
  have p:eE b=kW b:=by unfold eE;rw[h,if_neg a9i,if_neg g]
  rw[o,p];unfold f9 at h;split at h
  .simp at h
  .rename_i s;split at h
   .simp at h
   .rename_i q;have q:b.take 4=[2,2,0,0]:=by simpa using q
    have s:24<=b.length/\b.length<=504/\b.length%20=4:=by simp[jR]at s;omega
    obtain⟨N,t⟩:∃N,(b.length - 4) / 20=N:=⟨_,rfl⟩;rw[t]at h;have c:=a3e h;have d:(kW b).length=N:=by unfold kW;rw[t];simp
    have a:∀k,(f:k<(kW b).length)->(kW b)[k]=fw b (4+k*20):=λk f=>by simp[kW]
    refine⟨?_,?_,?_⟩
    .unfold oR;rw[if_neg a9h,if_neg a9h];refine T0 λj n=>?_;rw[a j n];obtain⟨_,w,_,x⟩:=Gw (c j a9h a9h);have r:=oe b (4+j*20+2);have l:kz (sh b (4+j*20+2))=true:=by simp[kz];omega
     show fE ⟨_,_,_,_⟩=0;unfold fE;simp only;rw[if_neg (by rw[w];decide),if_neg (by rw[l];decide),if_neg (by rw[x];decide)]
    .have e:eF 2 (kW b)=[2,2,0,0]++(kW b).flatMap cj:=by unfold eF;rw[if_neg a9j]
     rw[e];refine Po (by rw[iN,xY,d];simp;omega) λi u=>?_;rw[iN,xY,d]at u;simp at u;by_cases v:i<4
     .unfold bt;rw[jt,jt,a9S (by simpa using v),<-q,a9X,if_pos v]
     .obtain⟨k,j,n,rfl⟩:∃k j,j<20/\i=4+k*20+j:=⟨(i - 4) / 20,(i - 4)%20,a9h,a9h⟩;have f:k<(kW b).length:=a9h
      rw[Gm _ k f j n,a k f,S7 (c k a9h a9h) j n]
    .intro e y;obtain⟨k,f,rfl⟩:=ox y;rw[a k f];exact kB b (4+k*20+4)
end Go.Proofs.q
end
