import Derived.Test.YtdnpeefnobjfaaaGreatDoorK19
set_option maxRecDepth 100000
set_option maxHeartbeats 4000000
set_option linter.all false
section
namespace Go.Proofs.q
def ML(x):((byteOf x).toNat:Int)=x%256:=by unfold byteOf;have h0:0<=x%256:=Int.emod_nonneg _ (by decide);have a:x%256<256:=Int.emod_lt_of_pos _ (by decide);rw[UInt8.toNat_ofNat'];omega
theorem Mv(x):be 2 x=[byteOf (x / 256),byteOf x]:=rfl
theorem Mx(x):be 4 x=[byteOf (x / 256 / 256 / 256),byteOf (x / 256 / 256),byteOf (x / 256),byteOf x]:=rfl
def zb(t a m e:Int):List Int:=[0,2,t / 256%256,t%256,a / 256 / 256 / 256%256,a / 256 / 256%256,a / 256%256,a%256,m / 256 / 256 / 256%256,m / 256 / 256%256,m / 256%256,m%256,0,0,0,0,e / 256 / 256 / 256%256,e / 256 / 256%256,e / 256%256,e%256]
def Ek(e j)(b:j<20):bt (cE e) j=(zb e.tag e.addr (4294967296 - 2^(32 - e.len).toNat) e.met).getD j 0:=by
 generalize c:(4294967296 - 2^(32 - e.len).toNat:Int)=m;have d:(cE e).map (λu=>((u.toNat:Nat):Int))=zb e.tag e.addr m e.met:=by unfold cE;rw[c];simp only[Mv,Mx,fy,gP,cA,d7,ML];rfl
 rw[<-d];unfold bt;rw[i4,i4,List.getElem?_map];have a:j<(cE e).length:=by rw[zc];exact b
 simp[lF a]
def Qs{e}(h:dw e=0)(h0:0<=e.addr)(S:e.addr<4294967296):fw (cE e) 0=e/\fD (cE e) 0=0:=by
 obtain⟨s,x,t⟩:=rU h;obtain⟨y,z⟩:=A0 s;have u:=mP (32 - e.len).toNat;have A:=mO (32 - e.len).toNat (by omega);have a:gI (4294967296 - 2^(32 - e.len).toNat)=e.len:=by have:=vY e.len.toNat (by omega);rw[show(32 - e.len).toNat=32 - e.len.toNat by omega,this];omega
 have B:=λj (C:j<20)=>Ek e j C;have c:=s;simp[f7]at x;have D:1<=e.met/\e.met<=16:=by simpa[dZ]using t
 generalize E:(4294967296 - 2^(32 - e.len).toNat:Int)=m at*;have F:bt (cE e) 0=0:=B 0 (by decide);have H:bt (cE e) 1=2:=B 1 (by decide);have I:bt (cE e) 2=e.tag / 256%256:=B 2 (by decide);have J:bt (cE e) 3=e.tag%256:=B 3 (by decide);have K:bt (cE e) 4=e.addr / 256 / 256 / 256%256:=B 4 (by decide);have L:bt (cE e) 5=e.addr / 256 / 256%256:=B 5 (by decide);have M:bt (cE e) 6=e.addr / 256%256:=B 6 (by decide);have N:bt (cE e) 7=e.addr%256:=B 7 (by decide);have O:bt (cE e) 8=m / 256 / 256 / 256%256:=B 8 (by decide);have P:bt (cE e) 9=m / 256 / 256%256:=B 9 (by decide);have d:bt (cE e) 10=m / 256%256:=B 10 (by decide);have f:bt (cE e) 11=m%256:=B 11 (by decide);have g:bt (cE e) 12=0:=B 12 (by decide);have i:bt (cE e) 13=0:=B 13 (by decide);have k:bt (cE e) 14=0:=B 14 (by decide);have l:bt (cE e) 15=0:=B 15 (by decide);have n:bt (cE e) 16=e.met / 256 / 256 / 256%256:=B 16 (by decide);have o:bt (cE e) 17=e.met / 256 / 256%256:=B 17 (by decide);have p:bt (cE e) 18=e.met / 256%256:=B 18 (by decide);have q:bt (cE e) 19=e.met%256:=B 19 (by decide);clear B;have Q:sh (cE e) 0=2:=by simp only[sh,dG,F,H];omega
 have R:sh (cE e) (0+2)=e.tag:=by simp only[sh,dG,Nat.reduceAdd,I,J];omega
 have v:wd (cE e) (0+4)=e.addr:=by simp only[wd,sh,dG,Nat.reduceAdd,K,L,M,N];omega
 have w:wd (cE e) (0+8)=m:=by simp only[wd,sh,dG,Nat.reduceAdd,O,P,d,f];omega
 have r:wd (cE e) (0+12)=0:=by simp only[wd,sh,dG,Nat.reduceAdd,g,i,k,l];omega
 have b:wd (cE e) (0+16)=e.met:=by simp only[wd,sh,dG,Nat.reduceAdd,n,o,p,q];omega
 refine⟨?_,?_⟩
 .unfold fw;rw[v,w,R,b,a]
 .unfold fD;rw[Q,v,w,r,b,a,if_neg (by decide),if_neg (by rw[c];decide),if_neg (by decide),if_neg (by rw[t];decide)]
def Q9(l:List aT)(k)(a:k<l.length)(j)(d:j<20):bt (l.flatMap cE) (k*20+j)=bt (cE l[k]) j:=by
 induction l generalizing k with
 |nil=>simp at a
 |cons e r b=>
  have c:=zc e;cases k with
  |zero=>simp only[jF,a7I,dG,a6r,bt];rw[i4,a6n (by omega),<-i4]
  |succ k=>have h:=b k (by simpa using a);simp only[jF,a7f];rw[<-h];unfold bt;rw[i4,a6g (by omega),<-i4,c];congr 3;omega
def Ei(l:List aT)(k)(a:k<l.length)(j)(b:j<20):bt ([2,2,0,0]++l.flatMap cE) (4+k*20+j)=bt (cE l[k]) j:=by rw[<-Q9 l k a j b];unfold bt;rw[i4,a6g (by simp;omega),<-i4];congr 3;simp;omega
def MJ{b c}(d:b.length=c.length)(h:∀i,i<b.length->bt b i=bt c i):b=c:=a7F d λi a e=>by have:=h i a;simp[bt,i4,a,e]at this;exact UInt8.toNat_inj.1 (by omega)
def a5Z{a l}(h:eJ a l=none)(d:∀e∈l,0<=e.addr/\e.addr<4294967296):gD (dC a l)=none/\gh (dC a l)=a/\eX (dC a l)=l:=by
 unfold eJ at h;split at h
 .simp at h
 .rename_i t;split at h
  .simp at h
  .rename_i n;by_cases u:a=1
   .subst u;obtain rfl:l=[]:=fq (by omega);have c:gD ko=none:=by decide
    have e:dC 1 []=ko:=rfl;rw[e];refine⟨c,?_,?_⟩
    .unfold gh;rw[c,if_neg (by simp),if_pos rfl]
    .unfold eX;rw[c,if_neg (by simp),if_pos rfl]
   .obtain rfl:a=2:=by omega
    have f:=EP h;have e:dC 2 l=[2,2,0,0]++l.flatMap cE:=by unfold dC;rw[if_neg (by decide)]
    have b:(dC 2 l).length=4+20*l.length:=by rw[e,ia,vn];rfl
    have o:∀k,(g:k<l.length)->fw (dC 2 l) (4+k*20)=l[k]/\fD (dC 2 l) (4+k*20)=0:=λk g=>by
     have i:l[k]∈l:=i5 g;obtain⟨v,w⟩:=Qs (f _ i) (d _ i).1 (d _ i).2;have p:∀j,j<20->bt (cE l[k]) j=bt (dC 2 l) (4+k*20+j):=λj r=>by rw[e];exact(Ei l k g j r).symm
     rw[<-I1 p,<-xA p];exact⟨v,w⟩
    have m:dC 2 l≠ko:=λq=>by
     have h0:(dC 2 l).head?=some 2:=by rw[e];rfl
     rw[q]at h0;revert h0;decide
    have s:((dC 2 l).length - 4) / 20=l.length:=by rw[b];omega
    have c:gD (dC 2 l)=none:=by
     unfold gD;have x:jz (dC 2 l).length=true:=by rw[b];simp[jz];omega
     rw[x,if_neg (by simp),if_neg m,if_neg (by rw[e];simp),s];exact Ia (λj _ r=>(o j (by omega)).2)
    refine⟨c,?_,?_⟩
    .unfold gh;rw[c,if_neg (by simp),if_neg m]
    .unfold eX;rw[c,if_neg (by simp),if_neg m];unfold ks;rw[s];refine a7F (by simp) λk t n=>?_;simp only[a7G,a7x];exact(o k n).1
def a0x{b n k}(h:jY b n k=none):∀j,k<=j->j<k+n->fD b (4+j*20)=0:=by
 induction n generalizing k with
 |zero=>intro j a c;omega
 |succ n d=>
  unfold jY at h;split at h
  .rename_i h0;intro j a c;by_cases e:j=k
   .subst e;exact h0
   .exact d h j (by omega) (by omega)
  .simp at h
def Eo{b i}(h:fD b i=0):sh b i=2/\db (wd b (i+4)) (gI (wd b (i+8)))=true/\wd b (i+12)=0/\dZ (wd b (i+16))=true:=by
 unfold fD at h;by_cases a:sh b i=2
 .rw[if_neg (by simpa using a)]at h;cases d:db (wd b (i+4)) (gI (wd b (i+8)))
  .rw[if_pos d]at h;simp at h
  .rw[if_neg (by simp[d])]at h;by_cases c:wd b (i+12)=0
   .rw[if_neg (by simpa using c)]at h;cases e:dZ (wd b (i+16))
    .rw[if_pos e]at h;simp at h
    .exact⟨a,rfl,c,rfl⟩
   .rw[if_pos c]at h;simp at h
 .rw[if_pos a]at h;simp at h
def Qt{b i}(h:fD b i=0)(j)(m:j<20):bt (cE (fw b i)) j=bt b (i+j):=by
 obtain⟨n,c,o,p⟩:=Eo h;rw[Ek _ j m];have a:(4294967296 - 2^(32 - gI (wd b (i+8))).toNat:Int)=wd b (i+8):=by
  obtain⟨k,q,e⟩|r:=FJ (wd b (i+8))
  .rw[e,vY k q,show((32:Int) - k).toNat=32 - k by omega]
  .rw[Ap r]at c;have:=(A0 c).1;omega
 have d:(fw b i).tag=sh b (i+2):=rfl;have f:(fw b i).addr=wd b (i+4):=rfl;have g:(fw b i).met=wd b (i+16):=rfl;have l:(fw b i).len=gI (wd b (i+8)):=rfl;rw[d,f,g,l,a];have R:=λj=>rj b (i+j);have s:=R 0;have E:=R 1;have F:=R 2;have H:=R 3;have I:=R 4;have J:=R 5;have K:=R 6;have L:=R 7;have M:=R 8;have N:=R 9;have t:=R 10;have u:=R 11;have v:=R 12;have w:=R 13;have x:=R 14;have y:=R 15;have z:=R 16;have A:=R 17;have B:=R 18;have C:=R 19;clear R d f g l a c p h;simp only[sh,wd,lG,Nat.reduceAdd]at n o⊢;simp only[m6]at s;have D:j=0\/j=1\/j=2\/j=3\/j=4\/j=5\/j=6\/j=7\/j=8\/j=9\/j=10\/j=11\/j=12\/j=13\/j=14\/j=15\/j=16\/j=17\/j=18\/j=19:=by omega
 obtain rfl|rfl|rfl|rfl|rfl|rfl|rfl|rfl|rfl|rfl|rfl|rfl|rfl|rfl|rfl|rfl|rfl|rfl|rfl|rfl:=D
 all_goals
  simp only[zb,List.getD_cons_zero,List.getD_cons_succ,m6];omega
def a6c{b}(h:gD b=none):eJ (gh b) (eX b)=none/\dC (gh b) (eX b)=b/\∀e∈eX b,0<=e.addr/\e.addr<4294967296:=by
 by_cases g:b=ko
 .have n:gh b=1:=by unfold gh;rw[h,if_neg (by simp),if_pos g]
  have o:eX b=[]:=by unfold eX;rw[h,if_neg (by simp),if_pos g]
  rw[n,o];exact⟨rfl,g.symm,by simp⟩
 .have n:gh b=2:=by unfold gh;rw[h,if_neg (by simp),if_neg g]
  have o:eX b=ks b:=by unfold eX;rw[h,if_neg (by simp),if_neg g]
  rw[n,o];unfold gD at h;split at h
  .simp at h
  .rename_i q;split at h
   .simp at h
   .rename_i p;have p:b.take 4=[2,2,0,0]:=by simpa using p
    have q:24<=b.length/\b.length<=504/\b.length%20=4:=by simp[jz]at q;omega
    obtain⟨N,s⟩:∃N,(b.length - 4) / 20=N:=⟨_,rfl⟩;rw[s]at h;have c:=a0x h;have d:(ks b).length=N:=by unfold ks;rw[s];simp
    have a:∀k,(f:k<(ks b).length)->(ks b)[k]=fw b (4+k*20):=λk f=>by simp[ks]
    refine⟨?_,?_,?_⟩
    .unfold eJ;rw[if_neg (by omega),if_neg (by omega)];refine ES λj m=>?_;rw[a j m];obtain⟨_,v,_,w⟩:=Eo (c j (by omega) (by omega));have r:=mT b (4+j*20+2);have l:f7 (sh b (4+j*20+2))=true:=by simp[f7];omega
     show dw ⟨_,_,_,_⟩=0;unfold dw;simp only;rw[if_neg (by rw[v];decide),if_neg (by rw[l];decide),if_neg (by rw[w];decide)]
    .have e:dC 2 (ks b)=[2,2,0,0]++(ks b).flatMap cE:=by unfold dC;rw[if_neg (by decide)]
     rw[e];refine MJ (by rw[ia,vn,d];simp;omega) λi t=>?_;rw[ia,vn,d]at t;simp at t;by_cases u:i<4
     .unfold bt;rw[i4,i4,a6n (by simpa using u),<-p,a6s,if_pos u]
     .obtain⟨k,j,m,rfl⟩:∃k j,j<20/\i=4+k*20+j:=⟨(i - 4) / 20,(i - 4)%20,by omega,by omega⟩;have f:k<(ks b).length:=by omega
      rw[Ei _ k f j m,a k f,Qt (c k (by omega) (by omega)) j m]
    .intro e x;obtain⟨k,f,rfl⟩:=nV x;rw[a k f];exact j5 b (4+k*20+4)
end Go.Proofs.q
end
