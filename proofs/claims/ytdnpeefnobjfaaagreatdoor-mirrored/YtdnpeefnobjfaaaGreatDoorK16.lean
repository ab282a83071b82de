import Derived.Lib.BitFns
import Derived.Test.YtdnpeefnobjfaaaGreatDoorK15
set_option maxRecDepth 100000
set_option maxHeartbeats 4000000
set_option linter.all false
section
namespace Go.Proofs.q
def bt(b:List UInt8)(i:Nat):Int:=(b.getD i 0).toNat
def sh(b:List UInt8)(i:Nat):Int:=bt b i*256+bt b (i+1)
def wd(b:List UInt8)(i:Nat):Int:=sh b i*65536+sh b (i+2)
def rj(b i):0<=bt b i/\bt b i<256:=by unfold bt;have:=(b.getD i 0).toNat_lt;omega
def mT(b i):0<=sh b i/\sh b i<65536:=by unfold sh;have a:=rj b i;have c:=rj b (i+1);omega
def j5(b i):0<=wd b i/\wd b i<4294967296:=by unfold wd;have a:=mT b i;have c:=mT b (i+2);omega
def qg(m:Int):Nat->Nat->Int
 |0,_=> -1
 |f+1,n=>if m=4294967296 - 2^(32 - n)then n else qg m f (n+1)
def gI(m:Int):Int:=qg m 33 0
def YC{a b}(h:(2:Int)^a=2^b):a=b:=by
 have d:((2:Int)^a)=((2^a:Nat):Int):=by simp
 have e:((2:Int)^b)=((2^b:Nat):Int):=by simp
 rw[d,e]at h;have f:2^a=2^b:=by exact_mod_cast h
 obtain c|c|c:=Nat.lt_trichotomy a b
 .have:=Nat.pow_lt_pow_right (show 1<2 by decide) c;omega
 .exact c
 .have:=Nat.pow_lt_pow_right (show 1<2 by decide) c;omega
def UQ{m}(f n)(h:∀k,n<=k->k<n+f->m≠4294967296 - 2^(32 - k)):qg m f n= -1:=by
 induction f generalizing n with
 |zero=>rfl
 |succ f a=>unfold qg;rw[if_neg (h n (aF _) (by omega)),a (n+1) (λk b c=>h k (by omega) (by omega))]
def UP{m}(f n k)(g:n<=k)(h:k<n+f)(b:m=4294967296 - 2^(32 - k))(a:k<=32):qg m f n=k:=by
 induction f generalizing n with
 |zero=>omega
 |succ f c=>
  unfold qg;by_cases d:n=k
  .subst d;rw[if_pos b]
  .rw[if_neg (λe=>?_),c (n+1) (by omega) (by omega)];have:(2:Int)^(32 - n)=2^(32 - k):=by omega
   have:=YC this;omega
def vY(k:Nat)(a:k<=32):gI (4294967296 - 2^(32 - k))=k:=UP 33 0 k (by omega) (by omega) rfl a
def Ap{m}(h:∀k,k<=32->m≠4294967296 - 2^(32 - k)):gI m= -1:=UQ 33 0 (λk _ a=>h k (by omega))
def FJ(m:Int):(∃k,k<=32/\m=4294967296 - 2^(32 - k))\/∀k,k<=32->m≠4294967296 - 2^(32 - k):=by
 by_cases h:∃k:Nat,k<=32/\m=4294967296 - 2^(32 - k)
 .exact .inl h
 .exact .inr λk a e=>h ⟨k,a,e⟩
def fw(b:List UInt8)(i:Nat):aT:=⟨wd b (i+4),gI (wd b (i+8)),sh b (i+2),wd b (i+16)⟩
def fD(b:List UInt8)(i:Nat):Int:=
 if sh b i≠2 then 5 else if db (wd b (i+4)) (gI (wd b (i+8)))=false then 6 else if wd b (i+12)≠0 then 7 else if dZ (wd b (i+16))=false then 8 else 0
def jY(b:List UInt8):Nat->Nat->Option (Int×Int)
 |0,_=>none
 |n+1,k=>if fD b (4+k*20)=0 then jY b n (k+1)else some (fD b (4+k*20),k)
def Ia{b n k}(h:∀j,k<=j->j<k+n->fD b (4+j*20)=0):jY b n k=none:=by
 induction n generalizing k with
 |zero=>rfl
 |succ n a=>unfold jY;rw[if_pos (h k (aF _) (by omega)),a (λj c d=>h j (by omega) (by omega))]
def a0y{b n k m}(f:k<=m)(g:m<k+n)(h:∀j,k<=j->j<m->fD b (4+j*20)=0)(a:fD b (4+m*20)≠0):jY b n k=some (fD b (4+m*20),(m:Int)):=by
 induction n generalizing k with
 |zero=>omega
 |succ n c=>
  unfold jY;by_cases d:k=m
  .subst d;rw[if_neg a]
  .rw[if_pos (h k (aF _) (by omega)),c (by omega) (by omega) (λj i e=>h j (by omega) e)]
def jz(n:Nat):Bool:=decide (24<=n)&&decide (n<=504)&&decide (n%20=4)
def ks(b:List UInt8):List aT:=(List.range ((b.length - 4) / 20)).map λk=>fw b (4+k*20)
def gD(b:List UInt8):Option (Int×Int):=
 if jz b.length=false then some (3, -1)else if b=ko then none else if b.take 4≠[2,2,0,0]then some (4, -1)else jY b ((b.length - 4) / 20) 0
def gh(b:List UInt8):Int:=if (gD b).isSome then 0 else if b=ko then 1 else 2
def eX(b:List UInt8):List aT:=if (gD b).isSome then []else if b=ko then []else ks b
end Go.Proofs.q
end
section
namespace Go.Proofs.q
open Go.RowKit
def Cs(s:ByteArray)(i)(h:i<s.size):((s[i]).toNat:Int)=bt s.data.toList i:=by have a:i<s.data.size:=h;have e:s[i]=s.data[i]:=rfl;rw[e];simp only[bt,i4,a8a];rw[eF a];rfl
def vU(n:Nat)(w)(d:n<=9223372036854775807):Calls Gh.prog.{0} 86 #[.int .i64 n] w λe c=>e=.returned (.bool (jz n))/\c=w:=by
 by_cases a:24<=n
 .by_cases b:n<=504
  .go_enter Gh.func86,Tryz.ntmps86;go_wp2;go_ret;exact⟨fo (by simp only[jz,a,b,decide_true,a8d];rw[ma];simp;omega),rfl⟩
  .go_enter Gh.func86,Tryz.ntmps86;go_wp2;go_ret;exact⟨fo (by simp[jz,b]),rfl⟩
 .go_enter Gh.func86,Tryz.ntmps86;go_wp2;go_ret;exact⟨fo (by simp[jz,a]),rfl⟩
def GZ(i a b)(h0:0<=a)(c:a%2^i=0)(d:0<=b)(e:b<2^i):((a.toNat|||b.toNat:Nat):Int)=a+b:=by obtain⟨x,rfl⟩:=a6B h0;obtain⟨y,rfl⟩:=a6B d;rw[a7c,a7c,nat_join i x y (by exact_mod_cast c) (by exact_mod_cast e)];simp
def BD(s)(i:Nat)(w)(h:i+1<s.size)(b:s.size<=9223372036854775807):Calls Gh.prog.{0} 177 #[.string s,.int .i64 i] w λe a=>e=.returned (.int .u16 (sh s.data.toList i))/\∃nq,a=w.drewN nq:=by
 have c:=Cs s i (by omega);have d:=Cs s (i+1) (by omega);have f:=rj s.data.toList i;have g:=rj s.data.toList (i+1);have j:(0:Int)<=(i:Int):=by omega
 have k:(i:Int)<(s.size:Int):=by omega
 have l:(i:Int)+1<(s.size:Int):=by omega
 go_enter Gh.func177,Tryz.ntmps177;go_wp2_with fail;go_quiet (fail);go_wp2;go_ret;refine⟨kD ?_,_,rfl⟩;rw[u16_or _ _ (by omega) (by omega) (by omega) (by omega),GZ 8 _ _ (by omega) (by omega) (by omega) (by omega)];rfl
def a3G(s)(i:Nat)(w)(h:i+3<s.size)(a:s.size<=9223372036854775807):Calls Gh.prog.{0} 179 #[.string s,.int .i64 i] w λe b=>e=.returned (.int .u32 (wd s.data.toList i))/\∃nq,b=w.drewN nq:=by
 have c:=mT s.data.toList i;have d:=mT s.data.toList (i+2);go_enter Gh.func179,Tryz.ntmps179;go_wp2_with fail;refine(BD s i _ (by omega) a).mono ?_;rintro e f ⟨rfl,g,rfl⟩;go_wp2_with fail;rw[show((i:Int)+2)=((i+2:Nat):Int)by omega];refine(BD s (i+2) _ (by omega) a).mono ?_;rintro e j ⟨rfl,k,rfl⟩;go_wp2_with fail;go_ret;refine⟨kD ?_,?_⟩
 .rw[u32_or _ _ (by omega) (by omega) (by omega) (by omega),GZ 16 _ _ (by omega) (by omega) (by omega) (by omega)];rfl
 .exact⟨_,rfl⟩
def a5G(m w)(p:0<=m)(r:m<4294967296):Calls Gh.prog.{0} 214 #[.int .i64 m] w λe c=>e=.returned (.int .i64 (gI m))/\c=w:=by
 go_enter Gh.func214,Tryz.ntmps214;go_wp2
 go_loop [3] (λj=> ∃k:Nat,k<=33/\j=.int .i64 k/\∀q:Nat,q<k->m≠4294967296 - 2^(32 - q)) (λj=>33 - (intOf j).toNat)
 case atStart=>exact⟨0,by omega,rfl,λq d=>by omega⟩
 case round=>
  obtain⟨k,v,rfl,d⟩:=hrel;have i:=am d;clear d;by_cases f:k<=32
  .have s:=mP (32 - k);have t:=mO (32 - k) (by omega);have a:∀W,Calls Gh.prog.{0} 159 #[.int .i64 k] W λe c=>e=.returned (.int .i64 (2^(32 - k)))/\c=W:=λW=>by
    have:=MH.{0} (k:Int) W (by omega) (by omega)
    rwa [show((32:Int) - k).toNat=32 - k by omega]at this
   generalize l:(2:Int)^(32 - k)=K at*;have n:=am l;have o:=am a;clear l a;by_cases b:m=4294967296 - K
   .have u:(m==4294967296 - K)=true:=by simp[b]
    have g:=am b;clear b;go_wp2_with (go_at_call 159;refine(ai o _).mono ?_;rintro e c ⟨rfl,rfl⟩);go_ret;exact⟨kD (by rw[ai g,<-ai n,vY k f]),rfl⟩
   .have u:(m==4294967296 - K)=false:=by simp[b]
    have g:=am b;clear b;go_wp2_with (go_at_call 159;refine(ai o _).mono ?_;rintro e c ⟨rfl,rfl⟩)
    go_round
    case rel=>
     refine⟨k+1,by omega,by go_num,λq d=>?_⟩;by_cases h:q=k
     .subst h;rw[ai n];exact ai g
     .exact ai i q (by omega)
    case measure=>simp[intOf];omega
  .go_wp2;go_ret;exact⟨kD (by rw[Ap (λq d=>ai i q (by omega))]),rfl⟩
def Ug(x w)(h0:0<=x)(a:x<=255):Calls Gh.prog.{0} 223 #[.int .u32 x] w λe b=>e=.returned (.int .i64 (Lib.bitLen x.toNat))/\b=w:=by have l:=Lib.bitLen_le8' x h0 a;have c:=Lib.len8_of x h0 a;go_enter Gh.func223,Tryz.ntmps223;go_wp2;go_ret;exact⟨rfl,rfl⟩
def Ui(x w)(h0:256<=x)(d:x<65536):Calls Gh.prog.{0} 223 #[.int .u32 x] w λe c=>e=.returned (.int .i64 (Lib.bitLen x.toNat))/\c=w:=by
 have a:0<=x / 256:=by omega
 have b:x / 256<=255:=by omega
 have l:=Lib.bitLen_le8' (x / 256) a b;have f:=Lib.len8_of (x / 256) a b;go_enter Gh.func223,Tryz.ntmps223;go_wp2;go_ret;exact⟨kD (by
  have e:(x / 256).toNat=x.toNat / 256:=by omega
  have s:=Lib.bitLen_shift8 x.toNat (by omega) (by omega);rw[e];omega),rfl⟩
def Uj(x w)(h0:65536<=x)(d:x<16777216):Calls Gh.prog.{0} 223 #[.int .u32 x] w λe c=>e=.returned (.int .i64 (Lib.bitLen x.toNat))/\c=w:=by
 have a:0<=x / 65536:=by omega
 have b:x / 65536<=255:=by omega
 have l:=Lib.bitLen_le8' (x / 65536) a b;have f:=Lib.len8_of (x / 65536) a b;go_enter Gh.func223,Tryz.ntmps223;go_wp2;go_ret;exact⟨kD (by
  have e:(x / 65536).toNat=x.toNat / 65536:=by omega
  have s:=Lib.bitLen_shift16 x.toNat (by omega) (by omega);rw[e];omega),rfl⟩
def Uk(x w)(h0:16777216<=x)(d:x<=4294967295):Calls Gh.prog.{0} 223 #[.int .u32 x] w λe c=>e=.returned (.int .i64 (Lib.bitLen x.toNat))/\c=w:=by
 have a:0<=x / 65536 / 256:=by omega
 have b:x / 65536 / 256<=255:=by omega
 have l:=Lib.bitLen_le8' (x / 65536 / 256) a b;have f:=Lib.len8_of (x / 65536 / 256) a b;go_enter Gh.func223,Tryz.ntmps223;go_wp2;go_ret;exact⟨kD (by
  have e:(x / 65536 / 256).toNat=x.toNat / 16777216:=by omega
  have s:=Lib.bitLen_shift24 x.toNat (by omega) (by omega);rw[e];omega),rfl⟩
def Uh(x w)(h0:0<=x)(a:x<=4294967295):Calls Gh.prog.{0} 223 #[.int .u32 x] w λe b=>e=.returned (.int .i64 (Lib.bitLen x.toNat))/\b=w:=by
 by_cases c:x<=255
 .exact Ug x w h0 c
 .by_cases d:x<65536
  .exact Ui x w (by omega) d
  .by_cases f:x<16777216
   .exact Uj x w (by omega) f
   .exact Uk x w (by omega) a
def lz(x:Int):Int:=32 - (Lib.bitLen x.toNat:Int)
def UI(x)(a:x<=4294967295):0<=lz x/\lz x<=32:=by have:=Lib.bitLen_le x.toNat 32 (by omega) (by omega);unfold lz;omega
def MF:∀j:Fin 33,Lib.bitLen (2^j.val - 1)=j.val:=by decide+kernel
def UH(k:Nat)(b:k<=32):lz (2^(32 - k) - 1)=k:=by
 have h:=MF ⟨32 - k,by omega⟩;have e:((2:Int)^(32 - k) - 1).toNat=2^(32 - k) - 1:=by
  have a:((2:Int)^(32 - k))=((2^(32 - k):Nat):Int):=by simp
  rw[a];omega
 unfold lz;rw[e,h];simp only;omega
def FH(x w)(h0:0<=x)(b:x<=4294967295):Calls Gh.prog.{0} 225 #[.int .u32 x] w λe a=>e=.returned (.int .i64 (lz x))/\a=w:=by have l:=Lib.bitLen_le x.toNat 32 (by omega) (by omega);go_enter Gh.func225,Tryz.ntmps225;go_wp2_with (go_at_call 223;refine(Uh _ _ h0 b).mono ?_;rintro e a ⟨rfl,rfl⟩);go_ret;exact⟨rfl,rfl⟩
def Vb(x)(h:x<2^32):(2^32 - 1)^^^x=2^32 - (x+1):=by
 apply Nat.eq_of_testBit_eq;intro i;rw[Nat.testBit_xor,a7y,Nat.testBit_two_pow_sub_succ h];by_cases a:i<32
 .simp[a]
 .have:x.testBit i=false:=a7N (cG h (a7q (by decide) (by omega)));simp[a,this]
def GG(m)(h0:0<=m)(a:m<4294967296):bits .xor .u32 IntKind.u32.max m=4294967295 - m:=by rw[show IntKind.u32.max=4294967295 from rfl,u32_xor _ _ (by decide) (by decide) h0 a];have:=Vb m.toNat (by omega);rw[show(4294967295:Int).toNat=2^32 - 1 from rfl,this];omega
def Ln(a)(k:Nat)(w b)(m:db a k=b)(h0:0<=a)(r:a<4294967296)(s:k<=32):Calls Gh.prog.{0} 178 #[.int .u32 a,.int .u32 (4294967296 - 2^(32 - k))] w λe w'=>e=.returned (.tuple #[if b then .agg #[.int .u32 a,.int .i64 k]else .agg #[.int .u32 0,.int .i64 0],.bool b])/\Below w.heap.size w w':=by
 have t:=mP (32 - k);have u:=mO (32 - k) (by omega);have g:=UH k s;have h:∀W,Calls Gh.prog.{0} 127 #[.agg #[.int .u32 a,.int .i64 k]] W λe w'=>e=.returned (.int .u32 (4294967296 - 2^(32 - k)))/\w'=W.alloc (.cells #[.int .u32 a,.int .i64 k] 32):=λW=>by
  have:=sG.{0} a k W (by omega) (by omega)
  rwa [show((32:Int) - k).toNat=32 - k by omega]at this
 generalize x:(2:Int)^(32 - k)=K at*;have i:=GG (4294967296 - K) (by omega) (by omega);rw[show(4294967295:Int) - (4294967296 - K)=K - 1 by omega]at i;have c:∀W,Calls Gh.prog.{0} 225 #[.int .u32 (K - 1)] W λe w'=>e=.returned (.int .i64 k)/\w'=W:=λW=>by
  have:=FH (K - 1) W (by omega) (by omega)
  rwa [g]at this
 have c:=am c;have n:=am h;have y:IntKind.u32.signed=false:=rfl;have z:((4294967296 - K:Int) !=4294967296 - K)=false:=by simp
 have C:=am m;have d:∀W,Calls Gh.prog.{0} 77 #[.agg #[.int .u32 a,.int .i64 k]] W λe w'=>e=.returned (.bool b)/\Below W.heap.size W w':=λW=>by
  have:=nY.{0} a k W h0 r
  rwa [m]at this
 have d:=am d;clear x g h m;go_enter Gh.func178,Tryz.ntmps178;go_wp2_with fail;refine(ai c _).mono ?_;rintro e D ⟨rfl,rfl⟩;go_wp2_with fail;refine(ai n _).mono ?_;rintro e E ⟨rfl,rfl⟩;go_wp2_with fail;refine(ai d _).mono ?_;rintro e w3 ⟨rfl,f⟩;obtain⟨j,A⟩:=uj f;have B:w.heap.size+2<w3.heap.size:=by have:=f.size;simp at this;omega
 have l:Below w.heap.size w w3:=jK (jK (jK f));have o:w3.cell? ⟨w.heap.size,0,none⟩=some (.int .u32 0):=(j w.heap.size 0 (by simp;omega)).trans (((bH _ _).cell (p:=⟨w.heap.size,0,none⟩) (by simp;omega)).trans (by simp));have q:w3.cell? ⟨w.heap.size,1,none⟩=some (.int .i64 0):=(j w.heap.size 1 (by simp;omega)).trans (((bH _ _).cell (p:=⟨w.heap.size,1,none⟩) (by simp;omega)).trans (by simp));cases b
 .go_wp2;exact bodyPost_ret (v:=.tuple #[.agg #[.int .u32 0,.int .i64 0],.bool false]) (by simp[results,Tryz.results178,go_sem,o,q]) rfl ⟨rfl,(l.setCell (by simp) _).setCell (by simp) _⟩
 .go_wp2;exact bodyPost_ret (v:=.tuple #[.agg #[.int .u32 a,.int .i64 k],.bool true]) (by simp[results,Tryz.results178,go_sem,o,q]) rfl ⟨rfl,(l.setCell (by simp) _).setCell (by simp) _⟩
def Lo(a m w)(b:0<=m)(c:m<4294967296)(f:∀k,k<=32->m≠4294967296 - 2^(32 - k)):Calls Gh.prog.{0} 178 #[.int .u32 a,.int .u32 m] w λe w'=>e=.returned (.tuple #[.agg #[.int .u32 0,.int .i64 0],.bool false])/\Below w.heap.size w w':=by
 have g:=GG m b c;obtain⟨h,i⟩:=UI (4294967295 - m) (by omega);have d:=am (λW=>FH (4294967295 - m) W (by omega) (by omega));generalize lz (4294967295 - m)=l at*;have j:((4294967296 - 2^(32 - l).toNat:Int) !=m)=true:=by rw[bne_iff_ne];intro e;exact f l.toNat (by omega) (by rw[<-e,show(32 - l).toNat=32 - l.toNat by omega])
 have n:IntKind.u32.signed=false:=rfl;clear f;go_enter Gh.func178,Tryz.ntmps178;go_wp2_with fail;refine(ai d _).mono ?_;rintro e o ⟨rfl,rfl⟩;go_wp2_with fail;refine(sG a l _ h i).mono ?_;rintro e p ⟨rfl,rfl⟩;go_wp2;exact bodyPost_ret (v:=.tuple #[.agg #[.int .u32 0,.int .i64 0],.bool false]) (by simp[results,Tryz.results178,go_sem]) rfl ⟨rfl,((bH _ _).trans ((bH _ _).mono (by simp))).trans ((bH _ _).mono (by simp;omega))⟩
def tX(a m b w)(d:0<=a)(f:a<4294967296)(g:0<=m)(h:m<4294967296)(c:db a (gI m)=b):Calls Gh.prog.{0} 178 #[.int .u32 a,.int .u32 m] w λe w'=>e=.returned (.tuple #[if b then .agg #[.int .u32 a,.int .i64 (gI m)]else .agg #[.int .u32 0,.int .i64 0],.bool b])/\Below w.heap.size w w':=by
 obtain⟨k,i,rfl⟩|j:=FJ m
 .rw[vY k i]at c⊢;exact Ln a k w b c d f i
 .rw[Ap j]at c⊢;obtain rfl:b=false:=by rw[<-c];exact Hl (by decide)
  exact Lo a m w g h j
end Go.Proofs.q
end
