import Derived.Lib.BitFns
import Derived.Test.YtdnpeefnobjfaaaGreatDoorK10
set_option maxRecDepth 100000
set_option maxHeartbeats 4000000
set_option linter.all false
section
namespace Go.Proofs.q
def bt(b:List UInt8)(i:Nat):Int:=(b.getD i 0).toNat
def sh(b:List UInt8)(i:Nat):Int:=bt b i*256+bt b (i+1)
def wd(b:List UInt8)(i:Nat):Int:=sh b i*65536+sh b (i+2)
def uh(b i):0<=bt b i/\bt b i<256:=by unfold bt;have:=(b.getD i 0).toNat_lt;omega
def oe(b i):0<=sh b i/\sh b i<65536:=by unfold sh;have a:=uh b i;have c:=uh b (i+1);omega
def kB(b i):0<=wd b i/\wd b i<4294967296:=by unfold wd;have a:=oe b i;have c:=oe b (i+2);omega
def sN(m:Int):Nat->Nat->Int
 |0,_=> -1
 |f+1,n=>if m=4294967296 - 2^(32 - n)then n else sN m f (n+1)
def gN(m:Int):Int:=sN m 33 0
def a0I{a b}(h:(2:Int)^a=2^b):a=b:=by
 have d:((2:Int)^a)=((2^a:Nat):Int):=a9i
 have e:((2:Int)^b)=((2^b:Nat):Int):=a9i
 rw[d,e]at h;have f:2^a=2^b:=by exact_mod_cast h
 obtain c|c|c:=b1j a b
 .have:=Nat.pow_lt_pow_right (show 1<2 by decide) c;omega
 .exact c
 .have:=Nat.pow_lt_pow_right (show 1<2 by decide) c;omega
def XK{m}(f n)(h:∀k,n<=k->k<n+f->m≠4294967296 - 2^(32 - k)):sN m f n= -1:=by
 induction f generalizing n with
 |zero=>rfl
 |succ f a=>unfold sN;rw[if_neg (h n (az _) a9h),a (n+1) (λk b c=>h k a9h a9h)]
def XJ{m}(f n k)(g:n<=k)(h:k<n+f)(b:m=4294967296 - 2^(32 - k))(a:k<=32):sN m f n=k:=by
 induction f generalizing n with
 |zero=>omega
 |succ f c=>
  unfold sN;by_cases d:n=k
  .subst d;rw[if_pos b]
  .rw[if_neg (λe=>?_),c (n+1) a9h a9h];have:(2:Int)^(32 - n)=2^(32 - k):=a9h
   have:=a0I this;omega
def yB(k:Nat)(a:k<=32):gN (4294967296 - 2^(32 - k))=k:=XJ 33 0 k a9h a9h rfl a
def Cn{m}(h:∀k,k<=32->m≠4294967296 - 2^(32 - k)):gN m= -1:=XK 33 0 (λk _ a=>h k a9h)
def Is(m:Int):(∃k,k<=32/\m=4294967296 - 2^(32 - k))\/∀k,k<=32->m≠4294967296 - 2^(32 - k):=by
 by_cases h:∃k:Nat,k<=32/\m=4294967296 - 2^(32 - k)
 .exact .inl h
 .exact .inr λk a e=>h ⟨k,a,e⟩
def fw(b:List UInt8)(i:Nat):cR:=⟨wd b (i+4),gN (wd b (i+8)),sh b (i+2),wd b (i+16)⟩
def fF(b:List UInt8)(i:Nat):Int:=
 if sh b i≠2 then 5 else if dn (wd b (i+4)) (gN (wd b (i+8)))=false then 6 else if wd b (i+12)≠0 then 7 else if fH (wd b (i+16))=false then 8 else 0
def kv(b:List UInt8):Nat->Nat->Option (Int×Int)
 |0,_=>none
 |n+1,k=>if fF b (4+k*20)=0 then kv b n (k+1)else some (fF b (4+k*20),k)
def Kq{b n k}(h:∀j,k<=j->j<k+n->fF b (4+j*20)=0):kv b n k=none:=by
 induction n generalizing k with
 |zero=>rfl
 |succ n a=>unfold kv;rw[if_pos (h k (az _) a9h),a (λj c d=>h j a9h a9h)]
def a3f{b n k m}(f:k<=m)(g:m<k+n)(h:∀j,k<=j->j<m->fF b (4+j*20)=0)(a:fF b (4+m*20)≠0):kv b n k=some (fF b (4+m*20),(m:Int)):=by
 induction n generalizing k with
 |zero=>omega
 |succ n c=>
  unfold kv;by_cases d:k=m
  .subst d;rw[if_neg a]
  .rw[if_pos (h k (az _) a9h),c a9h a9h (λj i e=>h j a9h e)]
def jR(n:Nat):Bool:=decide (24<=n)&&decide (n<=504)&&decide (n%20=4)
def kW(b:List UInt8):List cR:=(List.range ((b.length - 4) / 20)).map λk=>fw b (4+k*20)
def f9(b:List UInt8):Option (Int×Int):=
 if jR b.length=false then some (3, -1)else if b=lR then none else if b.take 4≠[2,2,0,0]then some (4, -1)else kv b ((b.length - 4) / 20) 0
def gK(b:List UInt8):Int:=if (f9 b).isSome then 0 else if b=lR then 1 else 2
def eE(b:List UInt8):List cR:=if (f9 b).isSome then []else if b=lR then []else kW b
end Go.Proofs.q
end
section
namespace Go.Proofs.q
open Go.RowKit
def EJ(s:ByteArray)(i)(h:i<s.size):((s[i]).toNat:Int)=bt s.data.toList i:=by have a:i<s.data.size:=h;have e:s[i]=s.data[i]:=rfl;rw[e];simp only[bt,jt,Array.getElem?_toList];rw[eY a];rfl
def yy(n:Nat)(w)(d:n<=9223372036854775807):Calls Gh.prog.{0} 86 #[.int .i64 n] w λe c=>e=.returned (.bool (jR n))/\c=w:=by
 by_cases a:24<=n
 .by_cases b:n<=504
  .go_enter Gh.func86,Tryz.ntmps86;go_wp2;go_ret;exact⟨fL (by simp only[jR,a,b,decide_true,b1h];rw[m9];simp;omega),rfl⟩
  .go_enter Gh.func86,Tryz.ntmps86;go_wp2;go_ret;exact⟨fL (by simp[jR,b]),rfl⟩
 .go_enter Gh.func86,Tryz.ntmps86;go_wp2;go_ret;exact⟨fL (by simp[jR,a]),rfl⟩
def Jm(i a b)(h0:0<=a)(c:a%2^i=0)(d:0<=b)(e:b<2^i):((a.toNat|||b.toNat:Nat):Int)=a+b:=by obtain⟨x,rfl⟩:=b0f h0;obtain⟨y,rfl⟩:=b0f d;rw[b0n,b0n,nat_join i x y (by exact_mod_cast c) (by exact_mod_cast e)];simp
def DD(s)(i:Nat)(w)(h:i+1<s.size)(b:s.size<=9223372036854775807):Calls Gh.prog.{0} 177 #[.string s,.int .i64 i] w λe a=>e=.returned (.int .u16 (sh s.data.toList i))/\∃nq,a=w.drewN nq:=by
 have c:=EJ s i a9h;have d:=EJ s (i+1) a9h;have f:=uh s.data.toList i;have g:=uh s.data.toList (i+1);have j:(0:Int)<=(i:Int):=a9h
 have k:(i:Int)<(s.size:Int):=a9h
 have l:(i:Int)+1<(s.size:Int):=a9h
 go_enter Gh.func177,Tryz.ntmps177;go_wp2_with fail;go_quiet (fail);go_wp2;go_ret;refine⟨jM ?_,_,rfl⟩;rw[u16_or _ _ a9h a9h a9h a9h,Jm 8 _ _ a9h a9h a9h a9h];rfl
def a6q(s)(i:Nat)(w)(h:i+3<s.size)(a:s.size<=9223372036854775807):Calls Gh.prog.{0} 179 #[.string s,.int .i64 i] w λe b=>e=.returned (.int .u32 (wd s.data.toList i))/\∃nq,b=w.drewN nq:=by
 have c:=oe s.data.toList i;have d:=oe s.data.toList (i+2);go_enter Gh.func179,Tryz.ntmps179;go_wp2_with fail;refine(DD s i _ a9h a).mono ?_;rintro e f ⟨rfl,g,rfl⟩;go_wp2_with fail;rw[show((i:Int)+2)=((i+2:Nat):Int)by omega];refine(DD s (i+2) _ a9h a).mono ?_;rintro e j ⟨rfl,k,rfl⟩;go_wp2_with fail;go_ret;refine⟨jM ?_,?_⟩
 .rw[u32_or _ _ a9h a9h a9h a9h,Jm 16 _ _ a9h a9h a9h a9h];rfl
 .exact⟨_,rfl⟩
def a8i(m w)(p:0<=m)(r:m<4294967296):Calls Gh.prog.{0} 214 #[.int .i64 m] w λe c=>e=.returned (.int .i64 (gN m))/\c=w:=by
 go_enter Gh.func214,Tryz.ntmps214;go_wp2
 go_loop [3] (λj=> ∃k:Nat,k<=33/\j=.int .i64 k/\∀q:Nat,q<k->m≠4294967296 - 2^(32 - q)) (λj=>33 - (intOf j).toNat)
 case atStart=>exact⟨0,a9h,rfl,λq d=>a9h⟩
 case round=>
  obtain⟨k,v,rfl,d⟩:=hrel;have i:=ak d;clear d;by_cases f:k<=32
  .have s:=nZ (32 - k);have t:=nY (32 - k) a9h;have a:∀W,Calls Gh.prog.{0} 159 #[.int .i64 k] W λe c=>e=.returned (.int .i64 (2^(32 - k)))/\c=W:=λW=>by
    have:=Pm.{0} (k:Int) W a9h a9h
    rwa [show((32:Int) - k).toNat=32 - k by omega]at this
   generalize l:(2:Int)^(32 - k)=K at*;have n:=ak l;have o:=ak a;clear l a;by_cases b:m=4294967296 - K
   .have u:(m==4294967296 - K)=true:=by simp[b]
    have g:=ak b;clear b;go_wp2_with (go_at_call 159;refine(af o _).mono ?_;rintro e c ⟨rfl,rfl⟩);go_ret;exact⟨jM (by rw[af g,<-af n,yB k f]),rfl⟩
   .have u:(m==4294967296 - K)=false:=by simp[b]
    have g:=ak b;clear b;go_wp2_with (go_at_call 159;refine(af o _).mono ?_;rintro e c ⟨rfl,rfl⟩)
    go_round
    case rel=>
     refine⟨k+1,a9h,by go_num,λq d=>?_⟩;by_cases h:q=k
     .subst h;rw[af n];exact af g
     .exact af i q a9h
    case measure=>simp[intOf];omega
  .go_wp2;go_ret;exact⟨jM (by rw[Cn (λq d=>af i q a9h)]),rfl⟩
def WV(x w)(h0:0<=x)(a:x<=255):Calls Gh.prog.{0} 223 #[.int .u32 x] w λe b=>e=.returned (.int .i64 (Lib.bitLen x.toNat))/\b=w:=by have l:=Lib.bitLen_le8' x h0 a;have c:=Lib.len8_of x h0 a;go_enter Gh.func223,Tryz.ntmps223;go_wp2;go_ret;exact⟨rfl,rfl⟩
def WX(x w)(h0:256<=x)(d:x<65536):Calls Gh.prog.{0} 223 #[.int .u32 x] w λe c=>e=.returned (.int .i64 (Lib.bitLen x.toNat))/\c=w:=by
 have a:0<=x / 256:=a9h
 have b:x / 256<=255:=a9h
 have l:=Lib.bitLen_le8' (x / 256) a b;have f:=Lib.len8_of (x / 256) a b;go_enter Gh.func223,Tryz.ntmps223;go_wp2;go_ret;exact⟨jM (by
  have e:(x / 256).toNat=x.toNat / 256:=a9h
  have s:=Lib.bitLen_shift8 x.toNat a9h a9h;rw[e];omega),rfl⟩
def WY(x w)(h0:65536<=x)(d:x<16777216):Calls Gh.prog.{0} 223 #[.int .u32 x] w λe c=>e=.returned (.int .i64 (Lib.bitLen x.toNat))/\c=w:=by
 have a:0<=x / 65536:=a9h
 have b:x / 65536<=255:=a9h
 have l:=Lib.bitLen_le8' (x / 65536) a b;have f:=Lib.len8_of (x / 65536) a b;go_enter Gh.func223,Tryz.ntmps223;go_wp2;go_ret;exact⟨jM (by
  have e:(x / 65536).toNat=x.toNat / 65536:=a9h
  have s:=Lib.bitLen_shift16 x.toNat a9h a9h;rw[e];omega),rfl⟩
def WZ(x w)(h0:16777216<=x)(d:x<=4294967295):Calls Gh.prog.{0} 223 #[.int .u32 x] w λe c=>e=.returned (.int .i64 (Lib.bitLen x.toNat))/\c=w:=by
 have a:0<=x / 65536 / 256:=a9h
 have b:x / 65536 / 256<=255:=a9h
 have l:=Lib.bitLen_le8' (x / 65536 / 256) a b;have f:=Lib.len8_of (x / 65536 / 256) a b;go_enter Gh.func223,Tryz.ntmps223;go_wp2;go_ret;exact⟨jM (by
  have e:(x / 65536 / 256).toNat=x.toNat / 16777216:=a9h
  have s:=Lib.bitLen_shift24 x.toNat a9h a9h;rw[e];omega),rfl⟩
def WW(x w)(h0:0<=x)(a:x<=4294967295):Calls Gh.prog.{0} 223 #[.int .u32 x] w λe b=>e=.returned (.int .i64 (Lib.bitLen x.toNat))/\b=w:=by
 by_cases c:x<=255
 .exact WV x w h0 c
 .by_cases d:x<65536
  .exact WX x w a9h d
  .by_cases f:x<16777216
   .exact WY x w a9h f
   .exact WZ x w a9h a
def lz(x:Int):Int:=32 - (Lib.bitLen x.toNat:Int)
def XA(x)(a:x<=4294967295):0<=lz x/\lz x<=32:=by have:=Lib.bitLen_le x.toNat 32 a9h a9h;unfold lz;omega
def Pk:∀j:Fin 33,Lib.bitLen (2^j.val - 1)=j.val:=by decide+kernel
def Xz(k:Nat)(b:k<=32):lz (2^(32 - k) - 1)=k:=by
 have h:=Pk ⟨32 - k,a9h⟩;have e:((2:Int)^(32 - k) - 1).toNat=2^(32 - k) - 1:=by
  have a:((2:Int)^(32 - k))=((2^(32 - k):Nat):Int):=a9i
  rw[a];omega
 unfold lz;rw[e,h];simp only;omega
def Il(x w)(h0:0<=x)(b:x<=4294967295):Calls Gh.prog.{0} 225 #[.int .u32 x] w λe a=>e=.returned (.int .i64 (lz x))/\a=w:=by have l:=Lib.bitLen_le x.toNat 32 a9h a9h;go_enter Gh.func225,Tryz.ntmps225;go_wp2_with (go_at_call 223;refine(WW _ _ h0 b).mono ?_;rintro e a ⟨rfl,rfl⟩);go_ret;exact⟨rfl,rfl⟩
def X4(x)(h:x<2^32):(2^32 - 1)^^^x=2^32 - (x+1):=by
 apply Nat.eq_of_testBit_eq;intro i;rw[Nat.testBit_xor,b1e,Nat.testBit_two_pow_sub_succ h];by_cases a:i<32
 .simp[a]
 .have:x.testBit i=false:=b1x (bL h (b0U a9j a9h));simp[a,this]
def I3(m)(h0:0<=m)(a:m<4294967296):bits .xor .u32 IntKind.u32.max m=4294967295 - m:=by rw[show IntKind.u32.max=4294967295 from rfl,u32_xor _ _ a9j a9j h0 a];have:=X4 m.toNat a9h;rw[show(4294967295:Int).toNat=2^32 - 1 from rfl,this];omega
def NQ(a)(k:Nat)(w b)(n:dn a k=b)(h0:0<=a)(s:a<4294967296)(t:k<=32):Calls Gh.prog.{0} 178 #[.int .u32 a,.int .u32 (4294967296 - 2^(32 - k))] w λe w'=>e=.returned (.tuple #[if b then .agg #[.int .u32 a,.int .i64 k]else .agg #[.int .u32 0,.int .i64 0],.bool b])/\Below w.heap.size w w':=by
 have u:=nZ (32 - k);have x:=nY (32 - k) a9h;have g:=Xz k t;have h:∀W,Calls Gh.prog.{0} 127 #[.agg #[.int .u32 a,.int .i64 k]] W λe w'=>e=.returned (.int .u32 (4294967296 - 2^(32 - k)))/\w'=W.alloc (.cells #[.int .u32 a,.int .i64 k] 32):=λW=>by
  have:=vw.{0} a k W a9h a9h
  rwa [show((32:Int) - k).toNat=32 - k by omega]at this
 generalize y:(2:Int)^(32 - k)=K at*;have i:=I3 (4294967296 - K) a9h a9h;rw[show(4294967295:Int) - (4294967296 - K)=K - 1 by omega]at i;have c:∀W,Calls Gh.prog.{0} 225 #[.int .u32 (K - 1)] W λe w'=>e=.returned (.int .i64 k)/\w'=W:=λW=>by
  have:=Il (K - 1) W a9h a9h
  rwa [g]at this
 have c:=ak c;have o:=ak h;have z:IntKind.u32.signed=false:=rfl;have A:((4294967296 - K:Int) !=4294967296 - K)=false:=a9i
 have D:=ak n;have d:∀W,Calls Gh.prog.{0} 77 #[.agg #[.int .u32 a,.int .i64 k]] W λe w'=>e=.returned (.bool b)/\Below W.heap.size W w':=λW=>by
  have:=An.{0} a k W h0 s
  rwa [n]at this
 have d:=ak d;clear y g h n;go_enter Gh.func178,Tryz.ntmps178;go_wp2_with fail;refine(af c _).mono ?_;rintro e E ⟨rfl,rfl⟩;go_wp2_with fail;refine(af o _).mono ?_;rintro e F ⟨rfl,rfl⟩;go_wp2_with fail;refine(af d _).mono ?_;rintro e w3 ⟨rfl,f⟩;obtain⟨j,B⟩:=O3 f;have C:w.heap.size+2<w3.heap.size:=by have:=f.size;simp at this;omega
 have l:Below w.heap.size w w3:=uf (uf (uf f));have q:w3.cell? ⟨w.heap.size,0,none⟩=some (.int .u32 0):=(j w.heap.size 0 a9l).trans (((bZ _ _).cell (p:=⟨w.heap.size,0,none⟩) a9l).trans a9i);have r:w3.cell? ⟨w.heap.size,1,none⟩=some (.int .i64 0):=(j w.heap.size 1 a9l).trans (((bZ _ _).cell (p:=⟨w.heap.size,1,none⟩) a9l).trans a9i);cases b
 .go_wp2;exact bodyPost_ret (v:=.tuple #[.agg #[.int .u32 0,.int .i64 0],.bool false]) (by simp[results,Tryz.results178,go_sem,q,r]) rfl ⟨rfl,(l.setCell a9i _).setCell a9i _⟩
 .go_wp2;exact bodyPost_ret (v:=.tuple #[.agg #[.int .u32 a,.int .i64 k],.bool true]) (by simp[results,Tryz.results178,go_sem,q,r]) rfl ⟨rfl,(l.setCell a9i _).setCell a9i _⟩
def NR(a m w)(b:0<=m)(c:m<4294967296)(f:∀k,k<=32->m≠4294967296 - 2^(32 - k)):Calls Gh.prog.{0} 178 #[.int .u32 a,.int .u32 m] w λe w'=>e=.returned (.tuple #[.agg #[.int .u32 0,.int .i64 0],.bool false])/\Below w.heap.size w w':=by
 have g:=I3 m b c;obtain⟨h,i⟩:=XA (4294967295 - m) a9h;have d:=ak (λW=>Il (4294967295 - m) W a9h a9h);generalize lz (4294967295 - m)=l at*;have j:((4294967296 - 2^(32 - l).toNat:Int) !=m)=true:=by rw[bne_iff_ne];intro e;exact f l.toNat a9h (by rw[<-e,show(32 - l).toNat=32 - l.toNat by omega])
 have n:IntKind.u32.signed=false:=rfl;clear f;go_enter Gh.func178,Tryz.ntmps178;go_wp2_with fail;refine(af d _).mono ?_;rintro e o ⟨rfl,rfl⟩;go_wp2_with fail;refine(vw a l _ h i).mono ?_;rintro e p ⟨rfl,rfl⟩;go_wp2;exact bodyPost_ret (v:=.tuple #[.agg #[.int .u32 0,.int .i64 0],.bool false]) (by simp[results,Tryz.results178,go_sem]) rfl ⟨rfl,((bZ _ _).trans ((bZ _ _).mono a9i)).trans ((bZ _ _).mono a9l)⟩
def wI(a m b w)(d:0<=a)(f:a<4294967296)(g:0<=m)(h:m<4294967296)(c:dn a (gN m)=b):Calls Gh.prog.{0} 178 #[.int .u32 a,.int .u32 m] w λe w'=>e=.returned (.tuple #[if b then .agg #[.int .u32 a,.int .i64 (gN m)]else .agg #[.int .u32 0,.int .i64 0],.bool b])/\Below w.heap.size w w':=by
 obtain⟨k,i,rfl⟩|j:=Is m
 .rw[yB k i]at c⊢;exact NQ a k w b c d f i
 .rw[Cn j]at c⊢;obtain rfl:b=false:=by rw[<-c];exact JF a9j
  exact NR a m w g h j
end Go.Proofs.q
end
