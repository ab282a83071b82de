import Derived.Laws.CopyRow
import Derived.Laws.StructEq
import Derived.Lib.AppendZerosOnto
import Derived.Lib.MinMax
import Derived.Lib.SliceRun
import Derived.Shelf.Spec.SlicesInsert
import Derived.Test.YtdnpeefnobjfaaaGreatDoorK17
set_option maxRecDepth 100000
set_option maxHeartbeats 4000000
set_option linter.all false
section
namespace Go.Proofs.q
universe u
open Go.RowKit Go.Shelf Go.Sort
attribute [local go_sem ↓] Go.wp_at_zero Go.wp_at_succ
def di(r:Rw):Rw:=if r.met=16 then r else {r with met:=16,bi:=0,bM:=true}
def vZ(r n:Rw):Bool:=decide (r.addr=n.addr)&&decide (r.len=n.len)&&decide (r.tag=n.tag)&&decide (r.met=n.met)&&decide (r.an=n.an)
def gw(r n:Rw):Rw:=if n.met=16 then di r else {n with bi:=0,bM:=r.bM|| !(vZ r n)}
def jQ(r n:Rw):Bool:=if n.met=r.met then !(decide (r.met=16))&&decide (90<=r.bi)else decide (n.met<r.met)
def jc(n:Rw):Rw:={n with bi:=0,bM:=true}
def dO(r n:Rw):Rw:=if r.an= -1 then r else if r.an=n.an then gw r n else if jQ r n then jc n else r
def Wl(r:Rw)(w:aa):Calls Gh.prog.{u} 150 #[.agg #[.int .u32 r.addr,.int .i64 r.len,.int .i64 r.tag,.int .i64 r.met,.int .i64 r.an,.int .i64 r.bi,.bool r.bM]] w λe w'=>e=.returned (.bool (decide (r.an= -1)))/\aJ w w':=by go_enter Gh.func150,Tryz.ntmps150;go_wp2;go_ret;refine⟨fL ?_,(aJ.refl w).alloc _⟩;rw[m9];simp
def yz(r:Rw)(w:aa):Calls Gh.prog.{u} 109 #[.agg #[.int .u32 r.addr,.int .i64 r.len,.int .i64 r.tag,.int .i64 r.met,.int .i64 r.an,.int .i64 r.bi,.bool r.bM]] w λe w'=>e=.returned (.agg #[.int .u32 (di r).addr,.int .i64 (di r).len,.int .i64 (di r).tag,.int .i64 (di r).met,.int .i64 (di r).an,.int .i64 (di r).bi,.bool (di r).bM])/\aJ w w':=by
 have x:=ak ((aE.new w #[.int .u32 r.addr,.int .i64 r.len,.int .i64 r.tag,.int .i64 r.met,.int .i64 r.an,.int .i64 r.bi,.bool r.bM] 137).alloc (.cells #[.int .u32 0,.int .i64 0,.int .i64 0,.int .i64 0,.int .i64 0,.int .i64 0,.bool false] 137));have s:=aE.new (w.alloc (.cells #[.int .u32 r.addr,.int .i64 r.len,.int .i64 r.tag,.int .i64 r.met,.int .i64 r.an,.int .i64 r.bi,.bool r.bM] 137)) #[.int .u32 0,.int .i64 0,.int .i64 0,.int .i64 0,.int .i64 0,.int .i64 0,.bool false] 137;simp only[World.size_alloc]at s;have y:=ak s;clear s;have o:=λW=>B7.{u} r W;by_cases f:r.met=16
 .have q:di r=r:=by simp[di,f]
  rw[q];have t:decide (r.met=16)=true:=by simp[f]
  clear f q;simp only[t]at o;go_enter Gh.func109,Tryz.ntmps109;go_wp2_with (go_at_call 103;refine(o _).mono ?_;rintro e z ⟨rfl,d⟩;have b:=(af x).dU d;have a:=(af y).dU d;have a0:=b.cell 0;have a1:=b.cell 1;have a2:=b.cell 2;have a3:=b.cell 3;have a4:=b.cell 4;have a5:=b.cell 5;have a6:=b.cell 6;have s0:=a.cell 0;have A:=a.frozen 0;have B:=a.cell 1;have C:=a.frozen 1;have s2:=a.cell 2;have D:=a.frozen 2;have E:=a.cell 3;have z3:=a.frozen 3;have s4:=a.cell 4;have F:=a.frozen 4;have H:=a.cell 5;have I:=a.frozen 5;have J:=a.cell 6;have K:=a.frozen 6);have c:=(((((((a.set 0 (.int .u32 r.addr)).set 1 (.int .i64 r.len)).set 2 (.int .i64 r.tag)).set 3 (.int .i64 r.met)).set 4 (.int .i64 r.an)).set 5 (.int .i64 r.bi)).set 6 (.bool r.bM));have g:=c.cell 0;have h:=c.cell 1;have i:=c.cell 2;have j:=c.cell 3;have k:=c.cell 4;have l:=c.cell 5;have n:=c.cell 6;simp at g h i j k l n;refine bodyPost_ret (v:=.agg #[.int .u32 r.addr,.int .i64 r.len,.int .i64 r.tag,.int .i64 r.met,.int .i64 r.an,.int .i64 r.bi,.bool r.bM]) (by simp[results,Tryz.results109,go_sem,g,h,i,j,k,l,n]) rfl ⟨?_,(((((((((((aJ.refl w).alloc _).alloc _).trans d).setCell a9i _).setCell a9i _).setCell a9i _).setCell a9i _).setCell a9i _).setCell a9i _).setCell a9i _)⟩;rfl
 .have q:Hid (di r={r with met:=16,bi:=0,bM:=true}):=by show di r=_;simp[di,f]
  have t:decide (r.met=16)=false:=by simp[f]
  clear f;simp only[t]at o;rw[q.out];go_enter Gh.func109,Tryz.ntmps109;go_wp2_with (go_at_call 103;refine(o _).mono ?_;rintro e z ⟨rfl,d⟩;have b:=(af x).dU d;have a:=(af y).dU d;have a0:=b.cell 0;have a1:=b.cell 1;have a2:=b.cell 2;have a3:=b.cell 3;have a4:=b.cell 4;have a5:=b.cell 5;have a6:=b.cell 6;have L:=b.frozen 3;have M:=b.frozen 5;have N:=b.frozen 6;have s0:=a.cell 0;have A:=a.frozen 0;have B:=a.cell 1;have C:=a.frozen 1;have s2:=a.cell 2;have D:=a.frozen 2;have E:=a.cell 3;have z3:=a.frozen 3;have s4:=a.cell 4;have F:=a.frozen 4;have H:=a.cell 5;have I:=a.frozen 5;have J:=a.cell 6;have K:=a.frozen 6);have c:=((((((((((a.other (p:=⟨w.heap.size,3,none⟩) a9i (.int .i64 16)).other (p:=⟨w.heap.size,5,none⟩) a9i (.int .i64 0)).other (p:=⟨w.heap.size,6,none⟩) a9i (.bool true)).set 0 (.int .u32 r.addr)).set 1 (.int .i64 r.len)).set 2 (.int .i64 r.tag)).set 3 (.int .i64 16)).set 4 (.int .i64 r.an)).set 5 (.int .i64 0)).set 6 (.bool true));have g:=c.cell 0;have h:=c.cell 1;have i:=c.cell 2;have j:=c.cell 3;have k:=c.cell 4;have l:=c.cell 5;have n:=c.cell 6;simp at g h i j k l n;refine bodyPost_ret (v:=.agg #[.int .u32 r.addr,.int .i64 r.len,.int .i64 r.tag,.int .i64 16,.int .i64 r.an,.int .i64 0,.bool true]) (by simp[results,Tryz.results109,go_sem,g,h,i,j,k,l,n]) rfl ⟨?_,((((((((((((((aJ.refl w).alloc _).alloc _).trans d).setCell a9i _).setCell a9i _).setCell a9i _).setCell a9i _).setCell a9i _).setCell a9i _).setCell a9i _).setCell a9i _).setCell a9i _).setCell a9i _)⟩;rfl
def mK(w:aa)(cs:Array aj)(t:bD)(a:Array aj)(u:bD):aE ((w.alloc (.cells cs t)).alloc (.cells a u)) (w.heap.size+1) a u:=by have:=aE.new (w.alloc (.cells cs t)) a u;simpa only[World.size_alloc]using this
def OI(r:Rw)(w:aa):Calls Gh.prog.{u} 52 #[.agg #[.int .u32 r.addr,.int .i64 r.len,.int .i64 r.tag,.int .i64 r.met,.int .i64 r.an,.int .i64 r.bi,.bool r.bM]] w λe w'=>e=.returned (.agg #[.int .u32 r.addr,.int .i64 r.len,.int .i64 r.tag,.int .i64 r.met,.int .i64 r.an])/\aJ w w':=by go_enter Gh.func52,Tryz.ntmps52;go_wp2;exact bodyPost_ret (v:=.agg #[.int .u32 r.addr,.int .i64 r.len,.int .i64 r.tag,.int .i64 r.met,.int .i64 r.an]) (by simp[results,Tryz.results52,go_sem]) rfl ⟨rfl,((aJ.refl w).alloc _).alloc _⟩
def a2x(r:Rw)(p:Pf)(w:aa):Calls Gh.prog.{u} 147 #[.agg #[.int .u32 r.addr,.int .i64 r.len,.int .i64 r.tag,.int .i64 r.met,.int .i64 r.an,.int .i64 r.bi,.bool r.bM],.agg #[.int .u32 p.addr,.int .i64 p.len]] w λe w'=>e=.returned (.int .i64 (lT ⟨r.addr,r.len⟩ p))/\aJ w w':=by have a:=λW=>Qh.{u} ⟨r.addr,r.len⟩ p W;simp only at a;go_enter Gh.func147,Tryz.ntmps147;go_wp2_with (go_at_call 82;refine(a _).mono ?_;rintro e c ⟨rfl,b⟩);go_ret;exact⟨rfl,(((aJ.refl w).alloc _).alloc _).trans b⟩
def fq(e:cR)(an a:Int):Rw:=⟨e.addr,e.len,e.tag,min (e.met+a) 16,an,0,false⟩
def Yg(e:cR)(an cost:Int)(w:aa)(h0:0<=e.met)(b:e.met<=16)(c:0<=cost)(d:cost<=15):Calls Gh.prog.{u} 97 #[.agg #[.int .u32 e.addr,.int .i64 e.len,.int .i64 e.tag,.int .i64 e.met],.int .i64 an,.int .i64 cost] w λv w'=>v=.returned (.agg #[.int .u32 (fq e an cost).addr,.int .i64 (fq e an cost).len,.int .i64 (fq e an cost).tag,.int .i64 (fq e an cost).met,.int .i64 (fq e an cost).an])/\aJ w w':=by have a:IntKind.i64.wrap (e.met+cost)=e.met+cost:=wrap_small _ a9h a9h;go_enter Gh.func97,Tryz.ntmps97;go_wp2;exact bodyPost_ret (v:=.agg #[.int .u32 e.addr,.int .i64 e.len,.int .i64 e.tag,.int .i64 (min (e.met+cost) 16),.int .i64 an]) (by simp[results,Tryz.results97,go_sem]) rfl ⟨rfl,((aJ.refl w).alloc _).alloc _⟩
def Jn(w:aa)(cs t a c b u):aE (((w.alloc (.cells cs t)).alloc (.cells a c)).alloc (.cells b u)) (w.heap.size+1+1) b u:=by have:=aE.new ((w.alloc (.cells cs t)).alloc (.cells a c)) b u;simpa only[World.size_alloc]using this
def XZ(w:aa)(cs t a t2):aE ((w.alloc (.cells cs t)).alloc (.cells a t2)) (w.heap.size+1) a t2:=by have:=aE.new (w.alloc (.cells cs t)) a t2;simpa only[World.size_alloc]using this
def a6w(r n w):Calls Gh.prog.{u} 193 #[.agg #[.int .u32 r.addr,.int .i64 r.len,.int .i64 r.tag,.int .i64 r.met,.int .i64 r.an,.int .i64 r.bi,.bool r.bM],.agg #[.int .u32 n.addr,.int .i64 n.len,.int .i64 n.tag,.int .i64 n.met,.int .i64 n.an]] w λe w'=>e=.returned (.bool (jQ r n))/\aJ w w':=by
 have j:=ak ((aE.new w #[.int .u32 r.addr,.int .i64 r.len,.int .i64 r.tag,.int .i64 r.met,.int .i64 r.an,.int .i64 r.bi,.bool r.bM] 137).alloc (.cells #[.int .u32 n.addr,.int .i64 n.len,.int .i64 n.tag,.int .i64 n.met,.int .i64 n.an] 52));have d:=λW=>B7.{u} r W;by_cases b:n.met=r.met
 .by_cases a:r.met=16
  .have c:Hid (jQ r n=false):=by show jQ r n=_;simp[jQ,b,a]
   have g:decide (r.met=16)=true:=by simp[a]
   have i:(n.met==r.met)=true:=by simp[b]
   clear b a;simp only[g]at d;go_enter Gh.func193,Tryz.ntmps193;go_wp2_with (go_at_call 103;refine(d _).mono ?_;rintro e k ⟨rfl,f⟩);go_ret;exact⟨fL c.out.symm,(((aJ.refl w).alloc _).alloc _).trans f⟩
  .have c:Hid (jQ r n=decide (90<=r.bi)):=by show jQ r n=_;simp[jQ,b,a]
   have g:decide (r.met=16)=false:=by simp[a]
   have i:(n.met==r.met)=true:=by simp[b]
   clear b a;simp only[g]at d;go_enter Gh.func193,Tryz.ntmps193;go_wp2_with (go_at_call 103;refine(d _).mono ?_;rintro e k ⟨rfl,f⟩;have h:=(af j).dU f;have l:=h.cell 5);go_ret;exact⟨fL c.out.symm,(((aJ.refl w).alloc _).alloc _).trans f⟩
 .have c:Hid (jQ r n=decide (n.met<r.met)):=by show jQ r n=_;simp[jQ,b]
  have i:(n.met==r.met)=false:=by simp[b]
  clear b;go_enter Gh.func193,Tryz.ntmps193;go_wp2;go_ret;exact⟨fL c.out.symm,((aJ.refl w).alloc _).alloc _⟩
def Gv(a l b c d w):(Op.equalIn (d+1+1) 32 (.agg #[.int .u32 a,.int .i64 l]) (.agg #[.int .u32 b,.int .i64 c])).run Gh.prog.{u} w=.ok (decide (a=b)&&decide (l=c)) w:=by have u3:=Gh.underlying3.{u};have a3:=Gh.isAgg3.{u};have z3:=Gh.sizeOf3.{u};have u4:=Gh.underlying30.{u};have a4:=Gh.isAgg30.{u};have g:=Gh.sizeOf30.{u};rw[run_equalIn_agg w (d+1) 32 _ _ a9k a9k];simp only[Program.fieldsOf,Gh.underlying32];go_simp;by_cases e:a=b<;>by_cases f:l=c<;>simp[e,f]
def X9(r n w):(binOp .neq 52 (.agg #[.int .u32 r.addr,.int .i64 r.len,.int .i64 r.tag,.int .i64 r.met,.int .i64 r.an]) (.agg #[.int .u32 n.addr,.int .i64 n.len,.int .i64 n.tag,.int .i64 n.met,.int .i64 n.an])).run Gh.prog.{u} w=.ok (.bool (!(vZ r n))) w:=by have u3:=Gh.underlying3.{u};have a3:=Gh.isAgg3.{u};have z3:=Gh.sizeOf3.{u};have f:=Gh.isAgg32.{u};have g:=Gh.sizeOf32.{u};have h:=Gv.{u} r.addr r.len n.addr n.len 9997;rw[run_neq_struct,show(10000:Nat)=9997+1+1+1 from rfl,run_equalIn_agg w (9997+1+1) 52 _ _ a9k a9k];simp only[Program.fieldsOf,Gh.underlying52];go_simp;by_cases a:r.addr=n.addr<;>by_cases b:r.len=n.len<;>by_cases c:r.tag=n.tag<;>by_cases d:r.met=n.met<;>by_cases e:r.an=n.an<;>simp[vZ,a,b,c,d,e]
def a1J(r n w):Calls Gh.prog.{u} 192 #[.agg #[.int .u32 r.addr,.int .i64 r.len,.int .i64 r.tag,.int .i64 r.met,.int .i64 r.an,.int .i64 r.bi,.bool r.bM],.agg #[.int .u32 n.addr,.int .i64 n.len,.int .i64 n.tag,.int .i64 n.met,.int .i64 n.an]] w λe w'=>e=.returned (.agg #[.int .u32 (gw r n).addr,.int .i64 (gw r n).len,.int .i64 (gw r n).tag,.int .i64 (gw r n).met,.int .i64 (gw r n).an,.int .i64 (gw r n).bi,.bool (gw r n).bM])/\aJ w w':=by
 have t:=ak (Jn w #[.int .u32 r.addr,.int .i64 r.len,.int .i64 r.tag,.int .i64 r.met,.int .i64 r.an,.int .i64 r.bi,.bool r.bM] 137 #[.int .u32 n.addr,.int .i64 n.len,.int .i64 n.tag,.int .i64 n.met,.int .i64 n.an] 52 #[.int .u32 0,.int .i64 0,.int .i64 0,.int .i64 0,.int .i64 0,.int .i64 0,.bool false] 137);by_cases b:n.met=16
 .have c:gw r n=di r:=by simp[gw,b]
  rw[c];have f:=λW=>yz.{u} r W;generalize di r=r2 at f⊢;have x:(n.met==16)=true:=by simp[b]
  clear b c;go_enter Gh.func192,Tryz.ntmps192;go_wp2_with (go_at_call 109;refine(f _).mono ?_;rintro e z ⟨rfl,g⟩;have a:=(af t).dU g;have s0:=a.cell 0;have A:=a.cell 1;have s2:=a.cell 2;have B:=a.cell 3;have s4:=a.cell 4;have C:=a.cell 5;have D:=a.cell 6;have E:=a.frozen 0;have F:=a.frozen 1;have H:=a.frozen 2;have z3:=a.frozen 3;have I:=a.frozen 4;have J:=a.frozen 5;have K:=a.frozen 6);have d:=(((((((a.set 0 (.int .u32 r2.addr)).set 1 (.int .i64 r2.len)).set 2 (.int .i64 r2.tag)).set 3 (.int .i64 r2.met)).set 4 (.int .i64 r2.an)).set 5 (.int .i64 r2.bi)).set 6 (.bool r2.bM));have h:=d.cell 0;have i:=d.cell 1;have j:=d.cell 2;have k:=d.cell 3;have l:=d.cell 4;have o:=d.cell 5;have p:=d.cell 6;simp at h i j k l o p;refine bodyPost_ret (v:=.agg #[.int .u32 r2.addr,.int .i64 r2.len,.int .i64 r2.tag,.int .i64 r2.met,.int .i64 r2.an,.int .i64 r2.bi,.bool r2.bM]) (by simp[results,Tryz.results192,go_sem,h,i,j,k,l,o,p]) rfl ⟨?_,((((((((((((aJ.refl w).alloc _).alloc _).alloc _).trans g).setCell a9m _).setCell a9m _).setCell a9m _).setCell a9m _).setCell a9m _).setCell a9m _).setCell a9m _)⟩;rfl
 .have x:(n.met==16)=false:=by simp[b]
  cases s:r.bM with
  |true=>
   have c:gw r n={n with bi:=0,bM:=true}:=by simp[gw,b,s]
   rw[c];clear b c;go_enter Gh.func192,Tryz.ntmps192;go_wp2_with fail;go_region;go_wp2;exact bodyPost_ret (v:=.agg #[.int .u32 n.addr,.int .i64 n.len,.int .i64 n.tag,.int .i64 n.met,.int .i64 n.an,.int .i64 0,.bool true]) (by simp[results,Tryz.results192,go_sem]) rfl ⟨rfl,((((aJ.refl w).alloc _).alloc _).alloc _).drew⟩
  |false=>
   have c:gw r n={n with bi:=0,bM:= !(vZ r n)}:=by simp[gw,b,s]
   rw[c];have y:=X9.{u} r n;generalize (!(vZ r n))=q at y⊢;clear b c;go_enter Gh.func192,Tryz.ntmps192;go_wp2_with fail;go_region;go_wp2;exact bodyPost_ret (v:=.agg #[.int .u32 n.addr,.int .i64 n.len,.int .i64 n.tag,.int .i64 n.met,.int .i64 n.an,.int .i64 0,.bool q]) (by simp[results,Tryz.results192,go_sem]) rfl ⟨rfl,((((aJ.refl w).alloc _).alloc _).alloc _).drew⟩
def VM(r n w):Calls Gh.prog.{u} 148 #[.agg #[.int .u32 r.addr,.int .i64 r.len,.int .i64 r.tag,.int .i64 r.met,.int .i64 r.an,.int .i64 r.bi,.bool r.bM],.agg #[.int .u32 n.addr,.int .i64 n.len,.int .i64 n.tag,.int .i64 n.met,.int .i64 n.an]] w λe w'=>e=.returned (.agg #[.int .u32 (dO r n).addr,.int .i64 (dO r n).len,.int .i64 (dO r n).tag,.int .i64 (dO r n).met,.int .i64 (dO r n).an,.int .i64 (dO r n).bi,.bool (dO r n).bM])/\aJ w w':=by
 have F:=ak (((aE.new w #[.int .u32 r.addr,.int .i64 r.len,.int .i64 r.tag,.int .i64 r.met,.int .i64 r.an,.int .i64 r.bi,.bool r.bM] 137).alloc (.cells #[.int .u32 n.addr,.int .i64 n.len,.int .i64 n.tag,.int .i64 n.met,.int .i64 n.an] 52)).alloc (.cells #[.int .u32 0,.int .i64 0,.int .i64 0,.int .i64 0,.int .i64 0,.int .i64 0,.bool false] 137));have H:=ak ((XZ w #[.int .u32 r.addr,.int .i64 r.len,.int .i64 r.tag,.int .i64 r.met,.int .i64 r.an,.int .i64 r.bi,.bool r.bM] 137 #[.int .u32 n.addr,.int .i64 n.len,.int .i64 n.tag,.int .i64 n.met,.int .i64 n.an] 52).alloc (.cells #[.int .u32 0,.int .i64 0,.int .i64 0,.int .i64 0,.int .i64 0,.int .i64 0,.bool false] 137));have I:=ak (Jn w #[.int .u32 r.addr,.int .i64 r.len,.int .i64 r.tag,.int .i64 r.met,.int .i64 r.an,.int .i64 r.bi,.bool r.bM] 137 #[.int .u32 n.addr,.int .i64 n.len,.int .i64 n.tag,.int .i64 n.met,.int .i64 n.an] 52 #[.int .u32 0,.int .i64 0,.int .i64 0,.int .i64 0,.int .i64 0,.int .i64 0,.bool false] 137);have B:=λW=>Wl.{u} r W;by_cases z:r.an= -1
 .have k:dO r n=r:=by simp[dO,z]
  rw[k];have C:decide (r.an= -1)=true:=by simp[z]
  clear z k;simp only[C]at B;go_enter Gh.func148,Tryz.ntmps148;go_wp2_with (go_at_call 150;refine(B _).mono ?_;rintro e L ⟨rfl,i⟩;have b:=(af F).dU i;have c:=(af H).dU i;have d:=(af I).dU i;have a0:=b.cell 0;have a1:=b.cell 1;have a2:=b.cell 2;have a3:=b.cell 3;have a4:=b.cell 4;have a5:=b.cell 5;have a6:=b.cell 6;have M:=c.cell 0;have N:=c.cell 1;have O:=c.cell 2;have P:=c.cell 3;have Q:=c.cell 4;have s0:=d.cell 0;have R:=d.cell 1;have s2:=d.cell 2;have S:=d.cell 3;have s4:=d.cell 4;have T:=d.cell 5;have U:=d.cell 6;have V:=d.frozen 0;have X:=d.frozen 1;have Y:=d.frozen 2;have z3:=d.frozen 3;have Z:=d.frozen 4;have z5:=d.frozen 5;have z6:=d.frozen 6);have f:=(((((((d.set 0 (.int .u32 r.addr)).set 1 (.int .i64 r.len)).set 2 (.int .i64 r.tag)).set 3 (.int .i64 r.met)).set 4 (.int .i64 r.an)).set 5 (.int .i64 r.bi)).set 6 (.bool r.bM));have l:=f.cell 0;have o:=f.cell 1;have p:=f.cell 2;have q:=f.cell 3;have s:=f.cell 4;have t:=f.cell 5;have x:=f.cell 6;simp at l o p q s t x;refine bodyPost_ret (v:=.agg #[.int .u32 r.addr,.int .i64 r.len,.int .i64 r.tag,.int .i64 r.met,.int .i64 r.an,.int .i64 r.bi,.bool r.bM]) (by simp[results,Tryz.results148,go_sem,l,o,p,q,s,t,x]) rfl ⟨?_,((((((((((((aJ.refl w).alloc _).alloc _).alloc _).trans i).setCell a9m _).setCell a9m _).setCell a9m _).setCell a9m _).setCell a9m _).setCell a9m _).setCell a9m _)⟩;rfl
 .have C:decide (r.an= -1)=false:=by simp[z]
  simp only[C]at B;by_cases A:r.an=n.an
  .have k:dO r n=gw r n:=by unfold dO;rw[if_neg z,if_pos A]
   rw[k];have he:(r.an==n.an)=true:=by simp[A]
   have J:=λW=>a1J.{u} r n W;generalize gw r n=r2 at J⊢;clear z k A C;go_enter Gh.func148,Tryz.ntmps148;go_wp2_with (first|(go_at_call 150;refine(B _).mono ?_;rintro e L ⟨rfl,i⟩;have b:=(af F).dU i;have c:=(af H).dU i;have d:=(af I).dU i;have a0:=b.cell 0;have a1:=b.cell 1;have a2:=b.cell 2;have a3:=b.cell 3;have a4:=b.cell 4;have a5:=b.cell 5;have a6:=b.cell 6;have M:=c.cell 0;have N:=c.cell 1;have O:=c.cell 2;have P:=c.cell 3;have Q:=c.cell 4)|(go_at_call 192;refine(J _).mono ?_;rintro e w2 ⟨rfl,h⟩;have a:=d.dU h;have s0:=a.cell 0;have R:=a.cell 1;have s2:=a.cell 2;have S:=a.cell 3;have s4:=a.cell 4;have T:=a.cell 5;have U:=a.cell 6;have V:=a.frozen 0;have X:=a.frozen 1;have Y:=a.frozen 2;have z3:=a.frozen 3;have Z:=a.frozen 4;have z5:=a.frozen 5;have z6:=a.frozen 6));have f:=(((((((a.set 0 (.int .u32 r2.addr)).set 1 (.int .i64 r2.len)).set 2 (.int .i64 r2.tag)).set 3 (.int .i64 r2.met)).set 4 (.int .i64 r2.an)).set 5 (.int .i64 r2.bi)).set 6 (.bool r2.bM));have l:=f.cell 0;have o:=f.cell 1;have p:=f.cell 2;have q:=f.cell 3;have s:=f.cell 4;have t:=f.cell 5;have x:=f.cell 6;simp at l o p q s t x;refine bodyPost_ret (v:=.agg #[.int .u32 r2.addr,.int .i64 r2.len,.int .i64 r2.tag,.int .i64 r2.met,.int .i64 r2.an,.int .i64 r2.bi,.bool r2.bM]) (by simp[results,Tryz.results148,go_sem,l,o,p,q,s,t,x]) rfl ⟨?_,(((((((((((((aJ.refl w).alloc _).alloc _).alloc _).trans i).trans h).setCell a9m _).setCell a9m _).setCell a9m _).setCell a9m _).setCell a9m _).setCell a9m _).setCell a9m _)⟩;rfl
  .have he:(r.an==n.an)=false:=by simp[A]
   have K:=λW=>a6w.{u} r n W;cases D:jQ r n with
   |true=>
    have k:dO r n=jc n:=by simp only[dO,z,if_false,A,D,if_true]
    rw[k];simp only[D]at K;have J:=λW=>BK.{u} n.addr n.len n.tag n.met n.an W;clear z k A C D;go_enter Gh.func148,Tryz.ntmps148;go_wp2_with (first|(go_at_call 150;refine(B _).mono ?_;rintro e L ⟨rfl,i⟩;have b:=(af F).dU i;have c:=(af H).dU i;have d:=(af I).dU i;have a0:=b.cell 0;have a1:=b.cell 1;have a2:=b.cell 2;have a3:=b.cell 3;have a4:=b.cell 4;have a5:=b.cell 5;have a6:=b.cell 6;have M:=c.cell 0;have N:=c.cell 1;have O:=c.cell 2;have P:=c.cell 3;have Q:=c.cell 4)|(go_at_call 193;refine(K _).mono ?_;rintro e w2 ⟨rfl,h⟩;have a:=d.dU h;have y:=c.dU h;have m0:=y.cell 0;have m1:=y.cell 1;have m2:=y.cell 2;have m3:=y.cell 3;have m4:=y.cell 4)|(go_at_call 135;refine(J _).mono ?_;rintro e w3 ⟨rfl,E⟩;have g:=a.dU E;have s0:=g.cell 0;have R:=g.cell 1;have s2:=g.cell 2;have S:=g.cell 3;have s4:=g.cell 4;have T:=g.cell 5;have U:=g.cell 6;have V:=g.frozen 0;have X:=g.frozen 1;have Y:=g.frozen 2;have z3:=g.frozen 3;have Z:=g.frozen 4;have z5:=g.frozen 5;have z6:=g.frozen 6));have f:=(((((((g.set 0 (.int .u32 n.addr)).set 1 (.int .i64 n.len)).set 2 (.int .i64 n.tag)).set 3 (.int .i64 n.met)).set 4 (.int .i64 n.an)).set 5 (.int .i64 0)).set 6 (.bool true));have l:=f.cell 0;have o:=f.cell 1;have p:=f.cell 2;have q:=f.cell 3;have s:=f.cell 4;have t:=f.cell 5;have x:=f.cell 6;simp at l o p q s t x;refine bodyPost_ret (v:=.agg #[.int .u32 n.addr,.int .i64 n.len,.int .i64 n.tag,.int .i64 n.met,.int .i64 n.an,.int .i64 0,.bool true]) (by simp[results,Tryz.results148,go_sem,l,o,p,q,s,t,x]) rfl ⟨?_,((((((((((((((aJ.refl w).alloc _).alloc _).alloc _).trans i).trans h).trans E).setCell a9m _).setCell a9m _).setCell a9m _).setCell a9m _).setCell a9m _).setCell a9m _).setCell a9m _)⟩;rfl
   |false=>
    have k:dO r n=r:=by simp[dO,z,A,D]
    rw[k];simp only[D]at K;clear z k A C D;go_enter Gh.func148,Tryz.ntmps148;go_wp2_with (first|(go_at_call 150;refine(B _).mono ?_;rintro e L ⟨rfl,i⟩;have b:=(af F).dU i;have c:=(af H).dU i;have d:=(af I).dU i;have a0:=b.cell 0;have a1:=b.cell 1;have a2:=b.cell 2;have a3:=b.cell 3;have a4:=b.cell 4;have a5:=b.cell 5;have a6:=b.cell 6;have M:=c.cell 0;have N:=c.cell 1;have O:=c.cell 2;have P:=c.cell 3;have Q:=c.cell 4)|(go_at_call 193;refine(K _).mono ?_;rintro e w2 ⟨rfl,h⟩;have a:=d.dU h;have j:=b.dU h;have c0:=j.cell 0;have c1:=j.cell 1;have c2:=j.cell 2;have c3:=j.cell 3;have c4:=j.cell 4;have c5:=j.cell 5;have c6:=j.cell 6;have s0:=a.cell 0;have R:=a.cell 1;have s2:=a.cell 2;have S:=a.cell 3;have s4:=a.cell 4;have T:=a.cell 5;have U:=a.cell 6;have V:=a.frozen 0;have X:=a.frozen 1;have Y:=a.frozen 2;have z3:=a.frozen 3;have Z:=a.frozen 4;have z5:=a.frozen 5;have z6:=a.frozen 6));have f:=(((((((a.set 0 (.int .u32 r.addr)).set 1 (.int .i64 r.len)).set 2 (.int .i64 r.tag)).set 3 (.int .i64 r.met)).set 4 (.int .i64 r.an)).set 5 (.int .i64 r.bi)).set 6 (.bool r.bM));have l:=f.cell 0;have o:=f.cell 1;have p:=f.cell 2;have q:=f.cell 3;have s:=f.cell 4;have t:=f.cell 5;have x:=f.cell 6;simp at l o p q s t x;refine bodyPost_ret (v:=.agg #[.int .u32 r.addr,.int .i64 r.len,.int .i64 r.tag,.int .i64 r.met,.int .i64 r.an,.int .i64 r.bi,.bool r.bM]) (by simp[results,Tryz.results148,go_sem,l,o,p,q,s,t,x]) rfl ⟨?_,(((((((((((((aJ.refl w).alloc _).alloc _).alloc _).trans i).trans h).setCell a9m _).setCell a9m _).setCell a9m _).setCell a9m _).setCell a9m _).setCell a9m _).setCell a9m _)⟩;rfl
def aM(r:Rw):Pf:=⟨r.addr,r.len⟩
def eX(L:List Rw):Prop:=L.Pairwise λa b=>dQ (aM a) (aM b)
def CY{a b c}(h:dQ a b)(k:dQ b c):dQ a c:=by unfold dQ at*;omega
def vY{L}(h:eX L){i j}(b:i<L.length)(c:j<L.length)(a:i<j):dQ (aM L[i]) (aM L[j]):=b0z.1 h i j b c a
def a9x(L:List Rw)(p:Pf)(i:Nat):Prop:=i<=L.length/\(∀j,(a:j<L.length)->j<i->dQ (aM L[j]) p)/\(∀j,(a:j<L.length)->i<=j->¬dQ (aM L[j]) p)
def Qd(a b):lT a b=0↔a=b:=by
 rw[Pf.beq_iff];unfold lT iF;by_cases e:a.addr<b.addr
 .simp[e];omega
 .by_cases g:b.addr<a.addr
  .simp[e,g];omega
  .have c:a.addr=b.addr:=a9h
   by_cases d:a.len<b.len
   .simp[c,d];omega
   .by_cases f:b.len<a.len
    .simp[c,d,f];omega
    .simp[c,d,f];omega
def a3k(b C n cap L p w)(hL:L.length=n)(hn:n<=1000000)(D:eX L)(hB:b<w.heap.size)(hc:kt w b C L):Calls Gh.prog.{u} 146 #[.slice (some ⟨b,C,none⟩) n cap,.agg #[.int .u32 p.addr,.int .i64 p.len],.func (.func 147) #[] #[]] w λe w'=> ∃i,a9x L p i/\e=.returned (.tuple #[.int .i64 i,.bool ((L[i]?.map aM)==some p)])/\aJ w w':=by
 have F:=ak hL;have HS:=ak D;have hC:=λr W=>a2x r p W;have au:=gQ.{u};have bP:=aE.new w #[.int .u32 p.addr,.int .i64 p.len] 32;have H:=tl hc (bZ w (.cells #[.int .u32 p.addr,.int .i64 p.len] 32)) hB;have I:=(aJ.refl w).alloc (.cells #[.int .u32 p.addr,.int .i64 p.len] 32);have t:b<(w.alloc (.cells #[.int .u32 p.addr,.int .i64 p.len] 32)).heap.size:=a9l
 clear hL D hc;go_enter Gh.func146,Tryz.ntmps146;go_wp2_with fail;generalize w.alloc (.cells #[.int .u32 p.addr,.int .i64 p.len] 32)=W at*;have HP:=ak bP;have HC:=ak H;have HG:=ak I;clear bP H I
 go_loopw [9,10] (λvi vj wr=> ∃i j:Nat,i<=j/\j<=n/\vi=.int .i64 i/\vj=.int .i64 j/\aJ W wr/\(∀k,(x:k<L.length)->k<i->dQ (aM L[k]) p)/\(∀k,(x:k<L.length)->j<=k->¬dQ (aM L[k]) p)) (λvi vj _=>(intOf vj - intOf vi).toNat)
 case atStart=>exact⟨0,n,a9h,a9h,rfl,rfl,aJ.refl _,λk x h=>a9h,λk x h=>by rw[af F]at x;omega⟩
 case round=>
  obtain⟨i,j,aP,J,rfl,rfl,s,K,M⟩:=hrel;have N:=ak K;have O:=ak M;have v:=ak s;clear K M;by_cases ba:i<j
  .have P:(i:Int)<(j:Int):=a9h
   have bb:IntKind.i64.wrap ((i:Int)+(j:Int))=(i:Int)+(j:Int):=wrap_small _ a9h a9h;go_wp2_with fail;obtain⟨h,hh⟩:∃h:Nat,h=(i+j) / 2:=⟨_,rfl⟩;have Q:((i:Int)+(j:Int)) / 2=(h:Int):=a9h
   have ao:h<n:=a9h
   have A:h<L.length:=by rw[af F];exact ao
   have av:i<=h:=a9h
   have bc:h<j:=a9h
   rw[Q];have j0:(0:Int)<=(h:Int):=a9h
   have j1:(h:Int)<(n:Int):=a9h
   clear hh Q;have c:b<wr.heap.size:=bL t s.below.size;obtain⟨R,c1,c2,S,T,U,V⟩:=tl (af HC) s.below t h A;have d:=(af HP).dU s;have X:=(d.cell 0).trans (show _=some (.int .u32 p.addr)from rfl);have Y:=(d.cell 1).trans (show _=some (.int .i64 p.len)from rfl);have G0:=λm a=>cell_grown c R m a;have G1:=λm a=>cell_grown c c1 m a;have G2:=λm a=>cell_grown c c2 m a;have G3:=λm a=>cell_grown c S m a;have G4:=λm a=>cell_grown c T m a;have G5:=λm a=>cell_grown c U m a;have G6:=λm a=>cell_grown c V m a;have P0:=λm a=>cell_grown d.lt X m a;have P1:=λm a=>cell_grown d.lt Y m a;have Z:=ak (show∀q,lT (aM L[h]) p=q->(q<0↔dQ (aM L[h]) p)from λq y=>by rw[<-y];exact Qb _ _);have f:=hC L[h];have HE:=ak (show aM L[h]=⟨L[h].addr,L[h].len⟩from rfl);rw[<-af HE]at f;clear d X Y R c1 c2 S T U V s;obtain⟨q,y⟩:∃q,lT (aM L[h]) p=q:=⟨_,rfl⟩;rw[y]at f;have g:=af Z q y;clear y Z HE;by_cases B:q<0
   .have l:=ak (g.1 B);clear g;generalize L[h]=E at G0 G1 G2 G3 G4 G5 G6 f
    go_quiet_grown (first|(go_at_call 147;refine aJ.quiet (f _)))
    go_wp2
    go_roundw
    case rel=>
     refine⟨h+1,j,a9h,J,by go_num,rfl,(af v).grow _ _,λk x ap=>?_,af O⟩;by_cases o:k=h
     .subst o;exact af l
     .exact CY (vY (af HS) x A a9h) (af l)
    case measure=>simp[intOf];omega
   .have l:=ak (λhx=>B (g.2 hx));clear g;have bd:decide (q<0)=false:=a9l
    clear B;generalize L[h]=E at G0 G1 G2 G3 G4 G5 G6 f
    go_quiet_grown (first|(go_at_call 147;refine aJ.quiet (f _)))
    go_wp2
    go_roundw
    case rel=>
     refine⟨i,h,a9h,a9h,rfl,rfl,(af v).grow _ _,af N,λk x ap=>?_⟩;by_cases o:k=h
     .subst o;exact af l
     .exact λhx=>af l (CY (vY (af HS) A x a9h) hx)
    case measure=>simp[intOf];omega
  .have aq:j=i:=a9h
   subst aq;have P:decide ((j:Int)<(j:Int))=false:=a9i
   have ab:=ak (show a9x L p j from⟨by rw[af F];exact J,af N,af O⟩);by_cases ar:j<n
   .have ad:j<L.length:=by rw[af F];exact ar
    have j0:(0:Int)<=(j:Int):=a9h
    have j1:(j:Int)<(n:Int):=a9h
    have c:b<wr.heap.size:=bL t s.below.size;obtain⟨R,c1,c2,S,T,U,V⟩:=tl (af HC) s.below t j ad;have d:=(af HP).dU s;have X:=(d.cell 0).trans (show _=some (.int .u32 p.addr)from rfl);have Y:=(d.cell 1).trans (show _=some (.int .i64 p.len)from rfl);have G0:=λm a=>cell_grown c R m a;have G1:=λm a=>cell_grown c c1 m a;have G2:=λm a=>cell_grown c c2 m a;have G3:=λm a=>cell_grown c S m a;have G4:=λm a=>cell_grown c T m a;have G5:=λm a=>cell_grown c U m a;have G6:=λm a=>cell_grown c V m a;have P0:=λm a=>cell_grown d.lt X m a;have P1:=λm a=>cell_grown d.lt Y m a;have z:(L[j]?.map aM==some p)=(lT (aM L[j]) p==0):=by rw[iM ad,m9];simp[Qd]
    have HV:=ak z;have f:=hC L[j];have HE:=ak (show aM L[j]=⟨L[j].addr,L[j].len⟩from rfl);rw[<-af HE]at f;clear d X Y R c1 c2 S T U V s z;obtain⟨q,y⟩:∃q,lT (aM L[j]) p=q:=⟨_,rfl⟩;rw[y]at f HV;clear y HE;generalize L[j]=E at G0 G1 G2 G3 G4 G5 G6 f;go_wp2_with fail
    go_quiet_grown (first|(go_at_call 147;refine aJ.quiet (f _)))
    go_wp2;go_ret2;exact⟨j,af ab,by rw[af HV];rfl,(af HG).trans ((af v).grow _ _)⟩
   .have ae:j=n:=a9h
    subst ae;have HV:=ak (show(L[j]?.map aM==some p)=false by rw[pJ (by rw[af F];exact az _)];rfl);clear s;go_wp2_with fail
    go_big_region_o
    go_wp2;go_ret2;exact⟨j,af ab,by rw[af HV];rfl,(af HG).trans (af v).drew⟩
def a3j(ao cap)(p:Pf)(c w):Calls Gh.prog.{u} 146 #[.slice ao 0 cap,.agg #[.int .u32 p.addr,.int .i64 p.len],c] w λe w'=>e=.returned (.tuple #[.int .i64 0,.bool false])/\aJ w w':=by
 have b:=gQ.{u};have a:=ak ((aJ.refl w).alloc (.cells #[.int .u32 p.addr,.int .i64 p.len] 32));go_enter Gh.func146,Tryz.ntmps146;go_wp2_with fail;generalize w.alloc (.cells #[.int .u32 p.addr,.int .i64 p.len] 32)=W at*;refine wp_loop_rounds 1 ?_;rw[rounds_succ];go_wp2_with fail
 go_big_region_o
 go_wp2;go_ret2;exact⟨rfl,(af a).drew⟩
def a3i(ao n cap L p w)(a:L.length=n)(h:n<=1000000)(c:eX L)(k:gy w ao L):Calls Gh.prog.{u} 146 #[.slice ao n cap,.agg #[.int .u32 p.addr,.int .i64 p.len],.func (.func 147) #[] #[]] w λe w'=> ∃i,a9x L p i/\e=.returned (.tuple #[.int .i64 i,.bool ((L[i]?.map aM)==some p)])/\aJ w w':=by
 by_cases h0:n=0
 .subst h0;have:L=[]:=gj a;subst this;refine(a3j ao cap p _ w).mono ?_;rintro e w' ⟨rfl,l⟩;exact⟨0,⟨az _,λj d=>by simp at d,λj d=>by simp at d⟩,rfl,l⟩
 .rcases k with rfl|⟨b,f,rfl,g⟩
  .simp at a;omega
  .exact a3k b f n cap L p w a h c (tn g a9h) g
end Go.Proofs.q
end
section
namespace Go.Proofs.q
universe u
open Go.RowKit
attribute [local go_sem ↓] Go.wp_at_zero Go.wp_at_succ
def Dw(L):∀u∈aK L,u.oneCell'=true:=by intro u a;simp only[aK,b1o]at a;obtain⟨r,_,b⟩:=a;exact tu r u b
def qx{w:aa}{base g n cap a}{e b:Nat}(h:w.ownsRow base e b (.slice (some ⟨g,0,none⟩) n cap) n a):∀j u,a[j]?=some u->w.cell? ((⟨g,0,none⟩:aF).add j)=some u:=h.cells (g:=g) rfl
def P4(base g n cap d w)(h0:0<n)(z:n<=1000000)(t:∀u∈d,u.oneCell'=true)(h:w.ownsRow base 137 7 (.slice (some ⟨g,0,none⟩) n cap) n d):Calls Gh.prog.{u} 95 #[.slice (some ⟨g,0,none⟩) n cap] w λe w'=> ∃v,e=.returned v/\w'.ownsRow w.heap.size 137 7 v n d/\Below w.heap.size w w':=by obtain⟨x,i,j,k,l⟩:=info_parts Gh.sG.{u};have A:∀(w:aa) (a:Option aF) (n c o p:Nat),(binOp .eql 118 (.slice a n c) (.slice none o p)).run Gh.prog.{u} w=.ok (.bool a.isNone) w:=λw a n c o p=>Lib.run_eql_slice_nil w _ _ a n c o p Gh.underlying118;have f:d.length=n*7:=h.1;have y:=ak (qx (cP h (bZ w (.cells #[] 137)) (az _)));clear h;go_enter Gh.func95,Tryz.ntmps95;go_wp2_with (at_builtin;go_loud (refine wpList_append_lies _ rfl (.tmp 5) (.tmp 6) 118 rfl w.heap.size 137 x (.agg #[.int .u32 0,.int .i64 0,.int .i64 0,.int .i64 0,.int .i64 0,.int .i64 0,.bool false]) 7 56 Gh.underlying118 i j k l rfl a9j (.slice (some ⟨w.heap.size,0,none⟩) 0 0) 0 [] rfl ⟨rfl,.inr ⟨w.heap.size,0,#[],rfl,az _,by exact heap_alloc_new w _,az _,by unfold maxLen;omega,rfl,rfl⟩⟩ ⟨g,0,none⟩ n cap d rfl f (af y) t h0 (by unfold maxLen;omega) a9h a9i (w.heap.size+1) a9i ?_;intro B c1 C b q r s;simp only[dC,iu]at b));go_ret;exact⟨_,rfl,b,(bZ w _).trans ((Below.refl _ _).grown q a9i (by simp[Value.ownBlock]))⟩
def P7(a cap w):Calls Gh.prog.{u} 95 #[.slice (some a) 0 cap] w λe w'=> ∃v,e=.returned v/\w'.ownsRow w.heap.size 137 7 v 0 []/\Below w.heap.size w w':=by obtain⟨o,d,f,g,h⟩:=info_parts Gh.sG.{u};have r:∀(w:aa) (a:Option aF) (n c i k:Nat),(binOp .eql 118 (.slice a n c) (.slice none i k)).run Gh.prog.{u} w=.ok (.bool a.isNone) w:=λw a n c i k=>Lib.run_eql_slice_nil w _ _ a n c i k Gh.underlying118;go_enter Gh.func95,Tryz.ntmps95;go_wp2_with (at_builtin;go_loud (refine wpList_append_own _ rfl (.tmp 5) (.tmp 6) 118 rfl w.heap.size 137 o (.agg #[.int .u32 0,.int .i64 0,.int .i64 0,.int .i64 0,.int .i64 0,.int .i64 0,.bool false]) 7 56 Gh.underlying118 d f g h rfl a9j (.slice (some ⟨w.heap.size,0,none⟩) 0 0) 0 [] rfl ⟨rfl,.inr ⟨w.heap.size,0,#[],rfl,az _,by exact heap_alloc_new w _,az _,by unfold maxLen;omega,rfl,rfl⟩⟩ a 0 cap [] rfl rfl (by intro j u p;simp at p) a9i a9j a9j a9i ?_;intro s t b l q));go_ret;exact⟨_,rfl,b,(bZ w _).trans ((Below.refl _ _).grown l a9i (by simp[Value.ownBlock]))⟩
def P3(w):Calls Gh.prog.{u} 95 #[.slice none 0 0] w λe w'=> ∃v,e=.returned v/\w'.ownsRow w.heap.size 137 7 v 0 []/\Below w.heap.size w w':=by have f:∀(w:aa) (a:Option aF) (n c b d:Nat),(binOp .eql 118 (.slice a n c) (.slice none b d)).run Gh.prog.{u} w=.ok (.bool a.isNone) w:=λw a n c b d=>Lib.run_eql_slice_nil w _ _ a n c b d Gh.underlying118;go_enter Gh.func95,Tryz.ntmps95;go_wp2;go_ret;exact⟨_,rfl,World.ownsRow_nil _ _ _ _,Below.refl _ _⟩
def E0(base v L w)(f:L.length<=1000000)(c:w.ownsRow base 137 7 v L.length (aK L)):Calls Gh.prog.{u} 95 #[v] w λe w'=> ∃d,e=.returned d/\w'.ownsRow w.heap.size 137 7 d L.length (aK L)/\Below w.heap.size w w':=by
 have b:=c;obtain⟨i,⟨rfl,h0⟩|⟨g,a,h,rfl,j⟩⟩:=b
 .have:L=[]:=gj h0;subst this;exact P3 w
 .by_cases h0:L.length=0
  .have:L=[]:=gj h0;subst this;exact P7 _ a w
  .exact P4 base g L.length a (aK L) w a9h f (Dw L) c
def mi(r:Rw):List aj:=[.int .u32 r.addr,.int .i64 r.len,.int .i64 r.tag,.int .i64 r.met,.int .i64 r.an]
def lC(L:List Rw):List aj:=L.flatMap mi
def a2u(L r):lC (L++[r])=lC L++mi r:=by simp[lC]
def a2t(r):∀u∈mi r,u.oneCell'=true:=by intro u a;simp[mi]at a;obtain rfl|rfl|rfl|rfl|rfl:=a<;>rfl
theorem Gh.V7:(Gh.prog.{u}.info? 52).map (λi=>(i.zero,i.size,i.bytes))=some (some (.agg #[.int .u32 0,.int .i64 0,.int .i64 0,.int .i64 0,.int .i64 0]),5,40):=by kernel_rfl
def a7a(ao cap L w)(R:L.length<=1000000)(H:gy w ao L):Calls Gh.prog.{u} 51 #[.agg #[.slice ao L.length cap],.func (.func 52) #[] #[]] w λe w'=> ∃v,e=.returned v/\w'.ownsRow w.heap.size 52 5 v L.length (lC L)/\Below w.heap.size w w':=by
 obtain⟨I,o,x,p,y⟩:=info_parts Gh.V7.{u};have N:=ak H;have O:=ak (aE.new w #[.slice ao L.length cap] 120);clear H;go_enter Gh.func51,Tryz.ntmps51;go_wp2_with (at_make;go_loud (refine wpList_make_own _ rfl _ _ 57 rfl w.heap.size 52 I (.agg #[.int .u32 0,.int .i64 0,.int .i64 0,.int .i64 0,.int .i64 0]) 5 Gh.underlying57 o x p _ _ _ L.length rfl rfl a9h (by rw[y];omega) (by unfold maxLen;omega) a9i ?_);intro w2 a j;have J:=(((af O).below ((Below.refl _ _).grown j (az _) a9i) a9i).cell 0).trans (show _=some (.slice ao L.length cap)from rfl));simp only[World.size_alloc]at a;have P:w.heap.size+2<=w2.heap.size:=kj a;have z:Below w.heap.size w w2:=(bZ w _).trans ((Below.refl _ _).grown j a9i a9i);clear j J
 go_loopw [5,15] (λd i wr=> ∃k:Nat,k<=L.length/\i=.int .i64 k/\d=.slice (some ⟨w.heap.size+1,0,none⟩) k L.length/\wr.ownsRow w.heap.size 52 5 (.slice (some ⟨w.heap.size+1,0,none⟩) k L.length) k (lC (L.take k))/\Below w.heap.size w wr) (λ_ i _=>L.length - (intOf i).toNat)
 case atStart=>exact⟨0,a9h,rfl,rfl,by simpa[lC]using a,z⟩
 case round=>
  obtain⟨k,S,rfl,rfl,b,t⟩:=hrel;by_cases f:k<L.length
  .rcases ku (af N) t with h0|⟨g,Q,rfl,q⟩
   .rw[h0]at f;simp at f
   .obtain⟨J,c1,c2,T,U,V,W⟩:=q k f;have r:lC (L.take (k+1))=lC (L.take k)++mi L[k]:=by rw[oA f,a2u]
    have A:=ak r;have K:=ak t;clear r t q;have X:(0:Int)<=(k:Int):=a9h
    have Y:(k:Int)<(L.length:Int):=a9h
    generalize L[k]=E at*;go_wp2_with (first|(go_at_call 52;refine(OI E _).mono ?_;rintro e M ⟨rfl,s⟩;have c:=((aJ.refl wr).alloc _).trans s;have l:=pa b (c.below.block _ (kj b));have B:=ak c;clear s c)|(at_builtin;go_loud (refine wpList_append_fits _ rfl (.tmp 19) (.tmp 23) 57 rfl w.heap.size 52 I 5 Gh.underlying57 o p (w.heap.size+1) k L.length _ rfl (l.alloc _) ⟨M.heap.size,0,none⟩ 1 1 (mi E) rfl rfl (by exact World.news_of_block (heap_alloc_new M _)) (a2t _) a9h ?_;intro Z n C)))
    go_roundw
    case rel=>refine⟨k+1,a9h,by go_num,rfl,by rw[af A];exact n,?_⟩;have D:=(af K).trans ((af B).below.mono (af K).size);exact(D.alloc D.size _).grown C (by have:=D.size;simp;omega) a9i
    case measure=>simp[intOf];omega
  .have F:k=L.length:=a9h
   subst F;have h:=ak b;rw[pN]at h;clear b;go_wp2;go_ret;exact⟨_,rfl,af h,t⟩
def a2v(V ao cap L w)(d:L.length<=1000000)(b:aE w V #[.slice ao L.length cap] 122)(c:gy w ao L):Calls Gh.prog.{u} 19 #[.pointer (some ⟨V,0,none⟩)] w λe w'=> ∃v,e=.returned v/\w'.ownsRow w.heap.size 52 5 v L.length (lC L)/\Below w.heap.size w w':=by have f:=a7a.{u} ao cap L w d c;have h:=(b.cell 0).trans (show _=some (.slice ao L.length cap)from rfl);clear c b;go_enter Gh.func19,Tryz.ntmps19;go_wp2_with (go_at_call 51;refine f.mono ?_;rintro e i ⟨v,rfl,a,g⟩);go_ret;exact⟨v,rfl,a,g⟩
end Go.Proofs.q
end
section
namespace Go.Proofs.q
universe u
open Go.RowKit Go.Shelf
attribute [local go_sem ↓] Go.wp_at_zero Go.wp_at_succ
def dV(to:Int)(r:Rw):cR:=⟨r.addr,r.len,r.tag,if r.an=to then 16 else r.met⟩
def VO(to r w):Calls Gh.prog.{u} 91 #[.int .i64 to,.agg #[.int .u32 r.addr,.int .i64 r.len,.int .i64 r.tag,.int .i64 r.met,.int .i64 r.an,.int .i64 r.bi,.bool r.bM]] w λe w'=>e=.returned (.agg #[.int .u32 (dV to r).addr,.int .i64 (dV to r).len,.int .i64 (dV to r).tag,.int .i64 (dV to r).met])/\aJ w w':=by
 by_cases h:r.an=to
 .have e:(dV to r).met=16:=if_pos h;rw[e];clear e;go_enter Gh.func91,Tryz.ntmps91;go_wp2;exact bodyPost_ret (v:=.agg #[.int .u32 r.addr,.int .i64 r.len,.int .i64 r.tag,.int .i64 16]) (by simp[results,Tryz.results91,go_sem]) rfl ⟨rfl,((aJ.refl w).alloc _).alloc _⟩
 .have e:(dV to r).met=r.met:=if_neg h;rw[e];clear e;go_enter Gh.func91,Tryz.ntmps91;go_wp2;exact bodyPost_ret (v:=.agg #[.int .u32 r.addr,.int .i64 r.len,.int .i64 r.tag,.int .i64 r.met]) (by simp[results,Tryz.results91,go_sem]) rfl ⟨rfl,((aJ.refl w).alloc _).alloc _⟩
def cT(to:Int)(L:List Rw):List cR:=L.map (dV to)
def VE(to)(L:List Rw)(k)(h:k<L.length):fe (cT to (L.take (k+1)))=fe (cT to (L.take k))++mG (dV to L[k]):=by rw[oA h];simp only[cT,fe,nj,List.flatMap_append,dq,lH,kJ,List.flatMap_nil,List.append_nil]
def S5(e):∀u∈mG e,u.oneCell'=true:=by intro u a;simp[mG]at a;obtain rfl|rfl|rfl|rfl:=a<;>rfl
def a6X(to ao cap L w)(P:L.length<=1000000)(D:gy w ao L):Calls Gh.prog.{u} 90 #[.agg #[.slice ao L.length cap],.func (.func 91) #[.int .i64 to] #[]] w λe w'=> ∃g,e=.returned (.slice (some ⟨g,0,none⟩) L.length L.length)/\w'.ownsRow w.heap.size 42 4 (.slice (some ⟨g,0,none⟩) L.length L.length) L.length (fe (cT to L))/\Below w.heap.size w w':=by
 obtain⟨F,o,t,p,v⟩:=info_parts Gh.Hv.{u};have K:=ak D;have M:=ak (aE.new w #[.slice ao L.length cap] 120);clear D;go_enter Gh.func90,Tryz.ntmps90;go_wp2_with (at_make;go_loud (refine wpList_make_own _ rfl _ _ 43 rfl w.heap.size 42 F (.agg #[.int .u32 0,.int .i64 0,.int .i64 0,.int .i64 0]) 4 Gh.underlying43 o t p _ _ _ L.length rfl rfl a9h (by rw[v];omega) (by unfold maxLen;omega) a9i ?_);intro w2 a j;have H:=(((af M).below ((Below.refl _ _).grown j (az _) a9i) a9i).cell 0).trans (show _=some (.slice ao L.length cap)from rfl));simp only[World.size_alloc]at a;have N:w.heap.size+2<=w2.heap.size:=kj a;have x:Below w.heap.size w w2:=(bZ w _).trans ((Below.refl _ _).grown j a9i a9i);clear j H
 go_loopw [5,15] (λd i wr=> ∃k:Nat,k<=L.length/\i=.int .i64 k/\d=.slice (some ⟨w.heap.size+1,0,none⟩) k L.length/\wr.ownsRow w.heap.size 42 4 (.slice (some ⟨w.heap.size+1,0,none⟩) k L.length) k (fe (cT to (L.take k)))/\Below w.heap.size w wr) (λ_ i _=>L.length - (intOf i).toNat)
 case atStart=>exact⟨0,a9h,rfl,rfl,by simpa[fe,cT]using a,x⟩
 case round=>
  obtain⟨k,Q,rfl,rfl,b,s⟩:=hrel;by_cases f:k<L.length
  .rcases ku (af K) s with h0|⟨g,O,rfl,q⟩
   .rw[h0]at f;simp at f
   .obtain⟨H,c1,c2,R,S,T,U⟩:=q k f;have y:=ak (VE to L k f);have I:=ak s;clear s q;have V:(0:Int)<=(k:Int):=a9h
    have W:(k:Int)<(L.length:Int):=a9h
    generalize L[k]=E at*;go_wp2_with (first|(go_at_call 91;refine(VO to E _).mono ?_;rintro e J ⟨rfl,r⟩;have c:=((aJ.refl wr).alloc _).trans r;have l:=pa b (c.below.block _ (kj b));have z:=ak c;clear r c)|(at_builtin;go_loud (refine wpList_append_fits _ rfl (.tmp 19) (.tmp 23) 43 rfl w.heap.size 42 F 4 Gh.underlying43 o p (w.heap.size+1) k L.length _ rfl (l.alloc _) ⟨J.heap.size,0,none⟩ 1 1 (mG (dV to E)) rfl rfl (by exact World.news_of_block (heap_alloc_new J _)) (S5 _) a9h ?_;intro X n A)))
    go_roundw
    case rel=>refine⟨k+1,a9h,by go_num,rfl,by rw[af y];exact n,?_⟩;have B:=(af I).trans ((af z).below.mono (af I).size);exact(B.alloc B.size _).grown A (by have:=B.size;simp;omega) a9i
    case measure=>simp[intOf];omega
  .have C:k=L.length:=a9h
   subst C;have h:=ak b;rw[pN]at h;clear b;go_wp2;go_ret;exact⟨_,rfl,af h,s⟩
end Go.Proofs.q
end
section
namespace Go.Proofs.q
universe u
open Go.RowKit Go.Shelf
attribute [local go_sem] Oper.semAt_some
def a9r(l:List cR)(k:Nat):List cR:=(l.drop (25*k)).take 25
abbrev mB(n):={k:Nat // 25*k<n}
def kU(n k:Nat):Nat:=min 25 (n - 25*k)
def zt(b a n:Nat)(x:mB n):Array aj:=#[.slice (some ⟨b,a+25*x.1*4,none⟩) (kU n x.1) (kU n x.1)]
def jN(n k:Nat):List (mB n):=(List.range k).filterMap λi=>if h:25*i<n then some ⟨i,h⟩else none
def J6(n k)(h:25*k<n):jN n (k+1)=jN n k++[⟨k,h⟩]:=by simp[jN,pL,List.filterMap_append,h]
def a2q(n k):(jN n k).length<=k:=by have:=List.length_filterMap_le (λi=>if h:25*i<n then some (⟨i,h⟩:mB n)else none) (List.range k);simpa[jN]using this
def aY(n:Nat):Nat:=(n+24) / 25
def KC(a b:Nat)(W c:aa):Prop:=c.heap[a]?=W.heap[a]? /\c.heap[b]?=W.heap[b]?
def KC.t{a b A B C}(h:KC a b A B)(k:KC a b B C):KC a b A C:=⟨k.1.trans h.1,k.2.trans h.2⟩
def KC.b{d e}{w:aa}(f:d<w.heap.size)(g:e<w.heap.size)(W l o c)(h:w.heap.size<=l)(_:W.heap[l]?=some o)(_:o.isCells=false)(_:o.isWalk=false):KC d e W (W.putObj l c):=by
 have i:=grownBy_putObj' W l c;have a:∀B,B<w.heap.size->(W.putObj l c).heap[B]?=W.heap[B]? :=λB j=>by simp[World.putObj,dw (show l≠B by omega)]
 exact⟨a _ f,a _ g⟩
def KC.cellS{b d W c}(h:KC b d W c):c.cell? ⟨b,0,none⟩=W.cell? ⟨b,0,none⟩:=World.cell?_of_block (a:=⟨b,0,none⟩) h.1
def KC.ES{d b W c}(h:KC d b W c):c.cell? ⟨b,0,none⟩=W.cell? ⟨b,0,none⟩:=World.cell?_of_block (a:=⟨b,0,none⟩) h.2
def PT(n)(V:1<=n)(l j o b p len cap)(F:len<=cap)(y:cap<=1000000)(J H:List (mB len)->aa->Prop)(W)(z:AbidesFrom W.heap.size J)(R:∀a x W,J a W->a.length<len->YieldAt Fence.wide (n - 1) Gh.prog.{u} l (zt b p len x) W λe h=>(e=.returned (.bool true)/\J (a++[x]) h/\KC j o W h)\/(e=.returned (.bool false)/\H (a++[x]) h))(A:W.cell? ⟨j,0,none⟩=some (.slice (some ⟨b,p,none⟩) len cap))(q:W.cell? ⟨o,0,none⟩=some (.int .i64 25))(h0:J [] W):CallsIn Fence.wide n Gh.prog.{u} 183 #[.func (.yield l) #[] #[],.pointer (some ⟨j,0,none⟩),.pointer (some ⟨o,0,none⟩)] W λe h=>(∃v,e=.returned v)/\((∃I,I=jN len (aY len)/\J I h)\/(∃a,H a h)):=by
 have K:=gQ.{u};refine callsIn_of_wp Gh.func183 rfl trivial ?_ rfl;simp only[Tryz.ntmps183,fV,gm,ir,Nat.reduceAdd,Nat.reduceSub,kE,kF,kM,kI,iu,fU]
 gi_wp2
 gi_loopw [4] (λi wr=> ∃k:Nat,25*k<len+25/\i=.int .i64 ((25*k:Nat):Int)/\J (jN len k) wr/\KC j o W wr)
  (λi _=>len+25 - (intOf i).toNat)
 case atStart=>exact⟨0,a9h,rfl,by simpa[jN]using h0,rfl,rfl⟩
 case round=>
  obtain⟨k,X,rfl,f,g⟩:=hrel;have Y:=g.cellS.trans A;have c1:=g.ES.trans q;by_cases s:25*k<len
  .have B:=z _ _ wr.drew none f ⟨rfl,rfl,rfl,az _,λ_ _ _=>rfl⟩ (λr e=>by cases e);obtain⟨Z,L,assign,body,M,N⟩:=R _ ⟨k,s⟩ wr.drew B (by have:=a2q len k;omega);rw[<-J6 len k s]at N;simp only[zt,kU]at M;generalize O:25*k=i at*;have P:=ak O;clear O;have j0:(0:Int)<=(i:Int):=a9h
   have S:(i:Int)<(len:Int):=a9h
   have j2:(i:Int)<=(cap:Int):=a9h
   have j3:(len:Int)<=(cap:Int):=a9h
   gi_wp2
   gi_big_region_o
   obtain⟨c,Q⟩:∃c:Nat,min 25 (len - i)=c:=⟨_,rfl⟩;rw[show(min 25 ((len - i:Nat):Int))=(c:Int)by omega];rw[Q]at M;have k0:0<c:=a9h
   have k1:(i:Int)+(c:Int)<=(len:Int):=a9h
   have k2:(i:Int)+(c:Int)<=(cap:Int):=a9h
   have k3:(i:Int)<=(i:Int)+(c:Int):=a9h
   clear Q
   gi_wp2
   refine N.mono ?_;rintro e W3 (⟨rfl,C,D⟩|⟨rfl,w⟩)
   .have d:KC j o W W3:=g.t D;have T:=d.ES.trans q
    gi_wp2
    go_roundw
    case rel=>exact⟨k+1,by have:=af P;omega,by have:=af P;subst this;go_num,C,d⟩
    case measure=>simp[intOf];omega
   .gi_wp2
    refine bodyPost_ret (results_none rfl _ _ _) rfl ?_;exact⟨⟨_,rfl⟩,.inr ⟨_,w⟩⟩
  .have E:jN len k=jN len (aY len):=by
    have U:k=aY len:=by unfold aY;omega
    rw[U]
   rw[E]at f;have S: ¬((25*k:Nat):Int)<(len:Int):=a9h
   gi_wp2
   go_end0;exact⟨⟨_,rfl⟩,.inl f⟩
def PV(n)(v:1<=n)(d f b a len cap)(g:len<=cap)(c:cap<=1000000)(w)(k:d<w.heap.size)(o:f<w.heap.size)(q:w.cell? ⟨d,0,none⟩=some (.slice (some ⟨b,a,none⟩) len cap))(r:w.cell? ⟨f,0,none⟩=some (.int .i64 25)):SeqStopsK Fence.wide n Gh.prog.{u} 183 #[.pointer (some ⟨d,0,none⟩),.pointer (some ⟨f,0,none⟩)] (zt b a len) (KC d f) (λx=>x=jN len (aY len)) (λ_=>True) len w:=λl J y W t z _ A h0=>by
 have i:=(t.cell (p:=⟨d,0,none⟩) k).trans q;have j:=(t.cell (p:=⟨f,0,none⟩) o).trans r;refine(PT n v l d f b a len cap g c J y W z A i j h0).mono λe D ⟨B,C⟩=>⟨B,?_⟩;obtain h|⟨s,h⟩:=C
 .exact .inl h
 .exact .inr ⟨s,trivial,h⟩
def PU(a len cap w):Calls Gh.prog.{u} 143 #[.slice a len cap,.int .i64 25] w λe b=>e=.returned (.func (.func 183) #[] #[.pointer (some ⟨w.heap.size,0,none⟩),.pointer (some ⟨w.heap.size+1,0,none⟩)])/\b=(w.alloc (.cells #[.slice a len cap] 43)).alloc (.cells #[.int .i64 25] 3):=by
 refine(callsIn_wide (n:=3)).1 ?_;refine callsIn_of_wp Gh.func143 rfl trivial ?_ rfl;simp only[Tryz.ntmps143,fV,gm,ir,Nat.reduceAdd,Nat.reduceSub,kE,kF,kM,kI,iu,fU]
 gi_wp2
 go_ret;exact⟨rfl,rfl⟩
end Go.Proofs.q
end
section
namespace Go.Proofs.q
universe u
open Go.RowKit
attribute [local go_sem ↓] Go.wp_at_zero Go.wp_at_succ
def i6(f:Rw->Rw)(L:List Rw)(k:Nat):List Rw:=(L.take k).map f++L.drop k
def Ip(f L k):(i6 f L k).length=L.length:=by simp[i6];omega
def XH(f L):i6 f L 0=L:=by simp[i6]
def XF(f L):i6 f L L.length=L.map f:=by simp[i6]
def Io(f L k)(a:k<L.length)(b:k<(i6 f L k).length):(i6 f L k)[k]=L[k]:=by simp only[i6];rw[List.getElem_append_right a9l];simp[b0B (b0q a)]
def Iq(f L k)(a:k<L.length):(i6 f L k).set k (f L[k])=i6 f L (k+1):=by simp only[i6];rw[pM _ _ a9l,oA a,nj,jW];congr 1;rw[b0A,jX,b0B (b0q a),b1O,b0C a];rfl
def XG(f L k)(a:k<L.length)(h:f L[k]=L[k]):i6 f L k=i6 f L (k+1):=by rw[<-Iq f L k a,h,<-Io f L k a (by rw[Ip];exact a),List.set_getElem_self]
def a2Z(L k)(b:k<L.length)(r):((((((((aK L).set (k*7) (.int .u32 r.addr)).set (k*7+1) (.int .i64 r.len)).set (k*7+2) (.int .i64 r.tag)).set (k*7+3) (.int .i64 r.met)).set (k*7+4) (.int .i64 r.an)).set (k*7+5) (.int .i64 r.bi)).set (k*7+6) (.bool r.bM))=aK (L.set k r):=by
 induction L generalizing k with
 |nil=>simp at b
 |cons x R c=>
  cases k with
  |zero=>simp[aK,cI]
  |succ k=>
   have:=c k (by simpa using b);simp only[aK,kJ,List.set_cons_succ]at this⊢;have a:(cI x).length=7:=rfl;have e:∀j,(k+1)*7+j - 7=k*7+j:=λj=>a9h
   have d:(k+1)*7 - 7=k*7:=a9h
   rw[pM _ _ (by rw[a];omega),a,d,pM _ _ (by rw[a];omega),a,e,pM _ _ (by rw[a];omega),a,e,pM _ _ (by rw[a];omega),a,e,pM _ _ (by rw[a];omega),a,e,pM _ _ (by rw[a];omega),a,e,pM _ _ (by rw[a];omega),a,e,this]
def Jv{w:aa}{base g n cap k L}(h:w.ownsRow base 137 7 (.slice (some ⟨g,0,none⟩) n cap) n (aK L))(j:k<L.length)(r):(((((((w.setCell ⟨g,k*7,none⟩ (.int .u32 r.addr)).setCell ⟨g,k*7+1,none⟩ (.int .i64 r.len)).setCell ⟨g,k*7+2,none⟩ (.int .i64 r.tag)).setCell ⟨g,k*7+3,none⟩ (.int .i64 r.met)).setCell ⟨g,k*7+4,none⟩ (.int .i64 r.an)).setCell ⟨g,k*7+5,none⟩ (.int .i64 r.bi)).setCell ⟨g,k*7+6,none⟩ (.bool r.bM)).ownsRow base 137 7 (.slice (some ⟨g,0,none⟩) n cap) n (aK (L.set k r)):=by
 obtain⟨i,⟨b,_⟩|⟨p,q,a,b,c,l,d,e,f,o⟩⟩:=h
 .simp at b
 .simp at b;obtain⟨rfl,rfl⟩:=b;refine⟨by rw[lE]at i⊢;rw[b0V];exact i,.inr ⟨g,cap,(((((((a.setIfInBounds (k*7) (.int .u32 r.addr)).setIfInBounds (k*7+1) (.int .i64 r.len)).setIfInBounds (k*7+2) (.int .i64 r.tag)).setIfInBounds (k*7+3) (.int .i64 r.met)).setIfInBounds (k*7+4) (.int .i64 r.an)).setIfInBounds (k*7+5) (.int .i64 r.bi)).setIfInBounds (k*7+6) (.bool r.bM)),rfl,c,?_,d,e,by simpa using f,?_⟩⟩
  .exact(((((((show aE w g a 137 from l).set _ _).set _ _).set _ _).set _ _).set _ _).set _ _).set _ _
  .rw[<-a2Z L k j r,<-o];simp only[Array.toList_setIfInBounds,List.take_set]
def yQ{w base g n cap k L}(h:w.ownsRow base 137 7 (.slice (some ⟨g,0,none⟩) n cap) n (aK L))(f:k<L.length):(∃a,aE w g a 137/\n*7<=a.size)/\kt w g 0 L:=by
 constructor
 .obtain⟨r,⟨c,_⟩|⟨s,t,a,c,j,l,d,o,e,u⟩⟩:=h
  .simp at c
  .simp at c;obtain⟨rfl,rfl⟩:=c;exact⟨a,l,by rw[e];exact b0a 7 d⟩
 .rcases tq h with h0|⟨b,p,i,q⟩
  .rw[h0]at f;simp at f
  .simp at i;obtain⟨rfl,rfl⟩:=i;exact q
def jx{w g n k cur}(h:aE w g cur 137)(a:n*7<=cur.size)(b:k<n)(j)(c:j<7):∃v,w.cell? ⟨g,k*7+j,none⟩=some v:=by rw[h.cell,eY a9h];exact⟨_,rfl⟩
def fy(a:Int)(L:List Rw):List Rw:=L.map λr=>if r.an=a then di r else r
def Xq(base ao cap L A w)(hn:L.length<=1000000)(a:w.ownsRow base 137 7 (.slice ao L.length cap) L.length (aK L)):Calls Gh.prog.{u} 60 #[.agg #[.slice ao L.length cap],.int .i64 A] w λe w'=> ∃v,e=.returned (.agg #[v])/\w'.ownsRow w.heap.size 137 7 v L.length (aK (fy A L))/\Below w.heap.size w w':=by
 have Z:=mK w #[.slice ao L.length cap] 120 #[.slice none 0 0] 120;have D:=(((aJ.refl w).alloc (.cells #[.slice ao L.length cap] 120)).alloc (.cells #[.slice none 0 0] 120)).below;have K:((w.alloc (.cells #[.slice ao L.length cap] 120)).alloc (.cells #[.slice none 0 0] 120)).heap.size=w.heap.size+2:=a9i
 have M:=E0.{u} base (.slice ao L.length cap) L ((w.alloc (.cells #[.slice ao L.length cap] 120)).alloc (.cells #[.slice none 0 0] 120)) hn (cP a D (az _));have HT:=ak Z;have R:=ak D;have N:=ak K;clear Z D a K;go_enter Gh.func60,Tryz.ntmps60;go_wp2_with fail;refine M.mono ?_;rintro e w1 ⟨v',rfl,f,t⟩;rw[af N]at f t;obtain⟨B,x,rfl⟩:=dH f;have S:=ak t;have ab:w.heap.size+2<=w1.heap.size:=by have:=t.size;rw[af N]at this;exact this
 have T:=(af HT).below t a9h;clear M t;go_wp2_with fail
 go_loopw [13] (λi wr=> ∃k:Nat,k<=L.length/\i=.int .i64 k/\wr.ownsRow (w.heap.size+2) 137 7 (.slice B L.length x) L.length (aK (i6 (λr=>if r.an=A then di r else r) L k))/\Below (w.heap.size+2) w1 wr) (λi _=>L.length - (intOf i).toNat)
 case atStart=>exact⟨0,a9h,rfl,by rw[XH];exact f,Below.refl _ _⟩
 case round=>
  obtain⟨k,hk,rfl,a,F⟩:=hrel;clear f;by_cases d:k<L.length
  .obtain⟨g,rfl⟩:∃g,B=some ⟨g,0,none⟩:=by
    obtain⟨_,h0⟩|⟨g,c,O,H,_⟩:=a.2
    .omega
    .simp at H;exact⟨g,H.1⟩
   have h:k<(i6 (λr=>if r.an=A then di r else r) L k).length:=by rw[Ip];exact d
   have l:w.heap.size+2<=g:=by
    obtain⟨H,_⟩|⟨g',c,O,H,ad,_⟩:=a.2
    .simp at H
    .simp at H;omega
   obtain⟨_,P⟩:=yQ a h;have y:=P k h;rw[Io _ _ _ d h]at y;simp only[dC]at y;obtain⟨c0,c1,c2,c3,c4,c5,c6⟩:=y;have s:=ak (Iq (λr=>if r.an=A then di r else r) L k d);have n:=ak (XG (λr=>if r.an=A then di r else r) L k d);have j:=ak a;have I:=ak F;have j0:(0:Int)<=(k:Int):=a9h
   have j1:(k:Int)<(L.length:Int):=a9h
   clear a P;generalize hE:L[k]=E at*;clear hE;by_cases J:E.an=A
   .have he:(E.an==A)=true:=by simp[J]
    have hL:=λW=>yz.{u} E W;rw[if_pos J]at s;generalize di E=r2 at hL s;clear J n F;go_wp2_with (go_at_call 109;refine(hL _).mono ?_;rintro e w4 ⟨rfl,Q⟩;have z:=((aJ.refl wr).alloc _).trans Q;have o:=pa (af j) (z.below.block _ (kj (af j)));obtain⟨⟨O,q,b⟩,_⟩:=yQ o h;obtain⟨u0,s0⟩:=jx q b d 0 a9j;obtain⟨u1,s1⟩:=jx q b d 1 a9j;obtain⟨u2,s2⟩:=jx q b d 2 a9j;obtain⟨u3,s3⟩:=jx q b d 3 a9j;obtain⟨u4,s4⟩:=jx q b d 4 a9j;obtain⟨u5,s5⟩:=jx q b d 5 a9j;obtain⟨u6,s6⟩:=jx q b d 6 a9j;rw[oB]at s0;have z0:=q.frozen (k*7);have z1:=q.frozen (k*7+1);have z2:=q.frozen (k*7+2);have z3:=q.frozen (k*7+3);have z4:=q.frozen (k*7+4);have z5:=q.frozen (k*7+5);have z6:=q.frozen (k*7+6);have U:=ak o;have V:=ak z;clear o Q z b q)
    go_roundw
    case rel=>refine⟨k+1,a9h,by go_num,by rw[<-af s];exact Jv (af U) h r2,?_⟩;have h4:=(af I).trans ((af V).below.mono (by have:=(af I).size;omega));exact((((((h4.setCell (p:=⟨g,_,none⟩) l _).setCell (p:=⟨g,_,none⟩) l _).setCell (p:=⟨g,_,none⟩) l _).setCell (p:=⟨g,_,none⟩) l _).setCell (p:=⟨g,_,none⟩) l _).setCell (p:=⟨g,_,none⟩) l _).setCell (p:=⟨g,_,none⟩) l _
    case measure=>simp[intOf];omega
   .have he:(E.an==A)=false:=by simp[J]
    rw[if_neg J]at n;clear J s F;go_wp2
    go_roundw
    case rel=>refine⟨k+1,a9h,by go_num,?_,(af I).alloc (by have:=(af I).size;omega) _⟩;rw[<-af n rfl];exact(af j).alloc _
    case measure=>simp[intOf];omega
  .have X:k=L.length:=a9h
   subst X;have C:=T.below F a9h;have s0:=C.cell 0;have z0:=C.frozen 0;have j:=ak a;have I:=ak F;clear a F;go_wp2;have Y:=C.set 0 (.slice B L.length x);have t0:=Y.cell 0;simp at t0;refine bodyPost_ret (v:=.agg #[.slice B L.length x]) (by simp[results,Tryz.results60,go_sem,t0]) rfl ⟨_,rfl,?_,?_⟩
   .have:=af j;rw[XF]at this;exact dY (cz this C a9j) a9h
   .exact((af R).trans (((af S).mono a9h).trans ((af I).mono a9h))).setCell (p:=⟨w.heap.size+1,0,none⟩) a9i _
def Ko(M i):(aK M).take (i*7)=aK (M.take i):=by
 induction M generalizing i with
 |nil=>simp[aK]
 |cons x R a=>
  cases i with
  |zero=>simp[aK]
  |succ i=>have:=a i;simp only[aK,kJ,List.take_succ_cons]at this⊢;rw[<-this,List.take_append,show(cI x).length=7 from rfl,show(i+1)*7 - 7=i*7 by omega,a9R (show(cI x).length<=(i+1)*7 by rw[show(cI x).length=7 from rfl];omega)]
end Go.Proofs.q
end
section
namespace Go.Proofs.q
universe u
open Go.RowKit Go.Shelf Go.Lib
attribute [local go_sem ↓] Go.wp_at_zero Go.wp_at_succ
def zC{P}(w l q r b n g o c e a d f k cur t cs)(y:P.underlying l=some (.slice b))(z:(P.info? b).map (·.size)=some n)(s:w.heap[g]?=some (.cells cur t (0,0)))(A:k=Nat.min d c)(B:cs.length=k*n)(h:∀j v,cs[j]?=some v->w.cell? (a.add j)=some v)(p:o+cs.length<=cur.size)(u:∀v∈cs,v.oneCell'=true):(Builtin.copy_ #[l,q] r #[.slice (some ⟨g,o,none⟩) c e,.slice (some a) d f]).run P w=.ok (goInt k) (w.setRow g (cur.toList.take o++cs++cur.toList.drop (o+cs.length)).toArray):=by
 have C:=run_loadCells_list (P:=P) w a cs h;have x:=run_storeCells_at P g o t cs 0 cur w s a9h u;cases D:P.info? b with
 |none=>simp_all
 |some i=>simp_all[Builtin.copy_,run_underlying,Builtin.lenOf,Builtin.firstCells,sizeOf,typeInfo]
def Wf(base v)(n i:Nat)(k r w)(J:n<=1000000)(d:base<=w.heap.size)(a:w.ownsRow base 137 7 v n k)(h:aE w i (cI r).toArray 137):Calls Gh.prog.{u} 149 #[v,.int .i64 n,.slice (some ⟨i,0,none⟩) 1 1] w λe t=> ∃x,e=.returned x/\t.ownsRow base 137 7 x (n+1) (k++cI r)/\w.grownBy t v.ownBlock:=by
 obtain⟨C,l,o,p,q⟩:=info_parts Gh.sG.{u};obtain⟨y,cap,rfl⟩:=dH a;have b:∀j u,(cI r)[j]?=some u->w.cell? ((⟨i,0,none⟩:aF).add j)=some u:=World.news_of_block h;have z:n<=cap:=by
  obtain⟨h,h0⟩|⟨g,c,D,h,_,_,K,_⟩:=a.2
  .simp at h;omega
  .simp at h;omega
 have E:(n:Int)<=(cap:Int):=a9h
 have F:(0:Int)<=(n:Int):=a9h
 have H:=ak a;have I:=ak b;clear a h b;go_enter Gh.func149,Tryz.ntmps149;go_wp2_with (at_builtin;go_loud (apply wpList_append_lies _ rfl (.tmp 23) (.tmp 24) 118 rfl base 137 C (.agg #[.int .u32 0,.int .i64 0,.int .i64 0,.int .i64 0,.int .i64 0,.int .i64 0,.bool false]) 7 56 Gh.underlying118 l o p q rfl a9j (.slice y n cap) n k rfl (af H) ⟨i,0,none⟩ 1 1 (cI r) rfl rfl (af I) (tu r) a9j (by unfold maxLen;omega) a9h d w.heap.size rfl;intro L c1 M f s A B))
 all_goals go_ret
 all_goals exact⟨_,rfl,f,by cases y<;>exact s⟩
def zG(A B):aK (A++B)=aK A++aK B:=by simp[aK]
def Km(M i):(aK M).drop (i*7)=aK (M.drop i):=by
 by_cases a:i<=M.length
 .have h:=zG (M.take i) (M.drop i);simp at h;rw[h,List.drop_append,b0L (by rw[lE,jX];omega),iu,lE,jX,b0B a,b1O,b1H]
 .rw[b0L (by rw[lE];omega),b0L a9h];rfl
def DC(X:List aj)(i:Nat)(D V:List aj):List aj:=
 (X.take ((i+1)*7)++D++X.drop ((i+1)*7+D.length)).take (i*7)++V++(X.take ((i+1)*7)++D++X.drop ((i+1)*7+D.length)).drop (i*7+V.length)
def a3I{X L r i n}(a:L.length=n)(b:i<n)(d:(n+1)*7<=X.length)(c:X.take (n*7)=aK L):DC X i (aK (L.drop i)) (cI r)=aK (L.take i++r::L.drop i)++X.drop ((i+1)*7+(aK (L.drop i)).length):=by
 unfold DC;have e:(cI r).length=7:=rfl;have f:(X.take ((i+1)*7)).length=(i+1)*7:=a9l
 have g:X.take (i*7)=aK (L.take i):=by have:=congrArg (List.take (i*7)) c;rw[List.take_take,b0B (b0a 7 (b0q b)),Ko]at this;exact this
 grind[aK]
def Wh(base g n cap i l L r w)(V:L.length=n)(hn:n<=1000000)(hi:i<n)(q:n+1<=cap)(z:l≠g)(c:w.ownsRow base 137 7 (.slice (some ⟨g,0,none⟩) n cap) n (aK L))(f:aE w l (cI r).toArray 137):Calls Gh.prog.{u} 149 #[.slice (some ⟨g,0,none⟩) n cap,.int .i64 i,.slice (some ⟨l,0,none⟩) 1 1] w λe X=>e=.returned (.slice (some ⟨g,0,none⟩) (n+1) cap)/\X.ownsRow base 137 7 (.slice (some ⟨g,0,none⟩) (n+1) cap) (n+1) (aK (L.take i++r::L.drop i))/\w.grownBy X (some g):=by
 have s:(Gh.prog.{u}.info? 137).map (·.size)=some 7:=a9k
 let ⟨b,bG,hbg,hcm,hcs,ht⟩:∃b,aE w g b 137/\base<=g/\cap<=maxLen/\b.size=cap*7/\b.toList.take (n*7)=aK L:=by
  obtain⟨_,⟨f,_⟩|⟨g',c',b,f,Y,h2,h3,h4,h5,h6⟩⟩:=c
  .simp at f
  .simp at f;obtain⟨rfl,rfl⟩:=f;exact⟨b,h2,Y,h4,h5,h6⟩
 have J:∀K M,(callFunc 194 #[.slice (some ⟨l,0,none⟩) 1 1,.slice (some ⟨g,(i+1)*7,none⟩) K M]).run Gh.prog.{u} w=.ok (.value (.bool false)) w:=λK M=>by
  rw[run_callFunc_extern Gh.func194 a9k a9k a9k (e:=Extern.SlicesOverlaps.overlaps #[118,118] #[4]) a9k,
   Lib.run_overlaps_apart w 118 4 137 Gh.underlying118 7 Gh.sizeOf137 ⟨l,0,none⟩ ⟨g,(i+1)*7,none⟩ 1 1 K M z 137 137 7 (cap*7) (by unfold aE at f;simp[World.shape?,f,cI]) (by unfold aE at bG;simp[World.shape?,bG,hcs]) a9h (f.frozen 0) (f.frozen 7)]
  rfl
 have A:(aK (L.drop i)).length=(n - i)*7:=by rw[lE,ni,V]
 have o:(n+1)*7<=b.size:=by rw[hcs];exact b0a 7 q
 have d:∀j u,(aK L)[j]?=some u->w.cell? ⟨g,j,none⟩=some u:=λj u H=>by have:=qx c j u H;rw[show(⟨g,0,none⟩:aF).add j=⟨g,j,none⟩by unfold Addr.add;split<;>simp_all]at this;exact this
 have p:∀v x N,(Builtin.copy_ #[118,118] v #[.slice (some ⟨g,(i+1)*7,none⟩) (n - i) x,.slice (some ⟨g,i*7,none⟩) (n+1 - i) N]).run Gh.prog.{u} w.drew=.ok (goInt ((n - i:Nat):Int)) (w.drew.setRow g (b.toList.take ((i+1)*7)++aK (L.drop i)++b.toList.drop ((i+1)*7+(aK (L.drop i)).length)).toArray):=λv x N=>
  zC w.drew _ _ v 137 7 g ((i+1)*7) _ x ⟨g,i*7,none⟩ _ N (n - i) b 137 (aK (L.drop i)) Gh.underlying118 s bG (by simp only[b1A];split<;>omega) A
   (λj u H=>by
    rw[Addr.add_lit];apply d (i*7+j) u;rw[<-Km,b1g]at H;exact H) (by rw[A];omega) (Dw _)
 let ⟨a,hcur1⟩:∃a,a=(b.toList.take ((i+1)*7)++aK (L.drop i)++b.toList.drop ((i+1)*7+(aK (L.drop i)).length)).toArray:=⟨_,rfl⟩;rw[<-hcur1]at p;have h:a.size=b.size:=by rw[hcur1];simp only[fV,iN,jX,ni,pD];rw[A];omega
 have B:∀W:aa,W=w.drew.setRow g a->W.heap[g]?=some (.cells a 137 (0,0)):=λW I=>by rw[I];exact setRow_heap w.drew g b a 137 (0,0) bG
 have C:∀(W:aa),W.heap=(w.drew.setRow g a).heap->∀v x,(Builtin.copy_ #[118,118] v #[.slice (some ⟨g,i*7,none⟩) (n+1 - i) x,.slice (some ⟨l,0,none⟩) 1 1]).run Gh.prog.{u} W=.ok (goInt 1) (W.setRow g (a.toList.take (i*7)++cI r++a.toList.drop (i*7+(cI r).length)).toArray):=λW I v x=>
  zC W _ _ v 137 7 g (i*7) _ x ⟨l,0,none⟩ _ 1 1 a 137 (cI r) Gh.underlying118 s (by rw[I];exact B _ rfl) (by simp only[b1A];split<;>omega) rfl
   (World.news_of_block (t:=137) (by rw[I];exact(setRow_other w.drew g l a z).trans f)) (by rw[h];show i*7+7<=_;omega) (tu r)
 have O:=ak hcur1;have ae:=ak h;have P:=ak hcs;have Q:=ak ht;have R:=ak bG;have S:=ak hbg;have T:=ak hcm;have D:=ak V;have E:=ak o;have U:=ak A;have Z:=gQ.{u};have ao: ¬((i:Int)=(n:Int)):=a9h
 have ap:(0:Int)<=(i:Int):=a9h
 have aq:(i:Int)<=(n:Int):=a9h
 have ar:IntKind.i64.wrap ((i:Int)+1)=(i:Int)+1:=wrap_small _ a9h a9h;have au:IntKind.i64.wrap ((n:Int)+1)=(n:Int)+1:=wrap_small _ a9h a9h;have av: ¬(cap:Int)<(n:Int)+1:=a9h
 have aP:(n:Int)+1<=(cap:Int):=a9h
 have ba:(i:Int)+1<=(n:Int)+1:=a9h
 have bb:(0:Int)<=(i:Int)+1:=a9h
 have bc:(0:Int)<=(n:Int)+1:=a9h
 have bd:(i:Int)<=(n:Int)+1:=a9h
 have ab: ¬cap=i+1:=a9h
 have ad: ¬cap=i:=a9h
 have bl:((i:Int)+1).toNat=i+1:=a9h
 have bn:((n:Int)+1).toNat=n+1:=a9h
 have HO:=ak c;have HV:=ak f;clear d bG f c hcs ht hcur1 h B hcm hbg A o s;go_enter Gh.func149,Tryz.ntmps149;go_wp2_with (simp only[J])
 go_region_law_o (refine Go.Proofs.step_copy_runI rfl _ _ 118 118 rfl _ _ (by simp[Act.eval,Act.put]) (by simp[Act.eval,Act.put]) (p _ _ _) ?_)
 go_wp2_with (at_builtin;refine Go.Proofs.wpList_copy_runI _ rfl _ _ 118 118 rfl _ _ rfl rfl (C _ rfl _ _) ?_);go_ret;have y:List.take (i*7) a.toList++(cI r++List.drop (i*7+(cI r).length) a.toList)=aK (L.take i++r::L.drop i)++b.toList.drop ((i+1)*7+(aK (L.drop i)).length):=by rw[<-a3I (r:=r) (af D) hi (by simpa using af E) (af Q),af O];simp[DC]
 have F:(aK (L.take i++r::L.drop i)).length=(n+1)*7:=by rw[lE,iN,gm,jX,ni,af D];omega
 rw[y];refine⟨rfl,⟨F,.inr ⟨g,cap,_,rfl,af S,setRow_heap _ g a _ 137 (0,0) (setRow_heap w.drew g b a 137 (0,0) (af R)),a9h,af T,?_,?_⟩⟩,?_⟩
 .have h0:=af E;have Y:=af P;simp;rw[F,af U];omega
 .simp_all
 .exact⟨rfl,rfl,rfl,a9i,λk _ hk=>(setRow_other _ g k _ (λe=>hk (by rw[e]))).trans (setRow_other w.drew g k _ (λe=>hk (by rw[e])))⟩
def Wg(base g n cap i K L r w)(hL:L.length=n)(hn:n<=1000000)(hi:i<n)(A:cap<n+1)(B:base<=w.heap.size)(l:w.ownsRow base 137 7 (.slice (some ⟨g,0,none⟩) n cap) n (aK L))(C:aE w K (cI r).toArray 137):Calls Gh.prog.{u} 149 #[.slice (some ⟨g,0,none⟩) n cap,.int .i64 i,.slice (some ⟨K,0,none⟩) 1 1] w λe w'=> ∃G,e=.returned (.slice (some ⟨w.heap.size,0,none⟩) (n+1) G)/\w'.ownsRow base 137 7 (.slice (some ⟨w.heap.size,0,none⟩) (n+1) G) (n+1) (aK (L.take i++r::L.drop i))/\w.grownBy w' (some g):=by
 obtain⟨iR,V,X,Y,M⟩:=info_parts Gh.sG.{u};have D:(Gh.prog.{u}.info? 137).map (·.size)=some 7:=a9k
 have Z:n<=cap:=by
  obtain⟨C,h0⟩|⟨g,c,bb,C,_,_,h1,_⟩:=l.2
  .simp at C
  .simp at C;omega
 have N:g<w.heap.size:=kj l;have O:K<w.heap.size:=C.lt;have f:∀j u,(aK L)[j]?=some u->w.cell? ⟨g,j,none⟩=some u:=λj u s=>by have:=qx l j u s;rw[show(⟨g,0,none⟩:aF).add j=⟨g,j,none⟩by unfold Addr.add;split<;>simp_all]at this;exact this
 have E:i+(n+1 - i)=n+1:=a9h
 have x:(Builtin.firstCells iR.size i (.slice (some ⟨g,0,none⟩) i cap)).run Gh.prog.{u} w.drew=.ok (aK (L.take i)).toArray w.drew:=by
  rw[Y];exact run_firstCells_some w.drew 7 i ⟨g,0,none⟩ i cap (aK (L.take i)) (by rw[lE,jX];omega) (λj u s=>by
   rw[Addr.add_lit,dC];apply f j u;rw[<-Ko,a9X]at s;split at s
   .exact s
   .cases s)
 have P:∀o,(Builtin.append_ #[118,3] o #[.slice (some ⟨g,0,none⟩) i cap,.int .i64 ((n:Int)+1 - (i:Int))]).run Gh.prog.{u} w=
   .ok (.slice (some ⟨w.heap.size,0,none⟩) (n+1) (grownCap w (n+1) cap 137)) (w.drew.alloc (.cells ((aK (L.take i)).toArray++Builtin.zeroCells (Value.agg #[Value.int .u32 0,.int .i64 0,.int .i64 0,.int .i64 0,.int .i64 0,.int .i64 0,.bool false]).cells (n+1 - i)++Builtin.zeroCells (Value.agg #[Value.int .u32 0,.int .i64 0,.int .i64 0,.int .i64 0,.int .i64 0,.int .i64 0,.bool false]).cells (grownCap w (n+1) cap 137 - (n+1))) 137)):=λo=>by
  have h:=Lib.run_append_grow_zeros w 118 3 o 137 iR _ .i64 .i64 Gh.underlying118 Gh.underlying3 V X (some ⟨g,0,none⟩) i cap (aK (L.take i)) x (n+1 - i) a9h a9h a9h a9h (by rw[M];omega) (by rw[M,E];exact growslice_fits A a9h);rw[E]at h;rw[show(n:Int)+1 - (i:Int)=((n+1 - i:Nat):Int)by omega];exact h
 have ab:n+1<=grownCap w (n+1) cap 137:=grownCap_ge w _ _ _;have ad:=grownCap_le_maxLen w (n+1) cap 137 (by unfold maxLen;omega);generalize grownCap w (n+1) cap 137=G at*;let ⟨d,hROW⟩:∃d:Array aj,d=(aK (L.take i)).toArray++Builtin.zeroCells (Value.agg #[Value.int .u32 0,.int .i64 0,.int .i64 0,.int .i64 0,.int .i64 0,.int .i64 0,.bool false]).cells (n+1 - i)++Builtin.zeroCells (Value.agg #[Value.int .u32 0,.int .i64 0,.int .i64 0,.int .i64 0,.int .i64 0,.int .i64 0,.bool false]).cells (G - (n+1)):=⟨_,rfl⟩;rw[<-hROW]at P;have F:(aK (L.take i)).length=i*7:=by rw[lE,jX];omega
 have U:(aK (L.drop i)).length=(n - i)*7:=by rw[lE,ni,hL]
 have H:d.size=G*7:=by rw[hROW];simp only[a9Z,fV,F,Builtin.zeroCells,Value.cells,pG,b1p];show i*7+(n+1 - i)*7+(G - (n+1))*7=G*7;omega
 have Q:d.toList.take (i*7)=aK (L.take i):=by simp_all
 have v:(w.drew.alloc (.cells d 137)).heap[w.heap.size]?=some (.cells d 137 (0,0)):=World.alloc_heap_new w.drew _;have p:∀(W:aa),W.heap=(w.drew.alloc (.cells d 137)).heap->∀o I,(Builtin.copy_ #[118,118] o #[.slice (some ⟨w.heap.size,i*7,none⟩) (n+1 - i) I,.slice (some ⟨K,0,none⟩) 1 1]).run Gh.prog.{u} W=.ok (goInt 1) (W.setRow w.heap.size (d.toList.take (i*7)++cI r++d.toList.drop (i*7+(cI r).length)).toArray):=λW R o I=>
  zC W _ _ o 137 7 w.heap.size (i*7) _ I ⟨K,0,none⟩ _ 1 1 d 137 (cI r) Gh.underlying118 D (by rw[R];exact v) (by simp only[b1A];split<;>omega) rfl
   (World.news_of_block (t:=137) (by rw[R];exact(Below.heap_alloc w.drew _ K O).trans C)) (by rw[H];show i*7+7<=_;omega) (tu r)
 let ⟨b,hROW1⟩:∃b,b=(d.toList.take (i*7)++cI r++d.toList.drop (i*7+(cI r).length)).toArray:=⟨_,rfl⟩;rw[<-hROW1]at p;have q:b.size=G*7:=by rw[hROW1];simp only[fV,iN,jX,ni,pD,H,show(cI r).length=7 from rfl];omega
 have y:∀(W:aa),W.heap=((w.drew.alloc (.cells d 137)).setRow w.heap.size b).heap->∀o I sc,(Builtin.copy_ #[118,118] o #[.slice (some ⟨w.heap.size,(i+1)*7,none⟩) (n - i) I,.slice (some ⟨g,i*7,none⟩) (n - i) sc]).run Gh.prog.{u} W=.ok (goInt ((n - i:Nat):Int)) (W.setRow w.heap.size (b.toList.take ((i+1)*7)++aK (L.drop i)++b.toList.drop ((i+1)*7+(aK (L.drop i)).length)).toArray):=λW R o I sc=>
  zC W _ _ o 137 7 w.heap.size ((i+1)*7) _ I ⟨g,i*7,none⟩ _ sc (n - i) b 137 (aK (L.drop i)) Gh.underlying118 D (by rw[R];exact setRow_heap _ _ d b 137 (0,0) v) (by simp only[b1A];split<;>omega) U
   (λj u s=>by
    rw[Addr.add_lit];have hc:=f (i*7+j) u (by rw[<-Km,b1g]at s;exact s);rw[<-hc];refine World.cell?_of_block (w:=w) (a:=⟨g,i*7+j,none⟩) ?_;rw[R];exact(setRow_other _ _ g _ a9h).trans (Below.heap_alloc w.drew _ g N)) (by rw[U,q];omega) (Dw _)
 have z:(b.toList.take ((i+1)*7)++aK (L.drop i)++b.toList.drop ((i+1)*7+(aK (L.drop i)).length))=aK (L.take i++r::L.drop i)++b.toList.drop ((i+1)*7+(aK (L.drop i)).length):=by congr 1;rw[zG,show aK (r::L.drop i)=cI r++aK (L.drop i)from rfl,<-jW];congr 1;rw[hROW1,List.toList_toArray,Q,show(i+1)*7=(aK (L.take i)++cI r).length by rw[iN,F];show _=i*7+7;omega,b0b]
 have hA:=p ((w.alloc (.cells d 137)).drew) rfl;have hB:=y ((((w.alloc (.cells d 137)).drew).setRow w.heap.size b).drew) rfl;have S:=ak z;have ae:=ak q;have ao:=ak U;have ap:=ak v;have aq:=ak hL;have au:=gQ.{u};have bc: ¬((i:Int)=(n:Int)):=a9h
 have bd:(0:Int)<=(i:Int):=a9h
 have bl:(i:Int)<=(n:Int):=a9h
 have bn:(i:Int)<=(cap:Int):=a9h
 have bo:IntKind.i64.wrap ((i:Int)+1)=(i:Int)+1:=wrap_small _ a9h a9h;have bp:IntKind.i64.wrap ((n:Int)+1)=(n:Int)+1:=wrap_small _ a9h a9h;have br:IntKind.i64.wrap ((n:Int)+1 - (i:Int))=(n:Int)+1 - (i:Int):=wrap_small _ a9h a9h;have bs:(cap:Int)<(n:Int)+1:=a9h
 have bw:(i:Int)+1<=(n:Int)+1:=a9h
 have bx:(0:Int)<=(i:Int)+1:=a9h
 have bA:(i:Int)<=(n:Int)+1:=a9h
 have av: ¬G=i+1:=a9h
 have aP: ¬G=i:=a9h
 have ba: ¬cap=i:=a9h
 have bB:((i:Int)+1).toNat=i+1:=a9h
 clear p y f C l hROW hROW1 H q Q v U D x E F z;go_enter Gh.func149,Tryz.ntmps149;go_wp2_with (at_builtin;apply Lib.wpList_append_run _ rfl _ _ _ _ rfl _ _ rfl rfl _ _ (P _));go_region;go_wp2;go_ret;have J:List.take ((i+1)*7) b.toList++(aK (List.drop i L)++List.drop ((i+1)*7+(aK (List.drop i L)).length) b.toList)=aK (L.take i++r::L.drop i)++b.toList.drop ((i+1)*7+(aK (L.drop i)).length):=by rw[<-jW];exact af S
 have T:(aK (L.take i++r::L.drop i)).length=(n+1)*7:=by rw[lE,iN,gm,jX,ni,af aq];omega
 rw[J];have ar:((w.alloc (.cells d 137)).drew.setRow w.heap.size b).drew.heap[w.heap.size]?=some (.cells b 137 (0,0)):=setRow_heap (w.alloc (.cells d 137)).drew w.heap.size d b 137 (0,0) (af ap);refine⟨G,rfl,⟨T,.inr ⟨w.heap.size,G,_,rfl,B,setRow_heap _ _ b _ 137 (0,0) ar,ab,ad,?_,?_⟩⟩,?_⟩
 .have h0:=af ae;simp;rw[T,af ao,h0];omega
 .simp_all
 .refine⟨rfl,rfl,rfl,?_,λk hk _=>(setRow_other _ _ k _ a9h).trans ((setRow_other _ _ k _ a9h).trans (Below.heap_alloc w.drew _ k hk))⟩;simp
end Go.Proofs.q
end
