import Derived.Test.YtdnpeefnobjfaaaGreatDoorK28
import Derived.Test.YtdnpeefnobjfaaaGreatDoorK29
set_option maxRecDepth 100000
set_option maxHeartbeats 4000000
set_option linter.all false
section
namespace Go.Proofs.q
open Go.RowKit Go.Shelf Go.Lib
section
attribute [local go_sem ↓] Go.wp_at_zero Go.wp_at_succ
def LX(R V base a L cv t w)(v:ed w base R a L V cv t)(x:a.length<=8)(P:L.length<=100)(Q:fY L):Calls Gh.prog.{0} 53 #[.pointer (some ⟨R,0,none⟩),.func (.func 55) #[] #[]] w λe o=> ∃u q c,e=.returned u/\ed o base R a (dp L) q cv c/\w.grownBy o (some R)/\w.heap.size<=q/\o.ownsRow w.heap.size 137 7 c (dp L).length (aM (dp L))/\o.ownsRow w.heap.size 64 2 u (a.length*aV (id L).length) (gm a.length (id L)):=by
 have y:=v.blk.lt;have d:aL w (((w.alloc (.cells #[.pointer (some ⟨R,0,none⟩)] 33)).alloc (.cells #[.func (.func 55) #[] #[]] 129)).alloc (.cells #[.slice none 0 0] 46)):=(((aL.refl w).alloc _).alloc _).alloc _;have h:(((w.alloc (.cells #[.pointer (some ⟨R,0,none⟩)] 33)).alloc (.cells #[.func (.func 55) #[] #[]] 129)).alloc (.cells #[.slice none 0 0] 46)).heap.size=w.heap.size+3:=by simp
 have N:aK (((w.alloc (.cells #[.pointer (some ⟨R,0,none⟩)] 33)).alloc (.cells #[.func (.func 55) #[] #[]] 129)).alloc (.cells #[.slice none 0 0] 46)) w.heap.size #[.pointer (some ⟨R,0,none⟩)] 33:=((aK.new w _ _).alloc _).alloc _;have O:aK (((w.alloc (.cells #[.pointer (some ⟨R,0,none⟩)] 33)).alloc (.cells #[.func (.func 55) #[] #[]] 129)).alloc (.cells #[.slice none 0 0] 46)) (w.heap.size+1) #[.func (.func 55) #[] #[]] 129:=(lh w _ _ _ _).alloc _;have r:aK (((w.alloc (.cells #[.pointer (some ⟨R,0,none⟩)] 33)).alloc (.cells #[.func (.func 55) #[] #[]] 129)).alloc (.cells #[.slice none 0 0] 46)) (w.heap.size+2) #[.slice none 0 0] 46:=by have:=aK.new ((w.alloc (.cells #[.pointer (some ⟨R,0,none⟩)] 33)).alloc (.cells #[.func (.func 55) #[] #[]] 129)) #[.slice none 0 0] 46;simpa only[World.size_alloc]using this
 have b:=v.below d.below;have z:=CI w.heap.size (w.heap.size+1) (w.heap.size+2) (a.length*aV (id L).length) R V base (.slice none 0 0) (gm a.length (id L)) a L (dp L) cv t (((w.alloc (.cells #[.pointer (some ⟨R,0,none⟩)] 33)).alloc (.cells #[.func (.func 55) #[] #[]] 129)).alloc (.cells #[.slice none 0 0] 46)) b b.yl r
  (λW i=>LU w.heap.size (w.heap.size+1) (w.heap.size+2) R base (.slice none 0 0) (.int .i32 1) (.int .u32 0) (.pointer (some ⟨V,0,none⟩)) cv t a L W
   ((((N.other (p:=⟨R,1,none⟩) (a7a y) (.int .i32 1)).below i (by rw[h];omega)).cell 0).trans rfl)
   ((((O.other (p:=⟨R,1,none⟩) (show R≠w.heap.size+1 by omega) (.int .i32 1)).below i (by rw[h];omega)).cell 0).trans rfl)
   ((r.other (p:=⟨R,1,none⟩) (show R≠w.heap.size+2 by omega) (.int .i32 1)).below i (by rw[h];omega))
   ((b.blk.set 1 (.int .i32 1)).below i (by rw[h];omega)) (b.Ak i) x P Q (b.locked i))
 have A:=am d;have B:=am r;have C:=am h;clear v b N O r d h;go_enter Gh.func53,Tryz.ntmps53;go_wp2_with (go_at_call 44;refine z.mono ?_;rintro e S ⟨rfl,q,c,u,j,f,D,l,g⟩;obtain⟨T,U,rfl⟩:=dA g;have E:=((ai B).set 0 (.slice T (a.length*aV (id L).length) U));have m:aK S (w.heap.size+2) _ _:=(f.block (w.heap.size+2) E.lt (by simp;omega)).trans E;have X:=m.cell 0;simp at X;have F:=am j;have H:=am f;have I:=am l;have J:=am g;clear j f l g E m);go_ret;have K:=ai C;rw[K]at D;refine⟨_,q,c,rfl,ai F,?_,by omega,eA (ai I) (by rw[K];omega),eA (ai J) (by rw[K];omega)⟩;have n:=ai H;have s:=ai A;refine⟨n.os.trans s.below.os,n.tape.trans s.below.tape,n.output.trans s.below.output,?_,λk Y M=>?_⟩
 .have:=n.size;simp at this;omega
 .rw[n.block k (by simp;omega) M,Below.heap_setCell _ _ _ _ (show k≠w.heap.size+2 by omega)];exact s.below.block k Y
def a2X(R V base a L cv g w)(h:ed w base R a L V cv g)(f:a.length<=8)(i:L.length<=100)(j:fY L):Calls Gh.prog.{0} 21 #[.pointer (some ⟨R,0,none⟩)] w λe c=> ∃u d b,e=.returned u/\ed c base R a (dp L) d cv b/\w.grownBy c (some R)/\w.heap.size<=d/\c.ownsRow w.heap.size 137 7 b (dp L).length (aM (dp L))/\c.ownsRow w.heap.size 64 2 u (a.length*aV (id L).length) (gm a.length (id L)):=by have k:=LX R V base a L cv g w h f i j;clear h;go_enter Gh.func21,Tryz.ntmps21;go_wp2_with (go_at_call 53;refine k.mono ?_;rintro e q ⟨u,d,b,rfl,l,m,n,o,p⟩);go_ret;exact⟨_,d,b,rfl,l,m,n,o,p⟩
end
section
attribute [local go_sem ↓] Go.wp_at_zero Go.wp_at_succ
def LY(R V base a L cv t w)(v:ed w base R a L V cv t)(x:a.length<=8)(P:L.length<=100)(Q:fY L):Calls Gh.prog.{0} 53 #[.pointer (some ⟨R,0,none⟩),.func (.func 54) #[] #[]] w λe o=> ∃u q c,e=.returned u/\ed o base R a (dp L) q cv c/\w.grownBy o (some R)/\w.heap.size<=q/\o.ownsRow w.heap.size 137 7 c (dp L).length (aM (dp L))/\o.ownsRow w.heap.size 64 2 u (a.length*aV (fN L).length) (gm a.length (fN L)):=by
 have y:=v.blk.lt;have d:aL w (((w.alloc (.cells #[.pointer (some ⟨R,0,none⟩)] 33)).alloc (.cells #[.func (.func 54) #[] #[]] 129)).alloc (.cells #[.slice none 0 0] 46)):=(((aL.refl w).alloc _).alloc _).alloc _;have h:(((w.alloc (.cells #[.pointer (some ⟨R,0,none⟩)] 33)).alloc (.cells #[.func (.func 54) #[] #[]] 129)).alloc (.cells #[.slice none 0 0] 46)).heap.size=w.heap.size+3:=by simp
 have N:aK (((w.alloc (.cells #[.pointer (some ⟨R,0,none⟩)] 33)).alloc (.cells #[.func (.func 54) #[] #[]] 129)).alloc (.cells #[.slice none 0 0] 46)) w.heap.size #[.pointer (some ⟨R,0,none⟩)] 33:=((aK.new w _ _).alloc _).alloc _;have O:aK (((w.alloc (.cells #[.pointer (some ⟨R,0,none⟩)] 33)).alloc (.cells #[.func (.func 54) #[] #[]] 129)).alloc (.cells #[.slice none 0 0] 46)) (w.heap.size+1) #[.func (.func 54) #[] #[]] 129:=(lh w _ _ _ _).alloc _;have r:aK (((w.alloc (.cells #[.pointer (some ⟨R,0,none⟩)] 33)).alloc (.cells #[.func (.func 54) #[] #[]] 129)).alloc (.cells #[.slice none 0 0] 46)) (w.heap.size+2) #[.slice none 0 0] 46:=by have:=aK.new ((w.alloc (.cells #[.pointer (some ⟨R,0,none⟩)] 33)).alloc (.cells #[.func (.func 54) #[] #[]] 129)) #[.slice none 0 0] 46;simpa only[World.size_alloc]using this
 have b:=v.below d.below;have z:=CI w.heap.size (w.heap.size+1) (w.heap.size+2) (a.length*aV (fN L).length) R V base (.slice none 0 0) (gm a.length (fN L)) a L (dp L) cv t (((w.alloc (.cells #[.pointer (some ⟨R,0,none⟩)] 33)).alloc (.cells #[.func (.func 54) #[] #[]] 129)).alloc (.cells #[.slice none 0 0] 46)) b b.yl r
  (λW i=>LV w.heap.size (w.heap.size+1) (w.heap.size+2) R base (.slice none 0 0) (.int .i32 1) (.int .u32 0) (.pointer (some ⟨V,0,none⟩)) cv t a L W
   ((((N.other (p:=⟨R,1,none⟩) (a7a y) (.int .i32 1)).below i (by rw[h];omega)).cell 0).trans rfl)
   ((((O.other (p:=⟨R,1,none⟩) (show R≠w.heap.size+1 by omega) (.int .i32 1)).below i (by rw[h];omega)).cell 0).trans rfl)
   ((r.other (p:=⟨R,1,none⟩) (show R≠w.heap.size+2 by omega) (.int .i32 1)).below i (by rw[h];omega))
   ((b.blk.set 1 (.int .i32 1)).below i (by rw[h];omega)) (b.Ak i) x P Q (b.locked i))
 have A:=am d;have B:=am r;have C:=am h;clear v b N O r d h;go_enter Gh.func53,Tryz.ntmps53;go_wp2_with (go_at_call 44;refine z.mono ?_;rintro e S ⟨rfl,q,c,u,j,f,D,l,g⟩;obtain⟨T,U,rfl⟩:=dA g;have E:=((ai B).set 0 (.slice T (a.length*aV (fN L).length) U));have m:aK S (w.heap.size+2) _ _:=(f.block (w.heap.size+2) E.lt (by simp;omega)).trans E;have X:=m.cell 0;simp at X;have F:=am j;have H:=am f;have I:=am l;have J:=am g;clear j f l g E m);go_ret;have K:=ai C;rw[K]at D;refine⟨_,q,c,rfl,ai F,?_,by omega,eA (ai I) (by rw[K];omega),eA (ai J) (by rw[K];omega)⟩;have n:=ai H;have s:=ai A;refine⟨n.os.trans s.below.os,n.tape.trans s.below.tape,n.output.trans s.below.output,?_,λk Y M=>?_⟩
 .have:=n.size;simp at this;omega
 .rw[n.block k (by simp;omega) M,Below.heap_setCell _ _ _ _ (show k≠w.heap.size+2 by omega)];exact s.below.block k Y
def Dk(R V base a L cv g w)(h:ed w base R a L V cv g)(f:a.length<=8)(i:L.length<=100)(j:fY L):Calls Gh.prog.{0} 20 #[.pointer (some ⟨R,0,none⟩)] w λe c=> ∃u d b,e=.returned u/\ed c base R a (dp L) d cv b/\w.grownBy c (some R)/\w.heap.size<=d/\c.ownsRow w.heap.size 137 7 b (dp L).length (aM (dp L))/\c.ownsRow w.heap.size 64 2 u (a.length*aV (fN L).length) (gm a.length (fN L)):=by have k:=LY R V base a L cv g w h f i j;clear h;go_enter Gh.func20,Tryz.ntmps20;go_wp2_with (go_at_call 53;refine k.mono ?_;rintro e q ⟨u,d,b,rfl,l,m,n,o,p⟩);go_ret;exact⟨_,d,b,rfl,l,m,n,o,p⟩
end
end Go.Proofs.q
end
