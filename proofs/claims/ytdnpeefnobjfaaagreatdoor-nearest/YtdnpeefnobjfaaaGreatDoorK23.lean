import Derived.Test.YtdnpeefnobjfaaaGreatDoorK22
set_option maxRecDepth 100000
set_option maxHeartbeats 4000000
set_option linter.all false
section
namespace Go.Proofs.q
open Go.RowKit Go.Shelf Go.Lib
attribute [local go_sem ↓] Go.wp_at_zero Go.wp_at_succ
def Xp(a L):(fy a L).length=L.length:=by simp[fy]
def QF(l base k t L W)(u:W.cell? ⟨l,0,none⟩=some (.int .i64 k))(y:L.length<=1000000)(b:W.ownsRow base 137 7 t L.length (aK L)):Calls Gh.prog.{0} 59 #[.agg #[t],.pointer (some ⟨l,0,none⟩)] W λe W'=> ∃n,e=.returned (.agg #[n])/\W'.ownsRow W.heap.size 137 7 n (fy k L).length (aK (fy k L))/\Below W.heap.size W W':=by
 obtain⟨h,c,rfl⟩:=dH b;have w:=mK W #[.slice h L.length c] 120 #[.slice none 0 0] 120;have d:=(((aJ.refl W).alloc (.cells #[.slice h L.length c] 120)).alloc (.cells #[.slice none 0 0] 120)).below;have i:((W.alloc (.cells #[.slice h L.length c] 120)).alloc (.cells #[.slice none 0 0] 120)).heap.size=W.heap.size+2:=a9i
 have z:=Xq.{0} base h c L k ((W.alloc (.cells #[.slice h L.length c] 120)).alloc (.cells #[.slice none 0 0] 120)) y (cP b d (az _));have A:=(d.cell (p:=⟨l,0,none⟩) (World.block_lt_of_cell? W _ u)).trans u;have B:=ak w;have o:=ak d;have j:=ak i;rw[Xp];clear w d i b;go_enter Gh.func59,Tryz.ntmps59;go_wp2_with (go_at_call 60;refine z.mono ?_;rintro e C ⟨n,rfl,a,g⟩;obtain⟨a1,c1,rfl⟩:=dH a;have f:=(af B).below g (by rw[af j];omega);have s0:=f.cell 0;have D:=f.frozen 0;have q:=ak a;have r:=ak g;clear a g);have s:=f.set 0 (.slice a1 L.length c1);have x:=s.cell 0;simp at x;have E:=af j;refine bodyPost_ret (v:=.agg #[.slice a1 L.length c1]) (by simp[results,Tryz.results59,go_sem,x]) rfl ⟨_,rfl,?_,?_⟩
 .exact dY (cz (af q) f a9j) a9h
 .exact((af o).trans ((af r).mono a9h)).setCell (p:=⟨W.heap.size+1,0,none⟩) a9i _
def QH(R V base b a L cv j w)(h:dK w base R a L V cv j)(t:L.length<=1000000)(u:b<a.length):Calls Gh.prog.{0} 26 #[.pointer (some ⟨R,0,none⟩),.int .i64 b] w λe k=>e=.returned .nilIface/\∃i d,dK k base R a (fy b L) i cv d/\w.grownBy k (some R)/\w.heap.size<=i/\k.ownsRow w.heap.size 137 7 d (fy b L).length (aK (fy b L)):=by
 obtain⟨ac,v,rfl⟩:=dH h.aH;have c:=h.below (bZ w (.cells #[.int .i64 b] 3));have l:=h.blk.lt;have hI:=HY R b ac a.length v (w.alloc (.cells #[.int .i64 b] 3)) ((c.blk.cell 0).trans rfl);have f:(decide ((0:Int)<=(b:Int))&&decide ((b:Int)<(a.length:Nat)))=true:=a9l
 rw[f]at hI;have n:=PM w.heap.size R V base a L (fy b L) _ j (w.alloc (.cells #[.int .i64 b] 3)) c c.AJ (λW s=>QF w.heap.size base b j L W
  ((s.cell (p:=⟨w.heap.size,0,none⟩) a9i).trans ((((aE.new w #[.int .i64 b] 3).other (p:=⟨R,1,none⟩) (b0W l) _).cell 0).trans rfl)) t (c.locked s))
 have x:w.grownBy (w.alloc (.cells #[.int .i64 b] 3)) (some R):=World.grownBy_alloc w _ _;clear h c f;go_enter Gh.func26,Tryz.ntmps26;go_wp2_with (first|(go_at_call 40;refine hI.mono ?_;rintro e y ⟨rfl,rfl⟩)|(go_at_call 44;refine n.mono ?_;rintro e y ⟨rfl,i,d,o,q,r,g⟩));go_ret;simp only[World.size_alloc]at r g;exact⟨rfl,i,d,o,du x q,a9h,dY g a9h⟩
end Go.Proofs.q
end
