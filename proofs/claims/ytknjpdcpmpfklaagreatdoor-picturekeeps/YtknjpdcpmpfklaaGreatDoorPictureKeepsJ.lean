/- What PictureKeeps reaches of my texts, part 10. -/
import Derived.Test.YtknjpdcpmpfklaaGreatDoorPictureKeepsI
set_option maxRecDepth 100000
set_option maxHeartbeats 4000000
set_option maxRecDepth 100000
namespace Go.Proofs.YtknjpdcpmpfklaaGreatDoor
open Go.ChangeShapes Go.WideShapes Go.ChangeAt Go.RowKit
section
variable {H:Type} {enc:TypeId×Value->H} {w:World} {base:Nat} {spare:Nat->Bool} {held:Bool}
theorem Mi.of_row{a:Option Addr}{len cap:Nat}{zs:List Int}
  (h:(a=none/\len=0/\cap=0/\zs=[])\/∃ x,a=some x/\len<=cap/\cap<=maxLen/\len<=zs.length/\(∀ i,i<zs.length->w.cell? (x.add i)=some (.int .u8 (zs.getD i 0)))/\∀ n∈zs,(Lit.int .u8 n).wf=true) :
  ∃ l:List Nat,Mi w (.slice a len cap) l:=by
 rcases h with ⟨rfl,rfl,rfl,rfl⟩ | ⟨x,rfl,hlc,hcm,hz,hcell,hwf⟩
 ·exact⟨[],Mi.nil w⟩
 ·have hlen:((zs.take len).map Int.toNat).length=len:=by simp;omega
  refine⟨(zs.take len).map Int.toNat,some x,cap,by rw[hlen],by rw[hlen];exact hlc,hcm,by simp,?_,?_⟩
  ·intro y hy
   obtain⟨z,hz1,rfl⟩:=List.mem_map.1 hy
   have:=bounds_u8 (hwf z (List.mem_of_mem_take hz1))
   omega
  ·intro hpos
   rw[hlen] at hpos
   have hpos':0<zs.length:=by omega
   obtain⟨b,off,rfl,hc⟩:=ints_at hcell hpos'
   refine⟨b,off,rfl,World.block_lt_of_cell? w _ (hc 0 hpos'),fun i hi=>?_⟩
   rw[hlen] at hi
   have hi':i<zs.length:=by omega
   rw[hc i hi']
   have hwi:=bounds_u8 (hwf zs[i] (List.getElem_mem hi'))
   simp[List.getD,hi',hi]
   omega
theorem Ri{fuel:Nat}{v:Value}{x:DataW H×List MemPlace}
  (h:DataW.trod enc Tryz.prog w base spare held fuel 26 [v]=some x):∃ l:List Nat,Mi w v l:=by
 rcases open_ints Tryz.underlying26 Tryz.underlying5 (by kernel_rfl) h with ⟨hcs,_⟩ | ⟨a,len,cap,zs,hcs,_,hl,hm,hz,_,hcell,hwz⟩
 ·simp at hcs
  subst hcs
  exact⟨[],Mi.nil w⟩
 ·simp at hcs
  subst hcs
  exact Mi.of_row (.inr ⟨a,rfl,hl,hm,by have:=hz;split at this <;> omega,hcell,hwz⟩)
end
end Go.Proofs.YtknjpdcpmpfklaaGreatDoor
set_option maxRecDepth 100000
namespace Go.Proofs.YtknjpdcpmpfklaaGreatDoor
open Go.ChangeShapes Go.WideShapes Go.ChangeAt Go.RowKit Go.Deep Go.Joins
section
variable {H:Type} {enc:TypeId×Value->H} {w:World} {base:Nat} {spare:Nat->Bool} {held:Bool}
theorem Tryz.cellsI:Tryz.prog.cellsOf 3=1:=by kernel_rfl
theorem Tryz.cells_sequence:Tryz.prog.cellsOf 23=4:=by kernel_rfl
theorem V3{r:Reach}{b0:Nat}{v:Value}{d:DataW H}{ps:List MemPlace}(hval:Value.okWide Tryz.prog w r b0 23 v)(h:DataW.Trod enc Tryz.prog w base spare held 23 v d ps) :
  ∃ a b c e:Int,v = .agg #[.int .i64 a,.int .i64 b,.int .i64 c,.int .i64 e]:=by
 obtain⟨cs,rfl,hsz⟩:=okWide_struct Tryz.underlying23 hval
 rw[Tryz.cells_sequence] at hsz
 obtain⟨cs⟩:=cs
 obtain⟨fuel,hf⟩:=h
 match cs,hsz with
 | [c0,c1,c2,c3],_ =>
  obtain⟨y0,y1,y2,y3,n,_,_,h0,h1,h2,h3⟩:=trod_struct4 (cs:=[c0,c1,c2,c3]) Tryz.underlying23 hf
  simp only[Tryz.cellsI,List.drop_zero,List.drop_succ_cons,List.take_succ_cons,List.take_zero] at h0 h1 h2 h3
  obtain⟨a,ha,_,_⟩:=DataW.trod_int Tryz.underlying3 h0
  obtain⟨b,hb,_,_⟩:=DataW.trod_int Tryz.underlying3 h1
  obtain⟨c,hc,_,_⟩:=DataW.trod_int Tryz.underlying3 h2
  obtain⟨e,he,_,_⟩:=DataW.trod_int Tryz.underlying3 h3
  simp only[List.cons.injEq,and_true] at ha hb hc he
  subst ha;subst hb;subst hc;subst he
  exact⟨a,b,c,e,rfl⟩
theorem Tryz.cells_head:Tryz.prog.cellsOf 25=4:=by kernel_rfl
theorem Z6{r:Reach}{b0:Nat}{v:Value}{d:DataW H}{ps:List MemPlace}(hval:Value.okWide Tryz.prog w r b0 25 v)(h:DataW.Trod enc Tryz.prog w base spare held 25 v d ps) :
  ∃ a b c e:Int,v = .agg #[.int .i64 a,.int .i64 b,.int .i64 c,.int .i64 e]:=by
 obtain⟨cs,rfl,hsz⟩:=okWide_struct Tryz.underlying25 hval
 rw[Tryz.cells_head] at hsz
 obtain⟨cs⟩:=cs
 obtain⟨fuel,hf⟩:=h
 match cs,hsz with
 | [c0,c1,c2,c3],_ =>
  obtain⟨y0,y1,y2,y3,n,_,_,h0,h1,h2,h3⟩:=trod_struct4 (cs:=[c0,c1,c2,c3]) Tryz.underlying25 hf
  simp only[Tryz.cellsI,List.drop_zero,List.drop_succ_cons,List.take_succ_cons,List.take_zero] at h0 h1 h2 h3
  obtain⟨a,ha,_,_⟩:=DataW.trod_int Tryz.underlying3 h0
  obtain⟨b,hb,_,_⟩:=DataW.trod_int Tryz.underlying3 h1
  obtain⟨c,hc,_,_⟩:=DataW.trod_int Tryz.underlying3 h2
  obtain⟨e,he,_,_⟩:=DataW.trod_int Tryz.underlying3 h3
  simp only[List.cons.injEq,and_true] at ha hb hc he
  subst ha;subst hb;subst hc;subst he
  exact⟨a,b,c,e,rfl⟩
end
end Go.Proofs.YtknjpdcpmpfklaaGreatDoor
set_option maxRecDepth 100000
namespace Go.Proofs.YtknjpdcpmpfklaaGreatDoor
open Go.ChangeShapes Go.WideShapes Go.ChangeAt Go.RowKit Go.Deep
section
variable {H:Type} {enc:TypeId×Value->H} {w:World} {base:Nat} {spare:Nat->Bool} {held:Bool}
theorem Tryz.cellsF:Tryz.prog.cellsOf 29=5:=by kernel_rfl
theorem Tryz.cellsP:Tryz.prog.cellsOf 27=3:=by kernel_rfl
theorem Tryz.cellsS:Tryz.prog.cellsOf 26=1:=by kernel_rfl
theorem VA{r:Reach}{b0:Nat}{v:Value}{d:DataW H}{ps:List MemPlace}(hval:Value.okWide Tryz.prog w r b0 29 v)(h:DataW.Trod enc Tryz.prog w base spare held 29 v d ps) :
  ∃ (f:FD) (a b c:Value),v = .agg #[.int .i64 f.W,.int .i64 f.H,a,b,c]/\Mi w a f.p0/\Mi w b f.p1/\Mi w c f.p2:=by
 obtain⟨cs,rfl,hsz⟩:=okWide_struct Tryz.underlying29 hval
 rw[Tryz.cellsF] at hsz
 obtain⟨cs⟩:=cs
 obtain⟨fuel,hf⟩:=h
 match cs,hsz with
 | [c0,c1,c2,c3,c4],_ =>
  obtain⟨y0,y1,y2,n,_,_,h0,h1,h2⟩:=trod_struct3 (cs:=[c0,c1,c2,c3,c4]) Tryz.underlying29 hf
  simp only[Tryz.cellsI,Tryz.cellsP,List.drop_zero,List.drop_succ_cons,List.take_succ_cons,List.take_zero] at h0 h1 h2
  obtain⟨W,hW,_,_⟩:=DataW.trod_int Tryz.underlying3 h0
  obtain⟨Hh,hH,_,_⟩:=DataW.trod_int Tryz.underlying3 h1
  obtain⟨xs,m,_,_,_,hn,hel⟩:=DataW.trod_array Tryz.underlying27 h2
  have e0:=hel 0 (by omega)
  have e1:=hel 1 (by omega)
  have e2:=hel 2 (by omega)
  simp only[Tryz.cellsS,Nat.mul_one,List.drop_zero,List.drop_succ_cons,List.take_succ_cons,List.take_zero] at e0 e1 e2
  rw[List.getElem?_eq_getElem (by omega)] at e0 e1 e2
  obtain⟨l0,b0⟩:=Ri e0
  obtain⟨l1,b1⟩:=Ri e1
  obtain⟨l2,b2⟩:=Ri e2
  simp only[List.cons.injEq,and_true] at hW hH
  subst hW;subst hH
  exact⟨⟨W,Hh,l0,l1,l2⟩,c2,c3,c4,rfl,b0,b1,b2⟩
end
end Go.Proofs.YtknjpdcpmpfklaaGreatDoor
set_option maxRecDepth 100000
namespace Go.Proofs.YtknjpdcpmpfklaaGreatDoor
open Go.RowKit
theorem Zm{n:Int}(h:(Lit.int .u16 n).wf=true):∃ m:Nat,n=(m:Int)/\m<65536:=by
 simp[Lit.wf,IntKind.min,IntKind.max,IntKind.signed,IntKind.bits] at h
 exact⟨n.toNat,by omega,by omega⟩
end Go.Proofs.YtknjpdcpmpfklaaGreatDoor
