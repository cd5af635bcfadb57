/- What PictureStill reaches of my texts, part 5. -/
import Derived.Test.YtknjpdcpmpfklaaGreatDoorPictureStillD
set_option maxRecDepth 100000
set_option maxHeartbeats 4000000
set_option maxRecDepth 100000
namespace Go.Proofs.YtknjpdcpmpfklaaGreatDoor
open Go.RowKit
def NB(a b:Int):Value:=.agg #[.int .i64 a,.int .i64 b]
structure P6 (K:TypeId):Prop where
  und:Tryz.prog.underlying K=some (.struct (Tryz.prog.fieldsOf K))
  hel:Tryz.prog.stoodInHeld K=false
  flds : ∃ n0 n1 : String, n0 ≠ "_" ∧ n1 ≠ "_" ∧ (Tryz.prog.fieldsOf K).toList.map (fun f => (f.name, f.type, f.offset)) = [(n0, 3, 0), (n1, 3, 1)]
theorem P6.split{K : TypeId}(h : P6 K) : ∃ f0 f1 : Field, Tryz.prog.fieldsOf K = #[f0, f1] ∧ f0.name ≠ "_" ∧ f1.name ≠ "_" ∧ f0.type = 3 ∧ f1.type = 3 ∧ f0.offset = 0 ∧ f1.offset = 1 := by
 obtain⟨n0,n1,h0,h1,hf⟩:=h.flds
 have hlen:(Tryz.prog.fieldsOf K).toList.length=2:=by simpa using congrArg List.length hf
 match hq:(Tryz.prog.fieldsOf K).toList,hlen with
 | [f0,f1],_ =>
  rw[hq] at hf
  simp only[List.map_cons,List.map_nil,List.cons.injEq,Prod.mk.injEq,and_true] at hf
  obtain⟨⟨e0,t0,o0⟩,⟨e1,t1,o1⟩⟩:=hf
  exact⟨f0,f1,by rw[← hq],by rw[e0];exact h0,by rw[e1];exact h1,t0,t1,o0,o1⟩
theorem YI{K:TypeId}(h:P6 K)(w:World)(a b c d:Int):(Op.equal K (NB a b) (NB c d)).run Tryz.prog w = .ok (NI a b c d) w:=by
 obtain⟨f0,f1,hf,n0,n1,t0,t1,o0,o1⟩:=h.split
 have e:=run_equalIn_struct (P:=Tryz.prog) w 9999 K #[.int .i64 a,.int .i64 b] #[.int .i64 c,.int .i64 d] h.und h.hel
 unfold Op.equal NB
 refine e.trans ?_
 rw[hf]
 have p1:=Pk w #[.int .i64 a,.int .i64 b] 0 a rfl
 have p2:=Pk w #[.int .i64 c,.int .i64 d] 0 c rfl
 have p3:=Pk w #[.int .i64 a,.int .i64 b] 1 b rfl
 have p4:=Pk w #[.int .i64 c,.int .i64 d] 1 d rfl
 simp only[Op.eqFields,t0,o0,t1,o1]
 rw[if_pos n0,if_pos n1]
 simp only[Sem.run_bind,p1,p2,Result.andThen_ok,run_equalIn_int w 9998 3 .i64 .i64 _ _ Tryz.underlying3]
 unfold NI
 by_cases h1:a=c
 ·subst h1
  simp only[beq_self_eq_true,Bool.not_true,Bool.false_eq_true,if_false,Sem.run_bind,p3,p4,Result.andThen_ok,run_equalIn_int w 9998 3 .i64 .i64 _ _ Tryz.underlying3]
  by_cases h2:b=d
  ·subst h2;simp
  ·have:(b==d)=false:=by simpa using h2
   simp[this,h2]
 ·have:(a==c)=false:=by simpa using h1
  simp[this,h1]
theorem Rx{K:TypeId}(h:P6 K)(w:World)(em:Bool)(a b:Int):(Instr.checkKey em 10000 K (NB a b)).run Tryz.prog w = .ok () w:=by
 obtain⟨f0,f1,hf,n0,n1,t0,t1,o0,o1⟩:=h.split
 have hu:=h.und
 rw[hf] at hu
 have p1:=Pk w #[.int .i64 a,.int .i64 b] 0 a rfl
 have p3:=Pk w #[.int .i64 a,.int .i64 b] 1 b rfl
 have hi:∀ z:Int,(Instr.checkKey em 9999 3 (.int .i64 z)).run Tryz.prog w = .ok () w:=fun z=>by
  have e:∀ n,(Instr.checkKey em (n+1) 3 (.int .i64 z)).run Tryz.prog w = .ok () w:=fun n=>by
   unfold Instr.checkKey
   simp only[Sem.run_bind,run_underlying Tryz.underlying3,Result.andThen_ok,Sem.run_pure]
  exact e 9998
 unfold NB
 have e:∀ n,(∀ z:Int,(Instr.checkKey em n 3 (.int .i64 z)).run Tryz.prog w = .ok () w)->(Instr.checkKey em (n+1) K (.agg #[.int .i64 a,.int .i64 b])).run Tryz.prog w = .ok () w:=fun n hn=>by
  unfold Instr.checkKey
  simp[run_underlying hu,n0,n1,t0,t1,o0,o1,p1,p3,hn]
 exact e 9999 hi
def Vd(es:List MapEntry)(L:List ((Int×Int)×Int×Int)):Prop:=es.map (fun e=>(e.key,e.val))=L.map fun q=>(NB q.1.1 q.1.2,NB q.2.1 q.2.2)
def U8(a b:Int):List ((Int×Int)×Int×Int)->Nat->Option (Nat×Int×Int)
 | [],_=>none
 | q::r,i=>if q.1=(a,b) then some (i,q.2) else U8 a b r (i+1)
theorem azl{K:TypeId}(h:P6 K)(w:World)(a b:Int):∀ (L:List ((Int×Int)×Int×Int)) (es:List MapEntry) (i:Nat),Vd es L->(Instr.findAsking K (NB a b) es i).run Tryz.prog w = .ok ((U8 a b L i).map fun z=>(z.1,NB z.2.1 z.2.2)) w:=by
 intro L
 induction L with
 | nil =>
  intro es i he
  have:es=[]:=by simpa [Vd] using he
  subst this
  simp[Instr.findAsking,U8]
 | cons q r ih =>
  intro es i he
  cases es with
  | nil=>simp[Vd] at he
  | cons e es =>
   obtain⟨⟨c,d⟩,X,Y⟩:=q
   simp only[Vd,List.map_cons,List.cons.injEq,Prod.mk.injEq] at he
   obtain⟨⟨e1,e2⟩,he⟩:=he
   simp only[Instr.findAsking,Sem.run_bind,e1,e2,YI h,Result.andThen_ok,U8]
   by_cases hk:(c,d)=(a,b)
   ·cases hk
    rw[Yz,if_pos rfl,if_pos rfl];rfl
   ·rw[if_neg hk]
    have hs:NI a b c d=false:=by
     unfold NI
     by_cases h1:a=c
     ·subst h1
      rw[decide_eq_false (p:=b=d) (fun h2=>hk (by rw[h2])),Bool.and_false]
     ·rw[decide_eq_false h1,Bool.false_and]
    rw[hs,if_neg (by simp)]
    exact ih es (i+1) he
theorem Sm{K:TypeId}(h:P6 K)(w:World)(a b:Int)(L:List ((Int×Int)×Int×Int))(es:List MapEntry)(he:Vd es L):(Instr.findKey K (NB a b) es).run Tryz.prog w = .ok ((U8 a b L 0).map fun z=>(z.1,NB z.2.1 z.2.2)) w:=by
 have ha:=azl h w a b L es 0 he
 unfold Instr.findKey
 cases es with
 | nil =>
  have:L=[]:=by simpa [Vd] using he.symm
  subst this
  simp[run_underlying h.und,Instr.findNow,U8]
 | cons e es =>
  simp only[Sem.run_bind,run_underlying h.und,Result.andThen_ok,Instr.findNow,Instr.sameNow]
  exact ha
abbrev TR:=List ((Int×Int)×Int×Int)
def OI(a b:Int):TR->Int×Int
 | []=>(0,0)
 | q::r=>if q.1=(a,b) then q.2 else OI a b r
def SB(a b X Y:Int):TR->TR
 | []=>[((a,b),X,Y)]
 | q::r=>if q.1=(a,b) then ((a,b),X,Y)::r else q::SB a b X Y r
def Un(a b:Int):TR->TR
 | []=>[]
 | q::r=>if q.1=(a,b) then r else q::Un a b r
theorem WL{a b:Int}:∀ {L:TR} {k:Nat},U8 a b L k=none->OI a b L=(0,0)/\(∀ X Y,SB a b X Y L=L ++ [((a,b),X,Y)])/\Un a b L=L:=by
 intro L
 induction L with
 | nil=>intro k _;exact⟨rfl,fun _ _=>rfl,rfl⟩
 | cons q r ih =>
  intro k h
  rw[U8] at h
  by_cases hq:q.1=(a,b)
  ·rw[if_pos hq] at h;cases h
  ·rw[if_neg hq] at h
   obtain⟨h1,h2,h3⟩:=ih h
   exact⟨by rw[OI,if_neg hq,h1],fun X Y=>by rw[SB,if_neg hq,h2,List.cons_append],by rw[Un,if_neg hq,h3]⟩
theorem WM{a b:Int}{z:Int×Int}:∀ {L:TR} {k j:Nat},U8 a b L k=some (j,z)->∃ i,j=k+i/\L[i]? = some ((a,b),z)/\OI a b L=z/\(∀ X Y,SB a b X Y L=L.set i ((a,b),X,Y))/\Un a b L=L.eraseIdx i:=by
 intro L
 induction L with
 | nil=>intro k j h;cases h
 | cons q r ih =>
  intro k j h
  rw[U8] at h
  by_cases hq:q.1=(a,b)
  ·rw[if_pos hq] at h
   cases h
   exact⟨0,rfl,by rw[List.getElem?_cons_zero,← hq],by rw[OI,if_pos hq],fun X Y=>by rw[SB,if_pos hq];rfl,by rw[Un,if_pos hq];rfl⟩
  ·rw[if_neg hq] at h
   obtain⟨i,h1,h2,h3,h4,h5⟩:=ih h
   exact⟨i+1,by omega,by rw[List.getElem?_cons_succ];exact h2,by rw[OI,if_neg hq,h3],fun X Y=>by rw[SB,if_neg hq,h4];rfl,by rw[Un,if_neg hq,h5];rfl⟩
theorem aC4(a b X Y c d:Int)(L:TR):OI c d (SB a b X Y L)=if (c,d)=(a,b) then (X,Y) else OI c d L:=by
 induction L with
 | nil =>
  by_cases h:(c,d)=(a,b)
  ·rw[if_pos h,SB]
   simp only[OI]
   rw[if_pos h.symm]
  ·rw[if_neg h,SB]
   simp only[OI]
   rw[if_neg (fun e=>h e.symm)]
 | cons q r ih =>
  rw[SB]
  by_cases hq:q.1=(a,b)
  ·rw[if_pos hq,OI]
   by_cases h:(c,d)=(a,b)
   ·rw[if_pos h,if_pos h.symm]
   ·rw[if_neg h,if_neg (fun e=>h e.symm),OI,if_neg (fun e=>h (by rw[← e,hq]))]
  ·rw[if_neg hq,OI,OI,ih]
   by_cases h2:q.1=(c,d)
   ·rw[if_pos h2,if_pos h2,if_neg (fun e=>hq (by rw[h2,e]))]
   ·rw[if_neg h2,if_neg h2]
theorem aCw{c d:Int}{L:TR}(h:(c,d)∉L.map (·.1)):OI c d L=(0,0):=by
 induction L with
 | nil=>rfl
 | cons q r ih =>
  simp only[List.map_cons,List.mem_cons,not_or] at h
  rw[OI,if_neg (fun e=>h.1 e.symm)];exact ih h.2
theorem aCC(a b c d:Int)(L:TR)(hn:(L.map (·.1)).Nodup):OI c d (Un a b L)=if (c,d)=(a,b) then (0,0) else OI c d L:=by
 induction L with
 | nil=>rw[Un,OI];split <;> rfl
 | cons q r ih =>
  simp only[List.map_cons,List.nodup_cons] at hn
  rw[Un]
  by_cases hq:q.1=(a,b)
  ·rw[if_pos hq]
   by_cases h:(c,d)=(a,b)
   ·rw[if_pos h];exact aCw (by rw[h,← hq];exact hn.1)
   ·rw[if_neg h,OI,if_neg (fun e=>h (by rw[← e,hq]))]
  ·rw[if_neg hq,OI,OI,ih hn.2]
   by_cases h2:q.1=(c,d)
   ·rw[if_pos h2,if_pos h2,if_neg (fun e=>hq (by rw[h2,e]))]
   ·rw[if_neg h2,if_neg h2]
theorem aBG(a b X Y:Int)(L:TR)(k:Int×Int):k∈(SB a b X Y L).map (·.1)↔k=(a,b)\/k∈L.map (·.1):=by
 induction L with
 | nil=>simp[SB]
 | cons q r ih =>
  rw[SB]
  by_cases hq:q.1=(a,b)
  ·rw[if_pos hq];simp only[List.map_cons,List.mem_cons,hq]
   constructor
   ·rintro (h|h)
    ·exact .inl h
    ·exact .inr (.inr h)
   ·rintro (h|h|h)
    ·exact .inl h
    ·exact .inl h
    ·exact .inr h
  ·rw[if_neg hq];simp only[List.map_cons,List.mem_cons,ih]
   constructor
   ·rintro (h|h|h)
    ·exact .inr (.inl h)
    ·exact .inl h
    ·exact .inr (.inr h)
   ·rintro (h|h|h)
    ·exact .inr (.inl h)
    ·exact .inl h
    ·exact .inr (.inr h)
theorem aAN(a b X Y:Int)(L:TR)(hn:(L.map (·.1)).Nodup):((SB a b X Y L).map (·.1)).Nodup:=by
 induction L with
 | nil=>simp[SB]
 | cons q r ih =>
  simp only[List.map_cons,List.nodup_cons] at hn
  rw[SB]
  by_cases hq:q.1=(a,b)
  ·rw[if_pos hq];simp only[List.map_cons,List.nodup_cons];exact⟨by rw[← hq];exact hn.1,hn.2⟩
  ·rw[if_neg hq];simp only[List.map_cons,List.nodup_cons]
   refine⟨fun h=>?_,ih hn.2⟩
   rcases (aBG a b X Y r q.1).1 h with h|h
   ·exact hq h
   ·exact hn.1 h
theorem aD9(a b:Int)(L:TR):(Un a b L).Sublist L:=by
 induction L with
 | nil=>exact List.Sublist.refl _
 | cons q r ih =>
  rw[Un]
  split
  ·exact List.sublist_cons_self _ _
  ·exact ih.cons_cons _
theorem aAU(a b:Int)(L:TR)(hn:(L.map (·.1)).Nodup):((Un a b L).map (·.1)).Nodup:=List.Nodup.sublist ((aD9 a b L).map _) hn
def Xh(w:World)(r:Nat)(g:Int->Int->Int×Int):Prop:=∃ es clock L,w.heap[r]? = some (.map es clock)/\Vd es.toList L/\(L.map (·.1)).Nodup/\∀ a b,OI a b L=g a b
theorem Xh.lt{w:World}{r:Nat}{g:Int->Int->Int×Int}(h:Xh w r g):r<w.heap.size:=by obtain⟨_,_,_,h,_⟩:=h;exact M5 h
theorem Xh.all{S:Nat->Prop}{w w':World}{r:Nat}{g:Int->Int->Int×Int}(h:Xh w r g)(k:KR S w w')(hn:¬ S r):Xh w' r g:=by
 obtain⟨es,clock,L,h1,h2⟩:=h;exact⟨es,clock,L,k.at h1 hn,h2⟩
instance {w w':World} {r:Nat} {g:Int->Int->Int×Int}:Cr w w' (Xh w r g) (Xh w' r g):=⟨fun h k=>h.all k id⟩
instance {w:World} {r:Nat} {g:Int->Int->Int×Int}:Lv w (Xh w r g) (Lh r):=⟨fun h=>L8 h.lt⟩
theorem Xh.congr{w:World}{r:Nat}{g g':Int->Int->Int×Int}(h:Xh w r g)(e:∀ a b,g a b=g' a b):Xh w r g':=by
 obtain⟨es,clock,L,h1,h2,h3,h4⟩:=h;exact⟨es,clock,L,h1,h2,h3,fun a b=>(h4 a b).trans (e a b)⟩
def Xi(g:Int->Int->Int×Int)(a b X Y:Int):Int->Int->Int×Int:=fun c d=>if (c,d)=(a,b) then (X,Y) else g c d
section
variable {ρ:Operand->Value} {o:Oper} {w:World} {R:Value->World->Prop} {M K E:TypeId}
theorem YO{x ix:Operand}{r:Nat}{a b:Int}{g:Int->Int->Int×Int}(hK:P6 K)(hM:Tryz.prog.underlying M=some (.map K E))(hz:(Tryz.prog.info? E).bind (·.zero)=some (NB 0 0))(ho:o.op = .lookup M x ix false)(hx:ρ x = .map (some r))(hi:ρ ix=NB a b)(hB:Xh w r g)(h:R (NB (g a b).1 (g a b).2) w):Lg Tryz.prog ρ o w R:=by
 obtain⟨es,clock,L,h1,h2,_,h4⟩:=hB
 have hf:=Sm hK w a b L es.toList h2
 have hc:=Rx hK w es.isEmpty a b
 have hz':(zeroValue E).run Tryz.prog w = .ok (NB 0 0) w:=by
  cases hq:Tryz.prog.info? E with
  | none=>rw[hq] at hz;cases hz
  | some i =>
   have:i.zero=some (NB 0 0):=by rw[hq] at hz;exact hz
   simp[zeroValue,typeInfo,hq,this]
 refine Nf (v:=NB (g a b).1 (g a b).2) (w':=w) ?_ h
 rw[← h4 a b]
 cases hq:U8 a b L 0 with
 | none =>
  rw[hq] at hf
  rw[(WL hq).1]
  simp[execOp,ho,hx,hi,Instr.lookup,run_underlying hM,MapKept.run_getObj_map h1,hc,hf,hz']
 | some z =>
  obtain⟨j,X,Y⟩:=z
  obtain⟨i,_,_,e,_⟩:=WM hq
  rw[hq] at hf
  rw[e]
  simp[execOp,ho,hx,hi,Instr.lookup,run_underlying hM,MapKept.run_getObj_map h1,hc,hf]
theorem Zn{w:World}{r:Nat}{ob:Obj}(h:r<w.heap.size):({ w with heap:=w.heap.setIfInBounds r ob }:World).heap[r]? = some ob:=by simp[h]
theorem ZZ(w:World)(r:Nat)(ob:Obj):KR (Lh r) w { w with heap:=w.heap.setIfInBounds r ob }:=⟨rfl,rfl,rfl,by simp,fun i hi hn=>by
 have:r≠i:=fun e=>hn e.symm
 simp[Array.getElem?_setIfInBounds_ne this]⟩
theorem XV{α β:Type}(f:α->β):∀ (l:List α) (i:Nat),(l.eraseIdx i).map f=(l.map f).eraseIdx i:=by
 intro l
 induction l with
 | nil=>intro i;rfl
 | cons x l ih =>
  intro i
  cases i with
  | zero=>rfl
  | succ i=>simp[ih i]
theorem aDY{es:List MapEntry}{L:TR}(h:Vd es L){i:Nat}{q:(Int×Int)×Int×Int}(hq:L[i]? = some q):∃ e,es[i]? = some e/\e.key=NB q.1.1 q.1.2/\e.val=NB q.2.1 q.2.2:=by
 have:=congrArg (fun l=>l[i]?) h
 simp only[List.getElem?_map,hq,Option.map_some] at this
 cases he:es[i]? with
 | none=>rw[he] at this;cases this
 | some e =>
  rw[he] at this
  simp only[Option.map_some,Option.some.injEq,Prod.mk.injEq] at this
  exact⟨e,rfl,this.1,this.2⟩
theorem aAy(a b:Int):Instr.sameBits 10000 (NB a b) (NB a b)=true:=by
 have e:∀ n,Instr.sameBits (n+1) (NB a b) (NB a b)=true:=fun n=>by
  unfold NB Instr.sameBits
  simp[Instr.sameBits]
 exact e 9999
theorem aEL{x ix y:Operand}{r:Nat}{a b X Y:Int}{g:Int->Int->Int×Int}(hK:P6 K)(hM:Tryz.prog.underlying M=some (.map K E))(ho:o.op = .mapUpdate M x ix y)(hx:ρ x = .map (some r))(hi:ρ ix=NB a b)(hy:ρ y=NB X Y)(hB:Xh w r g)
  (h:∀ u w',Xh w' r (Xi g a b X Y)->KR (Lh r) w w'->R u w'):Lg Tryz.prog ρ o w R:=by
 obtain⟨es,clock,L,h1,h2,h3,h4⟩:=hB
 have hlt:=M5 h1
 have hf:=Sm hK w a b L es.toList h2
 have hc:=Rx hK w false a b
 have hlay:∀ c d,OI c d (SB a b X Y L)=Xi g a b X Y c d:=fun c d=>by rw[aC4];unfold Xi;rw[h4]
 have main:∀ es' clock',Vd es'.toList (SB a b X Y L)->(Instr.mapUpdate M (.map (some r)) (NB a b) (NB X Y)).run Tryz.prog w = .ok () { w with heap:=w.heap.setIfInBounds r (.map es' clock') }->Lg Tryz.prog ρ o w R:=by
  intro es' clock' he hr
  have hB':Xh { w with heap:=w.heap.setIfInBounds r (.map es' clock') } r (Xi g a b X Y):=⟨es',clock',_,Zn hlt,he,aAN a b X Y L h3,hlay⟩
  unfold Lg
  have e:(execOp ρ o).run Tryz.prog w = .ok .skip { w with heap:=w.heap.setIfInBounds r (.map es' clock') }\/(execOp ρ o).run Tryz.prog w = .ok (.value undef) { w with heap:=w.heap.setIfInBounds r (.map es' clock') }:=by
   simp[execOp,ho,hx,hi,hy,hr]
  rcases e with e|e <;> rw[e] <;> exact h _ _ hB' (ZZ w r _)
 cases hq:U8 a b L 0 with
 | none =>
  rw[hq] at hf
  refine main (es.push { key:=NB a b,val:=NB X Y,born:=clock }) (clock+1) ?_ ?_
  ·rw[(WL hq).2.1 X Y,Array.toList_push]
   unfold Vd at h2 ⊢
   rw[List.map_append,List.map_append,h2];rfl
  ·simp[Instr.mapUpdate,run_underlying hM,MapKept.run_getObj_map h1,hc,hf,MapKept.run_setObj_map _ h1]
 | some z =>
  obtain⟨j,X0,Y0⟩:=z
  obtain⟨i,hji,hLi,_,hset,_⟩:=WM hq
  have hji:j=i:=by omega
  subst hji
  rw[hq] at hf
  obtain⟨e,he,hek,hev⟩:=aDY h2 hLi
  have he':es[j]? = some e:=by simpa using he
  refine main (es.modify j fun e=>{ e with key:=NB a b,val:=NB X Y }) clock ?_ ?_
  ·rw[hset X Y]
   unfold Vd at h2 ⊢
   apply List.ext_getElem?
   intro n
   have h2n:=congrArg (fun l=>l[n]?) h2
   simp only[List.getElem?_map] at h2n
   rw[List.getElem?_map,List.getElem?_map,Array.getElem?_toList,Array.getElem?_modify]
   have hes:es.toList[n]? = es[n]? := Array.getElem?_toList
   rw[hes] at h2n
   by_cases hn:j=n
   ·subst hn
    rw[if_pos rfl,he',List.getElem?_set_self (List.getElem?_eq_some_iff.1 hLi).1];rfl
   ·rw[if_neg hn,List.getElem?_set_ne hn];exact h2n
  ·have hkk:((es[j]?).map (·.key)).getD (NB a b)=NB a b:=by rw[he'];exact hek
   simp[Instr.mapUpdate,run_underlying hM,MapKept.run_getObj_map h1,hc,hf,MapKept.run_setObj_map _ h1,hkk,Instr.keyThatStays,aAy]
theorem aET{c:Call}{x ix:Operand}{r:Nat}{a b:Int}{g:Int->Int->Int×Int}(hK:P6 K)(hM:Tryz.prog.underlying M=some (.map K E))(ho:o.op = .call c)(hc':c={ callee:=.builtin .delete,args:=#[x,ix],argTypes:=#[M,K] })(hx:ρ x = .map (some r))(hi:ρ ix=NB a b)(hB:Xh w r g)
  (h:∀ u w',Xh w' r (Xi g a b 0 0)->KR (Lh r) w w'->R u w'):Lg Tryz.prog ρ o w R:=by
 subst hc'
 obtain⟨es,clock,L,h1,h2,h3,h4⟩:=hB
 have hlt:=M5 h1
 have hf:=Sm hK w a b L es.toList h2
 have hc:=Rx hK w es.isEmpty a b
 have hlay:∀ c d,OI c d (Un a b L)=Xi g a b 0 0 c d:=fun c d=>by rw[aCC a b c d L h3];unfold Xi;rw[h4]
 have main:∀ es',Vd es'.toList (Un a b L)->(Builtin.delete_ #[M,K] o.type #[.map (some r),NB a b]).run Tryz.prog w = .ok (.tuple #[]) { w with heap:=w.heap.setIfInBounds r (.map es' clock) }->Lg Tryz.prog ρ o w R:=by
  intro es' he hr
  have hB':Xh { w with heap:=w.heap.setIfInBounds r (.map es' clock) } r (Xi g a b 0 0):=⟨es',clock,_,Zn hlt,he,aAU a b L h3,hlay⟩
  exact Nf (v:=.tuple #[]) (by simp[execOp,ho,resolve,invoke,builtin,hx,hi,hr]) (h _ _ hB' (ZZ w r _))
 cases hq:U8 a b L 0 with
 | none =>
  rw[hq] at hf
  refine main es (by rw[(WL hq).2.2];exact h2) ?_
  simp[Builtin.delete_,run_underlying hM,MapKept.run_getObj_map h1,hc,hf,MapKept.run_setObj_map _ h1]
 | some z =>
  obtain⟨j,X0,Y0⟩:=z
  obtain⟨i,hji,hLi,_,_,hdel⟩:=WM hq
  have hji:j=i:=by omega
  subst hji
  rw[hq] at hf
  refine main (es.eraseIdxIfInBounds j) ?_ ?_
  ·rw[hdel]
   unfold Vd at h2 ⊢
   rw[Array.toList_eraseIdxIfInBounds,XV,XV,h2]
  ·simp[Builtin.delete_,run_underlying hM,MapKept.run_getObj_map h1,hc,hf,MapKept.run_setObj_map _ h1]
theorem ayI(ho:o.op = .makeMap M none)(h:∀ r w',Xh w' r (fun _ _=>(0,0))->KS w Mb (Lh r)->KR (fun _=>False) w w'->R (.map (some r)) w'):Lg Tryz.prog ρ o w R :=
 Nf (v:=.map (some w.heap.size)) (w':=w.alloc (.map #[] 0)) (by simp[execOp,ho,Instr.makeMap,go_sem]) (h _ _ ⟨#[],0,[],heap_alloc_new _ _,rfl,by simp,fun _ _=>rfl⟩ (L7 (Nat.le_refl _)) ((KR.refl _ _).alloc _))
end
open Go.RowKit
def Q7(f:VF):Int->Int->Int×Int:=fun a b=>(f.X a b,f.Y a b)
def Vfp(w:World)(T:Nat->Prop)(p:Nat)(f:VF):Prop:=∃ r,(∀ i,T i↔(Lh p i\/Lh r i))/\MJ w p 136 [.int .i64 f.w,.int .i64 f.h,.map (some r)]/\Xh w r (Q7 f)/\KO (Lh p) (Lh r)/\OkV f
theorem Vfp.live{w:World}{T:Nat->Prop}{p:Nat}{f:VF}(h:Vfp w T p f):PI w T:=by
 obtain⟨r,hT,h1,h2,_⟩:=h
 exact fun i hi=>((hT i).1 hi).elim (fun e=>by cases e;exact h1.lt) (fun e=>by cases e;exact h2.lt)
theorem Vfp.all{S:Nat->Prop}{w w':World}{T:Nat->Prop}{p:Nat}{f:VF}(h:Vfp w T p f)(k:KR S w w')(ha:KO T S):Vfp w' T p f:=by
 obtain⟨r,hT,h1,h2,h3,h4⟩:=h
 exact⟨r,hT,h1.all k (ha p ((hT p).2 (Or.inl rfl))),h2.all k (ha r ((hT r).2 (Or.inr rfl))),h3,h4⟩
theorem Vfp.ok{w:World}{T:Nat->Prop}{p:Nat}{f:VF}(h:Vfp w T p f):OkV f:=by obtain⟨_,_,_,_,_,h⟩:=h;exact h
def Qn(w:World)(T:Nat->Prop)(v:Value)(o:Option VF):Prop:=match o with
 | none=>v = .pointer none/\T=Mb
 | some f=>∃ p,v = .pointer (some ⟨p,0,none⟩)/\Vfp w T p f
theorem Qn.nil(w:World):Qn w Mb (.pointer none) none:=⟨rfl,rfl⟩
theorem Qn.live{w:World}{T:Nat->Prop}{v:Value}{o:Option VF}(h:Qn w T v o):PI w T:=by
 cases o with
 | none=>obtain⟨_,rfl⟩:=h;exact fun _ h=>h.elim
 | some f=>obtain⟨p,_,h⟩:=h;exact h.live
theorem Qn.all{S:Nat->Prop}{w w':World}{T:Nat->Prop}{v:Value}{o:Option VF}(h:Qn w T v o)(k:KR S w w')(ha:KO T S):Qn w' T v o:=by
 cases o with
 | none=>exact h
 | some f=>obtain⟨p,e,h⟩:=h;exact⟨p,e,h.all k ha⟩
instance {w w':World} {T:Nat->Prop} {v:Value} {o:Option VF}:Cr w w' (Qn w T v o) (Qn w' T v o):=⟨fun h k=>h.all k KO.none⟩
instance {w:World} {T:Nat->Prop} {v:Value} {o:Option VF}:Lv w (Qn w T v o) (T):=⟨fun h=>h.live⟩
theorem Qn.ok{w:World}{T:Nat->Prop}{v:Value}{f:VF}(h:Qn w T v (some f)):OkV f:=by obtain⟨_,_,h⟩:=h;exact h.ok
theorem Qn.isnil{w:World}{T:Nat->Prop}{v:Value}{o:Option VF}(h:Qn w T v o):∃ a,v = .pointer a/\a.isNone=o.isNone:=by
 cases o with
 | none=>exact⟨none,h.1,rfl⟩
 | some f=>obtain⟨p,e,_⟩:=h;exact⟨_,e,rfl⟩
def inI(n:Int):Prop := -9223372036854775808<=n/\n<=9223372036854775807
open Go.RowKit
theorem M7:Rf Tryz.prog 106 3:=⟨_,Tryz.underlying106,rfl,by kernel_rfl⟩
def YC(w:World)(T:Nat->Prop)(g:Nat)(l:List Nat):Prop:=T=Lh g/\w.heap[g]? = some (.cells (LK l).toArray 5 (0,0))
theorem YC.live{w:World}{T:Nat->Prop}{g:Nat}{l:List Nat}(h:YC w T g l):PI w T:=by
 obtain⟨rfl,h⟩:=h;exact L8 (M5 h)
theorem YC.all{S:Nat->Prop}{w w':World}{T:Nat->Prop}{g:Nat}{l:List Nat}(h:YC w T g l)(k:KR S w w')(ha:KO T S):YC w' T g l:=by
 obtain⟨rfl,h⟩:=h;exact⟨rfl,k.at h (ha g rfl)⟩
instance {w w':World} {T:Nat->Prop} {g:Nat} {l:List Nat}:Cr w w' (YC w T g l) (YC w' T g l):=⟨fun h k=>h.all k KO.none⟩
instance {w:World} {T:Nat->Prop} {g:Nat} {l:List Nat}:Lv w (YC w T g l) (T):=⟨fun h=>h.live⟩
def okR(l:List Nat)(st:Option Nat)(a:Nat)(b:Bool):Prop:=match st with
 | some n=>n<=8*l.length/\a=n/\b=false
 | none=>b=true
theorem QS{w:World}{p g:Nat}{l:List Nat}{st:Option Nat}(h:RI w p g l st):∃ (a:Nat) (b:Bool),okR l st a b/\MJ w p 106 [.slice (some ⟨g,0,none⟩) l.length l.length,.int .i64 (a:Int),.bool b]/\YC w (Lh g) g l/\KO (Lh p) (Lh g):=by
 cases st with
 | none =>
  obtain⟨a,h⟩:=h
  exact⟨a,true,rfl,h.1,⟨rfl,h.2.1⟩,fun i h1 h2=>h.2.2 (h2.symm.trans h1)⟩
 | some n=>exact⟨n,false,⟨h.1,rfl,rfl⟩,h.2.1,⟨rfl,h.2.2.1⟩,fun i h1 h2=>h.2.2.2 (h2.symm.trans h1)⟩
theorem Ra{w:World}{p g:Nat}{l:List Nat}{st:Option Nat}{a:Nat}{b:Bool}(ho:okR l st a b)(h1:MJ w p 106 [.slice (some ⟨g,0,none⟩) l.length l.length,.int .i64 (a:Int),.bool b])(h2:YC w (Lh g) g l)(ha:KO (Lh p) (Lh g)):RI w p g l st:=by
 have hne:g≠p:=fun e=>ha g e rfl
 cases st with
 | none=>cases ho;exact⟨a,h1,h2.2,hne⟩
 | some n=>obtain⟨h3,rfl,rfl⟩:=ho;exact⟨h3,h1,h2.2,hne⟩
theorem aB0{w:World}{T:Nat->Prop}{p:Nat}{l:List Nat}{st:Option Nat}(h:P2 w T p l st):∃ (g a:Nat) (b:Bool),PA l/\(∀ i,T i↔(Lh p i\/Lh g i))/\okR l st a b/\MJ w p 106 [.slice (some ⟨g,0,none⟩) l.length l.length,.int .i64 (a:Int),.bool b]/\YC w (Lh g) g l/\KO (Lh p) (Lh g):=by
 obtain⟨hf,g,rfl,h⟩:=h
 obtain⟨a,b,h1,h2,h3,h4⟩:=QS h
 exact⟨g,a,b,hf,fun i=>Iff.rfl,h1,h2,h3,h4⟩
theorem ME{w:World}{p g:Nat}{l:List Nat}{st:Option Nat}{a:Nat}{b:Bool}(hf:PA l)(ho:okR l st a b)(h1:MJ w p 106 [.slice (some ⟨g,0,none⟩) l.length l.length,.int .i64 (a:Int),.bool b])(h2:YC w (Lh g) g l)(ha:KO (Lh p) (Lh g)):P2 w (fun i=>Lh p i\/Lh g i) p l st:=⟨hf,g,rfl,Ra ho h1 h2 ha⟩
def Nc(l:List Nat)(gx gy:Int)(s:Option Nat):Option Nat:=if SN l gx gy s then vrS l s else s
theorem Rw{l:List Nat}{gx gy:Int}{s:Option Nat}(h:QN l gx gy s=0):Nc l gx gy s=vrS l s:=by
 unfold QN at h;unfold Nc
 split at h
 ·rename_i h';rw[if_pos h']
 ·cases h
theorem QW : P6 138 := ⟨Tryz.underlying138, by kernel_rfl, "x", "y", by decide, by decide, by kernel_rfl⟩
theorem OC:Rf Tryz.prog 138 2:=⟨_,Tryz.underlying138,rfl,by kernel_rfl⟩
theorem Wi(n:Int)(w0:World) :
  Calls Tryz.prog 94 #[.int .i64 (n)] w0 fun e w'=>e = .returned (.bool (decide (1<=n/\n<=16)))/\KR (fun _=>False) w0 w':=by
 refine Ly (args:=[iv n]) 9 Tryz.func94 rfl rfl (Nat.le_of_ble_eq_true rfl) ?_
 have K0:=KR.refl (fun _=>False) w0
 refine KM (KL (Lb (.bool false) LE (KQ ?_)))
 have s3:=K4 (iv n)
 have s4:=K4 (undef)
 refine KK (KM ?_)
 by_cases d5:1<=n
 ·skip
  refine KL (K2 Lw s3 (KN (.bool true) rr (NO rfl rfl rfl (decide_eq_true d5) rr) (KN (.bool true) rr (KT rfl rfl rr) (Lj (iv n) 2 true 5 Li (KT rfl s3 rr) (Lj (.bool (decide (n<=16))) 2 true 5 Li (Vx rfl rfl rfl rfl rr) (KN (.bool (decide (n<=16))) rr (LB rfl rfl rfl rr) (Lb (.bool (decide (n<=16))) LE (KQ ?_))))))))
  have s9:=K4 (.bool (decide (n<=16)))
  refine KK (Le ?_)
  exact LC (v:=.bool (decide (n<=16))) s4 rfl rfl s9 ⟨(PS (by first|exact(decide_eq_true (by omega)).symm|exact(decide_eq_false (by omega)).symm|exact decide_eq_decide.2 (by omega))),K0⟩
 ·skip
  refine KL (K2 Lw s3 (KN (.bool false) rr (NO rfl rfl rfl (decide_eq_false d5) rr) (KN (.bool false) rr (KT rfl rfl rr) (Lq 2 true 5 Li (Lq 2 true 5 Li (KN (.bool false) rr (Lt rfl rfl rfl rr) (Lb (.bool false) LE (KQ ?_))))))))
  have ah:=K4 (.bool false)
  refine KK (Le ?_)
  exact LC (v:=.bool false) s4 rfl rfl ah ⟨(PS (by first|exact(decide_eq_true (by omega)).symm|exact(decide_eq_false (by omega)).symm|exact decide_eq_decide.2 (by omega))),K0⟩
theorem RK(x n:Int)(w0:World) :
  Calls Tryz.prog 102 #[.int .i64 (x),.int .i64 (n)] w0 fun e w'=>e = .returned (.bool (decide (0<=x/\x<n)))/\KR (fun _=>False) w0 w':=by
 refine Ly (args:=[iv x,iv n]) 12 Tryz.func102 rfl rfl (Nat.le_of_ble_eq_true rfl) ?_
 have K0:=KR.refl (fun _=>False) w0
 refine KM (KL (Lb (.bool false) LE (KQ ?_)))
 have s3:=K4 (iv x)
 have s4:=K4 (iv n)
 have s5:=K4 (undef)
 refine KK (KM ?_)
 by_cases d6:0<=x
 ·skip
  refine KL (K2 Lw s3 (KN (.bool true) rr (NO rfl rfl rfl (decide_eq_true d6) rr) (KN (.bool true) rr (KT rfl rfl rr) (Lj (iv x) 2 true 7 Li (KT rfl s3 rr) (Lj (iv n) 2 true 7 Li (KT rfl s4 rr) (Lj (.bool (decide (x<n))) 2 true 7 Li (Mc rfl rfl rfl rfl rr) (KN (.bool (decide (x<n))) rr (LB rfl rfl rfl rr) (Lb (.bool (decide (x<n))) LE (KQ ?_)))))))))
  have ah:=K4 (.bool (decide (x<n)))
  refine KK (Le ?_)
  exact LC (v:=.bool (decide (x<n))) s5 rfl rfl ah ⟨(PS (by first|exact(decide_eq_true (by omega)).symm|exact(decide_eq_false (by omega)).symm|exact decide_eq_decide.2 (by omega))),K0⟩
 ·skip
  refine KL (K2 Lw s3 (KN (.bool false) rr (NO rfl rfl rfl (decide_eq_false d6) rr) (KN (.bool false) rr (KT rfl rfl rr) (Lq 2 true 7 Li (Lq 2 true 7 Li (Lq 2 true 7 Li (KN (.bool false) rr (Lt rfl rfl rfl rr) (Lb (.bool false) LE (KQ ?_)))))))))
  have ai:=K4 (.bool false)
  refine KK (Le ?_)
  exact LC (v:=.bool false) s5 rfl rfl ai ⟨(PS (by first|exact(decide_eq_true (by omega)).symm|exact(decide_eq_false (by omega)).symm|exact decide_eq_decide.2 (by omega))),K0⟩
theorem Wf(a b c:Int)(w0:World) :
  Calls Tryz.prog 126 #[.int .i64 (a),.int .i64 (b),.int .i64 (c)] w0 fun e w'=>e = .returned (.int .i64 (Tr a b c))/\KR (fun _=>False) w0 w':=by
 refine Ly (args:=[iv a,iv b,iv c]) 16 Tryz.func126 rfl rfl (Nat.le_of_ble_eq_true rfl) ?_
 refine KM (KL (Lb (iv 0) LE (KQ ?_)))
 have s3:=K4 (iv a)
 have s4:=K4 (iv b)
 have s5:=K4 (iv c)
 have s6:=K4 (undef)
 refine KK (KM (KL (K2 Lw s3 (K2 Lw s4 (KN (iv (min a b)) rr (RB rfl rfl rfl rfl rr) (K2 Lw s3 (K2 Lw s4 (KN (iv (max a b)) rr (R9 rfl rfl rfl rfl rr) (K2 Lw s5 (KN (iv (min (max a b) c)) rr (RB rfl rfl rfl rfl rr) (KN (iv (max (min a b) (min (max a b) c))) rr (R9 rfl rfl rfl rfl rr) ?_)))))))))))
 refine Lb (iv (max (min a b) (min (max a b) c))) LE (KQ ?_)
 have af:=K4 (iv (max (min a b) (min (max a b) c)))
 refine KK (Le ?_)
 exact LC (v:=iv (max (min a b) (min (max a b) c))) s6 rfl rfl af ⟨rfl,(KR.refl (fun _=>False) w0)⟩
theorem aBa(a b c d m n:Int)(w0:World) :
  Calls Tryz.prog 95 #[.agg #[.int .i64 (a),.int .i64 (b)],.agg #[.int .i64 (c),.int .i64 (d)],.agg #[.int .i64 (m),.int .i64 (n)]] w0 fun e w'=>e = .returned (.agg #[.int .i64 (Tr a c m),.int .i64 (Tr b d n)])/\KR (fun _=>False) w0 w':=by
 refine Ly (args:=[.agg #[iv a,iv b],.agg #[iv c,iv d],.agg #[iv m,iv n]]) 22 Tryz.func95 rfl rfl (Nat.le_of_ble_eq_true rfl) ?_
 refine KM (KL (LJ (vs:=[iv a,iv b]) rfl rfl rfl rfl fun p1 w2 B4 g5 k3=>?_))
 refine LJ (vs:=[iv c,iv d]) rfl rfl rfl rfl fun p8 w9 aB af ah=>?_
 have aC:=B4.all ah id
 refine LJ (vs:=[iv m,iv n]) rfl rfl rfl rfl fun ac bf aD bg ai=>?_
 obtain⟨aE,aF⟩:=Oe ai aC aB
 have aj:=(((KR.refl (fun _=>False) w0).tr k3).tr ah).tr ai
 refine LN (n:=2) (vs:=[iv 0,iv 0]) rfl rfl rfl (by kernel_rfl) fun aG bh aH aI ak=>?_
 obtain⟨am,an,ao⟩:=Od ak aE aF aD
 refine KQ ?_
 have aJ:=K4 (undef)
 have ap:=K4 (pt p1 0)
 have aq:=K4 (pt p8 0)
 have ar:=K4 (pt ac 0)
 have aK:=K4 (pt aG 0)
 refine KK (KM ?_)
 refine NJ 15 [some 7,some 8,some 9,some 10,some 11,some 12,some 13,some 14,some 15,some 16,some 17,some 18,some 19,some 20,some 21] [Pd.eq (pt p1 0),Pd.eq (iv a),Pd.eq (pt p8 0),Pd.eq (iv c),Pd.eq (pt ac 0),Pd.eq (iv m),Pd.eq (iv (Tr a c m)),Pd.eq (pt p1 1),Pd.eq (iv b),Pd.eq (pt p8 1),Pd.eq (iv d),Pd.eq (pt ac 1),Pd.eq (iv n),Pd.eq (iv (Tr b d n)),Pd.eq (.agg #[iv (Tr a c m),iv (Tr b d n)])] (by kernel_rfl) (by kernel_rfl) (by kernel_rfl) ?_ ?_
 ·refine KP ?_ ?_
  ·refine Ld.one rfl fun F_ w_ hR hout hD=>?_
   exact(KU (n:=1) rfl ((hout 3 rfl (by decide)).trans ap) Tryz.underlying67 rfl (by kernel_rfl) (by decide) rfl ⟨rfl,KR.refl _ _⟩)
  refine KP ?_ ?_
  ·refine Ld.one rfl fun F_ w_ hR hout hD=>?_
   have g7:F_ 7=pt p1 0:=(hD.get 0 rfl rfl rfl)
   exact(KY rfl g7 Tryz.underlying3 (am.all hR id) rfl rfl ⟨rfl,KR.refl _ _⟩)
  refine KP ?_ ?_
  ·refine Ld.one rfl fun F_ w_ hR hout hD=>?_
   exact(KU (n:=1) rfl ((hout 4 rfl (by decide)).trans aq) Tryz.underlying67 rfl (by kernel_rfl) (by decide) rfl ⟨rfl,KR.refl _ _⟩)
  refine KP ?_ ?_
  ·refine Ld.one rfl fun F_ w_ hR hout hD=>?_
   have g9:F_ 9=pt p8 0:=(hD.get 0 rfl rfl rfl)
   exact(KY rfl g9 Tryz.underlying3 (an.all hR id) rfl rfl ⟨rfl,KR.refl _ _⟩)
  refine KP ?_ ?_
  ·refine Ld.one rfl fun F_ w_ hR hout hD=>?_
   exact(KU (n:=1) rfl ((hout 5 rfl (by decide)).trans ar) Tryz.underlying67 rfl (by kernel_rfl) (by decide) rfl ⟨rfl,KR.refl _ _⟩)
  refine KP ?_ ?_
  ·refine Ld.one rfl fun F_ w_ hR hout hD=>?_
   have aN:F_ 11=pt ac 0:=(hD.get 0 rfl rfl rfl)
   exact(KY rfl aN Tryz.underlying3 (ao.all hR id) rfl rfl ⟨rfl,KR.refl _ _⟩)
  refine KP ?_ ?_
  ·refine Ld.one rfl fun F_ w_ hR hout hD=>?_
   have g8:F_ 8=iv a:=(hD.get 0 rfl rfl rfl)
   have aP:F_ 10=iv c:=(hD.get 1 rfl rfl rfl)
   have af:F_ 12=iv m:=(hD.get 2 rfl rfl rfl)
   exact(LQ rfl rfl rfl (fun _ _=>by kernel_rfl) (K6 _) (Lo g8 (Lo aP (Lo af L5))) (Wf a c m  _   ) (fun e_ w_ h_=>⟨_,h_.1,rfl,h_.2⟩))
  refine KP ?_ ?_
  ·refine Ld.one rfl fun F_ w_ hR hout hD=>?_
   exact(KU (n:=1) rfl ((hout 3 rfl (by decide)).trans ap) Tryz.underlying67 rfl (by kernel_rfl) (by decide) rfl ⟨rfl,KR.refl _ _⟩)
  refine KP ?_ ?_
  ·refine Ld.one rfl fun F_ w_ hR hout hD=>?_
   have aQ:F_ 14=pt p1 1:=(hD.get 0 rfl rfl rfl)
   exact(KY rfl aQ Tryz.underlying3 (am.all hR id) rfl rfl ⟨rfl,KR.refl _ _⟩)
  refine KP ?_ ?_
  ·refine Ld.one rfl fun F_ w_ hR hout hD=>?_
   exact(KU (n:=1) rfl ((hout 4 rfl (by decide)).trans aq) Tryz.underlying67 rfl (by kernel_rfl) (by decide) rfl ⟨rfl,KR.refl _ _⟩)
  refine KP ?_ ?_
  ·refine Ld.one rfl fun F_ w_ hR hout hD=>?_
   have aR:F_ 16=pt p8 1:=(hD.get 0 rfl rfl rfl)
   exact(KY rfl aR Tryz.underlying3 (an.all hR id) rfl rfl ⟨rfl,KR.refl _ _⟩)
  refine KP ?_ ?_
  ·refine Ld.one rfl fun F_ w_ hR hout hD=>?_
   exact(KU (n:=1) rfl ((hout 5 rfl (by decide)).trans ar) Tryz.underlying67 rfl (by kernel_rfl) (by decide) rfl ⟨rfl,KR.refl _ _⟩)
  refine KP ?_ ?_
  ·refine Ld.one rfl fun F_ w_ hR hout hD=>?_
   have aS:F_ 18=pt ac 1:=(hD.get 0 rfl rfl rfl)
   exact(KY rfl aS Tryz.underlying3 (ao.all hR id) rfl rfl ⟨rfl,KR.refl _ _⟩)
  refine KP ?_ ?_
  ·refine Ld.one rfl fun F_ w_ hR hout hD=>?_
   have aT:F_ 15=iv b:=(hD.get 0 rfl rfl rfl)
   have aU:F_ 17=iv d:=(hD.get 1 rfl rfl rfl)
   have aV:F_ 19=iv n:=(hD.get 2 rfl rfl rfl)
   exact(LQ rfl rfl rfl (fun _ _=>by kernel_rfl) (K6 _) (Lo aT (Lo aU (Lo aV L5))) (Wf b d n  _   ) (fun e_ w_ h_=>⟨_,h_.1,rfl,h_.2⟩))
  refine KP ?_ ?_
  ·refine Ld.one rfl fun F_ w_ hR hout hD=>?_
   have aW:F_ 13=iv (Tr a c m):=(hD.get 0 rfl rfl rfl)
   have aX:F_ 20=iv (Tr b d n):=(hD.get 1 rfl rfl rfl)
   exact(Ma (l':=[(0,iv (Tr a c m)),(1,iv (Tr b d n))]) (cells:=#[iv (Tr a c m),iv (Tr b d n)]) rfl (RW aW (RW aX Rj)) (by kernel_rfl) rfl ⟨rfl,KR.refl _ _⟩)
  exact Mj
 intro bi aY bj au av ae
 have aZ:=aH.all au id
 obtain⟨a8,aw⟩:=t2 ae 22 aJ 6 aK
 have a9:aY 21 = .agg #[iv (Tr a c m),iv (Tr b d n)]:=(ae 21).trans (av 14 (by decide))
 clear av ae
 refine Ll (us:=[iv (Tr a c m),iv (Tr b d n)]) L0 rfl rfl rfl aw a9 aZ rfl (L4 rfl (L4 rfl MX)) fun bm ba bb=>?_
 refine KQ ?_
 refine KK (Le ?_)
 exact Po (vs:=[iv (Tr a c m),iv (Tr b d n)]) L0 a8 rfl rfl aw ba ⟨rfl,(((aj.tr ak).tr au).trans bb (KS.ok (S:=fun _=>False) (KS.new aj aI) KZ))⟩
theorem WQ(n:Int)(w0:World) :
  Calls Tryz.prog 154 #[.int .i64 (n)] w0 fun e w'=>e = .returned (.int .i64 (cl 64 n))/\KR (fun _=>False) w0 w':=by
 refine Ly (args:=[iv n]) 6 Tryz.func154 rfl rfl (Nat.le_of_ble_eq_true rfl) ?_
 refine KM (KL (Lb (iv 0) LE (KQ ?_)))
 have s3:=K4 (iv n)
 have s4:=K4 (undef)
 refine KK (KM (KL (K2 Lw s3 (KN (iv (min n 64)) rr (RB rfl rfl rfl rfl rr) (KN (iv (cl 64 n)) rr (R9 rfl rfl rfl (by unfold cl;omega) rr) (Lb (iv (cl 64 n)) LE (KQ ?_)))))))
 have s8:=K4 (iv (cl 64 n))
 refine KK (Le ?_)
 exact LC (v:=iv (cl 64 n)) s4 rfl rfl s8 ⟨rfl,(KR.refl (fun _=>False) w0)⟩
theorem aDA(X Y:Int)(w0:World) :
  Calls Tryz.prog 131 #[.agg #[.int .i64 (X),.int .i64 (Y)]] w0 fun e w'=>e = .returned (.agg #[.int .i64 (cl 64 X),.int .i64 (cl 64 Y)])/\KR (fun _=>False) w0 w':=by
 refine Ly (args:=[.agg #[iv X,iv Y]]) 10 Tryz.func131 rfl rfl (Nat.le_of_ble_eq_true rfl) ?_
 refine KM (KL (LJ (vs:=[iv X,iv Y]) rfl rfl rfl rfl fun p1 w2 B4 g5 k3=>?_))
 have K7:=(KR.refl (fun _=>False) w0).tr k3
 refine LN (n:=2) (vs:=[iv 0,iv 0]) rfl rfl rfl (by kernel_rfl) fun p8 w9 aq ar af=>?_
 have ah:=B4.all af id
 refine KQ ?_
 have au:=K4 (undef)
 have ai:=K4 (pt p1 0)
 have av:=K4 (pt p8 0)
 refine KK (KM ?_)
 refine NJ 7 [some 3,some 4,some 5,some 6,some 7,some 8,some 9] [Pd.eq (pt p1 0),Pd.eq (iv X),Pd.eq (iv (cl 64 X)),Pd.eq (pt p1 1),Pd.eq (iv Y),Pd.eq (iv (cl 64 Y)),Pd.eq (.agg #[iv (cl 64 X),iv (cl 64 Y)])] (by kernel_rfl) (by kernel_rfl) (by kernel_rfl) ?_ ?_
 ·refine KP ?_ ?_
  ·refine Ld.one rfl fun F_ w_ hR hout hD=>?_
   exact(KU (n:=1) rfl ((hout 1 rfl (by decide)).trans ai) Tryz.underlying67 rfl (by kernel_rfl) (by decide) rfl ⟨rfl,KR.refl _ _⟩)
  refine KP ?_ ?_
  ·refine Ld.one rfl fun F_ w_ hR hout hD=>?_
   have g3:F_ 3=pt p1 0:=(hD.get 0 rfl rfl rfl)
   exact(KY rfl g3 Tryz.underlying3 (ah.all hR id) rfl rfl ⟨rfl,KR.refl _ _⟩)
  refine KP ?_ ?_
  ·refine Ld.one rfl fun F_ w_ hR hout hD=>?_
   have g4:F_ 4=iv X:=(hD.get 0 rfl rfl rfl)
   exact(LQ rfl rfl rfl (fun _ _=>by kernel_rfl) (K6 _) (Lo g4 L5) (WQ X  _   ) (fun e_ w_ h_=>⟨_,h_.1,rfl,h_.2⟩))
  refine KP ?_ ?_
  ·refine Ld.one rfl fun F_ w_ hR hout hD=>?_
   exact(KU (n:=1) rfl ((hout 1 rfl (by decide)).trans ai) Tryz.underlying67 rfl (by kernel_rfl) (by decide) rfl ⟨rfl,KR.refl _ _⟩)
  refine KP ?_ ?_
  ·refine Ld.one rfl fun F_ w_ hR hout hD=>?_
   have g6:F_ 6=pt p1 1:=(hD.get 0 rfl rfl rfl)
   exact(KY rfl g6 Tryz.underlying3 (ah.all hR id) rfl rfl ⟨rfl,KR.refl _ _⟩)
  refine KP ?_ ?_
  ·refine Ld.one rfl fun F_ w_ hR hout hD=>?_
   have g7:F_ 7=iv Y:=(hD.get 0 rfl rfl rfl)
   exact(LQ rfl rfl rfl (fun _ _=>by kernel_rfl) (K6 _) (Lo g7 L5) (WQ Y  _   ) (fun e_ w_ h_=>⟨_,h_.1,rfl,h_.2⟩))
  refine KP ?_ ?_
  ·refine Ld.one rfl fun F_ w_ hR hout hD=>?_
   have g5:F_ 5=iv (cl 64 X):=(hD.get 0 rfl rfl rfl)
   have g8:F_ 8=iv (cl 64 Y):=(hD.get 1 rfl rfl rfl)
   exact(Ma (l':=[(0,iv (cl 64 X)),(1,iv (cl 64 Y))]) (cells:=#[iv (cl 64 X),iv (cl 64 Y)]) rfl (RW g5 (RW g8 Rj)) (by kernel_rfl) rfl ⟨rfl,KR.refl _ _⟩)
  exact Mj
 intro aL aD aM aj ak ab
 have aE:=aq.all aj id
 obtain⟨aF,am⟩:=t2 ab 10 au 2 av
 have aG:aD 9 = .agg #[iv (cl 64 X),iv (cl 64 Y)]:=(ab 9).trans (ak 6 (by decide))
 clear ak ab
 refine Ll (us:=[iv (cl 64 X),iv (cl 64 Y)]) L0 rfl rfl rfl am aG aE rfl (L4 rfl (L4 rfl MX)) fun aO aH aI=>?_
 refine KQ ?_
 refine KK (Le ?_)
 exact Po (vs:=[iv (cl 64 X),iv (cl 64 Y)]) L0 aF rfl rfl am aH ⟨rfl,(((K7.tr af).tr aj).trans aI (KS.ok (S:=fun _=>False) (KS.new K7 ar) KZ))⟩
theorem UR(m n:Int)(w0:World) :
  Calls Tryz.prog 59 #[.int .i64 (m),.int .i64 (n)] w0 fun e w'=>∃ (v1:Value) (T1:Nat->Prop),e = .returned (.tuple #[v1,.int .i64 (Ns m n)])/\KR (fun _=>False) w0 w'/\(Qn w' T1 v1 ((Tm m n))/\KS w0 Mb T1):=by
 refine Ly (args:=[iv m,iv n]) 19 Tryz.func59 rfl rfl (Nat.le_of_ble_eq_true rfl) ?_
 have K0:=KR.refl (fun _=>False) w0
 refine KM (KL (Lb (.pointer none) LE (Lb (iv 0) LE (KQ ?_))))
 have s3:=K4 (iv m)
 have s4:=K4 (iv n)
 have s5:=K4 (undef)
 refine KK (KM (KM ?_))
 by_cases d6:1<=m/\m<=16
 ·skip
  by_cases d7:1<=n/\n<=16
  ·skip
   refine KL (K2 Lw s3 (LH (R:=fun v_ w_=>v_ = .bool true/\KR (fun _=>False) w0 w_) rfl rfl (LQ rfl rfl rfl (fun _ _=>by kernel_rfl) (K6 _) (Lo rfl L5) (Wi m  _   ) (fun e_ w_ h_=>⟨_,h_.1,(congrArg Value.bool (decide_eq_true d6)),h_.2⟩)) ?_))
   rintro _ w8 ⟨rfl,k9⟩
   refine KN (.bool false) rr (Mq rfl rfl rfl rr) (KN (.bool false) rr (KT rfl rfl rr) (Lj (iv n) 3 false 9 Li (KT rfl s4 rr) (LZ (R:=fun v_ w_=>v_ = .bool true/\KR (fun _=>False) w8 w_) 3 false 9 rfl rfl rfl rfl rfl (LQ rfl rfl rfl (fun _ _=>by kernel_rfl) (K6 _) (Lo rfl L5) (Wi n  _   ) (fun e_ w_ h_=>⟨_,h_.1,(congrArg Value.bool (decide_eq_true d7)),h_.2⟩)) ?_)))
   rintro _ aS ⟨rfl,av⟩
   have ak:=(K0.tr k9).tr av
   refine Lj (.bool false) 3 false 9 Li (Mq rfl rfl rfl rr) (KN (.bool false) rr (Lt rfl rfl rfl rr) (KQ ?_))
   have aw:=K4 (.bool false)
   refine KK ?_
   refine K5 (t:=false) aw (fun e=>by cases e) (fun _=>?_)
   refine Lf (KK (KM ?_))
   have hs:Ob m n:=⟨by omega,by omega,by omega,by omega⟩
   refine KL (K2 Lw s3 (K2 Lw s4 ?_))
   refine NV rfl rfl (ayI rfl fun ab aT am az aA=>?_)
   have an:=ak.tr aA
   refine KN (.agg #[iv m,iv n,.map (some ab)]) rr (Ma (l':=[(0,iv m),(1,iv n),(2,.map (some ab))]) (cells:=#[iv m,iv n,.map (some ab)]) rfl (RW rfl (RW rfl (RW rfl Rj))) (by kernel_rfl) rfl rr) (LJ (vs:=[iv m,iv n,.map (some ab)]) rfl rfl rfl rfl fun aa aB aC ao ap=>?_)
   have aD:=KO.new ao (L8 am.lt)
   have aE:=am.all ap id
   refine Lb (pt aa 0) LE (Lb (iv 0) LE (KQ ?_))
   have aF:=K4 (pt aa 0)
   have aG:=K4 (iv 0)
   refine KK (Le ?_)
   have aq:Qn aB (fun i=>(Lh aa) i\/((Lh ab) i)) (pt aa 0) (some (Qo m n)):=⟨_,rfl,_,fun i=>Iff.rfl,aC,aE,aD,aD4 hs⟩
   have aH:KS w0 Mb (fun i=>(Lh aa) i\/((Lh ab) i)):=fun i h=>h.elim (fun y=>(KS.new an ao) i y) (fun y=>(KS.new ak az) i y)
   exact Mo s5 rfl (LF (v:=pt aa 0) rfl aF) (LF (v:=iv 0) rfl aG) ⟨(pt aa 0),(fun i=>(Lh aa) i\/((Lh ab) i)),(by first|rw[UP hs]|rw[WD (by unfold Ob;omega)]),(an.tr ap),⟨(by first|(rw[Uk hs];exact aq)|(rw[Ya (by unfold Ob;omega)];exact aq)),aH⟩⟩
  ·skip
   refine KL (K2 Lw s3 (LH (R:=fun v_ w_=>v_ = .bool true/\KR (fun _=>False) w0 w_) rfl rfl (LQ rfl rfl rfl (fun _ _=>by kernel_rfl) (K6 _) (Lo rfl L5) (Wi m  _   ) (fun e_ w_ h_=>⟨_,h_.1,(congrArg Value.bool (decide_eq_true d6)),h_.2⟩)) ?_))
   rintro _ aI ⟨rfl,aJ⟩
   refine KN (.bool false) rr (Mq rfl rfl rfl rr) (KN (.bool false) rr (KT rfl rfl rr) (Lj (iv n) 3 false 9 Li (KT rfl s4 rr) (LZ (R:=fun v_ w_=>v_ = .bool false/\KR (fun _=>False) aI w_) 3 false 9 rfl rfl rfl rfl rfl (LQ rfl rfl rfl (fun _ _=>by kernel_rfl) (K6 _) (Lo rfl L5) (Wi n  _   ) (fun e_ w_ h_=>⟨_,h_.1,(congrArg Value.bool (decide_eq_false d7)),h_.2⟩)) ?_)))
   rintro _ aU ⟨rfl,aK⟩
   refine Lj (.bool true) 3 false 9 Li (Mq rfl rfl rfl rr) (KN (.bool true) rr (Lt rfl rfl rfl rr) (KQ ?_))
   have aL:=K4 (.bool true)
   refine KK ?_
   refine K5 (t:=true) aL (fun _=>?_) (fun e=>by cases e)
   refine KM (KL (Lb (.pointer none) LE (Lb (iv 1) LE (KQ ?_))))
   have aM:=K4 (.pointer none)
   have aN:=K4 (iv 1)
   refine KK (Le (Lx ?_))
   exact Mo s5 rfl (LF (v:=.pointer none) rfl aM) (LF (v:=iv 1) rfl aN) ⟨(.pointer none),Mb,(by first|rw[UP hs]|rw[WD (by unfold Ob;omega)]),((K0.tr aJ).tr aK),⟨(by first|(rw[Uk hs];exact(Qn.nil _))|(rw[Ya (by unfold Ob;omega)];exact(Qn.nil _))),(KS.refl _ _)⟩⟩
 ·skip
  refine KL (K2 Lw s3 (LH (R:=fun v_ w_=>v_ = .bool false/\KR (fun _=>False) w0 w_) rfl rfl (LQ rfl rfl rfl (fun _ _=>by kernel_rfl) (K6 _) (Lo rfl L5) (Wi m  _   ) (fun e_ w_ h_=>⟨_,h_.1,(congrArg Value.bool (decide_eq_false d6)),h_.2⟩)) ?_))
  rintro _ aV ⟨rfl,aO⟩
  refine KN (.bool true) rr (Mq rfl rfl rfl rr) (KN (.bool true) rr (KT rfl rfl rr) (Lq 3 false 9 Li (Lq 3 false 9 Li (Lq 3 false 9 Li (KN (.bool true) rr (LB rfl rfl rfl rr) (KQ ?_))))))
  have aP:=K4 (.bool true)
  refine KK ?_
  refine K5 (t:=true) aP (fun _=>?_) (fun e=>by cases e)
  refine KM (KL (Lb (.pointer none) LE (Lb (iv 1) LE (KQ ?_))))
  have aQ:=K4 (.pointer none)
  have aR:=K4 (iv 1)
  refine KK (Le (Lx ?_))
  exact Mo s5 rfl (LF (v:=.pointer none) rfl aQ) (LF (v:=iv 1) rfl aR) ⟨(.pointer none),Mb,(by first|rw[UP hs]|rw[WD (by unfold Ob;omega)]),(K0.tr aO),⟨(by first|(rw[Uk hs];exact(Qn.nil _))|(rw[Ya (by unfold Ob;omega)];exact(Qn.nil _))),(KS.refl _ _)⟩⟩
theorem PZ(f:VF)(x y X Y a b:Int):Xi (Q7 f) x y X Y a b=Q7 (aC2 f x y X Y) a b:=by
 unfold Xi Q7 aC2
 by_cases h:a=x/\b=y
 ·obtain⟨rfl,rfl⟩:=h;simp
 ·rw[if_neg (fun e=>h (by simpa using e))];simp only[if_neg h]
theorem aAC{X Y:Int}(h:NI X Y 0 0=true):X=0/\Y=0:=by unfold NI at h;simpa using h
def OE(x:Int):Int:=IntKind.i64.wrap (x-1)
def UN(x:Int):Int:=IntKind.i64.wrap (x+1)
theorem Xz{x:Int}(h:inI x):OE x=x-1\/(x = -9223372036854775808/\OE x=9223372036854775807):=by
 by_cases e:x = -9223372036854775808
 ·subst e;exact Or.inr ⟨rfl,by decide⟩
 ·exact Or.inl (by unfold OE;unfold inI at h;rw[IntKind.wrap_i64];omega)
theorem aAG{x:Int}(h:inI x):UN x=x+1\/(x=9223372036854775807/\UN x = -9223372036854775808):=by
 by_cases e:x=9223372036854775807
 ·subst e;exact Or.inr ⟨rfl,by decide⟩
 ·exact Or.inl (by unfold UN;unfold inI at h;rw[IntKind.wrap_i64];omega)
theorem UY{f:VF}(ok:OkV f){a b a' b':Int}(h:(a=a'/\b=b')\/(¬ XX f a b/\¬ XX f a' b')):f.X a b=f.X a' b'/\f.Y a b=f.Y a' b':=by
 rcases h with ⟨rfl,rfl⟩ | ⟨h1,h2⟩
 ·exact⟨rfl,rfl⟩
 ·exact⟨(ok.out _ _ h1).1.trans (ok.out _ _ h2).1.symm,(ok.out _ _ h1).2.trans (ok.out _ _ h2).2.symm⟩
theorem ayY{f:VF}(ok:OkV f){x y:Int}(hx:inI x)(hy:inI y):Tr (f.X (OE x) y) (f.X x (OE y)) (f.X (UN x) (OE y))=gX f x y/\Tr (f.Y (OE x) y) (f.Y x (OE y)) (f.Y (UN x) (OE y))=gY f x y:=by
 have hw:=ok.w
 have hh:=ok.h
 have c1:=Xz hx
 have c2:=Xz hy
 have c3:=aAG hx
 have a:=UY ok (a:=OE x) (b:=y) (a':=x-1) (b':=y) (by unfold XX;omega)
 have b:=UY ok (a:=x) (b:=OE y) (a':=x) (b':=y-1) (by unfold XX;omega)
 have c:=UY ok (a:=UN x) (b:=OE y) (a':=x+1) (b':=y-1) (by unfold XX;omega)
 unfold gX gY
 rw[a.1,a.2,b.1,b.2,c.1,c.2]
 exact⟨rfl,rfl⟩
theorem aAE(v:Value)(f:VF)(x y:Int)(T_q:Nat->Prop)(w0:World)(hx:inI x)(hy:inI y)(h_q:Qn w0 T_q v ((some f))) :
  Calls Tryz.prog 61 #[v,.int .i64 (x),.int .i64 (y)] w0 fun e w'=>e = .returned (.agg #[.int .i64 (gX f x y),.int .i64 (gY f x y)])/\KR (fun _=>False) w0 w':=by
 refine Ly (args:=[v,iv x,iv y]) 45 Tryz.func61 rfl rfl (Nat.le_of_ble_eq_true rfl) ?_
 have K0:=KR.refl (fun _=>False) w0
 have hgw:=ayY h_q.ok hx hy
 have g_q:=KS.refl w0 T_q
 obtain⟨p,rfl,c,hT,hp,hr,hap,ok⟩:=h_q
 refine KM (KL (LN (n:=2) (vs:=[iv 0,iv 0]) rfl rfl rfl (by kernel_rfl) fun p4 w5 B7 g8 k6=>?_))
 obtain⟨aw,az⟩:=Oe k6 hp hr
 have aA:=K0.tr k6
 refine KQ ?_
 have af:=K4 (pt p 0)
 have ai:=K4 (iv x)
 have aj:=K4 (iv y)
 have aY:=K4 (undef)
 have aZ:=K4 (pt p4 0)
 refine KK (KM (KM (KL (K2 Lw af (KN (.bool false) rr (R0 rfl rfl rfl Tryz.underlying56 rr) (KQ ?_))))))
 have a8:=K4 (.bool false)
 refine KK ?_
 refine K5 (t:=false) a8 (fun e=>by cases e) (fun _=>?_)
 refine Lf (KK (KM (KL (K2 Lw ai (KN (iv (OE x)) rr (V8 rfl rfl rfl rfl rr) (K2 Lw aj (KN (.agg #[iv (OE x),iv y]) rr (Ma (l':=[(0,iv (OE x)),(1,iv y)]) (cells:=#[iv (OE x),iv y]) rfl (RW rfl (RW rfl Rj)) (by kernel_rfl) rfl rr) (K2 Lw ai (K2 Lw aj (KN (iv (OE y)) rr (V8 rfl rfl rfl rfl rr) (KN (.agg #[iv x,iv (OE y)]) rr (Ma (l':=[(0,iv x),(1,iv (OE y))]) (cells:=#[iv x,iv (OE y)]) rfl (RW rfl (RW rfl Rj)) (by kernel_rfl) rfl rr) ?_)))))))))))
 refine K2 Lw ai (KN (iv (UN x)) rr (LS rfl rfl rfl rfl rr) (K2 Lw aj (KN (iv (OE y)) rr (V8 rfl rfl rfl rfl rr) (KN (.agg #[iv (UN x),iv (OE y)]) rr (Ma (l':=[(0,iv (UN x)),(1,iv (OE y))]) (cells:=#[iv (UN x),iv (OE y)]) rfl (RW rfl (RW rfl Rj)) (by kernel_rfl) rfl rr) (LN (n:=2) (vs:=[iv 0,iv 0]) rfl rfl rfl (by kernel_rfl) fun ak cq aB ah aC=>?_)))))
 obtain⟨a9,ba,bb⟩:=Us ah aw az B7
 obtain⟨aD,aE,aF⟩:=Od aC aw az B7
 have aG:=aA.tr aC
 refine LN (n:=2) (vs:=[iv 0,iv 0]) rfl rfl rfl (by kernel_rfl) fun am cr aH aI aJ=>?_
 obtain⟨bc,bd,be,aK⟩:=WI aI aD aE aF aB
 obtain⟨aL,aM,aN,aO⟩:=Pg aJ aD aE aF aB
 have aP:=aG.tr aJ
 refine LN (n:=2) (vs:=[iv 0,iv 0]) rfl rfl rfl (by kernel_rfl) fun an ct bf aQ aR=>?_
 obtain⟨bg,bh,bi,aS,aT⟩:=azg aQ aL aM aN aO aH
 obtain⟨bj,bl,bm,bn,bo⟩:=O6 aR aL aM aN aO aH
 refine Ll (us:=[iv (OE x),iv y]) OC rfl rfl rfl rfl rfl bn rfl (L4 rfl (L4 rfl MX)) fun cu bp aa=>?_
 have bq:=bj.all aa (a9.symm p rfl)
 have bt:=bl.all aa (ba.symm c rfl)
 have bu:=bm.all aa (bb.symm p4 rfl)
 have bv:=bo.all aa (aK am rfl)
 have bz:=bf.all aa (aS an rfl)
 refine Ll (us:=[iv x,iv (OE y)]) OC rfl rfl rfl rfl rfl bv rfl (L4 rfl (L4 rfl MX)) fun cv bA ab=>?_
 have bB:=bq.all ab (bc.symm p rfl)
 have bC:=bt.all ab (bd.symm c rfl)
 have bD:=bu.all ab (be.symm p4 rfl)
 have bE:=bp.all ab (aK.symm ak rfl)
 have bF:=bz.all ab (aT an rfl)
 refine Ll (us:=[iv (UN x),iv (OE y)]) OC rfl rfl rfl rfl rfl bF rfl (L4 rfl (L4 rfl MX)) fun cw bG ac=>?_
 have ao:=bB.all ac (bg.symm p rfl)
 have ap:=bC.all ac (bh.symm c rfl)
 have bH:=bD.all ac (bi.symm p4 rfl)
 have bI:=bE.all ac (aS.symm ak rfl)
 have bJ:=bA.all ac (aT.symm am rfl)
 have bK:=(((aP.tr aR).trans aa (KS.ok (S:=fun _=>False) (KS.new aA ah) KZ)).trans ab (KS.ok (S:=fun _=>False) (KS.new aG aI) KZ)).trans ac (KS.ok (S:=fun _=>False) (KS.new aP aQ) KZ)
 refine KQ ?_
 have bL:=K4 (pt ak 0)
 have bM:=K4 (pt am 0)
 have bN:=K4 (pt an 0)
 refine KK (KM ?_)
 refine NJ 19 [some 26,some 27,some 28,some 29,some 30,some 31,some 32,some 33,some 34,some 35,some 36,some 37,some 38,some 39,some 40,some 41,some 42,some 43,some 44] [Pd.eq (pt p 0),Pd.eq (pt p 0),Pd.eq (pt p 2),Pd.eq (.map (some c)),Pd.eq (.agg #[iv (OE x),iv y]),Pd.eq (.agg #[iv (((Q7 f) (OE x) y).1),iv (((Q7 f) (OE x) y).2)]),Pd.eq (pt p 0),Pd.eq (pt p 0),Pd.eq (pt p 2),Pd.eq (.map (some c)),Pd.eq (.agg #[iv x,iv (OE y)]),Pd.eq (.agg #[iv (((Q7 f) x (OE y)).1),iv (((Q7 f) x (OE y)).2)]),Pd.eq (pt p 0),Pd.eq (pt p 0),Pd.eq (pt p 2),Pd.eq (.map (some c)),Pd.eq (.agg #[iv (UN x),iv (OE y)]),Pd.eq (.agg #[iv (((Q7 f) (UN x) (OE y)).1),iv (((Q7 f) (UN x) (OE y)).2)]),Pd.eq (.agg #[iv (Tr (((Q7 f) (OE x) y).1) (((Q7 f) x (OE y)).1) (((Q7 f) (UN x) (OE y)).1)),iv (Tr (((Q7 f) (OE x) y).2) (((Q7 f) x (OE y)).2) (((Q7 f) (UN x) (OE y)).2))])] (by kernel_rfl) (by kernel_rfl) (by kernel_rfl) ?_ ?_
 ·refine KP ?_ ?_
  ·refine Ld.one rfl fun F_ w_ hR hout hD=>?_
   exact(KT rfl ((hout 0 rfl (by decide)).trans af) ⟨rfl,KR.refl _ _⟩)
  refine KP ?_ ?_
  ·refine Ld.one rfl fun F_ w_ hR hout hD=>?_
   have bO:F_ 26=pt p 0:=(hD.get 0 rfl rfl rfl)
   exact(OW rfl bO ⟨rfl,KR.refl _ _⟩)
  refine KP ?_ ?_
  ·refine Ld.one rfl fun F_ w_ hR hout hD=>?_
   have bP:F_ 27=pt p 0:=(hD.get 0 rfl rfl rfl)
   exact(KU (n:=1) rfl bP Tryz.underlying136 rfl (by kernel_rfl) (by decide) rfl ⟨rfl,KR.refl _ _⟩)
  refine KP ?_ ?_
  ·refine Ld.one rfl fun F_ w_ hR hout hD=>?_
   have bQ:F_ 28=pt p 2:=(hD.get 0 rfl rfl rfl)
   exact(KY rfl bQ Tryz.underlying134 (ao.all hR id) rfl rfl ⟨rfl,KR.refl _ _⟩)
  refine KP ?_ ?_
  ·refine Ld.one rfl fun F_ w_ hR hout hD=>?_
   exact(KX OC rfl ((hout 7 rfl (by decide)).trans bL) (bI.all hR id) ⟨rfl,KR.refl _ _⟩)
  refine KP ?_ ?_
  ·refine Ld.one rfl fun F_ w_ hR hout hD=>?_
   have bR:F_ 29 = .map (some c):=(hD.get 0 rfl rfl rfl)
   have bS:F_ 30 = .agg #[iv (OE x),iv y]:=(hD.get 1 rfl rfl rfl)
   exact(YO (a:=OE x) (b:=y) QW Tryz.underlying134 (by kernel_rfl) rfl bR bS (ap.all hR id) ⟨rfl,KR.refl _ _⟩)
  refine KP ?_ ?_
  ·refine Ld.one rfl fun F_ w_ hR hout hD=>?_
   exact(KT rfl ((hout 0 rfl (by decide)).trans af) ⟨rfl,KR.refl _ _⟩)
  refine KP ?_ ?_
  ·refine Ld.one rfl fun F_ w_ hR hout hD=>?_
   have bT:F_ 32=pt p 0:=(hD.get 0 rfl rfl rfl)
   exact(OW rfl bT ⟨rfl,KR.refl _ _⟩)
  refine KP ?_ ?_
  ·refine Ld.one rfl fun F_ w_ hR hout hD=>?_
   have bU:F_ 33=pt p 0:=(hD.get 0 rfl rfl rfl)
   exact(KU (n:=1) rfl bU Tryz.underlying136 rfl (by kernel_rfl) (by decide) rfl ⟨rfl,KR.refl _ _⟩)
  refine KP ?_ ?_
  ·refine Ld.one rfl fun F_ w_ hR hout hD=>?_
   have ah:F_ 34=pt p 2:=(hD.get 0 rfl rfl rfl)
   exact(KY rfl ah Tryz.underlying134 (ao.all hR id) rfl rfl ⟨rfl,KR.refl _ _⟩)
  refine KP ?_ ?_
  ·refine Ld.one rfl fun F_ w_ hR hout hD=>?_
   exact(KX OC rfl ((hout 8 rfl (by decide)).trans bM) (bJ.all hR id) ⟨rfl,KR.refl _ _⟩)
  refine KP ?_ ?_
  ·refine Ld.one rfl fun F_ w_ hR hout hD=>?_
   have bV:F_ 35 = .map (some c):=(hD.get 0 rfl rfl rfl)
   have bW:F_ 36 = .agg #[iv x,iv (OE y)]:=(hD.get 1 rfl rfl rfl)
   exact(YO (a:=x) (b:=OE y) QW Tryz.underlying134 (by kernel_rfl) rfl bV bW (ap.all hR id) ⟨rfl,KR.refl _ _⟩)
  refine KP ?_ ?_
  ·refine Ld.one rfl fun F_ w_ hR hout hD=>?_
   exact(KT rfl ((hout 0 rfl (by decide)).trans af) ⟨rfl,KR.refl _ _⟩)
  refine KP ?_ ?_
  ·refine Ld.one rfl fun F_ w_ hR hout hD=>?_
   have bX:F_ 38=pt p 0:=(hD.get 0 rfl rfl rfl)
   exact(OW rfl bX ⟨rfl,KR.refl _ _⟩)
  refine KP ?_ ?_
  ·refine Ld.one rfl fun F_ w_ hR hout hD=>?_
   have bY:F_ 39=pt p 0:=(hD.get 0 rfl rfl rfl)
   exact(KU (n:=1) rfl bY Tryz.underlying136 rfl (by kernel_rfl) (by decide) rfl ⟨rfl,KR.refl _ _⟩)
  refine KP ?_ ?_
  ·refine Ld.one rfl fun F_ w_ hR hout hD=>?_
   have bZ:F_ 40=pt p 2:=(hD.get 0 rfl rfl rfl)
   exact(KY rfl bZ Tryz.underlying134 (ao.all hR id) rfl rfl ⟨rfl,KR.refl _ _⟩)
  refine KP ?_ ?_
  ·refine Ld.one rfl fun F_ w_ hR hout hD=>?_
   exact(KX OC rfl ((hout 9 rfl (by decide)).trans bN) (bG.all hR id) ⟨rfl,KR.refl _ _⟩)
  refine KP ?_ ?_
  ·refine Ld.one rfl fun F_ w_ hR hout hD=>?_
   have b7:F_ 41 = .map (some c):=(hD.get 0 rfl rfl rfl)
   have b8:F_ 42 = .agg #[iv (UN x),iv (OE y)]:=(hD.get 1 rfl rfl rfl)
   exact(YO (a:=UN x) (b:=OE y) QW Tryz.underlying134 (by kernel_rfl) rfl b7 b8 (ap.all hR id) ⟨rfl,KR.refl _ _⟩)
  refine KP ?_ ?_
  ·refine Ld.one rfl fun F_ w_ hR hout hD=>?_
   have b9:F_ 31 = .agg #[iv (((Q7 f) (OE x) y).1),iv (((Q7 f) (OE x) y).2)]:=(hD.get 0 rfl rfl rfl)
   have cd:F_ 37 = .agg #[iv (((Q7 f) x (OE y)).1),iv (((Q7 f) x (OE y)).2)]:=(hD.get 1 rfl rfl rfl)
   have ce:F_ 43 = .agg #[iv (((Q7 f) (UN x) (OE y)).1),iv (((Q7 f) (UN x) (OE y)).2)]:=(hD.get 2 rfl rfl rfl)
   exact(LQ rfl rfl rfl (fun _ _=>by kernel_rfl) (K6 _) (Lo b9 (Lo cd (Lo ce L5))) (aBa (((Q7 f) (OE x) y).1) (((Q7 f) (OE x) y).2) (((Q7 f) x (OE y)).1) (((Q7 f) x (OE y)).2) (((Q7 f) (UN x) (OE y)).1) (((Q7 f) (UN x) (OE y)).2)  _   ) (fun e_ w_ h_=>⟨_,h_.1,rfl,h_.2⟩))
  exact Mj
 intro cy cf cz aU aV aq
 have cg:=bH.all aU id
 obtain⟨ci,aW⟩:=t2 aq 45 aY 6 aZ
 have cj:cf 44 = .agg #[iv (Tr (((Q7 f) (OE x) y).1) (((Q7 f) x (OE y)).1) (((Q7 f) (UN x) (OE y)).1)),iv (Tr (((Q7 f) (OE x) y).2) (((Q7 f) x (OE y)).2) (((Q7 f) (UN x) (OE y)).2))]:=(aq 44).trans (aV 18 (by decide))
 clear aV aq
 refine Ll (us:=[iv (Tr (((Q7 f) (OE x) y).1) (((Q7 f) x (OE y)).1) (((Q7 f) (UN x) (OE y)).1)),iv (Tr (((Q7 f) (OE x) y).2) (((Q7 f) x (OE y)).2) (((Q7 f) (UN x) (OE y)).2))]) L0 rfl rfl rfl aW cj cg rfl (L4 rfl (L4 rfl MX)) fun cB cm cn=>?_
 refine KQ ?_
 refine KK (Le ?_)
 exact Po (vs:=[iv (Tr (((Q7 f) (OE x) y).1) (((Q7 f) x (OE y)).1) (((Q7 f) (UN x) (OE y)).1)),iv (Tr (((Q7 f) (OE x) y).2) (((Q7 f) x (OE y)).2) (((Q7 f) (UN x) (OE y)).2))]) L0 ci rfl rfl aW cm ⟨(by first|rfl|exact congrArg _ (by rw[← hgw.1,← hgw.2];rfl)),((bK.tr aU).trans cn (KS.ok (S:=fun _=>False) (KS.new K0 g8) KZ))⟩
open Go.RowKit
def tR(R:List (Nat×Option Nat)):Nat->Prop:=fun i=>∃ x∈R,i=x.1
def Qq(w:World)(T:Nat->Prop)(q:Nat)(l:List Nat)(st:Option Nat)(R:List (Nat×Option Nat)):Prop :=
 PA l/\∃ g,(∀ i,T i↔(Lh q i\/Lh g i\/tR R i))/\(q::R.map (·.1)).Nodup/\RI w q g l st/\∀ x∈R,RI w x.1 g l x.2
theorem Qq.live{w:World}{T:Nat->Prop}{q:Nat}{l:List Nat}{st:Option Nat}{R:List (Nat×Option Nat)}(h:Qq w T q l st R):PI w T:=by
 obtain⟨_,g,hT,_,h1,h2⟩:=h
 intro i hi
 rcases (hT i).1 hi with e|e | ⟨x,hx,e⟩
 ·cases e;exact h1.lt.1
 ·cases e;exact h1.lt.2.1
 ·subst e;exact(h2 x hx).lt.1
theorem Qq.all{S:Nat->Prop}{w w':World}{T:Nat->Prop}{q:Nat}{l:List Nat}{st:Option Nat}{R:List (Nat×Option Nat)}(h:Qq w T q l st R)(k:KR S w w')(ha:KO T S):Qq w' T q l st R:=by
 obtain⟨hf,g,hT,hn,h1,h2⟩:=h
 have nq:=ha q ((hT q).2 (.inl rfl))
 have ng:=ha g ((hT g).2 (.inr (.inl rfl)))
 exact⟨hf,g,hT,hn,h1.kept k nq ng,fun x hx=>(h2 x hx).kept k (ha x.1 ((hT _).2 (.inr (.inr ⟨x,hx,rfl⟩)))) ng⟩
instance {w w':World} {T:Nat->Prop} {q:Nat} {l:List Nat} {st:Option Nat} {R:List (Nat×Option Nat)}:Cr w w' (Qq w T q l st R) (Qq w' T q l st R):=⟨fun h k=>h.all k KO.none⟩
instance {w:World} {T:Nat->Prop} {q:Nat} {l:List Nat} {st:Option Nat} {R:List (Nat×Option Nat)}:Lv w (Qq w T q l st R) (T):=⟨fun h=>h.live⟩
def Rst(w:World)(T:Nat->Prop)(R:List (Nat×Option Nat))(g:Nat)(l:List Nat):Prop :=
 T=tR R/\(R.map (·.1)).Nodup/\∀ x∈R,g≠x.1/\∃ (a:Nat) (b:Bool),okR l x.2 a b/\MJ w x.1 106 [.slice (some ⟨g,0,none⟩) l.length l.length,.int .i64 (a:Int),.bool b]
theorem Rst.live{w:World}{T:Nat->Prop}{R:List (Nat×Option Nat)}{g:Nat}{l:List Nat}(h:Rst w T R g l):PI w T:=by
 obtain⟨rfl,_,h⟩:=h
 rintro i ⟨x,hx,rfl⟩
 obtain⟨_,a,b,_,hs⟩:=h x hx
 exact M5 hs
theorem Rst.all{S:Nat->Prop}{w w':World}{T:Nat->Prop}{R:List (Nat×Option Nat)}{g:Nat}{l:List Nat}(h:Rst w T R g l)(k:KR S w w')(ha:KO T S):Rst w' T R g l:=by
 obtain⟨rfl,hn,h⟩:=h
 refine⟨rfl,hn,fun x hx=>?_⟩
 obtain⟨hg,a,b,ho,hs⟩:=h x hx
 exact⟨hg,a,b,ho,hs.all k (ha x.1 ⟨x,hx,rfl⟩)⟩
instance {w w':World} {T:Nat->Prop} {R:List (Nat×Option Nat)} {g:Nat} {l:List Nat}:Cr w w' (Rst w T R g l) (Rst w' T R g l):=⟨fun h k=>h.all k KO.none⟩
instance {w:World} {T:Nat->Prop} {R:List (Nat×Option Nat)} {g:Nat} {l:List Nat}:Lv w (Rst w T R g l) (T):=⟨fun h=>h.live⟩
theorem aCJ{w:World}{T:Nat->Prop}{q:Nat}{l:List Nat}{st:Option Nat}{R:List (Nat×Option Nat)}(h:Qq w T q l st R):∃ (g a:Nat) (b:Bool),PA l/\(∀ i,T i↔(Lh q i\/Lh g i\/tR R i))/\okR l st a b ∧
  MJ w q 106 [.slice (some ⟨g,0,none⟩) l.length l.length,.int .i64 (a:Int),.bool b]/\YC w (Lh g) g l/\Rst w (tR R) R g l/\KO (Lh q) (Lh g)/\KO (Lh q) (tR R)/\KO (Lh g) (tR R):=by
 obtain⟨hf,g,hT,hn,h1,h2⟩:=h
 obtain⟨a,b,u1,u2,u3,u4⟩:=QS h1
 refine⟨g,a,b,hf,hT,u1,u2,u3,⟨rfl,(List.nodup_cons.1 hn).2,fun x hx=>?_⟩,u4,?_,?_⟩
 ·obtain⟨c,d,v1,v2,v3,v4⟩:=QS (h2 x hx)
  exact⟨(h2 x hx).lt.2.2,c,d,v1,v2⟩
 ·rintro i e ⟨x,hx,e2⟩
  cases e
  exact(List.nodup_cons.1 hn).1 (e2 ▸ List.mem_map.2 ⟨x,hx,rfl⟩)
 ·rintro i e ⟨x,hx,e2⟩
  cases e
  exact(h2 x hx).lt.2.2 e2
theorem aBx{w:World}{T:Nat->Prop}{R:List (Nat×Option Nat)}{g:Nat}{l:List Nat}(h:Rst w T R g l)(hg:YC w (Lh g) g l):∀ x∈R,RI w x.1 g l x.2:=fun x hx=>by
 obtain⟨_,_,h⟩:=h
 obtain⟨hne,a,b,ho,hs⟩:=h x hx
 exact Ra ho hs hg (fun i e1 e2=>hne (e2.symm.trans e1))
theorem QQ{w:World}{q g:Nat}{l:List Nat}{st:Option Nat}{a:Nat}{b:Bool}{R:List (Nat×Option Nat)}{T1:Nat->Prop}(hf:PA l)(ho:okR l st a b)(h1:MJ w q 106 [.slice (some ⟨g,0,none⟩) l.length l.length,.int .i64 (a:Int),.bool b])(h2:YC w (Lh g) g l)(h3:Rst w T1 R g l)(a1:KO (Lh q) (Lh g))(a2:KO (Lh q) T1) :
  Qq w (fun i=>Lh q i\/Lh g i\/T1 i) q l st R:=by
 obtain⟨rfl,hn,h4⟩:=h3
 refine⟨hf,g,fun _=>Iff.rfl,List.nodup_cons.2 ⟨fun hm=>?_,hn⟩,Ra ho h1 h2 a1,aBx ⟨rfl,hn,h4⟩ h2⟩
 obtain⟨x,hx,e⟩:=List.mem_map.1 hm
 exact a2 q rfl ⟨x,hx,e.symm⟩
theorem Y4{w:World}{q c g:Nat}{l:List Nat}{st:Option Nat}{a:Nat}{b:Bool}{R:List (Nat×Option Nat)}{T1:Nat->Prop}(hf:PA l)(ho:okR l st a b)(h1:MJ w q 106 [.slice (some ⟨g,0,none⟩) l.length l.length,.int .i64 (a:Int),.bool b])(h2:MJ w c 106 [.slice (some ⟨g,0,none⟩) l.length l.length,.int .i64 (a:Int),.bool b])(h3:YC w (Lh g) g l)(h4:Rst w T1 R g l)
  (a1:KO (Lh q) (Lh c)) (a2:KO (Lh q) (Lh g)) (a3:KO (Lh q) T1) (a4:KO (Lh c) (Lh g)) (a5:KO (Lh c) T1):Qq w (fun i=>Lh q i\/Lh c i\/Lh g i\/T1 i) c l st ((q,st)::R):=by
 obtain⟨rfl,hn,h5⟩:=h4
 refine⟨hf,g,fun i=>?_,?_,Ra ho h2 h3 a4,fun x hx=>?_⟩
 ·have e:tR ((q,st)::R) i↔(Lh q i\/tR R i):=by
   unfold tR Lh;simp
  rw[e]
  constructor
  ·rintro (h|h|h|h)
   ·exact .inr (.inr (.inl h))
   ·exact .inl h
   ·exact .inr (.inl h)
   ·exact .inr (.inr (.inr h))
  ·rintro (h|h|h|h)
   ·exact .inr (.inl h)
   ·exact .inr (.inr (.inl h))
   ·exact .inl h
   ·exact .inr (.inr (.inr h))
 ·refine List.nodup_cons.2 ⟨fun hm=>?_,List.nodup_cons.2 ⟨fun hm=>?_,hn⟩⟩
  ·rcases List.mem_cons.1 hm with e|hm
   ·exact a1 q rfl e.symm
   ·obtain⟨x,hx,e⟩:=List.mem_map.1 hm;exact a5 c rfl ⟨x,hx,e.symm⟩
  ·obtain⟨x,hx,e⟩:=List.mem_map.1 hm;exact a3 q rfl ⟨x,hx,e.symm⟩
 ·rcases List.mem_cons.1 hx with rfl|hx
  ·exact Ra ho h1 h3 a2
  ·exact aBx ⟨rfl,hn,h5⟩ h3 x hx
theorem aEp(w:World)(g:Nat)(l:List Nat):Rst w (tR []) [] g l:=⟨rfl,List.nodup_nil,fun x hx=>by cases hx⟩
theorem aBg{w:World}{q c g:Nat}{l:List Nat}{st:Option Nat}{a:Nat}{b:Bool}(hf:PA l)(ho:okR l st a b)(h1:MJ w q 106 [.slice (some ⟨g,0,none⟩) l.length l.length,.int .i64 (a:Int),.bool b])(h2:MJ w c 106 [.slice (some ⟨g,0,none⟩) l.length l.length,.int .i64 (a:Int),.bool b])(h3:YC w (Lh g) g l)
  (a1:KO (Lh q) (Lh c)) (a2:KO (Lh q) (Lh g)) (a4:KO (Lh c) (Lh g)):Qq w (fun i=>Lh q i\/Lh c i\/Lh g i) c l st [(q,st)]:=by
 have no:∀ {T:Nat->Prop},KO T (tR []):=fun i _ h=>by obtain⟨x,hx,_⟩:=h;cases hx
 obtain⟨_,g',hT,hn,h5,h6⟩:=Y4 hf ho h1 h2 h3 (aEp w g l) a1 a2 no a4 no
 refine⟨hf,g',fun i=>?_,hn,h5,h6⟩
 have e:¬ tR [] i:=fun h=>by obtain⟨x,hx,_⟩:=h;cases hx
 rw[← hT i]
 constructor
 ·rintro (h|h|h)
  ·exact .inl h
  ·exact .inr (.inl h)
  ·exact .inr (.inr (.inl h))
 ·rintro (h|h|h|h)
  ·exact .inl h
  ·exact .inr (.inl h)
  ·exact .inr (.inr h)
  ·exact absurd h e
theorem V1{w:World}{T:Nat->Prop}{q c:Nat}{l:List Nat}{st1 st:Option Nat}{R:List (Nat×Option Nat)}(h:Qq w T c l st ((q,st1)::R)):∃ (g a1:Nat) (b1:Bool) (a2:Nat) (b2:Bool),PA l/\(∀ i,T i↔(Lh q i\/Lh c i\/Lh g i\/tR R i))/\okR l st1 a1 b1/\okR l st a2 b2 ∧
  MJ w q 106 [.slice (some ⟨g,0,none⟩) l.length l.length,.int .i64 (a1:Int),.bool b1]/\MJ w c 106 [.slice (some ⟨g,0,none⟩) l.length l.length,.int .i64 (a2:Int),.bool b2]/\YC w (Lh g) g l/\Rst w (tR R) R g l ∧
  KO (Lh q) (Lh c)/\KO (Lh q) (Lh g)/\KO (Lh q) (tR R)/\KO (Lh c) (Lh g)/\KO (Lh c) (tR R)/\KO (Lh g) (tR R):=by
 obtain⟨hf,g,hT,hn,h1,h2⟩:=h
 have e:∀ i,tR ((q,st1)::R) i↔(Lh q i\/tR R i):=fun i=>by unfold tR Lh;simp
 obtain⟨n1,n2⟩:=List.nodup_cons.1 hn
 obtain⟨n3,n4⟩:=List.nodup_cons.1 n2
 obtain⟨a1,b1,u1,u2,u3,u4⟩:=QS (h2 (q,st1) (List.mem_cons_self ..))
 obtain⟨a2,b2,v1,v2,v3,v4⟩:=QS h1
 have hR:∀ x∈R,RI w x.1 g l x.2:=fun x hx=>h2 x (List.mem_cons_of_mem _ hx)
 refine⟨g,a1,b1,a2,b2,hf,fun i=>?_,u1,v1,u2,v2,u3,⟨rfl,n4,fun x hx=>?_⟩,?_,u4,?_,v4,?_,?_⟩
 ·rw[hT i,e i]
  constructor
  ·rintro (h|h|h|h)
   ·exact .inr (.inl h)
   ·exact .inr (.inr (.inl h))
   ·exact .inl h
   ·exact .inr (.inr (.inr h))
  ·rintro (h|h|h|h)
   ·exact .inr (.inr (.inl h))
   ·exact .inl h
   ·exact .inr (.inl h)
   ·exact .inr (.inr (.inr h))
 ·obtain⟨c1,d1,w1,w2,_,_⟩:=QS (hR x hx)
  exact⟨(hR x hx).lt.2.2,c1,d1,w1,w2⟩
 ·intro i e1 e2
  exact n1 (List.mem_cons.2 (.inl (e2.symm.trans e1)))
 ·rintro i e1 ⟨x,hx,e2⟩
  cases e1
  exact n3 (List.mem_map.2 ⟨x,hx,e2.symm⟩)
 ·rintro i e1 ⟨x,hx,e2⟩
  cases e1
  exact n1 (List.mem_cons.2 (.inr (List.mem_map.2 ⟨x,hx,e2.symm⟩)))
 ·rintro i e1 ⟨x,hx,e2⟩
  cases e1
  exact(hR x hx).lt.2.2 e2
theorem On{w:World}{T:Nat->Prop}{q c:Nat}{l:List Nat}{st1 st:Option Nat}(h:Qq w T c l st [(q,st1)]):∃ (g a1:Nat) (b1:Bool) (a2:Nat) (b2:Bool),PA l/\(∀ i,T i↔(Lh q i\/Lh c i\/Lh g i))/\okR l st1 a1 b1/\okR l st a2 b2 ∧
  MJ w q 106 [.slice (some ⟨g,0,none⟩) l.length l.length,.int .i64 (a1:Int),.bool b1]/\MJ w c 106 [.slice (some ⟨g,0,none⟩) l.length l.length,.int .i64 (a2:Int),.bool b2]/\YC w (Lh g) g l ∧
  KO (Lh q) (Lh c)/\KO (Lh q) (Lh g)/\KO (Lh c) (Lh g):=by
 obtain⟨g,a1,b1,a2,b2,hf,hT,u1,v1,u2,v2,u3,_,p1,p2,_,p4,_,_⟩:=V1 h
 refine⟨g,a1,b1,a2,b2,hf,fun i=>?_,u1,v1,u2,v2,u3,p1,p2,p4⟩
 have e:¬ tR [] i:=fun h=>by obtain⟨x,hx,_⟩:=h;cases hx
 rw[hT i]
 constructor
 ·rintro (h|h|h|h)
  ·exact .inl h
  ·exact .inr (.inl h)
  ·exact .inr (.inr h)
  ·exact absurd h e
 ·rintro (h|h|h)
  ·exact .inl h
  ·exact .inr (.inl h)
  ·exact .inr (.inr (.inl h))
theorem XM{w w':World}{T:Nat->Prop}{q g:Nat}{l:List Nat}{st:Option Nat}{R:List (Nat×Option Nat)}{r:Int×Option Nat}{e:Ending}(hf:PA l)(hT:∀ i,T i↔(Lh q i\/Lh g i\/tR R i))(hn:(q::R.map (·.1)).Nodup)(h1:RI w q g l st)(h2:∀ x∈R,RI w x.1 g l x.2)(hd:TQ w q g l r e w') :
  ∃ (T_r':Nat->Prop),e = .returned (.int .i64 r.1)/\KR T w w'/\(Qq w' T_r' q l r.2 R/\KS w T T_r'):=by
 obtain⟨k1,k2,k3⟩:=hd
 refine⟨T,k1,k3.mono (fun _ _ z=>(hT _).2 (.inl z)),⟨hf,g,hT,hn,k2,fun x hx=>(h2 x hx).kept k3 (fun z=>?_) h1.lt.2.2⟩,KS.refl _ _⟩
 exact(List.nodup_cons.1 hn).1 (z ▸ List.mem_map.2 ⟨x,hx,rfl⟩)
theorem TM(q:Nat)(l:List Nat)(st:Option Nat)(R:List (Nat×Option Nat))(m:Int)(T_r:Nat->Prop)(w0:World)(h_r:Qq w0 T_r q l st R) :
  Calls Tryz.prog 132 #[.pointer (some ⟨q,0,none⟩),.int .i64 m] w0 fun e w'=>∃ (T_r':Nat->Prop),e = .returned (.int .i64 (Ls (L1 l m) st).1)/\KR T_r w0 w'/\(Qq w' T_r' q l (Ls (L1 l m) st).2 R/\KS w0 T_r T_r'):=by
 obtain⟨hf,g,hT,hn,h1,h2⟩:=h_r
 exact(Zi q g l st m w0 hf h1).mono fun _ _ hd=>XM hf hT hn h1 h2 hd
theorem UX(q:Nat)(l:List Nat)(st:Option Nat)(R:List (Nat×Option Nat))(m:Int)(T_r:Nat->Prop)(w0:World)(h_r:Qq w0 T_r q l st R) :
  Calls Tryz.prog 96 #[.pointer (some ⟨q,0,none⟩),.int .i64 m] w0 fun e w'=>∃ (T_r':Nat->Prop),e = .returned (.int .i64 (Ls (LD l m) st).1)/\KR T_r w0 w'/\(Qq w' T_r' q l (Ls (LD l m) st).2 R/\KS w0 T_r T_r'):=by
 obtain⟨hf,g,hT,hn,h1,h2⟩:=h_r
 exact(ayT q g l st m w0 hf h1).mono fun _ _ hd=>XM hf hT hn h1 h2 hd
theorem Sg(q:Nat)(l:List Nat)(st:Option Nat)(R:List (Nat×Option Nat))(T_r:Nat->Prop)(w0:World)(h_r:Qq w0 T_r q l st R) :
  Calls Tryz.prog 98 #[.pointer (some ⟨q,0,none⟩)] w0 fun e w'=>e = .returned (.bool (st.isNone))/\KR (fun _=>False) w0 w':=by
 obtain⟨hf,g,hT,hn,h1,h2⟩:=h_r
 exact(aC0 q g l st w0 h1).mono fun _ _ ⟨e,hw⟩=>by subst hw;exact⟨e,KR.refl _ _⟩
theorem Wx(p:Nat)(l:List Nat)(st:Option Nat)(R:List (Nat×Option Nat))(A B:Int)(T_r:Nat->Prop)(w0:World)(h_r:Qq w0 T_r p (l) (st) (R)) :
  Calls Tryz.prog 100 #[.pointer (some ⟨p,0,none⟩),.agg #[.int .i64 (A),.int .i64 (B)]] w0 fun e w'=>∃ (T_r':Nat->Prop),e = .returned (.tuple #[.agg #[.int .i64 (Se l A B st),.int .i64 (R2 l A B st)],.int .i64 (QN l A B st)])/\KR (T_r) w0 w'/\(Qq w' T_r' p (l) (Nc l A B st) (R)/\KS w0 T_r T_r'):=by
 refine Ly (args:=[pt p 0,.agg #[iv A,iv B]]) 37 Tryz.func100 rfl rfl (Nat.le_of_ble_eq_true rfl) ?_
 have h1:=aDF A
 have h2:=aDF B
 have h3:=aBI l st
 have h4:=aBI l (Pf l st).2
 have g_r:=KS.refl w0 T_r
 refine KM (KL (LJ (vs:=[iv A,iv B]) rfl rfl rfl rfl fun p1 w2 B4 g5 k3=>?_))
 have B8:=h_r.all k3 KO.none
 have K9:=(KR.refl T_r w0).tr k3
 refine LN (n:=2) (vs:=[iv 0,iv 0]) rfl rfl rfl (by kernel_rfl) fun ac eC aV aW aX=>?_
 have aB:=KS.new K9 aW
 have aC:=KO.new aW B8.live
 obtain⟨cq,aY⟩:=Oe aX B8 B4
 have aZ:=K9.tr aX
 refine Lb (iv 0) LE (KQ ?_)
 have aD:=K4 (pt p 0)
 have cr:=K4 (undef)
 have ct:=K4 (pt p1 0)
 have cu:=K4 (pt ac 0)
 refine KK (KM (KM (KL (K2 Lw aD (KN (.bool false) rr (R0 rfl rfl rfl Tryz.underlying54 rr) (KQ ?_))))))
 have cv:=K4 (.bool false)
 refine KK ?_
 refine K5 (t:=false) cv (fun e=>by cases e) (fun _=>?_)
 refine Lf (KK (KM ?_))
 obtain⟨g,a,b,hf,hT,hok,hp,hg,hr,hap,hap2,hap3⟩:=aCJ cq
 have cw:KS w0 T_r (Lh p):=fun i h=>g_r i ((fun i h=>(hT i).2 (Or.inl h)) i h)
 have cy:KO (Lh p) (Lh ac):=fun i h=>aC.symm i ((fun i h=>(hT i).2 (Or.inl h)) i h)
 have cz:KS w0 T_r (Lh g):=fun i h=>g_r i ((fun i h=>(hT i).2 (Or.inr (Or.inl h))) i h)
 have cA:KO (Lh g) (Lh ac):=fun i h=>aC.symm i ((fun i h=>(hT i).2 (Or.inr (Or.inl h))) i h)
 have cB:KS w0 T_r (tR R):=fun i h=>g_r i ((fun i h=>(hT i).2 (Or.inr (Or.inr h))) i h)
 have cC:KO (tR R) (Lh ac):=fun i h=>aC.symm i ((fun i h=>(hT i).2 (Or.inr (Or.inr h))) i h)
 have cD:KO (Lh p) (Lh g):=hap
 have cE:KO (Lh p) (tR R):=hap2
 refine KL (K2 Lw aD (KN (pt p 0) rr (OW rfl rfl rr) (KN (.agg #[.slice (some ⟨g,0,none⟩) l.length l.length,iv ((a:Nat):Int),.bool b]) rr (KX M7 rfl rfl hp rr) (LN (n:=3) (vs:=[.slice none 0 0,iv ((0:Nat):Int),.bool false]) rfl rfl rfl (by kernel_rfl) fun ae eD cF a8 a9=>?_))))
 have ba:=KS.new aZ a8
 obtain⟨cG,bb,bc,bd,be⟩:=azg a8 aY aV hp hg hr
 obtain⟨cH,cI,cJ,cK,cL⟩:=O6 a9 aY aV hp hg hr
 refine Ll (us:=[.slice (some ⟨g,0,none⟩) l.length l.length,iv ((a:Nat):Int),.bool b]) M7 rfl rfl rfl rfl rfl cF rfl (Qc rr (L4 rfl MX)) fun cM cN aj=>?_
 have cO:=cH.all aj (cG.symm p1 rfl)
 have cP:=cI.all aj (bb.symm ac rfl)
 have cQ:=cJ.all aj (bc.symm p rfl)
 have cR:=cK.all aj bd.symm
 have cS:=cL.all aj be.symm
 refine KQ ?_
 have bf:=K4 (pt ae 0)
 refine KK (KM ?_)
 have cT:Qq cM (fun i=>(Lh p) i\/((Lh ae) i\/((Lh g) i\/((tR R) i)))) ae l st (List.cons (p,st) R):=Y4 hf hok cQ cN cR cS bc.symm cD cE bd be
 have bg:KS w0 T_r (fun i=>(Lh p) i\/((Lh ae) i\/((Lh g) i\/((tR R) i)))):=fun i h=>h.elim (fun y=>cw i y) (fun y=>y.elim (fun y=>(KS.weak ba (fun _ z=>z.elim)) i y) (fun y=>y.elim (fun y=>cz i y) (fun y=>cB i y)))
 have bh:KO (fun i=>(Lh p) i\/((Lh ae) i\/((Lh g) i\/((tR R) i)))) (Lh ac):=fun i h=>h.elim (fun y=>cy i y) (fun y=>y.elim (fun y=>bb i y) (fun y=>y.elim (fun y=>cA i y) (fun y=>cC i y)))
 refine KL (KN (.agg #[iv A,iv B]) rr (KX L0 rfl ct cO rr) (L9 rfl rfl rfl rfl rfl (fun _ _=>by kernel_rfl) (Lo rfl L5) (aDA A B  _   ) fun eE bi=>?_))
 obtain⟨bj,bl⟩:=Oe bi cP cT
 have bm:=((aZ.tr a9).trans aj (KS.ok (S:=T_r) ba KZ)).tr bi
 refine LN (n:=2) (vs:=[iv 0,iv 0]) rfl rfl rfl (by kernel_rfl) fun aa eF cU bn bo=>?_
 have aE:=KS.new bm bn
 obtain⟨aF,bp⟩:=UJ bn bj bl
 obtain⟨cV,cW⟩:=Oe bo bj bl
 refine Ll (us:=[iv (cl 64 A),iv (cl 64 B)]) L0 rfl rfl rfl rfl rfl cU rfl (L4 rfl (L4 rfl MX)) fun cX cY aG=>?_
 have bq:=cV.all aG (aF.symm ac rfl)
 have cZ:=cW.all aG bp.symm
 have bt:=(bm.tr bo).trans aG (KS.ok (S:=T_r) aE KZ)
 refine KQ ?_
 have aH:=K4 (pt aa 0)
 refine KK (KM ?_)
 refine ZF (S:=fun i=>(fun i=>(Lh p) i\/((Lh ae) i\/((Lh g) i\/((tR R) i)))) i\/((Lh aa) i)) [(5,1)] [some 16,some 17,some 18,some 19,some 20,none] [Pt.eq (pt aa 0),Pt.eq (iv (cl 64 A)),Pt.thg ⟨fun w_=>Qq w_ (fun i=>(Lh p) i\/((Lh ae) i\/((Lh g) i\/((tR R) i)))) ae l st (List.cons (p,st) R),fun i=>(Lh p) i\/((Lh ae) i\/((Lh g) i\/((tR R) i))),fun T_ w_=>Qq w_ T_ ae l ((Ls (L1 l 128) st).2) (List.cons (p,st) R),fun _ _ _ h_ k_ ha_=>h_.all k_ ha_,fun _ _ _ _ h_ k_ ha_=>h_.all k_ ha_,fun _ h_=>h_.live,fun _ _ h_=>h_.live⟩ (iv ((Pf l st).1)),Pt.eq (iv ((Pf l st).1+cl 64 A)),Pt.eq (pt aa 0),Pt.thg (aDj aa 67 [iv (cl 64 A),iv (cl 64 B)] [iv ((Pf l st).1+cl 64 A),iv (cl 64 B)]) undef] (by kernel_rfl) (by kernel_rfl) (by kernel_rfl) rfl (Tt.old ⟨⟨fun _ x_=>Or.inl x_,cZ,⟨bp.symm,trivial⟩⟩,⟨⟨fun _ x_=>Or.inr x_,cY,trivial⟩,trivial⟩⟩) ?_ ?_
 ·refine Nd ?_ ?_
  ·refine N6.one rfl fun F_ w_ hR hout hD=>?_
   exact(KU (n:=1) rfl ((hout 7 rfl (by decide)).trans aH) Tryz.underlying67 rfl (by kernel_rfl) (by decide) rfl ⟨rfl,KR.refl _ _⟩)
  refine Nd ?_ ?_
  ·refine N6.oneA rfl fun F_ w_ hR hout hD hA_=>?_
   have c5:F_ 16=pt aa 0:=(hD.get 0 rfl rfl rfl).1
   have hA5_:MJ w_ aa 67 [iv (cl 64 A),iv (cl 64 B)]:=hA_ 5 _ _ (by decide) rfl
   exact(KY rfl c5 Tryz.underlying3 hA5_ rfl rfl ⟨rfl,KR.refl _ _⟩)
  refine Nd ?_ ?_
  ·refine N6.turn rfl rfl fun F_ w_ hR hout hD hA_=>?_
   exact(LQ rfl rfl rfl (fun _ _=>by kernel_rfl) (K6 _) (Lo ((hout 6 rfl (by decide)).trans bf) (Lo rfl L5)) (TM ae l st (List.cons (p,st) R) 128 (fun i=>(Lh p) i\/((Lh ae) i\/((Lh g) i\/((tR R) i)))) _  hA_ ) (fun e_ w_ h_=>by obtain⟨_,he_,k_,hb_,hg_⟩:=h_;exact⟨_,he_,rfl,k_,_,hb_,hg_⟩))
  refine Nd ?_ ?_
  ·refine N6.one rfl fun F_ w_ hR hout hD=>?_
   have c6:F_ 17=iv (cl 64 A):=(hD.get 0 rfl rfl rfl).1
   have c7:F_ 18=iv ((Pf l st).1):=(hD.get 1 rfl rfl rfl).1
   exact(LS rfl c6 c7 (by rw[Int.add_comm,IntKind.wrap_i64];omega) ⟨rfl,KR.refl _ _⟩)
  refine Nd ?_ ?_
  ·refine N6.one rfl fun F_ w_ hR hout hD=>?_
   exact(KU (n:=1) rfl ((hout 7 rfl (by decide)).trans aH) Tryz.underlying67 rfl (by kernel_rfl) (by decide) rfl ⟨rfl,KR.refl _ _⟩)
  refine Nd ?_ ?_
  ·refine N6.turn rfl rfl fun F_ w_ hR hout hD hA_=>?_
   have c9:F_ 20=pt aa 0:=(hD.get 0 rfl rfl rfl).1
   have da:F_ 19=iv ((Pf l st).1+cl 64 A):=(hD.get 1 rfl rfl rfl).1
   exact Qk rfl c9 da hA_ rfl rfl (by kernel_rfl) fun w2_ b_ k_=>⟨rfl,k_,_,⟨rfl,b_⟩,KS.refl _ _⟩
  exact Vy
 intro eG bu eH aI bv db am bz bA
 have bB:=bq.all bv (fun x=>(x.elim (fun y=>((bh.symm) ac rfl y)) (fun y=>((aF.symm) ac rfl y))))
 have bC:=bt.trans bv (fun i hi x=>(x.elim (fun y=>((KS.ok (S:=T_r) bg (fun _ x=>x)) i hi y)) (fun y=>((KS.ok (S:=T_r) aE KZ) i hi y))))
 obtain⟨ai,aJ⟩:∃ T_,T_=bu 2:=⟨_,rfl⟩
 have dc:Qq aI ai ae l ((Ls (L1 l 128) st).2) (List.cons (p,st) R):=by rw[aJ];exact(am 2 _ _ rfl).1
 have bD:KS cX (fun i=>(Lh p) i\/((Lh ae) i\/((Lh g) i\/((tR R) i)))) ai:=by rw[aJ];exact(am 2 _ _ rfl).2
 have bE:=bg.trans bt bD
 have bF:=bh.grew bD (L8 bq.lt)
 have dd:Lh aa=bu 5:=((am 5 _ _ rfl).1.1).symm
 have de:MJ aI aa 67 [iv ((Pf l st).1+cl 64 A),iv (cl 64 B)]:=(am 5 _ _ rfl).1.2
 have df:KO ai (Lh aa):=by rw[aJ,dd];exact bz 2 5 _ _ _ _ (by decide) rfl rfl
 clear am bz
 obtain⟨dg,dh,di,bG,aK⟩:=t5 bA 0 aD 37 cr 4 cu 6 bf 7 aH
 clear db bA
 refine KK (KM ?_)
 refine ZF (S:=fun i=>ai i\/((Lh aa) i)) [(5,1)] [some 21,some 22,some 23,some 24,some 25,none] [Pt.eq (pt aa 1),Pt.eq (iv (cl 64 B)),Pt.thg ⟨fun w_=>Qq w_ ai ae l ((Ls (L1 l 128) st).2) (List.cons (p,st) R),ai,fun T_ w_=>Qq w_ T_ ae l ((Ls (L1 l 128) ((Ls (L1 l 128) st).2)).2) (List.cons (p,st) R),fun _ _ _ h_ k_ ha_=>h_.all k_ ha_,fun _ _ _ _ h_ k_ ha_=>h_.all k_ ha_,fun _ h_=>h_.live,fun _ _ h_=>h_.live⟩ (iv ((Pf l (Pf l st).2).1)),Pt.eq (iv ((Pf l (Pf l st).2).1+cl 64 B)),Pt.eq (pt aa 1),Pt.thg (aDj aa 67 [iv ((Pf l st).1+cl 64 A),iv (cl 64 B)] [iv ((Pf l st).1+cl 64 A),iv ((Pf l (Pf l st).2).1+cl 64 B)]) undef] (by kernel_rfl) (by kernel_rfl) (by kernel_rfl) rfl (Tt.old ⟨⟨fun _ x_=>Or.inl x_,dc,⟨df,trivial⟩⟩,⟨⟨fun _ x_=>Or.inr x_,de,trivial⟩,trivial⟩⟩) ?_ ?_
 ·refine Nd ?_ ?_
  ·refine N6.one rfl fun F_ w_ hR hout hD=>?_
   exact(KU (n:=1) rfl ((hout 7 rfl (by decide)).trans aK) Tryz.underlying67 rfl (by kernel_rfl) (by decide) rfl ⟨rfl,KR.refl _ _⟩)
  refine Nd ?_ ?_
  ·refine N6.oneA rfl fun F_ w_ hR hout hD hA_=>?_
   have dk:F_ 21=pt aa 1:=(hD.get 0 rfl rfl rfl).1
   have hA5_:MJ w_ aa 67 [iv ((Pf l st).1+cl 64 A),iv (cl 64 B)]:=hA_ 5 _ _ (by decide) rfl
   exact(KY rfl dk Tryz.underlying3 hA5_ rfl rfl ⟨rfl,KR.refl _ _⟩)
  refine Nd ?_ ?_
  ·refine N6.turn rfl rfl fun F_ w_ hR hout hD hA_=>?_
   exact(LQ rfl rfl rfl (fun _ _=>by kernel_rfl) (K6 _) (Lo ((hout 6 rfl (by decide)).trans bG) (Lo rfl L5)) (TM ae l ((Ls (L1 l 128) st).2) (List.cons (p,st) R) 128 ai _  hA_ ) (fun e_ w_ h_=>by obtain⟨_,he_,k_,hb_,hg_⟩:=h_;exact⟨_,he_,rfl,k_,_,hb_,hg_⟩))
  refine Nd ?_ ?_
  ·refine N6.one rfl fun F_ w_ hR hout hD=>?_
   have dl:F_ 22=iv (cl 64 B):=(hD.get 0 rfl rfl rfl).1
   have dm:F_ 23=iv ((Pf l (Pf l st).2).1):=(hD.get 1 rfl rfl rfl).1
   exact(LS rfl dl dm (by rw[Int.add_comm,IntKind.wrap_i64];omega) ⟨rfl,KR.refl _ _⟩)
  refine Nd ?_ ?_
  ·refine N6.one rfl fun F_ w_ hR hout hD=>?_
   exact(KU (n:=1) rfl ((hout 7 rfl (by decide)).trans aK) Tryz.underlying67 rfl (by kernel_rfl) (by decide) rfl ⟨rfl,KR.refl _ _⟩)
  refine Nd ?_ ?_
  ·refine N6.turn rfl rfl fun F_ w_ hR hout hD hA_=>?_
   have dn:F_ 25=pt aa 1:=(hD.get 0 rfl rfl rfl).1
   have dp:F_ 24=iv ((Pf l (Pf l st).2).1+cl 64 B):=(hD.get 1 rfl rfl rfl).1
   exact Qk rfl dn dp hA_ rfl rfl (by kernel_rfl) fun w2_ b_ k_=>⟨rfl,k_,_,⟨rfl,b_⟩,KS.refl _ _⟩
  exact Vy
 intro eI bH eJ au bI dq an bJ bK
 have bL:=bB.all bI (fun x=>(x.elim (fun y=>((bF.symm) ac rfl y)) (fun y=>((aF.symm) ac rfl y))))
 have bM:=bC.trans bI (fun i hi x=>(x.elim (fun y=>((KS.ok (S:=T_r) bE (fun _ x=>x)) i hi y)) (fun y=>((KS.ok (S:=T_r) aE KZ) i hi y))))
 obtain⟨ao,aL⟩:∃ T_,T_=bH 2:=⟨_,rfl⟩
 have av:Qq au ao ae l ((Ls (L1 l 128) ((Ls (L1 l 128) st).2)).2) (List.cons (p,st) R):=by rw[aL];exact(an 2 _ _ rfl).1
 have bN:KS aI ai ao:=by rw[aL];exact(an 2 _ _ rfl).2
 have af:=bE.trans bC bN
 have ah:=bF.grew bN (L8 bB.lt)
 have dr:Lh aa=bH 5:=((an 5 _ _ rfl).1.1).symm
 have dt:MJ au aa 67 [iv ((Pf l st).1+cl 64 A),iv ((Pf l (Pf l st).2).1+cl 64 B)]:=(an 5 _ _ rfl).1.2
 have du:KO ao (Lh aa):=by rw[aL,dr];exact bJ 2 5 _ _ _ _ (by decide) rfl rfl
 clear an bJ
 obtain⟨dv,aM,ak,aN,bO⟩:=t5 bK 0 dg 37 dh 4 di 6 bG 7 aK
 clear dq bK
 refine KK (KM (KM ?_))
 rcases Bool.eq_false_or_eq_true (((Ls (L1 l 128) ((Ls (L1 l 128) st).2)).2).isNone) with aO|aO
 ·skip
  refine KL (LH (R:=fun v_ w_=>v_ = .bool true/\KR (fun _=>False) au w_) rfl rfl (LQ rfl rfl rfl (fun _ _=>by kernel_rfl) (K6 _) (Lo aN L5) (Sg ae l ((Ls (L1 l 128) ((Ls (L1 l 128) st).2)).2) (List.cons (p,st) R) ao _  av ) (fun e_ w_ h_=>⟨_,h_.1,(congrArg Value.bool aO),h_.2⟩)) ?_)
  rintro _ eK ⟨rfl,bP⟩
  obtain⟨dw,dy⟩:=Oe bP bL av
  refine KN (.bool true) rr (KT rfl rfl rr) (Lq 1 false 27 Li (Lq 1 false 27 Li (Lq 1 false 27 Li (KN (.bool true) rr (LB rfl rfl rfl rr) (KQ ?_)))))
  have dz:=K4 (.bool true)
  refine KK ?_
  refine K5 (t:=true) dz (fun _=>?_) (fun e=>by cases e)
  refine KM ?_
  have hk:¬ SN l A B st:=by unfold SN;rintro ⟨h7,h8⟩;first|exact h7 (Option.isNone_iff_eq_none.1 (by assumption))|exact absurd (PG h8) (by assumption)
  have hR:=aAg hk
  obtain⟨g2,a1,b1,a2,b2,hf2,hT2,ho1,ho2,ap,hq2,hg2,hr2,ap1_,ap2_,ap3_,ap4_,ap5_,ap6_⟩:=V1 dy
  have dA:KS w0 T_r (Lh p):=fun i h=>af i ((fun i h=>(hT2 i).2 (Or.inl h)) i h)
  have dB:KO (Lh p) (Lh ac):=fun i h=>ah i ((fun i h=>(hT2 i).2 (Or.inl h)) i h)
  have dC:KS w0 T_r (Lh g2):=fun i h=>af i ((fun i h=>(hT2 i).2 (Or.inr (Or.inr (Or.inl h)))) i h)
  have dD:KO (Lh g2) (Lh ac):=fun i h=>ah i ((fun i h=>(hT2 i).2 (Or.inr (Or.inr (Or.inl h)))) i h)
  have dE:KS w0 T_r (tR R):=fun i h=>af i ((fun i h=>(hT2 i).2 (Or.inr (Or.inr (Or.inr h)))) i h)
  have dF:KO (tR R) (Lh ac):=fun i h=>ah i ((fun i h=>(hT2 i).2 (Or.inr (Or.inr (Or.inr h)))) i h)
  have bQ:KO (Lh p) (Lh g2):=ap2_
  have bR:KO (Lh p) (tR R):=ap3_
  refine KL (KN (.agg #[iv 0,iv 0]) rr (Ma (l':=[]) (cells:=#[iv 0,iv 0]) rfl Rj (by kernel_rfl) rfl rr) (Ll (us:=[iv 0,iv 0]) L0 rfl rfl rfl ak rfl dw rfl (L4 rfl (L4 rfl MX)) fun dG dH aw=>?_))
  have bS:=ap.all aw (dB p rfl)
  have bT:=hg2.all aw dD
  have bU:=hr2.all aw dF
  refine Lb (iv 90) LE (KQ ?_)
  have dI:=K4 (iv 90)
  refine KK (Le (Lx ?_))
  have dJ:Qq dG (fun i=>(Lh p) i\/((Lh g2) i\/((tR R) i))) p l (Nc l A B st) R:=(by first|(rw[show Nc l A B st=st from if_neg hk];exact QQ hf2 ho1 bS bT bU bQ bR)|(rw[show Nc l A B st=vrS l st from if_pos hk];exact QQ hf2 ho2 bS bT bU bQ bR))
  have dK:KS w0 T_r (fun i=>(Lh p) i\/((Lh g2) i\/((tR R) i))):=fun i h=>h.elim (fun y=>dA i y) (fun y=>y.elim (fun y=>dC i y) (fun y=>dE i y))
  exact Mo aM rfl (M6 (vs:=[iv 0,iv 0]) L0 rfl ak dH) (LF (v:=iv 90) rfl dI) ⟨(fun i=>(Lh p) i\/((Lh g2) i\/((tR R) i))),(by rw[hR.1,hR.2.1,hR.2.2]),((bM.tr bP).trans aw (KS.ok (S:=T_r) aB KZ)),⟨dJ,dK⟩⟩
 ·skip
  refine KL (LH (R:=fun v_ w_=>v_ = .bool false/\KR (fun _=>False) au w_) rfl rfl (LQ rfl rfl rfl (fun _ _=>by kernel_rfl) (K6 _) (Lo aN L5) (Sg ae l ((Ls (L1 l 128) ((Ls (L1 l 128) st).2)).2) (List.cons (p,st) R) ao _  av ) (fun e_ w_ h_=>⟨_,h_.1,(congrArg Value.bool aO),h_.2⟩)) ?_)
  rintro _ dL ⟨rfl,bV⟩
  obtain⟨dM,dN,bW⟩:=Od bV bL av dt
  refine KN (.bool false) rr (KT rfl rfl rr) (Lj (.agg #[iv ((Pf l st).1+cl 64 A),iv ((Pf l (Pf l st).2).1+cl 64 B)]) 1 false 27 Li (KX L0 rfl bO bW rr) (LZ (R:=fun v_ w_=>v_=iv (Qw ((Pf l st).1+cl 64 A) ((Pf l (Pf l st).2).1+cl 64 B))/\KR (fun _=>False) dL w_) 1 false 27 rfl rfl rfl rfl rfl (LQ rfl rfl rfl (fun _ _=>by kernel_rfl) (K6 _) (Lo rfl L5) (Wu ((Pf l st).1+cl 64 A) ((Pf l (Pf l st).2).1+cl 64 B)  _   ) (fun e_ w_ h_=>⟨_,h_.1,rfl,h_.2⟩)) ?_))
  rintro _ eL ⟨rfl,bX⟩
  obtain⟨bY,bZ,dO⟩:=Od bX dM dN bW
  have b7:=(bM.tr bV).tr bX
  refine Lj (.bool (decide ((Qw ((Pf l st).1+cl 64 A) ((Pf l (Pf l st).2).1+cl 64 B))≠0))) 1 false 27 Li (Mw rfl rfl rfl rfl rr) (KN (.bool (decide ((Qw ((Pf l st).1+cl 64 A) ((Pf l (Pf l st).2).1+cl 64 B))≠0))) rr (Lt rfl rfl rfl rr) (KQ ?_))
  have dP:=K4 (.bool (decide ((Qw ((Pf l st).1+cl 64 A) ((Pf l (Pf l st).2).1+cl 64 B))≠0)))
  refine KK ?_
  refine K5 dP (fun aq=>?_) (fun aq=>?_)
  ·replace aq:=of_decide_eq_true aq
   refine KM ?_
   have hk:¬ SN l A B st:=by unfold SN;rintro ⟨h7,h8⟩;first|exact h7 (Option.isNone_iff_eq_none.1 (by assumption))|exact absurd (PG h8) (by assumption)
   have hR:=aAg hk
   obtain⟨g2,a1,b1,a2,b2,hf2,hT2,ho1,ho2,ap,hq2,hg2,hr2,ap1_,ap2_,ap3_,ap4_,ap5_,ap6_⟩:=V1 bZ
   have dQ:KS w0 T_r (Lh p):=fun i h=>af i ((fun i h=>(hT2 i).2 (Or.inl h)) i h)
   have dR:KO (Lh p) (Lh ac):=fun i h=>ah i ((fun i h=>(hT2 i).2 (Or.inl h)) i h)
   have dS:KS w0 T_r (Lh g2):=fun i h=>af i ((fun i h=>(hT2 i).2 (Or.inr (Or.inr (Or.inl h)))) i h)
   have dT:KO (Lh g2) (Lh ac):=fun i h=>ah i ((fun i h=>(hT2 i).2 (Or.inr (Or.inr (Or.inl h)))) i h)
   have dU:KS w0 T_r (tR R):=fun i h=>af i ((fun i h=>(hT2 i).2 (Or.inr (Or.inr (Or.inr h)))) i h)
   have dV:KO (tR R) (Lh ac):=fun i h=>ah i ((fun i h=>(hT2 i).2 (Or.inr (Or.inr (Or.inr h)))) i h)
   have b8:KO (Lh p) (Lh g2):=ap2_
   have b9:KO (Lh p) (tR R):=ap3_
   refine KL (KN (.agg #[iv 0,iv 0]) rr (Ma (l':=[]) (cells:=#[iv 0,iv 0]) rfl Rj (by kernel_rfl) rfl rr) (Ll (us:=[iv 0,iv 0]) L0 rfl rfl rfl ak rfl bY rfl (L4 rfl (L4 rfl MX)) fun dW dX az=>?_))
   have cd:=ap.all az (dR p rfl)
   have ce:=hg2.all az dT
   have cf:=hr2.all az dV
   refine Lb (iv 90) LE (KQ ?_)
   have dY:=K4 (iv 90)
   refine KK (Le (Lx ?_))
   have dZ:Qq dW (fun i=>(Lh p) i\/((Lh g2) i\/((tR R) i))) p l (Nc l A B st) R:=(by first|(rw[show Nc l A B st=st from if_neg hk];exact QQ hf2 ho1 cd ce cf b8 b9)|(rw[show Nc l A B st=vrS l st from if_pos hk];exact QQ hf2 ho2 cd ce cf b8 b9))
   have d8:KS w0 T_r (fun i=>(Lh p) i\/((Lh g2) i\/((tR R) i))):=fun i h=>h.elim (fun y=>dQ i y) (fun y=>y.elim (fun y=>dS i y) (fun y=>dU i y))
   exact Mo aM rfl (M6 (vs:=[iv 0,iv 0]) L0 rfl ak dX) (LF (v:=iv 90) rfl dY) ⟨(fun i=>(Lh p) i\/((Lh g2) i\/((tR R) i))),(by rw[hR.1,hR.2.1,hR.2.2]),(b7.trans az (KS.ok (S:=T_r) aB KZ)),⟨dZ,d8⟩⟩
  ·replace aq:=of_decide_eq_false aq
   refine Lf (KK (KM ?_))
   have hk:SN l A B st:=by unfold SN;exact⟨fun h7=>absurd (Option.isNone_iff_eq_none.2 h7) (Bool.eq_false_iff.1 (by assumption)),(SL _ _).1 (Decidable.byContradiction (by assumption))⟩
   have hR:=Yt hk
   obtain⟨g2,a1,b1,a2,b2,hf2,hT2,ho1,ho2,ap,hq2,hg2,hr2,ap1_,ap2_,ap3_,ap4_,ap5_,ap6_⟩:=V1 bZ
   have cg:KS w0 T_r (Lh p):=fun i h=>af i ((fun i h=>(hT2 i).2 (Or.inl h)) i h)
   have ci:KO (Lh p) (Lh ac):=fun i h=>ah i ((fun i h=>(hT2 i).2 (Or.inl h)) i h)
   have d9:KO (Lh p) (Lh aa):=fun i h=>du i ((fun i h=>(hT2 i).2 (Or.inl h)) i h)
   have eb:KS w0 T_r (Lh g2):=fun i h=>af i ((fun i h=>(hT2 i).2 (Or.inr (Or.inr (Or.inl h)))) i h)
   have ee:KO (Lh g2) (Lh ac):=fun i h=>ah i ((fun i h=>(hT2 i).2 (Or.inr (Or.inr (Or.inl h)))) i h)
   have eh:KS w0 T_r (tR R):=fun i h=>af i ((fun i h=>(hT2 i).2 (Or.inr (Or.inr (Or.inr h)))) i h)
   have ei:KO (tR R) (Lh ac):=fun i h=>ah i ((fun i h=>(hT2 i).2 (Or.inr (Or.inr (Or.inr h)))) i h)
   have aP:KO (Lh p) (Lh g2):=ap2_
   have aQ:KO (Lh p) (tR R):=ap3_
   refine KL (K2 Lw dv (KN (.agg #[.slice (some ⟨g2,0,none⟩) l.length l.length,iv ((a2:Nat):Int),.bool b2]) rr (KX M7 rfl aN hq2 rr) (KN (pt p 0) rr (OW rfl rfl rr) (Ll (us:=[.slice (some ⟨g2,0,none⟩) l.length l.length,iv ((a2:Nat):Int),.bool b2]) M7 rfl rfl rfl rfl rfl ap rfl (Qc rr (L4 rfl MX)) fun eM en ar=>?_))))
   have eo:=bY.all ar (ci.symm ac rfl)
   have ep:=dO.all ar (d9.symm aa rfl)
   have er:=hg2.all ar aP.symm
   have et:=hr2.all ar aQ.symm
   refine KQ ?_
   refine KK (KM (KL (KN (.agg #[iv ((Pf l st).1+cl 64 A),iv ((Pf l (Pf l st).2).1+cl 64 B)]) rr (KX L0 rfl bO ep rr) (Ll (us:=[iv ((Pf l st).1+cl 64 A),iv ((Pf l (Pf l st).2).1+cl 64 B)]) L0 rfl rfl rfl ak rfl eo rfl (L4 rfl (L4 rfl MX)) fun eu ew aA=>?_))))
   have cj:=en.all aA (ci p rfl)
   have cm:=er.all aA ee
   have cn:=et.all aA ei
   refine Lb (iv 0) LE (KQ ?_)
   have ex:=K4 (iv 0)
   refine KK (Le ?_)
   have ey:Qq eu (fun i=>(Lh p) i\/((Lh g2) i\/((tR R) i))) p l (Nc l A B st) R:=(by first|(rw[show Nc l A B st=st from if_neg hk];exact QQ hf2 ho1 cj cm cn aP aQ)|(rw[show Nc l A B st=vrS l st from if_pos hk];exact QQ hf2 ho2 cj cm cn aP aQ))
   have ez:KS w0 T_r (fun i=>(Lh p) i\/((Lh g2) i\/((tR R) i))):=fun i h=>h.elim (fun y=>cg i y) (fun y=>y.elim (fun y=>eb i y) (fun y=>eh i y))
   exact Mo aM rfl (M6 (vs:=[iv ((Pf l st).1+cl 64 A),iv ((Pf l (Pf l st).2).1+cl 64 B)]) L0 rfl ak ew) (LF (v:=iv 0) rfl ex) ⟨(fun i=>(Lh p) i\/((Lh g2) i\/((tR R) i))),(by rw[hR.1,hR.2.1,hR.2.2]),((b7.trans ar (KS.ok (S:=T_r) cg (fun _ x=>x))).trans aA (KS.ok (S:=T_r) aB KZ)),⟨ey,ez⟩⟩
theorem R7(p:Nat)(l:List Nat)(st:Option Nat)(R:List (Nat×Option Nat))(T_r:Nat->Prop)(w0:World)(hO:OX w0)(hG:∀ i,T_r i->2<i)(h_r:Qq w0 T_r p (l) (st) (R)) :
  Calls Tryz.prog 101 #[.pointer (some ⟨p,0,none⟩)] w0 fun e w'=>∃ (T_r':Nat->Prop),e = .returned (.tuple #[LW ((LV l st).1),.int .i64 ((LV l st).2.1)])/\KR (T_r) w0 w'/\(Qq w' T_r' p (l) (YQ l st) (R)/\KS w0 T_r T_r'):=by
 refine Ly (args:=[pt p 0]) 48 Tryz.func101 rfl rfl (Nat.le_of_ble_eq_true rfl) ?_
 have K0:=KR.refl T_r w0
 have hle:=V4 l st
 obtain⟨M,hM⟩:∃ M,M=(Ls (LD l N4) st).1.toNat:=⟨_,rfl⟩
 have g_r:=KS.refl w0 T_r
 refine KM (KL (Mf rfl rfl rfl KW.2.2 fun p1 w2 e5 B3 k4=>?_))
 have g6:=L7 (Nat.le_of_eq e5.symm)
 have aj:=KS.new K0 g6
 have bb:=KO.new g6 h_r.live
 clear e5 g6
 have B9:=h_r.all k4 KO.none
 have bd:=K0.tr k4
 refine Lb (iv 0) LE (KQ ?_)
 have ak:=K4 (pt p 0)
 have az:=K4 (undef)
 have am:=K4 (pt p1 0)
 have b8:=K4 (iv 0)
 refine KK (WK (KM (KM (KL (K2 Lw ak (KN (.bool false) rr (R0 rfl rfl rfl Tryz.underlying54 rr) (KQ ?_)))))))
 have be:=K4 (.bool false)
 refine KK ?_
 refine K5 (t:=false) be (fun e=>by cases e) (fun _=>?_)
 refine Lf (KK (KM (KL (Mf rfl rfl rfl KW.2.2 fun af bf bg bh bi=>?_))))
 have bj:=L7 (Nat.le_of_eq bg.symm)
 obtain⟨bl,b9⟩:=UJ bj B9 B3
 clear bg
 obtain⟨cd,bm⟩:=Oe bi B9 B3
 have bn:=bd.tr bi
 refine KQ ?_
 have ce:=K4 (pt af 0)
 refine KK (KM (KL (Lb (iv 0) LE (KQ ?_))))
 have cf:=K4 (iv 0)
 refine KK (KM (KL (K2 Lw ak (LH (R:=fun v_ w_=>∃ (aa:Nat->Prop),iv ((M:Nat):Int)=v_/\KR T_r bf w_/\(Qq w_ aa p l ((Ls (LD l 9223372036854775807) st).2) R/\KS bf T_r aa)) rfl rfl (LQ rfl rfl rfl (fun _ _=>by kernel_rfl) (K6 _) (Lo rfl (Lo rfl L5)) (UX p l st R 9223372036854775807 T_r _  cd ) (fun e_ w_ h_=>by obtain⟨T55_,he_,hr_⟩:=h_;exact⟨_,he_,T55_,(congrArg (Value.int .i64) (by rw[show (9223372036854775807:Int)=N4 from rfl];omega)).symm,hr_⟩)) ?_))))
 rintro _ aA ⟨aa,rfl,aB,⟨cg,bo⟩⟩
 have bp:=bm.all aB (bb p1 rfl)
 have ci:=bh.all aB (bl af rfl)
 have bq:=bn.trans aB (fun i hi x=>((KS.ok (S:=T_r) g_r (fun _ x=>x)) i hi x))
 have aC:=g_r.trans bn bo
 obtain⟨aD,cj⟩:=WX bo (bb.symm) bm (bl.symm) bh
 refine Lb (iv ((M:Nat):Int)) LE (KQ ?_)
 have aE:=K4 (iv ((M:Nat):Int))
 refine KK (KM (KM ?_))
 have av:Qq aA aa p l ((Ls (LD l N4) st).2) R:=cg
 rcases Bool.eq_false_or_eq_true (((Ls (LD l N4) st).2).isNone) with aF|aF
 ·skip
  refine KL (K2 Lw ak (LH (R:=fun v_ w_=>v_ = .bool true/\KR (fun _=>False) aA w_) rfl rfl (LQ rfl rfl rfl (fun _ _=>by kernel_rfl) (K6 _) (Lo rfl L5) (Sg p l ((Ls (LD l N4) st).2) R aa _  av ) (fun e_ w_ h_=>⟨_,h_.1,(congrArg Value.bool aF),h_.2⟩)) ?_))
  rintro _ dc ⟨rfl,bt⟩
  obtain⟨cm,cn⟩:=Oe bt av bp
  refine KN (.bool true) rr (KT rfl rfl rr) (Lq 2 false 15 Li (Lq 2 false 15 Li (KN (.bool true) rr (LB rfl rfl rfl rr) (KQ ?_))))
  have co:=K4 (.bool true)
  refine KK ?_
  refine K5 (t:=true) co (fun _=>?_) (fun e=>by cases e)
  refine N0 (MB ?_)
  refine Na ⟨_,rfl,?_⟩
  refine KM (Lf (KK (KM ?_)))
  first|have hR:=RC (l:=l) (s:=st) (Or.inl (by assumption))|have hR:=RC (l:=l) (s:=st) (Or.inr (by omega))|have hR:=ZS (by omega) hI (by omega)|have hR:=ZK (by omega) hI (by omega) (by first|exact Or.inl (by assumption)|exact Or.inr (by assumption))
  refine KL (KN (LW (fun _=>0)) rr (MQ (cells:=(Mp 16 (fun _=>0)).toArray) rfl (by kernel_rfl) rfl rr) (Lu KW rfl rfl rfl am rfl cn fun dd cq bu=>?_))
  have cr:=cm.all bu aD
  refine Lb (iv 60) LE (KQ ?_)
  have ct:=K4 (iv 60)
  refine KK (Le (Nu ?_))
  exact Mo az rfl (MH KW rfl am cq) (LF (v:=iv 60) rfl ct) ⟨aa,(by rw[← (NZ hR).1,← (NZ hR).2.1]),((bq.tr bt).trans bu (KS.ok (S:=T_r) aj KZ)),⟨(by rw[(NZ hR).2.2];exact cr),aC⟩⟩
 ·skip
  refine KL (K2 Lw ak (LH (R:=fun v_ w_=>v_ = .bool false/\KR (fun _=>False) aA w_) rfl rfl (LQ rfl rfl rfl (fun _ _=>by kernel_rfl) (K6 _) (Lo rfl L5) (Sg p l ((Ls (LD l N4) st).2) R aa _  av ) (fun e_ w_ h_=>⟨_,h_.1,(congrArg Value.bool aF),h_.2⟩)) ?_))
  rintro _ de ⟨rfl,bv⟩
  obtain⟨bz,bA,cu⟩:=Od bv av bp ci
  have bB:=bq.tr bv
  refine KN (.bool false) rr (KT rfl rfl rr) (Lj (iv ((M:Nat):Int)) 2 false 15 Li (KT rfl aE rr) (Lj (.bool (decide (16<((M:Nat):Int)))) 2 false 15 Li (RN rfl rfl rfl rfl rr) (KN (.bool (decide (16<((M:Nat):Int)))) rr (Lt rfl rfl rfl rr) (KQ ?_))))
  have bC:=K4 (.bool (decide (16<((M:Nat):Int))))
  refine KK ?_
  refine K5 bC (fun an=>?_) (fun an=>?_)
  ·replace an:=of_decide_eq_true an
   refine N0 (MB ?_)
   refine Na ⟨_,rfl,?_⟩
   refine KM (Lf (KK (KM ?_)))
   first|have hR:=RC (l:=l) (s:=st) (Or.inl (by assumption))|have hR:=RC (l:=l) (s:=st) (Or.inr (by omega))|have hR:=ZS (by omega) hI (by omega)|have hR:=ZK (by omega) hI (by omega) (by first|exact Or.inl (by assumption)|exact Or.inr (by assumption))
   refine KL (KN (LW (fun _=>0)) rr (MQ (cells:=(Mp 16 (fun _=>0)).toArray) rfl (by kernel_rfl) rfl rr) (Lu KW rfl rfl rfl am rfl bA fun df cv bD=>?_))
   have cw:=bz.all bD aD
   refine Lb (iv 60) LE (KQ ?_)
   have cy:=K4 (iv 60)
   refine KK (Le (Nu ?_))
   exact Mo az rfl (MH KW rfl am cv) (LF (v:=iv 60) rfl cy) ⟨aa,(by rw[← (NZ hR).1,← (NZ hR).2.1]),(bB.trans bD (KS.ok (S:=T_r) aj KZ)),⟨(by rw[(NZ hR).2.2];exact cw),aC⟩⟩
  ·replace an:=of_decide_eq_false an
   refine Lf (KK (KM (KM (KL (K2 Lw aE (KN (iv 0) rr (KT rfl rfl rr) (KQ ?_)))))))
   have cz:=K4 (iv ((M:Nat):Int))
   have cA:=K4 (iv 0)
   refine KK (Lm (M8 (fun nn FF ww=>∃ (i:Nat),∃ (a:Nat),∃ (b:Nat->Int),∃ (s:Option Nat),∃ (ab:Nat->Prop),(i<=M)/\(a<=16)/\(QX l (M-i) a b s=gRd l st)/\nn=M-i/\FF 0=pt p 0/\FF 2=pt p1 0/\FF 3=iv 0/\FF 4=pt af 0/\FF 6=iv ((M:Nat):Int)/\FF 9 = .bool false/\FF 18 = .bool (decide (16<((M:Nat):Int)))/\FF 19=iv ((M:Nat):Int)/\FF 48=undef/\FF 5=iv ((a:Nat):Int)/\FF 20=iv ((i:Nat):Int)/\KR T_r w0 ww/\Qq ww ab p l s R/\Of ww p1 69 (fun _=>0)/\Of ww af 69 b/\KS w0 T_r ab/\KO ab (Lh p1)/\KO ab (Lh af)) (M-0) ⟨0,0,(fun _=>0),(Ls (LD l N4) st).2,aa,by omega,by omega,(aDG (by assumption) (by omega) hM),rfl,ak,am,b8,ce,aE,be,bC,cz,az,cf,cA,bB,bz,bA,cu,aC,aD,cj⟩ ?_))
   rintro dg dh bE ⟨i,a,b,s,ab,i151,i152,hI,hn150,aG,ac,cB,aH,cC,cD,cE,bF,ao,cF,bG,aI,bH,aJ,aK,aL,aM,bI⟩
   refine KM (KL (KN (.bool (decide (((i:Nat):Int)<((M:Nat):Int)))) rr (Mc rfl bG bF rfl rr) (KQ ?_)))
   have cG:=K4 (.bool (decide (((i:Nat):Int)<((M:Nat):Int))))
   refine KK (KM ?_)
   refine K5 cG (fun ap=>?_) (fun ap=>?_)
   ·replace ap:=of_decide_eq_true ap
    refine Lf (KK (KM (Lm (KM ?_))))
    have hat:=aDP l a s
    refine KL (K2 Lw cF (K2 Lw aG (LH (R:=fun v_ w_=>∃ (ah:Nat->Prop),iv ((Ls (LD l 9223372036854775807) s).1)=v_/\KR ab bE w_/\(Qq w_ ah p l ((Ls (LD l 9223372036854775807) s).2) R/\KS bE ab ah)) rfl rfl (LQ rfl rfl rfl (fun _ _=>by kernel_rfl) (K6 _) (Lo rfl (Lo rfl L5)) (UX p l s R 9223372036854775807 ab _  bH ) (fun e_ w_ h_=>by obtain⟨T187_,he_,hr_⟩:=h_;exact⟨_,he_,T187_,rfl,hr_⟩)) ?_)))
    rintro _ aN ⟨ah,rfl,aO,⟨cH,bJ⟩⟩
    have aP:=aJ.all aO (aM.symm p1 rfl)
    have bK:=aK.all aO (bI.symm af rfl)
    have aQ:=aI.trans aO (fun i hi x=>((KS.ok (S:=T_r) aL (fun _ x=>x)) i hi x))
    have aR:=aL.trans aI bJ
    obtain⟨aS,bL⟩:=WX bJ aM aJ bI aK
    refine KN (iv (((M9 l a s).1:Nat):Int)) rr (LS rfl rfl rfl (LX (by rw[show (9223372036854775807:Int)=N4 from rfl];exact hat.1) (by omega)) rr) (Lb (iv (((M9 l a s).1:Nat):Int)) LE (KQ ?_))
    have aT:=K4 (iv (((M9 l a s).1:Nat):Int))
    refine KK (KM (KM ?_))
    have bM:Qq aN ah p l ((Ls (LD l N4) s).2) R:=cH
    refine KL (K2 Lw aT (KN (.bool (decide (16<=(((M9 l a s).1:Nat):Int)))) rr (NO rfl rfl rfl rfl rr) (KQ ?_)))
    have cI:=K4 (.bool (decide (16<=(((M9 l a s).1:Nat):Int))))
    refine KK ?_
    refine K5 cI (fun aq=>?_) (fun aq=>?_)
    ·replace aq:=of_decide_eq_true aq
     refine N0 (MB (Td (MB (MB (Td (MB ?_))))))
     refine Na ⟨_,rfl,?_⟩
     refine KM (Lf (KK (KM ?_)))
     first|have hR:=RC (l:=l) (s:=st) (Or.inl (by assumption))|have hR:=RC (l:=l) (s:=st) (Or.inr (by omega))|have hR:=ZS (by omega) hI (by omega)|have hR:=ZK (by omega) hI (by omega) (by first|exact Or.inl (by assumption)|exact Or.inr (by assumption))
     refine KL (KN (LW (fun _=>0)) rr (MQ (cells:=(Mp 16 (fun _=>0)).toArray) rfl (by kernel_rfl) rfl rr) (Lu KW rfl rfl rfl ac rfl aP fun di cJ bN=>?_))
     have cK:=bM.all bN aS
     refine Lb (iv 60) LE (KQ ?_)
     have cL:=K4 (iv 60)
     refine KK (Le (Nu ?_))
     exact Mo ao rfl (MH KW rfl ac cJ) (LF (v:=iv 60) rfl cL) ⟨ah,(by rw[← (NZ hR).1,← (NZ hR).2.1]),(aQ.trans bN (KS.ok (S:=T_r) aj KZ)),⟨(by rw[(NZ hR).2.2];exact cK),aR⟩⟩
    ·replace aq:=of_decide_eq_false aq
     refine Lf (KK (KM (KL (K2 Lw aG (LH (R:=fun v_ w_=>∃ (ai:Nat->Prop),iv ((M9 l a s).2.1)=v_/\KR ah aN w_/\(Qq w_ ai p l ((Ls (L1 l 9223372036854775807) ((Ls (LD l N4) s).2)).2) R/\KS aN ah ai)) rfl rfl (LQ rfl rfl rfl (fun _ _=>by kernel_rfl) (K6 _) (Lo rfl (Lo rfl L5)) (TM p l ((Ls (LD l N4) s).2) R 9223372036854775807 ah _  bM ) (fun e_ w_ h_=>by obtain⟨T240_,he_,hr_⟩:=h_;exact⟨_,he_,T240_,rfl,hr_⟩)) ?_)))))
     rintro _ bO ⟨ai,rfl,aU,⟨cM,bP⟩⟩
     have bQ:=aP.all aU (aS.symm p1 rfl)
     have cN:=bK.all aU (bL.symm af rfl)
     have bR:=aQ.trans aU (fun i hi x=>((KS.ok (S:=T_r) aR (fun _ x=>x)) i hi x))
     have aV:=aR.trans aQ bP
     obtain⟨aW,bS⟩:=WX bP aS aP bL bK
     refine Lb (iv ((M9 l a s).2.1)) LE (KQ ?_)
     have ar:=K4 (iv ((M9 l a s).2.1))
     refine KK (KM (KM ?_))
     have bT:Qq bO ai p l ((M9 l a s).2.2) R:=cM
     by_cases bU:((M9 l a s).2.1)=0
     ·skip
      refine KL (K2 Lw ar (KN (.bool true) rr (MA rfl rfl rfl (decide_eq_true bU) rr) (KN (.bool true) rr (KT rfl rfl rr) (Lq 2 false 32 Li (Lq 2 false 32 Li (Lq 2 false 32 Li (Lq 2 false 32 Li (KN (.bool true) rr (LB rfl rfl rfl rr) (KQ ?_)))))))))
      have cO:=K4 (.bool true)
      refine KK ?_
      refine K5 (t:=true) cO (fun _=>?_) (fun e=>by cases e)
      refine N0 (MB (Td (MB (MB (Td (MB ?_))))))
      refine Na ⟨_,rfl,?_⟩
      refine KM (Lf (KK (KM ?_)))
      first|have hR:=RC (l:=l) (s:=st) (Or.inl (by assumption))|have hR:=RC (l:=l) (s:=st) (Or.inr (by omega))|have hR:=ZS (by omega) hI (by omega)|have hR:=ZK (by omega) hI (by omega) (by first|exact Or.inl (by assumption)|exact Or.inr (by assumption))
      refine KL (KN (LW (fun _=>0)) rr (MQ (cells:=(Mp 16 (fun _=>0)).toArray) rfl (by kernel_rfl) rfl rr) (Lu KW rfl rfl rfl ac rfl bQ fun dj cP bV=>?_))
      have cQ:=bT.all bV aW
      refine Lb (iv 60) LE (KQ ?_)
      have cR:=K4 (iv 60)
      refine KK (Le (Nu ?_))
      exact Mo ao rfl (MH KW rfl ac cP) (LF (v:=iv 60) rfl cR) ⟨ai,(by rw[← (NZ hR).1,← (NZ hR).2.1]),(bR.trans bV (KS.ok (S:=T_r) aj KZ)),⟨(by rw[(NZ hR).2.2];exact cQ),aV⟩⟩
     ·skip
      refine KL (K2 Lw ar (KN (.bool false) rr (MA rfl rfl rfl (decide_eq_false bU) rr) (KN (.bool false) rr (KT rfl rfl rr) (Lj (iv ((M9 l a s).2.1)) 2 false 32 Li (KT rfl ar rr) (Lj (iv ((M9 l a s).2.1)) 2 false 32 Li (KT rfl ar rr) (LZ (R:=fun v_ w_=>v_=iv (cl 1048576 ((M9 l a s).2.1))/\KR (fun _=>False) bO w_) 2 false 32 rfl rfl rfl rfl rfl (LQ rfl rfl rfl (fun _ _=>by kernel_rfl) (K6 _) (Lo rfl L5) (X8 ((M9 l a s).2.1)  _   ) (fun e_ w_ h_=>⟨_,h_.1,rfl,h_.2⟩)) ?_))))))
      rintro _ dk ⟨rfl,bW⟩
      obtain⟨bX,bY,cS⟩:=Od bW bT bQ cN
      have aX:=bR.tr bW
      refine Lj (.bool (decide (((M9 l a s).2.1)≠(cl 1048576 ((M9 l a s).2.1))))) 2 false 32 Li (Mw rfl rfl rfl rfl rr) (KN (.bool (decide (((M9 l a s).2.1)≠(cl 1048576 ((M9 l a s).2.1))))) rr (Lt rfl rfl rfl rr) (KQ ?_))
      have cT:=K4 (.bool (decide (((M9 l a s).2.1)≠(cl 1048576 ((M9 l a s).2.1)))))
      refine KK ?_
      refine K5 cT (fun au=>?_) (fun au=>?_)
      ·replace au:=of_decide_eq_true au
       refine N0 (MB (Td (MB (MB (Td (MB ?_))))))
       refine Na ⟨_,rfl,?_⟩
       refine KM (Lf (KK (KM ?_)))
       first|have hR:=RC (l:=l) (s:=st) (Or.inl (by assumption))|have hR:=RC (l:=l) (s:=st) (Or.inr (by omega))|have hR:=ZS (by omega) hI (by omega)|have hR:=ZK (by omega) hI (by omega) (by first|exact Or.inl (by assumption)|exact Or.inr (by assumption))
       refine KL (KN (LW (fun _=>0)) rr (MQ (cells:=(Mp 16 (fun _=>0)).toArray) rfl (by kernel_rfl) rfl rr) (Lu KW rfl rfl rfl ac rfl bY fun dl cU bZ=>?_))
       have cV:=bX.all bZ aW
       refine Lb (iv 60) LE (KQ ?_)
       have cW:=K4 (iv 60)
       refine KK (Le (Nu ?_))
       exact Mo ao rfl (MH KW rfl ac cU) (LF (v:=iv 60) rfl cW) ⟨ai,(by rw[← (NZ hR).1,← (NZ hR).2.1]),(aX.trans bZ (KS.ok (S:=T_r) aj KZ)),⟨(by rw[(NZ hR).2.2];exact cV),aV⟩⟩
      ·replace au:=of_decide_eq_false au
       refine Lf (KK (KM ?_))
       have hN:¬ ((M9 l a s).2.1=0\/(M9 l a s).2.1≠cl 1048576 (M9 l a s).2.1):=by rintro (h|h);exact absurd h (by assumption);exact absurd h (by assumption)
       have ho:=aFi (M9 l a s).1 (by omega)
       refine KL (K2 Lw aT (KN (.pointer (some ⟨2,(M9 l a s).1,none⟩)) rr (L3 ((M9 l a s).1) (s:=1) rfl rfl rfl (by omega) Tryz.underlying68 (by omega) (by kernel_rfl) (by omega) rr) (KN (iv ((Xm (M9 l a s).1:Nat):Int)) rr (Pj rfl rfl Tryz.underlying3 ((hO.but aX hG).cell (by omega)) rr) (K2 Lw ar (KN (.pointer (some ⟨af,Xm (M9 l a s).1,none⟩)) rr (L3 (Xm (M9 l a s).1) (s:=1) rfl aH rfl (by omega) Tryz.underlying69 (by omega) (by kernel_rfl) (by omega) rr) (Oh rfl rfl rfl rfl rfl cS (by omega) (by kernel_rfl) fun dm cX aY=>?_))))))
       have cY:=bX.all aY bS
       have cZ:=bY.all aY (b9.symm p1 rfl)
       refine KQ ?_
       refine KK (KL (K2 Lw aT (KN (iv ((((M9 l a s).1)+1:Nat):Int)) rr (LS rfl rfl rfl (LX (by omega) (by omega)) rr) (Lb (iv ((((M9 l a s).1)+1:Nat):Int)) LE (KQ ?_)))))
       have c5:=K4 (iv ((((M9 l a s).1)+1:Nat):Int))
       refine Lz (KK (KL (KN (iv ((i+1:Nat):Int)) rr (LS rfl bG rfl (LX (by omega) (by omega)) rr) (KN (iv ((i+1:Nat):Int)) rr (KT rfl rfl rr) (KQ ?_)))))
       have c6:=K4 (iv ((i+1:Nat):Int))
       exact KK ⟨(M-(i+1)),by omega,i+1,(M9 l a s).1+1,(Vo b (Xm (M9 l a s).1) (M9 l a s).2.1),(M9 l a s).2.2,ai,by omega,by omega,(aGz (by omega) hI (by omega) hN),rfl,aG,ac,cB,aH,cC,cD,cE,bF,ao,c5,c6,(aX.trans aY (KS.ok (S:=T_r) (KS.new bd bj) KZ)),cY,cZ,cX,aV,aW,bS⟩
   ·replace ap:=of_decide_eq_false ap
    refine Mm (Lp (Lp (Mk (KK (KM (KM ?_))))))
    have hR:=aFe (by omega) hI
    refine KL (KN (LW b) rr (Me KW rfl aH aK rr) (Lu KW rfl rfl rfl ac rfl aJ fun dn c7 b7=>?_))
    have c9:=bH.all b7 aM
    refine Lb (iv 0) LE (KQ ?_)
    have da:=K4 (iv 0)
    refine KK (Le (Lx (PL ?_)))
    exact Mo ao rfl (MH KW rfl ac c7) (LF (v:=iv 0) rfl da) ⟨ab,(by rw[← (NZ hR).1,← (NZ hR).2.1]),(aI.trans b7 (KS.ok (S:=T_r) aj KZ)),⟨(by rw[(NZ hR).2.2];exact c9),aL⟩⟩
end Go.Proofs.YtknjpdcpmpfklaaGreatDoor
