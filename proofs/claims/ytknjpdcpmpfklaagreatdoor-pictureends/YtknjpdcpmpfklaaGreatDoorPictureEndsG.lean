/- What PictureEnds reaches of my texts, part 7. -/
import Derived.Test.YtknjpdcpmpfklaaGreatDoorPictureEndsF
set_option maxRecDepth 100000
set_option maxHeartbeats 4000000
set_option maxRecDepth 100000
namespace Go.Proofs.YtknjpdcpmpfklaaGreatDoor
open Go.RowKit
theorem Zy{lo:Option Nat}{P:Program}{ops:Array Oper}{Q:Exit->Act->World->Prop}{a0:Act}(D:List (Option Tmp))(J:(Nat->Bool)->(Nat->Value)->World->Prop)
  (hpl:plain a0.tmps.size 0 D ops.toList=true) (hsteps:Qm ops.toList P D J a0 0 ops.toList)
  (hend:∀ (L:Nat->Bool) (v:Nat->Value) (w:World),J L v w->(∀ i,i<ops.size->L i=true)->Q .normal (Ms v 0 D a0) w) :
  ∀ (fuel:Nat) (listed:Array Bool) (v:Nat->Value) (a:Act) (w:World),ayX ops D J a0 v listed a w->(fuel=0->Region.ready .any ops listed=[]) →
   (List.range ops.size).countP (fun i => !listed.getD i false)<=fuel->wpAnyIn (V7 lo) 0 P .any ops Q fuel listed a w:=by
 obtain⟨hDl,hpa⟩:=Si hpl
 have hlen:D.length=ops.size:=by simpa using hDl
 have hback:∀ (k:Nat) (o:Oper),ops[k]? = some o->∀ e∈o.after.toList,Region.binds .any e=true->e.on<k:=by
  intro k o hk e he hb
  have:=(hpa k o (by simpa using hk)).2.2 e he hb
  omega
 have fin:∀ (listed:Array Bool) (v:Nat->Value) (a:Act) (w:World),ayX ops D J a0 v listed a w->Region.ready .any ops listed=[]->Q .normal a w:=by
  intro listed v a w hm hr
  have hall:=Qn hback hr hm.ls
  have hp:=O0 v D 0 a0
  have ha:a=Ms v 0 D a0:=by
   have ht:a.tmps=(Ms v 0 D a0).tmps:=by
    apply Array.ext
    ·rw[hm.size,hp.1]
    ·intro t h1 h2
     have e:a.tmps.getD t undef=(Ms v 0 D a0).tmps.getD t undef:=by
      by_cases hmem:some t∈D
      ·obtain⟨j,hj⟩:=List.mem_iff_getElem?.1 hmem
       have hjs:j<ops.size:=by rw[← hlen];exact(List.getElem?_eq_some_iff.1 hj).1
       obtain⟨g1,g2,_⟩:=hpa j ops[j] (by simp[hjs])
       have hdst:ops[j].dst=some t:=by rw[hj] at g1;exact(Option.some.inj g1).symm
       obtain⟨k1,k2⟩:=g2 t hdst
       rw[hm.here j t (hall j hjs) hj,hp.2.2.2 j t hj k2 k1,Nat.zero_add]
      ·rw[hp.2.2.1 t hmem,hm.out t (fun j _ hj=>hmem (List.mem_of_getElem? hj))]
     simpa [Array.getD_eq_getD_getElem?,h1,h2] using e
   have hd:a.defers=(Ms v 0 D a0).defers:=by rw[hm.defers,hp.2.1]
   cases a
   cases hq:Ms v 0 D a0
   rw[hq] at ht hd
   simp only at ht hd
   rw[ht,hd]
  rw[ha]
  exact hend _ v w hm.good hall
 intro fuel
 induction fuel with
 | zero =>
  intro listed v a w hm h0 _
  exact⟨h0 rfl,fin listed v a w hm (h0 rfl)⟩
 | succ fuel ih =>
  intro listed v a w hm _ hcount
  refine⟨fin listed v a w hm,fun i hi=>?_⟩
  obtain⟨hlt,hnl,o,ho,haft⟩:=M2 hi
  have hlsz:i<listed.size:=by rw[hm.ls];exact hlt
  have hnl':listed.getD i false=false:=by simpa [Array.getD,hlsz] using hnl
  obtain⟨g1,g2,g3⟩:=hpa i o (by simpa using ho)
  have hstep:=hsteps.at i o (by simpa using ho)
  rw[Nat.zero_add] at hstep
  have hout:∀ t,some t∉D->a.eval (.tmp t)=a0.eval (.tmp t):=fun t ht=>hm.out t (fun j _ hj=>ht (List.mem_of_getElem? hj))
  have hlate:∀ t,azV ops.toList t i=true->a.eval (.tmp t)=a0.eval (.tmp t):=by
   intro t ht
   refine hm.out t fun j hj hD=>?_
   have hjs:j<ops.size:=by rw[← hlen];exact(List.getElem?_eq_some_iff.1 hD).1
   obtain⟨k1,_,_⟩:=hpa j ops[j] (by simp[hjs])
   have hdst:ops[j].dst=some t:=by rw[hD] at k1;exact(Option.some.inj k1).symm
   unfold azV at ht
   have h1:=List.all_eq_true.1 ht ops[j] (by simp)
   simp only[hdst,bne_self_eq_false,Bool.false_or] at h1
   obtain⟨e,he,hb⟩:=List.any_eq_true.1 h1
   simp only[Bool.and_eq_true,beq_iff_eq] at hb
   have h2:=hm.cl j ops[j] (by simp[hjs]) hj e he hb.1
   rw[hb.2,hnl'] at h2
   cases h2
  obtain⟨s1,s2⟩:=hstep (fun j=>listed.getD j false) v a w hm.good hnl' haft hout (fun j d hj hD=>hm.here j d hj hD) hlate
  -- what is left when it answers x in the world w'
  have next:∀ (x:Value) (w':World),J (Py (fun j=>listed.getD j false) i) (SE v i x) w'->wpAnyIn (V7 lo) 0 P .any ops Q fuel (listed.setIfInBounds i true) (a.put o.dst x) w':=by
   intro x w' hJ
   have hcnt:(List.range ops.size).countP (fun j => !(listed.setIfInBounds i true).getD j false)<=fuel:=by
    have h1:(List.range ops.size).countP (fun j => !(listed.setIfInBounds i true).getD j false)<(List.range ops.size).countP (fun j => !listed.getD j false):=by
     have hmemi:i∈List.range ops.size:=by simpa using hlt
     have key:∀ (l:List Nat),i∈l->(∀ j,(!(listed.setIfInBounds i true).getD j false)=true->(!listed.getD j false)=true)->l.countP (fun j => !(listed.setIfInBounds i true).getD j false)<l.countP (fun j => !listed.getD j false):=by
      intro l
      induction l with
      | nil=>intro h;cases h
      | cons y r ihl =>
       intro hy himp
       have hle:r.countP (fun j => !(listed.setIfInBounds i true).getD j false)<=r.countP (fun j => !listed.getD j false):=List.countP_mono_left fun j _ hj=>himp j hj
       by_cases hyi:y=i
       ·subst hyi
        have e1:(!(listed.setIfInBounds y true).getD y false)=false:=by rw[Lt _ _ _ hlsz,if_pos rfl];rfl
        have e2:(!listed.getD y false)=true:=by rw[hnl'];rfl
        rw[List.countP_cons,List.countP_cons]
        simp only[e1,e2,if_true,Bool.false_eq_true,if_false]
        omega
       ·have hir:i∈r:=by
         rcases List.mem_cons.1 hy with h|h
         ·exact absurd h.symm hyi
         ·exact h
        have:=ihl hir himp
        rw[List.countP_cons,List.countP_cons]
        have e3:(listed.setIfInBounds i true).getD y false=listed.getD y false:=by rw[Lt _ _ _ hlsz,if_neg hyi]
        rw[e3];omega
     refine key _ hmemi fun j hj=>?_
     rw[Lt _ _ _ hlsz] at hj
     by_cases hji:j=i
     ·rw[if_pos hji] at hj;cases hj
     ·rwa [if_neg hji] at hj
    omega
   have hmid:ayX ops D J a0 (SE v i x) (listed.setIfInBounds i true) (a.put o.dst x) w':=by
    refine⟨?_,by simpa using hm.ls,?_,?_,?_,?_,?_⟩
    ·rw[← hm.size];cases o.dst <;> simp[Act.put]
    ·rw[← hm.defers];cases o.dst <;> rfl
    ·intro t ht
     have hold:=hm.out t (fun j hj=>ht j (by rw[Lt _ _ _ hlsz];split <;> first|rfl|exact hj))
     have hne:o.dst≠some t:=by
      intro e
      exact ht i (by rw[Lt _ _ _ hlsz,if_pos rfl]) (by rw[g1,e])
     rw[← hold]
     cases hd:o.dst with
     | none=>rfl
     | some d =>
      have:d≠t:=fun e=>hne (by rw[hd,e])
      simp only[Act.put,Array.getD_eq_getD_getElem?,Array.getElem?_setIfInBounds_ne this]
    ·intro j d hj hD
     by_cases hji:j=i
     ·subst hji
      have hd:o.dst=some d:=by rw[g1] at hD;exact Option.some.inj hD
      have hsz:d<a.tmps.size:=by rw[hm.size];exact(g2 d hd).1
      simp[hd,Act.put,Array.getD_eq_getD_getElem?,hsz,SE]
     ·rw[Lt _ _ _ hlsz,if_neg hji] at hj
      have hold:=hm.here j d hj hD
      rw[show SE v i x j=v j from if_neg hji,← hold]
      cases hd:o.dst with
      | none=>rfl
      | some y =>
       have hne:y≠d:=by
        rintro rfl
        rw[hd] at g1
        rcases Nat.lt_or_gt_of_ne hji with hlt2|hgt2
        ·have hjs:j<ops.size:=by rw[← hlen];exact(List.getElem?_eq_some_iff.1 hD).1
         obtain⟨k1,k2,_⟩:=hpa j ops[j] (by simp[hjs])
         have hdst:ops[j].dst=some y:=by rw[hD] at k1;exact(Option.some.inj k1).symm
         exact(k2 y hdst).2 i hlt2 g1
        ·exact(g2 y hd).2 j hgt2 hD
       simp only[Act.put,Array.getD_eq_getD_getElem?,Array.getElem?_setIfInBounds_ne hne]
    ·have e:(fun j=>(listed.setIfInBounds i true).getD j false)=Py (fun j=>listed.getD j false) i:=by
      funext j;exact Lt _ _ _ hlsz
     rw[e];exact hJ
    ·intro k o' hk hl e he hb
     rw[Lt _ _ _ hlsz] at hl ⊢
     by_cases hee:e.on=i
     ·rw[if_pos hee]
     ·rw[if_neg hee]
      by_cases hki:k=i
      ·subst hki
       rw[ho] at hk
       cases hk
       exact haft e he hb
      ·rw[if_neg hki] at hl
       exact hm.cl k o' hk hl e he hb
   refine ih _ _ _ _ hmid ?_ hcnt
   intro hz
   subst hz
   have hz0:(List.range ops.size).countP (fun j => !(listed.setIfInBounds i true).getD j false)=0:=by omega
   rw[List.countP_eq_zero] at hz0
   cases hr:Region.ready .any ops (listed.setIfInBounds i true) with
   | nil=>rfl
   | cons y r =>
    have hy:y∈Region.ready .any ops (listed.setIfInBounds i true):=by rw[hr];simp
    obtain⟨q1,q2,_⟩:=M2 hy
    have:=hz0 y (by simpa using q1)
    have hys:y<(listed.setIfInBounds i true).size:=by simp[hm.ls];exact q1
    have q3:(listed.setIfInBounds i true).getD y false=false:=by rw[← Pk _ y hys];exact q2
    rw[q3] at this
    exact absurd rfl this
  have hwant:Region.wanted o (yielded ops a.tmps)=PH D o a:=by
   unfold Region.wanted PH
   cases hg:o.guard with
   | none=>rfl
   | some p =>
    obtain⟨j,want⟩:=p
    simp only[yielded]
    by_cases hj:j<ops.size
    ·obtain⟨k1,k2,_⟩:=hpa j ops[j] (by simp[hj])
     have hDj:D.getD j none=ops[j].dst:=by simp[List.getD,k1]
     rw[hDj]
     simp only[Array.getElem?_eq_getElem hj,Option.bind_some]
     cases hd:ops[j].dst with
     | none=>simp
     | some d =>
      have hsz:d<a.tmps.size:=by rw[hm.size];exact(k2 d hd).1
      simp only[Option.bind_some,Array.getElem?_eq_getElem hsz]
      have he:a.eval (.tmp d)=a.tmps[d]:=by simp[Act.eval,Array.getD,hsz]
      rw[he]
      cases a.tmps[d] <;> simp
    ·have hDj:D.getD j none=none:=by simp[List.getD,List.getElem?_eq_none (show D.length<=j by omega)]
     rw[hDj]
     simp[Array.getElem?_eq_none (show ops.size<=j by omega)]
  unfold wpOpIn
  rw[ho]
  simp only[hwant]
  cases hgo:PH D o a with
  | true =>
   simp only[if_true]
   refine Le.wpIn (l:=lo) ?_
   have:=s1 hgo
   revert this
   unfold Le
   generalize (execOp a.eval o).run P w=res
   intro h
   cases res with
   | ok n w' =>
    cases n <;> simp only at h ⊢ <;> first
     | exact next _ _ h
     | exact h.elim
     | exact Calls.mono h (fun e w'' ⟨y,he,hk⟩=>⟨y,he,next _ _ hk⟩)
   | halt y w'=>exact h.elim
  | false =>
   simp only[Bool.false_eq_true,if_false]
   exact⟨fun f _=>Xa _ f,next undef w (s2 hgo)⟩
theorem UN{lo:Option Nat}{P:Program}{id:Nat}{ops:Array Oper}{Q:Exit->Act->World->Prop}{a0:Act}{w0:World}(D:List (Option Tmp))(J:(Nat->Bool)->(Nat->Value)->World->Prop)
  (hm:P.follows .mixedOrders=true) (hpl:plain a0.tmps.size 0 D ops.toList=true) (h0:J (fun _=>false) (fun _=>undef) w0.drew) (hsteps:Qm ops.toList P D J a0 0 ops.toList)
  (hend:∀ (L:Nat->Bool) (v:Nat->Value) (w:World),J L v w->(∀ i,i<ops.size->L i=true)->Q .normal (Ms v 0 D a0) w):(Code.region id ops true).wpIn (V7 lo) 0 P Q a0 w0:=by
 refine wpIn_region_any hm ?_
 have hno:∀ j,(Array.replicate ops.size false).getD j false=false:=by
  intro j
  by_cases h:j<ops.size <;> simp[Array.getD,h]
 refine Zy D J hpl hsteps hend ops.size _ (fun _=>undef) a0 _ ⟨rfl,by simp,rfl,fun _ _=>rfl,fun j _ hj=>?_,?_,fun k _ _ hl=>?_⟩ ?_ ?_
 ·rw[hno] at hj;cases hj
 ·have e:(fun j=>(Array.replicate ops.size false).getD j false)=fun _=>false:=funext hno
  rw[e];exact h0
 ·rw[hno] at hl;cases hl
 ·intro h0
  cases hr:Region.ready .any ops (Array.replicate ops.size false) with
  | nil=>rfl
  | cons y r =>
   have hy:y∈Region.ready .any ops (Array.replicate ops.size false):=by rw[hr];simp
   have:=(M2 hy).1
   omega
 ·exact Nat.le_trans (List.countP_le_length) (by simp)
end Go.Proofs.YtknjpdcpmpfklaaGreatDoor
set_option maxRecDepth 100000
namespace Go.Proofs.YtknjpdcpmpfklaaGreatDoor
open Go.RowKit
structure Cas (γ:Type) where
  Pre:World->Prop
  Tp:Nat->Prop
  Post:γ->World->Prop
  Tq:γ->Nat->Prop
  Z:Nat->World->Prop
  Y:γ->Nat->World->Prop
structure aAf {γ:Type} (C:Cas γ) (S okp:Nat->Prop) (w0:World):Prop where
  pre:C.Pre w0
  preS:∀ (w w':World) (S':Nat->Prop),C.Pre w->KO S' w w'->KK C.Tp S'->C.Pre w'
  preL:∀ w,C.Pre w->Pe w C.Tp
  postS:∀ (g:γ) (w w':World) (S':Nat->Prop),C.Post g w->KO S' w w'->KK (C.Tq g) S'->C.Post g w'
  postL:∀ (g:γ) (w:World),C.Post g w->Pe w (C.Tq g)
  zS:∀ (p:Nat) (w w':World) (S':Nat->Prop),C.Z p w->KO S' w w'->¬ S' p->C.Z p w'
  zL:∀ (p:Nat) (w:World),C.Z p w->p<w.heap.size
  yS:∀ (g:γ) (p:Nat) (w w':World) (S':Nat->Prop),C.Y g p w->KO S' w w'->¬ S' p->C.Y g p w'
  inS:∀ i,C.Tp i->S i
  okS:∀ p,okp p->S p\/w0.heap.size<=p
  okT:∀ p,okp p->¬ C.Tp p
abbrev ptX(p:Nat):Value:=.pointer (some ⟨p,0,none⟩)
def VV{γ:Type}(vs:List (γ->Value))(i:Nat)(g:γ):Value:=vs.getD i (fun _=>undef) g
def Um{γ:Type}(M:List (Nat×Nat))(c:Nat):Nat->List (γ->Value)->Prop
 | _,[]=>True
 | i,f::r=>(M.contains (i,c)=true\/i=c\/∀ g g',f g=f g')/\Um M c (i+1) r
theorem Um.at{γ:Type}{M:List (Nat×Nat)}{c:Nat}:∀ {vs:List (γ->Value)} {k:Nat},Um M c k vs->∀ i,M.contains (k+i,c)=false->k+i≠c->∀ g g',VV vs i g=VV vs i g':=by
 intro vs
 induction vs with
 | nil=>intro k _ i _ _ g g';rfl
 | cons f r ih =>
  intro k h i hm hc g g'
  cases i with
  | zero =>
   rcases h.1 with e|e|e
   ·rw[Nat.add_zero] at hm;rw[hm] at e;cases e
   ·exact absurd e hc
   ·exact e g g'
  | succ i =>
   have:=ih h.2 i (by rw[show k+1+i=k+(i+1) by omega];exact hm) (by omega) g g'
   exact this
def Sn(al:Option Nat)(L:Nat->Bool):Bool:=match al with
 | some a=>L a
 | none=>true
structure JX {γ:Type} (C:Cas γ) (S okp:Nat->Prop) (vs:List (γ->Value)) (c sr:Nat) (al:Option Nat) (M:List (Nat×Nat)) (w0:World) (L:Nat->Bool) (v:Nat->Value) (w:World) (g:γ) (p:Nat):Prop where
  kept:KO S w0 w
  vals:∀ i,L i=true->al≠some i->v i=VV vs i g
  adr:∀ a,al=some a->L a=true->v a=ptX p
  blk:Sn al L=true->okp p
  zero:Sn al L=true->L sr=false->C.Z p w
  full:L sr=true->C.Y g p w
  pre:L c=false->C.Pre w
  post:L c=true->C.Post g w/\KP w0 C.Tp (C.Tq g)
  far:L c=true->Sn al L=true->¬ C.Tq g p
  clos:∀ j i,(j,i)∈M->L j=true->L i=true
def X1{γ:Type}(vs:List (γ->Value))(al:Option Nat)(g:γ)(p:Nat):Nat->Value->World->Prop:=fun j x _=>(al=some j->x=ptX p)/\(al≠some j->x=VV vs j g)
section
variable {γ:Type} {P:Program} {N:Nat} {F:Nat->Value} {w:World} {Q:Exit->(Nat->Value)->World->Prop} {S okp:Nat->Prop} {M:List (Nat×Nat)} {D:List (Option Tmp)} {C:Cas γ} {vs:List (γ->Value)} {c sr:Nat} {al:Option Nat}
def Ln(C:Cas γ)(S okp:Nat->Prop)(vs:List (γ->Value))(c sr:Nat)(al:Option Nat)(N:Nat)(P:Program)(D:List (Option Tmp))(F0:Nat->Value)(w0:World)(i:Nat)(o:Oper):Prop :=
 o.guard=none/\∀ (g:γ) (p:Nat) (F:Nat->Value) (w:World),KO S w0 w->(∀ t,Nat.blt t N=true->some t∉D->F t=F0 t)->N3 D (X1 vs al g p) F w o.after.toList →
  (i≠c->i≠sr->al≠some i->Le P (ev F) o w (fun v w'=>v=VV vs i g/\KO LX w w')) ∧
  (i=c->C.Pre w->Le P (ev F) o w (fun v w'=>∃ g',v=VV vs i g'/\KO C.Tp w w'/\C.Post g' w'/\KP w C.Tp (C.Tq g'))) ∧
  (al=some i->Le P (ev F) o w (fun v w'=>∃ q,v=ptX q/\w.heap.size<=q/\C.Z q w'/\KO LX w w')) ∧
  (i=sr->okp p->C.Z p w->C.Post g w->Le P (ev F) o w (fun v w'=>v=VV vs i g/\KO (Lf p) w w'/\C.Y g p w'))
def RG(C:Cas γ)(S okp:Nat->Prop)(vs:List (γ->Value))(c sr:Nat)(al:Option Nat)(N:Nat)(P:Program)(D:List (Option Tmp))(F0:Nat->Value)(w0:World):Nat->List Oper->Prop
 | _,[]=>True
 | i,o::r=>Ln C S okp vs c sr al N P D F0 w0 i o/\RG C S okp vs c sr al N P D F0 w0 (i+1) r
theorem Nk{F0:Nat->Value}{w0:World}{i:Nat}:RG C S okp vs c sr al N P D F0 w0 i []:=trivial
theorem KV{F0:Nat->Value}{w0:World}{i:Nat}{o:Oper}{r:List Oper}(h:Ln C S okp vs c sr al N P D F0 w0 i o)(k:RG C S okp vs c sr al N P D F0 w0 (i+1) r):RG C S okp vs c sr al N P D F0 w0 i (o::r):=⟨h,k⟩
theorem Ln.one{F0:Nat->Value}{w0:World}{i:Nat}{o:Oper}(hg:o.guard=none)(h1:(i==c)=false)(h2:(i==sr)=false)(h3:(al==some i)=false)
  (h:∀ (g:γ) (p:Nat) (F:Nat->Value) (w:World),KO S w0 w->(∀ t,Nat.blt t N=true->some t∉D->F t=F0 t)->N3 D (X1 vs al g p) F w o.after.toList->Le P (ev F) o w (fun v w'=>v=VV vs i g/\KO LX w w')):Ln C S okp vs c sr al N P D F0 w0 i o :=
 ⟨hg,fun g p F w a b d=>⟨fun _ _ _=>h g p F w a b d,fun e=>absurd e (by simpa using h1),fun e=>absurd e (by simpa using h3),fun e=>absurd e (by simpa using h2)⟩⟩
theorem Ln.call{F0:Nat->Value}{w0:World}{i:Nat}{o:Oper}(hg:o.guard=none)(h1:(i==c)=true)(h2:(i==sr)=false)(h3:(al==some i)=false)
  (h:∀ (g:γ) (p:Nat) (F:Nat->Value) (w:World),KO S w0 w->(∀ t,Nat.blt t N=true->some t∉D->F t=F0 t)->N3 D (X1 vs al g p) F w o.after.toList->C.Pre w->Le P (ev F) o w (fun v w'=>∃ g',v=VV vs i g'/\KO C.Tp w w'/\C.Post g' w'/\KP w C.Tp (C.Tq g'))):Ln C S okp vs c sr al N P D F0 w0 i o :=
 ⟨hg,fun g p F w a b d=>⟨fun e=>absurd (by simpa using h1) e,fun _ e=>h g p F w a b d e,fun e=>absurd e (by simpa using h3),fun e=>absurd e (by simpa using h2)⟩⟩
theorem Ln.alloc{F0:Nat->Value}{w0:World}{i:Nat}{o:Oper}(hg:o.guard=none)(h1:(i==c)=false)(h2:(i==sr)=false)(h3:(al==some i)=true)
  (h:∀ (F:Nat->Value) (w:World),KO S w0 w->Le P (ev F) o w (fun v w'=>∃ q,v=ptX q/\w.heap.size<=q/\C.Z q w'/\KO LX w w')):Ln C S okp vs c sr al N P D F0 w0 i o :=
 ⟨hg,fun g p F w a b d=>⟨fun _ _ e=>absurd (by simpa using h3) e,fun e=>absurd e (by simpa using h1),fun _=>h F w a,fun e=>absurd e (by simpa using h2)⟩⟩
theorem Ln.store{F0:Nat->Value}{w0:World}{i:Nat}{o:Oper}(hg:o.guard=none)(h1:(i==c)=false)(h2:(i==sr)=true)(h3:(al==some i)=false)
  (h:∀ (g:γ) (p:Nat) (F:Nat->Value) (w:World),KO S w0 w->(∀ t,Nat.blt t N=true->some t∉D->F t=F0 t)->N3 D (X1 vs al g p) F w o.after.toList->okp p->C.Z p w->C.Post g w->Le P (ev F) o w (fun v w'=>v=VV vs i g/\KO (Lf p) w w'/\C.Y g p w')):Ln C S okp vs c sr al N P D F0 w0 i o :=
 ⟨hg,fun g p F w a b d=>⟨fun _ e=>absurd (by simpa using h2) e,fun e=>absurd e (by simpa using h1),fun e=>absurd e (by simpa using h3),fun _ e=>h g p F w a b d e⟩⟩
theorem aBI{al:Option Nat}{L:Nat->Bool}{i:Nat}(h:al≠some i):Sn al (Py L i)=Sn al L:=by
 unfold Sn
 cases al with
 | none=>rfl
 | some a=>simp only[Py];rw[if_neg (fun e=>h (by rw[e]))]
theorem NE{L:Nat->Bool}{i j:Nat}(h:j≠i):Py L i j=L j:=if_neg h
theorem TI{v:Nat->Value}{x:Value}{i j:Nat}(h:j≠i):SE v i x j=v j:=if_neg h
theorem ZT{L:Nat->Bool}{i:Nat}:Py L i i=true:=if_pos rfl
theorem U0{v:Nat->Value}{x:Value}{i:Nat}:SE v i x i=x:=if_pos rfl
theorem Ln.step{os:List Oper}{w0:World}{i:Nat}{o:Oper}{a0:Act}(hmo:Rk os M=true)(hcs:M.contains (sr,c)=true)(hca:∀ a,al=some a->M.contains (sr,a)=true)(hna:al≠some c)(hns:al≠some sr)(hsc:c≠sr)(hC:Um M c 0 vs)(hok:aAf C S okp w0)(hnew:∀ a,al=some a->∀ p,w0.heap.size<=p->okp p)(hio:os[i]? = some o)(ha:Fr N F a0)(h:Ln C S okp vs c sr al N P D F w0 i o) :
  Wu os P D (fun L v w=>∃ g p,JX C S okp vs c sr al M w0 L v w g p) a0 i o:=by
 rintro L v a w ⟨g,p,hJ⟩ hi hdone hout hhere _
 have hDe:∀ c d,D.getD c none=some d->D[c]? = some (some d):=fun c d hd=>by
  unfold List.getD at hd
  cases hq:D[c]? with
  | none=>rw[hq] at hd;cases hd
  | some y=>rw[hq] at hd;simp at hd;rw[hd]
 have hdeps:N3 D (X1 vs al g p) (fun t=>a.tmps.getD t undef) w o.after.toList:=by
  refine Q3.toF (Q3.mk fun e he hb d hd=>?_)
  have hl:=hdone e he hb
  rw[hhere e.on d hl (hDe e.on d hd)]
  exact⟨fun e'=>hJ.adr _ e' hl,fun e'=>hJ.vals _ hl e'⟩
 have hM:∀ k,(i,k)∈M->L k=true:=fun k hk=>by
  have:=List.all_eq_true.1 hmo _ hk
  simp only[hio] at this
  obtain⟨e,he,hb⟩:=List.any_eq_true.1 this
  simp only[Bool.and_eq_true,Bool.or_eq_true,beq_iff_eq] at hb
  have hl:=hdone e he hb.1
  rcases hb.2 with h1|h1
  ·rw[← h1];exact hl
  ·exact hJ.clos _ _ (by simpa using h1) hl
 have hcl:∀ j k,(j,k)∈M->Py L i j=true->Py L i k=true:=fun j k hm hj=>by
  have hk:L k=true:=by
   by_cases e:j=i
   ·subst e;exact hM k hm
   ·rw[NE e] at hj;exact hJ.clos j k hm hj
  unfold Py;split <;> first|rfl|exact hk
 have hcs':(sr,c)∈M:=by simpa using hcs
 have hca':∀ a,al=some a->(sr,a)∈M:=fun a e=>by simpa using hca a e
 have srHas:L sr=true->Sn al L=true:=fun e=>by
  unfold Sn
  cases al with
  | none=>rfl
  | some a=>exact hJ.clos _ _ (hca' a rfl) e
 have plt:Sn al L=true->∀ T:Nat->Prop,okp p->(L c=true->¬ C.Tq g p)->True:=fun _ _ _ _=>trivial
 obtain⟨hg,hS⟩:=h
 obtain⟨q1,q2,q3,q4⟩:=hS g p (fun t=>a.tmps.getD t undef) w hJ.kept (fun t hb ht=>by rw[← ha.at' t hb];exact hout t ht) hdeps
 rw[← Rq a] at q1 q2 q3 q4
 unfold PH
 rw[hg]
 refine⟨fun _=>?_,fun e=>by cases e⟩
 by_cases ea:al=some i
 ·-- the block is made
  refine(q3 ea).mono' fun x w' ⟨q,hx,hq,hz,hk⟩=>⟨g,q,?_⟩
  have nS:L sr=false:=by
   cases e:L sr with
   | false=>rfl
   | true=>have:=hJ.clos _ _ (hca' i ea) e;rw[hi] at this;cases this
  have isr:sr≠i:=fun e=>hns (by rw[e];exact ea)
  have ic:c≠i:=fun e=>hna (by rw[e];exact ea)
  refine⟨hJ.kept.trans hk (fun _ _ z=>z.elim),fun j hj hn=>?_,fun a' e' hl=>?_,fun _=>hnew i ea q (Nat.le_trans hJ.kept.size hq),fun _ _=>hz,fun e=>?_,fun e=>?_,fun e=>?_,fun e _=>?_,hcl⟩
  ·have hji:j≠i:=fun e=>hn (by rw[e];exact ea)
   rw[NE hji] at hj;rw[TI hji];exact hJ.vals j hj hn
  ·rw[ea] at e';cases e';rw[U0];exact hx
  ·rw[NE isr,nS] at e;cases e
  ·rw[NE ic] at e;exact hok.preS w w' LX (hJ.pre e) hk KK.none
  ·rw[NE ic] at e;exact⟨hok.postS g w w' LX (hJ.post e).1 hk KK.none,(hJ.post e).2⟩
  ·rw[NE ic] at e
   intro ht
   have:=hok.postL g w (hJ.post e).1 q ht
   omega
 ·have hH:Sn al (Py L i)=Sn al L:=aBI ea
  have adr':∀ x a',al=some a'->Py L i a'=true->SE v i x a'=ptX p:=fun x a' e' hl=>by
   have:a'≠i:=fun e=>ea (by rw[e',e])
   rw[NE this] at hl;rw[TI this];exact hJ.adr a' e' hl
  by_cases ec:i=c
  ·-- the call
   subst ec
   have nS:L sr=false:=by
    cases e:L sr with
    | false=>rfl
    | true=>have:=hJ.clos _ _ hcs' e;rw[hi] at this;cases this
   have isr:sr≠i:=fun e=>hsc e.symm
   have hpre:=hJ.pre hi
   refine(q2 rfl hpre).mono' fun x w' ⟨g',hx,hk,hpo,hgr⟩=>⟨g',p,?_⟩
   refine⟨hJ.kept.trans hk (fun b _ z=>hok.inS b z),fun j hj hn=>?_,adr' x,fun e=>?_,fun e _=>?_,fun e=>?_,fun e=>?_,fun _=>⟨hpo,fun b hb=>?_⟩,fun _ e=>?_,hcl⟩
   ·by_cases hji:j=i
    ·subst hji;rw[U0];exact hx
    ·rw[NE hji] at hj;rw[TI hji,hJ.vals j hj hn]
     refine hC.at j ?_ (by omega) g g'
     rw[Nat.zero_add]
     cases e:M.contains (j,i) with
     | false=>rfl
     | true=>have:=hJ.clos j i (by simpa using e) hj;rw[hi] at this;cases this
   ·rw[hH] at e;exact hJ.blk e
   ·rw[hH] at e;exact hok.zS p w w' _ (hJ.zero e nS) hk (hok.okT p (hJ.blk e))
   ·rw[NE isr,nS] at e;cases e
   ·rw[ZT] at e;cases e
   ·rcases hgr b hb with z|z
    ·exact .inl z
    ·exact .inr (Nat.le_trans hJ.kept.size z)
   ·rw[hH] at e
    intro ht
    have hlt:=hok.zL p w (hJ.zero e nS)
    rcases hgr p ht with z|z
    ·exact hok.okT p (hJ.blk e) z
    ·omega
  ·by_cases es:i=sr
   ·-- the store
    subst es
    have hLc:L c=true:=hM c hcs'
    have hHa:Sn al L=true:=by
     unfold Sn
     cases al with
     | none=>rfl
     | some a=>exact hM a (hca' a rfl)
    have hokp:=hJ.blk hHa
    have hnT:=hJ.far hLc hHa
    refine(q4 rfl hokp (hJ.zero hHa hi) (hJ.post hLc).1).mono' fun x w' ⟨hx,hk,hy⟩=>⟨g,p,?_⟩
    have ic:c≠i:=fun e=>ec e.symm
    refine⟨hJ.kept.trans hk (fun b hb z=>?_),fun j hj hn=>?_,adr' x,fun _=>hokp,fun _ e=>?_,fun _=>hy,fun e=>?_,fun _=>⟨hok.postS g w w' _ (hJ.post hLc).1 hk (fun b hb z=>hnT (by cases z;exact hb)),(hJ.post hLc).2⟩,fun _ _=>hnT,hcl⟩
    ·cases z
     rcases hok.okS _ hokp with z|z
     ·exact z
     ·omega
    ·by_cases hji:j=i
     ·subst hji;rw[U0];exact hx
     ·rw[NE hji] at hj;rw[TI hji];exact hJ.vals j hj hn
    ·rw[ZT] at e;cases e
    ·rw[NE ic,hLc] at e;cases e
   ·-- all others
    refine(q1 ec es ea).mono' fun x w' ⟨hx,hk⟩=>⟨g,p,?_⟩
    have ic:c≠i:=fun e=>ec e.symm
    have isr:sr≠i:=fun e=>es e.symm
    refine⟨hJ.kept.trans hk (fun _ _ z=>z.elim),fun j hj hn=>?_,adr' x,fun e=>?_,fun e1 e2=>?_,fun e=>?_,fun e=>?_,fun e=>?_,fun e1 e2=>?_,hcl⟩
    ·by_cases hji:j=i
     ·subst hji;rw[U0];exact hx
     ·rw[NE hji] at hj;rw[TI hji];exact hJ.vals j hj hn
    ·rw[hH] at e;exact hJ.blk e
    ·rw[hH] at e1;rw[NE isr] at e2;exact hok.zS p w w' _ (hJ.zero e1 e2) hk (fun z=>z)
    ·rw[NE isr] at e;exact hok.yS g p w w' _ (hJ.full e) hk (fun z=>z)
    ·rw[NE ic] at e;exact hok.preS w w' _ (hJ.pre e) hk KK.none
    ·rw[NE ic] at e;exact⟨hok.postS g w w' _ (hJ.post e).1 hk KK.none,(hJ.post e).2⟩
    ·rw[NE ic] at e1;rw[hH] at e2;exact hJ.far e1 e2
theorem RG.steps{all:List Oper}{w0:World}{a0:Act}(hmo:Rk all M=true)(hcs:M.contains (sr,c)=true)(hca:∀ a,al=some a->M.contains (sr,a)=true)(hna:al≠some c)(hns:al≠some sr)(hsc:c≠sr)(hC:Um M c 0 vs)(hok:aAf C S okp w0)(hnew:∀ a,al=some a->∀ p,w0.heap.size<=p->okp p)(ha:Fr N F a0):∀ {os:List Oper} {i:Nat},(∀ k o,os[k]? = some o->all[i+k]? = some o)->RG C S okp vs c sr al N P D F w0 i os->Qm all P D (fun L v w=>∃ g p,JX C S okp vs c sr al M w0 L v w g p) a0 i os:=by
 intro os
 induction os with
 | nil=>intro i _ _;exact trivial
 | cons o r ih =>
  intro i hat h
  exact⟨h.1.step hmo hcs hca hna hns hsc hC hok hnew (hat 0 o rfl) ha,ih (fun k o' hk=>by have:=hat (k+1) o' hk;rwa [show i+(k+1)=i+1+k by omega] at this) h.2⟩
def aAg(M:List (Nat×Nat))(n c sr:Nat)(al:Option Nat):Bool:=M.contains (sr,c) && Nat.blt c n && Nat.blt sr n && !(c==sr) && match al with
 | some a=>M.contains (sr,a) && Nat.blt a n && !(a==c) && !(a==sr)
 | none=>true
theorem QQ{lo:Option Nat}{id:Nat}{ops:Array Oper}(M:List (Nat×Nat))(D:List (Option Tmp))(C:Cas γ)(S okp:Nat->Prop)(vs:List (γ->Value))(c sr:Nat)(al:Option Nat)(g0:γ)(p0:Nat)(hm:P.follows .mixedOrders=true)(hpl:plain N 0 D ops.toList=true)(hmo:Rk ops.toList M=true)(hb:aAg M ops.size c sr al=true)(hC:Um M c 0 vs)(hok:aAf C S okp w)(hnew:∀ a,al=some a->∀ p,w.heap.size<=p->okp p)(h0:al=none->okp p0/\C.Z p0 w)(hsteps:RG C S okp vs c sr al N P D F w 0 ops.toList)
  (hend:∀ (g:γ) (p:Nat) (v:Nat->Value) (F':Nat->Value) (w':World),KO S w w'->okp p->C.Post g w'->KP w C.Tp (C.Tq g)->C.Y g p w'->¬ C.Tq g p->(∀ a,al=some a->v a=ptX p)->(∀ i,i<ops.size->al≠some i->v i=VV vs i g)->(∀ t,F' t=Ql v 0 D F t)->Q .normal F' w'):wq lo P N (.region id ops true) Q F w:=by
 unfold aAg at hb
 simp only[Bool.and_eq_true,Bool.not_eq_true',Nat.blt_eq,beq_eq_false_iff_ne,ne_eq] at hb
 obtain⟨⟨⟨⟨b1,b2⟩,b3⟩,b4⟩,b5⟩:=hb
 have b6:∀ a,al=some a->M.contains (sr,a)=true/\a<ops.size/\a≠c/\a≠sr:=by
  intro a e
  subst e
  simp only[Bool.and_eq_true,Bool.not_eq_true',Nat.blt_eq,beq_eq_false_iff_ne,ne_eq] at b5
  exact⟨b5.1.1.1,b5.1.1.2,b5.1.2,b5.2⟩
 intro a ha
 refine UN D (fun L v w'=>∃ g p,JX C S okp vs c sr al M w L v w' g p) hm (by rw[ha.size];exact hpl)
  ⟨g0,p0,(KO.refl _ w).drew,fun _ e=>(by cases e),fun _ _ e=>(by cases e),fun e=>?_,fun e _=>?_,fun e=>(by cases e),fun _=>hok.preS w _ (fun _=>False) hok.pre (KO.refl _ w).drew (fun _ _ z=>z),fun e=>(by cases e),fun e=>(by cases e),fun _ _ _ e=>(by cases e)⟩
  (hsteps.steps hmo b1 (fun a e=>(b6 a e).1) (fun e=>(b6 _ e).2.2.1 rfl) (fun e=>(b6 _ e).2.2.2 rfl) b4 hC hok hnew ha (fun k o hk=>by rw[Nat.zero_add];exact hk)) fun L v w' ⟨g,p,hJ⟩ hL=>?_
 ·cases al with
  | some a=>unfold Sn at e;cases e
  | none=>exact(h0 rfl).1
 ·cases al with
  | some a=>unfold Sn at e;cases e
  | none=>exact hok.zS p0 w _ (fun _=>False) (h0 rfl).2 (KO.refl _ w).drew (fun z=>z)
 have hH:Sn al L=true:=by
  unfold Sn
  cases al with
  | none=>rfl
  | some a=>exact hL a (b6 a rfl).2.1
 exact⟨Ql v 0 D F,OM v D 0 F a ha (Oj hpl),hend g p v _ w' hJ.kept (hJ.blk hH) (hJ.post (hL c b2)).1 (hJ.post (hL c b2)).2 (hJ.full (hL sr b3)) (hJ.far (hL c b2) hH) (fun a e=>hJ.adr a e (hL a (b6 a e).2.1)) (fun i hi hn=>hJ.vals i (hL i hi) hn) (fun _=>rfl)⟩
end
theorem Zo{P:Program}{ρ:Operand->Value}{o:Oper}{w:World}{R:Value->World->Prop}{ty t:TypeId}{x y:Operand}{p:Nat}{b c:Nat->Int}(hT:(P.info? ty).map (·.size)=some 16)(ho:o.op = .store ty x y)(hx:ρ x = .pointer (some ⟨p,0,none⟩))(hy:ρ y=LJ c)(hB:NL w p t b)
  (h:∀ w',NL w' p t c->KO (fun k=>k=p) w w'->R undef w'):Le P ρ o w R :=
 PB ty x y ho p _ (L8 16 c).toArray t hx hy hB (by simp[L8]) (by rw[hT];simp[L8]) (by simp[L8,Value.oneCell']) fun w' hw hk=>h w' hw hk
end Go.Proofs.YtknjpdcpmpfklaaGreatDoor
set_option maxRecDepth 100000
namespace Go.Proofs.YtknjpdcpmpfklaaGreatDoor
open Go.RowKit
def Pf(w:World)(T:Nat->Prop)(v:Value)(c:Nat)(f:VF):Prop:=∃ p,v = .pointer (some ⟨p,0,none⟩)/\(∀ i,T i↔(Lf p i\/Lf c i))/\Mz w p 136 [.int .i64 f.w,.int .i64 f.h,.map (some c)]/\Wk w c (Qt f)/\KK (Lf p) (Lf c)/\OkV f
theorem Pf.vpo{w:World}{T:Nat->Prop}{v:Value}{c:Nat}{f:VF}(h:Pf w T v c f):PG w T v (some f):=by
 obtain⟨p,e,hT,h1,h2,h3,h4⟩:=h;exact⟨p,e,c,hT,h1,h2,h3,h4⟩
theorem TN{w:World}{T:Nat->Prop}{v:Value}{f:VF}(h:PG w T v (some f)):∃ c,Pf w T v c f:=by
 obtain⟨p,e,c,hT,h1,h2,h3,h4⟩:=h;exact⟨c,p,e,hT,h1,h2,h3,h4⟩
theorem Pf.live{w:World}{T:Nat->Prop}{v:Value}{c:Nat}{f:VF}(h:Pf w T v c f):Pe w T:=h.vpo.live
theorem Pf.all{S:Nat->Prop}{w w':World}{T:Nat->Prop}{v:Value}{c:Nat}{f:VF}(h:Pf w T v c f)(k:KO S w w')(ha:KK T S):Pf w' T v c f:=by
 obtain⟨p,e,hT,h1,h2,h3,h4⟩:=h
 exact⟨p,e,hT,h1.all k (ha p ((hT p).2 (Or.inl rfl))),h2.all k (ha c ((hT c).2 (Or.inr rfl))),h3,h4⟩
instance {w w':World} {T:Nat->Prop} {v:Value} {c:Nat} {f:VF}:Cr w w' (Pf w T v c f) (Pf w' T v c f):=⟨fun h k=>h.all k KK.none⟩
instance {w:World} {T:Nat->Prop} {v:Value} {c:Nat} {f:VF}:Lv w (Pf w T v c f) (T):=⟨fun h=>h.live⟩
theorem Pf.lt{w:World}{T:Nat->Prop}{v:Value}{c:Nat}{f:VF}(h:Pf w T v c f):c<w.heap.size:=by obtain⟨p,_,_,_,h2,_⟩:=h;exact h2.lt
theorem Pf.row{A B:World}{row:Option Nat}{n:Nat}{T:Nat->Prop}{v:Value}{c:Nat}{f:VF}(h:Pf A T v c f)(hg:A.grownBy B row)(hr:QT n A row)(hc:c<n):Pf B T v c f:=by
 obtain⟨p,e,hT,h1,h2,h3,h4⟩:=h
 exact⟨p,e,hT,h1.row hg hr,h2.all (Pw hg) (fun e=>by have:=(hr c e.symm).1;omega),h3,h4⟩
def LQ(B:Nat)(A:World)(T:Nat->Prop):Prop:=∀ i,T i->i<B\/∃ o:Obj,A.heap[i]? = some o/\o.isCells=true
theorem OP.cb{B:Nat}{A:World}{T:Nat->Prop}(h:OP A T):LQ B A T:=fun i hi=>.inr (h i hi)
theorem Pf.cb{B:Nat}{w:World}{T:Nat->Prop}{v:Value}{c:Nat}{f:VF}(h:Pf w T v c f)(hc:c<B):LQ B w T:=by
 obtain⟨p,e,hT,h1,h2,h3,h4⟩:=h
 exact fun i hi=>((hT i).1 hi).elim (fun e=>.inr (h1.cells i e)) (fun e=>.inl (by cases e;exact hc))
theorem LQ.or{B:Nat}{A:World}{T U:Nat->Prop}(h:LQ B A T)(k:LQ B A U):LQ B A (fun i=>T i\/U i):=fun i hi=>hi.elim (h i) (k i)
theorem LQ.keeps{B:Nat}{W W':World}{S:Nat->Prop}(hc:LQ B W S)(k:KO S W W'):KeepsFrom B W W':=⟨k.size,fun i o hB hi ho=>by
 have hlt:=(Array.getElem?_eq_some_iff.1 hi).1
 refine(k.block i hlt fun hs=>?_).trans hi
 rcases hc i hs with z | ⟨o',h1,h2⟩
 ·omega
 ·rw[hi] at h1;cases h1;rw[ho] at h2;cases h2⟩
theorem Pr.cells{w:World}{T:Nat->Prop}{p:Nat}{l:List Nat}{st:Option Nat}(h:Pr w T p l st):OP w T:=fun i hi=>by
 obtain⟨c,e,f,h1,_⟩:=h.at i hi;exact⟨_,h1,rfl⟩
theorem Pr.row{A B:World}{row:Option Nat}{n p:Nat}{T:Nat->Prop}{l:List Nat}{st:Option Nat}(h:Pr A T p l st)(hg:A.grownBy B row)(hr:QT n A row):Pr B T p l st:=h.all (Pw hg) (h.cells.apart hr)
theorem aBZ{w:World}{q:Nat}{t:TypeId}{vs:List Value}{T:Nat->Prop}{p:Nat}{l:List Nat}{st:Option Nat}(h:Mz w q t vs)(hr:Pr w T p l st)(ht:¬ Pr.ty t):KK (Lf q) T:=fun i e hi=>by
 cases e
 obtain⟨c,e,f,h1,h2⟩:=hr.at _ hi
 have:=h.types _ rfl c e f h1
 rw[this] at h2;exact ht h2
theorem Ss{w:World}{q:Nat}{t:TypeId}{vs:List Value}{T:Nat->Prop}{v:Value}{c:Nat}{f:VF}(h:Mz w q t vs)(hr:Pf w T v c f)(ht:t≠136):KK (Lf q) T:=fun i e hi=>by
 cases e
 obtain⟨p,e,hT,h1,⟨es,ck,L,h2,_⟩,h3,h4⟩:=hr
 have hq:w.heap[q]? = some (.cells vs.toArray t (0,0)):=h
 rcases (hT _).1 hi with z|z
 ·have hq2:w.heap[p]? = some (.cells vs.toArray t (0,0)):=by rw[← show q=p from z];exact hq
  rw[show w.heap[p]? = _ from h1] at hq2;cases hq2;exact ht rfl
 ·have hq2:w.heap[c]? = some (.cells vs.toArray t (0,0)):=by rw[← show q=c from z];exact hq
  rw[h2] at hq2;cases hq2
theorem Wv(v:Value)(c:Nat)(f:VF)(x y:Int)(T_q:Nat->Prop)(w0:World)(hx:ZS x)(hy:ZS y)(h_q:Pf w0 T_q v c f) :
  Calls Tryz.prog 61 #[v,.int .i64 x,.int .i64 y] w0 fun e w'=>e = .returned (.agg #[.int .i64 (gX f x y),.int .i64 (gY f x y)])/\KO (fun _=>False) w0 w':=ayZ v f x y T_q w0 hx hy h_q.vpo
theorem Z4(v:Value)(c:Nat)(f:VF)(x y X Y:Int)(T_q:Nat->Prop)(w0:World)(h_q:Pf w0 T_q v (c) (f)) :
  Calls Tryz.prog 63 #[v,.int .i64 (x),.int .i64 (y),.agg #[.int .i64 (X),.int .i64 (Y)]] w0 fun e w'=>∃ (T_q':Nat->Prop),e = .returned (.int .i64 (YE f x y X Y))/\KO (T_q) w0 w'/\(Pf w' T_q' v (c) (Ud f x y X Y)/\KP w0 T_q T_q'):=by
 refine Lr (args:=[v,iv x,iv y,.agg #[iv X,iv Y]]) 53 Tryz.func63 rfl rfl (Nat.le_of_ble_eq_true rfl) ?_
 have g_q:=KP.refl w0 T_q
 obtain⟨p,rfl,hT,hp,hr,hap,ok⟩:=h_q
 have af:KP w0 T_q (Lf p):=fun i h=>g_q i ((fun i h=>(hT i).2 (Or.inl h)) i h)
 have ac:KP w0 T_q (Lf c):=fun i h=>g_q i ((fun i h=>(hT i).2 (Or.inr h)) i h)
 have aa:KK (Lf p) (Lf c):=hap
 refine KJ (KH (Lz (vs:=[iv X,iv Y]) rfl rfl rfl rfl fun p4 w5 B7 g8 k6=>?_))
 obtain⟨ae,av⟩:=NA k6 hp hr
 have aw:=(KO.refl T_q w0).tr k6
 refine KI (iv 0) rfl rfl (KS rfl rfl rr) (KM ?_)
 have ab:=K4 (pt p 0)
 have an:=K4 (iv x)
 have az:=K4 (iv y)
 have ah:=K4 (undef)
 have aA:=K4 (pt p4 0)
 refine KG (KJ (KJ ?_))
 by_cases aB:0<=x/\x<(f.w)
 ·skip
  by_cases aP:0<=y/\y<(f.h)
  ·skip
   refine KH (KR rfl rfl rfl ab (KI (.bool false) rfl rfl (Ry rfl rfl rfl Tryz.underlying56 rr) (KI (.bool false) rfl rfl (KQ rfl rfl rr) (KT (iv x) 2 false 13 rfl rfl rfl rfl rfl (KQ rfl an rr) (KT (pt p 0) 2 false 13 rfl rfl rfl rfl rfl (KQ rfl ab rr) (KT (pt p 0) 2 false 13 rfl rfl rfl rfl rfl (Ol rfl rfl rr) (KT (pt p 0) 2 false 13 rfl rfl rfl rfl rfl (KU (n:=1) rfl rfl Tryz.underlying136 rfl (by kernel_rfl) (by decide) rfl rr) (KT (iv (f.w)) 2 false 13 rfl rfl rfl rfl rfl (KY rfl rfl Tryz.underlying3 ae rfl rfl rr) (LN (R:=fun v_ w_=>v_ = .bool true/\KO (fun _=>False) w5 w_) 2 false 13 rfl rfl rfl rfl rfl (LH rfl rfl rfl (fun _ _=>by kernel_rfl) (K5 _) (Lk rfl (Lk rfl LR)) (Q5 x (f.w)  _   ) (fun e_ w_ h_=>⟨_,h_.1,(congrArg Value.bool (decide_eq_true aB)),h_.2⟩)) ?_)))))))))
   rintro _ bn ⟨rfl,aQ⟩
   obtain⟨aR,bo,bp⟩:=Nu aQ ae av B7
   refine KT (.bool false) 2 false 13 rfl rfl rfl rfl rfl (L9 rfl rfl rfl rr) (KI (.bool false) rfl rfl (Li rfl rfl rfl rr) (KI (.bool false) rfl rfl (KQ rfl rfl rr) (KT (iv y) 11 false 22 rfl rfl rfl rfl rfl (KQ rfl az rr) (KT (pt p 0) 11 false 22 rfl rfl rfl rfl rfl (KQ rfl ab rr) (KT (pt p 0) 11 false 22 rfl rfl rfl rfl rfl (Ol rfl rfl rr) (KT (pt p 1) 11 false 22 rfl rfl rfl rfl rfl (KU (n:=1) rfl rfl Tryz.underlying136 rfl (by kernel_rfl) (by decide) rfl rr) (KT (iv (f.h)) 11 false 22 rfl rfl rfl rfl rfl (KY rfl rfl Tryz.underlying3 aR rfl rfl rr) (LN (R:=fun v_ w_=>v_ = .bool true/\KO (fun _=>False) bn w_) 11 false 22 rfl rfl rfl rfl rfl (LH rfl rfl rfl (fun _ _=>by kernel_rfl) (K5 _) (Lk rfl (Lk rfl LR)) (Q5 y (f.h)  _   ) (fun e_ w_ h_=>⟨_,h_.1,(congrArg Value.bool (decide_eq_true aP)),h_.2⟩)) ?_))))))))
   rintro _ cF ⟨rfl,aS⟩
   obtain⟨bq,bt,aT⟩:=Nu aS aR bo bp
   refine KT (.bool false) 11 false 22 rfl rfl rfl rfl rfl (L9 rfl rfl rfl rr) (KI (.bool false) rfl rfl (Li rfl rfl rfl rr) (KM ?_))
   have bu:=K4 (.bool false)
   refine KG ?_
   refine K6 (t:=false) bu (fun e=>by cases e) (fun _=>?_)
   refine Lg (KG (KJ (KJ ?_)))
   have hin:Wm f x y:=⟨by omega,by omega,by omega,by omega⟩
   refine KH (KI (.agg #[iv X,iv Y]) rfl rfl (KZ LO rfl aA aT rr) (LW rfl rfl rfl rfl rfl (fun _ _=>by kernel_rfl) (Lk rfl LR) (VT X Y  _   ) fun bv aU=>?_))
   obtain⟨ai,aj,aV⟩:=Nu aU bq bt aT
   have aC:=((aw.tr aQ).tr aS).tr aU
   refine KI (iv (PK X Y)) rfl rfl (KS rfl rfl rr) (KM ?_)
   have aW:=K4 (iv (PK X Y))
   refine KG (KJ (KH (KR rfl rfl rfl aW (KI (.bool (decide ((PK X Y)≠0))) rfl rfl (Mb rfl rfl rfl rfl rr) (KM ?_)))))
   have bz:=K4 (.bool (decide ((PK X Y)≠0)))
   refine KG ?_
   refine K6 bz (fun ak=>?_) (fun ak=>?_)
   ·replace ak:=of_decide_eq_true ak
    refine KJ ?_
    have hvn:¬ M9 X Y:=fun h=>absurd ((RY X Y).2 h) (by assumption)
    refine KH (KR rfl rfl rfl aW (KI (iv (PK X Y)) rfl rfl (KS rfl rfl rr) (KM ?_)))
    have bA:=K4 (iv (PK X Y))
    refine KG (Lb (Lq ?_))
    have bB:Pf bv (fun i=>(Lf p) i\/((Lf c) i)) (pt p 0) c (Ud f x y X Y):=(by first|(rw[(Po hin hv).2];exact⟨_,rfl,fun i=>Iff.rfl,ai,aj.congr (fun a b=>by first|exact Pq f x y X Y a b|(rw[h0.1,h0.2];exact Pq f x y 0 0 a b)),aa,Td ok hin hv⟩)|(rw[(OE hin hvn).2];exact⟨_,rfl,fun i=>Iff.rfl,ai,aj,aa,ok⟩)|(rw[(QR hno).2];exact⟨_,rfl,fun i=>Iff.rfl,ai,aj,aa,ok⟩))
    have bC:KP w0 T_q (fun i=>(Lf p) i\/((Lf c) i)):=fun i h=>h.elim (fun y=>af i y) (fun y=>ac i y)
    exact Lu (v:=iv (PK X Y)) ah rfl rfl bA ⟨(fun i=>(Lf p) i\/((Lf c) i)),(by first|rw[(Po hin hv).1]|rw[(OE hin hvn).1,ND hvn]|rw[(QR hno).1]),aC,⟨bB,bC⟩⟩
   ·replace ak:=of_decide_eq_false ak
    refine Lg (KG (KJ ?_))
    have hv:M9 X Y:=(RY X Y).1 (by first|assumption|(apply Decidable.byContradiction;assumption))
    refine KH (KR rfl rfl rfl an (KR rfl rfl rfl az (KI (.agg #[iv x,iv y]) rfl rfl (LZ (l':=[(0,iv x),(1,iv y)]) (cells:=#[iv x,iv y]) rfl (S7 rfl (S7 rfl Rv)) (by kernel_rfl) rfl rr) (LF (n:=2) (vs:=[iv 0,iv 0]) rfl rfl rfl (by kernel_rfl) fun bD cG bE aX aY=>?_))))
    obtain⟨bF,bG,bH⟩:=TD aX ai aj aV
    obtain⟨bI,bJ,bK⟩:=Nu aY ai aj aV
    refine Lj (us:=[iv x,iv y]) NZ rfl rfl rfl rfl rfl bE rfl (KX rfl (KX rfl MG)) fun cH aZ ao=>?_
    have ap:=bI.all ao (bF.symm p rfl)
    have a8:=bJ.all ao (bG.symm c rfl)
    have a9:=bK.all ao (bH.symm p4 rfl)
    have ba:=(aC.tr aY).trans ao (KP.ok (S:=T_q) (KP.new aC aX) K3)
    refine KM ?_
    have bb:=K4 (pt bD 0)
    refine KG (KJ (KJ (KH (KI (.agg #[iv X,iv Y]) rfl rfl (KZ LO rfl aA a9 rr) (KI (.agg #[iv 0,iv 0]) rfl rfl (LZ (l':=[]) (cells:=#[iv 0,iv 0]) rfl Rv (by kernel_rfl) rfl rr) (KI (.bool (NP X Y 0 0)) rfl rfl (aBb rfl rfl rfl rfl rr) (KM ?_)))))))
    have bL:=K4 (.bool (NP X Y 0 0))
    refine KG ?_
    refine K6 bL (fun bM=>?_) (fun bM=>?_)
    ·skip
     have h0:=ayR (by assumption)
     refine Na 5 [some 42,some 43,some 44,some 45,some 46] [Pd.eq (pt p 0),Pd.eq (pt p 0),Pd.eq (pt p 2),Pd.eq (.map (some c)),Pd.eq (.agg #[iv x,iv y])] (by kernel_rfl) (by kernel_rfl) (by kernel_rfl) ?_ ?_
     ·refine KL ?_ ?_
      ·refine La.one rfl fun F_ w_ hR hout hD=>?_
       exact(KQ rfl ((hout 0 rfl (by decide)).trans ab) ⟨rfl,KO.refl _ _⟩)
      refine KL ?_ ?_
      ·refine La.one rfl fun F_ w_ hR hout hD=>?_
       have bN:F_ 42=pt p 0:=(hD.get 0 rfl rfl rfl)
       exact(Ol rfl bN ⟨rfl,KO.refl _ _⟩)
      refine KL ?_ ?_
      ·refine La.one rfl fun F_ w_ hR hout hD=>?_
       have bO:F_ 43=pt p 0:=(hD.get 0 rfl rfl rfl)
       exact(KU (n:=1) rfl bO Tryz.underlying136 rfl (by kernel_rfl) (by decide) rfl ⟨rfl,KO.refl _ _⟩)
      refine KL ?_ ?_
      ·refine La.one rfl fun F_ w_ hR hout hD=>?_
       have bP:F_ 44=pt p 2:=(hD.get 0 rfl rfl rfl)
       exact(KY rfl bP Tryz.underlying134 (ap.all hR id) rfl rfl ⟨rfl,KO.refl _ _⟩)
      refine KL ?_ ?_
      ·refine La.one rfl fun F_ w_ hR hout hD=>?_
       exact(KZ NZ rfl ((hout 10 rfl (by decide)).trans bb) (aZ.all hR id) ⟨rfl,KO.refl _ _⟩)
      exact L0
     intro cI bc cJ bd aD aq
     obtain⟨bQ,bR⟩:=NA bd ap a8
     have bS:=(aq 53).trans ah
     have bT:bc 45 = .map (some c):=(aq 45).trans (aD 3 (by decide))
     have bU:bc 46 = .agg #[iv x,iv y]:=(aq 46).trans (aD 4 (by decide))
     clear aD aq
     refine Nm rfl rfl (aDe (a:=x) (b:=y) Qc Tryz.underlying134 rfl rfl bT bU bR fun _ bV aE be=>?_)
     have aF:=bQ.all be (aa p rfl)
     refine KM ?_
     refine KG (KJ (KH (KI (iv 0) rfl rfl (KS rfl rfl rr) (KM ?_))))
     have bW:=K4 (iv 0)
     refine KG (Lb ?_)
     have bX:Pf bV (fun i=>(Lf p) i\/((Lf c) i)) (pt p 0) c (Ud f x y X Y):=(by first|(rw[(Po hin hv).2];exact⟨_,rfl,fun i=>Iff.rfl,aF,aE.congr (fun a b=>by first|exact Pq f x y X Y a b|(rw[h0.1,h0.2];exact Pq f x y 0 0 a b)),aa,Td ok hin hv⟩)|(rw[(OE hin hvn).2];exact⟨_,rfl,fun i=>Iff.rfl,aF,aE,aa,ok⟩)|(rw[(QR hno).2];exact⟨_,rfl,fun i=>Iff.rfl,aF,aE,aa,ok⟩))
     have bY:KP w0 T_q (fun i=>(Lf p) i\/((Lf c) i)):=fun i h=>h.elim (fun y=>af i y) (fun y=>ac i y)
     exact Lu (v:=iv 0) bS rfl rfl bW ⟨(fun i=>(Lf p) i\/((Lf c) i)),(by first|rw[(Po hin hv).1]|rw[(OE hin hvn).1,ND hvn]|rw[(QR hno).1]),((ba.tr bd).trans be (KP.ok (S:=T_q) ac (fun _ x=>x))),⟨bX,bY⟩⟩
    ·skip
     refine Na 6 [some 47,some 48,some 49,some 50,some 51,some 52] [Pd.eq (pt p 0),Pd.eq (pt p 0),Pd.eq (pt p 2),Pd.eq (.map (some c)),Pd.eq (.agg #[iv x,iv y]),Pd.eq (.agg #[iv X,iv Y])] (by kernel_rfl) (by kernel_rfl) (by kernel_rfl) ?_ ?_
     ·refine KL ?_ ?_
      ·refine La.one rfl fun F_ w_ hR hout hD=>?_
       exact(KQ rfl ((hout 0 rfl (by decide)).trans ab) ⟨rfl,KO.refl _ _⟩)
      refine KL ?_ ?_
      ·refine La.one rfl fun F_ w_ hR hout hD=>?_
       have bZ:F_ 47=pt p 0:=(hD.get 0 rfl rfl rfl)
       exact(Ol rfl bZ ⟨rfl,KO.refl _ _⟩)
      refine KL ?_ ?_
      ·refine La.one rfl fun F_ w_ hR hout hD=>?_
       have b7:F_ 48=pt p 0:=(hD.get 0 rfl rfl rfl)
       exact(KU (n:=1) rfl b7 Tryz.underlying136 rfl (by kernel_rfl) (by decide) rfl ⟨rfl,KO.refl _ _⟩)
      refine KL ?_ ?_
      ·refine La.one rfl fun F_ w_ hR hout hD=>?_
       have b8:F_ 49=pt p 2:=(hD.get 0 rfl rfl rfl)
       exact(KY rfl b8 Tryz.underlying134 (ap.all hR id) rfl rfl ⟨rfl,KO.refl _ _⟩)
      refine KL ?_ ?_
      ·refine La.one rfl fun F_ w_ hR hout hD=>?_
       exact(KZ NZ rfl ((hout 10 rfl (by decide)).trans bb) (aZ.all hR id) ⟨rfl,KO.refl _ _⟩)
      refine KL ?_ ?_
      ·refine La.one rfl fun F_ w_ hR hout hD=>?_
       exact(KZ LO rfl ((hout 7 rfl (by decide)).trans aA) (a9.all hR id) ⟨rfl,KO.refl _ _⟩)
      exact L0
     intro cK aG cL bf ar am
     obtain⟨b9,cd⟩:=NA bf ap a8
     have ce:=(am 53).trans ah
     have cf:aG 50 = .map (some c):=(am 50).trans (ar 3 (by decide))
     have cg:aG 51 = .agg #[iv x,iv y]:=(am 51).trans (ar 4 (by decide))
     have ci:aG 52 = .agg #[iv X,iv Y]:=(am 52).trans (ar 5 (by decide))
     clear ar am
     refine Nm rfl rfl (aC8 (a:=x) (b:=y) (X:=X) (Y:=Y) Qc Tryz.underlying134 rfl cf cg ci cd fun _ cj aH bg=>?_)
     have aI:=b9.all bg (aa p rfl)
     refine KM ?_
     refine KG (KJ (KH (KI (iv 0) rfl rfl (KS rfl rfl rr) (KM ?_))))
     have cm:=K4 (iv 0)
     refine KG (Lb ?_)
     have cn:Pf cj (fun i=>(Lf p) i\/((Lf c) i)) (pt p 0) c (Ud f x y X Y):=(by first|(rw[(Po hin hv).2];exact⟨_,rfl,fun i=>Iff.rfl,aI,aH.congr (fun a b=>by first|exact Pq f x y X Y a b|(rw[h0.1,h0.2];exact Pq f x y 0 0 a b)),aa,Td ok hin hv⟩)|(rw[(OE hin hvn).2];exact⟨_,rfl,fun i=>Iff.rfl,aI,aH,aa,ok⟩)|(rw[(QR hno).2];exact⟨_,rfl,fun i=>Iff.rfl,aI,aH,aa,ok⟩))
     have co:KP w0 T_q (fun i=>(Lf p) i\/((Lf c) i)):=fun i h=>h.elim (fun y=>af i y) (fun y=>ac i y)
     exact Lu (v:=iv 0) ce rfl rfl cm ⟨(fun i=>(Lf p) i\/((Lf c) i)),(by first|rw[(Po hin hv).1]|rw[(OE hin hvn).1,ND hvn]|rw[(QR hno).1]),((ba.tr bf).trans bg (KP.ok (S:=T_q) ac (fun _ x=>x))),⟨cn,co⟩⟩
  ·skip
   refine KH (KR rfl rfl rfl ab (KI (.bool false) rfl rfl (Ry rfl rfl rfl Tryz.underlying56 rr) (KI (.bool false) rfl rfl (KQ rfl rfl rr) (KT (iv x) 2 false 13 rfl rfl rfl rfl rfl (KQ rfl an rr) (KT (pt p 0) 2 false 13 rfl rfl rfl rfl rfl (KQ rfl ab rr) (KT (pt p 0) 2 false 13 rfl rfl rfl rfl rfl (Ol rfl rfl rr) (KT (pt p 0) 2 false 13 rfl rfl rfl rfl rfl (KU (n:=1) rfl rfl Tryz.underlying136 rfl (by kernel_rfl) (by decide) rfl rr) (KT (iv (f.w)) 2 false 13 rfl rfl rfl rfl rfl (KY rfl rfl Tryz.underlying3 ae rfl rfl rr) (LN (R:=fun v_ w_=>v_ = .bool true/\KO (fun _=>False) w5 w_) 2 false 13 rfl rfl rfl rfl rfl (LH rfl rfl rfl (fun _ _=>by kernel_rfl) (K5 _) (Lk rfl (Lk rfl LR)) (Q5 x (f.w)  _   ) (fun e_ w_ h_=>⟨_,h_.1,(congrArg Value.bool (decide_eq_true aB)),h_.2⟩)) ?_)))))))))
   rintro _ cq ⟨rfl,bh⟩
   obtain⟨bi,cr⟩:=NA bh ae av
   refine KT (.bool false) 2 false 13 rfl rfl rfl rfl rfl (L9 rfl rfl rfl rr) (KI (.bool false) rfl rfl (Li rfl rfl rfl rr) (KI (.bool false) rfl rfl (KQ rfl rfl rr) (KT (iv y) 11 false 22 rfl rfl rfl rfl rfl (KQ rfl az rr) (KT (pt p 0) 11 false 22 rfl rfl rfl rfl rfl (KQ rfl ab rr) (KT (pt p 0) 11 false 22 rfl rfl rfl rfl rfl (Ol rfl rfl rr) (KT (pt p 1) 11 false 22 rfl rfl rfl rfl rfl (KU (n:=1) rfl rfl Tryz.underlying136 rfl (by kernel_rfl) (by decide) rfl rr) (KT (iv (f.h)) 11 false 22 rfl rfl rfl rfl rfl (KY rfl rfl Tryz.underlying3 bi rfl rfl rr) (LN (R:=fun v_ w_=>v_ = .bool false/\KO (fun _=>False) cq w_) 11 false 22 rfl rfl rfl rfl rfl (LH rfl rfl rfl (fun _ _=>by kernel_rfl) (K5 _) (Lk rfl (Lk rfl LR)) (Q5 y (f.h)  _   ) (fun e_ w_ h_=>⟨_,h_.1,(congrArg Value.bool (decide_eq_false aP)),h_.2⟩)) ?_))))))))
   rintro _ ct ⟨rfl,bj⟩
   obtain⟨aJ,aK⟩:=NA bj bi cr
   refine KT (.bool true) 11 false 22 rfl rfl rfl rfl rfl (L9 rfl rfl rfl rr) (KI (.bool true) rfl rfl (Li rfl rfl rfl rr) (KM ?_))
   have cu:=K4 (.bool true)
   refine KG ?_
   refine K6 (t:=true) cu (fun _=>?_) (fun e=>by cases e)
   refine KJ ?_
   have hno:¬ Wm f x y:=by unfold Wm;omega
   refine KH (KI (iv 1) rfl rfl (KS rfl rfl rr) (KM ?_))
   have cv:=K4 (iv 1)
   refine KG (Lb (Lq ?_))
   have cw:Pf ct (fun i=>(Lf p) i\/((Lf c) i)) (pt p 0) c (Ud f x y X Y):=(by first|(rw[(Po hin hv).2];exact⟨_,rfl,fun i=>Iff.rfl,aJ,aK.congr (fun a b=>by first|exact Pq f x y X Y a b|(rw[h0.1,h0.2];exact Pq f x y 0 0 a b)),aa,Td ok hin hv⟩)|(rw[(OE hin hvn).2];exact⟨_,rfl,fun i=>Iff.rfl,aJ,aK,aa,ok⟩)|(rw[(QR hno).2];exact⟨_,rfl,fun i=>Iff.rfl,aJ,aK,aa,ok⟩))
   have cy:KP w0 T_q (fun i=>(Lf p) i\/((Lf c) i)):=fun i h=>h.elim (fun y=>af i y) (fun y=>ac i y)
   exact Lu (v:=iv 1) ah rfl rfl cv ⟨(fun i=>(Lf p) i\/((Lf c) i)),(by first|rw[(Po hin hv).1]|rw[(OE hin hvn).1,ND hvn]|rw[(QR hno).1]),((aw.tr bh).tr bj),⟨cw,cy⟩⟩
 ·skip
  refine KH (KR rfl rfl rfl ab (KI (.bool false) rfl rfl (Ry rfl rfl rfl Tryz.underlying56 rr) (KI (.bool false) rfl rfl (KQ rfl rfl rr) (KT (iv x) 2 false 13 rfl rfl rfl rfl rfl (KQ rfl an rr) (KT (pt p 0) 2 false 13 rfl rfl rfl rfl rfl (KQ rfl ab rr) (KT (pt p 0) 2 false 13 rfl rfl rfl rfl rfl (Ol rfl rfl rr) (KT (pt p 0) 2 false 13 rfl rfl rfl rfl rfl (KU (n:=1) rfl rfl Tryz.underlying136 rfl (by kernel_rfl) (by decide) rfl rr) (KT (iv (f.w)) 2 false 13 rfl rfl rfl rfl rfl (KY rfl rfl Tryz.underlying3 ae rfl rfl rr) (LN (R:=fun v_ w_=>v_ = .bool false/\KO (fun _=>False) w5 w_) 2 false 13 rfl rfl rfl rfl rfl (LH rfl rfl rfl (fun _ _=>by kernel_rfl) (K5 _) (Lk rfl (Lk rfl LR)) (Q5 x (f.w)  _   ) (fun e_ w_ h_=>⟨_,h_.1,(congrArg Value.bool (decide_eq_false aB)),h_.2⟩)) ?_)))))))))
  rintro _ cz ⟨rfl,bl⟩
  obtain⟨aL,aM⟩:=NA bl ae av
  refine KT (.bool true) 2 false 13 rfl rfl rfl rfl rfl (L9 rfl rfl rfl rr) (KI (.bool true) rfl rfl (Li rfl rfl rfl rr) (KI (.bool true) rfl rfl (KQ rfl rfl rr) (KN 11 false 22 rfl rfl rfl (Or.inl rfl) rfl (KN 11 false 22 rfl rfl rfl (Or.inl rfl) rfl (KN 11 false 22 rfl rfl rfl (Or.inl rfl) rfl (KN 11 false 22 rfl rfl rfl (Or.inl rfl) rfl (KN 11 false 22 rfl rfl rfl (Or.inl rfl) rfl (KN 11 false 22 rfl rfl rfl (Or.inl rfl) rfl (KN 11 false 22 rfl rfl rfl (Or.inl rfl) rfl (KI (.bool true) rfl rfl (Lo rfl rfl rfl rr) (KM ?_)))))))))))
  have cA:=K4 (.bool true)
  refine KG ?_
  refine K6 (t:=true) cA (fun _=>?_) (fun e=>by cases e)
  refine KJ ?_
  have hno:¬ Wm f x y:=by unfold Wm;omega
  refine KH (KI (iv 1) rfl rfl (KS rfl rfl rr) (KM ?_))
  have cB:=K4 (iv 1)
  refine KG (Lb (Lq ?_))
  have cC:Pf cz (fun i=>(Lf p) i\/((Lf c) i)) (pt p 0) c (Ud f x y X Y):=(by first|(rw[(Po hin hv).2];exact⟨_,rfl,fun i=>Iff.rfl,aL,aM.congr (fun a b=>by first|exact Pq f x y X Y a b|(rw[h0.1,h0.2];exact Pq f x y 0 0 a b)),aa,Td ok hin hv⟩)|(rw[(OE hin hvn).2];exact⟨_,rfl,fun i=>Iff.rfl,aL,aM,aa,ok⟩)|(rw[(QR hno).2];exact⟨_,rfl,fun i=>Iff.rfl,aL,aM,aa,ok⟩))
  have cD:KP w0 T_q (fun i=>(Lf p) i\/((Lf c) i)):=fun i h=>h.elim (fun y=>af i y) (fun y=>ac i y)
  exact Lu (v:=iv 1) ah rfl rfl cB ⟨(fun i=>(Lf p) i\/((Lf c) i)),(by first|rw[(Po hin hv).1]|rw[(OE hin hvn).1,ND hvn]|rw[(QR hno).1]),(aw.tr bl),⟨cC,cD⟩⟩
end Go.Proofs.YtknjpdcpmpfklaaGreatDoor
set_option maxRecDepth 100000
namespace Go.Proofs.YtknjpdcpmpfklaaGreatDoor
open Go.RowKit
theorem PG.one{w:World}{T:Nat->Prop}{v:Value}{o:Option VF}(h:PG w T v o):v.oneCell'=true:=by
 obtain⟨a,e,_⟩:=h.isnil;subst e;rfl
theorem PG.oneC{w:World}{T:Nat->Prop}{v:Value}{o:Option VF}(h:PG w T v o):oneC v=true:=by
 obtain⟨a,e,_⟩:=h.isnil;subst e;rfl
theorem Sy{W H:Int}{p:Nat}(hW:8<=W/\W<=64)(hH:8<=H/\H<=64):SB ((Lh W p:Nat):Int) ((Lh H p:Nat):Int)=some (Qz (Lh W p) (Lh H p)):=by
 refine Tk ?_
 have h1:0<Lh W p:=by unfold Lh;split <;> omega
 have h2:0<Lh H p:=by unfold Lh;split <;> omega
 have h3:=OB (p:=p) hW.2;have h4:=OB (p:=p) hH.2
 unfold NG;omega
def Qr(l:List Nat)(k:Int)(w i:Nat)(t:XG):Ch:=if (Ma l k w i t).2.1=0 then (Ma l k w i t).1 else chZ
def RQ(l:List Nat)(k:Int)(w i:Nat)(t:XG):XG:=if (Ma l k w i t).2.1=0 then YD l k w i t else t
theorem W5{l:List Nat}{k:Int}{w i:Nat}{t:XG}(h:(Ma l k w i t).2.1=0):Qr l k w i t=(Ma l k w i t).1/\RQ l k w i t=YD l k w i t:=⟨if_pos h,if_pos h⟩
theorem aC1{l:List Nat}{k:Int}{w i:Nat}{t:XG}(h:(Ma l k w i t).2.1≠0):Qr l k w i t=chZ/\RQ l k w i t=t:=⟨if_neg h,if_neg h⟩
theorem azM{l:List Nat}{k:Int}{w i:Nat}{t:XG}:MT l k (gX t.a (pX w i) (pY w i)) (gY t.a (pX w i) (pY w i)) (gX t.b (pX w i) (pY w i)) (gY t.b (pX w i) (pY w i)) t.s=(RQ l k w i t).s:=by
 unfold MT RQ
 show (if (Ma l k w i t).2.1=0 then (Ma l k w i t).2.2 else t.s)=_
 split <;> rfl
theorem XB(p:Nat)(l:List Nat)(st:Option Nat)(k P:Int)(w i:Nat)(u v:Value)(ca cb:Nat)(a b:VF)(T_r:Nat->Prop)(T_a:Nat->Prop)(T_b:Nat->Prop)(w0:World)(hA:NO w0)(hO:Of w0)(hG:∀ i,T_r i->5<=i)(hGa:∀ i,T_a i->5<=i)(hGb:∀ i,T_b i->5<=i)(hw:0<w)(h16:w<=16)(hi:i<=256)(h_r:Pr w0 T_r p (l) (st))(h_a:Pf w0 T_a u (ca) (a))(h_b:Pf w0 T_b v (cb) (b))(ap_r_a:KK T_r T_a)(ap_r_b:KK T_r T_b)(ap_a_b:KK T_a T_b) :
  Calls Tryz.prog 30 #[.pointer (some ⟨p,0,none⟩),.int .i64 (k),.agg #[u,v],.agg #[.int .i64 (P),.int .i64 (pX w i),.int .i64 (pY w i)]] w0 fun e w'=>∃ (T_r':Nat->Prop) (T_a':Nat->Prop) (T_b':Nat->Prop),e = .returned (.tuple #[.agg (O1 (Qr l k w i ⟨a,b,st⟩)).toArray,.int .i64 ((Ma l k w i ⟨a,b,st⟩).2.1)])/\KO (fun i=>(T_r) i\/((T_a) i\/((T_b) i))) w0 w'/\(Pr w' T_r' p (l) ((RQ l k w i ⟨a,b,st⟩).s)/\KP w0 T_r T_r')/\(Pf w' T_a' u (ca) ((RQ l k w i ⟨a,b,st⟩).a)/\KP w0 T_a T_a')/\(Pf w' T_b' v (cb) ((RQ l k w i ⟨a,b,st⟩).b)/\KP w0 T_b T_b')/\KK T_r' T_a'/\KK T_r' T_b'/\KK T_a' T_b':=by
 refine Lr (args:=[pt p 0,iv k,.agg #[u,v],.agg #[iv P,iv (pX w i),iv (pY w i)]]) 59 Tryz.func30 rfl rfl (Nat.le_of_ble_eq_true rfl) ?_
 have hxy:=aBi (i:=i) hw h16 hi
 have g_r:=KP.refl w0 T_r
 have g_a:=KP.refl w0 T_a
 have g_b:=KP.refl w0 T_b
 refine KJ (KH (Lz (vs:=[u,v]) rfl rfl rfl rfl fun p1 w2 B4 g5 k3=>?_))
 obtain⟨b8,b9⟩:=TQ g5 h_r h_a
 obtain⟨aT,aU,cd⟩:=Nu k3 h_r h_a h_b
 refine Lz (vs:=[iv P,iv (pX w i),iv (pY w i)]) rfl rfl rfl rfl fun aa dA ce aC aV=>?_
 obtain⟨cf,cg⟩:=TQ aC aT aU
 obtain⟨aW,aX,aY,ci⟩:=OV aV aT aU cd B4
 have aZ:=((KO.refl (fun i=>T_r i\/(T_a i\/(T_b i))) w0).tr k3).tr aV
 refine LF (n:=21) (vs:=(Oe 0 0 0 0 0 (fun _=>(0:Int)))) rfl rfl rfl (by kernel_rfl) fun ah a8 cj a9 ba=>?_
 have bb:=KP.new aZ a9
 obtain⟨bc,aD,aE⟩:=TD a9 aW aX aY
 obtain⟨cm,bd,be,aF,ai⟩:=OU ba aW aX aY ci ce
 refine KI (iv 0) rfl rfl (KS rfl rfl rr) (KM ?_)
 have cn:=K4 (pt p 0)
 have co:=K4 (iv k)
 have cq:=K4 (undef)
 have aG:=K4 (pt p1 0)
 have aj:=K4 (pt aa 0)
 have cr:=K4 (pt ah 0)
 refine KG (KJ ?_)
 refine aBu (S:=fun _=>False) [some 14,some 15,some 16,some 17,some 18,some 19,some 20,some 21,some 22,some 23,some 24,some 25,some 26,some 27,some 10,some 11,none,none] [Pc.eq (pt p1 0),Pc.eq u,Pc.eq (pt aa 1),Pc.eq (iv (pX w i)),Pc.eq (pt aa 2),Pc.eq (iv (pY w i)),Pc.eq (.agg #[iv (gX a (pX w i) (pY w i)),iv (gY a (pX w i) (pY w i))]),Pc.eq (pt p1 1),Pc.eq v,Pc.eq (pt aa 1),Pc.eq (iv (pX w i)),Pc.eq (pt aa 2),Pc.eq (iv (pY w i)),Pc.eq (.agg #[iv (gX b (pX w i) (pY w i)),iv (gY b (pX w i) (pY w i))]),Pc.blk 67 [iv 0,iv 0] 16 [iv (gX a (pX w i) (pY w i)),iv (gY a (pX w i) (pY w i))],Pc.blk 67 [iv 0,iv 0] 17 [iv (gX b (pX w i) (pY w i)),iv (gY b (pX w i) (pY w i))],Pc.turn 14,Pc.turn 15] (by kernel_rfl) (by kernel_rfl) (by kernel_rfl) rfl trivial ?_ ?_
 ·refine Mm ?_ ?_
  ·refine Nh.one rfl fun F_ w_ hR hout hD=>?_
   exact(LV 0 (s:=1) rfl ((hout 6 rfl (by decide)).trans aG) rfl (by omega) Tryz.underlying58 (by omega) (by kernel_rfl) (by omega) ⟨rfl,KO.refl _ _⟩)
  refine Mm ?_ ?_
  ·refine Nh.one rfl fun F_ w_ hR hout hD=>?_
   have ct:F_ 14=pt p1 0:=(hD.get 0 rfl rfl rfl)
   exact(KY rfl ct Tryz.underlying56 (aF.all hR id) rfl rfl ⟨rfl,KO.refl _ _⟩)
  refine Mm ?_ ?_
  ·refine Nh.one rfl fun F_ w_ hR hout hD=>?_
   exact(KU (n:=1) rfl ((hout 7 rfl (by decide)).trans aj) Tryz.underlying65 rfl (by kernel_rfl) (by decide) rfl ⟨rfl,KO.refl _ _⟩)
  refine Mm ?_ ?_
  ·refine Nh.one rfl fun F_ w_ hR hout hD=>?_
   have cu:F_ 16=pt aa 1:=(hD.get 0 rfl rfl rfl)
   exact(KY rfl cu Tryz.underlying3 (ai.all hR id) rfl rfl ⟨rfl,KO.refl _ _⟩)
  refine Mm ?_ ?_
  ·refine Nh.one rfl fun F_ w_ hR hout hD=>?_
   exact(KU (n:=1) rfl ((hout 7 rfl (by decide)).trans aj) Tryz.underlying65 rfl (by kernel_rfl) (by decide) rfl ⟨rfl,KO.refl _ _⟩)
  refine Mm ?_ ?_
  ·refine Nh.one rfl fun F_ w_ hR hout hD=>?_
   have aC:F_ 18=pt aa 2:=(hD.get 0 rfl rfl rfl)
   exact(KY rfl aC Tryz.underlying3 (ai.all hR id) rfl rfl ⟨rfl,KO.refl _ _⟩)
  refine Mm ?_ ?_
  ·refine Nh.one rfl fun F_ w_ hR hout hD=>?_
   have cv:F_ 15=u:=(hD.get 0 rfl rfl rfl)
   have cw:F_ 17=iv (pX w i):=(hD.get 1 rfl rfl rfl)
   have cy:F_ 19=iv (pY w i):=(hD.get 2 rfl rfl rfl)
   exact(LH rfl rfl rfl (fun _ _=>by kernel_rfl) (K5 _) (Lk cv (Lk cw (Lk cy LR))) (Wv u ca a (pX w i) (pY w i) T_a _ (by unfold ZS;omega) (by unfold ZS;omega) (bd.all hR KK.none) ) (fun e_ w_ h_=>⟨_,h_.1,rfl,h_.2⟩))
  refine Mm ?_ ?_
  ·refine Nh.one rfl fun F_ w_ hR hout hD=>?_
   exact(LV 1 (s:=1) rfl ((hout 6 rfl (by decide)).trans aG) rfl (by omega) Tryz.underlying58 (by omega) (by kernel_rfl) (by omega) ⟨rfl,KO.refl _ _⟩)
  refine Mm ?_ ?_
  ·refine Nh.one rfl fun F_ w_ hR hout hD=>?_
   have cz:F_ 21=pt p1 1:=(hD.get 0 rfl rfl rfl)
   exact(KY rfl cz Tryz.underlying56 (aF.all hR id) rfl rfl ⟨rfl,KO.refl _ _⟩)
  refine Mm ?_ ?_
  ·refine Nh.one rfl fun F_ w_ hR hout hD=>?_
   exact(KU (n:=1) rfl ((hout 7 rfl (by decide)).trans aj) Tryz.underlying65 rfl (by kernel_rfl) (by decide) rfl ⟨rfl,KO.refl _ _⟩)
  refine Mm ?_ ?_
  ·refine Nh.one rfl fun F_ w_ hR hout hD=>?_
   have cA:F_ 23=pt aa 1:=(hD.get 0 rfl rfl rfl)
   exact(KY rfl cA Tryz.underlying3 (ai.all hR id) rfl rfl ⟨rfl,KO.refl _ _⟩)
  refine Mm ?_ ?_
  ·refine Nh.one rfl fun F_ w_ hR hout hD=>?_
   exact(KU (n:=1) rfl ((hout 7 rfl (by decide)).trans aj) Tryz.underlying65 rfl (by kernel_rfl) (by decide) rfl ⟨rfl,KO.refl _ _⟩)
  refine Mm ?_ ?_
  ·refine Nh.one rfl fun F_ w_ hR hout hD=>?_
   have cB:F_ 25=pt aa 2:=(hD.get 0 rfl rfl rfl)
   exact(KY rfl cB Tryz.underlying3 (ai.all hR id) rfl rfl ⟨rfl,KO.refl _ _⟩)
  refine Mm ?_ ?_
  ·refine Nh.one rfl fun F_ w_ hR hout hD=>?_
   have cC:F_ 22=v:=(hD.get 0 rfl rfl rfl)
   have cD:F_ 24=iv (pX w i):=(hD.get 1 rfl rfl rfl)
   have cE:F_ 26=iv (pY w i):=(hD.get 2 rfl rfl rfl)
   exact(LH rfl rfl rfl (fun _ _=>by kernel_rfl) (K5 _) (Lk cC (Lk cD (Lk cE LR))) (Wv v cb b (pX w i) (pY w i) T_b _ (by unfold ZS;omega) (by unfold ZS;omega) (be.all hR KK.none) ) (fun e_ w_ h_=>⟨_,h_.1,rfl,h_.2⟩))
  refine Mm ?_ ?_
  ·refine Nh.one rfl fun F_ w_ hR hout hD=>?_
   exact PE (n:=2) (vs:=[iv 0,iv 0]) rfl (by kernel_rfl) ⟨_,rfl,Nat.le_refl _,heap_alloc_new _ _,(KO.refl _ _).alloc _⟩
  refine Mm ?_ ?_
  ·refine Nh.one rfl fun F_ w_ hR hout hD=>?_
   exact PE (n:=2) (vs:=[iv 0,iv 0]) rfl (by kernel_rfl) ⟨_,rfl,Nat.le_refl _,heap_alloc_new _ _,(KO.refl _ _).alloc _⟩
  refine Mm ?_ ?_
  ·refine Nh.one rfl fun F_ w_ hR hout hD=>?_
   obtain⟨p10_,bf,n10_,h10_⟩:∃ q_,F_ 10=pt q_ 0/\a8.heap.size<=q_/\Mz w_ q_ 67 [iv 0,iv 0]:=hD.get 0 rfl rfl rfl rfl
   have cF:F_ 20 = .agg #[iv (gX a (pX w i) (pY w i)),iv (gY a (pX w i) (pY w i))]:=(hD.get 1 rfl rfl rfl)
   exact Qk (us:=[iv (gX a (pX w i) (pY w i)),iv (gY a (pX w i) (pY w i))]) LO rfl bf cF h10_ rfl (KX rfl (KX rfl MG)) fun w2_ b_ k_=>⟨10,p10_,rfl,bf,fun _ _ _ e_=>(by cases e_;exact b_),k_⟩
  refine Mm ?_ ?_
  ·refine Nh.one rfl fun F_ w_ hR hout hD=>?_
   obtain⟨p11_,bg,n11_,h11_⟩:∃ q_,F_ 11=pt q_ 0/\a8.heap.size<=q_/\Mz w_ q_ 67 [iv 0,iv 0]:=hD.get 0 rfl rfl rfl rfl
   have cG:F_ 27 = .agg #[iv (gX b (pX w i) (pY w i)),iv (gY b (pX w i) (pY w i))]:=(hD.get 1 rfl rfl rfl)
   exact Qk (us:=[iv (gX b (pX w i) (pY w i)),iv (gY b (pX w i) (pY w i))]) LO rfl bg cG h11_ rfl (KX rfl (KX rfl MG)) fun w2_ b_ k_=>⟨11,p11_,rfl,bg,fun _ _ _ e_=>(by cases e_;exact b_),k_⟩
  exact XZ
 intro dB bh ap bi aH cH aq
 obtain⟨cI,bj,bl,cJ,cK,bm⟩:=QB bi cm bd be aF ai cj
 have ar:=(aZ.tr ba).tr bi
 obtain⟨cL,cM,bn,bo,au,av⟩:=t6 aq 0 cn 1 co 59 cq 6 aG 7 aj 8 cr
 obtain⟨bp,cN,dD,aI⟩:=aH 14 (by decide)
 replace aI:Mz ap bp 67 [iv (gX a (pX w i) (pY w i)),iv (gY a (pX w i) (pY w i))]:=aI
 have cO:bh 10=pt bp 0:=(aq 10).trans cN
 obtain⟨bq,cP,dE,aJ⟩:=aH 15 (by decide)
 replace aJ:Mz ap bq 67 [iv (gX b (pX w i) (pY w i)),iv (gY b (pX w i) (pY w i))]:=aJ
 have cQ:bh 11=pt bq 0:=(aq 11).trans cP
 clear aH aq cH
 refine KG (KJ (KH (KR rfl rfl rfl cL (KR rfl rfl rfl cM (KI (.agg #[iv (gX a (pX w i) (pY w i)),iv (gY a (pX w i) (pY w i))]) rfl rfl (KZ LO rfl cO aI rr) (KI (.agg #[iv (gX b (pX w i) (pY w i)),iv (gY b (pX w i) (pY w i))]) rfl rfl (KZ LO rfl cQ aJ rr) (LB (R:=fun v_ w_=>∃ (ak:Nat->Prop),.tuple #[.agg (O1 ((Ma l k w i ⟨a,b,st⟩).1)).toArray,iv ((Ma l k w i ⟨a,b,st⟩).2.1)]=v_/\KO T_r ap w_/\(Pr w_ ak p l (MT l k (gX a (pX w i) (pY w i)) (gY a (pX w i) (pY w i)) (gX b (pX w i) (pY w i)) (gY b (pX w i) (pY w i)) st)/\KP ap T_r ak)) rfl rfl (LH rfl rfl rfl (fun _ _=>by kernel_rfl) (K5 _) (Lk rfl (Lk rfl (Lk rfl (Lk rfl LR)))) (aCs p l st k (gX a (pX w i) (pY w i)) (gY a (pX w i) (pY w i)) (gX b (pX w i) (pY w i)) (gY b (pX w i) (pY w i)) T_r _ (hA.but ar (fun i h=>h.elim (hG i) (fun h=>h.elim (hGa i) (hGb i)))) (hO.but ar (ovO (fun i h=>h.elim (hG i) (fun h=>h.elim (hGa i) (hGb i))))) hG cI ) (fun e_ w_ h_=>by obtain⟨T101_,he_,hr_⟩:=h_;exact⟨_,he_,T101_,rfl,hr_⟩)) ?_)))))))
 rintro _ dF ⟨ak,rfl,af,⟨bt,bu⟩⟩
 have bv:=bj.all af (fun i h x=>((ap_r_a.symm) i h x))
 have bz:=bl.all af (fun i h x=>((ap_r_b.symm) i h x))
 have bA:=cJ.all af (b8 p1 rfl)
 have bB:=cK.all af (cf aa rfl)
 have bC:=bm.all af (bc ah rfl)
 have bD:=ar.trans af (fun i hi x=>((KP.ok (S:=fun i=>T_r i\/(T_a i\/(T_b i))) g_r (fun _ x=>Or.inl x)) i hi x))
 have bE:=g_r.trans ar bu
 obtain⟨aK,aL,bF⟩:=aC3 bu ap_r_a bj ap_r_b bl (bc.symm) bm
 refine KI (.tuple #[.agg (O1 ((Ma l k w i ⟨a,b,st⟩).1)).toArray,iv ((Ma l k w i ⟨a,b,st⟩).2.1)]) rfl rfl (KQ rfl rfl rr) (KI (.agg (O1 ((Ma l k w i ⟨a,b,st⟩).1)).toArray) rfl rfl (LL rfl rfl rfl rr) (KI (iv ((Ma l k w i ⟨a,b,st⟩).2.1)) rfl rfl (LL rfl rfl rfl rr) (LF (n:=21) (vs:=(Oe 0 0 0 0 0 (fun _=>(0:Int)))) rfl rfl rfl (by kernel_rfl) fun am dG cR bG bH=>?_)))
 obtain⟨cS,bI,bJ,cT,cU,cV⟩:=Vr bG bt bv bz bA bB bC
 obtain⟨cW,cX,cY,cZ,c5,c6⟩:=QB bH bt bv bz bA bB bC
 refine Lj (us:=(O1 ((Ma l k w i ⟨a,b,st⟩).1))) LE rfl rfl rfl rfl rfl cR rfl (KX rfl (KX rfl (KX rfl (KX rfl (KX rfl (KX rfl (KX rfl (KX rfl (KX rfl (KX rfl (KX rfl (KX rfl (KX rfl (KX rfl (KX rfl (KX rfl (KX rfl (KX rfl (KX rfl (KX rfl (KX rfl MG))))))))))))))))))))) fun bK bL ac=>?_
 have aM:=cW.all ac cS.symm
 have bM:=cX.all ac bI.symm
 have aN:=cY.all ac bJ.symm
 have bN:=cZ.all ac (cT.symm p1 rfl)
 have aO:=c5.all ac (cU.symm aa rfl)
 have aP:=c6.all ac (cV.symm ah rfl)
 have aQ:=(bD.tr bH).trans ac (KP.ok (S:=fun i=>T_r i\/(T_a i\/(T_b i))) (KP.new bD bG) K3)
 refine KI (iv ((Ma l k w i ⟨a,b,st⟩).2.1)) rfl rfl (KS rfl rfl rr) (KM ?_)
 have aR:=K4 (pt am 0)
 have bO:=K4 (iv ((Ma l k w i ⟨a,b,st⟩).2.1))
 refine KG (KJ (KJ (KH (KR rfl rfl rfl bO (KI (.bool (decide (((Ma l k w i ⟨a,b,st⟩).2.1)≠0))) rfl rfl (Mb rfl rfl rfl rfl rr) (KM ?_))))))
 have c7:=K4 (.bool (decide (((Ma l k w i ⟨a,b,st⟩).2.1)≠0)))
 refine KG ?_
 refine K6 c7 (fun an=>?_) (fun an=>?_)
 ·replace an:=of_decide_eq_true an
  refine KJ ?_
  have hR:=aC1 (l:=l) (k:=k) (w:=w) (i:=i) (t:=⟨a,b,st⟩) (by assumption)
  refine KH (KI (.agg (Oe 0 0 0 0 0 (fun _=>(0:Int))).toArray) rfl rfl (LZ (l':=[]) (cells:=(Oe 0 0 0 0 0 (fun _=>(0:Int))).toArray) rfl Rv (by kernel_rfl) rfl rr) (KR rfl rfl rfl bO (Lj (us:=(Oe 0 0 0 0 0 (fun _=>(0:Int)))) LE rfl rfl rfl av rfl aP rfl (KX rfl (KX rfl (KX rfl (KX rfl (KX rfl (KX rfl (KX rfl (KX rfl (KX rfl (KX rfl (KX rfl (KX rfl (KX rfl (KX rfl (KX rfl (KX rfl (KX rfl (KX rfl (KX rfl (KX rfl (KX rfl MG))))))))))))))))))))) fun dH c9 aw=>?_)))
  have da:=aM.all aw bF
  have db:=bM.all aw aD.symm
  have dc:=aN.all aw aE.symm
  refine KI (iv ((Ma l k w i ⟨a,b,st⟩).2.1)) rfl rfl (KS rfl rfl rr) (KM ?_)
  have dd:=K4 (iv ((Ma l k w i ⟨a,b,st⟩).2.1))
  refine KG (Lb (Lq ?_))
  exact L7 bn rfl (MK (vs:=(Oe 0 0 0 0 0 (fun _=>(0:Int)))) LE rfl av c9) (Ly (v:=iv ((Ma l k w i ⟨a,b,st⟩).2.1)) rfl dd) ⟨ak,T_a,T_b,(by first|rw[hR.1,he0]|(rw[hR.1] <;> rfl)),(aQ.trans aw (KP.ok (S:=fun i=>T_r i\/(T_a i\/(T_b i))) bb K3)),⟨(by rw[← azM];exact da),bE⟩,⟨(by rw[hR.2];exact db),g_a⟩,⟨(by rw[hR.2];exact dc),g_b⟩,aK,aL,ap_a_b⟩
 ·replace an:=of_decide_eq_false an
  refine Lg (KG (KJ ?_))
  have he0:(Ma l k w i ⟨a,b,st⟩).2.1=0:=by first|assumption|(apply Decidable.byContradiction;assumption)
  have hR:=W5 (l:=l) (k:=k) (w:=w) (i:=i) (t:=⟨a,b,st⟩) (by first|assumption|(apply Decidable.byContradiction;assumption))
  refine KH (KI (pt p1 0) rfl rfl (LV 0 (s:=1) rfl bo rfl (by omega) Tryz.underlying58 (by omega) (by kernel_rfl) (by omega) rr) (KI u rfl rfl (KY rfl rfl Tryz.underlying56 bN rfl rfl rr) (KI (pt aa 1) rfl rfl (KU (n:=1) rfl au Tryz.underlying65 rfl (by kernel_rfl) (by decide) rfl rr) (KI (iv (pX w i)) rfl rfl (KY rfl rfl Tryz.underlying3 aO rfl rfl rr) (KI (pt aa 2) rfl rfl (KU (n:=1) rfl au Tryz.underlying65 rfl (by kernel_rfl) (by decide) rfl rr) (KI (iv (pY w i)) rfl rfl (KY rfl rfl Tryz.underlying3 aO rfl rfl rr) (KI (pt am 1) rfl rfl (KU (n:=2) rfl aR Tryz.underlying71 rfl (by kernel_rfl) (by decide) rfl rr) (KI (.agg #[iv (((Ma l k w i ⟨a,b,st⟩).1).px),iv (((Ma l k w i ⟨a,b,st⟩).1).py)]) rfl rfl (O4 (n:=2) LO rfl rfl bL (Nat.le_of_ble_eq_true rfl) rfl rr) (LB (R:=fun v_ w_=>∃ (az:Nat->Prop),iv (YE a (pX w i) (pY w i) (((Ma l k w i ⟨a,b,st⟩).1).px) (((Ma l k w i ⟨a,b,st⟩).1).py))=v_/\KO T_a bK w_/\(Pf w_ az u ca (Ud a (pX w i) (pY w i) (((Ma l k w i ⟨a,b,st⟩).1).px) (((Ma l k w i ⟨a,b,st⟩).1).py))/\KP bK T_a az)) rfl rfl (LH rfl rfl rfl (fun _ _=>by kernel_rfl) (K5 _) (Lk rfl (Lk rfl (Lk rfl (Lk rfl LR)))) (Z4 u ca a (pX w i) (pY w i) (((Ma l k w i ⟨a,b,st⟩).1).px) (((Ma l k w i ⟨a,b,st⟩).1).py) T_a _  bM ) (fun e_ w_ h_=>by obtain⟨T192_,he_,hr_⟩:=h_;exact⟨_,he_,T192_,rfl,hr_⟩)) ?_)))))))))
  rintro _ bP ⟨az,rfl,ae,⟨bQ,bR⟩⟩
  have bS:=aM.all ae aK
  have de:=aN.all ae (fun i h x=>((ap_a_b.symm) i h x))
  have df:=bN.all ae (b9 p1 rfl)
  have bT:=aO.all ae (cg aa rfl)
  have bU:=aP.all ae (aD ah rfl)
  have bV:=bL.all ae (bI am rfl)
  have bW:=aQ.trans ae (fun i hi x=>((KP.ok (S:=fun i=>T_r i\/(T_a i\/(T_b i))) g_a (fun _ x=>Or.inr (Or.inl x))) i hi x))
  obtain⟨dg,bX,dh⟩:=aC3 bR (aK.symm) aM ap_a_b aN (aD.symm) aP
  refine KM ?_
  refine KG (KJ (KH (KI (pt p1 1) rfl rfl (LV 1 (s:=1) rfl bo rfl (by omega) Tryz.underlying58 (by omega) (by kernel_rfl) (by omega) rr) (KI v rfl rfl (KY rfl rfl Tryz.underlying56 df rfl rfl rr) (KI (pt aa 1) rfl rfl (KU (n:=1) rfl au Tryz.underlying65 rfl (by kernel_rfl) (by decide) rfl rr) (KI (iv (pX w i)) rfl rfl (KY rfl rfl Tryz.underlying3 bT rfl rfl rr) (KI (pt aa 2) rfl rfl (KU (n:=1) rfl au Tryz.underlying65 rfl (by kernel_rfl) (by decide) rfl rr) (KI (iv (pY w i)) rfl rfl (KY rfl rfl Tryz.underlying3 bT rfl rfl rr) (KI (pt am 3) rfl rfl (KU (n:=2) rfl aR Tryz.underlying71 rfl (by kernel_rfl) (by decide) rfl rr) (KI (.agg #[iv (((Ma l k w i ⟨a,b,st⟩).1).nx),iv (((Ma l k w i ⟨a,b,st⟩).1).ny)]) rfl rfl (O4 (n:=2) LO rfl rfl bV (Nat.le_of_ble_eq_true rfl) rfl rr) (LB (R:=fun v_ w_=>∃ (aA:Nat->Prop),iv (YE b (pX w i) (pY w i) (((Ma l k w i ⟨a,b,st⟩).1).nx) (((Ma l k w i ⟨a,b,st⟩).1).ny))=v_/\KO T_b bP w_/\(Pf w_ aA v cb (Ud b (pX w i) (pY w i) (((Ma l k w i ⟨a,b,st⟩).1).nx) (((Ma l k w i ⟨a,b,st⟩).1).ny))/\KP bP T_b aA)) rfl rfl (LH rfl rfl rfl (fun _ _=>by kernel_rfl) (K5 _) (Lk rfl (Lk rfl (Lk rfl (Lk rfl LR)))) (Z4 v cb b (pX w i) (pY w i) (((Ma l k w i ⟨a,b,st⟩).1).nx) (((Ma l k w i ⟨a,b,st⟩).1).ny) T_b _  de ) (fun e_ w_ h_=>by obtain⟨T222_,he_,hr_⟩:=h_;exact⟨_,he_,T222_,rfl,hr_⟩)) ?_)))))))))))
  rintro _ dI ⟨aA,rfl,ao,⟨di,bY⟩⟩
  have dj:=bS.all ao aL
  have dk:=bQ.all ao bX
  have dl:=bU.all ao (aE ah rfl)
  have dm:=bV.all ao (bJ am rfl)
  obtain⟨dn,dp,dq⟩:=aC3 bY (aL.symm) bS (bX.symm) bQ (aE.symm) bU
  refine KM ?_
  refine KG (KJ (KH (KI (.agg (O1 ((Ma l k w i ⟨a,b,st⟩).1)).toArray) rfl rfl (KZ LE rfl aR dm rr) (Lj (us:=(O1 ((Ma l k w i ⟨a,b,st⟩).1))) LE rfl rfl rfl av rfl dl rfl (KX rfl (KX rfl (KX rfl (KX rfl (KX rfl (KX rfl (KX rfl (KX rfl (KX rfl (KX rfl (KX rfl (KX rfl (KX rfl (KX rfl (KX rfl (KX rfl (KX rfl (KX rfl (KX rfl (KX rfl (KX rfl MG))))))))))))))))))))) fun dJ dr aB=>?_))))
  have dt:=dj.all aB bF
  have du:=dk.all aB dh
  have dv:=di.all aB dq
  have dw:=(bW.trans ao (fun i hi x=>((KP.ok (S:=fun i=>T_r i\/(T_a i\/(T_b i))) g_b (fun _ x=>Or.inr (Or.inr x))) i hi x))).trans aB (KP.ok (S:=fun i=>T_r i\/(T_a i\/(T_b i))) bb K3)
  refine KI (iv 0) rfl rfl (KS rfl rfl rr) (KM ?_)
  have dy:=K4 (iv 0)
  refine KG (Lb ?_)
  exact L7 bn rfl (MK (vs:=(O1 ((Ma l k w i ⟨a,b,st⟩).1))) LE rfl av dr) (Ly (v:=iv 0) rfl dy) ⟨ak,az,aA,(by first|rw[hR.1,he0]|(rw[hR.1] <;> rfl)),dw,⟨(by rw[← azM];exact dt),bE⟩,⟨(by rw[hR.2];exact du),(g_a.trans aQ bR)⟩,⟨(by rw[hR.2];exact dv),(g_b.trans bW bY)⟩,dg.symm,dn.symm,dp.symm⟩
theorem azI(W H R B:Int)(w0:World)(hs:Pg W H R B) :
  Calls Tryz.prog 28 #[.agg #[.int .i64 (W),.int .i64 (H),.int .i64 (R),.int .i64 (B)]] w0 fun e w'=>∃ (v1:Value) (T1:Nat->Prop) (v2:Value) (T2:Nat->Prop) (v3:Value) (T3:Nat->Prop) (v4:Value) (T4:Nat->Prop) (v5:Value) (T5:Nat->Prop) (v6:Value) (T6:Nat->Prop),e = .returned (.agg #[v1,v2,v3,v4,v5,v6])/\KO (fun _=>False) w0 w'/\(PG w' T1 v1 (some (Qz ((Lh W 0:Nat):Int) ((Lh H 0:Nat):Int)))/\KP w0 LX T1)/\(PG w' T2 v2 (some (Qz ((Lh W 0:Nat):Int) ((Lh H 0:Nat):Int)))/\KP w0 LX T2)/\(PG w' T3 v3 (some (Qz ((Lh W 1:Nat):Int) ((Lh H 1:Nat):Int)))/\KP w0 LX T3)/\(PG w' T4 v4 (some (Qz ((Lh W 1:Nat):Int) ((Lh H 1:Nat):Int)))/\KP w0 LX T4)/\(PG w' T5 v5 (some (Qz ((Lh W 2:Nat):Int) ((Lh H 2:Nat):Int)))/\KP w0 LX T5)/\(PG w' T6 v6 (some (Qz ((Lh W 2:Nat):Int) ((Lh H 2:Nat):Int)))/\KP w0 LX T6)/\KK T1 T2/\KK T1 T3/\KK T1 T4/\KK T1 T5/\KK T1 T6/\KK T2 T3/\KK T2 T4/\KK T2 T5/\KK T2 T6/\KK T3 T4/\KK T3 T5/\KK T3 T6/\KK T4 T5/\KK T4 T6/\KK T5 T6:=by
 refine Lr (args:=[.agg #[iv W,iv H,iv R,iv B]]) 33 Tryz.func28 rfl rfl (Nat.le_of_ble_eq_true rfl) ?_
 have hsd:=Q4 hs
 refine KJ (KH (Lz (vs:=[iv W,iv H,iv R,iv B]) rfl rfl rfl rfl fun p1 w2 B4 g5 k3=>?_))
 have K7:=(KO.refl (fun _=>False) w0).tr k3
 refine LF (n:=6) (vs:=[.pointer none,.pointer none,.pointer none,.pointer none,.pointer none,.pointer none]) rfl rfl rfl (by kernel_rfl) fun p8 w9 bI db bJ=>?_
 have bK:=B4.all bJ id
 have bL:=K7.tr bJ
 refine KM ?_
 have dc:=K4 (undef)
 have bM:=K4 (pt p1 0)
 have dd:=K4 (pt p8 0)
 refine KG (KJ (KH (LF (n:=6) (vs:=[.pointer none,.pointer none,.pointer none,.pointer none,.pointer none,.pointer none]) rfl rfl rfl (by kernel_rfl) fun aa gn de ah bN=>?_)))
 have az:=KP.new bL ah
 obtain⟨aL,aA⟩:=TQ ah bK bI
 obtain⟨bO,df⟩:=NA bN bK bI
 refine KM ?_
 have bP:=K4 (pt aa 0)
 refine KG (KJ (KJ (KH (KI (iv 0) rfl rfl (KQ rfl rfl rr) (KM ?_)))))
 have a8:=K4 (iv 0)
 refine KG (Lm (Oy 4 (Mc (KJ (KH (KI (.bool true) rfl rfl (L4 rfl a8 rfl rfl rr) (KM ?_)))))))
 have dg:=K4 (.bool true)
 refine KG (KJ ?_)
 refine K6 (t:=true) dg (fun _=>?_) (fun e=>by cases e)
 refine Lg (KG (KJ (Lm (KJ (KH (KR rfl rfl rfl a8 (KI (iv 0) rfl rfl (KS rfl rfl rr) (KM ?_))))))))
 have a9:=K4 (iv 0)
 refine KG (KJ (KH (KI (.agg #[iv W,iv H,iv R,iv B]) rfl rfl (KZ My rfl bM bO rr) (KR rfl rfl rfl a9 (LW rfl rfl rfl rfl rfl (fun _ _=>by kernel_rfl) (Lk rfl (Lk rfl LR)) (Su W H R B 0  _ (by assumption)  ) fun ba bQ=>?_)))))
 obtain⟨dh,bR,bS⟩:=Nu bQ bO df de
 have bT:=(bL.tr bN).tr bQ
 refine KI (.tuple #[iv ((Lh W 0:Nat):Int),iv ((Lh H 0:Nat):Int)]) rfl rfl (KQ rfl rfl rr) (KI (iv ((Lh W 0:Nat):Int)) rfl rfl (LL rfl rfl rfl rr) (KI (iv ((Lh H 0:Nat):Int)) rfl rfl (LL rfl rfl rfl rr) (KI (iv ((Lh W 0:Nat):Int)) rfl rfl (KS rfl rfl rr) (KI (iv ((Lh H 0:Nat):Int)) rfl rfl (KS rfl rfl rr) (KM ?_)))))
 have bU:=K4 (iv ((Lh W 0:Nat):Int))
 have bV:=K4 (iv ((Lh H 0:Nat):Int))
 refine KG (KJ (KH (KI (iv 0) rfl rfl (KQ rfl rfl rr) (KM ?_))))
 have bb:=K4 (iv 0)
 refine KG (Lm (Oy 3 (Mc (KJ (KH (KI (.bool true) rfl rfl (L4 rfl bb rfl rfl rr) (KM ?_)))))))
 have di:=K4 (.bool true)
 refine KG (KJ ?_)
 refine K6 (t:=true) di (fun _=>?_) (fun e=>by cases e)
 refine Lg (KG (KJ (Lm (KJ (KH (KR rfl rfl rfl bb (KI (iv 0) rfl rfl (KS rfl rfl rr) (KM ?_))))))))
 have dj:=K4 (iv 0)
 refine KG ?_
 refine QQ (γ:=Value×(Nat->Prop)) [(5,4),(6,4),(7,4),(9,4),(10,4)] [some 21,some 22,some 23,some 24,some 25,some 20,some 26,some 27,some 28,some 29,none] ⟨fun w_=>True,fun _=>False,fun g_ w_=>(PG w_ (g_.2) (g_.1) (SB ((Lh W 0:Nat):Int) ((Lh H 0:Nat):Int))/\KP ba LX (g_.2)),fun g_=>(g_.2),fun p_ w_=>Mz w_ p_ 59 [.pointer none,.pointer none,.pointer none,.pointer none,.pointer none,.pointer none],fun g_ p_ w_=>Mz w_ p_ 59 [g_.1,.pointer none,.pointer none,.pointer none,.pointer none,.pointer none]⟩ (Lf aa) (fun p_=>aa=p_) [fun g_=>iv 0,fun g_=>iv 0,fun g_=>iv ((Lh W 0:Nat):Int),fun g_=>iv ((Lh H 0:Nat):Int),fun g_=>.tuple #[g_.1,iv (MW ((Lh W 0:Nat):Int) ((Lh H 0:Nat):Int))],fun g_=>.tuple #[g_.1,iv (MW ((Lh W 0:Nat):Int) ((Lh H 0:Nat):Int))],fun g_=>g_.1,fun g_=>iv (MW ((Lh W 0:Nat):Int) ((Lh H 0:Nat):Int)),fun g_=>pt aa 0,fun g_=>pt aa 0,fun _=>undef] 4 10 none (undef,LX) aa (by kernel_rfl) (by kernel_rfl) (by kernel_rfl) (by kernel_rfl) ⟨.inr (.inr fun _ _=>rfl),⟨.inr (.inr fun _ _=>rfl),⟨.inr (.inr fun _ _=>rfl),⟨.inr (.inr fun _ _=>rfl),⟨.inr (.inl rfl),⟨.inl rfl,⟨.inl rfl,⟨.inl rfl,⟨.inr (.inr fun _ _=>rfl),⟨.inl rfl,⟨.inl rfl,trivial⟩⟩⟩⟩⟩⟩⟩⟩⟩⟩⟩ ⟨trivial,fun _ _ _ _ _ _=>trivial,fun _ _ _ z=>z.elim,fun g w w1 S1 h k a=>by obtain⟨b0_,g0_⟩:=h;exact⟨b0_.all k (fun i z=>a i z),g0_⟩,fun g w h i z=>by obtain⟨b0_,g0_⟩:=h;exact b0_.live i z,fun _ _ _ _ h k z=>h.all k z,fun _ _ h=>h.lt,fun _ _ _ _ _ h k z=>h.all k z,fun _ z=>z.elim,fun _ h=>.inl h.symm,fun _ _ z=>z⟩ (fun _ e=>by cases e) (fun _=>⟨rfl,bS⟩) ?_ ?_
 ·refine KV ?_ ?_
  ·refine Ln.one rfl rfl rfl rfl fun g_ p_ F_ w_ hR hout hD=>?_
   exact(KQ rfl ((hout 4 rfl (by decide)).trans a9) ⟨rfl,KO.refl _ _⟩)
  refine KV ?_ ?_
  ·refine Ln.one rfl rfl rfl rfl fun g_ p_ F_ w_ hR hout hD=>?_
   exact(KQ rfl ((hout 7 rfl (by decide)).trans dj) ⟨rfl,KO.refl _ _⟩)
  refine KV ?_ ?_
  ·refine Ln.one rfl rfl rfl rfl fun g_ p_ F_ w_ hR hout hD=>?_
   exact(KQ rfl ((hout 5 rfl (by decide)).trans bU) ⟨rfl,KO.refl _ _⟩)
  refine KV ?_ ?_
  ·refine Ln.one rfl rfl rfl rfl fun g_ p_ F_ w_ hR hout hD=>?_
   exact(KQ rfl ((hout 6 rfl (by decide)).trans bV) ⟨rfl,KO.refl _ _⟩)
  refine KV ?_ ?_
  ·refine Ln.call rfl rfl rfl rfl fun g_ p_ F_ w_ hR hout hD hP_=>?_
   have aj:F_ 23=iv ((Lh W 0:Nat):Int):=(hD.get 0 rfl rfl rfl).2 (by decide)
   have ak:F_ 24=iv ((Lh H 0:Nat):Int):=(hD.get 1 rfl rfl rfl).2 (by decide)
   exact(LH rfl rfl rfl (fun _ _=>by kernel_rfl) (K5 _) (Lk aj (Lk ak LR)) (Ui ((Lh W 0:Nat):Int) ((Lh H 0:Nat):Int)  _   ) (fun e_ w_ h_=>by obtain⟨x0_,x1_,he_,hk_,⟨b0_,g0_⟩⟩:=h_;exact⟨_,he_,⟨x0_,x1_⟩,rfl,hk_,⟨b0_,(KP.refl ba _).trans hR g0_⟩,fun b hb=>(g0_ b hb).elim (fun z=>z.elim) .inr⟩))
  refine KV ?_ ?_
  ·refine Ln.one rfl rfl rfl rfl fun g_ p_ F_ w_ hR hout hD=>?_
   have am:F_ 25 = .tuple #[g_.1,iv (MW ((Lh W 0:Nat):Int) ((Lh H 0:Nat):Int))]:=(hD.get 0 rfl rfl rfl).2 (by decide)
   exact(KQ rfl am ⟨rfl,KO.refl _ _⟩)
  refine KV ?_ ?_
  ·refine Ln.one rfl rfl rfl rfl fun g_ p_ F_ w_ hR hout hD=>?_
   have ab:F_ 20 = .tuple #[g_.1,iv (MW ((Lh W 0:Nat):Int) ((Lh H 0:Nat):Int))]:=(hD.get 0 rfl rfl rfl).2 (by decide)
   exact(LL rfl ab rfl ⟨rfl,KO.refl _ _⟩)
  refine KV ?_ ?_
  ·refine Ln.one rfl rfl rfl rfl fun g_ p_ F_ w_ hR hout hD=>?_
   have ab:F_ 20 = .tuple #[g_.1,iv (MW ((Lh W 0:Nat):Int) ((Lh H 0:Nat):Int))]:=(hD.get 0 rfl rfl rfl).2 (by decide)
   exact(LL rfl ab rfl ⟨rfl,KO.refl _ _⟩)
  refine KV ?_ ?_
  ·refine Ln.one rfl rfl rfl rfl fun g_ p_ F_ w_ hR hout hD=>?_
   have an:F_ 21=iv 0:=(hD.get 0 rfl rfl rfl).2 (by decide)
   exact(LV 0 (s:=2) rfl ((hout 3 rfl (by decide)).trans bP) an (by omega) Tryz.underlying59 (by omega) (by kernel_rfl) (by omega) ⟨rfl,KO.refl _ _⟩)
  refine KV ?_ ?_
  ·refine Ln.one rfl rfl rfl rfl fun g_ p_ F_ w_ hR hout hD=>?_
   have ao:F_ 28=pt aa 0:=(hD.get 0 rfl rfl rfl).2 (by decide)
   have ap:F_ 22=iv 0:=(hD.get 1 rfl rfl rfl).2 (by decide)
   exact(LV 0 (s:=1) rfl ao ap (by omega) Tryz.underlying58 (by omega) (by kernel_rfl) (by omega) ⟨rfl,KO.refl _ _⟩)
  refine KV ?_ ?_
  ·refine Ln.store rfl rfl rfl rfl fun g_ p_ F_ w_ hR hout hD hO_ hZ_ hQ_=>?_
   subst hO_
   have aq:F_ 29=pt aa 0:=(hD.get 0 rfl rfl rfl).2 (by decide)
   have ah:F_ 26=g_.1:=(hD.get 1 rfl rfl rfl).2 (by decide)
   exact PA rfl aq ah hZ_ rfl (hQ_.1).oneC (by kernel_rfl) fun w2_ b_ k_=>⟨rfl,k_,b_⟩
  exact Nk
 intro dk go gp gq aG bc dl dm dn aM dp dq dr bW
 obtain⟨ac,bd⟩:=dk
 have dt:=dh.all bc (aL.symm p1 rfl)
 have bX:=bR.all bc (aA.symm p8 rfl)
 have bY:=bT.trans bc (fun i hi x=>((KP.ok (S:=fun _=>False) az K3) i hi x))
 obtain⟨aN,aO⟩:=dm
 replace aN:PG aG bd ac (SB ((Lh W 0:Nat):Int) ((Lh H 0:Nat):Int)):=aN
 replace aO:KP ba LX bd:=aO
 obtain⟨du,aH⟩:=TQ aO bR bS
 cases dl
 replace aM:Mz aG aa 59 [ac,.pointer none,.pointer none,.pointer none,.pointer none,.pointer none]:=aM
 obtain⟨dv,dw,dy,bZ,dz,dA,dB,dC,dD⟩:=t9 bW 33 dc 1 bM 2 dd 3 bP 8 a8 4 a9 5 bU 6 bV 17 bb
 clear bW dr dq dp dn
 refine LC (KG (KH (KI (iv ((1:Nat):Int)) rfl rfl (LP rfl dD rfl (L6 (by omega) (by omega)) rr) (KI (iv ((1:Nat):Int)) rfl rfl (KQ rfl rfl rr) (KM ?_)))))
 have be:=K4 (iv ((1:Nat):Int))
 refine KG (Mc (KJ (KH (KI (.bool true) rfl rfl (L4 rfl be rfl rfl rr) (KM ?_)))))
 have dF:=K4 (.bool true)
 refine KG (KJ ?_)
 refine K6 (t:=true) dF (fun _=>?_) (fun e=>by cases e)
 refine Lg (KG (KJ (Lm (KJ (KH (KR rfl rfl rfl be (KI (iv ((1:Nat):Int)) rfl rfl (KS rfl rfl rr) (KM ?_))))))))
 have dG:=K4 (iv ((1:Nat):Int))
 refine KG ?_
 refine QQ (γ:=Value×(Nat->Prop)) [(5,4),(6,4),(7,4),(9,4),(10,4)] [some 21,some 22,some 23,some 24,some 25,some 20,some 26,some 27,some 28,some 29,none] ⟨fun w_=>True,fun _=>False,fun g_ w_=>(PG w_ (g_.2) (g_.1) (SB ((Lh W 0:Nat):Int) ((Lh H 0:Nat):Int))/\KP aG LX (g_.2)),fun g_=>(g_.2),fun p_ w_=>Mz w_ p_ 59 [ac,.pointer none,.pointer none,.pointer none,.pointer none,.pointer none],fun g_ p_ w_=>Mz w_ p_ 59 [ac,g_.1,.pointer none,.pointer none,.pointer none,.pointer none]⟩ (Lf aa) (fun p_=>aa=p_) [fun g_=>iv 0,fun g_=>iv ((1:Nat):Int),fun g_=>iv ((Lh W 0:Nat):Int),fun g_=>iv ((Lh H 0:Nat):Int),fun g_=>.tuple #[g_.1,iv (MW ((Lh W 0:Nat):Int) ((Lh H 0:Nat):Int))],fun g_=>.tuple #[g_.1,iv (MW ((Lh W 0:Nat):Int) ((Lh H 0:Nat):Int))],fun g_=>g_.1,fun g_=>iv (MW ((Lh W 0:Nat):Int) ((Lh H 0:Nat):Int)),fun g_=>pt aa 0,fun g_=>pt aa 1,fun _=>undef] 4 10 none (undef,LX) aa (by kernel_rfl) (by kernel_rfl) (by kernel_rfl) (by kernel_rfl) ⟨.inr (.inr fun _ _=>rfl),⟨.inr (.inr fun _ _=>rfl),⟨.inr (.inr fun _ _=>rfl),⟨.inr (.inr fun _ _=>rfl),⟨.inr (.inl rfl),⟨.inl rfl,⟨.inl rfl,⟨.inl rfl,⟨.inr (.inr fun _ _=>rfl),⟨.inl rfl,⟨.inl rfl,trivial⟩⟩⟩⟩⟩⟩⟩⟩⟩⟩⟩ ⟨trivial,fun _ _ _ _ _ _=>trivial,fun _ _ _ z=>z.elim,fun g w w1 S1 h k a=>by obtain⟨b0_,g0_⟩:=h;exact⟨b0_.all k (fun i z=>a i z),g0_⟩,fun g w h i z=>by obtain⟨b0_,g0_⟩:=h;exact b0_.live i z,fun _ _ _ _ h k z=>h.all k z,fun _ _ h=>h.lt,fun _ _ _ _ _ h k z=>h.all k z,fun _ z=>z.elim,fun _ h=>.inl h.symm,fun _ _ z=>z⟩ (fun _ e=>by cases e) (fun _=>⟨rfl,aM⟩) ?_ ?_
 ·refine KV ?_ ?_
  ·refine Ln.one rfl rfl rfl rfl fun g_ p_ F_ w_ hR hout hD=>?_
   exact(KQ rfl ((hout 4 rfl (by decide)).trans dA) ⟨rfl,KO.refl _ _⟩)
  refine KV ?_ ?_
  ·refine Ln.one rfl rfl rfl rfl fun g_ p_ F_ w_ hR hout hD=>?_
   exact(KQ rfl ((hout 7 rfl (by decide)).trans dG) ⟨rfl,KO.refl _ _⟩)
  refine KV ?_ ?_
  ·refine Ln.one rfl rfl rfl rfl fun g_ p_ F_ w_ hR hout hD=>?_
   exact(KQ rfl ((hout 5 rfl (by decide)).trans dB) ⟨rfl,KO.refl _ _⟩)
  refine KV ?_ ?_
  ·refine Ln.one rfl rfl rfl rfl fun g_ p_ F_ w_ hR hout hD=>?_
   exact(KQ rfl ((hout 6 rfl (by decide)).trans dC) ⟨rfl,KO.refl _ _⟩)
  refine KV ?_ ?_
  ·refine Ln.call rfl rfl rfl rfl fun g_ p_ F_ w_ hR hout hD hP_=>?_
   have aj:F_ 23=iv ((Lh W 0:Nat):Int):=(hD.get 0 rfl rfl rfl).2 (by decide)
   have ak:F_ 24=iv ((Lh H 0:Nat):Int):=(hD.get 1 rfl rfl rfl).2 (by decide)
   exact(LH rfl rfl rfl (fun _ _=>by kernel_rfl) (K5 _) (Lk aj (Lk ak LR)) (Ui ((Lh W 0:Nat):Int) ((Lh H 0:Nat):Int)  _   ) (fun e_ w_ h_=>by obtain⟨x0_,x1_,he_,hk_,⟨b0_,g0_⟩⟩:=h_;exact⟨_,he_,⟨x0_,x1_⟩,rfl,hk_,⟨b0_,(KP.refl aG _).trans hR g0_⟩,fun b hb=>(g0_ b hb).elim (fun z=>z.elim) .inr⟩))
  refine KV ?_ ?_
  ·refine Ln.one rfl rfl rfl rfl fun g_ p_ F_ w_ hR hout hD=>?_
   have am:F_ 25 = .tuple #[g_.1,iv (MW ((Lh W 0:Nat):Int) ((Lh H 0:Nat):Int))]:=(hD.get 0 rfl rfl rfl).2 (by decide)
   exact(KQ rfl am ⟨rfl,KO.refl _ _⟩)
  refine KV ?_ ?_
  ·refine Ln.one rfl rfl rfl rfl fun g_ p_ F_ w_ hR hout hD=>?_
   have ab:F_ 20 = .tuple #[g_.1,iv (MW ((Lh W 0:Nat):Int) ((Lh H 0:Nat):Int))]:=(hD.get 0 rfl rfl rfl).2 (by decide)
   exact(LL rfl ab rfl ⟨rfl,KO.refl _ _⟩)
  refine KV ?_ ?_
  ·refine Ln.one rfl rfl rfl rfl fun g_ p_ F_ w_ hR hout hD=>?_
   have ab:F_ 20 = .tuple #[g_.1,iv (MW ((Lh W 0:Nat):Int) ((Lh H 0:Nat):Int))]:=(hD.get 0 rfl rfl rfl).2 (by decide)
   exact(LL rfl ab rfl ⟨rfl,KO.refl _ _⟩)
  refine KV ?_ ?_
  ·refine Ln.one rfl rfl rfl rfl fun g_ p_ F_ w_ hR hout hD=>?_
   have an:F_ 21=iv 0:=(hD.get 0 rfl rfl rfl).2 (by decide)
   exact(LV 0 (s:=2) rfl ((hout 3 rfl (by decide)).trans bZ) an (by omega) Tryz.underlying59 (by omega) (by kernel_rfl) (by omega) ⟨rfl,KO.refl _ _⟩)
  refine KV ?_ ?_
  ·refine Ln.one rfl rfl rfl rfl fun g_ p_ F_ w_ hR hout hD=>?_
   have ao:F_ 28=pt aa 0:=(hD.get 0 rfl rfl rfl).2 (by decide)
   have ap:F_ 22=iv ((1:Nat):Int):=(hD.get 1 rfl rfl rfl).2 (by decide)
   exact(LV 1 (s:=1) rfl ao ap (by omega) Tryz.underlying58 (by omega) (by kernel_rfl) (by omega) ⟨rfl,KO.refl _ _⟩)
  refine KV ?_ ?_
  ·refine Ln.store rfl rfl rfl rfl fun g_ p_ F_ w_ hR hout hD hO_ hZ_ hQ_=>?_
   subst hO_
   have aq:F_ 29=pt aa 1:=(hD.get 0 rfl rfl rfl).2 (by decide)
   have ah:F_ 26=g_.1:=(hD.get 1 rfl rfl rfl).2 (by decide)
   exact PA rfl aq ah hZ_ rfl (hQ_.1).oneC (by kernel_rfl) fun w2_ b_ k_=>⟨rfl,k_,b_⟩
  exact Nk
 intro dH gr gt gu b7 aP dI dJ dK bf dL dM dN b8
 obtain⟨ae,bg⟩:=dH
 have b9:=dt.all aP (aL.symm p1 rfl)
 have dO:=bX.all aP (aA.symm p8 rfl)
 have dP:=aN.all aP aH
 obtain⟨bh,aQ⟩:=dJ
 replace bh:PG b7 bg ae (SB ((Lh W 0:Nat):Int) ((Lh H 0:Nat):Int)):=bh
 replace aQ:KP aG LX bg:=aQ
 obtain⟨dQ,aR,dR⟩:=TD aQ bX aM aN
 cases dI
 replace bf:Mz b7 aa 59 [ac,ae,.pointer none,.pointer none,.pointer none,.pointer none]:=bf
 obtain⟨dS,cd,dT,ce,dU,dV⟩:=t6 b8 33 dv 1 dw 2 dy 3 bZ 8 dz 17 be
 clear b8 dN dM dL dK
 refine LC (KG (KH (KI (iv ((2:Nat):Int)) rfl rfl (LP rfl dV rfl (L6 (by omega) (by omega)) rr) (KI (iv ((2:Nat):Int)) rfl rfl (KQ rfl rfl rr) (KM ?_)))))
 have dX:=K4 (iv ((2:Nat):Int))
 refine KG (Mc (KJ (KH (KI (.bool false) rfl rfl (L4 rfl dX rfl rfl rr) (KM ?_)))))
 have dY:=K4 (.bool false)
 refine KG (KJ ?_)
 refine K6 (t:=false) dY (fun e=>by cases e) (fun _=>?_)
 refine Me (Ls (Ls (Mf (LC (KG (KH (KI (iv ((1:Nat):Int)) rfl rfl (LP rfl dU rfl (L6 (by omega) (by omega)) rr) (KI (iv ((1:Nat):Int)) rfl rfl (KQ rfl rfl rr) (KM ?_)))))))))
 have bi:=K4 (iv ((1:Nat):Int))
 refine KG (Mc (KJ (KH (KI (.bool true) rfl rfl (L4 rfl bi rfl rfl rr) (KM ?_)))))
 have dZ:=K4 (.bool true)
 refine KG (KJ ?_)
 refine K6 (t:=true) dZ (fun _=>?_) (fun e=>by cases e)
 refine Lg (KG (KJ (Lm (KJ (KH (KR rfl rfl rfl bi (KI (iv ((1:Nat):Int)) rfl rfl (KS rfl rfl rr) (KM ?_))))))))
 have bj:=K4 (iv ((1:Nat):Int))
 refine KG (KJ (KH (KI (.agg #[iv W,iv H,iv R,iv B]) rfl rfl (KZ My rfl cd b9 rr) (KR rfl rfl rfl bj (LW rfl rfl rfl rfl rfl (fun _ _=>by kernel_rfl) (Lk rfl (Lk rfl LR)) (Su W H R B 1  _ (by assumption)  ) fun bl cf=>?_)))))
 obtain⟨d8,cg,ci,cj,cm⟩:=OU cf b9 dO bf dP bh
 have cn:=(bY.trans aP (fun i hi x=>((KP.ok (S:=fun _=>False) az K3) i hi x))).tr cf
 refine KI (.tuple #[iv ((Lh W 1:Nat):Int),iv ((Lh H 1:Nat):Int)]) rfl rfl (KQ rfl rfl rr) (KI (iv ((Lh W 1:Nat):Int)) rfl rfl (LL rfl rfl rfl rr) (KI (iv ((Lh H 1:Nat):Int)) rfl rfl (LL rfl rfl rfl rr) (KI (iv ((Lh W 1:Nat):Int)) rfl rfl (KS rfl rfl rr) (KI (iv ((Lh H 1:Nat):Int)) rfl rfl (KS rfl rfl rr) (KM ?_)))))
 have co:=K4 (iv ((Lh W 1:Nat):Int))
 have cq:=K4 (iv ((Lh H 1:Nat):Int))
 refine KG (KJ (KH (KI (iv 0) rfl rfl (KQ rfl rfl rr) (KM ?_))))
 have bm:=K4 (iv 0)
 refine KG (Lm (Oy 3 (Mc (KJ (KH (KI (.bool true) rfl rfl (L4 rfl bm rfl rfl rr) (KM ?_)))))))
 have d9:=K4 (.bool true)
 refine KG (KJ ?_)
 refine K6 (t:=true) d9 (fun _=>?_) (fun e=>by cases e)
 refine Lg (KG (KJ (Lm (KJ (KH (KR rfl rfl rfl bm (KI (iv 0) rfl rfl (KS rfl rfl rr) (KM ?_))))))))
 have eb:=K4 (iv 0)
 refine KG ?_
 refine QQ (γ:=Value×(Nat->Prop)) [(5,4),(6,4),(7,4),(9,4),(10,4)] [some 21,some 22,some 23,some 24,some 25,some 20,some 26,some 27,some 28,some 29,none] ⟨fun w_=>True,fun _=>False,fun g_ w_=>(PG w_ (g_.2) (g_.1) (SB ((Lh W 1:Nat):Int) ((Lh H 1:Nat):Int))/\KP bl LX (g_.2)),fun g_=>(g_.2),fun p_ w_=>Mz w_ p_ 59 [ac,ae,.pointer none,.pointer none,.pointer none,.pointer none],fun g_ p_ w_=>Mz w_ p_ 59 [ac,ae,g_.1,.pointer none,.pointer none,.pointer none]⟩ (Lf aa) (fun p_=>aa=p_) [fun g_=>iv ((1:Nat):Int),fun g_=>iv 0,fun g_=>iv ((Lh W 1:Nat):Int),fun g_=>iv ((Lh H 1:Nat):Int),fun g_=>.tuple #[g_.1,iv (MW ((Lh W 1:Nat):Int) ((Lh H 1:Nat):Int))],fun g_=>.tuple #[g_.1,iv (MW ((Lh W 1:Nat):Int) ((Lh H 1:Nat):Int))],fun g_=>g_.1,fun g_=>iv (MW ((Lh W 1:Nat):Int) ((Lh H 1:Nat):Int)),fun g_=>pt aa 2,fun g_=>pt aa 2,fun _=>undef] 4 10 none (undef,LX) aa (by kernel_rfl) (by kernel_rfl) (by kernel_rfl) (by kernel_rfl) ⟨.inr (.inr fun _ _=>rfl),⟨.inr (.inr fun _ _=>rfl),⟨.inr (.inr fun _ _=>rfl),⟨.inr (.inr fun _ _=>rfl),⟨.inr (.inl rfl),⟨.inl rfl,⟨.inl rfl,⟨.inl rfl,⟨.inr (.inr fun _ _=>rfl),⟨.inl rfl,⟨.inl rfl,trivial⟩⟩⟩⟩⟩⟩⟩⟩⟩⟩⟩ ⟨trivial,fun _ _ _ _ _ _=>trivial,fun _ _ _ z=>z.elim,fun g w w1 S1 h k a=>by obtain⟨b0_,g0_⟩:=h;exact⟨b0_.all k (fun i z=>a i z),g0_⟩,fun g w h i z=>by obtain⟨b0_,g0_⟩:=h;exact b0_.live i z,fun _ _ _ _ h k z=>h.all k z,fun _ _ h=>h.lt,fun _ _ _ _ _ h k z=>h.all k z,fun _ z=>z.elim,fun _ h=>.inl h.symm,fun _ _ z=>z⟩ (fun _ e=>by cases e) (fun _=>⟨rfl,ci⟩) ?_ ?_
 ·refine KV ?_ ?_
  ·refine Ln.one rfl rfl rfl rfl fun g_ p_ F_ w_ hR hout hD=>?_
   exact(KQ rfl ((hout 4 rfl (by decide)).trans bj) ⟨rfl,KO.refl _ _⟩)
  refine KV ?_ ?_
  ·refine Ln.one rfl rfl rfl rfl fun g_ p_ F_ w_ hR hout hD=>?_
   exact(KQ rfl ((hout 7 rfl (by decide)).trans eb) ⟨rfl,KO.refl _ _⟩)
  refine KV ?_ ?_
  ·refine Ln.one rfl rfl rfl rfl fun g_ p_ F_ w_ hR hout hD=>?_
   exact(KQ rfl ((hout 5 rfl (by decide)).trans co) ⟨rfl,KO.refl _ _⟩)
  refine KV ?_ ?_
  ·refine Ln.one rfl rfl rfl rfl fun g_ p_ F_ w_ hR hout hD=>?_
   exact(KQ rfl ((hout 6 rfl (by decide)).trans cq) ⟨rfl,KO.refl _ _⟩)
  refine KV ?_ ?_
  ·refine Ln.call rfl rfl rfl rfl fun g_ p_ F_ w_ hR hout hD hP_=>?_
   have aj:F_ 23=iv ((Lh W 1:Nat):Int):=(hD.get 0 rfl rfl rfl).2 (by decide)
   have ak:F_ 24=iv ((Lh H 1:Nat):Int):=(hD.get 1 rfl rfl rfl).2 (by decide)
   exact(LH rfl rfl rfl (fun _ _=>by kernel_rfl) (K5 _) (Lk aj (Lk ak LR)) (Ui ((Lh W 1:Nat):Int) ((Lh H 1:Nat):Int)  _   ) (fun e_ w_ h_=>by obtain⟨x0_,x1_,he_,hk_,⟨b0_,g0_⟩⟩:=h_;exact⟨_,he_,⟨x0_,x1_⟩,rfl,hk_,⟨b0_,(KP.refl bl _).trans hR g0_⟩,fun b hb=>(g0_ b hb).elim (fun z=>z.elim) .inr⟩))
  refine KV ?_ ?_
  ·refine Ln.one rfl rfl rfl rfl fun g_ p_ F_ w_ hR hout hD=>?_
   have am:F_ 25 = .tuple #[g_.1,iv (MW ((Lh W 1:Nat):Int) ((Lh H 1:Nat):Int))]:=(hD.get 0 rfl rfl rfl).2 (by decide)
   exact(KQ rfl am ⟨rfl,KO.refl _ _⟩)
  refine KV ?_ ?_
  ·refine Ln.one rfl rfl rfl rfl fun g_ p_ F_ w_ hR hout hD=>?_
   have ab:F_ 20 = .tuple #[g_.1,iv (MW ((Lh W 1:Nat):Int) ((Lh H 1:Nat):Int))]:=(hD.get 0 rfl rfl rfl).2 (by decide)
   exact(LL rfl ab rfl ⟨rfl,KO.refl _ _⟩)
  refine KV ?_ ?_
  ·refine Ln.one rfl rfl rfl rfl fun g_ p_ F_ w_ hR hout hD=>?_
   have ab:F_ 20 = .tuple #[g_.1,iv (MW ((Lh W 1:Nat):Int) ((Lh H 1:Nat):Int))]:=(hD.get 0 rfl rfl rfl).2 (by decide)
   exact(LL rfl ab rfl ⟨rfl,KO.refl _ _⟩)
  refine KV ?_ ?_
  ·refine Ln.one rfl rfl rfl rfl fun g_ p_ F_ w_ hR hout hD=>?_
   have an:F_ 21=iv ((1:Nat):Int):=(hD.get 0 rfl rfl rfl).2 (by decide)
   exact(LV 1 (s:=2) rfl ((hout 3 rfl (by decide)).trans ce) an (by omega) Tryz.underlying59 (by omega) (by kernel_rfl) (by omega) ⟨rfl,KO.refl _ _⟩)
  refine KV ?_ ?_
  ·refine Ln.one rfl rfl rfl rfl fun g_ p_ F_ w_ hR hout hD=>?_
   have ao:F_ 28=pt aa 2:=(hD.get 0 rfl rfl rfl).2 (by decide)
   have ap:F_ 22=iv 0:=(hD.get 1 rfl rfl rfl).2 (by decide)
   exact(LV 0 (s:=1) rfl ao ap (by omega) Tryz.underlying58 (by omega) (by kernel_rfl) (by omega) ⟨rfl,KO.refl _ _⟩)
  refine KV ?_ ?_
  ·refine Ln.store rfl rfl rfl rfl fun g_ p_ F_ w_ hR hout hD hO_ hZ_ hQ_=>?_
   subst hO_
   have aq:F_ 29=pt aa 2:=(hD.get 0 rfl rfl rfl).2 (by decide)
   have ah:F_ 26=g_.1:=(hD.get 1 rfl rfl rfl).2 (by decide)
   exact PA rfl aq ah hZ_ rfl (hQ_.1).oneC (by kernel_rfl) fun w2_ b_ k_=>⟨rfl,k_,b_⟩
  exact Nk
 intro ee gv gw gz aI aJ eh ei ek aS en eo ep cr
 obtain⟨af,bn⟩:=ee
 have er:=d8.all aJ (aL.symm p1 rfl)
 have ct:=cg.all aJ (aA.symm p8 rfl)
 have cu:=cj.all aJ aH
 have cv:=cm.all aJ aR
 have cw:=cn.trans aJ (fun i hi x=>((KP.ok (S:=fun _=>False) az K3) i hi x))
 obtain⟨aT,aU⟩:=ei
 replace aT:PG aI bn af (SB ((Lh W 1:Nat):Int) ((Lh H 1:Nat):Int)):=aT
 replace aU:KP bl LX bn:=aU
 obtain⟨et,bo,eu,ew⟩:=Wj aU cg ci cj cm
 cases eh
 replace aS:Mz aI aa 59 [ac,ae,af,.pointer none,.pointer none,.pointer none]:=aS
 obtain⟨ex,ey,ez,cy,eA,eB,eC,eD,eE⟩:=t9 cr 33 dS 1 cd 2 dT 3 ce 8 bi 4 bj 5 co 6 cq 17 bm
 clear cr ep eo en ek
 refine LC (KG (KH (KI (iv ((1:Nat):Int)) rfl rfl (LP rfl eE rfl (L6 (by omega) (by omega)) rr) (KI (iv ((1:Nat):Int)) rfl rfl (KQ rfl rfl rr) (KM ?_)))))
 have bp:=K4 (iv ((1:Nat):Int))
 refine KG (Mc (KJ (KH (KI (.bool true) rfl rfl (L4 rfl bp rfl rfl rr) (KM ?_)))))
 have eF:=K4 (.bool true)
 refine KG (KJ ?_)
 refine K6 (t:=true) eF (fun _=>?_) (fun e=>by cases e)
 refine Lg (KG (KJ (Lm (KJ (KH (KR rfl rfl rfl bp (KI (iv ((1:Nat):Int)) rfl rfl (KS rfl rfl rr) (KM ?_))))))))
 have eG:=K4 (iv ((1:Nat):Int))
 refine KG ?_
 refine QQ (γ:=Value×(Nat->Prop)) [(5,4),(6,4),(7,4),(9,4),(10,4)] [some 21,some 22,some 23,some 24,some 25,some 20,some 26,some 27,some 28,some 29,none] ⟨fun w_=>True,fun _=>False,fun g_ w_=>(PG w_ (g_.2) (g_.1) (SB ((Lh W 1:Nat):Int) ((Lh H 1:Nat):Int))/\KP aI LX (g_.2)),fun g_=>(g_.2),fun p_ w_=>Mz w_ p_ 59 [ac,ae,af,.pointer none,.pointer none,.pointer none],fun g_ p_ w_=>Mz w_ p_ 59 [ac,ae,af,g_.1,.pointer none,.pointer none]⟩ (Lf aa) (fun p_=>aa=p_) [fun g_=>iv ((1:Nat):Int),fun g_=>iv ((1:Nat):Int),fun g_=>iv ((Lh W 1:Nat):Int),fun g_=>iv ((Lh H 1:Nat):Int),fun g_=>.tuple #[g_.1,iv (MW ((Lh W 1:Nat):Int) ((Lh H 1:Nat):Int))],fun g_=>.tuple #[g_.1,iv (MW ((Lh W 1:Nat):Int) ((Lh H 1:Nat):Int))],fun g_=>g_.1,fun g_=>iv (MW ((Lh W 1:Nat):Int) ((Lh H 1:Nat):Int)),fun g_=>pt aa 2,fun g_=>pt aa 3,fun _=>undef] 4 10 none (undef,LX) aa (by kernel_rfl) (by kernel_rfl) (by kernel_rfl) (by kernel_rfl) ⟨.inr (.inr fun _ _=>rfl),⟨.inr (.inr fun _ _=>rfl),⟨.inr (.inr fun _ _=>rfl),⟨.inr (.inr fun _ _=>rfl),⟨.inr (.inl rfl),⟨.inl rfl,⟨.inl rfl,⟨.inl rfl,⟨.inr (.inr fun _ _=>rfl),⟨.inl rfl,⟨.inl rfl,trivial⟩⟩⟩⟩⟩⟩⟩⟩⟩⟩⟩ ⟨trivial,fun _ _ _ _ _ _=>trivial,fun _ _ _ z=>z.elim,fun g w w1 S1 h k a=>by obtain⟨b0_,g0_⟩:=h;exact⟨b0_.all k (fun i z=>a i z),g0_⟩,fun g w h i z=>by obtain⟨b0_,g0_⟩:=h;exact b0_.live i z,fun _ _ _ _ h k z=>h.all k z,fun _ _ h=>h.lt,fun _ _ _ _ _ h k z=>h.all k z,fun _ z=>z.elim,fun _ h=>.inl h.symm,fun _ _ z=>z⟩ (fun _ e=>by cases e) (fun _=>⟨rfl,aS⟩) ?_ ?_
 ·refine KV ?_ ?_
  ·refine Ln.one rfl rfl rfl rfl fun g_ p_ F_ w_ hR hout hD=>?_
   exact(KQ rfl ((hout 4 rfl (by decide)).trans eB) ⟨rfl,KO.refl _ _⟩)
  refine KV ?_ ?_
  ·refine Ln.one rfl rfl rfl rfl fun g_ p_ F_ w_ hR hout hD=>?_
   exact(KQ rfl ((hout 7 rfl (by decide)).trans eG) ⟨rfl,KO.refl _ _⟩)
  refine KV ?_ ?_
  ·refine Ln.one rfl rfl rfl rfl fun g_ p_ F_ w_ hR hout hD=>?_
   exact(KQ rfl ((hout 5 rfl (by decide)).trans eC) ⟨rfl,KO.refl _ _⟩)
  refine KV ?_ ?_
  ·refine Ln.one rfl rfl rfl rfl fun g_ p_ F_ w_ hR hout hD=>?_
   exact(KQ rfl ((hout 6 rfl (by decide)).trans eD) ⟨rfl,KO.refl _ _⟩)
  refine KV ?_ ?_
  ·refine Ln.call rfl rfl rfl rfl fun g_ p_ F_ w_ hR hout hD hP_=>?_
   have aj:F_ 23=iv ((Lh W 1:Nat):Int):=(hD.get 0 rfl rfl rfl).2 (by decide)
   have ak:F_ 24=iv ((Lh H 1:Nat):Int):=(hD.get 1 rfl rfl rfl).2 (by decide)
   exact(LH rfl rfl rfl (fun _ _=>by kernel_rfl) (K5 _) (Lk aj (Lk ak LR)) (Ui ((Lh W 1:Nat):Int) ((Lh H 1:Nat):Int)  _   ) (fun e_ w_ h_=>by obtain⟨x0_,x1_,he_,hk_,⟨b0_,g0_⟩⟩:=h_;exact⟨_,he_,⟨x0_,x1_⟩,rfl,hk_,⟨b0_,(KP.refl aI _).trans hR g0_⟩,fun b hb=>(g0_ b hb).elim (fun z=>z.elim) .inr⟩))
  refine KV ?_ ?_
  ·refine Ln.one rfl rfl rfl rfl fun g_ p_ F_ w_ hR hout hD=>?_
   have am:F_ 25 = .tuple #[g_.1,iv (MW ((Lh W 1:Nat):Int) ((Lh H 1:Nat):Int))]:=(hD.get 0 rfl rfl rfl).2 (by decide)
   exact(KQ rfl am ⟨rfl,KO.refl _ _⟩)
  refine KV ?_ ?_
  ·refine Ln.one rfl rfl rfl rfl fun g_ p_ F_ w_ hR hout hD=>?_
   have ab:F_ 20 = .tuple #[g_.1,iv (MW ((Lh W 1:Nat):Int) ((Lh H 1:Nat):Int))]:=(hD.get 0 rfl rfl rfl).2 (by decide)
   exact(LL rfl ab rfl ⟨rfl,KO.refl _ _⟩)
  refine KV ?_ ?_
  ·refine Ln.one rfl rfl rfl rfl fun g_ p_ F_ w_ hR hout hD=>?_
   have ab:F_ 20 = .tuple #[g_.1,iv (MW ((Lh W 1:Nat):Int) ((Lh H 1:Nat):Int))]:=(hD.get 0 rfl rfl rfl).2 (by decide)
   exact(LL rfl ab rfl ⟨rfl,KO.refl _ _⟩)
  refine KV ?_ ?_
  ·refine Ln.one rfl rfl rfl rfl fun g_ p_ F_ w_ hR hout hD=>?_
   have an:F_ 21=iv ((1:Nat):Int):=(hD.get 0 rfl rfl rfl).2 (by decide)
   exact(LV 1 (s:=2) rfl ((hout 3 rfl (by decide)).trans cy) an (by omega) Tryz.underlying59 (by omega) (by kernel_rfl) (by omega) ⟨rfl,KO.refl _ _⟩)
  refine KV ?_ ?_
  ·refine Ln.one rfl rfl rfl rfl fun g_ p_ F_ w_ hR hout hD=>?_
   have ao:F_ 28=pt aa 2:=(hD.get 0 rfl rfl rfl).2 (by decide)
   have ap:F_ 22=iv ((1:Nat):Int):=(hD.get 1 rfl rfl rfl).2 (by decide)
   exact(LV 1 (s:=1) rfl ao ap (by omega) Tryz.underlying58 (by omega) (by kernel_rfl) (by omega) ⟨rfl,KO.refl _ _⟩)
  refine KV ?_ ?_
  ·refine Ln.store rfl rfl rfl rfl fun g_ p_ F_ w_ hR hout hD hO_ hZ_ hQ_=>?_
   subst hO_
   have aq:F_ 29=pt aa 3:=(hD.get 0 rfl rfl rfl).2 (by decide)
   have ah:F_ 26=g_.1:=(hD.get 1 rfl rfl rfl).2 (by decide)
   exact PA rfl aq ah hZ_ rfl (hQ_.1).oneC (by kernel_rfl) fun w2_ b_ k_=>⟨rfl,k_,b_⟩
  exact Nk
 intro eH gA gB gC cz aB eI eJ eK bq eL eM eN cA
 obtain⟨ai,bt⟩:=eH
 have eO:=er.all aB (aL.symm p1 rfl)
 have eP:=ct.all aB (aA.symm p8 rfl)
 have eQ:=cu.all aB aH
 have eR:=cv.all aB aR
 have eS:=aT.all aB bo
 obtain⟨bu,aV⟩:=eJ
 replace bu:PG cz bt ai (SB ((Lh W 1:Nat):Int) ((Lh H 1:Nat):Int)):=bu
 replace aV:KP aI LX bt:=aV
 obtain⟨eT,cB,eU,eV,eW⟩:=azc aV ct aS cu cv aT
 cases eI
 replace bq:Mz cz aa 59 [ac,ae,af,ai,.pointer none,.pointer none]:=bq
 obtain⟨eX,eY,eZ,cC,e6,e7⟩:=t6 cA 33 ex 1 ey 2 ez 3 cy 8 eA 17 bp
 clear cA eN eM eL eK
 refine LC (KG (KH (KI (iv ((2:Nat):Int)) rfl rfl (LP rfl e7 rfl (L6 (by omega) (by omega)) rr) (KI (iv ((2:Nat):Int)) rfl rfl (KQ rfl rfl rr) (KM ?_)))))
 have e8:=K4 (iv ((2:Nat):Int))
 refine KG (Mc (KJ (KH (KI (.bool false) rfl rfl (L4 rfl e8 rfl rfl rr) (KM ?_)))))
 have e9:=K4 (.bool false)
 refine KG (KJ ?_)
 refine K6 (t:=false) e9 (fun e=>by cases e) (fun _=>?_)
 refine Me (Ls (Ls (Mf (LC (KG (KH (KI (iv ((2:Nat):Int)) rfl rfl (LP rfl e6 rfl (L6 (by omega) (by omega)) rr) (KI (iv ((2:Nat):Int)) rfl rfl (KQ rfl rfl rr) (KM ?_)))))))))
 have bv:=K4 (iv ((2:Nat):Int))
 refine KG (Mc (KJ (KH (KI (.bool true) rfl rfl (L4 rfl bv rfl rfl rr) (KM ?_)))))
 have fa:=K4 (.bool true)
 refine KG (KJ ?_)
 refine K6 (t:=true) fa (fun _=>?_) (fun e=>by cases e)
 refine Lg (KG (KJ (Lm (KJ (KH (KR rfl rfl rfl bv (KI (iv ((2:Nat):Int)) rfl rfl (KS rfl rfl rr) (KM ?_))))))))
 have bz:=K4 (iv ((2:Nat):Int))
 refine KG (KJ (KH (KI (.agg #[iv W,iv H,iv R,iv B]) rfl rfl (KZ My rfl eY eO rr) (KR rfl rfl rfl bz (LW rfl rfl rfl rfl rfl (fun _ _=>by kernel_rfl) (Lk rfl (Lk rfl LR)) (Su W H R B 2  _ (by assumption)  ) fun bA cD=>?_)))))
 obtain⟨cE,cF,cG,cH,cI,cJ⟩:=QB cD eP bq eQ eR eS bu
 have cK:=(cw.trans aB (fun i hi x=>((KP.ok (S:=fun _=>False) az K3) i hi x))).tr cD
 refine KI (.tuple #[iv ((Lh W 2:Nat):Int),iv ((Lh H 2:Nat):Int)]) rfl rfl (KQ rfl rfl rr) (KI (iv ((Lh W 2:Nat):Int)) rfl rfl (LL rfl rfl rfl rr) (KI (iv ((Lh H 2:Nat):Int)) rfl rfl (LL rfl rfl rfl rr) (KI (iv ((Lh W 2:Nat):Int)) rfl rfl (KS rfl rfl rr) (KI (iv ((Lh H 2:Nat):Int)) rfl rfl (KS rfl rfl rr) (KM ?_)))))
 have cL:=K4 (iv ((Lh W 2:Nat):Int))
 have cM:=K4 (iv ((Lh H 2:Nat):Int))
 refine KG (KJ (KH (KI (iv 0) rfl rfl (KQ rfl rfl rr) (KM ?_))))
 have bB:=K4 (iv 0)
 refine KG (Lm (Oy 3 (Mc (KJ (KH (KI (.bool true) rfl rfl (L4 rfl bB rfl rfl rr) (KM ?_)))))))
 have fb:=K4 (.bool true)
 refine KG (KJ ?_)
 refine K6 (t:=true) fb (fun _=>?_) (fun e=>by cases e)
 refine Lg (KG (KJ (Lm (KJ (KH (KR rfl rfl rfl bB (KI (iv 0) rfl rfl (KS rfl rfl rr) (KM ?_))))))))
 have fc:=K4 (iv 0)
 refine KG ?_
 refine QQ (γ:=Value×(Nat->Prop)) [(5,4),(6,4),(7,4),(9,4),(10,4)] [some 21,some 22,some 23,some 24,some 25,some 20,some 26,some 27,some 28,some 29,none] ⟨fun w_=>True,fun _=>False,fun g_ w_=>(PG w_ (g_.2) (g_.1) (SB ((Lh W 2:Nat):Int) ((Lh H 2:Nat):Int))/\KP bA LX (g_.2)),fun g_=>(g_.2),fun p_ w_=>Mz w_ p_ 59 [ac,ae,af,ai,.pointer none,.pointer none],fun g_ p_ w_=>Mz w_ p_ 59 [ac,ae,af,ai,g_.1,.pointer none]⟩ (Lf aa) (fun p_=>aa=p_) [fun g_=>iv ((2:Nat):Int),fun g_=>iv 0,fun g_=>iv ((Lh W 2:Nat):Int),fun g_=>iv ((Lh H 2:Nat):Int),fun g_=>.tuple #[g_.1,iv (MW ((Lh W 2:Nat):Int) ((Lh H 2:Nat):Int))],fun g_=>.tuple #[g_.1,iv (MW ((Lh W 2:Nat):Int) ((Lh H 2:Nat):Int))],fun g_=>g_.1,fun g_=>iv (MW ((Lh W 2:Nat):Int) ((Lh H 2:Nat):Int)),fun g_=>pt aa 4,fun g_=>pt aa 4,fun _=>undef] 4 10 none (undef,LX) aa (by kernel_rfl) (by kernel_rfl) (by kernel_rfl) (by kernel_rfl) ⟨.inr (.inr fun _ _=>rfl),⟨.inr (.inr fun _ _=>rfl),⟨.inr (.inr fun _ _=>rfl),⟨.inr (.inr fun _ _=>rfl),⟨.inr (.inl rfl),⟨.inl rfl,⟨.inl rfl,⟨.inl rfl,⟨.inr (.inr fun _ _=>rfl),⟨.inl rfl,⟨.inl rfl,trivial⟩⟩⟩⟩⟩⟩⟩⟩⟩⟩⟩ ⟨trivial,fun _ _ _ _ _ _=>trivial,fun _ _ _ z=>z.elim,fun g w w1 S1 h k a=>by obtain⟨b0_,g0_⟩:=h;exact⟨b0_.all k (fun i z=>a i z),g0_⟩,fun g w h i z=>by obtain⟨b0_,g0_⟩:=h;exact b0_.live i z,fun _ _ _ _ h k z=>h.all k z,fun _ _ h=>h.lt,fun _ _ _ _ _ h k z=>h.all k z,fun _ z=>z.elim,fun _ h=>.inl h.symm,fun _ _ z=>z⟩ (fun _ e=>by cases e) (fun _=>⟨rfl,cF⟩) ?_ ?_
 ·refine KV ?_ ?_
  ·refine Ln.one rfl rfl rfl rfl fun g_ p_ F_ w_ hR hout hD=>?_
   exact(KQ rfl ((hout 4 rfl (by decide)).trans bz) ⟨rfl,KO.refl _ _⟩)
  refine KV ?_ ?_
  ·refine Ln.one rfl rfl rfl rfl fun g_ p_ F_ w_ hR hout hD=>?_
   exact(KQ rfl ((hout 7 rfl (by decide)).trans fc) ⟨rfl,KO.refl _ _⟩)
  refine KV ?_ ?_
  ·refine Ln.one rfl rfl rfl rfl fun g_ p_ F_ w_ hR hout hD=>?_
   exact(KQ rfl ((hout 5 rfl (by decide)).trans cL) ⟨rfl,KO.refl _ _⟩)
  refine KV ?_ ?_
  ·refine Ln.one rfl rfl rfl rfl fun g_ p_ F_ w_ hR hout hD=>?_
   exact(KQ rfl ((hout 6 rfl (by decide)).trans cM) ⟨rfl,KO.refl _ _⟩)
  refine KV ?_ ?_
  ·refine Ln.call rfl rfl rfl rfl fun g_ p_ F_ w_ hR hout hD hP_=>?_
   have aj:F_ 23=iv ((Lh W 2:Nat):Int):=(hD.get 0 rfl rfl rfl).2 (by decide)
   have ak:F_ 24=iv ((Lh H 2:Nat):Int):=(hD.get 1 rfl rfl rfl).2 (by decide)
   exact(LH rfl rfl rfl (fun _ _=>by kernel_rfl) (K5 _) (Lk aj (Lk ak LR)) (Ui ((Lh W 2:Nat):Int) ((Lh H 2:Nat):Int)  _   ) (fun e_ w_ h_=>by obtain⟨x0_,x1_,he_,hk_,⟨b0_,g0_⟩⟩:=h_;exact⟨_,he_,⟨x0_,x1_⟩,rfl,hk_,⟨b0_,(KP.refl bA _).trans hR g0_⟩,fun b hb=>(g0_ b hb).elim (fun z=>z.elim) .inr⟩))
  refine KV ?_ ?_
  ·refine Ln.one rfl rfl rfl rfl fun g_ p_ F_ w_ hR hout hD=>?_
   have am:F_ 25 = .tuple #[g_.1,iv (MW ((Lh W 2:Nat):Int) ((Lh H 2:Nat):Int))]:=(hD.get 0 rfl rfl rfl).2 (by decide)
   exact(KQ rfl am ⟨rfl,KO.refl _ _⟩)
  refine KV ?_ ?_
  ·refine Ln.one rfl rfl rfl rfl fun g_ p_ F_ w_ hR hout hD=>?_
   have ab:F_ 20 = .tuple #[g_.1,iv (MW ((Lh W 2:Nat):Int) ((Lh H 2:Nat):Int))]:=(hD.get 0 rfl rfl rfl).2 (by decide)
   exact(LL rfl ab rfl ⟨rfl,KO.refl _ _⟩)
  refine KV ?_ ?_
  ·refine Ln.one rfl rfl rfl rfl fun g_ p_ F_ w_ hR hout hD=>?_
   have ab:F_ 20 = .tuple #[g_.1,iv (MW ((Lh W 2:Nat):Int) ((Lh H 2:Nat):Int))]:=(hD.get 0 rfl rfl rfl).2 (by decide)
   exact(LL rfl ab rfl ⟨rfl,KO.refl _ _⟩)
  refine KV ?_ ?_
  ·refine Ln.one rfl rfl rfl rfl fun g_ p_ F_ w_ hR hout hD=>?_
   have an:F_ 21=iv ((2:Nat):Int):=(hD.get 0 rfl rfl rfl).2 (by decide)
   exact(LV 2 (s:=2) rfl ((hout 3 rfl (by decide)).trans cC) an (by omega) Tryz.underlying59 (by omega) (by kernel_rfl) (by omega) ⟨rfl,KO.refl _ _⟩)
  refine KV ?_ ?_
  ·refine Ln.one rfl rfl rfl rfl fun g_ p_ F_ w_ hR hout hD=>?_
   have ao:F_ 28=pt aa 4:=(hD.get 0 rfl rfl rfl).2 (by decide)
   have ap:F_ 22=iv 0:=(hD.get 1 rfl rfl rfl).2 (by decide)
   exact(LV 0 (s:=1) rfl ao ap (by omega) Tryz.underlying58 (by omega) (by kernel_rfl) (by omega) ⟨rfl,KO.refl _ _⟩)
  refine KV ?_ ?_
  ·refine Ln.store rfl rfl rfl rfl fun g_ p_ F_ w_ hR hout hD hO_ hZ_ hQ_=>?_
   subst hO_
   have aq:F_ 29=pt aa 4:=(hD.get 0 rfl rfl rfl).2 (by decide)
   have ah:F_ 26=g_.1:=(hD.get 1 rfl rfl rfl).2 (by decide)
   exact PA rfl aq ah hZ_ rfl (hQ_.1).oneC (by kernel_rfl) fun w2_ b_ k_=>⟨rfl,k_,b_⟩
  exact Nk
 intro fd gD gE gF aK aC fe ff fg bC fh fk fm cN
 obtain⟨ar,bD⟩:=fd
 have cO:=cE.all aC (aA.symm p8 rfl)
 have cP:=cG.all aC aH
 have cQ:=cH.all aC aR
 have cR:=cI.all aC bo
 have cS:=cJ.all aC cB
 have cT:=cK.trans aC (fun i hi x=>((KP.ok (S:=fun _=>False) az K3) i hi x))
 obtain⟨aW,aX⟩:=ff
 replace aW:PG aK bD ar (SB ((Lh W 2:Nat):Int) ((Lh H 2:Nat):Int)):=aW
 replace aX:KP bA LX bD:=aX
 obtain⟨fo,fp,fq,ft,fu,fw⟩:=Vr aX cE cF cG cH cI cJ
 cases fe
 replace bC:Mz aK aa 59 [ac,ae,af,ai,ar,.pointer none]:=bC
 obtain⟨fx,fy,cU,fA,fB,fC,fD,fE⟩:=t8 cN 33 eX 2 eZ 3 cC 8 bv 4 bz 5 cL 6 cM 17 bB
 clear cN fm fk fh fg
 refine LC (KG (KH (KI (iv ((1:Nat):Int)) rfl rfl (LP rfl fE rfl (L6 (by omega) (by omega)) rr) (KI (iv ((1:Nat):Int)) rfl rfl (KQ rfl rfl rr) (KM ?_)))))
 have bE:=K4 (iv ((1:Nat):Int))
 refine KG (Mc (KJ (KH (KI (.bool true) rfl rfl (L4 rfl bE rfl rfl rr) (KM ?_)))))
 have fF:=K4 (.bool true)
 refine KG (KJ ?_)
 refine K6 (t:=true) fF (fun _=>?_) (fun e=>by cases e)
 refine Lg (KG (KJ (Lm (KJ (KH (KR rfl rfl rfl bE (KI (iv ((1:Nat):Int)) rfl rfl (KS rfl rfl rr) (KM ?_))))))))
 have fG:=K4 (iv ((1:Nat):Int))
 refine KG ?_
 refine QQ (γ:=Value×(Nat->Prop)) [(5,4),(6,4),(7,4),(9,4),(10,4)] [some 21,some 22,some 23,some 24,some 25,some 20,some 26,some 27,some 28,some 29,none] ⟨fun w_=>True,fun _=>False,fun g_ w_=>(PG w_ (g_.2) (g_.1) (SB ((Lh W 2:Nat):Int) ((Lh H 2:Nat):Int))/\KP aK LX (g_.2)),fun g_=>(g_.2),fun p_ w_=>Mz w_ p_ 59 [ac,ae,af,ai,ar,.pointer none],fun g_ p_ w_=>Mz w_ p_ 59 [ac,ae,af,ai,ar,g_.1]⟩ (Lf aa) (fun p_=>aa=p_) [fun g_=>iv ((2:Nat):Int),fun g_=>iv ((1:Nat):Int),fun g_=>iv ((Lh W 2:Nat):Int),fun g_=>iv ((Lh H 2:Nat):Int),fun g_=>.tuple #[g_.1,iv (MW ((Lh W 2:Nat):Int) ((Lh H 2:Nat):Int))],fun g_=>.tuple #[g_.1,iv (MW ((Lh W 2:Nat):Int) ((Lh H 2:Nat):Int))],fun g_=>g_.1,fun g_=>iv (MW ((Lh W 2:Nat):Int) ((Lh H 2:Nat):Int)),fun g_=>pt aa 4,fun g_=>pt aa 5,fun _=>undef] 4 10 none (undef,LX) aa (by kernel_rfl) (by kernel_rfl) (by kernel_rfl) (by kernel_rfl) ⟨.inr (.inr fun _ _=>rfl),⟨.inr (.inr fun _ _=>rfl),⟨.inr (.inr fun _ _=>rfl),⟨.inr (.inr fun _ _=>rfl),⟨.inr (.inl rfl),⟨.inl rfl,⟨.inl rfl,⟨.inl rfl,⟨.inr (.inr fun _ _=>rfl),⟨.inl rfl,⟨.inl rfl,trivial⟩⟩⟩⟩⟩⟩⟩⟩⟩⟩⟩ ⟨trivial,fun _ _ _ _ _ _=>trivial,fun _ _ _ z=>z.elim,fun g w w1 S1 h k a=>by obtain⟨b0_,g0_⟩:=h;exact⟨b0_.all k (fun i z=>a i z),g0_⟩,fun g w h i z=>by obtain⟨b0_,g0_⟩:=h;exact b0_.live i z,fun _ _ _ _ h k z=>h.all k z,fun _ _ h=>h.lt,fun _ _ _ _ _ h k z=>h.all k z,fun _ z=>z.elim,fun _ h=>.inl h.symm,fun _ _ z=>z⟩ (fun _ e=>by cases e) (fun _=>⟨rfl,bC⟩) ?_ ?_
 ·refine KV ?_ ?_
  ·refine Ln.one rfl rfl rfl rfl fun g_ p_ F_ w_ hR hout hD=>?_
   exact(KQ rfl ((hout 4 rfl (by decide)).trans fB) ⟨rfl,KO.refl _ _⟩)
  refine KV ?_ ?_
  ·refine Ln.one rfl rfl rfl rfl fun g_ p_ F_ w_ hR hout hD=>?_
   exact(KQ rfl ((hout 7 rfl (by decide)).trans fG) ⟨rfl,KO.refl _ _⟩)
  refine KV ?_ ?_
  ·refine Ln.one rfl rfl rfl rfl fun g_ p_ F_ w_ hR hout hD=>?_
   exact(KQ rfl ((hout 5 rfl (by decide)).trans fC) ⟨rfl,KO.refl _ _⟩)
  refine KV ?_ ?_
  ·refine Ln.one rfl rfl rfl rfl fun g_ p_ F_ w_ hR hout hD=>?_
   exact(KQ rfl ((hout 6 rfl (by decide)).trans fD) ⟨rfl,KO.refl _ _⟩)
  refine KV ?_ ?_
  ·refine Ln.call rfl rfl rfl rfl fun g_ p_ F_ w_ hR hout hD hP_=>?_
   have aj:F_ 23=iv ((Lh W 2:Nat):Int):=(hD.get 0 rfl rfl rfl).2 (by decide)
   have ak:F_ 24=iv ((Lh H 2:Nat):Int):=(hD.get 1 rfl rfl rfl).2 (by decide)
   exact(LH rfl rfl rfl (fun _ _=>by kernel_rfl) (K5 _) (Lk aj (Lk ak LR)) (Ui ((Lh W 2:Nat):Int) ((Lh H 2:Nat):Int)  _   ) (fun e_ w_ h_=>by obtain⟨x0_,x1_,he_,hk_,⟨b0_,g0_⟩⟩:=h_;exact⟨_,he_,⟨x0_,x1_⟩,rfl,hk_,⟨b0_,(KP.refl aK _).trans hR g0_⟩,fun b hb=>(g0_ b hb).elim (fun z=>z.elim) .inr⟩))
  refine KV ?_ ?_
  ·refine Ln.one rfl rfl rfl rfl fun g_ p_ F_ w_ hR hout hD=>?_
   have am:F_ 25 = .tuple #[g_.1,iv (MW ((Lh W 2:Nat):Int) ((Lh H 2:Nat):Int))]:=(hD.get 0 rfl rfl rfl).2 (by decide)
   exact(KQ rfl am ⟨rfl,KO.refl _ _⟩)
  refine KV ?_ ?_
  ·refine Ln.one rfl rfl rfl rfl fun g_ p_ F_ w_ hR hout hD=>?_
   have ab:F_ 20 = .tuple #[g_.1,iv (MW ((Lh W 2:Nat):Int) ((Lh H 2:Nat):Int))]:=(hD.get 0 rfl rfl rfl).2 (by decide)
   exact(LL rfl ab rfl ⟨rfl,KO.refl _ _⟩)
  refine KV ?_ ?_
  ·refine Ln.one rfl rfl rfl rfl fun g_ p_ F_ w_ hR hout hD=>?_
   have ab:F_ 20 = .tuple #[g_.1,iv (MW ((Lh W 2:Nat):Int) ((Lh H 2:Nat):Int))]:=(hD.get 0 rfl rfl rfl).2 (by decide)
   exact(LL rfl ab rfl ⟨rfl,KO.refl _ _⟩)
  refine KV ?_ ?_
  ·refine Ln.one rfl rfl rfl rfl fun g_ p_ F_ w_ hR hout hD=>?_
   have an:F_ 21=iv ((2:Nat):Int):=(hD.get 0 rfl rfl rfl).2 (by decide)
   exact(LV 2 (s:=2) rfl ((hout 3 rfl (by decide)).trans cU) an (by omega) Tryz.underlying59 (by omega) (by kernel_rfl) (by omega) ⟨rfl,KO.refl _ _⟩)
  refine KV ?_ ?_
  ·refine Ln.one rfl rfl rfl rfl fun g_ p_ F_ w_ hR hout hD=>?_
   have ao:F_ 28=pt aa 4:=(hD.get 0 rfl rfl rfl).2 (by decide)
   have ap:F_ 22=iv ((1:Nat):Int):=(hD.get 1 rfl rfl rfl).2 (by decide)
   exact(LV 1 (s:=1) rfl ao ap (by omega) Tryz.underlying58 (by omega) (by kernel_rfl) (by omega) ⟨rfl,KO.refl _ _⟩)
  refine KV ?_ ?_
  ·refine Ln.store rfl rfl rfl rfl fun g_ p_ F_ w_ hR hout hD hO_ hZ_ hQ_=>?_
   subst hO_
   have aq:F_ 29=pt aa 5:=(hD.get 0 rfl rfl rfl).2 (by decide)
   have ah:F_ 26=g_.1:=(hD.get 1 rfl rfl rfl).2 (by decide)
   exact PA rfl aq ah hZ_ rfl (hQ_.1).oneC (by kernel_rfl) fun w2_ b_ k_=>⟨rfl,k_,b_⟩
  exact Nk
 intro fH gH gI gJ cV av fI fJ fK bF fL fM fN cW
 obtain⟨aD,bG⟩:=fH
 have fO:=cO.all av (aA.symm p8 rfl)
 have cX:=cP.all av aH
 have cY:=cQ.all av aR
 have cZ:=cR.all av bo
 have c5:=cS.all av cB
 have c6:=aW.all av fp
 obtain⟨aY,aZ⟩:=fJ
 replace aY:PG cV bG aD (SB ((Lh W 2:Nat):Int) ((Lh H 2:Nat):Int)):=aY
 replace aZ:KP aK LX bG:=aZ
 obtain⟨fP,fQ,fR,fS,fT,fU⟩:=Vr aZ cO cP cQ cR cS aW
 cases fI
 replace bF:Mz cV aa 59 [ac,ae,af,ai,ar,aD]:=bF
 obtain⟨fV,c7,fW,fX,fY⟩:=t5 cW 33 fx 2 fy 3 cU 8 fA 17 bE
 clear cW fN fM fL fK
 refine LC (KG (KH (KI (iv ((2:Nat):Int)) rfl rfl (LP rfl fY rfl (L6 (by omega) (by omega)) rr) (KI (iv ((2:Nat):Int)) rfl rfl (KQ rfl rfl rr) (KM ?_)))))
 have fZ:=K4 (iv ((2:Nat):Int))
 refine KG (Mc (KJ (KH (KI (.bool false) rfl rfl (L4 rfl fZ rfl rfl rr) (KM ?_)))))
 have f6:=K4 (.bool false)
 refine KG (KJ ?_)
 refine K6 (t:=false) f6 (fun e=>by cases e) (fun _=>?_)
 refine Me (Ls (Ls (Mf (LC (KG (KH (KI (iv ((3:Nat):Int)) rfl rfl (LP rfl fX rfl (L6 (by omega) (by omega)) rr) (KI (iv ((3:Nat):Int)) rfl rfl (KQ rfl rfl rr) (KM ?_)))))))))
 have f7:=K4 (iv ((3:Nat):Int))
 refine KG (Mc (KJ (KH (KI (.bool false) rfl rfl (L4 rfl f7 rfl rfl rr) (KM ?_)))))
 have f8:=K4 (.bool false)
 refine KG (KJ ?_)
 refine K6 (t:=false) f8 (fun e=>by cases e) (fun _=>?_)
 refine Me (Ls (Ls (Mf (KG (KJ (KH (KI (.agg #[ac,ae,af,ai,ar,aD]) rfl rfl (KZ TF rfl fW bF rr) (Lj (us:=[ac,ae,af,ai,ar,aD]) TF rfl rfl rfl c7 rfl fO rfl (KX cX.one (KX cY.one (KX cZ.one (KX c5.one (KX c6.one (KX aY.one MG)))))) fun gL f9 aw=>?_))))))))
 have ga:=cX.all aw du
 have gb:=cY.all aw dQ
 have gc:=cZ.all aw et
 have gd:=c5.all aw eT
 have ge:=c6.all aw fo
 have gh:=aY.all aw fP
 have gi:=(cT.trans av (fun i hi x=>((KP.ok (S:=fun _=>False) az K3) i hi x))).trans aw (KP.ok (S:=fun _=>False) (KP.new K7 db) K3)
 refine KM ?_
 refine KG (Lb ?_)
 exact O2 (vs:=[ac,ae,af,ai,ar,aD]) TF fV rfl rfl c7 f9 ⟨ac,bd,ae,bg,af,bn,ai,bt,ar,bD,aD,bG,rfl,gi,⟨(by rw[← Sy ⟨hsd.1,hsd.2.1⟩ ⟨hsd.2.2.2.1,hsd.2.2.2.2.1⟩];exact ga),(KP.new bT aO)⟩,⟨(by rw[← Sy ⟨hsd.1,hsd.2.1⟩ ⟨hsd.2.2.2.1,hsd.2.2.2.2.1⟩];exact gb),(KP.new bY aQ)⟩,⟨(by rw[← Sy ⟨hsd.1,hsd.2.1⟩ ⟨hsd.2.2.2.1,hsd.2.2.2.2.1⟩];exact gc),(KP.new cn aU)⟩,⟨(by rw[← Sy ⟨hsd.1,hsd.2.1⟩ ⟨hsd.2.2.2.1,hsd.2.2.2.2.1⟩];exact gd),(KP.new cw aV)⟩,⟨(by rw[← Sy ⟨hsd.1,hsd.2.1⟩ ⟨hsd.2.2.2.1,hsd.2.2.2.2.1⟩];exact ge),(KP.new cK aX)⟩,⟨(by rw[← Sy ⟨hsd.1,hsd.2.1⟩ ⟨hsd.2.2.2.1,hsd.2.2.2.2.1⟩];exact gh),(KP.new cT aZ)⟩,dR.symm,eu.symm,eU.symm,fq.symm,fQ.symm,ew.symm,eV.symm,ft.symm,fR.symm,eW.symm,fu.symm,fS.symm,fw.symm,fT.symm,fU.symm⟩
end Go.Proofs.YtknjpdcpmpfklaaGreatDoor
set_option maxRecDepth 100000
namespace Go.Proofs.YtknjpdcpmpfklaaGreatDoor
open Go.RowKit
theorem XR{P:Program}{ops:Array Oper}{Q:Exit->Act->World->Prop}{n:Nat}(T:Vi ops n) :
  ∀ (fuel k:Nat) (listed:Array Bool) (a:Act) (w:World),n<=k->k<=ops.size->ops.size-k<=fuel->listed.size=ops.size->(∀ j,j<k->listed.getD j false=true)->(∀ j,k<=j->listed.getD j false=false) →
   wpListIn (V7 (some 0)) 0 P ops Q (ops.toList.drop k) a w->wpAnyIn (V7 (some 0)) 0 P .any ops Q fuel listed a w:=by
 have none_ready:∀ (listed:Array Bool),listed.size=ops.size->(∀ j,j<ops.size->listed.getD j false=true)->Region.ready .any ops listed=[]:=by
  intro listed hls hall
  cases hr:Region.ready .any ops listed with
  | nil=>rfl
  | cons y r =>
   have hy:y∈Region.ready .any ops listed:=by rw[hr];simp
   obtain⟨q1,q2,_⟩:=M2 hy
   have h1:=hall y q1
   rw[Pk _ y (by omega)] at q2
   rw[q2] at h1;cases h1
 intro fuel
 induction fuel with
 | zero =>
  intro k listed a w hn hk hf hls h1 h2 hw
  have hke:k=ops.size:=by omega
  subst hke
  rw[List.drop_of_length_le (by simp)] at hw
  exact⟨none_ready listed hls h1,hw⟩
 | succ fuel ih =>
  intro k listed a w hn hk hf hls h1 h2 hw
  by_cases hke:k=ops.size
  ·subst hke
   rw[List.drop_of_length_le (by simp)] at hw
   have hr:=none_ready listed hls h1
   exact⟨fun _=>hw,fun i hi=>by rw[hr] at hi;cases hi⟩
  ·have hlt:k<ops.size:=by omega
   have hok:ops[k]? = some ops[k]:=by simp[hlt]
   have hdrop:ops.toList.drop k=ops[k]::ops.toList.drop (k+1):=by
    rw[List.drop_eq_getElem_cons (by simpa using hlt)];simp
   rw[hdrop] at hw
   have hrk:k∈Region.ready .any ops listed:=X8 hlt hls (h2 k (Nat.le_refl _)) hok fun e he hb=>h1 _ (T.back k _ hok e he hb)
   refine⟨fun hr=>(by rw[hr] at hrk;cases hrk),fun i hi=>?_⟩
   obtain⟨q1,q2,o,ho,haft⟩:=M2 hi
   rw[Pk _ i (by omega)] at q2
   have hik:i=k:=by
    rcases Nat.lt_trichotomy i k with h|h|h
    ·rw[h1 i h] at q2;cases q2
    ·exact h
    ·obtain⟨e,he,hb,hon⟩:=T.line i o (by omega) ho
     have:=haft e he hb
     rw[hon,h2 (i-1) (by omega)] at this;cases this
   subst hik
   have next:∀ (a':Act) (w':World),wpListIn (V7 (some 0)) 0 P ops Q (ops.toList.drop (i+1)) a' w'->wpAnyIn (V7 (some 0)) 0 P .any ops Q fuel (listed.setIfInBounds i true) a' w':=by
    intro a' w' h'
    have hlsz:i<listed.size:=by omega
    refine ih (i+1) _ a' w' (by omega) (by omega) (by omega) (by simpa using hls) (fun j hj=>?_) (fun j hj=>?_) h'
    ·rw[Lt _ _ _ hlsz];split
     ·rfl
     ·exact h1 j (by omega)
    ·rw[Lt _ _ _ hlsz,if_neg (by omega)];exact h2 j (by omega)
   unfold wpListIn at hw
   unfold wpOpIn
   rw[hok]
   simp only
   split at hw
   ·rw[if_pos ‹_›]
    exact Oper.wpIn_mono next hw
   ·rw[if_neg ‹_›]
    exact⟨hw.1,next _ _ hw.2⟩
theorem Yq{P:Program}{ops:Array Oper}{Q:Exit->Act->World->Prop}{a0:Act}{w0:World}(n:Nat)(T:Vi ops n)(R:World->World->Prop)(D:List (Option Tmp))(G:Nat->Value->World->Prop)
  (hpl:plain a0.tmps.size 0 D (ops.toList.take n)=true) (hrf:∀ a,R a a) (htr:∀ a b c,R a b->R b c->R a c) (hst:∀ i v w w',G i v w->R w w'->G i v w') (hsteps:Steps P R D G a0 w0 0 (ops.toList.take n))
  (hend:∀ (v:Nat->Value) (w:World),R w0 w->(∀ i,i<n->G i (v i) w)->wpListIn (V7 (some 0)) 0 P ops Q (ops.toList.drop n) (Ms v 0 D a0) w) :
  ∀ (fuel:Nat) (listed:Array Bool) (v:Nat->Value) (a:Act) (w:World),Mid ops R D G a0 w0 v listed a w →
   (∀ (k:Nat) (o:Oper),ops[k]? = some o->listed.getD k false=true->∀ e∈o.after.toList,Region.binds .any e=true->listed.getD e.on false=true)->(∀ j,n<=j->listed.getD j false=false) →
   (List.range ops.size).countP (fun i => !listed.getD i false)<=fuel->wpAnyIn (V7 (some 0)) 0 P .any ops Q fuel listed a w:=by
 have hlt0:=T.lt
 obtain⟨hDl,hpa'⟩:=Si hpl
 have hlen:D.length=n:=by
  have:D.length=min n ops.size:=by simpa using hDl
  omega
 have hpa:∀ k o,k<n->ops.toList[k]? = some o->D[k]? = some o.dst/\(∀ d,o.dst=some d->d<a0.tmps.size/\∀ j,k<j->D[j]? ≠ some (some d)):=by
  intro k o hk ho
  have h:=hpa' k o (by rw[List.getElem?_take,if_pos hk];exact ho)
  exact⟨h.1,h.2.1⟩
 have hback:=T.back
 have fin:∀ (listed:Array Bool) (v:Nat->Value) (a:Act) (w:World),Mid ops R D G a0 w0 v listed a w->(∀ i,i<n->listed.getD i false=true)->wpListIn (V7 (some 0)) 0 P ops Q (ops.toList.drop n) a w:=by
  intro listed v a w hm hall
  have hp:=O0 v D 0 a0
  have ha:a=Ms v 0 D a0:=by
   have ht:a.tmps=(Ms v 0 D a0).tmps:=by
    apply Array.ext
    ·rw[hm.size,hp.1]
    ·intro t h1 h2
     have e:a.tmps.getD t undef=(Ms v 0 D a0).tmps.getD t undef:=by
      by_cases hmem:some t∈D
      ·obtain⟨j,hj⟩:=List.mem_iff_getElem?.1 hmem
       have hjs:j<n:=by rw[← hlen];exact(List.getElem?_eq_some_iff.1 hj).1
       have hjo:j<ops.size:=by omega
       obtain⟨g1,g2⟩:=hpa j ops[j] hjs (by simp[hjo])
       have hdst:ops[j].dst=some t:=by rw[hj] at g1;exact(Option.some.inj g1).symm
       obtain⟨k1,k2⟩:=g2 t hdst
       rw[hm.here j t (hall j hjs) hj,hp.2.2.2 j t hj k2 k1,Nat.zero_add]
      ·rw[hp.2.2.1 t hmem,hm.out t (fun j _ hj=>hmem (List.mem_of_getElem? hj))]
     simpa [Array.getD_eq_getD_getElem?,h1,h2] using e
   have hd:a.defers=(Ms v 0 D a0).defers:=by rw[hm.defers,hp.2.1]
   cases a
   cases hq:Ms v 0 D a0
   rw[hq] at ht hd
   simp only at ht hd
   rw[ht,hd]
  rw[ha]
  exact hend v w hm.rel (fun i hi=>hm.good i (hall i hi))
 intro fuel
 induction fuel with
 | zero =>
  intro listed v a w hm _ htl hcount
  exfalso
  have hz:(List.range ops.size).countP (fun i => !listed.getD i false)=0:=by omega
  rw[List.countP_eq_zero] at hz
  have:=hz n (by simpa using hlt0)
  rw[htl n (Nat.le_refl _)] at this
  exact this rfl
 | succ fuel ih =>
  intro listed v a w hm hcl htl hcount
  refine⟨fun hr=>?_,fun i hi=>?_⟩
  ·have:=Qn hback hr hm.ls n hlt0
   rw[htl n (Nat.le_refl _)] at this;cases this
  obtain⟨hlt,hnl,o,ho,haft⟩:=M2 hi
  have hlsz:i<listed.size:=by rw[hm.ls];exact hlt
  have hnl':listed.getD i false=false:=by simpa [Array.getD,hlsz] using hnl
  have hin:i<=n:=by
   rcases Nat.lt_or_ge n i with h|h
   ·obtain⟨e,he,hb,hon⟩:=T.line i o h ho
    have:=haft e he hb
    rw[hon,htl (i-1) (by omega)] at this;cases this
   ·exact h
  by_cases hine:i=n
  ·-- all others are done
   have hall:∀ j,j<n->listed.getD j false=true:=by
    suffices h:∀ m j,j+m=n->j<n->listed.getD j false=true by
     intro j hj;exact h (n-j) j (by omega) hj
    intro m
    induction m using Nat.strongRecOn with
    | _ m ihm =>
     intro j hm2 hj
     obtain⟨j',o',h1,h2,h3,e,he,hb,hon⟩:=T.cov j hj
     by_cases hj':j'=n
     ·subst hj'
      rw[← hine] at h3
      rw[ho] at h3
      cases h3
      rw[← hon];exact haft e he hb
     ·have hl:=ihm (n-j') (by omega) j' (by omega) (by omega)
      rw[← hon];exact hcl j' o' h3 hl e he hb
   have hw:=fin listed v a w hm hall
   have hfu:ops.size-n<=fuel+1:=by
    have hle:(List.range' n (ops.size-n)).countP (fun i => !listed.getD i false)<=(List.range ops.size).countP (fun i => !listed.getD i false):=by
     apply List.Sublist.countP_le
     rw[List.range_eq_range',show ops.size=n+(ops.size-n) by omega,← List.range'_append_1]
     simp
    have he:(List.range' n (ops.size-n)).countP (fun i => !listed.getD i false)=ops.size-n:=by
     rw[List.countP_eq_length.2]
     ·simp
     ·intro x hx
      have:=(List.mem_range'_1.1 hx).1
      rw[htl x this];rfl
    omega
   have hall2:=XR (P:=P) (Q:=Q) T (fuel+1) n listed a w (Nat.le_refl _) (by omega) hfu hm.ls hall htl hw
   exact hall2.2 i hi
  have hin':i<n:=by omega
  obtain⟨g1,g2⟩:=hpa i o hin' (by simpa using ho)
  have hstep:=hsteps.at i o (by rw[List.getElem?_take,if_pos hin'];simpa using ho)
  rw[Nat.zero_add] at hstep
  have hout:∀ t,some t∉D->a.eval (.tmp t)=a0.eval (.tmp t):=fun t ht=>hm.out t (fun j _ hj=>ht (List.mem_of_getElem? hj))
  have hdeps:Q3 D G a w o.after.toList:=Q3.mk fun e he hb d hd=>by
   have hl:=haft e he hb
   have hlt':=hback i o ho e he hb
   have hDe:D[e.on]? = some (some d):=by
    have hlt2:e.on<D.length:=by rw[hlen];omega
    simp only[List.getD,List.getElem?_eq_getElem hlt2,Option.getD_some] at hd
    rw[List.getElem?_eq_getElem hlt2,hd]
   have:=hm.here e.on d hl hDe
   show G e.on (a.tmps.getD d undef) w
   rw[this];exact hm.good e.on hl
  obtain⟨s1,s2⟩:=hstep a w hm.rel hout hdeps
  -- what is left when it answers x in the world w'
  have next:∀ (x:Value) (w':World),G i x w'->R w w'->wpAnyIn (V7 (some 0)) 0 P .any ops Q fuel (listed.setIfInBounds i true) (a.put o.dst x) w':=by
   intro x w' hG hR
   have hcnt:(List.range ops.size).countP (fun j => !(listed.setIfInBounds i true).getD j false)<=fuel:=by
    have h1:(List.range ops.size).countP (fun j => !(listed.setIfInBounds i true).getD j false)<(List.range ops.size).countP (fun j => !listed.getD j false):=by
     have hmemi:i∈List.range ops.size:=by simpa using hlt
     have key:∀ (l:List Nat),i∈l->(∀ j,(!(listed.setIfInBounds i true).getD j false)=true->(!listed.getD j false)=true)->l.countP (fun j => !(listed.setIfInBounds i true).getD j false)<l.countP (fun j => !listed.getD j false):=by
      intro l
      induction l with
      | nil=>intro h;cases h
      | cons y r ihl =>
       intro hy himp
       have hle:r.countP (fun j => !(listed.setIfInBounds i true).getD j false)<=r.countP (fun j => !listed.getD j false):=List.countP_mono_left fun j _ hj=>himp j hj
       by_cases hyi:y=i
       ·subst hyi
        have e1:(!(listed.setIfInBounds y true).getD y false)=false:=by rw[Lt _ _ _ hlsz,if_pos rfl];rfl
        have e2:(!listed.getD y false)=true:=by rw[hnl'];rfl
        rw[List.countP_cons,List.countP_cons]
        simp only[e1,e2,if_true,Bool.false_eq_true,if_false]
        omega
       ·have hir:i∈r:=by
         rcases List.mem_cons.1 hy with h|h
         ·exact absurd h.symm hyi
         ·exact h
        have:=ihl hir himp
        rw[List.countP_cons,List.countP_cons]
        have e3:(listed.setIfInBounds i true).getD y false=listed.getD y false:=by rw[Lt _ _ _ hlsz,if_neg hyi]
        rw[e3];omega
     refine key _ hmemi fun j hj=>?_
     rw[Lt _ _ _ hlsz] at hj
     by_cases hji:j=i
     ·rw[if_pos hji] at hj;cases hj
     ·rwa [if_neg hji] at hj
    omega
   have hmid:Mid ops R D G a0 w0 (fun j=>if j=i then x else v j) (listed.setIfInBounds i true) (a.put o.dst x) w':=by
    refine⟨?_,by simpa using hm.ls,?_,htr _ _ _ hm.rel hR,?_,?_,?_⟩
    ·rw[← hm.size];cases o.dst <;> simp[Act.put]
    ·rw[← hm.defers];cases o.dst <;> rfl
    ·intro t ht
     have hold:=hm.out t (fun j hj=>ht j (by rw[Lt _ _ _ hlsz];split <;> first|rfl|exact hj))
     have hne:o.dst≠some t:=by
      intro e
      exact ht i (by rw[Lt _ _ _ hlsz,if_pos rfl]) (by rw[g1,e])
     rw[← hold]
     cases hd:o.dst with
     | none=>rfl
     | some d =>
      have:d≠t:=fun e=>hne (by rw[hd,e])
      simp only[Act.put,Array.getD_eq_getD_getElem?,Array.getElem?_setIfInBounds_ne this]
    ·intro j d hj hD
     by_cases hji:j=i
     ·subst hji
      have hd:o.dst=some d:=by rw[g1] at hD;exact Option.some.inj hD
      have hsz:d<a.tmps.size:=by rw[hm.size];exact(g2 d hd).1
      simp[hd,Act.put,Array.getD_eq_getD_getElem?,hsz]
     ·rw[Lt _ _ _ hlsz,if_neg hji] at hj
      have hold:=hm.here j d hj hD
      rw[if_neg hji,← hold]
      cases hd:o.dst with
      | none=>rfl
      | some y =>
       have hne:y≠d:=by
        rintro rfl
        rw[hd] at g1
        rcases Nat.lt_or_gt_of_ne hji with hlt2|hgt2
        ·have hjn:j<n:=by rw[← hlen];exact(List.getElem?_eq_some_iff.1 hD).1
         have hjs:j<ops.size:=by omega
         obtain⟨k1,k2⟩:=hpa j ops[j] hjn (by simp[hjs])
         have hdst:ops[j].dst=some y:=by rw[hD] at k1;exact(Option.some.inj k1).symm
         exact(k2 y hdst).2 i hlt2 g1
        ·exact(g2 y hd).2 j hgt2 hD
       simp only[Act.put,Array.getD_eq_getD_getElem?,Array.getElem?_setIfInBounds_ne hne]
    ·intro j hj
     by_cases hji:j=i
     ·subst hji;simpa using hG
     ·rw[Lt _ _ _ hlsz,if_neg hji] at hj
      simp only[if_neg hji]
      exact hst _ _ _ _ (hm.good j hj) hR
   refine ih _ _ _ _ hmid ?_ ?_ hcnt
   ·intro k o' hk hl e he hb
    rw[Lt _ _ _ hlsz] at hl ⊢
    by_cases hee:e.on=i
    ·rw[if_pos hee]
    ·rw[if_neg hee]
     by_cases hki:k=i
     ·subst hki
      rw[ho] at hk
      cases hk
      exact haft e he hb
     ·rw[if_neg hki] at hl
      exact hcl k o' hk hl e he hb
   ·intro j hj
    rw[Lt _ _ _ hlsz,if_neg (by omega)];exact htl j hj
  have hwant:Region.wanted o (yielded ops a.tmps)=PH D o a:=by
   unfold Region.wanted PH
   cases hg:o.guard with
   | none=>rfl
   | some p =>
    obtain⟨j,want⟩:=p
    simp only[yielded]
    by_cases hj:j<n
    ·have hjo:j<ops.size:=by omega
     obtain⟨k1,k2⟩:=hpa j ops[j] hj (by simp[hjo])
     have hDj:D.getD j none=ops[j].dst:=by simp[List.getD,k1]
     rw[hDj]
     simp only[Array.getElem?_eq_getElem hjo,Option.bind_some]
     cases hd:ops[j].dst with
     | none=>simp
     | some d =>
      have hsz:d<a.tmps.size:=by rw[hm.size];exact(k2 d hd).1
      simp only[Option.bind_some,Array.getElem?_eq_getElem hsz]
      have he:a.eval (.tmp d)=a.tmps[d]:=by simp[Act.eval,Array.getD,hsz]
      rw[he]
      cases a.tmps[d] <;> simp
    ·exact absurd (T.guards i o hin' ho _ hg) hj
  unfold wpOpIn
  rw[ho]
  simp only[hwant]
  cases hgo:PH D o a with
  | true =>
   simp only[if_true]
   refine Le.wpIn (l:=some 0) ?_
   have:=s1 hgo
   revert this
   unfold Le
   generalize (execOp a.eval o).run P w=res
   intro h
   cases res with
   | ok n w' =>
    cases n <;> simp only at h ⊢ <;> first
     | exact next _ _ h.1 h.2
     | exact h.elim
     | exact Calls.mono h (fun e w'' ⟨y,he,hk⟩=>⟨y,he,next _ _ hk.1 hk.2⟩)
   | halt y w'=>exact h.elim
  | false =>
   simp only[Bool.false_eq_true,if_false]
   exact⟨fun f _=>Xa _ f,next undef w (s2 hgo) (hrf w)⟩
theorem UM{P:Program}{id:Nat}{ops:Array Oper}{Q:Exit->Act->World->Prop}{a0:Act}{w0:World}(n:Nat)(D:List (Option Tmp))(Gs:List Pd)
  (hm:P.follows .mixedOrders=true) (hta:ST ops.toList n=true) (hpl:plain a0.tmps.size 0 D (ops.toList.take n)=true)
  (hsteps:Steps P (KO (fun _=>False)) D (Q8 Gs) a0 w0 0 (ops.toList.take n))
  (hend:∀ (v:Nat->Value) (w:World),KO (fun _=>False) w0 w->(∀ i,i<n->Q8 Gs i (v i) w)->wpListIn (V7 (some 0)) 0 P ops Q (ops.toList.drop n) (Ms v 0 D a0) w):(Code.region id ops true).wpIn (V7 (some 0)) 0 P Q a0 w0:=by
 refine wpIn_region_any hm ?_
 have T:=SL hta
 have hno:∀ j,(Array.replicate ops.size false).getD j false=false:=by
  intro j
  by_cases h:j<ops.size <;> simp[Array.getD,h]
 refine Yq n T (KO (fun _=>False)) D (Q8 Gs) hpl (fun a=>KO.refl _ a) (fun _ _ _ h k=>h.trans k (fun _ _ x=>x)) (fun i _ _ _ h k=>(Gs.getD i Pd.any).stays _ _ _ h k) hsteps hend ops.size _ (fun _=>undef) a0 _ ⟨rfl,by simp,rfl,(KO.refl _ _).drew,fun _ _=>rfl,fun j _ hj=>?_,fun j hj=>?_⟩ ?_ ?_ ?_
 ·rw[hno] at hj;cases hj
 ·rw[hno] at hj;cases hj
 ·intro k o _ hl;rw[hno] at hl;cases hl
 ·intro j _;exact hno j
 ·exact Nat.le_trans (List.countP_le_length) (by simp)
section
variable {P:Program} {N:Nat} {F:Nat->Value} {w:World} {Q:Exit->(Nat->Value)->World->Prop}
theorem azQ{id:Nat}{ops:Array Oper}(n:Nat)(D:List (Option Tmp))(Gs:List Pd)(hm:P.follows .mixedOrders=true)(hta:ST ops.toList n=true)(hpl:plain N 0 D (ops.toList.take n)=true)(hsteps:Rt N P D Gs F w 0 (ops.toList.take n))
  (hend:∀ (v:Nat->Value) (F':Nat->Value) (w':World),KO (fun _=>False) w w'->(∀ i,i<n->Q8 Gs i (v i) w')->(∀ t,F' t=Ql v 0 D F t)->wl (some 0) P N ops Q (ops.toList.drop n) F' w'):wq none P N (.region id ops true) Q F w:=by
 intro a ha
 refine UM n D Gs hm hta (by rw[ha.size];exact hpl) (hsteps.steps ha) fun v w' hk hG=>?_
 exact hend v _ w' hk hG (fun _=>rfl) _ (OM v D 0 F a ha (Oj hpl))
end
end Go.Proofs.YtknjpdcpmpfklaaGreatDoor
set_option maxRecDepth 100000
namespace Go.Proofs.YtknjpdcpmpfklaaGreatDoor
open Go.RowKit
def Wz(w:World)(T:Nat->Prop)(p:Nat)(W H R B:Int):Prop:=T=Lf p/\Mz w p 23 [.int .i64 W,.int .i64 H,.int .i64 R,.int .i64 B]
theorem Wz.live{w:World}{T:Nat->Prop}{p:Nat}{W H R B:Int}(h:Wz w T p W H R B):Pe w T:=by
 obtain⟨rfl,h⟩:=h;exact LT h.lt
theorem Wz.all{S:Nat->Prop}{w w':World}{T:Nat->Prop}{p:Nat}{W H R B:Int}(h:Wz w T p W H R B)(k:KO S w w')(ha:KK T S):Wz w' T p W H R B:=by
 obtain⟨rfl,h⟩:=h;exact⟨rfl,h.all k (ha p rfl)⟩
instance {w w':World} {T:Nat->Prop} {p:Nat} {W H R B:Int}:Cr w w' (Wz w T p W H R B) (Wz w' T p W H R B):=⟨fun h k=>h.all k KK.none⟩
instance {w:World} {T:Nat->Prop} {p:Nat} {W H R B:Int}:Lv w (Wz w T p W H R B) (T):=⟨fun h=>h.live⟩
theorem Wz.cells{w:World}{T:Nat->Prop}{p:Nat}{W H R B:Int}(h:Wz w T p W H R B):OP w T:=by
 obtain⟨rfl,h⟩:=h;exact h.cells
theorem Wz.row{A B':World}{row:Option Nat}{n p:Nat}{T:Nat->Prop}{W H R B:Int}(h:Wz A T p W H R B)(hg:A.grownBy B' row)(hr:QT n A row):Wz B' T p W H R B:=h.all (Pw hg) (h.cells.apart hr)
theorem WI(W H R B:Int)(w0:World) :
  Calls Tryz.prog 29 #[.agg #[.int .i64 (W),.int .i64 (H),.int .i64 (R),.int .i64 (B)]] w0 fun e w'=>∃ (v1:Nat) (T1:Nat->Prop),e = .returned (.func (.func 60) #[] #[.pointer (some ⟨v1,0,none⟩)])/\KO (fun _=>False) w0 w'/\(Wz w' T1 v1 (W) (H) (R) (B)/\KP w0 LX T1):=by
 refine Lr (args:=[.agg #[iv W,iv H,iv R,iv B]]) 4 Tryz.func29 rfl rfl (Nat.le_of_ble_eq_true rfl) ?_
 have K0:=KO.refl (fun _=>False) w0
 refine KJ (KH (Lz (vs:=[iv W,iv H,iv R,iv B]) rfl rfl rfl rfl fun p1 w2 B4 g5 k3=>?_))
 refine KI (Value.nilFunc) rfl rfl (KS rfl rfl rr) (KM ?_)
 have ah:=K4 (undef)
 have ai:=K4 (pt p1 0)
 refine KG (KJ (KH (KI (.func (.func 60) #[] #[pt p1 0]) rfl rfl (aEo rfl ai rr) (KI (.func (.func 60) #[] #[pt p1 0]) rfl rfl (KS rfl rfl rr) (KM ?_)))))
 have aj:=K4 (.func (.func 60) #[] #[pt p1 0])
 refine KG (Lb ?_)
 exact Lu (v:=.func (.func 60) #[] #[pt p1 0]) ah rfl rfl aj ⟨p1,(Lf p1),rfl,(K0.tr k3),⟨⟨rfl,B4⟩,(KP.new K0 g5)⟩⟩
structure Sd (W H:Int) where
  p:Nat
  i:Nat
  hp:p<3
  hi:i<Lh W p*Lh H p
def Sd.m{W H:Int}(x:Sd W H):Nat:=N4 W H x.p+x.i
def Sd.enc{W H:Int}(x:Sd W H):List Value:=[.int .i64 ((x.m:Nat):Int),.agg #[.int .i64 ((x.p:Nat):Int),.int .i64 (pX (Lh W x.p) x.i),.int .i64 (pY (Lh W x.p) x.i)]]
def UY(W H:Int)(p:Nat):Nat->List (Sd W H)
 | 0=>[]
 | n+1=>UY W H p n++(if h:p<3/\n<Lh W p*Lh H p then [⟨p,n,h.1,h.2⟩] else [])
def M8(W H:Int):Nat->List (Sd W H)
 | 0=>[]
 | p+1=>M8 W H p++UY W H p (Lh W p*Lh H p)
theorem Sq{W H:Int}{p n:Nat}(hp:p<3)(hn:n<Lh W p*Lh H p):UY W H p (n+1)=UY W H p n ++ [⟨p,n,hp,hn⟩]:=by
 rw[UY,dif_pos ⟨hp,hn⟩]
theorem ZG{W H:Int}{p:Nat}(hp:p<3):∀ n,n<=Lh W p*Lh H p->(UY W H p n).length=n:=by
 intro n
 induction n with
 | zero=>intro _;rfl
 | succ n ih=>intro h;rw[Sq hp (by omega),List.length_append,ih (by omega)];rfl
theorem aAS{W H:Int}:∀ p,p<=3->(M8 W H p).length=N4 W H p:=by
 intro p
 induction p with
 | zero=>intro _;rfl
 | succ p ih=>intro h;rw[M8,List.length_append,ih (by omega),ZG (by omega) _ (Nat.le_refl _)];rfl
theorem aCj{W H:Int}{p m:Nat}:∀ n,UY W H p m <+: UY W H p (m+n):=by
 intro n
 induction n with
 | zero=>exact List.prefix_refl _
 | succ n ih=>exact ih.trans (List.prefix_append _ _)
theorem aAZ{W H:Int}{p:Nat}:∀ n,M8 W H p <+: M8 W H (p+n):=by
 intro n
 induction n with
 | zero=>exact List.prefix_refl _
 | succ n ih=>exact ih.trans (List.prefix_append _ _)
theorem aDL{W H:Int}{p n:Nat}(hp:p<3)(hn:n<Lh W p*Lh H p):(M8 W H p++UY W H p n) ++ [⟨p,n,hp,hn⟩] <+: M8 W H 3:=by
 rw[List.append_assoc,← Sq hp hn]
 have h1:UY W H p (n+1) <+: UY W H p (Lh W p*Lh H p):=by
  have:=aCj (W:=W) (H:=H) (p:=p) (m:=n+1) (Lh W p*Lh H p-(n+1))
  rwa [show n+1+(Lh W p*Lh H p-(n+1))=Lh W p*Lh H p by omega] at this
 have h2:M8 W H (p+1) <+: M8 W H 3:=by
  have:=aAZ (W:=W) (H:=H) (p:=p+1) (3-(p+1))
  rwa [show p+1+(3-(p+1))=3 by omega] at this
 exact(List.prefix_append_right_inj _ |>.2 h1).trans h2
theorem Sg{W:Int}{p:Nat}(h:8<=W):0<Lh W p:=by unfold Lh;split <;> omega
theorem aza{W H:Int}(hW:W<=64)(hH:H<=64):∀ p,p<4->N4 W H p<=256*p:=by
 intro p
 induction p with
 | zero=>intro _;exact Nat.le_refl 0
 | succ p ih =>
  intro hp
  have h1:=ih (by omega)
  have h2:Lh W p*Lh H p<=16*16:=Nat.mul_le_mul (OB hW) (OB hH)
  show N4 W H p+Lh W p*Lh H p<=_
  omega
theorem aCU(W H R B:Int)(p:Nat)(l:Nat)(J Jx:List (Sd W H)->World->Prop)(T_j:Nat->Prop)(w0:World)(hs:Pg W H R B)(h_p:Mz w0 p 23 [.int .i64 (W),.int .i64 (H),.int .i64 (R),.int .i64 (B)])(ap_p:KK T_j (Lf p))
  (hY:∀ (pre:List (Sd W H)) (x:Sd W H) (W1:World),J pre W1->pre.length<1000->pre ++ [x] <+: M8 W H 3->YieldAt Fence.wide 0 Tryz.prog l ((Sd.enc) x).toArray W1 fun e W'=>(e = .returned (.bool true)/\J (pre ++ [x]) W'/\KO T_j W1 W')\/(e = .returned (.bool false)/\Jx (pre ++ [x]) W')) (h_j:Jat w0 T_j J []) :
  Calls Tryz.prog 60 #[.func (.yield l) #[] #[],.pointer (some ⟨p,0,none⟩)] w0 fun e w'=>(∃ v,e = .returned v)/\(J (M8 W H 3) w'\/∃ pre,Jx pre w'):=by
 refine Lr (args:=[.func (.yield l) #[] #[],pt p 0]) 39 Tryz.func60 rfl rfl (Nat.le_of_ble_eq_true rfl) ?_
 have hsd:=Q4 hs
 have hof:=aza (W:=W) (H:=H) hsd.2.1 hsd.2.2.2.2.1
 refine KJ (KH (KI (iv 0) rfl rfl (KS rfl rfl rr) (KM ?_)))
 have s3:=K4 (.func (.yield l) #[] #[])
 have s4:=K4 (pt p 0)
 have s5:=K4 (undef)
 have s6:=K4 (iv 0)
 refine KG (KJ (KH (KI (iv 0) rfl rfl (KQ rfl rfl rr) (KM ?_))))
 have aO:=K4 (iv 0)
 refine KG (Lm (MZ (fun nn FF ww=>∃ (q:Nat),(q<=3)/\nn=3-q/\FF 0 = .func (.yield l) #[] #[]/\FF 1=pt p 0/\FF 39=undef/\FF 3=iv ((N4 W H q:Nat):Int)/\FF 8=iv ((q:Nat):Int)/\KO T_j w0 ww/\Jat ww T_j J (M8 W H q)/\Mz ww p 23 [iv W,iv H,iv R,iv B]) (3-0) ⟨0,by omega,rfl,s3,s4,s5,s6,aO,(KO.refl T_j w0),h_j,h_p⟩ ?_))
 rintro bI bJ aP ⟨q,i18,hn17,aQ,ap,aq,aR,ae,aS,ar,au⟩
 refine KJ (KH (KI (.bool (decide (((q:Nat):Int)<3))) rfl rfl (L4 rfl ae rfl rfl rr) (KM ?_)))
 have aT:=K4 (.bool (decide (((q:Nat):Int)<3)))
 refine KG (KJ ?_)
 refine K6 aT (fun c34=>?_) (fun c34=>?_)
 ·replace c34:=of_decide_eq_true c34
  refine Lg (KG (KJ (Lm (KJ (KH (KR rfl rfl rfl ae (KI (iv ((q:Nat):Int)) rfl rfl (KS rfl rfl rr) (KM ?_))))))))
  have av:=K4 (iv ((q:Nat):Int))
  refine KG (KJ (KH (KI (.agg #[iv W,iv H,iv R,iv B]) rfl rfl (KZ My rfl ap au rr) (KR rfl rfl rfl av (LW rfl rfl rfl rfl rfl (fun _ _=>by kernel_rfl) (Lk rfl (Lk rfl LR)) (Su W H R B q  _ (by assumption)  ) fun bK af=>?_)))))
  have aU:=au.all af id
  refine KI (.tuple #[iv ((Lh W q:Nat):Int),iv ((Lh H q:Nat):Int)]) rfl rfl (KQ rfl rfl rr) (KI (iv ((Lh W q:Nat):Int)) rfl rfl (LL rfl rfl rfl rr) (KI (iv ((Lh H q:Nat):Int)) rfl rfl (LL rfl rfl rfl rr) (KI (iv ((Lh W q:Nat):Int)) rfl rfl (KS rfl rfl rr) (KI (iv ((Lh H q:Nat):Int)) rfl rfl (KS rfl rfl rr) (KM ?_)))))
  have aw:=K4 (iv ((Lh W q:Nat):Int))
  have aV:=K4 (iv ((Lh H q:Nat):Int))
  refine KG (KJ ?_)
  have hw0:=Sg (W:=W) (p:=q) hsd.1
  have hw1:=OB (W:=W) (p:=q) hsd.2.1
  have hn1:=OB (W:=H) (p:=q) hsd.2.2.2.2.1
  have hwn:Lh W q*Lh H q<=16*16:=Nat.mul_le_mul hw1 hn1
  have hofq:=hof q (by omega)
  refine KH (KR rfl rfl rfl aw (KR rfl rfl rfl aV (KI (iv ((Lh W q*Lh H q:Nat):Int)) rfl rfl (Nj rfl rfl rfl (L6 (by rw[Int.natCast_mul]) (by omega)) rr) (KI (iv 0) rfl rfl (KQ rfl rfl rr) (KM ?_)))))
  have aW:=K4 (iv ((Lh W q*Lh H q:Nat):Int))
  have aX:=K4 (iv 0)
  refine KG (Lm ?_)
  have aY:=ar.all ((KO.refl (fun _=>False) aP).trans af (fun i hi x=>x.elim)) KK.none
  refine MZ (fun nn FF ww=>∃ (n:Nat),(n<=(Lh W q*Lh H q))/\nn=(Lh W q*Lh H q)-n/\FF 0 = .func (.yield l) #[] #[]/\FF 1=pt p 0/\FF 4=iv ((q:Nat):Int)/\FF 5=iv ((Lh W q:Nat):Int)/\FF 8=iv ((q:Nat):Int)/\FF 19=iv ((Lh W q*Lh H q:Nat):Int)/\FF 39=undef/\FF 3=iv (((N4 W H q+n):Nat):Int)/\FF 20=iv ((n:Nat):Int)/\KO T_j w0 ww/\Jat ww T_j J (M8 W H q++UY W H q n)/\Mz ww p 23 [iv W,iv H,iv R,iv B]) ((Lh W q*Lh H q)-0) ⟨0,by omega,rfl,aQ,ap,av,aw,ae,aW,aq,aR,aX,(aS.tr af),(by rw[show UY W H q 0=[] from rfl,List.append_nil];exact aY),aU⟩ ?_
  rintro bL bM aZ ⟨n,i74,hn73,ah,az,aA,ai,aB,aC,aD,aj,ak,aE,aF,aG⟩
  refine KJ (KH (KI (.bool (decide (((n:Nat):Int)<((Lh W q*Lh H q:Nat):Int)))) rfl rfl (L4 rfl ak aC rfl rr) (KM ?_)))
  have a8:=K4 (.bool (decide (((n:Nat):Int)<((Lh W q*Lh H q:Nat):Int))))
  refine KG (KJ ?_)
  refine K6 a8 (fun aa=>?_) (fun aa=>?_)
  ·replace aa:=of_decide_eq_true aa
   refine Lg (KG (KJ (Lm (KJ (KH (KR rfl rfl rfl ak (KI (iv ((n:Nat):Int)) rfl rfl (KS rfl rfl rr) (KM ?_))))))))
   have aH:=K4 (iv ((n:Nat):Int))
   refine KG (KJ (KJ ?_))
   have hdv:=Nat.div_le_self n (Lh W q)
   refine azQ 10 [some 23,some 24,some 25,some 26,some 27,some 28,some 29,some 30,some 31,some 32] [Pd.eq (.func (.yield l) #[] #[]),Pd.eq (iv (((N4 W H q+n):Nat):Int)),Pd.eq (iv ((q:Nat):Int)),Pd.eq (iv ((n:Nat):Int)),Pd.eq (iv ((Lh W q:Nat):Int)),Pd.eq (iv (pX (Lh W q) n)),Pd.eq (iv ((n:Nat):Int)),Pd.eq (iv ((Lh W q:Nat):Int)),Pd.eq (iv (pY (Lh W q) n)),Pd.eq (.agg #[iv ((q:Nat):Int),iv (pX (Lh W q) n),iv (pY (Lh W q) n)])] (by kernel_rfl) (by kernel_rfl) (by kernel_rfl) ?_ ?_
   ·refine KL ?_ ?_
    ·refine La.one rfl fun F_ w_ hR hout hD=>?_
     exact(KQ rfl ((hout 0 rfl (by decide)).trans ah) ⟨rfl,KO.refl _ _⟩)
    refine KL ?_ ?_
    ·refine La.one rfl fun F_ w_ hR hout hD=>?_
     exact(KQ rfl ((hout 3 rfl (by decide)).trans aj) ⟨rfl,KO.refl _ _⟩)
    refine KL ?_ ?_
    ·refine La.one rfl fun F_ w_ hR hout hD=>?_
     exact(KQ rfl ((hout 4 rfl (by decide)).trans aA) ⟨rfl,KO.refl _ _⟩)
    refine KL ?_ ?_
    ·refine La.one rfl fun F_ w_ hR hout hD=>?_
     exact(KQ rfl ((hout 7 rfl (by decide)).trans aH) ⟨rfl,KO.refl _ _⟩)
    refine KL ?_ ?_
    ·refine La.one rfl fun F_ w_ hR hout hD=>?_
     exact(KQ rfl ((hout 5 rfl (by decide)).trans ai) ⟨rfl,KO.refl _ _⟩)
    refine KL ?_ ?_
    ·refine La.one rfl fun F_ w_ hR hout hD=>?_
     have a9:F_ 26=iv ((n:Nat):Int):=(hD.get 0 rfl rfl rfl)
     have ba:F_ 27=iv ((Lh W q:Nat):Int):=(hD.get 1 rfl rfl rfl)
     exact(XN rfl a9 ba (by first|decide|omega) (Xw n (Lh W q)) ⟨rfl,KO.refl _ _⟩)
    refine KL ?_ ?_
    ·refine La.one rfl fun F_ w_ hR hout hD=>?_
     exact(KQ rfl ((hout 7 rfl (by decide)).trans aH) ⟨rfl,KO.refl _ _⟩)
    refine KL ?_ ?_
    ·refine La.one rfl fun F_ w_ hR hout hD=>?_
     exact(KQ rfl ((hout 5 rfl (by decide)).trans ai) ⟨rfl,KO.refl _ _⟩)
    refine KL ?_ ?_
    ·refine La.one rfl fun F_ w_ hR hout hD=>?_
     have bb:F_ 29=iv ((n:Nat):Int):=(hD.get 0 rfl rfl rfl)
     have bc:F_ 30=iv ((Lh W q:Nat):Int):=(hD.get 1 rfl rfl rfl)
     exact(Pv rfl bb bc (by first|decide|omega) (L6 (WT n (Lh W q)) (by omega)) ⟨rfl,KO.refl _ _⟩)
    refine KL ?_ ?_
    ·refine La.one rfl fun F_ w_ hR hout hD=>?_
     have bd:F_ 25=iv ((q:Nat):Int):=(hD.get 0 rfl rfl rfl)
     have be:F_ 28=iv (pX (Lh W q) n):=(hD.get 1 rfl rfl rfl)
     have bf:F_ 31=iv (pY (Lh W q) n):=(hD.get 2 rfl rfl rfl)
     exact(LZ (l':=[(0,iv ((q:Nat):Int)),(1,iv (pX (Lh W q) n)),(2,iv (pY (Lh W q) n))]) (cells:=#[iv ((q:Nat):Int),iv (pX (Lh W q) n),iv (pY (Lh W q) n)]) rfl (S7 bd (S7 be (S7 bf Rv))) (by kernel_rfl) rfl ⟨rfl,KO.refl _ _⟩)
    exact L0
   intro bN am bO an ac ab
   have bg:=aG.all an id
   obtain⟨bh,bi,bj,bl,bm,bn,aI,bo,bp⟩:=t9 ab 0 ah 1 az 4 aA 5 ai 8 aB 19 aC 39 aD 3 aj 20 ak
   have bq:am 23 = .func (.yield l) #[] #[]:=(ab 23).trans (ac 0 (by decide))
   have bt:am 24=iv (((N4 W H q+n):Nat):Int):=(ab 24).trans (ac 1 (by decide))
   have bu:am 32 = .agg #[iv ((q:Nat):Int),iv (pX (Lh W q) n),iv (pY (Lh W q) n)]:=(ab 32).trans (ac 9 (by decide))
   clear ac ab
   have aJ:=aF.all ((KO.refl (fun _=>False) aZ).trans an (fun i hi x=>x.elim)) KK.none
   refine az7 rfl rfl rfl rfl bq rfl (Lk bt (Lk bu LR)) (hY (M8 W H q++UY W H q n) (⟨q,n,by omega,by omega⟩) _ aJ.1 (by rw[List.length_append,aAS q (by omega),ZG (by omega) n (by omega)];omega) (aDL (by omega) (by omega))) ?_
   rintro _ bQ (⟨rfl,j135,ao⟩ | ⟨rfl,bv⟩)
   ·refine⟨_,rfl,?_⟩
    have bz:=aJ.next ao.size j135
    have bA:=bg.all ao (ap_p.symm p rfl)
    refine KI (.bool false) rfl rfl (L9 rfl rfl rfl rr) (KM ?_)
    have bB:=K4 (.bool false)
    refine KG ?_
    refine K6 (t:=false) bB (fun e=>by cases e) (fun _=>?_)
    refine Lg (KG (KH (KR rfl rfl rfl bo (KI (iv (((N4 W H q+n)+1:Nat):Int)) rfl rfl (LP rfl rfl rfl (L6 (by omega) (by omega)) rr) (KI (iv (((N4 W H q+n)+1:Nat):Int)) rfl rfl (KS rfl rfl rr) (KM ?_))))))
    have bC:=K4 (iv (((N4 W H q+n)+1:Nat):Int))
    refine LC (KG (KH (KI (iv ((n+1:Nat):Int)) rfl rfl (LP rfl bp rfl (L6 (by omega) (by omega)) rr) (KI (iv ((n+1:Nat):Int)) rfl rfl (KQ rfl rfl rr) (KM ?_)))))
    have bD:=K4 (iv ((n+1:Nat):Int))
    exact KG ⟨((Lh W q*Lh H q)-(n+1)),by omega,n+1,by omega,rfl,bh,bi,bj,bl,bm,bn,aI,bC,bD,((aE.tr an).trans ao (fun _ _ x=>x)),(by rw[Sq (by omega) (by omega),← List.append_assoc];exact bz),bA⟩
   ·refine⟨_,rfl,?_⟩
    refine KI (.bool true) rfl rfl (L9 rfl rfl rfl rr) (KM ?_)
    have bE:=K4 (.bool true)
    refine KG ?_
    refine K6 (t:=true) bE (fun _=>?_) (fun e=>by cases e)
    refine Lb (Lq (NT (Lq (Lq (NT (NT (Lq (Lq (NT ?_)))))))))
    exact WX aI rfl ⟨⟨_,rfl⟩,Or.inr ⟨_,bv⟩⟩
  ·replace aa:=of_decide_eq_false aa
   refine Me (Ls (Ls ?_))
   have bF:(Lh W q*Lh H q)=n:=by omega
   subst bF
   refine Mf (LC (KG (KH (KI (iv ((q+1:Nat):Int)) rfl rfl (LP rfl aB rfl (L6 (by omega) (by omega)) rr) (KI (iv ((q+1:Nat):Int)) rfl rfl (KQ rfl rfl rr) (KM ?_))))))
   have bG:=K4 (iv ((q+1:Nat):Int))
   exact KG ⟨(3-(q+1)),by omega,q+1,by omega,rfl,ah,az,aD,aj,bG,aE,aF,aG⟩
 ·replace c34:=of_decide_eq_false c34
  refine Me (Ls (Ls ?_))
  have bH:3=q:=by omega
  subst bH
  refine Mf ?_
  exact XO aq rfl ⟨⟨_,rfl⟩,Or.inl (ar.1)⟩
theorem Z0(W H R B:Int)(p:Nat)(w:World)(hs:Pg W H R B)(h1:Mz w p 23 [.int .i64 W,.int .i64 H,.int .i64 R,.int .i64 B]) :
  SeqStopsK Fence.wide 1 Tryz.prog 60 #[.pointer (some ⟨p,0,none⟩)] (fun x:Sd W H=>x.enc.toArray) (KO (fun i=>i≠p)) (fun xs=>xs=M8 W H 3) (fun xs=>xs <+: M8 W H 3) 1000 w:=by
 intro l J Jx W' hB hJ hJx hY h0
 have k:=Wh hB
 refine callsIn_wide.2 ((aCU W H R B p l J (fun pre W1=>Jx pre W1/\pre <+: M8 W H 3) (fun i=>i≠p) W' hs (h1.all k id) (fun i h e=>h e) (fun pre x W1 hj hl hp=>?_) ⟨h0,hJ⟩).mono ?_)
 ·obtain⟨fn,t,a,b,hy,hR⟩:=hY pre x W1 hj hl
  exact⟨fn,t,a,b,hy,hR.mono (fun e w' h=>h.imp id (fun ⟨h1,h2⟩=>⟨h1,h2,hp⟩))⟩
 ·rintro e w' ⟨hv,h⟩
  exact⟨hv,h.elim (fun h=>.inl ⟨_,rfl,h⟩) (fun ⟨pre,h,hp⟩=>.inr ⟨pre,hp,h⟩)⟩
end Go.Proofs.YtknjpdcpmpfklaaGreatDoor
set_option maxRecDepth 100000
namespace Go.Proofs.YtknjpdcpmpfklaaGreatDoor
open Go.RowKit
structure QSt where
  f:Nat->VF×VF
  s:Option Nat
  o:List Ch
  e:Int
def QSt.at(q:QSt)(p:Nat):XG:=⟨(q.f p).1,(q.f p).2,q.s⟩
def OR{W H:Int}(l:List Nat)(k:Int)(q:QSt)(x:Sd W H):QSt :=
  if q.e=0 then
    (if (Ma l k (Lh W x.p) x.i (q.at x.p)).2.1=0 then
      ⟨fun p=>if p=x.p then ((RQ l k (Lh W x.p) x.i (q.at x.p)).a,(RQ l k (Lh W x.p) x.i (q.at x.p)).b) else q.f p,(RQ l k (Lh W x.p) x.i (q.at x.p)).s,q.o ++ [Qr l k (Lh W x.p) x.i (q.at x.p)],0⟩
     else ⟨q.f,q.s,q.o,(Ma l k (Lh W x.p) x.i (q.at x.p)).2.1⟩)
  else q
def aBN(W H:Int):QSt:=⟨fun p=>(Qz ((Lh W p:Nat):Int) ((Lh H p:Nat):Int),Qz ((Lh W p:Nat):Int) ((Lh H p:Nat):Int)),some 0,[],0⟩
def K2(l:List Nat)(k W H:Int)(pre:List (Sd W H)):QSt:=pre.foldl (OR l k) (aBN W H)
theorem Zz{l:List Nat}{k W H:Int}(pre:List (Sd W H))(x:Sd W H):K2 l k W H (pre ++ [x])=OR l k (K2 l k W H pre) x:=by
 unfold K2;rw[List.foldl_append];rfl
theorem aBk{l:List Nat}{k W H:Int}{pre:List (Sd W H)}{x:Sd W H}{v:Nat}(hv:x.p=v)(hq:(K2 l k W H pre).e=0)
  (hc:(Ma l k (Lh W v) x.i ((K2 l k W H pre).at v)).2.1=0) :
  (K2 l k W H (pre ++ [x])).s=(RQ l k (Lh W v) x.i ((K2 l k W H pre).at v)).s/\(K2 l k W H (pre ++ [x])).o=(K2 l k W H pre).o ++ [Qr l k (Lh W v) x.i ((K2 l k W H pre).at v)] ∧
  (K2 l k W H (pre ++ [x])).f v=((RQ l k (Lh W v) x.i ((K2 l k W H pre).at v)).a,(RQ l k (Lh W v) x.i ((K2 l k W H pre).at v)).b) ∧
  (∀ p,p≠v->(K2 l k W H (pre ++ [x])).f p=(K2 l k W H pre).f p)/\(K2 l k W H (pre ++ [x])).e=0:=by
 subst hv
 rw[Zz]
 have e:OR l k (K2 l k W H pre) x=_:=(if_pos hq).trans (if_pos hc)
 rw[e]
 exact⟨rfl,rfl,if_pos rfl,fun p hp=>if_neg hp,rfl⟩
theorem Zn{l:List Nat}{k W H:Int}{pre:List (Sd W H)}{x:Sd W H}{v:Nat}(hv:x.p=v)(hq:(K2 l k W H pre).e=0)
  (hc:(Ma l k (Lh W v) x.i ((K2 l k W H pre).at v)).2.1≠0):(K2 l k W H (pre ++ [x])).e=(Ma l k (Lh W v) x.i ((K2 l k W H pre).at v)).2.1:=by
 subst hv
 rw[Zz]
 have e:OR l k (K2 l k W H pre) x=_:=(if_pos hq).trans (if_neg hc)
 rw[e]
theorem YT{l:List Nat}{k W H:Int}(pre:List (Sd W H)):(K2 l k W H pre).o.length<=pre.length:=by
 have key:∀ (pre:List (Sd W H)) (q:QSt),(pre.foldl (OR l k) q).o.length<=q.o.length+pre.length:=by
  intro pre
  induction pre with
  | nil=>intro q;exact Nat.le_refl _
  | cons x r ih =>
   intro q
   rw[List.foldl_cons]
   refine Nat.le_trans (ih _) ?_
   have:(OR l k q x).o.length<=q.o.length+1:=by
    unfold OR
    split
    ·split
     ·simp
     ·exact Nat.le_succ _
    ·exact Nat.le_succ _
   rw[List.length_cons];omega
 have:=key pre (aBN W H)
 rw[show (aBN W H).o.length=0 from rfl,Nat.zero_add] at this
 exact this
theorem VR{W H:Int}{l:List Nat}{k:Int}:∀ (xs:List (Sd W H)) (q:QSt),q.e≠0->xs.foldl (OR l k) q=q:=by
 intro xs
 induction xs with
 | nil=>intro q _;rfl
 | cons x r ih =>
  intro q h
  rw[List.foldl_cons,show OR l k q x=q from if_neg h]
  exact ih q h
theorem aAi{W H:Int}{l:List Nat}{k:Int}{p:Nat}(hp:p<3)(q:QSt)(hq:q.e=0):∀ n,n<=Lh W p*Lh H p →
  ((((UY W H p n).foldl (OR l k) q).e=0->Sz l k (Lh W p) (Lh W p*Lh H p-n) n (((UY W H p n).foldl (OR l k) q).at p) ((UY W H p n).foldl (OR l k) q).o=Sz l k (Lh W p) (Lh W p*Lh H p) 0 (q.at p) q.o) ∧
  (((UY W H p n).foldl (OR l k) q).e≠0->(Sz l k (Lh W p) (Lh W p*Lh H p) 0 (q.at p) q.o).2.1=((UY W H p n).foldl (OR l k) q).e) ∧
  ∀ p',p'≠p->((UY W H p n).foldl (OR l k) q).f p'=q.f p'):=by
 intro n
 induction n with
 | zero=>intro _;exact⟨fun _=>rfl,fun h=>absurd hq h,fun _ _=>rfl⟩
 | succ n ih =>
  intro hn
  obtain⟨h1,h2,h3⟩:=ih (by omega)
  rw[Sq hp (by omega),List.foldl_append,List.foldl_cons,List.foldl_nil]
  generalize ((UY W H p n).foldl (OR l k) q)=q' at h1 h2 h3 ⊢
  by_cases he:q'.e=0
  ·by_cases hc:(Ma l k (Lh W p) n (q'.at p)).2.1=0
   ·have e:OR l k q' (⟨p,n,hp,by omega⟩:Sd W H)=_:=(if_pos he).trans (if_pos hc)
    rw[e]
    refine⟨fun _=>?_,fun h=>absurd rfl h,fun p' hp'=>(if_neg hp').trans (h3 p' hp')⟩
    have h1':=h1 he
    rw[show Lh W p*Lh H p-n=(Lh W p*Lh H p-(n+1))+1 by omega,Sf hc] at h1'
    have ea:QSt.at ⟨fun p'=>if p'=p then ((RQ l k (Lh W p) n (q'.at p)).a,(RQ l k (Lh W p) n (q'.at p)).b) else q'.f p',(RQ l k (Lh W p) n (q'.at p)).s,q'.o ++ [Qr l k (Lh W p) n (q'.at p)],0⟩ p=YD l k (Lh W p) n (q'.at p):=by
     unfold QSt.at
     simp only[if_true]
     exact(W5 hc).2
    refine Eq.trans ?_ h1'
    show Sz l k (Lh W p) _ (n+1) (QSt.at ⟨fun p'=>if p'=p then ((RQ l k (Lh W p) n (q'.at p)).a,(RQ l k (Lh W p) n (q'.at p)).b) else q'.f p',(RQ l k (Lh W p) n (q'.at p)).s,q'.o ++ [Qr l k (Lh W p) n (q'.at p)],0⟩ p) (q'.o ++ [Qr l k (Lh W p) n (q'.at p)])=_
    rw[ea,(W5 hc).1]
   ·have e:OR l k q' (⟨p,n,hp,by omega⟩:Sd W H)=_:=(if_pos he).trans (if_neg hc)
    rw[e]
    refine⟨fun h=>absurd h hc,fun _=>?_,fun p' hp'=>h3 p' hp'⟩
    have h1':=h1 he
    rw[show Lh W p*Lh H p-n=(Lh W p*Lh H p-(n+1))+1 by omega,UT hc] at h1'
    rw[← h1']
  ·rw[show OR l k q' (⟨p,n,hp,by omega⟩:Sd W H)=q' from if_neg he]
   exact⟨fun h=>absurd h he,h2,h3⟩
theorem ZM{W H:Int}{l:List Nat}{k:Int}:∀ p,p<=3 →
  ((K2 l k W H (M8 W H p)).e=0->Nw l k W H p=((K2 l k W H (M8 W H p)).o,0,(K2 l k W H (M8 W H p)).s)) ∧
  ((K2 l k W H (M8 W H p)).e≠0->(Nw l k W H p).2.1=(K2 l k W H (M8 W H p)).e) ∧
  ((K2 l k W H (M8 W H p)).e=0->∀ p',p<=p'->(K2 l k W H (M8 W H p)).f p'=(aBN W H).f p'):=by
 intro p
 induction p with
 | zero=>intro _;exact⟨fun _=>rfl,fun h=>absurd rfl h,fun _ _ _=>rfl⟩
 | succ p ih =>
  intro hp
  obtain⟨h1,h2,h3⟩:=ih (by omega)
  have ef:K2 l k W H (M8 W H (p+1))=(UY W H p (Lh W p*Lh H p)).foldl (OR l k) (K2 l k W H (M8 W H p)):=by
   unfold K2;rw[M8,List.foldl_append]
  rw[ef]
  generalize K2 l k W H (M8 W H p)=q at h1 h2 h3 ⊢
  by_cases he:q.e=0
  ·obtain⟨r1,r2,r3⟩:=aAi (W:=W) (H:=H) (l:=l) (k:=k) (by omega) q he (Lh W p*Lh H p) (Nat.le_refl _)
   have hpl:=h1 he
   have hz:(Nw l k W H p).2.1=0:=by rw[hpl]
   have hrun:Nw l k W H (p+1)=Sz l k (Lh W p) (Lh W p*Lh H p) 0 (q.at p) q.o:=by
    rw[Se hz,hpl]
    unfold W6 QSt.at
    rw[show (Qz ((Lh W p:Nat):Int) ((Lh H p:Nat):Int))=(q.f p).1 from by rw[h3 he p (Nat.le_refl _)];rfl]
    rw[show (q.f p).2=(q.f p).1 from by rw[h3 he p (Nat.le_refl _)];rfl]
   refine⟨fun hz'=>?_,fun hz'=>?_,fun _ p' hp'=>?_⟩
   ·rw[hrun,← r1 hz',Nat.sub_self];rfl
   ·rw[hrun];exact r2 hz'
   ·rw[r3 p' (by omega)];exact h3 he p' (by omega)
  ·rw[VR _ _ he]
   refine⟨fun h=>absurd h he,fun _=>?_,fun h=>absurd h he⟩
   rw[TG (by rw[h2 he];exact he)];exact h2 he
theorem aCZ{W H:Int}{l:List Nat}{k:Int}{pre:List (Sd W H)}(h:pre <+: M8 W H 3)(he:(K2 l k W H pre).e≠0):(K2 l k W H (M8 W H 3)).e=(K2 l k W H pre).e:=by
 obtain⟨r,h⟩:=h
 rw[← h]
 unfold K2 at he ⊢
 rw[List.foldl_append,VR _ _ he]
theorem N2{W H R B K Q D F:Int}{l:List Nat}{pre:List (Sd W H)}(hm:Qy W H R B K Q D F)(h:pre <+: M8 W H 3)(he:(K2 l K W H pre).e≠0):ME l W H R B K Q D F=([],(K2 l K W H pre).e):=by
 have e:=aCZ h he
 have h2:=(ZM (W:=W) (H:=H) (l:=l) (k:=K) 3 (Nat.le_refl _)).2.1 (by rw[e];exact he)
 rw[e] at h2
 rw[N8 hm,Tv (Nat.le_refl 3) (by rw[h2];exact he),h2]
theorem Ye{W H R B K Q D F:Int}{l:List Nat}(hm:Qy W H R B K Q D F)(he:(K2 l K W H (M8 W H 3)).e=0) :
  (Oa l (K2 l K W H (M8 W H 3)).s≠0->ME l W H R B K Q D F=([],130))/\(Oa l (K2 l K W H (M8 W H 3)).s=0->ME l W H R B K Q D F=((K2 l K W H (M8 W H 3)).o,0)):=by
 have h2:=(ZM (W:=W) (H:=H) (l:=l) (k:=K) 3 (Nat.le_refl _)).1 he
 have hz:(Nw l K W H 3).2.1=0:=by rw[h2]
 refine⟨fun hd=>?_,fun hd=>?_⟩
 ·rw[N8 hm,Ue hz (by rw[h2];exact hd)]
 ·rw[N8 hm,Xe hz (by rw[h2];exact hd),h2]
end Go.Proofs.YtknjpdcpmpfklaaGreatDoor
set_option maxRecDepth 100000
namespace Go.Proofs.YtknjpdcpmpfklaaGreatDoor
open Go.RowKit
theorem Ww{α:Type}{P:Program}{N:Nat}{Q:Exit->(Nat->Value)->World->Prop}{F:Nat->Value}{w:World}{g:Operand}{ps:Array Tmp}{assign body:Code}{gf:Nat}{lb:Array Value}
  {encs:α->List Value} {U:Nat->Prop} {S Sp:List α->Prop} {M:Nat}
  (hg:ev (MN N F) g = .func (.func gf) #[] lb) (eg:∀ args w,(callFunc gf args).run P w = .ok (.enter gf args) w)
  (hseq:SeqStopsK Fence.wide 1 P gf lb (fun x=>(encs x).toArray) (KO U) S Sp M w) (hU:∀ i,w.heap.size<=i->U i)
  (pl:List Tmp) (hpl:ps=pl.toArray) (hps:∀ x,(encs x).length=pl.length) (hpN:(pl.all fun p=>Nat.blt p N)=true)
  (I Ix:List α->World->Prop) (hI:OwnFrom w.heap.size I) (hIx:OwnFrom w.heap.size Ix) (h0:I [] w) (Ax:α->(Nat->Value)->World->Prop) (hAx:∀ x FF,OwnFrom w.heap.size (fun (_:Unit) W=>Ax x FF W))
  (hassign:∀ l pre x W,I pre W->wq (some (l+1)) P N assign (asP w.heap.size (KO U) (I pre) (Ax x) W) (aCJ N F (pl.zip (encs x))) W)
  (hbody:∀ (l:Nat) (pre:List α) (x:α) (F':Nat->Value) (W:World),I pre W->Ax x F' W->pre.length<M->wq (some (l+1)) P N body (aCY w.heap.size (KO U) (I (pre ++ [x])) (Ix (pre ++ [x])) W) F' W)
  (hdone:∀ (D:Nat) (xs:List α) (W:World),w.heap.size<=D->S xs->I xs W->W.heap[D]? = some (.deferred (some []))->Q .normal (up F N (Oi (D::Oc (F N)))) W)
  (hstop:∀ (D:Nat) (pre:List α) (W:World),w.heap.size<=D->Sp pre->Ix pre W->W.heap[D]? = some (.deferred (some []))->Q .ret (up F N (Oi (D::Oc (F N)))) W) :
  wq none P N (.rangeFunc g ps assign body) Q F w:=by
 subst hpl
 intro a ha
 refine wpIn_wide.2 ((wpIn_wide (n:=2)).1 ?_)
 refine wpIn_rangeFunc_ownH rfl (by decide) (gf:=gf) (lb:=lb) (by rw[ha.eval];exact hg) trivial eg hseq
  (fun h k=>h.trans k (fun _ _ x=>x)) (fun W l o o' hl ho hc hw=>?_) (Below.refl _ _) (fun x=>by simp[hps]) I (aCL Ix) hI (azC hIx) h0
  (fun x a' W=>∃ F',Fr N F' a'/\Ax x F' W) (fun x a' s W W' row h hg hr=>?_) ?_ ?_ ?_ ?_
 ·exact(KO.refl U W).grown (grownBy_putObj' W l o') (fun k e hk=>by cases e;exact hU _ hl)
 ·obtain⟨F',hF,hx⟩:=h
  exact⟨F',hF,hAx x F' s W W' row hx hg hr⟩
 ·intro l pre x W K hi hK
  have hz:((pl.toArray.zip (encs x).toArray).foldl (fun t (p,v)=>t.setIfInBounds p v) a.tmps)=(pl.zip (encs x)).foldl (fun t p=>t.setIfInBounds p.1 p.2) a.tmps:=by simp
  rw[hz]
  have hf:Fr N (aCJ N F (pl.zip (encs x))) { tmps:=(pl.zip (encs x)).foldl (fun t p=>t.setIfInBounds p.1 p.2) a.tmps,defers:=[] } :=
   Fr.rounds _ _ _ (ha.last undef [] rfl) (aBX pl _ hpN)
  refine wpIn_mono (hassign l pre x W hi _ hf) ?_
  rintro e a' w' ⟨F',hF,hq⟩
  cases e <;> first
   | (obtain⟨h1,h2,h3,h4⟩:=hq;exact hK a' _ h1 h2 h3 ⟨F',hF,h4⟩)
   | exact hq.elim
 ·rintro l pre x a' W _ _ hi ⟨F',hF,hx⟩ hlt
  refine wpIn_mono (hbody l pre x F' W hi hx hlt a' hF) ?_
  rintro e a'' w' ⟨F'',_,hq⟩
  cases e <;> first|exact hq|exact hq.elim
 ·intro D xs W hD hS hi hd
  exact⟨_,ha.mark D,hdone D xs W hD hS hi hd⟩
 ·intro D c pre W hD hSp h hd
  cases c <;> first
   | exact wpIn_ret ⟨_,ha.mark D,hstop D pre W hD hSp h hd⟩
   | exact h.elim
end Go.Proofs.YtknjpdcpmpfklaaGreatDoor
